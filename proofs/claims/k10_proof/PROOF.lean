import PyProof.Rows.All
import Wide.All
import OpenK.AllK
import Wide.FinOn
import Lean
import PyProof.EqAt
import PyProof.EqKinds
import PyProof.TupleCall
import PySem.Challenge.RW_warnloop_k10_whole_any_order_one_rest
set_option linter.all false
set_option Elab.async false
set_option maxRecDepth 100000
set_option maxHeartbeats 4000000
abbrev YA:=PySem.Value→PySem.Shared→Prop
abbrev YH:=Unit→PySem.Shared→Prop
abbrev YB:=PySem.Str→Option PySem.Value
abbrev YC:=List (PySem.Addr×PySem.Obj)
abbrev YD:=PySem.W.Frag
abbrev YI:=Array (Option PySem.Value)
abbrev YE:=List PySem.Value
abbrev YF:=List PySem.Str
abbrev YJ:=List PySem.Expr
abbrev YK:=Array PySem.DictEntry
local macro_rules|`(tactic|trivial)=>`(tactic|decide +kernel)
open PySem.W (instObj lookIn plainGet hasDictIn findIn isFn makesIn emptyDict keepIn kitOne kia_one fnOf codeIn nsIn mg_of kat_cons mg_none_of)
abbrev Qaa:=@PyProof.Rows.slot_tupleiter_next
abbrev Qab:=@PyProof.Rows.slot_tuple_getitem
abbrev Qac:=@PySem.F.slot_dict_itemiterator_next
abbrev Qad:=@PySem.F.slot_dict_keyiterator_next
abbrev Qae:=@PyProof.Rows.callWith_type1
abbrev Qaf:=@Array.getElem?_eq_some_iff
abbrev Qag:=@List.getElem?_eq_some_iff
abbrev Qah:=@Classical.byContradiction
abbrev Qai:=@List.drop_eq_getElem_cons
abbrev Qaj:=@List.pairwise_iff_getElem
abbrev Qak:=@List.getElem?_eq_getElem
abbrev Qal:=@PySem.F.slot_list_append
abbrev Qam:=@PySem.F.type_list_append
abbrev Qan:=@PySem.F.slot_list_extend
abbrev Qao:=@PySem.F.type_list_extend
abbrev Qap:=@PySem.F.plainAttrs_list
abbrev Qaq:=@PySem.wpAny_callSpecial?_slot
abbrev Qar:=@List.filter_cons_of_neg
abbrev Qas:=@List.filter_cons_of_pos
abbrev Qat:=@PySem.wpAny_getItem_str_slice
abbrev Qau:=@List.pairwise_singleton
abbrev Qav:=@PySem.Heap.get?_push_of_some
abbrev Qaw:=@Option.map_eq_some_iff
abbrev Qax:=@List.find?_cons_of_neg
abbrev Qay:=@List.find?_cons_of_pos
abbrev Qaz:=@PySem.Heap.get?_update_other
abbrev QaA:=@List.mem_append_right
abbrev QaB:=@List.length_singleton
abbrev QaC:=@PySem.F.slot_dict_get
abbrev QaD:=@PySem.Heap.get?_update_self
abbrev QaE:=@List.mem_of_getElem?
abbrev QaF:=@List.mem_cons_of_mem
abbrev QaG:=@List.mem_append_left
abbrev QaH:=@List.getElem?_of_mem
abbrev QaI:=@PySem.Heap.get?_push_size
abbrev QaJ:=@beq_eq_false_iff_ne
abbrev QaK:=@List.flatMap_append
abbrev QaL:=@List.map_congr_left
abbrev QaM:=@Array.length_toList
abbrev QaN:=@PySem.mem_of_lookup
abbrev QaO:=@PySem.Heap.SameBut.update
abbrev QaP:=@List.length_append
abbrev QaQ:=@List.mem_cons_self
abbrev QaR:=@List.set_cons_zero
abbrev QaS:=@List.set_cons_succ
abbrev QaT:=@Bool.false_ne_true
abbrev QaV:=@Nat.lt_of_lt_of_le
abbrev QaW:=@List.mem_singleton
abbrev QaX:=@PySem.wpAny_pyIter_tuple
abbrev QaY:=@PySem.wpAny_setField_rec
abbrev QaZ:=@decide_eq_true_iff
abbrev Qba:=@Int.emod_lt_of_pos
abbrev Qbb:=@List.filter_append
abbrev Qbc:=@PySem.tupleKind_room_in1
abbrev Qbd:=@PySem.wpAny_Call_Name_kw
abbrev Qbe:=@List.size_toArray
abbrev Qbf:=@List.append_assoc
abbrev Qbg:=@List.getElem?_map
abbrev Qbh:=@Int.toNat_natCast
abbrev Qbi:=@List.flatMap_cons
abbrev Qbj:=@PySem.wpAny_truthy_bool
abbrev Qbk:=@PySem.wpAny_newObj_type
abbrev Qbl:=@of_decide_eq_true
abbrev Qbm:=@List.length_range
abbrev Qbn:=@PySem.wpAny_pyIter_list
abbrev Qbo:=@List.take_length
abbrev Qbp:=@List.length_cons
abbrev Qbq:=@List.length_take
abbrev Qbr:=@List.not_mem_nil
abbrev Qbs:=@PySem.wpAny_call_entry
abbrev Qbt:=@List.length_drop
abbrev Qbu:=@Nat.lt_succ_self
abbrev Qbv:=@Bool.and_eq_true
abbrev Qbw:=@List.mem_flatMap
abbrev Qbx:=@List.length_map
abbrev Qby:=@List.map_append
abbrev Qbz:=@List.mem_append
abbrev QbA:=@PySem.PassesOwn.never
abbrev QbB:=@decide_eq_false
abbrev QbC:=@List.append_nil
abbrev QbD:=@Option.some.inj
abbrev QbF:=@List.mem_filter
abbrev QbG:=@List.nodup_cons
abbrev QbH:=@Bool.eq_iff_iff
abbrev QbJ:=@PySem.wpAny_passesOwn
abbrev QbK:=@Nat.not_lt_zero
abbrev QbL:=@Int.emod_nonneg
abbrev QbM:=@List.find?_cons
abbrev QbN:=@decide_eq_true
abbrev QbO:=@PySem.Heap.size_push
abbrev QbP:=@List.nodup_nil
abbrev QbQ:=@PySem.wpAny_seqItems
abbrev QbR:=@List.mem_range
abbrev QbS:=@PySem.Paired.length
abbrev QbT:=@List.mem_cons
abbrev QbU:=@List.map_cons
abbrev QbV:=@Nat.lt_irrefl
abbrev QbW:=@PySem.wpAny_holding
abbrev QbX:=@List.any_cons
abbrev QbY:=@PySem.wpAny_standAt
abbrev QbZ:=@PySem.wpAny_attempt
abbrev Qcb:=@PySem.Heap.lt_size
abbrev Qcc:=@List.mem_map
abbrev Qcd:=@Nat.ne_of_lt
abbrev Qce:=@Nat.le_trans
abbrev Qcf:=@List.map_map
abbrev Qcg:=@Nat.ne_of_gt
abbrev Qch:=@Int.zero_add
abbrev Qci:=@Nat.le_of_lt
abbrev Qcj:=@List.map_nil
abbrev Qck:=@Nat.le_refl
abbrev Qcl:=@Nat.zero_le
abbrev Qcm:=@PySem.Paired.snoc
abbrev Qcn:=@PySem.wpAny_field
abbrev Qco:=@PySem.sizeLine_eq
abbrev Qcp:=@PySem.wpAny_bind
abbrev Qcq:=@PySem.wpAny_pure
abbrev Qcr:=@PySem.wpAny_mono
abbrev Qcs:=@PyProof.Rows.take_snoc
abbrev Qct:=@or_false
namespace L2
open PySem PySem.Spec PyProof.Rows
abbrev Key:=Sum Int Str
def Q8:Key->Value->Bool
 | .inl k,v=>Value.isInt k v
 | .inr x,v=>Value.isStrOf x v
def B4 (w:World):Key->Int
 | .inl k=>hashInt k
 | .inr x=>hashStr w x
theorem DR:∀{k:Key} {v:Value},Q8 k v=true->(∃i t,k=Sum.inl i/\v=Value.int i t)\/(∃x t,k=Sum.inr x/\v=Value.str x t)
 | .inl i,v,h=>by
  obtain⟨t,e⟩:=Value.isInt_shape (k:=i) (v:=v) h
  exact .inl ⟨i,t,rfl,e⟩
 | .inr x,v,h=>by
  obtain⟨t,e⟩:=Value.isStrOf_shape (x:=x) (v:=v) h
  exact .inr ⟨x,t,rfl,e⟩
theorem jk (i:Int) (t:Tok):Q8 (.inl i) (.int i t)=true:=by simp[Q8,Value.isInt]
theorem jj (x:Str) (t:Tok):Q8 (.inr x) (.str x t)=true:=by simp[Q8,Value.isStrOf]
theorem vH (a b:Int):decide ((Sum.inl a:Key)=Sum.inl b)=(a == b):=by
 by_cases e:a=b
 ·subst e;simp
 ·have h:¬(Sum.inl a:Key)=Sum.inl b:=λq=>e (Sum.inl.inj q)
  rw[QbB h]
  exact (QaJ.mpr e).symm
theorem vB (a b:Str):decide ((Sum.inr a:Key)=Sum.inr b)=decide (a=b):=by
 by_cases e:a=b
 ·subst e;simp
 ·have h:¬(Sum.inr a:Key)=Sum.inr b:=λq=>e (Sum.inr.inj q)
  rw[QbB h,QbB e]
theorem vG (a:Int) (b:Str):decide ((Sum.inl a:Key)=Sum.inr b)=false:=QbB (λq=>nomatch q)
theorem vD (a:Str) (b:Int):decide ((Sum.inr a:Key)=Sum.inl b)=false:=QbB (λq=>nomatch q)
def CP (prog:Program) (w:World):PySem.KeyKind prog w Key where
 is:=Q8
 hash:=B4 w
 inj:=λv a b ha hb=>by
  rcases DR ha with⟨i,t,rfl,rfl⟩|⟨x,t,rfl,rfl⟩
  ·rcases DR hb with⟨j,u,rfl,e⟩|⟨y,u,rfl,e⟩
   ·injection e with e1 _;rw[e1]
   ·exact nomatch e
  ·rcases DR hb with⟨j,u,rfl,e⟩|⟨y,u,rfl,e⟩
   ·exact nomatch e
   ·injection e with e1 _;rw[e1]
 byValue:=λk v h=>by
  rcases DR h with⟨i,t,rfl,rfl⟩|⟨x,t,rfl,rfl⟩ <;> rfl
 pyHash:=λhv h=>by
  rcases DR hv with⟨i,t,rfl,rfl⟩|⟨x,t,rfl,rfl⟩
  ·exact wpAny_pyHash_int h
  ·exact wpAny_pyHash_str h
 eqBool:=λhu hv h=>by
  rcases DR hu with⟨i,t,rfl,rfl⟩|⟨x,t,rfl,rfl⟩
  ·rcases DR hv with⟨j,u,rfl,rfl⟩|⟨y,u,rfl,rfl⟩
   ·rw[vH] at h;exact wpAny_eqBool_int h
   ·rw[vG] at h;exact SeqAt.EqAt.int_str i t y u _ _ _ _ h
  ·rcases DR hv with⟨j,u,rfl,rfl⟩|⟨y,u,rfl,rfl⟩
   ·rw[vD] at h;exact SeqAt.EqAt.str_int x t j u _ _ _ _ h
   ·rw[vB] at h;exact wpAny_eqBool_str h
 «strs»:=λk x t v h=>by
  rcases DR h with⟨i,u,rfl,e⟩|⟨y,u,rfl,e⟩
  ·exact nomatch e
  ·injection e with e1 _
   subst e1
   cases v <;> rfl
theorem ZW (prog:Program) (w:World) (i:Int) (t:Tok):(CP prog w).is (.inl i) (.int i t)=true:=jk i t
theorem ZV (prog:Program) (w:World) (x:Str) (t:Tok):(CP prog w).is (.inr x) (.str x t)=true:=jj x t
inductive V where
 | non | bl (b:Bool) | int (i:Int) | str (x:Str) | byt (b:Array UInt8) | flt (b:UInt64) | ref (a:Addr) | ty (n:String)
 deriving DecidableEq
def RelV:V->Value->Prop
 | .non,u=>u=Value.none
 | .bl b,u=>u=Value.bool b
 | .int i,u=>∃t,u=Value.int i t
 | .str x,u=>∃t,u=Value.str x t
 | .byt b,u=>∃t,u=Value.bytes b t
 | .flt b,u=>∃t,u=Value.float b t
 | .ref a,u=>u=Value.ref a
 | .ty n,u=>u=Value.type n
abbrev YG:=List V
abbrev Vals:YG->YE->Prop:=Paired RelV
theorem Vals.length {xs:YG} {us:YE} (r:Vals xs us):xs.length=us.length:=QbS r
theorem Vals.get:∀{xs:YG} {us:YE} {i:Nat} {x:V},Vals xs us->xs[i]?=some x->∃u,us[i]?=some u/\RelV x u
 | _,_,_,_,.nil,e=>by simp at e
 | _,_,0,_,.cons r _,e=>by simp at e;subst e;exact⟨_,rfl,r⟩
 | _,_,i+1,x,.cons _ t,e=>by
  obtain⟨u,h1,h2⟩:=Vals.get (i:=i) (x:=x) t (by simpa using e)
  exact⟨u,by simpa using h1,h2⟩
theorem Vals.set {x:V} {u:Value} (r:RelV x u):∀{xs:YG} {us:YE} (i:Nat),Vals xs us->Vals (xs.set i x) (us.set i u)
 | _,_,_,.nil=>.nil
 | _,_,0,.cons _ t=>.cons r t
 | _,_,i+1,.cons q t=>.cons q (Vals.set r i t)
theorem Vals.append:∀{xs ys:YG} {us ws:YE},Vals xs us->Vals ys ws->Vals (xs++ys) (us++ws)
 | _,_,_,_,.nil,s=>s
 | _,_,_,_,.cons r t,s=>.cons r (Vals.append t s)
theorem Vals.take:∀{xs:YG} {us:YE} (n:Nat),Vals xs us->Vals (xs.take n) (us.take n)
 | _,_,0,_=>.nil
 | _,_,_+1,.nil=>.nil
 | _,_,n+1,.cons r t=>.cons r (Vals.take n t)
theorem Vals.drop:∀{xs:YG} {us:YE} (n:Nat),Vals xs us->Vals (xs.drop n) (us.drop n)
 | _,_,0,r=>r
 | _,_,_+1,.nil=>.nil
 | _,_,n+1,.cons _ t=>Vals.drop n t
def GK:Option V->Option Value->Prop
 | some v,some u=>RelV v u
 | none,none=>True
 | _,_=>False
def KV {κ : Type}:List (κ×V)->List (κ×Value)->Prop:=Paired λ(p:κ×V) (q:κ×Value)=>p.1=q.1/\RelV p.2 q.2
def kV:Key->V
 | .inl i=>.int i
 | .inr x=>.str x
inductive HO where
 | lst (xs:YG)
 | tup (xs:YG)
 | dK (kvs:List (Key×V)) | dT (kvs:List (List Key×V))
 | set (S:Int->Bool) (n:Nat)
 | ins (C dx:Addr) (fs:List (Str×V))
 | own (x:Addr)
 | xd (fs:List (Str×V))
 | met (f x:Addr)
 | rng (lo hi:Int)
 | frz (o:Obj) (u:HO)
 | tbl (ps:Array Value)
 | ext (φ : Heap->Prop)
abbrev Hp:=Addr->Option HO
def upd (H:Hp) (a:Addr) (o:HO):Hp:=λb=>if b=a then some o else H b
theorem Ab {H:Hp} {a:Addr} {o:HO}:upd H a o a=some o:=by unfold upd;rw[if_pos rfl]
theorem Al {H:Hp} {a b:Addr} {o:HO} (h:b≠a):upd H a o b=H b:=by unfold upd;rw[if_neg h]
theorem QV {H:Hp} {a:Addr} {o u:HO}:upd (upd H a o) a u=upd H a u:=by
 funext b;unfold upd;split <;> rfl
theorem pX {H:Hp} {a b:Addr} {o u:HO} (h:H a=some o) (h':H b=some u) (d:o≠u):a≠b:=by
 intro e;subst e;rw[h] at h';exact d (QbD h')
theorem Ar {H:Hp} {a b:Addr} {o:HO} (h:H a=some o) (h':H b=none):a≠b:=by
 intro e;subst e;rw[h] at h';cases h'
section
variable (P:Program) (w:World)
def Bs (H:Hp) (h:Heap) (a:Addr):HO->Prop
 | .lst xs=>xs.length<=sizeLine/\∃(its:YE) (n:Nat),Vals xs its/\h.get? a=some { cls:=.type "list",data:=.seq its.toArray n }
 | .tup xs=>xs.length<=sizeLine/\∃its:YE,Vals xs its/\IsTup h a its.toArray
 | .dK kvs=>kvs.length<=sizeLine/\(a == sysModules)=false/\∃vs,KV kvs vs/\h.DictOf (CP P w) a vs
 | .dT kvs=>kvs.length<=sizeLine/\(a == sysModules)=false/\∃xs:List (List Key×Addr×Value),
   Paired (λ(p:List Key×V) (q:List Key×Addr×Value)=>p.1=q.1/\H q.2.1=some (.tup (p.1.map kV))/\RelV p.2 q.2.2) kvs xs /\
   ∃o es ep,h.get? a=some o/\o.ExactDict/\o.data=.dict es ep/\es.toList=xs.map (entryOfKey (tupleKind (CP P w)))/\(xs.map (·.1)).Nodup
 | .set S n=>h.SetOf (intKind P w) a S n
 | .ins C dx fs=>H dx=some (.own a)/\fs.length<=1000/\dx≠a/\h.get? a=some (instObj C dx) /\
   ∃mA,h.Ns1 dx mA/\(∀f,GK (fs.lookup f) (mA f))/\PySem.Within mA (fs.map (·.1))
 | .own _=>∃o,h.get? a=some o
 | .xd fs=>∃mA,h.Ns1 a mA/\∀f,GK (fs.lookup f) (mA f)
 | .rng lo hi=>∃t u v,h.get? a=some { cls:=.type "range",data:=.fields #[.int lo t,.int hi u,.int 1 v] }
 | .frz o u=>h.get? a=some o/\Bs H h a u
 | .tbl ps=>h.get? a=some { cls:=.none,data:=.fields ps }
 | .met f x=>h.get? a=some (PySem.W.methodObj (.ref f) (.ref x))
 | .ext φ=>φ h/\(∃o,h.get? a=some o)/\∀h1 h2:Heap,φ h1->(∀o,h1.get? a=some o->h2.get? a=some o)->φ h2
def HOk (H:Hp) (h:Heap):Prop:=∀a o,H a=some o->Bs P w H h a o
end
section
variable {P:Program} {w:World} {H H':Hp} {h h':Heap} {a:Addr} {o:HO}
theorem Bs.lt (x:Bs P w H h a o):a < h.objs.size:=by
 cases o with
 | lst xs=>obtain⟨_,_,_,_,e⟩:=x;exact Qcb e
 | tup xs=>obtain⟨_,_,_,p⟩:=x;exact p.lt
 | dK kvs=>obtain⟨_,_,_,_,o,_,_,e,_⟩:=x;exact Qcb e
 | dT kvs=>obtain⟨_,_,_,_,o,_,_,e,_⟩:=x;exact Qcb e
 | set S n=>obtain⟨o,_,_,_,e,_⟩:=x;exact Qcb e
 | ins C dx fs=>obtain⟨_,_,_,e,_⟩:=x;exact Qcb e
 | own y=>obtain⟨_,e⟩:=x;exact Qcb e
 | xd fs=>obtain⟨_,⟨_,_,_,e,_⟩,_⟩:=x;exact Qcb e
 | rng lo hi=>obtain⟨_,_,_,e⟩:=x;exact Qcb e
 | frz ob u=>obtain⟨e,_⟩:=x;exact Qcb e
 | tbl ps=>exact Qcb (show h.get? a=some _ from x)
 | met f y=>exact Qcb (show h.get? a=some _ from x)
 | ext φ=>obtain⟨_,⟨_,e⟩,_⟩:=x;exact Qcb e
theorem Paired.Az {α β : Type} {F G:α->β->Prop}:∀{l₁ : List α} {l₂ : List β},Paired F l₁ l₂->(∀a b,F a b->G a b)->Paired G l₁ l₂
 | _,_,.nil,_=>.nil
 | _,_,.cons r t,f=>.cons (f _ _ r) (Paired.Az t f)
theorem Bs.stay (x:Bs P w H h a o) (k:∀b u,(b=a\/H b=some (.own a))->h.get? b=some u->h'.get? b=some u)
  (ho:∀b,H b=some (.own a)->H' b=some (.own a)) (ht:∀b xs,H b=some (.tup xs)->H' b=some (.tup xs)):Bs P w H' h' a o:=by
 induction o with
 | lst xs=>obtain⟨z,its,n,r,e⟩:=x;exact⟨z,its,n,r,k _ _ (.inl rfl) e⟩
 | tup xs=>obtain⟨z,its,r,ob,e,c⟩:=x;exact⟨z,its,r,ob,k _ _ (.inl rfl) e,c⟩
 | dK kvs=>obtain⟨z,y,vs,r,ob,es,ep,e,c⟩:=x;exact⟨z,y,vs,r,ob,es,ep,k _ _ (.inl rfl) e,c⟩
 | dT kvs=>
  obtain⟨z,y,xs,r,ob,es,ep,e,c⟩:=x
  exact⟨z,y,xs,Paired.Az r λp q z=>⟨z.1,ht _ _ z.2.1,z.2.2⟩,ob,es,ep,k _ _ (.inl rfl) e,c⟩
 | set S n=>obtain⟨ob,es,ep,t,e,c⟩:=x;exact⟨ob,es,ep,t,k _ _ (.inl rfl) e,c⟩
 | ins C dx fs=>
  obtain⟨d,z,ne,e,mA,⟨od,es,ep,e2,c⟩,r⟩:=x
  exact⟨ho _ d,z,ne,k _ _ (.inl rfl) e,mA,⟨od,es,ep,k _ _ (.inr d) e2,c⟩,r⟩
 | own y=>obtain⟨ob,e⟩:=x;exact⟨ob,k _ _ (.inl rfl) e⟩
 | xd fs=>obtain⟨mA,⟨od,es,ep,e,c⟩,r⟩:=x;exact⟨mA,⟨od,es,ep,k _ _ (.inl rfl) e,c⟩,r⟩
 | rng lo hi=>obtain⟨t,u,v,e⟩:=x;exact⟨t,u,v,k _ _ (.inl rfl) e⟩
 | frz ob u ih=>obtain⟨e,q⟩:=x;exact⟨k _ _ (.inl rfl) e,ih q⟩
 | tbl ps=>
  have e:h.get? a=some { cls:=.none,data:=.fields ps }:=x
  show h'.get? a=some { cls:=.none,data:=.fields ps }
  exact k a _ (.inl rfl) e
 | met f y=>
  have e:h.get? a=some (PySem.W.methodObj (.ref f) (.ref y)):=x
  show h'.get? a=some (PySem.W.methodObj (.ref f) (.ref y))
  exact k a _ (.inl rfl) e
 | ext φ=>obtain⟨p,⟨o,e⟩,st⟩:=x;exact⟨st _ _ p λo q=>k _ _ (.inl rfl) q,⟨o,k _ _ (.inl rfl) e⟩,st⟩
theorem HOk.lt (x:HOk P w H h) (e:H a=some o):a < h.objs.size:=(x a o e).lt
theorem HOk.fresh (x:HOk P w H h) (e:h.objs.size<=a):H a=none:=by
 cases q:H a with
 | none=>rfl
 | some u=>exact absurd (QaV (x.lt q) e) (QbV _)
theorem HOk.kept (x:HOk P w H h) (k:∀b u,h.get? b=some u->h'.get? b=some u):HOk P w H h':=λa o e=>
 (x a o e).stay (λb u _ q=>k b u q) (λ_ q=>q) λ_ _ q=>q
theorem HOk.laid (x:HOk P w H h) (k:∀b u,h.get? b=some u->h'.get? b=some u) (hp:h.objs.size<=a) (new:Bs P w (upd H a o) h' a o):HOk P w (upd H a o) h':=λb u e=>by
 have hn:=x.fresh hp
 by_cases hb:b=a
 ·subst hb;rw[Ab] at e;cases e;exact new
 ·rw[Al hb] at e
  exact (x b u e).stay (λc v _ q=>k c v q) (λc q=>by rw[Al (Ar q hn)];exact q) λc xs q=>by rw[Al (Ar q hn)];exact q
end
def Rd (H:Hp) (a:Addr) (u:HO):Prop:=H a=some u\/∃o,H a=some (.frz o u)
theorem Rd.ok {P:Program} {w:World} {H:Hp} {h:Heap} {a:Addr} {u:HO} (r:Rd H a u) (x:HOk P w H h):Bs P w H h a u:=by
 rcases r with r |⟨o,r⟩
 ·exact x a u r
 ·obtain⟨_,q⟩:=x a _ r
  exact q
def Mut:Option HO->Prop
 | some (.lst _)=>True
 | some (.dK _)=>True
 | some (.dT _)=>True
 | some (.set _ _)=>True
 | some (.ins _ _ _)=>True
 | some (.ext _)=>True
 | _=>False
section
variable {P:Program} {w:World} {H:Hp} {h h':Heap} {x e:Addr} {o':HO}
theorem HOk.write (ok:HOk P w H h) (mu:Mut (H x)) (he:e=x\/H e=some (.own x)) (k:∀b u,b≠e->h.get? b=some u->h'.get? b=some u) (heo:∃u,h'.get? e=some u)
  (new:Bs P w (upd H x o') h' x o'):HOk P w (upd H x o') h':=λb u q=>by
 have vd:∀c y,H c=some (.own y)->c≠x:=λc y r z=>by subst z;rw[r] at mu;exact mu
 have Gh:∀c xs,H c=some (.tup xs)->c≠x:=λc xs r z=>by subst z;rw[r] at mu;exact mu
 by_cases hb:b=x
 ·subst hb;rw[Ab] at q;cases q;exact new
 ·rw[Al hb] at q
  by_cases hbe:b=e
  ·have q':H b=some (.own x):=by
    rcases he with z | z
    ·exact absurd (hbe.trans z) hb
    ·rw[hbe];exact z
   rw[q] at q';cases q'
   obtain⟨v,hv⟩:=heo
   exact⟨v,by rw[hbe];exact hv⟩
  ·refine (ok b u q).stay (λc v hc r=>k c v ?_ r) (λc r=>by rw[Al (vd c b r)];exact r) λc xs r=>by rw[Al (Gh c xs r)];exact r
   rcases hc with rfl | hc
   ·exact hbe
   ·rintro rfl
    rcases he with z | z
    ·exact vd c b hc z
    ·rw[hc] at z;cases z;exact hb rfl
end
structure Un (fs ex:List Addr) (H H':Hp) (h h':Heap):Prop where
 keep:∀b o,h.get? b=some o->H b=none->b∉fs->b∉ex->h'.get? b=some o
 slot:∀b o,h.get? b=some o->H b=none->b∈fs->b∉ex->∃sl,h'.get? b=some { o with slots:=sl }
 free:∀b o,h.get? b=some o->H b=none->b∉ex->H' b=none
 there:∀b o,h.get? b=some o->b∉ex->∃o',h'.get? b=some o'
 tups:∀b xs,H b=some (.tup xs)->H' b=some (.tup xs)
 K3:∀b o u,H b=some (.frz o u)->H' b=some (.frz o u)
 Lw:∀b ps,H b=some (.tbl ps)->∃more,H' b=some (.tbl (ps++more))
section
variable {fs fs' ex ex':List Addr} {H H1 H2:Hp} {h h1 h2 h':Heap} {a x e:Addr} {o:HO}
theorem Un.any (u:Un fs ex H H1 h h1) {b:Addr} {ob:Obj} (q:h.get? b=some ob) (n:H b=none) (hx:b∉ex):∃sl,h1.get? b=some { ob with slots:=sl }:=by
 by_cases hb:b∈fs
 ·exact u.slot b ob q n hb hx
 ·exact⟨ob.slots,u.keep b ob q n hb hx⟩
theorem Un.kept (k:∀b u,h.get? b=some u->h'.get? b=some u):Un fs ex H H h h':=
 ⟨λb ob q _ _ _=>k b ob q,λb ob q _ _ _=>⟨ob.slots,k b ob q⟩,λ_ _ _ n _=>n,λb ob q _=>⟨ob,k b ob q⟩,λ_ _ q=>q,λ_ _ _ q=>q,λ_ ps q=>⟨#[],by rw[q];simp⟩⟩
theorem Un.refl:Un fs ex H H h h:=Un.kept λ_ _ q=>q
theorem Un.laid (k:∀b u,h.get? b=some u->h'.get? b=some u) (hp:h.objs.size<=a) (hn:H a=none):Un fs ex H (upd H a o) h h' where
 keep:=λb u q _ _ _=>k b u q
 slot:=λb u q _ _ _=>⟨u.slots,k b u q⟩
 free:=λb u q n _=>by rw[Al (Qcd (QaV (Qcb q) hp))];exact n
 there:=λb u q _=>⟨u,k b u q⟩
 tups:=λb xs q=>by rw[Al (Ar q hn)];exact q
 K3:=λb u xs q=>by rw[Al (Ar q hn)];exact q
 Lw:=λb ps q=>⟨#[],by rw[Al (Ar q hn),q];simp⟩
theorem Un.write (mu:Mut (H x)) (he:e=x\/H e=some (.own x)) (k:∀b u,b≠e->h.get? b=some u->h'.get? b=some u) (heo:∃u,h'.get? e=some u):Un fs ex H (upd H x o) h h':=by
 have hx:∀b,H b=none->b≠x:=λb n z=>by subst z;rw[n] at mu;exact mu
 have hb:∀b,H b=none->b≠e:=λb n z=>by
  subst z
  rcases he with r | r
  ·exact hx b n r
  ·rw[n] at r;cases r
 have hm:∀b u,H b=some u->¬Mut (some u)->b≠x:=λb u q nm z=>by subst z;rw[q] at mu;exact nm mu
 refine⟨λb u q n _ _=>k b u (hb b n) q,λb u q n _ _=>⟨u.slots,k b u (hb b n) q⟩,λb u q n _=>by rw[Al (hx b n)];exact n,λb u q _=>?_,
  λb xs q=>by rw[Al (hm b _ q λz=>z)];exact q,λb u xs q=>by rw[Al (hm b _ q λz=>z)];exact q,λb ps q=>⟨#[],by rw[Al (hm b _ q λz=>z),q];simp⟩⟩
 by_cases hbe:b=e
 ·subst hbe;exact heo
 ·exact⟨u,k b u hbe q⟩
end
def trk (h:Heap) (H:Hp):List Addr:=(List.range h.objs.size).filter λa=>(H a).isSome
def OJ (h:Heap) (H:Hp):Heap:=PySem.W.hideAll h (trk h H)
theorem jw (h:Heap) (H:Hp):(OJ h H).objs.size=h.objs.size:=PySem.W.hideAll_size _ _
theorem oJ {h:Heap} {H:Hp} {b:Addr} {o:Obj} (e:h.get? b=some o) (n:H b=none):(OJ h H).get? b=some o:=
 PySem.W.hideAll_get _ e λhm=>by
  have q:(H b).isSome=true:=(QbF.mp hm).2
  rw[n] at q;simp at q
theorem rB {h:Heap} {H:Hp} {b:Addr} {o:Obj} (e:(OJ h H).get? b=some o):h.get? b=some o/\H b=none:=by
 have e':h.get? b=some o:=PySem.W.of_hideAll (trk h H) e
 refine⟨e',?_⟩
 cases q:H b with
 | none=>rfl
 | some x=>
  have hm:b∈trk h H:=QbF.mpr ⟨QbR.mpr (Qcb e'),by simp[q]⟩
  have z:(OJ h H).get? b=none:=PySem.W.hideAll_none (trk h H) hm
  rw[z] at e;cases e
def Rm (g h:Heap) (L:Addr):YC:=(List.range h.objs.size).filterMap λa=>if a=L\/(g.get? a).isSome=true then none else (h.get? a).map λo=>(a,o)
theorem Ny {g h:Heap} {L a:Addr} {o:Obj} (h1:a≠L) (h2:g.get? a=none) (h3:h.get? a=some o):(a,o)∈Rm g h L:=
 List.mem_filterMap.mpr ⟨a,QbR.mpr (Qcb h3),by simp[h1,h2,h3]⟩
theorem Vi {g h:Heap} {L:Addr} {p:Addr×Obj} (hp:p∈Rm g h L):p.1≠L/\g.get? p.1=none/\h.get? p.1=some p.2:=by
 obtain⟨b,_,e⟩:=List.mem_filterMap.mp hp
 split at e
 ·cases e
 ·rename_i hn
  cases q:h.get? b with
  | none=>rw[q] at e;simp at e
  | some u=>
   rw[q] at e
   simp only[Option.map_some,Option.some.injEq] at e
   subst e
   refine⟨λz=>hn (.inl z),?_,q⟩
   show g.get? b=none
   cases r:g.get? b with
   | none=>rfl
   | some v=>exact (hn (.inr (by simp[r]))).elim
def rest (g h:Heap) (L d:Addr):YC:=(Rm g h L).filter λp=>decide (p.1≠d)
theorem nT {g h:Heap} {L:Addr}:News g L h (Rm g h L):=λp hp=>let ⟨a,b,c⟩:=Vi hp;⟨c,a,b⟩
structure Mod (K:YD) (mg:YB) (base:Heap):Prop where
 kin:K.In base
 glob:base.Ns mainGlobals mg
 blt:∃mb,base.Ns builtinsNs mb/\∀x:Str,x≠"__name__"->mb x=bootBuiltins x
 nolimit:base.NoLimit
structure Cx where
 prog:Program
 w:World
 K:YD
 mg:YB
 base:Heap
 A:Around
 N:YF
 s₀ : Shared
 H₀ : Hp
 env:Env
 outer:List Env
 stack:List Env
 ex:List Addr
 fn:Str->Bool
 calm:Bool
 pn:YC
 xe:YA
def frs (l:List Env):List Addr:=l.filterMap (·.frame)
abbrev Cx.fs (X:Cx):List Addr:=frs X.outer
def Vis (sc:Scope) (x:Str):Prop:=sc.names.lookup x=some .local\/sc.names.lookup x=some .cell\/sc.names.lookup x=some .free
def Loc (sc:Scope) (x:Str):Prop:=sc.names.lookup x=some .local\/sc.names.lookup x=some .cell
def Look (env:Env) (h:Heap) (m:YB) (x:Str) (u:Value):Prop:=
 (env.kindOf x=some .local/\m x=some u)\/((env.kindOf x=some .cell\/env.kindOf x=some .free)/\∃c,env.cells.lookup x=some c/\h.IsCell c (some u))
structure Cx.Ok (X:Cx):Prop where
 mod:Mod X.K X.mg X.base
 kind:X.env.scope.kind=.function
 glob:X.env.globals=mainGlobals
 blt:X.env.builtins=builtinsNs
 above:X.s₀.heap.objs.size<=X.env.locals
 inj:∀x y c,X.env.cells.lookup x=some c->X.env.cells.lookup y=some c->x=y
 has:∀x,(X.env.kindOf x=some .cell\/X.env.kindOf x=some .free)->∃c,X.env.cells.lookup x=some c
 cab:∀x c,X.fn x=true->X.env.cells.lookup x=some c->X.s₀.heap.objs.size<=c
 hd:X.calm=true->X.A.handled=none
 frames:X.A.frames=some X.stack
 stk:X.stack=X.outer\/(X.stack=X.env::X.outer/\X.env.frame=some X.env.locals)
 exf:∀b∈X.ex,b≠X.env.locals/\∀x c,X.env.cells.lookup x=some c->c≠b
 bs:∀b o,X.base.get? b=some o->X.s₀.heap.get? b=some o/\X.H₀ b=none
 bsz:X.base.objs.size<=X.s₀.heap.objs.size
 Vk:∀b o,X.base.get? b=some o->b∉X.ex
 QC:∀b∈X.ex,b∉X.fs
 Jw:X.s₀.heap.FunFrames X.base X.outer
 frf:∀b∈X.fs,X.H₀ b=none
structure Inv (X:Cx) (pins:YC) (σ : List (Option V)) (H:Hp) (s:Shared):Prop where
 ok:X.Ok
 os:s.os=X.s₀.os
 bare:AllBare s.gens
 base:Un X.fs X.ex X.H₀ H X.s₀.heap s.heap
 loc:∃m,s.heap.Ns X.env.locals m/\∀(i:Nat) (x:Str) (v:V),X.N[i]?=some x->σ[i]?=some (some v)->Vis X.env.scope x->∃u,RelV v u/\Look X.env s.heap m x u
 cell:∀x c,X.env.cells.lookup x=some c->∃v,s.heap.IsCell c v
 free:H X.env.locals=none
 Hr:∀x c,X.env.cells.lookup x=some c->H c=none
 pin:∀p∈X.pn++pins,s.heap.get? p.1=some p.2/\H p.1=none/\p.1≠X.env.locals/\p.1∉X.fs/\∀v,p.2.data≠.cell v
 hok:HOk X.prog X.w H s.heap
 len:σ.length=X.N.length
section
variable {X:Cx} {pins:YC} {σ : List (Option V)} {H H':Hp} {s:Shared} {h':Heap}
theorem Cx.Ok.zR (ok:X.Ok) {b:Addr} {o:Obj} (e:X.base.get? b=some o):b∉X.fs:=λhb=>by
 have:=(ok.Jw.mem hb).1
 rw[e] at this;cases this
theorem Inv.bs (I:Inv X pins σ H s):∀b o,X.base.get? b=some o->s.heap.get? b=some o/\H b=none:=λb o e=>
 ⟨I.base.keep b o (I.ok.bs b o e).1 (I.ok.bs b o e).2 (I.ok.zR e) (I.ok.Vk b o e),I.base.free b o (I.ok.bs b o e).1 (I.ok.bs b o e).2 (I.ok.Vk b o e)⟩
theorem Inv.bk (I:Inv X pins σ H s):∀b o,X.base.get? b=some o->s.heap.get? b=some o:=λb o e=>(I.bs b o e).1
theorem Inv.mod (I:Inv X pins σ H s):Mod X.K X.mg X.base:=I.ok.mod
theorem Inv.kIn (I:Inv X pins σ H s):X.K.In s.heap:=I.ok.mod.kin.keeps I.bk
theorem Inv.nolimit (I:Inv X pins σ H s):s.heap.NoLimit:=I.ok.mod.nolimit.keeps I.bk
theorem Inv.lt (I:Inv X pins σ H s):X.env.locals < s.heap.objs.size:=let ⟨_,hn,_⟩:=I.loc;hn.lt
theorem Inv.sz (I:Inv X pins σ H s):X.s₀.heap.objs.size<=s.heap.objs.size:=Qce I.ok.above (Qci I.lt)
theorem Inv.nQ (I:Inv X pins σ H s) {a:Addr} (h:s.heap.objs.size<=a):a∉X.fs:=λhb=>by
 obtain⟨_,o,ho,_⟩:=I.ok.Jw.mem hb
 exact absurd (QaV (Qcb ho) (Qce I.sz h)) (QbV _)
theorem Inv.cne (I:Inv X pins σ H s):∀x c,X.env.cells.lookup x=some c->c≠X.env.locals:=λx c e z=>by
 obtain⟨v,o,ho,hd⟩:=I.cell x c e
 obtain⟨m,⟨o',es,ep,ho',hd',_⟩,_⟩:=I.loc
 rw[z,ho'] at ho;cases ho;rw[hd'] at hd;cases hd
theorem Inv.Jw (I:Inv X pins σ H s):s.heap.FunFrames X.base X.outer:=by
 have all:∀(l:List Env),(∀b∈frs l,b∈X.fs)->X.s₀.heap.FunFrames X.base l->s.heap.FunFrames X.base l:=by
  intro l
  induction l with
  | nil=>intro _ _;trivial
  | cons env r ih=>
   intro hs hl
   obtain⟨hk,⟨L,o,hf,hn,ho,hd⟩,hr⟩:=hl
   have hL:L∈X.fs:=hs L (by unfold frs;rw[List.filterMap_cons,hf];exact QaQ)
   obtain⟨sl,e⟩:=I.base.slot L o ho (I.ok.frf L hL) hL λz=>I.ok.QC L z hL
   exact⟨hk,⟨L,_,hf,hn,e,hd⟩,ih (λb hb=>hs b (by unfold frs;rw[List.filterMap_cons,hf];exact QaF _ hb)) hr⟩
 exact all X.outer (λ_ hb=>hb) I.ok.Jw
theorem Inv.stack (I:Inv X pins σ H s):s.heap.FunFrames X.base X.stack:=by
 rcases I.ok.stk with e |⟨e,hf⟩
 ·rw[e];exact I.Jw
 ·rw[e]
  obtain⟨m,hn,_⟩:=I.loc
  refine .cons (by rw[I.ok.kind];decide) hf hn ?_ I.Jw
  exact Heap.get?_none_of_le (Qce I.ok.bsz I.ok.above)
theorem Inv.Xj (I:Inv X pins σ H s):∀b∈frs X.stack,b∈X.env.locals::X.fs:=λb hb=>by
 rcases I.ok.stk with e |⟨e,hf⟩
 ·rw[e] at hb;exact QaF _ hb
 ·rw[e] at hb
  unfold frs at hb
  rw[List.filterMap_cons,hf] at hb
  exact hb
theorem Inv.aO (I:Inv X pins σ H s):∀b∈frs X.stack,H b=none:=λb hb=>by
 rcases QbT.mp (I.Xj b hb) with e | hb
 ·rw[e];exact I.free
 ·obtain⟨_,o,ho,_⟩:=I.ok.Jw.mem hb
  exact I.base.free b o ho (I.ok.frf b hb) λz=>I.ok.QC b z hb
theorem Inv.step {g':Array GenState} {t':Nat} {d':Drawn} {ch:List Addr} (I:Inv X pins σ H s)
  (hch:∀b∈ch,(b∈X.ex\/X.s₀.heap.objs.size<=b)/\b≠X.env.locals/\(∀x c,X.env.cells.lookup x=some c->c≠b)/\∀p∈X.pn++pins,p.1≠b)
  (keep:∀b o,b≠X.env.locals->b∉X.fs->b∉ch->s.heap.get? b=some o->H b=none->h'.get? b=some o)
  (slot:∀b o,b≠X.env.locals->b∈X.fs->b∉ch->s.heap.get? b=some o->H b=none->∃sl,h'.get? b=some { o with slots:=sl }) (free:∀b o,b∉ch->s.heap.get? b=some o->H b=none->H' b=none)
  (there:∀b o,b∉ch->s.heap.get? b=some o->∃o',h'.get? b=some o')
  (tups:∀b xs,H b=some (.tup xs)->H' b=some (.tup xs)) (K3:∀b o u,H b=some (.frz o u)->H' b=some (.frz o u)) (Lw:∀b ps,H b=some (.tbl ps)->∃more,H' b=some (.tbl (ps++more)))
  (ns:∀m,s.heap.Ns X.env.locals m->h'.Ns X.env.locals m) (hok:HOk X.prog X.w H' h') (hg:AllBare g') :
  Inv X pins σ H' { s with heap:=h',gens:=g',drawn:=d',toks:=t' }:=by
 have neL:∀b o,X.s₀.heap.get? b=some o->b≠X.env.locals:=λb o e=>Qcd (QaV (Qcb e) I.ok.above)
 have neC:∀b o,X.s₀.heap.get? b=some o->b∉X.ex->b∉ch:=λb o e hx hb=>by
  rcases (hch b hb).1 with z | z
  ·exact hx z
  ·exact absurd (QaV (Qcb e) z) (QbV _)
 have cellK:∀x c,X.env.cells.lookup x=some c->∀v,s.heap.IsCell c v->h'.IsCell c v:=λx c e v ⟨o,ho,hd⟩=>by
  have nch:c∉ch:=λz=>(hch c z).2.2.1 x c e rfl
  by_cases hc:c∈X.fs
  ·obtain⟨sl,q⟩:=slot c o (I.cne x c e) hc nch ho (I.Hr x c e)
   exact⟨_,q,hd⟩
  ·exact⟨o,keep c o (I.cne x c e) hc nch ho (I.Hr x c e),hd⟩
 refine⟨I.ok,I.os,hg,⟨λb o e n hb hx=>?_,λb o e n hb hx=>?_,λb o e n hx=>?_,λb o e hx=>?_,λb xs e=>tups b xs (I.base.tups b xs e),λb o xs e=>K3 b o xs (I.base.K3 b o xs e),λb ps e=>?_⟩,?_,λx c e=>?_,?_,λx c e=>?_,λp hp=>?_,hok,I.len⟩
 ·exact keep b o (neL b o e) hb (neC b o e hx) (I.base.keep b o e n hb hx) (I.base.free b o e n hx)
 ·obtain⟨sl,e1⟩:=I.base.slot b o e n hb hx
  obtain⟨sl',e2⟩:=slot b _ (neL b o e) hb (neC b o e hx) e1 (I.base.free b o e n hx)
  exact⟨sl',e2⟩
 ·obtain⟨o',e1⟩:=I.base.there b o e hx
  exact free b o' (neC b o e hx) e1 (I.base.free b o e n hx)
 ·obtain⟨o',e1⟩:=I.base.there b o e hx
  exact there b o' (neC b o e hx) e1
 ·obtain⟨m1,e1⟩:=I.base.Lw b ps e
  obtain⟨m2,e2⟩:=Lw b _ e1
  exact⟨m1++m2,by rw[e2,Array.append_assoc]⟩
 ·obtain⟨m,hn,hl⟩:=I.loc
  refine⟨m,ns m hn,λi x v e1 e2 e3=>?_⟩
  obtain⟨u,r,l⟩:=hl i x v e1 e2 e3
  refine⟨u,r,?_⟩
  rcases l with l |⟨k,c,e,z⟩
  ·exact .inl l
  ·exact .inr ⟨k,c,e,cellK x c e _ z⟩
 ·obtain⟨v,z⟩:=I.cell x c e
  exact⟨v,cellK x c e v z⟩
 ·obtain⟨m,⟨o,_,_,ho,_⟩,_⟩:=I.loc
  exact free _ o (λz=>(hch _ z).2.1 rfl) ho I.free
 ·obtain⟨v,o,ho,hd⟩:=I.cell x c e
  exact free c o (λz=>(hch c z).2.2.1 x c e rfl) ho (I.Hr x c e)
 ·obtain⟨e,n,ne,nf,d⟩:=I.pin p hp
  have nch:p.1∉ch:=λz=>(hch p.1 z).2.2.2 p hp rfl
  exact⟨keep p.1 p.2 ne nf nch e n,free p.1 p.2 nch e n,ne,nf,d⟩
theorem Inv.un {t':Nat} (I:Inv X pins σ H s) (u:Un X.fs [] H H' s.heap h') (hok:HOk X.prog X.w H' h'):Inv X pins σ H' { s with heap:=h',toks:=t' }:=by
 obtain⟨m,⟨o,es,ep,ho,r⟩,_⟩:=id I.loc
 obtain⟨sl,hL⟩:=u.any ho I.free (by simp)
 exact I.step (g':=s.gens) (d':=s.drawn) (ch:=[]) (λ_ z=>nomatch z) (λb o _ hb _ e n=>u.keep b o e n hb (by simp)) (λb o _ hb _ e n=>u.slot b o e n hb (by simp)) (λb o _ e n=>u.free b o e n (by simp)) (λb o _ e=>u.there b o e (by simp)) u.tups u.K3 u.Lw (λm' hm=>by
  obtain⟨o',es',ep',ho',r'⟩:=hm
  rw[ho] at ho';cases ho'
  exact⟨_,es',ep',hL,r'⟩) hok I.bare
theorem Inv.call {g':Array GenState} {t':Nat} {d':Drawn} {ch:List Addr} (I:Inv X pins σ H s) (u:Un (frs X.stack) ch H H' s.heap h') (hok:HOk X.prog X.w H' h') (hg:AllBare g')
  (hch:∀b∈ch,(b∈X.ex\/X.s₀.heap.objs.size<=b)/\b≠X.env.locals/\(∀x c,X.env.cells.lookup x=some c->c≠b)/\∀p∈X.pn++pins,p.1≠b) :
  Inv X pins σ H' { s with heap:=h',gens:=g',drawn:=d',toks:=t' }:=by
 obtain⟨m,⟨o,es,ep,ho,r⟩,_⟩:=id I.loc
 obtain⟨sl,hL⟩:=u.any ho I.free λz=>(hch _ z).2.1 rfl
 exact I.step (ch:=ch) hch (λb o hL hb hc e n=>u.keep b o e n (λz=>(QbT.mp (I.Xj b z)).elim hL hb) hc) (λb o _ _ hc e n=>u.any e n hc) (λb o hc e n=>u.free b o e n hc) (λb o hc e=>u.there b o e hc) u.tups u.K3 u.Lw (λm' hm=>by
  obtain⟨o',es',ep',ho',r'⟩:=hm
  rw[ho] at ho';cases ho'
  exact⟨_,es',ep',hL,r'⟩) hok hg
theorem Inv.turned {t':Nat} {it:Addr} (I:Inv X pins σ H s) (k:∀b o,b≠it->s.heap.get? b=some o->h'.get? b=some o) (hn:H it=none) (hL:it≠X.env.locals)
  (h1:it∈X.ex\/X.s₀.heap.objs.size<=it) (h2:∀x c,X.env.cells.lookup x=some c->c≠it) (h3:∀p∈X.pn++pins,p.1≠it):Inv X pins σ H { s with heap:=h',toks:=t' }:=by
 have nit:∀b u,H b=some u->b≠it:=λb u e z=>by rw[z,hn] at e;cases e
 refine I.step (g':=s.gens) (d':=s.drawn) (ch:=[it]) (λb hb=>?_) (λb o _ _ hc e _=>k b o (λz=>hc (by simp[z])) e) (λb o _ _ hc e _=>⟨o.slots,k b o (λz=>hc (by simp[z])) e⟩) (λ_ _ _ _ n=>n)
  (λb o hc e=>⟨o,k b o (λz=>hc (by simp[z])) e⟩) (λ_ _ e=>e) (λ_ _ _ e=>e) (λb ps e=>⟨#[],by rw[e];simp⟩) (λm hm=>?_) (λb u e=>?_) I.bare
 ·have e:b=it:=by simpa using hb
  subst e
  exact⟨h1,hL,h2,h3⟩
 ·obtain⟨o,es,ep,ho,r⟩:=hm
  exact⟨o,es,ep,k _ o (Ne.symm hL) ho,r⟩
 ·refine (I.hok b u e).stay (λc v hc q=>k c v ?_ q) (λ_ q=>q) λ_ _ q=>q
  rcases hc with z | z
  ·rw[z];exact nit b u e
  ·exact nit c _ z
theorem Inv.tok (I:Inv X pins σ H s) (t:Nat):Inv X pins σ H { s with toks:=t }:=I.un (h':=s.heap) (t':=t) Un.refl I.hok
theorem Inv.kept {t':Nat} (I:Inv X pins σ H s) (k:∀b u,s.heap.get? b=some u->h'.get? b=some u):Inv X pins σ H { s with heap:=h',toks:=t' }:=I.un (Un.kept k) (I.hok.kept k)
theorem Inv.laid {a:Addr} {o:HO} {t':Nat} (I:Inv X pins σ H s) (k:∀b u,s.heap.get? b=some u->h'.get? b=some u) (hp:s.heap.objs.size<=a) (new:Bs X.prog X.w (upd H a o) h' a o) :
  Inv X pins σ (upd H a o) { s with heap:=h',toks:=t' }:=I.un (Un.laid k hp (I.hok.fresh hp)) (I.hok.laid k hp new)
theorem Inv.write {x e:Addr} {o:HO} {t':Nat} (I:Inv X pins σ H s) (mu:Mut (H x)) (he:e=x\/H e=some (.own x)) (k:∀b u,b≠e->s.heap.get? b=some u->h'.get? b=some u) (heo:∃u,h'.get? e=some u)
  (new:Bs X.prog X.w (upd H x o) h' x o):Inv X pins σ (upd H x o) { s with heap:=h',toks:=t' }:=I.un (Un.write mu he k heo) (I.hok.write mu he k heo new)
theorem Inv.Q0 {dM:YC} (I:Inv X pins σ H s) (h:∀p∈dM,s.heap.get? p.1=some p.2/\H p.1=none/\p.1≠X.env.locals/\p.1∉X.fs/\∀v,p.2.data≠.cell v):Inv X dM σ H s:=
 ⟨I.ok,I.os,I.bare,I.base,I.loc,I.cell,I.free,I.Hr,λp hp=>(Qbz.mp hp).elim (λz=>I.pin p (QaG _ z)) (h p),I.hok,I.len⟩
theorem YS {N:YF} (hN:N.Nodup) {i j:Nat} {x:Str} (a:N[i]?=some x) (b:N[j]?=some x):i=j:=by
 obtain⟨h1,e1⟩:=Qag.mp a
 obtain⟨h2,e2⟩:=Qag.mp b
 exact (List.getElem_inj hN).mp (e1.trans e2.symm)
theorem gJ {M:Model} {A:Around} {E:YA} {i:Nat} {x:Str} {v:V} {u:Value} {Q:YH} (I:Inv X pins σ H s) (hN:X.N.Nodup) (hi:X.N[i]?=some x) (hx:Loc X.env.scope x) (r:RelV v u)
  (h:∀s',Inv X pins (σ.set i (some v)) H s'->(∃a,Heap.SameBut a s.heap s'.heap/\(a=X.env.locals\/X.env.cells.lookup x=some a))->Q () s') (hf:X.fn x=true\/X.env.scope.names.lookup x=some .local:=by first | exact .inl rfl | exact .inr rfl | assumption):wpAny M A (storeName X.env x u) Q E s:=by
 obtain⟨m,hn,hl⟩:=id I.loc
 have hcls:(X.env.scope.kind == .class || (X.env.scope.kind == .module&&X.env.locals != X.env.globals))=false:=by rw[I.ok.kind];rfl
 have hiσ : i < σ.length:=by rw[I.len];exact (Qag.mp hi).1
 have cne:=I.cne
 have tracked:∀{a:Addr} {h':Heap},(∃o,s.heap.get? a=some o/\H a=none)->Heap.SameBut a s.heap h'->HOk X.prog X.w H h':=λ{a h'} ha hs b ob e=>by
  obtain⟨_,_,hfree⟩:=ha
  refine (I.hok b ob e).stay (λc w' hc q=>(hs.2 c ?_).trans q) (λ_ q=>q) λ_ _ q=>q
  rintro rfl
  rcases hc with rfl | hc
  ·rw[hfree] at e;cases e
  ·rw[hfree] at hc;cases hc
 rcases hx with hk | hk
 ·refine wpAny_storeName_local hk hn (λh' hn' hs=>?_) hcls
  obtain⟨oL,_,_,hoL,_⟩:=id hn
  refine h _ ⟨I.ok,I.os,I.bare,⟨λb o e n hb hx=>?_,λb o e n hb hx=>?_,I.base.free,λb o e hx=>?_,I.base.tups,I.base.K3,I.base.Lw⟩,⟨_,hn',λj y v' e1 e2 e3=>?_⟩,λy c e=>?_,I.free,I.Hr,λp hp=>?_,tracked ⟨oL,hoL,I.free⟩ hs,by simpa using I.len⟩ ⟨_,hs,.inl rfl⟩
  ·exact (hs.2 b (Qcd (QaV (Qcb e) I.ok.above))).trans (I.base.keep b o e n hb hx)
  ·obtain⟨sl,e1⟩:=I.base.slot b o e n hb hx
   exact⟨sl,(hs.2 b (Qcd (QaV (Qcb e) I.ok.above))).trans e1⟩
  ·obtain⟨o',e1⟩:=I.base.there b o e hx
   exact⟨o',(hs.2 b (Qcd (QaV (Qcb e) I.ok.above))).trans e1⟩
  ·by_cases hj:j=i
   ·subst hj
    rw[hi] at e1;cases e1
    rw[List.getElem?_set_self hiσ] at e2
    cases e2
    exact⟨u,r,.inl ⟨hk,by simp⟩⟩
   ·rw[List.getElem?_set_ne (Ne.symm hj)] at e2
    obtain⟨u',r',q⟩:=hl j y v' e1 e2 e3
    refine⟨u',r',?_⟩
    rcases q with⟨k,e⟩|⟨k,c,e,z⟩
    ·refine .inl ⟨k,?_⟩
     have:y≠x:=λe=>hj (YS hN e1 (e ▸ hi))
     simp[this,e]
    ·exact .inr ⟨k,c,e,z.sameBut hs (cne y c e)⟩
  ·obtain⟨w',z⟩:=I.cell y c e
   exact⟨w',z.sameBut hs (cne y c e)⟩
  ·obtain⟨e,n,ne,nf,d⟩:=I.pin p hp
   exact⟨(hs.2 p.1 ne).trans e,n,ne,nf,d⟩
 ·have hfn:X.fn x=true:=by
   rcases hf with z | z
   ·exact z
   ·rw[z] at hk;cases hk
  obtain⟨c,hc⟩:=I.ok.has x (.inl hk)
  obtain⟨w',z⟩:=I.cell x c hc
  refine wpAny_storeName_cell I.ok.kind hk hc z (λh' hc' hs=>?_)
  obtain⟨oc,hoc,Co⟩:=id z
  refine h { s with heap:=h' } ⟨I.ok,I.os,I.bare,⟨λb o e n hb hx=>?_,λb o e n hb hx=>?_,I.base.free,λb o e hx=>?_,I.base.tups,I.base.K3,I.base.Lw⟩,⟨m,hn.sameBut hs (Ne.symm (cne x c hc)),λj y v' e1 e2 e3=>?_⟩,λy c' e=>?_,I.free,I.Hr,λp hp=>?_,tracked ⟨oc,hoc,I.Hr x c hc⟩ hs,by simpa using I.len⟩ ⟨c,hs,.inr hc⟩
  ·exact (hs.2 b (Qcd (QaV (Qcb e) (I.ok.cab x c hfn hc)))).trans (I.base.keep b o e n hb hx)
  ·obtain⟨sl,e1⟩:=I.base.slot b o e n hb hx
   exact⟨sl,(hs.2 b (Qcd (QaV (Qcb e) (I.ok.cab x c hfn hc)))).trans e1⟩
  ·obtain⟨o',e1⟩:=I.base.there b o e hx
   exact⟨o',(hs.2 b (Qcd (QaV (Qcb e) (I.ok.cab x c hfn hc)))).trans e1⟩
  ·by_cases hj:j=i
   ·subst hj
    rw[hi] at e1;cases e1
    rw[List.getElem?_set_self hiσ] at e2
    cases e2
    exact⟨u,r,.inr ⟨.inl hk,c,hc,hc'⟩⟩
   ·rw[List.getElem?_set_ne (Ne.symm hj)] at e2
    obtain⟨u',r',q⟩:=hl j y v' e1 e2 e3
    refine⟨u',r',?_⟩
    rcases q with q |⟨k,c',e,z'⟩
    ·exact .inl q
    ·refine .inr ⟨k,c',e,z'.sameBut hs ?_⟩
     rintro rfl
     exact hj (YS hN e1 (I.ok.inj _ _ _ e hc ▸ hi))
  ·by_cases hcc:c'=c
   ·subst hcc;exact⟨_,hc'⟩
   ·obtain⟨w2,z2⟩:=I.cell y c' e
    exact⟨w2,z2.sameBut hs hcc⟩
  ·obtain⟨e,n,ne,nf,d⟩:=I.pin p hp
   refine⟨(hs.2 p.1 ?_).trans e,n,ne,nf,d⟩
   intro q
   rw[q,hoc] at e
   have q':oc=p.2:=QbD e
   exact d w' (by rw[<-q'];exact Co)
theorem Lx {M:Model} {A:Around} {E:YA} {i:Nat} {x:Str} {v:V} {u:Value} {Q:YH} (I:Inv X pins σ H s) (hN:X.N.Nodup) (hi:X.N[i]?=some x) (hx:Loc X.env.scope x) (r:RelV v u)
  (h:∀s',Inv X pins (σ.set i (some v)) H s'->Q () s') (hf:X.fn x=true\/X.env.scope.names.lookup x=some .local:=by first | exact .inl rfl | exact .inr rfl | assumption):wpAny M A (storeName X.env x u) Q E s:=
 gJ I hN hi hx r (λs' I' _=>h s' I') hf
theorem Inv.call' {s':Shared} {ch:List Addr} (I:Inv X pins σ H s) (ho:s'.os=s.os) (u:Un (frs X.stack) ch H H' s.heap s'.heap) (hok:HOk X.prog X.w H' s'.heap) (hg:AllBare s'.gens)
  (hch:∀b∈ch,(b∈X.ex\/X.s₀.heap.objs.size<=b)/\b≠X.env.locals/\(∀x c,X.env.cells.lookup x=some c->c≠b)/\∀p∈X.pn++pins,p.1≠b):Inv X pins σ H' s':=by
 obtain⟨h',g',d',t',o'⟩:=s'
 have e:o'=s.os:=ho
 subst e
 exact I.call (g':=g') (t':=t') (d':=d') u hok hg hch
end
abbrev XK:=Value->Option Addr->Hp->Prop
abbrev St:=List (Option V)
abbrev VK:=V->Hp->Prop
abbrev TE:=St->Hp->VK->Prop
abbrev TT:=St->Hp->(Bool->Hp->Prop)->Prop
abbrev TA:=St->Hp->(YG->Hp->Prop)->Prop
structure Ends where
 nx:St->Hp->Prop
 rt:VK
 bk:St->Hp->Prop:=λ_ _=>False
 ct:St->Hp->Prop:=λ_ _=>False
abbrev YO:=St->Hp->Prop
abbrev TS:=Ends->YO
def EP (X:Cx) (pins:YC) (σ : St) (Q:VK) (u:Value) (s':Shared):Prop:=∃v H',Inv X pins σ H' s'/\RelV v u/\Q v H'
def TP (X:Cx) (pins:YC) (σ : St) (Q:Bool->Hp->Prop) (b:Bool) (s':Shared):Prop:=∃H',Inv X pins σ H' s'/\Q b H'
def AP (X:Cx) (pins:YC) (σ : St) (Q:YG->Hp->Prop) (us:YE) (s':Shared):Prop:=∃vs H',Inv X pins σ H' s'/\Vals vs us/\Q vs H'
def SP (X:Cx) (pins:YC) (D:Ends) (f:Flow) (s':Shared):Prop:=
 match f with
 | .next=>∃ σ' H',Inv X pins σ' H' s'/\D.nx σ' H'
 | .brk=>∃ σ' H',Inv X pins σ' H' s'/\D.bk σ' H'
 | .cont=>∃ σ' H',Inv X pins σ' H' s'/\D.ct σ' H'
 | .ret u=>∃v σ' H',Inv X pins σ' H' s'/\RelV v u/\D.rt v H'
def PE (X:Cx) (e:Expr) (t:TE):Prop:=
 ∀(pins:YC) (s:Shared) (σ : St) (H:Hp) (Q:VK),Inv X pins σ H s->t σ H Q->wpAny (model X.prog X.w) X.A (eval e X.env) (EP X pins σ Q) X.xe s
def PT (X:Cx) (e:Expr) (t:TT):Prop:=
 ∀(pins:YC) (s:Shared) (σ : St) (H:Hp) (Q:Bool->Hp->Prop),Inv X pins σ H s->t σ H Q->wpAny (model X.prog X.w) X.A (isTrue e X.env (eval e X.env)) (TP X pins σ Q) X.xe s
def PW (X:Cx) (e:Expr) (t:TT):Prop:=
 ∀(whole:Sem Value) (pins:YC) (s:Shared) (σ : St) (H:Hp) (Q:Bool->Hp->Prop),Inv X pins σ H s->t σ H Q->wpAny (model X.prog X.w) X.A (isTrue e X.env whole) (TP X pins σ Q) X.xe s
theorem PW.pt {X:Cx} {e:Expr} {t:TT} (h:PW X e t):PT X e t:=h _
def PA (X:Cx) (es:YJ) (t:TA):Prop:=
 ∀(pos:Pos) (pins:YC) (s:Shared) (σ : St) (H:Hp) (Q:YG->Hp->Prop),Inv X pins σ H s->t σ H Q->wpAny (model X.prog X.w) X.A (spliced (backTo pos (starEach es X.env))) (AP X pins σ Q) X.xe s
def PS (X:Cx) (st:Stmt) (t:TS):Prop:=
 ∀(pins:YC) (s:Shared) (σ : St) (H:Hp) (D:Ends),Inv X pins σ H s->t D σ H->wpAny (model X.prog X.w) X.A (exec st X.env) (SP X pins D) X.xe s
def PSs (X:Cx) (st:List Stmt) (t:TS):Prop:=
 ∀(pins:YC) (s:Shared) (σ : St) (H:Hp) (D:Ends),Inv X pins σ H s->t D σ H->wpAny (model X.prog X.w) X.A (execs st X.env) (SP X pins D) X.xe s
theorem thn {α : Type} {t:Sem α} {Q Q':α->Shared->Prop} {M:Model} {A:Around} {E:YA} {s:Shared} (h:wpAny M A t Q E s) (hQ:∀a s,Q a s->Q' a s):wpAny M A t Q' E s:=Qcr h hQ λ_ _ x=>x
section
variable {X:Cx}
theorem bin {a b:Expr} {ta tb:TE} (ha:PE X a ta) (hb:PE X b tb) {pins:YC} {s:Shared} {σ : St} {H:Hp} {R:V->V->Hp->Prop} (I:Inv X pins σ H s) (h:ta σ H λx H1=>tb σ H1 λy H2=>R x y H2)
  {α : Type} {Q:α->Shared->Prop} {f:Value->Value->Sem α}
  (hf:∀v u s2 x y H2,Inv X pins σ H2 s2->RelV x v->RelV y u->R x y H2->wpAny (model X.prog X.w) X.A (f v u) Q X.xe s2) :
  wpAny (model X.prog X.w) X.A (eval a X.env) (λv s₁=>wpAny (model X.prog X.w) X.A (eval b X.env) (λu s₂=>wpAny (model X.prog X.w) X.A (f v u) Q X.xe s₂) X.xe s₁) X.xe s:=by
 refine thn (ha pins s σ H _ I h) λv s1 zz=>?_
 obtain⟨x,H1,I1,r1,q1⟩:=zz
 refine thn (hb pins s1 σ H1 _ I1 q1) λu s2 zz=>?_
 obtain⟨y,H2,I2,r2,q2⟩:=zz
 exact hf v u s2 x y H2 I2 r1 r2 q2
def uc (i:Nat):TE:=fun σ H Q=>∃v,σ[i]?=some (some v)/\Q v H
def tC (v:V):TE:=λ_ H Q=>Q v H
theorem uP {i:Nat} {x:Str} {pos:Pos} (hN:X.N[i]?=some x) (hv:Vis X.env.scope x) (hd:(x == ("__debug__":Str))=false:=by decide) (hcd:(x == ("__classdict__":Str))=false:=by decide):PE X (.Name x pos) (uc i):=by
 intro pins s σ H Q I h
 obtain⟨v,e,h⟩:=h
 obtain⟨m,hn,hl⟩:=I.loc
 obtain⟨u,r,l⟩:=hl i x v hN e hv
 have fin:EP X pins σ Q u s:=⟨v,H,I,r,h⟩
 rcases l with⟨hk,hm⟩|⟨hk,c,hc,hcell⟩
 ·exact wpAny_Name (wpAny_loadName_local I.ok.kind hk hn hm fin) hd
 ·rcases hk with hk | hk
  ·exact wpAny_Name (wpAny_loadName_cell I.ok.kind hk hc hcell fin) hd
  ·exact wpAny_Name (wpAny_loadName_free I.ok.kind hk hc hcell fin hcd) hd
theorem Ae {i j pos}:PE X (.Constant (.int i) j pos) (tC (.int i)):=λ_ _ _ H _ I h=>wpAny_Constant_int ⟨.int i,H,I.tok _,⟨_,rfl⟩,h⟩
theorem Fz {b j pos}:PE X (.Constant (.bool b) j pos) (tC (.bl b)):=λ_ _ _ H _ I h=>Constant_bool ⟨.bl b,H,I,rfl,h⟩
theorem N8 {j pos}:PE X (.Constant .none j pos) (tC .non):=λ_ _ _ H _ I h=>Constant_none ⟨.non,H,I,rfl,h⟩
theorem Bp {x j pos}:PE X (.Constant (.str x) j pos) (tC (.str x)):=λ_ _ _ H _ I h=>Calls.Constant_str ⟨.str x,H,I.tok _,⟨_,rfl⟩,h⟩
def Gl (X:Cx) (x:Str):Prop:=X.env.kindOf x=some .globalImplicit
theorem Vn {E:YA} {pins:YC} {s:Shared} {σ : St} {H:Hp} {x:Str} {u:Value} {pos:Pos} {Q:YA} (I:Inv X pins σ H s) (hg:Gl X x) (hm:X.mg x=some u) (h:Q u s)
  (hd:(x == ("__debug__":Str))=false:=by decide):wpAny (model X.prog X.w) X.A (eval (.Name x pos) X.env) Q E s:=
 Calls.Name_function_global I.ok.kind hg (Calls.loadGlobal_global (by rw[I.ok.glob];exact I.mod.glob.keeps I.bk) hm h) hd
theorem KD {E:YA} {pins:YC} {s:Shared} {σ : St} {H:Hp} {x:Str} {u:Value} {pos:Pos} {Q:YA} (I:Inv X pins σ H s) (hg:Gl X x) (hm:X.mg x=none) (hv:bootBuiltins x=some u) (h:Q u s)
  (hn:x≠"__name__":=by decide) (hd:(x == ("__debug__":Str))=false:=by decide):wpAny (model X.prog X.w) X.A (eval (.Name x pos) X.env) Q E s:=by
 obtain⟨mb,h1,h2⟩:=I.mod.blt
 exact Calls.Name_function_global I.ok.kind hg (Calls.loadGlobal_builtin (by rw[I.ok.glob];exact I.mod.glob.keeps I.bk) hm (by rw[I.ok.blt];exact h1.keeps I.bk) ((h2 x hn).trans hv) h) hd
theorem qT {x:Str} {v:V} {u:Value} {pos:Pos} (hg:Gl X x) (hm:X.mg x=some u) (r:RelV v u) (hd:(x == ("__debug__":Str))=false:=by decide):PE X (.Name x pos) (tC v):=
 λ_ _ _ H _ I h=>Vn I hg hm ⟨v,H,I,r,h⟩ hd
theorem Q5 {x:Str} {v:V} {u:Value} {pos:Pos} (hg:Gl X x) (hm:X.mg x=none) (hv:bootBuiltins x=some u) (r:RelV v u) (hn:x≠"__name__":=by decide) (hd:(x == ("__debug__":Str))=false:=by decide):PE X (.Name x pos) (tC v):=
 λ_ _ _ H _ I h=>KD I hg hm hv ⟨v,H,I,r,h⟩ hn hd
variable {a b:Expr} {ta tb:TE} {pos:Pos}
def PC (X:Cx) (op:CmpOp) (a b:Expr) (t:TE):Prop:=
 ∀(pins:YC) (s:Shared) (σ : St) (H:Hp) (Q:VK),Inv X pins σ H s->t σ H Q ->
  wpAny (model X.prog X.w) X.A (eval a X.env) (λv s₁=>wpAny (model X.prog X.w) X.A (eval b X.env) (λu s₂=>wpAny (model X.prog X.w) X.A (compareOp op v u) (EP X pins σ Q) X.xe s₂) X.xe s₁) X.xe s
theorem nR (b:Expr) {op:CmpOp} (h:op≠.In) (h2:op≠.NotIn):behindInMarks op b=false:=by
 have e1:(op == CmpOp.In)=false:=by cases op <;> first | rfl | exact absurd rfl h
 have e2:(op == CmpOp.NotIn)=false:=by cases op <;> first | rfl | exact absurd rfl h2
 cases b <;> simp[behindInMarks,e1,e2]
def tB (t:TE):TT:=fun σ H Q=>t σ H λx H1=>∃c,x=.bl c/\Q c H1
theorem Ql {op:CmpOp} {t:TE} (h:PC X op a b t) (h1:behindInMarks op b=false:=by first | exact nR _ (by decide) (by decide) | rfl):PT X (.Compare a [op] [b] pos) (tB t):=by
 intro pins s σ H Q I hw
 refine wpAny_isTrue_Compare1 (thn (h pins s σ H _ I hw) λv s1 h1=>thn h1 λu s2 h2=>thn h2 λc s3 zz=>?_) h1
 obtain⟨x,H1,I1,r1,q1⟩:=zz
 obtain⟨d,rfl,q⟩:=q1
 cases r1
 exact Qbj ⟨H1,I1,q⟩
theorem Dc {e:Expr} {t:TE} (h:PE X e t) (he:∀whole,isTrue e X.env whole=(do let v <-whole;standAt e.pos;holding [v] (truthy v)):=by intro _;rfl):PT X e (tB t):=by
 intro pins s σ H Q I hw
 refine isTrue_plain (thn (h pins s σ H _ I hw) λv s1 zz=>?_) (he _)
 obtain⟨x,H1,I1,r1,q1⟩:=zz
 obtain⟨d,rfl,q⟩:=q1
 cases r1
 exact Qbj ⟨H1,I1,q⟩
variable {tA tB':TT} {rest:YJ}
def zB (t u:TT):TT:=fun σ H Q=>t σ H λc H1=>if c=true then u σ H1 Q else Q false H1
def tOr (t u:TT):TT:=fun σ H Q=>t σ H λc H1=>if c=true then Q true H1 else u σ H1 Q
def zj (t:TT):TT:=fun σ H Q=>t σ H λc H1=>Q (!c) H1
theorem bJ (ha:PT X a tA):PW X (.BoolOp .And [a] pos) tA:=by
 intro wh pins s σ H Q I h
 refine isTrue_and (thn (ha pins s σ H Q I h) λc s1 e=>?_)
 cases c with
 | true=>exact isTrue_and_nil e
 | false=>exact e
theorem N7 (ha:PT X a tA):PW X (.BoolOp .Or [a] pos) tA:=by
 intro wh pins s σ H Q I h
 refine isTrue_or (thn (ha pins s σ H Q I h) λc s1 e=>?_)
 cases c with
 | false=>exact isTrue_or_nil e
 | true=>exact e
theorem iD (ha:PT X a tA) (hb:PW X (.BoolOp .And (b::rest) pos) tB'):PW X (.BoolOp .And (a::b::rest) pos) (zB tA tB'):=by
 intro wh pins s σ H Q I h
 refine isTrue_and (thn (ha pins s σ H _ I h) λc s1 zz=>?_)
 obtain⟨H1,I1,q1⟩:=zz
 cases c with
 | true=>exact hb wh pins s1 σ H1 Q I1 q1
 | false=>exact⟨H1,I1,q1⟩
theorem MK (ha:PT X a tA) (hb:PW X (.BoolOp .Or (b::rest) pos) tB'):PW X (.BoolOp .Or (a::b::rest) pos) (tOr tA tB'):=by
 intro wh pins s σ H Q I h
 refine isTrue_or (thn (ha pins s σ H _ I h) λc s1 zz=>?_)
 obtain⟨H1,I1,q1⟩:=zz
 cases c with
 | true=>exact⟨H1,I1,q1⟩
 | false=>exact hb wh pins s1 σ H1 Q I1 q1
theorem Ek (ha:PT X a tA):PT X (.UnaryOp .Not a pos) (zj tA):=by
 intro pins s σ H Q I h
 exact isTrue_not (ha pins s σ H (λc H1=>Q (!c) H1) I h)
def xM (ta tb:TE):TE:=fun σ H Q=>ta σ H λx H1=>∃c,x=.bl c/\if c=true then tb σ H1 Q else Q (.bl false) H1
def za (ta tb:TE):TE:=fun σ H Q=>ta σ H λx H1=>∃c,x=.bl c/\if c=true then Q (.bl true) H1 else tb σ H1 Q
def xG (ta:TE):TE:=fun σ H Q=>ta σ H λx H1=>∃c,x=.bl c/\Q (.bl (!c)) H1
theorem Ea {op} {t:TE} (h:PE X a t):PE X (.BoolOp op [a] pos) t:=λpins s σ H Q I hw=>BoolOp_one (h pins s σ H Q I hw)
theorem Em (ha:PE X a ta) (hb:PE X (.BoolOp .And (b::rest) pos) tb):PE X (.BoolOp .And (a::b::rest) pos) (xM ta tb):=by
 intro pins s σ H Q I h
 refine BoolOp_and (thn (ha pins s σ H _ I h) λv s1 zz=>?_)
 obtain⟨x,H1,I1,r1,q1⟩:=zz
 obtain⟨c,rfl,q1⟩:=q1
 cases r1
 refine Qbj ?_
 cases c with
 | true=>exact hb pins s1 σ H1 Q I1 q1
 | false=>exact⟨.bl false,H1,I1,rfl,q1⟩
theorem xV (ha:PE X a ta) (hb:PE X (.BoolOp .Or (b::rest) pos) tb):PE X (.BoolOp .Or (a::b::rest) pos) (za ta tb):=by
 intro pins s σ H Q I h
 refine BoolOp_or (thn (ha pins s σ H _ I h) λv s1 zz=>?_)
 obtain⟨x,H1,I1,r1,q1⟩:=zz
 obtain⟨c,rfl,q1⟩:=q1
 cases r1
 refine Qbj ?_
 cases c with
 | false=>exact hb pins s1 σ H1 Q I1 q1
 | true=>exact⟨.bl true,H1,I1,rfl,q1⟩
theorem uQ (ha:PE X a ta):PE X (.UnaryOp .Not a pos) (xG ta):=by
 intro pins s σ H Q I h
 refine UnaryOp_ (thn (ha pins s σ H _ I h) λv s1 zz=>?_)
 obtain⟨x,H1,I1,r1,q1⟩:=zz
 obtain⟨c,rfl,q1⟩:=q1
 cases r1
 exact not_of (Qbj ⟨.bl (!c),H1,I1,rfl,q1⟩)
def tIf (t:TT) (ta tb:TE):TE:=fun σ H Q=>t σ H λc H1=>if c=true then ta σ H1 Q else tb σ H1 Q
theorem Yn {c:Expr} (hc:PT X c tA) (ha:PE X a ta) (hb:PE X b tb):PE X (.IfExp c a b pos) (tIf tA ta tb):=by
 intro pins s σ H Q I h
 refine wpAny_IfExp (thn (hc pins s σ H _ I h) λd s1 zz=>?_)
 obtain⟨H1,I1,q1⟩:=zz
 cases d with
 | true=>exact ha pins s1 σ H1 Q I1 q1
 | false=>exact hb pins s1 σ H1 Q I1 q1
end
def SqL (K:YD) (H:Hp) (a:Addr) (xs:YG):Prop:=
 Rd H a (.lst xs) \/
  ∃(o:Obj) (its:Array Value) (n:Nat),K.lookup a=some o/\o.cls=.type "list"/\o.dict=none/\o.data=.seq its n/\its.size<=sizeLine/\Vals xs its.toList
def SqT (K:YD) (H:Hp) (a:Addr) (xs:YG):Prop:=
 Rd H a (.tup xs) \/
  ∃(o:Obj) (its:Array Value) (n:Nat),K.lookup a=some o/\o.cls=.type "tuple"/\o.data=.seq its n/\its.size<=sizeLine/\Vals xs its.toList
def FM:Value->Option V
 | .none=>some .non
 | .bool b=>some (.bl b)
 | .int i _=>some (.int i)
 | .str x _=>some (.str x)
 | .bytes b _=>some (.byt b)
 | .float b _=>some (.flt b)
 | .ref a=>some (.ref a)
 | .type n=>some (.ty n)
 | _=>none
theorem RelV.abs {x:V} {u:Value} (r:RelV x u):FM u=some x:=by
 cases x with
 | non=>cases r;rfl
 | bl _=>cases r;rfl
 | int _=>obtain⟨t,rfl⟩:=r;rfl
 | str _=>obtain⟨t,rfl⟩:=r;rfl
 | byt _=>obtain⟨t,rfl⟩:=r;rfl
 | flt _=>obtain⟨t,rfl⟩:=r;rfl
 | ref _=>cases r;rfl
 | ty _=>cases r;rfl
theorem RelV.inj {x y:V} {u:Value} (r:RelV x u) (q:RelV y u):x=y:=QbD (r.abs.symm.trans q.abs)
theorem Vals.inj:∀{xs ys:YG} {us:YE},Vals xs us->Vals ys us->xs=ys
 | _,_,_,.nil,.nil=>rfl
 | _,_,_,.cons r t,.cons r' t'=>by rw[r.inj r',Vals.inj t t']
section
variable {X:Cx} {pins:YC} {σ : St} {H:Hp} {s:Shared} {a:Addr} {xs ys:YG}
theorem SqL.of {K:YD} (h:H a=some (.lst xs)):SqL K H a xs:=.inl (.inl h)
theorem SqT.of {K:YD} (h:H a=some (.tup xs)):SqT K H a xs:=.inl (.inl h)
theorem Inv.list (I:Inv X pins σ H s) (h:SqL X.K H a xs):∃its:YE,Vals xs its/\PlainL s.heap a its.toArray/\xs.length<=sizeLine:=by
 rcases h with h |⟨o,its,n,hk,hc,hd,hs,hz,r⟩
 ·obtain⟨z,its,n,r,e⟩:=h.ok I.hok
  exact⟨its,r,⟨_,n,e,rfl,rfl,rfl⟩,z⟩
 ·refine⟨its.toList,r,⟨o,n,I.kIn a o hk,hc,hd,by simpa using hs⟩,?_⟩
  have e:=r.length
  simp only[QaM] at e
  omega
theorem Inv.tuple (I:Inv X pins σ H s) (h:SqT X.K H a xs):∃its:YE,Vals xs its/\IsTup s.heap a its.toArray/\xs.length<=sizeLine:=by
 rcases h with h |⟨o,its,n,hk,hc,hs,hz,r⟩
 ·obtain⟨z,its,r,p⟩:=h.ok I.hok
  exact⟨its,r,p,z⟩
 ·refine⟨its.toList,r,⟨o,I.kIn a o hk,hc,n,by simpa using hs⟩,?_⟩
  have e:=r.length
  simp only[QaM] at e
  omega
theorem Inv.Y0 (I:Inv X pins σ H s) (h:SqL X.K H a xs) (h':SqL X.K H a ys):xs=ys:=by
 obtain⟨its,r,⟨o,n,e,_,_,d⟩,_⟩:=I.list h
 obtain⟨its',r',⟨o',n',e',_,_,d'⟩,_⟩:=I.list h'
 rw[e] at e';cases e'
 rw[d] at d'
 injection d' with d1 _
 have:its=its':=by simpa using congrArg Array.toList d1
 subst this
 exact r.inj r'
theorem Inv.VJ (I:Inv X pins σ H s) (h:SqT X.K H a xs) (h':SqT X.K H a ys):xs=ys:=by
 obtain⟨its,r,⟨o,e,_,n,d⟩,_⟩:=I.tuple h
 obtain⟨its',r',⟨o',e',_,n',d'⟩,_⟩:=I.tuple h'
 rw[e] at e';cases e'
 rw[d] at d'
 injection d' with d1 _
 have:its=its':=by simpa using congrArg Array.toList d1
 subst this
 exact r.inj r'
end
abbrev Cx.wish (X:Cx) (E:YA):Cx:={ X with xe:=E }
abbrev Cx.nox (X:Cx):Cx:=X.wish λ_ _=>False
theorem Cx.Ok.wish {X:Cx} (ok:X.Ok) (E:YA):(X.wish E).Ok:=
 ⟨ok.mod,ok.kind,ok.glob,ok.blt,ok.above,ok.inj,ok.has,ok.cab,ok.hd,ok.frames,ok.stk,ok.exf,ok.bs,ok.bsz,ok.Vk,ok.QC,ok.Jw,ok.frf⟩
theorem Cx.Ok.Kl {X:Cx} {E:YA} (ok:(X.wish E).Ok):X.Ok:=
 ⟨ok.mod,ok.kind,ok.glob,ok.blt,ok.above,ok.inj,ok.has,ok.cab,ok.hd,ok.frames,ok.stk,ok.exf,ok.bs,ok.bsz,ok.Vk,ok.QC,ok.Jw,ok.frf⟩
section
variable {X:Cx} {pins:YC} {σ : St} {H:Hp} {s:Shared} {E:YA}
theorem Inv.wish (I:Inv X pins σ H s) (E:YA):Inv (X.wish E) pins σ H s:=⟨I.ok.wish E,I.os,I.bare,I.base,I.loc,I.cell,I.free,I.Hr,I.pin,I.hok,I.len⟩
theorem Inv.Kl (I:Inv (X.wish E) pins σ H s):Inv X pins σ H s:=⟨I.ok.Kl,I.os,I.bare,I.base,I.loc,I.cell,I.free,I.Hr,I.pin,I.hok,I.len⟩
theorem SP.Kl {D:Ends} {f:Flow} {s':Shared} (h:SP (X.wish E) pins D f s'):SP X pins D f s':=by
 cases f with
 | next=>obtain⟨σ',H',I,q⟩:=h;exact⟨σ',H',I.Kl,q⟩
 | brk=>obtain⟨σ',H',I,q⟩:=h;exact⟨σ',H',I.Kl,q⟩
 | cont=>obtain⟨σ',H',I,q⟩:=h;exact⟨σ',H',I.Kl,q⟩
 | ret u=>obtain⟨v,σ',H',I,r,q⟩:=h;exact⟨v,σ',H',I.Kl,r,q⟩
theorem PSs.nox {st:List Stmt} {t:TS} (h:PSs X.nox st t):PSs X st t:=λpins s σ H D I hw=>
 Qcr (h pins s σ H D (I.wish _) hw) (λ_ _ q=>q.Kl) λ_ _ z=>False.elim z
end
section
variable {X:Cx} {st:Stmt} {rest:List Stmt} {t u:TS} {e:Expr} {te:TE} {pos:Pos}
def xH:TS:=λD σ H=>D.nx σ H
def lG (t u:TS):TS:=λD σ H=>t { D with nx:=u D } σ H
theorem BL:PSs X [] xH:=λ_ _ σ H _ I h=>wpAny_execs_nil ⟨σ,H,I,h⟩
theorem Ag (h1:PS X st t) (h2:PSs X rest u):PSs X (st::rest) (lG t u):=by
 intro pins s σ H D I h
 refine wpAny_execs_cons (thn (h1 pins s σ H { D with nx:=u D } I h) λf s1 q=>?_)
 cases f with
 | next=>
  obtain⟨σ',H',I',q⟩:=q
  exact h2 pins s1 σ' H' D I' q
 | ret v=>exact q
 | brk=>exact q
 | cont=>exact q
theorem Ai (h1:PS X st t):PSs X [st] t:=by
 intro pins s σ H D I h
 refine wpAny_execs_cons (thn (h1 pins s σ H D I h) λf s1 q=>?_)
 cases f with
 | next=>exact wpAny_execs_nil q
 | ret v=>exact q
 | brk=>exact q
 | cont=>exact q
def uy:TS:=λD σ H=>D.bk σ H
theorem mJ:PS X (.Break pos) uy:=λ_ _ σ H _ I h=>wpAny_Break ⟨σ,H,I,h⟩
theorem Inv.quiet {pins:YC} {σ : St} {H:Hp} {s:Shared} (I:Inv X pins σ H s):interactive X.env=false:=by simp[interactive,I.ok.kind]
def xJ (te:TE):TS:=λD σ H=>te σ H λ_ H1=>D.nx σ H1
theorem Bf (he:PE X e te) (hs:swapsWith e none pos.line X.env=pure false:=by rfl):PS X (.Expr e pos) (xJ te):=by
 intro pins s σ H D I h
 refine wpAny_Expr_any (thn (he pins s σ H _ I h) λv s1 zz=>?_) I.quiet hs
 obtain⟨x,H1,I1,r1,q1⟩:=zz
 exact⟨σ,H1,I1,q1⟩
def yZ (te:TE):TS:=λD σ H=>te σ H D.rt
theorem Ba (he:PE X e te):PS X (.Return (some e) pos) (yZ te):=by
 intro pins s σ H D I h
 refine wpAny_Return_some (thn (he pins s σ H _ I h) λv s1 zz=>?_)
 obtain⟨x,H1,I1,r1,q1⟩:=zz
 exact⟨x,σ,H1,I1,r1,q1⟩
def zq (c:TT) (t u:TS):TS:=λD σ H=>c σ H λb H1=>if b=true then t D σ H1 else u D σ H1
theorem Ck {c:Expr} {a b:List Stmt} {tc:TT} (hc:PT X c tc) (ha:PSs X a t) (hb:PSs X b u):PS X (.If c a b pos) (zq tc t u):=by
 intro pins s σ H D I h
 refine wpAny_If (thn (hc pins s σ H _ I h) λd s1 zz=>?_)
 obtain⟨H1,I1,q1⟩:=zz
 cases d with
 | true=>exact ha pins s1 σ H1 D I1 q1
 | false=>exact hb pins s1 σ H1 D I1 q1
def ug:TS:=λ_ _ _=>False
theorem RW:PS X st ug:=λ_ _ _ _ _ _ h=>h.elim
end
abbrev TG:=V->St->Hp->(YO)->Prop
abbrev TGs:=YG->St->Hp->(YO)->Prop
def PG (X:Cx) (target:Expr) (t:TG):Prop:=
 ∀(pins:YC) (s:Shared) (σ : St) (H:Hp) (v:V) (u:Value) (Q:YO),Inv X pins σ H s->RelV v u->t v σ H Q ->
  wpAny (model X.prog X.w) X.A (assign target X.env u) (λ_ s'=>∃ σ' H',Inv X pins σ' H' s'/\Q σ' H') X.xe s
def PGs (X:Cx) (ts:YJ) (t:TGs):Prop:=
 ∀(pins:YC) (s:Shared) (σ : St) (H:Hp) (vs:YG) (us:YE) (Q:YO),Inv X pins σ H s->Vals vs us->t vs σ H Q ->
  wpAny (model X.prog X.w) X.A (assignInOrder ((assignEach ts X.env).map (·.2)) us) (λ_ s'=>∃ σ' H',Inv X pins σ' H' s'/\Q σ' H') X.xe s
abbrev o7:=V->V->V->Hp->(Hp->Prop)->Prop
def wX (X:Cx) (t:o7):Prop:=
 ∀(pins:YC) (s:Shared) (σ : St) (H:Hp) (o i v:V) (ov iv u:Value) (Q:Hp->Prop),Inv X pins σ H s->RelV o ov->RelV i iv->RelV v u->t o i v H Q ->
  wpAny (model X.prog X.w) X.A (setItem ov iv u) (λ_ s'=>∃H',Inv X pins σ H' s'/\Q H') X.xe s
abbrev TIp:=V->V->Hp->VK->Prop
def PIp (X:Cx) (op:Operator) (t:TIp):Prop:=
 ∀(pins:YC) (s:Shared) (σ : St) (H:Hp) (x y:V) (v u:Value) (Q:VK),Inv X pins σ H s->RelV x v->RelV y u->t x y H Q ->
  wpAny (model X.prog X.w) X.A (inplaceOp op v u) (EP X pins σ Q) X.xe s
section
variable {X:Cx} {pos:Pos}
def Fe (i:Nat):TG:=λv σ H Q=>Q (σ.set i (some v)) H
theorem Aj {i:Nat} {x:Str} (hN:X.N.Nodup) (hi:X.N[i]?=some x) (hx:Loc X.env.scope x) (hf:X.fn x=true\/X.env.scope.names.lookup x=some .local:=by first | exact .inl rfl | exact .inr rfl | assumption):PG X (.Name x pos) (Fe i):=by
 intro pins s σ H v u Q I r h
 exact wpAny_assign_Name (Lx I hN hi hx r (λs' I'=>⟨_,H,I',h⟩) hf)
def DT:TGs:=λvs σ H Q=>vs=[]/\Q σ H
def yI (t:TG) (u:TGs):TGs:=λvs σ H Q=>∃v r,vs=v::r/\t v σ H fun σ' H'=>u r σ' H' Q
theorem Bo:PGs X [] DT:=by
 intro pins s σ H vs us Q I r h
 obtain⟨e,h⟩:=h
 subst e
 cases r
 exact assignInOrder_nil ⟨σ,H,I,h⟩
theorem Am {e:Expr} {es:YJ} {t:TG} {u:TGs} (h1:PG X e t) (h2:PGs X es u)
  (hs:(assignEach (e::es) X.env).map (·.2)=assign e X.env::(assignEach es X.env).map (·.2):=by rfl):PGs X (e::es) (yI t u):=by
 intro pins s σ H vs us Q I r h
 obtain⟨v,vr,e1,h⟩:=h
 subst e1
 cases r with
 | cons r rr=>
  rw[hs]
  refine assignInOrder_cons (thn (h1 pins s σ H _ _ _ I r h) λ_ s1 zz=>?_)
  obtain⟨σ1,H1,I1,q1⟩:=zz
  exact h2 pins s1 σ1 H1 _ _ Q I1 rr q1
def wA (K:YD) (n:Nat) (t:TGs):TG:=λv σ H Q=>∃a xs,v=.ref a/\SqT K H a xs/\xs.length=n/\t xs σ H Q
theorem Cw {es:YJ} {k:Nat} {t:TGs} {n:Nat} (hc:X.calm=true) (h:PGs X es t)
  (hn:(assignEach es X.env).length=n:=by rfl) (hst:(assignEach es X.env).findIdx? (·.1)=none:=by rfl):PG X (.Tuple es k pos) (wA X.K n t):=by
 intro pins s σ H v u Q I r hw
 obtain⟨a,xs,e1,hq,hl,hw⟩:=hw
 subst e1
 cases r
 obtain⟨its,rv,ht,hz⟩:=I.tuple hq
 refine assign_Tuple_tuple (I.ok.hd hc) ht (by simp[hn,<-hl,rv.length]) hst λh' hx=>?_
 have I1:Inv X pins σ H { s with heap:=h' }:=I.kept (t':=s.toks) λb o e=>hx b o (Qcd (Qcb e)) e
 exact h pins _ σ H xs _ Q I1 (by simpa using rv) hw
def DS (to ti:TE) (t:o7):TG:=λv σ H Q=>to σ H λo H1=>ti σ H1 λi H2=>t o i v H2 λH3=>Q σ H3
theorem Yl {o i:Expr} {to ti:TE} {t:o7} (ho:PE X o to) (hi:PE X i ti) (hs:wX X t)
  (ha:∀v,assign (.Subscript o i pos) X.env v=(do
   let ov <-holding [v] (eval o X.env)
   let iv <-holding [v,ov] (eval i X.env)
   standAt pos
   holding [v,ov,iv] (setItem ov iv v)
   release [v,ov,iv] []):=by intro _;rfl):PG X (.Subscript o i pos) (DS to ti t):=by
 intro pins s σ H v u Q I r h
 rw[ha]
 refine Qcp (QbW (thn (ho pins s σ H _ I h) λov s1 zz=>?_))
 obtain⟨x,H1,I1,r1,q1⟩:=zz
 refine Qcp (QbW (thn (hi pins s1 σ H1 _ I1 q1) λiv s2 zz=>?_))
 obtain⟨y,H2,I2,r2,q2⟩:=zz
 refine Qcp (QbY (Qcp (QbW (thn (hs pins s2 σ H2 x y v ov iv u _ I2 r1 r2 r q2) λ_ s3 zz=>?_))))
 obtain⟨H3,I3,q3⟩:=zz
 exact wpAny_release ⟨σ,H3,I3,q3⟩
def Xh (te:TE) (g:TG):TS:=λD σ H=>te σ H λx H1=>g x σ H1 D.nx
theorem G5 {tg e:Expr} {te:TE} {g:TG} (he:PE X e te) (hg:PG X tg g) (hs:swapsWithSole [tg] e pos.line X.env=pure false:=by rfl) (hw:swappedStores [tg] e X.env=pure none:=by rfl)
  (h1:(assignEach [tg] X.env).map (·.2)=[assign tg X.env]:=by rfl):PS X (.Assign [tg] e pos) (Xh te g):=by
 intro pins s σ H D I h
 refine wpAny_Assign_stores (thn (he pins s σ H _ I h) λv s1 zz=>?_) hs hw
 obtain⟨x,H1,I1,r1,q1⟩:=zz
 rw[h1]
 exact thn (hg pins s1 σ H1 x v _ I1 r1 q1) λ_ s2 q=>q
theorem Bb {i:Nat} {x:Str} {e:Expr} {te:TE} {pos':Pos} (hN:X.N.Nodup) (hi:X.N[i]?=some x) (hx:Loc X.env.scope x) (he:PE X e te) (hs:swapsWith e (some (.Name x pos')) pos.line X.env=pure false:=by rfl) (hf:X.fn x=true\/X.env.scope.names.lookup x=some .local:=by first | exact .inl rfl | exact .inr rfl | assumption) :
  PS X (.Assign [.Name x pos'] e pos) (Xh te (Fe i)):=by
 intro pins s σ H D I h
 refine wpAny_Assign_Name (thn (he pins s σ H _ I h) λv s1 zz=>?_) hs
 obtain⟨y,H1,I1,r1,q1⟩:=zz
 exact Lx I1 hN hi hx r1 (λs2 I2=>⟨_,H1,I2,q1⟩) hf
def zA (i:Nat) (te:TE) (ti:TIp):TS:=λD σ H=>∃x,σ[i]?=some (some x)/\te σ H λy H1=>ti x y H1 λz H2=>D.nx (σ.set i (some z)) H2
theorem iH {i:Nat} {x:Str} {e:Expr} {te:TE} {op:Operator} {ti:TIp} {pos':Pos} (hN:X.N.Nodup) (hi:X.N[i]?=some x) (hx:Loc X.env.scope x) (he:PE X e te) (ho:PIp X op ti) (hf:X.fn x=true\/X.env.scope.names.lookup x=some .local:=by first | exact .inl rfl | exact .inr rfl | assumption) :
  PS X (.AugAssign (.Name x pos') op e pos) (zA i te ti):=by
 intro pins s σ H D I h
 obtain⟨v,e1,h⟩:=h
 obtain⟨m,hn,hl⟩:=I.loc
 have vis:Vis X.env.scope x:=by rcases hx with k | k;exact .inl k;exact .inr (.inl k)
 obtain⟨u,r,l⟩:=hl i x v hi e1 vis
 refine wpAny_AugAssign_Name ?_
 have go:wpAny (model X.prog X.w) X.A (eval e X.env) (λw s₂=>wpAny (model X.prog X.w) X.A (inplaceOp op u w) (λr s₃=>wpAny (model X.prog X.w) X.A (storeName X.env x r) (λ_=>SP X pins D .next) X.xe s₃) X.xe s₂) X.xe s:=by
  refine thn (he pins s σ H _ I h) λw s1 zz=>?_
  obtain⟨y,H1,I1,r1,q1⟩:=zz
  refine thn (ho pins s1 σ H1 v y u w _ I1 r r1 q1) λz s2 zz=>?_
  obtain⟨zv,H2,I2,r2,q2⟩:=zz
  exact Lx I2 hN hi hx r2 (λs3 I3=>⟨_,H2,I3,q2⟩) hf
 rcases l with⟨hk,hm⟩|⟨hk,c,hc,hcell⟩
 ·exact wpAny_loadName_local I.ok.kind hk hn hm go
 ·rcases hk with hk | hk
  ·exact wpAny_loadName_cell I.ok.kind hk hc hcell go
  ·rcases hx with k | k
   ·have:X.env.scope.names.lookup x=some .free:=hk
    rw[k] at this;cases this
   ·have:X.env.scope.names.lookup x=some .free:=hk
    rw[k] at this;cases this
def ipI (f:Int->Int->Int):TIp:=λx y H Q=>∃i j,x=.int i/\y=.int j/\Q (.int (f i j)) H
theorem jq:PIp X .Add (ipI λi j=>i+j):=by
 intro pins s σ H x y v u Q I r1 r2 h
 obtain⟨i,j,e1,e2,q⟩:=h
 subst e1;subst e2
 obtain⟨t,rfl⟩:=r1
 obtain⟨t',rfl⟩:=r2
 exact iadd_int ⟨.int _,H,I.tok _,⟨_,rfl⟩,q⟩
end
section
variable {X:Cx} {pos:Pos}
abbrev YN:=Nat->YO
def tY (c:TT) (tb:TS):TS:=λD σ H=>∃W:YN,(∃m,W m σ H)/\∀m σ H,W m σ H ->
 c σ H λb H1=>if b=true then ∃N:YO,(∀ σ' H',N σ' H'->∃m',m' < m/\W m' σ' H')/\tb { D with nx:=N,ct:=N,bk:=D.nx } σ H1 else D.nx σ H1
theorem Yh {c:Expr} {body:List Stmt} {tc:TT} {tb:TS} (hp:PassesOwn (model X.prog X.w) X.A X.env X.xe) (hc:PT X c tc) (hb:PSs X body tb):PS X (.While c body [] pos) (tY tc tb):=by
 intro pins s σ H D I h
 obtain⟨W,⟨m0,w0⟩,turn⟩:=h
 refine wpAny_While (codeAny_whileLoop (λn s'=>∃ σ' H',Inv X pins σ' H' s'/\W n σ' H') ?_ m0 ⟨σ,H,I,w0⟩)
 rintro n s1 ⟨σ1,H1,I1,w1⟩
 refine QbJ hp (thn (hc pins s1 σ1 H1 _ I1 (turn n σ1 H1 w1)) λb s2 zz=>?_)
 obtain⟨H2,I2,q2⟩:=zz
 cases b with
 | true=>
  obtain⟨N,hN,q2⟩:=q2
  rw[if_pos rfl]
  refine QbJ hp (thn (hb pins s2 σ1 H2 _ I2 q2) λf s3 q3=>?_)
  cases f with
  | next=>
   obtain⟨σ3,H3,I3,n3⟩:=q3
   obtain⟨m',hm,w3⟩:=hN σ3 H3 n3
   exact⟨m',hm,σ3,H3,I3,w3⟩
  | cont=>
   obtain⟨σ3,H3,I3,n3⟩:=q3
   obtain⟨m',hm,w3⟩:=hN σ3 H3 n3
   exact⟨m',hm,σ3,H3,I3,w3⟩
  | brk=>exact q3
  | ret v=>exact q3
 | false=>
  rw[if_neg QaT]
  exact wpAny_execs_nil ⟨σ1,H2,I2,q2⟩
end
structure It where
 go:Nat->Hp->Prop
 yld:Nat->Hp->V->Hp->Prop
 stop:Nat->Hp->Prop
def Gf (X:Cx) (pins:YC) (H:Hp) (b:Addr):Prop:=
 H b=none/\b≠X.env.locals/\b∉X.fs/\(b∈X.ex\/X.s₀.heap.objs.size<=b)/\(∀x c,X.env.cells.lookup x=some c->c≠b)/\∀p∈X.pn++pins,p.1≠b
theorem Inv.O6 {X:Cx} {pins:YC} {σ : St} {H H':Hp} {s:Shared} {b:Addr} (I:Inv X pins σ H s) (hb:s.heap.objs.size<=b) (hn:H' b=none):Gf X pins H' b:=by
 refine⟨hn,Qcg (QaV I.lt hb),I.nQ hb,.inr (Qce I.sz hb),λx c e z=>?_,λp hp z=>?_⟩
 ·obtain⟨v,q⟩:=I.cell x c e
  exact absurd (QaV q.lt (by rw[z];exact hb)) (QbV _)
 ·exact absurd (QaV (Qcb (I.pin p hp).1) (by rw[z];exact hb)) (QbV _)
structure Turn (P:Program) (w:World) (K:YD) (tg:Expr) (J:It) (fp:List Addr) (it:Addr) (tn:Nat->Heap->Prop):Prop where
 mem:it∈fp
 obj:∀i h,tn i h->∀b∈fp,∃o,h.get? b=some o/\∀v,o.data≠.cell v
 keep:∀i h h',tn i h->(∀b∈fp,∀o,h.get? b=some o->h'.get? b=some o)->tn i h'
 item:∀(X:Cx),X.prog=P->X.w=w->X.K=K->X.calm=true->∀(i:Nat) (pins:YC) (s:Shared) (σ : St) (H:Hp) (E:YA),Inv X pins σ H s->(∀b∈fp,Gf X pins H b)->tn i s.heap->J.go i H ->
  wpAny (model P w) X.A (pyNext (.ref it)) (λr s1=>∃u,r=some u /\
   wpAny (model P w) X.A (letOwnedTupleGo tg (.ref it) u) (λ_ s2=>∃x H',Inv X pins σ H' s2/\RelV x u/\J.yld i H x H'/\tn (i+1) s2.heap/\∀b∈fp,H' b=none) E s1) E s
 done:∀(X:Cx),X.prog=P->X.w=w->X.K=K->X.calm=true->∀(i:Nat) (pins:YC) (s:Shared) (σ : St) (H:Hp) (E:YA),Inv X pins σ H s->(∀b∈fp,Gf X pins H b)->tn i s.heap->J.stop i H ->
  wpAny (model P w) X.A (pyNext (.ref it)) (λr s1=>r=none/\Inv X pins σ H s1) E s
 self:∀(A:Around) (i:Nat) (s:Shared) (Q:YA) (E:YA),tn i s.heap->Q (.ref it) s->wpAny (model P w) A (pyIter (.ref it)) Q E s
abbrev TI:=St->Hp->(It->Hp->Prop)->Prop
def PIE (X:Cx) (pins:YC) (σ : St) (tg:Expr) (R:It->Hp->Prop) (itv:Value) (s2:Shared):Prop:=
 ∃(it:Addr) (fp:List Addr) (tn:Nat->Heap->Prop) (J:It) (H':Hp),itv=.ref it/\Inv X pins σ H' s2/\Turn X.prog X.w X.K tg J fp it tn/\tn 0 s2.heap/\(∀b∈fp,Gf X pins H' b)/\R J H'
def PI (X:Cx) (tg iter:Expr) (wi:TI):Prop:=
 ∀(pins:YC) (s:Shared) (σ : St) (H:Hp) (R:It->Hp->Prop),Inv X pins σ H s->wi σ H R ->
  wpAny (model X.prog X.w) X.A (eval iter X.env) (λv s1=>wpAny (model X.prog X.w) X.A (pyIter v) (PIE X pins σ tg R) X.xe s1) X.xe s
theorem Uk {M:Model} {A:Around} {E:YA} {s:Shared} {tg:Expr} {it:Addr} {u:Value} {o:Obj} {n:String} {vs:Array Value} {Q:YH} (ho:s.heap.get? it=some o) (hc:o.cls=.type n) (hd:o.data=.fields vs)
    (hn:["enumerate","zip","dict_itemiterator","dict_reverseitemiterator","odict_iterator","itertools.zip_longest","itertools.pairwise"].contains n=false) (hQ:Q () s):wpAny M A (letOwnedTupleGo tg (.ref it) u) Q E s:=by
  unfold letOwnedTupleGo
  cases tg <;> first
    | exact Qcq hQ
    | (cases u <;> first
        | exact Qcq hQ
        | (refine Qcp (wpAny_load ho ?_)
           rw[hc,hd]
           show wpAny M A (if (["enumerate","zip","dict_itemiterator","dict_reverseitemiterator","odict_iterator","itertools.zip_longest","itertools.pairwise"].contains n&&vs[0]? == some (rawInt _))=true then _ else _) Q E s
           rw[if_neg (by intro h;rw[hn,Bool.false_and] at h;cases h)]
           exact Qcq hQ))
def Itl (K:YD) (a:Addr):It:=
 ⟨λi H=>∃xs x,SqL K H a xs/\xs[i]?=some x,λi H x H'=>H'=H/\∀xs,SqL K H a xs->xs[i]?=some x,λi H=>∃xs,SqL K H a xs/\xs.length<=i⟩
def Itt (K:YD) (a:Addr):It:=
 ⟨λi H=>∃xs x,SqT K H a xs/\xs[i]?=some x,λi H x H'=>H'=H/\∀xs,SqT K H a xs->xs[i]?=some x,λi H=>∃xs,SqT K H a xs/\xs.length<=i⟩
def Itr (lo:Int) (n:Nat):It:=⟨λi _=>i < n,λi H x H'=>H'=H/\x=.int (lo+i),λi _=>n<=i⟩
theorem gF {P:Program} {w:World} {K:YD} {tg:Expr} (a it:Addr):Turn P w K tg (Itl K a) [it] it (λi h=>h.IsListIter it a i) where
 mem:=by simp
 obj:=λi h st b hb=>by
  have e:b=it:=by simpa using hb
  subst e
  obtain⟨o,e,c,d⟩:=st
  exact⟨o,e,λv z=>by rw[d] at z;cases z⟩
 keep:=λi h h' st k=>st.at λo e=>k it (by simp) o e
 item:=by
  intro X hP hw hK hc i pins s σ H E I hf st hg
  subst hP hw hK
  obtain⟨xs,x,hq,hx⟩:=hg
  obtain⟨its,rv,p,hz⟩:=I.list hq
  obtain⟨u,hu,ru⟩:=rv.get hx
  obtain⟨f0,f1,f2,f3,f4,f5⟩:=hf it (by simp)
  refine wpAny_pyNext_list_item st p.isList (x:=u) (by simpa using hu) λh' st' sb=>?_
  have I1:Inv X pins σ H { s with heap:=h' }:=I.turned (t':=s.toks) (λb o hb e=>(sb.2 b hb).trans e) f0 f1 f3 f4 f5
  obtain⟨o,e,c,d⟩:=id st'
  exact⟨u,rfl,Uk (s:={ s with heap:=h' }) e c d (by decide) ⟨x,H,I1,ru,⟨rfl,λys hy=>by rw[I.Y0 hy hq];exact hx⟩,st',λb hb=>(hf b hb).1⟩⟩
 done:=by
  intro X hP hw hK hc i pins s σ H E I hf st hg
  subst hP hw hK
  obtain⟨xs,hq,hx⟩:=hg
  obtain⟨its,rv,p,hz⟩:=I.list hq
  obtain⟨f0,f1,f2,f3,f4,f5⟩:=hf it (by simp)
  have hl:=rv.length
  exact wpAny_pyNext_list_end (I.ok.hd hc) st p.isList (by simp;omega) λh' eb=>⟨rfl,I.turned (t':=s.toks) (λb o hb e=>eb b o hb e) f0 f1 f3 f4 f5⟩
 self:=λ_ _ _ _ _ st h=>wpAny_pyIter_listiter st h
theorem cT {P:Program} {w:World} {K:YD} {tg:Expr} (a it:Addr):Turn P w K tg (Itt K a) [it] it (λi h=>h.IsTupleIter it a i) where
 mem:=by simp
 obj:=λi h st b hb=>by
  have e:b=it:=by simpa using hb
  subst e
  obtain⟨o,e,c,d⟩:=st
  exact⟨o,e,λv z=>by rw[d] at z;cases z⟩
 keep:=λi h h' st k=>st.at λo e=>k it (by simp) o e
 item:=by
  intro X hP hw hK hc i pins s σ H E I hf st hg
  subst hP hw hK
  obtain⟨xs,x,hq,hx⟩:=hg
  obtain⟨its,rv,p,hz⟩:=I.tuple hq
  obtain⟨u,hu,ru⟩:=rv.get hx
  obtain⟨f0,f1,f2,f3,f4,f5⟩:=hf it (by simp)
  refine wpAny_pyNext_tuple_item st (show s.heap.IsTuple a its.toArray from p) (x:=u) (by simpa using hu) λh' st' sb=>?_
  have I1:Inv X pins σ H { s with heap:=h' }:=I.turned (t':=s.toks) (λb o hb e=>(sb.2 b hb).trans e) f0 f1 f3 f4 f5
  obtain⟨o,e,c,d⟩:=id st'
  exact⟨u,rfl,Uk (s:={ s with heap:=h' }) e c d (by decide) ⟨x,H,I1,ru,⟨rfl,λys hy=>by rw[I.VJ hy hq];exact hx⟩,st',λb hb=>(hf b hb).1⟩⟩
 done:=by
  intro X hP hw hK hc i pins s σ H E I hf st hg
  subst hP hw hK
  obtain⟨xs,hq,hx⟩:=hg
  obtain⟨its,rv,p,hz⟩:=I.tuple hq
  obtain⟨f0,f1,f2,f3,f4,f5⟩:=hf it (by simp)
  have hl:=rv.length
  exact wpAny_pyNext_tuple_end (I.ok.hd hc) st (show s.heap.IsTuple a its.toArray from p) (by simp;omega) λh' eb=>⟨rfl,I.turned (t':=s.toks) (λb o hb e=>eb b o hb e) f0 f1 f3 f4 f5⟩
 self:=λ_ _ _ _ _ st h=>wpAny_pyIter_tupleiter st h
theorem cU {P:Program} {w:World} {K:YD} {tg:Expr} (it:Addr) (lo:Int) (n:Nat):Turn P w K tg (Itr lo n) [it] it (λi h=>IsRangeIter h it (lo+(i:Nat)*1) ((n:Int) - (i:Nat)) 1) where
 mem:=by simp
 obj:=λi h st b hb=>by
  have e:b=it:=by simpa using hb
  subst e
  exact⟨_,st,λv z=>by
   have z':Data.fields _=Data.cell v:=z
   cases z'⟩
 keep:=λi h h' st k=>k it (by simp) _ st
 item:=by
  intro X hP hw hK hc i pins s σ H E I hf st hg
  subst hP hw hK
  obtain⟨f0,f1,f2,f3,f4,f5⟩:=hf it (by simp)
  have W:=Walks.range (prog:=X.prog) (w:=X.w) (I.ok.hd hc) it lo 1 n
  refine W.item i s _ _ hg st λv h' tk hv st' kk=>?_
  obtain⟨t,rfl⟩:=hv
  have I1:Inv X pins σ H { s with heap:=h',toks:=tk }:=I.turned (λb o hb e=>kk b o (by simpa using hb) e) f0 f1 f3 f4 f5
  refine⟨_,rfl,Uk (s:={ s with heap:=h',toks:=tk }) (n:="range_iterator") st' rfl rfl (by decide) ⟨.int (lo+i),H,I1,⟨t,?_⟩,⟨rfl,rfl⟩,st',λb hb=>(hf b hb).1⟩⟩
  rw[Int.mul_one]
 done:=by
  intro X hP hw hK hc i pins s σ H E I hf st hg
  subst hP hw hK
  obtain⟨f0,f1,f2,f3,f4,f5⟩:=hf it (by simp)
  exact wpAny_pyNext_range_end (I.ok.hd hc) st (by have:n<=i:=hg;omega) λh' eb=>⟨rfl,I.turned (t':=s.toks) (λb o hb e=>eb b o hb e) f0 f1 f3 f4 f5⟩
 self:=λ_ _ _ _ _ st h=>wpAny_pyIter_rangeiter st h
section
variable {X:Cx} {tg:Expr}
def yt (K:YD) (tl:TE):TI:=fun σ H R=>tl σ H λx H1=>∃a,x=.ref a/\(∃xs,SqL K H1 a xs)/\R (Itl K a) H1
def B7 (K:YD) (tl:TE):TI:=fun σ H R=>tl σ H λx H1=>∃a,x=.ref a/\(∃xs,SqT K H1 a xs)/\R (Itt K a) H1
theorem DN {l:Expr} {tl:TE} (hl:PE X l tl):PI X tg l (yt X.K tl):=by
 intro pins s σ H R I h
 refine thn (hl pins s σ H _ I h) λv s1 zz=>?_
 obtain⟨x,H1,I1,r1,q1⟩:=zz
 obtain⟨a,e,⟨xs,hq⟩,q⟩:=q1
 subst e
 cases r1
 obtain⟨its,rv,p,hz⟩:=I1.list hq
 refine Qbn p.isList ?_
 refine⟨s1.heap.objs.size,[s1.heap.objs.size],_,_,H1,rfl,I1.kept (t':=s1.toks) λb o e=>Qav _ e,gF a _,⟨_,QaI _ rfl,rfl,rfl⟩,λb hb=>?_,q⟩
 have e:b=s1.heap.objs.size:=by simpa using hb
 subst e
 exact I1.O6 (Qck _) (I1.hok.fresh (Qck _))
theorem El {l:Expr} {tl:TE} (hl:PE X l tl):PI X tg l (B7 X.K tl):=by
 intro pins s σ H R I h
 refine thn (hl pins s σ H _ I h) λv s1 zz=>?_
 obtain⟨x,H1,I1,r1,q1⟩:=zz
 obtain⟨a,e,⟨xs,hq⟩,q⟩:=q1
 subst e
 cases r1
 obtain⟨its,rv,p,hz⟩:=I1.tuple hq
 refine QaX (show s1.heap.IsTuple a its.toArray from p) ?_
 refine⟨s1.heap.objs.size,[s1.heap.objs.size],_,_,H1,rfl,I1.kept (t':=s1.toks) λb o e=>Qav _ e,cT a _,⟨_,QaI _ rfl,rfl,rfl⟩,λb hb=>?_,q⟩
 have e:b=s1.heap.objs.size:=by simpa using hb
 subst e
 exact I1.O6 (Qck _) (I1.hok.fresh (Qck _))
theorem mF {pins:YC} {σ : St} {H:Hp} {s:Shared} {R:It->Hp->Prop} {E:YA} {lo hi:Int} {t u v:Tok} {tk:Nat} (I:Inv X pins σ H s) (h1:-(2 ^ 62)<=lo) (h2:lo < 2 ^ 62) (h3:-(2 ^ 62)<=hi) (h4:hi < 2 ^ 62)
  (q:R (Itr lo (hi - lo).toNat) H):wpAny (model X.prog X.w) X.A (pyIter (.ref s.heap.objs.size)) (PIE X pins σ tg R) E { s with heap:=s.heap.push { cls:=.type "range",data:=.fields #[.int lo t,.int hi u,.int 1 v] },toks:=tk }:=by
 refine wpAny_pyIter_range (IsRange.new ..) (small_one h1 h2 h3 h4) ?_
 have I1:Inv X pins σ H { s with heap:=s.heap.push { cls:=.type "range",data:=.fields #[.int lo t,.int hi u,.int 1 v] },toks:=tk }:=I.kept λb o e=>Qav _ e
 refine⟨(s.heap.push { cls:=.type "range",data:=.fields #[.int lo t,.int hi u,.int 1 v] }).objs.size,[(s.heap.push { cls:=.type "range",data:=.fields #[.int lo t,.int hi u,.int 1 v] }).objs.size],_,_,H,rfl,
  I1.kept (t':=tk) λb o e=>Qav _ e,cU _ lo (hi - lo).toNat,?_,λb hb=>?_,q⟩
 ·have e1:lo+((0:Nat):Int)*1=lo:=by simp
  have e2:(((hi - lo).toNat:Nat):Int) - ((0:Nat):Int)=Builtin.Range.rangeSize lo hi 1:=by rw[rangeSize_one];split <;> omega
  show IsRangeIter _ _ (lo+((0:Nat):Int)*1) ((((hi - lo).toNat:Nat):Int) - ((0:Nat):Int)) 1
  rw[e1,e2]
  exact QaI _ rfl
 ·have e:b=(s.heap.push { cls:=.type "range",data:=.fields #[.int lo t,.int hi u,.int 1 v] }).objs.size:=by simpa using hb
  subst e
  exact I1.O6 (Qck _) (I1.hok.fresh (Qck _))
def yr (ta:TA):TI:=fun σ H R=>ta σ H λvs H1=>∃j:Int,vs=[.int j]/\-(2 ^ 62)<=j/\j < 2 ^ 62/\R (Itr 0 j.toNat) H1
theorem Ca {a:Expr} {ta:TA} {p pos:Pos} (hg:Gl X "range") (hm:X.mg "range"=none) (ha:PA X [a] ta) (hs:starEach [a] X.env=[(false,eval a X.env)]:=by rfl):PI X tg (.Call (.Name "range" p) [a] [] pos) (yr ta):=by
 intro pins s σ H R I h
 refine Call_ (KD I hg hm boot_range (Qae (thn (ha pos pins s σ H _ I h) λus s1 zz=>?_) hs rfl))
 obtain⟨vs,H1,I1,r1,q1⟩:=zz
 obtain⟨j,e,q1,q2,q⟩:=q1
 subst e
 cases r1 with
 | cons r rr=>
  cases rr
  obtain⟨t,rfl⟩:=r
  exact call_range_1 (mF I1 (by omega) (by omega) q1 q2 (by simpa using q))
def zu (wi:TI) (g:TG) (tb:TS):TS:=λD σ H=>wi σ H λJ H1=>∃W:Nat->YN,(∃m,W 0 m σ H1)/\∀i m σ H,W i m σ H ->
 (J.stop i H/\D.nx σ H)\/(J.go i H/\∃N:YO,(∀ σ' H',N σ' H'->∃m',m' < m/\W (i+1) m' σ' H')/\∀x H',J.yld i H x H'->g x σ H' fun σ2 H2=>tb { D with nx:=N,ct:=N,bk:=D.nx } σ2 H2)
def Mh (fp:List Addr) (h:Heap):YC:=fp.filterMap λb=>(h.get? b).map λo=>(b,o)
theorem Jt {fp:List Addr} {h:Heap} {b:Addr} {o:Obj} (hb:b∈fp) (e:h.get? b=some o):(b,o)∈Mh fp h:=List.mem_filterMap.mpr ⟨b,hb,by rw[e];rfl⟩
theorem jd {fp:List Addr} {h:Heap} {p:Addr×Obj} (hp:p∈Mh fp h):p.1∈fp/\h.get? p.1=some p.2:=by
 obtain⟨b,hb,e⟩:=List.mem_filterMap.mp hp
 cases q:h.get? b with
 | none=>rw[q] at e;cases e
 | some o=>
  rw[q] at e
  have e':(b,o)=p:=QbD e
  subst e'
  exact⟨hb,q⟩
theorem Inv.pinned {pins:YC} {σ : St} {H:Hp} {s:Shared} {fp:List Addr} (I:Inv X pins σ H s) (hf:∀b∈fp,Gf X pins H b) (ho:∀b∈fp,∃o,s.heap.get? b=some o/\∀v,o.data≠.cell v):Inv X (pins++Mh fp s.heap) σ H s:=
 I.Q0 λp hp=>(Qbz.mp hp).elim (λz=>I.pin p (QaA _ z)) λz=>by
  obtain⟨hb,e⟩:=jd z
  obtain⟨f0,f1,f2,_⟩:=hf p.1 hb
  obtain⟨o,e',d⟩:=ho p.1 hb
  rw[e] at e';cases e'
  exact⟨e,f0,f1,f2,d⟩
theorem Inv.GX {pins pl:YC} {σ : St} {H:Hp} {s:Shared} (I:Inv X (pins++pl) σ H s):Inv X pins σ H s:=I.Q0 λp hp=>I.pin p (QaA _ (QaG _ hp))
theorem Bv {iter:Expr} {body:List Stmt} {wi:TI} {g:TG} {tb:TS} {pos:Pos} (hp:PassesOwn (model X.prog X.w) X.A X.env X.xe) (hc:X.calm=true) (hi:PI X tg iter wi) (hg:PG X tg g) (hb:PSs X body tb)
  (hs:∀x,foldedSetIterable iter X.env x=pure x:=by intro _;rfl):PS X (.For tg iter body [] pos) (zu wi g tb):=by
 intro pins s σ H D I h
 refine wpAny_For (thn (hi pins s σ H _ I h) λv s1 h1=>thn h1 λitv s2 h2=>?_) hs
 obtain⟨it,fp,tn,J,H2,e,I2,T,st2,f2,W,⟨m0,w0⟩,turn⟩:=h2
 subst e
 have stat:∀{H':Hp},(∀b∈fp,H' b=none)->∀b∈fp,Gf X pins H' b:=λhn b hb=>⟨hn b hb,(f2 b hb).2⟩
 refine codeAny_forLoop_any (λn s'=>∃i σ' H',Inv X pins σ' H' s'/\tn i s'.heap/\(∀b∈fp,H' b=none)/\W i n σ' H') ?_ m0 ⟨0,σ,H2,I2,st2,λb hb=>(f2 b hb).1,w0⟩
 rintro n s3 ⟨i,σ3,H3,I3,st3,fr3,w3⟩
 rcases turn i n σ3 H3 w3 with⟨stop,qn⟩|⟨go,N,hN,step⟩
 ·refine QbJ hp (thn (T.done X rfl rfl rfl hc i pins s3 σ3 H3 X.xe I3 (stat fr3) st3 stop) λr s4 zz=>?_)
  obtain⟨hr,I4⟩:=zz
  subst hr
  exact wpAny_execs_nil ⟨σ3,H3,I4,qn⟩
 ·refine QbJ hp (thn (T.item X rfl rfl rfl hc i pins s3 σ3 H3 X.xe I3 (stat fr3) st3 go) λr s4 zz=>?_)
  obtain⟨u,hr,h4⟩:=zz
  subst hr
  refine QbJ hp (thn h4 λ_ s5 zz=>?_)
  obtain⟨x,H5,I5,r5,y5,st5,fr5⟩:=zz
  have I5':=I5.pinned (stat fr5) (T.obj _ _ st5)
  refine QbJ hp (thn (hg _ s5 σ3 H5 x u _ I5' r5 (step x H5 y5)) λ_ s6 zz=>?_)
  obtain⟨σ6,H6,I6,q6⟩:=zz
  refine QbJ hp (thn (hb _ s6 σ6 H6 _ I6 q6) λf s7 q7=>?_)
  have again:∀{σ7:St} {H7:Hp},Inv X (pins++Mh fp s5.heap) σ7 H7 s7->N σ7 H7->∃m,m < n/\∃i σ' H',Inv X pins σ' H' s7/\tn i s7.heap/\(∀b∈fp,H' b=none)/\W i m σ' H':=λ{σ7 H7} I7 n7=>by
   obtain⟨m',hm,w7⟩:=hN σ7 H7 n7
   refine⟨m',hm,i+1,σ7,H7,I7.GX,T.keep _ _ _ st5 λb hb o e=>(I7.pin (b,o) (QaA _ (QaA _ (Jt hb e)))).1,λb hb=>?_,w7⟩
   obtain⟨o,e,d⟩:=T.obj _ _ st5 b hb
   exact (I7.pin (b,o) (QaA _ (QaA _ (Jt hb e)))).2.1
  cases f with
  | next=>obtain⟨σ7,H7,I7,n7⟩:=q7;exact again I7 n7
  | cont=>obtain⟨σ7,H7,I7,n7⟩:=q7;exact again I7 n7
  | brk=>obtain⟨σ7,H7,I7,q7⟩:=q7;exact⟨σ7,H7,I7.GX,q7⟩
  | ret v=>obtain⟨x7,σ7,H7,I7,r7,q7⟩:=q7;exact⟨x7,σ7,H7,I7.GX,r7,q7⟩
end
theorem Mu {K:YD} {a:Addr} {xs:YG} {g:TG} {tb:TS} {D:Ends} {σ : St} {H:Hp} (Pv:YN) (h0:Pv 0 σ H) (hl:∀i σ H,i<=xs.length->Pv i σ H->SqL K H a xs)
  (hs:∀i x σ H,xs[i]?=some x->Pv i σ H->g x σ H fun σ2 H2=>tb { D with nx:=Pv (i+1),ct:=Pv (i+1),bk:=D.nx } σ2 H2) (hd:∀ σ H,Pv xs.length σ H->D.nx σ H) :
  ∃W:Nat->YN,(∃m,W 0 m σ H)/\∀i m σ H,W i m σ H ->
   ((Itl K a).stop i H/\D.nx σ H)\/((Itl K a).go i H/\∃N:YO,(∀ σ' H',N σ' H'->∃m',m' < m/\W (i+1) m' σ' H')/\∀x H',(Itl K a).yld i H x H'->g x σ H' fun σ2 H2=>tb { D with nx:=N,ct:=N,bk:=D.nx } σ2 H2):=by
 refine⟨λi m σ H=>m=xs.length - i/\i<=xs.length/\Pv i σ H,⟨xs.length,by simp,Qcl _,h0⟩,?_⟩
 rintro i m σ H ⟨rfl,hi,p⟩
 have q:=hl i σ H hi p
 by_cases hlt:i < xs.length
 ·refine .inr ⟨⟨xs,xs[i],q,by simp[hlt]⟩,Pv (i+1),fun σ' H' p'=>⟨xs.length - (i+1),by omega,rfl,hlt,p'⟩,λx H' y=>?_⟩
  obtain⟨e,y⟩:=y
  subst e
  exact hs i x σ _ (y xs q) p
 ·have e:i=xs.length:=by omega
  subst e
  exact .inl ⟨⟨xs,q,Qck _⟩,hd σ H p⟩
theorem Lj {K:YD} {a:Addr} {xs:YG} {g:TG} {tb:TS} {D:Ends} {σ : St} {H:Hp} (Pv:YN) (h0:Pv 0 σ H) (hl:∀i σ H,i<=xs.length->Pv i σ H->SqT K H a xs)
  (hs:∀i x σ H,xs[i]?=some x->Pv i σ H->g x σ H fun σ2 H2=>tb { D with nx:=Pv (i+1),ct:=Pv (i+1),bk:=D.nx } σ2 H2) (hd:∀ σ H,Pv xs.length σ H->D.nx σ H) :
  ∃W:Nat->YN,(∃m,W 0 m σ H)/\∀i m σ H,W i m σ H ->
   ((Itt K a).stop i H/\D.nx σ H)\/((Itt K a).go i H/\∃N:YO,(∀ σ' H',N σ' H'->∃m',m' < m/\W (i+1) m' σ' H')/\∀x H',(Itt K a).yld i H x H'->g x σ H' fun σ2 H2=>tb { D with nx:=N,ct:=N,bk:=D.nx } σ2 H2):=by
 refine⟨λi m σ H=>m=xs.length - i/\i<=xs.length/\Pv i σ H,⟨xs.length,by simp,Qcl _,h0⟩,?_⟩
 rintro i m σ H ⟨rfl,hi,p⟩
 have q:=hl i σ H hi p
 by_cases hlt:i < xs.length
 ·refine .inr ⟨⟨xs,xs[i],q,by simp[hlt]⟩,Pv (i+1),fun σ' H' p'=>⟨xs.length - (i+1),by omega,rfl,hlt,p'⟩,λx H' y=>?_⟩
  obtain⟨e,y⟩:=y
  subst e
  exact hs i x σ _ (y xs q) p
 ·have e:i=xs.length:=by omega
  subst e
  exact .inl ⟨⟨xs,q,Qck _⟩,hd σ H p⟩
theorem Dk {lo:Int} {n:Nat} {g:TG} {tb:TS} {D:Ends} {σ : St} {H:Hp} (Pv:YN) (h0:Pv 0 σ H)
  (hs:∀i σ H,i < n->Pv i σ H->g (.int (lo+i)) σ H fun σ2 H2=>tb { D with nx:=Pv (i+1),ct:=Pv (i+1),bk:=D.nx } σ2 H2) (hd:∀ σ H,Pv n σ H->D.nx σ H) :
  ∃W:Nat->YN,(∃m,W 0 m σ H)/\∀i m σ H,W i m σ H ->
   ((Itr lo n).stop i H/\D.nx σ H)\/((Itr lo n).go i H/\∃N:YO,(∀ σ' H',N σ' H'->∃m',m' < m/\W (i+1) m' σ' H')/\∀x H',(Itr lo n).yld i H x H'->g x σ H' fun σ2 H2=>tb { D with nx:=N,ct:=N,bk:=D.nx } σ2 H2):=by
 refine⟨λi m σ H=>m=n - i/\i<=n/\Pv i σ H,⟨n,by simp,Qcl _,h0⟩,?_⟩
 rintro i m σ H ⟨rfl,hi,p⟩
 by_cases hlt:i < n
 ·refine .inr ⟨hlt,Pv (i+1),fun σ' H' p'=>⟨n - (i+1),by omega,rfl,hlt,p'⟩,λx H' y=>?_⟩
  obtain⟨e,y⟩:=y
  subst e y
  exact hs i σ _ hlt p
 ·have e:i=n:=by omega
  subst e
  exact .inl ⟨Qck _,hd σ H p⟩
abbrev R2:=V->V->Hp->VK->Prop
def OpR (X:Cx) (f:Value->Value->Sem Value) (r:R2):Prop:=
 ∀(pins:YC) (s:Shared) (σ : St) (H:Hp) (x y:V) (v u:Value) (Q:VK),Inv X pins σ H s->RelV x v->RelV y u->r x y H Q ->
  wpAny (model X.prog X.w) X.A (f v u) (EP X pins σ Q) X.xe s
def UnR (X:Cx) (f:Value->Sem Value) (r:V->Hp->VK->Prop):Prop:=
 ∀(pins:YC) (s:Shared) (σ : St) (H:Hp) (x:V) (v:Value) (Q:VK),Inv X pins σ H s->RelV x v->r x H Q ->
  wpAny (model X.prog X.w) X.A (f v) (EP X pins σ Q) X.xe s
def Fi (X:Cx) (f:Value) (r:YG->Hp->VK->Prop):Prop:=
 ∀(pins:YC) (s:Shared) (σ : St) (H:Hp) (xs:YG) (us:YE) (Q:VK),Inv X pins σ H s->Vals xs us->r xs H Q ->
  wpAny (model X.prog X.w) X.A (call f us) (EP X pins σ Q) X.xe s
def FO (X:Cx) (r:V->Hp->(Bool->Hp->Prop)->Prop):Prop:=
 ∀(pins:YC) (s:Shared) (σ : St) (H:Hp) (x:V) (v:Value) (Q:Bool->Hp->Prop),Inv X pins σ H s->RelV x v->r x H Q ->
  wpAny (model X.prog X.w) X.A (truthy v) (TP X pins σ Q) X.xe s
def tOp (r:R2) (ta tb:TE):TE:=fun σ H Q=>ta σ H λx H1=>tb σ H1 λy H2=>r x y H2 Q
def tUn (r:V->Hp->VK->Prop) (ta:TE):TE:=fun σ H Q=>ta σ H λx H1=>r x H1 Q
def rI (C:Int->Int->Prop) (g:Int->Int->V):R2:=λx y H Q=>∃i j,x=.int i/\y=.int j/\C i j/\Q (g i j) H
def rI0 (g:Int->Int->V):R2:=λx y H Q=>∃i j,x=.int i/\y=.int j/\Q (g i j) H
def rU (g:Int->V):V->Hp->VK->Prop:=λx H Q=>∃i,x=.int i/\Q (g i) H
section
variable {X:Cx} {a b c:Expr} {ta tb tc:TE} {pos:Pos}
theorem oZ (ha:PE X a ta) (hb:PE X b tb) {pins:YC} {s:Shared} {σ : St} {H:Hp} {R:V->V->Hp->Prop} (I:Inv X pins σ H s)
  (h:ta σ H λx H1=>tb σ H1 λy H2=>R x y H2) {Q:YA} {f:Value->Value->Sem Value}
  (hf:∀v u s2 x y H2,Inv X pins σ H2 s2->RelV x v->RelV y u->R x y H2->wpAny (model X.prog X.w) X.A (f v u) Q X.xe s2) :
  wpAny (model X.prog X.w) X.A (eval a X.env) (λv s₁=>wpAny (model X.prog X.w) X.A (eval b X.env) (λu s₂=>wpAny (model X.prog X.w) X.A (f v u) Q X.xe s₂) X.xe s₁) X.xe s:=by
 refine thn (ha pins s σ H _ I h) λv s1 zz=>?_
 obtain⟨x,H1,I1,r1,q1⟩:=zz
 refine thn (hb pins s1 σ H1 _ I1 q1) λu s2 zz=>?_
 obtain⟨y,H2,I2,r2,q2⟩:=zz
 exact hf v u s2 x y H2 I2 r1 r2 q2
theorem Bc {op:Operator} {r:R2} (ho:OpR X (binaryOp op) r) (ha:PE X a ta) (hb:PE X b tb):PE X (.BinOp a op b pos) (tOp r ta tb):=by
 intro pins s σ H Q I h
 exact wpAny_BinOp (oZ ha hb I h λv u s2 x y H2 I2 rx ry q=>ho pins s2 σ H2 x y v u Q I2 rx ry q)
theorem TF {op:UnaryOp} {r:V->Hp->VK->Prop} (ho:UnR X (unaryOp op) r) (ha:PE X a ta):PE X (.UnaryOp op a pos) (tUn r ta):=by
 intro pins s σ H Q I h
 refine UnaryOp_ (thn (ha pins s σ H _ I h) λv s1 zz=>?_)
 obtain⟨x,H1,I1,r1,q1⟩:=zz
 exact ho pins s1 σ H1 x v Q I1 r1 q1
theorem opI {f:Value->Value->Sem Value} {C:Int->Int->Prop} {g:Int->Int->Int}
  (rule:∀(i j:Int) (t u:Tok) (s:Shared) (Q:YA) (E:YA),C i j->Q (.int (g i j) s.toks) { s with toks:=s.toks+1 }->wpAny (model X.prog X.w) X.A (f (.int i t) (.int j u)) Q E s) :
  OpR X f (rI C λi j=>.int (g i j)):=by
 intro pins s σ H x y v u Q I rx ry h
 obtain⟨i,j,rfl,rfl,hc,q⟩:=h
 obtain⟨t,rfl⟩:=rx
 obtain⟨t',rfl⟩:=ry
 exact rule i j t t' s _ _ hc ⟨.int (g i j),H,I.tok _,⟨_,rfl⟩,q⟩
theorem uW {f:Value->Value->Sem Value} {g:Int->Int->Int}
  (rule:∀(i j:Int) (t u:Tok) (s:Shared) (Q:YA) (E:YA),Q (.int (g i j) s.toks) { s with toks:=s.toks+1 }->wpAny (model X.prog X.w) X.A (f (.int i t) (.int j u)) Q E s) :
  OpR X f (rI0 λi j=>.int (g i j)):=by
 intro pins s σ H x y v u Q I rx ry h
 obtain⟨i,j,rfl,rfl,q⟩:=h
 obtain⟨t,rfl⟩:=rx
 obtain⟨t',rfl⟩:=ry
 exact rule i j t t' s _ _ ⟨.int (g i j),H,I.tok _,⟨_,rfl⟩,q⟩
theorem dO {f:Value->Value->Sem Value} {g:Int->Int->Bool}
  (rule:∀(i j:Int) (t u:Tok) (s:Shared) (Q:YA) (E:YA),Q (.bool (g i j)) s->wpAny (model X.prog X.w) X.A (f (.int i t) (.int j u)) Q E s) :
  OpR X f (rI0 λi j=>.bl (g i j)):=by
 intro pins s σ H x y v u Q I rx ry h
 obtain⟨i,j,rfl,rfl,q⟩:=h
 obtain⟨t,rfl⟩:=rx
 obtain⟨t',rfl⟩:=ry
 exact rule i j t t' s _ _ ⟨.bl (g i j),H,I,rfl,q⟩
def FX (i j:Int):Prop:=0 < j/\j < 1073741824
def FV (i j:Int):Prop:=0<=j/\j<=1000000/\i.natAbs < 2 ^ 64
def gB (i j:Int):Prop:=(-(2 ^ 64) < i/\i < 2 ^ 64)\/(-(2 ^ 64) < j/\j < 2 ^ 64)
theorem gB.ok {i j:Int} (h:gB i j):IntMulOk i j:=by
 rcases h with⟨h1,h2⟩|⟨h1,h2⟩
 ·exact .of_left (intBits_le_64 h1 h2)
 ·exact .of_right (intBits_le_64 h1 h2)
theorem BX:OpR X (binaryOp .Add) (rI0 λi j=>.int (i+j)):=uW λ_ _ _ _ _ _ _ q=>add_int q
theorem uR:OpR X (binaryOp .Sub) (rI0 λi j=>.int (i - j)):=uW λ_ _ _ _ _ _ _ q=>sub_int q
theorem G8:OpR X (binaryOp .Mult) (rI gB λi j=>.int (i*j)):=opI λ_ _ _ _ _ _ _ hc q=>mul_int q hc.ok
theorem Vg:OpR X (binaryOp .FloorDiv) (rI FX λi j=>.int (i / j)):=opI λi j _ _ _ _ _ hc q=>by
 have h1:(0:Int) < j:=hc.1
 have h2:j < 1073741824:=hc.2
 exact floordiv_int (by omega) (by rw[Int.fdiv_eq_ediv_of_nonneg i (by omega)];exact q) (.inl (PyProof.noPylong_small (by omega)))
theorem KC:OpR X (binaryOp .Mod) (rI (λ_ j=>0 < j) λi j=>.int (i % j)):=opI λi j _ _ _ _ _ hc q=>by
 have h1:(0:Int) < j:=hc
 exact mod_int' (by omega) (by rw[Int.fmod_eq_emod_of_nonneg i (by omega)];exact q)
theorem iQ:OpR X (binaryOp .Pow) (rI FV λi j=>.int (i ^ j.toNat)):=opI λ_ _ _ _ _ _ _ hc q=>pow_int_small hc.1 hc.2.1 hc.2.2 q
theorem unI {f:Value->Sem Value} {g:Int->Int}
  (rule:∀(i:Int) (t:Tok) (s:Shared) (Q:YA) (E:YA),Q (.int (g i) s.toks) { s with toks:=s.toks+1 }->wpAny (model X.prog X.w) X.A (f (.int i t)) Q E s) :
  UnR X f (rU λi=>.int (g i)):=by
 intro pins s σ H x v Q I rx h
 obtain⟨i,rfl,q⟩:=h
 obtain⟨t,rfl⟩:=rx
 exact rule i t s _ _ ⟨.int (g i),H,I.tok _,⟨_,rfl⟩,q⟩
theorem PJ:UnR X (unaryOp .USub) (rU λi=>.int (-i)):=unI λ_ _ _ _ _ q=>neg_int q
end
def uJ:V->V->Bool
 | .non,.non=>true | .non,.int _=>true | .int _,.non=>true | .non,.bl _=>true | .bl _,.non=>true | .non,.str _=>true | .str _,.non=>true
 | .int _,.int _=>true | .bl _,.bl _=>true | .str _,.str _=>true | .byt _,.byt _=>true
 | .int _,.str _=>true | .str _,.int _=>true | .bl _,.str _=>true | .str _,.bl _=>true
 | _,_=>false
def rEq:R2:=λx y H Q=>uJ x y=true/\Q (.bl (decide (x=y))) H
def rNe:R2:=λx y H Q=>uJ x y=true/\Q (.bl (!decide (x=y))) H
theorem cI {i j:Int}:decide (V.int i=V.int j)=(i == j):=by
 rw[QbH]
 simp
theorem jO {i j:Bool}:decide (V.bl i=V.bl j)=(i == j):=by
 rw[QbH]
 simp
theorem cH {i j:Str}:decide (V.str i=V.str j)=(i == j):=by
 rw[QbH]
 simp
theorem cJ {i j:Array UInt8}:decide (V.byt i=V.byt j)=(i.toList == j.toList):=by
 rw[QbH]
 cases i
 cases j
 simp
section
variable {X:Cx} {a b c:Expr} {ta tb tc:TE} {pos:Pos}
theorem Bw {pins:YC} {σ : St} {H:Hp} {s:Shared} {Q:VK} {k k':Bool} (I:Inv X pins σ H s) (q:Q (.bl k) H) (e:k=k'):EP X pins σ Q (.bool k') s:=by
 subst e
 exact⟨.bl k,H,I,rfl,q⟩
theorem Ho:OpR X (compareOp .Eq) rEq:=by
 intro pins s σ H x y v u Q I rx ry h
 obtain⟨hs,q⟩:=h
 cases x with
 | non=>
  cases rx
  cases y with
  | non=>cases ry;exact PySem.EqNone.eq_none_none (Bw I q (by simp))
  | bl j=>cases ry;exact PySem.EqNone.eq_none_bool (Bw I q (by simp))
  | int j=>obtain⟨t',rfl⟩:=ry;exact PySem.EqNone.eq_none_int (Bw I q (by simp))
  | str j=>obtain⟨t',rfl⟩:=ry;exact PySem.EqNone.eq_none_str (Bw I q (by simp))
  | _=>exact absurd (show false=true from hs) QaT
 | bl i=>
  cases rx
  cases y with
  | non=>cases ry;exact PySem.EqNone.eq_bool_none (Bw I q (by simp))
  | bl j=>cases ry;exact eq_bool (Bw I q jO)
  | str j=>obtain⟨t',rfl⟩:=ry;exact PySem.EqMixed.eq_bool_str (Bw I q (by simp))
  | _=>exact absurd (show false=true from hs) QaT
 | int i=>
  obtain⟨t,rfl⟩:=rx
  cases y with
  | non=>cases ry;exact PySem.EqNone.eq_int_none (Bw I q (by simp))
  | int j=>obtain⟨t',rfl⟩:=ry;exact eq_int (Bw I q cI)
  | str j=>obtain⟨t',rfl⟩:=ry;exact PySem.EqMixed.eq_int_str (Bw I q (by simp))
  | _=>exact absurd (show false=true from hs) QaT
 | str i=>
  obtain⟨t,rfl⟩:=rx
  cases y with
  | non=>cases ry;exact PySem.EqNone.eq_str_none (Bw I q (by simp))
  | bl j=>cases ry;exact PySem.EqMixed.eq_str_bool (Bw I q (by simp))
  | int j=>obtain⟨t',rfl⟩:=ry;exact PySem.EqMixed.eq_str_int (Bw I q (by simp))
  | str j=>obtain⟨t',rfl⟩:=ry;exact eq_str (Bw I q cH)
  | _=>exact absurd (show false=true from hs) QaT
 | byt i=>
  obtain⟨t,rfl⟩:=rx
  cases y with
  | byt j=>obtain⟨t',rfl⟩:=ry;exact PySem.W.eq_bytes (Bw I q cJ)
  | _=>exact absurd (show false=true from hs) QaT
 | _=>cases y <;> exact absurd (show false=true from hs) QaT
theorem dN:OpR X (compareOp .NotEq) rNe:=by
 intro pins s σ H x y v u Q I rx ry h
 obtain⟨hs,q⟩:=h
 cases x with
 | non=>
  cases rx
  cases y with
  | non=>cases ry;exact PySem.EqNone.ne_none_none (Bw I q (by simp))
  | bl j=>cases ry;exact PySem.EqNone.ne_none_bool (Bw I q (by simp))
  | int j=>obtain⟨t',rfl⟩:=ry;exact PySem.EqNone.ne_none_int (Bw I q (by simp))
  | str j=>obtain⟨t',rfl⟩:=ry;exact PySem.EqNone.ne_none_str (Bw I q (by simp))
  | _=>exact absurd (show false=true from hs) QaT
 | bl i=>
  cases rx
  cases y with
  | non=>cases ry;exact PySem.EqNone.ne_bool_none (Bw I q (by simp))
  | bl j=>cases ry;exact ne_bool (Bw I q (congrArg not jO))
  | str j=>obtain⟨t',rfl⟩:=ry;exact PySem.EqMixed.ne_bool_str (Bw I q (by simp))
  | _=>exact absurd (show false=true from hs) QaT
 | int i=>
  obtain⟨t,rfl⟩:=rx
  cases y with
  | non=>cases ry;exact PySem.EqNone.ne_int_none (Bw I q (by simp))
  | int j=>obtain⟨t',rfl⟩:=ry;exact ne_int (Bw I q (congrArg not cI))
  | str j=>obtain⟨t',rfl⟩:=ry;exact PySem.EqMixed.ne_int_str (Bw I q (by simp))
  | _=>exact absurd (show false=true from hs) QaT
 | str i=>
  obtain⟨t,rfl⟩:=rx
  cases y with
  | non=>cases ry;exact PySem.EqNone.ne_str_none (Bw I q (by simp))
  | bl j=>cases ry;exact PySem.EqMixed.ne_str_bool (Bw I q (by simp))
  | int j=>obtain⟨t',rfl⟩:=ry;exact PySem.EqMixed.ne_str_int (Bw I q (by simp))
  | str j=>obtain⟨t',rfl⟩:=ry;exact ne_str (Bw I q (congrArg not cH))
  | _=>exact absurd (show false=true from hs) QaT
 | byt i=>
  obtain⟨t,rfl⟩:=rx
  cases y with
  | byt j=>obtain⟨t',rfl⟩:=ry;exact PySem.W.ne_bytes (Bw I q (congrArg not cJ))
  | _=>exact absurd (show false=true from hs) QaT
 | _=>cases y <;> exact absurd (show false=true from hs) QaT
theorem TV:OpR X (compareOp .Lt) (rI0 λi j=>.bl (decide (i < j))):=dO λ_ _ _ _ _ _ _ q=>lt_int q
theorem MP:OpR X (compareOp .LtE) (rI0 λi j=>.bl (decide (i<=j))):=dO λ_ _ _ _ _ _ _ q=>le_int q
theorem WY:OpR X (compareOp .Gt) (rI0 λi j=>.bl (decide (j < i))):=dO λ_ _ _ _ _ _ _ q=>gt_int q
theorem xZ:OpR X (compareOp .GtE) (rI0 λi j=>.bl (decide (j<=i))):=dO λ_ _ _ _ _ _ _ q=>ge_int q
theorem iT:OpR X (compareOp .In) (λx y H Q=>∃i j,x=.str i/\y=.str j/\Q (.bl (!(Builtin.Str.occurrences j i 0 j.length 1).isEmpty)) H):=by
 intro pins s σ H x y v u Q I rx ry h
 obtain⟨i,j,rfl,rfl,q⟩:=h
 obtain⟨t,rfl⟩:=rx
 obtain⟨t',rfl⟩:=ry
 exact in_str (Bw I q rfl)
theorem uV:OpR X (compareOp .Is) (λx y H Q=>y=.non/\Q (.bl (decide (x=.non))) H):=by
 intro pins s σ H x y v u Q I rx ry h
 obtain⟨rfl,q⟩:=h
 cases ry
 refine is_none_gen (Bw I q ?_)
 cases x <;> first
  | (cases rx;rfl)
  | (obtain⟨t,rfl⟩:=rx;rfl)
theorem qW:OpR X (compareOp .IsNot) (λx y H Q=>y=.non/\Q (.bl (!decide (x=.non))) H):=by
 intro pins s σ H x y v u Q I rx ry h
 obtain⟨rfl,q⟩:=h
 cases ry
 refine isnot_none_gen (Bw I q ?_)
 cases x <;> first
  | (cases rx;rfl)
  | (obtain⟨t,rfl⟩:=rx;rfl)
theorem BJ (b:Expr) {op:CmpOp} (h:op≠.In:=by decide) (h2:op≠.NotIn:=by decide):behindInMarks op b=false:=by
 have e1:(op == CmpOp.In)=false:=by cases op <;> first | rfl | exact absurd rfl h
 have e2:(op == CmpOp.NotIn)=false:=by cases op <;> first | rfl | exact absurd rfl h2
 cases b <;> simp[behindInMarks,e1,e2]
theorem Hl {op:CmpOp} {r:R2} (ho:OpR X (compareOp op) r) (ha:PE X a ta) (hb:PE X b tb) (hm:behindInMarks op b=false):PE X (.Compare a [op] [b] pos) (tOp r ta tb):=by
 intro pins s σ H Q I h
 exact wpAny_Compare1 (oZ ha hb I h λv u s2 x y H2 I2 rx ry q=>ho pins s2 σ H2 x y v u Q I2 rx ry q) hm
def w6 (t:TE):TT:=fun σ H Q=>t σ H λx H'=>∃k,x=.bl k/\Q k H'
theorem Bt {op:CmpOp} {r:R2} (ho:OpR X (compareOp op) r) (ha:PE X a ta) (hb:PE X b tb) (hm:behindInMarks op b=false):PT X (.Compare a [op] [b] pos) (w6 (tOp r ta tb)):=by
 intro pins s σ H Q I h
 refine wpAny_isTrue_Compare1 (thn (ha pins s σ H _ I h) λv s1 ⟨x,H1,I1,r1,q1⟩=>thn (hb pins s1 σ H1 _ I1 q1) λu s2 ⟨y,H2,I2,r2,q2⟩=>
  thn (ho pins s2 σ H2 x y v u _ I2 r1 r2 q2) λc s3 ⟨z,H3,I3,r3,k,e,q3⟩=>?_) hm
 subst e
 cases r3
 exact Qbj ⟨H3,I3,q3⟩
def ux (r r':R2) (ta tb tc:TE):TE:=fun σ H Q=>ta σ H λx H1=>tb σ H1 λy H2=>r x y H2 λz H3=>∃k,z=.bl k /\
 (if k=true then tc σ H3 λw' H4=>r' y w' H4 Q else Q (.bl false) H3)
theorem Ox {op op':CmpOp} {r r':R2} (ho:OpR X (compareOp op) r) (ho':OpR X (compareOp op') r') (ha:PE X a ta) (hb:PE X b tb) (hc:PE X c tc)
  (hm:lastMarks [op,op'] [b,c]=false:=by with_unfolding_all rfl):PE X (.Compare a [op,op'] [b,c] pos) (ux r r' ta tb tc):=by
 intro pins s σ H Q I h
 refine Compare_chain (thn (ha pins s σ H _ I h) λv s1 ⟨x,H1,I1,r1,q1⟩=>chain_link (thn (hb pins s1 σ H1 _ I1 q1) λu s2 ⟨y,H2,I2,r2,q2⟩=>
  thn (ho pins s2 σ H2 x y v u _ I2 r1 r2 q2) λd s3 ⟨z,H3,I3,r3,k,e,q3⟩=>?_)) hm
 subst e
 cases r3
 refine Qbj ?_
 cases k with
 | false=>exact ite_ff ⟨.bl false,H3,I3,rfl,q3⟩
 | true=>exact ite_tt (chain_last (thn (hc pins s3 σ H3 _ I3 q3) λw' s4 ⟨z',H4,I4,r4,q4⟩=>ho' pins s4 σ H4 y z' u w' Q I4 r2 r4 q4))
def wW (K:YD) (x:V) (H:Hp) (k:Bool):Prop:=
 match x with
 | .non=>k=false
 | .bl b=>k=b
 | .int i=>k=(i != 0)
 | .str y=>y.length<=sizeLine/\k=((y.length:Int) != 0)
 | .byt y=>y.size<=sizeLine/\k=((y.size:Int) != 0)
 | .ref p=>(∃xs,SqL K H p xs/\k=!xs.isEmpty)\/(∃xs,SqT K H p xs/\k=!xs.isEmpty)\/∃kvs,H p=some (.dK kvs)/\k=!kvs.isEmpty
 | _=>False
theorem eV {κ : Type} {kvs:List (κ×V)} {vs:List (κ×Value)} (r:KV kvs vs):(!vs.isEmpty)=!kvs.isEmpty:=by
 cases r <;> rfl
theorem Ue {xs:YG} {its:YE} (r:Vals xs its):(!its.toArray.isEmpty)=!xs.isEmpty:=by
 cases r <;> simp
theorem Ms:(sizeLine:Nat) < 2 ^ 63:=by rw[Qco];decide
theorem tW:FO X (λx H Q=>∃k,wW X.K x H k/\Q k H):=by
 intro pins s σ H x v Q I rx h
 obtain⟨k,e,q⟩:=h
 have hl:=Ms
 have hs:sizeLine=16777216:=Qco
 cases x with
 | non=>
  cases rx
  have e':k=false:=e
  subst e'
  exact truthy_none ⟨H,I,q⟩
 | bl b=>
  cases rx
  have e':k=b:=e
  subst e'
  exact Qbj ⟨H,I,q⟩
 | int i=>
  obtain⟨t,rfl⟩:=rx
  have e':k=(i != 0):=e
  subst e'
  exact PySem.P.truthy_int ⟨H,I,q⟩
 | str y=>
  obtain⟨t,rfl⟩:=rx
  obtain⟨hy,e'⟩ : y.length<=sizeLine/\k=((y.length:Int) != 0):=e
  subst e'
  exact PySem.P.truthy_str (by omega) ⟨H,I.tok _,q⟩
 | byt y=>
  obtain⟨t,rfl⟩:=rx
  obtain⟨hy,e'⟩ : y.size<=sizeLine/\k=((y.size:Int) != 0):=e
  subst e'
  exact PySem.W.truthy_bytes (by omega) ⟨H,I.tok _,q⟩
 | ref p=>
  cases rx
  have e':(∃xs,SqL X.K H p xs/\k=!xs.isEmpty)\/(∃xs,SqT X.K H p xs/\k=!xs.isEmpty)\/∃kvs,H p=some (.dK kvs)/\k=!kvs.isEmpty:=e
  rcases e' with⟨xs,hx,e'⟩|⟨xs,hx,e'⟩|⟨kvs,hx,e'⟩
  ·subst e'
   obtain⟨its,r,pl,hz⟩:=I.list hx
   have hlen:=r.length
   exact wpAny_truthy_list pl.isList (by simp only[Qbe];omega) ⟨H,I.tok _,by rw[Ue r];exact q⟩
  ·subst e'
   obtain⟨its,r,pl,hz⟩:=I.tuple hx
   have hlen:=r.length
   exact truthy_tuple pl (by simp only[Qbe];omega) ⟨H,I.tok _,by rw[Ue r];exact q⟩
  ·subst e'
   obtain⟨hz,hS,vs,r,m⟩ : kvs.length<=sizeLine/\(p == sysModules)=false/\∃vs,KV kvs vs/\s.heap.DictOf (CP X.prog X.w) p vs:=I.hok p _ hx
   have hlen:kvs.length=vs.length:=QbS r
   exact wpAny_truthy_dict hS m (by omega) ⟨H,I.tok _,by rw[eV r];exact q⟩
 | _=>exact (show False from e).elim
theorem mG (ha:PE X a ta) (he:∀whole,isTrue a X.env whole=(do let v <-whole;standAt a.pos;holding [v] (truthy v))) :
  PT X a (fun σ H Q=>ta σ H λx H'=>∃k,wW X.K x H' k/\Q k H'):=by
 intro pins s σ H Q I h
 refine isTrue_plain (thn (ha pins s σ H _ I h) λv s1 zz=>?_) (he _)
 obtain⟨x,H1,I1,r1,q1⟩:=zz
 exact tW pins s1 σ H1 x v Q I1 r1 q1
theorem T4:OpR X (binaryOp .Add) (λx y H Q=>∃i j,x=.str i/\y=.str j/\i.length+j.length<=sizeLine/\Q (.str (i++j)) H):=by
 intro pins s σ H x y v u Q I rx ry h
 obtain⟨i,j,rfl,rfl,hz,q⟩:=h
 obtain⟨t,rfl⟩:=rx
 obtain⟨t',rfl⟩:=ry
 exact add_str (λt' tk=>⟨.str (i++j),H,I.tok _,⟨_,rfl⟩,q⟩) hz
theorem vals1 {x:V} {us:YE} (r:Vals [x] us):∃u,us=[u]/\RelV x u:=by
 cases r with
 | cons r1 r2=>cases r2;exact⟨_,rfl,r1⟩
theorem vals2 {x y:V} {us:YE} (r:Vals [x,y] us):∃u w',us=[u,w']/\RelV x u/\RelV y w':=by
 cases r with
 | cons r1 r2=>
  cases r2 with
  | cons r3 r4=>cases r4;exact⟨_,_,rfl,r1,r3⟩
theorem Zw:Fi X (.builtin "abs") (λxs H Q=>∃i,xs=[.int i]/\Q (.int (if i < 0 then -i else i)) H):=by
 intro pins s σ H xs us Q I r h
 obtain⟨i,rfl,q⟩:=h
 obtain⟨u,rfl,t,rfl⟩:=vals1 r
 exact call_abs_int λu tk=>⟨.int (if i < 0 then -i else i),H,I.tok _,⟨_,rfl⟩,q⟩
theorem jX (hc:X.calm=true):Fi X (.builtin "max") (λxs H Q=>∃i j,xs=[.int i,.int j]/\Q (.int (if j > i then j else i)) H):=by
 intro pins s σ H xs us Q I r h
 obtain⟨i,j,rfl,q⟩:=h
 obtain⟨u,w',rfl,⟨t,rfl⟩,⟨t',rfl⟩⟩:=vals2 r
 refine max_two_ints (I.ok.hd hc) λh' tk k=>⟨_,H,I.kept k,?_,q⟩
 by_cases hj:j > i
 ·rw[if_pos hj,if_pos hj];exact⟨_,rfl⟩
 ·rw[if_neg hj,if_neg hj];exact⟨_,rfl⟩
theorem Nf (hc:X.calm=true):Fi X (.builtin "min") (λxs H Q=>∃i j,xs=[.int i,.int j]/\Q (.int (if j < i then j else i)) H):=by
 intro pins s σ H xs us Q I r h
 obtain⟨i,j,rfl,q⟩:=h
 obtain⟨u,w',rfl,⟨t,rfl⟩,⟨t',rfl⟩⟩:=vals2 r
 refine min_two_ints (I.ok.hd hc) λh' tk k=>⟨_,H,I.kept k,?_,q⟩
 by_cases hj:j < i
 ·rw[if_pos hj,if_pos hj];exact⟨_,rfl⟩
 ·rw[if_neg hj,if_neg hj];exact⟨_,rfl⟩
theorem jZ:Fi X (.type "int") (λxs H Q=>(∃i,xs=[.int i]/\Q (.int i) H)\/∃k,xs=[.bl k]/\Q (.int (if k then 1 else 0)) H):=by
 intro pins s σ H xs us Q I r h
 rcases h with⟨i,rfl,q⟩|⟨k,rfl,q⟩
 ·obtain⟨u,rfl,t,rfl⟩:=vals1 r
  exact call_int_int ⟨.int i,H,I,⟨_,rfl⟩,q⟩
 ·obtain⟨u,rfl,r1⟩:=vals1 r
  cases r1
  exact call_int_bool ⟨.int (if k then 1 else 0),H,I.tok _,⟨_,rfl⟩,q⟩
end
structure Tc (h:Heap) (x dx C:Addr) (mA:YB):Prop where
 obj:h.get? x=some (instObj C dx)
 ns:h.Ns1 dx mA
 ne:dx≠x
theorem jg {h:Heap} {dx:Addr} {mA:YB} (n:h.Ns1 dx mA):∃od,h.get? dx=some od/\∀name,lookIn name od=some (mA name):=by
 obtain⟨o,es,ep,ho,hd,hk,_,hm⟩:=n
 refine⟨o,ho,λname=>?_⟩
 have e:=hm name
 unfold nsFind findBy at e
 rw[<-Array.find?_toList] at e
 unfold lookIn
 rw[hd]
 dsimp only
 split
 ·rename_i y q
  rw[q] at e
  exact congrArg some e
 ·rename_i q
  rw[q] at e
  have a:es.toList.any (·.refKey)=false:=by
   rw[List.any_eq_false]
   intro y hy
   obtain⟨z,t,hkey⟩:=hk y (Array.mem_toList_iff.mp hy)
   simp[DictEntry.refKey,hkey]
  have a':¬es.toList.any (·.refKey)=true:=by rw[a];exact QaT
  rw[if_neg a']
  exact congrArg some e
theorem Tc.look {h:Heap} {x dx C:Addr} {mA:YB} (I:Tc h x dx C mA):∃od,PySem.W.InstAt h x (instObj C dx) C (some od)/\∀name,lookIn name od=some (mA name):=
 let ⟨od,ho,hl⟩:=jg I.ns
 ⟨od,⟨I.obj,rfl,rfl,ho⟩,hl⟩
section
variable {prog:Program} {w:World} {A:Around} {E:YA} {s:Shared} {K:YD} {x dx C f:Addr} {mA:YB} {name:Str} {v:Value}
theorem get_map {expr:Bool} {Q:YA} (X:K.In s.heap) (I:Tc s.heap x dx C mA) (hg:plainGet K C name=true) (hh:hasDictIn K C=true)
  (ha:findIn K (.ref C) name=some none) (hv:mA name=some v) (hv':PySem.W.handedIn v=true) (h:Q v { s with toks:=s.toks+1 }) :
  wpAny (model prog w) A (getAttr (.ref x) name expr) Q E s:=by
 obtain⟨od,J,hl⟩:=I.look
 exact PySem.W.get_value X J (PySem.W.plainGet_of hg).1 (PySem.W.findObj_own hh ha rfl (by rw[hl,hv])) hv' h
theorem oK {pl:Sem Bool} {Q:Value×YE->Shared->Prop} (X:K.In s.heap) (I:Tc s.heap x dx C mA) (hg:plainGet K C name=true)
  (hf:findIn K (.ref C) name=some (some (.ref f))) (ht:isFn K (.ref f)=true) (hv:mA name=none) (h:Q (.ref f,[.ref x]) s) :
  wpAny (model prog w) A (getMethod (.ref x) name pl) Q E s:=by
 obtain⟨od,J,hl⟩:=I.look
 exact PySem.W.method_fn X J (PySem.W.plainGet_of hg).1 (PySem.W.plainGet_of hg).2 hf (beq_iff_eq.mp ht) (by show (lookIn name od).map (·.isSome)=some false;rw[hl,hv];rfl) h
theorem qK {ns:YF} {Q:YH} (X:K.In s.heap) (I:Tc s.heap x dx C mA)
  (hs:findIn K (.ref C) "__setattr__"=some (some (.builtin "object.__setattr__"))) (hp:PySem.W.plainOver K C=true) (ht:PySem.W.takerIn K C name=some none) (hh:hasDictIn K C=true)
  (hw:PySem.Within mA ns) (hsz:ns.length<=sizeLine)
  (h:∀h',Tc h' x dx C (λy=>if y=name then some v else mA y)->Heap.SameBut dx s.heap h'->Q () { s with heap:=h',toks:=s.toks+2 }) :
  wpAny (model prog w) A (setAttr (.ref x) name v) Q E s:=by
 obtain⟨od,J,hl⟩:=I.look
 refine PySem.W.set_plain X J hs (PySem.W.osa_open (s:={ s with toks:=s.toks+1 }) (r:=none) X J hp ht λb=>?_)
 obtain⟨cd,hc,hd'⟩:=PySem.W.any_some hh
 have hx:s.heap.get? x=some ⟨.ref C,some dx,.plain,#[]⟩:=I.obj
 refine Qcp (Qcq (Qcp (Qcp (wpAny_loadPart hx (Qcp (PySem.W.Looks.here (s:={ s with toks:=s.toks+1 }) (PySem.W.looks_clsIn X hc) ?_))))))
 rw[hd']
 refine Qcq (a:=some dx) (Qcp (Qcq (Qcp ?_)))
 refine wpAny_nsSet1 (s:={ s with toks:=s.toks+1 }) I.ns λh' hn2 hs2=>?_
 obtain⟨oD,esD,epD,hoD,hdD,hcD⟩:=hn2.count (PySem.Within.cons name v hw)
 refine Qcp (wpAny_lookBehind hoD (by rw[hdD];exact pastItsLine_dict (Qce hcD (by rw[Qbp];omega))) ?_)
 exact Qcq (h _ ⟨(hs2.2 _ (Ne.symm I.ne)).trans I.obj,hn2,I.ne⟩ hs2)
theorem nY {R:Result->Shared->Prop} {vs:YE} {kw:List (Str×Value)} (X:K.In s.heap) (hm:makesIn K C=true)
  (hi:findIn K (.ref C) "__init__"=some (some (.ref f))) (hf:PySem.W.typeIn K (.ref f)=some (.type "function"))
  (h:codeAny (model prog w) (A.under (.builtin "type.__call__" ⟨.ref C::vs,kw⟩)) (.call (.ref f) ⟨.ref (s.heap.objs.size+1)::vs,kw⟩) (PySem.W.InitBack (s.heap.objs.size+1) R)
   { s with heap:=(s.heap.push emptyDict).push (instObj C s.heap.objs.size) }) :
  codeAny (model prog w) A (.call (.ref C) ⟨vs,kw⟩) R s:=by
 obtain⟨hh,g,d,t,os⟩:=s
 exact PySem.W.make_core (PySem.W.makes_of X hm) (PySem.W.looks_findIn X hi) (λself=>PySem.W.bind_fn X self hf) (.inl rfl) h
end
def GJ (f:Str) (v:V):List (Str×V)->List (Str×V)
 | []=>[(f,v)]
 | (g,x)::r=>if g=f then (g,v)::r else (g,x)::GJ f v r
theorem RJ (f g:Str) (v:V):∀fs:List (Str×V),(GJ f v fs).lookup g=if g=f then some v else fs.lookup g
 | []=>by
  show List.lookup g [(f,v)]=_
  by_cases h:g=f
  ·have hb:(g == f)=true:=beq_iff_eq.mpr h
   simp only[List.lookup,hb,if_pos h]
  ·have hb:(g == f)=false:=QaJ.mpr h
   simp only[List.lookup,hb,if_neg h]
 | (k,x)::r=>by
  have ih:=RJ f g v r
  rw[show GJ f v ((k,x)::r)=(if k=f then (k,v)::r else (k,x)::GJ f v r) from rfl]
  by_cases hk:k=f
  ·rw[if_pos hk]
   by_cases h:g=k
   ·have hb:(g == k)=true:=beq_iff_eq.mpr h
    simp only[List.lookup,hb,if_pos (h.trans hk)]
   ·have hb:(g == k)=false:=QaJ.mpr h
    simp only[List.lookup,hb,if_neg (λe:g=f=>h (e.trans hk.symm))]
  ·rw[if_neg hk]
   by_cases h:g=k
   ·have hb:(g == k)=true:=beq_iff_eq.mpr h
    simp only[List.lookup,hb,if_neg (λe:g=f=>hk (h.symm.trans e))]
   ·have hb:(g == k)=false:=QaJ.mpr h
    simp only[List.lookup,hb]
    exact ih
theorem Qv (f:Str) (v:V):∀fs:List (Str×V),f∈(GJ f v fs).map (·.1)/\∀g,g∈fs.map (·.1)->g∈(GJ f v fs).map (·.1)
 | []=>⟨by simp[GJ],λg h=>by simp at h⟩
 | (k,x)::r=>by
  obtain⟨i1,i2⟩:=Qv f v r
  rw[show GJ f v ((k,x)::r)=(if k=f then (k,v)::r else (k,x)::GJ f v r) from rfl]
  by_cases hk:k=f
  ·rw[if_pos hk]
   subst hk
   exact⟨by simp,λg h=>by simpa using h⟩
  ·rw[if_neg hk]
   refine⟨?_,λg h=>?_⟩
   ·rw[QbU]
    exact QaF _ i1
   ·rw[QbU] at h ⊢
    rcases QbT.mp h with e | e
    ·exact QbT.mpr (.inl e)
    ·exact QaF _ (i2 g e)
theorem RK (f:Str) (v:V):∀fs:List (Str×V),(GJ f v fs).length<=fs.length+1
 | []=>by simp[GJ]
 | (k,x)::r=>by
  have ih:=RK f v r
  rw[show GJ f v ((k,x)::r)=(if k=f then (k,v)::r else (k,x)::GJ f v r) from rfl]
  by_cases hk:k=f
  ·rw[if_pos hk,Qbp,Qbp];omega
  ·rw[if_neg hk,Qbp,Qbp];omega
theorem GK.some_of {v:V} {o:Option Value} (r:GK (some v) o):∃u,o=some u/\RelV v u:=by
 cases o with
 | none=>exact (show False from r).elim
 | some u=>exact⟨u,rfl,r⟩
theorem GK.none_of {o:Option Value} (r:GK none o):o=none:=by
 cases o with
 | none=>rfl
 | some u=>exact (show False from r).elim
theorem jx {v:V} {u:Value} (r:RelV v u):PySem.W.handedIn u=true:=by
 cases v with
 | non=>cases (show u=Value.none from r);rfl
 | bl b=>cases (show u=Value.bool b from r);rfl
 | int i=>obtain⟨t,e⟩:=(show ∃t,u=Value.int i t from r);cases e;rfl
 | str x=>obtain⟨t,e⟩:=(show ∃t,u=Value.str x t from r);cases e;rfl
 | byt b=>obtain⟨t,e⟩:=(show ∃t,u=Value.bytes b t from r);cases e;rfl
 | flt b=>obtain⟨t,e⟩:=(show ∃t,u=Value.float b t from r);cases e;rfl
 | ref a=>cases (show u=Value.ref a from r);rfl
 | ty n=>cases (show u=Value.type n from r);rfl
section
variable {P:Program} {w:World} {H H':Hp} {h h':Heap} {a C dx:Addr} {fs fs':List (Str×V)}
theorem Q9 (hok:HOk P w H h) (e:H a=some (.ins C dx fs)):∃mA,Tc h a dx C mA/\(∀f,GK (fs.lookup f) (mA f))/\PySem.Within mA (fs.map (·.1))/\fs.length<=1000/\H dx=some (.own a):=by
 obtain⟨d,z,ne,ob,mA,n,r,q⟩:=(show Bs P w H h a (.ins C dx fs) from hok a _ e)
 exact⟨mA,⟨ob,n,ne⟩,r,q,z,d⟩
end
structure Cls (K:YD) (C:Addr):Prop where
 pg:plainGet K C Str.empty=true
 hd:hasDictIn K C=true
 po:PySem.W.plainOver K C=true
 sa:findIn K (.ref C) "__setattr__"=some (some (.builtin "object.__setattr__"))
theorem Cls.get {K:YD} {C:Addr} (c:Cls K C) (f:Str):plainGet K C f=true:=c.pg
def Ih (K:YD) (C:Addr) (f:Str):Prop:=findIn K (.ref C) f=some none
theorem Ih.taker {K:YD} {C:Addr} {f:Str} (n:Ih K C f):PySem.W.takerIn K C f=some none:=by
 unfold PySem.W.takerIn
 rw[show findIn K (.ref C) f=some none from n]
 rfl
structure Meth (K:YD) (C:Addr) (m:Str) (f:Addr):Prop where
 at_:findIn K (.ref C) m=some (some (.ref f))
 fn:isFn K (.ref f)=true
 kp:keepIn K (.ref f)=true
section
variable {X:Cx} {pins:YC} {σ : St} {H:Hp} {s:Shared} {a C dx:Addr} {fs:List (Str×V)} {f:Str} {v:V} {A:Around} {E:YA}
theorem eZ {b:Bool} {Q:YA} (I:Inv X pins σ H s) (e:H a=some (.ins C dx fs)) (c:Cls X.K C) (n:Ih X.K C f) (l:fs.lookup f=some v)
  (h:∀u s',Inv X pins σ H s'->RelV v u->Q u s'):wpAny (model X.prog X.w) A (getAttr (.ref a) f b) Q E s:=by
 obtain⟨mA,O,r,_,_,_⟩:=Q9 I.hok e
 obtain⟨u,hu,ru⟩:=GK.some_of (v:=v) (o:=mA f) (by rw[<-l];exact r f)
 exact get_map I.kIn O (c.get f) c.hd n hu (jx ru) (h u _ (I.tok _) ru)
theorem O4 {m:Str} {g:Addr} {pl:Sem Bool} {Q:Value×YE->Shared->Prop} (I:Inv X pins σ H s) (e:H a=some (.ins C dx fs)) (c:Cls X.K C) (k:Meth X.K C m g) (l:fs.lookup m=none)
  (h:Q (.ref g,[.ref a]) s):wpAny (model X.prog X.w) A (getMethod (.ref a) m pl) Q E s:=by
 obtain⟨mA,O,r,_,_,_⟩:=Q9 I.hok e
 have hn:mA m=none:=GK.none_of (by rw[<-l];exact r m)
 exact oK I.kIn O (c.get m) k.at_ k.fn hn h
theorem dj {y:V} {u:Value} {Q:YH} (I:Inv X pins σ H s) (e:H a=some (.ins C dx fs)) (c:Cls X.K C) (n:Ih X.K C f) (hl:fs.length < 1000) (ry:RelV y u)
  (h:∀s',Inv X pins σ (upd H a (.ins C dx (GJ f y fs))) s'->Q () s'):wpAny (model X.prog X.w) A (setAttr (.ref a) f u) Q E s:=by
 obtain⟨mA,O,r,wi,_,ho⟩:=Q9 I.hok e
 have hz:(fs.map (·.1)).length<=sizeLine:=by rw[Qbx,Qco];omega
 refine qK I.kIn O c.sa c.po n.taker c.hd wi hz λh' O' sb=>h _ ?_
 have hd:∃o,h'.get? dx=some o:=let ⟨o,_,_,e',_⟩:=O'.ns;⟨o,e'⟩
 refine I.write (x:=a) (e:=dx) (by rw[e];exact True.intro) (.inr ho) (λb q hb z=>(sb.2 b hb).trans z) hd ?_
 refine⟨by rw[Al O.ne];exact ho,?_,O.ne,O'.obj,_,O'.ns,λg=>?_,λg hg=>?_⟩
 ·have:=RK f y fs;omega
 ·show GK ((GJ f y fs).lookup g) (if g=f then some u else mA g)
  rw[RJ]
  by_cases q:g=f
  ·rw[if_pos q,if_pos q];exact ry
  ·rw[if_neg q,if_neg q];exact r g
 ·by_cases q:g=f
  ·rw[q];exact (Qv f y fs).1
  ·refine (Qv f y fs).2 g (wi g λz=>hg ?_)
   show (if g=f then some u else mA g)=none
   rw[if_neg q];exact z
theorem Inv.made (I:Inv X pins σ H s):Inv X pins σ (upd (upd H s.heap.objs.size (.own (s.heap.objs.size+1))) (s.heap.objs.size+1) (.ins C s.heap.objs.size []))
  { s with heap:=(s.heap.push emptyDict).push (instObj C s.heap.objs.size) }:=by
 have e1:(s.heap.push emptyDict).get? s.heap.objs.size=some emptyDict:=QaI s.heap rfl
 have e2:((s.heap.push emptyDict).push (instObj C s.heap.objs.size)).get? (s.heap.objs.size+1)=some (instObj C s.heap.objs.size):=by
  have:=QaI (s.heap.push emptyDict) (o:=instObj C s.heap.objs.size) rfl
  rwa [QbO] at this
 have e3:(s.heap.push emptyDict).Ns s.heap.objs.size (λ_=>none):=⟨emptyDict,#[],_,e1,rfl,(λe he=>absurd he (by simp)),λ_=>rfl⟩
 have I1:=I.laid (a:=s.heap.objs.size) (o:=.own (s.heap.objs.size+1)) (h':=s.heap.push emptyDict) (t':=s.toks) (λb u q=>Qav _ q) (Qck _) ⟨_,e1⟩
 refine I1.laid (a:=s.heap.objs.size+1) (o:=.ins C s.heap.objs.size []) (t':=s.toks) (λb u q=>Qav _ q) (Nat.le_of_eq (QbO _ _)) ?_
 have ne:s.heap.objs.size≠s.heap.objs.size+1:=Qcd (Qbu _)
 refine⟨by rw[Al ne,Ab],Qcl _,ne,e2,λ_=>none,(Heap.Ns1.of_empty e3).at λo q=>Qav _ q,λ_=>True.intro,λy hy=>absurd rfl hy⟩
theorem sJ {prog:Program} {w:World} {env:Env} {e:Expr} {f:Str} {pos:Pos} {s:Shared} {Q:YA} (hb:attributeBase e f env (eval e env)=eval e env)
  (h:wpAny (model prog w) A (eval e env) (λo s₁=>wpAny (model prog w) A (getAttr o f true) Q E s₁) E s):wpAny (model prog w) A (eval (.Attribute e f pos) env) Q E s:=
 Attribute_any_ h (by rw[arm_eval_Attribute,hb])
end
def uh (K:YD) (ta:TE) (f:Str):TE:=fun σ H Q=>ta σ H λx H1=>∃a C dx fs v,x=.ref a/\H1 a=some (.ins C dx fs)/\Cls K C/\Ih K C f/\fs.lookup f=some v/\Q v H1
section
variable {X:Cx} {o e value:Expr} {f:Str} {pos pos' tpos:Pos} {ta tv:TE}
theorem CV (he:PE X e ta) (hb:attributeBase e f X.env (eval e X.env)=eval e X.env):PE X (.Attribute e f pos) (uh X.K ta f):=by
 intro pins s σ H Q I h
 refine sJ hb (thn (he pins s σ H _ I h) λu s1 zz=>?_)
 obtain⟨x,H1,I1,rx,a,C,dx,fs,v,ex,ea,c,n,l,q⟩:=zz
 subst ex
 obtain rfl:u=Value.ref a:=rx
 exact eZ I1 ea c n l λu' s2 I2 ru=>⟨v,H1,I2,ru,q⟩
theorem w5 {pl:Sem Bool} {m:Str} {apos:Pos} {args:YJ} {pins:YC} {s:Shared} {σ : St} {H:Hp} {Q:YA} {te:TE} (he:PE X e te) (I:Inv X pins σ H s)
  (h:te σ H λx H1=>∃a C dx fs g,x=.ref a/\H1 a=some (.ins C dx fs)/\Cls X.K C/\Meth X.K C m g/\fs.lookup m=none /\
   ∀s1,Inv X pins σ H1 s1->wpAny (model X.prog X.w) X.A (callWith pos (.ref g) [.ref a] (backTo pos (starEach args X.env)) (backToKw pos (keywordEach [] X.env))) Q X.xe s1)
  (ht:eval (.Call (.Attribute e m apos) args [] pos) X.env=(do
   let ov <-eval e X.env
   standAt apos.atName
   let (f,first) <-holding [ov] (getMethod ov m pl)
   callWith pos f first (backTo pos (starEach args X.env)) (backToKw pos (keywordEach [] X.env)))) :
  wpAny (model X.prog X.w) X.A (eval (.Call (.Attribute e m apos) args [] pos) X.env) Q X.xe s:=by
 refine PySem.W.methodCall_KW (pl:=pl) (thn (he pins s σ H _ I h) λu s1 zz=>?_) ht
 obtain⟨x,H1,I1,rx,a,C,dx,fs,g,ex,ea,c,k,l,q⟩:=zz
 subst ex
 obtain rfl:u=Value.ref a:=rx
 exact O4 I1 ea c k l (q s1 I1)
end
section
variable {X:Cx} {pins:YC} {σ : St} {H:Hp} {s:Shared} {A:Around} {E:YA} {Q:YA} {c:Value} {b:Bool}
inductive J0 (K:YD) (H:Hp):V->Value->Prop where
 | non:J0 K H .non (.type "NoneType")
 | bl (x:Bool):J0 K H (.bl x) (.type "bool")
 | int (i:Int):J0 K H (.int i) (.type "int")
 | str (x:Str):J0 K H (.str x) (.type "str")
 | flt (x:UInt64):J0 K H (.flt x) (.type "float")
 | lst {a:Addr} {xs:YG} (e:H a=some (.lst xs)):J0 K H (.ref a) (.type "list")
 | frz {a:Addr} {o:Obj} {xs:YG} (e:H a=some (.frz o (.lst xs))):J0 K H (.ref a) (.type "list")
 | tup {a:Addr} {xs:YG} (e:H a=some (.tup xs)):J0 K H (.ref a) (.type "tuple")
 | dK {a:Addr} {kvs:List (Key×V)} (e:H a=some (.dK kvs)):J0 K H (.ref a) (.type "dict")
 | dT {a:Addr} {kvs:List (List Key×V)} (e:H a=some (.dT kvs)):J0 K H (.ref a) (.type "dict")
 | ins {a C dx:Addr} {fs:List (Str×V)} (e:H a=some (.ins C dx fs)) (cl:Cls K C) (ha:findIn K (.ref C) "__class__"=some (some (.builtin "object.__class__")))
   (hn:PySem.W.specialIn K (.builtin "object.__class__") "__get__"=some (some (.builtin "getset_descriptor.__get__"))) (htk:PySem.W.takesIn K (.builtin "object.__class__")=some true)
   (hm:PySem.W.mroIn K C (.type "object")=some true):J0 K H (.ref a) (.ref C)
theorem jm {x:V} {u t:Value} (I:Inv X pins σ H s) (rx:RelV x u) (ty:J0 X.K H x t) (e:kitOne X.K t c=some b) (h:∀tk,Q (.bool b) { s with toks:=tk }) :
  wpAny (model X.prog X.w) A (call (.builtin "isinstance") [u,c]) Q E s:=by
 cases ty with
 | non=>cases (show u=Value.none from rx);exact kia_one PySem.W.kitx_none I.kIn True.intro e (λz=>nomatch z) h
 | bl y=>cases (show u=Value.bool y from rx);exact kia_one PySem.W.kitx_bool I.kIn True.intro e (λz=>nomatch z) h
 | int i=>obtain⟨t,q⟩:=(show ∃t,u=Value.int i t from rx);cases q;exact kia_one PySem.W.kitx_int I.kIn True.intro e (λz=>nomatch z) h
 | str y=>obtain⟨t,q⟩:=(show ∃t,u=Value.str y t from rx);cases q;exact kia_one PySem.W.kitx_str I.kIn True.intro e (λz=>nomatch z) h
 | flt y=>obtain⟨t,q⟩:=(show ∃t,u=Value.float y t from rx);cases q;exact kia_one PySem.W.kitx_float I.kIn True.intro e (λz=>nomatch z) h
 | @lst a xs ea=>
  cases (show u=Value.ref a from rx)
  obtain⟨_,_,n,_,h1⟩:=(show Bs X.prog X.w H s.heap a (.lst xs) from I.hok a _ ea)
  exact kia_one PySem.W.kitx_list I.kIn ⟨_,h1,rfl⟩ e (λz=>nomatch z) h
 | @frz a ob xs ea=>
  cases (show u=Value.ref a from rx)
  obtain⟨_,_,_,n,_,h1⟩:=(show Bs X.prog X.w H s.heap a (.frz ob (.lst xs)) from I.hok a _ ea)
  exact kia_one PySem.W.kitx_list I.kIn ⟨_,h1,rfl⟩ e (λz=>nomatch z) h
 | @tup a xs ea=>
  cases (show u=Value.ref a from rx)
  obtain⟨_,_,_,p⟩:=(show Bs X.prog X.w H s.heap a (.tup xs) from I.hok a _ ea)
  obtain⟨o,h1,h2,_⟩:=p
  exact kia_one PySem.W.kitx_tuple I.kIn ⟨o,h1,h2⟩ e (λz=>nomatch z) h
 | @dK a kvs ea=>
  cases (show u=Value.ref a from rx)
  obtain⟨_,_,vs,_,p⟩:=(show Bs X.prog X.w H s.heap a (.dK kvs) from I.hok a _ ea)
  obtain⟨o,es,ep,h1,h2,_⟩:=p
  exact kia_one PySem.W.kitx_dict I.kIn ⟨o,h1,h2.1⟩ e (λz=>nomatch z) h
 | @dT a kvs ea=>
  cases (show u=Value.ref a from rx)
  obtain⟨_,_,xs,_,o,es,ep,h1,h2,_⟩:=(show Bs X.prog X.w H s.heap a (.dT kvs) from I.hok a _ ea)
  exact kia_one PySem.W.kitx_dict I.kIn ⟨o,h1,h2.1⟩ e (λz=>nomatch z) h
 | @ins a C dx fs ea cl ha hn htk hm=>
  cases (show u=Value.ref a from rx)
  obtain⟨mA,O,_⟩:=Q9 I.hok ea
  obtain⟨od,J,_⟩:=O.look
  exact kia_one (PySem.W.kitx_own (cl.get _) cl.hd ha hn htk hm) I.kIn J e (λz=>nomatch z) h
end
structure CQ (k:Nat) (A:Around):Prop where
 hd:A.handled=none
 dp:A.depth+3*k+5 < recursionLimit
 un:A.units+16*k+200 < cLine
theorem CQ.mono {j k:Nat} {A:Around} (r:CQ k A) (h:j<=k):CQ j A:=⟨r.hd,by have:=r.dp;omega,by have:=r.un;omega⟩
theorem CQ.deeper {k:Nat} {A:Around} (r:CQ (k+1) A) (env:Env):CQ k (A.deeper env):=
 ⟨r.hd,by have:=r.dp;show A.depth+1+3*k+5 < _;omega,by have:=r.un;show A.units+3+16*k+200 < _;omega⟩
theorem CQ.in1 {k:Nat} {A:Around} (r:CQ (k+1) A):CQ k A.in1:=
 ⟨r.hd,by have:=r.dp;show A.depth+3*k+5 < _;omega,by have:=r.un;show A.units+1+16*k+200 < _;omega⟩
theorem eG {A:Around} {C:Addr} {us:YE} {kw:List (Str×Value)}:(A.under (.builtin "type.__call__" ⟨.ref C::us,kw⟩)).depth=A.depth+1:=by
 first | rfl | simp[Around.under,Code.weight,Code.isCreation,Code.isGuard,Code.isCaller,Code.frames,Code.isFrame,guardIds]
theorem eF {A:Around} {C:Addr} {us:YE} {kw:List (Str×Value)}:(A.under (.builtin "type.__call__" ⟨.ref C::us,kw⟩)).units=A.units+1:=by
 first | rfl | simp[Around.under,Code.cUnits,Code.frames,Code.isFrame]
theorem CQ.make {k:Nat} {A:Around} (r:CQ (k+1) A) (C:Addr) (us:YE) (kw:List (Str×Value)):CQ k (A.under (.builtin "type.__call__" ⟨.ref C::us,kw⟩)):=
 ⟨r.hd,by have:=r.dp;rw[eG];omega,by have:=r.un;rw[eF];omega⟩
theorem CQ.depth {k:Nat} {A:Around} (r:CQ k A):A.depth < recursionLimit:=by have:=r.dp;omega
theorem CQ.units {k:Nat} {A:Around} (r:CQ k A):A.units+64 < cLine:=by have:=r.un;omega
def cX:TA:=λ_ H Q=>Q [] H
def pI (ta:TE) (tr:TA):TA:=fun σ H Q=>ta σ H λx H1=>tr σ H1 λxs H2=>Q (x::xs) H2
section
variable {X:Cx} {e:Expr} {es:YJ} {te:TE} {t:TA} {pos:Pos}
theorem Ac:PA X [] cX:=λ_ _ _ _ H Q I h=>Calls.spliced_nil ⟨[],H,I,.nil,h⟩
theorem Aa (ha:PE X e te) (hr:PA X es t) (hs:starEach (e::es) X.env=(false,eval e X.env)::starEach es X.env:=by rfl):PA X (e::es) (pI te t):=by
 intro pos pins s σ H Q I h
 rw[hs]
 show wpAny _ _ (spliced ((false,eval e X.env)::backTo pos (starEach es X.env))) _ _ s
 refine Calls.spliced_cons (thn (ha pins s σ H _ I h) λu s1 zz=>?_)
 obtain⟨x,H1,I1,r1,q1⟩:=zz
 refine thn (hr pos pins s1 σ H1 _ I1 q1) λus s2 zz=>?_
 obtain⟨xs,H2,I2,r2,q2⟩:=zz
 exact⟨x::xs,H2,I2,.cons r1 r2,q2⟩
def yX (t:TA):TE:=fun σ H Q=>t σ H λxs H1=>xs.length<=sizeLine/\∀p,H1 p=none->Q (.ref p) (upd H1 p (.tup xs))
def zm (t:TA):TE:=fun σ H Q=>t σ H λxs H1=>xs.length<=sizeLine/\∀p,H1 p=none->Q (.ref p) (upd H1 p (.lst xs))
theorem Bh {x1} (h:PA X es t):PE X (.Tuple es x1 pos) (yX t):=by
 intro pins s σ H Q I hq
 refine wpAny_Tuple_spliced (thn (h pos pins s σ H _ I hq) λus s1 zz=>?_)
 obtain⟨xs,H1,I1,r,z,q⟩:=zz
 refine⟨by rw[<-r.length];exact z,?_⟩
 have hf:H1 s1.heap.objs.size=none:=I1.hok.fresh (Qck _)
 refine⟨.ref s1.heap.objs.size,upd H1 s1.heap.objs.size (.tup xs),I1.laid (t':=s1.toks) (λb u e=>Qav _ e) (Qck _) ?_,rfl,q _ hf⟩
 exact⟨z,us,r,⟨_,QaI _ rfl,rfl,_,rfl⟩⟩
theorem BW (h:PA X es t):PE X (.List es pos) (zm t):=by
 intro pins s σ H Q I hq
 refine wpAny_List_spliced (thn (h pos pins s σ H _ I hq) λus s1 zz=>?_)
 obtain⟨xs,H1,I1,r,z,q⟩:=zz
 refine⟨by rw[<-r.length];exact z,?_⟩
 have hf:H1 s1.heap.objs.size=none:=I1.hok.fresh (Qck _)
 refine⟨.ref s1.heap.objs.size,upd H1 s1.heap.objs.size (.lst xs),I1.laid (t':=s1.toks) (λb u e=>Qav _ e) (Qck _) ?_,rfl,q _ hf⟩
 exact⟨z,us,0,r,QaI _ rfl⟩
end
abbrev Sp:=YG->Hp->VK->XK->Prop
abbrev CXT:=List Env->Hp->Shared->XK->YA
structure N5 (P:Program) (w:World) (K:YD) (mg:YB) (base:Heap) (A:Around) (outer:List Env) (s:Shared) (H:Hp):Prop where
 frames:A.frames=some outer
 mod:Mod K mg base
 bs:∀b o,base.get? b=some o->s.heap.get? b=some o/\H b=none
 bsz:base.objs.size<=s.heap.objs.size
 Jw:s.heap.FunFrames base outer
 frf:∀b∈frs outer,H b=none
 hok:HOk P w H s.heap
 bare:AllBare s.gens
def CE (outer:List Env) (P:Program) (w:World) (H:Hp) (s:Shared) (Q:VK) (u:Value) (s':Shared):Prop:=
 ∃v H',s'.os=s.os/\AllBare s'.gens/\Un (frs outer) [] H H' s.heap s'.heap/\HOk P w H' s'.heap/\RelV v u/\Q v H'
def CR (CX:CXT) (outer:List Env) (P:Program) (w:World) (H:Hp) (s:Shared) (Q:VK) (E:XK) (r:Result) (s':Shared):Prop:=
 match r with
 | .ok (.ret u)=>CE outer P w H s Q u s'
 | .ok _=>False
 | .error e=>CX outer H s E e s'
structure Gn (P:Program) (w:World) (K:YD) (mg:YB) (base:Heap) (CX:CXT) (k:Nat) (f:Addr) (fd:FuncData) (ps:YF) (sp:Sp):Prop where
 len:∀vs H Q E,sp vs H Q E->vs.length=ps.length
 run:∀(A:Around) (outer:List Env) (s:Shared) (H:Hp) (args:Args) (us:YE) (vs:YG) (Q:VK) (E:XK),CQ k A->N5 P w K mg base A outer s H->BindsTo s fd args (ps.zip us)->Vals vs us->sp vs H Q E ->
  codeAny (model P w) A (.call (.ref f) args) (CR CX outer P w H s Q E) s
theorem Gn.imp {P:Program} {w:World} {K:YD} {mg:YB} {base:Heap} {CX:CXT} {k:Nat} {f:Addr} {fd:FuncData} {ps:YF} {sp sp':Sp} (F:Gn P w K mg base CX k f fd ps sp)
  (h:∀vs H Q E,sp' vs H Q E->sp vs H Q E):Gn P w K mg base CX k f fd ps sp':=
 ⟨λvs H Q E q=>F.len vs H Q E (h _ _ _ _ q),λA outer s H args us vs Q E hr he hb hv hs=>F.run A outer s H args us vs Q E hr he hb hv (h _ _ _ _ hs)⟩
theorem N5.make {P:Program} {w:World} {K:YD} {mg:YB} {base:Heap} {A:Around} {outer:List Env} {s:Shared} {H:Hp} (e:N5 P w K mg base A outer s H) (C:Addr) (us:YE) (kw:List (Str×Value)) :
  N5 P w K mg base (A.under (.builtin "type.__call__" ⟨.ref C::us,kw⟩)) outer s H:=⟨by first | exact e.frames | (simpa [Around.under,Code.envs,Code.isFrame,pushEnvs] using e.frames),e.mod,e.bs,e.bsz,e.Jw,e.frf,e.hok,e.bare⟩
theorem N5.in1 {P:Program} {w:World} {K:YD} {mg:YB} {base:Heap} {A:Around} {outer:List Env} {s:Shared} {H:Hp} (e:N5 P w K mg base A outer s H) :
  N5 P w K mg base A.in1 outer s H:=⟨e.frames,e.mod,e.bs,e.bsz,e.Jw,e.frf,e.hok,e.bare⟩
section
variable {X:Cx} {pins:YC} {σ : St} {H:Hp} {s s':Shared}
theorem Inv.env0 (I:Inv X pins σ H s):N5 X.prog X.w X.K X.mg X.base X.A X.stack s H:=
 ⟨I.ok.frames,I.ok.mod,I.bs,Qce I.ok.bsz I.sz,I.stack,I.aO,I.hok,I.bare⟩
theorem Inv.after {Q:VK} {u:Value} (I:Inv X pins σ H s) (h:CE X.stack X.prog X.w H s Q u s'):EP X pins σ Q u s':=by
 obtain⟨v,H',os,bare,un,hok,r,q⟩:=h
 obtain⟨hh,g,d,t,os'⟩:=s'
 obtain rfl:os'=s.os:=os
 exact⟨v,H',I.call (h':=hh) (g':=g) (d':=d) (t':=t) (ch:=[]) un hok bare (λb z=>absurd z (by simp)),r,q⟩
end
def pJ (sp:Sp) (dvs:YG) (E:XK) (t:TA):TE:=fun σ H Q=>t σ H λvs H1=>sp (vs++dvs) H1 Q E
def WQ (C:Addr) (m:Str) (sp:Sp) (dvs:YG) (E:XK) (ta:TE) (t:TA):TE:=fun σ H Q=>ta σ H λx H1=>∃a dx fs,x=.ref a/\H1 a=some (.ins C dx fs)/\fs.lookup m=none /\
 t σ H1 λvs H2=>sp (x::(vs++dvs)) H2 Q E
def pH (C:Addr) (sp:Sp) (dvs:YG) (E:XK) (t:TA):TE:=fun σ H Q=>t σ H λvs H1=>∀x dx,H1 x=none->H1 dx=none->dx≠x ->
 sp (.ref x::(vs++dvs)) (upd (upd H1 dx (.own x)) x (.ins C dx [])) (λv H2=>v=.non/\Q (.ref x) H2) E
def Binds (K:YD) (fd:FuncData) (ps:YF) (ds:YE):Prop:=
 ∀(s:Shared) (us:YE),K.In s.heap->(us++ds).length=ps.length->BindsTo s fd ⟨us,[]⟩ (ps.zip (us++ds))
theorem Binds.all {K:YD} {fd:FuncData} {ps:YF} (h:∀us:YE,us.length=ps.length->bindArgs fd ⟨us,[]⟩=pure (ps.zip us)):Binds K fd ps []:=λs us _ hl=>by
 rw[QbC] at hl ⊢
 exact .of_eq (h us hl)
def Passes (CX:CXT) (X:Cx) (E:XK):Prop:=∀(pins:YC) (σ : St) (H:Hp) (s:Shared) (e:Value) (s':Shared),Inv X pins σ H s->CX X.stack H s E e s'->X.xe e s'
section
variable {X:Cx} {CX:CXT} {k:Nat} {f C:Addr} {fd:FuncData} {ps:YF} {sp:Sp} {dvs:YG} {ds:YE} {E:XK} {x m:Str} {p pos apos:Pos} {e o:Expr} {es:YJ} {ta:TE} {t:TA}
theorem X8 {pins:YC} {σ : St} {H:Hp} {s:Shared} {Q:VK} {us:YE} {vs:YG} (F:Gn X.prog X.w X.K X.mg X.base CX k f fd ps sp) (hr:CQ k X.A) (hb:Binds X.K fd ps ds) (hd:Vals dvs ds) (hx:Passes CX X E)
  (I:Inv X pins σ H s) (r:Vals vs us) (h:sp (vs++dvs) H Q E):wpAny (model X.prog X.w) X.A (call (.ref f) us) (EP X pins σ Q) X.xe s:=by
 have r2:Vals (vs++dvs) (us++ds):=r.append hd
 have hl:(us++ds).length=ps.length:=by rw[<-r2.length];exact F.len _ _ _ _ h
 refine wpAny_call (codeAny_mono (F.run X.A X.stack s H ⟨us,[]⟩ (us++ds) (vs++dvs) Q E hr I.env0 (hb s us I.kIn hl) r2 h) λr s' hq=>?_)
 cases r with
 | error e=>exact hx pins σ H s e s' I hq
 | ok fl=>
  cases fl with
  | ret u=>exact I.after hq
  | next=>exact False.elim hq
  | brk=>exact False.elim hq
  | cont=>exact False.elim hq
theorem qU (F:Gn X.prog X.w X.K X.mg X.base CX k f fd ps sp) (hr:CQ k X.A) (hg:Gl X x) (hm:X.mg x=some (.ref f)) (hk:keepIn X.K (.ref f)=true) (hb:Binds X.K fd ps ds) (hd:Vals dvs ds) (hx:Passes CX X E)
  (ha:PA X (e::es) t) (hdb:(x == ("__debug__":Str))=false:=by decide) (he:starEach (e::es) X.env=(false,eval e X.env)::starEach es X.env:=by rfl) (hpl:(backTo pos (starEach es X.env)).any (·.1)=false:=by rfl) :
  PE X (.Call (.Name x p) (e::es) [] pos) (pJ sp dvs E t):=by
 intro pins s σ H Q I h
 refine Qbd (Vn I hg hm ?_ hdb)
 refine PySem.W.callWith_K (h₀:=X.base) I.ok.mod.kin hk (thn (ha pos pins s σ H _ I h) λus s1 zz=>?_) he hpl
 obtain⟨vs,H1,I1,r,q⟩:=zz
 refine⟨I1.kIn,?_⟩
 exact X8 F hr hb hd hx I1 r q
theorem qQ {pl:Sem Bool} (he:PE X o ta) (c:Cls X.K C) (hm:Meth X.K C m f) (F:Gn X.prog X.w X.K X.mg X.base CX k f fd ps sp) (hr:CQ k X.A) (hb:Binds X.K fd ps ds) (hd:Vals dvs ds) (hx:Passes CX X E) (ha:PA X (e::es) t)
  (hst:starEach (e::es) X.env=(false,eval e X.env)::starEach es X.env:=by rfl) (hpl:(backTo pos (starEach es X.env)).any (·.1)=false:=by rfl)
  (ht:eval (.Call (.Attribute o m apos) (e::es) [] pos) X.env=(do
   let ov <-eval o X.env
   standAt apos.atName
   let (f,first) <-holding [ov] (getMethod ov m pl)
   callWith pos f first (backTo pos (starEach (e::es) X.env)) (backToKw pos (keywordEach [] X.env))):=by rfl) :
  PE X (.Call (.Attribute o m apos) (e::es) [] pos) (WQ C m sp dvs E ta t):=by
 intro pins s σ H Q I h
 refine PySem.W.methodCall_KW (pl:=pl) (thn (he pins s σ H _ I h) λu s1 zz=>?_) ht
 obtain⟨x,H1,I1,rx,a,dx,fs,ex,ea,l,q⟩:=zz
 subst ex
 obtain rfl:u=Value.ref a:=rx
 refine O4 I1 ea c hm l ?_
 refine PySem.W.callWith_K (first:=[.ref a]) (h₀:=X.base) I.ok.mod.kin hm.kp (thn (ha pos pins s1 σ H1 _ I1 q) λus s2 zz=>?_) hst hpl
 obtain⟨vs,H2,I2,r,q2⟩:=zz
 refine⟨I2.kIn,?_⟩
 exact X8 (us:=.ref a::us) (vs:=.ref a::vs) F hr hb hd hx I2 (.cons rfl r) q2
theorem mO {pl:Sem Bool} (he:PE X o ta) (c:Cls X.K C) (hm:Meth X.K C m f) (F:Gn X.prog X.w X.K X.mg X.base CX k f fd ps sp) (hr:CQ k X.A) (hb:Binds X.K fd ps ds) (hd:Vals dvs ds) (hx:Passes CX X E)
  (ht:eval (.Call (.Attribute o m apos) [] [] pos) X.env=(do
   let ov <-eval o X.env
   standAt apos.atName
   let (f,first) <-holding [ov] (getMethod ov m pl)
   callWith pos f first (backTo pos (starEach [] X.env)) (backToKw pos (keywordEach [] X.env))):=by rfl) :
  PE X (.Call (.Attribute o m apos) [] [] pos) (WQ C m sp dvs E ta cX):=by
 intro pins s σ H Q I h
 refine PySem.W.methodCall_KW (pl:=pl) (thn (he pins s σ H _ I h) λu s1 zz=>?_) ht
 obtain⟨x,H1,I1,rx,a,dx,fs,ex,ea,l,q⟩:=zz
 subst ex
 obtain rfl:u=Value.ref a:=rx
 refine O4 I1 ea c hm l ?_
 exact PySem.W.callWith_K0 (first:=[.ref a]) I1.kIn hm.kp (X8 (us:=[.ref a]) (vs:=[.ref a]) F hr hb hd hx I1 (.cons rfl .nil) q)
structure Mk (K:YD) (C f:Addr):Prop where
 makes:makesIn K C=true
 init:findIn K (.ref C) "__init__"=some (some (.ref f))
 fn:isFn K (.ref f)=true
 kp:keepIn K (.ref C)=true
theorem lZ {pins:YC} {σ : St} {H:Hp} {s:Shared} {Q:VK} {us:YE} {vs:YG} (M:Mk X.K C f) (F:Gn X.prog X.w X.K X.mg X.base CX k f fd ps sp) (hr:CQ (k+1) X.A) (hb:Binds X.K fd ps ds) (hd:Vals dvs ds)
  (hx:Passes CX X E) (I:Inv X pins σ H s) (r:Vals vs us)
  (h:∀x dx,H x=none->H dx=none->dx≠x->sp (.ref x::(vs++dvs)) (upd (upd H dx (.own x)) x (.ins C dx [])) (λv H2=>v=.non/\Q (.ref x) H2) E) :
  wpAny (model X.prog X.w) X.A (call (.ref C) us) (EP X pins σ Q) X.xe s:=by
 have hq:=h (s.heap.objs.size+1) s.heap.objs.size (I.hok.fresh (Nat.le_succ _)) (I.hok.fresh (Qck _)) (Qcd (Qbu _))
 have I2:=Inv.made (C:=C) I
 have r2:Vals (V.ref (s.heap.objs.size+1)::(vs++dvs)) (Value.ref (s.heap.objs.size+1)::(us++ds)):=.cons rfl (r.append hd)
 have hl:(Value.ref (s.heap.objs.size+1)::us++ds).length=ps.length:=by
  have e:=r2.length
  rw[F.len _ _ _ _ hq] at e
  exact e.symm
 refine wpAny_call (nY (f:=f) I.kIn M.makes M.init (beq_iff_eq.mp M.fn) (codeAny_mono (F.run _ X.stack _ _ ⟨Value.ref (s.heap.objs.size+1)::us,[]⟩ (Value.ref (s.heap.objs.size+1)::(us++ds)) _ _ E (hr.make C us [])
  (I2.env0.make C us []) (hb _ (Value.ref (s.heap.objs.size+1)::us) I2.kIn hl) r2 hq) λr s' hq'=>?_))
 cases r with
 | error e=>exact hx pins σ _ _ e s' I2 hq'
 | ok fl=>
  cases fl with
  | ret u=>
   obtain⟨v,H',I3,rv,ev,q3⟩:=I2.after hq'
   subst ev
   exact⟨rv,⟨V.ref (s.heap.objs.size+1),H',I3,rfl,q3⟩⟩
  | next=>exact False.elim hq'
  | brk=>exact False.elim hq'
  | cont=>exact False.elim hq'
theorem qR (M:Mk X.K C f) (F:Gn X.prog X.w X.K X.mg X.base CX k f fd ps sp) (hr:CQ (k+1) X.A) (hg:Gl X x) (hm:X.mg x=some (.ref C)) (hb:Binds X.K fd ps ds) (hd:Vals dvs ds) (hx:Passes CX X E)
  (ha:PA X (e::es) t) (hdb:(x == ("__debug__":Str))=false:=by decide) (he:starEach (e::es) X.env=(false,eval e X.env)::starEach es X.env:=by rfl) (hpl:(backTo pos (starEach es X.env)).any (·.1)=false:=by rfl) :
  PE X (.Call (.Name x p) (e::es) [] pos) (pH C sp dvs E t):=by
 intro pins s σ H Q I h
 refine Qbd (Vn I hg hm ?_ hdb)
 refine PySem.W.callWith_K (h₀:=X.base) I.ok.mod.kin M.kp (thn (ha pos pins s σ H _ I h) λus s1 zz=>?_) he hpl
 obtain⟨vs,H1,I1,r,q⟩:=zz
 refine⟨I1.kIn,?_⟩
 exact lZ M F hr hb hd hx I1 r q
end
def PK (X:Cx) (kws:List Keyword) (t:TA):Prop:=
 ∀(pos:Pos) (pins:YC) (s:Shared) (σ : St) (H:Hp) (Q:YG->Hp->Prop),Inv X pins σ H s->t σ H Q->wpAny (model X.prog X.w) X.A (evalAll ((backToKw pos (keywordEach kws X.env)).map (·.2))) (AP X pins σ Q) X.xe s
section
variable {X:Cx} {CX:CXT} {k:Nat} {f C:Addr} {fd:FuncData} {ps ks:YF} {sp:Sp} {E:XK} {x m:Str} {p pos apos kpos:Pos} {e o:Expr} {es:YJ} {kws:List Keyword} {te ta:TE} {t tk:TA} {nm:Option Str}
theorem uO:PK X [] cX:=λ_ _ _ _ H Q I h=>wpAny_evalAll_nil ⟨[],H,I,.nil,h⟩
theorem qP (ha:PE X e te) (hr:PK X kws t):PK X (⟨nm,e,kpos⟩::kws) (pI te t):=by
 intro pos pins s σ H Q I h
 show wpAny _ _ (evalAll ((do let v <-eval e X.env;standAt pos;pure v)::(backToKw pos (keywordEach kws X.env)).map (·.2))) _ _ s
 refine wpAny_evalAll_cons (Qcp (thn (ha pins s σ H _ I h) λu s1 zz=>?_))
 obtain⟨x,H1,I1,r1,q1⟩:=zz
 refine Qcp (QbY (Qcq ?_))
 refine thn (hr pos pins s1 σ H1 _ I1 q1) λus s2 zz=>?_
 obtain⟨xs,H2,I2,r2,q2⟩:=zz
 exact⟨x::xs,H2,I2,.cons r1 r2,q2⟩
variable {g:YE->YE->YE} {gV:YG->YG->YG}
end
structure Ay (N P:YF) (sc:Scope):Prop where
 kind:sc.kind=.function
 co:sc.isCoroutine=false
 gen:sc.isGenerator=false
 nd:N.Nodup
 pre:N.take P.length=P
 par:∀x∈P,sc.names.lookup x=some .local\/sc.names.lookup x=some .cell
 Yz:∀y∈sc.names,y.2≠.free
theorem Wg {kindOf:Str->Option NameKind} {x:Str}:∀{binds:List (Str×Value)} {m:YB},(∀v,(x,v)∉binds)->bindL kindOf binds m x=m x
 | [],_,_=>rfl
 | (n,v)::r,m,h=>by
  unfold bindL
  rw[Wg λw hw=>h w (QaF _ hw)]
  split
  ·have:x≠n:=by rintro rfl;exact h v QaQ
   simp[this]
  ·rfl
theorem Wi {kindOf:Str->Option NameKind} {x:Str}:∀{binds:List (Str×Value)} {m:YB},(∀v,(x,v)∉binds)->bindC kindOf binds m x=m x
 | [],_,_=>rfl
 | (n,v)::r,m,h=>by
  unfold bindC
  rw[Wi λw hw=>h w (QaF _ hw)]
  split
  ·rfl
  ·have:x≠n:=by rintro rfl;exact h v QaQ
   simp[this]
theorem Wh {kindOf:Str->Option NameKind} {x:Str} {v:Value}:∀{P:YF} {vs:YE} {i:Nat} {m:YB},P.Nodup->P[i]?=some x->vs[i]?=some v->kindOf x=some .local ->
  bindL kindOf (P.zip vs) m x=some v
 | [],_,_,_,_,h,_,_=>by simp at h
 | _::_,[],_,_,_,_,h,_=>by simp at h
 | p::P,w::vs,0,m,nd,h1,h2,hk=>by
  simp at h1 h2;subst h1;subst h2
  show bindL kindOf ((p,w)::P.zip vs) m p=_
  unfold bindL
  rw[Wg λv hv=>(QbG.mp nd).1 (List.of_mem_zip hv).1,if_pos hk]
  simp
 | p::P,w::vs,i+1,m,nd,h1,h2,hk=>by
  show bindL kindOf ((p,w)::P.zip vs) m x=_
  unfold bindL
  exact Wh (i:=i) (QbG.mp nd).2 (by simpa using h1) (by simpa using h2) hk
theorem Wj {kindOf:Str->Option NameKind} {x:Str} {v:Value}:∀{P:YF} {vs:YE} {i:Nat} {m:YB},P.Nodup->P[i]?=some x->vs[i]?=some v->kindOf x≠some .local ->
  bindC kindOf (P.zip vs) m x=some v
 | [],_,_,_,_,h,_,_=>by simp at h
 | _::_,[],_,_,_,_,h,_=>by simp at h
 | p::P,w::vs,0,m,nd,h1,h2,hk=>by
  simp at h1 h2;subst h1;subst h2
  show bindC kindOf ((p,w)::P.zip vs) m p=_
  unfold bindC
  rw[Wi λv hv=>(QbG.mp nd).1 (List.of_mem_zip hv).1,if_neg hk]
  simp
 | p::P,w::vs,i+1,m,nd,h1,h2,hk=>by
  show bindC kindOf ((p,w)::P.zip vs) m x=_
  unfold bindC
  exact Wj (i:=i) (QbG.mp nd).2 (by simpa using h1) (by simpa using h2) hk
def start (N:YF) (vs:YG):St:=vs.map some++List.replicate (N.length - vs.length) none
def QF (CX:CXT) (P:Program) (w:World) (K:YD) (mg:YB) (base:Heap) (N:YF) (qual:Str) (scope:Scope) (f:Addr) (cd:Value) (A:Around) (outer:List Env) (s:Shared) (H:Hp) (E:XK):Cx where
 prog:=P
 w:=w
 K:=K
 mg:=mg
 base:=base
 A:=A.deeper (envOfC qual scope s.heap.objs.size f cd)
 N:=N
 s₀:=s
 H₀:=H
 env:=envOfC qual scope s.heap.objs.size f cd
 outer:=outer
 stack:=envOfC qual scope s.heap.objs.size f cd::outer
 ex:=[]
 calm:=true
 fn:=λ_=>true
 pn:=[]
 xe:=λe s'=>wpAny (model P w) (A.deeper (envOfC qual scope s.heap.objs.size f cd)) (leaving (envOfC qual scope s.heap.objs.size f cd) e) (λ_ s''=>CX outer H s E e s'') (λe' s''=>CX outer H s E e' s'') s'
theorem Zq {sc:Scope} {n:Nat} {x:Str} (h:sc.names.lookup x=some .cell):∃c,(cellsFrom n sc.names []).lookup x=some c:=by
 have q:=PySem.W.cellsFrom_some sc.names n [] (.inl h)
 exact Option.isSome_iff_exists.mp q
theorem jr {CX:CXT} {P:Program} {w:World} {K:YD} {mg:YB} {base:Heap} {N ps:YF} {qual:Str} {scope:Scope} {f:Addr} {cd:Value} {A:Around} {outer:List Env} {s s1:Shared} {H:Hp} {E:XK} {us:YE} {vs:YG}
  (S:Ay N ps scope) (hd:A.handled=none) (e0:N5 P w K mg base A outer s H) (hl:vs.length=ps.length) (r:Vals vs us)
  (x:InCallC s s.heap.objs.size (bindL (envOfC qual scope s.heap.objs.size f cd).kindOf (ps.zip us) λ_=>none) (cellsFrom (s.heap.objs.size+1) scope.names []) (bindC (envOfC qual scope s.heap.objs.size f cd).kindOf (ps.zip us) λ_=>none) s1) :
  Inv (QF CX P w K mg base N qual scope f cd A outer s H E) [] (start N vs) H s1:=by
 have hpl:ps.length<=N.length:=by have:=congrArg List.length S.pre;rw[Qbq] at this;omega
 obtain⟨h1,tk,rfl,hk⟩:=x.done
 have noA:∀b:Addr,b∉(QF CX P w K mg base N qual scope f cd A outer s H E).ex:=λb z=>absurd (show b∈([]:List Addr) from z) (by simp)
 refine⟨⟨e0.mod,S.kind,rfl,rfl,Qck _,λy z c h1 h2=>?_,λy hy=>?_,λy c _ h=>?_,λ_=>hd,Around.frames_deeper e0.frames,.inr ⟨rfl,rfl⟩,λb z=>absurd z (noA b),e0.bs,e0.bsz,λb _ _=>noA b,λb z=>absurd z (noA b),e0.Jw,e0.frf⟩,
  rfl,e0.bare,Un.kept hk,⟨_,x.toInCall.ns,λi y v h1 h2 h3=>?_⟩,λy c h=>⟨_,x.cell y c h⟩,e0.hok.fresh (Qck _),λy c h=>?_,λp hp=>absurd (show p∈([]:YC) from hp) (by simp),e0.hok.kept hk,?_⟩
 ·exact name_of_addr x.apart (QaN h1) (QaN h2)
 ·have hy:scope.names.lookup y=some .cell\/scope.names.lookup y=some .free:=hy
  rcases hy with hy | hy
  ·exact Zq hy
  ·exact absurd rfl (S.Yz _ (QaN hy))
 ·exact Qci (x.above y c (QaN h))
 ·have hi:i < vs.length:=by
   unfold start at h2
   by_cases hi:i < vs.length
   ·exact hi
   ·rw[List.getElem?_append_right (by simpa using hi)] at h2
    rw[List.getElem?_replicate] at h2
    split at h2 <;> cases h2
  have ha:vs[i]?=some v:=by
   unfold start at h2
   rw[List.getElem?_append_left (by simpa using hi),Qbg] at h2
   cases e:vs[i]? with
   | none=>rw[e] at h2;cases h2
   | some a=>rw[e] at h2;cases h2;rfl
  obtain⟨u,hu,rv⟩:=r.get ha
  have hp:ps[i]?=some y:=by
   rw[<-S.pre,List.getElem?_take_of_lt (by omega)];exact h1
  have ndP:ps.Nodup:=by rw[<-S.pre];exact S.nd.sublist (List.take_sublist _ _)
  refine⟨u,rv,?_⟩
  rcases S.par y (QaE hp) with k | k
  ·exact .inl ⟨k,Wh ndP hp hu k⟩
  ·obtain⟨c,e⟩:=Zq (n:=s.heap.objs.size+1) k
   refine .inr ⟨.inl k,c,e,?_⟩
   have q:=x.cell y c e
   rw[Wj ndP hp hu (by show scope.names.lookup y≠_;rw[k];decide)] at q
   exact q
 ·exact e0.hok.fresh (Qci (x.above y c (QaN h)))
 ·unfold start
  show _=N.length
  rw[QaP,Qbx,List.length_replicate]
  omega
theorem yJ {CX:CXT} {P:Program} {w:World} {K:YD} {mg:YB} {base:Heap} {k:Nat} {f:Addr} {name qual:Str} {params:Arguments} {body:List Stmt} {scope:Scope} {dV kV doc pm cdv ct oc:Value} {an od:Option Addr}
  {osl:YI} {N ps:YF} {sp:Sp} (lk:K.lookup f=some ⟨oc,od,.func (fnOf name qual params body scope dV kV doc pm an cdv ct),osl⟩) (hcd:codeIn K cdv qual=true) (S:Ay N ps scope)
  (len:∀vs H Q E,sp vs H Q E->vs.length=ps.length)
  (hbody:∀(A:Around) (outer:List Env) (s:Shared) (H:Hp) (vs:YG) (Q:VK) (E:XK),CQ k (A.deeper (envOfC qual scope s.heap.objs.size f cdv))->sp vs H Q E ->
   ∃t,PSs (QF CX P w K mg base N qual scope f cdv A outer s H E) body t/\t { nx:=λ_ H'=>Q .non H',rt:=Q } (start N vs) H) :
  Gn P w K mg base CX (k+1) f (fnOf name qual params body scope dV kV doc pm an cdv ct) ps sp:=by
 refine⟨len,λA outer s H args us vs Q E hr e0 hb r hsp=>?_⟩
 have hl:=len _ _ _ _ hsp
 have KX:K.In s.heap:=e0.mod.kin.keeps λb o e=>(e0.bs b o e).1
 have lim:s.heap.NoLimit:=e0.mod.nolimit.keeps λb o e=>(e0.bs b o e).1
 have hkind:∀y∈ps.zip us,scope.names.lookup y.1=some .local\/(scope.names.lookup y.1=some .cell/\((cellsFrom (s.heap.objs.size+1) scope.names []).lookup y.1).isSome=true):=λ⟨n,v⟩ hy=>by
  rcases S.par n (List.of_mem_zip hy).1 with q | q
  ·exact .inl q
  ·exact .inr ⟨q,PySem.W.cellsFrom_some _ _ _ (.inl q)⟩
 refine codeAny_call_function hr.depth (KX _ _ lk) rfl S.co S.gen rfl (PySem.W.codeRec_of KX hcd) (hb _ _ _ _ ?_)
 refine wpAny_newFunctionEnv_cells S.kind hkind λenv he s1 x=>?_
 subst he
 refine⟨lim.keeps x.toInCall.keep,codeAny_func ?_⟩
 obtain⟨t,ht,hq⟩:=hbody A outer s H vs Q E (hr.deeper _) hsp
 have I:Inv (QF CX P w K mg base N qual scope f cdv A outer s H E) [] (start N vs) H s1:=jr S hr.hd e0 hl r x
 refine Qcr (ht [] s1 (start N vs) H _ I hq) (λfl s' hs=>?_) λe s' hs=>hs
 have fin:∀{σ':St} {H':Hp} {v:V} {u:Value},Inv (QF CX P w K mg base N qual scope f cdv A outer s H E) [] σ' H' s'->RelV v u->Q v H'->CE outer P w H s Q u s':=
  λ{σ' H' v u} J rv q=>⟨v,H',J.os,J.bare,J.base,J.hok,rv,q⟩
 cases fl with
 | ret u=>
  obtain⟨v,σ',H',J,rv,q⟩:=hs
  exact fin J rv q
 | next=>
  obtain⟨σ',H',J,q⟩:=hs
  exact fin (v:=V.non) (u:=Value.none) J rfl q
 | brk=>
  obtain⟨_,_,_,q⟩:=hs
  exact False.elim q
 | cont=>
  obtain⟨_,_,_,q⟩:=hs
  exact False.elim q
section
variable {X:Cx} {x:Str} {p pos:Pos} {e:Expr} {es:YJ} {t:TA} {id T:String} {r:YG->Hp->VK->Prop}
def tCB (r:YG->Hp->VK->Prop) (t:TA):TE:=fun σ H Q=>t σ H λvs H1=>r vs H1 Q
theorem Ax (hc:Fi X (.builtin id) r) (hg:Gl X x) (hm:X.mg x=none) (hv:bootBuiltins x=some (.builtin id)) (ha:PA X (e::es) t) (hn:x≠"__name__":=by decide) (hdb:(x == ("__debug__":Str))=false:=by decide)
  (he:starEach (e::es) X.env=(false,eval e X.env)::starEach es X.env:=by rfl) (hpl:(backTo pos (starEach es X.env)).any (·.1)=false:=by rfl):PE X (.Call (.Name x p) (e::es) [] pos) (tCB r t):=by
 intro pins s σ H Q I h
 refine Qbd (KD I hg hm hv ?_ hn hdb)
 refine PyProof.Rows.callWith_builtin1 (thn (ha pos pins s σ H _ I h) λus s1 zz=>?_) he hpl
 obtain⟨vs,H1,I1,r1,q1⟩:=zz
 exact hc pins s1 σ H1 vs us Q I1 r1 q1
theorem G7 (hc:Fi X (.type T) r) (hg:Gl X x) (hm:X.mg x=none) (hv:bootBuiltins x=some (.type T)) (ha:PA X (e::es) t) (hn:x≠"__name__":=by decide) (hdb:(x == ("__debug__":Str))=false:=by decide)
  (he:starEach (e::es) X.env=(false,eval e X.env)::starEach es X.env:=by rfl) (hpl:(backTo pos (starEach es X.env)).any (·.1)=false:=by rfl):PE X (.Call (.Name x p) (e::es) [] pos) (tCB r t):=by
 intro pins s σ H Q I h
 refine Qbd (KD I hg hm hv ?_ hn hdb)
 refine Qae (thn (ha pos pins s σ H _ I h) λus s1 zz=>?_) he hpl
 obtain⟨vs,H1,I1,r1,q1⟩:=zz
 exact hc pins s1 σ H1 vs us Q I1 r1 q1
end
end L2
namespace HT
open PySem PyProof.Rows
section
open PySem.SeqAt
open PySem.AutoSeq1 (wpAny_loadPart')
open PySem.MeetsSeq PySem.MeetsSeq2 PySem.MeetsSeq3
end
section
variable {prog:Program} {w:World} {A:Around} {E:YA} {s:Shared}
theorem sG {t b:Addr} {vs ws:YE} {Q:YA} (ht:IsTup s.heap t vs.toArray) (hb:IsTup s.heap b ws.toArray) (hv:vs≠[])
  (h1:ws=[]->Q (.ref t) s) (h2:ws≠[]->Q (.ref s.heap.objs.size) { s with heap:=s.heap.push { cls:=.type "tuple",data:=.seq (vs++ws).toArray } })
  (hsz:vs.length+ws.length<=sizeLine):wpAny (model prog w) A (binaryOp .Add (.ref t) (.ref b)) Q E s:=by
 obtain⟨⟨cls,dd,data,sl⟩,ho,hc,n,hd⟩:=id ht
 obtain⟨⟨cls2,dd2,data2,sl2⟩,ho2,hc2,n2,hd2⟩:=id hb
 simp only at hc hd hc2 hd2
 subst hc hd hc2 hd2
 have e:vs.toArray++ws.toArray=(vs++ws).toArray:=by simp
 by_cases hw:ws=[]
 ·exact concat_meets ⟨_,ho,rfl⟩ ⟨_,ho2,rfl⟩ noFill_tuple_add seq_tuple_add PySem.F.slot_tuple_add PySem.F.entry_tuple_add (PySem.F.args_tuple_add_2 _ _)
   (tuple_addW1 t b vs.toArray ws.toArray n n2 dd dd2 sl sl2 (by simpa using hv) (by simp[hw])) ⟨ho,ho2,h1 hw⟩
 ·refine concat_meets ⟨_,ho,rfl⟩ ⟨_,ho2,rfl⟩ noFill_tuple_add seq_tuple_add PySem.F.slot_tuple_add PySem.F.entry_tuple_add (PySem.F.args_tuple_add_2 _ _)
   (tuple_addW2 t b vs.toArray ws.toArray n n2 dd dd2 sl sl2 (by simpa using hv) (by simpa using hw) (by rw[Qbe,Qbe];exact hsz)) ⟨ho,ho2,?_⟩
  rw[e]
  exact h2 hw
def sIx (n d:Nat):Option Int->Nat
 | none=>d
 | some v=>if v < 0 then (v+(n:Int)).toNat else min v.toNat n
theorem X5 (n d:Nat):sIx n d none=d:=rfl
theorem bH (n d k:Nat):sIx n d (some (k:Int))=min k n:=by
 show (if (k:Int) < 0 then ((k:Int)+(n:Int)).toNat else min (k:Int).toNat n)=min k n
 rw[if_neg (by omega),Qbh]
theorem uK (n d:Nat) (hd:d<=n) (o:Option Int):sIx n d o<=n:=by
 cases o with
 | none=>exact hd
 | some v=>
  show (if v < 0 then (v+(n:Int)).toNat else min v.toNat n)<=n
  by_cases hv:v < 0
  ·rw[if_pos hv];omega
  ·rw[if_neg hv];exact Nat.min_le_right _ _
theorem cL (v:Int) (n d:Nat):(if v < 0 then max (v+(n:Int)) 0 else min v (n:Int))=((sIx n d (some v):Nat):Int):=by
 show (if v < 0 then max (v+(n:Int)) 0 else min v (n:Int))=(((if v < 0 then (v+(n:Int)).toNat else min v.toNat n):Nat):Int)
 by_cases hv:v < 0
 ·simp only[if_pos hv];omega
 ·simp only[if_neg hv];omega
theorem fU (lo hi:Option Int) (n:Nat):Builtin.Slice.sliceAdjust lo hi 1 (n:Int)=(((sIx n 0 lo:Nat):Int),((sIx n n hi:Nat):Int)):=by
 have h1:¬((1:Int) < 0):=by omega
 unfold Builtin.Slice.sliceAdjust
 simp only[h1,if_false]
 refine Prod.ext ?_ ?_
 ·cases lo with
  | none=>rfl
  | some v=>exact cL v n 0
 ·cases hi with
  | none=>rfl
  | some v=>exact cL v n n
theorem dJ (i j:Nat):Builtin.Slice.slicePlaces (i:Int) (j:Int) 1=j - i:=by
 unfold Builtin.Slice.slicePlaces
 have h1:(1:Int) > 0:=by omega
 simp only[h1,if_true,Int.ediv_one]
 split <;> omega
theorem Tq {v:Value} {o:Option Int} {Q:Option Int->Shared->Prop} (p:IsPart v o) (h:Q o s):wpAny (model prog w) A (Builtin.Slice.slicePartIndex v) Q E s:=by
 cases p with
 | none=>exact slicePart_none h
 | int i t=>exact slicePart_int h
theorem LC {sl:Addr} {vl vu:Value} {lo hi:Option Int} {n:Nat} {Q:Int×Int×Nat->Shared->Prop} (hs:s.heap.IsSliceOf sl vl vu .none) (pl:IsPart vl lo) (pu:IsPart vu hi)
  (h:Q (((sIx n 0 lo:Nat):Int),1,sIx n n hi - sIx n 0 lo) s):wpAny (model prog w) A (Builtin.Slice.sliceApplied (.ref sl) (pure (n:Int))) Q E s:=by
 obtain⟨os,hos,hcs,hds⟩:=id hs
 unfold Builtin.Slice.sliceApplied Builtin.Slice.sliceFields
 refine Qcp (Qcp (Qcn hos hds (x:=vl) rfl (Qcp (Qcn hos hds (x:=vu) rfl (Qcp (Qcn hos hds (x:=.none) rfl (Qcq ?_)))))))
 refine Qcp (slicePart_none ?_)
 show wpAny _ _ (if ((1:Int) == 0)=true then _ else _) _ _ s
 rw[if_neg (by decide)]
 refine Qcp (Tq pl (Qcp (Tq pu (Qcp (Qcq ?_)))))
 show wpAny _ _ (match Builtin.Slice.sliceAdjust lo hi 1 (n:Int) with | (lo,hi)=>pure (lo,(1:Int),Builtin.Slice.slicePlaces lo hi 1)) _ _ s
 rw[fU lo hi n]
 show wpAny _ _ (pure (((sIx n 0 lo:Nat):Int),(1:Int),Builtin.Slice.slicePlaces ((sIx n 0 lo:Nat):Int) ((sIx n n hi:Nat):Int) 1)) _ _ s
 rw[dJ]
 exact Qcq h
theorem mK (xs:Array Value) (i k:Nat):((List.range k).filterMap λ(m:Nat)=>xs[((i:Int)+(m:Int)*1).toNat]?).toArray=((xs.toList.drop i).take k).toArray:=by
 have e:(λ(m:Nat)=>xs[((i:Int)+(m:Int)*1).toNat]?)=λm=>xs[i+m]?:=by
  funext m
  have:((i:Int)+(m:Int)*1).toNat=i+m:=by omega
  rw[this]
 rw[e]
 have:=pick_run xs i k
 rw[List.filterMap_map] at this
 have e2:((λx=>xs[x]?) ∘ λx=>i+x)=λm=>xs[i+m]?:=rfl
 rw[e2] at this
 rw[this]
theorem Rw {t sl:Addr} {items:Array Value} {vl vu:Value} {lo hi:Option Int} {Q:YA} (ht:IsTup s.heap t items) (hs:s.heap.IsSliceOf sl vl vu .none) (pl:IsPart vl lo) (pu:IsPart vu hi)
  (hw:¬(sIx items.size 0 lo=0/\sIx items.size items.size hi=items.size))
  (h:Q (.ref s.heap.objs.size) { s with heap:=s.heap.push { cls:=.type "tuple",data:=.seq ((items.toList.drop (sIx items.size 0 lo)).take (sIx items.size items.size hi - sIx items.size 0 lo)).toArray } })
  (hsz:items.size<=sizeLine):wpAny (model prog w) A (getItem (.ref t) (.ref sl)) Q E s:=by
 have W0:sizeOk (.seq ((items.toList.drop (sIx items.size 0 lo)).take (sIx items.size items.size hi - sIx items.size 0 lo)).toArray):=by
  show ((items.toList.drop (sIx items.size 0 lo)).take (sIx items.size items.size hi - sIx items.size 0 lo)).toArray.size<=sizeLine
  rw[Qbe,Qbq,Qbt,QaM]
  omega
 have hj:sIx items.size items.size hi<=items.size:=uK _ _ (Qck _) hi
 obtain⟨os,hos,hcs,hds⟩:=id hs
 have hTs:s.TypeIs (.ref sl) "slice":=⟨os,hos,hcs⟩
 unfold getItem
 try with_reducible refine QbW ?_
 first | refine Qcp (Qcq ?_) | skip
 refine Qcp (wpAny_sequenceKey ht.typeIs (by decide) ?_)
 refine Qcp (Qaq (name:=Str.ofString "__getitem__") ht.typeIs Qab
  (Qbs Qab ht.typeIs entry_tuple_getitem ?_ (args_tuple_getitem _ _)))
 show wpAny _ _ (Builtin.Tuple.tupleItemsOf (.ref t) >>= _) _ _ s
 refine Qcp (tupleItemsOf_ ht ?_)
 refine Qcp (wpAny_typeOf hTs ?_)
 rw[if_pos (by decide)]
 refine Qcp (LC hs pl pu ?_)
 have hno:¬((((sIx items.size 0 lo:Nat):Int) == 0&&(1:Int) == 1&&(sIx items.size items.size hi - sIx items.size 0 lo) == items.size)=true):=by
  intro q
  rw[Qbv,Qbv] at q
  have q1:((sIx items.size 0 lo:Nat):Int)=0:=eq_of_beq q.1.1
  have q2:sIx items.size items.size hi - sIx items.size 0 lo=items.size:=eq_of_beq q.2
  exact hw ⟨by omega,by omega⟩
 show wpAny _ _ (if (((sIx items.size 0 lo:Nat):Int) == 0&&(1:Int) == 1&&(sIx items.size items.size hi - sIx items.size 0 lo) == items.size)=true then _ else _) _ _ s
 rw[if_neg hno,mK]
 first
  | exact Qcp (m:=Builtin.Tuple.tupleExact _) (Qbk (Qcq ⟨_,rfl,Qcq h⟩) W0)
  | exact Qcp (m:=Builtin.Tuple.tupleExact _) (Qbk (Qcp (Qcq (Qcq ⟨_,rfl,Qcq h⟩))) W0)
  | exact Qcp (Qcp (m:=Builtin.Tuple.tupleExact _) (Qbk (Qcq (Qcq ⟨_,rfl,Qcq h⟩)) W0))
  | exact Qcp (Qcp (m:=Builtin.Tuple.tupleExact _) (Qbk (Qcq ⟨_,rfl,Qcq h⟩) W0))
end
end HT
namespace L2
open PySem PySem.Spec PyProof.Rows
abbrev TO:=St->Hp->(Option Int->Hp->Prop)->Prop
def PO (X:Cx) (e:Option Expr) (t:TO):Prop:=
 ∀(pins:YC) (s:Shared) (σ : St) (H:Hp) (Q:Option Int->Hp->Prop),Inv X pins σ H s->t σ H Q ->
  wpAny (model X.prog X.w) X.A (evalPart e X.env) (λu s'=>∃o H',Inv X pins σ H' s'/\IsPart u o/\Q o H') X.xe s
def qz:TO:=λ_ H Q=>Q none H
def xu (t:TE):TO:=fun σ H Q=>t σ H λx H1=>∃i,x=.int i/\Q (some i) H1
theorem intsAre_of {ns:List Int}:∀{us:YE},Vals (ns.map V.int) us->IntsAre us ns:=by
 induction ns with
 | nil=>intro us r;rw[Qcj] at r;cases r;exact .nil
 | cons n ns ih=>
  intro us r
  rw[QbU] at r
  cases r with
  | cons r1 r2=>
   obtain⟨t,e⟩:=r1
   subst e
   exact .cons n t (ih r2)
section
variable {X:Cx} {e:Expr} {te:TE} {lo hi:Option Expr} {tl th:TO} {pos p2:Pos}
theorem Lg:PO X none qz:=by
 intro pins s σ H Q I h
 rw[evalPart_none]
 exact Qcq ⟨none,H,I,.none,h⟩
theorem Lf (h:PE X e te):PO X (some e) (xu te):=by
 intro pins s σ H Q I hw
 rw[evalPart_some]
 refine thn (h pins s σ H _ I hw) λu s1 zz=>?_
 obtain⟨x,H1,I1,r1,q1⟩:=zz
 obtain⟨i,rfl,q⟩:=q1
 obtain⟨t,rfl⟩:=r1
 exact⟨some i,H1,I1,.int i t,q⟩
def SlR (X:Cx) (r:V->Option Int->Option Int->Hp->VK->Prop):Prop:=
 ∀(pins:YC) (s:Shared) (σ : St) (H:Hp) (x:V) (v vl vu:Value) (lo hi:Option Int) (sl:Addr) (Q:VK),Inv X pins σ H s->RelV x v->s.heap.IsSliceOf sl vl vu .none->IsPart vl lo->IsPart vu hi->r x lo hi H Q ->
  ∃T id,typeLookup (.type T) "__getitem__"=pure (some (.builtin id))/\s.TypeIs v T/\wpAny (model X.prog X.w) X.A (getItem v (.ref sl)) (EP X pins σ Q) X.xe s
def tSl (r:V->Option Int->Option Int->Hp->VK->Prop) (te:TE) (tl th:TO):TE:=fun σ H Q=>te σ H λx H1=>tl σ H1 λl H2=>th σ H2 λu H3=>r x l u H3 Q
theorem JM {r:V->Option Int->Option Int->Hp->VK->Prop} (hr:SlR X r) (he:PE X e te) (hl:PO X lo tl) (hu:PO X hi th):PE X (.Subscript e (.Slice lo hi none p2) pos) (tSl r te tl th):=by
 intro pins s σ H Q I h
 refine Subscript_ (thn (he pins s σ H _ I h) λv s1 zz=>?_)
 obtain⟨x,H1,I1,r1,q1⟩:=zz
 refine wpAny_Slice (thn (hl pins s1 σ H1 _ I1 q1) λvl s2 zz=>?_)
 obtain⟨l,H2,I2,pl,q2⟩:=zz
 refine thn (hu pins s2 σ H2 _ I2 q2) λvu s3 zz=>?_
 obtain⟨u,H3,I3,pu,q3⟩:=zz
 rw[evalPart_none]
 refine Qcq ?_
 have I4:Inv X pins σ H3 { s3 with heap:=s3.heap.push { cls:=.type "slice",data:=.fields #[vl,vu,.none] } }:=I3.kept (t':=s3.toks) λb ob q=>Qav _ q
 obtain⟨T,id,hT,ht,hg⟩:=hr pins { s3 with heap:=s3.heap.push { cls:=.type "slice",data:=.fields #[vl,vu,.none] } } σ H3 x v vl vu l u s3.heap.objs.size Q I4 r1 (Heap.IsSliceOf.new ..) pl pu q3
 show wpAny (model X.prog X.w) X.A (subscriptTail e (.Slice lo hi none p2) v (.ref s3.heap.objs.size)) (EP X pins σ Q) X.xe { s3 with heap:=s3.heap.push { cls:=.type "slice",data:=.fields #[vl,vu,.none] } }
 exact tail_any (ops:=[.ref s3.heap.objs.size,v]) ht hT hg (by with_unfolding_all rfl)
def IK (xs:YG) (lo hi:Option Int):YG:=(xs.drop (HT.sIx xs.length 0 lo)).take (HT.sIx xs.length xs.length hi - HT.sIx xs.length 0 lo)
theorem RL (xs:YG) (lo hi:Option Int):(IK xs lo hi).length<=xs.length:=by
 unfold IK
 rw[Qbq,Qbt]
 omega
def zG (K:YD):V->Option Int->Option Int->Hp->VK->Prop:=λx lo hi H Q=>∃a xs,x=.ref a/\SqT K H a xs /\
 ¬(HT.sIx xs.length 0 lo=0/\HT.sIx xs.length xs.length hi=xs.length)/\∀p,H p=none->Q (.ref p) (upd H p (.tup (IK xs lo hi)))
theorem uH:SlR X (zG X.K):=by
 intro pins s σ H x v vl vu lo hi sl Q I rx hs pl pu h
 obtain⟨a,xs,rfl,hx,hw,q⟩:=h
 cases rx
 obtain⟨its,r,ht,hz⟩:=I.tuple hx
 have hlen:its.toArray.size=xs.length:=by rw[Qbe];exact r.length.symm
 refine⟨"tuple",_,Qab.lookup,ht.typeIs,?_⟩
 refine HT.Rw ht hs pl pu (by rw[hlen];exact hw) ?_ (by rw[hlen];exact hz)
 rw[hlen]
 refine⟨.ref s.heap.objs.size,_,I.laid (t':=s.toks) (o:=.tup (IK xs lo hi)) (λb ob q=>Qav _ q) (Qck _) ?_,rfl,q _ (I.hok.fresh (Qck _))⟩
 exact⟨Qce (RL xs lo hi) hz,_,(r.drop (HT.sIx xs.length 0 lo)).take (HT.sIx xs.length xs.length hi - HT.sIx xs.length 0 lo),IsTup.new _ _⟩
def xU (K:YD):R2:=λx y H Q=>∃a b xs ys,x=.ref a/\y=.ref b/\SqT K H a xs/\SqT K H b ys/\xs≠[]/\xs.length+ys.length<=sizeLine /\
 (ys=[]->Q (.ref a) H)/\(ys≠[]->∀p,H p=none->Q (.ref p) (upd H p (.tup (xs++ys))))
theorem Vals.Vl {xs:YG} {us:YE} (r:Vals xs us):us=[] ↔ xs=[]:=by
 cases r with
 | nil=>simp
 | cons _ _=>simp
theorem qX:OpR X (binaryOp .Add) (xU X.K):=by
 intro pins s σ H x y v u Q I rx ry h
 obtain⟨a,b,xs,ys,rfl,rfl,ha,hb,hx,hz,q1,q2⟩:=h
 cases rx
 cases ry
 obtain⟨its,r1,p1,_⟩:=I.tuple ha
 obtain⟨its2,r2,p2,_⟩:=I.tuple hb
 refine HT.sG p1 p2 (λz=>hx (r1.Vl.mp z)) (λz=>⟨.ref a,H,I,rfl,q1 (r2.Vl.mp z)⟩) (λz=>?_) (by rw[<-r1.length,<-r2.length];exact hz)
 refine⟨.ref s.heap.objs.size,_,I.laid (t':=s.toks) (o:=.tup (xs++ys)) (λb ob q=>Qav _ q) (Qck _) ?_,rfl,q2 (λw=>z (r2.Vl.mpr w)) _ (I.hok.fresh (Qck _))⟩
 exact⟨by rw[QaP];exact hz,_,r1.append r2,IsTup.new _ _⟩
end
def ixN (n:Nat) (i:Int):Option Nat:=if 0<=i then (if i < n then some i.toNat else none) else if -(n:Int)<=i then some (i+n).toNat else none
def atI {α : Type} (xs:List α) (i:Int):Option α:=(ixN xs.length i).bind λj=>xs[j]?
theorem bU {n:Nat} {i:Int} {j:Nat} (h:ixN n i=some j):seqIndex? i n=some j/\j < n/\-(n:Int)<=i/\i < n:=by
 unfold ixN at h
 by_cases h0:0<=i
 ·rw[if_pos h0] at h
  by_cases h1:i < n
  ·rw[if_pos h1] at h
   have e:i.toNat=j:=QbD h
   exact⟨by rw[seqIndex_of h0 h1,e],by omega,by omega,h1⟩
  ·rw[if_neg h1] at h;cases h
 ·rw[if_neg h0] at h
  by_cases h1:-(n:Int)<=i
  ·rw[if_pos h1] at h
   have e:(i+n).toNat=j:=QbD h
   exact⟨by rw[seqIndex_neg (by omega) h1,e],by omega,h1,by omega⟩
  ·rw[if_neg h1] at h;cases h
theorem VB {α : Type} {xs:List α} {i:Int} {v:α} (h:atI xs i=some v):∃j,seqIndex? i xs.length=some j/\xs[j]?=some v/\j < xs.length/\-(xs.length:Int)<=i/\i < xs.length:=by
 unfold atI at h
 cases e:ixN xs.length i with
 | none=>rw[e] at h;cases h
 | some j=>
  rw[e] at h
  obtain⟨h1,h2,h3,h4⟩:=bU e
  exact⟨j,h1,h,h2,h3,h4⟩
theorem Ge {α : Type} {xs:List α} {j:Nat} {v:α} (h:xs[j]?=some v):atI xs (j:Int)=some v:=by
 have hj:j < xs.length:=(Qag.mp h).1
 have e:ixN xs.length (j:Int)=some j:=by
  unfold ixN
  rw[if_pos (by omega),if_pos (by omega)];simp
 unfold atI;rw[e];exact h
def tD (b:Expr):Prop:=∀o i,subscripted b false o i=operate [o,i] (getItem o i)
def IxR (X:Cx) (r:R2):Prop:=
 ∀(value slice:Expr) (pins:YC) (s:Shared) (σ : St) (H:Hp) (x y:V) (v u:Value) (Q:VK),Inv X pins σ H s->RelV x v->RelV y u->r x y H Q ->
  subscripted slice false v u=operate [v,u] (getItem v u)->wpAny (model X.prog X.w) X.A (subscriptTail value slice v u) (EP X pins σ Q) X.xe s
def MtR (X:Cx) (id:String) (r:V->YG->Hp->VK->Prop):Prop:=
 ∀(pins:YC) (s:Shared) (σ : St) (H:Hp) (x:V) (xs:YG) (v:Value) (us:YE) (Q:VK),Inv X pins σ H s->RelV x v->Vals xs us->r x xs H Q ->
  wpAny (model X.prog X.w) X.A (call (.builtin id) (v::us)) (EP X pins σ Q) X.xe s
section
variable {X:Cx} {a b:Expr} {ta tb:TE} {pos:Pos}
theorem Bq {r:R2} (hr:IxR X r) (ha:PE X a ta) (hb:PE X b tb) (hs:tD b):PE X (.Subscript a b pos) (tOp r ta tb):=by
 intro pins s σ H Q I h
 exact Subscript_ (oZ ha hb I h λv u s2 x y H2 I2 rx ry q=>hr a b pins s2 σ H2 x y v u Q I2 rx ry q (hs _ _))
def zK (K:YD):R2:=λx y H Q=>∃p xs i v,x=.ref p/\y=.int i/\SqL K H p xs/\atI xs i=some v/\Q v H
def uM (K:YD):R2:=λx y H Q=>∃p xs i v,x=.ref p/\y=.int i/\SqT K H p xs/\atI xs i=some v/\Q v H
def zJ:R2:=λx y H Q=>∃z i c,x=.str z/\y=.int i/\z.length<=sizeLine/\atI z.cps.toList i=some c/\Q (.str ⟨#[c]⟩) H
theorem DP:IxR X (zK X.K):=by
 intro value slice pins s σ H x y v u Q I rx ry h hs
 obtain⟨p,xs,i,z,rfl,rfl,hq,he,q⟩:=h
 cases rx
 obtain⟨t,rfl⟩:=ry
 obtain⟨its,r,pl,hz⟩:=I.list hq
 obtain⟨j,h1,h2,h3,h4,h5⟩:=VB he
 obtain⟨w,ew,rw'⟩:=r.get h2
 have hl:=r.length
 have hn:=Ms
 have fin:EP X pins σ Q w s:=⟨z,H,I,rw',q⟩
 by_cases h0:0<=i
 ·have hj:i.toNat=j:=by
   rw[seqIndex_of h0 h5] at h1
   exact QbD h1
  exact item_listR pl.isList h0 (by omega) (by rw[hj];simpa using ew) fin hs
 ·have hj:(i+(its.toArray.size:Int)).toNat=j:=by
   rw[seqIndex_neg (by omega) h4] at h1
   rw[Qbe,<-hl]
   exact QbD h1
  exact subscriptTail_builtinR (x:=w) pl.isList.typeIs slot_list_getitem.lookup
   (wpAny_getItem_list_neg (Q:=λr s'=>r=w/\EP X pins σ Q r s') pl.isList (by omega) (by rw[Qbe] <;> omega) (by omega) (by rw[hj];simpa using ew) ⟨rfl,fin⟩) hs
theorem BR:IxR X (uM X.K):=by
 intro value slice pins s σ H x y v u Q I rx ry h hs
 obtain⟨p,xs,i,z,rfl,rfl,hq,he,q⟩:=h
 cases rx
 obtain⟨t,rfl⟩:=ry
 obtain⟨its,r,pl,hz⟩:=I.tuple hq
 obtain⟨j,h1,h2,h3,h4,h5⟩:=VB he
 obtain⟨w,ew,rw'⟩:=r.get h2
 have hl:=r.length
 have hn:=Ms
 have fin:EP X pins σ Q w s:=⟨z,H,I,rw',q⟩
 exact subscriptTail_builtinR (x:=w) pl.typeIs slot_tuple_getitem.lookup
  (getItem_tuple (j:=j) (Q:=λr s'=>r=w/\EP X pins σ Q r s') pl (by omega) (by omega) (by rw[Qbe,<-hl];exact h1) (by simpa using ew) ⟨rfl,fin⟩) hs
theorem vI:IxR X zJ:=by
 intro value slice pins s σ H x y v u Q I rx ry h hs
 obtain⟨z,i,c,rfl,rfl,hz,he,q⟩:=h
 obtain⟨t,rfl⟩:=rx
 obtain⟨t',rfl⟩:=ry
 obtain⟨j,h1,h2,h3,h4,h5⟩:=VB he
 have hl:z.cps.toList.length=z.length:=by simp[Str.length]
 rw[hl] at h1 h4 h5
 have hn:=Ms
 exact tail_any (typeIs_str s z t) slot_str_getitem.lookup (getItem_str (c:=c) (by
  have e1:decide (i < -(2 ^ 63:Int))=false:=QbB (by omega)
  have e2:decide (i ≥ 2 ^ 63)=false:=QbB (by omega)
  rw[e1,e2,Bool.or_false]) (by rw[h1];simpa using h2) ⟨.str ⟨#[c]⟩,H,I.tok _,⟨_,rfl⟩,q⟩) hs
theorem eE (its:YE) (n j:Nat) (u:Value):Obj.mapSeq (·.setIfInBounds j u) { cls:=.type "list",data:=.seq its.toArray n }={ cls:=.type "list",data:=.seq (its.set j u).toArray n }:=by
 simp[Obj.mapSeq]
theorem Inv.lst {pins:YC} {σ : St} {H:Hp} {s:Shared} {p:Addr} {xs:YG} (I:Inv X pins σ H s) (h:H p=some (.lst xs)) :
  ∃(its:YE) (n:Nat),Vals xs its/\s.heap.get? p=some { cls:=.type "list",data:=.seq its.toArray n }/\xs.length<=sizeLine:=by
 obtain⟨z,its,n,r,e⟩:=I.hok p _ h
 exact⟨its,n,r,e,z⟩
theorem Inv.vp {pins:YC} {σ : St} {H:Hp} {s:Shared} {p:Addr} {xs ys:YG} {its its':YE} {n n':Nat} {f:Obj->Obj} (I:Inv X pins σ H s) (h:H p=some (.lst xs))
  (ho:s.heap.get? p=some { cls:=.type "list",data:=.seq its.toArray n }) (hf:f { cls:=.type "list",data:=.seq its.toArray n }={ cls:=.type "list",data:=.seq its'.toArray n' }) (r:Vals ys its') (hz:ys.length<=sizeLine) (t:Nat) :
  Inv X pins σ (upd H p (.lst ys)) { s with heap:=s.heap.update p f,toks:=t }:=by
 have e:(s.heap.update p f).get? p=some { cls:=.type "list",data:=.seq its'.toArray n' }:=by
  rw[QaD f ho (by rw[hf] <;> rfl),hf]
 refine I.write (x:=p) (e:=p) (by rw[h];trivial) (.inl rfl) (λb u hb q=>(Qaz _ _ (Ne.symm hb)).trans q) ⟨_,e⟩ ?_
 exact⟨hz,its',n',r,e⟩
def xT:V->V->V->Hp->(Hp->Prop)->Prop:=λo i v H Q=>∃p xs k j,o=.ref p/\i=.int k/\H p=some (.lst xs)/\ixN xs.length k=some j/\Q (upd H p (.lst (xs.set j v)))
theorem set_list:wX X xT:=by
 intro pins s σ H o i v ov iv u Q I ro ri rv h
 obtain⟨p,xs,k,j,rfl,rfl,hp,hj,q⟩:=h
 cases ro
 obtain⟨t,rfl⟩:=ri
 obtain⟨its,n,r,ho,hz⟩:=I.lst hp
 obtain⟨h1,h2,h3,h4⟩:=bU hj
 have hl:=r.length
 have hn:=Ms
 have I':Inv X pins σ (upd H p (.lst (xs.set j v))) { s with heap:=s.heap.update p (Obj.mapSeq (·.setIfInBounds j u)) }:=
  I.vp hp ho (eE its n j u) (r.set rv j) (by rw[List.length_set];exact hz) s.toks
 by_cases h0:0<=k
 ·have hk:k.toNat=j:=by
   rw[seqIndex_of h0 h4] at h1
   exact QbD h1
  exact PySem.W.ki_setAt ho h0 (by omega) (by rw[Qbe,<-hl];exact h4) (by rw[hk];exact⟨_,I',q⟩)
 ·have hk:(k+(its.toArray.size:Int)).toNat=j:=by
   rw[seqIndex_neg (by omega) h3] at h1
   rw[Qbe,<-hl]
   exact QbD h1
  exact PySem.W.ki_setBack ho (by omega) (by rw[Qbe,<-hl];exact h3) (by omega) (by rw[hk];exact⟨_,I',q⟩)
theorem XD (lo hi:Option Int) (n:Nat):(sliceBounds lo hi none n).1=((HT.sIx n 0 lo:Nat):Int)/\(sliceBounds lo hi none n).2.1=((HT.sIx n n hi:Nat):Int)/\(sliceBounds lo hi none n).2.2=1:=by
 refine⟨?_,?_,rfl⟩
 ·cases lo with
  | none=>simp[sliceBounds,HT.sIx]
  | some i=>
   simp only[sliceBounds,HT.sIx,Option.getD_none,show (1:Int) > 0 by decide,if_true]
   by_cases h:i < 0
   ·simp only[h,if_true] <;> omega
   ·simp only[h,if_false] <;> omega
 ·cases hi with
  | none=>simp[sliceBounds,HT.sIx]
  | some i=>
   simp only[sliceBounds,HT.sIx,Option.getD_none,show (1:Int) > 0 by decide,if_true]
   by_cases h:i < 0
   ·simp only[h,if_true] <;> omega
   ·simp only[h,if_false] <;> omega
theorem Wo (its:YE) (lo hi:Option Int):slicePick its.toArray lo hi none=((its.drop (HT.sIx its.length 0 lo)).take (HT.sIx its.length its.length hi - HT.sIx its.length 0 lo)).toArray:=by
 obtain⟨h1,h2,h3⟩:=XD lo hi its.toArray.size
 unfold slicePick
 rw[h1,h2,h3]
 simp only[sliceRange_one,pick_run,Qbe] <;> rfl
def zH (K:YD):V->Option Int->Option Int->Hp->VK->Prop:=λx lo hi H Q=>∃a xs,x=.ref a/\SqL K H a xs/\∀p,H p=none->Q (.ref p) (upd H p (.lst (IK xs lo hi)))
theorem qI:SlR X (zH X.K):=by
 intro pins s σ H x v vl vu lo hi sl Q I rx hs pl pu h
 obtain⟨a,xs,rfl,hx,q⟩:=h
 cases rx
 obtain⟨its,r,ht,hz⟩:=I.list hx
 have hlen:=r.length
 refine⟨"list",_,slot_list_getitem.lookup,ht.isList.typeIs,?_⟩
 refine wpAny_getItem_list_slice ht.isList hs pl pu .none (by simp) ?_ (by rw[Qbe] <;> omega)
 rw[Wo,<-hlen]
 refine⟨.ref s.heap.objs.size,_,I.laid (t':=s.toks) (o:=.lst (IK xs lo hi)) (λb ob q=>Qav _ q) (Qck _) ?_,rfl,q _ (I.hok.fresh (Qck _))⟩
 exact⟨Qce (RL xs lo hi) hz,_,0,(r.drop (HT.sIx xs.length 0 lo)).take (HT.sIx xs.length xs.length hi - HT.sIx xs.length 0 lo),QaI _ rfl⟩
def Kf:V->Bool
 | .non=>true
 | .bl _=>true
 | .int _=>true
 | .str _=>true
 | _=>false
def eqV:V->V->Bool
 | .non,.non=>true
 | .bl a,.bl b=>a == b
 | .bl a,.int b=>(if a then 1 else 0) == b
 | .int a,.bl b=>a == (if b then 1 else 0)
 | .int a,.int b=>a == b
 | .str a,.str b=>a == b
 | _,_=>false
theorem wF {A:Around} {s:Shared} {y x:V} {u v:Value} (ry:RelV y u) (rx:RelV x v) (fy:Kf y=true) (fx:Kf x=true):SeqAt.EqAt A s u v (eqV y x):=by
 cases y with
 | non=>
  cases ry
  cases x with
  | non=>cases rx;exact SeqAt.EqAt.same _
  | bl b=>cases rx;exact SeqAt.EqAt.none_bool b
  | int b=>obtain⟨t,rfl⟩:=rx;exact SeqAt.EqAt.none_int b t
  | str b=>obtain⟨t,rfl⟩:=rx;exact SeqAt.EqAt.none_str b t
  | _=>exact absurd (show false=true from fx) QaT
 | bl a=>
  cases ry
  cases x with
  | non=>cases rx;exact SeqAt.EqAt.bool_none a
  | bl b=>cases rx;exact SeqAt.EqAt.bool_bool a b
  | int b=>obtain⟨t,rfl⟩:=rx;exact SeqAt.EqAt.bool_int a b t
  | str b=>obtain⟨t,rfl⟩:=rx;exact SeqAt.EqAt.bool_str a b t
  | _=>exact absurd (show false=true from fx) QaT
 | int a=>
  obtain⟨t',rfl⟩:=ry
  cases x with
  | non=>cases rx;exact SeqAt.EqAt.int_none a t'
  | bl b=>cases rx;exact SeqAt.EqAt.int_bool a t' b
  | int b=>obtain⟨t,rfl⟩:=rx;exact SeqAt.EqAt.int_int a t' b t
  | str b=>obtain⟨t,rfl⟩:=rx;exact SeqAt.EqAt.int_str a t' b t
  | _=>exact absurd (show false=true from fx) QaT
 | str a=>
  obtain⟨t',rfl⟩:=ry
  cases x with
  | non=>cases rx;exact SeqAt.EqAt.str_none a t'
  | bl b=>cases rx;exact SeqAt.EqAt.str_bool a t' b
  | int b=>obtain⟨t,rfl⟩:=rx;exact SeqAt.EqAt.str_int a t' b t
  | str b=>obtain⟨t,rfl⟩:=rx;exact SeqAt.EqAt.str_str a t' b t
  | _=>exact absurd (show false=true from fx) QaT
 | _=>exact absurd (show false=true from fy) QaT
def eqU (x:V) (u:Value):Bool:=match u with
 | .none=>eqV .non x
 | .bool b=>eqV (.bl b) x
 | .int i _=>eqV (.int i) x
 | .str z _=>eqV (.str z) x
 | _=>false
theorem jM {x y:V} {u:Value} (r:RelV y u) (f:Kf y=true):eqU x u=eqV y x:=by
 cases y with
 | non=>cases r;rfl
 | bl b=>cases r;rfl
 | int i=>obtain⟨t,rfl⟩:=r;rfl
 | str z=>obtain⟨t,rfl⟩:=r;rfl
 | _=>exact absurd (show false=true from f) QaT
theorem Og {x:V}:∀{xs:YG} {us:YE},Vals xs us->xs.all Kf=true->us.any (eqU x)=xs.any λy=>eqV y x
 | _,_,.nil,_=>rfl
 | y::xs,u::us,.cons r t,f=>by
  rw[List.all_cons,Qbv] at f
  rw[QbX,QbX,jM r f.1,Og t f.2]
theorem Mr {A:Around} {s:Shared} {x:V} {v:Value} (rx:RelV x v) (fx:Kf x=true):∀{xs:YG} {us:YE},Vals xs us->xs.all Kf=true->∀u∈us,SeqAt.EqAt A s u v (eqU x u)
 | _,_,.nil,_=>λu hu=>by cases hu
 | y::xs,u::us,.cons r t,f=>λu' hu=>by
  rw[List.all_cons,Qbv] at f
  rcases QbT.mp hu with rfl | hu
  ·rw[jM r f.1];exact wF r rx f.1 fx
  ·exact Mr rx fx t f.2 u' hu
def inV (x:V) (xs:YG):Bool:=xs.any λy=>eqV y x
def rIn (K:YD) (neg:Bool):R2:=λx y H Q=>∃p xs,y=.ref p/\(SqL K H p xs\/SqT K H p xs)/\Kf x=true/\xs.all Kf=true/\Q (.bl (if neg then !inV x xs else inV x xs)) H
theorem Qq:OpR X (compareOp .In) (rIn X.K false):=by
 intro pins s σ H x y v u Q I rx ry h
 obtain⟨p,xs,rfl,hq,fx,fs,q⟩:=h
 cases ry
 rcases hq with hq | hq
 ·obtain⟨its,r,pl,hz⟩:=I.list hq
  refine SeqAt.in_listAt (eqU x) pl.isList (λw hw=>Mr rx fx r fs w (by simpa using hw)) ⟨.bl _,H,I,rfl,?_⟩
  rw[show its.toArray.any (eqU x)=its.any (eqU x) by simp,Og r fs]
  exact q
 ·obtain⟨its,r,pl,hz⟩:=I.tuple hq
  refine SeqAt.in_tupleAt (eqU x) pl (λw hw=>Mr rx fx r fs w (by simpa using hw)) ⟨.bl _,H,I,rfl,?_⟩
  rw[show its.toArray.any (eqU x)=its.any (eqU x) by simp,Og r fs]
  exact q
theorem Yp:OpR X (compareOp .NotIn) (rIn X.K true):=by
 intro pins s σ H x y v u Q I rx ry h
 obtain⟨p,xs,rfl,hq,fx,fs,q⟩:=h
 cases ry
 rcases hq with hq | hq
 ·obtain⟨its,r,pl,hz⟩:=I.list hq
  refine SeqAt.notIn_listAt (eqU x) pl.isList (λw hw=>Mr rx fx r fs w (by simpa using hw)) ⟨.bl _,H,I,rfl,?_⟩
  rw[show its.toArray.any (eqU x)=its.any (eqU x) by simp,Og r fs]
  exact q
 ·obtain⟨its,r,pl,hz⟩:=I.tuple hq
  refine SeqAt.notIn_tupleAt (eqU x) pl (λw hw=>Mr rx fx r fs w (by simpa using hw)) ⟨.bl _,H,I,rfl,?_⟩
  rw[show its.toArray.any (eqU x)=its.any (eqU x) by simp,Og r fs]
  exact q
theorem Bd:Fi X (.builtin "len") (λxs H Q=>∃p ys,xs=[.ref p]/\(SqL X.K H p ys\/SqT X.K H p ys)/\Q (.int ys.length) H):=by
 intro pins s σ H xs us Q I r h
 obtain⟨p,ys,rfl,hq,q⟩:=h
 obtain⟨u,rfl,rx⟩:=vals1 r
 cases rx
 have hn:=Ms
 rcases hq with hq | hq
 ·obtain⟨its,r',pl,hz⟩:=I.list hq
  have hlen:=r'.length
  exact Calls.call_len_list pl.isList (by simp only[Qbe] <;> omega) ⟨.int ys.length,H,I.tok _,⟨s.toks+1,by rw[Qbe,hlen]⟩,q⟩
 ·obtain⟨its,r',pl,hz⟩:=I.tuple hq
  have hlen:=r'.length
  exact len_tuple pl (by simp only[Qbe] <;> omega) ⟨.int ys.length,H,I.tok _,⟨s.toks+1,by rw[Qbe,hlen]⟩,q⟩
theorem Zv:Fi X (.builtin "len") (λxs H Q=>∃z,xs=[.str z]/\z.length<=sizeLine/\Q (.int z.length) H):=by
 intro pins s σ H xs us Q I r h
 obtain⟨z,rfl,hz,q⟩:=h
 obtain⟨u,rfl,t,rfl⟩:=vals1 r
 have hn:=Ms
 exact len_str (by omega) ⟨.int z.length,H,I.tok _,⟨_,rfl⟩,q⟩
theorem Zu:Fi X (.type "list") (λxs H Q=>∃p ys,xs=[.ref p]/\(SqL X.K H p ys\/SqT X.K H p ys)/\∀l,H l=none->Q (.ref l) (upd H l (.lst ys))):=by
 intro pins s σ H xs us Q I r h
 obtain⟨p,ys,rfl,hq,q⟩:=h
 obtain⟨u,rfl,rx⟩:=vals1 r
 cases rx
 have fin:∀(its:YE),Vals ys its->ys.length<=sizeLine->∀(h':Heap) (c':Nat),(∀b o',s.heap.get? b=some o'->h'.get? b=some o') ->
   h'.get? s.heap.objs.size=some { cls:=.type "list",dict:=none,data:=.seq its.toArray c',slots:=#[] }->EP X pins σ Q (.ref s.heap.objs.size) { s with heap:=h' }:=λits r' hz h' c' kp e=>
  ⟨.ref s.heap.objs.size,_,I.laid (t':=s.toks) kp (Qck _) (show Bs X.prog X.w _ h' _ (.lst ys) from⟨hz,its,c',r',e⟩),rfl,q _ (I.hok.fresh (Qck _))⟩
 rcases hq with hq | hq
 ·obtain⟨its,r',pl,hz⟩:=I.list hq
  have hlen:=r'.length
  obtain⟨o,ho,hc,n,hd⟩:=pl.isList
  exact call_list_seq p (.inl rfl) ho hc hd (λh' c' kp e=>fin its r' hz h' c' kp e) (by simp only[Qbe] <;> omega)
 ·obtain⟨its,r',pl,hz⟩:=I.tuple hq
  have hlen:=r'.length
  obtain⟨o,ho,hc,n,hd⟩:=pl
  exact call_list_seq p (.inr rfl) ho hc hd (λh' c' kp e=>fin its r' hz h' c' kp e) (by simp only[Qbe] <;> omega)
theorem Gy:Fi X (.type "tuple") (λxs H Q=>∃p ys,xs=[.ref p]/\((SqL X.K H p ys/\∀l,H l=none->Q (.ref l) (upd H l (.tup ys)))\/(SqT X.K H p ys/\Q (.ref p) H))):=by
 intro pins s σ H xs us Q I r h
 obtain⟨p,ys,rfl,h⟩:=h
 obtain⟨u,rfl,rx⟩:=vals1 r
 cases rx
 rcases h with⟨hq,q⟩|⟨hq,q⟩
 ·obtain⟨its,r',pl,hz⟩:=I.list hq
  have hlen:=r'.length
  refine call_tuple_list pl.isList (λh' kp=>?_) (by simp only[Qbe] <;> omega)
  have I1:Inv X pins σ H { s with heap:=h' }:=I.kept (t':=s.toks) kp
  have I2:Inv X pins σ (upd H h'.objs.size (.tup ys)) { s with heap:=h'.push { cls:=.type "tuple",data:=.seq its.toArray } }:=
   I1.laid (t':=s.toks) (λb o e=>Qav _ e) (Qck _) (show Bs X.prog X.w _ _ _ (.tup ys) from⟨hz,its,r',IsTup.new _ _⟩)
  exact⟨.ref h'.objs.size,_,I2,rfl,q _ (I1.hok.fresh (Qck _))⟩
 ·obtain⟨its,r',pl,hz⟩:=I.tuple hq
  exact call_tuple_same pl ⟨.ref p,H,I,rfl,q⟩
def tyV (K:YD) (T:String) (x:V) (H:Hp):Prop:=match x with
 | .str _=>T="str"
 | .int _=>T="int"
 | .ref p=>(T="list"/\∃xs,SqL K H p xs)\/(T="tuple"/\∃o,K.lookup p=some o/\o.cls=.type "tuple"/\o.dict=none) \/
   (T="dict"/\((∃kvs,H p=some (.dK kvs))\/∃kvs,H p=some (.dT kvs)))\/(T="set"/\∃S n,H p=some (.set S n))
 | _=>False
theorem tV {pins:YC} {σ : St} {H:Hp} {s:Shared} {T:String} {x:V} {v:Value} (I:Inv X pins σ H s) (r:RelV x v) (ty:tyV X.K T x H) :
  s.TypeIs v T/\∀a,v=.ref a->∃ob,s.heap.get? a=some ob/\ob.dict=none:=by
 cases x with
 | str z=>
  obtain⟨t,rfl⟩:=r
  cases (show T="str" from ty)
  exact⟨typeIs_str s z t,λ_ e=>nomatch e⟩
 | int i=>
  obtain⟨t,rfl⟩:=r
  cases (show T="int" from ty)
  exact⟨typeIs_int s i t,λ_ e=>nomatch e⟩
 | ref p=>
  cases r
  rcases ty with⟨rfl,xs,hq⟩|⟨rfl,o,hk,hc,hd⟩|⟨rfl,hk⟩|⟨rfl,S,n,hk⟩
  ·obtain⟨its,_,pl,_⟩:=I.list hq
   refine⟨pl.isList.typeIs,λa e=>?_⟩
   cases e
   obtain⟨o,n,e,c,hd,_⟩:=pl
   exact⟨o,e,hd⟩
  ·refine⟨⟨o,I.kIn p o hk,hc⟩,λa e=>?_⟩
   cases e
   exact⟨o,I.kIn _ o hk,hd⟩
  ·have z:∃o,s.heap.get? p=some o/\o.ExactDict:=by
    rcases hk with⟨kvs,hk⟩|⟨kvs,hk⟩
    ·obtain⟨_,_,_,_,o,_,_,e,ex,_⟩:=I.hok p _ hk
     exact⟨o,e,ex⟩
    ·obtain⟨_,_,_,_,o,_,_,e,ex,_⟩:=I.hok p _ hk
     exact⟨o,e,ex⟩
   obtain⟨o,e,ex⟩:=z
   refine⟨⟨o,e,ex.1⟩,λa e2=>?_⟩
   cases e2
   exact⟨o,e,ex.2.1⟩
  ·obtain⟨o,_,_,_,e,ex,_⟩:=I.hok p _ hk
   refine⟨⟨o,e,ex.1⟩,λa e2=>?_⟩
   cases e2
   exact⟨o,e,ex.2.1⟩
 | _=>exact False.elim ty
def tBM (K:YD) (T:String) (r:V->YG->Hp->VK->Prop) (to:TE) (t:TA):TE:=fun σ H Q=>to σ H λx H1=>tyV K T x H1/\t σ H1 λxs H2=>r x xs H2 Q
variable {o e:Expr} {es:YJ} {to:TE} {t:TA} {name:Str} {apos cpos:Pos} {T id:String} {r:V->YG->Hp->VK->Prop}
theorem Cm (pa:PlainAttrs T) (slot:Slot T name id) (hty:typeOf (.builtin id)=pure (.type "method_descriptor")) (hm:MtR X id r) (ho:PE X o to) (ha:PA X (e::es) t)
  (hbase:attributeBase o name X.env (eval o X.env)=eval o X.env:=by rfl)
  (hfew:((backTo cpos (starEach (e::es) X.env)).all (λx=>!x.1)&&(backToKw cpos (keywordEach [] X.env)).all (λx=>x.1.isSome)
  &&decide ((e::es).length+([]:List Keyword).length+(if ([]:List Keyword).isEmpty then 0 else 1) < 30))=true:=by rfl)
  (hline:(apos.endLine == cpos.line)=true:=by rfl) (hs:starEach (e::es) X.env=(false,eval e X.env)::starEach es X.env:=by rfl) (hplain:(backTo cpos (starEach es X.env)).any (·.1)=false:=by rfl) :
  PE X (.Call (.Attribute o name apos) (e::es) [] cpos) (tBM X.K T r to t):=by
 intro pins s σ H Q I h
 refine wpAny_Call_method_late hbase hfew hline rfl (thn (ho pins s σ H _ I h) λv s1 zz=>?_)
 obtain⟨x,H1,I1,r1,ty,q1⟩:=zz
 obtain⟨h1,h2⟩:=tV I1 r1 ty
 refine⟨T,id,pa,slot,hty,h1,h2,?_⟩
 have hA:=ha cpos pins s1 σ H1 _ I1 q1
 rw[hs] at hA ⊢
 refine Calls.callWith_builtin (by show (false || (backTo cpos (starEach es X.env)).any (·.1))=false;rw[hplain] <;> rfl) (Calls.evalArgs_plain ?_)
 refine thn hA λus s2 zz=>?_
 obtain⟨vs,H2,I2,r2,q2⟩:=zz
 exact hm pins s2 σ H2 x vs v us Q I2 r1 r2 q2
end
def MtM (X:Cx) (id:String) (r:V->YG->Hp->VK->Prop):Prop:=
 ∀(pins:YC) (s:Shared) (σ : St) (H:Hp) (x:V) (xs:YG) (v:Value) (us:YE) (Q:VK),Inv X pins σ H s->RelV x v->Vals xs us->r x xs H Q ->
  wpAny (model X.prog X.w) X.A (call (.builtin id) (v::us)) (EP X pins σ Q) X.xe s
theorem Vals.one:∀{x:V} {us:YE},Vals [x] us->∃u,us=[u]/\RelV x u
 | _,_,.cons r .nil=>⟨_,rfl,r⟩
theorem Vals.two:∀{x y:V} {us:YE},Vals [x,y] us->∃u v,us=[u,v]/\RelV x u/\RelV y v
 | _,_,_,.cons r (.cons q .nil)=>⟨_,_,rfl,r,q⟩
theorem Vals.zero:∀{us:YE},Vals [] us->us=[]
 | _,.nil=>rfl
theorem Vals.eraseIdx:∀{xs:YG} {us:YE} (i:Nat),Vals xs us->Vals (xs.eraseIdx i) (us.eraseIdx i)
 | _,_,_,.nil=>.nil
 | _,_,0,.cons _ t=>t
 | _,_,i+1,.cons r t=>.cons r (Vals.eraseIdx i t)
theorem V2 {α : Type}:∀(l:List α) (i:Nat),(l.eraseIdx i).length<=l.length
 | [],_=>Qck _
 | _::_,0=>Nat.le_succ _
 | _::r,i+1=>Nat.succ_le_succ (V2 r i)
section
variable {X:Cx} {pins:YC} {σ : St} {H:Hp} {s:Shared} {l b:Addr} {xs ys zs:YG}
theorem Inv.nZ {its its':YE} {n:Nat} {f:Array Value->Array Value} {t':Nat} (I:Inv X pins σ H s) (hH:H l=some (.lst xs))
  (e:s.heap.get? l=some { cls:=.type "list",data:=.seq its.toArray n }) (hf:f its.toArray=its'.toArray) (hv:Vals ys its') (hz:ys.length<=sizeLine) :
  Inv X pins σ (upd H l (.lst ys)) { s with heap:=s.heap.update l (Obj.mapSeq f),toks:=t' }:=by
 have q:=PySem.IsL.update e f
 rw[hf] at q
 refine I.write (x:=l) (e:=l) (by rw[hH];exact trivial) (.inl rfl) (λb' u hb hu=>(Qaz s.heap (Obj.mapSeq f) (Ne.symm hb)).trans hu) ⟨_,q⟩ ?_
 exact⟨hz,its',_,hv,q⟩
theorem Inv.eN (I:Inv X pins σ H s) (hH:H l=some (.lst xs)):xs.length<=sizeLine/\∃(its:YE) (n:Nat),Vals xs its/\xs.length=its.length/\s.heap.get? l=some { cls:=.type "list",data:=.seq its.toArray n }:=by
 obtain⟨z,its,n,r,e⟩:=I.hok l _ hH
 exact⟨z,its,n,r,r.length,e⟩
theorem nP {n:Nat} (h:n<=sizeLine):Builtin.List.listTooLong n=false:=by
 unfold Builtin.List.listTooLong
 exact QbB (by omega)
end
section
variable {X:Cx}
def qO:V->YG->Hp->VK->Prop:=λx vs H Q=>∃l xs y,x=.ref l/\vs=[y]/\H l=some (.lst xs)/\xs.length < sizeLine/\Q .non (upd H l (.lst (xs++[y])))
theorem Cd:MtM X "list.append" qO:=by
 intro pins s σ H x vs v us Q I rx rv h
 obtain⟨l,xs,y,rfl,rfl,hH,hz,q⟩:=h
 cases rx
 obtain⟨u,rfl,ru⟩:=rv.one
 obtain⟨z,its,n,r,hl,e⟩:=I.eN hH
 refine call_meets F.slot_list_append ⟨_,e,rfl⟩ F.entry_list_append (F.args_list_append_2 _ _) (PySem.list_append l its.toArray n u (by rw[Qbe];omega)) ⟨e,?_⟩
 refine⟨.non,_,I.nZ (its':=its++[u]) hH e (by simp) (r.append (.cons ru .nil)) ?_,rfl,q⟩
 rw[QaP,QaB]
 omega
def qN:V->YG->Hp->VK->Prop:=λx vs H Q=>∃l b xs zs,x=.ref l/\vs=[.ref b]/\H l=some (.lst xs)/\H b=some (.lst zs)/\xs.length+zs.length<=sizeLine/\Q .non (upd H l (.lst (xs++zs)))
theorem Ec:MtM X "list.extend" qN:=by
 intro pins s σ H x vs v us Q I rx rv h
 obtain⟨l,b,xs,zs,rfl,rfl,hH,hB,hz,q⟩:=h
 cases rx
 obtain⟨u,rfl,ru⟩:=rv.one
 cases ru
 obtain⟨z,its,n,r,hl,e⟩:=I.eN hH
 obtain⟨z2,its2,n2,r2,hl2,e2⟩:=I.eN hB
 have hsz:its.toArray.size+its2.toArray.size<=sizeLine:=by rw[Qbe,Qbe];omega
 have yu:¬(!its.toArray.isEmpty&&Builtin.List.listTooLong (its.toArray.size+its2.toArray.size))=true:=by
  rw[nP hsz,Bool.and_false]
  exact QaT
 refine call_meets F.slot_list_extend ⟨_,e,rfl⟩ F.entry_list_extend (F.args_list_extend_2 _ _)
  (AutoSeq1.list_extend_list_list_0 l its.toArray n b its2.toArray n2 yu (by rw[Qbe];omega) (by omega)) ⟨e,e2,?_⟩
 refine⟨.non,_,I.nZ (its':=its++its2) hH e (by simp) (r.append r2) ?_,rfl,q⟩
 rw[QaP]
 omega
def uL:V->YG->Hp->VK->Prop:=λx vs H Q=>∃l xs i k y,x=.ref l/\vs=[.int i]/\H l=some (.lst xs)/\-(2 ^ 63)<=i/\i < 2 ^ 63/\seqIndex? i xs.length=some k/\xs[k]?=some y/\Q y (upd H l (.lst (xs.eraseIdx k)))
theorem Sh:MtM X "list.pop" uL:=by
 intro pins s σ H x vs v us Q I rx rv h
 obtain⟨l,xs,i,k,y,rfl,rfl,hH,h1,h2,hk,hy,q⟩:=h
 cases rx
 obtain⟨u,rfl,ru⟩:=rv.one
 obtain⟨t,rfl⟩:=ru
 obtain⟨z,its,n,r,hl,e⟩:=I.eN hH
 obtain⟨w,hw,rw'⟩:=r.get hy
 refine call_meets F.slot_list_pop ⟨_,e,rfl⟩ F.entry_list_pop (F.args_list_pop_2 _ _)
  (MeetsSeq.list_pop_at l its.toArray n i t k w (fitsIndex_both h1 h2) (by rw[Qbe,<-hl];exact hk) (by rw[<-Array.getElem?_toList];exact hw) (by rw[Qbe];omega)) ⟨e,?_⟩
 refine⟨y,_,I.nZ (its':=its.eraseIdx k) hH e ?_ (r.eraseIdx k) ?_,rw',q⟩
 ·show its.toArray.eraseIdxIfInBounds k=(its.eraseIdx k).toArray
  rw[List.eraseIdxIfInBounds_toArray]
 ·have:=V2 xs k
  omega
end
section
variable {prog:Program} {w:World} {A:Around} {E:YA} {s:Shared}
set_option maxRecDepth 100000 in
end
section
variable {X:Cx}
end
end L2
namespace Att
open PySem PySem.W PySem.Calls PyProof.Rows
theorem Uh {P:Params} {h:Heap}:∀(ns:List Int) (vs:YE),WellAll P h vs (ns.map WData.int)->IntsAre vs ns:=by
 intro ns
 induction ns with
 | nil=>
  intro vs w
  rw[Qcj] at w
  cases w
  exact .nil
 | cons n ns ih=>
  intro vs w
  rw[QbU] at w
  cases w with
  | cons a b=>
   cases a
   exact .cons _ _ (ih _ b)
theorem iw {l:OpenLaw} {n:Nat} (hn:l.most=some n) {P:Params} {h:Heap} {args:List WData} {vals:YE}
  (hpre:l.row.toRowW.claim.pre args=true) (hwl:WellAll P h vals args) :
  ∃a vs ns,vals=[Value.ref a]/\args=[WData.list (ns.map WData.int)]/\h.get? a=some { cls:=.type "list",data:=.seq vs.toArray }/\IntsAre vs ns/\ns.length<=n:=by
 have hsh:WShape.hasAll [] args [.list .int]=true:=(pre_splitW hpre).1
 have hc:l.pre.holds [] { args:=args }=true:=(pre_splitW hpre).2
 obtain⟨d,r,rfl,h1,h2⟩:=hasAllW_cons hsh
 obtain rfl:=hasAllW_nil h2
 obtain⟨xs,rfl,h3⟩:=hasW_list h1
 obtain⟨ns,rfl⟩:=items_int h3
 have hlen:ns.length<=n:=by
  unfold OpenLaw.pre at hc
  have h4:(WTm.not (.lt (.lit (.int (n:Int))) (.len (.arg 0)))).holds [] { args:=[.list (ns.map .int)] }=true:=by
   have h4:=(holds_andW hc).1
   rw[hn] at h4
   exact h4
  have h5:=condW_of h4 (w_not (w_lt w_lit (w_len_list (w_arg rfl))))
  rw[Qbx] at h5
  refine Nat.le_of_not_lt λq=>?_
  have q':(n:Int) < ((ns.length:Nat):Int):=by omega
  first
   | (rw[QbN q'] at h5;exact absurd h5 (by decide))
   | (simp at h5;omega)
 cases hwl with
 | cons w1 w2=>
  cases w2
  cases w1 with
  | list ho hall=>exact⟨_,_,ns,rfl,rfl,ho,Uh ns _ hall,hlen⟩
theorem iI (l:OpenLaw) (args:List WData):l.row.toRowW.claim.post args (.bool true) args=true:=
 postW_of (r:=l.row.toRowW) (X:=(true == true))
  (show WShape.has [] (.bool true) .bool=true by first | rfl | decide | simp[WShape.has,WShape.arms,WShape.armsAll])
  (show (WTm.eq .res (.lit (.bool true))).value [] { args:=args,res:=some (.bool true),after:=args }=some (.bool (true == true)) from w_eq_bool (w_res rfl) w_lit) rfl
theorem aq {l:OpenLaw} {n:Nat} {q:Program} {loose:YF} {XP:(YB)->Heap->Prop} {YP:World->Heap->Prop} {d:DefRec}
  (hn:l.most=some n) (hdf:d.params.defaults=[])
  (call:∀(w:World) (s₀ s₁ : Shared) (mg mb:YB) (fa:Addr) (o:Obj) (pm cd doc:Value) (a:Addr) (vs:YE) (ns:List Int),
   Ground q loose [] XP w s₀ mg mb s₁.heap->YP w s₁.heap ->
   s₁.heap.get? fa=some o->o.data=.func (docDef d.name d.params d.body d.scope pm cd doc)->s₁.heap.CodeRec cd d.name->mg d.name=some (.ref fa) ->
   s₁.heap.get? a=some { cls:=.type "list",data:=.seq vs.toArray }->IntsAre vs ns->ns.length<=n->s₁.gens=#[] ->
   codeAny (model l.prog w) callerA (.call (.ref fa) ⟨[.ref a],[]⟩) (λr s'=>r=.ok (.ret (.bool true))/\OldK s₁.heap s'.heap/\s'.os=s₁.os/\AllBare s'.gens) s₁) :
  WalkO q loose XP YP l.row.toRowW d [] (λf vs=>PySem.call f vs):=by
 intro w s₀ s₁ mg mb G Y fa o pm cd doc dV kV ho hd hcd hD hmg hg args vals as hpre hlay hrd hwl hlo
 obtain rfl:dV=.none:=Dflts.none hD hdf
 obtain rfl:kV=.none:=Dflts.noKw hD
 obtain⟨a,vs,ns,rfl,rfl,hobj,hints,hlen⟩:=iw hn hpre hwl
 refine enter_call (codeAny_mono (call w s₀ s₁ mg mb fa o pm cd doc a vs ns G Y ho (fd_plain hd) hcd hmg hobj hints hlen hg) λr s' hq=>?_)
 obtain⟨rfl,h2,h3,h4⟩:=hq
 exact⟨.inl ⟨.bool true,.bool true,[],rfl,λ_=>rfl,.bool true,iI l _,λ_=>⟨List.Pairwise.nil,λ_ hm=>(nomatch hm)⟩⟩,h2,h3,h4⟩
section
variable {prog:Program} {w:World} {A:Around} {E:YA} {s:Shared} {K:Frag}
def T8 (h:Heap):Heap:={ h with objs:=#[] }
theorem K9 (h:Heap) (b:Addr):(T8 h).get? b=none:=by
 cases e:(T8 h).get? b with
 | none=>rfl
 | some o=>exact absurd (Qcb e) (QbK _)
theorem wB {h:Heap} {L:Addr} {m:YB} (n:h.Ns L m):Fr (T8 h) L h m:=
 ⟨n,λb o e=>(by rw[K9] at e;cases e),Qcl _⟩
end
end Att
namespace L2
open PySem PySem.Spec PyProof.Rows
theorem PB:∀{vs:YE} {ns:List Int},IntsAre vs ns->Vals (ns.map V.int) vs
 | _,_,.nil=>.nil
 | _,_,.cons n t h=>.cons ⟨t,rfl⟩ (PB h)
def Only (H:Hp):Prop:=∀b,H b=none\/∃o xs,H b=some (.frz o (.lst xs))
theorem ou {P:Program} {w:World} {K:YD} {mg mb:YB} {CX:CXT} {k:Nat} {fa a:Addr} {fd:FuncData} {x:Str} {sp:Sp} {s₁ : Shared} {vs:YE} {ns:List Int}
  (KX:K.In s₁.heap) (hns:s₁.heap.Ns mainGlobals mg) (hb:s₁.heap.Ns builtinsNs mb) (hbb:∀x:Str,x≠"__name__"->mb x=bootBuiltins x) (hlim:s₁.heap.NoLimit) (hg:s₁.gens=#[])
  (ha:s₁.heap.get? a=some { cls:=.type "list",data:=.seq vs.toArray }) (hi:IntsAre vs ns) (hl:ns.length<=sizeLine) (hr:CQ k callerA)
  (F:∀base:Heap,K.In base->base.Ns mainGlobals mg->Gn P w K mg base CX k fa fd [x] sp) (hbind:∀(s:Shared) (u:Value),BindsTo s fd ⟨[u],[]⟩ [(x,u)])
  (hsp:∀H:Hp,Only H->SqL K H a (ns.map V.int)->sp [.ref a] H (λv _=>v=.bl true) λ_ _ _=>False)
  (hCX:∀H e s',CX [] H s₁ (λ_ _ _=>False) e s'->False) :
  codeAny (model P w) callerA (.call (.ref fa) ⟨[.ref a],[]⟩) (λr s'=>r=.ok (.ret (.bool true))/\OldK s₁.heap s'.heap/\s'.os=s₁.os/\AllBare s'.gens) s₁:=by
 have rv:=PB hi
 have lenV:=hi.length
 have core:∀H:Hp,Only H->SqL K H a (ns.map V.int)->HOk P w H s₁.heap->(∀b,H b≠none->b=a)->(H a≠none->K.lookup a=none) ->
   codeAny (model P w) callerA (.call (.ref fa) ⟨[.ref a],[]⟩) (λr s'=>r=.ok (.ret (.bool true))/\OldK s₁.heap s'.heap/\s'.os=s₁.os/\AllBare s'.gens) s₁:=by
  intro H hO hS hok hA hK
  have cN:∀{b:Addr} {o:Obj},s₁.heap.get? b=some o->H b=none->(OJ s₁.heap H).get? b=some o:=λe n=>oJ e n
  have noA:∀{b:Addr} {o:Obj} {es:YK} {ep:Nat},s₁.heap.get? b=some o->o.data=.dict es ep->H b=none:=λ{b o es ep} e d=>by
   cases q:H b with
   | none=>rfl
   | some u=>
    have e':b=a:=hA b (by rw[q];simp)
    subst e'
    rw[ha] at e;cases e
    have d':Data.seq vs.toArray _=Data.dict es ep:=d
    cases d'
  have nsK:∀{b:Addr} {m:YB},s₁.heap.Ns b m->(OJ s₁.heap H).Ns b m:=λ{b m} ⟨o,es,ep,e,d,r⟩=>⟨o,es,ep,cN e (noA e d),d,r⟩
  have hKb:K.In (OJ s₁.heap H):=λb o e=>cN (KX b o e) (by
   cases q:H b with
   | none=>rfl
   | some u=>
    have e':b=a:=hA b (by rw[q];simp)
    subst e'
    rw[hK (by rw[q];simp)] at e;cases e)
  have hM:Mod K mg (OJ s₁.heap H):=⟨hKb,nsK hns,⟨mb,nsK hb,hbb⟩,let ⟨mc,h1,h2⟩:=hlim;⟨mc,nsK h1,h2⟩⟩
  have e0:N5 P w K mg (OJ s₁.heap H) callerA [] s₁ H:=⟨rfl,hM,λb o e=>rB e,Nat.le_of_eq (jw _ _),trivial,λb hb=>absurd (show b∈([]:List Addr) from hb) (by simp),hok,.of_eq hg⟩
  refine codeAny_mono ((F _ hKb (nsK hns)).run callerA [] s₁ H ⟨[.ref a],[]⟩ [.ref a] [.ref a] _ _ hr e0 (hbind s₁ (.ref a)) (.cons rfl .nil) (hsp H hO hS)) λr s' h=>?_
  cases r with
  | error e=>exact (hCX H e s' h).elim
  | ok fl=>
   cases fl with
   | next=>exact False.elim h
   | brk=>exact False.elim h
   | cont=>exact False.elim h
   | ret u=>
    obtain⟨v,H',os,bare,un,hok',r',q⟩:=h
    have q':v=.bl true:=q
    subst q'
    obtain rfl:u=Value.bool true:=r'
    refine⟨rfl,OldK.of_keep λb o e=>?_,os,bare⟩
    cases q:H b with
    | none=>exact un.keep b o e q (by intro z;exact absurd (show b∈([]:List Addr) from z) (by simp)) (by simp)
    | some u=>
     rcases hO b with z |⟨ob,xs,z⟩
     ·rw[q] at z;cases z
     ·have z2:=un.K3 b ob _ z
      obtain⟨e1,_⟩:=hok b _ z
      obtain⟨e2,_⟩:=hok' b _ z2
      rw[e] at e1;cases e1
      exact e2
 cases hk:K.lookup a with
 | some o=>
  have e:=KX a o hk
  rw[ha] at e
  cases e
  refine core (λ_=>none) (λ_=>.inl rfl) (.inr ⟨_,vs.toArray,_,hk,rfl,rfl,rfl,by rw[Qbe,lenV];exact hl,by simpa using rv⟩) (λb u z=>by have z':(none:Option HO)=some u:=z;cases z') (λb z=>absurd rfl z) λz=>absurd rfl z
 | none=>
  refine core (λb=>if b=a then some (.frz { cls:=.type "list",data:=.seq vs.toArray } (.lst (ns.map V.int))) else none) (λb=>?_) (.inl (.inr ⟨{ cls:=.type "list",data:=.seq vs.toArray },if_pos rfl⟩)) (λb u z=>?_) (λb z=>?_) λ_=>hk
  ·by_cases hb:b=a
   ·exact .inr ⟨_,_,if_pos hb⟩
   ·exact .inl (if_neg hb)
  ·by_cases hb:b=a
   ·have z':=(if_pos hb).symm.trans z
    cases z'
    subst hb
    exact⟨ha,by rw[Qbx];exact hl,vs,_,rv,ha⟩
   ·have z':=(if_neg hb).symm.trans z
    cases z'
  ·by_cases hb:b=a
   ·exact hb
   ·exact absurd (if_neg hb) z
theorem qw {l:PySem.W.OpenLaw} {n k:Nat} {q:Program} {loose:YF} {XP:(YB)->Heap->Prop} {YP:World->Heap->Prop} {d:DefRec} {K:Params->YD} {CX:World->CXT} {sp:World->Sp} {x:Str}
  (hn:l.most=some n) (hn2:n<=sizeLine) (hdf:d.params.defaults=[]) (hr:CQ k callerA)
  (hY:∀(w:World) (h:Heap),YP w h->(K w.params).In h)
  (F:∀(w:World) (mg:YB) (fa:Addr) (h:Heap),(K w.params).In h->h.Ns mainGlobals mg->mg d.name=some (.ref fa) ->
   ∃fd:FuncData,(∀(s:Shared) (u:Value),BindsTo s fd ⟨[u],[]⟩ [(x,u)]) /\
    ∀base:Heap,(K w.params).In base->base.Ns mainGlobals mg->Gn l.prog w (K w.params) mg base (CX w) k fa fd [x] (sp w))
  (hsp:∀(w:World) (H:Hp) (a:Addr) (ns:List Int),ns.length<=n->Only H->SqL (K w.params) H a (ns.map V.int)->sp w [.ref a] H (λv _=>v=.bl true) λ_ _ _=>False)
  (hCX:∀(w:World) (H:Hp) (s:Shared) (e:Value) (s':Shared),CX w [] H s (λ_ _ _=>False) e s'->False) :
  PySem.W.WalkO q loose XP YP l.row.toRowW d [] (λf vs=>PySem.call f vs):=by
 refine Att.aq hn hdf λw s₀ s₁ mg mb fa o pm cd doc a vs ns G Y ho hd hcd hmg hobj hints hlen hg=>?_
 have KX:=hY w _ Y
 obtain⟨fd,hb,hF⟩:=F w mg fa _ KX G.T.g hmg
 exact ou KX G.T.g G.T.b G.T.builtins G.T.nolimit hg hobj hints (Qce hlen hn2) hr hF hb (λH hO hS=>hsp w H a ns hlen hO hS) λH e s'=>hCX w H s₁ e s'
def inClass (s:Stmt) (j:Nat):Stmt:=match s with
 | .ClassDef _ _ _ body _ _ _ _ _ _ _=>body.getD j (.Pass ⟨0,0,0,0⟩)
 | _=>.Pass ⟨0,0,0,0⟩
def DQ (s:Stmt):Arguments:=match s with
 | .FunctionDef _ a _ _ _ _ _ _ _ _=>a
 | _=>{ posonlyargs:=[],args:=[],vararg:=none,kwonlyargs:=[],kw_defaults:=[],kwarg:=none,defaults:=[] }
def CZ (s:Stmt):List Stmt:=match s with
 | .FunctionDef _ _ b _ _ _ _ _ _ _=>b
 | _=>[]
def Ak (s:Stmt):Scope:=match s with
 | .FunctionDef _ _ _ _ _ _ sc _ _ _=>sc
 | _=>{ kind:=.function,names:=[],isGenerator:=false,isCoroutine:=false }
abbrev CX0:CXT:=λ_ _ _ _ _ _=>False
abbrev E0:XK:=λ_ _ _=>False
theorem WW {X:Cx}:Passes CX0 X E0:=λ_ _ _ _ _ _ _ h=>h.elim
structure Fun (K:YD) (x qual:Str) (st:Stmt) (f:Addr) (fd:FuncData):Prop where
 ex:∃(oc:Value) (od:Option Addr) (kV doc pm:Value) (an:Option Addr) (cdv ct:Value) (osl:YI),
  fd=fnOf x qual (DQ st) (CZ st) (Ak st) .none kV doc pm an cdv ct/\K.lookup f=some ⟨oc,od,.func fd,osl⟩/\codeIn K cdv qual=true
 kp:keepIn K (.ref f)=true
section
variable {P:Program} {w:World} {K:YD} {mg:YB} {base:Heap}
theorem Fun.ok {x qual:Str} {st:Stmt} {f:Addr} {fd:FuncData} {N ps:YF} {k:Nat} {sp:Sp} (F:Fun K x qual st f fd) (S:Ay N ps (Ak st)) (len:∀vs H Q E,sp vs H Q E->vs.length=ps.length)
  (hbody:∀(cdv:Value) (A:Around) (outer:List Env) (s:Shared) (H:Hp) (vs:YG) (Q:VK) (E:XK),CQ k (A.deeper (envOfC qual (Ak st) s.heap.objs.size f cdv))->sp vs H Q E ->
   ∃t,PSs (QF CX0 P w K mg base N qual (Ak st) f cdv A outer s H E).nox (CZ st) t/\t { nx:=λ_ H'=>Q .non H',rt:=Q } (start N vs) H):Gn P w K mg base CX0 (k+1) f fd ps sp:=by
 obtain⟨oc,od,kV,doc,pm,an,cdv,ct,osl,rfl,lk,hcd⟩:=F.ex
 refine yJ lk hcd S len λA outer s H vs Q E hr hsp=>?_
 obtain⟨t,h,q⟩:=hbody cdv A outer s H vs Q E hr hsp
 exact⟨t,h.nox,q⟩
theorem Fun.binds {x qual:Str} {st:Stmt} {f:Addr} {fd:FuncData} {ps:YF} (F:Fun K x qual st f fd)
  (h:∀(kV doc pm:Value) (an:Option Addr) (cdv ct:Value) (us:YE),us.length=ps.length->bindArgs (fnOf x qual (DQ st) (CZ st) (Ak st) .none kV doc pm an cdv ct) ⟨us,[]⟩=pure (ps.zip us)):Binds K fd ps []:=by
 obtain⟨oc,od,kV,doc,pm,an,cdv,ct,osl,rfl,lk,hcd⟩:=F.ex
 exact .all (h kV doc pm an cdv ct)
theorem Uo {x qual:Str} {st:Stmt} {f:Addr} {oc:Value} {od an:Option Addr} {osl:YI} {kV doc pm cdv ct:Value} (l:K.lookup f=some ⟨oc,od,.func (fnOf x qual (DQ st) (CZ st) (Ak st) .none kV doc pm an cdv ct),osl⟩)
  (c:codeIn K cdv qual=true) (k:keepIn K (.ref f)=true):Fun K x qual st f (fnOf x qual (DQ st) (CZ st) (Ak st) .none kV doc pm an cdv ct):=⟨⟨oc,od,kV,doc,pm,an,cdv,ct,osl,rfl,l,c⟩,k⟩
end
theorem Cv {A:Around} {k:Nat} (hr:CQ k A):A.units+1 < cLine:=Nat.lt_of_le_of_lt (Nat.add_le_add_left (by decide:1<=64) _) hr.units
theorem Aq {n:Nat} (h:n<=1000):n < sizeLine:=Nat.lt_of_le_of_lt h (by decide)
section
variable {X:Cx}
theorem pv (i:Nat) {x:Str} {pos:Pos} (hN:X.N[i]?=some x:=by rfl) (hv:Vis X.env.scope x:=by first | exact Or.inl rfl | exact Or.inr (Or.inl rfl) | exact Or.inr (Or.inr rfl)) (hd:(x == ("__debug__":Str))=false:=by decide)
  (hcd:(x == ("__classdict__":Str))=false:=by decide):PE X (.Name x pos) (uc i):=uP hN hv hd hcd
end
theorem Cp {A B:Prop} (h:B):if false=true then A else B:=by
 rw[if_neg QaT]
 exact h
theorem BZ {A B:Prop} (h:A):if true=true then A else B:=by
 rw[if_pos rfl]
 exact h
theorem Ju {c A B:Prop} [Decidable c] (h1:c->A) (h2:¬c->B):if c then A else B:=by
 by_cases h:c
 ·rw[if_pos h]
  exact h1 h
 ·rw[if_neg h]
  exact h2 h
def Same (H H':Hp):Prop:=∀b o,H b=some o->H' b=some o
theorem Same.refl (H:Hp):Same H H:=λ_ _ h=>h
theorem Same.trans {H H1 H2:Hp} (a:Same H H1) (b:Same H1 H2):Same H H2:=λc o h=>b c o (a c o h)
theorem Same.free {H H':Hp} (e:Same H H') {l:Addr} (h:H' l=Option.none):H l=Option.none:=by
 cases q:H l with
 | none=>rfl
 | some o=>
  rw[e l o q] at h
  cases h
theorem Same.seq {K:YD} {H H':Hp} {a:Addr} {xs:YG} (e:Same H H') (h:SqL K H a xs):SqL K H' a xs:=by
 rcases h with (h |⟨o,h⟩) | h
 ·exact .inl (.inl (e _ _ h))
 ·exact .inl (.inr ⟨o,e _ _ h⟩)
 ·exact .inr h
def Er (env:Env):List (Str×NameKind)->List (Str×Addr)->List (Str×Addr)
 | [],cs=>cs
 | (n,k)::r,cs=>Er env r (if (k == .free)=true then (match env.cells.lookup n with | some c=>(n,c)::cs | none=>cs) else cs)
theorem Zo {env:Env}:∀(names:List (Str×NameKind)) (cs:List (Str×Addr)),(∀p∈names,p.2=.free->∃c,env.cells.lookup p.1=some c) ->
  (forIn names cs λ(p:Str×NameKind) (r:List (Str×Addr))=>(if (p.2 == .free)=true then do
    let c <-cellOf env p.1
    pure (ForInStep.yield ((p.1,c)::r))
   else pure (ForInStep.yield r):Sem (ForInStep (List (Str×Addr)))))=pure (Er env names cs)
 | [],cs,_=>rfl
 | (n,k)::rest,cs,h=>by
  have ih:=λcs'=>Zo rest cs' λp hp=>h p (QaF _ hp)
  rw[List.forIn_cons]
  cases hk:(k == NameKind.free) with
  | true=>
   obtain⟨c,hc⟩:=h (n,k) QaQ (eq_of_beq hk)
   have e1:cellOf env n=pure c:=by unfold cellOf;rw[hc]
   have e2:Er env ((n,k)::rest) cs=Er env rest ((n,c)::cs):=by simp only[Er,hk,if_true,hc]
   rw[e2,<-ih]
   simp only[hk,if_true,e1,pure_bind]
  | false=>
   have e2:Er env ((n,k)::rest) cs=Er env rest cs:=by simp only[Er,hk,Bool.false_eq_true,if_false]
   rw[e2,<-ih]
   simp only[hk,Bool.false_eq_true,if_false,pure_bind]
theorem Pa {env:Env} {scope:Scope} (h:∀p∈scope.names,p.2=.free->∃c,env.cells.lookup p.1=some c):closureFor scope env=pure (Er env scope.names []):=by
 have e:=Zo (env:=env) scope.names [] h
 unfold closureFor
 simp only[bind_pure]
 exact e
theorem Zn {env:Env}:∀(names:List (Str×NameKind)) (cs:List (Str×Addr)),(∀x c,cs.lookup x=some c->env.cells.lookup x=some c) ->
  ∀x c,(Er env names cs).lookup x=some c->env.cells.lookup x=some c
 | [],cs,h,x,c,e=>h x c e
 | (n,k)::rest,cs,h,x,c,e=>by
  refine Zn rest _ (λy d z=>?_) x c e
  split at z
  ·split at z
   ·rename_i c' hc'
    rw[List.lookup_cons] at z
    cases q:y == n with
    | true=>rw[q] at z;cases z;rw[eq_of_beq q];exact hc'
    | false=>rw[q] at z;exact h y d z
   ·exact h y d z
  ·exact h y d z
theorem S5 {env:Env}:∀(names:List (Str×NameKind)) (cs:List (Str×Addr)) (x:Str),((cs.lookup x).isSome=true\/((x,NameKind.free)∈names/\∃c,env.cells.lookup x=some c)) ->
  ∃c,(Er env names cs).lookup x=some c
 | [],cs,x,h=>by
  rcases h with h |⟨h,_⟩
  ·exact Option.isSome_iff_exists.mp h
  ·cases h
 | (n,k)::rest,cs,x,h=>by
  refine S5 rest _ x ?_
  have grow:(cs.lookup x).isSome=true->(List.lookup x (if (k == .free)=true then (match env.cells.lookup n with | some c=>(n,c)::cs | none=>cs) else cs)).isSome=true:=λz=>by
   split
   ·split
    ·rw[List.lookup_cons]
     cases x == n with
     | true=>rfl
     | false=>exact z
    ·exact z
   ·exact z
  rcases h with h |⟨h,c,hc⟩
  ·exact .inl (grow h)
  ·rcases QbT.mp h with z | z
   ·cases z
    refine .inl ?_
    simp[hc,List.lookup_cons]
   ·exact .inr ⟨z,c,hc⟩
def Ma (env:Env) (n:Str) (k:NameKind):NameKind:=if (k == .free&&env.scope.kind == .function&&env.kindOf n == some .cell)=true then .cell else k
theorem Ua (env:Env):∀(l:List (Str×NameKind)) (x:Str),
  (l.map λ(n,k)=>if (k == NameKind.free&&env.scope.kind == .function&&env.kindOf n == some .cell) then (n,NameKind.cell) else (n,k)).lookup x=(l.lookup x).map (Ma env x)
 | [],_=>rfl
 | (n,k)::r,x=>by
  have ih:=Ua env r x
  have e:(if (k == NameKind.free&&env.scope.kind == .function&&env.kindOf n == some .cell)=true then (n,NameKind.cell) else (n,k))=(n,Ma env n k):=by
   unfold Ma;split <;> rfl
  rw[QbU]
  show List.lookup x ((if (k == NameKind.free&&env.scope.kind == .function&&env.kindOf n == some .cell)=true then (n,NameKind.cell) else (n,k))::_)=_
  rw[e,List.lookup_cons,List.lookup_cons]
  cases q:x == n with
  | true=>rw[eq_of_beq q];rfl
  | false=>exact ih
theorem mq {env:Env} {n:Str} {k:NameKind} (h:Ma env n k=.cell\/Ma env n k=.free):k=.cell\/k=.free:=by
 unfold Ma at h
 split at h
 ·rename_i q
  simp only[Qbv] at q
  exact .inr (eq_of_beq q.1.1)
 ·exact h
theorem jU {prog:Program} {w:World} {A:Around} {R:Result->Shared->Prop} {s:Shared} {elt target iter:Expr} {ifs:YJ} {scope:Scope} {pos:Pos} {it acc:Value} {env:Env} (J:Nat->Shared->Prop)
  (turn:∀n s,J n s->wpAny (model prog w) A (pyNext it) (λr s1=>match r with
   | none=>R (.ok .next) s1
   | some v=>wpAny (model prog w) A (letOwnedTupleGo target it v) (λ_ s2=>wpAny (model prog w) A (assign target env v) (λ_ s3=>
     wpAny (model prog w) A (forIn ifs true λc r=>if r=true then do let ok <-isTrue c env (eval c env);pure (ForInStep.yield ok) else pure (ForInStep.yield r)) (λok s4=>
      if ok=true then wpAny (model prog w) A (eval elt env) (λx s5=>wpAny (model prog w) A (call (.builtin "list.append") [acc,x]) (λ_ s6=>∃m,m < n/\J m s6) (λ_ _=>False) s5) (λ_ _=>False) s4
      else ∃m,m < n/\J m s4) (λ_ _=>False) s3) (λ_ _=>False) s2) (λ_ _=>False) s1) (λ_ _=>False) s)
  (n:Nat) (h:J n s):codeAny (model prog w) A (.compLoop (.ListComp elt [⟨target,iter,ifs,0⟩] scope pos) 0 it acc env) R s:=by
 refine codeAny_loop rfl J (λk s' hk=>?_) n h
 show wpAny _ A (Sem.onRaise (compTurn (.ListComp elt [⟨target,iter,ifs,0⟩] scope pos) 0 it acc env) (λx=>do noteFrame x env;theTreesLotGoes x)) _ _ s'
 refine wpAny_noted ?_
 rw[compTurn_list]
 refine Qcp (QbY (Qcp (Qcr (turn k s' hk) (λr s1 q1=>?_) λ_ _ f=>f.elim)))
 cases r with
 | none=>exact Qcq q1
 | some v=>
  refine Qcp (Qcr q1 (λ_ s2 q2=>Qcp (Qcr q2 (λ_ s3 q3=>Qcp (Qcr q3 (λok s4 q4=>?_) λ_ _ f=>f.elim)) λ_ _ f=>f.elim)) λ_ _ f=>f.elim)
  cases ok with
  | false=>exact Qcq ⟨rfl,q4⟩
  | true=>exact Qcp (Qcp (Qcr q4 (λx s5 q5=>Qcp (Qcr q5 (λ_ s6 q6=>Qcq (Qcq ⟨rfl,q6⟩)) λ_ _ f=>f.elim)) λ_ _ f=>f.elim))
def cxC (X:Cx) (N':YF) (scope:Scope) (s3:Shared) (H3:Hp) (fp:List Addr) (pn:YC):Cx where
 prog:=X.prog
 w:=X.w
 K:=X.K
 mg:=X.mg
 base:=X.base
 A:=X.A
 N:=N'
 s₀:=s3
 H₀:=H3
 env:=compEnvC scope (Er X.env scope.names []) s3.heap.objs.size X.env
 outer:=X.stack
 stack:=X.stack
 ex:=fp
 fn:=λ_=>false
 calm:=X.calm
 pn:=pn
 xe:=λ_ _=>False
structure Bg (X:Cx) (N':YF) (src:List (Option Nat)) (sc:Scope):Prop where
 kind:sc.kind=.function
 Ia:∀y∈sc.names,y.2≠.cell
 loc:∀y∈sc.names,y.2=.local->sc.names.lookup y.1=some .local
 fv:∀y∈sc.names,y.2=.free->X.env.kindOf y.1=some .cell\/X.env.kindOf y.1=some .free
 len:src.length=N'.length
 src:∀(i:Nat) (x:Str) (j:Nat),N'[i]?=some x->src[i]?=some (some j)->X.N[j]?=some x/\sc.names.lookup x=some .free
def Jh (src:List (Option Nat)) (σ : St):St:=src.map λo=>match o with | none=>none | some j=>(σ[j]?).join
def PF (X:Cx) (ifs:YJ) (t:TT):Prop:=
 ∀(pins:YC) (s:Shared) (σ : St) (H:Hp) (Q:Bool->Hp->Prop),Inv X pins σ H s->t σ H Q ->
  wpAny (model X.prog X.w) X.A (forIn ifs true λc r=>if r=true then do let ok <-isTrue c X.env (eval c X.env);pure (ForInStep.yield ok) else pure (ForInStep.yield r)) (TP X pins σ Q) X.xe s
theorem Cy {X:Cx}:PF X [] (λ_ H Q=>Q true H):=λ_ _ _ H _ I h=>wpAny_tests_nil ⟨H,I,h⟩
theorem G6 {X:Cx} {c:Expr} {t:TT} (hc:PT X c t):PF X [c] t:=λpins s σ H Q I h=>wpAny_tests_one (hc pins s σ H Q I h)
theorem Un.ahead {fs ex:List Addr} {H H':Hp} {h h1 h':Heap} (u:Un fs ex H H' h h1) (k:∀b o,b < h.objs.size->h1.get? b=some o->h'.get? b=some o):Un fs ex H H' h h' where
 keep:=λb o e n hb hx=>k b o (Qcb e) (u.keep b o e n hb hx)
 slot:=λb o e n hb hx=>by
  obtain⟨sl,q⟩:=u.slot b o e n hb hx
  exact⟨sl,k b _ (Qcb e) q⟩
 free:=u.free
 there:=λb o e hx=>by
  obtain⟨o',q⟩:=u.there b o e hx
  exact⟨o',k b _ (Qcb e) q⟩
 tups:=u.tups
 K3:=u.K3
 Lw:=u.Lw
section
variable {X:Cx} {N':YF} {src:List (Option Nat)} {sc:Scope} {pins:YC} {σ : St} {H:Hp} {s3:Shared} {fp:List Addr} {h1:Heap} {tk:Nat}
theorem SQ (S:Bg X N' src sc) (I:Inv X pins σ H s3) (hf:∀b∈fp,Gf X pins H b) (ht:∀b∈fp,b < s3.heap.objs.size)
  (ns:h1.Ns s3.heap.objs.size λ_=>none) (kp:∀b o,s3.heap.get? b=some o->h1.get? b=some o) :
  Inv (cxC X N' sc s3 H fp (X.pn++pins)) [] (Jh src σ) H { s3 with heap:=h1,toks:=tk }:=by
 have hcl:∀x c,(Er X.env sc.names []).lookup x=some c->X.env.cells.lookup x=some c:=Zn sc.names [] λx c e=>by cases e
 have old:∀x c,(Er X.env sc.names []).lookup x=some c->∃o,s3.heap.get? c=some o:=λx c e=>by
  obtain⟨v,o,ho,_⟩:=I.cell x c (hcl x c e)
  exact⟨o,ho⟩
 have fvh:∀x,(x,NameKind.free)∈sc.names->∃c,X.env.cells.lookup x=some c:=λx hx=>I.ok.has x (S.fv _ hx rfl)
 have uD:∀b,b≠X.env.locals->b∉X.fs->b∉frs X.stack:=λb h1 h2 hb=>(QbT.mp (I.Xj b hb)).elim h1 h2
 have kindOf_eq:∀x,(compEnvC sc (Er X.env sc.names []) s3.heap.objs.size X.env).kindOf x=(sc.names.lookup x).map (Ma X.env x):=λx=>Ua X.env sc.names x
 refine⟨⟨I.ok.mod,S.kind,I.ok.glob,I.ok.blt,Qck _,λx y c e1 e2=>I.ok.inj x y c (hcl x c e1) (hcl y c e2),λx hx=>?_,λx c hf=>absurd hf QaT,I.ok.hd,I.ok.frames,.inl rfl,λb hb=>?_,I.bs,Qce I.ok.bsz I.sz,
  λb o e hb=>?_,λb hb=>?_,I.stack,I.aO⟩,rfl,I.bare,Un.kept kp,⟨_,ns,λi x v e1 e2 e3=>?_⟩,λx c e=>?_,I.hok.fresh (Qck _),λx c e=>I.Hr x c (hcl x c e),λp hp=>?_,I.hok.kept kp,?_⟩
 ·
  have hx':(sc.names.lookup x).map (Ma X.env x)=some .cell\/(sc.names.lookup x).map (Ma X.env x)=some .free:=by
   rw[<-kindOf_eq x];exact hx
  cases q:sc.names.lookup x with
  | none=>rw[q] at hx';rcases hx' with z | z <;> cases z
  | some k=>
   rw[q] at hx'
   have hk:k=.cell\/k=.free:=mq (env:=X.env) (n:=x) (hx'.imp (λz=>QbD z) λz=>QbD z)
   have hm:=QaN q
   rcases hk with rfl | rfl
   ·exact absurd rfl (S.Ia _ hm)
   ·exact S5 sc.names [] x (.inr ⟨hm,fvh x hm⟩)
 ·
  obtain⟨f0,f1,f2,f3,f4,f5⟩:=hf b hb
  exact⟨Qcd (ht b hb),λx c e=>f4 x c (hcl x c e)⟩
 ·
  obtain⟨f0,f1,f2,f3,f4,f5⟩:=hf b hb
  rcases f3 with z | z
  ·exact I.ok.Vk b o e z
  ·exact absurd (QaV (Qcb e) (Qce I.ok.bsz z)) (QbV _)
 ·
  obtain⟨f0,f1,f2,f3,f4,f5⟩:=hf b hb
  exact uD b f1 f2
 ·
  have e2':(Jh src σ)[i]?=some (some v):=e2
  unfold Jh at e2'
  rw[Qbg] at e2'
  cases q:src[i]? with
  | none=>rw[q] at e2';cases e2'
  | some oj=>
   rw[q] at e2'
   cases oj with
   | none=>cases e2'
   | some j=>
    have e4:(σ[j]?).join=some v:=QbD e2'
    have e5:σ[j]?=some (some v):=by
     cases r:σ[j]? with
     | none=>rw[r] at e4;cases e4
     | some z=>rw[r] at e4;cases z with
      | none=>cases e4
      | some y=>cases e4;rfl
    obtain⟨hN,hfr⟩:=S.src i x j e1 q
    have hm:=QaN hfr
    have kx:=S.fv _ hm rfl
    obtain⟨m,hn,hl⟩:=I.loc
    obtain⟨u,r,l⟩:=hl j x v hN e5 (.inr kx)
    refine⟨u,r,?_⟩
    rcases l with⟨k1,_⟩|⟨_,c,hc,hcell⟩
    ·rcases kx with z | z <;> (rw[z] at k1;cases k1)
    ·obtain⟨c',hc'⟩:=S5 (env:=X.env) sc.names [] x (.inr ⟨hm,c,hc⟩)
     have e6:c'=c:=by
      have:=hcl x c' hc'
      rw[hc] at this
      exact (QbD this).symm
     subst e6
     refine .inr ⟨?_,c',hc',?_⟩
     ·have:(compEnvC sc (Er X.env sc.names []) s3.heap.objs.size X.env).kindOf x=some (Ma X.env x .free):=by rw[kindOf_eq x,hfr];rfl
      show (compEnvC sc (Er X.env sc.names []) s3.heap.objs.size X.env).kindOf x=some .cell\/(compEnvC sc (Er X.env sc.names []) s3.heap.objs.size X.env).kindOf x=some .free
      rw[this]
      unfold Ma
      split
      ·exact .inl rfl
      ·exact .inr rfl
     ·obtain⟨o,ho,hd⟩:=hcell
      exact⟨o,kp _ o ho,hd⟩
 ·
  obtain⟨v,o,ho,hd⟩:=I.cell x c (hcl x c e)
  exact⟨v,o,kp _ o ho,hd⟩
 ·
  have hp':p∈X.pn++pins:=(Qbz.mp hp).elim id λz=>by cases z
  obtain⟨a1,a2,a3,a4,a5⟩:=I.pin p hp'
  exact⟨kp _ _ a1,a2,Qcd (Qcb a1),uD p.1 a3 a4,a5⟩
 ·show (Jh src σ).length=N'.length
  unfold Jh
  rw[Qbx]
  exact S.len
theorem QD {s1:Shared} {σ':St} {H':Hp} {h':Heap} (I:Inv X pins σ H s3) (hf:∀b∈fp,Gf X pins H b) (I':Inv (cxC X N' sc s3 H fp (X.pn++pins)) [] σ' H' s1)
  (sb:Heap.SameBut s3.heap.objs.size s1.heap h'):Inv X pins σ H' { s1 with heap:=h' }:=by
 have fr:H' s3.heap.objs.size=none:=I'.free
 refine I.call' (s':={ s1 with heap:=h' }) (ch:=fp) I'.os ?_ ?_ I'.bare λb hb=>?_
 ·exact Un.ahead (h:=s3.heap) (h1:=s1.heap) I'.base λb o hb e=>sb.extBut b o (Qcd hb) e
 ·exact λb u e=>(I'.hok b u e).stay (λc v hc q=>sb.extBut c v (by
   intro z
   rcases hc with y | y
   ·rw[<-y,z,fr] at e;cases e
   ·rw[z,fr] at y;cases y) q) (λ_ q=>q) λ_ _ q=>q
 ·obtain⟨f0,f1,f2,f3,f4,f5⟩:=hf b hb
  exact⟨f3,f1,f4,λp hp=>f5 p hp⟩
end
@[irreducible] def Fj (J:It) (g:TG) (tt:TT) (te:TE) (Q:VK) (σ0:St) (H0:Hp) (l:Addr):Prop:=∃W:Nat->YN,(∃m,W 0 m σ0 H0) /\
 ∀i m σ' H',W i m σ' H'->(J.stop i H'/\Q (.ref l) H')\/(J.go i H'/\∃N:YO,(∀ σ3 H3,N σ3 H3->∃m',m' < m/\W (i+1) m' σ3 H3)/\∀x H2,J.yld i H' x H2->g x σ' H2 fun σ3 H3=>tt σ3 H3 λb H4=>
  if b=true then te σ3 H4 λy H5=>∃xs,H5 l=some (.lst xs)/\xs.length < sizeLine/\N σ3 (upd H5 l (.lst (xs++[y]))) else N σ3 H4)
def cY (wi:TI) (src:List (Option Nat)) (g:TG) (tt:TT) (te:TE):TE:=fun σ H Q=>wi σ H λJ H1=>∀l,H1 l=none->Fj J g tt te Q (Jh src σ) (upd H1 l (.lst [])) l
theorem Wb {X:Cx} {N':YF} {src:List (Option Nat)} {sc:Scope} {elt tg iter:Expr} {ifs:YJ} {pos pos':Pos} {wi:TI} {g:TG} {tt:TT} {te:TE} {use:Option (Value->Sem Unit)} {R:YA} (hc:X.calm=true) (S:Bg X N' src sc)
  (hi:PI X tg iter wi) (hg:∀s3 H3 fp pn,PG (cxC X N' sc s3 H3 fp pn) tg g) (ht:∀s3 H3 fp pn,PF (cxC X N' sc s3 H3 fp pn) ifs tt) (he:∀s3 H3 fp pn,PE (cxC X N' sc s3 H3 fp pn) elt te)
  (hs:∀x,foldedSetIterable iter X.env x=pure x) {pins:YC} {s:Shared} {σ : St} {H:Hp} {Q:VK} (I:Inv X pins σ H s) (h:cY wi src g tt te σ H Q)
  (fin:∀s3 H3 fp σ4 H4 s5 l,Inv X pins σ H3 s3->(∀b∈fp,Gf X pins H3 b)->Inv (cxC X N' sc s3 H3 fp (X.pn++pins)) [] σ4 H4 s5->Q (.ref l) H4 ->
   compPost (model X.prog X.w) X.A X.xe use R (.ref l) s3.heap.objs.size (.ok .next) s5) :
  wpAny (model X.prog X.w) X.A (comprehension (.ListComp elt [⟨tg,iter,ifs,0⟩] sc pos) sc X.env pos' (newList []) false (eval iter X.env) use) R X.xe s:=by
 refine wpAny_comprehension_free (use:=use) (cl:=Er X.env sc.names []) rfl hs (Pa λp hp e=>I.ok.has p.1 (S.fv p hp e)) S.kind S.loc ?_
 refine thn (hi pins s σ H _ I h) λv s1 h1=>thn h1 λitv s2 h2=>?_
 obtain⟨it,fp,tn,J,H2,rfl,I2,T,st2,f2,q⟩:=h2
 have q':=q s2.heap.objs.size (I2.hok.fresh (Qck _))
 unfold Fj at q'
 obtain⟨W,⟨m0,w0⟩,turn⟩:=q'
 refine Qbk (wpAny_newFunctionEnv S.Ia (by intro y hy;simp at hy) (λha hns hsb=>?_) S.kind)
 have I3:Inv X pins σ (upd H2 s2.heap.objs.size (.lst [])) { s2 with heap:=s2.heap.push { cls:=.type "list",dict:=none,data:=.seq ([]:YE).toArray } }:=
  I2.laid (t':=s2.toks) (λb u e=>Qav _ e) (Qck _) ⟨Qcl _,[],0,.nil,QaI _ rfl⟩
 have hfl:∀b∈fp,b < s2.heap.objs.size:=λb hb=>by
  obtain⟨o,e,_⟩:=T.obj 0 _ st2 b hb
  exact Qcb e
 have f3:∀b∈fp,Gf X pins (upd H2 s2.heap.objs.size (.lst [])) b:=λb hb=>⟨by rw[Al (Qcd (hfl b hb))];exact (f2 b hb).1,(f2 b hb).2⟩
 generalize hs3:({ s2 with heap:=s2.heap.push { cls:=.type "list",dict:=none,data:=.seq ([]:YE).toArray } }:Shared)=s3 at *
 have hsz:s2.heap.objs.size < s3.heap.objs.size:=by rw[<-hs3];show s2.heap.objs.size < (s2.heap.push _).objs.size;rw[QbO];exact Qbu _
 have kp:∀b o,s3.heap.get? b=some o->ha.get? b=some o:=λb o e=>hsb.extBut b o (Qcd (Qcb e)) (Qav _ e)
 have st3:tn 0 ha:=T.keep 0 _ _ st2 λb hb o e=>kp b o (by rw[<-hs3];exact Qav _ e)
 have I4:Inv (cxC X N' sc s3 (upd H2 s2.heap.objs.size (.lst [])) fp (X.pn++pins)) [] (Jh src σ) (upd H2 s2.heap.objs.size (.lst [])) { s3 with heap:=ha,toks:=s3.toks+([]:List (Str×Value)).length }:=
  SQ S I3 f3 (λb hb=>Nat.lt_trans (hfl b hb) hsz) hns kp
 have loop:codeAny (model X.prog X.w) X.A (.compLoop (.ListComp elt [⟨tg,iter,ifs,0⟩] sc pos) 0 (.ref it) (.ref s2.heap.objs.size) (compEnvC sc (Er X.env sc.names []) s3.heap.objs.size X.env))
   (compPost (model X.prog X.w) X.A X.xe use R (.ref s2.heap.objs.size) s3.heap.objs.size) { s3 with heap:=ha,toks:=s3.toks+([]:List (Str×Value)).length }:=by
  refine jU (λn s'=>∃i σ' H',Inv (cxC X N' sc s3 (upd H2 s2.heap.objs.size (.lst [])) fp (X.pn++pins)) [] σ' H' s'/\tn i s'.heap/\(∀b∈fp,H' b=none)/\W i n σ' H') ?_ m0 ⟨0,_,_,I4,st3,λb hb=>(f3 b hb).1,w0⟩
  rintro n s4 ⟨i,σ4,H4,J4,st4,fr4,w4⟩
  have stat:∀{H':Hp},(∀b∈fp,H' b=none)->∀b∈fp,Gf (cxC X N' sc s3 (upd H2 s2.heap.objs.size (.lst [])) fp (X.pn++pins)) [] H' b:=λhn b hb=>
   ⟨hn b hb,(I4.ok.exf b hb).1,I4.ok.QC b hb,.inl hb,λx c e=>(I4.ok.exf b hb).2 x c e,λp hp=>(f3 b hb).2.2.2.2.2 p ((Qbz.mp hp).elim id λz=>by cases z)⟩
  rcases turn i n σ4 H4 w4 with⟨stop,qn⟩|⟨go,N,hN,step⟩
  ·refine thn (T.done (cxC X N' sc s3 (upd H2 s2.heap.objs.size (.lst [])) fp (X.pn++pins)) rfl rfl rfl hc i [] s4 σ4 H4 _ J4 (stat fr4) st4 stop) λr s5 zz=>?_
   obtain⟨hr,J5⟩:=zz
   subst hr
   exact fin s3 _ fp σ4 H4 s5 _ I3 f3 J5 qn
  ·refine thn (T.item (cxC X N' sc s3 (upd H2 s2.heap.objs.size (.lst [])) fp (X.pn++pins)) rfl rfl rfl hc i [] s4 σ4 H4 _ J4 (stat fr4) st4 go) λr s5 zz=>?_
   obtain⟨u,hr,h5⟩:=zz
   subst hr
   refine thn h5 λ_ s6 zz=>?_
   obtain⟨x,H6,J6,r6,y6,st6,fr6⟩:=zz
   have J6':=J6.pinned (stat fr6) (T.obj _ _ st6)
   have back:∀{pl:YC} {σ7:St} {H7:Hp} {s7:Shared},Inv (cxC X N' sc s3 (upd H2 s2.heap.objs.size (.lst [])) fp (X.pn++pins)) ([]++Mh fp s6.heap) σ7 H7 s7->N σ7 H7 ->
     ∃m',m' < n/\∃i σ' H',Inv (cxC X N' sc s3 (upd H2 s2.heap.objs.size (.lst [])) fp (X.pn++pins)) [] σ' H' s7/\tn i s7.heap/\(∀b∈fp,H' b=none)/\W i m' σ' H':=λ{pl σ7 H7 s7} J7 w7=>by
    obtain⟨m',hm,w7⟩:=hN _ _ w7
    have pinned:∀b∈fp,∀o,s6.heap.get? b=some o->s7.heap.get? b=some o/\H7 b=none:=λb hb o e=>by
     have:=J7.pin (b,o) (QaA _ (QaA _ (Jt hb e)))
     exact⟨this.1,this.2.1⟩
    refine⟨m',hm,i+1,σ7,H7,J7.GX,T.keep _ _ _ st6 λb hb o e=>(pinned b hb o e).1,λb hb=>?_,w7⟩
    obtain⟨o,e,_⟩:=T.obj _ _ st6 b hb
    exact (pinned b hb o e).2
   refine thn (hg s3 _ fp _ _ s6 σ4 H6 x u _ J6' r6 (step x H6 y6)) λ_ s7 zz=>?_
   obtain⟨σ7,H7,J7,q7⟩:=zz
   refine thn (ht s3 _ fp _ _ s7 σ7 H7 _ J7 q7) λok s8 zz=>?_
   obtain⟨H8,J8,q8⟩:=zz
   cases ok with
   | false=>
    rw[if_neg QaT] at q8 ⊢
    exact back (pl:=[]) J8 q8
   | true=>
    rw[if_pos rfl] at q8 ⊢
    refine thn (he s3 _ fp _ _ s8 σ7 H8 _ J8 q8) λy s9 zz=>?_
    obtain⟨yv,H9,J9,r9,xs,hl9,hz9,q9⟩:=zz
    refine thn (Cd _ s9 σ7 H9 (.ref s2.heap.objs.size) [yv] (.ref s2.heap.objs.size) [y] (λ_ H'=>N σ7 H') J9 rfl (.cons r9 .nil) ⟨_,xs,yv,rfl,rfl,hl9,hz9,q9⟩) λ_ s10 zz=>?_
    obtain⟨_,H10,J10,_,q10⟩:=zz
    exact back (pl:=[]) J10 q10
 exact codeAny_compStart_list loop (T.self X.A 0 _ _ _ st3 loop)
theorem BP {X:Cx} {N':YF} {src:List (Option Nat)} {sc:Scope} {elt tg iter:Expr} {ifs:YJ} {pos:Pos} {wi:TI} {g:TG} {tt:TT} {te:TE} (hc:X.calm=true) (S:Bg X N' src sc)
  (hi:PI X tg iter wi) (hg:∀s3 H3 fp pn,PG (cxC X N' sc s3 H3 fp pn) tg g) (ht:∀s3 H3 fp pn,PF (cxC X N' sc s3 H3 fp pn) ifs tt) (he:∀s3 H3 fp pn,PE (cxC X N' sc s3 H3 fp pn) elt te)
  (hs:∀x,foldedSetIterable iter X.env x=pure x:=by intro _;rfl):PE X (.ListComp elt [⟨tg,iter,ifs,0⟩] sc pos) (cY wi src g tt te):=by
 intro pins s σ H Q I h
 rw[eval_ListComp]
 refine Wb (use:=none) hc S hi hg ht he hs I h λs3 H3 fp σ4 H4 s5 l I3 f3 J5 q=>?_
 obtain⟨m,hn,_⟩:=J5.loc
 exact⟨m,hn,λh' sb=>⟨.ref l,H4,QD I3 f3 J5 sb,rfl,q⟩⟩
theorem Vf {X:Cx} {N':YF} {src:List (Option Nat)} {sc:Scope} {elt tg iter:Expr} {ifs:YJ} {pos spos px:Pos} {wi:TI} {g:TG} {tt:TT} {te:TE} {i:Nat} {x:Str} (hN:X.N.Nodup) (hi0:X.N[i]?=some x) (hx:Loc X.env.scope x) (hc:X.calm=true) (S:Bg X N' src sc)
  (hi:PI X tg iter wi) (hg:∀s3 H3 fp pn,PG (cxC X N' sc s3 H3 fp pn) tg g) (ht:∀s3 H3 fp pn,PF (cxC X N' sc s3 H3 fp pn) ifs tt) (he:∀s3 H3 fp pn,PE (cxC X N' sc s3 H3 fp pn) elt te)
  (hsw:swapsWith (.ListComp elt [⟨tg,iter,ifs,0⟩] sc pos) (some (.Name x px)) spos.line X.env=pure true:=by rfl) (hs:∀x,foldedSetIterable iter X.env x=pure x:=by intro _;rfl)
  (hf:X.fn x=true\/X.env.scope.names.lookup x=some .local:=by first | exact .inl rfl | exact .inr rfl | assumption) :
  PS X (.Assign [.Name x px] (.ListComp elt [⟨tg,iter,ifs,0⟩] sc pos) spos) (Xh (cY wi src g tt te) (Fe i)):=by
 intro pins s σ H D I h
 rw[exec_Assign_Name_used _ _ _ _ hsw]
 refine Qcp (QbY (Qcp ?_))
 show wpAny _ X.A (do let _ <-comprehension (.ListComp elt [⟨tg,iter,ifs,0⟩] sc pos) sc X.env _ (newList []) false (eval iter X.env) (some (assign (.Name x px) X.env))) _ _ s
 refine Qcp (thn (Wb (R:=λ_ s'=>SP X pins D .next s') hc S hi hg ht he hs I h λs3 H3 fp σ4 H4 s5 l I3 f3 J5 q=>?_) λ_ s' hq=>Qcq (Qcq hq))
 obtain⟨m,⟨oC,es,ep,hoC,r⟩,_⟩:=J5.loc
 have I6:Inv X pins σ H4 { s5 with heap:=s5.heap }:=QD I3 f3 J5 (Heap.SameBut.refl _ _)
 have hCn:H4 s3.heap.objs.size=none:=J5.free
 have neL:s3.heap.objs.size≠X.env.locals:=Qcg I3.lt
 have nU:∀v,oC.data≠.cell v:=λv z=>by rw[r.1] at z;cases z
 have I7:Inv X (pins++[(s3.heap.objs.size,oC)]) σ H4 s5:=I6.Q0 λp hp=>(Qbz.mp hp).elim (λz=>I6.pin p (QaA _ z)) λz=>by
  cases QaW.mp z
  exact⟨hoC,hCn,neL,I3.nQ (Qck _),nU⟩
 show wpAny _ X.A (assign (.Name x px) X.env (.ref l)) _ _ s5
 refine wpAny_assign_Name (Lx (v:=.ref l) I7 hN hi0 hx rfl (λs6 I8=>?_) hf)
 have k8:=(I8.pin (s3.heap.objs.size,oC) (QaA _ (QaA _ (QaW.mpr rfl)))).1
 refine⟨m,⟨oC,es,ep,k8,r⟩,λh' sb=>⟨_,H4,?_,q⟩⟩
 have I9:=I8.GX
 refine I9.turned (t':=s6.toks) (λb o hb e=>sb.extBut b o hb e) hCn neL (.inr I3.sz) (λy c e z=>?_) (λp hp z=>?_)
 ·obtain⟨v,o,ho,_⟩:=I3.cell y c e
  exact absurd (Qcb ho) (by rw[z];exact QbV _)
 ·have:=(I3.pin p hp).1
  exact absurd (Qcb this) (by rw[z];exact QbV _)
theorem Bg.of {X:Cx} {N':YF} {src:List (Option Nat)} {sc:Scope} (fsc:Scope) (N:YF) (hX:X.env.scope=fsc) (hN:X.N=N) (kind:sc.kind=.function) (Ia:∀y∈sc.names,y.2≠.cell) (loc:∀y∈sc.names,y.2=.local->sc.names.lookup y.1=some .local)
  (fv:∀y∈sc.names,y.2=.free->fsc.names.lookup y.1=some .cell) (len:src.length=N'.length)
  (sr:((N'.zip src).all λp=>match p.2 with | none=>true | some j=>decide (N[j]?=some p.1)&&decide (sc.names.lookup p.1=some .free))=true):Bg X N' src sc where
 kind:=kind
 Ia:=Ia
 loc:=loc
 fv:=λy hy e=>.inl (by show X.env.scope.names.lookup y.1=some .cell;rw[hX];exact fv y hy e)
 len:=len
 src:=λi x j e1 e2=>by
  rw[List.all_eq_true] at sr
  have hm:(x,some j)∈N'.zip src:=by
   refine QaE (i:=i) ?_
   rw[List.getElem?_zip_eq_some]
   exact⟨e1,e2⟩
  have:=sr _ hm
  simp only[Qbv,decide_eq_true_eq] at this
  rw[hN]
  exact this
section
variable {X:Cx}
@[irreducible] def Nu (K:YD):YG->Hp->VK->Prop:=λxs H Q=>∃x T t b,xs=[x,.ty T]/\J0 K H x t/\kitOne K t (.type T)=some b/\Q (.bl b) H
theorem Pb:Fi X (.builtin "isinstance") (Nu X.K):=by
 intro pins s σ H xs us Q I r h
 unfold Nu at h
 obtain⟨x,T,t,b,rfl,ty,e,q⟩:=h
 obtain⟨u,w',rfl,rx,rt⟩:=vals2 r
 cases rt
 exact jm I rx ty e λtk=>⟨.bl b,H,I.tok tk,rfl,q⟩
theorem Z0 {K:YD}:kitOne K (.type "int") (.type "int")=some true:=by rfl
theorem Y7 {K:YD}:kitOne K (.type "int") (.type "bool")=some false:=by rfl
theorem Y8 {K:YD}:kitOne K (.type "bool") (.type "int")=some true:=by rfl
theorem Wy {K:YD}:kitOne K (.type "bool") (.type "bool")=some true:=by rfl
theorem Y5 {K:YD}:kitOne K (.type "NoneType") (.type "int")=some false:=by rfl
theorem ZX {K:YD}:kitOne K (.type "str") (.type "int")=some false:=by rfl
theorem Y6 {K:YD}:kitOne K (.type "list") (.type "int")=some false:=by rfl
theorem Wv {K:YD}:kitOne K (.type "tuple") (.type "int")=some false:=by rfl
theorem Vo {K:YD}:kitOne K (.type "NoneType") (.type "tuple")=some false:=by rfl
theorem Vq {K:YD}:kitOne K (.type "bool") (.type "tuple")=some false:=by rfl
theorem Wx {K:YD}:kitOne K (.type "int") (.type "tuple")=some false:=by rfl
theorem Ww {K:YD}:kitOne K (.type "str") (.type "tuple")=some false:=by rfl
theorem Vp {K:YD}:kitOne K (.type "list") (.type "tuple")=some false:=by rfl
theorem Ub {K:YD}:kitOne K (.type "tuple") (.type "tuple")=some true:=by rfl
def Kn (H:Hp):V->Prop
 | .non=>True
 | .bl _=>True
 | .int _=>True
 | .str _=>True
 | .ref a=>(∃xs,H a=some (.lst xs))\/∃xs,H a=some (.tup xs)
 | _=>False
def isI:V->Bool
 | .int _=>true
 | .bl _=>true
 | _=>false
def isB:V->Bool
 | .bl _=>true
 | _=>false
def isW:V->Bool
 | .int _=>true
 | _=>false
def Jg (H:Hp):V->Option (YG)
 | .ref a=>match H a with
  | some (.tup xs)=>some xs
  | _=>none
 | _=>none
theorem Df {H:Hp} {a:Addr} {xs:YG} (h:H a=some (.tup xs)):Jg H (.ref a)=some xs:=by
 show (match H a with | some (.tup xs)=>some xs | _=>none)=some xs
 rw[h]
theorem gG {H:Hp} {a:Addr} {xs:YG} (h:H a=some (.lst xs)):Jg H (.ref a)=none:=by
 show (match H a with | some (.tup xs)=>some xs | _=>none)=none
 rw[h]
theorem Yy {H:Hp} {v:V} {xs:YG} (h:Jg H v=some xs):∃a,v=.ref a/\H a=some (.tup xs):=by
 cases v with
 | ref a=>
  refine⟨a,rfl,?_⟩
  have h':(match H a with | some (.tup xs)=>some xs | _=>none)=some xs:=h
  split at h'
  ·rename_i e;cases h';exact e
  ·cases h'
 | _=>cases h
theorem Kn.same {H H':Hp} {v:V} (s:Same H H') (k:Kn H v):Kn H' v:=by
 cases v with
 | ref a=>exact k.imp (λ⟨xs,e⟩=>⟨xs,s _ _ e⟩) λ⟨xs,e⟩=>⟨xs,s _ _ e⟩
 | _=>exact k
theorem rK {K:YD} {H:Hp} {x:V} {Q:VK} (k:Kn H x) (q:Q (.bl (isI x)) H):Nu K [x,.ty "int"] H Q:=by
 unfold Nu
 cases x with
 | non=>exact⟨_,_,_,_,rfl,.non,Y5,q⟩
 | bl b=>exact⟨_,_,_,_,rfl,.bl b,Y8,q⟩
 | int i=>exact⟨_,_,_,_,rfl,.int i,Z0,q⟩
 | str z=>exact⟨_,_,_,_,rfl,.str z,ZX,q⟩
 | ref a=>
  rcases k with⟨xs,e⟩|⟨xs,e⟩
  ·exact⟨_,_,_,_,rfl,.lst e,Y6,q⟩
  ·exact⟨_,_,_,_,rfl,.tup e,Wv,q⟩
 | _=>exact k.elim
theorem oE {K:YD} {H:Hp} {x:V} {Q:VK} (k:isI x=true) (q:Q (.bl (isB x)) H):Nu K [x,.ty "bool"] H Q:=by
 unfold Nu
 cases x with
 | bl b=>exact⟨_,_,_,_,rfl,.bl b,Wy,q⟩
 | int i=>exact⟨_,_,_,_,rfl,.int i,Y7,q⟩
 | _=>cases k
theorem jo {K:YD} {H:Hp} {x:V} {Q:VK} (k:Kn H x) (q:Q (.bl (Jg H x).isSome) H):Nu K [x,.ty "tuple"] H Q:=by
 unfold Nu
 cases x with
 | non=>exact⟨_,_,_,_,rfl,.non,Vo,q⟩
 | bl b=>exact⟨_,_,_,_,rfl,.bl b,Vq,q⟩
 | int i=>exact⟨_,_,_,_,rfl,.int i,Wx,q⟩
 | str z=>exact⟨_,_,_,_,rfl,.str z,Ww,q⟩
 | ref a=>
  rcases k with⟨xs,e⟩|⟨xs,e⟩
  ·rw[gG e] at q
   exact⟨_,_,_,_,rfl,.lst e,Vp,q⟩
  ·rw[Df e] at q
   exact⟨_,_,_,_,rfl,.tup e,Ub,q⟩
 | _=>exact k.elim
theorem S6:∀{bs:List Bool} {us:YE},Vals (bs.map V.bl) us->LSm.BoolsAre us bs
 | [],_,.nil=>.nil
 | b::r,_,.cons h t=>by
  cases (show _=Value.bool b from h)
  exact .cons b (S6 t)
theorem Gj (hc:X.calm=true):Fi X (.builtin "all") (λxs H Q=>∃(p:Addr) (bs:List Bool),xs=[.ref p]/\SqL X.K H p (bs.map V.bl)/\Q (.bl (bs.all id)) H):=by
 intro pins s σ H xs us Q I r h
 obtain⟨p,bs,rfl,hq,q⟩:=h
 obtain⟨u,rfl,rx⟩:=vals1 r
 cases rx
 obtain⟨its,rv,pl,hz⟩:=I.list hq
 have hb:=S6 rv
 have hl:=pl.isList
 have hlt:p < s.heap.objs.size:=by obtain⟨_,e,_⟩:=hl;exact Qcb e
 refine call_all_walk (Qbn hl ?_)
 refine⟨s.heap.objs.size,[s.heap.objs.size,p],[s.heap.objs.size],its.toArray.size,_,_,λi=>(bs[i]?).getD true,rfl,Walks.list (A:=X.A.in1) (I.ok.hd hc) _ p (Qcd hlt) its.toArray,
  ⟨⟨_,QaI _ rfl,rfl,rfl⟩,hl.push _⟩,λi v s' Q' E' hP hQ=>?_,λh' tk hk=>?_⟩
 ·obtain⟨b,e,rfl⟩:=hb.get i v (by simpa using hP)
  simp only[e,Option.getD_some] at hQ
  exact Qbj hQ
 ·have e:((List.range its.toArray.size).all λi=>(bs[i]?).getD true)=bs.all id:=by
   rw[Qbe,hb.length];exact LSm.range_all bs
  rw[e]
  exact⟨.bl (bs.all id),H,I.kept (LSm.kept_iter hk),rfl,q⟩
def uN (K:YD):R2:=λx y H Q=>∃a b ys,x=.ref a/\y=.ref b/\SqT K H a []/\SqT K H b ys/\Q (.ref b) H
theorem mY:OpR X (binaryOp .Add) (uN X.K):=by
 intro pins s σ H x y v u Q I rx ry h
 obtain⟨a,b,ys,rfl,rfl,ha,hb,q⟩:=h
 cases rx
 cases ry
 obtain⟨its,r1,p1,_⟩:=I.tuple ha
 obtain⟨its2,r2,p2,_⟩:=I.tuple hb
 cases r1
 obtain⟨⟨cls,dd,data,sl⟩,ho,hc,n,hd⟩:=id p1
 obtain⟨⟨cls2,dd2,data2,sl2⟩,ho2,hc2,n2,hd2⟩:=id p2
 simp only at hc hd hc2 hd2
 subst hc hd hc2 hd2
 exact concat_meets ⟨_,ho,rfl⟩ ⟨_,ho2,rfl⟩ noFill_tuple_add seq_tuple_add PySem.F.slot_tuple_add PySem.F.entry_tuple_add (PySem.F.args_tuple_add_2 _ _)
  (tuple_addW0 a b #[] its2.toArray n n2 dd dd2 sl sl2 rfl) ⟨ho,ho2,⟨.ref b,H,I,rfl,q⟩⟩
theorem Oz:OpR X (binaryOp .Add) (λx y H Q=>∃a b xs ys,x=.ref a/\y=.ref b/\H a=some (.tup xs)/\H b=some (.tup ys)/\xs.length+ys.length<=sizeLine /\
  ∀p H',H' p=some (.tup (xs++ys))->Same H H'->Q (.ref p) H'):=by
 intro pins s σ H x y v u Q I rx ry h
 obtain⟨a,b,xs,ys,rfl,rfl,ha,hb,hz,q⟩:=h
 cases xs with
 | nil=>exact mY pins s σ H _ _ v u Q I rx ry ⟨a,b,ys,rfl,rfl,SqT.of ha,SqT.of hb,q b H hb (Same.refl H)⟩
 | cons x0 xr=>
  refine qX pins s σ H _ _ v u Q I rx ry ⟨a,b,x0::xr,ys,rfl,rfl,SqT.of ha,SqT.of hb,(λz=>by cases z),hz,λz=>?_,λz p hp=>?_⟩
  ·subst z
   exact q a H (by rw[QbC];exact ha) (Same.refl H)
  ·refine q p _ Ab λc o e=>?_
   rw[Al (Ar e hp)]
   exact e
mutual
inductive Rep (H:Hp):V->PyData->Prop
 | non:Rep H .non .none
 | bl (b:Bool):Rep H (.bl b) (.bool b)
 | int (i:Int):Rep H (.int i) (.int i)
 | str (x:Str):Rep H (.str x) (.str x)
 | tup {a:Addr} {xs:YG} {ds:List PyData}:H a=some (.tup xs)->J1 H xs ds->Rep H (.ref a) (.tuple ds)
 | lst {a:Addr} {xs:YG} {ds:List PyData}:H a=some (.lst xs)->J1 H xs ds->Rep H (.ref a) (.list ds)
inductive J1 (H:Hp):YG->List PyData->Prop
 | nil:J1 H [] []
 | cons {x:V} {d:PyData} {xs:YG} {ds:List PyData}:Rep H x d->J1 H xs ds->J1 H (x::xs) (d::ds)
end
mutual
theorem Rep.reads {P:Program} {w:World} {H:Hp} {h:Heap} (ok:HOk P w H h):∀{v:V} {d:PyData} {u:Value},Rep H v d->RelV v u->∃as,Reads h u d as
 | _,_,_,.non,r=>by cases (show _=Value.none from r);exact⟨_,.none⟩
 | _,_,_,.bl b,r=>by cases (show _=Value.bool b from r);exact⟨_,.bool b⟩
 | _,_,_,.int i,r=>by obtain⟨t,rfl⟩:=(show ∃t,_=Value.int i t from r);exact⟨_,.int i t⟩
 | _,_,_,.str x,r=>by obtain⟨t,rfl⟩:=(show ∃t,_=Value.str x t from r);exact⟨_,.str x t⟩
 | _,_,_,.tup (a:=a) (xs:=xs) e q,r=>by
  cases (show _=Value.ref a from r)
  obtain⟨_,its,rv,o,ho,hc,n,hd⟩:=(show Bs P w H h a (.tup xs) from ok a _ e)
  obtain⟨as,z⟩:=J1.reads ok q rv
  exact⟨_,.tuple ho hc hd (by simpa using z)⟩
 | _,_,_,.lst (a:=a) (xs:=xs) e q,r=>by
  cases (show _=Value.ref a from r)
  obtain⟨_,its,n,rv,ho⟩:=(show Bs P w H h a (.lst xs) from ok a _ e)
  obtain⟨as,z⟩:=J1.reads ok q rv
  exact⟨_,.list ho rfl rfl (by simpa using z)⟩
theorem J1.reads {P:Program} {w:World} {H:Hp} {h:Heap} (ok:HOk P w H h):∀{xs:YG} {ds:List PyData} {us:YE},J1 H xs ds->Vals xs us->∃as,ReadsAll h us ds as
 | _,_,_,.nil,.nil=>⟨_,.nil⟩
 | _,_,_,.cons p q,.cons r t=>by
  obtain⟨as,a1⟩:=Rep.reads ok p r
  obtain⟨bs,b1⟩:=J1.reads ok q t
  exact⟨_,.cons a1 b1⟩
end
theorem iR (hu:X.A.units+64 < cLine):OpR X (compareOp .NotEq) (λx y H Q=>∃d e,Rep H x d/\Rep H y e/\SeqAt.shaped d=true/\SeqAt.shaped e=true/\Q (.bl (!PyData.eqv d e)) H):=by
 intro pins s σ H x y v u Q I rx ry h
 obtain⟨d,e,p,p',sd,se,q⟩:=h
 obtain⟨as,r1⟩:=p.reads I.hok rx
 obtain⟨bs,r2⟩:=p'.reads I.hok ry
 exact ne_dataH r1 r2 sd se hu ⟨.bl (!PyData.eqv d e),H,I,rfl,q⟩
end
structure Code (K:YD) (mg:YB) (x:Str) (st:Stmt) (ps:YF):Prop where
 ex:∃(f:Addr) (fd:FuncData),Fun K x x st f fd/\mg x=some (.ref f)/\Binds K fd ps []
structure Good (P:Program) (w:World) (K:YD) (mg:YB) (base:Heap) (x:Str) (k:Nat) (ps:YF) (sp:Sp):Prop where
 ex:∃(f:Addr) (fd:FuncData),mg x=some (.ref f)/\keepIn K (.ref f)=true/\Binds K fd ps []/\Gn P w K mg base CX0 k f fd ps sp
theorem Code.good {P:Program} {w:World} {K:YD} {mg:YB} {base:Heap} {x:Str} {st:Stmt} {ps N:YF} {k:Nat} {sp:Sp} (C:Code K mg x st ps) (S:Ay N ps (Ak st)) (len:∀vs H Q E,sp vs H Q E->vs.length=ps.length)
  (hbody:∀(f:Addr) (cdv:Value) (A:Around) (outer:List Env) (s:Shared) (H:Hp) (vs:YG) (Q:VK) (E:XK),CQ k (A.deeper (envOfC x (Ak st) s.heap.objs.size f cdv))->sp vs H Q E ->
   ∃t,PSs (QF CX0 P w K mg base N x (Ak st) f cdv A outer s H E).nox (CZ st) t/\t { nx:=λ_ H'=>Q .non H',rt:=Q } (start N vs) H):Good P w K mg base x (k+1) ps sp:=by
 obtain⟨f,fd,F,m,b⟩:=C.ex
 exact⟨f,fd,m,F.kp,b,F.ok S len λcdv A outer s H vs Q E hr h=>hbody f cdv A outer s H vs Q E hr h⟩
theorem Aw {X:Cx} {k k':Nat} {ps:YF} {sp:Sp} {x:Str} {p pos:Pos} {e:Expr} {es:YJ} {t:TA} (g:Good X.prog X.w X.K X.mg X.base x k ps sp) (hr:CQ k' X.A) (ha:PA X (e::es) t) (hk:k<=k':=by decide) (hg:Gl X x:=by rfl)
  (hdb:(x == ("__debug__":Str))=false:=by decide) (he:starEach (e::es) X.env=(false,eval e X.env)::starEach es X.env:=by rfl) (hpl:(backTo pos (starEach es X.env)).any (·.1)=false:=by rfl) :
  PE X (.Call (.Name x p) (e::es) [] pos) (pJ sp [] E0 t):=by
 intro pins s σ H Q I h
 obtain⟨f,fd,m,kp,b,F⟩:=g.ex
 exact qU F (hr.mono hk) hg m kp b .nil WW ha hdb he hpl pins s σ H Q I h
theorem Code.of {K:YD} {mg:YB} {h:Heap} {x:Str} {st:Stmt} {ps:YF} {f:Addr} {oc:Value} {od an:Option Addr} {osl:YI} {kV doc pm cdv ct:Value} (X:K.In h) (G:h.Ns mainGlobals mg)
  (a:nsIn K mainGlobals x=some (some (.ref f))) (l:K.lookup f=some ⟨oc,od,.func (fnOf x x (DQ st) (CZ st) (Ak st) .none kV doc pm an cdv ct),osl⟩) (c:codeIn K cdv x=true) (k:keepIn K (.ref f)=true)
  (hb:∀(kV doc pm:Value) (an:Option Addr) (cdv ct:Value) (us:YE),us.length=ps.length->bindArgs (fnOf x x (DQ st) (CZ st) (Ak st) .none kV doc pm an cdv ct) ⟨us,[]⟩=pure (ps.zip us)):Code K mg x st ps:=by
 have F:=Uo (st:=st) l c k
 exact⟨f,_,F,mg_of X G a,F.binds hb⟩
theorem Af {H:Hp} {p:Addr} (h:H p=none) (o:HO):Same H (upd H p o):=λb u q=>by rw[Al (Ar q h)];exact q
theorem Bg.plain {X:Cx} {N':YF} {sc:Scope} (kind:sc.kind=.function) (Ia:∀y∈sc.names,y.2≠.cell) (loc:∀y∈sc.names,y.2=.local->sc.names.lookup y.1=some .local) (Yz:∀y∈sc.names,y.2≠.free) :
  Bg X N' (N'.map λ_=>none) sc where
 kind:=kind
 Ia:=Ia
 loc:=loc
 fv:=λy hy e=>absurd e (Yz y hy)
 len:=by simp
 src:=λi x j _ e=>by
  rw[Qbg] at e
  cases q:N'[i]? with
  | none=>rw[q] at e;cases e
  | some z=>rw[q] at e;cases e
theorem O7 {K:YD} {a l:Addr} {xs:YG} {g:TG} {tt:TT} {te:TE} {Q:VK} {σ0:St} {H0:Hp} (Pv:YN)
  (h0:Pv 0 σ0 H0) (hl:∀i σ H',i<=xs.length->Pv i σ H'->SqT K H' a xs)
  (hs:∀i x σ H',xs[i]?=some x->Pv i σ H'->g x σ H' fun σ3 H3=>tt σ3 H3 λb H4=>if b=true then te σ3 H4 λy H5=>∃ys,H5 l=some (.lst ys)/\ys.length < sizeLine/\Pv (i+1) σ3 (upd H5 l (.lst (ys++[y]))) else Pv (i+1) σ3 H4)
  (hd:∀ σ H',Pv xs.length σ H'->Q (.ref l) H'):Fj (Itt K a) g tt te Q σ0 H0 l:=by
 unfold Fj
 refine⟨λi m σ H'=>m=xs.length - i/\i<=xs.length/\Pv i σ H',⟨xs.length,by simp,Qcl _,h0⟩,?_⟩
 rintro i m σ H' ⟨rfl,hi,p⟩
 have q:=hl i σ H' hi p
 by_cases hlt:i < xs.length
 ·refine .inr ⟨⟨xs,xs[i],q,by simp[hlt]⟩,Pv (i+1),fun σ3 H3 p'=>⟨xs.length - (i+1),by omega,rfl,hlt,p'⟩,λx H2 y=>?_⟩
  obtain⟨e,y⟩:=y
  subst e
  exact hs i x σ _ (y xs q) p
 ·have e:i=xs.length:=by omega
  subst e
  exact .inl ⟨⟨xs,q,Qck _⟩,hd σ H' p⟩
theorem Jf {K:YD} {a l:Addr} {xs:YG} {g:TG} {tt:TT} {te:TE} {Q:VK} {σ0:St} {H0:Hp} (Pv:YN)
  (h0:Pv 0 σ0 H0) (hl:∀i σ H',i<=xs.length->Pv i σ H'->SqL K H' a xs)
  (hs:∀i x σ H',xs[i]?=some x->Pv i σ H'->g x σ H' fun σ3 H3=>tt σ3 H3 λb H4=>if b=true then te σ3 H4 λy H5=>∃ys,H5 l=some (.lst ys)/\ys.length < sizeLine/\Pv (i+1) σ3 (upd H5 l (.lst (ys++[y]))) else Pv (i+1) σ3 H4)
  (hd:∀ σ H',Pv xs.length σ H'->Q (.ref l) H'):Fj (Itl K a) g tt te Q σ0 H0 l:=by
 unfold Fj
 refine⟨λi m σ H'=>m=xs.length - i/\i<=xs.length/\Pv i σ H',⟨xs.length,by simp,Qcl _,h0⟩,?_⟩
 rintro i m σ H' ⟨rfl,hi,p⟩
 have q:=hl i σ H' hi p
 by_cases hlt:i < xs.length
 ·refine .inr ⟨⟨xs,xs[i],q,by simp[hlt]⟩,Pv (i+1),fun σ3 H3 p'=>⟨xs.length - (i+1),by omega,rfl,hlt,p'⟩,λx H2 y=>?_⟩
  obtain⟨e,y⟩:=y
  subst e
  exact hs i x σ _ (y xs q) p
 ·have e:i=xs.length:=by omega
  subst e
  exact .inl ⟨⟨xs,q,Qck _⟩,hd σ H' p⟩
theorem Jx {lo:Int} {n:Nat} {l:Addr} {g:TG} {tt:TT} {te:TE} {Q:VK} {σ0:St} {H0:Hp} (Pv:YN) (h0:Pv 0 σ0 H0)
  (hs:∀i σ H',i < n->Pv i σ H'->g (.int (lo+i)) σ H' fun σ3 H3=>tt σ3 H3 λb H4=>if b=true then te σ3 H4 λy H5=>∃ys,H5 l=some (.lst ys)/\ys.length < sizeLine/\Pv (i+1) σ3 (upd H5 l (.lst (ys++[y]))) else Pv (i+1) σ3 H4)
  (hd:∀ σ H',Pv n σ H'->Q (.ref l) H'):Fj (Itr lo n) g tt te Q σ0 H0 l:=by
 unfold Fj
 refine⟨λi m σ H'=>m=n - i/\i<=n/\Pv i σ H',⟨n,by simp,Qcl _,h0⟩,?_⟩
 rintro i m σ H' ⟨rfl,hi,p⟩
 by_cases hlt:i < n
 ·refine .inr ⟨hlt,Pv (i+1),fun σ3 H3 p'=>⟨n - (i+1),by omega,rfl,hlt,p'⟩,λx H2 y=>?_⟩
  obtain⟨e,y⟩:=y
  subst e y
  exact hs i σ _ hlt p
 ·have e:i=n:=by omega
  subst e
  exact .inl ⟨Qck _,hd σ H' p⟩
section
variable {X:Cx}
theorem Wd (hc:X.calm=true):Fi X (.builtin "max") (λxs H Q=>∃(p:Addr) (ns:List Int),xs=[.ref p]/\SqL X.K H p (ns.map V.int)/\0 < ns.length/\∀M,M∈ns->(∀a,a∈ns->a<=M)->Q (.int M) H):=by
 intro pins s σ H xs us Q I r h
 obtain⟨p,ns,rfl,hq,hne,q⟩:=h
 obtain⟨u,rfl,rx⟩:=vals1 r
 cases rx
 obtain⟨its,rv,pl,hz⟩:=I.list hq
 have hi:IntsAre its ns:=intsAre_of rv
 obtain⟨zs,e⟩:=hi.allInts.items
 have hl:=pl.isList
 rw[e] at hl
 have hns:ns=zs.toList.map (·.1):=by rw[<-hi.numsOf,<-nums_intItems,<-e]
 have hsz:0 < zs.size:=by
  have h3:=hne
  rw[hns,Qbx,QaM] at h3
  exact h3
 refine max_intList (I.ok.hd hc) hl hsz λv h' tk hv hk=>?_
 obtain⟨t,rfl⟩:=intItems_at hv
 obtain⟨_,h2⟩:=argBest_gt (numAt zs) (zs.size - 1)
 refine⟨.int _,H,I.kept hk,⟨t,rfl⟩,q _ ?_ λa ha=>?_⟩
 ·rw[hns,numAt_eq]
  exact getD_mem (by rw[Qbx,QaM];have:=(argBest_gt (numAt zs) (zs.size - 1)).1;omega)
 ·rw[hns] at ha
  obtain⟨j,hj,rfl⟩:=mem_getD ha
  rw[Qbx,QaM] at hj
  rw[<-numAt_eq]
  exact h2 j (by omega)
theorem jt:∀{us:YE} {ns:List Int},IntsAre us ns->Vals (ns.map V.int) us:=λh=>PB h
theorem Zr:Fi X (.builtin "sorted") (λxs H Q=>∃(p:Addr) (ns:List Int),xs=[.ref p]/\SqL X.K H p (ns.map V.int)/\ns.length < 64 /\
  ∀(ms:List Int) l,ms.Perm ns->ms.Pairwise (·<=·)->H l=none->Q (.ref l) (upd H l (.lst (ms.map V.int)))):=by
 intro pins s σ H xs us Q I r h
 obtain⟨p,ns,rfl,hq,h64,q⟩:=h
 obtain⟨u,rfl,rx⟩:=vals1 r
 cases rx
 obtain⟨its,rv,pl,hz⟩:=I.list hq
 have hi:IntsAre its ns:=intsAre_of rv
 have hlen:=hi.length
 refine sorted_ints pl.isList hi (by omega) λout ms a1 a2 a3=>?_
 obtain⟨e,he⟩:=sortedAll_at s.heap its out
 have hml:=a2.length_eq
 refine⟨.ref (s.heap.objs.size+1),_,I.laid (t':=s.toks) (o:=.lst (ms.map V.int)) (λb o q=>sortedAll_old q) (Nat.le_succ _) ?_,rfl,q ms _ a2 a3 (I.hok.fresh (Nat.le_succ _))⟩
 exact⟨by rw[Qbx];exact Qci (Aq (by omega)),out.toList,e,jt a1,he⟩
theorem aN:∀{ys:YF} {us:YE},Vals (ys.map V.str) us->StrsAre us ys
 | [],_,.nil=>.nil
 | y::r,_,.cons h t=>by
  obtain⟨t',e⟩:=(show ∃t,_=Value.str y t from h)
  cases e
  exact .cons y t' (aN t)
def rJoin (K:YD):V->YG->Hp->VK->Prop:=λx vs H Q=>∃(z:Str) (p:Addr) (ys:YF),x=.str z/\vs=[.ref p]/\SqL K H p (ys.map V.str)/\(ys.map (·.length)).sum+ys.length*z.length<=16777216/\Q (.str (Txt.join z ys)) H
theorem rF:MtR X "str.join" (rJoin X.K):=by
 intro pins s σ H x vs v us Q I rx rv h
 obtain⟨z,p,ys,rfl,rfl,hq,hz,q⟩:=h
 obtain⟨t,rfl⟩:=rx
 obtain⟨u,rfl,ru⟩:=rv.one
 cases ru
 obtain⟨its,r',pl,_⟩:=I.list hq
 exact join_list pl.isList (aN r') hz λt' k=>⟨.str (Txt.join z ys),H,I.tok k,⟨t',rfl⟩,q⟩
def Its (z:Str):It:=⟨λi _=>i < z.cps.size,λi H x H'=>H'=H/\∃c,z.cps[i]?=some c/\x=.str ⟨#[c]⟩,λi _=>i=z.cps.size⟩
def B8 (tl:TE):TI:=fun σ H R=>tl σ H λx H1=>∃z,x=.str z/\R (Its z) H1
end
section
variable {X:Cx} {tg:Expr}
theorem Xf {P:Program} {w:World} {K:YD} {tg:Expr} (z:Str) (t:Tok) (it:Addr) (ty:String) (hty:["enumerate","zip","dict_itemiterator","dict_reverseitemiterator","odict_iterator","itertools.zip_longest","itertools.pairwise"].contains ty=false)
  (W:∀A':Around,A'.handled=none->Walks P w A' it [it] [it] z.cps.size (SignAt z) (λi h=>h.IsStrIter it ty z t i))
  (hself:∀(A:Around) (i:Nat) (s:Shared) (Q:YA) (E:YA),s.heap.IsStrIter it ty z t i->Q (.ref it) s->wpAny (model P w) A (pyIter (.ref it)) Q E s) :
  Turn P w K tg (Its z) [it] it (λi h=>h.IsStrIter it ty z t i) where
 mem:=QaW.mpr rfl
 obj:=λi h st b hb=>by
  cases QaW.mp hb
  obtain⟨o,e,c,d⟩:=st
  exact⟨o,e,λv z'=>by rw[d] at z';cases z'⟩
 keep:=λi h h' st k=>by
  obtain⟨o,e,r⟩:=st
  exact⟨o,k it (QaW.mpr rfl) o e,r⟩
 item:=by
  intro X hP hw hK hc i pins s σ H E I hf st hg
  subst hP hw hK
  obtain⟨f0,f1,f2,f3,f4,f5⟩:=hf it (QaW.mpr rfl)
  refine (W X.A (I.ok.hd hc)).item i s _ _ hg st λv h' tk hv st' kk=>?_
  obtain⟨c,u,hcu,rfl⟩:=hv
  have I1:Inv X pins σ H { s with heap:=h',toks:=tk }:=I.turned (λb o hb e=>kk b o (λhm=>hb (QaW.mp hm)) e) f0 f1 f3 f4 f5
  obtain⟨o,e,cl,d⟩:=id st'
  exact⟨_,rfl,Uk (s:={ s with heap:=h',toks:=tk }) e cl d hty ⟨.str ⟨#[c]⟩,H,I1,⟨u,rfl⟩,⟨rfl,c,hcu,rfl⟩,st',λb hb=>(hf b hb).1⟩⟩
 done:=by
  intro X hP hw hK hc i pins s σ H E I hf st hg
  subst hP hw hK
  obtain⟨f0,f1,f2,f3,f4,f5⟩:=hf it (QaW.mpr rfl)
  cases (show i=z.cps.size from hg)
  exact (W X.A (I.ok.hd hc)).done s _ _ st λh' tk kk=>⟨rfl,I.turned (λb o hb e=>kk b o (λhm=>hb (QaW.mp hm)) e) f0 f1 f3 f4 f5⟩
 self:=λA i s Q E st h=>hself A i s Q E st h
theorem iJ {l:Expr} {tl:TE} (hl:PE X l tl):PI X tg l (B8 tl):=by
 intro pins s σ H R I h
 refine thn (hl pins s σ H _ I h) λv s1 zz=>?_
 obtain⟨x,H1,I1,r1,z,e,q⟩:=zz
 subst e
 obtain⟨t,rfl⟩:=r1
 have fp:∀o:Obj,∀b∈[s1.heap.objs.size],Gf X pins H1 b:=λo b hb=>by
  cases QaW.mp hb
  exact I1.O6 (Qck _) (I1.hok.fresh (Qck _))
 cases ha:z.cps.all (· < 128) with
 | true=>
  refine wpAny_pyIter_ascii ha ?_
  exact⟨s1.heap.objs.size,[s1.heap.objs.size],_,_,H1,rfl,I1.kept (t':=s1.toks) λb o e=>Qav _ e,Xf z t _ "str_ascii_iterator" (by decide) (λA' hA=>Walks.strAscii hA _ z t) (λ_ _ _ _ _ st h=>wpAny_pyIter_striter_ascii st h),
   ⟨_,QaI _ rfl,rfl,rfl⟩,fp { cls:=.none,data:=.fields #[] },q⟩
 | false=>
  refine wpAny_pyIter_wide ha ?_
  exact⟨s1.heap.objs.size,[s1.heap.objs.size],_,_,H1,rfl,I1.kept (t':=s1.toks) λb o e=>Qav _ e,Xf z t _ "str_iterator" (by decide) (λA' hA=>Walks.strWide hA _ z t) (λ_ _ _ _ _ st h=>wpAny_pyIter_striter_wide st h),
   ⟨_,QaI _ rfl,rfl,rfl⟩,fp { cls:=.none,data:=.fields #[] },q⟩
theorem Zm {z:Str} {l:Addr} {g:TG} {tt:TT} {te:TE} {Q:VK} {σ0:St} {H0:Hp} (Pv:YN) (h0:Pv 0 σ0 H0)
  (hs:∀i c σ H',z.cps[i]?=some c->Pv i σ H'->g (.str ⟨#[c]⟩) σ H' fun σ3 H3=>tt σ3 H3 λb H4=>if b=true then te σ3 H4 λy H5=>∃ys,H5 l=some (.lst ys)/\ys.length < sizeLine/\Pv (i+1) σ3 (upd H5 l (.lst (ys++[y]))) else Pv (i+1) σ3 H4)
  (hd:∀ σ H',Pv z.cps.size σ H'->Q (.ref l) H'):Fj (Its z) g tt te Q σ0 H0 l:=by
 unfold Fj
 refine⟨λi m σ H'=>m=z.cps.size - i/\i<=z.cps.size/\Pv i σ H',⟨z.cps.size,by simp,Qcl _,h0⟩,?_⟩
 rintro i m σ H' ⟨rfl,hi,p⟩
 by_cases hlt:i < z.cps.size
 ·refine .inr ⟨hlt,Pv (i+1),fun σ3 H3 p'=>⟨z.cps.size - (i+1),by omega,rfl,hlt,p'⟩,λx H2 y=>?_⟩
  obtain⟨e,c,hc,rfl⟩:=y
  subst e
  exact hs i c σ _ hc p
 ·have e:i=z.cps.size:=by omega
  subst e
  exact .inl ⟨rfl,hd σ H' p⟩
end
end L2
namespace HT
open PySem PyProof.Rows
section
variable {prog:Program} {w:World} {A:Around} {E:YA} {s:Shared}
theorem Rx {t sl:Addr} {items:Array Value} {vl vu:Value} {lo hi:Option Int} {Q:YA} (ht:IsTup s.heap t items) (hs:s.heap.IsSliceOf sl vl vu .none) (pl:IsPart vl lo) (pu:IsPart vu hi)
  (hw:sIx items.size 0 lo=0/\sIx items.size items.size hi=items.size) (h:Q (.ref t) s):wpAny (model prog w) A (getItem (.ref t) (.ref sl)) Q E s:=by
 obtain⟨os,hos,hcs,hds⟩:=id hs
 have hTs:s.TypeIs (.ref sl) "slice":=⟨os,hos,hcs⟩
 unfold getItem
 try with_reducible refine QbW ?_
 first | refine Qcp (Qcq ?_) | skip
 refine Qcp (wpAny_sequenceKey ht.typeIs (by decide) ?_)
 refine Qcp (Qaq (name:=Str.ofString "__getitem__") ht.typeIs Qab (Qbs Qab ht.typeIs entry_tuple_getitem ?_ (args_tuple_getitem _ _)))
 show wpAny _ _ (Builtin.Tuple.tupleItemsOf (.ref t) >>= _) _ _ s
 refine Qcp (tupleItemsOf_ ht ?_)
 refine Qcp (wpAny_typeOf hTs ?_)
 rw[if_pos (by decide)]
 refine Qcp (LC hs pl pu ?_)
 rw[hw.1,hw.2]
 show wpAny _ _ (if (((0:Nat):Int) == 0&&(1:Int) == 1&&(items.size - 0) == items.size)=true then _ else _) _ _ s
 rw[if_pos (by simp)]
 refine Qcp ?_
 unfold Builtin.Tuple.tupleIsExact
 refine Qcp (wpAny_typeOf ht.typeIs (Qcq ?_))
 rw[if_pos (by decide)]
 exact Qcp (wpAny_rule (Qcq ⟨_,rfl,Qcq h⟩))
end
end HT
namespace L2
open PySem PySem.Spec PyProof.Rows
section
variable {X:Cx}
theorem U5:SlR X (λx lo hi H Q=>∃a xs,x=.ref a/\H a=some (.tup xs)/\∀p H',H' p=some (.tup (IK xs lo hi))->Same H H'->Q (.ref p) H'):=by
 intro pins s σ H x v vl vu lo hi sl Q I rx hs pl pu h
 obtain⟨a,xs,rfl,hx,q⟩:=h
 by_cases hw:HT.sIx xs.length 0 lo=0/\HT.sIx xs.length xs.length hi=xs.length
 ·cases rx
  obtain⟨its,r,ht,hz⟩:=I.tuple (SqT.of hx)
  have hlen:its.toArray.size=xs.length:=by rw[Qbe];exact r.length.symm
  refine⟨"tuple",_,Qab.lookup,ht.typeIs,?_⟩
  refine HT.Rx ht hs pl pu (by rw[hlen];exact hw) ⟨.ref a,H,I,rfl,q a H ?_ (Same.refl H)⟩
  have e:IK xs lo hi=xs:=by unfold IK;rw[hw.1,hw.2];simp
  rw[e]
  exact hx
 ·exact uH pins s σ H _ v vl vu lo hi sl Q I rx hs pl pu ⟨a,xs,rfl,SqT.of hx,hw,λp hp=>q p _ Ab (λc o e=>by rw[Al (Ar e hp)];exact e)⟩
theorem gZ:SlR X (λx lo hi H Q=>∃z,x=.str z/\z.length<=sizeLine/\Q (.str (Txt.slice z lo hi)) H):=by
 intro pins s σ H x v vl vu lo hi sl Q I rx hs pl pu h
 obtain⟨z,rfl,hz,q⟩:=h
 obtain⟨t,rfl⟩:=rx
 refine⟨"str",_,F.slot_str_getitem.lookup,typeIs_str _ _ _,?_⟩
 have fin:∀t' k,EP X pins σ Q (.str (Txt.slice z lo hi) t') { s with toks:=k }:=λt' k=>⟨.str (Txt.slice z lo hi),H,I.tok k,⟨t',rfl⟩,q⟩
 cases pl with
 | none=>
  cases pu with
  | none=>exact Qat (l:=none) (u:=none) (st:=none) hs rfl (post_val_or_str ⟨Qce (Txt.slice_le z _ _) hz,fin⟩)
  | int j tj=>exact Qat (l:=none) (u:=some (j,tj)) (st:=none) hs rfl (post_val_or_str ⟨Qce (Txt.slice_le z _ _) hz,fin⟩)
 | int i ti=>
  cases pu with
  | none=>exact Qat (l:=some (i,ti)) (u:=none) (st:=none) hs rfl (post_val_or_str ⟨Qce (Txt.slice_le z _ _) hz,fin⟩)
  | int j tj=>exact Qat (l:=some (i,ti)) (u:=some (j,tj)) (st:=none) hs rfl (post_val_or_str ⟨Qce (Txt.slice_le z _ _) hz,fin⟩)
end
structure Im (K:YD) (C:Addr) (m qn:Str) (st:Stmt) (ps:YF):Prop where
 ex:∃(f:Addr) (fd:FuncData),Fun K m qn st f fd/\Meth K C m f/\Binds K fd ps []
structure CT (P:Program) (w:World) (K:YD) (mg:YB) (base:Heap) (C:Addr) (m:Str) (k:Nat) (ps:YF) (sp:Sp):Prop where
 ex:∃(f:Addr) (fd:FuncData),Meth K C m f/\Binds K fd ps []/\Gn P w K mg base CX0 k f fd ps sp
structure gk (P:Program) (w:World) (K:YD) (mg:YB) (base:Heap) (C:Addr) (k:Nat) (ps:YF) (sp:Sp):Prop where
 ex:∃(f:Addr) (fd:FuncData),Mk K C f/\Binds K fd ps []/\Gn P w K mg base CX0 k f fd ps sp
theorem Im.good {P:Program} {w:World} {K:YD} {mg:YB} {base:Heap} {C:Addr} {m qn:Str} {st:Stmt} {ps N:YF} {k:Nat} {sp:Sp} (c:Im K C m qn st ps) (S:Ay N ps (Ak st)) (len:∀vs H Q E,sp vs H Q E->vs.length=ps.length)
  (hbody:∀(f:Addr) (cdv:Value) (A:Around) (outer:List Env) (s:Shared) (H:Hp) (vs:YG) (Q:VK) (E:XK),CQ k (A.deeper (envOfC qn (Ak st) s.heap.objs.size f cdv))->sp vs H Q E ->
   ∃t,PSs (QF CX0 P w K mg base N qn (Ak st) f cdv A outer s H E).nox (CZ st) t/\t { nx:=λ_ H'=>Q .non H',rt:=Q } (start N vs) H):CT P w K mg base C m (k+1) ps sp:=by
 obtain⟨f,fd,F,M,b⟩:=c.ex
 exact⟨f,fd,M,b,F.ok S len λcdv A outer s H vs Q E hr h=>hbody f cdv A outer s H vs Q E hr h⟩
theorem Hj {X:Cx} {pl:Sem Bool} {k k':Nat} {C:Addr} {ps:YF} {sp:Sp} {m:Str} {apos pos:Pos} {o e:Expr} {es:YJ} {ta:TE} {t:TA} (he:PE X o ta) (c:Cls X.K C) (g:CT X.prog X.w X.K X.mg X.base C m k ps sp) (hr:CQ k' X.A) (ha:PA X (e::es) t) (hk:k<=k':=by decide)
  (hst:starEach (e::es) X.env=(false,eval e X.env)::starEach es X.env:=by rfl) (hpl:(backTo pos (starEach es X.env)).any (·.1)=false:=by rfl)
  (ht:eval (.Call (.Attribute o m apos) (e::es) [] pos) X.env=(do
   let ov <-eval o X.env
   standAt apos.atName
   let (f,first) <-holding [ov] (getMethod ov m pl)
   callWith pos f first (backTo pos (starEach (e::es) X.env)) (backToKw pos (keywordEach [] X.env))):=by rfl) :
  PE X (.Call (.Attribute o m apos) (e::es) [] pos) (WQ C m sp [] E0 ta t):=by
 intro pins s σ H Q I h
 obtain⟨f,fd,M,b,F⟩:=g.ex
 exact qQ (pl:=pl) he c M F (hr.mono hk) b .nil WW ha hst hpl ht pins s σ H Q I h
theorem Qm {X:Cx} {pl:Sem Bool} {k k':Nat} {C:Addr} {ps:YF} {sp:Sp} {m:Str} {apos pos:Pos} {o:Expr} {ta:TE} (he:PE X o ta) (c:Cls X.K C) (g:CT X.prog X.w X.K X.mg X.base C m k ps sp) (hr:CQ k' X.A) (hk:k<=k':=by decide)
  (ht:eval (.Call (.Attribute o m apos) [] [] pos) X.env=(do
   let ov <-eval o X.env
   standAt apos.atName
   let (f,first) <-holding [ov] (getMethod ov m pl)
   callWith pos f first (backTo pos (starEach [] X.env)) (backToKw pos (keywordEach [] X.env))):=by rfl) :
  PE X (.Call (.Attribute o m apos) [] [] pos) (WQ C m sp [] E0 ta cX):=by
 intro pins s σ H Q I h
 obtain⟨f,fd,M,b,F⟩:=g.ex
 exact mO (pl:=pl) he c M F (hr.mono hk) b .nil WW ht pins s σ H Q I h
theorem pR {X:Cx} {k k':Nat} {C:Addr} {ps:YF} {sp:Sp} {x:Str} {p pos:Pos} {e:Expr} {es:YJ} {t:TA} (g:gk X.prog X.w X.K X.mg X.base C k ps sp) (hr:CQ k' X.A) (hm:X.mg x=some (.ref C)) (ha:PA X (e::es) t) (hk:k+1<=k':=by decide) (hg:Gl X x:=by rfl)
  (hdb:(x == ("__debug__":Str))=false:=by decide) (he:starEach (e::es) X.env=(false,eval e X.env)::starEach es X.env:=by rfl) (hpl:(backTo pos (starEach es X.env)).any (·.1)=false:=by rfl) :
  PE X (.Call (.Name x p) (e::es) [] pos) (pH C sp [] E0 t):=by
 intro pins s σ H Q I h
 obtain⟨f,fd,M,b,F⟩:=g.ex
 exact qR M F (hr.mono hk) hg hm b .nil WW ha hdb he hpl pins s σ H Q I h
theorem Qo {X:Cx} {x:Str} {v:V} {pos:Pos} (hg:Gl X x) (hm:∃u,X.mg x=some u/\RelV v u) (hd:(x == ("__debug__":Str))=false:=by decide):PE X (.Name x pos) (tC v):=by
 obtain⟨u,h,r⟩:=hm
 exact qT hg h r hd
theorem QB:∀{fs:List (Str×V)} {i:Nat} {f:Str} {v:V},(fs.map (·.1)).Nodup->fs[i]?=some (f,v)->fs.lookup f=some v
 | [],_,_,_,_,h=>by simp at h
 | (g,u)::fs,0,f,v,_,h=>by simp at h;obtain⟨rfl,rfl⟩:=h;simp[List.lookup]
 | (g,u)::fs,i+1,f,v,hn,h=>by
  rw[QbU,QbG] at hn
  have h':fs[i]?=some (f,v):=by simpa using h
  have hm:f∈fs.map (·.1):=Qcc.mpr ⟨(f,v),QaE h',rfl⟩
  have hne:(f == g)=false:=QaJ.mpr λe=>hn.1 (e ▸ hm)
  rw[List.lookup,hne]
  exact QB hn.2 h'
theorem qe:∀{fs:List (Str×V)} {m:Str},m∉fs.map (·.1)->fs.lookup m=none
 | [],_,_=>rfl
 | (g,u)::fs,m,h=>by
  rw[QbU,QbT] at h
  have hne:(m == g)=false:=QaJ.mpr λe=>h (.inl e)
  rw[List.lookup,hne]
  exact qe λz=>h (.inr z)
theorem Qz {y:V}:∀{fs:List (Str×V)} {f:Str},f∉fs.map (·.1)->GJ f y fs=fs++[(f,y)]
 | [],_,_=>rfl
 | (g,u)::fs,f,h=>by
  rw[QbU,QbT] at h
  show (if g=f then (g,y)::fs else (g,u)::GJ f y fs)=_
  rw[if_neg λe=>h (.inl e.symm),Qz λz=>h (.inr z)]
  rfl
def Ao (H H':Hp):Prop:=∀c xs,H c=some (.tup xs)->H' c=some (.tup xs)
theorem Ao.trans {H H1 H2:Hp} (a:Ao H H1) (b:Ao H1 H2):Ao H H2:=λc xs e=>b c xs (a c xs e)
theorem Ao.of {H H1:Hp} (s:Same H H1):Ao H H1:=λc xs e=>s c _ e
theorem Ao.upd {H:Hp} {b:Addr} {o:HO} (h:∀xs,H b≠some (.tup xs)):Ao H (upd H b o):=λc xs e=>by
 have n:c≠b:=λz=>h xs (z ▸ e)
 rw[Al n]
 exact e
def Ah (b:Addr) (H H':Hp):Prop:=∀c o,H c=some o->c≠b->H' c=some o
theorem Ah.trans {b:Addr} {H H1 H2:Hp} (x:Ah b H H1) (y:Ah b H1 H2):Ah b H H2:=λc o e n=>y c o (x c o e n) n
theorem Ah.of {b:Addr} {H H1:Hp} (x:Same H H1):Ah b H H1:=λc o e _=>x c o e
theorem Ah.refl (b:Addr) (H:Hp):Ah b H H:=λ_ _ e _=>e
theorem Ah.upd {b:Addr} {H:Hp} {o:HO}:Ah b H (upd H b o):=λc u e n=>by rw[Al n];exact e
theorem Ah.tup {b:Addr} {H H':Hp} (x:Ah b H H') (h:∀xs,H b≠some (.tup xs)):Ao H H':=λc xs e=>x c _ e λz=>h xs (z ▸ e)
theorem Ah.free {b:Addr} {H H':Hp} (x:Ah b H H') (hb:∃o,H' b=some o) {l:Addr} (h:H' l=none):H l=none:=by
 cases e:H l with
 | none=>rfl
 | some o=>
  by_cases n:l=b
  ·obtain⟨o',e'⟩:=hb
   rw[n,e'] at h
   cases h
  ·rw[x l o e n] at h
   cases h
def xQ (K:YD) (ta tv:TE) (f:Str):TS:=λD σ H=>tv σ H λy H1=>ta σ H1 λx H2=>∃a C dx fs fs',x=.ref a/\H2 a=some (.ins C dx fs)/\Cls K C/\Ih K C f/\fs.length < 1000/\GJ f y fs=fs' /\
 ∀H',H' a=some (.ins C dx fs')->Ah a H2 H'->D.nx σ H'
section
variable {X:Cx} {o e value:Expr} {f:Str} {pos pos' tpos:Pos} {ta tv:TE}
theorem PE.weak {ta ta':TE} (h:PE X e ta) (i:∀ σ H Q,ta' σ H Q->ta σ H Q):PE X e ta':=λpins s σ H Q I q=>h pins s σ H Q I (i σ H Q q)
theorem QZ (ha:PE X o ta) (hv:PE X value tv) (hs:swapsWith value (some (.Attribute o f pos')) pos.line X.env=pure false):PS X (.Assign [.Attribute o f pos'] value pos) (xQ X.K ta tv f):=by
 intro pins s σ H D I h
 refine plainObj_wpAny_Assign_Attribute (thn (hv pins s σ H _ I h) λu s1 zz=>?_) hs
 obtain⟨y,H1,I1,ry,q⟩:=zz
 refine thn (ha pins s1 σ H1 _ I1 q) λov s2 zz=>?_
 obtain⟨x,H2,I2,rx,a,C,dx,fs,fs',ex,ea,c,n,l,ep,q2⟩:=zz
 subst ex
 obtain rfl:ov=Value.ref a:=rx
 refine dj I2 ea c n l ry λs3 I3=>⟨σ,_,I3,q2 _ ?_ Ah.upd⟩
 rw[Ab,ep]
end
theorem PS.weak {X:Cx} {s:Stmt} {t t':TS} (h:PS X s t) (i:∀D σ H,t' D σ H->t D σ H):PS X s t':=λpins sh σ H D I q=>h pins sh σ H D I (i D σ H q)
section
variable {X:Cx} {K:YD}
theorem bT (h:X.K=K):IxR X (uM K):=h ▸ BR
theorem T3 (h:X.K=K):OpR X (compareOp .In) (rIn K false):=h ▸ Qq
theorem Pk (h:X.K=K):OpR X (compareOp .NotIn) (rIn K true):=h ▸ Yp
theorem bL {e:Expr} {f:Str} {pos:Pos} {ta:TE} (h:X.K=K) (he:PE X e ta) (hb:attributeBase e f X.env (eval e X.env)=eval e X.env):PE X (.Attribute e f pos) (uh K ta f):=h ▸ CV he hb
end
end L2
namespace PySem
open Sem (wp)
section
variable {prog:Program} {w:World} {A:Around} {E:YA} {s:Shared}
end
end PySem
namespace L2
open PySem PySem.Spec PyProof.Rows
section
variable {X:Cx} {pos:Pos}
end
structure Has (H:Hp) (l:List (Addr×HO)):Prop where
 nd:(l.map (·.1)).Nodup
 at_:∀x∈l,H x.1=some x.2
theorem Has.yd {H:Hp} {l:List (Addr×HO)} {a:Addr} (h:Has H l) (e:H a=none):a∉l.map (·.1):=λz=>by
 obtain⟨x,hx,rfl⟩:=Qcc.mp z
 rw[h.at_ x hx] at e
 cases e
theorem Has.new {H H':Hp} {l:List (Addr×HO)} {a:Addr} {o:HO} (h:Has H l) (n:H a=none) (s:Same H H') (e:H' a=some o):Has H' (l++[(a,o)]):=by
 refine⟨?_,λx hx=>?_⟩
 ·rw[Qby,List.nodup_append]
  refine⟨h.nd,by simp,λx hx y hy z=>?_⟩
  have:y=a:=by simpa using hy
  subst this
  exact h.yd n (z ▸ hx)
 ·rcases Qbz.mp hx with z | z
  ·exact s _ _ (h.at_ x z)
  ·have:x=(a,o):=by simpa using z
   subst this
   exact e
theorem Has.nil (H:Hp):Has H []:=⟨QbP,λx hx=>by cases hx⟩
theorem Same.Bj {H0 H H':Hp} {a:Addr} (s:Same H0 H) (b:Ah a H H') (f:H0 a=none):Same H0 H':=λc o e=>b _ _ (s _ _ e) λz=>by rw[z,f] at e;cases e
section
variable {κ : Type} [DecidableEq κ]
def Dw (kvs:List (κ×V)) (k:κ):Option V:=(kvs.find? λkv=>decide (kv.1=k)).map (·.2)
def putK (kvs:List (κ×V)) (k:κ) (v:V):List (κ×V):=
 if (kvs.any λkv=>decide (kv.1=k))=true then kvs.map (λkv=>if kv.1=k then (kv.1,v) else kv) else kvs++[(k,v)]
theorem Ip {p:κ×V} {r:List (κ×V)} {k:κ} (e:p.1=k):Dw (p::r) k=some p.2:=by simp[Dw,QbM,e]
theorem GR {p:κ×V} {r:List (κ×V)} {k:κ} (e:¬p.1=k):Dw (p::r) k=Dw r k:=by simp[Dw,QbM,e]
theorem Lq (k:κ):∀kvs:List (κ×V),(kvs.any λkv=>decide (kv.1=k))=(Dw kvs k).isSome
 | []=>rfl
 | p::r=>by
  rw[QbX]
  by_cases e:p.1=k
  ·simp only[Ip e,QbN e,Bool.true_or,Option.isSome_some]
  ·rw[GR e,QbB e,Bool.false_or];exact Lq k r
theorem Kd (kvs:List (κ×V)) (k:κ) (v:V):(putK kvs k v).length<=kvs.length+1:=by
 unfold putK
 split
 ·rw[Qbx];omega
 ·rw[QaP,Qbp,List.length_nil];omega
theorem Mf {kvs:List (κ×V)} {k:κ} (v:V) (h:Dw kvs k=none):putK kvs k v=kvs++[(k,v)]:=by
 unfold putK
 rw[Lq,h]
 exact if_neg (by decide)
theorem GK.KN {o:Option V} {u:Option Value} (r:GK o u):o.isSome=u.isSome:=by
 cases o with
 | none=>cases u with
  | none=>rfl
  | some _=>exact (show False from r).elim
 | some _=>cases u with
  | none=>exact (show False from r).elim
  | some _=>rfl
theorem GK.getD {o:Option V} {u:Option Value} {d:V} {d':Value} (r:GK o u) (rd:RelV d d'):RelV (o.getD d) (u.getD d'):=by
 cases o with
 | none=>cases u with
  | none=>exact rd
  | some _=>exact (show False from r).elim
 | some _=>cases u with
  | none=>exact (show False from r).elim
  | some _=>exact r
theorem KV.val {kvs:List (κ×V)} {vs:List (κ×Value)} (r:KV kvs vs) (k:κ):GK (Dw kvs k) (valueAt vs k):=by
 unfold KV at r
 induction r with
 | nil=>exact True.intro
 | @cons p q ps qs h t ih=>
  obtain⟨h1,h2⟩:=h
  by_cases e:p.1=k
  ·have e':q.1=k:=h1.symm.trans e
   have b:valueAt (q::qs) k=some q.2:=by simp[valueAt,QbM,e']
   rw[Ip e,b];exact h2
  ·have e':¬q.1=k:=λz=>e (h1.trans z)
   have b:valueAt (q::qs) k=valueAt qs k:=by simp[valueAt,QbM,e']
   rw[GR e,b];exact ih
theorem KV.any {kvs:List (κ×V)} {vs:List (κ×Value)} (r:KV kvs vs) (k:κ):(kvs.any λkv=>decide (kv.1=k))=vs.any λkv=>decide (kv.1=k):=by
 unfold KV at r
 induction r with
 | nil=>rfl
 | cons h t ih=>rw[QbX,QbX,ih,h.1]
theorem KV.repl {kvs:List (κ×V)} {vs:List (κ×Value)} (r:KV kvs vs) (k:κ) {y:V} {u:Value} (ry:RelV y u) :
  KV (kvs.map λkv=>if kv.1=k then (kv.1,y) else kv) (vs.map λkv=>if kv.1=k then (kv.1,u) else kv):=by
 unfold KV at r ⊢
 induction r with
 | nil=>exact .nil
 | @cons p q ps qs h t ih=>
  rw[QbU,QbU]
  refine .cons ?_ ih
  obtain⟨h1,h2⟩:=h
  by_cases e:p.1=k
  ·rw[if_pos e,if_pos (h1.symm.trans e)];exact⟨h1,ry⟩
  ·rw[if_neg e,if_neg (λz=>e (h1.trans z))];exact⟨h1,h2⟩
theorem KV.put {kvs:List (κ×V)} {vs:List (κ×Value)} (r:KV kvs vs) (k:κ) {y:V} {u:Value} (ry:RelV y u):KV (putK kvs k y) (stored vs k u):=by
 unfold putK stored
 rw[r.any k]
 by_cases e:(vs.any λkv=>decide (kv.1=k))=true
 ·rw[if_pos e,if_pos e];exact r.repl k ry
 ·rw[if_neg e,if_neg e];exact Qcm r ⟨rfl,ry⟩
theorem KV.length {kvs:List (κ×V)} {vs:List (κ×Value)} (r:KV kvs vs):kvs.length=vs.length:=QbS r
end
theorem M5 {P:Program} {w:World} {k:Key} {u:Value} (r:RelV (kV k) u):(CP P w).is k u=true:=by
 cases k with
 | inl i=>obtain⟨t,e⟩:=(show ∃t,u=Value.int i t from r);subst e;exact ZW P w i t
 | inr x=>obtain⟨t,e⟩:=(show ∃t,u=Value.str x t from r);subst e;exact ZV P w x t
theorem V3 {P:Program} {w:World}:∀{ks:List Key} {us:YE},Vals (ks.map kV) us->ItemsAre (CP P w) ks us
 | [],_,r=>by rw[Qcj] at r;cases r;exact .nil
 | k::ks,_,r=>by
  rw[QbU] at r
  cases r with
  | cons h t=>exact .cons (M5 h) (V3 t)
abbrev YL:=List (List Key×V)
abbrev KT (H:Hp):YL->List (List Key×Addr×Value)->Prop:=Paired λp q=>p.1=q.1/\H q.2.1=some (.tup (p.1.map kV))/\RelV p.2 q.2.2
theorem KT.val {H:Hp} {kvs:YL} {xs:List (List Key×Addr×Value)} (r:KT H kvs xs) (k:List Key):GK (Dw kvs k) ((atKey xs k).map (·.2)):=by
 induction r with
 | nil=>exact True.intro
 | @cons p q ps qs h t ih=>
  obtain⟨h1,_,h2⟩:=h
  by_cases e:p.1=k
  ·have e':q.1=k:=h1.symm.trans e
   have b:atKey (q::qs) k=some q.2:=by simp[atKey,QbM,e']
   rw[Ip e,b];exact h2
  ·have e':¬q.1=k:=λz=>e (h1.trans z)
   have b:atKey (q::qs) k=atKey qs k:=by simp[atKey,QbM,e']
   rw[GR e,b];exact ih
theorem KT.repl {H:Hp} {kvs:YL} {xs:List (List Key×Addr×Value)} (r:KT H kvs xs) (k:List Key) {y:V} {u:Value} (ry:RelV y u) :
  KT H (kvs.map λkv=>if kv.1=k then (kv.1,y) else kv) (xs.map (putAt k u)):=by
 induction r with
 | nil=>exact .nil
 | @cons p q ps qs h t ih=>
  rw[QbU,QbU]
  refine .cons ?_ ih
  obtain⟨h1,h2,h3⟩:=h
  unfold putAt
  by_cases e:p.1=k
  ·rw[if_pos e,if_pos (h1.symm.trans e)];exact⟨h1,h2,ry⟩
  ·rw[if_neg e,if_neg (λz=>e (h1.trans z))];exact⟨h1,h2,h3⟩
theorem KT.put {H:Hp} {kvs:YL} {xs:List (List Key×Addr×Value)} (r:KT H kvs xs) (k:List Key) {b:Addr} {y:V} {u:Value} (hb:H b=some (.tup (k.map kV))) (ry:RelV y u) :
  KT H (putK kvs k y) (storedH xs k b u):=by
 have e:(kvs.any λkv=>decide (kv.1=k))=(atKey xs k).isSome:=by
  rw[Lq,(r.val k).KN,Option.isSome_map]
 unfold putK storedH
 rw[e]
 by_cases q:(atKey xs k).isSome=true
 ·rw[if_pos q,if_pos q];exact r.repl k ry
 ·rw[if_neg q,if_neg q];exact Qcm r ⟨rfl,hb,ry⟩
theorem KT.keeps {H H':Hp} {kvs:YL} {xs:List (List Key×Addr×Value)} (r:KT H kvs xs) (ht:∀b ys,H b=some (.tup ys)->H' b=some (.tup ys)):KT H' kvs xs:=
 Paired.Az r λ_ _ z=>⟨z.1,ht _ _ z.2.1,z.2.2⟩
section
variable {P:Program} {w:World} {H:Hp} {h:Heap} {a:Addr}
theorem pQ {u:HO} (ok:HOk P w H h) (e:Rd H a u):Bs P w H h a u:=e.ok ok
abbrev YM:=List (Key×V)
theorem La {kvs:YM} (ok:HOk P w H h) (e:Rd H a (.dK kvs)):kvs.length<=sizeLine/\(a == sysModules)=false/\∃vs,KV kvs vs/\h.DictOf (CP P w) a vs:=
 show Bs P w H h a (.dK kvs) from pQ ok e
theorem qm {kvs:YM} (ok:HOk P w H h) (e:H a=some (.dK kvs)):kvs.length<=sizeLine/\(a == sysModules)=false/\∃vs,KV kvs vs/\h.DictOf (CP P w) a vs:=La ok (.inl e)
theorem KH {ks:List Key} (ok:HOk P w H h) (e:H a=some (.tup (ks.map kV))):(tupleKind (CP P w)).is h ks a:=by
 obtain⟨_,its,r,o,h1,h2,n,h3⟩:=(show Bs P w H h a (.tup (ks.map kV)) from ok a _ e)
 exact⟨o,its.toArray,n,h1,h2,h3,by simpa using V3 r⟩
theorem Nb {kvs:YL} (ok:HOk P w H h) (e:Rd H a (.dT kvs)):kvs.length<=sizeLine/\(a == sysModules)=false /\
  ∃xs,KT H kvs xs/\h.DictOfH (tupleKind (CP P w)) a xs:=by
 obtain⟨z,y,xs,r,o,es,ep,h1,h2,h3,h4,h5⟩:=(show Bs P w H h a (.dT kvs) from pQ ok e)
 refine⟨z,y,xs,r,o,es,ep,h1,h2,h3,h4,λx hx=>?_,h5⟩
 have all:∀{l:YL} {m:List (List Key×Addr×Value)},KT H l m->∀x∈m,(tupleKind (CP P w)).is h x.1 x.2.1:=by
  intro l m q
  induction q with
  | nil=>intro x hx;exact nomatch hx
  | @cons p q ps qs hq t ih=>
   intro x hx
   rcases QbT.mp hx with e | hx
   ·subst e
    exact KH ok (by rw[<-hq.1];exact hq.2.1)
   ·exact ih x hx
 exact all r x hx
theorem qg {kvs:YL} (ok:HOk P w H h) (e:H a=some (.dT kvs)):kvs.length<=sizeLine/\(a == sysModules)=false /\
  ∃xs,KT H kvs xs/\h.DictOfH (tupleKind (CP P w)) a xs:=Nb ok (.inl e)
end
def Dn (H:Hp) (a:Addr) (y:V) (r:Option V):Prop:=
 (∃kvs k,Rd H a (.dK kvs)/\y=kV k/\r=Dw kvs k)\/∃kvs k b,Rd H a (.dT kvs)/\y=.ref b/\H b=some (.tup (k.map kV))/\r=Dw kvs k
def JC (H:Hp) (a:Addr) (y v:V) (H':Hp):Prop:=
 (∃kvs k,H a=some (.dK kvs)/\y=kV k/\kvs.length < sizeLine/\H'=upd H a (.dK (putK kvs k v))) \/
 ∃kvs k b,H a=some (.dT kvs)/\y=.ref b/\H b=some (.tup (k.map kV))/\kvs.length < sizeLine/\H'=upd H a (.dT (putK kvs k v))
theorem Dn.k {H:Hp} {a:Addr} {kvs:YM} {k:Key} (e:H a=some (.dK kvs)):Dn H a (kV k) (Dw kvs k):=.inl ⟨kvs,k,.inl e,rfl,rfl⟩
theorem Dn.t {H:Hp} {a b:Addr} {kvs:YL} {k:List Key} (e:H a=some (.dT kvs)) (eb:H b=some (.tup (k.map kV))):Dn H a (.ref b) (Dw kvs k):=.inr ⟨kvs,k,b,.inl e,rfl,eb,rfl⟩
theorem JC.k {H:Hp} {a:Addr} {kvs:YM} {k:Key} {v:V} (e:H a=some (.dK kvs)) (hl:kvs.length < sizeLine):JC H a (kV k) v (upd H a (.dK (putK kvs k v))):=.inl ⟨kvs,k,e,rfl,hl,rfl⟩
theorem JC.t {H:Hp} {a b:Addr} {kvs:YL} {k:List Key} {v:V} (e:H a=some (.dT kvs)) (eb:H b=some (.tup (k.map kV))) (hl:kvs.length < sizeLine) :
  JC H a (.ref b) v (upd H a (.dT (putK kvs k v))):=.inr ⟨kvs,k,b,e,rfl,eb,hl,rfl⟩
section
variable {X:Cx} {pins:YC} {σ : St} {H:Hp} {s:Shared} {a:Addr} {y v:V} {u r:Value} {o:Option V} {A:Around} {E:YA}
theorem Inv.big (I:Inv X pins σ H s):sysModules < s.heap.objs.size:=by
 have h:mainGlobals < s.heap.objs.size:=(I.mod.glob.keeps I.bk).lt
 exact Nat.lt_trans (by decide) h
theorem jR {Q:YA} (hu:A.units+1 < cLine) (I:Inv X pins σ H s) (g:Dn H a y (some v)) (ry:RelV y u) (h:∀w' s',Inv X pins σ H s'->RelV v w'->Q w' s') :
  wpAny (model X.prog X.w) A (getItem (.ref a) u) Q E s:=by
 rcases g with⟨kvs,k,e,ey,l⟩|⟨kvs,k,b,e,ey,eb,l⟩
 ·subst ey
  obtain⟨z,hd,vs,rel,dd⟩:=La I.hok e
  obtain⟨w',hw,rw'⟩:=GK.some_of (v:=v) (o:=valueAt vs k) (by rw[l];exact rel.val k)
  exact wpAny_getItem_of (M5 ry) dd.mapOf hw (h w' _ (I.tok _) rw')
 ·subst ey
  cases (show u=Value.ref b from ry)
  obtain⟨z,hd,xs,rel,dd⟩:=Nb I.hok e
  obtain⟨w',hw,rw'⟩:=GK.some_of (v:=v) (o:=(atKey xs k).map (·.2)) (by rw[l];exact rel.val k)
  obtain⟨p,hp,hp2⟩:=Qaw.mp hw
  refine wpAny_getItem_heap (Qbc hu) (KH I.hok eb) dd hp ?_
  rw[hp2]
  exact h w' _ (I.tok _) rw'
theorem DZ {Q:YA} (hu:A.units+1 < cLine) (I:Inv X pins σ H s) (g:Dn H a y o) (ry:RelV y u) (h:∀s',Inv X pins σ H s'->Q (.bool o.isSome) s') :
  wpAny (model X.prog X.w) A (compareOp .In u (.ref a)) Q E s:=by
 rcases g with⟨kvs,k,e,ey,l⟩|⟨kvs,k,b,e,ey,eb,l⟩
 ·subst ey
  obtain⟨z,hd,vs,rel,dd⟩:=La I.hok e
  refine wpAny_in_of (M5 ry) hd dd.mapOf ?_
  rw[<-(rel.val k).KN,<-l]
  exact h _ (I.tok _)
 ·subst ey
  cases (show u=Value.ref b from ry)
  obtain⟨z,hd,xs,rel,dd⟩:=Nb I.hok e
  refine wpAny_in_heap (Qbc hu) (KH I.hok eb) hd dd ?_
  have q:=(rel.val k).KN
  rw[Option.isSome_map] at q
  rw[<-q,<-l]
  exact h _ (I.tok _)
theorem sy {Q:YA} (hu:A.units+1 < cLine) (I:Inv X pins σ H s) (g:Dn H a y o) (ry:RelV y u) (h:∀s',Inv X pins σ H s'->Q (.bool (!o.isSome)) s') :
  wpAny (model X.prog X.w) A (compareOp .NotIn u (.ref a)) Q E s:=by
 rcases g with⟨kvs,k,e,ey,l⟩|⟨kvs,k,b,e,ey,eb,l⟩
 ·subst ey
  obtain⟨z,hd,vs,rel,dd⟩:=La I.hok e
  refine wpAny_notIn_of (M5 ry) hd dd.mapOf ?_
  rw[<-(rel.val k).KN,<-l]
  exact h _ (I.tok _)
 ·subst ey
  cases (show u=Value.ref b from ry)
  obtain⟨z,hd,xs,rel,dd⟩:=Nb I.hok e
  refine wpAny_notIn_heap (Qbc hu) (KH I.hok eb) hd dd ?_
  have q:=(rel.val k).KN
  rw[Option.isSome_map] at q
  rw[<-q,<-l]
  exact h _ (I.tok _)
theorem Rk {h':Heap} {t':Nat} {ob:HO} (I:Inv X pins σ H s) (mu:Mut (H a)) (hs:Heap.SameBut a s.heap h') (he:∃q,h'.get? a=some q) (new:Bs X.prog X.w (upd H a ob) h' a ob) :
  Inv X pins σ (upd H a ob) { s with heap:=h',toks:=t' }:=
 I.write (x:=a) (e:=a) mu (.inl rfl) (λb q hb z=>(hs.2 b hb).trans z) he new
theorem jN {P:Program} {w:World} {H':Hp} {h':Heap} {kvs:YM} {vs:List (Key×Value)} (z:kvs.length<=sizeLine) (hd:(a == sysModules)=false) (rel:KV kvs vs) (dd:h'.DictOf (CP P w) a vs) :
  Bs P w H' h' a (.dK kvs):=⟨z,hd,vs,rel,dd⟩
theorem jQ {H':Hp} {Q:YH} (hu:A.units+1 < cLine) (I:Inv X pins σ H s) (g:JC H a y v H') (ry:RelV y u) (rv:RelV v r) (h:∀s',Inv X pins σ H' s'->Q () s') :
  wpAny (model X.prog X.w) A (setItem (.ref a) u r) Q E s:=by
 rcases g with⟨kvs,k,e,ey,l,eH⟩|⟨kvs,k,b,e,ey,eb,l,eH⟩
 ·subst ey eH
  obtain⟨z,hd,vs,rel,dd⟩:=qm I.hok e
  have hz:vs.length<=sizeLine:=by rw[<-rel.length];exact z
  have hl:(putK kvs k v).length<=sizeLine:=by have:=Kd kvs k v;omega
  refine wpAny_setItem_pairs (hsz:=hz) (M5 ry) dd λh' dd' hs=>h _ ?_
  have he:∃q,h'.get? a=some q:=let ⟨q,_,_,hq,_⟩:=dd';⟨q,hq⟩
  exact Rk I (by rw[e];exact True.intro) hs he (jN hl hd (rel.put k rv) dd')
 ·subst ey eH
  cases (show u=Value.ref b from ry)
  obtain⟨z,hd,xs,rel,dd⟩:=qg I.hok e
  have hz:xs.length<=sizeLine:=by rw[<-QbS rel];exact z
  have hl:(putK kvs k v).length<=sizeLine:=by have:=Kd kvs k v;omega
  refine wpAny_setItem_heap (hsz:=hz) (Qbc hu) (KH I.hok eb) dd λh' dd' hs=>h _ ?_
  obtain⟨q,es,ep,hq,h2,h3,h4,_,h5⟩:=dd'
  refine Rk I (by rw[e];exact True.intro) hs ⟨q,hq⟩ ⟨hl,hd,_,(rel.put k eb rv).keeps λc ys ec=>?_,q,es,ep,hq,h2,h3,h4,h5⟩
  rw[Al (pX ec e (λz=>nomatch z))]
  exact ec
end
section
variable {X:Cx} {pins:YC} {σ : St} {H:Hp} {s:Shared} {a:Addr} {kvs:YM} {k:Key} {u:Value} {A:Around} {E:YA}
theorem yL {Q:YA} (I:Inv X pins σ H s) (e:Rd H a (.dK kvs)) (h:∀t s',Inv X pins σ H s'->Q (.int kvs.length t) s'):wpAny (model X.prog X.w) A (call (.builtin "len") [.ref a]) Q E s:=by
 obtain⟨z,hd,vs,rel,dd⟩:=La I.hok e
 refine call_len_dict hd dd (by rw[<-rel.length];rw[Qco] at z;omega) ?_
 rw[<-rel.length]
 exact h _ _ (I.tok _)
end
def wY (i:Expr):Prop:=∀ov iv,subscripted i false ov iv=operate [ov,iv] (getItem ov iv)
theorem qD {prog:Program} {w:World} {A:Around} {E:YA} {s:Shared} {env:Env} {value slice:Expr} {pos:Pos} {T id:String} {Q:YA}
  (hl:typeLookup (.type T) "__getitem__"=pure (some (.builtin id))) (hs:wY slice)
  (h:wpAny (model prog w) A (eval value env) (λo s₁=>wpAny (model prog w) A (eval slice env) (λi s₂=>s₂.TypeIs o T/\wpAny (model prog w) A (getItem o i) Q E s₂) E s₁) E s) :
  wpAny (model prog w) A (eval (.Subscript value slice pos) env) Q E s:=by
 refine Subscript_ (Qcr h (λo s₁ h₁=>Qcr h₁ (λi s₂ h₂=>?_) λ_ _ x=>x) λ_ _ x=>x)
 obtain⟨hT,h₂⟩:=h₂
 unfold subscriptTail
 refine Qcp ?_
 rw[getitemInPython_of_ne hT.not_modules]
 refine Qcp (wpAny_specialOf hT hl ?_)
 have fin:wpAny (model prog w) A (subscripted slice false o i) (λr s₃=>wpAny (model prog w) A (letTemporaryGo value o r >>= λ_=>pure r) Q E s₃) E s₂:=by
  rw[hs o i]
  exact wpAny_operating (Qcr h₂ (λr s₃ h₃=>Qcp (wpAny_letTemporaryGo (Qcq h₃))) λ_ _ x=>x)
 first
  | exact Qcq (Qcp fin)
  | exact Qcp (Qcq (Qcp fin))
  | exact Qcp fin
theorem Z8 {X:Cx} {pins:YC} {σ : St} {H:Hp} {s:Shared} {a:Addr} {y:V} {o:Option V} (I:Inv X pins σ H s) (g:Dn H a y o):s.TypeIs (.ref a) "dict":=by
 rcases g with⟨kvs,k,e,_,_⟩|⟨kvs,k,b,e,_,_,_⟩
 ·obtain⟨_,_,vs,_,dd⟩:=La I.hok e
  exact dd.typeIs
 ·obtain⟨_,_,xs,_,dd⟩:=Nb I.hok e
  exact dd.typeIs
def xK (td ty:TE):TE:=fun σ H Q=>td σ H λx H1=>ty σ H1 λy H2=>∃a v,x=.ref a/\Dn H2 a y (some v)/\Q v H2
def zy (ty td:TE):TE:=fun σ H Q=>ty σ H λy H1=>td σ H1 λx H2=>∃a o,x=.ref a/\Dn H2 a y o/\Q (.bl o.isSome) H2
def qC (ty td:TE):TE:=fun σ H Q=>ty σ H λy H1=>td σ H1 λx H2=>∃a o,x=.ref a/\Dn H2 a y o/\Q (.bl (!o.isSome)) H2
def xR (td ty tv:TE):TS:=λD σ H=>tv σ H λv H1=>td σ H1 λx H2=>ty σ H2 λy H3=>∃a H4,x=.ref a/\JC H3 a y v H4/\D.nx σ H4
section
variable {X:Cx} {o i e value:Expr} {pos pos' tpos:Pos} {td ty tv:TE}
theorem JN (hu:X.A.units+1 < cLine) (ho:PE X o td) (hi:PE X i ty) (hs:wY i):PE X (.Subscript o i pos) (xK td ty):=by
 intro pins s σ H Q I h
 refine qD PySem.F.slot_dict_getitem.lookup hs (thn (ho pins s σ H _ I h) λu s1 zz=>?_)
 obtain⟨x,H1,I1,rx,q1⟩:=zz
 refine thn (hi pins s1 σ H1 _ I1 q1) λiv s2 zz=>?_
 obtain⟨y,H2,I2,ry,a,v,ex,g,q2⟩:=zz
 subst ex
 obtain rfl:u=Value.ref a:=rx
 exact⟨Z8 I2 g,jR hu I2 g ry λw' s3 I3 rw'=>⟨v,H2,I3,rw',q2⟩⟩
theorem iM (hu:X.A.units+1 < cLine) (hi:PE X i ty) (ho:PE X o td):PC X .In i o (zy ty td):=by
 intro pins s σ H Q I h
 refine thn (hi pins s σ H _ I h) λiv s1 zz=>?_
 obtain⟨y,H1,I1,ry,q1⟩:=zz
 refine thn (ho pins s1 σ H1 _ I1 q1) λu s2 zz=>?_
 obtain⟨x,H2,I2,rx,a,ov,ex,g,q2⟩:=zz
 subst ex
 obtain rfl:u=Value.ref a:=rx
 exact DZ hu I2 g ry λs3 I3=>⟨.bl ov.isSome,H2,I3,rfl,q2⟩
theorem Qp (hu:X.A.units+1 < cLine) (hi:PE X i ty) (ho:PE X o td):PC X .NotIn i o (qC ty td):=by
 intro pins s σ H Q I h
 refine thn (hi pins s σ H _ I h) λiv s1 zz=>?_
 obtain⟨y,H1,I1,ry,q1⟩:=zz
 refine thn (ho pins s1 σ H1 _ I1 q1) λu s2 zz=>?_
 obtain⟨x,H2,I2,rx,a,ov,ex,g,q2⟩:=zz
 subst ex
 obtain rfl:u=Value.ref a:=rx
 exact sy hu I2 g ry λs3 I3=>⟨.bl (!ov.isSome),H2,I3,rfl,q2⟩
theorem Hi (hu:X.A.units+1 < cLine) (ho:PE X o td) (hi:PE X i ty) (hv:PE X value tv) (hs:swapsWith value (some (.Subscript o i pos')) pos.line X.env=pure false) :
  PS X (.Assign [.Subscript o i pos'] value pos) (xR td ty tv):=by
 intro pins s σ H D I h
 refine wpAny_Assign_Subscript (thn (hv pins s σ H _ I h) λr s1 zz=>?_) hs
 obtain⟨v,H1,I1,rv,q1⟩:=zz
 refine thn (ho pins s1 σ H1 _ I1 q1) λu s2 zz=>?_
 obtain⟨x,H2,I2,rx,q2⟩:=zz
 refine thn (hi pins s2 σ H2 _ I2 q2) λiv s3 zz=>?_
 obtain⟨y,H3,I3,ry,a,H4,ex,g,q3⟩:=zz
 subst ex
 obtain rfl:u=Value.ref a:=rx
 exact jQ hu I3 g ry rv λs4 I4=>⟨σ,H4,I4,q3⟩
end
theorem Zi {P:Program} {w:World} {H:Hp} (h:Heap) (hb:sysModules < h.objs.size):Bs P w H (h.push { cls:=.type "dict",data:=.dict #[] }) h.objs.size (.dK []):=
 ⟨Qcl _,QaJ.mpr (Ne.symm (Qcd hb)),[],.nil,Heap.DictOf.new h⟩
theorem Zh {P:Program} {w:World} {H:Hp} (h:Heap) (hb:sysModules < h.objs.size):Bs P w H (h.push { cls:=.type "dict",data:=.dict #[] }) h.objs.size (.dT []):=
 ⟨Qcl _,QaJ.mpr (Ne.symm (Qcd hb)),[],.nil,_,#[],0,QaI _ rfl,⟨rfl,rfl,rfl⟩,rfl,rfl,QbP⟩
def uq:TE:=λ_ H Q=>∀p,H p=none->Q (.ref p) (upd H p (.dK []))
def uo:TE:=λ_ H Q=>∀p,H p=none->Q (.ref p) (upd H p (.dT []))
section
variable {X:Cx} {pos:Pos}
theorem Yo:PE X (.Dict [] [] pos) uq:=λpins s σ H Q I h=>
 wpAny_Dict_empty ⟨.ref s.heap.objs.size,_,I.laid (a:=s.heap.objs.size) (o:=.dK []) (t':=s.toks) (λ_ _ q=>Qav _ q) (Qck _) (Zi s.heap I.big),rfl,h _ (I.hok.fresh (Qck _))⟩
theorem mQ:PE X (.Dict [] [] pos) uo:=λpins s σ H Q I h=>
 wpAny_Dict_empty ⟨.ref s.heap.objs.size,_,I.laid (a:=s.heap.objs.size) (o:=.dT []) (t':=s.toks) (λ_ _ q=>Qav _ q) (Qck _) (Zh s.heap I.big),rfl,h _ (I.hok.fresh (Qck _))⟩
end
structure M1 (X:Cx) (o:Expr) (m:Str) (apos:Pos) (e:Expr) (cpos:Pos):Prop where
 base:attributeBase o m X.env (eval o X.env)=eval o X.env
 few:((backTo cpos (starEach [e] X.env)).all (λx=>!x.1)&&(backToKw cpos (keywordEach [] X.env)).all (λx=>x.1.isSome)
 &&decide (([e]:YJ).length+([]:List Keyword).length+(if ([]:List Keyword).isEmpty then 0 else 1) < 30))=true
 line:(apos.endLine == cpos.line)=true
 trees:backTo cpos (starEach [e] X.env)=[(false,eval e X.env)]
structure M2 (X:Cx) (o:Expr) (m:Str) (apos:Pos) (e f:Expr) (cpos:Pos):Prop where
 base:attributeBase o m X.env (eval o X.env)=eval o X.env
 few:((backTo cpos (starEach [e,f] X.env)).all (λx=>!x.1)&&(backToKw cpos (keywordEach [] X.env)).all (λx=>x.1.isSome)
 &&decide (([e,f]:YJ).length+([]:List Keyword).length+(if ([]:List Keyword).isEmpty then 0 else 1) < 30))=true
 line:(apos.endLine == cpos.line)=true
 trees:backTo cpos (starEach [e,f] X.env)=[(false,eval e X.env),(false,eval f X.env)]
def IsD (H:Hp) (a:Addr):Prop:=(∃kvs,Rd H a (.dK kvs))\/∃kvs,Rd H a (.dT kvs)
theorem Ug {X:Cx} {pins:YC} {σ : St} {H:Hp} {s:Shared} {a:Addr} (I:Inv X pins σ H s) (d:IsD H a) :
  s.TypeIs (.ref a) "dict"/\(∀b,Value.ref a=.ref b->∃ob,s.heap.get? b=some ob/\ob.dict=none)/\(a == sysModules)=false:=by
 rcases d with⟨kvs,e⟩|⟨kvs,e⟩
 ·obtain⟨_,hd,vs,_,dd⟩:=La I.hok e
  refine⟨dd.typeIs,λb q=>?_,hd⟩
  cases q
  obtain⟨ob,_,_,h1,h2,_⟩:=dd
  exact⟨ob,h1,h2.2.1⟩
 ·obtain⟨_,hd,xs,_,dd⟩:=Nb I.hok e
  refine⟨dd.typeIs,λb q=>?_,hd⟩
  cases q
  obtain⟨ob,_,_,h1,h2,_⟩:=dd
  exact⟨ob,h1,h2.2.1⟩
section
variable {X:Cx} {pins:YC} {σ : St} {H:Hp} {s:Shared} {a:Addr} {y d:V} {u r:Value} {o:Option V} {A:Around} {E:YA}
theorem wJ {Q:YA} (hu:A.units+1 < cLine) (I:Inv X pins σ H s) (g:Dn H a y o) (ry:RelV y u) (h:∀w' s',Inv X pins σ H s'->RelV (o.getD .non) w'->Q w' s') :
  wpAny (model X.prog X.w) A (call (.builtin "dict.get") [.ref a,u]) Q E s:=by
 rcases g with⟨kvs,k,e,ey,l⟩|⟨kvs,k,b,e,ey,eb,l⟩
 ·subst ey
  obtain⟨z,hd,vs,rel,dd⟩:=La I.hok e
  refine call_meetsIn QaC dd.typeIs PySem.F.entry_dict_get (PySem.F.args_dict_get_2 _ _) (meets_dict_get (CP X.prog X.w) a (M5 ry) hd) ⟨_,dd.mapOf,h _ _ (I.tok _) ?_⟩
  rw[l]
  exact (rel.val k).getD rfl
 ·subst ey
  cases (show u=Value.ref b from ry)
  obtain⟨z,hd,xs,rel,dd⟩:=Nb I.hok e
  refine call_meetsIn QaC dd.typeIs PySem.F.entry_dict_get (PySem.F.args_dict_get_2 _ _) (meetsH_dict_get (tupleKind (CP X.prog X.w)) a b hd) ⟨Qbc hu,k,xs,KH I.hok eb,dd,h _ _ (I.tok _) ?_⟩
  rw[l]
  exact (rel.val k).getD rfl
theorem wI {Q:YA} (hu:A.units+1 < cLine) (I:Inv X pins σ H s) (g:Dn H a y o) (ry:RelV y u) (rd:RelV d r) (h:∀w' s',Inv X pins σ H s'->RelV (o.getD d) w'->Q w' s') :
  wpAny (model X.prog X.w) A (call (.builtin "dict.get") [.ref a,u,r]) Q E s:=by
 rcases g with⟨kvs,k,e,ey,l⟩|⟨kvs,k,b,e,ey,eb,l⟩
 ·subst ey
  obtain⟨z,hd,vs,rel,dd⟩:=La I.hok e
  refine call_meetsIn QaC dd.typeIs PySem.F.entry_dict_get (PySem.F.args_dict_get_3 _ _ _) (meets_dict_get_default (CP X.prog X.w) a (M5 ry) hd r) ⟨_,dd.mapOf,h _ _ (I.tok _) ?_⟩
  rw[l]
  exact (rel.val k).getD rd
 ·subst ey
  cases (show u=Value.ref b from ry)
  obtain⟨z,hd,xs,rel,dd⟩:=Nb I.hok e
  refine call_meetsIn QaC dd.typeIs PySem.F.entry_dict_get (PySem.F.args_dict_get_3 _ _ _) (meetsH_dict_get_default (tupleKind (CP X.prog X.w)) a b hd r) ⟨Qbc hu,k,xs,KH I.hok eb,dd,h _ _ (I.tok _) ?_⟩
  rw[l]
  exact (rel.val k).getD rd
end
def uw (td ty:TE):TE:=fun σ H Q=>td σ H λx H1=>∃a,x=.ref a/\IsD H1 a/\ty σ H1 λy H2=>∃o,Dn H2 a y o/\Q (o.getD .non) H2
def ur (td ty tx:TE):TE:=fun σ H Q=>td σ H λx H1=>∃a,x=.ref a/\IsD H1 a/\ty σ H1 λy H2=>tx σ H2 λz H3=>∃o,Dn H3 a y o/\Q (o.getD z) H3
section
variable {X:Cx} {o e f:Expr} {apos cpos:Pos} {td ty tx:TE}
theorem mR (hu:X.A.units+1 < cLine) (ho:PE X o td) (he:PE X e ty) (m:M1 X o "get" apos e cpos):PE X (.Call (.Attribute o "get" apos) [e] [] cpos) (uw td ty):=by
 intro pins s σ H Q I h
 refine wpAny_Call_method m.base m.few m.line PySem.F.plainAttrs_dict QaC PySem.F.type_dict_get (thn (ho pins s σ H _ I h) λu s1 zz=>?_)
 obtain⟨x,H1,I1,rx,a,ex,d,q1⟩:=zz
 subst ex
 obtain rfl:u=Value.ref a:=rx
 obtain⟨t1,t2,_⟩:=Ug I1 d
 refine⟨t1,t2,?_⟩
 rw[m.trees]
 refine Calls.callWith_builtin rfl (Calls.evalArgs_plain (Calls.spliced_cons (thn (he pins s1 σ H1 _ I1 q1) λiv s2 zz=>?_)))
 obtain⟨y,H2,I2,ry,ov,g,q2⟩:=zz
 refine Calls.spliced_nil ?_
 exact wJ hu I2 g ry λw' s3 I3 rw'=>⟨_,H2,I3,rw',q2⟩
theorem R6 (hu:X.A.units+1 < cLine) (ho:PE X o td) (he:PE X e ty) (hf:PE X f tx) (m:M2 X o "get" apos e f cpos):PE X (.Call (.Attribute o "get" apos) [e,f] [] cpos) (ur td ty tx):=by
 intro pins s σ H Q I h
 refine wpAny_Call_method m.base m.few m.line PySem.F.plainAttrs_dict QaC PySem.F.type_dict_get (thn (ho pins s σ H _ I h) λu s1 zz=>?_)
 obtain⟨x,H1,I1,rx,a,ex,d,q1⟩:=zz
 subst ex
 obtain rfl:u=Value.ref a:=rx
 obtain⟨t1,t2,_⟩:=Ug I1 d
 refine⟨t1,t2,?_⟩
 rw[m.trees]
 refine Calls.callWith_builtin rfl (Calls.evalArgs_plain (Calls.spliced_cons (thn (he pins s1 σ H1 _ I1 q1) λiv s2 ⟨y,H2,I2,ry,q2⟩=>
  Calls.spliced_cons (thn (hf pins s2 σ H2 _ I2 q2) λfv s3 ⟨z,H3,I3,rz,ov,g,q3⟩=>Calls.spliced_nil ?_))))
 exact wI hu I3 g ry rz λw' s4 I4 rw'=>⟨_,H3,I4,rw',q3⟩
end
section
variable {X:Cx} {pins:YC} {σ : St} {H:Hp} {s:Shared} {a:Addr} {kvs:YM} {A:Around} {E:YA}
end
section
variable {X:Cx} {pins:YC} {σ : St} {H:Hp} {s:Shared} {a:Addr} {y:V} {u:Value} {A:Around} {E:YA}
end
section
variable {X:Cx}
theorem jY:Fi X (.builtin "len") (λxs H Q=>∃a kvs,xs=[V.ref a]/\H a=some (.dK kvs)/\Q (.int kvs.length) H):=by
 intro pins s σ H xs us Q I r h
 obtain⟨a,kvs,rfl,ha,q⟩:=h
 obtain⟨u,rfl,ru⟩:=vals1 r
 cases ru
 exact yL I (.inl ha) λt s' I'=>⟨.int kvs.length,H,I',⟨t,rfl⟩,q⟩
end
section
variable {κ : Type} [DecidableEq κ]
theorem bO:∀{l:List κ} {k:κ},l.Nodup->¬k∈l->(l++[k]).Nodup
 | [],k,_,_=>by simp
 | a::r,k,h,hk=>by
  obtain⟨h1,h2⟩:=QbG.mp h
  show (a::(r++[k])).Nodup
  refine QbG.mpr ⟨λm=>?_,bO h2 λm=>hk (QbT.mpr (Or.inr m))⟩
  rcases Qbz.mp m with q | q
  ·exact h1 q
  ·exact hk (QbT.mpr (Or.inl (QaW.mp q).symm))
end
theorem Ur {prog:Program} {w:World} {A:Around} {R:Result->Shared->Prop} {s:Shared} {kx vx target iter:Expr} {ifs:YJ} {scope:Scope} {pos:Pos} {it:Value} {D:Addr} {env:Env} (J:Nat->Shared->Prop)
  (turn:∀n s,J n s->wpAny (model prog w) A (pyNext it) (λr s1=>match r with
   | none=>R (.ok .next) s1
   | some v=>wpAny (model prog w) A (letOwnedTupleGo target it v) (λ_ s2=>wpAny (model prog w) A (assign target env v) (λ_ s3=>
     wpAny (model prog w) A (forIn ifs true λc r=>if r=true then do let ok <-isTrue c env (eval c env);pure (ForInStep.yield ok) else pure (ForInStep.yield r)) (λok s4=>
      if ok=true then wpAny (model prog w) A (eval kx env) (λkv s5=>wpAny (model prog w) A (eval vx env) (λvv s6=>wpAny (model prog w) A (dictSet D kv vv) (λ_ s7=>∃m,m < n/\J m s7) (λ_ _=>False) s6) (λ_ _=>False) s5) (λ_ _=>False) s4
      else ∃m,m < n/\J m s4) (λ_ _=>False) s3) (λ_ _=>False) s2) (λ_ _=>False) s1) (λ_ _=>False) s)
  (n:Nat) (h:J n s):codeAny (model prog w) A (.compLoop (.DictComp kx vx [⟨target,iter,ifs,0⟩] scope pos) 0 it (.ref D) env) R s:=by
 refine codeAny_loop rfl J (λk s' hk=>?_) n h
 show wpAny _ A (Sem.onRaise (compTurn (.DictComp kx vx [⟨target,iter,ifs,0⟩] scope pos) 0 it (.ref D) env) (λx=>do noteFrame x env;theTreesLotGoes x)) _ _ s'
 refine wpAny_noted ?_
 rw[compTurn_dict]
 refine Qcp (QbY (Qcp (Qcr (turn k s' hk) (λr s1 q1=>?_) λ_ _ f=>f.elim)))
 cases r with
 | none=>exact Qcq q1
 | some v=>
  refine Qcp (Qcr q1 (λ_ s2 q2=>Qcp (Qcr q2 (λ_ s3 q3=>Qcp (Qcr q3 (λok s4 q4=>?_) λ_ _ f=>f.elim)) λ_ _ f=>f.elim)) λ_ _ f=>f.elim)
  cases ok with
  | false=>exact Qcq ⟨rfl,q4⟩
  | true=>exact Qcp (Qcp (Qcr q4 (λkv s5 q5=>Qcp (QbW (Qcr q5 (λvv s6 q6=>Qcp (QbY (QbW (Qcr q6 (λ_ s7 q7=>Qcq ⟨rfl,q7⟩) λ_ _ f=>f.elim)))) λ_ _ f=>f.elim))) λ_ _ f=>f.elim))
theorem jT {X:Cx} {pins:YC} {σ : St} {H:Hp} {s:Shared} {A:Around} {E:YA} {a:Addr} {kvs:YM} {k:Key} {v:V} {u r:Value} {Q:YH} (I:Inv X pins σ H s) (e:H a=some (.dK kvs)) (l:kvs.length < sizeLine) (ry:RelV (kV k) u) (rv:RelV v r)
  (h:∀s',Inv X pins σ (upd H a (.dK (putK kvs k v))) s'->Q () s'):wpAny (model X.prog X.w) A (dictSet a u r) Q E s:=by
 obtain⟨z,hd,vs,rel,dd⟩:=qm I.hok e
 have hz:vs.length<=sizeLine:=by rw[<-rel.length];exact z
 have hl:(putK kvs k v).length<=sizeLine:=by have:=Kd kvs k v;omega
 refine wpAny_dictSet_pairs (hsz:=hz) (M5 ry) dd λh' dd' hs=>h _ ?_
 have he:∃q,h'.get? a=some q:=let ⟨q,_,_,hq,_⟩:=dd';⟨q,hq⟩
 exact Rk I (by rw[e];exact True.intro) hs he (jN hl hd (rel.put k rv) dd')
@[irreducible] def Rp (J:It) (g:TG) (tt:TT) (tk tv:TE) (Q:VK) (σ0:St) (H0:Hp) (l:Addr):Prop:=∃W:Nat->YN,(∃m,W 0 m σ0 H0) /\
 ∀i m σ' H',W i m σ' H'->(J.stop i H'/\Q (.ref l) H')\/(J.go i H'/\∃N:YO,(∀ σ3 H3,N σ3 H3->∃m',m' < m/\W (i+1) m' σ3 H3)/\∀x H2,J.yld i H' x H2->g x σ' H2 fun σ3 H3=>tt σ3 H3 λb H4=>
  if b=true then tk σ3 H4 λy H5=>tv σ3 H5 λz H6=>∃(kvs:YM) (k:Key),H6 l=some (.dK kvs)/\y=kV k/\kvs.length < sizeLine/\N σ3 (upd H6 l (.dK (putK kvs k z))) else N σ3 H4)
def Xg (wi:TI) (src:List (Option Nat)) (g:TG) (tt:TT) (tk tv:TE):TE:=fun σ H Q=>wi σ H λJ H1=>∀l,H1 l=none->Rp J g tt tk tv Q (Jh src σ) (upd H1 l (.dK [])) l
theorem Us {X:Cx} {N':YF} {src:List (Option Nat)} {sc:Scope} {kx vx tg iter:Expr} {ifs:YJ} {pos pos':Pos} {wi:TI} {g:TG} {tt:TT} {tk tv:TE} {use:Option (Value->Sem Unit)} {R:YA} (hc:X.calm=true) (S:Bg X N' src sc)
  (hi:PI X tg iter wi) (hg:∀s3 H3 fp pn,PG (cxC X N' sc s3 H3 fp pn) tg g) (ht:∀s3 H3 fp pn,PF (cxC X N' sc s3 H3 fp pn) ifs tt) (hk:∀s3 H3 fp pn,PE (cxC X N' sc s3 H3 fp pn) kx tk) (hv:∀s3 H3 fp pn,PE (cxC X N' sc s3 H3 fp pn) vx tv)
  (hs:∀x,foldedSetIterable iter X.env x=pure x) {pins:YC} {s:Shared} {σ : St} {H:Hp} {Q:VK} (I:Inv X pins σ H s) (h:Xg wi src g tt tk tv σ H Q)
  (fin:∀s3 H3 fp σ4 H4 s5 l,Inv X pins σ H3 s3->(∀b∈fp,Gf X pins H3 b)->Inv (cxC X N' sc s3 H3 fp (X.pn++pins)) [] σ4 H4 s5->Q (.ref l) H4 ->
   compPost (model X.prog X.w) X.A X.xe use R (.ref l) s3.heap.objs.size (.ok .next) s5) :
  wpAny (model X.prog X.w) X.A (comprehension (.DictComp kx vx [⟨tg,iter,ifs,0⟩] sc pos) sc X.env pos' newDict false (eval iter X.env) use) R X.xe s:=by
 refine wpAny_comprehension_free (use:=use) (cl:=Er X.env sc.names []) rfl hs (Pa λp hp e=>I.ok.has p.1 (S.fv p hp e)) S.kind S.loc ?_
 refine thn (hi pins s σ H _ I h) λv s1 h1=>thn h1 λitv s2 h2=>?_
 obtain⟨it,fp,tn,J,H2,rfl,I2,T,st2,f2,q⟩:=h2
 have q':=q s2.heap.objs.size (I2.hok.fresh (Qck _))
 unfold Rp at q'
 obtain⟨W,⟨m0,w0⟩,turn⟩:=q'
 refine Qbk (wpAny_newFunctionEnv S.Ia (by intro y hy;simp at hy) (λha hns hsb=>?_) S.kind)
 have I3:Inv X pins σ (upd H2 s2.heap.objs.size (.dK [])) { s2 with heap:=s2.heap.push { cls:=.type "dict",data:=.dict #[] } }:=
  I2.laid (t':=s2.toks) (λb u e=>Qav _ e) (Qck _) (Zi s2.heap I2.big)
 have hfl:∀b∈fp,b < s2.heap.objs.size:=λb hb=>by
  obtain⟨o,e,_⟩:=T.obj 0 _ st2 b hb
  exact Qcb e
 have f3:∀b∈fp,Gf X pins (upd H2 s2.heap.objs.size (.dK [])) b:=λb hb=>⟨by rw[Al (Qcd (hfl b hb))];exact (f2 b hb).1,(f2 b hb).2⟩
 generalize hs3:({ s2 with heap:=s2.heap.push { cls:=.type "dict",data:=.dict #[] } }:Shared)=s3 at *
 have hsz:s2.heap.objs.size < s3.heap.objs.size:=by rw[<-hs3];show s2.heap.objs.size < (s2.heap.push _).objs.size;rw[QbO];exact Qbu _
 have kp:∀b o,s3.heap.get? b=some o->ha.get? b=some o:=λb o e=>hsb.extBut b o (Qcd (Qcb e)) (Qav _ e)
 have st3:tn 0 ha:=T.keep 0 _ _ st2 λb hb o e=>kp b o (by rw[<-hs3];exact Qav _ e)
 have I4:Inv (cxC X N' sc s3 (upd H2 s2.heap.objs.size (.dK [])) fp (X.pn++pins)) [] (Jh src σ) (upd H2 s2.heap.objs.size (.dK [])) { s3 with heap:=ha,toks:=s3.toks+([]:List (Str×Value)).length }:=
  SQ S I3 f3 (λb hb=>Nat.lt_trans (hfl b hb) hsz) hns kp
 have loop:codeAny (model X.prog X.w) X.A (.compLoop (.DictComp kx vx [⟨tg,iter,ifs,0⟩] sc pos) 0 (.ref it) (.ref s2.heap.objs.size) (compEnvC sc (Er X.env sc.names []) s3.heap.objs.size X.env))
   (compPost (model X.prog X.w) X.A X.xe use R (.ref s2.heap.objs.size) s3.heap.objs.size) { s3 with heap:=ha,toks:=s3.toks+([]:List (Str×Value)).length }:=by
  refine Ur (λn s'=>∃i σ' H',Inv (cxC X N' sc s3 (upd H2 s2.heap.objs.size (.dK [])) fp (X.pn++pins)) [] σ' H' s'/\tn i s'.heap/\(∀b∈fp,H' b=none)/\W i n σ' H') ?_ m0 ⟨0,_,_,I4,st3,λb hb=>(f3 b hb).1,w0⟩
  rintro n s4 ⟨i,σ4,H4,J4,st4,fr4,w4⟩
  have stat:∀{H':Hp},(∀b∈fp,H' b=none)->∀b∈fp,Gf (cxC X N' sc s3 (upd H2 s2.heap.objs.size (.dK [])) fp (X.pn++pins)) [] H' b:=λhn b hb=>
   ⟨hn b hb,(I4.ok.exf b hb).1,I4.ok.QC b hb,.inl hb,λx c e=>(I4.ok.exf b hb).2 x c e,λp hp=>(f3 b hb).2.2.2.2.2 p ((Qbz.mp hp).elim id λz=>by cases z)⟩
  rcases turn i n σ4 H4 w4 with⟨stop,qn⟩|⟨go,N,hN,step⟩
  ·refine thn (T.done (cxC X N' sc s3 (upd H2 s2.heap.objs.size (.dK [])) fp (X.pn++pins)) rfl rfl rfl hc i [] s4 σ4 H4 _ J4 (stat fr4) st4 stop) λr s5 zz=>?_
   obtain⟨hr,J5⟩:=zz
   subst hr
   exact fin s3 _ fp σ4 H4 s5 _ I3 f3 J5 qn
  ·refine thn (T.item (cxC X N' sc s3 (upd H2 s2.heap.objs.size (.dK [])) fp (X.pn++pins)) rfl rfl rfl hc i [] s4 σ4 H4 _ J4 (stat fr4) st4 go) λr s5 zz=>?_
   obtain⟨u,hr,h5⟩:=zz
   subst hr
   refine thn h5 λ_ s6 zz=>?_
   obtain⟨x,H6,J6,r6,y6,st6,fr6⟩:=zz
   have J6':=J6.pinned (stat fr6) (T.obj _ _ st6)
   have back:∀{pl:YC} {σ7:St} {H7:Hp} {s7:Shared},Inv (cxC X N' sc s3 (upd H2 s2.heap.objs.size (.dK [])) fp (X.pn++pins)) ([]++Mh fp s6.heap) σ7 H7 s7->N σ7 H7 ->
     ∃m',m' < n/\∃i σ' H',Inv (cxC X N' sc s3 (upd H2 s2.heap.objs.size (.dK [])) fp (X.pn++pins)) [] σ' H' s7/\tn i s7.heap/\(∀b∈fp,H' b=none)/\W i m' σ' H':=λ{pl σ7 H7 s7} J7 w7=>by
    obtain⟨m',hm,w7⟩:=hN _ _ w7
    have pinned:∀b∈fp,∀o,s6.heap.get? b=some o->s7.heap.get? b=some o/\H7 b=none:=λb hb o e=>by
     have:=J7.pin (b,o) (QaA _ (QaA _ (Jt hb e)))
     exact⟨this.1,this.2.1⟩
    refine⟨m',hm,i+1,σ7,H7,J7.GX,T.keep _ _ _ st6 λb hb o e=>(pinned b hb o e).1,λb hb=>?_,w7⟩
    obtain⟨o,e,_⟩:=T.obj _ _ st6 b hb
    exact (pinned b hb o e).2
   refine thn (hg s3 _ fp _ _ s6 σ4 H6 x u _ J6' r6 (step x H6 y6)) λ_ s7 zz=>?_
   obtain⟨σ7,H7,J7,q7⟩:=zz
   refine thn (ht s3 _ fp _ _ s7 σ7 H7 _ J7 q7) λok s8 zz=>?_
   obtain⟨H8,J8,q8⟩:=zz
   cases ok with
   | false=>
    rw[if_neg QaT] at q8 ⊢
    exact back (pl:=[]) J8 q8
   | true=>
    rw[if_pos rfl] at q8 ⊢
    refine thn (hk s3 _ fp _ _ s8 σ7 H8 _ J8 q8) λy s9 zz=>?_
    obtain⟨yv,H9,J9,r9,q9⟩:=zz
    refine thn (hv s3 _ fp _ _ s9 σ7 H9 _ J9 q9) λz s10 zz=>?_
    obtain⟨zv,H10,J10,r10,kvs,k,hl,ey,hz,q10⟩:=zz
    subst ey
    refine jT (X:=cxC X N' sc s3 (upd H2 s2.heap.objs.size (.dK [])) fp (X.pn++pins)) J10 hl hz r9 r10 λs11 J11=>?_
    exact back (pl:=[]) J11 q10
 exact codeAny_compStart_dict loop (T.self X.A 0 _ _ _ st3 loop)
theorem mU {X:Cx} {N':YF} {src:List (Option Nat)} {sc:Scope} {kx vx tg iter:Expr} {ifs:YJ} {pos:Pos} {wi:TI} {g:TG} {tt:TT} {tk tv:TE} (hc:X.calm=true) (S:Bg X N' src sc)
  (hi:PI X tg iter wi) (hg:∀s3 H3 fp pn,PG (cxC X N' sc s3 H3 fp pn) tg g) (ht:∀s3 H3 fp pn,PF (cxC X N' sc s3 H3 fp pn) ifs tt) (hk:∀s3 H3 fp pn,PE (cxC X N' sc s3 H3 fp pn) kx tk) (hv:∀s3 H3 fp pn,PE (cxC X N' sc s3 H3 fp pn) vx tv)
  (hs:∀x,foldedSetIterable iter X.env x=pure x:=by intro _;rfl):PE X (.DictComp kx vx [⟨tg,iter,ifs,0⟩] sc pos) (Xg wi src g tt tk tv):=by
 intro pins s σ H Q I h
 rw[arm_eval_DictComp]
 refine Us (use:=none) hc S hi hg ht hk hv hs I h λs3 H3 fp σ4 H4 s5 l I3 f3 J5 q=>?_
 obtain⟨m,hn,_⟩:=J5.loc
 exact⟨m,hn,λh' sb=>⟨.ref l,H4,QD I3 f3 J5 sb,rfl,q⟩⟩
end L2
namespace PySem
open Sem (wp)
section
variable {prog:Program} {w:World} {A:Around} {E:YA} {s:Shared}
theorem M4 {it l:Addr} {i:Nat} {items:Array Value} {x:Value} {Q:YA} (hit:s.heap.IsTupleIter it l i) (hl:s.heap.IsTuple l items) (hx:items[i]?=some x)
  (hQ:∀h',h'.IsTupleIter it l (i+1)->Heap.SameBut it s.heap h'->Q x { s with heap:=h' }):wpAny (model prog w) A (Builtin.SmallTypes.nextOf (.ref it)) Q E s:=by
 obtain⟨o,ho,hc,hd⟩:=id hit
 obtain⟨ol,hol,_,nl,hdl⟩:=hl
 unfold Builtin.SmallTypes.nextOf
 refine Qcp (Qaq (name:=Str.ofString "__next__") hit.typeIs Qaa (Qbs Qaa hit.typeIs PyProof.Rows.entry_tupleiter_next ?_ (PyProof.Rows.args_tupleiter_next _)))
 show wpAny _ _ (field (.ref it) 0 >>= _) _ _ s
 refine Qcp (Qcn ho hd (x:=.ref l) rfl ?_)
 show wpAny _ _ (if (Value.ref l == Value.none)=true then _ else _) _ _ s
 rw[if_neg (show ¬((Value.ref l == Value.none)=true) from QaT)]
 show wpAny _ _ (field (.ref it) 1 >>= _) _ _ s
 refine Qcp (Qcn ho hd (x:=.int i 0) rfl ?_)
 show wpAny _ _ (seqItems? (.ref l) >>= _) _ _ s
 refine Qcp (QbQ hol hdl ?_)
 simp only[Qbh,hx]
 refine Qcp (wpAny_setField ho hd (by simp) (Qcq ⟨x,rfl,Qcq (hQ _ ?_ (QaO ..))⟩))
 exact⟨_,QaD _ ho (Obj.isFreed_of_fields (Obj.data_mapFields hd _)),(Obj.cls_mapFields ..).trans hc,by rw[Obj.data_mapFields hd];simp[rawInt]⟩
theorem JQ {it l:Addr} {i:Nat} {items:Array Value} {Q:YA} (hh:A.handled=none) (hit:s.heap.IsTupleIter it l i) (hl:s.heap.IsTuple l items) (hx:items[i]?=none)
  (hE:∀h' e,Heap.ExtBut it s.heap h'->(∃o,h'.get? e=some o/\o.cls=.type "StopIteration")->E (.ref e) { s with heap:=h' }):wpAny (model prog w) A (Builtin.SmallTypes.nextOf (.ref it)) Q E s:=by
 obtain⟨o,ho,hc,hd⟩:=id hit
 obtain⟨ol,hol,_,nl,hdl⟩:=hl
 unfold Builtin.SmallTypes.nextOf
 refine Qcp (Qaq (name:=Str.ofString "__next__") hit.typeIs Qaa (Qbs Qaa hit.typeIs PyProof.Rows.entry_tupleiter_next ?_ (PyProof.Rows.args_tupleiter_next _)))
 show wpAny _ _ (field (.ref it) 0 >>= _) _ _ s
 refine Qcp (Qcn ho hd (x:=.ref l) rfl ?_)
 show wpAny _ _ (if (Value.ref l == Value.none)=true then _ else _) _ _ s
 rw[if_neg (show ¬((Value.ref l == Value.none)=true) from QaT)]
 show wpAny _ _ (field (.ref it) 1 >>= _) _ _ s
 refine Qcp (Qcn ho hd (x:=.int i 0) rfl ?_)
 show wpAny _ _ (seqItems? (.ref l) >>= _) _ _ s
 refine Qcp (QbQ hol hdl ?_)
 simp only[Qbh,hx]
 refine Qcp (wpAny_rule (Qcp (wpAny_setField ho hd (by simp) ?_)))
 show wpAny _ _ (newExc (.type "StopIteration") [] >>= _) _ _ _
 refine Qcp ?_
 simp only[newExc,newTuple]
 refine Qcp (Qbk ?_ (by size_fits))
 refine Qcp (m:=firstArgMember _ _) (wpAny_of_eq (a:=Value.none) (by first | rfl | (simp only[firstArgMember];rfl)) ?_)
 refine Qbk ?_ (by size_fits)
 simp only[raiseNew]
 refine Qcp (wpAny_handled ?_)
 first | rw[show A.in1.handled=none from hh] | rw[hh]
 refine Qcp (Qcq (wpAny_throw ?_))
 exact hE _ _ (((QaO ..).extBut.push _).push _) ⟨_,QaI _ rfl,rfl⟩
theorem Zg {e it l:Addr} {i:Nat} {j:Int} {items:Array Value} {old:Value} {Q:Option Value->Shared->Prop} (hh:A.handled=none) (he:IsEnum s.heap e it j old) (hit:s.heap.IsTupleIter it l i) (hl:s.heap.IsTuple l items) (hx:items[i]?=none)
  (hQ:∀h',Heap.ExtBut it s.heap h'->Q none { s with heap:=h' }):wpAny (model prog w) A (pyNext (.ref e)) Q E s:=by
 have hT:s.TypeIs (.ref e) "enumerate":=⟨_,he,rfl⟩
 unfold pyNext
 refine Qcp (QbZ (Qaq (name:=Str.ofString "__next__") hT F.slot_enumerate_next (Qbs F.slot_enumerate_next hT F.entry_enumerate_next ?_ (F.args_enumerate_next_1 _))))
 show wpAny _ _ (field (.ref e) 2 >>= _) _ _ _
 refine Qcp (Qcn he rfl (x:=.ref it) rfl (Qcp (JQ hh hit hl hx λh' x he' hx'=>?_)))
 obtain⟨o,ho,hc⟩:=hx'
 exact Qcp (wpAny_isInstance (T:="StopIteration") (b:=true) ⟨o,ho,hc⟩ isSubtype_stop (Qcq (hQ _ he')))
end
theorem Draws.tup {prog:Program} {w:World} {A:Around} (hh:A.handled=none) (it l:Addr) (hne:l≠it) (items:Array Value) :
  Draws prog w A it [it,l] items.size (λi v=>items[i]?=some v) (λi h=>h.IsTupleIter it l i/\h.IsTuple l items) where
 live:=λ_ _ st=>let ⟨o,ho,_⟩:=st.1;⟨o,ho⟩
 frame:=λ_ _ _ st hk=>⟨st.1.at λo e=>hk it (by simp) o e,let ⟨o,e,r⟩:=st.2;⟨o,hk l (by simp) o e,r⟩⟩
 item:=λi s Q E hi st hQ=>M4 st.1 st.2 (x:=items[i]) (by simp[hi]) λh' hit' hs'=>hQ _ h' s.toks (by simp[hi]) ⟨hit',let ⟨o,e,r⟩:=st.2;⟨o,hs'.extBut _ _ hne e,r⟩⟩ hs'
 done:=λs Q E st hE=>JQ hh st.1 st.2 (by simp) hE
theorem Draws.from {prog:Program} {w:World} {A:Around} {it:Addr} {fp:List Addr} {n:Nat} {P:Nat->Value->Prop} {St:Nat->Heap->Prop} (D:Draws prog w A it fp n P St) (k:Nat) :
  Draws prog w A it fp (k+n) (λj v=>∃i,j=k+i/\P i v) (λj h=>∃i,j=k+i/\i<=n/\St i h) where
 live:=λ_ _ ⟨i,_,_,st⟩=>D.live i _ st
 frame:=λ_ _ _ ⟨i,e,hi,st⟩ hk=>⟨i,e,hi,D.frame i _ _ st hk⟩
 item:=λj s Q E hj ⟨i,e,hi,st⟩ hQ=>D.item i s Q E (by omega) st λx h' tk p st' sb=>hQ x h' tk ⟨i,e,p⟩ ⟨i+1,by omega,by omega,st'⟩ sb
 done:=λs Q E ⟨i,e,hi,st⟩ hE=>by
  have:i=n:=by omega
  subst this
  exact D.done s Q E st hE
end PySem
namespace L2
open PySem PySem.Spec PyProof.Rows
section
variable {X:Cx} {pins:YC} {σ : St} {H:Hp} {s:Shared} {h':Heap}
theorem Inv.Mz {t':Nat} {fp:List Addr} {t:Addr} {o:HO} (I:Inv X pins σ H s) (ht:s.heap.objs.size<=t) (k:∀b u,b∉fp->s.heap.get? b=some u->h'.get? b=some u) (hf:∀b∈fp,Gf X pins H b) (new:Bs X.prog X.w (upd H t o) h' t o) :
  Inv X pins σ (upd H t o) { s with heap:=h',toks:=t' }:=by
 have nt:=I.hok.fresh ht
 have old:∀b u,s.heap.get? b=some u->b≠t:=λb u e z=>absurd (QaV (Qcb e) ht) (by rw[z];exact QbV _)
 have nf:∀b u,H b=some u->b∉fp:=λb u e z=>by rw[(hf b z).1] at e;cases e
 have tr:∀b u,H b=some u->(upd H t o) b=some u:=λb u e=>by rw[Al (Ar e nt)];exact e
 refine I.step (g':=s.gens) (d':=s.drawn) (ch:=fp) (λb hb=>?_) (λb u _ _ hc e _=>k b u hc e) (λb u _ _ hc e _=>⟨u.slots,k b u hc e⟩) (λb u hc e n=>by rw[Al (old b u e)];exact n)
  (λb u hc e=>⟨u,k b u hc e⟩) (λ_ _ e=>tr _ _ e) (λ_ _ _ e=>tr _ _ e) (λb ps e=>⟨#[],by rw[tr _ _ e];simp⟩) (λm hm=>?_) (λb u e=>?_) I.bare
 ·obtain⟨_,f1,_,f3,f4,f5⟩:=hf b hb
  exact⟨f3,f1,f4,f5⟩
 ·obtain⟨u,es,ep,hu,r⟩:=hm
  exact⟨u,es,ep,k _ u (λz=>(hf _ z).2.1 rfl) hu,r⟩
 ·by_cases hb:b=t
  ·subst hb
   rw[Ab] at e
   cases e
   exact new
  ·rw[Al hb] at e
   refine (I.hok b u e).stay (λc v hc q=>k c v ?_ q) (λc q=>tr _ _ q) λc xs q=>tr _ _ q
   rcases hc with z | z
   ·rw[z];exact nf b u e
   ·exact nf c _ z
theorem Inv.Le {t':Nat} {fp:List Addr} (I:Inv X pins σ H s) (k:∀b u,b∉fp->s.heap.get? b=some u->h'.get? b=some u) (hf:∀b∈fp,Gf X pins H b):Inv X pins σ H { s with heap:=h',toks:=t' }:=by
 have nf:∀b u,H b=some u->b∉fp:=λb u e z=>by rw[(hf b z).1] at e;cases e
 refine I.step (g':=s.gens) (d':=s.drawn) (ch:=fp) (λb hb=>?_) (λb u _ _ hc e _=>k b u hc e) (λb u _ _ hc e _=>⟨u.slots,k b u hc e⟩) (λb u hc e n=>n)
  (λb u hc e=>⟨u,k b u hc e⟩) (λ_ _ e=>e) (λ_ _ _ e=>e) (λb ps e=>⟨#[],by rw[e];simp⟩) (λm hm=>?_) (λb u e=>?_) I.bare
 ·obtain⟨_,f1,_,f3,f4,f5⟩:=hf b hb
  exact⟨f3,f1,f4,f5⟩
 ·obtain⟨u,es,ep,hu,r⟩:=hm
  exact⟨u,es,ep,k _ u (λz=>(hf _ z).2.1 rfl) hu,r⟩
 ·refine (I.hok b u e).stay (λc v hc q=>k c v ?_ q) (λ_ q=>q) λ_ _ q=>q
  rcases hc with z | z
  ·rw[z];exact nf b u e
  ·exact nf c _ z
end
def Mx (K:YD) (a:Addr) (lo:Nat):It:=
 ⟨λi H=>∃xs x,SqT K H a xs/\xs[i]?=some x,λi H v H'=>∃p x,H p=none/\v=.ref p/\H'=upd H p (.tup [.int ((lo+i:Nat):Int),x])/\∀xs,SqT K H a xs->xs[i]?=some x,λi H=>∃xs,SqT K H a xs/\xs.length<=i⟩
theorem cV {P:Program} {w:World} {K:YD} {elts:YJ} {k:Nat} {pos:Pos} (a e it:Addr) (lo:Nat) (nei:e≠it):Turn P w K (.Tuple elts k pos) (Mx K a lo) [e,it] e (λi h=>(∃old,IsEnum h e it ((lo+i:Nat):Int) old)/\h.IsTupleIter it a i) where
 mem:=by simp
 obj:=λi h st b hb=>by
  obtain⟨⟨old,he⟩,o,ho,hc,hd⟩:=st
  rcases QbT.mp hb with rfl | hb
  ·exact⟨_,he,λv z=>by cases (show Data.fields _=Data.cell v from z)⟩
  ·have:b=it:=by simpa using hb
   subst this
   exact⟨o,ho,λv z=>by rw[hd] at z;cases z⟩
 keep:=λi h h' st k=>by
  obtain⟨⟨old,he⟩,hi⟩:=st
  exact⟨⟨old,k e (by simp) _ he⟩,hi.at λo q=>k it (by simp) o q⟩
 item:=by
  intro X hP hw hK hc i pins s σ H E I hf st hg
  subst hP hw hK
  obtain⟨xs,x,hq,hx⟩:=hg
  obtain⟨its,rv,p,hz⟩:=I.tuple hq
  obtain⟨u,hu,ru⟩:=rv.get hx
  obtain⟨⟨old,he⟩,hit⟩:=st
  have hts:s.heap.IsTuple a its.toArray:=p
  have ane:a≠e:=λz=>by
   obtain⟨o,ho,hcl,_⟩:=hts
   rw[z,he] at ho
   cases ho
   injection hcl with q
   exact absurd q (by decide)
  have ani:a≠it:=λz=>by
   obtain⟨o,ho,hcl,_⟩:=hts
   obtain⟨o',ho',hcl',_⟩:=hit
   rw[z,ho'] at ho
   cases ho
   rw[hcl'] at hcl
   injection hcl with q
   exact absurd q (by decide)
  have hlt:i < its.toArray.size:=by
   have:=(Qag.mp hu).1
   simpa using this
  have D:=(Draws.tup (prog:=X.prog) (w:=X.w) (A:=X.A.in1) (I.ok.hd hc) it a ani its.toArray).from lo
  refine wpAny_pyNext_enum_itemD D he ⟨i,rfl,Qci hlt,hit,hts⟩ (by omega) nei (by simp[nei,ane.symm]) λy h1 tk hP ho hst hT hsz hk=>?_
  obtain⟨i',ei,hy⟩:=hP
  have:i'=i:=by omega
  subst this
  have ey:y=u:=by
   have h2:its.toArray[i']?=some u:=by simpa using hu
   rw[h2] at hy
   exact (QbD hy).symm
  subst ey
  refine⟨_,rfl,wpAny_letOwnedTupleGo_enum ho λh2 he2 hs2=>?_⟩
  have hlt2:s.heap.objs.size≠e:=Qcg (Qcb he)
  have hT2:h2.get? s.heap.objs.size=some { cls:=.type "tuple",data:=.seq #[.int ((lo+i':Nat):Int) tk,y] }:=(hs2.2 _ hlt2).trans hT
  have new:Bs X.prog X.w (upd H s.heap.objs.size (.tup [.int ((lo+i':Nat):Int),x])) h2 s.heap.objs.size (.tup [.int ((lo+i':Nat):Int),x]):=
   ⟨by show 2<=sizeLine;decide,[.int ((lo+i':Nat):Int) tk,y],.cons ⟨tk,rfl⟩ (.cons ru .nil),_,hT2,rfl,0,rfl⟩
  have I1:=I.Mz (h':=h2) (t':=tk+1) (Qck _) (λb q hb z=>(hs2.2 b (λw=>hb (by simp[w]))).trans (hk b q (λw=>hb (by simp[w])) (λw=>hb (by simp[w])) z)) hf new
  refine⟨.ref s.heap.objs.size,_,I1,rfl,⟨s.heap.objs.size,x,I.hok.fresh (Qck _),rfl,rfl,λys hy'=>by rw[I.VJ hy' hq];exact hx⟩,⟨⟨y,?_⟩,?_⟩,λb hb=>?_⟩
  ·have:=he2
   rw[show ((lo+(i'+1):Nat):Int)=((lo+i':Nat):Int)+1 by omega]
   exact this
  ·obtain⟨i2,e2,_,st2,_⟩:=hst
   have:i2=i'+1:=by omega
   subst this
   exact st2.at λo q=>(hs2.2 it (Ne.symm nei)).trans q
  ·have hb':b < s.heap.objs.size:=by
    rcases QbT.mp hb with rfl | hb
    ·exact Qcb he
    ·have:b=it:=by simpa using hb
     subst this
     obtain⟨o,ho',_⟩:=hit
     exact Qcb ho'
   rw[Al (Qcd hb')]
   exact (hf b hb).1
 done:=by
  intro X hP hw hK hc i pins s σ H E I hf st hg
  subst hP hw hK
  obtain⟨xs,hq,hx⟩:=hg
  obtain⟨its,rv,p,hz⟩:=I.tuple hq
  obtain⟨⟨old,he⟩,hit⟩:=st
  have hl:=rv.length
  exact Zg (I.ok.hd hc) he hit (show s.heap.IsTuple a its.toArray from p) (by simp;omega) λh' eb=>⟨rfl,I.Le (t':=s.toks) (λb o hb q=>eb b o (λz=>hb (by simp[z])) q) hf⟩
 self:=λ_ _ _ _ _ st h=>let ⟨⟨_,he⟩,_⟩:=st;wpAny_pyIter_enum he h
end L2
namespace PySem
open Sem (wp)
open AutoSeq1 (wpAny_loadPart')
theorem Vm (l:Addr) (items:Array Value) (n:Nat) (dct:Option Addr) (sl:YI) :
  Meets (Builtin.«enumerate.__new__» ⟨[.type "enumerate",.ref l],[]⟩) (λ_ R s=>s.heap.get? l=some { cls:=.type "tuple",dict:=dct,data:=.seq items n,slots:=sl } /\
   R (.ok (.ret (.ref (s.heap.push { cls:=.type "tuple_iterator",data:=.fields #[.ref l,.int 0 0] }).objs.size)))
    { s with heap:=(s.heap.push { cls:=.type "tuple_iterator",data:=.fields #[.ref l,.int 0 0] }).push { cls:=.type "enumerate",data:=.fields #[.none,.bool false,.ref s.heap.objs.size,rawInt 0,.none,.none] } }):=
 .of_wp λprog w A R s h=>by
  obtain⟨hp,g,d,tk,os⟩:=s;obtain⟨hl,h⟩:=h
  have hsub:=sub_enumerate
  have hL:Heap.IsTuple (Shared.heap ⟨hp,g,d,tk,os⟩) l items:=⟨_,hl,rfl,n,rfl⟩
  wp_walk using wpAny_loadPart' hl
  refine wpAny_stack_any λst=>Qcq ?_
  split
  ·rename_i c _ _ _ _ _
   cases (c == Value.type "enumerate")
   ·wp_walk using wpAny_loadPart' hl,QaX hL
    exact⟨_,rfl,h⟩
   ·wp_walk using wpAny_loadPart' hl,QaX hL
    exact⟨_,rfl,h⟩
  ·wp_walk using wpAny_loadPart' hl,QaX hL
   exact⟨_,rfl,h⟩
theorem T9 (l:Addr) (items:Array Value) (n:Nat) (dct:Option Addr) (sl:YI) (t:Tok) :
  Meets (Builtin.«enumerate.__new__» ⟨[.type "enumerate",.ref l],[("start",.int 1 t)]⟩) (λ_ R s=>s.heap.get? l=some { cls:=.type "tuple",dict:=dct,data:=.seq items n,slots:=sl } /\
   R (.ok (.ret (.ref (s.heap.push { cls:=.type "tuple_iterator",data:=.fields #[.ref l,.int 0 0] }).objs.size)))
    { s with heap:=(s.heap.push { cls:=.type "tuple_iterator",data:=.fields #[.ref l,.int 0 0] }).push { cls:=.type "enumerate",data:=.fields #[.none,.bool false,.ref s.heap.objs.size,rawInt 1,.none,.none] } }):=
 .of_wp λprog w A R s h=>by
  obtain⟨hp,g,d,tk,os⟩:=s;obtain⟨hl,h⟩:=h
  have hsub:=sub_enumerate
  have hL:Heap.IsTuple (Shared.heap ⟨hp,g,d,tk,os⟩) l items:=⟨_,hl,rfl,n,rfl⟩
  wp_walk using wpAny_loadPart' hl
  refine wpAny_stack_any λst=>Qcq ?_
  split
  ·rename_i c _ _ _ _ _
   cases (c == Value.type "enumerate")
   ·wp_walk using wpAny_loadPart' hl,QaX hL
    exact⟨_,rfl,h⟩
   ·wp_walk using wpAny_loadPart' hl,QaX hL
    exact⟨_,rfl,h⟩
  ·wp_walk using wpAny_loadPart' hl,QaX hL
   exact⟨_,rfl,h⟩
end PySem
namespace PySem
open Sem (wp)
section
variable {prog:Program} {w:World} {A:Around} {E:YA} {s:Shared}
theorem Vj {T newId:String} {self:Value} {rest:YE} {kw:List (Str×Value)} (hl:typeLookup (.type T) "__init__"=pure (some (.builtin "object.__init__")))
  (hm:Bind.madeBy (.type T)=pure (some newId)) (hne:(some newId != some "object.__new__")=true) :
  Meets (Builtin.«object.__init__» ⟨self::rest,kw⟩) (λ_ R s=>s.TypeIs self T/\R (.ok (.ret .none)) s):=by
 refine Meets.of_wp λprog w A R s hs=>?_
 obtain⟨hT,hq⟩:=hs
 cases rest with
 | nil=>
  cases kw with
  | nil=>exact Qcq ⟨_,rfl,hq⟩
  | cons k kw=>
   repeat (any_goals (first | assumption | wp_step))
   exact⟨_,rfl,hq⟩
 | cons a rest=>
  repeat (any_goals (first | assumption | wp_step))
  exact⟨_,rfl,hq⟩
theorem j4 {T newId:String} {Bn:Builtin} {args:YE} {kw:List (Str×Value)} {S:Spec} {Q:YA} (ft:TypeCalled T newId "object.__init__") (hne:(some newId != some "object.__new__")=true)
  (hct:checkTypeCall T ⟨args,kw⟩=pure ()) (hcn:checkBuiltinCall newId ⟨.type T::args,kw⟩=pure ()) (hok:∀obj,argsOk "object.__init__" ⟨obj::args,kw⟩)
  (entryN:entryFor table newId=some Bn) (g:Meets (Bn ⟨.type T::args,kw⟩) S) (h:S A.in1 (wants (λobj s₁=>s₁.TypeIs obj T/\Q obj s₁) E) s) :
  wpAny (model prog w) A (call (.type T) args kw) Q E s:=by
 obtain⟨c,tl,hmro⟩:=ft.mro
 have hmade:=ft.made
 have hsub:=ft.sub
 refine wpAny_call (codeAny_of_tree ?_)
 show wpAny _ _ (callAny (.type T) _) _ _ _
 refine Qcq ⟨Code.quiet_builtin _ (by trivial),codeAny_builtin F.entry_type_call ?_⟩
 rw[Around.under_plain (weight_type_call_type T args kw) (units_type_call_type T args kw)]
 have h1:=ft.notType
 have h2:=ft.canCreate
 repeat (any_goals (first | assumption | wp_step))
 refine codeAny_mono (codeAny_call_builtin ft.plain entryN (wpAny_of_eq hcn (g prog w A.in1 _ s h))) λr s₁ hr=>?_
 cases r with
 | error e=>exact hr
 | ok fl=>
  cases fl with
  | ret obj=>
   obtain⟨hT,hq⟩:=hr
   have hli:=ft.init.lookup
   have hbi:=ft.init.bind obj
   repeat (any_goals (first | assumption | wp_step))
   refine codeAny_mono (codeAny_call_builtin ft.init.plain F.entry_object_init (ft.init.check _ _ _ _ _ _ _ _ hT (hok obj) (Vj ft.init.lookup ft.made hne prog w A.in1 (wants (λr s₂=>r=.none/\Q obj s₂) E) s₁ ⟨hT,rfl,hq⟩))) λr₂ s₂ hr₂=>?_
   cases r₂ with
   | error e=>exact hr₂
   | ok fl₂=>
    cases fl₂ with
    | ret r=>
     obtain⟨rfl,hq2⟩:=hr₂
     repeat (any_goals (first | assumption | wp_step))
    | _=>exact hr₂.elim
  | _=>exact hr.elim
end
end PySem
namespace PyProof.Rows
open PySem
section
variable {M:Model} {A:Around} {E:YA} {s:Shared} {env:Env}
theorem Ut {pos:Pos} {T:String} {e:Expr} {rest:YJ} {kws:List Keyword} {Q:YA}
  (h:wpAny M A (spliced (backTo pos (starEach (e::rest) env))) (λvs s₁=>wpAny M A (evalAll ((backToKw pos (keywordEach kws env)).map (·.2))) (λkvs s₂=>wpAny M A (call (.type T) vs (((backToKw pos (keywordEach kws env)).filterMap (·.1)).zip kvs)) Q E s₂) E s₁) E s)
  (he:backTo pos (starEach (e::rest) env)=(false,eval e env)::backTo pos (starEach rest env):=by rfl) (hplain:(backTo pos (starEach (e::rest) env)).any (·.1)=false:=by rfl)
  (hall:(backToKw pos (keywordEach kws env)).all (·.1.isSome)=true:=by rfl) (hkw:(backToKw pos (keywordEach kws env)).any (·.1.isNone)=false:=by rfl) :
  wpAny M A (callWith pos (.type T) [] (backTo pos (starEach (e::rest) env)) (backToKw pos (keywordEach kws env))) Q E s:=by
 have h2:wpAny M A (evalArgs (.type T) true (backTo pos (starEach (e::rest) env)) (backToKw pos (keywordEach kws env))) (λa s₁=>wpAny M A (call (.type T) ([]++a.pos) a.kw) Q E s₁) E s:=by
  rw[he] at h ⊢
  exact evalArgs_kwB hall h
 unfold callWith
 refine Qcp (QbW (Qcr h2 (λa s₁ h₁=>Qcp (QbY ?_)) λ_ _ x=>x))
 simp only[hplain,hkw,Bool.or_false]
 exact Qcp (Qcq (Qcp (Qcr h₁ (λr s₂ hr=>Qcp (QbW (wpAny_point (Qcq hr)))) λ_ _ x=>x)))
end
end PyProof.Rows
namespace L2
open PySem PySem.Spec PyProof.Rows
section
variable {X:Cx}
theorem cF {pins:YC} {σ : St} {H:Hp} {s:Shared} {R:It->Hp->Prop} {E:YA} {elts:YJ} {k:Nat} {pos:Pos} {a:Addr} {lo:Nat} {tk:Nat} (I:Inv X pins σ H s) (q:R (Mx X.K a lo) H) :
  wpAny (model X.prog X.w) X.A (pyIter (.ref (s.heap.objs.size+1))) (PIE X pins σ (.Tuple elts k pos) R) E
   { s with heap:=(s.heap.push { cls:=.type "tuple_iterator",data:=.fields #[.ref a,.int 0 0] }).push { cls:=.type "enumerate",data:=.fields #[.none,.bool false,.ref s.heap.objs.size,rawInt (lo:Int),.none,.none] },toks:=tk }:=by
 have hz:(s.heap.push { cls:=.type "tuple_iterator",data:=.fields #[.ref a,.int 0 0] }).objs.size=s.heap.objs.size+1:=QbO ..
 have he:IsEnum ((s.heap.push { cls:=.type "tuple_iterator",data:=.fields #[.ref a,.int 0 0] }).push { cls:=.type "enumerate",data:=.fields #[.none,.bool false,.ref s.heap.objs.size,rawInt (lo:Int),.none,.none] }) (s.heap.objs.size+1) s.heap.objs.size (lo:Int) .none:=by
  have:=QaI (s.heap.push { cls:=.type "tuple_iterator",data:=.fields #[.ref a,.int 0 0] }) (o:={ cls:=.type "enumerate",data:=.fields #[.none,.bool false,.ref s.heap.objs.size,rawInt (lo:Int),.none,.none] }) rfl
  rw[hz] at this
  exact this
 refine wpAny_pyIter_enum he ⟨s.heap.objs.size+1,[s.heap.objs.size+1,s.heap.objs.size],_,_,H,rfl,I.kept (t':=tk) λb o e=>Qav _ (Qav _ e),cV a (s.heap.objs.size+1) s.heap.objs.size lo (Nat.succ_ne_self _),⟨⟨.none,he⟩,⟨_,Qav _ (QaI _ rfl),rfl,rfl⟩⟩,λb hb=>?_,q⟩
 have hb':s.heap.objs.size<=b:=by
  simp only[QbT,Qbr,Qct] at hb
  rcases hb with rfl | rfl
  ·exact Nat.le_succ _
  ·exact Qck _
 exact I.O6 hb' (I.hok.fresh hb')
end
section
variable {X:Cx}
def pZ (K:YD) (lo:Nat) (tl:TE):TI:=fun σ H R=>tl σ H λx H1=>∃a,x=.ref a/\(∃xs,SqT K H1 a xs)/\R (Mx K a lo) H1
theorem fQ {pins:YC} {σ : St} {H:Hp} {s:Shared} {R:It->Hp->Prop} {elts:YJ} {k:Nat} {pos:Pos} {a:Addr} {xs:YG} (I:Inv X pins σ H s) (hq:SqT X.K H a xs) (q:R (Mx X.K a 0) H) :
  wpAny (model X.prog X.w) X.A (call (.type "enumerate") [.ref a]) (λv s1=>wpAny (model X.prog X.w) X.A (pyIter v) (PIE X pins σ (.Tuple elts k pos) R) X.xe s1) X.xe s:=by
 obtain⟨its,rv,p,hz⟩:=I.tuple hq
 obtain⟨⟨c,dct,dt,sl⟩,hl,hc,n,hd⟩:=id p
 replace hc:c=.type "tuple":=hc
 replace hd:dt=.seq its.toArray n:=hd
 subst hc hd
 refine callType_new F.called_enumerate (by decide) (F.typeCall_enumerate_1 _) (F.newCall_enumerate_1 _) (λobj=>F.args_object_init_2 obj _) F.entry_enumerate_new (Vm a its.toArray n dct sl) ⟨hl,?_⟩
 have hz:(s.heap.push { cls:=.type "tuple_iterator",data:=.fields #[.ref a,.int 0 0] }).objs.size=s.heap.objs.size+1:=QbO ..
 show _/\_
 refine⟨⟨_,QaI _ rfl,rfl⟩,?_⟩
 rw[hz]
 exact cF (lo:=0) (tk:=s.toks) I q
end
section
variable {X:Cx}
theorem RZ {x:Expr} {tx:TE} {p pos tp:Pos} {elts:YJ} {k:Nat} (hg:Gl X "enumerate") (hm:X.mg "enumerate"=none) (hl:PE X x tx) (hs:starEach [x] X.env=[(false,eval x X.env)]:=by rfl):PI X (.Tuple elts k tp) (.Call (.Name "enumerate" p) [x] [] pos) (pZ X.K 0 tx):=by
 intro pins s σ H R I h
 refine Call_ (KD I hg hm boot_enumerate (Qae (thn ((Aa hl Ac (by rw[hs];rfl)) pos pins s σ H (λvs H1=>match vs with | [v]=>∃a,v=.ref a/\(∃xs,SqT X.K H1 a xs)/\R (Mx X.K a 0) H1 | _=>False) I h) λus s1 ⟨vs,H1,I1,r1,q1⟩=>?_) hs rfl))
 cases r1 with
 | nil=>exact False.elim q1
 | cons r rr=>
  cases rr with
  | nil=>
   obtain⟨a,e,⟨xs,hq⟩,q⟩:=q1
   subst e
   cases r
   exact fQ I1 hq q
  | cons _ _=>exact False.elim q1
theorem fP {pins:YC} {σ : St} {H:Hp} {s:Shared} {R:It->Hp->Prop} {elts:YJ} {k:Nat} {pos:Pos} {a:Addr} {xs:YG} {t:Tok} (I:Inv X pins σ H s) (hq:SqT X.K H a xs) (q:R (Mx X.K a 1) H) :
  wpAny (model X.prog X.w) X.A (call (.type "enumerate") [.ref a] [("start",.int 1 t)]) (λv s1=>wpAny (model X.prog X.w) X.A (pyIter v) (PIE X pins σ (.Tuple elts k pos) R) X.xe s1) X.xe s:=by
 obtain⟨its,rv,p,hz⟩:=I.tuple hq
 obtain⟨⟨c,dct,dt,sl⟩,hl,hc,n,hd⟩:=id p
 replace hc:c=.type "tuple":=hc
 replace hd:dt=.seq its.toArray n:=hd
 subst hc hd
 refine j4 F.called_enumerate (by decide) (by kernel_rfl) (by kernel_rfl) (λobj=>?ok) F.entry_enumerate_new (T9 a its.toArray n dct sl t) ⟨hl,?_⟩
 case ok=>
  unfold argsOk
  rw[signature?_of (id:="object.__init__") (n:=['_','_','t','i','n','i','_','_']) (o:=['t','c','e','j','b','o']) (by kernel_rfl) F.owner_object]
  kernel_rfl
 have hz:(s.heap.push { cls:=.type "tuple_iterator",data:=.fields #[.ref a,.int 0 0] }).objs.size=s.heap.objs.size+1:=QbO ..
 show _/\_
 refine⟨⟨_,QaI _ rfl,rfl⟩,?_⟩
 rw[hz]
 exact cF (lo:=1) (tk:=s.toks) I q
theorem Mi {x one:Expr} {tx:TE} {p pos tp kp:Pos} {elts:YJ} {k:Nat} (hg:Gl X "enumerate") (hm:X.mg "enumerate"=none) (hl:PE X x tx) (h1:PE X one (tC (.int 1))) (hs:starEach [x] X.env=[(false,eval x X.env)]:=by rfl)
  (hall:(backToKw pos (keywordEach [⟨some "start",one,kp⟩] X.env)).all (·.1.isSome)=true:=by rfl) (hkw:(backToKw pos (keywordEach [⟨some "start",one,kp⟩] X.env)).any (·.1.isNone)=false:=by rfl)
  (hks:(backToKw pos (keywordEach [⟨some "start",one,kp⟩] X.env)).filterMap (·.1)=(["start"]:YF):=by rfl) :
  PI X (.Tuple elts k tp) (.Call (.Name "enumerate" p) [x] [⟨some "start",one,kp⟩] pos) (pZ X.K 1 tx):=by
 intro pins s σ H R I h
 refine Qbd (KD I hg hm boot_enumerate (PyProof.Rows.Ut (thn ((Aa hl Ac (by rw[hs];rfl)) pos pins s σ H (λvs H1=>match vs with | [v]=>∃a,v=.ref a/\(∃xs,SqT X.K H1 a xs)/\R (Mx X.K a 1) H1 | _=>False) I h) λus s1 ⟨vs,H1,I1,r1,q1⟩=>?_) (by rw[hs];rfl) (by rw[hs];rfl) hall hkw))
 refine thn ((qP h1 uO) pos pins s1 σ H1 (λks H2=>H2=H1/\ks=[.int 1]) I1 ⟨rfl,rfl⟩) λws s2 zz=>?_
 obtain⟨zs,H2,I2,rz,e2,ez⟩:=zz
 subst e2 ez
 cases rz with
 | cons rz1 rz2=>
  cases rz2
  obtain⟨t,rfl⟩:=rz1
  rw[hks]
  cases r1 with
  | nil=>exact False.elim q1
  | cons r rr=>
   cases rr with
   | nil=>
    obtain⟨a,e,⟨xs,hq⟩,q⟩:=q1
    subst e
    cases r
    exact fP I2 hq q
   | cons _ _=>exact False.elim q1
theorem Iz {K:YD} {a:Addr} {lo:Nat} {xs:YG} {g:TG} {tb:TS} {D:Ends} {σ : St} {H:Hp} (Pv:YN) (h0:Pv 0 σ H) (hl:∀i σ H',i<=xs.length->Pv i σ H'->SqT K H' a xs)
  (hs:∀i x p σ H',xs[i]?=some x->Pv i σ H'->H' p=none->g (.ref p) σ (upd H' p (.tup [.int ((lo+i:Nat):Int),x])) fun σ2 H2=>tb { D with nx:=Pv (i+1),ct:=Pv (i+1),bk:=D.nx } σ2 H2) (hd:∀ σ H',Pv xs.length σ H'->D.nx σ H') :
  ∃W:Nat->YN,(∃m,W 0 m σ H)/\∀i m σ H,W i m σ H ->
   ((Mx K a lo).stop i H/\D.nx σ H)\/((Mx K a lo).go i H/\∃N:YO,(∀ σ' H',N σ' H'->∃m',m' < m/\W (i+1) m' σ' H')/\∀x H',(Mx K a lo).yld i H x H'->g x σ H' fun σ2 H2=>tb { D with nx:=N,ct:=N,bk:=D.nx } σ2 H2):=by
 refine⟨λi m σ H=>m=xs.length - i/\i<=xs.length/\Pv i σ H,⟨xs.length,by simp,Qcl _,h0⟩,?_⟩
 rintro i m σ H ⟨rfl,hi,p⟩
 have q:=hl i σ H hi p
 by_cases hlt:i < xs.length
 ·refine .inr ⟨⟨xs,xs[i],q,by simp[hlt]⟩,Pv (i+1),fun σ3 H3 p'=>⟨xs.length - (i+1),by omega,rfl,hlt,p'⟩,λv H2 y=>?_⟩
  obtain⟨pa,x,hn,rfl,rfl,hx⟩:=y
  exact hs i x pa σ _ (hx xs q) p hn
 ·have e:i=xs.length:=by omega
  subst e
  exact .inl ⟨⟨xs,q,Qck _⟩,hd σ H p⟩
theorem jV {K:YD} {a l:Addr} {lo:Nat} {xs:YG} {g:TG} {tt:TT} {te:TE} {Q:VK} {σ0:St} {H0:Hp} (Pv:YN)
  (h0:Pv 0 σ0 H0) (hl:∀i σ H',i<=xs.length->Pv i σ H'->SqT K H' a xs)
  (hs:∀i x p σ H',xs[i]?=some x->Pv i σ H'->H' p=none->g (.ref p) σ (upd H' p (.tup [.int ((lo+i:Nat):Int),x])) fun σ3 H3=>tt σ3 H3 λb H4=>if b=true then te σ3 H4 λy H5=>∃ys,H5 l=some (.lst ys)/\ys.length < sizeLine/\Pv (i+1) σ3 (upd H5 l (.lst (ys++[y]))) else Pv (i+1) σ3 H4)
  (hd:∀ σ H',Pv xs.length σ H'->Q (.ref l) H'):Fj (Mx K a lo) g tt te Q σ0 H0 l:=by
 unfold Fj
 refine⟨λi m σ H'=>m=xs.length - i/\i<=xs.length/\Pv i σ H',⟨xs.length,by simp,Qcl _,h0⟩,?_⟩
 rintro i m σ H' ⟨rfl,hi,p⟩
 have q:=hl i σ H' hi p
 by_cases hlt:i < xs.length
 ·refine .inr ⟨⟨xs,xs[i],q,by simp[hlt]⟩,Pv (i+1),fun σ3 H3 p'=>⟨xs.length - (i+1),by omega,rfl,hlt,p'⟩,λv H2 y=>?_⟩
  obtain⟨pa,x,hn,rfl,rfl,hx⟩:=y
  exact hs i x pa σ _ (hx xs q) p hn
 ·have e:i=xs.length:=by omega
  subst e
  exact .inl ⟨⟨xs,q,Qck _⟩,hd σ H' p⟩
end
section
variable {X:Cx}
theorem range_any (bs:List Bool):((List.range bs.length).any λi=>(bs[i]?).getD false)=bs.any id:=by
 induction bs with
 | nil=>rfl
 | cons b r ih=>
  rw[Qbp,List.range_succ_eq_map,QbX,List.any_map,QbX]
  show ((some b).getD false || _)=_
  rw[show ((λi=>((b::r)[i]?).getD false) ∘ Nat.succ)=λi=>(r[i]?).getD false from by funext i;simp[Function.comp]]
  rw[ih]
  rfl
theorem oY (hc:X.calm=true):Fi X (.builtin "any") (λxs H Q=>∃(p:Addr) (bs:List Bool),xs=[.ref p]/\SqL X.K H p (bs.map V.bl)/\Q (.bl (bs.any id)) H):=by
 intro pins s σ H xs us Q I r h
 obtain⟨p,bs,rfl,hq,q⟩:=h
 obtain⟨u,rfl,rx⟩:=vals1 r
 cases rx
 obtain⟨its,rv,pl,hz⟩:=I.list hq
 have hb:=S6 rv
 have hl:=pl.isList
 have hlt:p < s.heap.objs.size:=by obtain⟨_,e,_⟩:=hl;exact Qcb e
 refine call_any_walk (Qbn hl ?_)
 refine⟨s.heap.objs.size,[s.heap.objs.size,p],[s.heap.objs.size],its.toArray.size,_,_,λi=>(bs[i]?).getD false,rfl,Walks.list (A:=X.A.in1) (I.ok.hd hc) _ p (Qcd hlt) its.toArray,
  ⟨⟨_,QaI _ rfl,rfl,rfl⟩,hl.push _⟩,λi v s' Q' E' hP hQ=>?_,λh' tk hk=>?_⟩
 ·obtain⟨b,e,rfl⟩:=hb.get i v (by simpa using hP)
  simp only[e,Option.getD_some] at hQ
  exact Qbj hQ
 ·have e:((List.range its.toArray.size).any λi=>(bs[i]?).getD false)=bs.any id:=by
   rw[Qbe,hb.length];exact range_any bs
  rw[e]
  exact⟨.bl (bs.any id),H,I.kept (LSm.kept_iter hk),rfl,q⟩
end
end L2
namespace PySem.ZZ
open PySem
section
variable {prog:Program} {w:World} {A:Around} {E:YA} {s:Shared}
theorem SN {M:Model} {α β : Type} {Q:β->Shared->Prop} {body:α->β->Sem (ForInStep β)} (J:List α->β->Shared->Prop) (hnil:∀b s,J [] b s->Q b s)
  (hstep:∀x r b s,J (x::r) b s->wpAny M A (body x b) (λst s'=>match st with | .yield b'=>J r b' s' | .done b'=>Q b' s') E s):∀(l:List α) (b:β) (s:Shared),J l b s->wpAny M A (forIn l b body) Q E s
 | [],b,s,h=>by
  rw[List.forIn_nil]
  exact Qcq (hnil b s h)
 | x::r,b,s,h=>by
  rw[List.forIn_cons]
  refine Qcp (Qcr (hstep x r b s h) (λst s' q=>?_) λ_ _ e=>e)
  cases st with
  | yield b'=>exact SN J hnil hstep r b' s' q
  | done b'=>exact Qcq q
structure Src where
 it:Addr
 a:Addr
 items:Array Value
def SrcAt (h:Heap) (x:Src) (i:Nat):Prop:=(h.IsListIter x.it x.a i/\h.IsList x.a x.items)\/(h.IsTupleIter x.it x.a i/\h.IsTuple x.a x.items)
theorem SrcAt.keep {h h':Heap} {x:Src} {i:Nat} (q:SrcAt h x i) (k1:∀o,h.get? x.it=some o->h'.get? x.it=some o) (k2:∀o,h.get? x.a=some o->h'.get? x.a=some o):SrcAt h' x i:=by
 rcases q with⟨q1,q2⟩|⟨q1,o,e,r⟩
 ·exact .inl ⟨q1.at k1,q2.at k2⟩
 ·exact .inr ⟨q1.at k1,o,k2 o e,r⟩
theorem SrcAt.ne {h:Heap} {x:Src} {i:Nat} (q:SrcAt h x i):x.a≠x.it:=λz=>by
 rcases q with⟨⟨o,e,c,_⟩,⟨o',e',c',_⟩⟩|⟨⟨o,e,c,_⟩,⟨o',e',c',_⟩⟩
 ·rw[z,e] at e';cases e';rw[c] at c';injection c' with y;exact absurd y (by decide)
 ·rw[z,e] at e';cases e';rw[c] at c';injection c' with y;exact absurd y (by decide)
theorem Xl {x:Src} {i:Nat} {v:Value} {Q:YA} (q:SrcAt s.heap x i) (hx:x.items[i]?=some v) (hQ:∀h',SrcAt h' x (i+1)->Heap.SameBut x.it s.heap h'->Q v { s with heap:=h' }) :
  wpAny (model prog w) A (Builtin.SmallTypes.nextOf (.ref x.it)) Q E s:=by
 have ne:=q.ne
 rcases q with⟨q1,q2⟩|⟨q1,q2⟩
 ·exact wpAny_nextOf_list_item q1 q2 hx λh' i1 sb=>hQ h' (.inl ⟨i1,q2.at λo e=>sb.extBut _ _ ne e⟩) sb
 ·exact M4 q1 q2 hx λh' i1 sb=>hQ h' (.inr ⟨i1,let ⟨o,e,r⟩:=q2;⟨o,sb.extBut _ _ ne e,r⟩⟩) sb
theorem qG {x:Src} {i:Nat} {Q:YA} (hh:A.handled=none) (q:SrcAt s.heap x i) (hx:x.items[i]?=none)
  (hE:∀h' e,Heap.ExtBut x.it s.heap h'->(∃o,h'.get? e=some o/\o.cls=.type "StopIteration")->E (.ref e) { s with heap:=h' }):wpAny (model prog w) A (Builtin.SmallTypes.nextOf (.ref x.it)) Q E s:=by
 rcases q with⟨q1,q2⟩|⟨q1,q2⟩
 ·exact wpAny_nextOf_list_end hh q1 q2 hx hE
 ·exact JQ hh q1 q2 hx hE
abbrev IsZ (h:Heap) (z TI TO:Addr) (f0 f1:Value):Prop:=h.get? z=some { cls:=.type "zip",dict:=none,data:=.fields #[f0,f1,.bool false,.ref TI,.ref TO],slots:=#[] }
abbrev Di (h:Heap) (T:Addr) (xs:YE):Prop:=h.get? T=some { cls:=.type "tuple",data:=.seq xs.toArray }
structure Apart (z TI TO:Addr) (ls:List Src):Prop where
 TIz:TI≠z
 TOz:TO≠z
 TITO:TI≠TO
 it:∀x∈ls,x.it≠z/\x.it≠TI/\x.it≠TO
 a:∀x∈ls,x.a≠z/\x.a≠TO
 ai:∀x∈ls,∀y∈ls,x.a≠y.it
 nd:(ls.map (·.it)).Nodup
def Rest (z TO:Addr) (ls:List Src) (h h':Heap):Prop:=∀c o,c≠z->c≠TO->c∉ls.map (·.it)->h.get? c=some o->h'.get? c=some o
theorem qJ {xs olds:YE} {k:Nat} {v:Value} (hk:k < olds.length) (hx:xs.length=olds.length) (e:xs[k]?=some v):(xs.take k++olds.drop k).toArray.setIfInBounds k v=(xs.take (k+1)++olds.drop (k+1)).toArray:=by
 rw[List.setIfInBounds_toArray]
 congr 1
 have hl:(xs.take k).length=k:=by rw[Qbq];omega
 rw[List.set_append_right _ _ (by omega),hl,Nat.sub_self,Qai hk,QaR,List.take_add_one,e]
 simp
structure Mid (z TI TO:Addr) (ls:List Src) (xs olds:YE) (i:Nat) (f0 f1:Value) (h:Heap) (k:Nat) (h':Heap):Prop where
 hz:IsZ h' z TI TO f0 f1
 hTI:Di h' TI (ls.map λx=>.ref x.it)
 done:∀j x,ls[j]?=some x->SrcAt h' x (if j < k then i+1 else i)
 rest:Rest z TO ls h h'
 size:h'.objs.size=h.objs.size
theorem Mid.draw {z TI TO:Addr} {ls:List Src} {xs olds:YE} {i:Nat} {f0 f1:Value} {h h1 h2:Heap} {k:Nat} {x:Src} (D:Apart z TI TO ls) (m:Mid z TI TO ls xs olds i f0 f1 h k h1) (hx:ls[k]?=some x) (q:SrcAt h2 x (i+1)) (sb:Heap.SameBut x.it h1 h2) :
  Mid z TI TO ls xs olds i f0 f1 h (k+1) h2:=by
 have hm:=QaE hx
 have hi:=D.it x hm
 refine⟨sb.extBut _ _ hi.1.symm m.hz,sb.extBut _ _ hi.2.1.symm m.hTI,λj y hy=>?_,λc o c1 c2 c3 e=>sb.extBut _ _ (λz=>c3 (z ▸ Qcc.mpr ⟨x,hm,rfl⟩)) (m.rest c o c1 c2 c3 e),by rw[sb.1,m.size]⟩
 by_cases hj:j=k
 ·subst hj
  rw[hx] at hy
  cases hy
  rw[if_pos (Qbu _)]
  exact q
 ·have h1:=m.done j y hy
  have hne:y.it≠x.it:=λz=>hj (by
   have e1:(ls.map (·.it))[j]?=some y.it:=by rw[Qbg,hy];rfl
   have e2:(ls.map (·.it))[k]?=some x.it:=by rw[Qbg,hx];rfl
   rw[z] at e1
   have l1:=(Qag.mp e1)
   have l2:=(Qag.mp e2)
   exact (List.getElem_inj D.nd).mp (l1.2.trans l2.2.symm))
  have hc:(if j < k+1 then i+1 else i)=(if j < k then i+1 else i):=by
   by_cases c:j < k
   ·rw[if_pos c,if_pos (by omega)]
   ·rw[if_neg c,if_neg (by omega)]
  rw[hc]
  exact h1.keep (λo e=>sb.extBut _ _ hne e) (λo e=>sb.extBut _ _ (D.ai y (QaE hy) x hm) e)
theorem Mid.other {z TI TO:Addr} {ls:List Src} {xs olds:YE} {i:Nat} {f0 f1:Value} {h h1 h2:Heap} {k:Nat} (D:Apart z TI TO ls) (m:Mid z TI TO ls xs olds i f0 f1 h k h1) (sb:Heap.SameBut TO h1 h2):Mid z TI TO ls xs olds i f0 f1 h k h2:=by
 refine⟨sb.extBut _ _ D.TOz.symm m.hz,sb.extBut _ _ D.TITO m.hTI,λj y hy=>?_,λc o c1 c2 c3 e=>sb.extBut _ _ c2 (m.rest c o c1 c2 c3 e),by rw[sb.1,m.size]⟩
 have hm:=QaE hy
 exact (m.done j y hy).keep (λo e=>sb.extBut _ _ (D.it y hm).2.2 e) (λo e=>sb.extBut _ _ (D.a y hm).2 e)
theorem Wn {z TI TO:Addr} {ls:List Src} {xs olds:YE} {i:Nat} {f1:Value} {Q:YA} (D:Apart z TI TO ls) (hz:IsZ s.heap z TI TO .none f1) (hTI:Di s.heap TI (ls.map λx=>.ref x.it)) (hTO:Di s.heap TO olds)
  (hat:∀x∈ls,SrcAt s.heap x i) (hne:ls≠[]) (hl1:xs.length=ls.length) (hl2:olds.length=ls.length) (hx:∀(j:Nat) (x:Src),ls[j]?=some x->∃v,xs[j]?=some v/\x.items[i]?=some v) (hsz:ls.length<=100)
  (hQ:∀h',IsZ h' z TI TO (rawInt s.heap.objs.size) (.bool false)->Di h' TI (ls.map λx=>.ref x.it)->Di h' TO xs->(∀x∈ls,SrcAt h' x (i+1))->Di h' s.heap.objs.size xs->h'.objs.size=s.heap.objs.size+1->Rest z TO ls s.heap h'->Q (.ref s.heap.objs.size) { s with heap:=h' }) :
  wpAny (model prog w) A (Builtin.«zip.__next__» ⟨[.ref z],[]⟩) (λfin s'=>∃v,fin=.done (.ret v)/\Q v s') E s:=by
 show wpAny _ _ (field (.ref z) 2 >>= _) _ _ _
 refine Qcp (Qcn hz rfl (x:=.bool false) rfl ?_)
 show wpAny _ _ (field (.ref z) 3 >>= _) _ _ _
 refine Qcp (Qcn hz rfl (x:=.ref TI) rfl ?_)
 refine Qcp (QbQ hTI rfl ?_)
 dsimp only
 rw[if_neg (by cases ls with | nil=>exact absurd rfl hne | cons a r=>simp)]
 show wpAny _ _ (Builtin.SmallTypes.ownedTupleIsFree (.ref z) >>= _) _ _ _
 refine Qcp ?_
 unfold Builtin.SmallTypes.ownedTupleIsFree
 refine Qcp (Qcn hz rfl (x:=.none) rfl (Qcq ?_))
 simp only[if_true]
 refine Qcp (wpAny_rule ?_)
 refine Qcp (Qcn hz rfl (x:=.ref TO) rfl ?_)
 refine Qcp (QaY hz (by simp) λh₁ hz₁ hs₁=>?_)
 replace hz₁ : IsZ h₁ z TI TO .ellipsis f1:=hz₁
 refine Qcp ?_
 have m0:Mid z TI TO ls xs olds i .ellipsis f1 s.heap 0 h₁:=by
  refine⟨hz₁,hs₁.extBut _ _ D.TIz hTI,λj x hj=>?_,λc o c1 _ _ e=>hs₁.extBut _ _ c1 e,hs₁.1⟩
  have hm:=QaE hj
  rw[if_neg (QbK _)]
  exact (hat x hm).keep (λo e=>hs₁.extBut _ _ (D.it x hm).1 e) (λo e=>hs₁.extBut _ _ (D.a x hm).1 e)
 have Zc : Di h₁ TO (xs.take 0++olds.drop 0):=hs₁.extBut _ _ D.TOz hTO
 refine SN (λl b s'=>∃k h',k<=ls.length/\l=((ls.map λx=>Value.ref x.it).drop k).zipIdx k/\b=⟨none,⟨⟩⟩/\s'={ s with heap:=h' }/\Mid z TI TO ls xs olds i .ellipsis f1 s.heap k h'/\Di h' TO (xs.take k++olds.drop k)) (λb s' h=>?_) (λx r b s' h=>?_) _ _ _ ⟨0,h₁,Qcl _,rfl,rfl,rfl,m0,Zc⟩
 ·obtain⟨k,h',hk,e1,rfl,rfl,m,hT⟩:=h
  have hkl:k=ls.length:=by
   have:=congrArg List.length e1
   rw[List.length_nil,List.length_zipIdx,Qbt,Qbx] at this
   omega
  subst hkl
  rw[<-hl1,Qbo,hl1,<-hl2,List.drop_length,QbC] at hT
  dsimp only
  refine Qcp (QbQ hT rfl ?_)
  refine Qcp (wpAny_newTuple ?_ (by show xs.length<=sizeLine;rw[Qco];omega))
  have hkl:∀j x,ls[j]?=some x->SrcAt h' x (i+1):=λj x hj=>by
   have:=m.done j x hj
   rw[if_pos (Qag.mp hj).1] at this
   exact this
  have hzlt:z < h'.objs.size:=Qcb m.hz
  have hTOlt:TO < h'.objs.size:=Qcb hT
  show wpAny _ _ (Builtin.SmallTypes.ownedTupleHandOut (.ref z) (.ref h'.objs.size) >>= _) _ _ _
  refine Qcp ?_
  unfold Builtin.SmallTypes.ownedTupleHandOut
  have hz₆ : IsZ (h'.push { cls:=.type "tuple",data:=.seq xs.toArray }) z TI TO .ellipsis f1:=Qav _ m.hz
  refine Qcp (QaY hz₆ (by simp) λh₇ hz₇ hs₇=>?_)
  replace hz₇ : IsZ h₇ z TI TO (rawInt h'.objs.size) f1:=hz₇
  refine QaY hz₇ (by simp) λh₈ hz₈ hs₈=>?_
  replace hz₈ : IsZ h₈ z TI TO (rawInt h'.objs.size) (.bool false):=hz₈
  have up:∀c o,c≠z->h'.get? c=some o->h₈.get? c=some o:=λc o c1 e=>hs₈.extBut _ _ c1 (hs₇.extBut _ _ c1 (Qav _ e))
  have hT₈ : Di h₈ h'.objs.size xs:=hs₈.extBut _ _ (Qcg hzlt) (hs₇.extBut _ _ (Qcg hzlt) (QaI _ rfl))
  have hz8:h₈.objs.size=h'.objs.size+1:=by rw[hs₈.1,hs₇.1,QbO]
  have hsz':=m.size
  rw[hsz'] at hz₈ hT₈ hz8
  refine Qcq ⟨_,rfl,?_⟩
  show Q (.ref h'.objs.size) _
  rw[hsz']
  refine hQ h₈ hz₈ (up _ _ D.TIz m.hTI) (up _ _ D.TOz hT) (λx hm=>?_) hT₈ hz8 λc o c1 c2 c3 e=>up c o c1 (m.rest c o c1 c2 c3 e)
  obtain⟨j,hj⟩:=QaH hm
  exact (hkl j x hj).keep (λo e=>up _ o (D.it x hm).1 e) (λo e=>up _ o (D.a x hm).1 e)
 ·obtain⟨k,h',hk,e1,rfl,rfl,m,hT⟩:=h
  have hkl:k < ls.length:=by
   have:=congrArg List.length e1
   rw[Qbp,List.length_zipIdx,Qbt,Qbx] at this
   omega
  obtain⟨y,hy⟩ : ∃y,ls[k]?=some y:=⟨_,Qak hkl⟩
  have hm:=QaE hy
  rw[Qai (by rw[Qbx];exact hkl),List.zipIdx_cons,List.getElem_map] at e1
  have ey:ls[k]=y:=(Qag.mp hy).2
  rw[ey] at e1
  injection e1 with e1 e2
  subst e1 e2
  obtain⟨v,hv1,hv2⟩:=hx k y hy
  refine Qcp (wpAny_onRaise ?_)
  show wpAny _ _ (Builtin.SmallTypes.nextOf (.ref y.it) >>= _) _ _ _
  have q0:=m.done k y hy
  rw[if_neg (QbV _)] at q0
  refine Qcp (Xl q0 hv2 λh2 q2 sb2=>Qcq ?_)
  have m2:=m.draw D hy q2 sb2
  have hT2:Di h2 TO (xs.take k++olds.drop k):=sb2.extBut _ _ (D.it y hm).2.2.symm hT
  have hln:(xs.take k++olds.drop k).length<=100:=by rw[QaP,Qbq,Qbt];omega
  have hsm:=qJ (xs:=xs) (olds:=olds) (k:=k) (v:=v) (by omega) (by omega) hv1
  refine Qcp (QbQ hT2 rfl ?_)
  refine Qcp (wpAny_updateSeq hT2 rfl ?_ (by rw[Qbe,Qco];omega) (by rw[hsm,Qbe,Qco,QaP,Qbq,Qbt];omega))
  have sb3:Heap.SameBut TO h2 (h2.update TO (Obj.mapSeq λx=>x.setIfInBounds k v)):=QaO ..
  have hT3:Di (h2.update TO (Obj.mapSeq λx=>x.setIfInBounds k v)) TO (xs.take (k+1)++olds.drop (k+1)):=by
   show (h2.update TO _).get? TO=_
   rw[QaD _ hT2 rfl,<-hsm]
   simp[Obj.mapSeq]
  refine Qcp (wpAny_letGo (Qcq ?_))
  exact⟨k+1,_,hkl,rfl,rfl,rfl,m2.other D sb3,hT3⟩
theorem Xc {z TI TO:Addr} {ls:List Src} {olds:YE} {i:Nat} {f1:Value} {Q:Fin->Shared->Prop} (hh:A.handled=none) (D:Apart z TI TO ls) (hz:IsZ s.heap z TI TO .none f1) (hTI:Di s.heap TI (ls.map λx=>.ref x.it)) (hTO:Di s.heap TO olds)
  (hat:∀x∈ls,SrcAt s.heap x i) (hne:ls≠[]) (hl2:olds.length=ls.length) (hsz:ls.length<=100) (hend:∃x∈ls,x.items[i]?=none)
  (hE:∀h' e,Rest z TO ls s.heap h'->(∃o,h'.get? e=some o/\o.cls=.type "StopIteration")->E (.ref e) { s with heap:=h' }) :
  wpAny (model prog w) A (Builtin.«zip.__next__» ⟨[.ref z],[]⟩) Q E s:=by
 show wpAny _ _ (field (.ref z) 2 >>= _) _ _ _
 refine Qcp (Qcn hz rfl (x:=.bool false) rfl ?_)
 show wpAny _ _ (field (.ref z) 3 >>= _) _ _ _
 refine Qcp (Qcn hz rfl (x:=.ref TI) rfl ?_)
 refine Qcp (QbQ hTI rfl ?_)
 dsimp only
 rw[if_neg (by cases ls with | nil=>exact absurd rfl hne | cons a r=>simp)]
 show wpAny _ _ (Builtin.SmallTypes.ownedTupleIsFree (.ref z) >>= _) _ _ _
 refine Qcp ?_
 unfold Builtin.SmallTypes.ownedTupleIsFree
 refine Qcp (Qcn hz rfl (x:=.none) rfl (Qcq ?_))
 simp only[if_true]
 refine Qcp (wpAny_rule ?_)
 refine Qcp (Qcn hz rfl (x:=.ref TO) rfl ?_)
 refine Qcp (QaY hz (by simp) λh₁ hz₁ hs₁=>?_)
 replace hz₁ : IsZ h₁ z TI TO .ellipsis f1:=hz₁
 refine Qcp ?_
 have m0:Mid z TI TO ls [] olds i .ellipsis f1 s.heap 0 h₁:=by
  refine⟨hz₁,hs₁.extBut _ _ D.TIz hTI,λj x hj=>?_,λc o c1 _ _ e=>hs₁.extBut _ _ c1 e,hs₁.1⟩
  have hm:=QaE hj
  rw[if_neg (QbK _)]
  exact (hat x hm).keep (λo e=>hs₁.extBut _ _ (D.it x hm).1 e) (λo e=>hs₁.extBut _ _ (D.a x hm).1 e)
 have Zc : Di h₁ TO olds:=hs₁.extBut _ _ D.TOz hTO
 refine SN (λl b s'=>∃k h' ys,k<=ls.length/\l=((ls.map λx=>Value.ref x.it).drop k).zipIdx k/\b=⟨none,⟨⟩⟩/\s'={ s with heap:=h' }/\Mid z TI TO ls [] olds i .ellipsis f1 s.heap k h'/\Di h' TO ys/\ys.length=ls.length/\∃x∈ls.drop k,x.items[i]?=none) (λb s' h=>?_) (λx r b s' h=>?_) _ _ _ ⟨0,h₁,olds,Qcl _,rfl,rfl,rfl,m0,Zc,hl2,hend⟩
 ·obtain⟨k,h',ys,hk,e1,rfl,rfl,m,hT,hy,x,hx,_⟩:=h
  have:k=ls.length:=by
   have:=congrArg List.length e1
   rw[List.length_nil,List.length_zipIdx,Qbt,Qbx] at this
   omega
  subst this
  rw[List.drop_length] at hx
  cases hx
 ·obtain⟨k,h',ys,hk,e1,rfl,rfl,m,hT,hys,xe,hxe,hxn⟩:=h
  have hkl:k < ls.length:=by
   have:=congrArg List.length e1
   rw[Qbp,List.length_zipIdx,Qbt,Qbx] at this
   omega
  obtain⟨y,hy⟩ : ∃y,ls[k]?=some y:=⟨_,Qak hkl⟩
  have hm:=QaE hy
  rw[Qai (by rw[Qbx];exact hkl),List.zipIdx_cons,List.getElem_map] at e1
  have ey:ls[k]=y:=(Qag.mp hy).2
  rw[ey] at e1
  injection e1 with e1 e2
  subst e1 e2
  refine Qcp (wpAny_onRaise ?_)
  show wpAny _ _ (Builtin.SmallTypes.nextOf (.ref y.it) >>= _) _ _ _
  have q0:=m.done k y hy
  rw[if_neg (QbV _)] at q0
  cases hv:y.items[i]? with
  | none=>
   refine Qcp (qG hh q0 hv λh₂ e hs₂ he=>?_)
   obtain⟨oe,hoe,hce⟩:=he
   have hz₂ : IsZ h₂ z TI TO .ellipsis f1:=hs₂ _ _ (D.it y hm).1.symm m.hz
   have hez:e≠z:=λx=>by subst x;rw[hz₂] at hoe;cases hoe;simp at hce
   refine QaY hz₂ (by simp) λh₃ _ hs₃=>hE h₃ e (λc o c1 c2 c3 x=>hs₃.extBut _ _ c1 (hs₂ _ _ (λq=>c3 (q ▸ Qcc.mpr ⟨y,hm,rfl⟩)) (m.rest c o c1 c2 c3 x))) ⟨oe,hs₃.extBut _ _ hez hoe,hce⟩
  | some v=>
   refine Qcp (Xl q0 hv λh2 q2 sb2=>Qcq ?_)
   have m2:=m.draw D hy q2 sb2
   have hT2:Di h2 TO ys:=sb2.extBut _ _ (D.it y hm).2.2.symm hT
   refine Qcp (QbQ hT2 rfl ?_)
   refine Qcp (wpAny_updateSeq hT2 rfl ?_ (by rw[Qbe,Qco];omega) (by rw[Array.size_setIfInBounds,Qbe,Qco];omega))
   have sb3:Heap.SameBut TO h2 (h2.update TO (Obj.mapSeq λx=>x.setIfInBounds k v)):=QaO ..
   have hT3:Di (h2.update TO (Obj.mapSeq λx=>x.setIfInBounds k v)) TO (ys.set k v):=by
    show (h2.update TO _).get? TO=_
    rw[QaD _ hT2 rfl,<-List.setIfInBounds_toArray]
    simp[Obj.mapSeq]
   refine Qcp (wpAny_letGo (Qcq ?_))
   refine⟨k+1,_,ys.set k v,hkl,rfl,rfl,rfl,m2.other D sb3,hT3,by rw[List.length_set];exact hys,xe,?_,hxn⟩
   rw[Qai hkl,ey] at hxe
   rcases QbT.mp hxe with z | z
   ·subst z;rw[hv] at hxn;cases hxn
   ·exact z
theorem dI {z TI TO:Addr} {f0 f1:Value} {Q:Option Value->Shared->Prop} (hz:IsZ s.heap z TI TO f0 f1) {Qi:YA} (h:wpAny (model prog w) A.in1 (Builtin.«zip.__next__» ⟨[.ref z],[]⟩) (λfin s'=>∃v,fin=.done (.ret v)/\Qi v s') (λ_ _=>False) s) (hQ:∀v s',Qi v s'->Q (some v) s') :
  wpAny (model prog w) A (pyNext (.ref z)) Q E s:=by
 have hT:s.TypeIs (.ref z) "zip":=⟨_,hz,rfl⟩
 unfold pyNext
 refine Qcp (QbZ (Qaq (name:=Str.ofString "__next__") hT F.slot_zip_next (Qbs F.slot_zip_next hT F.entry_zip_next (Qcr h (λfin s' q=>?_) λ_ _ f=>f.elim) (F.args_zip_next_1 _))))
 obtain⟨v,e,q⟩:=q
 exact⟨v,e,Qcq (hQ v s' q)⟩
theorem Ve {z TI TO:Addr} {f0 f1:Value} {Q:Option Value->Shared->Prop} {R:Heap->Prop} (hz:IsZ s.heap z TI TO f0 f1)
  (h:wpAny (model prog w) A.in1 (Builtin.«zip.__next__» ⟨[.ref z],[]⟩) (λ_ _=>False) (λv s'=>∃h' e,v=.ref e/\s'={ s with heap:=h' }/\R h'/\∃o,h'.get? e=some o/\o.cls=.type "StopIteration") s) (hQ:∀h',R h'->Q none { s with heap:=h' }) :
  wpAny (model prog w) A (pyNext (.ref z)) Q E s:=by
 have hT:s.TypeIs (.ref z) "zip":=⟨_,hz,rfl⟩
 unfold pyNext
 refine Qcp (QbZ (Qaq (name:=Str.ofString "__next__") hT F.slot_zip_next (Qbs F.slot_zip_next hT F.entry_zip_next (Qcr h (λ_ _ f=>f.elim) λv s' q=>?_) (F.args_zip_next_1 _))))
 obtain⟨h',e,rfl,rfl,r,o,ho,hc⟩:=q
 exact Qcp (wpAny_isInstance (T:="StopIteration") (b:=true) ⟨o,ho,hc⟩ isSubtype_stop (Qcq (hQ _ r)))
theorem Tz {z TI TO:Addr} {f0 f1:Value} {Q:YA} (hz:IsZ s.heap z TI TO f0 f1) (h:Q (.ref z) s):wpAny (model prog w) A (pyIter (.ref z)) Q E s:=by
 have hT:s.TypeIs (.ref z) "zip":=⟨_,hz,rfl⟩
 refine wpAny_pyIter_slot hT F.slot_zip_iter (Qbs F.slot_zip_iter hT F.entry_zip_iter ?_ (F.args_zip_iter_1 _))
 show wpAny _ _ (ret (.ref z)) _ _ s
 exact Qcq ⟨_,rfl,"zip",_,hT,F.slot_zip_next.lookup,h⟩
theorem jh {elts:YJ} {x1} {pos:Pos} {z TI TO T:Addr} {f1:Value} {Q:YH} (hz:IsZ s.heap z TI TO (rawInt T) f1)
  (hQ:∀h',IsZ h' z TI TO .none f1->Heap.SameBut z s.heap h'->Q () { s with heap:=h' }):wpAny (model prog w) A (letOwnedTupleGo (.Tuple elts x1 pos) (.ref z) (.ref T)) Q E s:=by
 unfold letOwnedTupleGo
 refine Qcp (wpAny_load hz ?_)
 show wpAny _ _ (if (["enumerate","zip","dict_itemiterator","dict_reverseitemiterator","odict_iterator","itertools.zip_longest","itertools.pairwise"].contains "zip" &&
   (#[rawInt T,f1,.bool false,.ref TI,.ref TO]:Array Value)[0]? == some (rawInt T))=true then _ else _) Q E s
 rw[if_pos (by simp)]
 refine Qcp (wpAny_rule ?_)
 show wpAny _ _ (setField (.ref z) 0 .none) Q E s
 exact QaY hz (by simp) λh' hz' hs'=>hQ h' hz' hs'
end
end PySem.ZZ
namespace PySem
namespace F
end F
end PySem
namespace PySem.ZZ
open PySem
def QK (h:Heap) (a:Addr) (xs:Array Value) (c:String):Prop:=(c="list_iterator"/\h.IsList a xs)\/(c="tuple_iterator"/\h.IsTuple a xs)
theorem QK.src {h h':Heap} {a it:Addr} {xs:Array Value} {c:String} (q:QK h a xs c) (k:∀o,h.get? a=some o->h'.get? a=some o) (e:h'.get? it=some { cls:=.type c,data:=.fields #[.ref a,.int 0 0] }):SrcAt h' ⟨it,a,xs⟩ 0:=by
 rcases q with⟨rfl,q⟩|⟨rfl,o,ho,r⟩
 ·exact .inl ⟨⟨_,e,rfl,rfl⟩,q.at k⟩
 ·exact .inr ⟨⟨_,e,rfl,rfl⟩,o,k o ho,r⟩
theorem QK.lt {h:Heap} {a:Addr} {xs:Array Value} {c:String} (q:QK h a xs c):a < h.objs.size:=by
 rcases q with⟨rfl,o,e,_⟩|⟨rfl,o,e,_⟩
 ·exact Qcb e
 ·exact Qcb e
abbrev itO (c:String) (l:Addr):Obj:={ cls:=.type c,data:=.fields #[.ref l,.int 0 0] }
abbrev tuO (xs:Array Value):Obj:={ cls:=.type "tuple",data:=.seq xs }
abbrev z2a (h:Heap) (c1 c2:String) (l1 l2:Addr):Heap:=((((h.push (itO c1 l1)).push (itO c2 l2)).push (tuO #[.ref h.objs.size,.ref (h.push (itO c1 l1)).objs.size])).push (tuO #[.none,.none]))
abbrev z2 (h:Heap) (c1 c2:String) (l1 l2:Addr):Heap:=(z2a h c1 c2 l1 l2).push
 { cls:=.type "zip",data:=.fields #[.none,.bool false,.bool false,.ref ((h.push (itO c1 l1)).push (itO c2 l2)).objs.size,.ref (((h.push (itO c1 l1)).push (itO c2 l2)).push (tuO #[.ref h.objs.size,.ref (h.push (itO c1 l1)).objs.size])).objs.size] }
theorem d9 (l1 l2:Addr) (xs ys:Array Value) (c1 c2:String):Meets (Builtin.«zip.__new__» ⟨[.type "zip",.ref l1,.ref l2],[]⟩) (λ_ R s=>QK s.heap l1 xs c1/\QK s.heap l2 ys c2/\R (.ok (.ret (.ref (z2a s.heap c1 c2 l1 l2).objs.size))) { s with heap:=z2 s.heap c1 c2 l1 l2 }):=
 .of_wp λprog w A R s h=>by
  obtain⟨hp,g,d,tk,os⟩:=s
  obtain⟨hl1,hl2,h⟩:=h
  have hsub:=sub_zip
  rcases hl1 with⟨rfl,hl1⟩|⟨rfl,hl1⟩
  ·have hL1:Heap.IsList (Shared.heap ⟨hp,g,d,tk,os⟩) l1 xs:=hl1
   rcases hl2 with⟨rfl,hl2⟩|⟨rfl,hl2⟩
   ·have hL2:Heap.IsList (Shared.heap ⟨hp.push (itO "list_iterator" l1),g,d,tk,os⟩) l2 ys:=Heap.IsList.push hl2 _
    wp_walk using Qbn hL1,Qbn hL2
    exact⟨_,rfl,h⟩
   ·have hL2:Heap.IsTuple (Shared.heap ⟨hp.push (itO "list_iterator" l1),g,d,tk,os⟩) l2 ys:=Heap.IsTuple.push hl2 _
    wp_walk using Qbn hL1,QaX hL2
    exact⟨_,rfl,h⟩
  ·have hL1:Heap.IsTuple (Shared.heap ⟨hp,g,d,tk,os⟩) l1 xs:=hl1
   rcases hl2 with⟨rfl,hl2⟩|⟨rfl,hl2⟩
   ·have hL2:Heap.IsList (Shared.heap ⟨hp.push (itO "tuple_iterator" l1),g,d,tk,os⟩) l2 ys:=Heap.IsList.push hl2 _
    wp_walk using QaX hL1,Qbn hL2
    exact⟨_,rfl,h⟩
   ·have hL2:Heap.IsTuple (Shared.heap ⟨hp.push (itO "tuple_iterator" l1),g,d,tk,os⟩) l2 ys:=Heap.IsTuple.push hl2 _
    wp_walk using QaX hL1,QaX hL2
    exact⟨_,rfl,h⟩
abbrev z3a (h:Heap) (c1 c2 c3:String) (l1 l2 l3:Addr):Heap:=(((((h.push (itO c1 l1)).push (itO c2 l2)).push (itO c3 l3)).push (tuO #[.ref h.objs.size,.ref (h.push (itO c1 l1)).objs.size,.ref ((h.push (itO c1 l1)).push (itO c2 l2)).objs.size])).push (tuO #[.none,.none,.none]))
abbrev z3 (h:Heap) (c1 c2 c3:String) (l1 l2 l3:Addr):Heap:=(z3a h c1 c2 c3 l1 l2 l3).push
 { cls:=.type "zip",data:=.fields #[.none,.bool false,.bool false,.ref (((h.push (itO c1 l1)).push (itO c2 l2)).push (itO c3 l3)).objs.size,.ref ((((h.push (itO c1 l1)).push (itO c2 l2)).push (itO c3 l3)).push (tuO #[.ref h.objs.size,.ref (h.push (itO c1 l1)).objs.size,.ref ((h.push (itO c1 l1)).push (itO c2 l2)).objs.size])).objs.size] }
structure yP (h:Heap) (z TI TO:Addr) (ls:List Src) (h':Heap):Prop where
 hz:IsZ h' z TI TO .none (.bool false)
 hTI:Di h' TI (ls.map λx=>.ref x.it)
 hTO:Di h' TO (ls.map λ_=>.none)
 at_:∀x∈ls,SrcAt h' x 0
 ap:Apart z TI TO ls
 new:h.objs.size<=z/\h.objs.size<=TI/\h.objs.size<=TO/\∀x∈ls,h.objs.size<=x.it
 keep:∀c o,h.get? c=some o->h'.get? c=some o
theorem na {a b:Nat} (h:a≠b):@Ne Addr a b:=h
theorem apart2 {n l1 l2:Nat} {xs ys:Array Value} (a1:l1 < n) (a2:l2 < n):Apart (n+1+1+1+1:Nat) (n+1+1:Nat) (n+1+1+1:Nat) [⟨n,l1,xs⟩,⟨(n+1:Nat),l2,ys⟩]:=by
 refine⟨na (by omega),na (by omega),na (by omega),λx hx=>?_,λx hx=>?_,λx hx y hy=>?_,?_⟩
 ·rcases QbT.mp hx with rfl | hx
  ·exact⟨na (by dsimp only;omega),na (by dsimp only;omega),na (by dsimp only;omega)⟩
  ·cases QaW.mp hx
   exact⟨na (by dsimp only;omega),na (by dsimp only;omega),na (by dsimp only;omega)⟩
 ·rcases QbT.mp hx with rfl | hx
  ·exact⟨na (by dsimp only;omega),na (by dsimp only;omega)⟩
  ·cases QaW.mp hx
   exact⟨na (by dsimp only;omega),na (by dsimp only;omega)⟩
 ·rcases QbT.mp hx with rfl | hx
  ·rcases QbT.mp hy with rfl | hy
   ·exact na (by dsimp only;omega)
   ·cases QaW.mp hy
    exact na (by dsimp only;omega)
  ·cases QaW.mp hx
   rcases QbT.mp hy with rfl | hy
   ·exact na (by dsimp only;omega)
   ·cases QaW.mp hy
    exact na (by dsimp only;omega)
 ·show List.Nodup ([n,n+1]:List Nat)
  simp
section
variable {prog:Program} {w:World} {A:Around} {E:YA} {s:Shared}
theorem jW {l1 l2:Addr} {xs ys:Array Value} {c1 c2:String} {Q:YA} (hl1:QK s.heap l1 xs c1) (hl2:QK s.heap l2 ys c2)
  (h:∀h' z TI TO i1 i2,yP s.heap z TI TO [⟨i1,l1,xs⟩,⟨i2,l2,ys⟩] h'->Q (.ref z) { s with heap:=h' }):wpAny (model prog w) A (call (.type "zip") [.ref l1,.ref l2]) Q E s:=by
 refine callType_new F.called_zip (by decide) (F.typeCall_zip_2 _ _) (F.newCall_zip_2 _ _) (λobj=>F.args_object_init_3 obj _ _) F.entry_zip_new (d9 l1 l2 xs ys c1 c2) ⟨hl1,hl2,?_⟩
 have g5:(z2 s.heap c1 c2 l1 l2).get? (z2a s.heap c1 c2 l1 l2).objs.size=some _:=QaI _ rfl
 have g4:(z2 s.heap c1 c2 l1 l2).get? (((s.heap.push (itO c1 l1)).push (itO c2 l2)).push (tuO #[.ref s.heap.objs.size,.ref (s.heap.push (itO c1 l1)).objs.size])).objs.size=some (tuO #[.none,.none]):=Qav _ (QaI _ rfl)
 have g3:(z2 s.heap c1 c2 l1 l2).get? ((s.heap.push (itO c1 l1)).push (itO c2 l2)).objs.size=some (tuO #[.ref s.heap.objs.size,.ref (s.heap.push (itO c1 l1)).objs.size]):=Qav _ (Qav _ (QaI _ rfl))
 have g2:(z2 s.heap c1 c2 l1 l2).get? (s.heap.push (itO c1 l1)).objs.size=some (itO c2 l2):=Qav _ (Qav _ (Qav _ (QaI _ rfl)))
 have g1:(z2 s.heap c1 c2 l1 l2).get? s.heap.objs.size=some (itO c1 l1):=Qav _ (Qav _ (Qav _ (Qav _ (QaI _ rfl))))
 have kp:∀c o,s.heap.get? c=some o->(z2 s.heap c1 c2 l1 l2).get? c=some o:=λc o x=>Qav _ (Qav _ (Qav _ (Qav _ (Qav _ x))))
 have a1:=hl1.lt
 have a2:=hl2.lt
 refine⟨⟨_,g5,rfl⟩,h _ _ _ _ s.heap.objs.size (s.heap.push (itO c1 l1)).objs.size ⟨g5,g3,g4,?_,?_,?_,kp⟩⟩
 ·intro x hx
  rcases QbT.mp hx with rfl | hx
  ·exact hl1.src (λo e=>kp _ _ e) g1
  ·rcases QbT.mp hx with rfl | hx
   ·exact hl2.src (λo e=>kp _ _ e) g2
   ·cases hx
 ·simp only[QbO]
  exact apart2 a1 a2
 ·simp only[QbO,QbT,Qbr,Qct,forall_eq_or_imp,forall_eq];omega
end
end PySem.ZZ
namespace PySem
namespace F
end F
end PySem
namespace PySem.ZZ
open PySem
section
variable {prog:Program} {w:World} {A:Around} {E:YA} {s:Shared}
structure Run (hb:Heap) (z TI TO:Addr) (ls:List Src) (rows:Nat->YE) (S:Addr) (ts:List Addr) (h:Heap):Prop where
 inc:ts.Pairwise (· < ·)
 lo:∀t∈ts,S < t/\t < h.objs.size
 at_:∀j t,ts[j]?=some t->Di h t (rows j)
 keep:∀c o,hb.get? c=some o->h.get? c=some o
 hTI:Di h TI (ls.map λx=>.ref x.it)
 hTO:∃olds,Di h TO olds/\olds.length=ls.length
 src:∀x∈ls,SrcAt h x ts.length
 hz:(ts=[]/\IsZ h z TI TO .none (.bool false))\/∃(T:Addr) (f1:Value),ts[0]?=some T/\IsZ h z TI TO (rawInt T) f1
structure Below (hb:Heap) (z TI TO:Addr) (ls:List Src) (S:Addr):Prop where
 ap:Apart z TI TO ls
 old:hb.objs.size<=z/\hb.objs.size<=TI/\hb.objs.size<=TO/\∀x∈ls,hb.objs.size<=x.it
 lz:z < S
 lTI:TI < S
 lTO:TO < S
 it:∀x∈ls,x.it < S/\x.a < S
 base:hb.objs.size<=S
theorem Run.frame {hb:Heap} {z TI TO:Addr} {ls:List Src} {rows:Nat->YE} {S:Addr} {ts:List Addr} {h h':Heap} (B:Below hb z TI TO ls S) (r:Run hb z TI TO ls rows S ts h) (hs:h'.objs.size=h.objs.size) (k:∀c o,c≠S->h.get? c=some o->h'.get? c=some o):Run hb z TI TO ls rows S ts h':=by
 obtain⟨olds,o1,o2⟩:=r.hTO
 refine⟨r.inc,λt ht=>by rw[hs];exact r.lo t ht,λj t e=>k _ _ (Qcg (r.lo t (QaE e)).1) (r.at_ j t e),λc o e=>k _ _ (Qcd (QaV (Qcb e) B.base)) (r.keep c o e),k _ _ (Qcd B.lTI) r.hTI,⟨olds,k _ _ (Qcd B.lTO) o1,o2⟩,λx hx=>?_,?_⟩
 ·exact (r.src x hx).keep (λo e=>k _ _ (Qcd (B.it x hx).1) e) (λo e=>k _ _ (Qcd (B.it x hx).2) e)
 ·rcases r.hz with⟨e,q⟩|⟨T,f1,e,q⟩
  ·exact .inl ⟨e,k _ _ (Qcd B.lz) q⟩
  ·exact .inr ⟨T,f1,e,k _ _ (Qcd B.lz) q⟩
theorem Run.more {hb:Heap} {z TI TO:Addr} {ls:List Src} {rows:Nat->YE} {S:Addr} {ts:List Addr} {h h':Heap} (B:Below hb z TI TO ls S) (r:Run hb z TI TO ls rows S ts h) (hS:S < h.objs.size) (hs:h'.objs.size=h.objs.size+1) (hr:Rest z TO ls h h')
  (hTI:Di h' TI (ls.map λx=>.ref x.it)) (hTO:∃olds,Di h' TO olds/\olds.length=ls.length) (src:∀x∈ls,SrcAt h' x (ts.length+1)) (new:Di h' h.objs.size (rows ts.length)) (hz:∃(T:Addr) (f1:Value),(ts++[h.objs.size])[0]?=some T/\IsZ h' z TI TO (rawInt T) f1):Run hb z TI TO ls rows S (ts++[h.objs.size]) h':=by
 have fr:∀t,S < t->t≠z/\t≠TO/\t∉ls.map (·.it):=λt ht=>⟨λe=>by rw[e] at ht;exact Nat.lt_asymm ht B.lz,λe=>by rw[e] at ht;exact Nat.lt_asymm ht B.lTO,λe=>by
  obtain⟨x,hx,e'⟩:=Qcc.mp e
  rw[<-e'] at ht
  exact Nat.lt_asymm ht (B.it x hx).1⟩
 refine⟨?_,λt ht=>?_,λj t e=>?_,λc o e=>?_,hTI,hTO,λx hx=>by rw[QaP];exact src x hx,.inr hz⟩
 ·exact List.pairwise_append.mpr ⟨r.inc,Qau _ _,λa ha b hb'=>by
   have:b=h.objs.size:=by simpa using hb'
   rw[this]
   exact (r.lo a ha).2⟩
 ·rw[hs]
  rcases Qbz.mp ht with ht | ht
  ·have:=r.lo t ht;exact⟨this.1,Nat.lt_succ_of_lt this.2⟩
  ·have:t=h.objs.size:=by simpa using ht
   rw[this]
   exact⟨hS,Qbu _⟩
 ·by_cases c:j < ts.length
  ·rw[List.getElem?_append_left c] at e
   have hlo:=r.lo t (QaE e)
   obtain⟨f1,f2,f3⟩:=fr t hlo.1
   exact hr t _ f1 f2 f3 (r.at_ j t e)
  ·rw[List.getElem?_append_right (Nat.le_of_not_lt c)] at e
   have hj:j - ts.length=0:=by
    have:=(Qag.mp e).1
    rw[QaB] at this
    omega
   rw[hj] at e
   cases e
   have:j=ts.length:=by omega
   rw[this]
   exact new
 ·have hlt:=Qcb e
  refine hr c o (λq=>?_) (λq=>?_) (λq=>?_) (r.keep c o e)
  ·rw[q] at hlt;exact absurd hlt (Nat.not_lt.mpr B.old.1)
  ·rw[q] at hlt;exact absurd hlt (Nat.not_lt.mpr B.old.2.2.1)
  ·obtain⟨x,hx,e'⟩:=Qcc.mp q
   rw[<-e'] at hlt
   exact absurd hlt (Nat.not_lt.mpr (B.old.2.2.2 x hx))
end
end PySem.ZZ
namespace PySem.ZZ
open PySem
section
variable {prog:Program} {w:World} {A:Around} {E:YA} {s:Shared}
structure Rows (ls:List Src) (n:Nat) (rows:Nat->YE):Prop where
 row:∀j,j < n->(rows j).length=ls.length/\∀(k:Nat) (x:Src),ls[k]?=some x->∃v,(rows j)[k]?=some v/\x.items[j]?=some v
 stop:∃x∈ls,x.items[n]?=none
 ne:ls≠[]
 few:ls.length<=100
 most:n<=1000
end
end PySem.ZZ
namespace L2
open PySem PySem.Spec PyProof.Rows
theorem Gx {h:Heap} {p q:Addr} {o o':Obj} (e:h.get? p=some o) (e':h.get? q=some o') (n:o.cls≠o'.cls):p≠q:=λz=>by
 rw[z,e'] at e
 cases e
 exact n rfl
theorem JR {h:Heap} {a:Addr} {xs ys:Array Value} (h1:h.IsList a xs) (h2:h.IsTuple a ys):False:=by
 obtain⟨o,e,c,_⟩:=h1
 obtain⟨o',e',c',_⟩:=h2
 rw[e'] at e
 cases e
 rw[c'] at c
 injection c with q
 exact absurd q (by decide)
section
variable {X:Cx}
end
mutual
inductive J2 (K:YD) (H:Hp):V->PyData->Prop
 | non:J2 K H .non .none
 | bl (b:Bool):J2 K H (.bl b) (.bool b)
 | int (i:Int):J2 K H (.int i) (.int i)
 | str (x:Str):J2 K H (.str x) (.str x)
 | tup {a:Addr} {xs:YG} {ds:List PyData}:SqT K H a xs->Lb K H xs ds->J2 K H (.ref a) (.tuple ds)
inductive Lb (K:YD) (H:Hp):YG->List PyData->Prop
 | nil:Lb K H [] []
 | cons {x:V} {d:PyData} {xs:YG} {ds:List PyData}:J2 K H x d->Lb K H xs ds->Lb K H (x::xs) (d::ds)
end
section
variable {X:Cx} {pins:YC} {σ : St} {H:Hp} {s:Shared}
mutual
theorem J2.reads (I:Inv X pins σ H s):∀{v:V} {d:PyData} {u:Value},J2 X.K H v d->RelV v u->∃as,Reads s.heap u d as
 | _,_,_,.non,r=>by cases (show _=Value.none from r);exact⟨_,.none⟩
 | _,_,_,.bl b,r=>by cases (show _=Value.bool b from r);exact⟨_,.bool b⟩
 | _,_,_,.int i,r=>by obtain⟨t,rfl⟩:=(show ∃t,_=Value.int i t from r);exact⟨_,.int i t⟩
 | _,_,_,.str x,r=>by obtain⟨t,rfl⟩:=(show ∃t,_=Value.str x t from r);exact⟨_,.str x t⟩
 | _,_,_,.tup (a:=a) (xs:=xs) e q,r=>by
  cases (show _=Value.ref a from r)
  obtain⟨its,rv,⟨o,ho,hc,n,hd⟩,_⟩:=I.tuple e
  obtain⟨as,z⟩:=Lb.reads I q rv
  exact⟨_,.tuple ho hc hd (by simpa using z)⟩
theorem Lb.reads (I:Inv X pins σ H s):∀{xs:YG} {ds:List PyData} {us:YE},Lb X.K H xs ds->Vals xs us->∃as,ReadsAll s.heap us ds as
 | _,_,_,.nil,.nil=>⟨_,.nil⟩
 | _,_,_,.cons p q,.cons r t=>by
  obtain⟨as,a1⟩:=J2.reads I p r
  obtain⟨bs,b1⟩:=Lb.reads I q t
  exact⟨_,.cons a1 b1⟩
end
end
section
variable {X:Cx} {K:YD}
theorem iU (h:X.K=K) (hu:X.A.units+64 < cLine):OpR X (compareOp .Eq) (λx y H Q=>∃d e,J2 K H x d/\J2 K H y e/\SeqAt.shaped d=true/\SeqAt.shaped e=true/\Q (.bl (PyData.eqv d e)) H):=by
 subst h
 intro pins s σ H x y v u Q I rx ry h
 obtain⟨d,e,p,p',sd,se,q⟩:=h
 obtain⟨as,r1⟩:=p.reads I rx
 obtain⟨bs,r2⟩:=p'.reads I ry
 exact eq_dataH r1 r2 sd se hu ⟨.bl (PyData.eqv d e),H,I,rfl,q⟩
theorem FT {es:YJ} {k:Nat} {pos:Pos} {t:TGs} {n:Nat} (hK:X.K=K) (hc:X.calm=true) (h:PGs X es t)
  (hn:(assignEach es X.env).length=n:=by rfl) (hst:(assignEach es X.env).findIdx? (·.1)=none:=by rfl):PG X (.Tuple es k pos) (wA K n t):=hK ▸ Cw hc h hn hst
end
end L2
namespace L2
open PySem PySem.Spec PyProof.Rows
abbrev pD:YE:=[.type "ValueError",.type "Exception",.type "BaseException",.type "object"]
structure XCl (K:YD) (C:Addr):Prop where
 ex:PySem.W.excIn K C pD "ValueError.__new__"=true
 ga:findIn K (.ref C) "__getattribute__"=some (some (.builtin "BaseException.__getattribute__"))
 gn:findIn K (.ref C) "__getattr__"=some none
 ca:findIn K (.ref C) "__class__"=some (some (.builtin "object.__class__"))
 mo:PySem.W.subIn K (.ref C) (.type "object")=some true
 mb:PySem.W.subIn K (.ref C) (.type "BaseException")=some true
 kp:keepIn K (.ref C)=true
section
variable {K:YD} {C:Addr}
theorem XCl.obj (T:XCl K C) {h:Heap} (X:K.In h):∃bm N nm q bs hdct sn sub ab col dd k0 k1 k2 k3 k5 mN,h.get? C=some (excClassObj nm q C N bs bm hdct sn sub ab col dd k0 k1 k2 k3 k5 "ValueError.__new__")/\h.Ns N mN/\mN "__init__"=none/\OwnTail h pD bm:=by
 have q:=T.ex
 unfold PySem.W.excIn at q
 split at q
 ·rename_i dd cd sl ho
  split at q
  ·rename_i C' bm k0 k1 k2 k3 n k5 hm hs
   simp only[Qbv,beq_iff_eq,Bool.not_eq_true'] at q
   obtain⟨⟨⟨⟨⟨rfl,rfl⟩,hdel⟩,ht⟩,hok⟩,hni⟩:=q
   obtain⟨nm,bs,mro,ns,qn,hd,sn,sub,ab,col,del⟩:=cd
   dsimp only at hm hdel hok hni
   subst hm hdel
   have hsl:sl=#[k0,k1,k2,k3,some (.builtin "ValueError.__new__"),k5]:=by
    obtain⟨l⟩:=sl
    simp only at hs
    rw[hs]
   subst hsl
   exact⟨bm,ns,nm,qn,bs,hd,sn,sub,ab,col,dd,k0,k1,k2,k3,k5,_,X _ _ ho,.of_isNs (PySem.W.isNs_of_in X hok),PySem.W.nsMap_none_of_in X hok hni,PySem.W.tail_of_in X ht⟩
  ·cases q
 ·cases q
end
def XAt (a C:Addr) (h:Heap):Prop:=∃o vs,h.get? a=some o/\o.cls=.ref C/\o.data=.fields vs/\vs[2]?=some .none
section
variable {prog:Program} {w:World} {A:Around} {E:YA} {h:Heap} {g:Array GenState} {d:Drawn} {t:Nat} {os:OsState} {K:YD} {a C:Addr} {o:Obj}
end
def xo (a C:Addr):HO:=.ext (XAt a C)
section
variable {X:Cx} {pins:YC} {σ : St} {H:Hp} {s:Shared}
end
def XT (B:Heap) (e C:Addr) (fl:Option Value) (h:Heap):Prop:=
 ∃oe vs,h.get? e=some oe/\oe.cls=.ref C/\oe.data=.fields vs/\vs[2]?=some .none /\
  match fl with
  | none=>vs[1]?=some .none
  | some f=>∃T oT ts,vs[1]?=some (.ref T)/\B.get? T=none/\T≠e/\h.get? T=some oT/\oT.data=.fields ts/\ts[3]?=some f
theorem XT.at {B h:Heap} {e C:Addr} {fl:Option Value} (x:XT B e C fl h):XAt e C h:=by
 obtain⟨oe,vs,h1,h2,h3,h4,_⟩:=x
 exact⟨oe,vs,h1,h2,h3,h4⟩
section
variable {M:Model} {A:Around} {E:YA} {s:Shared} {B:Heap} {env:Env} {outer l:List Env} {L e C:Addr} {Q:YH}
end
theorem Bs.there {P:Program} {w:World} {H:Hp} {h:Heap} {a:Addr} {o:HO} (x:Bs P w H h a o):∃u,h.get? a=some u:=by
 cases o with
 | lst xs=>obtain⟨_,its,n,_,q⟩:=x;exact⟨_,q⟩
 | tup xs=>obtain⟨_,its,_,ob,q,_⟩:=x;exact⟨_,q⟩
 | dK kvs=>obtain⟨_,_,vs,_,ob,es,ep,q,_⟩:=x;exact⟨_,q⟩
 | dT kvs=>obtain⟨_,_,xs,_,ob,es,ep,q,_⟩:=x;exact⟨_,q⟩
 | set S n=>obtain⟨ob,es,ep,t,q,_⟩:=x;exact⟨_,q⟩
 | ins C dx fs=>obtain⟨_,_,_,q,_⟩:=x;exact⟨_,q⟩
 | own y=>exact x
 | xd fs=>obtain⟨mA,⟨od,es,ep,q,_⟩,_⟩:=x;exact⟨_,q⟩
 | rng lo hi=>obtain⟨t,u,v,q⟩:=x;exact⟨_,q⟩
 | frz ob u=>exact⟨_,x.1⟩
 | tbl ps=>exact⟨_,x⟩
 | met f y=>exact⟨_,x⟩
 | ext φ=>exact x.2.1
section
variable {P:Program} {w:World} {outer:List Env} {H H':Hp} {s s':Shared} {e C:Addr} {B h2:Heap} {fl:Option Value}
end
section
variable {X:Cx} {pins:YC} {σ : St} {H H':Hp} {s s':Shared} {e C:Addr} {B h2:Heap} {fl:Option Value}
end
section
variable {M:Model} {A:Around} {E:YA} {h:Heap} {g:Array GenState} {d:Drawn} {t:Nat} {os:OsState} {K:YD} {e C HC:Addr}
end
abbrev Cx.by (X:Cx) (pn:YC) (E:YA):Cx:={ X with pn:=pn,xe:=E }
section
variable {X:Cx} {pins dM pn:YC} {σ : St} {H:Hp} {s:Shared} {E:YA} {ev:Value}
theorem Inv.by (I:Inv X pins σ H s) (E:YA):Inv (X.by (X.pn++pins) E) [] σ H s:=
 ⟨⟨I.ok.mod,I.ok.kind,I.ok.glob,I.ok.blt,I.ok.above,I.ok.inj,I.ok.has,I.ok.cab,I.ok.hd,I.ok.frames,I.ok.stk,I.ok.exf,I.ok.bs,I.ok.bsz,I.ok.Vk,I.ok.QC,I.ok.Jw,I.ok.frf⟩,I.os,I.bare,I.base,I.loc,I.cell,I.free,I.Hr,
  λp hp=>I.pin p (by simpa using hp),I.hok,I.len⟩
end
end L2
namespace L2
open PySem PySem.Spec PyProof.Rows PySem.SeqAt
theorem Bu {c:Const} {k:Nat} {p:Pos} {es:YJ} {env:Env}:starEach (.Constant c k p::es) env=(false,eval (.Constant c k p) env)::starEach es env:=by rfl
section
variable {X:Cx}
end
section
variable {prog:Program} {w:World} {A:Around} {E:YA} {s:Shared}
end
end L2
namespace L2
open PySem PySem.Spec PyProof.Rows
section
variable {X:Cx} {pins:YC} {σ : St} {H:Hp} {s:Shared} {a:Addr} {kvs:YM} {o:Obj}
end
theorem Pu:entryFor table "dict_itemiterator.__iter__"=some Builtin.«dict_keyiterator.__iter__»:=entryFor_alias (id':="dict_keyiterator.__iter__") (by kernel_rfl) rfl (by trivial) (by kernel_rfl)
theorem Wz {prog:Program} {w:World} {A:Around} {E:YA} {s:Shared} {it d:Addr} {i n ep:Nat} {ok ov:Value} {Q:YA} (hit:IsItemIter s.heap it d i n ep ok ov) (h:Q (.ref it) s) :
  wpAny (model prog w) A (pyIter (.ref it)) Q E s:=by
 have hT:s.TypeIs (.ref it) "dict_itemiterator":=⟨_,hit,rfl⟩
 refine wpAny_pyIter_slot hT F.slot_dict_itemiterator_iter (Qbs F.slot_dict_itemiterator_iter hT Pu ?_ (F.args_dict_itemiterator_iter_1 _))
 exact Qcq ⟨_,rfl,"dict_itemiterator",_,hT,Qac.lookup,h⟩
section
variable {a l:Addr} {o:Obj} {kvs:YM} {g:TG} {tb:TS} {D:Ends} {σ : St} {H:Hp} {tt:TT} {te tk tv:TE} {Q:VK}
theorem jP {K:YD} {xs:YG} {σ0:St} {H0:Hp} (Pv:YN) (h0:Pv 0 σ0 H0) (hl:∀i σ H',i<=xs.length->Pv i σ H'->SqT K H' a xs)
  (hs:∀i x σ H',xs[i]?=some x->Pv i σ H'->g x σ H' fun σ3 H3=>tt σ3 H3 λb H4=>if b=true then tk σ3 H4 λy H5=>tv σ3 H5 λz H6=>∃(kvs:YM) (k:Key),H6 l=some (.dK kvs)/\y=kV k/\kvs.length < sizeLine/\Pv (i+1) σ3 (upd H6 l (.dK (putK kvs k z))) else Pv (i+1) σ3 H4)
  (hd:∀ σ H',Pv xs.length σ H'->Q (.ref l) H'):Rp (Itt K a) g tt tk tv Q σ0 H0 l:=by
 unfold Rp
 refine⟨λi m σ H'=>m=xs.length - i/\i<=xs.length/\Pv i σ H',⟨xs.length,by simp,Qcl _,h0⟩,?_⟩
 rintro i m σ H' ⟨rfl,hi,p⟩
 have q:=hl i σ H' hi p
 by_cases hlt:i < xs.length
 ·refine .inr ⟨⟨xs,xs[i],q,by simp[hlt]⟩,Pv (i+1),fun σ3 H3 p'=>⟨xs.length - (i+1),by omega,rfl,hlt,p'⟩,λx H2 y=>?_⟩
  obtain⟨e,y⟩:=y
  subst e
  exact hs i x σ _ (y xs q) p
 ·have e:i=xs.length:=by omega
  subst e
  exact .inl ⟨⟨xs,q,Qck _⟩,hd σ H' p⟩
end
open PySem.W (KasT kas_asc kas_desc kas_rev kas_tail3 kas_descPart kas_count kas_place kas_bin kas_sort)
def Gi {α : Type} (n:Nat) (P:α->Prop):KasT α->Prop
 | .ret a=>P a
 | .ask i j k=>i < n/\j < n/\∀b,Gi n P (k b)
theorem Jd {α β : Type} {n:Nat} {P:α->Prop} {Q:β->Prop} {f:α->KasT β}:∀t:KasT α,Gi n P t->(∀a,P a->Gi n Q (f a))->Gi n Q (t.bind f)
 | .ret a,h,q=>q a h
 | .ask i j k,h,q=>⟨h.1,h.2.1,λb=>Jd (k b) (h.2.2 b) q⟩
def Pm (n:Nat) (p:Array Nat):Prop:=p.toList.Perm (List.range n)
theorem Pm.rev {n:Nat} {p:Array Nat} (h:Pm n p) (i j:Nat):Pm n (kas_rev p i j):=(Array.perm_iff_toList_perm.mp (mirror_perm p i j ((j - i) / 2))).trans h
theorem Pm.bub {n:Nat} {p:Array Nat} (h:Pm n p) (k d:Nat):Pm n (bubble p k d):=(Array.perm_iff_toList_perm.mp (bubble_perm p k d)).trans h
theorem Pm.lt {n:Nat} {p:Array Nat} (h:Pm n p) (n0:0 < n) (i:Nat):p.getD i 0 < n:=by
 by_cases hi:i < p.size
 ·have e:p.getD i 0=p[i]:=by simp[hi]
  rw[e]
  have hm:p[i]∈p.toList:=by simp
  exact QbR.mp (h.mem_iff.mp hm)
 ·have e:p.getD i 0=0:=by simp[hi]
  rw[e];exact n0
section
variable {n:Nat} (n0:0 < n)
include n0
theorem VD {p:Array Nat} (h:Pm n p):∀f k,Gi n (λ_=>True) (kas_asc p f k)
 | 0,k=>trivial
 | f+1,k=>⟨h.lt n0 _,h.lt n0 _,λb=>by
  cases b with
  | true=>exact trivial
  | false=>exact VD h f (k+1)⟩
theorem Pg:∀f (p:Array Nat),Pm n p->∀k q,Gi n (λr:Array Nat×Nat×Nat=>Pm n r.1) (kas_desc f p k q)
 | 0,p,h,k,q=>h
 | f+1,p,h,k,q=>⟨h.lt n0 _,h.lt n0 _,λb=>by
  cases b with
  | true=>
   show Gi n _ (if q > 0 then kas_desc f (kas_rev p (k - (q+1)) k) (k+1) 0 else kas_desc f p (k+1) 0)
   split
   ·exact Pg f _ (h.rev _ _) _ _
   ·exact Pg f _ h _ _
  | false=>exact⟨h.lt n0 _,h.lt n0 _,λd=>by
    cases d with
    | true=>exact h
    | false=>exact Pg f _ h _ _⟩⟩
theorem Zz {p:Array Nat} (h:Pm n p) (a b:Nat):Gi n (λr:Nat×Array Nat=>Pm n r.2) (kas_tail3 a b p):=
 Jd _ (VD n0 (h.rev 0 a) _ _) λm _=>h.rev 0 a
theorem QJ {p:Array Nat} (h:Pm n p) (a b:Nat):Gi n (λr:Nat×Array Nat=>Pm n r.2) (kas_descPart a b p):=
 Jd _ (Pg n0 _ p h _ _) λr hr=>by
  show Gi n _ (if r.2.2 > 0 then _ else _)
  split
  ·exact Zz n0 (Pm.rev hr _ _) _ _
  ·exact Zz n0 hr _ _
theorem Wk {p:Array Nat} (h:Pm n p) (a:Nat):Gi n (λr:Nat×Array Nat=>Pm n r.2) (kas_count a p):=
 Jd _ (VD n0 h _ _) λm _=>by
  show Gi n _ (if (m == a)=true then _ else if m > 1 then _ else _)
  split
  ·exact h
  ·split
   ·refine⟨h.lt n0 _,h.lt n0 _,λb=>?_⟩
    cases b with
    | true=>exact h
    | false=>exact QJ n0 (h.rev _ _) _ _
   ·exact QJ n0 h _ _
theorem QH {p:Array Nat} (h:Pm n p) (k:Nat):∀f l r,Gi n (λ_=>True) (kas_place p k f l r)
 | 0,_,_=>trivial
 | f+1,l,r=>by
  show Gi n _ (if l ≥ r then _ else _)
  split
  ·exact trivial
  ·refine⟨h.lt n0 _,h.lt n0 _,λb=>?_⟩
   cases b with
   | true=>exact QH h k f _ _
   | false=>exact QH h k f _ _
theorem cO:∀f (p:Array Nat),Pm n p->∀k,Gi n (Pm n) (kas_bin f p k)
 | 0,p,h,_=>h
 | f+1,p,h,k=>Jd _ (QH n0 h k _ _ _) λl _=>cO f _ (h.bub _ _) _
theorem ZC:Gi n (Pm n) (kas_sort n):=
 Jd _ (Wk n0 (p:=List.toArray (List.range n)) (show Pm n _ by unfold Pm;exact List.Perm.refl _) n) λr hr=>by
  show Gi n _ (if r.1 < n then _ else _)
  split
  ·exact cO n0 _ _ hr _
  ·exact hr
end
section
variable {prog:Program} {w:World} {A:Around} {E:YA} {s:Shared}
theorem XC {l:Addr} {vs:YE} {Q:YA} (hl:s.heap.IsList l vs.toArray) (h1:vs.length < 2)
  (h:∀D h' c,s.heap.objs.size<=D->h'.get? D=some (seqObj "list" vs.toArray c)->(∀b o,s.heap.get? b=some o->h'.get? b=some o)->Q (.ref D) { s with heap:=h' }):wpAny (model prog w) A (call (.builtin "sorted") [.ref l]) Q E s:=by
 have h2:vs.toArray.size < 2:=by rw[Qbe];exact h1
 have hz:vs.length<=sizeLine:=Qci (Aq (by omega))
 refine Calls.call_function_entry (Q:=Q) kind_sorted plain_sorted entry_sorted (args_sorted1 (.ref l)) ?_
 unfold Builtin.«sorted»
 refine Qcp (m:=checkCount "sorted" 1 1 [Value.ref l].length) (Qcq ?_)
 refine Qcp (collect_list (vs:=vs) hl ?_ hz)
 have k1:∀b o,s.heap.get? b=some o->((s.heap.push (seqObj "list" #[] 0)).update s.heap.objs.size (Obj.mapSeq (·++vs.toArray))).get? b=some o:=λb o q=>by
  rw[Qaz _ _ (Qcg (Qcb q))]
  exact Qav _ q
 have z1:((s.heap.push (seqObj "list" #[] 0)).update s.heap.objs.size (Obj.mapSeq (·++vs.toArray))).objs.size=s.heap.objs.size+1:=by rw[Heap.size_update,QbO]
 generalize ((s.heap.push (seqObj "list" #[] 0)).update s.heap.objs.size (Obj.mapSeq (·++vs.toArray)))=g1 at k1 z1
 refine Qcp (wpAny_newList ?_ hz)
 have oD:(g1.push (seqObj "list" vs.toArray 0)).get? g1.objs.size=some (seqObj "list" vs.toArray 0):=QaI _ rfl
 have k2:∀b o,s.heap.get? b=some o->b≠g1.objs.size/\(g1.push (seqObj "list" vs.toArray 0)).get? b=some o:=λb o q=>⟨by rw[z1];exact Qcd (Nat.lt_succ_of_lt (Qcb q)),Qav _ (k1 b o q)⟩
 refine Qcp (QbW (Qbs slot_list_sort ⟨_,oD,rfl⟩ entry_list_sort ?_ (args_list_sort _)))
 rw[list_sort_plain]
 have zD:s.heap.objs.size<=g1.objs.size:=by rw[z1];exact Nat.le_succ _
 generalize g1.objs.size=D at oD k2 zD
 generalize hg2:g1.push (seqObj "list" vs.toArray 0)=g2 at oD k2
 refine Qcp (listItems_at (a:=D) oD rfl ?_)
 refine Qcp (listUpdate_at (a:=D) oD rfl ?_ (by rw[Qbe];exact hz) (Qcl _))
 obtain⟨e1,o1⟩ : ∃e1,(g2.update D (Obj.mapSeq λ_=>(#[]:Array Value))).get? D=some (seqObj "list" #[] e1):=⟨_,get?_update_seq oD λ_=>#[]⟩
 have k3:∀b o,s.heap.get? b=some o->b≠D/\(g2.update D (Obj.mapSeq λ_=>(#[]:Array Value))).get? b=some o:=λb o q=>⟨(k2 b o q).1,by rw[Qaz _ _ (Ne.symm (k2 b o q).1)];exact (k2 b o q).2⟩
 have zip2:(arrOf (SortSt.mk' general' (vs.toArray.zip vs.toArray) #[] 7 none)).map (·.2)=vs.toArray:=by
  show (vs.toArray.zip vs.toArray).map (·.2)=vs.toArray
  apply Array.toList_inj.mp
  simp[Array.toList_zip,List.map_snd_zip]
 dsimp only
 generalize g2.update D (Obj.mapSeq λ_=>(#[]:Array Value))=g3 at o1 k3 ⊢
 refine Qcp (seqEpoch_at (a:=D) o1 rfl ?_)
 refine Qcp (wpAny_newTuple ?_ (by simpa using hz))
 refine Qcp (wpAny_newList (items:=[]) ?_ (Qcl _))
 refine QbW ?_
 have o5:∀x y:Obj,((g3.push x).push y).get? D=some (seqObj "list" #[] e1):=λx y=>Qav _ (Qav _ o1)
 have k5:∀x y:Obj,∀b o,s.heap.get? b=some o->b≠D/\((g3.push x).push y).get? b=some o:=λx y b o q=>⟨(k3 b o q).1,Qav _ (Qav _ (k3 b o q).2)⟩
 dsimp only
 rw[if_pos h2,if_pos h2]
 refine Qcp (Qcq ?_)
 rw[StateT.run_pure]
 refine Qcp (Qcq ?_)
 dsimp only
 refine Qcp (seqEpoch_at (a:=D) (o5 _ _) rfl ?_)
 rw[zip2]
 refine Qcp (listUpdate_at (a:=D) (o5 _ _) rfl ?_ (Qcl _) (by first | (rw[Qbe];exact hz) | (rw[Qbe];omega)))
 simp only[bne_self_eq_false,Bool.false_eq_true,if_false]
 obtain⟨c,oF⟩ : ∃c,(((g3.push { cls:=.type "tuple",data:=.seq vs.toArray }).push { cls:=.type "list",data:=.seq #[] }).update D (Obj.mapSeq λ_=>vs.toArray)).get? D=some (seqObj "list" vs.toArray c):=⟨_,get?_update_seq (o5 _ _) λ_=>vs.toArray⟩
 refine Qcq ⟨_,rfl,Qcq ⟨_,rfl,h D _ c zD oF λb o q=>?_⟩⟩
 rw[Qaz _ _ (Ne.symm (k3 b o q).1)]
 exact (k5 _ _ b o q).2
end
theorem rE {h:Heap} {a:Addr} {m m':YB} (x:h.Ns a m) (y:h.Ns a m'):m=m':=by
 obtain⟨o,es,ep,h1,h2,_,h3⟩:=x
 obtain⟨o',es',ep',g1,g2,_,g3⟩:=y
 rw[h1] at g1
 cases g1
 rw[h2] at g2
 cases g2
 funext k
 rw[<-h3,<-g3]
theorem VR {α β : Type} (d:α) (e:β):∀{vs:List α} {its:List β} {F:α->β->Prop} {is:List Nat},Paired F vs its->(∀i∈is,i < vs.length)->Paired F (is.map λi=>vs.getD i d) (is.map λi=>its.getD i e)
 | vs,its,F,[],_,_=>.nil
 | vs,its,F,i::is,r,h=>by
  refine .cons ?_ (VR d e r λj hj=>h j (QaF _ hj))
  have hi:=h i (QaQ ..)
  have go:∀{l:List α} {m:List β} {i:Nat},Paired F l m->i < l.length->F (l.getD i d) (m.getD i e):=by
   intro l m i r
   induction r generalizing i with
   | nil=>intro h;exact absurd h (QbK _)
   | cons a t ih=>
    intro h
    cases i with
    | zero=>exact a
    | succ i=>exact ih (Nat.lt_of_succ_lt_succ h)
  exact go r hi
theorem range_getD {α : Type} (d:α) (vs:List α):(List.range vs.length).map (λi=>vs.getD i d)=vs:=by
 apply List.ext_getElem
 ·simp
 ·intro i h1 h2
  simp[h2]
def fX (K:YD) (H:Hp) (vs:YG):Prop:=∀v∈vs,∃t ns,v=.ref t/\SqT K H t ((ns:List Int).map V.int)/\0 < ns.length
theorem bQ {X:Cx} {pins:YC} {σ : St} {H:Hp} {s:Shared} {h':Heap} (I:Inv X pins σ H s) (k:∀b o,H b≠none\/(∃u,X.base.get? b=some u)->s.heap.get? b=some o->h'.get? b=some o):∀{vs:YG} {its:YE},Vals vs its->fX X.K H vs ->
  ∃fs,PySem.W.KatTups h' its fs/\fs.length=its.length/\∀f∈fs,∃i t,f=Value.int i t
 | _,_,.nil,_=>⟨[],trivial,rfl,λf h=>nomatch h⟩
 | _,_,.cons r t,h=>by
  obtain⟨fs,f1,f2,f3⟩:=bQ I k t λv hv=>h v (QaF _ hv)
  obtain⟨tp,ns,rfl,hq,hn⟩:=h _ (QaQ ..)
  cases r
  obtain⟨its,rv,⟨o,ho,hc,n,hd⟩,_⟩:=I.tuple hq
  have ho':h'.get? tp=some o:=by
   refine k tp o ?_ ho
   rcases hq with (e |⟨_,e⟩) |⟨_,_,_,e,_⟩
   ·exact .inl (by rw[e];exact λz=>nomatch z)
   ·exact .inl (by rw[e];exact λz=>nomatch z)
   ·exact .inr ⟨_,I.mod.kin _ _ e⟩
  cases ns with
  | nil=>exact absurd hn (QbV _)
  | cons n0 nr=>
   cases rv with
   | cons r0 rr=>
    obtain⟨tk,rfl⟩:=r0
    exact⟨Value.int n0 tk::fs,PySem.W.KatTups.cons ho' hc hd (by simp) f1,by simp[f2],λf hf=>by
     rcases QbT.mp hf with rfl | hf
     ·exact⟨_,_,rfl⟩
     ·exact f3 f hf⟩
end L2
namespace L2
open PySem PySem.Spec PyProof.Rows
open PySem.W (KasT kas_asc kas_desc kas_rev kas_tail3 kas_descPart kas_count kas_place kas_bin kas_sort)
def EY {α : Type} (lt:Nat->Nat->Bool):KasT α->α
 | .ret a=>a
 | .ask i j k=>EY lt (k (lt i j))
theorem Jc {α β : Type} {lt:Nat->Nat->Bool} {f:α->KasT β}:∀t:KasT α,EY lt (t.bind f)=EY lt (f (EY lt t))
 | .ret a=>rfl
 | .ask i j k=>Jc (k (lt i j))
theorem Sq {α : Type} {lt:Nat->Nat->Bool} {n:Nat} {P:α->Prop}:∀t:KasT α,Gi n P t->P (EY lt t)
 | .ret a,h=>h
 | .ask i j k,h=>Sq (k (lt i j)) (h.2.2 _)
theorem bR {α : Type} {lt:Nat->Nat->Bool} {n:Nat} {P:α->Prop} {Q:α->Shared->Prop} {s:Shared} {cmp:Nat->Nat->(Bool->Shared->Prop)->Shared->Prop} (hc:∀i j C,i < n->j < n->C (lt i j) s->cmp i j C s):∀t:KasT α,Gi n P t->Q (EY lt t) s->t.kasWp cmp Q s
 | .ret a,h,q=>q
 | .ask i j k,h,q=>hc i j _ h.1 h.2.1 (bR hc (k (lt i j)) (h.2.2 _) q)
section
variable {n:Nat} {ky:Nat->Int}
def Gk (ky:Nat->Int) (p:Array Nat) (i:Nat):Int:=ky (p.getD i 0)
def ltK (ky:Nat->Int) (i j:Nat):Bool:=decide (ky i < ky j)
def Inj (n:Nat) (ky:Nat->Int):Prop:=∀i j,i < n->j < n->ky i=ky j->i=j
def VF (ky:Nat->Int) (p:Array Nat) (m:Nat):Prop:=∀i,i+1 < m->Gk ky p i < Gk ky p (i+1)
def Fall (ky:Nat->Int) (p:Array Nat) (m:Nat):Prop:=∀i,i+1 < m->Gk ky p (i+1) < Gk ky p i
def Kg (ky:Nat->Int) (p:Array Nat) (m:Nat):Prop:=∀i j,i < j->j < m->Gk ky p i < Gk ky p j
theorem VF.all {p:Array Nat} {m:Nat} (h:VF ky p m):Kg ky p m:=λi j hij hj=>by
 induction j with
 | zero=>omega
 | succ j ih=>
  have h1:=h j hj
  by_cases e:i=j
  ·rw[e];exact h1
  ·exact Int.lt_trans (ih (by omega) (by omega)) h1
theorem jf {α : Type} {l:List α} (nd:l.Nodup) {i j:Nat} (hi:i < l.length) (hj:j < l.length) (e:l[i]=l[j]):i=j:=by
 rcases Nat.lt_trichotomy i j with h | h | h
 ·exact absurd e (Qaj.mp nd i j hi hj h)
 ·exact h
 ·exact absurd e.symm (Qaj.mp nd j i hj hi h)
theorem Pm.size {p:Array Nat} (h:Pm n p):p.size=n:=by
 have:=List.Perm.length_eq h
 simpa using this
theorem Pm.ne (hi:Inj n ky) {p:Array Nat} (h:Pm n p) {i j:Nat} (a:i < n) (b:j < n) (ne:i≠j):Gk ky p i≠Gk ky p j:=λe=>by
 have n0:0 < n:=by omega
 have hs:=h.size
 have e:=hi _ _ (h.lt n0 i) (h.lt n0 j) e
 have nd:p.toList.Nodup:=(List.Perm.nodup_iff h).mpr List.nodup_range
 have e1:p.getD i 0=p.toList[i]'(by simp[hs,a]):=by simp[hs,a]
 have e2:p.getD j 0=p.toList[j]'(by simp[hs,b]):=by simp[hs,b]
 rw[e1,e2] at e
 exact ne (jf nd _ _ e)
theorem Vb (hi:Inj n ky) {p:Array Nat} (h:Pm n p):∀f k,1<=k->k+f<=n->VF ky p k->∃m,EY (ltK ky) (kas_asc p f k)=m/\k<=m/\m<=k+f/\VF ky p m/\(m < k+f->Gk ky p m < Gk ky p (m - 1))
 | 0,k,_,_,r=>⟨k,rfl,Qck _,Qck _,r,λz=>absurd z (QbV _)⟩
 | f+1,k,h1,h2,r=>by
  show ∃m,EY (ltK ky) (if ltK ky (p.getD k 0) (p.getD (k - 1) 0)=true then KasT.ret k else kas_asc p f (k+1))=m/\_
  by_cases c:Gk ky p k < Gk ky p (k - 1)
  ·rw[if_pos (show ltK ky _ _=true from QbN c)]
   exact⟨k,rfl,Qck _,by omega,r,λ_=>c⟩
  ·rw[if_neg (show ¬ltK ky _ _=true from λz=>c (Qbl z))]
   obtain⟨m,e,a,b,d,g⟩:=Vb hi h f (k+1) (by omega) (by omega) (λi hi'=>by
    by_cases e:i+1=k
    ·have:=h.ne hi (i:=i) (j:=i+1) (by omega) (by omega) (by omega)
     have c:¬Gk ky p (i+1) < Gk ky p i:=by rw[<-e] at c;exact c
     omega
    ·exact r i (by omega))
   exact⟨m,e,by omega,by omega,d,λz=>g (by omega)⟩
theorem Yb (hi:Inj n ky) {p:Array Nat} (h:Pm n p):∀f k,1<=k->k+f<=n->Fall ky p k->∃m,EY (ltK ky) (kas_desc f p k 0)=(p,m,0)/\k<=m/\m<=k+f/\Fall ky p m
 | 0,k,_,_,r=>⟨k,rfl,Qck _,Qck _,r⟩
 | f+1,k,h1,h2,r=>by
  show ∃m,EY (ltK ky) (if ltK ky (p.getD k 0) (p.getD (k - 1) 0)=true then (if 0 > 0 then kas_desc f (kas_rev p (k - (0+1)) k) (k+1) 0 else kas_desc f p (k+1) 0) else KasT.ask (p.getD (k - 1) 0) (p.getD k 0) λd=>if d=true then KasT.ret (p,k,0) else kas_desc f p (k+1) (0+1))=(p,m,0)/\_
  by_cases c:Gk ky p k < Gk ky p (k - 1)
  ·rw[if_pos (show ltK ky _ _=true from QbN c),if_neg (QbV 0)]
   obtain⟨m,e,a,b,d⟩:=Yb hi h f (k+1) (by omega) (by omega) (λi hi'=>by
    by_cases e:i+1=k
    ·rw[<-e] at c;exact c
    ·exact r i (by omega))
   exact⟨m,e,by omega,by omega,d⟩
  ·rw[if_neg (show ¬ltK ky _ _=true from λz=>c (Qbl z))]
   have ne:=h.ne hi (i:=k) (j:=k - 1) (by omega) (by omega) (by omega)
   show ∃m,EY (ltK ky) (if ltK ky (p.getD (k - 1) 0) (p.getD k 0)=true then KasT.ret (p,k,0) else kas_desc f p (k+1) (0+1))=(p,m,0)/\_
   rw[if_pos (show ltK ky _ _=true from QbN (show Gk ky p (k - 1) < Gk ky p k by omega))]
   exact⟨k,rfl,Qck _,by omega,r⟩
theorem Xb {p q:Array Nat} {i j:Nat} (e:p[i]?=q[j]?):Gk ky p i=Gk ky q j:=by
 unfold Gk
 rw[Array.getD_eq_getD_getElem?,Array.getD_eq_getD_getElem?,e]
theorem j8 {p:Array Nat} {m i:Nat} (hm:m<=p.size) (hi:i < m):Gk ky (kas_rev p 0 m) i=Gk ky p (m - 1 - i):=by
 apply Xb
 unfold kas_rev
 rw[getElem?_mirror_all hm,if_pos ⟨Qcl _,hi⟩]
 congr 1
 omega
theorem j9 {p:Array Nat} {k l i:Nat} (hk:k < p.size) (hl:l<=k):Gk ky (bubble p k (k - l)) i=if i=l then Gk ky p k else if l < i/\i<=k then Gk ky p (i - 1) else Gk ky p i:=by
 have e:=getElem?_bubble hk (k - l) (by omega) i
 rw[show k - (k - l)=l by omega] at e
 split at e
 ·rename_i h;rw[if_pos h];exact Xb e
 ·rename_i h
  rw[if_neg h]
  split at e
  ·rename_i h;rw[if_pos h];exact Xb e
  ·rename_i h;rw[if_neg h];exact Xb e
def Done (n:Nat) (ky:Nat->Int) (r:Nat×Array Nat):Prop:=1<=r.1/\r.1<=n/\VF ky r.2 r.1
theorem lX (hi:Inj n ky) {p:Array Nat} (h:Pm n p) {m:Nat} (h1:1<=m) (h2:m<=n) (f:Fall ky p m):Done n ky (EY (ltK ky) (kas_tail3 m n p)):=by
 have hs:=h.size
 have r0:VF ky (kas_rev p 0 m) m:=λi hi'=>by
  rw[j8 (by omega) (by omega),j8 (by omega) (by omega)]
  have:=f (m - 1 - (i+1)) (by omega)
  rw[show m - 1 - (i+1)+1=m - 1 - i by omega] at this
  exact this
 obtain⟨k,e,a,b,d,_⟩:=Vb hi (h.rev 0 m) (n - m) m h1 (by omega) r0
 unfold kas_tail3
 rw[Jc,e]
 exact⟨by show 1<=k;omega,by show k<=n;omega,d⟩
theorem iB (hi:Inj n ky) {p:Array Nat} (h:Pm n p) (n0:2<=n):Done n ky (EY (ltK ky) (kas_count n p)):=by
 obtain⟨m,e,a,b,d,g⟩:=Vb hi h (n - 1) 1 (Qck _) (by omega) (λi hi'=>by omega)
 unfold kas_count
 rw[Jc,e]
 by_cases c1:m=n
 ·rw[if_pos (by rw[c1];exact beq_self_eq_true n)]
  exact⟨a,by show m<=n;omega,d⟩
 ·rw[if_neg (λz=>c1 (eq_of_beq z))]
  by_cases c2:m > 1
  ·rw[if_pos c2]
   show Done n ky (EY (ltK ky) (if ltK ky (p.getD 0 0) (p.getD (m - 1) 0)=true then KasT.ret (m,p) else kas_descPart m n (kas_rev p 0 m)))
   rw[if_pos (show ltK ky _ _=true from QbN (d.all 0 (m - 1) (by omega) (by omega)))]
   exact⟨a,by show m<=n;omega,d⟩
  ·rw[if_neg c2]
   have m1:m=1:=by omega
   subst m1
   have g:=g (by omega)
   obtain⟨k,e,a,b,d⟩:=Yb hi h (n - (1+1)) (1+1) (by omega) (by omega) (λi hi'=>by
    have:i=0:=by omega
    subst this
    exact g)
   unfold kas_descPart
   rw[Jc,e]
   show Done n ky (EY (ltK ky) (if 0 > 0 then _ else kas_tail3 k n p))
   rw[if_neg (QbV 0)]
   exact lX hi h (by omega) (by omega) d
theorem Qk (hi:Inj n ky) {p:Array Nat} (h:Pm n p) {k:Nat} (hk:k < n) (R:Kg ky p k):∀f l r,r<=l+f->l<=r->r<=k->(∀i,i < l->Gk ky p i < Gk ky p k)->(∀i,r<=i->i < k->Gk ky p k < Gk ky p i)->∃m,EY (ltK ky) (kas_place p k f l r)=m/\m<=k/\(∀i,i < m->Gk ky p i < Gk ky p k)/\∀i,m<=i->i < k->Gk ky p k < Gk ky p i
 | 0,l,r,h1,h2,h3,h4,h5=>⟨l,rfl,by omega,h4,λi a b=>h5 i (by omega) b⟩
 | f+1,l,r,h1,h2,h3,h4,h5=>by
  unfold kas_place
  by_cases c:l ≥ r
  ·rw[if_pos c]
   exact⟨l,rfl,by omega,h4,λi a b=>h5 i (by omega) b⟩
  ·rw[if_neg c]
   show ∃m,EY (ltK ky) (if ltK ky (p.getD k 0) (p.getD ((l+r) / 2) 0)=true then kas_place p k f l ((l+r) / 2) else kas_place p k f ((l+r) / 2+1) r)=m/\_
   have hm:(l+r) / 2 < r/\l<=(l+r) / 2:=by omega
   generalize (l+r) / 2=q at hm ⊢
   by_cases d:Gk ky p k < Gk ky p q
   ·rw[if_pos (show ltK ky _ _=true from QbN d)]
    refine Qk hi h hk R f l q (by omega) (by omega) (by omega) h4 λi a b=>?_
    by_cases e:i=q
    ·rw[e];exact d
    ·exact Int.lt_trans d (R q i (by omega) b)
   ·rw[if_neg (show ¬ltK ky _ _=true from λz=>d (Qbl z))]
    refine Qk hi h hk R f (q+1) r (by omega) (by omega) (by omega) (λi a=>?_) h5
    have ne:=h.ne hi (i:=q) (j:=k) (by omega) (by omega) (by omega)
    have lt:Gk ky p q < Gk ky p k:=by omega
    by_cases e:i=q
    ·rw[e];exact lt
    ·exact Int.lt_trans (R i q (by omega) (by omega)) lt
theorem bI (hi:Inj n ky):∀f (p:Array Nat),Pm n p->∀k,k+f=n->Kg ky p k->Kg ky (EY (ltK ky) (kas_bin f p k)) n
 | 0,p,h,k,e,R=>by rw[<-e];exact R
 | f+1,p,h,k,e,R=>by
  have hs:=h.size
  show Kg ky (EY (ltK ky) ((kas_place p k k 0 k).bind λl=>kas_bin f (bubble p k (k - l)) (k+1))) n
  rw[Jc]
  obtain⟨l,el,a,b,c⟩:=Qk hi h (k:=k) (by omega) R k 0 k (by omega) (Qcl _) (Qck _) (λi z=>absurd z (QbK _)) (λi x y=>by omega)
  rw[el]
  refine bI hi f _ (h.bub _ _) (k+1) (by omega) λi j hij hj=>?_
  rw[j9 (by omega) a,j9 (by omega) a]
  by_cases ei:i=l
  ·rw[if_pos ei,if_neg (by omega),if_pos ⟨by omega,by omega⟩]
   exact c _ (by omega) (by omega)
  ·rw[if_neg ei]
   by_cases ej:j=l
   ·rw[if_neg (by omega),if_pos ej]
    exact b _ (by omega)
   ·rw[if_neg ej]
    by_cases gi:l < i
    ·rw[if_pos ⟨gi,by omega⟩,if_pos ⟨by omega,by omega⟩]
     exact R _ _ (by omega) (by omega)
    ·rw[if_neg (λz=>gi z.1)]
     by_cases gj:l < j
     ·rw[if_pos ⟨gj,by omega⟩]
      exact R _ _ (by omega) (by omega)
     ·rw[if_neg (λz=>gj z.1)]
      exact R _ _ (by omega) (by omega)
theorem lY (hi:Inj n ky) (n0:2<=n):Kg ky (EY (ltK ky) (kas_sort n)) n:=by
 have h0:Pm n (List.toArray (List.range n)):=by unfold Pm;exact List.Perm.refl _
 obtain⟨a,b,c⟩:=iB hi h0 n0
 have hp:=Sq (lt:=ltK ky) _ (Wk (by omega) h0 n)
 unfold kas_sort
 rw[Jc]
 generalize EY (ltK ky) (kas_count n (List.toArray (List.range n)))=r at a b c hp
 show Kg ky (EY (ltK ky) (if r.1 < n then kas_bin (n - max r.1 1) r.2 (max r.1 1) else KasT.ret r.2)) n
 have em:max r.1 1=r.1:=by omega
 by_cases d:r.1 < n
 ·rw[if_pos d,em]
  exact bI hi _ _ hp _ (by omega) c.all
 ·rw[if_neg d]
  have:r.1=n:=by omega
  rw[<-this]
  exact c.all
theorem Kg.list {p:Array Nat} (h:Pm n p) (R:Kg ky p n):(p.toList.map ky).Pairwise (· < ·):=by
 have hs:=h.size
 rw[Qaj]
 intro i j hi hj hij
 have hi':i < n:=by simpa [hs] using hi
 have hj':j < n:=by simpa [hs] using hj
 have:=R i j hij hj'
 unfold Gk at this
 have e1:p.getD i 0=p[i]'(by omega):=by simp[hs,hi']
 have e2:p.getD j 0=p[j]'(by omega):=by simp[hs,hj']
 rw[e1,e2] at this
 simpa using this
end
theorem ZM {α β : Type} (d:α) (e:β) {F:α->β->Prop}:∀{l:List α} {m:List β} {i:Nat},Paired F l m->i < l.length->F (l.getD i d) (m.getD i e):=by
 intro l m i r
 induction r generalizing i with
 | nil=>intro h;exact absurd h (QbK _)
 | cons a t ih=>
  intro h
  cases i with
  | zero=>exact a
  | succ i=>exact ih (Nat.lt_of_succ_lt_succ h)
section
variable {prog:Program} {w:World} {A:Around} {s:Shared}
theorem vA {fin:Bool} {C:Bool->Shared->Prop} (hC:C fin s):∀(l:YE),(∀y∈l,∃a t,y=Value.int a t)->∀i,PySem.W.KatLex prog w A true fin C (l.zip l) i s
 | [],_,_=>hC
 | y::r,h,i=>by
  obtain⟨a,t,rfl⟩:=h y (QaQ ..)
  rw[List.zip_cons_cons]
  refine kat_cons (wpAny_eqBool_int ?_)
  rw[show (a == a)=true from beq_self_eq_true a]
  exact PySem.W.kat_yes (vA hC r (λy hy=>h y (QaF _ hy)) (i+1))
end
end L2
namespace PySem
open Sem (wp)
open AutoSeq1 (wpAny_loadPart')
section
variable {prog:Program} {w:World} {A:Around} {E:YA} {s:Shared}
theorem Vw {e it l:Addr} {i:Nat} {j:Int} {items:Array Value} {old:Value} {Q:Option Value->Shared->Prop} (hh:A.handled=none) (he:IsEnum s.heap e it j old) (hit:s.heap.IsListIter it l i) (hl:s.heap.IsList l items) (hx:items[i]?=none)
  (hQ:∀h',Heap.ExtBut it s.heap h'->Q none { s with heap:=h' }):wpAny (model prog w) A (pyNext (.ref e)) Q E s:=by
 have hT:s.TypeIs (.ref e) "enumerate":=⟨_,he,rfl⟩
 unfold pyNext
 refine Qcp (QbZ (Qaq (name:=Str.ofString "__next__") hT F.slot_enumerate_next (Qbs F.slot_enumerate_next hT F.entry_enumerate_next ?_ (F.args_enumerate_next_1 _))))
 show wpAny _ _ (field (.ref e) 2 >>= _) _ _ _
 refine Qcp (Qcn he rfl (x:=.ref it) rfl (Qcp (wpAny_nextOf_list_end hh hit hl hx λh' x he' hx'=>?_)))
 obtain⟨o,ho,hc⟩:=hx'
 exact Qcp (wpAny_isInstance (T:="StopIteration") (b:=true) ⟨o,ho,hc⟩ isSubtype_stop (Qcq (hQ _ he')))
end
end PySem
namespace L2
open PySem PySem.Spec PyProof.Rows
def QL (K:YD) (a:Addr) (lo:Nat):It:=
 ⟨λi H=>∃xs x,SqL K H a xs/\xs[i]?=some x,λi H v H'=>∃p x,H p=none/\v=.ref p/\H'=upd H p (.tup [.int ((lo+i:Nat):Int),x])/\∀xs,SqL K H a xs->xs[i]?=some x,λi H=>∃xs,SqL K H a xs/\xs.length<=i⟩
theorem cW {P:Program} {w:World} {K:YD} {elts:YJ} {k:Nat} {pos:Pos} (a e it:Addr) (lo:Nat) (nei:e≠it):Turn P w K (.Tuple elts k pos) (QL K a lo) [e,it] e (λi h=>(∃old,IsEnum h e it ((lo+i:Nat):Int) old)/\h.IsListIter it a i) where
 mem:=by simp
 obj:=λi h st b hb=>by
  obtain⟨⟨old,he⟩,o,ho,hc,hd⟩:=st
  rcases QbT.mp hb with rfl | hb
  ·exact⟨_,he,λv z=>by cases (show Data.fields _=Data.cell v from z)⟩
  ·have:b=it:=by simpa using hb
   subst this
   exact⟨o,ho,λv z=>by rw[hd] at z;cases z⟩
 keep:=λi h h' st k=>by
  obtain⟨⟨old,he⟩,hi⟩:=st
  exact⟨⟨old,k e (by simp) _ he⟩,hi.at λo q=>k it (by simp) o q⟩
 item:=by
  intro X hP hw hK hc i pins s σ H E I hf st hg
  subst hP hw hK
  obtain⟨xs,x,hq,hx⟩:=hg
  obtain⟨its,rv,p,hz⟩:=I.list hq
  obtain⟨u,hu,ru⟩:=rv.get hx
  obtain⟨⟨old,he⟩,hit⟩:=st
  have hts:s.heap.IsList a its.toArray:=p.isList
  have ane:a≠e:=λz=>by
   obtain⟨o,ho,hcl,_⟩:=hts
   rw[z,he] at ho
   cases ho
   injection hcl with q
   exact absurd q (by decide)
  have ani:a≠it:=λz=>by
   obtain⟨o,ho,hcl,_⟩:=hts
   obtain⟨o',ho',hcl',_⟩:=hit
   rw[z,ho'] at ho
   cases ho
   rw[hcl'] at hcl
   injection hcl with q
   exact absurd q (by decide)
  have hlt:i < its.toArray.size:=by
   have:=(Qag.mp hu).1
   simpa using this
  have D:=(Draws.list (prog:=X.prog) (w:=X.w) (A:=X.A.in1) (I.ok.hd hc) it a ani its.toArray).from lo
  refine wpAny_pyNext_enum_itemD D he ⟨i,rfl,Qci hlt,hit,hts⟩ (by omega) nei (by simp[nei,ane.symm]) λy h1 tk hP ho hst hT hsz hk=>?_
  obtain⟨i',ei,hy⟩:=hP
  have:i'=i:=by omega
  subst this
  have ey:y=u:=by
   have h2:its.toArray[i']?=some u:=by simpa using hu
   rw[h2] at hy
   exact (QbD hy).symm
  subst ey
  refine⟨_,rfl,wpAny_letOwnedTupleGo_enum ho λh2 he2 hs2=>?_⟩
  have hlt2:s.heap.objs.size≠e:=Qcg (Qcb he)
  have hT2:h2.get? s.heap.objs.size=some { cls:=.type "tuple",data:=.seq #[.int ((lo+i':Nat):Int) tk,y] }:=(hs2.2 _ hlt2).trans hT
  have new:Bs X.prog X.w (upd H s.heap.objs.size (.tup [.int ((lo+i':Nat):Int),x])) h2 s.heap.objs.size (.tup [.int ((lo+i':Nat):Int),x]):=
   ⟨by show 2<=sizeLine;decide,[.int ((lo+i':Nat):Int) tk,y],.cons ⟨tk,rfl⟩ (.cons ru .nil),_,hT2,rfl,0,rfl⟩
  have I1:=I.Mz (h':=h2) (t':=tk+1) (Qck _) (λb q hb z=>(hs2.2 b (λw=>hb (by simp[w]))).trans (hk b q (λw=>hb (by simp[w])) (λw=>hb (by simp[w])) z)) hf new
  refine⟨.ref s.heap.objs.size,_,I1,rfl,⟨s.heap.objs.size,x,I.hok.fresh (Qck _),rfl,rfl,λys hy'=>by rw[I.Y0 hy' hq];exact hx⟩,⟨⟨y,?_⟩,?_⟩,λb hb=>?_⟩
  ·have:=he2
   rw[show ((lo+(i'+1):Nat):Int)=((lo+i':Nat):Int)+1 by omega]
   exact this
  ·obtain⟨i2,e2,_,st2,_⟩:=hst
   have:i2=i'+1:=by omega
   subst this
   exact st2.at λo q=>(hs2.2 it (Ne.symm nei)).trans q
  ·have hb':b < s.heap.objs.size:=by
    rcases QbT.mp hb with rfl | hb
    ·exact Qcb he
    ·have:b=it:=by simpa using hb
     subst this
     obtain⟨o,ho',_⟩:=hit
     exact Qcb ho'
   rw[Al (Qcd hb')]
   exact (hf b hb).1
 done:=by
  intro X hP hw hK hc i pins s σ H E I hf st hg
  subst hP hw hK
  obtain⟨xs,hq,hx⟩:=hg
  obtain⟨its,rv,p,hz⟩:=I.list hq
  obtain⟨⟨old,he⟩,hit⟩:=st
  have hl:=rv.length
  exact Vw (I.ok.hd hc) he hit p.isList (by simp;omega) λh' eb=>⟨rfl,I.Le (t':=s.toks) (λb o hb q=>eb b o (λz=>hb (by simp[z])) q) hf⟩
 self:=λ_ _ _ _ _ st h=>let ⟨⟨_,he⟩,_⟩:=st;wpAny_pyIter_enum he h
section
variable {X:Cx}
theorem oV {pins:YC} {σ : St} {H:Hp} {s:Shared} {R:It->Hp->Prop} {E:YA} {elts:YJ} {k:Nat} {pos:Pos} {a:Addr} {lo:Nat} {tk:Nat} (I:Inv X pins σ H s) (q:R (QL X.K a lo) H) :
  wpAny (model X.prog X.w) X.A (pyIter (.ref (s.heap.objs.size+1))) (PIE X pins σ (.Tuple elts k pos) R) E
   { s with heap:=(s.heap.push { cls:=.type "list_iterator",data:=.fields #[.ref a,.int 0 0] }).push { cls:=.type "enumerate",data:=.fields #[.none,.bool false,.ref s.heap.objs.size,rawInt (lo:Int),.none,.none] },toks:=tk }:=by
 have hz:(s.heap.push { cls:=.type "list_iterator",data:=.fields #[.ref a,.int 0 0] }).objs.size=s.heap.objs.size+1:=QbO ..
 have he:IsEnum ((s.heap.push { cls:=.type "list_iterator",data:=.fields #[.ref a,.int 0 0] }).push { cls:=.type "enumerate",data:=.fields #[.none,.bool false,.ref s.heap.objs.size,rawInt (lo:Int),.none,.none] }) (s.heap.objs.size+1) s.heap.objs.size (lo:Int) .none:=by
  have:=QaI (s.heap.push { cls:=.type "list_iterator",data:=.fields #[.ref a,.int 0 0] }) (o:={ cls:=.type "enumerate",data:=.fields #[.none,.bool false,.ref s.heap.objs.size,rawInt (lo:Int),.none,.none] }) rfl
  rw[hz] at this
  exact this
 refine wpAny_pyIter_enum he ⟨s.heap.objs.size+1,[s.heap.objs.size+1,s.heap.objs.size],_,_,H,rfl,I.kept (t':=tk) λb o e=>Qav _ (Qav _ e),cW a (s.heap.objs.size+1) s.heap.objs.size lo (Nat.succ_ne_self _),⟨⟨.none,he⟩,⟨_,Qav _ (QaI _ rfl),rfl,rfl⟩⟩,λb hb=>?_,q⟩
 have hb':s.heap.objs.size<=b:=by
  simp only[QbT,Qbr,Qct] at hb
  rcases hb with rfl | rfl
  ·exact Nat.le_succ _
  ·exact Qck _
 exact I.O6 hb' (I.hok.fresh hb')
end
section
variable {X:Cx}
def vM (K:YD) (lo:Nat) (tl:TE):TI:=fun σ H R=>tl σ H λx H1=>∃a,x=.ref a/\(∃xs,SqL K H1 a xs)/\R (QL K a lo) H1
theorem ak {pins:YC} {σ : St} {H:Hp} {s:Shared} {R:It->Hp->Prop} {elts:YJ} {k:Nat} {pos:Pos} {a:Addr} {xs:YG} (I:Inv X pins σ H s) (hq:SqL X.K H a xs) (q:R (QL X.K a 0) H) :
  wpAny (model X.prog X.w) X.A (call (.type "enumerate") [.ref a]) (λv s1=>wpAny (model X.prog X.w) X.A (pyIter v) (PIE X pins σ (.Tuple elts k pos) R) X.xe s1) X.xe s:=by
 obtain⟨its,rv,p,hz⟩:=I.list hq
 obtain⟨⟨c,dct,dt,sl⟩,hl,hc,n,hd⟩:=p.isList
 replace hc:c=.type "list":=hc
 replace hd:dt=.seq its.toArray n:=hd
 subst hc hd
 refine callType_new F.called_enumerate (by decide) (F.typeCall_enumerate_1 _) (F.newCall_enumerate_1 _) (λobj=>F.args_object_init_2 obj _) F.entry_enumerate_new (meets_enumerate_newL a its.toArray n dct sl) ⟨hl,?_⟩
 have hz:(s.heap.push { cls:=.type "list_iterator",data:=.fields #[.ref a,.int 0 0] }).objs.size=s.heap.objs.size+1:=QbO ..
 show _/\_
 refine⟨⟨_,QaI _ rfl,rfl⟩,?_⟩
 rw[hz]
 exact oV (lo:=0) (tk:=s.toks) I q
end
section
variable {X:Cx}
theorem iK {x:Expr} {tx:TE} {p pos tp:Pos} {elts:YJ} {k:Nat} (hg:Gl X "enumerate") (hm:X.mg "enumerate"=none) (hl:PE X x tx) (hs:starEach [x] X.env=[(false,eval x X.env)]:=by rfl):PI X (.Tuple elts k tp) (.Call (.Name "enumerate" p) [x] [] pos) (vM X.K 0 tx):=by
 intro pins s σ H R I h
 refine Call_ (KD I hg hm boot_enumerate (Qae (thn ((Aa hl Ac (by rw[hs];rfl)) pos pins s σ H (λvs H1=>match vs with | [v]=>∃a,v=.ref a/\(∃xs,SqL X.K H1 a xs)/\R (QL X.K a 0) H1 | _=>False) I h) λus s1 ⟨vs,H1,I1,r1,q1⟩=>?_) hs rfl))
 cases r1 with
 | nil=>exact False.elim q1
 | cons r rr=>
  cases rr with
  | nil=>
   obtain⟨a,e,⟨xs,hq⟩,q⟩:=q1
   subst e
   cases r
   exact ak I1 hq q
  | cons _ _=>exact False.elim q1
theorem jK {K:YD} {a:Addr} {lo:Nat} {xs:YG} {g:TG} {tb:TS} {D:Ends} {σ : St} {H:Hp} (Pv:YN) (h0:Pv 0 σ H) (hl:∀i σ H',i<=xs.length->Pv i σ H'->SqL K H' a xs)
  (hs:∀i x p σ H',xs[i]?=some x->Pv i σ H'->H' p=none->g (.ref p) σ (upd H' p (.tup [.int ((lo+i:Nat):Int),x])) fun σ2 H2=>tb { D with nx:=Pv (i+1),ct:=Pv (i+1),bk:=D.nx } σ2 H2) (hd:∀ σ H',Pv xs.length σ H'->D.nx σ H') :
  ∃W:Nat->YN,(∃m,W 0 m σ H)/\∀i m σ H,W i m σ H ->
   ((QL K a lo).stop i H/\D.nx σ H)\/((QL K a lo).go i H/\∃N:YO,(∀ σ' H',N σ' H'->∃m',m' < m/\W (i+1) m' σ' H')/\∀x H',(QL K a lo).yld i H x H'->g x σ H' fun σ2 H2=>tb { D with nx:=N,ct:=N,bk:=D.nx } σ2 H2):=by
 refine⟨λi m σ H=>m=xs.length - i/\i<=xs.length/\Pv i σ H,⟨xs.length,by simp,Qcl _,h0⟩,?_⟩
 rintro i m σ H ⟨rfl,hi,p⟩
 have q:=hl i σ H hi p
 by_cases hlt:i < xs.length
 ·refine .inr ⟨⟨xs,xs[i],q,by simp[hlt]⟩,Pv (i+1),fun σ3 H3 p'=>⟨xs.length - (i+1),by omega,rfl,hlt,p'⟩,λv H2 y=>?_⟩
  obtain⟨pa,x,hn,rfl,rfl,hx⟩:=y
  exact hs i x pa σ _ (hx xs q) p hn
 ·have e:i=xs.length:=by omega
  subst e
  exact .inl ⟨⟨xs,q,Qck _⟩,hd σ H p⟩
end
theorem mH {X:Cx} {N':YF} {src:List (Option Nat)} {sc:Scope} {kx vx tg iter:Expr} {ifs:YJ} {pos spos px:Pos} {wi:TI} {g:TG} {tt:TT} {tk tv:TE} {i:Nat} {x:Str} (hN:X.N.Nodup) (hi0:X.N[i]?=some x) (hx:Loc X.env.scope x) (hc:X.calm=true) (S:Bg X N' src sc)
  (hi:PI X tg iter wi) (hg:∀s3 H3 fp pn,PG (cxC X N' sc s3 H3 fp pn) tg g) (ht:∀s3 H3 fp pn,PF (cxC X N' sc s3 H3 fp pn) ifs tt) (hk:∀s3 H3 fp pn,PE (cxC X N' sc s3 H3 fp pn) kx tk) (hv:∀s3 H3 fp pn,PE (cxC X N' sc s3 H3 fp pn) vx tv)
  (hsw:swapsWith (.DictComp kx vx [⟨tg,iter,ifs,0⟩] sc pos) (some (.Name x px)) spos.line X.env=pure true:=by rfl) (hs:∀x,foldedSetIterable iter X.env x=pure x:=by intro _;rfl)
  (hf:X.fn x=true\/X.env.scope.names.lookup x=some .local:=by first | exact .inl rfl | exact .inr rfl | assumption) :
  PS X (.Assign [.Name x px] (.DictComp kx vx [⟨tg,iter,ifs,0⟩] sc pos) spos) (Xh (Xg wi src g tt tk tv) (Fe i)):=by
 intro pins s σ H D I h
 rw[exec_Assign_Name_used _ _ _ _ hsw]
 refine Qcp (QbY (Qcp ?_))
 show wpAny _ X.A (do let _ <-comprehension (.DictComp kx vx [⟨tg,iter,ifs,0⟩] sc pos) sc X.env _ newDict false (eval iter X.env) (some (assign (.Name x px) X.env))) _ _ s
 refine Qcp (thn (Us (R:=λ_ s'=>SP X pins D .next s') hc S hi hg ht hk hv hs I h λs3 H3 fp σ4 H4 s5 l I3 f3 J5 q=>?_) λ_ s' hq=>Qcq (Qcq hq))
 obtain⟨m,⟨oC,es,ep,hoC,r⟩,_⟩:=J5.loc
 have I6:Inv X pins σ H4 { s5 with heap:=s5.heap }:=QD I3 f3 J5 (Heap.SameBut.refl _ _)
 have hCn:H4 s3.heap.objs.size=none:=J5.free
 have neL:s3.heap.objs.size≠X.env.locals:=Qcg I3.lt
 have nU:∀v,oC.data≠.cell v:=λv z=>by rw[r.1] at z;cases z
 have I7:Inv X (pins++[(s3.heap.objs.size,oC)]) σ H4 s5:=I6.Q0 λp hp=>(Qbz.mp hp).elim (λz=>I6.pin p (QaA _ z)) λz=>by
  cases QaW.mp z
  exact⟨hoC,hCn,neL,I3.nQ (Qck _),nU⟩
 show wpAny _ X.A (assign (.Name x px) X.env (.ref l)) _ _ s5
 refine wpAny_assign_Name (Lx (v:=.ref l) I7 hN hi0 hx rfl (λs6 I8=>?_) hf)
 have k8:=(I8.pin (s3.heap.objs.size,oC) (QaA _ (QaA _ (QaW.mpr rfl)))).1
 refine⟨m,⟨oC,es,ep,k8,r⟩,λh' sb=>⟨_,H4,?_,q⟩⟩
 have I9:=I8.GX
 refine I9.turned (t':=s6.toks) (λb o hb e=>sb.extBut b o hb e) hCn neL (.inr I3.sz) (λy c e z=>?_) (λp hp z=>?_)
 ·obtain⟨v,o,ho,_⟩:=I3.cell y c e
  exact absurd (Qcb ho) (by rw[z];exact QbV _)
 ·have:=(I3.pin p hp).1
  exact absurd (Qcb this) (by rw[z];exact QbV _)
end L2
namespace L2
open PySem
theorem uE {a b:Expr} {p:Pos} {es:YJ} {env:Env}:starEach (.Subscript a b p::es) env=(false,eval (.Subscript a b p) env)::starEach es env:=by rfl
end L2
namespace L2
open PySem PySem.Spec PyProof.Rows
def fZ (K:YD) (a b:Addr):It:=
  ⟨λi H=>∃xs ys x y,H a=some (.tup xs)/\H b=some (.tup ys)/\xs[i]?=some x/\ys[i]?=some y,
   λi H v H'=>∃p x y,H p=none/\v=.ref p/\H'=upd H p (.tup [x,y])/\(∀xs,H a=some (.tup xs)->xs[i]?=some x)/\∀ys,H b=some (.tup ys)->ys[i]?=some y,
   λi H=>∃xs ys,H a=some (.tup xs)/\H b=some (.tup ys)/\(xs.length<=i\/ys.length<=i)⟩
theorem cR {P:Program} {w:World} {K:YD} {elts:YJ} {k:Nat} {pos:Pos} (a b z TI TO i1 i2:Addr) (nd:[z,TI,TO,i1,i2].Nodup) :
  Turn P w K (.Tuple elts k pos) (fZ K a b) [z,TI,TO,i1,i2] z (λi h=>(∃f1,ZZ.IsZ h z TI TO .none f1)/\ZZ.Di h TI [.ref i1,.ref i2]/\(∃olds:YE,ZZ.Di h TO olds/\olds.length=2)/\h.IsTupleIter i1 a i/\h.IsTupleIter i2 b i) where
 mem:=by simp
 obj:=λi h st c hc=>by
  obtain⟨⟨f1,hz⟩,hTI,⟨olds,hTO,_⟩,⟨o1,e1,_,d1⟩,o2,e2,_,d2⟩:=st
  simp only[QbT,Qbr,Qct] at hc
  rcases hc with rfl | rfl | rfl | rfl | rfl
  ·exact⟨_,hz,λv q=>by cases (show Data.fields _=Data.cell v from q)⟩
  ·exact⟨_,hTI,λv q=>by cases (show Data.seq _ _=Data.cell v from q)⟩
  ·exact⟨_,hTO,λv q=>by cases (show Data.seq _ _=Data.cell v from q)⟩
  ·exact⟨o1,e1,λv q=>by rw[d1] at q;cases q⟩
  ·exact⟨o2,e2,λv q=>by rw[d2] at q;cases q⟩
 keep:=λi h h' st k=>by
  obtain⟨⟨f1,hz⟩,hTI,⟨olds,hTO,l⟩,h1,h2⟩:=st
  exact⟨⟨f1,k z (by simp) _ hz⟩,k TI (by simp) _ hTI,⟨olds,k TO (by simp) _ hTO,l⟩,h1.at λo e=>k i1 (by simp) o e,h2.at λo e=>k i2 (by simp) o e⟩
 item:=by
  intro X hP hw hK hc i pins s σ H E I hf st hg
  subst hP hw hK
  obtain⟨xs,ys,x,y,hq1,hq2,hx,hy⟩:=hg
  obtain⟨us,ru,p1,z1⟩:=I.tuple (SqT.of hq1)
  obtain⟨ws,rw',p2,z2⟩:=I.tuple (SqT.of hq2)
  obtain⟨u,hu,ru'⟩:=ru.get hx
  obtain⟨v,hv,rv'⟩:=rw'.get hy
  obtain⟨⟨f1,hz⟩,hTI,⟨olds,hTO,lo⟩,hi1,hi2⟩:=st
  simp only[QbG,QbT,Qbr,Qct,not_or,QbP,not_false_eq_true,and_true] at nd
  obtain⟨⟨n1,n2,n3,n4⟩,⟨n5,n6,n7⟩,⟨n8,n9⟩,n10⟩:=nd
  have D:ZZ.Apart z TI TO [⟨i1,a,us.toArray⟩,⟨i2,b,ws.toArray⟩]:=by
   obtain⟨oa,ea,ca,_⟩:=id p1
   obtain⟨ob,eb,cb,_⟩:=id p2
   obtain⟨o1,e1,c1,_⟩:=id hi1
   obtain⟨o2,e2,c2,_⟩:=id hi2
   have aTO:a≠TO:=λq=>by
    have:=(hf TO (by simp)).1
    rw[<-q,hq1] at this
    cases this
   have bTO:b≠TO:=λq=>by
    have:=(hf TO (by simp)).1
    rw[<-q,hq2] at this
    cases this
   have t1:Value.type "tuple"≠Value.type "zip":=λq=>absurd (by injection q) (show ¬("tuple"="zip") by decide)
   have t2:Value.type "tuple"≠Value.type "tuple_iterator":=λq=>absurd (by injection q) (show ¬("tuple"="tuple_iterator") by decide)
   refine⟨Ne.symm n1,Ne.symm n2,n5,λq hq=>?_,λq hq=>?_,λq hq r hr=>?_,?_⟩
   ·simp only[QbT,Qbr,Qct] at hq
    rcases hq with rfl | rfl
    ·exact⟨Ne.symm n3,Ne.symm n6,Ne.symm n8⟩
    ·exact⟨Ne.symm n4,Ne.symm n7,Ne.symm n9⟩
   ·simp only[QbT,Qbr,Qct] at hq
    rcases hq with rfl | rfl
    ·exact⟨Gx ea hz (by rw[ca];exact t1),aTO⟩
    ·exact⟨Gx eb hz (by rw[cb];exact t1),bTO⟩
   ·simp only[QbT,Qbr,Qct] at hq hr
    rcases hq with rfl | rfl <;> rcases hr with rfl | rfl
    ·exact Gx ea e1 (by rw[ca,c1];exact t2)
    ·exact Gx ea e2 (by rw[ca,c2];exact t2)
    ·exact Gx eb e1 (by rw[cb,c1];exact t2)
    ·exact Gx eb e2 (by rw[cb,c2];exact t2)
   ·simp[n10]
  have hat:∀q∈([⟨i1,a,us.toArray⟩,⟨i2,b,ws.toArray⟩]:List ZZ.Src),ZZ.SrcAt s.heap q i:=λq hq=>by
   simp only[QbT,Qbr,Qct] at hq
   rcases hq with rfl | rfl
   ·exact .inr ⟨hi1,p1⟩
   ·exact .inr ⟨hi2,p2⟩
  refine ZZ.dI hz (Qi:=λr s'=>∃h',r=.ref s.heap.objs.size/\s'={ s with heap:=h' }/\ZZ.IsZ h' z TI TO (rawInt s.heap.objs.size) (.bool false)/\ZZ.Di h' TI [.ref i1,.ref i2]/\ZZ.Di h' TO [u,v]/\(∀q∈([⟨i1,a,us.toArray⟩,⟨i2,b,ws.toArray⟩]:List ZZ.Src),ZZ.SrcAt h' q (i+1))/\ZZ.Di h' s.heap.objs.size [u,v]/\ZZ.Rest z TO [⟨i1,a,us.toArray⟩,⟨i2,b,ws.toArray⟩] s.heap h')
   (ZZ.Wn (xs:=[u,v]) D hz hTI hTO hat (by simp) rfl lo (λj q hj=>?_) (by show 2<=100;decide) λh' a1 a2 a3 a4 a5 a6 a7=>⟨h',rfl,rfl,a1,a2,a3,a4,a5,a7⟩) λr s' hQ=>?_
  ·match j,hj with
   | 0,hj=>cases hj;exact⟨u,rfl,by simpa using hu⟩
   | 1,hj=>cases hj;exact⟨v,rfl,by simpa using hv⟩
  obtain⟨h',rfl,rfl,a1,a2,a3,a4,a5,a7⟩:=hQ
  refine⟨_,rfl,ZZ.jh (s:={ s with heap:=h' }) a1 λh2 hz2 sb=>?_⟩
  have hlt2:s.heap.objs.size≠z:=Qcg (Qcb hz)
  have hT2:ZZ.Di h2 s.heap.objs.size [u,v]:=(sb.2 _ hlt2).trans a5
  have new:Bs X.prog X.w (upd H s.heap.objs.size (.tup [x,y])) h2 s.heap.objs.size (.tup [x,y]):=
   ⟨by show 2<=sizeLine;decide,[u,v],.cons ru' (.cons rv' .nil),_,hT2,rfl,0,rfl⟩
  have I1:=I.Mz (h':=h2) (t':=s.toks) (Qck _) (λc q hc e=>(sb.2 c (λw=>hc (by simp[w]))).trans (a7 c q (λw=>hc (by simp[w])) (λw=>hc (by simp[w])) (λw=>hc (by simp only[QbU,Qcj,QbT,Qbr,Qct] at w;rcases w with w | w <;> simp[w])) e)) hf new
  have qp:∀{it l:Addr} {items:Array Value},l≠z->l≠TO->l≠i1->l≠i2->it≠z->s.heap.IsTuple l items->ZZ.SrcAt h' ⟨it,l,items⟩ (i+1)->h2.IsTupleIter it l (i+1):=λm1 m2 m3 m4 m5 hl q=>by
   rcases q with⟨_,q2⟩|⟨q1,_⟩
   ·obtain⟨o,e,r⟩:=hl
    exact (JR q2 ⟨o,a7 _ o m1 m2 (by simp[m3,m4]) e,r⟩).elim
   ·exact q1.at λo e=>(sb.2 _ m5).trans e
  refine⟨.ref s.heap.objs.size,_,I1,rfl,⟨s.heap.objs.size,x,y,I.hok.fresh (Qck _),rfl,rfl,λys' hy'=>by (rw[hq1] at hy';cases hy';exact hx),λys' hy'=>by (rw[hq2] at hy';cases hy';exact hy)⟩,⟨⟨_,hz2⟩,(sb.2 _ (Ne.symm n1)).trans a2,⟨[u,v],(sb.2 _ (Ne.symm n2)).trans a3,rfl⟩,?_,?_⟩,λc hc=>?_⟩
  ·exact qp (D.a ⟨i1,a,us.toArray⟩ (by simp)).1 (D.a ⟨i1,a,us.toArray⟩ (by simp)).2 (D.ai ⟨i1,a,us.toArray⟩ (by simp) ⟨i1,a,us.toArray⟩ (by simp)) (D.ai ⟨i1,a,us.toArray⟩ (by simp) ⟨i2,b,ws.toArray⟩ (by simp)) (Ne.symm n3) p1 (a4 _ (by simp))
  ·exact qp (D.a ⟨i2,b,ws.toArray⟩ (by simp)).1 (D.a ⟨i2,b,ws.toArray⟩ (by simp)).2 (D.ai ⟨i2,b,ws.toArray⟩ (by simp) ⟨i1,a,us.toArray⟩ (by simp)) (D.ai ⟨i2,b,ws.toArray⟩ (by simp) ⟨i2,b,ws.toArray⟩ (by simp)) (Ne.symm n4) p2 (a4 _ (by simp))
  ·have hlc:c≠s.heap.objs.size:=by
    have hmem:∃o,s.heap.get? c=some o:=by
     simp only[QbT,Qbr,Qct] at hc
     rcases hc with rfl | rfl | rfl | rfl | rfl
     ·exact⟨_,hz⟩
     ·exact⟨_,hTI⟩
     ·exact⟨_,hTO⟩
     ·obtain⟨o,e,_⟩:=hi1;exact⟨o,e⟩
     ·obtain⟨o,e,_⟩:=hi2;exact⟨o,e⟩
    obtain⟨o,e⟩:=hmem
    exact Qcd (Qcb e)
   rw[Al hlc]
   exact (hf c hc).1
 done:=by
  intro X hP hw hK hc i pins s σ H E I hf st hg
  subst hP hw hK
  obtain⟨xs,ys,hq1,hq2,hend⟩:=hg
  obtain⟨us,ru,p1,z1⟩:=I.tuple (SqT.of hq1)
  obtain⟨ws,rw',p2,z2⟩:=I.tuple (SqT.of hq2)
  obtain⟨⟨f1,hz⟩,hTI,⟨olds,hTO,lo⟩,hi1,hi2⟩:=st
  simp only[QbG,QbT,Qbr,Qct,not_or,QbP,not_false_eq_true,and_true] at nd
  obtain⟨⟨n1,n2,n3,n4⟩,⟨n5,n6,n7⟩,⟨n8,n9⟩,n10⟩:=nd
  have D:ZZ.Apart z TI TO [⟨i1,a,us.toArray⟩,⟨i2,b,ws.toArray⟩]:=by
   obtain⟨oa,ea,ca,_⟩:=id p1
   obtain⟨ob,eb,cb,_⟩:=id p2
   obtain⟨o1,e1,c1,_⟩:=id hi1
   obtain⟨o2,e2,c2,_⟩:=id hi2
   have aTO:a≠TO:=λq=>by
    have:=(hf TO (by simp)).1
    rw[<-q,hq1] at this
    cases this
   have bTO:b≠TO:=λq=>by
    have:=(hf TO (by simp)).1
    rw[<-q,hq2] at this
    cases this
   have t1:Value.type "tuple"≠Value.type "zip":=λq=>absurd (by injection q) (show ¬("tuple"="zip") by decide)
   have t2:Value.type "tuple"≠Value.type "tuple_iterator":=λq=>absurd (by injection q) (show ¬("tuple"="tuple_iterator") by decide)
   refine⟨Ne.symm n1,Ne.symm n2,n5,λq hq=>?_,λq hq=>?_,λq hq r hr=>?_,?_⟩
   ·simp only[QbT,Qbr,Qct] at hq
    rcases hq with rfl | rfl
    ·exact⟨Ne.symm n3,Ne.symm n6,Ne.symm n8⟩
    ·exact⟨Ne.symm n4,Ne.symm n7,Ne.symm n9⟩
   ·simp only[QbT,Qbr,Qct] at hq
    rcases hq with rfl | rfl
    ·exact⟨Gx ea hz (by rw[ca];exact t1),aTO⟩
    ·exact⟨Gx eb hz (by rw[cb];exact t1),bTO⟩
   ·simp only[QbT,Qbr,Qct] at hq hr
    rcases hq with rfl | rfl <;> rcases hr with rfl | rfl
    ·exact Gx ea e1 (by rw[ca,c1];exact t2)
    ·exact Gx ea e2 (by rw[ca,c2];exact t2)
    ·exact Gx eb e1 (by rw[cb,c1];exact t2)
    ·exact Gx eb e2 (by rw[cb,c2];exact t2)
   ·simp[n10]
  have hat:∀q∈([⟨i1,a,us.toArray⟩,⟨i2,b,ws.toArray⟩]:List ZZ.Src),ZZ.SrcAt s.heap q i:=λq hq=>by
   simp only[QbT,Qbr,Qct] at hq
   rcases hq with rfl | rfl
   ·exact .inr ⟨hi1,p1⟩
   ·exact .inr ⟨hi2,p2⟩
  have l1:=ru.length
  have l2:=rw'.length
  refine ZZ.Ve hz (R:=λh'=>ZZ.Rest z TO [⟨i1,a,us.toArray⟩,⟨i2,b,ws.toArray⟩] s.heap h') (ZZ.Xc (I.ok.hd hc) D hz hTI hTO hat (by simp) lo (by show 2<=100;decide) ?_ λh' e r st=>⟨h',e,rfl,rfl,r,st⟩) λh' r=>⟨rfl,I.Le (h':=h') (t':=s.toks) (λc q hc e=>r c q (λw=>hc (by simp[w])) (λw=>hc (by simp[w])) (λw=>hc (by simp only[QbU,Qcj,QbT,Qbr,Qct] at w;rcases w with w | w <;> simp[w])) e) hf⟩
  rcases hend with h | h
  ·exact⟨_,QaQ ..,by simp;omega⟩
  ·exact⟨_,QaF _ (QaQ ..),by simp;omega⟩
 self:=λ_ _ _ _ _ st h=>ZZ.Tz st.1.choose_spec h
def vL (K:YD) (ta:TA):TI:=fun σ H R=>ta σ H λvs H1=>∃a b,vs=[.ref a,.ref b]/\(∃xs,H1 a=some (.tup xs))/\(∃ys,H1 b=some (.tup ys))/\R (fZ K a b) H1
section
variable {X:Cx}
theorem mL {a b:Expr} {ta:TA} {p pos tp:Pos} {elts:YJ} {k:Nat} (hg:Gl X "zip") (hm:X.mg "zip"=none) (ha:PA X [a,b] ta)
  (hs:starEach [a,b] X.env=[(false,eval a X.env),(false,eval b X.env)]:=by rfl) (hs2:starEach [b] X.env=[(false,eval b X.env)]:=by rfl):PI X (.Tuple elts k tp) (.Call (.Name "zip" p) [a,b] [] pos) (vL X.K ta):=by
 intro pins s σ H R I h
 refine Call_ (KD I hg hm (u:=.type "zip") (by trivial) (Qae (thn (ha pos pins s σ H _ I h) λus s1 ⟨vs,H1,I1,r1,q1⟩=>?_) (by rw[hs,hs2]) (by rw[hs2];rfl)))
 obtain⟨a,b,e,⟨xs,hx⟩,⟨ys,hy⟩,q⟩:=q1
 subst e
 cases r1 with
 | cons r rr=>
  cases rr with
  | cons r' rr=>
   cases rr
   cases r
   cases r'
   obtain⟨us,ru,k1,z1⟩:=I1.tuple (SqT.of hx)
   obtain⟨ws,rw',k2,z2⟩:=I1.tuple (SqT.of hy)
   refine ZZ.jW (c1:="tuple_iterator") (c2:="tuple_iterator") (.inr ⟨rfl,k1⟩) (.inr ⟨rfl,k2⟩) λh' z TI TO i1 i2 f=>?_
   refine ZZ.Tz (s:={ s1 with heap:=h' }) f.hz ?_
   have nd:[z,TI,TO,i1,i2].Nodup:=by
    have a1:=f.ap.it ⟨i1,a,us.toArray⟩ (by simp)
    have a2:=f.ap.it ⟨i2,b,ws.toArray⟩ (by simp)
    have a3:i1≠i2:=by
     have:=f.ap.nd
     simpa using this
    simp only[QbG,QbT,Qbr,Qct,not_or,QbP,not_false_eq_true,and_true]
    exact⟨⟨Ne.symm f.ap.TIz,Ne.symm f.ap.TOz,Ne.symm a1.1,Ne.symm a2.1⟩,⟨f.ap.TITO,Ne.symm a1.2.1,Ne.symm a2.2.1⟩,⟨Ne.symm a1.2.2,Ne.symm a2.2.2⟩,a3⟩
   have at1:h'.IsTupleIter i1 a 0:=by
    rcases f.at_ ⟨i1,a,us.toArray⟩ (by simp) with⟨_,x2⟩|⟨x1,_⟩
    ·obtain⟨o,e,r⟩:=id k1
     exact (JR x2 ⟨o,f.keep _ o e,r⟩).elim
    ·exact x1
   have at2:h'.IsTupleIter i2 b 0:=by
    rcases f.at_ ⟨i2,b,ws.toArray⟩ (by simp) with⟨_,x2⟩|⟨x1,_⟩
    ·obtain⟨o,e,r⟩:=id k2
     exact (JR x2 ⟨o,f.keep _ o e,r⟩).elim
    ·exact x1
   refine⟨z,[z,TI,TO,i1,i2],_,_,H1,rfl,I1.kept (t':=s1.toks) λc o e=>f.keep c o e,cR a b z TI TO i1 i2 nd,⟨⟨_,f.hz⟩,f.hTI,⟨_,f.hTO,rfl⟩,at1,at2⟩,λc hc=>?_,q⟩
   have hn:=f.new
   have hcs:s1.heap.objs.size<=c:=by
    simp only[QbT,Qbr,Qct] at hc
    rcases hc with rfl | rfl | rfl | rfl | rfl
    ·exact hn.1
    ·exact hn.2.1
    ·exact hn.2.2.1
    ·exact hn.2.2.2 ⟨c,a,us.toArray⟩ (by simp)
    ·exact hn.2.2.2 ⟨c,b,ws.toArray⟩ (by simp)
   exact I1.O6 hcs (I1.hok.fresh hcs)
end
theorem fM {K:YD} {a b l:Addr} {xs ys:YG} {g:TG} {tt:TT} {te:TE} {Q:VK} {σ0:St} {H0:Hp} (n:Nat) (hx:n<=xs.length) (hy:n<=ys.length) (hn:xs.length<=n\/ys.length<=n) (Pv:YN)
  (h0:Pv 0 σ0 H0) (hl:∀i σ H',i<=n->Pv i σ H'->H' a=some (.tup xs)/\H' b=some (.tup ys))
  (hs:∀i x y p σ H',xs[i]?=some x->ys[i]?=some y->Pv i σ H'->H' p=none->g (.ref p) σ (upd H' p (.tup [x,y])) fun σ3 H3=>tt σ3 H3 λb H4=>if b=true then te σ3 H4 λy H5=>∃ys,H5 l=some (.lst ys)/\ys.length < sizeLine/\Pv (i+1) σ3 (upd H5 l (.lst (ys++[y]))) else Pv (i+1) σ3 H4)
  (hd:∀ σ H',Pv n σ H'->Q (.ref l) H'):Fj (fZ K a b) g tt te Q σ0 H0 l:=by
 unfold Fj
 refine⟨λi m σ H'=>m=n - i/\i<=n/\Pv i σ H',⟨n,by simp,Qcl _,h0⟩,?_⟩
 rintro i m σ H' ⟨rfl,hi,p⟩
 obtain⟨q1,q2⟩:=hl i σ H' hi p
 by_cases hlt:i < n
 ·have hlt1:i < xs.length:=by omega
  have hlt2:i < ys.length:=by omega
  refine .inr ⟨⟨xs,ys,xs[i],ys[i],q1,q2,Qak hlt1,Qak hlt2⟩,Pv (i+1),fun σ3 H3 p'=>⟨n - (i+1),by omega,rfl,hlt,p'⟩,λv H2 y=>?_⟩
  obtain⟨pp,x',y',hp,rfl,rfl,e1,e2⟩:=y
  exact hs i x' y' pp σ _ (e1 xs q1) (e2 ys q2) p hp
 ·exact .inl ⟨⟨xs,ys,q1,q2,by omega⟩,by
   have:i=n:=by omega
   subst this
   exact hd _ _ p⟩
section
variable {X:Cx}
def zc (ta tb:TE):TE:=fun σ H Q=>ta σ H λx H1=>x=.non/\tb σ H1 Q
theorem Ym {a b:Expr} {rest:YJ} {pos:Pos} {ta tb:TE} (ha:PE X a ta) (hb:PE X (.BoolOp .Or (b::rest) pos) tb):PE X (.BoolOp .Or (a::b::rest) pos) (zc ta tb):=by
 intro pins s σ H Q I h
 refine BoolOp_or (thn (ha pins s σ H _ I h) λv s1 zz=>?_)
 obtain⟨x,H1,I1,r1,e,q1⟩:=zz
 subst e
 cases r1
 exact truthy_none (hb pins s1 σ H1 Q I1 q1)
end
theorem fL {X:Cx} {pins:YC} {σ : St} {H:Hp} {s:Shared} {A:Around} {E:YA} {a b:Addr} {kvs:YL} {k:List Key} {v:V} {u r:Value} {Q:YH} (hu:A.units < cLine) (I:Inv X pins σ H s) (e:H a=some (.dT kvs)) (eb:H b=some (.tup (k.map kV))) (l:kvs.length < sizeLine) (ry:RelV (.ref b) u) (rv:RelV v r)
  (h:∀s',Inv X pins σ (upd H a (.dT (putK kvs k v))) s'->Q () s'):wpAny (model X.prog X.w) A (dictSet a u r) Q E s:=by
 cases (show u=Value.ref b from ry)
 obtain⟨z,hd,xs,rel,dd⟩:=qg I.hok e
 have hz:xs.length<=sizeLine:=by rw[<-QbS rel];exact z
 have hl:(putK kvs k v).length<=sizeLine:=by have:=Kd kvs k v;omega
 refine wpAny_dictSet_heap (hsz:=hz) hu (KH I.hok eb) dd λh' dd' hs=>h _ ?_
 obtain⟨q,es,ep,hq,h2,h3,h4,_,h5⟩:=dd'
 refine Rk I (by rw[e];exact True.intro) hs ⟨q,hq⟩ ⟨hl,hd,_,(rel.put k eb rv).keeps λc ys ec=>?_,q,es,ep,hq,h2,h3,h4,h5⟩
 rw[Al (pX ec e (λz=>nomatch z))]
 exact ec
@[irreducible] def Oi (J:It) (g:TG) (tt:TT) (tk tv:TE) (Q:VK) (σ0:St) (H0:Hp) (l:Addr):Prop:=∃W:Nat->YN,(∃m,W 0 m σ0 H0) /\
 ∀i m σ' H',W i m σ' H'->(J.stop i H'/\Q (.ref l) H')\/(J.go i H'/\∃N:YO,(∀ σ3 H3,N σ3 H3->∃m',m' < m/\W (i+1) m' σ3 H3)/\∀x H2,J.yld i H' x H2->g x σ' H2 fun σ3 H3=>tt σ3 H3 λb H4=>
  if b=true then tk σ3 H4 λy H5=>tv σ3 H5 λz H6=>∃(kvs:YL) (k:List Key) (b:Addr),H6 l=some (.dT kvs)/\y=.ref b/\H6 b=some (.tup (k.map kV))/\kvs.length < sizeLine/\N σ3 (upd H6 l (.dT (putK kvs k z))) else N σ3 H4)
def aL (wi:TI) (src:List (Option Nat)) (g:TG) (tt:TT) (tk tv:TE):TE:=fun σ H Q=>wi σ H λJ H1=>∀l,H1 l=none->Oi J g tt tk tv Q (Jh src σ) (upd H1 l (.dT [])) l
theorem aj {X:Cx} {N':YF} {src:List (Option Nat)} {sc:Scope} {kx vx tg iter:Expr} {ifs:YJ} {pos pos':Pos} {wi:TI} {g:TG} {tt:TT} {tk tv:TE} {use:Option (Value->Sem Unit)} {R:YA} (hu:X.A.units+1 < cLine) (hc:X.calm=true) (S:Bg X N' src sc)
  (hi:PI X tg iter wi) (hg:∀s3 H3 fp pn,PG (cxC X N' sc s3 H3 fp pn) tg g) (ht:∀s3 H3 fp pn,PF (cxC X N' sc s3 H3 fp pn) ifs tt) (hk:∀s3 H3 fp pn,PE (cxC X N' sc s3 H3 fp pn) kx tk) (hv:∀s3 H3 fp pn,PE (cxC X N' sc s3 H3 fp pn) vx tv)
  (hs:∀x,foldedSetIterable iter X.env x=pure x) {pins:YC} {s:Shared} {σ : St} {H:Hp} {Q:VK} (I:Inv X pins σ H s) (h:aL wi src g tt tk tv σ H Q)
  (fin:∀s3 H3 fp σ4 H4 s5 l,Inv X pins σ H3 s3->(∀b∈fp,Gf X pins H3 b)->Inv (cxC X N' sc s3 H3 fp (X.pn++pins)) [] σ4 H4 s5->Q (.ref l) H4 ->
   compPost (model X.prog X.w) X.A X.xe use R (.ref l) s3.heap.objs.size (.ok .next) s5) :
  wpAny (model X.prog X.w) X.A (comprehension (.DictComp kx vx [⟨tg,iter,ifs,0⟩] sc pos) sc X.env pos' newDict false (eval iter X.env) use) R X.xe s:=by
 refine wpAny_comprehension_free (use:=use) (cl:=Er X.env sc.names []) rfl hs (Pa λp hp e=>I.ok.has p.1 (S.fv p hp e)) S.kind S.loc ?_
 refine thn (hi pins s σ H _ I h) λv s1 h1=>thn h1 λitv s2 h2=>?_
 obtain⟨it,fp,tn,J,H2,rfl,I2,T,st2,f2,q⟩:=h2
 have q':=q s2.heap.objs.size (I2.hok.fresh (Qck _))
 unfold Oi at q'
 obtain⟨W,⟨m0,w0⟩,turn⟩:=q'
 refine Qbk (wpAny_newFunctionEnv S.Ia (by intro y hy;simp at hy) (λha hns hsb=>?_) S.kind)
 have I3:Inv X pins σ (upd H2 s2.heap.objs.size (.dT [])) { s2 with heap:=s2.heap.push { cls:=.type "dict",data:=.dict #[] } }:=
  I2.laid (t':=s2.toks) (λb u e=>Qav _ e) (Qck _) (Zh s2.heap I2.big)
 have hfl:∀b∈fp,b < s2.heap.objs.size:=λb hb=>by
  obtain⟨o,e,_⟩:=T.obj 0 _ st2 b hb
  exact Qcb e
 have f3:∀b∈fp,Gf X pins (upd H2 s2.heap.objs.size (.dT [])) b:=λb hb=>⟨by rw[Al (Qcd (hfl b hb))];exact (f2 b hb).1,(f2 b hb).2⟩
 generalize hs3:({ s2 with heap:=s2.heap.push { cls:=.type "dict",data:=.dict #[] } }:Shared)=s3 at *
 have hsz:s2.heap.objs.size < s3.heap.objs.size:=by rw[<-hs3];show s2.heap.objs.size < (s2.heap.push _).objs.size;rw[QbO];exact Qbu _
 have kp:∀b o,s3.heap.get? b=some o->ha.get? b=some o:=λb o e=>hsb.extBut b o (Qcd (Qcb e)) (Qav _ e)
 have st3:tn 0 ha:=T.keep 0 _ _ st2 λb hb o e=>kp b o (by rw[<-hs3];exact Qav _ e)
 have I4:Inv (cxC X N' sc s3 (upd H2 s2.heap.objs.size (.dT [])) fp (X.pn++pins)) [] (Jh src σ) (upd H2 s2.heap.objs.size (.dT [])) { s3 with heap:=ha,toks:=s3.toks+([]:List (Str×Value)).length }:=
  SQ S I3 f3 (λb hb=>Nat.lt_trans (hfl b hb) hsz) hns kp
 have loop:codeAny (model X.prog X.w) X.A (.compLoop (.DictComp kx vx [⟨tg,iter,ifs,0⟩] sc pos) 0 (.ref it) (.ref s2.heap.objs.size) (compEnvC sc (Er X.env sc.names []) s3.heap.objs.size X.env))
   (compPost (model X.prog X.w) X.A X.xe use R (.ref s2.heap.objs.size) s3.heap.objs.size) { s3 with heap:=ha,toks:=s3.toks+([]:List (Str×Value)).length }:=by
  refine Ur (λn s'=>∃i σ' H',Inv (cxC X N' sc s3 (upd H2 s2.heap.objs.size (.dT [])) fp (X.pn++pins)) [] σ' H' s'/\tn i s'.heap/\(∀b∈fp,H' b=none)/\W i n σ' H') ?_ m0 ⟨0,_,_,I4,st3,λb hb=>(f3 b hb).1,w0⟩
  rintro n s4 ⟨i,σ4,H4,J4,st4,fr4,w4⟩
  have stat:∀{H':Hp},(∀b∈fp,H' b=none)->∀b∈fp,Gf (cxC X N' sc s3 (upd H2 s2.heap.objs.size (.dT [])) fp (X.pn++pins)) [] H' b:=λhn b hb=>
   ⟨hn b hb,(I4.ok.exf b hb).1,I4.ok.QC b hb,.inl hb,λx c e=>(I4.ok.exf b hb).2 x c e,λp hp=>(f3 b hb).2.2.2.2.2 p ((Qbz.mp hp).elim id λz=>by cases z)⟩
  rcases turn i n σ4 H4 w4 with⟨stop,qn⟩|⟨go,N,hN,step⟩
  ·refine thn (T.done (cxC X N' sc s3 (upd H2 s2.heap.objs.size (.dT [])) fp (X.pn++pins)) rfl rfl rfl hc i [] s4 σ4 H4 _ J4 (stat fr4) st4 stop) λr s5 zz=>?_
   obtain⟨hr,J5⟩:=zz
   subst hr
   exact fin s3 _ fp σ4 H4 s5 _ I3 f3 J5 qn
  ·refine thn (T.item (cxC X N' sc s3 (upd H2 s2.heap.objs.size (.dT [])) fp (X.pn++pins)) rfl rfl rfl hc i [] s4 σ4 H4 _ J4 (stat fr4) st4 go) λr s5 zz=>?_
   obtain⟨u,hr,h5⟩:=zz
   subst hr
   refine thn h5 λ_ s6 zz=>?_
   obtain⟨x,H6,J6,r6,y6,st6,fr6⟩:=zz
   have J6':=J6.pinned (stat fr6) (T.obj _ _ st6)
   have back:∀{pl:YC} {σ7:St} {H7:Hp} {s7:Shared},Inv (cxC X N' sc s3 (upd H2 s2.heap.objs.size (.dT [])) fp (X.pn++pins)) ([]++Mh fp s6.heap) σ7 H7 s7->N σ7 H7 ->
     ∃m',m' < n/\∃i σ' H',Inv (cxC X N' sc s3 (upd H2 s2.heap.objs.size (.dT [])) fp (X.pn++pins)) [] σ' H' s7/\tn i s7.heap/\(∀b∈fp,H' b=none)/\W i m' σ' H':=λ{pl σ7 H7 s7} J7 w7=>by
    obtain⟨m',hm,w7⟩:=hN _ _ w7
    have pinned:∀b∈fp,∀o,s6.heap.get? b=some o->s7.heap.get? b=some o/\H7 b=none:=λb hb o e=>by
     have:=J7.pin (b,o) (QaA _ (QaA _ (Jt hb e)))
     exact⟨this.1,this.2.1⟩
    refine⟨m',hm,i+1,σ7,H7,J7.GX,T.keep _ _ _ st6 λb hb o e=>(pinned b hb o e).1,λb hb=>?_,w7⟩
    obtain⟨o,e,_⟩:=T.obj _ _ st6 b hb
    exact (pinned b hb o e).2
   refine thn (hg s3 _ fp _ _ s6 σ4 H6 x u _ J6' r6 (step x H6 y6)) λ_ s7 zz=>?_
   obtain⟨σ7,H7,J7,q7⟩:=zz
   refine thn (ht s3 _ fp _ _ s7 σ7 H7 _ J7 q7) λok s8 zz=>?_
   obtain⟨H8,J8,q8⟩:=zz
   cases ok with
   | false=>
    rw[if_neg QaT] at q8 ⊢
    exact back (pl:=[]) J8 q8
   | true=>
    rw[if_pos rfl] at q8 ⊢
    refine thn (hk s3 _ fp _ _ s8 σ7 H8 _ J8 q8) λy s9 zz=>?_
    obtain⟨yv,H9,J9,r9,q9⟩:=zz
    refine thn (hv s3 _ fp _ _ s9 σ7 H9 _ J9 q9) λz s10 zz=>?_
    obtain⟨zv,H10,J10,r10,kvs,k,bb,hl,ey,eb,hz,q10⟩:=zz
    subst ey
    refine fL (X:=cxC X N' sc s3 (upd H2 s2.heap.objs.size (.dT [])) fp (X.pn++pins)) (show X.A.units < cLine by omega) J10 hl eb hz r9 r10 λs11 J11=>?_
    exact back (pl:=[]) J11 q10
 exact codeAny_compStart_dict loop (T.self X.A 0 _ _ _ st3 loop)
theorem Ko {X:Cx} {N':YF} {src:List (Option Nat)} {sc:Scope} {kx vx tg iter:Expr} {ifs:YJ} {pos:Pos} {wi:TI} {g:TG} {tt:TT} {tk tv:TE} (hu:X.A.units+1 < cLine) (hc:X.calm=true) (S:Bg X N' src sc)
  (hi:PI X tg iter wi) (hg:∀s3 H3 fp pn,PG (cxC X N' sc s3 H3 fp pn) tg g) (ht:∀s3 H3 fp pn,PF (cxC X N' sc s3 H3 fp pn) ifs tt) (hk:∀s3 H3 fp pn,PE (cxC X N' sc s3 H3 fp pn) kx tk) (hv:∀s3 H3 fp pn,PE (cxC X N' sc s3 H3 fp pn) vx tv)
  (hs:∀x,foldedSetIterable iter X.env x=pure x:=by intro _;rfl):PE X (.DictComp kx vx [⟨tg,iter,ifs,0⟩] sc pos) (aL wi src g tt tk tv):=by
 intro pins s σ H Q I h
 rw[arm_eval_DictComp]
 refine aj (use:=none) hu hc S hi hg ht hk hv hs I h λs3 H3 fp σ4 H4 s5 l I3 f3 J5 q=>?_
 obtain⟨m,hn,_⟩:=J5.loc
 exact⟨m,hn,λh' sb=>⟨.ref l,H4,QD I3 f3 J5 sb,rfl,q⟩⟩
section
variable {a l:Addr} {g:TG} {tt:TT} {tk tv:TE} {Q:VK}
theorem Z9 {K:YD} {xs:YG} {σ0:St} {H0:Hp} (Pv:YN) (h0:Pv 0 σ0 H0) (hl:∀i σ H',i<=xs.length->Pv i σ H'->SqL K H' a xs)
  (hs:∀i x σ H',xs[i]?=some x->Pv i σ H'->g x σ H' fun σ3 H3=>tt σ3 H3 λb H4=>if b=true then tk σ3 H4 λy H5=>tv σ3 H5 λz H6=>∃(kvs:YM) (k:Key),H6 l=some (.dK kvs)/\y=kV k/\kvs.length < sizeLine/\Pv (i+1) σ3 (upd H6 l (.dK (putK kvs k z))) else Pv (i+1) σ3 H4)
  (hd:∀ σ H',Pv xs.length σ H'->Q (.ref l) H'):Rp (Itl K a) g tt tk tv Q σ0 H0 l:=by
 unfold Rp
 refine⟨λi m σ H'=>m=xs.length - i/\i<=xs.length/\Pv i σ H',⟨xs.length,by simp,Qcl _,h0⟩,?_⟩
 rintro i m σ H' ⟨rfl,hi,p⟩
 have q:=hl i σ H' hi p
 by_cases hlt:i < xs.length
 ·refine .inr ⟨⟨xs,xs[i],q,by simp[hlt]⟩,Pv (i+1),fun σ3 H3 p'=>⟨xs.length - (i+1),by omega,rfl,hlt,p'⟩,λx H2 y=>?_⟩
  obtain⟨rfl,y⟩:=y
  exact hs i x σ _ (y xs q) p
 ·exact .inl ⟨⟨xs,q,by omega⟩,by
   have:i=xs.length:=by omega
   subst this
   exact hd _ _ p⟩
theorem NT {K:YD} {xs:YG} {σ0:St} {H0:Hp} (Pv:YN) (h0:Pv 0 σ0 H0) (hl:∀i σ H',i<=xs.length->Pv i σ H'->SqL K H' a xs)
  (hs:∀i x σ H',xs[i]?=some x->Pv i σ H'->g x σ H' fun σ3 H3=>tt σ3 H3 λb H4=>if b=true then tk σ3 H4 λy H5=>tv σ3 H5 λz H6=>∃(kvs:YL) (k:List Key) (b:Addr),H6 l=some (.dT kvs)/\y=.ref b/\H6 b=some (.tup (k.map kV))/\kvs.length < sizeLine/\Pv (i+1) σ3 (upd H6 l (.dT (putK kvs k z))) else Pv (i+1) σ3 H4)
  (hd:∀ σ H',Pv xs.length σ H'->Q (.ref l) H'):Oi (Itl K a) g tt tk tv Q σ0 H0 l:=by
 unfold Oi
 refine⟨λi m σ H'=>m=xs.length - i/\i<=xs.length/\Pv i σ H',⟨xs.length,by simp,Qcl _,h0⟩,?_⟩
 rintro i m σ H' ⟨rfl,hi,p⟩
 have q:=hl i σ H' hi p
 by_cases hlt:i < xs.length
 ·refine .inr ⟨⟨xs,xs[i],q,by simp[hlt]⟩,Pv (i+1),fun σ3 H3 p'=>⟨xs.length - (i+1),by omega,rfl,hlt,p'⟩,λx H2 y=>?_⟩
  obtain⟨rfl,y⟩:=y
  exact hs i x σ _ (y xs q) p
 ·exact .inl ⟨⟨xs,q,by omega⟩,by
   have:i=xs.length:=by omega
   subst this
   exact hd _ _ p⟩
end
def NZ (h:Heap) (d:Addr) (es:YK) (ep:Nat):Prop:=∃o,h.get? d=some o/\o.ExactDict/\o.data=.dict es ep
section
variable {prog:Program} {w:World} {A:Around} {E:YA} {s:Shared}
theorem mz {it d:Addr} {i ep:Nat} {es:YK} {en:DictEntry} {Q:Option Value->Shared->Prop} (K:s.heap.IsKeyIter it d i es.size ep) (R:NZ s.heap d es ep) (hx:es[i]?=some en)
  (q:∀h',h'.IsKeyIter it d (i+1) es.size ep->Heap.SameBut it s.heap h'->Q (some en.key) { s with heap:=h' }):wpAny (model prog w) A (pyNext (.ref it)) Q E s:=by
 have T:=K.typeIs
 obtain⟨oi,hoi,ci,di⟩:=K
 obtain⟨od,hod,xd,dd⟩:=R
 have hlt:i < es.size:=(Qaf.mp hx).1
 obtain⟨B6,yp,yq,vJ⟩:=oi
 obtain⟨Vx,Ri,Rj,Oe⟩:=od
 dsimp only at ci di dd
 subst ci di dd
 obtain⟨hp,g,dr,tk,os⟩:=s
 unfold pyNext
 refine Qcp (QbZ (Qaq (name:=Str.ofString "__next__") T Qad (Qbs Qad T F.entry_dict_keyiterator_next ?_ (F.args_dict_keyiterator_next_1 _))))
 have e1:typeName (.type "dict_keyiterator")=pure "dict_keyiterator":=by unfold typeName;rw[find?_eq_fast];kernel_rfl
 have e2:=mroOf_keyiter
 wp_walk
 have hidx:(if (i:Int) < 0 then none else es[((i:Int)).toNat]?)=some en:=by rw[if_neg (by omega),Qbh];exact hx
 simp only[hidx]
 wp_walk
 refine⟨_,rfl,Qcq (q _ ⟨_,QaD _ hoi ?_,rfl,?_⟩ (QaO ..))⟩
 all_goals first | rfl | trace_state
theorem qM {it d:Addr} {i ep:Nat} {es:YK} {Q:Option Value->Shared->Prop} (hh:A.handled=none) (K:s.heap.IsKeyIter it d i es.size ep) (R:NZ s.heap d es ep) (hx:es[i]?=none)
  (q:∀h',Heap.ExtBut it s.heap h'->Q none { s with heap:=h' }):wpAny (model prog w) A (pyNext (.ref it)) Q E s:=by
 have T:=K.typeIs
 obtain⟨oi,hoi,ci,di⟩:=K
 obtain⟨od,hod,xd,dd⟩:=R
 obtain⟨B6,yp,yq,vJ⟩:=oi
 obtain⟨Vx,Ri,Rj,Oe⟩:=od
 dsimp only at ci di dd
 subst ci di dd
 obtain⟨hp,g,dr,tk,os⟩:=s
 unfold pyNext
 refine Qcp (QbZ (Qaq (name:=Str.ofString "__next__") T Qad (Qbs Qad T F.entry_dict_keyiterator_next ?_ (F.args_dict_keyiterator_next_1 _))))
 have e1:typeName (.type "dict_keyiterator")=pure "dict_keyiterator":=by unfold typeName;rw[find?_eq_fast];kernel_rfl
 have e2:=mroOf_keyiter
 have hh1:A.in1.handled=none:=hh
 wp_walk
 have hidx:(if (i:Int) < 0 then none else es[((i:Int)).toNat]?)=none:=by rw[if_neg (by omega),Qbh];exact hx
 simp only[hidx]
 wp_walk
 unfold raiseNew
 wp_walk
 refine wpAny_of_eq isSubtype_stop ?_
 wp_walk
 exact q _ (((QaO ..).extBut.push _).push _)
theorem mC {d:Addr} {ep:Nat} {es:YK} {Q:YA} (lo:(d == sysModules)=false) (R:NZ s.heap d es ep)
  (q:Q (.ref s.heap.objs.size) { s with heap:=s.heap.push { cls:=.type "dict_keyiterator",data:=.fields #[.ref d,.int 0 0,.int es.size 0,.int ep 0] } }):wpAny (model prog w) A (pyIter (.ref d)) Q E s:=by
 obtain⟨od,hod,xd,dd⟩:=R
 have T:s.TypeIs (.ref d) "dict":=⟨od,hod,xd.1⟩
 obtain⟨Vx,Ri,Rj,Oe⟩:=od
 obtain⟨x1,x2⟩:=xd
 dsimp only at dd x1
 subst dd x1
 refine wpAny_pyIter_slot T F.slot_dict_iter (Qbs F.slot_dict_iter T F.entry_dict_iter ?_ (F.args_dict_iter_1 _))
 unfold Builtin.«dict.__iter__»
 wp_walk
 exact⟨_,rfl,"dict_keyiterator",_,⟨_,QaI _ rfl,rfl⟩,Qad.lookup,q⟩
theorem iC {d:Addr} {ep:Nat} {es:YK} (lo:(d == sysModules)=false) :
  MeetsIn prog w (Builtin.«dict.items» ⟨[.ref d],[]⟩) (λ_ R s=>NZ s.heap d es ep/\R (.ok (.ret (.ref s.heap.objs.size))) { s with heap:=s.heap.push { cls:=.type "dict_items",data:=.fields #[.ref d] } }):=
 .of_wp λA R s ⟨hm,h⟩=>by
  obtain⟨od,hod,xd,dd⟩:=hm
  have T:s.TypeIs (.ref d) "dict":=⟨od,hod,xd.1⟩
  obtain⟨Vx,Ri,Rj,Oe⟩:=od
  obtain⟨x1,x2⟩:=xd
  dsimp only at dd x1
  subst dd x1
  unfold Builtin.«dict.items»
  wp_walk
  exact⟨_,rfl,h⟩
theorem Vd {v d:Addr} {es:YK} {ep:Nat} {Q:YA} (hv:s.heap.IsItemsView v d) (R:NZ s.heap d es ep)
  (q:Q (.ref s.heap.objs.size) { s with heap:=s.heap.push { cls:=.type "dict_itemiterator",data:=.fields #[.none,.bool false,.ref d,.int 0 0,.int es.size 0,.int ep 0,.none,.none] } }) :
  wpAny (model prog w) A (pyIter (.ref v)) Q E s:=by
 have T:=hv.typeIs
 obtain⟨ov,hov,hcv,hdv⟩:=hv
 obtain⟨od,hod,xd,dd⟩:=R
 obtain⟨F8,F4,F5,FY⟩:=ov
 obtain⟨Vx,Ri,Rj,Oe⟩:=od
 dsimp only at hcv hdv dd
 subst hcv hdv dd
 refine wpAny_pyIter_slot T F.slot_dict_items_iter (Qbs F.slot_dict_items_iter T F.entry_dict_items_iter ?_ (F.args_dict_items_iter_1 _))
 unfold Builtin.«dict_items.__iter__»
 wp_walk
 have hown:Builtin.Dict_items.ownsTuple "dict_itemiterator"=true:=by decide
 refine⟨_,rfl,"dict_itemiterator",_,⟨_,QaI _ rfl,rfl⟩,Qac.lookup,?_⟩
 simpa [rawInt,hown,Builtin.Dict_items.ownedTupleFields] using q
theorem mD {it d:Addr} {i ep:Nat} {es:YK} {en:DictEntry} {ok ov:Value} {Q:Option Value->Shared->Prop} (K:IsItemIter s.heap it d i es.size ep ok ov) (R:NZ s.heap d es ep) (hx:es[i]?=some en)
  (q:∀h',IsItemIterOut h' it d (i+1) es.size ep en.key en.val s.heap.objs.size->h'.get? s.heap.objs.size=some { cls:=.type "tuple",data:=.seq #[en.key,en.val] }->(∀b o,b≠it->s.heap.get? b=some o->h'.get? b=some o)->Q (some (.ref s.heap.objs.size)) { s with heap:=h' }) :
  wpAny (model prog w) A (pyNext (.ref it)) Q E s:=by
 have hT:s.TypeIs (.ref it) "dict_itemiterator":=⟨_,K,rfl⟩
 obtain⟨od,hod,xd,dd⟩:=R
 have hlt:i < es.size:=(Qaf.mp hx).1
 obtain⟨Vx,Ri,Rj,Oe⟩:=od
 dsimp only at dd
 subst dd
 obtain⟨hp,g,dr,tk,os⟩:=s
 unfold pyNext
 refine Qcp (QbZ (Qaq (name:=Str.ofString "__next__") hT Qac (Qbs Qac hT F.entry_dict_itemiterator_next ?_ (F.args_dict_itemiterator_next_1 _))))
 have e1:typeName (.type "dict_itemiterator")=pure "dict_itemiterator":=by unfold typeName;rw[find?_eq_fast];kernel_rfl
 have e2:=mroOf_itemiter
 wp_walk
 have hidx:(if (i:Int) < 0 then none else es[((i:Int)).toNat]?)=some en:=by rw[if_neg (by omega),Qbh];exact hx
 simp only[hidx]
 have hown:Builtin.Dict_items.ownsTuple "dict_itemiterator"=true:=by decide
 refine Qcp ?_
 first | refine Qcp (wpAny_typeNameOfWhole_itemiter hT (Qcq ?_)) | refine Qcp (wpAny_typeNameOf_itemiter hT (Qcq ?_))
 refine Qcp (wpAny_isOneOf_itemiter hT ?_)
 simp only[hown,if_true]
 show wpAny _ _ (setField (.ref it) 3 (rawInt ((i:Int)+1)) >>= _) _ _ _
 refine Qcp (QaY K (by simp) λh1 k1 s1=>?_)
 have s1:Heap.SameBut it hp h1:=s1
 have k1:IsItemIter h1 it d (i+1) es.size ep ok ov:=by
  have e:((i+1:Nat):Int)=(i:Int)+1:=by omega
  unfold IsItemIter;rw[e];simpa [rawInt] using k1
 have hT1:Shared.TypeIs ⟨h1,g,dr,tk,os⟩ (.ref it) "dict_itemiterator":=⟨_,k1,rfl⟩
 refine Qcp (QbW (Qcp (wpAny_isOneOf_itemiter hT1 (Qcp (wpAny_isOneOf_itemiter hT1 ?_)))))
 show wpAny _ _ (Builtin.Dict_items.pairFromOwner (.ref it) 6 en.key en.val) _ _ ⟨h1,g,dr,tk,os⟩
 unfold Builtin.Dict_items.pairFromOwner
 refine Qcp (wpAny_newTuple ?_)
 have k2:IsItemIter (h1.push { cls:=.type "tuple",data:=.seq #[en.key,en.val] }) it d (i+1) es.size ep ok ov:=Qav _ k1
 have z1:h1.objs.size=hp.objs.size:=s1.1
 have n1:(h1.push { cls:=.type "tuple",data:=.seq #[en.key,en.val] }).get? hp.objs.size=some { cls:=.type "tuple",data:=.seq #[en.key,en.val] }:=by rw[<-z1];exact QaI _ rfl
 have p1:∀b o,b≠it->hp.get? b=some o->(h1.push { cls:=.type "tuple",data:=.seq #[en.key,en.val] }).get? b=some o:=λb o hb e=>Qav _ (s1.extBut b o hb e)
 have nit:hp.objs.size≠it:=Qcg (Qcb K)
 rw[z1]
 show wpAny _ _ (Builtin.Dict_items.ownedTupleIsFree (.ref it) >>= _) _ _ ⟨h1.push { cls:=.type "tuple",data:=.seq #[en.key,en.val] },g,dr,tk,os⟩
 generalize h1.push { cls:=.type "tuple",data:=.seq #[en.key,en.val] }=h2 at k2 n1 p1
 refine Qcp ?_
 unfold Builtin.Dict_items.ownedTupleIsFree
 refine Qcp (Qcn k2 rfl (x:=.none) rfl (Qcq ?_))
 simp only[if_true]
 refine Qcp (Qcn k2 rfl (x:=ok) rfl ?_)
 refine Qcp (Qcn k2 rfl (x:=ov) rfl ?_)
 refine Qcp (QaY k2 (by simp) λh3 k3 s3=>?_)
 refine Qcp (QaY k3 (by simp) λh4 k4 s4=>?_)
 refine Qcp (QaY k4 (by simp) λh5 k5 s5=>?_)
 refine Qcp (QaY k5 (by simp) λh6 k6 s6=>?_)
 have f:∀b o,b≠it->h2.get? b=some o->h6.get? b=some o:=λb o hb e=>s6.extBut b o hb (s5.extBut b o hb (s4.extBut b o hb (s3.extBut b o hb e)))
 exact Qcp (wpAny_letGo (Qcq (Qcq ⟨_,rfl,Qcq (q h6 k6 (f _ _ nit n1) λb o hb e=>f b o hb (p1 b o hb e))⟩)))
theorem Yd {it d:Addr} {i ep:Nat} {es:YK} {ok ov:Value} {Q:Option Value->Shared->Prop} (hh:A.handled=none) (K:IsItemIter s.heap it d i es.size ep ok ov) (R:NZ s.heap d es ep) (hx:es[i]?=none)
  (q:∀h',Heap.ExtBut it s.heap h'->Q none { s with heap:=h' }):wpAny (model prog w) A (pyNext (.ref it)) Q E s:=by
 have hT:s.TypeIs (.ref it) "dict_itemiterator":=⟨_,K,rfl⟩
 obtain⟨od,hod,xd,dd⟩:=R
 obtain⟨Vx,Ri,Rj,Oe⟩:=od
 dsimp only at dd
 subst dd
 obtain⟨hp,g,dr,tk,os⟩:=s
 unfold pyNext
 refine Qcp (QbZ (Qaq (name:=Str.ofString "__next__") hT Qac (Qbs Qac hT F.entry_dict_itemiterator_next ?_ (F.args_dict_itemiterator_next_1 _))))
 have e1:typeName (.type "dict_itemiterator")=pure "dict_itemiterator":=by unfold typeName;rw[find?_eq_fast];kernel_rfl
 have e2:=mroOf_itemiter
 have hh1:A.in1.handled=none:=hh
 wp_walk
 have hidx:(if (i:Int) < 0 then none else es[((i:Int)).toNat]?)=none:=by rw[if_neg (by omega),Qbh];exact hx
 simp only[hidx]
 wp_walk
 unfold raiseNew
 wp_walk
 refine wpAny_of_eq isSubtype_stop ?_
 wp_walk
 exact q _ (((QaO ..).extBut.push _).push _)
end
section
variable {X:Cx} {pins:YC} {σ : St} {H:Hp} {s:Shared} {a:Addr} {kvs:YL} {o:Obj}
theorem Inv.cA (I:Inv X pins σ H s) (e:H a=some (.dT kvs)):∃o,s.heap.get? a=some o/\Inv X pins σ (upd H a (.frz o (.dT kvs))) s:=by
 obtain⟨o,ho⟩:=(I.hok a _ e).there
 have n0:∀b,H b=none->b≠a:=λb n z=>by rw[z,e] at n;cases n
 have n1:∀b u,H b=some u->u≠.dT kvs->b≠a:=λb u q nu z=>by rw[z,e] at q;exact nu (QbD q).symm
 refine⟨o,ho,I.step (h':=s.heap) (g':=s.gens) (d':=s.drawn) (t':=s.toks) (ch:=[]) (λb hb=>absurd hb (by simp)) (λb u _ _ _ q _=>q) (λb u _ _ _ q _=>⟨u.slots,q⟩) (λb u _ q n=>by rw[Al (n0 b n)];exact n)
  (λb u _ q=>⟨u,q⟩) (λb xs q=>by rw[Al (n1 b _ q (by intro z;cases z))];exact q) (λb u v q=>by rw[Al (n1 b _ q (by intro z;cases z))];exact q)
  (λb ps q=>⟨#[],by rw[Al (n1 b _ q (by intro z;cases z)),q];simp⟩) (λm hm=>hm) (λb u q=>?_) I.bare⟩
 have st:∀b u,Bs X.prog X.w H s.heap b u->Bs X.prog X.w (upd H a (.frz o (.dT kvs))) s.heap b u:=λb u x=>
  x.stay (λ_ _ _ q=>q) (λc q=>by rw[Al (n1 c _ q (by intro z;cases z))];exact q) λc xs q=>by rw[Al (n1 c _ q (by intro z;cases z))];exact q
 by_cases hb:b=a
 ·subst hb
  rw[Ab] at q
  cases q
  exact⟨ho,st _ _ (I.hok _ _ e)⟩
 ·rw[Al hb] at q
  exact st _ _ (I.hok b u q)
theorem Inv.Ol (I:Inv X pins σ H s) (e:H a=some (.frz o (.dT kvs))) (h0:∀o' u,X.H₀ a≠some (.frz o' u)):Inv X pins σ (upd H a (.dT kvs)) s:=by
 have n0:∀b,H b=none->b≠a:=λb n z=>by rw[z,e] at n;cases n
 have n1:∀b u,H b=some u->u≠.frz o (.dT kvs)->b≠a:=λb u q nu z=>by rw[z,e] at q;exact nu (QbD q).symm
 refine⟨I.ok,I.os,I.bare,⟨I.base.keep,I.base.slot,λb u q n hx=>?_,I.base.there,λb xs q=>?_,λb u v q=>?_,λb ps q=>?_⟩,I.loc,I.cell,?_,λx c q=>?_,λp hp=>?_,λb u q=>?_,I.len⟩
 ·rw[Al (n0 b (I.base.free b u q n hx))]
  exact I.base.free b u q n hx
 ·have z:=I.base.tups b xs q
  rw[Al (n1 b _ z (by intro w;cases w))]
  exact z
 ·have z:=I.base.K3 b u v q
  have nb:b≠a:=λw=>h0 u v (by rw[<-w];exact q)
  rw[Al nb]
  exact z
 ·obtain⟨m,z⟩:=I.base.Lw b ps q
  exact⟨m,by rw[Al (n1 b _ z (by intro w;cases w))];exact z⟩
 ·rw[Al (n0 _ I.free)];exact I.free
 ·rw[Al (n0 _ (I.Hr x c q))];exact I.Hr x c q
 ·obtain⟨p1,p2,p3⟩:=I.pin p hp
  exact⟨p1,by rw[Al (n0 _ p2)];exact p2,p3⟩
 ·have st:∀b u,Bs X.prog X.w H s.heap b u->Bs X.prog X.w (upd H a (.dT kvs)) s.heap b u:=λb u x=>
   x.stay (λ_ _ _ q=>q) (λc q=>by rw[Al (n1 c _ q (by intro z;cases z))];exact q) λc xs q=>by rw[Al (n1 c _ q (by intro z;cases z))];exact q
  by_cases hb:b=a
  ·subst hb
   rw[Ab] at q
   cases q
   exact st _ _ (show Bs X.prog X.w H s.heap b (.frz o (.dT kvs)) from I.hok _ _ e).2
  ·rw[Al hb] at q
   exact st _ _ (I.hok b u q)
end
def Uv (H0 H:Hp) (P:Hp->Prop):Prop:=∃a o kvs,H a=some (.frz o (.dT kvs))/\(∀o' u,H0 a≠some (.frz o' u))/\P (upd H a (.dT kvs))
def Ends.Ol (D:Ends) (H0:Hp):Ends where
 nx:=fun σ H=>Uv H0 H (D.nx σ)
 rt:=λv H=>Uv H0 H (D.rt v)
 bk:=fun σ H=>Uv H0 H (D.bk σ)
 ct:=fun σ H=>Uv H0 H (D.ct σ)
def uf (H0:Hp) (t:TS):TS:=λD σ H=>t (D.Ol H0) σ H
def qy (H0:Hp) (t:TE):TE:=fun σ H Q=>t σ H λv H1=>Uv H0 H1 (Q v)
theorem Yi {X:Cx} {st:Stmt} {t:TS} {H0:Hp} (h0:X.H₀=H0) (h:PS X st t):PS X st (uf H0 t):=by
 subst h0
 intro pins s σ H D I q
 refine thn (h pins s σ H _ I q) λf s1 z=>?_
 cases f with
 | next=>obtain⟨σ',H',I',a,o,kvs,e,n,q'⟩:=z;exact⟨σ',_,I'.Ol e n,q'⟩
 | brk=>obtain⟨σ',H',I',a,o,kvs,e,n,q'⟩:=z;exact⟨σ',_,I'.Ol e n,q'⟩
 | cont=>obtain⟨σ',H',I',a,o,kvs,e,n,q'⟩:=z;exact⟨σ',_,I'.Ol e n,q'⟩
 | ret u=>obtain⟨v,σ',H',I',r,a,o,kvs,e,n,q'⟩:=z;exact⟨v,σ',_,I'.Ol e n,r,q'⟩
theorem Mj {X:Cx} {x:Expr} {t:TE} {H0:Hp} (h0:X.H₀=H0) (h:PE X x t):PE X x (qy H0 t):=by
 subst h0
 intro pins s σ H Q I q
 refine thn (h pins s σ H _ I q) λu s1 zz=>?_
 obtain⟨v,H',I',r,a,o,kvs,e,n,q'⟩:=zz
 exact⟨v,_,I'.Ol e n,r,q'⟩
def f9 (a:Addr) (o:Obj) (kvs:YL):It:=
 ⟨λi H=>i < kvs.length/\H a=some (.frz o (.dT kvs)),λi H x H'=>∃p b kv,H p=none/\kvs[i]?=some kv/\H b=some (.tup (kv.1.map kV))/\x=.ref p/\H'=upd H p (.tup [.ref b,kv.2]),λi H=>i=kvs.length/\H a=some (.frz o (.dT kvs))⟩
def KTr (P:Program) (w:World) (H:Hp) (kvs:YL) (es:YK):Prop:=es.size=kvs.length/\∀(i:Nat) (kv:List Key×V),kvs[i]?=some kv->∃b en,es[i]?=some en/\en.key=.ref b/\H b=some (.tup (kv.1.map kV))/\RelV kv.2 en.val
theorem Y4 {P:Program} {w:World} {H:Hp} {kvs:YL} {xs:List (List Key×Addr×Value)} {es:YK} (r:Paired (λ(p:List Key×V) (q:List Key×Addr×Value)=>p.1=q.1/\H q.2.1=some (.tup (p.1.map kV))/\RelV p.2 q.2.2) kvs xs) (e:es.toList=xs.map (entryOfKey (tupleKind (CP P w)))):KTr P w H kvs es:=by
 refine⟨by rw[size_of_entries e,QbS r],λi kv hkv=>?_⟩
 have go:∀{l:YL} {m:List (List Key×Addr×Value)} {i:Nat} {p:List Key×V},Paired (λ(p:List Key×V) (q:List Key×Addr×Value)=>p.1=q.1/\H q.2.1=some (.tup (p.1.map kV))/\RelV p.2 q.2.2) l m->l[i]?=some p->∃x,m[i]?=some x/\H x.2.1=some (.tup (p.1.map kV))/\RelV p.2 x.2.2:=by
  intro l m i p r
  induction r generalizing i with
  | nil=>intro h;cases h
  | cons a t ih=>
   intro h
   cases i with
   | zero=>cases h;exact⟨_,rfl,a.2⟩
   | succ i=>exact ih h
 obtain⟨x,hx,h1,h2⟩:=go r hkv
 exact⟨x.2.1,_,by rw[entry_at e i,hx];rfl,rfl,h1,h2⟩
theorem M9 {X:Cx} {pins:YC} {σ : St} {H:Hp} {s:Shared} {a:Addr} {kvs:YL} {o:Obj} {es:YK} {ep:Nat} (I:Inv X pins σ H s) (e:H a=some (.frz o (.dT kvs))) (ho:o.data=.dict es ep) :
  (a == sysModules)=false/\KTr X.prog X.w H kvs es/\NZ s.heap a es ep:=by
 obtain⟨h1,_,h2,xs,h3,ob,es',ep',h4,h5,h6,h7,_⟩:=(show Bs X.prog X.w H s.heap a (.frz o (.dT kvs)) from I.hok a _ e)
 have z:=h1.symm.trans h4
 cases z
 rw[ho] at h6
 cases h6
 exact⟨h2,Y4 h3 h7,o,h1,h5,ho⟩
theorem lE {P:Program} {w:World} {K:YD} {elts:YJ} {k:Nat} {pos:Pos} (a it:Addr) (o:Obj) (kvs:YL) {es:YK} {ep:Nat} (ho:o.data=.dict es ep) (hes:es.size=kvs.length) :
  Turn P w K (.Tuple elts k pos) (f9 a o kvs) [it] it (λi h=>∃ok ov,IsItemIter h it a i kvs.length ep ok ov) where
 mem:=by simp
 obj:=λi h st b hb=>by
  have e:b=it:=by simpa using hb
  subst e
  obtain⟨ok,ov,q⟩:=st
  exact⟨_,q,λv z=>by cases (show Data.fields _=Data.cell v from z)⟩
 keep:=λi h h' st k=>by
  obtain⟨ok,ov,q⟩:=st
  exact⟨ok,ov,k it (by simp) _ q⟩
 item:=by
  intro X hP hw hK hc i pins s σ H E I hf st hg
  subst hP hw hK
  obtain⟨hi,hfz⟩:=hg
  obtain⟨ok,ov,st⟩:=st
  obtain⟨_,⟨hz,rel⟩,da⟩:=M9 I hfz ho
  obtain⟨kv,hkv⟩ : ∃kv,kvs[i]?=some kv:=⟨kvs[i],by simp[hi]⟩
  obtain⟨b,en,hen,hkey,hb,hval⟩:=rel i kv hkv
  rw[<-hes] at st
  refine mD st da hen λh' hout htup hkeep=>?_
  refine⟨_,rfl,wpAny_letOwnedTupleGo_items hout λh2 he2 hs2=>?_⟩
  have nit:s.heap.objs.size≠it:=Qcg (Qcb st)
  have new:Bs X.prog X.w (upd H s.heap.objs.size (.tup [.ref b,kv.2])) h2 s.heap.objs.size (.tup [.ref b,kv.2]):=
   ⟨by show 2<=sizeLine;decide,[en.key,en.val],.cons (by rw[hkey];exact rfl) (.cons hval .nil),_,(hs2.2 _ nit).trans htup,rfl,0,rfl⟩
  have I1:=I.Mz (h':=h2) (t':=s.toks) (Qck _) (λb q hb z=>(hs2.2 b (λw=>hb (by simp[w]))).trans (hkeep b q (λw=>hb (by simp[w])) z)) hf new
  refine⟨.ref s.heap.objs.size,_,I1,rfl,⟨s.heap.objs.size,b,kv,I.hok.fresh (Qck _),hkv,hb,rfl,rfl⟩,⟨en.key,en.val,?_⟩,λb hb=>?_⟩
  ·rw[<-hes];exact he2
  ·have z:b=it:=by simpa using hb
   subst z
   rw[Al (Ne.symm nit)]
   exact (hf b hb).1
 done:=by
  intro X hP hw hK hc i pins s σ H E I hf st hg
  subst hP hw hK
  obtain⟨hi,hfz⟩:=hg
  obtain⟨ok,ov,st⟩:=st
  obtain⟨_,⟨hz,rel⟩,da⟩:=M9 I hfz ho
  rw[<-hes] at st
  exact Yd (I.ok.hd hc) st da (by simp;omega) λh' ext=>⟨rfl,I.Le (t':=s.toks) (λb ob hb q=>ext b ob (λz=>hb (by simp[z])) q) hf⟩
 self:=λA i s Q E st q=>by
  obtain⟨ok,ov,st⟩:=st
  exact Wz st q
def rM (td:TE):TI:=fun σ H R=>td σ H λx H1=>∃a kvs,x=.ref a/\H1 a=some (.dT kvs)/\∀o,R (f9 a o kvs) (upd H1 a (.frz o (.dT kvs)))
theorem MN {X:Cx} {d:Expr} {td:TE} {elts:YJ} {k:Nat} {tp apos cpos:Pos} (hd:PE X d td) (hbase:attributeBase d "items" X.env (eval d X.env)=eval d X.env:=by rfl) (hline:(apos.endLine == cpos.line)=true:=by rfl) :
  PI X (.Tuple elts k tp) (.Call (.Attribute d "items" apos) [] [] cpos) (rM td):=by
 intro pins s σ H R I h
 refine wpAny_Call_method0_late hbase hline (thn (hd pins s σ H _ I h) λv s1 zz=>?_)
 obtain⟨x,H1,I1,r1,a,kvs,ex,e,q⟩:=zz
 subst ex
 cases r1
 obtain⟨t1,t2,hsm⟩:=Ug I1 (.inr ⟨kvs,.inl e⟩)
 obtain⟨o,ho,I2⟩:=I1.cA e
 obtain⟨_,_,xs,h3,ob,es,ep,h4,h5,h6,h7,_⟩:=(show Bs X.prog X.w H1 s1.heap a (.dT kvs) from I1.hok a _ e)
 rw[ho] at h4
 cases h4
 have hes:=(Y4 h3 h7).1
 have da:NZ s1.heap a es ep:=⟨o,ho,h5,h6⟩
 refine⟨"dict","dict.items",F.plainAttrs_dict,F.slot_dict_items,F.type_dict_items,t1,t2,Calls.callWith_builtin rfl (PySem.evalArgs_none ?_)⟩
 refine call_meetsIn F.slot_dict_items t1 F.entry_dict_items (F.args_dict_items_1 _) (iC (es:=es) (ep:=ep) hsm) ⟨da,?_⟩
 have hz:(s1.heap.push { cls:=.type "dict_items",data:=.fields #[.ref a] }).objs.size=s1.heap.objs.size+1:=QbO ..
 refine Vd (d:=a) (es:=es) (ep:=ep) ⟨_,QaI _ rfl,rfl,rfl⟩ ⟨o,Qav _ ho,h5,h6⟩ ?_
 refine⟨(s1.heap.push { cls:=.type "dict_items",data:=.fields #[.ref a] }).objs.size,[(s1.heap.push { cls:=.type "dict_items",data:=.fields #[.ref a] }).objs.size],_,_,_,rfl,
  I2.kept (t':=s1.toks) λb u q=>Qav _ (Qav _ q),lE a _ o kvs h6 hes,?_,λb hb=>?_,q o⟩
 ·rw[<-hes]
  exact⟨_,_,QaI _ rfl⟩
 ·have z:b=(s1.heap.push { cls:=.type "dict_items",data:=.fields #[.ref a] }).objs.size:=by simpa using hb
  have z2:s1.heap.objs.size<=b:=by rw[z,hz];exact Nat.le_succ _
  exact I2.O6 z2 (I2.hok.fresh z2)
theorem O8 {a l:Addr} {o:Obj} {kvs:YL} {g:TG} {tt:TT} {te:TE} {Q:VK} {σ0:St} {H0:Hp} (Pv:YN) (h0:Pv 0 σ0 H0) (hl:∀i σ H',i<=kvs.length->Pv i σ H'->H' a=some (.frz o (.dT kvs)))
  (hs:∀i kv p b σ H',kvs[i]?=some kv->Pv i σ H'->H' p=none->H' b=some (.tup (kv.1.map kV))->g (.ref p) σ (upd H' p (.tup [.ref b,kv.2])) fun σ3 H3=>tt σ3 H3 λb H4=>if b=true then te σ3 H4 λy H5=>∃ys,H5 l=some (.lst ys)/\ys.length < sizeLine/\Pv (i+1) σ3 (upd H5 l (.lst (ys++[y]))) else Pv (i+1) σ3 H4)
  (hd:∀ σ H',Pv kvs.length σ H'->Q (.ref l) H'):Fj (f9 a o kvs) g tt te Q σ0 H0 l:=by
 unfold Fj
 refine⟨λi m σ H'=>m=kvs.length - i/\i<=kvs.length/\Pv i σ H',⟨kvs.length,by simp,Qcl _,h0⟩,?_⟩
 rintro i m σ H' ⟨rfl,hi,p⟩
 have q:=hl i σ H' hi p
 by_cases hlt:i < kvs.length
 ·refine .inr ⟨⟨hlt,q⟩,Pv (i+1),fun σ3 H3 p'=>⟨kvs.length - (i+1),by omega,rfl,hlt,p'⟩,λx H2 y=>?_⟩
  obtain⟨pa,b,kv,hp,hkv,hb,rfl,rfl⟩:=y
  exact hs i kv pa b σ H' hkv p hp hb
 ·have e:i=kvs.length:=by omega
  subst e
  exact .inl ⟨⟨rfl,q⟩,hd σ H' p⟩
open PySem.W (KasT kas_asc kas_desc kas_rev kas_tail3 kas_descPart kas_count kas_place kas_bin kas_sort)
structure C3 (a b c k:Int):Prop where
 b0:0<=b
 b1:b < 100
 c0:0<=c
 c1:c < 100
 k:k=a*10000+b*100+c
def Uy (K:YD) (H:Hp) (v:V) (k:Int):Prop:=∃t a b c,v=.ref t/\SqT K H t [.int a,.int b,.int c]/\C3 a b c k
theorem pP {K:YD} {H:Hp}:∀{vs:YG} {ks:List Int},Paired (Uy K H) vs ks->fX K H vs
 | _,_,.nil,_,h=>nomatch h
 | _,_,.cons x r,v,h=>by
  rcases QbT.mp h with rfl | h
  ·obtain⟨t,a,b,c,e,q,_⟩:=x
   exact⟨t,[a,b,c],e,q,Nat.succ_pos _⟩
  ·exact pP r v h
section
variable {prog:Program} {w:World} {A:Around} {s:Shared}
theorem A0 {fin:Bool} {C:Bool->Shared->Prop} {a b c k a' b' c' k':Int} {t1 t2 t3 u1 u2 u3:Tok} (x:C3 a b c k) (y:C3 a' b' c' k') (ne:k≠k') (hC:C (decide (k < k')) s):PySem.W.KatLex prog w A true fin C ([Value.int a t1,Value.int b t2,Value.int c t3].zip [Value.int a' u1,Value.int b' u2,Value.int c' u3]) 0 s:=by
 have x1:=x.b0
 have x2:=x.b1
 have x3:=x.c0
 have x4:=x.c1
 have x5:=x.k
 have y1:=y.b0
 have y2:=y.b1
 have y3:=y.c0
 have y4:=y.c1
 have y5:=y.k
 rw[List.zip_cons_cons]
 refine kat_cons (wpAny_eqBool_int ?_)
 by_cases ha:a=a'
 ·rw[show (a == a')=true by rw[ha];exact beq_self_eq_true a']
  refine PySem.W.kat_yes ?_
  rw[List.zip_cons_cons]
  refine kat_cons (wpAny_eqBool_int ?_)
  by_cases hb:b=b'
  ·rw[show (b == b')=true by rw[hb];exact beq_self_eq_true b']
   refine PySem.W.kat_yes ?_
   rw[List.zip_cons_cons]
   refine kat_cons (wpAny_eqBool_int ?_)
   have hc:c≠c':=λz=>ne (by rw[x5,y5,ha,hb,z])
   rw[show (c == c')=false from QaJ.mpr hc]
   refine PySem.W.kat_no (PySem.W.kat_one _ _ (lt_int ?_))
   rw[show decide (c < c')=decide (k < k') by rw[QbH,QaZ,QaZ];subst ha hb;constructor <;> intro h <;> omega]
   exact hC
  ·rw[show (b == b')=false from QaJ.mpr hb]
   refine PySem.W.kat_no (PySem.W.kat_one _ _ (lt_int ?_))
   rw[show decide (b < b')=decide (k < k') by rw[QbH,QaZ,QaZ];subst ha;constructor <;> intro h <;> omega]
   exact hC
 ·rw[show (a == a')=false from QaJ.mpr ha]
  refine PySem.W.kat_no (oneLt_int ?_)
  rw[show decide (a < a')=decide (k < k') by rw[QbH,QaZ,QaZ];constructor <;> intro h <;> omega]
  exact hC
end
@[irreducible] def Tv (K:YD):YG->Hp->VK->Prop:=λxs H Q=>∃(p:Addr) (vs:YG) (ks:List Int),xs=[.ref p]/\SqL K H p vs/\vs.length < 64/\Paired (Uy K H) vs ks/\ks.Nodup /\
 ∀(is:List Nat) l,is.Perm (List.range vs.length)->(is.map λi=>ks.getD i 0).Pairwise (· < ·)->H l=none->Q (.ref l) (upd H l (.lst (is.map λi=>vs.getD i .non)))
theorem lJ {K:YD} {p:Addr} {vs:YG} {ks:List Int} {H:Hp} {Q:VK} (h1:SqL K H p vs) (h2:vs.length < 64) (h3:Paired (Uy K H) vs ks) (h4:ks.Nodup)
  (q:∀(is:List Nat) l,is.Perm (List.range vs.length)->(is.map λi=>ks.getD i 0).Pairwise (· < ·)->H l=none->Q (.ref l) (upd H l (.lst (is.map λi=>vs.getD i .non)))):Tv K [.ref p] H Q:=by
 unfold Tv
 exact⟨p,vs,ks,rfl,h1,h2,h3,h4,q⟩
theorem Zt {X:Cx}:Fi X (.builtin "sorted") (Tv X.K):=by
 intro pins s σ H xs us Q I r h
 unfold Tv at h
 obtain⟨p,vs,ks,rfl,hq,h64,hK,hnd,q⟩:=h
 have hR:fX X.K H vs:=pP hK
 have hkl:vs.length=ks.length:=QbS hK
 obtain⟨u,rfl,rx⟩:=vals1 r
 cases rx
 obtain⟨its,rv,pl,hz⟩:=I.list hq
 have hlen:vs.length=its.length:=rv.length
 by_cases h2:2<=its.length
 ·obtain⟨m,hn,_⟩:=id I.loc
  refine PySem.W.kat_sorted (Att.wB hn) (nT (g:=Att.T8 s.heap) (h:=s.heap) (L:=X.env.locals)) pl.isList h2 (by omega) λD e1 h' F' N' hD=>?_
  have kp:∀b o,b≠X.env.locals->s.heap.get? b=some o->h'.get? b=some o:=λb o hb e=>(N' (b,o) (QaF _ (Ny hb (Att.K9 _ _) e))).1
  have nl:∀b,H b≠none\/(∃u,X.base.get? b=some u)->b≠X.env.locals:=λb hb z=>by
   rcases hb with hb |⟨u,hb⟩
   ·exact hb (by rw[z];exact I.free)
   ·have:=Qcb hb
    rw[z] at this
    exact absurd (QaV this (Qce I.ok.bsz I.ok.above)) (QbV _)
  obtain⟨fs,f1,f2,f3⟩:=bQ (h':=h') I (λb o hb e=>kp b o (nl b hb) e) rv hR
  refine PySem.W.kat_kind f1 (by omega) (λv hv=>by obtain⟨i,t,rfl⟩:=f3 v hv;exact PySem.W.Looks.of_pure rfl) (T:=.type "int") (by decide) ?_
  have inj:Inj its.length (λi=>ks.getD i 0):=λi j hi hj e=>by
   have e:ks.getD i 0=ks.getD j 0:=e
   have e1:ks.getD i 0=ks[i]'(by omega):=by simp[show i < ks.length by omega]
   have e2:ks.getD j 0=ks[j]'(by omega):=by simp[show j < ks.length by omega]
   rw[e1,e2] at e
   exact jf hnd _ _ e
  have hp:=Sq (lt:=ltK λi=>ks.getD i 0) _ (ZC (n:=its.length) (by omega))
  have Ra:=Kg.list hp (lY inj h2)
  refine bR (lt:=ltK λi=>ks.getD i 0) (n:=its.length) (λi j C hi hj hC=>?_) _ (ZC (by omega)) ?_
  ·have pF:∀i,i < its.length->∃(x:Addr) (ox:Obj) (ws:Array Value) (n:Nat),its.getD i Value.none=.ref x/\h'.get? x=some ox/\ox.data=.seq ws n/\(∃a b c t1 t2 t3,ws.toList=[Value.int a t1,Value.int b t2,Value.int c t3]/\C3 a b c (ks.getD i 0))/\∀y∈ws.toList,∃a t,y=Value.int a t:=λi hi=>by
    have hvi:i < vs.length:=by omega
    obtain⟨u,hu,ru⟩:=rv.get (x:=vs[i]) (i:=i) (by simp[hvi])
    obtain⟨tp,ka,kb,kc,e,hq',hC3⟩:=ZM V.non (0:Int) hK hvi
    have hq':SqT X.K H tp (([ka,kb,kc]:List Int).map V.int):=hq'
    have ev:vs.getD i V.non=vs[i]:=by simp[hvi]
    rw[ev] at e
    rw[e] at ru
    cases ru
    obtain⟨ws,rw',⟨o,ho,hc,n,hd⟩,_⟩:=I.tuple hq'
    have go:∀{ns:List Int} {ws:YE},Vals (ns.map V.int) ws->∀y∈ws,∃a t,y=Value.int a t:=by
     intro ns
     induction ns with
     | nil=>intro ws r;cases r;exact λy hy=>nomatch hy
     | cons n0 nr ih=>
      intro ws r
      cases r with
      | cons r0 rr=>
       intro y hy
       rcases QbT.mp hy with rfl | hy
       ·obtain⟨t,e⟩:=r0;exact⟨_,_,e⟩
       ·exact ih rr y hy
    refine⟨tp,o,ws.toArray,n,?_,kp tp o (nl tp ?_) ho,hd,?_,λy hy=>go rw' y (by simpa using hy)⟩
    ·rw[List.getD_eq_getElem?_getD,hu];rfl
    ·rcases hq' with (z |⟨_,z⟩) |⟨_,_,_,z,_⟩
     ·exact .inl (by rw[z];exact λz=>nomatch z)
     ·exact .inl (by rw[z];exact λz=>nomatch z)
     ·exact .inr ⟨_,I.mod.kin _ _ z⟩
    ·cases rw' with
     | cons r0 rr=>
      cases rr with
      | cons r1 rr=>
       cases rr with
       | cons r2 rr=>
        cases rr
        obtain⟨t0,e0⟩:=r0
        obtain⟨t1,e1⟩:=r1
        obtain⟨t2,e2⟩:=r2
        exact⟨ka,kb,kc,t0,t1,t2,by rw[e0,e1,e2],hC3⟩
   obtain⟨x,ox,wx,nx,ex,hx,dx,⟨xa,xb,xc,x1,x2,x3,fx,cx⟩,ix⟩:=pF i hi
   obtain⟨y,oy,wy,ny,ey,hy,dy,⟨ya,yb,yc,y1,y2,y3,fy,cy⟩,iy⟩:=pF j hj
   unfold PySem.W.kas_ask
   rw[ex,ey]
   refine PySem.W.kat_lt hx dx hy dy ?_
   by_cases ne:i=j
   ·subst ne
    rw[ex] at ey
    cases ey
    rw[hx] at hy
    cases hy
    rw[dx] at dy
    cases dy
    have e0:ltK (λi=>ks.getD i 0) i i=false:=QbB (Int.lt_irrefl _)
    rw[e0] at hC
    have e1:decide (wx.size < wx.size)=false:=QbB (QbV _)
    rw[e1]
    exact vA hC _ ix 0
   ·rw[fx,fy]
    exact A0 cx cy (λz=>ne (inj i j hi hj z)) hC
  ·refine PySem.W.KasFin.intro F' N' (.head λq hq=>Qcd (hD q hq)) λh2' c F2 N2=>?_
   generalize EY (ltK λi=>ks.getD i 0) (kas_sort its.length)=pp at hp Ra N2 ⊢
   have kp2:∀b o,b≠X.env.locals->s.heap.get? b=some o->h2'.get? b=some o:=λb o hb e=>(N2 (b,o) (QaF _ (Ny hb (Att.K9 _ _) e))).1
   obtain⟨oD,DL,_⟩:=N2 (D,_) (QaQ ..)
   have nD:∀b o,s.heap.get? b=some o->b≠D:=λb o e z=>by
    by_cases hb:b=X.env.locals
    ·exact DL (by rw[<-z];exact hb)
    ·have:=hD (b,o) (Ny hb (Att.K9 _ _) e)
     rw[z] at this
     exact QbV _ this
   have hDn:H D=none:=by
    cases e:H D with
    | none=>rfl
    | some v=>
     obtain⟨o,ho⟩:=(I.hok D v e).there
     exact absurd rfl (nD D o ho)
   have tr:∀(o:HO) b u,H b=some u->(upd H D o) b=some u:=λo b u e=>by rw[Al (Ar e hDn)];exact e
   have hmem:∀i∈pp.toList,i < vs.length:=λi hi=>by rw[hlen];exact QbR.mp (hp.mem_iff.mp hi)
   have rv2:Vals (pp.toList.map λi=>vs.getD i .non) (pp.toList.map λi=>its.getD i Value.none):=VR V.non Value.none rv hmem
   have pm:(pp.toList.map λi=>vs.getD i .non).Perm vs:=by
    have:=hp.map λi=>vs.getD i V.non
    rw[<-hlen,range_getD] at this
    exact this
   have I2:Inv X pins σ (upd H D (.lst (pp.toList.map λi=>vs.getD i .non))) { s with heap:=h2' }:=by
    refine I.step (h':=h2') (g':=s.gens) (d':=s.drawn) (t':=s.toks) (ch:=[]) (λb hb=>absurd hb (by simp)) (λb u hb _ _ e _=>kp2 b u hb e) (λb u hb _ _ e _=>⟨u.slots,kp2 b u hb e⟩) (λb u _ e n=>by rw[Al (nD b u e)];exact n)
     (λb u _ e=>?_) (λb ys e=>tr _ _ _ e) (λb u v e=>tr _ _ _ e) (λb ps e=>⟨#[],by rw[tr _ _ _ e];simp⟩) (λm' hm'=>by rw[rE hm' hn];exact F2.ns) (λb u e=>?_) I.bare
    ·by_cases hb:b=X.env.locals
     ·obtain⟨o,_,_,ho,_⟩:=F2.ns
      exact⟨o,by rw[hb];exact ho⟩
     ·exact⟨u,kp2 b u hb e⟩
    ·by_cases hb:b=D
     ·subst hb
      rw[Ab] at e
      cases e
      exact⟨by rw[pm.length_eq];exact Qci (Aq (by omega)),_,c,rv2,oD⟩
     ·rw[Al hb] at e
      refine (I.hok b u e).stay (λx v hx e1=>kp2 x v ?_ e1) (λx e1=>tr _ _ _ e1) λx ys e1=>tr _ _ _ e1
      intro z
      rcases hx with hx | hx
      ·rw[<-hx,z,I.free] at e;cases e
      ·rw[z,I.free] at hx;cases hx
   exact⟨.ref D,_,I2,rfl,q _ D (by rw[hlen];exact hp) Ra hDn⟩
 ·refine XC pl.isList (by omega) λD h' c hD oD kp=>?_
  refine⟨.ref D,_,I.laid (t':=s.toks) (o:=.lst vs) kp hD ?_,rfl,?_⟩
  ·exact⟨Qci (Aq (by omega)),its,c,rv,oD⟩
  ·have z:=q (List.range vs.length) D (List.Perm.refl _) (by
    rw[hkl,range_getD]
    match ks,(show ks.length < 2 by omega) with
    | [],_=>exact List.Pairwise.nil
    | [k],_=>exact Qau _ _) (I.hok.fresh hD)
   rw[range_getD] at z
   exact z
end L2
namespace L2
open PySem PySem.Spec PyProof.Rows
def Ro (a:Addr) (o:Obj) (kvs:YL):It:=
 ⟨λi H=>i < kvs.length/\H a=some (.frz o (.dT kvs)),λi H x H'=>H'=H/\∃b kv,kvs[i]?=some kv/\H b=some (.tup (kv.1.map kV))/\x=.ref b,λi H=>i=kvs.length/\H a=some (.frz o (.dT kvs))⟩
theorem lD {P:Program} {w:World} {K:YD} {tg:Expr} (a it:Addr) (o:Obj) (kvs:YL) {es:YK} {ep:Nat} (ho:o.data=.dict es ep) (hes:es.size=kvs.length):Turn P w K tg (Ro a o kvs) [it] it (λi h=>h.IsKeyIter it a i kvs.length ep) where
 mem:=by simp
 obj:=λi h st b hb=>by
  have e:b=it:=by simpa using hb
  subst e
  obtain⟨oi,q,c,d⟩:=st
  exact⟨oi,q,λv z=>by rw[d] at z;cases z⟩
 keep:=λi h h' st k=>st.at λob q=>k it (by simp) ob q
 item:=by
  intro X hP hw hK hc i pins s σ H E I hf st hg
  subst hP hw hK
  obtain⟨hi,hfz⟩:=hg
  obtain⟨_,⟨hz,rel⟩,da⟩:=M9 I hfz ho
  obtain⟨kv,hkv⟩ : ∃kv,kvs[i]?=some kv:=⟨kvs[i],by simp[hi]⟩
  obtain⟨b,en,hen,hkey,hb,hval⟩:=rel i kv hkv
  rw[<-hes] at st
  refine mz st da hen λh' st' sb=>?_
  have I1:Inv X pins σ H { s with heap:=h' }:=I.Le (t':=s.toks) (λb ob hb q=>(sb.2 b (λz=>hb (by simp[z]))).trans q) hf
  obtain⟨oi,q,c,d⟩:=id st'
  rw[hes] at st'
  exact⟨en.key,rfl,Uk (s:={ s with heap:=h' }) q c d (by decide) ⟨.ref b,H,I1,by rw[hkey];exact rfl,⟨rfl,b,kv,hkv,hb,rfl⟩,st',λb hb=>(hf b hb).1⟩⟩
 done:=by
  intro X hP hw hK hc i pins s σ H E I hf st hg
  subst hP hw hK
  obtain⟨hi,hfz⟩:=hg
  obtain⟨_,⟨hz,rel⟩,da⟩:=M9 I hfz ho
  rw[<-hes] at st
  exact qM (I.ok.hd hc) st da (by simp;omega) λh' ext=>⟨rfl,I.Le (t':=s.toks) (λb ob hb q=>ext b ob (λz=>hb (by simp[z])) q) hf⟩
 self:=λA i s Q E st q=>wpAny_pyIter_keyiter st q
def vN (td:TE):TI:=fun σ H R=>td σ H λx H1=>∃a kvs,x=.ref a/\H1 a=some (.dT kvs)/\∀o,R (Ro a o kvs) (upd H1 a (.frz o (.dT kvs)))
theorem R0 {X:Cx} {tg d:Expr} {td:TE} (hd:PE X d td):PI X tg d (vN td):=by
 intro pins s σ H R I h
 refine thn (hd pins s σ H _ I h) λv s1 zz=>?_
 obtain⟨x,H1,I1,r1,a,kvs,ex,e,q⟩:=zz
 subst ex
 cases r1
 obtain⟨t1,t2,hsm⟩:=Ug I1 (.inr ⟨kvs,.inl e⟩)
 obtain⟨o,ho,I2⟩:=I1.cA e
 obtain⟨_,_,xs,h3,ob,es,ep,h4,h5,h6,h7,_⟩:=(show Bs X.prog X.w H1 s1.heap a (.dT kvs) from I1.hok a _ e)
 rw[ho] at h4
 cases h4
 have hes:=(Y4 h3 h7).1
 have da:NZ s1.heap a es ep:=⟨o,ho,h5,h6⟩
 refine mC hsm da ?_
 refine⟨s1.heap.objs.size,[s1.heap.objs.size],_,_,_,rfl,I2.kept (t':=s1.toks) λb u q=>Qav _ q,lD a _ o kvs h6 hes,?_,λb hb=>?_,q o⟩
 ·rw[<-hes]
  exact⟨_,QaI _ rfl,rfl,rfl⟩
 ·have z:b=s1.heap.objs.size:=by simpa using hb
  subst z
  exact I2.O6 (Qck _) (I2.hok.fresh (Qck _))
section
variable {a l:Addr} {o:Obj} {kvs:YL} {g:TG} {tt:TT} {tk tv:TE} {tb:TS} {Q:VK} {D:Ends} {σ : St} {H:Hp}
theorem su (Pv:YN) (h0:Pv 0 σ H) (hl:∀i σ H',i<=kvs.length->Pv i σ H'->H' a=some (.frz o (.dT kvs)))
  (hs:∀i kv b σ H',kvs[i]?=some kv->Pv i σ H'->H' b=some (.tup (kv.1.map kV))->g (.ref b) σ H' fun σ2 H2=>tb { D with nx:=Pv (i+1),ct:=Pv (i+1),bk:=D.nx } σ2 H2) (hd:∀ σ H',Pv kvs.length σ H'->D.nx σ H') :
  ∃W:Nat->YN,(∃m,W 0 m σ H)/\∀i m σ H,W i m σ H ->
   ((Ro a o kvs).stop i H/\D.nx σ H)\/((Ro a o kvs).go i H/\∃N:YO,(∀ σ' H',N σ' H'->∃m',m' < m/\W (i+1) m' σ' H')/\∀x H',(Ro a o kvs).yld i H x H'->g x σ H' fun σ2 H2=>tb { D with nx:=N,ct:=N,bk:=D.nx } σ2 H2):=by
 refine⟨λi m σ H=>m=kvs.length - i/\i<=kvs.length/\Pv i σ H,⟨kvs.length,by simp,Qcl _,h0⟩,?_⟩
 rintro i m σ H ⟨rfl,hi,p⟩
 have q:=hl i σ H hi p
 by_cases hlt:i < kvs.length
 ·refine .inr ⟨⟨hlt,q⟩,Pv (i+1),fun σ' H' p'=>⟨kvs.length - (i+1),by omega,rfl,hlt,p'⟩,λx H' y=>?_⟩
  obtain⟨rfl,b,kv,hkv,hb,rfl⟩:=y
  exact hs i kv b σ _ hkv p hb
 ·have e:i=kvs.length:=by omega
  subst e
  exact .inl ⟨⟨rfl,q⟩,hd σ H p⟩
theorem Wa {σ0:St} {H0:Hp} (Pv:YN) (h0:Pv 0 σ0 H0) (hl:∀i σ H',i<=kvs.length->Pv i σ H'->H' a=some (.frz o (.dT kvs)))
  (hs:∀i kv b σ H',kvs[i]?=some kv->Pv i σ H'->H' b=some (.tup (kv.1.map kV))->g (.ref b) σ H' fun σ3 H3=>tt σ3 H3 λc H4=>if c=true then tk σ3 H4 λy H5=>tv σ3 H5 λz H6=>∃(ks:YL) (k:List Key) (b:Addr),H6 l=some (.dT ks)/\y=.ref b/\H6 b=some (.tup (k.map kV))/\ks.length < sizeLine/\Pv (i+1) σ3 (upd H6 l (.dT (putK ks k z))) else Pv (i+1) σ3 H4)
  (hd:∀ σ H',Pv kvs.length σ H'->Q (.ref l) H'):Oi (Ro a o kvs) g tt tk tv Q σ0 H0 l:=by
 unfold Oi
 refine⟨λi m σ H'=>m=kvs.length - i/\i<=kvs.length/\Pv i σ H',⟨kvs.length,by simp,Qcl _,h0⟩,?_⟩
 rintro i m σ H' ⟨rfl,hi,p⟩
 have q:=hl i σ H' hi p
 by_cases hlt:i < kvs.length
 ·refine .inr ⟨⟨hlt,q⟩,Pv (i+1),fun σ3 H3 p'=>⟨kvs.length - (i+1),by omega,rfl,hlt,p'⟩,λx H2 y=>?_⟩
  obtain⟨rfl,b,kv,hkv,hb,rfl⟩:=y
  exact hs i kv b σ _ hkv p hb
 ·have e:i=kvs.length:=by omega
  subst e
  exact .inl ⟨⟨rfl,q⟩,hd σ H' p⟩
end
end L2
namespace K10
open PySem L2
def top (i:Nat):Stmt:=PySem.Challenge.pw_warnloop_k10_whole_any_order_one_rest.main.body.getD i (.Pass ⟨0,0,0,0⟩)
theorem Il:bootBuiltins "isinstance"=some (.builtin "isinstance"):=by trivial
theorem j5:bootBuiltins "int"=some (.type "int"):=by trivial
theorem sI:bootBuiltins "bool"=some (.type "bool"):=by trivial
theorem JZ:bootBuiltins "tuple"=some (.type "tuple"):=by trivial
theorem sH:bootBuiltins "list"=some (.type "list"):=by trivial
theorem wN:bootBuiltins "str"=some (.type "str"):=by trivial
theorem Cu:bootBuiltins "len"=some (.builtin "len"):=by trivial
theorem Jy:bootBuiltins "all"=some (.builtin "all"):=by trivial
theorem j6:bootBuiltins "abs"=some (.builtin "abs"):=by trivial
theorem Zx:bootBuiltins "max"=some (.builtin "max"):=by trivial
theorem wO:bootBuiltins "any"=some (.builtin "any"):=by trivial
theorem Wf:bootBuiltins "sorted"=some (.builtin "sorted"):=by trivial
theorem Uu:bootBuiltins "min"=some (.builtin "min"):=by trivial
structure Nm (mg:YB):Prop where
 isinstance:mg "isinstance"=none
 int:mg "int"=none
 bool:mg "bool"=none
 tuple:mg "tuple"=none
 list:mg "list"=none
 str:mg "str"=none
 len:mg "len"=none
 all:mg "all"=none
 abs:mg "abs"=none
 max:mg "max"=none
 min:mg "min"=none
 range:mg "range"=none
 sorted:mg "sorted"=none
 any:mg "any"=none
 sum:mg "sum"=none
 enumerate:mg "enumerate"=none
 zip:mg "zip"=none
 reversed:mg "reversed"=none
 dict:mg "dict"=none
 ord:mg "ord"=none
abbrev Va:Stmt:=top 47
abbrev Oc:YF:=["_law_script","_law_k"]
theorem RN:Ay ["_law_script","_law_k","_law_cell"] Oc (Ak Va):=⟨rfl,rfl,rfl,by trivial,rfl,by trivial,by trivial⟩
abbrev RP:Stmt:=top 48
abbrev Fw:YF:=["_law_bag_here","_law_many"]
theorem IW:Ay ["_law_bag_here","_law_many","_law_digit","_law_primes","_law_step","_law_base","_law_found"] Fw (Ak RP):=⟨rfl,rfl,rfl,by trivial,rfl,by trivial,by trivial⟩
theorem vK (v:V):isW v=(isI v&&!isB v):=by cases v <;> rfl
def Bk (H:Hp) (b:Addr) (n:Nat):Prop:=∃x y z:Int,H b=some (.lst [.int x,.int y,.int z])/\0<=x/\0<=y/\y<=4294967296/\0<=z/\z<=n
theorem Bk.same {H H':Hp} {b:Addr} {n:Nat} (h:Bk H b n) (s:Same H H'):Bk H' b n:=by
 obtain⟨x,y,z,e,r⟩:=h
 exact⟨x,y,z,s _ _ e,r⟩
theorem Bk.mono {H:Hp} {b:Addr} {n m:Nat} (h:Bk H b n) (l:n<=m):Bk H b m:=by
 obtain⟨x,y,z,e,h1,h2,h3,h4,h5⟩:=h
 exact⟨x,y,z,e,h1,h2,h3,h4,by omega⟩
theorem Bk.nb {H:Hp} {b p:Addr} {n:Nat} (h:Bk H b n) (hp:H p=none):b≠p:=by obtain⟨_,_,_,e,_⟩:=h;exact Ar e hp
theorem Bk.Gh {H:Hp} {b:Addr} {n:Nat} (h:Bk H b n):∀xs,H b≠some (.tup xs):=λxs z=>by obtain⟨_,_,_,e,_⟩:=h;rw[e] at z;cases z
theorem Bk.ex {H:Hp} {b:Addr} {n:Nat} (h:Bk H b n):∃o,H b=some o:=by obtain⟨_,_,_,e,_⟩:=h;exact⟨_,e⟩
theorem Bk.Ce {H H':Hp} {a b:Addr} {n:Nat} (h:Bk H b n) (s:Ah a H H') (ne:b≠a):Bk H' b n:=by
 obtain⟨x,y,z,e,r⟩:=h
 exact⟨x,y,z,s _ _ e ne,r⟩
theorem Av {n:Nat} (h:n<=1000):n<=sizeLine:=Qci (Aq h)
def pO (K:YD):Sp:=λvs H Q _=>∃(a:Addr) (ns:List Int) (k:Int),vs=[.ref a,.int k]/\SqL K H a (ns.map V.int)/\ns.length<=63/\0<=k/\k<=100/\∀p o,H p=none->Bk (upd H p o) p 0->Q (.ref p) (upd H p o)
def Lz:Sp:=λvs H Q _=>∃(b:Addr) (n:Nat) (m:Int),vs=[.ref b,.int m]/\Bk H b n/\n<=10000/\0 < m/\m < 1073741824/\∀r H',0<=r->r < m->Bk H' b (n+1)->Ah b H H'->Q (.int r) H'
def WR (K:YD):Sp:=λvs H Q _=>∃(a:Addr) (ns:List Int),vs=[.ref a]/\SqL K H a (ns.map V.int)/\ns.length<=63/\∀H',Q (.bl true) H'
theorem at7 {i:Int} (h0:0<=i) (h7:i < 7) {a b c d e f g:Int} (P:Int->Prop) (ha:P a) (hb:P b) (hc:P c) (hd:P d) (he:P e) (hf:P f) (hg:P g):∃p,atI [V.int a,.int b,.int c,.int d,.int e,.int f,.int g] i=some (.int p)/\P p:=by
 have:i=0\/i=1\/i=2\/i=3\/i=4\/i=5\/i=6:=by omega
 rcases this with rfl | rfl | rfl | rfl | rfl | rfl | rfl
 ·exact⟨_,rfl,ha⟩
 ·exact⟨_,rfl,hb⟩
 ·exact⟨_,rfl,hc⟩
 ·exact⟨_,rfl,hd⟩
 ·exact⟨_,rfl,he⟩
 ·exact⟨_,rfl,hf⟩
 ·exact⟨_,rfl,hg⟩
theorem wL {x:Int} {b:Bool}:gB x (if b=true then 1 else 0):=.inr (by cases b <;> exact⟨by decide,by decide⟩)
section
variable {P:Program} {w:World} {K:YD} {mg:YB} {base:Heap}
theorem nH (C:Code K mg "_law_bag" Va Oc) (T:Nm mg):Good P w K mg base "_law_bag" 1 Oc (pO K):=by
 refine C.good RN (λvs H Q E h=>?_) (λf cdv A outer s H vs Q E hr h=>?_)
 ·obtain⟨a,ns,k,rfl,_⟩:=h
  rfl
 obtain⟨a,ns,k,rfl,hS,h63,h0,h1,q⟩:=h
 refine⟨_,(Ag (Bb (i:=2) RN.nd rfl (Or.inl rfl) (Bc BX (Bc BX (Bc G8 (Bc G8 Ae (pv 1)) (pv 1)) (Bc G8 Ae (pv 1))) Ae))
 (Ag (Ck (Bt TV (pv 1) (Ax Bd rfl T.len Cu (Aa (pv 0) Ac)) (BJ _)) (Ai (Bb (i:=2) RN.nd rfl (Or.inl rfl) (Bq DP (pv 0) (pv 1) (λ_ _=>rfl)))) BL)
 (Ai (Ba (BW (Aa (Bc G8 (Ax Zw rfl T.abs j6 (Aa (pv 2) Ac)) (G7 jZ rfl T.int j5 (Aa (Hl xZ (Ax Zw rfl T.abs j6 (Aa (pv 2) Ac)) (Bc iQ Ae Ae) (BJ _)) Ac))) (Aa (Bc BX (Bc KC (pv 2) Ae) (Bc G8 Ae (pv 1))) (Aa Ae Ac)))))))),?_⟩
 refine⟨_,rfl,_,_,rfl,rfl,.inl ⟨by decide,by decide⟩,_,rfl,_,_,rfl,rfl,.inr ⟨by omega,by omega⟩,_,rfl,_,_,rfl,rfl,.inl ⟨by decide,by decide⟩,_,_,rfl,rfl,_,_,rfl,rfl,?_⟩
 refine⟨_,rfl,_,rfl,a,_,rfl,.inl hS,_,_,rfl,rfl,_,rfl,?_⟩
 have hl:(ns.map V.int).length=ns.length:=Qbx _
 have fin:∀(c:Int) (p:Addr),H p=none->Q (.ref p) (upd H p (.lst [.int ((if c < 0 then -c else c)*(if decide ((10:Int) ^ (18:Int).toNat<=(if c < 0 then -c else c))=true then 1 else 0)),.int (c % 2147483647+37*k),.int 0])):=λc p hp=>by
  refine q p _ hp ⟨_,_,_,Ab,?_,?_,?_,by omega,by omega⟩
  ·refine Int.mul_nonneg ?_ ?_
   ·split <;> omega
   ·split <;> omega
  ·have:=QbL c (show (2147483647:Int)≠0 by decide)
   omega
  ·have:=Qba c (show (0:Int) < 2147483647 by decide)
   omega
 refine Ju (λc1=>?_) (λc1=>?_)
 ·have c':k < (((ns.map V.int).length:Nat):Int):=Qbl c1
  rw[hl] at c'
  have hk:k.toNat < ns.length:=by omega
  have hat:atI (ns.map V.int) ((k.toNat:Nat):Int)=some (.int ns[k.toNat]):=Ge (by rw[Qbg];simp[hk])
  rw[Int.toNat_of_nonneg h0] at hat
  refine⟨_,rfl,_,rfl,a,_,_,_,rfl,rfl,hS,hat,?_⟩
  exact⟨_,rfl,_,rfl,_,rfl,_,rfl,_,_,rfl,rfl,⟨by decide,by decide,by decide⟩,_,_,rfl,rfl,.inr ⟨_,rfl,_,_,rfl,rfl,wL,_,rfl,_,_,rfl,rfl,(by show (0:Int) < 2147483647;decide),_,rfl,_,_,rfl,rfl,.inl ⟨by decide,by decide⟩,_,_,rfl,rfl,
   (by show 3<=sizeLine;decide),λl hl'=>fin _ l hl'⟩⟩
 ·exact⟨_,rfl,_,rfl,_,rfl,_,rfl,_,_,rfl,rfl,⟨by decide,by decide,by decide⟩,_,_,rfl,rfl,.inr ⟨_,rfl,_,_,rfl,rfl,wL,_,rfl,_,_,rfl,rfl,(by show (0:Int) < 2147483647;decide),_,rfl,_,_,rfl,rfl,.inl ⟨by decide,by decide⟩,_,_,rfl,rfl,
   (by show 3<=sizeLine;decide),λl hl'=>fin _ l hl'⟩⟩
theorem iY (C:Code K mg "_law_take" RP Fw) (T:Nm mg):Good P w K mg base "_law_take" 1 Fw Lz:=by
 refine C.good IW (λvs H Q E h=>?_) (λf cdv A outer s H vs Q E hr h=>?_)
 ·obtain⟨b,n,m,rfl,_⟩:=h
  rfl
 obtain⟨b,n,m,rfl,⟨x,y,z,hb,x0,y0,y1,z0,z1⟩,hn,m0,m1,q⟩:=h
 refine⟨_,(Ag (Ck (Bt WY (Bq DP (pv 0) Ae (λ_ _=>rfl)) Ae (BJ _)) (Ag (Bb (i:=2) IW.nd rfl (Or.inl rfl) (Bc KC (Bq DP (pv 0) Ae (λ_ _=>rfl)) (pv 1)))
 (Ag (G5 (Bc Vg (Bq DP (pv 0) Ae (λ_ _=>rfl)) (pv 1)) (Yl (pv 0) Ae set_list))
 (Ai (Ba (pv 2))))) BL)
 (Ag (Bb (i:=3) IW.nd rfl (Or.inl rfl) (@Bh _ _ _ _ _ (@Aa _ _ _ _ _ (@Ae _ _ _ _) (@Aa _ _ _ _ _ (@Ae _ _ _ _) (@Aa _ _ _ _ _ (@Ae _ _ _ _) (@Aa _ _ _ _ _ (@Ae _ _ _ _) (@Aa _ _ _ _ _ (@Ae _ _ _ _) (@Aa _ _ _ _ _ (@Ae _ _ _ _) (@Aa _ _ _ _ _ (@Ae _ _ _ _) (@Ac _) Bu) Bu) Bu) Bu) Bu) Bu) Bu)))
 (Ag (G5 (Bc BX (Bq DP (pv 0) Ae (λ_ _=>rfl)) Ae) (Yl (pv 0) Ae set_list))
 (Ag (Bb (i:=4) IW.nd rfl (Or.inl rfl) (Bq DP (pv 0) Ae (λ_ _=>rfl)))
 (Ag (Bb (i:=5) IW.nd rfl (Or.inl rfl) (Bc BX (Bc BX (Bc G8 (Bq DP (pv 0) Ae (λ_ _=>rfl)) (Bc BX (Bc G8 Ae (pv 4)) Ae)) (Bc G8 (Bc G8 Ae (pv 4)) (pv 4))) Ae))
 (Ag (Bb (i:=6) IW.nd rfl (Or.inl rfl) (Bc KC (Bc iQ (pv 5) Ae) (Bq BR (pv 3) (Bc KC (pv 4) Ae) (λ_ _=>rfl))))
 (Ai (Ba (Bc KC (Bc Vg (Bc KC (Bc G8 (pv 6) (Bc BX (Bc Vg (pv 6) Ae) Ae)) (Bq BR (pv 3) (Bc KC (Bc BX (pv 4) Ae) Ae) (λ_ _=>rfl))) Ae) (pv 1)))))))))),?_⟩
 refine⟨_,rfl,b,_,_,_,rfl,rfl,SqL.of hb,rfl,_,_,rfl,rfl,_,rfl,?_⟩
 refine Ju (λc1=>?_) (λc1=>?_)
 ·have c':0 < x:=Qbl c1
  refine⟨_,rfl,b,_,_,_,rfl,rfl,SqL.of hb,rfl,_,rfl,_,_,rfl,rfl,m0,?_⟩
  refine⟨_,rfl,b,_,_,_,rfl,rfl,SqL.of hb,rfl,_,rfl,_,_,rfl,rfl,⟨m0,m1⟩,_,rfl,b,_,_,_,rfl,rfl,hb,rfl,?_⟩
  exact⟨_,rfl,q _ _ (QbL x (by omega)) (Qba x m0) ⟨x / m,y,z,Ab,Int.ediv_nonneg x0 (by omega),y0,y1,z0,by omega⟩ Ah.upd⟩
 ·refine⟨(by show 7<=sizeLine;decide),λtp htp=>?_⟩
  have nbt:b≠tp:=Ar hb htp
  have hb1:∀o,(upd H tp o) b=some (.lst [.int x,.int y,.int z]):=λo=>by rw[Al nbt];exact hb
  have ht1:∀o u,(upd (upd H tp o) b u) tp=some o:=λo u=>by rw[Al nbt.symm,Ab]
  refine⟨_,rfl,b,_,_,_,rfl,rfl,SqL.of (hb1 _),rfl,_,_,rfl,rfl,_,rfl,b,_,_,_,rfl,rfl,hb1 _,rfl,?_⟩
  refine⟨_,rfl,b,_,_,_,rfl,rfl,SqL.of Ab,rfl,?_⟩
  have s0:0<=z+1:=by omega
  have s1:z+1<=10001:=by omega
  refine⟨_,rfl,b,_,_,_,rfl,rfl,SqL.of Ab,rfl,_,rfl,_,_,rfl,rfl,.inl ⟨by decide,by decide⟩,_,_,rfl,rfl,_,_,rfl,rfl,.inl ⟨by omega,by omega⟩,_,rfl,_,_,rfl,rfl,.inl ⟨by decide,by decide⟩,_,rfl,_,_,rfl,rfl,.inr ⟨by omega,by omega⟩,
   _,_,rfl,rfl,_,_,rfl,rfl,?_⟩
  have hbase:(y*(2*(z+1)+1)+6007*(z+1)*(z+1)+29).natAbs < 2 ^ 64:=by
   have h1:0<=y*(2*(z+1)+1):=Int.mul_nonneg y0 (by omega)
   have h2:y*(2*(z+1)+1)<=4294967296*20003:=Int.mul_le_mul y1 (by omega) (by omega) (by omega)
   have h3:0<=6007*(z+1)*(z+1):=Int.mul_nonneg (by omega) s0
   have h4:6007*(z+1)*(z+1)<=(6007*10001)*10001:=Int.mul_le_mul (by omega) s1 s0 (by omega)
   omega
  obtain⟨p1,e1,p10,p11⟩:=at7 (i:=(z+1) % 7) (QbL _ (by decide)) (Qba _ (by decide)) (a:=2147483629) (b:=2147483587) (c:=2147483579) (d:=2147483563) (e:=2147483549) (f:=2147483543) (g:=2147483497)
   (λp=>0 < p/\p < 2147483648) (by decide) (by decide) (by decide) (by decide) (by decide) (by decide) (by decide)
  obtain⟨p2,e2,p20,p21⟩:=at7 (i:=(z+1+3) % 7) (QbL _ (by decide)) (Qba _ (by decide)) (a:=2147483629) (b:=2147483587) (c:=2147483579) (d:=2147483563) (e:=2147483549) (f:=2147483543) (g:=2147483497)
   (λp=>0 < p/\p < 2147483648) (by decide) (by decide) (by decide) (by decide) (by decide) (by decide) (by decide)
  refine⟨_,rfl,_,_,rfl,rfl,⟨by decide,by decide,hbase⟩,_,rfl,_,rfl,_,_,rfl,rfl,(by show (0:Int) < 7;decide),tp,_,_,_,rfl,rfl,SqT.of (ht1 _ _),e1,_,_,rfl,rfl,p10,?_⟩
  generalize hF:(y*(2*(z+1)+1)+6007*(z+1)*(z+1)+29) ^ (3:Int).toNat % p1=F
  have F0:0<=F:=by rw[<-hF];exact QbL _ (by omega)
  have F1:F < p1:=by rw[<-hF];exact Qba _ p10
  refine⟨_,rfl,_,rfl,_,_,rfl,rfl,⟨by decide,by decide⟩,_,_,rfl,rfl,_,_,rfl,rfl,.inl ⟨by omega,by omega⟩,_,rfl,_,rfl,_,_,rfl,rfl,_,_,rfl,rfl,(by show (0:Int) < 7;decide),tp,_,_,_,rfl,rfl,SqT.of (ht1 _ _),e2,_,_,rfl,rfl,p20,
   _,_,rfl,rfl,⟨by decide,by decide⟩,_,rfl,_,_,rfl,rfl,m0,?_⟩
  refine q _ _ (QbL _ (by omega)) (Qba _ m0) ⟨x,y,z+1,Ab,x0,y0,y1,s0,by omega⟩ λc o e nc=>?_
  rw[Al nc,Al (Ar e htp)]
  exact e
end
abbrev Ou:Stmt:=top 49
abbrev Mp:YF:=["_law_bag_here"]
theorem VN:Ay ["_law_bag_here","_law_letters"] Mp (Ak Ou):=⟨rfl,rfl,rfl,by trivial,rfl,by trivial,by trivial⟩
abbrev MJ:Stmt:=top 50
abbrev Ks:YF:=["_law_bag_here","_law_many"]
theorem Jk:Ay ["_law_bag_here","_law_many","_law_found","_law_place","_law_name_here"] Ks (Ak MJ):=⟨rfl,rfl,rfl,by trivial,rfl,by trivial,by trivial⟩
theorem rJ {K:YD} {H:Hp} {z:Str} {Q:VK} (q:Q (.bl true) H):Nu K [.str z,.ty "str"] H Q:=by
 unfold Nu
 exact⟨_,_,_,_,rfl,.str z,by rfl,q⟩
def abc:Str:="abcdefghijklmnopqrstuvwxyz"
def okS (z:Str):Prop:=∀c∈z.cps.toList,c∈abc.cps.toList
theorem okS.append {x y:Str} (h:okS x) (h':okS y):okS (x++y):=by
 intro c hc
 have:c∈x.cps.toList++y.cps.toList:=by
  have e:(x++y).cps=x.cps++y.cps:=rfl
  rw[e,Array.toList_append] at hc
  exact hc
 rcases Qbz.mp this with z | z
 ·exact h c z
 ·exact h' c z
theorem okS.slice {x:Str} (h:okS x) (l u:Option Int):okS (Txt.slice x l u):=by
 unfold Txt.slice
 split
 ·exact h
 ·intro c hc
  have hc':c∈(Builtin.Str.strSliceIndices l u 1 x.length).filterMap (x.cps[·]?):=by simpa using hc
  obtain⟨i,_,e⟩:=List.mem_filterMap.mp hc'
  exact h c (Array.mem_toList_iff.mpr (Array.mem_of_getElem? e))
theorem okS.join {sep:Str} (hs:okS sep):∀{ts:YF},(∀t∈ts,okS t)->okS (Str.join sep ts)
 | [],_=>λc hc=>by cases hc
 | [x],h=>h x (QaQ ..)
 | x::y::r,h=>((h x (QaQ ..)).append hs).append (okS.join hs (ts:=y::r) λt ht=>h t (QaF _ ht))
theorem Rn:abc.cps.toList.length=26:=by trivial
theorem wU:abc.cps.toList.Nodup:=by trivial
theorem j7:okS abc:=λc hc=>hc
theorem Za:∀ts:YF,(Str.join "" ts).length=(ts.map (·.length)).sum
 | []=>rfl
 | [x]=>by show x.length=_;simp
 | x::y::r=>by
  show ((x++"")++Str.join "" (y::r)).length=_
  rw[Str.length_append,Str.length_append,Za (y::r),QbU (a:=x),List.sum_cons]
  have:(Str.ofString "").length=0:=by trivial
  rw[this]
  omega
theorem B5 (n:Nat):(Builtin.Str.strSliceIndices (some 1) none 1 n).length<=n - 1:=by
 unfold Builtin.Str.strSliceIndices sliceRange
 simp only[show (1:Int) > 0 by decide,if_true,Qbx,Qbm,show ¬((1:Int) < 0) by decide,if_false]
 split
 ·rw[Int.ediv_one];omega
 ·exact Qcl _
theorem gY (z:Str):(Txt.slice z (some 1) none).length<=z.length - 1:=by
 have h:=B5 z.length
 unfold Txt.slice
 split
 ·rename_i hc
  rw[Qbv] at hc
  have:=eq_of_beq hc.2
  omega
 ·show (List.filterMap _ _).toArray.size<=_
  rw[Qbe]
  exact Qce (List.length_filterMap_le _ _) h
theorem wV {r:Int} (h0:0<=r) (h1:r < 26):∃c,atI abc.cps.toList r=some c/\okS ⟨#[c]⟩:=by
 have hl:r.toNat < abc.cps.toList.length:=by rw[Rn];omega
 refine⟨abc.cps.toList[r.toNat],?_,λc hc=>?_⟩
 ·have:=Ge (xs:=abc.cps.toList) (j:=r.toNat) (Qak hl)
  rw[Int.toNat_of_nonneg h0] at this
  exact this
 ·have:c=abc.cps.toList[r.toNat]:=by simpa using hc
  rw[this]
  exact j7 _ (List.getElem_mem hl)
theorem Xi:∀{ys:YF},(∀y∈ys,y.length=1)->(ys.map (·.length)).sum=ys.length
 | [],_=>rfl
 | y::r,h=>by
  rw[QbU,List.sum_cons,h y (QaQ ..),Xi (ys:=r) λt ht=>h t (QaF _ ht),Qbp]
  omega
theorem V8 (ys:YF):(ys.map V.str).all Kf=true:=by
 rw[List.all_map,List.all_eq_true]
 intro _ _
 rfl
theorem OD (z:Str):∀ys:YF,inV (.str z) (ys.map V.str)=true ↔ z∈ys
 | []=>by constructor <;> intro h <;> cases h
 | y::r=>by
  have ih:=OD z r
  unfold inV at ih ⊢
  rw[QbU,QbX,Bool.or_eq_true,ih,QbT]
  have:eqV (.str y) (.str z)=true ↔ z=y:=by
   show (y == z)=true ↔ z=y
   rw[beq_iff_eq]
   exact⟨λh=>h.symm,λh=>h.symm⟩
  rw[this]
theorem V1:∀{l m:YF},l.Nodup->(∀x∈l,x∈m)->l.length<=m.length
 | [],_,_,_=>Qcl _
 | a::r,m,nd,h=>by
  have ha:=h a (QaQ ..)
  obtain⟨n1,n2⟩:=QbG.mp nd
  have:=V1 (l:=r) (m:=m.erase a) n2 λx hx=>(List.mem_erase_of_ne (λe=>n1 (by rw[<-e];exact hx))).mpr (h x (QaF _ hx))
  rw[List.length_erase_of_mem ha] at this
  have hp:=List.length_pos_of_mem ha
  rw[Qbp]
  omega
theorem Z7 (rest:Str) {ys:YF} (h:ys.length < 26):∃(i c:Nat),abc.cps[i]?=some c/\((⟨#[c]⟩ : Str)++rest)∉ys:=by
 refine Qah λhn=>?_
 have hall:∀x∈abc.cps.toList.map (λc=>(⟨#[c]⟩ : Str)++rest),x∈ys:=λx hx=>by
  obtain⟨c,hc,rfl⟩:=Qcc.mp hx
  obtain⟨i,hi⟩:=QaH hc
  refine Qah λhm=>hn ⟨i,c,by simpa using hi,hm⟩
 have nd:(abc.cps.toList.map (λc=>(⟨#[c]⟩ : Str)++rest)).Nodup:=by
  refine List.pairwise_map.mpr (wU.imp λ{c d} hne e=>hne ?_)
  have e1:(#[c]++rest.cps:Array Nat)=#[d]++rest.cps:=congrArg Str.cps e
  have e2:=congrArg Array.toList e1
  rw[Array.toList_append,Array.toList_append] at e2
  injection e2
 have:=V1 nd hall
 rw[Qbx,Rn] at this
 omega
theorem Qcs {α : Type} {l:List α} {i:Nat} {x:α} (h:l[i]?=some x):l.take (i+1)=l.take i++[x]:=by rw[List.take_add_one,h];rfl
theorem fO {X:Cx} {K:YD} (h:X.K=K) (hc:X.calm=true):Fi X (.builtin "max") (λxs H Q=>∃(p:Addr) (ns:List Int),xs=[.ref p]/\SqL K H p (ns.map V.int)/\0 < ns.length/\∀M,M∈ns->(∀a,a∈ns->a<=M)->Q (.int M) H):=h ▸ Wd hc
theorem Ah.Om {a b:Addr} {H HH H':Hp} (s:Ah b H HH) (t:Ah a HH H') (f:H a=none):Ah b H H':=λc o e n=>t _ _ (s _ _ e n) λz=>by rw[z,f] at e;cases e
theorem EU {i:Int} (h0:0<=i) (h6:i < 6) {a b c d e f:Int} (P:Int->Prop) (ha:P a) (hb:P b) (hc:P c) (hd:P d) (he:P e) (hf:P f):∃p,atI [V.int a,.int b,.int c,.int d,.int e,.int f] i=some (.int p)/\P p:=by
 have:i=0\/i=1\/i=2\/i=3\/i=4\/i=5:=by omega
 rcases this with rfl | rfl | rfl | rfl | rfl | rfl
 ·exact⟨_,rfl,ha⟩
 ·exact⟨_,rfl,hb⟩
 ·exact⟨_,rfl,hc⟩
 ·exact⟨_,rfl,hd⟩
 ·exact⟨_,rfl,he⟩
 ·exact⟨_,rfl,hf⟩
def gU:Sp:=λvs H Q _=>∃(b:Addr) (n:Nat),vs=[.ref b]/\Bk H b n/\n<=9000/\∀z H',1<=z.length->z.length<=8->okS z->Bk H' b (n+9)->Ah b H H'->Q (.str z) H'
def bA:Sp:=λvs H Q _=>∃(b:Addr) (n many:Nat),vs=[.ref b,.int many]/\Bk H b n/\n<=8000/\many<=20 /\
 ∀l (ys:YF) H',H l=none->ys.length=many->(∀y∈ys,(1<=y.length/\y.length<=8)/\okS y)->ys.Nodup->H' l=some (.lst (ys.map V.str))->Bk H' b (n+9*many)->Ah b H H'->Q (.ref l) H'
section
variable {P:Program} {w:World} {K:YD} {mg:YB} {base:Heap}
theorem qZ (C:Code K mg "_law_name" Ou Mp) (T:Nm mg) (Bm:Good P w K mg base "_law_take" 1 Fw Lz):Good P w K mg base "_law_name" 2 Mp gU:=by
 refine C.good VN (λvs H Q E h=>?_) (λf cdv A outer s H vs Q E hr h=>?_)
 ·obtain⟨b,n,rfl,_⟩:=h
  rfl
 obtain⟨b,n,rfl,hb,hn,q⟩:=h
 refine⟨_,(Ag (Bb (i:=1) VN.nd rfl (Or.inr rfl) Bp)
 (Ai (Ba (Cm PySem.F.plainAttrs_str PySem.F.slot_str_join PySem.F.type_str_join rF Bp (Aa (BP (N':=["_law_place","_law_letters","_law_bag_here"]) rfl (Bg.of (src:=[none,some 1,some 0]) (Ak Ou) ["_law_bag_here","_law_letters"] rfl rfl rfl (by trivial) (by trivial) (by trivial) rfl (by trivial)) (Ca rfl T.range (Aa (Bc BX Ae (Aw Bm hr (Aa (pv 0) (Aa Ae Ac)))) Ac)) (λ_ _ _ _=>(Aj (i:=0) (show List.Nodup (["_law_place","_law_letters","_law_bag_here"]:YF) by trivial) rfl (Or.inl rfl))) (λ_ _ _ _=>Cy) (λ_ _ _ _=>(Bq vI (pv 1) (Aw Bm hr (Aa (pv 2) (Aa Ae Ac))) (λ_ _=>rfl)))) Ac))))),?_⟩
 refine⟨rfl,_,rfl,b,n,8,rfl,hb,by omega,by decide,by decide,λr H1 r0 r1 hb1 sb1=>⟨_,_,rfl,rfl,_,rfl,by omega,by omega,λl hl=>?_⟩⟩
 have nbl:b≠l:=hb1.nb hl
 have fl:H l=none:=sb1.free hb1.ex hl
 refine Jx (λi σ HH=>∃(u:Option V) (ys:YF),σ=[u,some (.str abc),some (.ref b)]/\HH l=some (.lst (ys.map V.str))/\ys.length=i/\(∀y∈ys,y.length=1/\okS y)/\Bk HH b (n+1+i)/\Ah b H HH)
  ⟨none,[],rfl,Ab,rfl,(λy hy=>by cases hy),hb1.same (Af hl _),sb1.trans (Ah.of (Af hl _))⟩ (λi σ HH hi h=>?_) (fun σ HH h=>?_)
 ·obtain⟨u,ys,rfl,e1,e2,e3,e4,e5⟩:=h
  refine⟨_,rfl,_,rfl,b,_,26,rfl,e4,by omega,by decide,by decide,λr' HA r0' r1' hbA sA=>?_⟩
  obtain⟨c,ec,oc⟩:=wV r0' r1'
  have eA:=sA _ _ e1 nbl.symm
  refine⟨_,_,c,rfl,rfl,Av (by show abc.cps.size<=1000;rw[<-QaM,Rn];decide),ec,_,eA,Aq (by rw[Qbx];omega),_,ys++[⟨#[c]⟩],rfl,?_,?_,λy hy=>?_,hbA.Ce Ah.upd nbl,?_⟩
  ·rw[Ab,Qby];rfl
  ·rw[QaP,e2];rfl
  ·rcases Qbz.mp hy with h | h
   ·exact e3 y h
   ·have:y=⟨#[c]⟩:=by simpa using h
    rw[this]
    exact⟨rfl,oc⟩
  ·exact λc o e ne=>Ah.upd _ _ (sA _ _ (e5 _ _ e ne) ne) λz=>by rw[z,fl] at e;cases e
 obtain⟨u,ys,rfl,e1,e2,e3,e4,e5⟩:=h
 have hs:=Xi λy hy=>(e3 y hy).1
 refine⟨_,l,ys,rfl,rfl,SqL.of e1,?_,?_⟩
 ·rw[hs]
  have:(Str.ofString "").length=0:=by trivial
  rw[this]
  omega
 ·have hj:=Za ys
  rw[hs] at hj
  refine q _ HH ?_ ?_ ?_ (e4.mono (by omega)) e5
  ·show 1<=(Builtin.Str.glued _ ys).length
   rw[StrLaws.glued_eq_join]
   show 1<=(Str.join "" ys).length
   omega
  ·show (Builtin.Str.glued _ ys).length<=8
   rw[StrLaws.glued_eq_join]
   show (Str.join "" ys).length<=8
   omega
  ·show okS (Builtin.Str.glued _ ys)
   rw[StrLaws.glued_eq_join]
   exact okS.join (λc hc=>by cases hc) λy hy=>(e3 y hy).2
theorem nG (C:Code K mg "_law_names" MJ Ks) (T:Nm mg) (oN:Good P w K mg base "_law_name" 2 Mp gU):Good P w K mg base "_law_names" 3 Ks bA:=by
 refine C.good Jk (λvs H Q E h=>?_) (λf cdv A outer s H vs Q E hr h=>?_)
 ·obtain⟨b,n,many,rfl,_⟩:=h
  rfl
 obtain⟨b,n,many,rfl,hb,hn,hm,q⟩:=h
 refine⟨_,(Ag (Bb (i:=2) Jk.nd rfl (Or.inr rfl) (BW Ac))
 (Ag (Bv QbA rfl (Ca rfl T.range (Aa (pv 1) Ac)) (Aj (i:=3) Jk.nd rfl (Or.inl rfl))
 (Ag (Bb (i:=4) Jk.nd rfl (Or.inr rfl) (Aw oN hr (Aa (pv 0) Ac)))
 (Ag (Ck (Bt Qq (pv 4) (pv 2) (by with_unfolding_all rfl)) (Ai (Bb (i:=4) Jk.nd rfl (Or.inr rfl) (Bq DP (BP (N':=["_law_one","_law_name_here","_law_found"]) rfl (Bg.of (src:=[none,some 4,some 2]) (Ak MJ) ["_law_bag_here","_law_many","_law_found","_law_place","_law_name_here"] rfl rfl rfl (by trivial) (by trivial) (by trivial) rfl (by trivial)) (iJ Bp) (λ_ _ _ _=>(Aj (i:=0) (show List.Nodup (["_law_one","_law_name_here","_law_found"]:YF) by trivial) rfl (Or.inl rfl))) (λ_ _ _ _=>(G6 (Bt (Pk (K:=K) rfl) (Bc T4 (pv 0) (JM gZ (pv 1) (Lf Ae) Lg)) (pv 2) (by with_unfolding_all rfl)))) (λ_ _ _ _=>(Bc T4 (pv 0) (JM gZ (pv 1) (Lf Ae) Lg)))) Ae (λ_ _=>rfl)))) BL)
 (Ai (Bf (Cm Qap Qal Qam Cd (pv 2) (Aa (pv 4) Ac)))))))
 (Ai (Ba (pv 2))))),?_⟩
 refine⟨Av (by show 0<=1000;decide),λlf hlf=>?_⟩
 have s1:=Af hlf (.lst [])
 have nbf:b≠lf:=hb.nb hlf
 refine⟨_,rfl,_,rfl,by omega,by omega,?_⟩
 rw[Qbh]
 refine Dk (λi σ HH=>∃u3 u4 ys,σ=[some (.ref b),some (.int many),some (.ref lf),u3,u4]/\HH lf=some (.lst (ys.map V.str))/\ys.length=i/\(∀y∈ys,(1<=y.length/\y.length<=8)/\okS y)/\Bk HH b (n+9*i)/\Ah b H HH/\ys.Nodup)
  ⟨_,_,[],rfl,Ab,rfl,(λy hy=>by cases hy),hb.same s1,Ah.of s1,QbP⟩ (λi σ HH hi h=>?_) (fun σ HH h=>?_)
 ·obtain⟨u3,u4,ys,rfl,e1,e2,e3,e4,e5,e6⟩:=h
  refine⟨_,rfl,b,_,rfl,e4,by omega,λz HA hz1 hz oz hbA sA=>?_⟩
  have eA:=sA _ _ e1 nbf.symm
  have s5:Ah b H HA:=e5.trans sA
  have fin:∀(y:Str) (HB:Hp),(1<=y.length/\y.length<=8)->okS y->y∉ys->HB lf=some (.lst (ys.map V.str))->Bk HB b (n+9*i+9)->Ah b H HB->∃(u3 u4:Option V) (ys':YF),[some (V.ref b),some (.int many),some (.ref lf),some (.int (0+(i:Int))),some (.str y)]=[some (.ref b),some (.int many),some (.ref lf),u3,u4] /\
    upd HB lf (.lst (ys.map V.str++[.str y])) lf=some (.lst (ys'.map V.str))/\ys'.length=i+1/\(∀y∈ys',(1<=y.length/\y.length<=8)/\okS y)/\Bk (upd HB lf (.lst (ys.map V.str++[.str y]))) b (n+9*(i+1))/\Ah b H (upd HB lf (.lst (ys.map V.str++[.str y])))/\ys'.Nodup:=λy HB hy oy hny hB bB sB=>by
   refine⟨_,_,ys++[y],rfl,?_,?_,λx hx=>?_,(bB.Ce Ah.upd nbf).mono (by omega),Ah.Om sB Ah.upd hlf,bO e6 hny⟩
   ·rw[Ab,Qby];rfl
   ·rw[QaP,e2];rfl
   ·rcases Qbz.mp hx with h | h
    ·exact e3 x h
    ·have:x=y:=by simpa using h
     rw[this]
     exact⟨hy,oy⟩
  refine⟨_,rfl,_,rfl,lf,_,rfl,.inl (SqL.of eA),rfl,V8 ys,_,rfl,Ju (λ_=>?_) (λhnz=>?_)⟩
  ·refine⟨_,rfl,λl2 hl2=>?_⟩
   have nfl:lf≠l2:=Ar eA hl2
   have hsl:(Txt.slice z (some 1) none).length<=7:=Qce (gY z) (by omega)
   have osl:=oz.slice (some 1) none
   refine Zm (λi σ HH=>∃(u:Option V) (ws:YF),σ=[u,some (.str z),some (.ref lf)]/\HH=upd HA l2 (.lst (ws.map V.str))/\ws.length<=i/\(∀y∈ws,((1<=y.length/\y.length<=8)/\okS y)/\y∉ys)/\((∃j c,j < i/\abc.cps[j]?=some c/\((⟨#[c]⟩ : Str)++Txt.slice z (some 1) none)∉ys)->ws≠[]))
    ⟨none,[],rfl,rfl,Qck _,(λy hy=>by cases hy),λ⟨j,c,hj,_⟩=>absurd hj (QbK _)⟩ (λj c σ HH hc h=>?_) (fun σ HH h=>?_)
   ·obtain⟨u,ws,rfl,rfl,l1,l2',l3⟩:=h
    have hj:j < 26:=by
     have:=(Qaf.mp hc).1
     rw[<-QaM] at this
     have e:=Rn
     unfold abc at e
     omega
    have oc:okS ⟨#[c]⟩:=λd hd=>by
     have:d=c:=by simpa using hd
     rw[this]
     exact j7 c (Array.mem_toList_iff.mpr (Array.mem_of_getElem? hc))
    have hlen:(⟨#[c]⟩ : Str).length+(Txt.slice z (some 1) none).length<=sizeLine:=by
     show 1+_<=sizeLine
     rw[Qco]
     omega
    have hzl:z.length<=sizeLine:=by rw[Qco];omega
    have eB:upd HA l2 (.lst (ws.map V.str)) lf=some (.lst (ys.map V.str)):=by rw[Al nfl];exact eA
    refine⟨_,rfl,_,rfl,_,rfl,_,rfl,hzl,_,_,rfl,rfl,hlen,_,rfl,lf,_,rfl,.inl (SqL.of eB),rfl,V8 ys,_,rfl,Ju (λt=>?_) (λt=>?_)⟩
    ·refine⟨_,rfl,_,rfl,_,rfl,_,rfl,hzl,_,_,rfl,rfl,hlen,_,Ab,Aq (by rw[Qbx];omega),_,ws++[(⟨#[c]⟩ : Str)++Txt.slice z (some 1) none],rfl,?_,?_,λy hy=>?_,λ_ e=>?_⟩
     ·rw[QV,Qby];rfl
     ·rw[QaP];show _+1<=_;omega
     ·rcases Qbz.mp hy with h | h
      ·exact l2' y h
      ·have e:y=(⟨#[c]⟩ : Str)++Txt.slice z (some 1) none:=by simpa using h
       rw[e]
       refine⟨⟨⟨by rw[Str.length_append];show 1<=1+_;omega,by rw[Str.length_append];show 1+_<=8;omega⟩,oc.append osl⟩,λhin=>?_⟩
       have t:(!inV (.str ((⟨#[c]⟩ : Str)++Txt.slice z (some 1) none)) (ys.map V.str))=true:=t
       rw[(OD _ ys).mpr hin] at t
       cases t
     ·have:=congrArg List.length e
      rw[QaP] at this
      simp at this
    ·refine⟨_,ws,rfl,rfl,by omega,l2',λ⟨j',c',hj',hc',hn'⟩=>?_⟩
     by_cases ej:j'=j
     ·subst ej
      have ec:c'=c:=by
       have e1:abc.cps[j']?=some c:=hc
       rw[hc'] at e1
       exact QbD e1
      subst ec
      exfalso
      apply t
      show (!inV (.str ((⟨#[c']⟩ : Str)++Txt.slice z (some 1) none)) (ys.map V.str))=true
      cases e:inV (.str ((⟨#[c']⟩ : Str)++Txt.slice z (some 1) none)) (ys.map V.str) with
      | false=>rfl
      | true=>exact absurd ((OD _ ys).mp e) hn'
     ·exact l3 ⟨j',c',by omega,hc',hn'⟩
   ·obtain⟨u,ws,rfl,rfl,l1,l2',l3⟩:=h
    obtain⟨j,c,hc,hnot⟩:=Z7 (Txt.slice z (some 1) none) (ys:=ys) (by omega)
    have hws:=l3 ⟨j,c,(Qaf.mp hc).1,hc,hnot⟩
    cases ws with
    | nil=>exact absurd rfl hws
    | cons w0 wr=>
     obtain⟨⟨y1,y2⟩,y3⟩:=l2' w0 (QaQ ..)
     have s2:=Af hl2 (.lst ((w0::wr).map V.str))
     have eB:=s2 _ _ eA
     refine⟨l2,_,_,_,rfl,rfl,SqL.of Ab,Ge (xs:=(w0::wr).map V.str) (j:=0) rfl,?_⟩
     refine⟨_,rfl,.inl ⟨rfl,_,SqL.of eB⟩,_,rfl,lf,_,_,rfl,rfl,eB,Aq (by rw[Qbx];omega),?_⟩
     exact fin w0 _ y1 y2 y3 eB (hbA.same s2) (s5.trans (Ah.of s2))
  ·refine⟨_,rfl,.inl ⟨rfl,_,SqL.of eA⟩,_,rfl,lf,_,_,rfl,rfl,eA,Aq (by rw[Qbx];omega),?_⟩
   exact fin z HA ⟨hz1,hz⟩ oz (λhin=>hnz ((OD _ ys).mpr hin)) eA hbA s5
 ·obtain⟨u3,u4,ys,rfl,e1,e2,e3,e4,e5,e6⟩:=h
  exact⟨_,rfl,q lf ys HH hlf e2 e3 e6 e1 e4 e5⟩
end
structure Dev where
 kind:Str
 addr:Int
structure Place where
 kind:Str
 addr:Int
 spur:List Dev
def JB (H:Hp) (v:V) (d:Dev):Prop:=∃t,v=.ref t/\H t=some (.tup [.str d.kind,.int d.addr])
def Dv (H:Hp) (v:V) (p:Place):Prop:=∃t u vs,v=.ref t/\H t=some (.tup [.str p.kind,.int p.addr,.ref u])/\H u=some (.tup vs)/\Paired (JB H) vs p.spur
def LoopAt (H:Hp) (v:V) (ps:List Place):Prop:=∃t vs,v=.ref t/\H t=some (.tup vs)/\Paired (Dv H) vs ps
theorem JB.tups {H H':Hp} (s:Ao H H') {v:V} {d:Dev} (h:JB H v d):JB H' v d:=by
 obtain⟨t,e,q⟩:=h
 exact⟨t,e,s _ _ q⟩
theorem Dv.tups {H H':Hp} (s:Ao H H') {v:V} {d:Place} (h:Dv H v d):Dv H' v d:=by
 obtain⟨t,u,vs,e,q1,q2,q3⟩:=h
 exact⟨t,u,vs,e,s _ _ q1,s _ _ q2,Paired.Az q3 λ_ _ z=>z.tups s⟩
theorem LoopAt.tups {H H':Hp} (s:Ao H H') {v:V} {d:List Place} (h:LoopAt H v d):LoopAt H' v d:=by
 obtain⟨t,vs,e,q1,q2⟩:=h
 exact⟨t,vs,e,s _ _ q1,Paired.Az q2 λ_ _ z=>z.tups s⟩
theorem Paired.Cq {α β : Type} {F:α->β->Prop}:∀{l₁ : List α} {l₂ : List β} {i:Nat} {x:α},Paired F l₁ l₂->l₁[i]?=some x->∃y,l₂[i]?=some y/\F x y
 | _,_,_,_,.nil,h=>by simp at h
 | _,_,0,_,.cons a _,h=>by simp at h;subst h;exact⟨_,rfl,a⟩
 | _,_,i+1,x,.cons _ t,h=>by
  obtain⟨y,h1,h2⟩:=Paired.Cq (i:=i) (x:=x) t (by simpa using h)
  exact⟨y,by simpa using h1,h2⟩
theorem Qcm {α β : Type} {F:α->β->Prop} {a:α} {b:β} (h:F a b):∀{l₁ : List α} {l₂ : List β},Paired F l₁ l₂->Paired F (l₁++[a]) (l₂++[b])
 | _,_,.nil=>.cons h .nil
 | _,_,.cons x t=>.cons x (Qcm h t)
def Gw (k:Str):Prop:=k="seeker"\/k="knob"\/k="bell"\/k="door"
structure OkP (p:Place):Prop where
 spur:p.spur.length<=3
 kinds:∀d∈p.spur,Gw d.kind
 form:(p.kind="opener"/\p.addr=0/\p.spur=[])\/Gw p.kind
structure Zone where
 name:Str
 adr:List Int
def Ig (H:Hp) (v:V) (z:Zone):Prop:=∃t u,v=.ref t/\H t=some (.tup [.str z.name,.ref u])/\H u=some (.tup (z.adr.map V.int))
theorem Ig.tups {H H':Hp} (s:Ao H H') {v:V} {z:Zone} (h:Ig H v z):Ig H' v z:=by
 obtain⟨t,u,e,q1,q2⟩:=h
 exact⟨t,u,e,s _ _ q1,s _ _ q2⟩
def Eh (k:Str):Bool:=inV (.str k) [.str "seeker",.str "knob"]
def Fg (p:Place):List Dev:=⟨p.kind,p.addr⟩::p.spur
def Hs (ds:List Dev):List Int:=(ds.filter λd=>Eh d.kind).map (·.addr)
def Io (ps:List Place):List Int:=ps.flatMap λp=>Hs (Fg p)
abbrev YU:=List (List Place)
def Eo (ls:YU):List Int:=ls.flatMap Io
theorem gD (ds:List Dev) (d:Dev):Hs (ds++[d])=Hs ds++(if Eh d.kind=true then [d.addr] else []):=by
 unfold Hs
 rw[Qbb,Qby]
 congr 1
 by_cases h:Eh d.kind=true
 ·rw[if_pos h];simp[List.filter,h]
 ·rw[if_neg h];simp[List.filter,h]
theorem gC (ps:List Place) (p:Place):Io (ps++[p])=Io ps++Hs (Fg p):=by unfold Io;rw[QaK];simp
theorem cP (ls:YU) (ps:List Place):Eo (ls++[ps])=Eo ls++Io ps:=by unfold Eo;rw[QaK];simp
def ptS (a:List Int×Int) (p:Place):List Int×Int:=if V.str p.kind=V.str "opener" then (a.1++[a.2],0) else (a.1,a.2+1+(p.spur.length:Int))
def pst (ps:List Place):List Int×Int:=ps.foldl ptS ([],0)
def GQ (ps:List Place):List Int:=(pst ps).1++[(pst ps).2]
theorem Yg (ps:List Place) (p:Place):pst (ps++[p])=ptS (pst ps) p:=by unfold pst;rw[List.foldl_append];rfl
abbrev RQ:Stmt:=top 51
abbrev Mq:YF:=["_law_bag_here","_law_numbers","_law_most_places"]
theorem Ja:Ay ["_law_bag_here","_law_numbers","_law_most_places","_law_places","_law_at","_law_many","_law_some","_law_way"] Mq (Ak RQ):=⟨rfl,rfl,rfl,by trivial,rfl,by trivial,by trivial⟩
abbrev P0:Stmt:=top 52
abbrev Kq:YF:=["_law_places"]
theorem Ji:Ay ["_law_places","_law_found","_law_kind","_law_address","_law_spur"] Kq (Ak P0):=⟨rfl,rfl,rfl,by trivial,rfl,by trivial,by trivial⟩
def Dd (a b:Addr) (H H':Hp):Prop:=∀c o,H c=some o->c≠a->c≠b->H' c=some o
theorem Dd.trans {a b:Addr} {H H1 H2:Hp} (x:Dd a b H H1) (y:Dd a b H1 H2):Dd a b H H2:=λc o e n m=>y _ _ (x _ _ e n m) n m
theorem Dd.l {a b:Addr} {H H1:Hp} (x:Ah a H H1):Dd a b H H1:=λc o e n _=>x _ _ e n
theorem Dd.r {a b:Addr} {H H1:Hp} (x:Ah b H H1):Dd a b H H1:=λc o e _ m=>x _ _ e m
theorem Dd.of {a b:Addr} {H H1:Hp} (x:Same H H1):Dd a b H H1:=λc o e _ _=>x _ _ e
theorem Dd.Om {a b p:Addr} {H HH H':Hp} (s:Dd a b H HH) (t:Ah p HH H') (f:H p=none):Dd a b H H':=λc o e n m=>t _ _ (s _ _ e n m) λz=>by rw[z,f] at e;cases e
def adP (p:Place):List Int:=if V.str p.kind=V.str "opener" then [] else p.addr::p.spur.map (·.addr)
def adL (ps:List Place):List Int:=ps.flatMap adP
theorem S8 (ps:List Place) (p:Place):adL (ps++[p])=adL ps++adP p:=by unfold adL;rw[QaK];simp
def opP:Place:=⟨"opener",0,[]⟩
theorem xY:OkP opP:=⟨by show 0<=3;decide,(λd hd=>by cases hd),.inl ⟨rfl,rfl,rfl⟩⟩
theorem wR:adP opP=[]:=if_pos rfl
theorem Uc {k:Str} (h:Gw k):¬V.str k=V.str "opener":=by
 rcases h with rfl | rfl | rfl | rfl <;> decide +kernel
theorem sO {i:Int} (h0:0<=i) (h4:i < 4):∃k,atI [V.str "seeker",.str "knob",.str "bell",.str "door"] i=some (.str k)/\Gw k:=by
 have:i=0\/i=1\/i=2\/i=3:=by omega
 rcases this with rfl | rfl | rfl | rfl
 ·exact⟨_,rfl,.inl rfl⟩
 ·exact⟨_,rfl,.inr (.inl rfl)⟩
 ·exact⟨_,rfl,.inr (.inr (.inl rfl))⟩
 ·exact⟨_,rfl,.inr (.inr (.inr rfl))⟩
theorem SX {xs:YG} {k:Nat} (h:k<=xs.length):IK xs (some (k:Int)) none=xs.drop k:=by
 unfold IK
 rw[HT.X5,HT.bH,Nat.min_eq_left h]
 exact List.take_of_length_le (by rw[Qbt];omega)
theorem iu {n:Nat} (h:0 < n):seqIndex? 0 n=some 0:=by
 unfold seqIndex?
 simp only[if_neg (show ¬(0:Int) < 0 by decide)]
 rw[if_pos (by simp;omega)]
 rfl
def gW:Sp:=λvs H Q _=>∃(b nb:Addr) (n mp:Nat) (ns:List Int),vs=[.ref b,.ref nb,.int mp]/\Bk H b n/\n<=5000/\b≠nb/\H nb=some (.lst (ns.map V.int))/\1<=mp/\mp<=12/\ns.length<=100 /\
 ∀t ps ns' H',LoopAt H' (.ref t) ps->(∀p∈ps,OkP p)->1<=ps.length->ps.length<=mp->ns=adL ps++ns'->H' nb=some (.lst (ns'.map V.int))->Bk H' b (n+100)->Dd b nb H H'->Q (.ref t) H'
def Xu:Sp:=λvs H Q _=>∃(t:Addr) (ps:List Place),vs=[.ref t]/\LoopAt H (.ref t) ps/\(∀p∈ps,OkP p)/\ps.length<=100/\∀l H',H' l=some (.lst ((GQ ps).map V.int))->Same H H'->Q (.ref l) H'
def qu (b nb lp:Addr) (mp:Int) (H:Hp) (n:Nat) (ns:List Int) (i:Nat) (σ : St) (HH:Hp):Prop:=
 ∃u4 u5 u6 u7 vs ps ns',σ=[some (.ref b),some (.ref nb),some (.int mp),some (.ref lp),u4,u5,u6,u7]/\HH lp=some (.lst vs)/\Paired (Dv HH) vs ps/\ps.length=i/\(∀p∈ps,OkP p)/\ns=adL ps++ns'/\HH nb=some (.lst (ns'.map V.int))/\Bk HH b (n+1+7*i)/\Dd b nb H HH
section
variable {P:Program} {w:World} {K:YD} {mg:YB} {base:Heap}
theorem rA (C:Code K mg "_law_loop" RQ Mq) (T:Nm mg) (Bm:Good P w K mg base "_law_take" 1 Fw Lz):Good P w K mg base "_law_loop" 2 Mq gW:=by
 refine C.good Ja (λvs H Q E h=>?_) (λf cdv A outer s H vs Q E hr h=>?_)
 ·obtain⟨b,nb,n,mp,ns,rfl,_⟩:=h
  rfl
 obtain⟨b,nb,n,mp,ns,rfl,hb,hn,nbn,hnb,Gr,hmp,hns,q⟩:=h
 refine⟨_,(Ag (Bb (i:=3) Ja.nd rfl (Or.inl rfl) (BW Ac))
 (Ag (Bv QbA rfl (Ca rfl T.range (Aa (Bc BX Ae (Aw Bm hr (Aa (pv 0) (Aa (pv 2) Ac)))) Ac)) (Aj (i:=4) Ja.nd rfl (Or.inl rfl))
 (Ag (Bb (i:=5) Ja.nd rfl (Or.inl rfl) (Bc BX Ae (Bq DP (@BW _ _ _ _ (@Aa _ _ _ _ _ (@Ae _ _ _ _) (@Aa _ _ _ _ _ (@Ae _ _ _ _) (@Aa _ _ _ _ _ (@Ae _ _ _ _) (@Aa _ _ _ _ _ (@Ae _ _ _ _) (@Aa _ _ _ _ _ (@Ae _ _ _ _) (@Aa _ _ _ _ _ (@Ae _ _ _ _) (@Ac _) Bu) Bu) Bu) Bu) Bu) Bu)) (Aw Bm hr (Aa (pv 0) (Aa Ae Ac))) (λ_ _=>rfl))))
 (Ai (Ck (PW.pt (MK (Bt Ho (Aw Bm hr (Aa (pv 0) (Aa Ae Ac))) Ae (BJ _)) (N7 (Bt TV (Ax Bd rfl T.len Cu (Aa (pv 1) Ac)) (pv 5) (BJ _))))) (Ai (Bf (Cm Qap Qal Qam Cd (pv 3) (Aa (Bh (Aa Bp (Aa Ae (Aa (Bh Ac) Ac)))) Ac)))) (Ag (Bb (i:=6) Ja.nd rfl (Or.inl rfl) (BW Ac))
 (Ag (Bv QbA rfl (Ca rfl T.range (Aa (pv 5) Ac)) (Aj (i:=7) Ja.nd rfl (Or.inl rfl))
 (Ai (Bf (Cm Qap Qal Qam Cd (pv 6) (Aa (Bh (Aa (Bq DP (BW (Aa Bp (Aa Bp (Aa Bp (Aa Bp Ac))))) (Aw Bm hr (Aa (pv 0) (Aa Ae Ac))) (λ_ _=>rfl)) (Aa (Cm Qap PySem.F.slot_list_pop PySem.F.type_list_pop Sh (pv 1) (Aa Ae Ac)) Ac))) Ac)))))
 (Ai (Bf (Cm Qap Qal Qam Cd (pv 3) (Aa (Bc Oz (Bq DP (pv 6) Ae (λ_ _=>rfl)) (Bh (Aa (G7 Gy rfl T.tuple JZ (Aa (JM qI (pv 6) (Lf Ae) Lg) Ac)) Ac))) Ac))))))))))
 (Ai (Ba (G7 Gy rfl T.tuple JZ (Aa (pv 3) Ac)))))),?_⟩
 refine⟨Av (by show 0<=1000;decide),λlp hlp=>?_⟩
 have s0:=Af hlp (.lst [])
 have nlb:b≠lp:=hb.nb hlp
 have nln:nb≠lp:=Ar hnb hlp
 refine⟨_,rfl,_,rfl,b,n,_,rfl,hb.same s0,by omega,by omega,by omega,λr H1 r0 r1 hb1 sb1=>⟨_,_,rfl,rfl,_,rfl,by omega,by omega,?_⟩⟩
 obtain⟨rn,hrn⟩ : ∃rn:Nat,r=rn:=⟨r.toNat,by omega⟩
 subst hrn
 rw[show ((1:Int)+(rn:Int)).toNat=rn+1 by omega]
 have F3:∀{H2 H3:Hp},H2 lp=some (.lst [])->True:=λ_=>True.intro
 refine Dk (qu b nb lp mp H n ns) ⟨_,_,_,_,[],[],ns,rfl,sb1 _ _ Ab nlb.symm,.nil,rfl,(λp hp=>by cases hp),rfl,sb1 _ _ (s0 _ _ hnb) nbn.symm,hb1,(Dd.of s0).trans (Dd.l sb1)⟩ (λi σ HH hi h=>?_) (fun σ HH h=>?_)
 ·obtain⟨u4,u5,u6,u7,vs,ps,ns',rfl,e1,e2,e3,e4,e5,e6,e7,e8⟩:=h
  have CD:i < 12:=by omega
  have hlv:=QbS e2
  refine⟨Av (by show 6<=1000;decide),λl6 hl6=>?_⟩
  have s6:=Af hl6 (.lst [.int 0,.int 0,.int 0,.int 1,.int 2,.int 3])
  refine⟨_,rfl,b,_,6,rfl,e7.same s6,by omega,by decide,by decide,λr2 HA r20 r21 hbA sA=>?_⟩
  obtain⟨m,em,m0,m3⟩:=EU r20 r21 (a:=0) (b:=0) (c:=0) (d:=1) (e:=2) (f:=3) (λp=>0<=p/\p<=3) (by decide) (by decide) (by decide) (by decide) (by decide) (by decide)
  obtain⟨mn,hmn⟩ : ∃mn:Nat,m=mn:=⟨m.toNat,by omega⟩
  subst hmn
  refine⟨l6,_,_,_,rfl,rfl,SqL.of (sA _ _ Ab (e7.nb hl6).symm),em,_,_,rfl,rfl,?_⟩
  refine⟨_,rfl,b,_,4,rfl,hbA,by omega,by decide,by decide,λr3 HB r30 r31 hbB sB=>⟨rfl,_,rfl,?_⟩⟩
  have sHB:Ah b HH HB:=((Ah.of s6).trans sA).trans sB
  have tHB:Ao HH HB:=sHB.tup e7.Gh
  have f1:=sHB _ _ e1 nlb.symm
  have f2:Paired (Dv HB) vs ps:=Paired.Az e2 λ_ _ z=>z.tups tHB
  have f6:=sHB _ _ e6 nbn.symm
  have f8:Dd b nb H HB:=e8.trans (Dd.l sHB)
  have opn:∀eo,HB eo=none->∀t,upd HB eo (.tup []) t=none->qu b nb lp mp H n ns (i+1) [some (.ref b),some (.ref nb),some (.int mp),some (.ref lp),some (.int (0+(i:Int))),some (.int (1+(mn:Int))),u6,u7] (upd (upd (upd HB eo (.tup [])) t (.tup [.str "opener",.int 0,.ref eo])) lp (.lst (vs++[.ref t]))):=λeo heo t ht=>by
   have t1:=Af heo (.tup [])
   have t2:=Af ht (.tup [.str "opener",.int 0,.ref eo])
   have f1':=t2 _ _ (t1 _ _ f1)
   have nt:∀zs,(upd (upd HB eo (.tup [])) t (.tup [.str "opener",.int 0,.ref eo])) lp≠some (.tup zs):=λzs z=>by rw[f1'] at z;cases z
   have tu:=Ao.upd (o:=.lst (vs++[.ref t])) nt
   refine⟨_,_,_,_,vs++[.ref t],ps++[opP],ns',rfl,Ab,?_,by rw[QaP,e3];rfl,λp hp=>?_,?_,?_,?_,?_⟩
   ·refine Qcm ⟨t,eo,[],rfl,tu _ _ Ab,tu _ _ (t2 _ _ Ab),.nil⟩ (Paired.Az f2 λ_ _ z=>(z.tups (Ao.of (t1.trans t2))).tups tu)
   ·rcases Qbz.mp hp with z | z
    ·exact e4 p z
    ·have:p=opP:=by simpa using z
     rw[this];exact xY
   ·rw[S8,wR,QbC];exact e5
   ·rw[Al nln];exact t2 _ _ (t1 _ _ f6)
   ·exact (((hbB.same t1).same t2).Ce Ah.upd nlb).mono (by omega)
   ·exact (f8.trans (Dd.of (t1.trans t2))).Om Ah.upd hlp
  refine Ju (λ_=>?_) (λ_=>?_)
  ·refine⟨_,rfl,.inl ⟨rfl,_,SqL.of f1⟩,Av (by show 0<=1000;decide),λeo heo=>⟨Av (by show 3<=1000;decide),λt ht=>⟨lp,_,_,rfl,rfl,Af ht _ _ _ (Af heo _ _ _ f1),Aq (by omega),opn eo heo t ht⟩⟩⟩
  ·refine⟨_,rfl,nb,_,rfl,.inl (SqL.of f6),_,rfl,_,_,rfl,rfl,_,rfl,Ju (λ_=>?_) (λcc=>?_)⟩
   ·refine⟨_,rfl,.inl ⟨rfl,_,SqL.of f1⟩,Av (by show 0<=1000;decide),λeo heo=>⟨Av (by show 3<=1000;decide),λt ht=>⟨lp,_,_,rfl,rfl,Af ht _ _ _ (Af heo _ _ _ f1),Aq (by omega),opn eo heo t ht⟩⟩⟩
   ·have cc:¬(((ns'.map V.int).length:Nat):Int) < 1+(mn:Int):=λz=>cc (QbN z)
    rw[Qbx] at cc
    refine⟨Av (by show 0<=1000;decide),λls hls=>?_⟩
    have sl:=Af hls (.lst [])
    have zT:lp≠ls:=Ar f1 hls
    have vf:nb≠ls:=Ar f6 hls
    have vg:b≠ls:=hbB.nb hls
    refine⟨_,rfl,_,rfl,by omega,by omega,?_⟩
    rw[show ((1:Int)+(mn:Int)).toNat=mn+1 by omega]
    have GB:H ls=none->True:=λ_=>True.intro
    refine Dk (λj σ HC=>∃u7 xs ds ns2,σ=[some (.ref b),some (.ref nb),some (.int mp),some (.ref lp),some (.int (0+(i:Int))),some (.int (1+(mn:Int))),some (.ref ls),u7]/\HC ls=some (.lst xs)/\Paired (JB HC) xs ds/\ds.length=j/\(∀d∈ds,Gw d.kind)/\ns'=ds.map (·.addr)++ns2/\HC nb=some (.lst (ns2.map V.int))/\Bk HC b (n+1+7*i+1+1+j)/\HC lp=some (.lst vs)/\Paired (Dv HC) vs ps/\(∀c o,HB c=some o->c≠b->c≠nb->HC c=some o))
     ⟨_,[],[],ns',rfl,Ab,.nil,rfl,(λd hd=>by cases hd),rfl,sl _ _ f6,hbB.same sl,sl _ _ f1,Paired.Az f2 λ_ _ z=>z.tups (Ao.of sl),λc o e _ _=>sl _ _ e⟩ (λj σ HC hj h=>?_) (fun σ HC h=>?_)
    ·obtain⟨u7,xs,ds,ns2,rfl,g1,g2,g3,g4,g5,g6,g7,g8,g9,g10⟩:=h
     refine⟨_,rfl,.inl ⟨rfl,_,SqL.of g1⟩,Av (by show 4<=1000;decide),λl4 hl4=>?_⟩
     have s4:=Af hl4 (.lst [.str "seeker",.str "knob",.str "bell",.str "door"])
     refine⟨_,rfl,b,_,4,rfl,g7.same s4,by omega,by decide,by decide,λr4 HD r40 r41 hbD sD=>?_⟩
     obtain⟨k,ek,hk⟩:=sO r40 r41
     have sCD:Ah b HC HD:=(Ah.of s4).trans sD
     have tCD:Ao HC HD:=sCD.tup g7.Gh
     have g6':=sCD _ _ g6 nbn.symm
     cases ns2 with
     | nil=>
      rw[QbC] at g5
      have:=congrArg List.length g5
      rw[Qbx,g3] at this
      omega
     | cons a0 ns3=>
      refine⟨l4,_,_,_,rfl,rfl,SqL.of (sD _ _ Ab (g7.nb hl4).symm),ek,_,rfl,.inl ⟨rfl,_,SqL.of g6'⟩,nb,_,0,0,.int a0,rfl,rfl,g6',by decide,by decide,iu (by rw[Qbx];show 0 < _+1;omega),rfl,Av (by show 2<=1000;decide),λt ht=>?_⟩
      have tn:Ao HD (upd HD nb (.lst (((a0::ns3).map V.int).eraseIdx 0))):=Ao.upd λzs z=>by rw[g6'] at z;cases z
      have tt:=Af ht (.tup [.str k,.int a0])
      have gls:upd HD nb (.lst (((a0::ns3).map V.int).eraseIdx 0)) ls=some (.lst xs):=by rw[Al vf.symm];exact sCD _ _ g1 vg.symm
      refine⟨ls,_,_,rfl,rfl,tt _ _ gls,Aq (by rw[QbS g2];omega),?_⟩
      have nt:∀zs,(upd (upd HD nb (.lst (((a0::ns3).map V.int).eraseIdx 0))) t (.tup [.str k,.int a0])) ls≠some (.tup zs):=λzs z=>by rw[tt _ _ gls] at z;cases z
      have tu:=Ao.upd (o:=.lst (xs++[.ref t])) nt
      have tX:Ao HC (upd (upd (upd HD nb (.lst (((a0::ns3).map V.int).eraseIdx 0))) t (.tup [.str k,.int a0])) ls (.lst (xs++[.ref t]))):=(tCD.trans tn).trans ((Ao.of tt).trans tu)
      refine⟨_,xs++[.ref t],ds++[⟨k,a0⟩],ns3,rfl,Ab,Qcm ⟨t,rfl,tu _ _ Ab⟩ (Paired.Az g2 λ_ _ z=>z.tups tX),by rw[QaP,g3];rfl,λd hd=>?_,?_,?_,?_,?_,Paired.Az g9 λ_ _ z=>z.tups tX,λc o e n1 n2=>?_⟩
      ·rcases Qbz.mp hd with z | z
       ·exact g4 d z
       ·have:d=⟨k,a0⟩:=by simpa using z
        rw[this];exact hk
      ·rw[g5,Qby,Qbf];rfl
      ·rw[Al vf,tt _ _ Ab];rfl
      ·exact ((hbD.Ce Ah.upd nbn).same tt).Ce Ah.upd vg
      ·rw[Al zT,tt _ _ (by rw[Al nln.symm];exact sCD _ _ g8 nlb.symm)]
      ·have e':=sCD _ _ (g10 _ _ e n1 n2) n1
       rw[Al (λz=>by rw[z,hls] at e;cases e),tt _ _ (by rw[Al n2];exact e')]
    ·obtain⟨u7,xs,ds,ns2,rfl,g1,g2,g3,g4,g5,g6,g7,g8,g9,g10⟩:=h
     cases ds with
     | nil=>cases g3
     | cons d0 dr=>
      cases g2 with
      | @cons x0 _ xr _ hd0 hdr=>
       obtain⟨t0,rfl,ht0⟩:=hd0
       have lxr:=QbS hdr
       have ldr:dr.length=mn:=by simpa using g3
       refine⟨_,rfl,.inl ⟨rfl,_,SqL.of g8⟩,_,rfl,ls,_,_,_,rfl,rfl,SqL.of g1,Ge (xs:=.ref t0::xr) (j:=0) rfl,_,rfl,_,rfl,ls,_,rfl,SqL.of g1,λp1 hp1=>?_⟩
       have ec:IK (.ref t0::xr) (some 1) none=xr:=SX (xs:=.ref t0::xr) (k:=1) (by simp)
       rw[ec] at *
       have sp1:=Af hp1 (.lst xr)
       refine⟨p1,_,rfl,.inl ⟨SqL.of Ab,λtu htu=>⟨Av (by show 1<=1000;decide),λt1 ht1=>?_⟩⟩⟩
       have sp2:=Af htu (.tup xr)
       have sp3:=Af ht1 (.tup [.ref tu])
       have sp:=(sp1.trans sp2).trans sp3
       refine⟨t0,t1,_,_,rfl,rfl,sp _ _ ht0,Ab,Av (by show 2+1<=1000;decide),λtp HE hE sE=>?_⟩
       have spE:=sp.trans sE
       have g8':=spE _ _ g8
       refine⟨lp,_,_,rfl,rfl,g8',Aq (by omega),?_⟩
       have nt:∀zs,HE lp≠some (.tup zs):=λzs z=>by rw[g8'] at z;cases z
       have tv:=Ao.upd (o:=.lst (vs++[.ref tp])) nt
       have okp:OkP ⟨d0.kind,d0.addr,dr⟩:=⟨by show dr.length<=3;omega,λd hd=>g4 d (QaF _ hd),.inr (g4 d0 (QaQ ..))⟩
       refine⟨_,_,_,_,vs++[.ref tp],ps++[⟨d0.kind,d0.addr,dr⟩],ns2,rfl,Ab,?_,by rw[QaP,e3];rfl,λp hp=>?_,?_,?_,?_,?_⟩
       ·refine Qcm ⟨tp,tu,xr,rfl,tv _ _ hE,tv _ _ (sE _ _ (sp3 _ _ Ab)),Paired.Az hdr λ_ _ z=>(z.tups (Ao.of spE)).tups tv⟩ (Paired.Az g9 λ_ _ z=>(z.tups (Ao.of spE)).tups tv)
       ·rcases Qbz.mp hp with z | z
        ·exact e4 p z
        ·have:p=⟨d0.kind,d0.addr,dr⟩:=by simpa using z
         rw[this];exact okp
       ·rw[S8,e5,g5,Qbf]
        congr 1
        have:adP ⟨d0.kind,d0.addr,dr⟩=d0.addr::dr.map (·.addr):=if_neg (Uc (g4 d0 (QaQ ..)))
        rw[this]
        rfl
       ·rw[Al nln];exact spE _ _ g6
       ·exact ((g7.same spE).Ce Ah.upd nlb).mono (by omega)
       ·refine Dd.Om (λc o e n1 n2=>spE _ _ (g10 _ _ (f8 _ _ e n1 n2) n1 n2)) Ah.upd hlp
 ·obtain⟨u4,u5,u6,u7,vs,ps,ns',rfl,e1,e2,e3,e4,e5,e6,e7,e8⟩:=h
  refine⟨_,rfl,lp,_,rfl,.inl ⟨SqL.of e1,λt ht=>?_⟩⟩
  have st:=Af ht (.tup vs)
  exact q t ps ns' _ ⟨t,vs,rfl,Ab,Paired.Az e2 λ_ _ z=>z.tups (Ao.of st)⟩ e4 (by omega) (by omega) e5 (st _ _ e6) ((e7.same st).mono (by omega)) (e8.trans (Dd.of st))
end
abbrev JH:Stmt:=top 53
abbrev Ml:YF:=["_law_bag_here","_law_most_loops","_law_most_places"]
theorem Bx:Ay ["_law_bag_here","_law_most_loops","_law_most_places","_law_start","_law_stride","_law_numbers","_law_own","_law_first","_law_at","_law_loops","_law_loop_here","_law_most","_law_told","_law_places","_law_kind","_law_address","_law_spur","_law_zones","_law_names_here","_law_name_here","_law_some"] Ml (Ak JH):=⟨rfl,rfl,rfl,by trivial,rfl,by trivial,by trivial⟩
theorem Zy (xs:YG) (y:V):atI (xs++[y]) (-1)=some y:=by
 unfold atI ixN
 rw[if_neg (by decide),QaP,QaB,if_pos (by omega),show (-1+((xs.length+1:Nat):Int)).toNat=xs.length by omega]
 show (xs++[y])[xs.length]?=some y
 rw[List.getElem?_append_right (Qck _),Nat.sub_self]
 rfl
theorem oA (xs:YG) (y:V):ixN (xs++[y]).length (-1)=some xs.length:=by
 unfold ixN
 rw[if_neg (by decide),QaP,QaB,if_pos (by omega),show (-1+((xs.length+1:Nat):Int)).toNat=xs.length by omega]
theorem lK (xs:YG) (y z:V):(xs++[y]).set xs.length z=xs++[z]:=by
 rw[List.set_append_right _ _ (Qck _),Nat.sub_self]
 rfl
theorem ET {i:Int} (h0:0<=i) (h9:i < 9) {a b c d e f g h k:Int} (P:Int->Prop) (ha:P a) (hb:P b) (hc:P c) (hd:P d) (he:P e) (hf:P f) (hg:P g) (hh:P h) (hk:P k):∃p,atI [V.int a,.int b,.int c,.int d,.int e,.int f,.int g,.int h,.int k] i=some (.int p)/\P p:=by
 have:i=0\/i=1\/i=2\/i=3\/i=4\/i=5\/i=6\/i=7\/i=8:=by omega
 rcases this with rfl | rfl | rfl | rfl | rfl | rfl | rfl | rfl | rfl
 ·exact⟨_,rfl,ha⟩
 ·exact⟨_,rfl,hb⟩
 ·exact⟨_,rfl,hc⟩
 ·exact⟨_,rfl,hd⟩
 ·exact⟨_,rfl,he⟩
 ·exact⟨_,rfl,hf⟩
 ·exact⟨_,rfl,hg⟩
 ·exact⟨_,rfl,hh⟩
 ·exact⟨_,rfl,hk⟩
theorem jL (ns:List Int):(ns.map V.int).all Kf=true:=by
 rw[List.all_map,List.all_eq_true]
 intro _ _
 rfl
theorem wK {xs:YG} {m:Nat} (h:m<=xs.length):IK xs none (some (m:Int))=xs.take m:=by
 unfold IK
 rw[HT.X5,HT.bH,Nat.min_eq_left h]
 rfl
theorem Paired.pG {α β : Type} {F:α->β->Prop}:∀{l:List α} {r:List β} (n:Nat),Paired F l r->Paired F (l.take n) (r.take n)
 | _,_,0,_=>.nil
 | _,_,_+1,.nil=>.nil
 | _,_,n+1,.cons h t=>.cons h (Paired.pG n t)
theorem Paired.qj {α β : Type} {F:α->β->Prop}:∀{l:List α} {r:List β} (n:Nat),Paired F l r->Paired F (l.drop n) (r.drop n)
 | _,_,0,h=>h
 | _,_,_+1,.nil=>.nil
 | _,_,n+1,.cons h t=>Paired.qj n t
theorem Paired.app {α β : Type} {F:α->β->Prop}:∀{a₁ b₁ : List α} {a₂ b₂ : List β},Paired F a₁ a₂->Paired F b₁ b₂->Paired F (a₁++b₁) (a₂++b₂)
 | _,_,_,_,.nil,t=>t
 | _,_,_,_,.cons r s,t=>.cons r (Paired.app s t)
theorem bK:∀(ps:List Place) (a:List Int×Int),(ps.foldl ptS a).1.sum+(ps.foldl ptS a).2=a.1.sum+a.2+((adL ps).length:Int)
 | [],a=>by show _=_+_+((0:Nat):Int);simp
 | p::r,a=>by
  rw[List.foldl_cons,bK r]
  have e:adL (p::r)=adP p++adL r:=by unfold adL;rw[Qbi]
  rw[e,QaP]
  unfold ptS adP
  by_cases h:V.str p.kind=V.str "opener"
  ·rw[if_pos h,if_pos h,List.sum_append]
   simp
  ·rw[if_neg h,if_neg h,Qbp,Qbx]
   simp only
   omega
theorem iG:∀(ps:List Place) (a:List Int×Int),(∀m∈a.1,0<=m)->0<=a.2->(∀m∈(ps.foldl ptS a).1,0<=m)/\0<=(ps.foldl ptS a).2
 | [],a,h1,h2=>⟨h1,h2⟩
 | p::r,a,h1,h2=>by
  rw[List.foldl_cons]
  refine iG r _ ?_ ?_
  ·unfold ptS
   split
   ·intro m hm
    rcases Qbz.mp hm with z | z
    ·exact h1 m z
    ·have:m=a.2:=by simpa using z
     rw[this];exact h2
   ·exact h1
  ·unfold ptS
   split
   ·exact Int.le_refl _
   ·show 0<=a.2+1+(p.spur.length:Int)
    omega
theorem gH:∀{l:List Int},(∀m∈l,0<=m)->0<=l.sum/\∀m∈l,m<=l.sum
 | [],_=>⟨Int.le_refl _,λm h=>by cases h⟩
 | x::r,h=>by
  obtain⟨h1,h2⟩:=gH (l:=r) λm hm=>h m (QaF _ hm)
  have h0:=h x (QaQ ..)
  rw[List.sum_cons]
  refine⟨by omega,λm hm=>?_⟩
  rcases QbT.mp hm with rfl | hm
  ·omega
  ·have:=h2 m hm
   omega
theorem mW (ps:List Place):∀m∈GQ ps,0<=m:=by
 have h:=iG ps ([],0) (λm hm=>by cases hm) (Int.le_refl _)
 intro m hm
 rcases Qbz.mp hm with z | z
 ·exact h.1 m z
 ·have:m=(pst ps).2:=by simpa using z
  rw[this];exact h.2
theorem V0 (ps:List Place):(GQ ps).sum=((adL ps).length:Int):=by
 have h:=bK ps ([],0)
 unfold GQ
 rw[List.sum_append]
 have:(pst ps).1.sum+(pst ps).2=((adL ps).length:Int):=by
  have e:(pst ps).1.sum+(pst ps).2=([]:List Int).sum+0+((adL ps).length:Int):=h
  rw[e];simp
 simp
 omega
theorem mX (ps:List Place):∀m∈GQ ps,m<=((adL ps).length:Int):=λm hm=>by
 have:=(gH (mW ps)).2 m hm
 rw[V0] at this
 exact this
theorem aM:∀{l:List Int},1<=l.sum->∃m∈l,1<=m
 | [],h=>by simp at h
 | x::r,h=>by
  rw[List.sum_cons] at h
  by_cases hx:1<=x
  ·exact⟨x,QaQ ..,hx⟩
  ·obtain⟨m,h1,h2⟩:=aM (l:=r) (by omega)
   exact⟨m,QaF _ h1,h2⟩
structure OkL (ps:List Place):Prop where
 lo:1<=ps.length
 hi:ps.length<=12
 ok:∀p∈ps,OkP p
def Cj (ls:YU):List Int:=ls.flatMap adL
structure ZD (most:Int) (loops:YU) (zones:List Zone):Prop where
 nd:(Cj loops).Nodup
 bd:∀x∈Cj loops,1<=x/\x<=99
 cnt:1<=(Cj loops).length/\(Cj loops).length<=30
 mo:1<=most/\most<=30
 few:∀ps∈loops,∀m∈GQ ps,m<=most
 zin:∀z∈zones,∀x∈z.adr,x∈Eo loops
 znd:(zones.flatMap (·.adr)).Nodup
 zup:∀z∈zones,z.adr.Pairwise (· < ·)/\1<=z.adr.length/\z.adr.length<=30
 tR:zones.length<=8
 znm:∀z∈zones,(1<=z.name.length/\z.name.length<=8)/\okS z.name
 zdi:(zones.map (·.name)).Nodup
def gR:Sp:=λvs H Q _=>∃(b:Addr) (n ml mp:Nat),vs=[.ref b,.int ml,.int mp]/\Bk H b n/\n<=1000/\1<=ml/\ml<=3/\2<=mp/\mp<=12 /\
 ∀t Ls zs vs zvs loops zones most H',H' t=some (.tup [.int most,.ref Ls,.ref zs])->H' Ls=some (.tup vs)->Paired (LoopAt H') vs loops->(∀ps∈loops,OkL ps)->1<=loops.length->loops.length<=3->H' zs=some (.tup zvs)->Paired (Ig H') zvs zones->ZD most loops zones->Bk H' b (n+3000)->Ah b H H'->Q (.ref t) H'
def um:TS:=λD σ H=>∃(b nb f0:Addr) (n mp:Nat) (ns:List Int),σ[0]?=some (some (.ref b))/\σ[5]?=some (some (.ref nb))/\σ[2]?=some (some (.int mp))/\σ[7]?=some (some (.ref f0))/\H f0=some (.tup [])/\Bk H b n/\n<=4000/\b≠nb/\H nb=some (.lst (ns.map V.int))/\2<=mp/\mp<=12/\ns.length<=100 /\
 ∀t vs ps ns' H',H' t=some (.tup vs)->Paired (Dv H') vs ps->(∀p∈ps,OkP p)->ps.length+1<=mp->ns=adL ps++ns'->H' nb=some (.lst (ns'.map V.int))->Bk H' b (n+101)->Dd b nb H H'->D.nx (σ.set 7 (some (.ref t))) H'
section
variable {P:Program} {w:World} {K:YD} {mg:YB} {base:Heap}
theorem iV (C:Code K mg "_law_parts" P0 Kq) (T:Nm mg):Good P w K mg base "_law_parts" 1 Kq Xu:=by
 refine C.good Ji (λvs H Q E h=>?_) (λf cdv A outer s H vs Q E hr h=>?_)
 ·obtain⟨t,ps,rfl,_⟩:=h
  rfl
 obtain⟨t,ps,rfl,⟨t',vs,et,ht,hps⟩,hok,h100,q⟩:=h
 cases et
 refine⟨_,(Ag (Bb (i:=1) Ji.nd rfl (Or.inl rfl) (BW (Aa Ae Ac)))
 (Ag (Bv QbA rfl (El (pv 0)) (Cw rfl (Am (Aj (i:=2) Ji.nd rfl (Or.inl rfl)) (Am (Aj (i:=3) Ji.nd rfl (Or.inl rfl)) (Am (Aj (i:=4) Ji.nd rfl (Or.inl rfl)) Bo))))
 (Ai (Ck (Bt Ho (pv 2) Bp (BJ _)) (Ai (Bf (Cm Qap Qal Qam Cd (pv 1) (Aa Ae Ac)))) (Ai (G5 (Bc BX (Bc BX (Bq DP (pv 1) (TF PJ Ae) (λ_ _=>rfl)) Ae) (Ax Bd rfl T.len Cu (Aa (pv 4) Ac))) (Yl (pv 1) (TF PJ Ae) set_list))))))
 (Ai (Ba (pv 1))))),?_⟩
 refine⟨Av (by show 1<=1000;decide),λlf hlf=>?_⟩
 have s1:=Af hlf (.lst [.int 0])
 have lvs:=QbS hps
 refine⟨_,rfl,t,rfl,⟨_,SqT.of (s1 _ _ ht)⟩,?_⟩
 refine Lj (xs:=vs) (λi σ HH=>∃(u2 u3 u4:Option V),σ=[some (.ref t),some (.ref lf),u2,u3,u4]/\HH lf=some (.lst ((pst (ps.take i)).1.map V.int++[.int (pst (ps.take i)).2]))/\(pst (ps.take i)).1.length<=i/\Same H HH) ⟨_,_,_,rfl,Ab,Qck _,s1⟩ (λi σ HH _ h=>?_) (λi x σ HH hx h=>?_) (fun σ HH h=>?_)
 ·obtain⟨u2,u3,u4,rfl,e1,e2,e3⟩:=h
  exact SqT.of (e3 _ _ ht)
 ·obtain⟨u2,u3,u4,rfl,e1,e2,e3⟩:=h
  obtain⟨p,hp,tp,up,ws,rfl,h1,h2,h3⟩:=Paired.Cq hps hx
  have hi:=(Qag.mp hx).1
  have et:pst (ps.take (i+1))=ptS (pst (ps.take i)) p:=by rw[Qcs hp,Yg]
  have lws:=QbS h3
  generalize pst (ps.take i)=a at *
  refine⟨tp,_,rfl,SqT.of (e3 _ _ h1),rfl,_,_,rfl,_,_,rfl,_,_,rfl,rfl,?_⟩
  refine⟨_,rfl,rfl,_,rfl,Ju (λhc=>?_) (λhc=>?_)⟩
  ·have hc:V.str p.kind=V.str "opener":=Qbl hc
   have et:pst (ps.take (i+1))=(a.1++[a.2],0):=by rw[et];exact if_pos hc
   refine⟨_,rfl,.inl ⟨rfl,_,SqL.of e1⟩,lf,_,_,rfl,rfl,e1,Aq (by rw[QaP,Qbx];show _+1<=_;omega),_,_,_,rfl,?_,?_,e3.Bj Ah.upd hlf⟩
   ·rw[Ab,et,Qby];rfl
   ·rw[et,QaP];show _+1<=_;omega
  ·have hc:¬V.str p.kind=V.str "opener":=λz=>hc (QbN z)
   have et:pst (ps.take (i+1))=(a.1,a.2+1+(p.spur.length:Int)):=by rw[et];exact if_neg hc
   refine⟨_,rfl,_,rfl,lf,_,_,_,rfl,rfl,SqL.of e1,Zy _ _,_,_,rfl,rfl,_,rfl,up,_,rfl,.inr (SqT.of (e3 _ _ h2)),_,_,rfl,rfl,_,rfl,_,rfl,lf,_,_,_,rfl,rfl,e1,oA _ _,_,_,_,rfl,?_,by rw[et];show a.1.length<=_;omega,e3.Bj Ah.upd hlf⟩
   rw[Ab,lK,et,<-lws]
 ·obtain⟨u2,u3,u4,rfl,e1,e2,e3⟩:=h
  rw[lvs,Qbo] at e1
  refine⟨_,rfl,q lf HH (by unfold GQ;rw[Qby];exact e1) e3⟩
end
theorem uI {α : Type} {l:List α} {i:Nat} {x:α} (h:l[i]?=some x):l.set i x=l:=by
 obtain⟨hi,e⟩:=Qag.mp h
 subst e
 exact List.set_getElem_self hi
theorem Ln.tups {H H':Hp} {vs:YG} {ls:YU} (s:Ao H H') (h:Paired (LoopAt H) vs ls):Paired (LoopAt H') vs ls:=Paired.Az h λ_ _ z=>z.tups s
theorem Pn.tups {H H':Hp} {vs:YG} {ls:List Place} (s:Ao H H') (h:Paired (Dv H) vs ls):Paired (Dv H') vs ls:=Paired.Az h λ_ _ z=>z.tups s
theorem Lp (a b:List Place):adL (a++b)=adL a++adL b:=by unfold adL;rw[QaK]
theorem Wm (ls:YU) (ps:List Place):Cj (ls++[ps])=Cj ls++adL ps:=by unfold Cj;rw[QaK];simp
def wr (ds:List Dev):Nat:=(ds.filter λd=>!decide (V.str d.kind=V.str "opener")).length
theorem Ss (w:Int):∀ws:List Int,inV (.int w) (ws.map V.int)=decide (w∈ws)
 | []=>rfl
 | x::r=>by
  have ih:=Ss w r
  unfold inV at ih ⊢
  rw[QbU,QbX,ih]
  have h2:eqV (.int x) (.int w)=decide (w=x):=by
   show (x == w)=decide (w=x)
   rw[QbH,beq_iff_eq,QaZ]
   exact⟨λh=>h.symm,λh=>h.symm⟩
  rw[h2,QbH,Bool.or_eq_true,QaZ,QaZ,QaZ,QbT]
def Ej (p:Int):Prop:=p=1\/p=2\/p=4\/p=5\/p=7\/p=8\/p=10\/p=13\/p=98
def Nx (r sd:Int) (n:Nat):List Int:=(List.range n).map λk:Nat=>(r+sd*(0+(k:Int))) % 99+1
theorem je (r sd:Int) (n:Nat):Nx r sd (n+1)=Nx r sd n++[(r+sd*(0+(n:Int))) % 99+1]:=by
 unfold Nx
 rw[List.range_succ,Qby]
 rfl
theorem rD (r sd:Int) (n:Nat):∀x∈Nx r sd n,1<=x/\x<=99:=λx hx=>by
 obtain⟨k,_,rfl⟩:=Qcc.mp hx
 have h1:=QbL (r+sd*(0+(k:Int))) (show (99:Int)≠0 by decide)
 have h2:=Qba (r+sd*(0+(k:Int))) (show (0:Int) < 99 by decide)
 omega
theorem rC {r sd:Int} (h:Ej sd):(Nx r sd 30).Nodup:=by
 unfold Nx
 refine List.pairwise_map.mpr ?_
 refine List.Pairwise.imp_of_mem (λ{i j} hi hj hlt=>?_) (List.pairwise_lt_range (n:=30))
 have hi:=QbR.mp hi
 have hj:=QbR.mp hj
 intro e
 unfold Ej at h
 rcases h with rfl | rfl | rfl | rfl | rfl | rfl | rfl | rfl | rfl <;> omega
theorem aK:∀{ds:List Dev},(Hs ds).Sublist (ds.map (·.addr))
 | ds=>by unfold Hs;exact List.Sublist.map _ (List.filter_sublist ..)
theorem Xd {p:Place} (h:OkP p):(Hs (Fg p)).Sublist (adP p):=by
 rcases h.form with⟨f1,f2,f3⟩| f1
 ·have e:adP p=[]:=if_pos (by rw[f1])
  have e2:Hs (Fg p)=[]:=by
   unfold Fg Hs
   rw[f3,f1]
   have:Eh "opener"=false:=by trivial
   rw[Qar (by rw[this];decide)]
   rfl
  rw[e,e2]
  exact .slnil
 ·have e:adP p=(Fg p).map (·.addr):=if_neg (Uc f1)
  rw[e]
  exact aK
theorem RM:∀{ps:List Place},(∀p∈ps,OkP p)->(Io ps).Sublist (adL ps)
 | [],_=>.slnil
 | p::r,h=>by
  have e1:Io (p::r)=Hs (Fg p)++Io r:=by unfold Io;rw[Qbi]
  have e2:adL (p::r)=adP p++adL r:=by unfold adL;rw[Qbi]
  rw[e1,e2]
  exact (Xd (h p (QaQ ..))).append (RM λq hq=>h q (QaF _ hq))
theorem Pz:∀{ls:YU},(∀ps∈ls,OkL ps)->(Eo ls).Sublist (Cj ls)
 | [],_=>.slnil
 | ps::r,h=>by
  have e1:Eo (ps::r)=Io ps++Eo r:=by unfold Eo;rw[Qbi]
  have e2:Cj (ps::r)=adL ps++Cj r:=by unfold Cj;rw[Qbi]
  rw[e1,e2]
  exact (RM (h ps (QaQ ..)).ok).append (Pz λq hq=>h q (QaF _ hq))
theorem cB {ps:List Place}:∀(loops:YU),ps∈loops->(adL ps).length<=(Cj loops).length
 | [],h=>by cases h
 | a::r,h=>by
  have e:Cj (a::r)=adL a++Cj r:=by unfold Cj;rw[Qbi]
  rw[e,QaP]
  rcases QbT.mp h with rfl | h
  ·omega
  ·have:=cB r h
   omega
structure Ph (ws:List Int) (ts:List Int) (zones:List Zone) (ys:YF):Prop where
 nd:(zones.flatMap (·.adr)++ts).Nodup
 sub:∀x∈zones.flatMap (·.adr)++ts,x∈ws
 up:∀z∈zones,z.adr.Pairwise (· < ·)/\1<=z.adr.length/\z.adr.length<=30
 nm:(zones.map (·.name)).Sublist ys
theorem Ph.next {ws ts ms ss:List Int} {zones:List Zone} {ys:YF} {y:Str} (h:Ph ws ts zones ys) (hp:ms.Perm ss) (hsub:ss.Sublist ts) (hr:ms.Pairwise (·<=·)) (h30:ms.length<=30) (y1:1<=ms.length):Ph ws (ts.filter λx=>!decide (x∈ms)) (zones++[⟨y,ms⟩]) (ys++[y]):=by
 obtain⟨n1,n2,n3⟩:=List.nodup_append.mp h.nd
 have nms:ms.Nodup:=hp.nodup_iff.mpr (hsub.nodup n2)
 have hin:∀x∈ms,x∈ts:=λx hx=>hsub.subset (hp.mem_iff.mp hx)
 have e:(zones++[(⟨y,ms⟩ : Zone)]).flatMap (·.adr)=zones.flatMap (·.adr)++ms:=by rw[QaK];simp
 refine⟨?_,λx hx=>?_,λz hz=>?_,?_⟩
 ·rw[e,List.nodup_append]
  refine⟨List.nodup_append.mpr ⟨n1,nms,λa ha b hb=>n3 a ha b (hin b hb)⟩,n2.filter _,λa ha b hb=>?_⟩
  obtain⟨hb1,hb2⟩:=QbF.mp hb
  rcases Qbz.mp ha with ha | ha
  ·exact n3 a ha b hb1
  ·rintro rfl
   rw[QbN ha] at hb2
   cases hb2
 ·rw[e] at hx
  rcases Qbz.mp hx with hx | hx
  ·rcases Qbz.mp hx with hx | hx
   ·exact h.sub x (QaG _ hx)
   ·exact h.sub x (QaA _ (hin x hx))
  ·exact h.sub x (QaA _ (QbF.mp hx).1)
 ·rcases Qbz.mp hz with hz | hz
  ·exact h.up z hz
  ·have:z=⟨y,ms⟩:=by simpa using hz
   rw[this]
   refine⟨?_,y1,h30⟩
   refine List.Pairwise.imp₂ (S:=λa b:Int=>a≠b) (λa b h1 h2=>by omega) hr nms
 ·rw[Qby]
  exact h.nm.append (List.Sublist.refl _)
theorem Ph.none {ws ts:List Int} {zones:List Zone} {ys:YF} {y:Str} {g:Int->Bool} (h:Ph ws ts zones ys):Ph ws (ts.filter g) zones (ys++[y]):=by
 obtain⟨n1,n2,n3⟩:=List.nodup_append.mp h.nd
 refine⟨List.nodup_append.mpr ⟨n1,n2.filter _,λa ha b hb=>n3 a ha b (QbF.mp hb).1⟩,λx hx=>?_,h.up,h.nm.trans (List.sublist_append_left ..)⟩
 rcases Qbz.mp hx with hx | hx
 ·exact h.sub x (QaG _ hx)
 ·exact h.sub x (QaA _ (QbF.mp hx).1)
section
variable {P:Program} {w:World} {K:YD} {mg:YB} {base:Heap}
theorem qY (C:Code K mg "_law_plan" JH Ml) (T:Nm mg) (Bm:Good P w K mg base "_law_take" 1 Fw Lz) (Ze:Good P w K mg base "_law_loop" 2 Mq gW) (jB:Good P w K mg base "_law_parts" 1 Kq Xu) (jD:Good P w K mg base "_law_names" 3 Ks bA) :
  Good P w K mg base "_law_plan" 4 Ml gR:=by
 refine C.good Bx (λvs H Q E h=>?_) (λf cdv A outer s H vs Q E hr h=>?_)
 ·obtain⟨b,n,ml,mp,rfl,_⟩:=h
  rfl
 obtain⟨b,n,ml,mp,rfl,hb,hn,GA,hml,CB,hmp,q⟩:=h
 refine⟨_,(Ag (Bb (i:=3) Bx.nd rfl (Or.inr rfl) (Aw Bm hr (Aa (pv 0) (Aa Ae Ac))))
 (Ag (Bb (i:=4) Bx.nd rfl (Or.inr rfl) (Bq DP (@BW _ _ _ _ (@Aa _ _ _ _ _ (@Ae _ _ _ _) (@Aa _ _ _ _ _ (@Ae _ _ _ _) (@Aa _ _ _ _ _ (@Ae _ _ _ _) (@Aa _ _ _ _ _ (@Ae _ _ _ _) (@Aa _ _ _ _ _ (@Ae _ _ _ _) (@Aa _ _ _ _ _ (@Ae _ _ _ _) (@Aa _ _ _ _ _ (@Ae _ _ _ _) (@Aa _ _ _ _ _ (@Ae _ _ _ _) (@Aa _ _ _ _ _ (@Ae _ _ _ _) (@Ac _) Bu) Bu) Bu) Bu) Bu) Bu) Bu) Bu) Bu)) (Aw Bm hr (Aa (pv 0) (Aa Ae Ac))) (λ_ _=>rfl)))
 (Ag (Vf (i:=5) Bx.nd rfl (Or.inl rfl) (N':=["_law_k","_law_start","_law_stride"]) rfl (Bg.of (src:=[none,some 3,some 4]) (Ak JH) ["_law_bag_here","_law_most_loops","_law_most_places","_law_start","_law_stride","_law_numbers","_law_own","_law_first","_law_at","_law_loops","_law_loop_here","_law_most","_law_told","_law_places","_law_kind","_law_address","_law_spur","_law_zones","_law_names_here","_law_name_here","_law_some"] rfl rfl rfl (by trivial) (by trivial) (by trivial) rfl (by trivial)) (Ca rfl T.range (Aa Ae Ac)) (λ_ _ _ _=>(Aj (i:=0) (show List.Nodup (["_law_k","_law_start","_law_stride"]:YF) by trivial) rfl (Or.inl rfl))) (λ_ _ _ _=>Cy) (λ_ _ _ _=>(Bc BX (Bc KC (Bc BX (pv 1) (Bc G8 (pv 2) (pv 0))) Ae) Ae)))
 (Ag (Bb (i:=6) Bx.nd rfl (Or.inl rfl) (Cm Qap PySem.F.slot_list_pop PySem.F.type_list_pop Sh (pv 5) (Aa Ae Ac)))
 (Ag (Bb (i:=7) Bx.nd rfl (Or.inl rfl) (Bh Ac))
 (Ag (PS.weak (t':=um) (Ck (Bt WY (Aw Bm hr (Aa (pv 0) (Aa Ae Ac))) Ae (BJ _)) (Ai (Bb (i:=7) Bx.nd rfl (Or.inl rfl) (Aw Ze hr (Aa (pv 0) (Aa (pv 5) (Aa (Bc uR (pv 2) Ae) Ac)))))) BL) (λD σ H h=>by
    obtain⟨b,nb,f0,n,mp,ns,e0,e5,e2,e7,hf0,hb,hn,nbn,hnb,hmp,F6,hns,q⟩:=h
    refine⟨_,e0,b,n,8,rfl,hb,by omega,by decide,by decide,λr H1 r0 r1 hb1 sb1=>⟨_,_,rfl,rfl,_,rfl,Ju (λ_=>?_) (λ_=>?_)⟩⟩
    ·refine⟨_,e0,_,e5,_,e2,_,_,rfl,rfl,b,nb,n+1,mp - 1,ns,?_,hb1,by omega,nbn,sb1 _ _ hnb nbn.symm,by omega,by omega,hns,λt ps ns' H2 ⟨t',vs,et,ht,hp⟩ hok h1 h2 hns' hnb' hb2 s2=>?_⟩
     ·show [V.ref b,.ref nb,.int ((mp:Int) - 1)]++[]=_
      rw[show ((mp:Int) - 1)=((mp - 1:Nat):Int) by omega]
      rfl
     ·cases et
      exact q t vs ps ns' H2 ht hp hok (by omega) hns' hnb' (hb2.mono (by omega)) ((Dd.l sb1).trans s2)
    ·have q:=q f0 [] [] ns H1 (sb1.tup hb.Gh _ _ hf0) .nil (λp hp=>by cases hp) (by show 0+1<=mp;omega) rfl (sb1 _ _ hnb nbn.symm) (hb1.mono (by omega)) (Dd.l sb1)
     rw[uI e7] at q
     exact q))
 (Ag (Bb (i:=8) Bx.nd rfl (Or.inl rfl) (Aw Bm hr (Aa (pv 0) (Aa (Bc BX (Ax Bd rfl T.len Cu (Aa (pv 7) Ac)) Ae) Ac))))
 (Ag (Bb (i:=9) Bx.nd rfl (Or.inl rfl) (BW (Aa (Bc Oz (Bc Oz (JM U5 (pv 7) Lg (Lf (pv 8))) (Bh (Aa (Bh (Aa Bp (Aa (pv 6) (Aa (Bh Ac) Ac)))) Ac))) (JM U5 (pv 7) (Lf (pv 8)) Lg)) Ac)))
 (Ag (Bv QbA rfl (Ca rfl T.range (Aa (Aw Bm hr (Aa (pv 0) (Aa (pv 1) Ac))) Ac)) (Aj (i:=10) Bx.nd rfl (Or.inl rfl))
 (Ai (Bf (Cm Qap Qal Qam Cd (pv 9) (Aa (Aw Ze hr (Aa (pv 0) (Aa (pv 5) (Aa (pv 2) Ac)))) Ac)))))
 (Ag (Bb (i:=11) Bx.nd rfl (Or.inl rfl) (Ax (Wd rfl) rfl T.max Zx (Aa (BP (N':=["_law_places"]) rfl (Bg.plain rfl (by trivial) (by trivial) (by trivial)) (DN (pv 9)) (λ_ _ _ _=>(Aj (i:=0) (show List.Nodup (["_law_places"]:YF) by trivial) rfl (Or.inl rfl))) (λ_ _ _ _=>Cy) (λ_ _ _ _=>(Ax (fO (K:=K) rfl rfl) rfl T.max Zx (Aa (Aw jB hr (Aa (pv 0) Ac)) Ac)))) Ac)))
 (Ag (Bb (i:=12) Bx.nd rfl (Or.inl rfl) (BW Ac))
 (Ag (Bv QbA rfl (DN (pv 9)) (Aj (i:=13) Bx.nd rfl (Or.inl rfl))
 (Ai (Bv QbA rfl (El (pv 13)) (Cw rfl (Am (Aj (i:=14) Bx.nd rfl (Or.inl rfl)) (Am (Aj (i:=15) Bx.nd rfl (Or.inl rfl)) (Am (Aj (i:=16) Bx.nd rfl (Or.inl rfl)) Bo))))
 (Ai (Bf (Cm Qap Qan Qao Ec (pv 12) (Aa (BP (N':=["_law_other","_law_number"]) rfl (Bg.plain rfl (by trivial) (by trivial) (by trivial)) (El (Bc Oz (Bh (Aa (Bh (Aa (pv 14) (Aa (pv 15) Ac))) Ac)) (pv 16))) (λ_ _ _ _=>(FT (K:=K) (n:=2) rfl rfl (Am (Aj (i:=0) (show List.Nodup (["_law_other","_law_number"]:YF) by trivial) rfl (Or.inl rfl)) (Am (Aj (i:=1) (show List.Nodup (["_law_other","_law_number"]:YF) by trivial) rfl (Or.inl rfl)) Bo)))) (λ_ _ _ _=>(G6 (Bt (T3 (K:=K) rfl) (pv 0) (Bh (Aa Bp (Aa Bp Ac))) (by with_unfolding_all rfl)))) (λ_ _ _ _=>(pv 1))) Ac)))))))
 (Ag (Bb (i:=17) Bx.nd rfl (Or.inl rfl) (BW Ac))
 (Ag (Bb (i:=18) Bx.nd rfl (Or.inl rfl) (Aw jD hr (Aa (pv 0) (Aa (Aw Bm hr (Aa (pv 0) (Aa Ae Ac))) Ac))))
 (Ag (Bv QbA rfl (DN (pv 18)) (Aj (i:=19) Bx.nd rfl (Or.inl rfl))
 (Ag (Bb (i:=20) Bx.nd rfl (Or.inr rfl) (Ax Zr rfl T.sorted Wf (Aa (BP (N':=["_law_number","_law_bag_here"]) rfl (Bg.of (src:=[none,some 0]) (Ak JH) ["_law_bag_here","_law_most_loops","_law_most_places","_law_start","_law_stride","_law_numbers","_law_own","_law_first","_law_at","_law_loops","_law_loop_here","_law_most","_law_told","_law_places","_law_kind","_law_address","_law_spur","_law_zones","_law_names_here","_law_name_here","_law_some"] rfl rfl rfl (by trivial) (by trivial) (by trivial) rfl (by trivial)) (DN (pv 12)) (λ_ _ _ _=>(Aj (i:=0) (show List.Nodup (["_law_number","_law_bag_here"]:YF) by trivial) rfl (Or.inl rfl))) (λ_ _ _ _=>(G6 (Bt Ho (Aw Bm hr (Aa (pv 1) (Aa Ae Ac))) Ae (BJ _)))) (λ_ _ _ _=>(pv 0))) Ac)))
 (Ag (Vf (i:=12) Bx.nd rfl (Or.inl rfl) (N':=["_law_number","_law_some"]) rfl (Bg.of (src:=[none,some 20]) (Ak JH) ["_law_bag_here","_law_most_loops","_law_most_places","_law_start","_law_stride","_law_numbers","_law_own","_law_first","_law_at","_law_loops","_law_loop_here","_law_most","_law_told","_law_places","_law_kind","_law_address","_law_spur","_law_zones","_law_names_here","_law_name_here","_law_some"] rfl rfl rfl (by trivial) (by trivial) (by trivial) rfl (by trivial)) (DN (pv 12)) (λ_ _ _ _=>(Aj (i:=0) (show List.Nodup (["_law_number","_law_some"]:YF) by trivial) rfl (Or.inl rfl))) (λ_ _ _ _=>(G6 (Bt (Pk (K:=K) rfl) (pv 0) (pv 1) (by with_unfolding_all rfl)))) (λ_ _ _ _=>(pv 0)))
 (Ai (Ck (Bt WY (Ax Bd rfl T.len Cu (Aa (pv 20) Ac)) Ae (BJ _)) (Ai (Bf (Cm Qap Qal Qam Cd (pv 17) (Aa (Bh (Aa (pv 19) (Aa (G7 Gy rfl T.tuple JZ (Aa (pv 20) Ac)) Ac))) Ac)))) BL)))))
 (Ai (Ba (Bh (Aa (Ax (Nf rfl) rfl T.min Uu (Aa Ae (Aa (Bc BX (pv 11) (Aw Bm hr (Aa (pv 0) (Aa Ae Ac)))) Ac))) (Aa (G7 Gy rfl T.tuple JZ (Aa (pv 9) Ac)) (Aa (G7 Gy rfl T.tuple JZ (Aa (pv 17) Ac)) Ac))))))))))))))))))))),?_⟩
 generalize hst:L2.start _ _=σ0
 have e0:σ0=[some (.ref b),some (.int ml),some (.int mp),none,none,none,none,none,none,none,none,none,none,none,none,none,none,none,none,none,none]:=hst.symm
 clear hst
 subst e0
 refine⟨_,rfl,b,n,99,rfl,hb,by omega,by decide,by decide,λr1 H1 r10 r11 hb1 sb1=>?_⟩
 simp only[QaS,QaR]
 refine⟨Av (by show 9<=1000;decide),λl9 hl9=>?_⟩
 have s9:=Af hl9 (.lst [.int 1,.int 2,.int 4,.int 5,.int 7,.int 8,.int 10,.int 13,.int 98])
 refine⟨_,rfl,b,_,9,rfl,hb1.same s9,by omega,by decide,by decide,λr2 H2 r20 r21 hb2 sb2=>?_⟩
 obtain⟨sd,esd,⟨sd0,sd1⟩,sdk⟩:=ET r20 r21 (a:=1) (b:=2) (c:=4) (d:=5) (e:=7) (f:=8) (g:=10) (h:=13) (k:=98) (λp=>(0<=p/\p<=98)/\Ej p) (by unfold Ej;decide) (by unfold Ej;decide) (by unfold Ej;decide) (by unfold Ej;decide) (by unfold Ej;decide) (by unfold Ej;decide) (by unfold Ej;decide) (by unfold Ej;decide) (by unfold Ej;decide)
 refine⟨l9,_,_,_,rfl,rfl,SqL.of (sb2 _ _ Ab (hb1.nb hl9).symm),esd,?_⟩
 simp only[QaS,QaR]
 have sB2:Ah b H H2:=(sb1.trans (Ah.of s9)).trans sb2
 refine⟨_,rfl,by decide,by decide,λnb oH=>?_⟩
 have nbn:b≠nb:=hb2.nb oH
 have fnb:H nb=none:=sB2.free hb2.ex oH
 refine Jx (λi σ HH=>∃(u:Option V) (ns:List Int),σ=[u,some (.int r1),some (.int sd)]/\HH=upd H2 nb (.lst (ns.map V.int))/\ns=Nx r1 sd i) ⟨none,[],rfl,rfl,rfl⟩ (λi σ HH hi h=>?_) (fun σ HH h=>?_)
 ·obtain⟨u,ns,rfl,rfl,e1⟩:=h
  have hi:i < 30:=hi
  have e1l:ns.length=i:=by rw[e1];unfold Nx;rw[Qbx,Qbm]
  refine⟨_,rfl,_,rfl,_,rfl,_,_,rfl,rfl,.inl ⟨by omega,by omega⟩,_,_,rfl,rfl,_,_,rfl,rfl,(by show (0:Int) < 99;decide),_,_,rfl,rfl,_,Ab,Aq (by rw[Qbx];omega),_,ns++[(r1+sd*(0+(i:Int))) % 99+1],rfl,?_,by rw[je,e1]⟩
  rw[QV,Qby]
  rfl
 obtain⟨u,nO,rfl,rfl,e30⟩:=h
 have oW:nO=Nx r1 sd 30:=e30
 have e30:nO.length=30:=by rw[oW];unfold Nx;rw[Qbx,Qbm]
 simp only[QaS,QaR]
 cases nO with
 | nil=>cases e30
 | cons own Ht=>
 have e29:Ht.length=29:=by simpa using e30
 have xW:(own::Ht).Nodup:=by rw[oW];exact rC sdk
 have xX:∀x∈own::Ht,1<=x/\x<=99:=by rw[oW];exact rD r1 sd 30
 have sN:=Af oH (.lst ((own::Ht).map V.int))
 refine⟨_,rfl,.inl ⟨rfl,_,SqL.of Ab⟩,nb,_,0,0,.int own,rfl,rfl,Ab,by decide,by decide,iu (by rw[Qbx];show 0 < _+1;omega),rfl,?_⟩
 simp only[QaS,QaR]
 have vV:upd (upd H2 nb (.lst ((own::Ht).map V.int))) nb (.lst (((own::Ht).map V.int).eraseIdx 0)) nb=some (.lst (Ht.map V.int)):=by rw[Ab];rfl
 have hb4:Bk (upd (upd H2 nb (.lst ((own::Ht).map V.int))) nb (.lst (((own::Ht).map V.int).eraseIdx 0))) b (n+1+1):=(hb2.same sN).Ce Ah.upd nbn
 have sB4:Ah b H (upd (upd H2 nb (.lst ((own::Ht).map V.int))) nb (.lst (((own::Ht).map V.int).eraseIdx 0))):=Ah.Om (sB2.trans (Ah.of sN)) Ah.upd fnb
 generalize upd (upd H2 nb (.lst ((own::Ht).map V.int))) nb (.lst (((own::Ht).map V.int).eraseIdx 0))=H4 at vV hb4 sB4
 refine⟨Av (by show 0<=1000;decide),λf0 hf0=>?_⟩
 simp only[QaS,QaR]
 have s5:=Af hf0 (.tup [])
 refine⟨b,nb,f0,_,mp,Ht,rfl,rfl,rfl,rfl,Ab,hb4.same s5,by omega,nbn,s5 _ _ vV,CB,hmp,by omega,λft fv fp ns1 H5 hft hfp vZ hfl Cs Ct hb5 s45=>?_⟩
 simp only[QaS,QaR]
 have sB5:Ah b H H5:=λc o e nc=>s45 _ _ (s5 _ _ (sB4 _ _ e nc)) nc (λz=>by rw[z,fnb] at e;cases e)
 have lfv:=QbS hfp
 refine⟨_,rfl,_,rfl,ft,_,rfl,.inr (SqT.of hft),_,_,rfl,rfl,b,_,_,rfl,hb5,by omega,by omega,by omega,λr4 H6 r40 r41 hb6 sb6=>?_⟩
 simp only[QaS,QaR]
 obtain⟨an,han⟩ : ∃an:Nat,r4=an:=⟨r4.toNat,by omega⟩
 subst han
 have vX:=(sb6.tup hb5.Gh) _ _ hft
 have vY:=Pn.tups (sb6.tup hb5.Gh) hfp
 have vU:=sb6 _ _ Ct nbn.symm
 have sB6:=sB5.trans sb6
 refine⟨_,rfl,_,rfl,_,rfl,ft,fv,rfl,vX,λp1 H7 hp1 s7=>?_⟩
 rw[wK (by omega)] at hp1
 refine⟨_,rfl,Av (by show 0<=1000;decide),λe0 he0=>⟨Av (by show 3<=1000;decide),λt3 ht3=>⟨Av (by show 1<=1000;decide),λt1 ht1=>?_⟩⟩⟩
 have q1:=Af he0 (.tup [])
 have q2:=Af ht3 (.tup [.str "seeker",.int own,.ref e0])
 have q3:=Af ht1 (.tup [.ref t3])
 have q13:=(q1.trans q2).trans q3
 have hown:Dv (upd (upd (upd H7 e0 (.tup [])) t3 (.tup [.str "seeker",.int own,.ref e0])) t1 (.tup [.ref t3])) (.ref t3) ⟨"seeker",own,[]⟩:=⟨t3,e0,[],rfl,q3 _ _ Ab,q3 _ _ (q2 _ _ Ab),.nil⟩
 refine⟨p1,t1,_,_,rfl,rfl,q13 _ _ hp1,Ab,Av (by rw[Qbq];show _+1<=1000;omega),λp2 H8 hp2 s8=>?_⟩
 have s68:=(s7.trans q13).trans s8
 refine⟨_,rfl,_,rfl,_,rfl,ft,fv,rfl,s68 _ _ vX,λp3 H9 hp3 s9'=>?_⟩
 rw[SX (by omega)] at hp3
 refine⟨p2,p3,_,_,rfl,rfl,s9' _ _ hp2,hp3,Av (by rw[QaP,Qbq,Qbt];show _+1+_<=1000;omega),λp4 H10 hp4 s10=>⟨Av (by show 1<=1000;decide),λll hll=>?_⟩⟩
 simp only[QaS,QaR]
 have X7:=(s68.trans s9').trans s10
 have s11:=Af hll (.lst [.ref p4])
 have X6:=X7.trans s11
 have hL0:LoopAt (upd H10 ll (.lst [.ref p4])) (.ref p4) ((fp.take an++[⟨"seeker",own,[]⟩])++fp.drop an):=by
  refine⟨p4,_,rfl,s11 _ _ hp4,Paired.app (Paired.app (Pn.tups (Ao.of X6) (Paired.pG an vY)) (.cons ?_ .nil)) (Pn.tups (Ao.of X6) (Paired.qj an vY))⟩
  exact hown.tups (Ao.of (((s8.trans s9').trans s10).trans s11))
 have u0:OkL ((fp.take an++[⟨"seeker",own,[]⟩])++fp.drop an):=by
  refine⟨?_,?_,λp hp=>?_⟩
  ·rw[QaP,QaP];show 1<=_+1+_;omega
  ·rw[QaP,QaP,Qbq,Qbt];show _+1+_<=12;omega
  ·rcases Qbz.mp hp with z | z
   ·rcases Qbz.mp z with z | z
    ·exact vZ p (List.mem_of_mem_take z)
    ·have:p=⟨"seeker",own,[]⟩:=by simpa using z
     rw[this]
     exact⟨by show 0<=3;decide,(λd hd=>by cases hd),.inr (.inl rfl)⟩
   ·exact vZ p (List.mem_of_mem_drop z)
 have pm0:(adL ((fp.take an++[⟨"seeker",own,[]⟩])++fp.drop an)++ns1).Perm (own::Ht):=by
  have h2:adL fp=adL (fp.take an)++adL (fp.drop an):=by rw[<-Lp,List.take_append_drop]
  have h3:adL [(⟨"seeker",own,[]⟩ : Place)]=[own]:=by
   have:adP ⟨"seeker",own,[]⟩=[own]:=if_neg (Uc (.inl rfl))
   show [(⟨"seeker",own,[]⟩ : Place)].flatMap adP=[own]
   simp[this]
  rw[Lp,Lp,h3,Cs,h2,Qbf,Qbf,Qbf]
  exact (List.perm_middle (l₁:=adL (fp.take an)) (a:=own) (l₂:=adL (fp.drop an)++ns1))
 have yM:1<=(adL ((fp.take an++[⟨"seeker",own,[]⟩])++fp.drop an)).length:=by
  have h3:adL [(⟨"seeker",own,[]⟩ : Place)]=[own]:=by
   have:adP ⟨"seeker",own,[]⟩=[own]:=if_neg (Uc (.inl rfl))
   show [(⟨"seeker",own,[]⟩ : Place)].flatMap adP=[own]
   simp[this]
  rw[Lp,Lp,h3,QaP,QaP]
  show 1<=_+1+_
  omega
 generalize GG:(fp.take an++[⟨"seeker",own,[]⟩])++fp.drop an=L0 at hL0 u0 pm0 yM
 have hbL:Bk (upd H10 ll (.lst [.ref p4])) b (n+1+1+101+1):=hb6.same X6
 have vR:=X6 _ _ vU
 have sBL:Ah b H (upd H10 ll (.lst [.ref p4])):=sB6.trans (Ah.of X6)
 have vW:upd H10 ll (.lst [.ref p4]) ll=some (.lst [.ref p4]):=Ab
 have fll:H ll=none:=(sB6.trans (Ah.of X7)).free (hb6.same X7).ex hll
 have nbl:b≠ll:=(hb6.same X7).nb hll
 have nnl:nb≠ll:=Ar (X7 _ _ vU) hll
 generalize upd H10 ll (.lst [.ref p4])=HL at hL0 hbL vR sBL vW
 refine⟨_,rfl,_,rfl,b,_,_,rfl,hbL,by omega,by omega,by omega,λr5 HM r50 r51 hbM sbM=>⟨_,rfl,by omega,by omega,?_⟩⟩
 obtain⟨lnn,CC⟩ : ∃lnn:Nat,r5=lnn:=⟨r5.toNat,by omega⟩
 subst CC
 rw[Qbh]
 have tM:=sbM.tup hbL.Gh
 have zN:∀ps∈[L0],OkL ps:=λps hps=>by
  have:ps=L0:=by simpa using hps
  rw[this];exact u0
 refine Dk (λi σ HH=>∃(u10:Option V) (vs:YG) (loops:YU) (ns':List Int),σ=[some (.ref b),some (.int ml),some (.int mp),some (.int r1),some (.int sd),some (.ref nb),some (.int own),some (.ref ft),some (.int (an:Int)),some (.ref ll),u10,none,none,none,none,none,none,none,none,none,none] /\
   HH ll=some (.lst vs)/\Paired (LoopAt HH) vs loops/\loops.length=1+i/\(∀ps∈loops,OkL ps)/\((Cj loops++ns').Perm (own::Ht)/\∃L,loops=L0::L)/\HH nb=some (.lst (ns'.map V.int))/\Bk HH b (n+105+101*i)/\Ah b H HH)
  ⟨_,[.ref p4],[L0],ns1,rfl,sbM _ _ vW nbl.symm,.cons (hL0.tups tM) .nil,rfl,zN,⟨(by show ([L0].flatMap adL++_).Perm _;simpa using pm0),[],rfl⟩,sbM _ _ vR nbn.symm,hbM.mono (by omega),sBL.trans sbM⟩ (λi σ HH hi h=>?_) (fun σ HH h=>?_)
 ·obtain⟨u10,vs,loops,ns',rfl,e1,e2,e3,e4,⟨e5p,Lr,hLr⟩,e6,e7,e8⟩:=h
  have e5:(Cj loops).length+ns'.length=30:=by
   have:=e5p.length_eq
   rw[QaP,Qbp,e29] at this
   exact this
  simp only[QaS,QaR]
  refine⟨_,rfl,.inl ⟨rfl,_,SqL.of e1⟩,_,rfl,_,rfl,_,rfl,b,nb,_,mp,ns',rfl,e7,by omega,nbn,e6,by omega,by omega,by omega,λt ps zQ H' hL hok h1 h2 hns hnb' hb' s2=>?_⟩
  have e1':=s2 _ _ e1 nbl.symm nnl.symm
  have t2:Ao HH H':=λc xs e=>s2 _ _ e (λz=>e7.Gh _ (z ▸ e)) (λz=>by rw[z,e6] at e;cases e)
  refine⟨ll,_,_,rfl,rfl,e1',Aq (by rw[QbS e2];omega),?_⟩
  have tv0:∀zs,H' ll≠some (.tup zs):=λzs z=>by rw[e1'] at z;cases z
  have tv:=Ao.upd (o:=.lst (vs++[.ref t])) tv0
  refine⟨_,vs++[.ref t],loops++[ps],zQ,rfl,Ab,Qcm (hL.tups tv) (Ln.tups tv (Ln.tups t2 e2)),by rw[QaP,e3];show _+1=_;omega,λp hp=>?_,?_,by rw[Al nnl];exact hnb',(hb'.Ce Ah.upd nbl).mono (by omega),λc o e nc=>?_⟩
  ·rcases Qbz.mp hp with z | z
   ·exact e4 p z
   ·have:p=ps:=by simpa using z
    rw[this];exact⟨h1,by omega,hok⟩
  ·refine⟨?_,Lr++[ps],by rw[hLr];rfl⟩
   rw[Wm,Qbf,<-hns]
   exact e5p
  ·rw[Al (λz=>by rw[z,fll] at e;cases e)]
   exact s2 _ _ (e8 _ _ e nc) nc (λz=>by rw[z,fnb] at e;cases e)
 obtain⟨u10,vs,loops,ns',rfl,e1,e2,e3,e4,⟨e5p,ju⟩,e6,e7,e8⟩:=h
 have e5:(Cj loops).length+ns'.length=30:=by
  have:=e5p.length_eq
  rw[QaP,Qbp,e29] at this
  exact this
 have lvs:=QbS e2
 have ndA:(Cj loops).Nodup:=(List.nodup_append.mp (e5p.nodup_iff.mpr xW)).1
 have bdA:∀x∈Cj loops,1<=x/\x<=99:=λx hx=>xX x (e5p.mem_iff.mp (QaG _ hx))
 have tU:=Pz e4
 refine⟨_,rfl,ll,rfl,⟨_,SqL.of e1⟩,λlm hlm=>?_⟩
 have nlm:ll≠lm:=Ar e1 hlm
 refine Jf (xs:=vs) (λi σ H'=>∃(u:Option V) (ms:List Int),σ=[u]/\H' lm=some (.lst (ms.map V.int))/\ms.length=i/\Same HH H'/\∀ps∈loops.take i,∀m∈GQ ps,∃M∈ms,m<=M) ⟨none,[],rfl,Ab,rfl,Af hlm _,(λps hps=>by cases hps)⟩ (λi σ H' _ h=>?_) (λi x σ H' hx h=>?_) (fun σ H' h=>?_)
 ·obtain⟨u,ms,rfl,m1,m2,m3,m4⟩:=h
  exact SqL.of (m3 _ _ e1)
 ·obtain⟨u,ms,rfl,m1,m2,m3,m4⟩:=h
  obtain⟨ps,hps,hL⟩:=Paired.Cq e2 hx
  obtain⟨tx,wx,rfl,hx1,hx2⟩:=id hL
  have okl:=e4 ps (QaE hps)
  refine⟨_,rfl,tx,ps,rfl,hL.tups (Ao.of m3),okl.ok,by have:=okl.hi;omega,λlq H'' hq s'=>⟨lq,GQ ps,rfl,SqL.of hq,(by unfold GQ;rw[QaP];show 0 < _+1;omega),λM hMi hMm=>?_⟩⟩
  have hi:=(Qag.mp hx).1
  refine⟨_,s' _ _ m1,Aq (by rw[Qbx];omega),_,ms++[M],rfl,by rw[Ab,Qby];rfl,by rw[QaP,m2];rfl,(m3.trans s').Bj Ah.upd hlm,λqs hqs m hm=>?_⟩
  rw[Qcs hps] at hqs
  rcases Qbz.mp hqs with hqs | hqs
  ·obtain⟨M',h1,h2⟩:=m4 qs hqs m hm
   exact⟨M',QaG _ h1,h2⟩
  ·have:qs=ps:=by simpa using hqs
   rw[this] at hm
   exact⟨M,QaA _ (QaQ ..),hMm m hm⟩
 obtain⟨u,ms,rfl,m1,m2,m3,m4⟩:=h
 refine⟨lm,ms,rfl,SqL.of m1,by omega,λM hMi hMm=>?_⟩
 have vo:∀ps∈loops,∀m∈GQ ps,m<=M:=λps hps m hm=>by
  obtain⟨M',h1,h2⟩:=m4 ps (by rw[lvs,Qbo];exact hps) m hm
  have:=hMm M' h1
  omega
 simp only[QaS,QaR]
 have e1:=m3 _ _ e1
 have e2:=Ln.tups (Ao.of m3) e2
 have e7:=e7.same m3
 have e8:=e8.trans (Ah.of m3)
 clear m1 m2
 refine⟨Av (by show 0<=1000;decide),λlt hlt=>?_⟩
 simp only[QaS,QaR]
 have sT:=Af hlt (.lst [])
 have nbt:b≠lt:=e7.nb hlt
 refine⟨_,rfl,ll,rfl,⟨_,SqL.of (sT _ _ e1)⟩,?_⟩
 refine Mu (xs:=vs) (λi σ HT=>∃(u13 u14 u15 u16:Option V) (ts:List Int),σ=[some (.ref b),some (.int ml),some (.int mp),some (.int r1),some (.int sd),some (.ref nb),some (.int own),some (.ref ft),some (.int (an:Int)),some (.ref ll),u10,some (.int M),some (.ref lt),u13,u14,u15,u16,none,none,none,none] /\
   HT lt=some (.lst (ts.map V.int))/\ts=Eo (loops.take i)/\Same H' HT) ⟨_,_,_,_,[],rfl,Ab,rfl,sT⟩ (λi σ HT _ h=>?_) (λi x σ HT hx h=>?_) (fun σ HT h=>?_)
 ·obtain⟨u13,u14,u15,u16,ts,rfl,t1,t2,t3⟩:=h
  exact SqL.of (t3 _ _ e1)
 ·obtain⟨u13,u14,u15,u16,ts,rfl,t1,t2,t3⟩:=h
  simp only[QaS,QaR]
  obtain⟨ps,hps,hL⟩:=Paired.Cq e2 hx
  obtain⟨tx,wx,rfl,hx1,hx2⟩:=id hL
  have okl:=e4 ps (QaE hps)
  have lwx:=QbS hx2
  have etk:Cj (loops.take (i+1))=Cj (loops.take i)++adL ps:=by rw[Qcs hps,Wm]
  have tot:(Cj (loops.take (i+1))).length<=30:=by
   have:Cj loops=Cj (loops.take (i+1))++Cj (loops.drop (i+1)):=by unfold Cj;rw[<-QaK,List.take_append_drop]
   have h2:=congrArg List.length this
   rw[QaP] at h2
   omega
  rw[etk,QaP] at tot
  have wle:(Eo (loops.take i)).length<=(Cj (loops.take i)).length:=(Pz λqs hqs=>e4 qs (List.mem_of_mem_take hqs)).length_le
  have wtk:Eo (loops.take (i+1))=Eo (loops.take i)++Io ps:=by rw[Qcs hps,cP]
  refine⟨_,rfl,tx,rfl,⟨_,SqT.of (t3 _ _ hx1)⟩,?_⟩
  refine Lj (xs:=wx) (λj σ HT=>∃(u14 u15 u16:Option V) (ts:List Int),σ=[some (.ref b),some (.int ml),some (.int mp),some (.int r1),some (.int sd),some (.ref nb),some (.int own),some (.ref ft),some (.int (an:Int)),some (.ref ll),u10,some (.int M),some (.ref lt),some (.ref tx),u14,u15,u16,none,none,none,none] /\
    HT lt=some (.lst (ts.map V.int))/\ts=Eo (loops.take i)++Io (ps.take j)/\Same H' HT) ⟨_,_,_,ts,rfl,t1,(by rw[t2];show _=_++[];rw[QbC]),t3⟩ (λj σ HT _ h=>?_) (λj y σ HT hy h=>?_) (fun σ HT h=>?_)
  ·obtain⟨u14,u15,u16,ts,rfl,t1,t2,t3⟩:=h
   exact SqT.of (t3 _ _ hx1)
  ·obtain⟨u14,u15,u16,ts,rfl,t1,t2,t3⟩:=h
   obtain⟨p,hp,hP⟩:=Paired.Cq hx2 hy
   obtain⟨tp,up,wp',rfl,hp1,hp2,hp3⟩:=hP.tups (Ao.of t3)
   have okp:=okl.ok p (QaE hp)
   have etj:adL (ps.take (j+1))=adL (ps.take j)++adP p:=by rw[Qcs hp,S8]
   have tj:(adL (ps.take (j+1))).length<=(adL ps).length:=by
    have:adL ps=adL (ps.take (j+1))++adL (ps.drop (j+1)):=by rw[<-Lp,List.take_append_drop]
    have h2:=congrArg List.length this
    rw[QaP] at h2
    omega
   rw[etj,QaP] at tj
   have wlj:(Io (ps.take j)).length<=(adL (ps.take j)).length:=(RM λqs hqs=>okl.ok qs (List.mem_of_mem_take hqs)).length_le
   have wtj:Io (ps.take (j+1))=Io (ps.take j)++Hs (Fg p):=by rw[Qcs hp,gC]
   have t2l:ts.length<=(Cj (loops.take i)).length+(adL (ps.take j)).length:=by rw[t2,QaP];omega
   refine⟨tp,_,rfl,SqT.of hp1,rfl,_,_,rfl,_,_,rfl,_,_,rfl,rfl,?_⟩
   simp only[QaS,QaR]
   refine⟨_,rfl,.inl ⟨rfl,_,SqL.of t1⟩,_,rfl,_,rfl,Av (by show 2<=1000;decide),λta hta=>⟨Av (by show 1<=1000;decide),λtb htb=>?_⟩⟩
   have v1:=Af hta (.tup [.str p.kind,.int p.addr])
   have v2:=Af htb (.tup [.ref ta])
   have v12:=v1.trans v2
   refine⟨_,rfl,tb,up,_,_,rfl,rfl,Ab,v12 _ _ hp2,Av (by have:=okp.spur;show 1+_<=1000;rw[QbS hp3];omega),λtc HC hC sC=>⟨tc,rfl,⟨_,SqT.of hC⟩,λl hl=>?_⟩⟩
   have vC:=v12.trans sC
   have hds:Paired (JB HC) ([.ref ta]++wp') (⟨p.kind,p.addr⟩::p.spur):=.cons ⟨ta,rfl,sC _ _ (v2 _ _ Ab)⟩ (Paired.Az hp3 λ_ _ z=>z.tups (Ao.of vC))
   have lds:=QbS hds
   refine O7 (xs:=[.ref ta]++wp') (λk σ H5=>∃(u v:Option V) (ys:List Int),σ=[u,v]/\H5 l=some (.lst (ys.map V.int))/\ys=Hs ((Fg p).take k)/\Same HC H5) ⟨none,none,[],rfl,Ab,rfl,Af hl _⟩ (λk σ H5 _ h=>?_) (λk x σ H5 hk h=>?_) (fun σ H5 h=>?_)
   ·obtain⟨u,v,ys,rfl,y1,y2,y3⟩:=h
    exact SqT.of (y3 _ _ hC)
   ·obtain⟨u,v,ys,rfl,y1,y2,y3⟩:=h
    obtain⟨d,hd,td,rfl,htd⟩:=Paired.Cq hds hk
    have hkl:=(Qag.mp hd).1
    have hsp:=okp.spur
    have hkk:k < 4:=by rw[Qbp] at hkl;omega
    have hdv:(Fg p)[k]?=some d:=hd
    have hws:Hs ((Fg p).take (k+1))=Hs ((Fg p).take k)++(if Eh d.kind=true then [d.addr] else []):=by rw[Qcs hdv,gD]
    have y2l:ys.length<=k:=by
     rw[y2]
     have:=(aK (ds:=(Fg p).take k)).length_le
     rw[Qbx,Qbq] at this
     omega
    refine⟨td,_,rfl,SqT.of (y3 _ _ htd),rfl,_,_,rfl,_,_,rfl,rfl,?_⟩
    refine⟨_,rfl,Av (by show 2<=1000;decide),λtq htq=>?_⟩
    have vq:=Af htq (.tup [.str "seeker",.str "knob"])
    refine⟨tq,_,rfl,.inr (SqT.of Ab),rfl,rfl,_,rfl,Ju (λcc=>?_) (λcc=>?_)⟩
    ·have cc:Eh d.kind=true:=cc
     rw[if_pos cc] at hws
     refine⟨_,rfl,_,vq _ _ y1,Aq (by rw[Qbx];omega),_,_,ys++[d.addr],rfl,by rw[Ab,Qby];rfl,by rw[hws,y2],(y3.trans vq).Bj Ah.upd hl⟩
    ·have cc:¬Eh d.kind=true:=cc
     rw[if_neg cc,QbC] at hws
     refine⟨_,_,ys,rfl,vq _ _ y1,by rw[hws];exact y2,y3.trans vq⟩
   obtain⟨u,v,ys,rfl,y1,y2,y3⟩:=h
   have y2':ys=Hs (Fg p):=by
    rw[y2,lds]
    congr 1
    exact Qbo ..
   have y2l:ys.length<=(adP p).length:=by rw[y2'];exact (Xd okp).length_le
   have t1':=y3 _ _ (vC _ _ t1)
   refine⟨lt,l,_,_,rfl,rfl,t1',y1,Av (by rw[Qbx,Qbx];omega),?_⟩
   refine⟨_,_,_,ts++ys,rfl,by rw[Ab,Qby],?_,((t3.trans vC).trans y3).Bj Ah.upd hlt⟩
   rw[wtj,t2,y2',Qbf]
  ·obtain⟨u14,u15,u16,ts,rfl,t1,t2,t3⟩:=h
   rw[lwx,Qbo] at t2
   exact⟨_,_,_,_,ts,rfl,t1,by rw[wtk];exact t2,t3⟩
 obtain⟨u13,u14,u15,u16,ts,rfl,t1,t2,t3⟩:=h
 rw[lvs,Qbo] at t2
 have lF:ts.length<=30:=by rw[t2];have:=tU.length_le;omega
 have zk0:Ph (Eo loops) ts [] []:=by
  rw[t2]
  exact⟨tU.nodup ndA,(λx hx=>hx),(λz hz=>by cases hz),List.Sublist.refl _⟩
 have e1:=t3 _ _ e1
 have e2:=Ln.tups (Ao.of t3) e2
 have e7:=e7.same t3
 have e8:=e8.trans (Ah.of t3)
 refine⟨Av (by show 0<=1000;decide),λlz hlz=>?_⟩
 simp only[QaS,QaR]
 have sZ:=Af hlz (.lst [])
 have nzl:ll≠lz:=Ar e1 hlz
 have nzt:lt≠lz:=Ar t1 hlz
 have nzb:b≠lz:=e7.nb hlz
 have flz:H lz=none:=e8.free e7.ex hlz
 refine⟨_,rfl,_,rfl,b,_,5,rfl,e7.same sZ,by omega,by decide,by decide,λr6 HU r60 r61 hbU sU=>?_⟩
 obtain⟨rn,hrn⟩ : ∃rn:Nat,r6=rn:=⟨r6.toNat,by omega⟩
 subst hrn
 refine⟨b,_,rn,rfl,hbU,by omega,by omega,λln ys HV hln ly hys yS eY hbV sV=>?_⟩
 simp only[QaS,QaR]
 have sUV:Ah b _ HV:=((Ah.of sZ).trans sU).trans sV
 have nzn:ln≠lz:=λz=>by rw[z,sU _ _ Ab nzb.symm] at hln;cases hln
 have e1:=sUV _ _ e1 nbl.symm
 have e2:=Ln.tups (sUV.tup e7.Gh) e2
 have e8:=e8.trans sUV
 have hzV:HV lz=some (.lst []):=sV _ _ (sU _ _ Ab nzb.symm) nzb.symm
 have t1:=sUV _ _ t1 nbt.symm
 have hbV:=hbV.mono (show _<=n+500 by omega)
 have tl3:loops.length<=3:=by omega
 have nln:b≠ln:=hbU.nb hln
 refine⟨_,rfl,ln,rfl,⟨_,SqL.of eY⟩,?_⟩
 refine Mu (xs:=ys.map V.str) (λi σ HH=>∃(lt:Addr) (u19 u20:Option V) (ts:List Int) (zs:YG),σ=[some (.ref b),some (.int ml),some (.int mp),some (.int r1),some (.int sd),some (.ref nb),some (.int own),some (.ref ft),some (.int (an:Int)),some (.ref ll),u10,some (.int M),some (.ref lt),u13,u14,u15,u16,some (.ref lz),some (.ref ln),u19,u20] /\
   HH lt=some (.lst (ts.map V.int))/\ts.length<=30/\b≠lt/\lt≠lz/\HH lz=some (.lst zs)/\(∃zones,Paired (Ig HH) zs zones/\Ph (Eo loops) ts zones (ys.take i))/\HH ln=some (.lst (ys.map V.str))/\HH ll=some (.lst vs)/\Paired (LoopAt HH) vs loops/\Bk HH b (n+500+30*i)/\Ah b H HH)
  ⟨lt,_,_,ts,[],rfl,t1,lF,nbt,nzt,hzV,⟨[],.nil,zk0⟩,eY,e1,e2,hbV,e8⟩ (λi σ HH _ h=>?_) (λi x σ HH hx h=>?_) (fun σ HH h=>?_)
 ·obtain⟨lt,u19,u20,ts,zs,rfl,z1,z2,z3,z4,z5,z6,z7,z8,z9,z10,z11⟩:=h
  exact SqL.of z7
 ·clear t1 t2 t3 lF nbt nzt hzV eY e1 e2 hbV e8
  obtain⟨lt,u19,u20,ts,zs,rfl,z1,z2,z3,z4,z5,z6,z7,z8,z9,z10,z11⟩:=h
  obtain⟨zones,zp,zk⟩:=z6
  have yR:zs.length<=5:=by
   have h1:=QbS zp
   have h2:=zk.nm.length_le
   rw[Qbx,Qbq] at h2
   omega
  obtain⟨yi,hyi,rfl⟩ : ∃yi,ys[i]?=some yi/\x=.str yi:=by
   rw[Qbg] at hx
   obtain⟨yi,h1,h2⟩:=Qaw.mp hx
   exact⟨yi,h1,h2.symm⟩
  have ytk:ys.take (i+1)=ys.take i++[yi]:=Qcs hyi
  have hil:i < 5:=by
   have:=(Qag.mp hx).1
   rw[Qbx] at this
   omega
  simp only[QaS,QaR]
  refine⟨_,rfl,lt,rfl,⟨_,SqL.of z1⟩,λlc hlc=>?_⟩
  have nbc:b≠lc:=z10.nb hlc
  have ntc:lt≠lc:=Ar z1 hlc
  have sC:=Af hlc (.lst [])
  refine Jf (xs:=ts.map V.int) (λk σ HC=>∃(u:Option V) (ss:List Int),σ=[u,some (.ref b)]/\HC lc=some (.lst (ss.map V.int))/\ss.Sublist (ts.take k)/\Bk HC b (n+500+30*i+k)/\Ah b HH HC) ⟨none,[],rfl,Ab,List.Sublist.refl _,z10.same sC,Ah.of sC⟩ (λk σ HC _ h=>?_) (λk x σ HC hk h=>?_) (fun σ HC h=>?_)
  ·obtain⟨u,ss,rfl,c1,c2,c3,c4⟩:=h
   exact SqL.of (c4 _ _ z1 z3.symm)
  ·obtain⟨u,ss,rfl,c1,c2,c3,c4⟩:=h
   have hkl:k < 30:=by
    have:=(Qag.mp hk).1
    rw[Qbx] at this
    omega
   refine⟨_,rfl,b,_,3,rfl,c3,by omega,by decide,by decide,λr HD _ _ hbD sD=>⟨rfl,_,rfl,?_⟩⟩
   have c1':=sD _ _ c1 nbc.symm
   rw[Qbg] at hk
   obtain⟨a,hka,rfl⟩:=Qaw.mp hk
   have tka:ts.take (k+1)=ts.take k++[a]:=Qcs hka
   have ssl:ss.length<=k:=Qce c2.length_le (by rw[Qbq];omega)
   refine Ju (λcc=>?_) (λcc=>?_)
   ·refine⟨_,rfl,_,c1',Aq (by rw[Qbx];omega),_,ss++[a],rfl,by rw[Ab,Qby];rfl,by rw[tka];exact c2.append (List.Sublist.refl _),hbD.Ce Ah.upd nbc,Ah.Om (c4.trans sD) Ah.upd hlc⟩
   ·exact⟨_,ss,rfl,c1',by rw[tka];exact c2.trans (List.sublist_append_left ..),hbD,c4.trans sD⟩
  obtain⟨u,ss,rfl,c1,c2,c3,c4⟩:=h
  rw[Qbx] at c2 c3
  rw[Qbo] at c2
  have ssl:ss.length<=30:=Qce c2.length_le z2
  refine⟨lc,ss,rfl,SqL.of c1,by omega,λms ls hperm Ra hls=>?_⟩
  simp only[QaS,QaR]
  have sS:=Af hls (.lst (ms.map V.int))
  have c5:Ah b HH (upd HC ls (.lst (ms.map V.int))):=c4.trans (Ah.of sS)
  have c6:=c3.same sS
  have c7:(upd HC ls (.lst (ms.map V.int))) ls=some (.lst (ms.map V.int)):=Ab
  generalize upd HC ls (.lst (ms.map V.int))=HS at c5 c6 c7
  have lms:ms.length<=30:=by have:=hperm.length_eq;omega
  have z1:=c5 _ _ z1 z3.symm
  refine⟨_,rfl,lt,rfl,⟨_,SqL.of z1⟩,λlw hlw=>?_⟩
  have nbw:b≠lw:=c6.nb hlw
  have nsw:ls≠lw:=Ar c7 hlw
  have nzw:lw≠lz:=(Ar (c5 _ _ z5 nzb.symm) hlw).symm
  refine Jf (xs:=ts.map V.int) (λk σ HC=>∃(u:Option V) (ss:List Int),σ=[u,some (.ref ls)]/\HC lw=some (.lst (ss.map V.int))/\ss=(ts.take k).filter (λx=>!decide (x∈ms))/\Same HS HC) ⟨none,[],rfl,Ab,rfl,Af hlw _⟩ (λk σ HC _ h=>?_) (λk x σ HC hk h=>?_) (fun σ HC h=>?_)
  ·obtain⟨u,ss,rfl,d1,d2,d3⟩:=h
   exact SqL.of (d3 _ _ z1)
  ·obtain⟨u,ss,rfl,d1,d2,d3⟩:=h
   have hkl:k < 30:=by
    have:=(Qag.mp hk).1
    rw[Qbx] at this
    omega
   rw[Qbg] at hk
   obtain⟨a,hka,rfl⟩:=Qaw.mp hk
   have tka:(ts.take (k+1)).filter (λx=>!decide (x∈ms))=(ts.take k).filter (λx=>!decide (x∈ms))++[a].filter (λx=>!decide (x∈ms)):=by rw[Qcs hka,Qbb]
   have ssl:ss.length<=30:=by
    rw[d2]
    have h1:=List.length_filter_le (λx=>!decide (x∈ms)) (ts.take k)
    rw[Qbq] at h1
    omega
   refine⟨_,rfl,_,rfl,ls,_,rfl,.inl (SqL.of (d3 _ _ c7)),rfl,jL ms,_,rfl,Ju (λcc=>?_) (λcc=>?_)⟩
   ·have cc:(!inV (.int a) (ms.map V.int))=true:=cc
    rw[Ss] at cc
    rw[show List.filter (λx=>!decide (x∈ms)) [a]=[a] from Qas (p:=λx=>!decide (x∈ms)) cc] at tka
    refine⟨_,rfl,_,d1,Aq (by rw[Qbx];omega),_,ss++[a],rfl,by rw[Ab,Qby];rfl,by rw[tka,d2],d3.Bj Ah.upd hlw⟩
   ·have cc:¬(!inV (.int a) (ms.map V.int))=true:=cc
    rw[Ss] at cc
    rw[show List.filter (λx=>!decide (x∈ms)) [a]=[] from Qar (p:=λx=>!decide (x∈ms)) cc] at tka
    exact⟨_,ss,rfl,d1,by rw[tka,d2];exact (QbC _).symm,d3⟩
  obtain⟨u,ws,rfl,d1,d2,d3⟩:=h
  rw[Qbx,Qbo] at d2
  have wsl:ws.length<=30:=by rw[d2];exact Qce (List.length_filter_le _ _) z2
  simp only[QaS,QaR]
  have c8:=c5.trans (Ah.of d3)
  have z5:=c8 _ _ z5 nzb.symm
  have z7:=c8 _ _ z7 nln.symm
  have z8:=c8 _ _ z8 nbl.symm
  have z9:=Ln.tups (c8.tup z10.Gh) z9
  have zp:Paired (Ig HC) zs zones:=Paired.Az zp λ_ _ z=>z.tups (c8.tup z10.Gh)
  have z10:=(c6.same d3).mono (show _<=n+500+30*(i+1) by omega)
  have z11:=z11.trans c8
  have c7:=d3 _ _ c7
  have zkn:(ms.map V.int).length=ms.length:=Qbx _
  refine⟨_,rfl,ls,_,rfl,.inl (SqL.of c7),_,_,rfl,rfl,_,rfl,Ju (λcc=>?_) (λcc=>?_)⟩
  ·refine⟨_,rfl,.inl ⟨rfl,_,SqL.of z5⟩,_,rfl,_,rfl,ls,_,rfl,.inl ⟨SqL.of c7,λtt htt=>⟨Av (by show 2<=1000;decide),λta hta=>?_⟩⟩⟩
   have f1:=Af htt (.tup (ms.map V.int))
   have f2:=Af hta (.tup [.str yi,.ref tt])
   have f12:=f1.trans f2
   have z5:=f12 _ _ z5
   refine⟨lz,_,_,rfl,rfl,z5,Aq (by omega),?_⟩
   have tz0:∀zs',(upd (upd HC tt (.tup (ms.map V.int))) ta (.tup [.str yi,.ref tt])) lz≠some (.tup zs'):=λzs' z=>by rw[z5] at z;cases z
   have tz:=Ao.upd (o:=.lst (zs++[.ref ta])) tz0
   have CA:1<=ms.length:=by
    have cc:=Qbl cc
    rw[zkn] at cc
    omega
   have zp':Paired (Ig (upd (upd (upd HC tt (.tup (ms.map V.int))) ta (.tup [.str yi,.ref tt])) lz (.lst (zs++[.ref ta])))) (zs++[.ref ta]) (zones++[⟨yi,ms⟩]):=Qcm ⟨ta,tt,rfl,tz _ _ Ab,tz _ _ (f2 _ _ Ab)⟩ (Paired.Az zp λ_ _ z=>(z.tups (Ao.of f12)).tups tz)
   have zk':Ph (Eo loops) ws (zones++[⟨yi,ms⟩]) (ys.take (i+1)):=by rw[d2,ytk];exact zk.next hperm c2 Ra lms CA
   exact⟨lw,_,_,ws,zs++[.ref ta],rfl,by rw[Al nzw];exact f12 _ _ d1,by omega,nbw,nzw,Ab,⟨_,zp',zk'⟩,by rw[Al nzn];exact f12 _ _ z7,by rw[Al nzl];exact f12 _ _ z8,Ln.tups tz (Ln.tups (Ao.of f12) z9),(z10.same f12).Ce Ah.upd nzb,Ah.Om (z11.trans (Ah.of f12)) Ah.upd flz⟩
  ·exact⟨lw,_,_,ws,zs,rfl,d1,by omega,nbw,nzw,z5,⟨zones,zp,by rw[d2,ytk];exact zk.none⟩,z7,z8,z9,z10,z11⟩
 clear t1 t2 t3 lF nbt nzt hzV eY e1 e2 hbV e8
 obtain⟨lt,u19,u20,ts,zs,rfl,z1,z2,z3,z4,z5,z6,z7,z8,z9,z10,z11⟩:=h
 rw[Qbx] at z10
 obtain⟨zones,zp,zk⟩:=z6
 rw[Qbx,Qbo] at zk
 have yR:zs.length<=5:=by
  have h1:=QbS zp
  have h2:=zk.nm.length_le
  rw[Qbx] at h2
  omega
 refine⟨_,rfl,_,rfl,b,_,3,rfl,z10,by omega,by decide,by decide,λr7 HX _ _ hbX sX=>⟨_,_,rfl,rfl,_,_,rfl,_,rfl,ll,_,rfl,.inl ⟨SqL.of (sX _ _ z8 nbl.symm),λtl htl=>?_⟩⟩⟩
 have g1:=Af htl (.tup vs)
 refine⟨_,rfl,lz,_,rfl,.inl ⟨SqL.of (g1 _ _ (sX _ _ z5 nzb.symm)),λtz htz=>⟨Av (by show 3<=1000;decide),λt ht=>?_⟩⟩⟩
 have g2:=Af htz (.tup zs)
 have g3:=Af ht (.tup [.int (if M+r7 < 30 then M+r7 else 30),.ref tl,.ref tz])
 have fJ:=(g1.trans g2).trans g3
 have cnt:1<=(Cj loops).length:=by
  obtain⟨L,hL⟩ : ∃L,loops=L0::L:=ju
  rw[hL]
  have:Cj (L0::L)=adL L0++Cj L:=by unfold Cj;rw[Qbi]
  rw[this,QaP]
  omega
 have M1:1<=M:=by
  obtain⟨L,hL⟩ : ∃L,loops=L0::L:=ju
  obtain⟨m,h1,h2⟩:=aM (l:=GQ L0) (by rw[V0];omega)
  have:=vo L0 (by rw[hL];exact QaQ ..) m h1
  omega
 have pok:ZD (if M+r7 < 30 then M+r7 else 30) loops zones:=by
  refine⟨ndA,bdA,⟨cnt,by omega⟩,⟨by split <;> omega,by split <;> omega⟩,λps hps m hm=>?_,λz hz x hx=>?_,(List.nodup_append.mp zk.nd).1,zk.up,?_,λz hz=>?_,zk.nm.nodup yS⟩
  ·have h1:=vo ps hps m hm
   have h2:=mX ps m hm
   have h3:(adL ps).length<=(Cj loops).length:=by
    exact cB loops hps
   split <;> omega
  ·exact zk.sub x (QaG _ (Qbw.mpr ⟨z,hz,hx⟩))
  ·have h1:=QbS zp
   omega
  ·exact hys z.name (zk.nm.subset (Qcc.mpr ⟨z,hz,rfl⟩))
 exact q t tl tz vs zs loops zones _ _ Ab (g3 _ _ (g2 _ _ Ab)) (Ln.tups (Ao.of fJ) (Ln.tups (sX.tup z10.Gh) z9)) e4 (by omega) tl3 (g3 _ _ Ab) (Paired.Az zp λ_ _ z=>(z.tups (sX.tup z10.Gh)).tups (Ao.of fJ)) pok ((hbX.same fJ).mono (by omega)) ((z11.trans sX).trans (Ah.of fJ))
end
abbrev Jo:Stmt:=top 28
abbrev Ef:YF:=["loop","at","place"]
theorem CK:Ay ["loop","at","place","kind","address","spur","told","number","spur_kind","spur_address"] Ef (Ak Jo):=⟨rfl,rfl,rfl,by trivial,rfl,by trivial,by trivial⟩
structure Sd where
 lp:Int
 at_:Int
 n:Int
 kind:Str
 addr:Int
def Mw (H:Hp) (v:V) (d:Sd):Prop:=∃t u,v=.ref t/\H t=some (.tup [.ref u,.str d.kind,.int d.addr])/\H u=some (.tup [.int d.lp,.int d.at_,.int d.n])
theorem Mw.tups {H H':Hp} (s:Ao H H') {v:V} {d:Sd} (h:Mw H v d):Mw H' v d:=by
 obtain⟨t,u,e,q1,q2⟩:=h
 exact⟨t,u,e,s _ _ q1,s _ _ q2⟩
def Dy (lp at_:Int):Nat->List Dev->List Sd
 | _,[]=>[]
 | n,d::r=>⟨lp,at_,n,d.kind,d.addr⟩::Dy lp at_ (n+1) r
def BK (lp at_:Int) (p:Place):List Sd:=if V.str p.kind=V.str "opener" then [] else ⟨lp,at_,0,p.kind,p.addr⟩::Dy lp at_ 1 p.spur
theorem Ry (lp at_:Int):∀(n:Nat) (ds:List Dev) (i:Nat) (d:Dev),ds[i]?=some d->Dy lp at_ n (ds.take (i+1))=Dy lp at_ n (ds.take i)++[⟨lp,at_,(n+i:Nat),d.kind,d.addr⟩]
 | n,[],i,d,h=>by simp at h
 | n,x::r,0,d,h=>by
  simp at h
  subst h
  simp[Dy]
 | n,x::r,i+1,d,h=>by
  have h':r[i]?=some d:=by simpa using h
  have ih:=Ry lp at_ (n+1) r i d h'
  rw[List.take_succ_cons,List.take_succ_cons]
  show _::Dy lp at_ (n+1) (r.take (i+1))=(_::Dy lp at_ (n+1) (r.take i))++_
  rw[ih,show n+1+i=n+(i+1) by omega]
  rfl
structure Tx (K:YD) (mg:YB) (op oe:Addr):Prop extends Nm mg where
 OPENER:∃u,mg "OPENER"=some u/\RelV (.ref op) u
 opT:∀H,SqT K H op [.str "opener",.int 0,.ref oe]
 opE:∀H,SqT K H oe []
def lH:Sp:=λvs H Q _=>∃(lp at_:Int) (v:V) (p:Place),vs=[.int lp,.int at_,v]/\Dv H v p/\p.spur.length<=3/\∀l xs H',H l=none->H' l=some (.lst xs)->Paired (Mw H') xs (BK lp at_ p)->Same H H'->Q (.ref l) H'
section
variable {P:Program} {w:World} {K:YD} {mg:YB} {base:Heap} {op oe:Addr}
theorem R7 (c:Code K mg "place_devices" Jo Ef) (T:Tx K mg op oe):Good P w K mg base "place_devices" 1 Ef lH:=by
 refine c.good CK (λvs H Q E h=>?_) (λf cdv A outer s H vs Q E hr h=>?_)
 ·obtain⟨lp,at_,v,p,rfl,_⟩:=h
  rfl
 obtain⟨lp,at_,v,p,rfl,⟨t,u,vs,rfl,ht,hu,hd⟩,h3,q⟩:=h
 refine⟨_,(Ag (G5 (pv 2) (Cw rfl (Am (Aj (i:=3) CK.nd rfl (Or.inl rfl)) (Am (Aj (i:=4) CK.nd rfl (Or.inl rfl)) (Am (Aj (i:=5) CK.nd rfl (Or.inl rfl)) Bo)))))
 (Ag (Ck (Bt Ho (pv 3) Bp (BJ _)) (Ai (Ba (BW Ac))) BL)
 (Ag (Bb (i:=6) CK.nd rfl (Or.inl rfl) (BW (Aa (Bh (Aa (Bh (Aa (pv 0) (Aa (pv 1) (Aa Ae Ac)))) (Aa (pv 3) (Aa (pv 4) Ac)))) Ac)))
 (Ag (Bv QbA rfl (Mi rfl T.enumerate (pv 5) Ae) (Cw rfl (Am (Aj (i:=7) CK.nd rfl (Or.inl rfl)) (Am (Cw rfl (Am (Aj (i:=8) CK.nd rfl (Or.inl rfl)) (Am (Aj (i:=9) CK.nd rfl (Or.inl rfl)) Bo))) Bo)))
 (Ai (Bf (Cm Qap Qal Qam Cd (pv 6) (Aa (Bh (Aa (Bh (Aa (pv 0) (Aa (pv 1) (Aa (pv 7) Ac)))) (Aa (pv 8) (Aa (pv 9) Ac)))) Ac)))))
 (Ai (Ba (pv 6))))))),?_⟩
 generalize hst:L2.start _ _=σ0
 have e0:σ0=[some (.int lp),some (.int at_),some (.ref t),none,none,none,none,none,none,none]:=hst.symm
 clear hst
 subst e0
 refine⟨_,rfl,t,_,rfl,SqT.of ht,rfl,_,_,rfl,_,_,rfl,_,_,rfl,rfl,?_⟩
 simp only[QaS,QaR]
 refine⟨_,rfl,rfl,_,rfl,?_⟩
 by_cases ck:V.str p.kind=V.str "opener"
 ·rw[QbN ck]
  have e:BK lp at_ p=[]:=if_pos ck
  rw[e] at q
  exact BZ ⟨(by show 0<=sizeLine;decide),λl hl=>q l [] _ hl Ab .nil (Af hl _)⟩
 ·rw[QbB ck]
  have e:BK lp at_ p=⟨lp,at_,0,p.kind,p.addr⟩::Dy lp at_ 1 p.spur:=if_neg ck
  rw[e] at q
  refine Cp ⟨_,rfl,_,rfl,(by show 3<=sizeLine;decide),λus hus=>⟨_,rfl,_,rfl,(by show 3<=sizeLine;decide),λts hts=>⟨(by show 1<=sizeLine;decide),λl hl=>?_⟩⟩⟩
  have s1:=Af hus (.tup [.int lp,.int at_,.int 0])
  have s2:=Af hts (.tup [.ref us,.str p.kind,.int p.addr])
  have s3:=Af hl (.lst [.ref ts])
  have sm:=s1.trans (s2.trans s3)
  have hl0:=s1.free (s2.free hl)
  have el:_=some (HO.lst [.ref ts]):=Ab (H:=upd (upd H us (.tup [.int lp,.int at_,.int 0])) ts (.tup [.ref us,.str p.kind,.int p.addr])) (a:=l) (o:=.lst [.ref ts])
  have es:Mw _ (.ref ts) ⟨lp,at_,0,p.kind,p.addr⟩:=⟨ts,us,rfl,s3 _ _ Ab,s3 _ _ (s2 _ _ Ab)⟩
  generalize hX:upd (upd (upd H us (.tup [.int lp,.int at_,.int 0])) ts (.tup [.ref us,.str p.kind,.int p.addr])) l (.lst [.ref ts])=H1 at sm el es
  simp only[QaS,QaR]
  have hu1:=sm _ _ hu
  have sd0:Paired (Mw H1) [.ref ts] (⟨lp,at_,0,p.kind,p.addr⟩::Dy lp at_ 1 (p.spur.take 0)):=.cons es .nil
  have A2:vs.length=p.spur.length:=QbS hd
  refine⟨_,rfl,u,rfl,⟨vs,SqT.of hu1⟩,Iz (xs:=vs) (lo:=1) (λi σ HH=>∃ys u7 u8 u9,σ=[some (.int lp),some (.int at_),some (.ref t),some (.str p.kind),some (.int p.addr),some (.ref u),some (.ref l),u7,u8,u9]/\Ah l H1 HH/\HH l=some (.lst ys)/\Paired (Mw HH) ys (⟨lp,at_,0,p.kind,p.addr⟩::Dy lp at_ 1 (p.spur.take i))/\ys.length<=i+1)
   ⟨[.ref ts],_,_,_,rfl,Ah.refl l H1,el,sd0,Qck _⟩ (λi σ HH _ h=>?_) (λi x pt σ HH hx h hpt=>?_) (fun σ HH h=>?_)⟩
  ·obtain⟨ys,_,_,_,_,sb,_⟩:=h
   exact SqT.of (sb _ _ hu1 (λz=>by rw[z,el] at hu1;cases hu1))
  ·obtain⟨ys,u7,u8,u9,rfl,sb,hy,pd,ly⟩:=h
   obtain⟨d,hdi,td,rfl,htd⟩:=Paired.Cq hd hx
   have nl:∀zs,H1 l≠some (.tup zs):=λzs z=>by rw[el] at z;cases z
   have nl2:∀zs,HH l≠some (.tup zs):=λzs z=>by rw[hy] at z;cases z
   have Cl:=(sb.tup nl) _ _ (sm _ _ htd)
   have t0:=Af hpt (.tup [.int ((1+i:Nat):Int),.ref td])
   refine⟨pt,_,rfl,SqT.of Ab,rfl,_,_,rfl,_,_,rfl,td,_,rfl,SqT.of (t0 _ _ Cl),rfl,_,_,rfl,_,_,rfl,rfl,rfl,?_⟩
   simp only[QaS,QaR]
   have hy0:=t0 _ _ hy
   refine⟨_,rfl,.inl ⟨rfl,_,SqL.of hy0⟩,_,rfl,_,rfl,_,rfl,(by show 3<=sizeLine;decide),λus2 Cf=>⟨_,rfl,_,rfl,(by show 3<=sizeLine;decide),λts2 Ch=>?_⟩⟩
   have t1:=Af Cf (.tup [.int lp,.int at_,.int ((1+i:Nat):Int)])
   have t2:=Af Ch (.tup [.ref us2,.str d.kind,.int d.addr])
   have hy2:=t2 _ _ (t1 _ _ hy0)
   have il:=(Qag.mp hx).1
   refine⟨l,_,_,rfl,rfl,hy2,Aq (by omega),?_⟩
   refine⟨ys++[.ref ts2],_,_,_,rfl,sb.trans ((Ah.of (t0.trans (t1.trans t2))).trans Ah.upd),Ab,?_,by rw[QaP];simp only[QaB];omega⟩
   rw[Ry lp at_ 1 p.spur i d hdi]
   have nlx:∀zs,(upd (upd (upd HH pt (.tup [.int ((1+i:Nat):Int),.ref td])) us2 (.tup [.int lp,.int at_,.int ((1+i:Nat):Int)])) ts2 (.tup [.ref us2,.str d.kind,.int d.addr])) l≠some (.tup zs):=λzs z=>by rw[hy2] at z;cases z
   have tt:=Ao.upd (o:=.lst (ys++[.ref ts2])) nlx
   exact Qcm (l₂:=_::Dy lp at_ 1 (p.spur.take i)) ⟨ts2,us2,rfl,tt _ _ Ab,tt _ _ (t2 _ _ Ab)⟩ (Paired.Az pd λ_ _ z=>(z.tups (Ao.of (t0.trans (t1.trans t2)))).tups tt)
  ·obtain⟨ys,u7,u8,u9,rfl,sb,hy,pd,ly⟩:=h
   rw[A2,Qbo] at pd
   exact⟨_,rfl,q l ys HH hl0 hy pd λc o e=>sb _ _ (sm _ _ e) (Ar e hl0)⟩
end
structure Sp3 where
 lp:Int
 at_:Int
 n:Int
def Sd.spot (d:Sd):Sp3:=⟨d.lp,d.at_,d.n⟩
def Cr (H:Hp) (v:V) (d:Sp3):Prop:=∃u,v=.ref u/\H u=some (.tup [.int d.lp,.int d.at_,.int d.n])
theorem Cr.tups {H H':Hp} (s:Ao H H') {v:V} {d:Sp3} (h:Cr H v d):Cr H' v d:=by
 obtain⟨u,e,q⟩:=h
 exact⟨u,e,s _ _ q⟩
theorem Li {k:Str} (h:Gw k):¬V.str k=V.str "opener":=by
 rcases h with rfl | rfl | rfl | rfl <;> decide +kernel
theorem Y9 {k:Str} (h:Gw k):(PyData.str k).canLay0=true:=by
 rcases h with rfl | rfl | rfl | rfl <;> decide +kernel
def NQ (d:Dev):PyData:=.tuple [.str d.kind,.int d.addr]
def Mg (p:Place):PyData:=.tuple [.str p.kind,.int p.addr,.tuple (p.spur.map NQ)]
def opD:PyData:=.tuple [.str "opener",.int 0,.tuple []]
theorem Zk:∀{ds:List Dev},(∀d∈ds,Gw d.kind)->PyData.canLayAll0 (ds.map NQ)=true/\PyData.depthAll (ds.map NQ)<=1
 | [],_=>⟨rfl,by show 0<=1;decide⟩
 | d::ds,h=>by
  have ih:=Zk (ds:=ds) λx hx=>h x (QaF _ hx)
  refine⟨?_,?_⟩
  ·show ((PyData.canLay0 (.str d.kind)&&(true&&true))&&PyData.canLayAll0 (ds.map NQ))=true
   rw[Y9 (h d QaQ),ih.1];rfl
  ·show max (max 0 (max 0 0)+1) (PyData.depthAll (ds.map NQ))<=1
   exact Nat.max_le.mpr ⟨by decide,ih.2⟩
theorem uU:PyData.canLay0 (.str "opener")=true:=by trivial
theorem Qn {p:Place} (h:OkP p):SeqAt.shaped (Mg p)=true:=by
 have hk:PyData.canLay0 (.str p.kind)=true:=by
  rcases h.form with⟨e,_⟩| e
  ·rw[e];exact uU
  ·exact Y9 e
 have hd:=Zk h.kinds
 show ((PyData.canLay0 (.str p.kind)&&(true&&(PyData.canLayAll0 (p.spur.map NQ)&&true)))&&decide (max 0 (max 0 (max (PyData.depthAll (p.spur.map NQ)+1) 0))+1<=64))=true
 rw[hk,hd.1]
 have:max 0 (max 0 (max (PyData.depthAll (p.spur.map NQ)+1) 0))+1<=64:=by omega
 rw[QbN this]
 rfl
theorem VP {p:Place} (h:OkP p):PyData.eqv (Mg p) opD=decide (V.str p.kind=V.str "opener"):=by
 rcases h.form with⟨e1,e2,e3⟩| e
 ·rw[show Mg p=opD by unfold Mg opD;rw[e1,e2,e3];rfl,e1]
  decide +kernel
 ·rw[QbB (Li e)]
  have:(p.kind == ("opener":Str))=false:=QaJ.mpr λz=>Li e (by rw[z])
  show (((p.kind == ("opener":Str))&&_))=false
  rw[this]
  rfl
theorem JB.rep {K:YD} {H:Hp} {v:V} {d:Dev} (h:JB H v d):J2 K H v (NQ d):=by
 obtain⟨t,rfl,e⟩:=h
 exact .tup (SqT.of e) (.cons (.str _) (.cons (.int _) .nil))
theorem Zj {K:YD} {H:Hp}:∀{vs:YG} {ds:List Dev},Paired (JB H) vs ds->Lb K H vs (ds.map NQ)
 | _,_,.nil=>.nil
 | _,_,.cons h t=>.cons h.rep (Zj t)
theorem Dv.rep {K:YD} {H:Hp} {v:V} {p:Place} (h:Dv H v p):J2 K H v (Mg p):=by
 obtain⟨t,u,vs,rfl,e1,e2,e3⟩:=h
 exact .tup (SqT.of e1) (.cons (.str _) (.cons (.int _) (.cons (.tup (SqT.of e2) (Zj e3)) .nil)))
theorem K4 (lp at_:Int):∀(n:Nat) (ds:List Dev),(Dy lp at_ n ds).length=ds.length
 | _,[]=>rfl
 | n,d::r=>by show (Dy lp at_ (n+1) r).length+1=r.length+1;rw[K4]
abbrev Qh:Stmt:=top 29
abbrev Gg:YF:=["plan"]
theorem Hh:Ay ["plan","told","loop","places","at","place"] Gg (Ak Qh):=⟨rfl,rfl,rfl,by trivial,rfl,by trivial,by trivial⟩
abbrev Ka:Stmt:=top 30
abbrev Hw:YF:=["plan"]
theorem DY:Ay ["plan","told","loop","places","at","kind","address","spur"] Hw (Ak Ka):=⟨rfl,rfl,rfl,by trivial,rfl,by trivial,by trivial⟩
abbrev MF:Stmt:=top 31
abbrev Kp:YF:=["plan"]
theorem K6:Ay ["plan","told","loop","places"] Kp (Ak MF):=⟨rfl,rfl,rfl,by trivial,rfl,by trivial,by trivial⟩
def up {α : Type} (f:Nat->List α) (i:Nat):List α:=(List.range i).flatMap f
theorem Dj {α : Type} (f:Nat->List α) (i:Nat):up f (i+1)=up f i++f i:=by
 unfold up
 rw[List.range_succ,QaK]
 simp
theorem Ld {α : Type} (f:Nat->List α):up f 0=[]:=rfl
theorem Dp {α : Type} {f:Nat->List α} {c:Nat} (h:∀i,(f i).length<=c):∀i,(up f i).length<=c*i
 | 0=>Qck _
 | i+1=>by
  have:=Dp h i
  have:=h i
  rw[Dj,QaP,Nat.mul_succ]
  omega
def ifs {α β : Type} (o:Option α) (g:α->List β):List β:=match o with | none=>[] | some x=>g x
theorem Dh {α β : Type} {o:Option α} {g:α->List β} {x:α} (h:o=some x):ifs o g=g x:=by rw[h];rfl
structure Gt where
 lp:Int
 at_:Int
def Ds (H:Hp) (v:V) (d:Gt):Prop:=∃u,v=.ref u/\H u=some (.tup [.int d.lp,.int d.at_])
theorem Ds.tups {H H':Hp} (s:Ao H H') {v:V} {d:Gt} (h:Ds H v d):Ds H' v d:=by
 obtain⟨u,e,q⟩:=h
 exact⟨u,e,s _ _ q⟩
def pd1 (lp:Int) (ps:List Place) (i:Nat):List Sd:=ifs ps[i]? λp=>BK lp ((1+i:Nat):Int) p
def pdL (loops:YU) (k:Nat):List Sd:=ifs loops[k]? λps=>up (pd1 k ps) ps.length
abbrev YV:=List Sp3
def st1 (lp:Int) (ps:List Place) (i:Nat):YV:=ifs ps[i]? λp=>(List.range (p.spur.length+1)).map λn:Nat=>⟨lp,((1+i:Nat):Int),(n:Int)⟩
def stL (loops:YU) (k:Nat):YV:=ifs loops[k]? λps=>⟨k,0,0⟩::up (st1 k ps) ps.length
def gt1 (lp:Int) (ps:List Place) (i:Nat):List Gt:=ifs ps[i]? λp=>if V.str p.kind=V.str "opener" then [⟨lp,((1+i:Nat):Int)⟩] else []
def gtL (loops:YU) (k:Nat):List Gt:=ifs loops[k]? λps=>(⟨k,0⟩::up (gt1 k ps) ps.length)++[⟨k,(ps.length:Int)+1⟩]
structure Ed (loops:YU):Prop where
 ok:∀ps∈loops,OkL ps
 hi:loops.length<=3
theorem RG {lp a:Int} {p:Place} (h:OkP p):(BK lp a p).length<=4:=by
 unfold BK
 have:=h.spur
 split
 ·exact Qcl _
 ·rw[Qbp,K4];omega
theorem bN {lp:Int} {ps:List Place} (h:∀p∈ps,OkP p) (i:Nat):(pd1 lp ps i).length<=4:=by
 unfold pd1
 cases e:ps[i]? with
 | none=>exact Qcl _
 | some p=>exact RG (h p (QaE e))
theorem U3 {lp:Int} {ps:List Place} (h:∀p∈ps,OkP p) (i:Nat):(st1 lp ps i).length<=4:=by
 unfold st1
 cases e:ps[i]? with
 | none=>exact Qcl _
 | some p=>
  have:=(h p (QaE e)).spur
  show ((List.range _).map _).length<=4
  rw[Qbx,Qbm]
  omega
theorem Od {lp:Int} {ps:List Place} (i:Nat):(gt1 lp ps i).length<=1:=by
 unfold gt1
 cases e:ps[i]? with
 | none=>exact Qcl _
 | some p=>
  show (if _ then _ else _:List Gt).length<=1
  split
  ·exact Qck _
  ·exact Qcl _
theorem bM {loops:YU} (h:Ed loops) (k:Nat):(pdL loops k).length<=48:=by
 unfold pdL
 cases e:loops[k]? with
 | none=>exact Qcl _
 | some ps=>
  have o:=h.ok ps (QaE e)
  have:=Dp (bN (lp:=k) o.ok) ps.length
  have:=o.hi
  show (up _ _).length<=48
  omega
theorem UW {loops:YU} (h:Ed loops) (k:Nat):(stL loops k).length<=49:=by
 unfold stL
 cases e:loops[k]? with
 | none=>exact Qcl _
 | some ps=>
  have o:=h.ok ps (QaE e)
  have:=Dp (U3 (lp:=k) o.ok) ps.length
  have:=o.hi
  show (up _ _).length+1<=49
  omega
theorem bZ {loops:YU} (h:Ed loops) (k:Nat):(gtL loops k).length<=14:=by
 unfold gtL
 cases e:loops[k]? with
 | none=>exact Qcl _
 | some ps=>
  have o:=h.ok ps (QaE e)
  have:=Dp (Od (lp:=k) (ps:=ps)) ps.length
  have:=o.hi
  show ((_::up _ _)++[_]).length<=14
  rw[QaP,Qbp]
  show _+1+1<=14
  omega
def Uw (H:Hp) (pl:Addr) (loops:YU):Prop:=∃v0 v2 Ls vs,H pl=some (.tup [v0,.ref Ls,v2])/\H Ls=some (.tup vs)/\Paired (LoopAt H) vs loops
def Tn:Sp:=λvs H Q _=>∃(pl:Addr) (loops:YU),vs=[.ref pl]/\Uw H pl loops/\Ed loops/\∀l xs H',H l=none->H' l=some (.lst xs)->Paired (Mw H') xs (up (pdL loops) loops.length)->Same H H'->Q (.ref l) H'
def pK:Sp:=λvs H Q _=>∃(pl:Addr) (loops:YU),vs=[.ref pl]/\Uw H pl loops/\Ed loops/\∀l xs H',H l=none->H' l=some (.lst xs)->Paired (Cr H') xs (up (stL loops) loops.length)->Same H H'->Q (.ref l) H'
def pL:Sp:=λvs H Q _=>∃(pl:Addr) (loops:YU),vs=[.ref pl]/\Uw H pl loops/\Ed loops/\∀l xs H',H l=none->H' l=some (.lst xs)->Paired (Ds H') xs (up (gtL loops) loops.length)->Same H H'->Q (.ref l) H'
section
variable {P:Program} {w:World} {K:YD} {mg:YB} {base:Heap} {op oe:Addr}
theorem d7 (c:Code K mg "devices" Qh Gg) (T:Tx K mg op oe) (Jv:Good P w K mg base "place_devices" 1 Ef lH):Good P w K mg base "devices" 2 Gg Tn:=by
 refine c.good Hh (λvs H Q E h=>?_) (λf cdv A outer s H vs Q E hr h=>?_)
 ·obtain⟨pl,loops,rfl,_⟩:=h
  rfl
 obtain⟨pl,loops,rfl,⟨v0,v2,Ls,vs,hpl,hLs,hlo⟩,ok,q⟩:=h
 refine⟨_,(Ag (Bb (i:=1) Hh.nd rfl (Or.inl rfl) (BW Ac))
 (Ag (Bv QbA rfl (RZ rfl T.enumerate (Bq BR (pv 0) Ae (λ_ _=>rfl))) (Cw rfl (Am (Aj (i:=2) Hh.nd rfl (Or.inl rfl)) (Am (Aj (i:=3) Hh.nd rfl (Or.inl rfl)) Bo)))
 (Ai (Bv QbA rfl (Mi rfl T.enumerate (pv 3) Ae) (Cw rfl (Am (Aj (i:=4) Hh.nd rfl (Or.inl rfl)) (Am (Aj (i:=5) Hh.nd rfl (Or.inl rfl)) Bo)))
 (Ai (Bf (Cm Qap Qan Qao Ec (pv 1) (Aa (Aw Jv hr (Aa (pv 2) (Aa (pv 4) (Aa (pv 5) Ac)))) Ac)))))))
 (Ai (Ba (pv 1))))),?_⟩
 generalize hst:L2.start _ _=σ0
 have e0:σ0=[some (.ref pl),none,none,none,none,none]:=hst.symm
 clear hst
 subst e0
 refine⟨Av (by show 0<=1000;decide),λl fl=>?_⟩
 simp only[QaS,QaR]
 have s1:=Af fl (.lst [])
 have lvs:=QbS hlo
 refine⟨_,rfl,pl,_,_,_,rfl,rfl,SqT.of (s1 _ _ hpl),rfl,Ls,rfl,⟨vs,SqT.of (s1 _ _ hLs)⟩,?_⟩
 refine Iz (xs:=vs) (lo:=0) (λi σ HH=>∃(ys:YG) (u2 u3 u4 u5:Option V),σ=[some (.ref pl),some (.ref l),u2,u3,u4,u5]/\Same H HH/\HH l=some (.lst ys)/\Paired (Mw HH) ys (up (pdL loops) i)) ⟨[],_,_,_,_,rfl,s1,Ab,.nil⟩ (λi σ HH _ h=>?_) (λi x pt σ HH hx h hpt=>?_) (fun σ HH h=>?_)
 ·obtain⟨ys,_,_,_,_,_,sm,_⟩:=h
  exact SqT.of (sm _ _ hLs)
 ·obtain⟨ys,u2,u3,u4,u5,rfl,sm,hy,py⟩:=h
  obtain⟨ps,hps,hL⟩:=Paired.Cq hlo hx
  obtain⟨t,ws,rfl,ht,hws⟩:=id hL
  have okl:=ok.ok ps (QaE hps)
  have ek:pdL loops i=up (pd1 i ps) ps.length:=Dh hps
  have lws:=QbS hws
  have t0:=Af hpt (.tup [.int ((0+i:Nat):Int),.ref t])
  refine⟨pt,_,rfl,SqT.of Ab,rfl,_,_,rfl,_,_,rfl,rfl,?_⟩
  have sm0:=sm.trans t0
  have hy0:=t0 _ _ hy
  have py0:=Paired.Az py λ_ _ (z:Mw HH _ _)=>z.tups (Ao.of t0)
  generalize upd HH pt (.tup [.int ((0+i:Nat):Int),.ref t])=HA at sm0 hy0 py0
  simp only[QaS,QaR,Nat.zero_add]
  have hil:=(Qag.mp hps).1
  have lu:=Dp (bM ok) i
  have hhi:=ok.hi
  refine⟨_,rfl,t,rfl,⟨ws,SqT.of (sm0 _ _ ht)⟩,?_⟩
  refine Iz (xs:=ws) (lo:=1) (λj σ HJ=>∃(ys:YG) (u4 u5:Option V),σ=[some (.ref pl),some (.ref l),some (.int (i:Int)),some (.ref t),u4,u5]/\Same H HJ/\HJ l=some (.lst ys)/\Paired (Mw HJ) ys (up (pdL loops) i++up (pd1 i ps) j)) ⟨ys,_,_,rfl,sm0,hy0,by rw[Ld,QbC];exact py0⟩ (λj σ HJ _ h=>?_) (λj x pt σ HJ hx h hpt=>?_) (fun σ HJ h=>?_)
  ·obtain⟨ys,_,_,_,sj,_⟩:=h
   exact SqT.of (sj _ _ ht)
  ·obtain⟨ys,u4,u5,rfl,sj,hyj,pj⟩:=h
   obtain⟨p,hp,hP⟩:=Paired.Cq hws hx
   have okp:=okl.ok p (QaE hp)
   have ej:pd1 i ps j=BK i ((1+j:Nat):Int) p:=Dh hp
   have t1:=Af hpt (.tup [.int ((1+j:Nat):Int),x])
   refine⟨pt,_,rfl,SqT.of Ab,rfl,_,_,rfl,_,_,rfl,rfl,?_⟩
   simp only[QaS,QaR]
   have hjl:=(Qag.mp hp).1
   have lj:=Dp (bN (lp:=i) okl.ok) j
   have lys:=QbS pj
   rw[QaP] at lys
   have h12:=okl.hi
   refine⟨_,rfl,.inl ⟨rfl,_,SqL.of (t1 _ _ hyj)⟩,_,rfl,_,rfl,_,rfl,(i:Int),((1+j:Nat):Int),x,p,rfl,hP.tups (Ao.of (sj.trans t1)),okp.spur,λld xs' HB fld hld pdd sB=>?_⟩
   have t2:=t1.trans sB
   have hyB:=t2 _ _ hyj
   have lx:=QbS pdd
   have lpl:=RG (lp:=i) (a:=((1+j:Nat):Int)) okp
   refine⟨l,ld,_,_,rfl,rfl,hyB,hld,Av (by omega),?_⟩
   have n0:∀zs,HB l≠some (.tup zs):=λzs z=>by rw[hyB] at z;cases z
   have tt:=Ao.upd (o:=.lst (ys++xs')) n0
   refine⟨ys++xs',_,_,rfl,(sj.trans t2).Bj Ah.upd fl,Ab,?_⟩
   rw[Dj,ej,<-Qbf]
   exact Paired.app (Paired.Az pj λ_ _ z=>(z.tups (Ao.of t2)).tups tt) (Paired.Az pdd λ_ _ z=>z.tups tt)
  ·obtain⟨ys,u4,u5,rfl,sj,hyj,pj⟩:=h
   exact⟨ys,_,_,_,_,rfl,sj,hyj,by rw[Dj,ek,<-lws];exact pj⟩
 ·obtain⟨ys,u2,u3,u4,u5,rfl,sm,hy,py⟩:=h
  rw[lvs] at py
  exact⟨_,rfl,q l ys HH fl hy py sm⟩
theorem Yq (c:Code K mg "stretches" Ka Hw) (T:Tx K mg op oe):Good P w K mg base "stretches" 1 Hw pK:=by
 refine c.good DY (λvs H Q E h=>?_) (λf cdv A outer s H vs Q E hr h=>?_)
 ·obtain⟨pl,loops,rfl,_⟩:=h
  rfl
 obtain⟨pl,loops,rfl,⟨v0,v2,Ls,vs,hpl,hLs,hlo⟩,ok,q⟩:=h
 refine⟨_,(Ag (Bb (i:=1) DY.nd rfl (Or.inl rfl) (BW Ac))
 (Ag (Bv QbA rfl (RZ rfl T.enumerate (Bq BR (pv 0) Ae (λ_ _=>rfl))) (Cw rfl (Am (Aj (i:=2) DY.nd rfl (Or.inr rfl)) (Am (Aj (i:=3) DY.nd rfl (Or.inl rfl)) Bo)))
 (Ag (Bf (Cm Qap Qal Qam Cd (pv 1) (Aa (Bh (Aa (pv 2) (Aa Ae (Aa Ae Ac)))) Ac)))
 (Ai (Bv QbA rfl (Mi rfl T.enumerate (pv 3) Ae) (Cw rfl (Am (Aj (i:=4) DY.nd rfl (Or.inr rfl)) (Am (Cw rfl (Am (Aj (i:=5) DY.nd rfl (Or.inl rfl)) (Am (Aj (i:=6) DY.nd rfl (Or.inl rfl)) (Am (Aj (i:=7) DY.nd rfl (Or.inl rfl)) Bo)))) Bo)))
 (Ai (Bf (Cm Qap Qan Qao Ec (pv 1) (Aa (BP (N':=["number","loop","at"]) rfl (Bg.of (src:=[none,some 2,some 4]) (Ak Ka) ["plan","told","loop","places","at","kind","address","spur"] rfl rfl rfl (by trivial) (by trivial) (by trivial) rfl (by trivial)) (Ca rfl T.range (Aa (Bc BX (Ax Bd rfl T.len Cu (Aa (pv 7) Ac)) Ae) Ac)) (λ_ _ _ _=>(Aj (i:=0) (show List.Nodup (["number","loop","at"]:YF) by trivial) rfl (Or.inl rfl))) (λ_ _ _ _=>Cy) (λ_ _ _ _=>(Bh (Aa (pv 1) (Aa (pv 2) (Aa (pv 0) Ac)))))) Ac))))))))
 (Ai (Ba (pv 1))))),?_⟩
 generalize hst:L2.start _ _=σ0
 have e0:σ0=[some (.ref pl),none,none,none,none,none,none,none]:=hst.symm
 clear hst
 subst e0
 refine⟨Av (by show 0<=1000;decide),λl fl=>?_⟩
 simp only[QaS,QaR]
 have s1:=Af fl (.lst [])
 have lvs:=QbS hlo
 refine⟨_,rfl,pl,_,_,_,rfl,rfl,SqT.of (s1 _ _ hpl),rfl,Ls,rfl,⟨vs,SqT.of (s1 _ _ hLs)⟩,?_⟩
 refine Iz (xs:=vs) (lo:=0) (λi σ HH=>∃(ys:YG) (u2 u3 u4 u5 u6 u7:Option V),σ=[some (.ref pl),some (.ref l),u2,u3,u4,u5,u6,u7]/\Same H HH/\HH l=some (.lst ys)/\Paired (Cr HH) ys (up (stL loops) i)) ⟨[],_,_,_,_,_,_,rfl,s1,Ab,.nil⟩ (λi σ HH _ h=>?_) (λi x pt σ HH hx h hpt=>?_) (fun σ HH h=>?_)
 ·obtain⟨ys,_,_,_,_,_,_,_,sm,_⟩:=h
  exact SqT.of (sm _ _ hLs)
 ·obtain⟨ys,u2,u3,u4,u5,u6,u7,rfl,sm,hy,py⟩:=h
  obtain⟨ps,hps,hL⟩:=Paired.Cq hlo hx
  obtain⟨t,ws,rfl,ht,hws⟩:=id hL
  have okl:=ok.ok ps (QaE hps)
  have ek:stL loops i=⟨i,0,0⟩::up (st1 i ps) ps.length:=Dh hps
  have lws:=QbS hws
  have t0:=Af hpt (.tup [.int ((0+i:Nat):Int),.ref t])
  refine⟨pt,_,rfl,SqT.of Ab,rfl,_,_,rfl,_,_,rfl,rfl,?_⟩
  have sm0:=sm.trans t0
  have hy0:=t0 _ _ hy
  have py0:=Paired.Az py λ_ _ (z:Cr HH _ _)=>z.tups (Ao.of t0)
  generalize upd HH pt (.tup [.int ((0+i:Nat):Int),.ref t])=HA at sm0 hy0 py0
  simp only[QaS,QaR,Nat.zero_add]
  have hil:=(Qag.mp hps).1
  have lu:=Dp (UW ok) i
  have hhi:=ok.hi
  have ly0:=QbS py0
  refine⟨_,rfl,.inl ⟨rfl,_,SqL.of hy0⟩,_,rfl,Av (by show 3<=1000;decide),λtz htz=>?_⟩
  have t3:=Af htz (.tup [.int (i:Int),.int 0,.int 0])
  refine⟨l,_,_,rfl,rfl,t3 _ _ hy0,Aq (by omega),?_⟩
  have n0:∀zs,(upd HA tz (.tup [.int (i:Int),.int 0,.int 0])) l≠some (.tup zs):=λzs z=>by rw[t3 _ _ hy0] at z;cases z
  have tt:=Ao.upd (o:=.lst (ys++[.ref tz])) n0
  have sm1:Same H (upd (upd HA tz (.tup [.int (i:Int),.int 0,.int 0])) l (.lst (ys++[.ref tz]))):=(sm0.trans t3).Bj Ah.upd fl
  have py1:Paired (Cr _) (ys++[.ref tz]) (up (stL loops) i++[⟨(i:Int),0,0⟩]):=Qcm ⟨tz,rfl,tt _ _ Ab⟩ (Paired.Az py0 λ_ _ z=>(z.tups (Ao.of t3)).tups tt)
  have hy1:(upd (upd HA tz (.tup [.int (i:Int),.int 0,.int 0])) l (.lst (ys++[.ref tz]))) l=some (.lst (ys++[.ref tz])):=Ab
  generalize upd (upd HA tz (.tup [.int (i:Int),.int 0,.int 0])) l (.lst (ys++[.ref tz]))=HB at sm1 py1 hy1
  generalize ys++[.ref tz]=ys1 at py1 hy1
  refine⟨_,rfl,t,rfl,⟨ws,SqT.of (sm1 _ _ ht)⟩,?_⟩
  refine Iz (xs:=ws) (lo:=1) (λj σ HJ=>∃(ys:YG) (u4 u5 u6 u7:Option V),σ=[some (.ref pl),some (.ref l),some (.int (i:Int)),some (.ref t),u4,u5,u6,u7]/\Same H HJ/\HJ l=some (.lst ys)/\Paired (Cr HJ) ys (up (stL loops) i++⟨(i:Int),0,0⟩::up (st1 i ps) j)) ⟨ys1,_,_,_,_,rfl,sm1,hy1,by rw[Ld];exact py1⟩ (λj σ HJ _ h=>?_) (λj x pt σ HJ hx h hpt=>?_) (fun σ HJ h=>?_)
  ·obtain⟨ys,_,_,_,_,_,sj,_⟩:=h
   exact SqT.of (sj _ _ ht)
  ·obtain⟨ys,u4,u5,u6,u7,rfl,sj,hyj,pj⟩:=h
   obtain⟨p,hp,hP⟩:=Paired.Cq hws hx
   have okp:=okl.ok p (QaE hp)
   have ej:st1 i ps j=(List.range (p.spur.length+1)).map λn:Nat=>⟨(i:Int),((1+j:Nat):Int),(n:Int)⟩:=Dh hp
   have t1:=Af hpt (.tup [.int ((1+j:Nat):Int),x])
   obtain⟨tp,ua,wp',rfl,hp1,hp2,hp3⟩:=hP.tups (Ao.of (sj.trans t1))
   refine⟨pt,_,rfl,SqT.of Ab,rfl,_,_,rfl,_,_,rfl,tp,_,rfl,SqT.of hp1,rfl,_,_,rfl,_,_,rfl,_,_,rfl,rfl,rfl,?_⟩
   simp only[QaS,QaR]
   have hjl:=(Qag.mp hp).1
   have lj:=Dp (U3 (lp:=i) okl.ok) j
   have lys:=QbS pj
   rw[QaP,Qbp] at lys
   have h12:=okl.hi
   have lwp:=QbS hp3
   have hsp:=okp.spur
   refine⟨_,rfl,.inl ⟨rfl,_,SqL.of (t1 _ _ hyj)⟩,_,rfl,ua,_,rfl,.inr (SqT.of hp2),_,_,rfl,rfl,_,rfl,by omega,by omega,λl2 hl2=>?_⟩
   rw[show ((wp'.length:Int)+1).toNat=p.spur.length+1 by omega]
   have sjt:=sj.trans t1
   have hyt:=t1 _ _ hyj
   have pjt:=Paired.Az pj λ_ _ (z:Cr HJ _ _)=>z.tups (Ao.of t1)
   generalize upd HJ pt (.tup [.int ((1+j:Nat):Int),.ref tp])=HT at sjt hyt pjt hl2
   refine Jx (λk σ HC=>∃(u:Option V) (zs:YG),σ=[u,some (.int (i:Int)),some (.int ((1+j:Nat):Int))]/\HC l2=some (.lst zs)/\Same HT HC/\Paired (Cr HC) zs ((List.range k).map λn:Nat=>⟨(i:Int),((1+j:Nat):Int),(n:Int)⟩)) ⟨none,[],rfl,Ab,Af hl2 _,.nil⟩ (λk σ HC hk h=>?_) (fun σ HC h=>?_)
   ·obtain⟨u,zs,rfl,c1,c2,c3⟩:=h
    refine⟨_,rfl,_,rfl,_,rfl,Av (by show 3<=1000;decide),λtq htq=>?_⟩
    have s3:=Af htq (.tup [.int (i:Int),.int ((1+j:Nat):Int),.int (0+(k:Int))])
    have c1':=s3 _ _ c1
    have lz:=QbS c3
    rw[Qbx,Qbm] at lz
    have n1:∀zs',(upd HC tq (.tup [.int (i:Int),.int ((1+j:Nat):Int),.int (0+(k:Int))])) l2≠some (.tup zs'):=λzs' z=>by rw[c1'] at z;cases z
    have t4:=Ao.upd (o:=.lst (zs++[.ref tq])) n1
    refine⟨_,c1',Aq (by omega),_,zs++[.ref tq],rfl,Ab,(c2.trans s3).Bj Ah.upd hl2,?_⟩
    rw[List.range_succ,Qby]
    refine Qcm ⟨tq,rfl,?_⟩ (Paired.Az c3 λ_ _ z=>(z.tups (Ao.of s3)).tups t4)
    refine t4 _ _ ?_
    rw[Ab,Qch]
   obtain⟨u,zs,rfl,c1,c2,c3⟩:=h
   have lz:=QbS c3
   rw[Qbx,Qbm] at lz
   have hyC:=c2 _ _ hyt
   refine⟨l,l2,_,_,rfl,rfl,hyC,c1,Av (by omega),?_⟩
   have n2:∀zs',HC l≠some (.tup zs'):=λzs' z=>by rw[hyC] at z;cases z
   have t5:=Ao.upd (o:=.lst (ys++zs)) n2
   refine⟨ys++zs,_,_,_,_,rfl,(sjt.trans c2).Bj Ah.upd fl,Ab,?_⟩
   rw[Dj,ej,show ∀(a:YV) (x:Sp3) (b c:YV),a++x::(b++c)=(a++x::b)++c from λa x b c=>by simp]
   exact Paired.app (Paired.Az pjt λ_ _ z=>(z.tups (Ao.of c2)).tups t5) (Paired.Az c3 λ_ _ z=>z.tups t5)
  ·obtain⟨ys,u4,u5,u6,u7,rfl,sj,hyj,pj⟩:=h
   exact⟨ys,_,_,_,_,_,_,rfl,sj,hyj,by rw[Dj,ek,<-lws];exact pj⟩
 ·obtain⟨ys,u2,u3,u4,u5,u6,u7,rfl,sm,hy,py⟩:=h
  rw[lvs] at py
  exact⟨_,rfl,q l ys HH fl hy py sm⟩
theorem dR (c:Code K mg "openers" MF Kp) (T:Tx K mg op oe):Good P w K mg base "openers" 1 Kp pL:=by
 refine c.good K6 (λvs H Q E h=>?_) (λf cdv A outer s H vs Q E hr h=>?_)
 ·obtain⟨pl,loops,rfl,_⟩:=h
  rfl
 obtain⟨pl,loops,rfl,⟨v0,v2,Ls,vs,hpl,hLs,hlo⟩,ok,q⟩:=h
 refine⟨_,(Ag (Bb (i:=1) K6.nd rfl (Or.inl rfl) (BW Ac))
 (Ag (Bv QbA rfl (RZ rfl T.enumerate (Bq BR (pv 0) Ae (λ_ _=>rfl))) (Cw rfl (Am (Aj (i:=2) K6.nd rfl (Or.inr rfl)) (Am (Aj (i:=3) K6.nd rfl (Or.inl rfl)) Bo)))
 (Ag (Bf (Cm Qap Qal Qam Cd (pv 1) (Aa (Bh (Aa (pv 2) (Aa Ae Ac))) Ac)))
 (Ag (Bf (Cm Qap Qan Qao Ec (pv 1) (Aa (BP (N':=["at","place","loop"]) rfl (Bg.of (src:=[none,none,some 2]) (Ak MF) ["plan","told","loop","places"] rfl rfl rfl (by trivial) (by trivial) (by trivial) rfl (by trivial)) (Mi rfl T.enumerate (pv 3) Ae) (λ_ _ _ _=>(FT (K:=K) (n:=2) rfl rfl (Am (Aj (i:=0) (show List.Nodup (["at","place","loop"]:YF) by trivial) rfl (Or.inl rfl)) (Am (Aj (i:=1) (show List.Nodup (["at","place","loop"]:YF) by trivial) rfl (Or.inl rfl)) Bo)))) (λ_ _ _ _=>(G6 (Bt (iU (K:=K) rfl hr.units) (pv 1) (Qo rfl T.OPENER) (BJ _)))) (λ_ _ _ _=>(Bh (Aa (pv 2) (Aa (pv 0) Ac))))) Ac)))
 (Ai (Bf (Cm Qap Qal Qam Cd (pv 1) (Aa (Bh (Aa (pv 2) (Aa (Bc BX (Ax Bd rfl T.len Cu (Aa (pv 3) Ac)) Ae) Ac))) Ac)))))))
 (Ai (Ba (pv 1))))),?_⟩
 generalize hst:L2.start _ _=σ0
 have e0:σ0=[some (.ref pl),none,none,none]:=hst.symm
 clear hst
 subst e0
 refine⟨Av (by show 0<=1000;decide),λl fl=>?_⟩
 simp only[QaS,QaR]
 have s1:=Af fl (.lst [])
 have lvs:=QbS hlo
 refine⟨_,rfl,pl,_,_,_,rfl,rfl,SqT.of (s1 _ _ hpl),rfl,Ls,rfl,⟨vs,SqT.of (s1 _ _ hLs)⟩,?_⟩
 refine Iz (xs:=vs) (lo:=0) (λi σ HH=>∃(ys:YG) (u2 u3:Option V),σ=[some (.ref pl),some (.ref l),u2,u3]/\Same H HH/\HH l=some (.lst ys)/\Paired (Ds HH) ys (up (gtL loops) i)) ⟨[],_,_,rfl,s1,Ab,.nil⟩ (λi σ HH _ h=>?_) (λi x pt σ HH hx h hpt=>?_) (fun σ HH h=>?_)
 ·obtain⟨ys,_,_,_,sm,_⟩:=h
  exact SqT.of (sm _ _ hLs)
 ·obtain⟨ys,u2,u3,rfl,sm,hy,py⟩:=h
  obtain⟨ps,hps,hL⟩:=Paired.Cq hlo hx
  obtain⟨t,ws,rfl,ht,hws⟩:=id hL
  have okl:=ok.ok ps (QaE hps)
  have ek:gtL loops i=(⟨i,0⟩::up (gt1 i ps) ps.length)++[⟨(i:Int),(ps.length:Int)+1⟩]:=Dh hps
  have lws:=QbS hws
  have t0:=Af hpt (.tup [.int ((0+i:Nat):Int),.ref t])
  refine⟨pt,_,rfl,SqT.of Ab,rfl,_,_,rfl,_,_,rfl,rfl,?_⟩
  have sm0:=sm.trans t0
  have hy0:=t0 _ _ hy
  have py0:=Paired.Az py λ_ _ (z:Ds HH _ _)=>z.tups (Ao.of t0)
  generalize upd HH pt (.tup [.int ((0+i:Nat):Int),.ref t])=HA at sm0 hy0 py0
  simp only[QaS,QaR,Nat.zero_add]
  have hil:=(Qag.mp hps).1
  have lu:=Dp (bZ ok) i
  have hhi:=ok.hi
  have ly0:=QbS py0
  refine⟨_,rfl,.inl ⟨rfl,_,SqL.of hy0⟩,_,rfl,Av (by show 2<=1000;decide),λtz htz=>?_⟩
  have t3:=Af htz (.tup [.int (i:Int),.int 0])
  refine⟨l,_,_,rfl,rfl,t3 _ _ hy0,Aq (by omega),?_⟩
  have n0:∀zs,(upd HA tz (.tup [.int (i:Int),.int 0])) l≠some (.tup zs):=λzs z=>by rw[t3 _ _ hy0] at z;cases z
  have tt:=Ao.upd (o:=.lst (ys++[.ref tz])) n0
  have sm1:Same H (upd (upd HA tz (.tup [.int (i:Int),.int 0])) l (.lst (ys++[.ref tz]))):=(sm0.trans t3).Bj Ah.upd fl
  have py1:Paired (Ds _) (ys++[.ref tz]) (up (gtL loops) i++[⟨(i:Int),0⟩]):=Qcm ⟨tz,rfl,tt _ _ Ab⟩ (Paired.Az py0 λ_ _ z=>(z.tups (Ao.of t3)).tups tt)
  have hy1:(upd (upd HA tz (.tup [.int (i:Int),.int 0])) l (.lst (ys++[.ref tz]))) l=some (.lst (ys++[.ref tz])):=Ab
  generalize upd (upd HA tz (.tup [.int (i:Int),.int 0])) l (.lst (ys++[.ref tz]))=HB at sm1 py1 hy1
  generalize ys++[.ref tz]=ys1 at py1 hy1
  have ly1:=QbS py1
  rw[QaP] at ly1
  have ly1:ys1.length<=14*i+1:=by rw[ly1];show _+1<=_;omega
  refine⟨_,rfl,.inl ⟨rfl,_,SqL.of hy1⟩,_,rfl,t,rfl,⟨ws,SqT.of (sm1 _ _ ht)⟩,λl2 hl2=>?_⟩
  refine jV (xs:=ws) (lo:=1) (λk σ HC=>∃(u v:Option V) (zs:YG),σ=[u,v,some (.int (i:Int))]/\HC l2=some (.lst zs)/\Same HB HC/\Paired (Ds HC) zs (up (gt1 i ps) k)) ⟨none,none,[],rfl,Ab,Af hl2 _,.nil⟩ (λk σ HC _ h=>?_) (λk x pt σ HC hx h hpt=>?_) (fun σ HC h=>?_)
  ·obtain⟨_,_,zs,_,_,sc,_⟩:=h
   exact SqT.of (sc _ _ (sm1 _ _ ht))
  ·obtain⟨u,v,zs,rfl,c1,c2,c3⟩:=h
   obtain⟨p,hp,hP⟩:=Paired.Cq hws hx
   have okp:=okl.ok p (QaE hp)
   have ej:gt1 i ps k=if V.str p.kind=V.str "opener" then [⟨(i:Int),((1+k:Nat):Int)⟩] else []:=Dh hp
   have hkl:=(Qag.mp hp).1
   have h12:=okl.hi
   have lk:=Dp (Od (lp:=i) (ps:=ps)) k
   have lz:=QbS c3
   have t1:=Af hpt (.tup [.int ((1+k:Nat):Int),x])
   have hpa:=hP.tups (Ao.of ((sm1.trans c2).trans t1))
   refine⟨pt,_,rfl,SqT.of Ab,rfl,_,_,rfl,_,_,rfl,rfl,?_⟩
   refine⟨_,rfl,Mg p,opD,hpa.rep,.tup (T.opT _) (.cons (.str _) (.cons (.int _) (.cons (.tup (T.opE _) .nil) .nil))),Qn okp,(by trivial),_,rfl,?_⟩
   rw[VP okp]
   by_cases ck:V.str p.kind=V.str "opener"
   ·rw[QbN ck]
    rw[if_pos ck] at ej
    refine BZ ⟨_,rfl,_,rfl,Av (by show 2<=1000;decide),λtq htq=>?_⟩
    have s3:=Af htq (.tup [.int (i:Int),.int ((1+k:Nat):Int)])
    have t13:=t1.trans s3
    have c1':=t13 _ _ c1
    have n1:∀zs',(upd (upd HC pt (.tup [.int ((1+k:Nat):Int),x])) tq (.tup [.int (i:Int),.int ((1+k:Nat):Int)])) l2≠some (.tup zs'):=λzs' z=>by rw[c1'] at z;cases z
    have t4:=Ao.upd (o:=.lst (zs++[.ref tq])) n1
    refine⟨_,c1',Aq (by omega),_,_,zs++[.ref tq],rfl,Ab,(c2.trans t13).Bj Ah.upd hl2,?_⟩
    rw[Dj,ej]
    exact Qcm ⟨tq,rfl,t4 _ _ Ab⟩ (Paired.Az c3 λ_ _ z=>(z.tups (Ao.of t13)).tups t4)
   ·rw[QbB ck]
    rw[if_neg ck] at ej
    refine Cp ⟨_,_,zs,rfl,t1 _ _ c1,c2.trans t1,?_⟩
    rw[Dj,ej,QbC]
    exact Paired.Az c3 λ_ _ z=>z.tups (Ao.of t1)
  obtain⟨u,v,zs,rfl,c1,c2,c3⟩:=h
  have lz:=QbS c3
  have lk:=Dp (Od (lp:=i) (ps:=ps)) ws.length
  have h12:=okl.hi
  have hyC:=c2 _ _ hy1
  refine⟨l,l2,_,_,rfl,rfl,hyC,c1,Av (by omega),?_⟩
  have n2:∀zs',HC l≠some (.tup zs'):=λzs' z=>by rw[hyC] at z;cases z
  have t5:=Ao.upd (o:=.lst (ys1++zs)) n2
  have sm2:Same H (upd HC l (.lst (ys1++zs))):=(sm1.trans c2).Bj Ah.upd fl
  have py2:Paired (Ds _) (ys1++zs) ((up (gtL loops) i++[⟨(i:Int),0⟩])++up (gt1 i ps) ws.length):=Paired.app (Paired.Az py1 λ_ _ z=>(z.tups (Ao.of c2)).tups t5) (Paired.Az c3 λ_ _ z=>z.tups t5)
  have hy2:(upd HC l (.lst (ys1++zs))) l=some (.lst (ys1++zs)):=Ab
  have ly2:(ys1++zs).length<=100:=by rw[QaP];omega
  generalize upd HC l (.lst (ys1++zs))=HD at sm2 py2 hy2
  generalize ys1++zs=ys2 at py2 hy2 ly2
  refine⟨_,rfl,.inl ⟨rfl,_,SqL.of hy2⟩,_,rfl,_,rfl,t,_,rfl,.inr (SqT.of (sm2 _ _ ht)),_,_,rfl,rfl,Av (by show 2<=1000;decide),λte hte=>?_⟩
  have t6:=Af hte (.tup [.int (i:Int),.int ((ws.length:Int)+1)])
  have hy3:=t6 _ _ hy2
  refine⟨l,_,_,rfl,rfl,hy3,Aq (by omega),?_⟩
  have n3:∀zs',(upd HD te (.tup [.int (i:Int),.int ((ws.length:Int)+1)])) l≠some (.tup zs'):=λzs' z=>by rw[hy3] at z;cases z
  have t7:=Ao.upd (o:=.lst (ys2++[.ref te])) n3
  refine⟨ys2++[.ref te],_,_,rfl,(sm2.trans t6).Bj Ah.upd fl,Ab,?_⟩
  rw[Dj,ek,<-lws,show ∀(a:List Gt) (x:Gt) (b c:List Gt),a++(x::b++c)=(a++[x]++b)++c from λa x b c=>by simp]
  exact Qcm ⟨te,rfl,t7 _ _ Ab⟩ (Paired.Az py2 λ_ _ z=>(z.tups (Ao.of t6)).tups t7)
 ·obtain⟨ys,u2,u3,rfl,sm,hy,py⟩:=h
  rw[lvs] at py
  exact⟨_,rfl,q l ys HH fl hy py sm⟩
end
abbrev U9:Stmt:=top 32
abbrev Ob:YF:=["plan","loop"]
theorem Oq:Ay ["plan","loop","told","at","place"] Ob (Ak U9):=⟨rfl,rfl,rfl,by trivial,rfl,by trivial,by trivial⟩
def stP (lp:Int) (ps:List Place):Nat->List (YV)×YV
 | 0=>([],[])
 | i+1=>match ps[i]? with
  | none=>stP lp ps i
  | some p=>if V.str p.kind=V.str "opener" then ((stP lp ps i).1++[(stP lp ps i).2],[]) else ((stP lp ps i).1,(stP lp ps i).2++(BK lp ((1+i:Nat):Int) p).map Sd.spot)
theorem Tg {lp:Int} {ps:List Place} {i:Nat} {p:Place} (h:ps[i]?=some p) (k:V.str p.kind=V.str "opener"):stP lp ps (i+1)=((stP lp ps i).1++[(stP lp ps i).2],[]):=by
 show (match ps[i]? with | none=>stP lp ps i | some p=>if V.str p.kind=V.str "opener" then ((stP lp ps i).1++[(stP lp ps i).2],[]) else ((stP lp ps i).1,(stP lp ps i).2++(BK lp ((1+i:Nat):Int) p).map Sd.spot))=_
 rw[h]
 exact if_pos k
theorem QW {lp:Int} {ps:List Place} {i:Nat} {p:Place} (h:ps[i]?=some p) (k:¬V.str p.kind=V.str "opener"):stP lp ps (i+1)=((stP lp ps i).1,(stP lp ps i).2++(BK lp ((1+i:Nat):Int) p).map Sd.spot):=by
 show (match ps[i]? with | none=>stP lp ps i | some p=>if V.str p.kind=V.str "opener" then ((stP lp ps i).1++[(stP lp ps i).2],[]) else ((stP lp ps i).1,(stP lp ps i).2++(BK lp ((1+i:Nat):Int) p).map Sd.spot))=_
 rw[h]
 exact if_neg k
theorem Nv {α β : Type} {F G:α->β->Prop}:∀{l₁ : List α} {l₂ : List β},Paired F l₁ l₂->(∀a∈l₁,∀b,F a b->G a b)->Paired G l₁ l₂
 | _,_,.nil,_=>.nil
 | _,_,.cons r t,f=>.cons (f _ QaQ _ r) (Nv t λa ha b=>f a (QaF _ ha) b)
theorem TQ {α β : Type} {F:α->β->Prop}:∀{l₁ : List α} {l₂ : List β} {a:α},Paired F l₁ l₂->a∈l₁->∃b,F a b
 | _,_,_,.nil,h=>by cases h
 | _,_,_,.cons r t,h=>by
  rcases QbT.mp h with rfl | h
  ·exact⟨_,r⟩
  ·exact TQ t h
theorem Pj {α β : Type} {F:α->β->Prop}:∀{a₁ b₁ : List α} {a₂ b₂ : List β},Paired F a₁ a₂->Paired F b₁ b₂->Paired F (a₁++b₁) (a₂++b₂)
 | _,_,_,_,.nil,t=>t
 | _,_,_,_,.cons r s,t=>.cons r (Pj s t)
def KR (H:Hp) (v:V) (sp:YV):Prop:=∃q ys,v=.ref q/\H q=some (.lst ys)/\Paired (Cr H) ys sp
def bw:Sp:=λvs H Q _=>∃(pl Ls t:Addr) (v0 v2:V) (ls ws:YG) (k:Nat) (ps:List Place),vs=[.ref pl,.int (k:Int)]/\H pl=some (.tup [v0,.ref Ls,v2])/\H Ls=some (.tup ls)/\ls[k]?=some (.ref t)/\H t=some (.tup ws)/\Paired (Dv H) ws ps/\(∀p∈ps,OkP p)/\ps.length<=12 /\
 ∀l xs H',H l=none->H' l=some (.lst xs)->Paired (KR H') xs ((stP k ps ps.length).1++[(stP k ps ps.length).2])->(∀x∈xs,∃q,x=.ref q/\H q=none/\q≠l)->Same H H'->Q (.ref l) H'
section
variable {P:Program} {w:World} {K:YD} {mg:YB} {base:Heap} {op oe:Addr}
theorem nC (c:Code K mg "parts" U9 Ob) (T:Tx K mg op oe) (Jv:Good P w K mg base "place_devices" 1 Ef lH):Good P w K mg base "parts" 2 Ob bw:=by
 refine c.good Oq (λvs H Q E h=>?_) (λf cdv A outer s H vs Q E hr h=>?_)
 ·obtain⟨pl,Ls,t,v0,v2,ls,ws,k,ps,rfl,_⟩:=h
  rfl
 obtain⟨pl,Ls,t,v0,v2,ls,ws,k,ps,rfl,hpl,hLs,hk,ht,hps,hok,h12,q⟩:=h
 refine⟨_,(Ag (Bb (i:=2) Oq.nd rfl (Or.inl rfl) (BW (Aa (BW Ac) Ac)))
 (Ag (Bv QbA rfl (Mi rfl T.enumerate (Bq BR (Bq BR (pv 0) Ae (λ_ _=>rfl)) (pv 1) (λ_ _=>rfl)) Ae) (Cw rfl (Am (Aj (i:=3) Oq.nd rfl (Or.inl rfl)) (Am (Aj (i:=4) Oq.nd rfl (Or.inl rfl)) Bo)))
 (Ai (Ck (Bt (iU (K:=K) rfl hr.units) (pv 4) (Qo rfl T.OPENER) (BJ _)) (Ai (Bf (Cm Qap Qal Qam Cd (pv 2) (Aa (BW Ac) Ac)))) (Ai (Bf (Cm Qap Qan Qao Ec (Bq DP (pv 2) (TF PJ Ae) (λ_ _=>rfl)) (Aa (BP (N':=["spot","kind","address"]) rfl (Bg.plain rfl (by trivial) (by trivial) (by trivial)) (DN (Aw Jv hr (Aa (pv 1) (Aa (pv 3) (Aa (pv 4) Ac))))) (λ_ _ _ _=>(FT (K:=K) (n:=3) rfl rfl (Am (Aj (i:=0) (show List.Nodup (["spot","kind","address"]:YF) by trivial) rfl (Or.inl rfl)) (Am (Aj (i:=1) (show List.Nodup (["spot","kind","address"]:YF) by trivial) rfl (Or.inl rfl)) (Am (Aj (i:=2) (show List.Nodup (["spot","kind","address"]:YF) by trivial) rfl (Or.inl rfl)) Bo))))) (λ_ _ _ _=>Cy) (λ_ _ _ _=>(pv 0))) Ac)))))))
 (Ai (Ba (pv 2))))),?_⟩
 generalize hst:L2.start _ _=σ0
 have e0:σ0=[some (.ref pl),some (.int (k:Int)),none,none,none]:=hst.symm
 clear hst
 subst e0
 refine⟨(by show 0<=sizeLine;decide),λq0 hq0=>⟨(by show 1<=sizeLine;decide),λl hl=>?_⟩⟩
 have s1:=Af hq0 (.lst [])
 have s2:=Af hl (.lst [.ref q0])
 have sm:=s1.trans s2
 have hl0:=s1.free hl
 have el:_=some (HO.lst [.ref q0]):=Ab (H:=upd H q0 (.lst [])) (a:=l) (o:=.lst [.ref q0])
 have eq0:_=some (HO.lst []):=s2 _ _ (Ab (H:=H) (a:=q0) (o:=.lst []))
 have nq:q0≠l:=Ar (Ab (H:=H) (a:=q0) (o:=.lst [])) hl
 generalize hX:upd (upd H q0 (.lst [])) l (.lst [.ref q0])=H1 at sm el eq0
 simp only[QaS,QaR]
 have A1:ws.length=ps.length:=QbS hps
 refine⟨_,rfl,pl,_,_,_,rfl,rfl,SqT.of (sm _ _ hpl),rfl,_,rfl,Ls,_,_,_,rfl,rfl,SqT.of (sm _ _ hLs),Ge hk,t,rfl,⟨ws,SqT.of (sm _ _ ht)⟩,?_⟩
 refine Iz (xs:=ws) (lo:=1) (λi σ HH=>∃qs ql u3 u4,σ=[some (.ref pl),some (.int (k:Int)),some (.ref l),u3,u4]/\Same H HH/\HH l=some (.lst (qs++[.ref ql]))/\Paired (KR HH) qs (stP k ps i).1/\KR HH (.ref ql) (stP k ps i).2 /\
   (∀x∈qs,∃q,x=.ref q/\H q=none/\q≠l/\q≠ql)/\H ql=none/\ql≠l/\qs.length<=i/\(stP k ps i).2.length<=4*i)
  ⟨[],q0,_,_,rfl,sm,el,.nil,⟨q0,[],rfl,eq0,.nil⟩,λx hx=>(by cases hx),hq0,nq,Qck _,Qck _⟩ (λi σ HH _ h=>?_) (λi x pt σ HH hx h hpt=>?_) (fun σ HH h=>?_)
 ·obtain⟨qs,ql,_,_,_,sb,_⟩:=h
  exact SqT.of (sb _ _ ht)
 ·obtain⟨qs,ql,u3,u4,rfl,sb,hy,pd,pc,fq,fl,nl,lq,lc⟩:=h
  obtain⟨p,hpi,hpa⟩:=Paired.Cq hps hx
  have okp:=hok p (QaE hpi)
  have hpa:=hpa.tups (Ao.of sb)
  have t0:=Af hpt (.tup [.int ((1+i:Nat):Int),x])
  have oG:=hpa.tups (Ao.of t0)
  have il:i < ps.length:=(Qag.mp hpi).1
  have sb0:=sb.trans t0
  have hy0:=t0 _ _ hy
  have pd0:=Paired.Az pd λ_ _ (z:KR HH _ _)=>(show KR (upd HH pt (.tup [.int ((1+i:Nat):Int),x])) _ _ from let ⟨a,ys,e1,e2,e3⟩:=z;⟨a,ys,e1,t0 _ _ e2,Paired.Az e3 λ_ _ y=>y.tups (Ao.of t0)⟩)
  have pc0:KR (upd HH pt (.tup [.int ((1+i:Nat):Int),x])) (.ref ql) (stP k ps i).2:=let ⟨a,ys,e1,e2,e3⟩:=pc;⟨a,ys,e1,t0 _ _ e2,Paired.Az e3 λ_ _ y=>y.tups (Ao.of t0)⟩
  refine⟨pt,_,rfl,SqT.of Ab,rfl,_,_,rfl,_,_,rfl,rfl,?_⟩
  generalize upd HH pt (.tup [.int ((1+i:Nat):Int),x])=HA at oG sb0 hy0 pd0 pc0
  simp only[QaS,QaR]
  refine⟨_,rfl,Mg p,opD,oG.rep,.tup (T.opT HA) (.cons (.str _) (.cons (.int _) (.cons (.tup (T.opE HA) .nil) .nil))),Qn okp,(by trivial),_,rfl,?_⟩
  rw[VP okp]
  by_cases ck:V.str p.kind=V.str "opener"
  ·rw[QbN ck]
   refine BZ ⟨_,rfl,.inl ⟨rfl,_,SqL.of hy0⟩,(by show 0<=sizeLine;decide),λqn hqn=>?_⟩
   have t1:=Af hqn (.lst [])
   refine⟨l,_,_,rfl,rfl,t1 _ _ hy0,Aq (by rw[QaP];simp only[QaB];omega),?_⟩
   have nln:l≠qn:=Ar hy0 hqn
   have sS:Ah l HA (upd (upd HA qn (.lst [])) l (.lst (qs++[.ref ql]++[.ref qn]))):=(Ah.of t1).trans Ah.upd
   have eqn:(upd (upd HA qn (.lst [])) l (.lst (qs++[.ref ql]++[.ref qn]))) qn=some (.lst []):=by rw[Al nln.symm,Ab]
   have ell:(upd (upd HA qn (.lst [])) l (.lst (qs++[.ref ql]++[.ref qn]))) l=some (.lst (qs++[.ref ql]++[.ref qn])):=Ab
   have nlt:∀zs,HA l≠some (.tup zs):=λzs z=>by rw[hy0] at z;cases z
   generalize upd (upd HA qn (.lst [])) l (.lst (qs++[.ref ql]++[.ref qn]))=HB at sS eqn ell
   have keep:∀v sp,KR HA v sp->v≠.ref l->KR HB v sp:=λv sp z n=>by
    obtain⟨a,ys,e1,e2,e3⟩:=z
    exact⟨a,ys,e1,sS _ _ e2 (λw=>n (by rw[e1,w])),Paired.Az e3 λ_ _ y=>y.tups (sS.tup nlt)⟩
   have fqn:=sb0.free hqn
   refine⟨qs++[.ref ql],qn,_,_,rfl,sb0.Bj sS hl0,ell,?_,⟨qn,[],rfl,eqn,?_⟩,λy hy'=>?_,fqn,nln.symm,by rw[QaP];simp only[QaB];omega,?_⟩
   ·rw[Tg hpi ck]
    refine Qcm (keep _ _ pc0 λz=>nl (by injection z)) ?_
    exact Nv pd0 λy hy' sp z=>keep _ _ z λw=>by
     obtain⟨a,e,_,n,_⟩:=fq y hy'
     rw[e] at w
     injection w with w
     exact n w
   ·rw[Tg hpi ck];exact .nil
   ·rcases Qbz.mp hy' with z | z
    ·obtain⟨a,e,f1,n1,n2⟩:=fq y z
     have hm:y∈qs:=z
     refine⟨a,e,f1,n1,λw=>?_⟩
     obtain⟨sp,Cn⟩:=TQ pd0 hm
     obtain⟨a',ys,e1,e2,_⟩:=Cn
     rw[e] at e1
     injection e1 with e1
     rw[<-e1,w,hqn] at e2
     cases e2
    ·have hz:y=.ref ql:=by simpa using z
     refine⟨ql,hz,fl,nl,λw=>?_⟩
     obtain⟨a',ys,e1,e2,_⟩:=pc0
     injection e1 with e1
     rw[<-e1,w,hqn] at e2
     cases e2
   ·rw[Tg hpi ck];exact Qcl _
  ·rw[QbB ck]
   obtain⟨a,yc,ea,eyc,pcs⟩:=id pc0
   injection ea with ea
   subst ea
   refine Cp ⟨_,rfl,_,rfl,l,_,_,_,rfl,rfl,SqL.of hy0,Zy qs (.ref ql),.inl ⟨rfl,_,SqL.of eyc⟩,?_⟩
   refine⟨_,rfl,_,rfl,_,rfl,(k:Int),((1+i:Nat):Int),x,p,rfl,oG,okp.spur,λld xs' HB fld hld pdd sB=>⟨ld,rfl,⟨xs',SqL.of hld⟩,λl2 hl2=>?_⟩⟩
   have lsd:(BK k ((1+i:Nat):Int) p).length<=4:=by
    unfold BK
    rw[if_neg ck,Qbp,K4]
    have:=okp.spur
    omega
   have lx:xs'.length<=4:=by rw[QbS pdd];exact lsd
   refine Jf (xs:=xs') (λj σ HH2=>∃u v w ys,σ=[u,v,w]/\HH2=upd HB l2 (.lst ys)/\ys.length<=j/\Paired (Cr HB) ys (((BK k ((1+i:Nat):Int) p).take j).map Sd.spot)) ⟨none,none,none,[],rfl,rfl,Qck _,.nil⟩ (λj σ HH2 _ h=>?_) (λj y σ HH2 hyj h=>?_) (fun σ HH2 h=>?_)
   ·obtain⟨u,v,w,ys,rfl,rfl,_⟩:=h
    exact SqL.of (Af hl2 _ _ _ hld)
   ·obtain⟨u,v,w,ys,rfl,rfl,lys,pys⟩:=h
    obtain⟨d,hdj,td,ud,rfl,e1,e2⟩:=Paired.Cq pdd hyj
    have jl:=(Qag.mp hyj).1
    refine⟨td,_,rfl,SqT.of (Af hl2 _ _ _ e1),rfl,_,_,rfl,_,_,rfl,_,_,rfl,rfl,_,rfl,ys,Ab,Aq (by omega),_,_,_,ys++[.ref ud],rfl,QV,by rw[QaP];simp only[QaB];omega,?_⟩
    rw[List.take_succ,hdj,Qby]
    exact Qcm ⟨ud,rfl,e2⟩ pys
   ·obtain⟨u,v,w,ys,rfl,rfl,lys,pys⟩:=h
    rw[QbS pdd,Qbo] at pys
    have t2:=Af hl2 (.lst ys)
    have s02:=sB.trans t2
    have nq2:ql≠l2:=Ar (sB _ _ eyc) hl2
    have lyc:yc.length<=4*i:=by rw[QbS pcs];exact lc
    refine⟨ql,l2,_,_,rfl,rfl,s02 _ _ eyc,Ab,Av (by omega),?_⟩
    have sS:Ah ql HA (upd (upd HB l2 (.lst ys)) ql (.lst (yc++ys))):=(Ah.of s02).trans Ah.upd
    have eql:(upd (upd HB l2 (.lst ys)) ql (.lst (yc++ys))) ql=some (.lst (yc++ys)):=Ab
    have nqt:∀zs,(upd HB l2 (.lst ys)) ql≠some (.tup zs):=λzs z=>by rw[s02 _ _ eyc] at z;cases z
    have tE:Ao HB (upd (upd HB l2 (.lst ys)) ql (.lst (yc++ys))):=(Ao.of t2).trans (Ao.upd nqt)
    have nqa:∀zs,HA ql≠some (.tup zs):=λzs z=>by rw[eyc] at z;cases z
    generalize upd (upd HB l2 (.lst ys)) ql (.lst (yc++ys))=HC at sS eql tE
    refine⟨qs,ql,_,_,rfl,sb0.Bj sS fl,sS _ _ hy0 nl.symm,?_,⟨ql,yc++ys,rfl,eql,?_⟩,fq,fl,nl,by omega,?_⟩
    ·rw[QW hpi ck]
     exact Nv pd0 λy hy' sp z=>by
      obtain⟨a',ys',e1,e2,e3⟩:=z
      obtain⟨b',f1,_,_,f4⟩:=fq y hy'
      refine⟨a',ys',e1,sS _ _ e2 (λw=>f4 ?_),Paired.Az e3 λ_ _ y=>y.tups (sS.tup nqa)⟩
      rw[e1] at f1
      injection f1 with f1
      rw[<-f1,w]
    ·rw[QW hpi ck]
     exact Pj (Paired.Az pcs λ_ _ y=>y.tups (sS.tup nqa)) (Paired.Az pys λ_ _ y=>y.tups tE)
    ·rw[QW hpi ck,QaP,Qbx]
     omega
 ·obtain⟨qs,ql,u3,u4,rfl,sb,hy,pd,pc,fq,fl,nl,_⟩:=h
  rw[A1] at pd pc
  refine⟨_,rfl,q l _ HH hl0 hy (Qcm pc pd) (λx hx=>?_) sb⟩
  rcases Qbz.mp hx with z | z
  ·obtain⟨a,e,n,m,_⟩:=fq x z
   exact⟨a,e,n,m⟩
  ·have:x=.ref ql:=by simpa using z
   exact⟨ql,this,fl,nl⟩
end
abbrev K7:Stmt:=top 8
abbrev Fq:YF:=["thing"]
theorem ZJ:Ay ["thing"] Fq (Ak K7):=⟨rfl,rfl,rfl,by trivial,rfl,by trivial,by trivial⟩
abbrev Nh:Stmt:=top 9
abbrev Et:YF:=["thing","low","high"]
theorem XH:Ay ["thing","low","high"] Et (Ak Nh):=⟨rfl,rfl,rfl,by trivial,rfl,by trivial,by trivial⟩
abbrev RT:Stmt:=top 10
abbrev Dq:YF:=["thing","least","most"]
theorem iz:Ay ["thing","least","most"] Dq (Ak RT):=⟨rfl,rfl,rfl,by trivial,rfl,by trivial,by trivial⟩
abbrev LQ:Stmt:=top 11
abbrev FZ:YF:=["thing","many"]
theorem Wq:Ay ["thing","many"] FZ (Ak LQ):=⟨rfl,rfl,rfl,by trivial,rfl,by trivial,by trivial⟩
theorem JT {b:Bool} {A B:Prop} (h1:b=true->A) (h2:b=false->B):if b=true then A else B:=by
 cases b with
 | true=>exact BZ (h1 rfl)
 | false=>exact Cp (h2 rfl)
theorem ig {I R:TS} {D:Ends} {σ : St} {H:Hp} (P:YO) (hR:∀ σ' H',P σ' H'->R D σ' H') (hI:∀D':Ends,(∀ σ' H',P σ' H'->D'.nx σ' H')->I D' σ H):lG I R D σ H:=hI { D with nx:=fun σ H=>R D σ H } hR
def iv (xs:List Int):YG:=xs.map V.int
def spW:Sp:=λvs H Q _=>∃i:Int,vs=[.int i]/\Q (.bl true) H
def Ly:Sp:=λvs H Q _=>∃x lo hi:Int,vs=[.int x,.int lo,.int hi]/\Q (.bl (decide (lo<=x/\x<=hi))) H
def uG:Sp:=λvs H Q _=>∃v,vs=[v]/\Kn H v/\Q (.bl (isW v)) H
def RV (o:Option (YG)) (a b:Int):Bool:=match o with
 | some xs=>decide (a<=xs.length)&&decide ((xs.length:Int)<=b)
 | none=>false
def GZ:Sp:=λvs H Q _=>∃v a b,vs=[v,.int a,.int b]/\Kn H v/\Q (.bl (RV (Jg H v) a b)) H
structure Th (H:Hp) (v:V):Prop where
 kn:Kn H v
 parts:∀xs,Jg H v=some xs->xs.length<=100/\∀y∈xs,Kn H y
def QT (o:Option (YG)) (n:Int):Bool:=match o with
 | some xs=>RV (some xs) n n&&xs.all isW
 | none=>false
theorem Py {xs:YG} {n:Int}:QT (some xs) n=(RV (some xs) n n&&xs.all isW):=rfl
def PN:Sp:=λvs H Q _=>∃v n,vs=[v,.int n]/\Th H v/\∀H',Same H H'->Q (.bl (QT (Jg H v) n)) H'
theorem rW {P:Program} {w:World} {K:YD} {mg:YB} {base:Heap} {x:Str} {k:Nat} {ps:YF} {sp sp':Sp} (g:Good P w K mg base x k ps sp) (h:∀vs H Q E,sp' vs H Q E->sp vs H Q E):Good P w K mg base x k ps sp':=⟨let ⟨f,fd,a,b,c,F⟩:=g.ex;⟨f,fd,a,b,c,F.imp h⟩⟩
section
variable {P:Program} {w:World} {K:YD} {mg:YB} {base:Heap}
theorem Qs (c:Code K mg "is_whole" K7 Fq) (T:Nm mg):Good P w K mg base "is_whole" 1 Fq uG:=by
 refine c.good ZJ (λvs H Q E h=>?_) (λf cdv A outer s H vs Q E hr h=>?_)
 ·obtain⟨v,rfl,_⟩:=h
  rfl
 obtain⟨v,rfl,k,q⟩:=h
 refine⟨_,(Ai (Ba (Em (Ax Pb rfl T.isinstance Il (Aa (pv 0) (Aa (Q5 (v:=.ty "int") rfl T.int j5 rfl) Ac))) (Ea (uQ (Ax Pb rfl T.isinstance Il (Aa (pv 0) (Aa (Q5 (v:=.ty "bool") rfl T.bool sI rfl) Ac)))))))),?_⟩
 refine⟨_,rfl,rK k ⟨_,rfl,?_⟩⟩
 rw[vK] at q
 cases e:isI v with
 | false=>rw[e] at q;exact Cp q
 | true=>rw[e] at q;exact BZ ⟨_,rfl,oE e ⟨_,rfl,q⟩⟩
theorem ZQ (c:Code K mg "is_whole" K7 Fq) (T:Nm mg):Good P w K mg base "is_whole" 1 Fq spW:=rW (Qs c T) λvs H Q E h=>let ⟨i,e,q⟩:=h;⟨.int i,e,True.intro,q⟩
theorem Yr (c:Code K mg "is_within" Nh Et) (T:Nm mg) (O5:Good P w K mg base "is_whole" 1 Fq spW):Good P w K mg base "is_within" 2 Et Ly:=by
 refine c.good XH (λvs H Q E h=>?_) (λf cdv A outer s H vs Q E hr h=>?_)
 ·obtain⟨x,lo,hi,rfl,_⟩:=h
  rfl
 obtain⟨x,lo,hi,rfl,q⟩:=h
 refine⟨_,(Ai (Ba (Em (Aw O5 hr (Aa (pv 0) Ac)) (Ea (Ox MP MP (pv 1) (pv 0) (pv 2)))))),?_⟩
 refine⟨_,rfl,x,rfl,_,rfl,BZ ⟨_,rfl,_,rfl,_,_,rfl,rfl,_,rfl,?_⟩⟩
 by_cases h1:lo<=x
 ·rw[QbN h1]
  refine BZ ⟨_,rfl,_,_,rfl,rfl,?_⟩
  by_cases h2:x<=hi
  ·rw[QbN ⟨h1,h2⟩] at q
   show Q (.bl (decide (x<=hi))) H
   rw[QbN h2]
   exact q
  ·rw[QbB (λz=>h2 z.2)] at q
   show Q (.bl (decide (x<=hi))) H
   rw[QbB h2]
   exact q
 ·rw[QbB (λz=>h1 z.1)] at q
  rw[QbB h1]
  exact Cp q
theorem iZ (c:Code K mg "is_row" RT Dq) (T:Nm mg):Good P w K mg base "is_row" 1 Dq GZ:=by
 refine c.good iz (λvs H Q E h=>?_) (λf cdv A outer s H vs Q E hr h=>?_)
 ·obtain⟨v,a,b,rfl,_⟩:=h
  rfl
 obtain⟨v,a,b,rfl,k,q⟩:=h
 refine⟨_,(Ai (Ba (Em (Ax Pb rfl T.isinstance Il (Aa (pv 0) (Aa (Q5 (v:=.ty "tuple") rfl T.tuple JZ rfl) Ac))) (Ea (Ox MP MP (pv 1) (Ax Bd rfl T.len Cu (Aa (pv 0) Ac)) (pv 2)))))),?_⟩
 refine⟨_,rfl,jo k ⟨_,rfl,?_⟩⟩
 cases e:Jg H v with
 | none=>rw[e] at q;exact Cp q
 | some xs=>
  rw[e] at q
  obtain⟨p,rfl,hp⟩:=Yy e
  refine BZ ⟨_,rfl,_,rfl,p,xs,rfl,.inr (SqT.of hp),_,_,rfl,rfl,_,rfl,?_⟩
  by_cases h1:a<=(xs.length:Int)
  ·rw[QbN h1]
   refine BZ ⟨_,rfl,_,_,rfl,rfl,?_⟩
   simpa [RV,h1] using q
  ·rw[QbB h1]
   refine Cp ?_
   simpa [RV,h1] using q
theorem Wt (c:Code K mg "are_wholes" LQ FZ) (T:Nm mg) (O5:Good P w K mg base "is_whole" 1 Fq uG) (Ci:Good P w K mg base "is_row" 1 Dq GZ):Good P w K mg base "are_wholes" 2 FZ PN:=by
 refine c.good Wq (λvs H Q E h=>?_) (λf cdv A outer s H vs Q E hr h=>?_)
 ·obtain⟨v,n,rfl,_⟩:=h
  rfl
 obtain⟨v,n,rfl,t,q⟩:=h
 refine⟨_,(Ai (Ba (Em (Aw Ci hr (Aa (pv 0) (Aa (pv 1) (Aa (pv 1) Ac)))) (Ea (Ax (Gj rfl) rfl T.all Jy (Aa (BP (N':=["part"]) rfl (Bg.plain rfl (by trivial) (by trivial) (by trivial)) (El (pv 0)) (λ_ _ _ _=>(Aj (i:=0) (show List.Nodup (["part"]:YF) by trivial) rfl (Or.inl rfl))) (λ_ _ _ _=>Cy) (λ_ _ _ _=>(Aw O5 hr (Aa (pv 0) Ac)))) Ac)))))),?_⟩
 refine⟨_,rfl,_,rfl,_,rfl,v,n,n,rfl,t.kn,_,rfl,?_⟩
 cases e:Jg H v with
 | none=>exact Cp (by have:=q H (Same.refl H);rw[e] at this;exact this)
 | some xs=>
  obtain⟨p,rfl,hp⟩:=Yy e
  have tp:=t.parts xs e
  cases eb:RV (some xs) n n with
  | false=>exact Cp (by have:=q H (Same.refl H);rw[e,Py,eb] at this;exact this)
  | true=>
   refine BZ ⟨_,rfl,p,rfl,⟨xs,SqT.of hp⟩,λl hl=>?_⟩
   have hpl:p≠l:=Ar hp hl
   refine O7 (xs:=xs) (λi σ H'=>∃u,σ=[u]/\H'=upd H l (.lst ((xs.take i).map λy=>V.bl (isW y)))) ⟨none,rfl,rfl⟩ (λi σ H' _ h=>?_) (λi x σ H' hx h=>?_) (fun σ H' h=>?_)
   ·obtain⟨u,rfl,rfl⟩:=h
    exact SqT.of (by rw[Al hpl];exact hp)
   ·obtain⟨u,rfl,rfl⟩:=h
    have sm:Same H (upd H l (.lst ((xs.take i).map λy=>V.bl (isW y)))):=Af hl _
    have et:(xs.take (i+1)).map (λy=>V.bl (isW y))=(xs.take i).map (λy=>V.bl (isW y))++[V.bl (isW x)]:=by rw[List.take_succ,hx];simp
    refine⟨_,rfl,x,rfl,(tp.2 x (QaE hx)).same sm,_,Ab,Aq (by rw[Qbx,Qbq];omega),_,rfl,?_⟩
    rw[QV,et]
   ·obtain⟨u,rfl,rfl⟩:=h
    refine⟨l,xs.map isW,rfl,SqL.of ?_,?_⟩
    ·rw[Ab,Qbo,Qcf]
     rfl
    ·have:=q _ (Af hl (.lst ((xs.take xs.length).map λy=>V.bl (isW y))))
     rw[e,Py,eb,Bool.true_and] at this
     rw[List.all_map]
     exact this
end
abbrev Ni:Stmt:=top 12
abbrev Hz:YF:=["row"]
theorem XJ:Ay ["row"] Hz (Ak Ni):=⟨rfl,rfl,rfl,by trivial,rfl,by trivial,by trivial⟩
abbrev Fd:Stmt:=top 13
abbrev DG:YF:=["thing","least","most","low","high"]
theorem Ot:Ay ["thing","least","most","low","high"] DG (Ak Fd):=⟨rfl,rfl,rfl,by trivial,rfl,by trivial,by trivial⟩
abbrev Qf:Stmt:=top 14
abbrev Ky:YF:=["thing"]
theorem dD:Ay ["thing"] Ky (Ak Qf):=⟨rfl,rfl,rfl,by trivial,rfl,by trivial,by trivial⟩
abbrev Nk:Stmt:=top 19
abbrev Gz:YF:=["kind","address"]
theorem XQ:Ay ["kind","address"] Gz (Ak Nk):=⟨rfl,rfl,rfl,by trivial,rfl,by trivial,by trivial⟩
abbrev Ir:Stmt:=top 20
abbrev Eu:YF:=["thing"]
theorem Rq:Ay ["thing"] Eu (Ak Ir):=⟨rfl,rfl,rfl,by trivial,rfl,by trivial,by trivial⟩
abbrev Qd:Stmt:=top 21
abbrev Kv:YF:=["thing"]
theorem dB:Ay ["thing"] Kv (Ak Qd):=⟨rfl,rfl,rfl,by trivial,rfl,by trivial,by trivial⟩
abbrev Ow:Stmt:=top 22
abbrev Jr:YF:=["thing"]
theorem Hv:Ay ["thing","kind","address","spur"] Jr (Ak Ow):=⟨rfl,rfl,rfl,by trivial,rfl,by trivial,by trivial⟩
abbrev Qg:Stmt:=top 23
abbrev Kz:YF:=["thing"]
theorem dF:Ay ["thing"] Kz (Ak Qg):=⟨rfl,rfl,rfl,by trivial,rfl,by trivial,by trivial⟩
abbrev Qc:Stmt:=top 24
abbrev Ku:YF:=["thing"]
theorem dw:Ay ["thing"] Ku (Ak Qc):=⟨rfl,rfl,rfl,by trivial,rfl,by trivial,by trivial⟩
abbrev Nq:Stmt:=top 25
abbrev HW:YF:=["thing"]
theorem X3:Ay ["thing"] HW (Ak Nq):=⟨rfl,rfl,rfl,by trivial,rfl,by trivial,by trivial⟩
abbrev Np:Stmt:=top 26
abbrev HN:YF:=["thing"]
theorem XS:Ay ["thing"] HN (Ak Np):=⟨rfl,rfl,rfl,by trivial,rfl,by trivial,by trivial⟩
abbrev Qe:Stmt:=top 27
abbrev Kw:YF:=["thing"]
theorem Jl:Ay ["thing","most","loops","zones"] Kw (Ak Qe):=⟨rfl,rfl,rfl,by trivial,rfl,by trivial,by trivial⟩
structure Ty (K:YD) (mg:YB) (op oe kd wk:Addr):Prop extends Tx K mg op oe where
 KINDS:∃u,mg "KINDS"=some u/\RelV (.ref kd) u
 kdT:∀H,SqT K H kd [.str "seeker",.str "knob",.str "bell",.str "door"]
 WARNING_KINDS:∃u,mg "WARNING_KINDS"=some u/\RelV (.ref wk) u
 wkT:∀H,SqT K H wk [.str "seeker",.str "knob"]
 SMALL_LETTERS:∃u,mg "SMALL_LETTERS"=some u/\RelV (.str abc) u
theorem sW:∀c∈abc.cps.toList,(!(Builtin.Str.occurrences abc ⟨#[c]⟩ 0 abc.length 1).isEmpty)=true:=by
 have h:abc.cps.toList.all (λc=>!(Builtin.Str.occurrences abc ⟨#[c]⟩ 0 abc.length 1).isEmpty)=true:=by trivial
 exact λc hc=>List.all_eq_true.mp h c hc
theorem rH {k:Str} (h:Gw k):inV (.str k) [.str "seeker",.str "knob",.str "bell",.str "door"]=true:=by
 rcases h with rfl | rfl | rfl | rfl <;> decide +kernel
theorem KQ {K:YD} {a l:Addr} {xs:YG} {te:TE} {Q:VK} {r:St} {H:Hp} (hl:H l=none) (ha:H a=some (.tup xs)) (h100:xs.length<=100)
  (hs:∀(i:Nat) (x:V) (HH:Hp),xs[i]?=some x->Same H HH->∀R:VK,(∀H',Same HH H'->R (.bl true) H')->te (some x::r) HH R)
  (hq:∀H',H' l=some (.lst ((List.replicate xs.length true).map V.bl))->Same H H'->Q (.ref l) H'):Fj (Itt K a) (Fe 0) (λ_ H Q=>Q true H) te Q (none::r) (upd H l (.lst [])) l:=by
 refine O7 (xs:=xs) (λi σ HH=>∃u,σ=u::r/\HH l=some (.lst ((List.replicate i true).map V.bl))/\Same H HH) ⟨_,rfl,Ab,Af hl _⟩ (λi σ HH _ h=>?_) (λi x σ HH hx h=>?_) (fun σ HH h=>?_)
 ·obtain⟨u,rfl,_,s⟩:=h
  exact SqT.of (s _ _ ha)
 ·obtain⟨u,rfl,e,s⟩:=h
  have hi:=(Qag.mp hx).1
  unfold Fe
  dsimp only
  refine BZ (hs i x HH hx s _ λH' s'=>⟨_,s' _ _ e,Aq (by rw[Qbx,List.length_replicate];omega),_,rfl,?_,(s.trans s').Bj Ah.upd hl⟩)
  rw[Ab,List.replicate_succ',Qby]
  rfl
 ·obtain⟨u,rfl,e,s⟩:=h
  exact hq _ e s
theorem Ie {H:Hp} {a:Addr} {xs:YG} (h:H a=some (.tup xs)):Kn H (.ref a):=by
 unfold Kn
 first
  | exact⟨_,h,True.intro⟩
  | exact .inr ⟨_,h⟩
  | exact⟨xs,.inr h⟩
theorem Es {xs:YG} {a b:Int} (h1:a<=xs.length) (h2:(xs.length:Int)<=b):RV (some xs) a b=true:=by
 show (decide (a<=xs.length)&&decide ((xs.length:Int)<=b))=true
 rw[QbN h1,QbN h2]
 rfl
theorem S7 {n:Nat}:(List.replicate n true).all id=true:=by simp
structure FU (p:Place):Prop where
 ok:OkP p
 bd:∀x∈adP p,1<=x/\x<=99
def bC:Sp:=λvs H Q _=>∃z:Str,vs=[.str z]/\1<=z.length/\z.length<=8/\okS z/\∀H',Same H H'->Q (.bl true) H'
def gP:Sp:=λvs H Q _=>∃(a:Addr) (ns:List Int),vs=[.ref a]/\H a=some (.tup (ns.map V.int))/\ns.Pairwise (· < ·)/\ns.length<=100/\∀H',Same H H'->Q (.bl true) H'
def gO:Sp:=λvs H Q _=>∃(a:Addr) (ns:List Int) (lo hi l h:Int),vs=[.ref a,.int lo,.int hi,.int l,.int h]/\H a=some (.tup (ns.map V.int))/\ns.Pairwise (· < ·)/\ns.length<=100/\lo<=ns.length/\(ns.length:Int)<=hi/\(∀x∈ns,l<=x/\x<=h)/\∀H',Same H H'->Q (.bl true) H'
def Xx:Sp:=λvs H Q _=>∃(k:Str) (x:Int),vs=[.str k,.int x]/\Gw k/\1<=x/\x<=99/\Q (.bl true) H
def Xq:Sp:=λvs H Q _=>∃v d,vs=[v]/\JB H v d/\Gw d.kind/\1<=d.addr/\d.addr<=99/\Q (.bl true) H
def aX:Sp:=λvs H Q _=>∃u ws ds,vs=[.ref u]/\H u=some (.tup ws)/\Paired (JB H) ws ds/\ds.length<=3/\(∀d∈ds,Gw d.kind/\1<=d.addr/\d.addr<=99)/\∀H',Same H H'->Q (.bl true) H'
def Xr:Sp:=λvs H Q _=>∃v p,vs=[v]/\Dv H v p/\FU p/\∀H',Same H H'->Q (.bl true) H'
def bD:Sp:=λvs H Q _=>∃v ps,vs=[v]/\LoopAt H v ps/\OkL ps/\(∀x∈adL ps,1<=x/\x<=99)/\∀H',Same H H'->Q (.bl true) H'
def Xw:Sp:=λvs H Q _=>∃Ls ws loops,vs=[.ref Ls]/\H Ls=some (.tup ws)/\Paired (LoopAt H) ws loops/\(∀ps∈loops,OkL ps)/\(∀x∈Cj loops,1<=x/\x<=99)/\1<=loops.length/\loops.length<=3/\∀H',Same H H'->Q (.bl true) H'
structure ZnB (z:Zone):Prop where
 nm:(1<=z.name.length/\z.name.length<=8)/\okS z.name
 up:z.adr.Pairwise (· < ·)/\1<=z.adr.length/\z.adr.length<=30
 bd:∀x∈z.adr,1<=x/\x<=99
def aV:Sp:=λvs H Q _=>∃v z,vs=[v]/\Ig H v z/\ZnB z/\∀H',Same H H'->Q (.bl true) H'
def Xp:Sp:=λvs H Q _=>∃zs ws zones,vs=[.ref zs]/\H zs=some (.tup ws)/\Paired (Ig H) ws zones/\(∀z∈zones,ZnB z)/\zones.length<=8/\(zones.map (·.name)).Nodup/\∀H',Same H H'->Q (.bl true) H'
structure Gm (H:Hp) (pl:Addr) (most:Int) (loops:YU) (zones:List Zone):Prop where
 at_:∃Ls zs vs zvs,H pl=some (.tup [.int most,.ref Ls,.ref zs])/\H Ls=some (.tup vs)/\Paired (LoopAt H) vs loops/\H zs=some (.tup zvs)/\Paired (Ig H) zvs zones
 ok:Ed loops
 lo:1<=loops.length
 pok:ZD most loops zones
theorem Gm.tups {H H':Hp} {pl:Addr} {most:Int} {loops:YU} {zones:List Zone} (h:Gm H pl most loops zones) (s:Ao H H'):Gm H' pl most loops zones:=by
 obtain⟨Ls,zs,vs,zvs,e1,e2,e3,e4,e5⟩:=h.at_
 exact⟨⟨Ls,zs,vs,zvs,s _ _ e1,s _ _ e2,Paired.Az e3 λ_ _ z=>z.tups s,s _ _ e4,Paired.Az e5 λ_ _ z=>z.tups s⟩,h.ok,h.lo,h.pok⟩
theorem Gm.same {H H':Hp} {pl:Addr} {most:Int} {loops:YU} {zones:List Zone} (h:Gm H pl most loops zones) (s:Same H H'):Gm H' pl most loops zones:=h.tups (Ao.of s)
theorem Gm.plan {H:Hp} {pl:Addr} {most:Int} {loops:YU} {zones:List Zone} (h:Gm H pl most loops zones):Uw H pl loops:=by
 obtain⟨Ls,zs,vs,zvs,e1,e2,e3,e4,e5⟩:=h.at_
 exact⟨_,_,Ls,vs,e1,e2,e3⟩
def QX:Sp:=λvs H Q _=>∃pl most loops zones,vs=[.ref pl]/\Gm H pl most loops zones/\∀H',Same H H'->Q (.bl true) H'
theorem Xe {α β γ : Type} {h:α->List β} {φ : γ->β} {g:Nat->α->List γ} (l:List α) (hg:∀i x,l[i]?=some x->(g i x).map φ=h x):∀n,n<=l.length->(up (λi=>ifs l[i]? (g i)) n).map φ=(l.take n).flatMap h
 | 0,_=>by rw[Ld];simp
 | n+1,hn=>by
  have hi:l[n]?=some l[n]:=Qak (by omega)
  rw[Dj,Qby,Xe l hg n (by omega),Qcs hi,QaK,Dh hi,hg n _ hi]
  simp
theorem RB (lp a:Int):∀(n:Nat) (ds:List Dev),(Dy lp a n ds).map (·.addr)=ds.map (·.addr)
 | _,[]=>rfl
 | n,d::r=>by
  show d.addr::(Dy lp a (n+1) r).map (·.addr)=d.addr::r.map (·.addr)
  rw[RB]
theorem Yk (lp a:Int) (p:Place):(BK lp a p).map (·.addr)=adP p:=by
 unfold BK adP
 split
 ·rfl
 ·rw[QbU,RB]
theorem Je (loops:YU):(up (pdL loops) loops.length).map (·.addr)=Cj loops:=by
 have:=Xe (φ:=Sd.addr) (h:=adL) (g:=λk ps=>up (pd1 (k:Int) ps) ps.length) loops (λk ps _=>by
  have:=Xe (φ:=Sd.addr) (h:=adP) (g:=λi p=>BK (k:Int) ((1+i:Nat):Int) p) ps (λi p _=>Yk _ _ p) ps.length (Qck _)
  rw[Qbo] at this
  exact this) loops.length (Qck _)
 rw[Qbo] at this
 exact this
theorem lC {loops:YU} (h:Ed loops) {x:Int} (hx:x∈Eo loops):x∈Cj loops:=by
 obtain⟨ps,hps,hx⟩:=Qbw.mp hx
 obtain⟨p,hp,hx⟩:=Qbw.mp hx
 refine Qbw.mpr ⟨ps,hps,Qbw.mpr ⟨p,hp,?_⟩⟩
 obtain⟨d,hd,rfl⟩:=Qcc.mp hx
 obtain⟨hd,hw⟩:=QbF.mp hd
 rcases ((h.ok ps hps).ok p hp).form with⟨e1,e2,e3⟩| hk
 ·have:d=⟨p.kind,p.addr⟩:=by
   unfold Fg at hd
   rw[e3] at hd
   simpa using hd
  rw[this] at hw
  have hw:Eh p.kind=true:=hw
  rw[e1] at hw
  exact absurd hw (by trivial)
 ·unfold adP
  rw[if_neg (Li hk)]
  unfold Fg at hd
  rcases QbT.mp hd with rfl | hd
  ·exact QaQ ..
  ·exact QaF _ (Qcc.mpr ⟨d,hd,rfl⟩)
section
variable {P:Program} {w:World} {K:YD} {mg:YB} {base:Heap} {op oe kd wk:Addr}
theorem dY (C:Code K mg "is_name" Qf Ky) (T:Ty K mg op oe kd wk):Good P w K mg base "is_name" 1 Ky bC:=by
 refine C.good dD (λvs H Q E h=>?_) (λf cdv A outer s H vs Q E hr h=>?_)
 ·obtain⟨z,rfl,_⟩:=h
  rfl
 obtain⟨z,rfl,h1,h8,oz,q⟩:=h
 refine⟨_,(Ag (Ck (Ek (Dc (Ax Pb rfl T.isinstance Il (Aa (pv 0) (Aa (Q5 (v:=.ty "str") rfl T.str wN rfl) Ac))))) (Ai (Ba Fz)) BL)
 (Ai (Ba (Em (Ox MP MP Ae (Ax Zv rfl T.len Cu (Aa (pv 0) Ac)) Ae) (Ea (Ax (Gj rfl) rfl T.all Jy (Aa (BP (N':=["sign"]) rfl (Bg.plain rfl (by trivial) (by trivial) (by trivial)) (iJ (pv 0)) (λ_ _ _ _=>(Aj (i:=0) (show List.Nodup (["sign"]:YF) by trivial) rfl (Or.inl rfl))) (λ_ _ _ _=>Cy) (λ_ _ _ _=>(Hl iT (pv 0) (Qo rfl T.SMALL_LETTERS) (by with_unfolding_all rfl)))) Ac))))))),?_⟩
 refine⟨_,rfl,rJ ⟨_,rfl,Cp ⟨_,rfl,z,rfl,Av (by show z.length<=1000;omega),_,_,rfl,rfl,_,rfl,?_⟩⟩⟩
 have g1:decide ((1:Int)<=(z.length:Int))=true:=QbN (by omega)
 rw[g1]
 refine BZ ⟨_,_,rfl,rfl,_,rfl,?_⟩
 have g2:decide ((z.length:Int)<=8)=true:=QbN (by omega)
 rw[g2]
 refine BZ ⟨_,rfl,z,rfl,λl hl'=>?_⟩
 refine Zm (λi σ HH=>∃u,σ=[u]/\HH l=some (.lst ((List.replicate i true).map V.bl))/\Same H HH) ⟨_,rfl,Ab,Af hl' _⟩ (λi c σ HH hc h=>?_) (fun σ HH h=>?_)
 ·obtain⟨u,rfl,e1,e2⟩:=h
  have hi:i < z.cps.size:=(Qaf.mp hc).1
  have hz:z.cps.size<=8:=h8
  unfold Fe
  dsimp only
  refine BZ ⟨_,rfl,_,_,rfl,rfl,_,e1,Aq (by simp;omega),_,rfl,?_,e2.Bj Ah.upd hl'⟩
  rw[Ab,sW c (oz c (Array.mem_toList_iff.mpr (Array.mem_of_getElem? hc))),List.replicate_succ',Qby]
  rfl
 ·obtain⟨u,rfl,e1,e2⟩:=h
  refine⟨l,List.replicate z.cps.size true,rfl,SqL.of e1,?_⟩
  rw[S7]
  exact q _ e2
theorem Ys (C:Code K mg "is_rising" Ni Hz) (T:Ty K mg op oe kd wk):Good P w K mg base "is_rising" 1 Hz gP:=by
 refine C.good XJ (λvs H Q E h=>?_) (λf cdv A outer s H vs Q E hr h=>?_)
 ·obtain⟨a,ns,rfl,_⟩:=h
  rfl
 obtain⟨a,ns,rfl,ha,hp,h100,q⟩:=h
 refine⟨_,(Ai (Ba (Ax (Gj rfl) rfl T.all Jy (Aa (BP (N':=["one","other"]) rfl (Bg.plain rfl (by trivial) (by trivial) (by trivial)) (mL rfl T.zip (Aa (pv 0) (Aa (JM U5 (pv 0) (Lf Ae) Lg) Ac))) (λ_ _ _ _=>(FT (K:=K) (n:=2) rfl rfl (Am (Aj (i:=0) (show List.Nodup (["one","other"]:YF) by trivial) rfl (Or.inl rfl)) (Am (Aj (i:=1) (show List.Nodup (["one","other"]:YF) by trivial) rfl (Or.inl rfl)) Bo)))) (λ_ _ _ _=>Cy) (λ_ _ _ _=>(Hl TV (pv 0) (pv 1) (BJ _)))) Ac)))),?_⟩
 refine⟨_,rfl,_,rfl,_,rfl,a,_,rfl,ha,λb H1 hb s1=>?_⟩
 have ha1:=s1 _ _ ha
 refine⟨a,b,rfl,⟨_,ha1⟩,⟨_,hb⟩,λl hl=>?_⟩
 have hlen:(ns.map V.int).length=ns.length:=Qbx ..
 have ec:IK (ns.map V.int) (some (1:Int)) none=(ns.map V.int).drop 1:=by
  by_cases h0:1<=(ns.map V.int).length
  ·exact SX (k:=1) h0
  ·have:ns.map V.int=[]:=List.length_eq_zero_iff.mp (by omega)
   rw[this]
   rfl
 rw[ec] at hb
 refine fM (xs:=ns.map V.int) (ys:=(ns.map V.int).drop 1) (ns.length - 1) (by omega) (by rw[Qbt];omega) (.inr (by rw[Qbt];omega)) (λi σ HH=>∃u1 u2,σ=[u1,u2]/\HH l=some (.lst ((List.replicate i true).map V.bl))/\Same H1 HH) ⟨_,_,rfl,Ab,Af hl _⟩ (λi σ HH _ h=>?_) (λi x y p σ HH hx hy h hpn=>?_) (fun σ HH h=>?_)
 ·obtain⟨u1,u2,rfl,e1,e2⟩:=h
  exact⟨e2 _ _ ha1,e2 _ _ hb⟩
 ·obtain⟨u1,u2,rfl,e1,e2⟩:=h
  rw[List.getElem?_drop] at hy
  rw[Qbg] at hx hy
  obtain⟨n1,hn1,rfl⟩:=Qaw.mp hx
  obtain⟨n2,hn2,rfl⟩:=Qaw.mp hy
  obtain⟨i1,g1⟩:=Qag.mp hn1
  obtain⟨i2,g2⟩:=Qag.mp hn2
  have lt:n1 < n2:=by
   rw[<-g1,<-g2]
   exact Qaj.mp hp i (1+i) i1 i2 (by omega)
  have s2:=Af hpn (.tup [.int n1,.int n2])
  refine⟨p,_,rfl,SqT.of Ab,rfl,_,_,rfl,_,_,rfl,rfl,?_⟩
  refine BZ ⟨_,rfl,_,rfl,_,_,rfl,rfl,_,s2 _ _ e1,Aq (by simp;omega),_,_,rfl,?_,(e2.trans s2).Bj Ah.upd hl⟩
  rw[Ab]
  show some (HO.lst (_++[V.bl (decide (n1 < n2))]))=_
  rw[QbN lt,List.replicate_succ',Qby]
  rfl
 ·obtain⟨u1,u2,rfl,e1,e2⟩:=h
  refine⟨l,List.replicate (ns.length - 1) true,rfl,SqL.of e1,?_⟩
  rw[S7]
  exact q _ (s1.trans e2)
theorem Wu (C:Code K mg "are_rising_within" Fd DG) (T:Ty K mg op oe kd wk) (Ci:Good P w K mg base "is_row" 1 Dq GZ) (Fx:Good P w K mg base "is_within" 2 Et Ly) (Z2:Good P w K mg base "is_rising" 1 Hz gP):Good P w K mg base "are_rising_within" 3 DG gO:=by
 refine C.good Ot (λvs H Q E h=>?_) (λf cdv A outer s H vs Q E hr h=>?_)
 ·obtain⟨a,ns,lo,hi,l,h,rfl,_⟩:=h
  rfl
 obtain⟨a,ns,lo,hi,l,h,rfl,ha,hp,h100,h1,h2,h3,q⟩:=h
 refine⟨_,(Ag (Ck (Ek (Dc (Aw Ci hr (Aa (pv 0) (Aa (pv 1) (Aa (pv 2) Ac)))))) (Ai (Ba Fz)) BL)
 (Ai (Ba (Em (Ax (Gj rfl) rfl T.all Jy (Aa (BP (N':=["part","low","high"]) rfl (Bg.of (src:=[none,some 3,some 4]) (Ak Fd) ["thing","least","most","low","high"] rfl rfl rfl (by trivial) (by trivial) (by trivial) rfl (by trivial)) (El (pv 0)) (λ_ _ _ _=>(Aj (i:=0) (show List.Nodup (["part","low","high"]:YF) by trivial) rfl (Or.inl rfl))) (λ_ _ _ _=>Cy) (λ_ _ _ _=>(Aw Fx hr (Aa (pv 0) (Aa (pv 1) (Aa (pv 2) Ac)))))) Ac)) (Ea (Aw Z2 hr (Aa (pv 0) Ac))))))),?_⟩
 have hlen:(ns.map V.int).length=ns.length:=Qbx ..
 refine⟨_,rfl,_,rfl,_,rfl,.ref a,lo,hi,rfl,Ie ha,_,rfl,?_⟩
 rw[Df ha,Es (by rw[hlen];exact h1) (by rw[hlen];exact h2)]
 refine Cp ⟨_,rfl,a,rfl,⟨_,SqT.of ha⟩,λl2 hl2=>?_⟩
 refine KQ (r:=[some (.int l),some (.int h)]) hl2 ha (by omega) (λi x HH hx s1 R hR=>?_) (λH' e s1=>?_)
 ·rw[Qbg] at hx
  obtain⟨n1,hn1,rfl⟩:=Qaw.mp hx
  refine⟨_,rfl,_,rfl,_,rfl,n1,l,h,rfl,?_⟩
  rw[QbN (h3 n1 (QaE hn1))]
  exact hR _ (Same.refl _)
 ·refine⟨l2,List.replicate (ns.map V.int).length true,rfl,SqL.of e,_,rfl,?_⟩
  rw[S7]
  exact BZ ⟨_,rfl,a,ns,rfl,s1 _ _ ha,hp,h100,λH2 s2=>q _ (s1.trans s2)⟩
theorem Yu (C:Code K mg "is_device" Nk Gz) (T:Ty K mg op oe kd wk) (Fx:Good P w K mg base "is_within" 2 Et Ly):Good P w K mg base "is_device" 3 Gz Xx:=by
 refine C.good XQ (λvs H Q E h=>?_) (λf cdv A outer s H vs Q E hr h=>?_)
 ·obtain⟨k,x,rfl,_⟩:=h
  rfl
 obtain⟨k,x,rfl,hk,h1,h2,q⟩:=h
 refine⟨_,(Ai (Ba (Em (Hl Qq (pv 0) (Qo rfl T.KINDS) (by with_unfolding_all rfl)) (Ea (Aw Fx hr (Aa (pv 1) (Aa Ae (Aa Ae Ac)))))))),?_⟩
 refine⟨_,rfl,kd,_,rfl,.inr (T.kdT H),rfl,rfl,_,rfl,?_⟩
 rw[if_neg QaT,rH hk]
 refine BZ ⟨_,rfl,x,1,99,rfl,?_⟩
 rw[QbN ⟨h1,h2⟩]
 exact q
theorem Rt (C:Code K mg "is_spur_device" Ir Eu) (T:Ty K mg op oe kd wk) (Ci:Good P w K mg base "is_row" 1 Dq GZ) (NP:Good P w K mg base "is_device" 3 Gz Xx):Good P w K mg base "is_spur_device" 4 Eu Xq:=by
 refine C.good Rq (λvs H Q E h=>?_) (λf cdv A outer s H vs Q E hr h=>?_)
 ·obtain⟨v,d,rfl,_⟩:=h
  rfl
 obtain⟨v,d,rfl,⟨t,rfl,ht⟩,hk,h1,h2,q⟩:=h
 refine⟨_,(Ai (Ba (Em (Aw Ci hr (Aa (pv 0) (Aa Ae (Aa Ae Ac)))) (Ea (Aw NP hr (Aa (Bq BR (pv 0) Ae (λ_ _=>rfl)) (Aa (Bq BR (pv 0) Ae (λ_ _=>rfl)) Ac))))))),?_⟩
 refine⟨_,rfl,.ref t,2,2,rfl,Ie ht,_,rfl,?_⟩
 rw[Df ht,Es (by show (2:Int)<=2;decide) (by show (2:Int)<=2;decide)]
 exact BZ ⟨_,rfl,t,_,_,_,rfl,rfl,SqT.of ht,rfl,_,rfl,t,_,_,_,rfl,rfl,SqT.of ht,rfl,d.kind,d.addr,rfl,hk,h1,h2,q⟩
theorem dW (C:Code K mg "is_spur" Qd Kv) (T:Ty K mg op oe kd wk) (Ci:Good P w K mg base "is_row" 1 Dq GZ) (SJ:Good P w K mg base "is_spur_device" 4 Eu Xq):Good P w K mg base "is_spur" 5 Kv aX:=by
 refine C.good dB (λvs H Q E h=>?_) (λf cdv A outer s H vs Q E hr h=>?_)
 ·obtain⟨u,ws,ds,rfl,_⟩:=h
  rfl
 obtain⟨u,ws,ds,rfl,hu,hd,h3,hk,q⟩:=h
 have lw:=QbS hd
 refine⟨_,(Ai (Ba (Em (Aw Ci hr (Aa (pv 0) (Aa Ae (Aa Ae Ac)))) (Ea (Ax (Gj rfl) rfl T.all Jy (Aa (BP (N':=["part"]) rfl (Bg.plain rfl (by trivial) (by trivial) (by trivial)) (El (pv 0)) (λ_ _ _ _=>(Aj (i:=0) (show List.Nodup (["part"]:YF) by trivial) rfl (Or.inl rfl))) (λ_ _ _ _=>Cy) (λ_ _ _ _=>(Aw SJ hr (Aa (pv 0) Ac)))) Ac)))))),?_⟩
 refine⟨_,rfl,.ref u,0,3,rfl,Ie hu,_,rfl,?_⟩
 rw[Df hu,Es (by omega) (by omega)]
 refine BZ ⟨_,rfl,u,rfl,⟨_,SqT.of hu⟩,λl2 hl2=>?_⟩
 refine KQ (r:=[]) hl2 hu (by omega) (λi x HH hx s1 R hR=>?_) (λH' e s1=>?_)
 ·obtain⟨d,hdi,had⟩:=Paired.Cq hd hx
  have:=hk d (QaE hdi)
  exact⟨_,rfl,x,d,rfl,had.tups (Ao.of s1),this.1,this.2.1,this.2.2,hR _ (Same.refl _)⟩
 ·refine⟨l2,List.replicate ws.length true,rfl,SqL.of e,?_⟩
  rw[S7]
  exact q _ s1
theorem ZR (C:Code K mg "is_place" Ow Jr) (T:Ty K mg op oe kd wk) (Ci:Good P w K mg base "is_row" 1 Dq GZ) (Fx:Good P w K mg base "is_within" 2 Et Ly) (NP:Good P w K mg base "is_device" 3 Gz Xx) (jF:Good P w K mg base "is_spur" 5 Kv aX):Good P w K mg base "is_place" 6 Jr Xr:=by
 have sc:=Hv
 refine C.good Hv (λvs H Q E h=>?_) (λf cdv A outer s H vs Q E hr h=>?_)
 ·obtain⟨v,p,rfl,_⟩:=h
  rfl
 obtain⟨v,p,rfl,⟨t,u,ws,rfl,ht,hu,hd⟩,⟨ok,bd⟩,q⟩:=h
 have lw:=QbS hd
 have h3:=ok.spur
 refine⟨_,(Ag (Ck (Ek (Dc (Aw Ci hr (Aa (pv 0) (Aa Ae (Aa Ae Ac)))))) (Ai (Ba Fz)) BL)
 (Ag (G5 (pv 0) (Cw rfl (Am (Aj (i:=1) Hv.nd rfl (Or.inl rfl)) (Am (Aj (i:=2) Hv.nd rfl (Or.inl rfl)) (Am (Aj (i:=3) Hv.nd rfl (Or.inl rfl)) Bo)))))
 (Ag (Ck (Bt Ho (pv 1) Bp (BJ _)) (Ai (Ba (Em (Aw Fx hr (Aa (pv 2) (Aa Ae (Aa Ae Ac)))) (Ea (Aw Ci hr (Aa (pv 3) (Aa Ae (Aa Ae Ac)))))))) BL)
 (Ai (Ba (Em (Aw NP hr (Aa (pv 1) (Aa (pv 2) Ac))) (Ea (Aw jF hr (Aa (pv 3) Ac))))))))),?_⟩
 refine⟨_,rfl,.ref t,3,3,rfl,Ie ht,_,rfl,?_⟩
 rw[Df ht,Es (by show (3:Int)<=3;decide) (by show (3:Int)<=3;decide)]
 refine Cp ⟨_,rfl,t,_,rfl,SqT.of ht,rfl,_,_,rfl,_,_,rfl,_,_,rfl,rfl,?_⟩
 refine⟨_,rfl,rfl,_,rfl,?_⟩
 rcases ok.form with⟨e1,e2,e3⟩| hk
 ·rw[show decide (V.str p.kind=V.str "opener")=true by rw[e1];rfl]
  have lw0:ws.length=0:=by rw[lw,e3];rfl
  refine BZ ⟨_,rfl,p.addr,0,0,rfl,_,rfl,?_⟩
  rw[show decide ((0:Int)<=p.addr/\p.addr<=0)=true by rw[e2];rfl]
  refine BZ ⟨_,rfl,.ref u,0,0,rfl,Ie hu,?_⟩
  rw[Df hu,Es (by omega) (by omega)]
  exact q _ (Same.refl _)
 ·have ea:adP p=p.addr::p.spur.map (·.addr):=if_neg (Li hk)
  rw[ea] at bd
  rw[QbB (Li hk)]
  have b0:=bd p.addr (QaQ ..)
  refine Cp ⟨_,rfl,_,rfl,p.kind,p.addr,rfl,hk,b0.1,b0.2,_,rfl,?_⟩
  exact BZ ⟨_,rfl,u,ws,p.spur,rfl,hu,hd,h3,λd hdm=>⟨ok.kinds d hdm,bd d.addr (QaF _ (Qcc.mpr ⟨d,hdm,rfl⟩))⟩,q⟩
theorem dZ (C:Code K mg "is_loop" Qg Kz) (T:Ty K mg op oe kd wk) (Ci:Good P w K mg base "is_row" 1 Dq GZ) (fC:Good P w K mg base "is_place" 6 Jr Xr):Good P w K mg base "is_loop" 7 Kz bD:=by
 refine C.good dF (λvs H Q E h=>?_) (λf cdv A outer s H vs Q E hr h=>?_)
 ·obtain⟨v,ps,rfl,_⟩:=h
  rfl
 obtain⟨v,ps,rfl,⟨t,ws,rfl,ht,hd⟩,ok,bd,q⟩:=h
 have lw:=QbS hd
 have l1:=ok.lo
 have l2:=ok.hi
 refine⟨_,(Ai (Ba (Em (Aw Ci hr (Aa (pv 0) (Aa Ae (Aa Ae Ac)))) (Ea (Ax (Gj rfl) rfl T.all Jy (Aa (BP (N':=["part"]) rfl (Bg.plain rfl (by trivial) (by trivial) (by trivial)) (El (pv 0)) (λ_ _ _ _=>(Aj (i:=0) (show List.Nodup (["part"]:YF) by trivial) rfl (Or.inl rfl))) (λ_ _ _ _=>Cy) (λ_ _ _ _=>(Aw fC hr (Aa (pv 0) Ac)))) Ac)))))),?_⟩
 refine⟨_,rfl,.ref t,1,12,rfl,Ie ht,_,rfl,?_⟩
 rw[Df ht,Es (by omega) (by omega)]
 refine BZ ⟨_,rfl,t,rfl,⟨_,SqT.of ht⟩,λl2 hl2=>?_⟩
 refine KQ (r:=[]) hl2 ht (by omega) (λi x HH hx s1 R hR=>?_) (λH' e s1=>?_)
 ·obtain⟨p,hpi,hap⟩:=Paired.Cq hd hx
  have hm:=QaE hpi
  exact⟨_,rfl,x,p,rfl,hap.tups (Ao.of s1),⟨ok.ok p hm,λy hy=>bd y (Qbw.mpr ⟨p,hm,hy⟩)⟩,λH2 s2=>hR _ s2⟩
 ·refine⟨l2,List.replicate ws.length true,rfl,SqL.of e,?_⟩
  rw[S7]
  exact q _ s1
theorem Yx (C:Code K mg "are_loops" Nq HW) (T:Ty K mg op oe kd wk) (Ci:Good P w K mg base "is_row" 1 Dq GZ) (jJ:Good P w K mg base "is_loop" 7 Kz bD):Good P w K mg base "are_loops" 8 HW Xw:=by
 refine C.good X3 (λvs H Q E h=>?_) (λf cdv A outer s H vs Q E hr h=>?_)
 ·obtain⟨Ls,ws,loops,rfl,_⟩:=h
  rfl
 obtain⟨t,ws,loops,rfl,ht,hd,ok,bd,l1,l2,q⟩:=h
 have lw:=QbS hd
 refine⟨_,(Ai (Ba (Em (Aw Ci hr (Aa (pv 0) (Aa Ae (Aa Ae Ac)))) (Ea (Ax (Gj rfl) rfl T.all Jy (Aa (BP (N':=["part"]) rfl (Bg.plain rfl (by trivial) (by trivial) (by trivial)) (El (pv 0)) (λ_ _ _ _=>(Aj (i:=0) (show List.Nodup (["part"]:YF) by trivial) rfl (Or.inl rfl))) (λ_ _ _ _=>Cy) (λ_ _ _ _=>(Aw jJ hr (Aa (pv 0) Ac)))) Ac)))))),?_⟩
 refine⟨_,rfl,.ref t,1,3,rfl,Ie ht,_,rfl,?_⟩
 rw[Df ht,Es (by omega) (by omega)]
 refine BZ ⟨_,rfl,t,rfl,⟨_,SqT.of ht⟩,λl2 hl2=>?_⟩
 refine KQ (r:=[]) hl2 ht (by omega) (λi x HH hx s1 R hR=>?_) (λH' e s1=>?_)
 ·obtain⟨p,hpi,hap⟩:=Paired.Cq hd hx
  have hm:=QaE hpi
  exact⟨_,rfl,x,p,rfl,hap.tups (Ao.of s1),ok p hm,λy hy=>bd y (Qbw.mpr ⟨p,hm,hy⟩),λH2 s2=>hR _ s2⟩
 ·refine⟨l2,List.replicate ws.length true,rfl,SqL.of e,?_⟩
  rw[S7]
  exact q _ s1
theorem dU (C:Code K mg "is_zone" Qc Ku) (T:Ty K mg op oe kd wk) (Ci:Good P w K mg base "is_row" 1 Dq GZ) (jH:Good P w K mg base "is_name" 1 Ky bC) (Pr:Good P w K mg base "are_rising_within" 3 DG gO):Good P w K mg base "is_zone" 4 Ku aV:=by
 refine C.good dw (λvs H Q E h=>?_) (λf cdv A outer s H vs Q E hr h=>?_)
 ·obtain⟨v,z,rfl,_⟩:=h
  rfl
 obtain⟨v,z,rfl,⟨t,u,rfl,ht,hu⟩,ok,q⟩:=h
 refine⟨_,(Ai (Ba (Em (Aw Ci hr (Aa (pv 0) (Aa Ae (Aa Ae Ac)))) (Em (Aw jH hr (Aa (Bq BR (pv 0) Ae (λ_ _=>rfl)) Ac)) (Ea (Aw Pr hr (@Aa _ _ _ _ _ (Bq BR (pv 0) Ae (λ_ _=>rfl)) (@Aa _ _ _ _ _ (@Ae _ _ _ _) (@Aa _ _ _ _ _ (@Ae _ _ _ _) (@Aa _ _ _ _ _ (@Ae _ _ _ _) (@Aa _ _ _ _ _ (@Ae _ _ _ _) (@Ac _) Bu) Bu) Bu) Bu) uE))))))),?_⟩
 refine⟨_,rfl,.ref t,2,2,rfl,Ie ht,_,rfl,?_⟩
 rw[Df ht,Es (by show (2:Int)<=2;decide) (by show (2:Int)<=2;decide)]
 refine BZ ⟨_,rfl,t,_,_,_,rfl,rfl,SqT.of ht,rfl,z.name,rfl,ok.nm.1.1,ok.nm.1.2,ok.nm.2,λH1 s1=>⟨_,rfl,BZ ?_⟩⟩
 have u1:=ok.up.2.1
 have u2:=ok.up.2.2
 exact⟨_,rfl,t,_,_,_,rfl,rfl,SqT.of (s1 _ _ ht),rfl,u,z.adr,1,30,1,99,rfl,s1 _ _ hu,ok.up.1,by omega,by omega,by omega,ok.bd,λH2 s2=>q _ (s1.trans s2)⟩
end
abbrev Jp:Stmt:=top 33
abbrev Ft:YF:=["plan"]
theorem DK:Ay ["plan","seen","spot","kind","address"] Ft (Ak Jp):=⟨rfl,rfl,rfl,by trivial,rfl,by trivial,by trivial⟩
abbrev JG:Stmt:=top 34
abbrev FW:YF:=["plan"]
theorem Fo:Ay ["plan","loop","number","spots"] FW (Ak JG):=⟨rfl,rfl,rfl,by trivial,rfl,by trivial,by trivial⟩
abbrev G4:Stmt:=top 35
abbrev Eb:YF:=["plan"]
theorem CW:Ay ["plan","warners","name","addresses","address"] Eb (Ak G4):=⟨rfl,rfl,rfl,by trivial,rfl,by trivial,by trivial⟩
abbrev Iv:Stmt:=top 36
abbrev Ew:YF:=["plan"]
theorem Du:Ay ["plan","seen","name","addresses","address"] Ew (Ak Iv):=⟨rfl,rfl,rfl,by trivial,rfl,by trivial,by trivial⟩
abbrev U8:Stmt:=top 37
abbrev Oa:YF:=["plan"]
theorem lV:Ay ["plan"] Oa (Ak U8):=⟨rfl,rfl,rfl,by trivial,rfl,by trivial,by trivial⟩
abbrev Nj:Stmt:=top 38
abbrev HF:YF:=["thing"]
theorem XM:Ay ["thing"] HF (Ak Nj):=⟨rfl,rfl,rfl,by trivial,rfl,by trivial,by trivial⟩
def Hu:Sp:=λvs H Q _=>∃pl most loops zones,vs=[.ref pl]/\Gm H pl most loops zones/\∀H',Same H H'->Q .non H'
def Hq {α : Type} (f:α->Key) (xs:List α):YM:=xs.map λx=>(f x,V.bl true)
theorem M6 {α : Type} {f:α->Key} {k:Key}:∀{xs:List α},(∀x∈xs,f x≠k)->Dw (Hq f xs) k=none
 | [],_=>rfl
 | x::r,h=>by
  have:Hq f (x::r)=(f x,V.bl true)::Hq f r:=rfl
  rw[this,GR (p:=(f x,V.bl true)) (h x (QaQ ..))]
  exact M6 λy hy=>h y (QaF _ hy)
theorem KJ {α : Type} (f:α->Key) (xs:List α):(Hq f xs).length=xs.length:=Qbx ..
theorem M7 {α : Type} {f:α->Key} {xs:List α} {x:α} (h:∀y∈xs,f y≠f x):putK (Hq f xs) (f x) (.bl true)=Hq f (xs++[x]):=by
 rw[Mf _ (M6 h)]
 unfold Hq
 rw[Qby]
 rfl
theorem Q6 {α : Type} {l:List α} (h:l.Nodup) {i:Nat} {x:α} (hx:l[i]?=some x):∀y∈l.take i,y≠x:=λy hy e=>by
 subst e
 obtain⟨j,hj⟩:=QaH hy
 rw[List.getElem?_take] at hj
 split at hj
 ·rename_i hji
  obtain⟨h1,e1⟩:=Qag.mp hj
  obtain⟨h2,e2⟩:=Qag.mp hx
  have:=Qaj.mp h j i h1 h2 hji
  exact this (by rw[e1,e2])
 ·cases hj
theorem Ib {α β : Type} {f:α->β} {l:List α} (h:(l.map f).Nodup) {i:Nat} {x:α} (hx:l[i]?=some x):∀y∈l.take i,f y≠f x:=λy hy e=>by
 have:=Q6 h (i:=i) (x:=f x) (by rw[Qbg,hx];rfl) (f y) (by rw[<-List.map_take];exact Qcc.mpr ⟨y,hy,rfl⟩)
 exact this e
theorem aP {lp:Int} {ps:List Place}:∀i,i<=ps.length->(stP lp ps i).1.map (λz=>(z.length:Int))=(pst (ps.take i)).1/\((stP lp ps i).2.length:Int)=(pst (ps.take i)).2
 | 0,_=>⟨rfl,rfl⟩
 | i+1,h=>by
  have hi:ps[i]?=some ps[i]:=Qak (by omega)
  obtain⟨h1,h2⟩:=aP (lp:=lp) (ps:=ps) i (by omega)
  rw[Qcs hi,Yg]
  unfold ptS
  by_cases k:V.str ps[i].kind=V.str "opener"
  ·rw[Tg hi k,if_pos k]
   refine⟨?_,rfl⟩
   rw[Qby,h1,<-h2]
   rfl
  ·rw[QW hi k,if_neg k]
   refine⟨h1,?_⟩
   show (((stP lp ps i).2++(BK lp ((1+i:Nat):Int) ps[i]).map Sd.spot).length:Int)=_
   rw[QaP,Qbx,<-h2]
   have:(BK lp ((1+i:Nat):Int) ps[i]).length=1+ps[i].spur.length:=by
    unfold BK
    rw[if_neg k,Qbp,K4]
    omega
   rw[this]
   push_cast
   omega
theorem mV {lp:Int} {ps:List Place}:∀z∈(stP lp ps ps.length).1++[(stP lp ps ps.length).2],(z.length:Int)∈GQ ps:=λz hz=>by
 obtain⟨h1,h2⟩:=aP (lp:=lp) (ps:=ps) ps.length (Qck _)
 rw[Qbo] at h1 h2
 unfold GQ
 rw[<-h1,<-h2]
 rcases Qbz.mp hz with h | h
 ·exact QaG _ (Qcc.mpr ⟨z,h,rfl⟩)
 ·have:z=(stP lp ps ps.length).2:=by simpa using h
  rw[this]
  exact QaA _ (QaW.mpr rfl)
theorem oU {zones:List Zone} (h:∀z∈zones,z.adr.length<=30):(zones.flatMap (·.adr)).length<=30*zones.length:=by
 induction zones with
 | nil=>exact Qck _
 | cons a r ih=>
  have h1:=ih λz hz=>h z (QaF _ hz)
  have h2:=h a (QaQ ..)
  rw[Qbi,QaP,Qbp]
  omega
theorem oR {a b:List Zone} (h:a.Sublist b):(a.flatMap (·.adr)).Sublist (b.flatMap (·.adr)):=by
 induction h with
 | slnil=>exact .slnil
 | cons x _ ih=>rw[Qbi];exact List.Sublist.trans ih (List.sublist_append_right _ _)
 | cons_cons x _ ih=>rw[Qbi,Qbi];exact List.Sublist.append_left ih _
theorem VL (lp a:Int):∀(n:Nat) (ds:List Dev) (d:Dev),d∈ds->∃z∈Dy lp a n ds,z.kind=d.kind/\z.addr=d.addr
 | _,[],d,h=>by cases h
 | n,x::r,d,h=>by
  rcases QbT.mp h with rfl | h
  ·exact⟨_,QaQ ..,rfl,rfl⟩
  ·obtain⟨z,h1,h2⟩:=VL lp a (n+1) r d h
   exact⟨z,QaF _ h1,h2⟩
theorem Oj {α : Type} {f:Nat->List α} {x:α} {i:Nat} (h:x∈f i):∀{n:Nat},i < n->x∈up f n
 | 0,hn=>by omega
 | n+1,hn=>by
  rw[Dj]
  by_cases e:i=n
  ·subst e;exact QaA _ h
  ·exact QaG _ (Oj h (by omega))
theorem qx {loops:YU} (h:Ed loops) {x:Int} (hx:x∈Eo loops):∃z∈(up (pdL loops) loops.length).filter (λz=>Eh z.kind),z.addr=x:=by
 obtain⟨ps,hps,hx⟩:=Qbw.mp hx
 obtain⟨p,hp,hx⟩:=Qbw.mp hx
 obtain⟨d,hd,rfl⟩:=Qcc.mp hx
 obtain⟨hd,hw⟩:=QbF.mp hd
 obtain⟨k,hk⟩:=QaH hps
 obtain⟨i,hi⟩:=QaH hp
 have hkl:=(Qag.mp hk).1
 have hil:=(Qag.mp hi).1
 have hop:¬V.str p.kind=V.str "opener":=by
  rcases ((h.ok ps hps).ok p hp).form with⟨e1,e2,e3⟩| hk
  ·have:d=⟨p.kind,p.addr⟩:=by
    unfold Fg at hd
    rw[e3] at hd
    simpa using hd
   rw[this] at hw
   have hw:Eh p.kind=true:=hw
   rw[e1] at hw
   exact absurd hw (by trivial)
  ·exact Li hk
 have key:∃z∈BK (k:Int) ((1+i:Nat):Int) p,z.kind=d.kind/\z.addr=d.addr:=by
  unfold BK
  rw[if_neg hop]
  unfold Fg at hd
  rcases QbT.mp hd with rfl | hd
  ·exact⟨_,QaQ ..,rfl,rfl⟩
  ·obtain⟨z,h1,h2⟩:=VL (k:Int) ((1+i:Nat):Int) 1 p.spur d hd
   exact⟨z,QaF _ h1,h2⟩
 obtain⟨z,hz,e1,e2⟩:=key
 refine⟨z,QbF.mpr ⟨Oj (i:=k) ?_ hkl,by show Eh z.kind=true;rw[e1];exact hw⟩,e2⟩
 unfold pdL
 rw[Dh hk]
 refine Oj (i:=i) ?_ hil
 unfold pd1
 rw[Dh hi]
 exact hz
section
variable {P:Program} {w:World} {K:YD} {mg:YB} {base:Heap} {op oe kd wk:Addr}
theorem Yw (C:Code K mg "are_zones" Np HN) (T:Ty K mg op oe kd wk) (Ci:Good P w K mg base "is_row" 1 Dq GZ) (jE:Good P w K mg base "is_zone" 4 Ku aV):Good P w K mg base "are_zones" 5 HN Xp:=by
 refine C.good XS (λvs H Q E h=>?_) (λf cdv A outer s H vs Q E hr h=>?_)
 ·obtain⟨zs,ws,zones,rfl,_⟩:=h
  rfl
 obtain⟨t,ws,zones,rfl,ht,hd,ok,l8,nd,q⟩:=h
 have lw:=QbS hd
 refine⟨_,(Ag (Ck (PW.pt (MK (Ek (Dc (Aw Ci hr (Aa (pv 0) (Aa Ae (Aa Ae Ac)))))) (N7 (Ek (Dc (Ax (Gj rfl) rfl T.all Jy (Aa (BP (N':=["part"]) rfl (Bg.plain rfl (by trivial) (by trivial) (by trivial)) (El (pv 0)) (λ_ _ _ _=>(Aj (i:=0) (show List.Nodup (["part"]:YF) by trivial) rfl (Or.inl rfl))) (λ_ _ _ _=>Cy) (λ_ _ _ _=>(Aw jE hr (Aa (pv 0) Ac)))) Ac))))))) (Ai (Ba Fz)) BL)
 (Ai (Ba (Hl Ho (Ax jY rfl T.len Cu (Aa (mU (N':=["name","addresses"]) rfl (Bg.plain rfl (by trivial) (by trivial) (by trivial)) (El (pv 0)) (λ_ _ _ _=>(FT (K:=K) (n:=2) rfl rfl (Am (Aj (i:=0) (show List.Nodup (["name","addresses"]:YF) by trivial) rfl (Or.inl rfl)) (Am (Aj (i:=1) (show List.Nodup (["name","addresses"]:YF) by trivial) rfl (Or.inl rfl)) Bo)))) (λ_ _ _ _=>Cy) (λ_ _ _ _=>(pv 0)) (λ_ _ _ _=>Fz)) Ac)) (Ax Bd rfl T.len Cu (Aa (pv 0) Ac)) (BJ _))))),?_⟩
 refine⟨_,rfl,.ref t,0,8,rfl,Ie ht,_,rfl,?_⟩
 rw[Df ht,Es (by omega) (by omega)]
 refine Cp ⟨_,rfl,t,rfl,⟨_,SqT.of ht⟩,λl2 hl2=>?_⟩
 refine KQ (r:=[]) hl2 ht (by omega) (λi x HH hx s1 R hR=>?_) (λH' e s1=>?_)
 ·obtain⟨z,hzi,haz⟩:=Paired.Cq hd hx
  exact⟨_,rfl,x,z,rfl,haz.tups (Ao.of s1),ok z (QaE hzi),λH2 s2=>hR _ s2⟩
 refine⟨l2,List.replicate ws.length true,rfl,SqL.of e,_,rfl,?_⟩
 rw[S7]
 have ht1:=s1 _ _ ht
 refine Cp ⟨_,rfl,t,rfl,⟨_,SqT.of ht1⟩,λl hl=>?_⟩
 refine jP (xs:=ws) (λi σ HH=>∃u1 u2,σ=[u1,u2]/\HH l=some (.dK (Hq (λz:Zone=>Sum.inr z.name) (zones.take i)))/\Same H' HH) ⟨_,_,rfl,Ab,Af hl _⟩ (λi σ HH _ h=>?_) (λi x σ HH hx h=>?_) (fun σ HH h=>?_)
 ·obtain⟨u1,u2,rfl,e1,e2⟩:=h
  exact SqT.of (e2 _ _ ht1)
 ·obtain⟨u1,u2,rfl,e1,e2⟩:=h
  obtain⟨z,hzi,tz,uz,rfl,h1,h2⟩:=Paired.Cq hd hx
  refine⟨tz,_,rfl,SqT.of (e2 _ _ (s1 _ _ h1)),rfl,_,_,rfl,_,_,rfl,rfl,?_⟩
  refine BZ ⟨_,rfl,_,Sum.inr z.name,e1,rfl,Aq (by rw[KJ,Qbq];omega),_,_,rfl,?_,e2.Bj Ah.upd hl⟩
  rw[Ab,M7 (f:=λz:Zone=>Sum.inr z.name) (x:=z),Qcs hzi]
  exact λy hy e=>Ib nd hzi y hy (Sum.inr.inj e)
 ·obtain⟨u1,u2,rfl,e1,e2⟩:=h
  rw[lw,Qbo] at e1
  refine⟨l,_,rfl,e1,_,rfl,t,_,rfl,.inr (SqT.of (e2 _ _ ht1)),rfl,?_⟩
  rw[KJ,lw]
  have:decide (V.int (zones.length:Int)=V.int (zones.length:Int))=true:=QbN rfl
  rw[this]
  exact q _ (s1.trans e2)
theorem dX (C:Code K mg "is_plan" Qe Kw) (T:Ty K mg op oe kd wk) (Ci:Good P w K mg base "is_row" 1 Dq GZ) (Fx:Good P w K mg base "is_within" 2 Et Ly) (Z6:Good P w K mg base "are_loops" 8 HW Xw) (Z5:Good P w K mg base "are_zones" 5 HN Xp) (G9:Good P w K mg base "devices" 2 Gg Tn):Good P w K mg base "is_plan" 9 Kw QX:=by
 have sc:=Jl
 refine C.good Jl (λvs H Q E h=>?_) (λf cdv A outer s H vs Q E hr h=>?_)
 ·obtain⟨pl,most,loops,zones,rfl,_⟩:=h
  rfl
 obtain⟨pl,most,loops,zones,rfl,pa,q⟩:=h
 obtain⟨Ls,zs,ws,zvs,e1,e2,e3,e4,e5⟩:=pa.at_
 refine⟨_,(Ag (Ck (Ek (Dc (Aw Ci hr (Aa (pv 0) (Aa Ae (Aa Ae Ac)))))) (Ai (Ba Fz)) BL)
 (Ag (G5 (pv 0) (Cw rfl (Am (Aj (i:=1) Jl.nd rfl (Or.inl rfl)) (Am (Aj (i:=2) Jl.nd rfl (Or.inl rfl)) (Am (Aj (i:=3) Jl.nd rfl (Or.inl rfl)) Bo)))))
 (Ag (Ck (PW.pt (MK (Ek (Dc (Aw Fx hr (Aa (pv 1) (Aa Ae (Aa Ae Ac)))))) (MK (Ek (Dc (Aw Z6 hr (Aa (pv 2) Ac)))) (N7 (Ek (Dc (Aw Z5 hr (Aa (pv 3) Ac)))))))) (Ai (Ba Fz)) BL)
 (Ai (Ba (Ox MP MP Ae (Ax Bd rfl T.len Cu (Aa (Aw G9 hr (Aa (pv 0) Ac)) Ac)) Ae)))))),?_⟩
 refine⟨_,rfl,.ref pl,3,3,rfl,Ie e1,_,rfl,?_⟩
 rw[Df e1,Es (by show (3:Int)<=3;decide) (by show (3:Int)<=3;decide)]
 refine Cp ⟨_,rfl,pl,_,rfl,SqT.of e1,rfl,_,_,rfl,_,_,rfl,_,_,rfl,rfl,?_⟩
 refine⟨_,rfl,most,1,30,rfl,_,rfl,?_⟩
 rw[QbN pa.pok.mo]
 refine Cp ⟨_,rfl,Ls,ws,loops,rfl,e2,e3,pa.ok.ok,pa.pok.bd,pa.lo,pa.ok.hi,λH1 s1=>⟨_,rfl,Cp ?_⟩⟩
 refine⟨_,rfl,zs,zvs,zones,rfl,s1 _ _ e4,Paired.Az e5 λ_ _ z=>z.tups (Ao.of s1),λz hz=>⟨pa.pok.znm z hz,pa.pok.zup z hz,λx hx=>pa.pok.bd x (lC pa.ok (pa.pok.zin z hz x hx))⟩,pa.pok.tR,pa.pok.zdi,λH2 s2=>⟨_,rfl,Cp ?_⟩⟩
 have s12:=s1.trans s2
 refine⟨_,rfl,pl,loops,rfl,(pa.same s12).plan,pa.ok,λl xs H3 hl hx hp s3=>?_⟩
 have lx:=QbS hp
 have la:(up (pdL loops) loops.length).length=(Cj loops).length:=by rw[<-Je loops,Qbx]
 have c1:=pa.pok.cnt.1
 have c2:=pa.pok.cnt.2
 refine⟨l,_,rfl,.inl (SqL.of hx),_,_,rfl,rfl,_,rfl,?_⟩
 have g1:decide ((1:Int)<=(xs.length:Int))=true:=QbN (by omega)
 rw[g1]
 refine BZ ⟨_,_,rfl,rfl,?_⟩
 have g2:decide ((xs.length:Int)<=30)=true:=QbN (by omega)
 show Q (.bl (decide ((xs.length:Int)<=30))) H3
 rw[g2]
 exact q _ (s12.trans s3)
theorem R9 (C:Code K mg "address_twice" Jp Ft) (T:Ty K mg op oe kd wk) (G9:Good P w K mg base "devices" 2 Gg Tn):Good P w K mg base "address_twice" 3 Ft Hu:=by
 have sc:=DK
 refine C.good DK (λvs H Q E h=>?_) (λf cdv A outer s H vs Q E hr h=>?_)
 ·obtain⟨pl,most,loops,zones,rfl,_⟩:=h
  rfl
 obtain⟨pl,most,loops,zones,rfl,pa,q⟩:=h
 refine⟨_,(Ag (Bb (i:=1) DK.nd rfl (Or.inl rfl) Yo)
 (Ag (Bv QbA rfl (DN (Aw G9 hr (Aa (pv 0) Ac))) (Cw rfl (Am (Aj (i:=2) DK.nd rfl (Or.inl rfl)) (Am (Aj (i:=3) DK.nd rfl (Or.inl rfl)) (Am (Aj (i:=4) DK.nd rfl (Or.inl rfl)) Bo))))
 (Ag (Ck (Ql (iM (Cv hr) (pv 4) (pv 1))) (Ai (Ba (Bh (Aa Bp (Aa (pv 4) Ac))))) BL)
 (Ai (Hi (Cv hr) (pv 1) (pv 4) Fz rfl))))
 (Ai (Ba N8)))),?_⟩
 refine λd hd=>?_
 have s0:=Af hd (.dK [])
 refine⟨_,rfl,pl,loops,rfl,(pa.same s0).plan,pa.ok,λl xs H1 hl hx hp s1=>⟨l,rfl,⟨_,SqL.of hx⟩,?_⟩⟩
 have lx:=QbS hp
 have la:(up (pdL loops) loops.length).length=(Cj loops).length:=by rw[<-Je loops,Qbx]
 have c2:=pa.pok.cnt.2
 have nd:((up (pdL loops) loops.length).map (·.addr)).Nodup:=by rw[Je];exact pa.pok.nd
 generalize up (pdL loops) loops.length=ds at *
 have hd1:H1 d=some (.dK []):=s1 _ _ Ab
 have nld:l≠d:=λz=>by rw[z,hd1] at hx;cases hx
 have nt:∀HH:Hp,(∃kvs,HH d=some (.dK kvs))->∀zs,HH d≠some (.tup zs):=λHH ⟨kvs,e⟩ zs z=>by rw[e] at z;cases z
 refine Mu (xs:=xs) (λi σ HH=>∃u2 u3 u4,σ=[some (.ref pl),some (.ref d),u2,u3,u4]/\HH d=some (.dK (Hq (λz:Sd=>Sum.inl z.addr) (ds.take i)))/\Ah d H1 HH) ⟨_,_,_,rfl,hd1,Ah.refl d H1⟩ (λi σ HH _ h=>?_) (λi x σ HH hx' h=>?_) (fun σ HH h=>?_)
 ·obtain⟨u2,u3,u4,rfl,e1,e2⟩:=h
  exact SqL.of (e2 _ _ hx nld)
 ·obtain⟨u2,u3,u4,rfl,e1,e2⟩:=h
  obtain⟨z,hzi,tz,uz,rfl,h1,h2⟩:=Paired.Cq hp hx'
  have sT:=e2.tup (nt H1 ⟨_,hd1⟩)
  have fr:∀y∈ds.take i,(Sum.inl y.addr:Key)≠Sum.inl z.addr:=λy hy e=>Ib nd hzi y hy (Sum.inl.inj e)
  refine⟨tz,_,rfl,SqT.of (sT _ _ h1),rfl,_,_,rfl,_,_,rfl,_,_,rfl,rfl,?_⟩
  refine⟨_,rfl,_,rfl,d,_,rfl,Dn.k (k:=Sum.inl z.addr) e1,_,rfl,?_⟩
  rw[M6 fr]
  refine Cp ⟨_,rfl,_,rfl,d,_,rfl,JC.k (k:=Sum.inl z.addr) e1 (Aq (by rw[KJ,Qbq];omega)),_,_,_,rfl,?_,e2.trans Ah.upd⟩
  rw[Ab,M7 (f:=λz:Sd=>Sum.inl z.addr) (x:=z) fr,Qcs hzi]
 ·obtain⟨u2,u3,u4,rfl,e1,e2⟩:=h
  exact q _ ((s0.trans s1).Bj e2 hd)
theorem Pq (C:Code K mg "address_stranger" G4 Eb) (T:Ty K mg op oe kd wk) (G9:Good P w K mg base "devices" 2 Gg Tn):Good P w K mg base "address_stranger" 3 Eb Hu:=by
 have sc:=CW
 refine C.good CW (λvs H Q E h=>?_) (λf cdv A outer s H vs Q E hr h=>?_)
 ·obtain⟨pl,most,loops,zones,rfl,_⟩:=h
  rfl
 obtain⟨pl,most,loops,zones,rfl,pa,q⟩:=h
 refine⟨_,(Ag (mH (i:=1) CW.nd rfl (Or.inl rfl) (N':=["spot","kind","address"]) rfl (Bg.plain rfl (by trivial) (by trivial) (by trivial)) (DN (Aw G9 hr (Aa (pv 0) Ac))) (λ_ _ _ _=>(FT (K:=K) (n:=3) rfl rfl (Am (Aj (i:=0) (show List.Nodup (["spot","kind","address"]:YF) by trivial) rfl (Or.inl rfl)) (Am (Aj (i:=1) (show List.Nodup (["spot","kind","address"]:YF) by trivial) rfl (Or.inl rfl)) (Am (Aj (i:=2) (show List.Nodup (["spot","kind","address"]:YF) by trivial) rfl (Or.inl rfl)) Bo))))) (λ_ _ _ _=>(G6 (Bt (T3 (K:=K) rfl) (pv 1) (Qo rfl T.WARNING_KINDS) (by with_unfolding_all rfl)))) (λ_ _ _ _=>(pv 2)) (λ_ _ _ _=>Fz))
 (Ag (Bv QbA rfl (El (Bq BR (pv 0) Ae (λ_ _=>rfl))) (Cw rfl (Am (Aj (i:=2) CW.nd rfl (Or.inl rfl)) (Am (Aj (i:=3) CW.nd rfl (Or.inl rfl)) Bo)))
 (Ai (Bv QbA rfl (El (pv 3)) (Aj (i:=4) CW.nd rfl (Or.inl rfl))
 (Ai (Ck (Ql (Qp (Cv hr) (pv 4) (pv 1))) (Ai (Ba (Bh (Aa Bp (Aa (pv 2) (Aa (pv 4) Ac)))))) BL)))))
 (Ai (Ba N8)))),?_⟩
 refine⟨_,rfl,pl,loops,rfl,pa.plan,pa.ok,λl xs H1 hl hx hp s1=>⟨l,rfl,⟨_,SqL.of hx⟩,λd hd=>?_⟩⟩
 have lx:=QbS hp
 have la:(up (pdL loops) loops.length).length=(Cj loops).length:=by rw[<-Je loops,Qbx]
 have c2:=pa.pok.cnt.2
 have nd:((up (pdL loops) loops.length).map (·.addr)).Nodup:=by rw[Je];exact pa.pok.nd
 have hw:∀x∈Eo loops,∃z∈(up (pdL loops) loops.length).filter (λz=>Eh z.kind),z.addr=x:=λx hx=>qx pa.ok hx
 generalize up (pdL loops) loops.length=ds at *
 have nld:l≠d:=Ar hx hd
 refine Z9 (xs:=xs) (λi σ HH=>∃u2 u3 u4,σ=[u2,u3,u4]/\HH d=some (.dK (Hq (λz:Sd=>Sum.inl z.addr) ((ds.take i).filter λz=>Eh z.kind)))/\Same H1 HH) ⟨_,_,_,rfl,Ab,Af hd _⟩ (λi σ HH _ h=>?_) (λi x σ HH hx' h=>?_) (fun σ HH h=>?_)
 ·obtain⟨u2,u3,u4,rfl,e1,e2⟩:=h
  exact SqL.of (e2 _ _ hx)
 ·obtain⟨u2,u3,u4,rfl,e1,e2⟩:=h
  obtain⟨z,hzi,tz,uz,rfl,h1,h2⟩:=Paired.Cq hp hx'
  have fr:∀y∈(ds.take i).filter (λz=>Eh z.kind),(Sum.inl y.addr:Key)≠Sum.inl z.addr:=λy hy e=>Ib nd hzi y (QbF.mp hy).1 (Sum.inl.inj e)
  have et:(ds.take (i+1)).filter (λz=>Eh z.kind)=(ds.take i).filter (λz=>Eh z.kind)++[z].filter (λz=>Eh z.kind):=by rw[Qcs hzi,Qbb]
  refine⟨tz,_,rfl,SqT.of (e2 _ _ h1),rfl,_,_,rfl,_,_,rfl,_,_,rfl,rfl,?_⟩
  refine⟨_,rfl,wk,_,rfl,.inr (T.wkT HH),rfl,rfl,_,rfl,?_⟩
  rw[if_neg QaT]
  refine JT (λhc=>?_) (λhc=>?_)
  ·refine⟨_,rfl,_,Sum.inl z.addr,e1,rfl,Aq ?_,_,_,_,rfl,?_,e2.Bj Ah.upd hd⟩
   ·rw[KJ]
    have:=List.length_filter_le (λz:Sd=>Eh z.kind) (ds.take i)
    rw[Qbq] at this
    omega
   ·rw[Ab,M7 (f:=λz:Sd=>Sum.inl z.addr) (x:=z) fr,et,show [z].filter (λz=>Eh z.kind)=[z] from Qas (p:=λz:Sd=>Eh z.kind) hc]
  ·refine⟨_,_,_,rfl,?_,e2⟩
   rw[et,show [z].filter (λz=>Eh z.kind)=[] from Qar (p:=λz:Sd=>Eh z.kind) (by show ¬Eh z.kind=true;rw[show Eh z.kind=false from hc];decide),QbC]
   exact e1
 obtain⟨u2,u3,u4,rfl,e1,e2⟩:=h
 rw[lx,Qbo] at e1
 have s2:=s1.trans e2
 obtain⟨Ls,zs,ws,zvs,f1,f2,f3,f4,f5⟩:=pa.at_
 refine⟨_,rfl,pl,_,_,_,rfl,rfl,SqT.of (s2 _ _ f1),rfl,zs,rfl,⟨_,SqT.of (s2 _ _ f4)⟩,?_⟩
 refine Lj (xs:=zvs) (λi σ HX=>∃u2 u3 u4,σ=[some (.ref pl),some (.ref d),u2,u3,u4]/\HX=HH) ⟨_,_,_,rfl,rfl⟩ (λi σ HX _ h=>?_) (λi x σ HX hx' h=>?_) (fun σ HX h=>?_)
 ·obtain⟨u2,u3,u4,rfl,rfl⟩:=h
  exact SqT.of (s2 _ _ f4)
 ·obtain⟨u2,u3,u4,rfl,rfl⟩:=h
  obtain⟨z,hzi,tz,uz,rfl,h1,h2⟩:=Paired.Cq f5 hx'
  refine⟨tz,_,rfl,SqT.of (s2 _ _ h1),rfl,_,_,rfl,_,_,rfl,rfl,?_⟩
  refine⟨_,rfl,uz,rfl,⟨_,SqT.of (s2 _ _ h2)⟩,?_⟩
  refine Lj (xs:=z.adr.map V.int) (λi σ HY=>∃u4,σ=[some (.ref pl),some (.ref d),some (.str z.name),some (.ref uz),u4]/\HY=HX) ⟨_,rfl,rfl⟩ (λi σ HY _ h=>?_) (λi x σ HY hx2 h=>?_) (fun σ HY h=>?_)
  ·obtain⟨u4,rfl,rfl⟩:=h
   exact SqT.of (s2 _ _ h2)
  ·obtain⟨u4,rfl,rfl⟩:=h
   rw[Qbg] at hx2
   obtain⟨n1,hn1,rfl⟩:=Qaw.mp hx2
   obtain⟨y,hy,ey⟩:=hw n1 (pa.pok.zin z (QaE hzi) n1 (QaE hn1))
   have hs:(Dw (Hq (λz:Sd=>Sum.inl z.addr) (ds.filter λz=>Eh z.kind)) (Sum.inl n1)).isSome=true:=by
    rw[<-Lq,List.any_eq_true]
    exact⟨_,Qcc.mpr ⟨y,hy,rfl⟩,QbN (by show (Sum.inl y.addr:Key)=_;rw[ey])⟩
   refine⟨_,rfl,_,rfl,d,_,rfl,Dn.k (k:=Sum.inl n1) e1,_,rfl,?_⟩
   rw[hs]
   exact Cp ⟨_,rfl,rfl⟩
  ·obtain⟨u4,rfl,rfl⟩:=h
   exact⟨_,_,_,rfl,rfl⟩
 ·obtain⟨u2,u3,u4,rfl,rfl⟩:=h
  exact q _ s2
theorem Rv (C:Code K mg "address_shared" Iv Ew) (T:Ty K mg op oe kd wk):Good P w K mg base "address_shared" 1 Ew Hu:=by
 have sc:=Du
 refine C.good Du (λvs H Q E h=>?_) (λf cdv A outer s H vs Q E hr h=>?_)
 ·obtain⟨pl,most,loops,zones,rfl,_⟩:=h
  rfl
 obtain⟨pl,most,loops,zones,rfl,pa,q⟩:=h
 refine⟨_,(Ag (Bb (i:=1) Du.nd rfl (Or.inl rfl) Yo)
 (Ag (Bv QbA rfl (El (Bq BR (pv 0) Ae (λ_ _=>rfl))) (Cw rfl (Am (Aj (i:=2) Du.nd rfl (Or.inl rfl)) (Am (Aj (i:=3) Du.nd rfl (Or.inl rfl)) Bo)))
 (Ai (Bv QbA rfl (El (pv 3)) (Aj (i:=4) Du.nd rfl (Or.inl rfl))
 (Ag (Ck (Ql (iM (Cv hr) (pv 4) (pv 1))) (Ai (Ba (Bh (Aa Bp (Aa (pv 2) (Aa (pv 4) Ac)))))) BL)
 (Ai (Hi (Cv hr) (pv 1) (pv 4) Fz rfl))))))
 (Ai (Ba N8)))),?_⟩
 refine λd hd=>?_
 have s0:=Af hd (.dK [])
 obtain⟨Ls,zs,ws,zvs,f1,f2,f3,f4,f5⟩:=pa.at_
 have nd:=pa.pok.znd
 have zl:=QbS f5
 have c8:=pa.pok.tR
 have CH:∀i,((zones.take i).flatMap (·.adr)).length<=30*(zones.take i).length:=λi=>oU λz hz=>(pa.pok.zup z (List.mem_of_mem_take hz)).2.2
 refine⟨_,rfl,pl,_,_,_,rfl,rfl,SqT.of (s0 _ _ f1),rfl,zs,rfl,⟨_,SqT.of (s0 _ _ f4)⟩,?_⟩
 refine Lj (xs:=zvs) (λi σ HX=>∃u2 u3 u4,σ=[some (.ref pl),some (.ref d),u2,u3,u4]/\HX d=some (.dK (Hq Sum.inl ((zones.take i).flatMap (·.adr))))/\Same H HX) ⟨_,_,_,rfl,Ab,s0⟩ (λi σ HX _ h=>?_) (λi x σ HX hx' h=>?_) (fun σ HX h=>?_)
 ·obtain⟨u2,u3,u4,rfl,e1,e2⟩:=h
  exact SqT.of (e2 _ _ f4)
 ·obtain⟨u2,u3,u4,rfl,e1,e2⟩:=h
  obtain⟨z,hzi,tz,uz,rfl,h1,h2⟩:=Paired.Cq f5 hx'
  have hm:=QaE hzi
  refine⟨tz,_,rfl,SqT.of (e2 _ _ h1),rfl,_,_,rfl,_,_,rfl,rfl,?_⟩
  refine⟨_,rfl,uz,rfl,⟨_,SqT.of (e2 _ _ h2)⟩,?_⟩
  have GE:=(pa.pok.zup z hm).2.2
  have hlen:(z.adr.map V.int).length=z.adr.length:=Qbx ..
  have hsp:(zones.take (i+1)).flatMap (·.adr)=(zones.take i).flatMap (·.adr)++z.adr:=by rw[Qcs hzi,QaK];simp
  have ndz:((zones.take i).flatMap (·.adr)++z.adr).Nodup:=by
   rw[<-hsp]
   exact (oR (List.take_sublist (i+1) zones)).nodup nd
  have hc:=CH i
  have hti:(zones.take i).length<=8:=by rw[Qbq];omega
  refine Lj (xs:=z.adr.map V.int) (λj σ HY=>∃u4,σ=[some (.ref pl),some (.ref d),some (.str z.name),some (.ref uz),u4]/\HY d=some (.dK (Hq Sum.inl ((zones.take i).flatMap (·.adr)++z.adr.take j)))/\Same H HY) ⟨_,rfl,by rw[List.take_zero,QbC];exact e1,e2⟩ (λj σ HY _ h=>?_) (λj x σ HY hx2 h=>?_) (fun σ HY h=>?_)
  ·obtain⟨u4,rfl,_,e⟩:=h
   exact SqT.of (e _ _ h2)
  ·obtain⟨u4,rfl,g1,g2⟩:=h
   rw[Qbg] at hx2
   obtain⟨n1,hn1,rfl⟩:=Qaw.mp hx2
   have fr:∀y∈(zones.take i).flatMap (·.adr)++z.adr.take j,(Sum.inl y:Key)≠Sum.inl n1:=λy hy e=>by
    have e:=Sum.inl.inj e
    subst e
    obtain⟨_,n2,n3⟩:=List.nodup_append.mp ndz
    rcases Qbz.mp hy with h | h
    ·exact n3 y h y (QaE hn1) rfl
    ·exact Q6 n2 hn1 y h rfl
   refine⟨_,rfl,_,rfl,d,_,rfl,Dn.k (k:=Sum.inl n1) g1,_,rfl,?_⟩
   rw[M6 fr]
   refine Cp ⟨_,rfl,_,rfl,d,_,rfl,JC.k (k:=Sum.inl n1) g1 (Aq ?_),_,rfl,?_,g2.Bj Ah.upd hd⟩
   ·rw[KJ,QaP,Qbq]
    omega
   ·rw[Ab,M7 (f:=Sum.inl) (x:=n1) fr,Qcs hn1,Qbf]
  ·obtain⟨u4,rfl,g1,g2⟩:=h
   rw[hlen,Qbo,<-hsp] at g1
   exact⟨_,_,_,rfl,g1,g2⟩
 ·obtain⟨u2,u3,u4,rfl,e1,e2⟩:=h
  exact q _ e2
theorem T5 (C:Code K mg "part_crowded" JG FW) (T:Ty K mg op oe kd wk) (rZ:Good P w K mg base "parts" 2 Ob bw):Good P w K mg base "part_crowded" 3 FW Hu:=by
 have sc:=Fo
 refine C.good Fo (λvs H Q E h=>?_) (λf cdv A outer s H vs Q E hr h=>?_)
 ·obtain⟨pl,most,loops,zones,rfl,_⟩:=h
  rfl
 obtain⟨pl,most,loops,zones,rfl,pa,q⟩:=h
 refine⟨_,(Ag (Bv QbA rfl (Ca rfl T.range (Aa (Ax Bd rfl T.len Cu (Aa (Bq BR (pv 0) Ae (λ_ _=>rfl)) Ac)) Ac)) (Aj (i:=1) Fo.nd rfl (Or.inl rfl))
 (Ai (Bv QbA rfl (iK rfl T.enumerate (Aw rZ hr (Aa (pv 0) (Aa (pv 1) Ac)))) (Cw rfl (Am (Aj (i:=2) Fo.nd rfl (Or.inl rfl)) (Am (Aj (i:=3) Fo.nd rfl (Or.inl rfl)) Bo)))
 (Ai (Ck (Bt WY (Ax Bd rfl T.len Cu (Aa (pv 3) Ac)) (Bq BR (pv 0) Ae (λ_ _=>rfl)) (BJ _)) (Ai (Ba (Bh (Aa Bp (Aa (pv 1) (Aa (pv 2) Ac)))))) BL)))))
 (Ai (Ba N8))),?_⟩
 obtain⟨Ls,zs,ws,zvs,f1,f2,f3,f4,f5⟩:=pa.at_
 have lw:=QbS f3
 have l3:=pa.ok.hi
 refine⟨_,rfl,pl,_,_,_,rfl,rfl,SqT.of f1,rfl,Ls,_,rfl,.inr (SqT.of f2),_,rfl,by omega,by omega,?_⟩
 rw[Qbh]
 refine Dk (λi σ HX=>∃u1 u2 u3,σ=[some (.ref pl),u1,u2,u3]/\Same H HX) ⟨_,_,_,rfl,Same.refl H⟩ (λi σ HX hi h=>?_) (fun σ HX h=>?_)
 ·obtain⟨u1,u2,u3,rfl,e1⟩:=h
  have hwi:ws[i]?=some ws[i]:=Qak hi
  obtain⟨ps,hpi,t,vs',ev,ht,hps⟩:=Paired.Cq f3 hwi
  have hm:=QaE hpi
  have okl:=pa.ok.ok ps hm
  refine⟨_,rfl,_,rfl,pl,Ls,t,_,_,ws,vs',i,ps,?_,e1 _ _ f1,e1 _ _ f2,by rw[hwi,ev],e1 _ _ ht,Paired.Az hps λ_ _ z=>z.tups (Ao.of e1),okl.ok,okl.hi,λl xs H1 hl hx hp hfr s1=>⟨l,rfl,⟨_,SqL.of hx⟩,?_⟩⟩
  ·show [V.ref pl,.int (0+(i:Int))]++[]=_
   rw[Qch]
   rfl
  refine jK (xs:=xs) (lo:=0) (λj σ HY=>∃u2 u3,σ=[some (.ref pl),some (.int (0+(i:Int))),u2,u3]/\Same H1 HY) ⟨_,_,rfl,Same.refl H1⟩ (λj σ HY _ h=>?_) (λj x p σ HY hx' h hp'=>?_) (fun σ HY h=>?_)
  ·obtain⟨u2,u3,rfl,g1⟩:=h
   exact SqL.of (g1 _ _ hx)
  ·obtain⟨u2,u3,rfl,g1⟩:=h
   obtain⟨sps,hsi,qq,ys,rfl,hq1,hq2⟩:=Paired.Cq hp hx'
   have ly:=QbS hq2
   have s2:=Af hp' (.tup [.int ((0+j:Nat):Int),.ref qq])
   have g2:=g1.trans s2
   have hfew:(sps.length:Int)<=most:=pa.pok.few ps hm _ (mV (lp:=i) sps (QaE hsi))
   refine⟨p,_,rfl,SqT.of Ab,rfl,_,_,rfl,_,_,rfl,rfl,?_⟩
   refine⟨_,rfl,qq,_,rfl,.inl (SqL.of (g2 _ _ hq1)),_,rfl,pl,_,_,_,rfl,rfl,SqT.of (g2 _ _ (s1 _ _ (e1 _ _ f1))),rfl,_,_,rfl,rfl,_,rfl,?_⟩
   have hg:decide ((ys.length:Int) > most)=false:=QbB (by omega)
   rw[show decide (most < (ys.length:Int))=false from hg]
   exact Cp ⟨_,_,rfl,g2⟩
  ·obtain⟨u2,u3,rfl,g1⟩:=h
   exact⟨_,_,_,rfl,e1.trans (s1.trans g1)⟩
 ·obtain⟨u1,u2,u3,rfl,e1⟩:=h
  exact q _ e1
theorem mZ (C:Code K mg "wrong" U8 Oa) (T:Ty K mg op oe kd wk) (Um:Good P w K mg base "address_twice" 3 Ft Hu) (Vt:Good P w K mg base "part_crowded" 3 FW Hu) (Qy:Good P w K mg base "address_stranger" 3 Eb Hu) (SM:Good P w K mg base "address_shared" 1 Ew Hu):Good P w K mg base "wrong" 4 Oa Hu:=by
 refine C.good lV (λvs H Q E h=>?_) (λf cdv A outer s H vs Q E hr h=>?_)
 ·obtain⟨pl,most,loops,zones,rfl,_⟩:=h
  rfl
 obtain⟨pl,most,loops,zones,rfl,pa,q⟩:=h
 refine⟨_,(Ai (Ba (Ym (Aw Um hr (Aa (pv 0) Ac)) (Ym (Aw Vt hr (Aa (pv 0) Ac)) (Ym (Aw Qy hr (Aa (pv 0) Ac)) (Ea (Aw SM hr (Aa (pv 0) Ac)))))))),?_⟩
 exact⟨_,rfl,pl,most,loops,zones,rfl,pa,λH1 s1=>⟨rfl,_,rfl,pl,most,loops,zones,rfl,pa.same s1,λH2 s2=>⟨rfl,_,rfl,pl,most,loops,zones,rfl,(pa.same s1).same s2,λH3 s3=>⟨rfl,_,rfl,pl,most,loops,zones,rfl,((pa.same s1).same s2).same s3,λH4 s4=>q _ (s1.trans (s2.trans (s3.trans s4)))⟩⟩⟩⟩
theorem Yt (C:Code K mg "is_let_by" Nj HF) (T:Ty K mg op oe kd wk) (jG:Good P w K mg base "is_plan" 9 Kw QX) (rY:Good P w K mg base "wrong" 4 Oa Hu):Good P w K mg base "is_let_by" 10 HF QX:=by
 refine C.good XM (λvs H Q E h=>?_) (λf cdv A outer s H vs Q E hr h=>?_)
 ·obtain⟨pl,most,loops,zones,rfl,_⟩:=h
  rfl
 obtain⟨pl,most,loops,zones,rfl,pa,q⟩:=h
 refine⟨_,(Ai (Ba (Em (Aw jG hr (Aa (pv 0) Ac)) (Ea (Hl uV (Aw rY hr (Aa (pv 0) Ac)) N8 (BJ _)))))),?_⟩
 exact⟨_,rfl,pl,most,loops,zones,rfl,pa,λH1 s1=>⟨_,rfl,BZ ⟨_,rfl,pl,most,loops,zones,rfl,pa.same s1,λH2 s2=>⟨rfl,q _ (s1.trans s2)⟩⟩⟩⟩
end
instance:DecidableEq Sp3:=λa b=>if h:a.lp=b.lp/\a.at_=b.at_/\a.n=b.n then isTrue (by cases a;cases b;simp at h;obtain⟨h1,h2,h3⟩:=h;subst h1 h2 h3;rfl) else isFalse λe=>h (by rw[e];exact⟨rfl,rfl,rfl⟩)
def cd3 (s:Sp3):Int:=s.lp*10000+s.at_*100+s.n
structure Bd3 (s:Sp3):Prop where
 l0:0<=s.lp
 l1:s.lp<=2
 a0:0<=s.at_
 a1:s.at_<=12
 n0:0<=s.n
 n1:s.n<=3
theorem Bd3.inj {s t:Sp3} (h:Bd3 s) (k:Bd3 t) (e:cd3 s=cd3 t):s=t:=by
 unfold cd3 at e
 have h1:=h.l0;have h2:=h.l1;have h3:=h.a0;have h4:=h.a1;have h5:=h.n0;have h6:=h.n1
 have k1:=k.l0;have k2:=k.l1;have k3:=k.a0;have k4:=k.a1;have k5:=k.n0;have k6:=k.n1
 cases s
 cases t
 dsimp only at *
 congr 1 <;> omega
theorem Bd3.c3 {s:Sp3} (h:Bd3 s):C3 s.lp s.at_ s.n (cd3 s):=⟨h.a0,by have:=h.a1;omega,h.n0,by have:=h.n1;omega,rfl⟩
theorem JD {α : Type} {c:α->Int} {f:Nat->List α} {g:Nat->Int} (hg:∀i,g i<=g (i+1)) (h1:∀i,((f i).map c).Pairwise (· < ·)) (h2:∀i,∀x∈f i,g i<=c x/\c x < g (i+1)):∀n,((up f n).map c).Pairwise (· < ·)/\∀x∈up f n,g 0<=c x/\c x < g n
 | 0=>by rw[Ld];exact⟨List.Pairwise.nil,λx h=>by cases h⟩
 | n+1=>by
  obtain⟨a,b⟩:=JD hg h1 h2 n
  have g0:∀m,g 0<=g m:=λm=>by
   induction m with
   | zero=>exact Int.le_refl _
   | succ m ih=>exact Int.le_trans ih (hg m)
  rw[Dj,Qby]
  refine⟨List.pairwise_append.mpr ⟨a,h1 n,λx hx y hy=>?_⟩,λx hx=>?_⟩
  ·obtain⟨x',hx',rfl⟩:=Qcc.mp hx
   obtain⟨y',hy',rfl⟩:=Qcc.mp hy
   have:=b x' hx'
   have:=h2 n y' hy'
   omega
  ·rcases Qbz.mp hx with h | h
   ·have:=b x h
    have:=hg n
    omega
   ·have:=h2 n x h
    have:=g0 n
    omega
theorem dH (k:Int):∀m:Nat,((List.range m).map λn:Nat=>k+(n:Int)).Pairwise (· < ·):=λm=>by
 rw[List.pairwise_map]
 exact List.pairwise_lt_range.imp λ{a b} h=>by omega
theorem Rz (lp a:Int):∀(n:Nat) (ds:List Dev),(Dy lp a n ds).map (λd=>cd3 d.spot)=(List.range' n ds.length).map λj:Nat=>lp*10000+a*100+(j:Int)
 | _,[]=>rfl
 | n,d::r=>by
  rw[Qbp,List.range'_succ,QbU,<-Rz lp a (n+1) r]
  rfl
theorem Yj (lp a:Int) (p:Place):((BK lp a p).map λd=>cd3 d.spot).Pairwise (· < ·):=by
 unfold BK
 split
 ·exact List.Pairwise.nil
 ·rw[QbU,Rz]
  refine List.pairwise_cons.mpr ⟨λx hx=>?_,?_⟩
  ·obtain⟨j,hj,rfl⟩:=Qcc.mp hx
   have:=List.mem_range'_1.mp hj
   show lp*10000+a*100+0 < _
   omega
  ·rw[List.pairwise_map]
   exact (List.pairwise_lt_range').imp λ{x y} h=>by omega
theorem Ti (lp a:Int):∀(n:Nat) (ds:List Dev) (d:Sd),d∈Dy lp a n ds->d.lp=lp/\d.at_=a/\(n:Int)<=d.n/\d.n < (n:Int)+ds.length
 | _,[],d,h=>by cases h
 | n,x::r,d,h=>by
  rcases QbT.mp h with rfl | h
  ·exact⟨rfl,rfl,Int.le_refl _,by show (n:Int) < (n:Int)+((r.length+1:Nat):Int);omega⟩
  ·obtain⟨h1,h2,h3,h4⟩:=Ti lp a (n+1) r d h
   exact⟨h1,h2,by omega,by rw[Qbp];omega⟩
theorem RD {lp a:Int} {p:Place} (h:p.spur.length<=3) {d:Sd} (hd:d∈BK lp a p):d.lp=lp/\d.at_=a/\0<=d.n/\d.n<=3:=by
 unfold BK at hd
 split at hd
 ·cases hd
 ·rcases QbT.mp hd with rfl | hd
  ·exact⟨rfl,rfl,Int.le_refl _,by show (0:Int)<=3;decide⟩
  ·obtain⟨h1,h2,h3,h4⟩:=Ti lp a 1 p.spur d hd
   exact⟨h1,h2,by omega,by omega⟩
theorem JW {α β : Type} {o:Option α} {g:α->List β} {x:β} (h:x∈ifs o g):∃a,o=some a/\x∈g a:=by
 cases o with
 | none=>cases h
 | some a=>exact⟨a,rfl,h⟩
theorem Hg {α : Type} {f:Nat->List α} {x:α}:∀{n:Nat},x∈up f n->∃i,i < n/\x∈f i
 | 0,h=>by rw[Ld] at h;cases h
 | n+1,h=>by
  rw[Dj] at h
  rcases Qbz.mp h with h | h
  ·obtain⟨i,a,b⟩:=Hg h
   exact⟨i,by omega,b⟩
  ·exact⟨n,Qbu n,h⟩
theorem JV {α β : Type} {c:β->Int} {o:Option α} {g:α->List β} (h:∀a,o=some a->((g a).map c).Pairwise (· < ·)):((ifs o g).map c).Pairwise (· < ·):=by
 cases o with
 | none=>exact List.Pairwise.nil
 | some a=>exact h a rfl
theorem cG {loops:YU} (ok:Ed loops) {k:Nat} {d:Sd} (h:d∈pdL loops k):d.lp=(k:Int)/\1<=d.at_/\d.at_<=12/\0<=d.n/\d.n<=3:=by
 obtain⟨ps,hps,h⟩:=JW h
 have okl:=ok.ok ps (QaE hps)
 obtain⟨i,hi,h⟩:=Hg h
 obtain⟨p,hp,h⟩:=JW h
 obtain⟨h1,h2,h3,h4⟩:=RD (okl.ok p (QaE hp)).spur h
 have:=okl.hi
 exact⟨h1,by rw[h2];omega,by rw[h2];omega,h3,h4⟩
theorem oX {loops:YU} (ok:Ed loops):((up (pdL loops) loops.length).map λd=>cd3 d.spot).Pairwise (· < ·):=by
 refine (JD (g:=λi=>(i:Int)*10000) (λi=>by omega) (λk=>JV λps hps=>?_) (λk d hd=>?_) loops.length).1
 ·have okl:=ok.ok ps (QaE hps)
  refine (JD (g:=λi=>(k:Int)*10000+(1+i:Int)*100) (λi=>by omega) (λi=>JV λp hp=>Yj _ _ p) (λi d hd=>?_) ps.length).1
  obtain⟨p,hp,hd⟩:=JW hd
  obtain⟨h1,h2,h3,h4⟩:=RD (okl.ok p (QaE hp)).spur hd
  show (k:Int)*10000+(1+i:Int)*100<=d.lp*10000+d.at_*100+d.n/\d.lp*10000+d.at_*100+d.n < (k:Int)*10000+(1+((i+1:Nat):Int))*100
  rw[h1,h2]
  push_cast
  omega
 ·obtain⟨h1,h2,h3,h4,h5⟩:=cG ok hd
  show (k:Int)*10000<=d.lp*10000+d.at_*100+d.n/\d.lp*10000+d.at_*100+d.n < ((k+1:Nat):Int)*10000
  rw[h1]
  push_cast
  omega
theorem wH {loops:YU} (ok:Ed loops):∀d∈up (pdL loops) loops.length,Bd3 d.spot:=λd hd=>by
 obtain⟨k,hk,hd⟩:=Hg hd
 obtain⟨h1,h2,h3,h4,h5⟩:=cG ok hd
 have:=ok.hi
 exact⟨by show 0<=d.lp;omega,by show d.lp<=2;omega,by show 0<=d.at_;omega,h3,h4,h5⟩
theorem aR {lp:Int} {ps:List Place} (ok:OkL ps) {i:Nat} {s:Sp3} (h:s∈st1 lp ps i):s.lp=lp/\s.at_=((1+i:Nat):Int)/\i < ps.length/\0<=s.n/\s.n<=3:=by
 obtain⟨p,hp,h⟩:=JW h
 have h3:=(ok.ok p (QaE hp)).spur
 obtain⟨n,hn,rfl⟩:=Qcc.mp h
 have:=QbR.mp hn
 exact⟨rfl,rfl,(Qag.mp hp).1,by show (0:Int)<=(n:Int);omega,by show (n:Int)<=3;omega⟩
theorem gK {loops:YU} (ok:Ed loops) {k:Nat} {s:Sp3} (h:s∈stL loops k):s.lp=(k:Int)/\0<=s.at_/\s.at_<=12/\0<=s.n/\s.n<=3:=by
 obtain⟨ps,hps,h⟩:=JW h
 have okl:=ok.ok ps (QaE hps)
 have CD:=okl.hi
 rcases QbT.mp h with rfl | h
 ·exact⟨rfl,by show (0:Int)<=0;decide,by show (0:Int)<=12;decide,by show (0:Int)<=0;decide,by show (0:Int)<=3;decide⟩
 ·obtain⟨i,hi,h⟩:=Hg h
  obtain⟨h1,h2,h3,h4,h5⟩:=aR okl h
  exact⟨h1,by rw[h2];omega,by rw[h2];omega,h4,h5⟩
theorem qF {loops:YU} (ok:Ed loops):((up (stL loops) loops.length).map cd3).Pairwise (· < ·):=by
 refine (JD (g:=λi=>(i:Int)*10000) (λi=>by omega) (λk=>JV λps hps=>?_) (λk d hd=>?_) loops.length).1
 ·have okl:=ok.ok ps (QaE hps)
  obtain⟨a,b⟩:=JD (c:=cd3) (f:=st1 (k:Int) ps) (g:=λi=>(k:Int)*10000+(1+i:Int)*100) (λi=>by omega) (λi=>JV λp hp=>by
   rw[Qcf]
   have:=dH ((k:Int)*10000+((1+i:Nat):Int)*100) (p.spur.length+1)
   exact this) (λi s hs=>by
   obtain⟨h1,h2,h3,h4,h5⟩:=aR okl hs
   show (k:Int)*10000+(1+i:Int)*100<=s.lp*10000+s.at_*100+s.n/\s.lp*10000+s.at_*100+s.n < (k:Int)*10000+(1+((i+1:Nat):Int))*100
   rw[h1,h2]
   push_cast
   omega) ps.length
  rw[QbU]
  refine List.pairwise_cons.mpr ⟨λx hx=>?_,a⟩
  obtain⟨s,hs,rfl⟩:=Qcc.mp hx
  have h0:=(b s hs).1
  have h0:(k:Int)*10000+(1+((0:Nat):Int))*100<=cd3 s:=h0
  show (k:Int)*10000+0*100+0 < cd3 s
  omega
 ·obtain⟨h1,h2,h3,h4,h5⟩:=gK ok hd
  show (k:Int)*10000<=d.lp*10000+d.at_*100+d.n/\d.lp*10000+d.at_*100+d.n < ((k+1:Nat):Int)*10000
  rw[h1]
  push_cast
  omega
theorem xP {loops:YU} (ok:Ed loops):∀s∈up (stL loops) loops.length,Bd3 s:=λs hs=>by
 obtain⟨k,hk,hs⟩:=Hg hs
 obtain⟨h1,h2,h3,h4,h5⟩:=gK ok hs
 have:=ok.hi
 exact⟨by omega,by omega,h2,h3,h4,h5⟩
theorem Vc {α : Type} {c:α->Int} {l:List α} (h:(l.map c).Pairwise (· < ·)):l.Nodup:=by
 rw[List.pairwise_map] at h
 exact h.imp λ{a b} hab e=>by rw[e] at hab;omega
abbrev Iw:Stmt:=(inClass (top 45) 0)
abbrev Ey:YF:=["self","plan"]
theorem Rr:Ay ["self","plan"] Ey (Ak Iw):=⟨rfl,rfl,rfl,by trivial,rfl,by trivial,by trivial⟩
abbrev FQ:Stmt:=(inClass (top 45) 1)
abbrev Cg:YF:=["self","stretch"]
theorem Ng:Ay ["self","stretch"] Cg (Ak FQ):=⟨rfl,rfl,rfl,by trivial,rfl,by trivial,by trivial⟩
abbrev Nr:Stmt:=(inClass (top 45) 3)
abbrev GD:YF:=["self","stretch"]
theorem X4:Ay ["self","stretch"] GD (Ak Nr):=⟨rfl,rfl,rfl,by trivial,rfl,by trivial,by trivial⟩
abbrev KZ:Stmt:=(inClass (top 45) 4)
abbrev Fl:YF:=["self","stretch"]
theorem U6:Ay ["self","stretch"] Fl (Ak KZ):=⟨rfl,rfl,rfl,by trivial,rfl,by trivial,by trivial⟩
abbrev LR:Stmt:=(inClass (top 45) 5)
abbrev Gb:YF:=["self","stretch"]
theorem Wr:Ay ["self","stretch"] Gb (Ak LR):=⟨rfl,rfl,rfl,by trivial,rfl,by trivial,by trivial⟩
structure Tw (K:YD) (mg:YB) (op oe kd wk C:Addr):Prop extends Ty K mg op oe kd wk where
 cl:Cls K C
 mgC:mg "Wires"=some (.ref C)
 YX:Ih K C "plan"
 Ez:Ih K C "states"
 Sg:Ih K C "filled"
 Fv:Ih K C "gaps"
def ff (pl d1 d2 d3:Addr):List (Str×V):=[("plan",.ref pl),("states",.ref d1),("filled",.ref d2),("gaps",.ref d3)]
theorem nW:(["plan","states","filled","gaps"]:YF).Nodup:=by trivial
section
variable (pl d1 d2 d3:Addr)
theorem fnd:((ff pl d1 d2 d3).map (·.1)).Nodup:=nW
theorem Ep:List.lookup ("states":Str) (ff pl d1 d2 d3)=some (V.ref d1):=QB (i:=1) (fnd pl d1 d2 d3) rfl
theorem fj:List.lookup ("filled":Str) (ff pl d1 d2 d3)=some (V.ref d2):=QB (i:=2) (fnd pl d1 d2 d3) rfl
end
theorem fno {pl d1 d2 d3:Addr} {x:Str} (h:x∉(["plan","states","filled","gaps"]:YF)):(ff pl d1 d2 d3).lookup x=none:=qe h
def k3 (s:Sp3):List Key:=[.inl s.lp,.inl s.at_,.inl s.n]
theorem Qw {s t:Sp3} (h:k3 s=k3 t):s=t:=by
 cases s
 cases t
 simp[k3] at h
 obtain⟨h1,h2,h3⟩:=h
 subst h1 h2 h3
 rfl
abbrev YR:=List (Sp3×Str)
def stV (hs:YR):YL:=hs.map λx=>(k3 x.1,.str x.2)
theorem N6 {κ : Type} [DecidableEq κ]:∀{l:List (κ×V)} {k:κ},(∀x∈l,x.1≠k)->Dw l k=none
 | [],_,_=>rfl
 | a::r,k,h=>by rw[GR (h a (QaQ ..))];exact N6 λx hx=>h x (QaF _ hx)
theorem Ye {κ : Type} [DecidableEq κ] {l:List (κ×V)} {k:κ} {v:V} (h:∃x∈l,x.1=k):putK l k v=l.map λkv=>if kv.1=k then (kv.1,v) else kv:=by
 unfold putK
 obtain⟨x,hx,e⟩:=h
 exact if_pos (List.any_eq_true.mpr ⟨x,hx,QbN e⟩)
def G3 {β : Type} (l:List (Sp3×β)) (s:Sp3) (v:β):List (Sp3×β):=l.map λx=>if x.1=s then (x.1,v) else x
theorem XF {β : Type} (l:List (Sp3×β)) (s:Sp3) (v:β):(G3 l s v).map (·.1)=l.map (·.1):=by
 unfold G3
 rw[Qcf]
 refine QaL λx _=>?_
 show (if x.1=s then (x.1,v) else x).1=x.1
 split <;> rfl
theorem lQ {β : Type} (l:List (Sp3×β)) (s:Sp3) (v:β):(G3 l s v).length=l.length:=Qbx ..
theorem UL {hs:YR} {s:Sp3} {z:Str} (h:s∈hs.map (·.1)):putK (stV hs) (k3 s) (.str z)=stV (G3 hs s z):=by
 obtain⟨x,hx,e⟩:=Qcc.mp h
 rw[Ye (l:=stV hs) ⟨_,Qcc.mpr ⟨x,hx,rfl⟩,by show k3 x.1=_;rw[e]⟩]
 unfold stV G3
 rw[Qcf,Qcf]
 refine QaL λy _=>?_
 show (if k3 y.1=k3 s then (k3 y.1,V.str z) else (k3 y.1,V.str y.2))=(k3 (if y.1=s then (y.1,z) else y).1,V.str (if y.1=s then (y.1,z) else y).2)
 by_cases e:y.1=s
 ·rw[if_pos (by rw[e]),if_pos e]
 ·rw[if_neg (λz=>e (Qw z)),if_neg e]
def HeldAt (H:Hp) (v:V):Option (Str×Int)->Prop
 | none=>v=.non
 | some d=>∃t,v=.ref t/\H t=some (.tup [.str d.1,.int d.2])
def Jz (H:Hp) (kv:List Key×V) (x:Sp3×Option (Str×Int)):Prop:=kv.1=k3 x.1/\HeldAt H kv.2 x.2
theorem Jz.tups {H H':Hp} (s:Ao H H') {kv:List Key×V} {x:Sp3×Option (Str×Int)} (h:Jz H kv x):Jz H' kv x:=by
 obtain⟨h1,h2⟩:=h
 refine⟨h1,?_⟩
 cases e:x.2 with
 | none=>rw[e] at h2;exact h2
 | some d=>
  rw[e] at h2
  obtain⟨t,a,b⟩:=h2
  exact⟨t,a,s _ _ b⟩
def k2 (g:Gt):List Key:=[.inl g.lp,.inl g.at_]
theorem Ud {s t:Gt} (h:k2 s=k2 t):s=t:=by
 cases s
 cases t
 simp[k2] at h
 obtain⟨h1,h2⟩:=h
 subst h1 h2
 rfl
abbrev YT:=List (Gt×Bool)
def gpV (gs:YT):YL:=gs.map λx=>(k2 x.1,.bl x.2)
structure WAt (C:Addr) (H:Hp) (p pl d1 d2 d3:Addr) (hs:YR) (fl:List (Sp3×Option (Str×Int))) (gs:YT):Prop where
 ins:∃dx,H p=some (.ins C dx (ff pl d1 d2 d3))
 st:H d1=some (.dT (stV hs))
 fi:∃kvs,H d2=some (.dT kvs)/\Paired (Jz H) kvs fl
 nd1:(hs.map (·.1)).Nodup
 nd2:(fl.map (·.1)).Nodup
 l1:hs.length<=200
 l2:fl.length<=200
 gp:H d3=some (.dT (gpV gs))
 nd3:(gs.map (·.1)).Nodup
 l3:gs.length<=200
 n13:d1≠d3
 n23:d2≠d3
abbrev YQ:=List (Sp3×Option (Str×Int))
theorem WAt.same {C:Addr} {H H':Hp} {p pl d1 d2 d3:Addr} {hs:YR} {fl:YQ} {gs:YT} (h:WAt C H p pl d1 d2 d3 hs fl gs) (s:Same H H'):WAt C H' p pl d1 d2 d3 hs fl gs:=by
 obtain⟨dx,e⟩:=h.ins
 obtain⟨kvs,e2,e3⟩:=h.fi
 exact⟨⟨dx,s _ _ e⟩,s _ _ h.st,⟨kvs,s _ _ e2,Paired.Az e3 λ_ _ z=>z.tups (Ao.of s)⟩,h.nd1,h.nd2,h.l1,h.l2,s _ _ h.gp,h.nd3,h.l3,h.n13,h.n23⟩
theorem WAt.Ce {C b:Addr} {H H':Hp} {p pl d1 d2 d3:Addr} {hs:YR} {fl:YQ} {gs:YT} (h:WAt C H p pl d1 d2 d3 hs fl gs) (s:Ah b H H') (nt:∀zs,H b≠some (.tup zs)) (n0:p≠b) (n1:d1≠b) (n2:d2≠b) (n3:d3≠b):WAt C H' p pl d1 d2 d3 hs fl gs:=by
 obtain⟨dx,e⟩:=h.ins
 obtain⟨kvs,e2,e3⟩:=h.fi
 exact⟨⟨dx,s _ _ e n0⟩,s _ _ h.st n1,⟨kvs,s _ _ e2 n2,Paired.Az e3 λ_ _ z=>z.tups (s.tup nt)⟩,h.nd1,h.nd2,h.l1,h.l2,s _ _ h.gp n3,h.nd3,h.l3,h.n13,h.n23⟩
def FR (H:Hp) (v:V) (ss:YV):Prop:=∃b s,v=.ref b/\H b=some (.tup [.int s.lp,.int s.at_,.int s.n])/\s∈ss
theorem ZG {H:Hp} {v:V} {ss:YV} (h:FR H v ss):QT (Jg H v) 3=true:=by
 obtain⟨b,s,rfl,hb,_⟩:=h
 rw[Df hb]
 rfl
theorem Zf {H:Hp}:∀{kvs:YL} {fl:YQ},Paired (Jz H) kvs fl->kvs.map (·.1)=fl.map λx=>k3 x.1
 | _,_,.nil=>rfl
 | _,_,.cons h t=>by rw[QbU,QbU,h.1,Zf t]
theorem lN {C:Addr} {H H':Hp} {p pl d1 d2 d3:Addr} {hs:YR} {fl:YQ} {gs:YT} {s:Sp3} {z:Str} (R:WAt C H p pl d1 d2 d3 hs fl gs) (n12:d1≠d2) (e:H' d1=some (.dT (stV (G3 hs s z)))) (sb:Ah d1 H H') (nt:∀zs,H d1≠some (.tup zs)) (npd:p≠d1):WAt C H' p pl d1 d2 d3 (G3 hs s z) fl gs:=by
 obtain⟨dx,hp⟩:=R.ins
 obtain⟨kvs,hk,hf⟩:=R.fi
 exact⟨⟨dx,sb _ _ hp npd⟩,e,⟨kvs,sb _ _ hk n12.symm,Paired.Az hf λ_ _ y=>y.tups (sb.tup nt)⟩,by rw[XF];exact R.nd1,R.nd2,by rw[lQ];exact R.l1,R.l2,sb _ _ R.gp R.n13.symm,R.nd3,R.l3,R.n13,R.n23⟩
def Tp (C:Addr):Sp:=λvs H Q _=>∃p pl d1 d2 d3 hs fl gs b s,vs=[.ref p,.ref b]/\WAt C H p pl d1 d2 d3 hs fl gs/\H b=some (.tup [.int s.lp,.int s.at_,.int s.n])/\s∈hs.map (·.1)/\∀H',Same H H'->Q .non H'
def K5 (C:Addr) (z:Str):Sp:=λvs H Q _=>∃p pl d1 d2 d3 hs fl gs b s,vs=[.ref p,.ref b]/\WAt C H p pl d1 d2 d3 hs fl gs/\d1≠d2/\H b=some (.tup [.int s.lp,.int s.at_,.int s.n])/\s∈hs.map (·.1)/\∀H',WAt C H' p pl d1 d2 d3 (G3 hs s z) fl gs->Ah d1 H H'->Q .non H'
theorem qH {H:Hp} {v:V} {s:Sp3} (h:Cr H v s):Th H v:=by
 obtain⟨u,rfl,e⟩:=h
 refine⟨.inr ⟨_,e⟩,λxs ex=>?_⟩
 rw[Df e] at ex
 cases ex
 refine⟨by show 3<=100;decide,λy hy=>?_⟩
 have:y=.int s.lp\/y=.int s.at_\/y=.int s.n:=by simpa using hy
 rcases this with rfl | rfl | rfl <;> exact True.intro
section
variable {P:Program} {w:World} {K:YD} {mg:YB} {base:Heap} {op oe kd wk C:Addr}
theorem R8 (c:Im K C "check_stretch" "Wires.check_stretch" FQ Cg) (T:Tw K mg op oe kd wk C) (Mt:Good P w K mg base "are_wholes" 2 FZ PN):CT P w K mg base C "check_stretch" 3 Cg (Tp C):=by
 refine c.good Ng (λvs H Q E h=>?_) (λf cdv A outer s H vs Q E hr h=>?_)
 ·obtain⟨p,pl,d1,d2,d3,hs,fl,gs,b,s,rfl,_⟩:=h
  rfl
 obtain⟨p,pl,d1,d2,d3,hs,fl,gs,b,s',rfl,R,hb,hin,q⟩:=h
 refine⟨_,(Ai (Ck (PW.pt (MK (Ek (Dc (Aw Mt hr (Aa (pv 1) (Aa Ae Ac))))) (N7 (Ql (Qp (Cv hr) (pv 1) (CV (pv 0) rfl)))))) (Ai RW) BL)),?_⟩
 refine⟨_,rfl,.ref b,3,rfl,qH ⟨b,rfl,hb⟩,λH1 s1=>⟨_,rfl,?_⟩⟩
 rw[ZG ⟨b,s',rfl,hb,hin⟩]
 have R1:=R.same s1
 obtain⟨dx,hp⟩:=R1.ins
 refine Cp ⟨_,rfl,_,rfl,p,C,dx,_,_,rfl,hp,T.cl,T.Ez,Ep pl d1 d2 d3,d1,_,rfl,Dn.t (k:=k3 s') R1.st (s1 _ _ hb),_,rfl,?_⟩
 have hs':(Dw (stV hs) (k3 s')).isSome=true:=by
  obtain⟨x,hx,e⟩:=Qcc.mp hin
  rw[<-Lq,List.any_eq_true]
  exact⟨_,Qcc.mpr ⟨x,hx,rfl⟩,QbN (by show k3 x.1=_;rw[e])⟩
 rw[hs']
 exact Cp (q _ s1)
theorem uY (c:Im K C "cut" "Wires.cut" Nr GD) (T:Tw K mg op oe kd wk C) (En:CT P w K mg base C "check_stretch" 3 Cg (Tp C)):CT P w K mg base C "cut" 4 GD (K5 C "cut"):=by
 refine c.good X4 (λvs H Q E h=>?_) (λf cdv A outer s H vs Q E hr h=>?_)
 ·obtain⟨p,pl,d1,d2,d3,hs,fl,gs,b,s,rfl,_⟩:=h
  rfl
 obtain⟨p,pl,d1,d2,d3,hs,fl,gs,b,s',rfl,R,n12,hb,hin,q⟩:=h
 refine⟨_,(Ag (Bf (Hj (pv 0) T.cl En hr (Aa (pv 1) Ac)))
 (Ai (Hi (Cv hr) (CV (pv 0) rfl) (pv 1) Bp rfl))),?_⟩
 obtain⟨dx,hp⟩:=R.ins
 refine⟨_,rfl,p,dx,_,rfl,hp,fno (by trivial),_,rfl,p,pl,d1,d2,d3,hs,fl,gs,b,s',rfl,R,hb,hin,λH1 s1=>?_⟩
 have R1:=R.same s1
 obtain⟨dx1,hp1⟩:=R1.ins
 have hd1:=R1.st
 have npd:p≠d1:=λz=>by rw[z,hd1] at hp1;cases hp1
 have nt:∀zs,H1 d1≠some (.tup zs):=λzs z=>by rw[hd1] at z;cases z
 have l1:=R.l1
 refine⟨_,rfl,p,C,dx1,_,_,rfl,hp1,T.cl,T.Ez,Ep pl d1 d2 d3,_,rfl,d1,_,rfl,JC.t (k:=k3 s') hd1 (s1 _ _ hb) (Aq (by unfold stV;rw[Qbx];omega)),?_⟩
 rw[UL hin]
 exact q _ (lN R1 n12 (H':=upd H1 d1 _) Ab (Ah.upd) nt npd) ((Ah.of s1).trans Ah.upd)
theorem nj (c:Im K C "short" "Wires.short" KZ Fl) (T:Tw K mg op oe kd wk C) (En:CT P w K mg base C "check_stretch" 3 Cg (Tp C)):CT P w K mg base C "short" 4 Fl (K5 C "short"):=by
 refine c.good U6 (λvs H Q E h=>?_) (λf cdv A outer s H vs Q E hr h=>?_)
 ·obtain⟨p,pl,d1,d2,d3,hs,fl,gs,b,s,rfl,_⟩:=h
  rfl
 obtain⟨p,pl,d1,d2,d3,hs,fl,gs,b,s',rfl,R,n12,hb,hin,q⟩:=h
 refine⟨_,(Ag (Bf (Hj (pv 0) T.cl En hr (Aa (pv 1) Ac)))
 (Ai (Hi (Cv hr) (CV (pv 0) rfl) (pv 1) Bp rfl))),?_⟩
 obtain⟨dx,hp⟩:=R.ins
 refine⟨_,rfl,p,dx,_,rfl,hp,fno (by trivial),_,rfl,p,pl,d1,d2,d3,hs,fl,gs,b,s',rfl,R,hb,hin,λH1 s1=>?_⟩
 have R1:=R.same s1
 obtain⟨dx1,hp1⟩:=R1.ins
 have hd1:=R1.st
 have npd:p≠d1:=λz=>by rw[z,hd1] at hp1;cases hp1
 have nt:∀zs,H1 d1≠some (.tup zs):=λzs z=>by rw[hd1] at z;cases z
 have l1:=R.l1
 refine⟨_,rfl,p,C,dx1,_,_,rfl,hp1,T.cl,T.Ez,Ep pl d1 d2 d3,_,rfl,d1,_,rfl,JC.t (k:=k3 s') hd1 (s1 _ _ hb) (Aq (by unfold stV;rw[Qbx];omega)),?_⟩
 rw[UL hin]
 exact q _ (lN R1 n12 (H':=upd H1 d1 _) Ab (Ah.upd) nt npd) ((Ah.of s1).trans Ah.upd)
theorem rm (c:Im K C "mend" "Wires.mend" LR Gb) (T:Tw K mg op oe kd wk C) (En:CT P w K mg base C "check_stretch" 3 Cg (Tp C)):CT P w K mg base C "mend" 4 Gb (K5 C "whole"):=by
 refine c.good Wr (λvs H Q E h=>?_) (λf cdv A outer s H vs Q E hr h=>?_)
 ·obtain⟨p,pl,d1,d2,d3,hs,fl,gs,b,s,rfl,_⟩:=h
  rfl
 obtain⟨p,pl,d1,d2,d3,hs,fl,gs,b,s',rfl,R,n12,hb,hin,q⟩:=h
 refine⟨_,(Ag (Bf (Hj (pv 0) T.cl En hr (Aa (pv 1) Ac)))
 (Ai (Hi (Cv hr) (CV (pv 0) rfl) (pv 1) Bp rfl))),?_⟩
 obtain⟨dx,hp⟩:=R.ins
 refine⟨_,rfl,p,dx,_,rfl,hp,fno (by trivial),_,rfl,p,pl,d1,d2,d3,hs,fl,gs,b,s',rfl,R,hb,hin,λH1 s1=>?_⟩
 have R1:=R.same s1
 obtain⟨dx1,hp1⟩:=R1.ins
 have hd1:=R1.st
 have npd:p≠d1:=λz=>by rw[z,hd1] at hp1;cases hp1
 have nt:∀zs,H1 d1≠some (.tup zs):=λzs z=>by rw[hd1] at z;cases z
 have l1:=R.l1
 refine⟨_,rfl,p,C,dx1,_,_,rfl,hp1,T.cl,T.Ez,Ep pl d1 d2 d3,_,rfl,d1,_,rfl,JC.t (k:=k3 s') hd1 (s1 _ _ hb) (Aq (by unfold stV;rw[Qbx];omega)),?_⟩
 rw[UL hin]
 exact q _ (lN R1 n12 (H':=upd H1 d1 _) Ab (Ah.upd) nt npd) ((Ah.of s1).trans Ah.upd)
end
theorem IV {H HH:Hp} {d:Addr} {o:Obj} {u:HO} (s:Same (upd H d (.frz o u)) HH) (h:H d=some u):Same H (upd HH d u):=λc x e=>by
 by_cases z:c=d
 ·subst z
  rw[Ab,<-h,e]
 ·rw[Al z]
  exact s _ _ (by rw[Al z];exact e)
def hs0 (loops:YU):YR:=(up (stL loops) loops.length).map λs=>(s,"whole")
def fl0 (loops:YU):YQ:=(up (pdL loops) loops.length).map λd=>(d.spot,some (d.kind,d.addr))
theorem bV (loops:YU):(hs0 loops).map (·.1)=up (stL loops) loops.length:=by unfold hs0;rw[Qcf];exact List.map_id _
theorem cD (loops:YU):(fl0 loops).map (·.1)=(up (pdL loops) loops.length).map Sd.spot:=by unfold fl0;rw[Qcf];rfl
theorem uF {loops:YU} (ok:Ed loops):(up (stL loops) loops.length).length<=200:=by
 have:=Dp (f:=stL loops) (c:=49) (UW ok) loops.length
 have:=ok.hi
 omega
theorem wG {loops:YU} (ok:Ed loops):(up (pdL loops) loops.length).length<=200:=by
 have:=Dp (f:=pdL loops) (c:=48) (bM ok) loops.length
 have:=ok.hi
 omega
theorem uT {loops:YU} (ok:Ed loops):(up (gtL loops) loops.length).length<=200:=by
 have:=Dp (f:=gtL loops) (c:=14) (bZ ok) loops.length
 have:=ok.hi
 omega
theorem xO {loops:YU} (ok:Ed loops):(up (stL loops) loops.length).Nodup:=Vc (qF ok)
theorem yK {loops:YU} (ok:Ed loops):((up (pdL loops) loops.length).map Sd.spot).Nodup:=Vc (c:=cd3) (by rw[Qcf];exact oX ok)
def gs0 (loops:YU):YT:=(up (gtL loops) loops.length).map λg=>(g,false)
theorem Vr (loops:YU):(gs0 loops).map (·.1)=up (gtL loops) loops.length:=by unfold gs0;rw[Qcf];exact List.map_id _
def cd2 (g:Gt):Int:=g.lp*100+g.at_
theorem cg {lp:Int} {ps:List Place} {i:Nat} {g:Gt} (h:g∈gt1 lp ps i):g.lp=lp/\g.at_=((1+i:Nat):Int)/\i < ps.length:=by
 obtain⟨p,hp,h⟩:=JW h
 split at h
 ·have:g=⟨lp,((1+i:Nat):Int)⟩:=by simpa using h
  rw[this]
  exact⟨rfl,rfl,(Qag.mp hp).1⟩
 ·cases h
theorem jy {loops:YU} (ok:Ed loops) {k:Nat} {g:Gt} (h:g∈gtL loops k):g.lp=(k:Int)/\0<=g.at_/\g.at_<=13:=by
 obtain⟨ps,hps,h⟩:=JW h
 have hi:=(ok.ok ps (QaE hps)).hi
 rcases Qbz.mp h with h | h
 ·rcases QbT.mp h with rfl | h
  ·exact⟨rfl,by show (0:Int)<=0;decide,by show (0:Int)<=13;decide⟩
  ·obtain⟨i,hi',h⟩:=Hg h
   obtain⟨h1,h2,h3⟩:=cg h
   exact⟨h1,by rw[h2];omega,by rw[h2];omega⟩
 ·have:g=⟨(k:Int),(ps.length:Int)+1⟩:=by simpa using h
  rw[this]
  exact⟨rfl,by show (0:Int)<=(ps.length:Int)+1;omega,by show (ps.length:Int)+1<=13;omega⟩
theorem rN {loops:YU} (ok:Ed loops):((up (gtL loops) loops.length).map cd2).Pairwise (· < ·):=by
 refine (JD (g:=λi=>(i:Int)*100) (λi=>by omega) (λk=>JV λps hps=>?_) (λk g hg=>?_) loops.length).1
 ·obtain⟨a,b⟩:=JD (c:=cd2) (f:=gt1 (k:Int) ps) (g:=λi=>(k:Int)*100+(1+i:Int)) (λi=>by omega) (λi=>JV λp hp=>by
   split
   ·exact Qau _ _
   ·exact List.Pairwise.nil) (λi g hg=>by
   obtain⟨h1,h2,h3⟩:=cg hg
   show (k:Int)*100+(1+i:Int)<=g.lp*100+g.at_/\g.lp*100+g.at_ < (k:Int)*100+(1+((i+1:Nat):Int))
   rw[h1,h2]
   push_cast
   omega) ps.length
  rw[Qby,QbU]
  have hb:∀x∈up (gt1 (k:Int) ps) ps.length,(k:Int)*100+(1+((0:Nat):Int))<=cd2 x/\cd2 x < (k:Int)*100+(1+((ps.length:Nat):Int)):=b
  refine List.pairwise_append.mpr ⟨List.pairwise_cons.mpr ⟨λx hx=>?_,a⟩,Qau _ _,λx hx y hy=>?_⟩
  ·obtain⟨z,hz,rfl⟩:=Qcc.mp hx
   have:=hb z hz
   show (k:Int)*100+0 < cd2 z
   omega
  ·have hy:y=(k:Int)*100+((ps.length:Int)+1):=by simpa [cd2] using hy
   rcases QbT.mp hx with rfl | hx
   ·show (k:Int)*100+0 < y
    omega
   ·obtain⟨z,hz,rfl⟩:=Qcc.mp hx
    have:=hb z hz
    omega
 ·obtain⟨h1,h2,h3⟩:=jy ok hg
  show (k:Int)*100<=g.lp*100+g.at_/\g.lp*100+g.at_ < ((k+1:Nat):Int)*100
  rw[h1]
  push_cast
  omega
theorem p7 {loops:YU} (ok:Ed loops):(up (gtL loops) loops.length).Nodup:=Vc (rN ok)
def bF (C:Addr):Sp:=λvs H Q _=>∃p dx pl most loops zones,vs=[.ref p,.ref pl]/\H p=some (.ins C dx [])/\Gm H pl most loops zones/\∀d1 d2 d3 H',H d1=none->H d2=none->H d3=none->d1≠d2->WAt C H' p pl d1 d2 d3 (hs0 loops) (fl0 loops) (gs0 loops)->Ah p H H'->Q .non H'
section
variable {P:Program} {w:World} {K:YD} {mg:YB} {base:Heap} {op oe kd wk C:Addr}
theorem nJ (F:∃f fd,Fun K "__init__" "Wires.__init__" Iw f fd/\Mk K C f/\Binds K fd Ey []) (T:Tw K mg op oe kd wk C) (Z4:Good P w K mg base "is_let_by" 10 HF QX) (Z1:Good P w K mg base "stretches" 1 Hw pK) (G9:Good P w K mg base "devices" 2 Gg Tn) (jA:Good P w K mg base "openers" 1 Kp pL):gk P w K mg base C 11 Ey (bF C):=by
 obtain⟨f,fd,F,Mk,b⟩:=F
 refine⟨f,fd,Mk,b,F.ok Rr (λvs H Q E h=>?_) (λcdv A outer s H vs Q E hr h=>?_)⟩
 ·obtain⟨p,dx,pl,most,loops,zones,rfl,_⟩:=h
  rfl
 obtain⟨p,dx,pl,most,loops,zones,rfl,hp,pa,q⟩:=h
 refine⟨_,(Ag (Ck (Ek (Dc (Aw Z4 hr (Aa (pv 1) Ac)))) (Ai RW) BL)
 (Ag (QZ (pv 0) (pv 1) rfl)
 (Ag (QZ (pv 0) (Ko (Cv hr) (N':=["stretch"]) rfl (Bg.plain rfl (by trivial) (by trivial) (by trivial)) (DN (Aw Z1 hr (Aa (pv 1) Ac))) (λ_ _ _ _=>(Aj (i:=0) (show List.Nodup (["stretch"]:YF) by trivial) rfl (Or.inl rfl))) (λ_ _ _ _=>Cy) (λ_ _ _ _=>(pv 0)) (λ_ _ _ _=>Bp)) rfl)
 (Ag (QZ (pv 0) (Ko (Cv hr) (N':=["spot","kind","address"]) rfl (Bg.plain rfl (by trivial) (by trivial) (by trivial)) (DN (Aw G9 hr (Aa (pv 1) Ac))) (λ_ _ _ _=>(FT (K:=K) (n:=3) rfl rfl (Am (Aj (i:=0) (show List.Nodup (["spot","kind","address"]:YF) by trivial) rfl (Or.inl rfl)) (Am (Aj (i:=1) (show List.Nodup (["spot","kind","address"]:YF) by trivial) rfl (Or.inl rfl)) (Am (Aj (i:=2) (show List.Nodup (["spot","kind","address"]:YF) by trivial) rfl (Or.inl rfl)) Bo))))) (λ_ _ _ _=>Cy) (λ_ _ _ _=>(pv 0)) (λ_ _ _ _=>(Bh (Aa (pv 1) (Aa (pv 2) Ac))))) rfl)
 (Ai (QZ (pv 0) (Ko (Cv hr) (N':=["opener"]) rfl (Bg.plain rfl (by trivial) (by trivial) (by trivial)) (DN (Aw jA hr (Aa (pv 1) Ac))) (λ_ _ _ _=>(Aj (i:=0) (show List.Nodup (["opener"]:YF) by trivial) rfl (Or.inl rfl))) (λ_ _ _ _=>Cy) (λ_ _ _ _=>(pv 0)) (λ_ _ _ _=>Fz)) rfl)))))),?_⟩
 have ok:=pa.ok
 have ntp:∀zs,H p≠some (.tup zs):=λzs z=>by rw[hp] at z;cases z
 refine⟨_,rfl,pl,most,loops,zones,rfl,pa,λH0 s0=>⟨_,rfl,Cp ?_⟩⟩
 refine⟨_,rfl,_,rfl,p,C,dx,_,_,rfl,s0 _ _ hp,T.cl,T.YX,(by show 0 < 1000;decide),Qz (by show _∉([]:YF);decide +kernel),λH1 h1 s1=>?_⟩
 have r1:Ah p H H1:=(Ah.of s0).trans s1
 have pa1:=pa.tups (r1.tup ntp)
 refine⟨_,rfl,pl,loops,rfl,pa1.plan,ok,λla xa H2 hla hxa hpa s2=>⟨la,rfl,⟨_,SqL.of hxa⟩,λd1 f1=>?_⟩⟩
 have lxa:=QbS hpa
 have yj:=uF ok
 have nda:=xO ok
 refine NT (xs:=xa) (λi σ HH=>(∃u,σ=[u])/\HH d1=some (.dT (stV (((up (stL loops) loops.length).take i).map λs=>(s,"whole"))))/\Same H2 HH) ⟨⟨_,rfl⟩,Ab,Af f1 _⟩ (λi σ HH _ h=>SqL.of (h.2.2 _ _ hxa)) (λi x σ HH hx h=>?_) (fun σ HH h=>?_)
 ·obtain⟨⟨u,rfl⟩,e1,e2⟩:=h
  obtain⟨sp,hsp,t,rfl,ht⟩:=Paired.Cq hpa hx
  have hi:=(Qag.mp hx).1
  unfold Fe
  dsimp only
  refine BZ ⟨_,rfl,_,k3 sp,t,e1,rfl,e2 _ _ ht,Aq (by unfold stV;rw[Qbx,Qbx,Qbq];omega),⟨_,rfl⟩,?_,e2.Bj Ah.upd f1⟩
  rw[Ab,Mf,Qcs hsp]
  ·unfold stV
   rw[Qby,Qby]
   rfl
  ·refine N6 λy hy e=>?_
   unfold stV at hy
   rw[Qcf] at hy
   obtain⟨z,hz,rfl⟩:=Qcc.mp hy
   exact Q6 nda hsp z hz (Qw e)
 obtain⟨_,e1,e2⟩:=h
 rw[lxa,Qbo] at e1
 have e1:HH d1=some (.dT (stV (hs0 loops))):=e1
 have r2:Ah p H HH:=r1.trans (Ah.of (s2.trans e2))
 refine⟨_,rfl,p,C,dx,_,_,rfl,e2 _ _ (s2 _ _ h1),T.cl,T.Ez,(by show 1 < 1000;decide),Qz (by show _∉(["plan"]:YF);decide +kernel),λH3 h3 s3=>?_⟩
 have np1:d1≠p:=λz=>by rw[z,s2 _ _ h1] at f1;cases f1
 have u1:=s3 _ _ e1 np1
 have r3:Ah p H H3:=r2.trans s3
 have f1':H d1=none:=by
  cases e:H d1 with
  | none=>rfl
  | some v=>have:=r1.trans (Ah.of s2) _ _ e np1;rw[f1] at this;cases this
 clear s3 e1 e2 r2
 have pa3:=pa.tups (r3.tup ntp)
 refine⟨_,rfl,pl,loops,rfl,pa3.plan,ok,λlb xb H4 hlb hxb hpb s4=>⟨lb,rfl,⟨_,SqL.of hxb⟩,λd2 f2=>?_⟩⟩
 have lxb:=QbS hpb
 have yh:=wG ok
 have ndb:=yK ok
 refine NT (xs:=xb) (λi σ HH=>(∃u v t,σ=[u,v,t])/\(∃kvs,HH d2=some (.dT kvs)/\Paired (Jz HH) kvs (((up (pdL loops) loops.length).take i).map λd=>(d.spot,some (d.kind,d.addr))))/\Same H4 HH) ⟨⟨_,_,_,rfl⟩,⟨[],Ab,.nil⟩,Af f2 _⟩ (λi σ HH _ h=>SqL.of (h.2.2 _ _ hxb)) (λi x σ HH hx h=>?_) (fun σ HH h=>?_)
 ·obtain⟨⟨u,v,t,rfl⟩,⟨kvs,e1,e3⟩,e2⟩:=h
  obtain⟨d,hd,tt,uu,rfl,h5,h6⟩:=Paired.Cq hpb hx
  have hi:=(Qag.mp hx).1
  have lk:=QbS e3
  rw[Qbx,Qbq] at lk
  refine⟨tt,_,rfl,SqT.of (e2 _ _ h5),rfl,_,_,rfl,_,_,rfl,_,_,rfl,rfl,?_⟩
  refine BZ ⟨_,rfl,_,rfl,_,rfl,Av (by show 2<=1000;decide),λtn htn=>?_⟩
  have t1:=Af htn (.tup [.str d.kind,.int d.addr])
  have e1':=t1 _ _ e1
  have ntd:∀zs,(upd HH tn (.tup [.str d.kind,.int d.addr])) d2≠some (.tup zs):=λzs z=>by rw[e1'] at z;cases z
  refine⟨kvs,k3 d.spot,uu,e1',rfl,t1 _ _ (e2 _ _ h6),Aq (by omega),⟨_,_,_,rfl⟩,⟨_,Ab,?_⟩,(e2.trans t1).Bj Ah.upd f2⟩
  rw[Mf,Qcs hd,Qby]
  ·have sL:=Ao.upd (o:=.dT (kvs++[(k3 d.spot,V.ref tn)])) ntd
   exact Qcm ⟨rfl,⟨tn,rfl,sL _ _ Ab⟩⟩ (Paired.Az e3 λ_ _ z=>(z.tups (Ao.of t1)).tups sL)
  ·refine N6 λy hy e=>?_
   have:y.1∈kvs.map (·.1):=Qcc.mpr ⟨y,hy,rfl⟩
   rw[Zf e3,Qcf] at this
   obtain⟨z,hz,ez⟩:=Qcc.mp this
   exact Ib ndb hd z hz (Qw (by rw[<-e,<-ez];rfl))
 obtain⟨_,⟨kvs,e1,e3⟩,e2⟩:=h
 rw[lxb,Qbo] at e3
 have e3:Paired (Jz HH) kvs (fl0 loops):=e3
 have h4:=e2 _ _ (s4 _ _ h3)
 have zP:∀zs,HH p≠some (.tup zs):=λzs z=>by rw[h4] at z;cases z
 have u2:=e2 _ _ (s4 _ _ u1)
 refine⟨_,rfl,p,C,dx,_,_,rfl,h4,T.cl,T.Sg,(by show 2 < 1000;decide),Qz (by show _∉(["plan","states"]:YF);decide +kernel),λH5 h5 s5=>?_⟩
 have np2:d2≠p:=λz=>by rw[z,s4 _ _ h3] at f2;cases f2
 have n12:d1≠d2:=Ar (s4 _ _ u1) f2
 have u3:=s5 _ _ u2 np1
 have v3:=s5 _ _ e1 np2
 have w3:Paired (Jz H5) kvs (fl0 loops):=Paired.Az e3 λ_ _ z=>z.tups (s5.tup zP)
 have r5:Ah p H H5:=r3.trans ((Ah.of (s4.trans e2)).trans s5)
 have f2':H d2=none:=by
  cases e:H d2 with
  | none=>rfl
  | some v=>have:=r3.trans (Ah.of s4) _ _ e np2;rw[f2] at this;cases this
 clear s5 e1 e2 e3 u1 u2 h3 h4
 have pa5:=pa.tups (r5.tup ntp)
 have F9:∀zs,H5 p≠some (.tup zs):=λzs z=>by rw[h5] at z;cases z
 refine⟨_,rfl,pl,loops,rfl,pa5.plan,ok,λlc xc H6 hlc hxc hpc s6=>⟨lc,rfl,⟨_,SqL.of hxc⟩,λd3 f3=>?_⟩⟩
 have lxc:=QbS hpc
 have yg:=uT ok
 refine NT (xs:=xc) (λi σ HH=>(∃u,σ=[u])/\HH d3=some (.dT (gpV (((up (gtL loops) loops.length).take i).map λg=>(g,false))))/\Same H6 HH) ⟨⟨_,rfl⟩,Ab,Af f3 _⟩ (λi σ HH _ h=>SqL.of (h.2.2 _ _ hxc)) (λi x σ HH hx h=>?_) (fun σ HH h=>?_)
 ·obtain⟨⟨u,rfl⟩,e1,e2⟩:=h
  obtain⟨g,hg,t,rfl,ht⟩:=Paired.Cq hpc hx
  have hi:=(Qag.mp hx).1
  unfold Fe
  dsimp only
  refine BZ ⟨_,rfl,_,k2 g,t,e1,rfl,e2 _ _ ht,Aq (by unfold gpV;rw[Qbx,Qbx,Qbq];omega),⟨_,rfl⟩,?_,e2.Bj Ah.upd f3⟩
  rw[Ab,Mf,Qcs hg]
  ·unfold gpV
   rw[Qby,Qby]
   rfl
  ·refine N6 λy hy e=>?_
   unfold gpV at hy
   rw[Qcf] at hy
   obtain⟨z,hz,rfl⟩:=Qcc.mp hy
   exact Q6 (p7 ok) hg z hz (Ud e)
 obtain⟨_,e1,e2⟩:=h
 rw[lxc,Qbo] at e1
 have e1:HH d3=some (.dT (gpV (gs0 loops))):=e1
 have s7:=s6.trans e2
 refine⟨_,rfl,p,C,dx,_,_,rfl,s7 _ _ h5,T.cl,T.Fv,(by show 3 < 1000;decide),Qz (by show _∉(["plan","states","filled"]:YF);decide +kernel),λH8 h8 s8=>?_⟩
 have np3:d3≠p:=λz=>by rw[z,s6 _ _ h5] at f3;cases f3
 have f3':H d3=none:=by
  cases e:H d3 with
  | none=>rfl
  | some v=>have:=r5.trans (Ah.of s6) _ _ e np3;rw[f3] at this;cases this
 have n13:d1≠d3:=Ar (s6 _ _ u3) f3
 have n23:d2≠d3:=Ar (s6 _ _ v3) f3
 have zO:∀zs,HH p≠some (.tup zs):=λzs z=>by rw[s7 _ _ h5] at z;cases z
 exact q d1 d2 d3 H8 f1' f2' f3' n12 ⟨⟨dx,h8⟩,s8 _ _ (s7 _ _ u3) np1,⟨kvs,s8 _ _ (s7 _ _ v3) np2,Paired.Az w3 λ_ _ z=>(z.tups (Ao.of s7)).tups (s8.tup zO)⟩,by rw[bV];exact nda,by rw[cD];exact ndb,by unfold hs0;rw[Qbx];exact yj,by unfold fl0;rw[Qbx];exact yh,s8 _ _ e1 np3,by rw[Vr];exact p7 ok,by unfold gs0;rw[Qbx];exact yg,n13,n23⟩ (r5.trans ((Ah.of s7).trans s8))
end
abbrev KY:Stmt:=top 40
abbrev Gq:YF:=["states","loop","at"]
theorem FJ:Ay ["states","loop","at","told","number"] Gq (Ak KY):=⟨rfl,rfl,rfl,by trivial,rfl,by trivial,by trivial⟩
def stC (hs:YR) (s:Sp3):Str:=((hs.find? λx=>decide (x.1=s)).map (·.2)).getD "cut"
theorem U0 (s:Sp3):∀hs:YR,Dw (stV hs) (k3 s)=(hs.find? λx=>decide (x.1=s)).map λx=>V.str x.2
 | []=>rfl
 | a::r=>by
  by_cases e:a.1=s
  ·rw[Qay (p:=λx:Sp3×Str=>decide (x.1=s)) (QbN e)]
   exact Ip (p:=(k3 a.1,V.str a.2)) (by rw[e])
  ·rw[Qax (p:=λx:Sp3×Str=>decide (x.1=s)) (by simpa using e),<-U0 s r]
   exact GR (p:=(k3 a.1,V.str a.2)) λz=>e (Qw z)
theorem aQ (hs:YR) (s:Sp3):(Dw (stV hs) (k3 s)).getD (.str "cut")=.str (stC hs s):=by
 rw[U0]
 unfold stC
 cases hs.find? λx=>decide (x.1=s) <;> rfl
theorem Xk {hs:YR} {s:Sp3} (h:s∉hs.map (·.1)):stC hs s="cut":=by
 unfold stC
 rw[List.find?_eq_none.mpr λx hx=>by simpa using λe=>h (Qcc.mpr ⟨x,hx,e⟩)]
 rfl
def Fy (hs:YR) (lp a:Int):Nat->Nat->YV
 | 0,_=>[]
 | f+1,n=>if stC hs ⟨lp,a,(n:Int)⟩="cut" then [] else ⟨lp,a,(n:Int)⟩::Fy hs lp a f (n+1)
def CG (hs:YR) (lp a:Int):YV:=Fy hs lp a 4 1
theorem PL (hs:YR) (lp a:Int):∀f n,(Fy hs lp a f n).length<=f
 | 0,_=>Qck _
 | f+1,n=>by
  unfold Fy
  split
  ·exact Qcl _
  ·rw[Qbp]
   have:=PL hs lp a f (n+1)
   omega
def aY:Sp:=λvs H Q _=>∃d1 hs lp a,vs=[.ref d1,.int lp,.int a]/\Rd H d1 (.dT (stV hs))/\(∀s∈hs.map (·.1),Bd3 s)/\∀l xs H',H l=none->H' l=some (.lst xs)->Paired (Cr H') xs (CG hs lp a)->Same H H'->Q (.ref l) H'
section
variable {P:Program} {w:World} {K:YD} {mg:YB} {base:Heap} {op oe kd wk C:Addr}
theorem Vh (c:Code K mg "spur_pieces" KY Gq) (T:Tw K mg op oe kd wk C):Good P w K mg base "spur_pieces" 1 Gq aY:=by
 have sc:=FJ
 refine c.good FJ (λvs H Q E h=>?_) (λf cdv A outer s H vs Q E hr h=>?_)
 ·obtain⟨d1,hs,lp,a,rfl,_⟩:=h
  rfl
 obtain⟨d1,hs,lp,a,rfl,hd,hb,q⟩:=h
 refine⟨_,(Ag (Bb (i:=3) FJ.nd rfl (Or.inl rfl) (BW Ac))
 (Ag (Bb (i:=4) FJ.nd rfl (Or.inl rfl) Ae)
 (Ag (Yh QbA (Bt dN (R6 (Cv hr) (pv 0) (Bh (Aa (pv 1) (Aa (pv 2) (Aa (pv 4) Ac)))) Bp ⟨rfl,rfl,rfl,rfl⟩) Bp (BJ _)) (Ag (Bf (Cm Qap Qal Qam Cd (pv 3) (Aa (Bh (Aa (pv 1) (Aa (pv 2) (Aa (pv 4) Ac)))) Ac)))
 (Ai (iH (i:=4) FJ.nd rfl (Or.inl rfl) Ae jq))))
 (Ai (Ba (pv 3)))))),?_⟩
 refine⟨Av (by show 0<=1000;decide),λl hl=>?_⟩
 refine⟨λm σ HH=>∃n:Nat,1<=n/\n+m=5/\σ=[some (.ref d1),some (.int lp),some (.int a),some (.ref l),some (.int (n:Int))]/\(∃xs pre,HH l=some (.lst xs)/\Paired (Cr HH) xs pre/\pre.length < n/\pre++Fy hs lp a m n=CG hs lp a)/\Same H HH,⟨4,1,Qck _,rfl,rfl,⟨[],[],Ab,.nil,by decide,rfl⟩,Af hl _⟩,λm σ HH h=>?_⟩
 obtain⟨n,n1,nm,rfl,⟨xs,pre,e1,e2,e3,e4⟩,e5⟩:=h
 have hdH:Rd HH d1 (.dT (stV hs)):=by
  rcases hd with hd |⟨o,hd⟩
  ·exact .inl (e5 _ _ hd)
  ·exact .inr ⟨o,e5 _ _ hd⟩
 refine⟨_,rfl,d1,rfl,.inr ⟨_,hdH⟩,_,rfl,_,rfl,_,rfl,Av (by show 3<=1000;decide),λtk htk=>?_⟩
 have k1:=Af htk (.tup [.int lp,.int a,.int (n:Int)])
 have hdK:Rd (upd HH tk (.tup [.int lp,.int a,.int (n:Int)])) d1 (.dT (stV hs)):=by
  rcases hdH with hd |⟨o,hd⟩
  ·exact .inl (k1 _ _ hd)
  ·exact .inr ⟨o,k1 _ _ hd⟩
 have g:Dn (upd HH tk (.tup [.int lp,.int a,.int (n:Int)])) d1 (.ref tk) (Dw (stV hs) (k3 ⟨lp,a,(n:Int)⟩)):=.inr ⟨_,_,tk,hdK,rfl,Ab,rfl⟩
 refine⟨_,g,?_⟩
 dsimp only
 rw[aQ]
 have e1k:=k1 _ _ e1
 have e2k:Paired (Cr (upd HH tk (.tup [.int lp,.int a,.int (n:Int)]))) xs pre:=Paired.Az e2 λ_ _ z=>z.tups (Ao.of k1)
 generalize upd HH tk (.tup [.int lp,.int a,.int (n:Int)])=HK at *
 have e5k:=e5.trans k1
 refine⟨rfl,_,rfl,?_⟩
 by_cases hc:stC hs ⟨lp,a,(n:Int)⟩="cut"
 ·rw[show (!decide (V.str (stC hs ⟨lp,a,(n:Int)⟩)=V.str "cut"))=false by rw[hc];decide +kernel]
  refine Cp ⟨_,rfl,q l xs HK hl e1k ?_ e5k⟩
  have:Fy hs lp a m n=[]:=by
   cases m with
   | zero=>rfl
   | succ m=>exact if_pos hc
  rw[this,QbC] at e4
  rw[<-e4]
  exact e2k
 ·have hne:¬V.str (stC hs ⟨lp,a,(n:Int)⟩)=V.str "cut":=λz=>hc (V.str.inj z)
  rw[show (!decide (V.str (stC hs ⟨lp,a,(n:Int)⟩)=V.str "cut"))=true by rw[QbB hne];rfl]
  obtain⟨m',rfl⟩ : ∃m',m=m'+1:=by
   cases m with
   | succ m=>exact⟨m,rfl⟩
   | zero=>
    refine absurd (Xk λhin=>?_) hc
    have:=(hb _ hin).n1
    have h5:n=5:=by omega
    subst h5
    have this:((5:Nat):Int)<=3:=this
    omega
  have e4':(pre++[⟨lp,a,(n:Int)⟩])++Fy hs lp a m' (n+1)=CG hs lp a:=by
   rw[<-e4,Qbf]
   show _=pre++Fy hs lp a (m'+1) n
   rw[show Fy hs lp a (m'+1) n=⟨lp,a,(n:Int)⟩::Fy hs lp a m' (n+1) from if_neg hc]
   rfl
  have lx:=QbS e2k
  refine BZ ⟨_,fun σ' H' h=>⟨m',Qbu _,h⟩,?_⟩
  refine⟨_,rfl,.inl ⟨rfl,_,SqL.of e1k⟩,_,rfl,_,rfl,_,rfl,Av (by show 3<=1000;decide),λtp htp=>?_⟩
  have k2':=Af htp (.tup [.int lp,.int a,.int (n:Int)])
  have e1p:=k2' _ _ e1k
  have ntl:∀zs,(upd HK tp (.tup [.int lp,.int a,.int (n:Int)])) l≠some (.tup zs):=λzs z=>by rw[e1p] at z;cases z
  have sL:=Ao.upd (o:=.lst (xs++[.ref tp])) ntl
  refine⟨l,_,_,rfl,rfl,e1p,Aq (by omega),?_⟩
  refine⟨_,rfl,_,_,rfl,rfl,n+1,by omega,by omega,?_,⟨xs++[.ref tp],pre++[⟨lp,a,(n:Int)⟩],Ab,Qcm ⟨tp,rfl,sL _ _ Ab⟩ (Paired.Az e2k λ_ _ z=>(z.tups (Ao.of k2')).tups sL),by rw[QaP];show _+1 < _;omega,e4'⟩,(e5k.trans k2').Bj Ah.upd hl⟩
  show [some (V.ref d1),some (.int lp),some (.int a),some (.ref l),some (.int ((n:Int)+1))]=_
  rw[Int.natCast_add]
  rfl
end
abbrev Qj:Stmt:=top 41
abbrev Jb:YF:=["states","gaps","opener","step"]
theorem Fp:Ay ["states","gaps","opener","step","loop","at","wires","places","pieces"] Jb (Ak Qj):=⟨rfl,rfl,rfl,by trivial,rfl,by trivial,by trivial⟩
abbrev Kc:Stmt:=top 42
abbrev GC:YF:=["states","wires"]
theorem XR:Ay ["states","wires"] GC (Ak Kc):=⟨rfl,rfl,rfl,by trivial,rfl,by trivial,by trivial⟩
abbrev Iu:Stmt:=top 43
abbrev Dg:YF:=["states","gaps","opener"]
theorem Dt:Ay ["states","gaps","opener","to_b","places_to_b","to_a","places_to_a"] Dg (Ak Iu):=⟨rfl,rfl,rfl,by trivial,rfl,by trivial,by trivial⟩
instance:DecidableEq Gt:=λa b=>if h:a.lp=b.lp/\a.at_=b.at_ then isTrue (by cases a;cases b;simp at h;obtain⟨h1,h2⟩:=h;subst h1 h2;rfl) else isFalse λe=>h (by rw[e];exact⟨rfl,rfl⟩)
def gpC (gs:YT) (g:Gt):Bool:=((gs.find? λx=>decide (x.1=g)).map (·.2)).getD false
theorem Vs (g:Gt):∀gs:YT,Dw (gpV gs) (k2 g)=(gs.find? λx=>decide (x.1=g)).map λx=>V.bl x.2
 | []=>rfl
 | a::r=>by
  by_cases e:a.1=g
  ·rw[Qay (p:=λx:Gt×Bool=>decide (x.1=g)) (QbN e)]
   exact Ip (p:=(k2 a.1,V.bl a.2)) (by rw[e])
  ·rw[Qax (p:=λx:Gt×Bool=>decide (x.1=g)) (by simpa using e),<-Vs g r]
   exact GR (p:=(k2 a.1,V.bl a.2)) λz=>e (Ud z)
theorem rT (gs:YT) (g:Gt):(Dw (gpV gs) (k2 g)).getD (.bl false)=.bl (gpC gs g):=by
 rw[Vs]
 unfold gpC
 cases gs.find? λx=>decide (x.1=g) <;> rfl
def Dm (a b:Int):Int:=if b < a then b else a
def Br (hs:YR) (gs:YT) (lp st:Int):Nat->Int->YV×YV
 | 0,_=>([],[])
 | f+1,a=>if stC hs ⟨lp,Dm a (a+st),0⟩="cut" then ([],[]) else
  if gpC gs ⟨lp,a+st⟩=true then (⟨lp,Dm a (a+st),0⟩::CG hs lp (a+st),⟨lp,a+st,0⟩::CG hs lp (a+st))
  else ((⟨lp,Dm a (a+st),0⟩::CG hs lp (a+st))++(Br hs gs lp st f (a+st)).1,(⟨lp,a+st,0⟩::CG hs lp (a+st))++(Br hs gs lp st f (a+st)).2)
structure Ws (H0 H:Hp) (l1 l2:Addr) (wa pa:YV):Prop where
 w:∃xs,H l1=some (.lst xs)/\Paired (Cr H) xs wa
 p:∃ys,H l2=some (.lst ys)/\Paired (Cr H) ys pa
 sm:Same H0 H
theorem Ws.same {H0 H H':Hp} {l1 l2:Addr} {wa pa:YV} (h:Ws H0 H l1 l2 wa pa) (s:Same H H'):Ws H0 H' l1 l2 wa pa:=by
 obtain⟨xs,a1,a2⟩:=h.w
 obtain⟨ys,b1,b2⟩:=h.p
 exact⟨⟨xs,s _ _ a1,Paired.Az a2 λ_ _ z=>z.tups (Ao.of s)⟩,⟨ys,s _ _ b1,Paired.Az b2 λ_ _ z=>z.tups (Ao.of s)⟩,h.sm.trans s⟩
theorem Ws.wQ {H0 H:Hp} {l1 l2:Addr} {wa pa ss:YV} {zs xs:YG} (h:Ws H0 H l1 l2 wa pa) (n:l1≠l2) (f:H0 l1=none) (hx:H l1=some (.lst xs)) (hz:Paired (Cr H) zs ss):Ws H0 (upd H l1 (.lst (xs++zs))) l1 l2 (wa++ss) pa:=by
 obtain⟨xs',a1,a2⟩:=h.w
 obtain⟨ys,b1,b2⟩:=h.p
 rw[hx] at a1
 cases a1
 have nt:∀us,H l1≠some (.tup us):=λus z=>by rw[hx] at z;cases z
 have t:=Ao.upd (o:=.lst (xs++zs)) nt
 exact⟨⟨_,Ab,Paired.app (Paired.Az a2 λ_ _ z=>z.tups t) (Paired.Az hz λ_ _ z=>z.tups t)⟩,⟨ys,by rw[Al n.symm];exact b1,Paired.Az b2 λ_ _ z=>z.tups t⟩,h.sm.Bj Ah.upd f⟩
theorem Ws.add2 {H0 H:Hp} {l1 l2:Addr} {wa pa ss:YV} {zs ys:YG} (h:Ws H0 H l1 l2 wa pa) (n:l1≠l2) (f:H0 l2=none) (hy:H l2=some (.lst ys)) (hz:Paired (Cr H) zs ss):Ws H0 (upd H l2 (.lst (ys++zs))) l1 l2 wa (pa++ss):=by
 obtain⟨xs,a1,a2⟩:=h.w
 obtain⟨ys',b1,b2⟩:=h.p
 rw[hy] at b1
 cases b1
 have nt:∀us,H l2≠some (.tup us):=λus z=>by rw[hy] at z;cases z
 have t:=Ao.upd (o:=.lst (ys++zs)) nt
 exact⟨⟨xs,by rw[Al n];exact a1,Paired.Az a2 λ_ _ z=>z.tups t⟩,⟨_,Ab,Paired.app (Paired.Az b2 λ_ _ z=>z.tups t) (Paired.Az hz λ_ _ z=>z.tups t)⟩,h.sm.Bj Ah.upd f⟩
def Xy:Sp:=λvs H Q _=>∃(d1 d3 o:Addr) (hs:YR) (gs:YT) (g:Gt) (st:Int),vs=[.ref d1,.ref d3,.ref o,.int st]/\Rd H d1 (.dT (stV hs))/\Rd H d3 (.dT (gpV gs))/\H o=some (.tup [.int g.lp,.int g.at_])/\(∀s∈hs.map (·.1),Bd3 s)/\(st=1\/st=-1)/\-1<=g.at_/\g.at_<=14 /\
 ∀t l1 l2 xs ys H',H' t=some (.tup [.ref l1,.ref l2])->H' l1=some (.lst xs)->Paired (Cr H') xs (Br hs gs g.lp st 16 g.at_).1->H' l2=some (.lst ys)->Paired (Cr H') ys (Br hs gs g.lp st 16 g.at_).2->Same H H'->Q (.ref t) H'
section
variable {P:Program} {w:World} {K:YD} {mg:YB} {base:Heap} {op oe kd wk C:Addr}
theorem d8 (c:Code K mg "come_to" Qj Jb) (T:Tw K mg op oe kd wk C) (WD:Good P w K mg base "spur_pieces" 1 Gq aY):Good P w K mg base "come_to" 2 Jb Xy:=by
 have sc:=Fp
 refine c.good Fp (λvs H Q E h=>?_) (λf cdv A outer s H vs Q E hr h=>?_)
 ·obtain⟨d1,d3,o,hs,gs,g,st,rfl,_⟩:=h
  rfl
 obtain⟨d1,d3,o,hs,gs,g,st,rfl,hd,hd3,ho,hb,hst,ga,gb,q⟩:=h
 refine⟨_,(Ag (G5 (pv 2) (Cw rfl (Am (Aj (i:=4) Fp.nd rfl (Or.inl rfl)) (Am (Aj (i:=5) Fp.nd rfl (Or.inl rfl)) Bo))))
 (Ag (Bb (i:=6) Fp.nd rfl (Or.inl rfl) (BW Ac))
 (Ag (Bb (i:=7) Fp.nd rfl (Or.inl rfl) (BW Ac))
 (Ag (Yh QbA (Bt dN (R6 (Cv hr) (pv 0) (Bh (Aa (pv 4) (Aa (Ax (Nf rfl) rfl T.min Uu (Aa (pv 5) (Aa (Bc BX (pv 5) (pv 3)) Ac))) (Aa Ae Ac)))) Bp ⟨rfl,rfl,rfl,rfl⟩) Bp (BJ _)) (Ag (Bf (Cm Qap Qal Qam Cd (pv 6) (Aa (Bh (Aa (pv 4) (Aa (Ax (Nf rfl) rfl T.min Uu (Aa (pv 5) (Aa (Bc BX (pv 5) (pv 3)) Ac))) (Aa Ae Ac)))) Ac)))
 (Ag (iH (i:=5) Fp.nd rfl (Or.inl rfl) (pv 3) jq)
 (Ag (Bb (i:=8) Fp.nd rfl (Or.inl rfl) (Aw WD hr (Aa (pv 0) (Aa (pv 4) (Aa (pv 5) Ac)))))
 (Ag (Bf (Cm Qap Qan Qao Ec (pv 6) (Aa (pv 8) Ac)))
 (Ag (Bf (Cm Qap Qal Qam Cd (pv 7) (Aa (Bh (Aa (pv 4) (Aa (pv 5) (Aa Ae Ac)))) Ac)))
 (Ag (Bf (Cm Qap Qan Qao Ec (pv 7) (Aa (pv 8) Ac)))
 (Ai (Ck (mG (R6 (Cv hr) (pv 1) (Bh (Aa (pv 4) (Aa (pv 5) Ac))) Fz ⟨rfl,rfl,rfl,rfl⟩) (λ_=>rfl)) (Ai mJ) BL)))))))))
 (Ai (Ba (Bh (Aa (pv 6) (Aa (pv 7) Ac))))))))),?_⟩
 refine⟨_,rfl,o,_,rfl,SqT.of ho,rfl,_,_,rfl,_,_,rfl,rfl,?_⟩
 refine⟨Av (by show 0<=1000;decide),λl1 hl1=>?_⟩
 refine⟨Av (by show 0<=1000;decide),λl2 hl2=>?_⟩
 have n1:=Af hl1 (.lst [])
 have n2:=Af hl2 (.lst [])
 have hl2':H l2=none:=n1.free hl2
 have n12:l1≠l2:=Ar Ab hl2
 have rdS:∀{HA HB:Hp} {d:Addr} {u:HO},Rd HA d u->Same HA HB->Rd HB d u:=λh s=>by
  rcases h with h |⟨o,h⟩
  ·exact .inl (s _ _ h)
  ·exact .inr ⟨o,s _ _ h⟩
 have hm0:(st=1/\g.at_+((16:Nat):Int)=g.at_+16)\/(st=-1/\g.at_ - ((16:Nat):Int)=g.at_ - 16):=by
  rcases hst with h | h
  ·exact .inl ⟨h,by omega⟩
  ·exact .inr ⟨h,by omega⟩
 refine⟨λm σ HH=>∃(a:Int) (u8:Option V) (wa pa:YV),((st=1/\a+m=g.at_+16)\/(st=-1/\a - m=g.at_ - 16))/\σ=[some (.ref d1),some (.ref d3),some (.ref o),some (.int st),some (.int g.lp),some (.int a),some (.ref l1),some (.ref l2),u8]/\Ws H HH l1 l2 wa pa/\wa.length+10*m<=160/\pa.length+10*m<=160/\wa++(Br hs gs g.lp st m a).1=(Br hs gs g.lp st 16 g.at_).1/\pa++(Br hs gs g.lp st m a).2=(Br hs gs g.lp st 16 g.at_).2,⟨16,g.at_,_,[],[],hm0,rfl,⟨⟨[],n2 _ _ Ab,.nil⟩,⟨[],Ab,.nil⟩,n1.trans n2⟩,by decide,by decide,rfl,rfl⟩,λm σ HH h=>?_⟩
 obtain⟨a,u8,wa,pa,hm,rfl,W,e5,e6,e7,e8⟩:=h
 refine⟨_,rfl,d1,rfl,.inr ⟨_,rdS hd W.sm⟩,_,rfl,_,rfl,_,rfl,_,rfl,_,_,rfl,rfl,_,_,rfl,Av (by show 3<=1000;decide),λtk htk=>?_⟩
 rw[show (if a+st < a then a+st else a)=Dm a (a+st) from rfl]
 have k1:=Af htk (.tup [.int g.lp,.int (Dm a (a+st)),.int 0])
 have W1:=W.same k1
 have gg:Dn (upd HH tk (.tup [.int g.lp,.int (Dm a (a+st)),.int 0])) d1 (.ref tk) (Dw (stV hs) (k3 ⟨g.lp,Dm a (a+st),0⟩)):=.inr ⟨_,_,tk,rdS hd W1.sm,rfl,Ab,rfl⟩
 refine⟨_,gg,?_⟩
 dsimp only
 rw[aQ]
 generalize upd HH tk (.tup [.int g.lp,.int (Dm a (a+st)),.int 0])=HK at *
 refine⟨rfl,_,rfl,?_⟩
 have done:∀(HX:Hp) (wx px:YV) (u:Option V) (aa:Int),Ws H HX l1 l2 wx px->wx=(Br hs gs g.lp st 16 g.at_).1->px=(Br hs gs g.lp st 16 g.at_).2->∀t,HX t=none->Q (.ref t) (upd HX t (.tup [.ref l1,.ref l2])):=λHX wx px u aa WX ew ep t ht=>by
  have kt:=Af ht (.tup [.ref l1,.ref l2])
  have WT:=WX.same kt
  obtain⟨xs,a1,a2⟩:=WT.w
  obtain⟨ys,b1,b2⟩:=WT.p
  rw[ew] at a2
  rw[ep] at b2
  exact q t l1 l2 xs ys _ Ab a1 a2 b1 b2 WT.sm
 by_cases hc:stC hs ⟨g.lp,Dm a (a+st),0⟩="cut"
 ·rw[show (!decide (V.str (stC hs ⟨g.lp,Dm a (a+st),0⟩)=V.str "cut"))=false by rw[hc];decide +kernel]
  have hz:Br hs gs g.lp st m a=([],[]):=by
   cases m with
   | zero=>rfl
   | succ m=>exact if_pos hc
  rw[hz,QbC] at e7 e8
  exact Cp ⟨_,rfl,_,rfl,Av (by show 2<=1000;decide),λt ht=>done HK wa pa u8 a W1 e7 e8 t ht⟩
 ·have hne:¬V.str (stC hs ⟨g.lp,Dm a (a+st),0⟩)=V.str "cut":=λz=>hc (V.str.inj z)
  rw[show (!decide (V.str (stC hs ⟨g.lp,Dm a (a+st),0⟩)=V.str "cut"))=true by rw[QbB hne];rfl]
  have hin:(⟨g.lp,Dm a (a+st),0⟩ : Sp3)∈hs.map (·.1):=Qah λz=>hc (Xk z)
  have hB:=hb _ hin
  have hB0:0<=Dm a (a+st):=hB.a0
  have hB1:Dm a (a+st)<=12:=hB.a1
  obtain⟨m',rfl⟩ : ∃m',m=m'+1:=by
   cases m with
   | succ m=>exact⟨m,rfl⟩
   | zero=>
    exfalso
    unfold Dm at hB0 hB1
    rcases hm with⟨h1,h2⟩|⟨h1,h2⟩
    ·rw[h1] at hB0 hB1
     split at hB1 <;> omega
    ·rw[h1] at hB0 hB1
     split at hB0 <;> omega
  have lsp:(CG hs g.lp (a+st)).length<=4:=PL _ _ _ 4 1
  obtain⟨xs,a1,a2⟩:=W1.w
  have lx:=QbS a2
  refine BZ ⟨_,fun σ' H' h=>⟨m',Qbu _,h⟩,?_⟩
  refine⟨_,rfl,.inl ⟨rfl,_,SqL.of a1⟩,_,rfl,_,rfl,_,rfl,_,rfl,_,_,rfl,rfl,_,_,rfl,Av (by show 3<=1000;decide),λtp htp=>?_⟩
  rw[show (if a+st < a then a+st else a)=Dm a (a+st) from rfl]
  have k2':=Af htp (.tup [.int g.lp,.int (Dm a (a+st)),.int 0])
  have W2:=(W1.same k2').wQ n12 hl1 (k2' _ _ a1) (zs:=[.ref tp]) (ss:=[⟨g.lp,Dm a (a+st),0⟩]) (.cons ⟨tp,rfl,Ab⟩ .nil)
  refine⟨l1,_,_,rfl,rfl,k2' _ _ a1,Aq (by omega),?_⟩
  generalize upd (upd HK tp (.tup [.int g.lp,.int (Dm a (a+st)),.int 0])) l1 (.lst (xs++[.ref tp]))=H2 at *
  refine⟨_,rfl,_,rfl,_,_,rfl,rfl,?_⟩
  refine⟨_,rfl,_,rfl,_,rfl,d1,hs,g.lp,a+st,rfl,rdS hd W2.sm,hb,λlq xq H3 hlq hxq pxq s3=>?_⟩
  have W3:=W2.same s3
  obtain⟨xs3,a13,a23⟩:=W3.w
  have lx3:=QbS a23
  rw[QaP] at lx3
  have lxq:=QbS pxq
  have zV:lq≠l1:=λz=>by obtain⟨xs',e,_⟩:=W2.w;rw[z,e] at hlq;cases hlq
  have zU:lq≠l2:=λz=>by obtain⟨xs',e,_⟩:=W2.p;rw[z,e] at hlq;cases hlq
  refine⟨_,rfl,.inl ⟨rfl,_,SqL.of a13⟩,_,rfl,l1,lq,_,_,rfl,rfl,a13,hxq,Av (by rw[lx3,lxq];show _+1+_<=1000;omega),?_⟩
  have W4:=W3.wQ n12 hl1 a13 pxq
  have nt3:∀us,H3 l1≠some (.tup us):=λus z=>by rw[a13] at z;cases z
  have zM:Paired (Cr (upd H3 l1 (.lst (xs3++xq)))) xq (CG hs g.lp (a+st)):=Paired.Az pxq λ_ _ z=>z.tups (Ao.upd nt3)
  have Cb:(upd H3 l1 (.lst (xs3++xq))) lq=some (.lst xq):=by rw[Al zV];exact hxq
  generalize upd H3 l1 (.lst (xs3++xq))=H4 at *
  obtain⟨ys4,b14,b24⟩:=W4.p
  have ly4:=QbS b24
  refine⟨_,rfl,.inl ⟨rfl,_,SqL.of b14⟩,_,rfl,_,rfl,Av (by show 3<=1000;decide),λtr htr=>?_⟩
  have k5:=Af htr (.tup [.int g.lp,.int (a+st),.int 0])
  have W5:=(W4.same k5).add2 n12 hl2' (k5 _ _ b14) (zs:=[.ref tr]) (ss:=[⟨g.lp,a+st,0⟩]) (.cons ⟨tr,rfl,Ab⟩ .nil)
  refine⟨l2,_,_,rfl,rfl,k5 _ _ b14,Aq (by omega),?_⟩
  have nt5:∀us,(upd H4 tr (.tup [.int g.lp,.int (a+st),.int 0])) l2≠some (.tup us):=λus z=>by rw[k5 _ _ b14] at z;cases z
  have zL:Paired (Cr (upd (upd H4 tr (.tup [.int g.lp,.int (a+st),.int 0])) l2 (.lst (ys4++[.ref tr])))) xq (CG hs g.lp (a+st)):=Paired.Az zM λ_ _ z=>(z.tups (Ao.of k5)).tups (Ao.upd nt5)
  have B9:(upd (upd H4 tr (.tup [.int g.lp,.int (a+st),.int 0])) l2 (.lst (ys4++[.ref tr]))) lq=some (.lst xq):=by rw[Al zU];exact k5 _ _ Cb
  generalize upd (upd H4 tr (.tup [.int g.lp,.int (a+st),.int 0])) l2 (.lst (ys4++[.ref tr]))=H5 at *
  obtain⟨ys5,b15,b25⟩:=W5.p
  have ly5:=QbS b25
  rw[QaP] at ly5
  refine⟨_,rfl,.inl ⟨rfl,_,SqL.of b15⟩,_,rfl,l2,lq,_,_,rfl,rfl,b15,B9,Av (by rw[ly5,lxq];show _+1+_<=1000;omega),?_⟩
  have W6:=W5.add2 n12 hl2' b15 zL
  generalize upd H5 l2 (.lst (ys5++xq))=H6 at *
  refine⟨_,rfl,d3,rfl,.inr ⟨_,rdS hd3 W6.sm⟩,_,rfl,_,rfl,Av (by show 2<=1000;decide),λtg htg=>?_⟩
  have k7:=Af htg (.tup [.int g.lp,.int (a+st)])
  have W7:=W6.same k7
  have gg7:Dn (upd H6 tg (.tup [.int g.lp,.int (a+st)])) d3 (.ref tg) (Dw (gpV gs) (k2 ⟨g.lp,a+st⟩)):=.inr ⟨_,_,tg,rdS hd3 W7.sm,rfl,Ab,rfl⟩
  refine⟨_,gg7,?_⟩
  dsimp only
  rw[rT]
  generalize upd H6 tg (.tup [.int g.lp,.int (a+st)])=H7 at *
  refine⟨_,rfl,JT (λhg=>?_) (λhg=>?_)⟩
  ·have hz:Br hs gs g.lp st (m'+1) a=(⟨g.lp,Dm a (a+st),0⟩::CG hs g.lp (a+st),⟨g.lp,a+st,0⟩::CG hs g.lp (a+st)):=by
    unfold Br
    rw[if_neg hc,if_pos hg]
   rw[hz] at e7 e8
   exact⟨_,rfl,_,rfl,Av (by show 2<=1000;decide),λt ht=>done H7 _ _ u8 a W7 (by rw[<-e7,Qbf];rfl) (by rw[<-e8,Qbf];rfl) t ht⟩
  ·have hz:Br hs gs g.lp st (m'+1) a=((⟨g.lp,Dm a (a+st),0⟩::CG hs g.lp (a+st))++(Br hs gs g.lp st m' (a+st)).1,(⟨g.lp,a+st,0⟩::CG hs g.lp (a+st))++(Br hs gs g.lp st m' (a+st)).2):=by
    conv=>lhs;unfold Br
    rw[if_neg hc,if_neg (by rw[hg];decide)]
   rw[hz] at e7 e8
   refine⟨a+st,_,_,_,?_,rfl,W7,?_,?_,by rw[<-e7];simp only[Qbf,List.cons_append,List.nil_append],by rw[<-e8];simp only[Qbf,List.cons_append,List.nil_append]⟩
   ·rcases hm with⟨h1,h2⟩|⟨h1,h2⟩
    ·exact .inl ⟨h1,by rw[h1];omega⟩
    ·exact .inr ⟨h1,by rw[h1];omega⟩
   ·rw[QaP,QaP]
    show wa.length+1+_+_<=_
    omega
   ·rw[QaP,QaP]
    show pa.length+1+_+_<=_
    omega
end
theorem gM {hs:YR} {s:Sp3} (h:¬stC hs s="cut"):s∈hs.map (·.1):=Qah λz=>h (Xk z)
theorem Xn (hs:YR) (lp a:Int):∀f n,∀s∈Fy hs lp a f n,s∈hs.map (·.1)
 | 0,_,s,h=>by cases h
 | f+1,n,s,h=>by
  unfold Fy at h
  split at h
  ·cases h
  ·rename_i hc
   rcases QbT.mp h with rfl | h
   ·exact gM hc
   ·exact Xn hs lp a f (n+1) s h
theorem O9 (hs:YR) (gs:YT) (lp st:Int):∀f a,∀s∈(Br hs gs lp st f a).1,s∈hs.map (·.1)
 | 0,_,s,h=>by cases h
 | f+1,a,s,h=>by
  unfold Br at h
  split at h
  ·cases h
  ·rename_i hc
   have hw:∀s∈(⟨lp,Dm a (a+st),0⟩::CG hs lp (a+st):YV),s∈hs.map (·.1):=λs h=>by
    rcases QbT.mp h with rfl | h
    ·exact gM hc
    ·exact Xn hs lp _ 4 1 s h
   split at h
   ·exact hw s h
   ·rcases Qbz.mp h with h | h
    ·exact hw s h
    ·exact O9 hs gs lp st f (a+st) s h
theorem QG (hs:YR) (gs:YT) (lp st:Int):∀f a,(Br hs gs lp st f a).1.length<=5*f
 | 0,_=>Qck _
 | f+1,a=>by
  have ih:=QG hs gs lp st f (a+st)
  have ls:(CG hs lp (a+st)).length<=4:=PL _ _ _ 4 1
  unfold Br
  split
  ·exact Qcl _
  ·split
   ·show (CG hs lp (a+st)).length+1<=_
    omega
   ·have:((⟨lp,Dm a (a+st),0⟩::CG hs lp (a+st))++(Br hs gs lp st f (a+st)).1).length=(CG hs lp (a+st)).length+1+(Br hs gs lp st f (a+st)).1.length:=by rw[QaP,Qbp]
    show ((⟨lp,Dm a (a+st),0⟩::CG hs lp (a+st))++(Br hs gs lp st f (a+st)).1).length<=_
    omega
def Gp (hs:YR) (ws:YV):Bool:=ws.any λs=>decide (V.str (stC hs s)=V.str "short")
def Dl (hs:YR) (gs:YT) (g:Gt):Bool:=Gp hs (Br hs gs g.lp 1 16 g.at_).1 || Gp hs (Br hs gs g.lp (-1) 16 g.at_).1
def U4:Sp:=λvs H Q _=>∃(d1 l:Addr) (hs:YR) (xs:YG) (ws:YV),vs=[.ref d1,.ref l]/\Rd H d1 (.dT (stV hs))/\H l=some (.lst xs)/\Paired (Cr H) xs ws/\(∀s∈ws,s∈hs.map (·.1))/\ws.length<=200/\∀H',Same H H'->Q (.bl (Gp hs ws)) H'
def Tj:Sp:=λvs H Q _=>∃(d1 d3 o:Addr) (hs:YR) (gs:YT) (g:Gt),vs=[.ref d1,.ref d3,.ref o]/\Rd H d1 (.dT (stV hs))/\Rd H d3 (.dT (gpV gs))/\H o=some (.tup [.int g.lp,.int g.at_])/\(∀s∈hs.map (·.1),Bd3 s)/\-1<=g.at_/\g.at_<=14/\∀H',Same H H'->Q (.bl (Dl hs gs g)) H'
theorem rdS {HA HB:Hp} {d:Addr} {u:HO} (h:Rd HA d u) (s:Same HA HB):Rd HB d u:=by
 rcases h with h |⟨o,h⟩
 ·exact .inl (s _ _ h)
 ·exact .inr ⟨o,s _ _ h⟩
section
variable {P:Program} {w:World} {K:YD} {mg:YB} {base:Heap} {op oe kd wk C:Addr}
theorem Yv (c:Code K mg "has_short" Kc GC) (T:Tw K mg op oe kd wk C):Good P w K mg base "has_short" 1 GC U4:=by
 refine c.good XR (λvs H Q E h=>?_) (λf cdv A outer s H vs Q E hr h=>?_)
 ·obtain⟨d1,l,hs,xs,ws,rfl,_⟩:=h
  rfl
 obtain⟨d1,l,hs,xs,ws,rfl,hd,hl,hx,hin,CM,q⟩:=h
 refine⟨_,(Ai (Ba (Ax (oY rfl) rfl T.any wO (Aa (BP (N':=["stretch","states"]) rfl (Bg.of (src:=[none,some 0]) (Ak Kc) ["states","wires"] rfl rfl rfl (by trivial) (by trivial) (by trivial) rfl (by trivial)) (DN (pv 1)) (λ_ _ _ _=>(Aj (i:=0) (show List.Nodup (["stretch","states"]:YF) by trivial) rfl (Or.inl rfl))) (λ_ _ _ _=>Cy) (λ_ _ _ _=>(Hl Ho (JN (Cv hr) (pv 1) (pv 0) (λ_ _=>rfl)) Bp (BJ _)))) Ac)))),?_⟩
 have lx:=QbS hx
 refine⟨_,rfl,l,rfl,⟨_,SqL.of hl⟩,λlc hlc=>?_⟩
 refine Jf (xs:=xs) (λi σ HH=>(∃u,σ=[u,some (.ref d1)])/\HH lc=some (.lst (((ws.take i).map λs=>decide (V.str (stC hs s)=V.str "short")).map V.bl))/\Same H HH) ⟨⟨_,rfl⟩,Ab,Af hlc _⟩ (λi σ HH _ h=>SqL.of (h.2.2 _ _ hl)) (λi x σ HH hxi h=>?_) (fun σ HH h=>?_)
 ·obtain⟨⟨u,rfl⟩,e1,e2⟩:=h
  obtain⟨sp,hsp,t,rfl,ht⟩:=Paired.Cq hx hxi
  have hi:=(Qag.mp hxi).1
  have hv:Dw (stV hs) (k3 sp)=some (.str (stC hs sp)):=by
   have h1:=U0 sp hs
   obtain⟨y,hy,ey⟩:=Qcc.mp (hin sp (QaE hsp))
   unfold stC
   rw[h1]
   cases e:hs.find? λx=>decide (x.1=sp) with
   | none=>exact absurd ey (by simpa using List.find?_eq_none.mp e y hy)
   | some z=>rfl
  have gg:Dn HH d1 (.ref t) (Dw (stV hs) (k3 sp)):=.inr ⟨stV hs,k3 sp,t,rdS hd e2,rfl,e2 _ _ ht,rfl⟩
  rw[hv] at gg
  unfold Fe
  dsimp only
  refine BZ ⟨_,rfl,_,rfl,d1,_,rfl,gg,rfl,_,e1,Aq (by rw[Qbx,Qbx,Qbq];omega),⟨_,rfl⟩,?_,e2.Bj Ah.upd hlc⟩
  rw[Ab,Qcs hsp,Qby,Qby]
  rfl
 ·obtain⟨_,e1,e2⟩:=h
  rw[lx,Qbo] at e1
  refine⟨lc,_,rfl,SqL.of e1,?_⟩
  have:(ws.map λs=>decide (V.str (stC hs s)=V.str "short")).any id=Gp hs ws:=by unfold Gp;rw[List.any_map];rfl
  rw[this]
  exact q _ e2
theorem Ru (c:Code K mg "comes_to_short" Iu Dg) (T:Tw K mg op oe kd wk C) (M8:Good P w K mg base "come_to" 2 Jb Xy) (Ke:Good P w K mg base "has_short" 1 GC U4):Good P w K mg base "comes_to_short" 3 Dg Tj:=by
 have sc:=Dt
 refine c.good Dt (λvs H Q E h=>?_) (λf cdv A outer s H vs Q E hr h=>?_)
 ·obtain⟨d1,d3,o,hs,gs,g,rfl,_⟩:=h
  rfl
 obtain⟨d1,d3,o,hs,gs,g,rfl,hd,hd3,ho,hb,ga,gb,q⟩:=h
 refine⟨_,(Ag (G5 (Aw M8 hr (Aa (pv 0) (Aa (pv 1) (Aa (pv 2) (Aa Ae Ac))))) (Cw rfl (Am (Aj (i:=3) Dt.nd rfl (Or.inl rfl)) (Am (Aj (i:=4) Dt.nd rfl (Or.inl rfl)) Bo))))
 (Ag (G5 (Aw M8 hr (Aa (pv 0) (Aa (pv 1) (Aa (pv 2) (Aa (TF PJ Ae) Ac))))) (Cw rfl (Am (Aj (i:=5) Dt.nd rfl (Or.inl rfl)) (Am (Aj (i:=6) Dt.nd rfl (Or.inl rfl)) Bo))))
 (Ai (Ba (xV (Aw Ke hr (Aa (pv 0) (Aa (pv 3) Ac))) (Ea (Aw Ke hr (Aa (pv 0) (Aa (pv 5) Ac))))))))),?_⟩
 have eO:∀st,(Br hs gs g.lp st 16 g.at_).1.length<=200:=λst=>Qce (QG hs gs g.lp st 16 g.at_) (by decide)
 refine⟨_,rfl,_,rfl,_,rfl,d1,d3,o,hs,gs,g,1,rfl,hd,hd3,ho,hb,.inl rfl,ga,gb,λt1 l1 l2 xs1 ys1 H1 ht1 hl1 hx1 _ _ s1=>⟨t1,_,rfl,SqT.of ht1,rfl,_,_,rfl,_,_,rfl,rfl,?_⟩⟩
 refine⟨_,rfl,_,rfl,_,rfl,_,rfl,d1,d3,o,hs,gs,g,-1,rfl,rdS hd s1,rdS hd3 s1,s1 _ _ ho,hb,.inr rfl,ga,gb,λt2 l3 l4 xs2 ys2 H2 ht2 hl3 hx2 _ _ s2=>⟨t2,_,rfl,SqT.of ht2,rfl,_,_,rfl,_,_,rfl,rfl,?_⟩⟩
 have s12:=s1.trans s2
 have Cc:Paired (Cr H2) xs1 (Br hs gs g.lp 1 16 g.at_).1:=Paired.Az hx1 λ_ _ z=>z.tups (Ao.of s2)
 refine⟨_,rfl,_,rfl,d1,l1,hs,xs1,_,rfl,rdS hd s12,s2 _ _ hl1,Cc,O9 hs gs g.lp 1 16 g.at_,eO 1,λH3 s3=>⟨_,rfl,?_⟩⟩
 cases e:Gp hs (Br hs gs g.lp 1 16 g.at_).1 with
 | true=>
  refine BZ ?_
  have:=q H3 (s12.trans s3)
  unfold Dl at this
  rw[e] at this
  exact this
 | false=>
  refine Cp ⟨_,rfl,_,rfl,d1,l3,hs,xs2,_,rfl,rdS hd (s12.trans s3),s3 _ _ hl3,Paired.Az hx2 λ_ _ z=>z.tups (Ao.of s3),O9 hs gs g.lp (-1) 16 g.at_,eO (-1),λH4 s4=>?_⟩
  have:=q H4 (s12.trans (s3.trans s4))
  unfold Dl at this
  rw[e] at this
  exact this
end
abbrev K8:Stmt:=top 44
abbrev Js:YF:=["states","gaps"]
theorem ZK:Ay ["states","gaps"] Js (Ak K8):=⟨rfl,rfl,rfl,by trivial,rfl,by trivial,by trivial⟩
abbrev JK:Stmt:=(inClass (top 45) 10)
abbrev Ga:YF:=["self"]
theorem Tr:Ay ["self"] Ga (Ak JK):=⟨rfl,rfl,rfl,by trivial,rfl,by trivial,by trivial⟩
abbrev K1:Stmt:=(inClass (top 45) 12)
abbrev Gu:YF:=["self"]
theorem U7:Ay ["self"] Gu (Ak K1):=⟨rfl,rfl,rfl,by trivial,rfl,by trivial,by trivial⟩
theorem Ei (pl d1 d2 d3:Addr):List.lookup ("gaps":Str) (ff pl d1 d2 d3)=some (V.ref d3):=QB (i:=3) (fnd pl d1 d2 d3) rfl
def Tt (hs:YR) (gs:YT):Bool:=(gs.map λx=>decide (V.bl (Dl hs gs x.1)=V.bl x.2)).all id
def QM (gs:YT):Prop:=∀x∈gs,-1<=x.1.at_/\x.1.at_<=14
def gQ:Sp:=λvs H Q _=>∃(d1 d3:Addr) (hs:YR) (gs:YT),vs=[.ref d1,.ref d3]/\H d1=some (.dT (stV hs))/\H d3=some (.dT (gpV gs))/\(∀s∈hs.map (·.1),Bd3 s)/\QM gs/\gs.length<=200/\∀H',Same H H'->Q (.bl (Tt hs gs)) H'
def aZ (C:Addr):Sp:=λvs H Q _=>∃p pl d1 d2 d3 hs fl gs,vs=[.ref p]/\WAt C H p pl d1 d2 d3 hs fl gs/\(∀s∈hs.map (·.1),Bd3 s)/\QM gs/\∀H',Same H H'->Q (.bl (Tt hs gs)) H'
def Xv (C:Addr):Sp:=λvs H Q _=>∃p pl d1 d2 d3 hs fl gs,vs=[.ref p]/\WAt C H p pl d1 d2 d3 hs fl gs/\∀l xs H',H l=none->H' l=some (.lst xs)->Paired (Ds H') xs ((gs.filter (·.2)).map (·.1))->Same H H'->Q (.ref l) H'
section
variable {P:Program} {w:World} {K:YD} {mg:YB} {base:Heap} {op oe kd wk C:Addr}
theorem ZS (c:Code K mg "all_rest" K8 Js) (T:Tw K mg op oe kd wk C) (Fb:Good P w K mg base "comes_to_short" 3 Dg Tj):Good P w K mg base "all_rest" 4 Js gQ:=by
 refine c.good ZK (λvs H Q E h=>?_) (λf cdv A outer s H vs Q E hr h=>?_)
 ·obtain⟨d1,d3,hs,gs,rfl,_⟩:=h
  rfl
 obtain⟨d1,d3,hs,gs,rfl,hd1,hd3,hb,hg,CM,q⟩:=h
 refine⟨_,(Ai (Ba (Ax (Gj rfl) rfl T.all Jy (Aa (Mj rfl (BP (N':=["opener","gap","states","gaps"]) rfl (Bg.of (src:=[none,none,some 0,some 1]) (Ak K8) ["states","gaps"] rfl rfl rfl (by trivial) (by trivial) (by trivial) rfl (by trivial)) (MN (pv 1)) (λ_ _ _ _=>(FT (K:=K) (n:=2) rfl rfl (Am (Aj (i:=0) (show List.Nodup (["opener","gap","states","gaps"]:YF) by trivial) rfl (Or.inl rfl)) (Am (Aj (i:=1) (show List.Nodup (["opener","gap","states","gaps"]:YF) by trivial) rfl (Or.inl rfl)) Bo)))) (λ_ _ _ _=>Cy) (λ_ _ _ _=>(Hl Ho (Aw Fb hr (Aa (pv 2) (Aa (pv 3) (Aa (pv 0) Ac)))) (pv 1) (BJ _))))) Ac)))),?_⟩
 have nfz:∀o' u,H d3≠some (.frz o' u):=λo' u z=>by rw[hd3] at z;cases z
 have lgs:(gpV gs).length=gs.length:=by unfold gpV;rw[Qbx]
 refine⟨_,rfl,d3,gpV gs,rfl,hd3,λo l hl=>?_⟩
 have nl:l≠d3:=λz=>by rw[z,Ab] at hl;cases hl
 have fl':H l=none:=by rw[Al nl] at hl;exact hl
 have rd1:Rd (upd H d3 (.frz o (.dT (gpV gs)))) d1 (.dT (stV hs)):=by
  by_cases e:d1=d3
  ·subst e
   rw[hd1] at hd3
   have e2:=HO.dT.inj (QbD hd3)
   exact .inr ⟨o,by rw[Ab,e2]⟩
  ·exact .inl (by rw[Al e];exact hd1)
 refine O8 (λi σ HH=>(∃u v,σ=[u,v,some (.ref d1),some (.ref d3)])/\HH l=some (.lst (((gs.take i).map λx=>decide (V.bl (Dl hs gs x.1)=V.bl x.2)).map V.bl))/\Same (upd H d3 (.frz o (.dT (gpV gs)))) HH) ⟨⟨none,none,rfl⟩,Ab,Af hl _⟩ (λi σ HH _ h=>h.2.2 _ _ Ab) (λi kv p' b σ HH hkv h hp' hb'=>?_) (fun σ HH h=>?_)
 ·obtain⟨⟨u,v,rfl⟩,e1,e2⟩:=h
  have hi:=(Qag.mp hkv).1
  unfold gpV at hkv
  rw[Qbg] at hkv
  obtain⟨x,hx,rfl⟩:=Qaw.mp hkv
  have t1:=Af hp' (.tup [.ref b,.bl x.2])
  have e2':=e2.trans t1
  have gb:=hg x (QaE hx)
  refine⟨p',_,rfl,SqT.of Ab,rfl,_,_,rfl,_,_,rfl,rfl,?_⟩
  refine BZ ⟨_,rfl,_,rfl,_,rfl,d1,d3,b,hs,gs,x.1,rfl,rdS rd1 e2',.inr ⟨o,e2' _ _ Ab⟩,t1 _ _ hb',hb,gb.1,gb.2,λH2 s2=>?_⟩
  refine⟨_,rfl,rfl,_,s2 _ _ (t1 _ _ e1),Aq (by rw[Qbx,Qbx,Qbq];omega),⟨_,_,rfl⟩,?_,(e2'.trans s2).Bj Ah.upd hl⟩
  rw[Ab,Qcs hx,Qby,Qby]
  rfl
 ·obtain⟨_,e1,e2⟩:=h
  rw[lgs,Qbo] at e1
  have hfz:=e2 _ _ Ab
  refine⟨d3,o,gpV gs,hfz,nfz,l,_,rfl,SqL.of (by rw[Al nl];exact e1),?_⟩
  exact q _ (IV e2 hd3)
theorem nA (c:Im K C "rests" "Wires.rests" K1 Gu) (T:Tw K mg op oe kd wk C) (fH:Good P w K mg base "all_rest" 4 Js gQ):CT P w K mg base C "rests" 5 Gu (aZ C):=by
 refine c.good U7 (λvs H Q E h=>?_) (λf cdv A outer s H vs Q E hr h=>?_)
 ·obtain⟨p,pl,d1,d2,d3,hs,fl,gs,rfl,_⟩:=h
  rfl
 obtain⟨p,pl,d1,d2,d3,hs,fl,gs,rfl,R,hb,hg,q⟩:=h
 refine⟨_,(Ai (Ba (Aw fH hr (Aa (CV (pv 0) rfl) (Aa (CV (pv 0) rfl) Ac))))),?_⟩
 obtain⟨dx,hp⟩:=R.ins
 exact⟨_,rfl,p,C,dx,_,_,rfl,hp,T.cl,T.Ez,Ep pl d1 d2 d3,_,rfl,p,C,dx,_,_,rfl,hp,T.cl,T.Fv,Ei pl d1 d2 d3,d1,d3,hs,gs,rfl,R.st,R.gp,hb,hg,R.l3,q⟩
theorem iW (c:Im K C "parted" "Wires.parted" JK Ga) (T:Tw K mg op oe kd wk C):CT P w K mg base C "parted" 1 Ga (Xv C):=by
 refine c.good Tr (λvs H Q E h=>?_) (λf cdv A outer s H vs Q E hr h=>?_)
 ·obtain⟨p,pl,d1,d2,d3,hs,fl,gs,rfl,_⟩:=h
  rfl
 obtain⟨p,pl,d1,d2,d3,hs,fl,gs,rfl,R,q⟩:=h
 refine⟨_,(Ai (Ba (Mj rfl (BP (N':=["opener","gap"]) rfl (Bg.plain rfl (by trivial) (by trivial) (by trivial)) (MN (CV (pv 0) rfl)) (λ_ _ _ _=>(FT (K:=K) (n:=2) rfl rfl (Am (Aj (i:=0) (show List.Nodup (["opener","gap"]:YF) by trivial) rfl (Or.inl rfl)) (Am (Aj (i:=1) (show List.Nodup (["opener","gap"]:YF) by trivial) rfl (Or.inl rfl)) Bo)))) (λ_ _ _ _=>(G6 (Dc (pv 1)))) (λ_ _ _ _=>(pv 0)))))),?_⟩
 obtain⟨dx,hp⟩:=R.ins
 have hd3:=R.gp
 have l3:=R.l3
 have nfz:∀o' u,H d3≠some (.frz o' u):=λo' u z=>by rw[hd3] at z;cases z
 have lgs:(gpV gs).length=gs.length:=by unfold gpV;rw[Qbx]
 refine⟨_,rfl,p,C,dx,_,_,rfl,hp,T.cl,T.Fv,Ei pl d1 d2 d3,d3,gpV gs,rfl,hd3,λo l hl=>?_⟩
 have nl:l≠d3:=λz=>by rw[z,Ab] at hl;cases hl
 have fl':H l=none:=by rw[Al nl] at hl;exact hl
 refine O8 (λi σ HH=>(∃u v,σ=[u,v])/\(∃ys,HH l=some (.lst ys)/\Paired (Ds HH) ys (((gs.take i).filter (·.2)).map (·.1))/\ys.length<=i)/\Same (upd H d3 (.frz o (.dT (gpV gs)))) HH) ⟨⟨none,none,rfl⟩,⟨[],Ab,.nil,Qck _⟩,Af hl _⟩ (λi σ HH _ h=>h.2.2 _ _ Ab) (λi kv p' b σ HH hkv h hp' hb'=>?_) (fun σ HH h=>?_)
 ·obtain⟨⟨u,v,rfl⟩,⟨ys,e1,e3,e4⟩,e2⟩:=h
  have hi:=(Qag.mp hkv).1
  unfold gpV at hkv
  rw[Qbg] at hkv
  obtain⟨x,hx,rfl⟩:=Qaw.mp hkv
  have t1:=Af hp' (.tup [.ref b,.bl x.2])
  have e2':=e2.trans t1
  have et:((gs.take (i+1)).filter (·.2)).map (·.1)=((gs.take i).filter (·.2)).map (·.1)++([x].filter (·.2)).map (·.1):=by rw[Qcs hx,Qbb,Qby]
  refine⟨p',_,rfl,SqT.of Ab,rfl,_,_,rfl,_,_,rfl,rfl,?_⟩
  refine⟨_,rfl,_,rfl,JT (λhc=>?_) (λhc=>?_)⟩
  ·have e1':=t1 _ _ e1
   have ntl:∀zs,(upd HH p' (.tup [.ref b,.bl x.2])) l≠some (.tup zs):=λzs z=>by rw[e1'] at z;cases z
   have sL:=Ao.upd (o:=.lst (ys++[.ref b])) ntl
   refine⟨_,rfl,ys,e1',Aq (by omega),⟨_,_,rfl⟩,⟨_,Ab,?_,by rw[QaP];show _+1<=_;omega⟩,e2'.Bj Ah.upd hl⟩
   rw[et,show [x].filter (·.2)=[x] from Qas (p:=λy:Gt×Bool=>y.2) hc]
   exact Qcm ⟨b,rfl,sL _ _ (t1 _ _ hb')⟩ (Paired.Az e3 λ_ _ z=>(z.tups (Ao.of t1)).tups sL)
  ·refine⟨⟨_,_,rfl⟩,⟨ys,t1 _ _ e1,?_,by omega⟩,e2'⟩
   rw[et,show [x].filter (·.2)=[] from Qar (p:=λy:Gt×Bool=>y.2) (by rw[hc];decide),Qcj,QbC]
   exact Paired.Az e3 λ_ _ z=>z.tups (Ao.of t1)
 ·obtain⟨_,⟨ys,e1,e3,e4⟩,e2⟩:=h
  rw[lgs,Qbo] at e3
  have hfz:=e2 _ _ Ab
  have ntz:∀zs,HH d3≠some (.tup zs):=λzs z=>by rw[hfz] at z;cases z
  exact⟨d3,o,gpV gs,hfz,nfz,q l ys _ fl' (by rw[Al nl];exact e1) (Paired.Az e3 λ_ _ z=>z.tups (Ao.upd ntz)) (IV e2 hd3)⟩
end
abbrev Nt:Stmt:=(inClass (top 45) 11)
abbrev GF:YF:=["self","opener"]
theorem Jm:Ay ["self","opener","gap","changed"] GF (Ak Nt):=⟨rfl,rfl,rfl,by trivial,rfl,by trivial,by trivial⟩
def setG (gs:YT) (g:Gt) (b:Bool):YT:=gs.map λx=>if x.1=g then (x.1,b) else x
theorem JF (gs:YT) (g:Gt) (b:Bool):(setG gs g b).map (·.1)=gs.map (·.1):=by
 unfold setG
 rw[Qcf]
 refine QaL λx _=>?_
 show (if x.1=g then (x.1,b) else x).1=x.1
 split <;> rfl
theorem lO (gs:YT) (g:Gt) (b:Bool):(setG gs g b).length=gs.length:=Qbx ..
theorem rR {gs:YT} {g:Gt} {b:Bool} (h:g∈gs.map (·.1)):putK (gpV gs) (k2 g) (.bl b)=gpV (setG gs g b):=by
 obtain⟨x,hx,e⟩:=Qcc.mp h
 rw[Ye (l:=gpV gs) ⟨_,Qcc.mpr ⟨x,hx,rfl⟩,by show k2 x.1=_;rw[e]⟩]
 unfold gpV setG
 rw[Qcf,Qcf]
 refine QaL λy _=>?_
 show (if k2 y.1=k2 g then (k2 y.1,V.bl b) else (k2 y.1,V.bl y.2))=(k2 (if y.1=g then (y.1,b) else y).1,V.bl (if y.1=g then (y.1,b) else y).2)
 by_cases e:y.1=g
 ·rw[if_pos (by rw[e]),if_pos e]
 ·rw[if_neg (λz=>e (Ud z)),if_neg e]
theorem Ui {gs:YT} {g:Gt} (h:g∈gs.map (·.1)):Dw (gpV gs) (k2 g)=some (.bl (gpC gs g)):=by
 obtain⟨y,hy,ey⟩:=Qcc.mp h
 unfold gpC
 rw[Vs]
 cases e:gs.find? λx=>decide (x.1=g) with
 | none=>exact absurd ey (by simpa using List.find?_eq_none.mp e y hy)
 | some z=>rfl
def FS (H:Hp) (v:V) (gs:List Gt):Prop:=∃b g,v=.ref b/\H b=some (.tup [.int g.lp,.int g.at_])/\g∈gs
theorem ZP {H:Hp} {v:V} {ss:List Gt} (h:FS H v ss):QT (Jg H v) 2=true:=by
 obtain⟨b,s,rfl,hb,_⟩:=h
 rw[Df hb]
 rfl
theorem rQ {H:Hp} {v:V} {s:Gt} (h:Ds H v s):Th H v:=by
 obtain⟨u,rfl,e⟩:=h
 refine⟨.inr ⟨_,e⟩,λxs ex=>?_⟩
 rw[Df e] at ex
 cases ex
 refine⟨by show 2<=100;decide,λy hy=>?_⟩
 have:y=.int s.lp\/y=.int s.at_:=by simpa using hy
 rcases this with rfl | rfl <;> exact True.intro
def Xz (C:Addr):Sp:=λvs H Q _=>∃p pl d1 d2 d3 hs fl gs b g,vs=[.ref p,.ref b]/\WAt C H p pl d1 d2 d3 hs fl gs/\(∀s∈hs.map (·.1),Bd3 s)/\QM gs/\H b=some (.tup [.int g.lp,.int g.at_])/\g∈gs.map (·.1)/\∀H',WAt C H' p pl d1 d2 d3 hs fl (setG gs g (Dl hs gs g))->Ah d3 H H'->Q (.bl (!decide (V.bl (Dl hs gs g)=V.bl (gpC gs g)))) H'
section
variable {P:Program} {w:World} {K:YD} {mg:YB} {base:Heap} {op oe kd wk C:Addr}
theorem uZ (c:Im K C "act" "Wires.act" Nt GF) (T:Tw K mg op oe kd wk C) (Mt:Good P w K mg base "are_wholes" 2 FZ PN) (Fb:Good P w K mg base "comes_to_short" 3 Dg Tj):CT P w K mg base C "act" 4 GF (Xz C):=by
 have sc:=Jm
 refine c.good Jm (λvs H Q E h=>?_) (λf cdv A outer s H vs Q E hr h=>?_)
 ·obtain⟨p,pl,d1,d2,d3,hs,fl,gs,b,g,rfl,_⟩:=h
  rfl
 obtain⟨p,pl,d1,d2,d3,hs,fl,gs,b,g,rfl,R,hb,hg,hbt,hin,q⟩:=h
 refine⟨_,(Ag (Ck (PW.pt (MK (Ek (Dc (Aw Mt hr (Aa (pv 1) (Aa Ae Ac))))) (N7 (Ql (Qp (Cv hr) (pv 1) (CV (pv 0) rfl)))))) (Ai RW) BL)
 (Ag (Bb (i:=2) Jm.nd rfl (Or.inl rfl) (Aw Fb hr (Aa (CV (pv 0) rfl) (Aa (CV (pv 0) rfl) (Aa (pv 1) Ac)))))
 (Ag (Bb (i:=3) Jm.nd rfl (Or.inl rfl) (Hl dN (pv 2) (JN (Cv hr) (CV (pv 0) rfl) (pv 1) (λ_ _=>rfl)) (BJ _)))
 (Ag (Hi (Cv hr) (CV (pv 0) rfl) (pv 1) (pv 2) rfl)
 (Ai (Ba (pv 3))))))),?_⟩
 refine⟨_,rfl,.ref b,2,rfl,rQ ⟨b,rfl,hbt⟩,λH1 s1=>⟨_,rfl,?_⟩⟩
 rw[ZP ⟨b,g,rfl,hbt,hin⟩]
 have R1:=R.same s1
 obtain⟨dx,hp⟩:=R1.ins
 refine Cp ⟨_,rfl,_,rfl,p,C,dx,_,_,rfl,hp,T.cl,T.Fv,Ei pl d1 d2 d3,d3,_,rfl,Dn.t (k:=k2 g) R1.gp (s1 _ _ hbt),_,rfl,?_⟩
 rw[Ui hin]
 obtain⟨x,hx',ex⟩:=Qcc.mp hin
 have gb:=hg x hx'
 rw[ex] at gb
 refine Cp ⟨_,rfl,p,C,dx,_,_,rfl,hp,T.cl,T.Ez,Ep pl d1 d2 d3,_,rfl,p,C,dx,_,_,rfl,hp,T.cl,T.Fv,Ei pl d1 d2 d3,_,rfl,d1,d3,b,hs,gs,g,rfl,.inl R1.st,.inl R1.gp,s1 _ _ hbt,hb,gb.1,gb.2,λH2 s2=>?_⟩
 have R2:=R1.same s2
 obtain⟨dx2,hp2⟩:=R2.ins
 have s12:=s1.trans s2
 have gg:=Dn.t (k:=k2 g) R2.gp (s12 _ _ hbt)
 rw[Ui hin] at gg
 refine⟨_,rfl,_,rfl,p,C,dx2,_,_,rfl,hp2,T.cl,T.Fv,Ei pl d1 d2 d3,_,rfl,d3,_,rfl,gg,rfl,?_⟩
 have l3:=R2.l3
 have hd3:=R2.gp
 have npd:p≠d3:=λz=>by rw[z,hd3] at hp2;cases hp2
 have nt:∀zs,H2 d3≠some (.tup zs):=λzs z=>by rw[hd3] at z;cases z
 refine⟨_,rfl,_,rfl,p,C,dx2,_,_,rfl,hp2,T.cl,T.Fv,Ei pl d1 d2 d3,_,rfl,d3,_,rfl,JC.t (k:=k2 g) hd3 (s12 _ _ hbt) (Aq (by unfold gpV;rw[Qbx];omega)),?_⟩
 rw[rR hin]
 obtain⟨kvs,hk,hf⟩:=R2.fi
 have sT:=Ao.upd (o:=.dT (gpV (setG gs g (Dl hs gs g)))) nt
 exact⟨_,rfl,q _ ⟨⟨dx2,by rw[Al npd];exact hp2⟩,by rw[Al R2.n13];exact R2.st,⟨kvs,by rw[Al R2.n23];exact hk,Paired.Az hf λ_ _ z=>z.tups sT⟩,R.nd1,R.nd2,R.l1,R.l2,Ab,by rw[JF];exact R.nd3,by rw[lO];exact R.l3,R.n13,R.n23⟩ ((Ah.of s12).trans Ah.upd)⟩
end
abbrev Ij:Stmt:=top 54
abbrev Gs:YF:=["_law_plan_here"]
theorem FN:Ay ["_law_plan_here","_law_found","_law_loop_here","_law_at"] Gs (Ak Ij):=⟨rfl,rfl,rfl,by trivial,rfl,by trivial,by trivial⟩
def aW:Sp:=λvs H Q _=>∃pl most loops zones,vs=[.ref pl]/\Gm H pl most loops zones/\∀l xs H',H l=none->H' l=some (.lst xs)->Paired (Cr H') xs (up (stL loops) loops.length)->Same H H'->Q (.ref l) H'
section
variable {P:Program} {w:World} {K:YD} {mg:YB} {base:Heap} {op oe kd wk C:Addr}
theorem ni (c:Code K mg "_law_stretches" Ij Gs) (T:Tw K mg op oe kd wk C):Good P w K mg base "_law_stretches" 1 Gs aW:=by
 have sc:=FN
 refine c.good FN (λvs H Q E h=>?_) (λf cdv A outer s H vs Q E hr h=>?_)
 ·obtain⟨pl,most,loops,zones,rfl,_⟩:=h
  rfl
 obtain⟨pl,most,loops,zones,rfl,pa,q⟩:=h
 refine⟨_,(Ag (Bb (i:=1) FN.nd rfl (Or.inl rfl) (BW Ac))
 (Ag (Bv QbA rfl (Ca rfl T.range (Aa (Ax Bd rfl T.len Cu (Aa (Bq BR (pv 0) Ae (λ_ _=>rfl)) Ac)) Ac)) (Aj (i:=2) FN.nd rfl (Or.inr rfl))
 (Ag (Bf (Cm Qap Qal Qam Cd (pv 1) (Aa (Bh (Aa (pv 2) (Aa Ae (Aa Ae Ac)))) Ac)))
 (Ai (Bv QbA rfl (Ca rfl T.range (Aa (Ax Bd rfl T.len Cu (Aa (Bq BR (Bq BR (pv 0) Ae (λ_ _=>rfl)) (pv 2) (λ_ _=>rfl)) Ac)) Ac)) (Aj (i:=3) FN.nd rfl (Or.inr rfl))
 (Ai (Bf (Cm Qap Qan Qao Ec (pv 1) (Aa (BP (N':=["_law_way","_law_loop_here","_law_at"]) rfl (Bg.of (src:=[none,some 2,some 3]) (Ak Ij) ["_law_plan_here","_law_found","_law_loop_here","_law_at"] rfl rfl rfl (by trivial) (by trivial) (by trivial) rfl (by trivial)) (Ca rfl T.range (Aa (Bc BX (Ax Bd rfl T.len Cu (Aa (Bq BR (Bq BR (Bq BR (Bq BR (pv 0) Ae (λ_ _=>rfl)) (pv 2) (λ_ _=>rfl)) (pv 3) (λ_ _=>rfl)) Ae (λ_ _=>rfl)) Ac)) Ae) Ac)) (λ_ _ _ _=>(Aj (i:=0) (show List.Nodup (["_law_way","_law_loop_here","_law_at"]:YF) by trivial) rfl (Or.inl rfl))) (λ_ _ _ _=>Cy) (λ_ _ _ _=>(Bh (Aa (pv 1) (Aa (Bc BX (pv 2) Ae) (Aa (pv 0) Ac)))))) Ac))))))))
 (Ai (Ba (pv 1))))),?_⟩
 have ok:=pa.ok
 obtain⟨Ls,zs,ws,zvs,f1,f2,f3,f4,f5⟩:=pa.at_
 have lw:=QbS f3
 have l3:=ok.hi
 refine⟨Av (by show 0<=1000;decide),λl hl=>?_⟩
 have n1:=Af hl (.lst [])
 refine⟨_,rfl,pl,_,_,_,rfl,rfl,SqT.of (n1 _ _ f1),rfl,Ls,_,rfl,.inr (SqT.of (n1 _ _ f2)),_,rfl,by omega,by omega,?_⟩
 rw[Qbh]
 refine Dk (λk σ HH=>∃u2 u3,σ=[some (.ref pl),some (.ref l),u2,u3]/\(∃xs,HH l=some (.lst xs)/\Paired (Cr HH) xs (up (stL loops) k))/\Same H HH) ⟨_,_,rfl,⟨[],Ab,.nil⟩,n1⟩ (λk σ HH hk h=>?_) (fun σ HH h=>?_)
 ·obtain⟨u2,u3,rfl,⟨xs,e1,e2⟩,sm⟩:=h
  have hwk:ws[k]?=some ws[k]:=Qak hk
  obtain⟨ps,hps,t,vs',ev,ht,hpp⟩:=Paired.Cq f3 hwk
  have lv:=QbS hpp
  have hkl:k < loops.length:=by omega
  have okl:=ok.ok ps (QaE hps)
  have l12:=okl.hi
  have est:stL loops k=⟨k,0,0⟩::up (st1 k ps) ps.length:=Dh hps
  have Sv:atI ws ((0:Int)+(k:Int))=some (.ref t):=by rw[Qch];exact Ge (by rw[hwk,ev])
  have lx:=QbS e2
  have lst:=Dp (UW ok) k
  refine⟨_,rfl,.inl ⟨rfl,_,SqL.of e1⟩,_,rfl,Av (by show 3<=1000;decide),λta hta=>?_⟩
  rw[Qch]
  have a1:=Af hta (.tup [.int (k:Int),.int 0,.int 0])
  have e1a:=a1 _ _ e1
  refine⟨l,_,_,rfl,rfl,e1a,Aq (by omega),?_⟩
  have ntl:∀zs,(upd HH ta (.tup [.int (k:Int),.int 0,.int 0])) l≠some (.tup zs):=λzs z=>by rw[e1a] at z;cases z
  have sL:=Ao.upd (o:=.lst (xs++[.ref ta])) ntl
  have p2:Paired (Cr (upd (upd HH ta (.tup [.int (k:Int),.int 0,.int 0])) l (.lst (xs++[.ref ta])))) (xs++[.ref ta]) (up (stL loops) k++[⟨k,0,0⟩]):=Qcm ⟨ta,rfl,sL _ _ Ab⟩ (Paired.Az e2 λ_ _ z=>(z.tups (Ao.of a1)).tups sL)
  have hl2:(upd (upd HH ta (.tup [.int (k:Int),.int 0,.int 0])) l (.lst (xs++[.ref ta]))) l=_:=Ab
  have sm2:Same H (upd (upd HH ta (.tup [.int (k:Int),.int 0,.int 0])) l (.lst (xs++[.ref ta]))):=(sm.trans a1).Bj Ah.upd hl
  generalize upd (upd HH ta (.tup [.int (k:Int),.int 0,.int 0])) l (.lst (xs++[.ref ta]))=H2 at *
  rw[Qch] at Sv
  refine⟨_,rfl,pl,_,_,_,rfl,rfl,SqT.of (sm2 _ _ f1),rfl,_,rfl,Ls,_,_,_,rfl,rfl,SqT.of (sm2 _ _ f2),Sv,t,_,rfl,.inr (SqT.of (sm2 _ _ ht)),_,rfl,by omega,by omega,?_⟩
  rw[Qbh]
  refine Dk (λj σ HJ=>∃u3,σ=[some (.ref pl),some (.ref l),some (.int (k:Int)),u3]/\(∃ys,HJ l=some (.lst ys)/\Paired (Cr HJ) ys ((up (stL loops) k++[⟨k,0,0⟩])++up (st1 k ps) j))/\Same H HJ) ⟨_,rfl,⟨_,hl2,by rw[Ld,QbC];exact p2⟩,sm2⟩ (λj σ HJ hj h=>?_) (fun σ HJ h=>?_)
  ·obtain⟨u3,rfl,⟨ys,hyj,pj⟩,sj⟩:=h
   have hvj:vs'[j]?=some vs'[j]:=Qak hj
   obtain⟨p,hp,tp,ua,wp',ep,hp1,hp2,hp3⟩:=Paired.Cq hpp hvj
   have okp:=okl.ok p (QaE hp)
   have ej:st1 k ps j=(List.range (p.spur.length+1)).map λn:Nat=>⟨(k:Int),((1+j:Nat):Int),(n:Int)⟩:=Dh hp
   have CI:atI vs' ((0:Int)+(j:Int))=some (.ref tp):=by rw[Qch];exact Ge (by rw[hvj,ep])
   have lj:=Dp (U3 (lp:=k) okl.ok) j
   have lys:=QbS pj
   rw[QaP,QaP,QaB] at lys
   have lwp:=QbS hp3
   have hsp:=okp.spur
   refine⟨_,rfl,.inl ⟨rfl,_,SqL.of hyj⟩,_,rfl,pl,_,_,_,rfl,rfl,SqT.of (sj _ _ f1),rfl,_,rfl,Ls,_,_,_,rfl,rfl,SqT.of (sj _ _ f2),Sv,_,rfl,t,_,_,_,rfl,rfl,SqT.of (sj _ _ ht),CI,tp,_,_,_,rfl,rfl,SqT.of (sj _ _ hp1),rfl,ua,_,rfl,.inr (SqT.of (sj _ _ hp2)),_,_,rfl,rfl,_,rfl,by omega,by omega,λl2 hl3=>?_⟩
   rw[show ((wp'.length:Int)+1).toNat=p.spur.length+1 by omega]
   refine Jx (λn σ HC=>∃(u:Option V) (zs:YG),σ=[u,some (.int (k:Int)),some (.int ((0:Int)+(j:Int)))]/\HC l2=some (.lst zs)/\Same HJ HC/\Paired (Cr HC) zs ((List.range n).map λn:Nat=>⟨(k:Int),((1+j:Nat):Int),(n:Int)⟩)) ⟨none,[],rfl,Ab,Af hl3 _,.nil⟩ (λn σ HC hn h=>?_) (fun σ HC h=>?_)
   ·obtain⟨u,zs,rfl,c1,c2,c3⟩:=h
    refine⟨_,rfl,_,rfl,_,_,rfl,rfl,_,rfl,Av (by show 3<=1000;decide),λtq htq=>?_⟩
    rw[show (λi j:Int=>V.int (i+j)) ((0:Int)+(j:Int)) 1=V.int ((1+j:Nat):Int) from congrArg V.int (by omega)]
    have s3:=Af htq (.tup [.int (k:Int),.int ((1+j:Nat):Int),.int (0+(n:Int))])
    have c1':=s3 _ _ c1
    have lz:=QbS c3
    rw[Qbx,Qbm] at lz
    have n1:∀zs',(upd HC tq (.tup [.int (k:Int),.int ((1+j:Nat):Int),.int (0+(n:Int))])) l2≠some (.tup zs'):=λzs' z=>by rw[c1'] at z;cases z
    have t4:=Ao.upd (o:=.lst (zs++[.ref tq])) n1
    refine⟨_,c1',Aq (by omega),_,zs++[.ref tq],rfl,Ab,(c2.trans s3).Bj Ah.upd hl3,?_⟩
    rw[List.range_succ,Qby]
    refine Qcm ⟨tq,rfl,?_⟩ (Paired.Az c3 λ_ _ z=>(z.tups (Ao.of s3)).tups t4)
    refine t4 _ _ ?_
    rw[Ab,Qch]
   obtain⟨u,zs,rfl,c1,c2,c3⟩:=h
   have lz:=QbS c3
   rw[Qbx,Qbm] at lz
   have hyC:=c2 _ _ hyj
   refine⟨l,l2,_,_,rfl,rfl,hyC,c1,Av (by omega),?_⟩
   have n2:∀zs',HC l≠some (.tup zs'):=λzs' z=>by rw[hyC] at z;cases z
   have t5:=Ao.upd (o:=.lst (ys++zs)) n2
   refine⟨_,rfl,⟨ys++zs,Ab,?_⟩,(sj.trans c2).Bj Ah.upd hl⟩
   rw[Dj,ej,<-Qbf]
   exact Paired.app (Paired.Az pj λ_ _ z=>(z.tups (Ao.of c2)).tups t5) (Paired.Az c3 λ_ _ z=>z.tups t5)
  obtain⟨u3,rfl,⟨ys,hyj,pj⟩,sj⟩:=h
  rw[lv] at pj
  refine⟨_,_,rfl,⟨ys,hyj,?_⟩,sj⟩
  rw[Dj,est,show up (stL loops) k++(⟨k,0,0⟩::up (st1 k ps) ps.length)=(up (stL loops) k++[⟨k,0,0⟩])++up (st1 k ps) ps.length from by simp only[Qbf,List.cons_append,List.nil_append]]
  exact pj
 ·obtain⟨u2,u3,rfl,⟨xs,e1,e2⟩,sm⟩:=h
  rw[lw] at e2
  exact⟨_,rfl,q l xs HH hl e1 e2 sm⟩
end
abbrev CN:Stmt:=(inClass (top 45) 13)
abbrev Dr:YF:=["self"]
theorem Cz:Ay ["self","lone","near","row","opener"] Dr (Ak CN):=⟨rfl,rfl,rfl,by trivial,rfl,by trivial,by trivial⟩
def lone (gs:YT):YT:=gs.map λx=>(x.1,true)
def Bl (hs:YR) (gs:YT) (g:Gt):Bool:=Dl hs (lone gs) g
def CJ (hs:YR) (gs:YT):YT:=gs.map λx=>(x.1,Bl hs gs x.1)
def DX (hs:YR) (gs:YT) (L:List Gt):YT:=L.foldl (λgs g=>setG gs g (Dl hs gs g)) gs
def cS (hs:YR) (gs:YT) (lp st:Int) (f:Nat) (a:Int):Bool:=Gp hs (Br hs gs lp st f a).1
theorem Lk {hs:YR} {gs:YT} {lp st:Int} {f:Nat} {a:Int}:cS hs gs lp st (f+1) a=true ↔ ¬stC hs ⟨lp,Dm a (a+st),0⟩="cut"/\(Gp hs (⟨lp,Dm a (a+st),0⟩::CG hs lp (a+st))=true\/gpC gs ⟨lp,a+st⟩=false/\cS hs gs lp st f (a+st)=true):=by
 unfold cS
 by_cases hc:stC hs ⟨lp,Dm a (a+st),0⟩="cut"
 ·rw[show Br hs gs lp st (f+1) a=([],[]) from if_pos hc]
  constructor
  ·intro h;cases h
  ·rintro ⟨h,_⟩;exact absurd hc h
 ·cases hg:gpC gs ⟨lp,a+st⟩ with
  | true=>
   rw[show Br hs gs lp st (f+1) a=(⟨lp,Dm a (a+st),0⟩::CG hs lp (a+st),⟨lp,a+st,0⟩::CG hs lp (a+st)) from (if_neg hc).trans (if_pos hg)]
   constructor
   ·intro h;exact⟨hc,.inl h⟩
   ·rintro ⟨_,h |⟨h,_⟩⟩
    ·exact h
    ·cases h
  | false=>
   rw[show Br hs gs lp st (f+1) a=((⟨lp,Dm a (a+st),0⟩::CG hs lp (a+st))++(Br hs gs lp st f (a+st)).1,(⟨lp,a+st,0⟩::CG hs lp (a+st))++(Br hs gs lp st f (a+st)).2) from (if_neg hc).trans (if_neg (by rw[hg];decide))]
   show Gp hs (_++_)=true ↔ _
   unfold Gp
   rw[List.any_append,Bool.or_eq_true]
   constructor
   ·rintro (h | h)
    ·exact⟨hc,.inl h⟩
    ·exact⟨hc,.inr ⟨rfl,h⟩⟩
   ·rintro ⟨_,h |⟨_,h⟩⟩
    ·exact .inl h
    ·exact .inr h
theorem cM {hs:YR} {gs:YT} {lp st:Int}:∀{f F:Nat} {a:Int},f<=F->cS hs gs lp st f a=true->cS hs gs lp st F a=true
 | 0,_,_,_,h=>by cases h
 | f+1,F+1,a,hF,h=>by
  obtain⟨h1,h2⟩:=Lk.mp h
  refine Lk.mpr ⟨h1,h2.imp id λzz=>?_⟩
  obtain⟨h3,h4⟩:=zz
  exact⟨h3,cM (by omega) h4⟩
theorem Vz {hs:YR} {gs ls:YT} {lp st:Int} (hl:∀g,gpC ls g=false->gpC gs g=false):∀{f:Nat} {a:Int},cS hs ls lp st f a=true->cS hs gs lp st f a=true
 | 0,_,h=>by cases h
 | f+1,a,h=>by
  obtain⟨h1,h2⟩:=Lk.mp h
  refine Lk.mpr ⟨h1,h2.imp id λzz=>?_⟩
  obtain⟨h3,h4⟩:=zz
  exact⟨hl _ h3,Vz hl h4⟩
theorem Mv {hs:YR} {gs:YT} {g:Gt}:Dl hs gs g=true ↔ cS hs gs g.lp 1 16 g.at_=true\/cS hs gs g.lp (-1) 16 g.at_=true:=by
 unfold Dl cS
 rw[Bool.or_eq_true]
theorem Vy {hs:YR} {gs ls:YT} {lp st:Int} (hst:st=1\/st=-1) (hn:∀g,gpC ls g=true->Dl hs ls g=true->gpC gs g=true):∀{f:Nat} {a:Int},f<=16->cS hs gs lp st f a=true->cS hs ls lp st f a=true
 | 0,_,_,h=>by cases h
 | f+1,a,hf,h=>by
  obtain⟨h1,h2⟩:=Lk.mp h
  refine Lk.mpr ⟨h1,?_⟩
  rcases h2 with h2 |⟨h3,h4⟩
  ·exact .inl h2
  ·have ih:=Vy hst hn (by omega) h4
   cases hg:gpC ls ⟨lp,a+st⟩ with
   | false=>exact .inr ⟨rfl,ih⟩
   | true=>
    have:=hn ⟨lp,a+st⟩ hg (Mv.mpr (by
     have:=cM (F:=16) (by omega) ih
     rcases hst with rfl | rfl
     ·exact .inl this
     ·exact .inr this))
    rw[h3] at this
    cases this
theorem find_key {β : Type} {gs:List (Gt×β)} {g:Gt} (h:g∉gs.map (·.1)):gs.find? (λx=>decide (x.1=g))=none:=List.find?_eq_none.mpr λx hx=>by simpa using λe=>h (Qcc.mpr ⟨x,hx,e⟩)
theorem cu {gs:YT} {g:Gt} (h:gpC gs g=true):g∈gs.map (·.1):=Qah λc=>by
 unfold gpC at h
 rw[find_key c] at h
 cases h
theorem Uj {gs:YT} (nd:(gs.map (·.1)).Nodup) {x:Gt×Bool} (h:x∈gs):gpC gs x.1=x.2:=by
 unfold gpC
 induction gs with
 | nil=>cases h
 | cons a r ih=>
  obtain⟨n1,n2⟩:=QbG.mp nd
  rcases QbT.mp h with rfl | h
  ·rw[Qay (by exact QbN rfl)];rfl
  ·rw[Qax (by simpa using λe=>n1 (Qcc.mpr ⟨x,h,by exact Eq.symm e⟩))]
   exact ih n2 h
theorem JX (f:Gt->Bool) (g:Gt):∀gs:YT,g∈gs.map (·.1)->gpC (gs.map λx=>(x.1,f x.1)) g=f g
 | [],h=>by cases h
 | a::r,h=>by
  unfold gpC
  by_cases e:a.1=g
  ·rw[QbU,Qay (by exact QbN e),e];rfl
  ·rw[QbU,Qax (by simpa using e)]
   refine JX f g r ?_
   rcases QbT.mp h with z | z
   ·exact absurd z.symm e
   ·exact z
theorem oh (gs:YT):(lone gs).map (·.1)=gs.map (·.1):=by unfold lone;rw[Qcf];rfl
theorem Km (hs:YR) (gs:YT):(CJ hs gs).map (·.1)=gs.map (·.1):=by unfold CJ;rw[Qcf];rfl
theorem rG {gs gs':YT} (h:gs.map (·.1)=gs'.map (·.1)):lone gs=lone gs':=by
 have:∀l:YT,lone l=(l.map (·.1)).map λg=>(g,true):=λl=>by unfold lone;rw[Qcf];rfl
 rw[this,this,h]
theorem Zd {gs:YT} {g:Gt}:gpC (lone gs) g=true ↔ g∈gs.map (·.1):=⟨λh=>by rw[<-oh];exact cu h,λh=>JX (λ_=>true) g gs h⟩
theorem Qt {hs:YR} {gs:YT} {g:Gt} (h:Bl hs gs g=true):Dl hs gs g=true:=by
 have hl:∀g,gpC (lone gs) g=false->gpC gs g=false:=λg h=>by
  cases c:gpC gs g with
  | false=>rfl
  | true=>rw[Zd.mpr (cu c)] at h;cases h
 exact Mv.mpr ((Mv.mp h).imp (Vz hl) (Vz hl))
def Oh (hs:YR) (gs:YT):Prop:=∀g,g∈gs.map (·.1)->Bl hs gs g=true->gpC gs g=true
theorem V9 {hs:YR} {gs:YT} (hn:Oh hs gs) (g:Gt):Dl hs gs g=Bl hs gs g:=by
 cases c:Bl hs gs g with
 | true=>exact Qt c
 | false=>
  cases c':Dl hs gs g with
  | false=>rfl
  | true=>
   have hn':∀g,gpC (lone gs) g=true->Dl hs (lone gs) g=true->gpC gs g=true:=λg h1 h2=>hn g (Zd.mp h1) h2
   have:Bl hs gs g=true:=Mv.mpr ((Mv.mp c').imp (Vy (.inl rfl) hn' (Qck _)) (Vy (.inr rfl) hn' (Qck _)))
   rw[c] at this
   cases this
theorem Rg {gs:YT} {g:Gt} (h:g∈gs.map (·.1)) (b:Bool) (g':Gt):gpC (setG gs g b) g'=if g'=g then b else gpC gs g':=by
 induction gs with
 | nil=>cases h
 | cons a r ih=>
  by_cases e:a.1=g
  ·by_cases e':g'=g
   ·rw[if_pos e']
    unfold gpC setG
    rw[QbU,if_pos e,Qay (by rw[e'];exact QbN e)]
    rfl
   ·have n:¬a.1=g':=λz=>e' (by rw[<-z,e])
    rw[if_neg e']
    by_cases hr:g∈r.map (·.1)
    ·have:=ih hr
     rw[if_neg e'] at this
     unfold gpC setG at this ⊢
     rw[QbU,if_pos e,Qax (by simpa using n),Qax (by simpa using n)]
     exact this
    ·unfold gpC setG
     rw[QbU,if_pos e,Qax (by simpa using n),Qax (by simpa using n),show (r.map λx=>if x.1=g then (x.1,b) else x)=r from (QaL λx hx=>if_neg λz=>hr (Qcc.mpr ⟨x,hx,z⟩)).trans (List.map_id r)]
  ·have hr:g∈r.map (·.1):=by
    rcases QbT.mp h with z | z
    ·exact absurd z.symm e
    ·exact z
   have:=ih hr
   unfold gpC setG at this ⊢
   rw[QbU,if_neg e]
   by_cases n:a.1=g'
   ·rw[Qay (by exact QbN n),Qay (by exact QbN n),if_neg (λz=>e (by rw[n,z]))]
   ·rw[Qax (by simpa using n),Qax (by simpa using n)]
    exact this
theorem Gd {hs:YR} {gs gs':YT} (h:gs.map (·.1)=gs'.map (·.1)) (g:Gt):Bl hs gs g=Bl hs gs' g:=by unfold Bl;rw[rG h]
theorem Hf (hs:YR):∀(L:List Gt) (gs:YT),(DX hs gs L).map (·.1)=gs.map (·.1)
 | [],_=>rfl
 | g::r,gs=>(Hf hs r _).trans (JF _ _ _)
theorem S9 (hs:YR) (gs:YT) (L M:List Gt):DX hs gs (L++M)=DX hs (DX hs gs L) M:=List.foldl_append ..
theorem fW {hs:YR}:∀{L:List Gt} {gs:YT},(∀g∈L,g∈gs.map (·.1))->∀g,(g∈L\/gpC gs g=true)->Bl hs gs g=true->gpC (DX hs gs L) g=true
 | [],gs,_,g,h,_=>by
  rcases h with h | h
  ·cases h
  ·exact h
 | x::r,gs,hk,g,h,hn=>by
  have e1:=JF gs x (Dl hs gs x)
  have hx:=hk x QaQ
  show gpC (DX hs (setG gs x (Dl hs gs x)) r) g=true
  refine fW (λg' hg'=>by rw[e1];exact hk g' (QaF _ hg')) g ?_ (by rw[Gd e1];exact hn)
  rw[Rg hx]
  by_cases e:g=x
  ·rw[if_pos e,<-e]
   exact .inr (Qt hn)
  ·rw[if_neg e]
   rcases h with h | h
   ·rcases QbT.mp h with h | h
    ·exact absurd h e
    ·exact .inl h
   ·exact .inr h
theorem qt {hs:YR}:∀{L:List Gt} {gs:YT},(∀g∈L,g∈gs.map (·.1))->∀g,g∉L->gpC (DX hs gs L) g=gpC gs g
 | [],gs,_,g,_=>rfl
 | x::r,gs,hk,g,h=>by
  have e1:=JF gs x (Dl hs gs x)
  show gpC (DX hs (setG gs x (Dl hs gs x)) r) g=_
  rw[qt (λg' hg'=>by rw[e1];exact hk g' (QaF _ hg')) g (λz=>h (QaF _ z)),Rg (hk x QaQ),if_neg (λz=>h (by rw[z];exact QaQ))]
theorem fV {hs:YR}:∀{L:List Gt} {gs:YT},(∀g∈L,g∈gs.map (·.1))->Oh hs gs->∀g,gpC (DX hs gs L) g=if g∈L then Bl hs gs g else gpC gs g
 | [],gs,_,_,g=>rfl
 | x::r,gs,hk,hn,g=>by
  have e1:=JF gs x (Dl hs gs x)
  have hx:=hk x QaQ
  have hn':Oh hs (setG gs x (Dl hs gs x)):=λg' h1 h2=>by
   rw[e1] at h1
   rw[Gd e1] at h2
   rw[Rg hx]
   by_cases e:g'=x
   ·rw[if_pos e,<-e];exact Qt h2
   ·rw[if_neg e];exact hn g' h1 h2
  show gpC (DX hs (setG gs x (Dl hs gs x)) r) g=_
  rw[fV (λg' hg'=>by rw[e1];exact hk g' (QaF _ hg')) hn' g,Gd e1,Rg hx]
  by_cases h:g∈r
  ·rw[if_pos h,if_pos (QaF _ h)]
  ·rw[if_neg h]
   by_cases e:g=x
   ·rw[if_pos e,if_pos (by rw[e];exact QaQ),e,V9 hn]
   ·rw[if_neg e,if_neg (λz=>by rcases QbT.mp z with z | z;exact e z;exact h z)]
theorem jz {gs gs':YT} (nd:(gs.map (·.1)).Nodup) (k:gs.map (·.1)=gs'.map (·.1)) (h:∀g∈gs.map (·.1),gpC gs g=gpC gs' g):gs=gs':=by
 have e:∀l:YT,(l.map (·.1)).Nodup->l=(l.map (·.1)).map λg=>(g,gpC l g):=λl n=>by
  rw[Qcf]
  refine (List.map_id l).symm.trans (QaL λx hx=>?_)
  show x=(x.1,gpC l x.1)
  rw[Uj n hx]
 rw[e gs nd,e gs' (by rw[<-k];exact nd),<-k]
 exact QaL λg hg=>by rw[h g hg]
theorem cQ {hs:YR} {gs:YT} (nd:(gs.map (·.1)).Nodup) {L M:List Gt} (hL:∀g,g∈L ↔ g∈gs.map (·.1)) (hM:∀g,g∈M ↔ g∈gs.map (·.1)):DX hs (DX hs gs L) M=CJ hs gs:=by
 have k1:=Hf hs L gs
 have k2:=(Hf hs M (DX hs gs L)).trans k1
 have hn:Oh hs (DX hs gs L):=λg h1 h2=>by
  rw[k1] at h1
  rw[Gd k1] at h2
  exact fW (λg h=>(hL g).mp h) g (.inl ((hL g).mpr h1)) h2
 refine jz (by rw[k2];exact nd) (by rw[k2,Km]) λg hg=>?_
 rw[k2] at hg
 rw[fV (λg h=>by rw[k1];exact (hM g).mp h) hn g,if_pos ((hM g).mpr hg),Gd k1]
 exact (JX (Bl hs gs) g gs hg).symm
def JL (hs:YR) (gs:YT):List Gt:=(gs.filter λx=>Bl hs gs x.1&&!x.2).map (·.1)
def row2 (hs:YR) (gs:YT):List Gt:=(gs.filter λx=>x.2&&!Bl hs gs x.1).map (·.1)
theorem Q7 {gs:YT} (nd:(gs.map (·.1)).Nodup) {p:Gt->Bool->Bool} {g:Gt}:g∈(gs.filter λx=>p x.1 x.2).map (·.1) ↔ g∈gs.map (·.1)/\p g (gpC gs g)=true:=by
 constructor
 ·intro h
  obtain⟨x,hx,rfl⟩:=Qcc.mp h
  obtain⟨h1,h2⟩:=QbF.mp hx
  exact⟨Qcc.mpr ⟨x,h1,rfl⟩,by rw[Uj nd h1];exact h2⟩
 ·rintro ⟨h1,h2⟩
  obtain⟨x,hx,rfl⟩:=Qcc.mp h1
  rw[Uj nd hx] at h2
  exact Qcc.mpr ⟨x,QbF.mpr ⟨hx,h2⟩,rfl⟩
theorem mj {hs:YR} {gs:YT} (nd:(gs.map (·.1)).Nodup):DX hs gs (JL hs gs++row2 hs gs)=CJ hs gs:=by
 have m1:∀g,g∈JL hs gs ↔ g∈gs.map (·.1)/\(Bl hs gs g&&!gpC gs g)=true:=λg=>Q7 nd (p:=λg b=>Bl hs gs g&&!b)
 have m2:∀g,g∈row2 hs gs ↔ g∈gs.map (·.1)/\(gpC gs g&&!Bl hs gs g)=true:=λg=>Q7 nd (p:=λg b=>b&&!Bl hs gs g)
 rw[S9]
 have h1:∀g∈JL hs gs,g∈gs.map (·.1):=λg h=>((m1 g).mp h).1
 have h2:∀g∈row2 hs gs,g∈gs.map (·.1):=λg h=>((m2 g).mp h).1
 have k1:=Hf hs (JL hs gs) gs
 have k2:=(Hf hs (row2 hs gs) (DX hs gs (JL hs gs))).trans k1
 have hn:Oh hs (DX hs gs (JL hs gs)):=λg z1 z2=>by
  rw[k1] at z1
  rw[Gd k1] at z2
  refine fW h1 g ?_ z2
  cases c:gpC gs g with
  | true=>exact .inr rfl
  | false=>exact .inl ((m1 g).mpr ⟨z1,by rw[z2,c];rfl⟩)
 refine jz (by rw[k2];exact nd) (by rw[k2,Km]) λg hg=>?_
 rw[k2] at hg
 rw[fV (λg h=>by rw[k1];exact h2 g h) hn g,Gd k1,show gpC (CJ hs gs) g=Bl hs gs g from JX (Bl hs gs) g gs hg]
 by_cases h:g∈row2 hs gs
 ·rw[if_pos h]
 ·rw[if_neg h]
  cases c:Bl hs gs g with
  | true=>exact hn g (by rw[k1];exact hg) (by rw[Gd k1];exact c)
  | false=>
   rw[qt h1 g λz=>by have:=((m1 g).mp z).2;rw[c] at this;cases this]
   cases d:gpC gs g with
   | false=>rfl
   | true=>exact absurd ((m2 g).mpr ⟨hg,by rw[c,d];rfl⟩) h
theorem dG {hs:YR} {gs:YT} (nd:(gs.map (·.1)).Nodup):Tt hs (CJ hs gs)=true:=by
 have k:=Km hs gs
 have hg:∀g∈gs.map (·.1),gpC (CJ hs gs) g=Bl hs gs g:=λg h=>JX (Bl hs gs) g gs h
 have hn:Oh hs (CJ hs gs):=λg h1 h2=>by
  rw[k] at h1
  rw[Gd k] at h2
  rw[hg g h1];exact h2
 unfold Tt
 rw[List.all_eq_true]
 intro b hb
 obtain⟨x,hx,rfl⟩:=Qcc.mp hb
 have hx1:x.1∈gs.map (·.1):=by rw[<-k];exact Qcc.mpr ⟨x,hx,rfl⟩
 refine QbN ?_
 rw[V9 hn,Gd k,<-hg x.1 hx1,Uj (by rw[k];exact nd) hx]
theorem QM.keys {gs gs':YT} (h:QM gs) (k:gs'.map (·.1)=gs.map (·.1)):QM gs':=λx hx=>by
 have:x.1∈gs.map (·.1):=by rw[<-k];exact Qcc.mpr ⟨x,hx,rfl⟩
 obtain⟨y,hy,e⟩:=Qcc.mp this
 rw[<-e]
 exact h y hy
def bh (C:Addr):Sp:=λvs H Q _=>∃p pl d1 d2 d3 hs fl gs,vs=[.ref p]/\WAt C H p pl d1 d2 d3 hs fl gs/\(∀s∈hs.map (·.1),Bd3 s)/\QM gs/\∀l xs H',H l=none->H' l=some (.lst xs)->Paired (Ds H') xs (JL hs gs++row2 hs gs)->WAt C H' p pl d1 d2 d3 hs fl (CJ hs gs)->Ah d3 H H'->Q (.ref l) H'
theorem cj {gs:YT} {f:Gt×Bool->Bool} (nd:(gs.map (·.1)).Nodup) {i:Nat} {x:Gt×Bool} (hx:gs[i]?=some x):putK (gpV ((gs.take i).map λy=>(y.1,f y))) (k2 x.1) (.bl (f x))=gpV ((gs.take (i+1)).map λy=>(y.1,f y)):=by
 rw[Mf,Qcs hx]
 ·unfold gpV
  rw[Qby,Qby]
  rfl
 ·refine N6 λy hy e=>?_
  unfold gpV at hy
  rw[Qcf] at hy
  obtain⟨z,hz,rfl⟩:=Qcc.mp hy
  exact Ib (f:=λy:Gt×Bool=>y.1) nd hx z hz (Ud e)
section
variable {P:Program} {w:World} {K:YD} {mg:YB} {base:Heap} {op oe kd wk C:Addr}
theorem T6 (c:Im K C "come_to_rest" "Wires.come_to_rest" CN Dr) (T:Tw K mg op oe kd wk C) (Fb:Good P w K mg base "comes_to_short" 3 Dg Tj) (Vv:CT P w K mg base C "act" 4 GF (Xz C)):CT P w K mg base C "come_to_rest" 5 Dr (bh C):=by
 have sc:=Cz
 refine c.good Cz (λvs H Q E h=>?_) (λf cdv A outer s H vs Q E hr h=>?_)
 ·obtain⟨p,pl,d1,d2,d3,hs,fl,gs,rfl,_⟩:=h
  rfl
 obtain⟨p,pl,d1,d2,d3,hs,fl,gs,rfl,R,hb,hg,q⟩:=h
 refine⟨_,(Ag (Bb (i:=1) Cz.nd rfl (Or.inr rfl) (Mj rfl (Ko (Cv hr) (N':=["opener"]) rfl (Bg.plain rfl (by trivial) (by trivial) (by trivial)) (R0 (CV (pv 0) rfl)) (λ_ _ _ _=>(Aj (i:=0) (show List.Nodup (["opener"]:YF) by trivial) rfl (Or.inl rfl))) (λ_ _ _ _=>Cy) (λ_ _ _ _=>(pv 0)) (λ_ _ _ _=>Fz))))
 (Ag (Bb (i:=2) Cz.nd rfl (Or.inr rfl) (Mj rfl (Ko (Cv hr) (N':=["opener","lone","self"]) rfl (Bg.of (src:=[none,some 1,some 0]) (Ak CN) ["self","lone","near","row","opener"] rfl rfl rfl (by trivial) (by trivial) (by trivial) rfl (by trivial)) (R0 (CV (pv 0) rfl)) (λ_ _ _ _=>(Aj (i:=0) (show List.Nodup (["opener","lone","self"]:YF) by trivial) rfl (Or.inl rfl))) (λ_ _ _ _=>Cy) (λ_ _ _ _=>(pv 0)) (λ_ _ _ _=>(Aw Fb hr (Aa (bL (K:=K) rfl (pv 2) rfl) (Aa (pv 1) (Aa (pv 0) Ac))))))))
 (Ag (Yi rfl (Vf (i:=3) Cz.nd rfl (Or.inl rfl) (N':=["opener","gap","near"]) rfl (Bg.of (src:=[none,none,some 2]) (Ak CN) ["self","lone","near","row","opener"] rfl rfl rfl (by trivial) (by trivial) (by trivial) rfl (by trivial)) (MN (CV (pv 0) rfl)) (λ_ _ _ _=>(FT (K:=K) (n:=2) rfl rfl (Am (Aj (i:=0) (show List.Nodup (["opener","gap","near"]:YF) by trivial) rfl (Or.inl rfl)) (Am (Aj (i:=1) (show List.Nodup (["opener","gap","near"]:YF) by trivial) rfl (Or.inl rfl)) Bo)))) (λ_ _ _ _=>(G6 (PW.pt (iD (Dc (JN (Cv hr) (pv 2) (pv 0) (λ_ _=>rfl))) (bJ (Ek (Dc (pv 1)))))))) (λ_ _ _ _=>(pv 0))))
 (Ag (Bf (Cm Qap Qan Qao Ec (pv 3) (Aa (Mj rfl (BP (N':=["opener","gap","near"]) rfl (Bg.of (src:=[none,none,some 2]) (Ak CN) ["self","lone","near","row","opener"] rfl rfl rfl (by trivial) (by trivial) (by trivial) rfl (by trivial)) (MN (CV (pv 0) rfl)) (λ_ _ _ _=>(FT (K:=K) (n:=2) rfl rfl (Am (Aj (i:=0) (show List.Nodup (["opener","gap","near"]:YF) by trivial) rfl (Or.inl rfl)) (Am (Aj (i:=1) (show List.Nodup (["opener","gap","near"]:YF) by trivial) rfl (Or.inl rfl)) Bo)))) (λ_ _ _ _=>(G6 (PW.pt (iD (Dc (pv 1)) (bJ (Ek (Dc (JN (Cv hr) (pv 2) (pv 0) (λ_ _=>rfl))))))))) (λ_ _ _ _=>(pv 0)))) Ac)))
 (Ag (Bv QbA rfl (DN (pv 3)) (Aj (i:=4) Cz.nd rfl (Or.inl rfl))
 (Ai (Bf (Hj (pv 0) T.cl Vv hr (Aa (pv 4) Ac)))))
 (Ai (Ba (pv 3)))))))),?_⟩
 obtain⟨dx,hp⟩:=R.ins
 have hd3:=R.gp
 have l3:=R.l3
 have nd3:=R.nd3
 have nfz:∀o' u,H d3≠some (.frz o' u):=λo' u z=>by rw[hd3] at z;cases z
 have lgs:(gpV gs).length=gs.length:=by unfold gpV;rw[Qbx]
 have eU:∀{i:Nat} {kv:List Key×V},(gpV gs)[i]?=some kv->∃x,gs[i]?=some x/\kv=(k2 x.1,.bl x.2):=λ{i kv} h=>by
  unfold gpV at h
  rw[Qbg] at h
  obtain⟨x,hx,rfl⟩:=Qaw.mp h
  exact⟨x,hx,rfl⟩
 refine⟨_,rfl,p,C,dx,_,_,rfl,hp,T.cl,T.Fv,Ei pl d1 d2 d3,d3,gpV gs,rfl,hd3,λo l hl=>?_⟩
 have nl:l≠d3:=λz=>by rw[z,Ab] at hl;cases hl
 have fl1:H l=none:=by rw[Al nl] at hl;exact hl
 refine Wa (λi σ HH=>(∃u,σ=[u])/\HH l=some (.dT (gpV ((gs.take i).map λx=>(x.1,true))))/\Same (upd H d3 (.frz o (.dT (gpV gs)))) HH) ⟨⟨none,rfl⟩,Ab,Af hl _⟩ (λi σ HH _ h=>h.2.2 _ _ Ab) (λi kv b σ HH hkv h hb'=>?_) (fun σ HH h=>?_)
 ·obtain⟨⟨u,rfl⟩,e1,e2⟩:=h
  obtain⟨x,hx,rfl⟩:=eU hkv
  have hi:=(Qag.mp hkv).1
  unfold Fe
  dsimp only
  refine BZ ⟨_,rfl,_,k2 x.1,b,e1,rfl,hb',Aq (by unfold gpV;rw[Qbx,Qbx,Qbq];omega),⟨_,rfl⟩,?_,e2.Bj Ah.upd hl⟩
  rw[Ab,cj (f:=λ_=>true) nd3 hx]
 obtain⟨_,e1,e2⟩:=h
 rw[lgs,Qbo] at e1
 have e1:HH l=some (.dT (gpV (lone gs))):=e1
 refine⟨d3,o,gpV gs,e2 _ _ Ab,nfz,?_⟩
 have s1:=IV e2 hd3
 have h1l:(upd HH d3 (.dT (gpV gs))) l=some (.dT (gpV (lone gs))):=by rw[Al nl];exact e1
 generalize upd HH d3 (.dT (gpV gs))=H1 at *
 clear e1 e2 hl
 have R1:=R.same s1
 obtain⟨dx1,hp1⟩:=R1.ins
 refine⟨_,rfl,p,C,dx1,_,_,rfl,hp1,T.cl,T.Fv,Ei pl d1 d2 d3,d3,gpV gs,rfl,R1.gp,λo2 ln hl2=>?_⟩
 have nln:ln≠d3:=λz=>by rw[z,Ab] at hl2;cases hl2
 have f2:H1 ln=none:=by rw[Al nln] at hl2;exact hl2
 have zX:(lone gs).length=gs.length:=Qbx ..
 refine Wa (λi σ HH=>(∃u,σ=[u,some (.ref l),some (.ref p)])/\HH ln=some (.dT (gpV ((gs.take i).map λx=>(x.1,Bl hs gs x.1))))/\Same (upd H1 d3 (.frz o2 (.dT (gpV gs)))) HH) ⟨⟨none,rfl⟩,Ab,Af hl2 _⟩ (λi σ HH _ h=>h.2.2 _ _ Ab) (λi kv b σ HH hkv h hb'=>?_) (fun σ HH h=>?_)
 ·obtain⟨⟨u,rfl⟩,e1,e2⟩:=h
  obtain⟨x,hx,rfl⟩:=eU hkv
  have hi:=(Qag.mp hkv).1
  have gb:=hg x (QaE hx)
  have z3:∀c v,H1 c=some v->c≠d3->HH c=some v:=λc v e n=>e2 _ _ (by rw[Al n];exact e)
  have np3:p≠d3:=λz=>by rw[z,R1.gp] at hp1;cases hp1
  unfold Fe
  dsimp only
  refine BZ ⟨_,rfl,_,rfl,p,C,dx1,_,_,rfl,z3 _ _ hp1 np3,T.cl,T.Ez,Ep pl d1 d2 d3,_,rfl,_,rfl,d1,l,b,hs,lone gs,x.1,rfl,.inl (z3 _ _ R1.st R1.n13),.inl (z3 _ _ h1l nl),hb',hb,gb.1,gb.2,λH2 s2=>?_⟩
  refine⟨_,k2 x.1,b,s2 _ _ e1,rfl,s2 _ _ hb',Aq (by unfold gpV;rw[Qbx,Qbx,Qbq];omega),⟨_,rfl⟩,?_,(e2.trans s2).Bj Ah.upd hl2⟩
  rw[Ab]
  exact congrArg (λz=>some (HO.dT z)) (cj (f:=λx=>Bl hs gs x.1) nd3 hx)
 obtain⟨_,e1,e2⟩:=h
 rw[lgs,Qbo] at e1
 have e1:HH ln=some (.dT (gpV (CJ hs gs))):=e1
 have zW:∀o' u,H1 d3≠some (.frz o' u):=λo' u z=>by rw[R1.gp] at z;cases z
 refine⟨d3,o2,gpV gs,e2 _ _ Ab,nfz,?_⟩
 have s2:=s1.trans (IV e2 R1.gp)
 have h2n:(upd HH d3 (.dT (gpV gs))) ln=some (.dT (gpV (CJ hs gs))):=by rw[Al nln];exact e1
 have fln:H ln=none:=s1.free f2
 generalize upd HH d3 (.dT (gpV gs))=H2 at *
 clear e1 e2 hl2 zW hp1 f2
 have R2:=R.same s2
 obtain⟨dx2,hp2⟩:=R2.ins
 have YW:∀{HX:Hp} {b:Addr} {x:Gt×Bool},HX ln=some (.dT (gpV (CJ hs gs)))->HX b=some (.tup [.int x.1.lp,.int x.1.at_])->x∈gs->Dn HX ln (.ref b) (some (.bl (Bl hs gs x.1))):=λ{HX b x} h1 h2 h3=>by
  have g:=Dn.t (k:=k2 x.1) h1 h2
  have hin:x.1∈gs.map (·.1):=Qcc.mpr ⟨x,h3,rfl⟩
  rw[Ui (by rw[Km];exact hin),show gpC (CJ hs gs) x.1=Bl hs gs x.1 from JX (Bl hs gs) x.1 gs hin] at g
  exact g
 refine⟨_,rfl,p,C,dx2,_,_,rfl,hp2,T.cl,T.Fv,Ei pl d1 d2 d3,d3,gpV gs,rfl,R2.gp,λo3 lr hl3=>?_⟩
 have nlr:lr≠d3:=λz=>by rw[z,Ab] at hl3;cases hl3
 have DU:H2 lr=none:=by rw[Al nlr] at hl3;exact hl3
 have z2:∀{HH:Hp},Same (upd H2 d3 (.frz o3 (.dT (gpV gs)))) HH->HH ln=some (.dT (gpV (CJ hs gs))):=λs=>s _ _ (by rw[Al nln];exact h2n)
 have cZ:∀{HH:Hp} {lc p' b:Addr} {i:Nat} {x:Gt×Bool} {ys:YG} {ps:List Gt} {H0:Hp},HH lc=some (.lst ys)->Paired (Ds HH) ys ps->HH p'=none->HH b=some (.tup [.int x.1.lp,.int x.1.at_])->H0 lc=none->Same H0 HH->((upd (upd HH p' (.tup [.ref b,.bl x.2])) lc (.lst (ys++[.ref b]))) lc=some (.lst (ys++[.ref b]))/\Paired (Ds (upd (upd HH p' (.tup [.ref b,.bl x.2])) lc (.lst (ys++[.ref b])))) (ys++[.ref b]) (ps++[x.1])/\Same H0 (upd (upd HH p' (.tup [.ref b,.bl x.2])) lc (.lst (ys++[.ref b])))):=λ{HH lc p' b i x ys ps H0} h1 h2 h3 h4 h5 h6=>by
  have t1:=Af h3 (.tup [.ref b,.bl x.2])
  have e1':=t1 _ _ h1
  have ntl:∀zs,(upd HH p' (.tup [.ref b,.bl x.2])) lc≠some (.tup zs):=λzs z=>by rw[e1'] at z;cases z
  have sL:=Ao.upd (o:=.lst (ys++[.ref b])) ntl
  exact⟨Ab,Qcm ⟨b,rfl,sL _ _ (t1 _ _ h4)⟩ (Paired.Az h2 λ_ _ z=>(z.tups (Ao.of t1)).tups sL),(h6.trans t1).Bj Ah.upd h5⟩
 refine O8 (λi σ HH=>(∃u v,σ=[u,v,some (.ref ln)])/\(∃ys,HH lr=some (.lst ys)/\Paired (Ds HH) ys (((gs.take i).filter λx=>Bl hs gs x.1&&!x.2).map (·.1))/\ys.length<=i)/\Same (upd H2 d3 (.frz o3 (.dT (gpV gs)))) HH) ⟨⟨none,none,rfl⟩,⟨[],Ab,.nil,Qck _⟩,Af hl3 _⟩ (λi σ HH _ h=>h.2.2 _ _ Ab) (λi kv p' b σ HH hkv h hp' hb'=>?_) (fun σ HH h=>?_)
 ·obtain⟨⟨u,v,rfl⟩,⟨ys,e1,e3,e4⟩,e2⟩:=h
  obtain⟨x,hx,rfl⟩:=eU hkv
  have hi:=(Qag.mp hkv).1
  have t1:=Af hp' (.tup [.ref b,.bl x.2])
  have e2':=e2.trans t1
  have et:((gs.take (i+1)).filter λx=>Bl hs gs x.1&&!x.2).map (·.1)=((gs.take i).filter λx=>Bl hs gs x.1&&!x.2).map (·.1)++([x].filter λx=>Bl hs gs x.1&&!x.2).map (·.1):=by rw[Qcs hx,Qbb,Qby]
  have no:(Bl hs gs x.1&&!x.2)=false->∃ys,(upd HH p' (.tup [.ref b,.bl x.2])) lr=some (.lst ys)/\Paired (Ds (upd HH p' (.tup [.ref b,.bl x.2]))) ys (((gs.take (i+1)).filter λx=>Bl hs gs x.1&&!x.2).map (·.1))/\ys.length<=i+1:=λhc=>by
   refine⟨ys,t1 _ _ e1,?_,by omega⟩
   rw[et,show ([x].filter λx=>Bl hs gs x.1&&!x.2)=[] from Qar (by rw[hc];decide),Qcj,QbC]
   exact Paired.Az e3 λ_ _ z=>z.tups (Ao.of t1)
  refine⟨p',_,rfl,SqT.of Ab,rfl,_,_,rfl,_,_,rfl,rfl,?_⟩
  refine⟨_,rfl,_,rfl,ln,_,rfl,YW (z2 e2') (t1 _ _ hb') (QaE hx),_,rfl,JT (λhn=>⟨_,rfl,_,rfl,JT (λhx2=>?_) (λhx2=>?_)⟩) (λhn=>Cp ⟨⟨_,_,rfl⟩,no (by rw[hn];rfl),e2'⟩)⟩
  ·have hx2:x.2=false:=by simpa using hx2
   obtain⟨a1,a2,a3⟩:=cZ (i:=i) e1 e3 hp' hb' hl3 e2
   refine⟨_,rfl,ys,t1 _ _ e1,Aq (by omega),⟨_,_,rfl⟩,⟨_,a1,?_,by rw[QaP];show _+1<=_;omega⟩,a3⟩
   rw[et,show ([x].filter λx=>Bl hs gs x.1&&!x.2)=[x] from Qas (by rw[hn,hx2];rfl)]
   exact a2
  ·exact⟨⟨_,_,rfl⟩,no (by rw[hn,hx2];rfl),e2'⟩
 obtain⟨_,⟨ys,e1,e3,e4⟩,e2⟩:=h
 rw[lgs] at e4
 rw[lgs,Qbo] at e3
 refine⟨d3,o3,gpV gs,e2 _ _ Ab,nfz,?_⟩
 have s3:=IV e2 R2.gp
 have nt3:∀zs,HH d3≠some (.tup zs):=λzs z=>by rw[e2 _ _ Ab] at z;cases z
 have h3r:(upd HH d3 (.dT (gpV gs))) lr=some (.lst ys):=by rw[Al nlr];exact e1
 have p3:Paired (Ds (upd HH d3 (.dT (gpV gs)))) ys (JL hs gs):=Paired.Az e3 λ_ _ z=>z.tups (Ao.upd nt3)
 have sH3:=s2.trans s3
 have flr:H lr=none:=s2.free DU
 have h3n:=s3 _ _ h2n
 generalize upd HH d3 (.dT (gpV gs))=H3 at *
 clear e1 e2 e3 hl3 z2 nt3
 have R3:=R.same sH3
 obtain⟨dx3,hp3⟩:=R3.ins
 refine⟨_,rfl,.inl ⟨rfl,_,SqL.of h3r⟩,_,rfl,p,C,dx3,_,_,rfl,hp3,T.cl,T.Fv,Ei pl d1 d2 d3,d3,gpV gs,rfl,R3.gp,λo4 lc hl4=>?_⟩
 have nlc:lc≠d3:=λz=>by rw[z,Ab] at hl4;cases hl4
 have z3:∀{HH:Hp},Same (upd H3 d3 (.frz o4 (.dT (gpV gs)))) HH->HH ln=some (.dT (gpV (CJ hs gs))):=λs=>s _ _ (by rw[Al nln];exact h3n)
 refine O8 (λi σ HH=>(∃u v,σ=[u,v,some (.ref ln)])/\(∃ys,HH lc=some (.lst ys)/\Paired (Ds HH) ys (((gs.take i).filter λx=>x.2&&!Bl hs gs x.1).map (·.1))/\ys.length<=i)/\Same (upd H3 d3 (.frz o4 (.dT (gpV gs)))) HH) ⟨⟨none,none,rfl⟩,⟨[],Ab,.nil,Qck _⟩,Af hl4 _⟩ (λi σ HH _ h=>h.2.2 _ _ Ab) (λi kv p' b σ HH hkv h hp' hb'=>?_) (fun σ HH h=>?_)
 ·obtain⟨⟨u,v,rfl⟩,⟨ys,e1,e3,e4⟩,e2⟩:=h
  obtain⟨x,hx,rfl⟩:=eU hkv
  have hi:=(Qag.mp hkv).1
  have t1:=Af hp' (.tup [.ref b,.bl x.2])
  have e2':=e2.trans t1
  have et:((gs.take (i+1)).filter λx=>x.2&&!Bl hs gs x.1).map (·.1)=((gs.take i).filter λx=>x.2&&!Bl hs gs x.1).map (·.1)++([x].filter λx=>x.2&&!Bl hs gs x.1).map (·.1):=by rw[Qcs hx,Qbb,Qby]
  have no:(x.2&&!Bl hs gs x.1)=false->∃ys,(upd HH p' (.tup [.ref b,.bl x.2])) lc=some (.lst ys)/\Paired (Ds (upd HH p' (.tup [.ref b,.bl x.2]))) ys (((gs.take (i+1)).filter λx=>x.2&&!Bl hs gs x.1).map (·.1))/\ys.length<=i+1:=λhc=>by
   refine⟨ys,t1 _ _ e1,?_,by omega⟩
   rw[et,show ([x].filter λx=>x.2&&!Bl hs gs x.1)=[] from Qar (by rw[hc];decide),Qcj,QbC]
   exact Paired.Az e3 λ_ _ z=>z.tups (Ao.of t1)
  refine⟨p',_,rfl,SqT.of Ab,rfl,_,_,rfl,_,_,rfl,rfl,?_⟩
  refine⟨_,rfl,_,rfl,JT (λhx2=>⟨_,rfl,_,rfl,ln,_,rfl,YW (z3 e2') (t1 _ _ hb') (QaE hx),_,rfl,JT (λhn=>?_) (λhn=>?_)⟩) (λhx2=>Cp ⟨⟨_,_,rfl⟩,no (by rw[hx2];rfl),e2'⟩)⟩
  ·have hn:Bl hs gs x.1=false:=by simpa using hn
   obtain⟨a1,a2,a3⟩:=cZ (i:=i) e1 e3 hp' hb' hl4 e2
   refine⟨_,rfl,ys,t1 _ _ e1,Aq (by omega),⟨_,_,rfl⟩,⟨_,a1,?_,by rw[QaP];show _+1<=_;omega⟩,a3⟩
   rw[et,show ([x].filter λx=>x.2&&!Bl hs gs x.1)=[x] from Qas (by rw[hn,hx2];rfl)]
   exact a2
  ·have hn:Bl hs gs x.1=true:=by simpa using hn
   exact⟨⟨_,_,rfl⟩,no (by rw[hn,hx2];rfl),e2'⟩
 obtain⟨_,⟨zs,e1,e3,e5⟩,e2⟩:=h
 rw[lgs] at e5
 rw[lgs,Qbo] at e3
 refine⟨d3,o4,gpV gs,e2 _ _ Ab,nfz,?_⟩
 have s4:=IV e2 R3.gp
 have nt3:∀zs,HH d3≠some (.tup zs):=λzs z=>by rw[e2 _ _ Ab] at z;cases z
 have h4c:(upd HH d3 (.dT (gpV gs))) lc=some (.lst zs):=by rw[Al nlc];exact e1
 have p4:Paired (Ds (upd HH d3 (.dT (gpV gs)))) zs (row2 hs gs):=Paired.Az e3 λ_ _ z=>z.tups (Ao.upd nt3)
 have h4r:=s4 _ _ h3r
 have p4r:Paired (Ds (upd HH d3 (.dT (gpV gs)))) ys (JL hs gs):=Paired.Az p3 λ_ _ z=>z.tups (Ao.of s4)
 have sH4:=sH3.trans s4
 generalize upd HH d3 (.dT (gpV gs))=H4 at *
 clear e1 e2 e3 hl4 z3 nt3 h3r p3 YW cZ
 refine⟨lr,lc,_,_,rfl,rfl,h4r,h4c,Av (by omega),?_⟩
 have ntr:∀zs,H4 lr≠some (.tup zs):=λzs z=>by rw[h4r] at z;cases z
 have t5:=Ao.upd (o:=.lst (ys++zs)) ntr
 have p5:Paired (Ds (upd H4 lr (.lst (ys++zs)))) (ys++zs) (JL hs gs++row2 hs gs):=Paired.app (Paired.Az p4r λ_ _ z=>z.tups t5) (Paired.Az p4 λ_ _ z=>z.tups t5)
 have h5r:(upd H4 lr (.lst (ys++zs))) lr=some (.lst (ys++zs)):=Ab
 have sH5:Same H (upd H4 lr (.lst (ys++zs))):=sH4.Bj Ah.upd flr
 generalize upd H4 lr (.lst (ys++zs))=H5 at *
 have R5:=R.same sH5
 have l5:=QbS p5
 have vh:lr≠d3:=nlr
 have kin:∀g∈JL hs gs++row2 hs gs,g∈gs.map (·.1):=λg h=>by
  rcases Qbz.mp h with h | h
  ·exact ((Q7 nd3 (p:=λg b=>Bl hs gs g&&!b)).mp h).1
  ·exact ((Q7 nd3 (p:=λg b=>b&&!Bl hs gs g)).mp h).1
 refine⟨_,rfl,lr,rfl,⟨_,SqL.of h5r⟩,?_⟩
 refine Mu (xs:=ys++zs) (λi σ HH=>(∃u,σ=[some (.ref p),some (.ref l),some (.ref ln),some (.ref lr),u])/\WAt C HH p pl d1 d2 d3 hs fl (DX hs gs ((JL hs gs++row2 hs gs).take i))/\Ah d3 H5 HH) ⟨⟨_,rfl⟩,R5,Ah.of (Same.refl _)⟩ (λi σ HH _ h=>SqL.of (h.2.2 _ _ h5r vh)) (λi x σ HH hx h=>?_) (fun σ HH h=>?_)
 ·obtain⟨⟨u,rfl⟩,W,sB⟩:=h
  obtain⟨g,hgi,b,rfl,hbt⟩:=Paired.Cq p5 hx
  obtain⟨dx6,hp6⟩:=W.ins
  have k6:=Hf hs ((JL hs gs++row2 hs gs).take i) gs
  have nt5:∀zs,H5 d3≠some (.tup zs):=λzs z=>by rw[R5.gp] at z;cases z
  unfold Fe
  dsimp only
  refine⟨_,rfl,p,dx6,_,rfl,hp6,fno (by trivial),_,rfl,p,pl,d1,d2,d3,hs,fl,_,b,g,rfl,W,hb,hg.keys k6,(sB.tup nt5) _ _ hbt,by rw[k6];exact kin g (QaE hgi),λH' W' sB'=>⟨⟨_,rfl⟩,?_,sB.trans sB'⟩⟩
  rw[Qcs hgi,S9]
  exact W'
 ·obtain⟨⟨u,rfl⟩,W,sB⟩:=h
  rw[l5,Qbo,mj nd3] at W
  have nt5:∀zs,H5 d3≠some (.tup zs):=λzs z=>by rw[R5.gp] at z;cases z
  exact⟨_,rfl,q lr _ HH flr (sB _ _ h5r vh) (Paired.Az p5 λ_ _ z=>z.tups (sB.tup nt5)) W ((Ah.of sH5).trans sB)⟩
end
abbrev Ik:Stmt:=(inClass (top 45) 14)
abbrev Gv:YF:=["self","loop","end"]
theorem FP:Ay ["self","loop","end","opener","wires","places"] Gv (Ak Ik):=⟨rfl,rfl,rfl,by trivial,rfl,by trivial,by trivial⟩
def flC (fl:YQ) (s:Sp3):Bool:=(fl.find? λx=>decide (x.1=s)).any λx=>x.2.isSome
theorem cC {H:Hp} (s:Sp3):∀{kvs:YL} {fl:YQ},Paired (Jz H) kvs fl->(!decide ((Dw kvs (k3 s)).getD .non=.non))=flC fl s
 | [],[],.nil=>by show (!decide (V.non=V.non))=false;rw[QbN rfl];rfl
 | kv::_,x::_,.cons h t=>by
  unfold flC
  by_cases e:x.1=s
  ·rw[Ip (p:=kv) (by rw[h.1,e]),Qay (by exact QbN e)]
   obtain⟨h1,h2⟩:=h
   obtain⟨xs,xo⟩:=x
   cases xo with
   | none=>
    have h2:kv.2=.non:=h2
    show (!decide (kv.2=.non))=false
    rw[h2,QbN rfl];rfl
   | some d=>
    obtain⟨u,h2,_⟩:=h2
    show (!decide (kv.2=.non))=true
    rw[h2,QbB (by intro z;cases z)];rfl
  ·rw[GR (p:=kv) (λz=>e (Qw (by rw[<-h.1,z]))),Qax (by simpa using e)]
   exact cC s t
theorem wD {fl:YQ} {s:Sp3} (h:flC fl s=true):s∈fl.map (·.1):=by
 unfold flC at h
 cases e:fl.find? λx=>decide (x.1=s) with
 | none=>rw[e] at h;cases h
 | some y=>exact Qcc.mpr ⟨y,List.mem_of_find?_eq_some e,by have:=List.find?_some e;simpa using this⟩
theorem Oo (hs:YR) (lp a:Int):∀f n,∀s∈Fy hs lp a f n,s.at_=a/\(n:Int)<=s.n
 | 0,_,s,h=>by cases h
 | f+1,n,s,h=>by
  unfold Fy at h
  split at h
  ·cases h
  ·rcases QbT.mp h with rfl | h
   ·exact⟨rfl,Int.le_refl _⟩
   ·have:=Oo hs lp a f (n+1) s h
    exact⟨this.1,by omega⟩
theorem Xm (hs:YR) (lp a:Int):∀f n,(Fy hs lp a f n).Nodup
 | 0,_=>QbP
 | f+1,n=>by
  unfold Fy
  split
  ·exact QbP
  ·refine QbG.mpr ⟨λh=>?_,Xm hs lp a f (n+1)⟩
   have:=(Oo hs lp a f (n+1) _ h).2
   dsimp only at this
   omega
theorem Wc (hs:YR) (gs:YT) (lp st:Int) (hst:st=1\/st=-1):∀f a,(Br hs gs lp st f a).2.Nodup/\∀s∈(Br hs gs lp st f a).2,0 < (s.at_ - a)*st
 | 0,_=>⟨QbP,λs h=>by cases h⟩
 | f+1,a=>by
  obtain⟨n1,n2⟩:=Wc hs gs lp st hst f (a+st)
  have at1:∀s∈(⟨lp,a+st,0⟩::CG hs lp (a+st):YV),s.at_=a+st:=λs h=>by
   rcases QbT.mp h with rfl | h
   ·rfl
   ·exact (Oo hs lp (a+st) 4 1 s h).1
  have nd1:(⟨lp,a+st,0⟩::CG hs lp (a+st):YV).Nodup:=by
   refine QbG.mpr ⟨λh=>?_,Xm hs lp (a+st) 4 1⟩
   have:=(Oo hs lp (a+st) 4 1 _ h).2
   dsimp only at this
   omega
  have pos1:∀s∈(⟨lp,a+st,0⟩::CG hs lp (a+st):YV),0 < (s.at_ - a)*st:=λs h=>by
   rw[at1 s h]
   rcases hst with rfl | rfl <;> omega
  unfold Br
  split
  ·exact⟨QbP,λs h=>by cases h⟩
  ·split
   ·exact⟨nd1,pos1⟩
   ·have n2':∀s∈(Br hs gs lp st f (a+st)).2,0 < (s.at_ - (a+st))*st:=n2
    refine⟨List.nodup_append.mpr ⟨nd1,n1,λx hx y hy e=>?_⟩,λs h=>?_⟩
    ·have h1:=at1 x hx
     have h2:=n2' y hy
     rw[<-e,h1] at h2
     rcases hst with rfl | rfl <;> omega
    ·rcases Qbz.mp h with h | h
     ·exact pos1 s h
     ·have h2:=n2' s h
      rcases hst with rfl | rfl <;> omega
def fK (e:Str):Bool:=decide (V.str e=V.str "A")
def DW (lp:Int) (n:Nat) (e:Str):Gt:=⟨lp,if fK e=true then 0 else (n:Int)+1⟩
def GP (e:Str):Int:=if fK e=true then 1 else -1
def Rb (hs:YR) (gs:YT) (fl:YQ) (lp:Int) (n:Nat) (e:Str):YV:=
 if gpC gs (DW lp n e)=true then [] else if Gp hs (Br hs gs lp (GP e) 16 (DW lp n e).at_).1=true then [] else (Br hs gs lp (GP e) 16 (DW lp n e).at_).2.filter (flC fl)
theorem TJ {α β : Type} {R:α->β->Prop} {xs:List α} {ys:List β} {d:α} {e:β} (h:Paired R xs ys):∀is:List Nat,(∀i∈is,i < xs.length)->Paired R (is.map λi=>xs.getD i d) (is.map λi=>ys.getD i e)
 | [],_=>.nil
 | i::r,hi=>by
  have h1:xs[i]?=some (xs[i]'(hi i QaQ)):=Qak _
  obtain⟨y,hy,hr⟩:=Paired.Cq h h1
  refine .cons ?_ (TJ h r λj hj=>hi j (QaF _ hj))
  show R (xs.getD i d) (ys.getD i e)
  rw[List.getD_eq_getElem?_getD,List.getD_eq_getElem?_getD,h1,hy]
  exact hr
theorem ji {K:YD} {H:Hp}:∀{vs:YG} {ss:YV},Paired (Cr H) vs ss->(∀s∈ss,Bd3 s)->Paired (Uy K H) vs (ss.map cd3)
 | _,_,.nil,_=>.nil
 | _,_,.cons (b:=s) ⟨t,e,h1⟩ r,hb=>.cons ⟨t,s.lp,s.at_,s.n,e,SqT.of h1,(hb s QaQ).c3⟩ (ji r λx hx=>hb x (QaF _ hx))
theorem wM {ss:YV} (nd:ss.Nodup) (hb:∀s∈ss,Bd3 s):(ss.map cd3).Nodup:=by
 rw[List.nodup_iff_pairwise_ne,List.pairwise_map]
 rw[List.nodup_iff_pairwise_ne] at nd
 exact nd.imp_of_mem λ{a b} ha hb' ne e=>ne ((hb a ha).inj (hb b hb') e)
instance:DecidableEq Sp3:=λa b=>if h:a.lp=b.lp/\a.at_=b.at_/\a.n=b.n then isTrue (by cases a;cases b;simp at h;obtain⟨h1,h2,h3⟩:=h;subst h1 h2 h3;rfl) else isFalse λe=>h (by rw[e];exact⟨rfl,rfl,rfl⟩)
theorem T7:∀{l m:YV},l.Nodup->(∀x∈l,x∈m)->l.length<=m.length
 | [],_,_,_=>Qcl _
 | a::r,m,nd,h=>by
  have ha:=h a (QaQ ..)
  obtain⟨n1,n2⟩:=QbG.mp nd
  have:=T7 (l:=r) (m:=m.erase a) n2 λx hx=>(List.mem_erase_of_ne (λe=>n1 (by rw[<-e];exact hx))).mpr (h x (QaF _ hx))
  rw[List.length_erase_of_mem ha] at this
  have hp:=List.length_pos_of_mem ha
  rw[Qbp]
  omega
theorem lR {α : Type} {d:α} {l:List α} {is:List Nat} (h:is.Perm (List.range l.length)):(is.map λi=>l.getD i d).Perm l:=by
 refine (h.map _).trans ?_
 have:(List.range l.length).map (λi=>l.getD i d)=l:=by
  apply List.ext_getElem
  ·simp
  ·intro i h1 h2
   simp at h1
   simp[h1]
 rw[this]
theorem lU {α : Type} {d:α} {c:α->Int} {l:List α} {is:List Nat} (h:is.Perm (List.range l.length)):(is.map λi=>l.getD i d).map c=is.map λi=>(l.map c).getD i 0:=by
 rw[Qcf]
 exact QaL λi hi=>by
  have:=QbR.mp (h.mem_iff.mp hi)
  simp[this]
def zx:TE:=fun σ H Q=>∃e,σ[2]?=some (some (.str e))/\Q (.int (GP e)) H
def bG (C:Addr):Sp:=λvs H Q _=>∃(p pl d1 d2 d3:Addr) (hs:YR) (fl:YQ) (gs:YT) (most:Int) (loops:YU) (zones:List Zone) (k:Nat) (ps:List Place) (e:Str),vs=[.ref p,.int (k:Int),.str e]/\WAt C H p pl d1 d2 d3 hs fl gs/\Gm H pl most loops zones/\loops[k]?=some ps/\(∀s∈hs.map (·.1),Bd3 s)/\(∀s∈fl.map (·.1),Bd3 s)/\fl.length<=30/\DW k ps.length e∈gs.map (·.1) /\
 ∀l xs L H',H l=none->H' l=some (.lst xs)->Paired (Cr H') xs L->L.Perm (Rb hs gs fl k ps.length e)->(L.map cd3).Pairwise (· < ·)->Same H H'->Q (.ref l) H'
section
variable {P:Program} {w:World} {K:YD} {mg:YB} {base:Heap} {op oe kd wk C:Addr}
theorem nM (c:Im K C "heard" "Wires.heard" Ik Gv) (T:Tw K mg op oe kd wk C) (M8:Good P w K mg base "come_to" 2 Jb Xy) (Ke:Good P w K mg base "has_short" 1 GC U4):CT P w K mg base C "heard" 3 Gv (bG C):=by
 have sc:=FP
 refine c.good FP (λvs H Q E h=>?_) (λf cdv A outer s H vs Q E hr h=>?_)
 ·obtain⟨p,pl,d1,d2,d3,hs,fl,gs,most,loops,zones,k,ps,e,rfl,_⟩:=h
  rfl
 obtain⟨p,pl,d1,d2,d3,hs,fl,gs,most,loops,zones,k,ps,e,rfl,R,pa,hps,hb,hbf,l30,CF,q⟩:=h
 refine⟨_,(Ag (Bb (i:=3) FP.nd rfl (Or.inl rfl) (Yn (Bt Ho (pv 2) Bp (BJ _)) (Bh (Aa (pv 1) (Aa Ae Ac))) (Bh (Aa (pv 1) (Aa (Bc BX (Ax Bd rfl T.len Cu (Aa (Bq BR (Bq BR (CV (pv 0) rfl) Ae (λ_ _=>rfl)) (pv 1) (λ_ _=>rfl)) Ac)) Ae) Ac)))))
 (Ag (Ck (Dc (JN (Cv hr) (CV (pv 0) rfl) (pv 3) (λ_ _=>rfl))) (Ai (Ba (BW Ac))) BL)
 (Ag (G5 (Aw M8 hr (Aa (CV (pv 0) rfl) (Aa (CV (pv 0) rfl) (Aa (pv 3) (Aa (PE.weak (ta':=zx) (Yn (Bt Ho (pv 2) Bp (BJ _)) Ae (TF PJ Ae)) (fun σ H Q h=>by
    obtain⟨e,e1,q⟩:=h
    refine⟨_,e1,rfl,_,rfl,?_⟩
    unfold GP fK at q
    split at q
    ·rename_i h;rw[h];exact BZ q
    ·rename_i h;rw[show decide (V.str e=V.str "A")=false by simpa using h];exact Cp ⟨_,rfl,q⟩)) Ac))))) (Cw rfl (Am (Aj (i:=4) FP.nd rfl (Or.inl rfl)) (Am (Aj (i:=5) FP.nd rfl (Or.inl rfl)) Bo))))
 (Ag (Ck (Dc (Aw Ke hr (Aa (CV (pv 0) rfl) (Aa (pv 4) Ac)))) (Ai (Ba (BW Ac))) BL)
 (Ai (Ba (Ax Zt rfl T.sorted Wf (Aa (BP (N':=["spot","self"]) rfl (Bg.of (src:=[none,some 0]) (Ak Ik) ["self","loop","end","opener","wires","places"] rfl rfl rfl (by trivial) (by trivial) (by trivial) rfl (by trivial)) (DN (pv 5)) (λ_ _ _ _=>(Aj (i:=0) (show List.Nodup (["spot","self"]:YF) by trivial) rfl (Or.inl rfl))) (λ_ _ _ _=>(G6 (Bt qW (mR (Cv hr) (bL (K:=K) rfl (pv 1) rfl) (pv 0) ⟨rfl,rfl,rfl,rfl⟩) N8 (BJ _)))) (λ_ _ _ _=>(pv 0))) Ac)))))))),?_⟩
 obtain⟨dx,hp⟩:=R.ins
 have ok:=pa.ok
 obtain⟨Ls,zs,ws,zvs,f1,f2,f3,f4,f5⟩:=pa.at_
 have lw:=QbS f3
 have hkl:=(Qag.mp hps).1
 have hwk:ws[k]?=some ws[k]:=Qak (by omega)
 obtain⟨ps',vQ,t,vs',ev,ht,hpp⟩:=Paired.Cq f3 hwk
 rw[hps] at vQ
 cases vQ
 have lv:=QbS hpp
 have l12:=(ok.ok ps (QaE hps)).hi
 have Sv:atI ws (k:Int)=some (.ref t):=Ge (by rw[hwk,ev])
 have hst:GP e=1\/GP e=-1:=by unfold GP;split;exact .inl rfl;exact .inr rfl
 have ga:0<=(DW k ps.length e).at_/\(DW k ps.length e).at_<=13:=by
  unfold DW
  dsimp only
  split <;> omega
 have qn:Rb hs gs fl k ps.length e=[]->∀HX l,Same H HX->HX l=none->Q (.ref l) (upd HX l (.lst [])):=λhz HX l sX hl=>by
  refine q l [] [] _ (sX.free hl) Ab .nil ?_ .nil (sX.trans (Af hl _))
  rw[hz]
 show lG (Xh _ _) _ _ _ _
 refine ig (fun σ HH=>∃to,σ=[some (.ref p),some (.int (k:Int)),some (.str e),some (.ref to),none,none]/\HH to=some (.tup [.int (k:Int),.int (DW k ps.length e).at_])/\Same H HH) (fun σ HH h=>?_) (λD' hn=>?_)
 rotate_left 1
 ·refine⟨_,rfl,rfl,_,rfl,JT (λh=>?_) (λh=>?_)⟩
  ·have hg:(DW k ps.length e).at_=0:=if_pos h
   rw[hg] at hn
   refine⟨_,rfl,Av (by show 2<=1000;decide),λto hto=>?_⟩
   exact hn _ _ ⟨to,rfl,Ab,Af hto _⟩
  ·have hg:(DW k ps.length e).at_=(ps.length:Int)+1:=if_neg (by unfold fK;rw[h];decide)
   rw[hg] at hn
   refine⟨_,rfl,_,rfl,p,C,dx,_,_,rfl,hp,T.cl,T.YX,QB (i:=0) (fnd pl d1 d2 d3) rfl,pl,_,_,_,rfl,rfl,SqT.of f1,rfl,_,rfl,Ls,_,_,_,rfl,rfl,SqT.of f2,Sv,t,_,rfl,.inr (SqT.of ht),_,_,rfl,rfl,Av (by show 2<=1000;decide),λto hto=>?_⟩
   rw[lv]
   exact hn _ _ ⟨to,rfl,Ab,Af hto _⟩
 obtain⟨to,rfl,hto,s1⟩:=h
 have R1:=R.same s1
 obtain⟨dx1,hp1⟩:=R1.ins
 have gg:=Dn.t (k:=k2 (DW k ps.length e)) R1.gp hto
 rw[Ui CF] at gg
 refine⟨_,rfl,p,C,dx1,_,_,rfl,hp1,T.cl,T.Fv,Ei pl d1 d2 d3,_,rfl,d3,_,rfl,gg,_,rfl,JT (λhg=>?_) (λhg=>?_)⟩
 ·exact⟨Av (by show 0<=1000;decide),λl hl=>qn (if_pos hg) _ l s1 hl⟩
 have hg':¬gpC gs (DW k ps.length e)=true:=by rw[hg];decide
 refine⟨_,rfl,p,C,dx1,_,_,rfl,hp1,T.cl,T.Ez,Ep pl d1 d2 d3,_,rfl,p,C,dx1,_,_,rfl,hp1,T.cl,T.Fv,Ei pl d1 d2 d3,_,rfl,e,rfl,d1,d3,to,hs,gs,DW k ps.length e,GP e,rfl,.inl R1.st,.inl R1.gp,hto,hb,hst,by omega,by omega,λtt l1 l2 xs ys H2 htt hl1 hx1 hl2 hy2 s2=>⟨tt,_,rfl,SqT.of htt,rfl,_,_,rfl,_,_,rfl,rfl,?_⟩⟩
 have s12:=s1.trans s2
 have R2:=R.same s12
 obtain⟨dx2,hp2⟩:=R2.ins
 have eO:(Br hs gs (DW k ps.length e).lp (GP e) 16 (DW k ps.length e).at_).1.length<=200:=Qce (QG hs gs _ _ 16 _) (by decide)
 refine⟨_,rfl,p,C,dx2,_,_,rfl,hp2,T.cl,T.Ez,Ep pl d1 d2 d3,_,rfl,d1,l1,hs,xs,_,rfl,.inl R2.st,hl1,hx1,O9 hs gs _ _ 16 _,eO,λH3 s3=>⟨_,rfl,JT (λhsh=>?_) (λhsh=>?_)⟩⟩
 ·exact⟨Av (by show 0<=1000;decide),λl hl=>qn ((if_neg hg').trans (if_pos hsh)) _ l (s12.trans s3) hl⟩
 have hw:Rb hs gs fl k ps.length e=(Br hs gs k (GP e) 16 (DW k ps.length e).at_).2.filter (flC fl):=(if_neg hg').trans (if_neg (by
  have:Gp hs (Br hs gs k (GP e) 16 (DW k ps.length e).at_).1=false:=hsh
  rw[this];decide))
 have s13:=s12.trans s3
 have R3:=R.same s13
 obtain⟨dx3,hp3⟩:=R3.ins
 have hl2':=s3 _ _ hl2
 have hy3:Paired (Cr H3) ys (Br hs gs k (GP e) 16 (DW k ps.length e).at_).2:=Paired.Az hy2 λ_ _ z=>z.tups (Ao.of s3)
 generalize hcw:(Br hs gs k (GP e) 16 (DW k ps.length e).at_).2=cw at *
 have cnd:cw.Nodup:=by rw[<-hcw];exact (Wc hs gs k (GP e) hst 16 _).1
 have wC:(cw.filter (flC fl)).Nodup:=List.Nodup.sublist List.filter_sublist cnd
 have fin:∀s∈cw.filter (flC fl),s∈fl.map (·.1):=λs h=>wD (QbF.mp h).2
 have DV:(cw.filter (flC fl)).length<=30:=by
  have:=T7 wC fin
  rw[Qbx] at this
  omega
 have fbd:∀s∈cw.filter (flC fl),Bd3 s:=λs h=>hbf s (fin s h)
 have ly:=QbS hy3
 refine⟨_,rfl,l2,rfl,⟨_,SqL.of hl2'⟩,λlc hlc=>?_⟩
 refine Jf (xs:=ys) (λi σ HH=>(∃u,σ=[u,some (.ref p)])/\(∃zs,HH lc=some (.lst zs)/\Paired (Cr HH) zs ((cw.take i).filter (flC fl)))/\Same H3 HH) ⟨⟨_,rfl⟩,⟨[],Ab,.nil⟩,Af hlc _⟩ (λi σ HH _ h=>SqL.of (h.2.2 _ _ hl2')) (λi x σ HH hx h=>?_) (fun σ HH h=>?_)
 ·obtain⟨⟨u,rfl⟩,⟨zs,e1,e3⟩,e2⟩:=h
  obtain⟨sp,hsp,b,rfl,hbt⟩:=Paired.Cq hy3 hx
  have RX:=R3.same e2
  obtain⟨dxx,hpx⟩:=RX.ins
  obtain⟨kvs,hk,hf⟩:=RX.fi
  have lz:=QbS e3
  have Gc:zs.length<=30:=by
   rw[lz]
   exact Qce ((List.Sublist.filter _ (List.take_sublist i cw)).length_le) DV
  have et:(cw.take (i+1)).filter (flC fl)=(cw.take i).filter (flC fl)++[sp].filter (flC fl):=by rw[Qcs hsp,Qbb]
  unfold Fe
  dsimp only
  refine⟨_,rfl,p,C,dxx,_,_,rfl,hpx,T.cl,T.Sg,fj pl d1 d2 d3,d2,rfl,.inr ⟨_,.inl hk⟩,_,rfl,_,Dn.t (k:=k3 sp) hk (e2 _ _ hbt),rfl,_,rfl,?_⟩
  rw[cC sp hf]
  refine JT (λhc=>?_) (λhc=>?_)
  ·have ntl:∀us,HH lc≠some (.tup us):=λus z=>by rw[e1] at z;cases z
   have sL:=Ao.upd (o:=.lst (zs++[.ref b])) ntl
   refine⟨_,rfl,zs,e1,Aq (by omega),⟨_,rfl⟩,⟨_,Ab,?_⟩,e2.Bj Ah.upd hlc⟩
   rw[et,Qas hc]
   exact Qcm ⟨b,rfl,sL _ _ (e2 _ _ hbt)⟩ (Paired.Az e3 λ_ _ z=>z.tups sL)
  ·refine⟨⟨_,rfl⟩,⟨zs,e1,?_⟩,e2⟩
   rw[et,Qar (by rw[hc];decide)]
   show Paired _ _ (_++[])
   rw[QbC]
   exact e3
 obtain⟨_,⟨zs,e1,e3⟩,e2⟩:=h
 rw[ly,Qbo] at e3
 have lz:=QbS e3
 refine lJ (ks:=(cw.filter (flC fl)).map cd3) (SqL.of e1) (by omega) (ji e3 fbd) (wM wC fbd) λis ls hperm Ra hls=>?_
 rw[lz] at hperm
 have s5:=Af hls (.lst (is.map λi=>zs.getD i .non))
 have zF:=(s13.trans e2).trans s5
 refine q ls _ (is.map λi=>(cw.filter (flC fl)).getD i ⟨0,0,0⟩) _ ((s13.trans e2).free hls) Ab (TJ (Paired.Az e3 λ_ _ z=>z.tups (Ao.of s5)) is λi hi=>by rw[lz];exact QbR.mp (hperm.mem_iff.mp hi)) ?_ ?_ zF
 ·rw[hw];exact lR hperm
 ·rw[lU hperm];exact Ra
end
abbrev Ov:Stmt:=top 55
abbrev Jq:YF:=["_law_bag_here","_law_wires","_law_hows","_law_wire_names"]
theorem J3:Ay ["_law_bag_here","_law_wires","_law_hows","_law_wire_names","_law_stretch","_law_way"] Jq (Ak Ov):=⟨rfl,rfl,rfl,by trivial,rfl,by trivial,by trivial⟩
abbrev Qa:Stmt:=top 56
abbrev Kr:YF:=["_law_bag_here","_law_gates"]
theorem Jj:Ay ["_law_bag_here","_law_gates","_law_left","_law_found","_law_place"] Kr (Ak Qa):=⟨rfl,rfl,rfl,by trivial,rfl,by trivial,by trivial⟩
def pN (C:Addr):Sp:=λvs H Q _=>∃(b:Addr) (n:Nat) (p pl d1 d2 d3 h w:Addr) (hs:YR) (fl:YQ) (gs:YT) (kv:YL),vs=[.ref b,.ref p,.ref h,.ref w]/\Bk H b n/\n<=9000/\WAt C H p pl d1 d2 d3 hs fl gs/\d1≠d2/\H h=some (.dT kv)/\kv.length<=200/\(h≠d1/\h≠d2/\h≠d3)/\(∃xs,H w=some (.lst xs)/\Paired (Cr H) xs (hs.map (·.1)))/\w≠b/\1<=hs.length /\
 ∀s z H',s∈hs.map (·.1)->(z=("short":Str)\/z=("cut":Str)\/z=("whole":Str))->Bk H' b (n+2)->WAt C H' p pl d1 d2 d3 (G3 hs s z) fl gs->H' h=some (.dT (putK kv (k3 s) (.str z)))->Ao H H'->(∀c o,H c=some o->c≠b->c≠d1->c≠h->H' c=some o)->Q .non H'
def bx:Sp:=λvs H Q _=>∃(b lg:Addr) (n:Nat) (xs:YG),vs=[.ref b,.ref lg]/\Bk H b n/\H lg=some (.lst xs)/\lg≠b/\xs.length<=200/\n<=9000/\∀l ys H',H l=none->H' l=some (.lst ys)->ys.Perm xs->Bk H' b (n+xs.length)->Ah b H H'->Q (.ref l) H'
theorem Uq {α : Type}:∀{l:List α} {k:Nat} {y:α},l[k]?=some y->(y::l.eraseIdx k).Perm l
 | [],_,_,h=>by simp at h
 | a::r,0,y,h=>by
  have h:a=y:=by simpa using h
  subst h
  exact .refl _
 | a::r,k+1,y,h=>by
  have h:r[k]?=some y:=by simpa using h
  exact (List.Perm.swap ..).trans ((Uq h).cons a)
theorem ZL {α β : Type} {R:α->β->Prop} {xs ys:List α} (p:ys.Perm xs):∀{L:List β},Paired R xs L->∃M,M.Perm L/\Paired R ys M:=by
 induction p with
 | nil=>intro L h;exact⟨L,.refl _,h⟩
 | cons x _ ih=>
  intro L h
  cases h with
  | cons h t=>
   obtain⟨M,h1,h2⟩:=ih t
   exact⟨_::M,h1.cons _,.cons h h2⟩
 | swap x y l=>
  intro L h
  cases h with
  | cons h t=>
   cases t with
   | cons h' t'=>exact⟨_::_::_,List.Perm.swap ..,.cons h' (.cons h t')⟩
 | trans _ _ ih1 ih2=>
  intro L h
  obtain⟨M,h1,h2⟩:=ih2 h
  obtain⟨N,h3,h4⟩:=ih1 h2
  exact⟨N,h3.trans h1,h4⟩
section
variable {P:Program} {w:World} {K:YD} {mg:YB} {base:Heap} {op oe kd wk C:Addr}
theorem jc (c:Code K mg "_law_befall" Ov Jq) (T:Tw K mg op oe kd wk C)
  (Bm:Good P w K mg base "_law_take" 1 Fw Lz) (Vu:CT P w K mg base C "cut" 4 GD (K5 C "cut")) (Qx:CT P w K mg base C "short" 4 Fl (K5 C "short")) (Sx:CT P w K mg base C "mend" 4 Gb (K5 C "whole")):Good P w K mg base "_law_befall" 5 Jq (pN C):=by
 have sc:=J3
 refine c.good J3 (λvs H Q E h=>?_) (λf cdv A outer s H vs Q E hr h=>?_)
 ·obtain⟨b,n,p,pl,d1,d2,d3,h,w,hs,fl,gs,kv,rfl,_⟩:=h
  rfl
 obtain⟨b,n,p,pl,d1,d2,d3,h,w,hs,fl,gs,kv,rfl,hb,hn,R,n12,hh,A3,nh,⟨xs,x1,x2⟩,nwb,l1,q⟩:=h
 refine⟨_,(Ag (Bb (i:=4) J3.nd rfl (Or.inl rfl) (Bq DP (pv 3) (Aw Bm hr (Aa (pv 0) (Aa (Ax Bd rfl T.len Cu (Aa (pv 3) Ac)) Ac))) (λ_ _=>rfl)))
 (Ag (Bb (i:=5) J3.nd rfl (Or.inl rfl) (Aw Bm hr (Aa (pv 0) (Aa Ae Ac))))
 (Ai (Ck (Bt TV (pv 5) Ae (BJ _)) (Ag (Bf (Hj (pv 1) T.cl Qx hr (Aa (pv 4) Ac)))
 (Ai (Hi (Cv hr) (pv 2) (pv 4) Bp rfl))) (Ai (Ck (Bt TV (pv 5) Ae (BJ _)) (Ag (Bf (Hj (pv 1) T.cl Vu hr (Aa (pv 4) Ac)))
 (Ai (Hi (Cv hr) (pv 2) (pv 4) Bp rfl))) (Ag (Bf (Hj (pv 1) T.cl Sx hr (Aa (pv 4) Ac)))
 (Ai (Hi (Cv hr) (pv 2) (pv 4) Bp rfl))))))))),?_⟩
 have lx:=QbS x2
 rw[Qbx] at lx
 have l2:=R.l1
 obtain⟨_,_,_,eb,_⟩:=id hb
 obtain⟨dx,hp⟩:=R.ins
 obtain⟨kvs,hd2,_⟩:=R.fi
 have npb:p≠b:=λz=>by rw[z,eb] at hp;cases hp
 have n1b:d1≠b:=λz=>by have:=R.st;rw[z,eb] at this;cases this
 have n2b:d2≠b:=λz=>by rw[z,eb] at hd2;cases hd2
 have n3b:d3≠b:=λz=>by have:=R.gp;rw[z,eb] at this;cases this
 have nhb:h≠b:=λz=>by rw[z,eb] at hh;cases hh
 refine⟨_,rfl,_,rfl,_,rfl,w,_,rfl,.inl (SqL.of x1),b,n,_,rfl,hb,by omega,by omega,by omega,λi H1 i0 i1 hb1 sb1=>?_⟩
 obtain⟨m,rfl⟩ : ∃m:Nat,i=(m:Int):=⟨i.toNat,(Int.toNat_of_nonneg i0).symm⟩
 have hxm:xs[m]?=some xs[m]:=Qak (by omega)
 obtain⟨s1,hs1,b1,eb1,hbt⟩:=Paired.Cq x2 hxm
 refine⟨w,_,_,_,rfl,rfl,SqL.of (sb1 _ _ x1 nwb),Ge (xs:=xs) (j:=m) hxm,?_⟩
 rw[eb1]
 refine⟨_,rfl,b,n+1,5,rfl,hb1,by omega,by decide,by decide,λr H4 r0 r1 hb4 sb4=>?_⟩
 have sb:=sb1.trans sb4
 have nt:=hb.Gh
 have R4:=R.Ce sb nt npb n1b n2b n3b
 have eX:=(sb.tup nt) _ _ hbt
 have hh4:=sb _ _ hh nhb
 have sIn:s1∈hs.map (·.1):=QaE hs1
 obtain⟨dx4,hp4⟩:=R4.ins
 have fin:∀(z:Str) (H5:Hp),(z=("short":Str)\/z=("cut":Str)\/z=("whole":Str))->WAt C H5 p pl d1 d2 d3 (G3 hs s1 z) fl gs->Ah d1 H4 H5->∃H6,JC H5 h (.ref b1) (.str z) H6/\Q .non H6:=λz H5 hz W5 sB=>by
  have nt4:∀zs,H4 d1≠some (.tup zs):=λzs e=>by rw[R4.st] at e;cases e
  have hh5:=sB _ _ hh4 nh.1
  have nth:∀zs,H5 h≠some (.tup zs):=λzs e=>by rw[hh5] at e;cases e
  refine⟨_,JC.t (k:=k3 s1) hh5 ((sB.tup nt4) _ _ eX) (Aq (by omega)),?_⟩
  obtain⟨dx5,hp5⟩:=W5.ins
  have nph:p≠h:=λe=>by rw[e,hh5] at hp5;cases hp5
  refine q s1 z _ sIn hz (((hb4.Ce sB n1b.symm).Ce Ah.upd nhb.symm).mono (by omega)) (W5.Ce Ah.upd nth nph nh.1.symm nh.2.1.symm nh.2.2.symm) Ab ((sb.tup nt).trans ((sB.tup nt4).trans (Ao.upd nth))) λc o e n1 n2 n3=>?_
  rw[Al n3]
  exact sB _ _ (sb _ _ e n1) n2
 refine⟨_,rfl,_,_,rfl,rfl,_,rfl,Ju (λ_=>?_) (λ_=>⟨_,rfl,_,_,rfl,rfl,_,rfl,Ju (λ_=>?_) (λ_=>?_)⟩)⟩
 ·refine⟨_,rfl,p,dx4,_,rfl,hp4,fno (by trivial),_,rfl,p,pl,d1,d2,d3,hs,fl,gs,b1,s1,rfl,R4,n12,eX,sIn,λH5 W5 sB=>?_⟩
  obtain⟨H6,Zb,hq⟩:=fin "short" H5 (.inl rfl) W5 sB
  exact⟨_,rfl,_,rfl,h,H6,rfl,Zb,hq⟩
 ·refine⟨_,rfl,p,dx4,_,rfl,hp4,fno (by trivial),_,rfl,p,pl,d1,d2,d3,hs,fl,gs,b1,s1,rfl,R4,n12,eX,sIn,λH5 W5 sB=>?_⟩
  obtain⟨H6,Zb,hq⟩:=fin "cut" H5 (.inr (.inl rfl)) W5 sB
  exact⟨_,rfl,_,rfl,h,H6,rfl,Zb,hq⟩
 ·refine⟨_,rfl,p,dx4,_,rfl,hp4,fno (by trivial),_,rfl,p,pl,d1,d2,d3,hs,fl,gs,b1,s1,rfl,R4,n12,eX,sIn,λH5 W5 sB=>?_⟩
  obtain⟨H6,Zb,hq⟩:=fin "whole" H5 (.inr (.inr rfl)) W5 sB
  exact⟨_,rfl,_,rfl,h,H6,rfl,Zb,hq⟩
theorem nF (c:Code K mg "_law_order" Qa Kr) (T:Tw K mg op oe kd wk C) (Bm:Good P w K mg base "_law_take" 1 Fw Lz):Good P w K mg base "_law_order" 2 Kr bx:=by
 have sc:=Jj
 refine c.good Jj (λvs H Q E h=>?_) (λf cdv A outer s H vs Q E hr h=>?_)
 ·obtain⟨b,lg,n,xs,rfl,_⟩:=h
  rfl
 obtain⟨b,lg,n,xs,rfl,hb,hlg,nlg,A3,hn,q⟩:=h
 refine⟨_,(Ag (Bb (i:=2) Jj.nd rfl (Or.inl rfl) (G7 Zu rfl T.list sH (Aa (pv 1) Ac)))
 (Ag (Bb (i:=3) Jj.nd rfl (Or.inl rfl) (BW Ac))
 (Ag (Bv QbA rfl (Ca rfl T.range (Aa (Ax Bd rfl T.len Cu (Aa (pv 1) Ac)) Ac)) (Aj (i:=4) Jj.nd rfl (Or.inl rfl))
 (Ai (Bf (Cm Qap Qal Qam Cd (pv 3) (Aa (Cm Qap PySem.F.slot_list_pop PySem.F.type_list_pop Sh (pv 2) (Aa (Aw Bm hr (Aa (pv 0) (Aa (Ax Bd rfl T.len Cu (Aa (pv 2) Ac)) Ac))) Ac)) Ac)))))
 (Ai (Ba (pv 3)))))),?_⟩
 refine⟨_,rfl,lg,xs,rfl,.inl (SqL.of hlg),λlf hlf=>?_⟩
 have s1:=Af hlf (.lst xs)
 refine⟨Av (by show 0<=1000;decide),λl hl=>?_⟩
 have s2:=Af hl (.lst [])
 have nfl:lf≠l:=Ar Ab hl
 have fl':H l=none:=s1.free hl
 have nfb:lf≠b:=(hb.nb hlf).symm
 have nlb:l≠b:=((hb.same s1).nb hl).symm
 have e1:=s2 _ _ (Ab (H:=H) (a:=lf) (o:=.lst xs))
 refine⟨_,rfl,lg,_,rfl,.inl (SqL.of (s2 _ _ (s1 _ _ hlg))),_,rfl,by omega,by omega,?_⟩
 rw[Qbh]
 refine Dk (λi σ HH=>∃(u:Option V) (zs ys:YG),σ=[some (.ref b),some (.ref lg),some (.ref lf),some (.ref l),u]/\HH lf=some (.lst zs)/\HH l=some (.lst ys)/\ys.length=i/\(ys++zs).Perm xs/\Bk HH b (n+i)/\Ah b H HH) ⟨_,xs,[],rfl,e1,Ab,rfl,.refl _,(hb.same s1).same s2,Ah.of (s1.trans s2)⟩ (λi σ HH hi h=>?_) (fun σ HH h=>?_)
 ·obtain⟨u,zs,ys,rfl,a1,a2,a3,a4,a5,a6⟩:=h
  have hlen:=a4.length_eq
  rw[QaP] at hlen
  refine⟨_,rfl,.inl ⟨rfl,_,SqL.of a2⟩,_,rfl,.inl ⟨rfl,_,SqL.of a1⟩,_,rfl,_,rfl,lf,_,rfl,.inl (SqL.of a1),b,n+i,_,rfl,a5,by omega,by omega,by omega,λr H1 r0 r1 hb1 sb1=>?_⟩
  have a1':=sb1 _ _ a1 nfb
  have a2':=sb1 _ _ a2 nlb
  obtain⟨k,rfl⟩ : ∃k:Nat,r=(k:Int):=⟨r.toNat,(Int.toNat_of_nonneg r0).symm⟩
  have hk:zs[k]?=some zs[k]:=Qak (by omega)
  refine⟨lf,zs,k,k,zs[k],rfl,rfl,a1',by omega,by omega,?_,hk,?_⟩
  ·unfold seqIndex?
   simp
   omega
  refine⟨l,_,_,rfl,rfl,by rw[Al nfl.symm];exact a2',Aq (by omega),_,zs.eraseIdx k,ys++[zs[k]],rfl,by rw[Al nfl,Ab],Ab,by rw[QaP,a3];rfl,?_,?_,?_⟩
  ·rw[Qbf]
   exact ((Uq hk).append_left ys).trans a4
  ·exact ((hb1.Ce Ah.upd nfb.symm).Ce Ah.upd nlb.symm)
  ·refine λc o e nb=>?_
   have hcl:c≠l:=λz=>by rw[z,fl'] at e;cases e
   have hcf:c≠lf:=λz=>by rw[z,hlf] at e;cases e
   rw[Al hcl,Al hcf]
   exact sb1 _ _ (a6 _ _ e nb) nb
 ·obtain⟨u,zs,ys,rfl,a1,a2,a3,a4,a5,a6⟩:=h
  have hlen:=a4.length_eq
  rw[QaP] at hlen
  have hz:zs=[]:=List.eq_nil_of_length_eq_zero (by omega)
  rw[hz,QbC] at a4
  exact⟨_,rfl,q l ys HH fl' a2 a4 a5 a6⟩
end
abbrev Ii:Stmt:=top 57
abbrev pW:YF:=["_law_script"]
theorem Dz:Ay ["_law_script","_law_bag_here","_law_plan_here","_law_one","_law_other","_law_gates","_law_loop_here","_law_places","_law_wire_names","_law_k","_law_again","_law_hows","_law_stretch","_law_gate"] pW (Ak Ii):=⟨rfl,rfl,rfl,by trivial,rfl,by trivial,by trivial⟩
theorem Yc {α : Type} (c:α->Int):∀{l m:List α},(l.map c).Pairwise (· < ·)->(m.map c).Pairwise (· < ·)->(∀x,x∈l ↔ x∈m)->l=m
 | [],[],_,_,_=>rfl
 | [],b::m,_,_,h=>by have:=(h b).mpr (QaQ ..);cases this
 | a::l,[],_,_,h=>by have:=(h a).mp (QaQ ..);cases this
 | a::l,b::m,hl,hm,h=>by
  obtain⟨l1,l2⟩:=List.pairwise_cons.mp hl
  obtain⟨m1,m2⟩:=List.pairwise_cons.mp hm
  have l1:∀x∈l,c a < c x:=λx hx=>l1 _ (Qcc.mpr ⟨x,hx,rfl⟩)
  have m1:∀x∈m,c b < c x:=λx hx=>m1 _ (Qcc.mpr ⟨x,hx,rfl⟩)
  have e:a=b:=by
   rcases QbT.mp ((h a).mp (QaQ ..)) with e | e
   ·exact e
   ·have:=m1 a e
    rcases QbT.mp ((h b).mpr (QaQ ..)) with e2 | e2
    ·exact e2.symm
    ·have:=l1 b e2
     omega
  subst e
  rw[Yc c l2 m2 λx=>⟨λhx=>?_,λhx=>?_⟩]
  ·rcases QbT.mp ((h x).mp (QaF _ hx)) with e | e
   ·have:=l1 x hx;rw[e] at this;omega
   ·exact e
  ·rcases QbT.mp ((h x).mpr (QaF _ hx)) with e | e
   ·have:=m1 x hx;rw[e] at this;omega
   ·exact e
noncomputable def Rf (hs:YR) (gs:YT) (fl:YQ) (lp:Int) (n:Nat) (e:Str):YV:=by
 classical exact if h:∃L:YV,L.Perm (Rb hs gs fl lp n e)/\(L.map cd3).Pairwise (· < ·) then h.choose else []
theorem bW {hs:YR} {gs:YT} {fl:YQ} {lp:Int} {n:Nat} {e:Str} {L:YV} (h1:L.Perm (Rb hs gs fl lp n e)) (h2:(L.map cd3).Pairwise (· < ·)):L=Rf hs gs fl lp n e:=by
 have h:∃L:YV,L.Perm (Rb hs gs fl lp n e)/\(L.map cd3).Pairwise (· < ·):=⟨L,h1,h2⟩
 unfold Rf
 rw[dif_pos h]
 obtain⟨h3,h4⟩:=h.choose_spec
 exact Yc cd3 h2 h4 λx=>by rw[h1.mem_iff,h3.mem_iff]
def gtD (g:Gt):PyData:=.tuple [.int g.lp,.int g.at_]
theorem Sw {H:Hp}:∀{vs:YG} {gs:List Gt},Paired (Ds H) vs gs->J1 H vs (gs.map gtD)
 | _,_,.nil=>.nil
 | _,_,.cons ⟨t,e,h1⟩ r=>by
  subst e
  exact .cons (.tup h1 (.cons (.int _) (.cons (.int _) .nil))) (Sw r)
theorem bY:∀gs:List Gt,PyData.canLayAll0 (gs.map gtD)=true/\PyData.depthAll (gs.map gtD)<=2
 | []=>⟨rfl,by show 0<=2;decide⟩
 | d::r=>by
  have ih:=bY r
  refine⟨?_,?_⟩
  ·show ((true&&(true&&true))&&PyData.canLayAll0 (r.map gtD))=true
   rw[ih.1];rfl
  ·show max (max 0 (max 0 0)+1) (PyData.depthAll (r.map gtD))<=2
   exact Nat.max_le.mpr ⟨by decide,ih.2⟩
theorem O2 (gs:List Gt):SeqAt.shaped (.list (gs.map gtD))=true:=by
 have h1:=bY gs
 show (PyData.canLayAll0 (gs.map gtD)&&decide (PyData.depthAll (gs.map gtD)+1<=64))=true
 rw[h1.1,Bool.true_and]
 exact QbN (by omega)
def PX (s:Sp3):PyData:=.tuple [.int s.lp,.int s.at_,.int s.n]
theorem Xo {H:Hp}:∀{vs:YG} {ss:YV},Paired (Cr H) vs ss->J1 H vs (ss.map PX)
 | _,_,.nil=>.nil
 | _,_,.cons ⟨t,e,h1⟩ r=>by
  subst e
  exact .cons (.tup h1 (.cons (.int _) (.cons (.int _) (.cons (.int _) .nil)))) (Xo r)
theorem aU:∀ss:YV,PyData.canLayAll0 (ss.map PX)=true/\PyData.depthAll (ss.map PX)<=2
 | []=>⟨rfl,by show 0<=2;decide⟩
 | d::r=>by
  have ih:=aU r
  refine⟨?_,?_⟩
  ·show ((true&&(true&&(true&&true)))&&PyData.canLayAll0 (r.map PX))=true
   rw[ih.1];rfl
  ·show max (max 0 (max 0 (max 0 0))+1) (PyData.depthAll (r.map PX))<=2
   exact Nat.max_le.mpr ⟨by decide,ih.2⟩
def Qu (L:YV):PyData:=.list (L.map PX)
theorem YZ:∀Ls:List (YV),PyData.canLayAll0 (Ls.map Qu)=true/\PyData.depthAll (Ls.map Qu)<=3
 | []=>⟨rfl,by show 0<=3;decide⟩
 | L::r=>by
  have ih:=YZ r
  have h:=aU L
  refine⟨?_,?_⟩
  ·show (PyData.canLayAll0 (L.map PX)&&PyData.canLayAll0 (r.map Qu))=true
   rw[ih.1,h.1];rfl
  ·show max (PyData.depthAll (L.map PX)+1) (PyData.depthAll (r.map Qu))<=3
   exact Nat.max_le.mpr ⟨by omega,ih.2⟩
theorem Nz (Ls:List (YV)):SeqAt.shaped (.list (Ls.map Qu))=true:=by
 have h1:=YZ Ls
 show (PyData.canLayAll0 (Ls.map Qu)&&decide (PyData.depthAll (Ls.map Qu)+1<=64))=true
 rw[h1.1,Bool.true_and]
 exact QbN (by omega)
def Kh (lc:Addr) (H:Hp) (v:V) (L:YV):Prop:=∃l xs,v=.ref l/\l≠lc/\H l=some (.lst xs)/\Paired (Cr H) xs L
theorem Kh.same {lc:Addr} {H H':Hp} {v:V} {L:YV} (h:Kh lc H v L) (s:Same H H'):Kh lc H' v L:=by
 obtain⟨l,xs,h1,h2,h3,h4⟩:=h
 exact⟨l,xs,h1,h2,s _ _ h3,Paired.Az h4 λ_ _ z=>z.tups (Ao.of s)⟩
theorem Kh.Ce {lc:Addr} {H H':Hp} {v:V} {L:YV} (h:Kh lc H v L) (s:Ah lc H H') (nt:∀zs,H lc≠some (.tup zs)):Kh lc H' v L:=by
 obtain⟨l,xs,h1,h2,h3,h4⟩:=h
 exact⟨l,xs,h1,h2,s _ _ h3 h2,Paired.Az h4 λ_ _ z=>z.tups (s.tup nt)⟩
theorem O1 {lc:Addr} {H:Hp}:∀{vs:YG} {Ls:List (YV)},Paired (Kh lc H) vs Ls->J1 H vs (Ls.map Qu)
 | _,_,.nil=>.nil
 | _,_,.cons ⟨l,xs,e,_,h1,h2⟩ r=>by
  subst e
  exact .cons (.lst h1 (Xo h2)) (O1 r)
def gtX (loops:YU) (k:Nat):List Gt:=ifs loops[k]? λps=>[⟨(k:Int),0⟩,⟨(k:Int),(ps.length:Int)+1⟩]++up (gt1 k ps) ps.length
theorem rO {loops:YU} {g:Gt}:g∈up (gtX loops) loops.length ↔ g∈up (gtL loops) loops.length:=by
 have h:∀k,g∈gtX loops k ↔ g∈gtL loops k:=λk=>by
  unfold gtX gtL
  cases loops[k]? with
  | none=>exact Iff.rfl
  | some ps=>
   show g∈[⟨(k:Int),0⟩,⟨(k:Int),(ps.length:Int)+1⟩]++up (gt1 k ps) ps.length ↔ g∈(⟨k,0⟩::up (gt1 k ps) ps.length)++[⟨k,(ps.length:Int)+1⟩]
   simp only[Qbz,QbT,Qbr,Qct]
   constructor
   ·rintro ((h | h) | h)
    ·exact .inl (.inl h)
    ·exact .inr h
    ·exact .inl (.inr h)
   ·rintro ((h | h) | h)
    ·exact .inl (.inl h)
    ·exact .inr h
    ·exact .inl (.inr h)
 constructor
 ·intro z
  obtain⟨k,hk,z⟩:=Hg z
  exact Oj ((h k).mp z) hk
 ·intro z
  obtain⟨k,hk,z⟩:=Hg z
  exact Oj ((h k).mpr z) hk
theorem rP {loops:YU} (ok:Ed loops) (k:Nat):(gtX loops k).length<=14:=by
 unfold gtX
 cases e:loops[k]? with
 | none=>exact Qcl _
 | some ps=>
  have o:=ok.ok ps (QaE e)
  have:=Dp (f:=gt1 (k:Int) ps) (c:=1) Od ps.length
  have:=o.hi
  show (_::_::_).length<=14
  rw[Qbp,Qbp]
  show (up (gt1 k ps) ps.length).length+1+1<=14
  omega
structure Ad where
 b:Addr
 p:Addr
 pl:Addr
 d1:Addr
 d2:Addr
 d3:Addr
 q:Addr
 e1:Addr
 e2:Addr
 e3:Addr
 v:Addr
 w:Addr
structure S10 where
 most:Int
 loops:YU
 zones:List Zone
 hs:YR
 fl:YQ
 gs:YT
 g2:YT
structure LS (C:Addr) (H:Hp) (a:Ad) (n:Nat) (t:S10):Prop where
 bag:Bk H a.b n
 w1:WAt C H a.p a.pl a.d1 a.d2 a.d3 t.hs t.fl t.gs
 w2:WAt C H a.q a.pl a.e1 a.e2 a.e3 t.hs t.fl t.g2
 pa:Gm H a.pl t.most t.loops t.zones
 gv:∃xs,H a.v=some (.lst xs)/\Paired (Ds H) xs (up (gtX t.loops) t.loops.length)
 wn:∃xs,H a.w=some (.lst xs)/\Paired (Cr H) xs (up (stL t.loops) t.loops.length)
 nbv:a.v≠a.b
 nbw:a.w≠a.b
 n12:a.d1≠a.d2
 m12:a.e1≠a.e2
 x1:a.d1≠a.e1/\a.d1≠a.e2/\a.d1≠a.e3
 x3:a.d3≠a.e1/\a.d3≠a.e2/\a.d3≠a.e3
 x2:a.d2≠a.e1/\a.d2≠a.e3
 k1:t.hs.map (·.1)=up (stL t.loops) t.loops.length
 k3:t.gs.map (·.1)=up (gtL t.loops) t.loops.length
 k4:t.g2.map (·.1)=up (gtL t.loops) t.loops.length
 bf:∀s∈t.fl.map (·.1),Bd3 s
 l30:t.fl.length<=30
theorem WAt.np {C:Addr} {H:Hp} {p pl d1 d2 d3 x:Addr} {hs:YR} {fl:YQ} {gs:YT} {kv:YL} (R:WAt C H p pl d1 d2 d3 hs fl gs) (h:H x=some (.dT kv)):p≠x:=λz=>by
 obtain⟨dx,e⟩:=R.ins
 rw[z,h] at e
 cases e
section
variable {C:Addr} {H H':Hp} {a:Ad} {n n':Nat} {t:S10}
theorem LS.nbW (L:LS C H a n t):(a.p≠a.b/\a.d1≠a.b/\a.d2≠a.b/\a.d3≠a.b)/\a.q≠a.b/\a.e1≠a.b/\a.e2≠a.b/\a.e3≠a.b:=by
 obtain⟨_,_,_,eb,_⟩:=L.bag
 have hd:∀{x kv},H x=some (.dT kv)->x≠a.b:=λh z=>by rw[z,eb] at h;cases h
 have hi:∀{x c d f},H x=some (.ins c d f)->x≠a.b:=λh z=>by rw[z,eb] at h;cases h
 obtain⟨dx,e0⟩:=L.w1.ins
 obtain⟨dy,f0⟩:=L.w2.ins
 obtain⟨_,e2,_⟩:=L.w1.fi
 obtain⟨_,f2,_⟩:=L.w2.fi
 exact⟨⟨hi e0,hd L.w1.st,hd e2,hd L.w1.gp⟩,hi f0,hd L.w2.st,hd f2,hd L.w2.gp⟩
theorem LS.moved {hs:YR} {gs g2:YT} (L:LS C H a n t) (s:Ao H H') (w1:WAt C H' a.p a.pl a.d1 a.d2 a.d3 hs t.fl gs) (w2:WAt C H' a.q a.pl a.e1 a.e2 a.e3 hs t.fl g2) (bag:Bk H' a.b n') (hv:∀o,H a.v=some o->H' a.v=some o) (hw:∀o,H a.w=some o->H' a.w=some o) (k1:hs.map (·.1)=t.hs.map (·.1)) (k3:gs.map (·.1)=t.gs.map (·.1)) (k4:g2.map (·.1)=t.g2.map (·.1)):LS C H' a n' { t with hs:=hs,gs:=gs,g2:=g2 }:=by
 obtain⟨xs,x1,x2⟩:=L.gv
 obtain⟨ys,y1,y2⟩:=L.wn
 exact⟨bag,w1,w2,L.pa.tups s,⟨xs,hv _ x1,Paired.Az x2 λ_ _ z=>z.tups s⟩,⟨ys,hw _ y1,Paired.Az y2 λ_ _ z=>z.tups s⟩,L.nbv,L.nbw,L.n12,L.m12,L.x1,L.x3,L.x2,k1.trans L.k1,k3.trans L.k3,k4.trans L.k4,L.bf,L.l30⟩
theorem LS.same (L:LS C H a n t) (s:Same H H'):LS C H' a n t:=L.moved (Ao.of s) (L.w1.same s) (L.w2.same s) (L.bag.same s) (λo e=>s _ _ e) (λo e=>s _ _ e) rfl rfl rfl
theorem LS.mono (L:LS C H a n t) (h:n<=n'):LS C H a n' t:=L.moved (Ao.of (Same.refl H)) L.w1 L.w2 (L.bag.mono h) (λo e=>e) (λo e=>e) rfl rfl rfl
theorem LS.drawn (L:LS C H a n t) (s:Ah a.b H H') (hb:Bk H' a.b n'):LS C H' a n' t:=by
 obtain⟨⟨m0,m1,m2,m3⟩,m4,m5,m6,m7⟩:=L.nbW
 exact L.moved (s.tup L.bag.Gh) (L.w1.Ce s L.bag.Gh m0 m1 m2 m3) (L.w2.Ce s L.bag.Gh m4 m5 m6 m7) hb (λo e=>s _ _ e L.nbv) (λo e=>s _ _ e L.nbw) rfl rfl rfl
theorem LS.nl (L:LS C H a n t) {x:Addr} {kv:YL} (h:H x=some (.dT kv)):a.v≠x/\a.w≠x/\a.b≠x:=by
 obtain⟨_,x1,_⟩:=L.gv
 obtain⟨_,y1,_⟩:=L.wn
 obtain⟨_,_,_,eb,_⟩:=L.bag
 exact⟨(λz=>by rw[z,h] at x1;cases x1),(λz=>by rw[z,h] at y1;cases y1),λz=>by rw[z,h] at eb;cases eb⟩
theorem LS.FL {gs:YT} (L:LS C H a n t) (W:WAt C H' a.p a.pl a.d1 a.d2 a.d3 t.hs t.fl gs) (s:Ah a.d3 H H') (k:gs.map (·.1)=t.gs.map (·.1)):LS C H' a n { t with gs:=gs }:=by
 have nt:∀zs,H a.d3≠some (.tup zs):=λzs e=>by rw[L.w1.gp] at e;cases e
 obtain⟨v1,v2,v3⟩:=L.nl L.w1.gp
 exact L.moved (s.tup nt) W (L.w2.Ce s nt (L.w2.np L.w1.gp) L.x3.1.symm L.x3.2.1.symm L.x3.2.2.symm) (L.bag.Ce s v3) (λo e=>s _ _ e v1) (λo e=>s _ _ e v2) rfl k rfl
theorem LS.act2 {gs:YT} (L:LS C H a n t) (W:WAt C H' a.q a.pl a.e1 a.e2 a.e3 t.hs t.fl gs) (s:Ah a.e3 H H') (k:gs.map (·.1)=t.g2.map (·.1)):LS C H' a n { t with g2:=gs }:=by
 have nt:∀zs,H a.e3≠some (.tup zs):=λzs e=>by rw[L.w2.gp] at e;cases e
 obtain⟨v1,v2,v3⟩:=L.nl L.w2.gp
 exact L.moved (s.tup nt) (L.w1.Ce s nt (L.w1.np L.w2.gp) L.x1.2.2 L.x2.2 L.x3.2.2) W (L.bag.Ce s v3) (λo e=>s _ _ e v1) (λo e=>s _ _ e v2) rfl rfl k
theorem LS.bs (L:LS C H a n t):∀s∈t.hs.map (·.1),Bd3 s:=by rw[L.k1];exact xP L.pa.ok
theorem Xa {loops:YU} (ok:Ed loops) {gs:YT} (k:gs.map (·.1)=up (gtL loops) loops.length):QM gs:=λx hx=>by
 have:x.1∈up (gtL loops) loops.length:=by rw[<-k];exact Qcc.mpr ⟨x,hx,rfl⟩
 obtain⟨i,hi,h⟩:=Hg this
 have:=jy ok h
 omega
theorem LS.hs1 (L:LS C H a n t):1<=t.hs.length:=by
 have hl:=L.pa.lo
 have h0:t.loops[0]?=some t.loops[0]:=Qak (by omega)
 have:(⟨((0:Nat):Int),0,0⟩ : Sp3)∈up (stL t.loops) t.loops.length:=Oj (i:=0) (by unfold stL;rw[Dh h0];exact QaQ ..) (by omega)
 rw[<-L.k1] at this
 have:=List.length_pos_of_mem this
 rwa [Qbx] at this
theorem LS.vm {b:Addr} (L:LS C H a n t) (s:Same H H') (hb:H b=none) (bag:Bk H' b n'):LS C H' { a with b:=b } n' t:=by
 have L':=L.same s
 obtain⟨xs,x1,_⟩:=L.gv
 obtain⟨ys,y1,_⟩:=L.wn
 exact⟨bag,L'.w1,L'.w2,L'.pa,L'.gv,L'.wn,Ar x1 hb,Ar y1 hb,L'.n12,L'.m12,L'.x1,L'.x3,L'.x2,L'.k1,L'.k3,L'.k4,L'.bf,L'.l30⟩
theorem LS.gate (L:LS C H a n t) {k:Nat} {ps:List Place} (hps:t.loops[k]?=some ps) (e:Str):DW k ps.length e∈up (gtL t.loops) t.loops.length:=by
 refine Oj (i:=k) ?_ (Qag.mp hps).1
 unfold gtL
 rw[Dh hps]
 unfold DW
 split
 ·exact QaG _ (QaQ ..)
 ·exact QaA _ (QaQ ..)
end
theorem WAt.fr {C:Addr} {H H':Hp} {p pl d1 d2 d3:Addr} {hs:YR} {fl:YQ} {gs:YT} (R:WAt C H p pl d1 d2 d3 hs fl gs) (t:Ao H H') (f0:∀o,H p=some o->H' p=some o) (f1:∀o,H d1=some o->H' d1=some o) (f2:∀o,H d2=some o->H' d2=some o) (f3:∀o,H d3=some o->H' d3=some o):WAt C H' p pl d1 d2 d3 hs fl gs:=by
 obtain⟨dx,e⟩:=R.ins
 obtain⟨kvs,e2,e3⟩:=R.fi
 exact⟨⟨dx,f0 _ e⟩,f1 _ R.st,⟨kvs,f2 _ e2,Paired.Az e3 λ_ _ z=>z.tups t⟩,R.nd1,R.nd2,R.l1,R.l2,f3 _ R.gp,R.nd3,R.l3,R.n13,R.n23⟩
theorem qL {hs:YR} {gs g2:YT} (h:gs.map (·.1)=g2.map (·.1)):CJ hs gs=CJ hs g2:=by
 have:∀l:YT,CJ hs l=(l.map (·.1)).map λg=>(g,Bl hs l g):=λl=>by unfold CJ;rw[Qcf];rfl
 rw[this,this,h]
 exact QaL λg _=>by rw[Gd h]
theorem V4 {K:YD} {H0 H1:Hp} {tt lc p:Addr} {k:Nat} {te:TE} {Q:VK} {f:Str->YV} (ht:H1 tt=some (.tup [.str "A",.str "B"])) (h1:H1 lc=some (.lst [])) (flc:H0 lc=none) (s01:Same H0 H1)
  (hte:∀(e:Str) (HX:Hp) (R:VK),Same H0 HX->(∀l xs H',HX l=none->H' l=some (.lst xs)->Paired (Cr H') xs (f e)->Same HX H'->R (.ref l) H')->te [some (.str e),some (.int (k:Int)),some (.ref p)] HX R)
  (hq:∀vs HX,HX lc=some (.lst vs)->Paired (Kh lc HX) vs [f "A",f "B"]->Same H0 HX->Q (.ref lc) HX):Fj (Itt K tt) (Fe 0) (λ_ H Q=>Q true H) te Q [none,some (.int (k:Int)),some (.ref p)] H1 lc:=by
 refine O7 (xs:=[.str "A",.str "B"]) (λi σ HY=>(∃u,σ=[u,some (.int (k:Int)),some (.ref p)])/\(∃vs,HY lc=some (.lst vs)/\Paired (Kh lc HY) vs (([("A":Str),("B":Str)].take i).map f))/\HY tt=some (.tup [.str "A",.str "B"])/\Same H0 HY) ⟨⟨_,rfl⟩,⟨[],h1,.nil⟩,ht,s01⟩ (λi σ HY _ h=>SqT.of h.2.2.1) (λi x σ HY hx h=>?_) (fun σ HY h=>?_)
 ·obtain⟨⟨u,rfl⟩,⟨vs,g1,g2⟩,g3,g4⟩:=h
  obtain⟨e,rfl,he⟩ : ∃e:Str,x=.str e/\[("A":Str),("B":Str)][i]?=some e:=by
   match i,hx with
   | 0,hx=>cases hx;exact⟨_,rfl,rfl⟩
   | 1,hx=>cases hx;exact⟨_,rfl,rfl⟩
   | n+2,hx=>cases hx
  have hi:=(Qag.mp he).1
  have lv:=QbS g2
  rw[Qbx,Qbq] at lv
  unfold Fe
  dsimp only
  refine BZ (hte e HY _ g4 λl xs H' fl hl hp s'=>?_)
  have g1':=s' _ _ g1
  have ntl:∀zs,H' lc≠some (.tup zs):=λzs z=>by rw[g1'] at z;cases z
  have nl:l≠lc:=λz=>by rw[z,g1] at fl;cases fl
  refine⟨vs,g1',Aq (by simp at hi;omega),⟨_,rfl⟩,⟨_,Ab,?_⟩,?_,(g4.trans s').Bj Ah.upd flc⟩
  ·rw[Qcs he,Qby]
   exact Qcm ⟨l,xs,rfl,nl,by rw[Al nl];exact hl,Paired.Az hp λ_ _ z=>z.tups (Ao.upd ntl)⟩ (Paired.Az g2 λ_ _ z=>(z.same s').Ce Ah.upd ntl)
  ·have:=s' _ _ g3
   rw[Al (λz=>by rw[z,g1'] at this;cases this)]
   exact this
 ·obtain⟨_,⟨vs,g1,g2⟩,g3,g4⟩:=h
  exact hq vs HY g1 g2 g4
section
variable {P:Program} {w:World} {K:YD} {mg:YB} {base:Heap} {op oe kd wk C:Addr}
theorem uX {f:Addr} {fd:FuncData} (F:Fun K "law" "law" Ii f fd) (T:Tw K mg op oe kd wk C) (Rh:Good P w K mg base "_law_bag" 1 Oc (pO K)) (Bm:Good P w K mg base "_law_take" 1 Fw Lz) (oM:Good P w K mg base "_law_plan" 4 Ml gR) (V7:gk P w K mg base C 11 Ey (bF C)) (WK:Good P w K mg base "_law_stretches" 1 Gs aW) (fB:Good P w K mg base "_law_befall" 5 Jq (pN C)) (jC:Good P w K mg base "_law_order" 2 Kr bx)
  (Vu:CT P w K mg base C "cut" 4 GD (K5 C "cut")) (Qx:CT P w K mg base C "short" 4 Fl (K5 C "short")) (Sx:CT P w K mg base C "mend" 4 Gb (K5 C "whole")) (Vv:CT P w K mg base C "act" 4 GF (Xz C)) (Sy:CT P w K mg base C "come_to_rest" 5 Dr (bh C)) (V5:CT P w K mg base C "rests" 5 Gu (aZ C)) (Ul:CT P w K mg base C "parted" 1 Ga (Xv C)) (V6:CT P w K mg base C "heard" 3 Gv (bG C)):Gn P w K mg base CX0 13 f fd pW (WR K):=by
 have sc:=Dz
 refine F.ok Dz (λvs H Q E h=>?_) (λcdv A outer s H vs Q E hr h=>?_)
 ·obtain⟨a,ns,rfl,_⟩:=h
  rfl
 obtain⟨sa,ns,rfl,hS,h63,q⟩:=h
 refine⟨_,(Ag (Bb (i:=1) Dz.nd rfl (Or.inl rfl) (Aw Rh hr (Aa (pv 0) (Aa Ae Ac))))
 (Ag (Bb (i:=2) Dz.nd rfl (Or.inl rfl) (Aw oM hr (Aa (pv 1) (Aa Ae (Aa Ae Ac)))))
 (Ag (G5 (Bh (Aa (pR V7 hr T.mgC (Aa (pv 2) Ac)) (Aa (pR V7 hr T.mgC (Aa (pv 2) Ac)) Ac))) (Cw rfl (Am (Aj (i:=3) Dz.nd rfl (Or.inr rfl)) (Am (Aj (i:=4) Dz.nd rfl (Or.inr rfl)) Bo))))
 (Ag (Bb (i:=5) Dz.nd rfl (Or.inl rfl) (BW Ac))
 (Ag (Bv QbA rfl (Ca rfl T.range (Aa (Ax Bd rfl T.len Cu (Aa (Bq BR (pv 2) Ae (λ_ _=>rfl)) Ac)) Ac)) (Aj (i:=6) Dz.nd rfl (Or.inr rfl))
 (Ag (Bb (i:=7) Dz.nd rfl (Or.inr rfl) (Bq BR (Bq BR (pv 2) Ae (λ_ _=>rfl)) (pv 6) (λ_ _=>rfl)))
 (Ag (Bf (Cm Qap Qan Qao Ec (pv 5) (Aa (BW (Aa (Bh (Aa (pv 6) (Aa Ae Ac))) (Aa (Bh (Aa (pv 6) (Aa (Bc BX (Ax Bd rfl T.len Cu (Aa (pv 7) Ac)) Ae) Ac))) Ac))) Ac)))
 (Ai (Bf (Cm Qap Qan Qao Ec (pv 5) (Aa (BP (N':=["_law_at","_law_loop_here","_law_places"]) rfl (Bg.of (src:=[none,some 6,some 7]) (Ak Ii) ["_law_script","_law_bag_here","_law_plan_here","_law_one","_law_other","_law_gates","_law_loop_here","_law_places","_law_wire_names","_law_k","_law_again","_law_hows","_law_stretch","_law_gate"] rfl rfl rfl (by trivial) (by trivial) (by trivial) rfl (by trivial)) (Ca rfl T.range (Aa (Ax Bd rfl T.len Cu (Aa (pv 7) Ac)) Ac)) (λ_ _ _ _=>(Aj (i:=0) (show List.Nodup (["_law_at","_law_loop_here","_law_places"]:YF) by trivial) rfl (Or.inl rfl))) (λ_ _ _ _=>(G6 (Bt Ho (Bq (bT (K:=K) rfl) (Bq (bT (K:=K) rfl) (pv 2) (pv 0) (λ_ _=>rfl)) Ae (λ_ _=>rfl)) Bp (BJ _)))) (λ_ _ _ _=>(Bh (Aa (pv 1) (Aa (Bc BX (pv 0) Ae) Ac))))) Ac)))))))
 (Ag (Bb (i:=8) Dz.nd rfl (Or.inl rfl) (Aw WK hr (Aa (pv 2) Ac)))
 (Ag (Bv QbA rfl (Ca rfl T.range (Aa (Ax (jX rfl) rfl T.max Zx (Aa Ae (Aa (Ax (Nf rfl) rfl T.min Uu (Aa Ae (Aa (Ax Bd rfl T.len Cu (Aa (pv 0) Ac)) Ac))) Ac))) Ac)) (Aj (i:=9) Dz.nd rfl (Or.inl rfl))
 (Ag (Bb (i:=1) Dz.nd rfl (Or.inl rfl) (Aw Rh hr (Aa (pv 0) (Aa (pv 9) Ac))))
 (Ag (Bv QbA rfl (Ca rfl T.range (Aa (Bc BX Ae (Aw Bm hr (Aa (pv 1) (Aa Ae Ac)))) Ac)) (Aj (i:=10) Dz.nd rfl (Or.inl rfl))
 (Ag (Bb (i:=11) Dz.nd rfl (Or.inl rfl) mQ)
 (Ag (Bf (Aw fB hr (Aa (pv 1) (Aa (pv 3) (Aa (pv 11) (Aa (pv 8) Ac))))))
 (Ai (Yi rfl (Bv QbA rfl (R0 (pv 11)) (Aj (i:=12) Dz.nd rfl (Or.inl rfl))
 (Ai (Ck (Bt Ho (JN (Cv hr) (pv 11) (pv 12) (λ_ _=>rfl)) Bp (BJ _)) (Ai (Bf (Hj (pv 4) T.cl Vu hr (Aa (pv 12) Ac)))) (Ai (Ck (Bt Ho (JN (Cv hr) (pv 11) (pv 12) (λ_ _=>rfl)) Bp (BJ _)) (Ai (Bf (Hj (pv 4) T.cl Qx hr (Aa (pv 12) Ac)))) (Ai (Bf (Hj (pv 4) T.cl Sx hr (Aa (pv 12) Ac))))))))))))))
 (Ag (Bv QbA rfl (Ca rfl T.range (Aa Ae Ac)) (Aj (i:=10) Dz.nd rfl (Or.inl rfl))
 (Ai (Bv QbA rfl (DN (Aw jC hr (Aa (pv 1) (Aa (pv 5) Ac)))) (Aj (i:=13) Dz.nd rfl (Or.inl rfl))
 (Ai (Bf (Hj (pv 3) T.cl Vv hr (Aa (pv 13) Ac)))))))
 (Ag (Bf (Qm (pv 4) T.cl Sy hr))
 (Ag (Ck (PW.pt (MK (Ek (Dc (Qm (pv 3) T.cl V5 hr))) (MK (Ek (Dc (Qm (pv 4) T.cl V5 hr))) (N7 (Bt (iR hr.units) (Qm (pv 3) T.cl Ul hr) (Qm (pv 4) T.cl Ul hr) (BJ _)))))) (Ai (Ba Fz)) BL)
 (Ai (Bv QbA rfl (Ca rfl T.range (Aa (Ax Bd rfl T.len Cu (Aa (Bq BR (pv 2) Ae (λ_ _=>rfl)) Ac)) Ac)) (Aj (i:=6) Dz.nd rfl (Or.inr rfl))
 (Ai (Ck (Bt (iR hr.units) (BP (N':=["_law_end","_law_loop_here","_law_one"]) rfl (Bg.of (src:=[none,some 6,some 3]) (Ak Ii) ["_law_script","_law_bag_here","_law_plan_here","_law_one","_law_other","_law_gates","_law_loop_here","_law_places","_law_wire_names","_law_k","_law_again","_law_hows","_law_stretch","_law_gate"] rfl rfl rfl (by trivial) (by trivial) (by trivial) rfl (by trivial)) (El (Bh (Aa Bp (Aa Bp Ac)))) (λ_ _ _ _=>(Aj (i:=0) (show List.Nodup (["_law_end","_law_loop_here","_law_one"]:YF) by trivial) rfl (Or.inl rfl))) (λ_ _ _ _=>Cy) (λ_ _ _ _=>(Hj (pv 2) T.cl V6 hr (Aa (pv 1) (Aa (pv 0) Ac))))) (BP (N':=["_law_end","_law_loop_here","_law_other"]) rfl (Bg.of (src:=[none,some 6,some 4]) (Ak Ii) ["_law_script","_law_bag_here","_law_plan_here","_law_one","_law_other","_law_gates","_law_loop_here","_law_places","_law_wire_names","_law_k","_law_again","_law_hows","_law_stretch","_law_gate"] rfl rfl rfl (by trivial) (by trivial) (by trivial) rfl (by trivial)) (El (Bh (Aa Bp (Aa Bp Ac)))) (λ_ _ _ _=>(Aj (i:=0) (show List.Nodup (["_law_end","_law_loop_here","_law_other"]:YF) by trivial) rfl (Or.inl rfl))) (λ_ _ _ _=>Cy) (λ_ _ _ _=>(Hj (pv 2) T.cl V6 hr (Aa (pv 1) (Aa (pv 0) Ac))))) (BJ _)) (Ai (Ba Fz)) BL))))))))))
 (Ai (Ba Fz))))))))),?_⟩
 refine⟨_,rfl,sa,ns,0,rfl,hS,h63,by decide,by decide,λb0 o hb0 hb=>?_⟩
 have sb0:=Af hb0 o
 generalize upd H b0 o=H0 at *
 refine⟨_,rfl,b0,0,3,12,rfl,hb,by omega,by omega,by omega,by omega,by omega,λt Ls zs vs zvs loops zones most H1 e1 e2 e3 e4 e5 e6 e7 e8 e9 hb1 sb1=>?_⟩
 have ok:Ed loops:=⟨e4,e6⟩
 have pa:Gm H1 t most loops zones:=⟨⟨Ls,zs,vs,zvs,e1,e2,e3,e7,e8⟩,ok,e5,e9⟩
 have s1:Same H H1:=sb0.Bj sb1 hb0
 clear sb1 e4 e7 e8
 have lw:=QbS e3
 have l3:=ok.hi
 refine⟨_,rfl,λp dx hp hdx ndx=>?_⟩
 have s2:Same H1 (upd (upd H1 dx (.own p)) p (.ins C dx [])):=(Af hdx _).trans (Af (by rw[Al ndx.symm];exact hp) _)
 have hpx:(upd (upd H1 dx (.own p)) p (.ins C dx [])) p=some (.ins C dx []):=Ab
 generalize upd (upd H1 dx (.own p)) p (.ins C dx [])=Hx at *
 refine⟨p,dx,t,most,loops,zones,rfl,hpx,pa.same s2,λd1 d2 d3 H3 f1 f2 f3 n12 W1 sb=>⟨rfl,?_⟩⟩
 have s3:Same H1 H3:=s2.Bj sb hp
 have fd1:H d1=none:=(s1.trans s2).free f1
 have fd3:H d3=none:=(s1.trans s2).free f3
 have pa3:=pa.same s3
 clear f1 f2 f3 sb hpx s2 hp hdx ndx
 refine⟨_,rfl,λp2 dy hp2 hdy ndy=>?_⟩
 have s4:Same H3 (upd (upd H3 dy (.own p2)) p2 (.ins C dy [])):=(Af hdy _).trans (Af (by rw[Al ndy.symm];exact hp2) _)
 have hpy:(upd (upd H3 dy (.own p2)) p2 (.ins C dy [])) p2=some (.ins C dy []):=Ab
 generalize upd (upd H3 dy (.own p2)) p2 (.ins C dy [])=Hy at *
 refine⟨p2,dy,t,most,loops,zones,rfl,hpy,pa3.same s4,λc1 c2 c3 H5 g1 g2 g3 m12 W2 sb=>⟨rfl,?_⟩⟩
 have s5:Same H3 H5:=s4.Bj sb hp2
 have W1y:=W1.same s4
 obtain⟨kvy,w2y,_⟩:=W1y.fi
 have x1:d1≠c1/\d1≠c2/\d1≠c3:=⟨Ar W1y.st g1,Ar W1y.st g2,Ar W1y.st g3⟩
 have x3:d3≠c1/\d3≠c2/\d3≠c3:=⟨Ar W1y.gp g1,Ar W1y.gp g2,Ar W1y.gp g3⟩
 have x2:d2≠c1/\d2≠c3:=⟨Ar w2y g1,Ar w2y g3⟩
 have fc1:H c1=none:=((s1.trans s3).trans s4).free g1
 have fc3:H c3=none:=((s1.trans s3).trans s4).free g3
 have W15:=W1.same s5
 have sH5:=(s1.trans s3).trans s5
 have hb5:=hb1.same (s3.trans s5)
 have pa5:=pa3.same s5
 clear g1 g2 g3 sb hpy hp2 hdy ndy
 refine⟨Av (by show 2<=1000;decide),λtt htt=>⟨tt,_,rfl,SqT.of Ab,rfl,_,_,rfl,_,_,rfl,rfl,?_⟩⟩
 simp only[QaS,QaR]
 have s6:=Af htt (.tup [.ref p,.ref p2])
 generalize upd H5 tt (.tup [.ref p,.ref p2])=H6 at *
 refine⟨Av (by show 0<=1000;decide),λlv hlv=>?_⟩
 have nvb:lv≠b0:=((hb5.same s6).nb hlv).symm
 have s7:=Af hlv (.lst [])
 have s57:=s6.trans s7
 have sP:Same H1 (upd H6 lv (.lst [])):=(s3.trans s5).trans s57
 refine⟨_,rfl,t,_,_,_,rfl,rfl,SqT.of (sP _ _ e1),rfl,Ls,_,rfl,.inr (SqT.of (sP _ _ e2)),_,rfl,by omega,by omega,?_⟩
 rw[Qbh]
 have o200:∀k,k<=loops.length->(up (gtX loops) k).length<=42:=λk hk=>by
  have:=Dp (f:=gtX loops) (c:=14) (rP ok) k
  omega
 refine Dk (λk σ HH=>∃(u6 u7:Option V),σ=[some (.ref sa),some (.ref b0),some (.ref t),some (.ref p),some (.ref p2),some (.ref lv),u6,u7,none,none,none,none,none,none]/\(∃xs,HH lv=some (.lst xs)/\Paired (Ds HH) xs (up (gtX loops) k))/\Same H6 HH) ⟨_,_,rfl,⟨[],Ab,.nil⟩,s7⟩ (λk σ HH hk h=>?_) (fun σ HH h=>?_)
 ·obtain⟨u6,u7,rfl,⟨xs,a1,a2⟩,sm⟩:=h
  have smP:Same H1 HH:=((s3.trans s5).trans s6).trans sm
  have hwk:vs[k]?=some vs[k]:=Qak hk
  obtain⟨ps,hps,tp,vs',ev,ht,hpp⟩:=Paired.Cq e3 hwk
  have lv':=QbS hpp
  have l12:=(ok.ok ps (QaE hps)).hi
  have hkl:k < loops.length:=by omega
  have egt:gtX loops k=[⟨(k:Int),0⟩,⟨(k:Int),(ps.length:Int)+1⟩]++up (gt1 k ps) ps.length:=Dh hps
  have Sv:atI vs ((0:Int)+(k:Int))=some (.ref tp):=by rw[Qch];exact Ge (by rw[hwk,ev])
  have lx:=QbS a2
  have l42:=o200 k (by omega)
  have lgt:(up (gt1 (k:Int) ps) ps.length).length<=12:=by
   have:=Dp (f:=gt1 (k:Int) ps) (c:=1) Od ps.length
   omega
  refine⟨_,rfl,t,_,_,_,rfl,rfl,SqT.of (smP _ _ e1),rfl,_,rfl,Ls,_,_,_,rfl,rfl,SqT.of (smP _ _ e2),Sv,?_⟩
  refine⟨_,rfl,.inl ⟨rfl,_,SqL.of a1⟩,_,rfl,Av (by show 2<=1000;decide),λta hta=>?_⟩
  rw[Qch]
  have b1:=Af hta (.tup [.int (k:Int),.int 0])
  refine⟨_,rfl,_,rfl,tp,_,rfl,.inr (SqT.of (b1 _ _ (smP _ _ ht))),_,_,rfl,rfl,Av (by show 2<=1000;decide),λtb htb=>?_⟩
  rw[lv']
  have b2:=Af htb (.tup [.int (k:Int),.int ((ps.length:Int)+1)])
  refine⟨Av (by show 2<=1000;decide),λl2 hl2=>?_⟩
  have b3:=Af hl2 (.lst [.ref ta,.ref tb])
  have b13:=b1.trans (b2.trans b3)
  have nl2:lv≠l2:=Ar (b2 _ _ (b1 _ _ a1)) hl2
  refine⟨lv,l2,_,_,rfl,rfl,b13 _ _ a1,Ab,Av (by show xs.length+2<=1000;omega),?_⟩
  have vP:=b3 _ _ (b2 _ _ (Ab (H:=HH) (a:=ta) (o:=.tup [.int (k:Int),.int 0])))
  have vO:=b3 _ _ (Ab (H:=upd HH ta (.tup [.int (k:Int),.int 0])) (a:=tb) (o:=.tup [.int (k:Int),.int ((ps.length:Int)+1)]))
  have a13:=b13 _ _ a1
  generalize upd (upd (upd HH ta (.tup [.int (k:Int),.int 0])) tb (.tup [.int (k:Int),.int ((ps.length:Int)+1)])) l2 (.lst [.ref ta,.ref tb])=HB at *
  have ntl:∀zs,HB lv≠some (.tup zs):=λzs z=>by rw[a13] at z;cases z
  have sL:=Ao.upd (o:=.lst (xs++[.ref ta,.ref tb])) ntl
  have p2':Paired (Ds (upd HB lv (.lst (xs++[.ref ta,.ref tb])))) (xs++[.ref ta,.ref tb]) (up (gtX loops) k++[⟨(k:Int),0⟩,⟨(k:Int),(ps.length:Int)+1⟩]):=Paired.app (Paired.Az a2 λ_ _ z=>(z.tups (Ao.of b13)).tups sL) (.cons ⟨ta,rfl,sL _ _ vP⟩ (.cons ⟨tb,rfl,sL _ _ vO⟩ .nil))
  have hl2':(upd HB lv (.lst (xs++[.ref ta,.ref tb]))) lv=some (.lst (xs++[.ref ta,.ref tb])):=Ab
  have sm2:Same H6 (upd HB lv (.lst (xs++[.ref ta,.ref tb]))):=(sm.trans b13).Bj Ah.upd hlv
  generalize upd HB lv (.lst (xs++[.ref ta,.ref tb]))=H2 at *
  clear b1 b2 b3 b13 vP vO a13 ntl sL hta htb hl2 nl2 smP
  have smQ:Same H1 H2:=((s3.trans s5).trans s6).trans sm2
  refine⟨_,rfl,.inl ⟨rfl,_,SqL.of hl2'⟩,_,rfl,tp,_,rfl,.inr (SqT.of (smQ _ _ ht)),_,rfl,by omega,by omega,λlc hlc=>?_⟩
  rw[Qbh]
  refine Jx (λi σ HY=>(∃u,σ=[u,some (.int (k:Int)),some (.ref tp)])/\(∃ys,HY lc=some (.lst ys)/\Paired (Ds HY) ys (up (gt1 (k:Int) ps) i)/\ys.length<=i)/\Same H2 HY) ⟨⟨_,rfl⟩,⟨[],Ab,.nil,Qck _⟩,Af hlc _⟩ (λi σ HY hi h=>?_) (fun σ HY h=>?_)
  ·obtain⟨⟨u,rfl⟩,⟨ys,g1,g2,g4⟩,g3⟩:=h
   have hvi:vs'[i]?=some vs'[i]:=Qak hi
   obtain⟨pp,hp',tq,up',wsp,ep,hpt,hpu,hpd⟩:=Paired.Cq hpp hvi
   have CL:atI vs' ((0:Int)+(i:Int))=some (.ref tq):=by rw[Qch];exact Ge (by rw[hvi,ep])
   have eg1:gt1 (k:Int) ps i=if V.str pp.kind=V.str "opener" then [⟨(k:Int),((1+i:Nat):Int)⟩] else []:=Dh hp'
   have s2:=smQ.trans g3
   refine⟨_,rfl,_,rfl,tp,_,_,_,rfl,rfl,SqT.of (s2 _ _ ht),CL,tq,_,_,_,rfl,rfl,SqT.of (s2 _ _ hpt),rfl,rfl,_,rfl,?_⟩
   by_cases hop:V.str pp.kind=V.str "opener"
   ·rw[QbN hop]
    refine BZ ⟨_,rfl,_,rfl,_,_,rfl,rfl,Av (by show 2<=1000;decide),λtk htk=>?_⟩
    rw[Qch]
    have c1':=Af htk (.tup [.int (k:Int),.int ((i:Int)+1)])
    have g1':=c1' _ _ g1
    have ntc:∀zs,(upd HY tk (.tup [.int (k:Int),.int ((i:Int)+1)])) lc≠some (.tup zs):=λzs z=>by rw[g1'] at z;cases z
    have sC:=Ao.upd (o:=.lst (ys++[.ref tk])) ntc
    refine⟨ys,g1',Aq (by omega),⟨_,rfl⟩,⟨_,Ab,?_,by rw[QaP];show _+1<=_;omega⟩,(g3.trans c1').Bj Ah.upd hlc⟩
    rw[Dj,eg1,if_pos hop]
    refine Qcm ⟨tk,rfl,?_⟩ (Paired.Az g2 λ_ _ z=>(z.tups (Ao.of c1')).tups sC)
    rw[sC _ _ Ab]
    show _=some (HO.tup [.int (k:Int),.int ((1+i:Nat):Int)])
    rw[show ((1+i:Nat):Int)=(i:Int)+1 by omega]
   ·rw[QbB hop]
    refine Cp ⟨⟨_,rfl⟩,⟨ys,g1,?_,by omega⟩,g3⟩
    rw[Dj,eg1,if_neg hop,QbC]
    exact g2
  obtain⟨_,⟨ys,g1,g2,g4⟩,g3⟩:=h
  rw[lv'] at g2
  have hlY:=g3 _ _ hl2'
  refine⟨lv,lc,_,_,rfl,rfl,hlY,g1,Av (by rw[QaP];show _+2+_<=_;omega),?_⟩
  have ntY:∀zs,HY lv≠some (.tup zs):=λzs z=>by rw[hlY] at z;cases z
  have sY:=Ao.upd (o:=.lst ((xs++[.ref ta,.ref tb])++ys)) ntY
  refine⟨_,_,rfl,⟨_,Ab,?_⟩,(sm2.trans g3).Bj Ah.upd hlv⟩
  rw[Dj,egt,<-Qbf]
  exact Paired.app (Paired.Az p2' λ_ _ z=>(z.tups (Ao.of g3)).tups sY) (Paired.Az g2 λ_ _ z=>z.tups sY)
 obtain⟨u6,u7,rfl,⟨xv,hv7,pv7⟩,s67⟩:=h
 rw[lw] at pv7
 have s57:=s6.trans s67
 refine⟨_,rfl,t,most,loops,zones,rfl,pa5.same s57,λlw' xw H8 fw hw pw s8=>?_⟩
 have s58:=s57.trans s8
 have nwb:lw'≠b0:=((hb5.same s57).nb fw).symm
 have LS0:LS C H8 ⟨b0,p,t,d1,d2,d3,p2,c1,c2,c3,lv,lw'⟩ 3000 ⟨most,loops,zones,hs0 loops,fl0 loops,gs0 loops,gs0 loops⟩:=by
  have cn:=pa.pok.cnt.2
  have la:(up (pdL loops) loops.length).length=(Cj loops).length:=by rw[<-Je loops,Qbx]
  refine⟨(hb5.same s58).mono (by omega),W15.same s58,W2.same s58,pa5.same s58,⟨xv,s8 _ _ hv7,Paired.Az pv7 λ_ _ z=>z.tups (Ao.of s8)⟩,⟨xw,hw,pw⟩,nvb,nwb,n12,m12,x1,x3,x2,bV loops,Vr loops,Vr loops,?_,?_⟩
  ·dsimp only
   rw[cD]
   intro s hs
   obtain⟨x,hx,rfl⟩:=Qcc.mp hs
   exact wH ok x hx
  ·dsimp only
   unfold fl0
   rw[Qbx]
   omega
 have sH8:=sH5.trans s58
 clear hv7 pv7 hw pw fw s8 s57 s58 W15 W2 pa3 pa5 hb5 W1
 have hl':(ns.map V.int).length=ns.length:=Qbx _
 refine⟨_,rfl,sa,_,rfl,.inl (sH8.seq hS),_,_,rfl,_,_,rfl,_,rfl,?_,?_,?_⟩
 ·rw[hl'];split <;> split <;> omega
 ·rw[hl'];split <;> split <;> omega
 refine Dk (λi σ HH=>∃(u1 u6 u7 u9 u10 u11 u12 u13:Option V) (b:Addr) (hs:YR) (gs g2:YT),σ=[some (.ref sa),u1,some (.ref t),some (.ref p),some (.ref p2),some (.ref lv),u6,u7,some (.ref lw'),u9,u10,u11,u12,u13]/\LS C HH ⟨b,p,t,d1,d2,d3,p2,c1,c2,c3,lv,lw'⟩ 3000 ⟨most,loops,zones,hs,fl0 loops,gs,g2⟩/\Same H HH) ⟨_,_,_,_,_,_,_,_,b0,_,_,_,rfl,LS0,sH8⟩ (λi σ HH hi h=>?_) (fun σ HH h=>?_)
 ·obtain⟨u1,u6,u7,u9,u10,u11,u12,u13,bp,hs,gs,g2,rfl,L,sm⟩:=h
  rw[hl'] at hi
  have hi':(i:Int)<=100:=by
   revert hi
   split <;> split <;> omega
  refine⟨_,rfl,_,rfl,sa,ns,_,rfl,sm.seq hS,h63,by omega,by omega,λb o hbn v7=>?_⟩
  have s7:=Af hbn o
  have L7:=L.vm s7 hbn v7
  have fb:H b=none:=sm.free hbn
  have sm7:=sm.trans s7
  generalize upd HH b o=H7 at *
  clear L s7 hbn v7 sm LS0 sH8
  refine⟨_,rfl,b,_,8,rfl,L7.bag,by omega,by decide,by decide,λr H9 r0 r1 hb9 sb9=>?_⟩
  have L9:=L7.drawn sb9 hb9
  have sm9:Same H H9:=sm7.Bj sb9 fb
  clear L7 sm7 sb9 hb9
  refine⟨_,_,rfl,rfl,_,rfl,by omega,by omega,?_⟩
  generalize hrn:(1+r).toNat=rn
  have Go:rn<=8:=by omega
  refine Dk (λj σ HX=>∃(u10 u11 u12:Option V) (hs:YR),σ=[some (.ref sa),some (.ref b),some (.ref t),some (.ref p),some (.ref p2),some (.ref lv),u6,u7,some (.ref lw'),some (.int (0+(i:Int))),u10,u11,u12,u13]/\LS C HX ⟨b,p,t,d1,d2,d3,p2,c1,c2,c3,lv,lw'⟩ (1+2*j) ⟨most,loops,zones,hs,fl0 loops,gs,g2⟩/\Same H HX) ⟨_,_,_,_,rfl,L9,sm9⟩ (λj σ HX hj h=>?_) (fun σ HX h=>?_)
  ·obtain⟨u10,u11,u12,hs,rfl,L,sm⟩:=h
   clear L9 sm9
   refine λdh hdh=>?_
   have k1:=Af hdh (.dT [])
   have hdX:(upd HX dh (.dT [])) dh=some (.dT []):=Ab
   have neD:∀c o,HX c=some o->c≠dh:=λc o e z=>by rw[z,hdh] at e;cases e
   generalize upd HX dh (.dT [])=HX1 at *
   have L1:=L.same k1
   obtain⟨xw1,y1,y2⟩:=L1.wn
   rw[<-L1.k1] at y2
   obtain⟨kvd,fd2,_⟩:=L.w1.fi
   obtain⟨kve,fe2,_⟩:=L.w2.fi
   obtain⟨dxp,fp⟩:=L.w1.ins
   obtain⟨dxq,fq⟩:=L.w2.ins
   refine⟨_,rfl,_,rfl,_,rfl,_,rfl,b,_,p,t,d1,d2,d3,dh,lw',hs,fl0 loops,gs,[],rfl,L1.bag,by omega,L1.w1,n12,hdX,by decide,⟨(neD _ _ L.w1.st).symm,(neD _ _ fd2).symm,(neD _ _ L.w1.gp).symm⟩,⟨xw1,y1,y2⟩,L1.nbw,L1.hs1,λs z H' sIn hz hb' W' hd' ts fr=>?_⟩
   rw[show putK ([]:YL) (k3 s) (.str z)=[(k3 s,.str z)] from rfl] at hd'
   have frX:∀c o,HX c=some o->c≠b->c≠d1->H' c=some o:=λc o e n1 n2=>fr c o (k1 _ _ e) n1 n2 (neD _ _ e)
   have tsX:Ao HX H':=(Ao.of k1).trans ts
   obtain⟨⟨m0,m1,m2,m3⟩,m4,m5,m6,m7⟩:=L.nbW
   obtain⟨v1,v2,v3⟩:=L.nl L.w1.st
   have nq1:p2≠d1:=L.w2.np L.w1.st
   have W2':WAt C H' p2 t c1 c2 c3 hs (fl0 loops) g2:=L.w2.fr tsX (λo e=>frX _ _ e m4 nq1) (λo e=>frX _ _ e m5 x1.1.symm) (λo e=>frX _ _ e m6 x1.2.1.symm) (λo e=>frX _ _ e m7 x1.2.2.symm)
   obtain⟨xg,gg1,_⟩:=L.gv
   obtain⟨xn,gn1,_⟩:=L.wn
   refine⟨_,rfl,dh,_,rfl,hd',λfo=>?_⟩
   have ntD:∀zs,H' dh≠some (.tup zs):=λzs e=>by rw[hd'] at e;cases e
   have tF:=Ao.upd (o:=.frz fo (.dT [(k3 s,.str z)])) ntD
   have fh:H dh=none:=sm.free hdh
   refine su (λi' σ HZ=>(∃u12,σ=[some (.ref sa),some (.ref b),some (.ref t),some (.ref p),some (.ref p2),some (.ref lv),u6,u7,some (.ref lw'),some (.int (0+(i:Int))),some (.int (0+(j:Int))),some (.ref dh),u12,u13])/\HZ dh=some (.frz fo (.dT [(k3 s,.str z)]))/\WAt C HZ p t d1 d2 d3 (G3 hs s z) (fl0 loops) gs/\WAt C HZ p2 t c1 c2 c3 (if i'=0 then hs else G3 hs s z) (fl0 loops) g2/\Bk HZ b (1+2*j+2)/\Ao HX HZ/\∀c o,HX c=some o->c≠b->c≠d1->c≠c1->HZ c=some o) ?_ (λi' σ HZ _ h=>h.2.1) (λi' kv b2 σ HZ hkv h hb2=>?_) (fun σ HZ h=>?_)
   ·refine⟨⟨_,rfl⟩,Ab,W'.Ce Ah.upd ntD (neD _ _ fp) (neD _ _ L.w1.st) (neD _ _ fd2) (neD _ _ L.w1.gp),W2'.Ce Ah.upd ntD (neD _ _ fq) (neD _ _ L.w2.st) (neD _ _ fe2) (neD _ _ L.w2.gp),?_,tsX.trans tF,λc o e n1 n2 _=>?_⟩
    ·obtain⟨_,_,_,eb,_⟩:=L.bag
     exact hb'.Ce Ah.upd (neD _ _ eb)
    ·rw[Al (neD _ _ e)];exact frX _ _ e n1 n2
   ·obtain⟨⟨yV,rfl⟩,zf,zw1,zw2,zb,zt,zfr⟩:=h
    have i0:i'=0:=by
     have:=(Qag.mp hkv).1
     simp at this
     exact this
    subst i0
    have ekv:(k3 s,V.str z)=kv:=by simpa using hkv
    subst ekv
    rw[if_pos rfl] at zw2
    have hb2:HZ b2=some (.tup [.int s.lp,.int s.at_,.int s.n]):=hb2
    have dg:Dn HZ dh (.ref b2) (some (.str z)):=.inr ⟨[(k3 s,.str z)],k3 s,b2,.inr ⟨fo,zf⟩,rfl,hb2,(Ip (p:=(k3 s,V.str z)) rfl).symm⟩
    obtain⟨dz,hq⟩:=zw2.ins
    have nt1:∀zs,HZ c1≠some (.tup zs):=λzs e=>by rw[zw2.st] at e;cases e
    obtain⟨kz,fz2,_⟩:=zw2.fi
    have key:∀H6,WAt C H6 p2 t c1 c2 c3 (G3 hs s z) (fl0 loops) g2->Ah c1 HZ H6->(∃u12,[some (V.ref sa),some (.ref b),some (.ref t),some (.ref p),some (.ref p2),some (.ref lv),u6,u7,some (.ref lw'),some (.int (0+(i:Int))),some (.int (0+(j:Int))),some (.ref dh),some (.ref b2),u13]=[some (.ref sa),some (.ref b),some (.ref t),some (.ref p),some (.ref p2),some (.ref lv),u6,u7,some (.ref lw'),some (.int (0+(i:Int))),some (.int (0+(j:Int))),some (.ref dh),u12,u13])/\H6 dh=some (.frz fo (.dT [(k3 s,.str z)]))/\WAt C H6 p t d1 d2 d3 (G3 hs s z) (fl0 loops) gs/\WAt C H6 p2 t c1 c2 c3 (if 0+1=0 then hs else G3 hs s z) (fl0 loops) g2/\Bk H6 b (1+2*j+2)/\Ao HX H6/\∀c o,HX c=some o->c≠b->c≠d1->c≠c1->H6 c=some o:=λH6 W6 sB=>by
     refine⟨⟨_,rfl⟩,sB _ _ zf (neD _ _ L.w2.st).symm,zw1.Ce sB nt1 (zw1.np zw2.st) x1.1 x2.1 x3.1,by rw[if_neg (by decide)];exact W6,zb.Ce sB m5.symm,zt.trans (sB.tup nt1),λc o e n1 n2 n3=>sB _ _ (zfr c o e n1 n2 n3) n3⟩
    have lW:s∈hs.map (·.1):=sIn
    unfold Fe
    dsimp only
    refine⟨_,rfl,_,rfl,dh,_,rfl,dg,rfl,_,rfl,JT (λh=>?_) (λh=>⟨_,rfl,_,rfl,dh,_,rfl,dg,rfl,_,rfl,JT (λh2=>?_) (λh2=>?_)⟩)⟩
    ·have ez:z="cut":=V.str.inj (Qbl h)
     subst ez
     exact⟨_,rfl,p2,dz,_,rfl,hq,fno (by trivial),_,rfl,p2,t,c1,c2,c3,hs,fl0 loops,g2,b2,s,rfl,zw2,m12,hb2,lW,λH6 W6 sB=>key H6 W6 sB⟩
    ·have ez:z="short":=V.str.inj (Qbl h2)
     subst ez
     exact⟨_,rfl,p2,dz,_,rfl,hq,fno (by trivial),_,rfl,p2,t,c1,c2,c3,hs,fl0 loops,g2,b2,s,rfl,zw2,m12,hb2,lW,λH6 W6 sB=>key H6 W6 sB⟩
    ·have ez:z="whole":=by
      rcases hz with e | e | e
      ·exact absurd (by rw[e]) (of_decide_eq_false h2)
      ·exact absurd (by rw[e]) (of_decide_eq_false h)
      ·exact e
     subst ez
     exact⟨_,rfl,p2,dz,_,rfl,hq,fno (by trivial),_,rfl,p2,t,c1,c2,c3,hs,fl0 loops,g2,b2,s,rfl,zw2,m12,hb2,lW,λH6 W6 sB=>key H6 W6 sB⟩
   ·obtain⟨⟨yV,rfl⟩,zf,zw1,zw2,zb,zt,zfr⟩:=h
    have zw2:WAt C HZ p2 t c1 c2 c3 (G3 hs s z) (fl0 loops) g2:=zw2
    refine⟨dh,fo,_,zf,(λo' u e=>by have e:H dh=_:=e;rw[fh] at e;cases e),?_⟩
    have ntZ:∀zs,HZ dh≠some (.tup zs):=λzs e=>by rw[zf] at e;cases e
    have tZ:=Ao.upd (o:=.dT [(k3 s,.str z)]) ntZ
    obtain⟨_,_,_,eb,_⟩:=id L.bag
    obtain⟨y1',y2',y3'⟩:=L.nl L.w2.st
    have LN:=L.moved (n':=1+2*j+2) (zt.trans tZ) (zw1.Ce Ah.upd ntZ (neD _ _ fp) (neD _ _ L.w1.st) (neD _ _ fd2) (neD _ _ L.w1.gp)) (zw2.Ce Ah.upd ntZ (neD _ _ fq) (neD _ _ L.w2.st) (neD _ _ fe2) (neD _ _ L.w2.gp)) (zb.Ce Ah.upd (neD _ _ eb)) (λo e=>by rw[Al (neD _ _ e)];exact zfr _ _ e L.nbv v1 y1') (λo e=>by rw[Al (neD _ _ e)];exact zfr _ _ e L.nbw v2 y2') (XF _ _ _) rfl rfl
    refine⟨_,_,_,G3 hs s z,rfl,LN.mono (by omega),λc o e=>?_⟩
    have e':=sm _ _ e
    rw[Al (neD _ _ e')]
    exact zfr _ _ e' (Ar e fb) (Ar e fd1) (Ar e fc1)
  obtain⟨u10,u11,u12,hs,rfl,L,sm⟩:=h
  clear L9 sm9
  have L:=L.mono (n':=100) (by omega)
  have nd:=L.w1.nd3
  refine⟨_,rfl,by decide,by decide,?_⟩
  rw[show (2:Int).toNat=2 from rfl]
  refine Dk (λj σ HY=>∃(u10 u13:Option V) (gs':YT),σ=[some (.ref sa),some (.ref b),some (.ref t),some (.ref p),some (.ref p2),some (.ref lv),u6,u7,some (.ref lw'),some (.int (0+(i:Int))),u10,u11,u12,u13]/\LS C HY ⟨b,p,t,d1,d2,d3,p2,c1,c2,c3,lv,lw'⟩ (100+100*j) ⟨most,loops,zones,hs,fl0 loops,gs',g2⟩/\Same H HY/\(j=0->gs'=gs)/\(j=1->∃M,(∀g,g∈M ↔ g∈gs.map (·.1))/\gs'=DX hs gs M)/\(j=2->gs'=CJ hs gs)) ⟨_,_,gs,rfl,L,sm,(λ_=>rfl),(λe=>by cases e),λe=>by cases e⟩ (λj σ HY hj h=>?_) (fun σ HY h=>?_)
  ·obtain⟨u10,u13,gs',rfl,LY,smY,j0,j1,_⟩:=h
   clear L sm
   obtain⟨xg,gv1,gv2⟩:=LY.gv
   have lxg:xg.length=(up (gtX loops) loops.length).length:=QbS gv2
   have l42:=o200 loops.length (Qck _)
   refine⟨_,rfl,_,rfl,b,lv,_,xg,rfl,LY.bag,gv1,LY.nbv,by omega,by omega,λlo ys H' flo hlo perm hb' sB=>?_⟩
   have L2:=LY.drawn sB hb'
   have sm2:Same H H':=smY.Bj sB fb
   obtain⟨M,mp,pY⟩:=ZL perm (Paired.Az gv2 λ_ _ z=>z.tups (sB.tup LY.bag.Gh))
   have lM:=QbS pY
   have hM:∀g,g∈M ↔ g∈gs'.map (·.1):=λg=>by rw[mp.mem_iff,LY.k3];exact rO
   have kgs:gs'.map (·.1)=gs.map (·.1):=by
    have:=LY.k3
    rcases (show j=0\/j=1 by omega) with e | e
    ·rw[j0 e]
    ·obtain⟨M',_,e'⟩:=j1 e
     rw[e',Hf]
   have ndg:(gs'.map (·.1)).Nodup:=LY.w1.nd3
   have nlo:lo≠d3:=λz=>by rw[z,LY.w1.gp] at flo;cases flo
   refine⟨lo,rfl,⟨_,SqL.of hlo⟩,?_⟩
   refine Mu (xs:=ys) (λm σ HZ=>(∃u13,σ=[some (.ref sa),some (.ref b),some (.ref t),some (.ref p),some (.ref p2),some (.ref lv),u6,u7,some (.ref lw'),some (.int (0+(i:Int))),some (.int (0+(j:Int))),u11,u12,u13])/\LS C HZ ⟨b,p,t,d1,d2,d3,p2,c1,c2,c3,lv,lw'⟩ (100+100*j+xg.length) ⟨most,loops,zones,hs,fl0 loops,DX hs gs' (M.take m),g2⟩/\Ah d3 H' HZ/\Same H HZ) ⟨⟨_,rfl⟩,L2,Ah.of (Same.refl _),sm2⟩ (λm σ HZ _ h=>SqL.of (h.2.2.1 _ _ hlo nlo)) (λm x σ HZ hx h=>?_) (fun σ HZ h=>?_)
   ·obtain⟨⟨yU,rfl⟩,LZ,sB3,smZ⟩:=h
    obtain⟨g,hg,bt,rfl,hbt⟩:=Paired.Cq pY hx
    obtain⟨dz,hpz⟩:=LZ.w1.ins
    have nt3:∀zs,H' d3≠some (.tup zs):=λzs e=>by rw[L2.w1.gp] at e;cases e
    have k6:=Hf hs (M.take m) gs'
    unfold Fe
    dsimp only
    refine⟨_,rfl,p,dz,_,rfl,hpz,fno (by trivial),_,rfl,p,t,d1,d2,d3,hs,fl0 loops,_,bt,g,rfl,LZ.w1,LZ.bs,Xa ok LZ.k3,(sB3.tup nt3) _ _ hbt,by rw[k6];exact (hM g).mp (QaE hg),λH8 W8 sB8=>⟨⟨_,rfl⟩,?_,sB3.trans sB8,smZ.Bj sB8 fd3⟩⟩
    rw[Qcs hg,S9]
    exact LZ.FL W8 sB8 (JF _ _ _)
   ·obtain⟨⟨yU,rfl⟩,LZ,sB3,smZ⟩:=h
    rw[lM,Qbo] at LZ
    refine⟨_,_,DX hs gs' M,rfl,LZ.mono (by omega),smZ,(λe=>by omega),(λe=>?_),λe=>?_⟩
    ·have:j=0:=by omega
     have e0:=j0 this
     rw[e0] at hM ⊢
     exact⟨M,hM,rfl⟩
    ·have:j=1:=by omega
     obtain⟨M',hM',e'⟩:=j1 this
     rw[e']
     rw[kgs] at hM
     exact cQ nd hM' hM
  obtain⟨u10,u13,gs',rfl,LY,smY,_,_,j2⟩:=h
  have ers:=j2 rfl
  subst ers
  clear L sm j2
  obtain⟨dq,hq⟩:=LY.w2.ins
  refine⟨_,rfl,p2,dq,_,rfl,hq,fno (by trivial),p2,t,c1,c2,c3,hs,fl0 loops,g2,rfl,LY.w2,LY.bs,Xa ok LY.k4,λlr xr H9 flr hlr _ W9 sB9=>?_⟩
  have er:CJ hs g2=CJ hs gs:=qL (by rw[show g2.map (·.1)=_ from LY.k4,<-Km hs gs,show (CJ hs gs).map (·.1)=_ from LY.k3])
  rw[er] at W9
  have L9:=LY.act2 W9 sB9 (by rw[show g2.map (·.1)=_ from LY.k4,show (CJ hs gs).map (·.1)=_ from LY.k3])
  have sm9:Same H H9:=smY.Bj sB9 fc3
  have L9:LS C H9 ⟨b,p,t,d1,d2,d3,p2,c1,c2,c3,lv,lw'⟩ 300 ⟨most,loops,zones,hs,fl0 loops,CJ hs gs,CJ hs gs⟩:=L9
  clear LY smY W9 sB9 hq flr hlr
  have hrest:Tt hs (CJ hs gs)=true:=dG nd
  generalize CJ hs gs=rg at *
  obtain⟨dp,hp⟩:=L9.w1.ins
  refine⟨_,rfl,p,dp,_,rfl,hp,fno (by trivial),p,t,d1,d2,d3,hs,fl0 loops,rg,rfl,L9.w1,L9.bs,Xa ok L9.k3,λH10 s10=>⟨_,rfl,?_⟩⟩
  rw[hrest]
  have L10:=L9.same s10
  obtain⟨dq,hq⟩:=L10.w2.ins
  refine Cp ⟨_,rfl,p2,dq,_,rfl,hq,fno (by trivial),p2,t,c1,c2,c3,hs,fl0 loops,rg,rfl,L10.w2,L10.bs,Xa ok L10.k4,λH11 s11=>⟨_,rfl,?_⟩⟩
  rw[hrest]
  have L11:=L10.same s11
  obtain⟨dp1,hp1⟩:=L11.w1.ins
  refine Cp ⟨_,rfl,p,dp1,_,rfl,hp1,fno (by trivial),p,t,d1,d2,d3,hs,fl0 loops,rg,rfl,L11.w1,λla xa H12 fla hla pla s12=>?_⟩
  have L12:=L11.same s12
  obtain⟨dq1,hq1⟩:=L12.w2.ins
  refine⟨_,rfl,p2,dq1,_,rfl,hq1,fno (by trivial),p2,t,c1,c2,c3,hs,fl0 loops,rg,rfl,L12.w2,λlb xb H13 flb hlb plb s13=>?_⟩
  have L13:=L12.same s13
  have pU:Paired (Ds H13) xa ((rg.filter (·.2)).map (·.1)):=Paired.Az pla λ_ _ z=>z.tups (Ao.of s13)
  refine⟨_,_,.lst (s13 _ _ hla) (Sw pU),.lst hlb (Sw plb),O2 _,O2 _,_,rfl,?_⟩
  rw[SeqAt.eqv_refl _ (SeqAt.canLay_of_shaped (O2 _))]
  refine Cp ?_
  have zE:=sm9.trans (s10.trans (s11.trans (s12.trans s13)))
  clear L9 L10 L11 L12 sm9 s10 s11 s12 s13 hla hlb pla plb pU fla flb hp hq hp1 hq1
  obtain⟨Ls',zs',ws',F7,q1,q2,q3,q4,q5⟩:=L13.pa.at_
  have lq:=QbS q3
  have lq:ws'.length=loops.length:=lq
  refine⟨_,rfl,t,_,_,_,rfl,rfl,SqT.of q1,rfl,Ls',_,rfl,.inr (SqT.of q2),_,rfl,by omega,by omega,?_⟩
  rw[Qbh]
  refine Dk (λk σ HH=>∃(u6:Option V),σ=[some (.ref sa),some (.ref b),some (.ref t),some (.ref p),some (.ref p2),some (.ref lv),u6,u7,some (.ref lw'),some (.int (0+(i:Int))),u10,u11,u12,u13]/\LS C HH ⟨b,p,t,d1,d2,d3,p2,c1,c2,c3,lv,lw'⟩ 300 ⟨most,loops,zones,hs,fl0 loops,rg,rg⟩/\Same H HH) ⟨_,rfl,L13,zE⟩ (λk σ HK hk h=>?_) (fun σ HK h=>?_)
  ·obtain⟨u6',rfl,LK,smK⟩:=h
   have hkl:k < loops.length:=by omega
   have hps:loops[k]?=some loops[k]:=Qak hkl
   rw[Qch]
   refine⟨Av (by show 2<=1000;decide),λta hta=>?_⟩
   have a1:=Af hta (.tup [.str "A",.str "B"])
   refine⟨ta,rfl,⟨_,SqT.of Ab⟩,λlc hlc=>?_⟩
   have a2:=Af hlc (.lst [])
   refine V4 (H0:=HK) (f:=Rf hs rg (fl0 loops) k loops[k].length) (a2 _ _ Ab) Ab (a1.free hlc) (a1.trans a2) (λe HX R sX hR=>?_) (λvs1 H21 v1 v2 s21=>?_)
   ·have LX:=LK.same sX
    obtain⟨dxx,hpx⟩:=LX.w1.ins
    exact⟨_,rfl,p,dxx,_,rfl,hpx,fno (by trivial),_,rfl,_,rfl,p,t,d1,d2,d3,hs,fl0 loops,rg,most,loops,zones,k,loops[k],e,rfl,LX.w1,LX.pa,hps,LX.bs,LX.bf,LX.l30,by rw[show rg.map (·.1)=_ from LX.k3];exact LX.gate hps e,λl xs Lh H' fl hl hp' perm rise s'=>hR l xs H' fl hl (by rw[<-bW perm rise];exact hp') s'⟩
   refine⟨Av (by show 2<=1000;decide),λtb htb=>?_⟩
   have a3:=Af htb (.tup [.str "A",.str "B"])
   refine⟨tb,rfl,⟨_,SqT.of Ab⟩,λld hld=>?_⟩
   have a4:=Af hld (.lst [])
   refine V4 (H0:=H21) (f:=Rf hs rg (fl0 loops) k loops[k].length) (a4 _ _ Ab) Ab (a3.free hld) (a3.trans a4) (λe HX R sX hR=>?_) (λvs2 H22 v3 v4 s22=>?_)
   ·have LX:=LK.same (s21.trans sX)
    obtain⟨dxx,hpx⟩:=LX.w2.ins
    exact⟨_,rfl,p2,dxx,_,rfl,hpx,fno (by trivial),_,rfl,_,rfl,p2,t,c1,c2,c3,hs,fl0 loops,rg,most,loops,zones,k,loops[k],e,rfl,LX.w2,LX.pa,hps,LX.bs,LX.bf,LX.l30,by rw[show rg.map (·.1)=_ from LX.k4];exact LX.gate hps e,λl xs Lh H' fl hl hp' perm rise s'=>hR l xs H' fl hl (by rw[<-bW perm rise];exact hp') s'⟩
   have v2':Paired (Kh lc H22) vs1 [Rf hs rg (fl0 loops) k loops[k].length "A",Rf hs rg (fl0 loops) k loops[k].length "B"]:=Paired.Az v2 λ_ _ z=>z.same s22
   refine⟨_,_,.lst (s22 _ _ v1) (O1 v2'),.lst v3 (O1 v4),Nz _,Nz _,_,rfl,?_⟩
   rw[SeqAt.eqv_refl _ (SeqAt.canLay_of_shaped (Nz _))]
   exact Cp ⟨_,rfl,LK.same (s21.trans s22),smK.trans (s21.trans s22)⟩
  ·obtain⟨u6',rfl,LK,smK⟩:=h
   exact⟨_,_,_,_,_,_,_,_,b,hs,rg,rg,rfl,LK.mono (by omega),smK⟩
 ·exact q HH
end
structure FnI (K:YD) (x:Str) (st:Stmt):Prop where
 ex:∃(f:Addr) (oc:Value) (od an:Option Addr) (sl:YI) (kV dc pm cd ct:Value),nsIn K mainGlobals x=some (some (.ref f))/\K.lookup f=some ⟨oc,od,.func (fnOf x x (DQ st) (CZ st) (Ak st) .none kV dc pm an cd ct),sl⟩/\codeIn K cd x=true/\keepIn K (.ref f)=true
theorem FnI.of {K:YD} {x:Str} {st:Stmt} {f:Addr} {oc:Value} {od an:Option Addr} {sl:YI} {kV dc pm cd ct:Value} (a:nsIn K mainGlobals x=some (some (.ref f))) (l:K.lookup f=some ⟨oc,od,.func (fnOf x x (DQ st) (CZ st) (Ak st) .none kV dc pm an cd ct),sl⟩) (c:codeIn K cd x=true) (k:keepIn K (.ref f)=true):FnI K x st:=⟨f,oc,od,an,sl,kV,dc,pm,cd,ct,a,l,c,k⟩
theorem FnI.code {K:YD} {mg:YB} {h:Heap} {x:Str} {st:Stmt} {ps:YF} (I:FnI K x st) (X:K.In h) (G:h.Ns mainGlobals mg) (hb:∀(kV doc pm:Value) (an:Option Addr) (cdv ct:Value) (us:YE),us.length=ps.length->bindArgs (fnOf x x (DQ st) (CZ st) (Ak st) .none kV doc pm an cdv ct) ⟨us,[]⟩=pure (ps.zip us)):Code K mg x st ps:=by
 obtain⟨f,oc,od,an,sl,kV,dc,pm,cd,ct,a,l,c,k⟩:=I.ex
 exact Code.of X G a l c k hb
structure MtI (K:YD) (C:Addr) (x q:Str) (st:Stmt):Prop where
 ex:∃(f:Addr) (oc:Value) (od an:Option Addr) (sl:YI) (kV dc pm cd ct:Value),findIn K (.ref C) x=some (some (.ref f))/\isFn K (.ref f)=true/\K.lookup f=some ⟨oc,od,.func (fnOf x q (DQ st) (CZ st) (Ak st) .none kV dc pm an cd ct),sl⟩/\codeIn K cd q=true/\keepIn K (.ref f)=true
theorem MtI.of {K:YD} {C:Addr} {x q:Str} {st:Stmt} {f:Addr} {oc:Value} {od an:Option Addr} {sl:YI} {kV dc pm cd ct:Value} (a:findIn K (.ref C) x=some (some (.ref f))) (i:isFn K (.ref f)=true) (l:K.lookup f=some ⟨oc,od,.func (fnOf x q (DQ st) (CZ st) (Ak st) .none kV dc pm an cd ct),sl⟩) (c:codeIn K cd q=true) (k:keepIn K (.ref f)=true):MtI K C x q st:=⟨f,oc,od,an,sl,kV,dc,pm,cd,ct,a,i,l,c,k⟩
theorem MtI.code {K:YD} {C:Addr} {x q:Str} {st:Stmt} {ps:YF} (I:MtI K C x q st) (hb:∀(kV doc pm:Value) (an:Option Addr) (cdv ct:Value) (us:YE),us.length=ps.length->bindArgs (fnOf x q (DQ st) (CZ st) (Ak st) .none kV doc pm an cdv ct) ⟨us,[]⟩=pure (ps.zip us)):Im K C x q st ps:=by
 obtain⟨f,oc,od,an,sl,kV,dc,pm,cd,ct,a,i,l,c,k⟩:=I.ex
 have F:=Uo (st:=st) l c k
 exact⟨f,_,F,⟨a,i,k⟩,F.binds hb⟩
theorem MtI.init {K:YD} {C:Addr} {q:Str} {st:Stmt} {ps:YF} (I:MtI K C "__init__" q st) (mk:makesIn K C=true) (kc:keepIn K (.ref C)=true) (hb:∀(kV doc pm:Value) (an:Option Addr) (cdv ct:Value) (us:YE),us.length=ps.length->bindArgs (fnOf "__init__" q (DQ st) (CZ st) (Ak st) .none kV doc pm an cdv ct) ⟨us,[]⟩=pure (ps.zip us)):∃f fd,Fun K "__init__" q st f fd/\Mk K C f/\Binds K fd ps []:=by
 obtain⟨f,oc,od,an,sl,kV,dc,pm,cd,ct,a,i,l,c,k⟩:=I.ex
 have F:=Uo (st:=st) l c k
 exact⟨f,_,F,⟨mk,a,i,kc⟩,F.binds hb⟩
theorem fn1 {F:Value->Value->Value->Option Addr->Value->Value->FuncData} {ps:YF} (hl:ps.length=1) (h:∀kV dc pm an cd ct a0,bindArgs (F kV dc pm an cd ct) ⟨[a0],[]⟩=pure (ps.zip [a0])) (kV dc pm:Value) (an:Option Addr) (cd ct:Value) (us:YE) (hu:us.length=ps.length):bindArgs (F kV dc pm an cd ct) ⟨us,[]⟩=pure (ps.zip us):=by
 rw[hl] at hu
 match us,hu with
 | [a0],_=>exact h kV dc pm an cd ct a0
theorem fn2 {F:Value->Value->Value->Option Addr->Value->Value->FuncData} {ps:YF} (hl:ps.length=2) (h:∀kV dc pm an cd ct a0 a1,bindArgs (F kV dc pm an cd ct) ⟨[a0,a1],[]⟩=pure (ps.zip [a0,a1])) (kV dc pm:Value) (an:Option Addr) (cd ct:Value) (us:YE) (hu:us.length=ps.length):bindArgs (F kV dc pm an cd ct) ⟨us,[]⟩=pure (ps.zip us):=by
 rw[hl] at hu
 match us,hu with
 | [a0,a1],_=>exact h kV dc pm an cd ct a0 a1
theorem fn3 {F:Value->Value->Value->Option Addr->Value->Value->FuncData} {ps:YF} (hl:ps.length=3) (h:∀kV dc pm an cd ct a0 a1 a2,bindArgs (F kV dc pm an cd ct) ⟨[a0,a1,a2],[]⟩=pure (ps.zip [a0,a1,a2])) (kV dc pm:Value) (an:Option Addr) (cd ct:Value) (us:YE) (hu:us.length=ps.length):bindArgs (F kV dc pm an cd ct) ⟨us,[]⟩=pure (ps.zip us):=by
 rw[hl] at hu
 match us,hu with
 | [a0,a1,a2],_=>exact h kV dc pm an cd ct a0 a1 a2
theorem fn4 {F:Value->Value->Value->Option Addr->Value->Value->FuncData} {ps:YF} (hl:ps.length=4) (h:∀kV dc pm an cd ct a0 a1 a2 a3,bindArgs (F kV dc pm an cd ct) ⟨[a0,a1,a2,a3],[]⟩=pure (ps.zip [a0,a1,a2,a3])) (kV dc pm:Value) (an:Option Addr) (cd ct:Value) (us:YE) (hu:us.length=ps.length):bindArgs (F kV dc pm an cd ct) ⟨us,[]⟩=pure (ps.zip us):=by
 rw[hl] at hu
 match us,hu with
 | [a0,a1,a2,a3],_=>exact h kV dc pm an cd ct a0 a1 a2 a3
theorem fn5 {F:Value->Value->Value->Option Addr->Value->Value->FuncData} {ps:YF} (hl:ps.length=5) (h:∀kV dc pm an cd ct a0 a1 a2 a3 a4,bindArgs (F kV dc pm an cd ct) ⟨[a0,a1,a2,a3,a4],[]⟩=pure (ps.zip [a0,a1,a2,a3,a4])) (kV dc pm:Value) (an:Option Addr) (cd ct:Value) (us:YE) (hu:us.length=ps.length):bindArgs (F kV dc pm an cd ct) ⟨us,[]⟩=pure (ps.zip us):=by
 rw[hl] at hu
 match us,hu with
 | [a0,a1,a2,a3,a4],_=>exact h kV dc pm an cd ct a0 a1 a2 a3 a4
theorem all_mk {l:PySem.W.OpenLaw} {w:World} {K:YD} {h:Heap} {mg:YB} {fa C fl:Addr} (X:K.In h) (G:h.Ns mainGlobals mg) (hfa:mg "law"=some (.ref fa))
  {odl anl:Option Addr} {sll:YI} {ocl kVl dcl pml cdl ctl:Value}
  (aC:nsIn K mainGlobals "Wires"=some (some (.ref C)))
  (m0:MtI K C "__init__" "Wires.__init__" Iw)
  (m1:MtI K C "check_stretch" "Wires.check_stretch" FQ)
  (m2:MtI K C "cut" "Wires.cut" Nr)
  (m3:MtI K C "short" "Wires.short" KZ)
  (m4:MtI K C "mend" "Wires.mend" LR)
  (m5:MtI K C "parted" "Wires.parted" JK)
  (m6:MtI K C "act" "Wires.act" Nt)
  (m7:MtI K C "rests" "Wires.rests" K1)
  (m8:MtI K C "come_to_rest" "Wires.come_to_rest" CN)
  (m9:MtI K C "heard" "Wires.heard" Ik)
  (i0:FnI K "is_whole" K7)
  (i1:FnI K "is_within" Nh)
  (i2:FnI K "is_row" RT)
  (i3:FnI K "are_wholes" LQ)
  (i4:FnI K "is_rising" Ni)
  (i5:FnI K "are_rising_within" Fd)
  (i6:FnI K "is_name" Qf)
  (i7:FnI K "is_device" Nk)
  (i8:FnI K "is_spur_device" Ir)
  (i9:FnI K "is_spur" Qd)
  (i10:FnI K "is_place" Ow)
  (i11:FnI K "is_loop" Qg)
  (i12:FnI K "is_zone" Qc)
  (i13:FnI K "are_loops" Nq)
  (i14:FnI K "are_zones" Np)
  (i15:FnI K "is_plan" Qe)
  (i16:FnI K "place_devices" Jo)
  (i17:FnI K "devices" Qh)
  (i18:FnI K "stretches" Ka)
  (i19:FnI K "openers" MF)
  (i20:FnI K "parts" U9)
  (i21:FnI K "address_twice" Jp)
  (i22:FnI K "part_crowded" JG)
  (i23:FnI K "address_stranger" G4)
  (i24:FnI K "address_shared" Iv)
  (i25:FnI K "wrong" U8)
  (i26:FnI K "is_let_by" Nj)
  (i27:FnI K "spur_pieces" KY)
  (i28:FnI K "come_to" Qj)
  (i29:FnI K "has_short" Kc)
  (i30:FnI K "comes_to_short" Iu)
  (i31:FnI K "all_rest" K8)
  (i32:FnI K "_law_bag" Va)
  (i33:FnI K "_law_take" RP)
  (i34:FnI K "_law_name" Ou)
  (i35:FnI K "_law_names" MJ)
  (i36:FnI K "_law_loop" RQ)
  (i37:FnI K "_law_parts" P0)
  (i38:FnI K "_law_plan" JH)
  (i39:FnI K "_law_stretches" Ij)
  (i40:FnI K "_law_befall" Ov)
  (i41:FnI K "_law_order" Qa)
  (al:nsIn K mainGlobals "law"=some (some (.ref fl))) (ll:K.lookup fl=some ⟨ocl,odl,.func (fnOf "law" "law" (DQ Ii) (CZ Ii) (Ak Ii) .none kVl dcl pml anl cdl ctl),sll⟩) (cl:codeIn K cdl "law"=true) (kl:keepIn K (.ref fl)=true)
  (pg:plainGet K C Str.empty=true) (hd:hasDictIn K C=true) (po:PySem.W.plainOver K C=true) (sa:findIn K (.ref C) "__setattr__"=some (some (.builtin "object.__setattr__"))) (mk:makesIn K C=true) (kc:keepIn K (.ref C)=true)
  (n0:findIn K (.ref C) "plan"=some none)
  (n1:findIn K (.ref C) "states"=some none)
  (n2:findIn K (.ref C) "filled"=some none)
  (n3:findIn K (.ref C) "gaps"=some none)
  (z0:nsIn K mainGlobals "isinstance"=some none)
  (z1:nsIn K mainGlobals "int"=some none)
  (z2:nsIn K mainGlobals "bool"=some none)
  (z3:nsIn K mainGlobals "tuple"=some none)
  (z4:nsIn K mainGlobals "list"=some none)
  (z5:nsIn K mainGlobals "str"=some none)
  (z6:nsIn K mainGlobals "len"=some none)
  (z7:nsIn K mainGlobals "all"=some none)
  (z8:nsIn K mainGlobals "abs"=some none)
  (z9:nsIn K mainGlobals "max"=some none)
  (z10:nsIn K mainGlobals "min"=some none)
  (z11:nsIn K mainGlobals "range"=some none)
  (z12:nsIn K mainGlobals "sorted"=some none)
  (z13:nsIn K mainGlobals "any"=some none)
  (z14:nsIn K mainGlobals "sum"=some none)
  (z15:nsIn K mainGlobals "enumerate"=some none)
  (z16:nsIn K mainGlobals "zip"=some none)
  (z17:nsIn K mainGlobals "reversed"=some none)
  (z18:nsIn K mainGlobals "dict"=some none)
  (z19:nsIn K mainGlobals "ord"=some none)
  {op oe:Addr} {odo ode:Option Addr} {no ne:Nat} {slo sle:YI} {tks tko:Tok} {kd wk:Addr} {odk odw:Option Addr} {nk nw:Nat} {slk slw:YI} {tq1 tq2 tq3 tq4 tq5 tq6 yW:Tok}
  (ao:nsIn K mainGlobals "OPENER"=some (some (.ref op)))
  (lo:K.lookup op=some ⟨.type "tuple",odo,.seq #[.str "opener" tks,.int 0 tko,.ref oe] no,slo⟩)
  (lq2:K.lookup oe=some ⟨.type "tuple",ode,.seq #[] ne,sle⟩)
  (aKd:nsIn K mainGlobals "KINDS"=some (some (.ref kd)))
  (lKd:K.lookup kd=some ⟨.type "tuple",odk,.seq #[.str "seeker" tq1,.str "knob" tq2,.str "bell" tq3,.str "door" tq4] nk,slk⟩)
  (aWk:nsIn K mainGlobals "WARNING_KINDS"=some (some (.ref wk)))
  (lWk:K.lookup wk=some ⟨.type "tuple",odw,.seq #[.str "seeker" tq5,.str "knob" tq6] nw,slw⟩)
  (aSL:nsIn K mainGlobals "SMALL_LETTERS"=some (some (.str "abcdefghijklmnopqrstuvwxyz" yW)))
  : ∃fd:FuncData,(∀(s:Shared) (v:Value),BindsTo s fd ⟨[v],[]⟩ [("_law_script",v)])/\∀base:Heap,K.In base->base.Ns mainGlobals mg->Gn l.prog w K mg base CX0 13 fa fd ["_law_script"] (WR K):=by
 have e:=hfa.symm.trans (mg_of X G al)
 cases e
 have TN:Nm mg:=⟨mg_none_of X G z0,mg_none_of X G z1,mg_none_of X G z2,mg_none_of X G z3,mg_none_of X G z4,mg_none_of X G z5,mg_none_of X G z6,mg_none_of X G z7,mg_none_of X G z8,mg_none_of X G z9,mg_none_of X G z10,mg_none_of X G z11,mg_none_of X G z12,mg_none_of X G z13,mg_none_of X G z14,mg_none_of X G z15,mg_none_of X G z16,mg_none_of X G z17,mg_none_of X G z18,mg_none_of X G z19⟩
 have TX:Tx K mg op oe:=⟨TN,⟨_,mg_of X G ao,rfl⟩,λH=>.inr ⟨_,_,_,lo,rfl,rfl,(by show 3<=sizeLine;decide),.cons ⟨_,rfl⟩ (.cons ⟨_,rfl⟩ (.cons rfl .nil))⟩,λH=>.inr ⟨_,_,_,lq2,rfl,rfl,(by show 0<=sizeLine;decide),.nil⟩⟩
 have TY:Ty K mg op oe kd wk:={ toTx:=TX,KINDS:=⟨_,mg_of X G aKd,rfl⟩,kdT:=λH=>.inr ⟨_,_,_,lKd,rfl,rfl,(by show 4<=sizeLine;decide),.cons ⟨_,rfl⟩ (.cons ⟨_,rfl⟩ (.cons ⟨_,rfl⟩ (.cons ⟨_,rfl⟩ .nil)))⟩,WARNING_KINDS:=⟨_,mg_of X G aWk,rfl⟩,wkT:=λH=>.inr ⟨_,_,_,lWk,rfl,rfl,(by show 2<=sizeLine;decide),.cons ⟨_,rfl⟩ (.cons ⟨_,rfl⟩ .nil)⟩,SMALL_LETTERS:=⟨_,mg_of X G aSL,⟨_,rfl⟩⟩ }
 have T:Tw K mg op oe kd wk C:={ toTy:=TY,cl:=⟨pg,hd,po,sa⟩,mgC:=mg_of X G aC,YX:=n0,Ez:=n1,Sg:=n2,Fv:=n3 }
 have fY:=m0.init (ps:=Ey) mk kc (fn2 rfl (by intros;rfl))
 have Ux:=m1.code (ps:=Cg) (fn2 rfl (by intros;rfl))
 have yN:=m2.code (ps:=GD) (fn2 rfl (by intros;rfl))
 have tG:=m3.code (ps:=Fl) (fn2 rfl (by intros;rfl))
 have wZ:=m4.code (ps:=Gb) (fn2 rfl (by intros;rfl))
 have o8:=m5.code (ps:=Ga) (fn1 rfl (by intros;rfl))
 have yO:=m6.code (ps:=GF) (fn2 rfl (by intros;rfl))
 have tH:=m7.code (ps:=Gu) (fn1 rfl (by intros;rfl))
 have VG:=m8.code (ps:=Dr) (fn1 rfl (by intros;rfl))
 have tK:=m9.code (ps:=Gv) (fn3 rfl (by intros;rfl))
 have UG:=i0.code (ps:=Fq) X G (fn1 rfl (by intros;rfl))
 have aA:=i1.code (ps:=Et) X G (fn3 rfl (by intros;rfl))
 have pC:=i2.code (ps:=Dq) X G (fn3 rfl (by intros;rfl))
 have ZF:=i3.code (ps:=FZ) X G (fn2 rfl (by intros;rfl))
 have aB:=i4.code (ps:=Hz) X G (fn1 rfl (by intros;rfl))
 have Px:=i5.code (ps:=DG) X G (fn5 rfl (by intros;rfl))
 have kY:=i6.code (ps:=Ky) X G (fn1 rfl (by intros;rfl))
 have aF:=i7.code (ps:=Gz) X G (fn2 rfl (by intros;rfl))
 have Td:=i8.code (ps:=Eu) X G (fn1 rfl (by intros;rfl))
 have kO:=i9.code (ps:=Kv) X G (fn1 rfl (by intros;rfl))
 have gw:=i10.code (ps:=Jr) X G (fn1 rfl (by intros;rfl))
 have kZ:=i11.code (ps:=Kz) X G (fn1 rfl (by intros;rfl))
 have kJ:=i12.code (ps:=Ku) X G (fn1 rfl (by intros;rfl))
 have aJ:=i13.code (ps:=HW) X G (fn1 rfl (by intros;rfl))
 have aH:=i14.code (ps:=HN) X G (fn1 rfl (by intros;rfl))
 have kW:=i15.code (ps:=Kw) X G (fn1 rfl (by intros;rfl))
 have Uz:=i16.code (ps:=Ef) X G (fn3 rfl (by intros;rfl))
 have lA:=i17.code (ps:=Gg) X G (fn1 rfl (by intros;rfl))
 have au:=i18.code (ps:=Hw) X G (fn1 rfl (by intros;rfl))
 have kh:=i19.code (ps:=Kp) X G (fn1 rfl (by intros;rfl))
 have tO:=i20.code (ps:=Ob) X G (fn2 rfl (by intros;rfl))
 have UJ:=i21.code (ps:=Ft) X G (fn1 rfl (by intros;rfl))
 have VH:=i22.code (ps:=FW) X G (fn1 rfl (by intros;rfl))
 have QS:=i23.code (ps:=Eb) X G (fn1 rfl (by intros;rfl))
 have Tf:=i24.code (ps:=Ew) X G (fn1 rfl (by intros;rfl))
 have tL:=i25.code (ps:=Oa) X G (fn1 rfl (by intros;rfl))
 have aD:=i26.code (ps:=HF) X G (fn1 rfl (by intros;rfl))
 have WL:=i27.code (ps:=Gq) X G (fn3 rfl (by intros;rfl))
 have lB:=i28.code (ps:=Jb) X G (fn4 rfl (by intros;rfl))
 have aG:=i29.code (ps:=GC) X G (fn2 rfl (by intros;rfl))
 have Te:=i30.code (ps:=Dg) X G (fn3 rfl (by intros;rfl))
 have gA:=i31.code (ps:=Js) X G (fn2 rfl (by intros;rfl))
 have tQ:=i32.code (ps:=Oc) X G (fn2 rfl (by intros;rfl))
 have o9:=i33.code (ps:=Fw) X G (fn2 rfl (by intros;rfl))
 have pA:=i34.code (ps:=Mp) X G (fn1 rfl (by intros;rfl))
 have kI:=i35.code (ps:=Ks) X G (fn2 rfl (by intros;rfl))
 have pB:=i36.code (ps:=Mq) X G (fn3 rfl (by intros;rfl))
 have kj:=i37.code (ps:=Kq) X G (fn1 rfl (by intros;rfl))
 have pq:=i38.code (ps:=Ml) X G (fn3 rfl (by intros;rfl))
 have WM:=i39.code (ps:=Gs) X G (fn1 rfl (by intros;rfl))
 have gq:=i40.code (ps:=Jq) X G (fn4 rfl (by intros;rfl))
 have kE:=i41.code (ps:=Kr) X G (fn2 rfl (by intros;rfl))
 have yQ:=Uo (st:=Ii) ll cl kl
 refine⟨fnOf "law" "law" (DQ Ii) (CZ Ii) (Ak Ii) .none kVl dcl pml anl cdl ctl,λs v=>.of_eq rfl,λbase _ _=>?_⟩
 have Rh:=nH (P:=l.prog) (w:=w) (base:=base) tQ TN
 have Bm:=iY (P:=l.prog) (w:=w) (base:=base) o9 TN
 have yE:=Qs (P:=l.prog) (w:=w) (base:=base) UG TN
 have DF:=ZQ (P:=l.prog) (w:=w) (base:=base) UG TN
 have fu:=Yr (P:=l.prog) (w:=w) (base:=base) aA TN DF
 have NK:=iZ (P:=l.prog) (w:=w) (base:=base) pC TN
 have wz:=Wt (P:=l.prog) (w:=w) (base:=base) ZF TN yE NK
 have C5:=Ys (P:=l.prog) (w:=w) (base:=base) aB TY
 have C4:=Wu (P:=l.prog) (w:=w) (base:=base) Px TY NK fu C5
 have Dx:=dY (P:=l.prog) (w:=w) (base:=base) kY TY
 have wj:=Yu (P:=l.prog) (w:=w) (base:=base) aF TY fu
 have C2:=Rt (P:=l.prog) (w:=w) (base:=base) Td TY NK wj
 have C0:=dW (P:=l.prog) (w:=w) (base:=base) kO TY NK C2
 have Da:=ZR (P:=l.prog) (w:=w) (base:=base) gw TY NK fu wj C0
 have DC:=dZ (P:=l.prog) (w:=w) (base:=base) kZ TY NK Da
 have CS:=dU (P:=l.prog) (w:=w) (base:=base) kJ TY NK Dx C4
 have DB:=Yx (P:=l.prog) (w:=w) (base:=base) aJ TY NK DC
 have CO:=Yw (P:=l.prog) (w:=w) (base:=base) aH TY NK CS
 have v9:=R7 (P:=l.prog) (w:=w) (base:=base) Uz TX
 have fD:=d7 (P:=l.prog) (w:=w) (base:=base) lA TX v9
 have CY:=Yq (P:=l.prog) (w:=w) (base:=base) au TX
 have De:=dR (P:=l.prog) (w:=w) (base:=base) kh TX
 have C6:=nC (P:=l.prog) (w:=w) (base:=base) tO TX v9
 have C9:=dX (P:=l.prog) (w:=w) (base:=base) kW TY NK fu DB CO fD
 have DM:=R9 (P:=l.prog) (w:=w) (base:=base) UJ TY fD
 have DI:=T5 (P:=l.prog) (w:=w) (base:=base) VH TY C6
 have DO:=Pq (P:=l.prog) (w:=w) (base:=base) QS TY fD
 have C1:=Rv (P:=l.prog) (w:=w) (base:=base) Tf TY
 have CU:=mZ (P:=l.prog) (w:=w) (base:=base) tL TY DM DI DO C1
 have DE:=Yt (P:=l.prog) (w:=w) (base:=base) aD TY C9 CU
 have oO:=R8 (P:=l.prog) (w:=w) (base:=base) Ux T wz
 have wu:=uY (P:=l.prog) (w:=w) (base:=base) yN T oO
 have v8:=nj (P:=l.prog) (w:=w) (base:=base) tG T oO
 have wg:=rm (P:=l.prog) (w:=w) (base:=base) wZ T oO
 have DH:=nJ (P:=l.prog) (w:=w) (base:=base) fY T DE CY fD De
 have yx:=Vh (P:=l.prog) (w:=w) (base:=base) WL T
 have qb:=d8 (P:=l.prog) (w:=w) (base:=base) lB T yx
 have p8:=Yv (P:=l.prog) (w:=w) (base:=base) aG T
 have fG:=Ru (P:=l.prog) (w:=w) (base:=base) Te T qb p8
 have yH:=ZS (P:=l.prog) (w:=w) (base:=base) gA T fG
 have yC:=nA (P:=l.prog) (w:=w) (base:=base) tH T yH
 have yD:=iW (P:=l.prog) (w:=w) (base:=base) o8 T
 have qd:=uZ (P:=l.prog) (w:=w) (base:=base) yO T wz fG
 have yG:=T6 (P:=l.prog) (w:=w) (base:=base) VG T fG qd
 have yF:=nM (P:=l.prog) (w:=w) (base:=base) tK T qb p8
 have DA:=qZ (P:=l.prog) (w:=w) (base:=base) pA TN Bm
 have Do:=nG (P:=l.prog) (w:=w) (base:=base) kI TN DA
 have DD:=rA (P:=l.prog) (w:=w) (base:=base) pB TN Bm
 have C7:=iV (P:=l.prog) (w:=w) (base:=base) kj TN
 have C8:=qY (P:=l.prog) (w:=w) (base:=base) pq TN Bm DD C7 Do
 have yw:=ni (P:=l.prog) (w:=w) (base:=base) WM T
 have DJ:=jc (P:=l.prog) (w:=w) (base:=base) gq T Bm wu v8 wg
 have Db:=nF (P:=l.prog) (w:=w) (base:=base) kE T Bm
 exact uX yQ T Rh Bm C8 DH yw DJ Db wu v8 wg qd yG yC yD yF
theorem walk {l:PySem.W.OpenLaw} {q:Program} {loose:YF} {XP:(YB)->Heap->Prop} {YP:World->Heap->Prop} {d:DefRec} {K:Params->YD} (hn:l.most=some 63) (hdf:d.params.defaults=[])
  (hY:∀(w:World) (h:Heap),YP w h->(K w.params).In h)
  (F:∀(w:World) (mg:YB) (fa:Addr) (h:Heap),(K w.params).In h->h.Ns mainGlobals mg->mg d.name=some (.ref fa) ->
   ∃fd:FuncData,(∀(s:Shared) (u:Value),BindsTo s fd ⟨[u],[]⟩ [("_law_script",u)])/\∀base:Heap,(K w.params).In base->base.Ns mainGlobals mg->Gn l.prog w (K w.params) mg base CX0 13 fa fd ["_law_script"] (WR (K w.params))) :
  PySem.W.WalkO q loose XP YP l.row.toRowW d [] (λf vs=>PySem.call f vs):=
 L2.qw (n:=63) (k:=13) (x:="_law_script") (CX:=λ_=>CX0) (sp:=λw=>WR (K w.params)) hn (by decide) hdf ⟨rfl,by decide,by decide⟩ hY F (λ_ _ a ns hl _ hS=>⟨a,ns,rfl,hS,hl,λ_=>rfl⟩) λ_ _ _ _ _ z=>z
end K10
/-! names that stay free of quick twins: the head comes through without them, and the compiled text is much smaller -/
namespace PySem.W.Fast
def tw2002181625999935765:=0
def tw1397008158188171045:=0
def tw17164302157089358238:=0
def tw4260625868917904352:=0
def tw7729040442959145456:=0
def tw13372999875564858138:=0
def tw6943414757954307603:=0
def tw4882842491134118680:=0
def tw6815991022422001879:=0
def tw4662216813062757151:=0
def tw1320610399340019622:=0
def tw3362186619833782456:=0
def tw15963215665591100232:=0
def tw15233866048565880173:=0
def tw3922067130189924307:=0
def tw15683987927451792370:=0
def tw5076226527327583864:=0
def tw1733463721274399762:=0
def tw13877878213669479490:=0
def tw12033843826468121266:=0
def tw17449729205625544318:=0
def tw664429350459176440:=0
def tw8472248283724933999:=0
def tw2096009923955794568:=0
def tw1701793662681799869:=0
def tw359443838139107373:=0
def tw15703674773092779571:=0
def tw17741749186486175184:=0
def tw1265519521636338119:=0
def tw17433215525268955556:=0
def tw1644514303705098793:=0
def tw4064680057873972405:=0
def tw498159004325784592:=0
def tw6150272717199378152:=0
def tw15272557678313914969:=0
def tw12444595987986717543:=0
def tw10919508666501529567:=0
def tw16946016343018616483:=0
def tw12467243113174406925:=0
def tw1283037391451966608:=0
def tw15937558791542934975:=0
def tw16993885384116232449:=0
def tw14904923521970322146:=0
def tw15124464383715585020:=0
def tw15772608385871931410:=0
def tw4384303172316687193:=0
def tw3480671785698688497:=0
def tw13157529757970413067:=0
def tw6400851556010822847:=0
def tw13459870559507900506:=0
def tw5519039477357013819:=0
def tw14950072237271788312:=0
def tw8212422896710777202:=0
def tw5190535262212672996:=0
def tw7234662070585462372:=0
def tw9305627764203297380:=0
def tw4539312054679113696:=0
def tw15071736643362737698:=0
def tw14293404720201865232:=0
def tw17666927176303870653:=0
def tw9920366487475548527:=0
def tw5421215044595612287:=0
def tw13682541428345911960:=0
def tw9648166559226578569:=0
def tw10673794285776038808:=0
def tw7104899536381815222:=0
def tw1158018977500808100:=0
def tw15869641400123847080:=0
def tw1615798601811408577:=0
def tw12371610330220696215:=0
def tw14914334393102748586:=0
def tw11533052439594525846:=0
def tw10636616516395099739:=0
def tw12523771458198077771:=0
def tw7356259686062559254:=0
def tw11169737652312447271:=0
def tw3125564426044109455:=0
def tw18280888736049831673:=0
def tw14187824780019222521:=0
def tw10611487748941451220:=0
def tw926246601126517459:=0
def tw18389727380257891894:=0
def tw9222391954621530371:=0
def tw1720485638198659427:=0
def tw7985316733723137594:=0
def tw7069486191653486832:=0
def tw3254748570825106033:=0
def tw15816587253056005000:=0
def tw1046373061251908641:=0
def tw11307822095865078890:=0
def tw8330794054103749708:=0
def tw17242476194918418248:=0
def tw15552692782109899961:=0
def tw13307464420102132159:=0
def tw3517127149367815728:=0
def tw17055286726043618898:=0
def tw17679161149849863312:=0
def tw7770634975038437997:=0
def tw4566444869216951383:=0
def tw16271636322053382923:=0
def tw5294554412920404739:=0
def tw17412039316098216054:=0
def tw17525337337028678787:=0
def tw14669237442158174962:=0
def tw9449221313002298486:=0
def tw7164033187476118194:=0
def tw10009291893777507313:=0
def tw17456350665001309609:=0
def tw3871147468817623011:=0
def tw17851157780302445552:=0
def tw7801317963491759986:=0
def tw8186727823070384143:=0
def tw15967880608860661124:=0
def tw15354959791674739994:=0
def tw6156486955883661923:=0
def tw13462274795872562969:=0
def tw17455868803660756883:=0
def tw16343419044876050853:=0
def tw11795830811750196711:=0
def tw6864511284607702067:=0
def tw6278360951562834240:=0
def tw14152205819824067669:=0
def tw18133172442435991236:=0
def tw4503429679505381304:=0
def tw8532419587294430086:=0
def tw561460592126381823:=0
def tw3587942213561565853:=0
def tw13250260167994349082:=0
def tw12345370457756639378:=0
def tw3162994656027597818:=0
def tw12858136249252005344:=0
def tw8687976451788544089:=0
def tw162732525980239985:=0
def tw11183604622738896355:=0
def tw14333134904552038430:=0
def tw4667232033953585096:=0
def tw6036724641344130662:=0
def tw14557088564461659732:=0
def tw2658234473341592451:=0
def tw11748060401594149228:=0
def tw1778663268319456360:=0
def tw7199400020031714949:=0
def tw17314423882792888867:=0
def tw8353055598492416276:=0
def tw230257537979341922:=0
def tw16993418530639476445:=0
def tw12219250207805007083:=0
def tw14023956732948412793:=0
def tw4914502060681029494:=0
def tw16521923911611266040:=0
def tw9907786240437615457:=0
def tw9416713296282255526:=0
def tw16373096292544113001:=0
def tw6614560637284279762:=0
def tw17314451014282011803:=0
def tw15460682147928296413:=0
def tw12562434075793143538:=0
def tw12424085316171490488:=0
def tw10777371858303859626:=0
def tw7799071040481612230:=0
def tw8916624253598495896:=0
def tw14821799753999273743:=0
def tw11228144923666607202:=0
def tw16676603281173679547:=0
def tw12152104677462753676:=0
def tw17108701100190597860:=0
def tw13505784899429022784:=0
def tw4298138304063862113:=0
def tw18409778680780369614:=0
def tw9772694606420874892:=0
def tw18396889726608129877:=0
def tw8434468835674281876:=0
def tw7351904008561304001:=0
def tw4608923207167263268:=0
def tw8069949889583288149:=0
def tw6764557296687915302:=0
def tw12282773526407887891:=0
def tw11479379299429557503:=0
def tw16594401253376095014:=0
def tw5281296802487323419:=0
def tw7242504528312474024:=0
def tw2816806322466695670:=0
def tw17533218904055986862:=0
def tw16756215951752665190:=0
def tw1197002654831964496:=0
def tw17153018878642423769:=0
def tw9457266661066151801:=0
def tw15076876389982473399:=0
def tw5813216138871212121:=0
def tw11092715740240132147:=0
def tw4390620959623729545:=0
def tw16486578235578595798:=0
def tw14182689572388252274:=0
def tw16247879077995641723:=0
def tw10425172987719094933:=0
def tw15193003818421487144:=0
def tw16190368933912531057:=0
def tw1603444398224827423:=0
def tw9899950897784669612:=0
def tw5044845295945708754:=0
def tw17261742729572676295:=0
def tw11178594543170879501:=0
def tw1971877196235696252:=0
def tw7629508712885407248:=0
def tw682867574173570689:=0
def tw12189849020134047486:=0
def tw480133761473977220:=0
def tw17586720420639675686:=0
def tw14879910062815893521:=0
def tw14269458494779990240:=0
def tw15055103342130610673:=0
def tw4843292157839762390:=0
def tw14624920092436499912:=0
def tw4132489606336666814:=0
def tw17133786195589533017:=0
def tw14452150252176679065:=0
def tw3403620966535920803:=0
def tw14581336672434866697:=0
def tw6010131431477716432:=0
def tw9486874227198899512:=0
def tw8674569111783348688:=0
def tw10232515813474440918:=0
def tw12013526766641529689:=0
def tw10709769470129530391:=0
def tw8803192364534866395:=0
def tw6766122015049362672:=0
def tw18155140224702028289:=0
def tw14787163698808665758:=0
def tw8975267898828010605:=0
def tw7203144714199595696:=0
def tw8573810501236855563:=0
def tw919692511370816316:=0
def tw9422329971855616391:=0
def tw8722768475833478038:=0
def tw3081064720520181096:=0
def tw16568412588985208368:=0
def tw1040762757391827711:=0
def tw13121154849628296749:=0
def tw17021222418579265560:=0
def tw13776768398277496401:=0
def tw15066776090974387004:=0
def tw5372864297980259497:=0
def tw18234228557680434205:=0
def tw5790581776998153372:=0
def tw14768017200765536996:=0
def tw8175334511784213335:=0
def tw3694755300746368240:=0
def tw4981532375328211361:=0
def tw13484075492363943849:=0
def tw16343402692458028964:=0
def tw15035440047863961019:=0
def tw5016584908489681295:=0
def tw3583255068463295842:=0
def tw18140069421494754557:=0
def tw1204760854194051274:=0
def tw9199429441345921909:=0
def tw12982476924962805493:=0
def tw17459435647110938265:=0
def tw3984220187573007460:=0
def tw1772911750628142228:=0
def tw17361622747489697092:=0
def tw15146125446010186990:=0
def tw14632182948939765074:=0
def tw7571123335288442204:=0
def tw5308053106670579349:=0
def tw16231255235151529881:=0
def tw6101435876290327440:=0
def tw2276355062864530316:=0
def tw4629705773682990983:=0
def tw3673175369116835811:=0
def tw3448606415231423746:=0
def tw9321738553988105709:=0
def tw11003064492444469311:=0
def tw229045658694175026:=0
def tw18013570690108320694:=0
def tw6803652662222861240:=0
def tw10439996486808912146:=0
def tw5826442521820706183:=0
def tw13443632737196045618:=0
def tw15730446980444182472:=0
def tw2189358946479600704:=0
def tw12844598599192309374:=0
def tw4886413459535563131:=0
def tw4434936925647729586:=0
def tw231120044326791845:=0
def tw7583448630159395910:=0
def tw13702343807280019853:=0
def tw13107439654604783317:=0
def tw13750278924538841757:=0
def tw13603916816559814409:=0
def tw16975232040088117052:=0
def tw7494387631202147261:=0
def tw5470167692698970416:=0
def tw3687323123327460069:=0
def tw3381584824685464707:=0
def tw18126544183069996533:=0
def tw17414319027473122392:=0
def tw17117492077396571800:=0
def tw16140824663142631355:=0
def tw15918964016612601247:=0
def tw14341497424298189582:=0
def tw13231895992681919104:=0
def tw10445027275310629483:=0
def tw5213577582013610901:=0
def tw16207601975003036677:=0
def tw8309871135065008273:=0
def tw2340788811477305441:=0
def tw15138213321673831870:=0
def tw15105149424271662590:=0
def tw5842612597160243949:=0
def tw9646186996577051095:=0
def tw13684666587542813643:=0
def tw7008011529417202697:=0
def tw4134189300394913751:=0
def tw15736552473569346337:=0
def tw15320953181833987932:=0
def tw10819024407975973157:=0
def tw16879010780168363567:=0
def tw561924375955578542:=0
def tw8499529597442780235:=0
def tw17499955986548466606:=0
def tw1353182612336164329:=0
def tw11224906841106663309:=0
def tw7935080384348115248:=0
def tw3579714249976147289:=0
def tw17519831401975969367:=0
def tw17062234078205721893:=0
def tw13354057705718529273:=0
def tw9865327088055247508:=0
def tw5824487475109705377:=0
def tw4325269161245647578:=0
def tw394352325012401470:=0
def tw18038527532270325630:=0
def tw14639913262878819448:=0
def tw8004859166380122039:=0
def tw2748296649735509140:=0
def tw1951555438800562372:=0
def tw13740146806225946357:=0
def tw1095942434561334865:=0
def tw1607213812332488869:=0
end PySem.W.Fast
open PySem PySem.W PyProof.Rows
set_option maxRecDepth 100000 in
set_option maxHeartbeats 0 in
theorem PySem.Challenge.cw_warnloop_k10_whole_any_order_one_rest_holds : PySem.Challenge.rw_warnloop_k10_whole_any_order_one_rest.Holds := by
 w_on;o_law;k_head;(case hw=>w_witness2)
 k_fill
 refine K10.walk (l:=PySem.Challenge.rw_warnloop_k10_whole_any_order_one_rest) rfl rfl (λw h Y=>PySem.W.kIn_of Y) ?F
 case F=>
  intro w mg fa h KX G hmg
  refine' K10.all_mk KX G hmg ?aC (.of ?am0 ?bm0 ?lm0 ?cm0 ?km0) (.of ?am1 ?bm1 ?lm1 ?cm1 ?km1) (.of ?am2 ?bm2 ?lm2 ?cm2 ?km2) (.of ?am3 ?bm3 ?lm3 ?cm3 ?km3) (.of ?am4 ?bm4 ?lm4 ?cm4 ?km4) (.of ?am5 ?bm5 ?lm5 ?cm5 ?km5) (.of ?am6 ?bm6 ?lm6 ?cm6 ?km6) (.of ?am7 ?bm7 ?lm7 ?cm7 ?km7) (.of ?am8 ?bm8 ?lm8 ?cm8 ?km8) (.of ?am9 ?bm9 ?lm9 ?cm9 ?km9) (.of ?ai0 ?li0 ?ci0 ?ki0) (.of ?ai1 ?li1 ?ci1 ?ki1) (.of ?ai2 ?li2 ?ci2 ?ki2) (.of ?ai3 ?li3 ?ci3 ?ki3) (.of ?ai4 ?li4 ?ci4 ?ki4) (.of ?ai5 ?li5 ?ci5 ?ki5) (.of ?ai6 ?li6 ?ci6 ?ki6) (.of ?ai7 ?li7 ?ci7 ?ki7) (.of ?ai8 ?li8 ?ci8 ?ki8) (.of ?ai9 ?li9 ?ci9 ?ki9) (.of ?FK ?AZ ?ES ?B3) (.of ?FI ?AY ?ER ?B2) (.of ?FH ?AX ?EQ ?B1) (.of ?FG ?AW ?EO ?B0) (.of ?FF ?AV ?EN ?BY) (.of ?FE ?AU ?EM ?BV) (.of ?FD ?AT ?EL ?BU) (.of ?FC ?AS ?EK ?BT) (.of ?FB ?AR ?EJ ?BS) (.of ?FA ?AQ ?EI ?BQ) (.of ?Fu ?AO ?EH ?BO) (.of ?Fs ?AN ?EG ?BN) (.of ?Fn ?AM ?EF ?BM) (.of ?Fm ?AL ?EE ?BI) (.of ?Fk ?AK ?ED ?BH) (.of ?Fh ?AJ ?EC ?BG) (.of ?Ff ?AI ?EB ?BF) (.of ?Fc ?AH ?EA ?BE) (.of ?Fa ?AG ?Ex ?BD) (.of ?E9 ?AF ?Ev ?BC) (.of ?E8 ?AE ?Eg ?BB) (.of ?E7 ?AD ?Ee ?BA) (.of ?E6 ?AC ?D9 ?Bz) (.of ?E5 ?AB ?D8 ?By) (.of ?E4 ?AA ?D7 ?Bi) (.of ?E3 ?Au ?D6 ?Be) (.of ?E2 ?At ?D5 ?A9) (.of ?E1 ?As ?D4 ?A8) (.of ?EZ ?Ap ?D3 ?A7) (.of ?EX ?An ?D2 ?A6) (.of ?EW ?zZ ?D1 ?A5) (.of ?EV ?zY ?D0 ?A4) ?al ?ll ?cl ?kl ?pg ?hd ?po ?sa ?mk ?kc ?n0 ?n1 ?n2 ?n3 ?z0 ?z1 ?z2 ?z3 ?z4 ?z5 ?z6 ?z7 ?z8 ?z9 ?z10 ?z11 ?z12 ?z13 ?z14 ?z15 ?z16 ?z17 ?z18 ?z19 ?ao ?lo ?lq2 ?aKd ?lKd ?aWk ?lWk ?aSL
  (case aC | am0 | bm0 | lm0 | cm0 | km0 | am1 | bm1 | lm1 | cm1 | km1 | am2 | bm2 | lm2 | cm2 | km2 | am3 | bm3 | lm3 | cm3 | km3 | am4 | bm4 | lm4 | cm4 | km4 | am5 | bm5 | lm5 | cm5 | km5 | am6 | bm6 | lm6 | cm6 | km6 | am7 | bm7 | lm7 | cm7 | km7 | am8 | bm8 | lm8 | cm8 | km8 | am9 | bm9 | lm9 | cm9 | km9 | ai0 | li0 | ci0 | ki0 | ai1 | li1 | ci1 | ki1 | ai2 | li2 | ci2 | ki2 | ai3 | li3 | ci3 | ki3 | ai4 | li4 | ci4 | ki4 | ai5 | li5 | ci5 | ki5 | ai6 | li6 | ci6 | ki6 | ai7 | li7 | ci7 | ki7 | ai8 | li8 | ci8 | ki8 | ai9 | li9 | ci9 | ki9 | FK | AZ | ES | B3 | FI | AY | ER | B2 | FH | AX | EQ | B1 | FG | AW | EO | B0 | FF | AV | EN | BY | FE | AU | EM | BV | FD | AT | EL | BU | FC | AS | EK | BT | FB | AR | EJ | BS | FA | AQ | EI | BQ | Fu | AO | EH | BO | Fs | AN | EG | BN | Fn | AM | EF | BM | Fm | AL | EE | BI | Fk | AK | ED | BH | Fh | AJ | EC | BG | Ff | AI | EB | BF | Fc | AH | EA | BE | Fa | AG | Ex | BD | E9 | AF | Ev | BC | E8 | AE | Eg | BB | E7 | AD | Ee | BA | E6 | AC | D9 | Bz | E5 | AB | D8 | By | E4 | AA | D7 | Bi | E3 | Au | D6 | Be | E2 | At | D5 | A9 | E1 | As | D4 | A8 | EZ | Ap | D3 | A7 | EX | An | D2 | A6 | EW | zZ | D1 | A5 | EV | zY | D0 | A4=>k_is)
  (case al | ll | cl | kl | pg | hd | po | sa | mk | kc | n0 | n1 | n2 | n3 | z0 | z1 | z2 | z3 | z4 | z5 | z6 | z7 | z8 | z9 | z10 | z11 | z12 | z13 | z14 | z15 | z16 | z17 | z18 | z19 | ao | lo | lq2 | aKd | lKd | aWk | lWk | aSL=>k_is)
