import PyProof.Rows.All
import Wide.All
import OpenK.AllK
import Wide.FinOn
import Lean
import PyProof.EqAt
import PyProof.EqKinds
import PyProof.TupleCall
import PySem.Challenge.RW_warnloop_k26_tables_run
set_option linter.all false
set_option Elab.async false
set_option maxRecDepth 100000
set_option maxHeartbeats 4000000
abbrev YA:=PySem.Value→PySem.Shared→Prop
abbrev YH:=Unit→PySem.Shared→Prop
abbrev YB:=PySem.Str→Option PySem.Value
abbrev YC:=List (PySem.Addr×PySem.Obj)
abbrev YD:=PySem.W.Frag
abbrev YI:=Array (Option PySem.Value)
abbrev YE:=List PySem.Value
abbrev YF:=List PySem.Str
abbrev YJ:=List PySem.Expr
theorem rq{α:Sort _}{a:α}:a=a:=rfl
local macro_rules|`(tactic|trivial)=>`(tactic|decide +kernel)
local macro_rules | `(tactic|ac_rfl) => `(tactic|exact ⟨rfl,rfl,rfl,by decide +kernel,rfl,by decide +kernel,by decide +kernel⟩)
open PySem.W (instObj hideAll hideAll_get lookIn plainGet hasDictIn findIn isFn makesIn emptyDict keepIn kitOne kia_one fnOf codeIn nsIn mg_of mg_none_of)
abbrev Qaa:=@PyProof.Rows.slot_tupleiter_next
abbrev Qab:=@PyProof.Rows.slot_tuple_getitem
abbrev Qac:=@PyProof.Rows.callWith_type1
abbrev Qad:=@List.getElem?_append_right
abbrev Qae:=@List.getElem?_eq_some_iff
abbrev Qaf:=@Array.getElem?_eq_getElem
abbrev Qag:=@List.pairwise_iff_getElem
abbrev Qah:=@List.getElem?_append_left
abbrev Qai:=@List.drop_eq_getElem_cons
abbrev Qaj:=@List.getElem?_eq_getElem
abbrev Qak:=@PySem.F.slot_list_append
abbrev Qal:=@PySem.F.type_list_append
abbrev Qam:=@PySem.wpAny_callSpecial?_slot
abbrev Qan:=@PySem.F.plainAttrs_list
abbrev Qao:=@PySem.wpAny_getItem_str_slice
abbrev Qap:=@Int.eq_ofNat_of_zero_le
abbrev Qaq:=@PySem.Heap.get?_push_of_some
abbrev Qar:=@Option.map_eq_some_iff
abbrev Qas:=@List.take_of_length_le
abbrev Qat:=@List.getElem?_set_self
abbrev Qau:=@Array.getElem?_toList
abbrev Qav:=@List.mem_append_right
abbrev Qaw:=@PySem.Heap.get?_update_self
abbrev Qax:=@List.length_singleton
abbrev Qay:=@List.mem_of_getElem?
abbrev Qaz:=@List.mem_cons_of_mem
abbrev QaA:=@List.getElem?_set_ne
abbrev QaB:=@List.getElem?_of_mem
abbrev QaC:=@PySem.Around.under_plainId
abbrev QaD:=@List.mem_of_mem_drop
abbrev QaE:=@PySem.Heap.get?_push_size
abbrev QaF:=@Array.length_toList
abbrev QaG:=@PySem.Heap.SameBut.update
abbrev QaH:=@List.forall_mem_nil
abbrev QaI:=@PySem.mem_of_lookup
abbrev QaJ:=@beq_eq_false_iff_ne
abbrev QaK:=@List.filterMap_cons
abbrev QaL:=@List.getElem_of_mem
abbrev QaM:=@List.length_append
abbrev QaN:=@List.mem_cons_self
abbrev QaO:=@Bool.false_ne_true
abbrev QaP:=@Nat.lt_of_lt_of_le
abbrev QaR:=@List.mem_singleton
abbrev QaS:=@decide_eq_true_iff
abbrev QaT:=@Bool.false_eq_true
abbrev QaU:=@PySem.wpAny_pyIter_tuple
abbrev QaV:=@List.length_zipIdx
abbrev QaW:=@List.filter_append
abbrev QaX:=@PySem.wpAny_Call_Name_kw
abbrev QaY:=@PySem.wpAny_setField_rec
abbrev QaZ:=@Int.emod_lt_of_pos
abbrev Qba:=@List.size_toArray
abbrev Qbb:=@of_decide_eq_true
abbrev Qbc:=@List.getElem?_map
abbrev Qbd:=@PySem.wpAny_newObj_type
abbrev Qbe:=@Int.toNat_natCast
abbrev Qbf:=@PySem.wpAny_truthy_bool
abbrev Qbg:=@PySem.wpAny_setState_of
abbrev Qbh:=@Nat.lt_succ_of_lt
abbrev Qbi:=@PySem.wpAny_pyIter_list
abbrev Qbj:=@not_false_eq_true
abbrev Qbk:=@bne_self_eq_false
abbrev Qbl:=@List.not_mem_nil
abbrev Qbm:=@Bool.and_eq_true
abbrev Qbn:=@List.length_take
abbrev Qbo:=@List.length_cons
abbrev Qbp:=@List.take_length
abbrev Qbq:=@List.length_drop
abbrev Qbr:=@PySem.wpAny_call_entry
abbrev Qbs:=@List.filter_cons
abbrev Qbt:=@Nat.lt_succ_self
abbrev Qbu:=@List.all_eq_true
abbrev Qbv:=@PySem.wpAny_askSetting
abbrev Qbw:=@List.length_map
abbrev Qbx:=@List.map_append
abbrev Qby:=@decide_eq_false
abbrev Qbz:=@List.mem_append
abbrev QbA:=@Option.some.inj
abbrev QbB:=@List.nodup_cons
abbrev QbC:=@Bool.eq_iff_iff
abbrev QbE:=@List.append_nil
abbrev QbF:=@PySem.PassesOwn.never
abbrev QbG:=@Nat.min_eq_left
abbrev QbH:=@List.find?_cons
abbrev QbI:=@Bool.or_eq_true
abbrev QbJ:=@PySem.codeAny_builtin
abbrev QbK:=@PySem.F.slot_int_rmul
abbrev QbL:=@Int.emod_nonneg
abbrev QbM:=@decide_eq_true
abbrev QbN:=@PySem.Heap.size_push
abbrev QbO:=@Bool.false_and
abbrev QbP:=@List.nodup_nil
abbrev QbQ:=@PySem.wpAny_seqItems
abbrev QbR:=@PySem.isSubtype_type
abbrev QbS:=@List.mem_cons
abbrev QbT:=@Bool.true_and
abbrev QbU:=@List.map_cons
abbrev QbV:=@Nat.lt_irrefl
abbrev QbW:=@PySem.wpAny_holding
abbrev QbX:=@PySem.Paired.length
abbrev QbY:=@List.any_cons
abbrev QbZ:=@Bool.and_true
abbrev Qca:=@PySem.wpAny_attempt
abbrev Qcb:=@PySem.Heap.lt_size
abbrev Qcc:=@Nat.ne_of_lt
abbrev Qcd:=@Nat.le_trans
abbrev Qce:=@List.mem_map
abbrev Qcf:=@Nat.ne_of_gt
abbrev Qcg:=@Nat.le_of_lt
abbrev Qch:=@Nat.le_refl
abbrev Qci:=@Nat.zero_le
abbrev Qcj:=@PySem.wpAny_field
abbrev Qck:=@Nat.le_succ
abbrev Qcl:=@PySem.wpAny_bind
abbrev Qcm:=@PySem.wpAny_pure
abbrev Qcn:=@PySem.wpAny_mono
abbrev Qco:=@PySem.wpAny_rule
abbrev Qcp:=@PyProof.Rows.take_snoc
abbrev Qcq:=@or_false
abbrev Qcr:=@if_false
namespace L2
open PySem PySem.Spec PyProof.Rows
abbrev Key:=Sum Int Str
def bw:Key->Value->Bool
 | .inl k,v=>Value.isInt k v
 | .inr x,v=>Value.isStrOf x v
def nF (w:World):Key->Int
 | .inl k=>hashInt k
 | .inr x=>hashStr w x
theorem Dm:∀{k:Key} {v:Value},bw k v=true->(∃i t,k=Sum.inl i/\v=Value.int i t)\/(∃x t,k=Sum.inr x/\v=Value.str x t)
 | .inl i,v,h=>by
  obtain⟨t,e⟩:=Value.isInt_shape (k:=i) (v:=v) h;exact .inl ⟨i,t,rq,e⟩
 | .inr x,v,h=>by
  obtain⟨t,e⟩:=Value.isStrOf_shape (x:=x) (v:=v) h;exact .inr ⟨x,t,rq,e⟩
theorem gJ (a b:Int):decide ((Sum.inl a:Key)=Sum.inl b)=(a == b):=by
 by_cases e:a=b
 ·subst e;simp
 ·have h:¬(Sum.inl a:Key)=Sum.inl b:=λq=>e (Sum.inl.inj q);rw[Qby h];exact (QaJ.mpr e).symm
theorem gF (a b:Str):decide ((Sum.inr a:Key)=Sum.inr b)=decide (a=b):=by
 by_cases e:a=b
 ·subst e;simp
 ·have h:¬(Sum.inr a:Key)=Sum.inr b:=λq=>e (Sum.inr.inj q);rw[Qby h,Qby e]
theorem gH (a:Int) (b:Str):decide ((Sum.inl a:Key)=Sum.inr b)=false:=Qby (λq=>nomatch q)
theorem gG (a:Str) (b:Int):decide ((Sum.inr a:Key)=Sum.inl b)=false:=Qby (λq=>nomatch q)
def Qj (prog:Program) (w:World):PySem.KeyKind prog w Key where
 is:=bw
 hash:=nF w
 inj:=λv a b ha hb=>by
  rcases Dm ha with⟨i,t,rfl,rfl⟩|⟨x,t,rfl,rfl⟩
  ·rcases Dm hb with⟨j,u,rfl,e⟩|⟨y,u,rfl,e⟩
   ·injection e with e1 _;rw[e1]
   ·exact nomatch e
  ·rcases Dm hb with⟨j,u,rfl,e⟩|⟨y,u,rfl,e⟩
   ·exact nomatch e
   ·injection e with e1 _;rw[e1]
 byValue:=λk v h=>by
  rcases Dm h with⟨i,t,rfl,rfl⟩|⟨x,t,rfl,rfl⟩ <;> rfl
 pyHash:=λhv h=>by
  rcases Dm hv with⟨i,t,rfl,rfl⟩|⟨x,t,rfl,rfl⟩
  ·exact wpAny_pyHash_int h
  ·exact wpAny_pyHash_str h
 eqBool:=λhu hv h=>by
  rcases Dm hu with⟨i,t,rfl,rfl⟩|⟨x,t,rfl,rfl⟩
  ·rcases Dm hv with⟨j,u,rfl,rfl⟩|⟨y,u,rfl,rfl⟩
   ·rw[gJ] at h;exact wpAny_eqBool_int h
   ·rw[gH] at h;exact SeqAt.EqAt.int_str i t y u _ _ _ _ h
  ·rcases Dm hv with⟨j,u,rfl,rfl⟩|⟨y,u,rfl,rfl⟩
   ·rw[gG] at h;exact SeqAt.EqAt.str_int x t j u _ _ _ _ h
   ·rw[gF] at h;exact wpAny_eqBool_str h
 «strs»:=λk x t v h=>by
  rcases Dm h with⟨i,u,rfl,e⟩|⟨y,u,rfl,e⟩
  ·exact nomatch e
  ·injection e with e1 _;subst e1;cases v <;> rfl
inductive V where
 | non | bl (b:Bool) | int (i:Int) | str (x:Str) | byt (b:Array UInt8) | flt (b:UInt64) | ref (a:Addr) | ty (n:String)
 deriving DecidableEq
def RelV:V->Value->Prop
 | .non,u=>u=Value.none
 | .bl b,u=>u=Value.bool b
 | .int i,u=>∃t,u=Value.int i t
 | .str x,u=>∃t,u=Value.str x t
 | .byt b,u=>∃t,u=Value.bytes b t
 | .flt b,u=>∃t,u=Value.float b t
 | .ref a,u=>u=Value.ref a
 | .ty n,u=>u=Value.type n
abbrev YG:=List V
abbrev Vals:YG->YE->Prop:=Paired RelV
theorem Vals.length {xs:YG} {us:YE} (r:Vals xs us):xs.length=us.length:=QbX r
theorem Vals.get:∀{xs:YG} {us:YE} {i:Nat} {x:V},Vals xs us->xs[i]?=some x->∃u,us[i]?=some u/\RelV x u
 | _,_,_,_,.nil,e=>by simp at e
 | _,_,0,_,.cons r _,e=>by simp at e;subst e;exact⟨_,rfl,r⟩
 | _,_,i+1,x,.cons _ t,e=>by
  obtain⟨u,h1,h2⟩:=Vals.get (i:=i) (x:=x) t (by simpa using e);exact⟨u,by simpa using h1,h2⟩
theorem Vals.set {x:V} {u:Value} (r:RelV x u):∀{xs:YG} {us:YE} (i:Nat),Vals xs us->Vals (xs.set i x) (us.set i u)
 | _,_,_,.nil=>.nil
 | _,_,0,.cons _ t=>.cons r t
 | _,_,i+1,.cons q t=>.cons q (Vals.set r i t)
theorem Vals.append:∀{xs ys:YG} {us ws:YE},Vals xs us->Vals ys ws->Vals (xs++ys) (us++ws)
 | _,_,_,_,.nil,s=>s
 | _,_,_,_,.cons r t,s=>.cons r (Vals.append t s)
theorem Vals.take:∀{xs:YG} {us:YE} (n:Nat),Vals xs us->Vals (xs.take n) (us.take n)
 | _,_,0,_=>.nil
 | _,_,_+1,.nil=>.nil
 | _,_,n+1,.cons r t=>.cons r (Vals.take n t)
theorem Vals.drop:∀{xs:YG} {us:YE} (n:Nat),Vals xs us->Vals (xs.drop n) (us.drop n)
 | _,_,0,r=>r
 | _,_,_+1,.nil=>.nil
 | _,_,n+1,.cons _ t=>Vals.drop n t
theorem Vals.none_of:∀{xs:YG} {us:YE} {i:Nat},Vals xs us->xs[i]?=none->us[i]?=none:=λ{xs us i} r e=>by
 have h1:=r.length;have h2:xs.length<=i:=List.getElem?_eq_none_iff.mp e;exact List.getElem?_eq_none_iff.mpr (by omega)
def Gf:Option V->Option Value->Prop
 | some v,some u=>RelV v u
 | none,none=>True
 | _,_=>False
def KV {κ : Type}:List (κ×V)->List (κ×Value)->Prop:=Paired λ(p:κ×V) (q:κ×Value)=>p.1=q.1/\RelV p.2 q.2
def kV:Key->V
 | .inl i=>.int i
 | .inr x=>.str x
inductive HO where
 | lst (xs:YG)
 | tup (xs:YG)
 | dK (kvs:List (Key×V)) | dT (kvs:List (List Key×V))
 | set (S:Int->Bool) (n:Nat)
 | ins (C dx:Addr) (fs:List (Str×V))
 | own (x:Addr)
 | xd (fs:List (Str×V))
 | met (f x:Addr)
 | rng (lo hi:Int)
 | frz (o:Obj) (u:HO)
 | tbl (ps:Array Value)
 | ext (φ : Heap->Prop)
abbrev Hp:=Addr->Option HO
def upd (H:Hp) (a:Addr) (o:HO):Hp:=λb=>if b=a then some o else H b
theorem Ad {H:Hp} {a:Addr} {o:HO}:upd H a o a=some o:=by unfold upd;rw[if_pos rfl]
theorem Bk {H:Hp} {a b:Addr} {o:HO} (h:b≠a):upd H a o b=H b:=by unfold upd;rw[if_neg h]
theorem Ay {H:Hp} {a b:Addr} {o:HO} (h:H a=some o) (h':H b=none):a≠b:=by
 intro e;subst e;rw[h] at h';cases h'
section
variable (P:Program) (w:World)
def Cm (H:Hp) (h:Heap) (a:Addr):HO->Prop
 | .lst xs=>xs.length<=sizeLine/\∃(its:YE) (n:Nat),Vals xs its/\h.get? a=some { cls:=.type "list",data:=.seq its.toArray n }
 | .tup xs=>xs.length<=sizeLine/\∃its:YE,Vals xs its/\IsTup h a its.toArray
 | .dK kvs=>kvs.length<=sizeLine/\(a == sysModules)=false/\∃vs,KV kvs vs/\h.DictOf (Qj P w) a vs
 | .dT kvs=>kvs.length<=sizeLine/\(a == sysModules)=false/\∃xs:List (List Key×Addr×Value),
   Paired (λ(p:List Key×V) (q:List Key×Addr×Value)=>p.1=q.1/\H q.2.1=some (.tup (p.1.map kV))/\RelV p.2 q.2.2) kvs xs /\
   ∃o es ep,h.get? a=some o/\o.ExactDict/\o.data=.dict es ep/\es.toList=xs.map (entryOfKey (tupleKind (Qj P w)))/\(xs.map (·.1)).Nodup
 | .set S n=>h.SetOf (intKind P w) a S n
 | .ins C dx fs=>H dx=some (.own a)/\fs.length<=1000/\dx≠a/\h.get? a=some (instObj C dx) /\
   ∃mA,h.Ns1 dx mA/\(∀f,Gf (fs.lookup f) (mA f))/\PySem.Within mA (fs.map (·.1))
 | .own _=>∃o,h.get? a=some o
 | .xd fs=>∃mA,h.Ns1 a mA/\∀f,Gf (fs.lookup f) (mA f)
 | .rng lo hi=>∃t u v,h.get? a=some { cls:=.type "range",data:=.fields #[.int lo t,.int hi u,.int 1 v] }
 | .frz o u=>h.get? a=some o/\Cm H h a u
 | .tbl ps=>h.get? a=some { cls:=.none,data:=.fields ps }
 | .met f x=>h.get? a=some (PySem.W.methodObj (.ref f) (.ref x))
 | .ext φ=>φ h/\(∃o,h.get? a=some o)/\∀h1 h2:Heap,φ h1->(∀o,h1.get? a=some o->h2.get? a=some o)->φ h2
def HOk (H:Hp) (h:Heap):Prop:=∀a o,H a=some o->Cm P w H h a o
end
section
variable {P:Program} {w:World} {H H':Hp} {h h':Heap} {a:Addr} {o:HO}
theorem Cm.lt (x:Cm P w H h a o):a < h.objs.size:=by
 cases o with
 | lst xs=>obtain⟨_,_,_,_,e⟩:=x;exact Qcb e
 | tup xs=>obtain⟨_,_,_,p⟩:=x;exact p.lt
 | dK kvs=>obtain⟨_,_,_,_,o,_,_,e,_⟩:=x;exact Qcb e
 | dT kvs=>obtain⟨_,_,_,_,o,_,_,e,_⟩:=x;exact Qcb e
 | set S n=>obtain⟨o,_,_,_,e,_⟩:=x;exact Qcb e
 | ins C dx fs=>obtain⟨_,_,_,e,_⟩:=x;exact Qcb e
 | own y=>obtain⟨_,e⟩:=x;exact Qcb e
 | xd fs=>obtain⟨_,⟨_,_,_,e,_⟩,_⟩:=x;exact Qcb e
 | rng lo hi=>obtain⟨_,_,_,e⟩:=x;exact Qcb e
 | frz ob u=>obtain⟨e,_⟩:=x;exact Qcb e
 | tbl ps=>exact Qcb (show h.get? a=some _ from x)
 | met f y=>exact Qcb (show h.get? a=some _ from x)
 | ext φ=>obtain⟨_,⟨_,e⟩,_⟩:=x;exact Qcb e
theorem Paired.TQ {α β : Type} {F G:α->β->Prop}:∀{l₁ : List α} {l₂ : List β},Paired F l₁ l₂->(∀a b,F a b->G a b)->Paired G l₁ l₂
 | _,_,.nil,_=>.nil
 | _,_,.cons r t,f=>.cons (f _ _ r) (Paired.TQ t f)
theorem Cm.stay (x:Cm P w H h a o) (k:∀b u,(b=a\/H b=some (.own a))->h.get? b=some u->h'.get? b=some u)
  (ho:∀b,H b=some (.own a)->H' b=some (.own a)) (ht:∀b xs,H b=some (.tup xs)->H' b=some (.tup xs)):Cm P w H' h' a o:=by
 induction o with
 | lst xs=>obtain⟨z,its,n,r,e⟩:=x;exact⟨z,its,n,r,k _ _ (.inl rfl) e⟩
 | tup xs=>obtain⟨z,its,r,ob,e,c⟩:=x;exact⟨z,its,r,ob,k _ _ (.inl rfl) e,c⟩
 | dK kvs=>obtain⟨z,y,vs,r,ob,es,ep,e,c⟩:=x;exact⟨z,y,vs,r,ob,es,ep,k _ _ (.inl rfl) e,c⟩
 | dT kvs=>
  obtain⟨z,y,xs,r,ob,es,ep,e,c⟩:=x;exact⟨z,y,xs,Paired.TQ r λp q z=>⟨z.1,ht _ _ z.2.1,z.2.2⟩,ob,es,ep,k _ _ (.inl rfl) e,c⟩
 | set S n=>obtain⟨ob,es,ep,t,e,c⟩:=x;exact⟨ob,es,ep,t,k _ _ (.inl rfl) e,c⟩
 | ins C dx fs=>
  obtain⟨d,z,ne,e,mA,⟨od,es,ep,e2,c⟩,r⟩:=x;exact⟨ho _ d,z,ne,k _ _ (.inl rfl) e,mA,⟨od,es,ep,k _ _ (.inr d) e2,c⟩,r⟩
 | own y=>obtain⟨ob,e⟩:=x;exact⟨ob,k _ _ (.inl rfl) e⟩
 | xd fs=>obtain⟨mA,⟨od,es,ep,e,c⟩,r⟩:=x;exact⟨mA,⟨od,es,ep,k _ _ (.inl rfl) e,c⟩,r⟩
 | rng lo hi=>obtain⟨t,u,v,e⟩:=x;exact⟨t,u,v,k _ _ (.inl rfl) e⟩
 | frz ob u ih=>obtain⟨e,q⟩:=x;exact⟨k _ _ (.inl rfl) e,ih q⟩
 | tbl ps=>
  have e:h.get? a=some { cls:=.none,data:=.fields ps }:=x;show h'.get? a=some { cls:=.none,data:=.fields ps };exact k a _ (.inl rfl) e
 | met f y=>
  have e:h.get? a=some (PySem.W.methodObj (.ref f) (.ref y)):=x;show h'.get? a=some (PySem.W.methodObj (.ref f) (.ref y));exact k a _ (.inl rfl) e
 | ext φ=>obtain⟨p,⟨o,e⟩,st⟩:=x;exact⟨st _ _ p λo q=>k _ _ (.inl rfl) q,⟨o,k _ _ (.inl rfl) e⟩,st⟩
theorem HOk.lt (x:HOk P w H h) (e:H a=some o):a < h.objs.size:=(x a o e).lt
theorem HOk.fresh (x:HOk P w H h) (e:h.objs.size<=a):H a=none:=by
 cases q:H a with
 | none=>rfl
 | some u=>exact absurd (QaP (x.lt q) e) (QbV _)
theorem HOk.kept (x:HOk P w H h) (k:∀b u,h.get? b=some u->h'.get? b=some u):HOk P w H h':=λa o e=>
 (x a o e).stay (λb u _ q=>k b u q) (λ_ q=>q) λ_ _ q=>q
theorem HOk.laid (x:HOk P w H h) (k:∀b u,h.get? b=some u->h'.get? b=some u) (hp:h.objs.size<=a) (new:Cm P w (upd H a o) h' a o):HOk P w (upd H a o) h':=λb u e=>by
 have hn:=x.fresh hp;by_cases hb:b=a
 ·subst hb;rw[Ad] at e;cases e;exact new
 ·rw[Bk hb] at e;exact (x b u e).stay (λc v _ q=>k c v q) (λc q=>by rw[Bk (Ay q hn)];exact q) λc xs q=>by rw[Bk (Ay q hn)];exact q
end
def Rd (H:Hp) (a:Addr) (u:HO):Prop:=H a=some u\/∃o,H a=some (.frz o u)
theorem Rd.of {H:Hp} {a:Addr} {u:HO} (h:H a=some u):Rd H a u:=.inl h
theorem Rd.ok {P:Program} {w:World} {H:Hp} {h:Heap} {a:Addr} {u:HO} (r:Rd H a u) (x:HOk P w H h):Cm P w H h a u:=by
 rcases r with r |⟨o,r⟩
 ·exact x a u r
 ·obtain⟨_,q⟩:=x a _ r;exact q
def Mut:Option HO->Prop
 | some (.lst _)=>True
 | some (.dK _)=>True
 | some (.dT _)=>True
 | some (.set _ _)=>True
 | some (.ins _ _ _)=>True
 | some (.ext _)=>True
 | _=>False
section
variable {P:Program} {w:World} {H:Hp} {h h':Heap} {x e:Addr} {o':HO}
theorem HOk.write (ok:HOk P w H h) (mu:Mut (H x)) (he:e=x\/H e=some (.own x)) (k:∀b u,b≠e->h.get? b=some u->h'.get? b=some u) (heo:∃u,h'.get? e=some u)
  (new:Cm P w (upd H x o') h' x o'):HOk P w (upd H x o') h':=λb u q=>by
 have gk:∀c y,H c=some (.own y)->c≠x:=λc y r z=>by subst z;rw[r] at mu;exact mu
 have Ho:∀c xs,H c=some (.tup xs)->c≠x:=λc xs r z=>by subst z;rw[r] at mu;exact mu
 by_cases hb:b=x
 ·subst hb;rw[Ad] at q;cases q;exact new
 ·rw[Bk hb] at q;by_cases hbe:b=e
  ·have q':H b=some (.own x):=by
    rcases he with z | z
    ·exact absurd (hbe.trans z) hb
    ·rw[hbe];exact z
   rw[q] at q';cases q';obtain⟨v,hv⟩:=heo;exact⟨v,by rw[hbe];exact hv⟩
  ·refine (ok b u q).stay (λc v hc r=>k c v ?_ r) (λc r=>by rw[Bk (gk c b r)];exact r) λc xs r=>by rw[Bk (Ho c xs r)];exact r
   rcases hc with rfl | hc
   ·exact hbe
   ·rintro rfl;rcases he with z | z
    ·exact gk c b hc z
    ·rw[hc] at z;cases z;exact hb rfl
end
structure Un (fs ex:List Addr) (H H':Hp) (h h':Heap):Prop where
 keep:∀b o,h.get? b=some o->H b=none->b∉fs->b∉ex->h'.get? b=some o
 slot:∀b o,h.get? b=some o->H b=none->b∈fs->b∉ex->∃sl,h'.get? b=some { o with slots:=sl }
 free:∀b o,h.get? b=some o->H b=none->b∉ex->H' b=none
 there:∀b o,h.get? b=some o->b∉ex->∃o',h'.get? b=some o'
 tups:∀b xs,H b=some (.tup xs)->H' b=some (.tup xs)
 Gy:∀b o u,H b=some (.frz o u)->H' b=some (.frz o u)
 GR:∀b ps,H b=some (.tbl ps)->∃more,H' b=some (.tbl (ps++more))
section
variable {fs fs' ex ex':List Addr} {H H1 H2:Hp} {h h1 h2 h':Heap} {a x e:Addr} {o:HO}
theorem Un.any (u:Un fs ex H H1 h h1) {b:Addr} {ob:Obj} (q:h.get? b=some ob) (n:H b=none) (hx:b∉ex):∃sl,h1.get? b=some { ob with slots:=sl }:=by
 by_cases hb:b∈fs
 ·exact u.slot b ob q n hb hx
 ·exact⟨ob.slots,u.keep b ob q n hb hx⟩
theorem Un.trans (a:Un fs ex H H1 h h1) (b:Un fs ex H1 H2 h1 h2):Un fs ex H H2 h h2 where
 keep:=λc ob q n hc hx=>b.keep c ob (a.keep c ob q n hc hx) (a.free c ob q n hx) hc hx
 slot:=λc ob q n hc hx=>by
  obtain⟨sl,e1⟩:=a.slot c ob q n hc hx;obtain⟨sl',e2⟩:=b.slot c _ e1 (a.free c ob q n hx) hc hx;exact⟨sl',e2⟩
 free:=λc ob q n hx=>by
  obtain⟨o',e1⟩:=a.there c ob q hx;exact b.free c o' e1 (a.free c ob q n hx) hx
 there:=λc ob q hx=>by
  obtain⟨o',e1⟩:=a.there c ob q hx;exact b.there c o' e1 hx
 tups:=λc xs q=>b.tups c xs (a.tups c xs q)
 Gy:=λc ob xs q=>b.Gy c ob xs (a.Gy c ob xs q)
 GR:=λc ps q=>by
  obtain⟨m1,e1⟩:=a.GR c ps q;obtain⟨m2,e2⟩:=b.GR c _ e1;exact⟨m1++m2,by rw[e2,Array.append_assoc]⟩
theorem Un.kept (k:∀b u,h.get? b=some u->h'.get? b=some u):Un fs ex H H h h':=
 ⟨λb ob q _ _ _=>k b ob q,λb ob q _ _ _=>⟨ob.slots,k b ob q⟩,λ_ _ _ n _=>n,λb ob q _=>⟨ob,k b ob q⟩,λ_ _ q=>q,λ_ _ _ q=>q,λ_ ps q=>⟨#[],by rw[q];simp⟩⟩
theorem Un.refl:Un fs ex H H h h:=Un.kept λ_ _ q=>q
theorem Un.laid (k:∀b u,h.get? b=some u->h'.get? b=some u) (hp:h.objs.size<=a) (hn:H a=none):Un fs ex H (upd H a o) h h' where
 keep:=λb u q _ _ _=>k b u q
 slot:=λb u q _ _ _=>⟨u.slots,k b u q⟩
 free:=λb u q n _=>by rw[Bk (Qcc (QaP (Qcb q) hp))];exact n
 there:=λb u q _=>⟨u,k b u q⟩
 tups:=λb xs q=>by rw[Bk (Ay q hn)];exact q
 Gy:=λb u xs q=>by rw[Bk (Ay q hn)];exact q
 GR:=λb ps q=>⟨#[],by rw[Bk (Ay q hn),q];simp⟩
theorem Un.write (mu:Mut (H x)) (he:e=x\/H e=some (.own x)) (k:∀b u,b≠e->h.get? b=some u->h'.get? b=some u) (heo:∃u,h'.get? e=some u):Un fs ex H (upd H x o) h h':=by
 have hx:∀b,H b=none->b≠x:=λb n z=>by subst z;rw[n] at mu;exact mu
 have hb:∀b,H b=none->b≠e:=λb n z=>by
  subst z;rcases he with r | r
  ·exact hx b n r
  ·rw[n] at r;cases r
 have hm:∀b u,H b=some u->¬Mut (some u)->b≠x:=λb u q nm z=>by subst z;rw[q] at mu;exact nm mu
 refine⟨λb u q n _ _=>k b u (hb b n) q,λb u q n _ _=>⟨u.slots,k b u (hb b n) q⟩,λb u q n _=>by rw[Bk (hx b n)];exact n,λb u q _=>?_,
  λb xs q=>by rw[Bk (hm b _ q λz=>z)];exact q,λb u xs q=>by rw[Bk (hm b _ q λz=>z)];exact q,λb ps q=>⟨#[],by rw[Bk (hm b _ q λz=>z),q];simp⟩⟩
 by_cases hbe:b=e
 ·subst hbe;exact heo
 ·exact⟨u,k b u hbe q⟩
theorem Un.mono (u:Un fs ex H H1 h h1) (hs:∀b∈fs,b∈fs') (hx:∀b∈ex,b∈ex'):Un fs' ex' H H1 h h1:=
 ⟨λb ob q n hb he=>u.keep b ob q n (λz=>hb (hs b z)) λz=>he (hx b z),λ_ _ q n _ he=>u.any q n λz=>he (hx _ z),λb ob q n he=>u.free b ob q n λz=>he (hx b z),λb ob q he=>u.there b ob q λz=>he (hx b z),u.tups,u.Gy,u.GR⟩
end
def trk (h:Heap) (H:Hp):List Addr:=(List.range h.objs.size).filter λa=>(H a).isSome
def Ln (h:Heap) (H:Hp):Heap:=hideAll h (trk h H)
theorem Yy (h:Heap) (H:Hp):(Ln h H).objs.size=h.objs.size:=PySem.W.hideAll_size _ _
theorem Z6 {h:Heap} {H:Hp} {b:Addr} {o:Obj} (e:h.get? b=some o) (n:H b=none):(Ln h H).get? b=some o:=
 hideAll_get _ e λhm=>by
  have q:(H b).isSome=true:=(List.mem_filter.mp hm).2;rw[n] at q;simp at q
theorem cY {h:Heap} {H:Hp} {b:Addr} {o:Obj} (e:(Ln h H).get? b=some o):h.get? b=some o/\H b=none:=by
 have e':h.get? b=some o:=PySem.W.of_hideAll (trk h H) e;refine⟨e',?_⟩;cases q:H b with
 | none=>rfl
 | some x=>
  have hm:b∈trk h H:=List.mem_filter.mpr ⟨List.mem_range.mpr (Qcb e'),by simp[q]⟩;have z:(Ln h H).get? b=none:=PySem.W.hideAll_none (trk h H) hm;rw[z] at e;cases e
def dN (g h:Heap) (L:Addr):YC:=(List.range h.objs.size).filterMap λa=>if a=L\/(g.get? a).isSome=true then none else (h.get? a).map λo=>(a,o)
def rest (g h:Heap) (L d:Addr):YC:=(dN g h L).filter λp=>decide (p.1≠d)
structure Mod (K:YD) (mg:YB) (base:Heap):Prop where
 kin:K.In base
 glob:base.Ns mainGlobals mg
 blt:∃mb,base.Ns builtinsNs mb/\∀x:Str,x≠"__name__"->mb x=bootBuiltins x
 nolimit:base.NoLimit
structure Cx where
 prog:Program
 w:World
 K:YD
 mg:YB
 base:Heap
 A:Around
 N:YF
 s₀ : Shared
 H₀ : Hp
 env:Env
 outer:List Env
 stack:List Env
 ex:List Addr
 fn:Str->Bool
 calm:Bool
 pn:YC
 xe:YA
def frs (l:List Env):List Addr:=l.filterMap (·.frame)
abbrev Cx.fs (X:Cx):List Addr:=frs X.outer
def Vis (sc:Scope) (x:Str):Prop:=sc.names.lookup x=some .local\/sc.names.lookup x=some .cell\/sc.names.lookup x=some .free
def Loc (sc:Scope) (x:Str):Prop:=sc.names.lookup x=some .local\/sc.names.lookup x=some .cell
def Look (env:Env) (h:Heap) (m:YB) (x:Str) (u:Value):Prop:=
 (env.kindOf x=some .local/\m x=some u)\/((env.kindOf x=some .cell\/env.kindOf x=some .free)/\∃c,env.cells.lookup x=some c/\h.IsCell c (some u))
structure Cx.Ok (X:Cx):Prop where
 mod:Mod X.K X.mg X.base
 kind:X.env.scope.kind=.function
 glob:X.env.globals=mainGlobals
 blt:X.env.builtins=builtinsNs
 above:X.s₀.heap.objs.size<=X.env.locals
 inj:∀x y c,X.env.cells.lookup x=some c->X.env.cells.lookup y=some c->x=y
 has:∀x,(X.env.kindOf x=some .cell\/X.env.kindOf x=some .free)->∃c,X.env.cells.lookup x=some c
 cab:∀x c,X.fn x=true->X.env.cells.lookup x=some c->X.s₀.heap.objs.size<=c
 hd:X.calm=true->X.A.handled=none
 frames:X.A.frames=some X.stack
 stk:X.stack=X.outer\/(X.stack=X.env::X.outer/\X.env.frame=some X.env.locals)
 exf:∀b∈X.ex,b≠X.env.locals/\∀x c,X.env.cells.lookup x=some c->c≠b
 bs:∀b o,X.base.get? b=some o->X.s₀.heap.get? b=some o/\X.H₀ b=none
 bsz:X.base.objs.size<=X.s₀.heap.objs.size
 Qf:∀b o,X.base.get? b=some o->b∉X.ex
 Qz:∀b∈X.ex,b∉X.fs
 Hr:X.s₀.heap.FunFrames X.base X.outer
 frf:∀b∈X.fs,X.H₀ b=none
structure Inv (X:Cx) (jb:YC) (σ : List (Option V)) (H:Hp) (s:Shared):Prop where
 ok:X.Ok
 os:s.os=X.s₀.os
 bare:AllBare s.gens
 base:Un X.fs X.ex X.H₀ H X.s₀.heap s.heap
 loc:∃m,s.heap.Ns X.env.locals m/\∀(i:Nat) (x:Str) (v:V),X.N[i]?=some x->σ[i]?=some (some v)->Vis X.env.scope x->∃u,RelV v u/\Look X.env s.heap m x u
 cell:∀x c,X.env.cells.lookup x=some c->∃v,s.heap.IsCell c v
 free:H X.env.locals=none
 Ga:∀x c,X.env.cells.lookup x=some c->H c=none
 pin:∀p∈X.pn++jb,s.heap.get? p.1=some p.2/\H p.1=none/\p.1≠X.env.locals/\p.1∉X.fs/\∀v,p.2.data≠.cell v
 hok:HOk X.prog X.w H s.heap
 len:σ.length=X.N.length
section
variable {X:Cx} {jb:YC} {σ : List (Option V)} {H H':Hp} {s:Shared} {h':Heap}
theorem Cx.Ok.lF (ok:X.Ok) {b:Addr} {o:Obj} (e:X.base.get? b=some o):b∉X.fs:=λhb=>by
 have:=(ok.Hr.mem hb).1;rw[e] at this;cases this
theorem Inv.bs (I:Inv X jb σ H s):∀b o,X.base.get? b=some o->s.heap.get? b=some o/\H b=none:=λb o e=>
 ⟨I.base.keep b o (I.ok.bs b o e).1 (I.ok.bs b o e).2 (I.ok.lF e) (I.ok.Qf b o e),I.base.free b o (I.ok.bs b o e).1 (I.ok.bs b o e).2 (I.ok.Qf b o e)⟩
theorem Inv.bk (I:Inv X jb σ H s):∀b o,X.base.get? b=some o->s.heap.get? b=some o:=λb o e=>(I.bs b o e).1
theorem Inv.mod (I:Inv X jb σ H s):Mod X.K X.mg X.base:=I.ok.mod
theorem Inv.kIn (I:Inv X jb σ H s):X.K.In s.heap:=I.ok.mod.kin.keeps I.bk
theorem Inv.nolimit (I:Inv X jb σ H s):s.heap.NoLimit:=I.ok.mod.nolimit.keeps I.bk
theorem Inv.fr (I:Inv X jb σ H s):∃m,Fr X.base X.env.locals s.heap m:=
 let ⟨m,hn,_⟩:=I.loc
 ⟨m,hn,I.bk,Qcd I.ok.bsz I.ok.above⟩
theorem Inv.lt (I:Inv X jb σ H s):X.env.locals < s.heap.objs.size:=let ⟨_,hn,_⟩:=I.loc;hn.lt
theorem Inv.sz (I:Inv X jb σ H s):X.s₀.heap.objs.size<=s.heap.objs.size:=Qcd I.ok.above (Qcg I.lt)
theorem Inv.gq (I:Inv X jb σ H s) {a:Addr} (h:s.heap.objs.size<=a):a∉X.fs:=λhb=>by
 obtain⟨_,o,ho,_⟩:=I.ok.Hr.mem hb;exact absurd (QaP (Qcb ho) (Qcd I.sz h)) (QbV _)
theorem Inv.cne (I:Inv X jb σ H s):∀x c,X.env.cells.lookup x=some c->c≠X.env.locals:=λx c e z=>by
 obtain⟨v,o,ho,hd⟩:=I.cell x c e;obtain⟨m,⟨o',es,ep,ho',hd',_⟩,_⟩:=I.loc;rw[z,ho'] at ho;cases ho;rw[hd'] at hd;cases hd
theorem Inv.Hr (I:Inv X jb σ H s):s.heap.FunFrames X.base X.outer:=by
 have all:∀(l:List Env),(∀b∈frs l,b∈X.fs)->X.s₀.heap.FunFrames X.base l->s.heap.FunFrames X.base l:=by
  intro l
  induction l with
  | nil=>intro _ _;trivial
  | cons env r ih=>
   intro hs hl;obtain⟨hk,⟨L,o,hf,hn,ho,hd⟩,hr⟩:=hl;have hL:L∈X.fs:=hs L (by unfold frs;rw[QaK,hf];exact QaN);obtain⟨sl,e⟩:=I.base.slot L o ho (I.ok.frf L hL) hL λz=>I.ok.Qz L z hL;exact⟨hk,⟨L,_,hf,hn,e,hd⟩,ih (λb hb=>hs b (by unfold frs;rw[QaK,hf];exact Qaz _ hb)) hr⟩
 exact all X.outer (λ_ hb=>hb) I.ok.Hr
theorem Inv.stack (I:Inv X jb σ H s):s.heap.FunFrames X.base X.stack:=by
 rcases I.ok.stk with e |⟨e,hf⟩
 ·rw[e];exact I.Hr
 ·rw[e];obtain⟨m,hn,_⟩:=I.loc;refine .cons (by rw[I.ok.kind];decide) hf hn ?_ I.Hr;exact Heap.get?_none_of_le (Qcd I.ok.bsz I.ok.above)
theorem Inv.RW (I:Inv X jb σ H s):∀b∈frs X.stack,b∈X.env.locals::X.fs:=λb hb=>by
 rcases I.ok.stk with e |⟨e,hf⟩
 ·rw[e] at hb;exact Qaz _ hb
 ·rw[e] at hb;unfold frs at hb;rw[QaK,hf] at hb;exact hb
theorem Inv.Py (I:Inv X jb σ H s):∀b∈frs X.stack,H b=none:=λb hb=>by
 rcases QbS.mp (I.RW b hb) with e | hb
 ·rw[e];exact I.free
 ·obtain⟨_,o,ho,_⟩:=I.ok.Hr.mem hb;exact I.base.free b o ho (I.ok.frf b hb) λz=>I.ok.Qz b z hb
theorem Inv.step {g':Array GenState} {t':Nat} {d':Drawn} {ch:List Addr} (I:Inv X jb σ H s)
  (hch:∀b∈ch,(b∈X.ex\/X.s₀.heap.objs.size<=b)/\b≠X.env.locals/\(∀x c,X.env.cells.lookup x=some c->c≠b)/\∀p∈X.pn++jb,p.1≠b)
  (keep:∀b o,b≠X.env.locals->b∉X.fs->b∉ch->s.heap.get? b=some o->H b=none->h'.get? b=some o)
  (slot:∀b o,b≠X.env.locals->b∈X.fs->b∉ch->s.heap.get? b=some o->H b=none->∃sl,h'.get? b=some { o with slots:=sl }) (free:∀b o,b∉ch->s.heap.get? b=some o->H b=none->H' b=none)
  (there:∀b o,b∉ch->s.heap.get? b=some o->∃o',h'.get? b=some o')
  (tups:∀b xs,H b=some (.tup xs)->H' b=some (.tup xs)) (Gy:∀b o u,H b=some (.frz o u)->H' b=some (.frz o u)) (GR:∀b ps,H b=some (.tbl ps)->∃more,H' b=some (.tbl (ps++more)))
  (ns:∀m,s.heap.Ns X.env.locals m->h'.Ns X.env.locals m) (hok:HOk X.prog X.w H' h') (hg:AllBare g') :
  Inv X jb σ H' { s with heap:=h',gens:=g',drawn:=d',toks:=t' }:=by
 have neL:∀b o,X.s₀.heap.get? b=some o->b≠X.env.locals:=λb o e=>Qcc (QaP (Qcb e) I.ok.above);have neC:∀b o,X.s₀.heap.get? b=some o->b∉X.ex->b∉ch:=λb o e hx hb=>by
  rcases (hch b hb).1 with z | z
  ·exact hx z
  ·exact absurd (QaP (Qcb e) z) (QbV _)
 have cellK:∀x c,X.env.cells.lookup x=some c->∀v,s.heap.IsCell c v->h'.IsCell c v:=λx c e v ⟨o,ho,hd⟩=>by
  have nch:c∉ch:=λz=>(hch c z).2.2.1 x c e rfl;by_cases hc:c∈X.fs
  ·obtain⟨sl,q⟩:=slot c o (I.cne x c e) hc nch ho (I.Ga x c e);exact⟨_,q,hd⟩
  ·exact⟨o,keep c o (I.cne x c e) hc nch ho (I.Ga x c e),hd⟩
 refine⟨I.ok,I.os,hg,⟨λb o e n hb hx=>?_,λb o e n hb hx=>?_,λb o e n hx=>?_,λb o e hx=>?_,λb xs e=>tups b xs (I.base.tups b xs e),λb o xs e=>Gy b o xs (I.base.Gy b o xs e),λb ps e=>?_⟩,?_,λx c e=>?_,?_,λx c e=>?_,λp hp=>?_,hok,I.len⟩
 ·exact keep b o (neL b o e) hb (neC b o e hx) (I.base.keep b o e n hb hx) (I.base.free b o e n hx)
 ·obtain⟨sl,e1⟩:=I.base.slot b o e n hb hx;obtain⟨sl',e2⟩:=slot b _ (neL b o e) hb (neC b o e hx) e1 (I.base.free b o e n hx);exact⟨sl',e2⟩
 ·obtain⟨o',e1⟩:=I.base.there b o e hx;exact free b o' (neC b o e hx) e1 (I.base.free b o e n hx)
 ·obtain⟨o',e1⟩:=I.base.there b o e hx;exact there b o' (neC b o e hx) e1
 ·obtain⟨m1,e1⟩:=I.base.GR b ps e;obtain⟨m2,e2⟩:=GR b _ e1;exact⟨m1++m2,by rw[e2,Array.append_assoc]⟩
 ·obtain⟨m,hn,hl⟩:=I.loc;refine⟨m,ns m hn,λi x v e1 e2 e3=>?_⟩;obtain⟨u,r,l⟩:=hl i x v e1 e2 e3;refine⟨u,r,?_⟩;rcases l with l |⟨k,c,e,z⟩
  ·exact .inl l
  ·exact .inr ⟨k,c,e,cellK x c e _ z⟩
 ·obtain⟨v,z⟩:=I.cell x c e;exact⟨v,cellK x c e v z⟩
 ·obtain⟨m,⟨o,_,_,ho,_⟩,_⟩:=I.loc;exact free _ o (λz=>(hch _ z).2.1 rfl) ho I.free
 ·obtain⟨v,o,ho,hd⟩:=I.cell x c e;exact free c o (λz=>(hch c z).2.2.1 x c e rfl) ho (I.Ga x c e)
 ·obtain⟨e,n,ne,nf,d⟩:=I.pin p hp;have nch:p.1∉ch:=λz=>(hch p.1 z).2.2.2 p hp rfl;exact⟨keep p.1 p.2 ne nf nch e n,free p.1 p.2 nch e n,ne,nf,d⟩
theorem Inv.un {t':Nat} (I:Inv X jb σ H s) (u:Un X.fs [] H H' s.heap h') (hok:HOk X.prog X.w H' h'):Inv X jb σ H' { s with heap:=h',toks:=t' }:=by
 obtain⟨m,⟨o,es,ep,ho,r⟩,_⟩:=id I.loc;obtain⟨sl,hL⟩:=u.any ho I.free (by simp);exact I.step (g':=s.gens) (d':=s.drawn) (ch:=[]) (λ_ z=>nomatch z) (λb o _ hb _ e n=>u.keep b o e n hb (by simp)) (λb o _ hb _ e n=>u.slot b o e n hb (by simp)) (λb o _ e n=>u.free b o e n (by simp)) (λb o _ e=>u.there b o e (by simp)) u.tups u.Gy u.GR (λm' hm=>by
  obtain⟨o',es',ep',ho',r'⟩:=hm;rw[ho] at ho';cases ho';exact⟨_,es',ep',hL,r'⟩) hok I.bare
theorem Inv.call {g':Array GenState} {t':Nat} {d':Drawn} {ch:List Addr} (I:Inv X jb σ H s) (u:Un (frs X.stack) ch H H' s.heap h') (hok:HOk X.prog X.w H' h') (hg:AllBare g')
  (hch:∀b∈ch,(b∈X.ex\/X.s₀.heap.objs.size<=b)/\b≠X.env.locals/\(∀x c,X.env.cells.lookup x=some c->c≠b)/\∀p∈X.pn++jb,p.1≠b) :
  Inv X jb σ H' { s with heap:=h',gens:=g',drawn:=d',toks:=t' }:=by
 obtain⟨m,⟨o,es,ep,ho,r⟩,_⟩:=id I.loc;obtain⟨sl,hL⟩:=u.any ho I.free λz=>(hch _ z).2.1 rfl;exact I.step (ch:=ch) hch (λb o hL hb hc e n=>u.keep b o e n (λz=>(QbS.mp (I.RW b z)).elim hL hb) hc) (λb o _ _ hc e n=>u.any e n hc) (λb o hc e n=>u.free b o e n hc) (λb o hc e=>u.there b o e hc) u.tups u.Gy u.GR (λm' hm=>by
  obtain⟨o',es',ep',ho',r'⟩:=hm;rw[ho] at ho';cases ho';exact⟨_,es',ep',hL,r'⟩) hok hg
theorem Inv.turned {t':Nat} {it:Addr} (I:Inv X jb σ H s) (k:∀b o,b≠it->s.heap.get? b=some o->h'.get? b=some o) (hn:H it=none) (hL:it≠X.env.locals)
  (h1:it∈X.ex\/X.s₀.heap.objs.size<=it) (h2:∀x c,X.env.cells.lookup x=some c->c≠it) (h3:∀p∈X.pn++jb,p.1≠it):Inv X jb σ H { s with heap:=h',toks:=t' }:=by
 have nit:∀b u,H b=some u->b≠it:=λb u e z=>by rw[z,hn] at e;cases e
 refine I.step (g':=s.gens) (d':=s.drawn) (ch:=[it]) (λb hb=>?_) (λb o _ _ hc e _=>k b o (λz=>hc (by simp[z])) e) (λb o _ _ hc e _=>⟨o.slots,k b o (λz=>hc (by simp[z])) e⟩) (λ_ _ _ _ n=>n)
  (λb o hc e=>⟨o,k b o (λz=>hc (by simp[z])) e⟩) (λ_ _ e=>e) (λ_ _ _ e=>e) (λb ps e=>⟨#[],by rw[e];simp⟩) (λm hm=>?_) (λb u e=>?_) I.bare
 ·have e:b=it:=by simpa using hb
  subst e;exact⟨h1,hL,h2,h3⟩
 ·obtain⟨o,es,ep,ho,r⟩:=hm;exact⟨o,es,ep,k _ o (Ne.symm hL) ho,r⟩
 ·refine (I.hok b u e).stay (λc v hc q=>k c v ?_ q) (λ_ q=>q) λ_ _ q=>q;rcases hc with z | z
  ·rw[z];exact nit b u e
  ·exact nit c _ z
theorem Inv.tok (I:Inv X jb σ H s) (t:Nat):Inv X jb σ H { s with toks:=t }:=I.un (h':=s.heap) (t':=t) Un.refl I.hok
theorem Inv.kept {t':Nat} (I:Inv X jb σ H s) (k:∀b u,s.heap.get? b=some u->h'.get? b=some u):Inv X jb σ H { s with heap:=h',toks:=t' }:=I.un (Un.kept k) (I.hok.kept k)
theorem Inv.laid {a:Addr} {o:HO} {t':Nat} (I:Inv X jb σ H s) (k:∀b u,s.heap.get? b=some u->h'.get? b=some u) (hp:s.heap.objs.size<=a) (new:Cm X.prog X.w (upd H a o) h' a o) :
  Inv X jb σ (upd H a o) { s with heap:=h',toks:=t' }:=I.un (Un.laid k hp (I.hok.fresh hp)) (I.hok.laid k hp new)
theorem Inv.write {x e:Addr} {o:HO} {t':Nat} (I:Inv X jb σ H s) (mu:Mut (H x)) (he:e=x\/H e=some (.own x)) (k:∀b u,b≠e->s.heap.get? b=some u->h'.get? b=some u) (heo:∃u,h'.get? e=some u)
  (new:Cm X.prog X.w (upd H x o) h' x o):Inv X jb σ (upd H x o) { s with heap:=h',toks:=t' }:=I.un (Un.write mu he k heo) (I.hok.write mu he k heo new)
theorem Inv.weak {σ':List (Option V)} (I:Inv X jb σ H s) (hl:σ'.length=σ.length) (w:∀(i:Nat) v,σ'[i]?=some (some v)->σ[i]?=some (some v)):Inv X jb σ' H s:=
 ⟨I.ok,I.os,I.bare,I.base,let ⟨m,hn,hl'⟩:=I.loc;⟨m,hn,λi x v e1 e2 e3=>hl' i x v e1 (w i v e2) e3⟩,I.cell,I.free,I.Ga,I.pin,I.hok,hl.trans I.len⟩
theorem Inv.P0 {Wh:YC} (I:Inv X jb σ H s) (h:∀p∈Wh,s.heap.get? p.1=some p.2/\H p.1=none/\p.1≠X.env.locals/\p.1∉X.fs/\∀v,p.2.data≠.cell v):Inv X Wh σ H s:=
 ⟨I.ok,I.os,I.bare,I.base,I.loc,I.cell,I.free,I.Ga,λp hp=>(Qbz.mp hp).elim (λz=>I.pin p (List.mem_append_left _ z)) (h p),I.hok,I.len⟩
theorem Tv {N:YF} (hN:N.Nodup) {i j:Nat} {x:Str} (a:N[i]?=some x) (b:N[j]?=some x):i=j:=by
 obtain⟨h1,e1⟩:=Qae.mp a;obtain⟨h2,e2⟩:=Qae.mp b;exact (List.getElem_inj hN).mp (e1.trans e2.symm)
theorem Xw {M:Model} {A:Around} {E:YA} {i:Nat} {x:Str} {v:V} {u:Value} {Q:YH} (I:Inv X jb σ H s) (hN:X.N.Nodup) (hi:X.N[i]?=some x) (hx:Loc X.env.scope x) (r:RelV v u)
  (h:∀s',Inv X jb (σ.set i (some v)) H s'->(∃a,Heap.SameBut a s.heap s'.heap/\(a=X.env.locals\/X.env.cells.lookup x=some a))->Q () s') (hf:X.fn x=true\/X.env.scope.names.lookup x=some .local:=by first | exact .inl rfl | exact .inr rfl | assumption):wpAny M A (storeName X.env x u) Q E s:=by
 obtain⟨m,hn,hl⟩:=id I.loc;have hcls:(X.env.scope.kind == .class || (X.env.scope.kind == .module&&X.env.locals != X.env.globals))=false:=by rw[I.ok.kind];rfl
 have hiσ : i < σ.length:=by rw[I.len];exact (Qae.mp hi).1
 have cne:=I.cne;have tracked:∀{a:Addr} {h':Heap},(∃o,s.heap.get? a=some o/\H a=none)->Heap.SameBut a s.heap h'->HOk X.prog X.w H h':=λ{a h'} ha hs b ob e=>by
  obtain⟨_,_,hfree⟩:=ha;refine (I.hok b ob e).stay (λc w' hc q=>(hs.2 c ?_).trans q) (λ_ q=>q) λ_ _ q=>q;rintro rfl;rcases hc with rfl | hc
  ·rw[hfree] at e;cases e
  ·rw[hfree] at hc;cases hc
 rcases hx with hk | hk
 ·refine wpAny_storeName_local hk hn (λh' hn' hs=>?_) hcls;obtain⟨oL,_,_,hoL,_⟩:=id hn;refine h _ ⟨I.ok,I.os,I.bare,⟨λb o e n hb hx=>?_,λb o e n hb hx=>?_,I.base.free,λb o e hx=>?_,I.base.tups,I.base.Gy,I.base.GR⟩,⟨_,hn',λj y v' e1 e2 e3=>?_⟩,λy c e=>?_,I.free,I.Ga,λp hp=>?_,tracked ⟨oL,hoL,I.free⟩ hs,by simpa using I.len⟩ ⟨_,hs,.inl rfl⟩
  ·exact (hs.2 b (Qcc (QaP (Qcb e) I.ok.above))).trans (I.base.keep b o e n hb hx)
  ·obtain⟨sl,e1⟩:=I.base.slot b o e n hb hx;exact⟨sl,(hs.2 b (Qcc (QaP (Qcb e) I.ok.above))).trans e1⟩
  ·obtain⟨o',e1⟩:=I.base.there b o e hx;exact⟨o',(hs.2 b (Qcc (QaP (Qcb e) I.ok.above))).trans e1⟩
  ·by_cases hj:j=i
   ·subst hj;rw[hi] at e1;cases e1;rw[Qat hiσ] at e2;cases e2;exact⟨u,r,.inl ⟨hk,by simp⟩⟩
   ·rw[QaA (Ne.symm hj)] at e2;obtain⟨u',r',q⟩:=hl j y v' e1 e2 e3;refine⟨u',r',?_⟩;rcases q with⟨k,e⟩|⟨k,c,e,z⟩
    ·refine .inl ⟨k,?_⟩;have:y≠x:=λe=>hj (Tv hN e1 (e ▸ hi));simp[this,e]
    ·exact .inr ⟨k,c,e,z.sameBut hs (cne y c e)⟩
  ·obtain⟨w',z⟩:=I.cell y c e;exact⟨w',z.sameBut hs (cne y c e)⟩
  ·obtain⟨e,n,ne,nf,d⟩:=I.pin p hp;exact⟨(hs.2 p.1 ne).trans e,n,ne,nf,d⟩
 ·have hfn:X.fn x=true:=by
   rcases hf with z | z
   ·exact z
   ·rw[z] at hk;cases hk
  obtain⟨c,hc⟩:=I.ok.has x (.inl hk);obtain⟨w',z⟩:=I.cell x c hc;refine wpAny_storeName_cell I.ok.kind hk hc z (λh' hc' hs=>?_);obtain⟨oc,hoc,nP⟩:=id z;refine h { s with heap:=h' } ⟨I.ok,I.os,I.bare,⟨λb o e n hb hx=>?_,λb o e n hb hx=>?_,I.base.free,λb o e hx=>?_,I.base.tups,I.base.Gy,I.base.GR⟩,⟨m,hn.sameBut hs (Ne.symm (cne x c hc)),λj y v' e1 e2 e3=>?_⟩,λy c' e=>?_,I.free,I.Ga,λp hp=>?_,tracked ⟨oc,hoc,I.Ga x c hc⟩ hs,by simpa using I.len⟩ ⟨c,hs,.inr hc⟩
  ·exact (hs.2 b (Qcc (QaP (Qcb e) (I.ok.cab x c hfn hc)))).trans (I.base.keep b o e n hb hx)
  ·obtain⟨sl,e1⟩:=I.base.slot b o e n hb hx;exact⟨sl,(hs.2 b (Qcc (QaP (Qcb e) (I.ok.cab x c hfn hc)))).trans e1⟩
  ·obtain⟨o',e1⟩:=I.base.there b o e hx;exact⟨o',(hs.2 b (Qcc (QaP (Qcb e) (I.ok.cab x c hfn hc)))).trans e1⟩
  ·by_cases hj:j=i
   ·subst hj;rw[hi] at e1;cases e1;rw[Qat hiσ] at e2;cases e2;exact⟨u,r,.inr ⟨.inl hk,c,hc,hc'⟩⟩
   ·rw[QaA (Ne.symm hj)] at e2;obtain⟨u',r',q⟩:=hl j y v' e1 e2 e3;refine⟨u',r',?_⟩;rcases q with q |⟨k,c',e,z'⟩
    ·exact .inl q
    ·refine .inr ⟨k,c',e,z'.sameBut hs ?_⟩;rintro rfl;exact hj (Tv hN e1 (I.ok.inj _ _ _ e hc ▸ hi))
  ·by_cases hcc:c'=c
   ·subst hcc;exact⟨_,hc'⟩
   ·obtain⟨w2,z2⟩:=I.cell y c' e;exact⟨w2,z2.sameBut hs hcc⟩
  ·obtain⟨e,n,ne,nf,d⟩:=I.pin p hp;refine⟨(hs.2 p.1 ?_).trans e,n,ne,nf,d⟩;intro q;rw[q,hoc] at e;have q':oc=p.2:=QbA e;exact d w' (by rw[<-q'];exact nP)
theorem Jy {M:Model} {A:Around} {E:YA} {i:Nat} {x:Str} {v:V} {u:Value} {Q:YH} (I:Inv X jb σ H s) (hN:X.N.Nodup) (hi:X.N[i]?=some x) (hx:Loc X.env.scope x) (r:RelV v u)
  (h:∀s',Inv X jb (σ.set i (some v)) H s'->Q () s') (hf:X.fn x=true\/X.env.scope.names.lookup x=some .local:=by first | exact .inl rfl | exact .inr rfl | assumption):wpAny M A (storeName X.env x u) Q E s:=
 Xw I hN hi hx r (λs' I' _=>h s' I') hf
theorem Inv.call' {s':Shared} {ch:List Addr} (I:Inv X jb σ H s) (ho:s'.os=s.os) (u:Un (frs X.stack) ch H H' s.heap s'.heap) (hok:HOk X.prog X.w H' s'.heap) (hg:AllBare s'.gens)
  (hch:∀b∈ch,(b∈X.ex\/X.s₀.heap.objs.size<=b)/\b≠X.env.locals/\(∀x c,X.env.cells.lookup x=some c->c≠b)/\∀p∈X.pn++jb,p.1≠b):Inv X jb σ H' s':=by
 obtain⟨h',g',d',t',o'⟩:=s';have e:o'=s.os:=ho;subst e;exact I.call (g':=g') (t':=t') (d':=d') u hok hg hch
end
abbrev XK:=Value->Option Addr->Hp->Prop
abbrev St:=List (Option V)
abbrev VK:=V->Hp->Prop
abbrev TE:=St->Hp->VK->Prop
abbrev TT:=St->Hp->(Bool->Hp->Prop)->Prop
abbrev TA:=St->Hp->(YG->Hp->Prop)->Prop
structure Ends where
 nx:St->Hp->Prop
 rt:VK
 bk:St->Hp->Prop:=λ_ _=>False
 ct:St->Hp->Prop:=λ_ _=>False
abbrev YO:=St->Hp->Prop
abbrev TS:=Ends->YO
def EP (X:Cx) (jb:YC) (σ : St) (Q:VK) (u:Value) (s':Shared):Prop:=∃v H',Inv X jb σ H' s'/\RelV v u/\Q v H'
def TP (X:Cx) (jb:YC) (σ : St) (Q:Bool->Hp->Prop) (b:Bool) (s':Shared):Prop:=∃H',Inv X jb σ H' s'/\Q b H'
def AP (X:Cx) (jb:YC) (σ : St) (Q:YG->Hp->Prop) (us:YE) (s':Shared):Prop:=∃vs H',Inv X jb σ H' s'/\Vals vs us/\Q vs H'
def SP (X:Cx) (jb:YC) (D:Ends) (f:Flow) (s':Shared):Prop:=
 match f with
 | .next=>∃ σ' H',Inv X jb σ' H' s'/\D.nx σ' H'
 | .brk=>∃ σ' H',Inv X jb σ' H' s'/\D.bk σ' H'
 | .cont=>∃ σ' H',Inv X jb σ' H' s'/\D.ct σ' H'
 | .ret u=>∃v σ' H',Inv X jb σ' H' s'/\RelV v u/\D.rt v H'
def PE (X:Cx) (e:Expr) (t:TE):Prop:=
 ∀(jb:YC) (s:Shared) (σ : St) (H:Hp) (Q:VK),Inv X jb σ H s->t σ H Q->wpAny (model X.prog X.w) X.A (eval e X.env) (EP X jb σ Q) X.xe s
def PT (X:Cx) (e:Expr) (t:TT):Prop:=
 ∀(jb:YC) (s:Shared) (σ : St) (H:Hp) (Q:Bool->Hp->Prop),Inv X jb σ H s->t σ H Q->wpAny (model X.prog X.w) X.A (isTrue e X.env (eval e X.env)) (TP X jb σ Q) X.xe s
def PW (X:Cx) (e:Expr) (t:TT):Prop:=
 ∀(whole:Sem Value) (jb:YC) (s:Shared) (σ : St) (H:Hp) (Q:Bool->Hp->Prop),Inv X jb σ H s->t σ H Q->wpAny (model X.prog X.w) X.A (isTrue e X.env whole) (TP X jb σ Q) X.xe s
theorem PW.pt {X:Cx} {e:Expr} {t:TT} (h:PW X e t):PT X e t:=h _
def PA (X:Cx) (es:YJ) (t:TA):Prop:=
 ∀(pos:Pos) (jb:YC) (s:Shared) (σ : St) (H:Hp) (Q:YG->Hp->Prop),Inv X jb σ H s->t σ H Q->wpAny (model X.prog X.w) X.A (spliced (backTo pos (starEach es X.env))) (AP X jb σ Q) X.xe s
def PS (X:Cx) (st:Stmt) (t:TS):Prop:=
 ∀(jb:YC) (s:Shared) (σ : St) (H:Hp) (D:Ends),Inv X jb σ H s->t D σ H->wpAny (model X.prog X.w) X.A (exec st X.env) (SP X jb D) X.xe s
def PSs (X:Cx) (st:List Stmt) (t:TS):Prop:=
 ∀(jb:YC) (s:Shared) (σ : St) (H:Hp) (D:Ends),Inv X jb σ H s->t D σ H->wpAny (model X.prog X.w) X.A (execs st X.env) (SP X jb D) X.xe s
theorem thn {α : Type} {t:Sem α} {Q Q':α->Shared->Prop} {M:Model} {A:Around} {E:YA} {s:Shared} (h:wpAny M A t Q E s) (hQ:∀a s,Q a s->Q' a s):wpAny M A t Q' E s:=Qcn h hQ λ_ _ x=>x
section
variable {X:Cx}
theorem bin {a b:Expr} {ta tb:TE} (ha:PE X a ta) (hb:PE X b tb) {jb:YC} {s:Shared} {σ : St} {H:Hp} {R:V->V->Hp->Prop} (I:Inv X jb σ H s) (h:ta σ H λx H1=>tb σ H1 λy H2=>R x y H2)
  {α : Type} {Q:α->Shared->Prop} {f:Value->Value->Sem α}
  (hf:∀v u s2 x y H2,Inv X jb σ H2 s2->RelV x v->RelV y u->R x y H2->wpAny (model X.prog X.w) X.A (f v u) Q X.xe s2) :
  wpAny (model X.prog X.w) X.A (eval a X.env) (λv s₁=>wpAny (model X.prog X.w) X.A (eval b X.env) (λu s₂=>wpAny (model X.prog X.w) X.A (f v u) Q X.xe s₂) X.xe s₁) X.xe s:=by
 refine thn (ha jb s σ H _ I h) λv s1 zz=>?_;obtain⟨x,H1,I1,r1,q1⟩:=zz;refine thn (hb jb s1 σ H1 _ I1 q1) λu s2 zz=>?_;obtain⟨y,H2,I2,r2,q2⟩:=zz;exact hf v u s2 x y H2 I2 r1 r2 q2
def dZ (i:Nat):TE:=fun σ H Q=>∃v,σ[i]?=some (some v)/\Q v H
def tC (v:V):TE:=λ_ H Q=>Q v H
theorem fU {i:Nat} {x:Str} {pos:Pos} (hN:X.N[i]?=some x) (hv:Vis X.env.scope x) (hd:(x == ("__debug__":Str))=false:=by decide) (hcd:(x == ("__classdict__":Str))=false:=by decide):PE X (.Name x pos) (dZ i):=by
 intro jb s σ H Q I h;obtain⟨v,e,h⟩:=h;obtain⟨m,hn,hl⟩:=I.loc;obtain⟨u,r,l⟩:=hl i x v hN e hv;have fin:EP X jb σ Q u s:=⟨v,H,I,r,h⟩;rcases l with⟨hk,hm⟩|⟨hk,c,hc,hcell⟩
 ·exact wpAny_Name (wpAny_loadName_local I.ok.kind hk hn hm fin) hd
 ·rcases hk with hk | hk
  ·exact wpAny_Name (wpAny_loadName_cell I.ok.kind hk hc hcell fin) hd
  ·exact wpAny_Name (wpAny_loadName_free I.ok.kind hk hc hcell fin hcd) hd
theorem Ab {i j pos}:PE X (.Constant (.int i) j pos) (tC (.int i)):=λ_ _ _ H _ I h=>wpAny_Constant_int ⟨.int i,H,I.tok _,⟨_,rfl⟩,h⟩
theorem Ca {b j pos}:PE X (.Constant (.bool b) j pos) (tC (.bl b)):=λ_ _ _ H _ I h=>Constant_bool ⟨.bl b,H,I,rfl,h⟩
theorem Yg {j pos}:PE X (.Constant .none j pos) (tC .non):=λ_ _ _ H _ I h=>Constant_none ⟨.non,H,I,rfl,h⟩
theorem Bj {x j pos}:PE X (.Constant (.str x) j pos) (tC (.str x)):=λ_ _ _ H _ I h=>Calls.Constant_str ⟨.str x,H,I.tok _,⟨_,rfl⟩,h⟩
def Gl (X:Cx) (x:Str):Prop:=X.env.kindOf x=some .globalImplicit
theorem Qn {E:YA} {jb:YC} {s:Shared} {σ : St} {H:Hp} {x:Str} {u:Value} {pos:Pos} {Q:YA} (I:Inv X jb σ H s) (hg:Gl X x) (hm:X.mg x=some u) (h:Q u s)
  (hd:(x == ("__debug__":Str))=false:=by decide):wpAny (model X.prog X.w) X.A (eval (.Name x pos) X.env) Q E s:=
 Calls.Name_function_global I.ok.kind hg (Calls.loadGlobal_global (by rw[I.ok.glob];exact I.mod.glob.keeps I.bk) hm h) hd
theorem Gn {E:YA} {jb:YC} {s:Shared} {σ : St} {H:Hp} {x:Str} {u:Value} {pos:Pos} {Q:YA} (I:Inv X jb σ H s) (hg:Gl X x) (hm:X.mg x=none) (hv:bootBuiltins x=some u) (h:Q u s)
  (hn:x≠"__name__":=by decide) (hd:(x == ("__debug__":Str))=false:=by decide):wpAny (model X.prog X.w) X.A (eval (.Name x pos) X.env) Q E s:=by
 obtain⟨mb,h1,h2⟩:=I.mod.blt;exact Calls.Name_function_global I.ok.kind hg (Calls.loadGlobal_builtin (by rw[I.ok.glob];exact I.mod.glob.keeps I.bk) hm (by rw[I.ok.blt];exact h1.keeps I.bk) ((h2 x hn).trans hv) h) hd
theorem cJ {x:Str} {v:V} {u:Value} {pos:Pos} (hg:Gl X x) (hm:X.mg x=some u) (r:RelV v u) (hd:(x == ("__debug__":Str))=false:=by decide):PE X (.Name x pos) (tC v):=
 λ_ _ _ H _ I h=>Qn I hg hm ⟨v,H,I,r,h⟩ hd
theorem Cz {x:Str} {v:V} {u:Value} {pos:Pos} (hg:Gl X x) (hm:X.mg x=none) (hv:bootBuiltins x=some u) (r:RelV v u) (hn:x≠"__name__":=by decide) (hd:(x == ("__debug__":Str))=false:=by decide):PE X (.Name x pos) (tC v):=
 λ_ _ _ H _ I h=>Gn I hg hm hv ⟨v,H,I,r,h⟩ hn hd
variable {a b:Expr} {ta tb:TE} {pos:Pos}
def PC (X:Cx) (op:CmpOp) (a b:Expr) (t:TE):Prop:=
 ∀(jb:YC) (s:Shared) (σ : St) (H:Hp) (Q:VK),Inv X jb σ H s->t σ H Q ->
  wpAny (model X.prog X.w) X.A (eval a X.env) (λv s₁=>wpAny (model X.prog X.w) X.A (eval b X.env) (λu s₂=>wpAny (model X.prog X.w) X.A (compareOp op v u) (EP X jb σ Q) X.xe s₂) X.xe s₁) X.xe s
theorem ZC (b:Expr) {op:CmpOp} (h:op≠.In) (h2:op≠.NotIn):behindInMarks op b=false:=by
 have e1:(op == CmpOp.In)=false:=by cases op <;> first | rfl | exact absurd rfl h
 have e2:(op == CmpOp.NotIn)=false:=by cases op <;> first | rfl | exact absurd rfl h2
 cases b <;> simp[behindInMarks,e1,e2]
def tB (t:TE):TT:=fun σ H Q=>t σ H λx H1=>∃c,x=.bl c/\Q c H1
theorem qF {op:CmpOp} {t:TE} (h:PC X op a b t) (h1:behindInMarks op b=false:=by first | exact ZC _ (by decide) (by decide) | rfl):PT X (.Compare a [op] [b] pos) (tB t):=by
 intro jb s σ H Q I hw;refine wpAny_isTrue_Compare1 (thn (h jb s σ H _ I hw) λv s1 h1=>thn h1 λu s2 h2=>thn h2 λc s3 zz=>?_) h1;obtain⟨x,H1,I1,r1,q1⟩:=zz;obtain⟨d,rfl,q⟩:=q1;cases r1;exact Qbf ⟨H1,I1,q⟩
theorem BW {e:Expr} {t:TE} (h:PE X e t) (he:∀whole,isTrue e X.env whole=(do let v <-whole;standAt e.pos;holding [v] (truthy v)):=by intro _;rfl):PT X e (tB t):=by
 intro jb s σ H Q I hw;refine isTrue_plain (thn (h jb s σ H _ I hw) λv s1 zz=>?_) (he _);obtain⟨x,H1,I1,r1,q1⟩:=zz;obtain⟨d,rfl,q⟩:=q1;cases r1;exact Qbf ⟨H1,I1,q⟩
variable {tA tB':TT} {rest:YJ}
def lB (t u:TT):TT:=fun σ H Q=>t σ H λc H1=>if c=true then u σ H1 Q else Q false H1
def tOr (t u:TT):TT:=fun σ H Q=>t σ H λc H1=>if c=true then Q true H1 else u σ H1 Q
def kW (t:TT):TT:=fun σ H Q=>t σ H λc H1=>Q (!c) H1
theorem PN (ha:PT X a tA):PW X (.BoolOp .And [a] pos) tA:=by
 intro wh jb s σ H Q I h;refine isTrue_and (thn (ha jb s σ H Q I h) λc s1 e=>?_);cases c with
 | true=>exact isTrue_and_nil e
 | false=>exact e
theorem Hg (ha:PT X a tA):PW X (.BoolOp .Or [a] pos) tA:=by
 intro wh jb s σ H Q I h;refine isTrue_or (thn (ha jb s σ H Q I h) λc s1 e=>?_);cases c with
 | false=>exact isTrue_or_nil e
 | true=>exact e
theorem O1 (ha:PT X a tA) (hb:PW X (.BoolOp .And (b::rest) pos) tB'):PW X (.BoolOp .And (a::b::rest) pos) (lB tA tB'):=by
 intro wh jb s σ H Q I h;refine isTrue_and (thn (ha jb s σ H _ I h) λc s1 zz=>?_);obtain⟨H1,I1,q1⟩:=zz;cases c with
 | true=>exact hb wh jb s1 σ H1 Q I1 q1
 | false=>exact⟨H1,I1,q1⟩
theorem FT (ha:PT X a tA) (hb:PW X (.BoolOp .Or (b::rest) pos) tB'):PW X (.BoolOp .Or (a::b::rest) pos) (tOr tA tB'):=by
 intro wh jb s σ H Q I h;refine isTrue_or (thn (ha jb s σ H _ I h) λc s1 zz=>?_);obtain⟨H1,I1,q1⟩:=zz;cases c with
 | true=>exact⟨H1,I1,q1⟩
 | false=>exact hb wh jb s1 σ H1 Q I1 q1
theorem Cv (ha:PT X a tA):PT X (.UnaryOp .Not a pos) (kW tA):=by
 intro jb s σ H Q I h;exact isTrue_not (ha jb s σ H (λc H1=>Q (!c) H1) I h)
def jo (ta tb:TE):TE:=fun σ H Q=>ta σ H λx H1=>∃c,x=.bl c/\if c=true then tb σ H1 Q else Q (.bl false) H1
def kO (ta tb:TE):TE:=fun σ H Q=>ta σ H λx H1=>∃c,x=.bl c/\if c=true then Q (.bl true) H1 else tb σ H1 Q
def jj (ta:TE):TE:=fun σ H Q=>ta σ H λx H1=>∃c,x=.bl c/\Q (.bl (!c)) H1
theorem Cj {op} {t:TE} (h:PE X a t):PE X (.BoolOp op [a] pos) t:=λjb s σ H Q I hw=>BoolOp_one (h jb s σ H Q I hw)
theorem BP (ha:PE X a ta) (hb:PE X (.BoolOp .And (b::rest) pos) tb):PE X (.BoolOp .And (a::b::rest) pos) (jo ta tb):=by
 intro jb s σ H Q I h;refine BoolOp_and (thn (ha jb s σ H _ I h) λv s1 zz=>?_);obtain⟨x,H1,I1,r1,q1⟩:=zz;obtain⟨c,rfl,q1⟩:=q1;cases r1;refine Qbf ?_;cases c with
 | true=>exact hb jb s1 σ H1 Q I1 q1
 | false=>exact⟨.bl false,H1,I1,rfl,q1⟩
theorem Wi (ha:PE X a ta) (hb:PE X (.BoolOp .Or (b::rest) pos) tb):PE X (.BoolOp .Or (a::b::rest) pos) (kO ta tb):=by
 intro jb s σ H Q I h;refine BoolOp_or (thn (ha jb s σ H _ I h) λv s1 zz=>?_);obtain⟨x,H1,I1,r1,q1⟩:=zz;obtain⟨c,rfl,q1⟩:=q1;cases r1;refine Qbf ?_;cases c with
 | false=>exact hb jb s1 σ H1 Q I1 q1
 | true=>exact⟨.bl true,H1,I1,rfl,q1⟩
theorem O4 (ha:PE X a ta):PE X (.UnaryOp .Not a pos) (jj ta):=by
 intro jb s σ H Q I h;refine UnaryOp_ (thn (ha jb s σ H _ I h) λv s1 zz=>?_);obtain⟨x,H1,I1,r1,q1⟩:=zz;obtain⟨c,rfl,q1⟩:=q1;cases r1;exact not_of (Qbf ⟨.bl (!c),H1,I1,rq,q1⟩)
end
def SqL (K:YD) (H:Hp) (a:Addr) (xs:YG):Prop:=
 Rd H a (.lst xs) \/
  ∃(o:Obj) (its:Array Value) (n:Nat),K.lookup a=some o/\o.cls=.type "list"/\o.dict=none/\o.data=.seq its n/\its.size<=sizeLine/\Vals xs its.toList
def SqT (K:YD) (H:Hp) (a:Addr) (xs:YG):Prop:=
 Rd H a (.tup xs) \/
  ∃(o:Obj) (its:Array Value) (n:Nat),K.lookup a=some o/\o.cls=.type "tuple"/\o.data=.seq its n/\its.size<=sizeLine/\Vals xs its.toList
def qy:Value->Option V
 | .none=>some .non
 | .bool b=>some (.bl b)
 | .int i _=>some (.int i)
 | .str x _=>some (.str x)
 | .bytes b _=>some (.byt b)
 | .float b _=>some (.flt b)
 | .ref a=>some (.ref a)
 | .type n=>some (.ty n)
 | _=>none
theorem RelV.abs {x:V} {u:Value} (r:RelV x u):qy u=some x:=by
 cases x with
 | non=>cases r;rfl
 | bl _=>cases r;rfl
 | int _=>obtain⟨t,rfl⟩:=r;rfl
 | str _=>obtain⟨t,rfl⟩:=r;rfl
 | byt _=>obtain⟨t,rfl⟩:=r;rfl
 | flt _=>obtain⟨t,rfl⟩:=r;rfl
 | ref _=>cases r;rfl
 | ty _=>cases r;rfl
theorem RelV.inj {x y:V} {u:Value} (r:RelV x u) (q:RelV y u):x=y:=QbA (r.abs.symm.trans q.abs)
theorem Vals.inj:∀{xs ys:YG} {us:YE},Vals xs us->Vals ys us->xs=ys
 | _,_,_,.nil,.nil=>rfl
 | _,_,_,.cons r t,.cons r' t'=>by rw[r.inj r',Vals.inj t t']
section
variable {X:Cx} {jb:YC} {σ : St} {H:Hp} {s:Shared} {a:Addr} {xs ys:YG}
theorem SqL.of {K:YD} (h:H a=some (.lst xs)):SqL K H a xs:=.inl (.inl h)
theorem SqT.of {K:YD} (h:H a=some (.tup xs)):SqT K H a xs:=.inl (.inl h)
theorem Inv.list (I:Inv X jb σ H s) (h:SqL X.K H a xs):∃its:YE,Vals xs its/\PlainL s.heap a its.toArray/\xs.length<=sizeLine:=by
 rcases h with h |⟨o,its,n,hk,hc,hd,hs,hz,r⟩
 ·obtain⟨z,its,n,r,e⟩:=h.ok I.hok;exact⟨its,r,⟨_,n,e,rq,rq,rq⟩,z⟩
 ·refine⟨its.toList,r,⟨o,n,I.kIn a o hk,hc,hd,by simpa using hs⟩,?_⟩;have e:=r.length;simp only[QaF] at e;omega
theorem Inv.tuple (I:Inv X jb σ H s) (h:SqT X.K H a xs):∃its:YE,Vals xs its/\IsTup s.heap a its.toArray/\xs.length<=sizeLine:=by
 rcases h with h |⟨o,its,n,hk,hc,hs,hz,r⟩
 ·obtain⟨z,its,r,p⟩:=h.ok I.hok;exact⟨its,r,p,z⟩
 ·refine⟨its.toList,r,⟨o,I.kIn a o hk,hc,n,by simpa using hs⟩,?_⟩;have e:=r.length;simp only[QaF] at e;omega
theorem Inv.Od (I:Inv X jb σ H s) (h:SqL X.K H a xs) (h':SqL X.K H a ys):xs=ys:=by
 obtain⟨its,r,⟨o,n,e,_,_,d⟩,_⟩:=I.list h;obtain⟨its',r',⟨o',n',e',_,_,d'⟩,_⟩:=I.list h';rw[e] at e';cases e';rw[d] at d';injection d' with d1 _;have:its=its':=by simpa using congrArg Array.toList d1
 subst this;exact r.inj r'
theorem Inv.QK (I:Inv X jb σ H s) (h:SqT X.K H a xs) (h':SqT X.K H a ys):xs=ys:=by
 obtain⟨its,r,⟨o,e,_,n,d⟩,_⟩:=I.tuple h;obtain⟨its',r',⟨o',e',_,n',d'⟩,_⟩:=I.tuple h';rw[e] at e';cases e';rw[d] at d';injection d' with d1 _;have:its=its':=by simpa using congrArg Array.toList d1
 subst this;exact r.inj r'
end
abbrev Cx.wish (X:Cx) (E:YA):Cx:={ X with xe:=E }
abbrev Cx.nox (X:Cx):Cx:=X.wish λ_ _=>False
theorem Cx.Ok.wish {X:Cx} (ok:X.Ok) (E:YA):(X.wish E).Ok:=
 ⟨ok.mod,ok.kind,ok.glob,ok.blt,ok.above,ok.inj,ok.has,ok.cab,ok.hd,ok.frames,ok.stk,ok.exf,ok.bs,ok.bsz,ok.Qf,ok.Qz,ok.Hr,ok.frf⟩
theorem Cx.Ok.Ft {X:Cx} {E:YA} (ok:(X.wish E).Ok):X.Ok:=
 ⟨ok.mod,ok.kind,ok.glob,ok.blt,ok.above,ok.inj,ok.has,ok.cab,ok.hd,ok.frames,ok.stk,ok.exf,ok.bs,ok.bsz,ok.Qf,ok.Qz,ok.Hr,ok.frf⟩
section
variable {X:Cx} {jb:YC} {σ : St} {H:Hp} {s:Shared} {E:YA}
theorem Inv.wish (I:Inv X jb σ H s) (E:YA):Inv (X.wish E) jb σ H s:=⟨I.ok.wish E,I.os,I.bare,I.base,I.loc,I.cell,I.free,I.Ga,I.pin,I.hok,I.len⟩
theorem Inv.Ft (I:Inv (X.wish E) jb σ H s):Inv X jb σ H s:=⟨I.ok.Ft,I.os,I.bare,I.base,I.loc,I.cell,I.free,I.Ga,I.pin,I.hok,I.len⟩
theorem SP.Ft {D:Ends} {f:Flow} {s':Shared} (h:SP (X.wish E) jb D f s'):SP X jb D f s':=by
 cases f with
 | next=>obtain⟨σ',H',I,q⟩:=h;exact⟨σ',H',I.Ft,q⟩
 | brk=>obtain⟨σ',H',I,q⟩:=h;exact⟨σ',H',I.Ft,q⟩
 | cont=>obtain⟨σ',H',I,q⟩:=h;exact⟨σ',H',I.Ft,q⟩
 | ret u=>obtain⟨v,σ',H',I,r,q⟩:=h;exact⟨v,σ',H',I.Ft,r,q⟩
theorem PE.nox {e:Expr} {t:TE} (h:PE X.nox e t):PE X e t:=λjb s σ H Q I hw=>
 Qcn (h jb s σ H Q (I.wish _) hw) (λ_ _ ⟨v,H',I',r,q⟩=>⟨v,H',I'.Ft,r,q⟩) λ_ _ z=>False.elim z
theorem PT.nox {e:Expr} {t:TT} (h:PT X.nox e t):PT X e t:=λjb s σ H Q I hw=>
 Qcn (h jb s σ H Q (I.wish _) hw) (λ_ _ ⟨H',I',q⟩=>⟨H',I'.Ft,q⟩) λ_ _ z=>False.elim z
theorem PSs.nox {st:List Stmt} {t:TS} (h:PSs X.nox st t):PSs X st t:=λjb s σ H D I hw=>
 Qcn (h jb s σ H D (I.wish _) hw) (λ_ _ q=>q.Ft) λ_ _ z=>False.elim z
end
section
variable {X:Cx} {st:Stmt} {rest:List Stmt} {t u:TS} {e:Expr} {te:TE} {pos:Pos}
def jk:TS:=λD σ H=>D.nx σ H
def Aw (t u:TS):TS:=λD σ H=>t { D with nx:=u D } σ H
theorem Bg:PSs X [] jk:=λ_ _ σ H _ I h=>wpAny_execs_nil ⟨σ,H,I,h⟩
theorem Af (h1:PS X st t) (h2:PSs X rest u):PSs X (st::rest) (Aw t u):=by
 intro jb s σ H D I h;refine wpAny_execs_cons (thn (h1 jb s σ H { D with nx:=u D } I h) λf s1 q=>?_);cases f with
 | next=>
  obtain⟨σ',H',I',q⟩:=q;exact h2 jb s1 σ' H' D I' q
 | ret v=>exact q
 | brk=>exact q
 | cont=>exact q
theorem Ag (h1:PS X st t):PSs X [st] t:=by
 intro jb s σ H D I h;refine wpAny_execs_cons (thn (h1 jb s σ H D I h) λf s1 q=>?_);cases f with
 | next=>exact wpAny_execs_nil q
 | ret v=>exact q
 | brk=>exact q
 | cont=>exact q
theorem Inv.quiet {jb:YC} {σ : St} {H:Hp} {s:Shared} (I:Inv X jb σ H s):interactive X.env=false:=by simp[interactive,I.ok.kind]
def jl (te:TE):TS:=λD σ H=>te σ H λ_ H1=>D.nx σ H1
theorem Ej (he:PE X e te) (hs:swapsWith e none pos.line X.env=pure false:=by rfl):PS X (.Expr e pos) (jl te):=by
 intro jb s σ H D I h;refine wpAny_Expr_any (thn (he jb s σ H _ I h) λv s1 zz=>?_) I.quiet hs;obtain⟨x,H1,I1,r1,q1⟩:=zz;exact⟨σ,H1,I1,q1⟩
def kj (te:TE):TS:=λD σ H=>te σ H D.rt
theorem Aq (he:PE X e te):PS X (.Return (some e) pos) (kj te):=by
 intro jb s σ H D I h;refine wpAny_Return_some (thn (he jb s σ H _ I h) λv s1 zz=>?_);obtain⟨x,H1,I1,r1,q1⟩:=zz;exact⟨x,σ,H1,I1,r1,q1⟩
def BX (c:TT) (t u:TS):TS:=λD σ H=>c σ H λb H1=>if b=true then t D σ H1 else u D σ H1
theorem Bm {c:Expr} {a b:List Stmt} {tc:TT} (hc:PT X c tc) (ha:PSs X a t) (hb:PSs X b u):PS X (.If c a b pos) (BX tc t u):=by
 intro jb s σ H D I h;refine wpAny_If (thn (hc jb s σ H _ I h) λd s1 zz=>?_);obtain⟨H1,I1,q1⟩:=zz;cases d with
 | true=>exact ha jb s1 σ H1 D I1 q1
 | false=>exact hb jb s1 σ H1 D I1 q1
end
abbrev TG:=V->St->Hp->(YO)->Prop
abbrev TGs:=YG->St->Hp->(YO)->Prop
def PG (X:Cx) (target:Expr) (t:TG):Prop:=
 ∀(jb:YC) (s:Shared) (σ : St) (H:Hp) (v:V) (u:Value) (Q:YO),Inv X jb σ H s->RelV v u->t v σ H Q ->
  wpAny (model X.prog X.w) X.A (assign target X.env u) (λ_ s'=>∃ σ' H',Inv X jb σ' H' s'/\Q σ' H') X.xe s
def PGs (X:Cx) (ts:YJ) (t:TGs):Prop:=
 ∀(jb:YC) (s:Shared) (σ : St) (H:Hp) (vs:YG) (us:YE) (Q:YO),Inv X jb σ H s->Vals vs us->t vs σ H Q ->
  wpAny (model X.prog X.w) X.A (assignInOrder ((assignEach ts X.env).map (·.2)) us) (λ_ s'=>∃ σ' H',Inv X jb σ' H' s'/\Q σ' H') X.xe s
abbrev aG:=V->V->V->Hp->(Hp->Prop)->Prop
def iU (X:Cx) (t:aG):Prop:=
 ∀(jb:YC) (s:Shared) (σ : St) (H:Hp) (o i v:V) (ov iv u:Value) (Q:Hp->Prop),Inv X jb σ H s->RelV o ov->RelV i iv->RelV v u->t o i v H Q ->
  wpAny (model X.prog X.w) X.A (setItem ov iv u) (λ_ s'=>∃H',Inv X jb σ H' s'/\Q H') X.xe s
section
variable {X:Cx} {pos:Pos}
def Ni (i:Nat):TG:=λv σ H Q=>Q (σ.set i (some v)) H
theorem Bb {i:Nat} {x:Str} (hN:X.N.Nodup) (hi:X.N[i]?=some x) (hx:Loc X.env.scope x) (hf:X.fn x=true\/X.env.scope.names.lookup x=some .local:=by first | exact .inl rfl | exact .inr rfl | assumption):PG X (.Name x pos) (Ni i):=by
 intro jb s σ H v u Q I r h;exact wpAny_assign_Name (Jy I hN hi hx r (λs' I'=>⟨_,H,I',h⟩) hf)
def oJ:TGs:=λvs σ H Q=>vs=[]/\Q σ H
def jW (t:TG) (u:TGs):TGs:=λvs σ H Q=>∃v r,vs=v::r/\t v σ H fun σ' H'=>u r σ' H' Q
theorem DW:PGs X [] oJ:=by
 intro jb s σ H vs us Q I r h;obtain⟨e,h⟩:=h;subst e;cases r;exact assignInOrder_nil ⟨σ,H,I,h⟩
theorem Bu {e:Expr} {es:YJ} {t:TG} {u:TGs} (h1:PG X e t) (h2:PGs X es u)
  (hs:(assignEach (e::es) X.env).map (·.2)=assign e X.env::(assignEach es X.env).map (·.2):=by rfl):PGs X (e::es) (jW t u):=by
 intro jb s σ H vs us Q I r h;obtain⟨v,vr,e1,h⟩:=h;subst e1;cases r with
 | cons r rr=>
  rw[hs];refine assignInOrder_cons (thn (h1 jb s σ H _ _ _ I r h) λ_ s1 zz=>?_);obtain⟨σ1,H1,I1,q1⟩:=zz;exact h2 jb s1 σ1 H1 _ _ Q I1 rr q1
def iy (K:YD) (n:Nat) (t:TGs):TG:=λv σ H Q=>∃a xs,v=.ref a/\SqT K H a xs/\xs.length=n/\t xs σ H Q
theorem JM {es:YJ} {k:Nat} {t:TGs} {n:Nat} (hc:X.calm=true) (h:PGs X es t)
  (hn:(assignEach es X.env).length=n:=by rfl) (hst:(assignEach es X.env).findIdx? (·.1)=none:=by rfl):PG X (.Tuple es k pos) (iy X.K n t):=by
 intro jb s σ H v u Q I r hw;obtain⟨a,xs,e1,hq,hl,hw⟩:=hw;subst e1;cases r;obtain⟨its,rv,ht,hz⟩:=I.tuple hq;refine assign_Tuple_tuple (I.ok.hd hc) ht (by simp[hn,<-hl,rv.length]) hst λh' hx=>?_;have I1:Inv X jb σ H { s with heap:=h' }:=I.kept (t':=s.toks) λb o e=>hx b o (Qcc (Qcb e)) e;exact h jb _ σ H xs _ Q I1 (by simpa using rv) hw
def oH (to ti:TE) (t:aG):TG:=λv σ H Q=>to σ H λo H1=>ti σ H1 λi H2=>t o i v H2 λH3=>Q σ H3
theorem Yd {o i:Expr} {to ti:TE} {t:aG} (ho:PE X o to) (hi:PE X i ti) (hs:iU X t)
  (ha:∀v,assign (.Subscript o i pos) X.env v=(do
   let ov <-holding [v] (eval o X.env);let iv <-holding [v,ov] (eval i X.env)
   standAt pos
   holding [v,ov,iv] (setItem ov iv v)
   release [v,ov,iv] []):=by intro _;rfl):PG X (.Subscript o i pos) (oH to ti t):=by
 intro jb s σ H v u Q I r h;rw[ha];refine Qcl (QbW (thn (ho jb s σ H _ I h) λov s1 zz=>?_));obtain⟨x,H1,I1,r1,q1⟩:=zz;refine Qcl (QbW (thn (hi jb s1 σ H1 _ I1 q1) λiv s2 zz=>?_));obtain⟨y,H2,I2,r2,q2⟩:=zz;refine Qcl (wpAny_standAt (Qcl (QbW (thn (hs jb s2 σ H2 x y v ov iv u _ I2 r1 r2 r q2) λ_ s3 zz=>?_))));obtain⟨H3,I3,q3⟩:=zz;exact wpAny_release ⟨σ,H3,I3,q3⟩
def Zf (te:TE) (g:TG):TS:=λD σ H=>te σ H λx H1=>g x σ H1 D.nx
theorem IV {tg e:Expr} {te:TE} {g:TG} (he:PE X e te) (hg:PG X tg g) (hs:swapsWithSole [tg] e pos.line X.env=pure false:=by rfl) (hw:swappedStores [tg] e X.env=pure none:=by rfl)
  (h1:(assignEach [tg] X.env).map (·.2)=[assign tg X.env]:=by rfl):PS X (.Assign [tg] e pos) (Zf te g):=by
 intro jb s σ H D I h;refine wpAny_Assign_stores (thn (he jb s σ H _ I h) λv s1 zz=>?_) hs hw;obtain⟨x,H1,I1,r1,q1⟩:=zz;rw[h1];exact thn (hg jb s1 σ H1 x v _ I1 r1 q1) λ_ s2 q=>q
theorem Bv {i:Nat} {x:Str} {e:Expr} {te:TE} {pos':Pos} (hN:X.N.Nodup) (hi:X.N[i]?=some x) (hx:Loc X.env.scope x) (he:PE X e te) (hs:swapsWith e (some (.Name x pos')) pos.line X.env=pure false:=by rfl) (hf:X.fn x=true\/X.env.scope.names.lookup x=some .local:=by first | exact .inl rfl | exact .inr rfl | assumption) :
  PS X (.Assign [.Name x pos'] e pos) (Zf te (Ni i)):=by
 intro jb s σ H D I h;refine wpAny_Assign_Name (thn (he jb s σ H _ I h) λv s1 zz=>?_) hs;obtain⟨y,H1,I1,r1,q1⟩:=zz;exact Jy I1 hN hi hx r1 (λs2 I2=>⟨_,H1,I2,q1⟩) hf
def kJ (i j:Nat) (ta:TA):TS:=λD σ H=>ta σ H λvs H1=>∃v w,vs=[v,w]/\D.nx ((σ.set i (some v)).set j (some w)) H1
theorem X7 {i j:Nat} {x y:Str} {a b:Expr} {ta:TA} {px py pt:Pos} {kt k2 pt2} (hc:X.calm=true) (hN:X.N.Nodup) (hi:X.N[i]?=some x) (hj:X.N[j]?=some y) (hij:i≠j)
  (hx:X.env.scope.names.lookup x=some .local) (hy:X.env.scope.names.lookup y=some .local) (ha:PA X [a,b] ta)
  (hw:swappedStores [.Tuple [.Name x px,.Name y py] kt pt] (.Tuple [a,b] k2 pt2) X.env=pure (some [x,y]))
  (hs:swapsWithSole [.Tuple [.Name x px,.Name y py] kt pt] (.Tuple [a,b] k2 pt2) pos.line X.env=pure false:=by rfl) :
  PS X (.Assign [.Tuple [.Name x px,.Name y py] kt pt] (.Tuple [a,b] k2 pt2) pos) (kJ i j ta):=by
 intro jb s σ H D I h;rw[exec_Assign_arm];refine Qcl (wpAny_standAt ?_);rw[hs];refine Qcl (Qcm ?_);rw[if_neg (by decide)];refine Qcl (Tuple_ (thn (ha _ jb s σ H _ I h) λus s1 zz=>?_));obtain⟨vs,H1,I1,r1,q1⟩:=zz;obtain⟨v,w,e1,q1⟩:=q1;subst e1;obtain⟨u1,u2,rfl,rv,rw'⟩ : ∃u1 u2,us=[u1,u2]/\RelV v u1/\RelV w u2:=by
  cases r1 with
  | cons p q=>
   cases q with
   | cons p' q'=>
    cases q';exact⟨_,_,rq,p,p'⟩
 refine Qbd ?_ (by show 2<=sizeLine;decide);have I2:Inv X jb σ H1 { s1 with heap:=s1.heap.push { cls:=.type "tuple",data:=.seq [u1,u2].toArray } }:=I1.kept (t':=s1.toks) λb o e=>Qaq _ e;rw[hw];refine Qcl (Qcm ?_);show wpAny (model X.prog X.w) X.A (do rule "assign.swapped-stores";let items <-unpackItems (.ref s1.heap.objs.size) 2 none;assignInOrder [λv=>bindName X.env y v,λv=>bindName X.env x v] items.reverse;pure Flow.next) _ _ _
 refine Qcl (Qco (Qcl (unpackItems_tuple (items:=#[u1,u2]) (I.ok.hd hc) (IsTup.new s1.heap _) λh' hx'=>?_)));have I3:=I2.kept (h':=h') (t':=s1.toks) λb o e=>hx' b o (Qcc (Qcb e)) e;show wpAny _ _ (assignInOrder [λv=>bindName X.env y v,λv=>bindName X.env x v] [u2,u1] >>= λ_=>pure Flow.next) _ _ _;refine Qcl (assignInOrder_cons (wpAny_bindName (Jy I3 hN hj (.inl hy) rw' (λs2 I4=>?_) (.inr hy))));refine assignInOrder_cons (wpAny_bindName (Jy I4 hN hi (.inl hx) rv (λs3 I5=>assignInOrder_nil (Qcm ?_)) (.inr hx)));rw[List.set_comm _ _ (Ne.symm hij)] at I5;exact⟨_,H1,I5,q1⟩
end
section
variable {X:Cx} {pos:Pos}
end
structure It where
 go:Nat->Hp->Prop
 yld:Nat->Hp->V->Hp->Prop
 stop:Nat->Hp->Prop
def Ii (X:Cx) (jb:YC) (H:Hp) (b:Addr):Prop:=
 H b=none/\b≠X.env.locals/\b∉X.fs/\(b∈X.ex\/X.s₀.heap.objs.size<=b)/\(∀x c,X.env.cells.lookup x=some c->c≠b)/\∀p∈X.pn++jb,p.1≠b
theorem Inv.Qx {X:Cx} {jb:YC} {σ : St} {H H':Hp} {s:Shared} {b:Addr} (I:Inv X jb σ H s) (hb:s.heap.objs.size<=b) (hn:H' b=none):Ii X jb H' b:=by
 refine⟨hn,Qcf (QaP I.lt hb),I.gq hb,.inr (Qcd I.sz hb),λx c e z=>?_,λp hp z=>?_⟩
 ·obtain⟨v,q⟩:=I.cell x c e;exact absurd (QaP q.lt (by rw[z];exact hb)) (QbV _)
 ·exact absurd (QaP (Qcb (I.pin p hp).1) (by rw[z];exact hb)) (QbV _)
structure Turn (P:Program) (w:World) (K:YD) (tg:Expr) (J:It) (fp:List Addr) (it:Addr) (tn:Nat->Heap->Prop):Prop where
 mem:it∈fp
 obj:∀i h,tn i h->∀b∈fp,∃o,h.get? b=some o/\∀v,o.data≠.cell v
 keep:∀i h h',tn i h->(∀b∈fp,∀o,h.get? b=some o->h'.get? b=some o)->tn i h'
 item:∀(X:Cx),X.prog=P->X.w=w->X.K=K->X.calm=true->∀(i:Nat) (jb:YC) (s:Shared) (σ : St) (H:Hp) (E:YA),Inv X jb σ H s->(∀b∈fp,Ii X jb H b)->tn i s.heap->J.go i H ->
  wpAny (model P w) X.A (pyNext (.ref it)) (λr s1=>∃u,r=some u /\
   wpAny (model P w) X.A (letOwnedTupleGo tg (.ref it) u) (λ_ s2=>∃x H',Inv X jb σ H' s2/\RelV x u/\J.yld i H x H'/\tn (i+1) s2.heap/\∀b∈fp,H' b=none) E s1) E s
 done:∀(X:Cx),X.prog=P->X.w=w->X.K=K->X.calm=true->∀(i:Nat) (jb:YC) (s:Shared) (σ : St) (H:Hp) (E:YA),Inv X jb σ H s->(∀b∈fp,Ii X jb H b)->tn i s.heap->J.stop i H ->
  wpAny (model P w) X.A (pyNext (.ref it)) (λr s1=>r=none/\Inv X jb σ H s1) E s
 self:∀(A:Around) (i:Nat) (s:Shared) (Q:YA) (E:YA),tn i s.heap->Q (.ref it) s->wpAny (model P w) A (pyIter (.ref it)) Q E s
abbrev TI:=St->Hp->(It->Hp->Prop)->Prop
def PIE (X:Cx) (jb:YC) (σ : St) (tg:Expr) (R:It->Hp->Prop) (itv:Value) (s2:Shared):Prop:=
 ∃(it:Addr) (fp:List Addr) (tn:Nat->Heap->Prop) (J:It) (H':Hp),itv=.ref it/\Inv X jb σ H' s2/\Turn X.prog X.w X.K tg J fp it tn/\tn 0 s2.heap/\(∀b∈fp,Ii X jb H' b)/\R J H'
def PI (X:Cx) (tg iter:Expr) (wi:TI):Prop:=
 ∀(jb:YC) (s:Shared) (σ : St) (H:Hp) (R:It->Hp->Prop),Inv X jb σ H s->wi σ H R ->
  wpAny (model X.prog X.w) X.A (eval iter X.env) (λv s1=>wpAny (model X.prog X.w) X.A (pyIter v) (PIE X jb σ tg R) X.xe s1) X.xe s
theorem WL {M:Model} {A:Around} {E:YA} {s:Shared} {tg:Expr} {it:Addr} {u:Value} {o:Obj} {n:String} {vs:Array Value} {Q:YH} (ho:s.heap.get? it=some o) (hc:o.cls=.type n) (hd:o.data=.fields vs)
    (hn:["enumerate","zip","dict_itemiterator","dict_reverseitemiterator","odict_iterator","itertools.zip_longest","itertools.pairwise"].contains n=false) (hQ:Q () s):wpAny M A (letOwnedTupleGo tg (.ref it) u) Q E s:=by
  unfold letOwnedTupleGo;cases tg <;> first
    | exact Qcm hQ
    | (cases u <;> first
        | exact Qcm hQ
        | (refine Qcl (wpAny_load ho ?_)
           rw[hc,hd];show wpAny M A (if (["enumerate","zip","dict_itemiterator","dict_reverseitemiterator","odict_iterator","itertools.zip_longest","itertools.pairwise"].contains n&&vs[0]? == some (rawInt _))=true then _ else _) Q E s
           rw[if_neg (by intro h;rw[hn,QbO] at h;cases h)];exact Qcm hQ))
def Itl (K:YD) (a:Addr):It:=
 ⟨λi H=>∃xs x,SqL K H a xs/\xs[i]?=some x,λi H x H'=>H'=H/\∀xs,SqL K H a xs->xs[i]?=some x,λi H=>∃xs,SqL K H a xs/\xs.length<=i⟩
def Itt (K:YD) (a:Addr):It:=
 ⟨λi H=>∃xs x,SqT K H a xs/\xs[i]?=some x,λi H x H'=>H'=H/\∀xs,SqT K H a xs->xs[i]?=some x,λi H=>∃xs,SqT K H a xs/\xs.length<=i⟩
def Itr (lo:Int) (n:Nat):It:=⟨λi _=>i < n,λi H x H'=>H'=H/\x=.int (lo+i),λi _=>n<=i⟩
theorem Xp {P:Program} {w:World} {K:YD} {tg:Expr} (a it:Addr):Turn P w K tg (Itl K a) [it] it (λi h=>h.IsListIter it a i) where
 mem:=by simp
 obj:=λi h st b hb=>by
  have e:b=it:=by simpa using hb
  subst e;obtain⟨o,e,c,d⟩:=st;exact⟨o,e,λv z=>by rw[d] at z;cases z⟩
 keep:=λi h h' st k=>st.at λo e=>k it (by simp) o e
 item:=by
  intro X hP hw hK hc i jb s σ H E I hf st hg;subst hP hw hK;obtain⟨xs,x,hq,hx⟩:=hg;obtain⟨its,rv,p,hz⟩:=I.list hq;obtain⟨u,hu,ru⟩:=rv.get hx;obtain⟨f0,f1,f2,f3,f4,f5⟩:=hf it (by simp);refine wpAny_pyNext_list_item st p.isList (x:=u) (by simpa using hu) λh' st' sb=>?_;have I1:Inv X jb σ H { s with heap:=h' }:=I.turned (t':=s.toks) (λb o hb e=>(sb.2 b hb).trans e) f0 f1 f3 f4 f5;obtain⟨o,e,c,d⟩:=id st';exact⟨u,rq,WL (s:={ s with heap:=h' }) e c d (by decide) ⟨x,H,I1,ru,⟨rq,λys hy=>by rw[I.Od hy hq];exact hx⟩,st',λb hb=>(hf b hb).1⟩⟩
 done:=by
  intro X hP hw hK hc i jb s σ H E I hf st hg;subst hP hw hK;obtain⟨xs,hq,hx⟩:=hg;obtain⟨its,rv,p,hz⟩:=I.list hq;obtain⟨f0,f1,f2,f3,f4,f5⟩:=hf it (by simp);have hl:=rv.length;exact wpAny_pyNext_list_end (I.ok.hd hc) st p.isList (by simp;omega) λh' eb=>⟨rq,I.turned (t':=s.toks) (λb o hb e=>eb b o hb e) f0 f1 f3 f4 f5⟩
 self:=λ_ _ _ _ _ st h=>wpAny_pyIter_listiter st h
theorem VL {P:Program} {w:World} {K:YD} {tg:Expr} (a it:Addr):Turn P w K tg (Itt K a) [it] it (λi h=>h.IsTupleIter it a i) where
 mem:=by simp
 obj:=λi h st b hb=>by
  have e:b=it:=by simpa using hb
  subst e;obtain⟨o,e,c,d⟩:=st;exact⟨o,e,λv z=>by rw[d] at z;cases z⟩
 keep:=λi h h' st k=>st.at λo e=>k it (by simp) o e
 item:=by
  intro X hP hw hK hc i jb s σ H E I hf st hg;subst hP hw hK;obtain⟨xs,x,hq,hx⟩:=hg;obtain⟨its,rv,p,hz⟩:=I.tuple hq;obtain⟨u,hu,ru⟩:=rv.get hx;obtain⟨f0,f1,f2,f3,f4,f5⟩:=hf it (by simp);refine wpAny_pyNext_tuple_item st (show s.heap.IsTuple a its.toArray from p) (x:=u) (by simpa using hu) λh' st' sb=>?_
  have I1:Inv X jb σ H { s with heap:=h' }:=I.turned (t':=s.toks) (λb o hb e=>(sb.2 b hb).trans e) f0 f1 f3 f4 f5;obtain⟨o,e,c,d⟩:=id st';exact⟨u,rq,WL (s:={ s with heap:=h' }) e c d (by decide) ⟨x,H,I1,ru,⟨rq,λys hy=>by rw[I.QK hy hq];exact hx⟩,st',λb hb=>(hf b hb).1⟩⟩
 done:=by
  intro X hP hw hK hc i jb s σ H E I hf st hg;subst hP hw hK;obtain⟨xs,hq,hx⟩:=hg;obtain⟨its,rv,p,hz⟩:=I.tuple hq;obtain⟨f0,f1,f2,f3,f4,f5⟩:=hf it (by simp);have hl:=rv.length;exact wpAny_pyNext_tuple_end (I.ok.hd hc) st (show s.heap.IsTuple a its.toArray from p) (by simp;omega) λh' eb=>⟨rq,I.turned (t':=s.toks) (λb o hb e=>eb b o hb e) f0 f1 f3 f4 f5⟩
 self:=λ_ _ _ _ _ st h=>wpAny_pyIter_tupleiter st h
theorem VN {P:Program} {w:World} {K:YD} {tg:Expr} (it:Addr) (lo:Int) (n:Nat):Turn P w K tg (Itr lo n) [it] it (λi h=>IsRangeIter h it (lo+(i:Nat)*1) ((n:Int) - (i:Nat)) 1) where
 mem:=by simp
 obj:=λi h st b hb=>by
  have e:b=it:=by simpa using hb
  subst e;exact⟨_,st,λv z=>by
   have z':Data.fields _=Data.cell v:=z;cases z'⟩
 keep:=λi h h' st k=>k it (by simp) _ st
 item:=by
  intro X hP hw hK hc i jb s σ H E I hf st hg;subst hP hw hK;obtain⟨f0,f1,f2,f3,f4,f5⟩:=hf it (by simp);have W:=Walks.range (prog:=X.prog) (w:=X.w) (I.ok.hd hc) it lo 1 n;refine W.item i s _ _ hg st λv h' tk hv st' kk=>?_;obtain⟨t,rfl⟩:=hv;have I1:Inv X jb σ H { s with heap:=h',toks:=tk }:=I.turned (λb o hb e=>kk b o (by simpa using hb) e) f0 f1 f3 f4 f5;refine⟨_,rq,WL (s:={ s with heap:=h',toks:=tk }) (n:="range_iterator") st' rfl rfl (by decide) ⟨.int (lo+i),H,I1,⟨t,?_⟩,⟨rq,rq⟩,st',λb hb=>(hf b hb).1⟩⟩;rw[Int.mul_one]
 done:=by
  intro X hP hw hK hc i jb s σ H E I hf st hg;subst hP hw hK;obtain⟨f0,f1,f2,f3,f4,f5⟩:=hf it (by simp);exact wpAny_pyNext_range_end (I.ok.hd hc) st (by have:n<=i:=hg;omega) λh' eb=>⟨rq,I.turned (t':=s.toks) (λb o hb e=>eb b o hb e) f0 f1 f3 f4 f5⟩
 self:=λ_ _ _ _ _ st h=>wpAny_pyIter_rangeiter st h
section
variable {X:Cx} {tg:Expr}
def jK (K:YD) (tl:TE):TI:=fun σ H R=>tl σ H λx H1=>∃a,x=.ref a/\(∃xs,SqL K H1 a xs)/\R (Itl K a) H1
def nH (K:YD) (tl:TE):TI:=fun σ H R=>tl σ H λx H1=>∃a,x=.ref a/\(∃xs,SqT K H1 a xs)/\R (Itt K a) H1
theorem KH {l:Expr} {tl:TE} (hl:PE X l tl):PI X tg l (jK X.K tl):=by
 intro jb s σ H R I h;refine thn (hl jb s σ H _ I h) λv s1 zz=>?_;obtain⟨x,H1,I1,r1,q1⟩:=zz;obtain⟨a,e,⟨xs,hq⟩,q⟩:=q1;subst e;cases r1;obtain⟨its,rv,p,hz⟩:=I1.list hq;refine Qbi p.isList ?_;refine⟨s1.heap.objs.size,[s1.heap.objs.size],_,_,H1,rq,I1.kept (t':=s1.toks) λb o e=>Qaq _ e,Xp a _,⟨_,QaE _ rfl,rq,rq⟩,λb hb=>?_,q⟩;have e:b=s1.heap.objs.size:=by simpa using hb
 subst e;exact I1.Qx (Qch _) (I1.hok.fresh (Qch _))
theorem Ek {l:Expr} {tl:TE} (hl:PE X l tl):PI X tg l (nH X.K tl):=by
 intro jb s σ H R I h;refine thn (hl jb s σ H _ I h) λv s1 zz=>?_;obtain⟨x,H1,I1,r1,q1⟩:=zz;obtain⟨a,e,⟨xs,hq⟩,q⟩:=q1;subst e;cases r1;obtain⟨its,rv,p,hz⟩:=I1.tuple hq;refine QaU (show s1.heap.IsTuple a its.toArray from p) ?_
 refine⟨s1.heap.objs.size,[s1.heap.objs.size],_,_,H1,rq,I1.kept (t':=s1.toks) λb o e=>Qaq _ e,VL a _,⟨_,QaE _ rfl,rq,rq⟩,λb hb=>?_,q⟩;have e:b=s1.heap.objs.size:=by simpa using hb
 subst e;exact I1.Qx (Qch _) (I1.hok.fresh (Qch _))
theorem Td {jb:YC} {σ : St} {H:Hp} {s:Shared} {R:It->Hp->Prop} {E:YA} {lo hi:Int} {t u v:Tok} {tk:Nat} (I:Inv X jb σ H s) (h1:-(2 ^ 62)<=lo) (h2:lo < 2 ^ 62) (h3:-(2 ^ 62)<=hi) (h4:hi < 2 ^ 62)
  (q:R (Itr lo (hi - lo).toNat) H):wpAny (model X.prog X.w) X.A (pyIter (.ref s.heap.objs.size)) (PIE X jb σ tg R) E { s with heap:=s.heap.push { cls:=.type "range",data:=.fields #[.int lo t,.int hi u,.int 1 v] },toks:=tk }:=by
 refine wpAny_pyIter_range (IsRange.new ..) (small_one h1 h2 h3 h4) ?_;have I1:Inv X jb σ H { s with heap:=s.heap.push { cls:=.type "range",data:=.fields #[.int lo t,.int hi u,.int 1 v] },toks:=tk }:=I.kept λb o e=>Qaq _ e;refine⟨(s.heap.push { cls:=.type "range",data:=.fields #[.int lo t,.int hi u,.int 1 v] }).objs.size,[(s.heap.push { cls:=.type "range",data:=.fields #[.int lo t,.int hi u,.int 1 v] }).objs.size],_,_,H,rq,
  I1.kept (t':=tk) λb o e=>Qaq _ e,VN _ lo (hi - lo).toNat,?_,λb hb=>?_,q⟩
 ·have e1:lo+((0:Nat):Int)*1=lo:=by simp
  have e2:(((hi - lo).toNat:Nat):Int) - ((0:Nat):Int)=Builtin.Range.rangeSize lo hi 1:=by rw[rangeSize_one];split <;> omega
  show IsRangeIter _ _ (lo+((0:Nat):Int)*1) ((((hi - lo).toNat:Nat):Int) - ((0:Nat):Int)) 1;rw[e1,e2];exact QaE _ rfl
 ·have e:b=(s.heap.push { cls:=.type "range",data:=.fields #[.int lo t,.int hi u,.int 1 v] }).objs.size:=by simpa using hb
  subst e;exact I1.Qx (Qch _) (I1.hok.fresh (Qch _))
def jJ (ta:TA):TI:=fun σ H R=>ta σ H λvs H1=>∃j:Int,vs=[.int j]/\-(2 ^ 62)<=j/\j < 2 ^ 62/\R (Itr 0 j.toNat) H1
def jH (ta:TA):TI:=fun σ H R=>ta σ H λvs H1=>∃i j:Int,vs=[.int i,.int j]/\(-(2 ^ 62)<=i/\i < 2 ^ 62/\-(2 ^ 62)<=j/\j < 2 ^ 62)/\R (Itr i (j - i).toNat) H1
theorem Er {a:Expr} {ta:TA} {p pos:Pos} (hg:Gl X "range") (hm:X.mg "range"=none) (ha:PA X [a] ta) (hs:starEach [a] X.env=[(false,eval a X.env)]:=by rfl):PI X tg (.Call (.Name "range" p) [a] [] pos) (jJ ta):=by
 intro jb s σ H R I h;refine Call_ (Gn I hg hm boot_range (Qac (thn (ha pos jb s σ H _ I h) λus s1 zz=>?_) hs rfl));obtain⟨vs,H1,I1,r1,q1⟩:=zz;obtain⟨j,e,q1,q2,q⟩:=q1;subst e;cases r1 with
 | cons r rr=>
  cases rr;obtain⟨t,rfl⟩:=r;exact call_range_1 (Td I1 (by omega) (by omega) q1 q2 (by simpa using q))
theorem Yc {a b:Expr} {ta:TA} {p pos:Pos} (hg:Gl X "range") (hm:X.mg "range"=none) (ha:PA X [a,b] ta) (hs:starEach [a,b] X.env=[(false,eval a X.env),(false,eval b X.env)]:=by rfl) (hs2:starEach [b] X.env=[(false,eval b X.env)]:=by rfl) :
  PI X tg (.Call (.Name "range" p) [a,b] [] pos) (jH ta):=by
 intro jb s σ H R I h;refine Call_ (Gn I hg hm boot_range (Qac (thn (ha pos jb s σ H _ I h) λus s1 zz=>?_) (by rw[hs,hs2]) (by rw[hs2];rfl)));obtain⟨vs,H1,I1,r1,q1⟩:=zz;obtain⟨i,j,e,⟨q1,q2,q3,q4⟩,q⟩:=q1;subst e;cases r1 with
 | cons r rr=>
  cases rr with
  | cons r' rr=>
   cases rr;obtain⟨t,rfl⟩:=r;obtain⟨t',rfl⟩:=r';exact call_range_2 (Td I1 q1 q2 q3 q4 q)
abbrev YN:=Nat->YO
def KZ (wi:TI) (g:TG) (tb:TS):TS:=λD σ H=>wi σ H λJ H1=>∃W:Nat->YN,(∃m,W 0 m σ H1)/\∀i m σ H,W i m σ H ->
 (J.stop i H/\D.nx σ H)\/(J.go i H/\∃N:YO,(∀ σ' H',N σ' H'->∃m',m' < m/\W (i+1) m' σ' H')/\∀x H',J.yld i H x H'->g x σ H' fun σ2 H2=>tb { D with nx:=N,ct:=N,bk:=D.nx } σ2 H2)
def Mr (fp:List Addr) (h:Heap):YC:=fp.filterMap λb=>(h.get? b).map λo=>(b,o)
theorem Lk {fp:List Addr} {h:Heap} {b:Addr} {o:Obj} (hb:b∈fp) (e:h.get? b=some o):(b,o)∈Mr fp h:=List.mem_filterMap.mpr ⟨b,hb,by rw[e];rfl⟩
theorem Yn {fp:List Addr} {h:Heap} {p:Addr×Obj} (hp:p∈Mr fp h):p.1∈fp/\h.get? p.1=some p.2:=by
 obtain⟨b,hb,e⟩:=List.mem_filterMap.mp hp;cases q:h.get? b with
 | none=>rw[q] at e;cases e
 | some o=>
  rw[q] at e;have e':(b,o)=p:=QbA e;subst e';exact⟨hb,q⟩
theorem Inv.pinned {jb:YC} {σ : St} {H:Hp} {s:Shared} {fp:List Addr} (I:Inv X jb σ H s) (hf:∀b∈fp,Ii X jb H b) (ho:∀b∈fp,∃o,s.heap.get? b=some o/\∀v,o.data≠.cell v):Inv X (jb++Mr fp s.heap) σ H s:=
 I.P0 λp hp=>(Qbz.mp hp).elim (λz=>I.pin p (Qav _ z)) λz=>by
  obtain⟨hb,e⟩:=Yn z;obtain⟨f0,f1,f2,_⟩:=hf p.1 hb;obtain⟨o,e',d⟩:=ho p.1 hb;rw[e] at e';cases e';exact⟨e,f0,f1,f2,d⟩
theorem Inv.Jw {jb pl:YC} {σ : St} {H:Hp} {s:Shared} (I:Inv X (jb++pl) σ H s):Inv X jb σ H s:=I.P0 λp hp=>I.pin p (Qav _ (List.mem_append_left _ hp))
theorem IK {iter:Expr} {body:List Stmt} {wi:TI} {g:TG} {tb:TS} {pos:Pos} (hp:PassesOwn (model X.prog X.w) X.A X.env X.xe) (hc:X.calm=true) (hi:PI X tg iter wi) (hg:PG X tg g) (hb:PSs X body tb)
  (hs:∀x,foldedSetIterable iter X.env x=pure x:=by intro _;rfl):PS X (.For tg iter body [] pos) (KZ wi g tb):=by
 intro jb s σ H D I h;refine wpAny_For (thn (hi jb s σ H _ I h) λv s1 h1=>thn h1 λitv s2 h2=>?_) hs;obtain⟨it,fp,tn,J,H2,e,I2,T,st2,f2,W,⟨m0,w0⟩,turn⟩:=h2;subst e;have stat:∀{H':Hp},(∀b∈fp,H' b=none)->∀b∈fp,Ii X jb H' b:=λhn b hb=>⟨hn b hb,(f2 b hb).2⟩;refine codeAny_forLoop_any (λn s'=>∃i σ' H',Inv X jb σ' H' s'/\tn i s'.heap/\(∀b∈fp,H' b=none)/\W i n σ' H') ?_ m0 ⟨0,σ,H2,I2,st2,λb hb=>(f2 b hb).1,w0⟩;rintro n s3 ⟨i,σ3,H3,I3,st3,fr3,w3⟩;rcases turn i n σ3 H3 w3 with⟨stop,qn⟩|⟨go,N,hN,step⟩
 ·refine wpAny_passesOwn hp (thn (T.done X rfl rfl rfl hc i jb s3 σ3 H3 X.xe I3 (stat fr3) st3 stop) λr s4 zz=>?_);obtain⟨hr,I4⟩:=zz;subst hr;exact wpAny_execs_nil ⟨σ3,H3,I4,qn⟩
 ·refine wpAny_passesOwn hp (thn (T.item X rfl rfl rfl hc i jb s3 σ3 H3 X.xe I3 (stat fr3) st3 go) λr s4 zz=>?_);obtain⟨u,hr,h4⟩:=zz;subst hr;refine wpAny_passesOwn hp (thn h4 λ_ s5 zz=>?_);obtain⟨x,H5,I5,r5,y5,st5,fr5⟩:=zz;have I5':=I5.pinned (stat fr5) (T.obj _ _ st5);refine wpAny_passesOwn hp (thn (hg _ s5 σ3 H5 x u _ I5' r5 (step x H5 y5)) λ_ s6 zz=>?_);obtain⟨σ6,H6,I6,q6⟩:=zz;refine wpAny_passesOwn hp (thn (hb _ s6 σ6 H6 _ I6 q6) λf s7 q7=>?_);have again:∀{σ7:St} {H7:Hp},Inv X (jb++Mr fp s5.heap) σ7 H7 s7->N σ7 H7->∃m,m < n/\∃i σ' H',Inv X jb σ' H' s7/\tn i s7.heap/\(∀b∈fp,H' b=none)/\W i m σ' H':=λ{σ7 H7} I7 n7=>by
   obtain⟨m',hm,w7⟩:=hN σ7 H7 n7;refine⟨m',hm,i+1,σ7,H7,I7.Jw,T.keep _ _ _ st5 λb hb o e=>(I7.pin (b,o) (Qav _ (Qav _ (Lk hb e)))).1,λb hb=>?_,w7⟩;obtain⟨o,e,d⟩:=T.obj _ _ st5 b hb;exact (I7.pin (b,o) (Qav _ (Qav _ (Lk hb e)))).2.1
  cases f with
  | next=>obtain⟨σ7,H7,I7,n7⟩:=q7;exact again I7 n7
  | cont=>obtain⟨σ7,H7,I7,n7⟩:=q7;exact again I7 n7
  | brk=>obtain⟨σ7,H7,I7,q7⟩:=q7;exact⟨σ7,H7,I7.Jw,q7⟩
  | ret v=>obtain⟨x7,σ7,H7,I7,r7,q7⟩:=q7;exact⟨x7,σ7,H7,I7.Jw,r7,q7⟩
end
theorem Ue {K:YD} {a:Addr} {xs:YG} {g:TG} {tb:TS} {D:Ends} {σ : St} {H:Hp} (Pv:YN) (h0:Pv 0 σ H) (hl:∀i σ H,i<=xs.length->Pv i σ H->SqL K H a xs)
  (hs:∀i x σ H,xs[i]?=some x->Pv i σ H->g x σ H fun σ2 H2=>tb { D with nx:=Pv (i+1),ct:=Pv (i+1),bk:=D.nx } σ2 H2) (hd:∀ σ H,Pv xs.length σ H->D.nx σ H) :
  ∃W:Nat->YN,(∃m,W 0 m σ H)/\∀i m σ H,W i m σ H ->
   ((Itl K a).stop i H/\D.nx σ H)\/((Itl K a).go i H/\∃N:YO,(∀ σ' H',N σ' H'->∃m',m' < m/\W (i+1) m' σ' H')/\∀x H',(Itl K a).yld i H x H'->g x σ H' fun σ2 H2=>tb { D with nx:=N,ct:=N,bk:=D.nx } σ2 H2):=by
 refine⟨λi m σ H=>m=xs.length - i/\i<=xs.length/\Pv i σ H,⟨xs.length,by simp,Qci _,h0⟩,?_⟩;rintro i m σ H ⟨rfl,hi,p⟩;have q:=hl i σ H hi p;by_cases hlt:i < xs.length
 ·refine .inr ⟨⟨xs,xs[i],q,by simp[hlt]⟩,Pv (i+1),fun σ' H' p'=>⟨xs.length - (i+1),by omega,rq,hlt,p'⟩,λx H' y=>?_⟩;obtain⟨e,y⟩:=y;subst e;exact hs i x σ _ (y xs q) p
 ·have e:i=xs.length:=by omega
  subst e;exact .inl ⟨⟨xs,q,Qch _⟩,hd σ H p⟩
theorem Qy {K:YD} {a:Addr} {xs:YG} {g:TG} {tb:TS} {D:Ends} {σ : St} {H:Hp} (Pv:YN) (h0:Pv 0 σ H) (hl:∀i σ H,i<=xs.length->Pv i σ H->SqT K H a xs)
  (hs:∀i x σ H,xs[i]?=some x->Pv i σ H->g x σ H fun σ2 H2=>tb { D with nx:=Pv (i+1),ct:=Pv (i+1),bk:=D.nx } σ2 H2) (hd:∀ σ H,Pv xs.length σ H->D.nx σ H) :
  ∃W:Nat->YN,(∃m,W 0 m σ H)/\∀i m σ H,W i m σ H ->
   ((Itt K a).stop i H/\D.nx σ H)\/((Itt K a).go i H/\∃N:YO,(∀ σ' H',N σ' H'->∃m',m' < m/\W (i+1) m' σ' H')/\∀x H',(Itt K a).yld i H x H'->g x σ H' fun σ2 H2=>tb { D with nx:=N,ct:=N,bk:=D.nx } σ2 H2):=by
 refine⟨λi m σ H=>m=xs.length - i/\i<=xs.length/\Pv i σ H,⟨xs.length,by simp,Qci _,h0⟩,?_⟩;rintro i m σ H ⟨rfl,hi,p⟩;have q:=hl i σ H hi p;by_cases hlt:i < xs.length
 ·refine .inr ⟨⟨xs,xs[i],q,by simp[hlt]⟩,Pv (i+1),fun σ' H' p'=>⟨xs.length - (i+1),by omega,rq,hlt,p'⟩,λx H' y=>?_⟩;obtain⟨e,y⟩:=y;subst e;exact hs i x σ _ (y xs q) p
 ·have e:i=xs.length:=by omega
  subst e;exact .inl ⟨⟨xs,q,Qch _⟩,hd σ H p⟩
theorem Mz {lo:Int} {n:Nat} {g:TG} {tb:TS} {D:Ends} {σ : St} {H:Hp} (Pv:YN) (h0:Pv 0 σ H)
  (hs:∀i σ H,i < n->Pv i σ H->g (.int (lo+i)) σ H fun σ2 H2=>tb { D with nx:=Pv (i+1),ct:=Pv (i+1),bk:=D.nx } σ2 H2) (hd:∀ σ H,Pv n σ H->D.nx σ H) :
  ∃W:Nat->YN,(∃m,W 0 m σ H)/\∀i m σ H,W i m σ H ->
   ((Itr lo n).stop i H/\D.nx σ H)\/((Itr lo n).go i H/\∃N:YO,(∀ σ' H',N σ' H'->∃m',m' < m/\W (i+1) m' σ' H')/\∀x H',(Itr lo n).yld i H x H'->g x σ H' fun σ2 H2=>tb { D with nx:=N,ct:=N,bk:=D.nx } σ2 H2):=by
 refine⟨λi m σ H=>m=n - i/\i<=n/\Pv i σ H,⟨n,by simp,Qci _,h0⟩,?_⟩;rintro i m σ H ⟨rfl,hi,p⟩;by_cases hlt:i < n
 ·refine .inr ⟨hlt,Pv (i+1),fun σ' H' p'=>⟨n - (i+1),by omega,rq,hlt,p'⟩,λx H' y=>?_⟩;obtain⟨e,y⟩:=y;subst e y;exact hs i σ _ hlt p
 ·have e:i=n:=by omega
  subst e;exact .inl ⟨Qch _,hd σ H p⟩
abbrev R2:=V->V->Hp->VK->Prop
def OpR (X:Cx) (f:Value->Value->Sem Value) (r:R2):Prop:=
 ∀(jb:YC) (s:Shared) (σ : St) (H:Hp) (x y:V) (v u:Value) (Q:VK),Inv X jb σ H s->RelV x v->RelV y u->r x y H Q ->
  wpAny (model X.prog X.w) X.A (f v u) (EP X jb σ Q) X.xe s
def UnR (X:Cx) (f:Value->Sem Value) (r:V->Hp->VK->Prop):Prop:=
 ∀(jb:YC) (s:Shared) (σ : St) (H:Hp) (x:V) (v:Value) (Q:VK),Inv X jb σ H s->RelV x v->r x H Q ->
  wpAny (model X.prog X.w) X.A (f v) (EP X jb σ Q) X.xe s
def Du (X:Cx) (f:Value) (r:YG->Hp->VK->Prop):Prop:=
 ∀(jb:YC) (s:Shared) (σ : St) (H:Hp) (xs:YG) (us:YE) (Q:VK),Inv X jb σ H s->Vals xs us->r xs H Q ->
  wpAny (model X.prog X.w) X.A (call f us) (EP X jb σ Q) X.xe s
def qz (X:Cx) (r:V->Hp->(Bool->Hp->Prop)->Prop):Prop:=
 ∀(jb:YC) (s:Shared) (σ : St) (H:Hp) (x:V) (v:Value) (Q:Bool->Hp->Prop),Inv X jb σ H s->RelV x v->r x H Q ->
  wpAny (model X.prog X.w) X.A (truthy v) (TP X jb σ Q) X.xe s
def tOp (r:R2) (ta tb:TE):TE:=fun σ H Q=>ta σ H λx H1=>tb σ H1 λy H2=>r x y H2 Q
def tUn (r:V->Hp->VK->Prop) (ta:TE):TE:=fun σ H Q=>ta σ H λx H1=>r x H1 Q
def rI (C:Int->Int->Prop) (g:Int->Int->V):R2:=λx y H Q=>∃i j,x=.int i/\y=.int j/\C i j/\Q (g i j) H
def rI0 (g:Int->Int->V):R2:=λx y H Q=>∃i j,x=.int i/\y=.int j/\Q (g i j) H
def rU (g:Int->V):V->Hp->VK->Prop:=λx H Q=>∃i,x=.int i/\Q (g i) H
section
variable {X:Cx} {a b c:Expr} {ta tb tc:TE} {pos:Pos}
theorem aA (ha:PE X a ta) (hb:PE X b tb) {jb:YC} {s:Shared} {σ : St} {H:Hp} {R:V->V->Hp->Prop} (I:Inv X jb σ H s)
  (h:ta σ H λx H1=>tb σ H1 λy H2=>R x y H2) {Q:YA} {f:Value->Value->Sem Value}
  (hf:∀v u s2 x y H2,Inv X jb σ H2 s2->RelV x v->RelV y u->R x y H2->wpAny (model X.prog X.w) X.A (f v u) Q X.xe s2) :
  wpAny (model X.prog X.w) X.A (eval a X.env) (λv s₁=>wpAny (model X.prog X.w) X.A (eval b X.env) (λu s₂=>wpAny (model X.prog X.w) X.A (f v u) Q X.xe s₂) X.xe s₁) X.xe s:=by
 refine thn (ha jb s σ H _ I h) λv s1 zz=>?_;obtain⟨x,H1,I1,r1,q1⟩:=zz;refine thn (hb jb s1 σ H1 _ I1 q1) λu s2 zz=>?_;obtain⟨y,H2,I2,r2,q2⟩:=zz;exact hf v u s2 x y H2 I2 r1 r2 q2
theorem Ax {op:Operator} {r:R2} (ho:OpR X (binaryOp op) r) (ha:PE X a ta) (hb:PE X b tb):PE X (.BinOp a op b pos) (tOp r ta tb):=by
 intro jb s σ H Q I h;exact wpAny_BinOp (aA ha hb I h λv u s2 x y H2 I2 rx ry q=>ho jb s2 σ H2 x y v u Q I2 rx ry q)
theorem Lf {op:UnaryOp} {r:V->Hp->VK->Prop} (ho:UnR X (unaryOp op) r) (ha:PE X a ta):PE X (.UnaryOp op a pos) (tUn r ta):=by
 intro jb s σ H Q I h;refine UnaryOp_ (thn (ha jb s σ H _ I h) λv s1 zz=>?_);obtain⟨x,H1,I1,r1,q1⟩:=zz;exact ho jb s1 σ H1 x v Q I1 r1 q1
theorem opI {f:Value->Value->Sem Value} {C:Int->Int->Prop} {g:Int->Int->Int}
  (rule:∀(i j:Int) (t u:Tok) (s:Shared) (Q:YA) (E:YA),C i j->Q (.int (g i j) s.toks) { s with toks:=s.toks+1 }->wpAny (model X.prog X.w) X.A (f (.int i t) (.int j u)) Q E s) :
  OpR X f (rI C λi j=>.int (g i j)):=by
 intro jb s σ H x y v u Q I rx ry h;obtain⟨i,j,rfl,rfl,hc,q⟩:=h;obtain⟨t,rfl⟩:=rx;obtain⟨t',rfl⟩:=ry;exact rule i j t t' s _ _ hc ⟨.int (g i j),H,I.tok _,⟨_,rq⟩,q⟩
theorem fX {f:Value->Value->Sem Value} {g:Int->Int->Int}
  (rule:∀(i j:Int) (t u:Tok) (s:Shared) (Q:YA) (E:YA),Q (.int (g i j) s.toks) { s with toks:=s.toks+1 }->wpAny (model X.prog X.w) X.A (f (.int i t) (.int j u)) Q E s) :
  OpR X f (rI0 λi j=>.int (g i j)):=by
 intro jb s σ H x y v u Q I rx ry h;obtain⟨i,j,rfl,rfl,q⟩:=h;obtain⟨t,rfl⟩:=rx;obtain⟨t',rfl⟩:=ry;exact rule i j t t' s _ _ ⟨.int (g i j),H,I.tok _,⟨_,rq⟩,q⟩
theorem Wq {f:Value->Value->Sem Value} {g:Int->Int->Bool}
  (rule:∀(i j:Int) (t u:Tok) (s:Shared) (Q:YA) (E:YA),Q (.bool (g i j)) s->wpAny (model X.prog X.w) X.A (f (.int i t) (.int j u)) Q E s) :
  OpR X f (rI0 λi j=>.bl (g i j)):=by
 intro jb s σ H x y v u Q I rx ry h;obtain⟨i,j,rfl,rfl,q⟩:=h;obtain⟨t,rfl⟩:=rx;obtain⟨t',rfl⟩:=ry;exact rule i j t t' s _ _ ⟨.bl (g i j),H,I,rq,q⟩
def qD (i j:Int):Prop:=0 < j/\j < 1073741824
def qC (i j:Int):Prop:=0<=j/\j<=1000000/\i.natAbs < 2 ^ 64
def Xj (i j:Int):Prop:=(-(2 ^ 64) < i/\i < 2 ^ 64)\/(-(2 ^ 64) < j/\j < 2 ^ 64)
theorem Xj.ok {i j:Int} (h:Xj i j):IntMulOk i j:=by
 rcases h with⟨h1,h2⟩|⟨h1,h2⟩
 ·exact .of_left (intBits_le_64 h1 h2)
 ·exact .of_right (intBits_le_64 h1 h2)
theorem CV:OpR X (binaryOp .Add) (rI0 λi j=>.int (i+j)):=fX λ_ _ _ _ _ _ _ q=>add_int q
theorem CK:OpR X (binaryOp .Sub) (rI0 λi j=>.int (i - j)):=fX λ_ _ _ _ _ _ _ q=>sub_int q
theorem Gm:OpR X (binaryOp .Mult) (rI Xj λi j=>.int (i*j)):=opI λ_ _ _ _ _ _ _ hc q=>mul_int q hc.ok
theorem Qc:OpR X (binaryOp .FloorDiv) (rI qD λi j=>.int (i / j)):=opI λi j _ _ _ _ _ hc q=>by
 have h1:(0:Int) < j:=hc.1;have h2:j < 1073741824:=hc.2;exact floordiv_int (by omega) (by rw[Int.fdiv_eq_ediv_of_nonneg i (by omega)];exact q) (.inl (PyProof.noPylong_small (by omega)))
theorem Fe:OpR X (binaryOp .Mod) (rI (λ_ j=>0 < j) λi j=>.int (i % j)):=opI λi j _ _ _ _ _ hc q=>by
 have h1:(0:Int) < j:=hc;exact mod_int' (by omega) (by rw[Int.fmod_eq_emod_of_nonneg i (by omega)];exact q)
theorem Ti:OpR X (binaryOp .Pow) (rI qC λi j=>.int (i ^ j.toNat)):=opI λ_ _ _ _ _ _ _ hc q=>pow_int_small hc.1 hc.2.1 hc.2.2 q
theorem unI {f:Value->Sem Value} {g:Int->Int}
  (rule:∀(i:Int) (t:Tok) (s:Shared) (Q:YA) (E:YA),Q (.int (g i) s.toks) { s with toks:=s.toks+1 }->wpAny (model X.prog X.w) X.A (f (.int i t)) Q E s) :
  UnR X f (rU λi=>.int (g i)):=by
 intro jb s σ H x v Q I rx h;obtain⟨i,rfl,q⟩:=h;obtain⟨t,rfl⟩:=rx;exact rule i t s _ _ ⟨.int (g i),H,I.tok _,⟨_,rq⟩,q⟩
theorem Jx:UnR X (unaryOp .USub) (rU λi=>.int (-i)):=unI λ_ _ _ _ _ q=>neg_int q
end
def fB:V->V->Bool
 | .non,.non=>true | .non,.int _=>true | .int _,.non=>true | .non,.bl _=>true | .bl _,.non=>true | .non,.str _=>true | .str _,.non=>true
 | .int _,.int _=>true | .bl _,.bl _=>true | .str _,.str _=>true | .byt _,.byt _=>true
 | .int _,.str _=>true | .str _,.int _=>true | .bl _,.str _=>true | .str _,.bl _=>true
 | _,_=>false
def rEq:R2:=λx y H Q=>fB x y=true/\Q (.bl (decide (x=y))) H
def rNe:R2:=λx y H Q=>fB x y=true/\Q (.bl (!decide (x=y))) H
theorem Vs {i j:Int}:decide (V.int i=V.int j)=(i == j):=by
 rw[QbC];simp
theorem YW {i j:Bool}:decide (V.bl i=V.bl j)=(i == j):=by
 rw[QbC];simp
theorem Vr {i j:Str}:decide (V.str i=V.str j)=(i == j):=by
 rw[QbC];simp
theorem Vt {i j:Array UInt8}:decide (V.byt i=V.byt j)=(i.toList == j.toList):=by
 rw[QbC];cases i;cases j;simp
section
variable {X:Cx} {a b c:Expr} {ta tb tc:TE} {pos:Pos}
theorem Bw {jb:YC} {σ : St} {H:Hp} {s:Shared} {Q:VK} {k k':Bool} (I:Inv X jb σ H s) (q:Q (.bl k) H) (e:k=k'):EP X jb σ Q (.bool k') s:=by
 subst e;exact⟨.bl k,H,I,rq,q⟩
theorem Cp:OpR X (compareOp .Eq) rEq:=by
 intro jb s σ H x y v u Q I rx ry h;obtain⟨hs,q⟩:=h;cases x with
 | non=>
  cases rx;cases y with
  | non=>cases ry;exact PySem.EqNone.eq_none_none (Bw I q (by simp))
  | bl j=>cases ry;exact PySem.EqNone.eq_none_bool (Bw I q (by simp))
  | int j=>obtain⟨t',rfl⟩:=ry;exact PySem.EqNone.eq_none_int (Bw I q (by simp))
  | str j=>obtain⟨t',rfl⟩:=ry;exact PySem.EqNone.eq_none_str (Bw I q (by simp))
  | _=>exact absurd (show false=true from hs) QaO
 | bl i=>
  cases rx;cases y with
  | non=>cases ry;exact PySem.EqNone.eq_bool_none (Bw I q (by simp))
  | bl j=>cases ry;exact eq_bool (Bw I q YW)
  | str j=>obtain⟨t',rfl⟩:=ry;exact PySem.EqMixed.eq_bool_str (Bw I q (by simp))
  | _=>exact absurd (show false=true from hs) QaO
 | int i=>
  obtain⟨t,rfl⟩:=rx;cases y with
  | non=>cases ry;exact PySem.EqNone.eq_int_none (Bw I q (by simp))
  | int j=>obtain⟨t',rfl⟩:=ry;exact eq_int (Bw I q Vs)
  | str j=>obtain⟨t',rfl⟩:=ry;exact PySem.EqMixed.eq_int_str (Bw I q (by simp))
  | _=>exact absurd (show false=true from hs) QaO
 | str i=>
  obtain⟨t,rfl⟩:=rx;cases y with
  | non=>cases ry;exact PySem.EqNone.eq_str_none (Bw I q (by simp))
  | bl j=>cases ry;exact PySem.EqMixed.eq_str_bool (Bw I q (by simp))
  | int j=>obtain⟨t',rfl⟩:=ry;exact PySem.EqMixed.eq_str_int (Bw I q (by simp))
  | str j=>obtain⟨t',rfl⟩:=ry;exact eq_str (Bw I q Vr)
  | _=>exact absurd (show false=true from hs) QaO
 | byt i=>
  obtain⟨t,rfl⟩:=rx;cases y with
  | byt j=>obtain⟨t',rfl⟩:=ry;exact PySem.W.eq_bytes (Bw I q Vt)
  | _=>exact absurd (show false=true from hs) QaO
 | _=>cases y <;> exact absurd (show false=true from hs) QaO
theorem bh:OpR X (compareOp .NotEq) rNe:=by
 intro jb s σ H x y v u Q I rx ry h;obtain⟨hs,q⟩:=h;cases x with
 | non=>
  cases rx;cases y with
  | non=>cases ry;exact PySem.EqNone.ne_none_none (Bw I q (by simp))
  | bl j=>cases ry;exact PySem.EqNone.ne_none_bool (Bw I q (by simp))
  | int j=>obtain⟨t',rfl⟩:=ry;exact PySem.EqNone.ne_none_int (Bw I q (by simp))
  | str j=>obtain⟨t',rfl⟩:=ry;exact PySem.EqNone.ne_none_str (Bw I q (by simp))
  | _=>exact absurd (show false=true from hs) QaO
 | bl i=>
  cases rx;cases y with
  | non=>cases ry;exact PySem.EqNone.ne_bool_none (Bw I q (by simp))
  | bl j=>cases ry;exact ne_bool (Bw I q (congrArg not YW))
  | str j=>obtain⟨t',rfl⟩:=ry;exact PySem.EqMixed.ne_bool_str (Bw I q (by simp))
  | _=>exact absurd (show false=true from hs) QaO
 | int i=>
  obtain⟨t,rfl⟩:=rx;cases y with
  | non=>cases ry;exact PySem.EqNone.ne_int_none (Bw I q (by simp))
  | int j=>obtain⟨t',rfl⟩:=ry;exact ne_int (Bw I q (congrArg not Vs))
  | str j=>obtain⟨t',rfl⟩:=ry;exact PySem.EqMixed.ne_int_str (Bw I q (by simp))
  | _=>exact absurd (show false=true from hs) QaO
 | str i=>
  obtain⟨t,rfl⟩:=rx;cases y with
  | non=>cases ry;exact PySem.EqNone.ne_str_none (Bw I q (by simp))
  | bl j=>cases ry;exact PySem.EqMixed.ne_str_bool (Bw I q (by simp))
  | int j=>obtain⟨t',rfl⟩:=ry;exact PySem.EqMixed.ne_str_int (Bw I q (by simp))
  | str j=>obtain⟨t',rfl⟩:=ry;exact ne_str (Bw I q (congrArg not Vr))
  | _=>exact absurd (show false=true from hs) QaO
 | byt i=>
  obtain⟨t,rfl⟩:=rx;cases y with
  | byt j=>obtain⟨t',rfl⟩:=ry;exact PySem.W.ne_bytes (Bw I q (congrArg not Vt))
  | _=>exact absurd (show false=true from hs) QaO
 | _=>cases y <;> exact absurd (show false=true from hs) QaO
theorem Nb:OpR X (compareOp .Lt) (rI0 λi j=>.bl (decide (i < j))):=Wq λ_ _ _ _ _ _ _ q=>lt_int q
theorem Li:OpR X (compareOp .LtE) (rI0 λi j=>.bl (decide (i<=j))):=Wq λ_ _ _ _ _ _ _ q=>le_int q
theorem Jp:OpR X (compareOp .Gt) (rI0 λi j=>.bl (decide (j < i))):=Wq λ_ _ _ _ _ _ _ q=>gt_int q
theorem Wn:OpR X (compareOp .GtE) (rI0 λi j=>.bl (decide (j<=i))):=Wq λ_ _ _ _ _ _ _ q=>ge_int q
theorem OpR.or {f:Value->Value->Sem Value} {r r':R2} (h:OpR X f r) (h':OpR X f r'):OpR X f (λx y H Q=>r x y H Q\/r' x y H Q):=by
 intro jb s σ H x y v u Q I rx ry q;rcases q with q | q
 ·exact h jb s σ H x y v u Q I rx ry q
 ·exact h' jb s σ H x y v u Q I rx ry q
theorem Bc (b:Expr) {op:CmpOp} (h:op≠.In:=by decide) (h2:op≠.NotIn:=by decide):behindInMarks op b=false:=by
 have e1:(op == CmpOp.In)=false:=by cases op <;> first | rfl | exact absurd rfl h
 have e2:(op == CmpOp.NotIn)=false:=by cases op <;> first | rfl | exact absurd rfl h2
 cases b <;> simp[behindInMarks,e1,e2]
theorem Cd {op:CmpOp} {r:R2} (ho:OpR X (compareOp op) r) (ha:PE X a ta) (hb:PE X b tb) (hm:behindInMarks op b=false):PE X (.Compare a [op] [b] pos) (tOp r ta tb):=by
 intro jb s σ H Q I h;exact wpAny_Compare1 (aA ha hb I h λv u s2 x y H2 I2 rx ry q=>ho jb s2 σ H2 x y v u Q I2 rx ry q) hm
def jh (t:TE):TT:=fun σ H Q=>t σ H λx H'=>∃k,x=.bl k/\Q k H'
theorem Bh {op:CmpOp} {r:R2} (ho:OpR X (compareOp op) r) (ha:PE X a ta) (hb:PE X b tb) (hm:behindInMarks op b=false):PT X (.Compare a [op] [b] pos) (jh (tOp r ta tb)):=by
 intro jb s σ H Q I h;refine wpAny_isTrue_Compare1 (thn (ha jb s σ H _ I h) λv s1 ⟨x,H1,I1,r1,q1⟩=>thn (hb jb s1 σ H1 _ I1 q1) λu s2 ⟨y,H2,I2,r2,q2⟩=>
  thn (ho jb s2 σ H2 x y v u _ I2 r1 r2 q2) λc s3 ⟨z,H3,I3,r3,k,e,q3⟩=>?_) hm
 subst e;cases r3;exact Qbf ⟨H3,I3,q3⟩
def d9 (r r':R2) (ta tb tc:TE):TE:=fun σ H Q=>ta σ H λx H1=>tb σ H1 λy H2=>r x y H2 λz H3=>∃k,z=.bl k /\
 (if k=true then tc σ H3 λw' H4=>r' y w' H4 Q else Q (.bl false) H3)
theorem Lg {op op':CmpOp} {r r':R2} (ho:OpR X (compareOp op) r) (ho':OpR X (compareOp op') r') (ha:PE X a ta) (hb:PE X b tb) (hc:PE X c tc)
  (hm:lastMarks [op,op'] [b,c]=false:=by with_unfolding_all rfl):PE X (.Compare a [op,op'] [b,c] pos) (d9 r r' ta tb tc):=by
 intro jb s σ H Q I h;refine Compare_chain (thn (ha jb s σ H _ I h) λv s1 ⟨x,H1,I1,r1,q1⟩=>chain_link (thn (hb jb s1 σ H1 _ I1 q1) λu s2 ⟨y,H2,I2,r2,q2⟩=>
  thn (ho jb s2 σ H2 x y v u _ I2 r1 r2 q2) λd s3 ⟨z,H3,I3,r3,k,e,q3⟩=>?_)) hm
 subst e;cases r3;refine Qbf ?_;cases k with
 | false=>exact ite_ff ⟨.bl false,H3,I3,rfl,q3⟩
 | true=>exact ite_tt (chain_last (thn (hc jb s3 σ H3 _ I3 q3) λw' s4 ⟨z',H4,I4,r4,q4⟩=>ho' jb s4 σ H4 y z' u w' Q I4 r2 r4 q4))
def aF (K:YD) (x:V) (H:Hp) (k:Bool):Prop:=
 match x with
 | .non=>k=false
 | .bl b=>k=b
 | .int i=>k=(i != 0)
 | .str y=>y.length<=sizeLine/\k=((y.length:Int) != 0)
 | .byt y=>y.size<=sizeLine/\k=((y.size:Int) != 0)
 | .ref p=>(∃xs,SqL K H p xs/\k=!xs.isEmpty)\/(∃xs,SqT K H p xs/\k=!xs.isEmpty)\/∃kvs,H p=some (.dK kvs)/\k=!kvs.isEmpty
 | _=>False
theorem Wy {κ : Type} {kvs:List (κ×V)} {vs:List (κ×Value)} (r:KV kvs vs):(!vs.isEmpty)=!kvs.isEmpty:=by
 cases r <;> rfl
theorem Pa {xs:YG} {its:YE} (r:Vals xs its):(!its.toArray.isEmpty)=!xs.isEmpty:=by
 cases r <;> simp
theorem Mu:(sizeLine:Nat) < 2 ^ 63:=by rw[sizeLine_eq];decide
theorem dY:qz X (λx H Q=>∃k,aF X.K x H k/\Q k H):=by
 intro jb s σ H x v Q I rx h;obtain⟨k,e,q⟩:=h;have hl:=Mu;have hs:sizeLine=16777216:=sizeLine_eq;cases x with
 | non=>
  cases rx;have e':k=false:=e;subst e';exact truthy_none ⟨H,I,q⟩
 | bl b=>
  cases rx;have e':k=b:=e;subst e';exact Qbf ⟨H,I,q⟩
 | int i=>
  obtain⟨t,rfl⟩:=rx;have e':k=(i != 0):=e;subst e';exact PySem.P.truthy_int ⟨H,I,q⟩
 | str y=>
  obtain⟨t,rfl⟩:=rx;obtain⟨hy,e'⟩ : y.length<=sizeLine/\k=((y.length:Int) != 0):=e;subst e';exact PySem.P.truthy_str (by omega) ⟨H,I.tok _,q⟩
 | byt y=>
  obtain⟨t,rfl⟩:=rx;obtain⟨hy,e'⟩ : y.size<=sizeLine/\k=((y.size:Int) != 0):=e;subst e';exact PySem.W.truthy_bytes (by omega) ⟨H,I.tok _,q⟩
 | ref p=>
  cases rx;have e':(∃xs,SqL X.K H p xs/\k=!xs.isEmpty)\/(∃xs,SqT X.K H p xs/\k=!xs.isEmpty)\/∃kvs,H p=some (.dK kvs)/\k=!kvs.isEmpty:=e;rcases e' with⟨xs,hx,e'⟩|⟨xs,hx,e'⟩|⟨kvs,hx,e'⟩
  ·subst e';obtain⟨its,r,pl,hz⟩:=I.list hx;have hlen:=r.length;exact wpAny_truthy_list pl.isList (by simp only[Qba];omega) ⟨H,I.tok _,by rw[Pa r];exact q⟩
  ·subst e';obtain⟨its,r,pl,hz⟩:=I.tuple hx;have hlen:=r.length;exact truthy_tuple pl (by simp only[Qba];omega) ⟨H,I.tok _,by rw[Pa r];exact q⟩
  ·subst e';obtain⟨hz,hS,vs,r,m⟩ : kvs.length<=sizeLine/\(p == sysModules)=false/\∃vs,KV kvs vs/\s.heap.DictOf (Qj X.prog X.w) p vs:=I.hok p _ hx;have hlen:kvs.length=vs.length:=QbX r;exact wpAny_truthy_dict hS m (by omega) ⟨H,I.tok _,by rw[Wy r];exact q⟩
 | _=>exact (show False from e).elim
theorem N8 (ha:PE X a ta) (he:∀whole,isTrue a X.env whole=(do let v <-whole;standAt a.pos;holding [v] (truthy v))) :
  PT X a (fun σ H Q=>ta σ H λx H'=>∃k,aF X.K x H' k/\Q k H'):=by
 intro jb s σ H Q I h;refine isTrue_plain (thn (ha jb s σ H _ I h) λv s1 zz=>?_) (he _);obtain⟨x,H1,I1,r1,q1⟩:=zz;exact dY jb s1 σ H1 x v Q I1 r1 q1
theorem Wo:OpR X (binaryOp .Add) (λx y H Q=>∃i j,x=.str i/\y=.str j/\i.length+j.length<=sizeLine/\Q (.str (i++j)) H):=by
 intro jb s σ H x y v u Q I rx ry h;obtain⟨i,j,rfl,rfl,hz,q⟩:=h;obtain⟨t,rfl⟩:=rx;obtain⟨t',rfl⟩:=ry;exact add_str (λt' tk=>⟨.str (i++j),H,I.tok _,⟨_,rq⟩,q⟩) hz
theorem vals1 {x:V} {us:YE} (r:Vals [x] us):∃u,us=[u]/\RelV x u:=by
 cases r with
 | cons r1 r2=>cases r2;exact⟨_,rfl,r1⟩
theorem vals2 {x y:V} {us:YE} (r:Vals [x,y] us):∃u w',us=[u,w']/\RelV x u/\RelV y w':=by
 cases r with
 | cons r1 r2=>
  cases r2 with
  | cons r3 r4=>cases r4;exact⟨_,_,rfl,r1,r3⟩
theorem Us:Du X (.builtin "abs") (λxs H Q=>∃i,xs=[.int i]/\Q (.int (if i < 0 then -i else i)) H):=by
 intro jb s σ H xs us Q I r h;obtain⟨i,rfl,q⟩:=h;obtain⟨u,rfl,t,rfl⟩:=vals1 r;exact call_abs_int λu tk=>⟨.int (if i < 0 then -i else i),H,I.tok _,⟨_,rq⟩,q⟩
theorem MK (hc:X.calm=true):Du X (.builtin "max") (λxs H Q=>∃i j,xs=[.int i,.int j]/\Q (.int (if j > i then j else i)) H):=by
 intro jb s σ H xs us Q I r h;obtain⟨i,j,rfl,q⟩:=h;obtain⟨u,w',rfl,⟨t,rfl⟩,⟨t',rfl⟩⟩:=vals2 r;refine max_two_ints (I.ok.hd hc) λh' tk k=>⟨_,H,I.kept k,?_,q⟩;by_cases hj:j > i
 ·rw[if_pos hj,if_pos hj];exact⟨_,rq⟩
 ·rw[if_neg hj,if_neg hj];exact⟨_,rq⟩
theorem Y6 (hc:X.calm=true):Du X (.builtin "min") (λxs H Q=>∃i j,xs=[.int i,.int j]/\Q (.int (if j < i then j else i)) H):=by
 intro jb s σ H xs us Q I r h;obtain⟨i,j,rfl,q⟩:=h;obtain⟨u,w',rfl,⟨t,rfl⟩,⟨t',rfl⟩⟩:=vals2 r;refine min_two_ints (I.ok.hd hc) λh' tk k=>⟨_,H,I.kept k,?_,q⟩;by_cases hj:j < i
 ·rw[if_pos hj,if_pos hj];exact⟨_,rq⟩
 ·rw[if_neg hj,if_neg hj];exact⟨_,rq⟩
theorem MP:Du X (.type "int") (λxs H Q=>(∃i,xs=[.int i]/\Q (.int i) H)\/∃k,xs=[.bl k]/\Q (.int (if k then 1 else 0)) H):=by
 intro jb s σ H xs us Q I r h;rcases h with⟨i,rfl,q⟩|⟨k,rfl,q⟩
 ·obtain⟨u,rfl,t,rfl⟩:=vals1 r;exact call_int_int ⟨.int i,H,I,⟨_,rq⟩,q⟩
 ·obtain⟨u,rfl,r1⟩:=vals1 r;cases r1;exact call_int_bool ⟨.int (if k then 1 else 0),H,I.tok _,⟨_,rq⟩,q⟩
theorem Ur:Du X (.type "str") (λxs H Q=>∃i,xs=[.int i]/\i.natAbs.log2 < 1920/\Q (.str (toString i)) H):=by
 intro jb s σ H xs us Q I r h;obtain⟨i,rfl,hz,q⟩:=h;obtain⟨u,rfl,t,rfl⟩:=vals1 r;exact PySem.P.str_of_int hz ⟨.str _,H,I.tok _,⟨_,rq⟩,q⟩
end
structure Ow (h:Heap) (x dx C:Addr) (mA:YB):Prop where
 obj:h.get? x=some (instObj C dx)
 ns:h.Ns1 dx mA
 ne:dx≠x
theorem Yp {h:Heap} {dx:Addr} {mA:YB} (n:h.Ns1 dx mA):∃od,h.get? dx=some od/\∀name,lookIn name od=some (mA name):=by
 obtain⟨o,es,ep,ho,hd,hk,_,hm⟩:=n;refine⟨o,ho,λname=>?_⟩;have e:=hm name;unfold nsFind findBy at e;rw[<-Array.find?_toList] at e;unfold lookIn;rw[hd];dsimp only;split
 ·rename_i y q;rw[q] at e;exact congrArg some e
 ·rename_i q;rw[q] at e;have a:es.toList.any (·.refKey)=false:=by
   rw[List.any_eq_false];intro y hy;obtain⟨z,t,hkey⟩:=hk y (Array.mem_toList_iff.mp hy);simp[DictEntry.refKey,hkey]
  have a':¬es.toList.any (·.refKey)=true:=by rw[a];exact QaO
  rw[if_neg a'];exact congrArg some e
theorem Ow.look {h:Heap} {x dx C:Addr} {mA:YB} (I:Ow h x dx C mA):∃od,PySem.W.InstAt h x (instObj C dx) C (some od)/\∀name,lookIn name od=some (mA name):=
 let ⟨od,ho,hl⟩:=Yp I.ns
 ⟨od,⟨I.obj,rq,rq,ho⟩,hl⟩
section
variable {prog:Program} {w:World} {A:Around} {E:YA} {s:Shared} {K:YD} {x dx C f:Addr} {mA:YB} {name:Str} {v:Value}
theorem get_map {expr:Bool} {Q:YA} (X:K.In s.heap) (I:Ow s.heap x dx C mA) (hg:plainGet K C name=true) (hh:hasDictIn K C=true)
  (ha:findIn K (.ref C) name=some none) (hv:mA name=some v) (hv':PySem.W.handedIn v=true) (h:Q v { s with toks:=s.toks+1 }) :
  wpAny (model prog w) A (getAttr (.ref x) name expr) Q E s:=by
 obtain⟨od,J,hl⟩:=I.look;exact PySem.W.get_value X J (PySem.W.plainGet_of hg).1 (PySem.W.findObj_own hh ha rfl (by rw[hl,hv])) hv' h
theorem Z8 {pl:Sem Bool} {Q:Value×YE->Shared->Prop} (X:K.In s.heap) (I:Ow s.heap x dx C mA) (hg:plainGet K C name=true)
  (hf:findIn K (.ref C) name=some (some (.ref f))) (ht:isFn K (.ref f)=true) (hv:mA name=none) (h:Q (.ref f,[.ref x]) s) :
  wpAny (model prog w) A (getMethod (.ref x) name pl) Q E s:=by
 obtain⟨od,J,hl⟩:=I.look;exact PySem.W.method_fn X J (PySem.W.plainGet_of hg).1 (PySem.W.plainGet_of hg).2 hf (beq_iff_eq.mp ht) (by show (lookIn name od).map (·.isSome)=some false;rw[hl,hv];rfl) h
theorem bT {ns:YF} {Q:YH} (X:K.In s.heap) (I:Ow s.heap x dx C mA)
  (hs:findIn K (.ref C) "__setattr__"=some (some (.builtin "object.__setattr__"))) (hp:PySem.W.plainOver K C=true) (ht:PySem.W.takerIn K C name=some none) (hh:hasDictIn K C=true)
  (hw:PySem.Within mA ns) (hsz:ns.length<=sizeLine)
  (h:∀h',Ow h' x dx C (λy=>if y=name then some v else mA y)->Heap.SameBut dx s.heap h'->Q () { s with heap:=h',toks:=s.toks+2 }) :
  wpAny (model prog w) A (setAttr (.ref x) name v) Q E s:=by
 obtain⟨od,J,hl⟩:=I.look;refine PySem.W.set_plain X J hs (PySem.W.osa_open (s:={ s with toks:=s.toks+1 }) (r:=none) X J hp ht λb=>?_);obtain⟨cd,hc,hd'⟩:=PySem.W.any_some hh;have hx:s.heap.get? x=some ⟨.ref C,some dx,.plain,#[]⟩:=I.obj;refine Qcl (Qcm (Qcl (Qcl (wpAny_loadPart hx (Qcl (PySem.W.Looks.here (s:={ s with toks:=s.toks+1 }) (PySem.W.looks_clsIn X hc) ?_))))));rw[hd'];refine Qcm (a:=some dx) (Qcl (Qcm (Qcl ?_)));refine wpAny_nsSet1 (s:={ s with toks:=s.toks+1 }) I.ns λh' hn2 hs2=>?_;obtain⟨oD,esD,epD,hoD,hdD,hcD⟩:=hn2.count (PySem.Within.cons name v hw);refine Qcl (wpAny_lookBehind hoD (by rw[hdD];exact pastItsLine_dict (Qcd hcD (by rw[Qbo];omega))) ?_);exact Qcm (h _ ⟨(hs2.2 _ (Ne.symm I.ne)).trans I.obj,hn2,I.ne⟩ hs2)
theorem ZP {R:Result->Shared->Prop} {vs:YE} {kw:List (Str×Value)} (X:K.In s.heap) (hm:makesIn K C=true)
  (hi:findIn K (.ref C) "__init__"=some (some (.ref f))) (hf:PySem.W.typeIn K (.ref f)=some (.type "function"))
  (h:codeAny (model prog w) (A.under (.builtin "type.__call__" ⟨.ref C::vs,kw⟩)) (.call (.ref f) ⟨.ref (s.heap.objs.size+1)::vs,kw⟩) (PySem.W.InitBack (s.heap.objs.size+1) R)
   { s with heap:=(s.heap.push emptyDict).push (instObj C s.heap.objs.size) }) :
  codeAny (model prog w) A (.call (.ref C) ⟨vs,kw⟩) R s:=by
 obtain⟨hh,g,d,t,os⟩:=s;exact PySem.W.make_core (PySem.W.makes_of X hm) (PySem.W.looks_findIn X hi) (λself=>PySem.W.bind_fn X self hf) (.inl rfl) h
end
def DR (f:Str) (v:V):List (Str×V)->List (Str×V)
 | []=>[(f,v)]
 | (g,x)::r=>if g=f then (g,v)::r else (g,x)::DR f v r
theorem Nr (f g:Str) (v:V):∀fs:List (Str×V),(DR f v fs).lookup g=if g=f then some v else fs.lookup g
 | []=>by
  show List.lookup g [(f,v)]=_;by_cases h:g=f
  ·have hb:(g == f)=true:=beq_iff_eq.mpr h;simp only[List.lookup,hb,if_pos h]
  ·have hb:(g == f)=false:=QaJ.mpr h;simp only[List.lookup,hb,if_neg h]
 | (k,x)::r=>by
  have ih:=Nr f g v r;rw[show DR f v ((k,x)::r)=(if k=f then (k,v)::r else (k,x)::DR f v r) from rfl]
  by_cases hk:k=f
  ·rw[if_pos hk];by_cases h:g=k
   ·have hb:(g == k)=true:=beq_iff_eq.mpr h;simp only[List.lookup,hb,if_pos (h.trans hk)]
   ·have hb:(g == k)=false:=QaJ.mpr h;simp only[List.lookup,hb,if_neg (λe:g=f=>h (e.trans hk.symm))]
  ·rw[if_neg hk];by_cases h:g=k
   ·have hb:(g == k)=true:=beq_iff_eq.mpr h;simp only[List.lookup,hb,if_neg (λe:g=f=>hk (h.symm.trans e))]
   ·have hb:(g == k)=false:=QaJ.mpr h;simp only[List.lookup,hb];exact ih
theorem Mv (f:Str) (v:V):∀fs:List (Str×V),f∈(DR f v fs).map (·.1)/\∀g,g∈fs.map (·.1)->g∈(DR f v fs).map (·.1)
 | []=>⟨by simp[DR],λg h=>by simp at h⟩
 | (k,x)::r=>by
  obtain⟨i1,i2⟩:=Mv f v r;rw[show DR f v ((k,x)::r)=(if k=f then (k,v)::r else (k,x)::DR f v r) from rfl]
  by_cases hk:k=f
  ·rw[if_pos hk];subst hk;exact⟨by simp,λg h=>by simpa using h⟩
  ·rw[if_neg hk];refine⟨?_,λg h=>?_⟩
   ·rw[QbU];exact Qaz _ i1
   ·rw[QbU] at h ⊢;rcases QbS.mp h with e | e
    ·exact QbS.mpr (.inl e)
    ·exact Qaz _ (i2 g e)
theorem Nt (f:Str) (v:V):∀fs:List (Str×V),(DR f v fs).length<=fs.length+1
 | []=>by simp[DR]
 | (k,x)::r=>by
  have ih:=Nt f v r;rw[show DR f v ((k,x)::r)=(if k=f then (k,v)::r else (k,x)::DR f v r) from rfl]
  by_cases hk:k=f
  ·rw[if_pos hk,Qbo,Qbo];omega
  ·rw[if_neg hk,Qbo,Qbo];omega
theorem Gf.some_of {v:V} {o:Option Value} (r:Gf (some v) o):∃u,o=some u/\RelV v u:=by
 cases o with
 | none=>exact (show False from r).elim
 | some u=>exact⟨u,rfl,r⟩
theorem Gf.none_of {o:Option Value} (r:Gf none o):o=none:=by
 cases o with
 | none=>rfl
 | some u=>exact (show False from r).elim
theorem Yz {v:V} {u:Value} (r:RelV v u):PySem.W.handedIn u=true:=by
 cases v with
 | non=>cases (show u=Value.none from r);rfl
 | bl b=>cases (show u=Value.bool b from r);rfl
 | int i=>obtain⟨t,e⟩:=(show ∃t,u=Value.int i t from r);cases e;rfl
 | str x=>obtain⟨t,e⟩:=(show ∃t,u=Value.str x t from r);cases e;rfl
 | byt b=>obtain⟨t,e⟩:=(show ∃t,u=Value.bytes b t from r);cases e;rfl
 | flt b=>obtain⟨t,e⟩:=(show ∃t,u=Value.float b t from r);cases e;rfl
 | ref a=>cases (show u=Value.ref a from r);rfl
 | ty n=>cases (show u=Value.type n from r);rfl
section
variable {P:Program} {w:World} {H H':Hp} {h h':Heap} {a C dx:Addr} {fs fs':List (Str×V)}
theorem Ng (hok:HOk P w H h) (e:H a=some (.ins C dx fs)):∃mA,Ow h a dx C mA/\(∀f,Gf (fs.lookup f) (mA f))/\PySem.Within mA (fs.map (·.1))/\fs.length<=1000/\H dx=some (.own a):=by
 obtain⟨d,z,ne,ob,mA,n,r,q⟩:=(show Cm P w H h a (.ins C dx fs) from hok a _ e)
 exact⟨mA,⟨ob,n,ne⟩,r,q,z,d⟩
end
structure Cls (K:YD) (C:Addr):Prop where
 pg:plainGet K C Str.empty=true
 hd:hasDictIn K C=true
 po:PySem.W.plainOver K C=true
 sa:findIn K (.ref C) "__setattr__"=some (some (.builtin "object.__setattr__"))
theorem Cls.get {K:YD} {C:Addr} (c:Cls K C) (f:Str):plainGet K C f=true:=c.pg
def Jd (K:YD) (C:Addr) (f:Str):Prop:=findIn K (.ref C) f=some none
theorem Jd.taker {K:YD} {C:Addr} {f:Str} (n:Jd K C f):PySem.W.takerIn K C f=some none:=by
 unfold PySem.W.takerIn;rw[show findIn K (.ref C) f=some none from n]
 rfl
structure Meth (K:YD) (C:Addr) (m:Str) (f:Addr):Prop where
 at_:findIn K (.ref C) m=some (some (.ref f))
 fn:isFn K (.ref f)=true
 kp:keepIn K (.ref f)=true
section
variable {X:Cx} {jb:YC} {σ : St} {H:Hp} {s:Shared} {a C dx:Addr} {fs:List (Str×V)} {f:Str} {v:V} {A:Around} {E:YA}
theorem WM {b:Bool} {Q:YA} (I:Inv X jb σ H s) (e:H a=some (.ins C dx fs)) (c:Cls X.K C) (n:Jd X.K C f) (l:fs.lookup f=some v)
  (h:∀u s',Inv X jb σ H s'->RelV v u->Q u s'):wpAny (model X.prog X.w) A (getAttr (.ref a) f b) Q E s:=by
 obtain⟨mA,O,r,_,_,_⟩:=Ng I.hok e;obtain⟨u,hu,ru⟩:=Gf.some_of (v:=v) (o:=mA f) (by rw[<-l];exact r f);exact get_map I.kIn O (c.get f) c.hd n hu (Yz ru) (h u _ (I.tok _) ru)
theorem Ph {m:Str} {g:Addr} {pl:Sem Bool} {Q:Value×YE->Shared->Prop} (I:Inv X jb σ H s) (e:H a=some (.ins C dx fs)) (c:Cls X.K C) (k:Meth X.K C m g) (l:fs.lookup m=none)
  (h:Q (.ref g,[.ref a]) s):wpAny (model X.prog X.w) A (getMethod (.ref a) m pl) Q E s:=by
 obtain⟨mA,O,r,_,_,_⟩:=Ng I.hok e;have hn:mA m=none:=Gf.none_of (by rw[<-l];exact r m);exact Z8 I.kIn O (c.get m) k.at_ k.fn hn h
theorem V8 {y:V} {u:Value} {Q:YH} (I:Inv X jb σ H s) (e:H a=some (.ins C dx fs)) (c:Cls X.K C) (n:Jd X.K C f) (hl:fs.length < 1000) (ry:RelV y u)
  (h:∀s',Inv X jb σ (upd H a (.ins C dx (DR f y fs))) s'->Q () s'):wpAny (model X.prog X.w) A (setAttr (.ref a) f u) Q E s:=by
 obtain⟨mA,O,r,wi,_,ho⟩:=Ng I.hok e;have hz:(fs.map (·.1)).length<=sizeLine:=by rw[Qbw,sizeLine_eq];omega
 refine bT I.kIn O c.sa c.po n.taker c.hd wi hz λh' O' sb=>h _ ?_;have hd:∃o,h'.get? dx=some o:=let ⟨o,_,_,e',_⟩:=O'.ns;⟨o,e'⟩;refine I.write (x:=a) (e:=dx) (by rw[e];exact True.intro) (.inr ho) (λb q hb z=>(sb.2 b hb).trans z) hd ?_;refine⟨by rw[Bk O.ne];exact ho,?_,O.ne,O'.obj,_,O'.ns,λg=>?_,λg hg=>?_⟩
 ·have:=Nt f y fs;omega
 ·show Gf ((DR f y fs).lookup g) (if g=f then some u else mA g)
  rw[Nr];by_cases q:g=f
  ·rw[if_pos q,if_pos q];exact ry
  ·rw[if_neg q,if_neg q];exact r g
 ·by_cases q:g=f
  ·rw[q];exact (Mv f y fs).1
  ·refine (Mv f y fs).2 g (wi g λz=>hg ?_);show (if g=f then some u else mA g)=none
   rw[if_neg q];exact z
theorem Inv.made (I:Inv X jb σ H s):Inv X jb σ (upd (upd H s.heap.objs.size (.own (s.heap.objs.size+1))) (s.heap.objs.size+1) (.ins C s.heap.objs.size []))
  { s with heap:=(s.heap.push emptyDict).push (instObj C s.heap.objs.size) }:=by
 have e1:(s.heap.push emptyDict).get? s.heap.objs.size=some emptyDict:=QaE s.heap rfl;have e2:((s.heap.push emptyDict).push (instObj C s.heap.objs.size)).get? (s.heap.objs.size+1)=some (instObj C s.heap.objs.size):=by
  have:=QaE (s.heap.push emptyDict) (o:=instObj C s.heap.objs.size) rfl
  rwa [QbN] at this
 have e3:(s.heap.push emptyDict).Ns s.heap.objs.size (λ_=>none):=⟨emptyDict,#[],_,e1,rq,(λe he=>absurd he (by simp)),λ_=>rfl⟩;have I1:=I.laid (a:=s.heap.objs.size) (o:=.own (s.heap.objs.size+1)) (h':=s.heap.push emptyDict) (t':=s.toks) (λb u q=>Qaq _ q) (Qch _) ⟨_,e1⟩;refine I1.laid (a:=s.heap.objs.size+1) (o:=.ins C s.heap.objs.size []) (t':=s.toks) (λb u q=>Qaq _ q) (Nat.le_of_eq (QbN _ _)) ?_;have ne:s.heap.objs.size≠s.heap.objs.size+1:=Qcc (Qbt _);refine⟨by rw[Bk ne,Ad],Qci _,ne,e2,λ_=>none,(Heap.Ns1.of_empty e3).at λo q=>Qaq _ q,λ_=>True.intro,λy hy=>absurd rfl hy⟩
theorem dM {prog:Program} {w:World} {env:Env} {e:Expr} {f:Str} {pos:Pos} {s:Shared} {Q:YA} (hb:attributeBase e f env (eval e env)=eval e env)
  (h:wpAny (model prog w) A (eval e env) (λo s₁=>wpAny (model prog w) A (getAttr o f true) Q E s₁) E s):wpAny (model prog w) A (eval (.Attribute e f pos) env) Q E s:=
 Attribute_any_ h (by rw[arm_eval_Attribute,hb])
end
def lu (K:YD) (ta:TE) (f:Str):TE:=fun σ H Q=>ta σ H λx H1=>∃a C dx fs v,x=.ref a/\H1 a=some (.ins C dx fs)/\Cls K C/\Jd K C f/\fs.lookup f=some v/\Q v H1
section
variable {X:Cx} {o e value:Expr} {f:Str} {pos pos' tpos:Pos} {ta tv:TE}
theorem Tf (he:PE X e ta) (hb:attributeBase e f X.env (eval e X.env)=eval e X.env):PE X (.Attribute e f pos) (lu X.K ta f):=by
 intro jb s σ H Q I h;refine dM hb (thn (he jb s σ H _ I h) λu s1 zz=>?_);obtain⟨x,H1,I1,rx,a,C,dx,fs,v,ex,ea,c,n,l,q⟩:=zz;subst ex;obtain rfl:u=Value.ref a:=rx;exact WM I1 ea c n l λu' s2 I2 ru=>⟨v,H1,I2,ru,q⟩
theorem jc {pl:Sem Bool} {m:Str} {apos:Pos} {args:YJ} {jb:YC} {s:Shared} {σ : St} {H:Hp} {Q:YA} {te:TE} (he:PE X e te) (I:Inv X jb σ H s)
  (h:te σ H λx H1=>∃a C dx fs g,x=.ref a/\H1 a=some (.ins C dx fs)/\Cls X.K C/\Meth X.K C m g/\fs.lookup m=none /\
   ∀s1,Inv X jb σ H1 s1->wpAny (model X.prog X.w) X.A (callWith pos (.ref g) [.ref a] (backTo pos (starEach args X.env)) (backToKw pos (keywordEach [] X.env))) Q X.xe s1)
  (ht:eval (.Call (.Attribute e m apos) args [] pos) X.env=(do
   let ov <-eval e X.env
   standAt apos.atName
   let (f,first) <-holding [ov] (getMethod ov m pl)
   callWith pos f first (backTo pos (starEach args X.env)) (backToKw pos (keywordEach [] X.env)))) :
  wpAny (model X.prog X.w) X.A (eval (.Call (.Attribute e m apos) args [] pos) X.env) Q X.xe s:=by
 refine PySem.W.methodCall_KW (pl:=pl) (thn (he jb s σ H _ I h) λu s1 zz=>?_) ht;obtain⟨x,H1,I1,rx,a,C,dx,fs,g,ex,ea,c,k,l,q⟩:=zz;subst ex;obtain rfl:u=Value.ref a:=rx;exact Ph I1 ea c k l (q s1 I1)
end
section
variable {X:Cx} {jb:YC} {σ : St} {H:Hp} {s:Shared} {A:Around} {E:YA} {Q:YA} {c:Value} {b:Bool}
inductive Ih (K:YD) (H:Hp):V->Value->Prop where
 | non:Ih K H .non (.type "NoneType")
 | bl (x:Bool):Ih K H (.bl x) (.type "bool")
 | int (i:Int):Ih K H (.int i) (.type "int")
 | str (x:Str):Ih K H (.str x) (.type "str")
 | flt (x:UInt64):Ih K H (.flt x) (.type "float")
 | lst {a:Addr} {xs:YG} (e:H a=some (.lst xs)):Ih K H (.ref a) (.type "list")
 | frz {a:Addr} {o:Obj} {xs:YG} (e:H a=some (.frz o (.lst xs))):Ih K H (.ref a) (.type "list")
 | tup {a:Addr} {xs:YG} (e:H a=some (.tup xs)):Ih K H (.ref a) (.type "tuple")
 | dK {a:Addr} {kvs:List (Key×V)} (e:H a=some (.dK kvs)):Ih K H (.ref a) (.type "dict")
 | dT {a:Addr} {kvs:List (List Key×V)} (e:H a=some (.dT kvs)):Ih K H (.ref a) (.type "dict")
 | ins {a C dx:Addr} {fs:List (Str×V)} (e:H a=some (.ins C dx fs)) (cl:Cls K C) (ha:findIn K (.ref C) "__class__"=some (some (.builtin "object.__class__")))
   (hn:PySem.W.specialIn K (.builtin "object.__class__") "__get__"=some (some (.builtin "getset_descriptor.__get__"))) (htk:PySem.W.takesIn K (.builtin "object.__class__")=some true)
   (hm:PySem.W.mroIn K C (.type "object")=some true):Ih K H (.ref a) (.ref C)
theorem Yq {x:V} {u t:Value} (I:Inv X jb σ H s) (rx:RelV x u) (ty:Ih X.K H x t) (e:kitOne X.K t c=some b) (h:∀tk,Q (.bool b) { s with toks:=tk }) :
  wpAny (model X.prog X.w) A (call (.builtin "isinstance") [u,c]) Q E s:=by
 cases ty with
 | non=>cases (show u=Value.none from rx);exact kia_one PySem.W.kitx_none I.kIn True.intro e (λz=>nomatch z) h
 | bl y=>cases (show u=Value.bool y from rx);exact kia_one PySem.W.kitx_bool I.kIn True.intro e (λz=>nomatch z) h
 | int i=>obtain⟨t,q⟩:=(show ∃t,u=Value.int i t from rx);cases q;exact kia_one PySem.W.kitx_int I.kIn True.intro e (λz=>nomatch z) h
 | str y=>obtain⟨t,q⟩:=(show ∃t,u=Value.str y t from rx);cases q;exact kia_one PySem.W.kitx_str I.kIn True.intro e (λz=>nomatch z) h
 | flt y=>obtain⟨t,q⟩:=(show ∃t,u=Value.float y t from rx);cases q;exact kia_one PySem.W.kitx_float I.kIn True.intro e (λz=>nomatch z) h
 | @lst a xs ea=>
  cases (show u=Value.ref a from rx)
  obtain⟨_,_,n,_,h1⟩:=(show Cm X.prog X.w H s.heap a (.lst xs) from I.hok a _ ea)
  exact kia_one PySem.W.kitx_list I.kIn ⟨_,h1,rq⟩ e (λz=>nomatch z) h
 | @frz a ob xs ea=>
  cases (show u=Value.ref a from rx)
  obtain⟨_,_,_,n,_,h1⟩:=(show Cm X.prog X.w H s.heap a (.frz ob (.lst xs)) from I.hok a _ ea)
  exact kia_one PySem.W.kitx_list I.kIn ⟨_,h1,rq⟩ e (λz=>nomatch z) h
 | @tup a xs ea=>
  cases (show u=Value.ref a from rx)
  obtain⟨_,_,_,p⟩:=(show Cm X.prog X.w H s.heap a (.tup xs) from I.hok a _ ea)
  obtain⟨o,h1,h2,_⟩:=p;exact kia_one PySem.W.kitx_tuple I.kIn ⟨o,h1,h2⟩ e (λz=>nomatch z) h
 | @dK a kvs ea=>
  cases (show u=Value.ref a from rx)
  obtain⟨_,_,vs,_,p⟩:=(show Cm X.prog X.w H s.heap a (.dK kvs) from I.hok a _ ea)
  obtain⟨o,es,ep,h1,h2,_⟩:=p;exact kia_one PySem.W.kitx_dict I.kIn ⟨o,h1,h2.1⟩ e (λz=>nomatch z) h
 | @dT a kvs ea=>
  cases (show u=Value.ref a from rx)
  obtain⟨_,_,xs,_,o,es,ep,h1,h2,_⟩:=(show Cm X.prog X.w H s.heap a (.dT kvs) from I.hok a _ ea)
  exact kia_one PySem.W.kitx_dict I.kIn ⟨o,h1,h2.1⟩ e (λz=>nomatch z) h
 | @ins a C dx fs ea cl ha hn htk hm=>
  cases (show u=Value.ref a from rx)
  obtain⟨mA,O,_⟩:=Ng I.hok ea;obtain⟨od,J,_⟩:=O.look;exact kia_one (PySem.W.kitx_own (cl.get _) cl.hd ha hn htk hm) I.kIn J e (λz=>nomatch z) h
end
structure Cy (k:Nat) (A:Around):Prop where
 hd:A.handled=none
 dp:A.depth+3*k+5 < recursionLimit
 un:A.units+16*k+200 < cLine
theorem Cy.mono {j k:Nat} {A:Around} (r:Cy k A) (h:j<=k):Cy j A:=⟨r.hd,by have:=r.dp;omega,by have:=r.un;omega⟩
theorem Cy.deeper {k:Nat} {A:Around} (r:Cy (k+1) A) (env:Env):Cy k (A.deeper env):=
 ⟨r.hd,by have:=r.dp;show A.depth+1+3*k+5 < _;omega,by have:=r.un;show A.units+3+16*k+200 < _;omega⟩
theorem Cy.in1 {k:Nat} {A:Around} (r:Cy (k+1) A):Cy k A.in1:=
 ⟨r.hd,by have:=r.dp;show A.depth+3*k+5 < _;omega,by have:=r.un;show A.units+1+16*k+200 < _;omega⟩
theorem Ww {A:Around} {C:Addr} {us:YE} {kw:List (Str×Value)}:(A.under (.builtin "type.__call__" ⟨.ref C::us,kw⟩)).depth=A.depth+1:=by
 first | rfl | simp[Around.under,Code.weight,Code.isCreation,Code.isGuard,Code.isCaller,Code.frames,Code.isFrame,guardIds]
theorem Wv {A:Around} {C:Addr} {us:YE} {kw:List (Str×Value)}:(A.under (.builtin "type.__call__" ⟨.ref C::us,kw⟩)).units=A.units+1:=by
 first | rfl | simp[Around.under,Code.cUnits,Code.frames,Code.isFrame]
theorem Cy.make {k:Nat} {A:Around} (r:Cy (k+1) A) (C:Addr) (us:YE) (kw:List (Str×Value)):Cy k (A.under (.builtin "type.__call__" ⟨.ref C::us,kw⟩)):=
 ⟨r.hd,by have:=r.dp;rw[Ww];omega,by have:=r.un;rw[Wv];omega⟩
theorem Cy.depth {k:Nat} {A:Around} (r:Cy k A):A.depth < recursionLimit:=by have:=r.dp;omega
theorem Cy.units {k:Nat} {A:Around} (r:Cy k A):A.units+64 < cLine:=by have:=r.un;omega
def kY:TA:=λ_ H Q=>Q [] H
def jm (ta:TE) (tr:TA):TA:=fun σ H Q=>ta σ H λx H1=>tr σ H1 λxs H2=>Q (x::xs) H2
section
variable {X:Cx} {e:Expr} {es:YJ} {te:TE} {t:TA} {pos:Pos}
theorem Ac:PA X [] kY:=λ_ _ _ _ H Q I h=>Calls.spliced_nil ⟨[],H,I,.nil,h⟩
theorem Aa (ha:PE X e te) (hr:PA X es t) (hs:starEach (e::es) X.env=(false,eval e X.env)::starEach es X.env:=by rfl):PA X (e::es) (jm te t):=by
 intro pos jb s σ H Q I h;rw[hs];show wpAny _ _ (spliced ((false,eval e X.env)::backTo pos (starEach es X.env))) _ _ s;refine Calls.spliced_cons (thn (ha jb s σ H _ I h) λu s1 zz=>?_);obtain⟨x,H1,I1,r1,q1⟩:=zz;refine thn (hr pos jb s1 σ H1 _ I1 q1) λus s2 zz=>?_;obtain⟨xs,H2,I2,r2,q2⟩:=zz;exact⟨x::xs,H2,I2,.cons r1 r2,q2⟩
def kh (t:TA):TE:=fun σ H Q=>t σ H λxs H1=>xs.length<=sizeLine/\∀p,H1 p=none->Q (.ref p) (upd H1 p (.tup xs))
def kZ (t:TA):TE:=fun σ H Q=>t σ H λxs H1=>xs.length<=sizeLine/\∀p,H1 p=none->Q (.ref p) (upd H1 p (.lst xs))
theorem Bs {x1} (h:PA X es t):PE X (.Tuple es x1 pos) (kh t):=by
 intro jb s σ H Q I hq;refine wpAny_Tuple_spliced (thn (h pos jb s σ H _ I hq) λus s1 zz=>?_);obtain⟨xs,H1,I1,r,z,q⟩:=zz;refine⟨by rw[<-r.length];exact z,?_⟩;have hf:H1 s1.heap.objs.size=none:=I1.hok.fresh (Qch _);refine⟨.ref s1.heap.objs.size,upd H1 s1.heap.objs.size (.tup xs),I1.laid (t':=s1.toks) (λb u e=>Qaq _ e) (Qch _) ?_,rq,q _ hf⟩;exact⟨z,us,r,⟨_,QaE _ rfl,rq,_,rq⟩⟩
theorem BK (h:PA X es t):PE X (.List es pos) (kZ t):=by
 intro jb s σ H Q I hq;refine wpAny_List_spliced (thn (h pos jb s σ H _ I hq) λus s1 zz=>?_);obtain⟨xs,H1,I1,r,z,q⟩:=zz;refine⟨by rw[<-r.length];exact z,?_⟩;have hf:H1 s1.heap.objs.size=none:=I1.hok.fresh (Qch _);refine⟨.ref s1.heap.objs.size,upd H1 s1.heap.objs.size (.lst xs),I1.laid (t':=s1.toks) (λb u e=>Qaq _ e) (Qch _) ?_,rq,q _ hf⟩;exact⟨z,us,0,r,QaE _ rfl⟩
end
abbrev Sp:=YG->Hp->VK->XK->Prop
abbrev CXT:=List Env->Hp->Shared->XK->YA
structure Kv (P:Program) (w:World) (K:YD) (mg:YB) (base:Heap) (A:Around) (outer:List Env) (s:Shared) (H:Hp):Prop where
 frames:A.frames=some outer
 mod:Mod K mg base
 bs:∀b o,base.get? b=some o->s.heap.get? b=some o/\H b=none
 bsz:base.objs.size<=s.heap.objs.size
 Hr:s.heap.FunFrames base outer
 frf:∀b∈frs outer,H b=none
 hok:HOk P w H s.heap
 bare:AllBare s.gens
def CE (outer:List Env) (P:Program) (w:World) (H:Hp) (s:Shared) (Q:VK) (u:Value) (s':Shared):Prop:=
 ∃v H',s'.os=s.os/\AllBare s'.gens/\Un (frs outer) [] H H' s.heap s'.heap/\HOk P w H' s'.heap/\RelV v u/\Q v H'
def CR (CX:CXT) (outer:List Env) (P:Program) (w:World) (H:Hp) (s:Shared) (Q:VK) (E:XK) (r:Result) (s':Shared):Prop:=
 match r with
 | .ok (.ret u)=>CE outer P w H s Q u s'
 | .ok _=>False
 | .error e=>CX outer H s E e s'
structure Ec (P:Program) (w:World) (K:YD) (mg:YB) (base:Heap) (CX:CXT) (k:Nat) (f:Addr) (fd:FuncData) (ps:YF) (sp:Sp):Prop where
 len:∀vs H Q E,sp vs H Q E->vs.length=ps.length
 run:∀(A:Around) (outer:List Env) (s:Shared) (H:Hp) (args:Args) (us:YE) (vs:YG) (Q:VK) (E:XK),Cy k A->Kv P w K mg base A outer s H->BindsTo s fd args (ps.zip us)->Vals vs us->sp vs H Q E ->
  codeAny (model P w) A (.call (.ref f) args) (CR CX outer P w H s Q E) s
theorem Ec.mono {P:Program} {w:World} {K:YD} {mg:YB} {base:Heap} {CX:CXT} {j k:Nat} {f:Addr} {fd:FuncData} {ps:YF} {sp:Sp} (F:Ec P w K mg base CX j f fd ps sp) (h:j<=k) :
  Ec P w K mg base CX k f fd ps sp:=⟨F.len,λA outer s H args us vs Q E hr=>F.run A outer s H args us vs Q E (hr.mono h)⟩
theorem Ec.imp {P:Program} {w:World} {K:YD} {mg:YB} {base:Heap} {CX:CXT} {k:Nat} {f:Addr} {fd:FuncData} {ps:YF} {sp sp':Sp} (F:Ec P w K mg base CX k f fd ps sp)
  (h:∀vs H Q E,sp' vs H Q E->sp vs H Q E):Ec P w K mg base CX k f fd ps sp':=
 ⟨λvs H Q E q=>F.len vs H Q E (h _ _ _ _ q),λA outer s H args us vs Q E hr he hb hv hs=>F.run A outer s H args us vs Q E hr he hb hv (h _ _ _ _ hs)⟩
theorem Kv.make {P:Program} {w:World} {K:YD} {mg:YB} {base:Heap} {A:Around} {outer:List Env} {s:Shared} {H:Hp} (e:Kv P w K mg base A outer s H) (C:Addr) (us:YE) (kw:List (Str×Value)) :
  Kv P w K mg base (A.under (.builtin "type.__call__" ⟨.ref C::us,kw⟩)) outer s H:=⟨by first | exact e.frames | (simpa [Around.under,Code.envs,Code.isFrame,pushEnvs] using e.frames),e.mod,e.bs,e.bsz,e.Hr,e.frf,e.hok,e.bare⟩
theorem Kv.in1 {P:Program} {w:World} {K:YD} {mg:YB} {base:Heap} {A:Around} {outer:List Env} {s:Shared} {H:Hp} (e:Kv P w K mg base A outer s H) :
  Kv P w K mg base A.in1 outer s H:=⟨e.frames,e.mod,e.bs,e.bsz,e.Hr,e.frf,e.hok,e.bare⟩
section
variable {X:Cx} {jb:YC} {σ : St} {H:Hp} {s s':Shared}
theorem Inv.env0 (I:Inv X jb σ H s):Kv X.prog X.w X.K X.mg X.base X.A X.stack s H:=
 ⟨I.ok.frames,I.ok.mod,I.bs,Qcd I.ok.bsz I.sz,I.stack,I.Py,I.hok,I.bare⟩
theorem Inv.after {Q:VK} {u:Value} (I:Inv X jb σ H s) (h:CE X.stack X.prog X.w H s Q u s'):EP X jb σ Q u s':=by
 obtain⟨v,H',os,bare,un,hok,r,q⟩:=h;obtain⟨hh,g,d,t,os'⟩:=s';obtain rfl:os'=s.os:=os;exact⟨v,H',I.call (h':=hh) (g':=g) (d':=d) (t':=t) (ch:=[]) un hok bare (λb z=>absurd z (by simp)),r,q⟩
end
def aR (sp:Sp) (dvs:YG) (E:XK) (t:TA):TE:=fun σ H Q=>t σ H λvs H1=>sp (vs++dvs) H1 Q E
def aP (C:Addr) (m:Str) (sp:Sp) (dvs:YG) (E:XK) (ta:TE) (t:TA):TE:=fun σ H Q=>ta σ H λx H1=>∃a dx fs,x=.ref a/\H1 a=some (.ins C dx fs)/\fs.lookup m=none /\
 t σ H1 λvs H2=>sp (x::(vs++dvs)) H2 Q E
def aQ (C:Addr) (sp:Sp) (dvs:YG) (E:XK) (t:TA):TE:=fun σ H Q=>t σ H λvs H1=>∀x dx,H1 x=none->H1 dx=none->dx≠x ->
 sp (.ref x::(vs++dvs)) (upd (upd H1 dx (.own x)) x (.ins C dx [])) (λv H2=>v=.non/\Q (.ref x) H2) E
def Binds (K:YD) (fd:FuncData) (ps:YF) (ds:YE):Prop:=
 ∀(s:Shared) (us:YE),K.In s.heap->(us++ds).length=ps.length->BindsTo s fd ⟨us,[]⟩ (ps.zip (us++ds))
theorem Binds.all {K:YD} {fd:FuncData} {ps:YF} (h:∀us:YE,us.length=ps.length->bindArgs fd ⟨us,[]⟩=pure (ps.zip us)):Binds K fd ps []:=λs us _ hl=>by
 rw[QbE] at hl ⊢;exact .of_eq (h us hl)
def Passes (CX:CXT) (X:Cx) (E:XK):Prop:=∀(jb:YC) (σ : St) (H:Hp) (s:Shared) (e:Value) (s':Shared),Inv X jb σ H s->CX X.stack H s E e s'->X.xe e s'
section
variable {X:Cx} {CX:CXT} {k:Nat} {f C:Addr} {fd:FuncData} {ps:YF} {sp:Sp} {dvs:YG} {ds:YE} {E:XK} {x m:Str} {p pos apos:Pos} {e o:Expr} {es:YJ} {ta:TE} {t:TA}
theorem X4 {jb:YC} {σ : St} {H:Hp} {s:Shared} {Q:VK} {us:YE} {vs:YG} (F:Ec X.prog X.w X.K X.mg X.base CX k f fd ps sp) (hr:Cy k X.A) (hb:Binds X.K fd ps ds) (hd:Vals dvs ds) (hx:Passes CX X E)
  (I:Inv X jb σ H s) (r:Vals vs us) (h:sp (vs++dvs) H Q E):wpAny (model X.prog X.w) X.A (call (.ref f) us) (EP X jb σ Q) X.xe s:=by
 have r2:Vals (vs++dvs) (us++ds):=r.append hd;have hl:(us++ds).length=ps.length:=by rw[<-r2.length];exact F.len _ _ _ _ h
 refine wpAny_call (codeAny_mono (F.run X.A X.stack s H ⟨us,[]⟩ (us++ds) (vs++dvs) Q E hr I.env0 (hb s us I.kIn hl) r2 h) λr s' hq=>?_);cases r with
 | error e=>exact hx jb σ H s e s' I hq
 | ok fl=>
  cases fl with
  | ret u=>exact I.after hq
  | next=>exact False.elim hq
  | brk=>exact False.elim hq
  | cont=>exact False.elim hq
theorem cM (F:Ec X.prog X.w X.K X.mg X.base CX k f fd ps sp) (hr:Cy k X.A) (hg:Gl X x) (hm:X.mg x=some (.ref f)) (hk:keepIn X.K (.ref f)=true) (hb:Binds X.K fd ps ds) (hd:Vals dvs ds) (hx:Passes CX X E)
  (ha:PA X (e::es) t) (hdb:(x == ("__debug__":Str))=false:=by decide) (he:starEach (e::es) X.env=(false,eval e X.env)::starEach es X.env:=by rfl) (hpl:(backTo pos (starEach es X.env)).any (·.1)=false:=by rfl) :
  PE X (.Call (.Name x p) (e::es) [] pos) (aR sp dvs E t):=by
 intro jb s σ H Q I h;refine QaX (Qn I hg hm ?_ hdb);refine PySem.W.callWith_K (h₀:=X.base) I.ok.mod.kin hk (thn (ha pos jb s σ H _ I h) λus s1 zz=>?_) he hpl;obtain⟨vs,H1,I1,r,q⟩:=zz;refine⟨I1.kIn,?_⟩;exact X4 F hr hb hd hx I1 r q
theorem cu {pl:Sem Bool} (he:PE X o ta) (c:Cls X.K C) (hm:Meth X.K C m f) (F:Ec X.prog X.w X.K X.mg X.base CX k f fd ps sp) (hr:Cy k X.A) (hb:Binds X.K fd ps ds) (hd:Vals dvs ds) (hx:Passes CX X E) (ha:PA X (e::es) t)
  (hst:starEach (e::es) X.env=(false,eval e X.env)::starEach es X.env:=by rfl) (hpl:(backTo pos (starEach es X.env)).any (·.1)=false:=by rfl)
  (ht:eval (.Call (.Attribute o m apos) (e::es) [] pos) X.env=(do
   let ov <-eval o X.env
   standAt apos.atName
   let (f,first) <-holding [ov] (getMethod ov m pl)
   callWith pos f first (backTo pos (starEach (e::es) X.env)) (backToKw pos (keywordEach [] X.env))):=by rfl) :
  PE X (.Call (.Attribute o m apos) (e::es) [] pos) (aP C m sp dvs E ta t):=by
 intro jb s σ H Q I h;refine PySem.W.methodCall_KW (pl:=pl) (thn (he jb s σ H _ I h) λu s1 zz=>?_) ht;obtain⟨x,H1,I1,rx,a,dx,fs,ex,ea,l,q⟩:=zz;subst ex;obtain rfl:u=Value.ref a:=rx;refine Ph I1 ea c hm l ?_;refine PySem.W.callWith_K (first:=[.ref a]) (h₀:=X.base) I.ok.mod.kin hm.kp (thn (ha pos jb s1 σ H1 _ I1 q) λus s2 zz=>?_) hst hpl
 obtain⟨vs,H2,I2,r,q2⟩:=zz;refine⟨I2.kIn,?_⟩;exact X4 (us:=.ref a::us) (vs:=.ref a::vs) F hr hb hd hx I2 (.cons rfl r) q2
structure Mk (K:YD) (C f:Addr):Prop where
 makes:makesIn K C=true
 init:findIn K (.ref C) "__init__"=some (some (.ref f))
 fn:isFn K (.ref f)=true
 kp:keepIn K (.ref C)=true
theorem Zj {jb:YC} {σ : St} {H:Hp} {s:Shared} {Q:VK} {us:YE} {vs:YG} (M:Mk X.K C f) (F:Ec X.prog X.w X.K X.mg X.base CX k f fd ps sp) (hr:Cy (k+1) X.A) (hb:Binds X.K fd ps ds) (hd:Vals dvs ds)
  (hx:Passes CX X E) (I:Inv X jb σ H s) (r:Vals vs us)
  (h:∀x dx,H x=none->H dx=none->dx≠x->sp (.ref x::(vs++dvs)) (upd (upd H dx (.own x)) x (.ins C dx [])) (λv H2=>v=.non/\Q (.ref x) H2) E) :
  wpAny (model X.prog X.w) X.A (call (.ref C) us) (EP X jb σ Q) X.xe s:=by
 have hq:=h (s.heap.objs.size+1) s.heap.objs.size (I.hok.fresh (Qck _)) (I.hok.fresh (Qch _)) (Qcc (Qbt _));have I2:=Inv.made (C:=C) I;have r2:Vals (V.ref (s.heap.objs.size+1)::(vs++dvs)) (Value.ref (s.heap.objs.size+1)::(us++ds)):=.cons rfl (r.append hd);have hl:(Value.ref (s.heap.objs.size+1)::us++ds).length=ps.length:=by
  have e:=r2.length;rw[F.len _ _ _ _ hq] at e;exact e.symm
 refine wpAny_call (ZP (f:=f) I.kIn M.makes M.init (beq_iff_eq.mp M.fn) (codeAny_mono (F.run _ X.stack _ _ ⟨Value.ref (s.heap.objs.size+1)::us,[]⟩ (Value.ref (s.heap.objs.size+1)::(us++ds)) _ _ E (hr.make C us [])
  (I2.env0.make C us []) (hb _ (Value.ref (s.heap.objs.size+1)::us) I2.kIn hl) r2 hq) λr s' hq'=>?_))
 cases r with
 | error e=>exact hx jb σ _ _ e s' I2 hq'
 | ok fl=>
  cases fl with
  | ret u=>
   obtain⟨v,H',I3,rv,ev,q3⟩:=I2.after hq';subst ev;exact⟨rv,⟨V.ref (s.heap.objs.size+1),H',I3,rq,q3⟩⟩
  | next=>exact False.elim hq'
  | brk=>exact False.elim hq'
  | cont=>exact False.elim hq'
theorem cH (M:Mk X.K C f) (F:Ec X.prog X.w X.K X.mg X.base CX k f fd ps sp) (hr:Cy (k+1) X.A) (hg:Gl X x) (hm:X.mg x=some (.ref C)) (hb:Binds X.K fd ps ds) (hd:Vals dvs ds) (hx:Passes CX X E)
  (ha:PA X (e::es) t) (hdb:(x == ("__debug__":Str))=false:=by decide) (he:starEach (e::es) X.env=(false,eval e X.env)::starEach es X.env:=by rfl) (hpl:(backTo pos (starEach es X.env)).any (·.1)=false:=by rfl) :
  PE X (.Call (.Name x p) (e::es) [] pos) (aQ C sp dvs E t):=by
 intro jb s σ H Q I h;refine QaX (Qn I hg hm ?_ hdb);refine PySem.W.callWith_K (h₀:=X.base) I.ok.mod.kin M.kp (thn (ha pos jb s σ H _ I h) λus s1 zz=>?_) he hpl;obtain⟨vs,H1,I1,r,q⟩:=zz;refine⟨I1.kIn,?_⟩;exact Zj M F hr hb hd hx I1 r q
end
section
variable {X:Cx} {CX:CXT} {k:Nat} {f C:Addr} {fd:FuncData} {ps ks:YF} {sp:Sp} {E:XK} {x m:Str} {p pos apos kpos:Pos} {e o:Expr} {es:YJ} {kws:List Keyword} {te ta:TE} {t tk:TA} {nm:Option Str}
variable {g:YE->YE->YE} {gV:YG->YG->YG}
end
structure Bq (N P:YF) (sc:Scope):Prop where
 kind:sc.kind=.function
 co:sc.isCoroutine=false
 gen:sc.isGenerator=false
 nd:N.Nodup
 pre:N.take P.length=P
 par:∀x∈P,sc.names.lookup x=some .local\/sc.names.lookup x=some .cell
 Tt:∀y∈sc.names,y.2≠.free
theorem Q8 {kindOf:Str->Option NameKind} {x:Str}:∀{binds:List (Str×Value)} {m:YB},(∀v,(x,v)∉binds)->bindL kindOf binds m x=m x
 | [],_,_=>rfl
 | (n,v)::r,m,h=>by
  unfold bindL;rw[Q8 λw hw=>h w (Qaz _ hw)];split
  ·have:x≠n:=by rintro rfl;exact h v QaN
   simp[this]
  ·rfl
theorem Ra {kindOf:Str->Option NameKind} {x:Str}:∀{binds:List (Str×Value)} {m:YB},(∀v,(x,v)∉binds)->bindC kindOf binds m x=m x
 | [],_,_=>rfl
 | (n,v)::r,m,h=>by
  unfold bindC;rw[Ra λw hw=>h w (Qaz _ hw)];split
  ·rfl
  ·have:x≠n:=by rintro rfl;exact h v QaN
   simp[this]
theorem Q9 {kindOf:Str->Option NameKind} {x:Str} {v:Value}:∀{P:YF} {vs:YE} {i:Nat} {m:YB},P.Nodup->P[i]?=some x->vs[i]?=some v->kindOf x=some .local ->
  bindL kindOf (P.zip vs) m x=some v
 | [],_,_,_,_,h,_,_=>by simp at h
 | _::_,[],_,_,_,_,h,_=>by simp at h
 | p::P,w::vs,0,m,nd,h1,h2,hk=>by
  simp at h1 h2;subst h1;subst h2;show bindL kindOf ((p,w)::P.zip vs) m p=_;unfold bindL;rw[Q8 λv hv=>(QbB.mp nd).1 (List.of_mem_zip hv).1,if_pos hk];simp
 | p::P,w::vs,i+1,m,nd,h1,h2,hk=>by
  show bindL kindOf ((p,w)::P.zip vs) m x=_;unfold bindL;exact Q9 (i:=i) (QbB.mp nd).2 (by simpa using h1) (by simpa using h2) hk
theorem Rb {kindOf:Str->Option NameKind} {x:Str} {v:Value}:∀{P:YF} {vs:YE} {i:Nat} {m:YB},P.Nodup->P[i]?=some x->vs[i]?=some v->kindOf x≠some .local ->
  bindC kindOf (P.zip vs) m x=some v
 | [],_,_,_,_,h,_,_=>by simp at h
 | _::_,[],_,_,_,_,h,_=>by simp at h
 | p::P,w::vs,0,m,nd,h1,h2,hk=>by
  simp at h1 h2;subst h1;subst h2;show bindC kindOf ((p,w)::P.zip vs) m p=_;unfold bindC;rw[Ra λv hv=>(QbB.mp nd).1 (List.of_mem_zip hv).1,if_neg hk];simp
 | p::P,w::vs,i+1,m,nd,h1,h2,hk=>by
  show bindC kindOf ((p,w)::P.zip vs) m x=_;unfold bindC;exact Rb (i:=i) (QbB.mp nd).2 (by simpa using h1) (by simpa using h2) hk
def start (N:YF) (vs:YG):St:=vs.map some++List.replicate (N.length - vs.length) none
def MF (CX:CXT) (P:Program) (w:World) (K:YD) (mg:YB) (base:Heap) (N:YF) (qual:Str) (scope:Scope) (f:Addr) (cd:Value) (A:Around) (outer:List Env) (s:Shared) (H:Hp) (E:XK):Cx where
 prog:=P
 w:=w
 K:=K
 mg:=mg
 base:=base
 A:=A.deeper (envOfC qual scope s.heap.objs.size f cd)
 N:=N
 s₀:=s
 H₀:=H
 env:=envOfC qual scope s.heap.objs.size f cd
 outer:=outer
 stack:=envOfC qual scope s.heap.objs.size f cd::outer
 ex:=[]
 calm:=true
 fn:=λ_=>true
 pn:=[]
 xe:=λe s'=>wpAny (model P w) (A.deeper (envOfC qual scope s.heap.objs.size f cd)) (leaving (envOfC qual scope s.heap.objs.size f cd) e) (λ_ s''=>CX outer H s E e s'') (λe' s''=>CX outer H s E e' s'') s'
theorem Uq {sc:Scope} {n:Nat} {x:Str} (h:sc.names.lookup x=some .cell):∃c,(cellsFrom n sc.names []).lookup x=some c:=by
 have q:=PySem.W.cellsFrom_some sc.names n [] (.inl h);exact Option.isSome_iff_exists.mp q
theorem Ys {CX:CXT} {P:Program} {w:World} {K:YD} {mg:YB} {base:Heap} {N ps:YF} {qual:Str} {scope:Scope} {f:Addr} {cd:Value} {A:Around} {outer:List Env} {s s1:Shared} {H:Hp} {E:XK} {us:YE} {vs:YG}
  (S:Bq N ps scope) (hd:A.handled=none) (e0:Kv P w K mg base A outer s H) (hl:vs.length=ps.length) (r:Vals vs us)
  (x:InCallC s s.heap.objs.size (bindL (envOfC qual scope s.heap.objs.size f cd).kindOf (ps.zip us) λ_=>none) (cellsFrom (s.heap.objs.size+1) scope.names []) (bindC (envOfC qual scope s.heap.objs.size f cd).kindOf (ps.zip us) λ_=>none) s1) :
  Inv (MF CX P w K mg base N qual scope f cd A outer s H E) [] (start N vs) H s1:=by
 have hpl:ps.length<=N.length:=by have:=congrArg List.length S.pre;rw[Qbn] at this;omega
 obtain⟨h1,tk,rfl,hk⟩:=x.done;have noA:∀b:Addr,b∉(MF CX P w K mg base N qual scope f cd A outer s H E).ex:=λb z=>absurd (show b∈([]:List Addr) from z) (by simp)
 refine⟨⟨e0.mod,S.kind,rq,rq,Qch _,λy z c h1 h2=>?_,λy hy=>?_,λy c _ h=>?_,λ_=>hd,Around.frames_deeper e0.frames,.inr ⟨rq,rq⟩,λb z=>absurd z (noA b),e0.bs,e0.bsz,λb _ _=>noA b,λb z=>absurd z (noA b),e0.Hr,e0.frf⟩,
  rfl,e0.bare,Un.kept hk,⟨_,x.toInCall.ns,λi y v h1 h2 h3=>?_⟩,λy c h=>⟨_,x.cell y c h⟩,e0.hok.fresh (Qch _),λy c h=>?_,λp hp=>absurd (show p∈([]:YC) from hp) (by simp),e0.hok.kept hk,?_⟩
 ·exact name_of_addr x.apart (QaI h1) (QaI h2)
 ·have hy:scope.names.lookup y=some .cell\/scope.names.lookup y=some .free:=hy;rcases hy with hy | hy
  ·exact Uq hy
  ·exact absurd rfl (S.Tt _ (QaI hy))
 ·exact Qcg (x.above y c (QaI h))
 ·have hi:i < vs.length:=by
   unfold start at h2;by_cases hi:i < vs.length
   ·exact hi
   ·rw[Qad (by simpa using hi)] at h2;rw[List.getElem?_replicate] at h2;split at h2 <;> cases h2
  have ha:vs[i]?=some v:=by
   unfold start at h2;rw[Qah (by simpa using hi),Qbc] at h2;cases e:vs[i]? with
   | none=>rw[e] at h2;cases h2
   | some a=>rw[e] at h2;cases h2;rfl
  obtain⟨u,hu,rv⟩:=r.get ha;have hp:ps[i]?=some y:=by
   rw[<-S.pre,List.getElem?_take_of_lt (by omega)];exact h1
  have ndP:ps.Nodup:=by rw[<-S.pre];exact S.nd.sublist (List.take_sublist _ _)
  refine⟨u,rv,?_⟩;rcases S.par y (Qay hp) with k | k
  ·exact .inl ⟨k,Q9 ndP hp hu k⟩
  ·obtain⟨c,e⟩:=Uq (n:=s.heap.objs.size+1) k;refine .inr ⟨.inl k,c,e,?_⟩;have q:=x.cell y c e;rw[Rb ndP hp hu (by show scope.names.lookup y≠_;rw[k];decide)] at q;exact q
 ·exact e0.hok.fresh (Qcg (x.above y c (QaI h)))
 ·unfold start;show _=N.length;rw[QaM,Qbw,List.length_replicate];omega
theorem jY {CX:CXT} {P:Program} {w:World} {K:YD} {mg:YB} {base:Heap} {k:Nat} {f:Addr} {name qual:Str} {params:Arguments} {body:List Stmt} {scope:Scope} {dV kV doc pm cdv ct oc:Value} {an od:Option Addr}
  {osl:YI} {N ps:YF} {sp:Sp} (lk:K.lookup f=some ⟨oc,od,.func (fnOf name qual params body scope dV kV doc pm an cdv ct),osl⟩) (hcd:codeIn K cdv qual=true) (S:Bq N ps scope)
  (len:∀vs H Q E,sp vs H Q E->vs.length=ps.length)
  (hbody:∀(A:Around) (outer:List Env) (s:Shared) (H:Hp) (vs:YG) (Q:VK) (E:XK),Cy k (A.deeper (envOfC qual scope s.heap.objs.size f cdv))->sp vs H Q E ->
   ∃t,PSs (MF CX P w K mg base N qual scope f cdv A outer s H E) body t/\t { nx:=λ_ H'=>Q .non H',rt:=Q } (start N vs) H) :
  Ec P w K mg base CX (k+1) f (fnOf name qual params body scope dV kV doc pm an cdv ct) ps sp:=by
 refine⟨len,λA outer s H args us vs Q E hr e0 hb r hsp=>?_⟩;have hl:=len _ _ _ _ hsp;have KX:K.In s.heap:=e0.mod.kin.keeps λb o e=>(e0.bs b o e).1;have lim:s.heap.NoLimit:=e0.mod.nolimit.keeps λb o e=>(e0.bs b o e).1;have hkind:∀y∈ps.zip us,scope.names.lookup y.1=some .local\/(scope.names.lookup y.1=some .cell/\((cellsFrom (s.heap.objs.size+1) scope.names []).lookup y.1).isSome=true):=λ⟨n,v⟩ hy=>by
  rcases S.par n (List.of_mem_zip hy).1 with q | q
  ·exact .inl q
  ·exact .inr ⟨q,PySem.W.cellsFrom_some _ _ _ (.inl q)⟩
 refine codeAny_call_function hr.depth (KX _ _ lk) rfl S.co S.gen rfl (PySem.W.codeRec_of KX hcd) (hb _ _ _ _ ?_);refine wpAny_newFunctionEnv_cells S.kind hkind λenv he s1 x=>?_;subst he;refine⟨lim.keeps x.toInCall.keep,codeAny_func ?_⟩;obtain⟨t,ht,hq⟩:=hbody A outer s H vs Q E (hr.deeper _) hsp;have I:Inv (MF CX P w K mg base N qual scope f cdv A outer s H E) [] (start N vs) H s1:=Ys S hr.hd e0 hl r x;refine Qcn (ht [] s1 (start N vs) H _ I hq) (λfl s' hs=>?_) λe s' hs=>hs;have fin:∀{σ':St} {H':Hp} {v:V} {u:Value},Inv (MF CX P w K mg base N qual scope f cdv A outer s H E) [] σ' H' s'->RelV v u->Q v H'->CE outer P w H s Q u s':=
  λ{σ' H' v u} J rv q=>⟨v,H',J.os,J.bare,J.base,J.hok,rv,q⟩
 cases fl with
 | ret u=>
  obtain⟨v,σ',H',J,rv,q⟩:=hs;exact fin J rv q
 | next=>
  obtain⟨σ',H',J,q⟩:=hs;exact fin (v:=V.non) (u:=Value.none) J rfl q
 | brk=>
  obtain⟨_,_,_,q⟩:=hs;exact False.elim q
 | cont=>
  obtain⟨_,_,_,q⟩:=hs;exact False.elim q
section
variable {X:Cx} {x:Str} {p pos:Pos} {e:Expr} {es:YJ} {t:TA} {id T:String} {r:YG->Hp->VK->Prop}
def tCB (r:YG->Hp->VK->Prop) (t:TA):TE:=fun σ H Q=>t σ H λvs H1=>r vs H1 Q
theorem Ar (hc:Du X (.builtin id) r) (hg:Gl X x) (hm:X.mg x=none) (hv:bootBuiltins x=some (.builtin id)) (ha:PA X (e::es) t) (hn:x≠"__name__":=by decide) (hdb:(x == ("__debug__":Str))=false:=by decide)
  (he:starEach (e::es) X.env=(false,eval e X.env)::starEach es X.env:=by rfl) (hpl:(backTo pos (starEach es X.env)).any (·.1)=false:=by rfl):PE X (.Call (.Name x p) (e::es) [] pos) (tCB r t):=by
 intro jb s σ H Q I h;refine QaX (Gn I hg hm hv ?_ hn hdb);refine PyProof.Rows.callWith_builtin1 (thn (ha pos jb s σ H _ I h) λus s1 zz=>?_) he hpl;obtain⟨vs,H1,I1,r1,q1⟩:=zz;exact hc jb s1 σ H1 vs us Q I1 r1 q1
theorem Cq (hc:Du X (.type T) r) (hg:Gl X x) (hm:X.mg x=none) (hv:bootBuiltins x=some (.type T)) (ha:PA X (e::es) t) (hn:x≠"__name__":=by decide) (hdb:(x == ("__debug__":Str))=false:=by decide)
  (he:starEach (e::es) X.env=(false,eval e X.env)::starEach es X.env:=by rfl) (hpl:(backTo pos (starEach es X.env)).any (·.1)=false:=by rfl):PE X (.Call (.Name x p) (e::es) [] pos) (tCB r t):=by
 intro jb s σ H Q I h;refine QaX (Gn I hg hm hv ?_ hn hdb);refine Qac (thn (ha pos jb s σ H _ I h) λus s1 zz=>?_) he hpl;obtain⟨vs,H1,I1,r1,q1⟩:=zz;exact hc jb s1 σ H1 vs us Q I1 r1 q1
end
end L2
namespace HT
open PySem PyProof.Rows
section
open PySem.SeqAt
open PySem.AutoSeq1 (wpAny_loadPart')
open PySem.MeetsSeq PySem.MeetsSeq2 PySem.MeetsSeq3
end
section
variable {prog:Program} {w:World} {A:Around} {E:YA} {s:Shared}
theorem dJ {t b:Addr} {vs ws:YE} {Q:YA} (ht:IsTup s.heap t vs.toArray) (hb:IsTup s.heap b ws.toArray) (hv:vs≠[])
  (h1:ws=[]->Q (.ref t) s) (h2:ws≠[]->Q (.ref s.heap.objs.size) { s with heap:=s.heap.push { cls:=.type "tuple",data:=.seq (vs++ws).toArray } })
  (hsz:vs.length+ws.length<=sizeLine):wpAny (model prog w) A (binaryOp .Add (.ref t) (.ref b)) Q E s:=by
 obtain⟨⟨cls,dd,data,sl⟩,ho,hc,n,hd⟩:=id ht;obtain⟨⟨cls2,dd2,data2,sl2⟩,ho2,hc2,n2,hd2⟩:=id hb;simp only at hc hd hc2 hd2;subst hc hd hc2 hd2;have e:vs.toArray++ws.toArray=(vs++ws).toArray:=by simp
 by_cases hw:ws=[]
 ·exact concat_meets ⟨_,ho,rq⟩ ⟨_,ho2,rq⟩ noFill_tuple_add seq_tuple_add PySem.F.slot_tuple_add PySem.F.entry_tuple_add (PySem.F.args_tuple_add_2 _ _)
   (tuple_addW1 t b vs.toArray ws.toArray n n2 dd dd2 sl sl2 (by simpa using hv) (by simp[hw])) ⟨ho,ho2,h1 hw⟩
 ·refine concat_meets ⟨_,ho,rq⟩ ⟨_,ho2,rq⟩ noFill_tuple_add seq_tuple_add PySem.F.slot_tuple_add PySem.F.entry_tuple_add (PySem.F.args_tuple_add_2 _ _)
   (tuple_addW2 t b vs.toArray ws.toArray n n2 dd dd2 sl sl2 (by simpa using hv) (by simpa using hw) (by rw[Qba,Qba];exact hsz)) ⟨ho,ho2,?_⟩
  rw[e];exact h2 hw
def sIx (n d:Nat):Option Int->Nat
 | none=>d
 | some v=>if v < 0 then (v+(n:Int)).toNat else min v.toNat n
theorem Hw (n d:Nat):sIx n d none=d:=rfl
theorem Hx (n d k:Nat):sIx n d (some (k:Int))=min k n:=by
 show (if (k:Int) < 0 then ((k:Int)+(n:Int)).toNat else min (k:Int).toNat n)=min k n
 rw[if_neg (by omega),Qbe]
theorem fD (n d:Nat) (hd:d<=n) (o:Option Int):sIx n d o<=n:=by
 cases o with
 | none=>exact hd
 | some v=>
  show (if v < 0 then (v+(n:Int)).toNat else min v.toNat n)<=n
  by_cases hv:v < 0
  ·rw[if_pos hv];omega
  ·rw[if_neg hv];exact Nat.min_le_right _ _
theorem Vx (v:Int) (n d:Nat):(if v < 0 then max (v+(n:Int)) 0 else min v (n:Int))=((sIx n d (some v):Nat):Int):=by
 show (if v < 0 then max (v+(n:Int)) 0 else min v (n:Int))=(((if v < 0 then (v+(n:Int)).toNat else min v.toNat n):Nat):Int)
 by_cases hv:v < 0
 ·simp only[if_pos hv];omega
 ·simp only[if_neg hv];omega
theorem W7 (lo hi:Option Int) (n:Nat):Builtin.Slice.sliceAdjust lo hi 1 (n:Int)=(((sIx n 0 lo:Nat):Int),((sIx n n hi:Nat):Int)):=by
 have h1:¬((1:Int) < 0):=by omega
 unfold Builtin.Slice.sliceAdjust;simp only[h1,Qcr];refine Prod.ext ?_ ?_
 ·cases lo with
  | none=>rfl
  | some v=>exact Vx v n 0
 ·cases hi with
  | none=>rfl
  | some v=>exact Vx v n n
theorem Wg (i j:Nat):Builtin.Slice.slicePlaces (i:Int) (j:Int) 1=j - i:=by
 unfold Builtin.Slice.slicePlaces;have h1:(1:Int) > 0:=by omega
 simp only[h1,if_true,Int.ediv_one];split <;> omega
theorem K5 {v:Value} {o:Option Int} {Q:Option Int->Shared->Prop} (p:IsPart v o) (h:Q o s):wpAny (model prog w) A (Builtin.Slice.slicePartIndex v) Q E s:=by
 cases p with
 | none=>exact slicePart_none h
 | int i t=>exact slicePart_int h
theorem JB {sl:Addr} {vl vu:Value} {lo hi:Option Int} {n:Nat} {Q:Int×Int×Nat->Shared->Prop} (hs:s.heap.IsSliceOf sl vl vu .none) (pl:IsPart vl lo) (pu:IsPart vu hi)
  (h:Q (((sIx n 0 lo:Nat):Int),1,sIx n n hi - sIx n 0 lo) s):wpAny (model prog w) A (Builtin.Slice.sliceApplied (.ref sl) (pure (n:Int))) Q E s:=by
 obtain⟨os,hos,hcs,hds⟩:=id hs;unfold Builtin.Slice.sliceApplied Builtin.Slice.sliceFields;refine Qcl (Qcl (Qcj hos hds (x:=vl) rfl (Qcl (Qcj hos hds (x:=vu) rfl (Qcl (Qcj hos hds (x:=.none) rfl (Qcm ?_)))))));refine Qcl (slicePart_none ?_);show wpAny _ _ (if ((1:Int) == 0)=true then _ else _) _ _ s
 rw[if_neg (by decide)];refine Qcl (K5 pl (Qcl (K5 pu (Qcl (Qcm ?_)))));show wpAny _ _ (match Builtin.Slice.sliceAdjust lo hi 1 (n:Int) with | (lo,hi)=>pure (lo,(1:Int),Builtin.Slice.slicePlaces lo hi 1)) _ _ s
 rw[W7 lo hi n];show wpAny _ _ (pure (((sIx n 0 lo:Nat):Int),(1:Int),Builtin.Slice.slicePlaces ((sIx n 0 lo:Nat):Int) ((sIx n n hi:Nat):Int) 1)) _ _ s;rw[Wg];exact Qcm h
theorem Zo (xs:Array Value) (i k:Nat):((List.range k).filterMap λ(m:Nat)=>xs[((i:Int)+(m:Int)*1).toNat]?).toArray=((xs.toList.drop i).take k).toArray:=by
 have e:(λ(m:Nat)=>xs[((i:Int)+(m:Int)*1).toNat]?)=λm=>xs[i+m]?:=by
  funext m
  have:((i:Int)+(m:Int)*1).toNat=i+m:=by omega
  rw[this]
 rw[e];have:=pick_run xs i k;rw[List.filterMap_map] at this;have e2:((λx=>xs[x]?) ∘ λx=>i+x)=λm=>xs[i+m]?:=rfl;rw[e2] at this;rw[this]
theorem Nk {t sl:Addr} {items:Array Value} {vl vu:Value} {lo hi:Option Int} {Q:YA} (ht:IsTup s.heap t items) (hs:s.heap.IsSliceOf sl vl vu .none) (pl:IsPart vl lo) (pu:IsPart vu hi)
  (hw:¬(sIx items.size 0 lo=0/\sIx items.size items.size hi=items.size))
  (h:Q (.ref s.heap.objs.size) { s with heap:=s.heap.push { cls:=.type "tuple",data:=.seq ((items.toList.drop (sIx items.size 0 lo)).take (sIx items.size items.size hi - sIx items.size 0 lo)).toArray } })
  (hsz:items.size<=sizeLine):wpAny (model prog w) A (getItem (.ref t) (.ref sl)) Q E s:=by
 have Js:sizeOk (.seq ((items.toList.drop (sIx items.size 0 lo)).take (sIx items.size items.size hi - sIx items.size 0 lo)).toArray):=by
  show ((items.toList.drop (sIx items.size 0 lo)).take (sIx items.size items.size hi - sIx items.size 0 lo)).toArray.size<=sizeLine;rw[Qba,Qbn,Qbq,QaF];omega
 have hj:sIx items.size items.size hi<=items.size:=fD _ _ (Qch _) hi;obtain⟨os,hos,hcs,hds⟩:=id hs;have hTs:s.TypeIs (.ref sl) "slice":=⟨os,hos,hcs⟩;unfold getItem
 try with_reducible refine QbW ?_
 first | refine Qcl (Qcm ?_) | skip
 refine Qcl (wpAny_sequenceKey ht.typeIs (by decide) ?_);refine Qcl (Qam (name:=Str.ofString "__getitem__") ht.typeIs Qab
  (Qbr Qab ht.typeIs entry_tuple_getitem ?_ (args_tuple_getitem _ _)))
 show wpAny _ _ (Builtin.Tuple.tupleItemsOf (.ref t) >>= _) _ _ s;refine Qcl (tupleItemsOf_ ht ?_);refine Qcl (wpAny_typeOf hTs ?_);rw[if_pos (by decide)];refine Qcl (JB hs pl pu ?_);have hno:¬((((sIx items.size 0 lo:Nat):Int) == 0&&(1:Int) == 1&&(sIx items.size items.size hi - sIx items.size 0 lo) == items.size)=true):=by
  intro q;rw[Qbm,Qbm] at q;have q1:((sIx items.size 0 lo:Nat):Int)=0:=eq_of_beq q.1.1;have q2:sIx items.size items.size hi - sIx items.size 0 lo=items.size:=eq_of_beq q.2;exact hw ⟨by omega,by omega⟩
 show wpAny _ _ (if (((sIx items.size 0 lo:Nat):Int) == 0&&(1:Int) == 1&&(sIx items.size items.size hi - sIx items.size 0 lo) == items.size)=true then _ else _) _ _ s
 rw[if_neg hno,Zo]
 first
  | exact Qcl (m:=Builtin.Tuple.tupleExact _) (Qbd (Qcm ⟨_,rfl,Qcm h⟩) Js)
  | exact Qcl (m:=Builtin.Tuple.tupleExact _) (Qbd (Qcl (Qcm (Qcm ⟨_,rfl,Qcm h⟩))) Js)
  | exact Qcl (Qcl (m:=Builtin.Tuple.tupleExact _) (Qbd (Qcm (Qcm ⟨_,rfl,Qcm h⟩)) Js))
  | exact Qcl (Qcl (m:=Builtin.Tuple.tupleExact _) (Qbd (Qcm ⟨_,rfl,Qcm h⟩) Js))
end
end HT
namespace L2
open PySem PySem.Spec PyProof.Rows
abbrev TO:=St->Hp->(Option Int->Hp->Prop)->Prop
def PO (X:Cx) (e:Option Expr) (t:TO):Prop:=
 ∀(jb:YC) (s:Shared) (σ : St) (H:Hp) (Q:Option Int->Hp->Prop),Inv X jb σ H s->t σ H Q ->
  wpAny (model X.prog X.w) X.A (evalPart e X.env) (λu s'=>∃o H',Inv X jb σ H' s'/\IsPart u o/\Q o H') X.xe s
def bN:TO:=λ_ H Q=>Q none H
def ji (t:TE):TO:=fun σ H Q=>t σ H λx H1=>∃i,x=.int i/\Q (some i) H1
theorem intsAre_of {ns:List Int}:∀{us:YE},Vals (ns.map V.int) us->IntsAre us ns:=by
 induction ns with
 | nil=>intro us r;rw[List.map_nil] at r;cases r;exact .nil
 | cons n ns ih=>
  intro us r;rw[QbU] at r;cases r with
  | cons r1 r2=>
   obtain⟨t,e⟩:=r1;subst e;exact .cons n t (ih r2)
section
variable {X:Cx} {e:Expr} {te:TE} {lo hi:Option Expr} {tl th:TO} {pos p2:Pos}
theorem Dw:PO X none bN:=by
 intro jb s σ H Q I h;rw[evalPart_none];exact Qcm ⟨none,H,I,.none,h⟩
theorem Dc (h:PE X e te):PO X (some e) (ji te):=by
 intro jb s σ H Q I hw;rw[evalPart_some];refine thn (h jb s σ H _ I hw) λu s1 zz=>?_;obtain⟨x,H1,I1,r1,q1⟩:=zz;obtain⟨i,rfl,q⟩:=q1;obtain⟨t,rfl⟩:=r1;exact⟨some i,H1,I1,.int i t,q⟩
def SlR (X:Cx) (r:V->Option Int->Option Int->Hp->VK->Prop):Prop:=
 ∀(jb:YC) (s:Shared) (σ : St) (H:Hp) (x:V) (v vl vu:Value) (lo hi:Option Int) (sl:Addr) (Q:VK),Inv X jb σ H s->RelV x v->s.heap.IsSliceOf sl vl vu .none->IsPart vl lo->IsPart vu hi->r x lo hi H Q ->
  ∃T id,typeLookup (.type T) "__getitem__"=pure (some (.builtin id))/\s.TypeIs v T/\wpAny (model X.prog X.w) X.A (getItem v (.ref sl)) (EP X jb σ Q) X.xe s
theorem SlR.or {r r':V->Option Int->Option Int->Hp->VK->Prop} (h:SlR X r) (h':SlR X r'):SlR X (λx lo hi H Q=>r x lo hi H Q\/r' x lo hi H Q):=by
 intro jb s σ H x v vl vu lo hi sl Q I rx hs pl pu q;rcases q with q | q
 ·exact h jb s σ H x v vl vu lo hi sl Q I rx hs pl pu q
 ·exact h' jb s σ H x v vl vu lo hi sl Q I rx hs pl pu q
def tSl (r:V->Option Int->Option Int->Hp->VK->Prop) (te:TE) (tl th:TO):TE:=fun σ H Q=>te σ H λx H1=>tl σ H1 λl H2=>th σ H2 λu H3=>r x l u H3 Q
theorem CT {r:V->Option Int->Option Int->Hp->VK->Prop} (hr:SlR X r) (he:PE X e te) (hl:PO X lo tl) (hu:PO X hi th):PE X (.Subscript e (.Slice lo hi none p2) pos) (tSl r te tl th):=by
 intro jb s σ H Q I h;refine Subscript_ (thn (he jb s σ H _ I h) λv s1 zz=>?_);obtain⟨x,H1,I1,r1,q1⟩:=zz;refine wpAny_Slice (thn (hl jb s1 σ H1 _ I1 q1) λvl s2 zz=>?_);obtain⟨l,H2,I2,pl,q2⟩:=zz;refine thn (hu jb s2 σ H2 _ I2 q2) λvu s3 zz=>?_;obtain⟨u,H3,I3,pu,q3⟩:=zz;rw[evalPart_none];refine Qcm ?_;have I4:Inv X jb σ H3 { s3 with heap:=s3.heap.push { cls:=.type "slice",data:=.fields #[vl,vu,.none] } }:=I3.kept (t':=s3.toks) λb ob q=>Qaq _ q;obtain⟨T,id,hT,ht,hg⟩:=hr jb { s3 with heap:=s3.heap.push { cls:=.type "slice",data:=.fields #[vl,vu,.none] } } σ H3 x v vl vu l u s3.heap.objs.size Q I4 r1 (Heap.IsSliceOf.new ..) pl pu q3;show wpAny (model X.prog X.w) X.A (subscriptTail e (.Slice lo hi none p2) v (.ref s3.heap.objs.size)) (EP X jb σ Q) X.xe { s3 with heap:=s3.heap.push { cls:=.type "slice",data:=.fields #[vl,vu,.none] } };exact tail_any (ops:=[.ref s3.heap.objs.size,v]) ht hT hg (by with_unfolding_all rfl)
def CZ (xs:YG) (lo hi:Option Int):YG:=(xs.drop (HT.sIx xs.length 0 lo)).take (HT.sIx xs.length xs.length hi - HT.sIx xs.length 0 lo)
theorem Iu (xs:YG) (lo hi:Option Int):(CZ xs lo hi).length<=xs.length:=by
 unfold CZ;rw[Qbn,Qbq];omega
def lC (K:YD):V->Option Int->Option Int->Hp->VK->Prop:=λx lo hi H Q=>∃a xs,x=.ref a/\SqT K H a xs /\
 ¬(HT.sIx xs.length 0 lo=0/\HT.sIx xs.length xs.length hi=xs.length)/\∀p,H p=none->Q (.ref p) (upd H p (.tup (CZ xs lo hi)))
theorem eO:SlR X (lC X.K):=by
 intro jb s σ H x v vl vu lo hi sl Q I rx hs pl pu h;obtain⟨a,xs,rfl,hx,hw,q⟩:=h;cases rx;obtain⟨its,r,ht,hz⟩:=I.tuple hx;have hlen:its.toArray.size=xs.length:=by rw[Qba];exact r.length.symm
 refine⟨"tuple",_,Qab.lookup,ht.typeIs,?_⟩;refine HT.Nk ht hs pl pu (by rw[hlen];exact hw) ?_ (by rw[hlen];exact hz);rw[hlen];refine⟨.ref s.heap.objs.size,_,I.laid (t':=s.toks) (o:=.tup (CZ xs lo hi)) (λb ob q=>Qaq _ q) (Qch _) ?_,rq,q _ (I.hok.fresh (Qch _))⟩;exact⟨Qcd (Iu xs lo hi) hz,_,(r.drop (HT.sIx xs.length 0 lo)).take (HT.sIx xs.length xs.length hi - HT.sIx xs.length 0 lo),IsTup.new _ _⟩
def jB (K:YD):R2:=λx y H Q=>∃a b xs ys,x=.ref a/\y=.ref b/\SqT K H a xs/\SqT K H b ys/\xs≠[]/\xs.length+ys.length<=sizeLine /\
 (ys=[]->Q (.ref a) H)/\(ys≠[]->∀p,H p=none->Q (.ref p) (upd H p (.tup (xs++ys))))
theorem Vals.Qg {xs:YG} {us:YE} (r:Vals xs us):us=[] ↔ xs=[]:=by
 cases r with
 | nil=>simp
 | cons _ _=>simp
theorem cQ:OpR X (binaryOp .Add) (jB X.K):=by
 intro jb s σ H x y v u Q I rx ry h;obtain⟨a,b,xs,ys,rfl,rfl,ha,hb,hx,hz,q1,q2⟩:=h;cases rx;cases ry;obtain⟨its,r1,p1,_⟩:=I.tuple ha;obtain⟨its2,r2,p2,_⟩:=I.tuple hb;refine HT.dJ p1 p2 (λz=>hx (r1.Qg.mp z)) (λz=>⟨.ref a,H,I,rq,q1 (r2.Qg.mp z)⟩) (λz=>?_) (by rw[<-r1.length,<-r2.length];exact hz);refine⟨.ref s.heap.objs.size,_,I.laid (t':=s.toks) (o:=.tup (xs++ys)) (λb ob q=>Qaq _ q) (Qch _) ?_,rq,q2 (λw=>z (r2.Qg.mpr w)) _ (I.hok.fresh (Qch _))⟩;exact⟨by rw[QaM];exact hz,_,r1.append r2,IsTup.new _ _⟩
end
def ixN (n:Nat) (i:Int):Option Nat:=if 0<=i then (if i < n then some i.toNat else none) else if -(n:Int)<=i then some (i+n).toNat else none
def atI {α : Type} (xs:List α) (i:Int):Option α:=(ixN xs.length i).bind λj=>xs[j]?
theorem Vo {n:Nat} {i:Int} {j:Nat} (h:ixN n i=some j):seqIndex? i n=some j/\j < n/\-(n:Int)<=i/\i < n:=by
 unfold ixN at h;by_cases h0:0<=i
 ·rw[if_pos h0] at h;by_cases h1:i < n
  ·rw[if_pos h1] at h;have e:i.toNat=j:=QbA h;exact⟨by rw[seqIndex_of h0 h1,e],by omega,by omega,h1⟩
  ·rw[if_neg h1] at h;cases h
 ·rw[if_neg h0] at h;by_cases h1:-(n:Int)<=i
  ·rw[if_pos h1] at h;have e:(i+n).toNat=j:=QbA h;exact⟨by rw[seqIndex_neg (by omega) h1,e],by omega,h1,by omega⟩
  ·rw[if_neg h1] at h;cases h
theorem VB {α : Type} {xs:List α} {i:Int} {v:α} (h:atI xs i=some v):∃j,seqIndex? i xs.length=some j/\xs[j]?=some v/\j < xs.length/\-(xs.length:Int)<=i/\i < xs.length:=by
 unfold atI at h;cases e:ixN xs.length i with
 | none=>rw[e] at h;cases h
 | some j=>
  rw[e] at h;obtain⟨h1,h2,h3,h4⟩:=Vo e;exact⟨j,h1,h,h2,h3,h4⟩
theorem Aj {α : Type} {xs:List α} {j:Nat} {v:α} (h:xs[j]?=some v):atI xs (j:Int)=some v:=by
 have hj:j < xs.length:=(Qae.mp h).1;have e:ixN xs.length (j:Int)=some j:=by
  unfold ixN;rw[if_pos (by omega),if_pos (by omega)];simp
 unfold atI;rw[e];exact h
def dR (b:Expr):Prop:=∀o i,subscripted b false o i=operate [o,i] (getItem o i)
def IxR (X:Cx) (r:R2):Prop:=
 ∀(value slice:Expr) (jb:YC) (s:Shared) (σ : St) (H:Hp) (x y:V) (v u:Value) (Q:VK),Inv X jb σ H s->RelV x v->RelV y u->r x y H Q ->
  subscripted slice false v u=operate [v,u] (getItem v u)->wpAny (model X.prog X.w) X.A (subscriptTail value slice v u) (EP X jb σ Q) X.xe s
def MtR (X:Cx) (id:String) (r:V->YG->Hp->VK->Prop):Prop:=
 ∀(jb:YC) (s:Shared) (σ : St) (H:Hp) (x:V) (xs:YG) (v:Value) (us:YE) (Q:VK),Inv X jb σ H s->RelV x v->Vals xs us->r x xs H Q ->
  wpAny (model X.prog X.w) X.A (call (.builtin id) (v::us)) (EP X jb σ Q) X.xe s
section
variable {X:Cx} {a b:Expr} {ta tb:TE} {pos:Pos}
theorem IxR.or {r r':R2} (h:IxR X r) (h':IxR X r'):IxR X (λx y H Q=>r x y H Q\/r' x y H Q):=by
 intro value slice jb s σ H x y v u Q I rx ry q hs;rcases q with q | q
 ·exact h value slice jb s σ H x y v u Q I rx ry q hs
 ·exact h' value slice jb s σ H x y v u Q I rx ry q hs
theorem MtR.or {id:String} {r r':V->YG->Hp->VK->Prop} (h:MtR X id r) (h':MtR X id r'):MtR X id (λx xs H Q=>r x xs H Q\/r' x xs H Q):=by
 intro jb s σ H x xs v us Q I rx rs q;rcases q with q | q
 ·exact h jb s σ H x xs v us Q I rx rs q
 ·exact h' jb s σ H x xs v us Q I rx rs q
theorem Al {r:R2} (hr:IxR X r) (ha:PE X a ta) (hb:PE X b tb) (hs:dR b):PE X (.Subscript a b pos) (tOp r ta tb):=by
 intro jb s σ H Q I h;exact Subscript_ (aA ha hb I h λv u s2 x y H2 I2 rx ry q=>hr a b jb s2 σ H2 x y v u Q I2 rx ry q (hs _ _))
def fP (K:YD):R2:=λx y H Q=>∃p xs i v,x=.ref p/\y=.int i/\SqL K H p xs/\atI xs i=some v/\Q v H
def fO (K:YD):R2:=λx y H Q=>∃p xs i v,x=.ref p/\y=.int i/\SqT K H p xs/\atI xs i=some v/\Q v H
theorem Bp:IxR X (fP X.K):=by
 intro value slice jb s σ H x y v u Q I rx ry h hs;obtain⟨p,xs,i,z,rfl,rfl,hq,he,q⟩:=h;cases rx;obtain⟨t,rfl⟩:=ry;obtain⟨its,r,pl,hz⟩:=I.list hq;obtain⟨j,h1,h2,h3,h4,h5⟩:=VB he;obtain⟨w,ew,rw'⟩:=r.get h2;have hl:=r.length;have hn:=Mu;have fin:EP X jb σ Q w s:=⟨z,H,I,rw',q⟩;by_cases h0:0<=i
 ·have hj:i.toNat=j:=by
   rw[seqIndex_of h0 h5] at h1;exact QbA h1
  exact item_listR pl.isList h0 (by omega) (by rw[hj];simpa using ew) fin hs
 ·have hj:(i+(its.toArray.size:Int)).toNat=j:=by
   rw[seqIndex_neg (by omega) h4] at h1;rw[Qba,<-hl];exact QbA h1
  exact subscriptTail_builtinR (x:=w) pl.isList.typeIs slot_list_getitem.lookup
   (wpAny_getItem_list_neg (Q:=λr s'=>r=w/\EP X jb σ Q r s') pl.isList (by omega) (by rw[Qba] <;> omega) (by omega) (by rw[hj];simpa using ew) ⟨rq,fin⟩) hs
theorem Az:IxR X (fO X.K):=by
 intro value slice jb s σ H x y v u Q I rx ry h hs;obtain⟨p,xs,i,z,rfl,rfl,hq,he,q⟩:=h;cases rx;obtain⟨t,rfl⟩:=ry;obtain⟨its,r,pl,hz⟩:=I.tuple hq;obtain⟨j,h1,h2,h3,h4,h5⟩:=VB he;obtain⟨w,ew,rw'⟩:=r.get h2;have hl:=r.length;have hn:=Mu;have fin:EP X jb σ Q w s:=⟨z,H,I,rw',q⟩;exact subscriptTail_builtinR (x:=w) pl.typeIs slot_tuple_getitem.lookup
  (getItem_tuple (j:=j) (Q:=λr s'=>r=w/\EP X jb σ Q r s') pl (by omega) (by omega) (by rw[Qba,<-hl];exact h1) (by simpa using ew) ⟨rq,fin⟩) hs
theorem Wu (its:YE) (n j:Nat) (u:Value):Obj.mapSeq (·.setIfInBounds j u) { cls:=.type "list",data:=.seq its.toArray n }={ cls:=.type "list",data:=.seq (its.set j u).toArray n }:=by
 simp[Obj.mapSeq]
theorem Inv.lst {jb:YC} {σ : St} {H:Hp} {s:Shared} {p:Addr} {xs:YG} (I:Inv X jb σ H s) (h:H p=some (.lst xs)) :
  ∃(its:YE) (n:Nat),Vals xs its/\s.heap.get? p=some { cls:=.type "list",data:=.seq its.toArray n }/\xs.length<=sizeLine:=by
 obtain⟨z,its,n,r,e⟩:=I.hok p _ h;exact⟨its,n,r,e,z⟩
theorem Inv.gB {jb:YC} {σ : St} {H:Hp} {s:Shared} {p:Addr} {xs ys:YG} {its its':YE} {n n':Nat} {f:Obj->Obj} (I:Inv X jb σ H s) (h:H p=some (.lst xs))
  (ho:s.heap.get? p=some { cls:=.type "list",data:=.seq its.toArray n }) (hf:f { cls:=.type "list",data:=.seq its.toArray n }={ cls:=.type "list",data:=.seq its'.toArray n' }) (r:Vals ys its') (hz:ys.length<=sizeLine) (t:Nat) :
  Inv X jb σ (upd H p (.lst ys)) { s with heap:=s.heap.update p f,toks:=t }:=by
 have e:(s.heap.update p f).get? p=some { cls:=.type "list",data:=.seq its'.toArray n' }:=by
  rw[Qaw f ho (by rw[hf] <;> rfl),hf]
 refine I.write (x:=p) (e:=p) (by rw[h];trivial) (.inl rfl) (λb u hb q=>(Heap.get?_update_other _ _ (Ne.symm hb)).trans q) ⟨_,e⟩ ?_;exact⟨hz,its',n',r,e⟩
def jA:V->V->V->Hp->(Hp->Prop)->Prop:=λo i v H Q=>∃p xs k j,o=.ref p/\i=.int k/\H p=some (.lst xs)/\ixN xs.length k=some j/\Q (upd H p (.lst (xs.set j v)))
theorem set_list:iU X jA:=by
 intro jb s σ H o i v ov iv u Q I ro ri rv h;obtain⟨p,xs,k,j,rfl,rfl,hp,hj,q⟩:=h;cases ro;obtain⟨t,rfl⟩:=ri;obtain⟨its,n,r,ho,hz⟩:=I.lst hp;obtain⟨h1,h2,h3,h4⟩:=Vo hj;have hl:=r.length;have hn:=Mu;have I':Inv X jb σ (upd H p (.lst (xs.set j v))) { s with heap:=s.heap.update p (Obj.mapSeq (·.setIfInBounds j u)) }:=
  I.gB hp ho (Wu its n j u) (r.set rv j) (by rw[List.length_set];exact hz) s.toks
 by_cases h0:0<=k
 ·have hk:k.toNat=j:=by
   rw[seqIndex_of h0 h4] at h1;exact QbA h1
  exact PySem.W.ki_setAt ho h0 (by omega) (by rw[Qba,<-hl];exact h4) (by rw[hk];exact⟨_,I',q⟩)
 ·have hk:(k+(its.toArray.size:Int)).toNat=j:=by
   rw[seqIndex_neg (by omega) h3] at h1;rw[Qba,<-hl];exact QbA h1
  exact PySem.W.ki_setBack ho (by omega) (by rw[Qba,<-hl];exact h3) (by omega) (by rw[hk];exact⟨_,I',q⟩)
theorem Sv (lo hi:Option Int) (n:Nat):(sliceBounds lo hi none n).1=((HT.sIx n 0 lo:Nat):Int)/\(sliceBounds lo hi none n).2.1=((HT.sIx n n hi:Nat):Int)/\(sliceBounds lo hi none n).2.2=1:=by
 refine⟨?_,?_,rq⟩
 ·cases lo with
  | none=>simp[sliceBounds,HT.sIx]
  | some i=>
   simp only[sliceBounds,HT.sIx,Option.getD_none,show (1:Int) > 0 by decide,if_true];by_cases h:i < 0
   ·simp only[h,if_true] <;> omega
   ·simp only[h,Qcr] <;> omega
 ·cases hi with
  | none=>simp[sliceBounds,HT.sIx]
  | some i=>
   simp only[sliceBounds,HT.sIx,Option.getD_none,show (1:Int) > 0 by decide,if_true];by_cases h:i < 0
   ·simp only[h,if_true] <;> omega
   ·simp only[h,Qcr] <;> omega
theorem Rg (its:YE) (lo hi:Option Int):slicePick its.toArray lo hi none=((its.drop (HT.sIx its.length 0 lo)).take (HT.sIx its.length its.length hi - HT.sIx its.length 0 lo)).toArray:=by
 obtain⟨h1,h2,h3⟩:=Sv lo hi its.toArray.size;unfold slicePick;rw[h1,h2,h3];simp only[sliceRange_one,pick_run,Qba] <;> rfl
def lD (K:YD):V->Option Int->Option Int->Hp->VK->Prop:=λx lo hi H Q=>∃a xs,x=.ref a/\SqL K H a xs/\∀p,H p=none->Q (.ref p) (upd H p (.lst (CZ xs lo hi)))
theorem Kz:SlR X (lD X.K):=by
 intro jb s σ H x v vl vu lo hi sl Q I rx hs pl pu h;obtain⟨a,xs,rfl,hx,q⟩:=h;cases rx;obtain⟨its,r,ht,hz⟩:=I.list hx;have hlen:=r.length;refine⟨"list",_,slot_list_getitem.lookup,ht.isList.typeIs,?_⟩;refine wpAny_getItem_list_slice ht.isList hs pl pu .none (by simp) ?_ (by rw[Qba] <;> omega);rw[Rg,<-hlen];refine⟨.ref s.heap.objs.size,_,I.laid (t':=s.toks) (o:=.lst (CZ xs lo hi)) (λb ob q=>Qaq _ q) (Qch _) ?_,rq,q _ (I.hok.fresh (Qch _))⟩;exact⟨Qcd (Iu xs lo hi) hz,_,0,(r.drop (HT.sIx xs.length 0 lo)).take (HT.sIx xs.length xs.length hi - HT.sIx xs.length 0 lo),QaE _ rfl⟩
def Ir:V->Bool
 | .non=>true
 | .bl _=>true
 | .int _=>true
 | .str _=>true
 | _=>false
def eqV:V->V->Bool
 | .non,.non=>true
 | .bl a,.bl b=>a == b
 | .bl a,.int b=>(if a then 1 else 0) == b
 | .int a,.bl b=>a == (if b then 1 else 0)
 | .int a,.int b=>a == b
 | .str a,.str b=>a == b
 | _,_=>false
theorem iC {A:Around} {s:Shared} {y x:V} {u v:Value} (ry:RelV y u) (rx:RelV x v) (fy:Ir y=true) (fx:Ir x=true):SeqAt.EqAt A s u v (eqV y x):=by
 cases y with
 | non=>
  cases ry;cases x with
  | non=>cases rx;exact SeqAt.EqAt.same _
  | bl b=>cases rx;exact SeqAt.EqAt.none_bool b
  | int b=>obtain⟨t,rfl⟩:=rx;exact SeqAt.EqAt.none_int b t
  | str b=>obtain⟨t,rfl⟩:=rx;exact SeqAt.EqAt.none_str b t
  | _=>exact absurd (show false=true from fx) QaO
 | bl a=>
  cases ry;cases x with
  | non=>cases rx;exact SeqAt.EqAt.bool_none a
  | bl b=>cases rx;exact SeqAt.EqAt.bool_bool a b
  | int b=>obtain⟨t,rfl⟩:=rx;exact SeqAt.EqAt.bool_int a b t
  | str b=>obtain⟨t,rfl⟩:=rx;exact SeqAt.EqAt.bool_str a b t
  | _=>exact absurd (show false=true from fx) QaO
 | int a=>
  obtain⟨t',rfl⟩:=ry;cases x with
  | non=>cases rx;exact SeqAt.EqAt.int_none a t'
  | bl b=>cases rx;exact SeqAt.EqAt.int_bool a t' b
  | int b=>obtain⟨t,rfl⟩:=rx;exact SeqAt.EqAt.int_int a t' b t
  | str b=>obtain⟨t,rfl⟩:=rx;exact SeqAt.EqAt.int_str a t' b t
  | _=>exact absurd (show false=true from fx) QaO
 | str a=>
  obtain⟨t',rfl⟩:=ry;cases x with
  | non=>cases rx;exact SeqAt.EqAt.str_none a t'
  | bl b=>cases rx;exact SeqAt.EqAt.str_bool a t' b
  | int b=>obtain⟨t,rfl⟩:=rx;exact SeqAt.EqAt.str_int a t' b t
  | str b=>obtain⟨t,rfl⟩:=rx;exact SeqAt.EqAt.str_str a t' b t
  | _=>exact absurd (show false=true from fx) QaO
 | _=>exact absurd (show false=true from fy) QaO
def eqU (x:V) (u:Value):Bool:=match u with
 | .none=>eqV .non x
 | .bool b=>eqV (.bl b) x
 | .int i _=>eqV (.int i) x
 | .str z _=>eqV (.str z) x
 | _=>false
theorem YT {x y:V} {u:Value} (r:RelV y u) (f:Ir y=true):eqU x u=eqV y x:=by
 cases y with
 | non=>cases r;rfl
 | bl b=>cases r;rfl
 | int i=>obtain⟨t,rfl⟩:=r;rfl
 | str z=>obtain⟨t,rfl⟩:=r;rfl
 | _=>exact absurd (show false=true from f) QaO
theorem QG {x:V}:∀{xs:YG} {us:YE},Vals xs us->xs.all Ir=true->us.any (eqU x)=xs.any λy=>eqV y x
 | _,_,.nil,_=>rfl
 | y::xs,u::us,.cons r t,f=>by
  rw[List.all_cons,Qbm] at f;rw[QbY,QbY,YT r f.1,QG t f.2]
theorem Oc {A:Around} {s:Shared} {x:V} {v:Value} (rx:RelV x v) (fx:Ir x=true):∀{xs:YG} {us:YE},Vals xs us->xs.all Ir=true->∀u∈us,SeqAt.EqAt A s u v (eqU x u)
 | _,_,.nil,_=>λu hu=>by cases hu
 | y::xs,u::us,.cons r t,f=>λu' hu=>by
  rw[List.all_cons,Qbm] at f;rcases QbS.mp hu with rfl | hu
  ·rw[YT r f.1];exact iC r rx f.1 fx
  ·exact Oc rx fx t f.2 u' hu
def inV (x:V) (xs:YG):Bool:=xs.any λy=>eqV y x
def rIn (K:YD) (neg:Bool):R2:=λx y H Q=>∃p xs,y=.ref p/\(SqL K H p xs\/SqT K H p xs)/\Ir x=true/\xs.all Ir=true/\Q (.bl (if neg then !inV x xs else inV x xs)) H
theorem GP:OpR X (compareOp .In) (rIn X.K false):=by
 intro jb s σ H x y v u Q I rx ry h;obtain⟨p,xs,rfl,hq,fx,fs,q⟩:=h;cases ry;rcases hq with hq | hq
 ·obtain⟨its,r,pl,hz⟩:=I.list hq;refine SeqAt.in_listAt (eqU x) pl.isList (λw hw=>Oc rx fx r fs w (by simpa using hw)) ⟨.bl _,H,I,rq,?_⟩;rw[show its.toArray.any (eqU x)=its.any (eqU x) by simp,QG r fs];exact q
 ·obtain⟨its,r,pl,hz⟩:=I.tuple hq;refine SeqAt.in_tupleAt (eqU x) pl (λw hw=>Oc rx fx r fs w (by simpa using hw)) ⟨.bl _,H,I,rq,?_⟩;rw[show its.toArray.any (eqU x)=its.any (eqU x) by simp,QG r fs];exact q
theorem Bl:Du X (.builtin "len") (λxs H Q=>∃p ys,xs=[.ref p]/\(SqL X.K H p ys\/SqT X.K H p ys)/\Q (.int ys.length) H):=by
 intro jb s σ H xs us Q I r h;obtain⟨p,ys,rfl,hq,q⟩:=h;obtain⟨u,rfl,rx⟩:=vals1 r;cases rx;have hn:=Mu;rcases hq with hq | hq
 ·obtain⟨its,r',pl,hz⟩:=I.list hq;have hlen:=r'.length;exact Calls.call_len_list pl.isList (by simp only[Qba] <;> omega) ⟨.int ys.length,H,I.tok _,⟨s.toks+1,by rw[Qba,hlen]⟩,q⟩
 ·obtain⟨its,r',pl,hz⟩:=I.tuple hq;have hlen:=r'.length;exact len_tuple pl (by simp only[Qba] <;> omega) ⟨.int ys.length,H,I.tok _,⟨s.toks+1,by rw[Qba,hlen]⟩,q⟩
theorem Du.or {f:Value} {r r':YG->Hp->VK->Prop} (h:Du X f r) (h':Du X f r'):Du X f (λxs H Q=>r xs H Q\/r' xs H Q):=by
 intro jb s σ H xs us Q I rs q;rcases q with q | q
 ·exact h jb s σ H xs us Q I rs q
 ·exact h' jb s σ H xs us Q I rs q
theorem MN:Du X (.type "list") (λxs H Q=>∃p ys,xs=[.ref p]/\(SqL X.K H p ys\/SqT X.K H p ys)/\∀l,H l=none->Q (.ref l) (upd H l (.lst ys))):=by
 intro jb s σ H xs us Q I r h;obtain⟨p,ys,rfl,hq,q⟩:=h;obtain⟨u,rfl,rx⟩:=vals1 r;cases rx;have fin:∀(its:YE),Vals ys its->ys.length<=sizeLine->∀(h':Heap) (c':Nat),(∀b o',s.heap.get? b=some o'->h'.get? b=some o') ->
   h'.get? s.heap.objs.size=some { cls:=.type "list",dict:=none,data:=.seq its.toArray c',slots:=#[] }->EP X jb σ Q (.ref s.heap.objs.size) { s with heap:=h' }:=λits r' hz h' c' kp e=>
  ⟨.ref s.heap.objs.size,_,I.laid (t':=s.toks) kp (Qch _) (show Cm X.prog X.w _ h' _ (.lst ys) from⟨hz,its,c',r',e⟩),rq,q _ (I.hok.fresh (Qch _))⟩
 rcases hq with hq | hq
 ·obtain⟨its,r',pl,hz⟩:=I.list hq;have hlen:=r'.length;obtain⟨o,ho,hc,n,hd⟩:=pl.isList;exact call_list_seq p (.inl rfl) ho hc hd (λh' c' kp e=>fin its r' hz h' c' kp e) (by simp only[Qba] <;> omega)
 ·obtain⟨its,r',pl,hz⟩:=I.tuple hq;have hlen:=r'.length;obtain⟨o,ho,hc,n,hd⟩:=pl;exact call_list_seq p (.inr rfl) ho hc hd (λh' c' kp e=>fin its r' hz h' c' kp e) (by simp only[Qba] <;> omega)
theorem CP:Du X (.type "tuple") (λxs H Q=>∃p ys,xs=[.ref p]/\((SqL X.K H p ys/\∀l,H l=none->Q (.ref l) (upd H l (.tup ys)))\/(SqT X.K H p ys/\Q (.ref p) H))):=by
 intro jb s σ H xs us Q I r h;obtain⟨p,ys,rfl,h⟩:=h;obtain⟨u,rfl,rx⟩:=vals1 r;cases rx;rcases h with⟨hq,q⟩|⟨hq,q⟩
 ·obtain⟨its,r',pl,hz⟩:=I.list hq;have hlen:=r'.length;refine call_tuple_list pl.isList (λh' kp=>?_) (by simp only[Qba] <;> omega);have I1:Inv X jb σ H { s with heap:=h' }:=I.kept (t':=s.toks) kp;have I2:Inv X jb σ (upd H h'.objs.size (.tup ys)) { s with heap:=h'.push { cls:=.type "tuple",data:=.seq its.toArray } }:=
   I1.laid (t':=s.toks) (λb o e=>Qaq _ e) (Qch _) (show Cm X.prog X.w _ _ _ (.tup ys) from⟨hz,its,r',IsTup.new _ _⟩)
  exact⟨.ref h'.objs.size,_,I2,rq,q _ (I1.hok.fresh (Qch _))⟩
 ·obtain⟨its,r',pl,hz⟩:=I.tuple hq;exact call_tuple_same pl ⟨.ref p,H,I,rq,q⟩
def tyV (K:YD) (T:String) (x:V) (H:Hp):Prop:=match x with
 | .str _=>T="str"
 | .int _=>T="int"
 | .ref p=>(T="list"/\∃xs,SqL K H p xs)\/(T="tuple"/\∃o,K.lookup p=some o/\o.cls=.type "tuple"/\o.dict=none) \/
   (T="dict"/\((∃kvs,H p=some (.dK kvs))\/∃kvs,H p=some (.dT kvs)))\/(T="set"/\∃S n,H p=some (.set S n))
 | _=>False
theorem Xo {jb:YC} {σ : St} {H:Hp} {s:Shared} {T:String} {x:V} {v:Value} (I:Inv X jb σ H s) (r:RelV x v) (ty:tyV X.K T x H) :
  s.TypeIs v T/\∀a,v=.ref a->∃ob,s.heap.get? a=some ob/\ob.dict=none:=by
 cases x with
 | str z=>
  obtain⟨t,rfl⟩:=r;cases (show T="str" from ty)
  exact⟨typeIs_str s z t,λ_ e=>nomatch e⟩
 | int i=>
  obtain⟨t,rfl⟩:=r;cases (show T="int" from ty)
  exact⟨typeIs_int s i t,λ_ e=>nomatch e⟩
 | ref p=>
  cases r;rcases ty with⟨rfl,xs,hq⟩|⟨rfl,o,hk,hc,hd⟩|⟨rfl,hk⟩|⟨rfl,S,n,hk⟩
  ·obtain⟨its,_,pl,_⟩:=I.list hq;refine⟨pl.isList.typeIs,λa e=>?_⟩;cases e;obtain⟨o,n,e,c,hd,_⟩:=pl;exact⟨o,e,hd⟩
  ·refine⟨⟨o,I.kIn p o hk,hc⟩,λa e=>?_⟩;cases e;exact⟨o,I.kIn _ o hk,hd⟩
  ·have z:∃o,s.heap.get? p=some o/\o.ExactDict:=by
    rcases hk with⟨kvs,hk⟩|⟨kvs,hk⟩
    ·obtain⟨_,_,_,_,o,_,_,e,ex,_⟩:=I.hok p _ hk;exact⟨o,e,ex⟩
    ·obtain⟨_,_,_,_,o,_,_,e,ex,_⟩:=I.hok p _ hk;exact⟨o,e,ex⟩
   obtain⟨o,e,ex⟩:=z;refine⟨⟨o,e,ex.1⟩,λa e2=>?_⟩;cases e2;exact⟨o,e,ex.2.1⟩
  ·obtain⟨o,_,_,_,e,ex,_⟩:=I.hok p _ hk;refine⟨⟨o,e,ex.1⟩,λa e2=>?_⟩;cases e2;exact⟨o,e,ex.2.1⟩
 | _=>exact False.elim ty
def lA (K:YD) (T:String) (r:V->YG->Hp->VK->Prop) (to:TE):TE:=fun σ H Q=>to σ H λx H1=>tyV K T x H1/\r x [] H1 Q
def tBM (K:YD) (T:String) (r:V->YG->Hp->VK->Prop) (to:TE) (t:TA):TE:=fun σ H Q=>to σ H λx H1=>tyV K T x H1/\t σ H1 λxs H2=>r x xs H2 Q
variable {o e:Expr} {es:YJ} {to:TE} {t:TA} {name:Str} {apos cpos:Pos} {T id:String} {r:V->YG->Hp->VK->Prop}
theorem fV (pa:PlainAttrs T) (slot:Slot T name id) (hty:typeOf (.builtin id)=pure (.type "method_descriptor")) (hm:MtR X id r) (ho:PE X o to)
  (hbase:attributeBase o name X.env (eval o X.env)=eval o X.env:=by rfl) (hline:(apos.endLine == cpos.line)=true:=by rfl):PE X (.Call (.Attribute o name apos) [] [] cpos) (lA X.K T r to):=by
 intro jb s σ H Q I h;refine wpAny_Call_method0_late hbase hline (thn (ho jb s σ H _ I h) λv s1 zz=>?_);obtain⟨x,H1,I1,r1,ty,q1⟩:=zz;obtain⟨h1,h2⟩:=Xo I1 r1 ty;exact⟨T,id,pa,slot,hty,h1,h2,Calls.callWith_builtin rfl (PySem.evalArgs_none (hm jb s1 σ H1 x [] v [] Q I1 r1 .nil q1))⟩
theorem Hh (pa:PlainAttrs T) (slot:Slot T name id) (hty:typeOf (.builtin id)=pure (.type "method_descriptor")) (hm:MtR X id r) (ho:PE X o to) (ha:PA X (e::es) t)
  (hbase:attributeBase o name X.env (eval o X.env)=eval o X.env:=by rfl)
  (hfew:((backTo cpos (starEach (e::es) X.env)).all (λx=>!x.1)&&(backToKw cpos (keywordEach [] X.env)).all (λx=>x.1.isSome)
  &&decide ((e::es).length+([]:List Keyword).length+(if ([]:List Keyword).isEmpty then 0 else 1) < 30))=true:=by rfl)
  (hline:(apos.endLine == cpos.line)=true:=by rfl) (hs:starEach (e::es) X.env=(false,eval e X.env)::starEach es X.env:=by rfl) (hplain:(backTo cpos (starEach es X.env)).any (·.1)=false:=by rfl) :
  PE X (.Call (.Attribute o name apos) (e::es) [] cpos) (tBM X.K T r to t):=by
 intro jb s σ H Q I h;refine wpAny_Call_method_late hbase hfew hline rfl (thn (ho jb s σ H _ I h) λv s1 zz=>?_);obtain⟨x,H1,I1,r1,ty,q1⟩:=zz;obtain⟨h1,h2⟩:=Xo I1 r1 ty;refine⟨T,id,pa,slot,hty,h1,h2,?_⟩;have hA:=ha cpos jb s1 σ H1 _ I1 q1;rw[hs] at hA ⊢;refine Calls.callWith_builtin (by show (false || (backTo cpos (starEach es X.env)).any (·.1))=false;rw[hplain] <;> rfl) (Calls.evalArgs_plain ?_);refine thn hA λus s2 zz=>?_;obtain⟨vs,H2,I2,r2,q2⟩:=zz;exact hm jb s2 σ H2 x vs v us Q I2 r1 r2 q2
end
def MtM (X:Cx) (id:String) (r:V->YG->Hp->VK->Prop):Prop:=
 ∀(jb:YC) (s:Shared) (σ : St) (H:Hp) (x:V) (xs:YG) (v:Value) (us:YE) (Q:VK),Inv X jb σ H s->RelV x v->Vals xs us->r x xs H Q ->
  wpAny (model X.prog X.w) X.A (call (.builtin id) (v::us)) (EP X jb σ Q) X.xe s
theorem Vals.one:∀{x:V} {us:YE},Vals [x] us->∃u,us=[u]/\RelV x u
 | _,_,.cons r .nil=>⟨_,rfl,r⟩
theorem Vals.zero:∀{us:YE},Vals [] us->us=[]
 | _,.nil=>rfl
theorem Vals.eraseIdx:∀{xs:YG} {us:YE} (i:Nat),Vals xs us->Vals (xs.eraseIdx i) (us.eraseIdx i)
 | _,_,_,.nil=>.nil
 | _,_,0,.cons _ t=>t
 | _,_,i+1,.cons r t=>.cons r (Vals.eraseIdx i t)
theorem Vals.reverse {xs:YG} {us:YE} (h:Vals xs us):Vals xs.reverse us.reverse:=by
 induction h with
 | nil=>exact .nil
 | cons r t ih=>rw[List.reverse_cons,List.reverse_cons];exact Vals.append ih (.cons r .nil)
theorem Vals.rep {xs:YG} {us:YE} (h:Vals xs us):∀k:Nat,Vals (List.replicate k xs).flatten (List.replicate k us).flatten
 | 0=>.nil
 | k+1=>by
  rw[List.replicate_succ,List.replicate_succ,List.flatten_cons,List.flatten_cons];exact Vals.append h (Vals.rep h k)
section
variable {X:Cx} {jb:YC} {σ : St} {H:Hp} {s:Shared} {l b:Addr} {xs ys zs:YG}
theorem Inv.gC {its its':YE} {n:Nat} {f:Array Value->Array Value} {t':Nat} (I:Inv X jb σ H s) (hH:H l=some (.lst xs))
  (e:s.heap.get? l=some { cls:=.type "list",data:=.seq its.toArray n }) (hf:f its.toArray=its'.toArray) (hv:Vals ys its') (hz:ys.length<=sizeLine) :
  Inv X jb σ (upd H l (.lst ys)) { s with heap:=s.heap.update l (Obj.mapSeq f),toks:=t' }:=by
 have q:=PySem.IsL.update e f;rw[hf] at q;refine I.write (x:=l) (e:=l) (by rw[hH];exact trivial) (.inl rfl) (λb' u hb hu=>(Heap.get?_update_other s.heap (Obj.mapSeq f) (Ne.symm hb)).trans hu) ⟨_,q⟩ ?_;exact⟨hz,its',_,hv,q⟩
theorem Inv.lN {its:YE} {t':Nat} (I:Inv X jb σ H s) (hv:Vals ys its) (hz:ys.length<=sizeLine) :
  Inv X jb σ (upd H s.heap.objs.size (.lst ys)) { s with heap:=s.heap.push { cls:=.type "list",data:=.seq its.toArray },toks:=t' }:=
 I.laid (λ_ _ q=>Qaq _ q) (Qch _) ⟨hz,its,0,hv,QaE _ rfl⟩
theorem Inv.fresh (I:Inv X jb σ H s):H s.heap.objs.size=none:=I.hok.fresh (Qch _)
theorem Inv.TV (I:Inv X jb σ H s) (hH:H l=some (.lst xs)):xs.length<=sizeLine/\∃(its:YE) (n:Nat),Vals xs its/\xs.length=its.length/\s.heap.get? l=some { cls:=.type "list",data:=.seq its.toArray n }:=by
 obtain⟨z,its,n,r,e⟩:=I.hok l _ hH;exact⟨z,its,n,r,r.length,e⟩
theorem Zz {n:Nat} (h:n<=sizeLine):Builtin.List.listTooLong n=false:=by
 unfold Builtin.List.listTooLong;exact Qby (by omega)
end
section
variable {X:Cx}
def cg:V->YG->Hp->VK->Prop:=λx vs H Q=>∃l xs y,x=.ref l/\vs=[y]/\H l=some (.lst xs)/\xs.length < sizeLine/\Q .non (upd H l (.lst (xs++[y])))
theorem Dd:MtM X "list.append" cg:=by
 intro jb s σ H x vs v us Q I rx rv h;obtain⟨l,xs,y,rfl,rfl,hH,hz,q⟩:=h;cases rx;obtain⟨u,rfl,ru⟩:=rv.one;obtain⟨z,its,n,r,hl,e⟩:=I.TV hH;refine call_meets F.slot_list_append ⟨_,e,rq⟩ F.entry_list_append (F.args_list_append_2 _ _) (PySem.list_append l its.toArray n u (by rw[Qba];omega)) ⟨e,?_⟩;refine⟨.non,_,I.gC (its':=its++[u]) hH e (by simp) (r.append (.cons ru .nil)) ?_,rq,q⟩;rw[QaM,Qax];omega
def bZ:V->YG->Hp->VK->Prop:=λx vs H Q=>∃l b xs zs,x=.ref l/\vs=[.ref b]/\H l=some (.lst xs)/\H b=some (.lst zs)/\xs.length+zs.length<=sizeLine/\Q .non (upd H l (.lst (xs++zs)))
theorem j7:MtM X "list.extend" bZ:=by
 intro jb s σ H x vs v us Q I rx rv h;obtain⟨l,b,xs,zs,rfl,rfl,hH,hB,hz,q⟩:=h;cases rx;obtain⟨u,rfl,ru⟩:=rv.one;cases ru;obtain⟨z,its,n,r,hl,e⟩:=I.TV hH;obtain⟨z2,its2,n2,r2,hl2,e2⟩:=I.TV hB;have hsz:its.toArray.size+its2.toArray.size<=sizeLine:=by rw[Qba,Qba];omega
 have jO:¬(!its.toArray.isEmpty&&Builtin.List.listTooLong (its.toArray.size+its2.toArray.size))=true:=by
  rw[Zz hsz,Bool.and_false];exact QaO
 refine call_meets F.slot_list_extend ⟨_,e,rq⟩ F.entry_list_extend (F.args_list_extend_2 _ _)
  (AutoSeq1.list_extend_list_list_0 l its.toArray n b its2.toArray n2 jO (by rw[Qba];omega) (by omega)) ⟨e,e2,?_⟩
 refine⟨.non,_,I.gC (its':=its++its2) hH e (by simp) (r.append r2) ?_,rq,q⟩;rw[QaM];omega
def lE:R2:=λx y H Q=>∃l b xs zs,x=.ref l/\y=.ref b/\H l=some (.lst xs)/\H b=some (.lst zs)/\xs.length+zs.length<=sizeLine/\∀p,H p=none->Q (.ref p) (upd H p (.lst (xs++zs)))
theorem fW:OpR X (binaryOp .Add) lE:=by
 intro jb s σ H x y v u Q I rx ry h;obtain⟨l,b,xs,zs,rfl,rfl,hH,hB,hz,q⟩:=h;cases rx;cases ry;obtain⟨z,its,n,r,hl,e⟩:=I.TV hH;obtain⟨z2,its2,n2,r2,hl2,e2⟩:=I.TV hB;refine PySem.P.add_list e e2 ?_ (by rw[Qba,Qba];omega);have ea:its.toArray++its2.toArray=(its++its2).toArray:=by simp
 rw[ea];exact⟨.ref _,_,I.lN (t':=s.toks) (r.append r2) (by rw[QaM];omega),rq,q _ I.fresh⟩
end
section
variable {prog:Program} {w:World} {A:Around} {E:YA} {s:Shared}
set_option maxRecDepth 100000 in
end
section
variable {X:Cx}
end
end L2
namespace Att
open PySem PySem.W PySem.Calls PyProof.Rows
theorem Pb {P:Params} {h:Heap}:∀(ns:List Int) (vs:YE),WellAll P h vs (ns.map WData.int)->IntsAre vs ns:=by
 intro ns
 induction ns with
 | nil=>
  intro vs w;rw[List.map_nil] at w;cases w;exact .nil
 | cons n ns ih=>
  intro vs w;rw[QbU] at w;cases w with
  | cons a b=>
   cases a;exact .cons _ _ (ih _ b)
theorem XQ {l:OpenLaw} {n:Nat} (hn:l.most=some n) {P:Params} {h:Heap} {args:List WData} {vals:YE}
  (hpre:l.row.toRowW.claim.pre args=true) (hwl:WellAll P h vals args) :
  ∃a vs ns,vals=[Value.ref a]/\args=[WData.list (ns.map WData.int)]/\h.get? a=some { cls:=.type "list",data:=.seq vs.toArray }/\IntsAre vs ns/\ns.length<=n:=by
 have hsh:WShape.hasAll [] args [.list .int]=true:=(pre_splitW hpre).1;have hc:l.pre.holds [] { args:=args }=true:=(pre_splitW hpre).2;obtain⟨d,r,rfl,h1,h2⟩:=hasAllW_cons hsh;obtain rfl:=hasAllW_nil h2;obtain⟨xs,rfl,h3⟩:=hasW_list h1;obtain⟨ns,rfl⟩:=items_int h3;have hlen:ns.length<=n:=by
  unfold OpenLaw.pre at hc;have h4:(WTm.not (.lt (.lit (.int (n:Int))) (.len (.arg 0)))).holds [] { args:=[.list (ns.map .int)] }=true:=by
   have h4:=(holds_andW hc).1;rw[hn] at h4;exact h4
  have h5:=condW_of h4 (w_not (w_lt w_lit (w_len_list (w_arg rfl))));rw[Qbw] at h5;refine Nat.le_of_not_lt λq=>?_;have q':(n:Int) < ((ns.length:Nat):Int):=by omega
  first
   | (rw[QbM q'] at h5;exact absurd h5 (by decide))
   | (simp at h5;omega)
 cases hwl with
 | cons w1 w2=>
  cases w2;cases w1 with
  | list ho hall=>exact⟨_,_,ns,rfl,rfl,ho,Pb ns _ hall,hlen⟩
theorem X8 (l:OpenLaw) (args:List WData):l.row.toRowW.claim.post args (.bool true) args=true:=
 postW_of (r:=l.row.toRowW) (X:=(true == true))
  (show WShape.has [] (.bool true) .bool=true by first | rfl | decide | simp[WShape.has,WShape.arms,WShape.armsAll])
  (show (WTm.eq .res (.lit (.bool true))).value [] { args:=args,res:=some (.bool true),after:=args }=some (.bool (true == true)) from w_eq_bool (w_res rfl) w_lit) rfl
theorem Va {l:OpenLaw} {n:Nat} {q:Program} {loose:YF} {XP:(YB)->Heap->Prop} {YP:World->Heap->Prop} {d:DefRec}
  (hn:l.most=some n) (hdf:d.params.defaults=[])
  (call:∀(w:World) (s₀ s₁ : Shared) (mg mb:YB) (fa:Addr) (o:Obj) (pm cd doc:Value) (a:Addr) (vs:YE) (ns:List Int),
   Ground q loose [] XP w s₀ mg mb s₁.heap->YP w s₁.heap ->
   s₁.heap.get? fa=some o->o.data=.func (docDef d.name d.params d.body d.scope pm cd doc)->s₁.heap.CodeRec cd d.name->mg d.name=some (.ref fa) ->
   s₁.heap.get? a=some { cls:=.type "list",data:=.seq vs.toArray }->IntsAre vs ns->ns.length<=n->s₁.gens=#[] ->
   codeAny (model l.prog w) callerA (.call (.ref fa) ⟨[.ref a],[]⟩) (λr s'=>r=.ok (.ret (.bool true))/\OldK s₁.heap s'.heap/\s'.os=s₁.os/\AllBare s'.gens) s₁) :
  WalkO q loose XP YP l.row.toRowW d [] (λf vs=>PySem.call f vs):=by
 intro w s₀ s₁ mg mb G Y fa o pm cd doc dV kV ho hd hcd hD hmg hg args vals as hpre hlay hrd hwl hlo;obtain rfl:dV=.none:=Dflts.none hD hdf;obtain rfl:kV=.none:=Dflts.noKw hD;obtain⟨a,vs,ns,rfl,rfl,hobj,hints,hlen⟩:=XQ hn hpre hwl;refine enter_call (codeAny_mono (call w s₀ s₁ mg mb fa o pm cd doc a vs ns G Y ho (fd_plain hd) hcd hmg hobj hints hlen hg) λr s' hq=>?_);obtain⟨rfl,h2,h3,h4⟩:=hq;exact⟨.inl ⟨.bool true,.bool true,[],rq,λ_=>rfl,.bool true,X8 l _,λ_=>⟨List.Pairwise.nil,λ_ hm=>(nomatch hm)⟩⟩,h2,h3,h4⟩
section
variable {prog:Program} {w:World} {A:Around} {E:YA} {s:Shared} {K:Frag}
end
end Att
namespace L2
open PySem PySem.Spec PyProof.Rows
theorem LR:∀{vs:YE} {ns:List Int},IntsAre vs ns->Vals (ns.map V.int) vs
 | _,_,.nil=>.nil
 | _,_,.cons n t h=>.cons ⟨t,rfl⟩ (LR h)
def Only (H:Hp):Prop:=∀b,H b=none\/∃o xs,H b=some (.frz o (.lst xs))
theorem ZQ {P:Program} {w:World} {K:YD} {mg mb:YB} {CX:CXT} {k:Nat} {fa a:Addr} {fd:FuncData} {x:Str} {sp:Sp} {s₁ : Shared} {vs:YE} {ns:List Int}
  (KX:K.In s₁.heap) (hns:s₁.heap.Ns mainGlobals mg) (hb:s₁.heap.Ns builtinsNs mb) (hbb:∀x:Str,x≠"__name__"->mb x=bootBuiltins x) (hlim:s₁.heap.NoLimit) (hg:s₁.gens=#[])
  (ha:s₁.heap.get? a=some { cls:=.type "list",data:=.seq vs.toArray }) (hi:IntsAre vs ns) (hl:ns.length<=sizeLine) (hr:Cy k callerA)
  (F:∀base:Heap,K.In base->base.Ns mainGlobals mg->Ec P w K mg base CX k fa fd [x] sp) (hbind:∀(s:Shared) (u:Value),BindsTo s fd ⟨[u],[]⟩ [(x,u)])
  (hsp:∀H:Hp,Only H->SqL K H a (ns.map V.int)->sp [.ref a] H (λv _=>v=.bl true) λ_ _ _=>False)
  (hCX:∀H e s',CX [] H s₁ (λ_ _ _=>False) e s'->False) :
  codeAny (model P w) callerA (.call (.ref fa) ⟨[.ref a],[]⟩) (λr s'=>r=.ok (.ret (.bool true))/\OldK s₁.heap s'.heap/\s'.os=s₁.os/\AllBare s'.gens) s₁:=by
 have rv:=LR hi;have lenV:=hi.length;have core:∀H:Hp,Only H->SqL K H a (ns.map V.int)->HOk P w H s₁.heap->(∀b,H b≠none->b=a)->(H a≠none->K.lookup a=none) ->
   codeAny (model P w) callerA (.call (.ref fa) ⟨[.ref a],[]⟩) (λr s'=>r=.ok (.ret (.bool true))/\OldK s₁.heap s'.heap/\s'.os=s₁.os/\AllBare s'.gens) s₁:=by
  intro H hO hS hok hA hK;have Vz:∀{b:Addr} {o:Obj},s₁.heap.get? b=some o->H b=none->(Ln s₁.heap H).get? b=some o:=λe n=>Z6 e n;have noA:∀{b:Addr} {o:Obj} {es:Array DictEntry} {ep:Nat},s₁.heap.get? b=some o->o.data=.dict es ep->H b=none:=λ{b o es ep} e d=>by
   cases q:H b with
   | none=>rfl
   | some u=>
    have e':b=a:=hA b (by rw[q];simp);subst e';rw[ha] at e;cases e;have d':Data.seq vs.toArray _=Data.dict es ep:=d;cases d'
  have nsK:∀{b:Addr} {m:YB},s₁.heap.Ns b m->(Ln s₁.heap H).Ns b m:=λ{b m} ⟨o,es,ep,e,d,r⟩=>⟨o,es,ep,Vz e (noA e d),d,r⟩;have hKb:K.In (Ln s₁.heap H):=λb o e=>Vz (KX b o e) (by
   cases q:H b with
   | none=>rfl
   | some u=>
    have e':b=a:=hA b (by rw[q];simp);subst e';rw[hK (by rw[q];simp)] at e;cases e)
  have hM:Mod K mg (Ln s₁.heap H):=⟨hKb,nsK hns,⟨mb,nsK hb,hbb⟩,let ⟨mc,h1,h2⟩:=hlim;⟨mc,nsK h1,h2⟩⟩;have e0:Kv P w K mg (Ln s₁.heap H) callerA [] s₁ H:=⟨rq,hM,λb o e=>cY e,Nat.le_of_eq (Yy _ _),trivial,λb hb=>absurd (show b∈([]:List Addr) from hb) (by simp),hok,.of_eq hg⟩
  refine codeAny_mono ((F _ hKb (nsK hns)).run callerA [] s₁ H ⟨[.ref a],[]⟩ [.ref a] [.ref a] _ _ hr e0 (hbind s₁ (.ref a)) (.cons rfl .nil) (hsp H hO hS)) λr s' h=>?_;cases r with
  | error e=>exact (hCX H e s' h).elim
  | ok fl=>
   cases fl with
   | next=>exact False.elim h
   | brk=>exact False.elim h
   | cont=>exact False.elim h
   | ret u=>
    obtain⟨v,H',os,bare,un,hok',r',q⟩:=h;have q':v=.bl true:=q;subst q';obtain rfl:u=Value.bool true:=r';refine⟨rq,OldK.of_keep λb o e=>?_,os,bare⟩;cases q:H b with
    | none=>exact un.keep b o e q (by intro z;exact absurd (show b∈([]:List Addr) from z) (by simp)) (by simp)
    | some u=>
     rcases hO b with z |⟨ob,xs,z⟩
     ·rw[q] at z;cases z
     ·have z2:=un.Gy b ob _ z;obtain⟨e1,_⟩:=hok b _ z;obtain⟨e2,_⟩:=hok' b _ z2;rw[e] at e1;cases e1;exact e2
 cases hk:K.lookup a with
 | some o=>
  have e:=KX a o hk;rw[ha] at e;cases e;refine core (λ_=>none) (λ_=>.inl rfl) (.inr ⟨_,vs.toArray,_,hk,rq,rq,rq,by rw[Qba,lenV];exact hl,by simpa using rv⟩) (λb u z=>by have z':(none:Option HO)=some u:=z;cases z') (λb z=>absurd rfl z) λz=>absurd rfl z
 | none=>
  refine core (λb=>if b=a then some (.frz { cls:=.type "list",data:=.seq vs.toArray } (.lst (ns.map V.int))) else none) (λb=>?_) (.inl (.inr ⟨{ cls:=.type "list",data:=.seq vs.toArray },if_pos rfl⟩)) (λb u z=>?_) (λb z=>?_) λ_=>hk
  ·by_cases hb:b=a
   ·exact .inr ⟨_,_,if_pos hb⟩
   ·exact .inl (if_neg hb)
  ·by_cases hb:b=a
   ·have z':=(if_pos hb).symm.trans z;cases z';subst hb;exact⟨ha,by rw[Qbw];exact hl,vs,_,rv,ha⟩
   ·have z':=(if_neg hb).symm.trans z;cases z'
  ·by_cases hb:b=a
   ·exact hb
   ·exact absurd (if_neg hb) z
theorem bJ {l:PySem.W.OpenLaw} {n k:Nat} {q:Program} {loose:YF} {XP:(YB)->Heap->Prop} {YP:World->Heap->Prop} {d:DefRec} {K:Params->YD} {CX:World->CXT} {sp:World->Sp} {x:Str}
  (hn:l.most=some n) (hn2:n<=sizeLine) (hdf:d.params.defaults=[]) (hr:Cy k callerA)
  (hY:∀(w:World) (h:Heap),YP w h->(K w.params).In h)
  (F:∀(w:World) (mg:YB) (fa:Addr) (h:Heap),(K w.params).In h->h.Ns mainGlobals mg->mg d.name=some (.ref fa) ->
   ∃fd:FuncData,(∀(s:Shared) (u:Value),BindsTo s fd ⟨[u],[]⟩ [(x,u)]) /\
    ∀base:Heap,(K w.params).In base->base.Ns mainGlobals mg->Ec l.prog w (K w.params) mg base (CX w) k fa fd [x] (sp w))
  (hsp:∀(w:World) (H:Hp) (a:Addr) (ns:List Int),ns.length<=n->Only H->SqL (K w.params) H a (ns.map V.int)->sp w [.ref a] H (λv _=>v=.bl true) λ_ _ _=>False)
  (hCX:∀(w:World) (H:Hp) (s:Shared) (e:Value) (s':Shared),CX w [] H s (λ_ _ _=>False) e s'->False) :
  PySem.W.WalkO q loose XP YP l.row.toRowW d [] (λf vs=>PySem.call f vs):=by
 refine Att.Va hn hdf λw s₀ s₁ mg mb fa o pm cd doc a vs ns G Y ho hd hcd hmg hobj hints hlen hg=>?_;have KX:=hY w _ Y;obtain⟨fd,hb,hF⟩:=F w mg fa _ KX G.T.g hmg;exact ZQ KX G.T.g G.T.b G.T.builtins G.T.nolimit hg hobj hints (Qcd hlen hn2) hr hF hb (λH hO hS=>hsp w H a ns hlen hO hS) λH e s'=>hCX w H s₁ e s'
def inClass (s:Stmt) (j:Nat):Stmt:=match s with
 | .ClassDef _ _ _ body _ _ _ _ _ _ _=>body.getD j (.Pass ⟨0,0,0,0⟩)
 | _=>.Pass ⟨0,0,0,0⟩
def Dk (s:Stmt):Arguments:=match s with
 | .FunctionDef _ a _ _ _ _ _ _ _ _=>a
 | _=>{ posonlyargs:=[],args:=[],vararg:=none,kwonlyargs:=[],kw_defaults:=[],kwarg:=none,defaults:=[] }
def CG (s:Stmt):List Stmt:=match s with
 | .FunctionDef _ _ b _ _ _ _ _ _ _=>b
 | _=>[]
def Ak (s:Stmt):Scope:=match s with
 | .FunctionDef _ _ _ _ _ _ sc _ _ _=>sc
 | _=>{ kind:=.function,names:=[],isGenerator:=false,isCoroutine:=false }
abbrev CX0:CXT:=λ_ _ _ _ _ _=>False
abbrev E0:XK:=λ_ _ _=>False
theorem Wj {X:Cx}:Passes CX0 X E0:=λ_ _ _ _ _ _ _ h=>h.elim
structure Fun (K:YD) (x qual:Str) (st:Stmt) (f:Addr) (fd:FuncData):Prop where
 ex:∃(oc:Value) (od:Option Addr) (kV doc pm:Value) (an:Option Addr) (cdv ct:Value) (osl:YI),
  fd=fnOf x qual (Dk st) (CG st) (Ak st) .none kV doc pm an cdv ct/\K.lookup f=some ⟨oc,od,.func fd,osl⟩/\codeIn K cdv qual=true
 kp:keepIn K (.ref f)=true
section
variable {P:Program} {w:World} {K:YD} {mg:YB} {base:Heap}
theorem Fun.ok {x qual:Str} {st:Stmt} {f:Addr} {fd:FuncData} {N ps:YF} {k:Nat} {sp:Sp} (F:Fun K x qual st f fd) (S:Bq N ps (Ak st)) (len:∀vs H Q E,sp vs H Q E->vs.length=ps.length)
  (hbody:∀(cdv:Value) (A:Around) (outer:List Env) (s:Shared) (H:Hp) (vs:YG) (Q:VK) (E:XK),Cy k (A.deeper (envOfC qual (Ak st) s.heap.objs.size f cdv))->sp vs H Q E ->
   ∃t,PSs (MF CX0 P w K mg base N qual (Ak st) f cdv A outer s H E).nox (CG st) t/\t { nx:=λ_ H'=>Q .non H',rt:=Q } (start N vs) H):Ec P w K mg base CX0 (k+1) f fd ps sp:=by
 obtain⟨oc,od,kV,doc,pm,an,cdv,ct,osl,rfl,lk,hcd⟩:=F.ex;refine jY lk hcd S len λA outer s H vs Q E hr hsp=>?_;obtain⟨t,h,q⟩:=hbody cdv A outer s H vs Q E hr hsp;exact⟨t,h.nox,q⟩
theorem Fun.binds {x qual:Str} {st:Stmt} {f:Addr} {fd:FuncData} {ps:YF} (F:Fun K x qual st f fd)
  (h:∀(kV doc pm:Value) (an:Option Addr) (cdv ct:Value) (us:YE),us.length=ps.length->bindArgs (fnOf x qual (Dk st) (CG st) (Ak st) .none kV doc pm an cdv ct) ⟨us,[]⟩=pure (ps.zip us)):Binds K fd ps []:=by
 obtain⟨oc,od,kV,doc,pm,an,cdv,ct,osl,rfl,lk,hcd⟩:=F.ex;exact .all (h kV doc pm an cdv ct)
theorem Pj {x qual:Str} {st:Stmt} {f:Addr} {oc:Value} {od an:Option Addr} {osl:YI} {kV doc pm cdv ct:Value} (l:K.lookup f=some ⟨oc,od,.func (fnOf x qual (Dk st) (CG st) (Ak st) .none kV doc pm an cdv ct),osl⟩)
  (c:codeIn K cdv qual=true) (k:keepIn K (.ref f)=true):Fun K x qual st f (fnOf x qual (Dk st) (CG st) (Ak st) .none kV doc pm an cdv ct):=⟨⟨oc,od,kV,doc,pm,an,cdv,ct,osl,rq,l,c⟩,k⟩
end
theorem Ba {n:Nat} (h:n<=1000):n < sizeLine:=Nat.lt_of_le_of_lt h (by decide)
section
variable {X:Cx}
theorem pv (i:Nat) {x:Str} {pos:Pos} (hN:X.N[i]?=some x:=by rfl) (hv:Vis X.env.scope x:=by first | exact Or.inl rfl | exact Or.inr (Or.inl rfl) | exact Or.inr (Or.inr rfl)) (hd:(x == ("__debug__":Str))=false:=by decide)
  (hcd:(x == ("__classdict__":Str))=false:=by decide):PE X (.Name x pos) (dZ i):=fU hN hv hd hcd
end
theorem Bd {A B:Prop} (h:B):if false=true then A else B:=by
 rw[if_neg QaO];exact h
theorem Av {A B:Prop} (h:A):if true=true then A else B:=by
 rw[if_pos rfl];exact h
theorem Mw {c A B:Prop} [Decidable c] (h1:c->A) (h2:¬c->B):if c then A else B:=by
 by_cases h:c
 ·rw[if_pos h];exact h1 h
 ·rw[if_neg h];exact h2 h
def Same (H H':Hp):Prop:=∀b o,H b=some o->H' b=some o
theorem Same.refl (H:Hp):Same H H:=λ_ _ h=>h
theorem Same.trans {H H1 H2:Hp} (a:Same H H1) (b:Same H1 H2):Same H H2:=λc o h=>b c o (a c o h)
theorem Same.free {H H':Hp} (e:Same H H') {l:Addr} (h:H' l=Option.none):H l=Option.none:=by
 cases q:H l with
 | none=>rfl
 | some o=>
  rw[e l o q] at h;cases h
theorem Same.seq {K:YD} {H H':Hp} {a:Addr} {xs:YG} (e:Same H H') (h:SqL K H a xs):SqL K H' a xs:=by
 rcases h with (h |⟨o,h⟩) | h
 ·exact .inl (.inl (e _ _ h))
 ·exact .inl (.inr ⟨o,e _ _ h⟩)
 ·exact .inr h
def Ep (env:Env):List (Str×NameKind)->List (Str×Addr)->List (Str×Addr)
 | [],cs=>cs
 | (n,k)::r,cs=>Ep env r (if (k == .free)=true then (match env.cells.lookup n with | some c=>(n,c)::cs | none=>cs) else cs)
theorem Uo {env:Env}:∀(names:List (Str×NameKind)) (cs:List (Str×Addr)),(∀p∈names,p.2=.free->∃c,env.cells.lookup p.1=some c) ->
  (forIn names cs λ(p:Str×NameKind) (r:List (Str×Addr))=>(if (p.2 == .free)=true then do
    let c <-cellOf env p.1
    pure (ForInStep.yield ((p.1,c)::r))
   else pure (ForInStep.yield r):Sem (ForInStep (List (Str×Addr)))))=pure (Ep env names cs)
 | [],cs,_=>rfl
 | (n,k)::rest,cs,h=>by
  have ih:=λcs'=>Uo rest cs' λp hp=>h p (Qaz _ hp);rw[List.forIn_cons];cases hk:(k == NameKind.free) with
  | true=>
   obtain⟨c,hc⟩:=h (n,k) QaN (eq_of_beq hk);have e1:cellOf env n=pure c:=by unfold cellOf;rw[hc]
   have e2:Ep env ((n,k)::rest) cs=Ep env rest ((n,c)::cs):=by simp only[Ep,hk,if_true,hc]
   rw[e2,<-ih];simp only[hk,if_true,e1,pure_bind]
  | false=>
   have e2:Ep env ((n,k)::rest) cs=Ep env rest cs:=by simp only[Ep,hk,QaT,Qcr]
   rw[e2,<-ih];simp only[hk,QaT,Qcr,pure_bind]
theorem WY {env:Env} {scope:Scope} (h:∀p∈scope.names,p.2=.free->∃c,env.cells.lookup p.1=some c):closureFor scope env=pure (Ep env scope.names []):=by
 have e:=Uo (env:=env) scope.names [] h;unfold closureFor;simp only[bind_pure];exact e
theorem Um {env:Env}:∀(names:List (Str×NameKind)) (cs:List (Str×Addr)),(∀x c,cs.lookup x=some c->env.cells.lookup x=some c) ->
  ∀x c,(Ep env names cs).lookup x=some c->env.cells.lookup x=some c
 | [],cs,h,x,c,e=>h x c e
 | (n,k)::rest,cs,h,x,c,e=>by
  refine Um rest _ (λy d z=>?_) x c e;split at z
  ·split at z
   ·rename_i c' hc';rw[List.lookup_cons] at z;cases q:y == n with
    | true=>rw[q] at z;cases z;rw[eq_of_beq q];exact hc'
    | false=>rw[q] at z;exact h y d z
   ·exact h y d z
  ·exact h y d z
theorem Oq {env:Env}:∀(names:List (Str×NameKind)) (cs:List (Str×Addr)) (x:Str),((cs.lookup x).isSome=true\/((x,NameKind.free)∈names/\∃c,env.cells.lookup x=some c)) ->
  ∃c,(Ep env names cs).lookup x=some c
 | [],cs,x,h=>by
  rcases h with h |⟨h,_⟩
  ·exact Option.isSome_iff_exists.mp h
  ·cases h
 | (n,k)::rest,cs,x,h=>by
  refine Oq rest _ x ?_;have grow:(cs.lookup x).isSome=true->(List.lookup x (if (k == .free)=true then (match env.cells.lookup n with | some c=>(n,c)::cs | none=>cs) else cs)).isSome=true:=λz=>by
   split
   ·split
    ·rw[List.lookup_cons];cases x == n with
     | true=>rfl
     | false=>exact z
    ·exact z
   ·exact z
  rcases h with h |⟨h,c,hc⟩
  ·exact .inl (grow h)
  ·rcases QbS.mp h with z | z
   ·cases z;refine .inl ?_;simp[hc,List.lookup_cons]
   ·exact .inr ⟨z,c,hc⟩
def JL (env:Env) (n:Str) (k:NameKind):NameKind:=if (k == .free&&env.scope.kind == .function&&env.kindOf n == some .cell)=true then .cell else k
theorem O8 (env:Env):∀(l:List (Str×NameKind)) (x:Str),
  (l.map λ(n,k)=>if (k == NameKind.free&&env.scope.kind == .function&&env.kindOf n == some .cell) then (n,NameKind.cell) else (n,k)).lookup x=(l.lookup x).map (JL env x)
 | [],_=>rfl
 | (n,k)::r,x=>by
  have ih:=O8 env r x;have e:(if (k == NameKind.free&&env.scope.kind == .function&&env.kindOf n == some .cell)=true then (n,NameKind.cell) else (n,k))=(n,JL env n k):=by
   unfold JL;split <;> rfl
  rw[QbU];show List.lookup x ((if (k == NameKind.free&&env.scope.kind == .function&&env.kindOf n == some .cell)=true then (n,NameKind.cell) else (n,k))::_)=_
  rw[e,List.lookup_cons,List.lookup_cons];cases q:x == n with
  | true=>rw[eq_of_beq q];rfl
  | false=>exact ih
theorem Zk {env:Env} {n:Str} {k:NameKind} (h:JL env n k=.cell\/JL env n k=.free):k=.cell\/k=.free:=by
 unfold JL at h;split at h
 ·rename_i q;simp only[Qbm] at q;exact .inr (eq_of_beq q.1.1)
 ·exact h
theorem Y0 {prog:Program} {w:World} {A:Around} {R:Result->Shared->Prop} {s:Shared} {elt target iter:Expr} {ifs:YJ} {scope:Scope} {pos:Pos} {it acc:Value} {env:Env} (J:Nat->Shared->Prop)
  (turn:∀n s,J n s->wpAny (model prog w) A (pyNext it) (λr s1=>match r with
   | none=>R (.ok .next) s1
   | some v=>wpAny (model prog w) A (letOwnedTupleGo target it v) (λ_ s2=>wpAny (model prog w) A (assign target env v) (λ_ s3=>
     wpAny (model prog w) A (forIn ifs true λc r=>if r=true then do let ok <-isTrue c env (eval c env);pure (ForInStep.yield ok) else pure (ForInStep.yield r)) (λok s4=>
      if ok=true then wpAny (model prog w) A (eval elt env) (λx s5=>wpAny (model prog w) A (call (.builtin "list.append") [acc,x]) (λ_ s6=>∃m,m < n/\J m s6) (λ_ _=>False) s5) (λ_ _=>False) s4
      else ∃m,m < n/\J m s4) (λ_ _=>False) s3) (λ_ _=>False) s2) (λ_ _=>False) s1) (λ_ _=>False) s)
  (n:Nat) (h:J n s):codeAny (model prog w) A (.compLoop (.ListComp elt [⟨target,iter,ifs,0⟩] scope pos) 0 it acc env) R s:=by
 refine codeAny_loop rfl J (λk s' hk=>?_) n h;show wpAny _ A (Sem.onRaise (compTurn (.ListComp elt [⟨target,iter,ifs,0⟩] scope pos) 0 it acc env) (λx=>do noteFrame x env;theTreesLotGoes x)) _ _ s'
 refine wpAny_noted ?_;rw[compTurn_list];refine Qcl (wpAny_standAt (Qcl (Qcn (turn k s' hk) (λr s1 q1=>?_) λ_ _ f=>f.elim)));cases r with
 | none=>exact Qcm q1
 | some v=>
  refine Qcl (Qcn q1 (λ_ s2 q2=>Qcl (Qcn q2 (λ_ s3 q3=>Qcl (Qcn q3 (λok s4 q4=>?_) λ_ _ f=>f.elim)) λ_ _ f=>f.elim)) λ_ _ f=>f.elim);cases ok with
  | false=>exact Qcm ⟨rfl,q4⟩
  | true=>exact Qcl (Qcl (Qcn q4 (λx s5 q5=>Qcl (Qcn q5 (λ_ s6 q6=>Qcm (Qcm ⟨rfl,q6⟩)) λ_ _ f=>f.elim)) λ_ _ f=>f.elim))
def cxC (X:Cx) (N':YF) (scope:Scope) (s3:Shared) (H3:Hp) (fp:List Addr) (pn:YC):Cx where
 prog:=X.prog
 w:=X.w
 K:=X.K
 mg:=X.mg
 base:=X.base
 A:=X.A
 N:=N'
 s₀:=s3
 H₀:=H3
 env:=compEnvC scope (Ep X.env scope.names []) s3.heap.objs.size X.env
 outer:=X.stack
 stack:=X.stack
 ex:=fp
 fn:=λ_=>false
 calm:=X.calm
 pn:=pn
 xe:=λ_ _=>False
structure Bx (X:Cx) (N':YF) (src:List (Option Nat)) (sc:Scope):Prop where
 kind:sc.kind=.function
 Jc:∀y∈sc.names,y.2≠.cell
 loc:∀y∈sc.names,y.2=.local->sc.names.lookup y.1=some .local
 fv:∀y∈sc.names,y.2=.free->X.env.kindOf y.1=some .cell\/X.env.kindOf y.1=some .free
 len:src.length=N'.length
 src:∀(i:Nat) (x:Str) (j:Nat),N'[i]?=some x->src[i]?=some (some j)->X.N[j]?=some x/\sc.names.lookup x=some .free
def K4 (src:List (Option Nat)) (σ : St):St:=src.map λo=>match o with | none=>none | some j=>(σ[j]?).join
def PF (X:Cx) (ifs:YJ) (t:TT):Prop:=
 ∀(jb:YC) (s:Shared) (σ : St) (H:Hp) (Q:Bool->Hp->Prop),Inv X jb σ H s->t σ H Q ->
  wpAny (model X.prog X.w) X.A (forIn ifs true λc r=>if r=true then do let ok <-isTrue c X.env (eval c X.env);pure (ForInStep.yield ok) else pure (ForInStep.yield r)) (TP X jb σ Q) X.xe s
theorem Ds {X:Cx}:PF X [] (λ_ H Q=>Q true H):=λ_ _ _ H _ I h=>wpAny_tests_nil ⟨H,I,h⟩
theorem KJ {X:Cx} {c:Expr} {t:TT} (hc:PT X c t):PF X [c] t:=λjb s σ H Q I h=>wpAny_tests_one (hc jb s σ H Q I h)
theorem Un.ahead {fs ex:List Addr} {H H':Hp} {h h1 h':Heap} (u:Un fs ex H H' h h1) (k:∀b o,b < h.objs.size->h1.get? b=some o->h'.get? b=some o):Un fs ex H H' h h' where
 keep:=λb o e n hb hx=>k b o (Qcb e) (u.keep b o e n hb hx)
 slot:=λb o e n hb hx=>by
  obtain⟨sl,q⟩:=u.slot b o e n hb hx;exact⟨sl,k b _ (Qcb e) q⟩
 free:=u.free
 there:=λb o e hx=>by
  obtain⟨o',q⟩:=u.there b o e hx;exact⟨o',k b _ (Qcb e) q⟩
 tups:=u.tups
 Gy:=u.Gy
 GR:=u.GR
section
variable {X:Cx} {N':YF} {src:List (Option Nat)} {sc:Scope} {jb:YC} {σ : St} {H:Hp} {s3:Shared} {fp:List Addr} {h1:Heap} {tk:Nat}
theorem aq (S:Bx X N' src sc) (I:Inv X jb σ H s3) (hf:∀b∈fp,Ii X jb H b) (ht:∀b∈fp,b < s3.heap.objs.size)
  (ns:h1.Ns s3.heap.objs.size λ_=>none) (kp:∀b o,s3.heap.get? b=some o->h1.get? b=some o) :
  Inv (cxC X N' sc s3 H fp (X.pn++jb)) [] (K4 src σ) H { s3 with heap:=h1,toks:=tk }:=by
 have hcl:∀x c,(Ep X.env sc.names []).lookup x=some c->X.env.cells.lookup x=some c:=Um sc.names [] λx c e=>by cases e
 have old:∀x c,(Ep X.env sc.names []).lookup x=some c->∃o,s3.heap.get? c=some o:=λx c e=>by
  obtain⟨v,o,ho,_⟩:=I.cell x c (hcl x c e);exact⟨o,ho⟩
 have fvh:∀x,(x,NameKind.free)∈sc.names->∃c,X.env.cells.lookup x=some c:=λx hx=>I.ok.has x (S.fv _ hx rfl);have eE:∀b,b≠X.env.locals->b∉X.fs->b∉frs X.stack:=λb h1 h2 hb=>(QbS.mp (I.RW b hb)).elim h1 h2;have kindOf_eq:∀x,(compEnvC sc (Ep X.env sc.names []) s3.heap.objs.size X.env).kindOf x=(sc.names.lookup x).map (JL X.env x):=λx=>O8 X.env sc.names x;refine⟨⟨I.ok.mod,S.kind,I.ok.glob,I.ok.blt,Qch _,λx y c e1 e2=>I.ok.inj x y c (hcl x c e1) (hcl y c e2),λx hx=>?_,λx c hf=>absurd hf QaO,I.ok.hd,I.ok.frames,.inl rfl,λb hb=>?_,I.bs,Qcd I.ok.bsz I.sz,
  λb o e hb=>?_,λb hb=>?_,I.stack,I.Py⟩,rq,I.bare,Un.kept kp,⟨_,ns,λi x v e1 e2 e3=>?_⟩,λx c e=>?_,I.hok.fresh (Qch _),λx c e=>I.Ga x c (hcl x c e),λp hp=>?_,I.hok.kept kp,?_⟩
 ·
  have hx':(sc.names.lookup x).map (JL X.env x)=some .cell\/(sc.names.lookup x).map (JL X.env x)=some .free:=by
   rw[<-kindOf_eq x];exact hx
  cases q:sc.names.lookup x with
  | none=>rw[q] at hx';rcases hx' with z | z <;> cases z
  | some k=>
   rw[q] at hx';have hk:k=.cell\/k=.free:=Zk (env:=X.env) (n:=x) (hx'.imp (λz=>QbA z) λz=>QbA z);have hm:=QaI q;rcases hk with rfl | rfl
   ·exact absurd rfl (S.Jc _ hm)
   ·exact Oq sc.names [] x (.inr ⟨hm,fvh x hm⟩)
 ·
  obtain⟨f0,f1,f2,f3,f4,f5⟩:=hf b hb;exact⟨Qcc (ht b hb),λx c e=>f4 x c (hcl x c e)⟩
 ·
  obtain⟨f0,f1,f2,f3,f4,f5⟩:=hf b hb;rcases f3 with z | z
  ·exact I.ok.Qf b o e z
  ·exact absurd (QaP (Qcb e) (Qcd I.ok.bsz z)) (QbV _)
 ·
  obtain⟨f0,f1,f2,f3,f4,f5⟩:=hf b hb;exact eE b f1 f2
 ·
  have e2':(K4 src σ)[i]?=some (some v):=e2;unfold K4 at e2';rw[Qbc] at e2';cases q:src[i]? with
  | none=>rw[q] at e2';cases e2'
  | some oj=>
   rw[q] at e2';cases oj with
   | none=>cases e2'
   | some j=>
    have e4:(σ[j]?).join=some v:=QbA e2';have e5:σ[j]?=some (some v):=by
     cases r:σ[j]? with
     | none=>rw[r] at e4;cases e4
     | some z=>rw[r] at e4;cases z with
      | none=>cases e4
      | some y=>cases e4;rfl
    obtain⟨hN,hfr⟩:=S.src i x j e1 q;have hm:=QaI hfr;have kx:=S.fv _ hm rfl;obtain⟨m,hn,hl⟩:=I.loc;obtain⟨u,r,l⟩:=hl j x v hN e5 (.inr kx);refine⟨u,r,?_⟩;rcases l with⟨k1,_⟩|⟨_,c,hc,hcell⟩
    ·rcases kx with z | z <;> (rw[z] at k1;cases k1)
    ·obtain⟨c',hc'⟩:=Oq (env:=X.env) sc.names [] x (.inr ⟨hm,c,hc⟩);have e6:c'=c:=by
      have:=hcl x c' hc';rw[hc] at this;exact (QbA this).symm
     subst e6;refine .inr ⟨?_,c',hc',?_⟩
     ·have:(compEnvC sc (Ep X.env sc.names []) s3.heap.objs.size X.env).kindOf x=some (JL X.env x .free):=by rw[kindOf_eq x,hfr];rfl
      show (compEnvC sc (Ep X.env sc.names []) s3.heap.objs.size X.env).kindOf x=some .cell\/(compEnvC sc (Ep X.env sc.names []) s3.heap.objs.size X.env).kindOf x=some .free;rw[this];unfold JL;split
      ·exact .inl rfl
      ·exact .inr rfl
     ·obtain⟨o,ho,hd⟩:=hcell;exact⟨o,kp _ o ho,hd⟩
 ·
  obtain⟨v,o,ho,hd⟩:=I.cell x c (hcl x c e);exact⟨v,o,kp _ o ho,hd⟩
 ·
  have hp':p∈X.pn++jb:=(Qbz.mp hp).elim id λz=>by cases z
  obtain⟨a1,a2,a3,a4,a5⟩:=I.pin p hp';exact⟨kp _ _ a1,a2,Qcc (Qcb a1),eE p.1 a3 a4,a5⟩
 ·show (K4 src σ).length=N'.length;unfold K4;rw[Qbw];exact S.len
theorem YX {s1:Shared} {σ':St} {H':Hp} {h':Heap} (I:Inv X jb σ H s3) (hf:∀b∈fp,Ii X jb H b) (I':Inv (cxC X N' sc s3 H fp (X.pn++jb)) [] σ' H' s1)
  (sb:Heap.SameBut s3.heap.objs.size s1.heap h'):Inv X jb σ H' { s1 with heap:=h' }:=by
 have fr:H' s3.heap.objs.size=none:=I'.free;refine I.call' (s':={ s1 with heap:=h' }) (ch:=fp) I'.os ?_ ?_ I'.bare λb hb=>?_
 ·exact Un.ahead (h:=s3.heap) (h1:=s1.heap) I'.base λb o hb e=>sb.extBut b o (Qcc hb) e
 ·exact λb u e=>(I'.hok b u e).stay (λc v hc q=>sb.extBut c v (by
   intro z;rcases hc with y | y
   ·rw[<-y,z,fr] at e;cases e
   ·rw[z,fr] at y;cases y) q) (λ_ q=>q) λ_ _ q=>q
 ·obtain⟨f0,f1,f2,f3,f4,f5⟩:=hf b hb;exact⟨f3,f1,f4,λp hp=>f5 p hp⟩
end
@[irreducible] def Ez (J:It) (g:TG) (tt:TT) (te:TE) (Q:VK) (σ0:St) (H0:Hp) (l:Addr):Prop:=∃W:Nat->YN,(∃m,W 0 m σ0 H0) /\
 ∀i m σ' H',W i m σ' H'->(J.stop i H'/\Q (.ref l) H')\/(J.go i H'/\∃N:YO,(∀ σ3 H3,N σ3 H3->∃m',m' < m/\W (i+1) m' σ3 H3)/\∀x H2,J.yld i H' x H2->g x σ' H2 fun σ3 H3=>tt σ3 H3 λb H4=>
  if b=true then te σ3 H4 λy H5=>∃xs,H5 l=some (.lst xs)/\xs.length < sizeLine/\N σ3 (upd H5 l (.lst (xs++[y]))) else N σ3 H4)
def V0 (wi:TI) (src:List (Option Nat)) (g:TG) (tt:TT) (te:TE):TE:=fun σ H Q=>wi σ H λJ H1=>∀l,H1 l=none->Ez J g tt te Q (K4 src σ) (upd H1 l (.lst [])) l
theorem Q6 {X:Cx} {N':YF} {src:List (Option Nat)} {sc:Scope} {elt tg iter:Expr} {ifs:YJ} {pos pos':Pos} {wi:TI} {g:TG} {tt:TT} {te:TE} {use:Option (Value->Sem Unit)} {R:YA} (hc:X.calm=true) (S:Bx X N' src sc)
  (hi:PI X tg iter wi) (hg:∀s3 H3 fp pn,PG (cxC X N' sc s3 H3 fp pn) tg g) (ht:∀s3 H3 fp pn,PF (cxC X N' sc s3 H3 fp pn) ifs tt) (he:∀s3 H3 fp pn,PE (cxC X N' sc s3 H3 fp pn) elt te)
  (hs:∀x,foldedSetIterable iter X.env x=pure x) {jb:YC} {s:Shared} {σ : St} {H:Hp} {Q:VK} (I:Inv X jb σ H s) (h:V0 wi src g tt te σ H Q)
  (fin:∀s3 H3 fp σ4 H4 s5 l,Inv X jb σ H3 s3->(∀b∈fp,Ii X jb H3 b)->Inv (cxC X N' sc s3 H3 fp (X.pn++jb)) [] σ4 H4 s5->Q (.ref l) H4 ->
   compPost (model X.prog X.w) X.A X.xe use R (.ref l) s3.heap.objs.size (.ok .next) s5) :
  wpAny (model X.prog X.w) X.A (comprehension (.ListComp elt [⟨tg,iter,ifs,0⟩] sc pos) sc X.env pos' (newList []) false (eval iter X.env) use) R X.xe s:=by
 refine wpAny_comprehension_free (use:=use) (cl:=Ep X.env sc.names []) rfl hs (WY λp hp e=>I.ok.has p.1 (S.fv p hp e)) S.kind S.loc ?_;refine thn (hi jb s σ H _ I h) λv s1 h1=>thn h1 λitv s2 h2=>?_;obtain⟨it,fp,tn,J,H2,rfl,I2,T,st2,f2,q⟩:=h2;have q':=q s2.heap.objs.size (I2.hok.fresh (Qch _));unfold Ez at q';obtain⟨W,⟨m0,w0⟩,turn⟩:=q';refine Qbd (wpAny_newFunctionEnv S.Jc (by intro y hy;simp at hy) (λha hns hsb=>?_) S.kind);have I3:Inv X jb σ (upd H2 s2.heap.objs.size (.lst [])) { s2 with heap:=s2.heap.push { cls:=.type "list",dict:=none,data:=.seq ([]:YE).toArray } }:=
  I2.laid (t':=s2.toks) (λb u e=>Qaq _ e) (Qch _) ⟨Qci _,[],0,.nil,QaE _ rfl⟩
 have hfl:∀b∈fp,b < s2.heap.objs.size:=λb hb=>by
  obtain⟨o,e,_⟩:=T.obj 0 _ st2 b hb;exact Qcb e
 have f3:∀b∈fp,Ii X jb (upd H2 s2.heap.objs.size (.lst [])) b:=λb hb=>⟨by rw[Bk (Qcc (hfl b hb))];exact (f2 b hb).1,(f2 b hb).2⟩;generalize hs3:({ s2 with heap:=s2.heap.push { cls:=.type "list",dict:=none,data:=.seq ([]:YE).toArray } }:Shared)=s3 at *;have hsz:s2.heap.objs.size < s3.heap.objs.size:=by rw[<-hs3];show s2.heap.objs.size < (s2.heap.push _).objs.size;rw[QbN];exact Qbt _
 have kp:∀b o,s3.heap.get? b=some o->ha.get? b=some o:=λb o e=>hsb.extBut b o (Qcc (Qcb e)) (Qaq _ e);have st3:tn 0 ha:=T.keep 0 _ _ st2 λb hb o e=>kp b o (by rw[<-hs3];exact Qaq _ e);have I4:Inv (cxC X N' sc s3 (upd H2 s2.heap.objs.size (.lst [])) fp (X.pn++jb)) [] (K4 src σ) (upd H2 s2.heap.objs.size (.lst [])) { s3 with heap:=ha,toks:=s3.toks+([]:List (Str×Value)).length }:=
  aq S I3 f3 (λb hb=>Nat.lt_trans (hfl b hb) hsz) hns kp
 have loop:codeAny (model X.prog X.w) X.A (.compLoop (.ListComp elt [⟨tg,iter,ifs,0⟩] sc pos) 0 (.ref it) (.ref s2.heap.objs.size) (compEnvC sc (Ep X.env sc.names []) s3.heap.objs.size X.env))
   (compPost (model X.prog X.w) X.A X.xe use R (.ref s2.heap.objs.size) s3.heap.objs.size) { s3 with heap:=ha,toks:=s3.toks+([]:List (Str×Value)).length }:=by
  refine Y0 (λn s'=>∃i σ' H',Inv (cxC X N' sc s3 (upd H2 s2.heap.objs.size (.lst [])) fp (X.pn++jb)) [] σ' H' s'/\tn i s'.heap/\(∀b∈fp,H' b=none)/\W i n σ' H') ?_ m0 ⟨0,_,_,I4,st3,λb hb=>(f3 b hb).1,w0⟩;rintro n s4 ⟨i,σ4,H4,J4,st4,fr4,w4⟩;have stat:∀{H':Hp},(∀b∈fp,H' b=none)->∀b∈fp,Ii (cxC X N' sc s3 (upd H2 s2.heap.objs.size (.lst [])) fp (X.pn++jb)) [] H' b:=λhn b hb=>
   ⟨hn b hb,(I4.ok.exf b hb).1,I4.ok.Qz b hb,.inl hb,λx c e=>(I4.ok.exf b hb).2 x c e,λp hp=>(f3 b hb).2.2.2.2.2 p ((Qbz.mp hp).elim id λz=>by cases z)⟩
  rcases turn i n σ4 H4 w4 with⟨stop,qn⟩|⟨go,N,hN,step⟩
  ·refine thn (T.done (cxC X N' sc s3 (upd H2 s2.heap.objs.size (.lst [])) fp (X.pn++jb)) rfl rfl rfl hc i [] s4 σ4 H4 _ J4 (stat fr4) st4 stop) λr s5 zz=>?_;obtain⟨hr,J5⟩:=zz;subst hr;exact fin s3 _ fp σ4 H4 s5 _ I3 f3 J5 qn
  ·refine thn (T.item (cxC X N' sc s3 (upd H2 s2.heap.objs.size (.lst [])) fp (X.pn++jb)) rfl rfl rfl hc i [] s4 σ4 H4 _ J4 (stat fr4) st4 go) λr s5 zz=>?_;obtain⟨u,hr,h5⟩:=zz;subst hr;refine thn h5 λ_ s6 zz=>?_;obtain⟨x,H6,J6,r6,y6,st6,fr6⟩:=zz;have J6':=J6.pinned (stat fr6) (T.obj _ _ st6);have back:∀{pl:YC} {σ7:St} {H7:Hp} {s7:Shared},Inv (cxC X N' sc s3 (upd H2 s2.heap.objs.size (.lst [])) fp (X.pn++jb)) ([]++Mr fp s6.heap) σ7 H7 s7->N σ7 H7 ->
     ∃m',m' < n/\∃i σ' H',Inv (cxC X N' sc s3 (upd H2 s2.heap.objs.size (.lst [])) fp (X.pn++jb)) [] σ' H' s7/\tn i s7.heap/\(∀b∈fp,H' b=none)/\W i m' σ' H':=λ{pl σ7 H7 s7} J7 w7=>by
    obtain⟨m',hm,w7⟩:=hN _ _ w7;have pinned:∀b∈fp,∀o,s6.heap.get? b=some o->s7.heap.get? b=some o/\H7 b=none:=λb hb o e=>by
     have:=J7.pin (b,o) (Qav _ (Qav _ (Lk hb e)));exact⟨this.1,this.2.1⟩
    refine⟨m',hm,i+1,σ7,H7,J7.Jw,T.keep _ _ _ st6 λb hb o e=>(pinned b hb o e).1,λb hb=>?_,w7⟩;obtain⟨o,e,_⟩:=T.obj _ _ st6 b hb;exact (pinned b hb o e).2
   refine thn (hg s3 _ fp _ _ s6 σ4 H6 x u _ J6' r6 (step x H6 y6)) λ_ s7 zz=>?_;obtain⟨σ7,H7,J7,q7⟩:=zz;refine thn (ht s3 _ fp _ _ s7 σ7 H7 _ J7 q7) λok s8 zz=>?_;obtain⟨H8,J8,q8⟩:=zz;cases ok with
   | false=>
    rw[if_neg QaO] at q8 ⊢;exact back (pl:=[]) J8 q8
   | true=>
    rw[if_pos rfl] at q8 ⊢;refine thn (he s3 _ fp _ _ s8 σ7 H8 _ J8 q8) λy s9 zz=>?_;obtain⟨yv,H9,J9,r9,xs,hl9,hz9,q9⟩:=zz;refine thn (Dd _ s9 σ7 H9 (.ref s2.heap.objs.size) [yv] (.ref s2.heap.objs.size) [y] (λ_ H'=>N σ7 H') J9 rfl (.cons r9 .nil) ⟨_,xs,yv,rq,rq,hl9,hz9,q9⟩) λ_ s10 zz=>?_;obtain⟨_,H10,J10,_,q10⟩:=zz;exact back (pl:=[]) J10 q10
 exact codeAny_compStart_list loop (T.self X.A 0 _ _ _ st3 loop)
theorem CQ {X:Cx} {N':YF} {src:List (Option Nat)} {sc:Scope} {elt tg iter:Expr} {ifs:YJ} {pos:Pos} {wi:TI} {g:TG} {tt:TT} {te:TE} (hc:X.calm=true) (S:Bx X N' src sc)
  (hi:PI X tg iter wi) (hg:∀s3 H3 fp pn,PG (cxC X N' sc s3 H3 fp pn) tg g) (ht:∀s3 H3 fp pn,PF (cxC X N' sc s3 H3 fp pn) ifs tt) (he:∀s3 H3 fp pn,PE (cxC X N' sc s3 H3 fp pn) elt te)
  (hs:∀x,foldedSetIterable iter X.env x=pure x:=by intro _;rfl):PE X (.ListComp elt [⟨tg,iter,ifs,0⟩] sc pos) (V0 wi src g tt te):=by
 intro jb s σ H Q I h;rw[eval_ListComp];refine Q6 (use:=none) hc S hi hg ht he hs I h λs3 H3 fp σ4 H4 s5 l I3 f3 J5 q=>?_;obtain⟨m,hn,_⟩:=J5.loc;exact⟨m,hn,λh' sb=>⟨.ref l,H4,YX I3 f3 J5 sb,rq,q⟩⟩
theorem KD {X:Cx} {N':YF} {src:List (Option Nat)} {sc:Scope} {elt tg iter:Expr} {ifs:YJ} {pos spos px:Pos} {wi:TI} {g:TG} {tt:TT} {te:TE} {i:Nat} {x:Str} (hN:X.N.Nodup) (hi0:X.N[i]?=some x) (hx:Loc X.env.scope x) (hc:X.calm=true) (S:Bx X N' src sc)
  (hi:PI X tg iter wi) (hg:∀s3 H3 fp pn,PG (cxC X N' sc s3 H3 fp pn) tg g) (ht:∀s3 H3 fp pn,PF (cxC X N' sc s3 H3 fp pn) ifs tt) (he:∀s3 H3 fp pn,PE (cxC X N' sc s3 H3 fp pn) elt te)
  (hsw:swapsWith (.ListComp elt [⟨tg,iter,ifs,0⟩] sc pos) (some (.Name x px)) spos.line X.env=pure true:=by rfl) (hs:∀x,foldedSetIterable iter X.env x=pure x:=by intro _;rfl)
  (hf:X.fn x=true\/X.env.scope.names.lookup x=some .local:=by first | exact .inl rfl | exact .inr rfl | assumption) :
  PS X (.Assign [.Name x px] (.ListComp elt [⟨tg,iter,ifs,0⟩] sc pos) spos) (Zf (V0 wi src g tt te) (Ni i)):=by
 intro jb s σ H D I h;rw[exec_Assign_Name_used _ _ _ _ hsw];refine Qcl (wpAny_standAt (Qcl ?_));show wpAny _ X.A (do let _ <-comprehension (.ListComp elt [⟨tg,iter,ifs,0⟩] sc pos) sc X.env _ (newList []) false (eval iter X.env) (some (assign (.Name x px) X.env))) _ _ s
 refine Qcl (thn (Q6 (R:=λ_ s'=>SP X jb D .next s') hc S hi hg ht he hs I h λs3 H3 fp σ4 H4 s5 l I3 f3 J5 q=>?_) λ_ s' hq=>Qcm (Qcm hq));obtain⟨m,⟨oC,es,ep,hoC,r⟩,_⟩:=J5.loc;have I6:Inv X jb σ H4 { s5 with heap:=s5.heap }:=YX I3 f3 J5 (Heap.SameBut.refl _ _);have hCn:H4 s3.heap.objs.size=none:=J5.free;have neL:s3.heap.objs.size≠X.env.locals:=Qcf I3.lt;have lG:∀v,oC.data≠.cell v:=λv z=>by rw[r.1] at z;cases z
 have I7:Inv X (jb++[(s3.heap.objs.size,oC)]) σ H4 s5:=I6.P0 λp hp=>(Qbz.mp hp).elim (λz=>I6.pin p (Qav _ z)) λz=>by
  cases QaR.mp z;exact⟨hoC,hCn,neL,I3.gq (Qch _),lG⟩
 show wpAny _ X.A (assign (.Name x px) X.env (.ref l)) _ _ s5;refine wpAny_assign_Name (Jy (v:=.ref l) I7 hN hi0 hx rfl (λs6 I8=>?_) hf);have k8:=(I8.pin (s3.heap.objs.size,oC) (Qav _ (Qav _ (QaR.mpr rfl)))).1;refine⟨m,⟨oC,es,ep,k8,r⟩,λh' sb=>⟨_,H4,?_,q⟩⟩;have I9:=I8.Jw;refine I9.turned (t':=s6.toks) (λb o hb e=>sb.extBut b o hb e) hCn neL (.inr I3.sz) (λy c e z=>?_) (λp hp z=>?_)
 ·obtain⟨v,o,ho,_⟩:=I3.cell y c e;exact absurd (Qcb ho) (by rw[z];exact QbV _)
 ·have:=(I3.pin p hp).1;exact absurd (Qcb this) (by rw[z];exact QbV _)
theorem Bx.of {X:Cx} {N':YF} {src:List (Option Nat)} {sc:Scope} (fsc:Scope) (N:YF) (hX:X.env.scope=fsc) (hN:X.N=N) (kind:sc.kind=.function) (Jc:∀y∈sc.names,y.2≠.cell) (loc:∀y∈sc.names,y.2=.local->sc.names.lookup y.1=some .local)
  (fv:∀y∈sc.names,y.2=.free->fsc.names.lookup y.1=some .cell) (len:src.length=N'.length)
  (sr:((N'.zip src).all λp=>match p.2 with | none=>true | some j=>decide (N[j]?=some p.1)&&decide (sc.names.lookup p.1=some .free))=true):Bx X N' src sc where
 kind:=kind
 Jc:=Jc
 loc:=loc
 fv:=λy hy e=>.inl (by show X.env.scope.names.lookup y.1=some .cell;rw[hX];exact fv y hy e)
 len:=len
 src:=λi x j e1 e2=>by
  rw[Qbu] at sr;have hm:(x,some j)∈N'.zip src:=by
   refine Qay (i:=i) ?_;rw[List.getElem?_zip_eq_some];exact⟨e1,e2⟩
  have:=sr _ hm;simp only[Qbm,decide_eq_true_eq] at this;rw[hN];exact this
section
variable {X:Cx}
@[irreducible] def Kq (K:YD):YG->Hp->VK->Prop:=λxs H Q=>∃x T t b,xs=[x,.ty T]/\Ih K H x t/\kitOne K t (.type T)=some b/\Q (.bl b) H
theorem Cg:Du X (.builtin "isinstance") (Kq X.K):=by
 intro jb s σ H xs us Q I r h;unfold Kq at h;obtain⟨x,T,t,b,rfl,ty,e,q⟩:=h;obtain⟨u,w',rfl,rx,rt⟩:=vals2 r;cases rt;exact Yq I rx ty e λtk=>⟨.bl b,H,I.tok tk,rq,q⟩
theorem U7 {K:YD}:kitOne K (.type "int") (.type "int")=some true:=by rfl
theorem T4 {K:YD}:kitOne K (.type "int") (.type "bool")=some false:=by rfl
theorem T5 {K:YD}:kitOne K (.type "bool") (.type "int")=some true:=by rfl
theorem Rt {K:YD}:kitOne K (.type "bool") (.type "bool")=some true:=by rfl
theorem TY {K:YD}:kitOne K (.type "NoneType") (.type "int")=some false:=by rfl
theorem U6 {K:YD}:kitOne K (.type "str") (.type "int")=some false:=by rfl
theorem T3 {K:YD}:kitOne K (.type "list") (.type "int")=some false:=by rfl
theorem Ro {K:YD}:kitOne K (.type "tuple") (.type "int")=some false:=by rfl
theorem Qq {K:YD}:kitOne K (.type "NoneType") (.type "tuple")=some false:=by rfl
theorem Qt {K:YD}:kitOne K (.type "bool") (.type "tuple")=some false:=by rfl
theorem Rq {K:YD}:kitOne K (.type "int") (.type "tuple")=some false:=by rfl
theorem Rp {K:YD}:kitOne K (.type "str") (.type "tuple")=some false:=by rfl
theorem Qs {K:YD}:kitOne K (.type "list") (.type "tuple")=some false:=by rfl
theorem O9 {K:YD}:kitOne K (.type "tuple") (.type "tuple")=some true:=by rfl
def Kn (H:Hp):V->Prop
 | .non=>True
 | .bl _=>True
 | .int _=>True
 | .str _=>True
 | .ref a=>(∃xs,H a=some (.lst xs))\/∃xs,H a=some (.tup xs)
 | _=>False
def isI:V->Bool
 | .int _=>true
 | .bl _=>true
 | _=>false
def isB:V->Bool
 | .bl _=>true
 | _=>false
def isW:V->Bool
 | .int _=>true
 | _=>false
def Ij (H:Hp):V->Option (YG)
 | .ref a=>match H a with
  | some (.tup xs)=>some xs
  | _=>none
 | _=>none
theorem Ht {H:Hp} {a:Addr} {xs:YG} (h:H a=some (.tup xs)):Ij H (.ref a)=some xs:=by
 show (match H a with | some (.tup xs)=>some xs | _=>none)=some xs
 rw[h]
theorem Iv {H:Hp} {a:Addr} {xs:YG} (h:H a=some (.lst xs)):Ij H (.ref a)=none:=by
 show (match H a with | some (.tup xs)=>some xs | _=>none)=none
 rw[h]
theorem Zx {H:Hp} {v:V} {xs:YG} (h:Ij H v=some xs):∃a,v=.ref a/\H a=some (.tup xs):=by
 cases v with
 | ref a=>
  refine⟨a,rq,?_⟩;have h':(match H a with | some (.tup xs)=>some xs | _=>none)=some xs:=h
  split at h'
  ·rename_i e;cases h';exact e
  ·cases h'
 | _=>cases h
theorem Kn.same {H H':Hp} {v:V} (s:Same H H') (k:Kn H v):Kn H' v:=by
 cases v with
 | ref a=>exact k.imp (λ⟨xs,e⟩=>⟨xs,s _ _ e⟩) λ⟨xs,e⟩=>⟨xs,s _ _ e⟩
 | _=>exact k
theorem Jv {K:YD} {H:Hp} {x:V} {Q:VK} (k:Kn H x) (q:Q (.bl (isI x)) H):Kq K [x,.ty "int"] H Q:=by
 unfold Kq;cases x with
 | non=>exact⟨_,_,_,_,rfl,.non,TY,q⟩
 | bl b=>exact⟨_,_,_,_,rfl,.bl b,T5,q⟩
 | int i=>exact⟨_,_,_,_,rfl,.int i,U7,q⟩
 | str z=>exact⟨_,_,_,_,rfl,.str z,U6,q⟩
 | ref a=>
  rcases k with⟨xs,e⟩|⟨xs,e⟩
  ·exact⟨_,_,_,_,rq,.lst e,T3,q⟩
  ·exact⟨_,_,_,_,rq,.tup e,Ro,q⟩
 | _=>exact k.elim
theorem Oe {K:YD} {H:Hp} {x:V} {Q:VK} (k:isI x=true) (q:Q (.bl (isB x)) H):Kq K [x,.ty "bool"] H Q:=by
 unfold Kq;cases x with
 | bl b=>exact⟨_,_,_,_,rfl,.bl b,Rt,q⟩
 | int i=>exact⟨_,_,_,_,rfl,.int i,T4,q⟩
 | _=>cases k
theorem Dv {K:YD} {H:Hp} {x:V} {Q:VK} (k:Kn H x) (q:Q (.bl (Ij H x).isSome) H):Kq K [x,.ty "tuple"] H Q:=by
 unfold Kq;cases x with
 | non=>exact⟨_,_,_,_,rfl,.non,Qq,q⟩
 | bl b=>exact⟨_,_,_,_,rfl,.bl b,Qt,q⟩
 | int i=>exact⟨_,_,_,_,rfl,.int i,Rq,q⟩
 | str z=>exact⟨_,_,_,_,rfl,.str z,Rp,q⟩
 | ref a=>
  rcases k with⟨xs,e⟩|⟨xs,e⟩
  ·rw[Iv e] at q;exact⟨_,_,_,_,rq,.lst e,Qs,q⟩
  ·rw[Ht e] at q;exact⟨_,_,_,_,rq,.tup e,O9,q⟩
 | _=>exact k.elim
theorem Ot:∀{bs:List Bool} {us:YE},Vals (bs.map V.bl) us->LSm.BoolsAre us bs
 | [],_,.nil=>.nil
 | b::r,_,.cons h t=>by
  cases (show _=Value.bool b from h)
  exact .cons b (Ot t)
theorem JZ (hc:X.calm=true):Du X (.builtin "all") (λxs H Q=>∃(p:Addr) (bs:List Bool),xs=[.ref p]/\SqL X.K H p (bs.map V.bl)/\Q (.bl (bs.all id)) H):=by
 intro jb s σ H xs us Q I r h;obtain⟨p,bs,rfl,hq,q⟩:=h;obtain⟨u,rfl,rx⟩:=vals1 r;cases rx;obtain⟨its,rv,pl,hz⟩:=I.list hq;have hb:=Ot rv;have hl:=pl.isList;have hlt:p < s.heap.objs.size:=by obtain⟨_,e,_⟩:=hl;exact Qcb e
 refine call_all_walk (Qbi hl ?_);refine⟨s.heap.objs.size,[s.heap.objs.size,p],[s.heap.objs.size],its.toArray.size,_,_,λi=>(bs[i]?).getD true,rq,Walks.list (A:=X.A.in1) (I.ok.hd hc) _ p (Qcc hlt) its.toArray,
  ⟨⟨_,QaE _ rfl,rq,rq⟩,hl.push _⟩,λi v s' Q' E' hP hQ=>?_,λh' tk hk=>?_⟩
 ·obtain⟨b,e,rfl⟩:=hb.get i v (by simpa using hP);simp only[e,Option.getD_some] at hQ;exact Qbf hQ
 ·have e:((List.range its.toArray.size).all λi=>(bs[i]?).getD true)=bs.all id:=by
   rw[Qba,hb.length];exact LSm.range_all bs
  rw[e];exact⟨.bl (bs.all id),H,I.kept (LSm.kept_iter hk),rq,q⟩
def fQ (K:YD):R2:=λx y H Q=>∃a b ys,x=.ref a/\y=.ref b/\SqT K H a []/\SqT K H b ys/\Q (.ref b) H
theorem Zt:OpR X (binaryOp .Add) (fQ X.K):=by
 intro jb s σ H x y v u Q I rx ry h;obtain⟨a,b,ys,rfl,rfl,ha,hb,q⟩:=h;cases rx;cases ry;obtain⟨its,r1,p1,_⟩:=I.tuple ha;obtain⟨its2,r2,p2,_⟩:=I.tuple hb;cases r1;obtain⟨⟨cls,dd,data,sl⟩,ho,hc,n,hd⟩:=id p1;obtain⟨⟨cls2,dd2,data2,sl2⟩,ho2,hc2,n2,hd2⟩:=id p2;simp only at hc hd hc2 hd2;subst hc hd hc2 hd2;exact concat_meets ⟨_,ho,rq⟩ ⟨_,ho2,rq⟩ noFill_tuple_add seq_tuple_add PySem.F.slot_tuple_add PySem.F.entry_tuple_add (PySem.F.args_tuple_add_2 _ _)
  (tuple_addW0 a b #[] its2.toArray n n2 dd dd2 sl sl2 rfl) ⟨ho,ho2,⟨.ref b,H,I,rq,q⟩⟩
theorem Hz:OpR X (binaryOp .Add) (λx y H Q=>∃a b xs ys,x=.ref a/\y=.ref b/\H a=some (.tup xs)/\H b=some (.tup ys)/\xs.length+ys.length<=sizeLine /\
  ∀p H',H' p=some (.tup (xs++ys))->Same H H'->Q (.ref p) H'):=by
 intro jb s σ H x y v u Q I rx ry h;obtain⟨a,b,xs,ys,rfl,rfl,ha,hb,hz,q⟩:=h;cases xs with
 | nil=>exact Zt jb s σ H _ _ v u Q I rx ry ⟨a,b,ys,rfl,rfl,SqT.of ha,SqT.of hb,q b H hb (Same.refl H)⟩
 | cons x0 xr=>
  refine cQ jb s σ H _ _ v u Q I rx ry ⟨a,b,x0::xr,ys,rq,rq,SqT.of ha,SqT.of hb,(λz=>by cases z),hz,λz=>?_,λz p hp=>?_⟩
  ·subst z;exact q a H (by rw[QbE];exact ha) (Same.refl H)
  ·refine q p _ Ad λc o e=>?_;rw[Bk (Ay e hp)];exact e
mutual
inductive Rep (H:Hp):V->PyData->Prop
 | non:Rep H .non .none
 | bl (b:Bool):Rep H (.bl b) (.bool b)
 | int (i:Int):Rep H (.int i) (.int i)
 | str (x:Str):Rep H (.str x) (.str x)
 | tup {a:Addr} {xs:YG} {ds:List PyData}:H a=some (.tup xs)->Ai H xs ds->Rep H (.ref a) (.tuple ds)
 | lst {a:Addr} {xs:YG} {ds:List PyData}:H a=some (.lst xs)->Ai H xs ds->Rep H (.ref a) (.list ds)
inductive Ai (H:Hp):YG->List PyData->Prop
 | nil:Ai H [] []
 | cons {x:V} {d:PyData} {xs:YG} {ds:List PyData}:Rep H x d->Ai H xs ds->Ai H (x::xs) (d::ds)
end
mutual
theorem Rep.reads {P:Program} {w:World} {H:Hp} {h:Heap} (ok:HOk P w H h):∀{v:V} {d:PyData} {u:Value},Rep H v d->RelV v u->∃as,Reads h u d as
 | _,_,_,.non,r=>by cases (show _=Value.none from r);exact⟨_,.none⟩
 | _,_,_,.bl b,r=>by cases (show _=Value.bool b from r);exact⟨_,.bool b⟩
 | _,_,_,.int i,r=>by obtain⟨t,rfl⟩:=(show ∃t,_=Value.int i t from r);exact⟨_,.int i t⟩
 | _,_,_,.str x,r=>by obtain⟨t,rfl⟩:=(show ∃t,_=Value.str x t from r);exact⟨_,.str x t⟩
 | _,_,_,.tup (a:=a) (xs:=xs) e q,r=>by
  cases (show _=Value.ref a from r)
  obtain⟨_,its,rv,o,ho,hc,n,hd⟩:=(show Cm P w H h a (.tup xs) from ok a _ e)
  obtain⟨as,z⟩:=Ai.reads ok q rv;exact⟨_,.tuple ho hc hd (by simpa using z)⟩
 | _,_,_,.lst (a:=a) (xs:=xs) e q,r=>by
  cases (show _=Value.ref a from r)
  obtain⟨_,its,n,rv,ho⟩:=(show Cm P w H h a (.lst xs) from ok a _ e)
  obtain⟨as,z⟩:=Ai.reads ok q rv;exact⟨_,.list ho rfl rfl (by simpa using z)⟩
theorem Ai.reads {P:Program} {w:World} {H:Hp} {h:Heap} (ok:HOk P w H h):∀{xs:YG} {ds:List PyData} {us:YE},Ai H xs ds->Vals xs us->∃as,ReadsAll h us ds as
 | _,_,_,.nil,.nil=>⟨_,.nil⟩
 | _,_,_,.cons p q,.cons r t=>by
  obtain⟨as,a1⟩:=Rep.reads ok p r;obtain⟨bs,b1⟩:=Ai.reads ok q t;exact⟨_,.cons a1 b1⟩
end
theorem Fg (hu:X.A.units+64 < cLine):OpR X (compareOp .Eq) (λx y H Q=>∃d e,Rep H x d/\Rep H y e/\SeqAt.shaped d=true/\SeqAt.shaped e=true/\Q (.bl (PyData.eqv d e)) H):=by
 intro jb s σ H x y v u Q I rx ry h;obtain⟨d,e,p,p',sd,se,q⟩:=h;obtain⟨as,r1⟩:=p.reads I.hok rx;obtain⟨bs,r2⟩:=p'.reads I.hok ry;exact eq_dataH r1 r2 sd se hu ⟨.bl (PyData.eqv d e),H,I,rq,q⟩
end
structure Code (K:YD) (mg:YB) (x:Str) (st:Stmt) (ps:YF):Prop where
 ex:∃(f:Addr) (fd:FuncData),Fun K x x st f fd/\mg x=some (.ref f)/\Binds K fd ps []
structure Good (P:Program) (w:World) (K:YD) (mg:YB) (base:Heap) (x:Str) (k:Nat) (ps:YF) (sp:Sp):Prop where
 ex:∃(f:Addr) (fd:FuncData),mg x=some (.ref f)/\keepIn K (.ref f)=true/\Binds K fd ps []/\Ec P w K mg base CX0 k f fd ps sp
theorem Code.good {P:Program} {w:World} {K:YD} {mg:YB} {base:Heap} {x:Str} {st:Stmt} {ps N:YF} {k:Nat} {sp:Sp} (C:Code K mg x st ps) (S:Bq N ps (Ak st)) (len:∀vs H Q E,sp vs H Q E->vs.length=ps.length)
  (hbody:∀(f:Addr) (cdv:Value) (A:Around) (outer:List Env) (s:Shared) (H:Hp) (vs:YG) (Q:VK) (E:XK),Cy k (A.deeper (envOfC x (Ak st) s.heap.objs.size f cdv))->sp vs H Q E ->
   ∃t,PSs (MF CX0 P w K mg base N x (Ak st) f cdv A outer s H E).nox (CG st) t/\t { nx:=λ_ H'=>Q .non H',rt:=Q } (start N vs) H):Good P w K mg base x (k+1) ps sp:=by
 obtain⟨f,fd,F,m,b⟩:=C.ex;exact⟨f,fd,m,F.kp,b,F.ok S len λcdv A outer s H vs Q E hr h=>hbody f cdv A outer s H vs Q E hr h⟩
theorem Am {X:Cx} {k k':Nat} {ps:YF} {sp:Sp} {x:Str} {p pos:Pos} {e:Expr} {es:YJ} {t:TA} (g:Good X.prog X.w X.K X.mg X.base x k ps sp) (hr:Cy k' X.A) (ha:PA X (e::es) t) (hk:k<=k':=by decide) (hg:Gl X x:=by rfl)
  (hdb:(x == ("__debug__":Str))=false:=by decide) (he:starEach (e::es) X.env=(false,eval e X.env)::starEach es X.env:=by rfl) (hpl:(backTo pos (starEach es X.env)).any (·.1)=false:=by rfl) :
  PE X (.Call (.Name x p) (e::es) [] pos) (aR sp [] E0 t):=by
 intro jb s σ H Q I h;obtain⟨f,fd,m,kp,b,F⟩:=g.ex;exact cM F (hr.mono hk) hg m kp b .nil Wj ha hdb he hpl jb s σ H Q I h
theorem Code.of {K:YD} {mg:YB} {h:Heap} {x:Str} {st:Stmt} {ps:YF} {f:Addr} {oc:Value} {od an:Option Addr} {osl:YI} {kV doc pm cdv ct:Value} (X:K.In h) (G:h.Ns mainGlobals mg)
  (a:nsIn K mainGlobals x=some (some (.ref f))) (l:K.lookup f=some ⟨oc,od,.func (fnOf x x (Dk st) (CG st) (Ak st) .none kV doc pm an cdv ct),osl⟩) (c:codeIn K cdv x=true) (k:keepIn K (.ref f)=true)
  (hb:∀(kV doc pm:Value) (an:Option Addr) (cdv ct:Value) (us:YE),us.length=ps.length->bindArgs (fnOf x x (Dk st) (CG st) (Ak st) .none kV doc pm an cdv ct) ⟨us,[]⟩=pure (ps.zip us)):Code K mg x st ps:=by
 have F:=Pj (st:=st) l c k;exact⟨f,_,F,mg_of X G a,F.binds hb⟩
theorem Ae {H:Hp} {p:Addr} (h:H p=none) (o:HO):Same H (upd H p o):=λb u q=>by rw[Bk (Ay q h)];exact q
theorem Bx.plain {X:Cx} {N':YF} {sc:Scope} (kind:sc.kind=.function) (Jc:∀y∈sc.names,y.2≠.cell) (loc:∀y∈sc.names,y.2=.local->sc.names.lookup y.1=some .local) (Tt:∀y∈sc.names,y.2≠.free) :
  Bx X N' (N'.map λ_=>none) sc where
 kind:=kind
 Jc:=Jc
 loc:=loc
 fv:=λy hy e=>absurd e (Tt y hy)
 len:=by simp
 src:=λi x j _ e=>by
  rw[Qbc] at e;cases q:N'[i]? with
  | none=>rw[q] at e;cases e
  | some z=>rw[q] at e;cases e
theorem DP {K:YD} {a l:Addr} {xs:YG} {g:TG} {tt:TT} {te:TE} {Q:VK} {σ0:St} {H0:Hp} (Pv:YN)
  (h0:Pv 0 σ0 H0) (hl:∀i σ H',i<=xs.length->Pv i σ H'->SqT K H' a xs)
  (hs:∀i x σ H',xs[i]?=some x->Pv i σ H'->g x σ H' fun σ3 H3=>tt σ3 H3 λb H4=>if b=true then te σ3 H4 λy H5=>∃ys,H5 l=some (.lst ys)/\ys.length < sizeLine/\Pv (i+1) σ3 (upd H5 l (.lst (ys++[y]))) else Pv (i+1) σ3 H4)
  (hd:∀ σ H',Pv xs.length σ H'->Q (.ref l) H'):Ez (Itt K a) g tt te Q σ0 H0 l:=by
 unfold Ez;refine⟨λi m σ H'=>m=xs.length - i/\i<=xs.length/\Pv i σ H',⟨xs.length,by simp,Qci _,h0⟩,?_⟩;rintro i m σ H' ⟨rfl,hi,p⟩;have q:=hl i σ H' hi p;by_cases hlt:i < xs.length
 ·refine .inr ⟨⟨xs,xs[i],q,by simp[hlt]⟩,Pv (i+1),fun σ3 H3 p'=>⟨xs.length - (i+1),by omega,rq,hlt,p'⟩,λx H2 y=>?_⟩;obtain⟨e,y⟩:=y;subst e;exact hs i x σ _ (y xs q) p
 ·have e:i=xs.length:=by omega
  subst e;exact .inl ⟨⟨xs,q,Qch _⟩,hd σ H' p⟩
theorem MJ {K:YD} {a l:Addr} {xs:YG} {g:TG} {tt:TT} {te:TE} {Q:VK} {σ0:St} {H0:Hp} (Pv:YN)
  (h0:Pv 0 σ0 H0) (hl:∀i σ H',i<=xs.length->Pv i σ H'->SqL K H' a xs)
  (hs:∀i x σ H',xs[i]?=some x->Pv i σ H'->g x σ H' fun σ3 H3=>tt σ3 H3 λb H4=>if b=true then te σ3 H4 λy H5=>∃ys,H5 l=some (.lst ys)/\ys.length < sizeLine/\Pv (i+1) σ3 (upd H5 l (.lst (ys++[y]))) else Pv (i+1) σ3 H4)
  (hd:∀ σ H',Pv xs.length σ H'->Q (.ref l) H'):Ez (Itl K a) g tt te Q σ0 H0 l:=by
 unfold Ez;refine⟨λi m σ H'=>m=xs.length - i/\i<=xs.length/\Pv i σ H',⟨xs.length,by simp,Qci _,h0⟩,?_⟩;rintro i m σ H' ⟨rfl,hi,p⟩;have q:=hl i σ H' hi p;by_cases hlt:i < xs.length
 ·refine .inr ⟨⟨xs,xs[i],q,by simp[hlt]⟩,Pv (i+1),fun σ3 H3 p'=>⟨xs.length - (i+1),by omega,rq,hlt,p'⟩,λx H2 y=>?_⟩;obtain⟨e,y⟩:=y;subst e;exact hs i x σ _ (y xs q) p
 ·have e:i=xs.length:=by omega
  subst e;exact .inl ⟨⟨xs,q,Qch _⟩,hd σ H' p⟩
theorem Gb {lo:Int} {n:Nat} {l:Addr} {g:TG} {tt:TT} {te:TE} {Q:VK} {σ0:St} {H0:Hp} (Pv:YN) (h0:Pv 0 σ0 H0)
  (hs:∀i σ H',i < n->Pv i σ H'->g (.int (lo+i)) σ H' fun σ3 H3=>tt σ3 H3 λb H4=>if b=true then te σ3 H4 λy H5=>∃ys,H5 l=some (.lst ys)/\ys.length < sizeLine/\Pv (i+1) σ3 (upd H5 l (.lst (ys++[y]))) else Pv (i+1) σ3 H4)
  (hd:∀ σ H',Pv n σ H'->Q (.ref l) H'):Ez (Itr lo n) g tt te Q σ0 H0 l:=by
 unfold Ez;refine⟨λi m σ H'=>m=n - i/\i<=n/\Pv i σ H',⟨n,by simp,Qci _,h0⟩,?_⟩;rintro i m σ H' ⟨rfl,hi,p⟩;by_cases hlt:i < n
 ·refine .inr ⟨hlt,Pv (i+1),fun σ3 H3 p'=>⟨n - (i+1),by omega,rq,hlt,p'⟩,λx H2 y=>?_⟩;obtain⟨e,y⟩:=y;subst e y;exact hs i σ _ hlt p
 ·have e:i=n:=by omega
  subst e;exact .inl ⟨Qch _,hd σ H' p⟩
section
variable {X:Cx}
theorem Yt:∀{us:YE} {ns:List Int},IntsAre us ns->Vals (ns.map V.int) us:=λh=>LR h
end
section
variable {X:Cx} {tg:Expr}
end
end L2
namespace HT
open PySem PyProof.Rows
section
variable {prog:Program} {w:World} {A:Around} {E:YA} {s:Shared}
theorem Np {t sl:Addr} {items:Array Value} {vl vu:Value} {lo hi:Option Int} {Q:YA} (ht:IsTup s.heap t items) (hs:s.heap.IsSliceOf sl vl vu .none) (pl:IsPart vl lo) (pu:IsPart vu hi)
  (hw:sIx items.size 0 lo=0/\sIx items.size items.size hi=items.size) (h:Q (.ref t) s):wpAny (model prog w) A (getItem (.ref t) (.ref sl)) Q E s:=by
 obtain⟨os,hos,hcs,hds⟩:=id hs;have hTs:s.TypeIs (.ref sl) "slice":=⟨os,hos,hcs⟩;unfold getItem
 try with_reducible refine QbW ?_
 first | refine Qcl (Qcm ?_) | skip
 refine Qcl (wpAny_sequenceKey ht.typeIs (by decide) ?_);refine Qcl (Qam (name:=Str.ofString "__getitem__") ht.typeIs Qab (Qbr Qab ht.typeIs entry_tuple_getitem ?_ (args_tuple_getitem _ _)));show wpAny _ _ (Builtin.Tuple.tupleItemsOf (.ref t) >>= _) _ _ s;refine Qcl (tupleItemsOf_ ht ?_);refine Qcl (wpAny_typeOf hTs ?_);rw[if_pos (by decide)];refine Qcl (JB hs pl pu ?_);rw[hw.1,hw.2];show wpAny _ _ (if (((0:Nat):Int) == 0&&(1:Int) == 1&&(items.size - 0) == items.size)=true then _ else _) _ _ s
 rw[if_pos (by simp)];refine Qcl ?_;unfold Builtin.Tuple.tupleIsExact;refine Qcl (wpAny_typeOf ht.typeIs (Qcm ?_));rw[if_pos (by decide)];exact Qcl (Qco (Qcm ⟨_,rq,Qcm h⟩))
end
end HT
namespace L2
open PySem PySem.Spec PyProof.Rows
section
variable {X:Cx}
theorem GC:SlR X (λx lo hi H Q=>∃a xs,x=.ref a/\H a=some (.tup xs)/\∀p H',H' p=some (.tup (CZ xs lo hi))->Same H H'->Q (.ref p) H'):=by
 intro jb s σ H x v vl vu lo hi sl Q I rx hs pl pu h;obtain⟨a,xs,rfl,hx,q⟩:=h;by_cases hw:HT.sIx xs.length 0 lo=0/\HT.sIx xs.length xs.length hi=xs.length
 ·cases rx;obtain⟨its,r,ht,hz⟩:=I.tuple (SqT.of hx);have hlen:its.toArray.size=xs.length:=by rw[Qba];exact r.length.symm
  refine⟨"tuple",_,Qab.lookup,ht.typeIs,?_⟩;refine HT.Np ht hs pl pu (by rw[hlen];exact hw) ⟨.ref a,H,I,rq,q a H ?_ (Same.refl H)⟩;have e:CZ xs lo hi=xs:=by unfold CZ;rw[hw.1,hw.2];simp
  rw[e];exact hx
 ·exact eO jb s σ H _ v vl vu lo hi sl Q I rx hs pl pu ⟨a,xs,rq,SqT.of hx,hw,λp hp=>q p _ Ad (λc o e=>by rw[Bk (Ay e hp)];exact e)⟩
theorem eU:SlR X (λx lo hi H Q=>∃z,x=.str z/\z.length<=sizeLine/\Q (.str (Txt.slice z lo hi)) H):=by
 intro jb s σ H x v vl vu lo hi sl Q I rx hs pl pu h;obtain⟨z,rfl,hz,q⟩:=h;obtain⟨t,rfl⟩:=rx;refine⟨"str",_,F.slot_str_getitem.lookup,typeIs_str _ _ _,?_⟩;have fin:∀t' k,EP X jb σ Q (.str (Txt.slice z lo hi) t') { s with toks:=k }:=λt' k=>⟨.str (Txt.slice z lo hi),H,I.tok k,⟨t',rq⟩,q⟩;cases pl with
 | none=>
  cases pu with
  | none=>exact Qao (l:=none) (u:=none) (st:=none) hs rfl (post_val_or_str ⟨Qcd (Txt.slice_le z _ _) hz,fin⟩)
  | int j tj=>exact Qao (l:=none) (u:=some (j,tj)) (st:=none) hs rfl (post_val_or_str ⟨Qcd (Txt.slice_le z _ _) hz,fin⟩)
 | int i ti=>
  cases pu with
  | none=>exact Qao (l:=some (i,ti)) (u:=none) (st:=none) hs rfl (post_val_or_str ⟨Qcd (Txt.slice_le z _ _) hz,fin⟩)
  | int j tj=>exact Qao (l:=some (i,ti)) (u:=some (j,tj)) (st:=none) hs rfl (post_val_or_str ⟨Qcd (Txt.slice_le z _ _) hz,fin⟩)
end
structure RQ (K:YD) (C:Addr) (m qn:Str) (st:Stmt) (ps:YF):Prop where
 ex:∃(f:Addr) (fd:FuncData),Fun K m qn st f fd/\Meth K C m f/\Binds K fd ps []
structure RP (P:Program) (w:World) (K:YD) (mg:YB) (base:Heap) (C:Addr) (m:Str) (k:Nat) (ps:YF) (sp:Sp):Prop where
 ex:∃(f:Addr) (fd:FuncData),Meth K C m f/\Binds K fd ps []/\Ec P w K mg base CX0 k f fd ps sp
structure Xb (P:Program) (w:World) (K:YD) (mg:YB) (base:Heap) (C:Addr) (k:Nat) (ps:YF) (sp:Sp):Prop where
 ex:∃(f:Addr) (fd:FuncData),Mk K C f/\Binds K fd ps []/\Ec P w K mg base CX0 k f fd ps sp
theorem RQ.good {P:Program} {w:World} {K:YD} {mg:YB} {base:Heap} {C:Addr} {m qn:Str} {st:Stmt} {ps N:YF} {k:Nat} {sp:Sp} (c:RQ K C m qn st ps) (S:Bq N ps (Ak st)) (len:∀vs H Q E,sp vs H Q E->vs.length=ps.length)
  (hbody:∀(f:Addr) (cdv:Value) (A:Around) (outer:List Env) (s:Shared) (H:Hp) (vs:YG) (Q:VK) (E:XK),Cy k (A.deeper (envOfC qn (Ak st) s.heap.objs.size f cdv))->sp vs H Q E ->
   ∃t,PSs (MF CX0 P w K mg base N qn (Ak st) f cdv A outer s H E).nox (CG st) t/\t { nx:=λ_ H'=>Q .non H',rt:=Q } (start N vs) H):RP P w K mg base C m (k+1) ps sp:=by
 obtain⟨f,fd,F,M,b⟩:=c.ex;exact⟨f,fd,M,b,F.ok S len λcdv A outer s H vs Q E hr h=>hbody f cdv A outer s H vs Q E hr h⟩
theorem jC {X:Cx} {pl:Sem Bool} {k k':Nat} {C:Addr} {ps:YF} {sp:Sp} {m:Str} {apos pos:Pos} {o e:Expr} {es:YJ} {ta:TE} {t:TA} (he:PE X o ta) (c:Cls X.K C) (g:RP X.prog X.w X.K X.mg X.base C m k ps sp) (hr:Cy k' X.A) (ha:PA X (e::es) t) (hk:k<=k':=by decide)
  (hst:starEach (e::es) X.env=(false,eval e X.env)::starEach es X.env:=by rfl) (hpl:(backTo pos (starEach es X.env)).any (·.1)=false:=by rfl)
  (ht:eval (.Call (.Attribute o m apos) (e::es) [] pos) X.env=(do
   let ov <-eval o X.env
   standAt apos.atName
   let (f,first) <-holding [ov] (getMethod ov m pl)
   callWith pos f first (backTo pos (starEach (e::es) X.env)) (backToKw pos (keywordEach [] X.env))):=by rfl) :
  PE X (.Call (.Attribute o m apos) (e::es) [] pos) (aP C m sp [] E0 ta t):=by
 intro jb s σ H Q I h;obtain⟨f,fd,M,b,F⟩:=g.ex;exact cu (pl:=pl) he c M F (hr.mono hk) b .nil Wj ha hst hpl ht jb s σ H Q I h
theorem Wc {X:Cx} {k k':Nat} {C:Addr} {ps:YF} {sp:Sp} {x:Str} {p pos:Pos} {e:Expr} {es:YJ} {t:TA} (g:Xb X.prog X.w X.K X.mg X.base C k ps sp) (hr:Cy k' X.A) (hm:X.mg x=some (.ref C)) (ha:PA X (e::es) t) (hk:k+1<=k':=by decide) (hg:Gl X x:=by rfl)
  (hdb:(x == ("__debug__":Str))=false:=by decide) (he:starEach (e::es) X.env=(false,eval e X.env)::starEach es X.env:=by rfl) (hpl:(backTo pos (starEach es X.env)).any (·.1)=false:=by rfl) :
  PE X (.Call (.Name x p) (e::es) [] pos) (aQ C sp [] E0 t):=by
 intro jb s σ H Q I h;obtain⟨f,fd,M,b,F⟩:=g.ex;exact cH M F (hr.mono hk) hg hm b .nil Wj ha hdb he hpl jb s σ H Q I h
theorem O5 {X:Cx} {x:Str} {v:V} {pos:Pos} (hg:Gl X x) (hm:∃u,X.mg x=some u/\RelV v u) (hd:(x == ("__debug__":Str))=false:=by decide):PE X (.Name x pos) (tC v):=by
 obtain⟨u,h,r⟩:=hm;exact cJ hg h r hd
theorem Ui:∀{fs:List (Str×V)} {i:Nat} {f:Str} {v:V},(fs.map (·.1)).Nodup->fs[i]?=some (f,v)->fs.lookup f=some v
 | [],_,_,_,_,h=>by simp at h
 | (g,u)::fs,0,f,v,_,h=>by simp at h;obtain⟨rfl,rfl⟩:=h;simp[List.lookup]
 | (g,u)::fs,i+1,f,v,hn,h=>by
  rw[QbU,QbB] at hn;have h':fs[i]?=some (f,v):=by simpa using h
  have hm:f∈fs.map (·.1):=Qce.mpr ⟨(f,v),Qay h',rq⟩;have hne:(f == g)=false:=QaJ.mpr λe=>hn.1 (e ▸ hm);rw[List.lookup,hne];exact Ui hn.2 h'
theorem bF:∀{fs:List (Str×V)} {m:Str},m∉fs.map (·.1)->fs.lookup m=none
 | [],_,_=>rfl
 | (g,u)::fs,m,h=>by
  rw[QbU,QbS] at h;have hne:(m == g)=false:=QaJ.mpr λe=>h (.inl e);rw[List.lookup,hne];exact bF λz=>h (.inr z)
theorem YS {y:V}:∀{fs:List (Str×V)} {i:Nat} {f:Str} {v:V},(fs.map (·.1)).Nodup->fs[i]?=some (f,v)->DR f y fs=fs.set i (f,y)
 | [],_,_,_,_,h=>by simp at h
 | (g,u)::fs,0,f,v,_,h=>by
  simp at h;obtain⟨rfl,rfl⟩:=h;show (if g=g then (g,y)::fs else (g,u)::DR g y fs)=_
  rw[if_pos rfl];rfl
 | (g,u)::fs,i+1,f,v,hn,h=>by
  rw[QbU,QbB] at hn;have h':fs[i]?=some (f,v):=by simpa using h
  have hm:f∈fs.map (·.1):=Qce.mpr ⟨(f,v),Qay h',rq⟩;have hne:¬g=f:=λe=>hn.1 (by rw[show (g,u).fst=g from rfl,e];exact hm)
  show (if g=f then (g,y)::fs else (g,u)::DR f y fs)=_
  rw[if_neg hne,YS hn.2 h'];rfl
theorem Uh {y:V}:∀{fs:List (Str×V)} {f:Str},f∉fs.map (·.1)->DR f y fs=fs++[(f,y)]
 | [],_,_=>rfl
 | (g,u)::fs,f,h=>by
  rw[QbU,QbS] at h;show (if g=f then (g,y)::fs else (g,u)::DR f y fs)=_
  rw[if_neg λe=>h (.inl e.symm),Uh λz=>h (.inr z)];rfl
def BJ (H H':Hp):Prop:=∀c xs,H c=some (.tup xs)->H' c=some (.tup xs)
theorem BJ.refl (H:Hp):BJ H H:=λ_ _ e=>e
theorem BJ.trans {H H1 H2:Hp} (a:BJ H H1) (b:BJ H1 H2):BJ H H2:=λc xs e=>b c xs (a c xs e)
theorem BJ.of {H H1:Hp} (s:Same H H1):BJ H H1:=λc xs e=>s c _ e
theorem BJ.upd {H:Hp} {b:Addr} {o:HO} (h:∀xs,H b≠some (.tup xs)):BJ H (upd H b o):=λc xs e=>by
 have n:c≠b:=λz=>h xs (z ▸ e);rw[Bk n];exact e
def Ah (b:Addr) (H H':Hp):Prop:=∀c o,H c=some o->c≠b->H' c=some o
theorem Ah.trans {b:Addr} {H H1 H2:Hp} (x:Ah b H H1) (y:Ah b H1 H2):Ah b H H2:=λc o e n=>y c o (x c o e n) n
theorem Ah.of {b:Addr} {H H1:Hp} (x:Same H H1):Ah b H H1:=λc o e _=>x c o e
theorem Ah.refl (b:Addr) (H:Hp):Ah b H H:=λ_ _ e _=>e
theorem Ah.upd {b:Addr} {H:Hp} {o:HO}:Ah b H (upd H b o):=λc u e n=>by rw[Bk n];exact e
theorem Ah.tup {b:Addr} {H H':Hp} (x:Ah b H H') (h:∀xs,H b≠some (.tup xs)):BJ H H':=λc xs e=>x c _ e λz=>h xs (z ▸ e)
theorem Ah.free {b:Addr} {H H':Hp} (x:Ah b H H') (hb:∃o,H' b=some o) {l:Addr} (h:H' l=none):H l=none:=by
 cases e:H l with
 | none=>rfl
 | some o=>
  by_cases n:l=b
  ·obtain⟨o',e'⟩:=hb;rw[n,e'] at h;cases h
  ·rw[x l o e n] at h;cases h
def jw (K:YD) (ta tv:TE) (f:Str):TS:=λD σ H=>tv σ H λy H1=>ta σ H1 λx H2=>∃a C dx fs fs',x=.ref a/\H2 a=some (.ins C dx fs)/\Cls K C/\Jd K C f/\fs.length < 1000/\DR f y fs=fs' /\
 ∀H',H' a=some (.ins C dx fs')->Ah a H2 H'->D.nx σ H'
section
variable {X:Cx} {o e value:Expr} {f:Str} {pos pos' tpos:Pos} {ta tv:TE}
theorem PE.weak {ta ta':TE} (h:PE X e ta) (i:∀ σ H Q,ta' σ H Q->ta σ H Q):PE X e ta':=λjb s σ H Q I q=>h jb s σ H Q I (i σ H Q q)
theorem PX (ha:PE X o ta) (hv:PE X value tv) (hs:swapsWith value (some (.Attribute o f pos')) pos.line X.env=pure false):PS X (.Assign [.Attribute o f pos'] value pos) (jw X.K ta tv f):=by
 intro jb s σ H D I h;refine plainObj_wpAny_Assign_Attribute (thn (hv jb s σ H _ I h) λu s1 zz=>?_) hs;obtain⟨y,H1,I1,ry,q⟩:=zz;refine thn (ha jb s1 σ H1 _ I1 q) λov s2 zz=>?_;obtain⟨x,H2,I2,rx,a,C,dx,fs,fs',ex,ea,c,n,l,ep,q2⟩:=zz;subst ex;obtain rfl:ov=Value.ref a:=rx;refine V8 I2 ea c n l ry λs3 I3=>⟨σ,_,I3,q2 _ ?_ Ah.upd⟩;rw[Ad,ep]
end
theorem PS.weak {X:Cx} {s:Stmt} {t t':TS} (h:PS X s t) (i:∀D σ H,t' D σ H->t D σ H):PS X s t':=λjb sh σ H D I q=>h jb sh σ H D I (i D σ H q)
section
variable {X:Cx} {K:YD}
theorem Qu (h:X.K=K):IxR X (fO K):=h ▸ Az
theorem JW (h:X.K=K):IxR X (fP K):=h ▸ Bp
theorem O6 (h:X.K=K):OpR X (compareOp .In) (rIn K false):=h ▸ GP
end
end L2
namespace PySem
open Sem (wp)
section
variable {prog:Program} {w:World} {A:Around} {E:YA} {s:Shared}
end
end PySem
namespace L2
open PySem PySem.Spec PyProof.Rows
section
variable {X:Cx} {pos:Pos}
end
theorem QV {α : Type}:∀{l:List α} {i:Nat} {a:α},l.Nodup->a∉l->(l.set i a).Nodup
 | [],_,_,h,_=>by simpa using h
 | x::r,0,a,h,n=>by
  rw[QbB] at h;rw[List.set_cons_zero,QbB];exact⟨λz=>n (Qaz _ z),h.2⟩
 | x::r,i+1,a,h,n=>by
  rw[QbB] at h;rw[List.set_cons_succ,QbB];refine⟨λz=>?_,QV h.2 λz=>n (Qaz _ z)⟩;rcases List.mem_or_eq_of_mem_set z with z | z
  ·exact h.1 z
  ·exact n (z ▸ QaN)
structure Has (H:Hp) (l:List (Addr×HO)):Prop where
 nd:(l.map (·.1)).Nodup
 at_:∀x∈l,H x.1=some x.2
theorem Has.get {H:Hp} {l:List (Addr×HO)} (h:Has H l) {i:Nat} {a:Addr} {o:HO} (e:l[i]?=some (a,o)):H a=some o:=h.at_ (a,o) (Qay e)
theorem Has.same {H H':Hp} {l:List (Addr×HO)} (h:Has H l) (s:Same H H'):Has H' l:=⟨h.nd,λx hx=>s _ _ (h.at_ x hx)⟩
theorem Has.Jk {H H':Hp} {l:List (Addr×HO)} {b:Addr} (h:Has H l) (s:Ah b H H') (n:b∉l.map (·.1)):Has H' l:=⟨h.nd,λx hx=>s _ _ (h.at_ x hx) λz=>n (z ▸ Qce.mpr ⟨x,hx,rfl⟩)⟩
theorem Has.jF {H:Hp} {l:List (Addr×HO)} {a:Addr} (h:Has H l) (e:H a=none):a∉l.map (·.1):=λz=>by
 obtain⟨x,hx,rfl⟩:=Qce.mp z;rw[h.at_ x hx] at e;cases e
theorem map_set {l:List (Addr×HO)} {i:Nat} {a:Addr} {o:HO}:(l.set i (a,o)).map (·.1)=(l.map (·.1)).set i a:=by rw[List.map_set]
theorem Has.set {H H':Hp} {l:List (Addr×HO)} (h:Has H l) (i:Nat) {a:Addr} {o o':HO} (e:l[i]?=some (a,o)) (s:Ah a H H') (e':H' a=some o'):Has H' (l.set i (a,o')):=by
 have em:(l.map (·.1))[i]?=some a:=by rw[Qbc,e];rfl
 have hi:=(Qae.mp e).1;refine⟨?_,λx hx=>?_⟩
 ·rw[map_set];have:(l.map (·.1)).set i a=l.map (·.1):=by
   obtain⟨h1,h2⟩:=Qae.mp em;rw[<-h2];exact List.set_getElem_self h1
  rw[this];exact h.nd
 ·obtain⟨j,hj,ex⟩:=List.mem_iff_getElem.mp hx;rw[List.getElem_set] at ex;by_cases q:i=j
  ·rw[if_pos q] at ex;subst ex;exact e'
  ·rw[if_neg q] at ex;have hj':j < l.length:=by simpa using hj
   have hm:x∈l:=ex ▸ List.getElem_mem hj';refine s _ _ (h.at_ x hm) λz=>q ?_;have ej:(l.map (·.1))[j]?=some a:=by rw[Qbc,Qaj hj'];rw[<-z,<-ex];rfl
   obtain⟨h1,h2⟩:=Qae.mp em;obtain⟨h3,h4⟩:=Qae.mp ej;exact (List.getElem_inj h.nd).mp (h2.trans h4.symm)
theorem Has.put {H:Hp} {l:List (Addr×HO)} (h:Has H l) (i:Nat) {a:Addr} {o:HO} (n:a∉l.map (·.1)) (e:H a=some o):Has H (l.set i (a,o)):=by
 refine⟨by rw[map_set];exact QV h.nd n,λx hx=>?_⟩;rcases List.mem_or_eq_of_mem_set hx with z | z
 ·exact h.at_ x z
 ·rw[z];exact e
theorem Has.new {H H':Hp} {l:List (Addr×HO)} {a:Addr} {o:HO} (h:Has H l) (n:H a=none) (s:Same H H') (e:H' a=some o):Has H' (l++[(a,o)]):=by
 refine⟨?_,λx hx=>?_⟩
 ·rw[Qbx,List.nodup_append];refine⟨h.nd,by simp,λx hx y hy z=>?_⟩;have:y=a:=by simpa using hy
  subst this;exact h.jF n (z ▸ hx)
 ·rcases Qbz.mp hx with z | z
  ·exact s _ _ (h.at_ x z)
  ·have:x=(a,o):=by simpa using z
   subst this;exact e
theorem Has.nil (H:Hp):Has H []:=⟨QbP,λx hx=>by cases hx⟩
theorem Has.ne {H:Hp} {l:List (Addr×HO)} (h:Has H l) {i j:Nat} {a b:Addr} {o p:HO} (e:l[i]?=some (a,o)) (e':l[j]?=some (b,p)) (n:i≠j):a≠b:=λz=>by
 have ea:(l.map (·.1))[i]?=some a:=by rw[Qbc,e];rfl
 have eb:(l.map (·.1))[j]?=some a:=by rw[Qbc,e',z];rfl
 obtain⟨h1,h2⟩:=Qae.mp ea;obtain⟨h3,h4⟩:=Qae.mp eb;exact n ((List.getElem_inj h.nd).mp (h2.trans h4.symm))
theorem Same.CN {H0 H H':Hp} {a:Addr} (s:Same H0 H) (b:Ah a H H') (f:H0 a=none):Same H0 H':=λc o e=>b _ _ (s _ _ e) λz=>by rw[z,f] at e;cases e
section
variable {κ : Type} [DecidableEq κ]
def Je (kvs:List (κ×V)) (k:κ):Option V:=(kvs.find? λkv=>decide (kv.1=k)).map (·.2)
def putK (kvs:List (κ×V)) (k:κ) (v:V):List (κ×V):=
 if (kvs.any λkv=>decide (kv.1=k))=true then kvs.map (λkv=>if kv.1=k then (kv.1,v) else kv) else kvs++[(k,v)]
def bH (kvs:List (κ×V)) (k:κ):List (κ×V):=kvs.filter λkv=>decide (kv.1≠k)
theorem Nv {p:κ×V} {r:List (κ×V)} {k:κ} (e:p.1=k):Je (p::r) k=some p.2:=by simp[Je,QbH,e]
theorem Nx {p:κ×V} {r:List (κ×V)} {k:κ} (e:¬p.1=k):Je (p::r) k=Je r k:=by simp[Je,QbH,e]
theorem RT (k:κ):∀kvs:List (κ×V),(kvs.any λkv=>decide (kv.1=k))=(Je kvs k).isSome
 | []=>rfl
 | p::r=>by
  rw[QbY];by_cases e:p.1=k
  ·simp only[Nv e,QbM e,Bool.true_or,Option.isSome_some]
  ·rw[Nx e,Qby e,Bool.false_or];exact RT k r
theorem Gf.Yr {o:Option V} {u:Option Value} (r:Gf o u):o.isSome=u.isSome:=by
 cases o with
 | none=>cases u with
  | none=>rfl
  | some _=>exact (show False from r).elim
 | some _=>cases u with
  | none=>exact (show False from r).elim
  | some _=>rfl
theorem Gf.getD {o:Option V} {u:Option Value} {d:V} {d':Value} (r:Gf o u) (rd:RelV d d'):RelV (o.getD d) (u.getD d'):=by
 cases o with
 | none=>cases u with
  | none=>exact rd
  | some _=>exact (show False from r).elim
 | some _=>cases u with
  | none=>exact (show False from r).elim
  | some _=>exact r
theorem KV.val {kvs:List (κ×V)} {vs:List (κ×Value)} (r:KV kvs vs) (k:κ):Gf (Je kvs k) (valueAt vs k):=by
 unfold KV at r
 induction r with
 | nil=>exact True.intro
 | @cons p q ps qs h t ih=>
  obtain⟨h1,h2⟩:=h;by_cases e:p.1=k
  ·have e':q.1=k:=h1.symm.trans e;have b:valueAt (q::qs) k=some q.2:=by simp[valueAt,QbH,e']
   rw[Nv e,b];exact h2
  ·have e':¬q.1=k:=λz=>e (h1.trans z);have b:valueAt (q::qs) k=valueAt qs k:=by simp[valueAt,QbH,e']
   rw[Nx e,b];exact ih
theorem KV.any {kvs:List (κ×V)} {vs:List (κ×Value)} (r:KV kvs vs) (k:κ):(kvs.any λkv=>decide (kv.1=k))=vs.any λkv=>decide (kv.1=k):=by
 unfold KV at r
 induction r with
 | nil=>rfl
 | cons h t ih=>rw[QbY,QbY,ih,h.1]
theorem KV.repl {kvs:List (κ×V)} {vs:List (κ×Value)} (r:KV kvs vs) (k:κ) {y:V} {u:Value} (ry:RelV y u) :
  KV (kvs.map λkv=>if kv.1=k then (kv.1,y) else kv) (vs.map λkv=>if kv.1=k then (kv.1,u) else kv):=by
 unfold KV at r ⊢
 induction r with
 | nil=>exact .nil
 | @cons p q ps qs h t ih=>
  rw[QbU,QbU];refine .cons ?_ ih;obtain⟨h1,h2⟩:=h;by_cases e:p.1=k
  ·rw[if_pos e,if_pos (h1.symm.trans e)];exact⟨h1,ry⟩
  ·rw[if_neg e,if_neg (λz=>e (h1.trans z))];exact⟨h1,h2⟩
theorem KV.put {kvs:List (κ×V)} {vs:List (κ×Value)} (r:KV kvs vs) (k:κ) {y:V} {u:Value} (ry:RelV y u):KV (putK kvs k y) (stored vs k u):=by
 unfold putK stored;rw[r.any k];by_cases e:(vs.any λkv=>decide (kv.1=k))=true
 ·rw[if_pos e,if_pos e];exact r.repl k ry
 ·rw[if_neg e,if_neg e];exact Paired.snoc r ⟨rq,ry⟩
theorem KV.drop {kvs:List (κ×V)} {vs:List (κ×Value)} (r:KV kvs vs) (k:κ):KV (bH kvs k) (without vs k):=by
 unfold KV at r ⊢;unfold bH without
 induction r with
 | nil=>exact .nil
 | @cons p q ps qs h t ih=>
  obtain⟨h1,h2⟩:=h;rw[Qbs,Qbs];by_cases e:p.1=k
  ·have a:¬decide (p.1≠k)=true:=by simp[e]
   have b:¬decide (q.1≠k)=true:=by simp[h1.symm.trans e]
   rw[if_neg a,if_neg b];exact ih
  ·have e':¬q.1=k:=λz=>e (h1.trans z);have a:decide (p.1≠k)=true:=by simp[e]
   have b:decide (q.1≠k)=true:=by simp[e']
   rw[if_pos a,if_pos b];exact .cons ⟨h1,h2⟩ ih
theorem KV.length {kvs:List (κ×V)} {vs:List (κ×Value)} (r:KV kvs vs):kvs.length=vs.length:=QbX r
end
abbrev YL:=List (List Key×V)
abbrev KT (H:Hp):YL->List (List Key×Addr×Value)->Prop:=Paired λp q=>p.1=q.1/\H q.2.1=some (.tup (p.1.map kV))/\RelV p.2 q.2.2
theorem KT.val {H:Hp} {kvs:YL} {xs:List (List Key×Addr×Value)} (r:KT H kvs xs) (k:List Key):Gf (Je kvs k) ((atKey xs k).map (·.2)):=by
 induction r with
 | nil=>exact True.intro
 | @cons p q ps qs h t ih=>
  obtain⟨h1,_,h2⟩:=h;by_cases e:p.1=k
  ·have e':q.1=k:=h1.symm.trans e;have b:atKey (q::qs) k=some q.2:=by simp[atKey,QbH,e']
   rw[Nv e,b];exact h2
  ·have e':¬q.1=k:=λz=>e (h1.trans z);have b:atKey (q::qs) k=atKey qs k:=by simp[atKey,QbH,e']
   rw[Nx e,b];exact ih
theorem KT.repl {H:Hp} {kvs:YL} {xs:List (List Key×Addr×Value)} (r:KT H kvs xs) (k:List Key) {y:V} {u:Value} (ry:RelV y u) :
  KT H (kvs.map λkv=>if kv.1=k then (kv.1,y) else kv) (xs.map (putAt k u)):=by
 induction r with
 | nil=>exact .nil
 | @cons p q ps qs h t ih=>
  rw[QbU,QbU];refine .cons ?_ ih;obtain⟨h1,h2,h3⟩:=h;unfold putAt;by_cases e:p.1=k
  ·rw[if_pos e,if_pos (h1.symm.trans e)];exact⟨h1,h2,ry⟩
  ·rw[if_neg e,if_neg (λz=>e (h1.trans z))];exact⟨h1,h2,h3⟩
theorem KT.put {H:Hp} {kvs:YL} {xs:List (List Key×Addr×Value)} (r:KT H kvs xs) (k:List Key) {b:Addr} {y:V} {u:Value} (hb:H b=some (.tup (k.map kV))) (ry:RelV y u) :
  KT H (putK kvs k y) (storedH xs k b u):=by
 have e:(kvs.any λkv=>decide (kv.1=k))=(atKey xs k).isSome:=by
  rw[RT,(r.val k).Yr,Option.isSome_map]
 unfold putK storedH;rw[e];by_cases q:(atKey xs k).isSome=true
 ·rw[if_pos q,if_pos q];exact r.repl k ry
 ·rw[if_neg q,if_neg q];exact Paired.snoc r ⟨rq,hb,ry⟩
theorem KT.keeps {H H':Hp} {kvs:YL} {xs:List (List Key×Addr×Value)} (r:KT H kvs xs) (ht:∀b ys,H b=some (.tup ys)->H' b=some (.tup ys)):KT H' kvs xs:=
 Paired.TQ r λ_ _ z=>⟨z.1,ht _ _ z.2.1,z.2.2⟩
section
variable {P:Program} {w:World} {H:Hp} {h:Heap} {a:Addr}
end
def Xd (H:Hp) (a:Addr) (y:V) (r:Option V):Prop:=
 (∃kvs k,Rd H a (.dK kvs)/\y=kV k/\r=Je kvs k)\/∃kvs k b,Rd H a (.dT kvs)/\y=.ref b/\H b=some (.tup (k.map kV))/\r=Je kvs k
def Xc (H:Hp) (a:Addr) (y v:V) (H':Hp):Prop:=
 (∃kvs k,H a=some (.dK kvs)/\y=kV k/\kvs.length < sizeLine/\H'=upd H a (.dK (putK kvs k v))) \/
 ∃kvs k b,H a=some (.dT kvs)/\y=.ref b/\H b=some (.tup (k.map kV))/\kvs.length < sizeLine/\H'=upd H a (.dT (putK kvs k v))
abbrev YM:=List (Key×V)
theorem Xd.k {H:Hp} {a:Addr} {kvs:YM} {k:Key} (e:H a=some (.dK kvs)):Xd H a (kV k) (Je kvs k):=.inl ⟨kvs,k,.inl e,rfl,rfl⟩
theorem Xd.t {H:Hp} {a b:Addr} {kvs:YL} {k:List Key} (e:H a=some (.dT kvs)) (eb:H b=some (.tup (k.map kV))):Xd H a (.ref b) (Je kvs k):=.inr ⟨kvs,k,b,.inl e,rfl,eb,rfl⟩
theorem Xc.k {H:Hp} {a:Addr} {kvs:YM} {k:Key} {v:V} (e:H a=some (.dK kvs)) (hl:kvs.length < sizeLine):Xc H a (kV k) v (upd H a (.dK (putK kvs k v))):=.inl ⟨kvs,k,e,rfl,hl,rfl⟩
theorem Xc.t {H:Hp} {a b:Addr} {kvs:YL} {k:List Key} {v:V} (e:H a=some (.dT kvs)) (eb:H b=some (.tup (k.map kV))) (hl:kvs.length < sizeLine) :
  Xc H a (.ref b) v (upd H a (.dT (putK kvs k v))):=.inr ⟨kvs,k,b,e,rq,eb,hl,rq⟩
section
variable {X:Cx} {jb:YC} {σ : St} {H:Hp} {s:Shared} {a:Addr} {y v:V} {u r:Value} {o:Option V} {A:Around} {E:YA}
end
section
variable {X:Cx} {jb:YC} {σ : St} {H:Hp} {s:Shared} {a:Addr} {kvs:YM} {k:Key} {u:Value} {A:Around} {E:YA}
end
section
variable {X:Cx} {o i e value:Expr} {pos pos' tpos:Pos} {td ty tv:TE}
end
section
variable {X:Cx} {pos:Pos}
end
section
variable {X:Cx} {jb:YC} {σ : St} {H:Hp} {s:Shared} {a:Addr} {y d:V} {u r:Value} {o:Option V} {A:Around} {E:YA}
end
section
variable {X:Cx} {o e f:Expr} {apos cpos:Pos} {td ty tx:TE}
end
section
variable {X:Cx} {jb:YC} {σ : St} {H:Hp} {s:Shared} {a:Addr} {kvs:YM} {A:Around} {E:YA}
end
section
variable {X:Cx} {jb:YC} {σ : St} {H:Hp} {s:Shared} {a:Addr} {y:V} {u:Value} {A:Around} {E:YA}
end
section
variable {X:Cx}
end
section
variable {κ : Type} [DecidableEq κ]
end
end L2
namespace PySem
open Sem (wp)
section
variable {prog:Program} {w:World} {A:Around} {E:YA} {s:Shared}
theorem Kh {it l:Addr} {i:Nat} {items:Array Value} {x:Value} {Q:YA} (hit:s.heap.IsTupleIter it l i) (hl:s.heap.IsTuple l items) (hx:items[i]?=some x)
  (hQ:∀h',h'.IsTupleIter it l (i+1)->Heap.SameBut it s.heap h'->Q x { s with heap:=h' }):wpAny (model prog w) A (Builtin.SmallTypes.nextOf (.ref it)) Q E s:=by
 obtain⟨o,ho,hc,hd⟩:=id hit;obtain⟨ol,hol,_,nl,hdl⟩:=hl;unfold Builtin.SmallTypes.nextOf;refine Qcl (Qam (name:=Str.ofString "__next__") hit.typeIs Qaa (Qbr Qaa hit.typeIs PyProof.Rows.entry_tupleiter_next ?_ (PyProof.Rows.args_tupleiter_next _)));show wpAny _ _ (field (.ref it) 0 >>= _) _ _ s;refine Qcl (Qcj ho hd (x:=.ref l) rfl ?_);show wpAny _ _ (if (Value.ref l == Value.none)=true then _ else _) _ _ s
 rw[if_neg (show ¬((Value.ref l == Value.none)=true) from QaO)]
 show wpAny _ _ (field (.ref it) 1 >>= _) _ _ s;refine Qcl (Qcj ho hd (x:=.int i 0) rfl ?_);show wpAny _ _ (seqItems? (.ref l) >>= _) _ _ s;refine Qcl (QbQ hol hdl ?_);simp only[Qbe,hx];refine Qcl (wpAny_setField ho hd (by simp) (Qcm ⟨x,rq,Qcm (hQ _ ?_ (QaG ..))⟩));exact⟨_,Qaw _ ho (Obj.isFreed_of_fields (Obj.data_mapFields hd _)),(Obj.cls_mapFields ..).trans hc,by rw[Obj.data_mapFields hd];simp[rawInt]⟩
theorem Ia {it l:Addr} {i:Nat} {items:Array Value} {Q:YA} (hh:A.handled=none) (hit:s.heap.IsTupleIter it l i) (hl:s.heap.IsTuple l items) (hx:items[i]?=none)
  (hE:∀h' e,Heap.ExtBut it s.heap h'->(∃o,h'.get? e=some o/\o.cls=.type "StopIteration")->E (.ref e) { s with heap:=h' }):wpAny (model prog w) A (Builtin.SmallTypes.nextOf (.ref it)) Q E s:=by
 obtain⟨o,ho,hc,hd⟩:=id hit;obtain⟨ol,hol,_,nl,hdl⟩:=hl;unfold Builtin.SmallTypes.nextOf;refine Qcl (Qam (name:=Str.ofString "__next__") hit.typeIs Qaa (Qbr Qaa hit.typeIs PyProof.Rows.entry_tupleiter_next ?_ (PyProof.Rows.args_tupleiter_next _)));show wpAny _ _ (field (.ref it) 0 >>= _) _ _ s;refine Qcl (Qcj ho hd (x:=.ref l) rfl ?_);show wpAny _ _ (if (Value.ref l == Value.none)=true then _ else _) _ _ s
 rw[if_neg (show ¬((Value.ref l == Value.none)=true) from QaO)]
 show wpAny _ _ (field (.ref it) 1 >>= _) _ _ s;refine Qcl (Qcj ho hd (x:=.int i 0) rfl ?_);show wpAny _ _ (seqItems? (.ref l) >>= _) _ _ s;refine Qcl (QbQ hol hdl ?_);simp only[Qbe,hx];refine Qcl (Qco (Qcl (wpAny_setField ho hd (by simp) ?_)));show wpAny _ _ (newExc (.type "StopIteration") [] >>= _) _ _ _;refine Qcl ?_;simp only[newExc,newTuple];refine Qcl (Qbd ?_ (by size_fits));refine Qcl (m:=firstArgMember _ _) (wpAny_of_eq (a:=Value.none) (by first | rfl | (simp only[firstArgMember];rfl)) ?_)
 refine Qbd ?_ (by size_fits);simp only[raiseNew];refine Qcl (wpAny_handled ?_)
 first | rw[show A.in1.handled=none from hh] | rw[hh]
 refine Qcl (Qcm (wpAny_throw ?_));exact hE _ _ (((QaG ..).extBut.push _).push _) ⟨_,QaE _ rfl,rq⟩
theorem Uj {e it l:Addr} {i:Nat} {j:Int} {items:Array Value} {old:Value} {Q:Option Value->Shared->Prop} (hh:A.handled=none) (he:IsEnum s.heap e it j old) (hit:s.heap.IsTupleIter it l i) (hl:s.heap.IsTuple l items) (hx:items[i]?=none)
  (hQ:∀h',Heap.ExtBut it s.heap h'->Q none { s with heap:=h' }):wpAny (model prog w) A (pyNext (.ref e)) Q E s:=by
 have hT:s.TypeIs (.ref e) "enumerate":=⟨_,he,rq⟩;unfold pyNext;refine Qcl (Qca (Qam (name:=Str.ofString "__next__") hT F.slot_enumerate_next (Qbr F.slot_enumerate_next hT F.entry_enumerate_next ?_ (F.args_enumerate_next_1 _))));show wpAny _ _ (field (.ref e) 2 >>= _) _ _ _;refine Qcl (Qcj he rfl (x:=.ref it) rfl (Qcl (Ia hh hit hl hx λh' x he' hx'=>?_)));obtain⟨o,ho,hc⟩:=hx';exact Qcl (wpAny_isInstance (T:="StopIteration") (b:=true) ⟨o,ho,hc⟩ isSubtype_stop (Qcm (hQ _ he')))
end
theorem Draws.tup {prog:Program} {w:World} {A:Around} (hh:A.handled=none) (it l:Addr) (hne:l≠it) (items:Array Value) :
  Draws prog w A it [it,l] items.size (λi v=>items[i]?=some v) (λi h=>h.IsTupleIter it l i/\h.IsTuple l items) where
 live:=λ_ _ st=>let ⟨o,ho,_⟩:=st.1;⟨o,ho⟩
 frame:=λ_ _ _ st hk=>⟨st.1.at λo e=>hk it (by simp) o e,let ⟨o,e,r⟩:=st.2;⟨o,hk l (by simp) o e,r⟩⟩
 item:=λi s Q E hi st hQ=>Kh st.1 st.2 (x:=items[i]) (by simp[hi]) λh' hit' hs'=>hQ _ h' s.toks (by simp[hi]) ⟨hit',let ⟨o,e,r⟩:=st.2;⟨o,hs'.extBut _ _ hne e,r⟩⟩ hs'
 done:=λs Q E st hE=>Ia hh st.1 st.2 (by simp) hE
theorem Draws.from {prog:Program} {w:World} {A:Around} {it:Addr} {fp:List Addr} {n:Nat} {P:Nat->Value->Prop} {St:Nat->Heap->Prop} (D:Draws prog w A it fp n P St) (k:Nat) :
  Draws prog w A it fp (k+n) (λj v=>∃i,j=k+i/\P i v) (λj h=>∃i,j=k+i/\i<=n/\St i h) where
 live:=λ_ _ ⟨i,_,_,st⟩=>D.live i _ st
 frame:=λ_ _ _ ⟨i,e,hi,st⟩ hk=>⟨i,e,hi,D.frame i _ _ st hk⟩
 item:=λj s Q E hj ⟨i,e,hi,st⟩ hQ=>D.item i s Q E (by omega) st λx h' tk p st' sb=>hQ x h' tk ⟨i,e,p⟩ ⟨i+1,by omega,by omega,st'⟩ sb
 done:=λs Q E ⟨i,e,hi,st⟩ hE=>by
  have:i=n:=by omega
  subst this;exact D.done s Q E st hE
end PySem
namespace L2
open PySem PySem.Spec PyProof.Rows
section
variable {X:Cx} {jb:YC} {σ : St} {H:Hp} {s:Shared} {h':Heap}
theorem Inv.Ma {t':Nat} {fp:List Addr} {t:Addr} {o:HO} (I:Inv X jb σ H s) (ht:s.heap.objs.size<=t) (k:∀b u,b∉fp->s.heap.get? b=some u->h'.get? b=some u) (hf:∀b∈fp,Ii X jb H b) (new:Cm X.prog X.w (upd H t o) h' t o) :
  Inv X jb σ (upd H t o) { s with heap:=h',toks:=t' }:=by
 have nt:=I.hok.fresh ht;have old:∀b u,s.heap.get? b=some u->b≠t:=λb u e z=>absurd (QaP (Qcb e) ht) (by rw[z];exact QbV _);have nf:∀b u,H b=some u->b∉fp:=λb u e z=>by rw[(hf b z).1] at e;cases e
 have tr:∀b u,H b=some u->(upd H t o) b=some u:=λb u e=>by rw[Bk (Ay e nt)];exact e
 refine I.step (g':=s.gens) (d':=s.drawn) (ch:=fp) (λb hb=>?_) (λb u _ _ hc e _=>k b u hc e) (λb u _ _ hc e _=>⟨u.slots,k b u hc e⟩) (λb u hc e n=>by rw[Bk (old b u e)];exact n)
  (λb u hc e=>⟨u,k b u hc e⟩) (λ_ _ e=>tr _ _ e) (λ_ _ _ e=>tr _ _ e) (λb ps e=>⟨#[],by rw[tr _ _ e];simp⟩) (λm hm=>?_) (λb u e=>?_) I.bare
 ·obtain⟨_,f1,_,f3,f4,f5⟩:=hf b hb;exact⟨f3,f1,f4,f5⟩
 ·obtain⟨u,es,ep,hu,r⟩:=hm;exact⟨u,es,ep,k _ u (λz=>(hf _ z).2.1 rfl) hu,r⟩
 ·by_cases hb:b=t
  ·subst hb;rw[Ad] at e;cases e;exact new
  ·rw[Bk hb] at e;refine (I.hok b u e).stay (λc v hc q=>k c v ?_ q) (λc q=>tr _ _ q) λc xs q=>tr _ _ q;rcases hc with z | z
   ·rw[z];exact nf b u e
   ·exact nf c _ z
theorem Inv.Pr {t':Nat} {fp:List Addr} (I:Inv X jb σ H s) (k:∀b u,b∉fp->s.heap.get? b=some u->h'.get? b=some u) (hf:∀b∈fp,Ii X jb H b):Inv X jb σ H { s with heap:=h',toks:=t' }:=by
 have nf:∀b u,H b=some u->b∉fp:=λb u e z=>by rw[(hf b z).1] at e;cases e
 refine I.step (g':=s.gens) (d':=s.drawn) (ch:=fp) (λb hb=>?_) (λb u _ _ hc e _=>k b u hc e) (λb u _ _ hc e _=>⟨u.slots,k b u hc e⟩) (λb u hc e n=>n)
  (λb u hc e=>⟨u,k b u hc e⟩) (λ_ _ e=>e) (λ_ _ _ e=>e) (λb ps e=>⟨#[],by rw[e];simp⟩) (λm hm=>?_) (λb u e=>?_) I.bare
 ·obtain⟨_,f1,_,f3,f4,f5⟩:=hf b hb;exact⟨f3,f1,f4,f5⟩
 ·obtain⟨u,es,ep,hu,r⟩:=hm;exact⟨u,es,ep,k _ u (λz=>(hf _ z).2.1 rfl) hu,r⟩
 ·refine (I.hok b u e).stay (λc v hc q=>k c v ?_ q) (λ_ q=>q) λ_ _ q=>q;rcases hc with z | z
  ·rw[z];exact nf b u e
  ·exact nf c _ z
end
def Lw (K:YD) (a:Addr) (lo:Nat):It:=
 ⟨λi H=>∃xs x,SqT K H a xs/\xs[i]?=some x,λi H v H'=>∃p x,H p=none/\v=.ref p/\H'=upd H p (.tup [.int ((lo+i:Nat):Int),x])/\∀xs,SqT K H a xs->xs[i]?=some x,λi H=>∃xs,SqT K H a xs/\xs.length<=i⟩
theorem VP {P:Program} {w:World} {K:YD} {elts:YJ} {k:Nat} {pos:Pos} (a e it:Addr) (lo:Nat) (nei:e≠it):Turn P w K (.Tuple elts k pos) (Lw K a lo) [e,it] e (λi h=>(∃old,IsEnum h e it ((lo+i:Nat):Int) old)/\h.IsTupleIter it a i) where
 mem:=by simp
 obj:=λi h st b hb=>by
  obtain⟨⟨old,he⟩,o,ho,hc,hd⟩:=st;rcases QbS.mp hb with rfl | hb
  ·exact⟨_,he,λv z=>by cases (show Data.fields _=Data.cell v from z)⟩
  ·have:b=it:=by simpa using hb
   subst this;exact⟨o,ho,λv z=>by rw[hd] at z;cases z⟩
 keep:=λi h h' st k=>by
  obtain⟨⟨old,he⟩,hi⟩:=st;exact⟨⟨old,k e (by simp) _ he⟩,hi.at λo q=>k it (by simp) o q⟩
 item:=by
  intro X hP hw hK hc i jb s σ H E I hf st hg;subst hP hw hK;obtain⟨xs,x,hq,hx⟩:=hg;obtain⟨its,rv,p,hz⟩:=I.tuple hq;obtain⟨u,hu,ru⟩:=rv.get hx;obtain⟨⟨old,he⟩,hit⟩:=st;have hts:s.heap.IsTuple a its.toArray:=p;have ane:a≠e:=λz=>by
   obtain⟨o,ho,hcl,_⟩:=hts;rw[z,he] at ho;cases ho;injection hcl with q;exact absurd q (by decide)
  have ani:a≠it:=λz=>by
   obtain⟨o,ho,hcl,_⟩:=hts;obtain⟨o',ho',hcl',_⟩:=hit;rw[z,ho'] at ho;cases ho;rw[hcl'] at hcl;injection hcl with q;exact absurd q (by decide)
  have hlt:i < its.toArray.size:=by
   have:=(Qae.mp hu).1;simpa using this
  have D:=(Draws.tup (prog:=X.prog) (w:=X.w) (A:=X.A.in1) (I.ok.hd hc) it a ani its.toArray).from lo;refine wpAny_pyNext_enum_itemD D he ⟨i,rq,Qcg hlt,hit,hts⟩ (by omega) nei (by simp[nei,ane.symm]) λy h1 tk hP ho hst hT hsz hk=>?_;obtain⟨i',ei,hy⟩:=hP;have:i'=i:=by omega
  subst this;have ey:y=u:=by
   have h2:its.toArray[i']?=some u:=by simpa using hu
   rw[h2] at hy;exact (QbA hy).symm
  subst ey;refine⟨_,rq,wpAny_letOwnedTupleGo_enum ho λh2 he2 hs2=>?_⟩;have hlt2:s.heap.objs.size≠e:=Qcf (Qcb he);have hT2:h2.get? s.heap.objs.size=some { cls:=.type "tuple",data:=.seq #[.int ((lo+i':Nat):Int) tk,y] }:=(hs2.2 _ hlt2).trans hT;have new:Cm X.prog X.w (upd H s.heap.objs.size (.tup [.int ((lo+i':Nat):Int),x])) h2 s.heap.objs.size (.tup [.int ((lo+i':Nat):Int),x]):=
   ⟨by show 2<=sizeLine;decide,[.int ((lo+i':Nat):Int) tk,y],.cons ⟨tk,rq⟩ (.cons ru .nil),_,hT2,rq,0,rq⟩
  have I1:=I.Ma (h':=h2) (t':=tk+1) (Qch _) (λb q hb z=>(hs2.2 b (λw=>hb (by simp[w]))).trans (hk b q (λw=>hb (by simp[w])) (λw=>hb (by simp[w])) z)) hf new;refine⟨.ref s.heap.objs.size,_,I1,rq,⟨s.heap.objs.size,x,I.hok.fresh (Qch _),rq,rq,λys hy'=>by rw[I.QK hy' hq];exact hx⟩,⟨⟨y,?_⟩,?_⟩,λb hb=>?_⟩
  ·have:=he2;rw[show ((lo+(i'+1):Nat):Int)=((lo+i':Nat):Int)+1 by omega];exact this
  ·obtain⟨i2,e2,_,st2,_⟩:=hst;have:i2=i'+1:=by omega
   subst this;exact st2.at λo q=>(hs2.2 it (Ne.symm nei)).trans q
  ·have hb':b < s.heap.objs.size:=by
    rcases QbS.mp hb with rfl | hb
    ·exact Qcb he
    ·have:b=it:=by simpa using hb
     subst this;obtain⟨o,ho',_⟩:=hit;exact Qcb ho'
   rw[Bk (Qcc hb')];exact (hf b hb).1
 done:=by
  intro X hP hw hK hc i jb s σ H E I hf st hg;subst hP hw hK;obtain⟨xs,hq,hx⟩:=hg;obtain⟨its,rv,p,hz⟩:=I.tuple hq;obtain⟨⟨old,he⟩,hit⟩:=st;have hl:=rv.length;exact Uj (I.ok.hd hc) he hit (show s.heap.IsTuple a its.toArray from p) (by simp;omega) λh' eb=>⟨rq,I.Pr (t':=s.toks) (λb o hb q=>eb b o (λz=>hb (by simp[z])) q) hf⟩
 self:=λ_ _ _ _ _ st h=>let ⟨⟨_,he⟩,_⟩:=st;wpAny_pyIter_enum he h
end L2
namespace PySem
open Sem (wp)
open AutoSeq1 (wpAny_loadPart')
theorem Qm (l:Addr) (items:Array Value) (n:Nat) (dct:Option Addr) (sl:YI) :
  Meets (Builtin.«enumerate.__new__» ⟨[.type "enumerate",.ref l],[]⟩) (λ_ R s=>s.heap.get? l=some { cls:=.type "tuple",dict:=dct,data:=.seq items n,slots:=sl } /\
   R (.ok (.ret (.ref (s.heap.push { cls:=.type "tuple_iterator",data:=.fields #[.ref l,.int 0 0] }).objs.size)))
    { s with heap:=(s.heap.push { cls:=.type "tuple_iterator",data:=.fields #[.ref l,.int 0 0] }).push { cls:=.type "enumerate",data:=.fields #[.none,.bool false,.ref s.heap.objs.size,rawInt 0,.none,.none] } }):=
 .of_wp λprog w A R s h=>by
  obtain⟨hp,g,d,tk,os⟩:=s;obtain⟨hl,h⟩:=h;have hsub:=sub_enumerate;have hL:Heap.IsTuple (Shared.heap ⟨hp,g,d,tk,os⟩) l items:=⟨_,hl,rq,n,rq⟩
  wp_walk using wpAny_loadPart' hl
  refine wpAny_stack_any λst=>Qcm ?_;split
  ·rename_i c _ _ _ _ _;cases (c == Value.type "enumerate")
   ·wp_walk using wpAny_loadPart' hl,QaU hL
    exact⟨_,rq,h⟩
   ·wp_walk using wpAny_loadPart' hl,QaU hL
    exact⟨_,rq,h⟩
  ·wp_walk using wpAny_loadPart' hl,QaU hL
   exact⟨_,rq,h⟩
end PySem
namespace PySem
open Sem (wp)
section
variable {prog:Program} {w:World} {A:Around} {E:YA} {s:Shared}
end
end PySem
namespace PyProof.Rows
open PySem
section
variable {M:Model} {A:Around} {E:YA} {s:Shared} {env:Env}
end
end PyProof.Rows
namespace L2
open PySem PySem.Spec PyProof.Rows
section
variable {X:Cx}
theorem dF {jb:YC} {σ : St} {H:Hp} {s:Shared} {R:It->Hp->Prop} {E:YA} {elts:YJ} {k:Nat} {pos:Pos} {a:Addr} {lo:Nat} {tk:Nat} (I:Inv X jb σ H s) (q:R (Lw X.K a lo) H) :
  wpAny (model X.prog X.w) X.A (pyIter (.ref (s.heap.objs.size+1))) (PIE X jb σ (.Tuple elts k pos) R) E
   { s with heap:=(s.heap.push { cls:=.type "tuple_iterator",data:=.fields #[.ref a,.int 0 0] }).push { cls:=.type "enumerate",data:=.fields #[.none,.bool false,.ref s.heap.objs.size,rawInt (lo:Int),.none,.none] },toks:=tk }:=by
 have hz:(s.heap.push { cls:=.type "tuple_iterator",data:=.fields #[.ref a,.int 0 0] }).objs.size=s.heap.objs.size+1:=QbN ..;have he:IsEnum ((s.heap.push { cls:=.type "tuple_iterator",data:=.fields #[.ref a,.int 0 0] }).push { cls:=.type "enumerate",data:=.fields #[.none,.bool false,.ref s.heap.objs.size,rawInt (lo:Int),.none,.none] }) (s.heap.objs.size+1) s.heap.objs.size (lo:Int) .none:=by
  have:=QaE (s.heap.push { cls:=.type "tuple_iterator",data:=.fields #[.ref a,.int 0 0] }) (o:={ cls:=.type "enumerate",data:=.fields #[.none,.bool false,.ref s.heap.objs.size,rawInt (lo:Int),.none,.none] }) rfl;rw[hz] at this;exact this
 refine wpAny_pyIter_enum he ⟨s.heap.objs.size+1,[s.heap.objs.size+1,s.heap.objs.size],_,_,H,rq,I.kept (t':=tk) λb o e=>Qaq _ (Qaq _ e),VP a (s.heap.objs.size+1) s.heap.objs.size lo (Nat.succ_ne_self _),⟨⟨.none,he⟩,⟨_,Qaq _ (QaE _ rfl),rq,rq⟩⟩,λb hb=>?_,q⟩;have hb':s.heap.objs.size<=b:=by
  simp only[QbS,Qbl,Qcq] at hb;rcases hb with rfl | rfl
  ·exact Qck _
  ·exact Qch _
 exact I.Qx hb' (I.hok.fresh hb')
end
section
variable {X:Cx}
def jL (K:YD) (lo:Nat) (tl:TE):TI:=fun σ H R=>tl σ H λx H1=>∃a,x=.ref a/\(∃xs,SqT K H1 a xs)/\R (Lw K a lo) H1
theorem W4 {jb:YC} {σ : St} {H:Hp} {s:Shared} {R:It->Hp->Prop} {elts:YJ} {k:Nat} {pos:Pos} {a:Addr} {xs:YG} (I:Inv X jb σ H s) (hq:SqT X.K H a xs) (q:R (Lw X.K a 0) H) :
  wpAny (model X.prog X.w) X.A (call (.type "enumerate") [.ref a]) (λv s1=>wpAny (model X.prog X.w) X.A (pyIter v) (PIE X jb σ (.Tuple elts k pos) R) X.xe s1) X.xe s:=by
 obtain⟨its,rv,p,hz⟩:=I.tuple hq;obtain⟨⟨c,dct,dt,sl⟩,hl,hc,n,hd⟩:=id p;replace hc:c=.type "tuple":=hc;replace hd:dt=.seq its.toArray n:=hd;subst hc hd;refine callType_new F.called_enumerate (by decide) (F.typeCall_enumerate_1 _) (F.newCall_enumerate_1 _) (λobj=>F.args_object_init_2 obj _) F.entry_enumerate_new (Qm a its.toArray n dct sl) ⟨hl,?_⟩;have hz:(s.heap.push { cls:=.type "tuple_iterator",data:=.fields #[.ref a,.int 0 0] }).objs.size=s.heap.objs.size+1:=QbN ..;show _/\_;refine⟨⟨_,QaE _ rfl,rq⟩,?_⟩;rw[hz];exact dF (lo:=0) (tk:=s.toks) I q
end
section
variable {X:Cx}
theorem Te {x:Expr} {tx:TE} {p pos tp:Pos} {elts:YJ} {k:Nat} (hg:Gl X "enumerate") (hm:X.mg "enumerate"=none) (hl:PE X x tx) (hs:starEach [x] X.env=[(false,eval x X.env)]:=by rfl):PI X (.Tuple elts k tp) (.Call (.Name "enumerate" p) [x] [] pos) (jL X.K 0 tx):=by
 intro jb s σ H R I h;refine Call_ (Gn I hg hm boot_enumerate (Qac (thn ((Aa hl Ac (by rw[hs];rfl)) pos jb s σ H (λvs H1=>match vs with | [v]=>∃a,v=.ref a/\(∃xs,SqT X.K H1 a xs)/\R (Lw X.K a 0) H1 | _=>False) I h) λus s1 ⟨vs,H1,I1,r1,q1⟩=>?_) hs rfl))
 cases r1 with
 | nil=>exact False.elim q1
 | cons r rr=>
  cases rr with
  | nil=>
   obtain⟨a,e,⟨xs,hq⟩,q⟩:=q1;subst e;cases r;exact W4 I1 hq q
  | cons _ _=>exact False.elim q1
theorem oO {K:YD} {a:Addr} {lo:Nat} {xs:YG} {g:TG} {tb:TS} {D:Ends} {σ : St} {H:Hp} (Pv:YN) (h0:Pv 0 σ H) (hl:∀i σ H',i<=xs.length->Pv i σ H'->SqT K H' a xs)
  (hs:∀i x p σ H',xs[i]?=some x->Pv i σ H'->H' p=none->g (.ref p) σ (upd H' p (.tup [.int ((lo+i:Nat):Int),x])) fun σ2 H2=>tb { D with nx:=Pv (i+1),ct:=Pv (i+1),bk:=D.nx } σ2 H2) (hd:∀ σ H',Pv xs.length σ H'->D.nx σ H') :
  ∃W:Nat->YN,(∃m,W 0 m σ H)/\∀i m σ H,W i m σ H ->
   ((Lw K a lo).stop i H/\D.nx σ H)\/((Lw K a lo).go i H/\∃N:YO,(∀ σ' H',N σ' H'->∃m',m' < m/\W (i+1) m' σ' H')/\∀x H',(Lw K a lo).yld i H x H'->g x σ H' fun σ2 H2=>tb { D with nx:=N,ct:=N,bk:=D.nx } σ2 H2):=by
 refine⟨λi m σ H=>m=xs.length - i/\i<=xs.length/\Pv i σ H,⟨xs.length,by simp,Qci _,h0⟩,?_⟩;rintro i m σ H ⟨rfl,hi,p⟩;have q:=hl i σ H hi p;by_cases hlt:i < xs.length
 ·refine .inr ⟨⟨xs,xs[i],q,by simp[hlt]⟩,Pv (i+1),fun σ3 H3 p'=>⟨xs.length - (i+1),by omega,rq,hlt,p'⟩,λv H2 y=>?_⟩;obtain⟨pa,x,hn,rfl,rfl,hx⟩:=y;exact hs i x pa σ _ (hx xs q) p hn
 ·have e:i=xs.length:=by omega
  subst e;exact .inl ⟨⟨xs,q,Qch _⟩,hd σ H p⟩
theorem Q5 {K:YD} {a l:Addr} {lo:Nat} {xs:YG} {g:TG} {tt:TT} {te:TE} {Q:VK} {σ0:St} {H0:Hp} (Pv:YN)
  (h0:Pv 0 σ0 H0) (hl:∀i σ H',i<=xs.length->Pv i σ H'->SqT K H' a xs)
  (hs:∀i x p σ H',xs[i]?=some x->Pv i σ H'->H' p=none->g (.ref p) σ (upd H' p (.tup [.int ((lo+i:Nat):Int),x])) fun σ3 H3=>tt σ3 H3 λb H4=>if b=true then te σ3 H4 λy H5=>∃ys,H5 l=some (.lst ys)/\ys.length < sizeLine/\Pv (i+1) σ3 (upd H5 l (.lst (ys++[y]))) else Pv (i+1) σ3 H4)
  (hd:∀ σ H',Pv xs.length σ H'->Q (.ref l) H'):Ez (Lw K a lo) g tt te Q σ0 H0 l:=by
 unfold Ez;refine⟨λi m σ H'=>m=xs.length - i/\i<=xs.length/\Pv i σ H',⟨xs.length,by simp,Qci _,h0⟩,?_⟩;rintro i m σ H' ⟨rfl,hi,p⟩;have q:=hl i σ H' hi p;by_cases hlt:i < xs.length
 ·refine .inr ⟨⟨xs,xs[i],q,by simp[hlt]⟩,Pv (i+1),fun σ3 H3 p'=>⟨xs.length - (i+1),by omega,rq,hlt,p'⟩,λv H2 y=>?_⟩;obtain⟨pa,x,hn,rfl,rfl,hx⟩:=y;exact hs i x pa σ _ (hx xs q) p hn
 ·have e:i=xs.length:=by omega
  subst e;exact .inl ⟨⟨xs,q,Qch _⟩,hd σ H' p⟩
end
section
variable {X:Cx}
theorem range_any (bs:List Bool):((List.range bs.length).any λi=>(bs[i]?).getD false)=bs.any id:=by
 induction bs with
 | nil=>rfl
 | cons b r ih=>
  rw[Qbo,List.range_succ_eq_map,QbY,List.any_map,QbY];show ((some b).getD false || _)=_;rw[show ((λi=>((b::r)[i]?).getD false) ∘ Nat.succ)=λi=>(r[i]?).getD false from by funext i;simp[Function.comp]]
  rw[ih];rfl
theorem au (hc:X.calm=true):Du X (.builtin "any") (λxs H Q=>∃(p:Addr) (bs:List Bool),xs=[.ref p]/\SqL X.K H p (bs.map V.bl)/\Q (.bl (bs.any id)) H):=by
 intro jb s σ H xs us Q I r h;obtain⟨p,bs,rfl,hq,q⟩:=h;obtain⟨u,rfl,rx⟩:=vals1 r;cases rx;obtain⟨its,rv,pl,hz⟩:=I.list hq;have hb:=Ot rv;have hl:=pl.isList;have hlt:p < s.heap.objs.size:=by obtain⟨_,e,_⟩:=hl;exact Qcb e
 refine call_any_walk (Qbi hl ?_);refine⟨s.heap.objs.size,[s.heap.objs.size,p],[s.heap.objs.size],its.toArray.size,_,_,λi=>(bs[i]?).getD false,rq,Walks.list (A:=X.A.in1) (I.ok.hd hc) _ p (Qcc hlt) its.toArray,
  ⟨⟨_,QaE _ rfl,rq,rq⟩,hl.push _⟩,λi v s' Q' E' hP hQ=>?_,λh' tk hk=>?_⟩
 ·obtain⟨b,e,rfl⟩:=hb.get i v (by simpa using hP);simp only[e,Option.getD_some] at hQ;exact Qbf hQ
 ·have e:((List.range its.toArray.size).any λi=>(bs[i]?).getD false)=bs.any id:=by
   rw[Qba,hb.length];exact range_any bs
  rw[e];exact⟨.bl (bs.any id),H,I.kept (LSm.kept_iter hk),rq,q⟩
def iZ (i j:Int):Prop:=i.natAbs < 2 ^ 8000/\j.natAbs < 2 ^ 8000
theorem Uv {k:Int} (h:k.natAbs < 2 ^ 8000):Builtin.Int.intBits k<=8000:=by
 unfold Builtin.Int.intBits;split
 ·exact Qci _
 ·rcases Nat.eq_zero_or_pos k.natAbs with h0 | hp
  ·rw[h0];decide
  ·have:=(Nat.log2_lt (Qcf hp)).mpr h;omega
theorem iZ.ok {i j:Int} (h:iZ i j):IntMulOk i j:=by
 have h1:=Uv h.1;have h2:=Uv h.2;unfold IntMulOk;have e:Builtin.Int.intTooBig (Builtin.Int.intBits i+Builtin.Int.intBits j)=false:=by
  unfold Builtin.Int.intTooBig;rw[bitsLine_eq];exact Qby (by omega)
 rw[e,Bool.and_false];exact QaO
end
end L2
namespace PySem.ZZ
open PySem
section
variable {prog:Program} {w:World} {A:Around} {E:YA} {s:Shared}
theorem Om {M:Model} {α β : Type} {Q:β->Shared->Prop} {body:α->β->Sem (ForInStep β)} (J:List α->β->Shared->Prop) (hnil:∀b s,J [] b s->Q b s)
  (hstep:∀x r b s,J (x::r) b s->wpAny M A (body x b) (λst s'=>match st with | .yield b'=>J r b' s' | .done b'=>Q b' s') E s):∀(l:List α) (b:β) (s:Shared),J l b s->wpAny M A (forIn l b body) Q E s
 | [],b,s,h=>by
  rw[List.forIn_nil];exact Qcm (hnil b s h)
 | x::r,b,s,h=>by
  rw[List.forIn_cons];refine Qcl (Qcn (hstep x r b s h) (λst s' q=>?_) λ_ _ e=>e);cases st with
  | yield b'=>exact Om J hnil hstep r b' s' q
  | done b'=>exact Qcm q
structure Src where
 it:Addr
 a:Addr
 items:Array Value
def SrcAt (h:Heap) (x:Src) (i:Nat):Prop:=(h.IsListIter x.it x.a i/\h.IsList x.a x.items)\/(h.IsTupleIter x.it x.a i/\h.IsTuple x.a x.items)
theorem SrcAt.keep {h h':Heap} {x:Src} {i:Nat} (q:SrcAt h x i) (k1:∀o,h.get? x.it=some o->h'.get? x.it=some o) (k2:∀o,h.get? x.a=some o->h'.get? x.a=some o):SrcAt h' x i:=by
 rcases q with⟨q1,q2⟩|⟨q1,o,e,r⟩
 ·exact .inl ⟨q1.at k1,q2.at k2⟩
 ·exact .inr ⟨q1.at k1,o,k2 o e,r⟩
theorem SrcAt.ne {h:Heap} {x:Src} {i:Nat} (q:SrcAt h x i):x.a≠x.it:=λz=>by
 rcases q with⟨⟨o,e,c,_⟩,⟨o',e',c',_⟩⟩|⟨⟨o,e,c,_⟩,⟨o',e',c',_⟩⟩
 ·rw[z,e] at e';cases e';rw[c] at c';injection c' with y;exact absurd y (by decide)
 ·rw[z,e] at e';cases e';rw[c] at c';injection c' with y;exact absurd y (by decide)
theorem SrcAt.ex {h:Heap} {x:Src} {i:Nat} (q:SrcAt h x i):(∃o,h.get? x.it=some o)/\∃o,h.get? x.a=some o:=by
 rcases q with⟨⟨o,e,_⟩,⟨o',e',_⟩⟩|⟨⟨o,e,_⟩,⟨o',e',_⟩⟩
 ·exact⟨⟨o,e⟩,o',e'⟩
 ·exact⟨⟨o,e⟩,o',e'⟩
theorem RX {x:Src} {i:Nat} {v:Value} {Q:YA} (q:SrcAt s.heap x i) (hx:x.items[i]?=some v) (hQ:∀h',SrcAt h' x (i+1)->Heap.SameBut x.it s.heap h'->Q v { s with heap:=h' }) :
  wpAny (model prog w) A (Builtin.SmallTypes.nextOf (.ref x.it)) Q E s:=by
 have ne:=q.ne;rcases q with⟨q1,q2⟩|⟨q1,q2⟩
 ·exact wpAny_nextOf_list_item q1 q2 hx λh' i1 sb=>hQ h' (.inl ⟨i1,q2.at λo e=>sb.extBut _ _ ne e⟩) sb
 ·exact Kh q1 q2 hx λh' i1 sb=>hQ h' (.inr ⟨i1,let ⟨o,e,r⟩:=q2;⟨o,sb.extBut _ _ ne e,r⟩⟩) sb
theorem bQ {x:Src} {i:Nat} {Q:YA} (hh:A.handled=none) (q:SrcAt s.heap x i) (hx:x.items[i]?=none)
  (hE:∀h' e,Heap.ExtBut x.it s.heap h'->(∃o,h'.get? e=some o/\o.cls=.type "StopIteration")->E (.ref e) { s with heap:=h' }):wpAny (model prog w) A (Builtin.SmallTypes.nextOf (.ref x.it)) Q E s:=by
 rcases q with⟨q1,q2⟩|⟨q1,q2⟩
 ·exact wpAny_nextOf_list_end hh q1 q2 hx hE
 ·exact Ia hh q1 q2 hx hE
abbrev IsZ (h:Heap) (z TI TO:Addr) (f0 f1:Value):Prop:=h.get? z=some { cls:=.type "zip",dict:=none,data:=.fields #[f0,f1,.bool false,.ref TI,.ref TO],slots:=#[] }
abbrev Ci (h:Heap) (T:Addr) (xs:YE):Prop:=h.get? T=some { cls:=.type "tuple",data:=.seq xs.toArray }
structure Apart (z TI TO:Addr) (ls:List Src):Prop where
 TIz:TI≠z
 TOz:TO≠z
 TITO:TI≠TO
 it:∀x∈ls,x.it≠z/\x.it≠TI/\x.it≠TO
 a:∀x∈ls,x.a≠z/\x.a≠TO
 ai:∀x∈ls,∀y∈ls,x.a≠y.it
 nd:(ls.map (·.it)).Nodup
def Rest (z TO:Addr) (ls:List Src) (h h':Heap):Prop:=∀c o,c≠z->c≠TO->c∉ls.map (·.it)->h.get? c=some o->h'.get? c=some o
theorem bR {xs olds:YE} {k:Nat} {v:Value} (hk:k < olds.length) (hx:xs.length=olds.length) (e:xs[k]?=some v):(xs.take k++olds.drop k).toArray.setIfInBounds k v=(xs.take (k+1)++olds.drop (k+1)).toArray:=by
 rw[List.setIfInBounds_toArray];congr 1;have hl:(xs.take k).length=k:=by rw[Qbn];omega
 rw[List.set_append_right _ _ (by omega),hl,Nat.sub_self,Qai hk,List.set_cons_zero,List.take_add_one,e];simp
structure Mid (z TI TO:Addr) (ls:List Src) (xs olds:YE) (i:Nat) (f0 f1:Value) (h:Heap) (k:Nat) (h':Heap):Prop where
 hz:IsZ h' z TI TO f0 f1
 hTI:Ci h' TI (ls.map λx=>.ref x.it)
 done:∀j x,ls[j]?=some x->SrcAt h' x (if j < k then i+1 else i)
 rest:Rest z TO ls h h'
 size:h'.objs.size=h.objs.size
theorem Mid.draw {z TI TO:Addr} {ls:List Src} {xs olds:YE} {i:Nat} {f0 f1:Value} {h h1 h2:Heap} {k:Nat} {x:Src} (D:Apart z TI TO ls) (m:Mid z TI TO ls xs olds i f0 f1 h k h1) (hx:ls[k]?=some x) (q:SrcAt h2 x (i+1)) (sb:Heap.SameBut x.it h1 h2) :
  Mid z TI TO ls xs olds i f0 f1 h (k+1) h2:=by
 have hm:=Qay hx;have hi:=D.it x hm;refine⟨sb.extBut _ _ hi.1.symm m.hz,sb.extBut _ _ hi.2.1.symm m.hTI,λj y hy=>?_,λc o c1 c2 c3 e=>sb.extBut _ _ (λz=>c3 (z ▸ Qce.mpr ⟨x,hm,rq⟩)) (m.rest c o c1 c2 c3 e),by rw[sb.1,m.size]⟩;by_cases hj:j=k
 ·subst hj;rw[hx] at hy;cases hy;rw[if_pos (Qbt _)];exact q
 ·have h1:=m.done j y hy;have hne:y.it≠x.it:=λz=>hj (by
   have e1:(ls.map (·.it))[j]?=some y.it:=by rw[Qbc,hy];rfl
   have e2:(ls.map (·.it))[k]?=some x.it:=by rw[Qbc,hx];rfl
   rw[z] at e1;have l1:=(Qae.mp e1);have l2:=(Qae.mp e2);exact (List.getElem_inj D.nd).mp (l1.2.trans l2.2.symm))
  have hc:(if j < k+1 then i+1 else i)=(if j < k then i+1 else i):=by
   by_cases c:j < k
   ·rw[if_pos c,if_pos (by omega)]
   ·rw[if_neg c,if_neg (by omega)]
  rw[hc];exact h1.keep (λo e=>sb.extBut _ _ hne e) (λo e=>sb.extBut _ _ (D.ai y (Qay hy) x hm) e)
theorem Mid.other {z TI TO:Addr} {ls:List Src} {xs olds:YE} {i:Nat} {f0 f1:Value} {h h1 h2:Heap} {k:Nat} (D:Apart z TI TO ls) (m:Mid z TI TO ls xs olds i f0 f1 h k h1) (sb:Heap.SameBut TO h1 h2):Mid z TI TO ls xs olds i f0 f1 h k h2:=by
 refine⟨sb.extBut _ _ D.TOz.symm m.hz,sb.extBut _ _ D.TITO m.hTI,λj y hy=>?_,λc o c1 c2 c3 e=>sb.extBut _ _ c2 (m.rest c o c1 c2 c3 e),by rw[sb.1,m.size]⟩;have hm:=Qay hy;exact (m.done j y hy).keep (λo e=>sb.extBut _ _ (D.it y hm).2.2 e) (λo e=>sb.extBut _ _ (D.a y hm).2 e)
theorem Lx {z TI TO:Addr} {ls:List Src} {xs olds:YE} {i:Nat} {f1:Value} {Q:YA} (D:Apart z TI TO ls) (hz:IsZ s.heap z TI TO .none f1) (hTI:Ci s.heap TI (ls.map λx=>.ref x.it)) (hTO:Ci s.heap TO olds)
  (hat:∀x∈ls,SrcAt s.heap x i) (hne:ls≠[]) (hl1:xs.length=ls.length) (hl2:olds.length=ls.length) (hx:∀(j:Nat) (x:Src),ls[j]?=some x->∃v,xs[j]?=some v/\x.items[i]?=some v) (hsz:ls.length<=100)
  (hQ:∀h',IsZ h' z TI TO (rawInt s.heap.objs.size) (.bool false)->Ci h' TI (ls.map λx=>.ref x.it)->Ci h' TO xs->(∀x∈ls,SrcAt h' x (i+1))->Ci h' s.heap.objs.size xs->h'.objs.size=s.heap.objs.size+1->Rest z TO ls s.heap h'->Q (.ref s.heap.objs.size) { s with heap:=h' }) :
  wpAny (model prog w) A (Builtin.«zip.__next__» ⟨[.ref z],[]⟩) (λfin s'=>∃v,fin=.done (.ret v)/\Q v s') E s:=by
 show wpAny _ _ (field (.ref z) 2 >>= _) _ _ _;refine Qcl (Qcj hz rfl (x:=.bool false) rfl ?_);show wpAny _ _ (field (.ref z) 3 >>= _) _ _ _;refine Qcl (Qcj hz rfl (x:=.ref TI) rfl ?_);refine Qcl (QbQ hTI rfl ?_);dsimp only;rw[if_neg (by cases ls with | nil=>exact absurd rfl hne | cons a r=>simp)];show wpAny _ _ (Builtin.SmallTypes.ownedTupleIsFree (.ref z) >>= _) _ _ _;refine Qcl ?_;unfold Builtin.SmallTypes.ownedTupleIsFree;refine Qcl (Qcj hz rfl (x:=.none) rfl (Qcm ?_));simp only[if_true];refine Qcl (Qco ?_);refine Qcl (Qcj hz rfl (x:=.ref TO) rfl ?_);refine Qcl (QaY hz (by simp) λh₁ hz₁ hs₁=>?_);replace hz₁ : IsZ h₁ z TI TO .ellipsis f1:=hz₁;refine Qcl ?_;have m0:Mid z TI TO ls xs olds i .ellipsis f1 s.heap 0 h₁:=by
  refine⟨hz₁,hs₁.extBut _ _ D.TIz hTI,λj x hj=>?_,λc o c1 _ _ e=>hs₁.extBut _ _ c1 e,hs₁.1⟩;have hm:=Qay hj;rw[if_neg (Nat.not_lt_zero _)];exact (hat x hm).keep (λo e=>hs₁.extBut _ _ (D.it x hm).1 e) (λo e=>hs₁.extBut _ _ (D.a x hm).1 e)
 have T8 : Ci h₁ TO (xs.take 0++olds.drop 0):=hs₁.extBut _ _ D.TOz hTO;refine Om (λl b s'=>∃k h',k<=ls.length/\l=((ls.map λx=>Value.ref x.it).drop k).zipIdx k/\b=⟨none,⟨⟩⟩/\s'={ s with heap:=h' }/\Mid z TI TO ls xs olds i .ellipsis f1 s.heap k h'/\Ci h' TO (xs.take k++olds.drop k)) (λb s' h=>?_) (λx r b s' h=>?_) _ _ _ ⟨0,h₁,Qci _,rq,rq,rq,m0,T8⟩
 ·obtain⟨k,h',hk,e1,rfl,rfl,m,hT⟩:=h;have hkl:k=ls.length:=by
   have:=congrArg List.length e1;rw[List.length_nil,QaV,Qbq,Qbw] at this;omega
  subst hkl;rw[<-hl1,Qbp,hl1,<-hl2,List.drop_length,QbE] at hT;dsimp only;refine Qcl (QbQ hT rfl ?_);refine Qcl (wpAny_newTuple ?_ (by show xs.length<=sizeLine;rw[sizeLine_eq];omega));have hkl:∀j x,ls[j]?=some x->SrcAt h' x (i+1):=λj x hj=>by
   have:=m.done j x hj;rw[if_pos (Qae.mp hj).1] at this;exact this
  have hzlt:z < h'.objs.size:=Qcb m.hz;have hTOlt:TO < h'.objs.size:=Qcb hT;show wpAny _ _ (Builtin.SmallTypes.ownedTupleHandOut (.ref z) (.ref h'.objs.size) >>= _) _ _ _;refine Qcl ?_;unfold Builtin.SmallTypes.ownedTupleHandOut;have hz₆ : IsZ (h'.push { cls:=.type "tuple",data:=.seq xs.toArray }) z TI TO .ellipsis f1:=Qaq _ m.hz;refine Qcl (QaY hz₆ (by simp) λh₇ hz₇ hs₇=>?_);replace hz₇ : IsZ h₇ z TI TO (rawInt h'.objs.size) f1:=hz₇;refine QaY hz₇ (by simp) λh₈ hz₈ hs₈=>?_;replace hz₈ : IsZ h₈ z TI TO (rawInt h'.objs.size) (.bool false):=hz₈;have up:∀c o,c≠z->h'.get? c=some o->h₈.get? c=some o:=λc o c1 e=>hs₈.extBut _ _ c1 (hs₇.extBut _ _ c1 (Qaq _ e));have hT₈ : Ci h₈ h'.objs.size xs:=hs₈.extBut _ _ (Qcf hzlt) (hs₇.extBut _ _ (Qcf hzlt) (QaE _ rfl));have hz8:h₈.objs.size=h'.objs.size+1:=by rw[hs₈.1,hs₇.1,QbN]
  have hsz':=m.size;rw[hsz'] at hz₈ hT₈ hz8;refine Qcm ⟨_,rq,?_⟩;show Q (.ref h'.objs.size) _;rw[hsz'];refine hQ h₈ hz₈ (up _ _ D.TIz m.hTI) (up _ _ D.TOz hT) (λx hm=>?_) hT₈ hz8 λc o c1 c2 c3 e=>up c o c1 (m.rest c o c1 c2 c3 e);obtain⟨j,hj⟩:=QaB hm;exact (hkl j x hj).keep (λo e=>up _ o (D.it x hm).1 e) (λo e=>up _ o (D.a x hm).1 e)
 ·obtain⟨k,h',hk,e1,rfl,rfl,m,hT⟩:=h;have hkl:k < ls.length:=by
   have:=congrArg List.length e1;rw[Qbo,QaV,Qbq,Qbw] at this;omega
  obtain⟨y,hy⟩ : ∃y,ls[k]?=some y:=⟨_,Qaj hkl⟩;have hm:=Qay hy;rw[Qai (by rw[Qbw];exact hkl),List.zipIdx_cons,List.getElem_map] at e1;have ey:ls[k]=y:=(Qae.mp hy).2;rw[ey] at e1;injection e1 with e1 e2;subst e1 e2;obtain⟨v,hv1,hv2⟩:=hx k y hy;refine Qcl (wpAny_onRaise ?_);show wpAny _ _ (Builtin.SmallTypes.nextOf (.ref y.it) >>= _) _ _ _;have q0:=m.done k y hy;rw[if_neg (QbV _)] at q0;refine Qcl (RX q0 hv2 λh2 q2 sb2=>Qcm ?_);have m2:=m.draw D hy q2 sb2;have hT2:Ci h2 TO (xs.take k++olds.drop k):=sb2.extBut _ _ (D.it y hm).2.2.symm hT;have hln:(xs.take k++olds.drop k).length<=100:=by rw[QaM,Qbn,Qbq];omega
  have hsm:=bR (xs:=xs) (olds:=olds) (k:=k) (v:=v) (by omega) (by omega) hv1;refine Qcl (QbQ hT2 rfl ?_);refine Qcl (wpAny_updateSeq hT2 rfl ?_ (by rw[Qba,sizeLine_eq];omega) (by rw[hsm,Qba,sizeLine_eq,QaM,Qbn,Qbq];omega));have sb3:Heap.SameBut TO h2 (h2.update TO (Obj.mapSeq λx=>x.setIfInBounds k v)):=QaG ..;have hT3:Ci (h2.update TO (Obj.mapSeq λx=>x.setIfInBounds k v)) TO (xs.take (k+1)++olds.drop (k+1)):=by
   show (h2.update TO _).get? TO=_;rw[Qaw _ hT2 rfl,<-hsm];simp[Obj.mapSeq]
  refine Qcl (wpAny_letGo (Qcm ?_));exact⟨k+1,_,hkl,rq,rq,rq,m2.other D sb3,hT3⟩
theorem LC {z TI TO:Addr} {ls:List Src} {olds:YE} {i:Nat} {f1:Value} {Q:Fin->Shared->Prop} (hh:A.handled=none) (D:Apart z TI TO ls) (hz:IsZ s.heap z TI TO .none f1) (hTI:Ci s.heap TI (ls.map λx=>.ref x.it)) (hTO:Ci s.heap TO olds)
  (hat:∀x∈ls,SrcAt s.heap x i) (hne:ls≠[]) (hl2:olds.length=ls.length) (hsz:ls.length<=100) (hend:∃x∈ls,x.items[i]?=none)
  (hE:∀h' e,Rest z TO ls s.heap h'->(∃o,h'.get? e=some o/\o.cls=.type "StopIteration")->E (.ref e) { s with heap:=h' }) :
  wpAny (model prog w) A (Builtin.«zip.__next__» ⟨[.ref z],[]⟩) Q E s:=by
 show wpAny _ _ (field (.ref z) 2 >>= _) _ _ _;refine Qcl (Qcj hz rfl (x:=.bool false) rfl ?_);show wpAny _ _ (field (.ref z) 3 >>= _) _ _ _;refine Qcl (Qcj hz rfl (x:=.ref TI) rfl ?_);refine Qcl (QbQ hTI rfl ?_);dsimp only;rw[if_neg (by cases ls with | nil=>exact absurd rfl hne | cons a r=>simp)];show wpAny _ _ (Builtin.SmallTypes.ownedTupleIsFree (.ref z) >>= _) _ _ _;refine Qcl ?_;unfold Builtin.SmallTypes.ownedTupleIsFree;refine Qcl (Qcj hz rfl (x:=.none) rfl (Qcm ?_));simp only[if_true];refine Qcl (Qco ?_);refine Qcl (Qcj hz rfl (x:=.ref TO) rfl ?_);refine Qcl (QaY hz (by simp) λh₁ hz₁ hs₁=>?_);replace hz₁ : IsZ h₁ z TI TO .ellipsis f1:=hz₁;refine Qcl ?_;have m0:Mid z TI TO ls [] olds i .ellipsis f1 s.heap 0 h₁:=by
  refine⟨hz₁,hs₁.extBut _ _ D.TIz hTI,λj x hj=>?_,λc o c1 _ _ e=>hs₁.extBut _ _ c1 e,hs₁.1⟩;have hm:=Qay hj;rw[if_neg (Nat.not_lt_zero _)];exact (hat x hm).keep (λo e=>hs₁.extBut _ _ (D.it x hm).1 e) (λo e=>hs₁.extBut _ _ (D.a x hm).1 e)
 have T8 : Ci h₁ TO olds:=hs₁.extBut _ _ D.TOz hTO;refine Om (λl b s'=>∃k h' ys,k<=ls.length/\l=((ls.map λx=>Value.ref x.it).drop k).zipIdx k/\b=⟨none,⟨⟩⟩/\s'={ s with heap:=h' }/\Mid z TI TO ls [] olds i .ellipsis f1 s.heap k h'/\Ci h' TO ys/\ys.length=ls.length/\∃x∈ls.drop k,x.items[i]?=none) (λb s' h=>?_) (λx r b s' h=>?_) _ _ _ ⟨0,h₁,olds,Qci _,rq,rq,rq,m0,T8,hl2,hend⟩
 ·obtain⟨k,h',ys,hk,e1,rfl,rfl,m,hT,hy,x,hx,_⟩:=h;have:k=ls.length:=by
   have:=congrArg List.length e1;rw[List.length_nil,QaV,Qbq,Qbw] at this;omega
  subst this;rw[List.drop_length] at hx;cases hx
 ·obtain⟨k,h',ys,hk,e1,rfl,rfl,m,hT,hys,xe,hxe,hxn⟩:=h;have hkl:k < ls.length:=by
   have:=congrArg List.length e1;rw[Qbo,QaV,Qbq,Qbw] at this;omega
  obtain⟨y,hy⟩ : ∃y,ls[k]?=some y:=⟨_,Qaj hkl⟩;have hm:=Qay hy;rw[Qai (by rw[Qbw];exact hkl),List.zipIdx_cons,List.getElem_map] at e1;have ey:ls[k]=y:=(Qae.mp hy).2;rw[ey] at e1;injection e1 with e1 e2;subst e1 e2;refine Qcl (wpAny_onRaise ?_);show wpAny _ _ (Builtin.SmallTypes.nextOf (.ref y.it) >>= _) _ _ _;have q0:=m.done k y hy;rw[if_neg (QbV _)] at q0;cases hv:y.items[i]? with
  | none=>
   refine Qcl (bQ hh q0 hv λh₂ e hs₂ he=>?_);obtain⟨oe,hoe,hce⟩:=he;have hz₂ : IsZ h₂ z TI TO .ellipsis f1:=hs₂ _ _ (D.it y hm).1.symm m.hz;have hez:e≠z:=λx=>by subst x;rw[hz₂] at hoe;cases hoe;simp at hce
   refine QaY hz₂ (by simp) λh₃ _ hs₃=>hE h₃ e (λc o c1 c2 c3 x=>hs₃.extBut _ _ c1 (hs₂ _ _ (λq=>c3 (q ▸ Qce.mpr ⟨y,hm,rq⟩)) (m.rest c o c1 c2 c3 x))) ⟨oe,hs₃.extBut _ _ hez hoe,hce⟩
  | some v=>
   refine Qcl (RX q0 hv λh2 q2 sb2=>Qcm ?_);have m2:=m.draw D hy q2 sb2;have hT2:Ci h2 TO ys:=sb2.extBut _ _ (D.it y hm).2.2.symm hT;refine Qcl (QbQ hT2 rfl ?_);refine Qcl (wpAny_updateSeq hT2 rfl ?_ (by rw[Qba,sizeLine_eq];omega) (by rw[Array.size_setIfInBounds,Qba,sizeLine_eq];omega));have sb3:Heap.SameBut TO h2 (h2.update TO (Obj.mapSeq λx=>x.setIfInBounds k v)):=QaG ..;have hT3:Ci (h2.update TO (Obj.mapSeq λx=>x.setIfInBounds k v)) TO (ys.set k v):=by
    show (h2.update TO _).get? TO=_;rw[Qaw _ hT2 rfl,<-List.setIfInBounds_toArray];simp[Obj.mapSeq]
   refine Qcl (wpAny_letGo (Qcm ?_));refine⟨k+1,_,ys.set k v,hkl,rq,rq,rq,m2.other D sb3,hT3,by rw[List.length_set];exact hys,xe,?_,hxn⟩;rw[Qai hkl,ey] at hxe;rcases QbS.mp hxe with z | z
   ·subst z;rw[hv] at hxn;cases hxn
   ·exact z
theorem OJ {z TI TO:Addr} {f0 f1:Value} {Q:Option Value->Shared->Prop} (hz:IsZ s.heap z TI TO f0 f1) {Qi:YA} (h:wpAny (model prog w) A.in1 (Builtin.«zip.__next__» ⟨[.ref z],[]⟩) (λfin s'=>∃v,fin=.done (.ret v)/\Qi v s') (λ_ _=>False) s) (hQ:∀v s',Qi v s'->Q (some v) s') :
  wpAny (model prog w) A (pyNext (.ref z)) Q E s:=by
 have hT:s.TypeIs (.ref z) "zip":=⟨_,hz,rq⟩;unfold pyNext;refine Qcl (Qca (Qam (name:=Str.ofString "__next__") hT F.slot_zip_next (Qbr F.slot_zip_next hT F.entry_zip_next (Qcn h (λfin s' q=>?_) λ_ _ f=>f.elim) (F.args_zip_next_1 _))));obtain⟨v,e,q⟩:=q;exact⟨v,e,Qcm (hQ v s' q)⟩
theorem KC {z TI TO:Addr} {f0 f1:Value} {Q:Option Value->Shared->Prop} {R:Heap->Prop} (hz:IsZ s.heap z TI TO f0 f1)
  (h:wpAny (model prog w) A.in1 (Builtin.«zip.__next__» ⟨[.ref z],[]⟩) (λ_ _=>False) (λv s'=>∃h' e,v=.ref e/\s'={ s with heap:=h' }/\R h'/\∃o,h'.get? e=some o/\o.cls=.type "StopIteration") s) (hQ:∀h',R h'->Q none { s with heap:=h' }) :
  wpAny (model prog w) A (pyNext (.ref z)) Q E s:=by
 have hT:s.TypeIs (.ref z) "zip":=⟨_,hz,rq⟩;unfold pyNext;refine Qcl (Qca (Qam (name:=Str.ofString "__next__") hT F.slot_zip_next (Qbr F.slot_zip_next hT F.entry_zip_next (Qcn h (λ_ _ f=>f.elim) λv s' q=>?_) (F.args_zip_next_1 _))));obtain⟨h',e,rfl,rfl,r,o,ho,hc⟩:=q;exact Qcl (wpAny_isInstance (T:="StopIteration") (b:=true) ⟨o,ho,hc⟩ isSubtype_stop (Qcm (hQ _ r)))
theorem Jm {z TI TO:Addr} {f0 f1:Value} {Q:YA} (hz:IsZ s.heap z TI TO f0 f1) (h:Q (.ref z) s):wpAny (model prog w) A (pyIter (.ref z)) Q E s:=by
 have hT:s.TypeIs (.ref z) "zip":=⟨_,hz,rq⟩;refine wpAny_pyIter_slot hT F.slot_zip_iter (Qbr F.slot_zip_iter hT F.entry_zip_iter ?_ (F.args_zip_iter_1 _));show wpAny _ _ (ret (.ref z)) _ _ s;exact Qcm ⟨_,rq,"zip",_,hT,F.slot_zip_next.lookup,h⟩
theorem QX {elts:YJ} {x1} {pos:Pos} {z TI TO T:Addr} {f1:Value} {Q:YH} (hz:IsZ s.heap z TI TO (rawInt T) f1)
  (hQ:∀h',IsZ h' z TI TO .none f1->Heap.SameBut z s.heap h'->Q () { s with heap:=h' }):wpAny (model prog w) A (letOwnedTupleGo (.Tuple elts x1 pos) (.ref z) (.ref T)) Q E s:=by
 unfold letOwnedTupleGo;refine Qcl (wpAny_load hz ?_);show wpAny _ _ (if (["enumerate","zip","dict_itemiterator","dict_reverseitemiterator","odict_iterator","itertools.zip_longest","itertools.pairwise"].contains "zip" &&
   (#[rawInt T,f1,.bool false,.ref TI,.ref TO]:Array Value)[0]? == some (rawInt T))=true then _ else _) Q E s
 rw[if_pos (by simp)];refine Qcl (Qco ?_);show wpAny _ _ (setField (.ref z) 0 .none) Q E s;exact QaY hz (by simp) λh' hz' hs'=>hQ h' hz' hs'
end
end PySem.ZZ
namespace PySem
namespace F
end F
end PySem
namespace PySem.ZZ
open PySem
def M5 (h:Heap) (a:Addr) (xs:Array Value) (c:String):Prop:=(c="list_iterator"/\h.IsList a xs)\/(c="tuple_iterator"/\h.IsTuple a xs)
theorem M5.src {h h':Heap} {a it:Addr} {xs:Array Value} {c:String} (q:M5 h a xs c) (k:∀o,h.get? a=some o->h'.get? a=some o) (e:h'.get? it=some { cls:=.type c,data:=.fields #[.ref a,.int 0 0] }):SrcAt h' ⟨it,a,xs⟩ 0:=by
 rcases q with⟨rfl,q⟩|⟨rfl,o,ho,r⟩
 ·exact .inl ⟨⟨_,e,rq,rq⟩,q.at k⟩
 ·exact .inr ⟨⟨_,e,rq,rq⟩,o,k o ho,r⟩
theorem M5.lt {h:Heap} {a:Addr} {xs:Array Value} {c:String} (q:M5 h a xs c):a < h.objs.size:=by
 rcases q with⟨rfl,o,e,_⟩|⟨rfl,o,e,_⟩
 ·exact Qcb e
 ·exact Qcb e
abbrev itO (c:String) (l:Addr):Obj:={ cls:=.type c,data:=.fields #[.ref l,.int 0 0] }
abbrev tuO (xs:Array Value):Obj:={ cls:=.type "tuple",data:=.seq xs }
abbrev z2a (h:Heap) (c1 c2:String) (l1 l2:Addr):Heap:=((((h.push (itO c1 l1)).push (itO c2 l2)).push (tuO #[.ref h.objs.size,.ref (h.push (itO c1 l1)).objs.size])).push (tuO #[.none,.none]))
abbrev z2 (h:Heap) (c1 c2:String) (l1 l2:Addr):Heap:=(z2a h c1 c2 l1 l2).push
 { cls:=.type "zip",data:=.fields #[.none,.bool false,.bool false,.ref ((h.push (itO c1 l1)).push (itO c2 l2)).objs.size,.ref (((h.push (itO c1 l1)).push (itO c2 l2)).push (tuO #[.ref h.objs.size,.ref (h.push (itO c1 l1)).objs.size])).objs.size] }
theorem Wt (l1 l2:Addr) (xs ys:Array Value) (c1 c2:String):Meets (Builtin.«zip.__new__» ⟨[.type "zip",.ref l1,.ref l2],[]⟩) (λ_ R s=>M5 s.heap l1 xs c1/\M5 s.heap l2 ys c2/\R (.ok (.ret (.ref (z2a s.heap c1 c2 l1 l2).objs.size))) { s with heap:=z2 s.heap c1 c2 l1 l2 }):=
 .of_wp λprog w A R s h=>by
  obtain⟨hp,g,d,tk,os⟩:=s;obtain⟨hl1,hl2,h⟩:=h;have hsub:=sub_zip;rcases hl1 with⟨rfl,hl1⟩|⟨rfl,hl1⟩
  ·have hL1:Heap.IsList (Shared.heap ⟨hp,g,d,tk,os⟩) l1 xs:=hl1;rcases hl2 with⟨rfl,hl2⟩|⟨rfl,hl2⟩
   ·have hL2:Heap.IsList (Shared.heap ⟨hp.push (itO "list_iterator" l1),g,d,tk,os⟩) l2 ys:=Heap.IsList.push hl2 _
    wp_walk using Qbi hL1,Qbi hL2
    exact⟨_,rq,h⟩
   ·have hL2:Heap.IsTuple (Shared.heap ⟨hp.push (itO "list_iterator" l1),g,d,tk,os⟩) l2 ys:=Heap.IsTuple.push hl2 _
    wp_walk using Qbi hL1,QaU hL2
    exact⟨_,rq,h⟩
  ·have hL1:Heap.IsTuple (Shared.heap ⟨hp,g,d,tk,os⟩) l1 xs:=hl1;rcases hl2 with⟨rfl,hl2⟩|⟨rfl,hl2⟩
   ·have hL2:Heap.IsList (Shared.heap ⟨hp.push (itO "tuple_iterator" l1),g,d,tk,os⟩) l2 ys:=Heap.IsList.push hl2 _
    wp_walk using QaU hL1,Qbi hL2
    exact⟨_,rq,h⟩
   ·have hL2:Heap.IsTuple (Shared.heap ⟨hp.push (itO "tuple_iterator" l1),g,d,tk,os⟩) l2 ys:=Heap.IsTuple.push hl2 _
    wp_walk using QaU hL1,QaU hL2
    exact⟨_,rq,h⟩
abbrev z3a (h:Heap) (c1 c2 c3:String) (l1 l2 l3:Addr):Heap:=(((((h.push (itO c1 l1)).push (itO c2 l2)).push (itO c3 l3)).push (tuO #[.ref h.objs.size,.ref (h.push (itO c1 l1)).objs.size,.ref ((h.push (itO c1 l1)).push (itO c2 l2)).objs.size])).push (tuO #[.none,.none,.none]))
abbrev z3 (h:Heap) (c1 c2 c3:String) (l1 l2 l3:Addr):Heap:=(z3a h c1 c2 c3 l1 l2 l3).push
 { cls:=.type "zip",data:=.fields #[.none,.bool false,.bool false,.ref (((h.push (itO c1 l1)).push (itO c2 l2)).push (itO c3 l3)).objs.size,.ref ((((h.push (itO c1 l1)).push (itO c2 l2)).push (itO c3 l3)).push (tuO #[.ref h.objs.size,.ref (h.push (itO c1 l1)).objs.size,.ref ((h.push (itO c1 l1)).push (itO c2 l2)).objs.size])).objs.size] }
structure j5 (h:Heap) (z TI TO:Addr) (ls:List Src) (h':Heap):Prop where
 hz:IsZ h' z TI TO .none (.bool false)
 hTI:Ci h' TI (ls.map λx=>.ref x.it)
 hTO:Ci h' TO (ls.map λ_=>.none)
 at_:∀x∈ls,SrcAt h' x 0
 ap:Apart z TI TO ls
 new:h.objs.size<=z/\h.objs.size<=TI/\h.objs.size<=TO/\∀x∈ls,h.objs.size<=x.it
 keep:∀c o,h.get? c=some o->h'.get? c=some o
theorem na {a b:Nat} (h:a≠b):@Ne Addr a b:=h
theorem apart2 {n l1 l2:Nat} {xs ys:Array Value} (a1:l1 < n) (a2:l2 < n):Apart (n+1+1+1+1:Nat) (n+1+1:Nat) (n+1+1+1:Nat) [⟨n,l1,xs⟩,⟨(n+1:Nat),l2,ys⟩]:=by
 refine⟨na (by omega),na (by omega),na (by omega),λx hx=>?_,λx hx=>?_,λx hx y hy=>?_,?_⟩
 ·rcases QbS.mp hx with rfl | hx
  ·exact⟨na (by dsimp only;omega),na (by dsimp only;omega),na (by dsimp only;omega)⟩
  ·cases QaR.mp hx;exact⟨na (by dsimp only;omega),na (by dsimp only;omega),na (by dsimp only;omega)⟩
 ·rcases QbS.mp hx with rfl | hx
  ·exact⟨na (by dsimp only;omega),na (by dsimp only;omega)⟩
  ·cases QaR.mp hx;exact⟨na (by dsimp only;omega),na (by dsimp only;omega)⟩
 ·rcases QbS.mp hx with rfl | hx
  ·rcases QbS.mp hy with rfl | hy
   ·exact na (by dsimp only;omega)
   ·cases QaR.mp hy;exact na (by dsimp only;omega)
  ·cases QaR.mp hx;rcases QbS.mp hy with rfl | hy
   ·exact na (by dsimp only;omega)
   ·cases QaR.mp hy;exact na (by dsimp only;omega)
 ·show List.Nodup ([n,n+1]:List Nat);simp
section
variable {prog:Program} {w:World} {A:Around} {E:YA} {s:Shared}
theorem Q7 {l1 l2:Addr} {xs ys:Array Value} {c1 c2:String} {Q:YA} (hl1:M5 s.heap l1 xs c1) (hl2:M5 s.heap l2 ys c2)
  (h:∀h' z TI TO i1 i2,j5 s.heap z TI TO [⟨i1,l1,xs⟩,⟨i2,l2,ys⟩] h'->Q (.ref z) { s with heap:=h' }):wpAny (model prog w) A (call (.type "zip") [.ref l1,.ref l2]) Q E s:=by
 refine callType_new F.called_zip (by decide) (F.typeCall_zip_2 _ _) (F.newCall_zip_2 _ _) (λobj=>F.args_object_init_3 obj _ _) F.entry_zip_new (Wt l1 l2 xs ys c1 c2) ⟨hl1,hl2,?_⟩;have g5:(z2 s.heap c1 c2 l1 l2).get? (z2a s.heap c1 c2 l1 l2).objs.size=some _:=QaE _ rfl;have g4:(z2 s.heap c1 c2 l1 l2).get? (((s.heap.push (itO c1 l1)).push (itO c2 l2)).push (tuO #[.ref s.heap.objs.size,.ref (s.heap.push (itO c1 l1)).objs.size])).objs.size=some (tuO #[.none,.none]):=Qaq _ (QaE _ rfl);have g3:(z2 s.heap c1 c2 l1 l2).get? ((s.heap.push (itO c1 l1)).push (itO c2 l2)).objs.size=some (tuO #[.ref s.heap.objs.size,.ref (s.heap.push (itO c1 l1)).objs.size]):=Qaq _ (Qaq _ (QaE _ rfl));have g2:(z2 s.heap c1 c2 l1 l2).get? (s.heap.push (itO c1 l1)).objs.size=some (itO c2 l2):=Qaq _ (Qaq _ (Qaq _ (QaE _ rfl)));have g1:(z2 s.heap c1 c2 l1 l2).get? s.heap.objs.size=some (itO c1 l1):=Qaq _ (Qaq _ (Qaq _ (Qaq _ (QaE _ rfl))));have kp:∀c o,s.heap.get? c=some o->(z2 s.heap c1 c2 l1 l2).get? c=some o:=λc o x=>Qaq _ (Qaq _ (Qaq _ (Qaq _ (Qaq _ x))));have a1:=hl1.lt;have a2:=hl2.lt;refine⟨⟨_,g5,rq⟩,h _ _ _ _ s.heap.objs.size (s.heap.push (itO c1 l1)).objs.size ⟨g5,g3,g4,?_,?_,?_,kp⟩⟩
 ·intro x hx;rcases QbS.mp hx with rfl | hx
  ·exact hl1.src (λo e=>kp _ _ e) g1
  ·rcases QbS.mp hx with rfl | hx
   ·exact hl2.src (λo e=>kp _ _ e) g2
   ·cases hx
 ·simp only[QbN];exact apart2 a1 a2
 ·simp only[QbN,QbS,Qbl,Qcq,forall_eq_or_imp,forall_eq];omega
end
end PySem.ZZ
namespace PySem
namespace F
end F
end PySem
namespace PySem.ZZ
open PySem
section
variable {prog:Program} {w:World} {A:Around} {E:YA} {s:Shared}
structure Run (hb:Heap) (z TI TO:Addr) (ls:List Src) (rows:Nat->YE) (S:Addr) (ts:List Addr) (h:Heap):Prop where
 inc:ts.Pairwise (· < ·)
 lo:∀t∈ts,S < t/\t < h.objs.size
 at_:∀j t,ts[j]?=some t->Ci h t (rows j)
 keep:∀c o,hb.get? c=some o->h.get? c=some o
 hTI:Ci h TI (ls.map λx=>.ref x.it)
 hTO:∃olds,Ci h TO olds/\olds.length=ls.length
 src:∀x∈ls,SrcAt h x ts.length
 hz:(ts=[]/\IsZ h z TI TO .none (.bool false))\/∃(T:Addr) (f1:Value),ts[0]?=some T/\IsZ h z TI TO (rawInt T) f1
structure Below (hb:Heap) (z TI TO:Addr) (ls:List Src) (S:Addr):Prop where
 ap:Apart z TI TO ls
 old:hb.objs.size<=z/\hb.objs.size<=TI/\hb.objs.size<=TO/\∀x∈ls,hb.objs.size<=x.it
 lz:z < S
 lTI:TI < S
 lTO:TO < S
 it:∀x∈ls,x.it < S/\x.a < S
 base:hb.objs.size<=S
theorem Run.frame {hb:Heap} {z TI TO:Addr} {ls:List Src} {rows:Nat->YE} {S:Addr} {ts:List Addr} {h h':Heap} (B:Below hb z TI TO ls S) (r:Run hb z TI TO ls rows S ts h) (hs:h'.objs.size=h.objs.size) (k:∀c o,c≠S->h.get? c=some o->h'.get? c=some o):Run hb z TI TO ls rows S ts h':=by
 obtain⟨olds,o1,o2⟩:=r.hTO;refine⟨r.inc,λt ht=>by rw[hs];exact r.lo t ht,λj t e=>k _ _ (Qcf (r.lo t (Qay e)).1) (r.at_ j t e),λc o e=>k _ _ (Qcc (QaP (Qcb e) B.base)) (r.keep c o e),k _ _ (Qcc B.lTI) r.hTI,⟨olds,k _ _ (Qcc B.lTO) o1,o2⟩,λx hx=>?_,?_⟩
 ·exact (r.src x hx).keep (λo e=>k _ _ (Qcc (B.it x hx).1) e) (λo e=>k _ _ (Qcc (B.it x hx).2) e)
 ·rcases r.hz with⟨e,q⟩|⟨T,f1,e,q⟩
  ·exact .inl ⟨e,k _ _ (Qcc B.lz) q⟩
  ·exact .inr ⟨T,f1,e,k _ _ (Qcc B.lz) q⟩
theorem Run.more {hb:Heap} {z TI TO:Addr} {ls:List Src} {rows:Nat->YE} {S:Addr} {ts:List Addr} {h h':Heap} (B:Below hb z TI TO ls S) (r:Run hb z TI TO ls rows S ts h) (hS:S < h.objs.size) (hs:h'.objs.size=h.objs.size+1) (hr:Rest z TO ls h h')
  (hTI:Ci h' TI (ls.map λx=>.ref x.it)) (hTO:∃olds,Ci h' TO olds/\olds.length=ls.length) (src:∀x∈ls,SrcAt h' x (ts.length+1)) (new:Ci h' h.objs.size (rows ts.length)) (hz:∃(T:Addr) (f1:Value),(ts++[h.objs.size])[0]?=some T/\IsZ h' z TI TO (rawInt T) f1):Run hb z TI TO ls rows S (ts++[h.objs.size]) h':=by
 have fr:∀t,S < t->t≠z/\t≠TO/\t∉ls.map (·.it):=λt ht=>⟨λe=>by rw[e] at ht;exact Nat.lt_asymm ht B.lz,λe=>by rw[e] at ht;exact Nat.lt_asymm ht B.lTO,λe=>by
  obtain⟨x,hx,e'⟩:=Qce.mp e;rw[<-e'] at ht;exact Nat.lt_asymm ht (B.it x hx).1⟩
 refine⟨?_,λt ht=>?_,λj t e=>?_,λc o e=>?_,hTI,hTO,λx hx=>by rw[QaM];exact src x hx,.inr hz⟩
 ·exact List.pairwise_append.mpr ⟨r.inc,List.pairwise_singleton _ _,λa ha b hb'=>by
   have:b=h.objs.size:=by simpa using hb'
   rw[this];exact (r.lo a ha).2⟩
 ·rw[hs];rcases Qbz.mp ht with ht | ht
  ·have:=r.lo t ht;exact⟨this.1,Qbh this.2⟩
  ·have:t=h.objs.size:=by simpa using ht
   rw[this];exact⟨hS,Qbt _⟩
 ·by_cases c:j < ts.length
  ·rw[Qah c] at e;have hlo:=r.lo t (Qay e);obtain⟨f1,f2,f3⟩:=fr t hlo.1;exact hr t _ f1 f2 f3 (r.at_ j t e)
  ·rw[Qad (Nat.le_of_not_lt c)] at e;have hj:j - ts.length=0:=by
    have:=(Qae.mp e).1;rw[Qax] at this;omega
   rw[hj] at e;cases e;have:j=ts.length:=by omega
   rw[this];exact new
 ·have hlt:=Qcb e;refine hr c o (λq=>?_) (λq=>?_) (λq=>?_) (r.keep c o e)
  ·rw[q] at hlt;exact absurd hlt (Nat.not_lt.mpr B.old.1)
  ·rw[q] at hlt;exact absurd hlt (Nat.not_lt.mpr B.old.2.2.1)
  ·obtain⟨x,hx,e'⟩:=Qce.mp q;rw[<-e'] at hlt;exact absurd hlt (Nat.not_lt.mpr (B.old.2.2.2 x hx))
end
end PySem.ZZ
namespace PySem.ZZ
open PySem
section
variable {prog:Program} {w:World} {A:Around} {E:YA} {s:Shared}
structure Rows (ls:List Src) (n:Nat) (rows:Nat->YE):Prop where
 row:∀j,j < n->(rows j).length=ls.length/\∀(k:Nat) (x:Src),ls[k]?=some x->∃v,(rows j)[k]?=some v/\x.items[j]?=some v
 stop:∃x∈ls,x.items[n]?=none
 ne:ls≠[]
 few:ls.length<=100
 most:n<=1000
end
end PySem.ZZ
namespace L2
open PySem PySem.Spec PyProof.Rows
section
variable {X:Cx} {jb:YC} {σ : St} {H:Hp} {s:Shared} {h':Heap}
theorem Inv.grown {H':Hp} {t':Nat} (I:Inv X jb σ H s) (k:∀b u,s.heap.get? b=some u->h'.get? b=some u) (old:∀b,b < s.heap.objs.size->H' b=H b)
  (new:∀b o,s.heap.objs.size<=b->H' b=some o->Cm X.prog X.w H' h' b o):Inv X jb σ H' { s with heap:=h',toks:=t' }:=by
 have tr:∀b u,H b=some u->H' b=some u:=λb u e=>by rw[old b (I.hok.lt e)];exact e
 refine I.step (g':=s.gens) (d':=s.drawn) (ch:=[]) (λb hb=>by cases hb) (λb u _ _ _ e _=>k b u e) (λb u _ _ _ e _=>⟨u.slots,k b u e⟩) (λb u _ e n=>by rw[old b (Qcb e)];exact n)
  (λb u _ e=>⟨u,k b u e⟩) (λ_ _ e=>tr _ _ e) (λ_ _ _ e=>tr _ _ e) (λb ps e=>⟨#[],by rw[tr _ _ e];simp⟩) (λm hm=>?_) (λb u e=>?_) I.bare
 ·obtain⟨u,es,ep,hu,r⟩:=hm;exact⟨u,es,ep,k _ u hu,r⟩
 ·by_cases hb:b < s.heap.objs.size
  ·rw[old b hb] at e;exact (I.hok b u e).stay (λc v _ q=>k c v q) (λc q=>tr _ _ q) λc xs q=>tr _ _ q
  ·exact new b u (Nat.le_of_not_lt hb) e
end
section
variable {X:Cx}
end
section
variable {X:Cx}
end
section
variable {X:Cx} {tg:Expr}
end
theorem LQ:∀{xs:YG} {us:YE},Vals xs us->Vals xs.reverse us.reverse
 | _,_,.nil=>.nil
 | _,_,.cons (l₁:=l) (l₂:=m) h t=>by
  rw[List.reverse_cons,List.reverse_cons];exact (LQ t).append (.cons h .nil)
section
variable {X:Cx} {e:Expr} {k:Expr} {te:TE} {tk:TO} {p2 pos:Pos}
end
theorem BL {h:Heap} {p q:Addr} {o o':Obj} (e:h.get? p=some o) (e':h.get? q=some o') (n:o.cls≠o'.cls):p≠q:=λz=>by
 rw[z,e'] at e;cases e;exact n rfl
theorem Dy {h:Heap} {a:Addr} {xs ys:Array Value} (h1:h.IsList a xs) (h2:h.IsTuple a ys):False:=by
 obtain⟨o,e,c,_⟩:=h1;obtain⟨o',e',c',_⟩:=h2;rw[e'] at e;cases e;rw[c'] at c;injection c with q;exact absurd q (by decide)
def Itz (K:YD) (a b:Addr):It:=
  ⟨λi H=>∃xs ys x y,SqL K H a xs/\SqL K H b ys/\xs[i]?=some x/\ys[i]?=some y,
   λi H v H'=>∃p x y,H p=none/\v=.ref p/\H'=upd H p (.tup [x,y])/\(∀xs,SqL K H a xs->xs[i]?=some x)/\∀ys,SqL K H b ys->ys[i]?=some y,
   λi H=>∃xs ys,SqL K H a xs/\SqL K H b ys/\(xs.length<=i\/ys.length<=i)⟩
theorem Zd {P:Program} {w:World} {K:YD} {elts:YJ} {k:Nat} {pos:Pos} (a b z TI TO i1 i2:Addr) (nd:[z,TI,TO,i1,i2].Nodup) :
  Turn P w K (.Tuple elts k pos) (Itz K a b) [z,TI,TO,i1,i2] z (λi h=>(∃f1,ZZ.IsZ h z TI TO .none f1)/\ZZ.Ci h TI [.ref i1,.ref i2]/\(∃olds:YE,ZZ.Ci h TO olds/\olds.length=2)/\h.IsListIter i1 a i/\h.IsListIter i2 b i) where
 mem:=by simp
 obj:=λi h st c hc=>by
  obtain⟨⟨f1,hz⟩,hTI,⟨olds,hTO,_⟩,⟨o1,e1,_,d1⟩,o2,e2,_,d2⟩:=st;simp only[QbS,Qbl,Qcq] at hc;rcases hc with rfl | rfl | rfl | rfl | rfl
  ·exact⟨_,hz,λv q=>by cases (show Data.fields _=Data.cell v from q)⟩
  ·exact⟨_,hTI,λv q=>by cases (show Data.seq _ _=Data.cell v from q)⟩
  ·exact⟨_,hTO,λv q=>by cases (show Data.seq _ _=Data.cell v from q)⟩
  ·exact⟨o1,e1,λv q=>by rw[d1] at q;cases q⟩
  ·exact⟨o2,e2,λv q=>by rw[d2] at q;cases q⟩
 keep:=λi h h' st k=>by
  obtain⟨⟨f1,hz⟩,hTI,⟨olds,hTO,l⟩,h1,h2⟩:=st;exact⟨⟨f1,k z (by simp) _ hz⟩,k TI (by simp) _ hTI,⟨olds,k TO (by simp) _ hTO,l⟩,h1.at λo e=>k i1 (by simp) o e,h2.at λo e=>k i2 (by simp) o e⟩
 item:=by
  intro X hP hw hK hc i jb s σ H E I hf st hg;subst hP hw hK;obtain⟨xs,ys,x,y,hq1,hq2,hx,hy⟩:=hg;obtain⟨us,ru,p1,z1⟩:=I.list hq1;obtain⟨ws,rw',p2,z2⟩:=I.list hq2;obtain⟨u,hu,ru'⟩:=ru.get hx;obtain⟨v,hv,rv'⟩:=rw'.get hy;obtain⟨⟨f1,hz⟩,hTI,⟨olds,hTO,lo⟩,hi1,hi2⟩:=st;simp only[QbB,QbS,Qbl,Qcq,not_or,QbP,Qbj,and_true] at nd;obtain⟨⟨n1,n2,n3,n4⟩,⟨n5,n6,n7⟩,⟨n8,n9⟩,n10⟩:=nd;have D:ZZ.Apart z TI TO [⟨i1,a,us.toArray⟩,⟨i2,b,ws.toArray⟩]:=by
   obtain⟨oa,ea,ca,_⟩:=p1.isList;obtain⟨ob,eb,cb,_⟩:=p2.isList;obtain⟨o1,e1,c1,_⟩:=id hi1;obtain⟨o2,e2,c2,_⟩:=id hi2;have l1:Value.type "list"≠Value.type "zip":=λq=>absurd (by injection q) (show ¬("list"="zip") by decide);have l2:Value.type "list"≠Value.type "tuple":=λq=>absurd (by injection q) (show ¬("list"="tuple") by decide);have l3:Value.type "list"≠Value.type "list_iterator":=λq=>absurd (by injection q) (show ¬("list"="list_iterator") by decide);refine⟨Ne.symm n1,Ne.symm n2,n5,λq hq=>?_,λq hq=>?_,λq hq r hr=>?_,?_⟩
   ·simp only[QbS,Qbl,Qcq] at hq;rcases hq with rfl | rfl
    ·exact⟨Ne.symm n3,Ne.symm n6,Ne.symm n8⟩
    ·exact⟨Ne.symm n4,Ne.symm n7,Ne.symm n9⟩
   ·simp only[QbS,Qbl,Qcq] at hq;rcases hq with rfl | rfl
    ·exact⟨BL ea hz (by rw[ca];exact l1),BL ea hTO (by rw[ca];exact l2)⟩
    ·exact⟨BL eb hz (by rw[cb];exact l1),BL eb hTO (by rw[cb];exact l2)⟩
   ·simp only[QbS,Qbl,Qcq] at hq hr;rcases hq with rfl | rfl <;> rcases hr with rfl | rfl
    ·exact BL ea e1 (by rw[ca,c1];exact l3)
    ·exact BL ea e2 (by rw[ca,c2];exact l3)
    ·exact BL eb e1 (by rw[cb,c1];exact l3)
    ·exact BL eb e2 (by rw[cb,c2];exact l3)
   ·simp[n10]
  have hat:∀q∈([⟨i1,a,us.toArray⟩,⟨i2,b,ws.toArray⟩]:List ZZ.Src),ZZ.SrcAt s.heap q i:=λq hq=>by
   simp only[QbS,Qbl,Qcq] at hq;rcases hq with rfl | rfl
   ·exact .inl ⟨hi1,p1.isList⟩
   ·exact .inl ⟨hi2,p2.isList⟩
  refine ZZ.OJ hz (Qi:=λr s'=>∃h',r=.ref s.heap.objs.size/\s'={ s with heap:=h' }/\ZZ.IsZ h' z TI TO (rawInt s.heap.objs.size) (.bool false)/\ZZ.Ci h' TI [.ref i1,.ref i2]/\ZZ.Ci h' TO [u,v]/\(∀q∈([⟨i1,a,us.toArray⟩,⟨i2,b,ws.toArray⟩]:List ZZ.Src),ZZ.SrcAt h' q (i+1))/\ZZ.Ci h' s.heap.objs.size [u,v]/\ZZ.Rest z TO [⟨i1,a,us.toArray⟩,⟨i2,b,ws.toArray⟩] s.heap h')
   (ZZ.Lx (xs:=[u,v]) D hz hTI hTO hat (by simp) rfl lo (λj q hj=>?_) (by show 2<=100;decide) λh' a1 a2 a3 a4 a5 a6 a7=>⟨h',rq,rq,a1,a2,a3,a4,a5,a7⟩) λr s' hQ=>?_
  ·match j,hj with
   | 0,hj=>cases hj;exact⟨u,rfl,by simpa using hu⟩
   | 1,hj=>cases hj;exact⟨v,rfl,by simpa using hv⟩
  obtain⟨h',rfl,rfl,a1,a2,a3,a4,a5,a7⟩:=hQ;refine⟨_,rq,ZZ.QX (s:={ s with heap:=h' }) a1 λh2 hz2 sb=>?_⟩;have hlt2:s.heap.objs.size≠z:=Qcf (Qcb hz);have hT2:ZZ.Ci h2 s.heap.objs.size [u,v]:=(sb.2 _ hlt2).trans a5;have new:Cm X.prog X.w (upd H s.heap.objs.size (.tup [x,y])) h2 s.heap.objs.size (.tup [x,y]):=
   ⟨by show 2<=sizeLine;decide,[u,v],.cons ru' (.cons rv' .nil),_,hT2,rq,0,rq⟩
  have I1:=I.Ma (h':=h2) (t':=s.toks) (Qch _) (λc q hc e=>(sb.2 c (λw=>hc (by simp[w]))).trans (a7 c q (λw=>hc (by simp[w])) (λw=>hc (by simp[w])) (λw=>hc (by simp only[QbU,List.map_nil,QbS,Qbl,Qcq] at w;rcases w with w | w <;> simp[w])) e)) hf new;have back:∀{it l:Addr} {items:Array Value},l≠z->l≠TO->l≠i1->l≠i2->it≠z->s.heap.IsList l items->ZZ.SrcAt h' ⟨it,l,items⟩ (i+1)->h2.IsListIter it l (i+1):=λm1 m2 m3 m4 m5 hl q=>by
   rcases q with⟨q1,_⟩|⟨_,q2⟩
   ·exact q1.at λo e=>(sb.2 _ m5).trans e
   ·obtain⟨o,e,r⟩:=hl;exact (Dy ⟨o,a7 _ o m1 m2 (by simp[m3,m4]) e,r⟩ q2).elim
  refine⟨.ref s.heap.objs.size,_,I1,rq,⟨s.heap.objs.size,x,y,I.hok.fresh (Qch _),rq,rq,λys' hy'=>by rw[I.Od hy' hq1];exact hx,λys' hy'=>by rw[I.Od hy' hq2];exact hy⟩,⟨⟨_,hz2⟩,(sb.2 _ (Ne.symm n1)).trans a2,⟨[u,v],(sb.2 _ (Ne.symm n2)).trans a3,rq⟩,?_,?_⟩,λc hc=>?_⟩
  ·exact back (D.a ⟨i1,a,us.toArray⟩ (by simp)).1 (D.a ⟨i1,a,us.toArray⟩ (by simp)).2 (D.ai ⟨i1,a,us.toArray⟩ (by simp) ⟨i1,a,us.toArray⟩ (by simp)) (D.ai ⟨i1,a,us.toArray⟩ (by simp) ⟨i2,b,ws.toArray⟩ (by simp)) (Ne.symm n3) p1.isList (a4 _ (by simp))
  ·exact back (D.a ⟨i2,b,ws.toArray⟩ (by simp)).1 (D.a ⟨i2,b,ws.toArray⟩ (by simp)).2 (D.ai ⟨i2,b,ws.toArray⟩ (by simp) ⟨i1,a,us.toArray⟩ (by simp)) (D.ai ⟨i2,b,ws.toArray⟩ (by simp) ⟨i2,b,ws.toArray⟩ (by simp)) (Ne.symm n4) p2.isList (a4 _ (by simp))
  ·have hlc:c≠s.heap.objs.size:=by
    have hmem:∃o,s.heap.get? c=some o:=by
     simp only[QbS,Qbl,Qcq] at hc;rcases hc with rfl | rfl | rfl | rfl | rfl
     ·exact⟨_,hz⟩
     ·exact⟨_,hTI⟩
     ·exact⟨_,hTO⟩
     ·obtain⟨o,e,_⟩:=hi1;exact⟨o,e⟩
     ·obtain⟨o,e,_⟩:=hi2;exact⟨o,e⟩
    obtain⟨o,e⟩:=hmem;exact Qcc (Qcb e)
   rw[Bk hlc];exact (hf c hc).1
 done:=by
  intro X hP hw hK hc i jb s σ H E I hf st hg;subst hP hw hK;obtain⟨xs,ys,hq1,hq2,hend⟩:=hg;obtain⟨us,ru,p1,z1⟩:=I.list hq1;obtain⟨ws,rw',p2,z2⟩:=I.list hq2;obtain⟨⟨f1,hz⟩,hTI,⟨olds,hTO,lo⟩,hi1,hi2⟩:=st;simp only[QbB,QbS,Qbl,Qcq,not_or,QbP,Qbj,and_true] at nd;obtain⟨⟨n1,n2,n3,n4⟩,⟨n5,n6,n7⟩,⟨n8,n9⟩,n10⟩:=nd;have D:ZZ.Apart z TI TO [⟨i1,a,us.toArray⟩,⟨i2,b,ws.toArray⟩]:=by
   obtain⟨oa,ea,ca,_⟩:=p1.isList;obtain⟨ob,eb,cb,_⟩:=p2.isList;obtain⟨o1,e1,c1,_⟩:=id hi1;obtain⟨o2,e2,c2,_⟩:=id hi2;have l1:Value.type "list"≠Value.type "zip":=λq=>absurd (by injection q) (show ¬("list"="zip") by decide);have l2:Value.type "list"≠Value.type "tuple":=λq=>absurd (by injection q) (show ¬("list"="tuple") by decide);have l3:Value.type "list"≠Value.type "list_iterator":=λq=>absurd (by injection q) (show ¬("list"="list_iterator") by decide);refine⟨Ne.symm n1,Ne.symm n2,n5,λq hq=>?_,λq hq=>?_,λq hq r hr=>?_,?_⟩
   ·simp only[QbS,Qbl,Qcq] at hq;rcases hq with rfl | rfl
    ·exact⟨Ne.symm n3,Ne.symm n6,Ne.symm n8⟩
    ·exact⟨Ne.symm n4,Ne.symm n7,Ne.symm n9⟩
   ·simp only[QbS,Qbl,Qcq] at hq;rcases hq with rfl | rfl
    ·exact⟨BL ea hz (by rw[ca];exact l1),BL ea hTO (by rw[ca];exact l2)⟩
    ·exact⟨BL eb hz (by rw[cb];exact l1),BL eb hTO (by rw[cb];exact l2)⟩
   ·simp only[QbS,Qbl,Qcq] at hq hr;rcases hq with rfl | rfl <;> rcases hr with rfl | rfl
    ·exact BL ea e1 (by rw[ca,c1];exact l3)
    ·exact BL ea e2 (by rw[ca,c2];exact l3)
    ·exact BL eb e1 (by rw[cb,c1];exact l3)
    ·exact BL eb e2 (by rw[cb,c2];exact l3)
   ·simp[n10]
  have hat:∀q∈([⟨i1,a,us.toArray⟩,⟨i2,b,ws.toArray⟩]:List ZZ.Src),ZZ.SrcAt s.heap q i:=λq hq=>by
   simp only[QbS,Qbl,Qcq] at hq;rcases hq with rfl | rfl
   ·exact .inl ⟨hi1,p1.isList⟩
   ·exact .inl ⟨hi2,p2.isList⟩
  have l1:=ru.length;have l2:=rw'.length;refine ZZ.KC hz (R:=λh'=>ZZ.Rest z TO [⟨i1,a,us.toArray⟩,⟨i2,b,ws.toArray⟩] s.heap h') (ZZ.LC (I.ok.hd hc) D hz hTI hTO hat (by simp) lo (by show 2<=100;decide) ?_ λh' e r st=>⟨h',e,rfl,rfl,r,st⟩) λh' r=>⟨rfl,I.Pr (h':=h') (t':=s.toks) (λc q hc e=>r c q (λw=>hc (by simp[w])) (λw=>hc (by simp[w])) (λw=>hc (by simp only[QbU,List.map_nil,QbS,Qbl,Qcq] at w;rcases w with w | w <;> simp[w])) e) hf⟩;rcases hend with h | h
  ·exact⟨_,QaN ..,by simp;omega⟩
  ·exact⟨_,Qaz _ (QaN ..),by simp;omega⟩
 self:=λ_ _ _ _ _ st h=>ZZ.Jm st.1.choose_spec h
def nG (K:YD) (ta:TA):TI:=fun σ H R=>ta σ H λvs H1=>∃a b,vs=[.ref a,.ref b]/\(∃xs,SqL K H1 a xs)/\(∃ys,SqL K H1 b ys)/\R (Itz K a b) H1
section
variable {X:Cx}
theorem cj {a b:Expr} {ta:TA} {p pos tp:Pos} {elts:YJ} {k:Nat} (hg:Gl X "zip") (hm:X.mg "zip"=none) (ha:PA X [a,b] ta)
  (hs:starEach [a,b] X.env=[(false,eval a X.env),(false,eval b X.env)]:=by rfl) (hs2:starEach [b] X.env=[(false,eval b X.env)]:=by rfl):PI X (.Tuple elts k tp) (.Call (.Name "zip" p) [a,b] [] pos) (nG X.K ta):=by
 intro jb s σ H R I h;refine Call_ (Gn I hg hm (u:=.type "zip") (by trivial) (Qac (thn (ha pos jb s σ H _ I h) λus s1 ⟨vs,H1,I1,r1,q1⟩=>?_) (by rw[hs,hs2]) (by rw[hs2];rfl)));obtain⟨a,b,e,⟨xs,hx⟩,⟨ys,hy⟩,q⟩:=q1;subst e;cases r1 with
 | cons r rr=>
  cases rr with
  | cons r' rr=>
   cases rr;cases r;cases r';obtain⟨us,ru,k1,z1⟩:=I1.list hx;obtain⟨ws,rw',k2,z2⟩:=I1.list hy;refine ZZ.Q7 (c1:="list_iterator") (c2:="list_iterator") (.inl ⟨rq,k1.isList⟩) (.inl ⟨rq,k2.isList⟩) λh' z TI TO i1 i2 f=>?_;refine ZZ.Jm (s:={ s1 with heap:=h' }) f.hz ?_;have nd:[z,TI,TO,i1,i2].Nodup:=by
    have a1:=f.ap.it ⟨i1,a,us.toArray⟩ (by simp);have a2:=f.ap.it ⟨i2,b,ws.toArray⟩ (by simp);have a3:i1≠i2:=by
     have:=f.ap.nd;simpa using this
    simp only[QbB,QbS,Qbl,Qcq,not_or,QbP,Qbj,and_true];exact⟨⟨Ne.symm f.ap.TIz,Ne.symm f.ap.TOz,Ne.symm a1.1,Ne.symm a2.1⟩,⟨f.ap.TITO,Ne.symm a1.2.1,Ne.symm a2.2.1⟩,⟨Ne.symm a1.2.2,Ne.symm a2.2.2⟩,a3⟩
   have at1:h'.IsListIter i1 a 0:=by
    rcases f.at_ ⟨i1,a,us.toArray⟩ (by simp) with⟨x1,_⟩|⟨_,x2⟩
    ·exact x1
    ·obtain⟨o,e,r⟩:=k1.isList;exact (Dy ⟨o,f.keep _ o e,r⟩ x2).elim
   have at2:h'.IsListIter i2 b 0:=by
    rcases f.at_ ⟨i2,b,ws.toArray⟩ (by simp) with⟨x1,_⟩|⟨_,x2⟩
    ·exact x1
    ·obtain⟨o,e,r⟩:=k2.isList;exact (Dy ⟨o,f.keep _ o e,r⟩ x2).elim
   refine⟨z,[z,TI,TO,i1,i2],_,_,H1,rq,I1.kept (t':=s1.toks) λc o e=>f.keep c o e,Zd a b z TI TO i1 i2 nd,⟨⟨_,f.hz⟩,f.hTI,⟨_,f.hTO,rq⟩,at1,at2⟩,λc hc=>?_,q⟩;have hn:=f.new;have hcs:s1.heap.objs.size<=c:=by
    simp only[QbS,Qbl,Qcq] at hc;rcases hc with rfl | rfl | rfl | rfl | rfl
    ·exact hn.1
    ·exact hn.2.1
    ·exact hn.2.2.1
    ·exact hn.2.2.2 ⟨c,a,us.toArray⟩ (by simp)
    ·exact hn.2.2.2 ⟨c,b,ws.toArray⟩ (by simp)
   exact I1.Qx hcs (I1.hok.fresh hcs)
end
mutual
inductive Jh (K:YD) (H:Hp):V->PyData->Prop
 | non:Jh K H .non .none
 | bl (b:Bool):Jh K H (.bl b) (.bool b)
 | int (i:Int):Jh K H (.int i) (.int i)
 | str (x:Str):Jh K H (.str x) (.str x)
 | tup {a:Addr} {xs:YG} {ds:List PyData}:SqT K H a xs->Gu K H xs ds->Jh K H (.ref a) (.tuple ds)
inductive Gu (K:YD) (H:Hp):YG->List PyData->Prop
 | nil:Gu K H [] []
 | cons {x:V} {d:PyData} {xs:YG} {ds:List PyData}:Jh K H x d->Gu K H xs ds->Gu K H (x::xs) (d::ds)
end
section
variable {X:Cx} {jb:YC} {σ : St} {H:Hp} {s:Shared}
mutual
theorem Jh.reads (I:Inv X jb σ H s):∀{v:V} {d:PyData} {u:Value},Jh X.K H v d->RelV v u->∃as,Reads s.heap u d as
 | _,_,_,.non,r=>by cases (show _=Value.none from r);exact⟨_,.none⟩
 | _,_,_,.bl b,r=>by cases (show _=Value.bool b from r);exact⟨_,.bool b⟩
 | _,_,_,.int i,r=>by obtain⟨t,rfl⟩:=(show ∃t,_=Value.int i t from r);exact⟨_,.int i t⟩
 | _,_,_,.str x,r=>by obtain⟨t,rfl⟩:=(show ∃t,_=Value.str x t from r);exact⟨_,.str x t⟩
 | _,_,_,.tup (a:=a) (xs:=xs) e q,r=>by
  cases (show _=Value.ref a from r)
  obtain⟨its,rv,⟨o,ho,hc,n,hd⟩,_⟩:=I.tuple e;obtain⟨as,z⟩:=Gu.reads I q rv;exact⟨_,.tuple ho hc hd (by simpa using z)⟩
theorem Gu.reads (I:Inv X jb σ H s):∀{xs:YG} {ds:List PyData} {us:YE},Gu X.K H xs ds->Vals xs us->∃as,ReadsAll s.heap us ds as
 | _,_,_,.nil,.nil=>⟨_,.nil⟩
 | _,_,_,.cons p q,.cons r t=>by
  obtain⟨as,a1⟩:=Jh.reads I p r;obtain⟨bs,b1⟩:=Gu.reads I q t;exact⟨_,.cons a1 b1⟩
end
end
section
variable {X:Cx} {K:YD}
theorem Ju {es:YJ} {k:Nat} {pos:Pos} {t:TGs} {n:Nat} (hK:X.K=K) (hc:X.calm=true) (h:PGs X es t)
  (hn:(assignEach es X.env).length=n:=by rfl) (hst:(assignEach es X.env).findIdx? (·.1)=none:=by rfl):PG X (.Tuple es k pos) (iy K n t):=hK ▸ JM hc h hn hst
end
end L2
namespace L2
open PySem PySem.Spec PyProof.Rows
abbrev aM:YE:=[.type "ValueError",.type "Exception",.type "BaseException",.type "object"]
structure XCl (K:YD) (C:Addr):Prop where
 ex:PySem.W.excIn K C aM "ValueError.__new__"=true
 ga:findIn K (.ref C) "__getattribute__"=some (some (.builtin "BaseException.__getattribute__"))
 gn:findIn K (.ref C) "__getattr__"=some none
 ca:findIn K (.ref C) "__class__"=some (some (.builtin "object.__class__"))
 mo:PySem.W.subIn K (.ref C) (.type "object")=some true
 mb:PySem.W.subIn K (.ref C) (.type "BaseException")=some true
 kp:keepIn K (.ref C)=true
section
variable {K:YD} {C:Addr}
theorem XCl.look (T:XCl K C):∃dd cd sl,K.lookup C=some ⟨.type "type",dd,.cls cd,sl⟩:=by
 have q:=T.ex;unfold PySem.W.excIn at q;split at q
 ·rename_i dd cd sl ho;exact⟨dd,cd,sl,ho⟩
 ·cases q
theorem XCl.obj (T:XCl K C) {h:Heap} (X:K.In h):∃bm N nm q bs hdct sn sub ab col dd k0 k1 k2 k3 k5 mN,h.get? C=some (excClassObj nm q C N bs bm hdct sn sub ab col dd k0 k1 k2 k3 k5 "ValueError.__new__")/\h.Ns N mN/\mN "__init__"=none/\OwnTail h aM bm:=by
 have q:=T.ex;unfold PySem.W.excIn at q;split at q
 ·rename_i dd cd sl ho;split at q
  ·rename_i C' bm k0 k1 k2 k3 n k5 hm hs;simp only[Qbm,beq_iff_eq,Bool.not_eq_true'] at q;obtain⟨⟨⟨⟨⟨rfl,rfl⟩,hdel⟩,ht⟩,hok⟩,hni⟩:=q;obtain⟨nm,bs,mro,ns,qn,hd,sn,sub,ab,col,del⟩:=cd;dsimp only at hm hdel hok hni;subst hm hdel;have hsl:sl=#[k0,k1,k2,k3,some (.builtin "ValueError.__new__"),k5]:=by
    obtain⟨l⟩:=sl;simp only at hs;rw[hs]
   subst hsl;exact⟨bm,ns,nm,qn,bs,hd,sn,sub,ab,col,dd,k0,k1,k2,k3,k5,_,X _ _ ho,.of_isNs (PySem.W.isNs_of_in X hok),PySem.W.nsMap_none_of_in X hok hni,PySem.W.tail_of_in X ht⟩
  ·cases q
 ·cases q
end
def XAt (a C:Addr) (h:Heap):Prop:=∃o vs,h.get? a=some o/\o.cls=.ref C/\o.data=.fields vs/\vs[2]?=some .none
section
variable {prog:Program} {w:World} {A:Around} {E:YA} {h:Heap} {g:Array GenState} {d:Drawn} {t:Nat} {os:OsState} {K:YD} {a C:Addr} {o:Obj}
end
def xo (a C:Addr):HO:=.ext (XAt a C)
section
variable {X:Cx} {jb:YC} {σ : St} {H:Hp} {s:Shared}
end
def XT (B:Heap) (e C:Addr) (fl:Option Value) (h:Heap):Prop:=
 ∃oe vs,h.get? e=some oe/\oe.cls=.ref C/\oe.data=.fields vs/\vs[2]?=some .none /\
  match fl with
  | none=>vs[1]?=some .none
  | some f=>∃T oT ts,vs[1]?=some (.ref T)/\B.get? T=none/\T≠e/\h.get? T=some oT/\oT.data=.fields ts/\ts[3]?=some f
structure Fl (B:Heap) (l:List Env) (e C:Addr) (fl:Option Value) (h:Heap):Prop where
 stays:B.StaysIn h
 new:B.get? e=none
 fr:h.FunFrames B l
 tr:XT B e C fl h
theorem XT.at {B h:Heap} {e C:Addr} {fl:Option Value} (x:XT B e C fl h):XAt e C h:=by
 obtain⟨oe,vs,h1,h2,h3,h4,_⟩:=x;exact⟨oe,vs,h1,h2,h3,h4⟩
section
variable {M:Model} {A:Around} {E:YA} {s:Shared} {B:Heap} {env:Env} {outer l:List Env} {L e C:Addr} {Q:YH}
end
theorem Cm.there {P:Program} {w:World} {H:Hp} {h:Heap} {a:Addr} {o:HO} (x:Cm P w H h a o):∃u,h.get? a=some u:=by
 cases o with
 | lst xs=>obtain⟨_,its,n,_,q⟩:=x;exact⟨_,q⟩
 | tup xs=>obtain⟨_,its,_,ob,q,_⟩:=x;exact⟨_,q⟩
 | dK kvs=>obtain⟨_,_,vs,_,ob,es,ep,q,_⟩:=x;exact⟨_,q⟩
 | dT kvs=>obtain⟨_,_,xs,_,ob,es,ep,q,_⟩:=x;exact⟨_,q⟩
 | set S n=>obtain⟨ob,es,ep,t,q,_⟩:=x;exact⟨_,q⟩
 | ins C dx fs=>obtain⟨_,_,_,q,_⟩:=x;exact⟨_,q⟩
 | own y=>exact x
 | xd fs=>obtain⟨mA,⟨od,es,ep,q,_⟩,_⟩:=x;exact⟨_,q⟩
 | rng lo hi=>obtain⟨t,u,v,q⟩:=x;exact⟨_,q⟩
 | frz ob u=>exact⟨_,x.1⟩
 | tbl ps=>exact⟨_,x⟩
 | met f y=>exact⟨_,x⟩
 | ext φ=>exact x.2.1
structure Exc (P:Program) (w:World) (outer:List Env) (H:Hp) (s:Shared) (e C:Addr) (B:Heap) (H':Hp) (s':Shared):Prop where
 os:s'.os=s.os
 bare:AllBare s'.gens
 fl:∃fl,(fl=none\/fl=some .none)/\Fl B outer e C fl s'.heap
 un:Un (frs outer) [] H H' s.heap s'.heap
 hok:HOk P w H' s'.heap
 tin:∀b o,s'.heap.get? b=some o->H' b≠none->B.get? b=some o
 old:∀b o,s.heap.get? b=some o->H b=none->b∉frs outer->B.get? b=some o
 ex:∀b o,s.heap.get? b=some o->b∉frs outer->∃o',B.get? b=some o'
section
variable {P:Program} {w:World} {outer:List Env} {H H':Hp} {s s':Shared} {e C:Addr} {B h2:Heap} {fl:Option Value}
theorem Exc.free (x:Exc P w outer H s e C B H' s'):H' e=none:=by
 cases hq:H' e with
 | none=>rfl
 | some v=>
  obtain⟨o1,q1⟩:=(x.hok e v hq).there;have q2:=x.tin e o1 q1 (by rw[hq];exact λz=>nomatch z);obtain⟨_,_,g⟩:=x.fl;rw[g.new] at q2;cases q2
theorem Exc.fresh (x:Exc P w outer H s e C B H' s'):s.heap.get? e=none:=by
 cases hq:s.heap.get? e with
 | none=>rfl
 | some o=>
  obtain⟨_,_,g⟩:=x.fl;by_cases hb:e∈frs outer
  ·obtain⟨_,o1,q1,nf⟩:=g.fr.mem hb;obtain⟨oe,vs,q2,_,q3,_⟩:=g.tr;rw[q1] at q2;cases q2;exact absurd q3 (nf vs)
  ·obtain⟨o1,q1⟩:=x.ex e o hq hb;rw[g.new] at q1;cases q1
end
section
variable {X:Cx} {jb:YC} {σ : St} {H H':Hp} {s s':Shared} {e C:Addr} {B h2:Heap} {fl:Option Value}
theorem Exc.made {args:YE} {h':Heap} (I:Inv X jb σ H s) (hx:Heap.MadeExcOf s.heap h' e (.ref C) args):Exc X.prog X.w X.stack H s e C (hideAll s.heap (frs X.stack)) H { s with heap:=h' }:=by
 have st:(hideAll s.heap (frs X.stack)).StaysIn s.heap:=λb o q=>PySem.W.of_hideAll _ q;refine⟨rq,I.bare,⟨none,.inl rfl,⟨λb o q=>hx.keeps b o (st b o q),?_,?_,?_⟩⟩,Un.kept hx.keeps,I.hok.kept hx.keeps,λb o q hb=>?_,λb o q n hb=>hideAll_get _ q hb,λb o q hb=>⟨o,hideAll_get _ q hb⟩⟩
 ·cases hq:(hideAll s.heap (frs X.stack)).get? e with
  | none=>rfl
  | some o=>
   have q:=st e o hq;rw[hx.new] at q;cases q
 ·have f0:s.heap.FunFrames (hideAll s.heap (frs X.stack)) X.stack:=PySem.W.funFrames_hide I.stack λenv he a ha=>List.mem_filterMap.mpr ⟨env,he,ha⟩;exact f0.of_keeps λb o q _=>⟨o,hx.keeps b o q,rq⟩
 ·obtain⟨t,q,_⟩:=hx.there;exact⟨_,_,q,rq,rq,rq,rq⟩
 ·cases hq:H b with
  | none=>exact absurd hq hb
  | some v=>
   obtain⟨o1,q1⟩:=(I.hok b v hq).there;have q2:=hx.keeps b o1 q1;have q':h'.get? b=some o:=q;rw[q'] at q2;cases q2;refine hideAll_get _ q1 λhm=>?_;rw[I.Py b hm] at hq;cases hq
end
theorem PS.nox {X:Cx} {st:Stmt} {t:TS} (h:PS X.nox st t):PS X st t:=λjb s σ H D I hw=>
 Qcn (h jb s σ H D (I.wish _) hw) (λ_ _ q=>q.Ft) λ_ _ z=>False.elim z
section
variable {M:Model} {A:Around} {E:YA} {h:Heap} {g:Array GenState} {d:Drawn} {t:Nat} {os:OsState} {K:YD} {e C HC:Addr}
end
abbrev Cx.by (X:Cx) (pn:YC) (E:YA):Cx:={ X with pn:=pn,xe:=E }
section
variable {X:Cx} {jb Wh pn:YC} {σ : St} {H:Hp} {s:Shared} {E:YA} {ev:Value}
theorem Inv.by (I:Inv X jb σ H s) (E:YA):Inv (X.by (X.pn++jb) E) [] σ H s:=
 ⟨⟨I.ok.mod,I.ok.kind,I.ok.glob,I.ok.blt,I.ok.above,I.ok.inj,I.ok.has,I.ok.cab,I.ok.hd,I.ok.frames,I.ok.stk,I.ok.exf,I.ok.bs,I.ok.bsz,I.ok.Qf,I.ok.Qz,I.ok.Hr,I.ok.frf⟩,I.os,I.bare,I.base,I.loc,I.cell,I.free,I.Ga,
  λp hp=>I.pin p (by simpa using hp),I.hok,I.len⟩
end
def Ends.drop (D:Ends) (i:Nat):Ends where
 nx:=fun σ H=>D.nx (σ.set i none) H
 rt:=D.rt
 bk:=fun σ H=>D.bk (σ.set i none) H
 ct:=fun σ H=>D.ct (σ.set i none) H
structure Kl (k:Nat) (A:Around):Prop where
 dp:A.depth+3*k+5 < recursionLimit
 un:A.units+16*k+200 < cLine
theorem Kl.deeper {k:Nat} {A:Around} (r:Kl (k+1) A) (env:Env):Kl k (A.deeper env):=
 ⟨by have:=r.dp;show A.depth+1+3*k+5 < _;omega,by have:=r.un;show A.units+3+16*k+200 < _;omega⟩
theorem Kl.mono {j k:Nat} {A:Around} (r:Kl k A) (h:j<=k):Kl j A:=⟨by have:=r.dp;omega,by have:=r.un;omega⟩
theorem Kl.units {k:Nat} {A:Around} (r:Kl k A):A.units+64 < cLine:=by have:=r.un;omega
end L2
namespace L2
open PySem PySem.Spec PyProof.Rows PySem.SeqAt
theorem Bo {c:Const} {k:Nat} {p:Pos} {es:YJ} {env:Env}:starEach (.Constant c k p::es) env=(false,eval (.Constant c k p) env)::starEach es env:=by rfl
theorem Pz {f:Expr} {as:YJ} {ks:List Keyword} {p:Pos} {es:YJ} {env:Env}:starEach (.Call f as ks p::es) env=(false,eval (.Call f as ks p) env)::starEach es env:=by rfl
theorem Mg {as:YJ} {k:Nat} {p:Pos} {es:YJ} {env:Env}:starEach (.Tuple as k p::es) env=(false,eval (.Tuple as k p) env)::starEach es env:=by rfl
section
variable {X:Cx}
end
section
variable {prog:Program} {w:World} {A:Around} {E:YA} {s:Shared}
end
end L2
namespace L2
open PySem PySem.Spec PyProof.Rows
section
variable {X:Cx} {jb:YC} {σ : St} {H:Hp} {s:Shared} {a:Addr} {kvs:YM} {o:Obj}
end
section
variable {a l:Addr} {o:Obj} {kvs:YM} {g:TG} {tb:TS} {D:Ends} {σ : St} {H:Hp} {tt:TT} {te tk tv:TE} {Q:VK}
end
open PySem.W (KasT kas_asc kas_desc kas_rev kas_tail3 kas_descPart kas_count kas_place kas_bin kas_sort)
def Pm (n:Nat) (p:Array Nat):Prop:=p.toList.Perm (List.range n)
theorem Pm.lt {n:Nat} {p:Array Nat} (h:Pm n p) (n0:0 < n) (i:Nat):p.getD i 0 < n:=by
 by_cases hi:i < p.size
 ·have e:p.getD i 0=p[i]:=by simp[hi]
  rw[e];have hm:p[i]∈p.toList:=by simp
  exact List.mem_range.mp (h.mem_iff.mp hm)
 ·have e:p.getD i 0=0:=by simp[hi]
  rw[e];exact n0
section
variable {n:Nat} (n0:0 < n)
include n0
end
section
variable {prog:Program} {w:World} {A:Around} {E:YA} {s:Shared}
end
theorem cZ {h:Heap} {a:Addr} {m m':YB} (x:h.Ns a m) (y:h.Ns a m'):m=m':=by
 obtain⟨o,es,ep,h1,h2,_,h3⟩:=x;obtain⟨o',es',ep',g1,g2,_,g3⟩:=y;rw[h1] at g1;cases g1;rw[h2] at g2;cases g2
 funext k
 rw[<-h3,<-g3]
theorem range_getD {α : Type} (d:α) (vs:List α):(List.range vs.length).map (λi=>vs.getD i d)=vs:=by
 apply List.ext_getElem
 ·simp
 ·intro i h1 h2;simp[h2]
def j4 (K:YD) (H:Hp) (vs:YG):Prop:=∀v∈vs,∃t ns,v=.ref t/\SqT K H t ((ns:List Int).map V.int)/\0 < ns.length
end L2
namespace L2
open PySem PySem.Spec PyProof.Rows
open PySem.W (KasT kas_asc kas_desc kas_rev kas_tail3 kas_descPart kas_count kas_place kas_bin kas_sort)
section
variable {n:Nat} {ky:Nat->Int}
def Gk (ky:Nat->Int) (p:Array Nat) (i:Nat):Int:=ky (p.getD i 0)
def Inj (n:Nat) (ky:Nat->Int):Prop:=∀i j,i < n->j < n->ky i=ky j->i=j
def iT (ky:Nat->Int) (p:Array Nat) (m:Nat):Prop:=∀i,i+1 < m->Gk ky p i < Gk ky p (i+1)
def W8 (ky:Nat->Int) (p:Array Nat) (m:Nat):Prop:=∀i j,i < j->j < m->Gk ky p i < Gk ky p j
theorem iT.all {p:Array Nat} {m:Nat} (h:iT ky p m):W8 ky p m:=λi j hij hj=>by
 induction j with
 | zero=>omega
 | succ j ih=>
  have h1:=h j hj;by_cases e:i=j
  ·rw[e];exact h1
  ·exact Int.lt_trans (ih (by omega) (by omega)) h1
theorem gA {α : Type} {l:List α} (nd:l.Nodup) {i j:Nat} (hi:i < l.length) (hj:j < l.length) (e:l[i]=l[j]):i=j:=by
 rcases Nat.lt_trichotomy i j with h | h | h
 ·exact absurd e (Qag.mp nd i j hi hj h)
 ·exact h
 ·exact absurd e.symm (Qag.mp nd j i hj hi h)
theorem Pm.size {p:Array Nat} (h:Pm n p):p.size=n:=by
 have:=List.Perm.length_eq h;simpa using this
theorem Pm.ne (hi:Inj n ky) {p:Array Nat} (h:Pm n p) {i j:Nat} (a:i < n) (b:j < n) (ne:i≠j):Gk ky p i≠Gk ky p j:=λe=>by
 have n0:0 < n:=by omega
 have hs:=h.size;have e:=hi _ _ (h.lt n0 i) (h.lt n0 j) e;have nd:p.toList.Nodup:=(List.Perm.nodup_iff h).mpr List.nodup_range;have e1:p.getD i 0=p.toList[i]'(by simp[hs,a]):=by simp[hs,a]
 have e2:p.getD j 0=p.toList[j]'(by simp[hs,b]):=by simp[hs,b]
 rw[e1,e2] at e;exact ne (gA nd _ _ e)
theorem W8.list {p:Array Nat} (h:Pm n p) (R:W8 ky p n):(p.toList.map ky).Pairwise (· < ·):=by
 have hs:=h.size;rw[Qag];intro i j hi hj hij;have hi':i < n:=by simpa [hs] using hi
 have hj':j < n:=by simpa [hs] using hj
 have:=R i j hij hj';unfold Gk at this;have e1:p.getD i 0=p[i]'(by omega):=by simp[hs,hi']
 have e2:p.getD j 0=p[j]'(by omega):=by simp[hs,hj']
 rw[e1,e2] at this;simpa using this
end
section
variable {prog:Program} {w:World} {A:Around} {s:Shared}
end
end L2
namespace L2
open PySem PySem.Spec PyProof.Rows
theorem Cy.Xn {k:Nat} {A:Around} (r:Cy k A):A.units+66 < cLine:=by have:=r.un;omega
section
variable {X:Cx} {K:YD}
end
end L2
namespace PySem
open Sem (wp)
open AutoSeq1 (wpAny_loadPart')
section
variable {prog:Program} {w:World} {A:Around} {E:YA} {s:Shared}
end
end PySem
namespace L2
open PySem PySem.Spec PyProof.Rows
section
variable {X:Cx}
end
section
variable {X:Cx}
end
section
variable {X:Cx}
end
section
variable {prog:Program} {w:World} {A:Around} {R:Result->Shared->Prop} {s:Shared} {elt t1 i1 t2 i2:Expr} {scope:Scope} {pos:Pos} {it acc:Value} {env:Env}
end
end L2
namespace L2
open PySem
theorem Mi {a b:Expr} {op:Operator} {p:Pos} {es:YJ} {env:Env}:starEach (.BinOp a op b p::es) env=(false,eval (.BinOp a op b p) env)::starEach es env:=by rfl
theorem jq {a:Expr} {op:UnaryOp} {p:Pos} {es:YJ} {env:Env}:starEach (.UnaryOp op a p::es) env=(false,eval (.UnaryOp op a p) env)::starEach es env:=by rfl
theorem bO {x:Str} {p:Pos} {es:YJ} {env:Env}:starEach (.Name x p::es) env=(false,eval (.Name x p) env)::starEach es env:=by rfl
theorem Xx {as:YJ} {p:Pos} {es:YJ} {env:Env}:starEach (.List as p::es) env=(false,eval (.List as p) env)::starEach es env:=by rfl
theorem Mh {a b:Expr} {p:Pos} {es:YJ} {env:Env}:starEach (.Subscript a b p::es) env=(false,eval (.Subscript a b p) env)::starEach es env:=by rfl
end L2
namespace L2
open PySem PySem.Spec PyProof.Rows
def Xa (K:YD) (a b:Addr):It:=
  ⟨λi H=>∃xs ys x y,H a=some (.tup xs)/\H b=some (.tup ys)/\xs[i]?=some x/\ys[i]?=some y,
   λi H v H'=>∃p x y,H p=none/\v=.ref p/\H'=upd H p (.tup [x,y])/\(∀xs,H a=some (.tup xs)->xs[i]?=some x)/\∀ys,H b=some (.tup ys)->ys[i]?=some y,
   λi H=>∃xs ys,H a=some (.tup xs)/\H b=some (.tup ys)/\(xs.length<=i\/ys.length<=i)⟩
theorem VJ {P:Program} {w:World} {K:YD} {elts:YJ} {k:Nat} {pos:Pos} (a b z TI TO i1 i2:Addr) (nd:[z,TI,TO,i1,i2].Nodup) :
  Turn P w K (.Tuple elts k pos) (Xa K a b) [z,TI,TO,i1,i2] z (λi h=>(∃f1,ZZ.IsZ h z TI TO .none f1)/\ZZ.Ci h TI [.ref i1,.ref i2]/\(∃olds:YE,ZZ.Ci h TO olds/\olds.length=2)/\h.IsTupleIter i1 a i/\h.IsTupleIter i2 b i) where
 mem:=by simp
 obj:=λi h st c hc=>by
  obtain⟨⟨f1,hz⟩,hTI,⟨olds,hTO,_⟩,⟨o1,e1,_,d1⟩,o2,e2,_,d2⟩:=st;simp only[QbS,Qbl,Qcq] at hc;rcases hc with rfl | rfl | rfl | rfl | rfl
  ·exact⟨_,hz,λv q=>by cases (show Data.fields _=Data.cell v from q)⟩
  ·exact⟨_,hTI,λv q=>by cases (show Data.seq _ _=Data.cell v from q)⟩
  ·exact⟨_,hTO,λv q=>by cases (show Data.seq _ _=Data.cell v from q)⟩
  ·exact⟨o1,e1,λv q=>by rw[d1] at q;cases q⟩
  ·exact⟨o2,e2,λv q=>by rw[d2] at q;cases q⟩
 keep:=λi h h' st k=>by
  obtain⟨⟨f1,hz⟩,hTI,⟨olds,hTO,l⟩,h1,h2⟩:=st;exact⟨⟨f1,k z (by simp) _ hz⟩,k TI (by simp) _ hTI,⟨olds,k TO (by simp) _ hTO,l⟩,h1.at λo e=>k i1 (by simp) o e,h2.at λo e=>k i2 (by simp) o e⟩
 item:=by
  intro X hP hw hK hc i jb s σ H E I hf st hg;subst hP hw hK;obtain⟨xs,ys,x,y,hq1,hq2,hx,hy⟩:=hg;obtain⟨us,ru,p1,z1⟩:=I.tuple (SqT.of hq1);obtain⟨ws,rw',p2,z2⟩:=I.tuple (SqT.of hq2);obtain⟨u,hu,ru'⟩:=ru.get hx;obtain⟨v,hv,rv'⟩:=rw'.get hy;obtain⟨⟨f1,hz⟩,hTI,⟨olds,hTO,lo⟩,hi1,hi2⟩:=st;simp only[QbB,QbS,Qbl,Qcq,not_or,QbP,Qbj,and_true] at nd;obtain⟨⟨n1,n2,n3,n4⟩,⟨n5,n6,n7⟩,⟨n8,n9⟩,n10⟩:=nd;have D:ZZ.Apart z TI TO [⟨i1,a,us.toArray⟩,⟨i2,b,ws.toArray⟩]:=by
   obtain⟨oa,ea,ca,_⟩:=id p1;obtain⟨ob,eb,cb,_⟩:=id p2;obtain⟨o1,e1,c1,_⟩:=id hi1;obtain⟨o2,e2,c2,_⟩:=id hi2;have aTO:a≠TO:=λq=>by
    have:=(hf TO (by simp)).1;rw[<-q,hq1] at this;cases this
   have bTO:b≠TO:=λq=>by
    have:=(hf TO (by simp)).1;rw[<-q,hq2] at this;cases this
   have t1:Value.type "tuple"≠Value.type "zip":=λq=>absurd (by injection q) (show ¬("tuple"="zip") by decide);have t2:Value.type "tuple"≠Value.type "tuple_iterator":=λq=>absurd (by injection q) (show ¬("tuple"="tuple_iterator") by decide);refine⟨Ne.symm n1,Ne.symm n2,n5,λq hq=>?_,λq hq=>?_,λq hq r hr=>?_,?_⟩
   ·simp only[QbS,Qbl,Qcq] at hq;rcases hq with rfl | rfl
    ·exact⟨Ne.symm n3,Ne.symm n6,Ne.symm n8⟩
    ·exact⟨Ne.symm n4,Ne.symm n7,Ne.symm n9⟩
   ·simp only[QbS,Qbl,Qcq] at hq;rcases hq with rfl | rfl
    ·exact⟨BL ea hz (by rw[ca];exact t1),aTO⟩
    ·exact⟨BL eb hz (by rw[cb];exact t1),bTO⟩
   ·simp only[QbS,Qbl,Qcq] at hq hr;rcases hq with rfl | rfl <;> rcases hr with rfl | rfl
    ·exact BL ea e1 (by rw[ca,c1];exact t2)
    ·exact BL ea e2 (by rw[ca,c2];exact t2)
    ·exact BL eb e1 (by rw[cb,c1];exact t2)
    ·exact BL eb e2 (by rw[cb,c2];exact t2)
   ·simp[n10]
  have hat:∀q∈([⟨i1,a,us.toArray⟩,⟨i2,b,ws.toArray⟩]:List ZZ.Src),ZZ.SrcAt s.heap q i:=λq hq=>by
   simp only[QbS,Qbl,Qcq] at hq;rcases hq with rfl | rfl
   ·exact .inr ⟨hi1,p1⟩
   ·exact .inr ⟨hi2,p2⟩
  refine ZZ.OJ hz (Qi:=λr s'=>∃h',r=.ref s.heap.objs.size/\s'={ s with heap:=h' }/\ZZ.IsZ h' z TI TO (rawInt s.heap.objs.size) (.bool false)/\ZZ.Ci h' TI [.ref i1,.ref i2]/\ZZ.Ci h' TO [u,v]/\(∀q∈([⟨i1,a,us.toArray⟩,⟨i2,b,ws.toArray⟩]:List ZZ.Src),ZZ.SrcAt h' q (i+1))/\ZZ.Ci h' s.heap.objs.size [u,v]/\ZZ.Rest z TO [⟨i1,a,us.toArray⟩,⟨i2,b,ws.toArray⟩] s.heap h')
   (ZZ.Lx (xs:=[u,v]) D hz hTI hTO hat (by simp) rfl lo (λj q hj=>?_) (by show 2<=100;decide) λh' a1 a2 a3 a4 a5 a6 a7=>⟨h',rq,rq,a1,a2,a3,a4,a5,a7⟩) λr s' hQ=>?_
  ·match j,hj with
   | 0,hj=>cases hj;exact⟨u,rfl,by simpa using hu⟩
   | 1,hj=>cases hj;exact⟨v,rfl,by simpa using hv⟩
  obtain⟨h',rfl,rfl,a1,a2,a3,a4,a5,a7⟩:=hQ;refine⟨_,rq,ZZ.QX (s:={ s with heap:=h' }) a1 λh2 hz2 sb=>?_⟩;have hlt2:s.heap.objs.size≠z:=Qcf (Qcb hz);have hT2:ZZ.Ci h2 s.heap.objs.size [u,v]:=(sb.2 _ hlt2).trans a5;have new:Cm X.prog X.w (upd H s.heap.objs.size (.tup [x,y])) h2 s.heap.objs.size (.tup [x,y]):=
   ⟨by show 2<=sizeLine;decide,[u,v],.cons ru' (.cons rv' .nil),_,hT2,rq,0,rq⟩
  have I1:=I.Ma (h':=h2) (t':=s.toks) (Qch _) (λc q hc e=>(sb.2 c (λw=>hc (by simp[w]))).trans (a7 c q (λw=>hc (by simp[w])) (λw=>hc (by simp[w])) (λw=>hc (by simp only[QbU,List.map_nil,QbS,Qbl,Qcq] at w;rcases w with w | w <;> simp[w])) e)) hf new;have bI:∀{it l:Addr} {items:Array Value},l≠z->l≠TO->l≠i1->l≠i2->it≠z->s.heap.IsTuple l items->ZZ.SrcAt h' ⟨it,l,items⟩ (i+1)->h2.IsTupleIter it l (i+1):=λm1 m2 m3 m4 m5 hl q=>by
   rcases q with⟨_,q2⟩|⟨q1,_⟩
   ·obtain⟨o,e,r⟩:=hl;exact (Dy q2 ⟨o,a7 _ o m1 m2 (by simp[m3,m4]) e,r⟩).elim
   ·exact q1.at λo e=>(sb.2 _ m5).trans e
  refine⟨.ref s.heap.objs.size,_,I1,rq,⟨s.heap.objs.size,x,y,I.hok.fresh (Qch _),rq,rq,λys' hy'=>by (rw[hq1] at hy';cases hy';exact hx),λys' hy'=>by (rw[hq2] at hy';cases hy';exact hy)⟩,⟨⟨_,hz2⟩,(sb.2 _ (Ne.symm n1)).trans a2,⟨[u,v],(sb.2 _ (Ne.symm n2)).trans a3,rq⟩,?_,?_⟩,λc hc=>?_⟩
  ·exact bI (D.a ⟨i1,a,us.toArray⟩ (by simp)).1 (D.a ⟨i1,a,us.toArray⟩ (by simp)).2 (D.ai ⟨i1,a,us.toArray⟩ (by simp) ⟨i1,a,us.toArray⟩ (by simp)) (D.ai ⟨i1,a,us.toArray⟩ (by simp) ⟨i2,b,ws.toArray⟩ (by simp)) (Ne.symm n3) p1 (a4 _ (by simp))
  ·exact bI (D.a ⟨i2,b,ws.toArray⟩ (by simp)).1 (D.a ⟨i2,b,ws.toArray⟩ (by simp)).2 (D.ai ⟨i2,b,ws.toArray⟩ (by simp) ⟨i1,a,us.toArray⟩ (by simp)) (D.ai ⟨i2,b,ws.toArray⟩ (by simp) ⟨i2,b,ws.toArray⟩ (by simp)) (Ne.symm n4) p2 (a4 _ (by simp))
  ·have hlc:c≠s.heap.objs.size:=by
    have hmem:∃o,s.heap.get? c=some o:=by
     simp only[QbS,Qbl,Qcq] at hc;rcases hc with rfl | rfl | rfl | rfl | rfl
     ·exact⟨_,hz⟩
     ·exact⟨_,hTI⟩
     ·exact⟨_,hTO⟩
     ·obtain⟨o,e,_⟩:=hi1;exact⟨o,e⟩
     ·obtain⟨o,e,_⟩:=hi2;exact⟨o,e⟩
    obtain⟨o,e⟩:=hmem;exact Qcc (Qcb e)
   rw[Bk hlc];exact (hf c hc).1
 done:=by
  intro X hP hw hK hc i jb s σ H E I hf st hg;subst hP hw hK;obtain⟨xs,ys,hq1,hq2,hend⟩:=hg;obtain⟨us,ru,p1,z1⟩:=I.tuple (SqT.of hq1);obtain⟨ws,rw',p2,z2⟩:=I.tuple (SqT.of hq2);obtain⟨⟨f1,hz⟩,hTI,⟨olds,hTO,lo⟩,hi1,hi2⟩:=st;simp only[QbB,QbS,Qbl,Qcq,not_or,QbP,Qbj,and_true] at nd;obtain⟨⟨n1,n2,n3,n4⟩,⟨n5,n6,n7⟩,⟨n8,n9⟩,n10⟩:=nd;have D:ZZ.Apart z TI TO [⟨i1,a,us.toArray⟩,⟨i2,b,ws.toArray⟩]:=by
   obtain⟨oa,ea,ca,_⟩:=id p1;obtain⟨ob,eb,cb,_⟩:=id p2;obtain⟨o1,e1,c1,_⟩:=id hi1;obtain⟨o2,e2,c2,_⟩:=id hi2;have aTO:a≠TO:=λq=>by
    have:=(hf TO (by simp)).1;rw[<-q,hq1] at this;cases this
   have bTO:b≠TO:=λq=>by
    have:=(hf TO (by simp)).1;rw[<-q,hq2] at this;cases this
   have t1:Value.type "tuple"≠Value.type "zip":=λq=>absurd (by injection q) (show ¬("tuple"="zip") by decide);have t2:Value.type "tuple"≠Value.type "tuple_iterator":=λq=>absurd (by injection q) (show ¬("tuple"="tuple_iterator") by decide);refine⟨Ne.symm n1,Ne.symm n2,n5,λq hq=>?_,λq hq=>?_,λq hq r hr=>?_,?_⟩
   ·simp only[QbS,Qbl,Qcq] at hq;rcases hq with rfl | rfl
    ·exact⟨Ne.symm n3,Ne.symm n6,Ne.symm n8⟩
    ·exact⟨Ne.symm n4,Ne.symm n7,Ne.symm n9⟩
   ·simp only[QbS,Qbl,Qcq] at hq;rcases hq with rfl | rfl
    ·exact⟨BL ea hz (by rw[ca];exact t1),aTO⟩
    ·exact⟨BL eb hz (by rw[cb];exact t1),bTO⟩
   ·simp only[QbS,Qbl,Qcq] at hq hr;rcases hq with rfl | rfl <;> rcases hr with rfl | rfl
    ·exact BL ea e1 (by rw[ca,c1];exact t2)
    ·exact BL ea e2 (by rw[ca,c2];exact t2)
    ·exact BL eb e1 (by rw[cb,c1];exact t2)
    ·exact BL eb e2 (by rw[cb,c2];exact t2)
   ·simp[n10]
  have hat:∀q∈([⟨i1,a,us.toArray⟩,⟨i2,b,ws.toArray⟩]:List ZZ.Src),ZZ.SrcAt s.heap q i:=λq hq=>by
   simp only[QbS,Qbl,Qcq] at hq;rcases hq with rfl | rfl
   ·exact .inr ⟨hi1,p1⟩
   ·exact .inr ⟨hi2,p2⟩
  have l1:=ru.length;have l2:=rw'.length;refine ZZ.KC hz (R:=λh'=>ZZ.Rest z TO [⟨i1,a,us.toArray⟩,⟨i2,b,ws.toArray⟩] s.heap h') (ZZ.LC (I.ok.hd hc) D hz hTI hTO hat (by simp) lo (by show 2<=100;decide) ?_ λh' e r st=>⟨h',e,rfl,rfl,r,st⟩) λh' r=>⟨rfl,I.Pr (h':=h') (t':=s.toks) (λc q hc e=>r c q (λw=>hc (by simp[w])) (λw=>hc (by simp[w])) (λw=>hc (by simp only[QbU,List.map_nil,QbS,Qbl,Qcq] at w;rcases w with w | w <;> simp[w])) e) hf⟩;rcases hend with h | h
  ·exact⟨_,QaN ..,by simp;omega⟩
  ·exact⟨_,Qaz _ (QaN ..),by simp;omega⟩
 self:=λ_ _ _ _ _ st h=>ZZ.Jm st.1.choose_spec h
def gO (K:YD) (ta:TA):TI:=fun σ H R=>ta σ H λvs H1=>∃a b,vs=[.ref a,.ref b]/\(∃xs,H1 a=some (.tup xs))/\(∃ys,H1 b=some (.tup ys))/\R (Xa K a b) H1
section
variable {X:Cx}
theorem Zq {a b:Expr} {ta:TA} {p pos tp:Pos} {elts:YJ} {k:Nat} (hg:Gl X "zip") (hm:X.mg "zip"=none) (ha:PA X [a,b] ta)
  (hs:starEach [a,b] X.env=[(false,eval a X.env),(false,eval b X.env)]:=by rfl) (hs2:starEach [b] X.env=[(false,eval b X.env)]:=by rfl):PI X (.Tuple elts k tp) (.Call (.Name "zip" p) [a,b] [] pos) (gO X.K ta):=by
 intro jb s σ H R I h;refine Call_ (Gn I hg hm (u:=.type "zip") (by trivial) (Qac (thn (ha pos jb s σ H _ I h) λus s1 ⟨vs,H1,I1,r1,q1⟩=>?_) (by rw[hs,hs2]) (by rw[hs2];rfl)));obtain⟨a,b,e,⟨xs,hx⟩,⟨ys,hy⟩,q⟩:=q1;subst e;cases r1 with
 | cons r rr=>
  cases rr with
  | cons r' rr=>
   cases rr;cases r;cases r';obtain⟨us,ru,k1,z1⟩:=I1.tuple (SqT.of hx);obtain⟨ws,rw',k2,z2⟩:=I1.tuple (SqT.of hy);refine ZZ.Q7 (c1:="tuple_iterator") (c2:="tuple_iterator") (.inr ⟨rq,k1⟩) (.inr ⟨rq,k2⟩) λh' z TI TO i1 i2 f=>?_;refine ZZ.Jm (s:={ s1 with heap:=h' }) f.hz ?_;have nd:[z,TI,TO,i1,i2].Nodup:=by
    have a1:=f.ap.it ⟨i1,a,us.toArray⟩ (by simp);have a2:=f.ap.it ⟨i2,b,ws.toArray⟩ (by simp);have a3:i1≠i2:=by
     have:=f.ap.nd;simpa using this
    simp only[QbB,QbS,Qbl,Qcq,not_or,QbP,Qbj,and_true];exact⟨⟨Ne.symm f.ap.TIz,Ne.symm f.ap.TOz,Ne.symm a1.1,Ne.symm a2.1⟩,⟨f.ap.TITO,Ne.symm a1.2.1,Ne.symm a2.2.1⟩,⟨Ne.symm a1.2.2,Ne.symm a2.2.2⟩,a3⟩
   have at1:h'.IsTupleIter i1 a 0:=by
    rcases f.at_ ⟨i1,a,us.toArray⟩ (by simp) with⟨_,x2⟩|⟨x1,_⟩
    ·obtain⟨o,e,r⟩:=id k1;exact (Dy x2 ⟨o,f.keep _ o e,r⟩).elim
    ·exact x1
   have at2:h'.IsTupleIter i2 b 0:=by
    rcases f.at_ ⟨i2,b,ws.toArray⟩ (by simp) with⟨_,x2⟩|⟨x1,_⟩
    ·obtain⟨o,e,r⟩:=id k2;exact (Dy x2 ⟨o,f.keep _ o e,r⟩).elim
    ·exact x1
   refine⟨z,[z,TI,TO,i1,i2],_,_,H1,rq,I1.kept (t':=s1.toks) λc o e=>f.keep c o e,VJ a b z TI TO i1 i2 nd,⟨⟨_,f.hz⟩,f.hTI,⟨_,f.hTO,rq⟩,at1,at2⟩,λc hc=>?_,q⟩;have hn:=f.new;have hcs:s1.heap.objs.size<=c:=by
    simp only[QbS,Qbl,Qcq] at hc;rcases hc with rfl | rfl | rfl | rfl | rfl
    ·exact hn.1
    ·exact hn.2.1
    ·exact hn.2.2.1
    ·exact hn.2.2.2 ⟨c,a,us.toArray⟩ (by simp)
    ·exact hn.2.2.2 ⟨c,b,ws.toArray⟩ (by simp)
   exact I1.Qx hcs (I1.hok.fresh hcs)
end
theorem WX {K:YD} {a b l:Addr} {xs ys:YG} {g:TG} {tt:TT} {te:TE} {Q:VK} {σ0:St} {H0:Hp} (n:Nat) (hx:n<=xs.length) (hy:n<=ys.length) (hn:xs.length<=n\/ys.length<=n) (Pv:YN)
  (h0:Pv 0 σ0 H0) (hl:∀i σ H',i<=n->Pv i σ H'->H' a=some (.tup xs)/\H' b=some (.tup ys))
  (hs:∀i x y p σ H',xs[i]?=some x->ys[i]?=some y->Pv i σ H'->H' p=none->g (.ref p) σ (upd H' p (.tup [x,y])) fun σ3 H3=>tt σ3 H3 λb H4=>if b=true then te σ3 H4 λy H5=>∃ys,H5 l=some (.lst ys)/\ys.length < sizeLine/\Pv (i+1) σ3 (upd H5 l (.lst (ys++[y]))) else Pv (i+1) σ3 H4)
  (hd:∀ σ H',Pv n σ H'->Q (.ref l) H'):Ez (Xa K a b) g tt te Q σ0 H0 l:=by
 unfold Ez;refine⟨λi m σ H'=>m=n - i/\i<=n/\Pv i σ H',⟨n,by simp,Qci _,h0⟩,?_⟩;rintro i m σ H' ⟨rfl,hi,p⟩;obtain⟨q1,q2⟩:=hl i σ H' hi p;by_cases hlt:i < n
 ·have hlt1:i < xs.length:=by omega
  have hlt2:i < ys.length:=by omega
  refine .inr ⟨⟨xs,ys,xs[i],ys[i],q1,q2,Qaj hlt1,Qaj hlt2⟩,Pv (i+1),fun σ3 H3 p'=>⟨n - (i+1),by omega,rq,hlt,p'⟩,λv H2 y=>?_⟩;obtain⟨pp,x',y',hp,rfl,rfl,e1,e2⟩:=y;exact hs i x' y' pp σ _ (e1 xs q1) (e2 ys q2) p hp
 ·exact .inl ⟨⟨xs,ys,q1,q2,by omega⟩,by
   have:i=n:=by omega
   subst this;exact hd _ _ p⟩
section
variable {X:Cx} {tg:Expr}
end
open PySem.W (KasT kas_asc kas_desc kas_rev kas_tail3 kas_descPart kas_count kas_place kas_bin kas_sort)
structure C2 (a b k:Int):Prop where
 b0:0<=b
 b1:b < 100
 k:k=a*100+b
def iW (K:YD) (H:Hp) (v:V) (k:Int):Prop:=∃t a b,v=.ref t/\SqT K H t [.int a,.int b]/\C2 a b k
theorem RJ {K:YD} {H:Hp}:∀{vs:YG} {ks:List Int},Paired (iW K H) vs ks->j4 K H vs
 | _,_,.nil,_,h=>nomatch h
 | _,_,.cons x r,v,h=>by
  rcases QbS.mp h with rfl | h
  ·obtain⟨t,a,b,e,q,_⟩:=x;exact⟨t,[a,b],e,q,Nat.succ_pos _⟩
  ·exact RJ r v h
section
variable {prog:Program} {w:World} {A:Around} {s:Shared}
end
end L2
namespace L2
open PySem PySem.Spec PyProof.Rows
section
variable {X:Cx} {K:YD}
theorem Wm (h:X.K=K) (hu:X.A.units+66 < cLine):OpR X (compareOp .NotIn) (λx y H Q=>∃l xs d ds,y=.ref l/\SqL K H l xs/\Gu K H xs ds/\Jh K H x d/\SeqAt.shaped d=true/\PyData.canLayAll0 ds=true/\Q (.bl (!ds.any λz=>PyData.eqv z d)) H):=by
 subst h;intro jb s σ H x y v u Q I rx ry hh;obtain⟨l,xs,d,ds,rfl,hq,hr,hx,sd,hc,q⟩:=hh;cases ry;obtain⟨its,rv,⟨o,n,ho,hcl,hdt,hd⟩,_⟩:=I.list hq;obtain⟨as,r1⟩:=Gu.reads I hr rv;obtain⟨bs,r2⟩:=Jh.reads I hx rx;refine SeqAt.notIn_list_reads (xs:=ds) (d:=d) (.list ho hcl hd (by simpa using r1)) r2 hc (SeqAt.canLay_of_shaped sd) (room_in_shaped sd (by omega)) ⟨.bl _,H,I,rq,q⟩
end
open PySem.W (KasT kas_asc kas_desc kas_rev kas_tail3 kas_descPart kas_count kas_place kas_bin kas_sort)
section
variable {prog:Program} {w:World} {A:Around} {s:Shared}
end
theorem V7 {X:Cx} {jb:YC} {σ : St} {H:Hp} {s:Shared} {h2:Heap} {tk:Nat} {m:YB} {D:Addr} {c:Nat} {vs:YG} {its:YE} (I:Inv X jb σ H s) (hn:s.heap.Ns X.env.locals m) (hn2:h2.Ns X.env.locals m) (kp2:∀b o,b≠X.env.locals->s.heap.get? b=some o->h2.get? b=some o) (nD:∀b o,s.heap.get? b=some o->b≠D)
  (oD:h2.get? D=some (seqObj "list" its.toArray c)) (rv:Vals vs its) (h64:vs.length < 64):H D=none/\Inv X jb σ (upd H D (.lst vs)) { s with heap:=h2,toks:=tk }:=by
 have hDn:H D=none:=by
  cases e:H D with
  | none=>rfl
  | some v=>
   obtain⟨o,ho⟩:=(I.hok D v e).there;exact absurd rfl (nD D o ho)
 refine⟨hDn,?_⟩;have tr:∀(o:HO) b u,H b=some u->(upd H D o) b=some u:=λo b u e=>by rw[Bk (Ay e hDn)];exact e
 refine I.step (h':=h2) (g':=s.gens) (d':=s.drawn) (t':=tk) (ch:=[]) (λb hb=>absurd hb (by simp)) (λb u hb _ _ e _=>kp2 b u hb e) (λb u hb _ _ e _=>⟨u.slots,kp2 b u hb e⟩) (λb u _ e n=>by rw[Bk (nD b u e)];exact n)
  (λb u _ e=>?_) (λb ys e=>tr _ _ _ e) (λb u v e=>tr _ _ _ e) (λb ps e=>⟨#[],by rw[tr _ _ _ e];simp⟩) (λm' hm'=>by rw[cZ hm' hn];exact hn2) (λb u e=>?_) I.bare
 ·by_cases hb:b=X.env.locals
  ·obtain⟨o,_,_,ho,_⟩:=hn2;exact⟨o,by rw[hb];exact ho⟩
  ·exact⟨u,kp2 b u hb e⟩
 ·by_cases hb:b=D
  ·subst hb;rw[Ad] at e;cases e;exact⟨Qcg (Ba (by omega)),_,c,rv,oD⟩
  ·rw[Bk hb] at e;refine (I.hok b u e).stay (λx v hx e1=>kp2 x v ?_ e1) (λx e1=>tr _ _ _ e1) λx ys e1=>tr _ _ _ e1;intro z;rcases hx with hx | hx
   ·rw[<-hx,z,I.free] at e;cases e
   ·rw[z,I.free] at hx;cases hx
end L2
namespace L2
open PySem PySem.Spec PyProof.Rows
theorem Ov (xs:Array Nat) (j:Nat) (up:xs.toList.Pairwise (· < ·)):∀(f lo hi:Nat),hi - lo<=f->lo<=hi->hi<=xs.size->(∀i v,xs[i]?=some v->i < lo->v < j)->(∀i v,xs[i]?=some v->hi<=i->j<=v) ->
  ∃r,SetTable.below.go xs j f lo hi=r/\r<=xs.size/\(∀i v,xs[i]?=some v->i < r->v < j)/\(∀i v,xs[i]?=some v->r<=i->j<=v)
 | 0,lo,hi,h1,h2,h3,h4,h5=>⟨lo,rfl,by omega,h4,λi v e h=>h5 i v e (by omega)⟩
 | f+1,lo,hi,h1,h2,h3,h4,h5=>by
  unfold SetTable.below.go;by_cases c:lo < hi
  ·rw[if_pos c];dsimp only;have hm:(lo+hi) / 2 < xs.size:=by omega
   have em:xs[(lo+hi) / 2]?=some xs[(lo+hi) / 2]:=Qaf hm;have eg:xs.getD ((lo+hi) / 2) j=xs[(lo+hi) / 2]:=by simp[Array.getD,hm]
   have mono:∀(a b:Nat) (u v:Nat),xs[a]?=some u->xs[b]?=some v->a < b->u < v:=λa b u v ea eb l=>by
    rw[<-Qau] at ea eb;obtain⟨ha,rfl⟩:=Qae.mp ea;obtain⟨hb,rfl⟩:=Qae.mp eb;exact Qag.mp up a b ha hb l
   rw[eg];by_cases d:xs[(lo+hi) / 2] < j
   ·rw[if_pos d];refine Ov xs j up f _ hi (by omega) (by omega) h3 (λi v e l=>?_) h5;by_cases q:i=(lo+hi) / 2
    ·subst q;rw[em] at e;cases e;exact d
    ·exact Nat.lt_trans (mono i _ v _ e em (by omega)) d
   ·rw[if_neg d];refine Ov xs j up f lo _ (by omega) (by omega) (by omega) h4 (λi v e l=>?_);by_cases q:i=(lo+hi) / 2
    ·subst q;rw[em] at e;cases e;exact Nat.le_of_not_lt d
    ·exact Qcd (Nat.le_of_not_lt d) (Qcg (mono _ i _ v em e (by omega)))
  ·rw[if_neg c];exact⟨lo,rq,by omega,h4,λi v e h=>h5 i v e (by omega)⟩
theorem below_at {xs:Array Nat} {j:Nat} (up:xs.toList.Pairwise (· < ·)):SetTable.below xs j<=xs.size/\(∀i v,xs[i]?=some v->i < SetTable.below xs j->v < j)/\(∀i v,xs[i]?=some v->SetTable.below xs j<=i->j<=v):=by
 obtain⟨r,e,h⟩:=Ov xs j up xs.size 0 xs.size (by omega) (by omega) (Qch _) (λi v _ h=>absurd h (Nat.not_lt_zero _)) (λi v e h=>absurd (Array.getElem?_eq_some_iff.mp e).1 (by omega));have e':SetTable.below xs j=r:=e;rw[e'];exact h
def TOk (b:Bool) (t:SetTable):Prop:=t.led=b/\t.dummies=#[]/\(t.plain=true->t.place.toList.Pairwise (· < ·))
theorem TOk.fresh0 (b:Bool):TOk b (.fresh 0 0 b):=⟨rfl,rfl,λ_=>List.Pairwise.nil⟩
theorem TOk.stand {b:Bool} {t:SetTable} (h:TOk b t) (n:Nat):TOk b (t.standIn n):=⟨h.1,rfl,λz=>by cases z⟩
theorem TOk.off {b:Bool} {t:SetTable} (h:TOk b t):TOk b { t with plain:=false }:=⟨h.1,h.2.1,λz=>by cases z⟩
theorem O2 {t:SetTable} {b:Bool} (h:TOk b t) (ha:Nat->Int) (x:Int):∀(f:Nat) (p:SetTable.Probe),p.dummy=none->∀j d,SetTable.probe.go t ha x f p=some (.empty j d)->d=none/\t.slot j=.empty
 | 0,p,_,j,d,e=>by simp[SetTable.probe.go] at e
 | f+1,p,pd,j,d,e=>by
  unfold SetTable.probe.go at e;have adv:∀q:SetTable.Probe,q.dummy=none->(t.advance q).dummy=none:=λq hq=>by unfold SetTable.advance;split <;> exact hq
  split at e
  ·rename_i hs;cases e;exact⟨pd,hs⟩
  ·rename_i hs;exfalso;unfold SetTable.slot at hs;dsimp only at hs;rw[h.2.1] at hs;split at hs
   ·cases hs
   ·split at hs
    ·rename_i hh;simp[SetTable.has] at hh
    ·cases hs
  ·split at e
   ·cases e
   ·exact O2 h ha x f _ (adv p pd) j d e
theorem Yv {xs:Array Nat} {j:Nat} (up:xs.toList.Pairwise (· < ·)) (ne:xs[SetTable.below xs j]?≠some j):(SetTable.insertAt xs (SetTable.below xs j) j).toList.Pairwise (· < ·):=by
 obtain⟨h1,h2,h3⟩:=below_at (j:=j) up;rw[SetTable.toList_insertAt];refine List.pairwise_append.mpr ⟨up.sublist (List.take_sublist _ _),List.pairwise_cons.mpr ⟨λv hv=>?_,up.sublist (List.drop_sublist _ _)⟩,λu hu v hv=>?_⟩
 ·obtain⟨i,hi⟩:=QaB hv;rw[List.getElem?_drop,Qau] at hi;have q:=h3 _ v hi (Nat.le_add_right _ _);by_cases c:j=v
  ·subst c;by_cases z:i=0
   ·subst z;exact absurd hi ne
   ·exfalso;have hl:SetTable.below xs j < xs.size:=by have:=(Array.getElem?_eq_some_iff.mp hi).1;omega
    have e0:xs[SetTable.below xs j]?=some xs[SetTable.below xs j]:=Qaf hl;have q0:=h3 _ _ e0 (Qch _);rw[<-Qau] at e0 hi;obtain⟨a1,a2⟩:=Qae.mp e0;obtain⟨b1,b2⟩:=Qae.mp hi;have:=Qag.mp up _ _ a1 b1 (by omega);omega
  ·omega
 ·obtain⟨i,hi⟩:=QaB hu;have hil:i < SetTable.below xs j:=by
   have:=(Qae.mp hi).1;rw[Qbn] at this;omega
  rw[List.getElem?_take_of_lt hil,Qau] at hi;have uj:=h2 i u hi hil;rcases QbS.mp hv with rfl | hv
  ·exact uj
  ·obtain⟨k,hk⟩:=QaB hv;rw[List.getElem?_drop,Qau] at hk;exact QaP uj (h3 _ v hk (Nat.le_add_right _ _))
theorem TOk.X6 {b:Bool} {t:SetTable} (h:TOk b t) {j:Nat} (e:t.slot j=.empty):TOk b (t.put j).1:=by
 refine⟨h.1,?_,λpl=>?_⟩
 ·show (if SetTable.has t.dummies j=true then SetTable.eraseAt t.dummies (SetTable.below t.dummies j) else t.dummies)=#[]
  rw[h.2.1];have:SetTable.has (#[]:Array Nat) j=false:=by simp[SetTable.has]
  rw[this];rfl
 ·refine Yv (h.2.2 pl) λz=>?_;unfold SetTable.slot at e;dsimp only at e;rw[z] at e;simp at e
theorem TOk.lay {b:Bool} {t:SetTable} (h:TOk b t) (es:Array (Int×Value)) (k:Int) (x:Value):TOk b (layNew t es k x).2.1:=by
 unfold layNew;split
 ·rename_i slot wd hf;dsimp only;have key:t.slot slot=.empty:=by
   unfold SetTable.freeSlot at hf;split at hf
   ·rename_i j d hp;obtain⟨rfl,hs⟩:=O2 h _ _ _ _ rfl j d hp;cases hf;exact hs
   ·cases hf
  unfold SetTable.orStandIn;split
  ·exact h.X6 key
  ·exact (h.X6 key).stand _
 ·exact h.stand _
theorem TOk.jz {b:Bool} {t:SetTable} (h:TOk b t) (es:Array (Int×Value)) (n:Nat):TOk b (relayAll t es n).2.1:=by
 unfold relayAll;split
 ·rename_i t' order hr;dsimp only;split
  ·dsimp only;unfold SetTable.relaid SetTable.laid at hr;rw[Option.bind_eq_bind] at hr;obtain⟨owner,_,e⟩:=Option.bind_eq_some_iff.mp hr;have e':=QbA e;cases e';refine⟨h.1,rq,λ_=>?_⟩;dsimp only;have:∀(l:List Nat) (g:Nat->Option (Nat×Nat)),(∀j p,g j=some p->p.1=j)->((l.filterMap g).map (·.1)).Sublist l:=by
    intro l g hg
    induction l with
    | nil=>exact .slnil
    | cons a l ih=>
     rw[QaK];split
     ·exact ih.cons _
     ·rename_i p hp;rw[QbU,hg a p hp];exact ih.cons₂ _
   refine List.Pairwise.sublist (this _ _ λj p hp=>?_) List.pairwise_lt_range;obtain⟨v,_,rfl⟩:=Qar.mp hp;rfl
  ·exact h.stand _
 ·exact h.stand _
section
variable {prog:Program} {w:World} {KT:Type} [DecidableEq KT] (kn:KeyKind prog w KT)
def SetT (b:Bool) (h:Heap) (a:Addr) (S:KT->Bool) (n:Nat):Prop:=
 ∃ob es ep t,(h.get? a=some ob/\ob.ExactSet/\ob.data=.set es ep t)/\(ElemsOf kn es.toList/\∀k,S k=true ↔ ∃e∈es.toList,kn.is k e.2=true)/\(es.size < scanBound/\t.fits es.size=true/\es.size=n)/\TOk b t
variable {kn}
variable {A:Around} {E:YA} {s:Shared}
theorem SetT.at {b:Bool} {h h':Heap} {a:Addr} {S:KT->Bool} {n:Nat} (z:SetT kn b h a S n) (k:∀o,h.get? a=some o->h'.get? a=some o):SetT kn b h' a S n:=
 let ⟨ob,es,ep,t,⟨g1,g2⟩,g3⟩:=z
 ⟨ob,es,ep,t,⟨k _ g1,g2⟩,g3⟩
theorem SetT.stored {b:Bool} {h:Heap} {a:Addr} {ob:Obj} {es:Array (Int×Value)} {ep:Nat} {t:SetTable} (g1:h.get? a=some ob) (g2:ob.ExactSet) (g3:ob.data=.set es ep t)
  {es':Array (Int×Value)} {t':SetTable} {S':KT->Bool} (k1:ElemsOf kn es'.toList) (k2:∀k,S' k=true ↔ ∃e∈es'.toList,kn.is k e.2=true) (k3:es'.size < scanBound) (k4:t'.fits es'.size=true) (k5:TOk b t') :
  (h.update a (Obj.putSet es' t')).get? a=some { ob with data:=.set es' (ep+1) t' }/\SetT kn b (h.update a (Obj.putSet es' t')) a S' es'.size:=by
 obtain⟨q,_⟩:=SetOf_store (knd:=kn) g1 g2 g3 k1 k2 k3 k4;exact⟨q,_,es',ep+1,t',⟨q,g2,rq⟩,⟨k1,k2⟩,⟨k3,k4,rq⟩,k5⟩
theorem Rf {b:Bool} {g:Bool->Sem Unit} (hg:∀(c:Bool) (s₁ : Shared) (Z:YH),Z () s₁->wpAny (model prog w) A (g c) Z E s₁)
  {a:Addr} {ob:Obj} {es:Array (Int×Value)} {ep:Nat} {t:SetTable} (g1:s.heap.get? a=some ob) (g2:ob.ExactSet) (g3:ob.data=.set es ep t)
  {es1:Array (Int×Value)} {t1:SetTable} {S':KT->Bool} (k1:ElemsOf kn es1.toList) (k2:∀k,S' k=true ↔ ∃e∈es1.toList,kn.is k e.2=true) (k3:es1.size < scanBound) (k4:t1.fits es1.size=true) (k5:TOk b t1) {wd:Bool} {R:Option Bool->Shared->Prop}
  (h:∀h',Heap.SameBut a s.heap h'->SetT kn b h' a S' es1.size->R (some true) { s with heap:=h' }) :
  wpAny (model prog w) A (do
    storeSet a es1 t1
    if (!wd&&t1.tooFull)=true then do
      g (relayAll t1 es1 (SetTable.grown es1.size)).2.2
      storeSet a (relayAll t1 es1 (SetTable.grown es1.size)).1 (relayAll t1 es1 (SetTable.grown es1.size)).2.1
      pure (some true)
     else pure (some true)) R E s:=by
 refine Qcl (wpAny_storeSet_of g1 g3 ?_ (fits_of_scanBound k3));obtain⟨o1,z1⟩:=SetT.stored g1 g2 g3 k1 k2 k3 k4 k5;have m1:=QaG s.heap a (Obj.putSet es1 t1);split
 ·have pm:=relayAll_perm t1 es1 (SetTable.grown es1.size);have ft:=relayAll_fits t1 es1 (SetTable.grown es1.size);have tk:=k5.jz es1 (SetTable.grown es1.size);generalize relayAll t1 es1 (SetTable.grown es1.size)=RL at pm ft tk ⊢;obtain⟨es2,t2,gv⟩:=RL;dsimp only at pm ft tk ⊢;have l1:ElemsOf kn es2.toList:=k1.perm pm;have l2:∀k,S' k=true ↔ ∃e∈es2.toList,kn.is k e.2=true:=λk=>(k2 k).trans ⟨λ⟨e,he,q⟩=>⟨e,pm.mem_iff.mpr he,q⟩,λ⟨e,he,q⟩=>⟨e,pm.mem_iff.mp he,q⟩⟩;have sz:es2.size=es1.size:=by rw[<-QaF,pm.length_eq,QaF]
  have l3:es2.size < scanBound:=sz ▸ k3;refine Qcl (hg gv _ _ ?_);refine Qcl (wpAny_storeSet_of o1 rfl ?_ (fits_of_scanBound l3));obtain⟨_,z2⟩:=SetT.stored o1 g2 rfl l1 l2 l3 ft tk;exact Qcm (h _ (m1.trans (QaG _ a _)) (sz ▸ z2))
 ·exact Qcm (h _ m1 z1)
theorem qx {b:Bool} {a:Addr} {S:KT->Bool} {n:Nat} {k:KT} {x:Value} {Q:Bool->Shared->Prop} (kx:kn.is k x=true) (sx:x.scannable=true) (z:SetT kn b s.heap a S n) (room:n+1 < scanBound)
  (h:∀h',Heap.SameBut a s.heap h'->SetT kn b h' a (λk'=>S k' || decide (k'=k)) (if S k then n else n+1)->Q (!S k) { s with heap:=h' }) :
  wpAny (model prog w) A (setAddHashed a x (kn.hash k)) Q E s:=by
 obtain⟨ob,es,ep,t,⟨g1,g2,g3⟩,⟨c1,c2⟩,⟨c3,c4,rfl⟩,c5⟩:=z;unfold setAddHashed setAddHashedIn;refine QbW (Qcl (Qbg g1 g3 c4 ?_));dsimp only;rw[byScan_of sx c3 c1];simp only[↓reduceIte];unfold setAddByScan;refine Qcl (Qcl (Qco (Qcl (wpAny_setScan_of kx g1 g3 c4 c1 ?_))));cases fnd:es.toList.findIdx? (λe=>kn.is k e.2) with
 | some i=>
  dsimp only;obtain⟨hi,pi,_⟩:=List.findIdx?_eq_some_iff_getElem.mp fnd;have Sk:S k=true:=(c2 k).mpr ⟨es.toList[i],List.getElem_mem hi,pi⟩;refine Qcm (Qcm ?_);have u:=h s.heap (Heap.SameBut.refl a s.heap) ⟨ob,es,ep,t,⟨g1,g2,g3⟩,⟨c1,λk'=>by
   rw[QbI,decide_eq_true_eq,<-c2 k'];exact⟨λq=>q.elim id λe=>e ▸ Sk,.inl⟩⟩,⟨c3,c4,by rw[Sk];rfl⟩,c5⟩
  rw[Sk] at u;obtain⟨_,_,_,_,_⟩:=s;exact u
 | none=>
  dsimp only;have Sk:S k=false:=Bool.eq_false_iff.mpr λq=>by
   obtain⟨e,he,p⟩:=(c2 k).mp q;have:=List.findIdx?_eq_none_iff.mp fnd e he;rw[p] at this;cases this
  have gw:∀(c:Bool) {s₁ : Shared} {Z:YH},Z () s₁->wpAny (model prog w) A (match c with | true=>rule "set.scan.the-table-gave-way" | false=>pure ()) Z E s₁:=λc s₁ Z q=>by cases c <;> first | exact Qcm q | exact Qco q
  have pm:=layNew_perm t es (kn.hash k) x;have ft:=layNew_fits t es (kn.hash k) x;have tk:=c5.lay es (kn.hash k) x;generalize layNew t es (kn.hash k) x=LN at pm ft tk ⊢;obtain⟨es1,t1,wd,gv⟩:=LN;dsimp only at pm ft tk ⊢;rw[Array.toList_push] at pm;have d1:ElemsOf kn es1.toList:=(c1.push kx sx).perm pm;have d2:∀k',(S k' || decide (k'=k))=true ↔ ∃e∈es1.toList,kn.is k' e.2=true:=mem_push_iff kx c2 pm;have sz:es1.size=es.size+1:=by rw[<-QaF,pm.length_eq,QaM,QaF];rfl
  have d3:es1.size < scanBound:=by rw[sz];exact room
  have fin:∀h',Heap.SameBut a s.heap h'->SetT kn b h' a (λk'=>S k' || decide (k'=k)) es1.size->Q true { s with heap:=h' }:=λh' m z=>by
   have u:=h h' m;rw[Sk] at u;exact u (sz ▸ z)
  refine Qcl (gw gv ?_);split
  ·refine Qcl ?_;rw[hashByValue_scannable 8 sx];refine Qcm ?_;refine Rf ?_ g1 g2 g3 d1 d2 d3 ?_ (b:=b) ?_ ?_
   ·intro c s₁ Z q;cases c <;> first | exact Qcm q | exact Qco q
   ·split
    ·exact ft
    ·exact SetTable.fits_plain_off ft
   ·split
    ·exact tk
    ·exact tk.off
   ·intro h' m z;dsimp only;exact Qcm (fin h' m z)
  ·refine Qcl (Qcm ?_);simp only[↓reduceIte];refine Rf ?_ g1 g2 g3 d1 d2 d3 ft tk ?_
   ·intro c s₁ Z q;cases c <;> first | exact Qcm q | exact Qco q
   ·intro h' m z;dsimp only;exact Qcm (fin h' m z)
end
def met {KT:Type} [DecidableEq KT] (val:Nat->KT):Nat->List KT
 | 0=>[]
 | i+1=>if val i∈met val i then met val i else met val i++[val i]
section
variable {KT:Type} [DecidableEq KT]
theorem ZL (val:Nat->KT) (i:Nat):met val (i+1)=if val i∈met val i then met val i else met val i++[val i]:=rfl
theorem Ql (val:Nat->KT):∀i,(met val i).length<=i
 | 0=>Qch _
 | i+1=>by
  have ih:=Ql val i;unfold met;split
  ·omega
  ·rw[QaM];exact Nat.succ_le_succ ih
theorem TJ (val:Nat->KT):∀i,(met val i).Nodup
 | 0=>List.Pairwise.nil
 | i+1=>by
  unfold met;split
  ·exact TJ val i
  ·rename_i h;exact List.nodup_append.mpr ⟨TJ val i,by simp,λx hx y hy z=>by rw[QaR.mp hy] at z;exact h (z ▸ hx)⟩
theorem Qk (val:Nat->KT) (k:KT):∀i,k∈met val i ↔ ∃j,j < i/\val j=k
 | 0=>⟨(λh=>by cases h),λ⟨j,h,_⟩=>absurd h (Nat.not_lt_zero _)⟩
 | i+1=>by
  have ih:=Qk val k i;unfold met;split
  ·rename_i h;rw[ih];constructor
   ·refine λzz=>?_;obtain⟨j,h,e⟩:=zz;exact⟨j,Qbh h,e⟩
   ·intro ⟨j,hj,e⟩;by_cases c:j=i
    ·subst c;subst e;exact (Qk val _ j).mp h
    ·exact⟨j,by omega,e⟩
  ·rw[Qbz,QaR,ih];constructor
   ·rintro (⟨j,h,e⟩| e)
    ·exact⟨j,Qbh h,e⟩
    ·exact⟨i,Qbt _,e.symm⟩
   ·intro ⟨j,hj,e⟩;by_cases c:j=i
    ·subst c;exact .inr e.symm
    ·exact .inl ⟨j,by omega,e⟩
end
section
variable {prog:Program} {w:World} {KT:Type} [DecidableEq KT] {kn:KeyKind prog w KT} {A:Around} {E:YA} {s:Shared}
theorem SetT.oR {b:Bool} {h:Heap} {a:Addr} {S S':KT->Bool} {n n':Nat} (z:SetT kn b h a S n) (e:∀k,S k=S' k) (en:n=n'):SetT kn b h a S' n':=by
 have:S=S':=funext e;rw[<-this,<-en];exact z
theorem XM {R:Result->Shared->Prop} {I:Addr} {fp wr:List Addr} {G:Array GenState->Array GenState->Prop} {n:Nat} {P:Nat->Value->Prop} {St:Nat->Shared->Prop} (Wk:WalksS prog w A.in1 I fp wr G n P St) (b:Bool) (S:Addr) (nS:S∉fp)
  (val:Nat->KT) (hv:∀i v,P i v->kn.is (val i) v=true/\v.scannable=true) (lim:n+1 < scanBound) :
  ∀(m i:Nat) (s:Shared),n - i=m->i<=n->St i s->SetT kn b s.heap S (λk=>decide (k∈met val i)) (met val i).length ->
   (∀s',Moved (S::wr) G s s'->SetT kn b s'.heap S (λk=>decide (k∈met val n)) (met val n).length->R (.ok (.ret .none)) s') ->
   codeAny (model prog w) A (.builtin "set.update.loop" ⟨[.ref S,.ref I],[]⟩) R s:=by
 have nw:S∉wr:=λq=>nS (Wk.sub _ q);have sub:∀c∈wr,c∈S::wr:=λc hc=>.tail _ hc;intro m
 induction m with
 | zero=>
  intro i s hm hi st z fin;obtain rfl:i=n:=by omega
  refine QbJ PyProof.Rows.F.entry_set_update_loop ?_;rw[QaC PyProof.Rows.F.plain_set_update_loop _];show wpAny _ A.in1 (pyNext (.ref I) >>= _) _ _ s;refine Qcl (Wk.done s _ _ st λs1 mv=>?_);show wpAny _ A.in1 (ret Value.none) _ _ s1;exact Qcm (fin s1 (mv.mono sub) (z.at λo e=>mv.heap S _ nw e))
 | succ m ih=>
  intro i s hm hi st z fin;have lt:i < n:=by omega
  refine QbJ PyProof.Rows.F.entry_set_update_loop ?_;rw[QaC PyProof.Rows.F.plain_set_update_loop _];show wpAny _ A.in1 (pyNext (.ref I) >>= _) _ _ s;refine Qcl (Wk.item i s _ _ lt st λv s1 pv st1 mv=>?_);obtain⟨kv,sv⟩:=hv i v pv;have z1:=z.at λo e=>mv.heap S o nw e;show wpAny _ A.in1 (holding [v] (setAdd S v) >>= _) _ _ s1;refine Qcl (QbW ?_);unfold setAdd;refine QbW (Qcl (kn.pyHash kv ?_));have room:(met val i).length+1 < scanBound:=by have:=Ql val i;omega
  refine qx (s:={ s1 with toks:=s1.toks+1 }) kv sv z1 room λh2 sb z2=>?_;have z3:SetT kn b h2 S (λk=>decide (k∈met val (i+1))) (met val (i+1)).length:=by
   refine z2.oR (λk=>?_) ?_
   ·rw[QbC,QbI,QaS,QaS,QaS];rw[ZL];split
    ·rename_i q;exact⟨λx=>x.elim id λe=>e ▸ q,.inl⟩
    ·rw[Qbz,QaR]
   ·show (if decide (val i∈met val i)=true then (met val i).length else (met val i).length+1)=(met val (i+1)).length
    by_cases q:val i∈met val i
    ·rw[if_pos (QbM q)];show _=(if val i∈met val i then met val i else met val i++[val i]).length
     rw[if_pos q]
    ·rw[if_neg (by simp[q])];show _=(if val i∈met val i then met val i else met val i++[val i]).length
     rw[if_neg q,QaM];rfl
  refine Qcm ⟨plainId_quiet PyProof.Rows.F.plain_set_update_loop _,ih (i+1) _ (by omega) lt (Wk.frame _ s1 _ _ st1 (Qck _) λc hc o e=>?_) z3 λs2 mv2 z4=>?_⟩
  ·rw[sb.2 c λq:c=S=>nS (q ▸ hc)];exact e
  ·refine fin s2 (Moved.trans Wk.gtrans ((mv.mono sub).then_heap (Qck _) λc o hc e=>?_) mv2) z4;rw[sb.2 c λq:c=S=>hc (q ▸ .head _)];exact e
def Eh (w:World):Obj:={ cls:=.type "set",dict:=none,data:=.set #[] 0 (.fresh 0 0 (!w.params.followText "set-order")) }
theorem UL (a:Value) {Z:YA} (h:Z (.ref s.heap.objs.size) { s with heap:=s.heap.push (Eh w) }) :
  codeAny (model prog w) A (.call (.builtin "set.__new__") ⟨[.type "set",a],[]⟩) (wants Z E) s:=by
 refine codeAny_of_tree ?_;show wpAny _ A.in1 (checkBuiltinCall "set.__new__" ⟨[.type "set",a],[]⟩ >>= λ_=>again (.builtin "set.__new__" ⟨[.type "set",a],[]⟩)) _ _ s;refine Qcl (wpAny_of_eq (PySem.F.newCall_set_1 a) (Qcm ⟨plainId_quiet PySem.F.plain_set_new _,QbJ PySem.F.entry_set_new ?_⟩));rw[QaC PySem.F.plain_set_new _];unfold Builtin.«set.__new__»;unfold Builtin.Frozenset.newClass;have sf:=sub_set_self;obtain⟨hp,g,d,tk,os⟩:=s;dsimp only
 wp_walk
 refine Qbv (Qcm ?_);dsimp only;simp only[newObj];exact Qcl (wpAny_alloc (Qcm (Qcm h)))
theorem UG:isSubtype (.type "tuple") (.type "set")=pure false:=by rw[QbR];kernel_rfl
theorem V1:isSubtype (.type "tuple") (.type "frozenset")=pure false:=by rw[QbR];kernel_rfl
theorem QM {T:String} {l:Addr} {n:Nat} {Q:YA} {P:Nat->Value->Prop} (hh:A.handled=none) (val:Nat->KT) (hv:∀i v,P i v->kn.is (val i) v=true/\v.scannable=true) (lim:n+1 < scanBound)
  (hT:s.TypeIs (.ref l) T) (t1:isSubtype (.type T) (.type "set")=pure false) (t2:isSubtype (.type T) (.type "frozenset")=pure false) (t3:(Value.type T == Value.type "dict")=false)
  (it:∀(s1:Shared),(∀o,s.heap.get? l=some o->s1.heap.get? l=some o)->∃(oI:Obj) (St:Nat->Heap->Prop),(∀(A:Around) (E:YA) (Q:YA),Q (.ref s1.heap.objs.size) { s1 with heap:=s1.heap.push oI }->wpAny (model prog w) A (pyIter (.ref l)) Q E s1) /\
   (∀A:Around,A.handled=none->l≠s1.heap.objs.size->Walks prog w A s1.heap.objs.size [s1.heap.objs.size,l] [s1.heap.objs.size] n P St)/\St 0 (s1.heap.push oI))
  (h:∀(h':Heap) (tk:Nat),SetT kn (!w.params.followText "set-order") h' s.heap.objs.size (λk=>decide (k∈met val n)) (met val n).length->(∀b o,b < s.heap.objs.size->s.heap.get? b=some o->h'.get? b=some o)->Q (.ref s.heap.objs.size) { s with heap:=h',toks:=tk }) :
  wpAny (model prog w) A (call (.type "set") [.ref l]) Q E s:=by
 obtain⟨ol,hol,hcl⟩:=hT;obtain⟨c,tl,hmro⟩:=PySem.F.called_set.mro;have hmade:=PySem.F.called_set.made;have hsub:=PySem.F.called_set.sub;refine wpAny_call (codeAny_of_tree ?_);show wpAny _ _ (callAny (.type "set") _) _ _ _;refine Qcm ⟨Code.quiet_builtin _ (by trivial),QbJ PySem.F.entry_type_call ?_⟩;rw[Around.under_plain (weight_type_call_type "set" [.ref l] []) rfl];have f1:=PySem.F.called_set.notType;have f2:=PySem.F.called_set.canCreate;have f3:=PySem.F.typeCall_set_1 (.ref l)
 repeat (any_goals (first | assumption | wp_step))
 refine codeAny_mono (UL (.ref l) (E:=E) (Z:=λv s1=>v=.ref s.heap.objs.size/\s1={ s with heap:=s.heap.push (Eh w) }) ⟨rq,rq⟩) λr s1 hr=>?_;cases r with
 | error e=>exact hr
 | ok fl=>
  cases fl with
  | ret v=>
   obtain⟨rfl,rfl⟩:=hr;have hS:(s.heap.push (Eh w)).get? s.heap.objs.size=some (Eh w):=QaE _ rfl;have hTs:Shared.TypeIs { s with heap:=s.heap.push (Eh w) } (.ref s.heap.objs.size) "set":=⟨_,hS,rq⟩;have f4:=PySem.F.called_set.init.lookup;have f5:=PySem.F.called_set.init.bind (.ref s.heap.objs.size)
   repeat (any_goals (first | assumption | wp_step))
   refine codeAny_mono (codeAny_call_builtin (R:=wants (λr s2=>r=.none/\∃h' tk,s2={ s with heap:=h',toks:=tk }/\SetT kn (!w.params.followText "set-order") h' s.heap.objs.size (λk=>decide (k∈met val n)) (met val n).length/\(∀b o,b < s.heap.objs.size->s.heap.get? b=some o->h'.get? b=some o)) E) PySem.F.called_set.init.plain PySem.F.entry_set_init (check_set_init_1 hTs ?_)) λr2 s2 hr2=>?_
   ·obtain⟨ocls,odict,odata,oslots⟩:=ol;have hcl:ocls=.type T:=hcl;subst hcl;have ho1:(s.heap.push (Eh w)).get? l=some { cls:=.type T,dict:=odict,data:=odata,slots:=oslots }:=Qaq _ hol;have hlS:l < s.heap.objs.size:=Qcb hol;unfold Eh at hS;unfold Builtin.«set.__init__»;unfold noKeywords;unfold Builtin.Frozenset.updateFrom;generalize ePI:pyIter=PI
    wp_walk
    subst ePI;have hh3:A.in1.in1.in1.handled=none:=by simp[hh]
    obtain⟨oI,St,hit,Wk,st⟩:=it { s with heap:=s.heap.push (Eh w) } λo e=>Qaq _ e;have nI:l≠(s.heap.push (Eh w)).objs.size:=by rw[QbN];exact Qcc (Qbh hlS)
    have W3:=Wk A.in1.in1.in1 hh3 nI;refine hit _ _ _ ?_;refine Qcl (wpAny_runValue ?_);have nS:s.heap.objs.size∉[(s.heap.push (Eh w)).objs.size,l]:=by
     rw[QbN];simp only[QbS,Qbl,Qcq,not_or];exact⟨Qcc (Qbt _),Qcf hlS⟩
    have hS2:((s.heap.push (Eh w)).push oI).get? s.heap.objs.size=some (Eh w):=Qaq _ (QaE _ rfl);refine XM W3.toS (!w.params.followText "set-order") s.heap.objs.size nS val hv lim (n - 0) 0 _ rfl (Qci _) st ?_ ?_
    ·exact⟨_,#[],0,_,⟨hS2,⟨rq,rq,rq⟩,rq⟩,⟨λe he=>by simp at he,λk=>by simp[met]⟩,⟨by unfold scanBound;decide,by rfl,rq⟩,TOk.fresh0 _⟩
    ·intro s2 mv z;obtain⟨h',g',d',tk',os'⟩:=s2;have e1:g'=s.gens:=mv.gens;have e2:d'=s.drawn:=mv.drawn;have e3:os'=s.os:=mv.os;subst e1 e2 e3;show wpAny _ _ _ _ _ _;refine Qcm ?_;show wpAny _ _ (ret Value.none) _ _ _;refine Qcm ⟨rq,h',tk',rq,z,λb o hb e=>?_⟩;have n1:b≠s.heap.objs.size:=Qcc hb;have n2:b≠(s.heap.push (Eh w)).objs.size:=by rw[QbN];exact Qcc (Qbh hb)
     exact mv.heap b o (by simp only[QbS,Qbl,Qcq,not_or];exact⟨n1,n2⟩) (Qaq _ (Qaq _ e))
   ·cases r2 with
    | error e=>exact hr2
    | ok fl2=>
     cases fl2 with
     | ret r=>
      obtain⟨rfl,h',tk,rfl,z,kp⟩:=hr2
      repeat (any_goals (first | assumption | wp_step))
      exact h _ _ z kp
     | _=>exact hr2.elim
  | _=>exact hr.elim
end
theorem Fo:Slot "set_iterator" "__next__" "set_iterator.__next__":=.of (owner:="set_iterator") (n:="__next__") (by rw[typeLookup_type,builtinLookup_eq_fast];kernel_rfl) (by trivial) (by trivial) (by trivial) (by first | exact .inl (by trivial) | exact .inr (by trivial)) (by rw[QbR];kernel_rfl)
theorem K6:entryFor table "set_iterator.__next__"=some Builtin.«set_iterator.__next__»:=entryFor_of_tree (by kernel_rfl)
theorem XH:Manifest.owners.lookup (String.ofList ("set_iterator".toList.reverse).reverse)=some Manifest.sig_set_iterator:=by kernel_rfl
theorem M8 (a:Value):argsOk "set_iterator.__next__" ⟨[a],[]⟩:=by
 unfold argsOk;rw[signature?_of (id:="set_iterator.__next__") (n:=("__next__".toList.reverse)) (o:=("set_iterator".toList.reverse)) (by kernel_rfl) XH]
 kernel_rfl
theorem Zg:entryFor table "set.__iter__"=some Builtin.«frozenset.__iter__»:=entryFor_alias (id':="frozenset.__iter__") (by kernel_rfl) rfl (by trivial) (by kernel_rfl)
theorem Lr {α : Type}:∀{xs:List α} {i:Nat} (h:i < xs.length),(xs[i]::xs.eraseIdx i).Perm xs
 | x::xs,0,_=>List.Perm.refl _
 | x::xs,i+1,h=>(List.Perm.swap _ _ _).trans (List.Perm.cons _ (Lr (xs:=xs) (i:=i) (Nat.lt_of_succ_lt_succ h)))
section
variable {prog:Program} {w:World} {A:Around} {E:YA} {s:Shared}
theorem Xk {src:Source} {n:Nat} {Q:Nat->Shared->Prop} (hn:n≠0) (h:∀i,i < n->Q i { s with drawn:=s.drawn.bump src }):wpAny (model prog w) A (choose src n) Q E s:=fun Γ p hΓ=>by
 show n≠0/\_;exact⟨hn,h _ (Nat.mod_lt _ (Nat.pos_of_ne_zero hn))⟩
theorem LK {α : Type}:∀(n:Nat) (xs:List α) (s:Shared) {Q:List α->Shared->Prop},xs.length=n->(∀ys d',ys.Perm xs->Q ys { s with drawn:=d' })->wpAny (model prog w) A (drawOrder n xs) Q E s
 | 0,[],s,Q,_,h=>Qcm (by
   have:=h [] s.drawn (List.Perm.refl _);obtain⟨_,_,_,_,_⟩:=s;exact this)
 | 0,_::_,s,Q,e,h=>by cases e
 | n+1,[],s,Q,e,h=>by cases e
 | n+1,x::xs,s,Q,e,h=>by
  unfold drawOrder;refine Qcl (Xk (by simp) λi hi=>?_);rw[Qaj hi];dsimp only;refine Qcl (LK n ((x::xs).eraseIdx i) _ (by rw[List.length_eraseIdx_of_lt hi];simpa using e) λys d' pm=>Qcm ?_);exact h _ d' (((List.Perm.cons _ pm)).trans (Lr hi))
theorem IW {α : Type} (nx:Nat->Nat):∀(f k:Nat) (xs:List α) (out:Array α),xs.length=f->(pickOrder.go nx f k xs out).toList.Perm (out.toList++xs)
 | 0,k,[],out,_=>by
  show out.toList.Perm _;rw[QbE]
 | 0,k,_::_,out,e=>by cases e
 | f+1,k,[],out,e=>by cases e
 | f+1,k,x::xs,out,e=>by
  have hi:nx k % (x::xs).length < (x::xs).length:=Nat.mod_lt _ (by simp);unfold pickOrder.go;rw[Qaj hi];dsimp only;refine (IW nx f (k+1) _ _ (by rw[List.length_eraseIdx_of_lt hi];simpa using e)).trans ?_;rw[Array.toList_push,List.append_assoc];exact List.Perm.append_left _ (Lr hi)
def FN (b:Bool) (h:Heap) (a:Addr) (es:Array (Int×Value)) (ep:Nat) (t:SetTable):Prop:=∃ob,h.get? a=some ob/\ob.ExactSet/\ob.data=.set es ep t/\t.fits es.size=true/\TOk b t
theorem FN.at {b:Bool} {h h':Heap} {a:Addr} {es:Array (Int×Value)} {ep:Nat} {t:SetTable} (z:FN b h a es ep t) (k:∀o,h.get? a=some o->h'.get? a=some o):FN b h' a es ep t:=let ⟨ob,g1,g2⟩:=z;⟨ob,k _ g1,g2⟩
def Gz (h:Heap) (it a:Addr) (first:Value) (i n ep:Nat):Prop:=∃o,h.get? it=some o/\o.cls=.type "set_iterator"/\o.data=.fields #[first,rawInt i,.ref a,rawInt n,rawInt ep]
theorem Z4 {r:Addr} {Q:Bool->Shared->Prop} (hT:s.TypeIs (.ref r) "set") (h:Q false s):wpAny (model prog w) A (Builtin.List.listLengthHint (.ref r)) Q E s:=by
 unfold Builtin.List.listLengthHint;refine Qcl (wpAny_specialOf hT PySem.F.slot_set_len.lookup ?_);generalize hid:("set.__len__":String)=q
 wp_delta
 rw[show splitId q=some ("set","__len__") by subst hid;decide +kernel];subst hid;refine Qcl (wpAny_isInstance (T:="set") (b:=true) hT (by rw[QbR];kernel_rfl) ?_);refine wpAny_ite_split (λz=>absurd z (by decide)) λ_=>?_;exact wpAny_ite_split (λ_=>Qcl (wpAny_typeOf hT (Qcm h))) λz=>absurd (by trivial) z
theorem ZR {b:Bool} {a:Addr} {es:Array (Int×Value)} {ep:Nat} {t:SetTable} {Q:YA} (R:FN b s.heap a es ep t) (eb:b=!w.params.followText "set-order") (hsz:es.size < scanBound)
  (q1:(b=true->t.plain=true\/es.size<=1)->Q (.ref s.heap.objs.size) { s with heap:=s.heap.push { cls:=.type "set_iterator",data:=.fields #[rawInt 0,rawInt 0,.ref a,rawInt es.size,rawInt ep] } })
  (q2:∀(is:List Nat) d',b=true->is.Perm (List.range es.size)->Q (.ref (s.heap.objs.size+1)) { s with heap:=(s.heap.push { cls:=.type "tuple",data:=.seq (is.map λi:Nat=>rawInt (i:Int)).toArray }).push { cls:=.type "set_iterator",data:=.fields #[.ref s.heap.objs.size,rawInt 0,.ref a,rawInt es.size,rawInt ep] },drawn:=d' }):wpAny (model prog w) A (pyIter (.ref a)) Q E s:=by
 obtain⟨ob,g1,g2,g3,g4,g5⟩:=R;have T:s.TypeIs (.ref a) "set":=⟨ob,g1,g2.1⟩;refine wpAny_pyIter_slot T PySem.F.slot_set_iter (Qbr PySem.F.slot_set_iter T Zg ?_ (PySem.F.args_set_iter_1 _));have dr:setDrawn a=(do let (x,_,y) <-setState a;let c <-setsByText;return !c&&(!y.plain&&decide (x.size > 1))):=rfl
 have fin:∀(first:Value) (s1:Shared),FN b s1.heap a es ep t->Q (.ref s1.heap.objs.size) { s1 with heap:=s1.heap.push { cls:=.type "set_iterator",data:=.fields #[first,rawInt 0,.ref a,rawInt es.size,rawInt ep] } } ->
   wpAny (model prog w) A.in1 (do let e <-setEpoch a;let v <-newFields "set_iterator" [first,rawInt 0,.ref a,rawInt (es.size:Int),rawInt (e:Int)];ret v)
    (λfin s'=>∃v,fin=Fin.done (Flow.ret v)/\∃T' r,s'.TypeIs v T'/\typeLookup (Value.type T') (Str.ofString "__next__")=pure (some r)/\Q v s') E s1:=λfirst s1 R1 hq=>by
  obtain⟨o1,k1,k2,k3,k4,k5⟩:=R1;refine Qcl (wpAny_setEpoch_of k1 k3 k4 ?_);unfold newFields
  wp_walk
  exact⟨_,rq,"set_iterator",_,⟨_,QaE _ rfl,rq⟩,Fo.lookup,hq⟩
 show wpAny _ _ (Builtin.Frozenset.slot0 "__iter__" _ >>= _) _ _ _;have sl:Builtin.Frozenset.slot0 "__iter__" { pos:=[Value.ref a] }=pure a:=by
  unfold Builtin.Frozenset.slot0;rfl
 rw[sl];refine Qcl (Qcm ?_);dsimp only;unfold Builtin.Frozenset.sizeOf;refine Qcl (Qcl (wpAny_setEntries_of g1 g3 g4 (Qcm ?_)));rw[dr];refine Qcl (Qcl (Qbg g1 g3 g4 ?_));dsimp only;unfold setsByText;refine Qcl (Qcl (Qbv (Qcm ?_)));refine Qcm ?_;have em:(model prog w).w.params.followText "set-order"=!b:=by rw[eb,Bool.not_not];rfl
 show wpAny _ _ (if (!(model prog w).w.params.followText "set-order"&&(!t.plain&&decide (es.size > 1)))=true then _ else _) _ _ _
 rw[em,Bool.not_not];by_cases c:(b&&(!t.plain&&decide (es.size > 1)))=true
 ·rw[if_pos c];rw[Qbm] at c;refine Qcl (LK _ _ _ (List.length_range) λis d' pm=>?_);refine Qcl (wpAny_newTuple ?_ ?_)
  ·refine fin _ _ ⟨ob,Qaq _ g1,g2,g3,g4,g5⟩ ?_;have:=q2 is d' c.1 pm;rw[show (s.heap.push { cls:=.type "tuple",data:=.seq (is.map λi:Nat=>rawInt (i:Int)).toArray }).objs.size=s.heap.objs.size+1 from QbN ..]
   exact this
  ·first | (simp only[Qbw,pm.length_eq,List.length_range];exact fits_of_scanBound hsz) | trace_state
 ·rw[if_neg c];refine Qcl (Qcm (fin _ _ ⟨ob,g1,g2,g3,g4,g5⟩ (q1 λhb=>?_)));rw[hb,QbT,Qbm,Bool.not_eq_true',QaS] at c;cases hp:t.plain with
  | true=>exact .inl rfl
  | false=>exact .inr (by by_cases z:es.size > 1;exact absurd ⟨hp,z⟩ c;omega)
theorem Tw {it a:Addr} {b:Bool} {es:Array (Int×Value)} {i ep:Nat} {sl:Nat} {t:SetTable} {Q:Option Value->Shared->Prop} {x:Value} {nx:Nat} (K:Gz s.heap it a (rawInt sl) i es.size ep) (R:FN b s.heap a es ep t)
  (hx:∀(A:Around) (E:YA) (Z:Option (Value×Nat)->Shared->Prop),Z (some (x,nx)) s->wpAny (model prog w) A (setNext a sl i ep) Z E s)
  (q:∀h',Gz h' it a (rawInt nx) (i+1) es.size ep->Heap.SameBut it s.heap h'->Q (some x) { s with heap:=h' }):wpAny (model prog w) A (pyNext (.ref it)) Q E s:=by
 obtain⟨oi,hoi,ci,di⟩:=K;obtain⟨ob,g1,g2,g3,g4,g5⟩:=R;have T:s.TypeIs (.ref it) "set_iterator":=⟨_,hoi,ci⟩;obtain⟨ZX,Wz,WD,T6⟩:=oi;dsimp only at ci di;subst ci di;unfold pyNext;refine Qcl (Qca (Qam (name:=Str.ofString "__next__") T Fo (Qbr Fo T K6 ?_ (M8 _))));have e1:typeName (.type "set_iterator")=pure "set_iterator":=by unfold typeName;rw[find?_eq_fast];kernel_rfl
 unfold Builtin.«set_iterator.__next__»;generalize eSE:setEntries=SE;generalize eSN:setNext=SN at hx ⊢
 wp_walk
 subst eSE;refine Qcl (Qbg g1 g3 g4 ?_);refine Qcm ?_;dsimp only [rawInt];simp only[Qbk,QaT,Qcr,Qbe];refine Qcl (hx _ _ _ ?_)
 wp_walk
 have h1:=Qaw (Obj.mapFields λx=>x.setIfInBounds 0 (Value.int (nx:Int) 0)) hoi rfl;have h2:=Qaw (Obj.mapFields λx=>x.setIfInBounds 1 (Value.int ((i:Int)+1) 0)) h1 rfl;exact⟨_,rq,Qcm (q _ ⟨_,h2,rq,rq⟩ ((QaG ..).trans (QaG ..)))⟩
theorem Vq {it a:Addr} {b:Bool} {es:Array (Int×Value)} {i ep:Nat} {sl:Nat} {t:SetTable} {Q:Option Value->Shared->Prop} (hh:A.handled=none) (K:Gz s.heap it a (rawInt sl) i es.size ep) (R:FN b s.heap a es ep t)
  (hx:∀(A:Around) (E:YA) (Z:Option (Value×Nat)->Shared->Prop),Z none s->wpAny (model prog w) A (setNext a sl i ep) Z E s)
  (q:∀h',Heap.ExtBut it s.heap h'->Q none { s with heap:=h' }):wpAny (model prog w) A (pyNext (.ref it)) Q E s:=by
 obtain⟨oi,hoi,ci,di⟩:=K;obtain⟨ob,g1,g2,g3,g4,g5⟩:=R;have T:s.TypeIs (.ref it) "set_iterator":=⟨_,hoi,ci⟩;obtain⟨ZX,Wz,WD,T6⟩:=oi;dsimp only at ci di;subst ci di;unfold pyNext;refine Qcl (Qca (Qam (name:=Str.ofString "__next__") T Fo (Qbr Fo T K6 ?_ (M8 _))));have e1:typeName (.type "set_iterator")=pure "set_iterator":=by unfold typeName;rw[find?_eq_fast];kernel_rfl
 have hh1:A.in1.handled=none:=hh;unfold Builtin.«set_iterator.__next__»;generalize eSE:setEntries=SE;generalize eSN:setNext=SN at hx ⊢
 wp_walk
 subst eSE;refine Qcl (Qbg g1 g3 g4 ?_);refine Qcm ?_;dsimp only [rawInt];simp only[Qbk,QaT,Qcr,Qbe];refine Qcl (hx _ _ _ ?_)
 wp_walk
 unfold raiseNew
 wp_walk
 refine wpAny_of_eq isSubtype_stop ?_
 wp_walk
 exact q _ (((QaG ..).extBut.push _).push _)
theorem ZD {it a tp:Addr} {b:Bool} {es:Array (Int×Value)} {i ep:Nat} {t:SetTable} {Q:Option Value->Shared->Prop} {is:List Nat} {pl:Nat} {e:Int×Value} (K:Gz s.heap it a (.ref tp) i es.size ep) (ht:s.heap.IsTuple tp (is.map λi:Nat=>rawInt (i:Int)).toArray) (R:FN b s.heap a es ep t) (hi:is[i]?=some pl) (he:es[pl]?=some e)
  (q:∀h',Gz h' it a (.ref tp) (i+1) es.size ep->Heap.SameBut it s.heap h'->Q (some e.2) { s with heap:=h' }):wpAny (model prog w) A (pyNext (.ref it)) Q E s:=by
 obtain⟨oi,hoi,ci,di⟩:=K;obtain⟨ob,g1,g2,g3,g4,g5⟩:=R;have T:s.TypeIs (.ref it) "set_iterator":=⟨_,hoi,ci⟩;obtain⟨ZX,Wz,WD,T6⟩:=oi;dsimp only at ci di;subst ci di;obtain⟨ot,hot,cot,nt,dot⟩:=ht;obtain⟨j9,jf,jg,dX⟩:=ot;dsimp only at cot dot;subst cot dot;unfold pyNext;refine Qcl (Qca (Qam (name:=Str.ofString "__next__") T Fo (Qbr Fo T K6 ?_ (M8 _))));have e1:typeName (.type "set_iterator")=pure "set_iterator":=by unfold typeName;rw[find?_eq_fast];kernel_rfl
 unfold Builtin.«set_iterator.__next__»;generalize eSE:setEntries=SE;generalize eSN:setNextDrawn=SN
 wp_walk
 subst eSE;refine Qcl (Qbg g1 g3 g4 ?_);refine Qcm ?_;dsimp only [rawInt];simp only[Qbk,QaT,Qcr,Qbe];have hpl:((is.map λi:Nat=>rawInt (i:Int)).toArray)[i]?=some (.int (pl:Int) 0):=by
  rw[List.getElem?_toArray,Qbc,hi];rfl
 wp_walk
 simp only[hpl];subst eSN;unfold setNextDrawn;refine Qcl (Qcl (Qbg g1 g3 g4 ?_));dsimp only;simp only[Qbk,QaT,Qcr,Qbe,he]
 wp_walk
 have h1:=Qaw (Obj.mapFields λx=>x.setIfInBounds 1 (Value.int ((i:Int)+1) 0)) hoi rfl;exact⟨_,rq,Qcm (q _ ⟨_,h1,rq,rq⟩ (QaG ..))⟩
theorem dG {it a tp:Addr} {b:Bool} {es:Array (Int×Value)} {i ep:Nat} {t:SetTable} {Q:Option Value->Shared->Prop} {is:List Nat} (hh:A.handled=none) (K:Gz s.heap it a (.ref tp) i es.size ep) (ht:s.heap.IsTuple tp (is.map λi:Nat=>rawInt (i:Int)).toArray) (R:FN b s.heap a es ep t) (hi:is[i]?=none)
  (q:∀h',Heap.ExtBut it s.heap h'->Q none { s with heap:=h' }):wpAny (model prog w) A (pyNext (.ref it)) Q E s:=by
 obtain⟨oi,hoi,ci,di⟩:=K;obtain⟨ob,g1,g2,g3,g4,g5⟩:=R;have T:s.TypeIs (.ref it) "set_iterator":=⟨_,hoi,ci⟩;obtain⟨ZX,Wz,WD,T6⟩:=oi;dsimp only at ci di;subst ci di;obtain⟨ot,hot,cot,nt,dot⟩:=ht;obtain⟨j9,jf,jg,dX⟩:=ot;dsimp only at cot dot;subst cot dot;unfold pyNext;refine Qcl (Qca (Qam (name:=Str.ofString "__next__") T Fo (Qbr Fo T K6 ?_ (M8 _))));have e1:typeName (.type "set_iterator")=pure "set_iterator":=by unfold typeName;rw[find?_eq_fast];kernel_rfl
 have hh1:A.in1.handled=none:=hh;unfold Builtin.«set_iterator.__next__»;generalize eSE:setEntries=SE;generalize eSN:setNextDrawn=SN
 wp_walk
 subst eSE;refine Qcl (Qbg g1 g3 g4 ?_);refine Qcm ?_;dsimp only [rawInt];simp only[Qbk,QaT,Qcr,Qbe];have hpl:((is.map λi:Nat=>rawInt (i:Int)).toArray)[i]?=none:=by
  rw[List.getElem?_toArray,Qbc,hi];rfl
 wp_walk
 simp only[hpl]
 wp_walk
 unfold raiseNew
 wp_walk
 refine wpAny_of_eq isSubtype_stop ?_
 wp_walk
 exact q _ ((((QaG ..).trans (QaG ..)).extBut.push _).push _)
end
theorem Sx:Slot "set_iterator" "__iter__" "set_iterator.__iter__":=.of (owner:="set_iterator") (n:="__iter__") (by rw[typeLookup_type,builtinLookup_eq_fast];kernel_rfl) (by trivial) (by trivial) (by trivial) (by first | exact .inl (by trivial) | exact .inr (by trivial)) (by rw[QbR];kernel_rfl)
theorem XJ:entryFor table "set_iterator.__iter__"=some Builtin.«dict_keyiterator.__iter__»:=entryFor_alias (id':="dict_keyiterator.__iter__") (by kernel_rfl) rfl (by trivial) (by kernel_rfl)
theorem Zh (a:Value):argsOk "set_iterator.__iter__" ⟨[a],[]⟩:=by
 unfold argsOk;rw[signature?_of (id:="set_iterator.__iter__") (n:=("__iter__".toList.reverse)) (o:=("set_iterator".toList.reverse)) (by kernel_rfl) XH]
 kernel_rfl
section
variable {prog:Program} {w:World} {A:Around} {E:YA} {s:Shared}
theorem Vl {a:Addr} {es:Array (Int×Value)} {i ep sl:Nat} {t:SetTable} {Z:Option (Value×Nat)->Shared->Prop} (R:FN false s.heap a es ep t) (eb:w.params.followText "set-order"=true)
  (h:Z (((pickOrder (w.params.setOrder a ep) es)[i]?).map λe=>(e.2,sl)) s):wpAny (model prog w) A (setNext a sl i ep) Z E s:=by
 obtain⟨ob,g1,g2,g3,g4,g5⟩:=R;unfold setNext;refine Qcl (Qbg g1 g3 g4 ?_);dsimp only;unfold setsByText;refine Qcl (Qcl (Qbv (Qcm ?_)));show wpAny _ _ (if w.params.followText "set-order"=true then _ else _) _ _ _
 rw[if_pos eb];simp only[Qbk,QaT,Qcr];unfold setWalk;refine Qcl (Qcl (Qbg g1 g3 g4 ?_));dsimp only;unfold setsByText;refine Qcl (Qcl (Qbv (Qcm ?_)));show wpAny _ _ (if w.params.followText "set-order"=true then _ else _) _ _ _
 rw[if_pos eb];refine Qcl (Qbv (Qcm ?_));exact Qcm h
theorem Ss {a:Addr} {es:Array (Int×Value)} {i ep sl:Nat} {t:SetTable} {Z:Option (Value×Nat)->Shared->Prop} (R:FN true s.heap a es ep t) (eb:w.params.followText "set-order"=false) (pl:t.plain=true\/es.size<=1)
  (h:Z (match es[SetTable.below t.place sl]?,t.place[SetTable.below t.place sl]? with | some (_,x),some j=>some (x,j+1) | _,_=>none) s):wpAny (model prog w) A (setNext a sl i ep) Z E s:=by
 obtain⟨ob,g1,g2,g3,g4,g5⟩:=R;unfold setNext;refine Qcl (Qbg g1 g3 g4 ?_);dsimp only;unfold setsByText;refine Qcl (Qcl (Qbv (Qcm ?_)));show wpAny _ _ (if w.params.followText "set-order"=true then _ else _) _ _ _
 rw[if_neg (by rw[eb];decide)];split
 ·rename_i hd;have hd:(!t.plain&&decide (es.size > 1))=true:=hd;rw[Qbm,Bool.not_eq_true',QaS] at hd;rcases pl with q | q
  ·rw[q] at hd;cases hd.1
  ·omega
 ·show wpAny _ _ ((if (!t.led&&!es.isEmpty)=true then unsupported _ else pure ()) >>= _) _ _ _
  rw[g5.1];simp only[Bool.not_true,QbO,QaT,Qcr];refine Qcl (Qcm ?_);exact Qcm h
theorem up_place {t:SetTable} {es:Array (Int×Value)} (g4:t.fits es.size=true) (g5:TOk true t) (pl:t.plain=true\/es.size<=1):t.place.size=es.size/\t.place.toList.Pairwise (· < ·):=by
 simp only[SetTable.fits,Qbm,beq_iff_eq,decide_eq_true_eq] at g4;refine⟨g4.1,?_⟩;rcases pl with q | q
 ·exact g5.2.2 q
 ·have:t.place.toList.length<=1:=by rw[QaF];omega
  match h:t.place.toList,this with
  | [],_=>exact .nil
  | [x],_=>exact List.pairwise_singleton _ _
def Ky (t:SetTable):Nat->Nat
 | 0=>0
 | i+1=>t.place.getD i 0+1
theorem Pq {t:SetTable} (up:t.place.toList.Pairwise (· < ·)) {i:Nat} (hi:i<=t.place.size):SetTable.below t.place (Ky t i)=i:=by
 obtain⟨h1,h2,h3⟩:=below_at (j:=Ky t i) up;have lt:∀(x y:Nat) (u v:Nat),t.place[x]?=some u->t.place[y]?=some v->x < y->u < v:=λx y u v ex ey l=>by
  rw[<-Qau] at ex ey;obtain⟨a1,a2⟩:=Qae.mp ex;obtain⟨b1,b2⟩:=Qae.mp ey;rw[<-a2,<-b2];exact Qag.mp up x y a1 b1 l
 generalize hr:SetTable.below t.place (Ky t i)=r at *
 match i,hi with
 | 0,_=>
  by_cases c:r=0
  ·exact c
  ·have l0:0 < t.place.size:=by omega
   have:=h2 0 _ (Qaf l0) (by omega);exact absurd this (Nat.not_lt_zero _)
 | i+1,hi=>
  have li:i < t.place.size:=by omega
  have ei:t.place[i]?=some t.place[i]:=Qaf li;have eg:t.place.getD i 0=t.place[i]:=by simp[Array.getD,li]
  have es:Ky t (i+1)=t.place[i]+1:=by show t.place.getD i 0+1=_;rw[eg]
  rw[es] at h2 h3;by_cases c1:r<=i
  ·have:=h3 i _ ei c1;omega
  ·by_cases c2:i+1 < r
   ·have l2:i+1 < t.place.size:=by omega
    have e2:t.place[i+1]?=some t.place[i+1]:=Qaf l2;have a:=h2 (i+1) _ e2 c2;have b:=lt i (i+1) _ _ ei e2 (Qbt _);omega
   ·omega
theorem Ml {it a:Addr} {first:Value} {i n ep:Nat} {Q:YA} (K:Gz s.heap it a first i n ep) (q:Q (.ref it) s):wpAny (model prog w) A (pyIter (.ref it)) Q E s:=by
 obtain⟨oi,hoi,ci,di⟩:=K;have T:s.TypeIs (.ref it) "set_iterator":=⟨_,hoi,ci⟩;refine wpAny_pyIter_slot T Sx (Qbr Sx T XJ ?_ (Zh _));show wpAny _ _ (ret (.ref it)) _ _ s;exact Qcm ⟨_,rq,"set_iterator",_,T,Fo.lookup,q⟩
theorem Gz.at {h h':Heap} {it a:Addr} {first:Value} {i n ep:Nat} (x:Gz h it a first i n ep) (e:∀o,h.get? it=some o->h'.get? it=some o):Gz h' it a first i n ep:=let ⟨o,ho,r⟩:=x;⟨o,e _ ho,r⟩
theorem Xm (hh:A.handled=none) (it a:Addr) (ne:a≠it) (es:Array (Int×Value)) (ep:Nat) (t:SetTable) (eb:w.params.followText "set-order"=true) :
  Walks prog w A it [it,a] [it] es.size (λi v=>∃e,(pickOrder (w.params.setOrder a ep) es)[i]?=some e/\v=e.2) (λi h=>Gz h it a (rawInt (0:Nat)) i es.size ep/\FN false h a es ep t) where
 sub:=λb hb=>by simp at hb;simp[hb]
 frame:=λ_ _ _ st hk=>⟨st.1.at λo e=>hk it (by simp) o e,st.2.at λo e=>hk a (by simp) o e⟩
 item:=λi s Q E hi st hQ=>by
  have sz:(pickOrder (w.params.setOrder a ep) es).size=es.size:=by
   have:=(IW (w.params.setOrder a ep) es.size 0 es.toList #[] (QaF ..)).length_eq;rw[QaF] at this;exact this.trans (by simp)
  have hx:(pickOrder (w.params.setOrder a ep) es)[i]?=some ((pickOrder (w.params.setOrder a ep) es)[i]'(by omega)):=Qaf (by omega);refine Tw (nx:=0) (x:=((pickOrder (w.params.setOrder a ep) es)[i]'(by omega)).2) st.1 st.2 (λA E Z hz=>Vl st.2 eb (by rw[hx];exact hz)) λh' k sb=>?_;exact hQ _ h' s.toks ⟨_,hx,rq⟩ ⟨k,st.2.at λo e=>by rw[sb.2 a ne];exact e⟩ λc o hc e=>by rw[sb.2 c (λz=>hc (by simp[z]))];exact e
 done:=λs Q E st hQ=>by
  have sz:(pickOrder (w.params.setOrder a ep) es).size=es.size:=by
   have:=(IW (w.params.setOrder a ep) es.size 0 es.toList #[] (QaF ..)).length_eq;rw[QaF] at this;exact this.trans (by simp)
  have hx:(pickOrder (w.params.setOrder a ep) es)[es.size]?=none:=Array.getElem?_eq_none (by omega);exact Vq hh st.1 st.2 (λA E Z hz=>Vl st.2 eb (by rw[hx];exact hz)) λh' x=>hQ h' s.toks λc o hc e=>x c o (λz=>hc (by simp[z])) e
 self:=λ_ _ _ _ st hQ=>Ml st.1 hQ
theorem VG (hh:A.handled=none) (it a:Addr) (ne:a≠it) (es:Array (Int×Value)) (ep:Nat) (t:SetTable) (eb:w.params.followText "set-order"=false) (pl:t.plain=true\/es.size<=1) (ft:t.fits es.size=true) (tk:TOk true t) :
  Walks prog w A it [it,a] [it] es.size (λi v=>∃e,es[i]?=some e/\v=e.2) (λi h=>Gz h it a (rawInt (Ky t i:Nat)) i es.size ep/\FN true h a es ep t) where
 sub:=λb hb=>by simp at hb;simp[hb]
 frame:=λ_ _ _ st hk=>⟨st.1.at λo e=>hk it (by simp) o e,st.2.at λo e=>hk a (by simp) o e⟩
 item:=λi s Q E hi st hQ=>by
  obtain⟨sz,up⟩:=up_place ft tk pl;have hx:es[i]?=some es[i]:=Qaf hi;have li:i < t.place.size:=by omega
  have hp:t.place[i]?=some (t.place.getD i 0):=by rw[Qaf li];simp[Array.getD,li]
  refine Tw (nx:=Ky t (i+1)) (x:=es[i].2) st.1 st.2 (λA E Z hz=>Ss st.2 eb pl (by rw[Pq up (by omega),hx,hp];exact hz)) λh' k sb=>?_;exact hQ _ h' s.toks ⟨_,hx,rq⟩ ⟨k,st.2.at λo e=>by rw[sb.2 a ne];exact e⟩ λc o hc e=>by rw[sb.2 c (λz=>hc (by simp[z]))];exact e
 done:=λs Q E st hQ=>by
  obtain⟨sz,up⟩:=up_place ft tk pl;have hx:es[es.size]?=none:=Array.getElem?_eq_none (Qch _);exact Vq hh st.1 st.2 (λA E Z hz=>Ss st.2 eb pl (by rw[Pq up (by omega),hx];exact hz)) λh' x=>hQ h' s.toks λc o hc e=>x c o (λz=>hc (by simp[z])) e
 self:=λ_ _ _ _ st hQ=>Ml st.1 hQ
theorem VH (hh:A.handled=none) (it a tp:Addr) (ne:a≠it) (nt:tp≠it) (es:Array (Int×Value)) (ep:Nat) (t:SetTable) (is:List Nat) (pm:is.Perm (List.range es.size)) :
  Walks prog w A it [it,a,tp] [it] es.size (λi v=>∃pl e,is[i]?=some pl/\es[pl]?=some e/\v=e.2) (λi h=>Gz h it a (.ref tp) i es.size ep/\FN true h a es ep t/\h.IsTuple tp (is.map λi:Nat=>rawInt (i:Int)).toArray) where
 sub:=λb hb=>by simp at hb;simp[hb]
 frame:=λ_ _ _ st hk=>⟨st.1.at λo e=>hk it (by simp) o e,st.2.1.at λo e=>hk a (by simp) o e,let ⟨o,ho,r⟩:=st.2.2;⟨o,hk tp (by simp) o ho,r⟩⟩
 item:=λi s Q E hi st hQ=>by
  have hl:is.length=es.size:=by rw[pm.length_eq,List.length_range]
  have li:i < is.length:=by omega
  have hp:is[i]?=some is[i]:=Qaj li;have lp:is[i] < es.size:=List.mem_range.mp (pm.mem_iff.mp (List.getElem_mem li));have hx:es[is[i]]?=some es[is[i]]:=Qaf lp;refine ZD st.1 st.2.2 st.2.1 hp hx λh' k sb=>?_;have kp:∀c o,c≠it->s.heap.get? c=some o->h'.get? c=some o:=λc o n e=>by rw[sb.2 c n];exact e
  exact hQ _ h' s.toks ⟨_,_,hp,hx,rq⟩ ⟨k,st.2.1.at λo e=>kp a o ne e,let ⟨o,ho,r⟩:=st.2.2;⟨o,kp tp o nt ho,r⟩⟩ λc o hc e=>kp c o (λz=>hc (by simp[z])) e
 done:=λs Q E st hQ=>by
  have hl:is.length=es.size:=by rw[pm.length_eq,List.length_range]
  exact dG hh st.1 st.2.2 st.2.1 (List.getElem?_eq_none (by omega)) λh' x=>hQ h' s.toks λc o hc e=>x c o (λz=>hc (by simp[z])) e
 self:=λ_ _ _ _ st hQ=>Ml st.1 hQ
end
section
variable {prog:Program} {w:World} {A:Around} {E:YA} {s:Shared}
theorem take_all {R:Result->Shared->Prop} {S a I:Addr} {fp:List Addr} {n c0:Nat} {P:Nat->Value->Prop} {St:Nat->Heap->Prop} {res:Value} {tt:Bool} (hT:s.TypeIs (.ref a) "set") (hS:s.heap.get? S=some { cls:=.type "list",data:=.seq #[] c0 }) (nS:S∉fp) (Wk:Walks prog w A.in1 I fp [I] n P St) (st:St 0 s.heap) (hn:n<=sizeLine)
  (fin:∀h' tk us c,(∀b o,b≠S->b≠I->s.heap.get? b=some o->h'.get? b=some o)->h'.get? S=some { cls:=.type "list",dict:=none,data:=.seq us c,slots:=#[] }->ItemsOf P us n->R (.ok (.ret res)) { s with heap:=h',toks:=tk }) :
  wpAny (model prog w) A.in1 (do
    let room <-holding [.ref I] (Builtin.List.listLengthHint (.ref a))
    if (room || tt)=true then do
     rule "list.extend.makes-room"
     Builtin.List.listTouch (.ref S)
     again (.builtin "list.extend.loop" ⟨[.ref S,.ref I,res],[]⟩)
    else again (.builtin "list.extend.loop" ⟨[.ref S,.ref I,res],[]⟩))
   (λfin s'=>match fin with | .done f=>R (.ok f) s' | .again c'=>c'.quiet=true/\codeAny (model prog w) A c' R s') (λe s'=>R (.error e) s') s:=by
 have key:∀(h:Heap) (c1:Nat),St 0 h->(∀b o,b≠S->s.heap.get? b=some o->h.get? b=some o)->h.get? S=some { cls:=.type "list",data:=.seq #[] c1 } ->
   codeAny (model prog w) A (.builtin "list.extend.loop" ⟨[.ref S,.ref I,res],[]⟩) R { s with heap:=h }:=λh c1 st1 kp hS1=>by
  refine codeAny_extend_loopS Wk.toS hn S nS res n 0 _ #[] c1 rfl (Qci _) st1 hS1 (ItemsOf.nil _) λs2 us c mv hS2 itm=>?_;rw[Moved.eq_with mv];exact fin s2.heap s2.toks us c (λb o nb nI e=>mv.heap b o (by simp[nb,nI]) (kp b o nb e)) hS2 itm
 refine Qcl (QbW (Z4 hT ?_));refine wpAny_ite_split (λ_=>?_) (λ_=>Qcm ⟨plainId_quiet PySem.F.plain_extend_loop _,key s.heap c0 st (λ_ _ _ e=>e) hS⟩);refine Qcl (Qco ?_);refine Qcl ?_;show wpAny _ _ (updateSeq S (·.push .none) >>= λ_=>updateSeq S (·.pop)) _ _ _;refine Qcl (wpAny_updateSeq hS rfl ?_);have hS2:=Qaw (Obj.mapSeq (·.push Value.none)) hS rfl;refine wpAny_updateSeq (hz:=by seq_fits) hS2 rfl ?_;have hS3:=Qaw (Obj.mapSeq (·.pop)) hS2 rfl;have kp:∀b o,b≠S->s.heap.get? b=some o->((s.heap.update S (Obj.mapSeq (·.push Value.none))).update S (Obj.mapSeq (·.pop))).get? b=some o:=λb o nb e=>
  (Heap.get?_update_other _ _ (Ne.symm nb)).trans ((Heap.get?_update_other _ _ (Ne.symm nb)).trans e)
 exact Qcm ⟨plainId_quiet PySem.F.plain_extend_loop _,key _ _ (Wk.frame 0 _ _ st λb hb o e=>kp b o (λz=>nS (z ▸ hb)) e) kp hS3⟩
theorem Jr {α : Type} {f:α->Value}:∀{us:YE} {es:List α},us.length=es.length->(∀(j:Nat) (v:Value),us[j]?=some v->∃e,es[j]?=some e/\v=f e)->us=es.map f
 | [],[],_,_=>rfl
 | [],_::_,h,_=>by cases h
 | _::_,[],h,_=>by cases h
 | u::us,e::es,h,g=>by
  obtain⟨e',h1,h2⟩:=g 0 u rfl;cases h1;rw[QbU,h2,Jr (us:=us) (es:=es) (by simpa using h) λj v hj=>by simpa using g (j+1) v (by simpa using hj)]
theorem dD {R:Result->Shared->Prop} {b:Bool} {S a:Addr} {es:Array (Int×Value)} {ep c0:Nat} {t:SetTable} {res:Value} (hh:A.handled=none) (RS:FN b s.heap a es ep t) (eb:b=!w.params.followText "set-order") (hsz:es.size < scanBound) (hS:s.heap.get? S=some { cls:=.type "list",data:=.seq #[] c0 }) (nSa:S≠a)
  (fin:∀h' tk d' us c,(∀b o,b≠S->s.heap.get? b=some o->h'.get? b=some o)->h'.get? S=some { cls:=.type "list",dict:=none,data:=.seq us c,slots:=#[] }->us.toList.Perm (es.toList.map (·.2))->R (.ok (.ret res)) { s with heap:=h',toks:=tk,drawn:=d' }) :
  wpAny (model prog w) A.in1 (Builtin.List.listExtendWith (.ref S) (.ref a) res) (λfin s'=>match fin with | .done f=>R (.ok f) s' | .again c'=>c'.quiet=true/\codeAny (model prog w) A c' R s') (λe s'=>R (.error e) s') s:=by
 have T0:s.TypeIs (.ref a) "set":=let ⟨ob,g1,g2,_⟩:=RS;⟨ob,g1,g2.1⟩;have la:a < s.heap.objs.size:=let ⟨_,g,_⟩:=RS;Qcb g;have lS:S < s.heap.objs.size:=Qcb hS;have hn:es.size<=sizeLine:=fits_of_scanBound hsz;unfold Builtin.List.listExtendWith;refine Qcl (wpAny_typeOf (T:="set") T0 ?_);have n1:Builtin.List.listSameRef (.ref S) (.ref a)=false:=by simp[Builtin.List.listSameRef,nSa]
 have n2:(Value.type "set" == Value.type "list")=false:=by decide
 have n3:(Value.type "set" == Value.type "tuple")=false:=by decide
 simp only[n1,n2,n3,Bool.or_false,QaT,Qcr];refine Qcl (ZR RS eb hsz (λpl=>?_) λis d' hb pm=>?_)
 ·generalize eo:({ cls:=.type "set_iterator",data:=.fields #[rawInt 0,rawInt 0,.ref a,rawInt es.size,rawInt ep] }:Obj)=oI;have hI:(s.heap.push oI).get? s.heap.objs.size=some oI:=QaE _ (by rw[<-eo];rfl);have kp:∀c o,s.heap.get? c=some o->(s.heap.push oI).get? c=some o:=λc o e=>Qaq _ e;have T1:Shared.TypeIs { s with heap:=s.heap.push oI } (.ref a) "set":=let ⟨ob,g1,g2⟩:=T0;⟨ob,kp _ _ g1,g2⟩;have R1:=RS.at λo e=>kp a o e;have nI:a≠s.heap.objs.size:=Qcc la;have nS:S∉[s.heap.objs.size,a]:=by
   simp only[QbS,Qbl,Qcq,not_or];exact⟨Qcc lS,nSa⟩
  have si:∀k:Nat,k=0->Gz (s.heap.push oI) s.heap.objs.size a (rawInt (k:Nat)) 0 es.size ep:=λk hk=>⟨oI,hI,by rw[<-eo],by rw[<-eo,hk];rfl⟩;cases eb2:w.params.followText "set-order" with
  | true=>
   rw[eb2] at eb;subst eb;refine take_all T1 (kp _ _ hS) nS (Xm (A:=A.in1) (by simp[hh]) _ a nI es ep t eb2) ⟨si 0 rfl,R1⟩ hn λh' tk us c kk hS' itm=>?_;refine fin h' tk s.drawn us c (λc o nc e=>kk c o nc (Qcc (Qcb e)) (kp _ _ e)) hS' ?_;have e1:us.toList=(pickOrder (w.params.setOrder a ep) es).toList.map (·.2):=by
    have sz:=(IW (w.params.setOrder a ep) es.size 0 es.toList #[] (QaF ..)).length_eq;refine Jr (by rw[QaF,itm.1];exact (sz.trans (by simp)).symm) λj v hj=>?_;rw[Qau] at hj;obtain⟨e,h1,h2⟩:=itm.2 j v hj;exact⟨e,by rw[Qau];exact h1,h2⟩
   rw[e1];exact ((IW (w.params.setOrder a ep) es.size 0 es.toList #[] (QaF ..)).trans (by simp)).map _
  | false=>
   rw[eb2] at eb;subst eb;obtain⟨ob,g1,g2,g3,g4,g5⟩:=id RS;refine take_all T1 (kp _ _ hS) nS (VG (A:=A.in1) (by simp[hh]) _ a nI es ep t eb2 (pl rfl) g4 g5) ⟨si _ rfl,R1⟩ hn λh' tk us c kk hS' itm=>?_;refine fin h' tk s.drawn us c (λc o nc e=>kk c o nc (Qcc (Qcb e)) (kp _ _ e)) hS' ?_;have e1:us.toList=es.toList.map (·.2):=by
    refine Jr (by rw[QaF,QaF,itm.1]) λj v hj=>?_;rw[Qau] at hj;obtain⟨e,h1,h2⟩:=itm.2 j v hj;exact⟨e,by rw[Qau];exact h1,h2⟩
   rw[e1]
 ·subst hb;generalize eo1:({ cls:=.type "tuple",data:=.seq (is.map λi:Nat=>rawInt (i:Int)).toArray }:Obj)=oT;generalize eo:({ cls:=.type "set_iterator",data:=.fields #[.ref s.heap.objs.size,rawInt 0,.ref a,rawInt es.size,rawInt ep] }:Obj)=oI;have z1:(s.heap.push oT).objs.size=s.heap.objs.size+1:=QbN ..;have hT:(s.heap.push oT).get? s.heap.objs.size=some oT:=QaE _ (by rw[<-eo1];rfl);have hI:((s.heap.push oT).push oI).get? (s.heap.objs.size+1)=some oI:=by rw[<-z1];exact QaE _ (by rw[<-eo];rfl)
  have kp:∀c o,s.heap.get? c=some o->((s.heap.push oT).push oI).get? c=some o:=λc o e=>Qaq _ (Qaq _ e);have T1:Shared.TypeIs { s with heap:=(s.heap.push oT).push oI,drawn:=d' } (.ref a) "set":=let ⟨ob,g1,g2⟩:=T0;⟨ob,kp _ _ g1,g2⟩;have R1:=RS.at λo e=>kp a o e;have nI:a≠s.heap.objs.size+1:=Qcc (Qbh la);have nS:S∉[s.heap.objs.size+1,a,s.heap.objs.size]:=by
   simp only[QbS,Qbl,Qcq,not_or];exact⟨Qcc (Qbh lS),nSa,Qcc lS⟩
  have tup:((s.heap.push oT).push oI).IsTuple s.heap.objs.size (is.map λi:Nat=>rawInt (i:Int)).toArray:=⟨oT,Qaq _ hT,by rw[<-eo1],0,by rw[<-eo1]⟩;have si:Gz ((s.heap.push oT).push oI) (s.heap.objs.size+1) a (.ref s.heap.objs.size) 0 es.size ep:=⟨oI,hI,by rw[<-eo],by rw[<-eo];rfl⟩;refine take_all (s:={ s with heap:=(s.heap.push oT).push oI,drawn:=d' }) T1 (kp _ _ hS) nS (VH (A:=A.in1) (by simp[hh]) _ a _ nI (Qcc (Qbt _)) es ep t is pm) ⟨si,R1,tup⟩ hn λh' tk us c kk hS' itm=>?_;refine fin h' tk d' us c (λc o nc e=>kk c o nc (Qcc (Qbh (Qcb e))) (kp _ _ e)) hS' ?_;have hl:is.length=es.size:=by rw[pm.length_eq,List.length_range]
  have e1:us.toList=is.map λi=>(es.toList.map (·.2)).getD i .none:=by
   refine Jr (by rw[QaF,itm.1,hl]) λj v hj=>?_;rw[Qau] at hj;obtain⟨p,e,h1,h2,h3⟩:=itm.2 j v hj;refine⟨p,h1,?_⟩;rw[h3,List.getD_eq_getElem?_getD,Qbc,Qau,h2];rfl
  rw[e1];have:=(pm.map λi=>(es.toList.map (·.2)).getD i Value.none);rw[show es.size=(es.toList.map (·.2)).length by rw[Qbw,QaF],range_getD] at this;exact this
theorem dI {b:Bool} {a:Addr} {es:Array (Int×Value)} {ep:Nat} {t:SetTable} {Rr:YE->Shared->Prop} (hh:A.handled=none) (RS:FN b s.heap a es ep t) (eb:b=!w.params.followText "set-order") (hsz:es.size < scanBound)
  (h:∀h' tk d' (us:YE),(∀c o,s.heap.get? c=some o->h'.get? c=some o)->us.Perm (es.toList.map (·.2))->Rr us { s with heap:=h',toks:=tk,drawn:=d' }):wpAny (model prog w) A (collect (.ref a)) Rr E s:=by
 have hlt:a < s.heap.objs.size:=let ⟨_,g,_⟩:=RS;Qcb g;unfold collect;refine Qcl (wpAny_runValue (QbJ entry_proto_collect' ?_));rw[QaC PySem.F.plain_proto_collect _];show wpAny _ A.in1 (newList [] >>= λl=>again (.builtin "list.__iadd__" ⟨[l,.ref a],[]⟩)) _ _ s;refine Qcl (Qbd ?_);refine Qcm ⟨plainId_quiet PySem.F.plain_list_iadd _,QbJ entry_list_iadd' ?_⟩;rw[QaC PySem.F.plain_list_iadd _];have k0:∀c o,s.heap.get? c=some o->(s.heap.push { cls:=.type "list",data:=.seq ([]:YE).toArray }).get? c=some o:=λc o e=>Qaq _ e;have hS0:(s.heap.push { cls:=.type "list",data:=.seq ([]:YE).toArray }).get? s.heap.objs.size=some { cls:=.type "list",data:=.seq #[] }:=QaE _ rfl;show wpAny _ A.in1 (Builtin.List.listExtendWith (.ref s.heap.objs.size) (.ref a) (.ref s.heap.objs.size)) _ _ _;have key:=dD (prog:=prog) (A:=A) (s:={ s with heap:=s.heap.push { cls:=.type "list",data:=.seq ([]:YE).toArray } }) (res:=.ref s.heap.objs.size)
  (R:=λ(r:Result) (s':Shared)=>∃h' tk d' us c,r=.ok (.ret (.ref s.heap.objs.size))/\s'={ s with heap:=h',toks:=tk,drawn:=d' }/\(∀c o,s.heap.get? c=some o->h'.get? c=some o)/\h'.get? s.heap.objs.size=some { cls:=.type "list",dict:=none,data:=.seq us c,slots:=#[] }/\us.toList.Perm (es.toList.map (·.2)))
  hh (RS.at λo e=>k0 a o e) eb hsz hS0 (Qcf hlt) λh' tk d' us c kk hS' pm=>⟨h',tk,d',us,c,rq,rq,λc o e=>kk c o (Qcc (Qcb e)) (k0 _ _ e),hS',pm⟩
 refine Qcn key (λfin s' x=>?_) λe s' x=>?_
 ·cases fin with
  | done f=>
   obtain⟨h',tk,d',us,c,e,rfl,kk,hS',pm⟩:=x;cases e;show wpAny _ A (load s.heap.objs.size >>= _) _ _ _;exact Qcl (wpAny_load hS' (Qcm (h h' tk d' us.toList kk pm)))
  | again c1=>
   refine⟨x.1,codeAny_mono x.2 λq s2 y=>?_⟩;obtain⟨h',tk,d',us,c,rfl,rfl,kk,hS',pm⟩:=y;show wpAny _ A (load s.heap.objs.size >>= _) _ _ _;exact Qcl (wpAny_load hS' (Qcm (h h' tk d' us.toList kk pm)))
 ·obtain⟨_,_,_,_,_,e',_⟩:=x;cases e'
end
open PySem.Calls (spliced_cons spliced_nil)
theorem Tz {α : Type} [DecidableEq α]:∀{l m:List α},l.Nodup->(∀x∈l,x∈m)->l.length<=m.length
 | [],m,_,_=>Qci _
 | a::l,m,h,c=>by
  obtain⟨h1,h2⟩:=QbB.mp h;have ha:=c a (.head _);have:=Tz (l:=l) (m:=m.erase a) h2 λx hx=>(List.mem_erase_of_ne (λz:x=a=>h1 (by rw[<-z];exact hx))).mpr (c x (.tail _ hx));rw[List.length_erase_of_mem ha] at this;have:0 < m.length:=List.length_pos_of_mem ha;simp only[Qbo];omega
theorem TF {α : Type} [DecidableEq α]:∀{m l:List α},l.Nodup->(∀x∈l,x∈m)->m.length<=l.length->m.Nodup
 | [],_,_,_,_=>List.Pairwise.nil
 | a::m,l,h,c,e=>by
  by_cases q:a∈m
  ·have:=Tz (m:=m) h λx hx=>by
    rcases QbS.mp (c x hx) with z | z
    ·exact z ▸ q
    ·exact z
   simp only[Qbo] at e;omega
  ·refine QbB.mpr ⟨q,TF (l:=l.erase a) (h.erase a) (λx hx=>?_) ?_⟩
   ·have x1:=(h.mem_erase_iff).mp hx;rcases QbS.mp (c x x1.2) with z | z
    ·exact absurd z x1.1
    ·exact z
   ·rw[List.length_erase];simp only[Qbo] at e;split <;> omega
theorem Yu {vs us:YE} (p:us.Perm vs):∀{ns:List Int},IntsAre vs ns->∃ms,IntsAre us ms/\ms.Perm ns:=by
 induction p with
 | nil=>intro ns h;cases h;exact⟨[],.nil,List.Perm.refl _⟩
 | cons x _ ih=>
  intro ns h;cases h with
  | cons n t r=>
   obtain⟨ms,h1,h2⟩:=ih r;exact⟨n::ms,.cons n t h1,h2.cons _⟩
 | swap x y l=>
  intro ns h;cases h with
  | cons n t r=>
   cases r with
   | cons n2 t2 r2=>exact⟨_,.cons n2 t2 (.cons n t r2),List.Perm.swap _ _ _⟩
 | trans _ _ ih1 ih2=>
  intro ns h;obtain⟨ms,h1,h2⟩:=ih2 h;obtain⟨ks,h3,h4⟩:=ih1 h1;exact⟨ks,h3,h4.trans h2⟩
section
variable {prog:Program} {w:World} {A:Around} {E:YA} {s:Shared}
theorem V6 {b:Bool} {a:Addr} {es:Array (Int×Value)} {ep:Nat} {t:SetTable} {ns:List Int} {Q:YA} (hh:A.handled=none) (RS:FN b s.heap a es ep t) (eb:b=!w.params.followText "set-order") (h64:es.size < 64) (hi:IntsAre (es.toList.map (·.2)) ns)
  (h:∀h' tk d' D (out:Array Value) ms e,(∀c o,s.heap.get? c=some o->h'.get? c=some o)->(∀c o,s.heap.get? c=some o->c≠D)->h'.get? D=some (seqObj "list" out e)->IntsAre out.toList ms->ms.Perm ns->ms.Pairwise (·<=·)->Q (.ref D) { s with heap:=h',toks:=tk,drawn:=d' }) :
  wpAny (model prog w) A (call (.builtin "sorted") [.ref a]) Q E s:=by
 refine Calls.call_function_entry kind_sorted plain_sorted entry_sorted (args_sorted1 _) ?_;unfold Builtin.«sorted»;refine Qcl (m:=checkCount "sorted" 1 1 _) (Qcm ?_);have hsz:es.size < scanBound:=by unfold scanBound;omega
 refine Qcl (dI (A:=A.in1) hh RS eb hsz λh1 tk d' us kk pm=>?_);obtain⟨ms,i1,i2⟩:=Yu pm hi;have ul:us.length=es.size:=by rw[pm.length_eq,Qbw,QaF]
 refine Qcl (wpAny_newList ?_ (by rw[ul];exact fits_of_scanBound hsz));have hD:(h1.push (seqObj "list" us.toArray 0)).get? h1.objs.size=some (seqObj "list" us.toArray 0):=QaE _ rfl;refine Qcl (QbW (Qbr slot_list_sort ⟨_,hD,rq⟩ entry_list_sort (list_sort_tree (s:={ s with heap:=h1.push (seqObj "list" us.toArray 0),toks:=tk,drawn:=d' }) hD i1 (by omega) λout ks a1 a2 a3=>⟨_,rq,?_⟩) (args_list_sort _)));obtain⟨e,he⟩:=sortedHeap_at (out:=out) hD;refine Qcm ⟨_,rq,h _ tk d' _ out ks e (λc o ec=>?_) (λc o ec=>Qcc (Qcb (kk c o ec))) he a1 (a2.trans i2) a3⟩;have e1:=kk c o ec;have lt:=Qcb e1;rw[sortedHeap_old (Qcc lt) (by rw[QbN];exact Qbh lt)];exact Qaq _ e1
end
theorem Inv.bY {X:Cx} {jb:YC} {σ : St} {H:Hp} {s:Shared} (I:Inv X jb σ H s) (d':Drawn):Inv X jb σ H { s with drawn:=d' }:=⟨I.ok,I.os,I.bare,I.base,I.loc,I.cell,I.free,I.Ga,I.pin,I.hok,I.len⟩
def Ze (K:YD) (t:TA):TE:=fun σ H Q=>t σ H λvs H1=>∃(p:Addr) (ns:List Int),vs=[.ref p]/\(SqL K H1 p (ns.map V.int)\/SqT K H1 p (ns.map V.int))/\ns.length < 64 /\
 ∀(ms:List Int) l,ms.Pairwise (· < ·)->(∀k,k∈ms ↔ k∈ns)->H1 l=none->Q (.ref l) (upd H1 l (.lst (ms.map V.int)))
theorem ZV {k:Int} {v:Value} (h:Value.isInt k v=true):∃t,v=.int k t:=Value.isInt_shape h
theorem Pn {prog:Program} {w:World}:∀{es:List (Int×Value)},ElemsOf (intKind prog w) es->∃ns,IntsAre (es.map (·.2)) ns/\∀k,k∈ns ↔ ∃e∈es,(intKind prog w).is k e.2=true
 | [],_=>⟨[],.nil,λk=>⟨(λh=>by cases h),λ⟨e,he,_⟩=>by cases he⟩⟩
 | e::es,h=>by
  obtain⟨⟨k,hk,_⟩,_⟩:=h.head;obtain⟨ns,h1,h2⟩:=Pn (es:=es) h.tail;obtain⟨t,et⟩:=ZV hk;refine⟨k::ns,by rw[QbU,et];exact .cons k t h1,λj=>?_⟩;rw[QbS,h2];constructor
  ·rintro (rfl |⟨e',he,q⟩)
   ·exact⟨e,.head _,hk⟩
   ·exact⟨e',.tail _ he,q⟩
  ·rintro ⟨e',he,q⟩;rcases QbS.mp he with rfl | he
   ·exact .inl ((intKind prog w).inj _ _ _ q hk)
   ·exact .inr ⟨e',he,q⟩
theorem Sq {X:Cx} {jb:YC} {σ : St} {H:Hp} {s:Shared} {h1:Heap} {tk n:Nat} {a:Addr} {val:Nat->Int} {ns:List Int} {Q:VK} (hc:X.calm=true) (I:Inv X jb σ H s) (z:SetT (intKind X.prog X.w) (!X.w.params.followText "set-order") h1 a (λk=>decide (k∈met val n)) (met val n).length)
  (kp:∀b o,s.heap.get? b=some o->h1.get? b=some o) (hn:n=ns.length) (h64:ns.length < 64) (hval:∀j,j < n->ns[j]?=some (val j))
  (q:∀(ms:List Int) l,ms.Pairwise (· < ·)->(∀k,k∈ms ↔ k∈ns)->H l=none->Q (.ref l) (upd H l (.lst (ms.map V.int)))) :
  wpAny (model X.prog X.w) X.A (call (.builtin "sorted") [.ref a]) (EP X jb σ Q) X.xe { s with heap:=h1,toks:=tk }:=by
 obtain⟨ob,es,ep,t,⟨g1,g2,g3⟩,⟨c1,c2⟩,⟨c3,c4,c5⟩,c6⟩:=z;obtain⟨ks,k1,k2⟩:=Pn c1;have ml:=Ql val n;have kl:ks.length=(met val n).length:=by
  have:=k1.length;rw[Qbw,QaF,c5] at this;exact this.symm
 have mem:∀k,k∈ks ↔ k∈met val n:=λk=>by rw[k2,<-c2,QaS]
 have nd:ks.Nodup:=TF (TJ val n) (λx hx=>(mem x).mpr hx) (by omega);have lH:∀k,k∈ks ↔ k∈ns:=λk=>by
  rw[mem,Qk];constructor
  ·intro ⟨j,hj,e⟩;exact Qay (e ▸ hval j hj)
  ·intro hk;obtain⟨j,hj⟩:=QaB hk;have lj:j < n:=by rw[hn];exact (Qae.mp hj).1
   refine⟨j,lj,?_⟩;rw[hval j lj] at hj;exact QbA hj
 refine V6 (I.ok.hd hc) ⟨ob,g1,g2,g3,c4,c6⟩ rfl (by omega) k1 λh2 tk2 d' D out ms e kk nD oD a1 a2 a3=>?_;obtain⟨m,hns,_⟩:=id I.loc;have k02:∀b o,s.heap.get? b=some o->h2.get? b=some o:=λb o e=>kk b o (kp b o e);have hn2:h2.Ns X.env.locals m:=by
  obtain⟨o,es',ep',q1,q2⟩:=hns;exact⟨o,es',ep',k02 _ _ q1,q2⟩
 have rv:Vals (ms.map V.int) out.toList:=Yt a1;obtain⟨hDn,I2⟩:=V7 (tk:=tk2) I hns hn2 (λb o _ e=>k02 b o e) (λb o e=>nD b o (kp b o e)) (by rw[Array.toArray_toList];exact oD) rv (by rw[Qbw,a2.length_eq,kl];omega);refine⟨.ref D,_,I2.bY d',rq,q ms D ?_ (λk=>(a2.mem_iff).trans (lH k)) hDn⟩;have nd2:ms.Nodup:=a2.nodup_iff.mpr nd;refine (List.pairwise_and_iff.mpr ⟨a3,nd2⟩).imp λzz=>?_;obtain⟨x,y⟩:=zz;exact by omega
end L2
namespace L2
open PySem PySem.Spec PyProof.Rows
theorem UJ:isSubtype (.type "list") (.type "set")=pure false:=by rw[QbR];kernel_rfl
theorem V2:isSubtype (.type "list") (.type "frozenset")=pure false:=by rw[QbR];kernel_rfl
theorem Zi {X:Cx} {jb:YC} {σ : St} {H:Hp} {s:Shared} {p:Addr} {ns:List Int} {Q:YA} (hc:X.calm=true) (I:Inv X jb σ H s) (hq:SqL X.K H p (ns.map V.int)\/SqT X.K H p (ns.map V.int)) (h64:ns.length < 64)
  (h:∀(h1:Heap) (tk:Nat),SetT (intKind X.prog X.w) (!X.w.params.followText "set-order") h1 s.heap.objs.size (λk=>decide (k∈met (λi=>ns.getD i 0) ns.length)) (met (λi=>ns.getD i 0) ns.length).length->(∀b o,s.heap.get? b=some o->h1.get? b=some o)->Q (.ref s.heap.objs.size) { s with heap:=h1,toks:=tk }) :
  wpAny (model X.prog X.w) X.A (call (.type "set") [.ref p]) Q X.xe s:=by
 have vOk:∀{its:YE},IntsAre its ns->∀(i:Nat) (v:Value),its.toArray[i]?=some v->(intKind X.prog X.w).is (ns.getD i 0) v=true/\v.scannable=true:=λhi i v e=>by
  obtain⟨t,rfl⟩:=IntsAre.int_at hi i v (by rw[<-List.getElem?_toArray];exact e);exact⟨intKind_is _ _ _ _,rq⟩
 have lim:ns.length+1 < scanBound:=by unfold scanBound;omega
 rcases hq with hq | hq
 ·obtain⟨its,rv,pl,hz⟩:=I.list hq;have hi:IntsAre its ns:=intsAre_of rv;have hl:its.toArray.size=ns.length:=by rw[Qba,hi.length]
  have il:=pl.isList;obtain⟨o,ho,cl,x⟩:=id il;refine QM (T:="list") (n:=ns.length) (P:=λi v=>its.toArray[i]?=some v) (I.ok.hd hc) (λi=>ns.getD i 0) (vOk hi) lim ⟨o,ho,cl⟩ UJ V2 (by decide) (λs1 kk=>?_) λh1 tk z kp=>h h1 tk z λb o e=>kp b o (Qcb e) e;have l1:s1.heap.IsList p its.toArray:=⟨o,kk o ho,cl,x⟩;refine⟨_,λi h=>h.IsListIter s1.heap.objs.size p i/\h.IsList p its.toArray,λA E Q hQ=>Qbi l1 hQ,λA hA ne=>?_,⟨⟨_,QaE _ rfl,rq,rq⟩,l1.push _⟩⟩;rw[<-hl];exact Walks.list hA _ p ne its.toArray
 ·obtain⟨its,rv,il,hz⟩:=I.tuple hq;have hi:IntsAre its ns:=intsAre_of rv;have hl:its.toArray.size=ns.length:=by rw[Qba,hi.length]
  have il':s.heap.IsTuple p its.toArray:=il;obtain⟨o,ho,cl,x⟩:=id il';refine QM (T:="tuple") (n:=ns.length) (P:=λi v=>its.toArray[i]?=some v) (I.ok.hd hc) (λi=>ns.getD i 0) (vOk hi) lim ⟨o,ho,cl⟩ UG V1 (by decide) (λs1 kk=>?_) λh1 tk z kp=>h h1 tk z λb o e=>kp b o (Qcb e) e;have l1:s1.heap.IsTuple p its.toArray:=⟨o,kk o ho,cl,x⟩;refine⟨_,λi h=>h.IsTupleIter s1.heap.objs.size p i/\h.IsTuple p its.toArray,λA E Q hQ=>QaU l1 hQ,λA hA ne=>?_,⟨⟨_,QaE _ rfl,rq,rq⟩,let ⟨o,e,r⟩:=l1;⟨o,Qaq _ e,r⟩⟩⟩;rw[<-hl];exact Walks.tuple hA _ p ne its.toArray
theorem Jo {X:Cx} {e:Expr} {t:TA} {q1 q2 cpos pos2:Pos} (hc:X.calm=true) (hg:Gl X "sorted") (hm:X.mg "sorted"=none) (hg2:Gl X "set") (hm2:X.mg "set"=none) (ha:PA X [e] t)
  (he:starEach [e] X.env=(false,eval e X.env)::starEach [] X.env:=by rfl) (hpl:(backTo cpos (starEach [] X.env)).any (·.1)=false:=by rfl)
  (hs0:starEach [.Call (.Name "set" q2) [e] [] cpos] X.env=[(false,eval (.Call (.Name "set" q2) [e] [] cpos) X.env)]:=by rfl) :
  PE X (.Call (.Name "sorted" q1) [.Call (.Name "set" q2) [e] [] cpos] [] pos2) (Ze X.K t):=by
 intro jb s σ H Q I h;have inner:wpAny (model X.prog X.w) X.A (eval (.Call (.Name "set" q2) [e] [] cpos) X.env) (λv s1=>∃(s0:Shared) (H1:Hp) (h1:Heap) (tk:Nat) (ns:List Int),v=.ref s0.heap.objs.size/\s1={ s0 with heap:=h1,toks:=tk }/\Inv X jb σ H1 s0/\ns.length < 64 /\
   SetT (intKind X.prog X.w) (!X.w.params.followText "set-order") h1 s0.heap.objs.size (λk=>decide (k∈met (λi=>ns.getD i 0) ns.length)) (met (λi=>ns.getD i 0) ns.length).length/\(∀b o,s0.heap.get? b=some o->h1.get? b=some o) /\
   ∀(ms:List Int) l,ms.Pairwise (· < ·)->(∀k,k∈ms ↔ k∈ns)->H1 l=none->Q (.ref l) (upd H1 l (.lst (ms.map V.int)))) X.xe s:=by
  refine QaX (Gn I hg2 hm2 (u:=.type "set") (by trivial) ?_);refine Qac (thn (ha cpos jb s σ H _ I h) λus s1 zz=>?_) he hpl;obtain⟨vs,H1,I1,r1,p,ns,ev,hq,h64,q⟩:=zz;subst ev;obtain⟨u,rfl,rx⟩:=vals1 r1;cases rx;exact Zi hc I1 hq h64 λh1 tk z kp=>⟨s1,H1,h1,tk,ns,rq,rq,I1,h64,z,kp,q⟩
 refine QaX (Gn I hg hm (u:=.builtin "sorted") (by trivial) ?_);refine PyProof.Rows.callWith_builtin1 (Q:=EP X jb σ Q) ?_ hs0 rfl;rw[hs0];show wpAny _ _ (spliced ((false,eval (.Call (.Name "set" q2) [e] [] cpos) X.env)::backTo pos2 [])) _ _ s;refine Calls.spliced_cons (thn inner λv s1 zz=>?_);obtain⟨s0,H1,h1,tk,ns,ev,es,I1,h64,z,kp,q⟩:=zz;subst ev es;refine Calls.spliced_nil ?_;exact Sq hc I1 z kp rfl h64 (λj hj=>by rw[Qaj hj];simp[hj]) q
theorem HW:fillsNumberSlot (.type "tuple") "mul"=pure false:=PySem.fillsNumberSlot_seq (id:="tuple.__mul__") (r:=some (.builtin "tuple.__rmul__")) PySem.F.slot_tuple_mul.lookup (by trivial) PySem.F.slot_tuple_rmul.lookup (by trivial)
theorem Le:seqRepeat? (.type "tuple")=pure (some (.builtin "tuple.__mul__")):=by
 unfold seqRepeat?;rw[PySem.seqSlot_of (T:="tuple") (name:="__mul__") (id:="tuple.__mul__") PySem.F.slot_tuple_mul.lookup (by trivial),PySem.seqSlot_of (T:="tuple") (name:="__rmul__") (id:="tuple.__rmul__") PySem.F.slot_tuple_rmul.lookup (by trivial)];rfl
theorem N5 (k:Int) (t:Tok) (l:Addr) (items:Array Value) (n:Nat) (dd:Option Addr) (sl:YI) :
  Meets (Builtin.«int.__rmul__» ⟨[.int k t,.ref l],[]⟩) (λ_ R s=>s.heap.get? l=some { cls:=.type "tuple",dict:=dd,data:=.seq items n,slots:=sl }/\R (.ok (.ret Value.notImplemented)) s):=
 .of_wp λprog w A R s h=>by obtain⟨hp,g,d,tk,os⟩:=s;obtain⟨hl,h⟩:=h;wp_walk;exact⟨_,rfl,h⟩
theorem ZG (k:Int) (t:Tok) (l:Addr) (u:Value) (n:Nat) (dd:Option Addr) (sl:YI) (h2:2<=k) (h3:k<=1000) :
  Meets (Builtin.«tuple.__mul__» ⟨[.ref l,.int k t],[]⟩) (λ_ R s=>s.heap.get? l=some { cls:=.type "tuple",dict:=dd,data:=.seq #[u] n,slots:=sl }/\R (.ok (.ret (.ref s.heap.objs.size))) { s with heap:=s.heap.push { cls:=.type "tuple",data:=.seq (List.replicate k.toNat u).toArray } }):=
 .of_wp λprog w A R s h=>by
  obtain⟨hp,g,d,tk,os⟩:=s;obtain⟨hl,h⟩:=h;have c1:((decide (k < -(2 ^ 63)) || decide (k ≥ 2 ^ 63)):Bool)=false:=by
   rw[Bool.or_eq_false_iff];exact⟨Qby (by omega),Qby (by omega)⟩
  have c2:(k == 1)=false:=by rw[QaJ];omega
  have c3:decide (k<=0)=false:=Qby (by omega)
  wp_walk
  rw[if_neg (by rw[c1];decide)]
  wp_walk
  have sz:((#[u]:Array Value).size:Int)*k=k:=by show (1:Int)*k=k;omega
  rw[if_neg (by rw[sz];show ¬k > (2 ^ 63 - 1) / 8;omega)]
  wp_walk
  rw[if_neg (by
   rw[sz];show ¬decide (k > (sizeLine:Int))=true;rw[QaS];have:(1000:Int)<=(sizeLine:Int):=by decide
   omega)]
  have ef:∀(j:Nat) (a:Array Value),List.foldl (λx1 x2=>x1++x2) a (List.replicate j #[u])=a++(List.replicate j u).toArray:=λj=>by
   induction j with
   | zero=>intro a;simp
   | succ j ih=>intro a;rw[List.replicate_succ,List.foldl_cons,ih,List.replicate_succ];apply Array.toList_inj.mp;simp
  rw[ef];unfold Builtin.Tuple.tupleExact;dsimp only;have e0:(#[]:Array Value)++(List.replicate k.toNat u).toArray=(List.replicate k.toNat u).toArray:=by apply Array.toList_inj.mp;simp
  rw[e0];exact Qcl (Qbd (Qcm ⟨_,rq,h⟩))
section
variable {X:Cx} {K:YD}
theorem cP (h:X.K=K) (hu:X.A.units+66 < cLine):OpR X (compareOp .In) (λx y H Q=>∃l xs d ds,y=.ref l/\SqT K H l xs/\Gu K H xs ds/\Rep H x d/\SeqAt.shaped d=true/\PyData.canLayAll0 ds=true/\Q (.bl (ds.any λz=>PyData.eqv z d)) H):=by
 subst h;intro jb s σ H x y v u Q I rx ry hh;obtain⟨l,xs,d,ds,rfl,hq,hr,hx,sd,hc,q⟩:=hh;cases ry;obtain⟨its,rv,⟨o,ho,hcl,n,hd⟩,_⟩:=I.tuple hq;obtain⟨as,r1⟩:=Gu.reads I hr rv;obtain⟨bs,r2⟩:=hx.reads I.hok rx;refine SeqAt.in_tuple_reads (xs:=ds) (d:=d) (.tuple ho hcl hd (by simpa using r1)) r2 hc (SeqAt.canLay_of_shaped sd) (room_in_shaped sd (by omega)) ⟨.bl _,H,I,rq,q⟩
end
theorem Rep.kn {H:Hp} {v:V} {d:PyData} (r:Rep H v d):Kn H v:=by
 cases r with
 | non=>exact True.intro
 | bl b=>exact True.intro
 | int i=>exact True.intro
 | str x=>exact True.intro
 | tup e _=>exact .inr ⟨_,e⟩
 | lst e _=>exact .inl ⟨_,e⟩
end L2
namespace HT
open PySem PySem.Spec PyProof.Rows
section
variable {prog:Program} {w:World} {A:Around} {E:YA} {s:Shared}
theorem W6 (n:Nat):Builtin.Slice.sliceAdjust none none (-1) (n:Int)=((n:Int) - 1,-1):=by
 unfold Builtin.Slice.sliceAdjust
 first
  | rfl
  | simp
theorem Wf (n:Nat):Builtin.Slice.slicePlaces ((n:Int) - 1) (-1) (-1)=n:=by
 unfold Builtin.Slice.slicePlaces;have h1:¬((-1:Int) > 0):=by decide
 by_cases h:(n:Int) - 1 > -1
 ·have e:((n:Int) - 1 - -1 - 1) / (- -1)+1=(n:Int):=by
   rw[show (- -1:Int)=1 by decide,Int.ediv_one];omega
  simp only[h1,Qcr,h,if_true,e,Qbe]
 ·have e:n=0:=by omega
  subst e;simp
theorem Ug {α β : Type} {f g:α->Option β}:∀{l:List α},(∀x∈l,f x=g x)->l.filterMap f=l.filterMap g
 | [],_=>rfl
 | x::r,h=>by rw[QaK,QaK,h x (QaN ..),Ug λy hy=>h y (Qaz _ hy)]
theorem Zn (xs:Array Value):((List.range xs.size).filterMap λ(m:Nat)=>xs[(((xs.size:Int) - 1)+(m:Int)*(-1)).toNat]?).toArray=xs.toList.reverse.toArray:=by
 have e:(List.range xs.size).filterMap (λ(m:Nat)=>xs[(((xs.size:Int) - 1)+(m:Int)*(-1)).toNat]?)=((List.range xs.size).map λk=>xs.size - 1 - k).filterMap (xs[·]?):=by
  rw[List.filterMap_map];refine Ug λk hk=>?_;have:=List.mem_range.mp hk;show xs[_]?=xs[xs.size - 1 - k]?;congr 1;omega
 rw[e,PySem.W.krv_range,List.filterMap_reverse,PySem.W.krv_all]
theorem Ny {sl:Addr} {vk:Value} {n:Nat} {Q:Int×Int×Nat->Shared->Prop} (hs:s.heap.IsSliceOf sl .none .none vk) (pk:IsPart vk (some (-1)))
  (h:Q ((n:Int) - 1,-1,n) s):wpAny (model prog w) A (Builtin.Slice.sliceApplied (.ref sl) (pure (n:Int))) Q E s:=by
 obtain⟨os,hos,hcs,hds⟩:=id hs;unfold Builtin.Slice.sliceApplied Builtin.Slice.sliceFields;refine Qcl (Qcl (Qcj hos hds (x:=.none) rfl (Qcl (Qcj hos hds (x:=.none) rfl (Qcl (Qcj hos hds (x:=vk) rfl (Qcm ?_)))))));refine Qcl (K5 pk ?_);show wpAny _ _ (if ((-1:Int) == 0)=true then _ else _) _ _ s
 rw[if_neg (by decide)];refine Qcl (slicePart_none (Qcl (slicePart_none (Qcl (Qcm ?_)))));show wpAny _ _ (match Builtin.Slice.sliceAdjust none none (-1) (n:Int) with | (lo,hi)=>pure (lo,(-1:Int),Builtin.Slice.slicePlaces lo hi (-1))) _ _ s
 rw[W6 n];show wpAny _ _ (pure ((n:Int) - 1,(-1:Int),Builtin.Slice.slicePlaces ((n:Int) - 1) (-1) (-1))) _ _ s;rw[Wf];exact Qcm h
theorem Nj {t sl:Addr} {items:Array Value} {vk:Value} {Q:YA} (ht:IsTup s.heap t items) (hs:s.heap.IsSliceOf sl .none .none vk) (pk:IsPart vk (some (-1)))
  (h:Q (.ref s.heap.objs.size) { s with heap:=s.heap.push { cls:=.type "tuple",data:=.seq items.toList.reverse.toArray } })
  (hsz:items.size<=sizeLine):wpAny (model prog w) A (getItem (.ref t) (.ref sl)) Q E s:=by
 have Js:sizeOk (.seq items.toList.reverse.toArray):=by
  show items.toList.reverse.toArray.size<=sizeLine;rw[Qba,List.length_reverse,QaF];exact hsz
 obtain⟨os,hos,hcs,hds⟩:=id hs;have hTs:s.TypeIs (.ref sl) "slice":=⟨os,hos,hcs⟩;unfold getItem
 try with_reducible refine QbW ?_
 first | refine Qcl (Qcm ?_) | skip
 refine Qcl (wpAny_sequenceKey ht.typeIs (by decide) ?_);refine Qcl (Qam (name:=Str.ofString "__getitem__") ht.typeIs Qab
  (Qbr Qab ht.typeIs entry_tuple_getitem ?_ (args_tuple_getitem _ _)))
 show wpAny _ _ (Builtin.Tuple.tupleItemsOf (.ref t) >>= _) _ _ s;refine Qcl (tupleItemsOf_ ht ?_);refine Qcl (wpAny_typeOf hTs ?_);rw[if_pos (by decide)];refine Qcl (Ny hs pk ?_);show wpAny _ _ (if (((items.size:Int) - 1) == 0&&(-1:Int) == 1&&items.size == items.size)=true then _ else _) _ _ s
 rw[if_neg (by simp),Zn]
 first
  | exact Qcl (m:=Builtin.Tuple.tupleExact _) (Qbd (Qcm ⟨_,rfl,Qcm h⟩) Js)
  | exact Qcl (m:=Builtin.Tuple.tupleExact _) (Qbd (Qcl (Qcm (Qcm ⟨_,rfl,Qcm h⟩))) Js)
  | exact Qcl (Qcl (m:=Builtin.Tuple.tupleExact _) (Qbd (Qcm (Qcm ⟨_,rfl,Qcm h⟩)) Js))
  | exact Qcl (Qcl (m:=Builtin.Tuple.tupleExact _) (Qbd (Qcm ⟨_,rfl,Qcm h⟩) Js))
end
end HT
namespace L2
open PySem PySem.Spec PyProof.Rows
def bL (K:YD) (te:TE) (tk:TO):TE:=fun σ H Q=>te σ H λx H1=>tk σ H1 λk H2=>k=some (-1)/\∃a xs,x=.ref a/\SqT K H2 a xs/\∀p,H2 p=none->Q (.ref p) (upd H2 p (.tup xs.reverse))
section
variable {X:Cx} {e:Expr} {k:Expr} {te:TE} {tk:TO} {p2 pos:Pos}
theorem Ye {ops:Addr->Addr->YE} (he:PE X e te) (hk:PO X (some k) tk) (hsub:∀a b,subscripted (.Slice none none (some k) p2) false (.ref a) (.ref b)=operate (ops a b) (getItem (.ref a) (.ref b)):=by intro _ _;with_unfolding_all rfl):PE X (.Subscript e (.Slice none none (some k) p2) pos) (bL X.K te tk):=by
 intro jb s σ H Q I h;refine Subscript_ (thn (he jb s σ H _ I h) λv s1 zz=>?_);obtain⟨x,H1,I1,r1,q1⟩:=zz;refine wpAny_Slice ?_;rw[evalPart_none];refine Qcm (Qcm (thn (hk jb s1 σ H1 _ I1 q1) λvk s2 zz=>?_));obtain⟨kk,H2,I2,pk,ek,q2⟩:=zz;subst ek;obtain⟨a,xs,rfl,hx,q⟩:=q2;cases r1;have I4:Inv X jb σ H2 { s2 with heap:=s2.heap.push { cls:=.type "slice",data:=.fields #[.none,.none,vk] } }:=I2.kept (t':=s2.toks) λb ob q=>Qaq _ q;obtain⟨its,r,ht,hz⟩:=I4.tuple hx;have hlen:=r.length;show wpAny (model X.prog X.w) X.A (subscriptTail e (.Slice none none (some k) p2) (.ref a) (.ref s2.heap.objs.size)) (EP X jb σ Q) X.xe { s2 with heap:=s2.heap.push { cls:=.type "slice",data:=.fields #[.none,.none,vk] } };refine tail_any (ops:=ops a s2.heap.objs.size) ht.typeIs Qab.lookup ?_ (hsub _ _);refine HT.Nj ht (Heap.IsSliceOf.new ..) pk ?_ (by rw[Qba] <;> omega);refine⟨.ref (s2.heap.push { cls:=.type "slice",data:=.fields #[.none,.none,vk] }).objs.size,_,I4.laid (t':=s2.toks) (o:=.tup xs.reverse) (λb ob q=>Qaq _ q) (Qch _) ?_,rq,q _ (I4.hok.fresh (Qch _))⟩;exact⟨by rw[List.length_reverse];exact hz,its.reverse,LQ r,_,QaE _ rfl,rq,0,rq⟩
end
end L2
namespace PySem.ZZ
open PySem
section
variable {prog:Program} {w:World} {A:Around} {E:YA} {s:Shared}
abbrev itS (x:Str) (t:Tok):Obj:={ cls:=.type "str_ascii_iterator",data:=.fields #[.str x t,.int 0 0] }
abbrev zsa (h:Heap) (x:Str) (t:Tok) (l2:Addr):Heap:=((((h.push (itS x t)).push (itO "tuple_iterator" l2)).push (tuO #[.ref h.objs.size,.ref (h.push (itS x t)).objs.size])).push (tuO #[.none,.none]))
abbrev zs (h:Heap) (x:Str) (t:Tok) (l2:Addr):Heap:=(zsa h x t l2).push
 { cls:=.type "zip",data:=.fields #[.none,.bool false,.bool false,.ref ((h.push (itS x t)).push (itO "tuple_iterator" l2)).objs.size,.ref (((h.push (itS x t)).push (itO "tuple_iterator" l2)).push (tuO #[.ref h.objs.size,.ref (h.push (itS x t)).objs.size])).objs.size] }
end
end PySem.ZZ
namespace L2
open PySem PySem.Spec PyProof.Rows
section
variable {X:Cx}
end
def Zy:V->Option Int
 | .int i=>some i
 | .bl b=>some (if b=true then 1 else 0)
 | _=>none
section
variable {X:Cx}
theorem cR:OpR X (binaryOp .Add) (λx y H Q=>∃i j,Zy x=some i/\y=.int j/\Q (.int (i+j)) H):=by
 intro jb s σ H x y v u Q I rx ry h;obtain⟨i,j,hn,rfl,q⟩:=h;obtain⟨t',rfl⟩:=ry;cases x with
 | int k=>
  cases hn;obtain⟨t,rfl⟩:=rx;exact add_int ⟨.int _,H,I.tok _,⟨_,rq⟩,q⟩
 | bl b=>
  cases hn;cases rx;exact PySem.IntBool.add_bool_int ⟨.int _,H,I.tok _,⟨_,rq⟩,q⟩
 | _=>cases hn
theorem cN:OpR X (binaryOp .Sub) (λx y H Q=>∃i j,Zy x=some i/\y=.int j/\Q (.int (i - j)) H):=by
 intro jb s σ H x y v u Q I rx ry h;obtain⟨i,j,hn,rfl,q⟩:=h;obtain⟨t',rfl⟩:=ry;cases x with
 | int k=>
  cases hn;obtain⟨t,rfl⟩:=rx;exact sub_int ⟨.int _,H,I.tok _,⟨_,rq⟩,q⟩
 | bl b=>
  cases hn;cases rx;exact PySem.IntBool.sub_bool_int ⟨.int _,H,I.tok _,⟨_,rq⟩,q⟩
 | _=>cases hn
theorem Y5:Du X (.type "str") (λxs H Q=>(∃i:Int,xs=[.int i]/\i.natAbs.log2 < 1920/\Q (.str (toString i)) H)\/∃b:Bool,xs=[.bl b]/\Q (.str (if b then "True" else "False")) H):=by
 intro jb s σ H xs us Q I r h;rcases h with h |⟨b,rfl,q⟩
 ·exact Ur jb s σ H xs us Q I r h
 ·obtain⟨u,rfl,rfl⟩:=vals1 r;exact PySem.P.str_of_bool ⟨.str _,H,I.tok _,⟨_,rq⟩,q⟩
theorem ZK:MtR X "str.upper" (λx vs H Q=>∃z,x=.str z/\vs=[]/\z.length<=5592405/\Q (.str (Txt.upper z)) H):=by
 intro jb s σ H x vs v us Q I rx rv h;obtain⟨z,rfl,rfl,hz,q⟩:=h;obtain⟨t,rfl⟩:=rx;cases rv;exact SCL.upper hz λ_=>⟨.str (Txt.upper z),H,I.tok _,⟨_,rq⟩,q⟩
end
theorem jD {X:Cx} {tg it:Expr} {w1 w2:TI} (h1:PI X tg it w1) (h2:PI X tg it w2):PI X tg it (fun σ H R=>w1 σ H R\/w2 σ H R):=λjb s σ H R I h=>h.elim (h1 jb s σ H R I) (h2 jb s σ H R I)
theorem YZ {K:YD} {a b l:Addr} {xs ys:YG} {g:TG} {tt:TT} {te:TE} {Q:VK} {σ0:St} {H0:Hp} (n:Nat) (hx:n<=xs.length) (hy:n<=ys.length) (hn:xs.length<=n\/ys.length<=n) (Pv:YN)
  (h0:Pv 0 σ0 H0) (hl:∀i σ H',i<=n->Pv i σ H'->SqL K H' a xs/\SqL K H' b ys)
  (hs:∀i x y p σ H',xs[i]?=some x->ys[i]?=some y->Pv i σ H'->H' p=none->g (.ref p) σ (upd H' p (.tup [x,y])) fun σ3 H3=>tt σ3 H3 λb H4=>if b=true then te σ3 H4 λy H5=>∃ys,H5 l=some (.lst ys)/\ys.length < sizeLine/\Pv (i+1) σ3 (upd H5 l (.lst (ys++[y]))) else Pv (i+1) σ3 H4)
  (hd:∀ σ H',Pv n σ H'->Q (.ref l) H'):Ez (Itz K a b) g tt te Q σ0 H0 l:=by
 unfold Ez;refine⟨λi m σ H'=>m=n - i/\i<=n/\Pv i σ H',⟨n,by simp,Qci _,h0⟩,?_⟩;rintro i m σ H' ⟨rfl,hi,p⟩;obtain⟨q1,q2⟩:=hl i σ H' hi p;by_cases hlt:i < n
 ·have hlt1:i < xs.length:=by omega
  have hlt2:i < ys.length:=by omega
  refine .inr ⟨⟨xs,ys,xs[i],ys[i],q1,q2,Qaj hlt1,Qaj hlt2⟩,Pv (i+1),fun σ3 H3 p'=>⟨n - (i+1),by omega,rq,hlt,p'⟩,λv H2 y=>?_⟩;obtain⟨pp,x',y',hp,rfl,rfl,e1,e2⟩:=y;exact hs i x' y' pp σ _ (e1 xs q1) (e2 ys q2) p hp
 ·exact .inl ⟨⟨xs,ys,q1,q2,by omega⟩,by
   have:i=n:=by omega
   subst this;exact hd _ _ p⟩
theorem ZJ (k:Int) (t:Tok) (l:Addr) (u:Value) (n:Nat) (dd:Option Addr) (sl:YI) (h2:k=0) :
  Meets (Builtin.«tuple.__mul__» ⟨[.ref l,.int k t],[]⟩) (λ_ R s=>s.heap.get? l=some { cls:=.type "tuple",dict:=dd,data:=.seq #[u] n,slots:=sl }/\R (.ok (.ret (.ref s.heap.objs.size))) { s with heap:=s.heap.push { cls:=.type "tuple",data:=.seq #[] } }):=
 .of_wp λprog w A R s h=>by
  obtain⟨hp,g,d,tk,os⟩:=s;obtain⟨hl,h⟩:=h;subst h2
  wp_walk
  exact⟨_,rq,h⟩
theorem ZF (k:Int) (t:Tok) (l:Addr) (u:Value) (n:Nat) (dd:Option Addr) (sl:YI) (h2:k=1) :
  Meets (Builtin.«tuple.__mul__» ⟨[.ref l,.int k t],[]⟩) (λ_ R s=>s.heap.get? l=some { cls:=.type "tuple",dict:=dd,data:=.seq #[u] n,slots:=sl }/\R (.ok (.ret (.ref l))) s):=
 .of_wp λprog w A R s h=>by
  obtain⟨hp,g,d,tk,os⟩:=s;obtain⟨hl,h⟩:=h;subst h2
  wp_walk
  exact⟨_,rq,h⟩
theorem Zr {X:Cx}:OpR X (binaryOp .Mult) (λx y H Q=>∃(a:Addr) (v:V) (k:Int),x=.ref a/\y=.int k/\H a=some (.tup [v])/\0<=k/\k<=1000/\∀p H',H' p=some (.tup (List.replicate k.toNat v))->Same H H'->Q (.ref p) H'):=by
 intro jb s σ H x y v u Q I rx ry h;obtain⟨a,v0,k,rfl,rfl,ha,h2,h3,q⟩:=h;cases rx;obtain⟨t,rfl⟩:=ry;obtain⟨its,rv,⟨o,e,cl,n,d⟩,hz⟩:=I.tuple (SqT.of ha);cases rv with
 | cons r0 rr=>
  cases rr;rename_i u0;obtain⟨oc,od,oda,osl⟩:=o;have cl:oc=.type "tuple":=cl;have d:oda=.seq #[u0] n:=d;subst cl d;have hk:k=0\/k=1\/2<=k:=by omega
  rcases hk with z | z | z
  case inl=>
   refine wpAny_binaryOp_repeat_ref (T:="tuple") (U:="int") (by decide) ⟨_,e,rq⟩ (λs'=>typeIs_int s' k t) HW F.fills_int_mul QbK Le F.slot_int_index.lookup
    (call_meets QbK (typeIs_int s k t) F.entry_int_rmul (F.args_int_rmul_2 _ _) (N5 k t a #[u0] n od osl) ⟨e,rq,⟨_,e,rq⟩,call_meets F.slot_tuple_mul ⟨_,e,rq⟩ F.entry_tuple_mul (F.args_tuple_mul_2 _ _) (ZJ k t a u0 n od osl z) ⟨e,?_⟩⟩)
   subst z;exact⟨.ref s.heap.objs.size,_,I.laid (t':=s.toks) (o:=.tup []) (λb o e=>Qaq _ e) (Qch _) ⟨Qci _,_,.nil,IsTup.new _ _⟩,rq,q _ _ Ad (Ae (I.hok.fresh (Qch _)) _)⟩
  case inr.inl=>
   refine wpAny_binaryOp_repeat_ref (T:="tuple") (U:="int") (by decide) ⟨_,e,rq⟩ (λs'=>typeIs_int s' k t) HW F.fills_int_mul QbK Le F.slot_int_index.lookup
    (call_meets QbK (typeIs_int s k t) F.entry_int_rmul (F.args_int_rmul_2 _ _) (N5 k t a #[u0] n od osl) ⟨e,rq,⟨_,e,rq⟩,call_meets F.slot_tuple_mul ⟨_,e,rq⟩ F.entry_tuple_mul (F.args_tuple_mul_2 _ _) (ZF k t a u0 n od osl z) ⟨e,?_⟩⟩)
   subst z;exact⟨.ref a,H,I,rq,q a H ha (Same.refl H)⟩
  case inr.inr=>
   refine wpAny_binaryOp_repeat_ref (T:="tuple") (U:="int") (by decide) ⟨_,e,rq⟩ (λs'=>typeIs_int s' k t) HW F.fills_int_mul QbK Le F.slot_int_index.lookup
    (call_meets QbK (typeIs_int s k t) F.entry_int_rmul (F.args_int_rmul_2 _ _) (N5 k t a #[u0] n od osl) ⟨e,rq,⟨_,e,rq⟩,call_meets F.slot_tuple_mul ⟨_,e,rq⟩ F.entry_tuple_mul (F.args_tuple_mul_2 _ _) (ZG k t a u0 n od osl (by omega) h3) ⟨e,?_⟩⟩)
   have rep:Vals (List.replicate k.toNat v0) (List.replicate k.toNat u0):=by
    generalize k.toNat=j
    induction j with
    | zero=>exact .nil
    | succ j ih=>exact .cons r0 ih
   refine⟨.ref s.heap.objs.size,_,I.laid (t':=s.toks) (o:=.tup (List.replicate k.toNat v0)) (λb o e=>Qaq _ e) (Qch _) ⟨by rw[List.length_replicate];exact Qcg (Ba (by omega)),_,rep,IsTup.new _ _⟩,rq,q _ _ Ad (Ae (I.hok.fresh (Qch _)) _)⟩
end L2
namespace K26
open PySem L2
def top (i:Nat):Stmt:=PySem.Challenge.pw_warnloop_k26_tables_run.main.body.getD i (.Pass ⟨0,0,0,0⟩)
theorem Br:bootBuiltins "isinstance"=some (.builtin "isinstance"):=by trivial
theorem KY:bootBuiltins "int"=some (.type "int"):=by trivial
theorem QD:bootBuiltins "bool"=some (.type "bool"):=by trivial
theorem BZ:bootBuiltins "tuple"=some (.type "tuple"):=by trivial
theorem Vy:bootBuiltins "list"=some (.type "list"):=by trivial
theorem Ut:bootBuiltins "str"=some (.type "str"):=by trivial
theorem Cw:bootBuiltins "len"=some (.builtin "len"):=by trivial
theorem M4:bootBuiltins "all"=some (.builtin "all"):=by trivial
theorem Y7:bootBuiltins "abs"=some (.builtin "abs"):=by trivial
theorem Uu:bootBuiltins "max"=some (.builtin "max"):=by trivial
theorem iM:bootBuiltins "any"=some (.builtin "any"):=by trivial
theorem iK:bootBuiltins "min"=some (.builtin "min"):=by trivial
structure Nm (mg:YB):Prop where
 isinstance:mg "isinstance"=none
 int:mg "int"=none
 bool:mg "bool"=none
 tuple:mg "tuple"=none
 list:mg "list"=none
 str:mg "str"=none
 len:mg "len"=none
 all:mg "all"=none
 abs:mg "abs"=none
 max:mg "max"=none
 min:mg "min"=none
 range:mg "range"=none
 sorted:mg "sorted"=none
 any:mg "any"=none
 sum:mg "sum"=none
 enumerate:mg "enumerate"=none
 zip:mg "zip"=none
 reversed:mg "reversed"=none
 dict:mg "dict"=none
 ord:mg "ord"=none
 set:mg "set"=none
abbrev PJ:Stmt:=top 21
abbrev KQ:YF:=["_law_script","_law_k"]
theorem NP:Bq ["_law_script","_law_k","_law_cell"] KQ (Ak PJ):=by ac_rfl
abbrev NQ:Stmt:=top 22
abbrev Eb:YF:=["_law_bag_here","_law_many"]
theorem GD:Bq ["_law_bag_here","_law_many","_law_digit","_law_primes","_law_step","_law_base","_law_found"] Eb (Ak NQ):=by ac_rfl
theorem gK (v:V):isW v=(isI v&&!isB v):=by cases v <;> rfl
def Bt (H:Hp) (b:Addr) (n:Nat):Prop:=∃x y z:Int,H b=some (.lst [.int x,.int y,.int z])/\0<=x/\0<=y/\y<=4294967296/\0<=z/\z<=n
theorem Bt.same {H H':Hp} {b:Addr} {n:Nat} (h:Bt H b n) (s:Same H H'):Bt H' b n:=by
 obtain⟨x,y,z,e,r⟩:=h;exact⟨x,y,z,s _ _ e,r⟩
theorem Bt.mono {H:Hp} {b:Addr} {n m:Nat} (h:Bt H b n) (l:n<=m):Bt H b m:=by
 obtain⟨x,y,z,e,h1,h2,h3,h4,h5⟩:=h;exact⟨x,y,z,e,h1,h2,h3,h4,by omega⟩
theorem Bt.nb {H:Hp} {b p:Addr} {n:Nat} (h:Bt H b n) (hp:H p=none):b≠p:=by obtain⟨_,_,_,e,_⟩:=h;exact Ay e hp
theorem Bt.Ho {H:Hp} {b:Addr} {n:Nat} (h:Bt H b n):∀xs,H b≠some (.tup xs):=λxs z=>by obtain⟨_,_,_,e,_⟩:=h;rw[e] at z;cases z
theorem Bt.ex {H:Hp} {b:Addr} {n:Nat} (h:Bt H b n):∃o,H b=some o:=by obtain⟨_,_,_,e,_⟩:=h;exact⟨_,e⟩
theorem Bt.Jk {H H':Hp} {a b:Addr} {n:Nat} (h:Bt H b n) (s:Ah a H H') (ne:b≠a):Bt H' b n:=by
 obtain⟨x,y,z,e,r⟩:=h;exact⟨x,y,z,s _ _ e ne,r⟩
theorem Ao {n:Nat} (h:n<=1000):n<=sizeLine:=Qcg (Ba h)
def aY (K:YD):Sp:=λvs H Q _=>∃(a:Addr) (ns:List Int) (k:Int),vs=[.ref a,.int k]/\SqL K H a (ns.map V.int)/\ns.length<=63/\0<=k/\k<=100/\∀p o,H p=none->Bt (upd H p o) p 0->Q (.ref p) (upd H p o)
def Jz:Sp:=λvs H Q _=>∃(b:Addr) (n:Nat) (m:Int),vs=[.ref b,.int m]/\Bt H b n/\n<=10000/\0 < m/\m < 1073741824/\∀r H',0<=r->r < m->Bt H' b (n+1)->Ah b H H'->Q (.int r) H'
def RD (K:YD):Sp:=λvs H Q _=>∃(a:Addr) (ns:List Int),vs=[.ref a]/\SqL K H a (ns.map V.int)/\ns.length<=63/\∀H',Q (.bl true) H'
theorem at7 {i:Int} (h0:0<=i) (h7:i < 7) {a b c d e f g:Int} (P:Int->Prop) (ha:P a) (hb:P b) (hc:P c) (hd:P d) (he:P e) (hf:P f) (hg:P g):∃p,atI [V.int a,.int b,.int c,.int d,.int e,.int f,.int g] i=some (.int p)/\P p:=by
 have:i=0\/i=1\/i=2\/i=3\/i=4\/i=5\/i=6:=by omega
 rcases this with rfl | rfl | rfl | rfl | rfl | rfl | rfl
 ·exact⟨_,rq,ha⟩
 ·exact⟨_,rq,hb⟩
 ·exact⟨_,rq,hc⟩
 ·exact⟨_,rq,hd⟩
 ·exact⟨_,rq,he⟩
 ·exact⟨_,rq,hf⟩
 ·exact⟨_,rq,hg⟩
theorem iJ {x:Int} {b:Bool}:Xj x (if b=true then 1 else 0):=.inr (by cases b <;> exact⟨by decide,by decide⟩)
section
variable {P:Program} {w:World} {K:YD} {mg:YB} {base:Heap}
theorem Zw (C:Code K mg "_law_bag" PJ KQ) (T:Nm mg):Good P w K mg base "_law_bag" 1 KQ (aY K):=by
 refine C.good NP (λvs H Q E h=>?_) (λf cdv A outer s H vs Q E hr h=>?_)
 ·obtain⟨a,ns,k,rfl,_⟩:=h;rfl
 obtain⟨a,ns,k,rfl,hS,h63,h0,h1,q⟩:=h;refine⟨_,(Af (Bv (i:=2) NP.nd rfl (Or.inl rfl) (Ax CV (Ax CV (Ax Gm (Ax Gm Ab (pv 1)) (pv 1)) (Ax Gm Ab (pv 1))) Ab))
 (Af (Bm (Bh Nb (pv 1) (Ar Bl rfl T.len Cw (Aa (pv 0) Ac)) (Bc _)) (Ag (Bv (i:=2) NP.nd rfl (Or.inl rfl) (Al Bp (pv 0) (pv 1) (λ_ _=>rfl)))) Bg)
 (Ag (Aq (BK (Aa (Ax Gm (Ar Us rfl T.abs Y7 (Aa (pv 2) Ac)) (Cq MP rfl T.int KY (Aa (Cd Wn (Ar Us rfl T.abs Y7 (Aa (pv 2) Ac)) (Ax Ti Ab Ab) (Bc _)) Ac))) (Aa (Ax CV (Ax Fe (pv 2) Ab) (Ax Gm Ab (pv 1))) (Aa Ab Ac)))))))),?_⟩
 show let R0:TS:=_;let R1:TS:=_;let R2:TS:=Aw (BX _ R1 _) R0;Aw _ R2 _ _ _;intro R0 R1 R2;refine⟨_,rq,_,_,rq,rq,.inl ⟨by decide,by decide⟩,_,rq,_,_,rq,rq,.inr ⟨by omega,by omega⟩,_,rq,_,_,rq,rq,.inl ⟨by decide,by decide⟩,_,_,rq,rq,_,_,rq,rq,?_⟩;refine⟨_,rq,_,rq,a,_,rq,.inl hS,_,_,rq,rq,_,rq,?_⟩;have hl:(ns.map V.int).length=ns.length:=Qbw _;have fin:∀(c:Int) (p:Addr),H p=none->Q (.ref p) (upd H p (.lst [.int ((if c < 0 then -c else c)*(if decide ((10:Int) ^ (18:Int).toNat<=(if c < 0 then -c else c))=true then 1 else 0)),.int (c % 2147483647+37*k),.int 0])):=λc p hp=>by
  refine q p _ hp ⟨_,_,_,Ad,?_,?_,?_,by omega,by omega⟩
  ·refine Int.mul_nonneg ?_ ?_
   ·split <;> omega
   ·split <;> omega
  ·have:=QbL c (show (2147483647:Int)≠0 by decide);omega
  ·have:=QaZ c (show (0:Int) < 2147483647 by decide);omega
 refine Mw (λc1=>?_) (λc1=>?_)
 ·have c':k < (((ns.map V.int).length:Nat):Int):=Qbb c1;rw[hl] at c';have hk:k.toNat < ns.length:=by omega
  have hat:atI (ns.map V.int) ((k.toNat:Nat):Int)=some (.int ns[k.toNat]):=Aj (by rw[Qbc];simp[hk]);rw[Int.toNat_of_nonneg h0] at hat;refine⟨_,rq,_,rq,a,_,_,_,rq,rq,hS,hat,?_⟩;exact⟨_,rq,_,rq,_,rq,_,rq,_,_,rq,rq,⟨by decide,by decide,by decide⟩,_,_,rq,rq,.inr ⟨_,rq,_,_,rq,rq,iJ,_,rq,_,_,rq,rq,(by show (0:Int) < 2147483647;decide),_,rq,_,_,rq,rq,.inl ⟨by decide,by decide⟩,_,_,rq,rq,
   (by show 3<=sizeLine;decide),λl hl'=>fin _ l hl'⟩⟩
 ·exact⟨_,rq,_,rq,_,rq,_,rq,_,_,rq,rq,⟨by decide,by decide,by decide⟩,_,_,rq,rq,.inr ⟨_,rq,_,_,rq,rq,iJ,_,rq,_,_,rq,rq,(by show (0:Int) < 2147483647;decide),_,rq,_,_,rq,rq,.inl ⟨by decide,by decide⟩,_,_,rq,rq,
   (by show 3<=sizeLine;decide),λl hl'=>fin _ l hl'⟩⟩
theorem Yi (C:Code K mg "_law_take" NQ Eb) (T:Nm mg):Good P w K mg base "_law_take" 1 Eb Jz:=by
 refine C.good GD (λvs H Q E h=>?_) (λf cdv A outer s H vs Q E hr h=>?_)
 ·obtain⟨b,n,m,rfl,_⟩:=h;rfl
 obtain⟨b,n,m,rfl,⟨x,y,z,hb,x0,y0,y1,z0,z1⟩,hn,m0,m1,q⟩:=h;refine⟨_,(Af (Bm (Bh Jp (Al Bp (pv 0) Ab (λ_ _=>rfl)) Ab (Bc _)) (Af (Bv (i:=2) GD.nd rfl (Or.inl rfl) (Ax Fe (Al Bp (pv 0) Ab (λ_ _=>rfl)) (pv 1)))
 (Af (IV (Ax Qc (Al Bp (pv 0) Ab (λ_ _=>rfl)) (pv 1)) (Yd (pv 0) Ab set_list))
 (Ag (Aq (pv 2))))) Bg)
 (Af (Bv (i:=3) GD.nd rfl (Or.inl rfl) (@Bs _ _ _ _ _ (@Aa _ _ _ _ _ (@Ab _ _ _ _) (@Aa _ _ _ _ _ (@Ab _ _ _ _) (@Aa _ _ _ _ _ (@Ab _ _ _ _) (@Aa _ _ _ _ _ (@Ab _ _ _ _) (@Aa _ _ _ _ _ (@Ab _ _ _ _) (@Aa _ _ _ _ _ (@Ab _ _ _ _) (@Aa _ _ _ _ _ (@Ab _ _ _ _) (@Ac _) Bo) Bo) Bo) Bo) Bo) Bo) Bo)))
 (Af (IV (Ax CV (Al Bp (pv 0) Ab (λ_ _=>rfl)) Ab) (Yd (pv 0) Ab set_list))
 (Af (Bv (i:=4) GD.nd rfl (Or.inl rfl) (Al Bp (pv 0) Ab (λ_ _=>rfl)))
 (Af (Bv (i:=5) GD.nd rfl (Or.inl rfl) (Ax CV (Ax CV (Ax Gm (Al Bp (pv 0) Ab (λ_ _=>rfl)) (Ax CV (Ax Gm Ab (pv 4)) Ab)) (Ax Gm (Ax Gm Ab (pv 4)) (pv 4))) Ab))
 (Af (Bv (i:=6) GD.nd rfl (Or.inl rfl) (Ax Fe (Ax Ti (pv 5) Ab) (Al Az (pv 3) (Ax Fe (pv 4) Ab) (λ_ _=>rfl))))
 (Ag (Aq (Ax Fe (Ax Qc (Ax Fe (Ax Gm (pv 6) (Ax CV (Ax Qc (pv 6) Ab) Ab)) (Al Az (pv 3) (Ax Fe (Ax CV (pv 4) Ab) Ab) (λ_ _=>rfl))) Ab) (pv 1)))))))))),?_⟩
 show let R0:TS:=_;let R1:TS:=Aw _ R0;let R2:TS:=Aw _ R1;let R3:TS:=Aw _ R2;let R4:TS:=Aw _ R3;let R5:TS:=Aw _ R4;let R6:TS:=Aw _ _;let R7:TS:=Aw _ R6;Aw (BX _ R7 _) R5 _ _ _;intro R0 R1 R2 R3 R4 R5 R6 R7;refine⟨_,rq,b,_,_,_,rq,rq,SqL.of hb,rq,_,_,rq,rq,_,rq,?_⟩;refine Mw (λc1=>?_) (λc1=>?_)
 ·have c':0 < x:=Qbb c1;refine⟨_,rq,b,_,_,_,rq,rq,SqL.of hb,rq,_,rq,_,_,rq,rq,m0,?_⟩;refine⟨_,rq,b,_,_,_,rq,rq,SqL.of hb,rq,_,rq,_,_,rq,rq,⟨m0,m1⟩,_,rq,b,_,_,_,rq,rq,hb,rq,?_⟩;exact⟨_,rq,q _ _ (QbL x (by omega)) (QaZ x m0) ⟨x / m,y,z,Ad,Int.ediv_nonneg x0 (by omega),y0,y1,z0,by omega⟩ Ah.upd⟩
 ·refine⟨(by show 7<=sizeLine;decide),λtp htp=>?_⟩;have nbt:b≠tp:=Ay hb htp;have hb1:∀o,(upd H tp o) b=some (.lst [.int x,.int y,.int z]):=λo=>by rw[Bk nbt];exact hb
  have ht1:∀o u,(upd (upd H tp o) b u) tp=some o:=λo u=>by rw[Bk nbt.symm,Ad]
  refine⟨_,rq,b,_,_,_,rq,rq,SqL.of (hb1 _),rq,_,_,rq,rq,_,rq,b,_,_,_,rq,rq,hb1 _,rq,?_⟩;refine⟨_,rq,b,_,_,_,rq,rq,SqL.of Ad,rq,?_⟩;have s0:0<=z+1:=by omega
  have s1:z+1<=10001:=by omega
  refine⟨_,rq,b,_,_,_,rq,rq,SqL.of Ad,rq,_,rq,_,_,rq,rq,.inl ⟨by decide,by decide⟩,_,_,rq,rq,_,_,rq,rq,.inl ⟨by omega,by omega⟩,_,rq,_,_,rq,rq,.inl ⟨by decide,by decide⟩,_,rq,_,_,rq,rq,.inr ⟨by omega,by omega⟩,
   _,_,rq,rq,_,_,rq,rq,?_⟩
  have hbase:(y*(2*(z+1)+1)+6007*(z+1)*(z+1)+29).natAbs < 2 ^ 64:=by
   have h1:0<=y*(2*(z+1)+1):=Int.mul_nonneg y0 (by omega);have h2:y*(2*(z+1)+1)<=4294967296*20003:=Int.mul_le_mul y1 (by omega) (by omega) (by omega);have h3:0<=6007*(z+1)*(z+1):=Int.mul_nonneg (by omega) s0;have h4:6007*(z+1)*(z+1)<=(6007*10001)*10001:=Int.mul_le_mul (by omega) s1 s0 (by omega);omega
  obtain⟨p1,e1,p10,p11⟩:=at7 (i:=(z+1) % 7) (QbL _ (by decide)) (QaZ _ (by decide)) (a:=2147483629) (b:=2147483587) (c:=2147483579) (d:=2147483563) (e:=2147483549) (f:=2147483543) (g:=2147483497)
   (λp=>0 < p/\p < 2147483648) (by decide) (by decide) (by decide) (by decide) (by decide) (by decide) (by decide)
  obtain⟨p2,e2,p20,p21⟩:=at7 (i:=(z+1+3) % 7) (QbL _ (by decide)) (QaZ _ (by decide)) (a:=2147483629) (b:=2147483587) (c:=2147483579) (d:=2147483563) (e:=2147483549) (f:=2147483543) (g:=2147483497)
   (λp=>0 < p/\p < 2147483648) (by decide) (by decide) (by decide) (by decide) (by decide) (by decide) (by decide)
  refine⟨_,rq,_,_,rq,rq,⟨by decide,by decide,hbase⟩,_,rq,_,rq,_,_,rq,rq,(by show (0:Int) < 7;decide),tp,_,_,_,rq,rq,SqT.of (ht1 _ _),e1,_,_,rq,rq,p10,?_⟩;generalize hF:(y*(2*(z+1)+1)+6007*(z+1)*(z+1)+29) ^ (3:Int).toNat % p1=F;have F0:0<=F:=by rw[<-hF];exact QbL _ (by omega)
  have F1:F < p1:=by rw[<-hF];exact QaZ _ p10
  refine⟨_,rq,_,rq,_,_,rq,rq,⟨by decide,by decide⟩,_,_,rq,rq,_,_,rq,rq,.inl ⟨by omega,by omega⟩,_,rq,_,rq,_,_,rq,rq,_,_,rq,rq,(by show (0:Int) < 7;decide),tp,_,_,_,rq,rq,SqT.of (ht1 _ _),e2,_,_,rq,rq,p20,
   _,_,rq,rq,⟨by decide,by decide⟩,_,rq,_,_,rq,rq,m0,?_⟩
  refine q _ _ (QbL _ (by omega)) (QaZ _ m0) ⟨x,y,z+1,Ad,x0,y0,y1,s0,by omega⟩ λc o e nc=>?_;rw[Bk nc,Bk (Ay e htp)];exact e
end
abbrev La:Stmt:=top 1
abbrev Hj:YF:=["thing"]
theorem UW:Bq Hj Hj (Ak La):=by ac_rfl
abbrev Ko:Stmt:=top 2
abbrev Dl:YF:=["thing","low","high"]
theorem Sy:Bq ["thing","low","high"] Dl (Ak Ko):=by ac_rfl
abbrev NT:Stmt:=top 3
abbrev Eu:YF:=["thing","least","most"]
theorem XR:Bq ["thing","least","most"] Eu (Ak NT):=by ac_rfl
abbrev Kp:Stmt:=top 4
abbrev Fp:YF:=["row"]
theorem SJ:Bq ["row"] Fp (Ak Kp):=by ac_rfl
abbrev DQ:Stmt:=top 5
abbrev Df:YF:=["thing","least","most","low","high"]
theorem K7:Bq Df Df (Ak DQ):=by ac_rfl
theorem CW {i:Nat} {v:V} {σ : St} {H:Hp} {Q:YO} (h:Q (σ.set i (some v)) H):Ni i v σ H Q:=h
def eF:Sp:=λvs H Q _=>∃v,vs=[v]/\Kn H v/\Q (.bl (isW v)) H
def Wb (o:Option (YG)) (a b:Int):Bool:=match o with
 | some xs=>decide (a<=xs.length)&&decide ((xs.length:Int)<=b)
 | none=>false
def Kw:Sp:=λvs H Q _=>∃v a b,vs=[v,.int a,.int b]/\Kn H v/\Q (.bl (Wb (Ij H v) a b)) H
theorem dh {v:V} (h:isW v=true):∃i,v=.int i:=by
 cases v with
 | int i=>exact⟨i,rfl⟩
 | _=>cases h
def wiB (v:V) (lo hi:Int):Bool:=match v with
 | .int i=>decide (lo<=i)&&decide (i<=hi)
 | _=>false
def M7:Sp:=λvs H Q _=>∃v lo hi,vs=[v,.int lo,.int hi]/\Kn H v/\Q (.bl (wiB v lo hi)) H
def adj {α : Type} (l:List α):List (α×α):=l.zip l.tail
theorem VF {α : Type} (l:List α):(adj l).length=l.length - 1:=by unfold adj;rw[List.length_zip,List.length_tail];omega
theorem Y8 {α : Type} {l:List α} {i:Nat} {x y:α} (hx:l[i]?=some x) (hy:l[i+1]?=some y):(adj l)[i]?=some (x,y):=by
 unfold adj;rw[List.getElem?_zip_eq_some];exact⟨hx,by rw[List.getElem?_tail];exact hy⟩
def Fq (gs:List Int):Bool:=(adj gs).all λp=>decide (p.1 < p.2)
theorem Qcp {α : Type} {l:List α} {i:Nat} {x:α} (h:l[i]?=some x):l.take (i+1)=l.take i++[x]:=by rw[List.take_add_one,h];rfl
def V4:Sp:=λvs H Q _=>∃t gs,vs=[.ref t]/\(H t=some (.tup (gs.map V.int))\/H t=some (.lst (gs.map V.int)))/\gs.length<=1000/\∀H',Same H H'->Q (.bl (Fq gs)) H'
theorem RK {α β : Type} {F:α->β->Prop}:∀{l:List α} {m:List β} {i:Nat} {x:α},Paired F l m->l[i]?=some x->∃y,m[i]?=some y/\F x y
 | _,_,_,_,.nil,h=>by cases h
 | _,_,0,_,.cons a r,h=>by cases h;exact⟨_,rfl,a⟩
 | _,_,i+1,_,.cons a r,h=>RK (i:=i) r h
theorem all_map {α : Type} (f:α->Bool) (l:List α):(l.map f).all id=l.all f:=by rw[List.all_map];rfl
theorem iI {α : Type} (xs:YG):CZ xs (some 1) none=xs.tail:=by
 unfold CZ;cases xs with
 | nil=>simp
 | cons x r=>
  rw[HT.Hw,show (some (1:Int))=some ((1:Nat):Int) from rfl,HT.Hx,QbG (by rw[Qbo];omega)]
  rw[show (x::r).drop 1=r from rfl]
  exact Qas (by rw[Qbo];omega)
mutual
def wide:PyData->Bool
 | .tuple ds=>decide (ds.length<=900)&&Ef ds
 | .list ds=>decide (ds.length<=900)&&Ef ds
 | .str z=>decide (z.length<=900)&&z.cps.toList.all λc=>decide (c < 128)
 | _=>true
def Ef:List PyData->Bool
 | []=>true
 | x::r=>wide x&&Ef r
end
structure Fit (n:Nat) (d:PyData):Prop where
 lay:d.canLay0=true
 dep:d.depth<=n
 wd:wide d=true
theorem Qo:∀{ds:List PyData},PyData.canLayAll0 ds=true->∀x∈ds,x.canLay0=true
 | [],_,_,h=>by cases h
 | a::r,h,x,hx=>by
  have h:(a.canLay0&&PyData.canLayAll0 r)=true:=h;rw[Qbm] at h;rcases QbS.mp hx with rfl | hx
  ·exact h.1
  ·exact Qo h.2 x hx
theorem QC:∀{ds:List PyData} {n:Nat},PyData.depthAll ds<=n->∀x∈ds,x.depth<=n
 | [],_,_,_,h=>by cases h
 | a::r,n,h,x,hx=>by
  have h:max a.depth (PyData.depthAll r)<=n:=h;rcases QbS.mp hx with rfl | hx
  ·omega
  ·exact QC (by omega) x hx
theorem Xl:∀{ds:List PyData},Ef ds=true->∀x∈ds,wide x=true
 | [],_,_,h=>by cases h
 | a::r,h,x,hx=>by
  have h:(wide a&&Ef r)=true:=by simpa only [Ef] using h
  rw[Qbm] at h;rcases QbS.mp hx with rfl | hx
  ·exact h.1
  ·exact Xl h.2 x hx
theorem Fit.len {n:Nat} {ds:List PyData} (h:Fit n (.tuple ds)):ds.length<=900:=by
 have h:(decide (ds.length<=900)&&Ef ds)=true:=by simpa only [wide] using h.wd
 rw[Qbm] at h;exact Qbb h.1
theorem Fit.item {n:Nat} {ds:List PyData} (h:Fit (n+1) (.tuple ds)) {x:PyData} (hx:x∈ds):Fit n x:=by
 have h1:PyData.canLayAll0 ds=true:=h.lay;have h2:PyData.depthAll ds+1<=n+1:=h.dep;have h3:(decide (ds.length<=900)&&Ef ds)=true:=by simpa only [wide] using h.wd
 rw[Qbm] at h3;exact⟨Qo h1 x hx,QC (by omega) x hx,Xl h3.2 x hx⟩
theorem Fit.mono {n m:Nat} {d:PyData} (h:Fit n d) (l:n<=m):Fit m d:=⟨h.lay,Qcd h.dep l,h.wd⟩
theorem Fit.shaped {n:Nat} {d:PyData} (h:Fit n d) (l:n<=64):SeqAt.shaped d=true:=by
 show (d.canLay0&&decide (d.depth<=64))=true;rw[h.lay,QbM (Qcd h.dep l)];rfl
theorem Ai.pair {H:Hp}:∀{xs:YG} {ds:List PyData},Ai H xs ds->Paired (Rep H) xs ds
 | _,_,.nil=>.nil
 | _,_,.cons a r=>.cons a (Ai.pair r)
mutual
theorem Rep.same {H H':Hp} (s:Same H H'):∀{v:V} {d:PyData},Rep H v d->Rep H' v d
 | _,_,.non=>.non
 | _,_,.bl b=>.bl b
 | _,_,.int i=>.int i
 | _,_,.str x=>.str x
 | _,_,.tup e r=>.tup (s _ _ e) (Ai.same s r)
 | _,_,.lst e r=>.lst (s _ _ e) (Ai.same s r)
theorem Ai.same {H H':Hp} (s:Same H H'):∀{vs:YG} {ds:List PyData},Ai H vs ds->Ai H' vs ds
 | _,_,.nil=>.nil
 | _,_,.cons a r=>.cons (Rep.same s a) (Ai.same s r)
end
theorem Ai.len {H:Hp} {xs:YG} {ds:List PyData} (h:Ai H xs ds):xs.length=ds.length:=QbX (Ai.pair h)
theorem Ai.at_ {H:Hp} {xs:YG} {ds:List PyData} (h:Ai H xs ds) {i:Nat} {x:V} (hx:xs[i]?=some x):∃d,ds[i]?=some d/\Rep H x d:=RK (Ai.pair h) hx
def wiP (d:PyData) (lo hi:Int):Bool:=match d with
 | .int i=>decide (lo<=i)&&decide (i<=hi)
 | _=>false
def Dq (d:PyData) (a b:Int):Bool:=match d with
 | .tuple ds=>decide (a<=ds.length)&&decide ((ds.length:Int)<=b)
 | _=>false
theorem CJ {H:Hp} {v:V} {d:PyData} (r:Rep H v d) (lo hi:Int):wiB v lo hi=wiP d lo hi:=by
 cases r <;> rfl
theorem GJ {H:Hp} {v:V} {d:PyData} (r:Rep H v d) (a b:Int):Wb (Ij H v) a b=Dq d a b:=by
 cases r with
 | tup e r=>
  rw[Ht e];show (decide (a<=_)&&decide (_<=b))=_;rw[Ai.len r];rfl
 | lst e r=>rw[Iv e];rfl
 | _=>rfl
theorem GF {H:Hp} {v:V} {d:PyData} (r:Rep H v d) {a b:Int} (h:Dq d a b=true):∃t xs ds,v=.ref t/\d=.tuple ds/\H t=some (.tup xs)/\Ai H xs ds/\a<=ds.length/\(ds.length:Int)<=b:=by
 cases r with
 | tup e r=>
  have h:(decide _&&decide _)=true:=h;rw[Qbm] at h;exact⟨_,_,_,rq,rq,e,r,Qbb h.1,Qbb h.2⟩
 | _=>cases h
def JK (ds:List PyData):Bool:=(adj ds).all λp=>match p with
 | (.int a,.int b)=>decide (a < b)
 | _=>false
def rwP (d:PyData) (a b lo hi:Int):Bool:=match d with
 | .tuple ds=>Dq (.tuple ds) a b&&((ds.all λx=>wiP x lo hi)&&JK ds)
 | _=>false
theorem ints_of:∀{ds:List PyData} {lo hi:Int},(ds.all λx=>wiP x lo hi)=true->∃gs:List Int,ds=gs.map PyData.int
 | [],_,_,_=>⟨[],rfl⟩
 | x::r,lo,hi,h=>by
  rw[List.all_cons,Qbm] at h;obtain⟨gs,e⟩:=ints_of h.2;cases x with
  | int i=>exact⟨i::gs,by rw[e];rfl⟩
  | _=>cases h.1
theorem Iz {H:Hp}:∀{xs:YG} {gs:List Int},Ai H xs (gs.map PyData.int)->xs=gs.map V.int
 | _,[],.nil=>rfl
 | _,g::r,.cons (.int _) t=>by rw[Iz t];rfl
theorem Ld (gs:List Int):JK (gs.map PyData.int)=Fq gs:=by
 unfold JK Fq adj;rw[<-List.map_tail,List.zip_map,List.all_map];rfl
def Xy:Sp:=λvs H Q _=>∃v a b lo hi d n,vs=[v,.int a,.int b,.int lo,.int hi]/\Rep H v d/\Fit n d/\∀H',Same H H'->Q (.bl (rwP d a b lo hi)) H'
section
variable {P:Program} {w:World} {K:YD} {mg:YB} {base:Heap}
theorem Tp (c:Code K mg "is_whole" La Hj) (T:Nm mg):Good P w K mg base "is_whole" 1 Hj eF:=by
 refine c.good UW (λvs H Q E h=>?_) (λf cdv A outer s H vs Q E hr h=>?_)
 ·obtain⟨v,rfl,_⟩:=h;rfl
 obtain⟨v,rfl,k,q⟩:=h;refine⟨_,(Ag (Aq (BP (Ar Cg rfl T.isinstance Br (Aa (pv 0) (Aa (Cz (v:=.ty "int") rfl T.int KY rfl) Ac))) (Cj (O4 (Ar Cg rfl T.isinstance Br (Aa (pv 0) (Aa (Cz (v:=.ty "bool") rfl T.bool QD rfl) Ac)))))))),?_⟩;refine⟨_,rq,Jv k ⟨_,rq,?_⟩⟩;rw[gK] at q;cases e:isI v with
 | false=>rw[e] at q;exact Bd q
 | true=>rw[e] at q;exact Av ⟨_,rfl,Oe e ⟨_,rfl,q⟩⟩
theorem Yk (c:Code K mg "is_row" NT Eu) (T:Nm mg):Good P w K mg base "is_row" 1 Eu Kw:=by
 refine c.good XR (λvs H Q E h=>?_) (λf cdv A outer s H vs Q E hr h=>?_)
 ·obtain⟨v,a,b,rfl,_⟩:=h;rfl
 obtain⟨v,a,b,rfl,k,q⟩:=h;refine⟨_,(Ag (Aq (BP (Ar Cg rfl T.isinstance Br (Aa (pv 0) (Aa (Cz (v:=.ty "tuple") rfl T.tuple BZ rfl) Ac))) (Cj (Lg Li Li (pv 1) (Ar Bl rfl T.len Cw (Aa (pv 0) Ac)) (pv 2)))))),?_⟩;refine⟨_,rq,Dv k ⟨_,rq,?_⟩⟩;cases e:Ij H v with
 | none=>rw[e] at q;exact Bd q
 | some xs=>
  rw[e] at q;obtain⟨p,rfl,hp⟩:=Zx e;refine Av ⟨_,rq,_,rq,p,xs,rq,.inr (SqT.of hp),_,_,rq,rq,_,rq,?_⟩;by_cases h1:a<=(xs.length:Int)
  ·rw[QbM h1];refine Av ⟨_,rq,_,_,rq,rq,?_⟩;simpa [Wb,h1] using q
  ·rw[Qby h1];refine Bd ?_;simpa [Wb,h1] using q
theorem Rm (c:Code K mg "is_within" Ko Dl) (T:Nm mg) (WR:Good P w K mg base "is_whole" 1 Hj eF):Good P w K mg base "is_within" 2 Dl M7:=by
 refine c.good Sy (λvs H Q E h=>?_) (λf cdv A outer s H vs Q E hr h=>?_)
 ·obtain⟨v,lo,hi,rfl,_⟩:=h;rfl
 obtain⟨v,lo,hi,rfl,k,q⟩:=h;refine⟨_,(Ag (Aq (BP (Am WR hr (Aa (pv 0) Ac)) (Cj (Lg Li Li (pv 1) (pv 0) (pv 2)))))),?_⟩;refine⟨_,rq,v,rq,k,_,rq,?_⟩;cases ew:isW v with
 | false=>
  have:wiB v lo hi=false:=by cases v <;> first | rfl | cases ew
  rw[this] at q;exact Bd q
 | true=>
 obtain⟨x,rfl⟩:=dh ew;have q:Q (.bl (decide (lo<=x)&&decide (x<=hi))) H:=q;refine Av ⟨_,rq,_,rq,_,_,rq,rq,_,rq,?_⟩;by_cases h1:lo<=x
 ·rw[QbM h1];rw[QbM h1,QbT] at q;exact Av ⟨_,rq,_,_,rq,rq,q⟩
 ·rw[Qby h1];rw[Qby h1,QbO] at q;exact Bd q
abbrev xc:YF:=["one","other"]
theorem Tq (c:Code K mg "is_rising" Kp Fp) (T:Nm mg):Good P w K mg base "is_rising" 1 Fp V4:=by
 refine c.good SJ (λvs H Q E h=>?_) (λf cdv A outer s H vs Q E hr h=>?_)
 ·obtain⟨t,gs,rfl,_⟩:=h;rfl
 obtain⟨t,gs,rfl,ht,few,q⟩:=h;refine⟨_,(Ag (Aq (Ar (JZ rfl) rfl T.all M4 (Aa (CQ (N':=xc) rfl (Bx.plain rfl (by trivial) (by trivial) (by trivial)) (jD (Zq rfl T.zip (Aa (pv 0) (Aa (CT GC (pv 0) (Dc Ab) Dw) Ac))) (cj rfl T.zip (Aa (pv 0) (Aa (CT Kz (pv 0) (Dc Ab) Dw) Ac)))) (λ_ _ _ _=>(Ju (K:=K) (n:=2) rfl rfl (Bu (Bb (i:=0) (show List.Nodup (xc:YF) by trivial) rfl (Or.inl rfl)) (Bu (Bb (i:=1) (show List.Nodup (xc:YF) by trivial) rfl (Or.inl rfl)) DW)))) (λ_ _ _ _=>Ds) (λ_ _ _ _=>(Cd Nb (pv 0) (pv 1) (Bc _)))) Ac)))),?_⟩;rcases ht with ht | ht
 ·refine .inl ⟨_,rq,_,rq,_,rq,t,_,rq,ht,λu H1 hu s1=>?_⟩;rw[iI (α:=Unit),<-List.map_tail] at hu;have ht1:=s1 _ _ ht;refine⟨t,u,rq,⟨_,ht1⟩,⟨_,hu⟩,λl hl=>?_⟩;have q:∀H',Same H H'->Q (.bl ((adj gs).all λp=>decide (p.1 < p.2))) H':=q;have al:=VF gs;refine WX (xs:=gs.map V.int) (ys:=gs.tail.map V.int) (gs.length - 1) (by rw[Qbw];omega) (by rw[Qbw,List.length_tail];exact Qch _) (.inr (by rw[Qbw,List.length_tail];exact Qch _)) (λ(i:Nat) (σ : St) (HH:Hp)=>∃(u v:Option V),σ=[u,v]/\HH l=some (.lst ((((adj gs).take i).map λp=>decide (p.1 < p.2)).map V.bl))/\Same H1 HH) ⟨_,_,rq,Ad,Ae hl _⟩ (λi σ HH _ h=>?_) (λi x y p σ HH hx hy h hp=>?_) (fun σ HH h=>?_)
  ·obtain⟨u,v,rfl,e1,e2⟩:=h;exact⟨e2 _ _ ht1,e2 _ _ hu⟩
  ·obtain⟨u',v',rfl,e1,e2⟩:=h;rw[Qbc] at hx hy;obtain⟨a,ha,rfl⟩:=Qar.mp hx;obtain⟨b,hb,rfl⟩:=Qar.mp hy;rw[List.getElem?_tail] at hb;have pr:=Y8 ha hb;have hi:i < (adj gs).length:=(Qae.mp pr).1;have s3:=Ae hp (.tup [.int a,.int b]);have h3:(upd HH p (.tup [.int a,.int b])) p=some (.tup [.int a,.int b]):=Ad;have e1':=s3 _ _ e1;have e2':=e2.trans s3;generalize upd HH p (.tup [.int a,.int b])=H3 at *;refine⟨p,_,rq,SqT.of h3,rq,_,_,rq,_,_,rq,rq,Av ⟨_,rq,_,rq,_,_,rq,rq,_,e1',Ba (by rw[Qbw,Qbw,Qbn];omega),_,_,rq,?_,e2'.CN Ah.upd hl⟩⟩;rw[Ad,Qcp pr,Qbx,Qbx];rfl
  ·obtain⟨u',v',rfl,e1,e2⟩:=h;rw[<-al,Qbp] at e1;refine⟨l,_,rq,SqL.of e1,?_⟩;rw[all_map];exact q _ (s1.trans e2)
 ·refine .inr ⟨_,rq,_,rq,_,rq,t,_,rq,SqL.of ht,λu fu=>?_⟩;rw[iI (α:=Unit),<-List.map_tail] at *;have s1:=Ae fu (.lst (gs.tail.map V.int));have hu:upd H u (.lst (gs.tail.map V.int)) u=some (.lst (gs.tail.map V.int)):=Ad;generalize upd H u (.lst (gs.tail.map V.int))=H1 at *;have ht1:=s1 _ _ ht;refine⟨t,u,rq,⟨_,SqL.of ht1⟩,⟨_,SqL.of hu⟩,λl hl=>?_⟩;have q:∀H',Same H H'->Q (.bl ((adj gs).all λp=>decide (p.1 < p.2))) H':=q;have al:=VF gs;refine YZ (xs:=gs.map V.int) (ys:=gs.tail.map V.int) (gs.length - 1) (by rw[Qbw];omega) (by rw[Qbw,List.length_tail];exact Qch _) (.inr (by rw[Qbw,List.length_tail];exact Qch _)) (λ(i:Nat) (σ : St) (HH:Hp)=>∃(u v:Option V),σ=[u,v]/\HH l=some (.lst ((((adj gs).take i).map λp=>decide (p.1 < p.2)).map V.bl))/\Same H1 HH) ⟨_,_,rq,Ad,Ae hl _⟩ (λi σ HH _ h=>?_) (λi x y p σ HH hx hy h hp=>?_) (fun σ HH h=>?_)
  ·obtain⟨u,v,rfl,e1,e2⟩:=h;exact⟨SqL.of (e2 _ _ ht1),SqL.of (e2 _ _ hu)⟩
  ·obtain⟨u',v',rfl,e1,e2⟩:=h;rw[Qbc] at hx hy;obtain⟨a,ha,rfl⟩:=Qar.mp hx;obtain⟨b,hb,rfl⟩:=Qar.mp hy;rw[List.getElem?_tail] at hb;have pr:=Y8 ha hb;have hi:i < (adj gs).length:=(Qae.mp pr).1;have s3:=Ae hp (.tup [.int a,.int b]);have h3:(upd HH p (.tup [.int a,.int b])) p=some (.tup [.int a,.int b]):=Ad;have e1':=s3 _ _ e1;have e2':=e2.trans s3;generalize upd HH p (.tup [.int a,.int b])=H3 at *;refine⟨p,_,rq,SqT.of h3,rq,_,_,rq,_,_,rq,rq,Av ⟨_,rq,_,rq,_,_,rq,rq,_,e1',Ba (by rw[Qbw,Qbw,Qbn];omega),_,_,rq,?_,e2'.CN Ah.upd hl⟩⟩;rw[Ad,Qcp pr,Qbx,Qbx];rfl
  ·obtain⟨u',v',rfl,e1,e2⟩:=h;rw[<-al,Qbp] at e1;refine⟨l,_,rq,SqL.of e1,?_⟩;rw[all_map];exact q _ (s1.trans e2)
theorem Ob (c:Code K mg "are_rising_within" DQ Df) (T:Nm mg) (Dr:Good P w K mg base "is_row" 1 Eu Kw) (Ce:Good P w K mg base "is_within" 2 Dl M7) (Kr:Good P w K mg base "is_rising" 1 Fp V4):Good P w K mg base "are_rising_within" 3 Df Xy:=by
 refine c.good K7 (λvs H Q E h=>?_) (λf cdv A outer s H vs Q E hr h=>?_)
 ·obtain⟨v,a,b,lo,hi,d,n,rfl,_⟩:=h;rfl
 obtain⟨v,a,b,lo,hi,d,n,rfl,rd,fit,q⟩:=h;refine⟨_,(Af (Bm (Cv (BW (Am Dr hr (Aa (pv 0) (Aa (pv 1) (Aa (pv 2) Ac)))))) (Ag (Aq Ca)) Bg)
 (Ag (Aq (BP (Ar (JZ rfl) rfl T.all M4 (Aa (CQ (N':=["part","low","high"]) rfl (Bx.of (src:=[none,some 3,some 4]) (Ak DQ) Df rfl rfl rfl (by trivial) (by trivial) (by trivial) rfl (by trivial)) (Ek (pv 0)) (λ_ _ _ _=>(Bb (i:=0) (show List.Nodup (["part","low","high"]:YF) by trivial) rfl (Or.inl rfl))) (λ_ _ _ _=>Ds) (λ_ _ _ _=>(Am Ce hr (Aa (pv 0) (Aa (pv 1) (Aa (pv 2) Ac)))))) Ac)) (Cj (Am Kr hr (Aa (pv 0) Ac))))))),?_⟩
 show let R0:TS:=_;Aw _ R0 _ _ _;intro R0;refine⟨_,rq,_,rq,_,rq,v,a,b,rq,rd.kn,_,rq,?_⟩;rw[GJ rd];cases eb:Dq d a b with
 | false=>
  have:rwP d a b lo hi=false:=by
   unfold rwP;split
   ·rw[eb];rfl
   ·rfl
  rw[this] at q;exact Av (q _ (Same.refl _))
 | true=>
  obtain⟨t,xs,ds,rfl,rfl,ht,rs,_,_⟩:=GF rd eb;have lx:=Ai.len rs;have fl:=fit.len;have q:∀H',Same H H'->Q (.bl (Dq (.tuple ds) a b&&((ds.all λx=>wiP x lo hi)&&JK ds))) H':=q;rw[eb,QbT] at q;refine Bd ⟨_,rq,t,rq,⟨_,SqT.of ht⟩,λl hl=>?_⟩;let J0:YN:=λ(i:Nat) (σ : St) (HH:Hp)=>∃(u:Option V),σ=[u,some (.int lo),some (.int hi)]/\HH l=some (.lst (((ds.take i).map λg=>wiP g lo hi).map V.bl))/\Same H HH;refine DP (xs:=xs) J0 ⟨_,rq,Ad,Ae hl _⟩ (λi σ HH _ h=>?_) (λi x σ HH hx h=>?_) (fun σ HH h=>?_)
  ·obtain⟨u,rfl,e1,e2⟩:=h;exact SqT.of (e2 _ _ ht)
  ·obtain⟨u,rfl,e1,e2⟩:=h;obtain⟨g,hg,rg⟩:=Ai.at_ rs hx;have hi':i < ds.length:=(Qae.mp hg).1;refine CW (Av ⟨_,rq,_,rq,_,rq,x,_,_,rq,(Rep.same e2 rg).kn,_,e1,Ba (by rw[Qbw,Qbw,Qbn];omega),_,rq,?_,e2.CN Ah.upd hl⟩);rw[Ad,Qcp hg,Qbx,Qbx,CJ rg];rfl
  obtain⟨u,rfl,e1,e2⟩:=h;rw[lx,Qbp] at e1;refine⟨l,_,rq,SqL.of e1,_,rq,?_⟩;rw[all_map];cases ea:ds.all λg=>wiP g lo hi with
  | false=>rw[ea] at q;exact Bd (q _ e2)
  | true=>
   obtain⟨gs,eg⟩:=ints_of ea;rw[ea,QbT] at q;subst eg;have ex:=Iz rs;subst ex;rw[Ld] at q;rw[Qbw] at fl;exact Av ⟨_,rq,t,gs,rq,.inl (e2 _ _ ht),by omega,λH' s'=>q _ (e2.trans s')⟩
end
abbrev Lb:Stmt:=top 7
abbrev Hl:YF:=Hj
theorem U0:Bq Hj Hl (Ak Lb):=by ac_rfl
abbrev Io:Stmt:=top 14
abbrev Gj:YF:=["numbers","at"]
theorem SM:Bq Gj Gj (Ak Io):=by ac_rfl
abbrev Hv:Stmt:=top 15
abbrev Em:YF:=["thing","at"]
theorem Ke:Bq ["thing","at","word"] Em (Ak Hv):=by ac_rfl
structure Tc (mg:YB):Prop extends Nm mg where
 MOST_ROWS:∃u,mg "MOST_ROWS"=some u/\RelV (.int 320) u
 MOST_OUTS:∃u,mg "MOST_OUTS"=some u/\RelV (.int 16) u
 MOST_AHEAD:∃u,mg "MOST_AHEAD"=some u/\RelV (.int 20) u
theorem Fit.item' {n:Nat} {ds:List PyData} (h:Fit n (.tuple ds)) {x:PyData} (hx:x∈ds):Fit n x:=by
 have hd:PyData.depthAll ds+1<=n:=h.dep;obtain⟨k,rfl⟩ : ∃k,n=k+1:=⟨n - 1,by omega⟩;exact (h.item hx).mono (Qck _)
def isS:V->Bool
 | .str _=>true
 | _=>false
theorem Ie {K:YD} {H:Hp} {x:V} {Q:VK} (k:Kn H x) (q:Q (.bl (isS x)) H):Kq K [x,.ty "str"] H Q:=by
 unfold Kq;cases x with
 | non=>exact⟨_,_,_,_,rfl,.non,by rfl,q⟩
 | bl b=>exact⟨_,_,_,_,rfl,.bl b,by rfl,q⟩
 | int i=>exact⟨_,_,_,_,rfl,.int i,by rfl,q⟩
 | str z=>exact⟨_,_,_,_,rfl,.str z,by rfl,q⟩
 | ref a=>
  rcases k with⟨xs,e⟩|⟨xs,e⟩
  ·exact⟨_,_,_,_,rq,.lst e,by rfl,q⟩
  ·exact⟨_,_,_,_,rq,.tup e,by rfl,q⟩
 | _=>exact k.elim
theorem Jq {α : Type} {l:List α} (h:(2:Int)<=l.length) (h':(l.length:Int)<=2):∃a b,l=[a,b]:=by
 match l,h,h' with
 | [a,b],_,_=>exact⟨a,b,rfl⟩
 | [],h,_=>simp at h
 | [_],h,_=>simp at h
 | _::_::_::_,_,h=>simp at h;omega
theorem Wx {α : Type} {l:List α} (h:(3:Int)<=l.length) (h':(l.length:Int)<=3):∃a b c,l=[a,b,c]:=by
 match l,h,h' with
 | [a,b,c],_,_=>exact⟨a,b,c,rfl⟩
 | [],h,_=>simp at h
 | [_],h,_=>simp at h
 | [_,_],h,_=>simp at h
 | _::_::_::_::_,_,h=>simp at h;omega
theorem PK {d:PyData} (h:Dq d 2 2=false):∀a b,d≠.tuple [a,b]:=λa b e=>by
 rw[e] at h;have h:(decide ((2:Int)<=2)&&decide ((2:Int)<=2))=false:=h;exact absurd h (by decide)
theorem bV {d:PyData} (h:Dq d 3 3=false):∀a b c,d≠.tuple [a,b,c]:=λa b c e=>by
 rw[e] at h;have h:(decide ((3:Int)<=3)&&decide ((3:Int)<=3))=false:=h;exact absurd h (by decide)
theorem j8 {K:YD} {a l:Addr} {xs:YG} {ds:List PyData} {fb:PyData->Bool} {te:TE} {Q:VK} {r:St} {H:Hp} (hl:H l=none) (ha:H a=some (.tup xs)) (rs:Ai H xs ds) (h9:ds.length<=900)
  (hs:∀(x:V) (d:PyData) (HH:Hp),d∈ds->Rep HH x d->Same H HH->∀R:VK,(∀H',Same HH H'->R (.bl (fb d)) H')->te (some x::r) HH R)
  (hq:∀H',H' l=some (.lst ((ds.map fb).map V.bl))->Same H H'->Q (.ref l) H'):Ez (Itt K a) (Ni 0) (λ_ H Q=>Q true H) te Q (none::r) (upd H l (.lst [])) l:=by
 have lx:=Ai.len rs;let J0:YN:=λi σ HH=>∃u,σ=u::r/\HH l=some (.lst (((ds.take i).map fb).map V.bl))/\Same H HH;refine DP (xs:=xs) J0 ⟨_,rq,Ad,Ae hl _⟩ (λi σ HH _ h=>?_) (λi x σ HH hx h=>?_) (fun σ HH h=>?_)
 ·obtain⟨u,rfl,_,s⟩:=h;exact SqT.of (s _ _ ha)
 ·obtain⟨u,rfl,e,s⟩:=h;obtain⟨d,hd,rd⟩:=Ai.at_ rs hx;have hi:=(Qae.mp hd).1;unfold Ni;dsimp only;refine Av (hs x d HH (Qay hd) (Rep.same s rd) s _ λH' s'=>⟨_,s' _ _ e,Ba (by rw[Qbw,Qbw,Qbn];omega),_,rq,?_,(s.trans s').CN Ah.upd hl⟩);rw[Ad,Qcp hd,Qbx,Qbx];rfl
 ·obtain⟨u,rfl,e,s⟩:=h;rw[lx,Qbp] at e;exact hq _ e s
def Sg (fb:PyData->Bool):Sp:=λvs H Q _=>∃v d,vs=[v]/\Rep H v d/\Fit 64 d/\∀H',Same H H'->Q (.bl (fb d)) H'
theorem ZS {b:Bool} {A B:Prop} (h1:b=true->A) (h2:b=false->B):if b=true then A else B:=by
 cases b with
 | true=>exact Av (h1 rfl)
 | false=>exact Bd (h2 rfl)
theorem ifN {a b:Int} {A B:Prop} (h1:a=b->A) (h2:a≠b->B):if decide (V.int a=V.int b)=true then A else B:=by
 by_cases h:a=b
 ·subst h;rw[QbM rfl];exact Av (h1 rfl)
 ·rw[Qby (λz=>h (by injection z))];exact Bd (h2 h)
theorem ifS {a b:Str} {A B:Prop} (h1:a=b->A) (h2:a≠b->B):if decide (V.str a=V.str b)=true then A else B:=by
 by_cases h:a=b
 ·subst h;rw[QbM rfl];exact Av (h1 rfl)
 ·rw[Qby (λz=>h (by injection z))];exact Bd (h2 h)
def eqS (d:PyData) (z:Str):Bool:=PyData.eqv d (.str z)
theorem KR {d:PyData} {y:Str}:eqS d y=true ↔ d=.str y:=by
 cases d with
 | str z=>
  show (z == y)=true ↔ _;constructor
  ·intro h;rw[eq_of_beq h]
  ·intro h;cases h;exact beq_self_eq_true _
 | _=>exact⟨(λh=>by cases h),(λh=>by cases h)⟩
theorem iB {d:PyData} {y:Str} (h:d≠.str y):eqS d y=false:=by
 cases e:eqS d y with
 | false=>rfl
 | true=>exact absurd (KR.mp e) h
theorem QB {z y:Str} (h:z≠y):eqS (.str z) y=false:=iB (λe=>h (by injection e))
theorem FJ (y:Str):eqS (.str y) y=true:=KR.mpr rfl
def aoP (d:PyData):Bool:=[PyData.str "and",.str "or"].any λz=>PyData.eqv z d
theorem QF {d:PyData}:aoP d=true ↔ d=.str "and"\/d=.str "or":=by
 have key:∀(y:Str) (d:PyData),PyData.eqv (.str y) d=true ↔ d=.str y:=λy d=>by
  cases d with
  | str z=>
   show (y == z)=true ↔ _;constructor
   ·intro h;rw[eq_of_beq h]
   ·intro h;cases h;exact beq_self_eq_true _
  | _=>exact⟨(λh=>by cases h),(λh=>by cases h)⟩
 unfold aoP;simp only[QbY,List.any_nil,Bool.or_false,QbI,key]
def Ea (d:PyData):Bool:=match d with
 | .tuple [k,n]=>eqS k "key"&&wiP n 0 9
 | .tuple [k,a,b]=>eqS k "hours"&&(wiP a 0 23&&wiP b 0 23)
 | _=>false
theorem fJ {k:PyData} {r:List PyData} (h:Dq (.tuple (k::r)) 2 4=true):1<=r.length/\r.length<=3:=by
 have h:(decide ((2:Int)<=((k::r).length:Nat))&&decide ((((k::r).length:Nat):Int)<=4))=true:=h;rw[Qbm] at h;have h1:=Qbb h.1;have h2:=Qbb h.2;rw[Qbo] at h1 h2;omega
theorem Yb {k:PyData} {r:List PyData} (h:Ea (.tuple (k::r))=true):k=.str "key"\/k=.str "hours":=by
 unfold Ea at h;split at h
 ·rename_i k' n e;cases e;rw[Qbm] at h;exact .inl (KR.mp h.1)
 ·rename_i k' a b e;cases e;rw[Qbm] at h;exact .inr (KR.mp h.1)
 ·cases h
def Fj (at_:Int) (ds:List PyData):Bool:=ds.all λd=>wiP d 0 (at_ - 1)
def O7 (r:List PyData):Bool:=match r with
 | [n,a]=>wiP n 1 9&&rwP a 1 30 1 99
 | _=>false
def Ji (at_:Int) (r:List PyData):Bool:=match r with
 | [a,b,c]=>Fj at_ [a,b]&&wiP c 1 20
 | _=>false
def trR (at_:Int) (k:PyData) (r:List PyData):Bool:=
 if eqS k "many"=true then O7 r else if eqS k "not"=true then decide (r.length=1)&&Fj at_ r
 else if aoP k=true then decide (r.length=2)&&Fj at_ r else if eqS k "then"=true then Ji at_ r else Ea (.tuple (k::r))
def trP (at_:Int) (d:PyData):Bool:=match d with
 | .tuple (k::r)=>Dq d 2 4&&trR at_ k r
 | _=>false
def eN:Sp:=λvs H Q _=>∃(t:Addr) (a:Int) (xs:YG) (ds:List PyData) (G:Hp),vs=[.ref t,.int a]/\H t=some (.tup xs)/\Same G H/\Ai G xs ds/\ds.length<=900/\∀H',Same H H'->Q (.bl (Fj a ds)) H'
def eG:Sp:=λvs H Q _=>∃(v:V) (d:PyData) (a:Int),vs=[v,.int a]/\Rep H v d/\Fit 64 d/\∀H',Same H H'->Q (.bl (trP a d)) H'
theorem iH {x:V} {r:YG} {n:Nat} (h:n<=r.length):CZ (x::r) (some 1) (some ((n+1:Nat):Int))=r.take n:=by
 unfold CZ;rw[show (some (1:Int))=some ((1:Nat):Int) from rfl,HT.Hx,HT.Hx,QbG (by rw[Qbo];omega),QbG (by rw[Qbo];omega)]
 rfl
theorem Ai.aN {H:Hp}:∀{xs:YG} {ds:List PyData} (n:Nat),Ai H xs ds->Ai H (xs.take n) (ds.take n)
 | _,_,0,_=>.nil
 | _,_,_+1,.nil=>.nil
 | _,_,n+1,.cons a r=>.cons a (Ai.aN n r)
section
variable {P:Program} {w:World} {K:YD} {mg:YB} {base:Heap}
theorem U5 (C:Code K mg "is_plain" Lb Hl) (T:Tc mg) (Dr:Good P w K mg base "is_row" 1 Eu Kw) (Ce:Good P w K mg base "is_within" 2 Dl M7):Good P w K mg base "is_plain" 3 Hl (Sg Ea):=by
 refine C.good U0 (λvs H Q E h=>?_) (λf cdv A outer s H vs Q E hr h=>?_)
 ·obtain⟨v,d,rfl,_⟩:=h;rfl
 obtain⟨v,d,rfl,rd,fit,q⟩:=h;refine⟨_,(Af (Bm (BW (Am Dr hr (Aa (pv 0) (Aa Ab (Aa Ab Ac))))) (Ag (Aq (BP (Cd (Fg hr.units) (Al Az (pv 0) Ab (λ_ _=>rfl)) Bj (Bc _)) (Cj (Am Ce hr (Aa (Al Az (pv 0) Ab (λ_ _=>rfl)) (Aa Ab (Aa Ab Ac)))))))) Bg)
 (Af (Bm (BW (Am Dr hr (Aa (pv 0) (Aa Ab (Aa Ab Ac))))) (Ag (Aq (BP (Cd (Fg hr.units) (Al Az (pv 0) Ab (λ_ _=>rfl)) Bj (Bc _)) (BP (Am Ce hr (Aa (Al Az (pv 0) Ab (λ_ _=>rfl)) (Aa Ab (Aa Ab Ac)))) (Cj (Am Ce hr (Aa (Al Az (pv 0) Ab (λ_ _=>rfl)) (Aa Ab (Aa Ab Ac))))))))) Bg)
 (Ag (Aq Ca)))),?_⟩
 show let R0:TS:=_;let R1:TS:=Aw (BX _ R0 _) _;let R2:TS:=_;Aw (BX _ R2 _) R1 _ _ _;intro R0 R1 R2;have q0:=q _ (Same.refl _);have sS:∀z:Str,PyData.strOk z=true->SeqAt.shaped (.str z)=true:=λz hz=>by
  show (PyData.strOk z&&decide (0<=64))=true;rw[hz];rfl
 refine⟨_,rq,v,2,2,rq,rd.kn,_,rq,?_⟩;rw[GJ rd];cases e2:Dq d 2 2 with
 | true=>
  obtain⟨t,xs,ds,rfl,rfl,ht,rs,h1,h2⟩:=GF rd e2;obtain⟨k,n,rfl⟩:=Jq h1 h2;cases rs with
  | cons rk rs=>
  cases rs with
  | cons rn rs=>
  cases rs;have q0:Q (.bl (eqS k "key"&&wiP n 0 9)) H:=q0;refine Av ⟨_,rq,t,_,_,_,rq,rq,SqT.of ht,Aj (j:=0) rfl,k,.str "key",rk,.str _,(fit.item' (QaN ..)).shaped (Qch _),sS _ (by trivial),_,rq,?_⟩;show if eqS k "key"=true then _ else _
  cases ek:eqS k "key" with
  | false=>rw[ek] at q0;exact Bd q0
  | true=>
   rw[ek,QbT] at q0;refine Av ⟨_,rq,t,_,_,_,rq,rq,SqT.of ht,Aj (j:=1) rfl,_,0,9,rq,rn.kn,?_⟩;rw[CJ rn];exact q0
 | false=>
 refine Bd ⟨_,rq,v,3,3,rq,rd.kn,_,rq,?_⟩;rw[GJ rd];cases e3:Dq d 3 3 with
 | true=>
  obtain⟨t,xs,ds,rfl,rfl,ht,rs,h1,h2⟩:=GF rd e3;obtain⟨k,a,b,rfl⟩:=Wx h1 h2;cases rs with
  | cons rk rs=>
  cases rs with
  | cons ra rs=>
  cases rs with
  | cons rb rs=>
  cases rs;have q0:Q (.bl (eqS k "hours"&&(wiP a 0 23&&wiP b 0 23))) H:=q0;refine Av ⟨_,rq,t,_,_,_,rq,rq,SqT.of ht,Aj (j:=0) rfl,k,.str "hours",rk,.str _,(fit.item' (QaN ..)).shaped (Qch _),sS _ (by trivial),_,rq,?_⟩;show if eqS k "hours"=true then _ else _
  cases ek:eqS k "hours" with
  | false=>rw[ek] at q0;exact Bd q0
  | true=>
   rw[ek,QbT] at q0;refine Av ⟨_,rq,t,_,_,_,rq,rq,SqT.of ht,Aj (j:=1) rfl,_,0,23,rq,ra.kn,_,rq,?_⟩;rw[CJ ra];cases ea:wiP a 0 23 with
   | false=>rw[ea] at q0;exact Bd q0
   | true=>
    rw[ea,QbT] at q0;refine Av ⟨_,rq,t,_,_,_,rq,rq,SqT.of ht,Aj (j:=2) rfl,_,0,23,rq,rb.kn,?_⟩;rw[CJ rb];exact q0
 | false=>
  have:Ea d=false:=by
   unfold Ea;split
   ·exact absurd rfl (PK e2 _ _)
   ·exact absurd rfl (bV e3 _ _ _)
   ·rfl
  rw[this] at q0;exact Bd q0
theorem Tr (C:Code K mg "are_ahead" Io Gj) (T:Tc mg) (Ce:Good P w K mg base "is_within" 2 Dl M7):Good P w K mg base "are_ahead" 3 Gj eN:=by
 refine C.good SM (λvs H Q E h=>?_) (λf cdv A outer s H vs Q E hr h=>?_)
 ·obtain⟨t,a,xs,ds,G,rfl,_⟩:=h;rfl
 obtain⟨t,a,xs,ds,G,rfl,ht,sG,rs,fl,q⟩:=h;refine⟨_,(Ag (Aq (Ar (JZ rfl) rfl T.all M4 (Aa (CQ (N':=["number","at"]) rfl (Bx.of (src:=[none,some 1]) (Ak Io) Gj rfl rfl rfl (by trivial) (by trivial) (by trivial) rfl (by trivial)) (Ek (pv 0)) (λ_ _ _ _=>(Bb (i:=0) (show List.Nodup (["number","at"]:YF) by trivial) rfl (Or.inl rfl))) (λ_ _ _ _=>Ds) (λ_ _ _ _=>(Am Ce hr (Aa (pv 0) (Aa Ab (Aa (Ax CK (pv 1) Ab) Ac)))))) Ac)))),?_⟩;have lx:=Ai.len rs;refine⟨_,rq,t,rq,⟨_,SqT.of ht⟩,λl hl=>?_⟩;let J1:YN:=λ(i:Nat) (σ : St) (HH:Hp)=>∃(u:Option V),σ=[u,some (.int a)]/\HH l=some (.lst (((ds.take i).map λg=>wiP g 0 (a - 1)).map V.bl))/\Same H HH;refine DP (xs:=xs) J1 ⟨_,rq,Ad,Ae hl _⟩ (λi σ HH _ h=>?_) (λi x σ HH hx h=>?_) (fun σ HH h=>?_)
 ·obtain⟨u,rfl,e1,e2⟩:=h;exact SqT.of (e2 _ _ ht)
 ·obtain⟨u,rfl,e1,e2⟩:=h;obtain⟨g,hg,rg⟩:=Ai.at_ rs hx;have hi':i < ds.length:=(Qae.mp hg).1;have rg':=Rep.same (sG.trans e2) rg;refine CW (Av ⟨_,rq,_,rq,_,_,rq,rq,x,_,_,rq,rg'.kn,_,e1,Ba (by rw[Qbw,Qbw,Qbn];omega),_,rq,?_,e2.CN Ah.upd hl⟩);rw[Ad,Qcp hg,Qbx,Qbx,CJ rg'];rfl
 obtain⟨u,rfl,e1,e2⟩:=h;rw[lx,Qbp] at e1;refine⟨l,_,rq,SqL.of e1,?_⟩;rw[all_map];exact q _ e2
theorem Tj (C:Code K mg "is_table_row" Hv Em) (T:Tc mg) (Dr:Good P w K mg base "is_row" 1 Eu Kw) (Ce:Good P w K mg base "is_within" 2 Dl M7) (Ly:Good P w K mg base "are_rising_within" 3 Df Xy) (Ks:Good P w K mg base "are_ahead" 3 Gj eN) (WT:Good P w K mg base "is_plain" 3 Hl (Sg Ea)):Good P w K mg base "is_table_row" 4 Em eG:=by
 refine C.good Ke (λvs H Q E h=>?_) (λf cdv A outer s H vs Q E hr h=>?_)
 ·obtain⟨v,d,at_,rfl,_⟩:=h;rfl
 obtain⟨v,d,at_,rfl,rd,fit,q⟩:=h;refine⟨_,(@Af _ _ _ _ _ (Bm (Cv (BW (Am Dr hr (Aa (pv 0) (Aa Ab (Aa Ab Ac)))))) (@Ag _ _ _ (@Aq _ _ _ _ Ca)) Bg)
 (@Af _ _ _ _ _ (@Bv _ _ 2 _ _ _ _ Ke.nd rfl (Or.inl rfl) (@Al _ _ _ _ _ _ _ Az (pv 0) Ab (λ_ _=>rfl)) (by rfl) (by first | exact .inl rfl | exact .inr rfl))
 (@Af _ _ _ _ _ (Bm (Bh (Fg hr.units) (pv 2) Bj (Bc _)) (@Ag _ _ _ (@Aq _ _ _ _ (BP (Cd Cp (Ar Bl rfl T.len Cw (Aa (pv 0) Ac)) Ab (Bc _)) (BP (Am Ce hr (Aa (@Al _ _ _ _ _ _ _ Az (pv 0) Ab (λ_ _=>rfl)) (Aa Ab (Aa Ab Ac)))) (Cj (Am Ly hr (@Aa _ _ _ _ _ (@Al _ _ _ _ _ _ _ Az (pv 0) Ab (λ_ _=>rfl)) (@Aa _ _ _ _ _ (@Ab _ _ _ _) (@Aa _ _ _ _ _ (@Ab _ _ _ _) (@Aa _ _ _ _ _ (@Ab _ _ _ _) (@Aa _ _ _ _ _ (@Ab _ _ _ _) (@Ac _) Bo) Bo) Bo) Bo) Mh))))))) Bg)
 (@Af _ _ _ _ _ (Bm (Bh (Fg hr.units) (pv 2) Bj (Bc _)) (@Ag _ _ _ (@Aq _ _ _ _ (BP (Cd Cp (Ar Bl rfl T.len Cw (Aa (pv 0) Ac)) Ab (Bc _)) (Cj (Am Ks hr (Aa (CT GC (pv 0) (Dc Ab) Dw) (Aa (pv 1) Ac))))))) Bg)
 (@Af _ _ _ _ _ (Bm (Bh (cP (K:=K) rfl hr.Xn) (pv 2) (Bs (Aa Bj (Aa Bj Ac))) (by with_unfolding_all rfl)) (@Ag _ _ _ (@Aq _ _ _ _ (BP (Cd Cp (Ar Bl rfl T.len Cw (Aa (pv 0) Ac)) Ab (Bc _)) (Cj (Am Ks hr (Aa (CT GC (pv 0) (Dc Ab) Dw) (Aa (pv 1) Ac))))))) Bg)
 (@Af _ _ _ _ _ (Bm (Bh (Fg hr.units) (pv 2) Bj (Bc _)) (@Ag _ _ _ (@Aq _ _ _ _ (BP (Cd Cp (Ar Bl rfl T.len Cw (Aa (pv 0) Ac)) Ab (Bc _)) (BP (Am Ks hr (Aa (CT GC (pv 0) (Dc Ab) (Dc Ab)) (Aa (pv 1) Ac))) (Cj (Am Ce hr (Aa (@Al _ _ _ _ _ _ _ Az (pv 0) Ab (λ_ _=>rfl)) (Aa Ab (Aa (O5 rfl T.MOST_AHEAD) Ac))))))))) Bg)
 (@Ag _ _ _ (@Aq _ _ _ _ (Am WT hr (Aa (pv 0) Ac)))))))))),?_⟩
 show let R0:TS:=_;let R1:TS:=_;let R2:TS:=Aw (BX _ R1 _) R0;let R3:TS:=_;let R4:TS:=Aw (BX _ R3 _) R2;let R5:TS:=_;let R6:TS:=Aw (BX _ R5 _) R4;let R7:TS:=_;let R8:TS:=Aw (BX _ R7 _) R6;let R9:TS:=Aw _ R8;Aw _ R9 _ _ _;intro R0 R1 R2 R3 R4 R5 R6 R7 R8 R9;have sS:∀z:Str,PyData.strOk z=true->SeqAt.shaped (.str z)=true:=λz hz=>by
  show (PyData.strOk z&&decide (0<=64))=true;rw[hz];rfl
 refine⟨_,rq,v,2,4,rq,rd.kn,_,rq,?_⟩;rw[GJ rd];cases e0:Dq d 2 4 with
 | false=>
  have:trP at_ d=false:=by
   unfold trP;split
   ·rw[e0];rfl
   ·rfl
  rw[this] at q;exact Av (q _ (Same.refl _))
 | true=>
 obtain⟨t,xs,ds,rfl,rfl,ht,rs,h1,h2⟩:=GF rd e0;cases rs with
 | nil=>exact absurd h1 (by decide)
 | @cons x0 k xr r rk rs=>
 obtain⟨r1,r3⟩:=fJ e0;have lr:=Ai.len rs;have q:∀H',Same H H'->Q (.bl (trR at_ k r)) H':=λH' s'=>by
  have:=q H' s';have e:trP at_ (.tuple (k::r))=trR at_ k r:=by
   show (Dq (.tuple (k::r)) 2 4&&trR at_ k r)=trR at_ k r;rw[e0,QbT]
  rw[e] at this;exact this
 have sk:SeqAt.shaped k=true:=(fit.item' (QaN ..)).shaped (Qch _);have fr:∀x∈r,Fit 64 x:=λx hx=>fit.item' (Qaz _ hx);have len1:(((x0::xr).length:Nat):Int)=(r.length:Int)+1:=by rw[Qbo,lr];omega
 have iG:CZ (x0::xr) (some 1) none=xr:=by
  unfold CZ;rw[HT.Hw,show (some (1:Int))=some ((1:Nat):Int) from rfl,HT.Hx,QbG (by rw[Qbo];omega)]
  exact Qas (by rw[Qbo];show xr.length<=_;omega)
 refine Bd ⟨_,rq,t,_,_,_,rq,rq,SqT.of ht,Aj (j:=0) rfl,?_⟩;refine⟨_,rq,k,.str "many",rk,.str _,sk,sS _ (by trivial),_,rq,?_⟩;show if eqS k "many"=true then _ else _
 unfold trR at q;cases e1:eqS k "many" with
 | true=>
  have q:∀H',Same H H'->Q (.bl (O7 r)) H':=λH' s'=>by have:=q H' s';rw[e1,if_pos rfl] at this;exact this
  refine Av ⟨_,rq,t,_,rq,.inr (SqT.of ht),rq,_,rq,ifN (λhl=>?_) (λhl=>?_)⟩
  ·rw[len1] at hl;obtain⟨n,z,rfl⟩:=Jq (l:=r) (by omega) (by omega);cases rs with
   | cons rn rs=>
   cases rs with
   | cons rz rs=>
   cases rs;have q:∀H',Same H H'->Q (.bl (wiP n 1 9&&rwP z 1 30 1 99)) H':=q;refine⟨_,rq,t,_,_,_,rq,rq,SqT.of ht,Aj (j:=1) rfl,_,1,9,rq,rn.kn,_,rq,?_⟩;rw[CJ rn];cases ew:wiP n 1 9 with
   | false=>rw[ew] at q;exact Bd (q _ (Same.refl _))
   | true=>
    rw[ew,QbT] at q;exact Av ⟨_,rq,t,_,_,_,rq,rq,SqT.of ht,Aj (j:=2) rfl,_,1,30,1,99,z,64,rq,rz,fr z (by simp),q⟩
  ·rw[len1] at hl;have:O7 r=false:=by
    unfold O7;split
    ·exact absurd rfl hl
    ·rfl
   rw[this] at q;exact q _ (Same.refl _)
 | false=>
 have q:∀H',Same H H'->Q (.bl (if eqS k "not"=true then decide (r.length=1)&&Fj at_ r else if aoP k=true then decide (r.length=2)&&Fj at_ r else if eqS k "then"=true then Ji at_ r else Ea (.tuple (k::r)))) H':=λH' s'=>by have:=q H' s';rw[e1,if_neg (by decide)] at this;exact this
 refine Bd ⟨_,rq,k,.str "not",rk,.str _,sk,sS _ (by trivial),_,rq,?_⟩;show if eqS k "not"=true then _ else _
 cases e2:eqS k "not" with
 | true=>
  have q:∀H',Same H H'->Q (.bl (decide (r.length=1)&&Fj at_ r)) H':=λH' s'=>by have:=q H' s';rw[e2,if_pos rfl] at this;exact this
  refine Av ⟨_,rq,t,_,rq,.inr (SqT.of ht),rq,_,rq,ifN (λhl=>?_) (λhl=>?_)⟩
  ·rw[len1] at hl;rw[QbM (show r.length=1 by omega),QbT] at q;refine⟨_,rq,_,rq,t,_,rq,ht,λp H1 hp s1=>⟨_,rq,p,at_,_,r,H,rq,hp,s1,?_,by omega,λH2 s2=>q _ (s1.trans s2)⟩⟩;rw[iG];exact rs
  ·rw[len1] at hl;rw[Qby (show ¬r.length=1 by omega),QbO] at q;exact q _ (Same.refl _)
 | false=>
 have q:∀H',Same H H'->Q (.bl (if aoP k=true then decide (r.length=2)&&Fj at_ r else if eqS k "then"=true then Ji at_ r else Ea (.tuple (k::r)))) H':=λH' s'=>by have:=q H' s';rw[e2,if_neg (by decide)] at this;exact this
 refine Bd ⟨_,rq,Ao (by show 2<=1000;decide),λp hp=>?_⟩;have sp:=Ae hp (.tup [.str "and",.str "or"]);have cp:upd H p (.tup [.str "and",.str "or"]) p=some (.tup [.str "and",.str "or"]):=Ad;generalize upd H p (.tup [.str "and",.str "or"])=H1 at *;have ht1:=sp _ _ ht;have q:∀H',Same H1 H'->Q (.bl (if aoP k=true then decide (r.length=2)&&Fj at_ r else if eqS k "then"=true then Ji at_ r else Ea (.tuple (k::r)))) H':=λH' s'=>q H' (sp.trans s')
 refine⟨p,_,k,[.str "and",.str "or"],rq,SqT.of cp,.cons (.str _) (.cons (.str _) .nil),Rep.same sp rk,sk,by trivial,_,rq,?_⟩;show if aoP k=true then _ else _
 cases e3:aoP k with
 | true=>
  have q:∀H',Same H1 H'->Q (.bl (decide (r.length=2)&&Fj at_ r)) H':=λH' s'=>by have:=q H' s';rw[e3,if_pos rfl] at this;exact this
  refine Av ⟨_,rq,t,_,rq,.inr (SqT.of ht1),rq,_,rq,ifN (λhl=>?_) (λhl=>?_)⟩
  ·rw[len1] at hl;rw[QbM (show r.length=2 by omega),QbT] at q;refine⟨_,rq,_,rq,t,_,rq,ht1,λp H2 hp s2=>⟨_,rq,p,at_,_,r,H,rq,hp,sp.trans s2,?_,by omega,λH3 s3=>q _ (s2.trans s3)⟩⟩;rw[iG];exact rs
  ·rw[len1] at hl;rw[Qby (show ¬r.length=2 by omega),QbO] at q;exact q _ (Same.refl _)
 | false=>
 have q:∀H',Same H1 H'->Q (.bl (if eqS k "then"=true then Ji at_ r else Ea (.tuple (k::r)))) H':=λH' s'=>by have:=q H' s';rw[e3,if_neg (by decide)] at this;exact this
 refine Bd ⟨_,rq,k,.str "then",Rep.same sp rk,.str _,sk,sS _ (by trivial),_,rq,?_⟩;show if eqS k "then"=true then _ else _
 cases e4:eqS k "then" with
 | true=>
  have q:∀H',Same H1 H'->Q (.bl (Ji at_ r)) H':=λH' s'=>by have:=q H' s';rw[e4,if_pos rfl] at this;exact this
  refine Av ⟨_,rq,t,_,rq,.inr (SqT.of ht1),rq,_,rq,ifN (λhl=>?_) (λhl=>?_)⟩
  ·rw[len1] at hl;obtain⟨a,b,c,rfl⟩:=Wx (l:=r) (by omega) (by omega);have rs0:=rs;cases rs with
   | cons ra rs=>
   cases rs with
   | cons rb rs=>
   cases rs with
   | cons rc rs=>
   cases rs;have q:∀H',Same H1 H'->Q (.bl (Fj at_ [a,b]&&wiP c 1 20)) H':=q;refine⟨_,rq,_,rq,_,rq,t,_,rq,ht1,λp H2 hp s2=>⟨_,rq,p,at_,_,[a,b],H,rq,hp,sp.trans s2,?_,by show 2<=900;decide,λH3 s3=>⟨_,rq,?_⟩⟩⟩
   ·have ec:=iH (x:=x0) (n:=2) (r:=_) (by rw[Ai.len rs0];show 2<=3;decide);rw[show (some (3:Int))=some ((2+1:Nat):Int) from rfl,ec]
    exact Ai.aN 2 rs0
   cases ea:Fj at_ [a,b] with
   | false=>rw[ea] at q;exact Bd (q _ (s2.trans s3))
   | true=>
    rw[ea,QbT] at q;have rc3:=Rep.same (sp.trans (s2.trans s3)) rc;refine Av ⟨_,rq,t,_,_,_,rq,rq,SqT.of ((s2.trans s3) _ _ ht1),Aj (j:=3) rfl,_,1,20,rq,rc3.kn,?_⟩;rw[CJ rc3];exact q _ (s2.trans s3)
  ·rw[len1] at hl;have:Ji at_ r=false:=by
    unfold Ji;split
    ·exact absurd rfl hl
    ·rfl
   rw[this] at q;exact q _ (Same.refl _)
 | false=>
 have q:∀H',Same H1 H'->Q (.bl (Ea (.tuple (k::r)))) H':=λH' s'=>by have:=q H' s';rw[e4,if_neg (by decide)] at this;exact this
 exact Bd ⟨_,rq,_,_,rq,Rep.same sp rd,fit,q⟩
end
abbrev NZ:Stmt:=top 16
abbrev JR:YF:=["thing","many"]
theorem XS:Bq ["thing","many"] JR (Ak NZ):=by ac_rfl
abbrev Jl:Stmt:=top 17
abbrev FW:YF:=Hj
theorem Km:Bq ["thing","rows","outs"] FW (Ak Jl):=by ac_rfl
theorem Rx {X:Cx} {K:YD} (h:X.K=K):Du X (.builtin "len") (λxs H Q=>∃p ys,xs=[.ref p]/\(SqL K H p ys\/SqT K H p ys)/\Q (.int ys.length) H):=h ▸ Bl
def Jg:PyData->Int
 | .tuple (.int a::_)=>a
 | _=>0
def FQ (ds:List PyData):Bool:=ds.zipIdx.all λp=>trP (p.2:Int) p.1
def Fz (n:Int) (d:PyData):Bool:=match d with
 | .tuple [a,m]=>wiP a 1 99&&wiP m 0 (n - 1)
 | _=>false
def Dz (d:PyData):Bool:=match d with
 | .tuple [.tuple rs,.tuple os]=>(decide (rs.length<=320)&&decide (os.length<=16))&&(FQ rs&&(os.all (Fz rs.length)&&Fq (os.map Jg)))
 | _=>false
def aX:Sp:=λvs H Q _=>∃(v:V) (d:PyData) (n:Int),vs=[v,.int n]/\Rep H v d/\Q (.bl (Fz n d)) H
theorem QT {n:Int} {d:PyData} (h:Fz n d=true):∃a m,d=.tuple [.int a,.int m]/\1<=a/\a<=99/\0<=m/\m<=n - 1:=by
 unfold Fz at h;split at h
 ·rename_i a m;rw[Qbm] at h;cases a with
  | int a=>
   cases m with
   | int m=>
    have h1:(decide (1<=a)&&decide (a<=99))=true:=h.1;have h2:(decide (0<=m)&&decide (m<=n - 1))=true:=h.2;rw[Qbm] at h1 h2;exact⟨a,m,rq,Qbb h1.1,Qbb h1.2,Qbb h2.1,Qbb h2.2⟩
   | _=>cases h.2
  | _=>cases h.1
 ·cases h
theorem Dg {d:PyData} (h:∀rs os,d=.tuple [.tuple rs,.tuple os]->rs.length<=320->os.length<=16->FQ rs=true->os.all (Fz rs.length)=true->Fq (os.map Jg)=true->False):Dz d=false:=by
 unfold Dz;split
 ·rename_i rs os;cases e:((decide (rs.length<=320)&&decide (os.length<=16))&&(FQ rs&&(os.all (Fz rs.length)&&Fq (os.map Jg)))) with
  | false=>rfl
  | true=>
   simp only[Qbm,decide_eq_true_eq] at e;exact (h rs os rfl e.1.1 e.1.2 e.2.1 e.2.2.1 e.2.2.2).elim
 ·rfl
theorem S6 {d:PyData} {a b:Int} (h:Dq d a b=false) {ds:List PyData} (e:d=.tuple ds):¬(a<=(ds.length:Int)/\(ds.length:Int)<=b):=by
 subst e;have h:(decide (a<=(ds.length:Nat))&&decide (((ds.length:Nat):Int)<=b))=false:=h;rintro ⟨h1,h2⟩;rw[QbM h1,QbM h2] at h;cases h
section
variable {P:Program} {w:World} {K:YD} {mg:YB} {base:Heap}
theorem Yl (C:Code K mg "is_out" NZ JR) (T:Tc mg) (Dr:Good P w K mg base "is_row" 1 Eu Kw) (Ce:Good P w K mg base "is_within" 2 Dl M7):Good P w K mg base "is_out" 3 JR aX:=by
 refine C.good XS (λvs H Q E h=>?_) (λf cdv A outer s H vs Q E hr h=>?_)
 ·obtain⟨v,d,n,rfl,_⟩:=h;rfl
 obtain⟨v,d,n,rfl,rd,q⟩:=h;refine⟨_,(Ag (Aq (BP (Am Dr hr (Aa (pv 0) (Aa Ab (Aa Ab Ac)))) (BP (Am Ce hr (Aa (Al Az (pv 0) Ab (λ_ _=>rfl)) (Aa Ab (Aa Ab Ac)))) (Cj (Am Ce hr (Aa (Al Az (pv 0) Ab (λ_ _=>rfl)) (Aa Ab (Aa (Ax CK (pv 1) Ab) Ac))))))))),?_⟩;refine⟨_,rq,v,2,2,rq,rd.kn,_,rq,?_⟩;rw[GJ rd];cases e2:Dq d 2 2 with
 | false=>
  have:Fz n d=false:=by
   unfold Fz;split
   ·exact absurd rfl (PK e2 _ _)
   ·rfl
  rw[this] at q;exact Bd q
 | true=>
 obtain⟨t,xs,ds,rfl,rfl,ht,rs,h1,h2⟩:=GF rd e2;obtain⟨a,m,rfl⟩:=Jq h1 h2;cases rs with
 | cons ra rs=>
 cases rs with
 | cons rm rs=>
 cases rs;have q:Q (.bl (wiP a 1 99&&wiP m 0 (n - 1))) H:=q;refine Av ⟨_,rq,t,_,_,_,rq,rq,SqT.of ht,Aj (j:=0) rfl,_,1,99,rq,ra.kn,_,rq,?_⟩;rw[CJ ra];cases ea:wiP a 1 99 with
 | false=>rw[ea] at q;exact Bd q
 | true=>
  rw[ea,QbT] at q;refine Av ⟨_,rq,t,_,_,_,rq,rq,SqT.of ht,Aj (j:=1) rfl,_,rq,_,_,rq,rq,_,0,n - 1,rq,rm.kn,?_⟩;rw[CJ rm];exact q
abbrev jp(a:PySem.Addr):Option L2.V:=some (.ref a)
abbrev xh:YF:=["address","number"]
theorem U4 (C:Code K mg "is_table" Jl FW) (T:Tc mg) (Dr:Good P w K mg base "is_row" 1 Eu Kw) (Kr:Good P w K mg base "is_rising" 1 Fp V4) (Qw:Good P w K mg base "is_table_row" 4 Em eG) (ao:Good P w K mg base "is_out" 3 JR aX):Good P w K mg base "is_table" 5 FW (Sg Dz):=by
 refine C.good Km (λvs H Q E h=>?_) (λf cdv A outer s H vs Q E hr h=>?_)
 ·obtain⟨v,d,rfl,_⟩:=h;rfl
 obtain⟨v,d,rfl,rd,fit,q⟩:=h;refine⟨_,(@Af _ _ _ _ _ (Bm (PW.pt (FT (Cv (BW (Am Dr hr (Aa (pv 0) (Aa Ab (Aa Ab Ac)))))) (FT (Cv (BW (Am Dr hr (Aa (@Al _ _ _ _ _ _ _ Az (pv 0) Ab (λ_ _=>rfl)) (Aa Ab (Aa (O5 rfl T.MOST_ROWS) Ac)))))) (Hg (Cv (BW (Am Dr hr (Aa (@Al _ _ _ _ _ _ _ Az (pv 0) Ab (λ_ _=>rfl)) (Aa Ab (Aa (O5 rfl T.MOST_OUTS) Ac)))))))))) (@Ag _ _ _ (@Aq _ _ _ _ Ca)) Bg)
 (@Af _ _ _ _ _ (IV (pv 0) (JM rfl (Bu (Bb (i:=1) Km.nd rfl (Or.inr rfl)) (Bu (Bb (i:=2) Km.nd rfl (Or.inl rfl)) DW))))
 (@Af _ _ _ _ _ (Bm (Cv (BW (Ar (JZ rfl) rfl T.all M4 (Aa (CQ (N':=["at","row"]) rfl (Bx.plain rfl (by trivial) (by trivial) (by trivial)) (Te rfl T.enumerate (pv 1)) (λ_ _ _ _=>(Ju (K:=K) (n:=2) rfl rfl (Bu (Bb (i:=0) (show List.Nodup (["at","row"]:YF) by trivial) rfl (Or.inl rfl)) (Bu (Bb (i:=1) (show List.Nodup (["at","row"]:YF) by trivial) rfl (Or.inl rfl)) DW)))) (λ_ _ _ _=>Ds) (λ_ _ _ _=>(Am Qw hr (Aa (pv 1) (Aa (pv 0) Ac))))) Ac)))) (@Ag _ _ _ (@Aq _ _ _ _ Ca)) Bg)
 (@Af _ _ _ _ _ (Bm (Cv (BW (Ar (JZ rfl) rfl T.all M4 (Aa (CQ (N':=["out","rows"]) rfl (Bx.of (src:=[none,some 1]) (Ak Jl) ["thing","rows","outs"] rfl rfl rfl (by trivial) (by trivial) (by trivial) rfl (by trivial)) (Ek (pv 2)) (λ_ _ _ _=>(Bb (i:=0) (show List.Nodup (["out","rows"]:YF) by trivial) rfl (Or.inl rfl))) (λ_ _ _ _=>Ds) (λ_ _ _ _=>(Am ao hr (Aa (pv 0) (Aa (Ar (Rx (K:=K) rfl) rfl T.len Cw (Aa (pv 1) Ac)) Ac))))) Ac)))) (@Ag _ _ _ (@Aq _ _ _ _ Ca)) Bg)
 (@Ag _ _ _ (@Aq _ _ _ _ (Am Kr hr (Aa (CQ (N':=xh) rfl (Bx.plain rfl (by trivial) (by trivial) (by trivial)) (Ek (pv 2)) (λ_ _ _ _=>(Ju (K:=K) (n:=2) rfl rfl (Bu (Bb (i:=0) (show List.Nodup (xh:YF) by trivial) rfl (Or.inl rfl)) (Bu (Bb (i:=1) (show List.Nodup (xh:YF) by trivial) rfl (Or.inl rfl)) DW)))) (λ_ _ _ _=>Ds) (λ_ _ _ _=>(pv 0))) Ac)))))))),?_⟩
 show let R0:TS:=_;let R1:TS:=Aw _ R0;let R2:TS:=Aw _ R1;let R3:TS:=Aw _ R2;Aw _ R3 _ _ _;intro R0 R1 R2 R3;have no:(Dz d=false)->Q (.bl false) H:=λe=>by rw[e] at q;exact q _ (Same.refl _)
 refine⟨_,rq,v,2,2,rq,rd.kn,_,rq,?_⟩;rw[GJ rd];cases e2:Dq d 2 2 with
 | false=>exact Av (Av (no (Dg λrs os e _ _ _ _ _=>PK e2 _ _ e)))
 | true=>
 obtain⟨t,xs,ds,rfl,rfl,ht,rs,h1,h2⟩:=GF rd e2;obtain⟨dr,dO,rfl⟩:=Jq h1 h2;have fr:Fit 64 dr:=fit.item' (QaN ..);have fo:Fit 64 dO:=fit.item' (Qaz _ (QaN ..));cases rs with
 | cons rr rs=>
 cases rs with
 | cons ro rs=>
 cases rs;refine Bd ⟨_,rq,t,_,_,_,rq,rq,SqT.of ht,Aj (j:=0) rfl,_,0,320,rq,rr.kn,_,rq,?_⟩;rw[GJ rr];cases e3:Dq dr 0 320 with
 | false=>
  refine Av (Av (no (Dg λrs os e l1 _ _ _ _=>?_)));simp only[PyData.tuple.injEq,List.cons.injEq] at e;exact S6 e3 e.1 ⟨by omega,by omega⟩
 | true=>
 refine Bd ⟨_,rq,t,_,_,_,rq,rq,SqT.of ht,Aj (j:=1) rfl,_,0,16,rq,ro.kn,_,rq,?_⟩;rw[GJ ro];cases e4:Dq dO 0 16 with
 | false=>
  refine Av (no (Dg λrs os e _ l2 _ _ _=>?_));simp only[PyData.tuple.injEq,List.cons.injEq] at e;exact S6 e4 e.2.1 ⟨by omega,by omega⟩
 | true=>
 obtain⟨tr,xr,rows,rfl,rfl,htr,rsr,_,lr⟩:=GF rr e3;obtain⟨to,xo,outs,rfl,rfl,hto,rso,_,lo⟩:=GF ro e4;have lxr:=Ai.len rsr;have lxo:=Ai.len rso;refine Bd ⟨_,rq,t,_,rq,SqT.of ht,rq,_,_,rq,_,_,rq,rq,?_⟩;refine⟨_,rq,tr,rq,⟨_,SqT.of htr⟩,λl hl=>?_⟩;let J0:YN:=λ(i:Nat) (σ : St) (HH:Hp)=>∃(u v:Option V),σ=[u,v]/\HH l=some (.lst (((rows.zipIdx.take i).map λp=>trP (p.2:Int) p.1).map V.bl))/\Same H HH;refine Q5 (xs:=xr) J0 ⟨_,_,rq,Ad,Ae hl _⟩ (λi σ HH _ h=>?_) (λi x p σ HH hx h hp=>?_) (fun σ HH h=>?_)
 ·obtain⟨u,v,rfl,e1,e2⟩:=h;exact SqT.of (e2 _ _ htr)
 ·obtain⟨u,v,rfl,e1,s2⟩:=h;obtain⟨g,hg,rg⟩:=Ai.at_ rsr hx;have hi':i < rows.length:=(Qae.mp hg).1;have hz:rows.zipIdx[i]?=some (g,i):=by rw[List.getElem?_zipIdx,hg];simp
  have s3:=Ae hp (.tup [.int ((0+i:Nat):Int),x]);have h3:(upd HH p (.tup [.int ((0+i:Nat):Int),x])) p=some (.tup [.int ((0+i:Nat):Int),x]):=Ad;have e1':=s3 _ _ e1;have s2':=s2.trans s3;generalize upd HH p (.tup [.int ((0+i:Nat):Int),x])=H3 at *;refine⟨p,_,rq,SqT.of h3,rq,_,_,rq,_,_,rq,rq,Av ⟨_,rq,_,rq,x,g,_,rq,Rep.same s2' rg,fr.item' (Qay hg),λH4 s4=>⟨_,s4 _ _ e1',Ba (by rw[Qbw,Qbw,Qbn,QaV];omega),_,_,rq,?_,(s2'.trans s4).CN Ah.upd hl⟩⟩⟩;rw[Ad,Qcp hz,Qbx,Qbx,Nat.zero_add];rfl
 obtain⟨u,v,rfl,e1,s1⟩:=h;rw[show xr.length=rows.zipIdx.length by rw[QaV,lxr],Qbp] at e1;refine⟨l,_,rq,SqL.of e1,_,rq,?_⟩;rw[all_map];have q1:∀H',Same HH H'->Q (.bl (FQ rows&&(outs.all (Fz rows.length)&&Fq (outs.map Jg)))) H':=λH' s'=>by
  have:=q H' (s1.trans s');have e:Dz (.tuple [.tuple rows,.tuple outs])=(FQ rows&&(outs.all (Fz rows.length)&&Fq (outs.map Jg))):=by
   show ((decide (rows.length<=320)&&decide (outs.length<=16))&&_)=_;rw[QbM (show rows.length<=320 by omega),QbM (show outs.length<=16 by omega)];rfl
  rw[e] at this;exact this
 show if (!FQ rows)=true then _ else _
 cases er:FQ rows with
 | false=>rw[er] at q1;exact Av (q1 _ (Same.refl _))
 | true=>
 rw[er,QbT] at q1;refine Bd ⟨_,rq,to,rq,⟨_,SqT.of (s1 _ _ hto)⟩,λl2 hl2=>?_⟩;let J1:YN:=λ(i:Nat) (σ : St) (HX:Hp)=>∃(u:Option V),σ=[u,jp tr]/\HX l2=some (.lst (((outs.take i).map (Fz rows.length)).map V.bl))/\Same HH HX;refine DP (xs:=xo) J1 ⟨_,rq,Ad,Ae hl2 _⟩ (λi σ HX _ h=>?_) (λi x σ HX hx h=>?_) (fun σ HX h=>?_)
 ·obtain⟨u,rfl,e1,e2⟩:=h;exact SqT.of (e2 _ _ (s1 _ _ hto))
 ·obtain⟨u,rfl,e1,s2⟩:=h;obtain⟨g,hg,rg⟩:=Ai.at_ rso hx;have hi':i < outs.length:=(Qae.mp hg).1;refine CW (Av ⟨_,rq,_,rq,tr,_,rq,.inr (SqT.of (s2 _ _ (s1 _ _ htr))),x,g,_,rq,Rep.same (s1.trans s2) rg,_,e1,Ba (by rw[Qbw,Qbw,Qbn];omega),_,rq,?_,s2.CN Ah.upd hl2⟩);rw[Ad,Qcp hg,Qbx,Qbx,lxr];rfl
 obtain⟨u,rfl,e1',s2⟩:=h;rw[show xo.length=outs.length from lxo,Qbp] at e1'
 refine⟨l2,_,rq,SqL.of e1',_,rq,?_⟩;rw[all_map];cases eo:outs.all (Fz rows.length) with
 | false=>rw[eo] at q1;exact Av (q1 _ s2)
 | true=>
 rw[eo,QbT] at q1;refine Bd ⟨_,rq,to,rq,⟨_,SqT.of (s2 _ _ (s1 _ _ hto))⟩,λl3 hl3=>?_⟩;let J2:YN:=λ(i:Nat) (σ : St) (HY:Hp)=>∃(u v:Option V),σ=[u,v]/\HY l3=some (.lst (((outs.take i).map Jg).map V.int))/\Same HX HY;refine DP (xs:=xo) J2 ⟨_,_,rq,Ad,Ae hl3 _⟩ (λi σ HY _ h=>?_) (λi x σ HY hx h=>?_) (fun σ HY h=>?_)
 ·obtain⟨u,v,rfl,e1,e2⟩:=h;exact SqT.of (e2 _ _ (s2 _ _ (s1 _ _ hto)))
 ·obtain⟨u,v,rfl,e1,s3⟩:=h;obtain⟨g,hg,rg⟩:=Ai.at_ rso hx;have hi':i < outs.length:=(Qae.mp hg).1;obtain⟨a,m,rfl,_⟩:=QT (Qbu.mp eo g (Qay hg));have rg:=Rep.same (s1.trans (s2.trans s3)) rg;cases rg with
  | tup eg rg=>
  cases rg with
  | cons ra rg=>
  cases rg with
  | cons rm rg=>
  cases rg;cases ra;cases rm;refine⟨_,_,rq,SqT.of eg,rq,_,_,rq,_,_,rq,rq,Av ⟨_,rq,_,e1,Ba (by rw[Qbw,Qbw,Qbn];omega),_,_,rq,?_,s3.CN Ah.upd hl3⟩⟩;rw[Ad,Qcp hg,Qbx,Qbx];rfl
 obtain⟨u,v,rfl,e3,s3⟩:=h;rw[show xo.length=outs.length from lxo,Qbp] at e3
 exact⟨l3,_,rq,.inr e3,by rw[Qbw];omega,λH' s'=>q1 _ (s2.trans (s3.trans s'))⟩
end
abbrev Hf:Stmt:=top 8
abbrev Fy:YF:=["many","addresses","warned"]
theorem Ri:Bq Fy Fy (Ak Hf):=by ac_rfl
abbrev Jf:Stmt:=top 9
abbrev EY:YF:=["condition","turned","hour"]
theorem FP:Bq ["condition","turned","hour","word","begin","end"] EY (Ak Jf):=by ac_rfl
abbrev Il:Stmt:=top 18
abbrev Gh:YF:=["row","now","past","brought"]
abbrev xp:YF:=["row","now","past","brought","warned","turned","hour","word"]
theorem Fv:Bq xp Gh (Ak Il):=by ac_rfl
theorem QS {X:Cx} {K:YD} {a:Expr} {ta:TE} (h:X.K=K) (ha:PE X a ta) (he:∀whole,isTrue a X.env whole=(do let v <-whole;standAt a.pos;holding [v] (truthy v))) :
  PT X a (fun σ H Q=>ta σ H λx H'=>∃k,aF K x H' k/\Q k H'):=h ▸ N8 ha he
inductive Rw where
 | many (n:Int) (as:List Int)
 | key (k:Int)
 | hours (a b:Int)
 | neg (i:Nat)
 | both (i j:Nat)
 | any (i j:Nat)
 | thn (i j n:Nat)
def Rw.data:Rw->PyData
 | .many n as=>.tuple [.str "many",.int n,.tuple (as.map PyData.int)]
 | .key k=>.tuple [.str "key",.int k]
 | .hours a b=>.tuple [.str "hours",.int a,.int b]
 | .neg i=>.tuple [.str "not",.int i]
 | .both i j=>.tuple [.str "and",.int i,.int j]
 | .any i j=>.tuple [.str "or",.int i,.int j]
 | .thn i j n=>.tuple [.str "then",.int i,.int j,.int n]
def Rw.ok (m:Nat):Rw->Prop
 | .many n as=>1<=n/\n<=9/\1<=as.length/\as.length<=30/\(∀a∈as,1<=a/\a<=99)/\Fq as=true
 | .key k=>0<=k/\k<=9
 | .hours a b=>0<=a/\a<=23/\0<=b/\b<=23
 | .neg i=>i < m
 | .both i j=>i < m/\j < m
 | .any i j=>i < m/\j < m
 | .thn i j n=>i < m/\j < m/\1<=n/\n<=20
def Hq (ws ks:List Int) (h:Int) (past:List (List Bool)) (now:List Bool):Rw->Bool
 | .many n as=>decide (n<=(((as.filter λa=>decide (a∈ws)).length:Nat):Int))
 | .key k=>decide (k∈ks)
 | .hours a b=>decide (a=b) || decide ((h - a) % 24 < (b - a) % 24)
 | .neg i=>!now.getD i false
 | .both i j=>now.getD i false&&now.getD j false
 | .any i j=>now.getD i false || now.getD j false
 | .thn i j n=>now.getD j false&&(past.drop (past.length - n)).any λg=>g.getD i false
def HeldAt (H:Hp) (v:V) (g:List Bool):Prop:=∃a,v=.ref a/\H a=some (.lst (g.map V.bl))
theorem HeldAt.same {H H':Hp} {v:V} {g:List Bool} (h:HeldAt H v g) (s:Same H H'):HeldAt H' v g:=by
 obtain⟨a,rfl,e⟩:=h;exact⟨a,rq,s _ _ e⟩
theorem Pg (w:Int):∀ws:List Int,inV (.int w) (ws.map V.int)=decide (w∈ws)
 | []=>rfl
 | x::r=>by
  have ih:=Pg w r;unfold inV at ih ⊢;rw[QbU,QbY,ih];have h2:eqV (.int x) (.int w)=decide (w=x):=by
   show (x == w)=decide (w=x);rw[QbC,beq_iff_eq,QaS];exact⟨λh=>h.symm,λh=>h.symm⟩
  rw[h2,QbC,QbI,QaS,QaS,QaS,QbS]
theorem Pk (ws:List Int):(ws.map V.int).all Ir=true:=by rw[List.all_map];exact Qbu.mpr λx _=>rfl
theorem Ed {now:List Bool} {i:Nat} (h:i < now.length):atI (now.map V.bl) (i:Int)=some (.bl (now.getD i false)):=Aj (by rw[Qbc,Qaj h];simp[h])
theorem Ul {xs:YG} {n:Nat} (h:1<=n):CZ xs (some (-(n:Int))) none=xs.drop (xs.length - n):=by
 unfold CZ;have e:HT.sIx xs.length 0 (some (-(n:Int)))=xs.length - n:=by
  show (if (-(n:Int)) < 0 then ((-(n:Int))+(xs.length:Int)).toNat else _)=_
  rw[if_pos (by omega)];omega
 rw[e,HT.Hw];exact Qas (by rw[Qbq];exact Qch _)
theorem Paired.RN {α β : Type} {F:α->β->Prop}:∀{l:List α} {r:List β} (n:Nat),Paired F l r->Paired F (l.drop n) (r.drop n)
 | _,_,0,h=>h
 | _,_,_+1,.nil=>.nil
 | _,_,n+1,.cons h t=>Paired.RN n t
def RZ:Sp:=λvs H Q _=>∃(n:Int) (ta tw:Addr) (as ws:List Int),vs=[.int n,.ref ta,.ref tw]/\H ta=some (.tup (as.map V.int))/\H tw=some (.tup (ws.map V.int))/\as.length<=900/\∀H',Same H H'->Q (.bl (decide (n<=(((as.filter λa=>decide (a∈ws)).length:Nat):Int)))) H'
def Vh:Sp:=λvs H Q _=>∃(v:V) (r:Rw) (tk:Addr) (ks ws:List Int) (h:Int) (past:List (List Bool)) (now:List Bool),vs=[v,.ref tk,.int h]/\((∃k,r=.key k)\/∃a b,r=.hours a b)/\Rep H v r.data/\H tk=some (.tup (ks.map V.int))/\Q (.bl (Hq ws ks h past now r)) H
def Vk:Sp:=λvs H Q _=>∃(v:V) (r:Rw) (m:Nat) (ln lp tb tw tk:Addr) (now:List Bool) (xs:YG) (past:List (List Bool)) (ws ks:List Int) (h:Int),vs=[v,.ref ln,.ref lp,.ref tb]/\Rep H v r.data/\r.ok m/\H ln=some (.lst (now.map V.bl))/\now.length=m/\H lp=some (.lst xs)/\Paired (HeldAt H) xs past/\(∀g∈past,m<=g.length)/\past.length<=40/\H tb=some (.tup [.ref tw,.ref tk,.int h])/\H tw=some (.tup (ws.map V.int))/\H tk=some (.tup (ks.map V.int))/\∀H',Same H H'->Q (.bl (Hq ws ks h past now r)) H'
section
variable {P:Program} {w:World} {K:YD} {mg:YB} {base:Heap}
theorem Rn (C:Code K mg "are_warned" Hf Fy) (T:Tc mg):Good P w K mg base "are_warned" 1 Fy RZ:=by
 refine C.good Ri (λvs H Q E h=>?_) (λf cdv A outer s H vs Q E hr h=>?_)
 ·obtain⟨n,ta,tw,as,ws,rfl,_⟩:=h;rfl
 obtain⟨n,ta,tw,as,ws,rfl,hta,htw,l9,q⟩:=h;refine⟨_,(Ag (Aq (Cd Wn (Ar Bl rfl T.len Cw (Aa (CQ (N':=["address","warned"]) rfl (Bx.of (src:=[none,some 2]) (Ak Hf) Fy rfl rfl rfl (by trivial) (by trivial) (by trivial) rfl (by trivial)) (Ek (pv 1)) (λ_ _ _ _=>(Bb (i:=0) (show List.Nodup (["address","warned"]:YF) by trivial) rfl (Or.inl rfl))) (λ_ _ _ _=>(KJ (Bh (O6 (K:=K) rfl) (pv 0) (pv 1) (by with_unfolding_all rfl)))) (λ_ _ _ _=>(pv 0))) Ac)) (pv 0) (Bc _)))),?_⟩;refine⟨_,rq,ta,rq,⟨_,SqT.of hta⟩,λl hl=>?_⟩;let J0:YN:=λ(i:Nat) (σ : St) (HH:Hp)=>∃(u:Option V),σ=[u,jp tw]/\HH l=some (.lst (((as.take i).filter λa=>decide (a∈ws)).map V.int))/\Same H HH;refine DP (xs:=as.map V.int) J0 ⟨_,rq,Ad,Ae hl _⟩ (λi σ HH _ h=>?_) (λi x σ HH hx h=>?_) (fun σ HH h=>?_)
 ·obtain⟨u,rfl,e1,e2⟩:=h;exact SqT.of (e2 _ _ hta)
 ·obtain⟨u,rfl,e1,s2⟩:=h;rw[Qbc] at hx;obtain⟨a,ha,rfl⟩:=Qar.mp hx;have hi:=(Qae.mp ha).1;refine CW ⟨_,rq,_,rq,tw,_,rq,.inr (SqT.of (s2 _ _ htw)),rq,Pk ws,_,rq,?_⟩;show if inV (.int a) (ws.map V.int)=true then _ else _
  rw[Pg];have ts:=Qcp ha;by_cases e:a∈ws
  ·rw[QbM e];refine Av ⟨_,rq,_,e1,Ba (by rw[Qbw];exact Qcd (List.length_filter_le _ _) (by rw[Qbn];omega)),_,rq,?_,s2.CN Ah.upd hl⟩;rw[Ad,ts,QaW,Qbs,if_pos (QbM e),Qbx];rfl
  ·rw[Qby e];refine Bd ⟨_,rq,?_,s2⟩;rw[ts,QaW,Qbs,if_neg (by rw[Qby e];decide),List.filter_nil,QbE];exact e1
 obtain⟨u,rfl,e1,s1⟩:=h;rw[Qbw,Qbp] at e1;refine⟨l,_,rq,.inl (SqL.of e1),_,rq,_,_,rq,rq,?_⟩;rw[Qbw];exact q _ s1
theorem Qe (C:Code K mg "plain_holds" Jf EY) (T:Tc mg):Good P w K mg base "plain_holds" 1 EY Vh:=by
 refine C.good FP (λvs H Q E h=>?_) (λf cdv A outer s H vs Q E hr h=>?_)
 ·obtain⟨v,r,tk,ks,ws,h,past,now,rfl,_⟩:=h;rfl
 obtain⟨v,r,tk,ks,ws,h,past,now,rfl,hr',rd,htk,q⟩:=h;refine⟨_,(Af (Bm (Bh Cp (Al Az (pv 0) Ab (λ_ _=>rfl)) Bj (Bc _)) (Ag (Aq (Cd GP (Al Az (pv 0) Ab (λ_ _=>rfl)) (pv 1) (by with_unfolding_all rfl)))) Bg)
 (Af (IV (pv 0) (JM rfl (Bu (Bb (i:=3) FP.nd rfl (Or.inl rfl)) (Bu (Bb (i:=4) FP.nd rfl (Or.inl rfl)) (Bu (Bb (i:=5) FP.nd rfl (Or.inl rfl)) DW)))))
 (Ag (Aq (Wi (Cd Cp (pv 4) (pv 5) (Bc _)) (Cj (Cd Nb (Ax Fe (Ax CK (pv 2) (pv 4)) Ab) (Ax Fe (Ax CK (pv 5) (pv 4)) Ab) (Bc _)))))))),?_⟩
 show let R0:TS:=_;let R1:TS:=Aw _ R0;let R2:TS:=_;Aw (BX _ R2 _) R1 _ _ _;intro R0 R1 R2;rcases hr' with⟨k,rfl⟩|⟨a,b,rfl⟩
 ·cases rd with
  | tup ht rs=>
  cases rs with
  | cons r1 rs=>
  cases rs with
  | cons r2 rs=>
  cases rs;cases r1;cases r2;refine⟨_,rq,_,_,_,_,rq,rq,SqT.of ht,Aj (j:=0) rfl,rq,_,rq,ifS (λ_=>?_) (λz=>absurd rfl z)⟩;refine⟨_,rq,_,_,_,_,rq,rq,SqT.of ht,Aj (j:=1) rfl,_,rq,tk,_,rq,.inr (SqT.of htk),rq,Pk ks,?_⟩;show Q (.bl (inV (.int k) (ks.map V.int))) H;rw[Pg];exact q
 ·cases rd with
  | tup ht rs=>
  cases rs with
  | cons r1 rs=>
  cases rs with
  | cons r2 rs=>
  cases rs with
  | cons r3 rs=>
  cases rs;cases r1;cases r2;cases r3;refine⟨_,rq,_,_,_,_,rq,rq,SqT.of ht,Aj (j:=0) rfl,rq,_,rq,ifS (λz=>absurd z (by trivial)) (λ_=>?_)⟩;refine⟨_,rq,_,_,rq,SqT.of ht,rq,_,_,rq,_,_,rq,_,_,rq,rq,?_⟩;have q:Q (.bl (decide (a=b) || decide ((h - a) % 24 < (b - a) % 24))) H:=q;refine⟨_,rq,_,rq,rq,_,rq,ifN (λe=>?_) (λe=>?_)⟩
  ·rw[QbM e] at q;exact q
  ·rw[Qby e,Bool.false_or] at q;exact⟨_,rq,_,rq,_,_,rq,rq,_,_,rq,rq,(by show (0:Int) < 24;decide),_,rq,_,rq,_,_,rq,rq,_,_,rq,rq,(by show (0:Int) < 24;decide),_,_,rq,rq,q⟩
theorem Tn (C:Code K mg "row_holds" Il Gh) (T:Tc mg) (Uc:Good P w K mg base "are_warned" 1 Fy RZ) (Ru:Good P w K mg base "plain_holds" 1 EY Vh):Good P w K mg base "row_holds" 2 Gh Vk:=by
 refine C.good Fv (λvs H Q E h=>?_) (λf cdv A outer s H vs Q E hr h=>?_)
 ·obtain⟨v,r,m,ln,lp,tb,tw,tk,now,xs,past,ws,ks,h,rfl,_⟩:=h;rfl
 obtain⟨v,r,m,ln,lp,tb,tw,tk,now,xs,past,ws,ks,h,rfl,rd,ok,hln,Ib,hlp,bA,jG,l40,htb,htw,htk,q⟩:=h;refine⟨_,(@Af _ _ _ _ _ (IV (pv 3) (JM rfl (Bu (Bb (i:=4) Fv.nd rfl (Or.inl rfl)) (Bu (Bb (i:=5) Fv.nd rfl (Or.inl rfl)) (Bu (Bb (i:=6) Fv.nd rfl (Or.inl rfl)) DW)))))
 (@Af _ _ _ _ _ (@Bv _ _ 7 _ _ _ _ Fv.nd rfl (Or.inl rfl) (@Al _ _ _ _ _ _ _ Az (pv 0) Ab (λ_ _=>rfl)) (by rfl) (by first | exact .inl rfl | exact .inr rfl))
 (@Af _ _ _ _ _ (Bm (Bh Cp (pv 7) Bj (Bc _)) (@Ag _ _ _ (@Aq _ _ _ _ (Am Uc hr (Aa (@Al _ _ _ _ _ _ _ Az (pv 0) Ab (λ_ _=>rfl)) (Aa (@Al _ _ _ _ _ _ _ Az (pv 0) Ab (λ_ _=>rfl)) (Aa (pv 4) Ac)))))) Bg)
 (@Af _ _ _ _ _ (Bm (Bh Cp (pv 7) Bj (Bc _)) (@Ag _ _ _ (@Aq _ _ _ _ (O4 (@Al _ _ _ _ _ _ _ Bp (pv 1) (@Al _ _ _ _ _ _ _ Az (pv 0) Ab (λ_ _=>rfl)) (λ_ _=>rfl))))) Bg)
 (@Af _ _ _ _ _ (Bm (Bh Cp (pv 7) Bj (Bc _)) (@Ag _ _ _ (@Aq _ _ _ _ (BP (@Al _ _ _ _ _ _ _ Bp (pv 1) (@Al _ _ _ _ _ _ _ Az (pv 0) Ab (λ_ _=>rfl)) (λ_ _=>rfl)) (Cj (@Al _ _ _ _ _ _ _ Bp (pv 1) (@Al _ _ _ _ _ _ _ Az (pv 0) Ab (λ_ _=>rfl)) (λ_ _=>rfl)))))) Bg)
 (@Af _ _ _ _ _ (Bm (Bh Cp (pv 7) Bj (Bc _)) (@Ag _ _ _ (@Aq _ _ _ _ (Wi (@Al _ _ _ _ _ _ _ Bp (pv 1) (@Al _ _ _ _ _ _ _ Az (pv 0) Ab (λ_ _=>rfl)) (λ_ _=>rfl)) (Cj (@Al _ _ _ _ _ _ _ Bp (pv 1) (@Al _ _ _ _ _ _ _ Az (pv 0) Ab (λ_ _=>rfl)) (λ_ _=>rfl)))))) Bg)
 (@Af _ _ _ _ _ (Bm (Bh Cp (pv 7) Bj (Bc _)) (@Ag _ _ _ (@Aq _ _ _ _ (BP (@Al _ _ _ _ _ _ _ Bp (pv 1) (@Al _ _ _ _ _ _ _ Az (pv 0) Ab (λ_ _=>rfl)) (λ_ _=>rfl)) (Cj (Ar (au rfl) rfl T.any iM (Aa (CQ (N':=["held","row"]) rfl (Bx.of (src:=[none,some 0]) (Ak Il) xp rfl rfl rfl (by trivial) (by trivial) (by trivial) rfl (by trivial)) (KH (CT Kz (pv 2) (Dc (Lf Jx (@Al _ _ _ _ _ _ _ Az (pv 0) Ab (λ_ _=>rfl)))) Dw)) (λ_ _ _ _=>(Bb (i:=0) (show List.Nodup (["held","row"]:YF) by trivial) rfl (Or.inl rfl))) (λ_ _ _ _=>Ds) (λ_ _ _ _=>(@Al _ _ _ _ _ _ _ (JW (K:=K) rfl) (pv 0) (@Al _ _ _ _ _ _ _ (Qu (K:=K) rfl) (pv 1) Ab (λ_ _=>rfl)) (λ_ _=>rfl)))) Ac)))))) Bg)
 (@Ag _ _ _ (@Aq _ _ _ _ (Am Ru hr (Aa (pv 0) (Aa (pv 5) (Aa (pv 6) Ac))))))))))))),?_⟩
 show let R0:TS:=_;let R1:TS:=_;let R2:TS:=Aw (BX _ R1 _) R0;let R3:TS:=_;let R4:TS:=Aw (BX _ R3 _) R2;let R5:TS:=_;let R6:TS:=Aw (BX _ R5 _) R4;let R7:TS:=_;let R8:TS:=Aw (BX _ R7 _) R6;let R9:TS:=_;let R10:TS:=Aw (BX _ R9 _) R8;let R11:TS:=Aw _ R10;Aw _ R11 _ _ _;intro R0 R1 R2 R3 R4 R5 R6 R7 R8 R9 R10 R11;have q0:=q _ (Same.refl _);refine⟨_,rq,tb,_,rq,SqT.of htb,rq,_,_,rq,_,_,rq,_,_,rq,rq,?_⟩;subst Ib;cases r with
 | many n as=>
  have rd0:=rd;cases rd with
  | tup ht rs=>
  cases rs with
  | cons r1 rs=>
  cases rs with
  | cons r2 rs=>
  cases rs with
  | cons r3 rs=>
  cases rs;cases r1;cases r2;cases r3 with
  | tup ha ra=>
  have ea:=Iz ra;subst ea;refine⟨_,rq,_,_,_,_,rq,rq,SqT.of ht,Aj (j:=0) rfl,?_⟩;refine⟨_,rq,rq,_,rq,ifS (λ_=>?_) (λz=>absurd rfl z)⟩;exact⟨_,rq,_,_,_,_,rq,rq,SqT.of ht,Aj (j:=1) rfl,_,rq,_,_,_,_,rq,rq,SqT.of ht,Aj (j:=2) rfl,_,rq,_,_,_,as,ws,rq,ha,htw,by have:=ok.2.2.2.1;omega,q⟩
 | key k=>
  have rd0:=rd;cases rd with
  | tup ht rs=>
  cases rs with
  | cons r1 rs=>
  cases rs with
  | cons r2 rs=>
  cases rs;cases r1;cases r2;refine⟨_,rq,_,_,_,_,rq,rq,SqT.of ht,Aj (j:=0) rfl,?_⟩;refine⟨_,rq,rq,_,rq,ifS (λz=>absurd z (by trivial)) (λ_=>?_)⟩;refine⟨_,rq,rq,_,rq,ifS (λz=>absurd z (by trivial)) (λ_=>?_)⟩;refine⟨_,rq,rq,_,rq,ifS (λz=>absurd z (by trivial)) (λ_=>?_)⟩;refine⟨_,rq,rq,_,rq,ifS (λz=>absurd z (by trivial)) (λ_=>?_)⟩;refine⟨_,rq,rq,_,rq,ifS (λz=>absurd z (by trivial)) (λ_=>?_)⟩;exact⟨_,rq,_,rq,_,rq,_,.key k,tk,ks,ws,h,past,now,rq,.inl ⟨k,rq⟩,rd0,htk,q0⟩
 | hours a b=>
  have rd0:=rd;cases rd with
  | tup ht rs=>
  cases rs with
  | cons r1 rs=>
  cases rs with
  | cons r2 rs=>
  cases rs with
  | cons r3 rs=>
  cases rs;cases r1;cases r2;cases r3;refine⟨_,rq,_,_,_,_,rq,rq,SqT.of ht,Aj (j:=0) rfl,?_⟩;refine⟨_,rq,rq,_,rq,ifS (λz=>absurd z (by trivial)) (λ_=>?_)⟩;refine⟨_,rq,rq,_,rq,ifS (λz=>absurd z (by trivial)) (λ_=>?_)⟩;refine⟨_,rq,rq,_,rq,ifS (λz=>absurd z (by trivial)) (λ_=>?_)⟩;refine⟨_,rq,rq,_,rq,ifS (λz=>absurd z (by trivial)) (λ_=>?_)⟩;refine⟨_,rq,rq,_,rq,ifS (λz=>absurd z (by trivial)) (λ_=>?_)⟩;exact⟨_,rq,_,rq,_,rq,_,.hours a b,tk,ks,ws,h,past,now,rq,.inr ⟨a,b,rq⟩,rd0,htk,q0⟩
 | neg i=>
  cases rd with
  | tup ht rs=>
  cases rs with
  | cons r1 rs=>
  cases rs with
  | cons r2 rs=>
  cases rs;cases r1;cases r2;refine⟨_,rq,_,_,_,_,rq,rq,SqT.of ht,Aj (j:=0) rfl,?_⟩;refine⟨_,rq,rq,_,rq,ifS (λz=>absurd z (by trivial)) (λ_=>?_)⟩;refine⟨_,rq,rq,_,rq,ifS (λ_=>?_) (λz=>absurd rfl z)⟩;exact⟨_,rq,_,rq,_,_,_,_,rq,rq,SqT.of ht,Aj (j:=1) rfl,ln,_,_,_,rq,rq,SqL.of hln,Ed ok,_,rq,q0⟩
 | both i j=>
  cases rd with
  | tup ht rs=>
  cases rs with
  | cons r1 rs=>
  cases rs with
  | cons r2 rs=>
  cases rs with
  | cons r3 rs=>
  cases rs;cases r1;cases r2;cases r3;refine⟨_,rq,_,_,_,_,rq,rq,SqT.of ht,Aj (j:=0) rfl,?_⟩;refine⟨_,rq,rq,_,rq,ifS (λz=>absurd z (by trivial)) (λ_=>?_)⟩;refine⟨_,rq,rq,_,rq,ifS (λz=>absurd z (by trivial)) (λ_=>?_)⟩;refine⟨_,rq,rq,_,rq,ifS (λ_=>?_) (λz=>absurd rfl z)⟩;refine⟨_,rq,_,rq,_,_,_,_,rq,rq,SqT.of ht,Aj (j:=1) rfl,ln,_,_,_,rq,rq,SqL.of hln,Ed ok.1,_,rq,?_⟩;have q0:Q (.bl (now.getD i false&&now.getD j false)) H:=q0;cases e:now.getD i false with
  | false=>rw[e] at q0;exact Bd q0
  | true=>
   rw[e,QbT] at q0;exact Av ⟨_,rq,_,rq,_,_,_,_,rq,rq,SqT.of ht,Aj (j:=2) rfl,ln,_,_,_,rq,rq,SqL.of hln,Ed ok.2,q0⟩
 | any i j=>
  cases rd with
  | tup ht rs=>
  cases rs with
  | cons r1 rs=>
  cases rs with
  | cons r2 rs=>
  cases rs with
  | cons r3 rs=>
  cases rs;cases r1;cases r2;cases r3;refine⟨_,rq,_,_,_,_,rq,rq,SqT.of ht,Aj (j:=0) rfl,?_⟩;refine⟨_,rq,rq,_,rq,ifS (λz=>absurd z (by trivial)) (λ_=>?_)⟩;refine⟨_,rq,rq,_,rq,ifS (λz=>absurd z (by trivial)) (λ_=>?_)⟩;refine⟨_,rq,rq,_,rq,ifS (λz=>absurd z (by trivial)) (λ_=>?_)⟩;refine⟨_,rq,rq,_,rq,ifS (λ_=>?_) (λz=>absurd rfl z)⟩;refine⟨_,rq,_,rq,_,_,_,_,rq,rq,SqT.of ht,Aj (j:=1) rfl,ln,_,_,_,rq,rq,SqL.of hln,Ed ok.1,_,rq,?_⟩;have q0:Q (.bl (now.getD i false || now.getD j false)) H:=q0;cases e:now.getD i false with
  | true=>rw[e] at q0;exact Av q0
  | false=>
   rw[e,Bool.false_or] at q0;exact Bd ⟨_,rq,_,rq,_,_,_,_,rq,rq,SqT.of ht,Aj (j:=2) rfl,ln,_,_,_,rq,rq,SqL.of hln,Ed ok.2,q0⟩
 | thn i j n=>
  obtain⟨tt,rfl⟩ : ∃tt,v=.ref tt:=by cases rd;exact⟨_,rfl⟩
  cases rd with
  | tup ht rs=>
  cases rs with
  | cons r1 rs=>
  cases rs with
  | cons r2 rs=>
  cases rs with
  | cons r3 rs=>
  cases rs with
  | cons r4 rs=>
  cases rs;cases r1;cases r2;cases r3;cases r4;obtain⟨o1,o2,o3,o4⟩ : i < now.length/\j < now.length/\1<=n/\n<=20:=ok;refine⟨_,rq,_,_,_,_,rq,rq,SqT.of ht,Aj (j:=0) rfl,?_⟩;refine⟨_,rq,rq,_,rq,ifS (λz=>absurd z (by trivial)) (λ_=>?_)⟩;refine⟨_,rq,rq,_,rq,ifS (λz=>absurd z (by trivial)) (λ_=>?_)⟩;refine⟨_,rq,rq,_,rq,ifS (λz=>absurd z (by trivial)) (λ_=>?_)⟩;refine⟨_,rq,rq,_,rq,ifS (λz=>absurd z (by trivial)) (λ_=>?_)⟩;refine⟨_,rq,rq,_,rq,ifS (λ_=>?_) (λz=>absurd rfl z)⟩;refine⟨_,rq,_,rq,_,_,_,_,rq,rq,SqT.of ht,Aj (j:=2) rfl,ln,_,_,_,rq,rq,SqL.of hln,Ed o2,_,rq,?_⟩;have q:∀H',Same H H'->Q (.bl (now.getD j false&&(past.drop (past.length - n)).any λg=>g.getD i false)) H':=q;cases e:now.getD j false with
  | false=>rw[e] at q;exact Bd (q _ (Same.refl _))
  | true=>
  rw[e,QbT] at q;refine Av ⟨_,rq,_,rq,_,_,_,_,rq,rq,SqT.of ht,Aj (j:=3) rfl,_,rq,_,rq,lp,_,rq,SqL.of hlp,λlc hlc=>?_⟩;rw[Ul o3];have sc:=Ae hlc (.lst (xs.drop (xs.length - n)));have cc:upd H lc (.lst (xs.drop (xs.length - n))) lc=some (.lst (xs.drop (xs.length - n))):=Ad;have pl:Paired (HeldAt H) (xs.drop (xs.length - n)) (past.drop (past.length - n)):=by rw[QbX bA];exact Paired.RN _ bA
  have lg:∀g∈past.drop (past.length - n),i < g.length:=λg hg=>QaP o1 (jG g (QaD hg));have ll:(past.drop (past.length - n)).length<=40:=by rw[Qbq];omega
  generalize upd H lc (.lst (xs.drop (xs.length - n)))=H1 at *;generalize xs.drop (xs.length - n)=ys at *;generalize past.drop (past.length - n)=ps at *;have ly:=QbX pl;refine⟨lc,rq,⟨_,SqL.of cc⟩,λl hl=>?_⟩;let J1:YN:=λ(k:Nat) (σ : St) (HH:Hp)=>∃(u:Option V),σ=[u,jp tt]/\HH l=some (.lst (((ps.take k).map λg=>g.getD i false).map V.bl))/\Same H1 HH;refine MJ (xs:=ys) J1 ⟨_,rq,Ad,Ae hl _⟩ (λk σ HH _ h=>?_) (λk x σ HH hx h=>?_) (fun σ HH h=>?_)
  ·obtain⟨u,rfl,e1,e2⟩:=h;exact SqL.of (e2 _ _ cc)
  ·obtain⟨u,rfl,e1,s2⟩:=h;obtain⟨g,hg,a,rfl,ha⟩:=RK pl hx;have hk:=(Qae.mp hg).1;refine CW (Av ⟨_,rq,_,rq,_,_,_,_,rq,rq,SqT.of (s2 _ _ (sc _ _ ht)),Aj (j:=1) rfl,a,_,_,_,rq,rq,SqL.of (s2 _ _ (sc _ _ ha)),Ed (lg g (Qay hg)),_,e1,Ba (by rw[Qbw,Qbw,Qbn];omega),_,rq,?_,s2.CN Ah.upd hl⟩);rw[Ad,Qcp hg,Qbx,Qbx];rfl
  obtain⟨u,rfl,e1,s2⟩:=h;rw[ly,Qbp] at e1;refine⟨l,_,rq,SqL.of e1,?_⟩;have:((ps.map λg=>g.getD i false).any id)=ps.any λg=>g.getD i false:=by rw[List.any_map];rfl
  rw[this];exact q _ (sc.trans s2)
end
def hid (b:Addr) (H:Hp):Hp:=λa=>if a=b then none else H a
theorem Yx {b a:Addr} {H:Hp} (n:a≠b):hid b H a=H a:=if_neg n
theorem Vp {b a:Addr} {H:Hp} {o:HO} (h:hid b H a=some o):a≠b/\H a=some o:=by
 unfold hid at h;by_cases e:a=b
 ·rw[if_pos e] at h;cases h
 ·rw[if_neg e] at h;exact⟨e,h⟩
theorem Dj {b:Addr} {H H':Hp} (s:Ah b H H'):Same (hid b H) (hid b H'):=λa o e=>by
 obtain⟨n,h⟩:=Vp e;rw[Yx n];exact s _ _ h n
theorem En {b:Addr} {H:Hp}:Same (hid b H) H:=λa o e=>(Vp e).2
theorem Nh {b a:Addr} {H:Hp} {o:HO} (n:a≠b) (h:H a=some o):hid b H a=some o:=by rw[Yx n];exact h
def Gx:PyData->Bool
 | .int _=>true
 | _=>false
def Og:V->Bool
 | .int _=>true
 | _=>false
mutual
def Di (w:Nat):PyData->Bool
 | .tuple ds=>decide (ds.length<=400+w)&&(decide (ds.countP Gx<=w)&&DX w ds)
 | .list ds=>decide (ds.length<=400+w)&&DX w ds
 | .str z=>decide (z.length<=w)&&z.cps.toList.all λc=>decide (c < 128)
 | .int i=>decide (i.natAbs < 10 ^ w)
 | _=>true
def DX (w:Nat):List PyData->Bool
 | []=>true
 | x::r=>Di w x&&DX w r
end
theorem Ip (w:Nat):∀ds:List PyData,DX w ds=true ↔ ∀x∈ds,Di w x=true
 | []=>⟨(λ_ x h=>by cases h),λ_=>by simp only[DX]⟩
 | a::r=>by
  simp only[DX];rw[Qbm,Ip w r];exact⟨λh x hx=>by
   rcases QbS.mp hx with rfl | hx
   ·exact h.1
   ·exact h.2 x hx,λh=>⟨h a (QaN ..),λx hx=>h x (Qaz _ hx)⟩⟩
mutual
theorem Ms {w w':Nat} (l:w<=w'):∀d:PyData,Di w d=true->Di w' d=true
 | .tuple ds,h=>by
  simp only[Di,Qbm] at h ⊢;exact⟨QbM (Qcd (Qbb h.1) (Nat.add_le_add_left l _)),QbM (Qcd (Qbb h.2.1) l),JV l ds h.2.2⟩
 | .list ds,h=>by
  simp only[Di,Qbm] at h ⊢;exact⟨QbM (Qcd (Qbb h.1) (Nat.add_le_add_left l _)),JV l ds h.2⟩
 | .str z,h=>by
  simp only[Di,Qbm] at h ⊢;exact⟨QbM (Qcd (Qbb h.1) l),h.2⟩
 | .none,_=>by simp only[Di]
 | .bool _,_=>by simp only[Di]
 | .int i,h=>by
  simp only[Di] at h ⊢;exact QbM (QaP (Qbb h) (Nat.pow_le_pow_right (by decide) l))
 | .dict _,_=>by simp only[Di]
theorem JV {w w':Nat} (l:w<=w'):∀ds:List PyData,DX w ds=true->DX w' ds=true
 | [],_=>by simp only[DX]
 | x::r,h=>by
  simp only[DX,Qbm] at h ⊢;exact⟨Ms l x h.1,JV l r h.2⟩
end
mutual
theorem QW:∀d:PyData,Di 500 d=true->wide d=true
 | .tuple ds,h=>by
  simp only[Di,wide,Qbm] at h ⊢;exact⟨h.1,JT ds h.2.2⟩
 | .list ds,h=>by
  simp only[Di,wide,Qbm] at h ⊢;exact⟨h.1,JT ds h.2⟩
 | .str z,h=>by
  simp only[Di,wide,Qbm] at h ⊢;exact⟨QbM (Qcd (Qbb h.1) (by decide)),h.2⟩
 | .none,_=>by simp only[wide]
 | .bool _,_=>by simp only[wide]
 | .int _,_=>by simp only[wide]
 | .dict _,_=>by simp only[wide]
theorem JT:∀ds:List PyData,DX 500 ds=true->Ef ds=true
 | [],_=>by simp only[Ef]
 | x::r,h=>by
  simp only[DX,Ef,Qbm] at h ⊢;exact⟨QW x h.1,JT r h.2⟩
end
structure Sl (w k:Nat) (d:PyData):Prop where
 lay:d.canLay0=true
 dep:d.depth<=k
 nar:Di w d=true
theorem Sl.fit {w k:Nat} {d:PyData} (h:Sl w k d) (hw:w<=500):Fit k d:=⟨h.lay,h.dep,QW d (Ms hw d h.nar)⟩
theorem Sl.mono {w w' k k':Nat} {d:PyData} (h:Sl w k d) (hw:w<=w') (hk:k<=k'):Sl w' k' d:=⟨h.lay,Qcd h.dep hk,Ms hw d h.nar⟩
theorem TX:∀{ds:List PyData},(∀x∈ds,x.canLay0=true)->PyData.canLayAll0 ds=true
 | [],_=>rfl
 | a::r,h=>by
  show (a.canLay0&&PyData.canLayAll0 r)=true;rw[h a (QaN ..),TX λx hx=>h x (Qaz _ hx)];rfl
theorem Uk:∀{ds:List PyData} {n:Nat},(∀x∈ds,x.depth<=n)->PyData.depthAll ds<=n
 | [],_,_=>Qci _
 | a::r,n,h=>by
  show max a.depth (PyData.depthAll r)<=n;exact Nat.max_le.mpr ⟨h a (QaN ..),Uk λx hx=>h x (Qaz _ hx)⟩
theorem Sl.tup {w k:Nat} {ds:List PyData} (h:∀x∈ds,Sl w k x) (l:ds.length<=400+w) (c:ds.countP Gx<=w):Sl w (k+1) (.tuple ds):=by
 refine⟨TX λx hx=>(h x hx).lay,Nat.succ_le_succ (Uk λx hx=>(h x hx).dep),?_⟩;simp only[Di,Qbm];exact⟨QbM l,QbM c,(Ip w ds).mpr λx hx=>(h x hx).nar⟩
theorem Sl.lst {w k:Nat} {ds:List PyData} (h:∀x∈ds,Sl w k x) (l:ds.length<=400+w):Sl w (k+1) (.list ds):=by
 refine⟨TX λx hx=>(h x hx).lay,Nat.succ_le_succ (Uk λx hx=>(h x hx).dep),?_⟩;simp only[Di,Qbm];exact⟨QbM l,(Ip w ds).mpr λx hx=>(h x hx).nar⟩
theorem Sl.item {w k:Nat} {ds:List PyData} (h:Sl w (k+1) (.tuple ds)) {x:PyData} (hx:x∈ds):Sl w k x:=by
 have h1:PyData.canLayAll0 ds=true:=h.lay;have h2:PyData.depthAll ds+1<=k+1:=h.dep;have h3:=h.nar;simp only[Di,Qbm] at h3;exact⟨Qo h1 x hx,QC (by omega) x hx,(Ip w ds).mp h3.2.2 x hx⟩
theorem Sl.len {w k:Nat} {ds:List PyData} (h:Sl w k (.tuple ds)):ds.length<=400+w:=by
 have h3:=h.nar;simp only[Di,Qbm] at h3;exact Qbb h3.1
theorem Sl.few {w k:Nat} {ds:List PyData} (h:Sl w k (.tuple ds)):ds.countP Gx<=w:=by
 have h3:=h.nar;simp only[Di,Qbm] at h3;exact Qbb h3.2.1
theorem bW {H:Hp} {v:V} {d:PyData} (r:Rep H v d):Og v=Gx d:=by cases r <;> rfl
theorem N6 {H:Hp}:∀{xs:YG} {ds:List PyData},Ai H xs ds->xs.countP Og=ds.countP Gx
 | _,_,.nil=>rfl
 | _,_,.cons a r=>by rw[List.countP_cons,List.countP_cons,N6 r,bW a]
theorem Vw (xs:YG) (lo hi:Option Int):(CZ xs lo hi).countP Og<=xs.countP Og:=by
 unfold CZ;exact ((List.take_sublist _ _).trans (List.drop_sublist _ _)).countP_le
theorem Ai.mk {H:Hp}:∀{xs:YG} {ds:List PyData},Paired (Rep H) xs ds->Ai H xs ds
 | _,_,.nil=>.nil
 | _,_,.cons a r=>.cons a (Ai.mk r)
theorem Cu {α : Type} {P:α->Prop} {a:α} {r:List α} (h:P a) (t:∀x∈r,P x):∀x∈a::r,P x:=List.forall_mem_cons.mpr ⟨h,t⟩
theorem eX (w k:Nat):Sl w k .none:=⟨rfl,Qci _,by simp only[Di]⟩
theorem ju (w k:Nat) (b:Bool):Sl w k (.bool b):=⟨rfl,Qci _,by simp only[Di]⟩
theorem Sw {w k:Nat} {i:Int} (h:i.natAbs < 10 ^ w):Sl w k (.int i):=⟨rfl,Qci _,by simp only[Di];exact QbM h⟩
theorem je:1000000<=10 ^ 30:=by decide
theorem eY {k:Nat} {i:Int} (h:i.natAbs < 1000000):Sl 30 k (.int i):=Sw (QaP h je)
theorem Mj {w k:Nat} {z:Str} (h2:z.length<=w) (h3:∀c∈z.cps.toList,c < 128):Sl w k (.str z):=by
 refine⟨?_,Qci _,?_⟩
 ·show PyData.strOk z=true;unfold PyData.strOk;rw[Array.all_eq_true'];exact λc hc=>QbM (Nat.lt_trans (h3 c (Array.mem_toList_iff.mpr hc)) (by decide))
 ·simp only[Di,Qbm];exact⟨QbM h2,Qbu.mpr λc hc=>QbM (h3 c hc)⟩
theorem Sl.Wa {w k:Nat} {z:Str} (h:Sl w k (.str z)):z.length<=w/\∀c∈z.cps.toList,c < 128:=by
 have h3:=h.nar;simp only[Di,Qbm] at h3;exact⟨Qbb h3.1,λc hc=>Qbb (Qbu.mp h3.2 c hc)⟩
theorem Sl.ints {w k:Nat} {i:Int} (h:Sl w k (.int i)):i.natAbs < 10 ^ w:=by
 have h3:=h.nar;simp only[Di] at h3;exact Qbb h3
def W5 (z:Str):Bool:=decide (z.length<=30)&&z.cps.toList.all λc=>decide (c < 128)
theorem XF {k:Nat} {z:Str} (h:W5 z=true):Sl 30 k (.str z):=by
 unfold W5 at h;rw[Qbm] at h;exact Mj (Qbb h.1) λc hc=>Qbb (Qbu.mp h.2 c hc)
theorem Z5 {b:Addr} {H:Hp} {n:Nat} (hb:Bt H b n):BJ H (hid b H):=λa xs h=>Nh (λe=>hb.Ho xs (by rw[<-e];exact h)) h
theorem PL {H:Hp} {w k:Nat}:∀{ys:YG},(∀y∈ys,∃d,Rep H y d/\Sl w k d)->∃ds,Ai H ys ds/\(∀x∈ds,Sl w k x)/\ds.length=ys.length
 | [],_=>⟨[],.nil,QaH _,rfl⟩
 | y::r,h=>by
  obtain⟨d,h1,h2⟩:=h y (QaN ..);obtain⟨ds,h3,h4,h5⟩:=PL λz hz=>h z (Qaz _ hz);exact⟨d::ds,.cons h1 h3,Cu h2 h4,by rw[Qbo,Qbo,h5]⟩
theorem NK {I R:TS} {D:Ends} {σ : St} {H:Hp} (P:YO) (hR:∀ σ' H',P σ' H'->R D σ' H') (hI:(∀ σ' H',P σ' H'->R D σ' H')->I { D with nx:=fun σ H=>R D σ H } σ H):Aw I R D σ H:=hI hR
def onl (H:Hp):Hp:=λa=>match H a with
 | some (.tup xs)=>some (.tup xs)
 | _=>none
theorem Dp {H:Hp} {a:Addr} {xs:YG} (h:H a=some (.tup xs)):onl H a=some (.tup xs):=by unfold onl;rw[h]
theorem Qd {H:Hp} {a:Addr} {o:HO} (h:onl H a=some o):∃xs,o=.tup xs/\H a=some (.tup xs):=by
 unfold onl at h;split at h
 ·rename_i xs e;cases h;exact⟨xs,rq,e⟩
 ·cases h
theorem Dh {H H':Hp} (s:BJ H H'):Same (onl H) (onl H'):=λa o e=>by
 obtain⟨xs,rfl,h⟩:=Qd e;exact Dp (s _ _ h)
theorem cT {H:Hp} {b:Addr} {n:Nat} (hb:Bt H b n):Same (onl H) (hid b H):=λa o e=>by
 obtain⟨xs,rfl,h⟩:=Qd e;exact Z5 hb _ _ h
abbrev Ge:Stmt:=(inClass (top 19) 0)
abbrev Dt:YF:=["self","table"]
theorem Mp:Bq ["self","table"] Dt (Ak Ge):=by ac_rfl
abbrev Gs:Stmt:=(inClass (top 19) 1)
abbrev Fd:YF:=["self","warned","turned","hour"]
abbrev xq:YF:=["self","warned","turned","hour","rows","outs","now","row"]
theorem Ei:Bq xq Fd (Ak Gs):=by ac_rfl
structure Tx (K:YD) (mg:YB) (C:Addr):Prop extends Tc mg where
 cl:Cls K C
 mgC:mg "Runner"=some (.ref C)
 Qh:Jd K C "table"
 Mt:Jd K C "past"
def fr (t p:Addr):List (Str×V):=[("table",.ref t),("past",.ref p)]
theorem WW (t p:Addr):((fr t p).map (·.1)).Nodup:=by show (["table","past"]:YF).Nodup;decide +kernel
theorem YK (t p:Addr):List.lookup ("table":Str) (fr t p)=some (V.ref t):=Ui (i:=0) (WW t p) rfl
theorem T9 (t p:Addr):List.lookup ("past":Str) (fr t p)=some (V.ref p):=Ui (i:=1) (WW t p) rfl
theorem Zm (t p q:Addr):DR "past" (.ref q) (fr t p)=fr t q:=YS (i:=1) (WW t p) rfl
theorem jX {t p:Addr} {f:Str} (h:f∉(["table","past"]:YF)):List.lookup f (fr t p)=none:=bF h
def DN (ws ks:List Int) (h:Int) (past:List (List Bool)) (rows:List Rw):List Bool:=rows.foldl (λnow r=>now++[Hq ws ks h past now r]) []
theorem Lj {ws ks:List Int} {h:Int} {past:List (List Bool)} {rows:List Rw} {i:Nat} {r:Rw} (e:rows[i]?=some r):DN ws ks h past (rows.take (i+1))=DN ws ks h past (rows.take i)++[Hq ws ks h past (DN ws ks h past (rows.take i)) r]:=by
 unfold DN;rw[Qcp e,List.foldl_append];rfl
theorem Nf (ws ks:List Int) (h:Int) (past:List (List Bool)) (rows:List Rw):(DN ws ks h past rows).length=rows.length:=by
 have key:∀(rs:List Rw) (acc:List Bool),(rs.foldl (λnow r=>now++[Hq ws ks h past now r]) acc).length=acc.length+rs.length:=by
  intro rs
  induction rs with
  | nil=>intro acc;rfl
  | cons r t ih=>intro acc;rw[List.foldl_cons,ih,QaM,Qbo,Qbo,List.length_nil];omega
 have:=key rows [];rw[List.length_nil] at this;unfold DN;omega
def Ey (past:List (List Bool)):List (List Bool):=past.drop (past.length - 20)
theorem Z2 {ws ks:List Int} {h:Int} {past:List (List Bool)} {now:List Bool} {r:Rw} {m:Nat} (ok:r.ok m):Hq ws ks h (Ey past) now r=Hq ws ks h past now r:=by
 cases r with
 | thn i j n=>
  have e:(Ey past).drop ((Ey past).length - n)=past.drop (past.length - n):=by
   have h4:n<=20:=ok.2.2.2;unfold Ey;rw[List.drop_drop,Qbq];congr 1;omega
  show (now.getD j false&&((Ey past).drop ((Ey past).length - n)).any _)=(now.getD j false&&(past.drop (past.length - n)).any _);rw[e]
 | _=>rfl
def OkR (rows:List Rw):Prop:=∀(i:Nat) (r:Rw),rows[i]?=some r->r.ok i
theorem Vn {ws ks:List Int} {h:Int} {past:List (List Bool)} {rows:List Rw} (ok:OkR rows):∀i,i<=rows.length->DN ws ks h (Ey past) (rows.take i)=DN ws ks h past (rows.take i)
 | 0,_=>by rw[List.take_zero];rfl
 | i+1,hi=>by
  have e:rows[i]?=some rows[i]:=Qaj (by omega);rw[Lj e,Lj e,Vn ok i (by omega),Z2 (ok i _ e)]
def JX (outs:List (Int×Nat)) (now:List Bool):List Int:=(outs.filter λo=>now.getD o.2 false).map (·.1)
def outD (o:Int×Nat):PyData:=.tuple [.int o.1,.int (o.2:Int)]
structure Ls (rows:List Rw) (outs:List (Int×Nat)):Prop where
 ok:OkR rows
 N7:rows.length<=320
 o16:outs.length<=16
 io:∀o∈outs,1<=o.1/\o.1<=99/\o.2 < rows.length
 up:Fq (outs.map (·.1))=true
def Ka (H:Hp) (t:Addr) (rows:List Rw) (outs:List (Int×Nat)):Prop:=∃tr to xr xo,H t=some (.tup [.ref tr,.ref to])/\H tr=some (.tup xr)/\H to=some (.tup xo)/\Ai (onl H) xr (rows.map Rw.data)/\Ai (onl H) xo (outs.map outD)
theorem HS {H:Hp}:Same (onl H) H:=λa o e=>by
 obtain⟨xs,rfl,h⟩:=Qd e;exact h
theorem Ka.tups {H H':Hp} {t:Addr} {rows:List Rw} {outs:List (Int×Nat)} (h:Ka H t rows outs) (s:BJ H H'):Ka H' t rows outs:=by
 obtain⟨tr,to,xr,xo,h1,h2,h3,h4,h5⟩:=h;exact⟨tr,to,xr,xo,s _ _ h1,s _ _ h2,s _ _ h3,Ai.same (Dh s) h4,Ai.same (Dh s) h5⟩
def QJ (H:Hp) (t:Addr) (ws ks:List Int) (h:Int):Prop:=∃tw tk,H t=some (.tup [.ref tw,.ref tk,.int h])/\H tw=some (.tup (ws.map V.int))/\H tk=some (.tup (ks.map V.int))
theorem QJ.tups {H H':Hp} {t:Addr} {ws ks:List Int} {h:Int} (b:QJ H t ws ks h) (s:BJ H H'):QJ H' t ws ks h:=by
 obtain⟨tw,tk,h1,h2,h3⟩:=b;exact⟨tw,tk,s _ _ h1,s _ _ h2,s _ _ h3⟩
def HB (M:List Addr) (H:Hp) (v:V) (g:List Bool):Prop:=∃a,v=.ref a/\a∉M/\H a=some (.lst (g.map V.bl))
def Ck (M:List Addr) (H H':Hp):Prop:=∀c o,H c=some o->c∉M->H' c=some o
theorem Ck.of {M:List Addr} {H H':Hp} (s:Same H H'):Ck M H H':=λc o e _=>s c o e
theorem Ck.ofB {M:List Addr} {b:Addr} {H H':Hp} (s:Ah b H H') (h:b∈M):Ck M H H':=λc o e n=>s c o e (λz=>n (z ▸ h))
theorem Ck.trans {M:List Addr} {H H' H2:Hp} (s:Ck M H H') (s':Ck M H' H2):Ck M H H2:=λc o e n=>s' c o (s c o e n) n
theorem HB.RG {M:List Addr} {H H':Hp} {v:V} {g:List Bool} (h:HB M H v g) (s:Ck M H H'):HB M H' v g:=by
 obtain⟨a,rfl,n,e⟩:=h;exact⟨a,rq,n,s _ _ e n⟩
theorem HB.held {M:List Addr} {H:Hp} {v:V} {g:List Bool} (h:HB M H v g):HeldAt H v g:=by
 obtain⟨a,rfl,_,e⟩:=h;exact⟨a,rq,e⟩
theorem pmap {α β : Type} {F G:α->β->Prop} (f:∀a b,F a b->G a b):∀{l:List α} {r:List β},Paired F l r->Paired G l r
 | _,_,.nil=>.nil
 | _,_,.cons h t=>.cons (f _ _ h) (pmap f t)
theorem Tg {α β : Type} {F:α->β->Prop}:∀{a₁ b₁ : List α} {a₂ b₂ : List β},Paired F a₁ a₂->Paired F b₁ b₂->Paired F (a₁++b₁) (a₂++b₂)
 | _,_,_,_,.nil,t=>t
 | _,_,_,_,.cons r s,t=>.cons r (Tg s t)
def Hs (C:Addr) (M:List Addr) (H:Hp) (p t:Addr) (past:List (List Bool)):Prop:=∃dx pl xs,H p=some (.ins C dx (fr t pl))/\pl∉M/\H pl=some (.lst xs)/\Paired (HB M H) xs (Ey past)
theorem Hs.other {C:Addr} {M:List Addr} {H H':Hp} {p t:Addr} {past:List (List Bool)} (h:Hs C M H p t past) (s:Ck M H H') (sp:∀o,H p=some o->H' p=some o):Hs C M H' p t past:=by
 obtain⟨dx,pl,xs,h1,h2,h3,h4⟩:=h;exact⟨dx,pl,xs,sp _ h1,h2,s _ _ h3 h2,pmap (λ_ _ z=>z.RG s) h4⟩
def XC (C:Addr):Sp:=λvs H Q _=>∃p dx t,vs=[.ref p,.ref t]/\H p=some (.ins C dx [])/\∀pl H',H pl=none->H' p=some (.ins C dx (fr t pl))->H' pl=some (.lst [])->Ah p H H'->Q .non H'
def XD (C:Addr):Sp:=λvs H Q _=>∃(M:List Addr) (p t tw tk:Addr) (ws ks:List Int) (h:Int) (rows:List Rw) (outs:List (Int×Nat)) (past:List (List Bool)),vs=[.ref p,.ref tw,.ref tk,.int h]/\p∈M/\(∀c∈M,H c≠none)/\Hs C M H p t past/\Ka H t rows outs/\Ls rows outs/\H tw=some (.tup (ws.map V.int))/\H tk=some (.tup (ks.map V.int))/\(∀g∈past,rows.length<=g.length) /\
 ∀r H',H' r=some (.tup ((JX outs (DN ws ks h past rows)).map V.int))->Hs C M H' p t (past++[DN ws ks h past rows])->Ah p H H'->Q (.ref r) H'
theorem Vv (past:List (List Bool)):(Ey past).length<=20:=by unfold Ey;rw[Qbq];omega
theorem dH (past:List (List Bool)) (g:List Bool):(Ey past++[g]).drop ((Ey past++[g]).length - 20)=Ey (past++[g]):=by
 unfold Ey;rw[QaM,QaM,Qbq,Qax];by_cases h:past.length < 20
 ·rw[show past.length - 20=0 by omega,List.drop_zero,show past.length - 0+1 - 20=past.length+1 - 20 by omega]
 ·rw[show past.length - (past.length - 20)+1 - 20=1 by omega];rw[List.drop_append_of_le_length (by rw[Qbq];omega),List.drop_drop,List.drop_append_of_le_length (by omega)];congr 2;omega
section
variable {P:Program} {w:World} {K:YD} {mg:YB} {base:Heap} {C:Addr}
theorem cV (F:∃f fd,Fun K "__init__" "Runner.__init__" Ge f fd/\Mk K C f/\Binds K fd Dt []) (T:Tx K mg C):Xb P w K mg base C 1 Dt (XC C):=by
 obtain⟨f,fd,F,Mk,b⟩:=F;refine⟨f,fd,Mk,b,F.ok Mp (λvs H Q E h=>?_) (λcdv A outer s H vs Q E hr h=>?_)⟩
 ·obtain⟨p,dx,t,rfl,_⟩:=h;rfl
 obtain⟨p,dx,t,rfl,hp,q⟩:=h;refine⟨_,(Af (PX (pv 0) (pv 1) rfl)
 (Ag (PX (pv 0) (BK Ac) rfl))),?_⟩
 refine⟨_,rq,_,rq,p,C,dx,_,_,rq,hp,T.cl,T.Qh,(by show 0 < 1000;decide),Uh (by show _∉([]:YF);decide +kernel),λH1 h1 s1=>?_⟩;refine⟨Ao (by show 0<=1000;decide),λL hL=>?_⟩;have s2:=Ae hL (.lst []);have c2:upd H1 L (.lst []) L=some (.lst []):=Ad;have h2:=s2 _ _ h1;have nL:p≠L:=Ay h1 hL;have fL:H L=none:=s1.free ⟨_,h1⟩ hL;generalize upd H1 L (.lst [])=H2 at *;refine⟨_,rq,p,C,dx,_,_,rq,h2,T.cl,T.Mt,(by show 1 < 1000;decide),Uh (by show _∉(["table"]:YF);decide +kernel),λH3 h3 s3=>?_⟩;exact q L H3 fL h3 (s3 _ _ c2 nL.symm) ((s1.trans (Ah.of s2)).trans s3)
abbrev xi:YF:=["address","number","now"]
theorem cW (c:RQ K C "beat" "Runner.beat" Gs Fd) (T:Tx K mg C) (U8:Good P w K mg base "row_holds" 2 Gh Vk):RP P w K mg base C "beat" 3 Fd (XD C):=by
 refine c.good Ei (λvs H Q E h=>?_) (λf cdv A outer s H vs Q E hr h=>?_)
 ·obtain⟨M,p,t,tw,tk,ws,ks,h,rows,outs,past,rfl,_⟩:=h;rfl
 obtain⟨M,p,t,tw,tk,ws,ks,h,rows,outs,past,rfl,pM,hM,R,TB,tok,htw,htk,hlen,q⟩:=h;refine⟨_,(Af (IV (Tf (pv 0) rfl) (JM rfl (Bu (Bb (i:=4) Ei.nd rfl (Or.inl rfl)) (Bu (Bb (i:=5) Ei.nd rfl (Or.inl rfl)) DW))))
 (Af (Bv (i:=6) Ei.nd rfl (Or.inr rfl) (BK Ac))
 (Af (IK QbF rfl (Ek (pv 4)) (Bb (i:=7) Ei.nd rfl (Or.inl rfl))
 (Ag (Ej (Hh Qan Qak Qal Dd (pv 6) (Aa (Am U8 hr (Aa (pv 7) (Aa (pv 6) (Aa (Tf (pv 0) rfl) (Aa (Bs (Aa (pv 1) (Aa (pv 2) (Aa (pv 3) Ac)))) Ac))))) Ac)))))
 (Af (PX (pv 0) (CT Kz (Ax fW (Tf (pv 0) rfl) (BK (Aa (pv 6) Ac))) (Dc (Lf Jx (O5 rfl T.MOST_AHEAD))) Dw) rfl)
 (Ag (Aq (Cq CP rfl T.tuple BZ (Aa (CQ (N':=xi) rfl (Bx.of (src:=[none,none,some 6]) (Ak Gs) xq rfl rfl rfl (by trivial) (by trivial) (by trivial) rfl (by trivial)) (Ek (pv 5)) (λ_ _ _ _=>(Ju (K:=K) (n:=2) rfl rfl (Bu (Bb (i:=0) (show List.Nodup (xi:YF) by trivial) rfl (Or.inl rfl)) (Bu (Bb (i:=1) (show List.Nodup (xi:YF) by trivial) rfl (Or.inl rfl)) DW)))) (λ_ _ _ _=>(KJ (QS (K:=K) rfl (Al (JW (K:=K) rfl) (pv 2) (pv 1) (λ_ _=>rfl)) (λ_=>rfl)))) (λ_ _ _ _=>(pv 0))) Ac)))))))),?_⟩
 show let R0:TS:=_;let R1:TS:=Aw _ R0;let R2:TS:=_;let R3:TS:=Aw (KZ _ _ R2) R1;let R4:TS:=Aw _ R3;Aw _ R4 _ _ _;intro R0 R1 R2 R3 R4;obtain⟨dx,pl,xs,ob,plM,hpl,hps⟩:=R;obtain⟨tr,to,xr,xo,ht,htr,hto,rsr,rso⟩:=TB;have iz:∀{H':Hp} {a:Addr},Same H H'->H' a=none->a∉M:=λs f z=>hM _ z (s.free f);have lxr:=Ai.len rsr;have lxo:=Ai.len rso;rw[Qbw] at lxr lxo;refine⟨_,rq,p,C,dx,_,_,rq,ob,T.cl,T.Qh,YK _ _,t,_,rq,SqT.of ht,rq,_,_,rq,_,_,rq,rq,?_⟩;refine⟨Ao (by show 0<=1000;decide),λln hln=>?_⟩;refine⟨_,rq,tr,rq,⟨_,SqT.of (Ae hln _ _ _ htr)⟩,?_⟩;have pt:∀xs,H p≠some (.tup xs):=λxs z=>by rw[ob] at z;cases z
 let J0:YN:=λi σ HH=>∃u7,σ=[jp p,jp tw,jp tk,some (.int h),jp tr,jp to,jp ln,u7]/\HH ln=some (.lst ((DN ws ks h (Ey past) (rows.take i)).map V.bl))/\Same H HH;refine Qy (xs:=xr) J0 ⟨none,rq,Ad,Ae hln _⟩ (λi σ HH _ h=>?_) (λi x σ HH hx h=>?_) (fun σ HH h=>?_)
 ·obtain⟨u7,rfl,e1,s1⟩:=h;exact SqT.of (s1 _ _ htr)
 ·obtain⟨u7,rfl,e1,s1⟩:=h;obtain⟨d,hd,rd⟩:=Ai.at_ rsr hx;rw[Qbc] at hd;obtain⟨r,hr',rfl⟩:=Qar.mp hd;have hi:=(Qae.mp hr').1;have l1:(DN ws ks h (Ey past) (rows.take i)).length=i:=by rw[Nf,Qbn];omega
  have r3:=tok.N7;have ob1:=s1 _ _ ob;refine CW ⟨_,rq,.inl ⟨rq,_,SqL.of e1⟩,_,rq,_,rq,_,rq,p,C,dx,_,_,rq,ob1,T.cl,T.Mt,T9 _ _,_,rq,_,rq,_,rq,Ao (by show 3<=1000;decide),λtb htb=>?_⟩;have s2:=Ae htb (.tup [.ref tw,.ref tk,.int h]);have c2:upd HH tb (.tup [.ref tw,.ref tk,.int h]) tb=some (.tup [.ref tw,.ref tk,.int h]):=Ad;have s02:=s1.trans s2;have e2:=s2 _ _ e1;generalize upd HH tb (.tup [.ref tw,.ref tk,.int h])=H2 at *;refine⟨x,r,i,ln,pl,tb,tw,tk,_,xs,Ey past,ws,ks,h,rq,Rep.same (Same.trans HS s02) rd,tok.ok i r hr',e2,l1,s02 _ _ hpl,pmap (λ_ _ z=>z.held.same s02) hps,λg hg=>?_,by have:=Vv past;omega,c2,s02 _ _ htw,s02 _ _ htk,λH3 s3=>?_⟩
  ·exact Qcd (by omega) (hlen g (QaD hg))
  ·refine⟨ln,_,_,rq,rq,s3 _ _ e2,Ba (by rw[Qbw,l1];omega),?_⟩;have s03:=s02.trans s3;refine⟨_,rq,?_,s03.CN Ah.upd hln⟩;rw[Ad,Lj hr',Qbx];rfl
 ·obtain⟨u7,rfl,e1,s1⟩:=h;rw[lxr,Vn tok.ok _ (Qch _),Qbp] at e1;generalize WK:DN ws ks h past rows=now at *;have Ib:now.length=rows.length:=by rw[<-WK,Nf]
  have ob1:=s1 _ _ ob;have lxs:=QbX hps;have l20:=Vv past;refine⟨_,rq,p,C,dx,_,_,rq,ob1,T.cl,T.Mt,T9 _ _,_,rq,Ao (by show 1<=1000;decide),λl1 hl1=>?_⟩;have s2:=Ae hl1 (.lst [.ref ln]);have c2:upd HH l1 (.lst [.ref ln]) l1=some (.lst [.ref ln]):=Ad;generalize upd HH l1 (.lst [.ref ln])=H2 at *;have s02:=s1.trans s2;refine⟨pl,l1,_,_,rq,rq,s02 _ _ hpl,c2,Ao (by show xs.length+1<=1000;omega),λl2 hl2=>?_⟩;have s3:=Ae hl2 (.lst (xs++[V.ref ln]));have c3:upd H2 l2 (.lst (xs++[V.ref ln])) l2=some (.lst (xs++[V.ref ln])):=Ad;generalize upd H2 l2 (.lst (xs++[V.ref ln]))=H3 at *;refine⟨_,rq,_,rq,l2,_,rq,SqL.of c3,λl3 hl3=>?_⟩;have ec:=Ul (xs:=xs++[V.ref ln]) (n:=20) (by decide);have ec:CZ (xs++[V.ref ln]) (some (-20)) none=(xs++[V.ref ln]).drop ((xs++[V.ref ln]).length - 20):=ec;rw[ec];have s4:=Ae hl3 (.lst ((xs++[V.ref ln]).drop ((xs++[V.ref ln]).length - 20)));have c4:upd H3 l3 (.lst ((xs++[V.ref ln]).drop ((xs++[V.ref ln]).length - 20))) l3=some (.lst ((xs++[V.ref ln]).drop ((xs++[V.ref ln]).length - 20))):=Ad;generalize upd H3 l3 (.lst ((xs++[V.ref ln]).drop ((xs++[V.ref ln]).length - 20)))=H4 at *;have s03:=s02.trans s3;have s04:=s03.trans s4;have l3M:l3∉M:=iz s03 hl3;have lnM:ln∉M:=λz=>hM _ z hln;have nl3:l3≠p:=(Ay (s03 _ _ ob) hl3).symm;refine⟨_,rq,p,C,dx,_,_,rq,s04 _ _ ob,T.cl,T.Mt,(by show 2 < 1000;decide),Zm _ _ _,λH5 h5 s5=>?_⟩;have s05:Ah p H H5:=(Ah.of s04).trans s5;have tu:BJ H H5:=s05.tup pt;have e5:H5 ln=some (.lst (now.map V.bl)):=s5 _ _ (s2.trans (s3.trans s4) _ _ e1) (λz=>by rw[z,ob] at hln;cases hln);have R5:Hs C M H5 p t (past++[now]):=by
   refine⟨dx,l3,_,h5,l3M,s5 _ _ c4 nl3,?_⟩;have pr:Paired (HB M H5) (xs++[V.ref ln]) (Ey past++[now]):=Tg (pmap (λ_ _ z=>z.RG (Ck.ofB s05 pM)) hps) (.cons ⟨ln,rq,lnM,e5⟩ .nil);have:=Paired.RN ((xs++[V.ref ln]).length - 20) pr;rw[show (xs++[V.ref ln]).length=(Ey past++[now]).length by rw[QaM,QaM,lxs];rfl] at this ⊢;rw[dH] at this;exact this
  refine⟨_,rq,to,rq,⟨_,SqT.of (tu _ _ hto)⟩,λl hl=>?_⟩;let J1:YN:=λ(i:Nat) (σ : St) (HX:Hp)=>∃(u v:Option V),σ=[u,v,jp ln]/\HX l=some (.lst ((JX (outs.take i) now).map V.int))/\Same H5 HX;refine DP (xs:=xo) J1 ⟨_,_,rq,Ad,Ae hl _⟩ (λi σ HX _ h=>?_) (λi x σ HX hx h=>?_) (fun σ HX h=>?_)
  ·obtain⟨u,v,rfl,g1,g2⟩:=h;exact SqT.of (g2 _ _ (tu _ _ hto))
  ·obtain⟨u,v,rfl,g1,g2⟩:=h;obtain⟨d,hd,rd⟩:=Ai.at_ rso hx;rw[Qbc] at hd;obtain⟨o,ho,rfl⟩:=Qar.mp hd;have hi:=(Qae.mp ho).1;have io:=tok.io o (Qay ho);have o16:=tok.o16;have rd:=Rep.same (Dh (tu.trans (BJ.of g2))) rd;have rd:=Rep.same HS rd;cases rd with
   | tup eg rg=>
   cases rg with
   | cons ra rg=>
   cases rg with
   | cons rm rg=>
   cases rg;cases ra;cases rm;refine⟨_,_,rq,SqT.of eg,rq,_,_,rq,_,_,rq,rq,?_⟩;refine⟨_,rq,_,rq,ln,_,_,_,rq,rq,SqL.of (g2 _ _ e5),Ed (by rw[Ib];exact io.2.2),_,rq,?_⟩;have tk:=Qcp ho;cases e:now.getD o.2 false with
   | true=>
    refine Av ⟨_,rq,_,g1,Ba ?_,_,_,rq,?_,g2.CN Ah.upd hl⟩
    ·unfold JX;rw[Qbw,Qbw];exact Qcd (List.length_filter_le _ _) (by rw[Qbn];omega)
    ·rw[Ad];unfold JX;rw[tk,QaW,Qbs,if_pos e,Qbx,Qbx];rfl
   | false=>
    refine Bd ⟨_,_,rq,?_,g2⟩;unfold JX;rw[tk,QaW,Qbs,if_neg (by rw[e];decide),List.filter_nil,QbE];exact g1
  obtain⟨u,v,rfl,g1,g2⟩:=h;rw[lxo,Qbp] at g1;refine⟨l,_,rq,.inl ⟨SqL.of g1,λr hr'=>?_⟩⟩;have s6:=g2.trans (Ae hr' (.tup ((JX outs now).map V.int)));exact q r _ Ad (R5.other (Ck.of s6) (s6 _)) (s05.trans (Ah.of s6))
end
abbrev M9:Stmt:=top 23
abbrev KN:YF:=["_law_bag_here","_law_at"]
abbrev xt:YF:=["_law_bag_here","_law_at","_law_way","_law_some","_law_one","_law_other_here"]
theorem JC:Bq xt KN (Ak M9):=by ac_rfl
theorem Ah.Kd {a b:Addr} {H HH H':Hp} (s:Ah b H HH) (t:Ah a HH H') (f:H a=none):Ah b H H':=λc o e n=>t _ _ (s _ _ e n) λz=>by rw[z,f] at e;cases e
theorem Yo {κ : Type} [DecidableEq κ]:∀{l m:List κ},l.Nodup->(∀x∈l,x∈m)->l.length<=m.length
 | [],_,_,_=>Qci _
 | a::r,m,nd,h=>by
  have ha:=h a (QaN ..);obtain⟨n1,n2⟩:=QbB.mp nd;have:=Yo (l:=r) (m:=m.erase a) n2 λx hx=>(List.mem_erase_of_ne (λe=>n1 (by rw[<-e];exact hx))).mpr (h x (Qaz _ hx));rw[List.length_erase_of_mem ha] at this;have hp:=List.length_pos_of_mem ha;rw[Qbo];omega
theorem or2 {p:Bool} {A B U:Prop} (hA:A) (hU:p=false->A->U):if p=true then (if true=true then A else B) else U:=by
 cases p with
 | true=>exact Av (Av hA)
 | false=>exact Bd (hU rfl hA)
theorem jd {ms:List Int} (h:ms.Pairwise (· < ·)):ms.Nodup:=h.imp λh e=>absurd h (by omega)
theorem Oz:∀{ms:List Int},ms.Pairwise (· < ·)->Fq ms=true
 | [],_=>rfl
 | [_],_=>rfl
 | a::b::r,h=>by
  obtain⟨h1,h2⟩:=List.pairwise_cons.mp h;have:=Oz h2;unfold Fq adj at this ⊢;show ((decide (a < b)&&((b::r).zip r).all λp=>decide (p.1 < p.2)):Bool)=true;rw[QbM (h1 b (QaN ..))];exact this
theorem SQ {ms ns:List Int} (h:ms.Pairwise (· < ·)) (e:∀k,k∈ms ↔ k∈ns):ms.length<=ns.length:=Yo (jd h) λx hx=>(e x).mp hx
theorem X3 {ms ns:List Int} (e:∀k,k∈ms ↔ k∈ns) (h:1<=ns.length):1<=ms.length:=by
 match ns,h with
 | a::r,_=>exact List.length_pos_of_mem ((e a).mpr (QaN ..))
theorem pO {i:Int} (h0:0<=i) (h4:i < 4):∃p:Int,atI [V.int 0,.int 1,.int 2,.int 8] i=some (.int p)/\0<=p/\p<=8:=by
 have:i=0\/i=1\/i=2\/i=3:=by omega
 rcases this with rfl | rfl | rfl | rfl <;> exact⟨_,rfl,by decide,by decide⟩
theorem pN {i:Int} (h0:0<=i) (h4:i < 4):∃p:Nat,atI [V.int 1,.int 2,.int 4,.int 20] i=some (.int (p:Int))/\1<=p/\p<=20:=by
 have:i=0\/i=1\/i=2\/i=3:=by omega
 rcases this with rfl | rfl | rfl | rfl
 ·exact⟨1,rq,by decide,by decide⟩
 ·exact⟨2,rq,by decide,by decide⟩
 ·exact⟨4,rq,by decide,by decide⟩
 ·exact⟨20,rq,by decide,by decide⟩
theorem pL {i:Int} (h0:0<=i) (h4:i < 4):∃p:Int,atI [V.int 0,.int 2,.int 3,.int 1] i=some (.int p)/\0<=p/\p<=3:=by
 have:i=0\/i=1\/i=2\/i=3:=by omega
 rcases this with rfl | rfl | rfl | rfl <;> exact⟨_,rfl,by decide,by decide⟩
theorem GQ {H:Hp}:∀gs:List Int,Ai H (gs.map V.int) (gs.map PyData.int)
 | []=>.nil
 | g::r=>.cons (.int g) (GQ r)
theorem Ai.snoc {H:Hp} {xs:YG} {ds:List PyData} {x:V} {d:PyData} (h:Ai H xs ds) (r:Rep H x d):Ai H (xs++[x]) (ds++[d]):=Ai.mk (Tg (Ai.pair h) (.cons r .nil))
def aV:Sp:=λvs H Q _=>∃(b:Addr) (m a:Nat),vs=[.ref b,.int a]/\Bt H b m/\m<=8000/\a<=319/\∀t (r:Rw) H',Rep (onl H') (.ref t) r.data->r.ok a->Bt H' b (m+7)->Ah b H H'->Q (.ref t) H'
def Vg:Sp:=λvs H Q _=>∃(b:Addr) (m:Nat),vs=[.ref b]/\Bt H b m/\m<=5000/\∀t rows outs H',Ka H' t rows outs->Ls rows outs->Bt H' b (m+2400)->Ah b H H'->Q (.ref t) H'
def QL:Sp:=λvs H Q _=>∃(b l:Addr) (m:Nat) (ns:List Int),vs=[.ref b,.ref l]/\Bt H b m/\m<=8000/\b≠l/\H l=some (.lst (ns.map V.int))/\ns.length<=8/\∀t ws ks h H',QJ H' t ws ks h->Bt H' b (m+30)->Ah b H H'->Q (.ref t) H'
section
variable {P:Program} {w:World} {K:YD} {mg:YB} {base:Heap}
abbrev xb:YF:=["_law_turn","_law_bag_here"]
theorem fY (C:Code K mg "_law_row" M9 KN) (T:Tc mg) (Bf:Good P w K mg base "_law_take" 1 Eb Jz):Good P w K mg base "_law_row" 2 KN aV:=by
 refine C.good JC (λvs H Q E h=>?_) (λf cdv A outer s H vs Q E hr h=>?_)
 ·obtain⟨b,m,a,rfl,_⟩:=h;rfl
 obtain⟨b,m,a,rfl,hb,hm,ha,q⟩:=h;refine⟨_,(@Af _ _ _ _ _ (@Bv _ _ 2 _ _ _ _ JC.nd rfl (Or.inl rfl) (Am Bf hr (Aa (pv 0) (Aa Ab Ac))) (by rfl) (by first | exact .inl rfl | exact .inr rfl))
 (@Af _ _ _ _ _ (Bm (PW.pt (FT (Bh Cp (pv 1) Ab (Bc _)) (Hg (Bh Nb (pv 2) Ab (Bc _))))) (@Af _ _ _ _ _ (@Bv _ _ 2 _ _ _ _ JC.nd rfl (Or.inl rfl) (@Ax _ _ _ _ _ _ _ _ Fe (pv 2) Ab) (by rfl) (by first | exact .inl rfl | exact .inr rfl))
 (@Af _ _ _ _ _ (Bm (Bh Cp (pv 2) Ab (Bc _)) (@Af _ _ _ _ _ (@Bv _ _ 3 _ _ _ _ JC.nd rfl (Or.inl rfl) (Jo rfl rfl T.sorted rfl T.set (Aa (CQ (N':=xb) rfl (Bx.of (src:=[none,some 0]) (Ak M9) xt rfl rfl rfl (by trivial) (by trivial) (by trivial) rfl (by trivial)) (Er rfl T.range (Aa (@Ax _ _ _ _ _ _ _ _ CV Ab (Am Bf hr (Aa (pv 0) (Aa Ab Ac)))) Ac)) (λ_ _ _ _=>(Bb (i:=0) (show List.Nodup (xb:YF) by trivial) rfl (Or.inl rfl))) (λ_ _ _ _=>Ds) (λ_ _ _ _=>(@Ax _ _ _ _ _ _ _ _ CV Ab (Am Bf hr (Aa (pv 1) (Aa Ab Ac)))))) Ac)) (by rfl) (by first | exact .inl rfl | exact .inr rfl))
 (@Ag _ _ _ (@Aq _ _ _ _ (Bs (Aa Bj (Aa (@Ax _ _ _ _ _ _ _ _ CV Ab (@Al _ _ _ _ _ _ _ Bp (BK (Aa Ab (Aa Ab (Aa Ab (Aa Ab Ac))))) (Am Bf hr (Aa (pv 0) (Aa Ab Ac))) (λ_ _=>rfl))) (Aa (Cq CP rfl T.tuple BZ (Aa (pv 3) Ac)) Ac))))))) Bg)
 (@Ag _ _ _ (@Aq _ _ _ _ (@Al _ _ _ _ _ _ _ Bp (BK (Aa (Bs (Aa Bj (Aa (Am Bf hr (Aa (pv 0) (Aa Ab Ac))) Ac))) (Aa (Bs (Aa Bj (Aa (Am Bf hr (Aa (pv 0) (Aa Ab Ac))) (Aa (Am Bf hr (Aa (pv 0) (Aa Ab Ac))) Ac)))) Ac))) (@Ax _ _ _ _ _ _ _ _ CK (pv 2) Ab) (λ_ _=>rfl)))))) Bg)
 (@Af _ _ _ _ _ (X7 (i:=4) (j:=5) rfl JC.nd rfl rfl (by decide) rfl rfl (Aa (Am Bf hr (Aa (pv 0) (Aa (pv 1) Ac))) (Aa (Am Bf hr (Aa (pv 0) (Aa (pv 1) Ac))) Ac)) rfl)
 (@Af _ _ _ _ _ (Bm (Bh Cp (pv 2) Ab (Bc _)) (@Ag _ _ _ (@Aq _ _ _ _ (Bs (Aa Bj (Aa (pv 4) Ac))))) Bg)
 (@Af _ _ _ _ _ (Bm (Bh Jp (pv 2) Ab (Bc _)) (@Ag _ _ _ (@Aq _ _ _ _ (Bs (Aa Bj (Aa (pv 4) (Aa (pv 5) (Aa (@Ax _ _ _ _ _ _ _ _ CV Ab (Am Bf hr (Aa (pv 0) (Aa (@Al _ _ _ _ _ _ _ Bp (BK (Aa Ab (Aa Ab (Aa Ab (Aa Ab Ac))))) (Am Bf hr (Aa (pv 0) (Aa Ab Ac))) (λ_ _=>rfl)) Ac)))) Ac))))))) Bg)
 (@Ag _ _ _ (@Aq _ _ _ _ (Bs (Aa (@Al _ _ _ _ _ _ _ Bp (BK (Aa Bj (Aa Bj Ac))) (@Ax _ _ _ _ _ _ _ _ CK (pv 2) Ab) (λ_ _=>rfl)) (Aa (pv 4) (Aa (pv 5) Ac))))))))))),?_⟩
 show let R0:TS:=_;let R1:TS:=_;let R2:TS:=Aw (BX _ R1 _) R0;let R3:TS:=_;let R4:TS:=Aw (BX _ R3 _) R2;let R5:TS:=Aw _ R4;let R6:TS:=_;let R7:TS:=_;let R8:TS:=Aw _ R7;let R9:TS:=Aw (BX _ R8 _) R6;let R10:TS:=Aw _ R9;let R11:TS:=Aw (BX _ R10 _) R5;Aw _ R11 _ _ _;intro R0 R1 R2 R3 R4 R5 R6 R7 R8 R9 R10 R11;refine⟨_,rq,b,m,8,rq,hb,by omega,by decide,by decide,λway H1 w0 w1 hb1 sb1=>?_⟩;refine⟨_,rq,rq,_,rq,or2 ?_ (λc0 hA=>⟨_,rq,_,_,rq,rq,_,rq,Mw (λ_=>hA) (λc=>?_)⟩)⟩
 ·refine⟨_,rq,_,_,rq,rq,(by show (0:Int) < 3;decide),?_⟩;refine⟨_,rq,rq,_,rq,ifN (λe=>?_) (λe=>?_)⟩
  ·refine⟨_,rq,b,_,4,rq,hb1,by omega,by decide,by decide,λr2 H2 r20 r21 hb2 sb2=>⟨_,_,rq,rq,_,rq,by omega,by omega,λl hl=>?_⟩⟩;have nbl:=hb2.nb hl;have hl0:H l=none:=sb1.free hb1.ex (sb2.free hb2.ex hl);let J0:YN:=λi σ HH=>∃(u:Option V) (ns:List Int),σ=[u,jp b]/\HH l=some (.lst (ns.map V.int))/\ns.length=i/\(∀a∈ns,1<=a/\a<=99)/\Bt HH b (m+2+i)/\Ah b H2 HH;refine Gb J0 ⟨_,[],rq,Ad,rq,(λa ha=>by cases ha),hb2.same (Ae hl _),Ah.of (Ae hl _)⟩ (λi σ HH hi h=>?_) (fun σ HH h=>?_)
   ·obtain⟨u,ns,rfl,e1,e2,e3,e4,e5⟩:=h;refine CW (Av ⟨_,rq,b,_,99,rq,e4,by omega,by decide,by decide,λr3 H3 r30 r31 hb3 sb3=>⟨_,_,rq,rq,_,sb3 _ _ e1 nbl.symm,Ba (by rw[Qbw];omega),_,ns++[1+r3],rq,?_,by rw[QaM,e2];rfl,?_,hb3.Jk Ah.upd nbl,Ah.Kd (e5.trans sb3) Ah.upd hl⟩⟩)
    ·rw[Ad,Qbx];rfl
    ·intro x hx;rcases Qbz.mp hx with hx | hx
     ·exact e3 x hx
     ·rw[QaR.mp hx];omega
   obtain⟨u,ns,rfl,e1,e2,e3,e4,e5⟩:=h;have l4:ns.length<=4:=by omega
   have l1:1<=ns.length:=by omega
   refine⟨l,ns,rq,.inl (SqL.of e1),by omega,λms ls up mem hls=>?_⟩;have s6:=Ae hls (.lst (ms.map V.int));have c6:upd HH ls (.lst (ms.map V.int)) ls=some (.lst (ms.map V.int)):=Ad;have nbs:=e4.nb hls;have hb6:=e4.same s6;have sb6:=e5.trans (Ah.of s6);generalize upd HH ls (.lst (ms.map V.int))=H6 at *;refine⟨Ao (by show 4<=1000;decide),λl4' hl4=>?_⟩;have s7:=Ae hl4 (.lst [.int 0,.int 1,.int 2,.int 8]);have c7:upd H6 l4' (.lst [.int 0,.int 1,.int 2,.int 8]) l4'=some (.lst [.int 0,.int 1,.int 2,.int 8]):=Ad;have nb7:=hb6.nb hl4;have hb7:=hb6.same s7;generalize upd H6 l4' (.lst [.int 0,.int 1,.int 2,.int 8])=H7 at *;refine⟨_,rq,b,_,4,rq,hb7,by omega,by decide,by decide,λr4 H8 r40 r41 hb8 sb8=>?_⟩;obtain⟨p,hp,p0,p8⟩:=pO r40 r41;refine⟨l4',_,_,_,rq,rq,SqL.of (sb8 _ _ c7 nb7.symm),hp,_,_,rq,rq,_,rq,ls,_,rq,.inl ⟨SqL.of (sb8 _ _ (s7 _ _ c6) nbs.symm),λtt htt=>?_⟩⟩;have s9:=Ae htt (.tup (ms.map V.int));have c9:upd H8 tt (.tup (ms.map V.int)) tt=some (.tup (ms.map V.int)):=Ad;have hb9:=hb8.same s9;generalize upd H8 tt (.tup (ms.map V.int))=H9 at *;refine⟨Ao (by show 3<=1000;decide),λt ht=>?_⟩;have sA:=Ae ht (.tup [.str "many",.int (1+p),.ref tt]);refine q t (.many (1+p) ms) _ (.tup (Dp Ad) (.cons (.str _) (.cons (.int _) (.cons (.tup (Dp (sA _ _ c9)) (GQ ms)) .nil)))) ⟨by omega,by omega,X3 mem l1,by have:=SQ up mem;omega,λx hx=>e3 x ((mem x).mp hx),Oz up⟩ ((hb9.same sA).mono (by omega)) ?_;exact sb1.trans (sb2.trans (sb6.trans ((Ah.of s7).trans (sb8.trans (Ah.of (s9.trans sA))))))
  ·have e12:way % 3=1\/way % 3=2:=by omega
   refine⟨_,rq,b,_,10,rq,hb1,by omega,by decide,by decide,λk H2 k0 k1 hb2 sb2=>⟨Ao (by show 2<=1000;decide),λt1 ht1=>?_⟩⟩;have s3:=Ae ht1 (.tup [.str "key",.int k]);have c3:upd H2 t1 (.tup [.str "key",.int k]) t1=some (.tup [.str "key",.int k]):=Ad;have hb3:=hb2.same s3;have nt1:=hb2.nb ht1;generalize upd H2 t1 (.tup [.str "key",.int k])=H3 at *;refine⟨_,rq,b,_,24,rq,hb3,by omega,by decide,by decide,λx H4 x0 x1 hb4 sb4=>⟨_,rq,b,_,24,rq,hb4,by omega,by decide,by decide,λy H5 y0 y1 hb5 sb5=>⟨Ao (by show 3<=1000;decide),λt2 ht2=>?_⟩⟩⟩;have s6:=Ae ht2 (.tup [.str "hours",.int x,.int y]);have c6:upd H5 t2 (.tup [.str "hours",.int x,.int y]) t2=some (.tup [.str "hours",.int x,.int y]):=Ad;have hb6:=hb5.same s6;generalize upd H5 t2 (.tup [.str "hours",.int x,.int y])=H6 at *;refine⟨Ao (by show 2<=1000;decide),λl hl=>?_⟩;have s7:=Ae hl (.lst [.ref t1,.ref t2]);have c7:upd H6 l (.lst [.ref t1,.ref t2]) l=some (.lst [.ref t1,.ref t2]):=Ad;have hb7:=hb6.same s7;have c3':=s7 _ _ (s6 _ _ (sb5 _ _ (sb4 _ _ c3 nt1.symm) nt1.symm));have c6':=s7 _ _ c6;have fG:Ah b H (upd H6 l (.lst [.ref t1,.ref t2])):=sb1.trans (sb2.trans ((Ah.of s3).trans (sb4.trans (sb5.trans ((Ah.of s6).trans (Ah.of s7))))));show tOp _ _ _ _ (upd H6 l (.lst [.ref t1,.ref t2])) _;generalize upd H6 l (.lst [.ref t1,.ref t2])=H7 at *;rcases e12 with e12 | e12
   ·refine⟨_,rq,_,_,rq,rq,l,_,_,(.ref t1),rq,rq,SqL.of c7,?_,?_⟩
    ·rw[e12];rfl
    ·exact q t1 (.key k) _ (.tup (Dp c3') (.cons (.str _) (.cons (.int _) .nil))) ⟨k0,by omega⟩ (hb7.mono (by omega)) fG
   ·refine⟨_,rq,_,_,rq,rq,l,_,_,(.ref t2),rq,rq,SqL.of c7,?_,?_⟩
    ·rw[e12];rfl
    ·exact q t2 (.hours x y) _ (.tup (Dp c6') (.cons (.str _) (.cons (.int _) (.cons (.int _) .nil)))) ⟨x0,by omega,y0,by omega⟩ (hb7.mono (by omega)) fG
 have a0:a≠0:=λz=>of_decide_eq_false c0 (by rw[z];rfl);refine⟨_,rq,_,rq,b,_,a,rq,hb1,by omega,by omega,by omega,λi H2 i0 i1 hb2 sb2=>⟨_,rq,_,rq,b,_,a,rq,hb2,by omega,by omega,by omega,λj H3 j0 j1 hb3 sb3=>⟨_,_,rq,?_⟩⟩⟩;obtain⟨i,rfl⟩:=Qap i0;obtain⟨j,rfl⟩:=Qap j0;have s03:=sb1.trans (sb2.trans sb3);refine⟨_,rq,rq,_,rq,ifN (λe=>?_) (λe=>?_)⟩
 ·refine⟨_,rq,Ao (by show 2<=1000;decide),λt ht=>?_⟩;have sA:=Ae ht (.tup [.str "not",.int i]);exact q t (.neg i) _ (.tup (Dp Ad) (.cons (.str _) (.cons (.int _) .nil))) (by show i < a;omega) ((hb3.same sA).mono (by omega)) (s03.trans (Ah.of sA))
 refine⟨_,rq,_,_,rq,rq,_,rq,Mw (λc5=>?_) (λc5=>?_)⟩
 ·refine⟨_,rq,_,rq,_,rq,Ao (by show 4<=1000;decide),λl4 hl4=>?_⟩;have s7:=Ae hl4 (.lst [.int 1,.int 2,.int 4,.int 20]);have c7:upd H3 l4 (.lst [.int 1,.int 2,.int 4,.int 20]) l4=some (.lst [.int 1,.int 2,.int 4,.int 20]):=Ad;have nb7:=hb3.nb hl4;have hb7:=hb3.same s7;generalize upd H3 l4 (.lst [.int 1,.int 2,.int 4,.int 20])=H7 at *;refine⟨_,rq,b,_,4,rq,hb7,by omega,by decide,by decide,λr4 H8 r40 r41 hb8 sb8=>?_⟩;obtain⟨p,hp,p0,p8⟩:=pN r40 r41;refine⟨l4,_,_,_,rq,rq,SqL.of (sb8 _ _ c7 nb7.symm),hp,b,_,p,rq,hb8,by omega,by omega,by omega,λr5 H9 r50 r51 hb9 sb9=>⟨_,_,rq,rq,Ao (by show 4<=1000;decide),λt ht=>?_⟩⟩;obtain⟨n,rfl⟩:=Qap r50;have sA:=Ae ht (.tup [.str "then",.int i,.int j,.int (1+(n:Int))]);refine q t (.thn i j (1+n)) _ (.tup (Dp Ad) (.cons (.str _) (.cons (.int _) (.cons (.int _) (.cons ?_ .nil))))) ⟨by omega,by omega,by omega,by omega⟩ ((hb9.same sA).mono (by omega)) (s03.trans ((Ah.of s7).trans (sb8.trans (sb9.trans (Ah.of sA)))));rw[show (((1+n:Nat):Nat):Int)=1+(n:Int) by omega];exact .int _
 ·have w3:¬way < 3:=λz=>absurd (QbM z) c;have w5:¬way > 5:=λz=>absurd (QbM z) c5;have e45:way - 4=0\/way - 4=1:=by omega
  refine⟨Ao (by show 2<=1000;decide),λl hl=>?_⟩;have s7:=Ae hl (.lst [.str "and",.str "or"]);have c7:upd H3 l (.lst [.str "and",.str "or"]) l=some (.lst [.str "and",.str "or"]):=Ad;have hb7:=hb3.same s7;show tOp _ _ _ _ (upd H3 l (.lst [.str "and",.str "or"])) _;generalize upd H3 l (.lst [.str "and",.str "or"])=H7 at *;rcases e45 with e45 | e45
  ·refine⟨_,rq,_,_,rq,rq,l,_,_,(.str "and"),rq,rq,SqL.of c7,by rw[e45];rfl,_,rq,_,rq,Ao (by show 3<=1000;decide),λt ht=>?_⟩;have sA:=Ae ht (.tup [.str "and",.int i,.int j]);exact q t (.both i j) _ (.tup (Dp Ad) (.cons (.str _) (.cons (.int _) (.cons (.int _) .nil)))) ⟨by omega,by omega⟩ ((hb7.same sA).mono (by omega)) (s03.trans (Ah.of (s7.trans sA)))
  ·refine⟨_,rq,_,_,rq,rq,l,_,_,(.str "or"),rq,rq,SqL.of c7,by rw[e45];rfl,_,rq,_,rq,Ao (by show 3<=1000;decide),λt ht=>?_⟩;have sA:=Ae ht (.tup [.str "or",.int i,.int j]);exact q t (.any i j) _ (.tup (Dp Ad) (.cons (.str _) (.cons (.int _) (.cons (.int _) .nil)))) ⟨by omega,by omega⟩ ((hb7.same sA).mono (by omega)) (s03.trans (Ah.of (s7.trans sA)))
end
abbrev Iw:Stmt:=top 24
abbrev Ja:YF:=["_law_bag_here"]
abbrev xj:YF:=["_law_bag_here","_law_many","_law_rows","_law_outs","_law_address"]
theorem GX:Bq xj Ja (Ak Iw):=by ac_rfl
theorem pP {r i:Int} (r0:0<=r) (r6:r < 12) (i0:0<=i) (i8:i < 8):∃n:Nat,atI [V.int (1+r),.int 320,.int 0] (if i - 5 > 0 then i - 5 else 0)=some (.int n)/\n<=320:=by
 have:(if i - 5 > 0 then i - 5 else 0)=0\/(if i - 5 > 0 then i - 5 else 0)=1\/(if i - 5 > 0 then i - 5 else 0)=2:=by split <;> omega
 rcases this with h | h | h <;> rw[h]
 ·exact⟨(1+r).toNat,(by rw[Int.toNat_of_nonneg (by omega)];rfl),by omega⟩
 ·exact⟨320,rq,by decide⟩
 ·exact⟨0,rq,by decide⟩
theorem iQ {α : Type} (c:Bool) (x y:α):∃v,atI [x,y] (if c=true then 1 else 0)=some v/\(v=x\/v=y):=by
 cases c with
 | true=>exact⟨y,rfl,.inr rfl⟩
 | false=>exact⟨x,rfl,.inl rfl⟩
theorem jZ (ms:List Int):CZ (ms.map V.int) none (some 30)=(ms.take 30).map V.int:=by
 unfold CZ;rw[HT.Hw,show (some (30:Int))=some ((30:Nat):Int) from rfl,HT.Hx,List.drop_zero,Qbw,List.map_take]
 rw[Nat.sub_zero];by_cases h:30<=ms.length
 ·rw[QbG h]
 ·rw[Nat.min_eq_right (by omega),Qas (by rw[Qbw];exact Qch _),Qas (by rw[Qbw];omega)]
theorem RM {H:Hp} {l:Addr} {xs:YG} (h:H l=some (.lst xs)):∀ys,H l≠some (.tup ys):=λys z=>by rw[h] at z;cases z
section
variable {P:Program} {w:World} {K:YD} {mg:YB} {base:Heap}
theorem Zu (C:Code K mg "_law_table" Iw Ja) (T:Tc mg) (Bf:Good P w K mg base "_law_take" 1 Eb Jz) (dw:Good P w K mg base "_law_row" 2 KN aV):Good P w K mg base "_law_table" 3 Ja Vg:=by
 refine C.good GX (λvs H Q E h=>?_) (λf cdv A outer s H vs Q E hr h=>?_)
 ·obtain⟨b,m,rfl,_⟩:=h;rfl
 obtain⟨b,m,rfl,hb,hm,q⟩:=h;refine⟨_,(@Af _ _ _ _ _ (@Bv _ _ 1 _ _ _ _ GX.nd rfl (Or.inl rfl) (@Al _ _ _ _ _ _ _ Bp (BK (Aa (@Ax _ _ _ _ _ _ _ _ CV Ab (Am Bf hr (Aa (pv 0) (Aa Ab Ac)))) (Aa Ab (Aa Ab Ac)))) (Ar (MK rfl) rfl T.max Uu (Aa Ab (Aa (@Ax _ _ _ _ _ _ _ _ CK (Am Bf hr (Aa (pv 0) (Aa Ab Ac))) Ab) Ac))) (λ_ _=>rfl)) (by rfl) (by first | exact .inl rfl | exact .inr rfl))
 (@Af _ _ _ _ _ (KD (i:=2) GX.nd rfl (Or.inl rfl) (N':=["_law_at","_law_bag_here"]) rfl (Bx.of (src:=[none,some 0]) (Ak Iw) xj rfl rfl rfl (by trivial) (by trivial) (by trivial) rfl (by trivial)) (Er rfl T.range (Aa (pv 1) Ac)) (λ_ _ _ _=>(Bb (i:=0) (show List.Nodup (["_law_at","_law_bag_here"]:YF) by trivial) rfl (Or.inl rfl))) (λ_ _ _ _=>Ds) (λ_ _ _ _=>(Am dw hr (Aa (pv 1) (Aa (pv 0) Ac)))))
 (@Af _ _ _ _ _ (@Bv _ _ 3 _ _ _ _ GX.nd rfl (Or.inl rfl) (BK Ac) (by rfl) (by first | exact .inl rfl | exact .inr rfl))
 (@Af _ _ _ _ _ (IK QbF rfl (KH (Jo rfl rfl T.sorted rfl T.set (Aa (CQ (N':=xb) rfl (Bx.of (src:=[none,some 0]) (Ak Iw) xj rfl rfl rfl (by trivial) (by trivial) (by trivial) rfl (by trivial)) (Er rfl T.range (Aa (Am Bf hr (Aa (pv 0) (Aa Ab Ac))) Ac)) (λ_ _ _ _=>(Bb (i:=0) (show List.Nodup (xb:YF) by trivial) rfl (Or.inl rfl))) (λ_ _ _ _=>Ds) (λ_ _ _ _=>(@Ax _ _ _ _ _ _ _ _ CV Ab (Am Bf hr (Aa (pv 1) (Aa Ab Ac)))))) Ac))) (Bb (i:=4) GX.nd rfl (Or.inl rfl))
 (@Ag _ _ _ (Bm (Bh Jp (pv 1) Ab (Bc _)) (@Ag _ _ _ (Ej (Hh Qan Qak Qal Dd (pv 3) (Aa (Bs (Aa (pv 4) (Aa (@Al _ _ _ _ _ _ _ Bp (BK (Aa (Am Bf hr (Aa (pv 0) (Aa (pv 1) Ac))) (Aa (@Ax _ _ _ _ _ _ _ _ CK (pv 1) Ab) Ac))) (Cq MP rfl T.int KY (Aa (Cd Cp (Am Bf hr (Aa (pv 0) (Aa Ab Ac))) Ab (Bc _)) Ac)) (λ_ _=>rfl)) Ac))) Ac)))) Bg)))
 (@Ag _ _ _ (@Aq _ _ _ _ (Bs (Aa (Cq CP rfl T.tuple BZ (Aa (pv 2) Ac)) (Aa (Cq CP rfl T.tuple BZ (Aa (pv 3) Ac)) Ac))))))))),?_⟩
 show let R0:TS:=_;let R1:TS:=_;let R2:TS:=BX _ R1 _;let R3:TS:=Aw (KZ _ _ R2) R0;let R4:TS:=Aw _ R3;let R5:TS:=Aw _ R4;Aw _ R5 _ _ _;intro R0 R1 R2 R3 R4 R5;refine⟨_,rq,b,m,12,rq,hb,by omega,by decide,by decide,λr1 H1 r10 r11 hb1 sb1=>⟨_,_,rq,rq,Ao (by show 3<=1000;decide),λl3 hl3=>?_⟩⟩;have s2:=Ae hl3 (.lst [.int (1+r1),.int 320,.int 0]);have c2:upd H1 l3 (.lst [.int (1+r1),.int 320,.int 0]) l3=some (.lst [.int (1+r1),.int 320,.int 0]):=Ad;have nb2:=hb1.nb hl3;have hb2:=hb1.same s2;show tCB _ _ _ (upd H1 l3 (.lst [.int (1+r1),.int 320,.int 0])) _;generalize upd H1 l3 (.lst [.int (1+r1),.int 320,.int 0])=H2 at *;refine⟨_,rq,b,_,8,rq,hb2,by omega,by decide,by decide,λr2 H3 r20 r21 hb3 sb3=>?_⟩;obtain⟨many,jN,Qp⟩:=pP r10 r11 r20 r21;refine⟨_,_,rq,rq,_,_,rq,l3,_,_,_,rq,rq,SqL.of (sb3 _ _ c2 nb2.symm),jN,?_⟩;have fC:=sb1.trans ((Ah.of s2).trans sb3);refine⟨_,rq,_,rq,by omega,by omega,λlr hlr=>?_⟩;have nbr:=hb3.nb hlr;have flr:H lr=none:=fC.free hb3.ex hlr;let J0:YN:=λi σ HH=>∃(u:Option V) (xs:YG) (rws:List Rw),σ=[u,jp b]/\HH lr=some (.lst xs)/\Ai (onl HH) xs (rws.map Rw.data)/\rws.length=i/\OkR rws/\Bt HH b (m+2+7*i)/\Ah b H HH;refine Gb J0 ⟨_,[],[],rq,Ad,.nil,rq,(λi r e=>by cases e),hb3.same (Ae hlr _),fC.trans (Ah.of (Ae hlr _))⟩ (λi σ HH hi h=>?_) (fun σ HH h=>?_)
 ·obtain⟨u,xs,rws,rfl,e1,e2,e3,e4,e5,e6⟩:=h;have lx:=Ai.len e2;rw[Qbw] at lx;refine CW (Av ⟨_,rq,_,rq,b,_,i,(by rw[Int.zero_add];rfl),e5,by omega,by omega,λt r H' rp ok hb' sb'=>⟨_,sb' _ _ e1 nbr.symm,Ba (by omega),_,_,rws++[r],rq,Ad,?_,by rw[QaM,e3];rfl,?_,(hb'.Jk Ah.upd nbr).mono (by omega),Ah.Kd (e6.trans sb') Ah.upd flr⟩⟩)
  ·have tu:BJ H' (upd H' lr (.lst (xs++[.ref t]))):=BJ.upd (RM (sb' _ _ e1 nbr.symm));rw[Qbx];exact Ai.snoc (Ai.same (Dh ((sb'.tup e5.Ho).trans tu)) e2) (Rep.same (Dh tu) rp)
  ·intro k r' hk;by_cases hlt:k < rws.length
   ·rw[Qah hlt] at hk;exact e4 k r' hk
   ·have hk2:=(Qae.mp hk).1;rw[QaM,Qax] at hk2;have:k=rws.length:=by omega
    subst this;rw[Qad (Qch _),Nat.sub_self] at hk;cases hk;rw[e3];exact ok
 obtain⟨u,xr,rws,rfl,e1,e2,e3,e4,e5,e6⟩:=h;rw[Qbe] at e3 e5;refine⟨Ao (by show 0<=1000;decide),λlo hlo=>?_⟩;have s7:=Ae hlo (.lst []);have c7:upd HH lo (.lst []) lo=some (.lst []):=Ad;have nbo:=e5.nb hlo;have hb7:=e5.same s7;have e1':=s7 _ _ e1;have e2':=Ai.same (Dh (BJ.of s7)) e2;have sb7:=e6.trans (Ah.of s7);have nro:lr≠lo:=Ay e1 hlo;have flo:H lo=none:=e6.free e5.ex hlo;generalize upd HH lo (.lst [])=H7 at *;refine⟨_,rq,b,_,17,rq,hb7,by omega,by decide,by decide,λr3 H8 r30 r31 hb8 sb8=>⟨_,rq,by omega,by omega,λlc hlc=>?_⟩⟩;have nbc:=hb8.nb hlc;have flc:H7 lc=none:=sb8.free hb8.ex hlc;let J1:YN:=λi σ HH=>∃(u:Option V) (ns:List Int),σ=[u,jp b]/\HH lc=some (.lst (ns.map V.int))/\ns.length=i/\(∀a∈ns,1<=a/\a<=99)/\Bt HH b (m+3+7*many+i)/\Ah b H7 HH;refine Gb J1 ⟨_,[],rq,Ad,rq,(λa ha=>by cases ha),(hb8.same (Ae hlc _)).mono (by omega),sb8.trans (Ah.of (Ae hlc _))⟩ (λi σ HH hi h=>?_) (fun σ HH h=>?_)
 ·obtain⟨u,ns,rfl,f1,f2,f3,f4,f5⟩:=h;refine CW (Av ⟨_,rq,b,_,99,rq,f4,by omega,by decide,by decide,λr4 H9 r40 r41 hb9 sb9=>⟨_,_,rq,rq,_,sb9 _ _ f1 nbc.symm,Ba (by rw[Qbw];omega),_,ns++[1+r4],rq,?_,by rw[QaM,f2];rfl,?_,hb9.Jk Ah.upd nbc,Ah.Kd (f5.trans sb9) Ah.upd flc⟩⟩)
  ·rw[Ad,Qbx];rfl
  ·intro x hx;rcases Qbz.mp hx with hx | hx
   ·exact f3 x hx
   ·rw[QaR.mp hx];omega
 obtain⟨u,ns,rfl,f1,f2,f3,f4,f5⟩:=h;have lO:ns.length<=16:=by omega
 refine⟨lc,ns,rq,.inl (SqL.of f1),by omega,λms ls up mem hls=>?_⟩;have s9:=Ae hls (.lst (ms.map V.int));have c9:upd HH ls (.lst (ms.map V.int)) ls=some (.lst (ms.map V.int)):=Ad;have nbs:=f4.nb hls;have hb9:=f4.same s9;have f5':=f5.trans (Ah.of s9);have c1:=f5' _ _ e1' nbr.symm;have co:=f5' _ _ c7 nbo.symm;have nso:ls≠lo:=λz=>by rw[z,f5 _ _ c7 nbo.symm] at hls;cases hls
 have rr:Ai (onl (upd HH ls (.lst (ms.map V.int)))) xr (rws.map Rw.data):=Ai.same (Dh (f5'.tup hb7.Ho)) e2';have sb9:=sb7.trans f5';generalize upd HH ls (.lst (ms.map V.int))=H9 at *;refine⟨ls,rq,⟨_,SqL.of c9⟩,?_⟩;have qG:ms.length<=16:=Qcd (SQ up mem) lO;let J2:YN:=λi σ HH=>∃(u4:Option V) (xo:YG) (os:List (Int×Nat)),σ=[jp b,some (.int (many:Int)),jp lr,jp lo,u4]/\HH ls=some (.lst (ms.map V.int))/\HH lr=some (.lst xr)/\HH lo=some (.lst xo)/\Ai (onl HH) xr (rws.map Rw.data)/\Ai (onl HH) xo (os.map outD)/\((many=0/\os=[])\/(0 < many/\os.map (·.1)=ms.take i))/\(∀o∈os,o.2 < many)/\Bt HH b (m+3+7*many+16+2*i)/\Ah b H HH;refine Ue (xs:=ms.map V.int) J2 ⟨none,[],[],rq,c9,c1,co,rr,.nil,?_,(λo ho=>by cases ho),hb9.mono (by omega),sb9⟩ (λi σ HH _ h=>?_) (λi x σ HH hx h=>?_) (fun σ HH h=>?_)
 ·by_cases z:many=0
  ·exact .inl ⟨z,rq⟩
  ·exact .inr ⟨by omega,by rw[List.take_zero];rfl⟩
 ·obtain⟨u4,xo,os,rfl,g1,_⟩:=h;exact SqL.of g1
 ·obtain⟨u4,xo,os,rfl,g1,g2,g3,g4,g5,g6,g7,g8,g9⟩:=h;rw[Qbc] at hx;obtain⟨a,ha,rfl⟩:=Qar.mp hx;have hi:=(Qae.mp ha).1;refine CW ⟨_,rq,_,_,rq,rq,_,rq,Mw (λc=>?_) (λc=>?_)⟩
  ·have c:0 < many:=by have:=Qbb c;omega
   have g6:os.map (·.1)=ms.take i:=by
    rcases g6 with⟨z,_⟩|⟨_,z⟩
    ·omega
    ·exact z
   have lo_:os.length=i:=by have:=congrArg List.length g6;rw[Qbw,Qbn] at this;omega
   have lxo:=Ai.len g5;rw[Qbw] at lxo;refine⟨_,rq,.inl ⟨rq,_,SqL.of g3⟩,_,rq,_,rq,_,rq,b,_,many,rq,g8,by omega,by omega,by omega,λr5 HA r50 r51 hbA sbA=>⟨_,rq,_,_,rq,rq,Ao (by show 2<=1000;decide),λl2 hl2=>?_⟩⟩;have sB:=Ae hl2 (.lst [.int r5,.int ((many:Int) - 1)]);have cB:upd HA l2 (.lst [.int r5,.int ((many:Int) - 1)]) l2=some (.lst [.int r5,.int ((many:Int) - 1)]):=Ad;have nbB:=hbA.nb hl2;have hbB:=hbA.same sB;have sAB:=sbA.trans (Ah.of sB);show tCB _ _ _ (upd HA l2 (.lst [.int r5,.int ((many:Int) - 1)])) _;generalize upd HA l2 (.lst [.int r5,.int ((many:Int) - 1)])=HB at *;refine⟨_,rq,b,_,3,rq,hbB,by omega,by decide,by decide,λr6 HC r60 r61 hbC sbC=>⟨rq,.inr ⟨_,rq,?_⟩⟩⟩;obtain⟨v,hv,ev⟩:=iQ (decide (V.int r6=V.int 0)) (V.int r5) (V.int ((many:Int) - 1));have:∃n:Nat,v=.int (n:Int)/\n < many:=by
    rcases ev with rfl | rfl
    ·exact⟨r5.toNat,by rw[Int.toNat_of_nonneg r50],by omega⟩
    ·exact⟨many - 1,by rw[show ((many - 1:Nat):Int)=(many:Int) - 1 by omega],by omega⟩
   obtain⟨n,rfl,hn⟩:=this;refine⟨l2,_,_,_,rq,rq,SqL.of (sbC _ _ cB nbB.symm),hv,Ao (by show 2<=1000;decide),λto hto=>?_⟩;have sD:=Ae hto (.tup [.int a,.int (n:Int)]);have cD:upd HC to (.tup [.int a,.int (n:Int)]) to=some (.tup [.int a,.int (n:Int)]):=Ad;have hbD:=hbC.same sD;have sAD:=sAB.trans (sbC.trans (Ah.of sD));generalize upd HC to (.tup [.int a,.int (n:Int)])=HD at *;have cO:=sAD _ _ g3 nbo.symm;refine⟨lo,_,_,rq,rq,cO,Ba (by omega),?_⟩;have tu:BJ HD (upd HD lo (.lst (xo++[.ref to]))):=BJ.upd (RM cO);have tA:=(sAD.tup g8.Ho).trans tu;refine⟨_,_,os++[(a,n)],rq,by rw[Bk nso];exact sAD _ _ g1 nbs.symm,by rw[Bk nro];exact sAD _ _ g2 nbr.symm,Ad,Ai.same (Dh tA) g4,?_,.inr ⟨c,by rw[Qbx,g6,Qcp ha];rfl⟩,?_,(hbD.Jk Ah.upd nbo).mono (by omega),Ah.Kd (g9.trans sAD) Ah.upd flo⟩
   ·rw[Qbx];exact Ai.snoc (Ai.same (Dh tA) g5) (.tup (Dp (tu _ _ cD)) (.cons (.int _) (.cons (.int _) .nil)))
   ·intro o ho;rcases Qbz.mp ho with ho | ho
    ·exact g7 o ho
    ·rw[QaR.mp ho];exact hn
  ·have c:many=0:=by have:¬((many:Int) > 0):=λz=>c (QbM z);omega
   refine⟨_,xo,os,rq,g1,g2,g3,g4,g5,.inl ⟨c,?_⟩,g7,g8.mono (by omega),g9⟩;rcases g6 with⟨_,z⟩|⟨z,_⟩
   ·exact z
   ·omega
 ·obtain⟨u4,xo,os,rfl,g1,g2,g3,g4,g5,g6,g7,g8,g9⟩:=h;rw[Qbw] at g6 g8;rw[Qbp] at g6;refine⟨_,rq,lr,_,rq,.inl ⟨SqL.of g2,λtr htr=>?_⟩⟩;have sA:=Ae htr (.tup xr);have cA:upd HH tr (.tup xr) tr=some (.tup xr):=Ad;generalize upd HH tr (.tup xr)=HA at *;refine⟨_,rq,lo,_,rq,.inl ⟨SqL.of (sA _ _ g3),λto hto=>?_⟩⟩;have sB:=Ae hto (.tup xo);have cB:upd HA to (.tup xo) to=some (.tup xo):=Ad;generalize upd HA to (.tup xo)=HB at *;refine⟨Ao (by show 2<=1000;decide),λt ht=>?_⟩;have sC:=Ae ht (.tup [.ref tr,.ref to]);have sAC:=sA.trans (sB.trans sC);refine q t rws os _ ⟨tr,to,xr,xo,Ad,sC _ _ (sB _ _ cA),sC _ _ cB,Ai.same (Dh (BJ.of sAC)) g4,Ai.same (Dh (BJ.of sAC)) g5⟩ ⟨e4,by omega,?_,?_,?_⟩ ((g8.same sAC).mono (by omega)) (g9.trans (Ah.of sAC))
  ·rcases g6 with⟨_,rfl⟩|⟨_,z⟩
   ·exact Qci _
   ·have:=congrArg List.length z;rw[Qbw] at this;omega
  ·intro o ho;rcases g6 with⟨_,rfl⟩|⟨_,z⟩
   ·cases ho
   ·have hm':o.1∈ms:=by rw[<-z];exact List.mem_map_of_mem ho
    have:=f3 _ ((mem _).mp hm');exact⟨this.1,this.2,by rw[e3];exact g7 o ho⟩
  ·rcases g6 with⟨_,rfl⟩|⟨_,z⟩
   ·rfl
   ·rw[z];exact Oz up
end
abbrev Gg:Stmt:=top 25
abbrev Gi:YF:=["_law_bag_here","_law_told"]
abbrev xk:YF:=["_law_bag_here","_law_told","_law_most","_law_warned","_law_turned"]
theorem GZ:Bq xk Gi (Ak Gg):=by ac_rfl
section
variable {P:Program} {w:World} {K:YD} {mg:YB} {base:Heap}
abbrev xu:YF:=["_law_address","_law_most","_law_bag_here"]
theorem Ws (C:Code K mg "_law_brought" Gg Gi) (T:Tc mg) (Bf:Good P w K mg base "_law_take" 1 Eb Jz):Good P w K mg base "_law_brought" 2 Gi QL:=by
 refine C.good GZ (λvs H Q E h=>?_) (λf cdv A outer s H vs Q E hr h=>?_)
 ·obtain⟨b,l,m,ns,rfl,_⟩:=h;rfl
 obtain⟨b,lt,m,ns,rfl,hb,hm,nbt,hlt,l8,q⟩:=h;refine⟨_,(@Af _ _ _ _ _ (@Bv _ _ 2 _ _ _ _ GZ.nd rfl (Or.inr rfl) (@Al _ _ _ _ _ _ _ Bp (BK (Aa Ab (Aa Ab (Aa Ab (Aa Ab Ac))))) (Am Bf hr (Aa (pv 0) (Aa Ab Ac))) (λ_ _=>rfl)) (by rfl) (by first | exact .inl rfl | exact .inr rfl))
 (@Af _ _ _ _ _ (KD (i:=3) GZ.nd rfl (Or.inl rfl) (N':=xu) rfl (Bx.of (src:=[none,some 2,some 0]) (Ak Gg) xk rfl rfl rfl (by trivial) (by trivial) (by trivial) rfl (by trivial)) (KH (pv 1)) (λ_ _ _ _=>(Bb (i:=0) (show List.Nodup (xu:YF) by trivial) rfl (Or.inl rfl))) (λ_ _ _ _=>(KJ (PW.pt (O1 (Bh Jp (pv 1) Ab (Bc _)) (PN (Bh Cp (Am Bf hr (Aa (pv 2) (Aa (pv 1) Ac))) Ab (Bc _))))))) (λ_ _ _ _=>(pv 0)))
 (@Af _ _ _ _ _ (Bm (Bh Cp (Am Bf hr (Aa (pv 0) (Aa Ab Ac))) Ab (Bc _)) (@Ag _ _ _ (Ej (Hh Qan Qak Qal Dd (pv 3) (Aa (@Ax _ _ _ _ _ _ _ _ CV Ab (Am Bf hr (Aa (pv 0) (Aa Ab Ac)))) Ac)))) Bg)
 (@Af _ _ _ _ _ (KD (i:=4) GZ.nd rfl (Or.inl rfl) (N':=["_law_key","_law_bag_here"]) rfl (Bx.of (src:=[none,some 0]) (Ak Gg) xk rfl rfl rfl (by trivial) (by trivial) (by trivial) rfl (by trivial)) (Er rfl T.range (Aa Ab Ac)) (λ_ _ _ _=>(Bb (i:=0) (show List.Nodup (["_law_key","_law_bag_here"]:YF) by trivial) rfl (Or.inl rfl))) (λ_ _ _ _=>(KJ (Bh Cp (Am Bf hr (Aa (pv 1) (Aa Ab Ac))) Ab (Bc _)))) (λ_ _ _ _=>(pv 0)))
 (@Ag _ _ _ (@Aq _ _ _ _ (Bs (Aa (Cq CP rfl T.tuple BZ (Aa (CT Kz (Jo rfl rfl T.sorted rfl T.set (Aa (pv 3) Ac)) Dw (Dc Ab)) Ac)) (Aa (Cq CP rfl T.tuple BZ (Aa (pv 4) Ac)) (Aa (Am Bf hr (Aa (pv 0) (Aa Ab Ac))) Ac)))))))))),?_⟩
 show let R0:TS:=_;let R1:TS:=Aw _ R0;let R2:TS:=_;let R3:TS:=Aw (BX _ R2 _) R1;let R4:TS:=Aw _ R3;Aw _ R4 _ _ _;intro R0 R1 R2 R3 R4;refine⟨Ao (by show 4<=1000;decide),λl4 hl4=>?_⟩;have s1:=Ae hl4 (.lst [.int 0,.int 2,.int 3,.int 1]);have c1:upd H l4 (.lst [.int 0,.int 2,.int 3,.int 1]) l4=some (.lst [.int 0,.int 2,.int 3,.int 1]):=Ad;have nb1:=hb.nb hl4;have hb1:=hb.same s1;generalize upd H l4 (.lst [.int 0,.int 2,.int 3,.int 1])=H1 at *;refine⟨_,rq,b,_,4,rq,hb1,by omega,by decide,by decide,λr H2 r0 r1 hb2 sb2=>?_⟩;obtain⟨most,jM,m0,m3⟩:=pL r0 r1;have s2:Ah b H H2:=(Ah.of s1).trans sb2;refine⟨l4,_,_,_,rq,rq,SqL.of (sb2 _ _ c1 nb1.symm),jM,?_⟩;have hlt2:=s2 _ _ hlt nbt.symm;refine⟨_,rq,lt,rq,⟨_,SqL.of hlt2⟩,λlw hlw=>?_⟩;have nbw:=hb2.nb hlw;have flw:H lw=none:=s2.free hb2.ex hlw;have ntw:lt≠lw:=Ay hlt2 hlw;let J0:YN:=λi σ HH=>∃(u:Option V) (ws:List Int),σ=[u,some (.int most),jp b]/\HH lw=some (.lst (ws.map V.int))/\ws.length<=i/\Bt HH b (m+1+i)/\Ah b H HH;refine MJ (xs:=ns.map V.int) J0 ⟨_,[],rq,Ad,Qch _,hb2.same (Ae hlw _),s2.trans (Ah.of (Ae hlw _))⟩ (λi σ HH _ h=>?_) (λi x σ HH hx h=>?_) (fun σ HH h=>?_)
 ·obtain⟨u,ws,rfl,e1,e2,e3,e4⟩:=h;exact SqL.of (e4 _ _ hlt nbt.symm)
 ·obtain⟨u,ws,rfl,e1,e2,e3,e4⟩:=h;rw[Qbc] at hx;obtain⟨a,ha,rfl⟩:=Qar.mp hx;have hi:=(Qae.mp ha).1;refine CW ⟨_,rq,_,_,rq,rq,_,rq,Mw (λc=>?_) (λc=>Bd ⟨_,ws,rq,e1,by omega,e3.mono (by omega),e4⟩)⟩;have c:0 < most:=Qbb c;refine⟨_,rq,_,rq,b,_,most,rq,e3,by omega,c,by omega,λr' H3 r0' r1' hb3 sb3=>⟨rq,_,rq,ifN (λe=>?_) (λe=>⟨_,ws,rq,sb3 _ _ e1 nbw.symm,by omega,hb3.mono (by omega),e4.trans sb3⟩)⟩⟩;refine⟨_,rq,_,sb3 _ _ e1 nbw.symm,Ba (by rw[Qbw];omega),_,ws++[a],rq,by rw[Ad,Qbx];rfl,by rw[QaM,Qax];omega,(hb3.Jk Ah.upd nbw).mono (by omega),Ah.Kd (e4.trans sb3) Ah.upd flw⟩
 obtain⟨u,ws,rfl,e1,e2,e3,e4⟩:=h;rw[Qbw] at e2 e3;refine CW ?_;dsimp only;show Aw (BX _ _ _) _ _ _ _;refine NK (fun σ' HX=>∃(ws':List Int),σ'=[jp b,jp lt,some (.int most),jp lw,none]/\HX lw=some (.lst (ws'.map V.int))/\ws'.length<=9/\Bt HX b (m+12)/\Ah b H HX) (fun σ' HX hP=>?_) (λhR=>?_)
 ·obtain⟨ws',rfl,g1,g2,g3,g4⟩:=hP;refine⟨_,rq,by decide,by decide,λlk hlk=>?_⟩;have nbk:=g3.nb hlk;have flk:H lk=none:=g4.free g3.ex hlk;have nwk:lw≠lk:=Ay g1 hlk;let J1:YN:=λi σ HH=>∃(u:Option V) (ks:List Int),σ=[u,jp b]/\HH lk=some (.lst (ks.map V.int))/\ks.length<=i/\Bt HH b (m+12+i)/\HH lw=some (.lst (ws'.map V.int))/\Ah b H HH;refine Gb (n:=10) J1 ⟨_,[],rq,Ad,Qch _,g3.same (Ae hlk _),Ae hlk _ _ _ g1,g4.trans (Ah.of (Ae hlk _))⟩ (λi σ HH hi h=>?_) (fun σ HH h=>?_)
  ·obtain⟨u,ks,rfl,f1,f2,f3,f4,f5⟩:=h;refine CW ⟨_,rq,b,_,3,rq,f3,by omega,by decide,by decide,λr' H3 r0' r1' hb3 sb3=>⟨rq,_,rq,ifN (λe=>?_) (λe=>⟨_,ks,rq,sb3 _ _ f1 nbk.symm,by omega,hb3,sb3 _ _ f4 nbw.symm,f5.trans sb3⟩)⟩⟩;refine⟨_,rq,_,sb3 _ _ f1 nbk.symm,Ba (by rw[Qbw];omega),_,ks++[_],rq,by rw[Ad,Qbx];rfl,by rw[QaM,Qax];omega,hb3.Jk Ah.upd nbk,by rw[Bk nwk];exact sb3 _ _ f4 nbw.symm,Ah.Kd (f5.trans sb3) Ah.upd flk⟩
  obtain⟨u,ks,rfl,f1,f2,f3,f4,f5⟩:=h;refine⟨_,rq,lw,ws',rq,.inl (SqL.of f4),by omega,λms ls up mem hls=>?_⟩;have s6:=Ae hls (.lst (ms.map V.int));have c6:upd HH ls (.lst (ms.map V.int)) ls=some (.lst (ms.map V.int)):=Ad;generalize upd HH ls (.lst (ms.map V.int))=H6 at *;refine⟨_,rq,ls,_,rq,SqL.of c6,λlc hlc=>?_⟩;rw[jZ];have s7:=Ae hlc (.lst ((ms.take 30).map V.int));have c7:upd H6 lc (.lst ((ms.take 30).map V.int)) lc=some (.lst ((ms.take 30).map V.int)):=Ad;generalize upd H6 lc (.lst ((ms.take 30).map V.int))=H7 at *;refine⟨lc,_,rq,.inl ⟨SqL.of c7,λtw htw=>?_⟩⟩;have s8:=Ae htw (.tup ((ms.take 30).map V.int));have c8:upd H7 tw (.tup ((ms.take 30).map V.int)) tw=some (.tup ((ms.take 30).map V.int)):=Ad;generalize upd H7 tw (.tup ((ms.take 30).map V.int))=H8 at *;have s68:=s6.trans (s7.trans s8);refine⟨_,rq,lk,_,rq,.inl ⟨SqL.of (s68 _ _ f1),λtk htk=>?_⟩⟩;have s9:=Ae htk (.tup (ks.map V.int));have c9:upd H8 tk (.tup (ks.map V.int)) tk=some (.tup (ks.map V.int)):=Ad;generalize upd H8 tk (.tup (ks.map V.int))=H9 at *;have hb9:=f3.same (s68.trans s9);refine⟨_,rq,b,_,24,rq,hb9,by omega,by decide,by decide,λhh HA h0 h1 hbA sbA=>⟨Ao (by show 3<=1000;decide),λt ht=>?_⟩⟩;have sB:=Ae ht (.tup [.ref tw,.ref tk,.int hh]);have tu:=(sbA.tup hb9.Ho).trans (BJ.of sB);exact q t (ms.take 30) ks hh _ ⟨tw,tk,Ad,tu _ _ (s9 _ _ c8),tu _ _ c9⟩ ((hbA.same sB).mono (by omega)) (f5.trans ((Ah.of (s68.trans s9)).trans (sbA.trans (Ah.of sB))))
 ·refine⟨_,rq,b,_,4,rq,e3,by omega,by decide,by decide,λr' H3 r0' r1' hb3 sb3=>⟨rq,_,rq,ifN (λe=>?_) (λe=>hR _ _ ⟨ws,rq,sb3 _ _ e1 nbw.symm,by omega,hb3.mono (by omega),e4.trans sb3⟩)⟩⟩;refine⟨_,rq,.inl ⟨rq,_,SqL.of (sb3 _ _ e1 nbw.symm)⟩,_,rq,b,_,99,rq,hb3,by omega,by decide,by decide,λr5 H4 r50 r51 hb4 sb4=>⟨_,_,rq,rq,lw,_,_,rq,rq,sb4 _ _ (sb3 _ _ e1 nbw.symm) nbw.symm,Ba (by rw[Qbw];omega),?_⟩⟩;exact hR _ _ ⟨ws++[1+r5],rq,by rw[Ad,Qbx];rfl,by rw[QaM,Qax];omega,(hb4.Jk Ah.upd nbw).mono (by omega),Ah.Kd (e4.trans (sb3.trans sb4)) Ah.upd flw⟩
end
abbrev Mq:Stmt:=top 32
abbrev Jb:YF:=["_law_bag_here","_law_thing"]
theorem Jj:Bq ["_law_bag_here","_law_thing","_law_way","_law_some"] Jb (Ak Mq):=by ac_rfl
theorem cX {s:String} {c:Nat} (h:c∈(Str.ofString s).cps.toList):∃ch∈s.toList,ch.toNat=c:=by
 rw[PyProof.Rows.signs_ofString] at h;obtain⟨ch,h1,h2⟩:=Qce.mp h;exact⟨ch,h1,h2⟩
theorem fj {w k:Nat} {z:Str} (h:Sl w k (.str z)):Sl (w+1) k (.str (z++"a")):=by
 obtain⟨h1,h2⟩:=h.Wa;refine Mj ?_ λc hc=>?_
 ·show (z.cps++(Str.ofString "a").cps).size<=w+1;rw[Array.size_append];have:(Str.ofString "a").cps.size=1:=by trivial
  have h1:z.cps.size<=w:=h1;omega
 ·have hc:c∈(z.cps++(Str.ofString "a").cps).toList:=hc;rw[Array.toList_append] at hc;rcases Qbz.mp hc with hc | hc
  ·exact h2 c hc
  ·have:(Str.ofString "a").cps.toList=[97]:=by trivial
   rw[this] at hc;rw[QaR.mp hc]
   decide
theorem eZ {w k:Nat} {z:Str} (h:Sl w k (.str z)) (lo hi:Option Int):Sl w k (.str (Txt.slice z lo hi)):=by
 obtain⟨h1,h2⟩:=h.Wa;refine Mj (Qcd (Txt.slice_le z lo hi) h1) λc hc=>?_;unfold Txt.slice at hc;split at hc
 ·exact h2 c hc
 ·have hc:=List.mem_toArray.mp (Array.mem_toList_iff.mp hc);obtain⟨i,_,hi⟩:=List.mem_filterMap.mp hc;exact h2 c (Array.mem_toList_iff.mpr (Array.mem_of_getElem? hi))
theorem jr {w k:Nat} {z:Str} (h:Sl w k (.str z)):Sl w k (.str (Txt.upper z)):=by
 obtain⟨h1,h2⟩:=h.Wa;rw[PyProof.Rows.upper_ascii h2];refine Mj ?_ λc hc=>?_
 ·show (z.cps.map PyProof.Rows.up1).size<=w;rw[Array.size_map];exact h1
 ·have hc:c∈(z.cps.map PyProof.Rows.up1).toList:=hc;rw[Array.toList_map] at hc;obtain⟨a,ha,rfl⟩:=Qce.mp hc;have:=h2 a ha;unfold PyProof.Rows.up1;split <;> omega
theorem eV {w k:Nat} (hw:1<=w) {i:Int} (h:i.natAbs < 10 ^ w):Sl (w+1) k (.str (toString i)):=by
 refine Mj ?_ λc hc=>?_
 ·show (Str.ofString (toString i)).length<=w+1;rw[ofString_length];exact int_text_length_le10 (by omega) h
 ·obtain⟨ch,h1,rfl⟩:=cX hc;exact int_ascii i ch h1
theorem gD {w:Nat} (hw:w<=500) {i:Int} (h:i.natAbs < 10 ^ w):i.natAbs.log2 < 1920:=by
 by_cases z:i.natAbs=0
 ·rw[z];decide
 ·rw[Nat.log2_lt z];refine QaP h (Qcd (Nat.pow_le_pow_right (by decide) hw) ?_)
  decide +kernel
theorem Vm {w k:Nat} {i:Int} (h:i.natAbs < 10 ^ w) (j:Int) (hj:j.natAbs<=1):Sl (w+1) k (.int (i+j)):=by
 refine Sw ?_;have:10 ^ (w+1)=10 ^ w*10:=Nat.pow_succ ..;have p:1<=10 ^ w:=Qcd Nat.one_le_two_pow (Nat.pow_le_pow_left (by decide) w);omega
theorem Vu {xs:YG} {lo hi:Option Int} {y:V} (h:y∈CZ xs lo hi):y∈xs:=by
 unfold CZ at h;exact QaD (List.mem_of_mem_take h)
theorem Uw {i:Int} (h0:0<=i) (h1:i < 9) {a0 a1 a2 a3 a4 a5 a6 a7 a8:V} (P:V->Prop) (p0:P a0) (p1:P a1) (p2:P a2) (p3:P a3) (p4:P a4) (p5:P a5) (p6:P a6) (p7:P a7) (p8:P a8):∃v,atI [a0,a1,a2,a3,a4,a5,a6,a7,a8] i=some v/\P v:=by
 have:i=0\/i=1\/i=2\/i=3\/i=4\/i=5\/i=6\/i=7\/i=8:=by omega
 rcases this with rfl | rfl | rfl | rfl | rfl | rfl | rfl | rfl | rfl
 ·exact⟨_,rq,p0⟩
 ·exact⟨_,rq,p1⟩
 ·exact⟨_,rq,p2⟩
 ·exact⟨_,rq,p3⟩
 ·exact⟨_,rq,p4⟩
 ·exact⟨_,rq,p5⟩
 ·exact⟨_,rq,p6⟩
 ·exact⟨_,rq,p7⟩
 ·exact⟨_,rq,p8⟩
theorem pK {i:Int} (h0:0<=i) (h1:i < 6) {a0 a1 a2 a3 a4 a5:V} (P:V->Prop) (p0:P a0) (p1:P a1) (p2:P a2) (p3:P a3) (p4:P a4) (p5:P a5):∃v,atI [a0,a1,a2,a3,a4,a5] i=some v/\P v:=by
 have:i=0\/i=1\/i=2\/i=3\/i=4\/i=5:=by omega
 rcases this with rfl | rfl | rfl | rfl | rfl | rfl
 ·exact⟨_,rq,p0⟩
 ·exact⟨_,rq,p1⟩
 ·exact⟨_,rq,p2⟩
 ·exact⟨_,rq,p3⟩
 ·exact⟨_,rq,p4⟩
 ·exact⟨_,rq,p5⟩
def Ou (b:Addr) (w k:Nat) (H:Hp) (v:V):Prop:=∃d,Rep (hid b H) v d/\Sl w k d
theorem Ou.same {b:Addr} {w k:Nat} {H H':Hp} {v:V} (h:Ou b w k H v) (s:Ah b H H'):Ou b w k H' v:=by
 obtain⟨d,h1,h2⟩:=h;exact⟨d,Rep.same (Dj s) h1,h2⟩
theorem Ou.mono {b:Addr} {w k w' k':Nat} {H:Hp} {v:V} (h:Ou b w k H v) (hw:w<=w') (hk:k<=k'):Ou b w' k' H v:=by
 obtain⟨d,h1,h2⟩:=h;exact⟨d,h1,h2.mono hw hk⟩
theorem Ou.tup {b p:Addr} {w k:Nat} {H:Hp} {ys:YG} (h:H p=some (.tup ys)) (n:p≠b) (hy:∀y∈ys,Ou b w k H y) (l:ys.length<=400+w) (c:ys.countP Og<=w):Ou b w (k+1) H (.ref p):=by
 obtain⟨ds,r,s,e⟩:=PL hy;exact⟨.tuple ds,.tup (Nh n h) r,Sl.tup s (by omega) (by rw[<-N6 r];exact c)⟩
theorem Ou.lst {b p:Addr} {w k:Nat} {H:Hp} {ys:YG} (h:H p=some (.lst ys)) (n:p≠b) (hy:∀y∈ys,Ou b w k H y) (l:ys.length<=400+w):Ou b w (k+1) H (.ref p):=by
 obtain⟨ds,r,s,e⟩:=PL hy;exact⟨.list ds,.lst (Nh n h) r,Sl.lst s (by omega)⟩
theorem Ou.non (b:Addr) (w k:Nat) (H:Hp):Ou b w k H .non:=⟨_,.non,eX _ _⟩
theorem Ou.bl (b:Addr) (w k:Nat) (H:Hp) (x:Bool):Ou b w k H (.bl x):=⟨_,.bl x,ju _ _ _⟩
theorem Ou.i {b:Addr} {w k:Nat} {H:Hp} {i:Int} (h:i.natAbs < 1000000) (hw:30<=w):Ou b w k H (.int i):=⟨_,.int i,(eY h).mono hw (Qch _)⟩
theorem Ou.s {b:Addr} {w k:Nat} {H:Hp} {z:Str} (h:W5 z=true) (hw:30<=w):Ou b w k H (.str z):=⟨_,.str z,(XF h).mono hw (Qch _)⟩
def tT9:TE:=fun σ H Q=>∃(t:Addr) (xs:YG),σ[1]?=some (some (.ref t))/\H t=some (.tup xs)/\xs.length<=900/\∀l vs H',H' l=some (.lst vs)->vs.length=9->Same H H'->(∀v∈vs,∃p ys,v=.ref p/\(H' p=some (.tup ys)\/(H' p=some (.lst ys)/\H p=none))/\(∀y∈ys,y∈xs\/y=.ref t\/y=.int 1\/y=.str "not")/\(ys.length<=xs.length+1\/ys.length<=2)/\ys.countP Og<=xs.countP Og+1)->Q (.ref l) H'
def tS9:TE:=fun σ H Q=>∃z:Str,σ[1]?=some (some (.str z))/\z.length<=900/\∀l H',H' l=some (.lst [.str (z++"a"),.str (Txt.slice z none (some (-1))),.str (Txt.upper z),.str "",.str "and",.str "then",.str "of",.str "key",.str "not"])->Same H H'->Q (.ref l) H'
def tI9:TE:=fun σ H Q=>∃(v:V) (i:Int) (z:Str),σ[1]?=some (some v)/\Zy v=some i/\((∃j:Int,v=.int j/\j.natAbs.log2 < 1920/\z=toString j)\/∃x:Bool,v=.bl x/\z=(if x=true then Str.ofString "True" else Str.ofString "False"))/\∀l8 l H',H' l=some (.lst [.int (i+1),.int (i - 1),.int 0,.int 1,.int 10,.int 24,.int 21,.ref l8,.str z])->H' l8=some (.lst [v])->H l8=none->Same H H'->Q (.ref l) H'
def tO9:TE:=λ_ H Q=>∀l p2 p3 p6 H',H' l=some (.lst [.non,.ref p2,.ref p3,.str "key",.int 0,.ref p6,.bl true,.str "",.int 5])->H' p2=some (.lst [])->H p2=none->H' p3=some (.tup [])->H' p6=some (.tup [.str "key",.int 1])->Same H H'->Q (.ref l) H'
def tX6:TE:=λ_ H Q=>∀l H',H' l=some (.lst [.non,.bl true,.bl false,.str "",.int (-1),.int (10 ^ (20:Int).toNat)])->H l=none->Same H H'->Q (.ref l) H'
def Vi:Sp:=λvs H Q _=>∃(b:Addr) (v:V) (m w k:Nat) (d:PyData),vs=[.ref b,v]/\Bt H b m/\m<=9000/\Rep (hid b H) v d/\Sl w k d/\30<=w/\w<=400/\∀v' H',Ou b (w+1) (k+2) H' v'->Bt H' b (m+2)->Ah b H H'->Q v' H'
section
variable {P:Program} {w:World} {K:YD} {mg:YB} {base:Heap}
theorem Zv (c:Code K mg "_law_other" Mq Jb) (T:Tc mg) (Bf:Good P w K mg base "_law_take" 1 Eb Jz):Good P w K mg base "_law_other" 2 Jb Vi:=by
 refine c.good Jj (λvs H Q E h=>?_) (λf cdv A outer s H vs Q E hr h=>?_)
 ·obtain⟨b,v,m,w,k,d,rfl,_⟩:=h;rfl
 obtain⟨b,v,m,w,k,d,rfl,hb,hm,rd,sl,w30,Zc,q⟩:=h;refine⟨_,(@Af _ _ _ _ _ (@Bv _ _ 2 _ _ _ _ Jj.nd rfl (Or.inl rfl) (Am Bf hr (Aa (pv 0) (Aa Ab Ac))) (by rfl) (by first | exact .inl rfl | exact .inr rfl))
 (@Af _ _ _ _ _ (Bm (Bh Cp (pv 2) Ab (Bc _)) (@Ag _ _ _ (@Aq _ _ _ _ (@Al _ _ _ _ _ _ _ Bp (@PE.weak _ _ _ tX6 (@BK _ _ _ _ (@Aa _ _ _ _ _ (@Yg _ _ _) (@Aa _ _ _ _ _ (@Ca _ _ _ _) (@Aa _ _ _ _ _ (@Ca _ _ _ _) (@Aa _ _ _ _ _ (@Bj _ _ _ _) (@Aa _ _ _ _ _ (@Lf _ _ _ _ _ _ Jx (@Ab _ _ _ _)) (@Aa _ _ _ _ _ (@Ax _ _ _ _ _ _ _ _ Ti Ab Ab) (@Ac _) Mi) jq) Bo) Bo) Bo) Bo)) (fun σ H Q h=>by
    refine⟨_,rq,_,_,rq,rq,⟨by decide,by decide,by decide⟩,Ao (by show 6<=1000;decide),λl fl=>?_⟩;exact h l _ Ad fl (Ae fl _))) (Am Bf hr (Aa (pv 0) (Aa Ab Ac))) (λ_ _=>rfl)))) Bg)
 (@Af _ _ _ _ _ (Bm (BW (Ar Cg rfl T.isinstance Br (Aa (pv 1) (Aa (Cz (v:=.ty "tuple") rfl T.tuple BZ rfl) Ac)))) (@Af _ _ _ _ _ (@Bv _ _ 3 _ _ _ _ Jj.nd rfl (Or.inl rfl) (@PE.weak _ _ _ tT9 (@BK _ _ _ _ (@Aa _ _ _ _ _ (Cq MN rfl T.list Vy (Aa (pv 1) Ac)) (@Aa _ _ _ _ _ (CT GC (pv 1) Dw (Dc (Lf Jx Ab))) (@Aa _ _ _ _ _ (@Ax _ _ _ _ _ _ _ _ Hz (pv 1) (Bs (Aa Ab Ac))) (@Aa _ _ _ _ _ (@Bs _ _ _ _ _ (Aa Bj (Aa (pv 1) Ac))) (@Aa _ _ _ _ _ (@Bs _ _ _ _ _ (Aa (pv 1) Ac)) (@Aa _ _ _ _ _ (Ye (pv 1) (Dc (Lf Jx Ab))) (@Aa _ _ _ _ _ (@Bs _ _ _ _ _ (@Ac _)) (@Aa _ _ _ _ _ (CT GC (pv 1) (Dc Ab) Dw) (@Aa _ _ _ _ _ (pv 1) (@Ac _) bO) Mh) Mg) Mh) Mg) Mg) Mi) Mh) Pz)) (fun σ H Q h=>by
    obtain⟨t,xs,e1,ht,hx,q⟩:=h;refine⟨_,e1,t,_,rq,.inr (SqT.of ht),λp1 f1=>?_⟩;have z1:=Ae f1 (.lst xs);have c1:upd H p1 (.lst xs) p1=some (.lst xs):=Ad;generalize upd H p1 (.lst xs)=G1 at *;refine⟨_,e1,_,rq,_,rq,t,_,rq,z1 _ _ ht,λp2 G2 c2 s2=>?_⟩;have z2:=z1.trans s2;refine⟨_,e1,Ao (by show 1<=1000;decide),λp3 f3=>?_⟩;have s3:=Ae f3 (.tup [.int 1]);have c3:upd G2 p3 (.tup [.int 1]) p3=some (.tup [.int 1]):=Ad;generalize upd G2 p3 (.tup [.int 1])=G3 at *;have z3:=z2.trans s3;refine⟨t,p3,_,_,rq,rq,z3 _ _ ht,c3,Ao (by show _+1<=1000;omega),λp4 G4 c4 s4=>?_⟩;have z4:=z3.trans s4;refine⟨_,e1,Ao (by show 2<=1000;decide),λp5 f5=>?_⟩;have s5:=Ae f5 (.tup [.str "not",.ref t]);have c5:upd G4 p5 (.tup [.str "not",.ref t]) p5=some (.tup [.str "not",.ref t]):=Ad;generalize upd G4 p5 (.tup [.str "not",.ref t])=G5 at *;have z5:=z4.trans s5;refine⟨_,e1,Ao (by show 1<=1000;decide),λp6 f6=>?_⟩;have s6:=Ae f6 (.tup [.ref t]);have c6:upd G5 p6 (.tup [.ref t]) p6=some (.tup [.ref t]):=Ad;generalize upd G5 p6 (.tup [.ref t])=G6 at *;have z6:=z5.trans s6;refine⟨_,e1,_,rq,_,rq,rq,t,_,rq,SqT.of (z6 _ _ ht),λp7 f7=>?_⟩;have s7:=Ae f7 (.tup xs.reverse);have c7:upd G6 p7 (.tup xs.reverse) p7=some (.tup xs.reverse):=Ad;generalize upd G6 p7 (.tup xs.reverse)=G7 at *;have z7:=z6.trans s7;refine⟨Ao (by show 0<=1000;decide),λp8 f8=>?_⟩;have s8:=Ae f8 (.tup []);have c8:upd G7 p8 (.tup []) p8=some (.tup []):=Ad;generalize upd G7 p8 (.tup [])=G8 at *;have z8:=z7.trans s8;refine⟨_,e1,_,rq,t,_,rq,z8 _ _ ht,λp9 G9 c9 s9=>?_⟩;have z9:=z8.trans s9;refine⟨_,e1,Ao (by show 9<=1000;decide),λl fl=>?_⟩;have s10:=Ae fl (.lst [.ref p1,.ref p2,.ref p4,.ref p5,.ref p6,.ref p7,.ref p8,.ref p9,.ref t]);have cl:upd G9 l (.lst [.ref p1,.ref p2,.ref p4,.ref p5,.ref p6,.ref p7,.ref p8,.ref p9,.ref t]) l=some (.lst [.ref p1,.ref p2,.ref p4,.ref p5,.ref p6,.ref p7,.ref p8,.ref p9,.ref t]):=Ad;have zA:=z9.trans s10;have k9:=s9.trans s10;have k8:=s8.trans k9;have k7:=s7.trans k8;have k6:=s6.trans k7;have k5:=s5.trans k6;have k4:=s4.trans k5;have k3:=s3.trans k4;have k2:=s2.trans k3;generalize upd G9 l (.lst [.ref p1,.ref p2,.ref p4,.ref p5,.ref p6,.ref p7,.ref p8,.ref p9,.ref t])=GA at *;refine q l _ GA cl rfl zA ?_;refine Cu ⟨p1,xs,rq,.inr ⟨k2 _ _ c1,f1⟩,λy hy=>.inl hy,.inl (by omega),Qck _⟩ ?_;refine Cu ⟨p2,_,rq,.inl (k3 _ _ c2),λy hy=>.inl (Vu hy),.inl (Qcd (Iu _ _ _) (by omega)),Qcd (Vw _ _ _) (Qck _)⟩ ?_;refine Cu ⟨p4,_,rq,.inl (k5 _ _ c4),λy hy=>(Qbz.mp hy).elim .inl (λz=>.inr (.inr (.inl (QaR.mp z)))),.inl (by rw[QaM];exact Qch _),(by rw[List.countP_append];exact Qch _)⟩ ?_;refine Cu ⟨p5,_,rq,.inl (k6 _ _ c5),(λy hy=>by
     have hy:y=.str "not"\/y=.ref t:=by simpa using hy
     rcases hy with h | h
     ·exact .inr (.inr (.inr h))
     ·exact .inr (.inl h)),.inr (Qch _),Qci _⟩ ?_
    refine Cu ⟨p6,_,rq,.inl (k7 _ _ c6),λy hy=>.inr (.inl (QaR.mp hy)),.inr (by show 1<=2;decide),Qci _⟩ ?_;refine Cu ⟨p7,_,rq,.inl (k8 _ _ c7),λy hy=>.inl (List.mem_reverse.mp hy),.inl (by rw[List.length_reverse];omega),(by rw[List.countP_reverse];exact Qck _)⟩ ?_;refine Cu ⟨p8,_,rq,.inl (k9 _ _ c8),(λy hy=>by cases hy),.inr (by show 0<=2;decide),Qci _⟩ ?_;refine Cu ⟨p9,_,rq,.inl (s10 _ _ c9),λy hy=>.inl (Vu hy),.inl (Qcd (Iu _ _ _) (by omega)),Qcd (Vw _ _ _) (Qck _)⟩ ?_;exact Cu ⟨t,xs,rfl,.inl (zA _ _ ht),λy hy=>.inl hy,.inl (by omega),Qck _⟩ (QaH _))) (by rfl) (by first | exact .inl rfl | exact .inr rfl))
 (@Ag _ _ _ (@Aq _ _ _ _ (@Al _ _ _ _ _ _ _ Bp (pv 3) (@Ax _ _ _ _ _ _ _ _ CK (pv 2) Ab) (λ_ _=>rfl))))) Bg)
 (@Af _ _ _ _ _ (Bm (BW (Ar Cg rfl T.isinstance Br (Aa (pv 1) (Aa (Cz (v:=.ty "str") rfl T.str Ut rfl) Ac)))) (@Af _ _ _ _ _ (@Bv _ _ 3 _ _ _ _ Jj.nd rfl (Or.inl rfl) (@PE.weak _ _ _ tS9 (@BK _ _ _ _ (@Aa _ _ _ _ _ (@Ax _ _ _ _ _ _ _ _ Wo (pv 1) Bj) (@Aa _ _ _ _ _ (CT eU (pv 1) Dw (Dc (Lf Jx Ab))) (@Aa _ _ _ _ _ (fV PySem.F.plainAttrs_str PySem.F.slot_str_upper PySem.F.type_str_upper ZK (pv 1)) (@Aa _ _ _ _ _ (@Bj _ _ _ _) (@Aa _ _ _ _ _ (@Bj _ _ _ _) (@Aa _ _ _ _ _ (@Bj _ _ _ _) (@Aa _ _ _ _ _ (@Bj _ _ _ _) (@Aa _ _ _ _ _ (@Bj _ _ _ _) (@Aa _ _ _ _ _ (@Bj _ _ _ _) (@Ac _) Bo) Bo) Bo) Bo) Bo) Bo) Pz) Mh) Mi)) (fun σ H Q h=>by
    obtain⟨z,e1,hz,q⟩:=h;refine⟨_,e1,_,_,rq,rq,Ao (by show z.length+1<=1000;omega),_,e1,_,rq,_,rq,z,rq,Ao (by show z.length<=1000;omega),_,e1,rq,z,rq,rq,by omega,Ao (by show 9<=1000;decide),λl fl=>?_⟩;exact q l _ Ad (Ae fl _))) (by rfl) (by first | exact .inl rfl | exact .inr rfl))
 (@Ag _ _ _ (@Aq _ _ _ _ (@Al _ _ _ _ _ _ _ Bp (pv 3) (@Ax _ _ _ _ _ _ _ _ CK (pv 2) Ab) (λ_ _=>rfl))))) Bg)
 (@Af _ _ _ _ _ (Bm (BW (Ar Cg rfl T.isinstance Br (Aa (pv 1) (Aa (Cz (v:=.ty "int") rfl T.int KY rfl) Ac)))) (@Ag _ _ _ (@Aq _ _ _ _ (@Al _ _ _ _ _ _ _ Bp (@PE.weak _ _ _ tI9 (@BK _ _ _ _ (@Aa _ _ _ _ _ (@Ax _ _ _ _ _ _ _ _ cR (pv 1) Ab) (@Aa _ _ _ _ _ (@Ax _ _ _ _ _ _ _ _ cN (pv 1) Ab) (@Aa _ _ _ _ _ (@Ab _ _ _ _) (@Aa _ _ _ _ _ (@Ab _ _ _ _) (@Aa _ _ _ _ _ (@Ab _ _ _ _) (@Aa _ _ _ _ _ (@Ab _ _ _ _) (@Aa _ _ _ _ _ (@Ab _ _ _ _) (@Aa _ _ _ _ _ (BK (Aa (pv 1) Ac)) (@Aa _ _ _ _ _ (Cq Y5 rfl T.str Ut (Aa (pv 1) Ac)) (@Ac _) Pz) Xx) Bo) Bo) Bo) Bo) Bo) Mi) Mi)) (fun σ H Q h=>by
    obtain⟨v,i,z,e1,hn,hz,q⟩:=h;refine⟨_,e1,i,1,hn,rq,_,e1,i,1,hn,rq,_,e1,Ao (by show 1<=1000;decide),λl8 f8=>?_⟩;have s8:=Ae f8 (.lst [v]);have c8:upd H l8 (.lst [v]) l8=some (.lst [v]):=Ad;generalize upd H l8 (.lst [v])=G8 at *;refine⟨_,e1,?_⟩;rcases hz with⟨j,rfl,hj,rfl⟩|⟨x,rfl,rfl⟩
    ·exact .inl ⟨j,rq,hj,Ao (by show 9<=1000;decide),λl fl=>q l8 l _ Ad (Ae fl _ _ _ c8) f8 (s8.trans (Ae fl _))⟩
    ·exact .inr ⟨x,rq,Ao (by show 9<=1000;decide),λl fl=>q l8 l _ Ad (Ae fl _ _ _ c8) f8 (s8.trans (Ae fl _))⟩)) (@Ax _ _ _ _ _ _ _ _ CK (pv 2) Ab) (λ_ _=>rfl)))) Bg)
 (@Ag _ _ _ (@Aq _ _ _ _ (@Al _ _ _ _ _ _ _ Bp (@PE.weak _ _ _ tO9 (@BK _ _ _ _ (@Aa _ _ _ _ _ (@Yg _ _ _) (@Aa _ _ _ _ _ (@BK _ _ _ _ (@Ac _)) (@Aa _ _ _ _ _ (@Bs _ _ _ _ _ (@Ac _)) (@Aa _ _ _ _ _ (@Bj _ _ _ _) (@Aa _ _ _ _ _ (@Ab _ _ _ _) (@Aa _ _ _ _ _ (@Bs _ _ _ _ _ (Aa Bj (Aa Ab Ac))) (@Aa _ _ _ _ _ (@Ca _ _ _ _) (@Aa _ _ _ _ _ (@Bj _ _ _ _) (@Aa _ _ _ _ _ (@Ab _ _ _ _) (@Ac _) Bo) Bo) Bo) Mg) Bo) Bo) Mg) Xx) Bo)) (fun σ H Q h=>by
    refine⟨Ao (by show 0<=1000;decide),λp2 f2=>?_⟩;have s2:=Ae f2 (.lst []);have c2:upd H p2 (.lst []) p2=some (.lst []):=Ad;generalize upd H p2 (.lst [])=G2 at *;refine⟨Ao (by show 0<=1000;decide),λp3 f3=>?_⟩;have s3:=Ae f3 (.tup []);have c3:upd G2 p3 (.tup []) p3=some (.tup []):=Ad;generalize upd G2 p3 (.tup [])=G3 at *;refine⟨Ao (by show 2<=1000;decide),λp6 f6=>?_⟩;have s6:=Ae f6 (.tup [.str "key",.int 1]);have c6:upd G3 p6 (.tup [.str "key",.int 1]) p6=some (.tup [.str "key",.int 1]):=Ad;generalize upd G3 p6 (.tup [.str "key",.int 1])=G6 at *;refine⟨Ao (by show 9<=1000;decide),λl fl=>?_⟩;have sl:=Ae fl (.lst [.non,.ref p2,.ref p3,.str "key",.int 0,.ref p6,.bl true,.str "",.int 5]);exact h l p2 p3 p6 _ Ad (sl _ _ (s6 _ _ (s3 _ _ c2))) f2 (sl _ _ (s6 _ _ c3)) (sl _ _ c6) (s2.trans (s3.trans (s6.trans sl))))) (@Ax _ _ _ _ _ _ _ _ CK (pv 2) Ab) (λ_ _=>rfl))))))))),?_⟩
 show let R0:TS:=_;let R1:TS:=_;let R2:TS:=Aw (BX _ R1 _) R0;let R3:TS:=_;let R4:TS:=Aw _ R3;let R5:TS:=Aw (BX _ R4 _) R2;let R6:TS:=_;let R7:TS:=Aw _ R6;let R8:TS:=Aw (BX _ R7 _) R5;let R9:TS:=_;let R10:TS:=Aw (BX _ R9 _) R8;Aw _ R10 _ _ _;intro R0 R1 R2 R3 R4 R5 R6 R7 R8 R9 R10;refine⟨_,rq,b,m,10,rq,hb,by omega,by decide,by decide,λway H1 w0 w1 hb1 sb1=>?_⟩;have rd1:Rep (hid b H1) v d:=Rep.same (Dj sb1) rd;have rH:=Rep.same En rd1;refine⟨_,rq,rq,_,rq,ifN (λe0=>?_) (λe0=>?_)⟩
 ·refine λl H2 c2 fl s2=>?_;have nbl:b≠l:=hb1.nb fl;have hb2:=hb1.same s2;refine⟨_,rq,b,_,6,rq,hb2,by omega,by decide,by decide,λr H3 r0 r1 hb3 sb3=>?_⟩;obtain⟨v',hv,ov⟩:=pK r0 r1 (Ou b (w+1) (k+2) H3) (Ou.non _ _ _ _) (Ou.bl _ _ _ _ _) (Ou.bl _ _ _ _ _) (Ou.s (z:="") (by trivial) (by omega)) (Ou.i (i:=-1) (by decide) (by omega)) ⟨_,.int (10 ^ (20:Int).toNat),(Sw (w:=30) (k:=0) (by decide)).mono (by omega) (Qci _)⟩;exact⟨l,_,_,_,rq,rq,SqL.of (sb3 _ _ c2 nbl.symm),hv,q _ _ ov (hb3.mono (by omega)) (sb1.trans ((Ah.of s2).trans sb3))⟩
 have wp:0<=way - 1/\way - 1 < 9:=by omega
 have fin:∀v' H',Ou b (w+1) (k+2) H' v'->Same H1 H'->Q v' H':=λv' H' ov s'=>q v' H' ov ((hb1.same s').mono (by omega)) (sb1.trans (Ah.of s'));have bt:∀{H':Hp} {p:Addr} {ys:YG},Same H1 H'->H' p=some (.tup ys)->p≠b:=λs' h e=>(hb1.same s').Ho _ (by rw[<-e];exact h);refine⟨_,rq,Dv rH.kn ⟨_,rq,?_⟩⟩;cases rd1 with
 | @tup t xs ds ht rs=>
  have htH:=En _ _ ht;rw[Ht htH];have lx:=Ai.len rs;have lw:=sl.len;have cw:=sl.few;rw[<-N6 rs] at cw;refine Av ⟨t,xs,rq,htH,by omega,λl vs H2 hl l9 s2 hvs=>?_⟩;have itm:∀y,y∈xs\/y=.ref t\/y=.int 1\/y=.str "not"->Ou b (w+1) k H2 y:=λy hy=>by
   rcases hy with hy | rfl | rfl | rfl
   ·obtain⟨i,hi,ei⟩:=QaL hy;obtain⟨dx,hdx,rx⟩:=Ai.at_ rs (i:=i) (x:=y) (by rw[Qaj hi,ei]);obtain⟨e,rfl⟩ : ∃e,k=e+1:=⟨k - 1,by have:=sl.dep;have:PyData.depthAll ds+1<=k:=this;omega⟩;exact⟨dx,Rep.same (Dj (Ah.of s2)) rx,(sl.item (Qay hdx)).mono (by omega) (by omega)⟩
   ·exact⟨_,Rep.same (Dj (Ah.of s2)) (.tup ht rs),sl.mono (by omega) (Qch _)⟩
   ·exact Ou.i (by decide) (by omega)
   ·exact Ou.s (by trivial) (by omega)
  obtain⟨j,ej⟩ : ∃j:Nat,way - 1=j:=⟨(way - 1).toNat,by omega⟩;have hj:vs[j]?=some vs[j]:=Qaj (by omega);obtain⟨p,ys,ep,hp,hy,ly,cy⟩:=hvs _ (Qay hj);have ov:Ou b (w+1) (k+2) H2 vs[j]:=by
   rw[ep];rcases hp with hp |⟨hp,fp⟩
   ·exact (Ou.tup hp (bt s2 hp) (λy h=>itm y (hy y h)) (by omega) (by omega)).mono (Qch _) (by omega)
   ·exact (Ou.lst hp (hb1.nb fp).symm (λy h=>itm y (hy y h)) (by omega)).mono (Qch _) (by omega)
  refine⟨_,rq,_,rq,_,_,rq,rq,l,_,_,_,rq,rq,SqL.of hl,?_,fin _ _ ov s2⟩;rw[ej];exact Aj hj
 | str z=>
  obtain⟨z1,z2⟩:=sl.Wa;refine Bd ⟨_,rq,Ie rH.kn ⟨_,rq,Av ⟨z,rq,by omega,λl H2 hl s2=>?_⟩⟩⟩;obtain⟨v',hv,ov⟩:=Uw wp.1 wp.2 (Ou b (w+1) (k+2) H2) ⟨_,.str _,(fj sl).mono (Qch _) (by omega)⟩ ⟨_,.str _,(eZ sl _ _).mono (by omega) (by omega)⟩ ⟨_,.str _,(jr sl).mono (by omega) (by omega)⟩
   (Ou.s (z:="") (by trivial) (by omega)) (Ou.s (z:="and") (by trivial) (by omega)) (Ou.s (z:="then") (by trivial) (by omega)) (Ou.s (z:="of") (by trivial) (by omega)) (Ou.s (z:="key") (by trivial) (by omega)) (Ou.s (z:="not") (by trivial) (by omega))
  exact⟨_,rq,_,rq,_,_,rq,rq,l,_,_,_,rq,rq,SqL.of hl,hv,fin _ _ ov s2⟩
 | int i=>
  have ii:=sl.ints;refine Bd ⟨_,rq,Ie rH.kn ⟨_,rq,Bd ⟨_,rq,Jv rH.kn ⟨_,rq,Av ⟨.int i,i,toString i,rq,rq,.inl ⟨i,rq,gD (by omega) ii,rq⟩,λl8 l H2 hl h8 f8 s2=>?_⟩⟩⟩⟩⟩;obtain⟨v',hv,ov⟩:=Uw wp.1 wp.2 (Ou b (w+1) (k+2) H2) ⟨_,.int (i+1),Vm ii 1 (by decide)⟩ ⟨_,.int (i - 1),(by rw[Int.sub_eq_add_neg];exact Vm ii (-1) (by decide))⟩ (Ou.i (i:=0) (by decide) (by omega)) (Ou.i (i:=1) (by decide) (by omega)) (Ou.i (i:=10) (by decide) (by omega)) (Ou.i (i:=24) (by decide) (by omega)) (Ou.i (i:=21) (by decide) (by omega))
   ((Ou.lst (k:=k) h8 (hb1.nb f8).symm (λy hy=>by rw[QaR.mp hy];exact⟨_,.int i,sl.mono (by omega) (Qch _)⟩) (by show 1<=400+(w+1);omega)).mono (Qch _) (by omega)) ⟨_,.str _,eV (by omega) ii⟩
  exact⟨_,rq,_,_,rq,rq,l,_,_,_,rq,rq,SqL.of hl,hv,fin _ _ ov s2⟩
 | bl x=>
  have ii:((if x=true then (1:Int) else 0)).natAbs < 1000:=by cases x <;> decide
  refine Bd ⟨_,rq,Ie rH.kn ⟨_,rq,Bd ⟨_,rq,Jv rH.kn ⟨_,rq,Av ⟨.bl x,(if x=true then 1 else 0),_,rq,rq,.inr ⟨x,rq,rq⟩,λl8 l H2 hl h8 f8 s2=>?_⟩⟩⟩⟩⟩
  obtain⟨v',hv,ov⟩:=Uw wp.1 wp.2 (Ou b (w+1) (k+2) H2) (Ou.i (i:=(if x=true then (1:Int) else 0)+1) (by omega) (by omega)) (Ou.i (i:=(if x=true then (1:Int) else 0) - 1) (by omega) (by omega)) (Ou.i (i:=0) (by decide) (by omega)) (Ou.i (i:=1) (by decide) (by omega)) (Ou.i (i:=10) (by decide) (by omega)) (Ou.i (i:=24) (by decide) (by omega)) (Ou.i (i:=21) (by decide) (by omega))
   ((Ou.lst (k:=k) h8 (hb1.nb f8).symm (λy hy=>by rw[QaR.mp hy];exact Ou.bl _ _ _ _ _) (by show 1<=400+(w+1);omega)).mono (Qch _) (by omega)) (Ou.s (z:=(if x then "True" else "False")) (by cases x <;> decide +kernel) (by omega))
  exact⟨_,rq,_,_,rq,rq,l,_,_,_,rq,rq,SqL.of hl,hv,fin _ _ ov s2⟩
 | non=>
  refine Bd ⟨_,rq,Ie rH.kn ⟨_,rq,Bd ⟨_,rq,Jv rH.kn ⟨_,rq,Bd λl p2 p3 p6 H2 hl h2 f2 h3 h6 s2=>?_⟩⟩⟩⟩;obtain⟨v',hv,ov⟩:=Uw wp.1 wp.2 (Ou b (w+1) (k+2) H2) (Ou.non _ _ _ _) ((Ou.lst (k:=k) h2 (hb1.nb f2).symm (λy hy=>by cases hy) (by show 0<=400+(w+1);omega)).mono (Qch _) (by omega)) ((Ou.tup (k:=k) h3 (bt s2 h3) (λy hy=>by cases hy) (by show 0<=400+(w+1);omega) (Qci _)).mono (Qch _) (by omega)) (Ou.s (z:="key") (by trivial) (by omega)) (Ou.i (i:=0) (by decide) (by omega))
   ((Ou.tup (k:=k) h6 (bt s2 h6) (λy hy=>by
    have hy:y=.str "key"\/y=.int 1:=by simpa using hy
    rcases hy with rfl | rfl
    ·exact Ou.s (by trivial) (by omega)
    ·exact Ou.i (by decide) (by omega)) (by show 2<=400+(w+1);omega) (by show 1<=w+1;omega)).mono (Qch _) (by omega)) (Ou.bl _ _ _ _ _) (Ou.s (z:="") (by trivial) (by omega)) (Ou.i (i:=5) (by decide) (by omega))
  exact⟨_,rq,_,_,rq,rq,l,_,_,_,rq,rq,SqL.of hl,hv,fin _ _ ov s2⟩
 | lst e r=>
  have eH:=En _ _ e;rw[Iv eH];refine Bd ⟨_,rq,Ie rH.kn ⟨_,rq,Bd ⟨_,rq,Jv rH.kn ⟨_,rq,Bd λl p2 p3 p6 H2 hl h2 f2 h3 h6 s2=>?_⟩⟩⟩⟩;obtain⟨v',hv,ov⟩:=Uw wp.1 wp.2 (Ou b (w+1) (k+2) H2) (Ou.non _ _ _ _) ((Ou.lst (k:=k) h2 (hb1.nb f2).symm (λy hy=>by cases hy) (by show 0<=400+(w+1);omega)).mono (Qch _) (by omega)) ((Ou.tup (k:=k) h3 (bt s2 h3) (λy hy=>by cases hy) (by show 0<=400+(w+1);omega) (Qci _)).mono (Qch _) (by omega)) (Ou.s (z:="key") (by trivial) (by omega)) (Ou.i (i:=0) (by decide) (by omega))
   ((Ou.tup (k:=k) h6 (bt s2 h6) (λy hy=>by
    have hy:y=.str "key"\/y=.int 1:=by simpa using hy
    rcases hy with rfl | rfl
    ·exact Ou.s (by trivial) (by omega)
    ·exact Ou.i (by decide) (by omega)) (by show 2<=400+(w+1);omega) (by show 1<=w+1;omega)).mono (Qch _) (by omega)) (Ou.bl _ _ _ _ _) (Ou.s (z:="") (by trivial) (by omega)) (Ou.i (i:=5) (by decide) (by omega))
  exact⟨_,rq,_,_,rq,rq,l,_,_,_,rq,rq,SqL.of hl,hv,fin _ _ ov s2⟩
end
abbrev K8:Stmt:=top 33
abbrev Et:YF:=Jb
theorem Ik:Bq ["_law_bag_here","_law_thing","_law_at"] Et (Ak K8):=by ac_rfl
theorem Hy {H:Hp} {v:V} {d:PyData} (r:Rep H v d):(∃t xs ds,v=.ref t/\d=.tuple ds/\H t=some (.tup xs)/\Ai H xs ds/\Ij H v=some xs)\/(Ij H v=none/\∀ds,d≠.tuple ds):=by
 cases r with
 | tup e r=>exact .inl ⟨_,_,_,rfl,rfl,e,r,Ht e⟩
 | lst e r=>exact .inr ⟨Iv e,λ_ z=>by cases z⟩
 | _=>exact .inr ⟨rfl,λ_ z=>by cases z⟩
theorem Yw (bs:List Bool):(!inV (.bl false) (bs.map V.bl))=bs.all id:=by
 induction bs with
 | nil=>rfl
 | cons b r ih=>
  have e:inV (.bl false) ((b::r).map V.bl)=(eqV (.bl b) (.bl false) || inV (.bl false) (r.map V.bl)):=rfl;rw[e,Bool.not_or,ih,List.all_cons];cases b <;> rfl
theorem Oo (bs:List Bool):(bs.map V.bl).all Ir=true:=by rw[List.all_map,Qbu];intro _ _;rfl
theorem Paired.aO {α β : Type} {F:α->β->Prop}:∀{l:List α} {r:List β} (n:Nat),Paired F l r->Paired F (l.take n) (r.take n)
 | _,_,0,_=>.nil
 | _,_,_+1,.nil=>.nil
 | _,_,n+1,.cons h t=>.cons h (Paired.aO n t)
theorem Paired.bG {α β : Type} {F:α->β->Prop}:∀{l:List α} {r:List β} (n:Nat),Paired F l r->Paired F (l.drop n) (r.drop n)
 | _,_,0,h=>h
 | _,_,_+1,.nil=>.nil
 | _,_,n+1,.cons h t=>Paired.bG n t
theorem Paired.app {α β : Type} {F:α->β->Prop}:∀{a₁ b₁ : List α} {a₂ b₂ : List β},Paired F a₁ a₂->Paired F b₁ b₂->Paired F (a₁++b₁) (a₂++b₂)
 | _,_,_,_,.nil,t=>t
 | _,_,_,_,.cons r s,t=>.cons r (Paired.app s t)
theorem iD {xs:YG} {m:Nat} (h:m<=xs.length):CZ xs none (some (m:Int))=xs.take m:=by
 unfold CZ;rw[HT.Hw,HT.Hx,QbG h];rfl
theorem Q0 {xs:YG} {k:Nat}:CZ xs (some (k:Int)) none=xs.drop k:=by
 unfold CZ;rw[HT.Hw,HT.Hx];rw[Qas (by rw[Qbq];omega)];by_cases h:k<=xs.length
 ·rw[QbG h]
 ·rw[Nat.min_eq_right (by omega),List.drop_of_length_le (by omega),List.drop_of_length_le (by omega)]
def aU (k:Nat):Sp:=λvs H Q _=>∃(b:Addr) (v:V) (m w:Nat) (d:PyData),vs=[.ref b,v]/\Bt H b m/\m+3*k<=8000/\Rep (hid b H) v d/\Sl w k d/\30<=w/\w<=400/\k<=20/\∀v' d' H',Rep (hid b H') v' d'->Sl (w+1) (k+3) d'->Bt H' b (m+3*k+6)->Ah b H H'->Q v' H'
def RB (D:Nat):Sp:=λvs H Q E=>∃k,k<=D/\aU k vs H Q E
section
variable {P:Program} {w:World} {K:YD} {mg:YB} {base:Heap}
theorem Yh (c:Code K mg "_law_spoilt" K8 Et) (T:Tc mg) (Bf:Good P w K mg base "_law_take" 1 Eb Jz) (YQ:Good P w K mg base "_law_other" 2 Jb Vi):∀k,Good P w K mg base "_law_spoilt" (3+k) Et (RB k):=by
 have step:∀(D k':Nat) (sp':Sp),(∀e,e+1<=D->∀vs H Q E,aU e vs H Q E->sp' vs H Q E)->Good P w K mg base "_law_spoilt" k' Et sp'->1<=k'->2<=k'->Good P w K mg base "_law_spoilt" (k'+1) Et (RB D):=λD k' sp' hsp Jt hk1 hk2=>by
  have sc:=Ik;refine c.good Ik (λvs H Q E h=>?_) (λf cdv A outer s H vs Q E hr h=>?_)
  ·obtain⟨k,hkD,b,v,m,w,d,rfl,_⟩:=h;rfl
  obtain⟨k,hkD,b,v,m,w,d,rfl,hb,hm,rd,sl,w30,Zc,k20,q⟩:=h;refine⟨_,(@Af _ _ _ _ _ (Bm (PW.pt (O1 (BW (Ar Cg rfl T.isinstance Br (Aa (pv 1) (Aa (Cz (v:=.ty "tuple") rfl T.tuple BZ rfl) Ac)))) (O1 (Bh Jp (Ar Bl rfl T.len Cw (Aa (pv 1) Ac)) Ab (Bc _)) (PN (Bh Jp (Am (hk:=hk1) Bf hr (Aa (pv 0) (Aa Ab Ac))) Ab (Bc _)))))) (@Af _ _ _ _ _ (@Bv _ _ 2 _ _ _ _ Ik.nd rfl (Or.inl rfl) (Am (hk:=hk1) Bf hr (Aa (pv 0) (Aa (Ar Bl rfl T.len Cw (Aa (pv 1) Ac)) Ac))) (by rfl) (by first | exact .inl rfl | exact .inr rfl))
 (@Ag _ _ _ (@Aq _ _ _ _ (@Ax _ _ _ _ _ _ _ _ Hz (@Ax _ _ _ _ _ _ _ _ Hz (CT GC (pv 1) Dw (Dc (pv 2))) (Bs (Aa (Am (hk:=(Qch _)) Jt hr (Aa (pv 0) (Aa (@Al _ _ _ _ _ _ _ Az (pv 1) (pv 2) (λ_ _=>rfl)) Ac))) Ac))) (CT GC (pv 1) (Dc (@Ax _ _ _ _ _ _ _ _ CV (pv 2) Ab)) Dw))))) Bg)
 (@Ag _ _ _ (@Aq _ _ _ _ (Am (hk:=hk2) YQ hr (Aa (pv 0) (Aa (pv 1) Ac)))))),?_⟩
  show let R0:TS:=_;let R1:TS:=_;let R2:TS:=Aw _ R1;Aw (BX _ R2 _) R0 _ _ _;intro R0 R1 R2;refine NK (fun σ' H'=>σ'=[jp b,some v,none]/\Ah b H H'/\Bt H' b (m+1)) (fun σ' H1 hP=>?_) (λhR=>?_)
  ·obtain⟨rfl,sb1,hb1⟩:=hP;refine⟨_,rq,_,rq,b,v,m+1,w,k,d,rq,hb1,by omega,Rep.same (Dj sb1) rd,sl,w30,Zc,λv' H2 ov hb2 sb2=>?_⟩;obtain⟨d',r',s'⟩:=ov;exact q v' d' H2 r' (s'.mono (Qch _) (by omega)) (hb2.mono (by omega)) (sb1.trans sb2)
  ·have rH:=Rep.same En rd;refine⟨_,rq,Dv rH.kn ⟨_,rq,?_⟩⟩;rcases Hy rd with⟨t,xs,ds,rfl,rfl,ht,rs,et⟩|⟨et,hn⟩
   ·have htH:=En _ _ ht;rw[Ht htH];have lx:=Ai.len rs;refine Av ⟨_,rq,t,_,rq,.inr (SqT.of htH),_,_,rq,rq,_,rq,ZS (λh0=>?_) (λh0=>?_)⟩
    ·have h0:(0:Int) < (xs.length:Int):=Qbb h0;have lw:=sl.len;have cw:=sl.few;refine⟨_,rq,b,m,5,rq,hb,by omega,by decide,by decide,λr H1 r0 r1 hb1 sb1=>⟨_,_,rq,rq,_,rq,ZS (λ_=>?_) (λ_=>?_)⟩⟩
     ·obtain⟨e,rfl⟩ : ∃e,k=e+1:=⟨k - 1,by have:=sl.dep;have:PyData.depthAll ds+1<=k:=this;omega⟩;have ht1:=Dj sb1 _ _ ht;have nM:=En _ _ ht1;refine⟨_,rq,_,rq,t,_,rq,.inr (SqT.of nM),b,_,_,rq,hb1,by omega,h0,by omega,λr2 H2 r20 r21 hb2 sb2=>?_⟩;obtain⟨a2,ea⟩ : ∃j:Nat,r2=j:=⟨r2.toNat,by omega⟩;subst ea;have s02:=sb1.trans sb2;have ht2:=Dj s02 _ _ ht;have gR:=En _ _ ht2;have hxa:xs[a2]?=some xs[a2]:=Qaj (by omega);obtain⟨dx,hdx,rx⟩:=Ai.at_ rs hxa;refine⟨_,rq,_,rq,_,rq,t,_,rq,gR,λp3 H3 hp3 s3=>?_⟩;rw[iD (by omega)] at hp3;have s03:=s02.trans (Ah.of s3);refine⟨_,rq,_,rq,_,rq,t,_,_,_,rq,rq,SqT.of (s3 _ _ gR),Aj hxa,hsp e hkD _ _ _ _ ⟨b,xs[a2],_,w,dx,rq,hb2.same s3,by omega,Rep.same (Dj s03) rx,sl.item (Qay hdx),w30,Zc,by omega,λv' d' H4 rv' sl' hb4 sb4=>?_⟩⟩;have s34:=s03.trans sb4;have nO:H4 p3=some (.tup (xs.take a2)):=(sb4.tup (hb2.same s3).Ho) _ _ hp3;refine⟨(by show 1<=sizeLine;decide),λp5 hp5=>?_⟩;have k5:=Ae hp5 (.tup [v']);refine⟨p3,p5,_,_,rq,rq,k5 _ _ nO,Ad,Ao (by rw[Qbn];show _+1<=1000;omega),λp6 H6 hp6 k6=>?_⟩;have k56:=k5.trans k6;have s36:=s34.trans (Ah.of k56);have nJ:=En _ _ (Dj s36 _ _ ht);refine⟨_,rq,_,rq,_,_,rq,rq,_,rq,t,_,rq,nJ,λp7 H7 hp7 k7=>?_⟩;rw[show ((a2:Int)+1)=((a2+1:Nat):Int) by omega,Q0] at hp7;refine⟨p6,p7,_,_,rq,rq,k7 _ _ hp6,hp7,Ao (by rw[QaM,Qbn,Qbq];show _+1+_<=1000;omega),λp8 H8 hp8 k8=>?_⟩;have k58:=k56.trans (k7.trans k8);have s08:=s34.trans (Ah.of k58);have hb8:=hb4.same k58;have np:p8≠b:=λe=>hb8.Ho _ (by rw[<-e];exact hp8);have pr:Paired (Rep (hid b H8)) (xs.take a2++[v']++xs.drop (a2+1)) (ds.take a2++[d']++ds.drop (a2+1)):=
       Paired.app (Paired.app (Paired.aO a2 (Paired.TQ (Ai.pair rs) λ_ _ z=>Rep.same (Dj s08) z)) (.cons (Rep.same (Dj (Ah.of k58)) rv') .nil)) (Paired.bG (a2+1) (Paired.TQ (Ai.pair rs) λ_ _ z=>Rep.same (Dj s08) z))
      refine q _ (.tuple (ds.take a2++[d']++ds.drop (a2+1))) _ (.tup (Nh np hp8) (Ai.mk pr)) (Sl.tup (k:=e+3) (λx hx=>?_) ?_ ?_) (hb8.mono (by omega)) s08
      ·rcases Qbz.mp hx with z | z
       ·rcases Qbz.mp z with z | z
        ·exact (sl.item (List.mem_of_mem_take z)).mono (by omega) (by omega)
        ·rw[show x=d' by simpa using z];exact sl'.mono (by omega) (by omega)
       ·exact (sl.item (QaD z)).mono (by omega) (by omega)
      ·rw[QaM,QaM,Qbn,Qbq];show _+1+_<=400+(w+1);omega
      ·have c1:[d'].countP Gx<=1:=List.countP_le_length;have c2:ds.countP Gx=(ds.take a2).countP Gx+(ds.drop a2).countP Gx:=by rw[<-List.countP_append,List.take_append_drop]
       have c3:(ds.drop (a2+1)).countP Gx<=(ds.drop a2).countP Gx:=(List.drop_sublist_drop_left ds (Qck a2)).countP_le;rw[List.countP_append,List.countP_append];omega
     ·exact hR _ _ ⟨rq,sb1,hb1⟩
    ·exact hR _ _ ⟨rq,Ah.refl b H,hb.mono (by omega)⟩
   ·have et':Ij H v=none:=by
     cases rd with
     | tup e _=>exact absurd rfl (hn _)
     | lst e _=>exact Iv (En _ _ e)
     | _=>rfl
    rw[et'];exact Bd (hR _ _ ⟨rq,Ah.refl b H,hb.mono (by omega)⟩)
 intro k
 induction k with
 | zero=>exact step 0 2 (λ_ _ _ _=>False) (λe he=>absurd he (by omega)) (c.good Ik (λvs H Q E h=>h.elim) (λf cdv A outer s H vs Q E hr h=>h.elim)) (by decide) (by decide)
 | succ e ih=>exact step (e+1) (3+e) (RB e) (λd hd vs H Q E h=>⟨d,by omega,h⟩) ih (by omega) (by omega)
end
abbrev SX:Stmt:=top 27
abbrev JN:YF:=["_law_thing","_law_least","_law_most"]
theorem bU:Bq JN JN (Ak SX):=by ac_rfl
abbrev Kf:Stmt:=top 28
abbrev GK:YF:=["_law_things","_law_most"]
theorem V9:Bq GK GK (Ak Kf):=by ac_rfl
abbrev K9:Stmt:=top 29
abbrev Hi:YF:=["_law_row_here","_law_at"]
theorem Nq:Bq ["_law_row_here","_law_at","_law_form"] Hi (Ak K9):=by ac_rfl
abbrev JD:Stmt:=top 31
abbrev El:YF:=["_law_told","_law_due"]
theorem Rh:Bq ["_law_told","_law_due"] El (Ak JD):=by ac_rfl
theorem Oh:∀zs:List Int,PyData.canLayAll0 (zs.map PyData.int)=true/\PyData.depthAll (zs.map PyData.int)<=1
 | []=>⟨rfl,by show 0<=1;decide⟩
 | z::r=>by
  have ih:=Oh r;refine⟨?_,?_⟩
  ·show (true&&PyData.canLayAll0 (r.map PyData.int))=true;rw[ih.1];rfl
  ·show max 0 (PyData.depthAll (r.map PyData.int))<=1;exact Nat.max_le.mpr ⟨by decide,ih.2⟩
theorem Nu (zs:List Int):SeqAt.shaped (.list (zs.map PyData.int))=true:=by
 have h1:=Oh zs;show (PyData.canLayAll0 (zs.map PyData.int)&&decide (PyData.depthAll (zs.map PyData.int)+1<=64))=true;rw[h1.1,QbT];exact QbM (by omega)
theorem Mf (zs:List Int):SeqAt.shaped (.tuple (zs.map PyData.int))=true:=by
 have h1:=Oh zs;show (PyData.canLayAll0 (zs.map PyData.int)&&decide (PyData.depthAll (zs.map PyData.int)+1<=64))=true;rw[h1.1,QbT];exact QbM (by omega)
theorem Oi:∀xs ys:List Int,PyData.eqvAll (xs.map PyData.int) (ys.map PyData.int)=decide (xs=ys)
 | [],[]=>rfl
 | [],_::_=>rfl
 | _::_,[]=>rfl
 | x::xs,y::ys=>by
  have ih:=Oi xs ys;show ((x == y)&&PyData.eqvAll (xs.map PyData.int) (ys.map PyData.int))=_;rw[ih,QbC];simp[List.cons.injEq]
theorem ZW (xs ys:List Int):PyData.eqv (.list (xs.map PyData.int)) (.list (ys.map PyData.int))=decide (xs=ys):=Oi xs ys
theorem Xv (xs ys:List Int):PyData.eqv (.tuple (xs.map PyData.int)) (.tuple (ys.map PyData.int))=decide (xs=ys):=Oi xs ys
theorem S7 {α : Type} {c:α->Int}:∀{l m:List α},(l.map c).Pairwise (· < ·)->(m.map c).Pairwise (· < ·)->(∀x,x∈l ↔ x∈m)->l=m
 | [],[],_,_,_=>rfl
 | [],y::m,_,_,h=>by cases (h y).mpr QaN
 | x::l,[],_,_,h=>by cases (h x).mp QaN
 | x::l,y::m,p,q,h=>by
  rw[QbU,List.pairwise_cons] at p q;have p1:∀z∈l,c x < c z:=λz hz=>p.1 _ (Qce.mpr ⟨z,hz,rq⟩);have q1:∀z∈m,c y < c z:=λz hz=>q.1 _ (Qce.mpr ⟨z,hz,rq⟩);have e:x=y:=by
   rcases QbS.mp ((h x).mp QaN) with e | h1
   ·exact e
   ·rcases QbS.mp ((h y).mpr QaN) with e | h2
    ·exact e.symm
    ·have:=q1 _ h1;have:=p1 _ h2;omega
  subst e;rw[S7 p.2 q.2 λz=>?_];constructor
  ·intro hz;rcases QbS.mp ((h z).mp (Qaz _ hz)) with e | h1
   ·have:=p1 _ hz;rw[e] at this;omega
   ·exact h1
  ·intro hz;rcases QbS.mp ((h z).mpr (Qaz _ hz)) with e | h1
   ·have:=q1 _ hz;rw[e] at this;omega
   ·exact h1
theorem iR (bs:List Bool):inV (.bl true) (bs.map V.bl)=bs.any id:=by
 unfold inV;rw[List.any_map];congr 1
 funext b
 cases b <;> rfl
theorem bx (bs:List Bool):inV (.bl false) (bs.map V.bl)=!bs.all id:=by
 have:=Yw bs;cases h:inV (.bl false) (bs.map V.bl) <;> rw[h] at this <;> rw[<-this] <;> rfl
theorem X5:∀{ms:List Int},Fq ms=true->ms.Pairwise (· < ·)
 | [],_=>.nil
 | [_],_=>List.pairwise_singleton ..
 | a::b::r,h=>by
  have h:((decide (a < b)&&((b::r).zip r).all λp=>decide (p.1 < p.2)):Bool)=true:=h;rw[Qbm] at h;have ih:(b::r).Pairwise (· < ·):=X5 h.2;have hab:a < b:=Qbb h.1;refine List.pairwise_cons.mpr ⟨λx hx=>?_,ih⟩;rcases QbS.mp hx with rfl | hx
  ·exact hab
  ·exact Int.lt_trans hab ((List.pairwise_cons.mp ih).1 x hx)
theorem set_same {gs ms:List Int} (up:ms.Pairwise (· < ·)) (mem:∀k,k∈ms ↔ k∈gs):decide (gs=ms)=Fq gs:=by
 cases h:Fq gs with
 | true=>
  refine QbM (S7 (c:=λx=>x) (by rw[List.map_id'];exact X5 h) (by rw[List.map_id'];exact up) λx=>(mem x).symm)
 | false=>
  refine Qby λe=>?_;rw[e,Oz up] at h;cases h
def JH (m:Int) (d:PyData):Bool:=match d with
 | .tuple ds=>(ds.all λx=>wiP x 1 m)&&JK ds
 | _=>false
def V5:Sp:=λvs H Q _=>∃v lo hi,vs=[v,.int lo,.int hi]/\Kn H v/\Q (.bl (wiB v lo hi)) H
def PB:Sp:=λvs H Q _=>∃(v:V) (d:PyData) (m:Int),vs=[v,.int m]/\Rep H v d/\Sl 60 60 d/\∀H',Same H H'->Q (.bl (JH m d)) H'
def Xz:Sp:=λvs H Q _=>∃(v:V) (d:PyData) (a:Int),vs=[v,.int a]/\Rep H v d/\Sl 60 60 d/\∀H',Same H H'->Q (.bl (trP a d)) H'
def V3:Sp:=λvs H Q _=>∃a:Bool,vs=[.bl a,.bl a]/\Q (.bl true) H
theorem cnt_ints:∀gs:List Int,(gs.map PyData.int).countP Gx=gs.length
 | []=>rfl
 | g::r=>by rw[QbU,List.countP_cons,cnt_ints r,Qbo];rfl
theorem Ig (z y:Str) (n m:Int):PyData.eqv (.tuple [.str z,.int n]) (.tuple [.str y,.int m])=decide (z=y/\n=m):=by
 show ((z == y)&&((n == m)&&true))=_;rw[QbC];simp
theorem Cr {z:Str} {n:Int} (h:PyData.strOk z=true):SeqAt.shaped (.tuple [.str z,.int n])=true:=by
 show ((PyData.strOk z&&true)&&decide (max 0 0+1<=64))=true;rw[h];rfl
theorem nE {z y:Str} (h:z≠y):¬eqS (.str z) y=true:=by rw[QB h];decide
theorem nA {z:Str} (h:z≠"and") (h':z≠"or"):¬aoP (.str z)=true:=λe=>by
 rcases QF.mp e with e | e
 ·injection e with e;exact h e
 ·injection e with e;exact h' e
theorem yA {z:Str} (h:z="and"\/z="or"):aoP (.str z)=true:=QF.mpr (h.elim (λe=>.inl (by rw[e])) λe=>.inr (by rw[e]))
theorem jy {r:List PyData} {k:PyData} (h1:1<=r.length) (h2:r.length<=3):Dq (.tuple (k::r)) 2 4=true:=by
 show (decide ((2:Int)<=((k::r).length:Nat))&&decide ((((k::r).length:Nat):Int)<=4))=true;rw[Qbo,QbM (by omega),QbM (by omega)];rfl
theorem M6 {a:Int} {k:PyData} {r:List PyData} (h1:1<=r.length) (h2:r.length<=3):trP a (.tuple (k::r))=trR a k r:=by
 show (Dq (.tuple (k::r)) 2 4&&trR a k r)=_;rw[jy h1 h2,QbT]
theorem Px {a:Int} {n x:PyData}:trP a (.tuple [.str "many",n,x])=(wiP n 1 9&&rwP x 1 30 1 99):=by
 rw[M6 (by simp) (by simp)];unfold trR;rw[if_pos (FJ _)];rfl
theorem Xu {a:Int} {n:PyData}:trP a (.tuple [.str "key",n])=wiP n 0 9:=by
 rw[M6 (by simp) (by simp)];unfold trR;rw[if_neg (nE (by trivial)),if_neg (nE (by trivial)),if_neg (nA (by trivial) (by trivial)),if_neg (nE (by trivial))];show (eqS (.str "key") "key"&&wiP n 0 9)=_;rw[FJ,QbT]
theorem RV {a:Int} {n m:PyData}:trP a (.tuple [.str "hours",n,m])=(wiP n 0 23&&wiP m 0 23):=by
 rw[M6 (by simp) (by simp)];unfold trR;rw[if_neg (nE (by trivial)),if_neg (nE (by trivial)),if_neg (nA (by trivial) (by trivial)),if_neg (nE (by trivial))];show (eqS (.str "hours") "hours"&&(wiP n 0 23&&wiP m 0 23))=_;rw[FJ,QbT]
theorem Xq {a:Int} {n:PyData}:trP a (.tuple [.str "not",n])=wiP n 0 (a - 1):=by
 rw[M6 (by simp) (by simp)];unfold trR;rw[if_neg (nE (by trivial)),if_pos (FJ _)];show (true&&(wiP n 0 (a - 1)&&true))=_;rw[QbT,QbZ]
theorem VR {a:Int} {z:Str} {n m:PyData} (h:z="and"\/z="or"):trP a (.tuple [.str z,n,m])=(wiP n 0 (a - 1)&&wiP m 0 (a - 1)):=by
 rw[M6 (by simp) (by simp)];unfold trR;rw[if_neg (nE (by rcases h with rfl | rfl <;> decide +kernel)),if_neg (nE (by rcases h with rfl | rfl <;> decide +kernel)),if_pos (yA h)];show (true&&(wiP n 0 (a - 1)&&(wiP m 0 (a - 1)&&true)))=_;rw[QbT,QbZ]
theorem Pu {a:Int} {n m x:PyData}:trP a (.tuple [.str "then",n,m,x])=((wiP n 0 (a - 1)&&wiP m 0 (a - 1))&&wiP x 1 20):=by
 rw[M6 (by simp) (by simp)];unfold trR;rw[if_neg (nE (by trivial)),if_neg (nE (by trivial)),if_neg (nA (by trivial) (by trivial)),if_pos (FJ _)];show ((wiP n 0 (a - 1)&&(wiP m 0 (a - 1)&&true))&&wiP x 1 20)=_;rw[QbZ]
theorem bK {a:Int} {z:Str} {r:List PyData} (h1:¬(z="many"/\r.length=2)) (h2:¬(z="key"/\r.length=1)) (h3:¬(z="hours"/\r.length=2)) (h4:¬(z="not"/\r.length=1)) (h5:¬(z="then"/\r.length=3)) (h6:¬(z="and"/\r.length=2)) (h7:¬(z="or"/\r.length=2)):trP a (.tuple (.str z::r))=false:=by
 show (Dq (.tuple (.str z::r)) 2 4&&trR a (.str z) r)=false;cases e:Dq (.tuple (.str z::r)) 2 4 with
 | false=>rfl
 | true=>
 rw[QbT];unfold trR;by_cases e1:z="many"
 ·rw[e1,if_pos (FJ _)];unfold O7;split
  ·exact absurd ⟨e1,rq⟩ h1
  ·rfl
 rw[if_neg (nE e1)];by_cases e2:z="not"
 ·rw[e2,if_pos (FJ _),Qby (λl=>h4 ⟨e2,l⟩)];rfl
 rw[if_neg (nE e2)];by_cases e3:z="and"\/z="or"
 ·rw[if_pos (yA e3),Qby (λl=>e3.elim (λw=>h6 ⟨w,l⟩) (λw=>h7 ⟨w,l⟩))];rfl
 rw[if_neg (nA (λw=>e3 (.inl w)) (λw=>e3 (.inr w)))];by_cases e4:z="then"
 ·rw[e4,if_pos (FJ _)];unfold Ji;split
  ·exact absurd ⟨e4,rq⟩ h5
  ·rfl
 rw[if_neg (nE e4)];unfold Ea;split
 ·rename_i k n w;injection w with w1;injection w1 with w1 w2;rw[<-w1];rw[QB (λe=>h2 ⟨e,by rw[w2];rfl⟩)];rfl
 ·rename_i k n m w;injection w with w1;injection w1 with w1 w2;rw[<-w1];rw[QB (λe=>h3 ⟨e,by rw[w2];rfl⟩)];rfl
 ·rfl
theorem Xr {a:Int} {d:PyData} (h:∀z r,d≠.tuple (.str z::r)):trP a d=false:=by
 unfold trP;split
 ·rename_i k r;have hk:∀z,k≠.str z:=λz e=>h z r (by rw[e]);cases e:Dq (.tuple (k::r)) 2 4 with
  | false=>rfl
  | true=>
  rw[QbT];unfold trR;have e1:∀y,¬eqS k y=true:=λy w=>hk y (KR.mp w);rw[if_neg (e1 _),if_neg (e1 _),if_neg (λw=>(QF.mp w).elim (hk _) (hk _)),if_neg (e1 _)];cases ep:Ea (.tuple (k::r)) with
  | false=>rfl
  | true=>exact ((Yb ep).elim (hk _) (hk _)).elim
 ·rfl
section
variable {P:Program} {w:World} {K:YD} {mg:YB} {base:Heap}
theorem cU (c:Code K mg "_law_is" SX JN) (T:Tc mg):Good P w K mg base "_law_is" 1 JN V5:=by
 refine c.good bU (λvs H Q E h=>?_) (λf cdv A outer s H vs Q E hr h=>?_)
 ·obtain⟨v,lo,hi,rfl,_⟩:=h;rfl
 obtain⟨v,lo,hi,rfl,k,q⟩:=h;refine⟨_,(Ag (Aq (BP (Ar Cg rfl T.isinstance Br (Aa (pv 0) (Aa (Cz (v:=.ty "int") rfl T.int KY rfl) Ac))) (BP (O4 (Ar Cg rfl T.isinstance Br (Aa (pv 0) (Aa (Cz (v:=.ty "bool") rfl T.bool QD rfl) Ac)))) (Cj (Lg Li Li (pv 1) (pv 0) (pv 2))))))),?_⟩;refine⟨_,rq,Jv k ⟨_,rq,?_⟩⟩;cases e:isI v with
 | false=>
  have:wiB v lo hi=false:=by cases v <;> first | rfl | cases e
  rw[this] at q;exact Bd q
 | true=>
 refine Av ⟨_,rq,Oe e ⟨_,rq,_,rq,?_⟩⟩;cases v with
 | bl b=>exact Bd q
 | int x=>
  have q:Q (.bl (decide (lo<=x)&&decide (x<=hi))) H:=q;refine Av ⟨_,rq,_,rq,_,_,rq,rq,_,rq,?_⟩;by_cases h1:lo<=x
  ·rw[QbM h1];rw[QbM h1,QbT] at q;exact Av ⟨_,rq,_,_,rq,rq,q⟩
  ·rw[Qby h1];rw[Qby h1,QbO] at q;exact Bd q
 | _=>cases e
theorem Rj (C:Code K mg "_law_is_truth" JD El) (T:Tc mg):Good P w K mg base "_law_is_truth" 1 El V3:=by
 refine C.good Rh (λvs H Q E h=>?_) (λf cdv A outer s H vs Q E hr h=>?_)
 ·obtain⟨a,rfl,_⟩:=h;rfl
 obtain⟨a,rfl,q⟩:=h;refine⟨_,(Ag (Aq (BP (Ar Cg rfl T.isinstance Br (Aa (pv 0) (Aa (Cz (v:=.ty "bool") rfl T.bool QD rfl) Ac))) (Cj (Cd Cp (pv 0) (pv 1) (Bc _)))))),?_⟩;refine⟨_,rq,Oe rfl ⟨_,rq,Av ⟨_,rq,_,rq,rq,?_⟩⟩⟩;show Q (.bl (decide (V.bl a=V.bl a))) H;rw[QbM rfl];exact q
theorem Wr (C:Code K mg "_law_rises" Kf GK) (T:Tc mg) (Fi:Good P w K mg base "_law_is" 1 JN V5):Good P w K mg base "_law_rises" 2 GK PB:=by
 refine C.good V9 (λvs H Q E h=>?_) (λf cdv A outer s H vs Q E hr h=>?_)
 ·obtain⟨v,d,m,rfl,_⟩:=h;rfl
 obtain⟨v,d,m,rfl,rd,sl,q⟩:=h;refine⟨_,(Af (Bm (PW.pt (FT (Cv (BW (Ar Cg rfl T.isinstance Br (Aa (pv 0) (Aa (Cz (v:=.ty "tuple") rfl T.tuple BZ rfl) Ac))))) (Hg (Bh GP Ca (CQ (N':=["_law_one","_law_most"]) rfl (Bx.of (src:=[none,some 1]) (Ak Kf) GK rfl rfl rfl (by trivial) (by trivial) (by trivial) rfl (by trivial)) (Ek (pv 0)) (λ_ _ _ _=>(Bb (i:=0) (show List.Nodup (["_law_one","_law_most"]:YF) by trivial) rfl (Or.inl rfl))) (λ_ _ _ _=>Ds) (λ_ _ _ _=>(Am Fi hr (Aa (pv 0) (Aa Ab (Aa (pv 1) Ac)))))) (by with_unfolding_all rfl))))) (Ag (Aq Ca)) Bg)
 (Ag (Aq (Cd (Fg hr.units) (Cq MN rfl T.list Vy (Aa (pv 0) Ac)) (Jo rfl rfl T.sorted rfl T.set (Aa (pv 0) Ac)) (Bc _))))),?_⟩
 show let R0:TS:=_;Aw _ R0 _ _ _;intro R0;refine⟨_,rq,Dv rd.kn ⟨_,rq,?_⟩⟩;rcases Hy rd with⟨t,xs,ds,rfl,rfl,ht,rs,et⟩|⟨et,hn⟩
 ·rw[et];have lx:=Ai.len rs;have sl5:=sl.len;refine Bd ⟨_,rq,t,rq,⟨_,SqT.of ht⟩,λl hl=>?_⟩;let J0:YN:=λ(i:Nat) (σ : St) (HH:Hp)=>∃(u:Option V),σ=[u,some (.int m)]/\HH l=some (.lst (((ds.take i).map λg=>wiP g 1 m).map V.bl))/\Same H HH;refine DP (xs:=xs) J0 ⟨_,rq,Ad,Ae hl _⟩ (λi σ HH _ h=>?_) (λi x σ HH hx h=>?_) (fun σ HH h=>?_)
  ·obtain⟨u,rfl,e1,e2⟩:=h;exact SqT.of (e2 _ _ ht)
  ·obtain⟨u,rfl,e1,e2⟩:=h;obtain⟨g,hg,rg⟩:=Ai.at_ rs hx;have hi':i < ds.length:=(Qae.mp hg).1;refine CW (Av ⟨_,rq,_,rq,x,_,_,rq,(Rep.same e2 rg).kn,_,e1,Ba (by rw[Qbw,Qbw,Qbn];omega),_,rq,?_,e2.CN Ah.upd hl⟩);rw[Ad,Qcp hg,Qbx,Qbx,CJ rg];rfl
  obtain⟨u,rfl,e1,s1⟩:=h;rw[lx,Qbp] at e1;refine⟨l,_,rq,.inl (SqL.of e1),rq,Oo _,_,rq,?_⟩;show if inV (.bl false) ((ds.map λg=>wiP g 1 m).map V.bl)=true then _ else _
  rw[bx,all_map];have q:∀H',Same H H'->Q (.bl ((ds.all λx=>wiP x 1 m)&&JK ds)) H':=q;cases ea:ds.all λg=>wiP g 1 m with
  | false=>rw[ea] at q;exact Av (q _ s1)
  | true=>
   rw[ea,QbT] at q;obtain⟨gs,eg⟩:=ints_of ea;subst eg;have ex:=Iz rs;subst ex;rw[Ld] at q;have few:=sl.few;rw[cnt_ints] at few;refine Bd ⟨_,rq,t,_,rq,.inr (SqT.of (s1 _ _ ht)),λl1 hl1=>?_⟩;have s2:=Ae hl1 (.lst (gs.map V.int));have c2:upd HH l1 (.lst (gs.map V.int)) l1=some (.lst (gs.map V.int)):=Ad;have s12:=s1.trans s2;generalize upd HH l1 (.lst (gs.map V.int))=H2 at *;refine⟨_,rq,t,gs,rq,.inr (SqT.of (s12 _ _ ht)),by omega,λms ls up mem hls=>?_⟩;have s3:=Ae hls (.lst (ms.map V.int));refine⟨_,_,.lst (s3 _ _ c2) (GQ gs),.lst Ad (GQ ms),Nu gs,Nu ms,?_⟩;rw[ZW,set_same up mem];exact q _ (s12.trans s3)
 ·rw[et];have:JH m d=false:=by
   unfold JH;split
   ·exact absurd rfl (hn _)
   ·rfl
  rw[this] at q;exact Av (Av (q _ (Same.refl _)))
end
theorem list1 {α : Type} {l:List α} (h:(l.length:Int)=1):∃a,l=[a]:=by
 match l,h with
 | [a],_=>exact⟨a,rfl⟩
 | [],h=>simp at h
 | _::_::_,h=>simp at h;omega
theorem fK {K:YD} {H:Hp} {p:Addr} {z:Str} {n:Int} (h:H p=some (.tup [.str z,.int n])):Jh K H (.ref p) (.tuple [.str z,.int n]):=.tup (SqT.of h) (.cons (.str _) (.cons (.int _) .nil))
theorem Ud (z:Str) (n:Int):(!([PyData.tuple [.str "and",.int 3],.tuple [.str "or",.int 3],.tuple [.str "then",.int 4]].any λy=>PyData.eqv y (.tuple [.str z,.int n])))=!decide ((z="and"/\n=3)\/(z="or"/\n=3)\/(z="then"/\n=4)):=by
 simp only[QbY,List.any_nil,Ig,Bool.or_false];congr 1;rw[QbC];simp only[QbI,decide_eq_true_eq];constructor
 ·rintro (⟨h,h'⟩|⟨h,h'⟩|⟨h,h'⟩)
  ·exact .inl ⟨h.symm,h'.symm⟩
  ·exact .inr (.inl ⟨h.symm,h'.symm⟩)
  ·exact .inr (.inr ⟨h.symm,h'.symm⟩)
 ·rintro (⟨h,h'⟩|⟨h,h'⟩|⟨h,h'⟩)
  ·exact .inl ⟨h.symm,h'.symm⟩
  ·exact .inr (.inl ⟨h.symm,h'.symm⟩)
  ·exact .inr (.inr ⟨h.symm,h'.symm⟩)
section
variable {P:Program} {w:World} {K:YD} {mg:YB} {base:Heap}
theorem U3 (C:Code K mg "_law_is_row" K9 Hi) (T:Tc mg) (Fi:Good P w K mg base "_law_is" 1 JN V5) (Mx:Good P w K mg base "_law_rises" 2 GK PB):Good P w K mg base "_law_is_row" 3 Hi Xz:=by
 refine C.good Nq (λvs H Q E h=>?_) (λf cdv A outer s H vs Q E hr h=>?_)
 ·obtain⟨v,d,a,rfl,_⟩:=h;rfl
 obtain⟨v,d,a,rfl,rd,sl,q⟩:=h;refine⟨_,(@Af _ _ _ _ _ (Bm (PW.pt (FT (Cv (BW (Ar Cg rfl T.isinstance Br (Aa (pv 0) (Aa (Cz (v:=.ty "tuple") rfl T.tuple BZ rfl) Ac))))) (FT (Bh Cp (Ar Bl rfl T.len Cw (Aa (pv 0) Ac)) Ab (Bc _)) (Hg (Cv (BW (Ar Cg rfl T.isinstance Br (Aa (@Al _ _ _ _ _ _ _ Az (pv 0) Ab (λ_ _=>rfl)) (Aa (Cz (v:=.ty "str") rfl T.str Ut rfl) Ac))))))))) (@Ag _ _ _ (@Aq _ _ _ _ Ca)) Bg)
 (@Af _ _ _ _ _ (@Bv _ _ 2 _ _ _ _ Nq.nd rfl (Or.inl rfl) (Bs (Aa (@Al _ _ _ _ _ _ _ Az (pv 0) Ab (λ_ _=>rfl)) (Aa (Ar Bl rfl T.len Cw (Aa (pv 0) Ac)) Ac))) (by rfl) (by first | exact .inl rfl | exact .inr rfl))
 (@Af _ _ _ _ _ (Bm (Bh (Fg hr.units) (pv 2) (Bs (Aa Bj (Aa Ab Ac))) (Bc _)) (@Ag _ _ _ (@Aq _ _ _ _ (BP (Am Fi hr (Aa (@Al _ _ _ _ _ _ _ Az (pv 0) Ab (λ_ _=>rfl)) (Aa Ab (Aa Ab Ac)))) (BP (Am Mx hr (Aa (@Al _ _ _ _ _ _ _ Az (pv 0) Ab (λ_ _=>rfl)) (Aa Ab Ac))) (Cj (Lg Nb Nb Ab (Ar Bl rfl T.len Cw (Aa (@Al _ _ _ _ _ _ _ Az (pv 0) Ab (λ_ _=>rfl)) Ac)) Ab)))))) Bg)
 (@Af _ _ _ _ _ (Bm (Bh (Fg hr.units) (pv 2) (Bs (Aa Bj (Aa Ab Ac))) (Bc _)) (@Ag _ _ _ (@Aq _ _ _ _ (Am Fi hr (Aa (@Al _ _ _ _ _ _ _ Az (pv 0) Ab (λ_ _=>rfl)) (Aa Ab (Aa Ab Ac)))))) Bg)
 (@Af _ _ _ _ _ (Bm (Bh (Fg hr.units) (pv 2) (Bs (Aa Bj (Aa Ab Ac))) (Bc _)) (@Ag _ _ _ (@Aq _ _ _ _ (BP (Am Fi hr (Aa (@Al _ _ _ _ _ _ _ Az (pv 0) Ab (λ_ _=>rfl)) (Aa Ab (Aa Ab Ac)))) (Cj (Am Fi hr (Aa (@Al _ _ _ _ _ _ _ Az (pv 0) Ab (λ_ _=>rfl)) (Aa Ab (Aa Ab Ac)))))))) Bg)
 (@Af _ _ _ _ _ (Bm (Bh (Fg hr.units) (pv 2) (Bs (Aa Bj (Aa Ab Ac))) (Bc _)) (@Ag _ _ _ (@Aq _ _ _ _ (Am Fi hr (Aa (@Al _ _ _ _ _ _ _ Az (pv 0) Ab (λ_ _=>rfl)) (Aa Ab (Aa (@Ax _ _ _ _ _ _ _ _ CK (pv 1) Ab) Ac)))))) Bg)
 (@Af _ _ _ _ _ (Bm (PW.pt (FT (PW.pt (O1 (Bh (Fg hr.units) (pv 2) (Bs (Aa Bj (Aa Ab Ac))) (Bc _)) (PN (Cv (BW (Am Fi hr (Aa (@Al _ _ _ _ _ _ _ Az (pv 0) Ab (λ_ _=>rfl)) (Aa Ab (Aa Ab Ac))))))))) (Hg (Bh (Wm (K:=K) rfl hr.Xn) (pv 2) (BK (Aa (Bs (Aa Bj (Aa Ab Ac))) (Aa (Bs (Aa Bj (Aa Ab Ac))) (Aa (Bs (Aa Bj (Aa Ab Ac))) Ac)))) (by with_unfolding_all rfl))))) (@Ag _ _ _ (@Aq _ _ _ _ Ca)) Bg)
 (@Ag _ _ _ (@Aq _ _ _ _ (BP (Am Fi hr (Aa (@Al _ _ _ _ _ _ _ Az (pv 0) Ab (λ_ _=>rfl)) (Aa Ab (Aa (@Ax _ _ _ _ _ _ _ _ CK (pv 1) Ab) Ac)))) (Cj (Am Fi hr (Aa (@Al _ _ _ _ _ _ _ Az (pv 0) Ab (λ_ _=>rfl)) (Aa Ab (Aa (@Ax _ _ _ _ _ _ _ _ CK (pv 1) Ab) Ac))))))))))))))),?_⟩
 show let R0:TS:=_;let R1:TS:=Aw _ R0;let R2:TS:=_;let R3:TS:=Aw (BX _ R2 _) R1;let R4:TS:=_;let R5:TS:=Aw (BX _ R4 _) R3;let R6:TS:=_;let R7:TS:=Aw (BX _ R6 _) R5;let R8:TS:=_;let R9:TS:=Aw (BX _ R8 _) R7;let R10:TS:=Aw _ R9;Aw _ R10 _ _ _;intro R0 R1 R2 R3 R4 R5 R6 R7 R8 R9 R10;have q00:=q _ (Same.refl _);refine⟨_,rq,Dv rd.kn ⟨_,rq,?_⟩⟩;rcases Hy rd with⟨t,xs,ds,rfl,rfl,ht,rs,et⟩|⟨et,hn⟩
 case inr=>
  rw[et];rw[Xr (λz r=>hn _)] at q00;exact Av (Av q00)
 rw[et];have lx:=Ai.len rs;refine Bd ⟨_,rq,t,_,rq,.inr (SqT.of ht),rq,_,rq,ifN (λe=>?_) (λe=>?_)⟩
 ·have:ds=[]:=List.eq_nil_of_length_eq_zero (by omega);subst this;exact Av q00
 cases rs with
 | nil=>exact absurd rfl e
 | @cons x0 k xr r rk rs=>
 have lr:=Ai.len rs;have sit:∀x∈(k::r),Sl 60 60 x:=λx hx=>(Sl.item (k:=59) (sl.mono (Qch _) (Qch _)) hx).mono (Qch _) (by decide);refine⟨_,rq,t,_,_,_,rq,rq,SqT.of ht,Aj (j:=0) rfl,Ie rk.kn ⟨_,rq,?_⟩⟩;have hk:(∃z,x0=.str z/\k=.str z)\/(isS x0=false/\∀z,k≠.str z):=by
  cases rk with
  | str z=>exact .inl ⟨z,rfl,rfl⟩
  | _=>exact .inr ⟨rfl,λz e=>by cases e⟩
 rcases hk with⟨z,rfl,rfl⟩|⟨e1,e2⟩
 case inr=>
  rw[e1];rw[Xr (λz r' e=>by injection e with e;injection e with e _;exact e2 z e)] at q00;exact Av q00
 have zok:PyData.strOk z=true:=(sit _ (QaN ..)).lay;have sl1:=sl.len;rw[Qbo] at sl1;refine Bd ⟨_,rq,t,_,_,_,rq,rq,SqT.of ht,Aj (j:=0) rfl,_,rq,t,_,rq,.inr (SqT.of ht),Ao (by show 2<=1000;decide),λpf hpf=>?_⟩;have len1:(((V.str z::xr).length:Nat):Int)=(r.length:Int)+1:=by rw[Qbo,lr];omega
 rw[len1];have S0:=Ae hpf (.tup [.str z,.int ((r.length:Int)+1)]);have f0:upd H pf (.tup [.str z,.int ((r.length:Int)+1)]) pf=some (.tup [.str z,.int ((r.length:Int)+1)]):=Ad;generalize upd H pf (.tup [.str z,.int ((r.length:Int)+1)])=H0 at *;refine⟨_,rq,Ao (by show 2<=1000;decide),λp1 hp1=>?_⟩;have s1:=Ae hp1 (.tup [.str "many",.int 3]);have c1:upd H0 p1 (.tup [.str "many",.int 3]) p1=some (.tup [.str "many",.int 3]):=Ad;have S1:=S0.trans s1;have f1:=s1 _ _ f0;generalize upd H0 p1 (.tup [.str "many",.int 3])=H1 at *;refine⟨_,_,.tup f1 (.cons (.str _) (.cons (.int _) .nil)),.tup c1 (.cons (.str _) (.cons (.int _) .nil)),Cr zok,Cr (by trivial),_,rq,?_⟩;rw[Ig];by_cases e1:z="many"/\(r.length:Int)+1=3
 ·rw[QbM e1];obtain⟨rfl,l1⟩:=e1;obtain⟨n,x,rfl⟩:=Jq (l:=r) (by omega) (by omega);cases rs with
  | cons rn rs=>
  cases rs with
  | cons rx rs=>
  cases rs;rw[Px] at q00;have q:∀H',Same H H'->Q (.bl (wiP n 1 9&&rwP x 1 30 1 99)) H':=λH' s'=>by have:=q H' s';rw[Px] at this;exact this
  refine Av ⟨_,rq,t,_,_,_,rq,rq,SqT.of (S1 _ _ ht),Aj (j:=1) rfl,_,1,9,rq,(Rep.same S1 rn).kn,_,rq,?_⟩;rw[CJ (Rep.same S1 rn)];cases ew:wiP n 1 9 with
  | false=>rw[ew] at q;exact Bd (q _ S1)
  | true=>
  rw[ew,QbT] at q;refine Av ⟨_,rq,t,_,_,_,rq,rq,SqT.of (S1 _ _ ht),Aj (j:=2) rfl,_,x,99,rq,Rep.same S1 rx,sit x (by simp),λH2 s2=>⟨_,rq,?_⟩⟩;cases er:JH 99 x with
  | false=>
   have:rwP x 1 30 1 99=false:=by
    unfold rwP;unfold JH at er;split
    ·rw[show ((_:List PyData).all _&&JK _)=false from er,Bool.and_false]
    ·rfl
   rw[this] at q;exact Bd (q _ (S1.trans s2))
  | true=>
  obtain⟨ys,rfl⟩ : ∃ys,x=.tuple ys:=by
   unfold JH at er;split at er
   ·exact⟨_,rq⟩
   ·cases er
  have S12:=S1.trans s2;cases Rep.same S12 rx with
  | @tup tx xx _ hx rx'=>
  have lxx:=Ai.len rx';have er:((ys.all λx=>wiP x 1 99)&&JK ys)=true:=er;have q:∀H',Same H H'->Q (.bl (Dq (.tuple ys) 1 30&&((ys.all λx=>wiP x 1 99)&&JK ys))) H':=q;rw[er,QbZ] at q;have q:∀H',Same H H'->Q (.bl (decide (1<=(ys.length:Int))&&decide ((ys.length:Int)<=30))) H':=q;refine Av ⟨_,rq,t,_,_,_,rq,rq,SqT.of (S12 _ _ ht),Aj (j:=2) rfl,tx,_,rq,.inr (SqT.of hx),_,_,rq,rq,_,rq,?_⟩;rw[lxx];by_cases h0:(0:Int) < (ys.length:Int)
  ·rw[QbM h0];rw[QbM (show 1<=(ys.length:Int) by omega),QbT] at q;refine Av ⟨_,_,rq,rq,?_⟩;show Q (V.bl (decide ((ys.length:Int) < 31))) _;rw[show decide ((ys.length:Int) < 31)=decide ((ys.length:Int)<=30) from decide_eq_decide.mpr (by omega)]
   exact q _ S12
  ·rw[Qby h0];rw[Qby (show ¬ 1<=(ys.length:Int) by omega),QbO] at q;exact Bd (q _ S12)
 rw[Qby e1];refine Bd ?_;refine⟨_,rq,Ao (by show 2<=1000;decide),λp2 hp2=>?_⟩;have s2:=Ae hp2 (.tup [.str "key",.int 2]);have c2:upd H1 p2 (.tup [.str "key",.int 2]) p2=some (.tup [.str "key",.int 2]):=Ad;have S2:=S1.trans s2;have f2:=s2 _ _ f1;generalize upd H1 p2 (.tup [.str "key",.int 2])=H2 at *;refine⟨_,_,.tup f2 (.cons (.str _) (.cons (.int _) .nil)),.tup c2 (.cons (.str _) (.cons (.int _) .nil)),Cr zok,Cr (by trivial),_,rq,?_⟩;rw[Ig];by_cases e2:z="key"/\(r.length:Int)+1=2
 ·rw[QbM e2];obtain⟨rfl,l1⟩:=e2;obtain⟨n,rfl⟩:=list1 (l:=r) (by omega);cases rs with
  | cons rn rs=>
  cases rs;have q:=q _ S2;rw[Xu] at q;refine Av ⟨_,rq,t,_,_,_,rq,rq,SqT.of (S2 _ _ ht),Aj (j:=1) rfl,_,0,9,rq,(Rep.same S2 rn).kn,?_⟩;rw[CJ (Rep.same S2 rn)];exact q
 rw[Qby e2];refine Bd ?_;refine⟨_,rq,Ao (by show 2<=1000;decide),λp3 hp3=>?_⟩;have s3:=Ae hp3 (.tup [.str "hours",.int 3]);have c3:upd H2 p3 (.tup [.str "hours",.int 3]) p3=some (.tup [.str "hours",.int 3]):=Ad;have S3:=S2.trans s3;have f3:=s3 _ _ f2;generalize upd H2 p3 (.tup [.str "hours",.int 3])=H3 at *;refine⟨_,_,.tup f3 (.cons (.str _) (.cons (.int _) .nil)),.tup c3 (.cons (.str _) (.cons (.int _) .nil)),Cr zok,Cr (by trivial),_,rq,?_⟩;rw[Ig];by_cases e3:z="hours"/\(r.length:Int)+1=3
 ·rw[QbM e3];obtain⟨rfl,l1⟩:=e3;obtain⟨n,x,rfl⟩:=Jq (l:=r) (by omega) (by omega);cases rs with
  | cons rn rs=>
  cases rs with
  | cons rx rs=>
  cases rs;have q:=q _ S3;rw[RV] at q;refine Av ⟨_,rq,t,_,_,_,rq,rq,SqT.of (S3 _ _ ht),Aj (j:=1) rfl,_,0,23,rq,(Rep.same S3 rn).kn,_,rq,?_⟩;rw[CJ (Rep.same S3 rn)];cases ew:wiP n 0 23 with
  | false=>rw[ew] at q;exact Bd q
  | true=>
  rw[ew,QbT] at q;refine Av ⟨_,rq,t,_,_,_,rq,rq,SqT.of (S3 _ _ ht),Aj (j:=2) rfl,_,0,23,rq,(Rep.same S3 rx).kn,?_⟩;rw[CJ (Rep.same S3 rx)];exact q
 rw[Qby e3];refine Bd ?_;refine⟨_,rq,Ao (by show 2<=1000;decide),λp4 hp4=>?_⟩;have s4:=Ae hp4 (.tup [.str "not",.int 2]);have c4:upd H3 p4 (.tup [.str "not",.int 2]) p4=some (.tup [.str "not",.int 2]):=Ad;have S4:=S3.trans s4;have f4:=s4 _ _ f3;generalize upd H3 p4 (.tup [.str "not",.int 2])=H4 at *;refine⟨_,_,.tup f4 (.cons (.str _) (.cons (.int _) .nil)),.tup c4 (.cons (.str _) (.cons (.int _) .nil)),Cr zok,Cr (by trivial),_,rq,?_⟩;rw[Ig];by_cases e4:z="not"/\(r.length:Int)+1=2
 ·rw[QbM e4];obtain⟨rfl,l1⟩:=e4;obtain⟨n,rfl⟩:=list1 (l:=r) (by omega);cases rs with
  | cons rn rs=>
  cases rs;have q:=q _ S4;rw[Xq] at q;refine Av ⟨_,rq,t,_,_,_,rq,rq,SqT.of (S4 _ _ ht),Aj (j:=1) rfl,_,rq,_,_,rq,rq,_,0,a - 1,rq,(Rep.same S4 rn).kn,?_⟩;rw[CJ (Rep.same S4 rn)];exact q
 rw[Qby e4];refine Bd ?_;refine⟨_,rq,Ao (by show 2<=1000;decide),λp5 hp5=>?_⟩;have s5:=Ae hp5 (.tup [.str "then",.int 4]);have c5:upd H4 p5 (.tup [.str "then",.int 4]) p5=some (.tup [.str "then",.int 4]):=Ad;have S5:=S4.trans s5;have f5:=s5 _ _ f4;generalize upd H4 p5 (.tup [.str "then",.int 4])=H5 at *;refine⟨_,_,.tup f5 (.cons (.str _) (.cons (.int _) .nil)),.tup c5 (.cons (.str _) (.cons (.int _) .nil)),Cr zok,Cr (by trivial),_,rq,?_⟩;rw[Ig];by_cases e5:z="then"/\(r.length:Int)+1=4
 ·have l1:=e5.2;rw[QbM e5];have ez:=e5.1;subst ez;obtain⟨n,m,x,rfl⟩:=Wx (l:=r) (by omega) (by omega);cases rs with
  | cons rn rs=>
  cases rs with
  | cons rm rs=>
  cases rs with
  | cons rx rs=>
  cases rs;have q:=q;refine Av ⟨_,rq,t,_,_,_,rq,rq,SqT.of (S5 _ _ ht),Aj (j:=3) rfl,_,1,20,rq,(Rep.same S5 rx).kn,_,rq,?_⟩;rw[CJ (Rep.same S5 rx)];cases ew:wiP x 1 20 with
  | false=>
   have q:=q _ S5;rw[Pu,ew,Bool.and_false] at q;exact Av (Av q)
  | true=>
  refine Bd ?_;have q:∀H',Same H H'->Q (.bl (wiP n 0 (a - 1)&&wiP m 0 (a - 1))) H':=λH' s'=>by have:=q H' s';rw[Pu,ew,QbZ] at this;exact this
  refine⟨_,rq,Ao (by show 2<=1000;decide),λp6 hp6=>?_⟩;have s6:=Ae hp6 (.tup [.str "and",.int 3]);have c6:upd H5 p6 (.tup [.str "and",.int 3]) p6=some (.tup [.str "and",.int 3]):=Ad;generalize upd H5 p6 (.tup [.str "and",.int 3])=H6 at *;refine⟨Ao (by show 2<=1000;decide),λp7 hp7=>?_⟩;have s7:=Ae hp7 (.tup [.str "or",.int 3]);have c7:upd H6 p7 (.tup [.str "or",.int 3]) p7=some (.tup [.str "or",.int 3]):=Ad;generalize upd H6 p7 (.tup [.str "or",.int 3])=H7 at *;refine⟨Ao (by show 2<=1000;decide),λp8 hp8=>?_⟩;have s8:=Ae hp8 (.tup [.str "then",.int 4]);have c8:upd H7 p8 (.tup [.str "then",.int 4]) p8=some (.tup [.str "then",.int 4]):=Ad;generalize upd H7 p8 (.tup [.str "then",.int 4])=H8 at *;refine⟨Ao (by show 3<=1000;decide),λp9 hp9=>?_⟩;have s9:=Ae hp9 (.lst [.ref p6,.ref p7,.ref p8]);have c9:upd H8 p9 (.lst [.ref p6,.ref p7,.ref p8]) p9=some (.lst [.ref p6,.ref p7,.ref p8]):=Ad;have S9:=S5.trans (s6.trans (s7.trans (s8.trans s9)));have f9:=s9 _ _ (s8 _ _ (s7 _ _ (s6 _ _ f5)));have d6:=s9 _ _ (s8 _ _ (s7 _ _ c6));have d7:=s9 _ _ (s8 _ _ c7);have d8:=s9 _ _ c8;generalize upd H8 p9 (.lst [.ref p6,.ref p7,.ref p8])=H9 at *;refine⟨p9,_,_,_,rq,SqL.of c9,.cons (fK d6) (.cons (fK d7) (.cons (fK d8) .nil)),fK f9,Cr zok,by trivial,_,rq,?_⟩;rw[Ud];rw[QbM (show (Str.ofString "then"="and"/\_)\/(Str.ofString "then"="or"/\_)\/(Str.ofString "then"="then"/\_) from .inr (.inr ⟨rq,l1⟩))]
  refine Bd ?_;refine⟨_,rq,t,_,_,_,rq,rq,SqT.of (S9 _ _ ht),Aj (j:=1) rfl,_,rq,_,_,rq,rq,_,0,a - 1,rq,(Rep.same S9 rn).kn,_,rq,?_⟩;rw[CJ (Rep.same S9 rn)];cases ew:wiP n 0 (a - 1) with
  | false=>rw[ew] at q;exact Bd (q _ S9)
  | true=>
  rw[ew,QbT] at q;refine Av ⟨_,rq,t,_,_,_,rq,rq,SqT.of (S9 _ _ ht),Aj (j:=2) rfl,_,rq,_,_,rq,rq,_,0,a - 1,rq,(Rep.same S9 rm).kn,?_⟩;rw[CJ (Rep.same S9 rm)];exact q _ S9
 rw[Qby e5];refine Bd (Bd ?_);refine⟨_,rq,Ao (by show 2<=1000;decide),λp6 hp6=>?_⟩;have s6:=Ae hp6 (.tup [.str "and",.int 3]);have c6:upd H5 p6 (.tup [.str "and",.int 3]) p6=some (.tup [.str "and",.int 3]):=Ad;generalize upd H5 p6 (.tup [.str "and",.int 3])=H6 at *;refine⟨Ao (by show 2<=1000;decide),λp7 hp7=>?_⟩;have s7:=Ae hp7 (.tup [.str "or",.int 3]);have c7:upd H6 p7 (.tup [.str "or",.int 3]) p7=some (.tup [.str "or",.int 3]):=Ad;generalize upd H6 p7 (.tup [.str "or",.int 3])=H7 at *;refine⟨Ao (by show 2<=1000;decide),λp8 hp8=>?_⟩;have s8:=Ae hp8 (.tup [.str "then",.int 4]);have c8:upd H7 p8 (.tup [.str "then",.int 4]) p8=some (.tup [.str "then",.int 4]):=Ad;generalize upd H7 p8 (.tup [.str "then",.int 4])=H8 at *;refine⟨Ao (by show 3<=1000;decide),λp9 hp9=>?_⟩;have s9:=Ae hp9 (.lst [.ref p6,.ref p7,.ref p8]);have c9:upd H8 p9 (.lst [.ref p6,.ref p7,.ref p8]) p9=some (.lst [.ref p6,.ref p7,.ref p8]):=Ad;have S9:=S5.trans (s6.trans (s7.trans (s8.trans s9)));have f9:=s9 _ _ (s8 _ _ (s7 _ _ (s6 _ _ f5)));have d6:=s9 _ _ (s8 _ _ (s7 _ _ c6));have d7:=s9 _ _ (s8 _ _ c7);have d8:=s9 _ _ c8;generalize upd H8 p9 (.lst [.ref p6,.ref p7,.ref p8])=H9 at *;refine⟨p9,_,_,_,rq,SqL.of c9,.cons (fK d6) (.cons (fK d7) (.cons (fK d8) .nil)),fK f9,Cr zok,by trivial,_,rq,?_⟩;rw[Ud];by_cases e6:(z="and"\/z="or")/\(r.length:Int)+1=3
 ·have l1:=e6.2;obtain⟨n,m,rfl⟩:=Jq (l:=r) (by omega) (by omega);cases rs with
  | cons rn rs=>
  cases rs with
  | cons rm rs=>
  cases rs;have q:∀H',Same H H'->Q (.bl (wiP n 0 (a - 1)&&wiP m 0 (a - 1))) H':=λH' s'=>by have:=q H' s';rw[VR e6.1] at this;exact this
  rw[QbM (show (z="and"/\_)\/(z="or"/\_)\/(z="then"/\_) from e6.1.elim (λw=>.inl ⟨w,l1⟩) (λw=>.inr (.inl ⟨w,l1⟩)))]
  refine Bd ?_;refine⟨_,rq,t,_,_,_,rq,rq,SqT.of (S9 _ _ ht),Aj (j:=1) rfl,_,rq,_,_,rq,rq,_,0,a - 1,rq,(Rep.same S9 rn).kn,_,rq,?_⟩;rw[CJ (Rep.same S9 rn)];cases ew:wiP n 0 (a - 1) with
  | false=>rw[ew] at q;exact Bd (q _ S9)
  | true=>
  rw[ew,QbT] at q;refine Av ⟨_,rq,t,_,_,_,rq,rq,SqT.of (S9 _ _ ht),Aj (j:=2) rfl,_,rq,_,_,rq,rq,_,0,a - 1,rq,(Rep.same S9 rm).kn,?_⟩;rw[CJ (Rep.same S9 rm)];exact q _ S9
 ·rw[Qby (show ¬((z="and"/\_)\/(z="or"/\_)\/(z="then"/\_)) from λw=>by
   rcases w with w | w | w
   ·exact e6 ⟨.inl w.1,w.2⟩
   ·exact e6 ⟨.inr w.1,w.2⟩
   ·exact e5 w)]
  have q:=q _ S9;rw[bK (λw=>e1 ⟨w.1,by omega⟩) (λw=>e2 ⟨w.1,by omega⟩) (λw=>e3 ⟨w.1,by omega⟩) (λw=>e4 ⟨w.1,by omega⟩) (λw=>e5 ⟨w.1,by omega⟩) (λw=>e6 ⟨.inl w.1,by omega⟩) (λw=>e6 ⟨.inr w.1,by omega⟩)] at q;exact Av q
end
abbrev JF:Stmt:=top 30
abbrev Fx:YF:=["_law_thing"]
theorem Gp:Bq ["_law_thing","_law_rows","_law_outs","_law_out"] Fx (Ak JF):=by ac_rfl
theorem gM {a b:Int} {A B:Prop} (h1:a≠b->A) (h2:a=b->B):if (!decide (V.int a=V.int b))=true then A else B:=by
 by_cases h:a=b
 ·subst h;rw[QbM rfl];exact Bd (h2 rfl)
 ·rw[Qby (λz=>h (by injection z))];exact Av (h1 h)
def Sd:Sp:=λvs H Q _=>∃(v:V) (d:PyData),vs=[v]/\Rep H v d/\Sl 50 50 d/\∀H',Same H H'->Q (.bl (Dz d)) H'
def Lq:PyData->PyData
 | .tuple (a::_)=>a
 | _=>.none
def half (n:Int) (d:PyData):Prop:=∃a m,d=.tuple [a,m]/\wiP m 0 (n - 1)=true
theorem Z7 {n:Int}:∀{os:List PyData},(∀o∈os,half n o)->(os.all (Fz n)&&Fq (os.map Jg))=(((os.map Lq).all λx=>wiP x 1 99)&&JK (os.map Lq)):=by
 intro os h;have e1:os.all (Fz n)=(os.map Lq).all λx=>wiP x 1 99:=by
  rw[List.all_map]
  induction os with
  | nil=>rfl
  | cons o r ih=>
   obtain⟨a,m,rfl,hm⟩:=h o (QaN ..);rw[List.all_cons,List.all_cons,ih λx hx=>h x (Qaz _ hx)];show ((wiP a 1 99&&wiP m 0 (n - 1))&&_)=(wiP a 1 99&&_);rw[hm,QbZ]
 rw[e1];cases ea:(os.map Lq).all λx=>wiP x 1 99 with
 | false=>rfl
 | true=>
  obtain⟨gs,eg⟩:=ints_of ea;rw[eg,Ld];have:os.map Jg=gs:=by
   have key:∀{os:List PyData} {gs:List Int},(∀o∈os,half n o)->os.map Lq=gs.map PyData.int->os.map Jg=gs:=by
    intro os
    induction os with
    | nil=>
     intro gs _ e;cases gs with
     | nil=>rfl
     | cons g r=>cases e
    | cons o r ih=>
     intro gs h e;cases gs with
     | nil=>cases e
     | cons g r'=>
      obtain⟨a,m,rfl,hm⟩:=h o (QaN ..);rw[QbU,QbU] at e;injection e with e1 e2;rw[QbU,ih (λx hx=>h x (Qaz _ hx)) e2];have e1:a=.int g:=e1;rw[e1];rfl
   exact key h eg
  rw[this]
section
variable {P:Program} {w:World} {K:YD} {mg:YB} {base:Heap}
abbrev xl:YF:=["_law_at","_law_row_here"]
theorem Rk (C:Code K mg "_law_is_table" JF Fx) (T:Tc mg) (Fi:Good P w K mg base "_law_is" 1 JN V5) (Mx:Good P w K mg base "_law_rises" 2 GK PB) (WQ:Good P w K mg base "_law_is_row" 3 Hi Xz):Good P w K mg base "_law_is_table" 4 Fx Sd:=by
 refine C.good Gp (λvs H Q E h=>?_) (λf cdv A outer s H vs Q E hr h=>?_)
 ·obtain⟨v,d,rfl,_⟩:=h;rfl
 obtain⟨v,d,rfl,rd,sl,q⟩:=h;refine⟨_,(@Af _ _ _ _ _ (Bm (PW.pt (FT (Cv (BW (Ar Cg rfl T.isinstance Br (Aa (pv 0) (Aa (Cz (v:=.ty "tuple") rfl T.tuple BZ rfl) Ac))))) (FT (Bh bh (Ar Bl rfl T.len Cw (Aa (pv 0) Ac)) Ab (Bc _)) (Hg (Cv (BW (Ar Cg rfl T.isinstance Br (Aa (@Al _ _ _ _ _ _ _ Az (pv 0) Ab (λ_ _=>rfl)) (Aa (Cz (v:=.ty "tuple") rfl T.tuple BZ rfl) Ac))))))))) (@Ag _ _ _ (@Aq _ _ _ _ Ca)) Bg)
 (@Af _ _ _ _ _ (IV (pv 0) (JM rfl (Bu (Bb (i:=1) Gp.nd rfl (Or.inl rfl)) (Bu (Bb (i:=2) Gp.nd rfl (Or.inl rfl)) DW))))
 (@Af _ _ _ _ _ (Bm (PW.pt (FT (Bh Jp (Ar Bl rfl T.len Cw (Aa (pv 1) Ac)) Ab (Bc _)) (Hg (Bh GP Ca (CQ (N':=xl) rfl (Bx.plain rfl (by trivial) (by trivial) (by trivial)) (Te rfl T.enumerate (pv 1)) (λ_ _ _ _=>(Ju (K:=K) (n:=2) rfl rfl (Bu (Bb (i:=0) (show List.Nodup (xl:YF) by trivial) rfl (Or.inl rfl)) (Bu (Bb (i:=1) (show List.Nodup (xl:YF) by trivial) rfl (Or.inl rfl)) DW)))) (λ_ _ _ _=>Ds) (λ_ _ _ _=>(Am WQ hr (Aa (pv 1) (Aa (pv 0) Ac))))) (by with_unfolding_all rfl))))) (@Ag _ _ _ (@Aq _ _ _ _ Ca)) Bg)
 (@Af _ _ _ _ _ (Bm (PW.pt (FT (Cv (BW (Ar Cg rfl T.isinstance Br (Aa (pv 2) (Aa (Cz (v:=.ty "tuple") rfl T.tuple BZ rfl) Ac))))) (Hg (Bh Jp (Ar Bl rfl T.len Cw (Aa (pv 2) Ac)) Ab (Bc _))))) (@Ag _ _ _ (@Aq _ _ _ _ Ca)) Bg)
 (@Af _ _ _ _ _ (IK QbF rfl (Ek (pv 2)) (Bb (i:=3) Gp.nd rfl (Or.inl rfl))
 (@Ag _ _ _ (Bm (PW.pt (FT (Cv (BW (Ar Cg rfl T.isinstance Br (Aa (pv 3) (Aa (Cz (v:=.ty "tuple") rfl T.tuple BZ rfl) Ac))))) (FT (Bh bh (Ar Bl rfl T.len Cw (Aa (pv 3) Ac)) Ab (Bc _)) (Hg (Cv (BW (Am Fi hr (Aa (@Al _ _ _ _ _ _ _ Az (pv 3) Ab (λ_ _=>rfl)) (Aa Ab (Aa (@Ax _ _ _ _ _ _ _ _ CK (Ar Bl rfl T.len Cw (Aa (pv 1) Ac)) Ab) Ac)))))))))) (@Ag _ _ _ (@Aq _ _ _ _ Ca)) Bg)))
 (@Ag _ _ _ (@Aq _ _ _ _ (Am Mx hr (Aa (Cq CP rfl T.tuple BZ (Aa (CQ (N':=["_law_out"]) rfl (Bx.plain rfl (by trivial) (by trivial) (by trivial)) (Ek (pv 2)) (λ_ _ _ _=>(Bb (i:=0) (show List.Nodup (["_law_out"]:YF) by trivial) rfl (Or.inl rfl))) (λ_ _ _ _=>Ds) (λ_ _ _ _=>(@Al _ _ _ _ _ _ _ (Qu (K:=K) rfl) (pv 0) Ab (λ_ _=>rfl)))) Ac)) (Aa Ab Ac)))))))))),?_⟩
 show let R0:TS:=_;let R1:TS:=_;let R2:TS:=Aw (KZ _ _ R1) R0;let R3:TS:=Aw _ R2;let R4:TS:=Aw _ R3;let R5:TS:=Aw _ R4;Aw _ R5 _ _ _;intro R0 R1 R2 R3 R4 R5;have no:∀H',Same H H'->(Dz d=false)->Q (.bl false) H':=λH' s' e=>by rw[e] at q;exact q _ s'
 have R:=Same.refl H;refine⟨_,rq,Dv rd.kn ⟨_,rq,?_⟩⟩;rcases Hy rd with⟨t,xs,ds,rfl,rfl,ht,rs,et⟩|⟨et,hn⟩
 case inr=>
  rw[et];exact Av (Av (no _ R (Dg λrs os e _ _ _ _ _=>hn _ e)))
 rw[et];have lx:=Ai.len rs;refine Bd ⟨_,rq,t,_,rq,.inr (SqT.of ht),rq,_,rq,gM (λe=>Av (no _ R (Dg λrs os e' _ _ _ _ _=>?_))) (λe=>?_)⟩
 ·injection e' with e';rw[lx,e'] at e;exact e rfl
 obtain⟨dr,dO,rfl⟩:=Jq (l:=ds) (by omega) (by omega);have sit:∀x∈[dr,dO],Sl 50 49 x:=λx hx=>sl.item hx;have slr:=sit dr (by simp);have slo:=sit dO (by simp);cases rs with
 | cons rr rs=>
 cases rs with
 | cons ro rs=>
 cases rs;refine⟨_,rq,t,_,_,_,rq,rq,SqT.of ht,Aj (j:=0) rfl,Dv rr.kn ⟨_,rq,?_⟩⟩;rcases Hy rr with⟨tr,xr,rows,rfl,rfl,htr,rsr,etr⟩|⟨etr,hnr⟩
 case inr=>
  rw[etr];exact Av (no _ R (Dg λrs os e _ _ _ _ _=>hnr rs (by injection e with e;injection e)))
 rw[etr];have lxr:=Ai.len rsr;refine Bd ⟨_,rq,t,_,rq,SqT.of ht,rq,_,_,rq,_,_,rq,rq,?_⟩;refine⟨_,rq,tr,_,rq,.inr (SqT.of htr),_,_,rq,rq,_,rq,Mw (λc=>Av (no _ R (Dg λrs os e l1 _ _ _ _=>?_))) (λc=>?_)⟩
 ·have c:=Qbb c;injection e with e;injection e with e _;injection e with e;rw[e] at lxr;omega
 have Qp:rows.length<=320:=by
  have:¬((xr.length:Int) > 320):=λz=>c (QbM z);omega
 refine⟨_,rq,tr,rq,⟨_,SqT.of htr⟩,λl hl=>?_⟩;let J0:YN:=λ(i:Nat) (σ : St) (HH:Hp)=>∃(u v:Option V),σ=[u,v]/\HH l=some (.lst (((rows.zipIdx.take i).map λp=>trP (p.2:Int) p.1).map V.bl))/\Same H HH;refine Q5 (xs:=xr) J0 ⟨_,_,rq,Ad,Ae hl _⟩ (λi σ HH _ h=>?_) (λi x p σ HH hx h hp=>?_) (fun σ HH h=>?_)
 ·obtain⟨u,v,rfl,e1,e2⟩:=h;exact SqT.of (e2 _ _ htr)
 ·obtain⟨u,v,rfl,e1,s2⟩:=h;obtain⟨g,hg,rg⟩:=Ai.at_ rsr hx;have hi':i < rows.length:=(Qae.mp hg).1;have hz:rows.zipIdx[i]?=some (g,i):=by rw[List.getElem?_zipIdx,hg];simp
  have s3:=Ae hp (.tup [.int ((0+i:Nat):Int),x]);have h3:(upd HH p (.tup [.int ((0+i:Nat):Int),x])) p=some (.tup [.int ((0+i:Nat):Int),x]):=Ad;have e1':=s3 _ _ e1;have s2':=s2.trans s3;generalize upd HH p (.tup [.int ((0+i:Nat):Int),x])=H3 at *;refine⟨p,_,rq,SqT.of h3,rq,_,_,rq,_,_,rq,rq,Av ⟨_,rq,_,rq,x,g,_,rq,Rep.same s2' rg,(slr.item (k:=48) (Qay hg)).mono (by decide) (by decide),λH4 s4=>⟨_,s4 _ _ e1',Ba (by rw[Qbw,Qbw,Qbn,QaV];omega),_,_,rq,?_,(s2'.trans s4).CN Ah.upd hl⟩⟩⟩;rw[Ad,Qcp hz,Qbx,Qbx,Nat.zero_add];rfl
 obtain⟨u,v,rfl,e1,s1⟩:=h;rw[show xr.length=rows.zipIdx.length by rw[QaV,lxr],Qbp] at e1;refine⟨l,_,rq,.inl (SqL.of e1),rq,Oo _,_,rq,?_⟩;show if inV (.bl false) ((rows.zipIdx.map λp=>trP (p.2:Int) p.1).map V.bl)=true then _ else _
 rw[bx,all_map];show if (!FQ rows)=true then _ else _
 cases er:FQ rows with
 | false=>exact Av (no _ s1 (Dg λrs os e _ _ h3 _ _=>by injection e with e;injection e with e _;injection e with e;rw[e,h3] at er;cases er))
 | true=>
 refine Bd ⟨_,rq,Dv (Rep.same s1 ro).kn ⟨_,rq,?_⟩⟩;rcases Hy (Rep.same s1 ro) with⟨to,xo,outs,rfl,rfl,hto,rso,eto⟩|⟨eto,hno⟩
 case inr=>
  rw[eto];exact Av (Av (no _ s1 (Dg λrs os e _ _ _ _ _=>hno os (by injection e with e;injection e with _ e;injection e))))
 rw[eto];have lxo:=Ai.len rso;refine Bd ⟨_,rq,to,_,rq,.inr (SqT.of hto),_,_,rq,rq,_,rq,Mw (λc=>no _ s1 (Dg λrs os e _ l2 _ _ _=>?_)) (λc=>?_)⟩
 ·have c:=Qbb c;injection e with e;injection e with _ e;injection e with e _;injection e with e;rw[e] at lxo;omega
 have l16:outs.length<=16:=by
  have:¬((xo.length:Int) > 16):=λz=>c (QbM z);omega
 have bad:∀{o:PyData},o∈outs->¬half rows.length o->Dz (.tuple [.tuple rows,.tuple outs])=false:=λ{o} ho hh=>Dg λrs os e _ _ _ h4 _=>by
  injection e with e;injection e with e0 e;injection e with e _;injection e with e;injection e0 with e0;rw[<-e,<-e0] at h4;obtain⟨a,m,rfl,_,_,h5,h6⟩:=QT (Qbu.mp h4 o ho);refine hh ⟨_,_,rq,?_⟩;show (decide (0<=m)&&decide (m<=(rows.length:Int) - 1))=true;rw[QbM h5,QbM h6];rfl
 refine⟨_,rq,to,rq,⟨_,SqT.of hto⟩,?_⟩;let J1:YN:=λi σ HX=>∃u3,σ=[jp t,jp tr,jp to,u3]/\(∀o∈outs.take i,half rows.length o)/\Same HH HX;refine Qy (xs:=xo) J1 ⟨none,rq,(λo ho=>by cases ho),Same.refl _⟩ (λi σ HX _ h=>?_) (λi x σ HX hx h=>?_) (fun σ HX h=>?_)
 ·obtain⟨u3,rfl,_,s2⟩:=h;exact SqT.of (s2 _ _ hto)
 ·obtain⟨u3,rfl,g1,s2⟩:=h;obtain⟨o,ho,rg⟩:=Ai.at_ rso hx;have hm:=Qay ho;have rg:=Rep.same s2 rg;have s12:=s1.trans s2;refine CW ⟨_,rq,Dv rg.kn ⟨_,rq,?_⟩⟩;rcases Hy rg with⟨tg,xg,dg,rfl,rfl,htg,rsg,etg⟩|⟨etg,hng⟩
  case inr=>
   rw[etg];refine Av (Av (no _ s12 (bad hm λzz=>?_)));obtain⟨a,m,e,_⟩:=zz;exact hng _ e
  rw[etg];have lxg:=Ai.len rsg;refine Bd ⟨_,rfl,tg,_,rfl,.inr (SqT.of htg),rfl,_,rfl,gM (λe=>Av (no _ s12 (bad hm λ⟨a,m,e',_⟩=>?_))) (λe=>?_)⟩
  ·injection e' with e';rw[lxg,e'] at e;exact e rfl
  obtain⟨a,m,rfl⟩:=Jq (l:=dg) (by omega) (by omega);cases rsg with
  | cons ra rsg=>
  cases rsg with
  | cons rm rsg=>
  cases rsg;refine⟨_,rq,tg,_,_,_,rq,rq,SqT.of htg,Aj (j:=1) rfl,_,rq,tr,_,rq,.inr (SqT.of (s12 _ _ htr)),_,_,rq,rq,_,0,_,rq,rm.kn,_,rq,?_⟩;rw[CJ rm,lxr];cases ew:wiP m 0 ((rows.length:Int) - 1) with
  | false=>exact Av (no _ s12 (bad hm λ⟨a',m',e',h'⟩=>by
    injection e' with e';injection e' with _ e';injection e' with e' _;rw[<-e',ew] at h';cases h'))
  | true=>
   refine Bd ⟨_,rq,λo' ho'=>?_,s2⟩;rw[Qcp ho] at ho';rcases Qbz.mp ho' with ho' | ho'
   ·exact g1 o' ho'
   ·rw[QaR.mp ho'];exact⟨a,m,rq,ew⟩
 ·obtain⟨u3,rfl,g1,s2⟩:=h;rw[lxo,Qbp] at g1;have gQ:=s2 _ _ hto;have s12:=s1.trans s2;refine⟨_,rq,to,rq,⟨_,SqT.of gQ⟩,λl2 hl2=>?_⟩;let J2:YN:=λ(i:Nat) (σ : St) (HY:Hp)=>∃(u:Option V) (ys:YG),σ=[u]/\HY l2=some (.lst ys)/\Ai HX ys ((outs.take i).map Lq)/\Same HX HY;refine DP (xs:=xo) J2 ⟨_,[],rq,Ad,.nil,Ae hl2 _⟩ (λi σ HY _ h=>?_) (λi x σ HY hx h=>?_) (fun σ HY h=>?_)
  ·obtain⟨u,ys,rfl,e1,e2,s3⟩:=h;exact SqT.of (s3 _ _ gQ)
  ·obtain⟨u,ys,rfl,e1,e2,s3⟩:=h;obtain⟨o,ho,rg⟩:=Ai.at_ rso hx;have hi':i < outs.length:=(Qae.mp ho).1;obtain⟨a,m,rfl,hm⟩:=g1 o (Qay ho);have ly:=Ai.len e2;rw[Qbw,Qbn] at ly;cases Rep.same s2 rg with
   | tup eg rg'=>
   cases rg' with
   | cons ra rg'=>
   refine CW (Av ⟨_,rq,_,_,_,_,rq,rq,SqT.of (s3 _ _ eg),Aj (j:=0) rfl,_,e1,Ba (by omega),_,_,rq,Ad,?_,s3.CN Ah.upd hl2⟩);rw[Qcp ho,Qbx];exact Ai.snoc e2 ra
  obtain⟨u,ys,rfl,e1,e2,s3⟩:=h;rw[show xo.length=outs.length from lxo,Qbp] at e2
  refine⟨l2,_,rq,.inl ⟨SqL.of e1,λt2 ht2=>?_⟩⟩;have s4:=Ae ht2 (.tup ys);have rt:Rep (upd HY t2 (.tup ys)) (.ref t2) (.tuple (outs.map Lq)):=.tup Ad (Ai.same (s3.trans s4) e2);have slt:Sl 60 60 (.tuple (outs.map Lq)):=by
   refine Sl.tup (k:=59) (λx hx=>?_) (by rw[Qbw];omega) (Qcd List.countP_le_length (by rw[Qbw];omega));obtain⟨o,ho,rfl⟩:=Qce.mp hx;obtain⟨a,m,rfl,_⟩:=g1 o ho;have so:Sl 50 48 (.tuple [a,m]):=slo.item (k:=48) ho;exact (so.item (k:=47) (show a∈[a,m] by simp)).mono (by decide) (by decide)
  refine⟨_,_,99,rq,rt,slt,λH' s'=>?_⟩;have:=q H' (s12.trans (s3.trans (s4.trans s')));have e:Dz (.tuple [.tuple rows,.tuple outs])=JH 99 (.tuple (outs.map Lq)):=by
   show ((decide (rows.length<=320)&&decide (outs.length<=16))&&(FQ rows&&(outs.all (Fz rows.length)&&Fq (outs.map Jg))))=_;rw[QbM Qp,QbM l16,er,Z7 g1];rfl
  rw[e] at this;exact this
end
abbrev JG:Stmt:=top 26
abbrev JQ:YF:=["_law_rows","_law_past","_law_brought_here"]
abbrev xm:YF:=["_law_rows","_law_past","_law_brought_here","_law_warned","_law_turned","_law_hour","_law_now","_law_row_here","_law_word"]
theorem Fw:Bq xm JQ (Ak JG):=by ac_rfl
theorem Z1 {h a b:Int} (a0:0<=a) (a1:a<=23) (b0:0<=b) (b1:b<=23):decide ((h - a) % 24<=(b - a - 1) % 24)=(decide (a=b) || decide ((h - a) % 24 < (b - a) % 24)):=by
 rw[QbC,QbI,QaS,QaS,QaS];omega
theorem lJ (l n:Nat):(if (l:Int) - (n:Int) > 0 then (l:Int) - (n:Int) else 0)=((l - n:Nat):Int):=by split <;> omega
def Vj:Sp:=λvs H Q _=>∃(tr lp tb:Addr) (xr:YG) (rows:List Rw) (xs:YG) (past:List (List Bool)) (ws ks:List Int) (h:Int),vs=[.ref tr,.ref lp,.ref tb]/\H tr=some (.tup xr)/\Ai H xr (rows.map Rw.data)/\OkR rows/\rows.length<=320/\H lp=some (.lst xs)/\Paired (HeldAt H) xs past/\(∀g∈past,rows.length<=g.length)/\past.length<=60/\QJ H tb ws ks h /\
 ∀l H',H l=none->H' l=some (.lst ((DN ws ks h past rows).map V.bl))->Same H H'->Q (.ref l) H'
section
variable {P:Program} {w:World} {K:YD} {mg:YB} {base:Heap}
abbrev xv:YF:=["_law_held_here","_law_row_here"]
theorem Yj (C:Code K mg "_law_held" JG JQ) (T:Tc mg):Good P w K mg base "_law_held" 1 JQ Vj:=by
 refine C.good Fw (λvs H Q E h=>?_) (λf cdv A outer s H vs Q E hr h=>?_)
 ·obtain⟨tr,lp,tb,xr,rows,xs,past,ws,ks,h,rfl,_⟩:=h;rfl
 obtain⟨tr,lp,tb,xr,rows,xs,past,ws,ks,h,rfl,htr,rsr,okr,Qp,hlp,hps,hlen,l40,⟨tw,tk,htb,htw,htk⟩,q⟩:=h;refine⟨_,(@Af _ _ _ _ _ (IV (pv 2) (JM rfl (Bu (Bb (i:=3) Fw.nd rfl (Or.inr rfl)) (Bu (Bb (i:=4) Fw.nd rfl (Or.inl rfl)) (Bu (Bb (i:=5) Fw.nd rfl (Or.inl rfl)) DW)))))
 (@Af _ _ _ _ _ (@Bv _ _ 6 _ _ _ _ Fw.nd rfl (Or.inl rfl) (BK Ac) (by rfl) (by first | exact .inl rfl | exact .inr rfl))
 (@Af _ _ _ _ _ (IK QbF rfl (Ek (pv 0)) (Bb (i:=7) Fw.nd rfl (Or.inr rfl))
 (@Af _ _ _ _ _ (@Bv _ _ 8 _ _ _ _ Fw.nd rfl (Or.inl rfl) (@Al _ _ _ _ _ _ _ Az (pv 7) Ab (λ_ _=>rfl)) (by rfl) (by first | exact .inl rfl | exact .inr rfl))
 (@Ag _ _ _ (Bm (Bh Cp (pv 8) Bj (Bc _)) (@Ag _ _ _ (Ej (Hh Qan Qak Qal Dd (pv 6) (Aa (Cd Wn (Ar Bl rfl T.len Cw (Aa (CQ (N':=["_law_one","_law_warned"]) rfl (Bx.of (src:=[none,some 3]) (Ak JG) xm rfl rfl rfl (by trivial) (by trivial) (by trivial) rfl (by trivial)) (Ek (@Al _ _ _ _ _ _ _ Az (pv 7) Ab (λ_ _=>rfl))) (λ_ _ _ _=>(Bb (i:=0) (show List.Nodup (["_law_one","_law_warned"]:YF) by trivial) rfl (Or.inl rfl))) (λ_ _ _ _=>(KJ (Bh (O6 (K:=K) rfl) (pv 0) (pv 1) (by with_unfolding_all rfl)))) (λ_ _ _ _=>(pv 0))) Ac)) (@Al _ _ _ _ _ _ _ Az (pv 7) Ab (λ_ _=>rfl)) (Bc _)) Ac)))) (@Ag _ _ _ (Bm (Bh Cp (pv 8) Bj (Bc _)) (@Ag _ _ _ (Ej (Hh Qan Qak Qal Dd (pv 6) (Aa (Cd GP (@Al _ _ _ _ _ _ _ Az (pv 7) Ab (λ_ _=>rfl)) (pv 4) (by with_unfolding_all rfl)) Ac)))) (@Ag _ _ _ (Bm (Bh Cp (pv 8) Bj (Bc _)) (@Ag _ _ _ (Ej (Hh Qan Qak Qal Dd (pv 6) (Aa (Cd Li (@Ax _ _ _ _ _ _ _ _ Fe (@Ax _ _ _ _ _ _ _ _ CK (pv 5) (@Al _ _ _ _ _ _ _ Az (pv 7) Ab (λ_ _=>rfl))) Ab) (@Ax _ _ _ _ _ _ _ _ Fe (@Ax _ _ _ _ _ _ _ _ CK (@Ax _ _ _ _ _ _ _ _ CK (@Al _ _ _ _ _ _ _ Az (pv 7) Ab (λ_ _=>rfl)) (@Al _ _ _ _ _ _ _ Az (pv 7) Ab (λ_ _=>rfl))) Ab) Ab) (Bc _)) Ac)))) (@Ag _ _ _ (Bm (Bh Cp (pv 8) Bj (Bc _)) (@Ag _ _ _ (Ej (Hh Qan Qak Qal Dd (pv 6) (Aa (O4 (@Al _ _ _ _ _ _ _ Bp (pv 6) (@Al _ _ _ _ _ _ _ Az (pv 7) Ab (λ_ _=>rfl)) (λ_ _=>rfl))) Ac)))) (@Ag _ _ _ (Bm (Bh Cp (pv 8) Bj (Bc _)) (@Ag _ _ _ (Ej (Hh Qan Qak Qal Dd (pv 6) (Aa (BP (@Al _ _ _ _ _ _ _ Bp (pv 6) (@Al _ _ _ _ _ _ _ Az (pv 7) Ab (λ_ _=>rfl)) (λ_ _=>rfl)) (Cj (@Al _ _ _ _ _ _ _ Bp (pv 6) (@Al _ _ _ _ _ _ _ Az (pv 7) Ab (λ_ _=>rfl)) (λ_ _=>rfl)))) Ac)))) (@Ag _ _ _ (Bm (Bh Cp (pv 8) Bj (Bc _)) (@Ag _ _ _ (Ej (Hh Qan Qak Qal Dd (pv 6) (Aa (Wi (@Al _ _ _ _ _ _ _ Bp (pv 6) (@Al _ _ _ _ _ _ _ Az (pv 7) Ab (λ_ _=>rfl)) (λ_ _=>rfl)) (Cj (@Al _ _ _ _ _ _ _ Bp (pv 6) (@Al _ _ _ _ _ _ _ Az (pv 7) Ab (λ_ _=>rfl)) (λ_ _=>rfl)))) Ac)))) (@Ag _ _ _ (Ej (Hh Qan Qak Qal Dd (pv 6) (Aa (BP (@Al _ _ _ _ _ _ _ Bp (pv 6) (@Al _ _ _ _ _ _ _ Az (pv 7) Ab (λ_ _=>rfl)) (λ_ _=>rfl)) (Cj (Cd GP Ca (CQ (N':=xv) rfl (Bx.of (src:=[none,some 7]) (Ak JG) xm rfl rfl rfl (by trivial) (by trivial) (by trivial) rfl (by trivial)) (KH (CT Kz (pv 1) (Dc (Ar (MK rfl) rfl T.max Uu (Aa Ab (Aa (@Ax _ _ _ _ _ _ _ _ CK (Ar Bl rfl T.len Cw (Aa (pv 1) Ac)) (@Al _ _ _ _ _ _ _ Az (pv 7) Ab (λ_ _=>rfl))) Ac)))) Dw)) (λ_ _ _ _=>(Bb (i:=0) (show List.Nodup (xv:YF) by trivial) rfl (Or.inl rfl))) (λ_ _ _ _=>Ds) (λ_ _ _ _=>(@Al _ _ _ _ _ _ _ (JW (K:=K) rfl) (pv 0) (@Al _ _ _ _ _ _ _ (Qu (K:=K) rfl) (pv 1) Ab (λ_ _=>rfl)) (λ_ _=>rfl)))) (by with_unfolding_all rfl)))) Ac))))))))))))))))))
 (@Ag _ _ _ (@Aq _ _ _ _ (pv 6)))))),?_⟩
 show let R0:TS:=_;let R1:TS:=_;let R2:TS:=_;let R3:TS:=_;let R4:TS:=_;let R5:TS:=_;let R6:TS:=_;let R7:TS:=BX _ R5 R6;let R8:TS:=BX _ R4 R7;let R9:TS:=BX _ R3 R8;let R10:TS:=BX _ R2 R9;let R11:TS:=BX _ R1 R10;let R12:TS:=BX _ R0 R11;let R13:TS:=Aw _ R12;let R14:TS:=Aw (KZ _ _ R13) _;let R15:TS:=Aw _ R14;Aw _ R15 _ _ _;intro R0 R1 R2 R3 R4 R5 R6 R7 R8 R9 R10 R11 R12 R13 R14 R15;have lxr:=Ai.len rsr;rw[Qbw] at lxr;refine⟨_,rq,tb,_,rq,SqT.of htb,rq,_,_,rq,_,_,rq,_,_,rq,rq,?_⟩;refine⟨Ao (by show 0<=1000;decide),λln hln=>?_⟩;refine⟨_,rq,tr,rq,⟨_,SqT.of (Ae hln _ _ _ htr)⟩,?_⟩;let J0:YN:=λi σ HH=>∃u7 u8,σ=[jp tr,jp lp,jp tb,jp tw,jp tk,some (.int h),jp ln,u7,u8]/\HH ln=some (.lst ((DN ws ks h past (rows.take i)).map V.bl))/\Same H HH;refine Qy (xs:=xr) J0 ⟨none,none,rq,Ad,Ae hln _⟩ (λi σ HH _ h=>?_) (λi x σ HH hx h=>?_) (fun σ HH h=>?_)
 ·obtain⟨u7,u8,rfl,e1,s1⟩:=h;exact SqT.of (s1 _ _ htr)
 ·obtain⟨u7,u8,rfl,e1,s1⟩:=h;obtain⟨d,hd,rd⟩:=Ai.at_ rsr hx;rw[Qbc] at hd;obtain⟨r,hr',rfl⟩:=Qar.mp hd;have hi:=(Qae.mp hr').1;have rd:=Rep.same s1 rd;have ok:=okr i r hr';have Ib:(DN ws ks h past (rows.take i)).length=i:=by rw[Nf,Qbn];omega
  have nx:∀(v:Bool) (H':Hp),Same HH H'->v=Hq ws ks h past (DN ws ks h past (rows.take i)) r->∀(u7 u8:Option V),∃u7' u8',[jp tr,jp lp,jp tb,jp tw,jp tk,some (.int h),jp ln,u7,u8]=[jp tr,jp lp,jp tb,jp tw,jp tk,some (.int h),jp ln,u7',u8']/\(upd H' ln (.lst ((DN ws ks h past (rows.take i)).map V.bl++[.bl v]))) ln=some (.lst ((DN ws ks h past (rows.take (i+1))).map V.bl))/\Same H (upd H' ln (.lst ((DN ws ks h past (rows.take i)).map V.bl++[.bl v]))):=λv H' s' ev u7 u8=>by
   refine⟨u7,u8,rq,?_,(s1.trans s').CN Ah.upd hln⟩;rw[Ad,Lj hr',Qbx,ev];rfl
  generalize WK:DN ws ks h past (rows.take i)=now at *;have Ku:((now.map V.bl).length)<=1000:=by rw[Qbw,Ib];omega
  cases r with
  | many n as=>
   cases rd with
   | tup ht rs=>
   cases rs with
   | cons r1 rs=>
   cases rs with
   | cons r2 rs=>
   cases rs with
   | cons r3 rs=>
   cases rs;cases r1;cases r2;cases r3 with
   | @tup ta xa _ ha ra=>
   have ea:=Iz ra;subst ea;have o3:as.length<=30:=ok.2.2.2.1;refine CW ⟨_,rq,_,_,_,_,rq,rq,SqT.of ht,Aj (j:=0) rfl,?_⟩;refine⟨_,rq,rq,_,rq,ifS (λ_=>?_) (λz=>absurd rfl z)⟩;refine⟨_,rq,.inl ⟨rq,_,SqL.of e1⟩,_,rq,_,_,_,_,rq,rq,SqT.of ht,Aj (j:=2) rfl,ta,rq,⟨_,SqT.of ha⟩,λl hl=>?_⟩;let J1:YN:=λ(i:Nat) (σ : St) (HX:Hp)=>∃(u:Option V),σ=[u,jp tw]/\HX l=some (.lst (((as.take i).filter λa=>decide (a∈ws)).map V.int))/\Same HH HX;refine DP (xs:=as.map V.int) J1 ⟨_,rq,Ad,Ae hl _⟩ (λi σ HX _ h=>?_) (λi x σ HX hx h=>?_) (fun σ HX h=>?_)
   ·obtain⟨u,rfl,e1,e2⟩:=h;exact SqT.of (e2 _ _ ha)
   ·obtain⟨u,rfl,g1,s2⟩:=h;rw[Qbc] at hx;obtain⟨a,ha',rfl⟩:=Qar.mp hx;have hi:=(Qae.mp ha').1;refine CW ⟨_,rq,_,rq,tw,_,rq,.inr (SqT.of (s2 _ _ (s1 _ _ htw))),rq,Pk ws,_,rq,?_⟩;show if inV (.int a) (ws.map V.int)=true then _ else _
    rw[Pg];have ts:=Qcp ha';by_cases e:a∈ws
    ·rw[QbM e];refine Av ⟨_,rq,_,g1,Ba (by rw[Qbw];exact Qcd (List.length_filter_le _ _) (by rw[Qbn];omega)),_,rq,?_,s2.CN Ah.upd hl⟩;rw[Ad,ts,QaW,Qbs,if_pos (QbM e),Qbx];rfl
    ·rw[Qby e];refine Bd ⟨_,rq,?_,s2⟩;rw[ts,QaW,Qbs,if_neg (by rw[Qby e];decide),List.filter_nil,QbE];exact g1
   obtain⟨u,rfl,g1,s2⟩:=h;rw[Qbw,Qbp] at g1;refine⟨l,_,rq,.inl (SqL.of g1),_,rq,_,_,_,_,rq,rq,SqT.of (s2 _ _ ht),Aj (j:=1) rfl,_,_,rq,rq,ln,_,_,rq,rq,s2 _ _ e1,Ba Ku,nx _ _ s2 ?_ _ _⟩;rw[Qbw];rfl
  | key k=>
   cases rd with
   | tup ht rs=>
   cases rs with
   | cons r1 rs=>
   cases rs with
   | cons r2 rs=>
   cases rs;cases r1;cases r2;refine CW ⟨_,rq,_,_,_,_,rq,rq,SqT.of ht,Aj (j:=0) rfl,?_⟩;refine⟨_,rq,rq,_,rq,ifS (λz=>absurd z (by trivial)) (λ_=>?_)⟩;refine⟨_,rq,rq,_,rq,ifS (λ_=>?_) (λz=>absurd rfl z)⟩;refine⟨_,rq,.inl ⟨rq,_,SqL.of e1⟩,_,rq,_,_,_,_,rq,rq,SqT.of ht,Aj (j:=1) rfl,_,rq,tk,_,rq,.inr (SqT.of (s1 _ _ htk)),rq,Pk ks,?_⟩;exact⟨ln,_,_,rq,rq,e1,Ba Ku,nx _ _ (Same.refl _) (Pg k ks) _ _⟩
  | hours a b=>
   cases rd with
   | tup ht rs=>
   cases rs with
   | cons r1 rs=>
   cases rs with
   | cons r2 rs=>
   cases rs with
   | cons r3 rs=>
   cases rs;cases r1;cases r2;cases r3;refine CW ⟨_,rq,_,_,_,_,rq,rq,SqT.of ht,Aj (j:=0) rfl,?_⟩;refine⟨_,rq,rq,_,rq,ifS (λz=>absurd z (by trivial)) (λ_=>?_)⟩;refine⟨_,rq,rq,_,rq,ifS (λz=>absurd z (by trivial)) (λ_=>?_)⟩;refine⟨_,rq,rq,_,rq,ifS (λ_=>?_) (λz=>absurd rfl z)⟩;refine⟨_,rq,.inl ⟨rq,_,SqL.of e1⟩,_,rq,_,rq,_,_,_,_,rq,rq,SqT.of ht,Aj (j:=1) rfl,_,_,rq,rq,_,_,rq,rq,(by show (0:Int) < 24;decide),_,rq,_,_,_,_,rq,rq,SqT.of ht,Aj (j:=2) rfl,_,rq,_,_,_,_,rq,rq,SqT.of ht,Aj (j:=1) rfl,_,_,rq,rq,_,_,rq,rq,_,_,rq,rq,(by show (0:Int) < 24;decide),_,_,rq,rq,?_⟩;exact⟨ln,_,_,rq,rq,e1,Ba Ku,nx _ _ (Same.refl _) (Z1 ok.1 ok.2.1 ok.2.2.1 ok.2.2.2) _ _⟩
  | neg i2=>
   cases rd with
   | tup ht rs=>
   cases rs with
   | cons r1 rs=>
   cases rs with
   | cons r2 rs=>
   cases rs;cases r1;cases r2;have o1:i2 < now.length:=by rw[Ib];exact ok
   refine CW ⟨_,rq,_,_,_,_,rq,rq,SqT.of ht,Aj (j:=0) rfl,?_⟩;refine⟨_,rq,rq,_,rq,ifS (λz=>absurd z (by trivial)) (λ_=>?_)⟩;refine⟨_,rq,rq,_,rq,ifS (λz=>absurd z (by trivial)) (λ_=>?_)⟩;refine⟨_,rq,rq,_,rq,ifS (λz=>absurd z (by trivial)) (λ_=>?_)⟩;refine⟨_,rq,rq,_,rq,ifS (λ_=>?_) (λz=>absurd rfl z)⟩;exact⟨_,rq,.inl ⟨rq,_,SqL.of e1⟩,_,rq,_,rq,_,_,_,_,rq,rq,SqT.of ht,Aj (j:=1) rfl,ln,_,_,_,rq,rq,SqL.of e1,Ed o1,_,rq,ln,_,_,rq,rq,e1,Ba Ku,nx _ _ (Same.refl _) rfl _ _⟩
  | both i2 j2=>
   cases rd with
   | tup ht rs=>
   cases rs with
   | cons r1 rs=>
   cases rs with
   | cons r2 rs=>
   cases rs with
   | cons r3 rs=>
   cases rs;cases r1;cases r2;cases r3;have o1:i2 < now.length:=by rw[Ib];exact ok.1
   have o2:j2 < now.length:=by rw[Ib];exact ok.2
   refine CW ⟨_,rq,_,_,_,_,rq,rq,SqT.of ht,Aj (j:=0) rfl,?_⟩;refine⟨_,rq,rq,_,rq,ifS (λz=>absurd z (by trivial)) (λ_=>?_)⟩;refine⟨_,rq,rq,_,rq,ifS (λz=>absurd z (by trivial)) (λ_=>?_)⟩;refine⟨_,rq,rq,_,rq,ifS (λz=>absurd z (by trivial)) (λ_=>?_)⟩;refine⟨_,rq,rq,_,rq,ifS (λz=>absurd z (by trivial)) (λ_=>?_)⟩;refine⟨_,rq,rq,_,rq,ifS (λ_=>?_) (λz=>absurd rfl z)⟩;refine⟨_,rq,.inl ⟨rq,_,SqL.of e1⟩,_,rq,_,rq,_,_,_,_,rq,rq,SqT.of ht,Aj (j:=1) rfl,ln,_,_,_,rq,rq,SqL.of e1,Ed o1,_,rq,?_⟩;have ev:Hq ws ks h past now (.both i2 j2)=(now.getD i2 false&&now.getD j2 false):=rfl;cases e:now.getD i2 false with
   | false=>exact Bd ⟨ln,_,_,rfl,rfl,e1,Ba Ku,nx _ _ (Same.refl _) (by rw[ev,e];rfl) _ _⟩
   | true=>exact Av ⟨_,rfl,_,rfl,_,_,_,_,rfl,rfl,SqT.of ht,Aj (j:=2) rfl,ln,_,_,_,rfl,rfl,SqL.of e1,Ed o2,ln,_,_,rfl,rfl,e1,Ba Ku,nx _ _ (Same.refl _) (by rw[ev,e];rfl) _ _⟩
  | any i2 j2=>
   cases rd with
   | tup ht rs=>
   cases rs with
   | cons r1 rs=>
   cases rs with
   | cons r2 rs=>
   cases rs with
   | cons r3 rs=>
   cases rs;cases r1;cases r2;cases r3;have o1:i2 < now.length:=by rw[Ib];exact ok.1
   have o2:j2 < now.length:=by rw[Ib];exact ok.2
   refine CW ⟨_,rq,_,_,_,_,rq,rq,SqT.of ht,Aj (j:=0) rfl,?_⟩;refine⟨_,rq,rq,_,rq,ifS (λz=>absurd z (by trivial)) (λ_=>?_)⟩;refine⟨_,rq,rq,_,rq,ifS (λz=>absurd z (by trivial)) (λ_=>?_)⟩;refine⟨_,rq,rq,_,rq,ifS (λz=>absurd z (by trivial)) (λ_=>?_)⟩;refine⟨_,rq,rq,_,rq,ifS (λz=>absurd z (by trivial)) (λ_=>?_)⟩;refine⟨_,rq,rq,_,rq,ifS (λz=>absurd z (by trivial)) (λ_=>?_)⟩;refine⟨_,rq,rq,_,rq,ifS (λ_=>?_) (λz=>absurd rfl z)⟩;refine⟨_,rq,.inl ⟨rq,_,SqL.of e1⟩,_,rq,_,rq,_,_,_,_,rq,rq,SqT.of ht,Aj (j:=1) rfl,ln,_,_,_,rq,rq,SqL.of e1,Ed o1,_,rq,?_⟩;have ev:Hq ws ks h past now (.any i2 j2)=(now.getD i2 false || now.getD j2 false):=rfl;cases e:now.getD i2 false with
   | true=>exact Av ⟨ln,_,_,rfl,rfl,e1,Ba Ku,nx _ _ (Same.refl _) (by rw[ev,e];rfl) _ _⟩
   | false=>exact Bd ⟨_,rfl,_,rfl,_,_,_,_,rfl,rfl,SqT.of ht,Aj (j:=2) rfl,ln,_,_,_,rfl,rfl,SqL.of e1,Ed o2,ln,_,_,rfl,rfl,e1,Ba Ku,nx _ _ (Same.refl _) (by rw[ev,e];rfl) _ _⟩
  | thn i2 j2 n=>
   obtain⟨tt,rfl⟩ : ∃tt,x=.ref tt:=by cases rd;exact⟨_,rfl⟩
   cases rd with
   | tup ht rs=>
   cases rs with
   | cons r1 rs=>
   cases rs with
   | cons r2 rs=>
   cases rs with
   | cons r3 rs=>
   cases rs with
   | cons r4 rs=>
   cases rs;cases r1;cases r2;cases r3;cases r4;obtain⟨o1,o2,o3,o4⟩ : i2 < i/\j2 < i/\1<=n/\n<=20:=ok;have o2':j2 < now.length:=by rw[Ib];exact o2
   refine CW ⟨_,rq,_,_,_,_,rq,rq,SqT.of ht,Aj (j:=0) rfl,?_⟩;refine⟨_,rq,rq,_,rq,ifS (λz=>absurd z (by trivial)) (λ_=>?_)⟩;refine⟨_,rq,rq,_,rq,ifS (λz=>absurd z (by trivial)) (λ_=>?_)⟩;refine⟨_,rq,rq,_,rq,ifS (λz=>absurd z (by trivial)) (λ_=>?_)⟩;refine⟨_,rq,rq,_,rq,ifS (λz=>absurd z (by trivial)) (λ_=>?_)⟩;refine⟨_,rq,rq,_,rq,ifS (λz=>absurd z (by trivial)) (λ_=>?_)⟩;refine⟨_,rq,rq,_,rq,ifS (λz=>absurd z (by trivial)) (λ_=>?_)⟩;refine⟨_,rq,.inl ⟨rq,_,SqL.of e1⟩,_,rq,_,rq,_,_,_,_,rq,rq,SqT.of ht,Aj (j:=2) rfl,ln,_,_,_,rq,rq,SqL.of e1,Ed o2',_,rq,?_⟩;have ev:Hq ws ks h past now (.thn i2 j2 n)=(now.getD j2 false&&(past.drop (past.length - n)).any λg=>g.getD i2 false):=rfl;cases e:now.getD j2 false with
   | false=>exact Bd ⟨ln,_,_,rfl,rfl,e1,Ba Ku,nx _ _ (Same.refl _) (by rw[ev,e];rfl) _ _⟩
   | true=>
   rw[e,QbT] at ev;refine Av ⟨_,rq,_,rq,lp,_,rq,.inl (SqL.of (s1 _ _ hlp)),_,rq,_,_,_,_,rq,rq,SqT.of ht,Aj (j:=3) rfl,_,_,rq,rq,_,_,rq,_,rq,lp,_,rq,SqL.of (s1 _ _ hlp),λlc hlc=>?_⟩;have ec:CZ xs (some (if (xs.length:Int) - (n:Int) > 0 then (xs.length:Int) - (n:Int) else 0)) none=xs.drop (xs.length - n):=by rw[lJ,Q0]
   rw[ec];have sc:=Ae hlc (.lst (xs.drop (xs.length - n)));have cc:upd HH lc (.lst (xs.drop (xs.length - n))) lc=some (.lst (xs.drop (xs.length - n))):=Ad;have pl:Paired (HeldAt HH) (xs.drop (xs.length - n)) (past.drop (past.length - n)):=by rw[QbX hps];exact Paired.RN _ (pmap (λ_ _ z=>z.same s1) hps)
   have lg:∀g∈past.drop (past.length - n),i2 < g.length:=λg hg=>QaP (by omega) (hlen g (QaD hg));have ll:(past.drop (past.length - n)).length<=60:=by rw[Qbq];omega
   generalize upd HH lc (.lst (xs.drop (xs.length - n)))=H1 at *;generalize xs.drop (xs.length - n)=ys at *;generalize past.drop (past.length - n)=ps at *;have ly:=QbX pl;refine⟨lc,rq,⟨_,SqL.of cc⟩,λl hl=>?_⟩;let J2:YN:=λ(k:Nat) (σ : St) (HX:Hp)=>∃(u:Option V),σ=[u,jp tt]/\HX l=some (.lst (((ps.take k).map λg=>g.getD i2 false).map V.bl))/\Same H1 HX;refine MJ (xs:=ys) J2 ⟨_,rq,Ad,Ae hl _⟩ (λk σ HX _ h=>?_) (λk x σ HX hx h=>?_) (fun σ HX h=>?_)
   ·obtain⟨u,rfl,e1,e2⟩:=h;exact SqL.of (e2 _ _ cc)
   ·obtain⟨u,rfl,g1,s2⟩:=h;obtain⟨g,hg,a,rfl,ha⟩:=RK pl hx;have hk:=(Qae.mp hg).1;refine CW (Av ⟨_,rq,_,rq,_,_,_,_,rq,rq,SqT.of (s2 _ _ (sc _ _ ht)),Aj (j:=1) rfl,a,_,_,_,rq,rq,SqL.of (s2 _ _ (sc _ _ ha)),Ed (lg g (Qay hg)),_,g1,Ba (by rw[Qbw,Qbw,Qbn];omega),_,rq,?_,s2.CN Ah.upd hl⟩);rw[Ad,Qcp hg,Qbx,Qbx];rfl
   obtain⟨u,rfl,g1,s2⟩:=h;rw[ly,Qbp] at g1;refine⟨l,_,rq,.inl (SqL.of g1),rq,Oo _,?_⟩;have s02:=sc.trans s2;refine⟨ln,_,_,rq,rq,s02 _ _ e1,Ba Ku,nx _ _ s02 ?_ _ _⟩;rw[ev];show inV (.bl true) ((ps.map λg=>g.getD i2 false).map V.bl)=_;rw[iR,List.any_map];rfl
 ·obtain⟨u7,u8,rfl,e1,s1⟩:=h;rw[lxr,Qbp] at e1;exact⟨_,rq,q ln HH hln e1 s1⟩
end
abbrev Gq:Stmt:=top 34
abbrev Fb:YF:=["_law_runner","_law_table_here","_law_past","_law_brought_here"]
abbrev xw:YF:=["_law_runner","_law_table_here","_law_past","_law_brought_here","_law_told","_law_due"]
theorem Hu:Bq xw Fb (Ak Gq):=by ac_rfl
theorem aB {α : Type} (xs:List α) (x:α):atI (xs++[x]) (-1)=some x:=by
 unfold atI ixN;rw[if_neg (by decide),QaM,Qax,if_pos (by omega),show (-1+((xs.length+1:Nat):Int)).toNat=xs.length by omega];show (xs++[x])[xs.length]?=some x;rw[Qad (Qch _),Nat.sub_self];rfl
def DY (rows:List Rw) (outs:List (Int×Nat)):PyData:=.tuple [.tuple (rows.map Rw.data),.tuple (outs.map outD)]
theorem Gv {i lo hi:Int} (h:lo<=i) (h':i<=hi):wiP (.int i) lo hi=true:=by
 show (decide (lo<=i)&&decide (i<=hi))=true;rw[QbM h,QbM h'];rfl
theorem jE {r:Rw} {m:Nat} (h:r.ok m):trP (m:Int) r.data=true:=by
 cases r with
 | many n as=>
  obtain⟨h1,h2,h3,h4,h5,h6⟩:=h;show trP (m:Int) (.tuple [.str "many",.int n,.tuple (as.map PyData.int)])=true;rw[Px,Gv h1 h2,QbT];show (Dq (.tuple (as.map PyData.int)) 1 30&&(((as.map PyData.int).all λx=>wiP x 1 99)&&JK (as.map PyData.int)))=true;rw[Ld,h6,QbZ,show ((as.map PyData.int).all λx=>wiP x 1 99)=true from (by rw[List.all_map];exact Qbu.mpr λa ha=>Gv (h5 a ha).1 (h5 a ha).2),QbZ]
  show (decide ((1:Int)<=((as.map PyData.int).length:Nat))&&decide ((((as.map PyData.int).length:Nat):Int)<=30))=true;rw[Qbw,QbM (by omega),QbM (by omega)];rfl
 | key k=>show trP (m:Int) (.tuple [.str "key",.int k])=true;rw[Xu];exact Gv h.1 h.2
 | hours a b=>show trP (m:Int) (.tuple [.str "hours",.int a,.int b])=true;rw[RV,Gv h.1 h.2.1,Gv h.2.2.1 h.2.2.2];rfl
 | neg i=>have h:i < m:=h;show trP (m:Int) (.tuple [.str "not",.int i])=true;rw[Xq];exact Gv (by omega) (by omega)
 | both i j=>have h:i < m/\j < m:=h;show trP (m:Int) (.tuple [.str "and",.int i,.int j])=true;rw[VR (.inl rfl),Gv (by omega) (by omega),Gv (by omega) (by omega)];rfl
 | any i j=>have h:i < m/\j < m:=h;show trP (m:Int) (.tuple [.str "or",.int i,.int j])=true;rw[VR (.inr rfl),Gv (by omega) (by omega),Gv (by omega) (by omega)];rfl
 | thn i j n=>have h:i < m/\j < m/\1<=n/\n<=20:=h;show trP (m:Int) (.tuple [.str "then",.int i,.int j,.int n])=true;rw[Pu,Gv (by omega) (by omega),Gv (by omega) (by omega),Gv (by omega) (by omega)];rfl
theorem OD {rows:List Rw} {outs:List (Int×Nat)} (h:Ls rows outs):Dz (DY rows outs)=true:=by
 show ((decide ((rows.map Rw.data).length<=320)&&decide ((outs.map outD).length<=16))&&(FQ (rows.map Rw.data)&&((outs.map outD).all (Fz (rows.map Rw.data).length)&&Fq ((outs.map outD).map Jg))))=true;have e1:FQ (rows.map Rw.data)=true:=by
  unfold FQ;refine Qbu.mpr λp hp=>?_;obtain⟨i,hi,ei⟩:=QaL hp;have hz:(rows.map Rw.data).zipIdx[i]?=some p:=by rw[Qaj hi,ei]
  rw[List.getElem?_zipIdx,Qbc] at hz;cases hr:rows[i]? with
  | none=>rw[hr] at hz;cases hz
  | some r=>
   rw[hr] at hz;cases hz;show trP ((0+i:Nat):Int) r.data=true;rw[Nat.zero_add];exact jE (h.ok i r hr)
 have e2:(outs.map outD).all (Fz (rows.map Rw.data).length)=true:=by
  rw[List.all_map];refine Qbu.mpr λo ho=>?_;have:=h.io o ho;show (wiP (.int o.1) 1 99&&wiP (.int (o.2:Int)) 0 (((rows.map Rw.data).length:Nat) - 1))=true;rw[Gv this.1 this.2.1,Qbw,Gv (by omega) (by omega)];rfl
 have e3:(outs.map outD).map Jg=outs.map (·.1):=by rw[List.map_map];rfl
 rw[Qbw,Qbw,QbM h.N7,QbM h.o16,e1];rw[Qbw] at e2;rw[e2,e3,h.up];rfl
theorem Es {k:Nat} {i:Int} (h:i.natAbs < 1000):Sl 30 k (.int i):=eY (by omega)
theorem jt {r:Rw} {m:Nat} (h:r.ok m) (hm:m<=400):Sl 30 3 r.data:=by
 have W:∀{z:Str} {k:Nat},W5 z=true->Sl 30 k (.str z):=λh=>XF h;cases r with
 | many n as=>
  obtain⟨h1,h2,h3,h4,h5,h6⟩:=h;refine Sl.tup (k:=2) (Cu (W (by trivial)) (Cu (Es (by omega)) (Cu ((Sl.tup (k:=1) (λx hx=>?_) (by rw[Qbw];omega) (by rw[cnt_ints];exact h4)).mono (Qch _) (by decide)) (QaH _)))) (by show 3<=430;decide) (by show 1<=30;decide);obtain⟨a,ha,rfl⟩:=Qce.mp hx;have:=h5 a ha;exact Es (by omega)
 | key k=>have h:0<=k/\k<=9:=h;exact Sl.tup (k:=2) (Cu (W (by trivial)) (Cu (Es (by omega)) (QaH _))) (by show 2<=430;decide) (by show 1<=30;decide)
 | hours a b=>have h:0<=a/\a<=23/\0<=b/\b<=23:=h;exact Sl.tup (k:=2) (Cu (W (by trivial)) (Cu (Es (by omega)) (Cu (Es (by omega)) (QaH _)))) (by show 3<=430;decide) (by show 2<=30;decide)
 | neg i=>have h:i < m:=h;exact Sl.tup (k:=2) (Cu (W (by trivial)) (Cu (Es (by omega)) (QaH _))) (by show 2<=430;decide) (by show 1<=30;decide)
 | both i j=>have h:i < m/\j < m:=h;exact Sl.tup (k:=2) (Cu (W (by trivial)) (Cu (Es (by omega)) (Cu (Es (by omega)) (QaH _)))) (by show 3<=430;decide) (by show 2<=30;decide)
 | any i j=>have h:i < m/\j < m:=h;exact Sl.tup (k:=2) (Cu (W (by trivial)) (Cu (Es (by omega)) (Cu (Es (by omega)) (QaH _)))) (by show 3<=430;decide) (by show 2<=30;decide)
 | thn i j n=>have h:i < m/\j < m/\1<=n/\n<=20:=h;exact Sl.tup (k:=2) (Cu (W (by trivial)) (Cu (Es (by omega)) (Cu (Es (by omega)) (Cu (Es (by omega)) (QaH _))))) (by show 4<=430;decide) (by show 3<=30;decide)
theorem Y4 {ds:List PyData} (h:∀x∈ds,Gx x=false):ds.countP Gx<=30:=by
 rw[List.countP_eq_zero.mpr λx hx=>by rw[h x hx];decide];exact Qci _
theorem jx (r:Rw):Gx r.data=false:=by cases r <;> rfl
theorem Nz {rows:List Rw} {outs:List (Int×Nat)} (h1:∀r∈rows,∃m,m<=400/\r.ok m) (h2:rows.length<=400) (h3:∀o∈outs,0<=o.1/\o.1<=99/\o.2 < 400) (h4:outs.length<=400):Sl 30 5 (DY rows outs):=by
 refine Sl.tup (k:=4) (Cu (Sl.tup (k:=3) (λx hx=>?_) (by rw[Qbw];omega) (Y4 λx hx=>?_)) (Cu (Sl.tup (k:=3) (λx hx=>?_) (by rw[Qbw];omega) (Y4 λx hx=>?_)) (QaH _))) (by show 2<=430;decide) (by show 0<=30;decide)
 ·obtain⟨r,hr,rfl⟩:=Qce.mp hx;obtain⟨m,hm,ok⟩:=h1 r hr;exact jt ok hm
 ·obtain⟨r,hr,rfl⟩:=Qce.mp hx;exact jx r
 ·obtain⟨o,ho,rfl⟩:=Qce.mp hx;have:=h3 o ho;exact Sl.tup (k:=2) (Cu (Es (by omega)) (Cu (Es (by omega)) (QaH _))) (by show 2<=430;decide) (by show 2<=30;decide)
 ·obtain⟨o,ho,rfl⟩:=Qce.mp hx;rfl
theorem Ls.sl {rows:List Rw} {outs:List (Int×Nat)} (h:Ls rows outs):Sl 30 5 (DY rows outs):=by
 have:=h.N7;have:=h.o16;refine Nz (λr hr=>?_) (by omega) (λo ho=>by have:=h.io o ho;omega) (by omega);obtain⟨i,hi,ei⟩:=QaL hr;exact⟨i,by omega,h.ok i r (by rw[Qaj hi,ei])⟩
theorem Ka.rep {H:Hp} {t:Addr} {rows:List Rw} {outs:List (Int×Nat)} (h:Ka H t rows outs):Rep (onl H) (.ref t) (DY rows outs):=by
 obtain⟨tr,to,xr,xo,h1,h2,h3,h4,h5⟩:=h;exact .tup (Dp h1) (.cons (.tup (Dp h2) h4) (.cons (.tup (Dp h3) h5) .nil))
def Kc (M:List Addr) (H:Hp) (q:Addr) (full:List (List Bool)):Prop:=∃xs,H q=some (.lst xs)/\Paired (HB M H) xs full
theorem Kc.other {M:List Addr} {H H':Hp} {q:Addr} {full:List (List Bool)} (h:Kc M H q full) (s:Ck M H H') (sq:∀o,H q=some o->H' q=some o):Kc M H' q full:=by
 obtain⟨xs,h1,h2⟩:=h;exact⟨xs,sq _ h1,pmap (λ_ _ z=>z.RG s) h2⟩
def aW (C:Addr):Sp:=λvs H Q _=>∃(M:List Addr) (p t lp tb:Addr) (rows:List Rw) (outs:List (Int×Nat)) (past:List (List Bool)) (ws ks:List Int) (h:Int),vs=[.ref p,.ref t,.ref lp,.ref tb]/\p∈M/\lp∈M/\(∀c∈M,H c≠none)/\Hs C M H p t past/\Kc M H lp past/\Ka H t rows outs/\Ls rows outs/\QJ H tb ws ks h/\(∀g∈past,rows.length<=g.length)/\past.length<=50 /\
 ∀H' g,rows.length<=(g:List Bool).length->Hs C M H' p t (past++[g])->Kc M H' lp (past++[g])->BJ H H'->(∀c o,H c=some o->c≠p->c≠lp->H' c=some o)->Q (.bl true) H'
section
variable {P:Program} {w:World} {K:YD} {mg:YB} {base:Heap} {C:Addr}
abbrev xn:YF:=["_law_address","_law_number","_law_past"]
theorem fZ (c:Code K mg "_law_ran_right" Gq Fb) (T:Tx K mg C) (ak:Good P w K mg base "_law_held" 1 JQ Vj) (Z9:RP P w K mg base C "beat" 3 Fd (XD C)):Good P w K mg base "_law_ran_right" 4 Fb (aW C):=by
 refine c.good Hu (λvs H Q E h=>?_) (λf cdv A outer s H vs Q E hr h=>?_)
 ·obtain⟨M,p,t,lp,tb,rows,outs,past,ws,ks,h,rfl,_⟩:=h;rfl
 obtain⟨M,p,t,lp,tb,rows,outs,past,ws,ks,h,rfl,pM,lM,hM,R,PA,TB,tok,BR,hlen,l50,q⟩:=h;refine⟨_,(@Af _ _ _ _ _ (Ej (Hh Qan Qak Qal Dd (pv 2) (Aa (Am ak hr (Aa (@Al _ _ _ _ _ _ _ Az (pv 1) Ab (λ_ _=>rfl)) (Aa (pv 2) (Aa (pv 3) Ac)))) Ac)))
 (@Af _ _ _ _ _ (@Bv _ _ 4 _ _ _ _ Hu.nd rfl (Or.inl rfl) (jC (pv 0) T.cl Z9 hr (Aa (@Al _ _ _ _ _ _ _ Az (pv 3) Ab (λ_ _=>rfl)) (Aa (@Al _ _ _ _ _ _ _ Az (pv 3) Ab (λ_ _=>rfl)) (Aa (@Al _ _ _ _ _ _ _ Az (pv 3) Ab (λ_ _=>rfl)) Ac)))) (by rfl) (by first | exact .inl rfl | exact .inr rfl))
 (@Af _ _ _ _ _ (KD (i:=5) Hu.nd rfl (Or.inl rfl) (N':=xn) rfl (Bx.of (src:=[none,none,some 2]) (Ak Gq) xw rfl rfl rfl (by trivial) (by trivial) (by trivial) rfl (by trivial)) (Ek (@Al _ _ _ _ _ _ _ Az (pv 1) Ab (λ_ _=>rfl))) (λ_ _ _ _=>(Ju (K:=K) (n:=2) rfl rfl (Bu (Bb (i:=0) (show List.Nodup (xn:YF) by trivial) rfl (Or.inl rfl)) (Bu (Bb (i:=1) (show List.Nodup (xn:YF) by trivial) rfl (Or.inl rfl)) DW)))) (λ_ _ _ _=>(KJ (QS (K:=K) rfl (@Al _ _ _ _ _ _ _ (JW (K:=K) rfl) (@Al _ _ _ _ _ _ _ (JW (K:=K) rfl) (pv 2) (Lf Jx Ab) (λ_ _=>rfl)) (pv 1) (λ_ _=>rfl)) (λ_=>rfl)))) (λ_ _ _ _=>(pv 0)))
 (@Ag _ _ _ (@Aq _ _ _ _ (BP (Ar Cg rfl T.isinstance Br (Aa (pv 4) (Aa (Cz (v:=.ty "tuple") rfl T.tuple BZ rfl) Ac))) (Cj (Cd (Fg hr.units) (pv 4) (Cq CP rfl T.tuple BZ (Aa (pv 5) Ac)) (Bc _))))))))),?_⟩
 show let R0:TS:=_;let R1:TS:=Aw _ R0;let R2:TS:=Aw _ R1;Aw _ R2 _ _ _;intro R0 R1 R2;obtain⟨xs,hlp,hps⟩:=PA;have R0:=R;obtain⟨dx,pl,xs',ob,plM,hpl,qH⟩:=R0;have TB0:=TB;obtain⟨tr,to,xr,xo,ht,htr,hto,rsr,rso⟩:=TB0;have BR0:=BR;obtain⟨tw,tk,htb,htw,htk⟩:=BR0;have lxs:=QbX hps;have npl:p≠lp:=λz=>by rw[z,hlp] at ob;cases ob
 refine⟨_,rq,.inl ⟨rq,_,SqL.of hlp⟩,_,rq,t,_,_,_,rq,rq,SqT.of ht,Aj (j:=0) rfl,_,rq,_,rq,tr,lp,tb,xr,rows,xs,past,ws,ks,h,rq,htr,Ai.same HS rsr,tok.ok,tok.N7,hlp,pmap (λ_ _ z=>z.held) hps,hlen,by omega,BR,λln H1 fln hln s1=>⟨lp,_,_,rq,rq,s1 _ _ hlp,Ba (by omega),?_⟩⟩;have nlp:ln≠lp:=λz=>by rw[z,hlp] at fln;cases fln
 have tu2:BJ H (upd H1 lp (.lst (xs++[.ref ln]))):=(BJ.of s1).trans (BJ.upd (RM (s1 _ _ hlp)));have sM:Ck M H (upd H1 lp (.lst (xs++[.ref ln]))):=λc o e n=>by rw[Bk (λz=>n (by rw[z];exact lM))];exact s1 _ _ e
 have so:∀c o,H c=some o->c≠lp->(upd H1 lp (.lst (xs++[.ref ln]))) c=some o:=λc o e n=>by rw[Bk n];exact s1 _ _ e
 have c2:(upd H1 lp (.lst (xs++[.ref ln]))) lp=some (.lst (xs++[.ref ln])):=Ad;have cn:(upd H1 lp (.lst (xs++[.ref ln]))) ln=some (.lst ((DN ws ks h past rows).map V.bl)):=by rw[Bk nlp];exact hln
 generalize upd H1 lp (.lst (xs++[.ref ln]))=H2 at *;have hM2:∀c∈M,H2 c≠none:=λc hc z=>by
  by_cases e:c=lp
  ·rw[e,c2] at z;cases z
  ·cases e0:H c with
   | none=>exact hM c hc e0
   | some o=>rw[so c o e0 e] at z;cases z
 have Z0:=tu2 _ _ htb;refine⟨_,rq,p,dx,_,rq,so _ _ ob npl,jX (by trivial),_,rq,tb,_,_,_,rq,rq,SqT.of Z0,Aj (j:=0) rfl,_,rq,tb,_,_,_,rq,rq,SqT.of Z0,Aj (j:=1) rfl,_,rq,tb,_,_,_,rq,rq,SqT.of Z0,Aj (j:=2) rfl,M,p,t,tw,tk,ws,ks,h,rows,outs,past,rq,pM,hM2,R.other sM (λo e=>so _ _ e npl),TB.tups tu2,tok,tu2 _ _ htw,tu2 _ _ htk,hlen,λr H3 hr3 R3 s3=>?_⟩;have pt:∀ys,H2 p≠some (.tup ys):=λys z=>by rw[so _ _ ob npl] at z;cases z
 have tu3:=s3.tup pt;generalize WK:DN ws ks h past rows=now at *;have Ib:now.length=rows.length:=by rw[<-WK,Nf]
 have cn3:H3 ln=some (.lst (now.map V.bl)):=s3 _ _ cn (λz=>by rw[z,so _ _ ob npl] at cn;cases cn);have cl3:=s3 _ _ c2 npl.symm;have ht3:=tu3 _ _ (tu2 _ _ ht);have gP:=tu3 _ _ (tu2 _ _ hto);refine⟨_,rq,t,_,_,_,rq,rq,SqT.of ht3,Aj (j:=1) rfl,to,rq,⟨_,SqT.of gP⟩,λl hl=>?_⟩;let J0:YN:=λ(i:Nat) (σ : St) (HX:Hp)=>∃(u v:Option V),σ=[u,v,jp lp]/\HX l=some (.lst ((JX (outs.take i) now).map V.int))/\Same H3 HX;refine DP (xs:=xo) J0 ⟨_,_,rq,Ad,Ae hl _⟩ (λi σ HX _ h=>?_) (λi x σ HX hx h=>?_) (fun σ HX h=>?_)
 ·obtain⟨u,v,rfl,g1,g2⟩:=h;exact SqT.of (g2 _ _ gP)
 ·obtain⟨u,v,rfl,g1,g2⟩:=h;obtain⟨d,hd,rd⟩:=Ai.at_ rso hx;rw[Qbc] at hd;obtain⟨o,ho,rfl⟩:=Qar.mp hd;have hi:=(Qae.mp ho).1;have io:=tok.io o (Qay ho);have o16:=tok.o16;have rd:=Rep.same (Dh (tu2.trans (tu3.trans (BJ.of g2)))) rd;have rd:=Rep.same HS rd;cases rd with
  | tup eg rg=>
  cases rg with
  | cons ra rg=>
  cases rg with
  | cons rm rg=>
  cases rg;cases ra;cases rm;refine⟨_,_,rq,SqT.of eg,rq,_,_,rq,_,_,rq,rq,?_⟩;refine⟨_,rq,_,rq,lp,_,_,_,rq,rq,SqL.of (g2 _ _ cl3),aB _ _,_,rq,ln,_,_,_,rq,rq,SqL.of (g2 _ _ cn3),Ed (by rw[Ib];exact io.2.2),_,rq,?_⟩;have tk:=Qcp ho;cases e:now.getD o.2 false with
  | true=>
   refine Av ⟨_,rq,_,g1,Ba ?_,_,_,rq,?_,g2.CN Ah.upd hl⟩
   ·unfold JX;rw[Qbw,Qbw];exact Qcd (List.length_filter_le _ _) (by rw[Qbn];omega)
   ·rw[Ad];unfold JX;rw[tk,QaW,Qbs,if_pos e,Qbx,Qbx];rfl
  | false=>
   refine Bd ⟨_,_,rq,?_,g2⟩;unfold JX;rw[tk,QaW,Qbs,if_neg (by rw[e];decide),List.filter_nil,QbE];exact g1
 obtain⟨u,v,rfl,g1,g2⟩:=h;have lxo:=Ai.len rso;rw[Qbw] at lxo;rw[lxo,Qbp] at g1;have hr4:=g2 _ _ hr3;refine⟨_,rq,Dv (.inr ⟨_,hr4⟩) ⟨_,rq,?_⟩⟩;rw[Ht hr4];refine Av ⟨_,rq,_,rq,l,_,rq,.inl ⟨SqL.of g1,λt2 ht2=>?_⟩⟩;have s5:=Ae ht2 (.tup ((JX outs now).map V.int));refine⟨_,_,.tup (s5 _ _ hr4) (GQ _),.tup Ad (GQ _),Mf _,Mf _,?_⟩;rw[Xv,QbM rfl];have s35:=g2.trans s5;have all2:Ck M H2 H3:=Ck.ofB s3 pM;refine q _ now (by omega) (R3.other (Ck.of s35) (s35 _)) ⟨xs++[.ref ln],s35 _ _ cl3,?_⟩ (tu2.trans (tu3.trans (BJ.of s35))) λc o e n1 n2=>s35 _ _ (s3 _ _ (so c o e n2) n1);exact Tg (pmap (λ_ _ z=>z.RG (sM.trans (all2.trans (Ck.of s35)))) hps) (.cons ⟨ln,rq,λz=>hM _ z fln,s35 _ _ cn3⟩ .nil)
end
abbrev Gw:Stmt:=top 35
abbrev DK:YF:=["_law_rows"]
theorem Gd:Bq ["_law_rows","_law_full","_law_outs"] DK (Ak Gw):=by ac_rfl
def Sh:Sp:=λvs H Q _=>∃(tr:Addr) (xr:YG) (rows:List Rw),vs=[.ref tr]/\H tr=some (.tup xr)/\Ai H xr (rows.map Rw.data)/\OkR rows/\rows.length<=320/\∀H',Same H H'->Q (.bl true) H'
def Dn:List (Int×Nat):=(List.range 16).map λk:Nat=>((1:Int)+(k:Int),0)
def Ew (rows:List Rw):List Rw:=rows++List.replicate (320 - rows.length) (Rw.key 0)
theorem Ol {rows:List Rw} (h:rows.length<=320):(Ew rows).length=320:=by unfold Ew;rw[QaM,List.length_replicate];omega
theorem dB {rows:List Rw} (h:OkR rows):OkR (Ew rows):=λi r e=>by
 unfold Ew at e;by_cases hi:i < rows.length
 ·rw[Qah hi] at e;exact h i r e
 ·rw[Qad (by omega)] at e;rw[List.eq_of_mem_replicate (Qay e)];exact⟨by decide,by decide⟩
theorem Qa {n:Nat} (h:0 < n):∀o∈Dn,1<=o.1/\o.1<=99/\o.2 < n:=λo ho=>by
 unfold Dn at ho;obtain⟨k,hk,rfl⟩:=Qce.mp ho;have:=List.mem_range.mp hk;exact⟨by show 1<=1+(k:Int);omega,by show 1+(k:Int)<=99;omega,h⟩
theorem dz {rows:List Rw} (h:OkR rows) (l:rows.length<=320):Ls (Ew rows) Dn:=⟨dB h,by rw[Ol l];decide,by decide,Qa (by rw[Ol l];decide),by decide⟩
theorem gb {rows:List Rw} (h:OkR rows) (l:rows.length<=320):∀r∈rows,∃m,m<=400/\r.ok m:=λr hr=>by
 obtain⟨i,hi,ei⟩:=QaL hr;exact⟨i,by omega,h i r (by rw[Qaj hi,ei])⟩
theorem S8 {H:Hp} {v:V} {d:PyData} (r:Rep H v d):∀n:Nat,Ai H (List.replicate n v) (List.replicate n d)
 | 0=>.nil
 | n+1=>.cons r (S8 r n)
theorem Ai.app {H:Hp} {xs ys:YG} {ds es:List PyData} (h:Ai H xs ds) (r:Ai H ys es):Ai H (xs++ys) (ds++es):=Ai.mk (Tg (Ai.pair h) (Ai.pair r))
section
variable {P:Program} {w:World} {K:YD} {mg:YB} {base:Heap}
theorem Ym (c:Code K mg "_law_bounds_right" Gw DK) (T:Tc mg) (FZ:Good P w K mg base "is_table" 5 FW (Sg Dz)) (Eo:Good P w K mg base "_law_is_truth" 1 El V3):Good P w K mg base "_law_bounds_right" 6 DK Sh:=by
 refine c.good Gd (λvs H Q E h=>?_) (λf cdv A outer s H vs Q E hr h=>?_)
 ·obtain⟨tr,xr,rows,rfl,_⟩:=h;rfl
 obtain⟨tr,xr,rows,rfl,htr,rsr,okr,Qp,q⟩:=h;refine⟨_,(@Af _ _ _ _ _ (@Bv _ _ 1 _ _ _ _ Gd.nd rfl (Or.inl rfl) (@Ax _ _ _ _ _ _ _ _ Hz (pv 0) (@Ax _ _ _ _ _ _ _ _ Zr (Bs (Aa (Bs (Aa Bj (Aa Ab Ac))) Ac)) (@Ax _ _ _ _ _ _ _ _ CK Ab (Ar Bl rfl T.len Cw (Aa (pv 0) Ac))))) (by rfl) (by first | exact .inl rfl | exact .inr rfl))
 (@Af _ _ _ _ _ (@Bv _ _ 2 _ _ _ _ Gd.nd rfl (Or.inl rfl) (Cq CP rfl T.tuple BZ (Aa (CQ (N':=["_law_address"]) rfl (Bx.plain rfl (by trivial) (by trivial) (by trivial)) (Yc rfl T.range (Aa Ab (Aa Ab Ac))) (λ_ _ _ _=>(Bb (i:=0) (show List.Nodup (["_law_address"]:YF) by trivial) rfl (Or.inl rfl))) (λ_ _ _ _=>Ds) (λ_ _ _ _=>(Bs (Aa (pv 0) (Aa Ab Ac))))) Ac)) (by rfl) (by first | exact .inl rfl | exact .inr rfl))
 (@Af _ _ _ _ _ (Bm (Cv (BW (Am Eo hr (Aa (Am FZ hr (Aa (Bs (Aa (pv 1) (Aa (pv 2) Ac))) Ac)) (Aa Ca Ac))))) (@Ag _ _ _ (@Aq _ _ _ _ Ca)) Bg)
 (@Af _ _ _ _ _ (Bm (Cv (BW (Am Eo hr (Aa (Am FZ hr (Aa (Bs (Aa (@Ax _ _ _ _ _ _ _ _ Hz (pv 1) (Bs (Aa (Bs (Aa Bj (Aa Ab Ac))) Ac))) (Aa (pv 2) Ac))) Ac)) (Aa Ca Ac))))) (@Ag _ _ _ (@Aq _ _ _ _ Ca)) Bg)
 (@Ag _ _ _ (@Aq _ _ _ _ (Am Eo hr (Aa (Am FZ hr (Aa (Bs (Aa (pv 1) (Aa (@Ax _ _ _ _ _ _ _ _ Hz (pv 2) (Bs (Aa (Bs (Aa Ab (Aa Ab Ac))) Ac))) Ac))) Ac)) (Aa Ca Ac))))))))),?_⟩
 show let R0:TS:=_;let R1:TS:=Aw _ R0;let R2:TS:=Aw _ R1;let R3:TS:=Aw _ R2;Aw _ R3 _ _ _;intro R0 R1 R2 R3;have lxr:=Ai.len rsr;rw[Qbw] at lxr;refine⟨_,rq,Ao (by show 2<=1000;decide),λp1 h1=>?_⟩;have s1:=Ae h1 (.tup [.str "key",.int 0]);have c1:upd H p1 (.tup [.str "key",.int 0]) p1=some (.tup [.str "key",.int 0]):=Ad;generalize upd H p1 (.tup [.str "key",.int 0])=H1 at *;refine⟨Ao (by show 1<=1000;decide),λp2 h2=>?_⟩;have s2:=Ae h2 (.tup [.ref p1]);have c2:upd H1 p2 (.tup [.ref p1]) p2=some (.tup [.ref p1]):=Ad;generalize upd H1 p2 (.tup [.ref p1])=H2 at *;have s02:=s1.trans s2;refine⟨_,rq,tr,_,rq,.inr (SqT.of (s02 _ _ htr)),_,_,rq,rq,p2,.ref p1,_,rq,rq,c2,by omega,by omega,λp3 H3 c3 s3=>?_⟩;rw[lxr,show ((320:Int) - (rows.length:Int)).toNat=320 - rows.length by omega] at c3;have s03:=s02.trans s3;refine⟨tr,p3,_,_,rq,rq,s03 _ _ htr,c3,Ao (by rw[List.length_replicate];omega),λpf H4 c4 s4=>?_⟩;have s04:=s03.trans s4;have rk:Rep H4 (.ref p1) (Rw.data (.key 0)):=.tup (s4 _ _ (s3 _ _ (s2 _ _ c1))) (.cons (.str _) (.cons (.int _) .nil));have rf:Ai H4 (xr++List.replicate (320 - rows.length) (.ref p1)) ((Ew rows).map Rw.data):=by
  unfold Ew;rw[Qbx,List.map_replicate];exact Ai.app (Ai.same s04 rsr) (S8 rk _)
 generalize xr++List.replicate (320 - rows.length) (V.ref p1)=xf at *;refine⟨_,_,rq,⟨by decide,by decide,by decide,by decide⟩,λl hl=>?_⟩;let J0:YN:=λ(i:Nat) (σ : St) (HH:Hp)=>∃(u:Option V) (xs:YG),σ=[u]/\HH l=some (.lst xs)/\Ai (onl HH) xs ((Dn.take i).map outD)/\Same H4 HH;refine Gb (lo:=1) (n:=16) J0 ⟨_,[],rq,Ad,.nil,Ae hl _⟩ (λi σ HH hi h=>?_) (fun σ HH h=>?_)
 ·obtain⟨u,xs,rfl,e1,e2,e3⟩:=h;have lx:=Ai.len e2;rw[Qbw,Qbn] at lx;refine CW (Av ⟨_,rq,Ao (by show 2<=1000;decide),λt ht=>?_⟩);have s5:=Ae ht (.tup [.int (1+(i:Int)),.int 0]);have c5:upd HH t (.tup [.int (1+(i:Int)),.int 0]) t=some (.tup [.int (1+(i:Int)),.int 0]):=Ad;have e1':=s5 _ _ e1;have e3':=e3.trans s5;generalize upd HH t (.tup [.int (1+(i:Int)),.int 0])=H5 at *;have tu:BJ H5 (upd H5 l (.lst (xs++[.ref t]))):=BJ.upd (RM e1');refine⟨_,e1',Ba (by omega),_,_,rq,Ad,?_,e3'.CN Ah.upd hl⟩;have ho:Dn[i]?=some ((1:Int)+(i:Int),0):=by unfold Dn;rw[Qbc,List.getElem?_range hi];rfl
  rw[Qcp ho,Qbx];exact Ai.snoc (Ai.same (Dh ((BJ.of s5).trans tu)) e2) (.tup (Dp (tu _ _ c5)) (.cons (.int _) (.cons (.int _) .nil)))
 obtain⟨u,xo,rfl,e1,e2,e3⟩:=h;rw[show Dn.take 16=Dn from Qas (by decide)] at e2
 have e2:=Ai.same HS e2;refine⟨l,_,rq,.inl ⟨SqL.of e1,λpo hpo=>?_⟩⟩;have s6:=Ae hpo (.tup xo);have c6:upd HH po (.tup xo) po=some (.tup xo):=Ad;have s46:=e3.trans s6;have e2':=Ai.same s6 e2;have cf:=s46 _ _ c4;have rf:=Ai.same s46 rf;have s06:=s04.trans s46;generalize upd HH po (.tup xo)=H6 at *;have tok:=dz okr Qp;have lf:=Ol Qp;refine⟨_,rq,_,rq,Ao (by show 2<=1000;decide),λt1 ht1=>?_⟩;have s7:=Ae ht1 (.tup [.ref pf,.ref po]);have c7:upd H6 t1 (.tup [.ref pf,.ref po]) t1=some (.tup [.ref pf,.ref po]):=Ad;generalize upd H6 t1 (.tup [.ref pf,.ref po])=H7 at *;refine⟨_,DY (Ew rows) Dn,rq,.tup c7 (.cons (.tup (s7 _ _ cf) (Ai.same s7 rf)) (.cons (.tup (s7 _ _ c6) (Ai.same s7 e2')) .nil)),(tok.sl.fit (by decide)).mono (by decide),λH8 s8=>⟨true,by rw[OD tok];rfl,_,rq,Bd ?_⟩⟩;have s68:=s7.trans s8;refine⟨_,rq,Ao (by show 2<=1000;decide),λk1 hk1=>?_⟩;have s9:=Ae hk1 (.tup [.str "key",.int 1]);have c9:upd H8 k1 (.tup [.str "key",.int 1]) k1=some (.tup [.str "key",.int 1]):=Ad;generalize upd H8 k1 (.tup [.str "key",.int 1])=H9 at *;refine⟨Ao (by show 1<=1000;decide),λk2 hk2=>?_⟩;have sA:=Ae hk2 (.tup [.ref k1]);have cA:upd H9 k2 (.tup [.ref k1]) k2=some (.tup [.ref k1]):=Ad;generalize upd H9 k2 (.tup [.ref k1])=HA at *;have s6A:=s68.trans (s9.trans sA);have lxf:=Ai.len rf;rw[Qbw,lf] at lxf;refine⟨pf,k2,_,_,rq,rq,s6A _ _ cf,cA,Ao (by show xf.length+1<=1000;omega),λpg HB cB sB=>⟨_,rq,Ao (by show 2<=1000;decide),λt2 ht2=>?_⟩⟩;have s6B:=s6A.trans sB;have sC:=Ae ht2 (.tup [.ref pg,.ref po]);have cC:upd HB t2 (.tup [.ref pg,.ref po]) t2=some (.tup [.ref pg,.ref po]):=Ad;have s6C:=s6B.trans sC;have r1:Ai (upd HB t2 (.tup [.ref pg,.ref po])) (xf++[.ref k1]) ((Ew rows++[Rw.key 1]).map Rw.data):=by
  rw[Qbx];exact Ai.app (Ai.same s6C rf) (.cons (.tup (sC _ _ (sB _ _ (sA _ _ c9))) (.cons (.str _) (.cons (.int _) .nil))) .nil)
 have cB':=sC _ _ cB;generalize upd HB t2 (.tup [.ref pg,.ref po])=HC at *;have sl2:Sl 30 5 (DY (Ew rows++[Rw.key 1]) Dn):=Nz (λr hr=>by
  rcases Qbz.mp hr with hr | hr
  ·exact gb tok.ok tok.N7 r hr
  ·rw[QaR.mp hr];exact⟨0,by decide,by decide,by decide⟩) (by rw[QaM,lf];decide) (λo ho=>by have:=Qa (n:=1) (by decide) o ho;omega) (by decide)
 have f2:Dz (DY (Ew rows++[Rw.key 1]) Dn)=false:=Dg λrs os e l1 _ _ _ _=>by
  injection e with e;injection e with e _;injection e with e;rw[<-e,Qbw,QaM,lf] at l1;exact absurd l1 (by decide)
 refine⟨_,DY (Ew rows++[Rw.key 1]) Dn,rq,.tup cC (.cons (.tup cB' r1) (.cons (.tup (s6C _ _ c6) (Ai.same s6C e2')) .nil)),(sl2.fit (by decide)).mono (by decide),λHD sD=>⟨false,by rw[f2];rfl,_,rq,Bd ?_⟩⟩;have s6D:=s6C.trans sD;refine⟨_,rq,_,rq,Ao (by show 2<=1000;decide),λm1 hm1=>?_⟩;have sE:=Ae hm1 (.tup [.int 17,.int 0]);have cE:upd HD m1 (.tup [.int 17,.int 0]) m1=some (.tup [.int 17,.int 0]):=Ad;generalize upd HD m1 (.tup [.int 17,.int 0])=HE at *;refine⟨Ao (by show 1<=1000;decide),λm2 hm2=>?_⟩;have sF:=Ae hm2 (.tup [.ref m1]);have cF:upd HE m2 (.tup [.ref m1]) m2=some (.tup [.ref m1]):=Ad;generalize upd HE m2 (.tup [.ref m1])=HF at *;have s6F:=s6D.trans (sE.trans sF);have lxo:=Ai.len e2';rw[Qbw,show Dn.length=16 by decide] at lxo;refine⟨po,m2,_,_,rq,rq,s6F _ _ c6,cF,Ao (by show xo.length+1<=1000;omega),λpq HG cG sG=>⟨Ao (by show 2<=1000;decide),λt3 ht3=>?_⟩⟩;have s6G:=s6F.trans sG;have sI:=Ae ht3 (.tup [.ref pf,.ref pq]);have cI:upd HG t3 (.tup [.ref pf,.ref pq]) t3=some (.tup [.ref pf,.ref pq]):=Ad;have s6I:=s6G.trans sI;have r2:Ai (upd HG t3 (.tup [.ref pf,.ref pq])) (xo++[.ref m1]) ((Dn++[((17:Int),0)]).map outD):=by
  rw[Qbx];exact Ai.app (Ai.same s6I e2') (.cons (.tup (sI _ _ (sG _ _ (sF _ _ cE))) (.cons (.int _) (.cons (.int _) .nil))) .nil)
 have cG':=sI _ _ cG;generalize upd HG t3 (.tup [.ref pf,.ref pq])=HI at *;have sl3:Sl 30 5 (DY (Ew rows) (Dn++[((17:Int),0)])):=Nz (gb tok.ok tok.N7) (by rw[lf];decide) (λo ho=>by
  rcases Qbz.mp ho with ho | ho
  ·have:=Qa (n:=1) (by decide) o ho;omega
  ·rw[QaR.mp ho];exact⟨by decide,by decide,by decide⟩) (by decide)
 have f3:Dz (DY (Ew rows) (Dn++[((17:Int),0)]))=false:=Dg λrs os e _ l2 _ _ _=>by
  injection e with e;injection e with _ e;injection e with e _;injection e with e;rw[<-e] at l2;exact absurd l2 (by decide)
 refine⟨_,DY (Ew rows) (Dn++[((17:Int),0)]),rq,.tup cI (.cons (.tup (s6I _ _ cf) (Ai.same s6I rf)) (.cons (.tup cG' r2) .nil)),(sl3.fit (by decide)).mono (by decide),λHJ sJ=>⟨false,by rw[f3];rfl,?_⟩⟩;exact q _ (s06.trans (s6I.trans sJ))
end
abbrev Im:Stmt:=top 36
abbrev aZ:YF:=["_law_script"]
abbrev xy:YF:=["_law_script","_law_k","_law_bag_here","_law_table_here","_law_other_here","_law_some","_law_one","_law_runners","_law_pasts","_law_told","_law_beat","_law_which","_law_brought_here","_law_turn","_law_bad"]
theorem DG:Bq xy aZ (Ak Im):=by ac_rfl
structure Wd (C:Addr) (M:List Addr) (H:Hp) (rs qs ts:List Addr) (tb:List (List Rw×List (Int×Nat))) (fs:List (List (List Bool))) (n:Nat):Prop where
 run:∀(w:Nat) r t f,rs[w]?=some r->ts[w]?=some t->fs[w]?=some f->Hs C M H r t f
 past:∀(w:Nat) q f,qs[w]?=some q->fs[w]?=some f->Kc M H q f
 tbl:∀(w:Nat) t x,ts[w]?=some t->tb[w]?=some x->Ka H t x.1 x.2
 len:∀(w:Nat) f x,fs[w]?=some f->tb[w]?=some x->f.length<=n/\∀g∈f,x.1.length<=g.length
 lf:fs.length=3
theorem Wd.other {C:Addr} {M:List Addr} {H H':Hp} {rs qs ts:List Addr} {tb:List (List Rw×List (Int×Nat))} {fs:List (List (List Bool))} {n:Nat} (W:Wd C M H rs qs ts tb fs n) (s:Ck M H H') (tu:BJ H H') (kr:∀c∈rs,∀o,H c=some o->H' c=some o) (kq:∀c∈qs,∀o,H c=some o->H' c=some o):Wd C M H' rs qs ts tb fs n:=
 ⟨λw r t f h1 h2 h3=>(W.run w r t f h1 h2 h3).other s (kr r (Qay h1)),λw q f h1 h2=>(W.past w q f h1 h2).other s (kq q (Qay h1)),λw t x h1 h2=>(W.tbl w t x h1 h2).tups tu,W.len,W.lf⟩
theorem Wd.up {C:Addr} {M:List Addr} {H:Hp} {rs qs ts:List Addr} {tb:List (List Rw×List (Int×Nat))} {fs:List (List (List Bool))} {n m:Nat} (W:Wd C M H rs qs ts tb fs n) (l:n<=m):Wd C M H rs qs ts tb fs m:=
 ⟨W.run,W.past,W.tbl,λw f x h1 h2=>⟨Qcd (W.len w f x h1 h2).1 l,(W.len w f x h1 h2).2⟩,W.lf⟩
theorem Wd.step {C:Addr} {M:List Addr} {H H':Hp} {rs qs ts:List Addr} {tb:List (List Rw×List (Int×Nat))} {fs:List (List (List Bool))} {n w:Nat} {r q t:Addr} {f:List (List Bool)} {x:List Rw×List (Int×Nat)} {g:List Bool} (W:Wd C M H rs qs ts tb fs n)
  (hr:rs[w]?=some r) (hq:qs[w]?=some q) (ht:ts[w]?=some t) (hf:fs[w]?=some f) (hx:tb[w]?=some x) (nr:rs.Nodup) (nq:qs.Nodup) (dj:∀a∈rs,a∉qs) (rM:r∈M) (qM:q∈M)
  (hg:x.1.length<=g.length) (R:Hs C M H' r t (f++[g])) (P:Kc M H' q (f++[g])) (tu:BJ H H') (s:∀c o,H c=some o->c≠r->c≠q->H' c=some o):Wd C M H' rs qs ts tb (fs.set w (f++[g])) (n+1):=by
 have sM:Ck M H H':=λc o e nm=>s c o e (λz=>nm (z ▸ rM)) (λz=>nm (z ▸ qM));have hw:w < fs.length:=(Qae.mp hf).1;have inj:∀{l:List Addr} {v:Nat} {a:Addr},l.Nodup->l[v]?=some a->l[w]?=some a->v=w:=λnd h1 h2=>by
  obtain⟨i1,e1⟩:=Qae.mp h1;obtain⟨i2,e2⟩:=Qae.mp h2;exact (List.getElem_inj nd).mp (e1.trans e2.symm)
 refine⟨λv r' t' f' h1 h2 h3=>?_,λv q' f' h1 h2=>?_,λv t' x' h1 h2=>(W.tbl v t' x' h1 h2).tups tu,λv f' x' h1 h2=>?_,by rw[List.length_set];exact W.lf⟩
 ·by_cases e:v=w
  ·subst e;rw[hr] at h1;rw[ht] at h2;rw[Qat hw] at h3;cases h1;cases h2;cases h3;exact R
  ·rw[QaA (λz=>e z.symm)] at h3;refine (W.run v r' t' f' h1 h2 h3).other sM λo ho=>s _ _ ho (λz=>e (inj nr (z ▸ h1) hr)) (λz=>dj r' (Qay h1) (by rw[z];exact Qay hq))
 ·by_cases e:v=w
  ·subst e;rw[hq] at h1;rw[Qat hw] at h2;cases h1;cases h2;exact P
  ·rw[QaA (λz=>e z.symm)] at h2;refine (W.past v q' f' h1 h2).other sM λo ho=>s _ _ ho (λz=>dj r (Qay hr) (by rw[<-z];exact Qay h1)) (λz=>e (inj nq (z ▸ h1) hq))
 ·by_cases e:v=w
  ·subst e;rw[Qat hw] at h1;rw[hx] at h2;cases h1;cases h2;have:=W.len v f x hf hx;refine⟨by rw[QaM,Qax];omega,λg' hg'=>?_⟩;rcases Qbz.mp hg' with z | z
   ·exact this.2 g' z
   ·rw[QaR.mp z];exact hg
  ·rw[QaA (λz=>e z.symm)] at h1;have:=W.len v f' x' h1 h2;exact⟨by omega,this.2⟩
theorem Wd.live {C:Addr} {M:List Addr} {H:Hp} {rs qs ts:List Addr} {tb:List (List Rw×List (Int×Nat))} {fs:List (List (List Bool))} {n:Nat} (W:Wd C M H rs qs ts tb fs n) (lr:rs.length=3) (lq:qs.length=3) (lt:ts.length=3):(∀c∈rs,H c≠none)/\∀c∈qs,H c≠none:=by
 refine⟨λc hc z=>?_,λc hc z=>?_⟩
 ·obtain⟨w,hw,ew⟩:=QaL hc;obtain⟨dx,pl,xs,ob,_⟩:=W.run w c _ _ (by rw[Qaj hw,ew]) (Qaj (by omega)) (Qaj (by rw[W.lf];omega));rw[z] at ob;cases ob
 ·obtain⟨w,hw,ew⟩:=QaL hc;obtain⟨xs,ob,_⟩:=W.past w c _ (by rw[Qaj hw,ew]) (Qaj (by rw[W.lf];omega));rw[z] at ob;cases ob
theorem Bt.keep {H H':Hp} {b:Addr} {n:Nat} (h:Bt H b n) (s:∀o,H b=some o->H' b=some o):Bt H' b n:=by
 obtain⟨x,y,z,e,r⟩:=h;exact⟨x,y,z,s _ e,r⟩
theorem at3 {α : Type} {w:Nat} (h:w < 3) (a b c:α):∃x,([a,b,c]:List α)[w]?=some x:=⟨_,Qaj (by simpa using h)⟩
theorem ZM {w:Nat} {l:List Addr} {a:Addr} (h:l[w]?=some a):atI (l.map V.ref) (w:Int)=some (.ref a):=Aj (by rw[Qbc,h];rfl)
section
variable {P:Program} {w:World} {K:YD} {mg:YB} {base:Heap} {C:Addr}
theorem gj {f:Addr} {fd:FuncData} (F:Fun K "law" "law" Im f fd) (T:Tx K mg C) (Qv:Good P w K mg base "_law_bag" 1 KQ (aY K)) (Bf:Good P w K mg base "_law_take" 1 Eb Jz) (QZ:Good P w K mg base "_law_table" 3 Ja Vg) (U9:Good P w K mg base "_law_brought" 2 Gi QL) (FZ:Good P w K mg base "is_table" 5 FW (Sg Dz)) (Eo:Good P w K mg base "_law_is_truth" 1 El V3) (Oj:Good P w K mg base "_law_bounds_right" 6 DK Sh)
  (Lp:Xb P w K mg base C 1 Dt (XC C)) (Rv:Good P w K mg base "_law_ran_right" 4 Fb (aW C)) (Jt:Good P w K mg base "_law_spoilt" 12 Et (RB 9)) (Ub:Good P w K mg base "_law_is_table" 4 Fx Sd):Ec P w K mg base CX0 13 f fd aZ (RD K):=by
 refine F.ok DG (λvs H Q E h=>?_) (λcdv A outer s H vs Q E hr h=>?_)
 ·obtain⟨a,ns,rfl,_⟩:=h;rfl
 obtain⟨a,ns,rfl,hS,h63,q⟩:=h;refine⟨_,(@Af _ _ _ _ _ (IK QbF rfl (Er rfl T.range (Aa (Ar (MK rfl) rfl T.max Uu (Aa Ab (Aa (Ar (Y6 rfl) rfl T.min iK (Aa Ab (Aa (Ar Bl rfl T.len Cw (Aa (pv 0) Ac)) Ac))) Ac))) Ac)) (Bb (i:=1) DG.nd rfl (Or.inl rfl))
 (@Af _ _ _ _ _ (@Bv _ _ 2 _ _ _ _ DG.nd rfl (Or.inr rfl) (Am Qv hr (Aa (pv 0) (Aa (pv 1) Ac))) (by rfl) (by first | exact .inl rfl | exact .inr rfl))
 (@Af _ _ _ _ _ (X7 (i:=3) (j:=4) rfl DG.nd rfl rfl (by decide) rfl rfl (Aa (Am QZ hr (Aa (pv 2) Ac)) (Aa (Am QZ hr (Aa (pv 2) Ac)) Ac)) rfl)
 (@Af _ _ _ _ _ (@Bv _ _ 5 _ _ _ _ DG.nd rfl (Or.inl rfl) (BK (Aa (pv 3) (Aa (pv 3) (Aa (pv 4) Ac)))) (by rfl) (by first | exact .inl rfl | exact .inr rfl))
 (@Af _ _ _ _ _ (IK QbF rfl (KH (pv 5)) (Bb (i:=6) DG.nd rfl (Or.inl rfl))
 (@Ag _ _ _ (Bm (Cv (BW (Am Eo hr (Aa (Am FZ hr (Aa (pv 6) Ac)) (Aa Ca Ac))))) (@Ag _ _ _ (@Aq _ _ _ _ Ca)) Bg)))
 (@Af _ _ _ _ _ (Bm (Cv (N8 (Am Oj hr (Aa (@Al _ _ _ _ _ _ _ Az (pv 3) Ab (λ_ _=>rfl)) Ac)) (λ_=>rfl))) (@Ag _ _ _ (@Aq _ _ _ _ Ca)) Bg)
 (@Af _ _ _ _ _ (@Bv _ _ 7 _ _ _ _ DG.nd rfl (Or.inl rfl) (BK (Aa (Wc Lp hr T.mgC (Aa (pv 3) Ac)) (Aa (Wc Lp hr T.mgC (Aa (pv 3) Ac)) (Aa (Wc Lp hr T.mgC (Aa (pv 4) Ac)) Ac)))) (by rfl) (by first | exact .inl rfl | exact .inr rfl))
 (@Af _ _ _ _ _ (@Bv _ _ 8 _ _ _ _ DG.nd rfl (Or.inl rfl) (BK (Aa (BK Ac) (Aa (BK Ac) (Aa (BK Ac) Ac)))) (by rfl) (by first | exact .inl rfl | exact .inr rfl))
 (@Af _ _ _ _ _ (KD (i:=9) DG.nd rfl (Or.inl rfl) (N':=xb) rfl (Bx.of (src:=[none,some 2]) (Ak Im) xy rfl rfl rfl (by trivial) (by trivial) (by trivial) rfl (by trivial)) (Er rfl T.range (Aa Ab Ac)) (λ_ _ _ _=>(Bb (i:=0) (show List.Nodup (xb:YF) by trivial) rfl (Or.inl rfl))) (λ_ _ _ _=>Ds) (λ_ _ _ _=>(@Ax _ _ _ _ _ _ _ _ CV Ab (Am Bf hr (Aa (pv 1) (Aa Ab Ac))))))
 (@Af _ _ _ _ _ (IK QbF rfl (Er rfl T.range (Aa (@Al _ _ _ _ _ _ _ Bp (BK (Aa (@Ax _ _ _ _ _ _ _ _ CV Ab (Am Bf hr (Aa (pv 2) (Aa Ab Ac)))) (Aa Ab Ac))) (Cq MP rfl T.int KY (Aa (Cd Cp (Am Bf hr (Aa (pv 2) (Aa Ab Ac))) Ab (Bc _)) Ac)) (λ_ _=>rfl)) Ac)) (Bb (i:=10) DG.nd rfl (Or.inl rfl))
 (@Af _ _ _ _ _ (@Bv _ _ 11 _ _ _ _ DG.nd rfl (Or.inl rfl) (Am Bf hr (Aa (pv 2) (Aa Ab Ac))) (by rfl) (by first | exact .inl rfl | exact .inr rfl))
 (@Af _ _ _ _ _ (@Bv _ _ 12 _ _ _ _ DG.nd rfl (Or.inl rfl) (Am U9 hr (Aa (pv 2) (Aa (pv 9) Ac))) (by rfl) (by first | exact .inl rfl | exact .inr rfl))
 (@Ag _ _ _ (Bm (Cv (N8 (Am Rv hr (Aa (@Al _ _ _ _ _ _ _ Bp (pv 7) (pv 11) (λ_ _=>rfl)) (Aa (@Al _ _ _ _ _ _ _ Bp (pv 5) (pv 11) (λ_ _=>rfl)) (Aa (@Al _ _ _ _ _ _ _ Bp (pv 8) (pv 11) (λ_ _=>rfl)) (Aa (pv 12) Ac))))) (λ_=>rfl))) (@Ag _ _ _ (@Aq _ _ _ _ Ca)) Bg)))))
 (@Ag _ _ _ (IK QbF rfl (Er rfl T.range (Aa Ab Ac)) (Bb (i:=13) DG.nd rfl (Or.inl rfl))
 (@Af _ _ _ _ _ (@Bv _ _ 14 _ _ _ _ DG.nd rfl (Or.inl rfl) (Am Jt hr (Aa (pv 2) (Aa (pv 3) Ac))) (by rfl) (by first | exact .inl rfl | exact .inr rfl))
 (@Af _ _ _ _ _ (Bm (Bh Jp (pv 13) Ab (Bc _)) (@Ag _ _ _ (@Bv _ _ 14 _ _ _ _ DG.nd rfl (Or.inl rfl) (Am Jt hr (Aa (pv 2) (Aa (pv 14) Ac))) (by rfl) (by first | exact .inl rfl | exact .inr rfl))) Bg)
 (@Ag _ _ _ (Bm (Cv (BW (Am Eo hr (Aa (Am FZ hr (Aa (pv 14) Ac)) (Aa (Am Ub hr (Aa (pv 14) Ac)) Ac))))) (@Ag _ _ _ (@Aq _ _ _ _ Ca)) Bg))))))))))))))))
 (@Ag _ _ _ (@Aq _ _ _ _ Ca))),?_⟩
 show let R0:TS:=_;let R1:TS:=_;let R2:TS:=Aw (BX _ R1 _) R0;let R3:TS:=Aw _ R2;let R4:TS:=KZ _ _ R3;let R5:TS:=_;let R6:TS:=Aw _ R5;let R7:TS:=Aw _ R6;let R8:TS:=Aw (KZ _ _ R7) R4;let R9:TS:=Aw _ R8;let R10:TS:=Aw _ R9;let R11:TS:=Aw _ R10;let R12:TS:=Aw _ R11;let R13:TS:=_;let R14:TS:=Aw (KZ _ _ R13) R12;let R15:TS:=Aw _ R14;let R16:TS:=Aw _ R15;let R17:TS:=Aw _ R16;Aw (KZ _ _ R17) _ _ _ _;intro R0 R1 R2 R3 R4 R5 R6 R7 R8 R9 R10 R11 R12 R13 R14 R15 R16 R17;have hl:(ns.map V.int).length=ns.length:=Qbw _;refine⟨_,rq,a,_,rq,.inl hS,_,_,rq,_,_,rq,_,rq,?_,?_,?_⟩
 ·rw[hl];split <;> split <;> omega
 ·rw[hl];split <;> split <;> omega
 let J0:YN:=λi σ H'=>Same H H'/\∃u1 u2 u3 u4 u5 u6 u7 u8 u9 ua ub uc ud ue,σ=[jp a,u1,u2,u3,u4,u5,u6,u7,u8,u9,ua,ub,uc,ud,ue];refine Mz J0 ⟨Same.refl H,_,_,_,_,_,_,_,_,_,_,_,_,_,_,rq⟩ (λi σ H' hi h=>?_) (fun σ H' h=>?_)
 case refine_2=>
  obtain⟨sm,u1,u2,u3,u4,u5,u6,u7,u8,u9,ua,ub,uc,ud,ue,rfl⟩:=h;exact q _
 obtain⟨sm,u1,u2,u3,u4,u5,u6,u7,u8,u9,ua,ub,uc,ud,ue,rfl⟩:=h;rw[hl] at hi;have hi':(i:Int)<=100:=by
  revert hi;split <;> split <;> omega
 refine⟨_,rq,_,rq,a,ns,_,rq,sm.seq hS,h63,by omega,by omega,λb o hb0 gW=>?_⟩;have s1:Same H (upd H' b o):=sm.trans (Ae hb0 o);have fb:H b=none:=sm.free hb0;generalize upd H' b o=H1 at s1 gW ⊢;refine⟨_,rq,b,0,rq,gW,by omega,λt1 Kg Lh H2 tb1 ok1 hb2 sb2=>⟨_,rq,b,_,rq,hb2,by omega,λt2 RJ bf H3 tb2 ok2 hb3 sb3=>⟨_,_,rq,?_⟩⟩⟩;have s3:Same H H3:=s1.CN (sb2.trans sb3) fb;have tb1:=tb1.tups (sb3.tup hb2.Ho);refine⟨_,rq,_,rq,_,rq,Ao (by show 3<=1000;decide),λls hls=>?_⟩;have k4:=Ae hls (.lst [.ref t1,.ref t1,.ref t2]);have c4:upd H3 ls (.lst [.ref t1,.ref t1,.ref t2]) ls=some (.lst [.ref t1,.ref t1,.ref t2]):=Ad;have tb1:=tb1.tups (BJ.of k4);have tb2:=tb2.tups (BJ.of k4);have hb4:=hb3.same k4;have s4:=s3.trans k4;generalize upd H3 ls (.lst [.ref t1,.ref t1,.ref t2])=H4 at *;refine⟨_,rq,ls,rq,⟨_,SqL.of c4⟩,?_⟩;let J1:YN:=λj σ HH=>∃u6,σ=[jp a,some (.int (0+(i:Int))),jp b,jp t1,jp t2,jp ls,u6,u7,u8,u9,ua,ub,uc,ud,ue]/\Same H4 HH;refine Ue (xs:=[.ref t1,.ref t1,.ref t2]) J1 ⟨_,rq,Same.refl _⟩ (λj σ HH _ h=>?_) (λj x σ HH hx h=>?_) (fun σ HH h=>?_)
 ·obtain⟨u6',rfl,sH⟩:=h;exact SqL.of (sH _ _ c4)
 ·obtain⟨u6',rfl,sH⟩:=h;have hx:x=.ref t1\/x=.ref t2:=by
   have:=Qay hx;simpa using this
  obtain⟨t,rows,outs,rfl,tbx,okx⟩ : ∃t rows outs,x=.ref t/\Ka H4 t rows outs/\Ls rows outs:=by
   rcases hx with rfl | rfl
   ·exact⟨t1,Kg,Lh,rq,tb1,ok1⟩
   ·exact⟨t2,RJ,bf,rq,tb2,ok2⟩
  refine CW ⟨_,rq,_,DY rows outs,rq,Rep.same (Same.trans HS sH) tbx.rep,(okx.sl.fit (by decide)).mono (by decide),λHX sX=>⟨true,by rw[OD okx];rfl,_,rq,Bd ⟨_,rq,sH.trans sX⟩⟩⟩
 obtain⟨u6',rfl,sH⟩:=h;have tb1:=tb1.tups (BJ.of sH);have tb2:=tb2.tups (BJ.of sH);have hb5:=hb4.same sH;have s5:=s4.trans sH;have c5:=sH _ _ c4;obtain⟨tr,to,xr,xo,ht1,htr,hto,rsr,rso⟩:=id tb1;refine⟨_,rq,t1,_,_,_,rq,rq,SqT.of ht1,Aj (j:=0) rfl,tr,xr,Kg,rq,htr,Ai.same HS rsr,ok1.ok,ok1.N7,λH6 k6=>⟨_,rq,Bd ?_⟩⟩;have tb1:=tb1.tups (BJ.of k6);have tb2:=tb2.tups (BJ.of k6);have hb6:=hb5.same k6;have s6:=s5.trans k6;have c6:=k6 _ _ c5;clear rsr rso htr hto ht1;refine⟨_,rq,λr1 dx1 hr1 nT ne1=>?_⟩;have k7:Same H6 (upd (upd H6 dx1 (.own r1)) r1 (.ins C dx1 [])):=λc o e=>by rw[Bk (Ay e hr1),Bk (Ay e nT)];exact e
 have h7:(upd (upd H6 dx1 (.own r1)) r1 (.ins C dx1 [])) r1=some (.ins C dx1 []):=Ad;generalize upd (upd H6 dx1 (.own r1)) r1 (.ins C dx1 [])=H7 at *;refine⟨r1,dx1,t1,rq,h7,λpl1 H8 oN o1 l1 k8=>⟨rq,?_⟩⟩;have k68:Same H6 H8:=k7.CN k8 hr1;refine⟨_,rq,λr2 dx2 hr2 nR ne2=>?_⟩;have k9:Same H8 (upd (upd H8 dx2 (.own r2)) r2 (.ins C dx2 [])):=λc o e=>by rw[Bk (Ay e hr2),Bk (Ay e nR)];exact e
 have h9:(upd (upd H8 dx2 (.own r2)) r2 (.ins C dx2 [])) r2=some (.ins C dx2 []):=Ad;generalize upd (upd H8 dx2 (.own r2)) r2 (.ins C dx2 [])=H9 at *;refine⟨r2,dx2,t1,rq,h9,λpl2 HA oM o2 l2 kA=>⟨rq,?_⟩⟩;have k8A:Same H8 HA:=k9.CN kA hr2;have n12:r1≠r2:=Ay o1 hr2;have nb1:=hb6.nb hr1;have nb2:=(hb6.same k68).nb hr2;refine⟨_,rq,λr3 dx3 hr3 nQ ne3=>?_⟩;have kB:Same HA (upd (upd HA dx3 (.own r3)) r3 (.ins C dx3 [])):=λc o e=>by rw[Bk (Ay e hr3),Bk (Ay e nQ)];exact e
 have hB:(upd (upd HA dx3 (.own r3)) r3 (.ins C dx3 [])) r3=some (.ins C dx3 []):=Ad;generalize upd (upd HA dx3 (.own r3)) r3 (.ins C dx3 [])=HB at *;refine⟨r3,dx3,t2,rq,hB,λpl3 HC oK o3 l3 kC=>⟨rq,?_⟩⟩;have kAC:Same HA HC:=kB.CN kC hr3;have n13:r1≠r3:=Ay (k8A _ _ o1) hr3;have n23:r2≠r3:=Ay o2 hr3;have nb3:=(hb6.same (k68.trans k8A)).nb hr3;have bp1:=(hb6.same k7).nb oN;have bp2:=(hb6.same (k68.trans k9)).nb oM;have bp3:=(hb6.same (k68.trans (k8A.trans kB))).nb oK;have k6C:=k68.trans (k8A.trans kAC);have o1:=kAC _ _ (k8A _ _ o1);have l1:=kAC _ _ (k8A _ _ l1);have o2:=kAC _ _ o2;have l2:=kAC _ _ l2;refine⟨Ao (by show 3<=1000;decide),λlrs gU=>?_⟩;have kD:=Ae gU (.lst [.ref r1,.ref r2,.ref r3]);have cD:upd HC lrs (.lst [.ref r1,.ref r2,.ref r3]) lrs=some (.lst [.ref r1,.ref r2,.ref r3]):=Ad;generalize upd HC lrs (.lst [.ref r1,.ref r2,.ref r3])=HD at *;refine⟨Ao (by show 0<=1000;decide),λq1 hq1=>?_⟩;have kE:=Ae hq1 (.lst []);have cE:upd HD q1 (.lst []) q1=some (.lst []):=Ad;generalize upd HD q1 (.lst [])=HE at *;refine⟨Ao (by show 0<=1000;decide),λq2 hq2=>?_⟩;have kF:=Ae hq2 (.lst []);have cF:upd HE q2 (.lst []) q2=some (.lst []):=Ad;generalize upd HE q2 (.lst [])=HF at *;refine⟨Ao (by show 0<=1000;decide),λq3 hq3=>?_⟩;have kG:=Ae hq3 (.lst []);have cG:upd HF q3 (.lst []) q3=some (.lst []):=Ad;generalize upd HF q3 (.lst [])=HG at *;refine⟨Ao (by show 3<=1000;decide),λlps T7=>?_⟩;have kI:=Ae T7 (.lst [.ref q1,.ref q2,.ref q3]);have cI:upd HG lps (.lst [.ref q1,.ref q2,.ref q3]) lps=some (.lst [.ref q1,.ref q2,.ref q3]):=Ad;generalize upd HG lps (.lst [.ref q1,.ref q2,.ref q3])=HI at *;have kDI:=kE.trans (kF.trans (kG.trans kI));have m12:q1≠q2:=Ay cE hq2;have m13:q1≠q3:=Ay (kF _ _ cE) hq3;have m23:q2≠q3:=Ay cF hq3;have hbC:=hb6.same k6C;have bq1:=(hbC.same kD).nb hq1;have bq2:=(hbC.same (kD.trans kE)).nb hq2;have bq3:=(hbC.same (kD.trans (kE.trans kF))).nb hq3;have blr:=hbC.nb gU;have blp:=(hbC.same (kD.trans (kE.trans (kF.trans kG)))).nb T7;have pq:∀{p:Addr} {o:HO},HC p=some o->p≠q1/\p≠q2/\p≠q3:=λe=>⟨Ay (kD _ _ e) hq1,Ay (kE _ _ (kD _ _ e)) hq2,Ay (kF _ _ (kE _ _ (kD _ _ e))) hq3⟩;have pq1:=pq l1;have pq2:=pq l2;have pq3:=pq l3;have rq1:=pq o1;have rq2:=pq o2;have rq3:=pq o3;have sq:=pq (k6C _ _ c6);have lq:lrs≠q1/\lrs≠q2/\lrs≠q3:=⟨Ay cD hq1,Ay (kE _ _ cD) hq2,Ay (kF _ _ (kE _ _ cD)) hq3⟩;have pp:lps≠q1/\lps≠q2/\lps≠q3:=⟨(Ay (kG _ _ (kF _ _ cE)) T7).symm,(Ay (kG _ _ cF) T7).symm,(Ay cG T7).symm⟩;have z6:Same H H6:=s6;have fM:H b=none/\H r1=none/\H r2=none/\H r3=none/\H q1=none/\H q2=none/\H q3=none:=⟨fb,z6.free hr1,(z6.trans k68).free hr2,(z6.trans (k68.trans k8A)).free hr3,(z6.trans (k6C.trans kD)).free hq1,(z6.trans (k6C.trans (kD.trans kE))).free hq2,(z6.trans (k6C.trans (kD.trans (kE.trans kF)))).free hq3⟩;have kCI:=kD.trans kDI;have k6I:=k6C.trans kCI;have o1:=kCI _ _ o1;have l1:=kCI _ _ l1;have o2:=kCI _ _ o2;have l2:=kCI _ _ l2;have o3:=kCI _ _ o3;have l3:=kCI _ _ l3;have cD:=kDI _ _ cD;have e1:=kI _ _ (kG _ _ (kF _ _ cE));have e2:=kI _ _ (kG _ _ cF);have e3:=kI _ _ cG;have tb1:=tb1.tups (BJ.of k6I);have tb2:=tb2.tups (BJ.of k6I);have hbI:=hb6.same k6I;have sI:=s6.trans k6I;have cs:=k6I _ _ c6;have bls:=hb3.nb hls;have io:∀{p x:Addr} {dx:Addr} {fs:List (Str×V)} {ys:YG},HI x=some (.ins C dx fs)->HI p=some (.lst ys)->p≠x:=λe e' z=>by rw[z,e] at e';cases e'
 obtain⟨M,hMd⟩ : ∃M,M=[b,r1,r2,r3,q1,q2,q3]:=⟨_,rfl⟩;have inM:∀{c:Addr},c∈M ↔ c=b\/c=r1\/c=r2\/c=r3\/c=q1\/c=q2\/c=q3:=λ{c}=>by rw[hMd];simp
 have Oa:∀{p:Addr} {ys:YG},HI p=some (.lst ys)->b≠p->(p≠q1/\p≠q2/\p≠q3)->p∉M:=λe nb nq z=>by
  rcases inM.mp z with z | z | z | z | z | z | z
  ·exact nb z.symm
  ·exact io o1 e z
  ·exact io o2 e z
  ·exact io o3 e z
  ·exact nq.1 z
  ·exact nq.2.1 z
  ·exact nq.2.2 z
 have bM:b∈M:=inM.mpr (.inl rfl);have rsM:∀c∈[r1,r2,r3],c∈M/\c≠b:=λc hc=>by
  simp only[QbS,Qbl,Qcq] at hc;rcases hc with rfl | rfl | rfl
  ·exact⟨inM.mpr (.inr (.inl rfl)),nb1.symm⟩
  ·exact⟨inM.mpr (.inr (.inr (.inl rfl))),nb2.symm⟩
  ·exact⟨inM.mpr (.inr (.inr (.inr (.inl rfl)))),nb3.symm⟩
 have qsM:∀c∈[q1,q2,q3],c∈M/\c≠b:=λc hc=>by
  simp only[QbS,Qbl,Qcq] at hc;rcases hc with rfl | rfl | rfl
  ·exact⟨inM.mpr (.inr (.inr (.inr (.inr (.inl rfl))))),bq1.symm⟩
  ·exact⟨inM.mpr (.inr (.inr (.inr (.inr (.inr (.inl rfl)))))),bq2.symm⟩
  ·exact⟨inM.mpr (.inr (.inr (.inr (.inr (.inr (.inr rfl)))))),bq3.symm⟩
 have ndr:[r1,r2,r3].Nodup:=by simp[n12,n13,n23]
 have ndq:[q1,q2,q3].Nodup:=by simp[m12,m13,m23]
 have dj:∀c∈[r1,r2,r3],c∉[q1,q2,q3]:=λc hc hq=>by
  simp only[QbS,Qbl,Qcq] at hc hq;rcases hc with rfl | rfl | rfl
  ·rcases hq with z | z | z
   ·exact rq1.1 z
   ·exact rq1.2.1 z
   ·exact rq1.2.2 z
  ·rcases hq with z | z | z
   ·exact rq2.1 z
   ·exact rq2.2.1 z
   ·exact rq2.2.2 z
  ·rcases hq with z | z | z
   ·exact rq3.1 z
   ·exact rq3.2.1 z
   ·exact rq3.2.2 z
 have fH:∀{c:Addr} {o:HO},H c=some o->c∉M:=λe z=>by
  obtain⟨a1,a2,a3,a4,a5,a6,a7⟩:=fM;rcases inM.mp z with rfl | rfl | rfl | rfl | rfl | rfl | rfl
  ·rw[a1] at e;cases e
  ·rw[a2] at e;cases e
  ·rw[a3] at e;cases e
  ·rw[a4] at e;cases e
  ·rw[a5] at e;cases e
  ·rw[a6] at e;cases e
  ·rw[a7] at e;cases e
 have tb:∃tb,tb=[(Kg,Lh),(Kg,Lh),(RJ,bf)]:=⟨_,rq⟩;obtain⟨tb,htb⟩:=tb;have W0:Wd C M HI [r1,r2,r3] [q1,q2,q3] [t1,t1,t2] tb [[],[],[]] 0:=by
  have R:∀{r pl t dx:Addr},HI r=some (.ins C dx (fr t pl))->HI pl=some (.lst [])->pl∉M->Hs C M HI r t []:=λe e' n=>⟨_,_,[],e,n,e',.nil⟩;refine⟨λw r t f h1 h2 h3=>?_,λw q f h1 h2=>?_,λw t x h1 h2=>?_,λw f x h1 h2=>?_,rq⟩
  ·match w,h1,h2,h3 with
   | 0,h1,h2,h3=>cases h1;cases h2;cases h3;exact R o1 l1 (Oa l1 bp1 pq1)
   | 1,h1,h2,h3=>cases h1;cases h2;cases h3;exact R o2 l2 (Oa l2 bp2 pq2)
   | 2,h1,h2,h3=>cases h1;cases h2;cases h3;exact R o3 l3 (Oa l3 bp3 pq3)
   | w+3,h1,_,_=>cases h1
  ·match w,h1,h2 with
   | 0,h1,h2=>cases h1;cases h2;exact⟨[],e1,.nil⟩
   | 1,h1,h2=>cases h1;cases h2;exact⟨[],e2,.nil⟩
   | 2,h1,h2=>cases h1;cases h2;exact⟨[],e3,.nil⟩
   | w+3,h1,_=>cases h1
  ·rw[htb] at h2
   match w,h1,h2 with
   | 0,h1,h2=>cases h1;cases h2;exact tb1
   | 1,h1,h2=>cases h1;cases h2;exact tb1
   | 2,h1,h2=>cases h1;cases h2;exact tb2
   | w+3,h1,_=>cases h1
  ·have:f=[]:=by
    match w,h1 with
    | 0,h1=>cases h1;rfl
    | 1,h1=>cases h1;rfl
    | 2,h1=>cases h1;rfl
    | w+3,h1=>cases h1
   subst this;exact⟨Qch _,λg hg=>by cases hg⟩
 have okT:∀(w:Nat) x,tb[w]?=some x->Ls x.1 x.2:=λw x e=>by
  have:=Qay e;rw[htb] at this;simp only[QbS,Qbl,Qcq] at this;rcases this with rfl | rfl | rfl
  ·exact ok1
  ·exact ok1
  ·exact ok2
 have lsM:=Oa cs bls sq;have lrM:=Oa cD blr lq;have lpM:=Oa cI blp pp;clear tb1 tb2 l1 l2 l3 e1 e2 e3 o1 o2 o3 pq io Oa;refine⟨_,rq,by decide,by decide,λlt hlt=>?_⟩;have nbl:=hbI.nb hlt;have lK:lt∉M:=λz=>by
  rcases inM.mp z with z | z
  ·exact nbl z.symm
  ·have hh:lt∈[r1,r2,r3]\/lt∈[q1,q2,q3]:=by simpa using (by rcases z with z | z | z | z | z | z <;> simp[z])
   rcases hh with hh | hh
   ·exact (W0.live rfl rfl rfl).1 lt hh hlt
   ·exact (W0.live rfl rfl rfl).2 lt hh hlt
 let J2:YN:=λj σ HH=>∃(u:Option V) (ns:List Int),σ=[u,jp b]/\HH lt=some (.lst (ns.map V.int))/\ns.length=j/\Bt HH b (4800+j)/\Ah b HI HH;refine Gb (n:=8) J2 ⟨_,[],rq,Ad,rq,(hbI.same (Ae hlt _)).mono (by omega),Ah.of (Ae hlt _)⟩ (λj σ HH hj h=>?_) (fun σ HH h=>?_)
 ·obtain⟨u,ns,rfl,e1,e2,e4,e5⟩:=h;refine CW (Av ⟨_,rq,b,_,99,rq,e4,by omega,by decide,by decide,λr' HJ x0 x1 hbJ sbJ=>⟨_,_,rq,rq,_,sbJ _ _ e1 nbl.symm,Ba (by rw[Qbw];omega),_,ns++[1+r'],rq,?_,by rw[QaM,e2];rfl,hbJ.Jk Ah.upd nbl,Ah.Kd (e5.trans sbJ) Ah.upd hlt⟩⟩);rw[Ad,Qbx];rfl
 obtain⟨u,ns8,rfl,e1,e2,hbJ,e5⟩:=h;have W1:Wd C M HH [r1,r2,r3] [q1,q2,q3] [t1,t1,t2] tb [[],[],[]] 0:=W0.other (Ck.ofB e5 bM) (e5.tup hbI.Ho) (λc hc o e=>e5 _ _ e (rsM c hc).2) (λc hc o e=>e5 _ _ e (qsM c hc).2);have sM1:Ck M HI HH:=Ck.ofB e5 bM;refine⟨_,rq,b,_,12,rq,hbJ,by omega,by decide,by decide,λx1 HK x10 x11 hbK sbK=>⟨_,_,rq,rq,Ao (by show 2<=1000;decide),λl2 hl2=>?_⟩⟩;have kL:=Ae hl2 (.lst [.int (1+x1),.int 40]);have cL:upd HK l2 (.lst [.int (1+x1),.int 40]) l2=some (.lst [.int (1+x1),.int 40]):=Ad;have nbL:=hbK.nb hl2;have hbL:=hbK.same kL;show tCB _ _ _ (upd HK l2 (.lst [.int (1+x1),.int 40])) _;have sJL:Ah b HH (upd HK l2 (.lst [.int (1+x1),.int 40])):=sbK.trans (Ah.of kL);generalize upd HK l2 (.lst [.int (1+x1),.int 40])=HL at *;refine⟨_,rq,b,_,4,rq,hbL,by omega,by decide,by decide,λx2 HN x20 x21 hbN sbN=>⟨rq,.inr ⟨_,rq,?_⟩⟩⟩;obtain⟨v,hv,ev⟩:=iQ (decide (V.int x2=V.int 0)) (V.int (1+x1)) (V.int 40);have:∃n:Nat,v=.int (n:Int)/\n<=40:=by
  rcases ev with rfl | rfl
  ·exact⟨(1+x1).toNat,by rw[Int.toNat_of_nonneg (by omega)],by omega⟩
  ·exact⟨40,rq,Qch _⟩
 obtain⟨nb,rfl,hnb⟩:=this;refine⟨l2,_,_,_,rq,rq,SqL.of (sbN _ _ cL nbL.symm),hv,_,rq,by omega,by omega,?_⟩;have sJN:=sJL.trans sbN;have W2:Wd C M HN [r1,r2,r3] [q1,q2,q3] [t1,t1,t2] tb [[],[],[]] 0:=W1.other (Ck.ofB sJN bM) (sJN.tup hbJ.Ho) (λc hc o e=>sJN _ _ e (rsM c hc).2) (λc hc o e=>sJN _ _ e (qsM c hc).2);have sM2:=sM1.trans (Ck.ofB sJN bM);have clt:=sJN _ _ e1 nbl.symm;rw[Qbe];let J3:YN:=λj σ HX=>∃(fs:List (List (List Bool))) (v1 v2 v3 v4 v5:Option V),σ=[jp a,some (.int (0+(i:Int))),jp b,jp t1,jp t2,jp ls,u6',jp lrs,jp lps,jp lt,v1,v2,v3,v4,v5]/\Wd C M HX [r1,r2,r3] [q1,q2,q3] [t1,t1,t2] tb fs j/\Bt HX b (4810+31*j)/\HX lt=some (.lst (ns8.map V.int))/\Ck M HI HX;refine Mz J3 ⟨_,_,_,_,_,_,rq,W2,hbN,clt,sM2⟩ (λj σ HX hj h=>?_) (fun σ HX h=>?_)
 ·obtain⟨fs,v1,v2,v3,v4,v5,rfl,W,hb,hlt',sM⟩:=h;refine⟨_,rq,b,_,3,rq,hb,by omega,by decide,by decide,λr0 HY x0 x1 hbY sbY=>?_⟩;obtain⟨w',rfl⟩:=Qap x0;have w3:w' < 3:=by omega
  refine⟨_,rq,_,rq,b,lt,_,ns8,rq,hbY,by omega,nbl,sbY _ _ hlt' nbl.symm,by omega,λtbr ws ks h HZ br hbZ sbZ=>?_⟩;have sXZ:=sbY.trans sbZ;have W':=W.other (Ck.ofB sXZ bM) (sXZ.tup hb.Ho) (λc hc o e=>sXZ _ _ e (rsM c hc).2) (λc hc o e=>sXZ _ _ e (qsM c hc).2);have sMZ:=sM.trans (Ck.ofB sXZ bM);obtain⟨r,hr'⟩:=at3 w3 r1 r2 r3;obtain⟨qq,hq'⟩:=at3 w3 q1 q2 q3;obtain⟨t,ht'⟩:=at3 w3 t1 t1 t2;obtain⟨x,hx'⟩ : ∃x,tb[w']?=some x:=by rw[htb];exact at3 w3 _ _ _
  obtain⟨f',hf'⟩ : ∃f',fs[w']?=some f':=⟨_,Qaj (by rw[W.lf];exact w3)⟩;have live:=W'.live rfl rfl rfl;have hM':∀c∈M,HZ c≠none:=λc hc z=>by
   rcases inM.mp hc with e | e
   ·obtain⟨o,eo⟩:=hbZ.ex;rw[e,eo] at z;cases z
   ·have hh:c∈[r1,r2,r3]\/c∈[q1,q2,q3]:=by rcases e with e | e | e | e | e | e <;> simp[e]
    rcases hh with hh | hh
    ·exact live.1 c hh z
    ·exact live.2 c hh z
  have ln:=W'.len w' _ x hf' hx';have rM:=rsM r (Qay hr');have qM:=qsM qq (Qay hq');refine⟨_,rq,_,rq,lrs,_,_,.ref r,rq,rq,SqL.of (sMZ _ _ cD lrM),ZM hr',_,rq,_,rq,ls,_,_,.ref t,rq,rq,SqL.of (sMZ _ _ cs lsM),ZM ht',_,rq,_,rq,lps,_,_,.ref qq,rq,rq,SqL.of (sMZ _ _ cI lpM),ZM hq',_,rq,M,r,t,qq,tbr,x.1,x.2,f',ws,ks,h,rq,rM.1,qM.1,hM',W'.run w' r t _ hr' ht' hf',W'.past w' qq _ hq' hf',W'.tbl w' t x ht' hx',okT w' x hx',br,ln.2,by omega,λH' g hg R P tu s=>⟨_,rq,Bd ?_⟩⟩;have sZM:Ck M HZ H':=λc o e n=>s c o e (λz=>n (z ▸ rM.1)) (λz=>n (z ▸ qM.1));exact⟨fs.set w' (f'++[g]),_,_,_,_,_,rq,W'.step hr' hq' ht' hf' hx' ndr ndq dj rM.1 qM.1 hg R P tu s,(hbZ.keep λo e=>s _ _ e rM.2.symm qM.2.symm).mono (by omega),sZM _ _ ((sXZ _ _ hlt' nbl.symm)) lK,sMZ.trans sZM⟩
 obtain⟨fs,v1,v2,v3,v4,v5,rfl,W,hb,hlt',sM⟩:=h;have sX:Same H HX:=λc o e=>sM _ _ (sI _ _ e) (fH e);have tbx:Ka HX t1 Kg Lh:=by
  have:=W.tbl 0 t1 (Kg,Lh) rfl (by rw[htb];rfl);exact this
 have rp:=Rep.same (cT hb) tbx.rep;have sl1:=ok1.sl;clear W0 W1 W2 W;refine⟨_,rq,by decide,by decide,?_⟩;let J4:YN:=λj σ HY=>∃v4 v5,σ=[jp a,some (.int (0+(i:Int))),jp b,jp t1,jp t2,jp ls,u6',jp lrs,jp lps,jp lt,v1,v2,v3,v4,v5]/\Rep (hid b HY) (.ref t1) (DY Kg Lh)/\Bt HY b (7000+60*j)/\Same H HY;refine Mz (n:=5) J4 ⟨_,_,rq,rp,hb.mono (by omega),sX⟩ (λj σ HY hj h=>?_) (fun σ HY h=>?_)
 ·obtain⟨v4,v5,rfl,g1,g3,g4⟩:=h;refine⟨_,rq,_,rq,5,by decide,b,.ref t1,_,30,DY Kg Lh,rq,g3,by omega,g1,sl1,by decide,by decide,by decide,λw1 d1 K1 p1 z1 hk1 sk1=>?_⟩;refine CW ?_;dsimp only;show Aw (BX _ _ _) _ _ _ _;refine NK (fun σ' HZ=>∃(y1:V) (e1:PyData),σ'=[jp a,some (.int (0+(i:Int))),jp b,jp t1,jp t2,jp ls,u6',jp lrs,jp lps,jp lt,v1,v2,v3,some (.int (0+(j:Int))),some y1]/\Rep (hid b HZ) y1 e1/\Sl 32 11 e1/\Bt HZ b (7000+60*(j+1))/\Ah b HY HZ) (fun σ' HZ hP=>?_) (λhR=>?_)
  ·obtain⟨y1,d2,rfl,p2,l1,hbZ,sZ⟩:=hP;have f1:Fit 64 d2:=(l1.fit (by decide)).mono (by decide);refine⟨_,rq,_,d2,rq,Rep.same En p2,f1,λHA' sA=>⟨_,rq,_,d2,rq,Rep.same (Same.trans En sA) p2,l1.mono (by decide) (by decide),λHB' sB=>⟨Dz d2,rq,_,rq,Bd ?_⟩⟩⟩;have sE:=sZ.trans (Ah.of (sA.trans sB));exact⟨_,_,rq,Rep.same (Dj sE) g1,hbZ.same (sA.trans sB),g4.CN sE fb⟩
  ·refine⟨_,rq,_,_,rq,rq,_,rq,ZS (λ_=>?_) (λ_=>?_)⟩
   ·refine⟨_,rq,_,rq,8,by decide,b,w1,_,31,d1,rq,hk1,by omega,p1,z1,by decide,by decide,by decide,λw3 d3 K3 q3 z3 hk3 sk3=>?_⟩;exact hR _ _ ⟨w3,d3,rq,q3,z3,hk3.mono (by omega),sk1.trans sk3⟩
   ·exact hR _ _ ⟨w1,d1,rq,p1,z1.mono (by decide) (by decide),hk1.mono (by omega),sk1⟩
 ·obtain⟨v4,v5,rfl,g1,g3,g4⟩:=h;exact⟨g4,_,_,_,_,_,_,_,_,_,_,_,_,_,_,rq⟩
end
structure FnI (K:YD) (x:Str) (st:Stmt):Prop where
 ex:∃(f:Addr) (oc:Value) (od an:Option Addr) (sl:YI) (kV dc pm cd ct:Value),nsIn K mainGlobals x=some (some (.ref f))/\K.lookup f=some ⟨oc,od,.func (fnOf x x (Dk st) (CG st) (Ak st) .none kV dc pm an cd ct),sl⟩/\codeIn K cd x=true/\keepIn K (.ref f)=true
theorem FnI.of {K:YD} {x:Str} {st:Stmt} {f:Addr} {oc:Value} {od an:Option Addr} {sl:YI} {kV dc pm cd ct:Value} (a:nsIn K mainGlobals x=some (some (.ref f))) (l:K.lookup f=some ⟨oc,od,.func (fnOf x x (Dk st) (CG st) (Ak st) .none kV dc pm an cd ct),sl⟩) (c:codeIn K cd x=true) (k:keepIn K (.ref f)=true):FnI K x st:=⟨f,oc,od,an,sl,kV,dc,pm,cd,ct,a,l,c,k⟩
theorem FnI.code {K:YD} {mg:YB} {h:Heap} {x:Str} {st:Stmt} {ps:YF} (I:FnI K x st) (X:K.In h) (G:h.Ns mainGlobals mg) (hb:∀(kV doc pm:Value) (an:Option Addr) (cdv ct:Value) (us:YE),us.length=ps.length->bindArgs (fnOf x x (Dk st) (CG st) (Ak st) .none kV doc pm an cdv ct) ⟨us,[]⟩=pure (ps.zip us)):Code K mg x st ps:=by
 obtain⟨f,oc,od,an,sl,kV,dc,pm,cd,ct,a,l,c,k⟩:=I.ex;exact Code.of X G a l c k hb
structure MtI (K:YD) (C:Addr) (x q:Str) (st:Stmt):Prop where
 ex:∃(f:Addr) (oc:Value) (od an:Option Addr) (sl:YI) (kV dc pm cd ct:Value),findIn K (.ref C) x=some (some (.ref f))/\isFn K (.ref f)=true/\K.lookup f=some ⟨oc,od,.func (fnOf x q (Dk st) (CG st) (Ak st) .none kV dc pm an cd ct),sl⟩/\codeIn K cd q=true/\keepIn K (.ref f)=true
theorem MtI.of {K:YD} {C:Addr} {x q:Str} {st:Stmt} {f:Addr} {oc:Value} {od an:Option Addr} {sl:YI} {kV dc pm cd ct:Value} (a:findIn K (.ref C) x=some (some (.ref f))) (i:isFn K (.ref f)=true) (l:K.lookup f=some ⟨oc,od,.func (fnOf x q (Dk st) (CG st) (Ak st) .none kV dc pm an cd ct),sl⟩) (c:codeIn K cd q=true) (k:keepIn K (.ref f)=true):MtI K C x q st:=⟨f,oc,od,an,sl,kV,dc,pm,cd,ct,a,i,l,c,k⟩
theorem MtI.code {K:YD} {C:Addr} {x q:Str} {st:Stmt} {ps:YF} (I:MtI K C x q st) (hb:∀(kV doc pm:Value) (an:Option Addr) (cdv ct:Value) (us:YE),us.length=ps.length->bindArgs (fnOf x q (Dk st) (CG st) (Ak st) .none kV doc pm an cdv ct) ⟨us,[]⟩=pure (ps.zip us)):RQ K C x q st ps:=by
 obtain⟨f,oc,od,an,sl,kV,dc,pm,cd,ct,a,i,l,c,k⟩:=I.ex;have F:=Pj (st:=st) l c k;exact⟨f,_,F,⟨a,i,k⟩,F.binds hb⟩
theorem MtI.init {K:YD} {C:Addr} {q:Str} {st:Stmt} {ps:YF} (I:MtI K C "__init__" q st) (mk:makesIn K C=true) (kc:keepIn K (.ref C)=true) (hb:∀(kV doc pm:Value) (an:Option Addr) (cdv ct:Value) (us:YE),us.length=ps.length->bindArgs (fnOf "__init__" q (Dk st) (CG st) (Ak st) .none kV doc pm an cdv ct) ⟨us,[]⟩=pure (ps.zip us)):∃f fd,Fun K "__init__" q st f fd/\Mk K C f/\Binds K fd ps []:=by
 obtain⟨f,oc,od,an,sl,kV,dc,pm,cd,ct,a,i,l,c,k⟩:=I.ex;have F:=Pj (st:=st) l c k;exact⟨f,_,F,⟨mk,a,i,kc⟩,F.binds hb⟩
def aD:YF->(YE->Prop)->Prop
 | [],P=>P []
 | _::r,P=>∀a,aD r λt=>P (a::t)
theorem VD:∀(ps:YF) {P:YE->Prop},aD ps P->∀us:YE,us.length=ps.length->P us
 | [],_,h,[],_=>h
 | _::r,_,h,a::t,e=>VD r (h a) t (Nat.succ.inj e)
theorem fnA {F:Value->Value->Value->Option Addr->Value->Value->FuncData} {ps:YF} (h:∀kV dc pm an cd ct,aD ps λus=>bindArgs (F kV dc pm an cd ct) ⟨us,[]⟩=pure (ps.zip us)) (kV dc pm:Value) (an:Option Addr) (cd ct:Value) (us:YE) (hu:us.length=ps.length):bindArgs (F kV dc pm an cd ct) ⟨us,[]⟩=pure (ps.zip us):=VD ps (h kV dc pm an cd ct) us hu
theorem all_mk {l:PySem.W.OpenLaw} {w:World} {K:YD} {h:Heap} {mg:YB} {fa C fl:Addr} (X:K.In h) (G:h.Ns mainGlobals mg) (hfa:mg "law"=some (.ref fa))
  {odl anl:Option Addr} {sll:YI} {ocl kVl dcl pml cdl ctl:Value}
  (aC:nsIn K mainGlobals "Runner"=some (some (.ref C)))
  (m0:MtI K C "__init__" "Runner.__init__" Ge)
  (m1:MtI K C "beat" "Runner.beat" Gs)
  (i0:FnI K "is_whole" La)
  (i1:FnI K "is_within" Ko)
  (i2:FnI K "is_row" NT)
  (i3:FnI K "is_rising" Kp)
  (i4:FnI K "are_rising_within" DQ)
  (i5:FnI K "is_plain" Lb)
  (i6:FnI K "are_warned" Hf)
  (i7:FnI K "plain_holds" Jf)
  (i8:FnI K "are_ahead" Io)
  (i9:FnI K "is_table_row" Hv)
  (i10:FnI K "is_out" NZ)
  (i11:FnI K "is_table" Jl)
  (i12:FnI K "row_holds" Il)
  (i13:FnI K "_law_bag" PJ)
  (i14:FnI K "_law_take" NQ)
  (i15:FnI K "_law_row" M9)
  (i16:FnI K "_law_table" Iw)
  (i17:FnI K "_law_brought" Gg)
  (i18:FnI K "_law_held" JG)
  (i19:FnI K "_law_is" SX)
  (i20:FnI K "_law_rises" Kf)
  (i21:FnI K "_law_is_row" K9)
  (i22:FnI K "_law_is_table" JF)
  (i23:FnI K "_law_is_truth" JD)
  (i24:FnI K "_law_other" Mq)
  (i25:FnI K "_law_spoilt" K8)
  (i26:FnI K "_law_ran_right" Gq)
  (i27:FnI K "_law_bounds_right" Gw)
  (al:nsIn K mainGlobals "law"=some (some (.ref fl))) (ll:K.lookup fl=some ⟨ocl,odl,.func (fnOf "law" "law" (Dk Im) (CG Im) (Ak Im) .none kVl dcl pml anl cdl ctl),sll⟩) (cl:codeIn K cdl "law"=true) (kl:keepIn K (.ref fl)=true)
  (pg:plainGet K C Str.empty=true) (hd:hasDictIn K C=true) (po:PySem.W.plainOver K C=true) (sa:findIn K (.ref C) "__setattr__"=some (some (.builtin "object.__setattr__"))) (mk:makesIn K C=true) (kc:keepIn K (.ref C)=true)
  (n0:findIn K (.ref C) "table"=some none)
  (n1:findIn K (.ref C) "past"=some none)
  (z0:nsIn K mainGlobals "isinstance"=some none)
  (z1:nsIn K mainGlobals "int"=some none)
  (z2:nsIn K mainGlobals "bool"=some none)
  (z3:nsIn K mainGlobals "tuple"=some none)
  (z4:nsIn K mainGlobals "list"=some none)
  (z5:nsIn K mainGlobals "str"=some none)
  (z6:nsIn K mainGlobals "len"=some none)
  (z7:nsIn K mainGlobals "all"=some none)
  (z8:nsIn K mainGlobals "abs"=some none)
  (z9:nsIn K mainGlobals "max"=some none)
  (z10:nsIn K mainGlobals "min"=some none)
  (z11:nsIn K mainGlobals "range"=some none)
  (z12:nsIn K mainGlobals "sorted"=some none)
  (z13:nsIn K mainGlobals "any"=some none)
  (z14:nsIn K mainGlobals "sum"=some none)
  (z15:nsIn K mainGlobals "enumerate"=some none)
  (z16:nsIn K mainGlobals "zip"=some none)
  (z17:nsIn K mainGlobals "reversed"=some none)
  (z18:nsIn K mainGlobals "dict"=some none)
  (z19:nsIn K mainGlobals "ord"=some none)
  (z20:nsIn K mainGlobals "set"=some none)
  {tkR tkO tkA:Tok}
  (aMR:nsIn K mainGlobals "MOST_ROWS"=some (some (.int 320 tkR)))
  (aMO:nsIn K mainGlobals "MOST_OUTS"=some (some (.int 16 tkO)))
  (aMA:nsIn K mainGlobals "MOST_AHEAD"=some (some (.int 20 tkA)))
  : ∃fd:FuncData,(∀(s:Shared) (v:Value),BindsTo s fd ⟨[v],[]⟩ [("_law_script",v)])/\∀base:Heap,K.In base->base.Ns mainGlobals mg->Ec l.prog w K mg base CX0 13 fa fd aZ (RD K):=by
 have e:=hfa.symm.trans (mg_of X G al);cases e;have TN:Nm mg:=⟨mg_none_of X G z0,mg_none_of X G z1,mg_none_of X G z2,mg_none_of X G z3,mg_none_of X G z4,mg_none_of X G z5,mg_none_of X G z6,mg_none_of X G z7,mg_none_of X G z8,mg_none_of X G z9,mg_none_of X G z10,mg_none_of X G z11,mg_none_of X G z12,mg_none_of X G z13,mg_none_of X G z14,mg_none_of X G z15,mg_none_of X G z16,mg_none_of X G z17,mg_none_of X G z18,mg_none_of X G z19,mg_none_of X G z20⟩;have TC:Tc mg:={ toNm:=TN,MOST_ROWS:=⟨_,mg_of X G aMR,⟨_,rq⟩⟩,MOST_OUTS:=⟨_,mg_of X G aMO,⟨_,rq⟩⟩,MOST_AHEAD:=⟨_,mg_of X G aMA,⟨_,rq⟩⟩ };have T:Tx K mg C:={ toTc:=TC,cl:=⟨pg,hd,po,sa⟩,mgC:=mg_of X G aC,Qh:=n0,Mt:=n1 };have W9:=m0.init (ps:=Dt) mk kc (fnA λ_ _ _ _ _ _ _ _=>rfl);have iV:=m1.code (ps:=Fd) (fnA λ_ _ _ _ _ _ _ _ _ _=>rfl);have Xg:=i0.code (ps:=Hj) X G (fnA λ_ _ _ _ _ _ _=>rfl);have Vd:=i1.code (ps:=Dl) X G (fnA λ_ _ _ _ _ _ _ _ _=>rfl);have aK:=i2.code (ps:=Eu) X G (fnA λ_ _ _ _ _ _ _ _ _=>rfl);have Ve:=i3.code (ps:=Fp) X G (fnA λ_ _ _ _ _ _ _=>rfl);have Lz:=i4.code (ps:=Df) X G (fnA λ_ _ _ _ _ _ _ _ _ _ _=>rfl);have Xi:=i5.code (ps:=Hl) X G (fnA λ_ _ _ _ _ _ _=>rfl);have Uz:=i6.code (ps:=Fy) X G (fnA λ_ _ _ _ _ _ _ _ _=>rfl);have Ry:=i7.code (ps:=EY) X G (fnA λ_ _ _ _ _ _ _ _ _=>rfl);have Vf:=i8.code (ps:=Gj) X G (fnA λ_ _ _ _ _ _ _ _=>rfl);have QH:=i9.code (ps:=Em) X G (fnA λ_ _ _ _ _ _ _ _=>rfl);have aL:=i10.code (ps:=JR) X G (fnA λ_ _ _ _ _ _ _ _=>rfl);have Xh:=i11.code (ps:=FW) X G (fnA λ_ _ _ _ _ _ _=>rfl);have Vb:=i12.code (ps:=Gh) X G (fnA λ_ _ _ _ _ _ _ _ _ _=>rfl);have dW:=i13.code (ps:=KQ) X G (fnA λ_ _ _ _ _ _ _ _=>rfl);have aH:=i14.code (ps:=Eb) X G (fnA λ_ _ _ _ _ _ _ _=>rfl);have dU:=i15.code (ps:=KN) X G (fnA λ_ _ _ _ _ _ _ _=>rfl);have Y9:=i16.code (ps:=Ja) X G (fnA λ_ _ _ _ _ _ _=>rfl);have Vc:=i17.code (ps:=Gi) X G (fnA λ_ _ _ _ _ _ _ _=>rfl);have aJ:=i18.code (ps:=JQ) X G (fnA λ_ _ _ _ _ _ _ _ _=>rfl);have iY:=i19.code (ps:=JN) X G (fnA λ_ _ _ _ _ _ _ _ _=>rfl);have Za:=i20.code (ps:=GK) X G (fnA λ_ _ _ _ _ _ _ _=>rfl);have Xf:=i21.code (ps:=Hi) X G (fnA λ_ _ _ _ _ _ _ _=>rfl);have Uy:=i22.code (ps:=Fx) X G (fnA λ_ _ _ _ _ _ _=>rfl);have Ux:=i23.code (ps:=El) X G (fnA λ_ _ _ _ _ _ _ _=>rfl);have Zb:=i24.code (ps:=Jb) X G (fnA λ_ _ _ _ _ _ _ _=>rfl);have Xe:=i25.code (ps:=Et) X G (fnA λ_ _ _ _ _ _ _ _=>rfl);have Rz:=i26.code (ps:=Fb) X G (fnA λ_ _ _ _ _ _ _ _ _ _=>rfl);have Ox:=i27.code (ps:=DK) X G (fnA λ_ _ _ _ _ _ _=>rfl);have j6:=Pj (st:=Im) ll cl kl;refine⟨fnOf "law" "law" (Dk Im) (CG Im) (Ak Im) .none kVl dcl pml anl cdl ctl,λs v=>.of_eq rfl,λbase _ _=>?_⟩;have Qv:=Zw (P:=l.prog) (w:=w) (base:=base) dW TN;have Bf:=Yi (P:=l.prog) (w:=w) (base:=base) aH TN;have g_w:=Tp (P:=l.prog) (w:=w) (base:=base) Xg TN;have g_r:=Yk (P:=l.prog) (w:=w) (base:=base) aK TN;have Ua:=Rm (P:=l.prog) (w:=w) (base:=base) Vd TN g_w;have gY:=Tq (P:=l.prog) (w:=w) (base:=base) Ve TN;have nY:=Ob (P:=l.prog) (w:=w) (base:=base) Lz TN g_r Ua gY;have oh:=U5 (P:=l.prog) (w:=w) (base:=base) Xi TC g_r Ua;have oG:=Tr (P:=l.prog) (w:=w) (base:=base) Vf TC Ua;have nU:=Tj (P:=l.prog) (w:=w) (base:=base) QH TC g_r Ua nY oG oh;have jQ:=Yl (P:=l.prog) (w:=w) (base:=base) aL TC g_r Ua;have bC:=U4 (P:=l.prog) (w:=w) (base:=base) Xh TC g_r gY nU jQ;have oF:=Rn (P:=l.prog) (w:=w) (base:=base) Uz TC;have ou:=Qe (P:=l.prog) (w:=w) (base:=base) Ry TC;have nZ:=Tn (P:=l.prog) (w:=w) (base:=base) Vb TC oF ou;have iu:=cV (P:=l.prog) (w:=w) (base:=base) W9 T;have iw:=cW (P:=l.prog) (w:=w) (base:=base) iV T nZ;have ig:=fY (P:=l.prog) (w:=w) (base:=base) dU TC Bf;have gZ:=Zu (P:=l.prog) (w:=w) (base:=base) Y9 TC Bf ig;have jU:=Ws (P:=l.prog) (w:=w) (base:=base) Vc TC Bf;have oE:=Yj (P:=l.prog) (w:=w) (base:=base) aJ TC;have aj:=cU (P:=l.prog) (w:=w) (base:=base) iY TC;have bD:=Wr (P:=l.prog) (w:=w) (base:=base) Za TC aj;have jT:=U3 (P:=l.prog) (w:=w) (base:=base) Xf TC aj bD;have jR:=Rk (P:=l.prog) (w:=w) (base:=base) Uy TC aj bD jT;have bB:=Rj (P:=l.prog) (w:=w) (base:=base) Ux TC;have oA:=Zv (P:=l.prog) (w:=w) (base:=base) Zb TC Bf;have nW:=Yh (P:=l.prog) (w:=w) (base:=base) Xe TC Bf oA 9;have jP:=fZ (P:=l.prog) (w:=w) (base:=base) Rz T oE iw;have jV:=Ym (P:=l.prog) (w:=w) (base:=base) Ox TC bC bB;exact gj j6 T Qv Bf gZ jU bC bB jV iu jP nW jR
theorem walk {l:PySem.W.OpenLaw} {q:Program} {loose:YF} {XP:(YB)->Heap->Prop} {YP:World->Heap->Prop} {d:DefRec} {K:Params->YD} (hn:l.most=some 63) (hdf:d.params.defaults=[])
  (hY:∀(w:World) (h:Heap),YP w h->(K w.params).In h)
  (F:∀(w:World) (mg:YB) (fa:Addr) (h:Heap),(K w.params).In h->h.Ns mainGlobals mg->mg d.name=some (.ref fa) ->
   ∃fd:FuncData,(∀(s:Shared) (u:Value),BindsTo s fd ⟨[u],[]⟩ [("_law_script",u)])/\∀base:Heap,(K w.params).In base->base.Ns mainGlobals mg->Ec l.prog w (K w.params) mg base CX0 13 fa fd aZ (RD (K w.params))) :
  PySem.W.WalkO q loose XP YP l.row.toRowW d [] (λf vs=>PySem.call f vs):=
 L2.bJ (n:=63) (k:=13) (x:="_law_script") (CX:=λ_=>CX0) (sp:=λw=>RD (K w.params)) hn (by decide) hdf ⟨rq,by decide,by decide⟩ hY F (λ_ _ a ns hl _ hS=>⟨a,ns,rq,hS,hl,λ_=>rfl⟩) λ_ _ _ _ _ z=>z
end K26
/-! names that stay free of quick twins: the head comes through without them, and the compiled text is much smaller -/
namespace PySem.W.Fast
def tw7845096037485806652:=0
def tw3972245400923702465:=0
def tw6607083482431414574:=0
def tw14609573495063639700:=0
def tw13065464595220350107:=0
def tw9797501045726764174:=0
def tw3217382206364196989:=0
def tw13612090740963861372:=0
def tw5352663335744442307:=0
def tw13013252025357679698:=0
def tw7786141999302532016:=0
def tw2958985194890763967:=0
def tw16113904909843176620:=0
def tw2714735843976623314:=0
def tw629300604135373179:=0
def tw4047674979003773581:=0
def tw304634449981954187:=0
def tw53196113808417445:=0
def tw8022821905013699442:=0
def tw7803541941350228333:=0
def tw464789502237610633:=0
def tw6622601339664918707:=0
def tw9474917976441970687:=0
def tw6706499737446417996:=0
def tw9452913750672415786:=0
def tw4344525386116640121:=0
def tw8621705440207691346:=0
def tw6400546605235488142:=0
def tw4711765643202952025:=0
def tw4282403746203230980:=0
def tw18217664477345358129:=0
def tw6159003688433265215:=0
def tw16260801381001695712:=0
def tw13153329324227490960:=0
def tw13932169023894519888:=0
def tw9547477149433573798:=0
def tw13945237980315628499:=0
def tw8078769111987090104:=0
def tw5296342293977700049:=0
def tw4771305160347115440:=0
def tw12478985618187285024:=0
def tw15604940069030668583:=0
def tw13175755902674644453:=0
def tw3849445278422551633:=0
def tw10561622443042503026:=0
def tw9221698266436178103:=0
def tw724872389698309667:=0
def tw12910272712271909650:=0
def tw6708325255192942427:=0
def tw11806924152572767765:=0
def tw4687899944411085405:=0
def tw16908514516332525457:=0
def tw17964781517488132167:=0
def tw5201627152091082056:=0
def tw18213418083312272968:=0
def tw12604011520461069261:=0
def tw6108795046969061751:=0
def tw9372433663934815325:=0
def tw9768186160745197864:=0
def tw8759733477992167552:=0
def tw8394855403753395417:=0
def tw14703061636248465105:=0
def tw10623229012361576783:=0
def tw9291672018412719305:=0
def tw13496178792508914511:=0
def tw9222125948736432506:=0
def tw502962426220341192:=0
def tw4035483101469472311:=0
def tw10694184642077305162:=0
def tw17564722919630268345:=0
def tw3743475429343191332:=0
end PySem.W.Fast
open PySem PySem.W PyProof.Rows
set_option maxRecDepth 100000 in
set_option maxHeartbeats 0 in
theorem PySem.Challenge.cw_warnloop_k26_tables_run_holds : PySem.Challenge.rw_warnloop_k26_tables_run.Holds := by
 w_on;o_law;k_head;(case hw=>w_witness2)
 k_fill
 refine K26.walk (l:=PySem.Challenge.rw_warnloop_k26_tables_run) rfl rfl (λw h Y=>PySem.W.kIn_of Y) ?F
 case F=>
  intro w mg fa h KX G hmg
  refine' K26.all_mk KX G hmg ?aC (.of ?am0 ?bm0 ?lm0 ?cm0 ?km0) (.of ?am1 ?bm1 ?lm1 ?cm1 ?km1) (.of ?ai0 ?li0 ?ci0 ?ki0) (.of ?ai1 ?li1 ?ci1 ?ki1) (.of ?ai2 ?li2 ?ci2 ?ki2) (.of ?ai3 ?li3 ?ci3 ?ki3) (.of ?ai4 ?li4 ?ci4 ?ki4) (.of ?ai5 ?li5 ?ci5 ?ki5) (.of ?ai6 ?li6 ?ci6 ?ki6) (.of ?ai7 ?li7 ?ci7 ?ki7) (.of ?ai8 ?li8 ?ci8 ?ki8) (.of ?ai9 ?li9 ?ci9 ?ki9) (.of ?qw ?mK ?pJ ?nC) (.of ?qu ?mJ ?pI ?nu) (.of ?qt ?mH ?pH ?nj) (.of ?qp ?mG ?pG ?ni) (.of ?qm ?mF ?pF ?m9) (.of ?ql ?mD ?pD ?m8) (.of ?qj ?mC ?pC ?m7) (.of ?qg ?mz ?pB ?m6) (.of ?qe ?mq ?pA ?mZ) (.of ?qd ?mj ?o9 ?mY) (.of ?qb ?lZ ?o8 ?mX) (.of ?pZ ?lY ?o7 ?mW) (.of ?pY ?lX ?oZ ?mV) (.of ?pX ?lW ?oY ?mU) (.of ?pW ?lV ?oX ?mR) (.of ?pU ?lU ?oW ?mQ) (.of ?pR ?lR ?oV ?mO) (.of ?pQ ?lQ ?oU ?mL) ?al ?ll ?cl ?kl ?pg ?hd ?po ?sa ?mk ?kc ?n0 ?n1 ?z0 ?z1 ?z2 ?z3 ?z4 ?z5 ?z6 ?z7 ?z8 ?z9 ?z10 ?z11 ?z12 ?z13 ?z14 ?z15 ?z16 ?z17 ?z18 ?z19 ?z20 ?aMR ?aMO ?aMA
  (case aC | am0 | bm0 | lm0 | cm0 | km0 | am1 | bm1 | lm1 | cm1 | km1 | ai0 | li0 | ci0 | ki0 | ai1 | li1 | ci1 | ki1 | ai2 | li2 | ci2 | ki2 | ai3 | li3 | ci3 | ki3 | ai4 | li4 | ci4 | ki4 | ai5 | li5 | ci5 | ki5 | ai6 | li6 | ci6 | ki6 | ai7 | li7 | ci7 | ki7 | ai8 | li8 | ci8 | ki8 | ai9 | li9 | ci9 | ki9 | qw | mK | pJ | nC | qu | mJ | pI | nu | qt | mH | pH | nj | qp | mG | pG | ni | qm | mF | pF | m9 | ql | mD | pD | m8 | qj | mC | pC | m7 | qg | mz | pB | m6 | qe | mq | pA | mZ | qd | mj | o9 | mY | qb | lZ | o8 | mX | pZ | lY | o7 | mW | pY | lX | oZ | mV | pX | lW | oY | mU | pW | lV | oX | mR | pU | lU | oW | mQ | pR | lR | oV | mO | pQ | lQ | oU | mL=>k_is)
  (case al | ll | cl | kl | pg | hd | po | sa | mk | kc | n0 | n1 | z0 | z1 | z2 | z3 | z4 | z5 | z6 | z7 | z8 | z9 | z10 | z11 | z12 | z13 | z14 | z15 | z16 | z17 | z18 | z19 | z20 | aMR | aMO | aMA=>k_is)
