import PyProof.Rows.All
import Wide.All
import OpenK.AllK
import Wide.FinOn
import Lean
import PyProof.EqAt
import PyProof.EqKinds
import PyProof.TupleCall
import PySem.Challenge.RW_warnloop_k05_plans_written
set_option linter.all false
set_option Elab.async false
set_option maxRecDepth 100000
set_option maxHeartbeats 4000000
abbrev YA:=PySem.Value→PySem.Shared→Prop
abbrev YH:=Unit→PySem.Shared→Prop
abbrev YB:=PySem.Str→Option PySem.Value
abbrev YC:=List (PySem.Addr×PySem.Obj)
abbrev YD:=PySem.W.Frag
abbrev YI:=Array (Option PySem.Value)
abbrev YE:=List PySem.Value
abbrev YF:=List PySem.Str
abbrev YJ:=List PySem.Expr
theorem rq{α:Sort _}{a:α}:a=a:=rfl
local macro_rules|`(tactic|trivial)=>`(tactic|decide +kernel)
local macro_rules | `(tactic|ac_rfl) => `(tactic|exact ⟨rfl,rfl,rfl,by decide +kernel,rfl,by decide +kernel,by decide +kernel⟩)
open PySem.W (instObj hideAll hideAll_get findIn emptyDict kitOne kia_one keepIn fnOf codeIn nsIn mg_of mg_none_of)
abbrev Qaa:=@PyProof.Rows.slot_tupleiter_next
abbrev Qab:=@PyProof.Rows.slot_tuple_getitem
abbrev Qac:=@PyProof.Rows.callWith_type1
abbrev Qad:=@Array.getElem?_eq_some_iff
abbrev Qae:=@List.getElem?_append_right
abbrev Qaf:=@List.getElem?_eq_some_iff
abbrev Qag:=@Array.getElem?_eq_getElem
abbrev Qah:=@List.getElem?_append_left
abbrev Qai:=@List.pairwise_iff_getElem
abbrev Qaj:=@List.drop_eq_getElem_cons
abbrev Qak:=@PySem.F.slot_list_append
abbrev Qal:=@PySem.F.type_list_append
abbrev Qam:=@List.getElem?_eq_getElem
abbrev Qan:=@PySem.F.slot_list_extend
abbrev Qao:=@PySem.F.type_list_extend
abbrev Qap:=@PySem.F.plainAttrs_list
abbrev Qaq:=@PySem.wpAny_callSpecial?_slot
abbrev Qar:=@PySem.wpAny_getItem_str_slice
abbrev Qas:=@List.length_eq_zero_iff
abbrev Qat:=@PySem.Heap.get?_push_of_some
abbrev Qau:=@Option.map_eq_some_iff
abbrev Qav:=@PySem.F.plainAttrs_str
abbrev Qaw:=@List.take_of_length_le
abbrev Qax:=@List.mem_append_right
abbrev Qay:=@Array.getElem?_toList
abbrev Qaz:=@PySem.Heap.get?_update_self
abbrev QaA:=@List.length_singleton
abbrev QaB:=@PySem.StrLaws.glued_eq_join
abbrev QaC:=@List.mem_of_getElem?
abbrev QaD:=@List.mem_cons_of_mem
abbrev QaE:=@List.mem_append_left
abbrev QaF:=@List.getElem?_of_mem
abbrev QaG:=@List.mem_of_mem_take
abbrev QaH:=@PySem.Around.under_plainId
abbrev QaI:=@PySem.Heap.get?_push_size
abbrev QaJ:=@Array.length_toList
abbrev QaK:=@PySem.Heap.SameBut.update
abbrev QaL:=@List.flatMap_append
abbrev QaM:=@PySem.mem_of_lookup
abbrev QaN:=@List.length_append
abbrev QaO:=@List.set_cons_zero
abbrev QaP:=@List.set_cons_succ
abbrev QaQ:=@List.mem_cons_self
abbrev QaR:=@List.mem_singleton
abbrev QaS:=@Bool.false_ne_true
abbrev QaU:=@Nat.lt_of_lt_of_le
abbrev QaV:=@decide_eq_true_iff
abbrev QaW:=@PySem.wpAny_pyIter_tuple
abbrev QaX:=@Bool.false_eq_true
abbrev QaY:=@Int.emod_lt_of_pos
abbrev QaZ:=@PySem.wpAny_Call_Name_kw
abbrev Qba:=@PySem.wpAny_setField_rec
abbrev Qbb:=@List.getElem?_drop
abbrev Qbc:=@List.size_toArray
abbrev Qbd:=@PySem.Str.length_append
abbrev Qbe:=@List.append_assoc
abbrev Qbf:=@List.getElem?_map
abbrev Qbg:=@List.flatMap_cons
abbrev Qbh:=@PySem.wpAny_truthy_bool
abbrev Qbi:=@Int.toNat_natCast
abbrev Qbj:=@PySem.wpAny_setState_of
abbrev Qbk:=@PySem.wpAny_newObj_type
abbrev Qbl:=@Nat.lt_succ_of_lt
abbrev Qbm:=@PySem.wpAny_pyIter_list
abbrev Qbn:=@List.length_range
abbrev Qbo:=@of_decide_eq_true
abbrev Qbp:=@List.nodup_append
abbrev Qbq:=@decide_eq_true_eq
abbrev Qbr:=@not_false_eq_true
abbrev Qbs:=@bne_self_eq_false
abbrev Qbt:=@List.not_mem_nil
abbrev Qbu:=@List.length_cons
abbrev Qbv:=@List.length_take
abbrev Qbw:=@List.take_length
abbrev Qbx:=@Bool.and_eq_true
abbrev Qby:=@List.length_drop
abbrev Qbz:=@List.mem_flatMap
abbrev QbA:=@PySem.wpAny_call_entry
abbrev QbB:=@Nat.lt_succ_self
abbrev QbC:=@List.cons_ne_nil
abbrev QbD:=@List.all_eq_true
abbrev QbE:=@PySem.wpAny_askSetting
abbrev QbF:=@List.length_map
abbrev QbG:=@List.mem_append
abbrev QbH:=@List.map_append
abbrev QbI:=@List.append_nil
abbrev QbJ:=@PySem.PassesOwn.never
abbrev QbK:=@Option.some.inj
abbrev QbL:=@decide_eq_false
abbrev QbN:=@List.nodup_cons
abbrev QbO:=@Nat.not_lt_zero
abbrev QbP:=@Bool.eq_iff_iff
abbrev QbR:=@PySem.codeAny_builtin
abbrev QbS:=@Int.emod_nonneg
abbrev QbT:=@List.drop_left'
abbrev QbU:=@List.mem_filter
abbrev QbV:=@List.find?_cons
abbrev QbW:=@List.take_left'
abbrev QbX:=@decide_eq_true
abbrev QbY:=@PySem.Heap.size_push
abbrev QbZ:=@List.nodup_nil
abbrev Qca:=@PySem.wpAny_seqItems
abbrev Qcb:=@PySem.isSubtype_type
abbrev Qcc:=@List.mem_cons
abbrev Qcd:=@PySem.Paired.length
abbrev Qce:=@List.map_cons
abbrev Qcf:=@PySem.wpAny_holding
abbrev Qcg:=@Nat.lt_irrefl
abbrev Qch:=@PySem.wpAny_standAt
abbrev Qci:=@List.any_cons
abbrev Qcj:=@PySem.wpAny_attempt
abbrev Qck:=@PySem.Heap.lt_size
abbrev Qcl:=@Nat.ne_of_lt
abbrev Qcm:=@List.mem_map
abbrev Qcn:=@Nat.le_trans
abbrev Qco:=@Nat.ne_of_gt
abbrev Qcp:=@Nat.le_of_lt
abbrev Qcq:=@PySem.codeAny_mono
abbrev Qcr:=@Nat.le_refl
abbrev Qcs:=@Nat.zero_le
abbrev Qct:=@PySem.Paired.snoc
abbrev Qcu:=@PySem.wpAny_field
abbrev Qcv:=@PySem.sizeLine_eq
abbrev Qcw:=@Nat.le_succ
abbrev Qcx:=@PySem.wpAny_bind
abbrev Qcy:=@PySem.wpAny_pure
abbrev Qcz:=@PySem.wpAny_mono
abbrev QcA:=@PySem.wpAny_rule
abbrev QcB:=@PyProof.Rows.take_snoc
abbrev QcC:=@or_false
abbrev QcD:=@if_false
namespace L2
open PySem PySem.Spec PyProof.Rows
abbrev Key:=Sum Int Str
def N5:Key->Value->Bool
 | .inl k,v=>Value.isInt k v
 | .inr x,v=>Value.isStrOf x v
def rO (w:World):Key->Int
 | .inl k=>hashInt k
 | .inr x=>hashStr w x
theorem Dp:∀{k:Key} {v:Value},N5 k v=true->(∃i t,k=Sum.inl i/\v=Value.int i t)\/(∃x t,k=Sum.inr x/\v=Value.str x t)
 | .inl i,v,h=>by
  obtain⟨t,e⟩:=Value.isInt_shape (k:=i) (v:=v) h;exact .inl ⟨i,t,rq,e⟩
 | .inr x,v,h=>by
  obtain⟨t,e⟩:=Value.isStrOf_shape (x:=x) (v:=v) h;exact .inr ⟨x,t,rq,e⟩
theorem aD (i:Int) (t:Tok):N5 (.inl i) (.int i t)=true:=by simp[N5,Value.isInt]
theorem aC (x:Str) (t:Tok):N5 (.inr x) (.str x t)=true:=by simp[N5,Value.isStrOf]
theorem lK (a b:Int):decide ((Sum.inl a:Key)=Sum.inl b)=(a == b):=by
 by_cases e:a=b
 ·subst e;simp
 ·have h:¬(Sum.inl a:Key)=Sum.inl b:=λq=>e (Sum.inl.inj q);rw[QbL h];exact (beq_eq_false_iff_ne.mpr e).symm
theorem lG (a b:Str):decide ((Sum.inr a:Key)=Sum.inr b)=decide (a=b):=by
 by_cases e:a=b
 ·subst e;simp
 ·have h:¬(Sum.inr a:Key)=Sum.inr b:=λq=>e (Sum.inr.inj q);rw[QbL h,QbL e]
theorem lJ (a:Int) (b:Str):decide ((Sum.inl a:Key)=Sum.inr b)=false:=QbL (λq=>nomatch q)
theorem lH (a:Str) (b:Int):decide ((Sum.inr a:Key)=Sum.inl b)=false:=QbL (λq=>nomatch q)
def Gn (prog:Program) (w:World):PySem.KeyKind prog w Key where
 is:=N5
 hash:=rO w
 inj:=λv a b ha hb=>by
  rcases Dp ha with⟨i,t,rfl,rfl⟩|⟨x,t,rfl,rfl⟩
  ·rcases Dp hb with⟨j,u,rfl,e⟩|⟨y,u,rfl,e⟩
   ·injection e with e1 _;rw[e1]
   ·exact nomatch e
  ·rcases Dp hb with⟨j,u,rfl,e⟩|⟨y,u,rfl,e⟩
   ·exact nomatch e
   ·injection e with e1 _;rw[e1]
 byValue:=λk v h=>by
  rcases Dp h with⟨i,t,rfl,rfl⟩|⟨x,t,rfl,rfl⟩ <;> rfl
 pyHash:=λhv h=>by
  rcases Dp hv with⟨i,t,rfl,rfl⟩|⟨x,t,rfl,rfl⟩
  ·exact wpAny_pyHash_int h
  ·exact wpAny_pyHash_str h
 eqBool:=λhu hv h=>by
  rcases Dp hu with⟨i,t,rfl,rfl⟩|⟨x,t,rfl,rfl⟩
  ·rcases Dp hv with⟨j,u,rfl,rfl⟩|⟨y,u,rfl,rfl⟩
   ·rw[lK] at h;exact wpAny_eqBool_int h
   ·rw[lJ] at h;exact SeqAt.EqAt.int_str i t y u _ _ _ _ h
  ·rcases Dp hv with⟨j,u,rfl,rfl⟩|⟨y,u,rfl,rfl⟩
   ·rw[lH] at h;exact SeqAt.EqAt.str_int x t j u _ _ _ _ h
   ·rw[lG] at h;exact wpAny_eqBool_str h
 «strs»:=λk x t v h=>by
  rcases Dp h with⟨i,u,rfl,e⟩|⟨y,u,rfl,e⟩
  ·exact nomatch e
  ·injection e with e1 _;subst e1;cases v <;> rfl
theorem Wv (prog:Program) (w:World) (i:Int) (t:Tok):(Gn prog w).is (.inl i) (.int i t)=true:=aD i t
theorem Wu (prog:Program) (w:World) (x:Str) (t:Tok):(Gn prog w).is (.inr x) (.str x t)=true:=aC x t
inductive V where
 | non | bl (b:Bool) | int (i:Int) | str (x:Str) | byt (b:Array UInt8) | flt (b:UInt64) | ref (a:Addr) | ty (n:String)
 deriving DecidableEq
def RelV:V->Value->Prop
 | .non,u=>u=Value.none
 | .bl b,u=>u=Value.bool b
 | .int i,u=>∃t,u=Value.int i t
 | .str x,u=>∃t,u=Value.str x t
 | .byt b,u=>∃t,u=Value.bytes b t
 | .flt b,u=>∃t,u=Value.float b t
 | .ref a,u=>u=Value.ref a
 | .ty n,u=>u=Value.type n
abbrev YG:=List V
abbrev Vals:YG->YE->Prop:=Paired RelV
theorem Vals.length {xs:YG} {us:YE} (r:Vals xs us):xs.length=us.length:=Qcd r
theorem Vals.get:∀{xs:YG} {us:YE} {i:Nat} {x:V},Vals xs us->xs[i]?=some x->∃u,us[i]?=some u/\RelV x u
 | _,_,_,_,.nil,e=>by simp at e
 | _,_,0,_,.cons r _,e=>by simp at e;subst e;exact⟨_,rfl,r⟩
 | _,_,i+1,x,.cons _ t,e=>by
  obtain⟨u,h1,h2⟩:=Vals.get (i:=i) (x:=x) t (by simpa using e);exact⟨u,by simpa using h1,h2⟩
theorem Vals.set {x:V} {u:Value} (r:RelV x u):∀{xs:YG} {us:YE} (i:Nat),Vals xs us->Vals (xs.set i x) (us.set i u)
 | _,_,_,.nil=>.nil
 | _,_,0,.cons _ t=>.cons r t
 | _,_,i+1,.cons q t=>.cons q (Vals.set r i t)
theorem Vals.append:∀{xs ys:YG} {us ws:YE},Vals xs us->Vals ys ws->Vals (xs++ys) (us++ws)
 | _,_,_,_,.nil,s=>s
 | _,_,_,_,.cons r t,s=>.cons r (Vals.append t s)
theorem Vals.take:∀{xs:YG} {us:YE} (n:Nat),Vals xs us->Vals (xs.take n) (us.take n)
 | _,_,0,_=>.nil
 | _,_,_+1,.nil=>.nil
 | _,_,n+1,.cons r t=>.cons r (Vals.take n t)
theorem Vals.drop:∀{xs:YG} {us:YE} (n:Nat),Vals xs us->Vals (xs.drop n) (us.drop n)
 | _,_,0,r=>r
 | _,_,_+1,.nil=>.nil
 | _,_,n+1,.cons _ t=>Vals.drop n t
def Qe:Option V->Option Value->Prop
 | some v,some u=>RelV v u
 | none,none=>True
 | _,_=>False
def KV {κ : Type}:List (κ×V)->List (κ×Value)->Prop:=Paired λ(p:κ×V) (q:κ×Value)=>p.1=q.1/\RelV p.2 q.2
def kV:Key->V
 | .inl i=>.int i
 | .inr x=>.str x
inductive HO where
 | lst (xs:YG)
 | tup (xs:YG)
 | dK (kvs:List (Key×V)) | dT (kvs:List (List Key×V))
 | set (S:Int->Bool) (n:Nat)
 | ins (C dx:Addr) (fs:List (Str×V))
 | own (x:Addr)
 | xd (fs:List (Str×V))
 | met (f x:Addr)
 | rng (lo hi:Int)
 | frz (o:Obj) (u:HO)
 | tbl (ps:Array Value)
 | ext (φ : Heap->Prop)
abbrev Hp:=Addr->Option HO
def upd (H:Hp) (a:Addr) (o:HO):Hp:=λb=>if b=a then some o else H b
theorem Ac {H:Hp} {a:Addr} {o:HO}:upd H a o a=some o:=by unfold upd;rw[if_pos rfl]
theorem Ar {H:Hp} {a b:Addr} {o:HO} (h:b≠a):upd H a o b=H b:=by unfold upd;rw[if_neg h]
theorem Xc {H:Hp} {a:Addr} {o u:HO}:upd (upd H a o) a u=upd H a u:=by
 funext b;unfold upd;split <;> rfl
theorem Ao {H:Hp} {a b:Addr} {o:HO} (h:H a=some o) (h':H b=none):a≠b:=by
 intro e;subst e;rw[h] at h';cases h'
section
variable (P:Program) (w:World)
def BW (H:Hp) (h:Heap) (a:Addr):HO->Prop
 | .lst xs=>xs.length<=sizeLine/\∃(its:YE) (n:Nat),Vals xs its/\h.get? a=some { cls:=.type "list",data:=.seq its.toArray n }
 | .tup xs=>xs.length<=sizeLine/\∃its:YE,Vals xs its/\IsTup h a its.toArray
 | .dK kvs=>kvs.length<=sizeLine/\(a == sysModules)=false/\∃vs,KV kvs vs/\h.DictOf (Gn P w) a vs
 | .dT kvs=>kvs.length<=sizeLine/\(a == sysModules)=false/\∃xs:List (List Key×Addr×Value),
   Paired (λ(p:List Key×V) (q:List Key×Addr×Value)=>p.1=q.1/\H q.2.1=some (.tup (p.1.map kV))/\RelV p.2 q.2.2) kvs xs /\
   ∃o es ep,h.get? a=some o/\o.ExactDict/\o.data=.dict es ep/\es.toList=xs.map (entryOfKey (tupleKind (Gn P w)))/\(xs.map (·.1)).Nodup
 | .set S n=>h.SetOf (intKind P w) a S n
 | .ins C dx fs=>H dx=some (.own a)/\fs.length<=1000/\dx≠a/\h.get? a=some (instObj C dx) /\
   ∃mA,h.Ns1 dx mA/\(∀f,Qe (fs.lookup f) (mA f))/\PySem.Within mA (fs.map (·.1))
 | .own _=>∃o,h.get? a=some o
 | .xd fs=>∃mA,h.Ns1 a mA/\∀f,Qe (fs.lookup f) (mA f)
 | .rng lo hi=>∃t u v,h.get? a=some { cls:=.type "range",data:=.fields #[.int lo t,.int hi u,.int 1 v] }
 | .frz o u=>h.get? a=some o/\BW H h a u
 | .tbl ps=>h.get? a=some { cls:=.none,data:=.fields ps }
 | .met f x=>h.get? a=some (PySem.W.methodObj (.ref f) (.ref x))
 | .ext φ=>φ h/\(∃o,h.get? a=some o)/\∀h1 h2:Heap,φ h1->(∀o,h1.get? a=some o->h2.get? a=some o)->φ h2
def HOk (H:Hp) (h:Heap):Prop:=∀a o,H a=some o->BW P w H h a o
end
section
variable {P:Program} {w:World} {H H':Hp} {h h':Heap} {a:Addr} {o:HO}
theorem BW.lt (x:BW P w H h a o):a < h.objs.size:=by
 cases o with
 | lst xs=>obtain⟨_,_,_,_,e⟩:=x;exact Qck e
 | tup xs=>obtain⟨_,_,_,p⟩:=x;exact p.lt
 | dK kvs=>obtain⟨_,_,_,_,o,_,_,e,_⟩:=x;exact Qck e
 | dT kvs=>obtain⟨_,_,_,_,o,_,_,e,_⟩:=x;exact Qck e
 | set S n=>obtain⟨o,_,_,_,e,_⟩:=x;exact Qck e
 | ins C dx fs=>obtain⟨_,_,_,e,_⟩:=x;exact Qck e
 | own y=>obtain⟨_,e⟩:=x;exact Qck e
 | xd fs=>obtain⟨_,⟨_,_,_,e,_⟩,_⟩:=x;exact Qck e
 | rng lo hi=>obtain⟨_,_,_,e⟩:=x;exact Qck e
 | frz ob u=>obtain⟨e,_⟩:=x;exact Qck e
 | tbl ps=>exact Qck (show h.get? a=some _ from x)
 | met f y=>exact Qck (show h.get? a=some _ from x)
 | ext φ=>obtain⟨_,⟨_,e⟩,_⟩:=x;exact Qck e
theorem Paired.Bg {α β : Type} {F G:α->β->Prop}:∀{l₁ : List α} {l₂ : List β},Paired F l₁ l₂->(∀a b,F a b->G a b)->Paired G l₁ l₂
 | _,_,.nil,_=>.nil
 | _,_,.cons r t,f=>.cons (f _ _ r) (Paired.Bg t f)
theorem BW.stay (x:BW P w H h a o) (k:∀b u,(b=a\/H b=some (.own a))->h.get? b=some u->h'.get? b=some u)
  (ho:∀b,H b=some (.own a)->H' b=some (.own a)) (ht:∀b xs,H b=some (.tup xs)->H' b=some (.tup xs)):BW P w H' h' a o:=by
 induction o with
 | lst xs=>obtain⟨z,its,n,r,e⟩:=x;exact⟨z,its,n,r,k _ _ (.inl rfl) e⟩
 | tup xs=>obtain⟨z,its,r,ob,e,c⟩:=x;exact⟨z,its,r,ob,k _ _ (.inl rfl) e,c⟩
 | dK kvs=>obtain⟨z,y,vs,r,ob,es,ep,e,c⟩:=x;exact⟨z,y,vs,r,ob,es,ep,k _ _ (.inl rfl) e,c⟩
 | dT kvs=>
  obtain⟨z,y,xs,r,ob,es,ep,e,c⟩:=x;exact⟨z,y,xs,Paired.Bg r λp q z=>⟨z.1,ht _ _ z.2.1,z.2.2⟩,ob,es,ep,k _ _ (.inl rfl) e,c⟩
 | set S n=>obtain⟨ob,es,ep,t,e,c⟩:=x;exact⟨ob,es,ep,t,k _ _ (.inl rfl) e,c⟩
 | ins C dx fs=>
  obtain⟨d,z,ne,e,mA,⟨od,es,ep,e2,c⟩,r⟩:=x;exact⟨ho _ d,z,ne,k _ _ (.inl rfl) e,mA,⟨od,es,ep,k _ _ (.inr d) e2,c⟩,r⟩
 | own y=>obtain⟨ob,e⟩:=x;exact⟨ob,k _ _ (.inl rfl) e⟩
 | xd fs=>obtain⟨mA,⟨od,es,ep,e,c⟩,r⟩:=x;exact⟨mA,⟨od,es,ep,k _ _ (.inl rfl) e,c⟩,r⟩
 | rng lo hi=>obtain⟨t,u,v,e⟩:=x;exact⟨t,u,v,k _ _ (.inl rfl) e⟩
 | frz ob u ih=>obtain⟨e,q⟩:=x;exact⟨k _ _ (.inl rfl) e,ih q⟩
 | tbl ps=>
  have e:h.get? a=some { cls:=.none,data:=.fields ps }:=x;show h'.get? a=some { cls:=.none,data:=.fields ps };exact k a _ (.inl rfl) e
 | met f y=>
  have e:h.get? a=some (PySem.W.methodObj (.ref f) (.ref y)):=x;show h'.get? a=some (PySem.W.methodObj (.ref f) (.ref y));exact k a _ (.inl rfl) e
 | ext φ=>obtain⟨p,⟨o,e⟩,st⟩:=x;exact⟨st _ _ p λo q=>k _ _ (.inl rfl) q,⟨o,k _ _ (.inl rfl) e⟩,st⟩
theorem HOk.lt (x:HOk P w H h) (e:H a=some o):a < h.objs.size:=(x a o e).lt
theorem HOk.fresh (x:HOk P w H h) (e:h.objs.size<=a):H a=none:=by
 cases q:H a with
 | none=>rfl
 | some u=>exact absurd (QaU (x.lt q) e) (Qcg _)
theorem HOk.kept (x:HOk P w H h) (k:∀b u,h.get? b=some u->h'.get? b=some u):HOk P w H h':=λa o e=>
 (x a o e).stay (λb u _ q=>k b u q) (λ_ q=>q) λ_ _ q=>q
theorem HOk.laid (x:HOk P w H h) (k:∀b u,h.get? b=some u->h'.get? b=some u) (hp:h.objs.size<=a) (new:BW P w (upd H a o) h' a o):HOk P w (upd H a o) h':=λb u e=>by
 have hn:=x.fresh hp;by_cases hb:b=a
 ·subst hb;rw[Ac] at e;cases e;exact new
 ·rw[Ar hb] at e;exact (x b u e).stay (λc v _ q=>k c v q) (λc q=>by rw[Ar (Ao q hn)];exact q) λc xs q=>by rw[Ar (Ao q hn)];exact q
end
def Rd (H:Hp) (a:Addr) (u:HO):Prop:=H a=some u\/∃o,H a=some (.frz o u)
theorem Rd.ok {P:Program} {w:World} {H:Hp} {h:Heap} {a:Addr} {u:HO} (r:Rd H a u) (x:HOk P w H h):BW P w H h a u:=by
 rcases r with r |⟨o,r⟩
 ·exact x a u r
 ·obtain⟨_,q⟩:=x a _ r;exact q
def Mut:Option HO->Prop
 | some (.lst _)=>True
 | some (.dK _)=>True
 | some (.dT _)=>True
 | some (.set _ _)=>True
 | some (.ins _ _ _)=>True
 | some (.ext _)=>True
 | _=>False
section
variable {P:Program} {w:World} {H:Hp} {h h':Heap} {x e:Addr} {o':HO}
theorem HOk.write (ok:HOk P w H h) (mu:Mut (H x)) (he:e=x\/H e=some (.own x)) (k:∀b u,b≠e->h.get? b=some u->h'.get? b=some u) (heo:∃u,h'.get? e=some u)
  (new:BW P w (upd H x o') h' x o'):HOk P w (upd H x o') h':=λb u q=>by
 have lA:∀c y,H c=some (.own y)->c≠x:=λc y r z=>by subst z;rw[r] at mu;exact mu
 have Df:∀c xs,H c=some (.tup xs)->c≠x:=λc xs r z=>by subst z;rw[r] at mu;exact mu
 by_cases hb:b=x
 ·subst hb;rw[Ac] at q;cases q;exact new
 ·rw[Ar hb] at q;by_cases hbe:b=e
  ·have q':H b=some (.own x):=by
    rcases he with z | z
    ·exact absurd (hbe.trans z) hb
    ·rw[hbe];exact z
   rw[q] at q';cases q';obtain⟨v,hv⟩:=heo;exact⟨v,by rw[hbe];exact hv⟩
  ·refine (ok b u q).stay (λc v hc r=>k c v ?_ r) (λc r=>by rw[Ar (lA c b r)];exact r) λc xs r=>by rw[Ar (Df c xs r)];exact r
   rcases hc with rfl | hc
   ·exact hbe
   ·rintro rfl;rcases he with z | z
    ·exact lA c b hc z
    ·rw[hc] at z;cases z;exact hb rfl
end
structure Un (fs ex:List Addr) (H H':Hp) (h h':Heap):Prop where
 keep:∀b o,h.get? b=some o->H b=none->b∉fs->b∉ex->h'.get? b=some o
 slot:∀b o,h.get? b=some o->H b=none->b∈fs->b∉ex->∃sl,h'.get? b=some { o with slots:=sl }
 free:∀b o,h.get? b=some o->H b=none->b∉ex->H' b=none
 there:∀b o,h.get? b=some o->b∉ex->∃o',h'.get? b=some o'
 tups:∀b xs,H b=some (.tup xs)->H' b=some (.tup xs)
 JZ:∀b o u,H b=some (.frz o u)->H' b=some (.frz o u)
 Kp:∀b ps,H b=some (.tbl ps)->∃more,H' b=some (.tbl (ps++more))
section
variable {fs fs' ex ex':List Addr} {H H1 H2:Hp} {h h1 h2 h':Heap} {a x e:Addr} {o:HO}
theorem Un.any (u:Un fs ex H H1 h h1) {b:Addr} {ob:Obj} (q:h.get? b=some ob) (n:H b=none) (hx:b∉ex):∃sl,h1.get? b=some { ob with slots:=sl }:=by
 by_cases hb:b∈fs
 ·exact u.slot b ob q n hb hx
 ·exact⟨ob.slots,u.keep b ob q n hb hx⟩
theorem Un.kept (k:∀b u,h.get? b=some u->h'.get? b=some u):Un fs ex H H h h':=
 ⟨λb ob q _ _ _=>k b ob q,λb ob q _ _ _=>⟨ob.slots,k b ob q⟩,λ_ _ _ n _=>n,λb ob q _=>⟨ob,k b ob q⟩,λ_ _ q=>q,λ_ _ _ q=>q,λ_ ps q=>⟨#[],by rw[q];simp⟩⟩
theorem Un.refl:Un fs ex H H h h:=Un.kept λ_ _ q=>q
theorem Un.laid (k:∀b u,h.get? b=some u->h'.get? b=some u) (hp:h.objs.size<=a) (hn:H a=none):Un fs ex H (upd H a o) h h' where
 keep:=λb u q _ _ _=>k b u q
 slot:=λb u q _ _ _=>⟨u.slots,k b u q⟩
 free:=λb u q n _=>by rw[Ar (Qcl (QaU (Qck q) hp))];exact n
 there:=λb u q _=>⟨u,k b u q⟩
 tups:=λb xs q=>by rw[Ar (Ao q hn)];exact q
 JZ:=λb u xs q=>by rw[Ar (Ao q hn)];exact q
 Kp:=λb ps q=>⟨#[],by rw[Ar (Ao q hn),q];simp⟩
theorem Un.write (mu:Mut (H x)) (he:e=x\/H e=some (.own x)) (k:∀b u,b≠e->h.get? b=some u->h'.get? b=some u) (heo:∃u,h'.get? e=some u):Un fs ex H (upd H x o) h h':=by
 have hx:∀b,H b=none->b≠x:=λb n z=>by subst z;rw[n] at mu;exact mu
 have hb:∀b,H b=none->b≠e:=λb n z=>by
  subst z;rcases he with r | r
  ·exact hx b n r
  ·rw[n] at r;cases r
 have hm:∀b u,H b=some u->¬Mut (some u)->b≠x:=λb u q nm z=>by subst z;rw[q] at mu;exact nm mu
 refine⟨λb u q n _ _=>k b u (hb b n) q,λb u q n _ _=>⟨u.slots,k b u (hb b n) q⟩,λb u q n _=>by rw[Ar (hx b n)];exact n,λb u q _=>?_,
  λb xs q=>by rw[Ar (hm b _ q λz=>z)];exact q,λb u xs q=>by rw[Ar (hm b _ q λz=>z)];exact q,λb ps q=>⟨#[],by rw[Ar (hm b _ q λz=>z),q];simp⟩⟩
 by_cases hbe:b=e
 ·subst hbe;exact heo
 ·exact⟨u,k b u hbe q⟩
end
def trk (h:Heap) (H:Hp):List Addr:=(List.range h.objs.size).filter λa=>(H a).isSome
def LC (h:Heap) (H:Hp):Heap:=hideAll h (trk h H)
theorem aN (h:Heap) (H:Hp):(LC h H).objs.size=h.objs.size:=PySem.W.hideAll_size _ _
theorem fG {h:Heap} {H:Hp} {b:Addr} {o:Obj} (e:h.get? b=some o) (n:H b=none):(LC h H).get? b=some o:=
 hideAll_get _ e λhm=>by
  have q:(H b).isSome=true:=(QbU.mp hm).2;rw[n] at q;simp at q
theorem jc {h:Heap} {H:Hp} {b:Addr} {o:Obj} (e:(LC h H).get? b=some o):h.get? b=some o/\H b=none:=by
 have e':h.get? b=some o:=PySem.W.of_hideAll (trk h H) e;refine⟨e',?_⟩;cases q:H b with
 | none=>rfl
 | some x=>
  have hm:b∈trk h H:=QbU.mpr ⟨List.mem_range.mpr (Qck e'),by simp[q]⟩;have z:(LC h H).get? b=none:=PySem.W.hideAll_none (trk h H) hm;rw[z] at e;cases e
def jA (g h:Heap) (L:Addr):YC:=(List.range h.objs.size).filterMap λa=>if a=L\/(g.get? a).isSome=true then none else (h.get? a).map λo=>(a,o)
def rest (g h:Heap) (L d:Addr):YC:=(jA g h L).filter λp=>decide (p.1≠d)
structure Mod (K:YD) (mg:YB) (base:Heap):Prop where
 kin:K.In base
 glob:base.Ns mainGlobals mg
 blt:∃mb,base.Ns builtinsNs mb/\∀x:Str,x≠"__name__"->mb x=bootBuiltins x
 nolimit:base.NoLimit
structure Cx where
 prog:Program
 w:World
 K:YD
 mg:YB
 base:Heap
 A:Around
 N:YF
 s₀ : Shared
 H₀ : Hp
 env:Env
 outer:List Env
 stack:List Env
 ex:List Addr
 fn:Str->Bool
 calm:Bool
 pn:YC
 xe:YA
def frs (l:List Env):List Addr:=l.filterMap (·.frame)
abbrev Cx.fs (X:Cx):List Addr:=frs X.outer
def Vis (sc:Scope) (x:Str):Prop:=sc.names.lookup x=some .local\/sc.names.lookup x=some .cell\/sc.names.lookup x=some .free
def Loc (sc:Scope) (x:Str):Prop:=sc.names.lookup x=some .local\/sc.names.lookup x=some .cell
def Look (env:Env) (h:Heap) (m:YB) (x:Str) (u:Value):Prop:=
 (env.kindOf x=some .local/\m x=some u)\/((env.kindOf x=some .cell\/env.kindOf x=some .free)/\∃c,env.cells.lookup x=some c/\h.IsCell c (some u))
structure Cx.Ok (X:Cx):Prop where
 mod:Mod X.K X.mg X.base
 kind:X.env.scope.kind=.function
 glob:X.env.globals=mainGlobals
 blt:X.env.builtins=builtinsNs
 above:X.s₀.heap.objs.size<=X.env.locals
 inj:∀x y c,X.env.cells.lookup x=some c->X.env.cells.lookup y=some c->x=y
 has:∀x,(X.env.kindOf x=some .cell\/X.env.kindOf x=some .free)->∃c,X.env.cells.lookup x=some c
 cab:∀x c,X.fn x=true->X.env.cells.lookup x=some c->X.s₀.heap.objs.size<=c
 hd:X.calm=true->X.A.handled=none
 frames:X.A.frames=some X.stack
 stk:X.stack=X.outer\/(X.stack=X.env::X.outer/\X.env.frame=some X.env.locals)
 exf:∀b∈X.ex,b≠X.env.locals/\∀x c,X.env.cells.lookup x=some c->c≠b
 bs:∀b o,X.base.get? b=some o->X.s₀.heap.get? b=some o/\X.H₀ b=none
 bsz:X.base.objs.size<=X.s₀.heap.objs.size
 Rp:∀b o,X.base.get? b=some o->b∉X.ex
 PL:∀b∈X.ex,b∉X.fs
 Il:X.s₀.heap.FunFrames X.base X.outer
 frf:∀b∈X.fs,X.H₀ b=none
structure Inv (X:Cx) (jb:YC) (U : List (Option V)) (H:Hp) (s:Shared):Prop where
 ok:X.Ok
 os:s.os=X.s₀.os
 bare:AllBare s.gens
 base:Un X.fs X.ex X.H₀ H X.s₀.heap s.heap
 loc:∃m,s.heap.Ns X.env.locals m/\∀(i:Nat) (x:Str) (v:V),X.N[i]?=some x->U[i]?=some (some v)->Vis X.env.scope x->∃u,RelV v u/\Look X.env s.heap m x u
 cell:∀x c,X.env.cells.lookup x=some c->∃v,s.heap.IsCell c v
 free:H X.env.locals=none
 GX:∀x c,X.env.cells.lookup x=some c->H c=none
 pin:∀p∈X.pn++jb,s.heap.get? p.1=some p.2/\H p.1=none/\p.1≠X.env.locals/\p.1∉X.fs/\∀v,p.2.data≠.cell v
 hok:HOk X.prog X.w H s.heap
 len:U.length=X.N.length
section
variable {X:Cx} {jb:YC} {U : List (Option V)} {H H':Hp} {s:Shared} {h':Heap}
theorem Cx.Ok.pP (ok:X.Ok) {b:Addr} {o:Obj} (e:X.base.get? b=some o):b∉X.fs:=λhb=>by
 have:=(ok.Il.mem hb).1;rw[e] at this;cases this
theorem Inv.bs (I:Inv X jb U H s):∀b o,X.base.get? b=some o->s.heap.get? b=some o/\H b=none:=λb o e=>
 ⟨I.base.keep b o (I.ok.bs b o e).1 (I.ok.bs b o e).2 (I.ok.pP e) (I.ok.Rp b o e),I.base.free b o (I.ok.bs b o e).1 (I.ok.bs b o e).2 (I.ok.Rp b o e)⟩
theorem Inv.bk (I:Inv X jb U H s):∀b o,X.base.get? b=some o->s.heap.get? b=some o:=λb o e=>(I.bs b o e).1
theorem Inv.mod (I:Inv X jb U H s):Mod X.K X.mg X.base:=I.ok.mod
theorem Inv.kIn (I:Inv X jb U H s):X.K.In s.heap:=I.ok.mod.kin.keeps I.bk
theorem Inv.nolimit (I:Inv X jb U H s):s.heap.NoLimit:=I.ok.mod.nolimit.keeps I.bk
theorem Inv.fr (I:Inv X jb U H s):∃m,Fr X.base X.env.locals s.heap m:=
 let ⟨m,hn,_⟩:=I.loc
 ⟨m,hn,I.bk,Qcn I.ok.bsz I.ok.above⟩
theorem Inv.lt (I:Inv X jb U H s):X.env.locals < s.heap.objs.size:=let ⟨_,hn,_⟩:=I.loc;hn.lt
theorem Inv.sz (I:Inv X jb U H s):X.s₀.heap.objs.size<=s.heap.objs.size:=Qcn I.ok.above (Qcp I.lt)
theorem Inv.lB (I:Inv X jb U H s) {a:Addr} (h:s.heap.objs.size<=a):a∉X.fs:=λhb=>by
 obtain⟨_,o,ho,_⟩:=I.ok.Il.mem hb;exact absurd (QaU (Qck ho) (Qcn I.sz h)) (Qcg _)
theorem Inv.cne (I:Inv X jb U H s):∀x c,X.env.cells.lookup x=some c->c≠X.env.locals:=λx c e z=>by
 obtain⟨v,o,ho,hd⟩:=I.cell x c e;obtain⟨m,⟨o',es,ep,ho',hd',_⟩,_⟩:=I.loc;rw[z,ho'] at ho;cases ho;rw[hd'] at hd;cases hd
theorem Inv.Il (I:Inv X jb U H s):s.heap.FunFrames X.base X.outer:=by
 have all:∀(l:List Env),(∀b∈frs l,b∈X.fs)->X.s₀.heap.FunFrames X.base l->s.heap.FunFrames X.base l:=by
  intro l
  induction l with
  | nil=>intro _ _;trivial
  | cons env r ih=>
   intro hs hl;obtain⟨hk,⟨L,o,hf,hn,ho,hd⟩,hr⟩:=hl;have hL:L∈X.fs:=hs L (by unfold frs;rw[List.filterMap_cons,hf];exact QaQ);obtain⟨sl,e⟩:=I.base.slot L o ho (I.ok.frf L hL) hL λz=>I.ok.PL L z hL;exact⟨hk,⟨L,_,hf,hn,e,hd⟩,ih (λb hb=>hs b (by unfold frs;rw[List.filterMap_cons,hf];exact QaD _ hb)) hr⟩
 exact all X.outer (λ_ hb=>hb) I.ok.Il
theorem Inv.stack (I:Inv X jb U H s):s.heap.FunFrames X.base X.stack:=by
 rcases I.ok.stk with e |⟨e,hf⟩
 ·rw[e];exact I.Il
 ·rw[e];obtain⟨m,hn,_⟩:=I.loc;refine .cons (by rw[I.ok.kind];decide) hf hn ?_ I.Il;exact Heap.get?_none_of_le (Qcn I.ok.bsz I.ok.above)
theorem Inv.Ul (I:Inv X jb U H s):∀b∈frs X.stack,b∈X.env.locals::X.fs:=λb hb=>by
 rcases I.ok.stk with e |⟨e,hf⟩
 ·rw[e] at hb;exact QaD _ hb
 ·rw[e] at hb;unfold frs at hb;rw[List.filterMap_cons,hf] at hb;exact hb
theorem Inv.QX (I:Inv X jb U H s):∀b∈frs X.stack,H b=none:=λb hb=>by
 rcases Qcc.mp (I.Ul b hb) with e | hb
 ·rw[e];exact I.free
 ·obtain⟨_,o,ho,_⟩:=I.ok.Il.mem hb;exact I.base.free b o ho (I.ok.frf b hb) λz=>I.ok.PL b z hb
theorem Inv.step {g':Array GenState} {t':Nat} {d':Drawn} {ch:List Addr} (I:Inv X jb U H s)
  (hch:∀b∈ch,(b∈X.ex\/X.s₀.heap.objs.size<=b)/\b≠X.env.locals/\(∀x c,X.env.cells.lookup x=some c->c≠b)/\∀p∈X.pn++jb,p.1≠b)
  (keep:∀b o,b≠X.env.locals->b∉X.fs->b∉ch->s.heap.get? b=some o->H b=none->h'.get? b=some o)
  (slot:∀b o,b≠X.env.locals->b∈X.fs->b∉ch->s.heap.get? b=some o->H b=none->∃sl,h'.get? b=some { o with slots:=sl }) (free:∀b o,b∉ch->s.heap.get? b=some o->H b=none->H' b=none)
  (there:∀b o,b∉ch->s.heap.get? b=some o->∃o',h'.get? b=some o')
  (tups:∀b xs,H b=some (.tup xs)->H' b=some (.tup xs)) (JZ:∀b o u,H b=some (.frz o u)->H' b=some (.frz o u)) (Kp:∀b ps,H b=some (.tbl ps)->∃more,H' b=some (.tbl (ps++more)))
  (ns:∀m,s.heap.Ns X.env.locals m->h'.Ns X.env.locals m) (hok:HOk X.prog X.w H' h') (hg:AllBare g') :
  Inv X jb U H' { s with heap:=h',gens:=g',drawn:=d',toks:=t' }:=by
 have neL:∀b o,X.s₀.heap.get? b=some o->b≠X.env.locals:=λb o e=>Qcl (QaU (Qck e) I.ok.above);have neC:∀b o,X.s₀.heap.get? b=some o->b∉X.ex->b∉ch:=λb o e hx hb=>by
  rcases (hch b hb).1 with z | z
  ·exact hx z
  ·exact absurd (QaU (Qck e) z) (Qcg _)
 have cellK:∀x c,X.env.cells.lookup x=some c->∀v,s.heap.IsCell c v->h'.IsCell c v:=λx c e v ⟨o,ho,hd⟩=>by
  have nch:c∉ch:=λz=>(hch c z).2.2.1 x c e rfl;by_cases hc:c∈X.fs
  ·obtain⟨sl,q⟩:=slot c o (I.cne x c e) hc nch ho (I.GX x c e);exact⟨_,q,hd⟩
  ·exact⟨o,keep c o (I.cne x c e) hc nch ho (I.GX x c e),hd⟩
 refine⟨I.ok,I.os,hg,⟨λb o e n hb hx=>?_,λb o e n hb hx=>?_,λb o e n hx=>?_,λb o e hx=>?_,λb xs e=>tups b xs (I.base.tups b xs e),λb o xs e=>JZ b o xs (I.base.JZ b o xs e),λb ps e=>?_⟩,?_,λx c e=>?_,?_,λx c e=>?_,λp hp=>?_,hok,I.len⟩
 ·exact keep b o (neL b o e) hb (neC b o e hx) (I.base.keep b o e n hb hx) (I.base.free b o e n hx)
 ·obtain⟨sl,e1⟩:=I.base.slot b o e n hb hx;obtain⟨sl',e2⟩:=slot b _ (neL b o e) hb (neC b o e hx) e1 (I.base.free b o e n hx);exact⟨sl',e2⟩
 ·obtain⟨o',e1⟩:=I.base.there b o e hx;exact free b o' (neC b o e hx) e1 (I.base.free b o e n hx)
 ·obtain⟨o',e1⟩:=I.base.there b o e hx;exact there b o' (neC b o e hx) e1
 ·obtain⟨m1,e1⟩:=I.base.Kp b ps e;obtain⟨m2,e2⟩:=Kp b _ e1;exact⟨m1++m2,by rw[e2,Array.append_assoc]⟩
 ·obtain⟨m,hn,hl⟩:=I.loc;refine⟨m,ns m hn,λi x v e1 e2 e3=>?_⟩;obtain⟨u,r,l⟩:=hl i x v e1 e2 e3;refine⟨u,r,?_⟩;rcases l with l |⟨k,c,e,z⟩
  ·exact .inl l
  ·exact .inr ⟨k,c,e,cellK x c e _ z⟩
 ·obtain⟨v,z⟩:=I.cell x c e;exact⟨v,cellK x c e v z⟩
 ·obtain⟨m,⟨o,_,_,ho,_⟩,_⟩:=I.loc;exact free _ o (λz=>(hch _ z).2.1 rfl) ho I.free
 ·obtain⟨v,o,ho,hd⟩:=I.cell x c e;exact free c o (λz=>(hch c z).2.2.1 x c e rfl) ho (I.GX x c e)
 ·obtain⟨e,n,ne,nf,d⟩:=I.pin p hp;have nch:p.1∉ch:=λz=>(hch p.1 z).2.2.2 p hp rfl;exact⟨keep p.1 p.2 ne nf nch e n,free p.1 p.2 nch e n,ne,nf,d⟩
theorem Inv.un {t':Nat} (I:Inv X jb U H s) (u:Un X.fs [] H H' s.heap h') (hok:HOk X.prog X.w H' h'):Inv X jb U H' { s with heap:=h',toks:=t' }:=by
 obtain⟨m,⟨o,es,ep,ho,r⟩,_⟩:=id I.loc;obtain⟨sl,hL⟩:=u.any ho I.free (by simp);exact I.step (g':=s.gens) (d':=s.drawn) (ch:=[]) (λ_ z=>nomatch z) (λb o _ hb _ e n=>u.keep b o e n hb (by simp)) (λb o _ hb _ e n=>u.slot b o e n hb (by simp)) (λb o _ e n=>u.free b o e n (by simp)) (λb o _ e=>u.there b o e (by simp)) u.tups u.JZ u.Kp (λm' hm=>by
  obtain⟨o',es',ep',ho',r'⟩:=hm;rw[ho] at ho';cases ho';exact⟨_,es',ep',hL,r'⟩) hok I.bare
theorem Inv.call {g':Array GenState} {t':Nat} {d':Drawn} {ch:List Addr} (I:Inv X jb U H s) (u:Un (frs X.stack) ch H H' s.heap h') (hok:HOk X.prog X.w H' h') (hg:AllBare g')
  (hch:∀b∈ch,(b∈X.ex\/X.s₀.heap.objs.size<=b)/\b≠X.env.locals/\(∀x c,X.env.cells.lookup x=some c->c≠b)/\∀p∈X.pn++jb,p.1≠b) :
  Inv X jb U H' { s with heap:=h',gens:=g',drawn:=d',toks:=t' }:=by
 obtain⟨m,⟨o,es,ep,ho,r⟩,_⟩:=id I.loc;obtain⟨sl,hL⟩:=u.any ho I.free λz=>(hch _ z).2.1 rfl;exact I.step (ch:=ch) hch (λb o hL hb hc e n=>u.keep b o e n (λz=>(Qcc.mp (I.Ul b z)).elim hL hb) hc) (λb o _ _ hc e n=>u.any e n hc) (λb o hc e n=>u.free b o e n hc) (λb o hc e=>u.there b o e hc) u.tups u.JZ u.Kp (λm' hm=>by
  obtain⟨o',es',ep',ho',r'⟩:=hm;rw[ho] at ho';cases ho';exact⟨_,es',ep',hL,r'⟩) hok hg
theorem Inv.turned {t':Nat} {it:Addr} (I:Inv X jb U H s) (k:∀b o,b≠it->s.heap.get? b=some o->h'.get? b=some o) (hn:H it=none) (hL:it≠X.env.locals)
  (h1:it∈X.ex\/X.s₀.heap.objs.size<=it) (h2:∀x c,X.env.cells.lookup x=some c->c≠it) (h3:∀p∈X.pn++jb,p.1≠it):Inv X jb U H { s with heap:=h',toks:=t' }:=by
 have nit:∀b u,H b=some u->b≠it:=λb u e z=>by rw[z,hn] at e;cases e
 refine I.step (g':=s.gens) (d':=s.drawn) (ch:=[it]) (λb hb=>?_) (λb o _ _ hc e _=>k b o (λz=>hc (by simp[z])) e) (λb o _ _ hc e _=>⟨o.slots,k b o (λz=>hc (by simp[z])) e⟩) (λ_ _ _ _ n=>n)
  (λb o hc e=>⟨o,k b o (λz=>hc (by simp[z])) e⟩) (λ_ _ e=>e) (λ_ _ _ e=>e) (λb ps e=>⟨#[],by rw[e];simp⟩) (λm hm=>?_) (λb u e=>?_) I.bare
 ·have e:b=it:=by simpa using hb
  subst e;exact⟨h1,hL,h2,h3⟩
 ·obtain⟨o,es,ep,ho,r⟩:=hm;exact⟨o,es,ep,k _ o (Ne.symm hL) ho,r⟩
 ·refine (I.hok b u e).stay (λc v hc q=>k c v ?_ q) (λ_ q=>q) λ_ _ q=>q;rcases hc with z | z
  ·rw[z];exact nit b u e
  ·exact nit c _ z
theorem Inv.tok (I:Inv X jb U H s) (t:Nat):Inv X jb U H { s with toks:=t }:=I.un (h':=s.heap) (t':=t) Un.refl I.hok
theorem Inv.kept {t':Nat} (I:Inv X jb U H s) (k:∀b u,s.heap.get? b=some u->h'.get? b=some u):Inv X jb U H { s with heap:=h',toks:=t' }:=I.un (Un.kept k) (I.hok.kept k)
theorem Inv.laid {a:Addr} {o:HO} {t':Nat} (I:Inv X jb U H s) (k:∀b u,s.heap.get? b=some u->h'.get? b=some u) (hp:s.heap.objs.size<=a) (new:BW X.prog X.w (upd H a o) h' a o) :
  Inv X jb U (upd H a o) { s with heap:=h',toks:=t' }:=I.un (Un.laid k hp (I.hok.fresh hp)) (I.hok.laid k hp new)
theorem Inv.write {x e:Addr} {o:HO} {t':Nat} (I:Inv X jb U H s) (mu:Mut (H x)) (he:e=x\/H e=some (.own x)) (k:∀b u,b≠e->s.heap.get? b=some u->h'.get? b=some u) (heo:∃u,h'.get? e=some u)
  (new:BW X.prog X.w (upd H x o) h' x o):Inv X jb U (upd H x o) { s with heap:=h',toks:=t' }:=I.un (Un.write mu he k heo) (I.hok.write mu he k heo new)
theorem Inv.Rh {Yp:YC} (I:Inv X jb U H s) (h:∀p∈Yp,s.heap.get? p.1=some p.2/\H p.1=none/\p.1≠X.env.locals/\p.1∉X.fs/\∀v,p.2.data≠.cell v):Inv X Yp U H s:=
 ⟨I.ok,I.os,I.bare,I.base,I.loc,I.cell,I.free,I.GX,λp hp=>(QbG.mp hp).elim (λz=>I.pin p (QaE _ z)) (h p),I.hok,I.len⟩
theorem Vp {N:YF} (hN:N.Nodup) {i j:Nat} {x:Str} (a:N[i]?=some x) (b:N[j]?=some x):i=j:=by
 obtain⟨h1,e1⟩:=Qaf.mp a;obtain⟨h2,e2⟩:=Qaf.mp b;exact (List.getElem_inj hN).mp (e1.trans e2.symm)
theorem ZC {M:Model} {A:Around} {E:YA} {i:Nat} {x:Str} {v:V} {u:Value} {Q:YH} (I:Inv X jb U H s) (hN:X.N.Nodup) (hi:X.N[i]?=some x) (hx:Loc X.env.scope x) (r:RelV v u)
  (h:∀s',Inv X jb (U.set i (some v)) H s'->(∃a,Heap.SameBut a s.heap s'.heap/\(a=X.env.locals\/X.env.cells.lookup x=some a))->Q () s') (hf:X.fn x=true\/X.env.scope.names.lookup x=some .local:=by first | exact .inl rfl | exact .inr rfl | assumption):wpAny M A (storeName X.env x u) Q E s:=by
 obtain⟨m,hn,hl⟩:=id I.loc;have hcls:(X.env.scope.kind == .class || (X.env.scope.kind == .module&&X.env.locals != X.env.globals))=false:=by rw[I.ok.kind];rfl
 have hiσ : i < U.length:=by rw[I.len];exact (Qaf.mp hi).1
 have cne:=I.cne;have tracked:∀{a:Addr} {h':Heap},(∃o,s.heap.get? a=some o/\H a=none)->Heap.SameBut a s.heap h'->HOk X.prog X.w H h':=λ{a h'} ha hs b ob e=>by
  obtain⟨_,_,hfree⟩:=ha;refine (I.hok b ob e).stay (λc w' hc q=>(hs.2 c ?_).trans q) (λ_ q=>q) λ_ _ q=>q;rintro rfl;rcases hc with rfl | hc
  ·rw[hfree] at e;cases e
  ·rw[hfree] at hc;cases hc
 rcases hx with hk | hk
 ·refine wpAny_storeName_local hk hn (λh' hn' hs=>?_) hcls;obtain⟨oL,_,_,hoL,_⟩:=id hn;refine h _ ⟨I.ok,I.os,I.bare,⟨λb o e n hb hx=>?_,λb o e n hb hx=>?_,I.base.free,λb o e hx=>?_,I.base.tups,I.base.JZ,I.base.Kp⟩,⟨_,hn',λj y v' e1 e2 e3=>?_⟩,λy c e=>?_,I.free,I.GX,λp hp=>?_,tracked ⟨oL,hoL,I.free⟩ hs,by simpa using I.len⟩ ⟨_,hs,.inl rfl⟩
  ·exact (hs.2 b (Qcl (QaU (Qck e) I.ok.above))).trans (I.base.keep b o e n hb hx)
  ·obtain⟨sl,e1⟩:=I.base.slot b o e n hb hx;exact⟨sl,(hs.2 b (Qcl (QaU (Qck e) I.ok.above))).trans e1⟩
  ·obtain⟨o',e1⟩:=I.base.there b o e hx;exact⟨o',(hs.2 b (Qcl (QaU (Qck e) I.ok.above))).trans e1⟩
  ·by_cases hj:j=i
   ·subst hj;rw[hi] at e1;cases e1;rw[List.getElem?_set_self hiσ] at e2;cases e2;exact⟨u,r,.inl ⟨hk,by simp⟩⟩
   ·rw[List.getElem?_set_ne (Ne.symm hj)] at e2;obtain⟨u',r',q⟩:=hl j y v' e1 e2 e3;refine⟨u',r',?_⟩;rcases q with⟨k,e⟩|⟨k,c,e,z⟩
    ·refine .inl ⟨k,?_⟩;have:y≠x:=λe=>hj (Vp hN e1 (e ▸ hi));simp[this,e]
    ·exact .inr ⟨k,c,e,z.sameBut hs (cne y c e)⟩
  ·obtain⟨w',z⟩:=I.cell y c e;exact⟨w',z.sameBut hs (cne y c e)⟩
  ·obtain⟨e,n,ne,nf,d⟩:=I.pin p hp;exact⟨(hs.2 p.1 ne).trans e,n,ne,nf,d⟩
 ·have hfn:X.fn x=true:=by
   rcases hf with z | z
   ·exact z
   ·rw[z] at hk;cases hk
  obtain⟨c,hc⟩:=I.ok.has x (.inl hk);obtain⟨w',z⟩:=I.cell x c hc;refine wpAny_storeName_cell I.ok.kind hk hc z (λh' hc' hs=>?_);obtain⟨oc,hoc,sH⟩:=id z;refine h { s with heap:=h' } ⟨I.ok,I.os,I.bare,⟨λb o e n hb hx=>?_,λb o e n hb hx=>?_,I.base.free,λb o e hx=>?_,I.base.tups,I.base.JZ,I.base.Kp⟩,⟨m,hn.sameBut hs (Ne.symm (cne x c hc)),λj y v' e1 e2 e3=>?_⟩,λy c' e=>?_,I.free,I.GX,λp hp=>?_,tracked ⟨oc,hoc,I.GX x c hc⟩ hs,by simpa using I.len⟩ ⟨c,hs,.inr hc⟩
  ·exact (hs.2 b (Qcl (QaU (Qck e) (I.ok.cab x c hfn hc)))).trans (I.base.keep b o e n hb hx)
  ·obtain⟨sl,e1⟩:=I.base.slot b o e n hb hx;exact⟨sl,(hs.2 b (Qcl (QaU (Qck e) (I.ok.cab x c hfn hc)))).trans e1⟩
  ·obtain⟨o',e1⟩:=I.base.there b o e hx;exact⟨o',(hs.2 b (Qcl (QaU (Qck e) (I.ok.cab x c hfn hc)))).trans e1⟩
  ·by_cases hj:j=i
   ·subst hj;rw[hi] at e1;cases e1;rw[List.getElem?_set_self hiσ] at e2;cases e2;exact⟨u,r,.inr ⟨.inl hk,c,hc,hc'⟩⟩
   ·rw[List.getElem?_set_ne (Ne.symm hj)] at e2;obtain⟨u',r',q⟩:=hl j y v' e1 e2 e3;refine⟨u',r',?_⟩;rcases q with q |⟨k,c',e,z'⟩
    ·exact .inl q
    ·refine .inr ⟨k,c',e,z'.sameBut hs ?_⟩;rintro rfl;exact hj (Vp hN e1 (I.ok.inj _ _ _ e hc ▸ hi))
  ·by_cases hcc:c'=c
   ·subst hcc;exact⟨_,hc'⟩
   ·obtain⟨w2,z2⟩:=I.cell y c' e;exact⟨w2,z2.sameBut hs hcc⟩
  ·obtain⟨e,n,ne,nf,d⟩:=I.pin p hp;refine⟨(hs.2 p.1 ?_).trans e,n,ne,nf,d⟩;intro q;rw[q,hoc] at e;have q':oc=p.2:=QbK e;exact d w' (by rw[<-q'];exact sH)
theorem Ou {M:Model} {A:Around} {E:YA} {i:Nat} {x:Str} {v:V} {u:Value} {Q:YH} (I:Inv X jb U H s) (hN:X.N.Nodup) (hi:X.N[i]?=some x) (hx:Loc X.env.scope x) (r:RelV v u)
  (h:∀s',Inv X jb (U.set i (some v)) H s'->Q () s') (hf:X.fn x=true\/X.env.scope.names.lookup x=some .local:=by first | exact .inl rfl | exact .inr rfl | assumption):wpAny M A (storeName X.env x u) Q E s:=
 ZC I hN hi hx r (λs' I' _=>h s' I') hf
theorem Inv.call' {s':Shared} {ch:List Addr} (I:Inv X jb U H s) (ho:s'.os=s.os) (u:Un (frs X.stack) ch H H' s.heap s'.heap) (hok:HOk X.prog X.w H' s'.heap) (hg:AllBare s'.gens)
  (hch:∀b∈ch,(b∈X.ex\/X.s₀.heap.objs.size<=b)/\b≠X.env.locals/\(∀x c,X.env.cells.lookup x=some c->c≠b)/\∀p∈X.pn++jb,p.1≠b):Inv X jb U H' s':=by
 obtain⟨h',g',d',t',o'⟩:=s';have e:o'=s.os:=ho;subst e;exact I.call (g':=g') (t':=t') (d':=d') u hok hg hch
end
abbrev XK:=Value->Option Addr->Hp->Prop
abbrev St:=List (Option V)
abbrev VK:=V->Hp->Prop
abbrev TE:=St->Hp->VK->Prop
abbrev TT:=St->Hp->(Bool->Hp->Prop)->Prop
abbrev TA:=St->Hp->(YG->Hp->Prop)->Prop
structure Ends where
 nx:St->Hp->Prop
 rt:VK
 bk:St->Hp->Prop:=λ_ _=>False
 ct:St->Hp->Prop:=λ_ _=>False
abbrev YO:=St->Hp->Prop
abbrev TS:=Ends->YO
def EP (X:Cx) (jb:YC) (U : St) (Q:VK) (u:Value) (s':Shared):Prop:=∃v H',Inv X jb U H' s'/\RelV v u/\Q v H'
def TP (X:Cx) (jb:YC) (U : St) (Q:Bool->Hp->Prop) (b:Bool) (s':Shared):Prop:=∃H',Inv X jb U H' s'/\Q b H'
def AP (X:Cx) (jb:YC) (U : St) (Q:YG->Hp->Prop) (us:YE) (s':Shared):Prop:=∃vs H',Inv X jb U H' s'/\Vals vs us/\Q vs H'
def SP (X:Cx) (jb:YC) (D:Ends) (f:Flow) (s':Shared):Prop:=
 match f with
 | .next=>∃ σ' H',Inv X jb σ' H' s'/\D.nx σ' H'
 | .brk=>∃ σ' H',Inv X jb σ' H' s'/\D.bk σ' H'
 | .cont=>∃ σ' H',Inv X jb σ' H' s'/\D.ct σ' H'
 | .ret u=>∃v σ' H',Inv X jb σ' H' s'/\RelV v u/\D.rt v H'
def PE (X:Cx) (e:Expr) (t:TE):Prop:=
 ∀(jb:YC) (s:Shared) (U : St) (H:Hp) (Q:VK),Inv X jb U H s->t U H Q->wpAny (model X.prog X.w) X.A (eval e X.env) (EP X jb U Q) X.xe s
def PT (X:Cx) (e:Expr) (t:TT):Prop:=
 ∀(jb:YC) (s:Shared) (U : St) (H:Hp) (Q:Bool->Hp->Prop),Inv X jb U H s->t U H Q->wpAny (model X.prog X.w) X.A (isTrue e X.env (eval e X.env)) (TP X jb U Q) X.xe s
def PW (X:Cx) (e:Expr) (t:TT):Prop:=
 ∀(whole:Sem Value) (jb:YC) (s:Shared) (U : St) (H:Hp) (Q:Bool->Hp->Prop),Inv X jb U H s->t U H Q->wpAny (model X.prog X.w) X.A (isTrue e X.env whole) (TP X jb U Q) X.xe s
theorem PW.pt {X:Cx} {e:Expr} {t:TT} (h:PW X e t):PT X e t:=h _
def PA (X:Cx) (es:YJ) (t:TA):Prop:=
 ∀(pos:Pos) (jb:YC) (s:Shared) (U : St) (H:Hp) (Q:YG->Hp->Prop),Inv X jb U H s->t U H Q->wpAny (model X.prog X.w) X.A (spliced (backTo pos (starEach es X.env))) (AP X jb U Q) X.xe s
def PS (X:Cx) (st:Stmt) (t:TS):Prop:=
 ∀(jb:YC) (s:Shared) (U : St) (H:Hp) (D:Ends),Inv X jb U H s->t D U H->wpAny (model X.prog X.w) X.A (exec st X.env) (SP X jb D) X.xe s
def PSs (X:Cx) (st:List Stmt) (t:TS):Prop:=
 ∀(jb:YC) (s:Shared) (U : St) (H:Hp) (D:Ends),Inv X jb U H s->t D U H->wpAny (model X.prog X.w) X.A (execs st X.env) (SP X jb D) X.xe s
theorem thn {α : Type} {t:Sem α} {Q Q':α->Shared->Prop} {M:Model} {A:Around} {E:YA} {s:Shared} (h:wpAny M A t Q E s) (hQ:∀a s,Q a s->Q' a s):wpAny M A t Q' E s:=Qcz h hQ λ_ _ x=>x
section
variable {X:Cx}
theorem bin {a b:Expr} {ta tb:TE} (ha:PE X a ta) (hb:PE X b tb) {jb:YC} {s:Shared} {U : St} {H:Hp} {R:V->V->Hp->Prop} (I:Inv X jb U H s) (h:ta U H λx H1=>tb U H1 λy H2=>R x y H2)
  {α : Type} {Q:α->Shared->Prop} {f:Value->Value->Sem α}
  (hf:∀v u s2 x y H2,Inv X jb U H2 s2->RelV x v->RelV y u->R x y H2->wpAny (model X.prog X.w) X.A (f v u) Q X.xe s2) :
  wpAny (model X.prog X.w) X.A (eval a X.env) (λv s₁=>wpAny (model X.prog X.w) X.A (eval b X.env) (λu s₂=>wpAny (model X.prog X.w) X.A (f v u) Q X.xe s₂) X.xe s₁) X.xe s:=by
 refine thn (ha jb s U H _ I h) λv s1 zz=>?_;obtain⟨x,H1,I1,r1,q1⟩:=zz;refine thn (hb jb s1 U H1 _ I1 q1) λu s2 zz=>?_;obtain⟨y,H2,I2,r2,q2⟩:=zz;exact hf v u s2 x y H2 I2 r1 r2 q2
def jM (i:Nat):TE:=fun U H Q=>∃v,U[i]?=some (some v)/\Q v H
def tC (v:V):TE:=λ_ H Q=>Q v H
theorem j8 {i:Nat} {x:Str} {pos:Pos} (hN:X.N[i]?=some x) (hv:Vis X.env.scope x) (hd:(x == ("__debug__":Str))=false:=by decide) (hcd:(x == ("__classdict__":Str))=false:=by decide):PE X (.Name x pos) (jM i):=by
 intro jb s U H Q I h;obtain⟨v,e,h⟩:=h;obtain⟨m,hn,hl⟩:=I.loc;obtain⟨u,r,l⟩:=hl i x v hN e hv;have fin:EP X jb U Q u s:=⟨v,H,I,r,h⟩;rcases l with⟨hk,hm⟩|⟨hk,c,hc,hcell⟩
 ·exact wpAny_Name (wpAny_loadName_local I.ok.kind hk hn hm fin) hd
 ·rcases hk with hk | hk
  ·exact wpAny_Name (wpAny_loadName_cell I.ok.kind hk hc hcell fin) hd
  ·exact wpAny_Name (wpAny_loadName_free I.ok.kind hk hc hcell fin hcd) hd
theorem Ae {i j pos}:PE X (.Constant (.int i) j pos) (tC (.int i)):=λ_ _ _ H _ I h=>wpAny_Constant_int ⟨.int i,H,I.tok _,⟨_,rfl⟩,h⟩
theorem Hv {b j pos}:PE X (.Constant (.bool b) j pos) (tC (.bl b)):=λ_ _ _ H _ I h=>Constant_bool ⟨.bl b,H,I,rfl,h⟩
theorem Z4 {j pos}:PE X (.Constant .none j pos) (tC .non):=λ_ _ _ H _ I h=>Constant_none ⟨.non,H,I,rfl,h⟩
theorem Bb {x j pos}:PE X (.Constant (.str x) j pos) (tC (.str x)):=λ_ _ _ H _ I h=>Calls.Constant_str ⟨.str x,H,I.tok _,⟨_,rfl⟩,h⟩
def Gl (X:Cx) (x:Str):Prop:=X.env.kindOf x=some .globalImplicit
theorem Xo {E:YA} {jb:YC} {s:Shared} {U : St} {H:Hp} {x:Str} {u:Value} {pos:Pos} {Q:YA} (I:Inv X jb U H s) (hg:Gl X x) (hm:X.mg x=some u) (h:Q u s)
  (hd:(x == ("__debug__":Str))=false:=by decide):wpAny (model X.prog X.w) X.A (eval (.Name x pos) X.env) Q E s:=
 Calls.Name_function_global I.ok.kind hg (Calls.loadGlobal_global (by rw[I.ok.glob];exact I.mod.glob.keeps I.bk) hm h) hd
theorem GK {E:YA} {jb:YC} {s:Shared} {U : St} {H:Hp} {x:Str} {u:Value} {pos:Pos} {Q:YA} (I:Inv X jb U H s) (hg:Gl X x) (hm:X.mg x=none) (hv:bootBuiltins x=some u) (h:Q u s)
  (hn:x≠"__name__":=by decide) (hd:(x == ("__debug__":Str))=false:=by decide):wpAny (model X.prog X.w) X.A (eval (.Name x pos) X.env) Q E s:=by
 obtain⟨mb,h1,h2⟩:=I.mod.blt;exact Calls.Name_function_global I.ok.kind hg (Calls.loadGlobal_builtin (by rw[I.ok.glob];exact I.mod.glob.keeps I.bk) hm (by rw[I.ok.blt];exact h1.keeps I.bk) ((h2 x hn).trans hv) h) hd
theorem iQ {x:Str} {v:V} {u:Value} {pos:Pos} (hg:Gl X x) (hm:X.mg x=some u) (r:RelV v u) (hd:(x == ("__debug__":Str))=false:=by decide):PE X (.Name x pos) (tC v):=
 λ_ _ _ H _ I h=>Xo I hg hm ⟨v,H,I,r,h⟩ hd
theorem Eu {x:Str} {v:V} {u:Value} {pos:Pos} (hg:Gl X x) (hm:X.mg x=none) (hv:bootBuiltins x=some u) (r:RelV v u) (hn:x≠"__name__":=by decide) (hd:(x == ("__debug__":Str))=false:=by decide):PE X (.Name x pos) (tC v):=
 λ_ _ _ H _ I h=>GK I hg hm hv ⟨v,H,I,r,h⟩ hn hd
variable {a b:Expr} {ta tb:TE} {pos:Pos}
def PC (X:Cx) (op:CmpOp) (a b:Expr) (t:TE):Prop:=
 ∀(jb:YC) (s:Shared) (U : St) (H:Hp) (Q:VK),Inv X jb U H s->t U H Q ->
  wpAny (model X.prog X.w) X.A (eval a X.env) (λv s₁=>wpAny (model X.prog X.w) X.A (eval b X.env) (λu s₂=>wpAny (model X.prog X.w) X.A (compareOp op v u) (EP X jb U Q) X.xe s₂) X.xe s₁) X.xe s
theorem d8 (b:Expr) {op:CmpOp} (h:op≠.In) (h2:op≠.NotIn):behindInMarks op b=false:=by
 have e1:(op == CmpOp.In)=false:=by cases op <;> first | rfl | exact absurd rfl h
 have e2:(op == CmpOp.NotIn)=false:=by cases op <;> first | rfl | exact absurd rfl h2
 cases b <;> simp[behindInMarks,e1,e2]
def tB (t:TE):TT:=fun U H Q=>t U H λx H1=>∃c,x=.bl c/\Q c H1
theorem wD {op:CmpOp} {t:TE} (h:PC X op a b t) (h1:behindInMarks op b=false:=by first | exact d8 _ (by decide) (by decide) | rfl):PT X (.Compare a [op] [b] pos) (tB t):=by
 intro jb s U H Q I hw;refine wpAny_isTrue_Compare1 (thn (h jb s U H _ I hw) λv s1 h1=>thn h1 λu s2 h2=>thn h2 λc s3 zz=>?_) h1;obtain⟨x,H1,I1,r1,q1⟩:=zz;obtain⟨d,rfl,q⟩:=q1;cases r1;exact Qbh ⟨H1,I1,q⟩
theorem Dd {e:Expr} {t:TE} (h:PE X e t) (he:∀whole,isTrue e X.env whole=(do let v <-whole;standAt e.pos;holding [v] (truthy v)):=by intro _;rfl):PT X e (tB t):=by
 intro jb s U H Q I hw;refine isTrue_plain (thn (h jb s U H _ I hw) λv s1 zz=>?_) (he _);obtain⟨x,H1,I1,r1,q1⟩:=zz;obtain⟨d,rfl,q⟩:=q1;cases r1;exact Qbh ⟨H1,I1,q⟩
variable {tA tB':TT} {rest:YJ}
def pF (t u:TT):TT:=fun U H Q=>t U H λc H1=>if c=true then u U H1 Q else Q false H1
def tOr (t u:TT):TT:=fun U H Q=>t U H λc H1=>if c=true then Q true H1 else u U H1 Q
def pC (t:TT):TT:=fun U H Q=>t U H λc H1=>Q (!c) H1
theorem iG (ha:PT X a tA):PW X (.BoolOp .And [a] pos) tA:=by
 intro wh jb s U H Q I h;refine isTrue_and (thn (ha jb s U H Q I h) λc s1 e=>?_);cases c with
 | true=>exact isTrue_and_nil e
 | false=>exact e
theorem Iw (ha:PT X a tA):PW X (.BoolOp .Or [a] pos) tA:=by
 intro wh jb s U H Q I h;refine isTrue_or (thn (ha jb s U H Q I h) λc s1 e=>?_);cases c with
 | false=>exact isTrue_or_nil e
 | true=>exact e
theorem j5 (ha:PT X a tA) (hb:PW X (.BoolOp .And (b::rest) pos) tB'):PW X (.BoolOp .And (a::b::rest) pos) (pF tA tB'):=by
 intro wh jb s U H Q I h;refine isTrue_and (thn (ha jb s U H _ I h) λc s1 zz=>?_);obtain⟨H1,I1,q1⟩:=zz;cases c with
 | true=>exact hb wh jb s1 U H1 Q I1 q1
 | false=>exact⟨H1,I1,q1⟩
theorem Ip (ha:PT X a tA) (hb:PW X (.BoolOp .Or (b::rest) pos) tB'):PW X (.BoolOp .Or (a::b::rest) pos) (tOr tA tB'):=by
 intro wh jb s U H Q I h;refine isTrue_or (thn (ha jb s U H _ I h) λc s1 zz=>?_);obtain⟨H1,I1,q1⟩:=zz;cases c with
 | true=>exact⟨H1,I1,q1⟩
 | false=>exact hb wh jb s1 U H1 Q I1 q1
theorem Dw (ha:PT X a tA):PT X (.UnaryOp .Not a pos) (pC tA):=by
 intro jb s U H Q I h;exact isTrue_not (ha jb s U H (λc H1=>Q (!c) H1) I h)
def nG (ta tb:TE):TE:=fun U H Q=>ta U H λx H1=>∃c,x=.bl c/\if c=true then tb U H1 Q else Q (.bl false) H1
def nA (ta:TE):TE:=fun U H Q=>ta U H λx H1=>∃c,x=.bl c/\Q (.bl (!c)) H1
theorem Ei {op} {t:TE} (h:PE X a t):PE X (.BoolOp op [a] pos) t:=λjb s U H Q I hw=>BoolOp_one (h jb s U H Q I hw)
theorem DW (ha:PE X a ta) (hb:PE X (.BoolOp .And (b::rest) pos) tb):PE X (.BoolOp .And (a::b::rest) pos) (nG ta tb):=by
 intro jb s U H Q I h;refine BoolOp_and (thn (ha jb s U H _ I h) λv s1 zz=>?_);obtain⟨x,H1,I1,r1,q1⟩:=zz;obtain⟨c,rfl,q1⟩:=q1;cases r1;refine Qbh ?_;cases c with
 | true=>exact hb jb s1 U H1 Q I1 q1
 | false=>exact⟨.bl false,H1,I1,rfl,q1⟩
theorem j9 (ha:PE X a ta):PE X (.UnaryOp .Not a pos) (nA ta):=by
 intro jb s U H Q I h;refine UnaryOp_ (thn (ha jb s U H _ I h) λv s1 zz=>?_);obtain⟨x,H1,I1,r1,q1⟩:=zz;obtain⟨c,rfl,q1⟩:=q1;cases r1;exact not_of (Qbh ⟨.bl (!c),H1,I1,rq,q1⟩)
def tIf (t:TT) (ta tb:TE):TE:=fun U H Q=>t U H λc H1=>if c=true then ta U H1 Q else tb U H1 Q
theorem dM {c:Expr} (hc:PT X c tA) (ha:PE X a ta) (hb:PE X b tb):PE X (.IfExp c a b pos) (tIf tA ta tb):=by
 intro jb s U H Q I h;refine wpAny_IfExp (thn (hc jb s U H _ I h) λd s1 zz=>?_);obtain⟨H1,I1,q1⟩:=zz;cases d with
 | true=>exact ha jb s1 U H1 Q I1 q1
 | false=>exact hb jb s1 U H1 Q I1 q1
end
def SqL (K:YD) (H:Hp) (a:Addr) (xs:YG):Prop:=
 Rd H a (.lst xs) \/
  ∃(o:Obj) (its:Array Value) (n:Nat),K.lookup a=some o/\o.cls=.type "list"/\o.dict=none/\o.data=.seq its n/\its.size<=sizeLine/\Vals xs its.toList
def SqT (K:YD) (H:Hp) (a:Addr) (xs:YG):Prop:=
 Rd H a (.tup xs) \/
  ∃(o:Obj) (its:Array Value) (n:Nat),K.lookup a=some o/\o.cls=.type "tuple"/\o.data=.seq its n/\its.size<=sizeLine/\Vals xs its.toList
def wj:Value->Option V
 | .none=>some .non
 | .bool b=>some (.bl b)
 | .int i _=>some (.int i)
 | .str x _=>some (.str x)
 | .bytes b _=>some (.byt b)
 | .float b _=>some (.flt b)
 | .ref a=>some (.ref a)
 | .type n=>some (.ty n)
 | _=>none
theorem RelV.abs {x:V} {u:Value} (r:RelV x u):wj u=some x:=by
 cases x with
 | non=>cases r;rfl
 | bl _=>cases r;rfl
 | int _=>obtain⟨t,rfl⟩:=r;rfl
 | str _=>obtain⟨t,rfl⟩:=r;rfl
 | byt _=>obtain⟨t,rfl⟩:=r;rfl
 | flt _=>obtain⟨t,rfl⟩:=r;rfl
 | ref _=>cases r;rfl
 | ty _=>cases r;rfl
theorem RelV.inj {x y:V} {u:Value} (r:RelV x u) (q:RelV y u):x=y:=QbK (r.abs.symm.trans q.abs)
theorem Vals.inj:∀{xs ys:YG} {us:YE},Vals xs us->Vals ys us->xs=ys
 | _,_,_,.nil,.nil=>rfl
 | _,_,_,.cons r t,.cons r' t'=>by rw[r.inj r',Vals.inj t t']
section
variable {X:Cx} {jb:YC} {U : St} {H:Hp} {s:Shared} {a:Addr} {xs ys:YG}
theorem SqL.of {K:YD} (h:H a=some (.lst xs)):SqL K H a xs:=.inl (.inl h)
theorem SqT.of {K:YD} (h:H a=some (.tup xs)):SqT K H a xs:=.inl (.inl h)
theorem Inv.list (I:Inv X jb U H s) (h:SqL X.K H a xs):∃its:YE,Vals xs its/\PlainL s.heap a its.toArray/\xs.length<=sizeLine:=by
 rcases h with h |⟨o,its,n,hk,hc,hd,hs,hz,r⟩
 ·obtain⟨z,its,n,r,e⟩:=h.ok I.hok;exact⟨its,r,⟨_,n,e,rq,rq,rq⟩,z⟩
 ·refine⟨its.toList,r,⟨o,n,I.kIn a o hk,hc,hd,by simpa using hs⟩,?_⟩;have e:=r.length;simp only[QaJ] at e;omega
theorem Inv.tuple (I:Inv X jb U H s) (h:SqT X.K H a xs):∃its:YE,Vals xs its/\IsTup s.heap a its.toArray/\xs.length<=sizeLine:=by
 rcases h with h |⟨o,its,n,hk,hc,hs,hz,r⟩
 ·obtain⟨z,its,r,p⟩:=h.ok I.hok;exact⟨its,r,p,z⟩
 ·refine⟨its.toList,r,⟨o,I.kIn a o hk,hc,n,by simpa using hs⟩,?_⟩;have e:=r.length;simp only[QaJ] at e;omega
theorem Inv.eH (I:Inv X jb U H s) (h:SqL X.K H a xs) (h':SqL X.K H a ys):xs=ys:=by
 obtain⟨its,r,⟨o,n,e,_,_,d⟩,_⟩:=I.list h;obtain⟨its',r',⟨o',n',e',_,_,d'⟩,_⟩:=I.list h';rw[e] at e';cases e';rw[d] at d';injection d' with d1 _;have:its=its':=by simpa using congrArg Array.toList d1
 subst this;exact r.inj r'
theorem Inv.RQ (I:Inv X jb U H s) (h:SqT X.K H a xs) (h':SqT X.K H a ys):xs=ys:=by
 obtain⟨its,r,⟨o,e,_,n,d⟩,_⟩:=I.tuple h;obtain⟨its',r',⟨o',e',_,n',d'⟩,_⟩:=I.tuple h';rw[e] at e';cases e';rw[d] at d';injection d' with d1 _;have:its=its':=by simpa using congrArg Array.toList d1
 subst this;exact r.inj r'
end
abbrev Cx.wish (X:Cx) (E:YA):Cx:={ X with xe:=E }
abbrev Cx.nox (X:Cx):Cx:=X.wish λ_ _=>False
theorem Cx.Ok.wish {X:Cx} (ok:X.Ok) (E:YA):(X.wish E).Ok:=
 ⟨ok.mod,ok.kind,ok.glob,ok.blt,ok.above,ok.inj,ok.has,ok.cab,ok.hd,ok.frames,ok.stk,ok.exf,ok.bs,ok.bsz,ok.Rp,ok.PL,ok.Il,ok.frf⟩
theorem Cx.Ok.Iv {X:Cx} {E:YA} (ok:(X.wish E).Ok):X.Ok:=
 ⟨ok.mod,ok.kind,ok.glob,ok.blt,ok.above,ok.inj,ok.has,ok.cab,ok.hd,ok.frames,ok.stk,ok.exf,ok.bs,ok.bsz,ok.Rp,ok.PL,ok.Il,ok.frf⟩
section
variable {X:Cx} {jb:YC} {U : St} {H:Hp} {s:Shared} {E:YA}
theorem Inv.wish (I:Inv X jb U H s) (E:YA):Inv (X.wish E) jb U H s:=⟨I.ok.wish E,I.os,I.bare,I.base,I.loc,I.cell,I.free,I.GX,I.pin,I.hok,I.len⟩
theorem Inv.Iv (I:Inv (X.wish E) jb U H s):Inv X jb U H s:=⟨I.ok.Iv,I.os,I.bare,I.base,I.loc,I.cell,I.free,I.GX,I.pin,I.hok,I.len⟩
theorem SP.Iv {D:Ends} {f:Flow} {s':Shared} (h:SP (X.wish E) jb D f s'):SP X jb D f s':=by
 cases f with
 | next=>obtain⟨σ',H',I,q⟩:=h;exact⟨σ',H',I.Iv,q⟩
 | brk=>obtain⟨σ',H',I,q⟩:=h;exact⟨σ',H',I.Iv,q⟩
 | cont=>obtain⟨σ',H',I,q⟩:=h;exact⟨σ',H',I.Iv,q⟩
 | ret u=>obtain⟨v,σ',H',I,r,q⟩:=h;exact⟨v,σ',H',I.Iv,r,q⟩
theorem PSs.nox {st:List Stmt} {t:TS} (h:PSs X.nox st t):PSs X st t:=λjb s U H D I hw=>
 Qcz (h jb s U H D (I.wish _) hw) (λ_ _ q=>q.Iv) λ_ _ z=>False.elim z
end
section
variable {X:Cx} {st:Stmt} {rest:List Stmt} {t u:TS} {e:Expr} {te:TE} {pos:Pos}
def nC:TS:=λD U H=>D.nx U H
def Am (t u:TS):TS:=λD U H=>t { D with nx:=u D } U H
theorem BL:PSs X [] nC:=λ_ _ U H _ I h=>wpAny_execs_nil ⟨U,H,I,h⟩
theorem Af (h1:PS X st t) (h2:PSs X rest u):PSs X (st::rest) (Am t u):=by
 intro jb s U H D I h;refine wpAny_execs_cons (thn (h1 jb s U H { D with nx:=u D } I h) λf s1 q=>?_);cases f with
 | next=>
  obtain⟨σ',H',I',q⟩:=q;exact h2 jb s1 σ' H' D I' q
 | ret v=>exact q
 | brk=>exact q
 | cont=>exact q
theorem Ai (h1:PS X st t):PSs X [st] t:=by
 intro jb s U H D I h;refine wpAny_execs_cons (thn (h1 jb s U H D I h) λf s1 q=>?_);cases f with
 | next=>exact wpAny_execs_nil q
 | ret v=>exact q
 | brk=>exact q
 | cont=>exact q
theorem Inv.quiet {jb:YC} {U : St} {H:Hp} {s:Shared} (I:Inv X jb U H s):interactive X.env=false:=by simp[interactive,I.ok.kind]
def nF (te:TE):TS:=λD U H=>te U H λ_ H1=>D.nx U H1
theorem Cr (he:PE X e te) (hs:swapsWith e none pos.line X.env=pure false:=by rfl):PS X (.Expr e pos) (nF te):=by
 intro jb s U H D I h;refine wpAny_Expr_any (thn (he jb s U H _ I h) λv s1 zz=>?_) I.quiet hs;obtain⟨x,H1,I1,r1,q1⟩:=zz;exact⟨U,H1,I1,q1⟩
def pB (te:TE):TS:=λD U H=>te U H D.rt
theorem Ba (he:PE X e te):PS X (.Return (some e) pos) (pB te):=by
 intro jb s U H D I h;refine wpAny_Return_some (thn (he jb s U H _ I h) λv s1 zz=>?_);obtain⟨x,H1,I1,r1,q1⟩:=zz;exact⟨x,U,H1,I1,r1,q1⟩
def Hj (c:TT) (t u:TS):TS:=λD U H=>c U H λb H1=>if b=true then t D U H1 else u D U H1
theorem Cj {c:Expr} {a b:List Stmt} {tc:TT} (hc:PT X c tc) (ha:PSs X a t) (hb:PSs X b u):PS X (.If c a b pos) (Hj tc t u):=by
 intro jb s U H D I h;refine wpAny_If (thn (hc jb s U H _ I h) λd s1 zz=>?_);obtain⟨H1,I1,q1⟩:=zz;cases d with
 | true=>exact ha jb s1 U H1 D I1 q1
 | false=>exact hb jb s1 U H1 D I1 q1
def jN:TS:=λ_ _ _=>False
theorem U5:PS X st jN:=λ_ _ _ _ _ _ h=>h.elim
end
abbrev TG:=V->St->Hp->(YO)->Prop
abbrev TGs:=YG->St->Hp->(YO)->Prop
def PG (X:Cx) (target:Expr) (t:TG):Prop:=
 ∀(jb:YC) (s:Shared) (U : St) (H:Hp) (v:V) (u:Value) (Q:YO),Inv X jb U H s->RelV v u->t v U H Q ->
  wpAny (model X.prog X.w) X.A (assign target X.env u) (λ_ s'=>∃ σ' H',Inv X jb σ' H' s'/\Q σ' H') X.xe s
def PGs (X:Cx) (ts:YJ) (t:TGs):Prop:=
 ∀(jb:YC) (s:Shared) (U : St) (H:Hp) (vs:YG) (us:YE) (Q:YO),Inv X jb U H s->Vals vs us->t vs U H Q ->
  wpAny (model X.prog X.w) X.A (assignInOrder ((assignEach ts X.env).map (·.2)) us) (λ_ s'=>∃ σ' H',Inv X jb σ' H' s'/\Q σ' H') X.xe s
abbrev fY:=V->V->V->Hp->(Hp->Prop)->Prop
def m8 (X:Cx) (t:fY):Prop:=
 ∀(jb:YC) (s:Shared) (U : St) (H:Hp) (o i v:V) (ov iv u:Value) (Q:Hp->Prop),Inv X jb U H s->RelV o ov->RelV i iv->RelV v u->t o i v H Q ->
  wpAny (model X.prog X.w) X.A (setItem ov iv u) (λ_ s'=>∃H',Inv X jb U H' s'/\Q H') X.xe s
section
variable {X:Cx} {pos:Pos}
def FJ (i:Nat):TG:=λv U H Q=>Q (U.set i (some v)) H
theorem Ah {i:Nat} {x:Str} (hN:X.N.Nodup) (hi:X.N[i]?=some x) (hx:Loc X.env.scope x) (hf:X.fn x=true\/X.env.scope.names.lookup x=some .local:=by first | exact .inl rfl | exact .inr rfl | assumption):PG X (.Name x pos) (FJ i):=by
 intro jb s U H v u Q I r h;exact wpAny_assign_Name (Ou I hN hi hx r (λs' I'=>⟨_,H,I',h⟩) hf)
def uo:TGs:=λvs U H Q=>vs=[]/\Q U H
def gR (t:TG) (u:TGs):TGs:=λvs U H Q=>∃v r,vs=v::r/\t v U H fun σ' H'=>u r σ' H' Q
theorem Bp:PGs X [] uo:=by
 intro jb s U H vs us Q I r h;obtain⟨e,h⟩:=h;subst e;cases r;exact assignInOrder_nil ⟨U,H,I,h⟩
theorem Aj {e:Expr} {es:YJ} {t:TG} {u:TGs} (h1:PG X e t) (h2:PGs X es u)
  (hs:(assignEach (e::es) X.env).map (·.2)=assign e X.env::(assignEach es X.env).map (·.2):=by rfl):PGs X (e::es) (gR t u):=by
 intro jb s U H vs us Q I r h;obtain⟨v,vr,e1,h⟩:=h;subst e1;cases r with
 | cons r rr=>
  rw[hs];refine assignInOrder_cons (thn (h1 jb s U H _ _ _ I r h) λ_ s1 zz=>?_);obtain⟨σ1,H1,I1,q1⟩:=zz;exact h2 jb s1 σ1 H1 _ _ Q I1 rr q1
def mO (K:YD) (n:Nat) (t:TGs):TG:=λv U H Q=>∃a xs,v=.ref a/\SqT K H a xs/\xs.length=n/\t xs U H Q
theorem CN {es:YJ} {k:Nat} {t:TGs} {n:Nat} (hc:X.calm=true) (h:PGs X es t)
  (hn:(assignEach es X.env).length=n:=by rfl) (hst:(assignEach es X.env).findIdx? (·.1)=none:=by rfl):PG X (.Tuple es k pos) (mO X.K n t):=by
 intro jb s U H v u Q I r hw;obtain⟨a,xs,e1,hq,hl,hw⟩:=hw;subst e1;cases r;obtain⟨its,rv,ht,hz⟩:=I.tuple hq;refine assign_Tuple_tuple (I.ok.hd hc) ht (by simp[hn,<-hl,rv.length]) hst λh' hx=>?_;have I1:Inv X jb U H { s with heap:=h' }:=I.kept (t':=s.toks) λb o e=>hx b o (Qcl (Qck e)) e;exact h jb _ U H xs _ Q I1 (by simpa using rv) hw
def um (to ti:TE) (t:fY):TG:=λv U H Q=>to U H λo H1=>ti U H1 λi H2=>t o i v H2 λH3=>Q U H3
theorem Va {o i:Expr} {to ti:TE} {t:fY} (ho:PE X o to) (hi:PE X i ti) (hs:m8 X t)
  (ha:∀v,assign (.Subscript o i pos) X.env v=(do
   let ov <-holding [v] (eval o X.env);let iv <-holding [v,ov] (eval i X.env)
   standAt pos
   holding [v,ov,iv] (setItem ov iv v)
   release [v,ov,iv] []):=by intro _;rfl):PG X (.Subscript o i pos) (um to ti t):=by
 intro jb s U H v u Q I r h;rw[ha];refine Qcx (Qcf (thn (ho jb s U H _ I h) λov s1 zz=>?_));obtain⟨x,H1,I1,r1,q1⟩:=zz;refine Qcx (Qcf (thn (hi jb s1 U H1 _ I1 q1) λiv s2 zz=>?_));obtain⟨y,H2,I2,r2,q2⟩:=zz;refine Qcx (Qch (Qcx (Qcf (thn (hs jb s2 U H2 x y v ov iv u _ I2 r1 r2 r q2) λ_ s3 zz=>?_))));obtain⟨H3,I3,q3⟩:=zz;exact wpAny_release ⟨U,H3,I3,q3⟩
def cN (te:TE) (g:TG):TS:=λD U H=>te U H λx H1=>g x U H1 D.nx
theorem DR {tg e:Expr} {te:TE} {g:TG} (he:PE X e te) (hg:PG X tg g) (hs:swapsWithSole [tg] e pos.line X.env=pure false:=by rfl) (hw:swappedStores [tg] e X.env=pure none:=by rfl)
  (h1:(assignEach [tg] X.env).map (·.2)=[assign tg X.env]:=by rfl):PS X (.Assign [tg] e pos) (cN te g):=by
 intro jb s U H D I h;refine wpAny_Assign_stores (thn (he jb s U H _ I h) λv s1 zz=>?_) hs hw;obtain⟨x,H1,I1,r1,q1⟩:=zz;rw[h1];exact thn (hg jb s1 U H1 x v _ I1 r1 q1) λ_ s2 q=>q
theorem Az {i:Nat} {x:Str} {e:Expr} {te:TE} {pos':Pos} (hN:X.N.Nodup) (hi:X.N[i]?=some x) (hx:Loc X.env.scope x) (he:PE X e te) (hs:swapsWith e (some (.Name x pos')) pos.line X.env=pure false:=by rfl) (hf:X.fn x=true\/X.env.scope.names.lookup x=some .local:=by first | exact .inl rfl | exact .inr rfl | assumption) :
  PS X (.Assign [.Name x pos'] e pos) (cN te (FJ i)):=by
 intro jb s U H D I h;refine wpAny_Assign_Name (thn (he jb s U H _ I h) λv s1 zz=>?_) hs;obtain⟨y,H1,I1,r1,q1⟩:=zz;exact Ou I1 hN hi hx r1 (λs2 I2=>⟨_,H1,I2,q1⟩) hf
end
section
variable {X:Cx} {pos:Pos}
end
structure It where
 go:Nat->Hp->Prop
 yld:Nat->Hp->V->Hp->Prop
 stop:Nat->Hp->Prop
def Gg (X:Cx) (jb:YC) (H:Hp) (b:Addr):Prop:=
 H b=none/\b≠X.env.locals/\b∉X.fs/\(b∈X.ex\/X.s₀.heap.objs.size<=b)/\(∀x c,X.env.cells.lookup x=some c->c≠b)/\∀p∈X.pn++jb,p.1≠b
theorem Inv.Py {X:Cx} {jb:YC} {U : St} {H H':Hp} {s:Shared} {b:Addr} (I:Inv X jb U H s) (hb:s.heap.objs.size<=b) (hn:H' b=none):Gg X jb H' b:=by
 refine⟨hn,Qco (QaU I.lt hb),I.lB hb,.inr (Qcn I.sz hb),λx c e z=>?_,λp hp z=>?_⟩
 ·obtain⟨v,q⟩:=I.cell x c e;exact absurd (QaU q.lt (by rw[z];exact hb)) (Qcg _)
 ·exact absurd (QaU (Qck (I.pin p hp).1) (by rw[z];exact hb)) (Qcg _)
structure Turn (P:Program) (w:World) (K:YD) (tg:Expr) (J:It) (fp:List Addr) (it:Addr) (tn:Nat->Heap->Prop):Prop where
 mem:it∈fp
 obj:∀i h,tn i h->∀b∈fp,∃o,h.get? b=some o/\∀v,o.data≠.cell v
 keep:∀i h h',tn i h->(∀b∈fp,∀o,h.get? b=some o->h'.get? b=some o)->tn i h'
 item:∀(X:Cx),X.prog=P->X.w=w->X.K=K->X.calm=true->∀(i:Nat) (jb:YC) (s:Shared) (U : St) (H:Hp) (E:YA),Inv X jb U H s->(∀b∈fp,Gg X jb H b)->tn i s.heap->J.go i H ->
  wpAny (model P w) X.A (pyNext (.ref it)) (λr s1=>∃u,r=some u /\
   wpAny (model P w) X.A (letOwnedTupleGo tg (.ref it) u) (λ_ s2=>∃x H',Inv X jb U H' s2/\RelV x u/\J.yld i H x H'/\tn (i+1) s2.heap/\∀b∈fp,H' b=none) E s1) E s
 done:∀(X:Cx),X.prog=P->X.w=w->X.K=K->X.calm=true->∀(i:Nat) (jb:YC) (s:Shared) (U : St) (H:Hp) (E:YA),Inv X jb U H s->(∀b∈fp,Gg X jb H b)->tn i s.heap->J.stop i H ->
  wpAny (model P w) X.A (pyNext (.ref it)) (λr s1=>r=none/\Inv X jb U H s1) E s
 self:∀(A:Around) (i:Nat) (s:Shared) (Q:YA) (E:YA),tn i s.heap->Q (.ref it) s->wpAny (model P w) A (pyIter (.ref it)) Q E s
abbrev TI:=St->Hp->(It->Hp->Prop)->Prop
def PIE (X:Cx) (jb:YC) (U : St) (tg:Expr) (R:It->Hp->Prop) (itv:Value) (s2:Shared):Prop:=
 ∃(it:Addr) (fp:List Addr) (tn:Nat->Heap->Prop) (J:It) (H':Hp),itv=.ref it/\Inv X jb U H' s2/\Turn X.prog X.w X.K tg J fp it tn/\tn 0 s2.heap/\(∀b∈fp,Gg X jb H' b)/\R J H'
def PI (X:Cx) (tg iter:Expr) (wi:TI):Prop:=
 ∀(jb:YC) (s:Shared) (U : St) (H:Hp) (R:It->Hp->Prop),Inv X jb U H s->wi U H R ->
  wpAny (model X.prog X.w) X.A (eval iter X.env) (λv s1=>wpAny (model X.prog X.w) X.A (pyIter v) (PIE X jb U tg R) X.xe s1) X.xe s
theorem T7 {M:Model} {A:Around} {E:YA} {s:Shared} {tg:Expr} {it:Addr} {u:Value} {o:Obj} {n:String} {vs:Array Value} {Q:YH} (ho:s.heap.get? it=some o) (hc:o.cls=.type n) (hd:o.data=.fields vs)
    (hn:["enumerate","zip","dict_itemiterator","dict_reverseitemiterator","odict_iterator","itertools.zip_longest","itertools.pairwise"].contains n=false) (hQ:Q () s):wpAny M A (letOwnedTupleGo tg (.ref it) u) Q E s:=by
  unfold letOwnedTupleGo;cases tg <;> first
    | exact Qcy hQ
    | (cases u <;> first
        | exact Qcy hQ
        | (refine Qcx (wpAny_load ho ?_)
           rw[hc,hd];show wpAny M A (if (["enumerate","zip","dict_itemiterator","dict_reverseitemiterator","odict_iterator","itertools.zip_longest","itertools.pairwise"].contains n&&vs[0]? == some (rawInt _))=true then _ else _) Q E s
           rw[if_neg (by intro h;rw[hn,Bool.false_and] at h;cases h)];exact Qcy hQ))
def Itl (K:YD) (a:Addr):It:=
 ⟨λi H=>∃xs x,SqL K H a xs/\xs[i]?=some x,λi H x H'=>H'=H/\∀xs,SqL K H a xs->xs[i]?=some x,λi H=>∃xs,SqL K H a xs/\xs.length<=i⟩
def Itt (K:YD) (a:Addr):It:=
 ⟨λi H=>∃xs x,SqT K H a xs/\xs[i]?=some x,λi H x H'=>H'=H/\∀xs,SqT K H a xs->xs[i]?=some x,λi H=>∃xs,SqT K H a xs/\xs.length<=i⟩
def Itr (lo:Int) (n:Nat):It:=⟨λi _=>i < n,λi H x H'=>H'=H/\x=.int (lo+i),λi _=>n<=i⟩
theorem Zw {P:Program} {w:World} {K:YD} {tg:Expr} (a it:Addr):Turn P w K tg (Itl K a) [it] it (λi h=>h.IsListIter it a i) where
 mem:=by simp
 obj:=λi h st b hb=>by
  have e:b=it:=by simpa using hb
  subst e;obtain⟨o,e,c,d⟩:=st;exact⟨o,e,λv z=>by rw[d] at z;cases z⟩
 keep:=λi h h' st k=>st.at λo e=>k it (by simp) o e
 item:=by
  intro X hP hw hK hc i jb s U H E I hf st hg;subst hP hw hK;obtain⟨xs,x,hq,hx⟩:=hg;obtain⟨its,rv,p,hz⟩:=I.list hq;obtain⟨u,hu,ru⟩:=rv.get hx;obtain⟨f0,f1,f2,f3,f4,f5⟩:=hf it (by simp);refine wpAny_pyNext_list_item st p.isList (x:=u) (by simpa using hu) λh' st' sb=>?_;have I1:Inv X jb U H { s with heap:=h' }:=I.turned (t':=s.toks) (λb o hb e=>(sb.2 b hb).trans e) f0 f1 f3 f4 f5;obtain⟨o,e,c,d⟩:=id st';exact⟨u,rq,T7 (s:={ s with heap:=h' }) e c d (by decide) ⟨x,H,I1,ru,⟨rq,λys hy=>by rw[I.eH hy hq];exact hx⟩,st',λb hb=>(hf b hb).1⟩⟩
 done:=by
  intro X hP hw hK hc i jb s U H E I hf st hg;subst hP hw hK;obtain⟨xs,hq,hx⟩:=hg;obtain⟨its,rv,p,hz⟩:=I.list hq;obtain⟨f0,f1,f2,f3,f4,f5⟩:=hf it (by simp);have hl:=rv.length;exact wpAny_pyNext_list_end (I.ok.hd hc) st p.isList (by simp;omega) λh' eb=>⟨rq,I.turned (t':=s.toks) (λb o hb e=>eb b o hb e) f0 f1 f3 f4 f5⟩
 self:=λ_ _ _ _ _ st h=>wpAny_pyIter_listiter st h
theorem X4 {P:Program} {w:World} {K:YD} {tg:Expr} (a it:Addr):Turn P w K tg (Itt K a) [it] it (λi h=>h.IsTupleIter it a i) where
 mem:=by simp
 obj:=λi h st b hb=>by
  have e:b=it:=by simpa using hb
  subst e;obtain⟨o,e,c,d⟩:=st;exact⟨o,e,λv z=>by rw[d] at z;cases z⟩
 keep:=λi h h' st k=>st.at λo e=>k it (by simp) o e
 item:=by
  intro X hP hw hK hc i jb s U H E I hf st hg;subst hP hw hK;obtain⟨xs,x,hq,hx⟩:=hg;obtain⟨its,rv,p,hz⟩:=I.tuple hq;obtain⟨u,hu,ru⟩:=rv.get hx;obtain⟨f0,f1,f2,f3,f4,f5⟩:=hf it (by simp);refine wpAny_pyNext_tuple_item st (show s.heap.IsTuple a its.toArray from p) (x:=u) (by simpa using hu) λh' st' sb=>?_
  have I1:Inv X jb U H { s with heap:=h' }:=I.turned (t':=s.toks) (λb o hb e=>(sb.2 b hb).trans e) f0 f1 f3 f4 f5;obtain⟨o,e,c,d⟩:=id st';exact⟨u,rq,T7 (s:={ s with heap:=h' }) e c d (by decide) ⟨x,H,I1,ru,⟨rq,λys hy=>by rw[I.RQ hy hq];exact hx⟩,st',λb hb=>(hf b hb).1⟩⟩
 done:=by
  intro X hP hw hK hc i jb s U H E I hf st hg;subst hP hw hK;obtain⟨xs,hq,hx⟩:=hg;obtain⟨its,rv,p,hz⟩:=I.tuple hq;obtain⟨f0,f1,f2,f3,f4,f5⟩:=hf it (by simp);have hl:=rv.length;exact wpAny_pyNext_tuple_end (I.ok.hd hc) st (show s.heap.IsTuple a its.toArray from p) (by simp;omega) λh' eb=>⟨rq,I.turned (t':=s.toks) (λb o hb e=>eb b o hb e) f0 f1 f3 f4 f5⟩
 self:=λ_ _ _ _ _ st h=>wpAny_pyIter_tupleiter st h
theorem X5 {P:Program} {w:World} {K:YD} {tg:Expr} (it:Addr) (lo:Int) (n:Nat):Turn P w K tg (Itr lo n) [it] it (λi h=>IsRangeIter h it (lo+(i:Nat)*1) ((n:Int) - (i:Nat)) 1) where
 mem:=by simp
 obj:=λi h st b hb=>by
  have e:b=it:=by simpa using hb
  subst e;exact⟨_,st,λv z=>by
   have z':Data.fields _=Data.cell v:=z;cases z'⟩
 keep:=λi h h' st k=>k it (by simp) _ st
 item:=by
  intro X hP hw hK hc i jb s U H E I hf st hg;subst hP hw hK;obtain⟨f0,f1,f2,f3,f4,f5⟩:=hf it (by simp);have W:=Walks.range (prog:=X.prog) (w:=X.w) (I.ok.hd hc) it lo 1 n;refine W.item i s _ _ hg st λv h' tk hv st' kk=>?_;obtain⟨t,rfl⟩:=hv;have I1:Inv X jb U H { s with heap:=h',toks:=tk }:=I.turned (λb o hb e=>kk b o (by simpa using hb) e) f0 f1 f3 f4 f5;refine⟨_,rq,T7 (s:={ s with heap:=h',toks:=tk }) (n:="range_iterator") st' rfl rfl (by decide) ⟨.int (lo+i),H,I1,⟨t,?_⟩,⟨rq,rq⟩,st',λb hb=>(hf b hb).1⟩⟩;rw[Int.mul_one]
 done:=by
  intro X hP hw hK hc i jb s U H E I hf st hg;subst hP hw hK;obtain⟨f0,f1,f2,f3,f4,f5⟩:=hf it (by simp);exact wpAny_pyNext_range_end (I.ok.hd hc) st (by have:n<=i:=hg;omega) λh' eb=>⟨rq,I.turned (t':=s.toks) (λb o hb e=>eb b o hb e) f0 f1 f3 f4 f5⟩
 self:=λ_ _ _ _ _ st h=>wpAny_pyIter_rangeiter st h
section
variable {X:Cx} {tg:Expr}
def oG (K:YD) (tl:TE):TI:=fun U H R=>tl U H λx H1=>∃a,x=.ref a/\(∃xs,SqL K H1 a xs)/\R (Itl K a) H1
def rW (K:YD) (tl:TE):TI:=fun U H R=>tl U H λx H1=>∃a,x=.ref a/\(∃xs,SqT K H1 a xs)/\R (Itt K a) H1
theorem Ed {l:Expr} {tl:TE} (hl:PE X l tl):PI X tg l (oG X.K tl):=by
 intro jb s U H R I h;refine thn (hl jb s U H _ I h) λv s1 zz=>?_;obtain⟨x,H1,I1,r1,q1⟩:=zz;obtain⟨a,e,⟨xs,hq⟩,q⟩:=q1;subst e;cases r1;obtain⟨its,rv,p,hz⟩:=I1.list hq;refine Qbm p.isList ?_;refine⟨s1.heap.objs.size,[s1.heap.objs.size],_,_,H1,rq,I1.kept (t':=s1.toks) λb o e=>Qat _ e,Zw a _,⟨_,QaI _ rfl,rq,rq⟩,λb hb=>?_,q⟩;have e:b=s1.heap.objs.size:=by simpa using hb
 subst e;exact I1.Py (Qcr _) (I1.hok.fresh (Qcr _))
theorem CK {l:Expr} {tl:TE} (hl:PE X l tl):PI X tg l (rW X.K tl):=by
 intro jb s U H R I h;refine thn (hl jb s U H _ I h) λv s1 zz=>?_;obtain⟨x,H1,I1,r1,q1⟩:=zz;obtain⟨a,e,⟨xs,hq⟩,q⟩:=q1;subst e;cases r1;obtain⟨its,rv,p,hz⟩:=I1.tuple hq;refine QaW (show s1.heap.IsTuple a its.toArray from p) ?_
 refine⟨s1.heap.objs.size,[s1.heap.objs.size],_,_,H1,rq,I1.kept (t':=s1.toks) λb o e=>Qat _ e,X4 a _,⟨_,QaI _ rfl,rq,rq⟩,λb hb=>?_,q⟩;have e:b=s1.heap.objs.size:=by simpa using hb
 subst e;exact I1.Py (Qcr _) (I1.hok.fresh (Qcr _))
theorem dj {jb:YC} {U : St} {H:Hp} {s:Shared} {R:It->Hp->Prop} {E:YA} {lo hi:Int} {t u v:Tok} {tk:Nat} (I:Inv X jb U H s) (h1:-(2 ^ 62)<=lo) (h2:lo < 2 ^ 62) (h3:-(2 ^ 62)<=hi) (h4:hi < 2 ^ 62)
  (q:R (Itr lo (hi - lo).toNat) H):wpAny (model X.prog X.w) X.A (pyIter (.ref s.heap.objs.size)) (PIE X jb U tg R) E { s with heap:=s.heap.push { cls:=.type "range",data:=.fields #[.int lo t,.int hi u,.int 1 v] },toks:=tk }:=by
 refine wpAny_pyIter_range (IsRange.new ..) (small_one h1 h2 h3 h4) ?_;have I1:Inv X jb U H { s with heap:=s.heap.push { cls:=.type "range",data:=.fields #[.int lo t,.int hi u,.int 1 v] },toks:=tk }:=I.kept λb o e=>Qat _ e;refine⟨(s.heap.push { cls:=.type "range",data:=.fields #[.int lo t,.int hi u,.int 1 v] }).objs.size,[(s.heap.push { cls:=.type "range",data:=.fields #[.int lo t,.int hi u,.int 1 v] }).objs.size],_,_,H,rq,
  I1.kept (t':=tk) λb o e=>Qat _ e,X5 _ lo (hi - lo).toNat,?_,λb hb=>?_,q⟩
 ·have e1:lo+((0:Nat):Int)*1=lo:=by simp
  have e2:(((hi - lo).toNat:Nat):Int) - ((0:Nat):Int)=Builtin.Range.rangeSize lo hi 1:=by rw[rangeSize_one];split <;> omega
  show IsRangeIter _ _ (lo+((0:Nat):Int)*1) ((((hi - lo).toNat:Nat):Int) - ((0:Nat):Int)) 1;rw[e1,e2];exact QaI _ rfl
 ·have e:b=(s.heap.push { cls:=.type "range",data:=.fields #[.int lo t,.int hi u,.int 1 v] }).objs.size:=by simpa using hb
  subst e;exact I1.Py (Qcr _) (I1.hok.fresh (Qcr _))
def oF (ta:TA):TI:=fun U H R=>ta U H λvs H1=>∃j:Int,vs=[.int j]/\-(2 ^ 62)<=j/\j < 2 ^ 62/\R (Itr 0 j.toNat) H1
theorem Ez {a:Expr} {ta:TA} {p pos:Pos} (hg:Gl X "range") (hm:X.mg "range"=none) (ha:PA X [a] ta) (hs:starEach [a] X.env=[(false,eval a X.env)]:=by rfl):PI X tg (.Call (.Name "range" p) [a] [] pos) (oF ta):=by
 intro jb s U H R I h;refine Call_ (GK I hg hm boot_range (Qac (thn (ha pos jb s U H _ I h) λus s1 zz=>?_) hs rfl));obtain⟨vs,H1,I1,r1,q1⟩:=zz;obtain⟨j,e,q1,q2,q⟩:=q1;subst e;cases r1 with
 | cons r rr=>
  cases rr;obtain⟨t,rfl⟩:=r;exact call_range_1 (dj I1 (by omega) (by omega) q1 q2 (by simpa using q))
abbrev YN:=Nat->YO
def Dy (wi:TI) (g:TG) (tb:TS):TS:=λD U H=>wi U H λJ H1=>∃W:Nat->YN,(∃m,W 0 m U H1)/\∀i m U H,W i m U H ->
 (J.stop i H/\D.nx U H)\/(J.go i H/\∃N:YO,(∀ σ' H',N σ' H'->∃m',m' < m/\W (i+1) m' σ' H')/\∀x H',J.yld i H x H'->g x U H' fun σ2 H2=>tb { D with nx:=N,ct:=N,bk:=D.nx } σ2 H2)
def K4 (fp:List Addr) (h:Heap):YC:=fp.filterMap λb=>(h.get? b).map λo=>(b,o)
theorem Ju {fp:List Addr} {h:Heap} {b:Addr} {o:Obj} (hb:b∈fp) (e:h.get? b=some o):(b,o)∈K4 fp h:=List.mem_filterMap.mpr ⟨b,hb,by rw[e];rfl⟩
theorem Z9 {fp:List Addr} {h:Heap} {p:Addr×Obj} (hp:p∈K4 fp h):p.1∈fp/\h.get? p.1=some p.2:=by
 obtain⟨b,hb,e⟩:=List.mem_filterMap.mp hp;cases q:h.get? b with
 | none=>rw[q] at e;cases e
 | some o=>
  rw[q] at e;have e':(b,o)=p:=QbK e;subst e';exact⟨hb,q⟩
theorem Inv.pinned {jb:YC} {U : St} {H:Hp} {s:Shared} {fp:List Addr} (I:Inv X jb U H s) (hf:∀b∈fp,Gg X jb H b) (ho:∀b∈fp,∃o,s.heap.get? b=some o/\∀v,o.data≠.cell v):Inv X (jb++K4 fp s.heap) U H s:=
 I.Rh λp hp=>(QbG.mp hp).elim (λz=>I.pin p (Qax _ z)) λz=>by
  obtain⟨hb,e⟩:=Z9 z;obtain⟨f0,f1,f2,_⟩:=hf p.1 hb;obtain⟨o,e',d⟩:=ho p.1 hb;rw[e] at e';cases e';exact⟨e,f0,f1,f2,d⟩
theorem Inv.Ib {jb pl:YC} {U : St} {H:Hp} {s:Shared} (I:Inv X (jb++pl) U H s):Inv X jb U H s:=I.Rh λp hp=>I.pin p (Qax _ (QaE _ hp))
theorem Cw {iter:Expr} {body:List Stmt} {wi:TI} {g:TG} {tb:TS} {pos:Pos} (hp:PassesOwn (model X.prog X.w) X.A X.env X.xe) (hc:X.calm=true) (hi:PI X tg iter wi) (hg:PG X tg g) (hb:PSs X body tb)
  (hs:∀x,foldedSetIterable iter X.env x=pure x:=by intro _;rfl):PS X (.For tg iter body [] pos) (Dy wi g tb):=by
 intro jb s U H D I h;refine wpAny_For (thn (hi jb s U H _ I h) λv s1 h1=>thn h1 λitv s2 h2=>?_) hs;obtain⟨it,fp,tn,J,H2,e,I2,T,st2,f2,W,⟨m0,w0⟩,turn⟩:=h2;subst e;have stat:∀{H':Hp},(∀b∈fp,H' b=none)->∀b∈fp,Gg X jb H' b:=λhn b hb=>⟨hn b hb,(f2 b hb).2⟩;refine codeAny_forLoop_any (λn s'=>∃i σ' H',Inv X jb σ' H' s'/\tn i s'.heap/\(∀b∈fp,H' b=none)/\W i n σ' H') ?_ m0 ⟨0,U,H2,I2,st2,λb hb=>(f2 b hb).1,w0⟩;rintro n s3 ⟨i,σ3,H3,I3,st3,fr3,w3⟩;rcases turn i n σ3 H3 w3 with⟨stop,qn⟩|⟨go,N,hN,step⟩
 ·refine wpAny_passesOwn hp (thn (T.done X rfl rfl rfl hc i jb s3 σ3 H3 X.xe I3 (stat fr3) st3 stop) λr s4 zz=>?_);obtain⟨hr,I4⟩:=zz;subst hr;exact wpAny_execs_nil ⟨σ3,H3,I4,qn⟩
 ·refine wpAny_passesOwn hp (thn (T.item X rfl rfl rfl hc i jb s3 σ3 H3 X.xe I3 (stat fr3) st3 go) λr s4 zz=>?_);obtain⟨u,hr,h4⟩:=zz;subst hr;refine wpAny_passesOwn hp (thn h4 λ_ s5 zz=>?_);obtain⟨x,H5,I5,r5,y5,st5,fr5⟩:=zz;have I5':=I5.pinned (stat fr5) (T.obj _ _ st5);refine wpAny_passesOwn hp (thn (hg _ s5 σ3 H5 x u _ I5' r5 (step x H5 y5)) λ_ s6 zz=>?_);obtain⟨σ6,H6,I6,q6⟩:=zz;refine wpAny_passesOwn hp (thn (hb _ s6 σ6 H6 _ I6 q6) λf s7 q7=>?_);have again:∀{σ7:St} {H7:Hp},Inv X (jb++K4 fp s5.heap) σ7 H7 s7->N σ7 H7->∃m,m < n/\∃i σ' H',Inv X jb σ' H' s7/\tn i s7.heap/\(∀b∈fp,H' b=none)/\W i m σ' H':=λ{σ7 H7} I7 n7=>by
   obtain⟨m',hm,w7⟩:=hN σ7 H7 n7;refine⟨m',hm,i+1,σ7,H7,I7.Ib,T.keep _ _ _ st5 λb hb o e=>(I7.pin (b,o) (Qax _ (Qax _ (Ju hb e)))).1,λb hb=>?_,w7⟩;obtain⟨o,e,d⟩:=T.obj _ _ st5 b hb;exact (I7.pin (b,o) (Qax _ (Qax _ (Ju hb e)))).2.1
  cases f with
  | next=>obtain⟨σ7,H7,I7,n7⟩:=q7;exact again I7 n7
  | cont=>obtain⟨σ7,H7,I7,n7⟩:=q7;exact again I7 n7
  | brk=>obtain⟨σ7,H7,I7,q7⟩:=q7;exact⟨σ7,H7,I7.Ib,q7⟩
  | ret v=>obtain⟨x7,σ7,H7,I7,r7,q7⟩:=q7;exact⟨x7,σ7,H7,I7.Ib,r7,q7⟩
end
theorem Ka {K:YD} {a:Addr} {xs:YG} {g:TG} {tb:TS} {D:Ends} {U : St} {H:Hp} (Pv:YN) (h0:Pv 0 U H) (hl:∀i U H,i<=xs.length->Pv i U H->SqL K H a xs)
  (hs:∀i x U H,xs[i]?=some x->Pv i U H->g x U H fun σ2 H2=>tb { D with nx:=Pv (i+1),ct:=Pv (i+1),bk:=D.nx } σ2 H2) (hd:∀ U H,Pv xs.length U H->D.nx U H) :
  ∃W:Nat->YN,(∃m,W 0 m U H)/\∀i m U H,W i m U H ->
   ((Itl K a).stop i H/\D.nx U H)\/((Itl K a).go i H/\∃N:YO,(∀ σ' H',N σ' H'->∃m',m' < m/\W (i+1) m' σ' H')/\∀x H',(Itl K a).yld i H x H'->g x U H' fun σ2 H2=>tb { D with nx:=N,ct:=N,bk:=D.nx } σ2 H2):=by
 refine⟨λi m U H=>m=xs.length - i/\i<=xs.length/\Pv i U H,⟨xs.length,by simp,Qcs _,h0⟩,?_⟩;rintro i m U H ⟨rfl,hi,p⟩;have q:=hl i U H hi p;by_cases hlt:i < xs.length
 ·refine .inr ⟨⟨xs,xs[i],q,by simp[hlt]⟩,Pv (i+1),fun σ' H' p'=>⟨xs.length - (i+1),by omega,rq,hlt,p'⟩,λx H' y=>?_⟩;obtain⟨e,y⟩:=y;subst e;exact hs i x U _ (y xs q) p
 ·have e:i=xs.length:=by omega
  subst e;exact .inl ⟨⟨xs,q,Qcr _⟩,hd U H p⟩
theorem Ew {K:YD} {a:Addr} {xs:YG} {g:TG} {tb:TS} {D:Ends} {U : St} {H:Hp} (Pv:YN) (h0:Pv 0 U H) (hl:∀i U H,i<=xs.length->Pv i U H->SqT K H a xs)
  (hs:∀i x U H,xs[i]?=some x->Pv i U H->g x U H fun σ2 H2=>tb { D with nx:=Pv (i+1),ct:=Pv (i+1),bk:=D.nx } σ2 H2) (hd:∀ U H,Pv xs.length U H->D.nx U H) :
  ∃W:Nat->YN,(∃m,W 0 m U H)/\∀i m U H,W i m U H ->
   ((Itt K a).stop i H/\D.nx U H)\/((Itt K a).go i H/\∃N:YO,(∀ σ' H',N σ' H'->∃m',m' < m/\W (i+1) m' σ' H')/\∀x H',(Itt K a).yld i H x H'->g x U H' fun σ2 H2=>tb { D with nx:=N,ct:=N,bk:=D.nx } σ2 H2):=by
 refine⟨λi m U H=>m=xs.length - i/\i<=xs.length/\Pv i U H,⟨xs.length,by simp,Qcs _,h0⟩,?_⟩;rintro i m U H ⟨rfl,hi,p⟩;have q:=hl i U H hi p;by_cases hlt:i < xs.length
 ·refine .inr ⟨⟨xs,xs[i],q,by simp[hlt]⟩,Pv (i+1),fun σ' H' p'=>⟨xs.length - (i+1),by omega,rq,hlt,p'⟩,λx H' y=>?_⟩;obtain⟨e,y⟩:=y;subst e;exact hs i x U _ (y xs q) p
 ·have e:i=xs.length:=by omega
  subst e;exact .inl ⟨⟨xs,q,Qcr _⟩,hd U H p⟩
theorem Jh {lo:Int} {n:Nat} {g:TG} {tb:TS} {D:Ends} {U : St} {H:Hp} (Pv:YN) (h0:Pv 0 U H)
  (hs:∀i U H,i < n->Pv i U H->g (.int (lo+i)) U H fun σ2 H2=>tb { D with nx:=Pv (i+1),ct:=Pv (i+1),bk:=D.nx } σ2 H2) (hd:∀ U H,Pv n U H->D.nx U H) :
  ∃W:Nat->YN,(∃m,W 0 m U H)/\∀i m U H,W i m U H ->
   ((Itr lo n).stop i H/\D.nx U H)\/((Itr lo n).go i H/\∃N:YO,(∀ σ' H',N σ' H'->∃m',m' < m/\W (i+1) m' σ' H')/\∀x H',(Itr lo n).yld i H x H'->g x U H' fun σ2 H2=>tb { D with nx:=N,ct:=N,bk:=D.nx } σ2 H2):=by
 refine⟨λi m U H=>m=n - i/\i<=n/\Pv i U H,⟨n,by simp,Qcs _,h0⟩,?_⟩;rintro i m U H ⟨rfl,hi,p⟩;by_cases hlt:i < n
 ·refine .inr ⟨hlt,Pv (i+1),fun σ' H' p'=>⟨n - (i+1),by omega,rq,hlt,p'⟩,λx H' y=>?_⟩;obtain⟨e,y⟩:=y;subst e y;exact hs i U _ hlt p
 ·have e:i=n:=by omega
  subst e;exact .inl ⟨Qcr _,hd U H p⟩
abbrev R2:=V->V->Hp->VK->Prop
def OpR (X:Cx) (f:Value->Value->Sem Value) (r:R2):Prop:=
 ∀(jb:YC) (s:Shared) (U : St) (H:Hp) (x y:V) (v u:Value) (Q:VK),Inv X jb U H s->RelV x v->RelV y u->r x y H Q ->
  wpAny (model X.prog X.w) X.A (f v u) (EP X jb U Q) X.xe s
def UnR (X:Cx) (f:Value->Sem Value) (r:V->Hp->VK->Prop):Prop:=
 ∀(jb:YC) (s:Shared) (U : St) (H:Hp) (x:V) (v:Value) (Q:VK),Inv X jb U H s->RelV x v->r x H Q ->
  wpAny (model X.prog X.w) X.A (f v) (EP X jb U Q) X.xe s
def Ds (X:Cx) (f:Value) (r:YG->Hp->VK->Prop):Prop:=
 ∀(jb:YC) (s:Shared) (U : St) (H:Hp) (xs:YG) (us:YE) (Q:VK),Inv X jb U H s->Vals xs us->r xs H Q ->
  wpAny (model X.prog X.w) X.A (call f us) (EP X jb U Q) X.xe s
def wu (X:Cx) (r:V->Hp->(Bool->Hp->Prop)->Prop):Prop:=
 ∀(jb:YC) (s:Shared) (U : St) (H:Hp) (x:V) (v:Value) (Q:Bool->Hp->Prop),Inv X jb U H s->RelV x v->r x H Q ->
  wpAny (model X.prog X.w) X.A (truthy v) (TP X jb U Q) X.xe s
def tOp (r:R2) (ta tb:TE):TE:=fun U H Q=>ta U H λx H1=>tb U H1 λy H2=>r x y H2 Q
def tUn (r:V->Hp->VK->Prop) (ta:TE):TE:=fun U H Q=>ta U H λx H1=>r x H1 Q
def rI (C:Int->Int->Prop) (g:Int->Int->V):R2:=λx y H Q=>∃i j,x=.int i/\y=.int j/\C i j/\Q (g i j) H
def rI0 (g:Int->Int->V):R2:=λx y H Q=>∃i j,x=.int i/\y=.int j/\Q (g i j) H
def rU (g:Int->V):V->Hp->VK->Prop:=λx H Q=>∃i,x=.int i/\Q (g i) H
section
variable {X:Cx} {a b c:Expr} {ta tb tc:TE} {pos:Pos}
theorem fV (ha:PE X a ta) (hb:PE X b tb) {jb:YC} {s:Shared} {U : St} {H:Hp} {R:V->V->Hp->Prop} (I:Inv X jb U H s)
  (h:ta U H λx H1=>tb U H1 λy H2=>R x y H2) {Q:YA} {f:Value->Value->Sem Value}
  (hf:∀v u s2 x y H2,Inv X jb U H2 s2->RelV x v->RelV y u->R x y H2->wpAny (model X.prog X.w) X.A (f v u) Q X.xe s2) :
  wpAny (model X.prog X.w) X.A (eval a X.env) (λv s₁=>wpAny (model X.prog X.w) X.A (eval b X.env) (λu s₂=>wpAny (model X.prog X.w) X.A (f v u) Q X.xe s₂) X.xe s₁) X.xe s:=by
 refine thn (ha jb s U H _ I h) λv s1 zz=>?_;obtain⟨x,H1,I1,r1,q1⟩:=zz;refine thn (hb jb s1 U H1 _ I1 q1) λu s2 zz=>?_;obtain⟨y,H2,I2,r2,q2⟩:=zz;exact hf v u s2 x y H2 I2 r1 r2 q2
theorem Av {op:Operator} {r:R2} (ho:OpR X (binaryOp op) r) (ha:PE X a ta) (hb:PE X b tb):PE X (.BinOp a op b pos) (tOp r ta tb):=by
 intro jb s U H Q I h;exact wpAny_BinOp (fV ha hb I h λv u s2 x y H2 I2 rx ry q=>ho jb s2 U H2 x y v u Q I2 rx ry q)
theorem T4 {op:UnaryOp} {r:V->Hp->VK->Prop} (ho:UnR X (unaryOp op) r) (ha:PE X a ta):PE X (.UnaryOp op a pos) (tUn r ta):=by
 intro jb s U H Q I h;refine UnaryOp_ (thn (ha jb s U H _ I h) λv s1 zz=>?_);obtain⟨x,H1,I1,r1,q1⟩:=zz;exact ho jb s1 U H1 x v Q I1 r1 q1
theorem opI {f:Value->Value->Sem Value} {C:Int->Int->Prop} {g:Int->Int->Int}
  (rule:∀(i j:Int) (t u:Tok) (s:Shared) (Q:YA) (E:YA),C i j->Q (.int (g i j) s.toks) { s with toks:=s.toks+1 }->wpAny (model X.prog X.w) X.A (f (.int i t) (.int j u)) Q E s) :
  OpR X f (rI C λi j=>.int (g i j)):=by
 intro jb s U H x y v u Q I rx ry h;obtain⟨i,j,rfl,rfl,hc,q⟩:=h;obtain⟨t,rfl⟩:=rx;obtain⟨t',rfl⟩:=ry;exact rule i j t t' s _ _ hc ⟨.int (g i j),H,I.tok _,⟨_,rq⟩,q⟩
theorem kO {f:Value->Value->Sem Value} {g:Int->Int->Int}
  (rule:∀(i j:Int) (t u:Tok) (s:Shared) (Q:YA) (E:YA),Q (.int (g i j) s.toks) { s with toks:=s.toks+1 }->wpAny (model X.prog X.w) X.A (f (.int i t) (.int j u)) Q E s) :
  OpR X f (rI0 λi j=>.int (g i j)):=by
 intro jb s U H x y v u Q I rx ry h;obtain⟨i,j,rfl,rfl,q⟩:=h;obtain⟨t,rfl⟩:=rx;obtain⟨t',rfl⟩:=ry;exact rule i j t t' s _ _ ⟨.int (g i j),H,I.tok _,⟨_,rq⟩,q⟩
theorem Yu {f:Value->Value->Sem Value} {g:Int->Int->Bool}
  (rule:∀(i j:Int) (t u:Tok) (s:Shared) (Q:YA) (E:YA),Q (.bool (g i j)) s->wpAny (model X.prog X.w) X.A (f (.int i t) (.int j u)) Q E s) :
  OpR X f (rI0 λi j=>.bl (g i j)):=by
 intro jb s U H x y v u Q I rx ry h;obtain⟨i,j,rfl,rfl,q⟩:=h;obtain⟨t,rfl⟩:=rx;obtain⟨t',rfl⟩:=ry;exact rule i j t t' s _ _ ⟨.bl (g i j),H,I,rq,q⟩
def wB (i j:Int):Prop:=0 < j/\j < 1073741824
def wA (i j:Int):Prop:=0<=j/\j<=1000000/\i.natAbs < 2 ^ 64
def Zm (i j:Int):Prop:=(-(2 ^ 64) < i/\i < 2 ^ 64)\/(-(2 ^ 64) < j/\j < 2 ^ 64)
theorem Zm.ok {i j:Int} (h:Zm i j):IntMulOk i j:=by
 rcases h with⟨h1,h2⟩|⟨h1,h2⟩
 ·exact .of_left (intBits_le_64 h1 h2)
 ·exact .of_right (intBits_le_64 h1 h2)
theorem Cz:OpR X (binaryOp .Add) (rI0 λi j=>.int (i+j)):=kO λ_ _ _ _ _ _ _ q=>add_int q
theorem kj:OpR X (binaryOp .Sub) (rI0 λi j=>.int (i - j)):=kO λ_ _ _ _ _ _ _ q=>sub_int q
theorem FZ:OpR X (binaryOp .Mult) (rI Zm λi j=>.int (i*j)):=opI λ_ _ _ _ _ _ _ hc q=>mul_int q hc.ok
theorem Ri:OpR X (binaryOp .FloorDiv) (rI wB λi j=>.int (i / j)):=opI λi j _ _ _ _ _ hc q=>by
 have h1:(0:Int) < j:=hc.1;have h2:j < 1073741824:=hc.2;exact floordiv_int (by omega) (by rw[Int.fdiv_eq_ediv_of_nonneg i (by omega)];exact q) (.inl (PyProof.noPylong_small (by omega)))
theorem Jf:OpR X (binaryOp .Mod) (rI (λ_ j=>0 < j) λi j=>.int (i % j)):=opI λi j _ _ _ _ _ hc q=>by
 have h1:(0:Int) < j:=hc;exact mod_int' (by omega) (by rw[Int.fmod_eq_emod_of_nonneg i (by omega)];exact q)
theorem Z5:OpR X (binaryOp .Pow) (rI wA λi j=>.int (i ^ j.toNat)):=opI λ_ _ _ _ _ _ _ hc q=>pow_int_small hc.1 hc.2.1 hc.2.2 q
theorem unI {f:Value->Sem Value} {g:Int->Int}
  (rule:∀(i:Int) (t:Tok) (s:Shared) (Q:YA) (E:YA),Q (.int (g i) s.toks) { s with toks:=s.toks+1 }->wpAny (model X.prog X.w) X.A (f (.int i t)) Q E s) :
  UnR X f (rU λi=>.int (g i)):=by
 intro jb s U H x v Q I rx h;obtain⟨i,rfl,q⟩:=h;obtain⟨t,rfl⟩:=rx;exact rule i t s _ _ ⟨.int (g i),H,I.tok _,⟨_,rq⟩,q⟩
theorem Qj:UnR X (unaryOp .USub) (rU λi=>.int (-i)):=unI λ_ _ _ _ _ q=>neg_int q
end
def jV:V->V->Bool
 | .non,.non=>true | .non,.int _=>true | .int _,.non=>true | .non,.bl _=>true | .bl _,.non=>true | .non,.str _=>true | .str _,.non=>true
 | .int _,.int _=>true | .bl _,.bl _=>true | .str _,.str _=>true | .byt _,.byt _=>true
 | .int _,.str _=>true | .str _,.int _=>true | .bl _,.str _=>true | .str _,.bl _=>true
 | _,_=>false
def rEq:R2:=λx y H Q=>jV x y=true/\Q (.bl (decide (x=y))) H
def rNe:R2:=λx y H Q=>jV x y=true/\Q (.bl (!decide (x=y))) H
theorem XC {i j:Int}:decide (V.int i=V.int j)=(i == j):=by
 rw[QbP];simp
theorem bD {i j:Bool}:decide (V.bl i=V.bl j)=(i == j):=by
 rw[QbP];simp
theorem Xz {i j:Str}:decide (V.str i=V.str j)=(i == j):=by
 rw[QbP];simp
theorem XD {i j:Array UInt8}:decide (V.byt i=V.byt j)=(i.toList == j.toList):=by
 rw[QbP];cases i;cases j;simp
section
variable {X:Cx} {a b c:Expr} {ta tb tc:TE} {pos:Pos}
theorem Bt {jb:YC} {U : St} {H:Hp} {s:Shared} {Q:VK} {k k':Bool} (I:Inv X jb U H s) (q:Q (.bl k) H) (e:k=k'):EP X jb U Q (.bool k') s:=by
 subst e;exact⟨.bl k,H,I,rq,q⟩
theorem Gm:OpR X (compareOp .Eq) rEq:=by
 intro jb s U H x y v u Q I rx ry h;obtain⟨hs,q⟩:=h;cases x with
 | non=>
  cases rx;cases y with
  | non=>cases ry;exact PySem.EqNone.eq_none_none (Bt I q (by simp))
  | bl j=>cases ry;exact PySem.EqNone.eq_none_bool (Bt I q (by simp))
  | int j=>obtain⟨t',rfl⟩:=ry;exact PySem.EqNone.eq_none_int (Bt I q (by simp))
  | str j=>obtain⟨t',rfl⟩:=ry;exact PySem.EqNone.eq_none_str (Bt I q (by simp))
  | _=>exact absurd (show false=true from hs) QaS
 | bl i=>
  cases rx;cases y with
  | non=>cases ry;exact PySem.EqNone.eq_bool_none (Bt I q (by simp))
  | bl j=>cases ry;exact eq_bool (Bt I q bD)
  | str j=>obtain⟨t',rfl⟩:=ry;exact PySem.EqMixed.eq_bool_str (Bt I q (by simp))
  | _=>exact absurd (show false=true from hs) QaS
 | int i=>
  obtain⟨t,rfl⟩:=rx;cases y with
  | non=>cases ry;exact PySem.EqNone.eq_int_none (Bt I q (by simp))
  | int j=>obtain⟨t',rfl⟩:=ry;exact eq_int (Bt I q XC)
  | str j=>obtain⟨t',rfl⟩:=ry;exact PySem.EqMixed.eq_int_str (Bt I q (by simp))
  | _=>exact absurd (show false=true from hs) QaS
 | str i=>
  obtain⟨t,rfl⟩:=rx;cases y with
  | non=>cases ry;exact PySem.EqNone.eq_str_none (Bt I q (by simp))
  | bl j=>cases ry;exact PySem.EqMixed.eq_str_bool (Bt I q (by simp))
  | int j=>obtain⟨t',rfl⟩:=ry;exact PySem.EqMixed.eq_str_int (Bt I q (by simp))
  | str j=>obtain⟨t',rfl⟩:=ry;exact eq_str (Bt I q Xz)
  | _=>exact absurd (show false=true from hs) QaS
 | byt i=>
  obtain⟨t,rfl⟩:=rx;cases y with
  | byt j=>obtain⟨t',rfl⟩:=ry;exact PySem.W.eq_bytes (Bt I q XD)
  | _=>exact absurd (show false=true from hs) QaS
 | _=>cases y <;> exact absurd (show false=true from hs) QaS
theorem Qw:OpR X (compareOp .NotEq) rNe:=by
 intro jb s U H x y v u Q I rx ry h;obtain⟨hs,q⟩:=h;cases x with
 | non=>
  cases rx;cases y with
  | non=>cases ry;exact PySem.EqNone.ne_none_none (Bt I q (by simp))
  | bl j=>cases ry;exact PySem.EqNone.ne_none_bool (Bt I q (by simp))
  | int j=>obtain⟨t',rfl⟩:=ry;exact PySem.EqNone.ne_none_int (Bt I q (by simp))
  | str j=>obtain⟨t',rfl⟩:=ry;exact PySem.EqNone.ne_none_str (Bt I q (by simp))
  | _=>exact absurd (show false=true from hs) QaS
 | bl i=>
  cases rx;cases y with
  | non=>cases ry;exact PySem.EqNone.ne_bool_none (Bt I q (by simp))
  | bl j=>cases ry;exact ne_bool (Bt I q (congrArg not bD))
  | str j=>obtain⟨t',rfl⟩:=ry;exact PySem.EqMixed.ne_bool_str (Bt I q (by simp))
  | _=>exact absurd (show false=true from hs) QaS
 | int i=>
  obtain⟨t,rfl⟩:=rx;cases y with
  | non=>cases ry;exact PySem.EqNone.ne_int_none (Bt I q (by simp))
  | int j=>obtain⟨t',rfl⟩:=ry;exact ne_int (Bt I q (congrArg not XC))
  | str j=>obtain⟨t',rfl⟩:=ry;exact PySem.EqMixed.ne_int_str (Bt I q (by simp))
  | _=>exact absurd (show false=true from hs) QaS
 | str i=>
  obtain⟨t,rfl⟩:=rx;cases y with
  | non=>cases ry;exact PySem.EqNone.ne_str_none (Bt I q (by simp))
  | bl j=>cases ry;exact PySem.EqMixed.ne_str_bool (Bt I q (by simp))
  | int j=>obtain⟨t',rfl⟩:=ry;exact PySem.EqMixed.ne_str_int (Bt I q (by simp))
  | str j=>obtain⟨t',rfl⟩:=ry;exact ne_str (Bt I q (congrArg not Xz))
  | _=>exact absurd (show false=true from hs) QaS
 | byt i=>
  obtain⟨t,rfl⟩:=rx;cases y with
  | byt j=>obtain⟨t',rfl⟩:=ry;exact PySem.W.ne_bytes (Bt I q (congrArg not XD))
  | _=>exact absurd (show false=true from hs) QaS
 | _=>cases y <;> exact absurd (show false=true from hs) QaS
theorem Yr:OpR X (compareOp .Lt) (rI0 λi j=>.bl (decide (i < j))):=Yu λ_ _ _ _ _ _ _ q=>lt_int q
theorem Ir:OpR X (compareOp .LtE) (rI0 λi j=>.bl (decide (i<=j))):=Yu λ_ _ _ _ _ _ _ q=>le_int q
theorem Yt:OpR X (compareOp .Gt) (rI0 λi j=>.bl (decide (j < i))):=Yu λ_ _ _ _ _ _ _ q=>gt_int q
theorem nW:OpR X (compareOp .GtE) (rI0 λi j=>.bl (decide (j<=i))):=Yu λ_ _ _ _ _ _ _ q=>ge_int q
theorem Sh:OpR X (compareOp .In) (λx y H Q=>∃i j,x=.str i/\y=.str j/\Q (.bl (!(Builtin.Str.occurrences j i 0 j.length 1).isEmpty)) H):=by
 intro jb s U H x y v u Q I rx ry h;obtain⟨i,j,rfl,rfl,q⟩:=h;obtain⟨t,rfl⟩:=rx;obtain⟨t',rfl⟩:=ry;exact in_str (Bt I q rfl)
theorem Cd (b:Expr) {op:CmpOp} (h:op≠.In:=by decide) (h2:op≠.NotIn:=by decide):behindInMarks op b=false:=by
 have e1:(op == CmpOp.In)=false:=by cases op <;> first | rfl | exact absurd rfl h
 have e2:(op == CmpOp.NotIn)=false:=by cases op <;> first | rfl | exact absurd rfl h2
 cases b <;> simp[behindInMarks,e1,e2]
theorem Fv {op:CmpOp} {r:R2} (ho:OpR X (compareOp op) r) (ha:PE X a ta) (hb:PE X b tb) (hm:behindInMarks op b=false):PE X (.Compare a [op] [b] pos) (tOp r ta tb):=by
 intro jb s U H Q I h;exact wpAny_Compare1 (fV ha hb I h λv u s2 x y H2 I2 rx ry q=>ho jb s2 U H2 x y v u Q I2 rx ry q) hm
def gG (t:TE):TT:=fun U H Q=>t U H λx H'=>∃k,x=.bl k/\Q k H'
theorem BX {op:CmpOp} {r:R2} (ho:OpR X (compareOp op) r) (ha:PE X a ta) (hb:PE X b tb) (hm:behindInMarks op b=false):PT X (.Compare a [op] [b] pos) (gG (tOp r ta tb)):=by
 intro jb s U H Q I h;refine wpAny_isTrue_Compare1 (thn (ha jb s U H _ I h) λv s1 ⟨x,H1,I1,r1,q1⟩=>thn (hb jb s1 U H1 _ I1 q1) λu s2 ⟨y,H2,I2,r2,q2⟩=>
  thn (ho jb s2 U H2 x y v u _ I2 r1 r2 q2) λc s3 ⟨z,H3,I3,r3,k,e,q3⟩=>?_) hm
 subst e;cases r3;exact Qbh ⟨H3,I3,q3⟩
def Zy (r r':R2) (ta tb tc:TE):TE:=fun U H Q=>ta U H λx H1=>tb U H1 λy H2=>r x y H2 λz H3=>∃k,z=.bl k /\
 (if k=true then tc U H3 λw' H4=>r' y w' H4 Q else Q (.bl false) H3)
theorem Lj {op op':CmpOp} {r r':R2} (ho:OpR X (compareOp op) r) (ho':OpR X (compareOp op') r') (ha:PE X a ta) (hb:PE X b tb) (hc:PE X c tc)
  (hm:lastMarks [op,op'] [b,c]=false:=by with_unfolding_all rfl):PE X (.Compare a [op,op'] [b,c] pos) (Zy r r' ta tb tc):=by
 intro jb s U H Q I h;refine Compare_chain (thn (ha jb s U H _ I h) λv s1 ⟨x,H1,I1,r1,q1⟩=>chain_link (thn (hb jb s1 U H1 _ I1 q1) λu s2 ⟨y,H2,I2,r2,q2⟩=>
  thn (ho jb s2 U H2 x y v u _ I2 r1 r2 q2) λd s3 ⟨z,H3,I3,r3,k,e,q3⟩=>?_)) hm
 subst e;cases r3;refine Qbh ?_;cases k with
 | false=>exact ite_ff ⟨.bl false,H3,I3,rfl,q3⟩
 | true=>exact ite_tt (chain_last (thn (hc jb s3 U H3 _ I3 q3) λw' s4 ⟨z',H4,I4,r4,q4⟩=>ho' jb s4 U H4 y z' u w' Q I4 r2 r4 q4))
theorem dz {op op':CmpOp} {r r':R2} (ho:OpR X (compareOp op) r) (ho':OpR X (compareOp op') r') (ha:PE X a ta) (hb:PE X b tb) (hc:PE X c tc)
  (hm:lastMarks [op,op'] [b,c]=false:=by with_unfolding_all rfl):PT X (.Compare a [op,op'] [b,c] pos) (gG (Zy r r' ta tb tc)):=by
 intro jb s U H Q I h;refine isTrue_chain (thn (ha jb s U H _ I h) λv s1 ⟨x,H1,I1,r1,q1⟩=>test_link (thn (hb jb s1 U H1 _ I1 q1) λu s2 ⟨y,H2,I2,r2,q2⟩=>
  thn (ho jb s2 U H2 x y v u _ I2 r1 r2 q2) λd s3 ⟨z,H3,I3,r3,k,e,q3⟩=>?_)) hm
 subst e;cases r3;refine Qbh ?_;cases k with
 | false=>
  obtain⟨k',e',q'⟩:=q3;cases e';exact ite_ff ⟨H3,I3,q'⟩
 | true=>
  refine ite_tt (test_last (thn (hc jb s3 U H3 _ I3 q3) λw' s4 zz=>?_));obtain⟨z',H4,I4,r4,q4⟩:=zz;refine thn (ho' jb s4 U H4 y z' u w' _ I4 r2 r4 q4) λd' s5 zz=>?_;obtain⟨z2,H5,I5,r5,k2,e2,q5⟩:=zz;subst e2;cases r5;exact Qbh ⟨H5,I5,q5⟩
def m6 (K:YD) (x:V) (H:Hp) (k:Bool):Prop:=
 match x with
 | .non=>k=false
 | .bl b=>k=b
 | .int i=>k=(i != 0)
 | .str y=>y.length<=sizeLine/\k=((y.length:Int) != 0)
 | .byt y=>y.size<=sizeLine/\k=((y.size:Int) != 0)
 | .ref p=>(∃xs,SqL K H p xs/\k=!xs.isEmpty)\/(∃xs,SqT K H p xs/\k=!xs.isEmpty)\/∃kvs,H p=some (.dK kvs)/\k=!kvs.isEmpty
 | _=>False
theorem YZ {κ : Type} {kvs:List (κ×V)} {vs:List (κ×Value)} (r:KV kvs vs):(!vs.isEmpty)=!kvs.isEmpty:=by
 cases r <;> rfl
theorem Qy {xs:YG} {its:YE} (r:Vals xs its):(!its.toArray.isEmpty)=!xs.isEmpty:=by
 cases r <;> simp
theorem JX:(sizeLine:Nat) < 2 ^ 63:=by rw[Qcv];decide
theorem jK:wu X (λx H Q=>∃k,m6 X.K x H k/\Q k H):=by
 intro jb s U H x v Q I rx h;obtain⟨k,e,q⟩:=h;have hl:=JX;have hs:sizeLine=16777216:=Qcv;cases x with
 | non=>
  cases rx;have e':k=false:=e;subst e';exact truthy_none ⟨H,I,q⟩
 | bl b=>
  cases rx;have e':k=b:=e;subst e';exact Qbh ⟨H,I,q⟩
 | int i=>
  obtain⟨t,rfl⟩:=rx;have e':k=(i != 0):=e;subst e';exact PySem.P.truthy_int ⟨H,I,q⟩
 | str y=>
  obtain⟨t,rfl⟩:=rx;obtain⟨hy,e'⟩ : y.length<=sizeLine/\k=((y.length:Int) != 0):=e;subst e';exact PySem.P.truthy_str (by omega) ⟨H,I.tok _,q⟩
 | byt y=>
  obtain⟨t,rfl⟩:=rx;obtain⟨hy,e'⟩ : y.size<=sizeLine/\k=((y.size:Int) != 0):=e;subst e';exact PySem.W.truthy_bytes (by omega) ⟨H,I.tok _,q⟩
 | ref p=>
  cases rx;have e':(∃xs,SqL X.K H p xs/\k=!xs.isEmpty)\/(∃xs,SqT X.K H p xs/\k=!xs.isEmpty)\/∃kvs,H p=some (.dK kvs)/\k=!kvs.isEmpty:=e;rcases e' with⟨xs,hx,e'⟩|⟨xs,hx,e'⟩|⟨kvs,hx,e'⟩
  ·subst e';obtain⟨its,r,pl,hz⟩:=I.list hx;have hlen:=r.length;exact wpAny_truthy_list pl.isList (by simp only[Qbc];omega) ⟨H,I.tok _,by rw[Qy r];exact q⟩
  ·subst e';obtain⟨its,r,pl,hz⟩:=I.tuple hx;have hlen:=r.length;exact truthy_tuple pl (by simp only[Qbc];omega) ⟨H,I.tok _,by rw[Qy r];exact q⟩
  ·subst e';obtain⟨hz,hS,vs,r,m⟩ : kvs.length<=sizeLine/\(p == sysModules)=false/\∃vs,KV kvs vs/\s.heap.DictOf (Gn X.prog X.w) p vs:=I.hok p _ hx;have hlen:kvs.length=vs.length:=Qcd r;exact wpAny_truthy_dict hS m (by omega) ⟨H,I.tok _,by rw[YZ r];exact q⟩
 | _=>exact (show False from e).elim
theorem O7 (ha:PE X a ta) (he:∀whole,isTrue a X.env whole=(do let v <-whole;standAt a.pos;holding [v] (truthy v))) :
  PT X a (fun U H Q=>ta U H λx H'=>∃k,m6 X.K x H' k/\Q k H'):=by
 intro jb s U H Q I h;refine isTrue_plain (thn (ha jb s U H _ I h) λv s1 zz=>?_) (he _);obtain⟨x,H1,I1,r1,q1⟩:=zz;exact jK jb s1 U H1 x v Q I1 r1 q1
theorem Bu:OpR X (binaryOp .Add) (λx y H Q=>∃i j,x=.str i/\y=.str j/\i.length+j.length<=sizeLine/\Q (.str (i++j)) H):=by
 intro jb s U H x y v u Q I rx ry h;obtain⟨i,j,rfl,rfl,hz,q⟩:=h;obtain⟨t,rfl⟩:=rx;obtain⟨t',rfl⟩:=ry;exact add_str (λt' tk=>⟨.str (i++j),H,I.tok _,⟨_,rq⟩,q⟩) hz
theorem vals1 {x:V} {us:YE} (r:Vals [x] us):∃u,us=[u]/\RelV x u:=by
 cases r with
 | cons r1 r2=>cases r2;exact⟨_,rfl,r1⟩
theorem vals2 {x y:V} {us:YE} (r:Vals [x,y] us):∃u w',us=[u,w']/\RelV x u/\RelV y w':=by
 cases r with
 | cons r1 r2=>
  cases r2 with
  | cons r3 r4=>cases r4;exact⟨_,_,rfl,r1,r3⟩
theorem V9:Ds X (.builtin "abs") (λxs H Q=>∃i,xs=[.int i]/\Q (.int (if i < 0 then -i else i)) H):=by
 intro jb s U H xs us Q I r h;obtain⟨i,rfl,q⟩:=h;obtain⟨u,rfl,t,rfl⟩:=vals1 r;exact call_abs_int λu tk=>⟨.int (if i < 0 then -i else i),H,I.tok _,⟨_,rq⟩,q⟩
theorem bJ (hc:X.calm=true):Ds X (.builtin "max") (λxs H Q=>∃i j,xs=[.int i,.int j]/\Q (.int (if j > i then j else i)) H):=by
 intro jb s U H xs us Q I r h;obtain⟨i,j,rfl,q⟩:=h;obtain⟨u,w',rfl,⟨t,rfl⟩,⟨t',rfl⟩⟩:=vals2 r;refine max_two_ints (I.ok.hd hc) λh' tk k=>⟨_,H,I.kept k,?_,q⟩;by_cases hj:j > i
 ·rw[if_pos hj,if_pos hj];exact⟨_,rq⟩
 ·rw[if_neg hj,if_neg hj];exact⟨_,rq⟩
theorem S7 (hc:X.calm=true):Ds X (.builtin "min") (λxs H Q=>∃i j,xs=[.int i,.int j]/\Q (.int (if j < i then j else i)) H):=by
 intro jb s U H xs us Q I r h;obtain⟨i,j,rfl,q⟩:=h;obtain⟨u,w',rfl,⟨t,rfl⟩,⟨t',rfl⟩⟩:=vals2 r;refine min_two_ints (I.ok.hd hc) λh' tk k=>⟨_,H,I.kept k,?_,q⟩;by_cases hj:j < i
 ·rw[if_pos hj,if_pos hj];exact⟨_,rq⟩
 ·rw[if_neg hj,if_neg hj];exact⟨_,rq⟩
theorem bM:Ds X (.type "int") (λxs H Q=>(∃i,xs=[.int i]/\Q (.int i) H)\/∃k,xs=[.bl k]/\Q (.int (if k then 1 else 0)) H):=by
 intro jb s U H xs us Q I r h;rcases h with⟨i,rfl,q⟩|⟨k,rfl,q⟩
 ·obtain⟨u,rfl,t,rfl⟩:=vals1 r;exact call_int_int ⟨.int i,H,I,⟨_,rq⟩,q⟩
 ·obtain⟨u,rfl,r1⟩:=vals1 r;cases r1;exact call_int_bool ⟨.int (if k then 1 else 0),H,I.tok _,⟨_,rq⟩,q⟩
theorem Gd:Ds X (.type "str") (λxs H Q=>∃i,xs=[.int i]/\i.natAbs.log2 < 1920/\Q (.str (toString i)) H):=by
 intro jb s U H xs us Q I r h;obtain⟨i,rfl,hz,q⟩:=h;obtain⟨u,rfl,t,rfl⟩:=vals1 r;exact PySem.P.str_of_int hz ⟨.str _,H,I.tok _,⟨_,rq⟩,q⟩
end
structure fZ (h:Heap) (x dx C:Addr) (mA:YB):Prop where
 obj:h.get? x=some (instObj C dx)
 ns:h.Ns1 dx mA
 ne:dx≠x
theorem au {h:Heap} {dx:Addr} {mA:YB} (n:h.Ns1 dx mA):∃od,h.get? dx=some od/\∀name,PySem.W.lookIn name od=some (mA name):=by
 obtain⟨o,es,ep,ho,hd,hk,_,hm⟩:=n;refine⟨o,ho,λname=>?_⟩;have e:=hm name;unfold nsFind findBy at e;rw[<-Array.find?_toList] at e;unfold PySem.W.lookIn;rw[hd];dsimp only;split
 ·rename_i y q;rw[q] at e;exact congrArg some e
 ·rename_i q;rw[q] at e;have a:es.toList.any (·.refKey)=false:=by
   rw[List.any_eq_false];intro y hy;obtain⟨z,t,hkey⟩:=hk y (Array.mem_toList_iff.mp hy);simp[DictEntry.refKey,hkey]
  have a':¬es.toList.any (·.refKey)=true:=by rw[a];exact QaS
  rw[if_neg a'];exact congrArg some e
theorem fZ.look {h:Heap} {x dx C:Addr} {mA:YB} (I:fZ h x dx C mA):∃od,PySem.W.InstAt h x (instObj C dx) C (some od)/\∀name,PySem.W.lookIn name od=some (mA name):=
 let ⟨od,ho,hl⟩:=au I.ns
 ⟨od,⟨I.obj,rq,rq,ho⟩,hl⟩
section
variable {prog:Program} {w:World} {A:Around} {E:YA} {s:Shared} {K:YD} {x dx C f:Addr} {mA:YB} {name:Str} {v:Value}
end
section
variable {P:Program} {w:World} {H H':Hp} {h h':Heap} {a C dx:Addr} {fs fs':List (Str×V)}
theorem jm (hok:HOk P w H h) (e:H a=some (.ins C dx fs)):∃mA,fZ h a dx C mA/\(∀f,Qe (fs.lookup f) (mA f))/\PySem.Within mA (fs.map (·.1))/\fs.length<=1000/\H dx=some (.own a):=by
 obtain⟨d,z,ne,ob,mA,n,r,q⟩:=(show BW P w H h a (.ins C dx fs) from hok a _ e)
 exact⟨mA,⟨ob,n,ne⟩,r,q,z,d⟩
end
structure Cls (K:YD) (C:Addr):Prop where
 pg:PySem.W.plainGet K C Str.empty=true
 hd:PySem.W.hasDictIn K C=true
 po:PySem.W.plainOver K C=true
 sa:findIn K (.ref C) "__setattr__"=some (some (.builtin "object.__setattr__"))
theorem Cls.get {K:YD} {C:Addr} (c:Cls K C) (f:Str):PySem.W.plainGet K C f=true:=c.pg
section
variable {X:Cx} {jb:YC} {U : St} {H:Hp} {s:Shared} {a C dx:Addr} {fs:List (Str×V)} {f:Str} {v:V} {A:Around} {E:YA}
theorem Inv.made (I:Inv X jb U H s):Inv X jb U (upd (upd H s.heap.objs.size (.own (s.heap.objs.size+1))) (s.heap.objs.size+1) (.ins C s.heap.objs.size []))
  { s with heap:=(s.heap.push emptyDict).push (instObj C s.heap.objs.size) }:=by
 have e1:(s.heap.push emptyDict).get? s.heap.objs.size=some emptyDict:=QaI s.heap rfl;have e2:((s.heap.push emptyDict).push (instObj C s.heap.objs.size)).get? (s.heap.objs.size+1)=some (instObj C s.heap.objs.size):=by
  have:=QaI (s.heap.push emptyDict) (o:=instObj C s.heap.objs.size) rfl
  rwa [QbY] at this
 have e3:(s.heap.push emptyDict).Ns s.heap.objs.size (λ_=>none):=⟨emptyDict,#[],_,e1,rq,(λe he=>absurd he (by simp)),λ_=>rfl⟩;have I1:=I.laid (a:=s.heap.objs.size) (o:=.own (s.heap.objs.size+1)) (h':=s.heap.push emptyDict) (t':=s.toks) (λb u q=>Qat _ q) (Qcr _) ⟨_,e1⟩;refine I1.laid (a:=s.heap.objs.size+1) (o:=.ins C s.heap.objs.size []) (t':=s.toks) (λb u q=>Qat _ q) (Nat.le_of_eq (QbY _ _)) ?_;have ne:s.heap.objs.size≠s.heap.objs.size+1:=Qcl (QbB _);refine⟨by rw[Ar ne,Ac],Qcs _,ne,e2,λ_=>none,(Heap.Ns1.of_empty e3).at λo q=>Qat _ q,λ_=>True.intro,λy hy=>absurd rfl hy⟩
end
section
variable {X:Cx} {o e value:Expr} {f:Str} {pos pos' tpos:Pos} {ta tv:TE}
end
section
variable {X:Cx} {jb:YC} {U : St} {H:Hp} {s:Shared} {A:Around} {E:YA} {Q:YA} {c:Value} {b:Bool}
inductive Im (K:YD) (H:Hp):V->Value->Prop where
 | non:Im K H .non (.type "NoneType")
 | bl (x:Bool):Im K H (.bl x) (.type "bool")
 | int (i:Int):Im K H (.int i) (.type "int")
 | str (x:Str):Im K H (.str x) (.type "str")
 | flt (x:UInt64):Im K H (.flt x) (.type "float")
 | lst {a:Addr} {xs:YG} (e:H a=some (.lst xs)):Im K H (.ref a) (.type "list")
 | frz {a:Addr} {o:Obj} {xs:YG} (e:H a=some (.frz o (.lst xs))):Im K H (.ref a) (.type "list")
 | tup {a:Addr} {xs:YG} (e:H a=some (.tup xs)):Im K H (.ref a) (.type "tuple")
 | dK {a:Addr} {kvs:List (Key×V)} (e:H a=some (.dK kvs)):Im K H (.ref a) (.type "dict")
 | dT {a:Addr} {kvs:List (List Key×V)} (e:H a=some (.dT kvs)):Im K H (.ref a) (.type "dict")
 | ins {a C dx:Addr} {fs:List (Str×V)} (e:H a=some (.ins C dx fs)) (cl:Cls K C) (ha:findIn K (.ref C) "__class__"=some (some (.builtin "object.__class__")))
   (hn:PySem.W.specialIn K (.builtin "object.__class__") "__get__"=some (some (.builtin "getset_descriptor.__get__"))) (htk:PySem.W.takesIn K (.builtin "object.__class__")=some true)
   (hm:PySem.W.mroIn K C (.type "object")=some true):Im K H (.ref a) (.ref C)
theorem aG {x:V} {u t:Value} (I:Inv X jb U H s) (rx:RelV x u) (ty:Im X.K H x t) (e:kitOne X.K t c=some b) (h:∀tk,Q (.bool b) { s with toks:=tk }) :
  wpAny (model X.prog X.w) A (call (.builtin "isinstance") [u,c]) Q E s:=by
 cases ty with
 | non=>cases (show u=Value.none from rx);exact kia_one PySem.W.kitx_none I.kIn True.intro e (λz=>nomatch z) h
 | bl y=>cases (show u=Value.bool y from rx);exact kia_one PySem.W.kitx_bool I.kIn True.intro e (λz=>nomatch z) h
 | int i=>obtain⟨t,q⟩:=(show ∃t,u=Value.int i t from rx);cases q;exact kia_one PySem.W.kitx_int I.kIn True.intro e (λz=>nomatch z) h
 | str y=>obtain⟨t,q⟩:=(show ∃t,u=Value.str y t from rx);cases q;exact kia_one PySem.W.kitx_str I.kIn True.intro e (λz=>nomatch z) h
 | flt y=>obtain⟨t,q⟩:=(show ∃t,u=Value.float y t from rx);cases q;exact kia_one PySem.W.kitx_float I.kIn True.intro e (λz=>nomatch z) h
 | @lst a xs ea=>
  cases (show u=Value.ref a from rx)
  obtain⟨_,_,n,_,h1⟩:=(show BW X.prog X.w H s.heap a (.lst xs) from I.hok a _ ea)
  exact kia_one PySem.W.kitx_list I.kIn ⟨_,h1,rq⟩ e (λz=>nomatch z) h
 | @frz a ob xs ea=>
  cases (show u=Value.ref a from rx)
  obtain⟨_,_,_,n,_,h1⟩:=(show BW X.prog X.w H s.heap a (.frz ob (.lst xs)) from I.hok a _ ea)
  exact kia_one PySem.W.kitx_list I.kIn ⟨_,h1,rq⟩ e (λz=>nomatch z) h
 | @tup a xs ea=>
  cases (show u=Value.ref a from rx)
  obtain⟨_,_,_,p⟩:=(show BW X.prog X.w H s.heap a (.tup xs) from I.hok a _ ea)
  obtain⟨o,h1,h2,_⟩:=p;exact kia_one PySem.W.kitx_tuple I.kIn ⟨o,h1,h2⟩ e (λz=>nomatch z) h
 | @dK a kvs ea=>
  cases (show u=Value.ref a from rx)
  obtain⟨_,_,vs,_,p⟩:=(show BW X.prog X.w H s.heap a (.dK kvs) from I.hok a _ ea)
  obtain⟨o,es,ep,h1,h2,_⟩:=p;exact kia_one PySem.W.kitx_dict I.kIn ⟨o,h1,h2.1⟩ e (λz=>nomatch z) h
 | @dT a kvs ea=>
  cases (show u=Value.ref a from rx)
  obtain⟨_,_,xs,_,o,es,ep,h1,h2,_⟩:=(show BW X.prog X.w H s.heap a (.dT kvs) from I.hok a _ ea)
  exact kia_one PySem.W.kitx_dict I.kIn ⟨o,h1,h2.1⟩ e (λz=>nomatch z) h
 | @ins a C dx fs ea cl ha hn htk hm=>
  cases (show u=Value.ref a from rx)
  obtain⟨mA,O,_⟩:=jm I.hok ea;obtain⟨od,J,_⟩:=O.look;exact kia_one (PySem.W.kitx_own (cl.get _) cl.hd ha hn htk hm) I.kIn J e (λz=>nomatch z) h
end
structure Dr (k:Nat) (A:Around):Prop where
 hd:A.handled=none
 dp:A.depth+3*k+5 < recursionLimit
 un:A.units+16*k+200 < cLine
theorem Dr.mono {j k:Nat} {A:Around} (r:Dr k A) (h:j<=k):Dr j A:=⟨r.hd,by have:=r.dp;omega,by have:=r.un;omega⟩
theorem Dr.deeper {k:Nat} {A:Around} (r:Dr (k+1) A) (env:Env):Dr k (A.deeper env):=
 ⟨r.hd,by have:=r.dp;show A.depth+1+3*k+5 < _;omega,by have:=r.un;show A.units+3+16*k+200 < _;omega⟩
theorem Dr.in1 {k:Nat} {A:Around} (r:Dr (k+1) A):Dr k A.in1:=
 ⟨r.hd,by have:=r.dp;show A.depth+3*k+5 < _;omega,by have:=r.un;show A.units+1+16*k+200 < _;omega⟩
theorem Dr.depth {k:Nat} {A:Around} (r:Dr k A):A.depth < recursionLimit:=by have:=r.dp;omega
theorem Dr.units {k:Nat} {A:Around} (r:Dr k A):A.units+64 < cLine:=by have:=r.un;omega
def QW:TA:=λ_ H Q=>Q [] H
def Gh (ta:TE) (tr:TA):TA:=fun U H Q=>ta U H λx H1=>tr U H1 λxs H2=>Q (x::xs) H2
section
variable {X:Cx} {e:Expr} {es:YJ} {te:TE} {t:TA} {pos:Pos}
theorem Ab:PA X [] QW:=λ_ _ _ _ H Q I h=>Calls.spliced_nil ⟨[],H,I,.nil,h⟩
theorem Aa (ha:PE X e te) (hr:PA X es t) (hs:starEach (e::es) X.env=(false,eval e X.env)::starEach es X.env:=by rfl):PA X (e::es) (Gh te t):=by
 intro pos jb s U H Q I h;rw[hs];show wpAny _ _ (spliced ((false,eval e X.env)::backTo pos (starEach es X.env))) _ _ s;refine Calls.spliced_cons (thn (ha jb s U H _ I h) λu s1 zz=>?_);obtain⟨x,H1,I1,r1,q1⟩:=zz;refine thn (hr pos jb s1 U H1 _ I1 q1) λus s2 zz=>?_;obtain⟨xs,H2,I2,r2,q2⟩:=zz;exact⟨x::xs,H2,I2,.cons r1 r2,q2⟩
def pA (t:TA):TE:=fun U H Q=>t U H λxs H1=>xs.length<=sizeLine/\∀p,H1 p=none->Q (.ref p) (upd H1 p (.tup xs))
def pD (t:TA):TE:=fun U H Q=>t U H λxs H1=>xs.length<=sizeLine/\∀p,H1 p=none->Q (.ref p) (upd H1 p (.lst xs))
theorem BZ {x1} (h:PA X es t):PE X (.Tuple es x1 pos) (pA t):=by
 intro jb s U H Q I hq;refine wpAny_Tuple_spliced (thn (h pos jb s U H _ I hq) λus s1 zz=>?_);obtain⟨xs,H1,I1,r,z,q⟩:=zz;refine⟨by rw[<-r.length];exact z,?_⟩;have hf:H1 s1.heap.objs.size=none:=I1.hok.fresh (Qcr _);refine⟨.ref s1.heap.objs.size,upd H1 s1.heap.objs.size (.tup xs),I1.laid (t':=s1.toks) (λb u e=>Qat _ e) (Qcr _) ?_,rq,q _ hf⟩;exact⟨z,us,r,⟨_,QaI _ rfl,rq,_,rq⟩⟩
theorem Cp (h:PA X es t):PE X (.List es pos) (pD t):=by
 intro jb s U H Q I hq;refine wpAny_List_spliced (thn (h pos jb s U H _ I hq) λus s1 zz=>?_);obtain⟨xs,H1,I1,r,z,q⟩:=zz;refine⟨by rw[<-r.length];exact z,?_⟩;have hf:H1 s1.heap.objs.size=none:=I1.hok.fresh (Qcr _);refine⟨.ref s1.heap.objs.size,upd H1 s1.heap.objs.size (.lst xs),I1.laid (t':=s1.toks) (λb u e=>Qat _ e) (Qcr _) ?_,rq,q _ hf⟩;exact⟨z,us,0,r,QaI _ rfl⟩
end
abbrev Sp:=YG->Hp->VK->XK->Prop
abbrev CXT:=List Env->Hp->Shared->XK->YA
structure Qf (P:Program) (w:World) (K:YD) (mg:YB) (base:Heap) (A:Around) (outer:List Env) (s:Shared) (H:Hp):Prop where
 frames:A.frames=some outer
 mod:Mod K mg base
 bs:∀b o,base.get? b=some o->s.heap.get? b=some o/\H b=none
 bsz:base.objs.size<=s.heap.objs.size
 Il:s.heap.FunFrames base outer
 frf:∀b∈frs outer,H b=none
 hok:HOk P w H s.heap
 bare:AllBare s.gens
def CE (outer:List Env) (P:Program) (w:World) (H:Hp) (s:Shared) (Q:VK) (u:Value) (s':Shared):Prop:=
 ∃v H',s'.os=s.os/\AllBare s'.gens/\Un (frs outer) [] H H' s.heap s'.heap/\HOk P w H' s'.heap/\RelV v u/\Q v H'
def CR (CX:CXT) (outer:List Env) (P:Program) (w:World) (H:Hp) (s:Shared) (Q:VK) (E:XK) (r:Result) (s':Shared):Prop:=
 match r with
 | .ok (.ret u)=>CE outer P w H s Q u s'
 | .ok _=>False
 | .error e=>CX outer H s E e s'
structure Io (P:Program) (w:World) (K:YD) (mg:YB) (base:Heap) (CX:CXT) (k:Nat) (f:Addr) (fd:FuncData) (ps:YF) (sp:Sp):Prop where
 len:∀vs H Q E,sp vs H Q E->vs.length=ps.length
 run:∀(A:Around) (outer:List Env) (s:Shared) (H:Hp) (args:Args) (us:YE) (vs:YG) (Q:VK) (E:XK),Dr k A->Qf P w K mg base A outer s H->BindsTo s fd args (ps.zip us)->Vals vs us->sp vs H Q E ->
  codeAny (model P w) A (.call (.ref f) args) (CR CX outer P w H s Q E) s
theorem Io.imp {P:Program} {w:World} {K:YD} {mg:YB} {base:Heap} {CX:CXT} {k:Nat} {f:Addr} {fd:FuncData} {ps:YF} {sp sp':Sp} (F:Io P w K mg base CX k f fd ps sp)
  (h:∀vs H Q E,sp' vs H Q E->sp vs H Q E):Io P w K mg base CX k f fd ps sp':=
 ⟨λvs H Q E q=>F.len vs H Q E (h _ _ _ _ q),λA outer s H args us vs Q E hr he hb hv hs=>F.run A outer s H args us vs Q E hr he hb hv (h _ _ _ _ hs)⟩
theorem Qf.in1 {P:Program} {w:World} {K:YD} {mg:YB} {base:Heap} {A:Around} {outer:List Env} {s:Shared} {H:Hp} (e:Qf P w K mg base A outer s H) :
  Qf P w K mg base A.in1 outer s H:=⟨e.frames,e.mod,e.bs,e.bsz,e.Il,e.frf,e.hok,e.bare⟩
section
variable {X:Cx} {jb:YC} {U : St} {H:Hp} {s s':Shared}
theorem Inv.env0 (I:Inv X jb U H s):Qf X.prog X.w X.K X.mg X.base X.A X.stack s H:=
 ⟨I.ok.frames,I.ok.mod,I.bs,Qcn I.ok.bsz I.sz,I.stack,I.QX,I.hok,I.bare⟩
theorem Inv.after {Q:VK} {u:Value} (I:Inv X jb U H s) (h:CE X.stack X.prog X.w H s Q u s'):EP X jb U Q u s':=by
 obtain⟨v,H',os,bare,un,hok,r,q⟩:=h;obtain⟨hh,g,d,t,os'⟩:=s';obtain rfl:os'=s.os:=os;exact⟨v,H',I.call (h':=hh) (g':=g) (d':=d) (t':=t) (ch:=[]) un hok bare (λb z=>absurd z (by simp)),r,q⟩
end
def gH (sp:Sp) (dvs:YG) (E:XK) (t:TA):TE:=fun U H Q=>t U H λvs H1=>sp (vs++dvs) H1 Q E
def Binds (K:YD) (fd:FuncData) (ps:YF) (ds:YE):Prop:=
 ∀(s:Shared) (us:YE),K.In s.heap->(us++ds).length=ps.length->BindsTo s fd ⟨us,[]⟩ (ps.zip (us++ds))
theorem Binds.all {K:YD} {fd:FuncData} {ps:YF} (h:∀us:YE,us.length=ps.length->bindArgs fd ⟨us,[]⟩=pure (ps.zip us)):Binds K fd ps []:=λs us _ hl=>by
 rw[QbI] at hl ⊢;exact .of_eq (h us hl)
def Passes (CX:CXT) (X:Cx) (E:XK):Prop:=∀(jb:YC) (U : St) (H:Hp) (s:Shared) (e:Value) (s':Shared),Inv X jb U H s->CX X.stack H s E e s'->X.xe e s'
section
variable {X:Cx} {CX:CXT} {k:Nat} {f C:Addr} {fd:FuncData} {ps:YF} {sp:Sp} {dvs:YG} {ds:YE} {E:XK} {x m:Str} {p pos apos:Pos} {e o:Expr} {es:YJ} {ta:TE} {t:TA}
theorem jY {jb:YC} {U : St} {H:Hp} {s:Shared} {Q:VK} {us:YE} {vs:YG} (F:Io X.prog X.w X.K X.mg X.base CX k f fd ps sp) (hr:Dr k X.A) (hb:Binds X.K fd ps ds) (hd:Vals dvs ds) (hx:Passes CX X E)
  (I:Inv X jb U H s) (r:Vals vs us) (h:sp (vs++dvs) H Q E):wpAny (model X.prog X.w) X.A (call (.ref f) us) (EP X jb U Q) X.xe s:=by
 have r2:Vals (vs++dvs) (us++ds):=r.append hd;have hl:(us++ds).length=ps.length:=by rw[<-r2.length];exact F.len _ _ _ _ h
 refine wpAny_call (Qcq (F.run X.A X.stack s H ⟨us,[]⟩ (us++ds) (vs++dvs) Q E hr I.env0 (hb s us I.kIn hl) r2 h) λr s' hq=>?_);cases r with
 | error e=>exact hx jb U H s e s' I hq
 | ok fl=>
  cases fl with
  | ret u=>exact I.after hq
  | next=>exact False.elim hq
  | brk=>exact False.elim hq
  | cont=>exact False.elim hq
theorem iR (F:Io X.prog X.w X.K X.mg X.base CX k f fd ps sp) (hr:Dr k X.A) (hg:Gl X x) (hm:X.mg x=some (.ref f)) (hk:keepIn X.K (.ref f)=true) (hb:Binds X.K fd ps ds) (hd:Vals dvs ds) (hx:Passes CX X E)
  (ha:PA X (e::es) t) (hdb:(x == ("__debug__":Str))=false:=by decide) (he:starEach (e::es) X.env=(false,eval e X.env)::starEach es X.env:=by rfl) (hpl:(backTo pos (starEach es X.env)).any (·.1)=false:=by rfl) :
  PE X (.Call (.Name x p) (e::es) [] pos) (gH sp dvs E t):=by
 intro jb s U H Q I h;refine QaZ (Xo I hg hm ?_ hdb);refine PySem.W.callWith_K (h₀:=X.base) I.ok.mod.kin hk (thn (ha pos jb s U H _ I h) λus s1 zz=>?_) he hpl;obtain⟨vs,H1,I1,r,q⟩:=zz;refine⟨I1.kIn,?_⟩;exact jY F hr hb hd hx I1 r q
end
def PK (X:Cx) (kws:List Keyword) (t:TA):Prop:=
 ∀(pos:Pos) (jb:YC) (s:Shared) (U : St) (H:Hp) (Q:YG->Hp->Prop),Inv X jb U H s->t U H Q->wpAny (model X.prog X.w) X.A (evalAll ((backToKw pos (keywordEach kws X.env)).map (·.2))) (AP X jb U Q) X.xe s
section
variable {X:Cx} {CX:CXT} {k:Nat} {f C:Addr} {fd:FuncData} {ps ks:YF} {sp:Sp} {E:XK} {x m:Str} {p pos apos kpos:Pos} {e o:Expr} {es:YJ} {kws:List Keyword} {te ta:TE} {t tk:TA} {nm:Option Str}
theorem j7:PK X [] QW:=λ_ _ _ _ H Q I h=>wpAny_evalAll_nil ⟨[],H,I,.nil,h⟩
theorem iJ (ha:PE X e te) (hr:PK X kws t):PK X (⟨nm,e,kpos⟩::kws) (Gh te t):=by
 intro pos jb s U H Q I h;show wpAny _ _ (evalAll ((do let v <-eval e X.env;standAt pos;pure v)::(backToKw pos (keywordEach kws X.env)).map (·.2))) _ _ s
 refine wpAny_evalAll_cons (Qcx (thn (ha jb s U H _ I h) λu s1 zz=>?_));obtain⟨x,H1,I1,r1,q1⟩:=zz;refine Qcx (Qch (Qcy ?_));refine thn (hr pos jb s1 U H1 _ I1 q1) λus s2 zz=>?_;obtain⟨xs,H2,I2,r2,q2⟩:=zz;exact⟨x::xs,H2,I2,.cons r1 r2,q2⟩
variable {g:YE->YE->YE} {gV:YG->YG->YG}
end
structure Bc (N P:YF) (sc:Scope):Prop where
 kind:sc.kind=.function
 co:sc.isCoroutine=false
 gen:sc.isGenerator=false
 nd:N.Nodup
 pre:N.take P.length=P
 par:∀x∈P,sc.names.lookup x=some .local\/sc.names.lookup x=some .cell
 Vo:∀y∈sc.names,y.2≠.free
theorem Tc {kindOf:Str->Option NameKind} {x:Str}:∀{binds:List (Str×Value)} {m:YB},(∀v,(x,v)∉binds)->bindL kindOf binds m x=m x
 | [],_,_=>rfl
 | (n,v)::r,m,h=>by
  unfold bindL;rw[Tc λw hw=>h w (QaD _ hw)];split
  ·have:x≠n:=by rintro rfl;exact h v QaQ
   simp[this]
  ·rfl
theorem Te {kindOf:Str->Option NameKind} {x:Str}:∀{binds:List (Str×Value)} {m:YB},(∀v,(x,v)∉binds)->bindC kindOf binds m x=m x
 | [],_,_=>rfl
 | (n,v)::r,m,h=>by
  unfold bindC;rw[Te λw hw=>h w (QaD _ hw)];split
  ·rfl
  ·have:x≠n:=by rintro rfl;exact h v QaQ
   simp[this]
theorem Td {kindOf:Str->Option NameKind} {x:Str} {v:Value}:∀{P:YF} {vs:YE} {i:Nat} {m:YB},P.Nodup->P[i]?=some x->vs[i]?=some v->kindOf x=some .local ->
  bindL kindOf (P.zip vs) m x=some v
 | [],_,_,_,_,h,_,_=>by simp at h
 | _::_,[],_,_,_,_,h,_=>by simp at h
 | p::P,w::vs,0,m,nd,h1,h2,hk=>by
  simp at h1 h2;subst h1;subst h2;show bindL kindOf ((p,w)::P.zip vs) m p=_;unfold bindL;rw[Tc λv hv=>(QbN.mp nd).1 (List.of_mem_zip hv).1,if_pos hk];simp
 | p::P,w::vs,i+1,m,nd,h1,h2,hk=>by
  show bindL kindOf ((p,w)::P.zip vs) m x=_;unfold bindL;exact Td (i:=i) (QbN.mp nd).2 (by simpa using h1) (by simpa using h2) hk
theorem Tg {kindOf:Str->Option NameKind} {x:Str} {v:Value}:∀{P:YF} {vs:YE} {i:Nat} {m:YB},P.Nodup->P[i]?=some x->vs[i]?=some v->kindOf x≠some .local ->
  bindC kindOf (P.zip vs) m x=some v
 | [],_,_,_,_,h,_,_=>by simp at h
 | _::_,[],_,_,_,_,h,_=>by simp at h
 | p::P,w::vs,0,m,nd,h1,h2,hk=>by
  simp at h1 h2;subst h1;subst h2;show bindC kindOf ((p,w)::P.zip vs) m p=_;unfold bindC;rw[Te λv hv=>(QbN.mp nd).1 (List.of_mem_zip hv).1,if_neg hk];simp
 | p::P,w::vs,i+1,m,nd,h1,h2,hk=>by
  show bindC kindOf ((p,w)::P.zip vs) m x=_;unfold bindC;exact Tg (i:=i) (QbN.mp nd).2 (by simpa using h1) (by simpa using h2) hk
def start (N:YF) (vs:YG):St:=vs.map some++List.replicate (N.length - vs.length) none
def PN (CX:CXT) (P:Program) (w:World) (K:YD) (mg:YB) (base:Heap) (N:YF) (qual:Str) (scope:Scope) (f:Addr) (cd:Value) (A:Around) (outer:List Env) (s:Shared) (H:Hp) (E:XK):Cx where
 prog:=P
 w:=w
 K:=K
 mg:=mg
 base:=base
 A:=A.deeper (envOfC qual scope s.heap.objs.size f cd)
 N:=N
 s₀:=s
 H₀:=H
 env:=envOfC qual scope s.heap.objs.size f cd
 outer:=outer
 stack:=envOfC qual scope s.heap.objs.size f cd::outer
 ex:=[]
 calm:=true
 fn:=λ_=>true
 pn:=[]
 xe:=λe s'=>wpAny (model P w) (A.deeper (envOfC qual scope s.heap.objs.size f cd)) (leaving (envOfC qual scope s.heap.objs.size f cd) e) (λ_ s''=>CX outer H s E e s'') (λe' s''=>CX outer H s E e' s'') s'
theorem V7 {sc:Scope} {n:Nat} {x:Str} (h:sc.names.lookup x=some .cell):∃c,(cellsFrom n sc.names []).lookup x=some c:=by
 have q:=PySem.W.cellsFrom_some sc.names n [] (.inl h);exact Option.isSome_iff_exists.mp q
theorem aH {CX:CXT} {P:Program} {w:World} {K:YD} {mg:YB} {base:Heap} {N ps:YF} {qual:Str} {scope:Scope} {f:Addr} {cd:Value} {A:Around} {outer:List Env} {s s1:Shared} {H:Hp} {E:XK} {us:YE} {vs:YG}
  (S:Bc N ps scope) (hd:A.handled=none) (e0:Qf P w K mg base A outer s H) (hl:vs.length=ps.length) (r:Vals vs us)
  (x:InCallC s s.heap.objs.size (bindL (envOfC qual scope s.heap.objs.size f cd).kindOf (ps.zip us) λ_=>none) (cellsFrom (s.heap.objs.size+1) scope.names []) (bindC (envOfC qual scope s.heap.objs.size f cd).kindOf (ps.zip us) λ_=>none) s1) :
  Inv (PN CX P w K mg base N qual scope f cd A outer s H E) [] (start N vs) H s1:=by
 have hpl:ps.length<=N.length:=by have:=congrArg List.length S.pre;rw[Qbv] at this;omega
 obtain⟨h1,tk,rfl,hk⟩:=x.done;have noA:∀b:Addr,b∉(PN CX P w K mg base N qual scope f cd A outer s H E).ex:=λb z=>absurd (show b∈([]:List Addr) from z) (by simp)
 refine⟨⟨e0.mod,S.kind,rq,rq,Qcr _,λy z c h1 h2=>?_,λy hy=>?_,λy c _ h=>?_,λ_=>hd,Around.frames_deeper e0.frames,.inr ⟨rq,rq⟩,λb z=>absurd z (noA b),e0.bs,e0.bsz,λb _ _=>noA b,λb z=>absurd z (noA b),e0.Il,e0.frf⟩,
  rfl,e0.bare,Un.kept hk,⟨_,x.toInCall.ns,λi y v h1 h2 h3=>?_⟩,λy c h=>⟨_,x.cell y c h⟩,e0.hok.fresh (Qcr _),λy c h=>?_,λp hp=>absurd (show p∈([]:YC) from hp) (by simp),e0.hok.kept hk,?_⟩
 ·exact name_of_addr x.apart (QaM h1) (QaM h2)
 ·have hy:scope.names.lookup y=some .cell\/scope.names.lookup y=some .free:=hy;rcases hy with hy | hy
  ·exact V7 hy
  ·exact absurd rfl (S.Vo _ (QaM hy))
 ·exact Qcp (x.above y c (QaM h))
 ·have hi:i < vs.length:=by
   unfold start at h2;by_cases hi:i < vs.length
   ·exact hi
   ·rw[Qae (by simpa using hi)] at h2;rw[List.getElem?_replicate] at h2;split at h2 <;> cases h2
  have ha:vs[i]?=some v:=by
   unfold start at h2;rw[Qah (by simpa using hi),Qbf] at h2;cases e:vs[i]? with
   | none=>rw[e] at h2;cases h2
   | some a=>rw[e] at h2;cases h2;rfl
  obtain⟨u,hu,rv⟩:=r.get ha;have hp:ps[i]?=some y:=by
   rw[<-S.pre,List.getElem?_take_of_lt (by omega)];exact h1
  have ndP:ps.Nodup:=by rw[<-S.pre];exact S.nd.sublist (List.take_sublist _ _)
  refine⟨u,rv,?_⟩;rcases S.par y (QaC hp) with k | k
  ·exact .inl ⟨k,Td ndP hp hu k⟩
  ·obtain⟨c,e⟩:=V7 (n:=s.heap.objs.size+1) k;refine .inr ⟨.inl k,c,e,?_⟩;have q:=x.cell y c e;rw[Tg ndP hp hu (by show scope.names.lookup y≠_;rw[k];decide)] at q;exact q
 ·exact e0.hok.fresh (Qcp (x.above y c (QaM h)))
 ·unfold start;show _=N.length;rw[QaN,QbF,List.length_replicate];omega
theorem oO {CX:CXT} {P:Program} {w:World} {K:YD} {mg:YB} {base:Heap} {k:Nat} {f:Addr} {name qual:Str} {params:Arguments} {body:List Stmt} {scope:Scope} {dV kV doc pm cdv ct oc:Value} {an od:Option Addr}
  {osl:YI} {N ps:YF} {sp:Sp} (lk:K.lookup f=some ⟨oc,od,.func (fnOf name qual params body scope dV kV doc pm an cdv ct),osl⟩) (hcd:codeIn K cdv qual=true) (S:Bc N ps scope)
  (len:∀vs H Q E,sp vs H Q E->vs.length=ps.length)
  (hbody:∀(A:Around) (outer:List Env) (s:Shared) (H:Hp) (vs:YG) (Q:VK) (E:XK),Dr k (A.deeper (envOfC qual scope s.heap.objs.size f cdv))->sp vs H Q E ->
   ∃t,PSs (PN CX P w K mg base N qual scope f cdv A outer s H E) body t/\t { nx:=λ_ H'=>Q .non H',rt:=Q } (start N vs) H) :
  Io P w K mg base CX (k+1) f (fnOf name qual params body scope dV kV doc pm an cdv ct) ps sp:=by
 refine⟨len,λA outer s H args us vs Q E hr e0 hb r hsp=>?_⟩;have hl:=len _ _ _ _ hsp;have KX:K.In s.heap:=e0.mod.kin.keeps λb o e=>(e0.bs b o e).1;have lim:s.heap.NoLimit:=e0.mod.nolimit.keeps λb o e=>(e0.bs b o e).1;have hkind:∀y∈ps.zip us,scope.names.lookup y.1=some .local\/(scope.names.lookup y.1=some .cell/\((cellsFrom (s.heap.objs.size+1) scope.names []).lookup y.1).isSome=true):=λ⟨n,v⟩ hy=>by
  rcases S.par n (List.of_mem_zip hy).1 with q | q
  ·exact .inl q
  ·exact .inr ⟨q,PySem.W.cellsFrom_some _ _ _ (.inl q)⟩
 refine codeAny_call_function hr.depth (KX _ _ lk) rfl S.co S.gen rfl (PySem.W.codeRec_of KX hcd) (hb _ _ _ _ ?_);refine wpAny_newFunctionEnv_cells S.kind hkind λenv he s1 x=>?_;subst he;refine⟨lim.keeps x.toInCall.keep,codeAny_func ?_⟩;obtain⟨t,ht,hq⟩:=hbody A outer s H vs Q E (hr.deeper _) hsp;have I:Inv (PN CX P w K mg base N qual scope f cdv A outer s H E) [] (start N vs) H s1:=aH S hr.hd e0 hl r x;refine Qcz (ht [] s1 (start N vs) H _ I hq) (λfl s' hs=>?_) λe s' hs=>hs;have fin:∀{σ':St} {H':Hp} {v:V} {u:Value},Inv (PN CX P w K mg base N qual scope f cdv A outer s H E) [] σ' H' s'->RelV v u->Q v H'->CE outer P w H s Q u s':=
  λ{σ' H' v u} J rv q=>⟨v,H',J.os,J.bare,J.base,J.hok,rv,q⟩
 cases fl with
 | ret u=>
  obtain⟨v,σ',H',J,rv,q⟩:=hs;exact fin J rv q
 | next=>
  obtain⟨σ',H',J,q⟩:=hs;exact fin (v:=V.non) (u:=Value.none) J rfl q
 | brk=>
  obtain⟨_,_,_,q⟩:=hs;exact False.elim q
 | cont=>
  obtain⟨_,_,_,q⟩:=hs;exact False.elim q
section
variable {X:Cx} {x:Str} {p pos:Pos} {e:Expr} {es:YJ} {t:TA} {id T:String} {r:YG->Hp->VK->Prop}
def tCB (r:YG->Hp->VK->Prop) (t:TA):TE:=fun U H Q=>t U H λvs H1=>r vs H1 Q
theorem Ay (hc:Ds X (.builtin id) r) (hg:Gl X x) (hm:X.mg x=none) (hv:bootBuiltins x=some (.builtin id)) (ha:PA X (e::es) t) (hn:x≠"__name__":=by decide) (hdb:(x == ("__debug__":Str))=false:=by decide)
  (he:starEach (e::es) X.env=(false,eval e X.env)::starEach es X.env:=by rfl) (hpl:(backTo pos (starEach es X.env)).any (·.1)=false:=by rfl):PE X (.Call (.Name x p) (e::es) [] pos) (tCB r t):=by
 intro jb s U H Q I h;refine QaZ (GK I hg hm hv ?_ hn hdb);refine PyProof.Rows.callWith_builtin1 (thn (ha pos jb s U H _ I h) λus s1 zz=>?_) he hpl;obtain⟨vs,H1,I1,r1,q1⟩:=zz;exact hc jb s1 U H1 vs us Q I1 r1 q1
theorem Bo (hc:Ds X (.type T) r) (hg:Gl X x) (hm:X.mg x=none) (hv:bootBuiltins x=some (.type T)) (ha:PA X (e::es) t) (hn:x≠"__name__":=by decide) (hdb:(x == ("__debug__":Str))=false:=by decide)
  (he:starEach (e::es) X.env=(false,eval e X.env)::starEach es X.env:=by rfl) (hpl:(backTo pos (starEach es X.env)).any (·.1)=false:=by rfl):PE X (.Call (.Name x p) (e::es) [] pos) (tCB r t):=by
 intro jb s U H Q I h;refine QaZ (GK I hg hm hv ?_ hn hdb);refine Qac (thn (ha pos jb s U H _ I h) λus s1 zz=>?_) he hpl;obtain⟨vs,H1,I1,r1,q1⟩:=zz;exact hc jb s1 U H1 vs us Q I1 r1 q1
end
end L2
namespace HT
open PySem PyProof.Rows
section
open PySem.SeqAt
open PySem.AutoSeq1 (wpAny_loadPart')
open PySem.MeetsSeq PySem.MeetsSeq2 PySem.MeetsSeq3
end
section
variable {prog:Program} {w:World} {A:Around} {E:YA} {s:Shared}
theorem jy {t b:Addr} {vs ws:YE} {Q:YA} (ht:IsTup s.heap t vs.toArray) (hb:IsTup s.heap b ws.toArray) (hv:vs≠[])
  (h1:ws=[]->Q (.ref t) s) (h2:ws≠[]->Q (.ref s.heap.objs.size) { s with heap:=s.heap.push { cls:=.type "tuple",data:=.seq (vs++ws).toArray } })
  (hsz:vs.length+ws.length<=sizeLine):wpAny (model prog w) A (binaryOp .Add (.ref t) (.ref b)) Q E s:=by
 obtain⟨⟨cls,dd,data,sl⟩,ho,hc,n,hd⟩:=id ht;obtain⟨⟨cls2,dd2,data2,sl2⟩,ho2,hc2,n2,hd2⟩:=id hb;simp only at hc hd hc2 hd2;subst hc hd hc2 hd2;have e:vs.toArray++ws.toArray=(vs++ws).toArray:=by simp
 by_cases hw:ws=[]
 ·exact concat_meets ⟨_,ho,rq⟩ ⟨_,ho2,rq⟩ noFill_tuple_add seq_tuple_add PySem.F.slot_tuple_add PySem.F.entry_tuple_add (PySem.F.args_tuple_add_2 _ _)
   (tuple_addW1 t b vs.toArray ws.toArray n n2 dd dd2 sl sl2 (by simpa using hv) (by simp[hw])) ⟨ho,ho2,h1 hw⟩
 ·refine concat_meets ⟨_,ho,rq⟩ ⟨_,ho2,rq⟩ noFill_tuple_add seq_tuple_add PySem.F.slot_tuple_add PySem.F.entry_tuple_add (PySem.F.args_tuple_add_2 _ _)
   (tuple_addW2 t b vs.toArray ws.toArray n n2 dd dd2 sl sl2 (by simpa using hv) (by simpa using hw) (by rw[Qbc,Qbc];exact hsz)) ⟨ho,ho2,?_⟩
  rw[e];exact h2 hw
def sIx (n d:Nat):Option Int->Nat
 | none=>d
 | some v=>if v < 0 then (v+(n:Int)).toNat else min v.toNat n
theorem O6 (n d:Nat):sIx n d none=d:=rfl
theorem Xi (n d k:Nat):sIx n d (some (k:Int))=min k n:=by
 show (if (k:Int) < 0 then ((k:Int)+(n:Int)).toNat else min (k:Int).toNat n)=min k n
 rw[if_neg (by omega),Qbi]
theorem jW (n d:Nat) (hd:d<=n) (o:Option Int):sIx n d o<=n:=by
 cases o with
 | none=>exact hd
 | some v=>
  show (if v < 0 then (v+(n:Int)).toNat else min v.toNat n)<=n
  by_cases hv:v < 0
  ·rw[if_pos hv];omega
  ·rw[if_neg hv];exact Nat.min_le_right _ _
theorem XF (v:Int) (n d:Nat):(if v < 0 then max (v+(n:Int)) 0 else min v (n:Int))=((sIx n d (some v):Nat):Int):=by
 show (if v < 0 then max (v+(n:Int)) 0 else min v (n:Int))=(((if v < 0 then (v+(n:Int)).toNat else min v.toNat n):Nat):Int)
 by_cases hv:v < 0
 ·simp only[if_pos hv];omega
 ·simp only[if_neg hv];omega
theorem Zh (lo hi:Option Int) (n:Nat):Builtin.Slice.sliceAdjust lo hi 1 (n:Int)=(((sIx n 0 lo:Nat):Int),((sIx n n hi:Nat):Int)):=by
 have h1:¬((1:Int) < 0):=by omega
 unfold Builtin.Slice.sliceAdjust;simp only[h1,QcD];refine Prod.ext ?_ ?_
 ·cases lo with
  | none=>rfl
  | some v=>exact XF v n 0
 ·cases hi with
  | none=>rfl
  | some v=>exact XF v n n
theorem Yo (i j:Nat):Builtin.Slice.slicePlaces (i:Int) (j:Int) 1=j - i:=by
 unfold Builtin.Slice.slicePlaces;have h1:(1:Int) > 0:=by omega
 simp only[h1,if_true,Int.ediv_one];split <;> omega
theorem Qo {v:Value} {o:Option Int} {Q:Option Int->Shared->Prop} (p:IsPart v o) (h:Q o s):wpAny (model prog w) A (Builtin.Slice.slicePartIndex v) Q E s:=by
 cases p with
 | none=>exact slicePart_none h
 | int i t=>exact slicePart_int h
theorem JD {sl:Addr} {vl vu:Value} {lo hi:Option Int} {n:Nat} {Q:Int×Int×Nat->Shared->Prop} (hs:s.heap.IsSliceOf sl vl vu .none) (pl:IsPart vl lo) (pu:IsPart vu hi)
  (h:Q (((sIx n 0 lo:Nat):Int),1,sIx n n hi - sIx n 0 lo) s):wpAny (model prog w) A (Builtin.Slice.sliceApplied (.ref sl) (pure (n:Int))) Q E s:=by
 obtain⟨os,hos,hcs,hds⟩:=id hs;unfold Builtin.Slice.sliceApplied Builtin.Slice.sliceFields;refine Qcx (Qcx (Qcu hos hds (x:=vl) rfl (Qcx (Qcu hos hds (x:=vu) rfl (Qcx (Qcu hos hds (x:=.none) rfl (Qcy ?_)))))));refine Qcx (slicePart_none ?_);show wpAny _ _ (if ((1:Int) == 0)=true then _ else _) _ _ s
 rw[if_neg (by decide)];refine Qcx (Qo pl (Qcx (Qo pu (Qcx (Qcy ?_)))));show wpAny _ _ (match Builtin.Slice.sliceAdjust lo hi 1 (n:Int) with | (lo,hi)=>pure (lo,(1:Int),Builtin.Slice.slicePlaces lo hi 1)) _ _ s
 rw[Zh lo hi n];show wpAny _ _ (pure (((sIx n 0 lo:Nat):Int),(1:Int),Builtin.Slice.slicePlaces ((sIx n 0 lo:Nat):Int) ((sIx n n hi:Nat):Int) 1)) _ _ s;rw[Yo];exact Qcy h
theorem dG (xs:Array Value) (i k:Nat):((List.range k).filterMap λ(m:Nat)=>xs[((i:Int)+(m:Int)*1).toNat]?).toArray=((xs.toList.drop i).take k).toArray:=by
 have e:(λ(m:Nat)=>xs[((i:Int)+(m:Int)*1).toNat]?)=λm=>xs[i+m]?:=by
  funext m
  have:((i:Int)+(m:Int)*1).toNat=i+m:=by omega
  rw[this]
 rw[e];have:=pick_run xs i k;rw[List.filterMap_map] at this;have e2:((λx=>xs[x]?) ∘ λx=>i+x)=λm=>xs[i+m]?:=rfl;rw[e2] at this;rw[this]
theorem Od {t sl:Addr} {items:Array Value} {vl vu:Value} {lo hi:Option Int} {Q:YA} (ht:IsTup s.heap t items) (hs:s.heap.IsSliceOf sl vl vu .none) (pl:IsPart vl lo) (pu:IsPart vu hi)
  (hw:¬(sIx items.size 0 lo=0/\sIx items.size items.size hi=items.size))
  (h:Q (.ref s.heap.objs.size) { s with heap:=s.heap.push { cls:=.type "tuple",data:=.seq ((items.toList.drop (sIx items.size 0 lo)).take (sIx items.size items.size hi - sIx items.size 0 lo)).toArray } })
  (hsz:items.size<=sizeLine):wpAny (model prog w) A (getItem (.ref t) (.ref sl)) Q E s:=by
 have T6:sizeOk (.seq ((items.toList.drop (sIx items.size 0 lo)).take (sIx items.size items.size hi - sIx items.size 0 lo)).toArray):=by
  show ((items.toList.drop (sIx items.size 0 lo)).take (sIx items.size items.size hi - sIx items.size 0 lo)).toArray.size<=sizeLine;rw[Qbc,Qbv,Qby,QaJ];omega
 have hj:sIx items.size items.size hi<=items.size:=jW _ _ (Qcr _) hi;obtain⟨os,hos,hcs,hds⟩:=id hs;have hTs:s.TypeIs (.ref sl) "slice":=⟨os,hos,hcs⟩;unfold getItem
 try with_reducible refine Qcf ?_
 first | refine Qcx (Qcy ?_) | skip
 refine Qcx (wpAny_sequenceKey ht.typeIs (by decide) ?_);refine Qcx (Qaq (name:=Str.ofString "__getitem__") ht.typeIs Qab
  (QbA Qab ht.typeIs entry_tuple_getitem ?_ (args_tuple_getitem _ _)))
 show wpAny _ _ (Builtin.Tuple.tupleItemsOf (.ref t) >>= _) _ _ s;refine Qcx (tupleItemsOf_ ht ?_);refine Qcx (wpAny_typeOf hTs ?_);rw[if_pos (by decide)];refine Qcx (JD hs pl pu ?_);have hno:¬((((sIx items.size 0 lo:Nat):Int) == 0&&(1:Int) == 1&&(sIx items.size items.size hi - sIx items.size 0 lo) == items.size)=true):=by
  intro q;rw[Qbx,Qbx] at q;have q1:((sIx items.size 0 lo:Nat):Int)=0:=eq_of_beq q.1.1;have q2:sIx items.size items.size hi - sIx items.size 0 lo=items.size:=eq_of_beq q.2;exact hw ⟨by omega,by omega⟩
 show wpAny _ _ (if (((sIx items.size 0 lo:Nat):Int) == 0&&(1:Int) == 1&&(sIx items.size items.size hi - sIx items.size 0 lo) == items.size)=true then _ else _) _ _ s
 rw[if_neg hno,dG]
 first
  | exact Qcx (m:=Builtin.Tuple.tupleExact _) (Qbk (Qcy ⟨_,rfl,Qcy h⟩) T6)
  | exact Qcx (m:=Builtin.Tuple.tupleExact _) (Qbk (Qcx (Qcy (Qcy ⟨_,rfl,Qcy h⟩))) T6)
  | exact Qcx (Qcx (m:=Builtin.Tuple.tupleExact _) (Qbk (Qcy (Qcy ⟨_,rfl,Qcy h⟩)) T6))
  | exact Qcx (Qcx (m:=Builtin.Tuple.tupleExact _) (Qbk (Qcy ⟨_,rfl,Qcy h⟩) T6))
end
end HT
namespace L2
open PySem PySem.Spec PyProof.Rows
abbrev TO:=St->Hp->(Option Int->Hp->Prop)->Prop
def PO (X:Cx) (e:Option Expr) (t:TO):Prop:=
 ∀(jb:YC) (s:Shared) (U : St) (H:Hp) (Q:Option Int->Hp->Prop),Inv X jb U H s->t U H Q ->
  wpAny (model X.prog X.w) X.A (evalPart e X.env) (λu s'=>∃o H',Inv X jb U H' s'/\IsPart u o/\Q o H') X.xe s
def iw:TO:=λ_ H Q=>Q none H
def nu (t:TE):TO:=fun U H Q=>t U H λx H1=>∃i,x=.int i/\Q (some i) H1
theorem intsAre_of {ns:List Int}:∀{us:YE},Vals (ns.map V.int) us->IntsAre us ns:=by
 induction ns with
 | nil=>intro us r;rw[List.map_nil] at r;cases r;exact .nil
 | cons n ns ih=>
  intro us r;rw[Qce] at r;cases r with
  | cons r1 r2=>
   obtain⟨t,e⟩:=r1;subst e;exact .cons n t (ih r2)
section
variable {X:Cx} {e:Expr} {te:TE} {lo hi:Option Expr} {tl th:TO} {pos p2:Pos}
theorem Hg:PO X none iw:=by
 intro jb s U H Q I h;rw[evalPart_none];exact Qcy ⟨none,H,I,.none,h⟩
theorem Hf (h:PE X e te):PO X (some e) (nu te):=by
 intro jb s U H Q I hw;rw[evalPart_some];refine thn (h jb s U H _ I hw) λu s1 zz=>?_;obtain⟨x,H1,I1,r1,q1⟩:=zz;obtain⟨i,rfl,q⟩:=q1;obtain⟨t,rfl⟩:=r1;exact⟨some i,H1,I1,.int i t,q⟩
def SlR (X:Cx) (r:V->Option Int->Option Int->Hp->VK->Prop):Prop:=
 ∀(jb:YC) (s:Shared) (U : St) (H:Hp) (x:V) (v vl vu:Value) (lo hi:Option Int) (sl:Addr) (Q:VK),Inv X jb U H s->RelV x v->s.heap.IsSliceOf sl vl vu .none->IsPart vl lo->IsPart vu hi->r x lo hi H Q ->
  ∃T id,typeLookup (.type T) "__getitem__"=pure (some (.builtin id))/\s.TypeIs v T/\wpAny (model X.prog X.w) X.A (getItem v (.ref sl)) (EP X jb U Q) X.xe s
def tSl (r:V->Option Int->Option Int->Hp->VK->Prop) (te:TE) (tl th:TO):TE:=fun U H Q=>te U H λx H1=>tl U H1 λl H2=>th U H2 λu H3=>r x l u H3 Q
theorem FP {r:V->Option Int->Option Int->Hp->VK->Prop} (hr:SlR X r) (he:PE X e te) (hl:PO X lo tl) (hu:PO X hi th):PE X (.Subscript e (.Slice lo hi none p2) pos) (tSl r te tl th):=by
 intro jb s U H Q I h;refine Subscript_ (thn (he jb s U H _ I h) λv s1 zz=>?_);obtain⟨x,H1,I1,r1,q1⟩:=zz;refine wpAny_Slice (thn (hl jb s1 U H1 _ I1 q1) λvl s2 zz=>?_);obtain⟨l,H2,I2,pl,q2⟩:=zz;refine thn (hu jb s2 U H2 _ I2 q2) λvu s3 zz=>?_;obtain⟨u,H3,I3,pu,q3⟩:=zz;rw[evalPart_none];refine Qcy ?_;have I4:Inv X jb U H3 { s3 with heap:=s3.heap.push { cls:=.type "slice",data:=.fields #[vl,vu,.none] } }:=I3.kept (t':=s3.toks) λb ob q=>Qat _ q;obtain⟨T,id,hT,ht,hg⟩:=hr jb { s3 with heap:=s3.heap.push { cls:=.type "slice",data:=.fields #[vl,vu,.none] } } U H3 x v vl vu l u s3.heap.objs.size Q I4 r1 (Heap.IsSliceOf.new ..) pl pu q3;show wpAny (model X.prog X.w) X.A (subscriptTail e (.Slice lo hi none p2) v (.ref s3.heap.objs.size)) (EP X jb U Q) X.xe { s3 with heap:=s3.heap.push { cls:=.type "slice",data:=.fields #[vl,vu,.none] } };exact tail_any (ops:=[.ref s3.heap.objs.size,v]) ht hT hg (by with_unfolding_all rfl)
def Fz (xs:YG) (lo hi:Option Int):YG:=(xs.drop (HT.sIx xs.length 0 lo)).take (HT.sIx xs.length xs.length hi - HT.sIx xs.length 0 lo)
theorem Oo (xs:YG) (lo hi:Option Int):(Fz xs lo hi).length<=xs.length:=by
 unfold Fz;rw[Qbv,Qby];omega
def pG (K:YD):V->Option Int->Option Int->Hp->VK->Prop:=λx lo hi H Q=>∃a xs,x=.ref a/\SqT K H a xs /\
 ¬(HT.sIx xs.length 0 lo=0/\HT.sIx xs.length xs.length hi=xs.length)/\∀p,H p=none->Q (.ref p) (upd H p (.tup (Fz xs lo hi)))
theorem jT:SlR X (pG X.K):=by
 intro jb s U H x v vl vu lo hi sl Q I rx hs pl pu h;obtain⟨a,xs,rfl,hx,hw,q⟩:=h;cases rx;obtain⟨its,r,ht,hz⟩:=I.tuple hx;have hlen:its.toArray.size=xs.length:=by rw[Qbc];exact r.length.symm
 refine⟨"tuple",_,Qab.lookup,ht.typeIs,?_⟩;refine HT.Od ht hs pl pu (by rw[hlen];exact hw) ?_ (by rw[hlen];exact hz);rw[hlen];refine⟨.ref s.heap.objs.size,_,I.laid (t':=s.toks) (o:=.tup (Fz xs lo hi)) (λb ob q=>Qat _ q) (Qcr _) ?_,rq,q _ (I.hok.fresh (Qcr _))⟩;exact⟨Qcn (Oo xs lo hi) hz,_,(r.drop (HT.sIx xs.length 0 lo)).take (HT.sIx xs.length xs.length hi - HT.sIx xs.length 0 lo),IsTup.new _ _⟩
def nO (K:YD):R2:=λx y H Q=>∃a b xs ys,x=.ref a/\y=.ref b/\SqT K H a xs/\SqT K H b ys/\xs≠[]/\xs.length+ys.length<=sizeLine /\
 (ys=[]->Q (.ref a) H)/\(ys≠[]->∀p,H p=none->Q (.ref p) (upd H p (.tup (xs++ys))))
theorem Vals.Rq {xs:YG} {us:YE} (r:Vals xs us):us=[] ↔ xs=[]:=by
 cases r with
 | nil=>simp
 | cons _ _=>simp
theorem iU:OpR X (binaryOp .Add) (nO X.K):=by
 intro jb s U H x y v u Q I rx ry h;obtain⟨a,b,xs,ys,rfl,rfl,ha,hb,hx,hz,q1,q2⟩:=h;cases rx;cases ry;obtain⟨its,r1,p1,_⟩:=I.tuple ha;obtain⟨its2,r2,p2,_⟩:=I.tuple hb;refine HT.jy p1 p2 (λz=>hx (r1.Rq.mp z)) (λz=>⟨.ref a,H,I,rq,q1 (r2.Rq.mp z)⟩) (λz=>?_) (by rw[<-r1.length,<-r2.length];exact hz);refine⟨.ref s.heap.objs.size,_,I.laid (t':=s.toks) (o:=.tup (xs++ys)) (λb ob q=>Qat _ q) (Qcr _) ?_,rq,q2 (λw=>z (r2.Rq.mpr w)) _ (I.hok.fresh (Qcr _))⟩;exact⟨by rw[QaN];exact hz,_,r1.append r2,IsTup.new _ _⟩
end
def ixN (n:Nat) (i:Int):Option Nat:=if 0<=i then (if i < n then some i.toNat else none) else if -(n:Int)<=i then some (i+n).toNat else none
def atI {α : Type} (xs:List α) (i:Int):Option α:=(ixN xs.length i).bind λj=>xs[j]?
theorem Xq {n:Nat} {i:Int} {j:Nat} (h:ixN n i=some j):seqIndex? i n=some j/\j < n/\-(n:Int)<=i/\i < n:=by
 unfold ixN at h;by_cases h0:0<=i
 ·rw[if_pos h0] at h;by_cases h1:i < n
  ·rw[if_pos h1] at h;have e:i.toNat=j:=QbK h;exact⟨by rw[seqIndex_of h0 h1,e],by omega,by omega,h1⟩
  ·rw[if_neg h1] at h;cases h
 ·rw[if_neg h0] at h;by_cases h1:-(n:Int)<=i
  ·rw[if_pos h1] at h;have e:(i+n).toNat=j:=QbK h;exact⟨by rw[seqIndex_neg (by omega) h1,e],by omega,h1,by omega⟩
  ·rw[if_neg h1] at h;cases h
theorem RN {α : Type} {xs:List α} {i:Int} {v:α} (h:atI xs i=some v):∃j,seqIndex? i xs.length=some j/\xs[j]?=some v/\j < xs.length/\-(xs.length:Int)<=i/\i < xs.length:=by
 unfold atI at h;cases e:ixN xs.length i with
 | none=>rw[e] at h;cases h
 | some j=>
  rw[e] at h;obtain⟨h1,h2,h3,h4⟩:=Xq e;exact⟨j,h1,h,h2,h3,h4⟩
theorem Fy {α : Type} {xs:List α} {j:Nat} {v:α} (h:xs[j]?=some v):atI xs (j:Int)=some v:=by
 have hj:j < xs.length:=(Qaf.mp h).1;have e:ixN xs.length (j:Int)=some j:=by
  unfold ixN;rw[if_pos (by omega),if_pos (by omega)];simp
 unfold atI;rw[e];exact h
def jD (b:Expr):Prop:=∀o i,subscripted b false o i=operate [o,i] (getItem o i)
def IxR (X:Cx) (r:R2):Prop:=
 ∀(value slice:Expr) (jb:YC) (s:Shared) (U : St) (H:Hp) (x y:V) (v u:Value) (Q:VK),Inv X jb U H s->RelV x v->RelV y u->r x y H Q ->
  subscripted slice false v u=operate [v,u] (getItem v u)->wpAny (model X.prog X.w) X.A (subscriptTail value slice v u) (EP X jb U Q) X.xe s
def MtR (X:Cx) (id:String) (r:V->YG->Hp->VK->Prop):Prop:=
 ∀(jb:YC) (s:Shared) (U : St) (H:Hp) (x:V) (xs:YG) (v:Value) (us:YE) (Q:VK),Inv X jb U H s->RelV x v->Vals xs us->r x xs H Q ->
  wpAny (model X.prog X.w) X.A (call (.builtin id) (v::us)) (EP X jb U Q) X.xe s
section
variable {X:Cx} {a b:Expr} {ta tb:TE} {pos:Pos}
theorem Cu {r:R2} (hr:IxR X r) (ha:PE X a ta) (hb:PE X b tb) (hs:jD b):PE X (.Subscript a b pos) (tOp r ta tb):=by
 intro jb s U H Q I h;exact Subscript_ (fV ha hb I h λv u s2 x y H2 I2 rx ry q=>hr a b jb s2 U H2 x y v u Q I2 rx ry q (hs _ _))
def pK (K:YD):R2:=λx y H Q=>∃p xs i v,x=.ref p/\y=.int i/\SqL K H p xs/\atI xs i=some v/\Q v H
def pI (K:YD):R2:=λx y H Q=>∃p xs i v,x=.ref p/\y=.int i/\SqT K H p xs/\atI xs i=some v/\Q v H
def pJ:R2:=λx y H Q=>∃z i c,x=.str z/\y=.int i/\z.length<=sizeLine/\atI z.cps.toList i=some c/\Q (.str ⟨#[c]⟩) H
theorem CJ:IxR X (pK X.K):=by
 intro value slice jb s U H x y v u Q I rx ry h hs;obtain⟨p,xs,i,z,rfl,rfl,hq,he,q⟩:=h;cases rx;obtain⟨t,rfl⟩:=ry;obtain⟨its,r,pl,hz⟩:=I.list hq;obtain⟨j,h1,h2,h3,h4,h5⟩:=RN he;obtain⟨w,ew,rw'⟩:=r.get h2;have hl:=r.length;have hn:=JX;have fin:EP X jb U Q w s:=⟨z,H,I,rw',q⟩;by_cases h0:0<=i
 ·have hj:i.toNat=j:=by
   rw[seqIndex_of h0 h5] at h1;exact QbK h1
  exact item_listR pl.isList h0 (by omega) (by rw[hj];simpa using ew) fin hs
 ·have hj:(i+(its.toArray.size:Int)).toNat=j:=by
   rw[seqIndex_neg (by omega) h4] at h1;rw[Qbc,<-hl];exact QbK h1
  exact subscriptTail_builtinR (x:=w) pl.isList.typeIs slot_list_getitem.lookup
   (wpAny_getItem_list_neg (Q:=λr s'=>r=w/\EP X jb U Q r s') pl.isList (by omega) (by rw[Qbc] <;> omega) (by omega) (by rw[hj];simpa using ew) ⟨rq,fin⟩) hs
theorem Jg:IxR X (pI X.K):=by
 intro value slice jb s U H x y v u Q I rx ry h hs;obtain⟨p,xs,i,z,rfl,rfl,hq,he,q⟩:=h;cases rx;obtain⟨t,rfl⟩:=ry;obtain⟨its,r,pl,hz⟩:=I.tuple hq;obtain⟨j,h1,h2,h3,h4,h5⟩:=RN he;obtain⟨w,ew,rw'⟩:=r.get h2;have hl:=r.length;have hn:=JX;have fin:EP X jb U Q w s:=⟨z,H,I,rw',q⟩;exact subscriptTail_builtinR (x:=w) pl.typeIs slot_tuple_getitem.lookup
  (getItem_tuple (j:=j) (Q:=λr s'=>r=w/\EP X jb U Q r s') pl (by omega) (by omega) (by rw[Qbc,<-hl];exact h1) (by simpa using ew) ⟨rq,fin⟩) hs
theorem lM:IxR X pJ:=by
 intro value slice jb s U H x y v u Q I rx ry h hs;obtain⟨z,i,c,rfl,rfl,hz,he,q⟩:=h;obtain⟨t,rfl⟩:=rx;obtain⟨t',rfl⟩:=ry;obtain⟨j,h1,h2,h3,h4,h5⟩:=RN he;have hl:z.cps.toList.length=z.length:=by simp[Str.length]
 rw[hl] at h1 h4 h5;have hn:=JX;exact tail_any (typeIs_str s z t) slot_str_getitem.lookup (getItem_str (c:=c) (by
  have e1:decide (i < -(2 ^ 63:Int))=false:=QbL (by omega);have e2:decide (i ≥ 2 ^ 63)=false:=QbL (by omega);rw[e1,e2,Bool.or_false]) (by rw[h1];simpa using h2) ⟨.str ⟨#[c]⟩,H,I.tok _,⟨_,rq⟩,q⟩) hs
theorem YS (its:YE) (n j:Nat) (u:Value):Obj.mapSeq (·.setIfInBounds j u) { cls:=.type "list",data:=.seq its.toArray n }={ cls:=.type "list",data:=.seq (its.set j u).toArray n }:=by
 simp[Obj.mapSeq]
theorem Inv.lst {jb:YC} {U : St} {H:Hp} {s:Shared} {p:Addr} {xs:YG} (I:Inv X jb U H s) (h:H p=some (.lst xs)) :
  ∃(its:YE) (n:Nat),Vals xs its/\s.heap.get? p=some { cls:=.type "list",data:=.seq its.toArray n }/\xs.length<=sizeLine:=by
 obtain⟨z,its,n,r,e⟩:=I.hok p _ h;exact⟨its,n,r,e,z⟩
theorem Inv.lF {jb:YC} {U : St} {H:Hp} {s:Shared} {p:Addr} {xs ys:YG} {its its':YE} {n n':Nat} {f:Obj->Obj} (I:Inv X jb U H s) (h:H p=some (.lst xs))
  (ho:s.heap.get? p=some { cls:=.type "list",data:=.seq its.toArray n }) (hf:f { cls:=.type "list",data:=.seq its.toArray n }={ cls:=.type "list",data:=.seq its'.toArray n' }) (r:Vals ys its') (hz:ys.length<=sizeLine) (t:Nat) :
  Inv X jb U (upd H p (.lst ys)) { s with heap:=s.heap.update p f,toks:=t }:=by
 have e:(s.heap.update p f).get? p=some { cls:=.type "list",data:=.seq its'.toArray n' }:=by
  rw[Qaz f ho (by rw[hf] <;> rfl),hf]
 refine I.write (x:=p) (e:=p) (by rw[h];trivial) (.inl rfl) (λb u hb q=>(Heap.get?_update_other _ _ (Ne.symm hb)).trans q) ⟨_,e⟩ ?_;exact⟨hz,its',n',r,e⟩
def nM:V->V->V->Hp->(Hp->Prop)->Prop:=λo i v H Q=>∃p xs k j,o=.ref p/\i=.int k/\H p=some (.lst xs)/\ixN xs.length k=some j/\Q (upd H p (.lst (xs.set j v)))
theorem set_list:m8 X nM:=by
 intro jb s U H o i v ov iv u Q I ro ri rv h;obtain⟨p,xs,k,j,rfl,rfl,hp,hj,q⟩:=h;cases ro;obtain⟨t,rfl⟩:=ri;obtain⟨its,n,r,ho,hz⟩:=I.lst hp;obtain⟨h1,h2,h3,h4⟩:=Xq hj;have hl:=r.length;have hn:=JX;have I':Inv X jb U (upd H p (.lst (xs.set j v))) { s with heap:=s.heap.update p (Obj.mapSeq (·.setIfInBounds j u)) }:=
  I.lF hp ho (YS its n j u) (r.set rv j) (by rw[List.length_set];exact hz) s.toks
 by_cases h0:0<=k
 ·have hk:k.toNat=j:=by
   rw[seqIndex_of h0 h4] at h1;exact QbK h1
  exact PySem.W.ki_setAt ho h0 (by omega) (by rw[Qbc,<-hl];exact h4) (by rw[hk];exact⟨_,I',q⟩)
 ·have hk:(k+(its.toArray.size:Int)).toNat=j:=by
   rw[seqIndex_neg (by omega) h3] at h1;rw[Qbc,<-hl];exact QbK h1
  exact PySem.W.ki_setBack ho (by omega) (by rw[Qbc,<-hl];exact h3) (by omega) (by rw[hk];exact⟨_,I',q⟩)
theorem Uy (lo hi:Option Int) (n:Nat):(sliceBounds lo hi none n).1=((HT.sIx n 0 lo:Nat):Int)/\(sliceBounds lo hi none n).2.1=((HT.sIx n n hi:Nat):Int)/\(sliceBounds lo hi none n).2.2=1:=by
 refine⟨?_,?_,rq⟩
 ·cases lo with
  | none=>simp[sliceBounds,HT.sIx]
  | some i=>
   simp only[sliceBounds,HT.sIx,Option.getD_none,show (1:Int) > 0 by decide,if_true];by_cases h:i < 0
   ·simp only[h,if_true] <;> omega
   ·simp only[h,QcD] <;> omega
 ·cases hi with
  | none=>simp[sliceBounds,HT.sIx]
  | some i=>
   simp only[sliceBounds,HT.sIx,Option.getD_none,show (1:Int) > 0 by decide,if_true];by_cases h:i < 0
   ·simp only[h,if_true] <;> omega
   ·simp only[h,QcD] <;> omega
theorem Tn (its:YE) (lo hi:Option Int):slicePick its.toArray lo hi none=((its.drop (HT.sIx its.length 0 lo)).take (HT.sIx its.length its.length hi - HT.sIx its.length 0 lo)).toArray:=by
 obtain⟨h1,h2,h3⟩:=Uy lo hi its.toArray.size;unfold slicePick;rw[h1,h2,h3];simp only[sliceRange_one,pick_run,Qbc] <;> rfl
def pH (K:YD):V->Option Int->Option Int->Hp->VK->Prop:=λx lo hi H Q=>∃a xs,x=.ref a/\SqL K H a xs/\∀p,H p=none->Q (.ref p) (upd H p (.lst (Fz xs lo hi)))
theorem Q9:SlR X (pH X.K):=by
 intro jb s U H x v vl vu lo hi sl Q I rx hs pl pu h;obtain⟨a,xs,rfl,hx,q⟩:=h;cases rx;obtain⟨its,r,ht,hz⟩:=I.list hx;have hlen:=r.length;refine⟨"list",_,slot_list_getitem.lookup,ht.isList.typeIs,?_⟩;refine wpAny_getItem_list_slice ht.isList hs pl pu .none (by simp) ?_ (by rw[Qbc] <;> omega);rw[Tn,<-hlen];refine⟨.ref s.heap.objs.size,_,I.laid (t':=s.toks) (o:=.lst (Fz xs lo hi)) (λb ob q=>Qat _ q) (Qcr _) ?_,rq,q _ (I.hok.fresh (Qcr _))⟩;exact⟨Qcn (Oo xs lo hi) hz,_,0,(r.drop (HT.sIx xs.length 0 lo)).take (HT.sIx xs.length xs.length hi - HT.sIx xs.length 0 lo),QaI _ rfl⟩
def Iu:V->Bool
 | .non=>true
 | .bl _=>true
 | .int _=>true
 | .str _=>true
 | _=>false
def eqV:V->V->Bool
 | .non,.non=>true
 | .bl a,.bl b=>a == b
 | .bl a,.int b=>(if a then 1 else 0) == b
 | .int a,.bl b=>a == (if b then 1 else 0)
 | .int a,.int b=>a == b
 | .str a,.str b=>a == b
 | _,_=>false
theorem mQ {A:Around} {s:Shared} {y x:V} {u v:Value} (ry:RelV y u) (rx:RelV x v) (fy:Iu y=true) (fx:Iu x=true):SeqAt.EqAt A s u v (eqV y x):=by
 cases y with
 | non=>
  cases ry;cases x with
  | non=>cases rx;exact SeqAt.EqAt.same _
  | bl b=>cases rx;exact SeqAt.EqAt.none_bool b
  | int b=>obtain⟨t,rfl⟩:=rx;exact SeqAt.EqAt.none_int b t
  | str b=>obtain⟨t,rfl⟩:=rx;exact SeqAt.EqAt.none_str b t
  | _=>exact absurd (show false=true from fx) QaS
 | bl a=>
  cases ry;cases x with
  | non=>cases rx;exact SeqAt.EqAt.bool_none a
  | bl b=>cases rx;exact SeqAt.EqAt.bool_bool a b
  | int b=>obtain⟨t,rfl⟩:=rx;exact SeqAt.EqAt.bool_int a b t
  | str b=>obtain⟨t,rfl⟩:=rx;exact SeqAt.EqAt.bool_str a b t
  | _=>exact absurd (show false=true from fx) QaS
 | int a=>
  obtain⟨t',rfl⟩:=ry;cases x with
  | non=>cases rx;exact SeqAt.EqAt.int_none a t'
  | bl b=>cases rx;exact SeqAt.EqAt.int_bool a t' b
  | int b=>obtain⟨t,rfl⟩:=rx;exact SeqAt.EqAt.int_int a t' b t
  | str b=>obtain⟨t,rfl⟩:=rx;exact SeqAt.EqAt.int_str a t' b t
  | _=>exact absurd (show false=true from fx) QaS
 | str a=>
  obtain⟨t',rfl⟩:=ry;cases x with
  | non=>cases rx;exact SeqAt.EqAt.str_none a t'
  | bl b=>cases rx;exact SeqAt.EqAt.str_bool a t' b
  | int b=>obtain⟨t,rfl⟩:=rx;exact SeqAt.EqAt.str_int a t' b t
  | str b=>obtain⟨t,rfl⟩:=rx;exact SeqAt.EqAt.str_str a t' b t
  | _=>exact absurd (show false=true from fx) QaS
 | _=>exact absurd (show false=true from fy) QaS
def eqU (x:V) (u:Value):Bool:=match u with
 | .none=>eqV .non x
 | .bool b=>eqV (.bl b) x
 | .int i _=>eqV (.int i) x
 | .str z _=>eqV (.str z) x
 | _=>false
theorem bA {x y:V} {u:Value} (r:RelV y u) (f:Iu y=true):eqU x u=eqV y x:=by
 cases y with
 | non=>cases r;rfl
 | bl b=>cases r;rfl
 | int i=>obtain⟨t,rfl⟩:=r;rfl
 | str z=>obtain⟨t,rfl⟩:=r;rfl
 | _=>exact absurd (show false=true from f) QaS
theorem Lb {x:V}:∀{xs:YG} {us:YE},Vals xs us->xs.all Iu=true->us.any (eqU x)=xs.any λy=>eqV y x
 | _,_,.nil,_=>rfl
 | y::xs,u::us,.cons r t,f=>by
  rw[List.all_cons,Qbx] at f;rw[Qci,Qci,bA r f.1,Lb t f.2]
theorem JW {A:Around} {s:Shared} {x:V} {v:Value} (rx:RelV x v) (fx:Iu x=true):∀{xs:YG} {us:YE},Vals xs us->xs.all Iu=true->∀u∈us,SeqAt.EqAt A s u v (eqU x u)
 | _,_,.nil,_=>λu hu=>by cases hu
 | y::xs,u::us,.cons r t,f=>λu' hu=>by
  rw[List.all_cons,Qbx] at f;rcases Qcc.mp hu with rfl | hu
  ·rw[bA r f.1];exact mQ r rx f.1 fx
  ·exact JW rx fx t f.2 u' hu
def inV (x:V) (xs:YG):Bool:=xs.any λy=>eqV y x
def rIn (K:YD) (neg:Bool):R2:=λx y H Q=>∃p xs,y=.ref p/\(SqL K H p xs\/SqT K H p xs)/\Iu x=true/\xs.all Iu=true/\Q (.bl (if neg then !inV x xs else inV x xs)) H
theorem Ni:OpR X (compareOp .In) (rIn X.K false):=by
 intro jb s U H x y v u Q I rx ry h;obtain⟨p,xs,rfl,hq,fx,fs,q⟩:=h;cases ry;rcases hq with hq | hq
 ·obtain⟨its,r,pl,hz⟩:=I.list hq;refine SeqAt.in_listAt (eqU x) pl.isList (λw hw=>JW rx fx r fs w (by simpa using hw)) ⟨.bl _,H,I,rq,?_⟩;rw[show its.toArray.any (eqU x)=its.any (eqU x) by simp,Lb r fs];exact q
 ·obtain⟨its,r,pl,hz⟩:=I.tuple hq;refine SeqAt.in_tupleAt (eqU x) pl (λw hw=>JW rx fx r fs w (by simpa using hw)) ⟨.bl _,H,I,rq,?_⟩;rw[show its.toArray.any (eqU x)=its.any (eqU x) by simp,Lb r fs];exact q
theorem Vb:OpR X (compareOp .NotIn) (rIn X.K true):=by
 intro jb s U H x y v u Q I rx ry h;obtain⟨p,xs,rfl,hq,fx,fs,q⟩:=h;cases ry;rcases hq with hq | hq
 ·obtain⟨its,r,pl,hz⟩:=I.list hq;refine SeqAt.notIn_listAt (eqU x) pl.isList (λw hw=>JW rx fx r fs w (by simpa using hw)) ⟨.bl _,H,I,rq,?_⟩;rw[show its.toArray.any (eqU x)=its.any (eqU x) by simp,Lb r fs];exact q
 ·obtain⟨its,r,pl,hz⟩:=I.tuple hq;refine SeqAt.notIn_tupleAt (eqU x) pl (λw hw=>JW rx fx r fs w (by simpa using hw)) ⟨.bl _,H,I,rq,?_⟩;rw[show its.toArray.any (eqU x)=its.any (eqU x) by simp,Lb r fs];exact q
theorem CG:Ds X (.builtin "len") (λxs H Q=>∃p ys,xs=[.ref p]/\(SqL X.K H p ys\/SqT X.K H p ys)/\Q (.int ys.length) H):=by
 intro jb s U H xs us Q I r h;obtain⟨p,ys,rfl,hq,q⟩:=h;obtain⟨u,rfl,rx⟩:=vals1 r;cases rx;have hn:=JX;rcases hq with hq | hq
 ·obtain⟨its,r',pl,hz⟩:=I.list hq;have hlen:=r'.length;exact Calls.call_len_list pl.isList (by simp only[Qbc] <;> omega) ⟨.int ys.length,H,I.tok _,⟨s.toks+1,by rw[Qbc,hlen]⟩,q⟩
 ·obtain⟨its,r',pl,hz⟩:=I.tuple hq;have hlen:=r'.length;exact len_tuple pl (by simp only[Qbc] <;> omega) ⟨.int ys.length,H,I.tok _,⟨s.toks+1,by rw[Qbc,hlen]⟩,q⟩
theorem Nt:Ds X (.builtin "len") (λxs H Q=>∃z,xs=[.str z]/\z.length<=sizeLine/\Q (.int z.length) H):=by
 intro jb s U H xs us Q I r h;obtain⟨z,rfl,hz,q⟩:=h;obtain⟨u,rfl,t,rfl⟩:=vals1 r;have hn:=JX;exact len_str (by omega) ⟨.int z.length,H,I.tok _,⟨_,rq⟩,q⟩
theorem Bm:Ds X (.type "tuple") (λxs H Q=>∃p ys,xs=[.ref p]/\((SqL X.K H p ys/\∀l,H l=none->Q (.ref l) (upd H l (.tup ys)))\/(SqT X.K H p ys/\Q (.ref p) H))):=by
 intro jb s U H xs us Q I r h;obtain⟨p,ys,rfl,h⟩:=h;obtain⟨u,rfl,rx⟩:=vals1 r;cases rx;rcases h with⟨hq,q⟩|⟨hq,q⟩
 ·obtain⟨its,r',pl,hz⟩:=I.list hq;have hlen:=r'.length;refine call_tuple_list pl.isList (λh' kp=>?_) (by simp only[Qbc] <;> omega);have I1:Inv X jb U H { s with heap:=h' }:=I.kept (t':=s.toks) kp;have I2:Inv X jb U (upd H h'.objs.size (.tup ys)) { s with heap:=h'.push { cls:=.type "tuple",data:=.seq its.toArray } }:=
   I1.laid (t':=s.toks) (λb o e=>Qat _ e) (Qcr _) (show BW X.prog X.w _ _ _ (.tup ys) from⟨hz,its,r',IsTup.new _ _⟩)
  exact⟨.ref h'.objs.size,_,I2,rq,q _ (I1.hok.fresh (Qcr _))⟩
 ·obtain⟨its,r',pl,hz⟩:=I.tuple hq;exact call_tuple_same pl ⟨.ref p,H,I,rq,q⟩
def tyV (K:YD) (T:String) (x:V) (H:Hp):Prop:=match x with
 | .str _=>T="str"
 | .int _=>T="int"
 | .ref p=>(T="list"/\∃xs,SqL K H p xs)\/(T="tuple"/\∃o,K.lookup p=some o/\o.cls=.type "tuple"/\o.dict=none) \/
   (T="dict"/\((∃kvs,H p=some (.dK kvs))\/∃kvs,H p=some (.dT kvs)))\/(T="set"/\∃S n,H p=some (.set S n))
 | _=>False
theorem jH {jb:YC} {U : St} {H:Hp} {s:Shared} {T:String} {x:V} {v:Value} (I:Inv X jb U H s) (r:RelV x v) (ty:tyV X.K T x H) :
  s.TypeIs v T/\∀a,v=.ref a->∃ob,s.heap.get? a=some ob/\ob.dict=none:=by
 cases x with
 | str z=>
  obtain⟨t,rfl⟩:=r;cases (show T="str" from ty)
  exact⟨typeIs_str s z t,λ_ e=>nomatch e⟩
 | int i=>
  obtain⟨t,rfl⟩:=r;cases (show T="int" from ty)
  exact⟨typeIs_int s i t,λ_ e=>nomatch e⟩
 | ref p=>
  cases r;rcases ty with⟨rfl,xs,hq⟩|⟨rfl,o,hk,hc,hd⟩|⟨rfl,hk⟩|⟨rfl,S,n,hk⟩
  ·obtain⟨its,_,pl,_⟩:=I.list hq;refine⟨pl.isList.typeIs,λa e=>?_⟩;cases e;obtain⟨o,n,e,c,hd,_⟩:=pl;exact⟨o,e,hd⟩
  ·refine⟨⟨o,I.kIn p o hk,hc⟩,λa e=>?_⟩;cases e;exact⟨o,I.kIn _ o hk,hd⟩
  ·have z:∃o,s.heap.get? p=some o/\o.ExactDict:=by
    rcases hk with⟨kvs,hk⟩|⟨kvs,hk⟩
    ·obtain⟨_,_,_,_,o,_,_,e,ex,_⟩:=I.hok p _ hk;exact⟨o,e,ex⟩
    ·obtain⟨_,_,_,_,o,_,_,e,ex,_⟩:=I.hok p _ hk;exact⟨o,e,ex⟩
   obtain⟨o,e,ex⟩:=z;refine⟨⟨o,e,ex.1⟩,λa e2=>?_⟩;cases e2;exact⟨o,e,ex.2.1⟩
  ·obtain⟨o,_,_,_,e,ex,_⟩:=I.hok p _ hk;refine⟨⟨o,e,ex.1⟩,λa e2=>?_⟩;cases e2;exact⟨o,e,ex.2.1⟩
 | _=>exact False.elim ty
def tBM (K:YD) (T:String) (r:V->YG->Hp->VK->Prop) (to:TE) (t:TA):TE:=fun U H Q=>to U H λx H1=>tyV K T x H1/\t U H1 λxs H2=>r x xs H2 Q
variable {o e:Expr} {es:YJ} {to:TE} {t:TA} {name:Str} {apos cpos:Pos} {T id:String} {r:V->YG->Hp->VK->Prop}
theorem BR (pa:PlainAttrs T) (slot:Slot T name id) (hty:typeOf (.builtin id)=pure (.type "method_descriptor")) (hm:MtR X id r) (ho:PE X o to) (ha:PA X (e::es) t)
  (hbase:attributeBase o name X.env (eval o X.env)=eval o X.env:=by rfl)
  (hfew:((backTo cpos (starEach (e::es) X.env)).all (λx=>!x.1)&&(backToKw cpos (keywordEach [] X.env)).all (λx=>x.1.isSome)
  &&decide ((e::es).length+([]:List Keyword).length+(if ([]:List Keyword).isEmpty then 0 else 1) < 30))=true:=by rfl)
  (hline:(apos.endLine == cpos.line)=true:=by rfl) (hs:starEach (e::es) X.env=(false,eval e X.env)::starEach es X.env:=by rfl) (hplain:(backTo cpos (starEach es X.env)).any (·.1)=false:=by rfl) :
  PE X (.Call (.Attribute o name apos) (e::es) [] cpos) (tBM X.K T r to t):=by
 intro jb s U H Q I h;refine wpAny_Call_method_late hbase hfew hline rfl (thn (ho jb s U H _ I h) λv s1 zz=>?_);obtain⟨x,H1,I1,r1,ty,q1⟩:=zz;obtain⟨h1,h2⟩:=jH I1 r1 ty;refine⟨T,id,pa,slot,hty,h1,h2,?_⟩;have hA:=ha cpos jb s1 U H1 _ I1 q1;rw[hs] at hA ⊢;refine Calls.callWith_builtin (by show (false || (backTo cpos (starEach es X.env)).any (·.1))=false;rw[hplain] <;> rfl) (Calls.evalArgs_plain ?_);refine thn hA λus s2 zz=>?_;obtain⟨vs,H2,I2,r2,q2⟩:=zz;exact hm jb s2 U H2 x vs v us Q I2 r1 r2 q2
end
def MtM (X:Cx) (id:String) (r:V->YG->Hp->VK->Prop):Prop:=
 ∀(jb:YC) (s:Shared) (U : St) (H:Hp) (x:V) (xs:YG) (v:Value) (us:YE) (Q:VK),Inv X jb U H s->RelV x v->Vals xs us->r x xs H Q ->
  wpAny (model X.prog X.w) X.A (call (.builtin id) (v::us)) (EP X jb U Q) X.xe s
theorem Vals.one:∀{x:V} {us:YE},Vals [x] us->∃u,us=[u]/\RelV x u
 | _,_,.cons r .nil=>⟨_,rfl,r⟩
theorem Vals.two:∀{x y:V} {us:YE},Vals [x,y] us->∃u v,us=[u,v]/\RelV x u/\RelV y v
 | _,_,_,.cons r (.cons q .nil)=>⟨_,_,rfl,r,q⟩
theorem Vals.zero:∀{us:YE},Vals [] us->us=[]
 | _,.nil=>rfl
theorem Vals.eraseIdx:∀{xs:YG} {us:YE} (i:Nat),Vals xs us->Vals (xs.eraseIdx i) (us.eraseIdx i)
 | _,_,_,.nil=>.nil
 | _,_,0,.cons _ t=>t
 | _,_,i+1,.cons r t=>.cons r (Vals.eraseIdx i t)
theorem Vals.reverse {xs:YG} {us:YE} (h:Vals xs us):Vals xs.reverse us.reverse:=by
 induction h with
 | nil=>exact .nil
 | cons r t ih=>rw[List.reverse_cons,List.reverse_cons];exact Vals.append ih (.cons r .nil)
theorem Sv {α : Type}:∀(l:List α) (i:Nat),(l.eraseIdx i).length<=l.length
 | [],_=>Qcr _
 | _::_,0=>Qcw _
 | _::r,i+1=>Nat.succ_le_succ (Sv r i)
section
variable {X:Cx} {jb:YC} {U : St} {H:Hp} {s:Shared} {l b:Addr} {xs ys zs:YG}
theorem Inv.eG {its its':YE} {n:Nat} {f:Array Value->Array Value} {t':Nat} (I:Inv X jb U H s) (hH:H l=some (.lst xs))
  (e:s.heap.get? l=some { cls:=.type "list",data:=.seq its.toArray n }) (hf:f its.toArray=its'.toArray) (hv:Vals ys its') (hz:ys.length<=sizeLine) :
  Inv X jb U (upd H l (.lst ys)) { s with heap:=s.heap.update l (Obj.mapSeq f),toks:=t' }:=by
 have q:=PySem.IsL.update e f;rw[hf] at q;refine I.write (x:=l) (e:=l) (by rw[hH];exact trivial) (.inl rfl) (λb' u hb hu=>(Heap.get?_update_other s.heap (Obj.mapSeq f) (Ne.symm hb)).trans hu) ⟨_,q⟩ ?_;exact⟨hz,its',_,hv,q⟩
theorem Inv.pW {its:YE} {t':Nat} (I:Inv X jb U H s) (hv:Vals ys its) (hz:ys.length<=sizeLine) :
  Inv X jb U (upd H s.heap.objs.size (.lst ys)) { s with heap:=s.heap.push { cls:=.type "list",data:=.seq its.toArray },toks:=t' }:=
 I.laid (λ_ _ q=>Qat _ q) (Qcr _) ⟨hz,its,0,hv,QaI _ rfl⟩
theorem Inv.fresh (I:Inv X jb U H s):H s.heap.objs.size=none:=I.hok.fresh (Qcr _)
theorem Inv.Rx (I:Inv X jb U H s) (hH:H l=some (.lst xs)):xs.length<=sizeLine/\∃(its:YE) (n:Nat),Vals xs its/\xs.length=its.length/\s.heap.get? l=some { cls:=.type "list",data:=.seq its.toArray n }:=by
 obtain⟨z,its,n,r,e⟩:=I.hok l _ hH;exact⟨z,its,n,r,r.length,e⟩
theorem d7 {n:Nat} (h:n<=sizeLine):Builtin.List.listTooLong n=false:=by
 unfold Builtin.List.listTooLong;exact QbL (by omega)
end
section
variable {X:Cx}
def iD:V->YG->Hp->VK->Prop:=λx vs H Q=>∃l xs y,x=.ref l/\vs=[y]/\H l=some (.lst xs)/\xs.length < sizeLine/\Q .non (upd H l (.lst (xs++[y])))
theorem Ce:MtM X "list.append" iD:=by
 intro jb s U H x vs v us Q I rx rv h;obtain⟨l,xs,y,rfl,rfl,hH,hz,q⟩:=h;cases rx;obtain⟨u,rfl,ru⟩:=rv.one;obtain⟨z,its,n,r,hl,e⟩:=I.Rx hH;refine call_meets F.slot_list_append ⟨_,e,rq⟩ F.entry_list_append (F.args_list_append_2 _ _) (PySem.list_append l its.toArray n u (by rw[Qbc];omega)) ⟨e,?_⟩;refine⟨.non,_,I.eG (its':=its++[u]) hH e (by simp) (r.append (.cons ru .nil)) ?_,rq,q⟩;rw[QaN,QaA];omega
def iC:V->YG->Hp->VK->Prop:=λx vs H Q=>∃l b xs zs,x=.ref l/\vs=[.ref b]/\H l=some (.lst xs)/\H b=some (.lst zs)/\xs.length+zs.length<=sizeLine/\Q .non (upd H l (.lst (xs++zs)))
theorem Kh:MtM X "list.extend" iC:=by
 intro jb s U H x vs v us Q I rx rv h;obtain⟨l,b,xs,zs,rfl,rfl,hH,hB,hz,q⟩:=h;cases rx;obtain⟨u,rfl,ru⟩:=rv.one;cases ru;obtain⟨z,its,n,r,hl,e⟩:=I.Rx hH;obtain⟨z2,its2,n2,r2,hl2,e2⟩:=I.Rx hB;have hsz:its.toArray.size+its2.toArray.size<=sizeLine:=by rw[Qbc,Qbc];omega
 have oJ:¬(!its.toArray.isEmpty&&Builtin.List.listTooLong (its.toArray.size+its2.toArray.size))=true:=by
  rw[d7 hsz,Bool.and_false];exact QaS
 refine call_meets F.slot_list_extend ⟨_,e,rq⟩ F.entry_list_extend (F.args_list_extend_2 _ _)
  (AutoSeq1.list_extend_list_list_0 l its.toArray n b its2.toArray n2 oJ (by rw[Qbc];omega) (by omega)) ⟨e,e2,?_⟩
 refine⟨.non,_,I.eG (its':=its++its2) hH e (by simp) (r.append r2) ?_,rq,q⟩;rw[QaN];omega
def jZ:V->YG->Hp->VK->Prop:=λx vs H Q=>∃l xs i k y,x=.ref l/\vs=[.int i]/\H l=some (.lst xs)/\-(2 ^ 63)<=i/\i < 2 ^ 63/\seqIndex? i xs.length=some k/\xs[k]?=some y/\Q y (upd H l (.lst (xs.eraseIdx k)))
theorem Vt:MtM X "list.pop" jZ:=by
 intro jb s U H x vs v us Q I rx rv h;obtain⟨l,xs,i,k,y,rfl,rfl,hH,h1,h2,hk,hy,q⟩:=h;cases rx;obtain⟨u,rfl,ru⟩:=rv.one;obtain⟨t,rfl⟩:=ru;obtain⟨z,its,n,r,hl,e⟩:=I.Rx hH;obtain⟨w,hw,rw'⟩:=r.get hy;refine call_meets F.slot_list_pop ⟨_,e,rq⟩ F.entry_list_pop (F.args_list_pop_2 _ _)
  (MeetsSeq.list_pop_at l its.toArray n i t k w (fitsIndex_both h1 h2) (by rw[Qbc,<-hl];exact hk) (by rw[<-Qay];exact hw) (by rw[Qbc];omega)) ⟨e,?_⟩
 refine⟨y,_,I.eG (its':=its.eraseIdx k) hH e ?_ (r.eraseIdx k) ?_,rw',q⟩
 ·show its.toArray.eraseIdxIfInBounds k=(its.eraseIdx k).toArray;rw[List.eraseIdxIfInBounds_toArray]
 ·have:=Sv xs k;omega
def pL:R2:=λx y H Q=>∃l b xs zs,x=.ref l/\y=.ref b/\H l=some (.lst xs)/\H b=some (.lst zs)/\xs.length+zs.length<=sizeLine/\∀p,H p=none->Q (.ref p) (upd H p (.lst (xs++zs)))
theorem kJ:OpR X (binaryOp .Add) pL:=by
 intro jb s U H x y v u Q I rx ry h;obtain⟨l,b,xs,zs,rfl,rfl,hH,hB,hz,q⟩:=h;cases rx;cases ry;obtain⟨z,its,n,r,hl,e⟩:=I.Rx hH;obtain⟨z2,its2,n2,r2,hl2,e2⟩:=I.Rx hB;refine PySem.P.add_list e e2 ?_ (by rw[Qbc,Qbc];omega);have ea:its.toArray++its2.toArray=(its++its2).toArray:=by simp
 rw[ea];exact⟨.ref _,_,I.pW (t':=s.toks) (r.append r2) (by rw[QaN];omega),rq,q _ I.fresh⟩
end
section
variable {prog:Program} {w:World} {A:Around} {E:YA} {s:Shared}
set_option maxRecDepth 100000 in
end
section
variable {X:Cx}
end
end L2
namespace Att
open PySem PySem.W PySem.Calls PyProof.Rows
theorem Qz {P:Params} {h:Heap}:∀(ns:List Int) (vs:YE),WellAll P h vs (ns.map WData.int)->IntsAre vs ns:=by
 intro ns
 induction ns with
 | nil=>
  intro vs w;rw[List.map_nil] at w;cases w;exact .nil
 | cons n ns ih=>
  intro vs w;rw[Qce] at w;cases w with
  | cons a b=>
   cases a;exact .cons _ _ (ih _ b)
theorem ZM {l:OpenLaw} {n:Nat} (hn:l.most=some n) {P:Params} {h:Heap} {args:List WData} {vals:YE}
  (hpre:l.row.toRowW.claim.pre args=true) (hwl:WellAll P h vals args) :
  ∃a vs ns,vals=[Value.ref a]/\args=[WData.list (ns.map WData.int)]/\h.get? a=some { cls:=.type "list",data:=.seq vs.toArray }/\IntsAre vs ns/\ns.length<=n:=by
 have hsh:WShape.hasAll [] args [.list .int]=true:=(pre_splitW hpre).1;have hc:l.pre.holds [] { args:=args }=true:=(pre_splitW hpre).2;obtain⟨d,r,rfl,h1,h2⟩:=hasAllW_cons hsh;obtain rfl:=hasAllW_nil h2;obtain⟨xs,rfl,h3⟩:=hasW_list h1;obtain⟨ns,rfl⟩:=items_int h3;have hlen:ns.length<=n:=by
  unfold OpenLaw.pre at hc;have h4:(WTm.not (.lt (.lit (.int (n:Int))) (.len (.arg 0)))).holds [] { args:=[.list (ns.map .int)] }=true:=by
   have h4:=(holds_andW hc).1;rw[hn] at h4;exact h4
  have h5:=condW_of h4 (w_not (w_lt w_lit (w_len_list (w_arg rfl))));rw[QbF] at h5;refine Nat.le_of_not_lt λq=>?_;have q':(n:Int) < ((ns.length:Nat):Int):=by omega
  first
   | (rw[QbX q'] at h5;exact absurd h5 (by decide))
   | (simp at h5;omega)
 cases hwl with
 | cons w1 w2=>
  cases w2;cases w1 with
  | list ho hall=>exact⟨_,_,ns,rfl,rfl,ho,Qz ns _ hall,hlen⟩
theorem ZX (l:OpenLaw) (args:List WData):l.row.toRowW.claim.post args (.bool true) args=true:=
 postW_of (r:=l.row.toRowW) (X:=(true == true))
  (show WShape.has [] (.bool true) .bool=true by first | rfl | decide | simp[WShape.has,WShape.arms,WShape.armsAll])
  (show (WTm.eq .res (.lit (.bool true))).value [] { args:=args,res:=some (.bool true),after:=args }=some (.bool (true == true)) from w_eq_bool (w_res rfl) w_lit) rfl
theorem WW {l:OpenLaw} {n:Nat} {q:Program} {loose:YF} {XP:(YB)->Heap->Prop} {YP:World->Heap->Prop} {d:DefRec}
  (hn:l.most=some n) (hdf:d.params.defaults=[])
  (call:∀(w:World) (s₀ s₁ : Shared) (mg mb:YB) (fa:Addr) (o:Obj) (pm cd doc:Value) (a:Addr) (vs:YE) (ns:List Int),
   Ground q loose [] XP w s₀ mg mb s₁.heap->YP w s₁.heap ->
   s₁.heap.get? fa=some o->o.data=.func (docDef d.name d.params d.body d.scope pm cd doc)->s₁.heap.CodeRec cd d.name->mg d.name=some (.ref fa) ->
   s₁.heap.get? a=some { cls:=.type "list",data:=.seq vs.toArray }->IntsAre vs ns->ns.length<=n->s₁.gens=#[] ->
   codeAny (model l.prog w) callerA (.call (.ref fa) ⟨[.ref a],[]⟩) (λr s'=>r=.ok (.ret (.bool true))/\OldK s₁.heap s'.heap/\s'.os=s₁.os/\AllBare s'.gens) s₁) :
  WalkO q loose XP YP l.row.toRowW d [] (λf vs=>PySem.call f vs):=by
 intro w s₀ s₁ mg mb G Y fa o pm cd doc dV kV ho hd hcd hD hmg hg args vals as hpre hlay hrd hwl hlo;obtain rfl:dV=.none:=Dflts.none hD hdf;obtain rfl:kV=.none:=Dflts.noKw hD;obtain⟨a,vs,ns,rfl,rfl,hobj,hints,hlen⟩:=ZM hn hpre hwl;refine enter_call (Qcq (call w s₀ s₁ mg mb fa o pm cd doc a vs ns G Y ho (fd_plain hd) hcd hmg hobj hints hlen hg) λr s' hq=>?_);obtain⟨rfl,h2,h3,h4⟩:=hq;exact⟨.inl ⟨.bool true,.bool true,[],rq,λ_=>rfl,.bool true,ZX l _,λ_=>⟨List.Pairwise.nil,λ_ hm=>(nomatch hm)⟩⟩,h2,h3,h4⟩
section
variable {prog:Program} {w:World} {A:Around} {E:YA} {s:Shared} {K:Frag}
end
end Att
namespace L2
open PySem PySem.Spec PyProof.Rows
theorem Mw:∀{vs:YE} {ns:List Int},IntsAre vs ns->Vals (ns.map V.int) vs
 | _,_,.nil=>.nil
 | _,_,.cons n t h=>.cons ⟨t,rfl⟩ (Mw h)
def Only (H:Hp):Prop:=∀b,H b=none\/∃o xs,H b=some (.frz o (.lst xs))
theorem eU {P:Program} {w:World} {K:YD} {mg mb:YB} {CX:CXT} {k:Nat} {fa a:Addr} {fd:FuncData} {x:Str} {sp:Sp} {s₁ : Shared} {vs:YE} {ns:List Int}
  (KX:K.In s₁.heap) (hns:s₁.heap.Ns mainGlobals mg) (hb:s₁.heap.Ns builtinsNs mb) (hbb:∀x:Str,x≠"__name__"->mb x=bootBuiltins x) (hlim:s₁.heap.NoLimit) (hg:s₁.gens=#[])
  (ha:s₁.heap.get? a=some { cls:=.type "list",data:=.seq vs.toArray }) (hi:IntsAre vs ns) (hl:ns.length<=sizeLine) (hr:Dr k callerA)
  (F:∀base:Heap,K.In base->base.Ns mainGlobals mg->Io P w K mg base CX k fa fd [x] sp) (hbind:∀(s:Shared) (u:Value),BindsTo s fd ⟨[u],[]⟩ [(x,u)])
  (hsp:∀H:Hp,Only H->SqL K H a (ns.map V.int)->sp [.ref a] H (λv _=>v=.bl true) λ_ _ _=>False)
  (hCX:∀H e s',CX [] H s₁ (λ_ _ _=>False) e s'->False) :
  codeAny (model P w) callerA (.call (.ref fa) ⟨[.ref a],[]⟩) (λr s'=>r=.ok (.ret (.bool true))/\OldK s₁.heap s'.heap/\s'.os=s₁.os/\AllBare s'.gens) s₁:=by
 have rv:=Mw hi;have lenV:=hi.length;have core:∀H:Hp,Only H->SqL K H a (ns.map V.int)->HOk P w H s₁.heap->(∀b,H b≠none->b=a)->(H a≠none->K.lookup a=none) ->
   codeAny (model P w) callerA (.call (.ref fa) ⟨[.ref a],[]⟩) (λr s'=>r=.ok (.ret (.bool true))/\OldK s₁.heap s'.heap/\s'.os=s₁.os/\AllBare s'.gens) s₁:=by
  intro H hO hS hok hA hK;have XH:∀{b:Addr} {o:Obj},s₁.heap.get? b=some o->H b=none->(LC s₁.heap H).get? b=some o:=λe n=>fG e n;have noA:∀{b:Addr} {o:Obj} {es:Array DictEntry} {ep:Nat},s₁.heap.get? b=some o->o.data=.dict es ep->H b=none:=λ{b o es ep} e d=>by
   cases q:H b with
   | none=>rfl
   | some u=>
    have e':b=a:=hA b (by rw[q];simp);subst e';rw[ha] at e;cases e;have d':Data.seq vs.toArray _=Data.dict es ep:=d;cases d'
  have nsK:∀{b:Addr} {m:YB},s₁.heap.Ns b m->(LC s₁.heap H).Ns b m:=λ{b m} ⟨o,es,ep,e,d,r⟩=>⟨o,es,ep,XH e (noA e d),d,r⟩;have hKb:K.In (LC s₁.heap H):=λb o e=>XH (KX b o e) (by
   cases q:H b with
   | none=>rfl
   | some u=>
    have e':b=a:=hA b (by rw[q];simp);subst e';rw[hK (by rw[q];simp)] at e;cases e)
  have hM:Mod K mg (LC s₁.heap H):=⟨hKb,nsK hns,⟨mb,nsK hb,hbb⟩,let ⟨mc,h1,h2⟩:=hlim;⟨mc,nsK h1,h2⟩⟩;have e0:Qf P w K mg (LC s₁.heap H) callerA [] s₁ H:=⟨rq,hM,λb o e=>jc e,Nat.le_of_eq (aN _ _),trivial,λb hb=>absurd (show b∈([]:List Addr) from hb) (by simp),hok,.of_eq hg⟩
  refine Qcq ((F _ hKb (nsK hns)).run callerA [] s₁ H ⟨[.ref a],[]⟩ [.ref a] [.ref a] _ _ hr e0 (hbind s₁ (.ref a)) (.cons rfl .nil) (hsp H hO hS)) λr s' h=>?_;cases r with
  | error e=>exact (hCX H e s' h).elim
  | ok fl=>
   cases fl with
   | next=>exact False.elim h
   | brk=>exact False.elim h
   | cont=>exact False.elim h
   | ret u=>
    obtain⟨v,H',os,bare,un,hok',r',q⟩:=h;have q':v=.bl true:=q;subst q';obtain rfl:u=Value.bool true:=r';refine⟨rq,OldK.of_keep λb o e=>?_,os,bare⟩;cases q:H b with
    | none=>exact un.keep b o e q (by intro z;exact absurd (show b∈([]:List Addr) from z) (by simp)) (by simp)
    | some u=>
     rcases hO b with z |⟨ob,xs,z⟩
     ·rw[q] at z;cases z
     ·have z2:=un.JZ b ob _ z;obtain⟨e1,_⟩:=hok b _ z;obtain⟨e2,_⟩:=hok' b _ z2;rw[e] at e1;cases e1;exact e2
 cases hk:K.lookup a with
 | some o=>
  have e:=KX a o hk;rw[ha] at e;cases e;refine core (λ_=>none) (λ_=>.inl rfl) (.inr ⟨_,vs.toArray,_,hk,rq,rq,rq,by rw[Qbc,lenV];exact hl,by simpa using rv⟩) (λb u z=>by have z':(none:Option HO)=some u:=z;cases z') (λb z=>absurd rfl z) λz=>absurd rfl z
 | none=>
  refine core (λb=>if b=a then some (.frz { cls:=.type "list",data:=.seq vs.toArray } (.lst (ns.map V.int))) else none) (λb=>?_) (.inl (.inr ⟨{ cls:=.type "list",data:=.seq vs.toArray },if_pos rfl⟩)) (λb u z=>?_) (λb z=>?_) λ_=>hk
  ·by_cases hb:b=a
   ·exact .inr ⟨_,_,if_pos hb⟩
   ·exact .inl (if_neg hb)
  ·by_cases hb:b=a
   ·have z':=(if_pos hb).symm.trans z;cases z';subst hb;exact⟨ha,by rw[QbF];exact hl,vs,_,rv,ha⟩
   ·have z':=(if_neg hb).symm.trans z;cases z'
  ·by_cases hb:b=a
   ·exact hb
   ·exact absurd (if_neg hb) z
theorem iu {l:PySem.W.OpenLaw} {n k:Nat} {q:Program} {loose:YF} {XP:(YB)->Heap->Prop} {YP:World->Heap->Prop} {d:DefRec} {K:Params->YD} {CX:World->CXT} {sp:World->Sp} {x:Str}
  (hn:l.most=some n) (hn2:n<=sizeLine) (hdf:d.params.defaults=[]) (hr:Dr k callerA)
  (hY:∀(w:World) (h:Heap),YP w h->(K w.params).In h)
  (F:∀(w:World) (mg:YB) (fa:Addr) (h:Heap),(K w.params).In h->h.Ns mainGlobals mg->mg d.name=some (.ref fa) ->
   ∃fd:FuncData,(∀(s:Shared) (u:Value),BindsTo s fd ⟨[u],[]⟩ [(x,u)]) /\
    ∀base:Heap,(K w.params).In base->base.Ns mainGlobals mg->Io l.prog w (K w.params) mg base (CX w) k fa fd [x] (sp w))
  (hsp:∀(w:World) (H:Hp) (a:Addr) (ns:List Int),ns.length<=n->Only H->SqL (K w.params) H a (ns.map V.int)->sp w [.ref a] H (λv _=>v=.bl true) λ_ _ _=>False)
  (hCX:∀(w:World) (H:Hp) (s:Shared) (e:Value) (s':Shared),CX w [] H s (λ_ _ _=>False) e s'->False) :
  PySem.W.WalkO q loose XP YP l.row.toRowW d [] (λf vs=>PySem.call f vs):=by
 refine Att.WW hn hdf λw s₀ s₁ mg mb fa o pm cd doc a vs ns G Y ho hd hcd hmg hobj hints hlen hg=>?_;have KX:=hY w _ Y;obtain⟨fd,hb,hF⟩:=F w mg fa _ KX G.T.g hmg;exact eU KX G.T.g G.T.b G.T.builtins G.T.nolimit hg hobj hints (Qcn hlen hn2) hr hF hb (λH hO hS=>hsp w H a ns hlen hO hS) λH e s'=>hCX w H s₁ e s'
def Ey (s:Stmt):Arguments:=match s with
 | .FunctionDef _ a _ _ _ _ _ _ _ _=>a
 | _=>{ posonlyargs:=[],args:=[],vararg:=none,kwonlyargs:=[],kw_defaults:=[],kwarg:=none,defaults:=[] }
def DN (s:Stmt):List Stmt:=match s with
 | .FunctionDef _ _ b _ _ _ _ _ _ _=>b
 | _=>[]
def Al (s:Stmt):Scope:=match s with
 | .FunctionDef _ _ _ _ _ _ sc _ _ _=>sc
 | _=>{ kind:=.function,names:=[],isGenerator:=false,isCoroutine:=false }
abbrev CX0:CXT:=λ_ _ _ _ _ _=>False
abbrev E0:XK:=λ_ _ _=>False
theorem nQ {X:Cx}:Passes CX0 X E0:=λ_ _ _ _ _ _ _ h=>h.elim
structure Fun (K:YD) (x qual:Str) (st:Stmt) (f:Addr) (fd:FuncData):Prop where
 ex:∃(oc:Value) (od:Option Addr) (kV doc pm:Value) (an:Option Addr) (cdv ct:Value) (osl:YI),
  fd=fnOf x qual (Ey st) (DN st) (Al st) .none kV doc pm an cdv ct/\K.lookup f=some ⟨oc,od,.func fd,osl⟩/\codeIn K cdv qual=true
 kp:keepIn K (.ref f)=true
section
variable {P:Program} {w:World} {K:YD} {mg:YB} {base:Heap}
theorem Fun.ok {x qual:Str} {st:Stmt} {f:Addr} {fd:FuncData} {N ps:YF} {k:Nat} {sp:Sp} (F:Fun K x qual st f fd) (S:Bc N ps (Al st)) (len:∀vs H Q E,sp vs H Q E->vs.length=ps.length)
  (hbody:∀(cdv:Value) (A:Around) (outer:List Env) (s:Shared) (H:Hp) (vs:YG) (Q:VK) (E:XK),Dr k (A.deeper (envOfC qual (Al st) s.heap.objs.size f cdv))->sp vs H Q E ->
   ∃t,PSs (PN CX0 P w K mg base N qual (Al st) f cdv A outer s H E).nox (DN st) t/\t { nx:=λ_ H'=>Q .non H',rt:=Q } (start N vs) H):Io P w K mg base CX0 (k+1) f fd ps sp:=by
 obtain⟨oc,od,kV,doc,pm,an,cdv,ct,osl,rfl,lk,hcd⟩:=F.ex;refine oO lk hcd S len λA outer s H vs Q E hr hsp=>?_;obtain⟨t,h,q⟩:=hbody cdv A outer s H vs Q E hr hsp;exact⟨t,h.nox,q⟩
theorem Fun.binds {x qual:Str} {st:Stmt} {f:Addr} {fd:FuncData} {ps:YF} (F:Fun K x qual st f fd)
  (h:∀(kV doc pm:Value) (an:Option Addr) (cdv ct:Value) (us:YE),us.length=ps.length->bindArgs (fnOf x qual (Ey st) (DN st) (Al st) .none kV doc pm an cdv ct) ⟨us,[]⟩=pure (ps.zip us)):Binds K fd ps []:=by
 obtain⟨oc,od,kV,doc,pm,an,cdv,ct,osl,rfl,lk,hcd⟩:=F.ex;exact .all (h kV doc pm an cdv ct)
theorem aY {x qual:Str} {st:Stmt} {f:Addr} {oc:Value} {od an:Option Addr} {osl:YI} {kV doc pm cdv ct:Value} (l:K.lookup f=some ⟨oc,od,.func (fnOf x qual (Ey st) (DN st) (Al st) .none kV doc pm an cdv ct),osl⟩)
  (c:codeIn K cdv qual=true) (k:keepIn K (.ref f)=true):Fun K x qual st f (fnOf x qual (Ey st) (DN st) (Al st) .none kV doc pm an cdv ct):=⟨⟨oc,od,kV,doc,pm,an,cdv,ct,osl,rq,l,c⟩,k⟩
end
theorem Aq {n:Nat} (h:n<=1000):n < sizeLine:=Nat.lt_of_le_of_lt h (by decide)
section
variable {X:Cx}
theorem pv (i:Nat) {x:Str} {pos:Pos} (hN:X.N[i]?=some x:=by rfl) (hv:Vis X.env.scope x:=by first | exact Or.inl rfl | exact Or.inr (Or.inl rfl) | exact Or.inr (Or.inr rfl)) (hd:(x == ("__debug__":Str))=false:=by decide)
  (hcd:(x == ("__classdict__":Str))=false:=by decide):PE X (.Name x pos) (jM i):=j8 hN hv hd hcd
end
theorem Dn {A B:Prop} (h:B):if false=true then A else B:=by
 rw[if_neg QaS];exact h
theorem BK {A B:Prop} (h:A):if true=true then A else B:=by
 rw[if_pos rfl];exact h
theorem Jo {c A B:Prop} [Decidable c] (h1:c->A) (h2:¬c->B):if c then A else B:=by
 by_cases h:c
 ·rw[if_pos h];exact h1 h
 ·rw[if_neg h];exact h2 h
def Same (H H':Hp):Prop:=∀b o,H b=some o->H' b=some o
theorem Same.refl (H:Hp):Same H H:=λ_ _ h=>h
theorem Same.trans {H H1 H2:Hp} (a:Same H H1) (b:Same H1 H2):Same H H2:=λc o h=>b c o (a c o h)
theorem Same.free {H H':Hp} (e:Same H H') {l:Addr} (h:H' l=Option.none):H l=Option.none:=by
 cases q:H l with
 | none=>rfl
 | some o=>
  rw[e l o q] at h;cases h
theorem Same.seq {K:YD} {H H':Hp} {a:Addr} {xs:YG} (e:Same H H') (h:SqL K H a xs):SqL K H' a xs:=by
 rcases h with (h |⟨o,h⟩) | h
 ·exact .inl (.inl (e _ _ h))
 ·exact .inl (.inr ⟨o,e _ _ h⟩)
 ·exact .inr h
def Ea (env:Env):List (Str×NameKind)->List (Str×Addr)->List (Str×Addr)
 | [],cs=>cs
 | (n,k)::r,cs=>Ea env r (if (k == .free)=true then (match env.cells.lookup n with | some c=>(n,c)::cs | none=>cs) else cs)
theorem V6 {env:Env}:∀(names:List (Str×NameKind)) (cs:List (Str×Addr)),(∀p∈names,p.2=.free->∃c,env.cells.lookup p.1=some c) ->
  (forIn names cs λ(p:Str×NameKind) (r:List (Str×Addr))=>(if (p.2 == .free)=true then do
    let c <-cellOf env p.1
    pure (ForInStep.yield ((p.1,c)::r))
   else pure (ForInStep.yield r):Sem (ForInStep (List (Str×Addr)))))=pure (Ea env names cs)
 | [],cs,_=>rfl
 | (n,k)::rest,cs,h=>by
  have ih:=λcs'=>V6 rest cs' λp hp=>h p (QaD _ hp);rw[List.forIn_cons];cases hk:(k == NameKind.free) with
  | true=>
   obtain⟨c,hc⟩:=h (n,k) QaQ (eq_of_beq hk);have e1:cellOf env n=pure c:=by unfold cellOf;rw[hc]
   have e2:Ea env ((n,k)::rest) cs=Ea env rest ((n,c)::cs):=by simp only[Ea,hk,if_true,hc]
   rw[e2,<-ih];simp only[hk,if_true,e1,pure_bind]
  | false=>
   have e2:Ea env ((n,k)::rest) cs=Ea env rest cs:=by simp only[Ea,hk,QaX,QcD]
   rw[e2,<-ih];simp only[hk,QaX,QcD,pure_bind]
theorem QH {env:Env} {scope:Scope} (h:∀p∈scope.names,p.2=.free->∃c,env.cells.lookup p.1=some c):closureFor scope env=pure (Ea env scope.names []):=by
 have e:=V6 (env:=env) scope.names [] h;unfold closureFor;simp only[bind_pure];exact e
theorem V5 {env:Env}:∀(names:List (Str×NameKind)) (cs:List (Str×Addr)),(∀x c,cs.lookup x=some c->env.cells.lookup x=some c) ->
  ∀x c,(Ea env names cs).lookup x=some c->env.cells.lookup x=some c
 | [],cs,h,x,c,e=>h x c e
 | (n,k)::rest,cs,h,x,c,e=>by
  refine V5 rest _ (λy d z=>?_) x c e;split at z
  ·split at z
   ·rename_i c' hc';rw[List.lookup_cons] at z;cases q:y == n with
    | true=>rw[q] at z;cases z;rw[eq_of_beq q];exact hc'
    | false=>rw[q] at z;exact h y d z
   ·exact h y d z
  ·exact h y d z
theorem P0 {env:Env}:∀(names:List (Str×NameKind)) (cs:List (Str×Addr)) (x:Str),((cs.lookup x).isSome=true\/((x,NameKind.free)∈names/\∃c,env.cells.lookup x=some c)) ->
  ∃c,(Ea env names cs).lookup x=some c
 | [],cs,x,h=>by
  rcases h with h |⟨h,_⟩
  ·exact Option.isSome_iff_exists.mp h
  ·cases h
 | (n,k)::rest,cs,x,h=>by
  refine P0 rest _ x ?_;have grow:(cs.lookup x).isSome=true->(List.lookup x (if (k == .free)=true then (match env.cells.lookup n with | some c=>(n,c)::cs | none=>cs) else cs)).isSome=true:=λz=>by
   split
   ·split
    ·rw[List.lookup_cons];cases x == n with
     | true=>rfl
     | false=>exact z
    ·exact z
   ·exact z
  rcases h with h |⟨h,c,hc⟩
  ·exact .inl (grow h)
  ·rcases Qcc.mp h with z | z
   ·cases z;refine .inl ?_;simp[hc,List.lookup_cons]
   ·exact .inr ⟨z,c,hc⟩
def Ii (env:Env) (n:Str) (k:NameKind):NameKind:=if (k == .free&&env.scope.kind == .function&&env.kindOf n == some .cell)=true then .cell else k
theorem Lx (env:Env):∀(l:List (Str×NameKind)) (x:Str),
  (l.map λ(n,k)=>if (k == NameKind.free&&env.scope.kind == .function&&env.kindOf n == some .cell) then (n,NameKind.cell) else (n,k)).lookup x=(l.lookup x).map (Ii env x)
 | [],_=>rfl
 | (n,k)::r,x=>by
  have ih:=Lx env r x;have e:(if (k == NameKind.free&&env.scope.kind == .function&&env.kindOf n == some .cell)=true then (n,NameKind.cell) else (n,k))=(n,Ii env n k):=by
   unfold Ii;split <;> rfl
  rw[Qce];show List.lookup x ((if (k == NameKind.free&&env.scope.kind == .function&&env.kindOf n == some .cell)=true then (n,NameKind.cell) else (n,k))::_)=_
  rw[e,List.lookup_cons,List.lookup_cons];cases q:x == n with
  | true=>rw[eq_of_beq q];rfl
  | false=>exact ih
theorem dh {env:Env} {n:Str} {k:NameKind} (h:Ii env n k=.cell\/Ii env n k=.free):k=.cell\/k=.free:=by
 unfold Ii at h;split at h
 ·rename_i q;simp only[Qbx] at q;exact .inr (eq_of_beq q.1.1)
 ·exact h
theorem bI {prog:Program} {w:World} {A:Around} {R:Result->Shared->Prop} {s:Shared} {elt target iter:Expr} {ifs:YJ} {scope:Scope} {pos:Pos} {it acc:Value} {env:Env} (J:Nat->Shared->Prop)
  (turn:∀n s,J n s->wpAny (model prog w) A (pyNext it) (λr s1=>match r with
   | none=>R (.ok .next) s1
   | some v=>wpAny (model prog w) A (letOwnedTupleGo target it v) (λ_ s2=>wpAny (model prog w) A (assign target env v) (λ_ s3=>
     wpAny (model prog w) A (forIn ifs true λc r=>if r=true then do let ok <-isTrue c env (eval c env);pure (ForInStep.yield ok) else pure (ForInStep.yield r)) (λok s4=>
      if ok=true then wpAny (model prog w) A (eval elt env) (λx s5=>wpAny (model prog w) A (call (.builtin "list.append") [acc,x]) (λ_ s6=>∃m,m < n/\J m s6) (λ_ _=>False) s5) (λ_ _=>False) s4
      else ∃m,m < n/\J m s4) (λ_ _=>False) s3) (λ_ _=>False) s2) (λ_ _=>False) s1) (λ_ _=>False) s)
  (n:Nat) (h:J n s):codeAny (model prog w) A (.compLoop (.ListComp elt [⟨target,iter,ifs,0⟩] scope pos) 0 it acc env) R s:=by
 refine codeAny_loop rfl J (λk s' hk=>?_) n h;show wpAny _ A (Sem.onRaise (compTurn (.ListComp elt [⟨target,iter,ifs,0⟩] scope pos) 0 it acc env) (λx=>do noteFrame x env;theTreesLotGoes x)) _ _ s'
 refine wpAny_noted ?_;rw[compTurn_list];refine Qcx (Qch (Qcx (Qcz (turn k s' hk) (λr s1 q1=>?_) λ_ _ f=>f.elim)));cases r with
 | none=>exact Qcy q1
 | some v=>
  refine Qcx (Qcz q1 (λ_ s2 q2=>Qcx (Qcz q2 (λ_ s3 q3=>Qcx (Qcz q3 (λok s4 q4=>?_) λ_ _ f=>f.elim)) λ_ _ f=>f.elim)) λ_ _ f=>f.elim);cases ok with
  | false=>exact Qcy ⟨rfl,q4⟩
  | true=>exact Qcx (Qcx (Qcz q4 (λx s5 q5=>Qcx (Qcz q5 (λ_ s6 q6=>Qcy (Qcy ⟨rfl,q6⟩)) λ_ _ f=>f.elim)) λ_ _ f=>f.elim))
def cxC (X:Cx) (N':YF) (scope:Scope) (s3:Shared) (H3:Hp) (fp:List Addr) (pn:YC):Cx where
 prog:=X.prog
 w:=X.w
 K:=X.K
 mg:=X.mg
 base:=X.base
 A:=X.A
 N:=N'
 s₀:=s3
 H₀:=H3
 env:=compEnvC scope (Ea X.env scope.names []) s3.heap.objs.size X.env
 outer:=X.stack
 stack:=X.stack
 ex:=fp
 fn:=λ_=>false
 calm:=X.calm
 pn:=pn
 xe:=λ_ _=>False
structure Bh (X:Cx) (N':YF) (src:List (Option Nat)) (sc:Scope):Prop where
 kind:sc.kind=.function
 Fj:∀y∈sc.names,y.2≠.cell
 loc:∀y∈sc.names,y.2=.local->sc.names.lookup y.1=some .local
 fv:∀y∈sc.names,y.2=.free->X.env.kindOf y.1=some .cell\/X.env.kindOf y.1=some .free
 len:src.length=N'.length
 src:∀(i:Nat) (x:Str) (j:Nat),N'[i]?=some x->src[i]?=some (some j)->X.N[j]?=some x/\sc.names.lookup x=some .free
def Jq (src:List (Option Nat)) (U : St):St:=src.map λo=>match o with | none=>none | some j=>(U[j]?).join
def PF (X:Cx) (ifs:YJ) (t:TT):Prop:=
 ∀(jb:YC) (s:Shared) (U : St) (H:Hp) (Q:Bool->Hp->Prop),Inv X jb U H s->t U H Q ->
  wpAny (model X.prog X.w) X.A (forIn ifs true λc r=>if r=true then do let ok <-isTrue c X.env (eval c X.env);pure (ForInStep.yield ok) else pure (ForInStep.yield r)) (TP X jb U Q) X.xe s
theorem Cy {X:Cx}:PF X [] (λ_ H Q=>Q true H):=λ_ _ _ H _ I h=>wpAny_tests_nil ⟨H,I,h⟩
theorem Qt {X:Cx} {c:Expr} {t:TT} (hc:PT X c t):PF X [c] t:=λjb s U H Q I h=>wpAny_tests_one (hc jb s U H Q I h)
theorem Un.ahead {fs ex:List Addr} {H H':Hp} {h h1 h':Heap} (u:Un fs ex H H' h h1) (k:∀b o,b < h.objs.size->h1.get? b=some o->h'.get? b=some o):Un fs ex H H' h h' where
 keep:=λb o e n hb hx=>k b o (Qck e) (u.keep b o e n hb hx)
 slot:=λb o e n hb hx=>by
  obtain⟨sl,q⟩:=u.slot b o e n hb hx;exact⟨sl,k b _ (Qck e) q⟩
 free:=u.free
 there:=λb o e hx=>by
  obtain⟨o',q⟩:=u.there b o e hx;exact⟨o',k b _ (Qck e) q⟩
 tups:=u.tups
 JZ:=u.JZ
 Kp:=u.Kp
section
variable {X:Cx} {N':YF} {src:List (Option Nat)} {sc:Scope} {jb:YC} {U : St} {H:Hp} {s3:Shared} {fp:List Addr} {h1:Heap} {tk:Nat}
theorem V3 (S:Bh X N' src sc) (I:Inv X jb U H s3) (hf:∀b∈fp,Gg X jb H b) (ht:∀b∈fp,b < s3.heap.objs.size)
  (ns:h1.Ns s3.heap.objs.size λ_=>none) (kp:∀b o,s3.heap.get? b=some o->h1.get? b=some o) :
  Inv (cxC X N' sc s3 H fp (X.pn++jb)) [] (Jq src U) H { s3 with heap:=h1,toks:=tk }:=by
 have hcl:∀x c,(Ea X.env sc.names []).lookup x=some c->X.env.cells.lookup x=some c:=V5 sc.names [] λx c e=>by cases e
 have old:∀x c,(Ea X.env sc.names []).lookup x=some c->∃o,s3.heap.get? c=some o:=λx c e=>by
  obtain⟨v,o,ho,_⟩:=I.cell x c (hcl x c e);exact⟨o,ho⟩
 have fvh:∀x,(x,NameKind.free)∈sc.names->∃c,X.env.cells.lookup x=some c:=λx hx=>I.ok.has x (S.fv _ hx rfl);have jP:∀b,b≠X.env.locals->b∉X.fs->b∉frs X.stack:=λb h1 h2 hb=>(Qcc.mp (I.Ul b hb)).elim h1 h2;have kindOf_eq:∀x,(compEnvC sc (Ea X.env sc.names []) s3.heap.objs.size X.env).kindOf x=(sc.names.lookup x).map (Ii X.env x):=λx=>Lx X.env sc.names x;refine⟨⟨I.ok.mod,S.kind,I.ok.glob,I.ok.blt,Qcr _,λx y c e1 e2=>I.ok.inj x y c (hcl x c e1) (hcl y c e2),λx hx=>?_,λx c hf=>absurd hf QaS,I.ok.hd,I.ok.frames,.inl rfl,λb hb=>?_,I.bs,Qcn I.ok.bsz I.sz,
  λb o e hb=>?_,λb hb=>?_,I.stack,I.QX⟩,rq,I.bare,Un.kept kp,⟨_,ns,λi x v e1 e2 e3=>?_⟩,λx c e=>?_,I.hok.fresh (Qcr _),λx c e=>I.GX x c (hcl x c e),λp hp=>?_,I.hok.kept kp,?_⟩
 ·
  have hx':(sc.names.lookup x).map (Ii X.env x)=some .cell\/(sc.names.lookup x).map (Ii X.env x)=some .free:=by
   rw[<-kindOf_eq x];exact hx
  cases q:sc.names.lookup x with
  | none=>rw[q] at hx';rcases hx' with z | z <;> cases z
  | some k=>
   rw[q] at hx';have hk:k=.cell\/k=.free:=dh (env:=X.env) (n:=x) (hx'.imp (λz=>QbK z) λz=>QbK z);have hm:=QaM q;rcases hk with rfl | rfl
   ·exact absurd rfl (S.Fj _ hm)
   ·exact P0 sc.names [] x (.inr ⟨hm,fvh x hm⟩)
 ·
  obtain⟨f0,f1,f2,f3,f4,f5⟩:=hf b hb;exact⟨Qcl (ht b hb),λx c e=>f4 x c (hcl x c e)⟩
 ·
  obtain⟨f0,f1,f2,f3,f4,f5⟩:=hf b hb;rcases f3 with z | z
  ·exact I.ok.Rp b o e z
  ·exact absurd (QaU (Qck e) (Qcn I.ok.bsz z)) (Qcg _)
 ·
  obtain⟨f0,f1,f2,f3,f4,f5⟩:=hf b hb;exact jP b f1 f2
 ·
  have e2':(Jq src U)[i]?=some (some v):=e2;unfold Jq at e2';rw[Qbf] at e2';cases q:src[i]? with
  | none=>rw[q] at e2';cases e2'
  | some oj=>
   rw[q] at e2';cases oj with
   | none=>cases e2'
   | some j=>
    have e4:(U[j]?).join=some v:=QbK e2';have e5:U[j]?=some (some v):=by
     cases r:U[j]? with
     | none=>rw[r] at e4;cases e4
     | some z=>rw[r] at e4;cases z with
      | none=>cases e4
      | some y=>cases e4;rfl
    obtain⟨hN,hfr⟩:=S.src i x j e1 q;have hm:=QaM hfr;have kx:=S.fv _ hm rfl;obtain⟨m,hn,hl⟩:=I.loc;obtain⟨u,r,l⟩:=hl j x v hN e5 (.inr kx);refine⟨u,r,?_⟩;rcases l with⟨k1,_⟩|⟨_,c,hc,hcell⟩
    ·rcases kx with z | z <;> (rw[z] at k1;cases k1)
    ·obtain⟨c',hc'⟩:=P0 (env:=X.env) sc.names [] x (.inr ⟨hm,c,hc⟩);have e6:c'=c:=by
      have:=hcl x c' hc';rw[hc] at this;exact (QbK this).symm
     subst e6;refine .inr ⟨?_,c',hc',?_⟩
     ·have:(compEnvC sc (Ea X.env sc.names []) s3.heap.objs.size X.env).kindOf x=some (Ii X.env x .free):=by rw[kindOf_eq x,hfr];rfl
      show (compEnvC sc (Ea X.env sc.names []) s3.heap.objs.size X.env).kindOf x=some .cell\/(compEnvC sc (Ea X.env sc.names []) s3.heap.objs.size X.env).kindOf x=some .free;rw[this];unfold Ii;split
      ·exact .inl rfl
      ·exact .inr rfl
     ·obtain⟨o,ho,hd⟩:=hcell;exact⟨o,kp _ o ho,hd⟩
 ·
  obtain⟨v,o,ho,hd⟩:=I.cell x c (hcl x c e);exact⟨v,o,kp _ o ho,hd⟩
 ·
  have hp':p∈X.pn++jb:=(QbG.mp hp).elim id λz=>by cases z
  obtain⟨a1,a2,a3,a4,a5⟩:=I.pin p hp';exact⟨kp _ _ a1,a2,Qcl (Qck a1),jP p.1 a3 a4,a5⟩
 ·show (Jq src U).length=N'.length;unfold Jq;rw[QbF];exact S.len
theorem V4 {s1:Shared} {σ':St} {H':Hp} {h':Heap} (I:Inv X jb U H s3) (hf:∀b∈fp,Gg X jb H b) (I':Inv (cxC X N' sc s3 H fp (X.pn++jb)) [] σ' H' s1)
  (sb:Heap.SameBut s3.heap.objs.size s1.heap h'):Inv X jb U H' { s1 with heap:=h' }:=by
 have fr:H' s3.heap.objs.size=none:=I'.free;refine I.call' (s':={ s1 with heap:=h' }) (ch:=fp) I'.os ?_ ?_ I'.bare λb hb=>?_
 ·exact Un.ahead (h:=s3.heap) (h1:=s1.heap) I'.base λb o hb e=>sb.extBut b o (Qcl hb) e
 ·exact λb u e=>(I'.hok b u e).stay (λc v hc q=>sb.extBut c v (by
   intro z;rcases hc with y | y
   ·rw[<-y,z,fr] at e;cases e
   ·rw[z,fr] at y;cases y) q) (λ_ q=>q) λ_ _ q=>q
 ·obtain⟨f0,f1,f2,f3,f4,f5⟩:=hf b hb;exact⟨f3,f1,f4,λp hp=>f5 p hp⟩
end
@[irreducible] def Fe (J:It) (g:TG) (tt:TT) (te:TE) (Q:VK) (σ0:St) (H0:Hp) (l:Addr):Prop:=∃W:Nat->YN,(∃m,W 0 m σ0 H0) /\
 ∀i m σ' H',W i m σ' H'->(J.stop i H'/\Q (.ref l) H')\/(J.go i H'/\∃N:YO,(∀ σ3 H3,N σ3 H3->∃m',m' < m/\W (i+1) m' σ3 H3)/\∀x H2,J.yld i H' x H2->g x σ' H2 fun σ3 H3=>tt σ3 H3 λb H4=>
  if b=true then te σ3 H4 λy H5=>∃xs,H5 l=some (.lst xs)/\xs.length < sizeLine/\N σ3 (upd H5 l (.lst (xs++[y]))) else N σ3 H4)
def X7 (wi:TI) (src:List (Option Nat)) (g:TG) (tt:TT) (te:TE):TE:=fun U H Q=>wi U H λJ H1=>∀l,H1 l=none->Fe J g tt te Q (Jq src U) (upd H1 l (.lst [])) l
theorem S5 {X:Cx} {N':YF} {src:List (Option Nat)} {sc:Scope} {elt tg iter:Expr} {ifs:YJ} {pos pos':Pos} {wi:TI} {g:TG} {tt:TT} {te:TE} {use:Option (Value->Sem Unit)} {R:YA} (hc:X.calm=true) (S:Bh X N' src sc)
  (hi:PI X tg iter wi) (hg:∀s3 H3 fp pn,PG (cxC X N' sc s3 H3 fp pn) tg g) (ht:∀s3 H3 fp pn,PF (cxC X N' sc s3 H3 fp pn) ifs tt) (he:∀s3 H3 fp pn,PE (cxC X N' sc s3 H3 fp pn) elt te)
  (hs:∀x,foldedSetIterable iter X.env x=pure x) {jb:YC} {s:Shared} {U : St} {H:Hp} {Q:VK} (I:Inv X jb U H s) (h:X7 wi src g tt te U H Q)
  (fin:∀s3 H3 fp σ4 H4 s5 l,Inv X jb U H3 s3->(∀b∈fp,Gg X jb H3 b)->Inv (cxC X N' sc s3 H3 fp (X.pn++jb)) [] σ4 H4 s5->Q (.ref l) H4 ->
   compPost (model X.prog X.w) X.A X.xe use R (.ref l) s3.heap.objs.size (.ok .next) s5) :
  wpAny (model X.prog X.w) X.A (comprehension (.ListComp elt [⟨tg,iter,ifs,0⟩] sc pos) sc X.env pos' (newList []) false (eval iter X.env) use) R X.xe s:=by
 refine wpAny_comprehension_free (use:=use) (cl:=Ea X.env sc.names []) rfl hs (QH λp hp e=>I.ok.has p.1 (S.fv p hp e)) S.kind S.loc ?_;refine thn (hi jb s U H _ I h) λv s1 h1=>thn h1 λitv s2 h2=>?_;obtain⟨it,fp,tn,J,H2,rfl,I2,T,st2,f2,q⟩:=h2;have q':=q s2.heap.objs.size (I2.hok.fresh (Qcr _));unfold Fe at q';obtain⟨W,⟨m0,w0⟩,turn⟩:=q';refine Qbk (wpAny_newFunctionEnv S.Fj (by intro y hy;simp at hy) (λha hns hsb=>?_) S.kind);have I3:Inv X jb U (upd H2 s2.heap.objs.size (.lst [])) { s2 with heap:=s2.heap.push { cls:=.type "list",dict:=none,data:=.seq ([]:YE).toArray } }:=
  I2.laid (t':=s2.toks) (λb u e=>Qat _ e) (Qcr _) ⟨Qcs _,[],0,.nil,QaI _ rfl⟩
 have hfl:∀b∈fp,b < s2.heap.objs.size:=λb hb=>by
  obtain⟨o,e,_⟩:=T.obj 0 _ st2 b hb;exact Qck e
 have f3:∀b∈fp,Gg X jb (upd H2 s2.heap.objs.size (.lst [])) b:=λb hb=>⟨by rw[Ar (Qcl (hfl b hb))];exact (f2 b hb).1,(f2 b hb).2⟩;generalize hs3:({ s2 with heap:=s2.heap.push { cls:=.type "list",dict:=none,data:=.seq ([]:YE).toArray } }:Shared)=s3 at *;have hsz:s2.heap.objs.size < s3.heap.objs.size:=by rw[<-hs3];show s2.heap.objs.size < (s2.heap.push _).objs.size;rw[QbY];exact QbB _
 have kp:∀b o,s3.heap.get? b=some o->ha.get? b=some o:=λb o e=>hsb.extBut b o (Qcl (Qck e)) (Qat _ e);have st3:tn 0 ha:=T.keep 0 _ _ st2 λb hb o e=>kp b o (by rw[<-hs3];exact Qat _ e);have I4:Inv (cxC X N' sc s3 (upd H2 s2.heap.objs.size (.lst [])) fp (X.pn++jb)) [] (Jq src U) (upd H2 s2.heap.objs.size (.lst [])) { s3 with heap:=ha,toks:=s3.toks+([]:List (Str×Value)).length }:=
  V3 S I3 f3 (λb hb=>Nat.lt_trans (hfl b hb) hsz) hns kp
 have loop:codeAny (model X.prog X.w) X.A (.compLoop (.ListComp elt [⟨tg,iter,ifs,0⟩] sc pos) 0 (.ref it) (.ref s2.heap.objs.size) (compEnvC sc (Ea X.env sc.names []) s3.heap.objs.size X.env))
   (compPost (model X.prog X.w) X.A X.xe use R (.ref s2.heap.objs.size) s3.heap.objs.size) { s3 with heap:=ha,toks:=s3.toks+([]:List (Str×Value)).length }:=by
  refine bI (λn s'=>∃i σ' H',Inv (cxC X N' sc s3 (upd H2 s2.heap.objs.size (.lst [])) fp (X.pn++jb)) [] σ' H' s'/\tn i s'.heap/\(∀b∈fp,H' b=none)/\W i n σ' H') ?_ m0 ⟨0,_,_,I4,st3,λb hb=>(f3 b hb).1,w0⟩;rintro n s4 ⟨i,σ4,H4,J4,st4,fr4,w4⟩;have stat:∀{H':Hp},(∀b∈fp,H' b=none)->∀b∈fp,Gg (cxC X N' sc s3 (upd H2 s2.heap.objs.size (.lst [])) fp (X.pn++jb)) [] H' b:=λhn b hb=>
   ⟨hn b hb,(I4.ok.exf b hb).1,I4.ok.PL b hb,.inl hb,λx c e=>(I4.ok.exf b hb).2 x c e,λp hp=>(f3 b hb).2.2.2.2.2 p ((QbG.mp hp).elim id λz=>by cases z)⟩
  rcases turn i n σ4 H4 w4 with⟨stop,qn⟩|⟨go,N,hN,step⟩
  ·refine thn (T.done (cxC X N' sc s3 (upd H2 s2.heap.objs.size (.lst [])) fp (X.pn++jb)) rfl rfl rfl hc i [] s4 σ4 H4 _ J4 (stat fr4) st4 stop) λr s5 zz=>?_;obtain⟨hr,J5⟩:=zz;subst hr;exact fin s3 _ fp σ4 H4 s5 _ I3 f3 J5 qn
  ·refine thn (T.item (cxC X N' sc s3 (upd H2 s2.heap.objs.size (.lst [])) fp (X.pn++jb)) rfl rfl rfl hc i [] s4 σ4 H4 _ J4 (stat fr4) st4 go) λr s5 zz=>?_;obtain⟨u,hr,h5⟩:=zz;subst hr;refine thn h5 λ_ s6 zz=>?_;obtain⟨x,H6,J6,r6,y6,st6,fr6⟩:=zz;have J6':=J6.pinned (stat fr6) (T.obj _ _ st6);have back:∀{pl:YC} {σ7:St} {H7:Hp} {s7:Shared},Inv (cxC X N' sc s3 (upd H2 s2.heap.objs.size (.lst [])) fp (X.pn++jb)) ([]++K4 fp s6.heap) σ7 H7 s7->N σ7 H7 ->
     ∃m',m' < n/\∃i σ' H',Inv (cxC X N' sc s3 (upd H2 s2.heap.objs.size (.lst [])) fp (X.pn++jb)) [] σ' H' s7/\tn i s7.heap/\(∀b∈fp,H' b=none)/\W i m' σ' H':=λ{pl σ7 H7 s7} J7 w7=>by
    obtain⟨m',hm,w7⟩:=hN _ _ w7;have pinned:∀b∈fp,∀o,s6.heap.get? b=some o->s7.heap.get? b=some o/\H7 b=none:=λb hb o e=>by
     have:=J7.pin (b,o) (Qax _ (Qax _ (Ju hb e)));exact⟨this.1,this.2.1⟩
    refine⟨m',hm,i+1,σ7,H7,J7.Ib,T.keep _ _ _ st6 λb hb o e=>(pinned b hb o e).1,λb hb=>?_,w7⟩;obtain⟨o,e,_⟩:=T.obj _ _ st6 b hb;exact (pinned b hb o e).2
   refine thn (hg s3 _ fp _ _ s6 σ4 H6 x u _ J6' r6 (step x H6 y6)) λ_ s7 zz=>?_;obtain⟨σ7,H7,J7,q7⟩:=zz;refine thn (ht s3 _ fp _ _ s7 σ7 H7 _ J7 q7) λok s8 zz=>?_;obtain⟨H8,J8,q8⟩:=zz;cases ok with
   | false=>
    rw[if_neg QaS] at q8 ⊢;exact back (pl:=[]) J8 q8
   | true=>
    rw[if_pos rfl] at q8 ⊢;refine thn (he s3 _ fp _ _ s8 σ7 H8 _ J8 q8) λy s9 zz=>?_;obtain⟨yv,H9,J9,r9,xs,hl9,hz9,q9⟩:=zz;refine thn (Ce _ s9 σ7 H9 (.ref s2.heap.objs.size) [yv] (.ref s2.heap.objs.size) [y] (λ_ H'=>N σ7 H') J9 rfl (.cons r9 .nil) ⟨_,xs,yv,rq,rq,hl9,hz9,q9⟩) λ_ s10 zz=>?_;obtain⟨_,H10,J10,_,q10⟩:=zz;exact back (pl:=[]) J10 q10
 exact codeAny_compStart_list loop (T.self X.A 0 _ _ _ st3 loop)
theorem BP {X:Cx} {N':YF} {src:List (Option Nat)} {sc:Scope} {elt tg iter:Expr} {ifs:YJ} {pos:Pos} {wi:TI} {g:TG} {tt:TT} {te:TE} (hc:X.calm=true) (S:Bh X N' src sc)
  (hi:PI X tg iter wi) (hg:∀s3 H3 fp pn,PG (cxC X N' sc s3 H3 fp pn) tg g) (ht:∀s3 H3 fp pn,PF (cxC X N' sc s3 H3 fp pn) ifs tt) (he:∀s3 H3 fp pn,PE (cxC X N' sc s3 H3 fp pn) elt te)
  (hs:∀x,foldedSetIterable iter X.env x=pure x:=by intro _;rfl):PE X (.ListComp elt [⟨tg,iter,ifs,0⟩] sc pos) (X7 wi src g tt te):=by
 intro jb s U H Q I h;rw[eval_ListComp];refine S5 (use:=none) hc S hi hg ht he hs I h λs3 H3 fp σ4 H4 s5 l I3 f3 J5 q=>?_;obtain⟨m,hn,_⟩:=J5.loc;exact⟨m,hn,λh' sb=>⟨.ref l,H4,V4 I3 f3 J5 sb,rq,q⟩⟩
theorem Xl {X:Cx} {N':YF} {src:List (Option Nat)} {sc:Scope} {elt tg iter:Expr} {ifs:YJ} {pos spos px:Pos} {wi:TI} {g:TG} {tt:TT} {te:TE} {i:Nat} {x:Str} (hN:X.N.Nodup) (hi0:X.N[i]?=some x) (hx:Loc X.env.scope x) (hc:X.calm=true) (S:Bh X N' src sc)
  (hi:PI X tg iter wi) (hg:∀s3 H3 fp pn,PG (cxC X N' sc s3 H3 fp pn) tg g) (ht:∀s3 H3 fp pn,PF (cxC X N' sc s3 H3 fp pn) ifs tt) (he:∀s3 H3 fp pn,PE (cxC X N' sc s3 H3 fp pn) elt te)
  (hsw:swapsWith (.ListComp elt [⟨tg,iter,ifs,0⟩] sc pos) (some (.Name x px)) spos.line X.env=pure true:=by rfl) (hs:∀x,foldedSetIterable iter X.env x=pure x:=by intro _;rfl)
  (hf:X.fn x=true\/X.env.scope.names.lookup x=some .local:=by first | exact .inl rfl | exact .inr rfl | assumption) :
  PS X (.Assign [.Name x px] (.ListComp elt [⟨tg,iter,ifs,0⟩] sc pos) spos) (cN (X7 wi src g tt te) (FJ i)):=by
 intro jb s U H D I h;rw[exec_Assign_Name_used _ _ _ _ hsw];refine Qcx (Qch (Qcx ?_));show wpAny _ X.A (do let _ <-comprehension (.ListComp elt [⟨tg,iter,ifs,0⟩] sc pos) sc X.env _ (newList []) false (eval iter X.env) (some (assign (.Name x px) X.env))) _ _ s
 refine Qcx (thn (S5 (R:=λ_ s'=>SP X jb D .next s') hc S hi hg ht he hs I h λs3 H3 fp σ4 H4 s5 l I3 f3 J5 q=>?_) λ_ s' hq=>Qcy (Qcy hq));obtain⟨m,⟨oC,es,ep,hoC,r⟩,_⟩:=J5.loc;have I6:Inv X jb U H4 { s5 with heap:=s5.heap }:=V4 I3 f3 J5 (Heap.SameBut.refl _ _);have hCn:H4 s3.heap.objs.size=none:=J5.free;have neL:s3.heap.objs.size≠X.env.locals:=Qco I3.lt;have pR:∀v,oC.data≠.cell v:=λv z=>by rw[r.1] at z;cases z
 have I7:Inv X (jb++[(s3.heap.objs.size,oC)]) U H4 s5:=I6.Rh λp hp=>(QbG.mp hp).elim (λz=>I6.pin p (Qax _ z)) λz=>by
  cases QaR.mp z;exact⟨hoC,hCn,neL,I3.lB (Qcr _),pR⟩
 show wpAny _ X.A (assign (.Name x px) X.env (.ref l)) _ _ s5;refine wpAny_assign_Name (Ou (v:=.ref l) I7 hN hi0 hx rfl (λs6 I8=>?_) hf);have k8:=(I8.pin (s3.heap.objs.size,oC) (Qax _ (Qax _ (QaR.mpr rfl)))).1;refine⟨m,⟨oC,es,ep,k8,r⟩,λh' sb=>⟨_,H4,?_,q⟩⟩;have I9:=I8.Ib;refine I9.turned (t':=s6.toks) (λb o hb e=>sb.extBut b o hb e) hCn neL (.inr I3.sz) (λy c e z=>?_) (λp hp z=>?_)
 ·obtain⟨v,o,ho,_⟩:=I3.cell y c e;exact absurd (Qck ho) (by rw[z];exact Qcg _)
 ·have:=(I3.pin p hp).1;exact absurd (Qck this) (by rw[z];exact Qcg _)
theorem Bh.of {X:Cx} {N':YF} {src:List (Option Nat)} {sc:Scope} (fsc:Scope) (N:YF) (hX:X.env.scope=fsc) (hN:X.N=N) (kind:sc.kind=.function) (Fj:∀y∈sc.names,y.2≠.cell) (loc:∀y∈sc.names,y.2=.local->sc.names.lookup y.1=some .local)
  (fv:∀y∈sc.names,y.2=.free->fsc.names.lookup y.1=some .cell) (len:src.length=N'.length)
  (sr:((N'.zip src).all λp=>match p.2 with | none=>true | some j=>decide (N[j]?=some p.1)&&decide (sc.names.lookup p.1=some .free))=true):Bh X N' src sc where
 kind:=kind
 Fj:=Fj
 loc:=loc
 fv:=λy hy e=>.inl (by show X.env.scope.names.lookup y.1=some .cell;rw[hX];exact fv y hy e)
 len:=len
 src:=λi x j e1 e2=>by
  rw[QbD] at sr;have hm:(x,some j)∈N'.zip src:=by
   refine QaC (i:=i) ?_;rw[List.getElem?_zip_eq_some];exact⟨e1,e2⟩
  have:=sr _ hm;simp only[Qbx,Qbq] at this;rw[hN];exact this
section
variable {X:Cx}
@[irreducible] def EY (K:YD):YG->Hp->VK->Prop:=λxs H Q=>∃x T t b,xs=[x,.ty T]/\Im K H x t/\kitOne K t (.type T)=some b/\Q (.bl b) H
theorem Kd:Ds X (.builtin "isinstance") (EY X.K):=by
 intro jb s U H xs us Q I r h;unfold EY at h;obtain⟨x,T,t,b,rfl,ty,e,q⟩:=h;obtain⟨u,w',rfl,rx,rt⟩:=vals2 r;cases rt;exact aG I rx ty e λtk=>⟨.bl b,H,I.tok tk,rq,q⟩
theorem Wy {K:YD}:kitOne K (.type "int") (.type "int")=some true:=by rfl
theorem Vy {K:YD}:kitOne K (.type "int") (.type "bool")=some false:=by rfl
theorem Vz {K:YD}:kitOne K (.type "bool") (.type "int")=some true:=by rfl
theorem Tw {K:YD}:kitOne K (.type "bool") (.type "bool")=some true:=by rfl
theorem Vw {K:YD}:kitOne K (.type "NoneType") (.type "int")=some false:=by rfl
theorem Wx {K:YD}:kitOne K (.type "str") (.type "int")=some false:=by rfl
theorem Vx {K:YD}:kitOne K (.type "list") (.type "int")=some false:=by rfl
theorem Tv {K:YD}:kitOne K (.type "tuple") (.type "int")=some false:=by rfl
def Kn (H:Hp):V->Prop
 | .non=>True
 | .bl _=>True
 | .int _=>True
 | .str _=>True
 | .ref a=>(∃xs,H a=some (.lst xs))\/∃xs,H a=some (.tup xs)
 | _=>False
def isI:V->Bool
 | .int _=>true
 | .bl _=>true
 | _=>false
def isB:V->Bool
 | .bl _=>true
 | _=>false
def isW:V->Bool
 | .int _=>true
 | _=>false
theorem jk {K:YD} {H:Hp} {x:V} {Q:VK} (k:Kn H x) (q:Q (.bl (isI x)) H):EY K [x,.ty "int"] H Q:=by
 unfold EY;cases x with
 | non=>exact⟨_,_,_,_,rfl,.non,Vw,q⟩
 | bl b=>exact⟨_,_,_,_,rfl,.bl b,Vz,q⟩
 | int i=>exact⟨_,_,_,_,rfl,.int i,Wy,q⟩
 | str z=>exact⟨_,_,_,_,rfl,.str z,Wx,q⟩
 | ref a=>
  rcases k with⟨xs,e⟩|⟨xs,e⟩
  ·exact⟨_,_,_,_,rq,.lst e,Vx,q⟩
  ·exact⟨_,_,_,_,rq,.tup e,Tv,q⟩
 | _=>exact k.elim
theorem fj {K:YD} {H:Hp} {x:V} {Q:VK} (k:isI x=true) (q:Q (.bl (isB x)) H):EY K [x,.ty "bool"] H Q:=by
 unfold EY;cases x with
 | bl b=>exact⟨_,_,_,_,rfl,.bl b,Tw,q⟩
 | int i=>exact⟨_,_,_,_,rfl,.int i,Vy,q⟩
 | _=>cases k
theorem Wc:∀{bs:List Bool} {us:YE},Vals (bs.map V.bl) us->LSm.BoolsAre us bs
 | [],_,.nil=>.nil
 | b::r,_,.cons h t=>by
  cases (show _=Value.bool b from h)
  exact .cons b (Wc t)
theorem Fd (hc:X.calm=true):Ds X (.builtin "all") (λxs H Q=>∃(p:Addr) (bs:List Bool),xs=[.ref p]/\SqL X.K H p (bs.map V.bl)/\Q (.bl (bs.all id)) H):=by
 intro jb s U H xs us Q I r h;obtain⟨p,bs,rfl,hq,q⟩:=h;obtain⟨u,rfl,rx⟩:=vals1 r;cases rx;obtain⟨its,rv,pl,hz⟩:=I.list hq;have hb:=Wc rv;have hl:=pl.isList;have hlt:p < s.heap.objs.size:=by obtain⟨_,e,_⟩:=hl;exact Qck e
 refine call_all_walk (Qbm hl ?_);refine⟨s.heap.objs.size,[s.heap.objs.size,p],[s.heap.objs.size],its.toArray.size,_,_,λi=>(bs[i]?).getD true,rq,Walks.list (A:=X.A.in1) (I.ok.hd hc) _ p (Qcl hlt) its.toArray,
  ⟨⟨_,QaI _ rfl,rq,rq⟩,hl.push _⟩,λi v s' Q' E' hP hQ=>?_,λh' tk hk=>?_⟩
 ·obtain⟨b,e,rfl⟩:=hb.get i v (by simpa using hP);simp only[e,Option.getD_some] at hQ;exact Qbh hQ
 ·have e:((List.range its.toArray.size).all λi=>(bs[i]?).getD true)=bs.all id:=by
   rw[Qbc,hb.length];exact LSm.range_all bs
  rw[e];exact⟨.bl (bs.all id),H,I.kept (LSm.kept_iter hk),rq,q⟩
def j4 (K:YD):R2:=λx y H Q=>∃a b ys,x=.ref a/\y=.ref b/\SqT K H a []/\SqT K H b ys/\Q (.ref b) H
theorem dU:OpR X (binaryOp .Add) (j4 X.K):=by
 intro jb s U H x y v u Q I rx ry h;obtain⟨a,b,ys,rfl,rfl,ha,hb,q⟩:=h;cases rx;cases ry;obtain⟨its,r1,p1,_⟩:=I.tuple ha;obtain⟨its2,r2,p2,_⟩:=I.tuple hb;cases r1;obtain⟨⟨cls,dd,data,sl⟩,ho,hc,n,hd⟩:=id p1;obtain⟨⟨cls2,dd2,data2,sl2⟩,ho2,hc2,n2,hd2⟩:=id p2;simp only at hc hd hc2 hd2;subst hc hd hc2 hd2;exact concat_meets ⟨_,ho,rq⟩ ⟨_,ho2,rq⟩ noFill_tuple_add seq_tuple_add PySem.F.slot_tuple_add PySem.F.entry_tuple_add (PySem.F.args_tuple_add_2 _ _)
  (tuple_addW0 a b #[] its2.toArray n n2 dd dd2 sl sl2 rfl) ⟨ho,ho2,⟨.ref b,H,I,rq,q⟩⟩
theorem Lp:OpR X (binaryOp .Add) (λx y H Q=>∃a b xs ys,x=.ref a/\y=.ref b/\H a=some (.tup xs)/\H b=some (.tup ys)/\xs.length+ys.length<=sizeLine /\
  ∀p H',H' p=some (.tup (xs++ys))->Same H H'->Q (.ref p) H'):=by
 intro jb s U H x y v u Q I rx ry h;obtain⟨a,b,xs,ys,rfl,rfl,ha,hb,hz,q⟩:=h;cases xs with
 | nil=>exact dU jb s U H _ _ v u Q I rx ry ⟨a,b,ys,rfl,rfl,SqT.of ha,SqT.of hb,q b H hb (Same.refl H)⟩
 | cons x0 xr=>
  refine iU jb s U H _ _ v u Q I rx ry ⟨a,b,x0::xr,ys,rq,rq,SqT.of ha,SqT.of hb,(λz=>by cases z),hz,λz=>?_,λz p hp=>?_⟩
  ·subst z;exact q a H (by rw[QbI];exact ha) (Same.refl H)
  ·refine q p _ Ac λc o e=>?_;rw[Ar (Ao e hp)];exact e
mutual
inductive Rep (H:Hp):V->PyData->Prop
 | non:Rep H .non .none
 | bl (b:Bool):Rep H (.bl b) (.bool b)
 | int (i:Int):Rep H (.int i) (.int i)
 | str (x:Str):Rep H (.str x) (.str x)
 | tup {a:Addr} {xs:YG} {ds:List PyData}:H a=some (.tup xs)->G6 H xs ds->Rep H (.ref a) (.tuple ds)
 | lst {a:Addr} {xs:YG} {ds:List PyData}:H a=some (.lst xs)->G6 H xs ds->Rep H (.ref a) (.list ds)
inductive G6 (H:Hp):YG->List PyData->Prop
 | nil:G6 H [] []
 | cons {x:V} {d:PyData} {xs:YG} {ds:List PyData}:Rep H x d->G6 H xs ds->G6 H (x::xs) (d::ds)
end
mutual
theorem Rep.reads {P:Program} {w:World} {H:Hp} {h:Heap} (ok:HOk P w H h):∀{v:V} {d:PyData} {u:Value},Rep H v d->RelV v u->∃as,Reads h u d as
 | _,_,_,.non,r=>by cases (show _=Value.none from r);exact⟨_,.none⟩
 | _,_,_,.bl b,r=>by cases (show _=Value.bool b from r);exact⟨_,.bool b⟩
 | _,_,_,.int i,r=>by obtain⟨t,rfl⟩:=(show ∃t,_=Value.int i t from r);exact⟨_,.int i t⟩
 | _,_,_,.str x,r=>by obtain⟨t,rfl⟩:=(show ∃t,_=Value.str x t from r);exact⟨_,.str x t⟩
 | _,_,_,.tup (a:=a) (xs:=xs) e q,r=>by
  cases (show _=Value.ref a from r)
  obtain⟨_,its,rv,o,ho,hc,n,hd⟩:=(show BW P w H h a (.tup xs) from ok a _ e)
  obtain⟨as,z⟩:=G6.reads ok q rv;exact⟨_,.tuple ho hc hd (by simpa using z)⟩
 | _,_,_,.lst (a:=a) (xs:=xs) e q,r=>by
  cases (show _=Value.ref a from r)
  obtain⟨_,its,n,rv,ho⟩:=(show BW P w H h a (.lst xs) from ok a _ e)
  obtain⟨as,z⟩:=G6.reads ok q rv;exact⟨_,.list ho rfl rfl (by simpa using z)⟩
theorem G6.reads {P:Program} {w:World} {H:Hp} {h:Heap} (ok:HOk P w H h):∀{xs:YG} {ds:List PyData} {us:YE},G6 H xs ds->Vals xs us->∃as,ReadsAll h us ds as
 | _,_,_,.nil,.nil=>⟨_,.nil⟩
 | _,_,_,.cons p q,.cons r t=>by
  obtain⟨as,a1⟩:=Rep.reads ok p r;obtain⟨bs,b1⟩:=G6.reads ok q t;exact⟨_,.cons a1 b1⟩
end
theorem kI (hu:X.A.units+64 < cLine):OpR X (compareOp .Eq) (λx y H Q=>∃d e,Rep H x d/\Rep H y e/\SeqAt.shaped d=true/\SeqAt.shaped e=true/\Q (.bl (PyData.eqv d e)) H):=by
 intro jb s U H x y v u Q I rx ry h;obtain⟨d,e,p,p',sd,se,q⟩:=h;obtain⟨as,r1⟩:=p.reads I.hok rx;obtain⟨bs,r2⟩:=p'.reads I.hok ry;exact eq_dataH r1 r2 sd se hu ⟨.bl (PyData.eqv d e),H,I,rq,q⟩
end
structure Code (K:YD) (mg:YB) (x:Str) (st:Stmt) (ps:YF):Prop where
 ex:∃(f:Addr) (fd:FuncData),Fun K x x st f fd/\mg x=some (.ref f)/\Binds K fd ps []
structure Good (P:Program) (w:World) (K:YD) (mg:YB) (base:Heap) (x:Str) (k:Nat) (ps:YF) (sp:Sp):Prop where
 ex:∃(f:Addr) (fd:FuncData),mg x=some (.ref f)/\keepIn K (.ref f)=true/\Binds K fd ps []/\Io P w K mg base CX0 k f fd ps sp
theorem Code.good {P:Program} {w:World} {K:YD} {mg:YB} {base:Heap} {x:Str} {st:Stmt} {ps N:YF} {k:Nat} {sp:Sp} (C:Code K mg x st ps) (S:Bc N ps (Al st)) (len:∀vs H Q E,sp vs H Q E->vs.length=ps.length)
  (hbody:∀(f:Addr) (cdv:Value) (A:Around) (outer:List Env) (s:Shared) (H:Hp) (vs:YG) (Q:VK) (E:XK),Dr k (A.deeper (envOfC x (Al st) s.heap.objs.size f cdv))->sp vs H Q E ->
   ∃t,PSs (PN CX0 P w K mg base N x (Al st) f cdv A outer s H E).nox (DN st) t/\t { nx:=λ_ H'=>Q .non H',rt:=Q } (start N vs) H):Good P w K mg base x (k+1) ps sp:=by
 obtain⟨f,fd,F,m,b⟩:=C.ex;exact⟨f,fd,m,F.kp,b,F.ok S len λcdv A outer s H vs Q E hr h=>hbody f cdv A outer s H vs Q E hr h⟩
theorem Qv {X:Cx} {k k':Nat} {ps:YF} {sp:Sp} {x:Str} {p pos:Pos} {e:Expr} {es:YJ} {t:TA} (g:Good X.prog X.w X.K X.mg X.base x k ps sp) (hr:Dr k' X.A) (ha:PA X (e::es) t) (hk:k<=k':=by decide) (hg:Gl X x:=by rfl)
  (hdb:(x == ("__debug__":Str))=false:=by decide) (he:starEach (e::es) X.env=(false,eval e X.env)::starEach es X.env:=by rfl) (hpl:(backTo pos (starEach es X.env)).any (·.1)=false:=by rfl) :
  PE X (.Call (.Name x p) (e::es) [] pos) (gH sp [] E0 t):=by
 intro jb s U H Q I h;obtain⟨f,fd,m,kp,b,F⟩:=g.ex;exact iR F (hr.mono hk) hg m kp b .nil nQ ha hdb he hpl jb s U H Q I h
theorem Code.of {K:YD} {mg:YB} {h:Heap} {x:Str} {st:Stmt} {ps:YF} {f:Addr} {oc:Value} {od an:Option Addr} {osl:YI} {kV doc pm cdv ct:Value} (X:K.In h) (G:h.Ns mainGlobals mg)
  (a:nsIn K mainGlobals x=some (some (.ref f))) (l:K.lookup f=some ⟨oc,od,.func (fnOf x x (Ey st) (DN st) (Al st) .none kV doc pm an cdv ct),osl⟩) (c:codeIn K cdv x=true) (k:keepIn K (.ref f)=true)
  (hb:∀(kV doc pm:Value) (an:Option Addr) (cdv ct:Value) (us:YE),us.length=ps.length->bindArgs (fnOf x x (Ey st) (DN st) (Al st) .none kV doc pm an cdv ct) ⟨us,[]⟩=pure (ps.zip us)):Code K mg x st ps:=by
 have F:=aY (st:=st) l c k;exact⟨f,_,F,mg_of X G a,F.binds hb⟩
theorem Ad {H:Hp} {p:Addr} (h:H p=none) (o:HO):Same H (upd H p o):=λb u q=>by rw[Ar (Ao q h)];exact q
theorem Bh.plain {X:Cx} {N':YF} {sc:Scope} (kind:sc.kind=.function) (Fj:∀y∈sc.names,y.2≠.cell) (loc:∀y∈sc.names,y.2=.local->sc.names.lookup y.1=some .local) (Vo:∀y∈sc.names,y.2≠.free) :
  Bh X N' (N'.map λ_=>none) sc where
 kind:=kind
 Fj:=Fj
 loc:=loc
 fv:=λy hy e=>absurd e (Vo y hy)
 len:=by simp
 src:=λi x j _ e=>by
  rw[Qbf] at e;cases q:N'[i]? with
  | none=>rw[q] at e;cases e
  | some z=>rw[q] at e;cases e
theorem G5 {K:YD} {a l:Addr} {xs:YG} {g:TG} {tt:TT} {te:TE} {Q:VK} {σ0:St} {H0:Hp} (Pv:YN)
  (h0:Pv 0 σ0 H0) (hl:∀i U H',i<=xs.length->Pv i U H'->SqT K H' a xs)
  (hs:∀i x U H',xs[i]?=some x->Pv i U H'->g x U H' fun σ3 H3=>tt σ3 H3 λb H4=>if b=true then te σ3 H4 λy H5=>∃ys,H5 l=some (.lst ys)/\ys.length < sizeLine/\Pv (i+1) σ3 (upd H5 l (.lst (ys++[y]))) else Pv (i+1) σ3 H4)
  (hd:∀ U H',Pv xs.length U H'->Q (.ref l) H'):Fe (Itt K a) g tt te Q σ0 H0 l:=by
 unfold Fe;refine⟨λi m U H'=>m=xs.length - i/\i<=xs.length/\Pv i U H',⟨xs.length,by simp,Qcs _,h0⟩,?_⟩;rintro i m U H' ⟨rfl,hi,p⟩;have q:=hl i U H' hi p;by_cases hlt:i < xs.length
 ·refine .inr ⟨⟨xs,xs[i],q,by simp[hlt]⟩,Pv (i+1),fun σ3 H3 p'=>⟨xs.length - (i+1),by omega,rq,hlt,p'⟩,λx H2 y=>?_⟩;obtain⟨e,y⟩:=y;subst e;exact hs i x U _ (y xs q) p
 ·have e:i=xs.length:=by omega
  subst e;exact .inl ⟨⟨xs,q,Qcr _⟩,hd U H' p⟩
theorem Gb {K:YD} {a l:Addr} {xs:YG} {g:TG} {tt:TT} {te:TE} {Q:VK} {σ0:St} {H0:Hp} (Pv:YN)
  (h0:Pv 0 σ0 H0) (hl:∀i U H',i<=xs.length->Pv i U H'->SqL K H' a xs)
  (hs:∀i x U H',xs[i]?=some x->Pv i U H'->g x U H' fun σ3 H3=>tt σ3 H3 λb H4=>if b=true then te σ3 H4 λy H5=>∃ys,H5 l=some (.lst ys)/\ys.length < sizeLine/\Pv (i+1) σ3 (upd H5 l (.lst (ys++[y]))) else Pv (i+1) σ3 H4)
  (hd:∀ U H',Pv xs.length U H'->Q (.ref l) H'):Fe (Itl K a) g tt te Q σ0 H0 l:=by
 unfold Fe;refine⟨λi m U H'=>m=xs.length - i/\i<=xs.length/\Pv i U H',⟨xs.length,by simp,Qcs _,h0⟩,?_⟩;rintro i m U H' ⟨rfl,hi,p⟩;have q:=hl i U H' hi p;by_cases hlt:i < xs.length
 ·refine .inr ⟨⟨xs,xs[i],q,by simp[hlt]⟩,Pv (i+1),fun σ3 H3 p'=>⟨xs.length - (i+1),by omega,rq,hlt,p'⟩,λx H2 y=>?_⟩;obtain⟨e,y⟩:=y;subst e;exact hs i x U _ (y xs q) p
 ·have e:i=xs.length:=by omega
  subst e;exact .inl ⟨⟨xs,q,Qcr _⟩,hd U H' p⟩
theorem Mf {lo:Int} {n:Nat} {l:Addr} {g:TG} {tt:TT} {te:TE} {Q:VK} {σ0:St} {H0:Hp} (Pv:YN) (h0:Pv 0 σ0 H0)
  (hs:∀i U H',i < n->Pv i U H'->g (.int (lo+i)) U H' fun σ3 H3=>tt σ3 H3 λb H4=>if b=true then te σ3 H4 λy H5=>∃ys,H5 l=some (.lst ys)/\ys.length < sizeLine/\Pv (i+1) σ3 (upd H5 l (.lst (ys++[y]))) else Pv (i+1) σ3 H4)
  (hd:∀ U H',Pv n U H'->Q (.ref l) H'):Fe (Itr lo n) g tt te Q σ0 H0 l:=by
 unfold Fe;refine⟨λi m U H'=>m=n - i/\i<=n/\Pv i U H',⟨n,by simp,Qcs _,h0⟩,?_⟩;rintro i m U H' ⟨rfl,hi,p⟩;by_cases hlt:i < n
 ·refine .inr ⟨hlt,Pv (i+1),fun σ3 H3 p'=>⟨n - (i+1),by omega,rq,hlt,p'⟩,λx H2 y=>?_⟩;obtain⟨e,y⟩:=y;subst e y;exact hs i U _ hlt p
 ·have e:i=n:=by omega
  subst e;exact .inl ⟨Qcr _,hd U H' p⟩
section
variable {X:Cx}
theorem S8 (hc:X.calm=true):Ds X (.builtin "max") (λxs H Q=>∃(p:Addr) (ns:List Int),xs=[.ref p]/\SqL X.K H p (ns.map V.int)/\0 < ns.length/\∀M,M∈ns->(∀a,a∈ns->a<=M)->Q (.int M) H):=by
 intro jb s U H xs us Q I r h;obtain⟨p,ns,rfl,hq,hne,q⟩:=h;obtain⟨u,rfl,rx⟩:=vals1 r;cases rx;obtain⟨its,rv,pl,hz⟩:=I.list hq;have hi:IntsAre its ns:=intsAre_of rv;obtain⟨zs,e⟩:=hi.allInts.items;have hl:=pl.isList;rw[e] at hl;have hns:ns=zs.toList.map (·.1):=by rw[<-hi.numsOf,<-nums_intItems,<-e]
 have hsz:0 < zs.size:=by
  have h3:=hne;rw[hns,QbF,QaJ] at h3;exact h3
 refine max_intList (I.ok.hd hc) hl hsz λv h' tk hv hk=>?_;obtain⟨t,rfl⟩:=intItems_at hv;obtain⟨_,h2⟩:=argBest_gt (numAt zs) (zs.size - 1);refine⟨.int _,H,I.kept hk,⟨t,rq⟩,q _ ?_ λa ha=>?_⟩
 ·rw[hns,numAt_eq];exact getD_mem (by rw[QbF,QaJ];have:=(argBest_gt (numAt zs) (zs.size - 1)).1;omega)
 ·rw[hns] at ha;obtain⟨j,hj,rfl⟩:=mem_getD ha;rw[QbF,QaJ] at hj;rw[<-numAt_eq];exact h2 j (by omega)
theorem Sy:∀{us:YE} {ns:List Int},IntsAre us ns->Vals (ns.map V.int) us:=λh=>Mw h
theorem V8:Ds X (.builtin "sorted") (λxs H Q=>∃(p:Addr) (ns:List Int),xs=[.ref p]/\SqL X.K H p (ns.map V.int)/\ns.length < 64 /\
  ∀(ms:List Int) l,ms.Perm ns->ms.Pairwise (·<=·)->H l=none->Q (.ref l) (upd H l (.lst (ms.map V.int)))):=by
 intro jb s U H xs us Q I r h;obtain⟨p,ns,rfl,hq,h64,q⟩:=h;obtain⟨u,rfl,rx⟩:=vals1 r;cases rx;obtain⟨its,rv,pl,hz⟩:=I.list hq;have hi:IntsAre its ns:=intsAre_of rv;have hlen:=hi.length;refine sorted_ints pl.isList hi (by omega) λout ms a1 a2 a3=>?_;obtain⟨e,he⟩:=sortedAll_at s.heap its out;have hml:=a2.length_eq;refine⟨.ref (s.heap.objs.size+1),_,I.laid (t':=s.toks) (o:=.lst (ms.map V.int)) (λb o q=>sortedAll_old q) (Qcw _) ?_,rq,q ms _ a2 a3 (I.hok.fresh (Qcw _))⟩;exact⟨by rw[QbF];exact Qcp (Aq (by omega)),out.toList,e,Sy a1,he⟩
theorem Xg:∀{ys:YF} {us:YE},Vals (ys.map V.str) us->StrsAre us ys
 | [],_,.nil=>.nil
 | y::r,_,.cons h t=>by
  obtain⟨t',e⟩:=(show ∃t,_=Value.str y t from h)
  cases e;exact .cons y t' (Xg t)
def rJoin (K:YD):V->YG->Hp->VK->Prop:=λx vs H Q=>∃(z:Str) (p:Addr) (ys:YF),x=.str z/\vs=[.ref p]/\SqL K H p (ys.map V.str)/\(ys.map (·.length)).sum+ys.length*z.length<=16777216/\Q (.str (Txt.join z ys)) H
theorem NT:MtR X "str.join" (rJoin X.K):=by
 intro jb s U H x vs v us Q I rx rv h;obtain⟨z,p,ys,rfl,rfl,hq,hz,q⟩:=h;obtain⟨t,rfl⟩:=rx;obtain⟨u,rfl,ru⟩:=rv.one;cases ru;obtain⟨its,r',pl,_⟩:=I.list hq;exact join_list pl.isList (Xg r') hz λt' k=>⟨.str (Txt.join z ys),H,I.tok k,⟨t',rq⟩,q⟩
def Its (z:Str):It:=⟨λi _=>i < z.cps.size,λi H x H'=>H'=H/\∃c,z.cps[i]?=some c/\x=.str ⟨#[c]⟩,λi _=>i=z.cps.size⟩
def rY (tl:TE):TI:=fun U H R=>tl U H λx H1=>∃z,x=.str z/\R (Its z) H1
end
section
variable {X:Cx} {tg:Expr}
theorem Uj {P:Program} {w:World} {K:YD} {tg:Expr} (z:Str) (t:Tok) (it:Addr) (ty:String) (hty:["enumerate","zip","dict_itemiterator","dict_reverseitemiterator","odict_iterator","itertools.zip_longest","itertools.pairwise"].contains ty=false)
  (W:∀A':Around,A'.handled=none->Walks P w A' it [it] [it] z.cps.size (SignAt z) (λi h=>h.IsStrIter it ty z t i))
  (hself:∀(A:Around) (i:Nat) (s:Shared) (Q:YA) (E:YA),s.heap.IsStrIter it ty z t i->Q (.ref it) s->wpAny (model P w) A (pyIter (.ref it)) Q E s) :
  Turn P w K tg (Its z) [it] it (λi h=>h.IsStrIter it ty z t i) where
 mem:=QaR.mpr rfl
 obj:=λi h st b hb=>by
  cases QaR.mp hb;obtain⟨o,e,c,d⟩:=st;exact⟨o,e,λv z'=>by rw[d] at z';cases z'⟩
 keep:=λi h h' st k=>by
  obtain⟨o,e,r⟩:=st;exact⟨o,k it (QaR.mpr rfl) o e,r⟩
 item:=by
  intro X hP hw hK hc i jb s U H E I hf st hg;subst hP hw hK;obtain⟨f0,f1,f2,f3,f4,f5⟩:=hf it (QaR.mpr rfl);refine (W X.A (I.ok.hd hc)).item i s _ _ hg st λv h' tk hv st' kk=>?_;obtain⟨c,u,hcu,rfl⟩:=hv;have I1:Inv X jb U H { s with heap:=h',toks:=tk }:=I.turned (λb o hb e=>kk b o (λhm=>hb (QaR.mp hm)) e) f0 f1 f3 f4 f5;obtain⟨o,e,cl,d⟩:=id st';exact⟨_,rq,T7 (s:={ s with heap:=h',toks:=tk }) e cl d hty ⟨.str ⟨#[c]⟩,H,I1,⟨u,rq⟩,⟨rq,c,hcu,rq⟩,st',λb hb=>(hf b hb).1⟩⟩
 done:=by
  intro X hP hw hK hc i jb s U H E I hf st hg;subst hP hw hK;obtain⟨f0,f1,f2,f3,f4,f5⟩:=hf it (QaR.mpr rfl);cases (show i=z.cps.size from hg)
  exact (W X.A (I.ok.hd hc)).done s _ _ st λh' tk kk=>⟨rq,I.turned (λb o hb e=>kk b o (λhm=>hb (QaR.mp hm)) e) f0 f1 f3 f4 f5⟩
 self:=λA i s Q E st h=>hself A i s Q E st h
theorem U8 {l:Expr} {tl:TE} (hl:PE X l tl):PI X tg l (rY tl):=by
 intro jb s U H R I h;refine thn (hl jb s U H _ I h) λv s1 zz=>?_;obtain⟨x,H1,I1,r1,z,e,q⟩:=zz;subst e;obtain⟨t,rfl⟩:=r1;have fp:∀o:Obj,∀b∈[s1.heap.objs.size],Gg X jb H1 b:=λo b hb=>by
  cases QaR.mp hb;exact I1.Py (Qcr _) (I1.hok.fresh (Qcr _))
 cases ha:z.cps.all (· < 128) with
 | true=>
  refine wpAny_pyIter_ascii ha ?_;exact⟨s1.heap.objs.size,[s1.heap.objs.size],_,_,H1,rq,I1.kept (t':=s1.toks) λb o e=>Qat _ e,Uj z t _ "str_ascii_iterator" (by decide) (λA' hA=>Walks.strAscii hA _ z t) (λ_ _ _ _ _ st h=>wpAny_pyIter_striter_ascii st h),
   ⟨_,QaI _ rfl,rq,rq⟩,fp { cls:=.none,data:=.fields #[] },q⟩
 | false=>
  refine wpAny_pyIter_wide ha ?_;exact⟨s1.heap.objs.size,[s1.heap.objs.size],_,_,H1,rq,I1.kept (t':=s1.toks) λb o e=>Qat _ e,Uj z t _ "str_iterator" (by decide) (λA' hA=>Walks.strWide hA _ z t) (λ_ _ _ _ _ st h=>wpAny_pyIter_striter_wide st h),
   ⟨_,QaI _ rfl,rq,rq⟩,fp { cls:=.none,data:=.fields #[] },q⟩
theorem PX {z:Str} {l:Addr} {g:TG} {tt:TT} {te:TE} {Q:VK} {σ0:St} {H0:Hp} (Pv:YN) (h0:Pv 0 σ0 H0)
  (hs:∀i c U H',z.cps[i]?=some c->Pv i U H'->g (.str ⟨#[c]⟩) U H' fun σ3 H3=>tt σ3 H3 λb H4=>if b=true then te σ3 H4 λy H5=>∃ys,H5 l=some (.lst ys)/\ys.length < sizeLine/\Pv (i+1) σ3 (upd H5 l (.lst (ys++[y]))) else Pv (i+1) σ3 H4)
  (hd:∀ U H',Pv z.cps.size U H'->Q (.ref l) H'):Fe (Its z) g tt te Q σ0 H0 l:=by
 unfold Fe;refine⟨λi m U H'=>m=z.cps.size - i/\i<=z.cps.size/\Pv i U H',⟨z.cps.size,by simp,Qcs _,h0⟩,?_⟩;rintro i m U H' ⟨rfl,hi,p⟩;by_cases hlt:i < z.cps.size
 ·refine .inr ⟨hlt,Pv (i+1),fun σ3 H3 p'=>⟨z.cps.size - (i+1),by omega,rq,hlt,p'⟩,λx H2 y=>?_⟩;obtain⟨e,c,hc,rfl⟩:=y;subst e;exact hs i c U _ hc p
 ·have e:i=z.cps.size:=by omega
  subst e;exact .inl ⟨rq,hd U H' p⟩
end
end L2
namespace HT
open PySem PyProof.Rows
section
variable {prog:Program} {w:World} {A:Around} {E:YA} {s:Shared}
theorem Oe {t sl:Addr} {items:Array Value} {vl vu:Value} {lo hi:Option Int} {Q:YA} (ht:IsTup s.heap t items) (hs:s.heap.IsSliceOf sl vl vu .none) (pl:IsPart vl lo) (pu:IsPart vu hi)
  (hw:sIx items.size 0 lo=0/\sIx items.size items.size hi=items.size) (h:Q (.ref t) s):wpAny (model prog w) A (getItem (.ref t) (.ref sl)) Q E s:=by
 obtain⟨os,hos,hcs,hds⟩:=id hs;have hTs:s.TypeIs (.ref sl) "slice":=⟨os,hos,hcs⟩;unfold getItem
 try with_reducible refine Qcf ?_
 first | refine Qcx (Qcy ?_) | skip
 refine Qcx (wpAny_sequenceKey ht.typeIs (by decide) ?_);refine Qcx (Qaq (name:=Str.ofString "__getitem__") ht.typeIs Qab (QbA Qab ht.typeIs entry_tuple_getitem ?_ (args_tuple_getitem _ _)));show wpAny _ _ (Builtin.Tuple.tupleItemsOf (.ref t) >>= _) _ _ s;refine Qcx (tupleItemsOf_ ht ?_);refine Qcx (wpAny_typeOf hTs ?_);rw[if_pos (by decide)];refine Qcx (JD hs pl pu ?_);rw[hw.1,hw.2];show wpAny _ _ (if (((0:Nat):Int) == 0&&(1:Int) == 1&&(items.size - 0) == items.size)=true then _ else _) _ _ s
 rw[if_pos (by simp)];refine Qcx ?_;unfold Builtin.Tuple.tupleIsExact;refine Qcx (wpAny_typeOf ht.typeIs (Qcy ?_));rw[if_pos (by decide)];exact Qcx (QcA (Qcy ⟨_,rq,Qcy h⟩))
end
end HT
namespace L2
open PySem PySem.Spec PyProof.Rows
section
variable {X:Cx}
theorem Q8:SlR X (λx lo hi H Q=>∃a xs,x=.ref a/\H a=some (.tup xs)/\∀p H',H' p=some (.tup (Fz xs lo hi))->Same H H'->Q (.ref p) H'):=by
 intro jb s U H x v vl vu lo hi sl Q I rx hs pl pu h;obtain⟨a,xs,rfl,hx,q⟩:=h;by_cases hw:HT.sIx xs.length 0 lo=0/\HT.sIx xs.length xs.length hi=xs.length
 ·cases rx;obtain⟨its,r,ht,hz⟩:=I.tuple (SqT.of hx);have hlen:its.toArray.size=xs.length:=by rw[Qbc];exact r.length.symm
  refine⟨"tuple",_,Qab.lookup,ht.typeIs,?_⟩;refine HT.Oe ht hs pl pu (by rw[hlen];exact hw) ⟨.ref a,H,I,rq,q a H ?_ (Same.refl H)⟩;have e:Fz xs lo hi=xs:=by unfold Fz;rw[hw.1,hw.2];simp
  rw[e];exact hx
 ·exact jT jb s U H _ v vl vu lo hi sl Q I rx hs pl pu ⟨a,xs,rq,SqT.of hx,hw,λp hp=>q p _ Ac (λc o e=>by rw[Ar (Ao e hp)];exact e)⟩
theorem ZF:SlR X (λx lo hi H Q=>∃z,x=.str z/\z.length<=sizeLine/\Q (.str (Txt.slice z lo hi)) H):=by
 intro jb s U H x v vl vu lo hi sl Q I rx hs pl pu h;obtain⟨z,rfl,hz,q⟩:=h;obtain⟨t,rfl⟩:=rx;refine⟨"str",_,F.slot_str_getitem.lookup,typeIs_str _ _ _,?_⟩;have fin:∀t' k,EP X jb U Q (.str (Txt.slice z lo hi) t') { s with toks:=k }:=λt' k=>⟨.str (Txt.slice z lo hi),H,I.tok k,⟨t',rq⟩,q⟩;cases pl with
 | none=>
  cases pu with
  | none=>exact Qar (l:=none) (u:=none) (st:=none) hs rfl (post_val_or_str ⟨Qcn (Txt.slice_le z _ _) hz,fin⟩)
  | int j tj=>exact Qar (l:=none) (u:=some (j,tj)) (st:=none) hs rfl (post_val_or_str ⟨Qcn (Txt.slice_le z _ _) hz,fin⟩)
 | int i ti=>
  cases pu with
  | none=>exact Qar (l:=some (i,ti)) (u:=none) (st:=none) hs rfl (post_val_or_str ⟨Qcn (Txt.slice_le z _ _) hz,fin⟩)
  | int j tj=>exact Qar (l:=some (i,ti)) (u:=some (j,tj)) (st:=none) hs rfl (post_val_or_str ⟨Qcn (Txt.slice_le z _ _) hz,fin⟩)
end
theorem Qu {X:Cx} {x:Str} {v:V} {pos:Pos} (hg:Gl X x) (hm:∃u,X.mg x=some u/\RelV v u) (hd:(x == ("__debug__":Str))=false:=by decide):PE X (.Name x pos) (tC v):=by
 obtain⟨u,h,r⟩:=hm;exact iQ hg h r hd
def Ak (H H':Hp):Prop:=∀c xs,H c=some (.tup xs)->H' c=some (.tup xs)
theorem Ak.trans {H H1 H2:Hp} (a:Ak H H1) (b:Ak H1 H2):Ak H H2:=λc xs e=>b c xs (a c xs e)
theorem Ak.of {H H1:Hp} (s:Same H H1):Ak H H1:=λc xs e=>s c _ e
theorem Ak.upd {H:Hp} {b:Addr} {o:HO} (h:∀xs,H b≠some (.tup xs)):Ak H (upd H b o):=λc xs e=>by
 have n:c≠b:=λz=>h xs (z ▸ e);rw[Ar n];exact e
def Ag (b:Addr) (H H':Hp):Prop:=∀c o,H c=some o->c≠b->H' c=some o
theorem Ag.trans {b:Addr} {H H1 H2:Hp} (x:Ag b H H1) (y:Ag b H1 H2):Ag b H H2:=λc o e n=>y c o (x c o e n) n
theorem Ag.of {b:Addr} {H H1:Hp} (x:Same H H1):Ag b H H1:=λc o e _=>x c o e
theorem Ag.refl (b:Addr) (H:Hp):Ag b H H:=λ_ _ e _=>e
theorem Ag.upd {b:Addr} {H:Hp} {o:HO}:Ag b H (upd H b o):=λc u e n=>by rw[Ar n];exact e
theorem Ag.tup {b:Addr} {H H':Hp} (x:Ag b H H') (h:∀xs,H b≠some (.tup xs)):Ak H H':=λc xs e=>x c _ e λz=>h xs (z ▸ e)
theorem Ag.free {b:Addr} {H H':Hp} (x:Ag b H H') (hb:∃o,H' b=some o) {l:Addr} (h:H' l=none):H l=none:=by
 cases e:H l with
 | none=>rfl
 | some o=>
  by_cases n:l=b
  ·obtain⟨o',e'⟩:=hb;rw[n,e'] at h;cases h
  ·rw[x l o e n] at h;cases h
section
variable {X:Cx} {o e value:Expr} {f:Str} {pos pos' tpos:Pos} {ta tv:TE}
end
theorem PS.weak {X:Cx} {s:Stmt} {t t':TS} (h:PS X s t) (i:∀D U H,t' D U H->t D U H):PS X s t':=λjb sh U H D I q=>h jb sh U H D I (i D U H q)
section
variable {X:Cx} {K:YD}
theorem Ys (h:X.K=K):OpR X (compareOp .In) (rIn K false):=h ▸ Ni
theorem Mj (h:X.K=K):OpR X (compareOp .NotIn) (rIn K true):=h ▸ Vb
end
end L2
namespace PySem
open Sem (wp)
section
variable {prog:Program} {w:World} {A:Around} {E:YA} {s:Shared}
end
end PySem
namespace L2
open PySem PySem.Spec PyProof.Rows
section
variable {X:Cx} {pos:Pos}
end
structure Has (H:Hp) (l:List (Addr×HO)):Prop where
 nd:(l.map (·.1)).Nodup
 at_:∀x∈l,H x.1=some x.2
theorem Has.nY {H:Hp} {l:List (Addr×HO)} {a:Addr} (h:Has H l) (e:H a=none):a∉l.map (·.1):=λz=>by
 obtain⟨x,hx,rfl⟩:=Qcm.mp z;rw[h.at_ x hx] at e;cases e
theorem Has.new {H H':Hp} {l:List (Addr×HO)} {a:Addr} {o:HO} (h:Has H l) (n:H a=none) (s:Same H H') (e:H' a=some o):Has H' (l++[(a,o)]):=by
 refine⟨?_,λx hx=>?_⟩
 ·rw[QbH,Qbp];refine⟨h.nd,by simp,λx hx y hy z=>?_⟩;have:y=a:=by simpa using hy
  subst this;exact h.nY n (z ▸ hx)
 ·rcases QbG.mp hx with z | z
  ·exact s _ _ (h.at_ x z)
  ·have:x=(a,o):=by simpa using z
   subst this;exact e
theorem Has.nil (H:Hp):Has H []:=⟨QbZ,λx hx=>by cases hx⟩
theorem Same.Dc {H0 H H':Hp} {a:Addr} (s:Same H0 H) (b:Ag a H H') (f:H0 a=none):Same H0 H':=λc o e=>b _ _ (s _ _ e) λz=>by rw[z,f] at e;cases e
section
variable {κ : Type} [DecidableEq κ]
def Ia (kvs:List (κ×V)) (k:κ):Option V:=(kvs.find? λkv=>decide (kv.1=k)).map (·.2)
def putK (kvs:List (κ×V)) (k:κ) (v:V):List (κ×V):=
 if (kvs.any λkv=>decide (kv.1=k))=true then kvs.map (λkv=>if kv.1=k then (kv.1,v) else kv) else kvs++[(k,v)]
theorem Ot {p:κ×V} {r:List (κ×V)} {k:κ} (e:p.1=k):Ia (p::r) k=some p.2:=by simp[Ia,QbV,e]
theorem Ld {p:κ×V} {r:List (κ×V)} {k:κ} (e:¬p.1=k):Ia (p::r) k=Ia r k:=by simp[Ia,QbV,e]
theorem Ug (k:κ):∀kvs:List (κ×V),(kvs.any λkv=>decide (kv.1=k))=(Ia kvs k).isSome
 | []=>rfl
 | p::r=>by
  rw[Qci];by_cases e:p.1=k
  ·simp only[Ot e,QbX e,Bool.true_or,Option.isSome_some]
  ·rw[Ld e,QbL e,Bool.false_or];exact Ug k r
theorem Ww (kvs:List (κ×V)) (k:κ) (v:V):(putK kvs k v).length<=kvs.length+1:=by
 unfold putK;split
 ·rw[QbF];omega
 ·rw[QaN,Qbu,List.length_nil];omega
theorem dw {kvs:List (κ×V)} {k:κ} (v:V) (h:Ia kvs k=none):putK kvs k v=kvs++[(k,v)]:=by
 unfold putK;rw[Ug,h];exact if_neg (by decide)
theorem Qe.getD {o:Option V} {u:Option Value} {d:V} {d':Value} (r:Qe o u) (rd:RelV d d'):RelV (o.getD d) (u.getD d'):=by
 cases o with
 | none=>cases u with
  | none=>exact rd
  | some _=>exact (show False from r).elim
 | some _=>cases u with
  | none=>exact (show False from r).elim
  | some _=>exact r
theorem KV.val {kvs:List (κ×V)} {vs:List (κ×Value)} (r:KV kvs vs) (k:κ):Qe (Ia kvs k) (valueAt vs k):=by
 unfold KV at r
 induction r with
 | nil=>exact True.intro
 | @cons p q ps qs h t ih=>
  obtain⟨h1,h2⟩:=h;by_cases e:p.1=k
  ·have e':q.1=k:=h1.symm.trans e;have b:valueAt (q::qs) k=some q.2:=by simp[valueAt,QbV,e']
   rw[Ot e,b];exact h2
  ·have e':¬q.1=k:=λz=>e (h1.trans z);have b:valueAt (q::qs) k=valueAt qs k:=by simp[valueAt,QbV,e']
   rw[Ld e,b];exact ih
theorem KV.any {kvs:List (κ×V)} {vs:List (κ×Value)} (r:KV kvs vs) (k:κ):(kvs.any λkv=>decide (kv.1=k))=vs.any λkv=>decide (kv.1=k):=by
 unfold KV at r
 induction r with
 | nil=>rfl
 | cons h t ih=>rw[Qci,Qci,ih,h.1]
theorem KV.repl {kvs:List (κ×V)} {vs:List (κ×Value)} (r:KV kvs vs) (k:κ) {y:V} {u:Value} (ry:RelV y u) :
  KV (kvs.map λkv=>if kv.1=k then (kv.1,y) else kv) (vs.map λkv=>if kv.1=k then (kv.1,u) else kv):=by
 unfold KV at r ⊢
 induction r with
 | nil=>exact .nil
 | @cons p q ps qs h t ih=>
  rw[Qce,Qce];refine .cons ?_ ih;obtain⟨h1,h2⟩:=h;by_cases e:p.1=k
  ·rw[if_pos e,if_pos (h1.symm.trans e)];exact⟨h1,ry⟩
  ·rw[if_neg e,if_neg (λz=>e (h1.trans z))];exact⟨h1,h2⟩
theorem KV.put {kvs:List (κ×V)} {vs:List (κ×Value)} (r:KV kvs vs) (k:κ) {y:V} {u:Value} (ry:RelV y u):KV (putK kvs k y) (stored vs k u):=by
 unfold putK stored;rw[r.any k];by_cases e:(vs.any λkv=>decide (kv.1=k))=true
 ·rw[if_pos e,if_pos e];exact r.repl k ry
 ·rw[if_neg e,if_neg e];exact Qct r ⟨rq,ry⟩
theorem KV.length {kvs:List (κ×V)} {vs:List (κ×Value)} (r:KV kvs vs):kvs.length=vs.length:=Qcd r
end
theorem oh {P:Program} {w:World} {k:Key} {u:Value} (r:RelV (kV k) u):(Gn P w).is k u=true:=by
 cases k with
 | inl i=>obtain⟨t,e⟩:=(show ∃t,u=Value.int i t from r);subst e;exact Wv P w i t
 | inr x=>obtain⟨t,e⟩:=(show ∃t,u=Value.str x t from r);subst e;exact Wu P w x t
abbrev YL:=List (List Key×V)
abbrev KT (H:Hp):YL->List (List Key×Addr×Value)->Prop:=Paired λp q=>p.1=q.1/\H q.2.1=some (.tup (p.1.map kV))/\RelV p.2 q.2.2
theorem KT.val {H:Hp} {kvs:YL} {xs:List (List Key×Addr×Value)} (r:KT H kvs xs) (k:List Key):Qe (Ia kvs k) ((atKey xs k).map (·.2)):=by
 induction r with
 | nil=>exact True.intro
 | @cons p q ps qs h t ih=>
  obtain⟨h1,_,h2⟩:=h;by_cases e:p.1=k
  ·have e':q.1=k:=h1.symm.trans e;have b:atKey (q::qs) k=some q.2:=by simp[atKey,QbV,e']
   rw[Ot e,b];exact h2
  ·have e':¬q.1=k:=λz=>e (h1.trans z);have b:atKey (q::qs) k=atKey qs k:=by simp[atKey,QbV,e']
   rw[Ld e,b];exact ih
theorem KT.keeps {H H':Hp} {kvs:YL} {xs:List (List Key×Addr×Value)} (r:KT H kvs xs) (ht:∀b ys,H b=some (.tup ys)->H' b=some (.tup ys)):KT H' kvs xs:=
 Paired.Bg r λ_ _ z=>⟨z.1,ht _ _ z.2.1,z.2.2⟩
section
variable {P:Program} {w:World} {H:Hp} {h:Heap} {a:Addr}
theorem nJ {u:HO} (ok:HOk P w H h) (e:Rd H a u):BW P w H h a u:=e.ok ok
abbrev YM:=List (Key×V)
theorem gW {kvs:YM} (ok:HOk P w H h) (e:Rd H a (.dK kvs)):kvs.length<=sizeLine/\(a == sysModules)=false/\∃vs,KV kvs vs/\h.DictOf (Gn P w) a vs:=
 show BW P w H h a (.dK kvs) from nJ ok e
theorem oR {kvs:YM} (ok:HOk P w H h) (e:H a=some (.dK kvs)):kvs.length<=sizeLine/\(a == sysModules)=false/\∃vs,KV kvs vs/\h.DictOf (Gn P w) a vs:=gW ok (.inl e)
end
def ni (H:Hp) (a:Addr) (y:V) (r:Option V):Prop:=
 (∃kvs k,Rd H a (.dK kvs)/\y=kV k/\r=Ia kvs k)\/∃kvs k b,Rd H a (.dT kvs)/\y=.ref b/\H b=some (.tup (k.map kV))/\r=Ia kvs k
def m9 (H:Hp) (a:Addr) (y v:V) (H':Hp):Prop:=
 (∃kvs k,H a=some (.dK kvs)/\y=kV k/\kvs.length < sizeLine/\H'=upd H a (.dK (putK kvs k v))) \/
 ∃kvs k b,H a=some (.dT kvs)/\y=.ref b/\H b=some (.tup (k.map kV))/\kvs.length < sizeLine/\H'=upd H a (.dT (putK kvs k v))
theorem ni.t {H:Hp} {a b:Addr} {kvs:YL} {k:List Key} (e:H a=some (.dT kvs)) (eb:H b=some (.tup (k.map kV))):ni H a (.ref b) (Ia kvs k):=.inr ⟨kvs,k,b,.inl e,rfl,eb,rfl⟩
theorem m9.t {H:Hp} {a b:Addr} {kvs:YL} {k:List Key} {v:V} (e:H a=some (.dT kvs)) (eb:H b=some (.tup (k.map kV))) (hl:kvs.length < sizeLine) :
  m9 H a (.ref b) v (upd H a (.dT (putK kvs k v))):=.inr ⟨kvs,k,b,e,rq,eb,hl,rq⟩
section
variable {X:Cx} {jb:YC} {U : St} {H:Hp} {s:Shared} {a:Addr} {y v:V} {u r:Value} {o:Option V} {A:Around} {E:YA}
theorem Inv.big (I:Inv X jb U H s):sysModules < s.heap.objs.size:=by
 have h:mainGlobals < s.heap.objs.size:=(I.mod.glob.keeps I.bk).lt;exact Nat.lt_trans (by decide) h
theorem jw {h':Heap} {t':Nat} {ob:HO} (I:Inv X jb U H s) (mu:Mut (H a)) (hs:Heap.SameBut a s.heap h') (he:∃q,h'.get? a=some q) (new:BW X.prog X.w (upd H a ob) h' a ob) :
  Inv X jb U (upd H a ob) { s with heap:=h',toks:=t' }:=
 I.write (x:=a) (e:=a) mu (.inl rfl) (λb q hb z=>(hs.2 b hb).trans z) he new
theorem mU {P:Program} {w:World} {H':Hp} {h':Heap} {kvs:YM} {vs:List (Key×Value)} (z:kvs.length<=sizeLine) (hd:(a == sysModules)=false) (rel:KV kvs vs) (dd:h'.DictOf (Gn P w) a vs) :
  BW P w H' h' a (.dK kvs):=⟨z,hd,vs,rel,dd⟩
end
section
variable {X:Cx} {jb:YC} {U : St} {H:Hp} {s:Shared} {a:Addr} {kvs:YM} {k:Key} {u:Value} {A:Around} {E:YA}
theorem oU {Q:YA} (I:Inv X jb U H s) (e:Rd H a (.dK kvs)) (h:∀t s',Inv X jb U H s'->Q (.int kvs.length t) s'):wpAny (model X.prog X.w) A (call (.builtin "len") [.ref a]) Q E s:=by
 obtain⟨z,hd,vs,rel,dd⟩:=gW I.hok e;refine call_len_dict hd dd (by rw[<-rel.length];rw[Qcv] at z;omega) ?_;rw[<-rel.length];exact h _ _ (I.tok _)
end
section
variable {X:Cx} {o i e value:Expr} {pos pos' tpos:Pos} {td ty tv:TE}
end
theorem fQ {P:Program} {w:World} {H:Hp} (h:Heap) (hb:sysModules < h.objs.size):BW P w H (h.push { cls:=.type "dict",data:=.dict #[] }) h.objs.size (.dK []):=
 ⟨Qcs _,beq_eq_false_iff_ne.mpr (Ne.symm (Qcl hb)),[],.nil,Heap.DictOf.new h⟩
section
variable {X:Cx} {pos:Pos}
end
structure M1 (X:Cx) (o:Expr) (m:Str) (apos:Pos) (e:Expr) (cpos:Pos):Prop where
 base:attributeBase o m X.env (eval o X.env)=eval o X.env
 few:((backTo cpos (starEach [e] X.env)).all (λx=>!x.1)&&(backToKw cpos (keywordEach [] X.env)).all (λx=>x.1.isSome)
 &&decide (([e]:YJ).length+([]:List Keyword).length+(if ([]:List Keyword).isEmpty then 0 else 1) < 30))=true
 line:(apos.endLine == cpos.line)=true
 trees:backTo cpos (starEach [e] X.env)=[(false,eval e X.env)]
section
variable {X:Cx} {jb:YC} {U : St} {H:Hp} {s:Shared} {a:Addr} {y d:V} {u r:Value} {o:Option V} {A:Around} {E:YA}
end
section
variable {X:Cx} {o e f:Expr} {apos cpos:Pos} {td ty tx:TE}
end
section
variable {X:Cx} {jb:YC} {U : St} {H:Hp} {s:Shared} {a:Addr} {kvs:YM} {A:Around} {E:YA}
end
section
variable {X:Cx} {jb:YC} {U : St} {H:Hp} {s:Shared} {a:Addr} {y:V} {u:Value} {A:Around} {E:YA}
end
section
variable {X:Cx}
theorem bK:Ds X (.builtin "len") (λxs H Q=>∃a kvs,xs=[V.ref a]/\H a=some (.dK kvs)/\Q (.int kvs.length) H):=by
 intro jb s U H xs us Q I r h;obtain⟨a,kvs,rfl,ha,q⟩:=h;obtain⟨u,rfl,ru⟩:=vals1 r;cases ru;exact oU I (.inl ha) λt s' I'=>⟨.int kvs.length,H,I',⟨t,rq⟩,q⟩
end
section
variable {κ : Type} [DecidableEq κ]
theorem Xn:∀{l:List κ} {k:κ},l.Nodup->¬k∈l->(l++[k]).Nodup
 | [],k,_,_=>by simp
 | a::r,k,h,hk=>by
  obtain⟨h1,h2⟩:=QbN.mp h;show (a::(r++[k])).Nodup;refine QbN.mpr ⟨λm=>?_,Xn h2 λm=>hk (Qcc.mpr (Or.inr m))⟩;rcases QbG.mp m with q | q
  ·exact h1 q
  ·exact hk (Qcc.mpr (Or.inl (QaR.mp q).symm))
end
theorem Zb {prog:Program} {w:World} {A:Around} {R:Result->Shared->Prop} {s:Shared} {kx vx target iter:Expr} {ifs:YJ} {scope:Scope} {pos:Pos} {it:Value} {D:Addr} {env:Env} (J:Nat->Shared->Prop)
  (turn:∀n s,J n s->wpAny (model prog w) A (pyNext it) (λr s1=>match r with
   | none=>R (.ok .next) s1
   | some v=>wpAny (model prog w) A (letOwnedTupleGo target it v) (λ_ s2=>wpAny (model prog w) A (assign target env v) (λ_ s3=>
     wpAny (model prog w) A (forIn ifs true λc r=>if r=true then do let ok <-isTrue c env (eval c env);pure (ForInStep.yield ok) else pure (ForInStep.yield r)) (λok s4=>
      if ok=true then wpAny (model prog w) A (eval kx env) (λkv s5=>wpAny (model prog w) A (eval vx env) (λvv s6=>wpAny (model prog w) A (dictSet D kv vv) (λ_ s7=>∃m,m < n/\J m s7) (λ_ _=>False) s6) (λ_ _=>False) s5) (λ_ _=>False) s4
      else ∃m,m < n/\J m s4) (λ_ _=>False) s3) (λ_ _=>False) s2) (λ_ _=>False) s1) (λ_ _=>False) s)
  (n:Nat) (h:J n s):codeAny (model prog w) A (.compLoop (.DictComp kx vx [⟨target,iter,ifs,0⟩] scope pos) 0 it (.ref D) env) R s:=by
 refine codeAny_loop rfl J (λk s' hk=>?_) n h;show wpAny _ A (Sem.onRaise (compTurn (.DictComp kx vx [⟨target,iter,ifs,0⟩] scope pos) 0 it (.ref D) env) (λx=>do noteFrame x env;theTreesLotGoes x)) _ _ s'
 refine wpAny_noted ?_;rw[compTurn_dict];refine Qcx (Qch (Qcx (Qcz (turn k s' hk) (λr s1 q1=>?_) λ_ _ f=>f.elim)));cases r with
 | none=>exact Qcy q1
 | some v=>
  refine Qcx (Qcz q1 (λ_ s2 q2=>Qcx (Qcz q2 (λ_ s3 q3=>Qcx (Qcz q3 (λok s4 q4=>?_) λ_ _ f=>f.elim)) λ_ _ f=>f.elim)) λ_ _ f=>f.elim);cases ok with
  | false=>exact Qcy ⟨rfl,q4⟩
  | true=>exact Qcx (Qcx (Qcz q4 (λkv s5 q5=>Qcx (Qcf (Qcz q5 (λvv s6 q6=>Qcx (Qch (Qcf (Qcz q6 (λ_ s7 q7=>Qcy ⟨rfl,q7⟩) λ_ _ f=>f.elim)))) λ_ _ f=>f.elim))) λ_ _ f=>f.elim))
theorem bG {X:Cx} {jb:YC} {U : St} {H:Hp} {s:Shared} {A:Around} {E:YA} {a:Addr} {kvs:YM} {k:Key} {v:V} {u r:Value} {Q:YH} (I:Inv X jb U H s) (e:H a=some (.dK kvs)) (l:kvs.length < sizeLine) (ry:RelV (kV k) u) (rv:RelV v r)
  (h:∀s',Inv X jb U (upd H a (.dK (putK kvs k v))) s'->Q () s'):wpAny (model X.prog X.w) A (dictSet a u r) Q E s:=by
 obtain⟨z,hd,vs,rel,dd⟩:=oR I.hok e;have hz:vs.length<=sizeLine:=by rw[<-rel.length];exact z
 have hl:(putK kvs k v).length<=sizeLine:=by have:=Ww kvs k v;omega
 refine wpAny_dictSet_pairs (hsz:=hz) (oh ry) dd λh' dd' hs=>h _ ?_;have he:∃q,h'.get? a=some q:=let ⟨q,_,_,hq,_⟩:=dd';⟨q,hq⟩;exact jw I (by rw[e];exact True.intro) hs he (mU hl hd (rel.put k rv) dd')
@[irreducible] def T9 (J:It) (g:TG) (tt:TT) (tk tv:TE) (Q:VK) (σ0:St) (H0:Hp) (l:Addr):Prop:=∃W:Nat->YN,(∃m,W 0 m σ0 H0) /\
 ∀i m σ' H',W i m σ' H'->(J.stop i H'/\Q (.ref l) H')\/(J.go i H'/\∃N:YO,(∀ σ3 H3,N σ3 H3->∃m',m' < m/\W (i+1) m' σ3 H3)/\∀x H2,J.yld i H' x H2->g x σ' H2 fun σ3 H3=>tt σ3 H3 λb H4=>
  if b=true then tk σ3 H4 λy H5=>tv σ3 H5 λz H6=>∃(kvs:YM) (k:Key),H6 l=some (.dK kvs)/\y=kV k/\kvs.length < sizeLine/\N σ3 (upd H6 l (.dK (putK kvs k z))) else N σ3 H4)
def Zx (wi:TI) (src:List (Option Nat)) (g:TG) (tt:TT) (tk tv:TE):TE:=fun U H Q=>wi U H λJ H1=>∀l,H1 l=none->T9 J g tt tk tv Q (Jq src U) (upd H1 l (.dK [])) l
theorem Zc {X:Cx} {N':YF} {src:List (Option Nat)} {sc:Scope} {kx vx tg iter:Expr} {ifs:YJ} {pos pos':Pos} {wi:TI} {g:TG} {tt:TT} {tk tv:TE} {use:Option (Value->Sem Unit)} {R:YA} (hc:X.calm=true) (S:Bh X N' src sc)
  (hi:PI X tg iter wi) (hg:∀s3 H3 fp pn,PG (cxC X N' sc s3 H3 fp pn) tg g) (ht:∀s3 H3 fp pn,PF (cxC X N' sc s3 H3 fp pn) ifs tt) (hk:∀s3 H3 fp pn,PE (cxC X N' sc s3 H3 fp pn) kx tk) (hv:∀s3 H3 fp pn,PE (cxC X N' sc s3 H3 fp pn) vx tv)
  (hs:∀x,foldedSetIterable iter X.env x=pure x) {jb:YC} {s:Shared} {U : St} {H:Hp} {Q:VK} (I:Inv X jb U H s) (h:Zx wi src g tt tk tv U H Q)
  (fin:∀s3 H3 fp σ4 H4 s5 l,Inv X jb U H3 s3->(∀b∈fp,Gg X jb H3 b)->Inv (cxC X N' sc s3 H3 fp (X.pn++jb)) [] σ4 H4 s5->Q (.ref l) H4 ->
   compPost (model X.prog X.w) X.A X.xe use R (.ref l) s3.heap.objs.size (.ok .next) s5) :
  wpAny (model X.prog X.w) X.A (comprehension (.DictComp kx vx [⟨tg,iter,ifs,0⟩] sc pos) sc X.env pos' newDict false (eval iter X.env) use) R X.xe s:=by
 refine wpAny_comprehension_free (use:=use) (cl:=Ea X.env sc.names []) rfl hs (QH λp hp e=>I.ok.has p.1 (S.fv p hp e)) S.kind S.loc ?_;refine thn (hi jb s U H _ I h) λv s1 h1=>thn h1 λitv s2 h2=>?_;obtain⟨it,fp,tn,J,H2,rfl,I2,T,st2,f2,q⟩:=h2;have q':=q s2.heap.objs.size (I2.hok.fresh (Qcr _));unfold T9 at q';obtain⟨W,⟨m0,w0⟩,turn⟩:=q';refine Qbk (wpAny_newFunctionEnv S.Fj (by intro y hy;simp at hy) (λha hns hsb=>?_) S.kind);have I3:Inv X jb U (upd H2 s2.heap.objs.size (.dK [])) { s2 with heap:=s2.heap.push { cls:=.type "dict",data:=.dict #[] } }:=
  I2.laid (t':=s2.toks) (λb u e=>Qat _ e) (Qcr _) (fQ s2.heap I2.big)
 have hfl:∀b∈fp,b < s2.heap.objs.size:=λb hb=>by
  obtain⟨o,e,_⟩:=T.obj 0 _ st2 b hb;exact Qck e
 have f3:∀b∈fp,Gg X jb (upd H2 s2.heap.objs.size (.dK [])) b:=λb hb=>⟨by rw[Ar (Qcl (hfl b hb))];exact (f2 b hb).1,(f2 b hb).2⟩;generalize hs3:({ s2 with heap:=s2.heap.push { cls:=.type "dict",data:=.dict #[] } }:Shared)=s3 at *;have hsz:s2.heap.objs.size < s3.heap.objs.size:=by rw[<-hs3];show s2.heap.objs.size < (s2.heap.push _).objs.size;rw[QbY];exact QbB _
 have kp:∀b o,s3.heap.get? b=some o->ha.get? b=some o:=λb o e=>hsb.extBut b o (Qcl (Qck e)) (Qat _ e);have st3:tn 0 ha:=T.keep 0 _ _ st2 λb hb o e=>kp b o (by rw[<-hs3];exact Qat _ e);have I4:Inv (cxC X N' sc s3 (upd H2 s2.heap.objs.size (.dK [])) fp (X.pn++jb)) [] (Jq src U) (upd H2 s2.heap.objs.size (.dK [])) { s3 with heap:=ha,toks:=s3.toks+([]:List (Str×Value)).length }:=
  V3 S I3 f3 (λb hb=>Nat.lt_trans (hfl b hb) hsz) hns kp
 have loop:codeAny (model X.prog X.w) X.A (.compLoop (.DictComp kx vx [⟨tg,iter,ifs,0⟩] sc pos) 0 (.ref it) (.ref s2.heap.objs.size) (compEnvC sc (Ea X.env sc.names []) s3.heap.objs.size X.env))
   (compPost (model X.prog X.w) X.A X.xe use R (.ref s2.heap.objs.size) s3.heap.objs.size) { s3 with heap:=ha,toks:=s3.toks+([]:List (Str×Value)).length }:=by
  refine Zb (λn s'=>∃i σ' H',Inv (cxC X N' sc s3 (upd H2 s2.heap.objs.size (.dK [])) fp (X.pn++jb)) [] σ' H' s'/\tn i s'.heap/\(∀b∈fp,H' b=none)/\W i n σ' H') ?_ m0 ⟨0,_,_,I4,st3,λb hb=>(f3 b hb).1,w0⟩;rintro n s4 ⟨i,σ4,H4,J4,st4,fr4,w4⟩;have stat:∀{H':Hp},(∀b∈fp,H' b=none)->∀b∈fp,Gg (cxC X N' sc s3 (upd H2 s2.heap.objs.size (.dK [])) fp (X.pn++jb)) [] H' b:=λhn b hb=>
   ⟨hn b hb,(I4.ok.exf b hb).1,I4.ok.PL b hb,.inl hb,λx c e=>(I4.ok.exf b hb).2 x c e,λp hp=>(f3 b hb).2.2.2.2.2 p ((QbG.mp hp).elim id λz=>by cases z)⟩
  rcases turn i n σ4 H4 w4 with⟨stop,qn⟩|⟨go,N,hN,step⟩
  ·refine thn (T.done (cxC X N' sc s3 (upd H2 s2.heap.objs.size (.dK [])) fp (X.pn++jb)) rfl rfl rfl hc i [] s4 σ4 H4 _ J4 (stat fr4) st4 stop) λr s5 zz=>?_;obtain⟨hr,J5⟩:=zz;subst hr;exact fin s3 _ fp σ4 H4 s5 _ I3 f3 J5 qn
  ·refine thn (T.item (cxC X N' sc s3 (upd H2 s2.heap.objs.size (.dK [])) fp (X.pn++jb)) rfl rfl rfl hc i [] s4 σ4 H4 _ J4 (stat fr4) st4 go) λr s5 zz=>?_;obtain⟨u,hr,h5⟩:=zz;subst hr;refine thn h5 λ_ s6 zz=>?_;obtain⟨x,H6,J6,r6,y6,st6,fr6⟩:=zz;have J6':=J6.pinned (stat fr6) (T.obj _ _ st6);have back:∀{pl:YC} {σ7:St} {H7:Hp} {s7:Shared},Inv (cxC X N' sc s3 (upd H2 s2.heap.objs.size (.dK [])) fp (X.pn++jb)) ([]++K4 fp s6.heap) σ7 H7 s7->N σ7 H7 ->
     ∃m',m' < n/\∃i σ' H',Inv (cxC X N' sc s3 (upd H2 s2.heap.objs.size (.dK [])) fp (X.pn++jb)) [] σ' H' s7/\tn i s7.heap/\(∀b∈fp,H' b=none)/\W i m' σ' H':=λ{pl σ7 H7 s7} J7 w7=>by
    obtain⟨m',hm,w7⟩:=hN _ _ w7;have pinned:∀b∈fp,∀o,s6.heap.get? b=some o->s7.heap.get? b=some o/\H7 b=none:=λb hb o e=>by
     have:=J7.pin (b,o) (Qax _ (Qax _ (Ju hb e)));exact⟨this.1,this.2.1⟩
    refine⟨m',hm,i+1,σ7,H7,J7.Ib,T.keep _ _ _ st6 λb hb o e=>(pinned b hb o e).1,λb hb=>?_,w7⟩;obtain⟨o,e,_⟩:=T.obj _ _ st6 b hb;exact (pinned b hb o e).2
   refine thn (hg s3 _ fp _ _ s6 σ4 H6 x u _ J6' r6 (step x H6 y6)) λ_ s7 zz=>?_;obtain⟨σ7,H7,J7,q7⟩:=zz;refine thn (ht s3 _ fp _ _ s7 σ7 H7 _ J7 q7) λok s8 zz=>?_;obtain⟨H8,J8,q8⟩:=zz;cases ok with
   | false=>
    rw[if_neg QaS] at q8 ⊢;exact back (pl:=[]) J8 q8
   | true=>
    rw[if_pos rfl] at q8 ⊢;refine thn (hk s3 _ fp _ _ s8 σ7 H8 _ J8 q8) λy s9 zz=>?_;obtain⟨yv,H9,J9,r9,q9⟩:=zz;refine thn (hv s3 _ fp _ _ s9 σ7 H9 _ J9 q9) λz s10 zz=>?_;obtain⟨zv,H10,J10,r10,kvs,k,hl,ey,hz,q10⟩:=zz;subst ey;refine bG (X:=cxC X N' sc s3 (upd H2 s2.heap.objs.size (.dK [])) fp (X.pn++jb)) J10 hl hz r9 r10 λs11 J11=>?_;exact back (pl:=[]) J11 q10
 exact codeAny_compStart_dict loop (T.self X.A 0 _ _ _ st3 loop)
theorem dN {X:Cx} {N':YF} {src:List (Option Nat)} {sc:Scope} {kx vx tg iter:Expr} {ifs:YJ} {pos:Pos} {wi:TI} {g:TG} {tt:TT} {tk tv:TE} (hc:X.calm=true) (S:Bh X N' src sc)
  (hi:PI X tg iter wi) (hg:∀s3 H3 fp pn,PG (cxC X N' sc s3 H3 fp pn) tg g) (ht:∀s3 H3 fp pn,PF (cxC X N' sc s3 H3 fp pn) ifs tt) (hk:∀s3 H3 fp pn,PE (cxC X N' sc s3 H3 fp pn) kx tk) (hv:∀s3 H3 fp pn,PE (cxC X N' sc s3 H3 fp pn) vx tv)
  (hs:∀x,foldedSetIterable iter X.env x=pure x:=by intro _;rfl):PE X (.DictComp kx vx [⟨tg,iter,ifs,0⟩] sc pos) (Zx wi src g tt tk tv):=by
 intro jb s U H Q I h;rw[arm_eval_DictComp];refine Zc (use:=none) hc S hi hg ht hk hv hs I h λs3 H3 fp σ4 H4 s5 l I3 f3 J5 q=>?_;obtain⟨m,hn,_⟩:=J5.loc;exact⟨m,hn,λh' sb=>⟨.ref l,H4,V4 I3 f3 J5 sb,rq,q⟩⟩
end L2
namespace PySem
open Sem (wp)
section
variable {prog:Program} {w:World} {A:Around} {E:YA} {s:Shared}
theorem Kg {it l:Addr} {i:Nat} {items:Array Value} {x:Value} {Q:YA} (hit:s.heap.IsTupleIter it l i) (hl:s.heap.IsTuple l items) (hx:items[i]?=some x)
  (hQ:∀h',h'.IsTupleIter it l (i+1)->Heap.SameBut it s.heap h'->Q x { s with heap:=h' }):wpAny (model prog w) A (Builtin.SmallTypes.nextOf (.ref it)) Q E s:=by
 obtain⟨o,ho,hc,hd⟩:=id hit;obtain⟨ol,hol,_,nl,hdl⟩:=hl;unfold Builtin.SmallTypes.nextOf;refine Qcx (Qaq (name:=Str.ofString "__next__") hit.typeIs Qaa (QbA Qaa hit.typeIs PyProof.Rows.entry_tupleiter_next ?_ (PyProof.Rows.args_tupleiter_next _)));show wpAny _ _ (field (.ref it) 0 >>= _) _ _ s;refine Qcx (Qcu ho hd (x:=.ref l) rfl ?_);show wpAny _ _ (if (Value.ref l == Value.none)=true then _ else _) _ _ s
 rw[if_neg (show ¬((Value.ref l == Value.none)=true) from QaS)]
 show wpAny _ _ (field (.ref it) 1 >>= _) _ _ s;refine Qcx (Qcu ho hd (x:=.int i 0) rfl ?_);show wpAny _ _ (seqItems? (.ref l) >>= _) _ _ s;refine Qcx (Qca hol hdl ?_);simp only[Qbi,hx];refine Qcx (wpAny_setField ho hd (by simp) (Qcy ⟨x,rq,Qcy (hQ _ ?_ (QaK ..))⟩));exact⟨_,Qaz _ ho (Obj.isFreed_of_fields (Obj.data_mapFields hd _)),(Obj.cls_mapFields ..).trans hc,by rw[Obj.data_mapFields hd];simp[rawInt]⟩
theorem Ij {it l:Addr} {i:Nat} {items:Array Value} {Q:YA} (hh:A.handled=none) (hit:s.heap.IsTupleIter it l i) (hl:s.heap.IsTuple l items) (hx:items[i]?=none)
  (hE:∀h' e,Heap.ExtBut it s.heap h'->(∃o,h'.get? e=some o/\o.cls=.type "StopIteration")->E (.ref e) { s with heap:=h' }):wpAny (model prog w) A (Builtin.SmallTypes.nextOf (.ref it)) Q E s:=by
 obtain⟨o,ho,hc,hd⟩:=id hit;obtain⟨ol,hol,_,nl,hdl⟩:=hl;unfold Builtin.SmallTypes.nextOf;refine Qcx (Qaq (name:=Str.ofString "__next__") hit.typeIs Qaa (QbA Qaa hit.typeIs PyProof.Rows.entry_tupleiter_next ?_ (PyProof.Rows.args_tupleiter_next _)));show wpAny _ _ (field (.ref it) 0 >>= _) _ _ s;refine Qcx (Qcu ho hd (x:=.ref l) rfl ?_);show wpAny _ _ (if (Value.ref l == Value.none)=true then _ else _) _ _ s
 rw[if_neg (show ¬((Value.ref l == Value.none)=true) from QaS)]
 show wpAny _ _ (field (.ref it) 1 >>= _) _ _ s;refine Qcx (Qcu ho hd (x:=.int i 0) rfl ?_);show wpAny _ _ (seqItems? (.ref l) >>= _) _ _ s;refine Qcx (Qca hol hdl ?_);simp only[Qbi,hx];refine Qcx (QcA (Qcx (wpAny_setField ho hd (by simp) ?_)));show wpAny _ _ (newExc (.type "StopIteration") [] >>= _) _ _ _;refine Qcx ?_;simp only[newExc,newTuple];refine Qcx (Qbk ?_ (by size_fits));refine Qcx (m:=firstArgMember _ _) (wpAny_of_eq (a:=Value.none) (by first | rfl | (simp only[firstArgMember];rfl)) ?_)
 refine Qbk ?_ (by size_fits);simp only[raiseNew];refine Qcx (wpAny_handled ?_)
 first | rw[show A.in1.handled=none from hh] | rw[hh]
 refine Qcx (Qcy (wpAny_throw ?_));exact hE _ _ (((QaK ..).extBut.push _).push _) ⟨_,QaI _ rfl,rq⟩
theorem VR {e it l:Addr} {i:Nat} {j:Int} {items:Array Value} {old:Value} {Q:Option Value->Shared->Prop} (hh:A.handled=none) (he:IsEnum s.heap e it j old) (hit:s.heap.IsTupleIter it l i) (hl:s.heap.IsTuple l items) (hx:items[i]?=none)
  (hQ:∀h',Heap.ExtBut it s.heap h'->Q none { s with heap:=h' }):wpAny (model prog w) A (pyNext (.ref e)) Q E s:=by
 have hT:s.TypeIs (.ref e) "enumerate":=⟨_,he,rq⟩;unfold pyNext;refine Qcx (Qcj (Qaq (name:=Str.ofString "__next__") hT F.slot_enumerate_next (QbA F.slot_enumerate_next hT F.entry_enumerate_next ?_ (F.args_enumerate_next_1 _))));show wpAny _ _ (field (.ref e) 2 >>= _) _ _ _;refine Qcx (Qcu he rfl (x:=.ref it) rfl (Qcx (Ij hh hit hl hx λh' x he' hx'=>?_)));obtain⟨o,ho,hc⟩:=hx';exact Qcx (wpAny_isInstance (T:="StopIteration") (b:=true) ⟨o,ho,hc⟩ isSubtype_stop (Qcy (hQ _ he')))
end
theorem Draws.tup {prog:Program} {w:World} {A:Around} (hh:A.handled=none) (it l:Addr) (hne:l≠it) (items:Array Value) :
  Draws prog w A it [it,l] items.size (λi v=>items[i]?=some v) (λi h=>h.IsTupleIter it l i/\h.IsTuple l items) where
 live:=λ_ _ st=>let ⟨o,ho,_⟩:=st.1;⟨o,ho⟩
 frame:=λ_ _ _ st hk=>⟨st.1.at λo e=>hk it (by simp) o e,let ⟨o,e,r⟩:=st.2;⟨o,hk l (by simp) o e,r⟩⟩
 item:=λi s Q E hi st hQ=>Kg st.1 st.2 (x:=items[i]) (by simp[hi]) λh' hit' hs'=>hQ _ h' s.toks (by simp[hi]) ⟨hit',let ⟨o,e,r⟩:=st.2;⟨o,hs'.extBut _ _ hne e,r⟩⟩ hs'
 done:=λs Q E st hE=>Ij hh st.1 st.2 (by simp) hE
theorem Draws.from {prog:Program} {w:World} {A:Around} {it:Addr} {fp:List Addr} {n:Nat} {P:Nat->Value->Prop} {St:Nat->Heap->Prop} (D:Draws prog w A it fp n P St) (k:Nat) :
  Draws prog w A it fp (k+n) (λj v=>∃i,j=k+i/\P i v) (λj h=>∃i,j=k+i/\i<=n/\St i h) where
 live:=λ_ _ ⟨i,_,_,st⟩=>D.live i _ st
 frame:=λ_ _ _ ⟨i,e,hi,st⟩ hk=>⟨i,e,hi,D.frame i _ _ st hk⟩
 item:=λj s Q E hj ⟨i,e,hi,st⟩ hQ=>D.item i s Q E (by omega) st λx h' tk p st' sb=>hQ x h' tk ⟨i,e,p⟩ ⟨i+1,by omega,by omega,st'⟩ sb
 done:=λs Q E ⟨i,e,hi,st⟩ hE=>by
  have:i=n:=by omega
  subst this;exact D.done s Q E st hE
end PySem
namespace L2
open PySem PySem.Spec PyProof.Rows
section
variable {X:Cx} {jb:YC} {U : St} {H:Hp} {s:Shared} {h':Heap}
theorem Inv.Mz {t':Nat} {fp:List Addr} {t:Addr} {o:HO} (I:Inv X jb U H s) (ht:s.heap.objs.size<=t) (k:∀b u,b∉fp->s.heap.get? b=some u->h'.get? b=some u) (hf:∀b∈fp,Gg X jb H b) (new:BW X.prog X.w (upd H t o) h' t o) :
  Inv X jb U (upd H t o) { s with heap:=h',toks:=t' }:=by
 have nt:=I.hok.fresh ht;have old:∀b u,s.heap.get? b=some u->b≠t:=λb u e z=>absurd (QaU (Qck e) ht) (by rw[z];exact Qcg _);have nf:∀b u,H b=some u->b∉fp:=λb u e z=>by rw[(hf b z).1] at e;cases e
 have tr:∀b u,H b=some u->(upd H t o) b=some u:=λb u e=>by rw[Ar (Ao e nt)];exact e
 refine I.step (g':=s.gens) (d':=s.drawn) (ch:=fp) (λb hb=>?_) (λb u _ _ hc e _=>k b u hc e) (λb u _ _ hc e _=>⟨u.slots,k b u hc e⟩) (λb u hc e n=>by rw[Ar (old b u e)];exact n)
  (λb u hc e=>⟨u,k b u hc e⟩) (λ_ _ e=>tr _ _ e) (λ_ _ _ e=>tr _ _ e) (λb ps e=>⟨#[],by rw[tr _ _ e];simp⟩) (λm hm=>?_) (λb u e=>?_) I.bare
 ·obtain⟨_,f1,_,f3,f4,f5⟩:=hf b hb;exact⟨f3,f1,f4,f5⟩
 ·obtain⟨u,es,ep,hu,r⟩:=hm;exact⟨u,es,ep,k _ u (λz=>(hf _ z).2.1 rfl) hu,r⟩
 ·by_cases hb:b=t
  ·subst hb;rw[Ac] at e;cases e;exact new
  ·rw[Ar hb] at e;refine (I.hok b u e).stay (λc v hc q=>k c v ?_ q) (λc q=>tr _ _ q) λc xs q=>tr _ _ q;rcases hc with z | z
   ·rw[z];exact nf b u e
   ·exact nf c _ z
theorem Inv.QV {t':Nat} {fp:List Addr} (I:Inv X jb U H s) (k:∀b u,b∉fp->s.heap.get? b=some u->h'.get? b=some u) (hf:∀b∈fp,Gg X jb H b):Inv X jb U H { s with heap:=h',toks:=t' }:=by
 have nf:∀b u,H b=some u->b∉fp:=λb u e z=>by rw[(hf b z).1] at e;cases e
 refine I.step (g':=s.gens) (d':=s.drawn) (ch:=fp) (λb hb=>?_) (λb u _ _ hc e _=>k b u hc e) (λb u _ _ hc e _=>⟨u.slots,k b u hc e⟩) (λb u hc e n=>n)
  (λb u hc e=>⟨u,k b u hc e⟩) (λ_ _ e=>e) (λ_ _ _ e=>e) (λb ps e=>⟨#[],by rw[e];simp⟩) (λm hm=>?_) (λb u e=>?_) I.bare
 ·obtain⟨_,f1,_,f3,f4,f5⟩:=hf b hb;exact⟨f3,f1,f4,f5⟩
 ·obtain⟨u,es,ep,hu,r⟩:=hm;exact⟨u,es,ep,k _ u (λz=>(hf _ z).2.1 rfl) hu,r⟩
 ·refine (I.hok b u e).stay (λc v hc q=>k c v ?_ q) (λ_ q=>q) λ_ _ q=>q;rcases hc with z | z
  ·rw[z];exact nf b u e
  ·exact nf c _ z
end
def KQ (K:YD) (a:Addr) (lo:Nat):It:=
 ⟨λi H=>∃xs x,SqT K H a xs/\xs[i]?=some x,λi H v H'=>∃p x,H p=none/\v=.ref p/\H'=upd H p (.tup [.int ((lo+i:Nat):Int),x])/\∀xs,SqT K H a xs->xs[i]?=some x,λi H=>∃xs,SqT K H a xs/\xs.length<=i⟩
theorem X6 {P:Program} {w:World} {K:YD} {elts:YJ} {k:Nat} {pos:Pos} (a e it:Addr) (lo:Nat) (nei:e≠it):Turn P w K (.Tuple elts k pos) (KQ K a lo) [e,it] e (λi h=>(∃old,IsEnum h e it ((lo+i:Nat):Int) old)/\h.IsTupleIter it a i) where
 mem:=by simp
 obj:=λi h st b hb=>by
  obtain⟨⟨old,he⟩,o,ho,hc,hd⟩:=st;rcases Qcc.mp hb with rfl | hb
  ·exact⟨_,he,λv z=>by cases (show Data.fields _=Data.cell v from z)⟩
  ·have:b=it:=by simpa using hb
   subst this;exact⟨o,ho,λv z=>by rw[hd] at z;cases z⟩
 keep:=λi h h' st k=>by
  obtain⟨⟨old,he⟩,hi⟩:=st;exact⟨⟨old,k e (by simp) _ he⟩,hi.at λo q=>k it (by simp) o q⟩
 item:=by
  intro X hP hw hK hc i jb s U H E I hf st hg;subst hP hw hK;obtain⟨xs,x,hq,hx⟩:=hg;obtain⟨its,rv,p,hz⟩:=I.tuple hq;obtain⟨u,hu,ru⟩:=rv.get hx;obtain⟨⟨old,he⟩,hit⟩:=st;have hts:s.heap.IsTuple a its.toArray:=p;have ane:a≠e:=λz=>by
   obtain⟨o,ho,hcl,_⟩:=hts;rw[z,he] at ho;cases ho;injection hcl with q;exact absurd q (by decide)
  have ani:a≠it:=λz=>by
   obtain⟨o,ho,hcl,_⟩:=hts;obtain⟨o',ho',hcl',_⟩:=hit;rw[z,ho'] at ho;cases ho;rw[hcl'] at hcl;injection hcl with q;exact absurd q (by decide)
  have hlt:i < its.toArray.size:=by
   have:=(Qaf.mp hu).1;simpa using this
  have D:=(Draws.tup (prog:=X.prog) (w:=X.w) (A:=X.A.in1) (I.ok.hd hc) it a ani its.toArray).from lo;refine wpAny_pyNext_enum_itemD D he ⟨i,rq,Qcp hlt,hit,hts⟩ (by omega) nei (by simp[nei,ane.symm]) λy h1 tk hP ho hst hT hsz hk=>?_;obtain⟨i',ei,hy⟩:=hP;have:i'=i:=by omega
  subst this;have ey:y=u:=by
   have h2:its.toArray[i']?=some u:=by simpa using hu
   rw[h2] at hy;exact (QbK hy).symm
  subst ey;refine⟨_,rq,wpAny_letOwnedTupleGo_enum ho λh2 he2 hs2=>?_⟩;have hlt2:s.heap.objs.size≠e:=Qco (Qck he);have hT2:h2.get? s.heap.objs.size=some { cls:=.type "tuple",data:=.seq #[.int ((lo+i':Nat):Int) tk,y] }:=(hs2.2 _ hlt2).trans hT;have new:BW X.prog X.w (upd H s.heap.objs.size (.tup [.int ((lo+i':Nat):Int),x])) h2 s.heap.objs.size (.tup [.int ((lo+i':Nat):Int),x]):=
   ⟨by show 2<=sizeLine;decide,[.int ((lo+i':Nat):Int) tk,y],.cons ⟨tk,rq⟩ (.cons ru .nil),_,hT2,rq,0,rq⟩
  have I1:=I.Mz (h':=h2) (t':=tk+1) (Qcr _) (λb q hb z=>(hs2.2 b (λw=>hb (by simp[w]))).trans (hk b q (λw=>hb (by simp[w])) (λw=>hb (by simp[w])) z)) hf new;refine⟨.ref s.heap.objs.size,_,I1,rq,⟨s.heap.objs.size,x,I.hok.fresh (Qcr _),rq,rq,λys hy'=>by rw[I.RQ hy' hq];exact hx⟩,⟨⟨y,?_⟩,?_⟩,λb hb=>?_⟩
  ·have:=he2;rw[show ((lo+(i'+1):Nat):Int)=((lo+i':Nat):Int)+1 by omega];exact this
  ·obtain⟨i2,e2,_,st2,_⟩:=hst;have:i2=i'+1:=by omega
   subst this;exact st2.at λo q=>(hs2.2 it (Ne.symm nei)).trans q
  ·have hb':b < s.heap.objs.size:=by
    rcases Qcc.mp hb with rfl | hb
    ·exact Qck he
    ·have:b=it:=by simpa using hb
     subst this;obtain⟨o,ho',_⟩:=hit;exact Qck ho'
   rw[Ar (Qcl hb')];exact (hf b hb).1
 done:=by
  intro X hP hw hK hc i jb s U H E I hf st hg;subst hP hw hK;obtain⟨xs,hq,hx⟩:=hg;obtain⟨its,rv,p,hz⟩:=I.tuple hq;obtain⟨⟨old,he⟩,hit⟩:=st;have hl:=rv.length;exact VR (I.ok.hd hc) he hit (show s.heap.IsTuple a its.toArray from p) (by simp;omega) λh' eb=>⟨rq,I.QV (t':=s.toks) (λb o hb q=>eb b o (λz=>hb (by simp[z])) q) hf⟩
 self:=λ_ _ _ _ _ st h=>let ⟨⟨_,he⟩,_⟩:=st;wpAny_pyIter_enum he h
end L2
namespace PySem
open Sem (wp)
open AutoSeq1 (wpAny_loadPart')
theorem Rv (l:Addr) (items:Array Value) (n:Nat) (dct:Option Addr) (sl:YI) :
  Meets (Builtin.«enumerate.__new__» ⟨[.type "enumerate",.ref l],[]⟩) (λ_ R s=>s.heap.get? l=some { cls:=.type "tuple",dict:=dct,data:=.seq items n,slots:=sl } /\
   R (.ok (.ret (.ref (s.heap.push { cls:=.type "tuple_iterator",data:=.fields #[.ref l,.int 0 0] }).objs.size)))
    { s with heap:=(s.heap.push { cls:=.type "tuple_iterator",data:=.fields #[.ref l,.int 0 0] }).push { cls:=.type "enumerate",data:=.fields #[.none,.bool false,.ref s.heap.objs.size,rawInt 0,.none,.none] } }):=
 .of_wp λprog w A R s h=>by
  obtain⟨hp,g,d,tk,os⟩:=s;obtain⟨hl,h⟩:=h;have hsub:=sub_enumerate;have hL:Heap.IsTuple (Shared.heap ⟨hp,g,d,tk,os⟩) l items:=⟨_,hl,rq,n,rq⟩
  wp_walk using wpAny_loadPart' hl
  refine wpAny_stack_any λst=>Qcy ?_;split
  ·rename_i c _ _ _ _ _;cases (c == Value.type "enumerate")
   ·wp_walk using wpAny_loadPart' hl,QaW hL
    exact⟨_,rq,h⟩
   ·wp_walk using wpAny_loadPart' hl,QaW hL
    exact⟨_,rq,h⟩
  ·wp_walk using wpAny_loadPart' hl,QaW hL
   exact⟨_,rq,h⟩
theorem Qx (l:Addr) (items:Array Value) (n:Nat) (dct:Option Addr) (sl:YI) (t:Tok) :
  Meets (Builtin.«enumerate.__new__» ⟨[.type "enumerate",.ref l],[("start",.int 1 t)]⟩) (λ_ R s=>s.heap.get? l=some { cls:=.type "tuple",dict:=dct,data:=.seq items n,slots:=sl } /\
   R (.ok (.ret (.ref (s.heap.push { cls:=.type "tuple_iterator",data:=.fields #[.ref l,.int 0 0] }).objs.size)))
    { s with heap:=(s.heap.push { cls:=.type "tuple_iterator",data:=.fields #[.ref l,.int 0 0] }).push { cls:=.type "enumerate",data:=.fields #[.none,.bool false,.ref s.heap.objs.size,rawInt 1,.none,.none] } }):=
 .of_wp λprog w A R s h=>by
  obtain⟨hp,g,d,tk,os⟩:=s;obtain⟨hl,h⟩:=h;have hsub:=sub_enumerate;have hL:Heap.IsTuple (Shared.heap ⟨hp,g,d,tk,os⟩) l items:=⟨_,hl,rq,n,rq⟩
  wp_walk using wpAny_loadPart' hl
  refine wpAny_stack_any λst=>Qcy ?_;split
  ·rename_i c _ _ _ _ _;cases (c == Value.type "enumerate")
   ·wp_walk using wpAny_loadPart' hl,QaW hL
    exact⟨_,rq,h⟩
   ·wp_walk using wpAny_loadPart' hl,QaW hL
    exact⟨_,rq,h⟩
  ·wp_walk using wpAny_loadPart' hl,QaW hL
   exact⟨_,rq,h⟩
end PySem
namespace PySem
open Sem (wp)
section
variable {prog:Program} {w:World} {A:Around} {E:YA} {s:Shared}
theorem Rm {T newId:String} {self:Value} {rest:YE} {kw:List (Str×Value)} (hl:typeLookup (.type T) "__init__"=pure (some (.builtin "object.__init__")))
  (hm:Bind.madeBy (.type T)=pure (some newId)) (hne:(some newId != some "object.__new__")=true) :
  Meets (Builtin.«object.__init__» ⟨self::rest,kw⟩) (λ_ R s=>s.TypeIs self T/\R (.ok (.ret .none)) s):=by
 refine Meets.of_wp λprog w A R s hs=>?_;obtain⟨hT,hq⟩:=hs;cases rest with
 | nil=>
  cases kw with
  | nil=>exact Qcy ⟨_,rfl,hq⟩
  | cons k kw=>
   repeat (any_goals (first | assumption | wp_step))
   exact⟨_,rq,hq⟩
 | cons a rest=>
  repeat (any_goals (first | assumption | wp_step))
  exact⟨_,rq,hq⟩
theorem bN {T newId:String} {Bn:Builtin} {args:YE} {kw:List (Str×Value)} {S:Spec} {Q:YA} (ft:TypeCalled T newId "object.__init__") (hne:(some newId != some "object.__new__")=true)
  (hct:checkTypeCall T ⟨args,kw⟩=pure ()) (hcn:checkBuiltinCall newId ⟨.type T::args,kw⟩=pure ()) (hok:∀obj,argsOk "object.__init__" ⟨obj::args,kw⟩)
  (entryN:entryFor table newId=some Bn) (g:Meets (Bn ⟨.type T::args,kw⟩) S) (h:S A.in1 (wants (λobj s₁=>s₁.TypeIs obj T/\Q obj s₁) E) s) :
  wpAny (model prog w) A (call (.type T) args kw) Q E s:=by
 obtain⟨c,tl,hmro⟩:=ft.mro;have hmade:=ft.made;have hsub:=ft.sub;refine wpAny_call (codeAny_of_tree ?_);show wpAny _ _ (callAny (.type T) _) _ _ _;refine Qcy ⟨Code.quiet_builtin _ (by trivial),QbR F.entry_type_call ?_⟩;rw[Around.under_plain (weight_type_call_type T args kw) (units_type_call_type T args kw)];have h1:=ft.notType;have h2:=ft.canCreate
 repeat (any_goals (first | assumption | wp_step))
 refine Qcq (codeAny_call_builtin ft.plain entryN (wpAny_of_eq hcn (g prog w A.in1 _ s h))) λr s₁ hr=>?_;cases r with
 | error e=>exact hr
 | ok fl=>
  cases fl with
  | ret obj=>
   obtain⟨hT,hq⟩:=hr;have hli:=ft.init.lookup;have hbi:=ft.init.bind obj
   repeat (any_goals (first | assumption | wp_step))
   refine Qcq (codeAny_call_builtin ft.init.plain F.entry_object_init (ft.init.check _ _ _ _ _ _ _ _ hT (hok obj) (Rm ft.init.lookup ft.made hne prog w A.in1 (wants (λr s₂=>r=.none/\Q obj s₂) E) s₁ ⟨hT,rq,hq⟩))) λr₂ s₂ hr₂=>?_;cases r₂ with
   | error e=>exact hr₂
   | ok fl₂=>
    cases fl₂ with
    | ret r=>
     obtain⟨rfl,hq2⟩:=hr₂
     repeat (any_goals (first | assumption | wp_step))
    | _=>exact hr₂.elim
  | _=>exact hr.elim
end
end PySem
namespace PyProof.Rows
open PySem
section
variable {M:Model} {A:Around} {E:YA} {s:Shared} {env:Env}
theorem QJ {pos:Pos} {T:String} {e:Expr} {rest:YJ} {kws:List Keyword} {Q:YA}
  (h:wpAny M A (spliced (backTo pos (starEach (e::rest) env))) (λvs s₁=>wpAny M A (evalAll ((backToKw pos (keywordEach kws env)).map (·.2))) (λkvs s₂=>wpAny M A (call (.type T) vs (((backToKw pos (keywordEach kws env)).filterMap (·.1)).zip kvs)) Q E s₂) E s₁) E s)
  (he:backTo pos (starEach (e::rest) env)=(false,eval e env)::backTo pos (starEach rest env):=by rfl) (hplain:(backTo pos (starEach (e::rest) env)).any (·.1)=false:=by rfl)
  (hall:(backToKw pos (keywordEach kws env)).all (·.1.isSome)=true:=by rfl) (hkw:(backToKw pos (keywordEach kws env)).any (·.1.isNone)=false:=by rfl) :
  wpAny M A (callWith pos (.type T) [] (backTo pos (starEach (e::rest) env)) (backToKw pos (keywordEach kws env))) Q E s:=by
 have h2:wpAny M A (evalArgs (.type T) true (backTo pos (starEach (e::rest) env)) (backToKw pos (keywordEach kws env))) (λa s₁=>wpAny M A (call (.type T) ([]++a.pos) a.kw) Q E s₁) E s:=by
  rw[he] at h ⊢;exact evalArgs_kwB hall h
 unfold callWith;refine Qcx (Qcf (Qcz h2 (λa s₁ h₁=>Qcx (Qch ?_)) λ_ _ x=>x));simp only[hplain,hkw,Bool.or_false];exact Qcx (Qcy (Qcx (Qcz h₁ (λr s₂ hr=>Qcx (Qcf (wpAny_point (Qcy hr)))) λ_ _ x=>x)))
end
end PyProof.Rows
namespace L2
open PySem PySem.Spec PyProof.Rows
section
variable {X:Cx}
theorem Xv {jb:YC} {U : St} {H:Hp} {s:Shared} {R:It->Hp->Prop} {E:YA} {elts:YJ} {k:Nat} {pos:Pos} {a:Addr} {lo:Nat} {tk:Nat} (I:Inv X jb U H s) (q:R (KQ X.K a lo) H) :
  wpAny (model X.prog X.w) X.A (pyIter (.ref (s.heap.objs.size+1))) (PIE X jb U (.Tuple elts k pos) R) E
   { s with heap:=(s.heap.push { cls:=.type "tuple_iterator",data:=.fields #[.ref a,.int 0 0] }).push { cls:=.type "enumerate",data:=.fields #[.none,.bool false,.ref s.heap.objs.size,rawInt (lo:Int),.none,.none] },toks:=tk }:=by
 have hz:(s.heap.push { cls:=.type "tuple_iterator",data:=.fields #[.ref a,.int 0 0] }).objs.size=s.heap.objs.size+1:=QbY ..;have he:IsEnum ((s.heap.push { cls:=.type "tuple_iterator",data:=.fields #[.ref a,.int 0 0] }).push { cls:=.type "enumerate",data:=.fields #[.none,.bool false,.ref s.heap.objs.size,rawInt (lo:Int),.none,.none] }) (s.heap.objs.size+1) s.heap.objs.size (lo:Int) .none:=by
  have:=QaI (s.heap.push { cls:=.type "tuple_iterator",data:=.fields #[.ref a,.int 0 0] }) (o:={ cls:=.type "enumerate",data:=.fields #[.none,.bool false,.ref s.heap.objs.size,rawInt (lo:Int),.none,.none] }) rfl;rw[hz] at this;exact this
 refine wpAny_pyIter_enum he ⟨s.heap.objs.size+1,[s.heap.objs.size+1,s.heap.objs.size],_,_,H,rq,I.kept (t':=tk) λb o e=>Qat _ (Qat _ e),X6 a (s.heap.objs.size+1) s.heap.objs.size lo (Nat.succ_ne_self _),⟨⟨.none,he⟩,⟨_,Qat _ (QaI _ rfl),rq,rq⟩⟩,λb hb=>?_,q⟩;have hb':s.heap.objs.size<=b:=by
  simp only[Qcc,Qbt,QcC] at hb;rcases hb with rfl | rfl
  ·exact Qcw _
  ·exact Qcr _
 exact I.Py hb' (I.hok.fresh hb')
end
section
variable {X:Cx}
def gQ (K:YD) (lo:Nat) (tl:TE):TI:=fun U H R=>tl U H λx H1=>∃a,x=.ref a/\(∃xs,SqT K H1 a xs)/\R (KQ K a lo) H1
theorem Zg {jb:YC} {U : St} {H:Hp} {s:Shared} {R:It->Hp->Prop} {elts:YJ} {k:Nat} {pos:Pos} {a:Addr} {xs:YG} (I:Inv X jb U H s) (hq:SqT X.K H a xs) (q:R (KQ X.K a 0) H) :
  wpAny (model X.prog X.w) X.A (call (.type "enumerate") [.ref a]) (λv s1=>wpAny (model X.prog X.w) X.A (pyIter v) (PIE X jb U (.Tuple elts k pos) R) X.xe s1) X.xe s:=by
 obtain⟨its,rv,p,hz⟩:=I.tuple hq;obtain⟨⟨c,dct,dt,sl⟩,hl,hc,n,hd⟩:=id p;replace hc:c=.type "tuple":=hc;replace hd:dt=.seq its.toArray n:=hd;subst hc hd;refine callType_new F.called_enumerate (by decide) (F.typeCall_enumerate_1 _) (F.newCall_enumerate_1 _) (λobj=>F.args_object_init_2 obj _) F.entry_enumerate_new (Rv a its.toArray n dct sl) ⟨hl,?_⟩;have hz:(s.heap.push { cls:=.type "tuple_iterator",data:=.fields #[.ref a,.int 0 0] }).objs.size=s.heap.objs.size+1:=QbY ..;show _/\_;refine⟨⟨_,QaI _ rfl,rq⟩,?_⟩;rw[hz];exact Xv (lo:=0) (tk:=s.toks) I q
end
section
variable {X:Cx}
theorem dI {x:Expr} {tx:TE} {p pos tp:Pos} {elts:YJ} {k:Nat} (hg:Gl X "enumerate") (hm:X.mg "enumerate"=none) (hl:PE X x tx) (hs:starEach [x] X.env=[(false,eval x X.env)]:=by rfl):PI X (.Tuple elts k tp) (.Call (.Name "enumerate" p) [x] [] pos) (gQ X.K 0 tx):=by
 intro jb s U H R I h;refine Call_ (GK I hg hm boot_enumerate (Qac (thn ((Aa hl Ab (by rw[hs];rfl)) pos jb s U H (λvs H1=>match vs with | [v]=>∃a,v=.ref a/\(∃xs,SqT X.K H1 a xs)/\R (KQ X.K a 0) H1 | _=>False) I h) λus s1 ⟨vs,H1,I1,r1,q1⟩=>?_) hs rfl))
 cases r1 with
 | nil=>exact False.elim q1
 | cons r rr=>
  cases rr with
  | nil=>
   obtain⟨a,e,⟨xs,hq⟩,q⟩:=q1;subst e;cases r;exact Zg I1 hq q
  | cons _ _=>exact False.elim q1
theorem Zf {jb:YC} {U : St} {H:Hp} {s:Shared} {R:It->Hp->Prop} {elts:YJ} {k:Nat} {pos:Pos} {a:Addr} {xs:YG} {t:Tok} (I:Inv X jb U H s) (hq:SqT X.K H a xs) (q:R (KQ X.K a 1) H) :
  wpAny (model X.prog X.w) X.A (call (.type "enumerate") [.ref a] [("start",.int 1 t)]) (λv s1=>wpAny (model X.prog X.w) X.A (pyIter v) (PIE X jb U (.Tuple elts k pos) R) X.xe s1) X.xe s:=by
 obtain⟨its,rv,p,hz⟩:=I.tuple hq;obtain⟨⟨c,dct,dt,sl⟩,hl,hc,n,hd⟩:=id p;replace hc:c=.type "tuple":=hc;replace hd:dt=.seq its.toArray n:=hd;subst hc hd;refine bN F.called_enumerate (by decide) (by kernel_rfl) (by kernel_rfl) (λobj=>?ok) F.entry_enumerate_new (Qx a its.toArray n dct sl t) ⟨hl,?_⟩
 case ok=>
  unfold argsOk;rw[signature?_of (id:="object.__init__") (n:=['_','_','t','i','n','i','_','_']) (o:=['t','c','e','j','b','o']) (by kernel_rfl) F.owner_object]
  kernel_rfl
 have hz:(s.heap.push { cls:=.type "tuple_iterator",data:=.fields #[.ref a,.int 0 0] }).objs.size=s.heap.objs.size+1:=QbY ..;show _/\_;refine⟨⟨_,QaI _ rfl,rq⟩,?_⟩;rw[hz];exact Xv (lo:=1) (tk:=s.toks) I q
theorem U9 {x one:Expr} {tx:TE} {p pos tp kp:Pos} {elts:YJ} {k:Nat} (hg:Gl X "enumerate") (hm:X.mg "enumerate"=none) (hl:PE X x tx) (h1:PE X one (tC (.int 1))) (hs:starEach [x] X.env=[(false,eval x X.env)]:=by rfl)
  (hall:(backToKw pos (keywordEach [⟨some "start",one,kp⟩] X.env)).all (·.1.isSome)=true:=by rfl) (hkw:(backToKw pos (keywordEach [⟨some "start",one,kp⟩] X.env)).any (·.1.isNone)=false:=by rfl)
  (hks:(backToKw pos (keywordEach [⟨some "start",one,kp⟩] X.env)).filterMap (·.1)=(["start"]:YF):=by rfl) :
  PI X (.Tuple elts k tp) (.Call (.Name "enumerate" p) [x] [⟨some "start",one,kp⟩] pos) (gQ X.K 1 tx):=by
 intro jb s U H R I h;refine QaZ (GK I hg hm boot_enumerate (PyProof.Rows.QJ (thn ((Aa hl Ab (by rw[hs];rfl)) pos jb s U H (λvs H1=>match vs with | [v]=>∃a,v=.ref a/\(∃xs,SqT X.K H1 a xs)/\R (KQ X.K a 1) H1 | _=>False) I h) λus s1 ⟨vs,H1,I1,r1,q1⟩=>?_) (by rw[hs];rfl) (by rw[hs];rfl) hall hkw))
 refine thn ((iJ h1 j7) pos jb s1 U H1 (λks H2=>H2=H1/\ks=[.int 1]) I1 ⟨rq,rq⟩) λws s2 zz=>?_;obtain⟨zs,H2,I2,rz,e2,ez⟩:=zz;subst e2 ez;cases rz with
 | cons rz1 rz2=>
  cases rz2;obtain⟨t,rfl⟩:=rz1;rw[hks];cases r1 with
  | nil=>exact False.elim q1
  | cons r rr=>
   cases rr with
   | nil=>
    obtain⟨a,e,⟨xs,hq⟩,q⟩:=q1;subst e;cases r;exact Zf I2 hq q
   | cons _ _=>exact False.elim q1
theorem Pz {K:YD} {a:Addr} {lo:Nat} {xs:YG} {g:TG} {tb:TS} {D:Ends} {U : St} {H:Hp} (Pv:YN) (h0:Pv 0 U H) (hl:∀i U H',i<=xs.length->Pv i U H'->SqT K H' a xs)
  (hs:∀i x p U H',xs[i]?=some x->Pv i U H'->H' p=none->g (.ref p) U (upd H' p (.tup [.int ((lo+i:Nat):Int),x])) fun σ2 H2=>tb { D with nx:=Pv (i+1),ct:=Pv (i+1),bk:=D.nx } σ2 H2) (hd:∀ U H',Pv xs.length U H'->D.nx U H') :
  ∃W:Nat->YN,(∃m,W 0 m U H)/\∀i m U H,W i m U H ->
   ((KQ K a lo).stop i H/\D.nx U H)\/((KQ K a lo).go i H/\∃N:YO,(∀ σ' H',N σ' H'->∃m',m' < m/\W (i+1) m' σ' H')/\∀x H',(KQ K a lo).yld i H x H'->g x U H' fun σ2 H2=>tb { D with nx:=N,ct:=N,bk:=D.nx } σ2 H2):=by
 refine⟨λi m U H=>m=xs.length - i/\i<=xs.length/\Pv i U H,⟨xs.length,by simp,Qcs _,h0⟩,?_⟩;rintro i m U H ⟨rfl,hi,p⟩;have q:=hl i U H hi p;by_cases hlt:i < xs.length
 ·refine .inr ⟨⟨xs,xs[i],q,by simp[hlt]⟩,Pv (i+1),fun σ3 H3 p'=>⟨xs.length - (i+1),by omega,rq,hlt,p'⟩,λv H2 y=>?_⟩;obtain⟨pa,x,hn,rfl,rfl,hx⟩:=y;exact hs i x pa U _ (hx xs q) p hn
 ·have e:i=xs.length:=by omega
  subst e;exact .inl ⟨⟨xs,q,Qcr _⟩,hd U H p⟩
end
section
variable {X:Cx}
end
end L2
namespace PySem.ZZ
open PySem
section
variable {prog:Program} {w:World} {A:Around} {E:YA} {s:Shared}
theorem PB {M:Model} {α β : Type} {Q:β->Shared->Prop} {body:α->β->Sem (ForInStep β)} (J:List α->β->Shared->Prop) (hnil:∀b s,J [] b s->Q b s)
  (hstep:∀x r b s,J (x::r) b s->wpAny M A (body x b) (λst s'=>match st with | .yield b'=>J r b' s' | .done b'=>Q b' s') E s):∀(l:List α) (b:β) (s:Shared),J l b s->wpAny M A (forIn l b body) Q E s
 | [],b,s,h=>by
  rw[List.forIn_nil];exact Qcy (hnil b s h)
 | x::r,b,s,h=>by
  rw[List.forIn_cons];refine Qcx (Qcz (hstep x r b s h) (λst s' q=>?_) λ_ _ e=>e);cases st with
  | yield b'=>exact PB J hnil hstep r b' s' q
  | done b'=>exact Qcy q
structure Src where
 it:Addr
 a:Addr
 items:Array Value
def SrcAt (h:Heap) (x:Src) (i:Nat):Prop:=(h.IsListIter x.it x.a i/\h.IsList x.a x.items)\/(h.IsTupleIter x.it x.a i/\h.IsTuple x.a x.items)
theorem SrcAt.keep {h h':Heap} {x:Src} {i:Nat} (q:SrcAt h x i) (k1:∀o,h.get? x.it=some o->h'.get? x.it=some o) (k2:∀o,h.get? x.a=some o->h'.get? x.a=some o):SrcAt h' x i:=by
 rcases q with⟨q1,q2⟩|⟨q1,o,e,r⟩
 ·exact .inl ⟨q1.at k1,q2.at k2⟩
 ·exact .inr ⟨q1.at k1,o,k2 o e,r⟩
theorem SrcAt.ne {h:Heap} {x:Src} {i:Nat} (q:SrcAt h x i):x.a≠x.it:=λz=>by
 rcases q with⟨⟨o,e,c,_⟩,⟨o',e',c',_⟩⟩|⟨⟨o,e,c,_⟩,⟨o',e',c',_⟩⟩
 ·rw[z,e] at e';cases e';rw[c] at c';injection c' with y;exact absurd y (by decide)
 ·rw[z,e] at e';cases e';rw[c] at c';injection c' with y;exact absurd y (by decide)
theorem Um {x:Src} {i:Nat} {v:Value} {Q:YA} (q:SrcAt s.heap x i) (hx:x.items[i]?=some v) (hQ:∀h',SrcAt h' x (i+1)->Heap.SameBut x.it s.heap h'->Q v { s with heap:=h' }) :
  wpAny (model prog w) A (Builtin.SmallTypes.nextOf (.ref x.it)) Q E s:=by
 have ne:=q.ne;rcases q with⟨q1,q2⟩|⟨q1,q2⟩
 ·exact wpAny_nextOf_list_item q1 q2 hx λh' i1 sb=>hQ h' (.inl ⟨i1,q2.at λo e=>sb.extBut _ _ ne e⟩) sb
 ·exact Kg q1 q2 hx λh' i1 sb=>hQ h' (.inr ⟨i1,let ⟨o,e,r⟩:=q2;⟨o,sb.extBut _ _ ne e,r⟩⟩) sb
theorem iy {x:Src} {i:Nat} {Q:YA} (hh:A.handled=none) (q:SrcAt s.heap x i) (hx:x.items[i]?=none)
  (hE:∀h' e,Heap.ExtBut x.it s.heap h'->(∃o,h'.get? e=some o/\o.cls=.type "StopIteration")->E (.ref e) { s with heap:=h' }):wpAny (model prog w) A (Builtin.SmallTypes.nextOf (.ref x.it)) Q E s:=by
 rcases q with⟨q1,q2⟩|⟨q1,q2⟩
 ·exact wpAny_nextOf_list_end hh q1 q2 hx hE
 ·exact Ij hh q1 q2 hx hE
abbrev IsZ (h:Heap) (z TI TO:Addr) (f0 f1:Value):Prop:=h.get? z=some { cls:=.type "zip",dict:=none,data:=.fields #[f0,f1,.bool false,.ref TI,.ref TO],slots:=#[] }
abbrev Ci (h:Heap) (T:Addr) (xs:YE):Prop:=h.get? T=some { cls:=.type "tuple",data:=.seq xs.toArray }
structure Apart (z TI TO:Addr) (ls:List Src):Prop where
 TIz:TI≠z
 TOz:TO≠z
 TITO:TI≠TO
 it:∀x∈ls,x.it≠z/\x.it≠TI/\x.it≠TO
 a:∀x∈ls,x.a≠z/\x.a≠TO
 ai:∀x∈ls,∀y∈ls,x.a≠y.it
 nd:(ls.map (·.it)).Nodup
def Rest (z TO:Addr) (ls:List Src) (h h':Heap):Prop:=∀c o,c≠z->c≠TO->c∉ls.map (·.it)->h.get? c=some o->h'.get? c=some o
theorem iz {xs olds:YE} {k:Nat} {v:Value} (hk:k < olds.length) (hx:xs.length=olds.length) (e:xs[k]?=some v):(xs.take k++olds.drop k).toArray.setIfInBounds k v=(xs.take (k+1)++olds.drop (k+1)).toArray:=by
 rw[List.setIfInBounds_toArray];congr 1;have hl:(xs.take k).length=k:=by rw[Qbv];omega
 rw[List.set_append_right _ _ (by omega),hl,Nat.sub_self,Qaj hk,QaO,List.take_add_one,e];simp
structure Mid (z TI TO:Addr) (ls:List Src) (xs olds:YE) (i:Nat) (f0 f1:Value) (h:Heap) (k:Nat) (h':Heap):Prop where
 hz:IsZ h' z TI TO f0 f1
 hTI:Ci h' TI (ls.map λx=>.ref x.it)
 done:∀j x,ls[j]?=some x->SrcAt h' x (if j < k then i+1 else i)
 rest:Rest z TO ls h h'
 size:h'.objs.size=h.objs.size
theorem Mid.draw {z TI TO:Addr} {ls:List Src} {xs olds:YE} {i:Nat} {f0 f1:Value} {h h1 h2:Heap} {k:Nat} {x:Src} (D:Apart z TI TO ls) (m:Mid z TI TO ls xs olds i f0 f1 h k h1) (hx:ls[k]?=some x) (q:SrcAt h2 x (i+1)) (sb:Heap.SameBut x.it h1 h2) :
  Mid z TI TO ls xs olds i f0 f1 h (k+1) h2:=by
 have hm:=QaC hx;have hi:=D.it x hm;refine⟨sb.extBut _ _ hi.1.symm m.hz,sb.extBut _ _ hi.2.1.symm m.hTI,λj y hy=>?_,λc o c1 c2 c3 e=>sb.extBut _ _ (λz=>c3 (z ▸ Qcm.mpr ⟨x,hm,rq⟩)) (m.rest c o c1 c2 c3 e),by rw[sb.1,m.size]⟩;by_cases hj:j=k
 ·subst hj;rw[hx] at hy;cases hy;rw[if_pos (QbB _)];exact q
 ·have h1:=m.done j y hy;have hne:y.it≠x.it:=λz=>hj (by
   have e1:(ls.map (·.it))[j]?=some y.it:=by rw[Qbf,hy];rfl
   have e2:(ls.map (·.it))[k]?=some x.it:=by rw[Qbf,hx];rfl
   rw[z] at e1;have l1:=(Qaf.mp e1);have l2:=(Qaf.mp e2);exact (List.getElem_inj D.nd).mp (l1.2.trans l2.2.symm))
  have hc:(if j < k+1 then i+1 else i)=(if j < k then i+1 else i):=by
   by_cases c:j < k
   ·rw[if_pos c,if_pos (by omega)]
   ·rw[if_neg c,if_neg (by omega)]
  rw[hc];exact h1.keep (λo e=>sb.extBut _ _ hne e) (λo e=>sb.extBut _ _ (D.ai y (QaC hy) x hm) e)
theorem Mid.other {z TI TO:Addr} {ls:List Src} {xs olds:YE} {i:Nat} {f0 f1:Value} {h h1 h2:Heap} {k:Nat} (D:Apart z TI TO ls) (m:Mid z TI TO ls xs olds i f0 f1 h k h1) (sb:Heap.SameBut TO h1 h2):Mid z TI TO ls xs olds i f0 f1 h k h2:=by
 refine⟨sb.extBut _ _ D.TOz.symm m.hz,sb.extBut _ _ D.TITO m.hTI,λj y hy=>?_,λc o c1 c2 c3 e=>sb.extBut _ _ c2 (m.rest c o c1 c2 c3 e),by rw[sb.1,m.size]⟩;have hm:=QaC hy;exact (m.done j y hy).keep (λo e=>sb.extBut _ _ (D.it y hm).2.2 e) (λo e=>sb.extBut _ _ (D.a y hm).2 e)
theorem Mi {z TI TO:Addr} {ls:List Src} {xs olds:YE} {i:Nat} {f1:Value} {Q:YA} (D:Apart z TI TO ls) (hz:IsZ s.heap z TI TO .none f1) (hTI:Ci s.heap TI (ls.map λx=>.ref x.it)) (hTO:Ci s.heap TO olds)
  (hat:∀x∈ls,SrcAt s.heap x i) (hne:ls≠[]) (hl1:xs.length=ls.length) (hl2:olds.length=ls.length) (hx:∀(j:Nat) (x:Src),ls[j]?=some x->∃v,xs[j]?=some v/\x.items[i]?=some v) (hsz:ls.length<=100)
  (hQ:∀h',IsZ h' z TI TO (rawInt s.heap.objs.size) (.bool false)->Ci h' TI (ls.map λx=>.ref x.it)->Ci h' TO xs->(∀x∈ls,SrcAt h' x (i+1))->Ci h' s.heap.objs.size xs->h'.objs.size=s.heap.objs.size+1->Rest z TO ls s.heap h'->Q (.ref s.heap.objs.size) { s with heap:=h' }) :
  wpAny (model prog w) A (Builtin.«zip.__next__» ⟨[.ref z],[]⟩) (λfin s'=>∃v,fin=.done (.ret v)/\Q v s') E s:=by
 show wpAny _ _ (field (.ref z) 2 >>= _) _ _ _;refine Qcx (Qcu hz rfl (x:=.bool false) rfl ?_);show wpAny _ _ (field (.ref z) 3 >>= _) _ _ _;refine Qcx (Qcu hz rfl (x:=.ref TI) rfl ?_);refine Qcx (Qca hTI rfl ?_);dsimp only;rw[if_neg (by cases ls with | nil=>exact absurd rfl hne | cons a r=>simp)];show wpAny _ _ (Builtin.SmallTypes.ownedTupleIsFree (.ref z) >>= _) _ _ _;refine Qcx ?_;unfold Builtin.SmallTypes.ownedTupleIsFree;refine Qcx (Qcu hz rfl (x:=.none) rfl (Qcy ?_));simp only[if_true];refine Qcx (QcA ?_);refine Qcx (Qcu hz rfl (x:=.ref TO) rfl ?_);refine Qcx (Qba hz (by simp) λh₁ hz₁ hs₁=>?_);replace hz₁ : IsZ h₁ z TI TO .ellipsis f1:=hz₁;refine Qcx ?_;have m0:Mid z TI TO ls xs olds i .ellipsis f1 s.heap 0 h₁:=by
  refine⟨hz₁,hs₁.extBut _ _ D.TIz hTI,λj x hj=>?_,λc o c1 _ _ e=>hs₁.extBut _ _ c1 e,hs₁.1⟩;have hm:=QaC hj;rw[if_neg (QbO _)];exact (hat x hm).keep (λo e=>hs₁.extBut _ _ (D.it x hm).1 e) (λo e=>hs₁.extBut _ _ (D.a x hm).1 e)
 have VH : Ci h₁ TO (xs.take 0++olds.drop 0):=hs₁.extBut _ _ D.TOz hTO;refine PB (λl b s'=>∃k h',k<=ls.length/\l=((ls.map λx=>Value.ref x.it).drop k).zipIdx k/\b=⟨none,⟨⟩⟩/\s'={ s with heap:=h' }/\Mid z TI TO ls xs olds i .ellipsis f1 s.heap k h'/\Ci h' TO (xs.take k++olds.drop k)) (λb s' h=>?_) (λx r b s' h=>?_) _ _ _ ⟨0,h₁,Qcs _,rq,rq,rq,m0,VH⟩
 ·obtain⟨k,h',hk,e1,rfl,rfl,m,hT⟩:=h;have hkl:k=ls.length:=by
   have:=congrArg List.length e1;rw[List.length_nil,List.length_zipIdx,Qby,QbF] at this;omega
  subst hkl;rw[<-hl1,Qbw,hl1,<-hl2,List.drop_length,QbI] at hT;dsimp only;refine Qcx (Qca hT rfl ?_);refine Qcx (wpAny_newTuple ?_ (by show xs.length<=sizeLine;rw[Qcv];omega));have hkl:∀j x,ls[j]?=some x->SrcAt h' x (i+1):=λj x hj=>by
   have:=m.done j x hj;rw[if_pos (Qaf.mp hj).1] at this;exact this
  have hzlt:z < h'.objs.size:=Qck m.hz;have hTOlt:TO < h'.objs.size:=Qck hT;show wpAny _ _ (Builtin.SmallTypes.ownedTupleHandOut (.ref z) (.ref h'.objs.size) >>= _) _ _ _;refine Qcx ?_;unfold Builtin.SmallTypes.ownedTupleHandOut;have hz₆ : IsZ (h'.push { cls:=.type "tuple",data:=.seq xs.toArray }) z TI TO .ellipsis f1:=Qat _ m.hz;refine Qcx (Qba hz₆ (by simp) λh₇ hz₇ hs₇=>?_);replace hz₇ : IsZ h₇ z TI TO (rawInt h'.objs.size) f1:=hz₇;refine Qba hz₇ (by simp) λh₈ hz₈ hs₈=>?_;replace hz₈ : IsZ h₈ z TI TO (rawInt h'.objs.size) (.bool false):=hz₈;have up:∀c o,c≠z->h'.get? c=some o->h₈.get? c=some o:=λc o c1 e=>hs₈.extBut _ _ c1 (hs₇.extBut _ _ c1 (Qat _ e));have hT₈ : Ci h₈ h'.objs.size xs:=hs₈.extBut _ _ (Qco hzlt) (hs₇.extBut _ _ (Qco hzlt) (QaI _ rfl));have hz8:h₈.objs.size=h'.objs.size+1:=by rw[hs₈.1,hs₇.1,QbY]
  have hsz':=m.size;rw[hsz'] at hz₈ hT₈ hz8;refine Qcy ⟨_,rq,?_⟩;show Q (.ref h'.objs.size) _;rw[hsz'];refine hQ h₈ hz₈ (up _ _ D.TIz m.hTI) (up _ _ D.TOz hT) (λx hm=>?_) hT₈ hz8 λc o c1 c2 c3 e=>up c o c1 (m.rest c o c1 c2 c3 e);obtain⟨j,hj⟩:=QaF hm;exact (hkl j x hj).keep (λo e=>up _ o (D.it x hm).1 e) (λo e=>up _ o (D.a x hm).1 e)
 ·obtain⟨k,h',hk,e1,rfl,rfl,m,hT⟩:=h;have hkl:k < ls.length:=by
   have:=congrArg List.length e1;rw[Qbu,List.length_zipIdx,Qby,QbF] at this;omega
  obtain⟨y,hy⟩ : ∃y,ls[k]?=some y:=⟨_,Qam hkl⟩;have hm:=QaC hy;rw[Qaj (by rw[QbF];exact hkl),List.zipIdx_cons,List.getElem_map] at e1;have ey:ls[k]=y:=(Qaf.mp hy).2;rw[ey] at e1;injection e1 with e1 e2;subst e1 e2;obtain⟨v,hv1,hv2⟩:=hx k y hy;refine Qcx (wpAny_onRaise ?_);show wpAny _ _ (Builtin.SmallTypes.nextOf (.ref y.it) >>= _) _ _ _;have q0:=m.done k y hy;rw[if_neg (Qcg _)] at q0;refine Qcx (Um q0 hv2 λh2 q2 sb2=>Qcy ?_);have m2:=m.draw D hy q2 sb2;have hT2:Ci h2 TO (xs.take k++olds.drop k):=sb2.extBut _ _ (D.it y hm).2.2.symm hT;have hln:(xs.take k++olds.drop k).length<=100:=by rw[QaN,Qbv,Qby];omega
  have hsm:=iz (xs:=xs) (olds:=olds) (k:=k) (v:=v) (by omega) (by omega) hv1;refine Qcx (Qca hT2 rfl ?_);refine Qcx (wpAny_updateSeq hT2 rfl ?_ (by rw[Qbc,Qcv];omega) (by rw[hsm,Qbc,Qcv,QaN,Qbv,Qby];omega));have sb3:Heap.SameBut TO h2 (h2.update TO (Obj.mapSeq λx=>x.setIfInBounds k v)):=QaK ..;have hT3:Ci (h2.update TO (Obj.mapSeq λx=>x.setIfInBounds k v)) TO (xs.take (k+1)++olds.drop (k+1)):=by
   show (h2.update TO _).get? TO=_;rw[Qaz _ hT2 rfl,<-hsm];simp[Obj.mapSeq]
  refine Qcx (wpAny_letGo (Qcy ?_));exact⟨k+1,_,hkl,rq,rq,rq,m2.other D sb3,hT3⟩
theorem Ms {z TI TO:Addr} {ls:List Src} {olds:YE} {i:Nat} {f1:Value} {Q:Fin->Shared->Prop} (hh:A.handled=none) (D:Apart z TI TO ls) (hz:IsZ s.heap z TI TO .none f1) (hTI:Ci s.heap TI (ls.map λx=>.ref x.it)) (hTO:Ci s.heap TO olds)
  (hat:∀x∈ls,SrcAt s.heap x i) (hne:ls≠[]) (hl2:olds.length=ls.length) (hsz:ls.length<=100) (hend:∃x∈ls,x.items[i]?=none)
  (hE:∀h' e,Rest z TO ls s.heap h'->(∃o,h'.get? e=some o/\o.cls=.type "StopIteration")->E (.ref e) { s with heap:=h' }) :
  wpAny (model prog w) A (Builtin.«zip.__next__» ⟨[.ref z],[]⟩) Q E s:=by
 show wpAny _ _ (field (.ref z) 2 >>= _) _ _ _;refine Qcx (Qcu hz rfl (x:=.bool false) rfl ?_);show wpAny _ _ (field (.ref z) 3 >>= _) _ _ _;refine Qcx (Qcu hz rfl (x:=.ref TI) rfl ?_);refine Qcx (Qca hTI rfl ?_);dsimp only;rw[if_neg (by cases ls with | nil=>exact absurd rfl hne | cons a r=>simp)];show wpAny _ _ (Builtin.SmallTypes.ownedTupleIsFree (.ref z) >>= _) _ _ _;refine Qcx ?_;unfold Builtin.SmallTypes.ownedTupleIsFree;refine Qcx (Qcu hz rfl (x:=.none) rfl (Qcy ?_));simp only[if_true];refine Qcx (QcA ?_);refine Qcx (Qcu hz rfl (x:=.ref TO) rfl ?_);refine Qcx (Qba hz (by simp) λh₁ hz₁ hs₁=>?_);replace hz₁ : IsZ h₁ z TI TO .ellipsis f1:=hz₁;refine Qcx ?_;have m0:Mid z TI TO ls [] olds i .ellipsis f1 s.heap 0 h₁:=by
  refine⟨hz₁,hs₁.extBut _ _ D.TIz hTI,λj x hj=>?_,λc o c1 _ _ e=>hs₁.extBut _ _ c1 e,hs₁.1⟩;have hm:=QaC hj;rw[if_neg (QbO _)];exact (hat x hm).keep (λo e=>hs₁.extBut _ _ (D.it x hm).1 e) (λo e=>hs₁.extBut _ _ (D.a x hm).1 e)
 have VH : Ci h₁ TO olds:=hs₁.extBut _ _ D.TOz hTO;refine PB (λl b s'=>∃k h' ys,k<=ls.length/\l=((ls.map λx=>Value.ref x.it).drop k).zipIdx k/\b=⟨none,⟨⟩⟩/\s'={ s with heap:=h' }/\Mid z TI TO ls [] olds i .ellipsis f1 s.heap k h'/\Ci h' TO ys/\ys.length=ls.length/\∃x∈ls.drop k,x.items[i]?=none) (λb s' h=>?_) (λx r b s' h=>?_) _ _ _ ⟨0,h₁,olds,Qcs _,rq,rq,rq,m0,VH,hl2,hend⟩
 ·obtain⟨k,h',ys,hk,e1,rfl,rfl,m,hT,hy,x,hx,_⟩:=h;have:k=ls.length:=by
   have:=congrArg List.length e1;rw[List.length_nil,List.length_zipIdx,Qby,QbF] at this;omega
  subst this;rw[List.drop_length] at hx;cases hx
 ·obtain⟨k,h',ys,hk,e1,rfl,rfl,m,hT,hys,xe,hxe,hxn⟩:=h;have hkl:k < ls.length:=by
   have:=congrArg List.length e1;rw[Qbu,List.length_zipIdx,Qby,QbF] at this;omega
  obtain⟨y,hy⟩ : ∃y,ls[k]?=some y:=⟨_,Qam hkl⟩;have hm:=QaC hy;rw[Qaj (by rw[QbF];exact hkl),List.zipIdx_cons,List.getElem_map] at e1;have ey:ls[k]=y:=(Qaf.mp hy).2;rw[ey] at e1;injection e1 with e1 e2;subst e1 e2;refine Qcx (wpAny_onRaise ?_);show wpAny _ _ (Builtin.SmallTypes.nextOf (.ref y.it) >>= _) _ _ _;have q0:=m.done k y hy;rw[if_neg (Qcg _)] at q0;cases hv:y.items[i]? with
  | none=>
   refine Qcx (iy hh q0 hv λh₂ e hs₂ he=>?_);obtain⟨oe,hoe,hce⟩:=he;have hz₂ : IsZ h₂ z TI TO .ellipsis f1:=hs₂ _ _ (D.it y hm).1.symm m.hz;have hez:e≠z:=λx=>by subst x;rw[hz₂] at hoe;cases hoe;simp at hce
   refine Qba hz₂ (by simp) λh₃ _ hs₃=>hE h₃ e (λc o c1 c2 c3 x=>hs₃.extBut _ _ c1 (hs₂ _ _ (λq=>c3 (q ▸ Qcm.mpr ⟨y,hm,rq⟩)) (m.rest c o c1 c2 c3 x))) ⟨oe,hs₃.extBut _ _ hez hoe,hce⟩
  | some v=>
   refine Qcx (Um q0 hv λh2 q2 sb2=>Qcy ?_);have m2:=m.draw D hy q2 sb2;have hT2:Ci h2 TO ys:=sb2.extBut _ _ (D.it y hm).2.2.symm hT;refine Qcx (Qca hT2 rfl ?_);refine Qcx (wpAny_updateSeq hT2 rfl ?_ (by rw[Qbc,Qcv];omega) (by rw[Array.size_setIfInBounds,Qbc,Qcv];omega));have sb3:Heap.SameBut TO h2 (h2.update TO (Obj.mapSeq λx=>x.setIfInBounds k v)):=QaK ..;have hT3:Ci (h2.update TO (Obj.mapSeq λx=>x.setIfInBounds k v)) TO (ys.set k v):=by
    show (h2.update TO _).get? TO=_;rw[Qaz _ hT2 rfl,<-List.setIfInBounds_toArray];simp[Obj.mapSeq]
   refine Qcx (wpAny_letGo (Qcy ?_));refine⟨k+1,_,ys.set k v,hkl,rq,rq,rq,m2.other D sb3,hT3,by rw[List.length_set];exact hys,xe,?_,hxn⟩;rw[Qaj hkl,ey] at hxe;rcases Qcc.mp hxe with z | z
   ·subst z;rw[hv] at hxn;cases hxn
   ·exact z
theorem Qp {z TI TO:Addr} {f0 f1:Value} {Q:Option Value->Shared->Prop} (hz:IsZ s.heap z TI TO f0 f1) {Qi:YA} (h:wpAny (model prog w) A.in1 (Builtin.«zip.__next__» ⟨[.ref z],[]⟩) (λfin s'=>∃v,fin=.done (.ret v)/\Qi v s') (λ_ _=>False) s) (hQ:∀v s',Qi v s'->Q (some v) s') :
  wpAny (model prog w) A (pyNext (.ref z)) Q E s:=by
 have hT:s.TypeIs (.ref z) "zip":=⟨_,hz,rq⟩;unfold pyNext;refine Qcx (Qcj (Qaq (name:=Str.ofString "__next__") hT F.slot_zip_next (QbA F.slot_zip_next hT F.entry_zip_next (Qcz h (λfin s' q=>?_) λ_ _ f=>f.elim) (F.args_zip_next_1 _))));obtain⟨v,e,q⟩:=q;exact⟨v,e,Qcy (hQ v s' q)⟩
theorem K3 {z TI TO:Addr} {f0 f1:Value} {Q:Option Value->Shared->Prop} {R:Heap->Prop} (hz:IsZ s.heap z TI TO f0 f1)
  (h:wpAny (model prog w) A.in1 (Builtin.«zip.__next__» ⟨[.ref z],[]⟩) (λ_ _=>False) (λv s'=>∃h' e,v=.ref e/\s'={ s with heap:=h' }/\R h'/\∃o,h'.get? e=some o/\o.cls=.type "StopIteration") s) (hQ:∀h',R h'->Q none { s with heap:=h' }) :
  wpAny (model prog w) A (pyNext (.ref z)) Q E s:=by
 have hT:s.TypeIs (.ref z) "zip":=⟨_,hz,rq⟩;unfold pyNext;refine Qcx (Qcj (Qaq (name:=Str.ofString "__next__") hT F.slot_zip_next (QbA F.slot_zip_next hT F.entry_zip_next (Qcz h (λ_ _ f=>f.elim) λv s' q=>?_) (F.args_zip_next_1 _))));obtain⟨h',e,rfl,rfl,r,o,ho,hc⟩:=q;exact Qcx (wpAny_isInstance (T:="StopIteration") (b:=true) ⟨o,ho,hc⟩ isSubtype_stop (Qcy (hQ _ r)))
theorem Jt {z TI TO:Addr} {f0 f1:Value} {Q:YA} (hz:IsZ s.heap z TI TO f0 f1) (h:Q (.ref z) s):wpAny (model prog w) A (pyIter (.ref z)) Q E s:=by
 have hT:s.TypeIs (.ref z) "zip":=⟨_,hz,rq⟩;refine wpAny_pyIter_slot hT F.slot_zip_iter (QbA F.slot_zip_iter hT F.entry_zip_iter ?_ (F.args_zip_iter_1 _));show wpAny _ _ (ret (.ref z)) _ _ s;exact Qcy ⟨_,rq,"zip",_,hT,F.slot_zip_next.lookup,h⟩
theorem Ss {elts:YJ} {x1} {pos:Pos} {z TI TO T:Addr} {f1:Value} {Q:YH} (hz:IsZ s.heap z TI TO (rawInt T) f1)
  (hQ:∀h',IsZ h' z TI TO .none f1->Heap.SameBut z s.heap h'->Q () { s with heap:=h' }):wpAny (model prog w) A (letOwnedTupleGo (.Tuple elts x1 pos) (.ref z) (.ref T)) Q E s:=by
 unfold letOwnedTupleGo;refine Qcx (wpAny_load hz ?_);show wpAny _ _ (if (["enumerate","zip","dict_itemiterator","dict_reverseitemiterator","odict_iterator","itertools.zip_longest","itertools.pairwise"].contains "zip" &&
   (#[rawInt T,f1,.bool false,.ref TI,.ref TO]:Array Value)[0]? == some (rawInt T))=true then _ else _) Q E s
 rw[if_pos (by simp)];refine Qcx (QcA ?_);show wpAny _ _ (setField (.ref z) 0 .none) Q E s;exact Qba hz (by simp) λh' hz' hs'=>hQ h' hz' hs'
end
end PySem.ZZ
namespace PySem
namespace F
end F
end PySem
namespace PySem.ZZ
open PySem
def Nx (h:Heap) (a:Addr) (xs:Array Value) (c:String):Prop:=(c="list_iterator"/\h.IsList a xs)\/(c="tuple_iterator"/\h.IsTuple a xs)
theorem Nx.src {h h':Heap} {a it:Addr} {xs:Array Value} {c:String} (q:Nx h a xs c) (k:∀o,h.get? a=some o->h'.get? a=some o) (e:h'.get? it=some { cls:=.type c,data:=.fields #[.ref a,.int 0 0] }):SrcAt h' ⟨it,a,xs⟩ 0:=by
 rcases q with⟨rfl,q⟩|⟨rfl,o,ho,r⟩
 ·exact .inl ⟨⟨_,e,rq,rq⟩,q.at k⟩
 ·exact .inr ⟨⟨_,e,rq,rq⟩,o,k o ho,r⟩
theorem Nx.lt {h:Heap} {a:Addr} {xs:Array Value} {c:String} (q:Nx h a xs c):a < h.objs.size:=by
 rcases q with⟨rfl,o,e,_⟩|⟨rfl,o,e,_⟩
 ·exact Qck e
 ·exact Qck e
abbrev itO (c:String) (l:Addr):Obj:={ cls:=.type c,data:=.fields #[.ref l,.int 0 0] }
abbrev tuO (xs:Array Value):Obj:={ cls:=.type "tuple",data:=.seq xs }
abbrev z2a (h:Heap) (c1 c2:String) (l1 l2:Addr):Heap:=((((h.push (itO c1 l1)).push (itO c2 l2)).push (tuO #[.ref h.objs.size,.ref (h.push (itO c1 l1)).objs.size])).push (tuO #[.none,.none]))
abbrev z2 (h:Heap) (c1 c2:String) (l1 l2:Addr):Heap:=(z2a h c1 c2 l1 l2).push
 { cls:=.type "zip",data:=.fields #[.none,.bool false,.bool false,.ref ((h.push (itO c1 l1)).push (itO c2 l2)).objs.size,.ref (((h.push (itO c1 l1)).push (itO c2 l2)).push (tuO #[.ref h.objs.size,.ref (h.push (itO c1 l1)).objs.size])).objs.size] }
theorem YQ (l1 l2:Addr) (xs ys:Array Value) (c1 c2:String):Meets (Builtin.«zip.__new__» ⟨[.type "zip",.ref l1,.ref l2],[]⟩) (λ_ R s=>Nx s.heap l1 xs c1/\Nx s.heap l2 ys c2/\R (.ok (.ret (.ref (z2a s.heap c1 c2 l1 l2).objs.size))) { s with heap:=z2 s.heap c1 c2 l1 l2 }):=
 .of_wp λprog w A R s h=>by
  obtain⟨hp,g,d,tk,os⟩:=s;obtain⟨hl1,hl2,h⟩:=h;have hsub:=sub_zip;rcases hl1 with⟨rfl,hl1⟩|⟨rfl,hl1⟩
  ·have hL1:Heap.IsList (Shared.heap ⟨hp,g,d,tk,os⟩) l1 xs:=hl1;rcases hl2 with⟨rfl,hl2⟩|⟨rfl,hl2⟩
   ·have hL2:Heap.IsList (Shared.heap ⟨hp.push (itO "list_iterator" l1),g,d,tk,os⟩) l2 ys:=Heap.IsList.push hl2 _
    wp_walk using Qbm hL1,Qbm hL2
    exact⟨_,rq,h⟩
   ·have hL2:Heap.IsTuple (Shared.heap ⟨hp.push (itO "list_iterator" l1),g,d,tk,os⟩) l2 ys:=Heap.IsTuple.push hl2 _
    wp_walk using Qbm hL1,QaW hL2
    exact⟨_,rq,h⟩
  ·have hL1:Heap.IsTuple (Shared.heap ⟨hp,g,d,tk,os⟩) l1 xs:=hl1;rcases hl2 with⟨rfl,hl2⟩|⟨rfl,hl2⟩
   ·have hL2:Heap.IsList (Shared.heap ⟨hp.push (itO "tuple_iterator" l1),g,d,tk,os⟩) l2 ys:=Heap.IsList.push hl2 _
    wp_walk using QaW hL1,Qbm hL2
    exact⟨_,rq,h⟩
   ·have hL2:Heap.IsTuple (Shared.heap ⟨hp.push (itO "tuple_iterator" l1),g,d,tk,os⟩) l2 ys:=Heap.IsTuple.push hl2 _
    wp_walk using QaW hL1,QaW hL2
    exact⟨_,rq,h⟩
abbrev z3a (h:Heap) (c1 c2 c3:String) (l1 l2 l3:Addr):Heap:=(((((h.push (itO c1 l1)).push (itO c2 l2)).push (itO c3 l3)).push (tuO #[.ref h.objs.size,.ref (h.push (itO c1 l1)).objs.size,.ref ((h.push (itO c1 l1)).push (itO c2 l2)).objs.size])).push (tuO #[.none,.none,.none]))
abbrev z3 (h:Heap) (c1 c2 c3:String) (l1 l2 l3:Addr):Heap:=(z3a h c1 c2 c3 l1 l2 l3).push
 { cls:=.type "zip",data:=.fields #[.none,.bool false,.bool false,.ref (((h.push (itO c1 l1)).push (itO c2 l2)).push (itO c3 l3)).objs.size,.ref ((((h.push (itO c1 l1)).push (itO c2 l2)).push (itO c3 l3)).push (tuO #[.ref h.objs.size,.ref (h.push (itO c1 l1)).objs.size,.ref ((h.push (itO c1 l1)).push (itO c2 l2)).objs.size])).objs.size] }
structure oX (h:Heap) (z TI TO:Addr) (ls:List Src) (h':Heap):Prop where
 hz:IsZ h' z TI TO .none (.bool false)
 hTI:Ci h' TI (ls.map λx=>.ref x.it)
 hTO:Ci h' TO (ls.map λ_=>.none)
 at_:∀x∈ls,SrcAt h' x 0
 ap:Apart z TI TO ls
 new:h.objs.size<=z/\h.objs.size<=TI/\h.objs.size<=TO/\∀x∈ls,h.objs.size<=x.it
 keep:∀c o,h.get? c=some o->h'.get? c=some o
theorem na {a b:Nat} (h:a≠b):@Ne Addr a b:=h
theorem apart2 {n l1 l2:Nat} {xs ys:Array Value} (a1:l1 < n) (a2:l2 < n):Apart (n+1+1+1+1:Nat) (n+1+1:Nat) (n+1+1+1:Nat) [⟨n,l1,xs⟩,⟨(n+1:Nat),l2,ys⟩]:=by
 refine⟨na (by omega),na (by omega),na (by omega),λx hx=>?_,λx hx=>?_,λx hx y hy=>?_,?_⟩
 ·rcases Qcc.mp hx with rfl | hx
  ·exact⟨na (by dsimp only;omega),na (by dsimp only;omega),na (by dsimp only;omega)⟩
  ·cases QaR.mp hx;exact⟨na (by dsimp only;omega),na (by dsimp only;omega),na (by dsimp only;omega)⟩
 ·rcases Qcc.mp hx with rfl | hx
  ·exact⟨na (by dsimp only;omega),na (by dsimp only;omega)⟩
  ·cases QaR.mp hx;exact⟨na (by dsimp only;omega),na (by dsimp only;omega)⟩
 ·rcases Qcc.mp hx with rfl | hx
  ·rcases Qcc.mp hy with rfl | hy
   ·exact na (by dsimp only;omega)
   ·cases QaR.mp hy;exact na (by dsimp only;omega)
  ·cases QaR.mp hx;rcases Qcc.mp hy with rfl | hy
   ·exact na (by dsimp only;omega)
   ·cases QaR.mp hy;exact na (by dsimp only;omega)
 ·show List.Nodup ([n,n+1]:List Nat);simp
section
variable {prog:Program} {w:World} {A:Around} {E:YA} {s:Shared}
theorem S6 {l1 l2:Addr} {xs ys:Array Value} {c1 c2:String} {Q:YA} (hl1:Nx s.heap l1 xs c1) (hl2:Nx s.heap l2 ys c2)
  (h:∀h' z TI TO i1 i2,oX s.heap z TI TO [⟨i1,l1,xs⟩,⟨i2,l2,ys⟩] h'->Q (.ref z) { s with heap:=h' }):wpAny (model prog w) A (call (.type "zip") [.ref l1,.ref l2]) Q E s:=by
 refine callType_new F.called_zip (by decide) (F.typeCall_zip_2 _ _) (F.newCall_zip_2 _ _) (λobj=>F.args_object_init_3 obj _ _) F.entry_zip_new (YQ l1 l2 xs ys c1 c2) ⟨hl1,hl2,?_⟩;have g5:(z2 s.heap c1 c2 l1 l2).get? (z2a s.heap c1 c2 l1 l2).objs.size=some _:=QaI _ rfl;have g4:(z2 s.heap c1 c2 l1 l2).get? (((s.heap.push (itO c1 l1)).push (itO c2 l2)).push (tuO #[.ref s.heap.objs.size,.ref (s.heap.push (itO c1 l1)).objs.size])).objs.size=some (tuO #[.none,.none]):=Qat _ (QaI _ rfl);have g3:(z2 s.heap c1 c2 l1 l2).get? ((s.heap.push (itO c1 l1)).push (itO c2 l2)).objs.size=some (tuO #[.ref s.heap.objs.size,.ref (s.heap.push (itO c1 l1)).objs.size]):=Qat _ (Qat _ (QaI _ rfl));have g2:(z2 s.heap c1 c2 l1 l2).get? (s.heap.push (itO c1 l1)).objs.size=some (itO c2 l2):=Qat _ (Qat _ (Qat _ (QaI _ rfl)));have g1:(z2 s.heap c1 c2 l1 l2).get? s.heap.objs.size=some (itO c1 l1):=Qat _ (Qat _ (Qat _ (Qat _ (QaI _ rfl))));have kp:∀c o,s.heap.get? c=some o->(z2 s.heap c1 c2 l1 l2).get? c=some o:=λc o x=>Qat _ (Qat _ (Qat _ (Qat _ (Qat _ x))));have a1:=hl1.lt;have a2:=hl2.lt;refine⟨⟨_,g5,rq⟩,h _ _ _ _ s.heap.objs.size (s.heap.push (itO c1 l1)).objs.size ⟨g5,g3,g4,?_,?_,?_,kp⟩⟩
 ·intro x hx;rcases Qcc.mp hx with rfl | hx
  ·exact hl1.src (λo e=>kp _ _ e) g1
  ·rcases Qcc.mp hx with rfl | hx
   ·exact hl2.src (λo e=>kp _ _ e) g2
   ·cases hx
 ·simp only[QbY];exact apart2 a1 a2
 ·simp only[QbY,Qcc,Qbt,QcC,forall_eq_or_imp,forall_eq];omega
end
end PySem.ZZ
namespace PySem
namespace F
end F
end PySem
namespace PySem.ZZ
open PySem
section
variable {prog:Program} {w:World} {A:Around} {E:YA} {s:Shared}
structure Run (hb:Heap) (z TI TO:Addr) (ls:List Src) (rows:Nat->YE) (S:Addr) (ts:List Addr) (h:Heap):Prop where
 inc:ts.Pairwise (· < ·)
 lo:∀t∈ts,S < t/\t < h.objs.size
 at_:∀j t,ts[j]?=some t->Ci h t (rows j)
 keep:∀c o,hb.get? c=some o->h.get? c=some o
 hTI:Ci h TI (ls.map λx=>.ref x.it)
 hTO:∃olds,Ci h TO olds/\olds.length=ls.length
 src:∀x∈ls,SrcAt h x ts.length
 hz:(ts=[]/\IsZ h z TI TO .none (.bool false))\/∃(T:Addr) (f1:Value),ts[0]?=some T/\IsZ h z TI TO (rawInt T) f1
structure Below (hb:Heap) (z TI TO:Addr) (ls:List Src) (S:Addr):Prop where
 ap:Apart z TI TO ls
 old:hb.objs.size<=z/\hb.objs.size<=TI/\hb.objs.size<=TO/\∀x∈ls,hb.objs.size<=x.it
 lz:z < S
 lTI:TI < S
 lTO:TO < S
 it:∀x∈ls,x.it < S/\x.a < S
 base:hb.objs.size<=S
theorem Run.frame {hb:Heap} {z TI TO:Addr} {ls:List Src} {rows:Nat->YE} {S:Addr} {ts:List Addr} {h h':Heap} (B:Below hb z TI TO ls S) (r:Run hb z TI TO ls rows S ts h) (hs:h'.objs.size=h.objs.size) (k:∀c o,c≠S->h.get? c=some o->h'.get? c=some o):Run hb z TI TO ls rows S ts h':=by
 obtain⟨olds,o1,o2⟩:=r.hTO;refine⟨r.inc,λt ht=>by rw[hs];exact r.lo t ht,λj t e=>k _ _ (Qco (r.lo t (QaC e)).1) (r.at_ j t e),λc o e=>k _ _ (Qcl (QaU (Qck e) B.base)) (r.keep c o e),k _ _ (Qcl B.lTI) r.hTI,⟨olds,k _ _ (Qcl B.lTO) o1,o2⟩,λx hx=>?_,?_⟩
 ·exact (r.src x hx).keep (λo e=>k _ _ (Qcl (B.it x hx).1) e) (λo e=>k _ _ (Qcl (B.it x hx).2) e)
 ·rcases r.hz with⟨e,q⟩|⟨T,f1,e,q⟩
  ·exact .inl ⟨e,k _ _ (Qcl B.lz) q⟩
  ·exact .inr ⟨T,f1,e,k _ _ (Qcl B.lz) q⟩
theorem Run.more {hb:Heap} {z TI TO:Addr} {ls:List Src} {rows:Nat->YE} {S:Addr} {ts:List Addr} {h h':Heap} (B:Below hb z TI TO ls S) (r:Run hb z TI TO ls rows S ts h) (hS:S < h.objs.size) (hs:h'.objs.size=h.objs.size+1) (hr:Rest z TO ls h h')
  (hTI:Ci h' TI (ls.map λx=>.ref x.it)) (hTO:∃olds,Ci h' TO olds/\olds.length=ls.length) (src:∀x∈ls,SrcAt h' x (ts.length+1)) (new:Ci h' h.objs.size (rows ts.length)) (hz:∃(T:Addr) (f1:Value),(ts++[h.objs.size])[0]?=some T/\IsZ h' z TI TO (rawInt T) f1):Run hb z TI TO ls rows S (ts++[h.objs.size]) h':=by
 have fr:∀t,S < t->t≠z/\t≠TO/\t∉ls.map (·.it):=λt ht=>⟨λe=>by rw[e] at ht;exact Nat.lt_asymm ht B.lz,λe=>by rw[e] at ht;exact Nat.lt_asymm ht B.lTO,λe=>by
  obtain⟨x,hx,e'⟩:=Qcm.mp e;rw[<-e'] at ht;exact Nat.lt_asymm ht (B.it x hx).1⟩
 refine⟨?_,λt ht=>?_,λj t e=>?_,λc o e=>?_,hTI,hTO,λx hx=>by rw[QaN];exact src x hx,.inr hz⟩
 ·exact List.pairwise_append.mpr ⟨r.inc,List.pairwise_singleton _ _,λa ha b hb'=>by
   have:b=h.objs.size:=by simpa using hb'
   rw[this];exact (r.lo a ha).2⟩
 ·rw[hs];rcases QbG.mp ht with ht | ht
  ·have:=r.lo t ht;exact⟨this.1,Qbl this.2⟩
  ·have:t=h.objs.size:=by simpa using ht
   rw[this];exact⟨hS,QbB _⟩
 ·by_cases c:j < ts.length
  ·rw[Qah c] at e;have hlo:=r.lo t (QaC e);obtain⟨f1,f2,f3⟩:=fr t hlo.1;exact hr t _ f1 f2 f3 (r.at_ j t e)
  ·rw[Qae (Nat.le_of_not_lt c)] at e;have hj:j - ts.length=0:=by
    have:=(Qaf.mp e).1;rw[QaA] at this;omega
   rw[hj] at e;cases e;have:j=ts.length:=by omega
   rw[this];exact new
 ·have hlt:=Qck e;refine hr c o (λq=>?_) (λq=>?_) (λq=>?_) (r.keep c o e)
  ·rw[q] at hlt;exact absurd hlt (Nat.not_lt.mpr B.old.1)
  ·rw[q] at hlt;exact absurd hlt (Nat.not_lt.mpr B.old.2.2.1)
  ·obtain⟨x,hx,e'⟩:=Qcm.mp q;rw[<-e'] at hlt;exact absurd hlt (Nat.not_lt.mpr (B.old.2.2.2 x hx))
end
end PySem.ZZ
namespace PySem.ZZ
open PySem
section
variable {prog:Program} {w:World} {A:Around} {E:YA} {s:Shared}
structure Rows (ls:List Src) (n:Nat) (rows:Nat->YE):Prop where
 row:∀j,j < n->(rows j).length=ls.length/\∀(k:Nat) (x:Src),ls[k]?=some x->∃v,(rows j)[k]?=some v/\x.items[j]?=some v
 stop:∃x∈ls,x.items[n]?=none
 ne:ls≠[]
 few:ls.length<=100
 most:n<=1000
end
end PySem.ZZ
namespace L2
open PySem PySem.Spec PyProof.Rows
section
variable {X:Cx} {jb:YC} {U : St} {H:Hp} {s:Shared} {h':Heap}
theorem Inv.grown {H':Hp} {t':Nat} (I:Inv X jb U H s) (k:∀b u,s.heap.get? b=some u->h'.get? b=some u) (old:∀b,b < s.heap.objs.size->H' b=H b)
  (new:∀b o,s.heap.objs.size<=b->H' b=some o->BW X.prog X.w H' h' b o):Inv X jb U H' { s with heap:=h',toks:=t' }:=by
 have tr:∀b u,H b=some u->H' b=some u:=λb u e=>by rw[old b (I.hok.lt e)];exact e
 refine I.step (g':=s.gens) (d':=s.drawn) (ch:=[]) (λb hb=>by cases hb) (λb u _ _ _ e _=>k b u e) (λb u _ _ _ e _=>⟨u.slots,k b u e⟩) (λb u _ e n=>by rw[old b (Qck e)];exact n)
  (λb u _ e=>⟨u,k b u e⟩) (λ_ _ e=>tr _ _ e) (λ_ _ _ e=>tr _ _ e) (λb ps e=>⟨#[],by rw[tr _ _ e];simp⟩) (λm hm=>?_) (λb u e=>?_) I.bare
 ·obtain⟨u,es,ep,hu,r⟩:=hm;exact⟨u,es,ep,k _ u hu,r⟩
 ·by_cases hb:b < s.heap.objs.size
  ·rw[old b hb] at e;exact (I.hok b u e).stay (λc v _ q=>k c v q) (λc q=>tr _ _ q) λc xs q=>tr _ _ q
  ·exact new b u (Nat.le_of_not_lt hb) e
end
section
variable {X:Cx}
end
theorem Cq {h:Heap} {p q:Addr} {o o':Obj} (e:h.get? p=some o) (e':h.get? q=some o') (n:o.cls≠o'.cls):p≠q:=λz=>by
 rw[z,e'] at e;cases e;exact n rfl
theorem DK {h:Heap} {a:Addr} {xs ys:Array Value} (h1:h.IsList a xs) (h2:h.IsTuple a ys):False:=by
 obtain⟨o,e,c,_⟩:=h1;obtain⟨o',e',c',_⟩:=h2;rw[e'] at e;cases e;rw[c'] at c;injection c with q;exact absurd q (by decide)
section
variable {X:Cx}
end
mutual
inductive Mh (K:YD) (H:Hp):V->PyData->Prop
 | non:Mh K H .non .none
 | bl (b:Bool):Mh K H (.bl b) (.bool b)
 | int (i:Int):Mh K H (.int i) (.int i)
 | str (x:Str):Mh K H (.str x) (.str x)
 | tup {a:Addr} {xs:YG} {ds:List PyData}:SqT K H a xs->Ko K H xs ds->Mh K H (.ref a) (.tuple ds)
inductive Ko (K:YD) (H:Hp):YG->List PyData->Prop
 | nil:Ko K H [] []
 | cons {x:V} {d:PyData} {xs:YG} {ds:List PyData}:Mh K H x d->Ko K H xs ds->Ko K H (x::xs) (d::ds)
end
section
variable {X:Cx} {jb:YC} {U : St} {H:Hp} {s:Shared}
mutual
theorem Mh.reads (I:Inv X jb U H s):∀{v:V} {d:PyData} {u:Value},Mh X.K H v d->RelV v u->∃as,Reads s.heap u d as
 | _,_,_,.non,r=>by cases (show _=Value.none from r);exact⟨_,.none⟩
 | _,_,_,.bl b,r=>by cases (show _=Value.bool b from r);exact⟨_,.bool b⟩
 | _,_,_,.int i,r=>by obtain⟨t,rfl⟩:=(show ∃t,_=Value.int i t from r);exact⟨_,.int i t⟩
 | _,_,_,.str x,r=>by obtain⟨t,rfl⟩:=(show ∃t,_=Value.str x t from r);exact⟨_,.str x t⟩
 | _,_,_,.tup (a:=a) (xs:=xs) e q,r=>by
  cases (show _=Value.ref a from r)
  obtain⟨its,rv,⟨o,ho,hc,n,hd⟩,_⟩:=I.tuple e;obtain⟨as,z⟩:=Ko.reads I q rv;exact⟨_,.tuple ho hc hd (by simpa using z)⟩
theorem Ko.reads (I:Inv X jb U H s):∀{xs:YG} {ds:List PyData} {us:YE},Ko X.K H xs ds->Vals xs us->∃as,ReadsAll s.heap us ds as
 | _,_,_,.nil,.nil=>⟨_,.nil⟩
 | _,_,_,.cons p q,.cons r t=>by
  obtain⟨as,a1⟩:=Mh.reads I p r;obtain⟨bs,b1⟩:=Ko.reads I q t;exact⟨_,.cons a1 b1⟩
end
end
section
variable {X:Cx} {K:YD}
theorem Jy {es:YJ} {k:Nat} {pos:Pos} {t:TGs} {n:Nat} (hK:X.K=K) (hc:X.calm=true) (h:PGs X es t)
  (hn:(assignEach es X.env).length=n:=by rfl) (hst:(assignEach es X.env).findIdx? (·.1)=none:=by rfl):PG X (.Tuple es k pos) (mO K n t):=hK ▸ CN hc h hn hst
end
end L2
namespace L2
open PySem PySem.Spec PyProof.Rows
abbrev gC:YE:=[.type "ValueError",.type "Exception",.type "BaseException",.type "object"]
structure XCl (K:YD) (C:Addr):Prop where
 ex:PySem.W.excIn K C gC "ValueError.__new__"=true
 ga:findIn K (.ref C) "__getattribute__"=some (some (.builtin "BaseException.__getattribute__"))
 gn:findIn K (.ref C) "__getattr__"=some none
 ca:findIn K (.ref C) "__class__"=some (some (.builtin "object.__class__"))
 mo:PySem.W.subIn K (.ref C) (.type "object")=some true
 mb:PySem.W.subIn K (.ref C) (.type "BaseException")=some true
 kp:keepIn K (.ref C)=true
section
variable {K:YD} {C:Addr}
theorem XCl.obj (T:XCl K C) {h:Heap} (X:K.In h):∃bm N nm q bs hdct sn sub ab col dd k0 k1 k2 k3 k5 mN,h.get? C=some (excClassObj nm q C N bs bm hdct sn sub ab col dd k0 k1 k2 k3 k5 "ValueError.__new__")/\h.Ns N mN/\mN "__init__"=none/\OwnTail h gC bm:=by
 have q:=T.ex;unfold PySem.W.excIn at q;split at q
 ·rename_i dd cd sl ho;split at q
  ·rename_i C' bm k0 k1 k2 k3 n k5 hm hs;simp only[Qbx,beq_iff_eq,Bool.not_eq_true'] at q;obtain⟨⟨⟨⟨⟨rfl,rfl⟩,hdel⟩,ht⟩,hok⟩,hni⟩:=q;obtain⟨nm,bs,mro,ns,qn,hd,sn,sub,ab,col,del⟩:=cd;dsimp only at hm hdel hok hni;subst hm hdel;have hsl:sl=#[k0,k1,k2,k3,some (.builtin "ValueError.__new__"),k5]:=by
    obtain⟨l⟩:=sl;simp only at hs;rw[hs]
   subst hsl;exact⟨bm,ns,nm,qn,bs,hd,sn,sub,ab,col,dd,k0,k1,k2,k3,k5,_,X _ _ ho,.of_isNs (PySem.W.isNs_of_in X hok),PySem.W.nsMap_none_of_in X hok hni,PySem.W.tail_of_in X ht⟩
  ·cases q
 ·cases q
end
section
variable {prog:Program} {w:World} {A:Around} {E:YA} {h:Heap} {g:Array GenState} {d:Drawn} {t:Nat} {os:OsState} {K:YD} {a C:Addr} {o:Obj}
end
section
variable {X:Cx} {jb:YC} {U : St} {H:Hp} {s:Shared}
end
def XT (B:Heap) (e C:Addr) (fl:Option Value) (h:Heap):Prop:=
 ∃oe vs,h.get? e=some oe/\oe.cls=.ref C/\oe.data=.fields vs/\vs[2]?=some .none /\
  match fl with
  | none=>vs[1]?=some .none
  | some f=>∃T oT ts,vs[1]?=some (.ref T)/\B.get? T=none/\T≠e/\h.get? T=some oT/\oT.data=.fields ts/\ts[3]?=some f
structure Fl (B:Heap) (l:List Env) (e C:Addr) (fl:Option Value) (h:Heap):Prop where
 stays:B.StaysIn h
 new:B.get? e=none
 fr:h.FunFrames B l
 tr:XT B e C fl h
section
variable {M:Model} {A:Around} {E:YA} {s:Shared} {B:Heap} {env:Env} {outer l:List Env} {L e C:Addr} {Q:YH}
end
theorem BW.there {P:Program} {w:World} {H:Hp} {h:Heap} {a:Addr} {o:HO} (x:BW P w H h a o):∃u,h.get? a=some u:=by
 cases o with
 | lst xs=>obtain⟨_,its,n,_,q⟩:=x;exact⟨_,q⟩
 | tup xs=>obtain⟨_,its,_,ob,q,_⟩:=x;exact⟨_,q⟩
 | dK kvs=>obtain⟨_,_,vs,_,ob,es,ep,q,_⟩:=x;exact⟨_,q⟩
 | dT kvs=>obtain⟨_,_,xs,_,ob,es,ep,q,_⟩:=x;exact⟨_,q⟩
 | set S n=>obtain⟨ob,es,ep,t,q,_⟩:=x;exact⟨_,q⟩
 | ins C dx fs=>obtain⟨_,_,_,q,_⟩:=x;exact⟨_,q⟩
 | own y=>exact x
 | xd fs=>obtain⟨mA,⟨od,es,ep,q,_⟩,_⟩:=x;exact⟨_,q⟩
 | rng lo hi=>obtain⟨t,u,v,q⟩:=x;exact⟨_,q⟩
 | frz ob u=>exact⟨_,x.1⟩
 | tbl ps=>exact⟨_,x⟩
 | met f y=>exact⟨_,x⟩
 | ext φ=>exact x.2.1
structure Exc (P:Program) (w:World) (outer:List Env) (H:Hp) (s:Shared) (e C:Addr) (B:Heap) (H':Hp) (s':Shared):Prop where
 os:s'.os=s.os
 bare:AllBare s'.gens
 fl:∃fl,(fl=none\/fl=some .none)/\Fl B outer e C fl s'.heap
 un:Un (frs outer) [] H H' s.heap s'.heap
 hok:HOk P w H' s'.heap
 tin:∀b o,s'.heap.get? b=some o->H' b≠none->B.get? b=some o
 old:∀b o,s.heap.get? b=some o->H b=none->b∉frs outer->B.get? b=some o
 ex:∀b o,s.heap.get? b=some o->b∉frs outer->∃o',B.get? b=some o'
section
variable {P:Program} {w:World} {outer:List Env} {H H':Hp} {s s':Shared} {e C:Addr} {B h2:Heap} {fl:Option Value}
end
section
variable {X:Cx} {jb:YC} {U : St} {H H':Hp} {s s':Shared} {e C:Addr} {B h2:Heap} {fl:Option Value}
theorem Exc.made {args:YE} {h':Heap} (I:Inv X jb U H s) (hx:Heap.MadeExcOf s.heap h' e (.ref C) args):Exc X.prog X.w X.stack H s e C (hideAll s.heap (frs X.stack)) H { s with heap:=h' }:=by
 have st:(hideAll s.heap (frs X.stack)).StaysIn s.heap:=λb o q=>PySem.W.of_hideAll _ q;refine⟨rq,I.bare,⟨none,.inl rfl,⟨λb o q=>hx.keeps b o (st b o q),?_,?_,?_⟩⟩,Un.kept hx.keeps,I.hok.kept hx.keeps,λb o q hb=>?_,λb o q n hb=>hideAll_get _ q hb,λb o q hb=>⟨o,hideAll_get _ q hb⟩⟩
 ·cases hq:(hideAll s.heap (frs X.stack)).get? e with
  | none=>rfl
  | some o=>
   have q:=st e o hq;rw[hx.new] at q;cases q
 ·have f0:s.heap.FunFrames (hideAll s.heap (frs X.stack)) X.stack:=PySem.W.funFrames_hide I.stack λenv he a ha=>List.mem_filterMap.mpr ⟨env,he,ha⟩;exact f0.of_keeps λb o q _=>⟨o,hx.keeps b o q,rq⟩
 ·obtain⟨t,q,_⟩:=hx.there;exact⟨_,_,q,rq,rq,rq,rq⟩
 ·cases hq:H b with
  | none=>exact absurd hq hb
  | some v=>
   obtain⟨o1,q1⟩:=(I.hok b v hq).there;have q2:=hx.keeps b o1 q1;have q':h'.get? b=some o:=q;rw[q'] at q2;cases q2;refine hideAll_get _ q1 λhm=>?_;rw[I.QX b hm] at hq;cases hq
end
section
variable {M:Model} {A:Around} {E:YA} {h:Heap} {g:Array GenState} {d:Drawn} {t:Nat} {os:OsState} {K:YD} {e C HC:Addr}
end
abbrev Cx.by (X:Cx) (pn:YC) (E:YA):Cx:={ X with pn:=pn,xe:=E }
section
variable {X:Cx} {jb Yp pn:YC} {U : St} {H:Hp} {s:Shared} {E:YA} {ev:Value}
theorem Inv.by (I:Inv X jb U H s) (E:YA):Inv (X.by (X.pn++jb) E) [] U H s:=
 ⟨⟨I.ok.mod,I.ok.kind,I.ok.glob,I.ok.blt,I.ok.above,I.ok.inj,I.ok.has,I.ok.cab,I.ok.hd,I.ok.frames,I.ok.stk,I.ok.exf,I.ok.bs,I.ok.bsz,I.ok.Rp,I.ok.PL,I.ok.Il,I.ok.frf⟩,I.os,I.bare,I.base,I.loc,I.cell,I.free,I.GX,
  λp hp=>I.pin p (by simpa using hp),I.hok,I.len⟩
end
end L2
namespace L2
open PySem PySem.Spec PyProof.Rows PySem.SeqAt
theorem Bl {c:Const} {k:Nat} {p:Pos} {es:YJ} {env:Env}:starEach (.Constant c k p::es) env=(false,eval (.Constant c k p) env)::starEach es env:=by rfl
section
variable {X:Cx}
end
section
variable {prog:Program} {w:World} {A:Around} {E:YA} {s:Shared}
end
end L2
namespace L2
open PySem PySem.Spec PyProof.Rows
section
variable {X:Cx} {jb:YC} {U : St} {H:Hp} {s:Shared} {a:Addr} {kvs:YM} {o:Obj}
end
section
variable {a l:Addr} {o:Obj} {kvs:YM} {g:TG} {tb:TS} {D:Ends} {U : St} {H:Hp} {tt:TT} {te tk tv:TE} {Q:VK}
theorem bF {K:YD} {xs:YG} {σ0:St} {H0:Hp} (Pv:YN) (h0:Pv 0 σ0 H0) (hl:∀i U H',i<=xs.length->Pv i U H'->SqT K H' a xs)
  (hs:∀i x U H',xs[i]?=some x->Pv i U H'->g x U H' fun σ3 H3=>tt σ3 H3 λb H4=>if b=true then tk σ3 H4 λy H5=>tv σ3 H5 λz H6=>∃(kvs:YM) (k:Key),H6 l=some (.dK kvs)/\y=kV k/\kvs.length < sizeLine/\Pv (i+1) σ3 (upd H6 l (.dK (putK kvs k z))) else Pv (i+1) σ3 H4)
  (hd:∀ U H',Pv xs.length U H'->Q (.ref l) H'):T9 (Itt K a) g tt tk tv Q σ0 H0 l:=by
 unfold T9;refine⟨λi m U H'=>m=xs.length - i/\i<=xs.length/\Pv i U H',⟨xs.length,by simp,Qcs _,h0⟩,?_⟩;rintro i m U H' ⟨rfl,hi,p⟩;have q:=hl i U H' hi p;by_cases hlt:i < xs.length
 ·refine .inr ⟨⟨xs,xs[i],q,by simp[hlt]⟩,Pv (i+1),fun σ3 H3 p'=>⟨xs.length - (i+1),by omega,rq,hlt,p'⟩,λx H2 y=>?_⟩;obtain⟨e,y⟩:=y;subst e;exact hs i x U _ (y xs q) p
 ·have e:i=xs.length:=by omega
  subst e;exact .inl ⟨⟨xs,q,Qcr _⟩,hd U H' p⟩
end
open PySem.W (KasT kas_asc kas_desc kas_rev kas_tail3 kas_descPart kas_count kas_place kas_bin kas_sort)
def Pm (n:Nat) (p:Array Nat):Prop:=p.toList.Perm (List.range n)
section
variable {n:Nat} (n0:0 < n)
include n0
end
section
variable {prog:Program} {w:World} {A:Around} {E:YA} {s:Shared}
end
theorem jg {h:Heap} {a:Addr} {m m':YB} (x:h.Ns a m) (y:h.Ns a m'):m=m':=by
 obtain⟨o,es,ep,h1,h2,_,h3⟩:=x;obtain⟨o',es',ep',g1,g2,_,g3⟩:=y;rw[h1] at g1;cases g1;rw[h2] at g2;cases g2
 funext k
 rw[<-h3,<-g3]
theorem range_getD {α : Type} (d:α) (vs:List α):(List.range vs.length).map (λi=>vs.getD i d)=vs:=by
 apply List.ext_getElem
 ·simp
 ·intro i h1 h2;simp[h2]
end L2
namespace L2
open PySem PySem.Spec PyProof.Rows
section
variable {M:Model} {A:Around} {E:YA} {s:Shared}
end
section
variable {prog:Program} {w:World} {A:Around} {E:YA} {s:Shared}
end
section
variable {prog:Program} {w:World} {A:Around} {E:YA} {h:Heap} {g:Array GenState} {d:Drawn} {t:Nat} {os:OsState} {a:Addr} {xs:Array Value} {c:Nat}
end
section
variable {prog:Program} {w:World} {κ : Type} [DecidableEq κ] {knd:KeyKind prog w κ} {A:Around} {E:YA} {s:Shared} {R:Result->Shared->Prop}
end
section
variable {prog:Program} {w:World} {κ : Type} [DecidableEq κ] {knd:KeyKind prog w κ} {A:Around} {E:YA} {s:Shared}
end
def gJ (K:YD):YG->Hp->VK->Prop:=λxs H Q=>∃a ys,xs=[.ref a,.ty "tuple"]/\SqT K H a ys/\Q (.bl true) H
theorem S9 {X:Cx}:Ds X (.builtin "isinstance") (gJ X.K):=by
 intro jb s U H xs us Q I r h;obtain⟨a,ys,rfl,hs,q⟩:=h;cases r with
 | cons r1 r=>
  cases r with
  | cons r2 r=>
   cases r;cases r1;cases r2;obtain⟨its,rv,⟨o,ho,hc,n,hd⟩,_⟩:=I.tuple hs;exact kia_one PySem.W.kitx_tuple I.kIn ⟨o,ho,hc⟩ (by rfl:kitOne X.K (.type "tuple") (.type "tuple")=some true) (λz=>nomatch z) λtk=>⟨.bl true,H,I.tok tk,rq,q⟩
open PySem.W (KasT kas_asc kas_desc kas_rev kas_tail3 kas_descPart kas_count kas_place kas_bin kas_sort)
section
variable {n:Nat} {ky:Nat->Int}
theorem Pm.size {p:Array Nat} (h:Pm n p):p.size=n:=by
 have:=List.Perm.length_eq h;simpa using this
end
section
variable {prog:Program} {w:World} {A:Around} {s:Shared}
end
end L2
namespace PySem
open Sem (wp)
open AutoSeq1 (wpAny_loadPart')
section
variable {prog:Program} {w:World} {A:Around} {E:YA} {s:Shared}
end
end PySem
namespace L2
open PySem PySem.Spec PyProof.Rows
section
variable {X:Cx}
end
section
variable {X:Cx}
end
section
variable {X:Cx}
end
section
variable {prog:Program} {w:World} {A:Around} {R:Result->Shared->Prop} {s:Shared} {elt t1 i1 t2 i2:Expr} {scope:Scope} {pos:Pos} {it acc:Value} {env:Env}
end
end L2
namespace L2
open PySem
theorem jQ {a b:Expr} {p:Pos} {es:YJ} {env:Env}:starEach (.Subscript a b p::es) env=(false,eval (.Subscript a b p) env)::starEach es env:=by rfl
end L2
namespace L2
open PySem PySem.Spec PyProof.Rows
def Zi (K:YD) (a b:Addr):It:=
  ⟨λi H=>∃xs ys x y,H a=some (.tup xs)/\H b=some (.tup ys)/\xs[i]?=some x/\ys[i]?=some y,
   λi H v H'=>∃p x y,H p=none/\v=.ref p/\H'=upd H p (.tup [x,y])/\(∀xs,H a=some (.tup xs)->xs[i]?=some x)/\∀ys,H b=some (.tup ys)->ys[i]?=some y,
   λi H=>∃xs ys,H a=some (.tup xs)/\H b=some (.tup ys)/\(xs.length<=i\/ys.length<=i)⟩
theorem X3 {P:Program} {w:World} {K:YD} {elts:YJ} {k:Nat} {pos:Pos} (a b z TI TO i1 i2:Addr) (nd:[z,TI,TO,i1,i2].Nodup) :
  Turn P w K (.Tuple elts k pos) (Zi K a b) [z,TI,TO,i1,i2] z (λi h=>(∃f1,ZZ.IsZ h z TI TO .none f1)/\ZZ.Ci h TI [.ref i1,.ref i2]/\(∃olds:YE,ZZ.Ci h TO olds/\olds.length=2)/\h.IsTupleIter i1 a i/\h.IsTupleIter i2 b i) where
 mem:=by simp
 obj:=λi h st c hc=>by
  obtain⟨⟨f1,hz⟩,hTI,⟨olds,hTO,_⟩,⟨o1,e1,_,d1⟩,o2,e2,_,d2⟩:=st;simp only[Qcc,Qbt,QcC] at hc;rcases hc with rfl | rfl | rfl | rfl | rfl
  ·exact⟨_,hz,λv q=>by cases (show Data.fields _=Data.cell v from q)⟩
  ·exact⟨_,hTI,λv q=>by cases (show Data.seq _ _=Data.cell v from q)⟩
  ·exact⟨_,hTO,λv q=>by cases (show Data.seq _ _=Data.cell v from q)⟩
  ·exact⟨o1,e1,λv q=>by rw[d1] at q;cases q⟩
  ·exact⟨o2,e2,λv q=>by rw[d2] at q;cases q⟩
 keep:=λi h h' st k=>by
  obtain⟨⟨f1,hz⟩,hTI,⟨olds,hTO,l⟩,h1,h2⟩:=st;exact⟨⟨f1,k z (by simp) _ hz⟩,k TI (by simp) _ hTI,⟨olds,k TO (by simp) _ hTO,l⟩,h1.at λo e=>k i1 (by simp) o e,h2.at λo e=>k i2 (by simp) o e⟩
 item:=by
  intro X hP hw hK hc i jb s U H E I hf st hg;subst hP hw hK;obtain⟨xs,ys,x,y,hq1,hq2,hx,hy⟩:=hg;obtain⟨us,ru,p1,z1⟩:=I.tuple (SqT.of hq1);obtain⟨ws,rw',p2,z2⟩:=I.tuple (SqT.of hq2);obtain⟨u,hu,ru'⟩:=ru.get hx;obtain⟨v,hv,rv'⟩:=rw'.get hy;obtain⟨⟨f1,hz⟩,hTI,⟨olds,hTO,lo⟩,hi1,hi2⟩:=st;simp only[QbN,Qcc,Qbt,QcC,not_or,QbZ,Qbr,and_true] at nd;obtain⟨⟨n1,n2,n3,n4⟩,⟨n5,n6,n7⟩,⟨n8,n9⟩,n10⟩:=nd;have D:ZZ.Apart z TI TO [⟨i1,a,us.toArray⟩,⟨i2,b,ws.toArray⟩]:=by
   obtain⟨oa,ea,ca,_⟩:=id p1;obtain⟨ob,eb,cb,_⟩:=id p2;obtain⟨o1,e1,c1,_⟩:=id hi1;obtain⟨o2,e2,c2,_⟩:=id hi2;have aTO:a≠TO:=λq=>by
    have:=(hf TO (by simp)).1;rw[<-q,hq1] at this;cases this
   have bTO:b≠TO:=λq=>by
    have:=(hf TO (by simp)).1;rw[<-q,hq2] at this;cases this
   have t1:Value.type "tuple"≠Value.type "zip":=λq=>absurd (by injection q) (show ¬("tuple"="zip") by decide);have t2:Value.type "tuple"≠Value.type "tuple_iterator":=λq=>absurd (by injection q) (show ¬("tuple"="tuple_iterator") by decide);refine⟨Ne.symm n1,Ne.symm n2,n5,λq hq=>?_,λq hq=>?_,λq hq r hr=>?_,?_⟩
   ·simp only[Qcc,Qbt,QcC] at hq;rcases hq with rfl | rfl
    ·exact⟨Ne.symm n3,Ne.symm n6,Ne.symm n8⟩
    ·exact⟨Ne.symm n4,Ne.symm n7,Ne.symm n9⟩
   ·simp only[Qcc,Qbt,QcC] at hq;rcases hq with rfl | rfl
    ·exact⟨Cq ea hz (by rw[ca];exact t1),aTO⟩
    ·exact⟨Cq eb hz (by rw[cb];exact t1),bTO⟩
   ·simp only[Qcc,Qbt,QcC] at hq hr;rcases hq with rfl | rfl <;> rcases hr with rfl | rfl
    ·exact Cq ea e1 (by rw[ca,c1];exact t2)
    ·exact Cq ea e2 (by rw[ca,c2];exact t2)
    ·exact Cq eb e1 (by rw[cb,c1];exact t2)
    ·exact Cq eb e2 (by rw[cb,c2];exact t2)
   ·simp[n10]
  have hat:∀q∈([⟨i1,a,us.toArray⟩,⟨i2,b,ws.toArray⟩]:List ZZ.Src),ZZ.SrcAt s.heap q i:=λq hq=>by
   simp only[Qcc,Qbt,QcC] at hq;rcases hq with rfl | rfl
   ·exact .inr ⟨hi1,p1⟩
   ·exact .inr ⟨hi2,p2⟩
  refine ZZ.Qp hz (Qi:=λr s'=>∃h',r=.ref s.heap.objs.size/\s'={ s with heap:=h' }/\ZZ.IsZ h' z TI TO (rawInt s.heap.objs.size) (.bool false)/\ZZ.Ci h' TI [.ref i1,.ref i2]/\ZZ.Ci h' TO [u,v]/\(∀q∈([⟨i1,a,us.toArray⟩,⟨i2,b,ws.toArray⟩]:List ZZ.Src),ZZ.SrcAt h' q (i+1))/\ZZ.Ci h' s.heap.objs.size [u,v]/\ZZ.Rest z TO [⟨i1,a,us.toArray⟩,⟨i2,b,ws.toArray⟩] s.heap h')
   (ZZ.Mi (xs:=[u,v]) D hz hTI hTO hat (by simp) rfl lo (λj q hj=>?_) (by show 2<=100;decide) λh' a1 a2 a3 a4 a5 a6 a7=>⟨h',rq,rq,a1,a2,a3,a4,a5,a7⟩) λr s' hQ=>?_
  ·match j,hj with
   | 0,hj=>cases hj;exact⟨u,rfl,by simpa using hu⟩
   | 1,hj=>cases hj;exact⟨v,rfl,by simpa using hv⟩
  obtain⟨h',rfl,rfl,a1,a2,a3,a4,a5,a7⟩:=hQ;refine⟨_,rq,ZZ.Ss (s:={ s with heap:=h' }) a1 λh2 hz2 sb=>?_⟩;have hlt2:s.heap.objs.size≠z:=Qco (Qck hz);have hT2:ZZ.Ci h2 s.heap.objs.size [u,v]:=(sb.2 _ hlt2).trans a5;have new:BW X.prog X.w (upd H s.heap.objs.size (.tup [x,y])) h2 s.heap.objs.size (.tup [x,y]):=
   ⟨by show 2<=sizeLine;decide,[u,v],.cons ru' (.cons rv' .nil),_,hT2,rq,0,rq⟩
  have I1:=I.Mz (h':=h2) (t':=s.toks) (Qcr _) (λc q hc e=>(sb.2 c (λw=>hc (by simp[w]))).trans (a7 c q (λw=>hc (by simp[w])) (λw=>hc (by simp[w])) (λw=>hc (by simp only[Qce,List.map_nil,Qcc,Qbt,QcC] at w;rcases w with w | w <;> simp[w])) e)) hf new;have QL:∀{it l:Addr} {items:Array Value},l≠z->l≠TO->l≠i1->l≠i2->it≠z->s.heap.IsTuple l items->ZZ.SrcAt h' ⟨it,l,items⟩ (i+1)->h2.IsTupleIter it l (i+1):=λm1 m2 m3 m4 m5 hl q=>by
   rcases q with⟨_,q2⟩|⟨q1,_⟩
   ·obtain⟨o,e,r⟩:=hl;exact (DK q2 ⟨o,a7 _ o m1 m2 (by simp[m3,m4]) e,r⟩).elim
   ·exact q1.at λo e=>(sb.2 _ m5).trans e
  refine⟨.ref s.heap.objs.size,_,I1,rq,⟨s.heap.objs.size,x,y,I.hok.fresh (Qcr _),rq,rq,λys' hy'=>by (rw[hq1] at hy';cases hy';exact hx),λys' hy'=>by (rw[hq2] at hy';cases hy';exact hy)⟩,⟨⟨_,hz2⟩,(sb.2 _ (Ne.symm n1)).trans a2,⟨[u,v],(sb.2 _ (Ne.symm n2)).trans a3,rq⟩,?_,?_⟩,λc hc=>?_⟩
  ·exact QL (D.a ⟨i1,a,us.toArray⟩ (by simp)).1 (D.a ⟨i1,a,us.toArray⟩ (by simp)).2 (D.ai ⟨i1,a,us.toArray⟩ (by simp) ⟨i1,a,us.toArray⟩ (by simp)) (D.ai ⟨i1,a,us.toArray⟩ (by simp) ⟨i2,b,ws.toArray⟩ (by simp)) (Ne.symm n3) p1 (a4 _ (by simp))
  ·exact QL (D.a ⟨i2,b,ws.toArray⟩ (by simp)).1 (D.a ⟨i2,b,ws.toArray⟩ (by simp)).2 (D.ai ⟨i2,b,ws.toArray⟩ (by simp) ⟨i1,a,us.toArray⟩ (by simp)) (D.ai ⟨i2,b,ws.toArray⟩ (by simp) ⟨i2,b,ws.toArray⟩ (by simp)) (Ne.symm n4) p2 (a4 _ (by simp))
  ·have hlc:c≠s.heap.objs.size:=by
    have hmem:∃o,s.heap.get? c=some o:=by
     simp only[Qcc,Qbt,QcC] at hc;rcases hc with rfl | rfl | rfl | rfl | rfl
     ·exact⟨_,hz⟩
     ·exact⟨_,hTI⟩
     ·exact⟨_,hTO⟩
     ·obtain⟨o,e,_⟩:=hi1;exact⟨o,e⟩
     ·obtain⟨o,e,_⟩:=hi2;exact⟨o,e⟩
    obtain⟨o,e⟩:=hmem;exact Qcl (Qck e)
   rw[Ar hlc];exact (hf c hc).1
 done:=by
  intro X hP hw hK hc i jb s U H E I hf st hg;subst hP hw hK;obtain⟨xs,ys,hq1,hq2,hend⟩:=hg;obtain⟨us,ru,p1,z1⟩:=I.tuple (SqT.of hq1);obtain⟨ws,rw',p2,z2⟩:=I.tuple (SqT.of hq2);obtain⟨⟨f1,hz⟩,hTI,⟨olds,hTO,lo⟩,hi1,hi2⟩:=st;simp only[QbN,Qcc,Qbt,QcC,not_or,QbZ,Qbr,and_true] at nd;obtain⟨⟨n1,n2,n3,n4⟩,⟨n5,n6,n7⟩,⟨n8,n9⟩,n10⟩:=nd;have D:ZZ.Apart z TI TO [⟨i1,a,us.toArray⟩,⟨i2,b,ws.toArray⟩]:=by
   obtain⟨oa,ea,ca,_⟩:=id p1;obtain⟨ob,eb,cb,_⟩:=id p2;obtain⟨o1,e1,c1,_⟩:=id hi1;obtain⟨o2,e2,c2,_⟩:=id hi2;have aTO:a≠TO:=λq=>by
    have:=(hf TO (by simp)).1;rw[<-q,hq1] at this;cases this
   have bTO:b≠TO:=λq=>by
    have:=(hf TO (by simp)).1;rw[<-q,hq2] at this;cases this
   have t1:Value.type "tuple"≠Value.type "zip":=λq=>absurd (by injection q) (show ¬("tuple"="zip") by decide);have t2:Value.type "tuple"≠Value.type "tuple_iterator":=λq=>absurd (by injection q) (show ¬("tuple"="tuple_iterator") by decide);refine⟨Ne.symm n1,Ne.symm n2,n5,λq hq=>?_,λq hq=>?_,λq hq r hr=>?_,?_⟩
   ·simp only[Qcc,Qbt,QcC] at hq;rcases hq with rfl | rfl
    ·exact⟨Ne.symm n3,Ne.symm n6,Ne.symm n8⟩
    ·exact⟨Ne.symm n4,Ne.symm n7,Ne.symm n9⟩
   ·simp only[Qcc,Qbt,QcC] at hq;rcases hq with rfl | rfl
    ·exact⟨Cq ea hz (by rw[ca];exact t1),aTO⟩
    ·exact⟨Cq eb hz (by rw[cb];exact t1),bTO⟩
   ·simp only[Qcc,Qbt,QcC] at hq hr;rcases hq with rfl | rfl <;> rcases hr with rfl | rfl
    ·exact Cq ea e1 (by rw[ca,c1];exact t2)
    ·exact Cq ea e2 (by rw[ca,c2];exact t2)
    ·exact Cq eb e1 (by rw[cb,c1];exact t2)
    ·exact Cq eb e2 (by rw[cb,c2];exact t2)
   ·simp[n10]
  have hat:∀q∈([⟨i1,a,us.toArray⟩,⟨i2,b,ws.toArray⟩]:List ZZ.Src),ZZ.SrcAt s.heap q i:=λq hq=>by
   simp only[Qcc,Qbt,QcC] at hq;rcases hq with rfl | rfl
   ·exact .inr ⟨hi1,p1⟩
   ·exact .inr ⟨hi2,p2⟩
  have l1:=ru.length;have l2:=rw'.length;refine ZZ.K3 hz (R:=λh'=>ZZ.Rest z TO [⟨i1,a,us.toArray⟩,⟨i2,b,ws.toArray⟩] s.heap h') (ZZ.Ms (I.ok.hd hc) D hz hTI hTO hat (by simp) lo (by show 2<=100;decide) ?_ λh' e r st=>⟨h',e,rfl,rfl,r,st⟩) λh' r=>⟨rfl,I.QV (h':=h') (t':=s.toks) (λc q hc e=>r c q (λw=>hc (by simp[w])) (λw=>hc (by simp[w])) (λw=>hc (by simp only[Qce,List.map_nil,Qcc,Qbt,QcC] at w;rcases w with w | w <;> simp[w])) e) hf⟩;rcases hend with h | h
  ·exact⟨_,QaQ ..,by simp;omega⟩
  ·exact⟨_,QaD _ (QaQ ..),by simp;omega⟩
 self:=λ_ _ _ _ _ st h=>ZZ.Jt st.1.choose_spec h
def lO (K:YD) (ta:TA):TI:=fun U H R=>ta U H λvs H1=>∃a b,vs=[.ref a,.ref b]/\(∃xs,H1 a=some (.tup xs))/\(∃ys,H1 b=some (.tup ys))/\R (Zi K a b) H1
section
variable {X:Cx}
theorem dH {a b:Expr} {ta:TA} {p pos tp:Pos} {elts:YJ} {k:Nat} (hg:Gl X "zip") (hm:X.mg "zip"=none) (ha:PA X [a,b] ta)
  (hs:starEach [a,b] X.env=[(false,eval a X.env),(false,eval b X.env)]:=by rfl) (hs2:starEach [b] X.env=[(false,eval b X.env)]:=by rfl):PI X (.Tuple elts k tp) (.Call (.Name "zip" p) [a,b] [] pos) (lO X.K ta):=by
 intro jb s U H R I h;refine Call_ (GK I hg hm (u:=.type "zip") (by trivial) (Qac (thn (ha pos jb s U H _ I h) λus s1 ⟨vs,H1,I1,r1,q1⟩=>?_) (by rw[hs,hs2]) (by rw[hs2];rfl)));obtain⟨a,b,e,⟨xs,hx⟩,⟨ys,hy⟩,q⟩:=q1;subst e;cases r1 with
 | cons r rr=>
  cases rr with
  | cons r' rr=>
   cases rr;cases r;cases r';obtain⟨us,ru,k1,z1⟩:=I1.tuple (SqT.of hx);obtain⟨ws,rw',k2,z2⟩:=I1.tuple (SqT.of hy);refine ZZ.S6 (c1:="tuple_iterator") (c2:="tuple_iterator") (.inr ⟨rq,k1⟩) (.inr ⟨rq,k2⟩) λh' z TI TO i1 i2 f=>?_;refine ZZ.Jt (s:={ s1 with heap:=h' }) f.hz ?_;have nd:[z,TI,TO,i1,i2].Nodup:=by
    have a1:=f.ap.it ⟨i1,a,us.toArray⟩ (by simp);have a2:=f.ap.it ⟨i2,b,ws.toArray⟩ (by simp);have a3:i1≠i2:=by
     have:=f.ap.nd;simpa using this
    simp only[QbN,Qcc,Qbt,QcC,not_or,QbZ,Qbr,and_true];exact⟨⟨Ne.symm f.ap.TIz,Ne.symm f.ap.TOz,Ne.symm a1.1,Ne.symm a2.1⟩,⟨f.ap.TITO,Ne.symm a1.2.1,Ne.symm a2.2.1⟩,⟨Ne.symm a1.2.2,Ne.symm a2.2.2⟩,a3⟩
   have at1:h'.IsTupleIter i1 a 0:=by
    rcases f.at_ ⟨i1,a,us.toArray⟩ (by simp) with⟨_,x2⟩|⟨x1,_⟩
    ·obtain⟨o,e,r⟩:=id k1;exact (DK x2 ⟨o,f.keep _ o e,r⟩).elim
    ·exact x1
   have at2:h'.IsTupleIter i2 b 0:=by
    rcases f.at_ ⟨i2,b,ws.toArray⟩ (by simp) with⟨_,x2⟩|⟨x1,_⟩
    ·obtain⟨o,e,r⟩:=id k2;exact (DK x2 ⟨o,f.keep _ o e,r⟩).elim
    ·exact x1
   refine⟨z,[z,TI,TO,i1,i2],_,_,H1,rq,I1.kept (t':=s1.toks) λc o e=>f.keep c o e,X3 a b z TI TO i1 i2 nd,⟨⟨_,f.hz⟩,f.hTI,⟨_,f.hTO,rq⟩,at1,at2⟩,λc hc=>?_,q⟩;have hn:=f.new;have hcs:s1.heap.objs.size<=c:=by
    simp only[Qcc,Qbt,QcC] at hc;rcases hc with rfl | rfl | rfl | rfl | rfl
    ·exact hn.1
    ·exact hn.2.1
    ·exact hn.2.2.1
    ·exact hn.2.2.2 ⟨c,a,us.toArray⟩ (by simp)
    ·exact hn.2.2.2 ⟨c,b,ws.toArray⟩ (by simp)
   exact I1.Py hcs (I1.hok.fresh hcs)
end
theorem Zd {K:YD} {a b l:Addr} {xs ys:YG} {g:TG} {tt:TT} {te:TE} {Q:VK} {σ0:St} {H0:Hp} (n:Nat) (hx:n<=xs.length) (hy:n<=ys.length) (hn:xs.length<=n\/ys.length<=n) (Pv:YN)
  (h0:Pv 0 σ0 H0) (hl:∀i U H',i<=n->Pv i U H'->H' a=some (.tup xs)/\H' b=some (.tup ys))
  (hs:∀i x y p U H',xs[i]?=some x->ys[i]?=some y->Pv i U H'->H' p=none->g (.ref p) U (upd H' p (.tup [x,y])) fun σ3 H3=>tt σ3 H3 λb H4=>if b=true then te σ3 H4 λy H5=>∃ys,H5 l=some (.lst ys)/\ys.length < sizeLine/\Pv (i+1) σ3 (upd H5 l (.lst (ys++[y]))) else Pv (i+1) σ3 H4)
  (hd:∀ U H',Pv n U H'->Q (.ref l) H'):Fe (Zi K a b) g tt te Q σ0 H0 l:=by
 unfold Fe;refine⟨λi m U H'=>m=n - i/\i<=n/\Pv i U H',⟨n,by simp,Qcs _,h0⟩,?_⟩;rintro i m U H' ⟨rfl,hi,p⟩;obtain⟨q1,q2⟩:=hl i U H' hi p;by_cases hlt:i < n
 ·have hlt1:i < xs.length:=by omega
  have hlt2:i < ys.length:=by omega
  refine .inr ⟨⟨xs,ys,xs[i],ys[i],q1,q2,Qam hlt1,Qam hlt2⟩,Pv (i+1),fun σ3 H3 p'=>⟨n - (i+1),by omega,rq,hlt,p'⟩,λv H2 y=>?_⟩;obtain⟨pp,x',y',hp,rfl,rfl,e1,e2⟩:=y;exact hs i x' y' pp U _ (e1 xs q1) (e2 ys q2) p hp
 ·exact .inl ⟨⟨xs,ys,q1,q2,by omega⟩,by
   have:i=n:=by omega
   subst this;exact hd _ _ p⟩
def tC1 (sp:Sp) (t0:TE):TE:=fun U H Q=>t0 U H λv0 H0=>sp [v0] H0 Q E0
def tC2 (sp:Sp) (t0 t1:TE):TE:=fun U H Q=>t0 U H λv0 H0=>t1 U H0 λv1 H1=>sp [v0,v1] H1 Q E0
def tC3 (sp:Sp) (t0 t1 t2:TE):TE:=fun U H Q=>t0 U H λv0 H0=>t1 U H0 λv1 H1=>t2 U H1 λv2 H2=>sp [v0,v1,v2] H2 Q E0
def tC5 (sp:Sp) (t0 t1 t2 t3 t4:TE):TE:=fun U H Q=>t0 U H λv0 H0=>t1 U H0 λv1 H1=>t2 U H1 λv2 H2=>t3 U H2 λv3 H3=>t4 U H3 λv4 H4=>sp [v0,v1,v2,v3,v4] H4 Q E0
section
variable {X:Cx} {pl:Sem Bool} {k k':Nat} {C:Addr} {ps:YF} {sp:Sp} {x m:Str} {p apos pos:Pos} {o e0 e1 e2 e3 e4 e5:Expr} {ta t0 t1 t2 t3 t4 t5:TE}
theorem BJ (g:Good X.prog X.w X.K X.mg X.base x k ps sp) (hr:Dr k' X.A) (ha:PA X [e0] (Gh t0 QW)) (hk:k<=k':=by decide) (hg:Gl X x:=by rfl) (hdb:(x == ("__debug__":Str))=false:=by decide) (he:starEach [e0] X.env=(false,eval e0 X.env)::starEach [] X.env:=by rfl) (hpl:(backTo pos (starEach [] X.env)).any (·.1)=false:=by rfl):PE X (.Call (.Name x p) [e0] [] pos) (tC1 sp t0):=Qv g hr ha hk hg hdb he hpl
theorem Ca (g:Good X.prog X.w X.K X.mg X.base x k ps sp) (hr:Dr k' X.A) (ha:PA X [e0,e1] (Gh t0 (Gh t1 QW))) (hk:k<=k':=by decide) (hg:Gl X x:=by rfl) (hdb:(x == ("__debug__":Str))=false:=by decide) (he:starEach [e0,e1] X.env=(false,eval e0 X.env)::starEach [e1] X.env:=by rfl) (hpl:(backTo pos (starEach [e1] X.env)).any (·.1)=false:=by rfl):PE X (.Call (.Name x p) [e0,e1] [] pos) (tC2 sp t0 t1):=Qv g hr ha hk hg hdb he hpl
theorem Dj (g:Good X.prog X.w X.K X.mg X.base x k ps sp) (hr:Dr k' X.A) (ha:PA X [e0,e1,e2] (Gh t0 (Gh t1 (Gh t2 QW)))) (hk:k<=k':=by decide) (hg:Gl X x:=by rfl) (hdb:(x == ("__debug__":Str))=false:=by decide) (he:starEach [e0,e1,e2] X.env=(false,eval e0 X.env)::starEach [e1,e2] X.env:=by rfl) (hpl:(backTo pos (starEach [e1,e2] X.env)).any (·.1)=false:=by rfl):PE X (.Call (.Name x p) [e0,e1,e2] [] pos) (tC3 sp t0 t1 t2):=Qv g hr ha hk hg hdb he hpl
theorem kh (g:Good X.prog X.w X.K X.mg X.base x k ps sp) (hr:Dr k' X.A) (ha:PA X [e0,e1,e2,e3,e4] (Gh t0 (Gh t1 (Gh t2 (Gh t3 (Gh t4 QW)))))) (hk:k<=k':=by decide) (hg:Gl X x:=by rfl) (hdb:(x == ("__debug__":Str))=false:=by decide) (he:starEach [e0,e1,e2,e3,e4] X.env=(false,eval e0 X.env)::starEach [e1,e2,e3,e4] X.env:=by rfl) (hpl:(backTo pos (starEach [e1,e2,e3,e4] X.env)).any (·.1)=false:=by rfl):PE X (.Call (.Name x p) [e0,e1,e2,e3,e4] [] pos) (tC5 sp t0 t1 t2 t3 t4):=Qv g hr ha hk hg hdb he hpl
end
open PySem.W (KasT kas_asc kas_desc kas_rev kas_tail3 kas_descPart kas_count kas_place kas_bin kas_sort)
section
variable {prog:Program} {w:World} {A:Around} {s:Shared}
end
theorem Yi {X:Cx} {jb:YC} {U : St} {H:Hp} {s:Shared} {h2:Heap} {tk:Nat} {m:YB} {D:Addr} {c:Nat} {vs:YG} {its:YE} (I:Inv X jb U H s) (hn:s.heap.Ns X.env.locals m) (hn2:h2.Ns X.env.locals m) (kp2:∀b o,b≠X.env.locals->s.heap.get? b=some o->h2.get? b=some o) (nD:∀b o,s.heap.get? b=some o->b≠D)
  (oD:h2.get? D=some (seqObj "list" its.toArray c)) (rv:Vals vs its) (h64:vs.length < 64):H D=none/\Inv X jb U (upd H D (.lst vs)) { s with heap:=h2,toks:=tk }:=by
 have hDn:H D=none:=by
  cases e:H D with
  | none=>rfl
  | some v=>
   obtain⟨o,ho⟩:=(I.hok D v e).there;exact absurd rfl (nD D o ho)
 refine⟨hDn,?_⟩;have tr:∀(o:HO) b u,H b=some u->(upd H D o) b=some u:=λo b u e=>by rw[Ar (Ao e hDn)];exact e
 refine I.step (h':=h2) (g':=s.gens) (d':=s.drawn) (t':=tk) (ch:=[]) (λb hb=>absurd hb (by simp)) (λb u hb _ _ e _=>kp2 b u hb e) (λb u hb _ _ e _=>⟨u.slots,kp2 b u hb e⟩) (λb u _ e n=>by rw[Ar (nD b u e)];exact n)
  (λb u _ e=>?_) (λb ys e=>tr _ _ _ e) (λb u v e=>tr _ _ _ e) (λb ps e=>⟨#[],by rw[tr _ _ _ e];simp⟩) (λm' hm'=>by rw[jg hm' hn];exact hn2) (λb u e=>?_) I.bare
 ·by_cases hb:b=X.env.locals
  ·obtain⟨o,_,_,ho,_⟩:=hn2;exact⟨o,by rw[hb];exact ho⟩
  ·exact⟨u,kp2 b u hb e⟩
 ·by_cases hb:b=D
  ·subst hb;rw[Ac] at e;cases e;exact⟨Qcp (Aq (by omega)),_,c,rv,oD⟩
  ·rw[Ar hb] at e;refine (I.hok b u e).stay (λx v hx e1=>kp2 x v ?_ e1) (λx e1=>tr _ _ _ e1) λx ys e1=>tr _ _ _ e1;intro z;rcases hx with hx | hx
   ·rw[<-hx,z,I.free] at e;cases e
   ·rw[z,I.free] at hx;cases hx
end L2
namespace L2
open PySem PySem.Spec PyProof.Rows
theorem Qa (xs:Array Nat) (j:Nat) (up:xs.toList.Pairwise (· < ·)):∀(f lo hi:Nat),hi - lo<=f->lo<=hi->hi<=xs.size->(∀i v,xs[i]?=some v->i < lo->v < j)->(∀i v,xs[i]?=some v->hi<=i->j<=v) ->
  ∃r,SetTable.below.go xs j f lo hi=r/\r<=xs.size/\(∀i v,xs[i]?=some v->i < r->v < j)/\(∀i v,xs[i]?=some v->r<=i->j<=v)
 | 0,lo,hi,h1,h2,h3,h4,h5=>⟨lo,rfl,by omega,h4,λi v e h=>h5 i v e (by omega)⟩
 | f+1,lo,hi,h1,h2,h3,h4,h5=>by
  unfold SetTable.below.go;by_cases c:lo < hi
  ·rw[if_pos c];dsimp only;have hm:(lo+hi) / 2 < xs.size:=by omega
   have em:xs[(lo+hi) / 2]?=some xs[(lo+hi) / 2]:=Qag hm;have eg:xs.getD ((lo+hi) / 2) j=xs[(lo+hi) / 2]:=by simp[Array.getD,hm]
   have mono:∀(a b:Nat) (u v:Nat),xs[a]?=some u->xs[b]?=some v->a < b->u < v:=λa b u v ea eb l=>by
    rw[<-Qay] at ea eb;obtain⟨ha,rfl⟩:=Qaf.mp ea;obtain⟨hb,rfl⟩:=Qaf.mp eb;exact Qai.mp up a b ha hb l
   rw[eg];by_cases d:xs[(lo+hi) / 2] < j
   ·rw[if_pos d];refine Qa xs j up f _ hi (by omega) (by omega) h3 (λi v e l=>?_) h5;by_cases q:i=(lo+hi) / 2
    ·subst q;rw[em] at e;cases e;exact d
    ·exact Nat.lt_trans (mono i _ v _ e em (by omega)) d
   ·rw[if_neg d];refine Qa xs j up f lo _ (by omega) (by omega) (by omega) h4 (λi v e l=>?_);by_cases q:i=(lo+hi) / 2
    ·subst q;rw[em] at e;cases e;exact Nat.le_of_not_lt d
    ·exact Qcn (Nat.le_of_not_lt d) (Qcp (mono _ i _ v em e (by omega)))
  ·rw[if_neg c];exact⟨lo,rq,by omega,h4,λi v e h=>h5 i v e (by omega)⟩
theorem below_at {xs:Array Nat} {j:Nat} (up:xs.toList.Pairwise (· < ·)):SetTable.below xs j<=xs.size/\(∀i v,xs[i]?=some v->i < SetTable.below xs j->v < j)/\(∀i v,xs[i]?=some v->SetTable.below xs j<=i->j<=v):=by
 obtain⟨r,e,h⟩:=Qa xs j up xs.size 0 xs.size (by omega) (by omega) (Qcr _) (λi v _ h=>absurd h (QbO _)) (λi v e h=>absurd (Qad.mp e).1 (by omega));have e':SetTable.below xs j=r:=e;rw[e'];exact h
def TOk (b:Bool) (t:SetTable):Prop:=t.led=b/\t.dummies=#[]/\(t.plain=true->t.place.toList.Pairwise (· < ·))
theorem TOk.fresh0 (b:Bool):TOk b (.fresh 0 0 b):=⟨rfl,rfl,λ_=>List.Pairwise.nil⟩
theorem TOk.stand {b:Bool} {t:SetTable} (h:TOk b t) (n:Nat):TOk b (t.standIn n):=⟨h.1,rfl,λz=>by cases z⟩
theorem TOk.off {b:Bool} {t:SetTable} (h:TOk b t):TOk b { t with plain:=false }:=⟨h.1,h.2.1,λz=>by cases z⟩
theorem Qq {t:SetTable} {b:Bool} (h:TOk b t) (ha:Nat->Int) (x:Int):∀(f:Nat) (p:SetTable.Probe),p.dummy=none->∀j d,SetTable.probe.go t ha x f p=some (.empty j d)->d=none/\t.slot j=.empty
 | 0,p,_,j,d,e=>by simp[SetTable.probe.go] at e
 | f+1,p,pd,j,d,e=>by
  unfold SetTable.probe.go at e;have adv:∀q:SetTable.Probe,q.dummy=none->(t.advance q).dummy=none:=λq hq=>by unfold SetTable.advance;split <;> exact hq
  split at e
  ·rename_i hs;cases e;exact⟨pd,hs⟩
  ·rename_i hs;exfalso;unfold SetTable.slot at hs;dsimp only at hs;rw[h.2.1] at hs;split at hs
   ·cases hs
   ·split at hs
    ·rename_i hh;simp[SetTable.has] at hh
    ·cases hs
  ·split at e
   ·cases e
   ·exact Qq h ha x f _ (adv p pd) j d e
theorem aK {xs:Array Nat} {j:Nat} (up:xs.toList.Pairwise (· < ·)) (ne:xs[SetTable.below xs j]?≠some j):(SetTable.insertAt xs (SetTable.below xs j) j).toList.Pairwise (· < ·):=by
 obtain⟨h1,h2,h3⟩:=below_at (j:=j) up;rw[SetTable.toList_insertAt];refine List.pairwise_append.mpr ⟨up.sublist (List.take_sublist _ _),List.pairwise_cons.mpr ⟨λv hv=>?_,up.sublist (List.drop_sublist _ _)⟩,λu hu v hv=>?_⟩
 ·obtain⟨i,hi⟩:=QaF hv;rw[Qbb,Qay] at hi;have q:=h3 _ v hi (Nat.le_add_right _ _);by_cases c:j=v
  ·subst c;by_cases z:i=0
   ·subst z;exact absurd hi ne
   ·exfalso;have hl:SetTable.below xs j < xs.size:=by have:=(Qad.mp hi).1;omega
    have e0:xs[SetTable.below xs j]?=some xs[SetTable.below xs j]:=Qag hl;have q0:=h3 _ _ e0 (Qcr _);rw[<-Qay] at e0 hi;obtain⟨a1,a2⟩:=Qaf.mp e0;obtain⟨b1,b2⟩:=Qaf.mp hi;have:=Qai.mp up _ _ a1 b1 (by omega);omega
  ·omega
 ·obtain⟨i,hi⟩:=QaF hu;have hil:i < SetTable.below xs j:=by
   have:=(Qaf.mp hi).1;rw[Qbv] at this;omega
  rw[List.getElem?_take_of_lt hil,Qay] at hi;have uj:=h2 i u hi hil;rcases Qcc.mp hv with rfl | hv
  ·exact uj
  ·obtain⟨k,hk⟩:=QaF hv;rw[Qbb,Qay] at hk;exact QaU uj (h3 _ v hk (Nat.le_add_right _ _))
theorem TOk.ZV {b:Bool} {t:SetTable} (h:TOk b t) {j:Nat} (e:t.slot j=.empty):TOk b (t.put j).1:=by
 refine⟨h.1,?_,λpl=>?_⟩
 ·show (if SetTable.has t.dummies j=true then SetTable.eraseAt t.dummies (SetTable.below t.dummies j) else t.dummies)=#[]
  rw[h.2.1];have:SetTable.has (#[]:Array Nat) j=false:=by simp[SetTable.has]
  rw[this];rfl
 ·refine aK (h.2.2 pl) λz=>?_;unfold SetTable.slot at e;dsimp only at e;rw[z] at e;simp at e
theorem TOk.lay {b:Bool} {t:SetTable} (h:TOk b t) (es:Array (Int×Value)) (k:Int) (x:Value):TOk b (layNew t es k x).2.1:=by
 unfold layNew;split
 ·rename_i slot wd hf;dsimp only;have key:t.slot slot=.empty:=by
   unfold SetTable.freeSlot at hf;split at hf
   ·rename_i j d hp;obtain⟨rfl,hs⟩:=Qq h _ _ _ _ rfl j d hp;cases hf;exact hs
   ·cases hf
  unfold SetTable.orStandIn;split
  ·exact h.ZV key
  ·exact (h.ZV key).stand _
 ·exact h.stand _
theorem TOk.nH {b:Bool} {t:SetTable} (h:TOk b t) (es:Array (Int×Value)) (n:Nat):TOk b (relayAll t es n).2.1:=by
 unfold relayAll;split
 ·rename_i t' order hr;dsimp only;split
  ·dsimp only;unfold SetTable.relaid SetTable.laid at hr;rw[Option.bind_eq_bind] at hr;obtain⟨owner,_,e⟩:=Option.bind_eq_some_iff.mp hr;have e':=QbK e;cases e';refine⟨h.1,rq,λ_=>?_⟩;dsimp only;have:∀(l:List Nat) (g:Nat->Option (Nat×Nat)),(∀j p,g j=some p->p.1=j)->((l.filterMap g).map (·.1)).Sublist l:=by
    intro l g hg
    induction l with
    | nil=>exact .slnil
    | cons a l ih=>
     rw[List.filterMap_cons];split
     ·exact ih.cons _
     ·rename_i p hp;rw[Qce,hg a p hp];exact ih.cons₂ _
   refine List.Pairwise.sublist (this _ _ λj p hp=>?_) List.pairwise_lt_range;obtain⟨v,_,rfl⟩:=Qau.mp hp;rfl
  ·exact h.stand _
 ·exact h.stand _
section
variable {prog:Program} {w:World} {KT:Type} [DecidableEq KT] (kn:KeyKind prog w KT)
def SetT (b:Bool) (h:Heap) (a:Addr) (S:KT->Bool) (n:Nat):Prop:=
 ∃ob es ep t,(h.get? a=some ob/\ob.ExactSet/\ob.data=.set es ep t)/\(ElemsOf kn es.toList/\∀k,S k=true ↔ ∃e∈es.toList,kn.is k e.2=true)/\(es.size < scanBound/\t.fits es.size=true/\es.size=n)/\TOk b t
variable {kn}
variable {A:Around} {E:YA} {s:Shared}
theorem SetT.at {b:Bool} {h h':Heap} {a:Addr} {S:KT->Bool} {n:Nat} (z:SetT kn b h a S n) (k:∀o,h.get? a=some o->h'.get? a=some o):SetT kn b h' a S n:=
 let ⟨ob,es,ep,t,⟨g1,g2⟩,g3⟩:=z
 ⟨ob,es,ep,t,⟨k _ g1,g2⟩,g3⟩
theorem SetT.stored {b:Bool} {h:Heap} {a:Addr} {ob:Obj} {es:Array (Int×Value)} {ep:Nat} {t:SetTable} (g1:h.get? a=some ob) (g2:ob.ExactSet) (g3:ob.data=.set es ep t)
  {es':Array (Int×Value)} {t':SetTable} {S':KT->Bool} (k1:ElemsOf kn es'.toList) (k2:∀k,S' k=true ↔ ∃e∈es'.toList,kn.is k e.2=true) (k3:es'.size < scanBound) (k4:t'.fits es'.size=true) (k5:TOk b t') :
  (h.update a (Obj.putSet es' t')).get? a=some { ob with data:=.set es' (ep+1) t' }/\SetT kn b (h.update a (Obj.putSet es' t')) a S' es'.size:=by
 obtain⟨q,_⟩:=SetOf_store (knd:=kn) g1 g2 g3 k1 k2 k3 k4;exact⟨q,_,es',ep+1,t',⟨q,g2,rq⟩,⟨k1,k2⟩,⟨k3,k4,rq⟩,k5⟩
theorem Ti {b:Bool} {g:Bool->Sem Unit} (hg:∀(c:Bool) (s₁ : Shared) (Z:YH),Z () s₁->wpAny (model prog w) A (g c) Z E s₁)
  {a:Addr} {ob:Obj} {es:Array (Int×Value)} {ep:Nat} {t:SetTable} (g1:s.heap.get? a=some ob) (g2:ob.ExactSet) (g3:ob.data=.set es ep t)
  {es1:Array (Int×Value)} {t1:SetTable} {S':KT->Bool} (k1:ElemsOf kn es1.toList) (k2:∀k,S' k=true ↔ ∃e∈es1.toList,kn.is k e.2=true) (k3:es1.size < scanBound) (k4:t1.fits es1.size=true) (k5:TOk b t1) {wd:Bool} {R:Option Bool->Shared->Prop}
  (h:∀h',Heap.SameBut a s.heap h'->SetT kn b h' a S' es1.size->R (some true) { s with heap:=h' }) :
  wpAny (model prog w) A (do
    storeSet a es1 t1
    if (!wd&&t1.tooFull)=true then do
      g (relayAll t1 es1 (SetTable.grown es1.size)).2.2
      storeSet a (relayAll t1 es1 (SetTable.grown es1.size)).1 (relayAll t1 es1 (SetTable.grown es1.size)).2.1
      pure (some true)
     else pure (some true)) R E s:=by
 refine Qcx (wpAny_storeSet_of g1 g3 ?_ (fits_of_scanBound k3));obtain⟨o1,z1⟩:=SetT.stored g1 g2 g3 k1 k2 k3 k4 k5;have m1:=QaK s.heap a (Obj.putSet es1 t1);split
 ·have pm:=relayAll_perm t1 es1 (SetTable.grown es1.size);have ft:=relayAll_fits t1 es1 (SetTable.grown es1.size);have tk:=k5.nH es1 (SetTable.grown es1.size);generalize relayAll t1 es1 (SetTable.grown es1.size)=RL at pm ft tk ⊢;obtain⟨es2,t2,gv⟩:=RL;dsimp only at pm ft tk ⊢;have l1:ElemsOf kn es2.toList:=k1.perm pm;have l2:∀k,S' k=true ↔ ∃e∈es2.toList,kn.is k e.2=true:=λk=>(k2 k).trans ⟨λ⟨e,he,q⟩=>⟨e,pm.mem_iff.mpr he,q⟩,λ⟨e,he,q⟩=>⟨e,pm.mem_iff.mp he,q⟩⟩;have sz:es2.size=es1.size:=by rw[<-QaJ,pm.length_eq,QaJ]
  have l3:es2.size < scanBound:=sz ▸ k3;refine Qcx (hg gv _ _ ?_);refine Qcx (wpAny_storeSet_of o1 rfl ?_ (fits_of_scanBound l3));obtain⟨_,z2⟩:=SetT.stored o1 g2 rfl l1 l2 l3 ft tk;exact Qcy (h _ (m1.trans (QaK _ a _)) (sz ▸ z2))
 ·exact Qcy (h _ m1 z1)
theorem wg {b:Bool} {a:Addr} {S:KT->Bool} {n:Nat} {k:KT} {x:Value} {Q:Bool->Shared->Prop} (kx:kn.is k x=true) (sx:x.scannable=true) (z:SetT kn b s.heap a S n) (room:n+1 < scanBound)
  (h:∀h',Heap.SameBut a s.heap h'->SetT kn b h' a (λk'=>S k' || decide (k'=k)) (if S k then n else n+1)->Q (!S k) { s with heap:=h' }) :
  wpAny (model prog w) A (setAddHashed a x (kn.hash k)) Q E s:=by
 obtain⟨ob,es,ep,t,⟨g1,g2,g3⟩,⟨c1,c2⟩,⟨c3,c4,rfl⟩,c5⟩:=z;unfold setAddHashed setAddHashedIn;refine Qcf (Qcx (Qbj g1 g3 c4 ?_));dsimp only;rw[byScan_of sx c3 c1];simp only[↓reduceIte];unfold setAddByScan;refine Qcx (Qcx (QcA (Qcx (wpAny_setScan_of kx g1 g3 c4 c1 ?_))));cases fnd:es.toList.findIdx? (λe=>kn.is k e.2) with
 | some i=>
  dsimp only;obtain⟨hi,pi,_⟩:=List.findIdx?_eq_some_iff_getElem.mp fnd;have Sk:S k=true:=(c2 k).mpr ⟨es.toList[i],List.getElem_mem hi,pi⟩;refine Qcy (Qcy ?_);have u:=h s.heap (Heap.SameBut.refl a s.heap) ⟨ob,es,ep,t,⟨g1,g2,g3⟩,⟨c1,λk'=>by
   rw[Bool.or_eq_true,Qbq,<-c2 k'];exact⟨λq=>q.elim id λe=>e ▸ Sk,.inl⟩⟩,⟨c3,c4,by rw[Sk];rfl⟩,c5⟩
  rw[Sk] at u;obtain⟨_,_,_,_,_⟩:=s;exact u
 | none=>
  dsimp only;have Sk:S k=false:=Bool.eq_false_iff.mpr λq=>by
   obtain⟨e,he,p⟩:=(c2 k).mp q;have:=List.findIdx?_eq_none_iff.mp fnd e he;rw[p] at this;cases this
  have gw:∀(c:Bool) {s₁ : Shared} {Z:YH},Z () s₁->wpAny (model prog w) A (match c with | true=>rule "set.scan.the-table-gave-way" | false=>pure ()) Z E s₁:=λc s₁ Z q=>by cases c <;> first | exact Qcy q | exact QcA q
  have pm:=layNew_perm t es (kn.hash k) x;have ft:=layNew_fits t es (kn.hash k) x;have tk:=c5.lay es (kn.hash k) x;generalize layNew t es (kn.hash k) x=LN at pm ft tk ⊢;obtain⟨es1,t1,wd,gv⟩:=LN;dsimp only at pm ft tk ⊢;rw[Array.toList_push] at pm;have d1:ElemsOf kn es1.toList:=(c1.push kx sx).perm pm;have d2:∀k',(S k' || decide (k'=k))=true ↔ ∃e∈es1.toList,kn.is k' e.2=true:=mem_push_iff kx c2 pm;have sz:es1.size=es.size+1:=by rw[<-QaJ,pm.length_eq,QaN,QaJ];rfl
  have d3:es1.size < scanBound:=by rw[sz];exact room
  have fin:∀h',Heap.SameBut a s.heap h'->SetT kn b h' a (λk'=>S k' || decide (k'=k)) es1.size->Q true { s with heap:=h' }:=λh' m z=>by
   have u:=h h' m;rw[Sk] at u;exact u (sz ▸ z)
  refine Qcx (gw gv ?_);split
  ·refine Qcx ?_;rw[hashByValue_scannable 8 sx];refine Qcy ?_;refine Ti ?_ g1 g2 g3 d1 d2 d3 ?_ (b:=b) ?_ ?_
   ·intro c s₁ Z q;cases c <;> first | exact Qcy q | exact QcA q
   ·split
    ·exact ft
    ·exact SetTable.fits_plain_off ft
   ·split
    ·exact tk
    ·exact tk.off
   ·intro h' m z;dsimp only;exact Qcy (fin h' m z)
  ·refine Qcx (Qcy ?_);simp only[↓reduceIte];refine Ti ?_ g1 g2 g3 d1 d2 d3 ft tk ?_
   ·intro c s₁ Z q;cases c <;> first | exact Qcy q | exact QcA q
   ·intro h' m z;dsimp only;exact Qcy (fin h' m z)
end
def met {KT:Type} [DecidableEq KT] (val:Nat->KT):Nat->List KT
 | 0=>[]
 | i+1=>if val i∈met val i then met val i else met val i++[val i]
section
variable {KT:Type} [DecidableEq KT]
theorem eE (val:Nat->KT) (i:Nat):met val (i+1)=if val i∈met val i then met val i else met val i++[val i]:=rfl
theorem Ru (val:Nat->KT):∀i,(met val i).length<=i
 | 0=>Qcr _
 | i+1=>by
  have ih:=Ru val i;unfold met;split
  ·omega
  ·rw[QaN];exact Nat.succ_le_succ ih
theorem Vu (val:Nat->KT):∀i,(met val i).Nodup
 | 0=>List.Pairwise.nil
 | i+1=>by
  unfold met;split
  ·exact Vu val i
  ·rename_i h;exact Qbp.mpr ⟨Vu val i,by simp,λx hx y hy z=>by rw[QaR.mp hy] at z;exact h (z ▸ hx)⟩
theorem Rt (val:Nat->KT) (k:KT):∀i,k∈met val i ↔ ∃j,j < i/\val j=k
 | 0=>⟨(λh=>by cases h),λ⟨j,h,_⟩=>absurd h (QbO _)⟩
 | i+1=>by
  have ih:=Rt val k i;unfold met;split
  ·rename_i h;rw[ih];constructor
   ·refine λzz=>?_;obtain⟨j,h,e⟩:=zz;exact⟨j,Qbl h,e⟩
   ·intro ⟨j,hj,e⟩;by_cases c:j=i
    ·subst c;subst e;exact (Rt val _ j).mp h
    ·exact⟨j,by omega,e⟩
  ·rw[QbG,QaR,ih];constructor
   ·rintro (⟨j,h,e⟩| e)
    ·exact⟨j,Qbl h,e⟩
    ·exact⟨i,QbB _,e.symm⟩
   ·intro ⟨j,hj,e⟩;by_cases c:j=i
    ·subst c;exact .inr e.symm
    ·exact .inl ⟨j,by omega,e⟩
end
section
variable {prog:Program} {w:World} {KT:Type} [DecidableEq KT] {kn:KeyKind prog w KT} {A:Around} {E:YA} {s:Shared}
theorem SetT.uq {b:Bool} {h:Heap} {a:Addr} {S S':KT->Bool} {n n':Nat} (z:SetT kn b h a S n) (e:∀k,S k=S' k) (en:n=n'):SetT kn b h a S' n':=by
 have:S=S':=funext e;rw[<-this,<-en];exact z
theorem ZK {R:Result->Shared->Prop} {I:Addr} {fp wr:List Addr} {G:Array GenState->Array GenState->Prop} {n:Nat} {P:Nat->Value->Prop} {St:Nat->Shared->Prop} (Wk:WalksS prog w A.in1 I fp wr G n P St) (b:Bool) (S:Addr) (nS:S∉fp)
  (val:Nat->KT) (hv:∀i v,P i v->kn.is (val i) v=true/\v.scannable=true) (lim:n+1 < scanBound) :
  ∀(m i:Nat) (s:Shared),n - i=m->i<=n->St i s->SetT kn b s.heap S (λk=>decide (k∈met val i)) (met val i).length ->
   (∀s',Moved (S::wr) G s s'->SetT kn b s'.heap S (λk=>decide (k∈met val n)) (met val n).length->R (.ok (.ret .none)) s') ->
   codeAny (model prog w) A (.builtin "set.update.loop" ⟨[.ref S,.ref I],[]⟩) R s:=by
 have nw:S∉wr:=λq=>nS (Wk.sub _ q);have sub:∀c∈wr,c∈S::wr:=λc hc=>.tail _ hc;intro m
 induction m with
 | zero=>
  intro i s hm hi st z fin;obtain rfl:i=n:=by omega
  refine QbR PyProof.Rows.F.entry_set_update_loop ?_;rw[QaH PyProof.Rows.F.plain_set_update_loop _];show wpAny _ A.in1 (pyNext (.ref I) >>= _) _ _ s;refine Qcx (Wk.done s _ _ st λs1 mv=>?_);show wpAny _ A.in1 (ret Value.none) _ _ s1;exact Qcy (fin s1 (mv.mono sub) (z.at λo e=>mv.heap S _ nw e))
 | succ m ih=>
  intro i s hm hi st z fin;have lt:i < n:=by omega
  refine QbR PyProof.Rows.F.entry_set_update_loop ?_;rw[QaH PyProof.Rows.F.plain_set_update_loop _];show wpAny _ A.in1 (pyNext (.ref I) >>= _) _ _ s;refine Qcx (Wk.item i s _ _ lt st λv s1 pv st1 mv=>?_);obtain⟨kv,sv⟩:=hv i v pv;have z1:=z.at λo e=>mv.heap S o nw e;show wpAny _ A.in1 (holding [v] (setAdd S v) >>= _) _ _ s1;refine Qcx (Qcf ?_);unfold setAdd;refine Qcf (Qcx (kn.pyHash kv ?_));have room:(met val i).length+1 < scanBound:=by have:=Ru val i;omega
  refine wg (s:={ s1 with toks:=s1.toks+1 }) kv sv z1 room λh2 sb z2=>?_;have z3:SetT kn b h2 S (λk=>decide (k∈met val (i+1))) (met val (i+1)).length:=by
   refine z2.uq (λk=>?_) ?_
   ·rw[QbP,Bool.or_eq_true,QaV,QaV,QaV];rw[eE];split
    ·rename_i q;exact⟨λx=>x.elim id λe=>e ▸ q,.inl⟩
    ·rw[QbG,QaR]
   ·show (if decide (val i∈met val i)=true then (met val i).length else (met val i).length+1)=(met val (i+1)).length
    by_cases q:val i∈met val i
    ·rw[if_pos (QbX q)];show _=(if val i∈met val i then met val i else met val i++[val i]).length
     rw[if_pos q]
    ·rw[if_neg (by simp[q])];show _=(if val i∈met val i then met val i else met val i++[val i]).length
     rw[if_neg q,QaN];rfl
  refine Qcy ⟨plainId_quiet PyProof.Rows.F.plain_set_update_loop _,ih (i+1) _ (by omega) lt (Wk.frame _ s1 _ _ st1 (Qcw _) λc hc o e=>?_) z3 λs2 mv2 z4=>?_⟩
  ·rw[sb.2 c λq:c=S=>nS (q ▸ hc)];exact e
  ·refine fin s2 (Moved.trans Wk.gtrans ((mv.mono sub).then_heap (Qcw _) λc o hc e=>?_) mv2) z4;rw[sb.2 c λq:c=S=>hc (q ▸ .head _)];exact e
def Es (w:World):Obj:={ cls:=.type "set",dict:=none,data:=.set #[] 0 (.fresh 0 0 (!w.params.followText "set-order")) }
theorem Wn (a:Value) {Z:YA} (h:Z (.ref s.heap.objs.size) { s with heap:=s.heap.push (Es w) }) :
  codeAny (model prog w) A (.call (.builtin "set.__new__") ⟨[.type "set",a],[]⟩) (wants Z E) s:=by
 refine codeAny_of_tree ?_;show wpAny _ A.in1 (checkBuiltinCall "set.__new__" ⟨[.type "set",a],[]⟩ >>= λ_=>again (.builtin "set.__new__" ⟨[.type "set",a],[]⟩)) _ _ s;refine Qcx (wpAny_of_eq (PySem.F.newCall_set_1 a) (Qcy ⟨plainId_quiet PySem.F.plain_set_new _,QbR PySem.F.entry_set_new ?_⟩));rw[QaH PySem.F.plain_set_new _];unfold Builtin.«set.__new__»;unfold Builtin.Frozenset.newClass;have sf:=sub_set_self;obtain⟨hp,g,d,tk,os⟩:=s;dsimp only
 wp_walk
 refine QbE (Qcy ?_);dsimp only;simp only[newObj];exact Qcx (wpAny_alloc (Qcy (Qcy h)))
theorem Wj:isSubtype (.type "tuple") (.type "set")=pure false:=by rw[Qcb];kernel_rfl
theorem X8:isSubtype (.type "tuple") (.type "frozenset")=pure false:=by rw[Qcb];kernel_rfl
theorem RT {T:String} {l:Addr} {n:Nat} {Q:YA} {P:Nat->Value->Prop} (hh:A.handled=none) (val:Nat->KT) (hv:∀i v,P i v->kn.is (val i) v=true/\v.scannable=true) (lim:n+1 < scanBound)
  (hT:s.TypeIs (.ref l) T) (t1:isSubtype (.type T) (.type "set")=pure false) (t2:isSubtype (.type T) (.type "frozenset")=pure false) (t3:(Value.type T == Value.type "dict")=false)
  (it:∀(s1:Shared),(∀o,s.heap.get? l=some o->s1.heap.get? l=some o)->∃(oI:Obj) (St:Nat->Heap->Prop),(∀(A:Around) (E:YA) (Q:YA),Q (.ref s1.heap.objs.size) { s1 with heap:=s1.heap.push oI }->wpAny (model prog w) A (pyIter (.ref l)) Q E s1) /\
   (∀A:Around,A.handled=none->l≠s1.heap.objs.size->Walks prog w A s1.heap.objs.size [s1.heap.objs.size,l] [s1.heap.objs.size] n P St)/\St 0 (s1.heap.push oI))
  (h:∀(h':Heap) (tk:Nat),SetT kn (!w.params.followText "set-order") h' s.heap.objs.size (λk=>decide (k∈met val n)) (met val n).length->(∀b o,b < s.heap.objs.size->s.heap.get? b=some o->h'.get? b=some o)->Q (.ref s.heap.objs.size) { s with heap:=h',toks:=tk }) :
  wpAny (model prog w) A (call (.type "set") [.ref l]) Q E s:=by
 obtain⟨ol,hol,hcl⟩:=hT;obtain⟨c,tl,hmro⟩:=PySem.F.called_set.mro;have hmade:=PySem.F.called_set.made;have hsub:=PySem.F.called_set.sub;refine wpAny_call (codeAny_of_tree ?_);show wpAny _ _ (callAny (.type "set") _) _ _ _;refine Qcy ⟨Code.quiet_builtin _ (by trivial),QbR PySem.F.entry_type_call ?_⟩;rw[Around.under_plain (weight_type_call_type "set" [.ref l] []) rfl];have f1:=PySem.F.called_set.notType;have f2:=PySem.F.called_set.canCreate;have f3:=PySem.F.typeCall_set_1 (.ref l)
 repeat (any_goals (first | assumption | wp_step))
 refine Qcq (Wn (.ref l) (E:=E) (Z:=λv s1=>v=.ref s.heap.objs.size/\s1={ s with heap:=s.heap.push (Es w) }) ⟨rq,rq⟩) λr s1 hr=>?_;cases r with
 | error e=>exact hr
 | ok fl=>
  cases fl with
  | ret v=>
   obtain⟨rfl,rfl⟩:=hr;have hS:(s.heap.push (Es w)).get? s.heap.objs.size=some (Es w):=QaI _ rfl;have hTs:Shared.TypeIs { s with heap:=s.heap.push (Es w) } (.ref s.heap.objs.size) "set":=⟨_,hS,rq⟩;have f4:=PySem.F.called_set.init.lookup;have f5:=PySem.F.called_set.init.bind (.ref s.heap.objs.size)
   repeat (any_goals (first | assumption | wp_step))
   refine Qcq (codeAny_call_builtin (R:=wants (λr s2=>r=.none/\∃h' tk,s2={ s with heap:=h',toks:=tk }/\SetT kn (!w.params.followText "set-order") h' s.heap.objs.size (λk=>decide (k∈met val n)) (met val n).length/\(∀b o,b < s.heap.objs.size->s.heap.get? b=some o->h'.get? b=some o)) E) PySem.F.called_set.init.plain PySem.F.entry_set_init (check_set_init_1 hTs ?_)) λr2 s2 hr2=>?_
   ·obtain⟨ocls,odict,odata,oslots⟩:=ol;have hcl:ocls=.type T:=hcl;subst hcl;have ho1:(s.heap.push (Es w)).get? l=some { cls:=.type T,dict:=odict,data:=odata,slots:=oslots }:=Qat _ hol;have hlS:l < s.heap.objs.size:=Qck hol;unfold Es at hS;unfold Builtin.«set.__init__»;unfold noKeywords;unfold Builtin.Frozenset.updateFrom;generalize ePI:pyIter=PI
    wp_walk
    subst ePI;have hh3:A.in1.in1.in1.handled=none:=by simp[hh]
    obtain⟨oI,St,hit,Wk,st⟩:=it { s with heap:=s.heap.push (Es w) } λo e=>Qat _ e;have nI:l≠(s.heap.push (Es w)).objs.size:=by rw[QbY];exact Qcl (Qbl hlS)
    have W3:=Wk A.in1.in1.in1 hh3 nI;refine hit _ _ _ ?_;refine Qcx (wpAny_runValue ?_);have nS:s.heap.objs.size∉[(s.heap.push (Es w)).objs.size,l]:=by
     rw[QbY];simp only[Qcc,Qbt,QcC,not_or];exact⟨Qcl (QbB _),Qco hlS⟩
    have hS2:((s.heap.push (Es w)).push oI).get? s.heap.objs.size=some (Es w):=Qat _ (QaI _ rfl);refine ZK W3.toS (!w.params.followText "set-order") s.heap.objs.size nS val hv lim (n - 0) 0 _ rfl (Qcs _) st ?_ ?_
    ·exact⟨_,#[],0,_,⟨hS2,⟨rq,rq,rq⟩,rq⟩,⟨λe he=>by simp at he,λk=>by simp[met]⟩,⟨by unfold scanBound;decide,by rfl,rq⟩,TOk.fresh0 _⟩
    ·intro s2 mv z;obtain⟨h',g',d',tk',os'⟩:=s2;have e1:g'=s.gens:=mv.gens;have e2:d'=s.drawn:=mv.drawn;have e3:os'=s.os:=mv.os;subst e1 e2 e3;show wpAny _ _ _ _ _ _;refine Qcy ?_;show wpAny _ _ (ret Value.none) _ _ _;refine Qcy ⟨rq,h',tk',rq,z,λb o hb e=>?_⟩;have n1:b≠s.heap.objs.size:=Qcl hb;have n2:b≠(s.heap.push (Es w)).objs.size:=by rw[QbY];exact Qcl (Qbl hb)
     exact mv.heap b o (by simp only[Qcc,Qbt,QcC,not_or];exact⟨n1,n2⟩) (Qat _ (Qat _ e))
   ·cases r2 with
    | error e=>exact hr2
    | ok fl2=>
     cases fl2 with
     | ret r=>
      obtain⟨rfl,h',tk,rfl,z,kp⟩:=hr2
      repeat (any_goals (first | assumption | wp_step))
      exact h _ _ z kp
     | _=>exact hr2.elim
  | _=>exact hr.elim
end
theorem Fq:Slot "set_iterator" "__next__" "set_iterator.__next__":=.of (owner:="set_iterator") (n:="__next__") (by rw[typeLookup_type,builtinLookup_eq_fast];kernel_rfl) (by trivial) (by trivial) (by trivial) (by first | exact .inl (by trivial) | exact .inr (by trivial)) (by rw[Qcb];kernel_rfl)
theorem Le:entryFor table "set_iterator.__next__"=some Builtin.«set_iterator.__next__»:=entryFor_of_tree (by kernel_rfl)
theorem ZG:Manifest.owners.lookup (String.ofList ("set_iterator".toList.reverse).reverse)=some Manifest.sig_set_iterator:=by kernel_rfl
theorem NQ (a:Value):argsOk "set_iterator.__next__" ⟨[a],[]⟩:=by
 unfold argsOk;rw[signature?_of (id:="set_iterator.__next__") (n:=("__next__".toList.reverse)) (o:=("set_iterator".toList.reverse)) (by kernel_rfl) ZG]
 kernel_rfl
theorem cQ:entryFor table "set.__iter__"=some Builtin.«frozenset.__iter__»:=entryFor_alias (id':="frozenset.__iter__") (by kernel_rfl) rfl (by trivial) (by kernel_rfl)
theorem LQ {α : Type}:∀{xs:List α} {i:Nat} (h:i < xs.length),(xs[i]::xs.eraseIdx i).Perm xs
 | x::xs,0,_=>List.Perm.refl _
 | x::xs,i+1,h=>(List.Perm.swap _ _ _).trans (List.Perm.cons _ (LQ (xs:=xs) (i:=i) (Nat.lt_of_succ_lt_succ h)))
section
variable {prog:Program} {w:World} {A:Around} {E:YA} {s:Shared}
theorem Zo {src:Source} {n:Nat} {Q:Nat->Shared->Prop} (hn:n≠0) (h:∀i,i < n->Q i { s with drawn:=s.drawn.bump src }):wpAny (model prog w) A (choose src n) Q E s:=fun Γ p hΓ=>by
 show n≠0/\_;exact⟨hn,h _ (Nat.mod_lt _ (Nat.pos_of_ne_zero hn))⟩
theorem Mu {α : Type}:∀(n:Nat) (xs:List α) (s:Shared) {Q:List α->Shared->Prop},xs.length=n->(∀ys d',ys.Perm xs->Q ys { s with drawn:=d' })->wpAny (model prog w) A (drawOrder n xs) Q E s
 | 0,[],s,Q,_,h=>Qcy (by
   have:=h [] s.drawn (List.Perm.refl _);obtain⟨_,_,_,_,_⟩:=s;exact this)
 | 0,_::_,s,Q,e,h=>by cases e
 | n+1,[],s,Q,e,h=>by cases e
 | n+1,x::xs,s,Q,e,h=>by
  unfold drawOrder;refine Qcx (Zo (by simp) λi hi=>?_);rw[Qam hi];dsimp only;refine Qcx (Mu n ((x::xs).eraseIdx i) _ (by rw[List.length_eraseIdx_of_lt hi];simpa using e) λys d' pm=>Qcy ?_);exact h _ d' (((List.Perm.cons _ pm)).trans (LQ hi))
theorem IK {α : Type} (nx:Nat->Nat):∀(f k:Nat) (xs:List α) (out:Array α),xs.length=f->(pickOrder.go nx f k xs out).toList.Perm (out.toList++xs)
 | 0,k,[],out,_=>by
  show out.toList.Perm _;rw[QbI]
 | 0,k,_::_,out,e=>by cases e
 | f+1,k,[],out,e=>by cases e
 | f+1,k,x::xs,out,e=>by
  have hi:nx k % (x::xs).length < (x::xs).length:=Nat.mod_lt _ (by simp);unfold pickOrder.go;rw[Qam hi];dsimp only;refine (IK nx f (k+1) _ _ (by rw[List.length_eraseIdx_of_lt hi];simpa using e)).trans ?_;rw[Array.toList_push,Qbe];exact List.Perm.append_left _ (LQ hi)
def Ge (b:Bool) (h:Heap) (a:Addr) (es:Array (Int×Value)) (ep:Nat) (t:SetTable):Prop:=∃ob,h.get? a=some ob/\ob.ExactSet/\ob.data=.set es ep t/\t.fits es.size=true/\TOk b t
theorem Ge.at {b:Bool} {h h':Heap} {a:Addr} {es:Array (Int×Value)} {ep:Nat} {t:SetTable} (z:Ge b h a es ep t) (k:∀o,h.get? a=some o->h'.get? a=some o):Ge b h' a es ep t:=let ⟨ob,g1,g2⟩:=z;⟨ob,k _ g1,g2⟩
def G7 (h:Heap) (it a:Addr) (first:Value) (i n ep:Nat):Prop:=∃o,h.get? it=some o/\o.cls=.type "set_iterator"/\o.data=.fields #[first,rawInt i,.ref a,rawInt n,rawInt ep]
theorem fD {r:Addr} {Q:Bool->Shared->Prop} (hT:s.TypeIs (.ref r) "set") (h:Q false s):wpAny (model prog w) A (Builtin.List.listLengthHint (.ref r)) Q E s:=by
 unfold Builtin.List.listLengthHint;refine Qcx (wpAny_specialOf hT PySem.F.slot_set_len.lookup ?_);generalize hid:("set.__len__":String)=q
 wp_delta
 rw[show splitId q=some ("set","__len__") by subst hid;decide +kernel];subst hid;refine Qcx (wpAny_isInstance (T:="set") (b:=true) hT (by rw[Qcb];kernel_rfl) ?_);refine wpAny_ite_split (λz=>absurd z (by decide)) λ_=>?_;exact wpAny_ite_split (λ_=>Qcx (wpAny_typeOf hT (Qcy h))) λz=>absurd (by trivial) z
theorem eY {b:Bool} {a:Addr} {es:Array (Int×Value)} {ep:Nat} {t:SetTable} {Q:YA} (R:Ge b s.heap a es ep t) (eb:b=!w.params.followText "set-order") (hsz:es.size < scanBound)
  (q1:(b=true->t.plain=true\/es.size<=1)->Q (.ref s.heap.objs.size) { s with heap:=s.heap.push { cls:=.type "set_iterator",data:=.fields #[rawInt 0,rawInt 0,.ref a,rawInt es.size,rawInt ep] } })
  (q2:∀(is:List Nat) d',b=true->is.Perm (List.range es.size)->Q (.ref (s.heap.objs.size+1)) { s with heap:=(s.heap.push { cls:=.type "tuple",data:=.seq (is.map λi:Nat=>rawInt (i:Int)).toArray }).push { cls:=.type "set_iterator",data:=.fields #[.ref s.heap.objs.size,rawInt 0,.ref a,rawInt es.size,rawInt ep] },drawn:=d' }):wpAny (model prog w) A (pyIter (.ref a)) Q E s:=by
 obtain⟨ob,g1,g2,g3,g4,g5⟩:=R;have T:s.TypeIs (.ref a) "set":=⟨ob,g1,g2.1⟩;refine wpAny_pyIter_slot T PySem.F.slot_set_iter (QbA PySem.F.slot_set_iter T cQ ?_ (PySem.F.args_set_iter_1 _));have dr:setDrawn a=(do let (x,_,y) <-setState a;let c <-setsByText;return !c&&(!y.plain&&decide (x.size > 1))):=rfl
 have fin:∀(first:Value) (s1:Shared),Ge b s1.heap a es ep t->Q (.ref s1.heap.objs.size) { s1 with heap:=s1.heap.push { cls:=.type "set_iterator",data:=.fields #[first,rawInt 0,.ref a,rawInt es.size,rawInt ep] } } ->
   wpAny (model prog w) A.in1 (do let e <-setEpoch a;let v <-newFields "set_iterator" [first,rawInt 0,.ref a,rawInt (es.size:Int),rawInt (e:Int)];ret v)
    (λfin s'=>∃v,fin=Fin.done (Flow.ret v)/\∃T' r,s'.TypeIs v T'/\typeLookup (Value.type T') (Str.ofString "__next__")=pure (some r)/\Q v s') E s1:=λfirst s1 R1 hq=>by
  obtain⟨o1,k1,k2,k3,k4,k5⟩:=R1;refine Qcx (wpAny_setEpoch_of k1 k3 k4 ?_);unfold newFields
  wp_walk
  exact⟨_,rq,"set_iterator",_,⟨_,QaI _ rfl,rq⟩,Fq.lookup,hq⟩
 show wpAny _ _ (Builtin.Frozenset.slot0 "__iter__" _ >>= _) _ _ _;have sl:Builtin.Frozenset.slot0 "__iter__" { pos:=[Value.ref a] }=pure a:=by
  unfold Builtin.Frozenset.slot0;rfl
 rw[sl];refine Qcx (Qcy ?_);dsimp only;unfold Builtin.Frozenset.sizeOf;refine Qcx (Qcx (wpAny_setEntries_of g1 g3 g4 (Qcy ?_)));rw[dr];refine Qcx (Qcx (Qbj g1 g3 g4 ?_));dsimp only;unfold setsByText;refine Qcx (Qcx (QbE (Qcy ?_)));refine Qcy ?_;have em:(model prog w).w.params.followText "set-order"=!b:=by rw[eb,Bool.not_not];rfl
 show wpAny _ _ (if (!(model prog w).w.params.followText "set-order"&&(!t.plain&&decide (es.size > 1)))=true then _ else _) _ _ _
 rw[em,Bool.not_not];by_cases c:(b&&(!t.plain&&decide (es.size > 1)))=true
 ·rw[if_pos c];rw[Qbx] at c;refine Qcx (Mu _ _ _ (Qbn) λis d' pm=>?_);refine Qcx (wpAny_newTuple ?_ ?_)
  ·refine fin _ _ ⟨ob,Qat _ g1,g2,g3,g4,g5⟩ ?_;have:=q2 is d' c.1 pm;rw[show (s.heap.push { cls:=.type "tuple",data:=.seq (is.map λi:Nat=>rawInt (i:Int)).toArray }).objs.size=s.heap.objs.size+1 from QbY ..]
   exact this
  ·first | (simp only[QbF,pm.length_eq,Qbn];exact fits_of_scanBound hsz) | trace_state
 ·rw[if_neg c];refine Qcx (Qcy (fin _ _ ⟨ob,g1,g2,g3,g4,g5⟩ (q1 λhb=>?_)));rw[hb,Bool.true_and,Qbx,Bool.not_eq_true',QaV] at c;cases hp:t.plain with
  | true=>exact .inl rfl
  | false=>exact .inr (by by_cases z:es.size > 1;exact absurd ⟨hp,z⟩ c;omega)
theorem Vq {it a:Addr} {b:Bool} {es:Array (Int×Value)} {i ep:Nat} {sl:Nat} {t:SetTable} {Q:Option Value->Shared->Prop} {x:Value} {nx:Nat} (K:G7 s.heap it a (rawInt sl) i es.size ep) (R:Ge b s.heap a es ep t)
  (hx:∀(A:Around) (E:YA) (Z:Option (Value×Nat)->Shared->Prop),Z (some (x,nx)) s->wpAny (model prog w) A (setNext a sl i ep) Z E s)
  (q:∀h',G7 h' it a (rawInt nx) (i+1) es.size ep->Heap.SameBut it s.heap h'->Q (some x) { s with heap:=h' }):wpAny (model prog w) A (pyNext (.ref it)) Q E s:=by
 obtain⟨oi,hoi,ci,di⟩:=K;obtain⟨ob,g1,g2,g3,g4,g5⟩:=R;have T:s.TypeIs (.ref it) "set_iterator":=⟨_,hoi,ci⟩;obtain⟨fB,Y0,Y4,VF⟩:=oi;dsimp only at ci di;subst ci di;unfold pyNext;refine Qcx (Qcj (Qaq (name:=Str.ofString "__next__") T Fq (QbA Fq T Le ?_ (NQ _))));have e1:typeName (.type "set_iterator")=pure "set_iterator":=by unfold typeName;rw[find?_eq_fast];kernel_rfl
 unfold Builtin.«set_iterator.__next__»;generalize eSE:setEntries=SE;generalize eSN:setNext=SN at hx ⊢
 wp_walk
 subst eSE;refine Qcx (Qbj g1 g3 g4 ?_);refine Qcy ?_;dsimp only [rawInt];simp only[Qbs,QaX,QcD,Qbi];refine Qcx (hx _ _ _ ?_)
 wp_walk
 have h1:=Qaz (Obj.mapFields λx=>x.setIfInBounds 0 (Value.int (nx:Int) 0)) hoi rfl;have h2:=Qaz (Obj.mapFields λx=>x.setIfInBounds 1 (Value.int ((i:Int)+1) 0)) h1 rfl;exact⟨_,rq,Qcy (q _ ⟨_,h2,rq,rq⟩ ((QaK ..).trans (QaK ..)))⟩
theorem Xw {it a:Addr} {b:Bool} {es:Array (Int×Value)} {i ep:Nat} {sl:Nat} {t:SetTable} {Q:Option Value->Shared->Prop} (hh:A.handled=none) (K:G7 s.heap it a (rawInt sl) i es.size ep) (R:Ge b s.heap a es ep t)
  (hx:∀(A:Around) (E:YA) (Z:Option (Value×Nat)->Shared->Prop),Z none s->wpAny (model prog w) A (setNext a sl i ep) Z E s)
  (q:∀h',Heap.ExtBut it s.heap h'->Q none { s with heap:=h' }):wpAny (model prog w) A (pyNext (.ref it)) Q E s:=by
 obtain⟨oi,hoi,ci,di⟩:=K;obtain⟨ob,g1,g2,g3,g4,g5⟩:=R;have T:s.TypeIs (.ref it) "set_iterator":=⟨_,hoi,ci⟩;obtain⟨fB,Y0,Y4,VF⟩:=oi;dsimp only at ci di;subst ci di;unfold pyNext;refine Qcx (Qcj (Qaq (name:=Str.ofString "__next__") T Fq (QbA Fq T Le ?_ (NQ _))));have e1:typeName (.type "set_iterator")=pure "set_iterator":=by unfold typeName;rw[find?_eq_fast];kernel_rfl
 have hh1:A.in1.handled=none:=hh;unfold Builtin.«set_iterator.__next__»;generalize eSE:setEntries=SE;generalize eSN:setNext=SN at hx ⊢
 wp_walk
 subst eSE;refine Qcx (Qbj g1 g3 g4 ?_);refine Qcy ?_;dsimp only [rawInt];simp only[Qbs,QaX,QcD,Qbi];refine Qcx (hx _ _ _ ?_)
 wp_walk
 unfold raiseNew
 wp_walk
 refine wpAny_of_eq isSubtype_stop ?_
 wp_walk
 exact q _ (((QaK ..).extBut.push _).push _)
theorem d9 {it a tp:Addr} {b:Bool} {es:Array (Int×Value)} {i ep:Nat} {t:SetTable} {Q:Option Value->Shared->Prop} {is:List Nat} {pl:Nat} {e:Int×Value} (K:G7 s.heap it a (.ref tp) i es.size ep) (ht:s.heap.IsTuple tp (is.map λi:Nat=>rawInt (i:Int)).toArray) (R:Ge b s.heap a es ep t) (hi:is[i]?=some pl) (he:es[pl]?=some e)
  (q:∀h',G7 h' it a (.ref tp) (i+1) es.size ep->Heap.SameBut it s.heap h'->Q (some e.2) { s with heap:=h' }):wpAny (model prog w) A (pyNext (.ref it)) Q E s:=by
 obtain⟨oi,hoi,ci,di⟩:=K;obtain⟨ob,g1,g2,g3,g4,g5⟩:=R;have T:s.TypeIs (.ref it) "set_iterator":=⟨_,hoi,ci⟩;obtain⟨fB,Y0,Y4,VF⟩:=oi;dsimp only at ci di;subst ci di;obtain⟨ot,hot,cot,nt,dot⟩:=ht;obtain⟨pq,nj,nq,jJ⟩:=ot;dsimp only at cot dot;subst cot dot;unfold pyNext;refine Qcx (Qcj (Qaq (name:=Str.ofString "__next__") T Fq (QbA Fq T Le ?_ (NQ _))));have e1:typeName (.type "set_iterator")=pure "set_iterator":=by unfold typeName;rw[find?_eq_fast];kernel_rfl
 unfold Builtin.«set_iterator.__next__»;generalize eSE:setEntries=SE;generalize eSN:setNextDrawn=SN
 wp_walk
 subst eSE;refine Qcx (Qbj g1 g3 g4 ?_);refine Qcy ?_;dsimp only [rawInt];simp only[Qbs,QaX,QcD,Qbi];have hpl:((is.map λi:Nat=>rawInt (i:Int)).toArray)[i]?=some (.int (pl:Int) 0):=by
  rw[List.getElem?_toArray,Qbf,hi];rfl
 wp_walk
 simp only[hpl];subst eSN;unfold setNextDrawn;refine Qcx (Qcx (Qbj g1 g3 g4 ?_));dsimp only;simp only[Qbs,QaX,QcD,Qbi,he]
 wp_walk
 have h1:=Qaz (Obj.mapFields λx=>x.setIfInBounds 1 (Value.int ((i:Int)+1) 0)) hoi rfl;exact⟨_,rq,Qcy (q _ ⟨_,h1,rq,rq⟩ (QaK ..))⟩
theorem ju {it a tp:Addr} {b:Bool} {es:Array (Int×Value)} {i ep:Nat} {t:SetTable} {Q:Option Value->Shared->Prop} {is:List Nat} (hh:A.handled=none) (K:G7 s.heap it a (.ref tp) i es.size ep) (ht:s.heap.IsTuple tp (is.map λi:Nat=>rawInt (i:Int)).toArray) (R:Ge b s.heap a es ep t) (hi:is[i]?=none)
  (q:∀h',Heap.ExtBut it s.heap h'->Q none { s with heap:=h' }):wpAny (model prog w) A (pyNext (.ref it)) Q E s:=by
 obtain⟨oi,hoi,ci,di⟩:=K;obtain⟨ob,g1,g2,g3,g4,g5⟩:=R;have T:s.TypeIs (.ref it) "set_iterator":=⟨_,hoi,ci⟩;obtain⟨fB,Y0,Y4,VF⟩:=oi;dsimp only at ci di;subst ci di;obtain⟨ot,hot,cot,nt,dot⟩:=ht;obtain⟨pq,nj,nq,jJ⟩:=ot;dsimp only at cot dot;subst cot dot;unfold pyNext;refine Qcx (Qcj (Qaq (name:=Str.ofString "__next__") T Fq (QbA Fq T Le ?_ (NQ _))));have e1:typeName (.type "set_iterator")=pure "set_iterator":=by unfold typeName;rw[find?_eq_fast];kernel_rfl
 have hh1:A.in1.handled=none:=hh;unfold Builtin.«set_iterator.__next__»;generalize eSE:setEntries=SE;generalize eSN:setNextDrawn=SN
 wp_walk
 subst eSE;refine Qcx (Qbj g1 g3 g4 ?_);refine Qcy ?_;dsimp only [rawInt];simp only[Qbs,QaX,QcD,Qbi];have hpl:((is.map λi:Nat=>rawInt (i:Int)).toArray)[i]?=none:=by
  rw[List.getElem?_toArray,Qbf,hi];rfl
 wp_walk
 simp only[hpl]
 wp_walk
 unfold raiseNew
 wp_walk
 refine wpAny_of_eq isSubtype_stop ?_
 wp_walk
 exact q _ ((((QaK ..).trans (QaK ..)).extBut.push _).push _)
end
theorem Uz:Slot "set_iterator" "__iter__" "set_iterator.__iter__":=.of (owner:="set_iterator") (n:="__iter__") (by rw[typeLookup_type,builtinLookup_eq_fast];kernel_rfl) (by trivial) (by trivial) (by trivial) (by first | exact .inl (by trivial) | exact .inr (by trivial)) (by rw[Qcb];kernel_rfl)
theorem ZJ:entryFor table "set_iterator.__iter__"=some Builtin.«dict_keyiterator.__iter__»:=entryFor_alias (id':="dict_keyiterator.__iter__") (by kernel_rfl) rfl (by trivial) (by kernel_rfl)
theorem cX (a:Value):argsOk "set_iterator.__iter__" ⟨[a],[]⟩:=by
 unfold argsOk;rw[signature?_of (id:="set_iterator.__iter__") (n:=("__iter__".toList.reverse)) (o:=("set_iterator".toList.reverse)) (by kernel_rfl) ZG]
 kernel_rfl
section
variable {prog:Program} {w:World} {A:Around} {E:YA} {s:Shared}
theorem Xh {a:Addr} {es:Array (Int×Value)} {i ep sl:Nat} {t:SetTable} {Z:Option (Value×Nat)->Shared->Prop} (R:Ge false s.heap a es ep t) (eb:w.params.followText "set-order"=true)
  (h:Z (((pickOrder (w.params.setOrder a ep) es)[i]?).map λe=>(e.2,sl)) s):wpAny (model prog w) A (setNext a sl i ep) Z E s:=by
 obtain⟨ob,g1,g2,g3,g4,g5⟩:=R;unfold setNext;refine Qcx (Qbj g1 g3 g4 ?_);dsimp only;unfold setsByText;refine Qcx (Qcx (QbE (Qcy ?_)));show wpAny _ _ (if w.params.followText "set-order"=true then _ else _) _ _ _
 rw[if_pos eb];simp only[Qbs,QaX,QcD];unfold setWalk;refine Qcx (Qcx (Qbj g1 g3 g4 ?_));dsimp only;unfold setsByText;refine Qcx (Qcx (QbE (Qcy ?_)));show wpAny _ _ (if w.params.followText "set-order"=true then _ else _) _ _ _
 rw[if_pos eb];refine Qcx (QbE (Qcy ?_));exact Qcy h
theorem Ux {a:Addr} {es:Array (Int×Value)} {i ep sl:Nat} {t:SetTable} {Z:Option (Value×Nat)->Shared->Prop} (R:Ge true s.heap a es ep t) (eb:w.params.followText "set-order"=false) (pl:t.plain=true\/es.size<=1)
  (h:Z (match es[SetTable.below t.place sl]?,t.place[SetTable.below t.place sl]? with | some (_,x),some j=>some (x,j+1) | _,_=>none) s):wpAny (model prog w) A (setNext a sl i ep) Z E s:=by
 obtain⟨ob,g1,g2,g3,g4,g5⟩:=R;unfold setNext;refine Qcx (Qbj g1 g3 g4 ?_);dsimp only;unfold setsByText;refine Qcx (Qcx (QbE (Qcy ?_)));show wpAny _ _ (if w.params.followText "set-order"=true then _ else _) _ _ _
 rw[if_neg (by rw[eb];decide)];split
 ·rename_i hd;have hd:(!t.plain&&decide (es.size > 1))=true:=hd;rw[Qbx,Bool.not_eq_true',QaV] at hd;rcases pl with q | q
  ·rw[q] at hd;cases hd.1
  ·omega
 ·show wpAny _ _ ((if (!t.led&&!es.isEmpty)=true then unsupported _ else pure ()) >>= _) _ _ _
  rw[g5.1];simp only[Bool.not_true,Bool.false_and,QaX,QcD];refine Qcx (Qcy ?_);exact Qcy h
theorem up_place {t:SetTable} {es:Array (Int×Value)} (g4:t.fits es.size=true) (g5:TOk true t) (pl:t.plain=true\/es.size<=1):t.place.size=es.size/\t.place.toList.Pairwise (· < ·):=by
 simp only[SetTable.fits,Qbx,beq_iff_eq,Qbq] at g4;refine⟨g4.1,?_⟩;rcases pl with q | q
 ·exact g5.2.2 q
 ·have:t.place.toList.length<=1:=by rw[QaJ];omega
  match h:t.place.toList,this with
  | [],_=>exact .nil
  | [x],_=>exact List.pairwise_singleton _ _
def KZ (t:SetTable):Nat->Nat
 | 0=>0
 | i+1=>t.place.getD i 0+1
theorem QK {t:SetTable} (up:t.place.toList.Pairwise (· < ·)) {i:Nat} (hi:i<=t.place.size):SetTable.below t.place (KZ t i)=i:=by
 obtain⟨h1,h2,h3⟩:=below_at (j:=KZ t i) up;have lt:∀(x y:Nat) (u v:Nat),t.place[x]?=some u->t.place[y]?=some v->x < y->u < v:=λx y u v ex ey l=>by
  rw[<-Qay] at ex ey;obtain⟨a1,a2⟩:=Qaf.mp ex;obtain⟨b1,b2⟩:=Qaf.mp ey;rw[<-a2,<-b2];exact Qai.mp up x y a1 b1 l
 generalize hr:SetTable.below t.place (KZ t i)=r at *
 match i,hi with
 | 0,_=>
  by_cases c:r=0
  ·exact c
  ·have l0:0 < t.place.size:=by omega
   have:=h2 0 _ (Qag l0) (by omega);exact absurd this (QbO _)
 | i+1,hi=>
  have li:i < t.place.size:=by omega
  have ei:t.place[i]?=some t.place[i]:=Qag li;have eg:t.place.getD i 0=t.place[i]:=by simp[Array.getD,li]
  have es:KZ t (i+1)=t.place[i]+1:=by show t.place.getD i 0+1=_;rw[eg]
  rw[es] at h2 h3;by_cases c1:r<=i
  ·have:=h3 i _ ei c1;omega
  ·by_cases c2:i+1 < r
   ·have l2:i+1 < t.place.size:=by omega
    have e2:t.place[i+1]?=some t.place[i+1]:=Qag l2;have a:=h2 (i+1) _ e2 c2;have b:=lt i (i+1) _ _ ei e2 (QbB _);omega
   ·omega
theorem MN {it a:Addr} {first:Value} {i n ep:Nat} {Q:YA} (K:G7 s.heap it a first i n ep) (q:Q (.ref it) s):wpAny (model prog w) A (pyIter (.ref it)) Q E s:=by
 obtain⟨oi,hoi,ci,di⟩:=K;have T:s.TypeIs (.ref it) "set_iterator":=⟨_,hoi,ci⟩;refine wpAny_pyIter_slot T Uz (QbA Uz T ZJ ?_ (cX _));show wpAny _ _ (ret (.ref it)) _ _ s;exact Qcy ⟨_,rq,"set_iterator",_,T,Fq.lookup,q⟩
theorem G7.at {h h':Heap} {it a:Addr} {first:Value} {i n ep:Nat} (x:G7 h it a first i n ep) (e:∀o,h.get? it=some o->h'.get? it=some o):G7 h' it a first i n ep:=let ⟨o,ho,r⟩:=x;⟨o,e _ ho,r⟩
theorem Zq (hh:A.handled=none) (it a:Addr) (ne:a≠it) (es:Array (Int×Value)) (ep:Nat) (t:SetTable) (eb:w.params.followText "set-order"=true) :
  Walks prog w A it [it,a] [it] es.size (λi v=>∃e,(pickOrder (w.params.setOrder a ep) es)[i]?=some e/\v=e.2) (λi h=>G7 h it a (rawInt (0:Nat)) i es.size ep/\Ge false h a es ep t) where
 sub:=λb hb=>by simp at hb;simp[hb]
 frame:=λ_ _ _ st hk=>⟨st.1.at λo e=>hk it (by simp) o e,st.2.at λo e=>hk a (by simp) o e⟩
 item:=λi s Q E hi st hQ=>by
  have sz:(pickOrder (w.params.setOrder a ep) es).size=es.size:=by
   have:=(IK (w.params.setOrder a ep) es.size 0 es.toList #[] (QaJ ..)).length_eq;rw[QaJ] at this;exact this.trans (by simp)
  have hx:(pickOrder (w.params.setOrder a ep) es)[i]?=some ((pickOrder (w.params.setOrder a ep) es)[i]'(by omega)):=Qag (by omega);refine Vq (nx:=0) (x:=((pickOrder (w.params.setOrder a ep) es)[i]'(by omega)).2) st.1 st.2 (λA E Z hz=>Xh st.2 eb (by rw[hx];exact hz)) λh' k sb=>?_;exact hQ _ h' s.toks ⟨_,hx,rq⟩ ⟨k,st.2.at λo e=>by rw[sb.2 a ne];exact e⟩ λc o hc e=>by rw[sb.2 c (λz=>hc (by simp[z]))];exact e
 done:=λs Q E st hQ=>by
  have sz:(pickOrder (w.params.setOrder a ep) es).size=es.size:=by
   have:=(IK (w.params.setOrder a ep) es.size 0 es.toList #[] (QaJ ..)).length_eq;rw[QaJ] at this;exact this.trans (by simp)
  have hx:(pickOrder (w.params.setOrder a ep) es)[es.size]?=none:=Array.getElem?_eq_none (by omega);exact Xw hh st.1 st.2 (λA E Z hz=>Xh st.2 eb (by rw[hx];exact hz)) λh' x=>hQ h' s.toks λc o hc e=>x c o (λz=>hc (by simp[z])) e
 self:=λ_ _ _ _ st hQ=>MN st.1 hQ
theorem XQ (hh:A.handled=none) (it a:Addr) (ne:a≠it) (es:Array (Int×Value)) (ep:Nat) (t:SetTable) (eb:w.params.followText "set-order"=false) (pl:t.plain=true\/es.size<=1) (ft:t.fits es.size=true) (tk:TOk true t) :
  Walks prog w A it [it,a] [it] es.size (λi v=>∃e,es[i]?=some e/\v=e.2) (λi h=>G7 h it a (rawInt (KZ t i:Nat)) i es.size ep/\Ge true h a es ep t) where
 sub:=λb hb=>by simp at hb;simp[hb]
 frame:=λ_ _ _ st hk=>⟨st.1.at λo e=>hk it (by simp) o e,st.2.at λo e=>hk a (by simp) o e⟩
 item:=λi s Q E hi st hQ=>by
  obtain⟨sz,up⟩:=up_place ft tk pl;have hx:es[i]?=some es[i]:=Qag hi;have li:i < t.place.size:=by omega
  have hp:t.place[i]?=some (t.place.getD i 0):=by rw[Qag li];simp[Array.getD,li]
  refine Vq (nx:=KZ t (i+1)) (x:=es[i].2) st.1 st.2 (λA E Z hz=>Ux st.2 eb pl (by rw[QK up (by omega),hx,hp];exact hz)) λh' k sb=>?_;exact hQ _ h' s.toks ⟨_,hx,rq⟩ ⟨k,st.2.at λo e=>by rw[sb.2 a ne];exact e⟩ λc o hc e=>by rw[sb.2 c (λz=>hc (by simp[z]))];exact e
 done:=λs Q E st hQ=>by
  obtain⟨sz,up⟩:=up_place ft tk pl;have hx:es[es.size]?=none:=Array.getElem?_eq_none (Qcr _);exact Xw hh st.1 st.2 (λA E Z hz=>Ux st.2 eb pl (by rw[QK up (by omega),hx];exact hz)) λh' x=>hQ h' s.toks λc o hc e=>x c o (λz=>hc (by simp[z])) e
 self:=λ_ _ _ _ st hQ=>MN st.1 hQ
theorem XR (hh:A.handled=none) (it a tp:Addr) (ne:a≠it) (nt:tp≠it) (es:Array (Int×Value)) (ep:Nat) (t:SetTable) (is:List Nat) (pm:is.Perm (List.range es.size)) :
  Walks prog w A it [it,a,tp] [it] es.size (λi v=>∃pl e,is[i]?=some pl/\es[pl]?=some e/\v=e.2) (λi h=>G7 h it a (.ref tp) i es.size ep/\Ge true h a es ep t/\h.IsTuple tp (is.map λi:Nat=>rawInt (i:Int)).toArray) where
 sub:=λb hb=>by simp at hb;simp[hb]
 frame:=λ_ _ _ st hk=>⟨st.1.at λo e=>hk it (by simp) o e,st.2.1.at λo e=>hk a (by simp) o e,let ⟨o,ho,r⟩:=st.2.2;⟨o,hk tp (by simp) o ho,r⟩⟩
 item:=λi s Q E hi st hQ=>by
  have hl:is.length=es.size:=by rw[pm.length_eq,Qbn]
  have li:i < is.length:=by omega
  have hp:is[i]?=some is[i]:=Qam li;have lp:is[i] < es.size:=List.mem_range.mp (pm.mem_iff.mp (List.getElem_mem li));have hx:es[is[i]]?=some es[is[i]]:=Qag lp;refine d9 st.1 st.2.2 st.2.1 hp hx λh' k sb=>?_;have kp:∀c o,c≠it->s.heap.get? c=some o->h'.get? c=some o:=λc o n e=>by rw[sb.2 c n];exact e
  exact hQ _ h' s.toks ⟨_,_,hp,hx,rq⟩ ⟨k,st.2.1.at λo e=>kp a o ne e,let ⟨o,ho,r⟩:=st.2.2;⟨o,kp tp o nt ho,r⟩⟩ λc o hc e=>kp c o (λz=>hc (by simp[z])) e
 done:=λs Q E st hQ=>by
  have hl:is.length=es.size:=by rw[pm.length_eq,Qbn]
  exact ju hh st.1 st.2.2 st.2.1 (List.getElem?_eq_none (by omega)) λh' x=>hQ h' s.toks λc o hc e=>x c o (λz=>hc (by simp[z])) e
 self:=λ_ _ _ _ st hQ=>MN st.1 hQ
end
section
variable {prog:Program} {w:World} {A:Around} {E:YA} {s:Shared}
theorem take_all {R:Result->Shared->Prop} {S a I:Addr} {fp:List Addr} {n c0:Nat} {P:Nat->Value->Prop} {St:Nat->Heap->Prop} {res:Value} {tt:Bool} (hT:s.TypeIs (.ref a) "set") (hS:s.heap.get? S=some { cls:=.type "list",data:=.seq #[] c0 }) (nS:S∉fp) (Wk:Walks prog w A.in1 I fp [I] n P St) (st:St 0 s.heap) (hn:n<=sizeLine)
  (fin:∀h' tk us c,(∀b o,b≠S->b≠I->s.heap.get? b=some o->h'.get? b=some o)->h'.get? S=some { cls:=.type "list",dict:=none,data:=.seq us c,slots:=#[] }->ItemsOf P us n->R (.ok (.ret res)) { s with heap:=h',toks:=tk }) :
  wpAny (model prog w) A.in1 (do
    let room <-holding [.ref I] (Builtin.List.listLengthHint (.ref a))
    if (room || tt)=true then do
     rule "list.extend.makes-room"
     Builtin.List.listTouch (.ref S)
     again (.builtin "list.extend.loop" ⟨[.ref S,.ref I,res],[]⟩)
    else again (.builtin "list.extend.loop" ⟨[.ref S,.ref I,res],[]⟩))
   (λfin s'=>match fin with | .done f=>R (.ok f) s' | .again c'=>c'.quiet=true/\codeAny (model prog w) A c' R s') (λe s'=>R (.error e) s') s:=by
 have key:∀(h:Heap) (c1:Nat),St 0 h->(∀b o,b≠S->s.heap.get? b=some o->h.get? b=some o)->h.get? S=some { cls:=.type "list",data:=.seq #[] c1 } ->
   codeAny (model prog w) A (.builtin "list.extend.loop" ⟨[.ref S,.ref I,res],[]⟩) R { s with heap:=h }:=λh c1 st1 kp hS1=>by
  refine codeAny_extend_loopS Wk.toS hn S nS res n 0 _ #[] c1 rfl (Qcs _) st1 hS1 (ItemsOf.nil _) λs2 us c mv hS2 itm=>?_;rw[Moved.eq_with mv];exact fin s2.heap s2.toks us c (λb o nb nI e=>mv.heap b o (by simp[nb,nI]) (kp b o nb e)) hS2 itm
 refine Qcx (Qcf (fD hT ?_));refine wpAny_ite_split (λ_=>?_) (λ_=>Qcy ⟨plainId_quiet PySem.F.plain_extend_loop _,key s.heap c0 st (λ_ _ _ e=>e) hS⟩);refine Qcx (QcA ?_);refine Qcx ?_;show wpAny _ _ (updateSeq S (·.push .none) >>= λ_=>updateSeq S (·.pop)) _ _ _;refine Qcx (wpAny_updateSeq hS rfl ?_);have hS2:=Qaz (Obj.mapSeq (·.push Value.none)) hS rfl;refine wpAny_updateSeq (hz:=by seq_fits) hS2 rfl ?_;have hS3:=Qaz (Obj.mapSeq (·.pop)) hS2 rfl;have kp:∀b o,b≠S->s.heap.get? b=some o->((s.heap.update S (Obj.mapSeq (·.push Value.none))).update S (Obj.mapSeq (·.pop))).get? b=some o:=λb o nb e=>
  (Heap.get?_update_other _ _ (Ne.symm nb)).trans ((Heap.get?_update_other _ _ (Ne.symm nb)).trans e)
 exact Qcy ⟨plainId_quiet PySem.F.plain_extend_loop _,key _ _ (Wk.frame 0 _ _ st λb hb o e=>kp b o (λz=>nS (z ▸ hb)) e) kp hS3⟩
theorem Jv {α : Type} {f:α->Value}:∀{us:YE} {es:List α},us.length=es.length->(∀(j:Nat) (v:Value),us[j]?=some v->∃e,es[j]?=some e/\v=f e)->us=es.map f
 | [],[],_,_=>rfl
 | [],_::_,h,_=>by cases h
 | _::_,[],h,_=>by cases h
 | u::us,e::es,h,g=>by
  obtain⟨e',h1,h2⟩:=g 0 u rfl;cases h1;rw[Qce,h2,Jv (us:=us) (es:=es) (by simpa using h) λj v hj=>by simpa using g (j+1) v (by simpa using hj)]
theorem jt {R:Result->Shared->Prop} {b:Bool} {S a:Addr} {es:Array (Int×Value)} {ep c0:Nat} {t:SetTable} {res:Value} (hh:A.handled=none) (RS:Ge b s.heap a es ep t) (eb:b=!w.params.followText "set-order") (hsz:es.size < scanBound) (hS:s.heap.get? S=some { cls:=.type "list",data:=.seq #[] c0 }) (nSa:S≠a)
  (fin:∀h' tk d' us c,(∀b o,b≠S->s.heap.get? b=some o->h'.get? b=some o)->h'.get? S=some { cls:=.type "list",dict:=none,data:=.seq us c,slots:=#[] }->us.toList.Perm (es.toList.map (·.2))->R (.ok (.ret res)) { s with heap:=h',toks:=tk,drawn:=d' }) :
  wpAny (model prog w) A.in1 (Builtin.List.listExtendWith (.ref S) (.ref a) res) (λfin s'=>match fin with | .done f=>R (.ok f) s' | .again c'=>c'.quiet=true/\codeAny (model prog w) A c' R s') (λe s'=>R (.error e) s') s:=by
 have T0:s.TypeIs (.ref a) "set":=let ⟨ob,g1,g2,_⟩:=RS;⟨ob,g1,g2.1⟩;have la:a < s.heap.objs.size:=let ⟨_,g,_⟩:=RS;Qck g;have lS:S < s.heap.objs.size:=Qck hS;have hn:es.size<=sizeLine:=fits_of_scanBound hsz;unfold Builtin.List.listExtendWith;refine Qcx (wpAny_typeOf (T:="set") T0 ?_);have n1:Builtin.List.listSameRef (.ref S) (.ref a)=false:=by simp[Builtin.List.listSameRef,nSa]
 have n2:(Value.type "set" == Value.type "list")=false:=by decide
 have n3:(Value.type "set" == Value.type "tuple")=false:=by decide
 simp only[n1,n2,n3,Bool.or_false,QaX,QcD];refine Qcx (eY RS eb hsz (λpl=>?_) λis d' hb pm=>?_)
 ·generalize eo:({ cls:=.type "set_iterator",data:=.fields #[rawInt 0,rawInt 0,.ref a,rawInt es.size,rawInt ep] }:Obj)=oI;have hI:(s.heap.push oI).get? s.heap.objs.size=some oI:=QaI _ (by rw[<-eo];rfl);have kp:∀c o,s.heap.get? c=some o->(s.heap.push oI).get? c=some o:=λc o e=>Qat _ e;have T1:Shared.TypeIs { s with heap:=s.heap.push oI } (.ref a) "set":=let ⟨ob,g1,g2⟩:=T0;⟨ob,kp _ _ g1,g2⟩;have R1:=RS.at λo e=>kp a o e;have nI:a≠s.heap.objs.size:=Qcl la;have nS:S∉[s.heap.objs.size,a]:=by
   simp only[Qcc,Qbt,QcC,not_or];exact⟨Qcl lS,nSa⟩
  have si:∀k:Nat,k=0->G7 (s.heap.push oI) s.heap.objs.size a (rawInt (k:Nat)) 0 es.size ep:=λk hk=>⟨oI,hI,by rw[<-eo],by rw[<-eo,hk];rfl⟩;cases eb2:w.params.followText "set-order" with
  | true=>
   rw[eb2] at eb;subst eb;refine take_all T1 (kp _ _ hS) nS (Zq (A:=A.in1) (by simp[hh]) _ a nI es ep t eb2) ⟨si 0 rfl,R1⟩ hn λh' tk us c kk hS' itm=>?_;refine fin h' tk s.drawn us c (λc o nc e=>kk c o nc (Qcl (Qck e)) (kp _ _ e)) hS' ?_;have e1:us.toList=(pickOrder (w.params.setOrder a ep) es).toList.map (·.2):=by
    have sz:=(IK (w.params.setOrder a ep) es.size 0 es.toList #[] (QaJ ..)).length_eq;refine Jv (by rw[QaJ,itm.1];exact (sz.trans (by simp)).symm) λj v hj=>?_;rw[Qay] at hj;obtain⟨e,h1,h2⟩:=itm.2 j v hj;exact⟨e,by rw[Qay];exact h1,h2⟩
   rw[e1];exact ((IK (w.params.setOrder a ep) es.size 0 es.toList #[] (QaJ ..)).trans (by simp)).map _
  | false=>
   rw[eb2] at eb;subst eb;obtain⟨ob,g1,g2,g3,g4,g5⟩:=id RS;refine take_all T1 (kp _ _ hS) nS (XQ (A:=A.in1) (by simp[hh]) _ a nI es ep t eb2 (pl rfl) g4 g5) ⟨si _ rfl,R1⟩ hn λh' tk us c kk hS' itm=>?_;refine fin h' tk s.drawn us c (λc o nc e=>kk c o nc (Qcl (Qck e)) (kp _ _ e)) hS' ?_;have e1:us.toList=es.toList.map (·.2):=by
    refine Jv (by rw[QaJ,QaJ,itm.1]) λj v hj=>?_;rw[Qay] at hj;obtain⟨e,h1,h2⟩:=itm.2 j v hj;exact⟨e,by rw[Qay];exact h1,h2⟩
   rw[e1]
 ·subst hb;generalize eo1:({ cls:=.type "tuple",data:=.seq (is.map λi:Nat=>rawInt (i:Int)).toArray }:Obj)=oT;generalize eo:({ cls:=.type "set_iterator",data:=.fields #[.ref s.heap.objs.size,rawInt 0,.ref a,rawInt es.size,rawInt ep] }:Obj)=oI;have z1:(s.heap.push oT).objs.size=s.heap.objs.size+1:=QbY ..;have hT:(s.heap.push oT).get? s.heap.objs.size=some oT:=QaI _ (by rw[<-eo1];rfl);have hI:((s.heap.push oT).push oI).get? (s.heap.objs.size+1)=some oI:=by rw[<-z1];exact QaI _ (by rw[<-eo];rfl)
  have kp:∀c o,s.heap.get? c=some o->((s.heap.push oT).push oI).get? c=some o:=λc o e=>Qat _ (Qat _ e);have T1:Shared.TypeIs { s with heap:=(s.heap.push oT).push oI,drawn:=d' } (.ref a) "set":=let ⟨ob,g1,g2⟩:=T0;⟨ob,kp _ _ g1,g2⟩;have R1:=RS.at λo e=>kp a o e;have nI:a≠s.heap.objs.size+1:=Qcl (Qbl la);have nS:S∉[s.heap.objs.size+1,a,s.heap.objs.size]:=by
   simp only[Qcc,Qbt,QcC,not_or];exact⟨Qcl (Qbl lS),nSa,Qcl lS⟩
  have tup:((s.heap.push oT).push oI).IsTuple s.heap.objs.size (is.map λi:Nat=>rawInt (i:Int)).toArray:=⟨oT,Qat _ hT,by rw[<-eo1],0,by rw[<-eo1]⟩;have si:G7 ((s.heap.push oT).push oI) (s.heap.objs.size+1) a (.ref s.heap.objs.size) 0 es.size ep:=⟨oI,hI,by rw[<-eo],by rw[<-eo];rfl⟩;refine take_all (s:={ s with heap:=(s.heap.push oT).push oI,drawn:=d' }) T1 (kp _ _ hS) nS (XR (A:=A.in1) (by simp[hh]) _ a _ nI (Qcl (QbB _)) es ep t is pm) ⟨si,R1,tup⟩ hn λh' tk us c kk hS' itm=>?_;refine fin h' tk d' us c (λc o nc e=>kk c o nc (Qcl (Qbl (Qck e))) (kp _ _ e)) hS' ?_;have hl:is.length=es.size:=by rw[pm.length_eq,Qbn]
  have e1:us.toList=is.map λi=>(es.toList.map (·.2)).getD i .none:=by
   refine Jv (by rw[QaJ,itm.1,hl]) λj v hj=>?_;rw[Qay] at hj;obtain⟨p,e,h1,h2,h3⟩:=itm.2 j v hj;refine⟨p,h1,?_⟩;rw[h3,List.getD_eq_getElem?_getD,Qbf,Qay,h2];rfl
  rw[e1];have:=(pm.map λi=>(es.toList.map (·.2)).getD i Value.none);rw[show es.size=(es.toList.map (·.2)).length by rw[QbF,QaJ],range_getD] at this;exact this
theorem jx {b:Bool} {a:Addr} {es:Array (Int×Value)} {ep:Nat} {t:SetTable} {Rr:YE->Shared->Prop} (hh:A.handled=none) (RS:Ge b s.heap a es ep t) (eb:b=!w.params.followText "set-order") (hsz:es.size < scanBound)
  (h:∀h' tk d' (us:YE),(∀c o,s.heap.get? c=some o->h'.get? c=some o)->us.Perm (es.toList.map (·.2))->Rr us { s with heap:=h',toks:=tk,drawn:=d' }):wpAny (model prog w) A (collect (.ref a)) Rr E s:=by
 have hlt:a < s.heap.objs.size:=let ⟨_,g,_⟩:=RS;Qck g;unfold collect;refine Qcx (wpAny_runValue (QbR entry_proto_collect' ?_));rw[QaH PySem.F.plain_proto_collect _];show wpAny _ A.in1 (newList [] >>= λl=>again (.builtin "list.__iadd__" ⟨[l,.ref a],[]⟩)) _ _ s;refine Qcx (Qbk ?_);refine Qcy ⟨plainId_quiet PySem.F.plain_list_iadd _,QbR entry_list_iadd' ?_⟩;rw[QaH PySem.F.plain_list_iadd _];have k0:∀c o,s.heap.get? c=some o->(s.heap.push { cls:=.type "list",data:=.seq ([]:YE).toArray }).get? c=some o:=λc o e=>Qat _ e;have hS0:(s.heap.push { cls:=.type "list",data:=.seq ([]:YE).toArray }).get? s.heap.objs.size=some { cls:=.type "list",data:=.seq #[] }:=QaI _ rfl;show wpAny _ A.in1 (Builtin.List.listExtendWith (.ref s.heap.objs.size) (.ref a) (.ref s.heap.objs.size)) _ _ _;have key:=jt (prog:=prog) (A:=A) (s:={ s with heap:=s.heap.push { cls:=.type "list",data:=.seq ([]:YE).toArray } }) (res:=.ref s.heap.objs.size)
  (R:=λ(r:Result) (s':Shared)=>∃h' tk d' us c,r=.ok (.ret (.ref s.heap.objs.size))/\s'={ s with heap:=h',toks:=tk,drawn:=d' }/\(∀c o,s.heap.get? c=some o->h'.get? c=some o)/\h'.get? s.heap.objs.size=some { cls:=.type "list",dict:=none,data:=.seq us c,slots:=#[] }/\us.toList.Perm (es.toList.map (·.2)))
  hh (RS.at λo e=>k0 a o e) eb hsz hS0 (Qco hlt) λh' tk d' us c kk hS' pm=>⟨h',tk,d',us,c,rq,rq,λc o e=>kk c o (Qcl (Qck e)) (k0 _ _ e),hS',pm⟩
 refine Qcz key (λfin s' x=>?_) λe s' x=>?_
 ·cases fin with
  | done f=>
   obtain⟨h',tk,d',us,c,e,rfl,kk,hS',pm⟩:=x;cases e;show wpAny _ A (load s.heap.objs.size >>= _) _ _ _;exact Qcx (wpAny_load hS' (Qcy (h h' tk d' us.toList kk pm)))
  | again c1=>
   refine⟨x.1,Qcq x.2 λq s2 y=>?_⟩;obtain⟨h',tk,d',us,c,rfl,rfl,kk,hS',pm⟩:=y;show wpAny _ A (load s.heap.objs.size >>= _) _ _ _;exact Qcx (wpAny_load hS' (Qcy (h h' tk d' us.toList kk pm)))
 ·obtain⟨_,_,_,_,_,e',_⟩:=x;cases e'
end
open PySem.Calls (spliced_cons spliced_nil)
theorem Vr {α : Type} [DecidableEq α]:∀{l m:List α},l.Nodup->(∀x∈l,x∈m)->l.length<=m.length
 | [],m,_,_=>Qcs _
 | a::l,m,h,c=>by
  obtain⟨h1,h2⟩:=QbN.mp h;have ha:=c a (.head _);have:=Vr (l:=l) (m:=m.erase a) h2 λx hx=>(List.mem_erase_of_ne (λz:x=a=>h1 (by rw[<-z];exact hx))).mpr (c x (.tail _ hx));rw[List.length_erase_of_mem ha] at this;have:0 < m.length:=List.length_pos_of_mem ha;simp only[Qbu];omega
theorem Vs {α : Type} [DecidableEq α]:∀{m l:List α},l.Nodup->(∀x∈l,x∈m)->m.length<=l.length->m.Nodup
 | [],_,_,_,_=>List.Pairwise.nil
 | a::m,l,h,c,e=>by
  by_cases q:a∈m
  ·have:=Vr (m:=m) h λx hx=>by
    rcases Qcc.mp (c x hx) with z | z
    ·exact z ▸ q
    ·exact z
   simp only[Qbu] at e;omega
  ·refine QbN.mpr ⟨q,Vs (l:=l.erase a) (h.erase a) (λx hx=>?_) ?_⟩
   ·have x1:=(h.mem_erase_iff).mp hx;rcases Qcc.mp (c x x1.2) with z | z
    ·exact absurd z x1.1
    ·exact z
   ·rw[List.length_erase];simp only[Qbu] at e;split <;> omega
theorem aJ {vs us:YE} (p:us.Perm vs):∀{ns:List Int},IntsAre vs ns->∃ms,IntsAre us ms/\ms.Perm ns:=by
 induction p with
 | nil=>intro ns h;cases h;exact⟨[],.nil,List.Perm.refl _⟩
 | cons x _ ih=>
  intro ns h;cases h with
  | cons n t r=>
   obtain⟨ms,h1,h2⟩:=ih r;exact⟨n::ms,.cons n t h1,h2.cons _⟩
 | swap x y l=>
  intro ns h;cases h with
  | cons n t r=>
   cases r with
   | cons n2 t2 r2=>exact⟨_,.cons n2 t2 (.cons n t r2),List.Perm.swap _ _ _⟩
 | trans _ _ ih1 ih2=>
  intro ns h;obtain⟨ms,h1,h2⟩:=ih2 h;obtain⟨ks,h3,h4⟩:=ih1 h1;exact⟨ks,h3,h4.trans h2⟩
section
variable {prog:Program} {w:World} {A:Around} {E:YA} {s:Shared}
theorem Yh {b:Bool} {a:Addr} {es:Array (Int×Value)} {ep:Nat} {t:SetTable} {ns:List Int} {Q:YA} (hh:A.handled=none) (RS:Ge b s.heap a es ep t) (eb:b=!w.params.followText "set-order") (h64:es.size < 64) (hi:IntsAre (es.toList.map (·.2)) ns)
  (h:∀h' tk d' D (out:Array Value) ms e,(∀c o,s.heap.get? c=some o->h'.get? c=some o)->(∀c o,s.heap.get? c=some o->c≠D)->h'.get? D=some (seqObj "list" out e)->IntsAre out.toList ms->ms.Perm ns->ms.Pairwise (·<=·)->Q (.ref D) { s with heap:=h',toks:=tk,drawn:=d' }) :
  wpAny (model prog w) A (call (.builtin "sorted") [.ref a]) Q E s:=by
 refine Calls.call_function_entry kind_sorted plain_sorted entry_sorted (args_sorted1 _) ?_;unfold Builtin.«sorted»;refine Qcx (m:=checkCount "sorted" 1 1 _) (Qcy ?_);have hsz:es.size < scanBound:=by unfold scanBound;omega
 refine Qcx (jx (A:=A.in1) hh RS eb hsz λh1 tk d' us kk pm=>?_);obtain⟨ms,i1,i2⟩:=aJ pm hi;have ul:us.length=es.size:=by rw[pm.length_eq,QbF,QaJ]
 refine Qcx (wpAny_newList ?_ (by rw[ul];exact fits_of_scanBound hsz));have hD:(h1.push (seqObj "list" us.toArray 0)).get? h1.objs.size=some (seqObj "list" us.toArray 0):=QaI _ rfl;refine Qcx (Qcf (QbA slot_list_sort ⟨_,hD,rq⟩ entry_list_sort (list_sort_tree (s:={ s with heap:=h1.push (seqObj "list" us.toArray 0),toks:=tk,drawn:=d' }) hD i1 (by omega) λout ks a1 a2 a3=>⟨_,rq,?_⟩) (args_list_sort _)));obtain⟨e,he⟩:=sortedHeap_at (out:=out) hD;refine Qcy ⟨_,rq,h _ tk d' _ out ks e (λc o ec=>?_) (λc o ec=>Qcl (Qck (kk c o ec))) he a1 (a2.trans i2) a3⟩;have e1:=kk c o ec;have lt:=Qck e1;rw[sortedHeap_old (Qcl lt) (by rw[QbY];exact Qbl lt)];exact Qat _ e1
end
theorem Inv.iB {X:Cx} {jb:YC} {U : St} {H:Hp} {s:Shared} (I:Inv X jb U H s) (d':Drawn):Inv X jb U H { s with drawn:=d' }:=⟨I.ok,I.os,I.bare,I.base,I.loc,I.cell,I.free,I.GX,I.pin,I.hok,I.len⟩
def cM (K:YD) (t:TA):TE:=fun U H Q=>t U H λvs H1=>∃(p:Addr) (ns:List Int),vs=[.ref p]/\(SqL K H1 p (ns.map V.int)\/SqT K H1 p (ns.map V.int))/\ns.length < 64 /\
 ∀(ms:List Int) l,ms.Pairwise (· < ·)->(∀k,k∈ms ↔ k∈ns)->H1 l=none->Q (.ref l) (upd H1 l (.lst (ms.map V.int)))
theorem fu {k:Int} {v:Value} (h:Value.isInt k v=true):∃t,v=.int k t:=Value.isInt_shape h
theorem QG {prog:Program} {w:World}:∀{es:List (Int×Value)},ElemsOf (intKind prog w) es->∃ns,IntsAre (es.map (·.2)) ns/\∀k,k∈ns ↔ ∃e∈es,(intKind prog w).is k e.2=true
 | [],_=>⟨[],.nil,λk=>⟨(λh=>by cases h),λ⟨e,he,_⟩=>by cases he⟩⟩
 | e::es,h=>by
  obtain⟨⟨k,hk,_⟩,_⟩:=h.head;obtain⟨ns,h1,h2⟩:=QG (es:=es) h.tail;obtain⟨t,et⟩:=fu hk;refine⟨k::ns,by rw[Qce,et];exact .cons k t h1,λj=>?_⟩;rw[Qcc,h2];constructor
  ·rintro (rfl |⟨e',he,q⟩)
   ·exact⟨e,.head _,hk⟩
   ·exact⟨e',.tail _ he,q⟩
  ·rintro ⟨e',he,q⟩;rcases Qcc.mp he with rfl | he
   ·exact .inl ((intKind prog w).inj _ _ _ q hk)
   ·exact .inr ⟨e',he,q⟩
theorem Uw {X:Cx} {jb:YC} {U : St} {H:Hp} {s:Shared} {h1:Heap} {tk n:Nat} {a:Addr} {val:Nat->Int} {ns:List Int} {Q:VK} (hc:X.calm=true) (I:Inv X jb U H s) (z:SetT (intKind X.prog X.w) (!X.w.params.followText "set-order") h1 a (λk=>decide (k∈met val n)) (met val n).length)
  (kp:∀b o,s.heap.get? b=some o->h1.get? b=some o) (hn:n=ns.length) (h64:ns.length < 64) (hval:∀j,j < n->ns[j]?=some (val j))
  (q:∀(ms:List Int) l,ms.Pairwise (· < ·)->(∀k,k∈ms ↔ k∈ns)->H l=none->Q (.ref l) (upd H l (.lst (ms.map V.int)))) :
  wpAny (model X.prog X.w) X.A (call (.builtin "sorted") [.ref a]) (EP X jb U Q) X.xe { s with heap:=h1,toks:=tk }:=by
 obtain⟨ob,es,ep,t,⟨g1,g2,g3⟩,⟨c1,c2⟩,⟨c3,c4,c5⟩,c6⟩:=z;obtain⟨ks,k1,k2⟩:=QG c1;have ml:=Ru val n;have kl:ks.length=(met val n).length:=by
  have:=k1.length;rw[QbF,QaJ,c5] at this;exact this.symm
 have mem:∀k,k∈ks ↔ k∈met val n:=λk=>by rw[k2,<-c2,QaV]
 have nd:ks.Nodup:=Vs (Vu val n) (λx hx=>(mem x).mpr hx) (by omega);have pU:∀k,k∈ks ↔ k∈ns:=λk=>by
  rw[mem,Rt];constructor
  ·intro ⟨j,hj,e⟩;exact QaC (e ▸ hval j hj)
  ·intro hk;obtain⟨j,hj⟩:=QaF hk;have lj:j < n:=by rw[hn];exact (Qaf.mp hj).1
   refine⟨j,lj,?_⟩;rw[hval j lj] at hj;exact QbK hj
 refine Yh (I.ok.hd hc) ⟨ob,g1,g2,g3,c4,c6⟩ rfl (by omega) k1 λh2 tk2 d' D out ms e kk nD oD a1 a2 a3=>?_;obtain⟨m,hns,_⟩:=id I.loc;have k02:∀b o,s.heap.get? b=some o->h2.get? b=some o:=λb o e=>kk b o (kp b o e);have hn2:h2.Ns X.env.locals m:=by
  obtain⟨o,es',ep',q1,q2⟩:=hns;exact⟨o,es',ep',k02 _ _ q1,q2⟩
 have rv:Vals (ms.map V.int) out.toList:=Sy a1;obtain⟨hDn,I2⟩:=Yi (tk:=tk2) I hns hn2 (λb o _ e=>k02 b o e) (λb o e=>nD b o (kp b o e)) (by rw[Array.toArray_toList];exact oD) rv (by rw[QbF,a2.length_eq,kl];omega);refine⟨.ref D,_,I2.iB d',rq,q ms D ?_ (λk=>(a2.mem_iff).trans (pU k)) hDn⟩;have nd2:ms.Nodup:=a2.nodup_iff.mpr nd;refine (List.pairwise_and_iff.mpr ⟨a3,nd2⟩).imp λzz=>?_;obtain⟨x,y⟩:=zz;exact by omega
end L2
namespace L2
open PySem PySem.Spec PyProof.Rows
theorem Wm:isSubtype (.type "list") (.type "set")=pure false:=by rw[Qcb];kernel_rfl
theorem Yb:isSubtype (.type "list") (.type "frozenset")=pure false:=by rw[Qcb];kernel_rfl
theorem cZ {X:Cx} {jb:YC} {U : St} {H:Hp} {s:Shared} {p:Addr} {ns:List Int} {Q:YA} (hc:X.calm=true) (I:Inv X jb U H s) (hq:SqL X.K H p (ns.map V.int)\/SqT X.K H p (ns.map V.int)) (h64:ns.length < 64)
  (h:∀(h1:Heap) (tk:Nat),SetT (intKind X.prog X.w) (!X.w.params.followText "set-order") h1 s.heap.objs.size (λk=>decide (k∈met (λi=>ns.getD i 0) ns.length)) (met (λi=>ns.getD i 0) ns.length).length->(∀b o,s.heap.get? b=some o->h1.get? b=some o)->Q (.ref s.heap.objs.size) { s with heap:=h1,toks:=tk }) :
  wpAny (model X.prog X.w) X.A (call (.type "set") [.ref p]) Q X.xe s:=by
 have vOk:∀{its:YE},IntsAre its ns->∀(i:Nat) (v:Value),its.toArray[i]?=some v->(intKind X.prog X.w).is (ns.getD i 0) v=true/\v.scannable=true:=λhi i v e=>by
  obtain⟨t,rfl⟩:=IntsAre.int_at hi i v (by rw[<-List.getElem?_toArray];exact e);exact⟨intKind_is _ _ _ _,rq⟩
 have lim:ns.length+1 < scanBound:=by unfold scanBound;omega
 rcases hq with hq | hq
 ·obtain⟨its,rv,pl,hz⟩:=I.list hq;have hi:IntsAre its ns:=intsAre_of rv;have hl:its.toArray.size=ns.length:=by rw[Qbc,hi.length]
  have il:=pl.isList;obtain⟨o,ho,cl,x⟩:=id il;refine RT (T:="list") (n:=ns.length) (P:=λi v=>its.toArray[i]?=some v) (I.ok.hd hc) (λi=>ns.getD i 0) (vOk hi) lim ⟨o,ho,cl⟩ Wm Yb (by decide) (λs1 kk=>?_) λh1 tk z kp=>h h1 tk z λb o e=>kp b o (Qck e) e;have l1:s1.heap.IsList p its.toArray:=⟨o,kk o ho,cl,x⟩;refine⟨_,λi h=>h.IsListIter s1.heap.objs.size p i/\h.IsList p its.toArray,λA E Q hQ=>Qbm l1 hQ,λA hA ne=>?_,⟨⟨_,QaI _ rfl,rq,rq⟩,l1.push _⟩⟩;rw[<-hl];exact Walks.list hA _ p ne its.toArray
 ·obtain⟨its,rv,il,hz⟩:=I.tuple hq;have hi:IntsAre its ns:=intsAre_of rv;have hl:its.toArray.size=ns.length:=by rw[Qbc,hi.length]
  have il':s.heap.IsTuple p its.toArray:=il;obtain⟨o,ho,cl,x⟩:=id il';refine RT (T:="tuple") (n:=ns.length) (P:=λi v=>its.toArray[i]?=some v) (I.ok.hd hc) (λi=>ns.getD i 0) (vOk hi) lim ⟨o,ho,cl⟩ Wj X8 (by decide) (λs1 kk=>?_) λh1 tk z kp=>h h1 tk z λb o e=>kp b o (Qck e) e;have l1:s1.heap.IsTuple p its.toArray:=⟨o,kk o ho,cl,x⟩;refine⟨_,λi h=>h.IsTupleIter s1.heap.objs.size p i/\h.IsTuple p its.toArray,λA E Q hQ=>QaW l1 hQ,λA hA ne=>?_,⟨⟨_,QaI _ rfl,rq,rq⟩,let ⟨o,e,r⟩:=l1;⟨o,Qat _ e,r⟩⟩⟩;rw[<-hl];exact Walks.tuple hA _ p ne its.toArray
theorem Yq {X:Cx} {e:Expr} {t:TA} {q1 q2 cpos pos2:Pos} (hc:X.calm=true) (hg:Gl X "sorted") (hm:X.mg "sorted"=none) (hg2:Gl X "set") (hm2:X.mg "set"=none) (ha:PA X [e] t)
  (he:starEach [e] X.env=(false,eval e X.env)::starEach [] X.env:=by rfl) (hpl:(backTo cpos (starEach [] X.env)).any (·.1)=false:=by rfl)
  (hs0:starEach [.Call (.Name "set" q2) [e] [] cpos] X.env=[(false,eval (.Call (.Name "set" q2) [e] [] cpos) X.env)]:=by rfl) :
  PE X (.Call (.Name "sorted" q1) [.Call (.Name "set" q2) [e] [] cpos] [] pos2) (cM X.K t):=by
 intro jb s U H Q I h;have inner:wpAny (model X.prog X.w) X.A (eval (.Call (.Name "set" q2) [e] [] cpos) X.env) (λv s1=>∃(s0:Shared) (H1:Hp) (h1:Heap) (tk:Nat) (ns:List Int),v=.ref s0.heap.objs.size/\s1={ s0 with heap:=h1,toks:=tk }/\Inv X jb U H1 s0/\ns.length < 64 /\
   SetT (intKind X.prog X.w) (!X.w.params.followText "set-order") h1 s0.heap.objs.size (λk=>decide (k∈met (λi=>ns.getD i 0) ns.length)) (met (λi=>ns.getD i 0) ns.length).length/\(∀b o,s0.heap.get? b=some o->h1.get? b=some o) /\
   ∀(ms:List Int) l,ms.Pairwise (· < ·)->(∀k,k∈ms ↔ k∈ns)->H1 l=none->Q (.ref l) (upd H1 l (.lst (ms.map V.int)))) X.xe s:=by
  refine QaZ (GK I hg2 hm2 (u:=.type "set") (by trivial) ?_);refine Qac (thn (ha cpos jb s U H _ I h) λus s1 zz=>?_) he hpl;obtain⟨vs,H1,I1,r1,p,ns,ev,hq,h64,q⟩:=zz;subst ev;obtain⟨u,rfl,rx⟩:=vals1 r1;cases rx;exact cZ hc I1 hq h64 λh1 tk z kp=>⟨s1,H1,h1,tk,ns,rq,rq,I1,h64,z,kp,q⟩
 refine QaZ (GK I hg hm (u:=.builtin "sorted") (by trivial) ?_);refine PyProof.Rows.callWith_builtin1 (Q:=EP X jb U Q) ?_ hs0 rfl;rw[hs0];show wpAny _ _ (spliced ((false,eval (.Call (.Name "set" q2) [e] [] cpos) X.env)::backTo pos2 [])) _ _ s;refine Calls.spliced_cons (thn inner λv s1 zz=>?_);obtain⟨s0,H1,h1,tk,ns,ev,es,I1,h64,z,kp,q⟩:=zz;subst ev es;refine Calls.spliced_nil ?_;exact Uw hc I1 z kp rfl h64 (λj hj=>by rw[Qam hj];simp[hj]) q
end L2
namespace PySem.ZZ
open PySem
section
variable {prog:Program} {w:World} {A:Around} {E:YA} {s:Shared}
abbrev itS (x:Str) (t:Tok):Obj:={ cls:=.type "str_ascii_iterator",data:=.fields #[.str x t,.int 0 0] }
abbrev zsa (h:Heap) (x:Str) (t:Tok) (l2:Addr):Heap:=((((h.push (itS x t)).push (itO "tuple_iterator" l2)).push (tuO #[.ref h.objs.size,.ref (h.push (itS x t)).objs.size])).push (tuO #[.none,.none]))
abbrev zs (h:Heap) (x:Str) (t:Tok) (l2:Addr):Heap:=(zsa h x t l2).push
 { cls:=.type "zip",data:=.fields #[.none,.bool false,.bool false,.ref ((h.push (itS x t)).push (itO "tuple_iterator" l2)).objs.size,.ref (((h.push (itS x t)).push (itO "tuple_iterator" l2)).push (tuO #[.ref h.objs.size,.ref (h.push (itS x t)).objs.size])).objs.size] }
end
end PySem.ZZ
namespace L2
open PySem PySem.Spec PyProof.Rows
section
variable {X:Cx}
end
section
variable {X:Cx}
abbrev TJ:=Str->St->Hp->VK->Prop
def PJ (X:Cx) (es:YJ) (t:TJ):Prop:=∀(jb:YC) (s:Shared) (U : St) (H:Hp) (acc:Str) (Q:VK),Inv X jb U H s->t acc U H Q->wpAny (model X.prog X.w) X.A (joinParts acc (evalEach es X.env)) (EP X jb U Q) X.xe s
def rR:TJ:=λacc _ H Q=>acc.length<=sizeLine/\Q (.str acc) H
def rQ (te:TE) (t:TJ):TJ:=λacc U H Q=>te U H λv H1=>∃y,v=.str y/\(acc++y).length<=sizeLine/\t (acc++y) U H1 Q
def oW (v:V) (y:Str):Prop:=v=.str y\/∃i:Int,v=.int i/\i.natAbs.log2 < 1920/\y=toString i
def rP (te:TE) (t:TJ):TJ:=λacc U H Q=>te U H λv H1=>∃y,oW v y/\(acc++y).length<=sizeLine/\t (acc++y) U H1 Q
theorem Nh:PJ X [] rR:=by
 intro jb s U H acc Q I h;exact joinParts_nil ⟨.str acc,H,I.tok _,⟨_,rq⟩,h.2⟩ h.1
theorem Ng {e:Expr} {es:YJ} {te:TE} {t:TJ} (he:PE X e te) (hr:PJ X es t):PJ X (e::es) (rQ te t):=by
 intro jb s U H acc Q I h;refine joinParts_cons (thn (he jb s U H _ I h) λv s1 h1=>?_);obtain⟨x,H1,I1,r1,y,rfl,hz,q⟩:=h1;obtain⟨t',rfl⟩:=r1;exact⟨hz,hr jb s1 U H1 _ Q I1 q⟩
theorem Iz {e:Expr} {es:YJ} {te:TE} {t:TJ} {pos:Pos} (he:PE X e te) (hr:PJ X es t):PJ X (.FormattedValue e (-1) none pos::es) (rP te t):=by
 intro jb s U H acc Q I h;refine joinParts_cons (FormattedValue_plain (thn (he jb s U H _ I h) λv s1 h1=>?_));obtain⟨x,H1,I1,r1,y,ty,hz,q⟩:=h1;have hy:y.length<=sizeLine:=by
  rw[Qbd] at hz;omega
 rcases ty with rfl |⟨i,rfl,hi,rfl⟩
 ·obtain⟨t',rfl⟩:=r1;exact formatField_str (λt2 k2=>⟨hz,hr jb _ U H1 _ Q (I1.tok k2) q⟩) hy
 ·obtain⟨t',rfl⟩:=r1;exact formatField_int_small hi ⟨hz,hr jb _ U H1 _ Q (I1.tok _) q⟩
theorem K5 {e1 e2:Expr} {es:YJ} {t:TJ} {pos:Pos} (h:PJ X (e1::e2::es) t):PE X (.JoinedStr (e1::e2::es) pos) (fun U H Q=>t Str.empty U H Q):=by
 intro jb s U H Q I hh;exact JoinedStr_many (h jb s U H _ Q I hh)
theorem Tt:MtR X "str.startswith" (λx vs H Q=>∃z y,x=.str z/\vs=[.str y]/\Q (.bl (Txt.startswith z y)) H):=by
 intro jb s U H x vs v us Q I rx rv h;obtain⟨z,y,rfl,rfl,q⟩:=h;obtain⟨t,rfl⟩:=rx;obtain⟨u,rfl,ru⟩:=rv.one;obtain⟨t',rfl⟩:=ru;exact SC.startswith ⟨.bl _,H,I,rfl,q⟩
theorem Wt:MtR X "str.endswith" (λx vs H Q=>∃z y,x=.str z/\vs=[.str y]/\Q (.bl (Txt.endswith z y)) H):=by
 intro jb s U H x vs v us Q I rx rv h;obtain⟨z,y,rfl,rfl,q⟩:=h;obtain⟨t,rfl⟩:=rx;obtain⟨u,rfl,ru⟩:=rv.one;obtain⟨t',rfl⟩:=ru;exact SC.endswith ⟨.bl _,H,I,rfl,q⟩
theorem JV:MtR X "str.partition" (λx vs H Q=>∃z y,x=.str z/\vs=[.str y]/\y.length≠0/\z.length<=sizeLine/\∀p,H p=none->Q (.ref p) (upd H p (.tup [.str (Txt.partition z y).1,.str (Txt.partition z y).2.1,.str (Txt.partition z y).2.2]))):=by
 intro jb s U H x vs v us Q I rx rv h;obtain⟨z,y,rfl,rfl,hy,hz,q⟩:=h;obtain⟨t,rfl⟩:=rx;obtain⟨u,rfl,ru⟩:=rv.one;obtain⟨t',rfl⟩:=ru;have hy':(y.length == 0)=false:=beq_eq_false_iff_ne.mpr hy;have q0:=q s.heap.objs.size (I.hok.fresh (Qcr _));refine call_meets F.slot_str_partition (typeIs_str _ _ _) F.entry_str_partition (F.args_str_partition_2 _ _) (meets_str_partition z y t t' hy' hz) ?_;unfold Txt.partition at q0;cases e:Builtin.Str.occurrences z y 0 z.length 1 with
 | nil=>
  rw[e] at q0;exact⟨.ref s.heap.objs.size,_,I.laid (t':=s.toks+1) (o:=.tup [.str z,.str Str.empty,.str Str.empty]) (λb o e=>Qat _ e) (Qcr _) ⟨by show 3<=sizeLine;decide,_,.cons ⟨_,rq⟩ (.cons ⟨_,rq⟩ (.cons ⟨_,rq⟩ .nil)),IsTup.new _ _⟩,rq,q0⟩
 | cons i r=>
  rw[e] at q0;exact⟨.ref s.heap.objs.size,_,I.laid (t':=s.toks+1+1) (o:=.tup [.str (Builtin.Str.strSub z 0 i),.str y,.str (Builtin.Str.strSub z (i+y.length) z.length)]) (λb o e=>Qat _ e) (Qcr _) ⟨by show 3<=sizeLine;decide,_,.cons ⟨_,rq⟩ (.cons ⟨_,rq⟩ (.cons ⟨_,rq⟩ .nil)),IsTup.new _ _⟩,rq,q0⟩
theorem RP:∀l:List (Str×Tok),Vals ((l.map (·.1)).map V.str) (strValues l)
 | []=>.nil
 | p::r=>.cons ⟨p.2,rfl⟩ (RP r)
theorem Pb:MtR X "str.split" (λx vs H Q=>∃z y,x=.str z/\vs=[.str y]/\y.length≠0/\z.length+2<=sizeLine/\∀p,H p=none->Q (.ref p) (upd H p (.lst ((Txt.split z y).map V.str)))):=by
 intro jb s U H x vs v us Q I rx rv h;obtain⟨z,y,rfl,rfl,hy,hz,q⟩:=h;obtain⟨t,rfl⟩:=rx;obtain⟨u,rfl,ru⟩:=rv.one;obtain⟨t',rfl⟩:=ru;have hy':(y.length == 0)=false:=beq_eq_false_iff_ne.mpr hy;have q0:=q s.heap.objs.size (I.hok.fresh (Qcr _));have hn:(Builtin.Str.partsBetween z (Builtin.Str.occurrences z y 0 z.length (z.length+1)) y.length).length<=sizeLine:=by
  have e1:=StrLaws.occ_length_le z y 0 z.length (z.length+1);rw[length_partsBetween];omega
 have fin:∀(l:List (Str×Tok)) (k:Nat),l.map (·.1)=Txt.split z y->l.length<=sizeLine->EP X jb U Q (.ref s.heap.objs.size) { s with heap:=s.heap.push { cls:=.type "list",data:=.seq (strValues l).toArray },toks:=k }:=λl k e hl=>by
  rw[<-e] at q0;exact⟨.ref s.heap.objs.size,_,I.laid (t':=k) (o:=.lst ((l.map (·.1)).map V.str)) (λb o e=>Qat _ e) (Qcr _) ⟨by rw[QbF,QbF];exact hl,_,0,RP l,QaI _ rfl⟩,rq,q0⟩
 cases h1:(decide (z.length < y.length) || decide (Builtin.Str.strKind z < Builtin.Str.strKind y)) with
 | true=>
  refine call_meets F.slot_str_split (typeIs_str _ _ _) F.entry_str_split (F.args_str_split_2 _ _) (meets_str_split_cannot_occur z y t t' h1) ?_;exact fin [(z,t)] _ (if_pos h1).symm (by show 1<=sizeLine;decide)
 | false=>
  cases hf:(Builtin.Str.occurrences z y 0 z.length (z.length+1)).isEmpty with
  | true=>
   refine call_meets F.slot_str_split (typeIs_str _ _ _) F.entry_str_split (F.args_str_split_2 _ _) (meets_str_split_not_found z y t t' h1 hy' hf) ?_;exact fin [(z,t)] _ ((if_neg (ne_true_of_eq_false h1)).trans (if_pos hf)).symm (by show 1<=sizeLine;decide)
  | false=>
   refine call_meets F.slot_str_split (typeIs_str _ _ _) F.entry_str_split (F.args_str_split_2 _ _) (meets_str_split_sep z y t t' h1 hy' hf (by omega) hn) ?_;show wants (EP X jb U Q) X.xe _ { s with toks:=_,heap:=s.heap.push { cls:=.type "list",data:=.seq (strsFrom s.toks (Builtin.Str.partsBetween z (Builtin.Str.occurrences z y 0 z.length (z.length+1)) y.length)).toArray } };rw[strsFrom_eq];refine fin (numbered s.toks _) _ ((numbered_texts _ _).trans ((if_neg (ne_true_of_eq_false h1)).trans (if_neg (ne_true_of_eq_false hf))).symm) ?_;have:=congrArg List.length (numbered_texts s.toks (Builtin.Str.partsBetween z (Builtin.Str.occurrences z y 0 z.length (z.length+1)) y.length));rw[QbF] at this;omega
theorem bL:Ds X (.type "int") (λxs H Q=>∃(z:Str) (n:Int),xs=[.str z]/\intText? z=some n/\z.length<=640/\Q (.int n) H):=by
 intro jb s U H xs us Q I r h;obtain⟨z,n,rfl,hn,hl,q⟩:=h;obtain⟨u,rfl,t,rfl⟩:=vals1 r;exact PySem.W.KIN.call_text hn hl ⟨.int n,H,I.tok _,⟨_,rq⟩,q⟩
end
open PySem.Calls (spliced_cons spliced_nil)
theorem StrsAre.len:∀{vs:YE} {ns:YF},StrsAre vs ns->vs.length=ns.length
 | _,_,.nil=>rfl
 | _,_,.cons _ _ r=>by rw[Qbu,Qbu,StrsAre.len r]
theorem StrsAre.at_:∀{vs:YE} {ns:YF},StrsAre vs ns->∀(i:Nat) (v:Value),vs[i]?=some v->∃t,v=.str (ns.getD i Str.empty) t
 | _,_,.nil,i,v,e=>by simp at e
 | _,_,.cons x t r,0,v,e=>by
  simp at e;exact⟨t,by rw[<-e];rfl⟩
 | _,_,.cons x t r,i+1,v,e=>by
  simp at e;obtain⟨t',h⟩:=StrsAre.at_ r i v e;exact⟨t',by rw[h];rfl⟩
section
variable {prog:Program} {w:World} {A:Around} {E:YA} {s:Shared}
end
section
variable {X:Cx}
end
end L2
namespace L2
open PySem PySem.Spec PyProof.Rows
def clO (env:Env) (sc:Scope) (m:Nat):List (Str×Addr):=cellsFrom (m+1) sc.names (Ea env sc.names [])
def cxO (X:Cx) (N':YF) (scope:Scope) (s3:Shared) (H3:Hp) (fp:List Addr) (pn:YC):Cx where
 prog:=X.prog
 w:=X.w
 K:=X.K
 mg:=X.mg
 base:=X.base
 A:=X.A
 N:=N'
 s₀:=s3
 H₀:=H3
 env:=compEnvC scope (clO X.env scope s3.heap.objs.size) s3.heap.objs.size X.env
 outer:=X.stack
 stack:=X.stack
 ex:=fp
 fn:=λx=>scope.names.lookup x == some .cell
 calm:=X.calm
 pn:=pn
 xe:=λ_ _=>False
structure XM (X:Cx) (N':YF) (src:List (Option Nat)) (sc:Scope):Prop where
 kind:sc.kind=.function
 once:∀y∈sc.names,sc.names.lookup y.1=some y.2
 fv:∀y∈sc.names,y.2=.free->X.env.kindOf y.1=some .cell\/X.env.kindOf y.1=some .free
 len:src.length=N'.length
 src:∀(i:Nat) (x:Str) (j:Nat),N'[i]?=some x->src[i]?=some (some j)->X.N[j]?=some x/\sc.names.lookup x=some .free
section
variable {X:Cx} {N':YF} {src:List (Option Nat)} {sc:Scope} {jb:YC} {U : St} {H:Hp} {s3:Shared} {fp:List Addr} {h1:Heap} {tk:Nat}
theorem XM.loc (S:XM X N' src sc):∀y∈sc.names,y.2=.local->sc.names.lookup y.1=some .local:=λy hy e=>by rw[S.once y hy,e]
end
theorem Bh.in {X:Cx} {N1 N':YF} {src:List (Option Nat)} {sc so:Scope} {s3:Shared} {H3:Hp} {fp:List Addr} {pn:YC} (kind:sc.kind=.function) (Fj:∀y∈sc.names,y.2≠.cell) (loc:∀y∈sc.names,y.2=.local->sc.names.lookup y.1=some .local)
  (fv:∀y∈sc.names,y.2=.free->so.names.lookup y.1=some .cell) (len:src.length=N'.length)
  (sr:((N'.zip src).all λp=>match p.2 with | none=>true | some j=>decide (N1[j]?=some p.1)&&decide (sc.names.lookup p.1=some .free))=true):Bh (cxO X N1 so s3 H3 fp pn) N' src sc where
 kind:=kind
 Fj:=Fj
 loc:=loc
 fv:=λy hy e=>.inl (by
  have k:(compEnvC so (clO X.env so s3.heap.objs.size) s3.heap.objs.size X.env).kindOf y.1=(so.names.lookup y.1).map (Ii X.env y.1):=Lx X.env so.names y.1;show (compEnvC so (clO X.env so s3.heap.objs.size) s3.heap.objs.size X.env).kindOf y.1=some .cell;rw[k,fv y hy e];unfold Ii;simp)
 len:=len
 src:=λi x j e1 e2=>by
  rw[QbD] at sr;have hm:(x,some j)∈N'.zip src:=by
   refine QaC (i:=i) ?_;rw[List.getElem?_zip_eq_some];exact⟨e1,e2⟩
  have:=sr _ hm;simp only[Qbx,Qbq] at this;exact this
end L2
namespace K05
open PySem L2
def top (i:Nat):Stmt:=PySem.Challenge.pw_warnloop_k05_plans_written.main.body.getD i (.Pass ⟨0,0,0,0⟩)
theorem Cg:bootBuiltins "isinstance"=some (.builtin "isinstance"):=by trivial
theorem Wb:bootBuiltins "int"=some (.type "int"):=by trivial
theorem RM:bootBuiltins "bool"=some (.type "bool"):=by trivial
theorem Cm:bootBuiltins "tuple"=some (.type "tuple"):=by trivial
theorem Hy:bootBuiltins "str"=some (.type "str"):=by trivial
theorem Ek:bootBuiltins "len"=some (.builtin "len"):=by trivial
theorem Hz:bootBuiltins "all"=some (.builtin "all"):=by trivial
theorem bR:bootBuiltins "abs"=some (.builtin "abs"):=by trivial
theorem Wa:bootBuiltins "max"=some (.builtin "max"):=by trivial
theorem bO:bootBuiltins "sorted"=some (.builtin "sorted"):=by trivial
theorem bQ:bootBuiltins "min"=some (.builtin "min"):=by trivial
structure Nm (mg:YB):Prop where
 isinstance:mg "isinstance"=none
 int:mg "int"=none
 bool:mg "bool"=none
 tuple:mg "tuple"=none
 list:mg "list"=none
 str:mg "str"=none
 len:mg "len"=none
 all:mg "all"=none
 abs:mg "abs"=none
 max:mg "max"=none
 min:mg "min"=none
 range:mg "range"=none
 sorted:mg "sorted"=none
 any:mg "any"=none
 sum:mg "sum"=none
 enumerate:mg "enumerate"=none
 zip:mg "zip"=none
 reversed:mg "reversed"=none
 dict:mg "dict"=none
 ord:mg "ord"=none
 set:mg "set"=none
abbrev Rb:Stmt:=top 37
abbrev K7:YF:=["_law_script","_law_k"]
theorem OJ:Bc ["_law_script","_law_k","_law_cell"] K7 (Al Rb):=by ac_rfl
abbrev O1:Stmt:=top 38
abbrev FW:YF:=["_law_bag_here","_law_many"]
theorem G8:Bc ["_law_bag_here","_law_many","_law_digit","_law_primes","_law_step","_law_base","_law_found"] FW (Al O1):=by ac_rfl
theorem lN (v:V):isW v=(isI v&&!isB v):=by cases v <;> rfl
def Bk (H:Hp) (b:Addr) (n:Nat):Prop:=∃x y z:Int,H b=some (.lst [.int x,.int y,.int z])/\0<=x/\0<=y/\y<=4294967296/\0<=z/\z<=n
theorem Bk.same {H H':Hp} {b:Addr} {n:Nat} (h:Bk H b n) (s:Same H H'):Bk H' b n:=by
 obtain⟨x,y,z,e,r⟩:=h;exact⟨x,y,z,s _ _ e,r⟩
theorem Bk.mono {H:Hp} {b:Addr} {n m:Nat} (h:Bk H b n) (l:n<=m):Bk H b m:=by
 obtain⟨x,y,z,e,h1,h2,h3,h4,h5⟩:=h;exact⟨x,y,z,e,h1,h2,h3,h4,by omega⟩
theorem Bk.nb {H:Hp} {b p:Addr} {n:Nat} (h:Bk H b n) (hp:H p=none):b≠p:=by obtain⟨_,_,_,e,_⟩:=h;exact Ao e hp
theorem Bk.Df {H:Hp} {b:Addr} {n:Nat} (h:Bk H b n):∀xs,H b≠some (.tup xs):=λxs z=>by obtain⟨_,_,_,e,_⟩:=h;rw[e] at z;cases z
theorem Bk.ex {H:Hp} {b:Addr} {n:Nat} (h:Bk H b n):∃o,H b=some o:=by obtain⟨_,_,_,e,_⟩:=h;exact⟨_,e⟩
theorem Bk.Eo {H H':Hp} {a b:Addr} {n:Nat} (h:Bk H b n) (s:Ag a H H') (ne:b≠a):Bk H' b n:=by
 obtain⟨x,y,z,e,r⟩:=h;exact⟨x,y,z,s _ _ e ne,r⟩
theorem Aw {n:Nat} (h:n<=1000):n<=sizeLine:=Qcp (Aq h)
inductive Ye (K:YD) (vs:YG) (H:Hp) (Q:VK) (E:XK):Prop
 | mk (a:Addr) (ns:List Int) (k:Int) (_:vs=[.ref a,.int k]) (_:SqL K H a (ns.map V.int)) (_:ns.length<=63) (_:0<=k) (_:k<=100) (_:∀p o,H p=none->Bk (upd H p o) p 0->Q (.ref p) (upd H p o)):Ye K vs H Q E
inductive KY (vs:YG) (H:Hp) (Q:VK) (E:XK):Prop
 | mk (b:Addr) (n:Nat) (m:Int) (_:vs=[.ref b,.int m]) (_:Bk H b n) (_:n<=10000) (_:0 < m) (_:m < 1073741824) (_:∀r H',0<=r->r < m->Bk H' b (n+1)->Ag b H H'->Q (.int r) H'):KY vs H Q E
inductive Qm (K:YD) (vs:YG) (H:Hp) (Q:VK) (E:XK):Prop
 | mk (a:Addr) (ns:List Int) (_:vs=[.ref a]) (_:SqL K H a (ns.map V.int)) (_:ns.length<=63) (_:∀H',Q (.bl true) H'):Qm K vs H Q E
theorem at7 {i:Int} (h0:0<=i) (h7:i < 7) {a b c d e f g:Int} (P:Int->Prop) (ha:P a) (hb:P b) (hc:P c) (hd:P d) (he:P e) (hf:P f) (hg:P g):∃p,atI [V.int a,.int b,.int c,.int d,.int e,.int f,.int g] i=some (.int p)/\P p:=by
 have:i=0\/i=1\/i=2\/i=3\/i=4\/i=5\/i=6:=by omega
 rcases this with rfl | rfl | rfl | rfl | rfl | rfl | rfl
 ·exact⟨_,rq,ha⟩
 ·exact⟨_,rq,hb⟩
 ·exact⟨_,rq,hc⟩
 ·exact⟨_,rq,hd⟩
 ·exact⟨_,rq,he⟩
 ·exact⟨_,rq,hf⟩
 ·exact⟨_,rq,hg⟩
theorem mW {x:Int} {b:Bool}:Zm x (if b=true then 1 else 0):=.inr (by cases b <;> exact⟨by decide,by decide⟩)
section
variable {P:Program} {w:World} {K:YD} {mg:YB} {base:Heap}
theorem dX (C:Code K mg "_law_bag" Rb K7) (T:Nm mg):Good P w K mg base "_law_bag" 1 K7 (Ye K):=by
 refine C.good OJ (λvs H Q E h=>?_) (λf cdv A outer s H vs Q E hr h=>?_)
 ·obtain⟨a,ns,k,rfl,_⟩:=h;rfl
 obtain⟨a,ns,k,rfl,hS,h63,h0,h1,q⟩:=h;refine⟨_,(Af (Az (i:=2) OJ.nd rfl (Or.inl rfl) (Av Cz (Av Cz (Av FZ (Av FZ Ae (pv 1)) (pv 1)) (Av FZ Ae (pv 1))) Ae))
 (Af (Cj (BX Yr (pv 1) (Ay CG rfl T.len Ek (Aa (pv 0) Ab)) (Cd _)) (Ai (Az (i:=2) OJ.nd rfl (Or.inl rfl) (Cu CJ (pv 0) (pv 1) (λ_ _=>rfl)))) BL)
 (Ai (Ba (Cp (Aa (Av FZ (Ay V9 rfl T.abs bR (Aa (pv 2) Ab)) (Bo bM rfl T.int Wb (Aa (Fv nW (Ay V9 rfl T.abs bR (Aa (pv 2) Ab)) (Av Z5 Ae Ae) (Cd _)) Ab))) (Aa (Av Cz (Av Jf (pv 2) Ae) (Av FZ Ae (pv 1))) (Aa Ae Ab)))))))),?_⟩
 show let R0:TS:=_;let R1:TS:=_;let R2:TS:=Am (Hj _ R1 _) R0;Am _ R2 _ _ _;intro R0 R1 R2;refine⟨_,rq,_,_,rq,rq,.inl ⟨by decide,by decide⟩,_,rq,_,_,rq,rq,.inr ⟨by omega,by omega⟩,_,rq,_,_,rq,rq,.inl ⟨by decide,by decide⟩,_,_,rq,rq,_,_,rq,rq,?_⟩;refine⟨_,rq,_,rq,a,_,rq,.inl hS,_,_,rq,rq,_,rq,?_⟩;have hl:(ns.map V.int).length=ns.length:=QbF _;have fin:∀(c:Int) (p:Addr),H p=none->Q (.ref p) (upd H p (.lst [.int ((if c < 0 then -c else c)*(if decide ((10:Int) ^ (18:Int).toNat<=(if c < 0 then -c else c))=true then 1 else 0)),.int (c % 2147483647+37*k),.int 0])):=λc p hp=>by
  refine q p _ hp ⟨_,_,_,Ac,?_,?_,?_,by omega,by omega⟩
  ·refine Int.mul_nonneg ?_ ?_
   ·split <;> omega
   ·split <;> omega
  ·have:=QbS c (show (2147483647:Int)≠0 by decide);omega
  ·have:=QaY c (show (0:Int) < 2147483647 by decide);omega
 refine Jo (λc1=>?_) (λc1=>?_)
 ·have c':k < (((ns.map V.int).length:Nat):Int):=Qbo c1;rw[hl] at c';have hk:k.toNat < ns.length:=by omega
  have hat:atI (ns.map V.int) ((k.toNat:Nat):Int)=some (.int ns[k.toNat]):=Fy (by rw[Qbf];simp[hk]);rw[Int.toNat_of_nonneg h0] at hat;refine⟨_,rq,_,rq,a,_,_,_,rq,rq,hS,hat,?_⟩;exact⟨_,rq,_,rq,_,rq,_,rq,_,_,rq,rq,⟨by decide,by decide,by decide⟩,_,_,rq,rq,.inr ⟨_,rq,_,_,rq,rq,mW,_,rq,_,_,rq,rq,(by show (0:Int) < 2147483647;decide),_,rq,_,_,rq,rq,.inl ⟨by decide,by decide⟩,_,_,rq,rq,
   (by show 3<=sizeLine;decide),λl hl'=>fin _ l hl'⟩⟩
 ·exact⟨_,rq,_,rq,_,rq,_,rq,_,_,rq,rq,⟨by decide,by decide,by decide⟩,_,_,rq,rq,.inr ⟨_,rq,_,_,rq,rq,mW,_,rq,_,_,rq,rq,(by show (0:Int) < 2147483647;decide),_,rq,_,_,rq,rq,.inl ⟨by decide,by decide⟩,_,_,rq,rq,
   (by show 3<=sizeLine;decide),λl hl'=>fin _ l hl'⟩⟩
theorem Z7 (C:Code K mg "_law_take" O1 FW) (T:Nm mg):Good P w K mg base "_law_take" 1 FW KY:=by
 refine C.good G8 (λvs H Q E h=>?_) (λf cdv A outer s H vs Q E hr h=>?_)
 ·obtain⟨b,n,m,rfl,_⟩:=h;rfl
 obtain⟨b,n,m,rfl,⟨x,y,z,hb,x0,y0,y1,z0,z1⟩,hn,m0,m1,q⟩:=h;refine⟨_,(Af (Cj (BX Yt (Cu CJ (pv 0) Ae (λ_ _=>rfl)) Ae (Cd _)) (Af (Az (i:=2) G8.nd rfl (Or.inl rfl) (Av Jf (Cu CJ (pv 0) Ae (λ_ _=>rfl)) (pv 1)))
 (Af (DR (Av Ri (Cu CJ (pv 0) Ae (λ_ _=>rfl)) (pv 1)) (Va (pv 0) Ae set_list))
 (Ai (Ba (pv 2))))) BL)
 (Af (Az (i:=3) G8.nd rfl (Or.inl rfl) (@BZ _ _ _ _ _ (@Aa _ _ _ _ _ (@Ae _ _ _ _) (@Aa _ _ _ _ _ (@Ae _ _ _ _) (@Aa _ _ _ _ _ (@Ae _ _ _ _) (@Aa _ _ _ _ _ (@Ae _ _ _ _) (@Aa _ _ _ _ _ (@Ae _ _ _ _) (@Aa _ _ _ _ _ (@Ae _ _ _ _) (@Aa _ _ _ _ _ (@Ae _ _ _ _) (@Ab _) Bl) Bl) Bl) Bl) Bl) Bl) Bl)))
 (Af (DR (Av Cz (Cu CJ (pv 0) Ae (λ_ _=>rfl)) Ae) (Va (pv 0) Ae set_list))
 (Af (Az (i:=4) G8.nd rfl (Or.inl rfl) (Cu CJ (pv 0) Ae (λ_ _=>rfl)))
 (Af (Az (i:=5) G8.nd rfl (Or.inl rfl) (Av Cz (Av Cz (Av FZ (Cu CJ (pv 0) Ae (λ_ _=>rfl)) (Av Cz (Av FZ Ae (pv 4)) Ae)) (Av FZ (Av FZ Ae (pv 4)) (pv 4))) Ae))
 (Af (Az (i:=6) G8.nd rfl (Or.inl rfl) (Av Jf (Av Z5 (pv 5) Ae) (Cu Jg (pv 3) (Av Jf (pv 4) Ae) (λ_ _=>rfl))))
 (Ai (Ba (Av Jf (Av Ri (Av Jf (Av FZ (pv 6) (Av Cz (Av Ri (pv 6) Ae) Ae)) (Cu Jg (pv 3) (Av Jf (Av Cz (pv 4) Ae) Ae) (λ_ _=>rfl))) Ae) (pv 1)))))))))),?_⟩
 show let R0:TS:=_;let R1:TS:=Am _ R0;let R2:TS:=Am _ R1;let R3:TS:=Am _ R2;let R4:TS:=Am _ R3;let R5:TS:=Am _ R4;let R6:TS:=Am _ _;let R7:TS:=Am _ R6;Am (Hj _ R7 _) R5 _ _ _;intro R0 R1 R2 R3 R4 R5 R6 R7;refine⟨_,rq,b,_,_,_,rq,rq,SqL.of hb,rq,_,_,rq,rq,_,rq,?_⟩;refine Jo (λc1=>?_) (λc1=>?_)
 ·have c':0 < x:=Qbo c1;refine⟨_,rq,b,_,_,_,rq,rq,SqL.of hb,rq,_,rq,_,_,rq,rq,m0,?_⟩;refine⟨_,rq,b,_,_,_,rq,rq,SqL.of hb,rq,_,rq,_,_,rq,rq,⟨m0,m1⟩,_,rq,b,_,_,_,rq,rq,hb,rq,?_⟩;exact⟨_,rq,q _ _ (QbS x (by omega)) (QaY x m0) ⟨x / m,y,z,Ac,Int.ediv_nonneg x0 (by omega),y0,y1,z0,by omega⟩ Ag.upd⟩
 ·refine⟨(by show 7<=sizeLine;decide),λtp htp=>?_⟩;have nbt:b≠tp:=Ao hb htp;have hb1:∀o,(upd H tp o) b=some (.lst [.int x,.int y,.int z]):=λo=>by rw[Ar nbt];exact hb
  have ht1:∀o u,(upd (upd H tp o) b u) tp=some o:=λo u=>by rw[Ar nbt.symm,Ac]
  refine⟨_,rq,b,_,_,_,rq,rq,SqL.of (hb1 _),rq,_,_,rq,rq,_,rq,b,_,_,_,rq,rq,hb1 _,rq,?_⟩;refine⟨_,rq,b,_,_,_,rq,rq,SqL.of Ac,rq,?_⟩;have s0:0<=z+1:=by omega
  have s1:z+1<=10001:=by omega
  refine⟨_,rq,b,_,_,_,rq,rq,SqL.of Ac,rq,_,rq,_,_,rq,rq,.inl ⟨by decide,by decide⟩,_,_,rq,rq,_,_,rq,rq,.inl ⟨by omega,by omega⟩,_,rq,_,_,rq,rq,.inl ⟨by decide,by decide⟩,_,rq,_,_,rq,rq,.inr ⟨by omega,by omega⟩,
   _,_,rq,rq,_,_,rq,rq,?_⟩
  have hbase:(y*(2*(z+1)+1)+6007*(z+1)*(z+1)+29).natAbs < 2 ^ 64:=by
   have h1:0<=y*(2*(z+1)+1):=Int.mul_nonneg y0 (by omega);have h2:y*(2*(z+1)+1)<=4294967296*20003:=Int.mul_le_mul y1 (by omega) (by omega) (by omega);have h3:0<=6007*(z+1)*(z+1):=Int.mul_nonneg (by omega) s0;have h4:6007*(z+1)*(z+1)<=(6007*10001)*10001:=Int.mul_le_mul (by omega) s1 s0 (by omega);omega
  obtain⟨p1,e1,p10,p11⟩:=at7 (i:=(z+1) % 7) (QbS _ (by decide)) (QaY _ (by decide)) (a:=2147483629) (b:=2147483587) (c:=2147483579) (d:=2147483563) (e:=2147483549) (f:=2147483543) (g:=2147483497)
   (λp=>0 < p/\p < 2147483648) (by decide) (by decide) (by decide) (by decide) (by decide) (by decide) (by decide)
  obtain⟨p2,e2,p20,p21⟩:=at7 (i:=(z+1+3) % 7) (QbS _ (by decide)) (QaY _ (by decide)) (a:=2147483629) (b:=2147483587) (c:=2147483579) (d:=2147483563) (e:=2147483549) (f:=2147483543) (g:=2147483497)
   (λp=>0 < p/\p < 2147483648) (by decide) (by decide) (by decide) (by decide) (by decide) (by decide) (by decide)
  refine⟨_,rq,_,_,rq,rq,⟨by decide,by decide,hbase⟩,_,rq,_,rq,_,_,rq,rq,(by show (0:Int) < 7;decide),tp,_,_,_,rq,rq,SqT.of (ht1 _ _),e1,_,_,rq,rq,p10,?_⟩;generalize hF:(y*(2*(z+1)+1)+6007*(z+1)*(z+1)+29) ^ (3:Int).toNat % p1=F;have F0:0<=F:=by rw[<-hF];exact QbS _ (by omega)
  have F1:F < p1:=by rw[<-hF];exact QaY _ p10
  refine⟨_,rq,_,rq,_,_,rq,rq,⟨by decide,by decide⟩,_,_,rq,rq,_,_,rq,rq,.inl ⟨by omega,by omega⟩,_,rq,_,rq,_,_,rq,rq,_,_,rq,rq,(by show (0:Int) < 7;decide),tp,_,_,_,rq,rq,SqT.of (ht1 _ _),e2,_,_,rq,rq,p20,
   _,_,rq,rq,⟨by decide,by decide⟩,_,rq,_,_,rq,rq,m0,?_⟩
  refine q _ _ (QbS _ (by omega)) (QaY _ m0) ⟨x,y,z+1,Ac,x0,y0,y1,s0,by omega⟩ λc o e nc=>?_;rw[Ar nc,Ar (Ao e htp)];exact e
end
abbrev Lg:Stmt:=top 39
abbrev JR:YF:=["_law_bag_here"]
abbrev xm:YF:=["_law_bag_here","_law_letters"]
theorem RW:Bc xm JR (Al Lg):=by ac_rfl
abbrev Kf:Stmt:=top 40
abbrev Hh:YF:=["_law_bag_here","_law_many"]
abbrev xn:YF:=["_law_bag_here","_law_many","_law_found","_law_place","_law_name_here"]
theorem Hr:Bc xn Hh (Al Kf):=by ac_rfl
theorem Xr {K:YD} {H:Hp} {z:Str} {Q:VK} (q:Q (.bl true) H):EY K [.str z,.ty "str"] H Q:=by
 unfold EY;exact⟨_,_,_,_,rq,.str z,by rfl,q⟩
def abc:Str:="abcdefghijklmnopqrstuvwxyz"
def okS (z:Str):Prop:=∀c∈z.cps.toList,c∈abc.cps.toList
theorem okS.ok {z:Str} (h:okS z):PyData.strOk z=true:=by
 have ha:abc.cps.toList.all (λc=>decide (c < 0x110000))=true:=by trivial
 unfold PyData.strOk;rw[Array.all_eq_true'];exact λc hc=>QbD.mp ha c (h c (Array.mem_toList_iff.mpr hc))
theorem okS.append {x y:Str} (h:okS x) (h':okS y):okS (x++y):=by
 intro c hc;have:c∈x.cps.toList++y.cps.toList:=by
  have e:(x++y).cps=x.cps++y.cps:=rfl;rw[e,Array.toList_append] at hc;exact hc
 rcases QbG.mp this with z | z
 ·exact h c z
 ·exact h' c z
theorem okS.slice {x:Str} (h:okS x) (l u:Option Int):okS (Txt.slice x l u):=by
 unfold Txt.slice;split
 ·exact h
 ·intro c hc;have hc':c∈(Builtin.Str.strSliceIndices l u 1 x.length).filterMap (x.cps[·]?):=by simpa using hc
  obtain⟨i,_,e⟩:=List.mem_filterMap.mp hc';exact h c (Array.mem_toList_iff.mpr (Array.mem_of_getElem? e))
theorem okS.join {sep:Str} (hs:okS sep):∀{ts:YF},(∀t∈ts,okS t)->okS (Str.join sep ts)
 | [],_=>λc hc=>by cases hc
 | [x],h=>h x (QaQ ..)
 | x::y::r,h=>((h x (QaQ ..)).append hs).append (okS.join hs (ts:=y::r) λt ht=>h t (QaD _ ht))
theorem Oa:abc.cps.toList.length=26:=by trivial
theorem mY:abc.cps.toList.Nodup:=by trivial
theorem bV:okS abc:=λc hc=>hc
theorem VD:∀ts:YF,(Str.join "" ts).length=(ts.map (·.length)).sum
 | []=>rfl
 | [x]=>by show x.length=_;simp
 | x::y::r=>by
  show ((x++"")++Str.join "" (y::r)).length=_;rw[Qbd,Qbd,VD (y::r),Qce (a:=x),List.sum_cons];have:(Str.ofString "").length=0:=by trivial
  rw[this];omega
theorem rT (n:Nat):(Builtin.Str.strSliceIndices (some 1) none 1 n).length<=n - 1:=by
 unfold Builtin.Str.strSliceIndices sliceRange;simp only[show (1:Int) > 0 by decide,if_true,QbF,Qbn,show ¬((1:Int) < 0) by decide,QcD];split
 ·rw[Int.ediv_one];omega
 ·exact Qcs _
theorem ZD (z:Str):(Txt.slice z (some 1) none).length<=z.length - 1:=by
 have h:=rT z.length;unfold Txt.slice;split
 ·rename_i hc;rw[Qbx] at hc;have:=eq_of_beq hc.2;omega
 ·show (List.filterMap _ _).toArray.size<=_;rw[Qbc];exact Qcn (List.length_filterMap_le _ _) h
theorem mZ {r:Int} (h0:0<=r) (h1:r < 26):∃c,atI abc.cps.toList r=some c/\okS ⟨#[c]⟩:=by
 have hl:r.toNat < abc.cps.toList.length:=by rw[Oa];omega
 refine⟨abc.cps.toList[r.toNat],?_,λc hc=>?_⟩
 ·have:=Fy (xs:=abc.cps.toList) (j:=r.toNat) (Qam hl);rw[Int.toNat_of_nonneg h0] at this;exact this
 ·have:c=abc.cps.toList[r.toNat]:=by simpa using hc
  rw[this];exact bV _ (List.getElem_mem hl)
theorem Uk:∀{ys:YF},(∀y∈ys,y.length=1)->(ys.map (·.length)).sum=ys.length
 | [],_=>rfl
 | y::r,h=>by
  rw[Qce,List.sum_cons,h y (QaQ ..),Uk (ys:=r) λt ht=>h t (QaD _ ht),Qbu];omega
theorem SX (ys:YF):(ys.map V.str).all Iu=true:=by
 rw[List.all_map,QbD];intro _ _;rfl
theorem Lz (z:Str):∀ys:YF,inV (.str z) (ys.map V.str)=true ↔ z∈ys
 | []=>by constructor <;> intro h <;> cases h
 | y::r=>by
  have ih:=Lz z r;unfold inV at ih ⊢;rw[Qce,Qci,Bool.or_eq_true,ih,Qcc];have:eqV (.str y) (.str z)=true ↔ z=y:=by
   show (y == z)=true ↔ z=y;rw[beq_iff_eq];exact⟨λh=>h.symm,λh=>h.symm⟩
  rw[this]
theorem Sq:∀{l m:YF},l.Nodup->(∀x∈l,x∈m)->l.length<=m.length
 | [],_,_,_=>Qcs _
 | a::r,m,nd,h=>by
  have ha:=h a (QaQ ..);obtain⟨n1,n2⟩:=QbN.mp nd;have:=Sq (l:=r) (m:=m.erase a) n2 λx hx=>(List.mem_erase_of_ne (λe=>n1 (by rw[<-e];exact hx))).mpr (h x (QaD _ hx));rw[List.length_erase_of_mem ha] at this;have hp:=List.length_pos_of_mem ha;rw[Qbu];omega
theorem WT (rest:Str) {ys:YF} (h:ys.length < 26):∃(i c:Nat),abc.cps[i]?=some c/\((⟨#[c]⟩ : Str)++rest)∉ys:=by
 refine Classical.byContradiction λhn=>?_;have hall:∀x∈abc.cps.toList.map (λc=>(⟨#[c]⟩ : Str)++rest),x∈ys:=λx hx=>by
  obtain⟨c,hc,rfl⟩:=Qcm.mp hx;obtain⟨i,hi⟩:=QaF hc;refine Classical.byContradiction λhm=>hn ⟨i,c,by simpa using hi,hm⟩
 have nd:(abc.cps.toList.map (λc=>(⟨#[c]⟩ : Str)++rest)).Nodup:=by
  refine List.pairwise_map.mpr (mY.imp λ{c d} hne e=>hne ?_);have e1:(#[c]++rest.cps:Array Nat)=#[d]++rest.cps:=congrArg Str.cps e;have e2:=congrArg Array.toList e1;rw[Array.toList_append,Array.toList_append] at e2;injection e2
 have:=Sq nd hall;rw[QbF,Oa] at this;omega
theorem QcB {α : Type} {l:List α} {i:Nat} {x:α} (h:l[i]?=some x):l.take (i+1)=l.take i++[x]:=by rw[List.take_add_one,h];rfl
theorem Ze {X:Cx} {K:YD} (h:X.K=K) (hc:X.calm=true):Ds X (.builtin "max") (λxs H Q=>∃(p:Addr) (ns:List Int),xs=[.ref p]/\SqL K H p (ns.map V.int)/\0 < ns.length/\∀M,M∈ns->(∀a,a∈ns->a<=M)->Q (.int M) H):=h ▸ S8 hc
theorem Ag.Hl {a b:Addr} {H HH H':Hp} (s:Ag b H HH) (t:Ag a HH H') (f:H a=none):Ag b H H':=λc o e n=>t _ _ (s _ _ e n) λz=>by rw[z,f] at e;cases e
theorem vd {i:Int} (h0:0<=i) (h6:i < 6) {a b c d e f:Int} (P:Int->Prop) (ha:P a) (hb:P b) (hc:P c) (hd:P d) (he:P e) (hf:P f):∃p,atI [V.int a,.int b,.int c,.int d,.int e,.int f] i=some (.int p)/\P p:=by
 have:i=0\/i=1\/i=2\/i=3\/i=4\/i=5:=by omega
 rcases this with rfl | rfl | rfl | rfl | rfl | rfl
 ·exact⟨_,rq,ha⟩
 ·exact⟨_,rq,hb⟩
 ·exact⟨_,rq,hc⟩
 ·exact⟨_,rq,hd⟩
 ·exact⟨_,rq,he⟩
 ·exact⟨_,rq,hf⟩
inductive Uu (vs:YG) (H:Hp) (Q:VK) (E:XK):Prop
 | mk (b:Addr) (n:Nat) (_:vs=[.ref b]) (_:Bk H b n) (_:n<=9000) (_:∀z H',1<=z.length->z.length<=8->okS z->Bk H' b (n+9)->Ag b H H'->Q (.str z) H'):Uu vs H Q E
inductive NK (vs:YG) (H:Hp) (Q:VK) (E:XK):Prop
 | mk (b:Addr) (n many:Nat) (_:vs=[.ref b,.int many]) (_:Bk H b n) (_:n<=8000) (_:many<=20) (_:∀l (ys:YF) H',H l=none->ys.length=many->(∀y∈ys,(1<=y.length/\y.length<=8)/\okS y)->ys.Nodup->H' l=some (.lst (ys.map V.str))->Bk H' b (n+9*many)->Ag b H H'->Q (.ref l) H'):NK vs H Q E
section
variable {P:Program} {w:World} {K:YD} {mg:YB} {base:Heap}
abbrev js(a:PySem.Addr):Option L2.V:=some (.ref a)
abbrev xo:YF:=["_law_place","_law_letters","_law_bag_here"]
theorem iY (C:Code K mg "_law_name" Lg JR) (T:Nm mg) (Bj:Good P w K mg base "_law_take" 1 FW KY):Good P w K mg base "_law_name" 2 JR Uu:=by
 refine C.good RW (λvs H Q E h=>?_) (λf cdv A outer s H vs Q E hr h=>?_)
 ·obtain⟨b,n,rfl,_⟩:=h;rfl
 obtain⟨b,n,rfl,hb,hn,q⟩:=h;refine⟨_,(Af (Az (i:=1) RW.nd rfl (Or.inr rfl) Bb)
 (Ai (Ba (BR Qav PySem.F.slot_str_join PySem.F.type_str_join NT Bb (Aa (BP (N':=xo) rfl (Bh.of (src:=[none,some 1,some 0]) (Al Lg) xm rfl rfl rfl (by trivial) (by trivial) (by trivial) rfl (by trivial)) (Ez rfl T.range (Aa (Av Cz Ae (Ca Bj hr (Aa (pv 0) (Aa Ae Ab)))) Ab)) (λ_ _ _ _=>(Ah (i:=0) (show List.Nodup (xo:YF) by trivial) rfl (Or.inl rfl))) (λ_ _ _ _=>Cy) (λ_ _ _ _=>(Cu lM (pv 1) (Ca Bj hr (Aa (pv 2) (Aa Ae Ab))) (λ_ _=>rfl)))) Ab))))),?_⟩
 show let R0:TS:=_;Am _ R0 _ _ _;intro R0;refine⟨rq,_,rq,b,n,8,rq,hb,by omega,by decide,by decide,λr H1 r0 r1 hb1 sb1=>⟨_,_,rq,rq,_,rq,by omega,by omega,λl hl=>?_⟩⟩;have nbl:b≠l:=hb1.nb hl;have fl:H l=none:=sb1.free hb1.ex hl;let J0:YN:=λi U HH=>∃(u:Option V) (ys:YF),U=[u,some (.str abc),js b]/\HH l=some (.lst (ys.map V.str))/\ys.length=i/\(∀y∈ys,y.length=1/\okS y)/\Bk HH b (n+1+i)/\Ag b H HH;refine Mf J0
  ⟨none,[],rq,Ac,rq,(λy hy=>by cases hy),hb1.same (Ad hl _),sb1.trans (Ag.of (Ad hl _))⟩ (λi U HH hi h=>?_) (fun U HH h=>?_)
 ·obtain⟨u,ys,rfl,e1,e2,e3,e4,e5⟩:=h;refine⟨_,rq,_,rq,b,_,26,rq,e4,by omega,by decide,by decide,λr' HA r0' r1' hbA sA=>?_⟩;obtain⟨c,ec,oc⟩:=mZ r0' r1';have eA:=sA _ _ e1 nbl.symm;refine⟨_,_,c,rq,rq,Aw (by show abc.cps.size<=1000;rw[<-QaJ,Oa];decide),ec,_,eA,Aq (by rw[QbF];omega),_,ys++[⟨#[c]⟩],rq,?_,?_,λy hy=>?_,hbA.Eo Ag.upd nbl,?_⟩
  ·rw[Ac,QbH];rfl
  ·rw[QaN,e2];rfl
  ·rcases QbG.mp hy with h | h
   ·exact e3 y h
   ·have:y=⟨#[c]⟩:=by simpa using h
    rw[this];exact⟨rq,oc⟩
  ·exact λc o e ne=>Ag.upd _ _ (sA _ _ (e5 _ _ e ne) ne) λz=>by rw[z,fl] at e;cases e
 obtain⟨u,ys,rfl,e1,e2,e3,e4,e5⟩:=h;have hs:=Uk λy hy=>(e3 y hy).1;refine⟨_,l,ys,rq,rq,SqL.of e1,?_,?_⟩
 ·rw[hs];have:(Str.ofString "").length=0:=by trivial
  rw[this];omega
 ·have hj:=VD ys;rw[hs] at hj;refine q _ HH ?_ ?_ ?_ (e4.mono (by omega)) e5
  ·show 1<=(Builtin.Str.glued _ ys).length;rw[QaB];show 1<=(Str.join "" ys).length;omega
  ·show (Builtin.Str.glued _ ys).length<=8;rw[QaB];show (Str.join "" ys).length<=8;omega
  ·show okS (Builtin.Str.glued _ ys);rw[QaB];exact okS.join (λc hc=>by cases hc) λy hy=>(e3 y hy).2
abbrev xp:YF:=["_law_one","_law_name_here","_law_found"]
theorem dW (C:Code K mg "_law_names" Kf Hh) (T:Nm mg) (fK:Good P w K mg base "_law_name" 2 JR Uu):Good P w K mg base "_law_names" 3 Hh NK:=by
 refine C.good Hr (λvs H Q E h=>?_) (λf cdv A outer s H vs Q E hr h=>?_)
 ·obtain⟨b,n,many,rfl,_⟩:=h;rfl
 obtain⟨b,n,many,rfl,hb,hn,hm,q⟩:=h;refine⟨_,(Af (Az (i:=2) Hr.nd rfl (Or.inr rfl) (Cp Ab))
 (Af (Cw QbJ rfl (Ez rfl T.range (Aa (pv 1) Ab)) (Ah (i:=3) Hr.nd rfl (Or.inl rfl))
 (Af (Az (i:=4) Hr.nd rfl (Or.inr rfl) (BJ fK hr (Aa (pv 0) Ab)))
 (Af (Cj (BX Ni (pv 4) (pv 2) (by with_unfolding_all rfl)) (Ai (Az (i:=4) Hr.nd rfl (Or.inr rfl) (Cu CJ (BP (N':=xp) rfl (Bh.of (src:=[none,some 4,some 2]) (Al Kf) xn rfl rfl rfl (by trivial) (by trivial) (by trivial) rfl (by trivial)) (U8 Bb) (λ_ _ _ _=>(Ah (i:=0) (show List.Nodup (xp:YF) by trivial) rfl (Or.inl rfl))) (λ_ _ _ _=>(Qt (BX (Mj (K:=K) rfl) (Av Bu (pv 0) (FP ZF (pv 1) (Hf Ae) Hg)) (pv 2) (by with_unfolding_all rfl)))) (λ_ _ _ _=>(Av Bu (pv 0) (FP ZF (pv 1) (Hf Ae) Hg)))) Ae (λ_ _=>rfl)))) BL)
 (Ai (Cr (BR Qap Qak Qal Ce (pv 2) (Aa (pv 4) Ab)))))))
 (Ai (Ba (pv 2))))),?_⟩
 show let R0:TS:=_;let R1:TS:=_;let R2:TS:=Am (Hj _ R1 _) R0;let R3:TS:=Am _ R2;let R4:TS:=Am (Dy _ _ R3) _;Am _ R4 _ _ _;intro R0 R1 R2 R3 R4;refine⟨Aw (by show 0<=1000;decide),λlf hlf=>?_⟩;have s1:=Ad hlf (.lst []);have nbf:b≠lf:=hb.nb hlf;refine⟨_,rq,_,rq,by omega,by omega,?_⟩;rw[Qbi];let J1:YN:=λi U HH=>∃(u3 u4:Option V) (ys:YF),U=[js b,some (.int many),js lf,u3,u4]/\HH lf=some (.lst (ys.map V.str))/\ys.length=i/\(∀y∈ys,(1<=y.length/\y.length<=8)/\okS y)/\Bk HH b (n+9*i)/\Ag b H HH/\ys.Nodup;refine Jh J1
  ⟨_,_,[],rq,Ac,rq,(λy hy=>by cases hy),hb.same s1,Ag.of s1,QbZ⟩ (λi U HH hi h=>?_) (fun U HH h=>?_)
 ·obtain⟨u3,u4,ys,rfl,e1,e2,e3,e4,e5,e6⟩:=h;refine⟨_,rq,b,_,rq,e4,by omega,λz HA hz1 hz oz hbA sA=>?_⟩;have eA:=sA _ _ e1 nbf.symm;have s5:Ag b H HA:=e5.trans sA;have fin:∀(y:Str) (HB:Hp),(1<=y.length/\y.length<=8)->okS y->y∉ys->HB lf=some (.lst (ys.map V.str))->Bk HB b (n+9*i+9)->Ag b H HB->∃(u3 u4:Option V) (ys':YF),[some (V.ref b),some (.int many),js lf,some (.int (0+(i:Int))),some (.str y)]=[js b,some (.int many),js lf,u3,u4] /\
    upd HB lf (.lst (ys.map V.str++[.str y])) lf=some (.lst (ys'.map V.str))/\ys'.length=i+1/\(∀y∈ys',(1<=y.length/\y.length<=8)/\okS y)/\Bk (upd HB lf (.lst (ys.map V.str++[.str y]))) b (n+9*(i+1))/\Ag b H (upd HB lf (.lst (ys.map V.str++[.str y])))/\ys'.Nodup:=λy HB hy oy hny hB bB sB=>by
   refine⟨_,_,ys++[y],rq,?_,?_,λx hx=>?_,(bB.Eo Ag.upd nbf).mono (by omega),Ag.Hl sB Ag.upd hlf,Xn e6 hny⟩
   ·rw[Ac,QbH];rfl
   ·rw[QaN,e2];rfl
   ·rcases QbG.mp hx with h | h
    ·exact e3 x h
    ·have:x=y:=by simpa using h
     rw[this];exact⟨hy,oy⟩
  refine⟨_,rq,_,rq,lf,_,rq,.inl (SqL.of eA),rq,SX ys,_,rq,Jo (λ_=>?_) (λhnz=>?_)⟩
  ·refine⟨_,rq,λl2 hl2=>?_⟩;have nfl:lf≠l2:=Ao eA hl2;have hsl:(Txt.slice z (some 1) none).length<=7:=Qcn (ZD z) (by omega);have osl:=oz.slice (some 1) none;let J2:YN:=λi U HH=>∃(u:Option V) (ws:YF),U=[u,some (.str z),js lf]/\HH=upd HA l2 (.lst (ws.map V.str))/\ws.length<=i/\(∀y∈ws,((1<=y.length/\y.length<=8)/\okS y)/\y∉ys)/\((∃j c,j < i/\abc.cps[j]?=some c/\((⟨#[c]⟩ : Str)++Txt.slice z (some 1) none)∉ys)->ws≠[]);refine PX J2
    ⟨none,[],rfl,rfl,Qcr _,(λy hy=>by cases hy),λ⟨j,c,hj,_⟩=>absurd hj (QbO _)⟩ (λj c U HH hc h=>?_) (fun U HH h=>?_)
   ·obtain⟨u,ws,rfl,rfl,l1,l2',l3⟩:=h;have hj:j < 26:=by
     have:=(Qad.mp hc).1;rw[<-QaJ] at this;have e:=Oa;unfold abc at e;omega
    have oc:okS ⟨#[c]⟩:=λd hd=>by
     have:d=c:=by simpa using hd
     rw[this];exact bV c (Array.mem_toList_iff.mpr (Array.mem_of_getElem? hc))
    have hlen:(⟨#[c]⟩ : Str).length+(Txt.slice z (some 1) none).length<=sizeLine:=by
     show 1+_<=sizeLine;rw[Qcv];omega
    have hzl:z.length<=sizeLine:=by rw[Qcv];omega
    have eB:upd HA l2 (.lst (ws.map V.str)) lf=some (.lst (ys.map V.str)):=by rw[Ar nfl];exact eA
    refine⟨_,rq,_,rq,_,rq,_,rq,hzl,_,_,rq,rq,hlen,_,rq,lf,_,rq,.inl (SqL.of eB),rq,SX ys,_,rq,Jo (λt=>?_) (λt=>?_)⟩
    ·refine⟨_,rq,_,rq,_,rq,_,rq,hzl,_,_,rq,rq,hlen,_,Ac,Aq (by rw[QbF];omega),_,ws++[(⟨#[c]⟩ : Str)++Txt.slice z (some 1) none],rq,?_,?_,λy hy=>?_,λ_ e=>?_⟩
     ·rw[Xc,QbH];rfl
     ·rw[QaN];show _+1<=_;omega
     ·rcases QbG.mp hy with h | h
      ·exact l2' y h
      ·have e:y=(⟨#[c]⟩ : Str)++Txt.slice z (some 1) none:=by simpa using h
       rw[e];refine⟨⟨⟨by rw[Qbd];show 1<=1+_;omega,by rw[Qbd];show 1+_<=8;omega⟩,oc.append osl⟩,λhin=>?_⟩;have t:(!inV (.str ((⟨#[c]⟩ : Str)++Txt.slice z (some 1) none)) (ys.map V.str))=true:=t;rw[(Lz _ ys).mpr hin] at t;cases t
     ·have:=congrArg List.length e;rw[QaN] at this;simp at this
    ·refine⟨_,ws,rfl,rfl,by omega,l2',λ⟨j',c',hj',hc',hn'⟩=>?_⟩;by_cases ej:j'=j
     ·subst ej;have ec:c'=c:=by
       have e1:abc.cps[j']?=some c:=hc;rw[hc'] at e1;exact QbK e1
      subst ec;exfalso;apply t;show (!inV (.str ((⟨#[c']⟩ : Str)++Txt.slice z (some 1) none)) (ys.map V.str))=true;cases e:inV (.str ((⟨#[c']⟩ : Str)++Txt.slice z (some 1) none)) (ys.map V.str) with
      | false=>rfl
      | true=>exact absurd ((Lz _ ys).mp e) hn'
     ·exact l3 ⟨j',c',by omega,hc',hn'⟩
   ·obtain⟨u,ws,rfl,rfl,l1,l2',l3⟩:=h;obtain⟨j,c,hc,hnot⟩:=WT (Txt.slice z (some 1) none) (ys:=ys) (by omega);have hws:=l3 ⟨j,c,(Qad.mp hc).1,hc,hnot⟩;cases ws with
    | nil=>exact absurd rfl hws
    | cons w0 wr=>
     obtain⟨⟨y1,y2⟩,y3⟩:=l2' w0 (QaQ ..);have s2:=Ad hl2 (.lst ((w0::wr).map V.str));have eB:=s2 _ _ eA;refine⟨l2,_,_,_,rq,rq,SqL.of Ac,Fy (xs:=(w0::wr).map V.str) (j:=0) rfl,?_⟩;refine⟨_,rq,.inl ⟨rq,_,SqL.of eB⟩,_,rq,lf,_,_,rq,rq,eB,Aq (by rw[QbF];omega),?_⟩;exact fin w0 _ y1 y2 y3 eB (hbA.same s2) (s5.trans (Ag.of s2))
  ·refine⟨_,rq,.inl ⟨rq,_,SqL.of eA⟩,_,rq,lf,_,_,rq,rq,eA,Aq (by rw[QbF];omega),?_⟩;exact fin z HA ⟨hz1,hz⟩ oz (λhin=>hnz ((Lz _ ys).mpr hin)) eA hbA s5
 ·obtain⟨u3,u4,ys,rfl,e1,e2,e3,e4,e5,e6⟩:=h;exact⟨_,rq,q lf ys HH hlf e2 e3 e6 e1 e4 e5⟩
end
structure Dev where
 kind:Str
 addr:Int
structure Place where
 kind:Str
 addr:Int
 spur:List Dev
def Er (H:Hp) (v:V) (d:Dev):Prop:=∃t,v=.ref t/\H t=some (.tup [.str d.kind,.int d.addr])
def CZ (H:Hp) (v:V) (p:Place):Prop:=∃t u vs,v=.ref t/\H t=some (.tup [.str p.kind,.int p.addr,.ref u])/\H u=some (.tup vs)/\Paired (Er H) vs p.spur
def LoopAt (H:Hp) (v:V) (ps:List Place):Prop:=∃t vs,v=.ref t/\H t=some (.tup vs)/\Paired (CZ H) vs ps
theorem Er.tups {H H':Hp} (s:Ak H H') {v:V} {d:Dev} (h:Er H v d):Er H' v d:=by
 obtain⟨t,e,q⟩:=h;exact⟨t,e,s _ _ q⟩
theorem CZ.tups {H H':Hp} (s:Ak H H') {v:V} {d:Place} (h:CZ H v d):CZ H' v d:=by
 obtain⟨t,u,vs,e,q1,q2,q3⟩:=h;exact⟨t,u,vs,e,s _ _ q1,s _ _ q2,Paired.Bg q3 λ_ _ z=>z.tups s⟩
theorem LoopAt.tups {H H':Hp} (s:Ak H H') {v:V} {d:List Place} (h:LoopAt H v d):LoopAt H' v d:=by
 obtain⟨t,vs,e,q1,q2⟩:=h;exact⟨t,vs,e,s _ _ q1,Paired.Bg q2 λ_ _ z=>z.tups s⟩
theorem Paired.Dh {α β : Type} {F:α->β->Prop}:∀{l₁ : List α} {l₂ : List β} {i:Nat} {x:α},Paired F l₁ l₂->l₁[i]?=some x->∃y,l₂[i]?=some y/\F x y
 | _,_,_,_,.nil,h=>by simp at h
 | _,_,0,_,.cons a _,h=>by simp at h;subst h;exact⟨_,rfl,a⟩
 | _,_,i+1,x,.cons _ t,h=>by
  obtain⟨y,h1,h2⟩:=Paired.Dh (i:=i) (x:=x) t (by simpa using h);exact⟨y,by simpa using h1,h2⟩
theorem Qct {α β : Type} {F:α->β->Prop} {a:α} {b:β} (h:F a b):∀{l₁ : List α} {l₂ : List β},Paired F l₁ l₂->Paired F (l₁++[a]) (l₂++[b])
 | _,_,.nil=>.cons h .nil
 | _,_,.cons x t=>.cons x (Qct h t)
def Dl (k:Str):Prop:=k="seeker"\/k="knob"\/k="bell"\/k="door"
structure OkP (p:Place):Prop where
 spur:p.spur.length<=3
 kinds:∀d∈p.spur,Dl d.kind
 form:(p.kind="opener"/\p.addr=0/\p.spur=[])\/Dl p.kind
structure Zone where
 name:Str
 adr:List Int
def CT (H:Hp) (v:V) (z:Zone):Prop:=∃t u,v=.ref t/\H t=some (.tup [.str z.name,.ref u])/\H u=some (.tup (z.adr.map V.int))
theorem CT.tups {H H':Hp} (s:Ak H H') {v:V} {z:Zone} (h:CT H v z):CT H' v z:=by
 obtain⟨t,u,e,q1,q2⟩:=h;exact⟨t,u,e,s _ _ q1,s _ _ q2⟩
def Nq (k:Str):Bool:=inV (.str k) [.str "seeker",.str "knob"]
def Ep (p:Place):List Dev:=⟨p.kind,p.addr⟩::p.spur
def Gu (ds:List Dev):List Int:=(ds.filter λd=>Nq d.kind).map (·.addr)
def GZ (ps:List Place):List Int:=ps.flatMap λp=>Gu (Ep p)
abbrev YU:=List (List Place)
def Ef (ls:YU):List Int:=ls.flatMap GZ
theorem Zt (ds:List Dev) (d:Dev):Gu (ds++[d])=Gu ds++(if Nq d.kind=true then [d.addr] else []):=by
 unfold Gu;rw[List.filter_append,QbH];congr 1;by_cases h:Nq d.kind=true
 ·rw[if_pos h];simp[List.filter,h]
 ·rw[if_neg h];simp[List.filter,h]
theorem Zr (ps:List Place) (p:Place):GZ (ps++[p])=GZ ps++Gu (Ep p):=by unfold GZ;rw[QaL];simp
theorem XS (ls:YU) (ps:List Place):Ef (ls++[ps])=Ef ls++GZ ps:=by unfold Ef;rw[QaL];simp
def ptS (a:List Int×Int) (p:Place):List Int×Int:=if V.str p.kind=V.str "opener" then (a.1++[a.2],0) else (a.1,a.2+1+(p.spur.length:Int))
def pst (ps:List Place):List Int×Int:=ps.foldl ptS ([],0)
def GR (ps:List Place):List Int:=(pst ps).1++[(pst ps).2]
theorem dB (ps:List Place) (p:Place):pst (ps++[p])=ptS (pst ps) p:=by unfold pst;rw[List.foldl_append];rfl
abbrev O4:Stmt:=top 41
abbrev JT:YF:=["_law_bag_here","_law_numbers","_law_most_places"]
theorem G9:Bc ["_law_bag_here","_law_numbers","_law_most_places","_law_places","_law_at","_law_many","_law_some","_law_way"] JT (Al O4):=by ac_rfl
abbrev M4:Stmt:=top 42
abbrev IV:YF:=["_law_places"]
theorem Hq:Bc ["_law_places","_law_found","_law_kind","_law_address","_law_spur"] IV (Al M4):=by ac_rfl
def Bs (a b:Addr) (H H':Hp):Prop:=∀c o,H c=some o->c≠a->c≠b->H' c=some o
theorem Bs.trans {a b:Addr} {H H1 H2:Hp} (x:Bs a b H H1) (y:Bs a b H1 H2):Bs a b H H2:=λc o e n m=>y _ _ (x _ _ e n m) n m
theorem Bs.l {a b:Addr} {H H1:Hp} (x:Ag a H H1):Bs a b H H1:=λc o e n _=>x _ _ e n
theorem Bs.r {a b:Addr} {H H1:Hp} (x:Ag b H H1):Bs a b H H1:=λc o e _ m=>x _ _ e m
theorem Bs.of {a b:Addr} {H H1:Hp} (x:Same H H1):Bs a b H H1:=λc o e _ _=>x _ _ e
theorem Bs.Hl {a b p:Addr} {H HH H':Hp} (s:Bs a b H HH) (t:Ag p HH H') (f:H p=none):Bs a b H H':=λc o e n m=>t _ _ (s _ _ e n m) λz=>by rw[z,f] at e;cases e
def adP (p:Place):List Int:=if V.str p.kind=V.str "opener" then [] else p.addr::p.spur.map (·.addr)
def adL (ps:List Place):List Int:=ps.flatMap adP
theorem Qd (ps:List Place) (p:Place):adL (ps++[p])=adL ps++adP p:=by unfold adL;rw[QaL];simp
def opP:Place:=⟨"opener",0,[]⟩
theorem gM:OkP opP:=⟨by show 0<=3;decide,(λd hd=>by cases hd),.inl ⟨rfl,rfl,rfl⟩⟩
theorem bU:adP opP=[]:=if_pos rfl
theorem Hx {k:Str} (h:Dl k):¬V.str k=V.str "opener":=by
 rcases h with rfl | rfl | rfl | rfl <;> decide +kernel
theorem jz {i:Int} (h0:0<=i) (h4:i < 4):∃k,atI [V.str "seeker",.str "knob",.str "bell",.str "door"] i=some (.str k)/\Dl k:=by
 have:i=0\/i=1\/i=2\/i=3:=by omega
 rcases this with rfl | rfl | rfl | rfl
 ·exact⟨_,rq,.inl rfl⟩
 ·exact⟨_,rq,.inr (.inl rfl)⟩
 ·exact⟨_,rq,.inr (.inr (.inl rfl))⟩
 ·exact⟨_,rq,.inr (.inr (.inr rfl))⟩
theorem Ma {xs:YG} {k:Nat} (h:k<=xs.length):Fz xs (some (k:Int)) none=xs.drop k:=by
 unfold Fz;rw[HT.O6,HT.Xi,Nat.min_eq_left h];exact Qaw (by rw[Qby];omega)
theorem ZL {n:Nat} (h:0 < n):seqIndex? 0 n=some 0:=by
 unfold seqIndex?;simp only[if_neg (show ¬(0:Int) < 0 by decide)];rw[if_pos (by simp;omega)];rfl
inductive Uv (vs:YG) (H:Hp) (Q:VK) (E:XK):Prop
 | mk (b nb:Addr) (n mp:Nat) (ns:List Int) (_:vs=[.ref b,.ref nb,.int mp]) (_:Bk H b n) (_:n<=5000) (_:b≠nb) (_:H nb=some (.lst (ns.map V.int))) (_:1<=mp) (_:mp<=12) (_:ns.length<=100) (_:∀t ps ns' H',LoopAt H' (.ref t) ps->(∀p∈ps,OkP p)->1<=ps.length->ps.length<=mp->ns=adL ps++ns'->H' nb=some (.lst (ns'.map V.int))->Bk H' b (n+100)->Bs b nb H H'->Q (.ref t) H'):Uv vs H Q E
inductive Oz (vs:YG) (H:Hp) (Q:VK) (E:XK):Prop
 | mk (t:Addr) (ps:List Place) (_:vs=[.ref t]) (_:LoopAt H (.ref t) ps) (_:(∀p∈ps,OkP p)) (_:ps.length<=100) (_:∀l H',H' l=some (.lst ((GR ps).map V.int))->Same H H'->Q (.ref l) H'):Oz vs H Q E
def gY (b nb lp:Addr) (mp:Int) (H:Hp) (n:Nat) (ns:List Int) (i:Nat) (U : St) (HH:Hp):Prop:=
 ∃u4 u5 u6 u7 vs ps ns',U=[js b,js nb,some (.int mp),js lp,u4,u5,u6,u7]/\HH lp=some (.lst vs)/\Paired (CZ HH) vs ps/\ps.length=i/\(∀p∈ps,OkP p)/\ns=adL ps++ns'/\HH nb=some (.lst (ns'.map V.int))/\Bk HH b (n+1+7*i)/\Bs b nb H HH
section
variable {P:Program} {w:World} {K:YD} {mg:YB} {base:Heap}
theorem iZ (C:Code K mg "_law_loop" O4 JT) (T:Nm mg) (Bj:Good P w K mg base "_law_take" 1 FW KY):Good P w K mg base "_law_loop" 2 JT Uv:=by
 refine C.good G9 (λvs H Q E h=>?_) (λf cdv A outer s H vs Q E hr h=>?_)
 ·obtain⟨b,nb,n,mp,ns,rfl,_⟩:=h;rfl
 obtain⟨b,nb,n,mp,ns,rfl,hb,hn,nbn,hnb,wJ,hmp,hns,q⟩:=h;refine⟨_,(Af (Az (i:=3) G9.nd rfl (Or.inl rfl) (Cp Ab))
 (Af (Cw QbJ rfl (Ez rfl T.range (Aa (Av Cz Ae (Ca Bj hr (Aa (pv 0) (Aa (pv 2) Ab)))) Ab)) (Ah (i:=4) G9.nd rfl (Or.inl rfl))
 (Af (Az (i:=5) G9.nd rfl (Or.inl rfl) (Av Cz Ae (Cu CJ (@Cp _ _ _ _ (@Aa _ _ _ _ _ (@Ae _ _ _ _) (@Aa _ _ _ _ _ (@Ae _ _ _ _) (@Aa _ _ _ _ _ (@Ae _ _ _ _) (@Aa _ _ _ _ _ (@Ae _ _ _ _) (@Aa _ _ _ _ _ (@Ae _ _ _ _) (@Aa _ _ _ _ _ (@Ae _ _ _ _) (@Ab _) Bl) Bl) Bl) Bl) Bl) Bl)) (Ca Bj hr (Aa (pv 0) (Aa Ae Ab))) (λ_ _=>rfl))))
 (Ai (Cj (PW.pt (Ip (BX Gm (Ca Bj hr (Aa (pv 0) (Aa Ae Ab))) Ae (Cd _)) (Iw (BX Yr (Ay CG rfl T.len Ek (Aa (pv 1) Ab)) (pv 5) (Cd _))))) (Ai (Cr (BR Qap Qak Qal Ce (pv 3) (Aa (BZ (Aa Bb (Aa Ae (Aa (BZ Ab) Ab)))) Ab)))) (Af (Az (i:=6) G9.nd rfl (Or.inl rfl) (Cp Ab))
 (Af (Cw QbJ rfl (Ez rfl T.range (Aa (pv 5) Ab)) (Ah (i:=7) G9.nd rfl (Or.inl rfl))
 (Ai (Cr (BR Qap Qak Qal Ce (pv 6) (Aa (BZ (Aa (Cu CJ (Cp (Aa Bb (Aa Bb (Aa Bb (Aa Bb Ab))))) (Ca Bj hr (Aa (pv 0) (Aa Ae Ab))) (λ_ _=>rfl)) (Aa (BR Qap PySem.F.slot_list_pop PySem.F.type_list_pop Vt (pv 1) (Aa Ae Ab)) Ab))) Ab)))))
 (Ai (Cr (BR Qap Qak Qal Ce (pv 3) (Aa (Av Lp (Cu CJ (pv 6) Ae (λ_ _=>rfl)) (BZ (Aa (Bo Bm rfl T.tuple Cm (Aa (FP Q9 (pv 6) (Hf Ae) Hg) Ab)) Ab))) Ab))))))))))
 (Ai (Ba (Bo Bm rfl T.tuple Cm (Aa (pv 3) Ab)))))),?_⟩
 show let R0:TS:=_;let R1:TS:=_;let R2:TS:=_;let R3:TS:=_;let R4:TS:=Am (Dy _ _ R3) R2;let R5:TS:=Am _ R4;let R6:TS:=Hj _ R1 R5;let R7:TS:=Am _ R6;let R8:TS:=Am (Dy _ _ R7) R0;Am _ R8 _ _ _;intro R0 R1 R2 R3 R4 R5 R6 R7 R8;refine⟨Aw (by show 0<=1000;decide),λlp hlp=>?_⟩;have s0:=Ad hlp (.lst []);have nlb:b≠lp:=hb.nb hlp;have nln:nb≠lp:=Ao hnb hlp;refine⟨_,rq,_,rq,b,n,_,rq,hb.same s0,by omega,by omega,by omega,λr H1 r0 r1 hb1 sb1=>⟨_,_,rq,rq,_,rq,by omega,by omega,?_⟩⟩;obtain⟨rn,hrn⟩ : ∃rn:Nat,r=rn:=⟨r.toNat,by omega⟩;subst hrn;rw[show ((1:Int)+(rn:Int)).toNat=rn+1 by omega];have wC:∀{H2 H3:Hp},H2 lp=some (.lst [])->True:=λ_=>True.intro;refine Jh (gY b nb lp mp H n ns) ⟨_,_,_,_,[],[],ns,rq,sb1 _ _ Ac nlb.symm,.nil,rq,(λp hp=>by cases hp),rq,sb1 _ _ (s0 _ _ hnb) nbn.symm,hb1,(Bs.of s0).trans (Bs.l sb1)⟩ (λi U HH hi h=>?_) (fun U HH h=>?_)
 ·obtain⟨u4,u5,u6,u7,vs,ps,ns',rfl,e1,e2,e3,e4,e5,e6,e7,e8⟩:=h;have lX:i < 12:=by omega
  have hlv:=Qcd e2;refine⟨Aw (by show 6<=1000;decide),λl6 hl6=>?_⟩;have s6:=Ad hl6 (.lst [.int 0,.int 0,.int 0,.int 1,.int 2,.int 3]);refine⟨_,rq,b,_,6,rq,e7.same s6,by omega,by decide,by decide,λr2 HA r20 r21 hbA sA=>?_⟩;obtain⟨m,em,m0,m3⟩:=vd r20 r21 (a:=0) (b:=0) (c:=0) (d:=1) (e:=2) (f:=3) (λp=>0<=p/\p<=3) (by decide) (by decide) (by decide) (by decide) (by decide) (by decide);obtain⟨mn,hmn⟩ : ∃mn:Nat,m=mn:=⟨m.toNat,by omega⟩;subst hmn;refine⟨l6,_,_,_,rq,rq,SqL.of (sA _ _ Ac (e7.nb hl6).symm),em,_,_,rq,rq,?_⟩;refine⟨_,rq,b,_,4,rq,hbA,by omega,by decide,by decide,λr3 HB r30 r31 hbB sB=>⟨rq,_,rq,?_⟩⟩;have sHB:Ag b HH HB:=((Ag.of s6).trans sA).trans sB;have tHB:Ak HH HB:=sHB.tup e7.Df;have f1:=sHB _ _ e1 nlb.symm;have f2:Paired (CZ HB) vs ps:=Paired.Bg e2 λ_ _ z=>z.tups tHB;have f6:=sHB _ _ e6 nbn.symm;have f8:Bs b nb H HB:=e8.trans (Bs.l sHB);have opn:∀eo,HB eo=none->∀t,upd HB eo (.tup []) t=none->gY b nb lp mp H n ns (i+1) [js b,js nb,some (.int mp),js lp,some (.int (0+(i:Int))),some (.int (1+(mn:Int))),u6,u7] (upd (upd (upd HB eo (.tup [])) t (.tup [.str "opener",.int 0,.ref eo])) lp (.lst (vs++[.ref t]))):=λeo heo t ht=>by
   have t1:=Ad heo (.tup []);have t2:=Ad ht (.tup [.str "opener",.int 0,.ref eo]);have f1':=t2 _ _ (t1 _ _ f1);have nt:∀zs,(upd (upd HB eo (.tup [])) t (.tup [.str "opener",.int 0,.ref eo])) lp≠some (.tup zs):=λzs z=>by rw[f1'] at z;cases z
   have tu:=Ak.upd (o:=.lst (vs++[.ref t])) nt;refine⟨_,_,_,_,vs++[.ref t],ps++[opP],ns',rq,Ac,?_,by rw[QaN,e3];rfl,λp hp=>?_,?_,?_,?_,?_⟩
   ·refine Qct ⟨t,eo,[],rq,tu _ _ Ac,tu _ _ (t2 _ _ Ac),.nil⟩ (Paired.Bg f2 λ_ _ z=>(z.tups (Ak.of (t1.trans t2))).tups tu)
   ·rcases QbG.mp hp with z | z
    ·exact e4 p z
    ·have:p=opP:=by simpa using z
     rw[this];exact gM
   ·rw[Qd,bU,QbI];exact e5
   ·rw[Ar nln];exact t2 _ _ (t1 _ _ f6)
   ·exact (((hbB.same t1).same t2).Eo Ag.upd nlb).mono (by omega)
   ·exact (f8.trans (Bs.of (t1.trans t2))).Hl Ag.upd hlp
  refine Jo (λ_=>?_) (λ_=>?_)
  ·refine⟨_,rq,.inl ⟨rq,_,SqL.of f1⟩,Aw (by show 0<=1000;decide),λeo heo=>⟨Aw (by show 3<=1000;decide),λt ht=>⟨lp,_,_,rq,rq,Ad ht _ _ _ (Ad heo _ _ _ f1),Aq (by omega),opn eo heo t ht⟩⟩⟩
  ·refine⟨_,rq,nb,_,rq,.inl (SqL.of f6),_,rq,_,_,rq,rq,_,rq,Jo (λ_=>?_) (λcc=>?_)⟩
   ·refine⟨_,rq,.inl ⟨rq,_,SqL.of f1⟩,Aw (by show 0<=1000;decide),λeo heo=>⟨Aw (by show 3<=1000;decide),λt ht=>⟨lp,_,_,rq,rq,Ad ht _ _ _ (Ad heo _ _ _ f1),Aq (by omega),opn eo heo t ht⟩⟩⟩
   ·have cc:¬(((ns'.map V.int).length:Nat):Int) < 1+(mn:Int):=λz=>cc (QbX z);rw[QbF] at cc;refine⟨Aw (by show 0<=1000;decide),λls hls=>?_⟩;have sl:=Ad hls (.lst []);have pQ:lp≠ls:=Ao f1 hls;have lC:nb≠ls:=Ao f6 hls;have lD:b≠ls:=hbB.nb hls;refine⟨_,rq,_,rq,by omega,by omega,?_⟩;rw[show ((1:Int)+(mn:Int)).toNat=mn+1 by omega];have wL:H ls=none->True:=λ_=>True.intro;let J0:YN:=λj U HC=>∃u7 xs ds ns2,U=[js b,js nb,some (.int mp),js lp,some (.int (0+(i:Int))),some (.int (1+(mn:Int))),js ls,u7]/\HC ls=some (.lst xs)/\Paired (Er HC) xs ds/\ds.length=j/\(∀d∈ds,Dl d.kind)/\ns'=ds.map (·.addr)++ns2/\HC nb=some (.lst (ns2.map V.int))/\Bk HC b (n+1+7*i+1+1+j)/\HC lp=some (.lst vs)/\Paired (CZ HC) vs ps/\(∀c o,HB c=some o->c≠b->c≠nb->HC c=some o);refine Jh J0
     ⟨_,[],[],ns',rq,Ac,.nil,rq,(λd hd=>by cases hd),rq,sl _ _ f6,hbB.same sl,sl _ _ f1,Paired.Bg f2 λ_ _ z=>z.tups (Ak.of sl),λc o e _ _=>sl _ _ e⟩ (λj U HC hj h=>?_) (fun U HC h=>?_)
    ·obtain⟨u7,xs,ds,ns2,rfl,g1,g2,g3,g4,g5,g6,g7,g8,g9,g10⟩:=h;refine⟨_,rq,.inl ⟨rq,_,SqL.of g1⟩,Aw (by show 4<=1000;decide),λl4 hl4=>?_⟩;have s4:=Ad hl4 (.lst [.str "seeker",.str "knob",.str "bell",.str "door"]);refine⟨_,rq,b,_,4,rq,g7.same s4,by omega,by decide,by decide,λr4 HD r40 r41 hbD sD=>?_⟩;obtain⟨k,ek,hk⟩:=jz r40 r41;have sCD:Ag b HC HD:=(Ag.of s4).trans sD;have tCD:Ak HC HD:=sCD.tup g7.Df;have g6':=sCD _ _ g6 nbn.symm;cases ns2 with
     | nil=>
      rw[QbI] at g5;have:=congrArg List.length g5;rw[QbF,g3] at this;omega
     | cons a0 ns3=>
      refine⟨l4,_,_,_,rq,rq,SqL.of (sD _ _ Ac (g7.nb hl4).symm),ek,_,rq,.inl ⟨rq,_,SqL.of g6'⟩,nb,_,0,0,.int a0,rq,rq,g6',by decide,by decide,ZL (by rw[QbF];show 0 < _+1;omega),rq,Aw (by show 2<=1000;decide),λt ht=>?_⟩;have tn:Ak HD (upd HD nb (.lst (((a0::ns3).map V.int).eraseIdx 0))):=Ak.upd λzs z=>by rw[g6'] at z;cases z
      have tt:=Ad ht (.tup [.str k,.int a0]);have gls:upd HD nb (.lst (((a0::ns3).map V.int).eraseIdx 0)) ls=some (.lst xs):=by rw[Ar lC.symm];exact sCD _ _ g1 lD.symm
      refine⟨ls,_,_,rq,rq,tt _ _ gls,Aq (by rw[Qcd g2];omega),?_⟩;have nt:∀zs,(upd (upd HD nb (.lst (((a0::ns3).map V.int).eraseIdx 0))) t (.tup [.str k,.int a0])) ls≠some (.tup zs):=λzs z=>by rw[tt _ _ gls] at z;cases z
      have tu:=Ak.upd (o:=.lst (xs++[.ref t])) nt;have jL:Ak HC (upd (upd (upd HD nb (.lst (((a0::ns3).map V.int).eraseIdx 0))) t (.tup [.str k,.int a0])) ls (.lst (xs++[.ref t]))):=(tCD.trans tn).trans ((Ak.of tt).trans tu);refine⟨_,xs++[.ref t],ds++[⟨k,a0⟩],ns3,rq,Ac,Qct ⟨t,rq,tu _ _ Ac⟩ (Paired.Bg g2 λ_ _ z=>z.tups jL),by rw[QaN,g3];rfl,λd hd=>?_,?_,?_,?_,?_,Paired.Bg g9 λ_ _ z=>z.tups jL,λc o e n1 n2=>?_⟩
      ·rcases QbG.mp hd with z | z
       ·exact g4 d z
       ·have:d=⟨k,a0⟩:=by simpa using z
        rw[this];exact hk
      ·rw[g5,QbH,Qbe];rfl
      ·rw[Ar lC,tt _ _ Ac];rfl
      ·exact ((hbD.Eo Ag.upd nbn).same tt).Eo Ag.upd lD
      ·rw[Ar pQ,tt _ _ (by rw[Ar nln.symm];exact sCD _ _ g8 nlb.symm)]
      ·have e':=sCD _ _ (g10 _ _ e n1 n2) n1;rw[Ar (λz=>by rw[z,hls] at e;cases e),tt _ _ (by rw[Ar n2];exact e')]
    ·obtain⟨u7,xs,ds,ns2,rfl,g1,g2,g3,g4,g5,g6,g7,g8,g9,g10⟩:=h;cases ds with
     | nil=>cases g3
     | cons d0 dr=>
      cases g2 with
      | @cons x0 _ xr _ hd0 hdr=>
       obtain⟨t0,rfl,ht0⟩:=hd0;have lxr:=Qcd hdr;have ldr:dr.length=mn:=by simpa using g3
       refine⟨_,rq,.inl ⟨rq,_,SqL.of g8⟩,_,rq,ls,_,_,_,rq,rq,SqL.of g1,Fy (xs:=.ref t0::xr) (j:=0) rfl,_,rq,_,rq,ls,_,rq,SqL.of g1,λp1 hp1=>?_⟩;have ec:Fz (.ref t0::xr) (some 1) none=xr:=Ma (xs:=.ref t0::xr) (k:=1) (by simp);rw[ec] at *;have sp1:=Ad hp1 (.lst xr);refine⟨p1,_,rq,.inl ⟨SqL.of Ac,λtu htu=>⟨Aw (by show 1<=1000;decide),λt1 ht1=>?_⟩⟩⟩;have sp2:=Ad htu (.tup xr);have sp3:=Ad ht1 (.tup [.ref tu]);have sp:=(sp1.trans sp2).trans sp3;refine⟨t0,t1,_,_,rq,rq,sp _ _ ht0,Ac,Aw (by show 2+1<=1000;decide),λtp HE hE sE=>?_⟩;have spE:=sp.trans sE;have g8':=spE _ _ g8;refine⟨lp,_,_,rq,rq,g8',Aq (by omega),?_⟩;have nt:∀zs,HE lp≠some (.tup zs):=λzs z=>by rw[g8'] at z;cases z
       have tv:=Ak.upd (o:=.lst (vs++[.ref tp])) nt;have okp:OkP ⟨d0.kind,d0.addr,dr⟩:=⟨by show dr.length<=3;omega,λd hd=>g4 d (QaD _ hd),.inr (g4 d0 (QaQ ..))⟩;refine⟨_,_,_,_,vs++[.ref tp],ps++[⟨d0.kind,d0.addr,dr⟩],ns2,rq,Ac,?_,by rw[QaN,e3];rfl,λp hp=>?_,?_,?_,?_,?_⟩
       ·refine Qct ⟨tp,tu,xr,rq,tv _ _ hE,tv _ _ (sE _ _ (sp3 _ _ Ac)),Paired.Bg hdr λ_ _ z=>(z.tups (Ak.of spE)).tups tv⟩ (Paired.Bg g9 λ_ _ z=>(z.tups (Ak.of spE)).tups tv)
       ·rcases QbG.mp hp with z | z
        ·exact e4 p z
        ·have:p=⟨d0.kind,d0.addr,dr⟩:=by simpa using z
         rw[this];exact okp
       ·rw[Qd,e5,g5,Qbe];congr 1;have:adP ⟨d0.kind,d0.addr,dr⟩=d0.addr::dr.map (·.addr):=if_neg (Hx (g4 d0 (QaQ ..)));rw[this];rfl
       ·rw[Ar nln];exact spE _ _ g6
       ·exact ((g7.same spE).Eo Ag.upd nlb).mono (by omega)
       ·refine Bs.Hl (λc o e n1 n2=>spE _ _ (g10 _ _ (f8 _ _ e n1 n2) n1 n2)) Ag.upd hlp
 ·obtain⟨u4,u5,u6,u7,vs,ps,ns',rfl,e1,e2,e3,e4,e5,e6,e7,e8⟩:=h;refine⟨_,rq,lp,_,rq,.inl ⟨SqL.of e1,λt ht=>?_⟩⟩;have st:=Ad ht (.tup vs);exact q t ps ns' _ ⟨t,vs,rq,Ac,Paired.Bg e2 λ_ _ z=>z.tups (Ak.of st)⟩ e4 (by omega) (by omega) e5 (st _ _ e6) ((e7.same st).mono (by omega)) (e8.trans (Bs.of st))
end
abbrev Ih:Stmt:=top 43
abbrev JQ:YF:=["_law_bag_here","_law_most_loops","_law_most_places"]
abbrev xb:YF:=["_law_bag_here","_law_most_loops","_law_most_places","_law_start","_law_stride","_law_numbers","_law_own","_law_first","_law_at","_law_loops","_law_loop_here","_law_most","_law_told","_law_places","_law_kind","_law_address","_law_spur","_law_zones","_law_names_here","_law_name_here","_law_some"]
theorem Bq:Bc xb JQ (Al Ih):=by ac_rfl
theorem Wf (xs:YG) (y:V):atI (xs++[y]) (-1)=some y:=by
 unfold atI ixN;rw[if_neg (by decide),QaN,QaA,if_pos (by omega),show (-1+((xs.length+1:Nat):Int)).toNat=xs.length by omega];show (xs++[y])[xs.length]?=some y;rw[Qae (Qcr _),Nat.sub_self];rfl
theorem eX (xs:YG) (y:V):ixN (xs++[y]).length (-1)=some xs.length:=by
 unfold ixN;rw[if_neg (by decide),QaN,QaA,if_pos (by omega),show (-1+((xs.length+1:Nat):Int)).toNat=xs.length by omega]
theorem cY (xs:YG) (y z:V):(xs++[y]).set xs.length z=xs++[z]:=by
 rw[List.set_append_right _ _ (Qcr _),Nat.sub_self];rfl
theorem u0 {i:Int} (h0:0<=i) (h9:i < 9) {a b c d e f g h k:Int} (P:Int->Prop) (ha:P a) (hb:P b) (hc:P c) (hd:P d) (he:P e) (hf:P f) (hg:P g) (hh:P h) (hk:P k):∃p,atI [V.int a,.int b,.int c,.int d,.int e,.int f,.int g,.int h,.int k] i=some (.int p)/\P p:=by
 have:i=0\/i=1\/i=2\/i=3\/i=4\/i=5\/i=6\/i=7\/i=8:=by omega
 rcases this with rfl | rfl | rfl | rfl | rfl | rfl | rfl | rfl | rfl
 ·exact⟨_,rq,ha⟩
 ·exact⟨_,rq,hb⟩
 ·exact⟨_,rq,hc⟩
 ·exact⟨_,rq,hd⟩
 ·exact⟨_,rq,he⟩
 ·exact⟨_,rq,hf⟩
 ·exact⟨_,rq,hg⟩
 ·exact⟨_,rq,hh⟩
 ·exact⟨_,rq,hk⟩
theorem bf (ns:List Int):(ns.map V.int).all Iu=true:=by
 rw[List.all_map,QbD];intro _ _;rfl
theorem mV {xs:YG} {m:Nat} (h:m<=xs.length):Fz xs none (some (m:Int))=xs.take m:=by
 unfold Fz;rw[HT.O6,HT.Xi,Nat.min_eq_left h];rfl
theorem Paired.gD {α β : Type} {F:α->β->Prop}:∀{l:List α} {r:List β} (n:Nat),Paired F l r->Paired F (l.take n) (r.take n)
 | _,_,0,_=>.nil
 | _,_,_+1,.nil=>.nil
 | _,_,n+1,.cons h t=>.cons h (Paired.gD n t)
theorem Paired.gU {α β : Type} {F:α->β->Prop}:∀{l:List α} {r:List β} (n:Nat),Paired F l r->Paired F (l.drop n) (r.drop n)
 | _,_,0,h=>h
 | _,_,_+1,.nil=>.nil
 | _,_,n+1,.cons h t=>Paired.gU n t
theorem Paired.app {α β : Type} {F:α->β->Prop}:∀{a₁ b₁ : List α} {a₂ b₂ : List β},Paired F a₁ a₂->Paired F b₁ b₂->Paired F (a₁++b₁) (a₂++b₂)
 | _,_,_,_,.nil,t=>t
 | _,_,_,_,.cons r s,t=>.cons r (Paired.app s t)
theorem Xk:∀(ps:List Place) (a:List Int×Int),(ps.foldl ptS a).1.sum+(ps.foldl ptS a).2=a.1.sum+a.2+((adL ps).length:Int)
 | [],a=>by show _=_+_+((0:Nat):Int);simp
 | p::r,a=>by
  rw[List.foldl_cons,Xk r];have e:adL (p::r)=adP p++adL r:=by unfold adL;rw[Qbg]
  rw[e,QaN];unfold ptS adP;by_cases h:V.str p.kind=V.str "opener"
  ·rw[if_pos h,if_pos h,List.sum_append];simp
  ·rw[if_neg h,if_neg h,Qbu,QbF];simp only;omega
theorem ZW:∀(ps:List Place) (a:List Int×Int),(∀m∈a.1,0<=m)->0<=a.2->(∀m∈(ps.foldl ptS a).1,0<=m)/\0<=(ps.foldl ptS a).2
 | [],a,h1,h2=>⟨h1,h2⟩
 | p::r,a,h1,h2=>by
  rw[List.foldl_cons];refine ZW r _ ?_ ?_
  ·unfold ptS;split
   ·intro m hm;rcases QbG.mp hm with z | z
    ·exact h1 m z
    ·have:m=a.2:=by simpa using z
     rw[this];exact h2
   ·exact h1
  ·unfold ptS;split
   ·exact Int.le_refl _
   ·show 0<=a.2+1+(p.spur.length:Int);omega
theorem Zz:∀{l:List Int},(∀m∈l,0<=m)->0<=l.sum/\∀m∈l,m<=l.sum
 | [],_=>⟨Int.le_refl _,λm h=>by cases h⟩
 | x::r,h=>by
  obtain⟨h1,h2⟩:=Zz (l:=r) λm hm=>h m (QaD _ hm);have h0:=h x (QaQ ..);rw[List.sum_cons];refine⟨by omega,λm hm=>?_⟩;rcases Qcc.mp hm with rfl | hm
  ·omega
  ·have:=h2 m hm;omega
theorem dO (ps:List Place):∀m∈GR ps,0<=m:=by
 have h:=ZW ps ([],0) (λm hm=>by cases hm) (Int.le_refl _);intro m hm;rcases QbG.mp hm with z | z
 ·exact h.1 m z
 ·have:m=(pst ps).2:=by simpa using z
  rw[this];exact h.2
theorem Sg (ps:List Place):(GR ps).sum=((adL ps).length:Int):=by
 have h:=Xk ps ([],0);unfold GR;rw[List.sum_append];have:(pst ps).1.sum+(pst ps).2=((adL ps).length:Int):=by
  have e:(pst ps).1.sum+(pst ps).2=([]:List Int).sum+0+((adL ps).length:Int):=h;rw[e];simp
 simp;omega
theorem dR (ps:List Place):∀m∈GR ps,m<=((adL ps).length:Int):=λm hm=>by
 have:=(Zz (dO ps)).2 m hm;rw[Sg] at this;exact this
theorem Xe:∀{l:List Int},1<=l.sum->∃m∈l,1<=m
 | [],h=>by simp at h
 | x::r,h=>by
  rw[List.sum_cons] at h;by_cases hx:1<=x
  ·exact⟨x,QaQ ..,hx⟩
  ·obtain⟨m,h1,h2⟩:=Xe (l:=r) (by omega);exact⟨m,QaD _ h1,h2⟩
structure OkL (ps:List Place):Prop where
 lo:1<=ps.length
 hi:ps.length<=12
 ok:∀p∈ps,OkP p
def Bx (ls:YU):List Int:=ls.flatMap adL
structure bW (most:Int) (ja:YU) (jp:List Zone):Prop where
 nd:(Bx ja).Nodup
 bd:∀x∈Bx ja,1<=x/\x<=99
 cnt:1<=(Bx ja).length/\(Bx ja).length<=30
 mo:1<=most/\most<=30
 few:∀ps∈ja,∀m∈GR ps,m<=most
 zin:∀z∈jp,∀x∈z.adr,x∈Ef ja
 znd:(jp.flatMap (·.adr)).Nodup
 zup:∀z∈jp,z.adr.Pairwise (· < ·)/\1<=z.adr.length/\z.adr.length<=30
 Mt:jp.length<=8
 znm:∀z∈jp,(1<=z.name.length/\z.name.length<=8)/\okS z.name
 zdi:(jp.map (·.name)).Nodup
inductive Ut (vs:YG) (H:Hp) (Q:VK) (E:XK):Prop
 | mk (b:Addr) (n ml mp:Nat) (_:vs=[.ref b,.int ml,.int mp]) (_:Bk H b n) (_:n<=1000) (_:1<=ml) (_:ml<=3) (_:2<=mp) (_:mp<=12) (_:∀t Ls zs vs zvs ja jp most H',H' t=some (.tup [.int most,.ref Ls,.ref zs])->H' Ls=some (.tup vs)->Paired (LoopAt H') vs ja->(∀ps∈ja,OkL ps)->1<=ja.length->ja.length<=3->H' zs=some (.tup zvs)->Paired (CT H') zvs jp->bW most ja jp->Bk H' b (n+3000)->Ag b H H'->Q (.ref t) H'):Ut vs H Q E
def jO:TS:=λD U H=>∃(b nb f0:Addr) (n mp:Nat) (ns:List Int),U[0]?=some (some (.ref b))/\U[5]?=some (some (.ref nb))/\U[2]?=some (some (.int mp))/\U[7]?=some (some (.ref f0))/\H f0=some (.tup [])/\Bk H b n/\n<=4000/\b≠nb/\H nb=some (.lst (ns.map V.int))/\2<=mp/\mp<=12/\ns.length<=100 /\
 ∀t vs ps ns' H',H' t=some (.tup vs)->Paired (CZ H') vs ps->(∀p∈ps,OkP p)->ps.length+1<=mp->ns=adL ps++ns'->H' nb=some (.lst (ns'.map V.int))->Bk H' b (n+101)->Bs b nb H H'->D.nx (U.set 7 (some (.ref t))) H'
section
variable {P:Program} {w:World} {K:YD} {mg:YB} {base:Heap}
theorem Z6 (C:Code K mg "_law_parts" M4 IV) (T:Nm mg):Good P w K mg base "_law_parts" 1 IV Oz:=by
 refine C.good Hq (λvs H Q E h=>?_) (λf cdv A outer s H vs Q E hr h=>?_)
 ·obtain⟨t,ps,rfl,_⟩:=h;rfl
 obtain⟨t,ps,rfl,⟨t',vs,et,ht,hps⟩,hok,h100,q⟩:=h;cases et;refine⟨_,(Af (Az (i:=1) Hq.nd rfl (Or.inl rfl) (Cp (Aa Ae Ab)))
 (Af (Cw QbJ rfl (CK (pv 0)) (CN rfl (Aj (Ah (i:=2) Hq.nd rfl (Or.inl rfl)) (Aj (Ah (i:=3) Hq.nd rfl (Or.inl rfl)) (Aj (Ah (i:=4) Hq.nd rfl (Or.inl rfl)) Bp))))
 (Ai (Cj (BX Gm (pv 2) Bb (Cd _)) (Ai (Cr (BR Qap Qak Qal Ce (pv 1) (Aa Ae Ab)))) (Ai (DR (Av Cz (Av Cz (Cu CJ (pv 1) (T4 Qj Ae) (λ_ _=>rfl)) Ae) (Ay CG rfl T.len Ek (Aa (pv 4) Ab))) (Va (pv 1) (T4 Qj Ae) set_list))))))
 (Ai (Ba (pv 1))))),?_⟩
 show let R0:TS:=_;let R1:TS:=_;let R2:TS:=Hj _ R0 R1;let R3:TS:=Am (Dy _ _ R2) _;Am _ R3 _ _ _;intro R0 R1 R2 R3;refine⟨Aw (by show 1<=1000;decide),λlf hlf=>?_⟩;have s1:=Ad hlf (.lst [.int 0]);have lvs:=Qcd hps;refine⟨_,rq,t,rq,⟨_,SqT.of (s1 _ _ ht)⟩,?_⟩;let J0:YN:=λi U HH=>∃(u2 u3 u4:Option V),U=[js t,js lf,u2,u3,u4]/\HH lf=some (.lst ((pst (ps.take i)).1.map V.int++[.int (pst (ps.take i)).2]))/\(pst (ps.take i)).1.length<=i/\Same H HH;refine Ew (xs:=vs) J0 ⟨_,_,_,rq,Ac,Qcr _,s1⟩ (λi U HH _ h=>?_) (λi x U HH hx h=>?_) (fun U HH h=>?_)
 ·obtain⟨u2,u3,u4,rfl,e1,e2,e3⟩:=h;exact SqT.of (e3 _ _ ht)
 ·obtain⟨u2,u3,u4,rfl,e1,e2,e3⟩:=h;obtain⟨p,hp,tp,up,ws,rfl,h1,h2,h3⟩:=Paired.Dh hps hx;have hi:=(Qaf.mp hx).1;have et:pst (ps.take (i+1))=ptS (pst (ps.take i)) p:=by rw[QcB hp,dB]
  have lws:=Qcd h3;generalize pst (ps.take i)=a at *;refine⟨tp,_,rq,SqT.of (e3 _ _ h1),rq,_,_,rq,_,_,rq,_,_,rq,rq,?_⟩;refine⟨_,rq,rq,_,rq,Jo (λhc=>?_) (λhc=>?_)⟩
  ·have hc:V.str p.kind=V.str "opener":=Qbo hc;have et:pst (ps.take (i+1))=(a.1++[a.2],0):=by rw[et];exact if_pos hc
   refine⟨_,rq,.inl ⟨rq,_,SqL.of e1⟩,lf,_,_,rq,rq,e1,Aq (by rw[QaN,QbF];show _+1<=_;omega),_,_,_,rq,?_,?_,e3.Dc Ag.upd hlf⟩
   ·rw[Ac,et,QbH];rfl
   ·rw[et,QaN];show _+1<=_;omega
  ·have hc:¬V.str p.kind=V.str "opener":=λz=>hc (QbX z);have et:pst (ps.take (i+1))=(a.1,a.2+1+(p.spur.length:Int)):=by rw[et];exact if_neg hc
   refine⟨_,rq,_,rq,lf,_,_,_,rq,rq,SqL.of e1,Wf _ _,_,_,rq,rq,_,rq,up,_,rq,.inr (SqT.of (e3 _ _ h2)),_,_,rq,rq,_,rq,_,rq,lf,_,_,_,rq,rq,e1,eX _ _,_,_,_,rq,?_,by rw[et];show a.1.length<=_;omega,e3.Dc Ag.upd hlf⟩;rw[Ac,cY,et,<-lws]
 ·obtain⟨u2,u3,u4,rfl,e1,e2,e3⟩:=h;rw[lvs,Qbw] at e1;refine⟨_,rq,q lf HH (by unfold GR;rw[QbH];exact e1) e3⟩
end
theorem jU {α : Type} {l:List α} {i:Nat} {x:α} (h:l[i]?=some x):l.set i x=l:=by
 obtain⟨hi,e⟩:=Qaf.mp h;subst e;exact List.set_getElem_self hi
theorem Ln.tups {H H':Hp} {vs:YG} {ls:YU} (s:Ak H H') (h:Paired (LoopAt H) vs ls):Paired (LoopAt H') vs ls:=Paired.Bg h λ_ _ z=>z.tups s
theorem Pn.tups {H H':Hp} {vs:YG} {ls:List Place} (s:Ak H H') (h:Paired (CZ H) vs ls):Paired (CZ H') vs ls:=Paired.Bg h λ_ _ z=>z.tups s
theorem JB (a b:List Place):adL (a++b)=adL a++adL b:=by unfold adL;rw[QaL]
theorem Tj (ls:YU) (ps:List Place):Bx (ls++[ps])=Bx ls++adL ps:=by unfold Bx;rw[QaL];simp
def wr (ds:List Dev):Nat:=(ds.filter λd=>!decide (V.str d.kind=V.str "opener")).length
theorem Pk (w:Int):∀ws:List Int,inV (.int w) (ws.map V.int)=decide (w∈ws)
 | []=>rfl
 | x::r=>by
  have ih:=Pk w r;unfold inV at ih ⊢;rw[Qce,Qci,ih];have h2:eqV (.int x) (.int w)=decide (w=x):=by
   show (x == w)=decide (w=x);rw[QbP,beq_iff_eq,QaV];exact⟨λh=>h.symm,λh=>h.symm⟩
  rw[h2,QbP,Bool.or_eq_true,QaV,QaV,QaV,Qcc]
def Dv (p:Int):Prop:=p=1\/p=2\/p=4\/p=5\/p=7\/p=8\/p=10\/p=13\/p=98
def KH (r sd:Int) (n:Nat):List Int:=(List.range n).map λk:Nat=>(r+sd*(0+(k:Int))) % 99+1
theorem aj (r sd:Int) (n:Nat):KH r sd (n+1)=KH r sd n++[(r+sd*(0+(n:Int))) % 99+1]:=by
 unfold KH;rw[List.range_succ,QbH];rfl
theorem jf (r sd:Int) (n:Nat):∀x∈KH r sd n,1<=x/\x<=99:=λx hx=>by
 obtain⟨k,_,rfl⟩:=Qcm.mp hx;have h1:=QbS (r+sd*(0+(k:Int))) (show (99:Int)≠0 by decide);have h2:=QaY (r+sd*(0+(k:Int))) (show (0:Int) < 99 by decide);omega
theorem je {r sd:Int} (h:Dv sd):(KH r sd 30).Nodup:=by
 unfold KH;refine List.pairwise_map.mpr ?_;refine List.Pairwise.imp_of_mem (λ{i j} hi hj hlt=>?_) (List.pairwise_lt_range (n:=30));have hi:=List.mem_range.mp hi;have hj:=List.mem_range.mp hj;intro e;unfold Dv at h;rcases h with rfl | rfl | rfl | rfl | rfl | rfl | rfl | rfl | rfl <;> omega
theorem Xb:∀{ds:List Dev},(Gu ds).Sublist (ds.map (·.addr))
 | ds=>by unfold Gu;exact List.Sublist.map _ (List.filter_sublist ..)
theorem Ud {p:Place} (h:OkP p):(Gu (Ep p)).Sublist (adP p):=by
 rcases h.form with⟨f1,f2,f3⟩| f1
 ·have e:adP p=[]:=if_pos (by rw[f1]);have e2:Gu (Ep p)=[]:=by
   unfold Ep Gu;rw[f3,f1];have:Nq "opener"=false:=by trivial
   rw[List.filter_cons_of_neg (by rw[this];decide)];rfl
  rw[e,e2];exact .slnil
 ·have e:adP p=(Ep p).map (·.addr):=if_neg (Hx f1);rw[e];exact Xb
theorem Oq:∀{ps:List Place},(∀p∈ps,OkP p)->(GZ ps).Sublist (adL ps)
 | [],_=>.slnil
 | p::r,h=>by
  have e1:GZ (p::r)=Gu (Ep p)++GZ r:=by unfold GZ;rw[Qbg]
  have e2:adL (p::r)=adP p++adL r:=by unfold adL;rw[Qbg]
  rw[e1,e2];exact (Ud (h p (QaQ ..))).append (Oq λq hq=>h q (QaD _ hq))
theorem Mv:∀{ls:YU},(∀ps∈ls,OkL ps)->(Ef ls).Sublist (Bx ls)
 | [],_=>.slnil
 | ps::r,h=>by
  have e1:Ef (ps::r)=GZ ps++Ef r:=by unfold Ef;rw[Qbg]
  have e2:Bx (ps::r)=adL ps++Bx r:=by unfold Bx;rw[Qbg]
  rw[e1,e2];exact (Oq (h ps (QaQ ..)).ok).append (Mv λq hq=>h q (QaD _ hq))
theorem Xu {ps:List Place}:∀(ja:YU),ps∈ja->(adL ps).length<=(Bx ja).length
 | [],h=>by cases h
 | a::r,h=>by
  have e:Bx (a::r)=adL a++Bx r:=by unfold Bx;rw[Qbg]
  rw[e,QaN];rcases Qcc.mp h with rfl | h
  ·omega
  ·have:=Xu r h;omega
structure Mg (ws:List Int) (ts:List Int) (jp:List Zone) (ys:YF):Prop where
 nd:(jp.flatMap (·.adr)++ts).Nodup
 sub:∀x∈jp.flatMap (·.adr)++ts,x∈ws
 up:∀z∈jp,z.adr.Pairwise (· < ·)/\1<=z.adr.length/\z.adr.length<=30
 nm:(jp.map (·.name)).Sublist ys
theorem Mg.next {ws ts ms ss:List Int} {jp:List Zone} {ys:YF} {y:Str} (h:Mg ws ts jp ys) (hp:ms.Perm ss) (hsub:ss.Sublist ts) (hr:ms.Pairwise (·<=·)) (h30:ms.length<=30) (y1:1<=ms.length):Mg ws (ts.filter λx=>!decide (x∈ms)) (jp++[⟨y,ms⟩]) (ys++[y]):=by
 obtain⟨n1,n2,n3⟩:=Qbp.mp h.nd;have nms:ms.Nodup:=hp.nodup_iff.mpr (hsub.nodup n2);have hin:∀x∈ms,x∈ts:=λx hx=>hsub.subset (hp.mem_iff.mp hx);have e:(jp++[(⟨y,ms⟩ : Zone)]).flatMap (·.adr)=jp.flatMap (·.adr)++ms:=by rw[QaL];simp
 refine⟨?_,λx hx=>?_,λz hz=>?_,?_⟩
 ·rw[e,Qbp];refine⟨Qbp.mpr ⟨n1,nms,λa ha b hb=>n3 a ha b (hin b hb)⟩,n2.filter _,λa ha b hb=>?_⟩;obtain⟨hb1,hb2⟩:=QbU.mp hb;rcases QbG.mp ha with ha | ha
  ·exact n3 a ha b hb1
  ·rintro rfl;rw[QbX ha] at hb2;cases hb2
 ·rw[e] at hx;rcases QbG.mp hx with hx | hx
  ·rcases QbG.mp hx with hx | hx
   ·exact h.sub x (QaE _ hx)
   ·exact h.sub x (Qax _ (hin x hx))
  ·exact h.sub x (Qax _ (QbU.mp hx).1)
 ·rcases QbG.mp hz with hz | hz
  ·exact h.up z hz
  ·have:z=⟨y,ms⟩:=by simpa using hz
   rw[this];refine⟨?_,y1,h30⟩;refine List.Pairwise.imp₂ (S:=λa b:Int=>a≠b) (λa b h1 h2=>by omega) hr nms
 ·rw[QbH];exact h.nm.append (List.Sublist.refl _)
theorem Mg.none {ws ts:List Int} {jp:List Zone} {ys:YF} {y:Str} {g:Int->Bool} (h:Mg ws ts jp ys):Mg ws (ts.filter g) jp (ys++[y]):=by
 obtain⟨n1,n2,n3⟩:=Qbp.mp h.nd;refine⟨Qbp.mpr ⟨n1,n2.filter _,λa ha b hb=>n3 a ha b (QbU.mp hb).1⟩,λx hx=>?_,h.up,h.nm.trans (List.sublist_append_left ..)⟩;rcases QbG.mp hx with hx | hx
 ·exact h.sub x (QaE _ hx)
 ·exact h.sub x (Qax _ (QbU.mp hx).1)
section
variable {P:Program} {w:World} {K:YD} {mg:YB} {base:Heap}
abbrev xc:YF:=["_law_other","_law_number"]
abbrev xq:YF:=["_law_k","_law_start","_law_stride"]
abbrev xt:YF:=["_law_number","_law_bag_here"]
theorem iW (C:Code K mg "_law_plan" Ih JQ) (T:Nm mg) (Bj:Good P w K mg base "_law_take" 1 FW KY) (VN:Good P w K mg base "_law_loop" 2 JT Uv) (aO:Good P w K mg base "_law_parts" 1 IV Oz) (Nr:Good P w K mg base "_law_names" 3 Hh NK) :
  Good P w K mg base "_law_plan" 4 JQ Ut:=by
 refine C.good Bq (λvs H Q E h=>?_) (λf cdv A outer s H vs Q E hr h=>?_)
 ·obtain⟨b,n,ml,mp,rfl,_⟩:=h;rfl
 obtain⟨b,n,ml,mp,rfl,hb,hn,wK,hml,sW,hmp,q⟩:=h;refine⟨_,(Af (Az (i:=3) Bq.nd rfl (Or.inr rfl) (Ca Bj hr (Aa (pv 0) (Aa Ae Ab))))
 (Af (Az (i:=4) Bq.nd rfl (Or.inr rfl) (Cu CJ (@Cp _ _ _ _ (@Aa _ _ _ _ _ (@Ae _ _ _ _) (@Aa _ _ _ _ _ (@Ae _ _ _ _) (@Aa _ _ _ _ _ (@Ae _ _ _ _) (@Aa _ _ _ _ _ (@Ae _ _ _ _) (@Aa _ _ _ _ _ (@Ae _ _ _ _) (@Aa _ _ _ _ _ (@Ae _ _ _ _) (@Aa _ _ _ _ _ (@Ae _ _ _ _) (@Aa _ _ _ _ _ (@Ae _ _ _ _) (@Aa _ _ _ _ _ (@Ae _ _ _ _) (@Ab _) Bl) Bl) Bl) Bl) Bl) Bl) Bl) Bl) Bl)) (Ca Bj hr (Aa (pv 0) (Aa Ae Ab))) (λ_ _=>rfl)))
 (Af (Xl (i:=5) Bq.nd rfl (Or.inl rfl) (N':=xq) rfl (Bh.of (src:=[none,some 3,some 4]) (Al Ih) xb rfl rfl rfl (by trivial) (by trivial) (by trivial) rfl (by trivial)) (Ez rfl T.range (Aa Ae Ab)) (λ_ _ _ _=>(Ah (i:=0) (show List.Nodup (xq:YF) by trivial) rfl (Or.inl rfl))) (λ_ _ _ _=>Cy) (λ_ _ _ _=>(Av Cz (Av Jf (Av Cz (pv 1) (Av FZ (pv 2) (pv 0))) Ae) Ae)))
 (Af (Az (i:=6) Bq.nd rfl (Or.inl rfl) (BR Qap PySem.F.slot_list_pop PySem.F.type_list_pop Vt (pv 5) (Aa Ae Ab)))
 (Af (Az (i:=7) Bq.nd rfl (Or.inl rfl) (BZ Ab))
 (Af (PS.weak (t':=jO) (Cj (BX Yt (Ca Bj hr (Aa (pv 0) (Aa Ae Ab))) Ae (Cd _)) (Ai (Az (i:=7) Bq.nd rfl (Or.inl rfl) (Dj VN hr (Aa (pv 0) (Aa (pv 5) (Aa (Av kj (pv 2) Ae) Ab)))))) BL) (λD U H h=>by
    obtain⟨b,nb,f0,n,mp,ns,e0,e5,e2,e7,hf0,hb,hn,nbn,hnb,hmp,wF,hns,q⟩:=h;refine⟨_,e0,b,n,8,rq,hb,by omega,by decide,by decide,λr H1 r0 r1 hb1 sb1=>⟨_,_,rq,rq,_,rq,Jo (λ_=>?_) (λ_=>?_)⟩⟩
    ·refine⟨_,e0,_,e5,_,e2,_,_,rq,rq,b,nb,n+1,mp - 1,ns,?_,hb1,by omega,nbn,sb1 _ _ hnb nbn.symm,by omega,by omega,hns,λt ps ns' H2 ⟨t',vs,et,ht,hp⟩ hok h1 h2 hns' hnb' hb2 s2=>?_⟩
     ·show [V.ref b,.ref nb,.int ((mp:Int) - 1)]++[]=_;rw[show ((mp:Int) - 1)=((mp - 1:Nat):Int) by omega];rfl
     ·cases et;exact q t vs ps ns' H2 ht hp hok (by omega) hns' hnb' (hb2.mono (by omega)) ((Bs.l sb1).trans s2)
    ·have q:=q f0 [] [] ns H1 (sb1.tup hb.Df _ _ hf0) .nil (λp hp=>by cases hp) (by show 0+1<=mp;omega) rfl (sb1 _ _ hnb nbn.symm) (hb1.mono (by omega)) (Bs.l sb1);rw[jU e7] at q;exact q))
 (Af (Az (i:=8) Bq.nd rfl (Or.inl rfl) (Ca Bj hr (Aa (pv 0) (Aa (Av Cz (Ay CG rfl T.len Ek (Aa (pv 7) Ab)) Ae) Ab))))
 (Af (Az (i:=9) Bq.nd rfl (Or.inl rfl) (Cp (Aa (Av Lp (Av Lp (FP Q8 (pv 7) Hg (Hf (pv 8))) (BZ (Aa (BZ (Aa Bb (Aa (pv 6) (Aa (BZ Ab) Ab)))) Ab))) (FP Q8 (pv 7) (Hf (pv 8)) Hg)) Ab)))
 (Af (Cw QbJ rfl (Ez rfl T.range (Aa (Ca Bj hr (Aa (pv 0) (Aa (pv 1) Ab))) Ab)) (Ah (i:=10) Bq.nd rfl (Or.inl rfl))
 (Ai (Cr (BR Qap Qak Qal Ce (pv 9) (Aa (Dj VN hr (Aa (pv 0) (Aa (pv 5) (Aa (pv 2) Ab)))) Ab)))))
 (Af (Az (i:=11) Bq.nd rfl (Or.inl rfl) (Ay (S8 rfl) rfl T.max Wa (Aa (BP (N':=IV) rfl (Bh.plain rfl (by trivial) (by trivial) (by trivial)) (Ed (pv 9)) (λ_ _ _ _=>(Ah (i:=0) (show List.Nodup (IV:YF) by trivial) rfl (Or.inl rfl))) (λ_ _ _ _=>Cy) (λ_ _ _ _=>(Ay (Ze (K:=K) rfl rfl) rfl T.max Wa (Aa (BJ aO hr (Aa (pv 0) Ab)) Ab)))) Ab)))
 (Af (Az (i:=12) Bq.nd rfl (Or.inl rfl) (Cp Ab))
 (Af (Cw QbJ rfl (Ed (pv 9)) (Ah (i:=13) Bq.nd rfl (Or.inl rfl))
 (Ai (Cw QbJ rfl (CK (pv 13)) (CN rfl (Aj (Ah (i:=14) Bq.nd rfl (Or.inl rfl)) (Aj (Ah (i:=15) Bq.nd rfl (Or.inl rfl)) (Aj (Ah (i:=16) Bq.nd rfl (Or.inl rfl)) Bp))))
 (Ai (Cr (BR Qap Qan Qao Kh (pv 12) (Aa (BP (N':=xc) rfl (Bh.plain rfl (by trivial) (by trivial) (by trivial)) (CK (Av Lp (BZ (Aa (BZ (Aa (pv 14) (Aa (pv 15) Ab))) Ab)) (pv 16))) (λ_ _ _ _=>(Jy (K:=K) (n:=2) rfl rfl (Aj (Ah (i:=0) (show List.Nodup (xc:YF) by trivial) rfl (Or.inl rfl)) (Aj (Ah (i:=1) (show List.Nodup (xc:YF) by trivial) rfl (Or.inl rfl)) Bp)))) (λ_ _ _ _=>(Qt (BX (Ys (K:=K) rfl) (pv 0) (BZ (Aa Bb (Aa Bb Ab))) (by with_unfolding_all rfl)))) (λ_ _ _ _=>(pv 1))) Ab)))))))
 (Af (Az (i:=17) Bq.nd rfl (Or.inl rfl) (Cp Ab))
 (Af (Az (i:=18) Bq.nd rfl (Or.inl rfl) (Ca Nr hr (Aa (pv 0) (Aa (Ca Bj hr (Aa (pv 0) (Aa Ae Ab))) Ab))))
 (Af (Cw QbJ rfl (Ed (pv 18)) (Ah (i:=19) Bq.nd rfl (Or.inl rfl))
 (Af (Az (i:=20) Bq.nd rfl (Or.inr rfl) (Ay V8 rfl T.sorted bO (Aa (BP (N':=xt) rfl (Bh.of (src:=[none,some 0]) (Al Ih) xb rfl rfl rfl (by trivial) (by trivial) (by trivial) rfl (by trivial)) (Ed (pv 12)) (λ_ _ _ _=>(Ah (i:=0) (show List.Nodup (xt:YF) by trivial) rfl (Or.inl rfl))) (λ_ _ _ _=>(Qt (BX Gm (Ca Bj hr (Aa (pv 1) (Aa Ae Ab))) Ae (Cd _)))) (λ_ _ _ _=>(pv 0))) Ab)))
 (Af (Xl (i:=12) Bq.nd rfl (Or.inl rfl) (N':=["_law_number","_law_some"]) rfl (Bh.of (src:=[none,some 20]) (Al Ih) xb rfl rfl rfl (by trivial) (by trivial) (by trivial) rfl (by trivial)) (Ed (pv 12)) (λ_ _ _ _=>(Ah (i:=0) (show List.Nodup (["_law_number","_law_some"]:YF) by trivial) rfl (Or.inl rfl))) (λ_ _ _ _=>(Qt (BX (Mj (K:=K) rfl) (pv 0) (pv 1) (by with_unfolding_all rfl)))) (λ_ _ _ _=>(pv 0)))
 (Ai (Cj (BX Yt (Ay CG rfl T.len Ek (Aa (pv 20) Ab)) Ae (Cd _)) (Ai (Cr (BR Qap Qak Qal Ce (pv 17) (Aa (BZ (Aa (pv 19) (Aa (Bo Bm rfl T.tuple Cm (Aa (pv 20) Ab)) Ab))) Ab)))) BL)))))
 (Ai (Ba (BZ (Aa (Ay (S7 rfl) rfl T.min bQ (Aa Ae (Aa (Av Cz (pv 11) (Ca Bj hr (Aa (pv 0) (Aa Ae Ab)))) Ab))) (Aa (Bo Bm rfl T.tuple Cm (Aa (pv 9) Ab)) (Aa (Bo Bm rfl T.tuple Cm (Aa (pv 17) Ab)) Ab))))))))))))))))))))),?_⟩
 show let R0:TS:=_;let R1:TS:=_;let R2:TS:=Hj _ R1 _;let R3:TS:=Am _ R2;let R4:TS:=Am _ R3;let R5:TS:=Am (Dy _ _ R4) R0;let R6:TS:=Am _ R5;let R7:TS:=Am _ R6;let R8:TS:=_;let R9:TS:=Dy _ _ R8;let R10:TS:=Am (Dy _ _ R9) R7;let R11:TS:=Am _ R10;let R12:TS:=Am _ R11;let R13:TS:=_;let R14:TS:=Am (Dy _ _ R13) R12;let R15:TS:=Am _ R14;let R16:TS:=Am _ R15;let R17:TS:=Am _ R16;let R18:TS:=Am _ R17;let R19:TS:=Am _ R18;let R20:TS:=Am _ R19;let R21:TS:=Am _ R20;Am _ R21 _ _ _;intro R0 R1 R2 R3 R4 R5 R6 R7 R8 R9 R10 R11 R12 R13 R14 R15 R16 R17 R18 R19 R20 R21;generalize hst:L2.start _ _=σ0;have e0:σ0=[js b,some (.int ml),some (.int mp),none,none,none,none,none,none,none,none,none,none,none,none,none,none,none,none,none,none]:=hst.symm;clear hst;subst e0;refine⟨_,rq,b,n,99,rq,hb,by omega,by decide,by decide,λr1 H1 r10 r11 hb1 sb1=>?_⟩;simp only[QaP,QaO];refine⟨Aw (by show 9<=1000;decide),λl9 hl9=>?_⟩;have s9:=Ad hl9 (.lst [.int 1,.int 2,.int 4,.int 5,.int 7,.int 8,.int 10,.int 13,.int 98]);refine⟨_,rq,b,_,9,rq,hb1.same s9,by omega,by decide,by decide,λr2 H2 r20 r21 hb2 sb2=>?_⟩;obtain⟨sd,esd,⟨sd0,sd1⟩,sdk⟩:=u0 r20 r21 (a:=1) (b:=2) (c:=4) (d:=5) (e:=7) (f:=8) (g:=10) (h:=13) (k:=98) (λp=>(0<=p/\p<=98)/\Dv p) (by unfold Dv;decide) (by unfold Dv;decide) (by unfold Dv;decide) (by unfold Dv;decide) (by unfold Dv;decide) (by unfold Dv;decide) (by unfold Dv;decide) (by unfold Dv;decide) (by unfold Dv;decide);refine⟨l9,_,_,_,rq,rq,SqL.of (sb2 _ _ Ac (hb1.nb hl9).symm),esd,?_⟩;simp only[QaP,QaO];have sB2:Ag b H H2:=(sb1.trans (Ag.of s9)).trans sb2;refine⟨_,rq,by decide,by decide,λnb fC=>?_⟩;have nbn:b≠nb:=hb2.nb fC;have fnb:H nb=none:=sB2.free hb2.ex fC;let J0:YN:=λi U HH=>∃(u:Option V) (ns:List Int),U=[u,some (.int r1),some (.int sd)]/\HH=upd H2 nb (.lst (ns.map V.int))/\ns=KH r1 sd i;refine Mf J0 ⟨none,[],rq,rq,rq⟩ (λi U HH hi h=>?_) (fun U HH h=>?_)
 ·obtain⟨u,ns,rfl,rfl,e1⟩:=h;have hi:i < 30:=hi;have e1l:ns.length=i:=by rw[e1];unfold KH;rw[QbF,Qbn]
  refine⟨_,rq,_,rq,_,rq,_,_,rq,rq,.inl ⟨by omega,by omega⟩,_,_,rq,rq,_,_,rq,rq,(by show (0:Int) < 99;decide),_,_,rq,rq,_,Ac,Aq (by rw[QbF];omega),_,ns++[(r1+sd*(0+(i:Int))) % 99+1],rq,?_,by rw[aj,e1]⟩;rw[Xc,QbH];rfl
 obtain⟨u,dZ,rfl,rfl,e30⟩:=h;have fP:dZ=KH r1 sd 30:=e30;have e30:dZ.length=30:=by rw[fP];unfold KH;rw[QbF,Qbn]
 simp only[QaP,QaO];cases dZ with
 | nil=>cases e30
 | cons own Gv=>
 have e29:Gv.length=29:=by simpa using e30
 have nR:(own::Gv).Nodup:=by rw[fP];exact je sdk
 have nT:∀x∈own::Gv,1<=x/\x<=99:=by rw[fP];exact jf r1 sd 30
 have sN:=Ad fC (.lst ((own::Gv).map V.int));refine⟨_,rq,.inl ⟨rq,_,SqL.of Ac⟩,nb,_,0,0,.int own,rq,rq,Ac,by decide,by decide,ZL (by rw[QbF];show 0 < _+1;omega),rq,?_⟩;simp only[QaP,QaO];have lV:upd (upd H2 nb (.lst ((own::Gv).map V.int))) nb (.lst (((own::Gv).map V.int).eraseIdx 0)) nb=some (.lst (Gv.map V.int)):=by rw[Ac];rfl
 have hb4:Bk (upd (upd H2 nb (.lst ((own::Gv).map V.int))) nb (.lst (((own::Gv).map V.int).eraseIdx 0))) b (n+1+1):=(hb2.same sN).Eo Ag.upd nbn;have sB4:Ag b H (upd (upd H2 nb (.lst ((own::Gv).map V.int))) nb (.lst (((own::Gv).map V.int).eraseIdx 0))):=Ag.Hl (sB2.trans (Ag.of sN)) Ag.upd fnb;generalize upd (upd H2 nb (.lst ((own::Gv).map V.int))) nb (.lst (((own::Gv).map V.int).eraseIdx 0))=H4 at lV hb4 sB4;refine⟨Aw (by show 0<=1000;decide),λf0 hf0=>?_⟩;simp only[QaP,QaO];have s5:=Ad hf0 (.tup []);refine⟨b,nb,f0,_,mp,Gv,rq,rq,rq,rq,Ac,hb4.same s5,by omega,nbn,s5 _ _ lV,sW,hmp,by omega,λft fv fp ns1 H5 hft hfp mj hfl sI sJ hb5 s45=>?_⟩;simp only[QaP,QaO];have sB5:Ag b H H5:=λc o e nc=>s45 _ _ (s5 _ _ (sB4 _ _ e nc)) nc (λz=>by rw[z,fnb] at e;cases e);have lfv:=Qcd hfp;refine⟨_,rq,_,rq,ft,_,rq,.inr (SqT.of hft),_,_,rq,rq,b,_,_,rq,hb5,by omega,by omega,by omega,λr4 H6 r40 r41 hb6 sb6=>?_⟩;simp only[QaP,QaO];obtain⟨an,han⟩ : ∃an:Nat,r4=an:=⟨r4.toNat,by omega⟩;subst han;have lY:=(sb6.tup hb5.Df) _ _ hft;have lZ:=Pn.tups (sb6.tup hb5.Df) hfp;have lU:=sb6 _ _ sJ nbn.symm;have sB6:=sB5.trans sb6;refine⟨_,rq,_,rq,_,rq,ft,fv,rq,lY,λp1 H7 hp1 s7=>?_⟩;rw[mV (by omega)] at hp1;refine⟨_,rq,Aw (by show 0<=1000;decide),λe0 he0=>⟨Aw (by show 3<=1000;decide),λt3 ht3=>⟨Aw (by show 1<=1000;decide),λt1 ht1=>?_⟩⟩⟩;have q1:=Ad he0 (.tup []);have q2:=Ad ht3 (.tup [.str "seeker",.int own,.ref e0]);have q3:=Ad ht1 (.tup [.ref t3]);have q13:=(q1.trans q2).trans q3;have hown:CZ (upd (upd (upd H7 e0 (.tup [])) t3 (.tup [.str "seeker",.int own,.ref e0])) t1 (.tup [.ref t3])) (.ref t3) ⟨"seeker",own,[]⟩:=⟨t3,e0,[],rq,q3 _ _ Ac,q3 _ _ (q2 _ _ Ac),.nil⟩;refine⟨p1,t1,_,_,rq,rq,q13 _ _ hp1,Ac,Aw (by rw[Qbv];show _+1<=1000;omega),λp2 H8 hp2 s8=>?_⟩;have s68:=(s7.trans q13).trans s8;refine⟨_,rq,_,rq,_,rq,ft,fv,rq,s68 _ _ lY,λp3 H9 hp3 s9'=>?_⟩;rw[Ma (by omega)] at hp3;refine⟨p2,p3,_,_,rq,rq,s9' _ _ hp2,hp3,Aw (by rw[QaN,Qbv,Qby];show _+1+_<=1000;omega),λp4 H10 hp4 s10=>⟨Aw (by show 1<=1000;decide),λll hll=>?_⟩⟩;simp only[QaP,QaO];have U4:=(s68.trans s9').trans s10;have s11:=Ad hll (.lst [.ref p4]);have U3:=U4.trans s11;have hL0:LoopAt (upd H10 ll (.lst [.ref p4])) (.ref p4) ((fp.take an++[⟨"seeker",own,[]⟩])++fp.drop an):=by
  refine⟨p4,_,rq,s11 _ _ hp4,Paired.app (Paired.app (Pn.tups (Ak.of U3) (Paired.gD an lZ)) (.cons ?_ .nil)) (Pn.tups (Ak.of U3) (Paired.gU an lZ))⟩;exact hown.tups (Ak.of (((s8.trans s9').trans s10).trans s11))
 have kZ:OkL ((fp.take an++[⟨"seeker",own,[]⟩])++fp.drop an):=by
  refine⟨?_,?_,λp hp=>?_⟩
  ·rw[QaN,QaN];show 1<=_+1+_;omega
  ·rw[QaN,QaN,Qbv,Qby];show _+1+_<=12;omega
  ·rcases QbG.mp hp with z | z
   ·rcases QbG.mp z with z | z
    ·exact mj p (QaG z)
    ·have:p=⟨"seeker",own,[]⟩:=by simpa using z
     rw[this];exact⟨by show 0<=3;decide,(λd hd=>by cases hd),.inr (.inl rfl)⟩
   ·exact mj p (List.mem_of_mem_drop z)
 have pm0:(adL ((fp.take an++[⟨"seeker",own,[]⟩])++fp.drop an)++ns1).Perm (own::Gv):=by
  have h2:adL fp=adL (fp.take an)++adL (fp.drop an):=by rw[<-JB,List.take_append_drop]
  have h3:adL [(⟨"seeker",own,[]⟩ : Place)]=[own]:=by
   have:adP ⟨"seeker",own,[]⟩=[own]:=if_neg (Hx (.inl rfl));show [(⟨"seeker",own,[]⟩ : Place)].flatMap adP=[own];simp[this]
  rw[JB,JB,h3,sI,h2,Qbe,Qbe,Qbe];exact (List.perm_middle (l₁:=adL (fp.take an)) (a:=own) (l₂:=adL (fp.drop an)++ns1))
 have oV:1<=(adL ((fp.take an++[⟨"seeker",own,[]⟩])++fp.drop an)).length:=by
  have h3:adL [(⟨"seeker",own,[]⟩ : Place)]=[own]:=by
   have:adP ⟨"seeker",own,[]⟩=[own]:=if_neg (Hx (.inl rfl));show [(⟨"seeker",own,[]⟩ : Place)].flatMap adP=[own];simp[this]
  rw[JB,JB,h3,QaN,QaN];show 1<=_+1+_;omega
 generalize wO:(fp.take an++[⟨"seeker",own,[]⟩])++fp.drop an=L0 at hL0 kZ pm0 oV;have hbL:Bk (upd H10 ll (.lst [.ref p4])) b (n+1+1+101+1):=hb6.same U3;have lR:=U3 _ _ lU;have sBL:Ag b H (upd H10 ll (.lst [.ref p4])):=sB6.trans (Ag.of U3);have lW:upd H10 ll (.lst [.ref p4]) ll=some (.lst [.ref p4]):=Ac;have fll:H ll=none:=(sB6.trans (Ag.of U4)).free (hb6.same U4).ex hll;have nbl:b≠ll:=(hb6.same U4).nb hll;have nnl:nb≠ll:=Ao (U4 _ _ lU) hll;generalize upd H10 ll (.lst [.ref p4])=HL at hL0 hbL lR sBL lW;refine⟨_,rq,_,rq,b,_,_,rq,hbL,by omega,by omega,by omega,λr5 HM r50 r51 hbM sbM=>⟨_,rq,by omega,by omega,?_⟩⟩;obtain⟨lnn,sY⟩ : ∃lnn:Nat,r5=lnn:=⟨r5.toNat,by omega⟩;subst sY;rw[Qbi];have tM:=sbM.tup hbL.Df;have pN:∀ps∈[L0],OkL ps:=λps hps=>by
  have:ps=L0:=by simpa using hps
  rw[this];exact kZ
 let J1:YN:=λi U HH=>∃(u10:Option V) (vs:YG) (ja:YU) (ns':List Int),U=[js b,some (.int ml),some (.int mp),some (.int r1),some (.int sd),js nb,some (.int own),js ft,some (.int (an:Int)),js ll,u10,none,none,none,none,none,none,none,none,none,none]/\HH ll=some (.lst vs)/\Paired (LoopAt HH) vs ja/\ja.length=1+i/\(∀ps∈ja,OkL ps)/\((Bx ja++ns').Perm (own::Gv)/\∃L,ja=L0::L)/\HH nb=some (.lst (ns'.map V.int))/\Bk HH b (n+105+101*i)/\Ag b H HH;refine Jh J1
  ⟨_,[.ref p4],[L0],ns1,rq,sbM _ _ lW nbl.symm,.cons (hL0.tups tM) .nil,rq,pN,⟨(by show ([L0].flatMap adL++_).Perm _;simpa using pm0),[],rq⟩,sbM _ _ lR nbn.symm,hbM.mono (by omega),sBL.trans sbM⟩ (λi U HH hi h=>?_) (fun U HH h=>?_)
 ·obtain⟨u10,vs,ja,ns',rfl,e1,e2,e3,e4,⟨e5p,Lr,hLr⟩,e6,e7,e8⟩:=h;have e5:(Bx ja).length+ns'.length=30:=by
   have:=e5p.length_eq;rw[QaN,Qbu,e29] at this;exact this
  simp only[QaP,QaO];refine⟨_,rq,.inl ⟨rq,_,SqL.of e1⟩,_,rq,_,rq,_,rq,b,nb,_,mp,ns',rq,e7,by omega,nbn,e6,by omega,by omega,by omega,λt ps pO H' hL hok h1 h2 hns hnb' hb' s2=>?_⟩;have e1':=s2 _ _ e1 nbl.symm nnl.symm;have t2:Ak HH H':=λc xs e=>s2 _ _ e (λz=>e7.Df _ (z ▸ e)) (λz=>by rw[z,e6] at e;cases e);refine⟨ll,_,_,rq,rq,e1',Aq (by rw[Qcd e2];omega),?_⟩;have tv0:∀zs,H' ll≠some (.tup zs):=λzs z=>by rw[e1'] at z;cases z
  have tv:=Ak.upd (o:=.lst (vs++[.ref t])) tv0;refine⟨_,vs++[.ref t],ja++[ps],pO,rq,Ac,Qct (hL.tups tv) (Ln.tups tv (Ln.tups t2 e2)),by rw[QaN,e3];show _+1=_;omega,λp hp=>?_,?_,by rw[Ar nnl];exact hnb',(hb'.Eo Ag.upd nbl).mono (by omega),λc o e nc=>?_⟩
  ·rcases QbG.mp hp with z | z
   ·exact e4 p z
   ·have:p=ps:=by simpa using z
    rw[this];exact⟨h1,by omega,hok⟩
  ·refine⟨?_,Lr++[ps],by rw[hLr];rfl⟩;rw[Tj,Qbe,<-hns];exact e5p
  ·rw[Ar (λz=>by rw[z,fll] at e;cases e)];exact s2 _ _ (e8 _ _ e nc) nc (λz=>by rw[z,fnb] at e;cases e)
 obtain⟨u10,vs,ja,ns',rfl,e1,e2,e3,e4,⟨e5p,aM⟩,e6,e7,e8⟩:=h;have e5:(Bx ja).length+ns'.length=30:=by
  have:=e5p.length_eq;rw[QaN,Qbu,e29] at this;exact this
 have lvs:=Qcd e2;have ndA:(Bx ja).Nodup:=(Qbp.mp (e5p.nodup_iff.mpr nR)).1;have bdA:∀x∈Bx ja,1<=x/\x<=99:=λx hx=>nT x (e5p.mem_iff.mp (QaE _ hx));have jG:=Mv e4;refine⟨_,rq,ll,rq,⟨_,SqL.of e1⟩,λlm hlm=>?_⟩;have nlm:ll≠lm:=Ao e1 hlm;let J2:YN:=λi U H'=>∃(u:Option V) (ms:List Int),U=[u]/\H' lm=some (.lst (ms.map V.int))/\ms.length=i/\Same HH H'/\∀ps∈ja.take i,∀m∈GR ps,∃M∈ms,m<=M;refine Gb (xs:=vs) J2 ⟨none,[],rq,Ac,rq,Ad hlm _,(λps hps=>by cases hps)⟩ (λi U H' _ h=>?_) (λi x U H' hx h=>?_) (fun U H' h=>?_)
 ·obtain⟨u,ms,rfl,m1,m2,m3,m4⟩:=h;exact SqL.of (m3 _ _ e1)
 ·obtain⟨u,ms,rfl,m1,m2,m3,m4⟩:=h;obtain⟨ps,hps,hL⟩:=Paired.Dh e2 hx;obtain⟨tx,wx,rfl,hx1,hx2⟩:=id hL;have okl:=e4 ps (QaC hps);refine⟨_,rq,tx,ps,rq,hL.tups (Ak.of m3),okl.ok,by have:=okl.hi;omega,λlq H'' hq s'=>⟨lq,GR ps,rq,SqL.of hq,(by unfold GR;rw[QaN];show 0 < _+1;omega),λM hMi hMm=>?_⟩⟩;have hi:=(Qaf.mp hx).1;refine⟨_,s' _ _ m1,Aq (by rw[QbF];omega),_,ms++[M],rq,by rw[Ac,QbH];rfl,by rw[QaN,m2];rfl,(m3.trans s').Dc Ag.upd hlm,λqs hqs m hm=>?_⟩;rw[QcB hps] at hqs;rcases QbG.mp hqs with hqs | hqs
  ·obtain⟨M',h1,h2⟩:=m4 qs hqs m hm;exact⟨M',QaE _ h1,h2⟩
  ·have:qs=ps:=by simpa using hqs
   rw[this] at hm;exact⟨M,Qax _ (QaQ ..),hMm m hm⟩
 obtain⟨u,ms,rfl,m1,m2,m3,m4⟩:=h;refine⟨lm,ms,rq,SqL.of m1,by omega,λM hMi hMm=>?_⟩;have lE:∀ps∈ja,∀m∈GR ps,m<=M:=λps hps m hm=>by
  obtain⟨M',h1,h2⟩:=m4 ps (by rw[lvs,Qbw];exact hps) m hm;have:=hMm M' h1;omega
 simp only[QaP,QaO];have e1:=m3 _ _ e1;have e2:=Ln.tups (Ak.of m3) e2;have e7:=e7.same m3;have e8:=e8.trans (Ag.of m3);clear m1 m2;refine⟨Aw (by show 0<=1000;decide),λlt hlt=>?_⟩;simp only[QaP,QaO];have sT:=Ad hlt (.lst []);have nbt:b≠lt:=e7.nb hlt;refine⟨_,rq,ll,rq,⟨_,SqL.of (sT _ _ e1)⟩,?_⟩;let J3:YN:=λi U HT=>∃(u13 u14 u15 u16:Option V) (ts:List Int),U=[js b,some (.int ml),some (.int mp),some (.int r1),some (.int sd),js nb,some (.int own),js ft,some (.int (an:Int)),js ll,u10,some (.int M),js lt,u13,u14,u15,u16,none,none,none,none]/\HT lt=some (.lst (ts.map V.int))/\ts=Ef (ja.take i)/\Same H' HT;refine Ka (xs:=vs) J3 ⟨_,_,_,_,[],rq,Ac,rq,sT⟩ (λi U HT _ h=>?_) (λi x U HT hx h=>?_) (fun U HT h=>?_)
 ·obtain⟨u13,u14,u15,u16,ts,rfl,t1,t2,t3⟩:=h;exact SqL.of (t3 _ _ e1)
 ·obtain⟨u13,u14,u15,u16,ts,rfl,t1,t2,t3⟩:=h;simp only[QaP,QaO];obtain⟨ps,hps,hL⟩:=Paired.Dh e2 hx;obtain⟨tx,wx,rfl,hx1,hx2⟩:=id hL;have okl:=e4 ps (QaC hps);have lwx:=Qcd hx2;have etk:Bx (ja.take (i+1))=Bx (ja.take i)++adL ps:=by rw[QcB hps,Tj]
  have tot:(Bx (ja.take (i+1))).length<=30:=by
   have:Bx ja=Bx (ja.take (i+1))++Bx (ja.drop (i+1)):=by unfold Bx;rw[<-QaL,List.take_append_drop]
   have h2:=congrArg List.length this;rw[QaN] at h2;omega
  rw[etk,QaN] at tot;have wle:(Ef (ja.take i)).length<=(Bx (ja.take i)).length:=(Mv λqs hqs=>e4 qs (QaG hqs)).length_le;have wtk:Ef (ja.take (i+1))=Ef (ja.take i)++GZ ps:=by rw[QcB hps,XS]
  refine⟨_,rq,tx,rq,⟨_,SqT.of (t3 _ _ hx1)⟩,?_⟩;let J4:YN:=λj U HT=>∃(u14 u15 u16:Option V) (ts:List Int),U=[js b,some (.int ml),some (.int mp),some (.int r1),some (.int sd),js nb,some (.int own),js ft,some (.int (an:Int)),js ll,u10,some (.int M),js lt,js tx,u14,u15,u16,none,none,none,none]/\HT lt=some (.lst (ts.map V.int))/\ts=Ef (ja.take i)++GZ (ps.take j)/\Same H' HT;refine Ew (xs:=wx) J4 ⟨_,_,_,ts,rq,t1,(by rw[t2];show _=_++[];rw[QbI]),t3⟩ (λj U HT _ h=>?_) (λj y U HT hy h=>?_) (fun U HT h=>?_)
  ·obtain⟨u14,u15,u16,ts,rfl,t1,t2,t3⟩:=h;exact SqT.of (t3 _ _ hx1)
  ·obtain⟨u14,u15,u16,ts,rfl,t1,t2,t3⟩:=h;obtain⟨p,hp,hP⟩:=Paired.Dh hx2 hy;obtain⟨tp,up,wp',rfl,hp1,hp2,hp3⟩:=hP.tups (Ak.of t3);have okp:=okl.ok p (QaC hp);have etj:adL (ps.take (j+1))=adL (ps.take j)++adP p:=by rw[QcB hp,Qd]
   have tj:(adL (ps.take (j+1))).length<=(adL ps).length:=by
    have:adL ps=adL (ps.take (j+1))++adL (ps.drop (j+1)):=by rw[<-JB,List.take_append_drop]
    have h2:=congrArg List.length this;rw[QaN] at h2;omega
   rw[etj,QaN] at tj;have wlj:(GZ (ps.take j)).length<=(adL (ps.take j)).length:=(Oq λqs hqs=>okl.ok qs (QaG hqs)).length_le;have wtj:GZ (ps.take (j+1))=GZ (ps.take j)++Gu (Ep p):=by rw[QcB hp,Zr]
   have t2l:ts.length<=(Bx (ja.take i)).length+(adL (ps.take j)).length:=by rw[t2,QaN];omega
   refine⟨tp,_,rq,SqT.of hp1,rq,_,_,rq,_,_,rq,_,_,rq,rq,?_⟩;simp only[QaP,QaO];refine⟨_,rq,.inl ⟨rq,_,SqL.of t1⟩,_,rq,_,rq,Aw (by show 2<=1000;decide),λta hta=>⟨Aw (by show 1<=1000;decide),λtb htb=>?_⟩⟩;have v1:=Ad hta (.tup [.str p.kind,.int p.addr]);have v2:=Ad htb (.tup [.ref ta]);have v12:=v1.trans v2;refine⟨_,rq,tb,up,_,_,rq,rq,Ac,v12 _ _ hp2,Aw (by have:=okp.spur;show 1+_<=1000;rw[Qcd hp3];omega),λtc HC hC sC=>⟨tc,rq,⟨_,SqT.of hC⟩,λl hl=>?_⟩⟩;have vC:=v12.trans sC;have hds:Paired (Er HC) ([.ref ta]++wp') (⟨p.kind,p.addr⟩::p.spur):=.cons ⟨ta,rq,sC _ _ (v2 _ _ Ac)⟩ (Paired.Bg hp3 λ_ _ z=>z.tups (Ak.of vC));have lds:=Qcd hds;let J5:YN:=λk U H5=>∃(u v:Option V) (ys:List Int),U=[u,v]/\H5 l=some (.lst (ys.map V.int))/\ys=Gu ((Ep p).take k)/\Same HC H5;refine G5 (xs:=[.ref ta]++wp') J5 ⟨none,none,[],rq,Ac,rq,Ad hl _⟩ (λk U H5 _ h=>?_) (λk x U H5 hk h=>?_) (fun U H5 h=>?_)
   ·obtain⟨u,v,ys,rfl,y1,y2,y3⟩:=h;exact SqT.of (y3 _ _ hC)
   ·obtain⟨u,v,ys,rfl,y1,y2,y3⟩:=h;obtain⟨d,hd,td,rfl,htd⟩:=Paired.Dh hds hk;have hkl:=(Qaf.mp hd).1;have hsp:=okp.spur;have hkk:k < 4:=by rw[Qbu] at hkl;omega
    have hdv:(Ep p)[k]?=some d:=hd;have hws:Gu ((Ep p).take (k+1))=Gu ((Ep p).take k)++(if Nq d.kind=true then [d.addr] else []):=by rw[QcB hdv,Zt]
    have y2l:ys.length<=k:=by
     rw[y2];have:=(Xb (ds:=(Ep p).take k)).length_le;rw[QbF,Qbv] at this;omega
    refine⟨td,_,rq,SqT.of (y3 _ _ htd),rq,_,_,rq,_,_,rq,rq,?_⟩;refine⟨_,rq,Aw (by show 2<=1000;decide),λtq htq=>?_⟩;have vq:=Ad htq (.tup [.str "seeker",.str "knob"]);refine⟨tq,_,rq,.inr (SqT.of Ac),rq,rq,_,rq,Jo (λcc=>?_) (λcc=>?_)⟩
    ·have cc:Nq d.kind=true:=cc;rw[if_pos cc] at hws;refine⟨_,rq,_,vq _ _ y1,Aq (by rw[QbF];omega),_,_,ys++[d.addr],rq,by rw[Ac,QbH];rfl,by rw[hws,y2],(y3.trans vq).Dc Ag.upd hl⟩
    ·have cc:¬Nq d.kind=true:=cc;rw[if_neg cc,QbI] at hws;refine⟨_,_,ys,rq,vq _ _ y1,by rw[hws];exact y2,y3.trans vq⟩
   obtain⟨u,v,ys,rfl,y1,y2,y3⟩:=h;have y2':ys=Gu (Ep p):=by
    rw[y2,lds];congr 1;exact Qbw ..
   have y2l:ys.length<=(adP p).length:=by rw[y2'];exact (Ud okp).length_le
   have t1':=y3 _ _ (vC _ _ t1);refine⟨lt,l,_,_,rq,rq,t1',y1,Aw (by rw[QbF,QbF];omega),?_⟩;refine⟨_,_,_,ts++ys,rq,by rw[Ac,QbH],?_,((t3.trans vC).trans y3).Dc Ag.upd hlt⟩;rw[wtj,t2,y2',Qbe]
  ·obtain⟨u14,u15,u16,ts,rfl,t1,t2,t3⟩:=h;rw[lwx,Qbw] at t2;exact⟨_,_,_,_,ts,rq,t1,by rw[wtk];exact t2,t3⟩
 obtain⟨u13,u14,u15,u16,ts,rfl,t1,t2,t3⟩:=h;rw[lvs,Qbw] at t2;have cL:ts.length<=30:=by rw[t2];have:=jG.length_le;omega
 have zk0:Mg (Ef ja) ts [] []:=by
  rw[t2];exact⟨jG.nodup ndA,(λx hx=>hx),(λz hz=>by cases hz),List.Sublist.refl _⟩
 have e1:=t3 _ _ e1;have e2:=Ln.tups (Ak.of t3) e2;have e7:=e7.same t3;have e8:=e8.trans (Ag.of t3);refine⟨Aw (by show 0<=1000;decide),λlz hlz=>?_⟩;simp only[QaP,QaO];have sZ:=Ad hlz (.lst []);have nzl:ll≠lz:=Ao e1 hlz;have nzt:lt≠lz:=Ao t1 hlz;have nzb:b≠lz:=e7.nb hlz;have flz:H lz=none:=e8.free e7.ex hlz;refine⟨_,rq,_,rq,b,_,5,rq,e7.same sZ,by omega,by decide,by decide,λr6 HU r60 r61 hbU sU=>?_⟩;obtain⟨rn,hrn⟩ : ∃rn:Nat,r6=rn:=⟨r6.toNat,by omega⟩;subst hrn;refine⟨b,_,rn,rq,hbU,by omega,by omega,λln ys HV hln ly hys cH Pr hbV sV=>?_⟩;simp only[QaP,QaO];have sUV:Ag b _ HV:=((Ag.of sZ).trans sU).trans sV;have nzn:ln≠lz:=λz=>by rw[z,sU _ _ Ac nzb.symm] at hln;cases hln
 have e1:=sUV _ _ e1 nbl.symm;have e2:=Ln.tups (sUV.tup e7.Df) e2;have e8:=e8.trans sUV;have hzV:HV lz=some (.lst []):=sV _ _ (sU _ _ Ac nzb.symm) nzb.symm;have t1:=sUV _ _ t1 nbt.symm;have hbV:=hbV.mono (show _<=n+500 by omega);have tl3:ja.length<=3:=by omega
 have nln:b≠ln:=hbU.nb hln;refine⟨_,rq,ln,rq,⟨_,SqL.of Pr⟩,?_⟩;let J6:YN:=λi U HH=>∃(lt:Addr) (u19 u20:Option V) (ts:List Int) (zs:YG),U=[js b,some (.int ml),some (.int mp),some (.int r1),some (.int sd),js nb,some (.int own),js ft,some (.int (an:Int)),js ll,u10,some (.int M),js lt,u13,u14,u15,u16,js lz,js ln,u19,u20]/\HH lt=some (.lst (ts.map V.int))/\ts.length<=30/\b≠lt/\lt≠lz/\HH lz=some (.lst zs)/\(∃jp,Paired (CT HH) zs jp/\Mg (Ef ja) ts jp (ys.take i))/\HH ln=some (.lst (ys.map V.str))/\HH ll=some (.lst vs)/\Paired (LoopAt HH) vs ja/\Bk HH b (n+500+30*i)/\Ag b H HH;refine Ka (xs:=ys.map V.str) J6
  ⟨lt,_,_,ts,[],rq,t1,cL,nbt,nzt,hzV,⟨[],.nil,zk0⟩,Pr,e1,e2,hbV,e8⟩ (λi U HH _ h=>?_) (λi x U HH hx h=>?_) (fun U HH h=>?_)
 ·obtain⟨lt,u19,u20,ts,zs,rfl,z1,z2,z3,z4,z5,z6,z7,z8,z9,z10,z11⟩:=h;exact SqL.of z7
 ·clear t1 t2 t3 cL nbt nzt hzV Pr e1 e2 hbV e8;obtain⟨lt,u19,u20,ts,zs,rfl,z1,z2,z3,z4,z5,z6,z7,z8,z9,z10,z11⟩:=h;obtain⟨jp,zp,zk⟩:=z6;have o7:zs.length<=5:=by
   have h1:=Qcd zp;have h2:=zk.nm.length_le;rw[QbF,Qbv] at h2;omega
  obtain⟨yi,hyi,rfl⟩ : ∃yi,ys[i]?=some yi/\x=.str yi:=by
   rw[Qbf] at hx;obtain⟨yi,h1,h2⟩:=Qau.mp hx;exact⟨yi,h1,h2.symm⟩
  have ytk:ys.take (i+1)=ys.take i++[yi]:=QcB hyi;have hil:i < 5:=by
   have:=(Qaf.mp hx).1;rw[QbF] at this;omega
  simp only[QaP,QaO];refine⟨_,rq,lt,rq,⟨_,SqL.of z1⟩,λlc hlc=>?_⟩;have nbc:b≠lc:=z10.nb hlc;have ntc:lt≠lc:=Ao z1 hlc;have sC:=Ad hlc (.lst []);let J7:YN:=λk U HC=>∃(u:Option V) (ss:List Int),U=[u,js b]/\HC lc=some (.lst (ss.map V.int))/\ss.Sublist (ts.take k)/\Bk HC b (n+500+30*i+k)/\Ag b HH HC;refine Gb (xs:=ts.map V.int) J7 ⟨none,[],rq,Ac,List.Sublist.refl _,z10.same sC,Ag.of sC⟩ (λk U HC _ h=>?_) (λk x U HC hk h=>?_) (fun U HC h=>?_)
  ·obtain⟨u,ss,rfl,c1,c2,c3,c4⟩:=h;exact SqL.of (c4 _ _ z1 z3.symm)
  ·obtain⟨u,ss,rfl,c1,c2,c3,c4⟩:=h;have hkl:k < 30:=by
    have:=(Qaf.mp hk).1;rw[QbF] at this;omega
   refine⟨_,rq,b,_,3,rq,c3,by omega,by decide,by decide,λr HD _ _ hbD sD=>⟨rq,_,rq,?_⟩⟩;have c1':=sD _ _ c1 nbc.symm;rw[Qbf] at hk;obtain⟨a,hka,rfl⟩:=Qau.mp hk;have tka:ts.take (k+1)=ts.take k++[a]:=QcB hka;have ssl:ss.length<=k:=Qcn c2.length_le (by rw[Qbv];omega);refine Jo (λcc=>?_) (λcc=>?_)
   ·refine⟨_,rq,_,c1',Aq (by rw[QbF];omega),_,ss++[a],rq,by rw[Ac,QbH];rfl,by rw[tka];exact c2.append (List.Sublist.refl _),hbD.Eo Ag.upd nbc,Ag.Hl (c4.trans sD) Ag.upd hlc⟩
   ·exact⟨_,ss,rq,c1',by rw[tka];exact c2.trans (List.sublist_append_left ..),hbD,c4.trans sD⟩
  obtain⟨u,ss,rfl,c1,c2,c3,c4⟩:=h;rw[QbF] at c2 c3;rw[Qbw] at c2;have ssl:ss.length<=30:=Qcn c2.length_le z2;refine⟨lc,ss,rq,SqL.of c1,by omega,λms ls hperm oH hls=>?_⟩;simp only[QaP,QaO];have sS:=Ad hls (.lst (ms.map V.int));have c5:Ag b HH (upd HC ls (.lst (ms.map V.int))):=c4.trans (Ag.of sS);have c6:=c3.same sS;have c7:(upd HC ls (.lst (ms.map V.int))) ls=some (.lst (ms.map V.int)):=Ac;generalize upd HC ls (.lst (ms.map V.int))=HS at c5 c6 c7;have lms:ms.length<=30:=by have:=hperm.length_eq;omega
  have z1:=c5 _ _ z1 z3.symm;refine⟨_,rq,lt,rq,⟨_,SqL.of z1⟩,λlw hlw=>?_⟩;have nbw:b≠lw:=c6.nb hlw;have nsw:ls≠lw:=Ao c7 hlw;have nzw:lw≠lz:=(Ao (c5 _ _ z5 nzb.symm) hlw).symm;let J8:YN:=λk U HC=>∃(u:Option V) (ss:List Int),U=[u,js ls]/\HC lw=some (.lst (ss.map V.int))/\ss=(ts.take k).filter (λx=>!decide (x∈ms))/\Same HS HC;refine Gb (xs:=ts.map V.int) J8 ⟨none,[],rq,Ac,rq,Ad hlw _⟩ (λk U HC _ h=>?_) (λk x U HC hk h=>?_) (fun U HC h=>?_)
  ·obtain⟨u,ss,rfl,d1,d2,d3⟩:=h;exact SqL.of (d3 _ _ z1)
  ·obtain⟨u,ss,rfl,d1,d2,d3⟩:=h;have hkl:k < 30:=by
    have:=(Qaf.mp hk).1;rw[QbF] at this;omega
   rw[Qbf] at hk;obtain⟨a,hka,rfl⟩:=Qau.mp hk;have tka:(ts.take (k+1)).filter (λx=>!decide (x∈ms))=(ts.take k).filter (λx=>!decide (x∈ms))++[a].filter (λx=>!decide (x∈ms)):=by rw[QcB hka,List.filter_append]
   have ssl:ss.length<=30:=by
    rw[d2];have h1:=List.length_filter_le (λx=>!decide (x∈ms)) (ts.take k);rw[Qbv] at h1;omega
   refine⟨_,rq,_,rq,ls,_,rq,.inl (SqL.of (d3 _ _ c7)),rq,bf ms,_,rq,Jo (λcc=>?_) (λcc=>?_)⟩
   ·have cc:(!inV (.int a) (ms.map V.int))=true:=cc;rw[Pk] at cc;rw[show List.filter (λx=>!decide (x∈ms)) [a]=[a] from List.filter_cons_of_pos (p:=λx=>!decide (x∈ms)) cc] at tka
    refine⟨_,rq,_,d1,Aq (by rw[QbF];omega),_,ss++[a],rq,by rw[Ac,QbH];rfl,by rw[tka,d2],d3.Dc Ag.upd hlw⟩
   ·have cc:¬(!inV (.int a) (ms.map V.int))=true:=cc;rw[Pk] at cc;rw[show List.filter (λx=>!decide (x∈ms)) [a]=[] from List.filter_cons_of_neg (p:=λx=>!decide (x∈ms)) cc] at tka
    exact⟨_,ss,rq,d1,by rw[tka,d2];exact (QbI _).symm,d3⟩
  obtain⟨u,ws,rfl,d1,d2,d3⟩:=h;rw[QbF,Qbw] at d2;have wsl:ws.length<=30:=by rw[d2];exact Qcn (List.length_filter_le _ _) z2
  simp only[QaP,QaO];have c8:=c5.trans (Ag.of d3);have z5:=c8 _ _ z5 nzb.symm;have z7:=c8 _ _ z7 nln.symm;have z8:=c8 _ _ z8 nbl.symm;have z9:=Ln.tups (c8.tup z10.Df) z9;have zp:Paired (CT HC) zs jp:=Paired.Bg zp λ_ _ z=>z.tups (c8.tup z10.Df);have z10:=(c6.same d3).mono (show _<=n+500+30*(i+1) by omega);have z11:=z11.trans c8;have c7:=d3 _ _ c7;have zkn:(ms.map V.int).length=ms.length:=QbF _;refine⟨_,rq,ls,_,rq,.inl (SqL.of c7),_,_,rq,rq,_,rq,Jo (λcc=>?_) (λcc=>?_)⟩
  ·refine⟨_,rq,.inl ⟨rq,_,SqL.of z5⟩,_,rq,_,rq,ls,_,rq,.inl ⟨SqL.of c7,λtt htt=>⟨Aw (by show 2<=1000;decide),λta hta=>?_⟩⟩⟩;have f1:=Ad htt (.tup (ms.map V.int));have f2:=Ad hta (.tup [.str yi,.ref tt]);have f12:=f1.trans f2;have z5:=f12 _ _ z5;refine⟨lz,_,_,rq,rq,z5,Aq (by omega),?_⟩;have tz0:∀zs',(upd (upd HC tt (.tup (ms.map V.int))) ta (.tup [.str yi,.ref tt])) lz≠some (.tup zs'):=λzs' z=>by rw[z5] at z;cases z
   have tz:=Ak.upd (o:=.lst (zs++[.ref ta])) tz0;have sO:1<=ms.length:=by
    have cc:=Qbo cc;rw[zkn] at cc;omega
   have zp':Paired (CT (upd (upd (upd HC tt (.tup (ms.map V.int))) ta (.tup [.str yi,.ref tt])) lz (.lst (zs++[.ref ta])))) (zs++[.ref ta]) (jp++[⟨yi,ms⟩]):=Qct ⟨ta,tt,rq,tz _ _ Ac,tz _ _ (f2 _ _ Ac)⟩ (Paired.Bg zp λ_ _ z=>(z.tups (Ak.of f12)).tups tz);have zk':Mg (Ef ja) ws (jp++[⟨yi,ms⟩]) (ys.take (i+1)):=by rw[d2,ytk];exact zk.next hperm c2 oH lms sO
   exact⟨lw,_,_,ws,zs++[.ref ta],rq,by rw[Ar nzw];exact f12 _ _ d1,by omega,nbw,nzw,Ac,⟨_,zp',zk'⟩,by rw[Ar nzn];exact f12 _ _ z7,by rw[Ar nzl];exact f12 _ _ z8,Ln.tups tz (Ln.tups (Ak.of f12) z9),(z10.same f12).Eo Ag.upd nzb,Ag.Hl (z11.trans (Ag.of f12)) Ag.upd flz⟩
  ·exact⟨lw,_,_,ws,zs,rq,d1,by omega,nbw,nzw,z5,⟨jp,zp,by rw[d2,ytk];exact zk.none⟩,z7,z8,z9,z10,z11⟩
 clear t1 t2 t3 cL nbt nzt hzV Pr e1 e2 hbV e8;obtain⟨lt,u19,u20,ts,zs,rfl,z1,z2,z3,z4,z5,z6,z7,z8,z9,z10,z11⟩:=h;rw[QbF] at z10;obtain⟨jp,zp,zk⟩:=z6;rw[QbF,Qbw] at zk;have o7:zs.length<=5:=by
  have h1:=Qcd zp;have h2:=zk.nm.length_le;rw[QbF] at h2;omega
 refine⟨_,rq,_,rq,b,_,3,rq,z10,by omega,by decide,by decide,λr7 HX _ _ hbX sX=>⟨_,_,rq,rq,_,_,rq,_,rq,ll,_,rq,.inl ⟨SqL.of (sX _ _ z8 nbl.symm),λtl htl=>?_⟩⟩⟩;have g1:=Ad htl (.tup vs);refine⟨_,rq,lz,_,rq,.inl ⟨SqL.of (g1 _ _ (sX _ _ z5 nzb.symm)),λtz htz=>⟨Aw (by show 3<=1000;decide),λt ht=>?_⟩⟩⟩;have g2:=Ad htz (.tup zs);have g3:=Ad ht (.tup [.int (if M+r7 < 30 then M+r7 else 30),.ref tl,.ref tz])
 have Y9:=(g1.trans g2).trans g3;have cnt:1<=(Bx ja).length:=by
  obtain⟨L,hL⟩ : ∃L,ja=L0::L:=aM;rw[hL];have:Bx (L0::L)=adL L0++Bx L:=by unfold Bx;rw[Qbg]
  rw[this,QaN];omega
 have M1:1<=M:=by
  obtain⟨L,hL⟩ : ∃L,ja=L0::L:=aM;obtain⟨m,h1,h2⟩:=Xe (l:=GR L0) (by rw[Sg];omega);have:=lE L0 (by rw[hL];exact QaQ ..) m h1;omega
 have pok:bW (if M+r7 < 30 then M+r7 else 30) ja jp:=by
  refine⟨ndA,bdA,⟨cnt,by omega⟩,⟨by split <;> omega,by split <;> omega⟩,λps hps m hm=>?_,λz hz x hx=>?_,(Qbp.mp zk.nd).1,zk.up,?_,λz hz=>?_,zk.nm.nodup cH⟩
  ·have h1:=lE ps hps m hm;have h2:=dR ps m hm;have h3:(adL ps).length<=(Bx ja).length:=by
    exact Xu ja hps
   split <;> omega
  ·exact zk.sub x (QaE _ (Qbz.mpr ⟨z,hz,hx⟩))
  ·have h1:=Qcd zp;omega
  ·exact hys z.name (zk.nm.subset (Qcm.mpr ⟨z,hz,rq⟩))
 exact q t tl tz vs zs ja jp _ _ Ac (g3 _ _ (g2 _ _ Ac)) (Ln.tups (Ak.of Y9) (Ln.tups (sX.tup z10.Df) z9)) e4 (by omega) tl3 (g3 _ _ Ac) (Paired.Bg zp λ_ _ z=>(z.tups (sX.tup z10.Df)).tups (Ak.of Y9)) pok ((hbX.same Y9).mono (by omega)) ((z11.trans sX).trans (Ag.of Y9))
end
def TpK (K:YD) (H:Hp) (a:Addr) (xs:YG):Prop:=H a=some (.tup xs)\/(∀H':Hp,SqT K H' a xs)/\xs.length≠2
theorem TpK.sq {K:YD} {H:Hp} {a:Addr} {xs:YG} (h:TpK K H a xs):SqT K H a xs:=h.elim SqT.of λf=>f.1 H
theorem TpK.tups {K:YD} {H H':Hp} {a:Addr} {xs:YG} (h:TpK K H a xs) (s:Ak H H'):TpK K H' a xs:=h.imp (s _ _) id
theorem TpK.same {K:YD} {H H':Hp} {a:Addr} {xs:YG} (h:TpK K H a xs) (s:Same H H'):TpK K H' a xs:=h.tups (Ak.of s)
def Gf (K:YD) (H:Hp) (v:V) (p:Place):Prop:=∃t u vs,v=.ref t/\TpK K H t [.str p.kind,.int p.addr,.ref u]/\TpK K H u vs/\Paired (Er H) vs p.spur
def Jx (K:YD) (H:Hp) (v:V) (ps:List Place):Prop:=∃t vs,v=.ref t/\H t=some (.tup vs)/\Paired (Gf K H) vs ps
theorem Gf.tups {K:YD} {H H':Hp} (s:Ak H H') {v:V} {d:Place} (h:Gf K H v d):Gf K H' v d:=by
 obtain⟨t,u,vs,e,q1,q2,q3⟩:=h;exact⟨t,u,vs,e,q1.tups s,q2.tups s,Paired.Bg q3 λ_ _ z=>z.tups s⟩
theorem Jx.tups {K:YD} {H H':Hp} (s:Ak H H') {v:V} {d:List Place} (h:Jx K H v d):Jx K H' v d:=by
 obtain⟨t,vs,e,q1,q2⟩:=h;exact⟨t,vs,e,s _ _ q1,Paired.Bg q2 λ_ _ z=>z.tups s⟩
theorem CZ.k {K:YD} {H:Hp} {v:V} {p:Place} (h:CZ H v p):Gf K H v p:=by
 obtain⟨t,u,vs,e,q1,q2,q3⟩:=h;exact⟨t,u,vs,e,.inl q1,.inl q2,q3⟩
theorem LoopAt.k {K:YD} {H:Hp} {v:V} {p:List Place} (h:LoopAt H v p):Jx K H v p:=by
 obtain⟨t,vs,e,q1,q2⟩:=h;exact⟨t,vs,e,q1,Paired.Bg q2 λ_ _ z=>z.k⟩
abbrev Ht:Stmt:=top 23
abbrev Ej:YF:=["loop","at","place"]
theorem Cv:Bc ["loop","at","place","kind","address","spur","told","number","spur_kind","spur_address"] Ej (Al Ht):=by ac_rfl
structure Sd where
 lp:Int
 at_:Int
 n:Int
 kind:Str
 addr:Int
def Ke (H:Hp) (v:V) (d:Sd):Prop:=∃t u,v=.ref t/\H t=some (.tup [.ref u,.str d.kind,.int d.addr])/\H u=some (.tup [.int d.lp,.int d.at_,.int d.n])
theorem Ke.tups {H H':Hp} (s:Ak H H') {v:V} {d:Sd} (h:Ke H v d):Ke H' v d:=by
 obtain⟨t,u,e,q1,q2⟩:=h;exact⟨t,u,e,s _ _ q1,s _ _ q2⟩
def DP (lp at_:Int):Nat->List Dev->List Sd
 | _,[]=>[]
 | n,d::r=>⟨lp,at_,n,d.kind,d.addr⟩::DP lp at_ (n+1) r
def Ft (lp at_:Int) (p:Place):List Sd:=if V.str p.kind=V.str "opener" then [] else ⟨lp,at_,0,p.kind,p.addr⟩::DP lp at_ 1 p.spur
theorem Og (lp at_:Int):∀(n:Nat) (ds:List Dev) (i:Nat) (d:Dev),ds[i]?=some d->DP lp at_ n (ds.take (i+1))=DP lp at_ n (ds.take i)++[⟨lp,at_,(n+i:Nat),d.kind,d.addr⟩]
 | n,[],i,d,h=>by simp at h
 | n,x::r,0,d,h=>by
  simp at h;subst h;simp[DP]
 | n,x::r,i+1,d,h=>by
  have h':r[i]?=some d:=by simpa using h
  have ih:=Og lp at_ (n+1) r i d h';rw[List.take_succ_cons,List.take_succ_cons];show _::DP lp at_ (n+1) (r.take (i+1))=(_::DP lp at_ (n+1) (r.take i))++_;rw[ih,show n+1+i=n+(i+1) by omega];rfl
structure Tx (K:YD) (mg:YB) (op oe:Addr):Prop extends Nm mg where
 OPENER:∃u,mg "OPENER"=some u/\RelV (.ref op) u
 opT:∀H,SqT K H op [.str "opener",.int 0,.ref oe]
 opE:∀H,SqT K H oe []
inductive cW (K:YD) (vs:YG) (H:Hp) (Q:VK) (E:XK):Prop
 | mk (lp at_:Int) (v:V) (p:Place) (_:vs=[.int lp,.int at_,v]) (_:Gf K H v p) (_:p.spur.length<=3) (_:∀l xs H',H l=none->H' l=some (.lst xs)->Paired (Ke H') xs (Ft lp at_ p)->Same H H'->Q (.ref l) H'):cW K vs H Q E
section
variable {P:Program} {w:World} {K:YD} {mg:YB} {base:Heap} {op oe:Addr}
theorem O9 (c:Code K mg "place_devices" Ht Ej) (T:Tx K mg op oe):Good P w K mg base "place_devices" 1 Ej (cW K):=by
 refine c.good Cv (λvs H Q E h=>?_) (λf cdv A outer s H vs Q E hr h=>?_)
 ·obtain⟨lp,at_,v,p,rfl,_⟩:=h;rfl
 obtain⟨lp,at_,v,p,rfl,⟨t,u,vs,rfl,ht,hu,hd⟩,h3,q⟩:=h;refine⟨_,(Af (DR (pv 2) (CN rfl (Aj (Ah (i:=3) Cv.nd rfl (Or.inl rfl)) (Aj (Ah (i:=4) Cv.nd rfl (Or.inl rfl)) (Aj (Ah (i:=5) Cv.nd rfl (Or.inl rfl)) Bp)))))
 (Af (Cj (BX Gm (pv 3) Bb (Cd _)) (Ai (Ba (Cp Ab))) BL)
 (Af (Az (i:=6) Cv.nd rfl (Or.inl rfl) (Cp (Aa (BZ (Aa (BZ (Aa (pv 0) (Aa (pv 1) (Aa Ae Ab)))) (Aa (pv 3) (Aa (pv 4) Ab)))) Ab)))
 (Af (Cw QbJ rfl (U9 rfl T.enumerate (pv 5) Ae) (CN rfl (Aj (Ah (i:=7) Cv.nd rfl (Or.inl rfl)) (Aj (CN rfl (Aj (Ah (i:=8) Cv.nd rfl (Or.inl rfl)) (Aj (Ah (i:=9) Cv.nd rfl (Or.inl rfl)) Bp))) Bp)))
 (Ai (Cr (BR Qap Qak Qal Ce (pv 6) (Aa (BZ (Aa (BZ (Aa (pv 0) (Aa (pv 1) (Aa (pv 7) Ab)))) (Aa (pv 8) (Aa (pv 9) Ab)))) Ab)))))
 (Ai (Ba (pv 6))))))),?_⟩
 show let R0:TS:=_;let R1:TS:=Am (Dy _ _ R0) _;let R2:TS:=Am _ R1;let R3:TS:=Am _ R2;Am _ R3 _ _ _;intro R0 R1 R2 R3;generalize hst:L2.start _ _=σ0;have e0:σ0=[some (.int lp),some (.int at_),js t,none,none,none,none,none,none,none]:=hst.symm;clear hst;subst e0;refine⟨_,rq,t,_,rq,ht.sq,rq,_,_,rq,_,_,rq,_,_,rq,rq,?_⟩;simp only[QaP,QaO];refine⟨_,rq,rq,_,rq,?_⟩;by_cases ck:V.str p.kind=V.str "opener"
 ·rw[QbX ck];have e:Ft lp at_ p=[]:=if_pos ck;rw[e] at q;exact BK ⟨(by show 0<=sizeLine;decide),λl hl=>q l [] _ hl Ac .nil (Ad hl _)⟩
 ·rw[QbL ck];have e:Ft lp at_ p=⟨lp,at_,0,p.kind,p.addr⟩::DP lp at_ 1 p.spur:=if_neg ck;rw[e] at q;refine Dn ⟨_,rq,_,rq,(by show 3<=sizeLine;decide),λus hus=>⟨_,rq,_,rq,(by show 3<=sizeLine;decide),λts hts=>⟨(by show 1<=sizeLine;decide),λl hl=>?_⟩⟩⟩;have s1:=Ad hus (.tup [.int lp,.int at_,.int 0]);have s2:=Ad hts (.tup [.ref us,.str p.kind,.int p.addr]);have s3:=Ad hl (.lst [.ref ts]);have sm:=s1.trans (s2.trans s3);have hl0:=s1.free (s2.free hl);have el:_=some (HO.lst [.ref ts]):=Ac (H:=upd (upd H us (.tup [.int lp,.int at_,.int 0])) ts (.tup [.ref us,.str p.kind,.int p.addr])) (a:=l) (o:=.lst [.ref ts]);have es:Ke _ (.ref ts) ⟨lp,at_,0,p.kind,p.addr⟩:=⟨ts,us,rq,s3 _ _ Ac,s3 _ _ (s2 _ _ Ac)⟩;generalize hX:upd (upd (upd H us (.tup [.int lp,.int at_,.int 0])) ts (.tup [.ref us,.str p.kind,.int p.addr])) l (.lst [.ref ts])=H1 at sm el es;simp only[QaP,QaO];have hu1:=hu.same sm;have sd0:Paired (Ke H1) [.ref ts] (⟨lp,at_,0,p.kind,p.addr⟩::DP lp at_ 1 (p.spur.take 0)):=.cons es .nil;have qK:vs.length=p.spur.length:=Qcd hd;refine⟨_,rq,u,rq,⟨vs,hu1.sq⟩,Pz (xs:=vs) (lo:=1) (λi U HH=>∃ys u7 u8 u9,U=[some (.int lp),some (.int at_),js t,some (.str p.kind),some (.int p.addr),js u,js l,u7,u8,u9]/\Ag l H1 HH/\HH l=some (.lst ys)/\Paired (Ke HH) ys (⟨lp,at_,0,p.kind,p.addr⟩::DP lp at_ 1 (p.spur.take i))/\ys.length<=i+1)
   ⟨[.ref ts],_,_,_,rq,Ag.refl l H1,el,sd0,Qcr _⟩ (λi U HH _ h=>?_) (λi x pt U HH hx h hpt=>?_) (fun U HH h=>?_)⟩
  ·obtain⟨ys,_,_,_,_,sb,_⟩:=h;exact (hu1.tups (sb.tup λzs z=>by rw[el] at z;cases z)).sq
  ·obtain⟨ys,u7,u8,u9,rfl,sb,hy,pd,ly⟩:=h;obtain⟨d,hdi,td,rfl,htd⟩:=Paired.Dh hd hx;have nl:∀zs,H1 l≠some (.tup zs):=λzs z=>by rw[el] at z;cases z
   have nl2:∀zs,HH l≠some (.tup zs):=λzs z=>by rw[hy] at z;cases z
   have sG:=(sb.tup nl) _ _ (sm _ _ htd);have t0:=Ad hpt (.tup [.int ((1+i:Nat):Int),.ref td]);refine⟨pt,_,rq,SqT.of Ac,rq,_,_,rq,_,_,rq,td,_,rq,SqT.of (t0 _ _ sG),rq,_,_,rq,_,_,rq,rq,rq,?_⟩;simp only[QaP,QaO];have hy0:=t0 _ _ hy;refine⟨_,rq,.inl ⟨rq,_,SqL.of hy0⟩,_,rq,_,rq,_,rq,(by show 3<=sizeLine;decide),λus2 rZ=>⟨_,rq,_,rq,(by show 3<=sizeLine;decide),λts2 su=>?_⟩⟩;have t1:=Ad rZ (.tup [.int lp,.int at_,.int ((1+i:Nat):Int)]);have t2:=Ad su (.tup [.ref us2,.str d.kind,.int d.addr]);have hy2:=t2 _ _ (t1 _ _ hy0);have il:=(Qaf.mp hx).1;refine⟨l,_,_,rq,rq,hy2,Aq (by omega),?_⟩;refine⟨ys++[.ref ts2],_,_,_,rq,sb.trans ((Ag.of (t0.trans (t1.trans t2))).trans Ag.upd),Ac,?_,by rw[QaN];simp only[QaA];omega⟩;rw[Og lp at_ 1 p.spur i d hdi];have nlx:∀zs,(upd (upd (upd HH pt (.tup [.int ((1+i:Nat):Int),.ref td])) us2 (.tup [.int lp,.int at_,.int ((1+i:Nat):Int)])) ts2 (.tup [.ref us2,.str d.kind,.int d.addr])) l≠some (.tup zs):=λzs z=>by rw[hy2] at z;cases z
   have tt:=Ak.upd (o:=.lst (ys++[.ref ts2])) nlx;exact Qct (l₂:=_::DP lp at_ 1 (p.spur.take i)) ⟨ts2,us2,rq,tt _ _ Ac,tt _ _ (t2 _ _ Ac)⟩ (Paired.Bg pd λ_ _ z=>(z.tups (Ak.of (t0.trans (t1.trans t2)))).tups tt)
  ·obtain⟨ys,u7,u8,u9,rfl,sb,hy,pd,ly⟩:=h;rw[qK,Qbw] at pd;exact⟨_,rq,q l ys HH hl0 hy pd λc o e=>sb _ _ (sm _ _ e) (Ao e hl0)⟩
end
structure Sp3 where
 lp:Int
 at_:Int
 n:Int
theorem Rz {k:Str} (h:Dl k):¬V.str k=V.str "opener":=by
 rcases h with rfl | rfl | rfl | rfl <;> decide +kernel
theorem VB {k:Str} (h:Dl k):(PyData.str k).canLay0=true:=by
 rcases h with rfl | rfl | rfl | rfl <;> decide +kernel
def LR (d:Dev):PyData:=.tuple [.str d.kind,.int d.addr]
def JM (p:Place):PyData:=.tuple [.str p.kind,.int p.addr,.tuple (p.spur.map LR)]
theorem kE:PyData.canLay0 (.str "opener")=true:=by trivial
theorem Ql (lp at_:Int):∀(n:Nat) (ds:List Dev),(DP lp at_ n ds).length=ds.length
 | _,[]=>rfl
 | n,d::r=>by show (DP lp at_ (n+1) r).length+1=r.length+1;rw[Ql]
abbrev Nb:Stmt:=top 24
abbrev Je:YF:=["plan"]
theorem Gk:Bc ["plan","told","loop","places","at","place"] Je (Al Nb):=by ac_rfl
def up {α : Type} (f:Nat->List α) (i:Nat):List α:=(List.range i).flatMap f
theorem Nz {α : Type} (f:Nat->List α) (i:Nat):up f (i+1)=up f i++f i:=by
 unfold up;rw[List.range_succ,QaL];simp
theorem Xd {α : Type} (f:Nat->List α):up f 0=[]:=rfl
theorem Qh {α : Type} {f:Nat->List α} {c:Nat} (h:∀i,(f i).length<=c):∀i,(up f i).length<=c*i
 | 0=>Qcr _
 | i+1=>by
  have:=Qh h i;have:=h i;rw[Nz,QaN,Nat.mul_succ];omega
def ifs {α β : Type} (o:Option α) (g:α->List β):List β:=match o with | none=>[] | some x=>g x
theorem Pq {α β : Type} {o:Option α} {g:α->List β} {x:α} (h:o=some x):ifs o g=g x:=by rw[h];rfl
structure Gt where
 lp:Int
 at_:Int
def pd1 (lp:Int) (ps:List Place) (i:Nat):List Sd:=ifs ps[i]? λp=>Ft lp ((1+i:Nat):Int) p
def pdL (ja:YU) (k:Nat):List Sd:=ifs ja[k]? λps=>up (pd1 k ps) ps.length
def st1 (lp:Int) (ps:List Place) (i:Nat):List Sp3:=ifs ps[i]? λp=>(List.range (p.spur.length+1)).map λn:Nat=>⟨lp,((1+i:Nat):Int),(n:Int)⟩
structure Wg (ja:YU):Prop where
 ok:∀ps∈ja,OkL ps
 hi:ja.length<=3
theorem Oj {lp a:Int} {p:Place} (h:OkP p):(Ft lp a p).length<=4:=by
 unfold Ft;have:=h.spur;split
 ·exact Qcs _
 ·rw[Qbu,Ql];omega
theorem Xm {lp:Int} {ps:List Place} (h:∀p∈ps,OkP p) (i:Nat):(pd1 lp ps i).length<=4:=by
 unfold pd1;cases e:ps[i]? with
 | none=>exact Qcs _
 | some p=>exact Oj (h p (QaC e))
theorem iT {ja:YU} (h:Wg ja) (k:Nat):(pdL ja k).length<=48:=by
 unfold pdL;cases e:ja[k]? with
 | none=>exact Qcs _
 | some ps=>
  have o:=h.ok ps (QaC e);have:=Qh (Xm (lp:=k) o.ok) ps.length;have:=o.hi;show (up _ _).length<=48;omega
def bY (K:YD) (H:Hp) (pl:Addr) (ja:YU):Prop:=∃v0 v2 Ls vs,H pl=some (.tup [v0,.ref Ls,v2])/\H Ls=some (.tup vs)/\Paired (Jx K H) vs ja
inductive Yd (K:YD) (vs:YG) (H:Hp) (Q:VK) (E:XK):Prop
 | mk (pl:Addr) (ja:YU) (_:vs=[.ref pl]) (_:bY K H pl ja) (_:Wg ja) (_:∀l xs H',H l=none->H' l=some (.lst xs)->Paired (Ke H') xs (up (pdL ja) ja.length)->Same H H'->Q (.ref l) H'):Yd K vs H Q E
section
variable {P:Program} {w:World} {K:YD} {mg:YB} {base:Heap} {op oe:Addr}
theorem YK (c:Code K mg "devices" Nb Je) (T:Tx K mg op oe) (QD:Good P w K mg base "place_devices" 1 Ej (cW K)):Good P w K mg base "devices" 2 Je (Yd K):=by
 refine c.good Gk (λvs H Q E h=>?_) (λf cdv A outer s H vs Q E hr h=>?_)
 ·obtain⟨pl,ja,rfl,_⟩:=h;rfl
 obtain⟨pl,ja,rfl,⟨v0,v2,Ls,vs,hpl,hLs,hlo⟩,ok,q⟩:=h;refine⟨_,(Af (Az (i:=1) Gk.nd rfl (Or.inl rfl) (Cp Ab))
 (Af (Cw QbJ rfl (dI rfl T.enumerate (Cu Jg (pv 0) Ae (λ_ _=>rfl))) (CN rfl (Aj (Ah (i:=2) Gk.nd rfl (Or.inl rfl)) (Aj (Ah (i:=3) Gk.nd rfl (Or.inl rfl)) Bp)))
 (Ai (Cw QbJ rfl (U9 rfl T.enumerate (pv 3) Ae) (CN rfl (Aj (Ah (i:=4) Gk.nd rfl (Or.inl rfl)) (Aj (Ah (i:=5) Gk.nd rfl (Or.inl rfl)) Bp)))
 (Ai (Cr (BR Qap Qan Qao Kh (pv 1) (Aa (Dj QD hr (Aa (pv 2) (Aa (pv 4) (Aa (pv 5) Ab)))) Ab)))))))
 (Ai (Ba (pv 1))))),?_⟩
 show let R0:TS:=_;let R1:TS:=Dy _ _ R0;let R2:TS:=Am (Dy _ _ R1) _;Am _ R2 _ _ _;intro R0 R1 R2;generalize hst:L2.start _ _=σ0;have e0:σ0=[js pl,none,none,none,none,none]:=hst.symm;clear hst;subst e0;refine⟨Aw (by show 0<=1000;decide),λl fl=>?_⟩;simp only[QaP,QaO];have s1:=Ad fl (.lst []);have lvs:=Qcd hlo;refine⟨_,rq,pl,_,_,_,rq,rq,SqT.of (s1 _ _ hpl),rq,Ls,rq,⟨vs,SqT.of (s1 _ _ hLs)⟩,?_⟩;let J0:YN:=λi U HH=>∃(ys:YG) (u2 u3 u4 u5:Option V),U=[js pl,js l,u2,u3,u4,u5]/\Same H HH/\HH l=some (.lst ys)/\Paired (Ke HH) ys (up (pdL ja) i);refine Pz (xs:=vs) (lo:=0) J0 ⟨[],_,_,_,_,rq,s1,Ac,.nil⟩ (λi U HH _ h=>?_) (λi x pt U HH hx h hpt=>?_) (fun U HH h=>?_)
 ·obtain⟨ys,_,_,_,_,_,sm,_⟩:=h;exact SqT.of (sm _ _ hLs)
 ·obtain⟨ys,u2,u3,u4,u5,rfl,sm,hy,py⟩:=h;obtain⟨ps,hps,hL⟩:=Paired.Dh hlo hx;obtain⟨t,ws,rfl,ht,hws⟩:=id hL;have okl:=ok.ok ps (QaC hps);have ek:pdL ja i=up (pd1 i ps) ps.length:=Pq hps;have lws:=Qcd hws;have t0:=Ad hpt (.tup [.int ((0+i:Nat):Int),.ref t]);refine⟨pt,_,rq,SqT.of Ac,rq,_,_,rq,_,_,rq,rq,?_⟩;have sm0:=sm.trans t0;have hy0:=t0 _ _ hy;have py0:=Paired.Bg py λ_ _ (z:Ke HH _ _)=>z.tups (Ak.of t0);generalize upd HH pt (.tup [.int ((0+i:Nat):Int),.ref t])=HA at sm0 hy0 py0;simp only[QaP,QaO,Nat.zero_add];have hil:=(Qaf.mp hps).1;have lu:=Qh (iT ok) i;have hhi:=ok.hi;refine⟨_,rq,t,rq,⟨ws,SqT.of (sm0 _ _ ht)⟩,?_⟩;let J1:YN:=λj U HJ=>∃(ys:YG) (u4 u5:Option V),U=[js pl,js l,some (.int (i:Int)),js t,u4,u5]/\Same H HJ/\HJ l=some (.lst ys)/\Paired (Ke HJ) ys (up (pdL ja) i++up (pd1 i ps) j);refine Pz (xs:=ws) (lo:=1) J1 ⟨ys,_,_,rq,sm0,hy0,by rw[Xd,QbI];exact py0⟩ (λj U HJ _ h=>?_) (λj x pt U HJ hx h hpt=>?_) (fun U HJ h=>?_)
  ·obtain⟨ys,_,_,_,sj,_⟩:=h;exact SqT.of (sj _ _ ht)
  ·obtain⟨ys,u4,u5,rfl,sj,hyj,pj⟩:=h;obtain⟨p,hp,hP⟩:=Paired.Dh hws hx;have okp:=okl.ok p (QaC hp);have ej:pd1 i ps j=Ft i ((1+j:Nat):Int) p:=Pq hp;have t1:=Ad hpt (.tup [.int ((1+j:Nat):Int),x]);refine⟨pt,_,rq,SqT.of Ac,rq,_,_,rq,_,_,rq,rq,?_⟩;simp only[QaP,QaO];have hjl:=(Qaf.mp hp).1;have lj:=Qh (Xm (lp:=i) okl.ok) j;have lys:=Qcd pj;rw[QaN] at lys;have h12:=okl.hi;refine⟨_,rq,.inl ⟨rq,_,SqL.of (t1 _ _ hyj)⟩,_,rq,_,rq,_,rq,(i:Int),((1+j:Nat):Int),x,p,rq,hP.tups (Ak.of (sj.trans t1)),okp.spur,λld xs' HB fld hld pdd sB=>?_⟩;have t2:=t1.trans sB;have hyB:=t2 _ _ hyj;have lx:=Qcd pdd;have lpl:=Oj (lp:=i) (a:=((1+j:Nat):Int)) okp;refine⟨l,ld,_,_,rq,rq,hyB,hld,Aw (by omega),?_⟩;have n0:∀zs,HB l≠some (.tup zs):=λzs z=>by rw[hyB] at z;cases z
   have tt:=Ak.upd (o:=.lst (ys++xs')) n0;refine⟨ys++xs',_,_,rq,(sj.trans t2).Dc Ag.upd fl,Ac,?_⟩;rw[Nz,ej,<-Qbe];exact Paired.app (Paired.Bg pj λ_ _ z=>(z.tups (Ak.of t2)).tups tt) (Paired.Bg pdd λ_ _ z=>z.tups tt)
  ·obtain⟨ys,u4,u5,rfl,sj,hyj,pj⟩:=h;exact⟨ys,_,_,_,_,rq,sj,hyj,by rw[Nz,ek,<-lws];exact pj⟩
 ·obtain⟨ys,u2,u3,u4,u5,rfl,sm,hy,py⟩:=h;rw[lvs] at py;exact⟨_,rq,q l ys HH fl hy py sm⟩
end
abbrev Js:Stmt:=top 5
abbrev Fb:YF:=["thing"]
theorem Wo:Bc Fb Fb (Al Js):=by ac_rfl
abbrev Kw:Stmt:=top 6
abbrev DG:YF:=["thing","low","high"]
theorem UG:Bc ["thing","low","high"] DG (Al Kw):=by ac_rfl
abbrev O5:Stmt:=top 7
abbrev Dm:YF:=["thing","least","most"]
theorem ZP:Bc ["thing","least","most"] Dm (Al O5):=by ac_rfl
def iv (xs:List Int):YG:=xs.map V.int
inductive spW (vs:YG) (H:Hp) (Q:VK) (E:XK):Prop
 | mk (i:Int) (_:vs=[.int i]) (_:Q (.bl true) H):spW vs H Q E
inductive Ig (vs:YG) (H:Hp) (Q:VK) (E:XK):Prop
 | mk (x lo hi:Int) (_:vs=[.int x,.int lo,.int hi]) (_:Q (.bl (decide (lo<=x/\x<=hi))) H):Ig vs H Q E
inductive jR (vs:YG) (H:Hp) (Q:VK) (E:XK):Prop
 | mk (v) (_:vs=[v]) (_:Kn H v) (_:Q (.bl (isW v)) H):jR vs H Q E
inductive FN (K:YD) (vs:YG) (H:Hp) (Q:VK) (E:XK):Prop
 | mk (t:Addr) (xs:YG) (a b:Int) (_:vs=[.ref t,.int a,.int b]) (_:TpK K H t xs) (_:a<=(xs.length:Int)) (_:(xs.length:Int)<=b) (_:Q (.bl true) H):FN K vs H Q E
theorem jo {P:Program} {w:World} {K:YD} {mg:YB} {base:Heap} {x:Str} {k:Nat} {ps:YF} {sp sp':Sp} (g:Good P w K mg base x k ps sp) (h:∀vs H Q E,sp' vs H Q E->sp vs H Q E):Good P w K mg base x k ps sp':=⟨let ⟨f,fd,a,b,c,F⟩:=g.ex;⟨f,fd,a,b,c,F.imp h⟩⟩
section
variable {P:Program} {w:World} {K:YD} {mg:YB} {base:Heap}
theorem Vj (c:Code K mg "is_whole" Js Fb) (T:Nm mg):Good P w K mg base "is_whole" 1 Fb jR:=by
 refine c.good Wo (λvs H Q E h=>?_) (λf cdv A outer s H vs Q E hr h=>?_)
 ·obtain⟨v,rfl,_⟩:=h;rfl
 obtain⟨v,rfl,k,q⟩:=h;refine⟨_,(Ai (Ba (DW (Ay Kd rfl T.isinstance Cg (Aa (pv 0) (Aa (Eu (v:=.ty "int") rfl T.int Wb rfl) Ab))) (Ei (j9 (Ay Kd rfl T.isinstance Cg (Aa (pv 0) (Aa (Eu (v:=.ty "bool") rfl T.bool RM rfl) Ab)))))))),?_⟩;refine⟨_,rq,jk k ⟨_,rq,?_⟩⟩;rw[lN] at q;cases e:isI v with
 | false=>rw[e] at q;exact Dn q
 | true=>rw[e] at q;exact BK ⟨_,rfl,fj e ⟨_,rfl,q⟩⟩
theorem Wq (c:Code K mg "is_whole" Js Fb) (T:Nm mg):Good P w K mg base "is_whole" 1 Fb spW:=jo (Vj c T) λvs H Q E h=>let ⟨i,e,q⟩:=h;⟨.int i,e,True.intro,q⟩
theorem Vi (c:Code K mg "is_within" Kw DG) (T:Nm mg) (Y7:Good P w K mg base "is_whole" 1 Fb spW):Good P w K mg base "is_within" 2 DG Ig:=by
 refine c.good UG (λvs H Q E h=>?_) (λf cdv A outer s H vs Q E hr h=>?_)
 ·obtain⟨x,lo,hi,rfl,_⟩:=h;rfl
 obtain⟨x,lo,hi,rfl,q⟩:=h;refine⟨_,(Ai (Ba (DW (BJ Y7 hr (Aa (pv 0) Ab)) (Ei (Lj Ir Ir (pv 1) (pv 0) (pv 2)))))),?_⟩;refine⟨_,rq,x,rq,_,rq,BK ⟨_,rq,_,rq,_,_,rq,rq,_,rq,?_⟩⟩;by_cases h1:lo<=x
 ·rw[QbX h1];refine BK ⟨_,rq,_,_,rq,rq,?_⟩;by_cases h2:x<=hi
  ·rw[QbX ⟨h1,h2⟩] at q;show Q (.bl (decide (x<=hi))) H;rw[QbX h2];exact q
  ·rw[QbL (λz=>h2 z.2)] at q;show Q (.bl (decide (x<=hi))) H;rw[QbL h2];exact q
 ·rw[QbL (λz=>h1 z.1)] at q;rw[QbL h1];exact Dn q
theorem Z8 (c:Code K mg "is_row" O5 Dm) (T:Nm mg):Good P w K mg base "is_row" 1 Dm (FN K):=by
 refine c.good ZP (λvs H Q E h=>?_) (λf cdv A outer s H vs Q E hr h=>?_)
 ·obtain⟨t,xs,a,b,rfl,_⟩:=h;rfl
 obtain⟨t,xs,a,b,rfl,k,h1,h2,q⟩:=h;refine⟨_,(Ai (Ba (DW (Ay S9 rfl T.isinstance Cg (Aa (pv 0) (Aa (Eu (v:=.ty "tuple") rfl T.tuple Cm rfl) Ab))) (Ei (Lj Ir Ir (pv 1) (Ay CG rfl T.len Ek (Aa (pv 0) Ab)) (pv 2)))))),?_⟩;refine⟨_,rq,t,xs,rq,k.sq,_,rq,?_⟩;refine BK ⟨_,rq,_,rq,t,xs,rq,.inr k.sq,_,_,rq,rq,_,rq,?_⟩;rw[QbX h1];refine BK ⟨_,rq,_,_,rq,rq,?_⟩;show Q (.bl (decide ((xs.length:Int)<=b))) H;rw[QbX h2];exact q
end
abbrev Ky:Stmt:=top 8
abbrev GD:YF:=["row"]
theorem UJ:Bc GD GD (Al Ky):=by ac_rfl
abbrev Eb:Stmt:=top 9
abbrev Dk:YF:=["thing","least","most","low","high"]
theorem Lf:Bc Dk Dk (Al Eb):=by ac_rfl
abbrev M8:Stmt:=top 10
abbrev Jc:YF:=Fb
theorem Yl:Bc Fb Jc (Al M8):=by ac_rfl
abbrev Kz:Stmt:=top 14
abbrev Fx:YF:=["kind","address"]
theorem UL:Bc ["kind","address"] Fx (Al Kz):=by ac_rfl
abbrev G3:Stmt:=top 15
abbrev DX:YF:=Fb
theorem Ob:Bc Fb DX (Al G3):=by ac_rfl
abbrev M6:Stmt:=top 16
abbrev Ja:YF:=Fb
theorem Yk:Bc Fb Ja (Al M6):=by ac_rfl
abbrev Lh:Stmt:=top 17
abbrev Hw:YF:=Fb
theorem Gw:Bc ["thing","kind","address","spur"] Hw (Al Lh):=by ac_rfl
abbrev M9:Stmt:=top 18
abbrev Jd:YF:=Fb
theorem Ym:Bc Fb Jd (Al M9):=by ac_rfl
abbrev M5:Stmt:=top 19
abbrev IW:YF:=Fb
theorem Yj:Bc Fb IW (Al M5):=by ac_rfl
abbrev KD:Stmt:=top 20
abbrev GJ:YF:=Fb
theorem U0:Bc Fb GJ (Al KD):=by ac_rfl
abbrev KC:Stmt:=top 21
abbrev GF:YF:=Fb
theorem UW:Bc Fb GF (Al KC):=by ac_rfl
abbrev M7:Stmt:=top 22
abbrev Jb:YF:=Fb
theorem Hs:Bc ["thing","most","loops","zones"] Jb (Al M7):=by ac_rfl
structure Ty (K:YD) (mg:YB) (op oe kd wk:Addr):Prop extends Tx K mg op oe where
 KINDS:∃u,mg "KINDS"=some u/\RelV (.ref kd) u
 kdT:∀H,SqT K H kd [.str "seeker",.str "knob",.str "bell",.str "door"]
 SMALL_LETTERS:∃u,mg "SMALL_LETTERS"=some u/\RelV (.str abc) u
theorem jC:∀c∈abc.cps.toList,(!(Builtin.Str.occurrences abc ⟨#[c]⟩ 0 abc.length 1).isEmpty)=true:=by
 have h:abc.cps.toList.all (λc=>!(Builtin.Str.occurrences abc ⟨#[c]⟩ 0 abc.length 1).isEmpty)=true:=by trivial
 exact λc hc=>QbD.mp h c hc
theorem jj {k:Str} (h:Dl k):inV (.str k) [.str "seeker",.str "knob",.str "bell",.str "door"]=true:=by
 rcases h with rfl | rfl | rfl | rfl <;> decide +kernel
theorem Ji {K:YD} {a l:Addr} {xs:YG} {te:TE} {Q:VK} {r:St} {H:Hp} (hl:H l=none) (ha:TpK K H a xs) (h100:xs.length<=100)
  (hs:∀(i:Nat) (x:V) (HH:Hp),xs[i]?=some x->Same H HH->∀R:VK,(∀H',Same HH H'->R (.bl true) H')->te (some x::r) HH R)
  (hq:∀H',H' l=some (.lst ((List.replicate xs.length true).map V.bl))->Same H H'->Q (.ref l) H'):Fe (Itt K a) (FJ 0) (λ_ H Q=>Q true H) te Q (none::r) (upd H l (.lst [])) l:=by
 let J0:YN:=λi U HH=>∃u,U=u::r/\HH l=some (.lst ((List.replicate i true).map V.bl))/\Same H HH;refine G5 (xs:=xs) J0 ⟨_,rq,Ac,Ad hl _⟩ (λi U HH _ h=>?_) (λi x U HH hx h=>?_) (fun U HH h=>?_)
 ·obtain⟨u,rfl,_,s⟩:=h;exact (ha.same s).sq
 ·obtain⟨u,rfl,e,s⟩:=h;have hi:=(Qaf.mp hx).1;unfold FJ;dsimp only;refine BK (hs i x HH hx s _ λH' s'=>⟨_,s' _ _ e,Aq (by rw[QbF,List.length_replicate];omega),_,rq,?_,(s.trans s').Dc Ag.upd hl⟩);rw[Ac,List.replicate_succ',QbH];rfl
 ·obtain⟨u,rfl,e,s⟩:=h;exact hq _ e s
theorem Qc {n:Nat}:(List.replicate n true).all id=true:=by simp
structure En (p:Place):Prop where
 ok:OkP p
 bd:∀x∈adP p,1<=x/\x<=99
inductive Q6 (vs:YG) (H:Hp) (Q:VK) (E:XK):Prop
 | mk (z:Str) (_:vs=[.str z]) (_:1<=z.length) (_:z.length<=8) (_:okS z) (_:∀H',Same H H'->Q (.bl true) H'):Q6 vs H Q E
inductive Us (vs:YG) (H:Hp) (Q:VK) (E:XK):Prop
 | mk (a:Addr) (ns:List Int) (_:vs=[.ref a]) (_:H a=some (.tup (ns.map V.int))) (_:ns.Pairwise (· < ·)) (_:ns.length<=100) (_:∀H',Same H H'->Q (.bl true) H'):Us vs H Q E
inductive Ur (vs:YG) (H:Hp) (Q:VK) (E:XK):Prop
 | mk (a:Addr) (ns:List Int) (lo hi l h:Int) (_:vs=[.ref a,.int lo,.int hi,.int l,.int h]) (_:H a=some (.tup (ns.map V.int))) (_:ns.Pairwise (· < ·)) (_:ns.length<=100) (_:lo<=ns.length) (_:(ns.length:Int)<=hi) (_:(∀x∈ns,l<=x/\x<=h)) (_:∀H',Same H H'->Q (.bl true) H'):Ur vs H Q E
inductive Qn (vs:YG) (H:Hp) (Q:VK) (E:XK):Prop
 | mk (k:Str) (x:Int) (_:vs=[.str k,.int x]) (_:Dl k) (_:1<=x) (_:x<=99) (_:Q (.bl true) H):Qn vs H Q E
inductive Ow (vs:YG) (H:Hp) (Q:VK) (E:XK):Prop
 | mk (v d) (_:vs=[v]) (_:Er H v d) (_:Dl d.kind) (_:1<=d.addr) (_:d.addr<=99) (_:Q (.bl true) H):Ow vs H Q E
inductive Q0 (K:YD) (vs:YG) (H:Hp) (Q:VK) (E:XK):Prop
 | mk (u ws ds) (_:vs=[.ref u]) (_:TpK K H u ws) (_:Paired (Er H) ws ds) (_:ds.length<=3) (_:(∀d∈ds,Dl d.kind/\1<=d.addr/\d.addr<=99)) (_:∀H',Same H H'->Q (.bl true) H'):Q0 K vs H Q E
inductive Ox (K:YD) (vs:YG) (H:Hp) (Q:VK) (E:XK):Prop
 | mk (v p) (_:vs=[v]) (_:Gf K H v p) (_:En p) (_:∀H',Same H H'->Q (.bl true) H'):Ox K vs H Q E
inductive Q7 (K:YD) (vs:YG) (H:Hp) (Q:VK) (E:XK):Prop
 | mk (v ps) (_:vs=[v]) (_:Jx K H v ps) (_:OkL ps) (_:(∀x∈adL ps,1<=x/\x<=99)) (_:∀H',Same H H'->Q (.bl true) H'):Q7 K vs H Q E
inductive OD (K:YD) (vs:YG) (H:Hp) (Q:VK) (E:XK):Prop
 | mk (Ls ws ja) (_:vs=[.ref Ls]) (_:H Ls=some (.tup ws)) (_:Paired (Jx K H) ws ja) (_:(∀ps∈ja,OkL ps)) (_:(∀x∈Bx ja,1<=x/\x<=99)) (_:1<=ja.length) (_:ja.length<=3) (_:∀H',Same H H'->Q (.bl true) H'):OD K vs H Q E
structure ZnB (z:Zone):Prop where
 nm:(1<=z.name.length/\z.name.length<=8)/\okS z.name
 up:z.adr.Pairwise (· < ·)/\1<=z.adr.length/\z.adr.length<=30
 bd:∀x∈z.adr,1<=x/\x<=99
inductive QZ (vs:YG) (H:Hp) (Q:VK) (E:XK):Prop
 | mk (v z) (_:vs=[v]) (_:CT H v z) (_:ZnB z) (_:∀H',Same H H'->Q (.bl true) H'):QZ vs H Q E
inductive Ov (vs:YG) (H:Hp) (Q:VK) (E:XK):Prop
 | mk (zs ws jp) (_:vs=[.ref zs]) (_:H zs=some (.tup ws)) (_:Paired (CT H) ws jp) (_:(∀z∈jp,ZnB z)) (_:jp.length<=8) (_:(jp.map (·.name)).Nodup) (_:∀H',Same H H'->Q (.bl true) H'):Ov vs H Q E
theorem Uh {α β γ : Type} {h:α->List β} {φ : γ->β} {g:Nat->α->List γ} (l:List α) (hg:∀i x,l[i]?=some x->(g i x).map φ=h x):∀n,n<=l.length->(up (λi=>ifs l[i]? (g i)) n).map φ=(l.take n).flatMap h
 | 0,_=>by rw[Xd];simp
 | n+1,hn=>by
  have hi:l[n]?=some l[n]:=Qam (by omega);rw[Nz,QbH,Uh l hg n (by omega),QcB hi,QaL,Pq hi,hg n _ hi];simp
theorem Oh (lp a:Int):∀(n:Nat) (ds:List Dev),(DP lp a n ds).map (·.addr)=ds.map (·.addr)
 | _,[]=>rfl
 | n,d::r=>by
  show d.addr::(DP lp a (n+1) r).map (·.addr)=d.addr::r.map (·.addr);rw[Oh]
theorem U7 (lp a:Int) (p:Place):(Ft lp a p).map (·.addr)=adP p:=by
 unfold Ft adP;split
 ·rfl
 ·rw[Qce,Oh]
theorem bC (ja:YU):(up (pdL ja) ja.length).map (·.addr)=Bx ja:=by
 have:=Uh (φ:=Sd.addr) (h:=adL) (g:=λk ps=>up (pd1 (k:Int) ps) ps.length) ja (λk ps _=>by
  have:=Uh (φ:=Sd.addr) (h:=adP) (g:=λi p=>Ft (k:Int) ((1+i:Nat):Int) p) ps (λi p _=>U7 _ _ p) ps.length (Qcr _);rw[Qbw] at this;exact this) ja.length (Qcr _)
 rw[Qbw] at this;exact this
theorem cI {ja:YU} (h:Wg ja) {x:Int} (hx:x∈Ef ja):x∈Bx ja:=by
 obtain⟨ps,hps,hx⟩:=Qbz.mp hx;obtain⟨p,hp,hx⟩:=Qbz.mp hx;refine Qbz.mpr ⟨ps,hps,Qbz.mpr ⟨p,hp,?_⟩⟩;obtain⟨d,hd,rfl⟩:=Qcm.mp hx;obtain⟨hd,hw⟩:=QbU.mp hd;rcases ((h.ok ps hps).ok p hp).form with⟨e1,e2,e3⟩| hk
 ·have:d=⟨p.kind,p.addr⟩:=by
   unfold Ep at hd;rw[e3] at hd;simpa using hd
  rw[this] at hw;have hw:Nq p.kind=true:=hw;rw[e1] at hw;exact absurd hw (by trivial)
 ·unfold adP;rw[if_neg (Rz hk)];unfold Ep at hd;rcases Qcc.mp hd with rfl | hd
  ·exact QaQ ..
  ·exact QaD _ (Qcm.mpr ⟨d,hd,rq⟩)
section
variable {P:Program} {w:World} {K:YD} {mg:YB} {base:Heap} {op oe kd wk:Addr}
theorem Yy (C:Code K mg "is_name" M8 Jc) (T:Ty K mg op oe kd wk):Good P w K mg base "is_name" 1 Jc Q6:=by
 refine C.good Yl (λvs H Q E h=>?_) (λf cdv A outer s H vs Q E hr h=>?_)
 ·obtain⟨z,rfl,_⟩:=h;rfl
 obtain⟨z,rfl,h1,h8,oz,q⟩:=h;refine⟨_,(Af (Cj (Dw (Dd (Ay Kd rfl T.isinstance Cg (Aa (pv 0) (Aa (Eu (v:=.ty "str") rfl T.str Hy rfl) Ab))))) (Ai (Ba Hv)) BL)
 (Ai (Ba (DW (Lj Ir Ir Ae (Ay Nt rfl T.len Ek (Aa (pv 0) Ab)) Ae) (Ei (Ay (Fd rfl) rfl T.all Hz (Aa (BP (N':=["sign"]) rfl (Bh.plain rfl (by trivial) (by trivial) (by trivial)) (U8 (pv 0)) (λ_ _ _ _=>(Ah (i:=0) (show List.Nodup (["sign"]:YF) by trivial) rfl (Or.inl rfl))) (λ_ _ _ _=>Cy) (λ_ _ _ _=>(Fv Sh (pv 0) (Qu rfl T.SMALL_LETTERS) (by with_unfolding_all rfl)))) Ab))))))),?_⟩
 show let R0:TS:=_;Am _ R0 _ _ _;intro R0;refine⟨_,rq,Xr ⟨_,rq,Dn ⟨_,rq,z,rq,Aw (by show z.length<=1000;omega),_,_,rq,rq,_,rq,?_⟩⟩⟩;have g1:decide ((1:Int)<=(z.length:Int))=true:=QbX (by omega);rw[g1];refine BK ⟨_,_,rq,rq,_,rq,?_⟩;have g2:decide ((z.length:Int)<=8)=true:=QbX (by omega);rw[g2];refine BK ⟨_,rq,z,rq,λl hl'=>?_⟩;let J1:YN:=λi U HH=>∃u,U=[u]/\HH l=some (.lst ((List.replicate i true).map V.bl))/\Same H HH;refine PX J1 ⟨_,rq,Ac,Ad hl' _⟩ (λi c U HH hc h=>?_) (fun U HH h=>?_)
 ·obtain⟨u,rfl,e1,e2⟩:=h;have hi:i < z.cps.size:=(Qad.mp hc).1;have hz:z.cps.size<=8:=h8;unfold FJ;dsimp only;refine BK ⟨_,rq,_,_,rq,rq,_,e1,Aq (by simp;omega),_,rq,?_,e2.Dc Ag.upd hl'⟩;rw[Ac,jC c (oz c (Array.mem_toList_iff.mpr (Array.mem_of_getElem? hc))),List.replicate_succ',QbH];rfl
 ·obtain⟨u,rfl,e1,e2⟩:=h;refine⟨l,List.replicate z.cps.size true,rq,SqL.of e1,?_⟩;rw[Qc];exact q _ e2
abbrev xf:YF:=["one","other"]
theorem Vk (C:Code K mg "is_rising" Ky GD) (T:Ty K mg op oe kd wk):Good P w K mg base "is_rising" 1 GD Us:=by
 refine C.good UJ (λvs H Q E h=>?_) (λf cdv A outer s H vs Q E hr h=>?_)
 ·obtain⟨a,ns,rfl,_⟩:=h;rfl
 obtain⟨a,ns,rfl,ha,hp,h100,q⟩:=h;refine⟨_,(Ai (Ba (Ay (Fd rfl) rfl T.all Hz (Aa (BP (N':=xf) rfl (Bh.plain rfl (by trivial) (by trivial) (by trivial)) (dH rfl T.zip (Aa (pv 0) (Aa (FP Q8 (pv 0) (Hf Ae) Hg) Ab))) (λ_ _ _ _=>(Jy (K:=K) (n:=2) rfl rfl (Aj (Ah (i:=0) (show List.Nodup (xf:YF) by trivial) rfl (Or.inl rfl)) (Aj (Ah (i:=1) (show List.Nodup (xf:YF) by trivial) rfl (Or.inl rfl)) Bp)))) (λ_ _ _ _=>Cy) (λ_ _ _ _=>(Fv Yr (pv 0) (pv 1) (Cd _)))) Ab)))),?_⟩;refine⟨_,rq,_,rq,_,rq,a,_,rq,ha,λb H1 hb s1=>?_⟩;have ha1:=s1 _ _ ha;refine⟨a,b,rq,⟨_,ha1⟩,⟨_,hb⟩,λl hl=>?_⟩;have hlen:(ns.map V.int).length=ns.length:=QbF ..;have ec:Fz (ns.map V.int) (some (1:Int)) none=(ns.map V.int).drop 1:=by
  by_cases h0:1<=(ns.map V.int).length
  ·exact Ma (k:=1) h0
  ·have:ns.map V.int=[]:=Qas.mp (by omega);rw[this];rfl
 rw[ec] at hb;refine Zd (xs:=ns.map V.int) (ys:=(ns.map V.int).drop 1) (ns.length - 1) (by omega) (by rw[Qby];omega) (.inr (by rw[Qby];omega)) (λi U HH=>∃u1 u2,U=[u1,u2]/\HH l=some (.lst ((List.replicate i true).map V.bl))/\Same H1 HH) ⟨_,_,rq,Ac,Ad hl _⟩ (λi U HH _ h=>?_) (λi x y p U HH hx hy h hpn=>?_) (fun U HH h=>?_)
 ·obtain⟨u1,u2,rfl,e1,e2⟩:=h;exact⟨e2 _ _ ha1,e2 _ _ hb⟩
 ·obtain⟨u1,u2,rfl,e1,e2⟩:=h;rw[Qbb] at hy;rw[Qbf] at hx hy;obtain⟨n1,hn1,rfl⟩:=Qau.mp hx;obtain⟨n2,hn2,rfl⟩:=Qau.mp hy;obtain⟨i1,g1⟩:=Qaf.mp hn1;obtain⟨i2,g2⟩:=Qaf.mp hn2;have lt:n1 < n2:=by
   rw[<-g1,<-g2];exact Qai.mp hp i (1+i) i1 i2 (by omega)
  have s2:=Ad hpn (.tup [.int n1,.int n2]);refine⟨p,_,rq,SqT.of Ac,rq,_,_,rq,_,_,rq,rq,?_⟩;refine BK ⟨_,rq,_,rq,_,_,rq,rq,_,s2 _ _ e1,Aq (by simp;omega),_,_,rq,?_,(e2.trans s2).Dc Ag.upd hl⟩;rw[Ac];show some (HO.lst (_++[V.bl (decide (n1 < n2))]))=_;rw[QbX lt,List.replicate_succ',QbH];rfl
 ·obtain⟨u1,u2,rfl,e1,e2⟩:=h;refine⟨l,List.replicate (ns.length - 1) true,rq,SqL.of e1,?_⟩;rw[Qc];exact q _ (s1.trans e2)
theorem Tr (C:Code K mg "are_rising_within" Eb Dk) (T:Ty K mg op oe kd wk) (Ck:Good P w K mg base "is_row" 1 Dm (FN K)) (Em:Good P w K mg base "is_within" 2 DG Ig) (WM:Good P w K mg base "is_rising" 1 GD Us):Good P w K mg base "are_rising_within" 3 Dk Ur:=by
 refine C.good Lf (λvs H Q E h=>?_) (λf cdv A outer s H vs Q E hr h=>?_)
 ·obtain⟨a,ns,lo,hi,l,h,rfl,_⟩:=h;rfl
 obtain⟨a,ns,lo,hi,l,h,rfl,ha,hp,h100,h1,h2,h3,q⟩:=h;refine⟨_,(Af (Cj (Dw (Dd (Dj Ck hr (Aa (pv 0) (Aa (pv 1) (Aa (pv 2) Ab)))))) (Ai (Ba Hv)) BL)
 (Ai (Ba (DW (Ay (Fd rfl) rfl T.all Hz (Aa (BP (N':=["part","low","high"]) rfl (Bh.of (src:=[none,some 3,some 4]) (Al Eb) Dk rfl rfl rfl (by trivial) (by trivial) (by trivial) rfl (by trivial)) (CK (pv 0)) (λ_ _ _ _=>(Ah (i:=0) (show List.Nodup (["part","low","high"]:YF) by trivial) rfl (Or.inl rfl))) (λ_ _ _ _=>Cy) (λ_ _ _ _=>(Dj Em hr (Aa (pv 0) (Aa (pv 1) (Aa (pv 2) Ab)))))) Ab)) (Ei (BJ WM hr (Aa (pv 0) Ab))))))),?_⟩
 show let R0:TS:=_;Am _ R0 _ _ _;intro R0;have hlen:(ns.map V.int).length=ns.length:=QbF ..;refine⟨_,rq,_,rq,_,rq,a,_,lo,hi,rq,(.inl ha),(by rw[hlen];exact h1),(by rw[hlen];exact h2),_,rq,?_⟩;refine Dn ⟨_,rq,a,rq,⟨_,SqT.of ha⟩,λl2 hl2=>?_⟩;refine Ji (r:=[some (.int l),some (.int h)]) hl2 (.inl ha) (by omega) (λi x HH hx s1 R hR=>?_) (λH' e s1=>?_)
 ·rw[Qbf] at hx;obtain⟨n1,hn1,rfl⟩:=Qau.mp hx;refine⟨_,rq,_,rq,_,rq,n1,l,h,rq,?_⟩;rw[QbX (h3 n1 (QaC hn1))];exact hR _ (Same.refl _)
 ·refine⟨l2,List.replicate (ns.map V.int).length true,rq,SqL.of e,_,rq,?_⟩;rw[Qc];exact BK ⟨_,rq,a,ns,rq,s1 _ _ ha,hp,h100,λH2 s2=>q _ (s1.trans s2)⟩
theorem Vl (C:Code K mg "is_device" Kz Fx) (T:Ty K mg op oe kd wk) (Em:Good P w K mg base "is_within" 2 DG Ig):Good P w K mg base "is_device" 3 Fx Qn:=by
 refine C.good UL (λvs H Q E h=>?_) (λf cdv A outer s H vs Q E hr h=>?_)
 ·obtain⟨k,x,rfl,_⟩:=h;rfl
 obtain⟨k,x,rfl,hk,h1,h2,q⟩:=h;refine⟨_,(Ai (Ba (DW (Fv Ni (pv 0) (Qu rfl T.KINDS) (by with_unfolding_all rfl)) (Ei (Dj Em hr (Aa (pv 1) (Aa Ae (Aa Ae Ab)))))))),?_⟩;refine⟨_,rq,kd,_,rq,.inr (T.kdT H),rq,rq,_,rq,?_⟩;rw[if_neg QaS,jj hk];refine BK ⟨_,rq,x,1,99,rq,?_⟩;rw[QbX ⟨h1,h2⟩];exact q
theorem Oc (C:Code K mg "is_spur_device" G3 DX) (T:Ty K mg op oe kd wk) (Ck:Good P w K mg base "is_row" 1 Dm (FN K)) (KN:Good P w K mg base "is_device" 3 Fx Qn):Good P w K mg base "is_spur_device" 4 DX Ow:=by
 refine C.good Ob (λvs H Q E h=>?_) (λf cdv A outer s H vs Q E hr h=>?_)
 ·obtain⟨v,d,rfl,_⟩:=h;rfl
 obtain⟨v,d,rfl,⟨t,rfl,ht⟩,hk,h1,h2,q⟩:=h;refine⟨_,(Ai (Ba (DW (Dj Ck hr (Aa (pv 0) (Aa Ae (Aa Ae Ab)))) (Ei (Ca KN hr (Aa (Cu Jg (pv 0) Ae (λ_ _=>rfl)) (Aa (Cu Jg (pv 0) Ae (λ_ _=>rfl)) Ab))))))),?_⟩;refine⟨_,rq,t,_,2,2,rq,(.inl ht),(by show (2:Int)<=2;decide),(by show (2:Int)<=2;decide),_,rq,?_⟩;exact BK ⟨_,rq,t,_,_,_,rq,rq,SqT.of ht,rq,_,rq,t,_,_,_,rq,rq,SqT.of ht,rq,d.kind,d.addr,rq,hk,h1,h2,q⟩
abbrev xa:YF:=["part"]
theorem Yw (C:Code K mg "is_spur" M6 Ja) (T:Ty K mg op oe kd wk) (Ck:Good P w K mg base "is_row" 1 Dm (FN K)) (Px:Good P w K mg base "is_spur_device" 4 DX Ow):Good P w K mg base "is_spur" 5 Ja (Q0 K):=by
 refine C.good Yk (λvs H Q E h=>?_) (λf cdv A outer s H vs Q E hr h=>?_)
 ·obtain⟨u,ws,ds,rfl,_⟩:=h;rfl
 obtain⟨u,ws,ds,rfl,hu,hd,h3,hk,q⟩:=h;have lw:=Qcd hd;refine⟨_,(Ai (Ba (DW (Dj Ck hr (Aa (pv 0) (Aa Ae (Aa Ae Ab)))) (Ei (Ay (Fd rfl) rfl T.all Hz (Aa (BP (N':=xa) rfl (Bh.plain rfl (by trivial) (by trivial) (by trivial)) (CK (pv 0)) (λ_ _ _ _=>(Ah (i:=0) (show List.Nodup (xa:YF) by trivial) rfl (Or.inl rfl))) (λ_ _ _ _=>Cy) (λ_ _ _ _=>(BJ Px hr (Aa (pv 0) Ab)))) Ab)))))),?_⟩;refine⟨_,rq,u,_,0,3,rq,hu,(by omega),(by omega),_,rq,?_⟩;refine BK ⟨_,rq,u,rq,⟨_,hu.sq⟩,λl2 hl2=>?_⟩;refine Ji (r:=[]) hl2 hu (by omega) (λi x HH hx s1 R hR=>?_) (λH' e s1=>?_)
 ·obtain⟨d,hdi,had⟩:=Paired.Dh hd hx;have:=hk d (QaC hdi);exact⟨_,rq,x,d,rq,had.tups (Ak.of s1),this.1,this.2.1,this.2.2,hR _ (Same.refl _)⟩
 ·refine⟨l2,List.replicate ws.length true,rq,SqL.of e,?_⟩;rw[Qc];exact q _ s1
theorem Wr (C:Code K mg "is_place" Lh Hw) (T:Ty K mg op oe kd wk) (Ck:Good P w K mg base "is_row" 1 Dm (FN K)) (Em:Good P w K mg base "is_within" 2 DG Ig) (KN:Good P w K mg base "is_device" 3 Fx Qn) (aR:Good P w K mg base "is_spur" 5 Ja (Q0 K)):Good P w K mg base "is_place" 6 Hw (Ox K):=by
 have sc:=Gw;refine C.good Gw (λvs H Q E h=>?_) (λf cdv A outer s H vs Q E hr h=>?_)
 ·obtain⟨v,p,rfl,_⟩:=h;rfl
 obtain⟨v,p,rfl,⟨t,u,ws,rfl,ht,hu,hd⟩,⟨ok,bd⟩,q⟩:=h;have lw:=Qcd hd;have h3:=ok.spur;refine⟨_,(Af (Cj (Dw (Dd (Dj Ck hr (Aa (pv 0) (Aa Ae (Aa Ae Ab)))))) (Ai (Ba Hv)) BL)
 (Af (DR (pv 0) (CN rfl (Aj (Ah (i:=1) Gw.nd rfl (Or.inl rfl)) (Aj (Ah (i:=2) Gw.nd rfl (Or.inl rfl)) (Aj (Ah (i:=3) Gw.nd rfl (Or.inl rfl)) Bp)))))
 (Af (Cj (BX Gm (pv 1) Bb (Cd _)) (Ai (Ba (DW (Dj Em hr (Aa (pv 2) (Aa Ae (Aa Ae Ab)))) (Ei (Dj Ck hr (Aa (pv 3) (Aa Ae (Aa Ae Ab)))))))) BL)
 (Ai (Ba (DW (Ca KN hr (Aa (pv 1) (Aa (pv 2) Ab))) (Ei (BJ aR hr (Aa (pv 3) Ab))))))))),?_⟩
 show let R0:TS:=_;let R1:TS:=_;let R2:TS:=Am (Hj _ R1 _) R0;let R3:TS:=Am _ R2;Am _ R3 _ _ _;intro R0 R1 R2 R3;refine⟨_,rq,t,_,3,3,rq,ht,(by show (3:Int)<=3;decide),(by show (3:Int)<=3;decide),_,rq,?_⟩;refine Dn ⟨_,rq,t,_,rq,ht.sq,rq,_,_,rq,_,_,rq,_,_,rq,rq,?_⟩;refine⟨_,rq,rq,_,rq,?_⟩;rcases ok.form with⟨e1,e2,e3⟩| hk
 ·rw[show decide (V.str p.kind=V.str "opener")=true by rw[e1];rfl];have lw0:ws.length=0:=by rw[lw,e3];rfl
  refine BK ⟨_,rq,p.addr,0,0,rq,_,rq,?_⟩;rw[show decide ((0:Int)<=p.addr/\p.addr<=0)=true by rw[e2];rfl];exact BK ⟨_,rq,u,_,0,0,rq,hu,by omega,by omega,q _ (Same.refl _)⟩
 ·have ea:adP p=p.addr::p.spur.map (·.addr):=if_neg (Rz hk);rw[ea] at bd;rw[QbL (Rz hk)];have b0:=bd p.addr (QaQ ..);refine Dn ⟨_,rq,_,rq,p.kind,p.addr,rq,hk,b0.1,b0.2,_,rq,?_⟩;exact BK ⟨_,rq,u,ws,p.spur,rq,hu,hd,h3,λd hdm=>⟨ok.kinds d hdm,bd d.addr (QaD _ (Qcm.mpr ⟨d,hdm,rq⟩))⟩,q⟩
theorem Yz (C:Code K mg "is_loop" M9 Jd) (T:Ty K mg op oe kd wk) (Ck:Good P w K mg base "is_row" 1 Dm (FN K)) (Y8:Good P w K mg base "is_place" 6 Hw (Ox K)):Good P w K mg base "is_loop" 7 Jd (Q7 K):=by
 refine C.good Ym (λvs H Q E h=>?_) (λf cdv A outer s H vs Q E hr h=>?_)
 ·obtain⟨v,ps,rfl,_⟩:=h;rfl
 obtain⟨v,ps,rfl,⟨t,ws,rfl,ht,hd⟩,ok,bd,q⟩:=h;have lw:=Qcd hd;have l1:=ok.lo;have l2:=ok.hi;refine⟨_,(Ai (Ba (DW (Dj Ck hr (Aa (pv 0) (Aa Ae (Aa Ae Ab)))) (Ei (Ay (Fd rfl) rfl T.all Hz (Aa (BP (N':=xa) rfl (Bh.plain rfl (by trivial) (by trivial) (by trivial)) (CK (pv 0)) (λ_ _ _ _=>(Ah (i:=0) (show List.Nodup (xa:YF) by trivial) rfl (Or.inl rfl))) (λ_ _ _ _=>Cy) (λ_ _ _ _=>(BJ Y8 hr (Aa (pv 0) Ab)))) Ab)))))),?_⟩;refine⟨_,rq,t,_,1,12,rq,(.inl ht),(by omega),(by omega),_,rq,?_⟩;refine BK ⟨_,rq,t,rq,⟨_,SqT.of ht⟩,λl2 hl2=>?_⟩;refine Ji (r:=[]) hl2 (.inl ht) (by omega) (λi x HH hx s1 R hR=>?_) (λH' e s1=>?_)
 ·obtain⟨p,hpi,hap⟩:=Paired.Dh hd hx;have hm:=QaC hpi;exact⟨_,rq,x,p,rq,hap.tups (Ak.of s1),⟨ok.ok p hm,λy hy=>bd y (Qbz.mpr ⟨p,hm,hy⟩)⟩,λH2 s2=>hR _ s2⟩
 ·refine⟨l2,List.replicate ws.length true,rq,SqL.of e,?_⟩;rw[Qc];exact q _ s1
theorem Vn (C:Code K mg "are_loops" KD GJ) (T:Ty K mg op oe kd wk) (Ck:Good P w K mg base "is_row" 1 Dm (FN K)) (aW:Good P w K mg base "is_loop" 7 Jd (Q7 K)):Good P w K mg base "are_loops" 8 GJ (OD K):=by
 refine C.good U0 (λvs H Q E h=>?_) (λf cdv A outer s H vs Q E hr h=>?_)
 ·obtain⟨Ls,ws,ja,rfl,_⟩:=h;rfl
 obtain⟨t,ws,ja,rfl,ht,hd,ok,bd,l1,l2,q⟩:=h;have lw:=Qcd hd;refine⟨_,(Ai (Ba (DW (Dj Ck hr (Aa (pv 0) (Aa Ae (Aa Ae Ab)))) (Ei (Ay (Fd rfl) rfl T.all Hz (Aa (BP (N':=xa) rfl (Bh.plain rfl (by trivial) (by trivial) (by trivial)) (CK (pv 0)) (λ_ _ _ _=>(Ah (i:=0) (show List.Nodup (xa:YF) by trivial) rfl (Or.inl rfl))) (λ_ _ _ _=>Cy) (λ_ _ _ _=>(BJ aW hr (Aa (pv 0) Ab)))) Ab)))))),?_⟩;refine⟨_,rq,t,_,1,3,rq,(.inl ht),(by omega),(by omega),_,rq,?_⟩;refine BK ⟨_,rq,t,rq,⟨_,SqT.of ht⟩,λl2 hl2=>?_⟩;refine Ji (r:=[]) hl2 (.inl ht) (by omega) (λi x HH hx s1 R hR=>?_) (λH' e s1=>?_)
 ·obtain⟨p,hpi,hap⟩:=Paired.Dh hd hx;have hm:=QaC hpi;exact⟨_,rq,x,p,rq,hap.tups (Ak.of s1),ok p hm,λy hy=>bd y (Qbz.mpr ⟨p,hm,hy⟩),λH2 s2=>hR _ s2⟩
 ·refine⟨l2,List.replicate ws.length true,rq,SqL.of e,?_⟩;rw[Qc];exact q _ s1
theorem Yv (C:Code K mg "is_zone" M5 IW) (T:Ty K mg op oe kd wk) (Ck:Good P w K mg base "is_row" 1 Dm (FN K)) (aV:Good P w K mg base "is_name" 1 Jc Q6) (Mp:Good P w K mg base "are_rising_within" 3 Dk Ur):Good P w K mg base "is_zone" 4 IW QZ:=by
 refine C.good Yj (λvs H Q E h=>?_) (λf cdv A outer s H vs Q E hr h=>?_)
 ·obtain⟨v,z,rfl,_⟩:=h;rfl
 obtain⟨v,z,rfl,⟨t,u,rfl,ht,hu⟩,ok,q⟩:=h;refine⟨_,(Ai (Ba (DW (Dj Ck hr (Aa (pv 0) (Aa Ae (Aa Ae Ab)))) (DW (BJ aV hr (Aa (Cu Jg (pv 0) Ae (λ_ _=>rfl)) Ab)) (Ei (kh Mp hr (@Aa _ _ _ _ _ (Cu Jg (pv 0) Ae (λ_ _=>rfl)) (@Aa _ _ _ _ _ (@Ae _ _ _ _) (@Aa _ _ _ _ _ (@Ae _ _ _ _) (@Aa _ _ _ _ _ (@Ae _ _ _ _) (@Aa _ _ _ _ _ (@Ae _ _ _ _) (@Ab _) Bl) Bl) Bl) Bl) jQ))))))),?_⟩;refine⟨_,rq,t,_,2,2,rq,(.inl ht),(by show (2:Int)<=2;decide),(by show (2:Int)<=2;decide),_,rq,?_⟩;refine BK ⟨_,rq,t,_,_,_,rq,rq,SqT.of ht,rq,z.name,rq,ok.nm.1.1,ok.nm.1.2,ok.nm.2,λH1 s1=>⟨_,rq,BK ?_⟩⟩;have u1:=ok.up.2.1;have u2:=ok.up.2.2;exact⟨_,rq,t,_,_,_,rq,rq,SqT.of (s1 _ _ ht),rq,u,z.adr,1,30,1,99,rq,s1 _ _ hu,ok.up.1,by omega,by omega,by omega,ok.bd,λH2 s2=>q _ (s1.trans s2)⟩
end
def Kl {α : Type} (f:α->Key) (xs:List α):YM:=xs.map λx=>(f x,V.bl true)
theorem Sw {α : Type} {f:α->Key} {k:Key}:∀{xs:List α},(∀x∈xs,f x≠k)->Ia (Kl f xs) k=none
 | [],_=>rfl
 | x::r,h=>by
  have:Kl f (x::r)=(f x,V.bl true)::Kl f r:=rfl;rw[this,Ld (p:=(f x,V.bl true)) (h x (QaQ ..))];exact Sw λy hy=>h y (QaD _ hy)
theorem Sx {α : Type} (f:α->Key) (xs:List α):(Kl f xs).length=xs.length:=QbF ..
theorem aF {α : Type} {f:α->Key} {xs:List α} {x:α} (h:∀y∈xs,f y≠f x):putK (Kl f xs) (f x) (.bl true)=Kl f (xs++[x]):=by
 rw[dw _ (Sw h)];unfold Kl;rw[QbH];rfl
theorem jh {α : Type} {l:List α} (h:l.Nodup) {i:Nat} {x:α} (hx:l[i]?=some x):∀y∈l.take i,y≠x:=λy hy e=>by
 subst e;obtain⟨j,hj⟩:=QaF hy;rw[List.getElem?_take] at hj;split at hj
 ·rename_i hji;obtain⟨h1,e1⟩:=Qaf.mp hj;obtain⟨h2,e2⟩:=Qaf.mp hx;have:=Qai.mp h j i h1 h2 hji;exact this (by rw[e1,e2])
 ·cases hj
theorem Ws {α β : Type} {f:α->β} {l:List α} (h:(l.map f).Nodup) {i:Nat} {x:α} (hx:l[i]?=some x):∀y∈l.take i,f y≠f x:=λy hy e=>by
 have:=jh h (i:=i) (x:=f x) (by rw[Qbf,hx];rfl) (f y) (by rw[<-List.map_take];exact Qcm.mpr ⟨y,hy,rq⟩);exact this e
structure PlF (most:Int) (ja:YU) (jp:List Zone):Prop where
 ok:Wg ja
 lo:1<=ja.length
 bd:∀x∈Bx ja,1<=x/\x<=99
 cnt:1<=(Bx ja).length/\(Bx ja).length<=30
 mo:1<=most/\most<=30
 zb:∀z∈jp,ZnB z
 Mt:jp.length<=8
 zdi:(jp.map (·.name)).Nodup
def PlL (K:YD) (H:Hp) (pl:Addr) (most:Int) (ja:YU) (jp:List Zone):Prop:=∃Ls zs vs zvs,H pl=some (.tup [.int most,.ref Ls,.ref zs])/\H Ls=some (.tup vs)/\Paired (Jx K H) vs ja/\H zs=some (.tup zvs)/\Paired (CT H) zvs jp
theorem PlL.tups {K:YD} {H H':Hp} {pl:Addr} {most:Int} {ja:YU} {jp:List Zone} (h:PlL K H pl most ja jp) (s:Ak H H'):PlL K H' pl most ja jp:=by
 obtain⟨Ls,zs,vs,zvs,e1,e2,e3,e4,e5⟩:=h;exact⟨Ls,zs,vs,zvs,s _ _ e1,s _ _ e2,Paired.Bg e3 λ_ _ z=>z.tups s,s _ _ e4,Paired.Bg e5 λ_ _ z=>z.tups s⟩
structure PlA (K:YD) (H:Hp) (pl:Addr) (most:Int) (ja:YU) (jp:List Zone):Prop extends PlF most ja jp where
 at_:PlL K H pl most ja jp
theorem PlA.tups {K:YD} {H H':Hp} {pl:Addr} {most:Int} {ja:YU} {jp:List Zone} (h:PlA K H pl most ja jp) (s:Ak H H'):PlA K H' pl most ja jp:=⟨h.toPlF,h.at_.tups s⟩
theorem PlA.same {K:YD} {H H':Hp} {pl:Addr} {most:Int} {ja:YU} {jp:List Zone} (h:PlA K H pl most ja jp) (s:Same H H'):PlA K H' pl most ja jp:=h.tups (Ak.of s)
theorem PlA.plan {K:YD} {H:Hp} {pl:Addr} {most:Int} {ja:YU} {jp:List Zone} (h:PlA K H pl most ja jp):bY K H pl ja:=by
 obtain⟨Ls,zs,vs,zvs,e1,e2,e3,e4,e5⟩:=h.at_;exact⟨_,_,Ls,vs,e1,e2,e3⟩
inductive Q5 (K:YD) (vs:YG) (H:Hp) (Q:VK) (E:XK):Prop
 | mk (pl most ja jp) (_:vs=[.ref pl]) (_:PlA K H pl most ja jp) (_:∀H',Same H H'->Q (.bl true) H'):Q5 K vs H Q E
section
variable {P:Program} {w:World} {K:YD} {mg:YB} {base:Heap} {op oe kd wk:Addr}
abbrev xg:YF:=["name","addresses"]
theorem Vm (C:Code K mg "are_zones" KC GF) (T:Ty K mg op oe kd wk) (Ck:Good P w K mg base "is_row" 1 Dm (FN K)) (aQ:Good P w K mg base "is_zone" 4 IW QZ):Good P w K mg base "are_zones" 5 GF Ov:=by
 refine C.good UW (λvs H Q E h=>?_) (λf cdv A outer s H vs Q E hr h=>?_)
 ·obtain⟨zs,ws,jp,rfl,_⟩:=h;rfl
 obtain⟨t,ws,jp,rfl,ht,hd,ok,l8,nd,q⟩:=h;have lw:=Qcd hd;refine⟨_,(Af (Cj (PW.pt (Ip (Dw (Dd (Dj Ck hr (Aa (pv 0) (Aa Ae (Aa Ae Ab)))))) (Iw (Dw (Dd (Ay (Fd rfl) rfl T.all Hz (Aa (BP (N':=xa) rfl (Bh.plain rfl (by trivial) (by trivial) (by trivial)) (CK (pv 0)) (λ_ _ _ _=>(Ah (i:=0) (show List.Nodup (xa:YF) by trivial) rfl (Or.inl rfl))) (λ_ _ _ _=>Cy) (λ_ _ _ _=>(BJ aQ hr (Aa (pv 0) Ab)))) Ab))))))) (Ai (Ba Hv)) BL)
 (Ai (Ba (Fv Gm (Ay bK rfl T.len Ek (Aa (dN (N':=xg) rfl (Bh.plain rfl (by trivial) (by trivial) (by trivial)) (CK (pv 0)) (λ_ _ _ _=>(Jy (K:=K) (n:=2) rfl rfl (Aj (Ah (i:=0) (show List.Nodup (xg:YF) by trivial) rfl (Or.inl rfl)) (Aj (Ah (i:=1) (show List.Nodup (xg:YF) by trivial) rfl (Or.inl rfl)) Bp)))) (λ_ _ _ _=>Cy) (λ_ _ _ _=>(pv 0)) (λ_ _ _ _=>Hv)) Ab)) (Ay CG rfl T.len Ek (Aa (pv 0) Ab)) (Cd _))))),?_⟩
 show let R0:TS:=_;Am _ R0 _ _ _;intro R0;refine⟨_,rq,t,_,0,8,rq,(.inl ht),(by omega),(by omega),_,rq,?_⟩;refine Dn ⟨_,rq,t,rq,⟨_,SqT.of ht⟩,λl2 hl2=>?_⟩;refine Ji (r:=[]) hl2 (.inl ht) (by omega) (λi x HH hx s1 R hR=>?_) (λH' e s1=>?_)
 ·obtain⟨z,hzi,haz⟩:=Paired.Dh hd hx;exact⟨_,rq,x,z,rq,haz.tups (Ak.of s1),ok z (QaC hzi),λH2 s2=>hR _ s2⟩
 refine⟨l2,List.replicate ws.length true,rq,SqL.of e,_,rq,?_⟩;rw[Qc];have ht1:=s1 _ _ ht;refine Dn ⟨_,rq,t,rq,⟨_,SqT.of ht1⟩,λl hl=>?_⟩;let J0:YN:=λi U HH=>∃u1 u2,U=[u1,u2]/\HH l=some (.dK (Kl (λz:Zone=>Sum.inr z.name) (jp.take i)))/\Same H' HH;refine bF (xs:=ws) J0 ⟨_,_,rq,Ac,Ad hl _⟩ (λi U HH _ h=>?_) (λi x U HH hx h=>?_) (fun U HH h=>?_)
 ·obtain⟨u1,u2,rfl,e1,e2⟩:=h;exact SqT.of (e2 _ _ ht1)
 ·obtain⟨u1,u2,rfl,e1,e2⟩:=h;obtain⟨z,hzi,tz,uz,rfl,h1,h2⟩:=Paired.Dh hd hx;refine⟨tz,_,rq,SqT.of (e2 _ _ (s1 _ _ h1)),rq,_,_,rq,_,_,rq,rq,?_⟩;refine BK ⟨_,rq,_,Sum.inr z.name,e1,rq,Aq (by rw[Sx,Qbv];omega),_,_,rq,?_,e2.Dc Ag.upd hl⟩;rw[Ac,aF (f:=λz:Zone=>Sum.inr z.name) (x:=z),QcB hzi];exact λy hy e=>Ws nd hzi y hy (Sum.inr.inj e)
 ·obtain⟨u1,u2,rfl,e1,e2⟩:=h;rw[lw,Qbw] at e1;refine⟨l,_,rq,e1,_,rq,t,_,rq,.inr (SqT.of (e2 _ _ ht1)),rq,?_⟩;rw[Sx,lw];have:decide (V.int (jp.length:Int)=V.int (jp.length:Int))=true:=QbX rfl;rw[this];exact q _ (s1.trans e2)
theorem Yx (C:Code K mg "is_plan" M7 Jb) (T:Ty K mg op oe kd wk) (Ck:Good P w K mg base "is_row" 1 Dm (FN K)) (Em:Good P w K mg base "is_within" 2 DG Ig) (WR:Good P w K mg base "are_loops" 8 GJ (OD K)) (WQ:Good P w K mg base "are_zones" 5 GF Ov) (aX:Good P w K mg base "devices" 2 Je (Yd K)):Good P w K mg base "is_plan" 9 Jb (Q5 K):=by
 have sc:=Hs;refine C.good Hs (λvs H Q E h=>?_) (λf cdv A outer s H vs Q E hr h=>?_)
 ·obtain⟨pl,most,ja,jp,rfl,_⟩:=h;rfl
 obtain⟨pl,most,ja,jp,rfl,pa,q⟩:=h;obtain⟨Ls,zs,ws,zvs,e1,e2,e3,e4,e5⟩:=pa.at_;refine⟨_,(Af (Cj (Dw (Dd (Dj Ck hr (Aa (pv 0) (Aa Ae (Aa Ae Ab)))))) (Ai (Ba Hv)) BL)
 (Af (DR (pv 0) (CN rfl (Aj (Ah (i:=1) Hs.nd rfl (Or.inl rfl)) (Aj (Ah (i:=2) Hs.nd rfl (Or.inl rfl)) (Aj (Ah (i:=3) Hs.nd rfl (Or.inl rfl)) Bp)))))
 (Af (Cj (PW.pt (Ip (Dw (Dd (Dj Em hr (Aa (pv 1) (Aa Ae (Aa Ae Ab)))))) (Ip (Dw (Dd (BJ WR hr (Aa (pv 2) Ab)))) (Iw (Dw (Dd (BJ WQ hr (Aa (pv 3) Ab)))))))) (Ai (Ba Hv)) BL)
 (Ai (Ba (Lj Ir Ir Ae (Ay CG rfl T.len Ek (Aa (BJ aX hr (Aa (pv 0) Ab)) Ab)) Ae)))))),?_⟩
 show let R0:TS:=_;let R1:TS:=Am _ R0;let R2:TS:=Am _ R1;Am _ R2 _ _ _;intro R0 R1 R2;refine⟨_,rq,pl,_,3,3,rq,(.inl e1),(by show (3:Int)<=3;decide),(by show (3:Int)<=3;decide),_,rq,?_⟩;refine Dn ⟨_,rq,pl,_,rq,SqT.of e1,rq,_,_,rq,_,_,rq,_,_,rq,rq,?_⟩;refine⟨_,rq,most,1,30,rq,_,rq,?_⟩;rw[QbX pa.mo];refine Dn ⟨_,rq,Ls,ws,ja,rq,e2,e3,pa.ok.ok,pa.bd,pa.lo,pa.ok.hi,λH1 s1=>⟨_,rq,Dn ?_⟩⟩;refine⟨_,rq,zs,zvs,jp,rq,s1 _ _ e4,Paired.Bg e5 λ_ _ z=>z.tups (Ak.of s1),pa.zb,pa.Mt,pa.zdi,λH2 s2=>⟨_,rq,Dn ?_⟩⟩;have s12:=s1.trans s2;refine⟨_,rq,pl,ja,rq,(pa.same s12).plan,pa.ok,λl xs H3 hl hx hp s3=>?_⟩;have lx:=Qcd hp;have la:(up (pdL ja) ja.length).length=(Bx ja).length:=by rw[<-bC ja,QbF]
 have c1:=pa.cnt.1;have c2:=pa.cnt.2;refine⟨l,_,rq,.inl (SqL.of hx),_,_,rq,rq,_,rq,?_⟩;have g1:decide ((1:Int)<=(xs.length:Int))=true:=QbX (by omega);rw[g1];refine BK ⟨_,_,rq,rq,?_⟩;have g2:decide ((xs.length:Int)<=30)=true:=QbX (by omega);show Q (.bl (decide ((xs.length:Int)<=30))) H3;rw[g2];exact q _ (s12.trans s3)
end
def L (s:Str):List Nat:=s.cps.toList
def S (l:List Nat):Str:=⟨l.toArray⟩
theorem L_S (l:List Nat):L (S l)=l:=rfl
theorem S_L (s:Str):S (L s)=s:=rfl
theorem Di (a b:Str):L (a++b)=L a++L b:=by
 have e:(a++b).cps=a.cps++b.cps:=rfl;unfold L;rw[e,Array.toList_append]
theorem HN {a b:Str} (h:L a=L b):a=b:=by rw[<-S_L a,h];rfl
theorem T8:L Str.empty=[]:=rfl
theorem CQ (s:Str):s.length=(L s).length:=(QaJ ..).symm
theorem Dz (l:List Nat):(S l).length=l.length:=by rw[CQ];rfl
theorem NP:100000<=sizeLine:=by decide
theorem szb {n:Nat} (h:n<=100000):n<=sizeLine:=Qcn h NP
def num (n:Nat):List Nat:=L (Str.ofString (toString (n:Int)))
def fM (c:Nat):Bool:=!(Builtin.Str.occurrences "0123456789" ⟨#[c]⟩ 0 (Str.ofString "0123456789").length 1).isEmpty
theorem jr (c:Nat):fM c=decide (c∈L "0123456789"):=PySem.StrLaws.found_one _ _
theorem Ro:∀n,n < 100->(num n).all fM=true/\1<=(num n).length/\(num n).length<=2/\(num n).all (λc=>decide (48<=c/\c<=57))=true:=by
 intro n h;have key:∀n,n < 100->((num n).all (λc=>decide (c∈L "0123456789"))=true/\1<=(num n).length/\(num n).length<=2/\(num n).all (λc=>decide (48<=c/\c<=57))=true):=by trivial
 have k:=key n h;refine⟨?_,k.2⟩;rw[<-k.1];congr 1
 funext c
 exact jr c
theorem Rn {n:Nat} (h:n < 100):intText? (S (num n))=some (n:Int):=PySem.W.KIN.num_reads (by omega) (by omega)
theorem jd {n m:Nat} (hn:n < 100) (hm:m < 100) (h:num n=num m):n=m:=by
 have e:=Rn hn;rw[h,Rn hm] at e;injection e with e;omega
theorem lg {n:Nat} (h:n < 100):(num n).length<=2:=(Ro n h).2.2.1
theorem dY {n:Nat} (h:n < 100):∀c∈num n,48<=c/\c<=57:=λc hc=>Qbo (QbD.mp (Ro n h).2.2.2 c hc)
theorem MF (l:List Nat) (y:Str) (i:Nat):Builtin.Str.subAt (S l) y i=true ↔ (l.drop i).take y.length=L y:=by
 unfold Builtin.Str.subAt;rw[beq_iff_eq];constructor
 ·intro h;have h:=congrArg Array.toList h;rw[Array.toList_extract] at h;rw[<-show y.cps.toList=L y from rfl,<-h]
  show _=((S l).cps.toList.drop i).take (i+y.length - i);rw[Nat.add_sub_cancel_left];rfl
 ·intro h;refine Array.toList_inj.mp ?_;rw[Array.toList_extract];show ((S l).cps.toList.drop i).take (i+y.length - i)=L y;rw[Nat.add_sub_cancel_left];exact h
theorem Qk (l:List Nat) (y:Str):Txt.startswith (S l) y=true ↔ ∃r,l=L y++r:=by
 unfold Txt.startswith
 rw[Qbx,QaV,MF,List.drop_zero,Dz];constructor
 ·rintro ⟨_,h⟩;exact⟨l.drop y.length,by rw[<-h,List.take_append_drop]⟩
 ·rintro ⟨r,rfl⟩;have e:=CQ y;refine⟨by rw[QaN];omega,?_⟩;rw[e,QbW];rfl
theorem cO {l r:List Nat} {y:Str} (h:l=L y++r):Txt.startswith (S l) y=true:=(Qk l y).mpr ⟨r,h⟩
theorem cP {c:Nat} {l:List Nat} {y:Str} {d:Nat} {t:List Nat} (hy:L y=d::t) (h:c≠d):Txt.startswith (S (c::l)) y=false:=by
 cases e:Txt.startswith (S (c::l)) y with
 | false=>rfl
 | true=>
  obtain⟨r,hr⟩:=(Qk _ _).mp e;rw[hy] at hr;injection hr with hr _;exact absurd hr h
theorem mR (l:List Nat):Txt.endswith (S (l++L "\n")) "\n"=true:=by
 have e:(Str.ofString "\n").length=1:=by trivial
 have e2:(L (Str.ofString "\n")).length=1:=by trivial
 unfold Txt.endswith
 rw[Qbx,QaV,MF,Dz,QaN,e,e2];refine⟨by omega,?_⟩;rw[Nat.add_sub_cancel,QbT]
 ·exact Qaw (by omega)
 ·rfl
theorem Wd (l:List Nat) (y:Str) (k:Nat):StrLaws.At (S l) y (S l).length k ↔ k+y.length<=l.length/\(l.drop k).take y.length=L y:=by
 unfold StrLaws.At;rw[MF,Dz]
theorem N8 {l:List Nat} {y:Str} {k j m:Nat} (h:StrLaws.At (S l) y (S l).length k) (hj:(L y)[j]?=some m):l[k+j]?=some m:=by
 have h:=((Wd l y k).mp h).2;rw[<-h,List.getElem?_take] at hj;split at hj
 ·rw[Qbb] at hj;exact hj
 ·cases hj
theorem bT {h b:List Nat} (y:Str):StrLaws.At (S (h++(L y++b))) y (S (h++(L y++b))).length h.length:=by
 rw[Wd];refine⟨by rw[QaN,QaN,<-CQ];omega,?_⟩;rw[QbT rfl,QbW];exact (CQ y).symm
theorem K6 {h b:List Nat} {y:Str} {j m:Nat} (hj:(L y)[j]?=some m) (hp:∀i,i < j->(L y)[i]?≠some m) (hh:m∉h):Txt.partition (S (h++(L y++b))) y=(S h,y,S b):=by
 have at_:=bT (h:=h) (b:=b) y;have yl:=CQ y;have no:∀k,k < h.length->¬StrLaws.At (S (h++(L y++b))) y (S (h++(L y++b))).length k:=λk hk w=>by
  have g:=N8 w hj;by_cases h1:k+j < h.length
  ·rw[Qah h1] at g;exact hh (QaC g)
  ·have jl:=(Qaf.mp hj).1;rw[Qae (by omega),Qah (by omega)] at g;exact hp _ (by omega) g
 unfold Txt.partition;rcases StrLaws.occ_head (S (h++(L y++b))) y 1 (Qcr _) with⟨e,hn⟩|⟨i,r,e,hi,hn⟩
 ·exact absurd at_ (hn _)
 ·have:i=h.length:=by
   rcases Nat.lt_trichotomy i h.length with z | z | z
   ·exact absurd hi (no i z)
   ·exact z
   ·exact absurd at_ (hn _ z)
  subst this;rw[e];refine Prod.ext ?_ (Prod.ext rfl ?_)
  ·refine HN ?_;show ((S (h++(L y++b))).cps.extract 0 h.length).toList=h;rw[Array.toList_extract];show ((h++(L y++b)).drop 0).take (h.length - 0)=h;rw[List.drop_zero,Nat.sub_zero,QbW];rfl
  ·refine HN ?_;show ((S (h++(L y++b))).cps.extract (h.length+y.length) (S (h++(L y++b))).length).toList=b;rw[Array.toList_extract,Dz,yl];show ((h++(L y++b)).drop (h.length+(L y).length)).take _=b;rw[<-List.drop_drop,QbT rfl,QbT rfl];refine Qaw ?_;rw[QaN,QaN];omega
theorem RZ {l:List Nat} {y:Str} {j m:Nat} (hj:(L y)[j]?=some m) (hl:m∉l):Txt.partition (S l) y=(S l,Str.empty,Str.empty):=by
 unfold Txt.partition;rcases StrLaws.occ_head (S l) y 1 (Qcr _) with⟨e,hn⟩|⟨i,r,e,hi,hn⟩
 ·rw[e]
 ·exact absurd (QaC (N8 hi hj)) hl
def jnS (y:List Nat):List (List Nat)->List Nat
 | []=>[]
 | [a]=>a
 | a::b::r=>a++(y++jnS y (b::r))
theorem Ph (y:Str):∀ps:YF,L (Str.join y ps)=jnS (L y) (ps.map L)
 | []=>rfl
 | [a]=>rfl
 | a::b::r=>by
  show L ((a++y)++Str.join y (b::r))=L a++(L y++jnS (L y) ((b::r).map L));rw[Di,Di,Ph y (b::r),Qbe]
theorem Xf (x:Str) (a c:Nat):L (Builtin.Str.strSub x a c)=((L x).drop a).take (c - a):=StrLaws.strSub_toList x a c
theorem Ol {x y:Str} {c0:Nat} {t:List Nat} (hy:L y=c0::t):∀(ps:List (List Nat)) (a:Nat) (cuts:List Nat) (f:Nat),ps≠[]->(∀p∈ps,c0∉p)->(L x).drop a=jnS (L y) ps->a<=x.length ->
  StrLaws.ChainG x y x.length a cuts f->(∀k,f<=k->¬StrLaws.At x y x.length k)->StrLaws.partsFrom x y.length a cuts=ps.map S
 | [],_,_,_,h,_,_,_,_,_=>absurd rfl h
 | [p],a,cuts,f,_,hf,hx,ha,hc,hn=>by
  have hx:(L x).drop a=p:=hx;have no:∀k,a<=k->¬StrLaws.At x y x.length k:=λk hk w=>by
   have g:(L x)[k+0]?=some c0:=N8 (l:=L x) w (by rw[hy];rfl);rw[Nat.add_zero] at g;have:p[k - a]?=some c0:=by rw[<-hx,Qbb,Nat.add_sub_cancel' hk];exact g
   exact hf p QaQ (QaC this)
  cases cuts with
  | nil=>
   show [Builtin.Str.strSub x a x.length]=[S p];refine congrArg (λz=>[z]) (HN ?_);rw[Xf,hx];show p.take (x.length - a)=p;refine Qaw ?_;rw[<-hx,Qby,CQ];omega
  | cons c r=>exact absurd hc.2.1 (no c hc.1)
 | p::q::r,a,cuts,f,_,hf,hx,ha,hc,hn=>by
  have hx:(L x).drop a=p++(L y++jnS (L y) (q::r)):=hx;have xl:=CQ x;have yl:=CQ y;have hlen:=congrArg List.length hx;rw[Qby,QaN,QaN] at hlen;have y1:1<=(L y).length:=by rw[hy,Qbu];omega
  have at_:StrLaws.At x y x.length (a+p.length):=by
   refine ((Wd (L x) y (a+p.length))).mpr ⟨by omega,?_⟩;rw[<-List.drop_drop,hx,QbT rfl,QbW];exact yl.symm
  have no:∀k,a<=k->k < a+p.length->¬StrLaws.At x y x.length k:=λk hk hk2 w=>by
   have g:(L x)[k+0]?=some c0:=N8 (l:=L x) w (by rw[hy];rfl);rw[Nat.add_zero] at g;have:((L x).drop a)[k - a]?=some c0:=by rw[Qbb,Nat.add_sub_cancel' hk];exact g
   rw[hx,Qah (by omega)] at this;exact hf p QaQ (QaC this)
  cases cuts with
  | nil=>
   have e:f=a:=hc;exact absurd at_ (hn _ (by omega))
  | cons c cs=>
   obtain⟨h1,h2,h3,h4⟩:=hc;have e:c=a+p.length:=by
    rcases Nat.lt_trichotomy c (a+p.length) with z | z | z
    ·exact absurd h2 (no c h1 z)
    ·exact z
    ·exact absurd at_ (h3 _ (by omega) z)
   subst e;show Builtin.Str.strSub x a (a+p.length)::StrLaws.partsFrom x y.length (a+p.length+y.length) cs=S p::(q::r).map S;rw[Ol hy (q::r) (a+p.length+y.length) cs f (by simp) (λp hp=>hf p (QaD _ hp)) (by
    rw[<-List.drop_drop,<-List.drop_drop,hx,QbT rfl,QbT yl.symm]) (by omega) h4 hn]
   refine congrArg (λz=>z::(q::r).map S) (HN ?_);rw[Xf,hx,Nat.add_sub_cancel_left,QbW]
   ·rfl
   ·rfl
theorem Ie {y:Str} {c0:Nat} {t:List Nat} (hk:Builtin.Str.strKind y=1) (hy:L y=c0::t) {ps:List (List Nat)} (ne:ps≠[]) (hf:∀p∈ps,c0∉p):Txt.split (S (jnS (L y) ps)) y=ps.map S:=by
 have y1:1<=y.length:=by rw[CQ,hy,Qbu];omega
 obtain⟨f,hG,hn⟩:=StrLaws.occ_tight (S (jnS (L y) ps)) y y1;have key:=Ol (x:=S (jnS (L y) ps)) hy ps 0 _ f ne hf (by rw[List.drop_zero];rfl) (Qcs _) hG hn;have one:(∀k,¬StrLaws.At (S (jnS (L y) ps)) y (S (jnS (L y) ps)).length k)->[S (jnS (L y) ps)]=ps.map S:=λno=>by
  match ps,ne with
  | [p],_=>rfl
  | p::q::r,_=>exact absurd (bT (h:=p) (b:=jnS (L y) (q::r)) y) (no _)
 unfold Txt.split;split
 ·rename_i hc;refine one λk w=>?_;rw[Bool.or_eq_true,Qbq,Qbq] at hc;rcases hc with h | h
  ·have:=w.1;omega
  ·rw[hk] at h;unfold Builtin.Str.strKind at h;split at h
   ·omega
   ·split at h <;> omega
 ·split
  ·rename_i he;refine one λk w=>?_;have e0:=List.isEmpty_iff.mp he;rw[e0] at hG;have ef:f=0:=hG;subst ef;exact hn k (Qcs _) w
  ·rw[StrLaws.partsBetween_eq];exact key
abbrev JH:Stmt:=top 27
abbrev FQ:YF:=["place"]
theorem Ec:Bc ["place","kind","address","spur","row","hung"] FQ (Al JH):=by ac_rfl
abbrev Kq:Stmt:=top 28
abbrev Gx:YF:=["zone"]
theorem JF:Bc ["zone","name","addresses"] Gx (Al Kq):=by ac_rfl
abbrev Kr:Stmt:=top 29
abbrev Fw:YF:=["plan"]
theorem Et:Bc ["plan","most","loops","zones","rows","places"] Fw (Al Kr):=by ac_rfl
theorem ll:Str.empty.length=0/\(Str.ofString "zone").length=4/\(Str.ofString " ").length=1/\(Str.ofString ", ").length=2/\(Str.ofString " : ").length=3/\(Str.ofString "\n").length=1/\(Str.ofString "most ").length=5/\(Str.ofString "opener").length=6/\(Str.ofString "loop").length=4/\(Str.ofString "").length=0:=by trivial
def Bd (a:Int):List Nat:=L (Str.ofString (toString a))
theorem ifS {a b:Str} {A B:Prop} (h1:a=b->A) (h2:a≠b->B):if decide (V.str a=V.str b)=true then A else B:=by
 by_cases h:a=b
 ·subst h;rw[QbX rfl];exact BK (h1 rfl)
 ·rw[QbL (λz=>h (by injection z))];exact Dn (h2 h)
theorem eZ {b:Bool} {A B:Prop} (h:b=true) (a:A):if b=true then A else B:=by rw[if_pos h];exact a
theorem RD {b:Bool} {A B:Prop} (h:b=false) (a:B):if b=true then A else B:=by rw[if_neg (by rw[h];decide)];exact a
theorem Jz {a:Int} (h:1<=a/\a<=99):∃n:Nat,a=(n:Int)/\n < 100:=⟨a.toNat,by omega,by omega⟩
theorem DY {a:Int} (h:1<=a/\a<=99):(Str.ofString (toString a)).length<=2:=by
 obtain⟨n,rfl,h'⟩:=Jz h;rw[CQ];exact lg h'
theorem Ga {a:Int} (h:1<=a/\a<=99):a.natAbs.log2 < 1920:=by
 obtain⟨n,rfl,h'⟩:=Jz h;rw[Int.natAbs_natCast];by_cases z:n=0
 ·rw[z];decide
 ·rw[Nat.log2_lt z];exact QaU h' (Qcn (by decide:100<=2 ^ 7) (Nat.pow_le_pow_right (by decide) (by decide)))
theorem kind_len {k:Str} (h:Dl k):k.length<=6:=by
 rcases h with rfl | rfl | rfl | rfl <;> decide +kernel
def Bf (d:Dev):List Nat:=L d.kind++(L " "++Bd d.addr)
def Dg (ds:List Dev):List Nat:=jnS (L ", ") (ds.map Bf)
def Bw (p:Place):List Nat:=if V.str p.kind=V.str "opener" then L "opener" else if p.spur=[] then Bf ⟨p.kind,p.addr⟩ else Bf ⟨p.kind,p.addr⟩++(L " : "++Dg p.spur)
def CV (z:Zone):List Nat:=jnS (L " ") (L "zone"::L z.name::z.adr.map Bd)
def Br (ps:List Place):List (List Nat):=L "loop"::ps.map Bw
def CP (most:Int) (ja:YU) (jp:List Zone):List (List Nat):=(L "most "++Bd most)::(ja.flatMap Br++jp.map CV)
def Eh (most:Int) (ja:YU) (jp:List Zone):List Nat:=((CP most ja jp).map λr=>r++L "\n").flatten
structure OkD (d:Dev):Prop where
 kind:Dl d.kind
 bd:1<=d.addr/\d.addr<=99
theorem En.dev {p:Place} (h:En p) (k:¬V.str p.kind=V.str "opener"):OkD ⟨p.kind,p.addr⟩/\∀d∈p.spur,OkD d:=by
 have e:adP p=p.addr::p.spur.map (·.addr):=if_neg k;have b:=h.bd;rw[e] at b;refine⟨⟨?_,b _ QaQ⟩,λd hd=>⟨h.ok.kinds d hd,b _ (QaD _ (Qcm.mpr ⟨d,hd,rq⟩))⟩⟩;rcases h.ok.form with⟨z,_⟩| z
 ·exact absurd (congrArg V.str z) k
 ·exact z
theorem Kc {d:Dev} (h:OkD d):(Bf d).length<=9:=by
 have h1:=kind_len h.kind;have h2:=DY h.bd;have l2:=ll.2.2.1;rw[CQ] at h1 h2 l2;show (L d.kind++(L (Str.ofString " ")++L _)).length<=9;rw[QaN,QaN];omega
theorem N6 {y:List Nat} {m:Nat}:∀{ps:List (List Nat)},(∀p∈ps,p.length<=m)->(jnS y ps).length<=ps.length*(m+y.length)
 | [],_=>Qcs _
 | [a],h=>by
  have:=h a QaQ;show a.length<=1*(m+y.length);omega
 | a::b::r,h=>by
  have h1:=h a QaQ;have h2:=N6 (y:=y) (ps:=b::r) λp hp=>h p (QaD _ hp);show (a++(y++jnS y (b::r))).length<=((b::r).length+1)*(m+y.length);rw[QaN,QaN,Nat.add_mul];omega
theorem KR {α : Type} {f:α->Nat} {m:Nat}:∀{ys:List α},(∀y∈ys,f y<=m)->(ys.map f).sum<=m*ys.length
 | [],_=>Qcs _
 | a::r,h=>by
  have h1:=h a QaQ;have h2:=KR (f:=f) (ys:=r) λy hy=>h y (QaD _ hy);rw[Qce,List.sum_cons,Qbu,Nat.mul_add];omega
theorem O8 {p:Place} (h:En p):(Bw p).length<=60:=by
 obtain⟨l0,l1,l2,l3,l4,l5,l6,l7,l8,_⟩:=ll;rw[CQ] at l3 l4 l7;unfold Bw;split
 ·show (L (Str.ofString "opener")).length<=60;omega
 rename_i k;obtain⟨d0,ds⟩:=h.dev k;have:=Kc d0;split
 ·omega
 ·have h1:=N6 (y:=L ", ") (m:=9) (ps:=p.spur.map Bf) λx hx=>by
   obtain⟨d,hd,rfl⟩:=Qcm.mp hx;exact Kc (ds d hd)
  have h2:=h.ok.spur;rw[QbF,show (L ", ").length=2 from l3] at h1
  have l4:(L " : ").length=3:=l4;have h3:(Dg p.spur).length<=p.spur.length*(9+2):=h1;rw[QaN,QaN,l4];omega
section
variable {P:Program} {w:World} {K:YD} {mg:YB} {base:Heap}
inductive MK (K:YD) (vs:YG) (H:Hp) (Q:VK) (E:XK):Prop
 | mk (v:V) (p:Place) (_:vs=[v]) (_:Gf K H v p) (_:En p) (_:∀H',Same H H'->Q (.str (S (Bw p))) H'):MK K vs H Q E
abbrev xh:YF:=["spur_kind","spur_address"]
theorem Tp (C:Code K mg "show_place" JH FQ):Good P w K mg base "show_place" 1 FQ (MK K):=by
 refine C.good Ec (λvs H Q E h=>?_) (λf cdv A outer s H vs Q E hr h=>?_)
 ·obtain⟨v,p,rfl,_⟩:=h;rfl
 obtain⟨v,p,rfl,⟨t,u,ds,rfl,ht,hu,hd⟩,ok,q⟩:=h;refine⟨_,(Af (DR (pv 0) (CN rfl (Aj (Ah (i:=1) Ec.nd rfl (Or.inl rfl)) (Aj (Ah (i:=2) Ec.nd rfl (Or.inl rfl)) (Aj (Ah (i:=3) Ec.nd rfl (Or.inl rfl)) Bp)))))
 (Af (Cj (BX Gm (pv 1) Bb (Cd _)) (Ai (Ba (pv 1))) BL)
 (Af (Az (i:=4) Ec.nd rfl (Or.inl rfl) (K5 (Iz (pv 1) (Ng Bb (Iz (pv 2) Nh)))))
 (Af (Cj (Dw (O7 (pv 3) (λ_=>rfl))) (Ai (Ba (pv 4))) BL)
 (Af (Az (i:=5) Ec.nd rfl (Or.inl rfl) (BR Qav PySem.F.slot_str_join PySem.F.type_str_join NT Bb (Aa (BP (N':=xh) rfl (Bh.plain rfl (by trivial) (by trivial) (by trivial)) (CK (pv 3)) (λ_ _ _ _=>(Jy (K:=K) (n:=2) rfl rfl (Aj (Ah (i:=0) (show List.Nodup (xh:YF) by trivial) rfl (Or.inl rfl)) (Aj (Ah (i:=1) (show List.Nodup (xh:YF) by trivial) rfl (Or.inl rfl)) Bp)))) (λ_ _ _ _=>Cy) (λ_ _ _ _=>(K5 (Iz (pv 0) (Ng Bb (Iz (pv 1) Nh)))))) Ab)))
 (Ai (Ba (K5 (Iz (pv 4) (Ng Bb (Iz (pv 5) Nh))))))))))),?_⟩
 show let R0:TS:=_;let R1:TS:=Am _ R0;let R2:TS:=Am _ R1;let R3:TS:=Am _ R2;let R4:TS:=Am _ R3;Am _ R4 _ _ _;intro R0 R1 R2 R3 R4;obtain⟨l0,l1,l2,l3,l4,l5,l6,l7,l8,l9⟩:=ll;refine⟨_,rq,t,_,rq,ht.sq,rq,_,_,rq,_,_,rq,_,_,rq,rq,?_⟩;refine⟨_,rq,rq,_,rq,ifS (λe=>?_) (λe=>?_)⟩
 ·have:=q H (Same.refl _);unfold Bw at this;rw[if_pos (congrArg V.str e)] at this;exact⟨_,rq,by rw[e];exact this⟩
 have dv:=ok.dev (λz=>e (by injection z));have k6:p.kind.length<=6:=kind_len dv.1.kind;have n2:(Str.ofString (toString p.addr)).length<=2:=DY dv.1.bd;have nl:p.addr.natAbs.log2 < 1920:=Ga dv.1.bd;refine⟨_,rq,p.kind,.inl rfl,szb (by simp only[Qbd,l0];omega),_,rq,szb (by simp only[Qbd,l0,l2];omega),_,rq,Str.ofString (toString p.addr),.inr ⟨_,rq,nl,rq⟩,szb (by simp only[Qbd,l0,l2];omega),szb (by simp only[Qbd,l0,l2];omega),?_⟩;refine⟨_,rq,_,.inr (.inl ⟨_,hu.sq,rq⟩),?_⟩;have lds:=Qcd hd;have s3:=ok.ok.spur;have fin:∀(y:Str) (H':Hp),Same H H'->L y=Bw p->Q (.str y) H':=λy H' s e=>by
  rw[show y=S (Bw p) from HN e]
  exact q H' s
 cases hsp:p.spur with
 | nil=>
  rw[hsp] at lds;have ed:ds=[]:=Qas.mp lds;subst ed;refine BK ⟨_,rq,fin _ _ (Same.refl _) ?_⟩;unfold Bw;rw[if_neg (λz=>e (by injection z)),if_pos hsp];simp only[Di,T8,List.nil_append,Qbe];rfl
 | cons d0 dr=>
 have ne:p.spur≠[]:=by rw[hsp];exact QbC _ _
 rw[hsp] at lds;have en:ds≠[]:=λz=>by rw[z] at lds;cases lds
 have:(!ds.isEmpty)=true:=by cases ds with | nil=>exact absurd rfl en | cons=>rfl
 refine RD (by rw[this];rfl) ?_;refine⟨rq,_,rq,u,rq,⟨_,hu.sq⟩,λl hl=>?_⟩;let J0:YN:=λi U HX=>∃(u1 u2:Option V),U=[u1,u2]/\HX l=some (.lst (((p.spur.take i).map λd=>S (Bf d)).map V.str))/\Same H HX;refine G5 (xs:=ds) J0 ⟨none,none,rq,Ac,Ad hl _⟩ (λi U HX _ h=>?_) (λi x U HX hx h=>?_) (fun U HX h=>?_)
 ·obtain⟨_,_,rfl,_,s⟩:=h;exact (hu.same s).sq
 ·obtain⟨_,_,rfl,e1,s⟩:=h;obtain⟨d,hdi,td,rfl,htd⟩:=Paired.Dh hd hx;have dd:=dv.2 d (QaC hdi);have k6:=kind_len dd.kind;have n2:=DY dd.bd;have nl:=Ga dd.bd;refine⟨td,_,rq,SqT.of (s _ _ htd),rq,_,_,rq,_,_,rq,rq,?_⟩;refine BK ⟨_,rq,d.kind,.inl rfl,szb (by simp only[Qbd,l0];omega),_,rq,szb (by simp only[Qbd,l0,l2];omega),_,rq,Str.ofString (toString d.addr),.inr ⟨_,rq,nl,rq⟩,szb (by simp only[Qbd,l0,l2];omega),szb (by simp only[Qbd,l0,l2];omega),?_⟩;refine⟨_,e1,Aq (by rw[QbF,QbF,Qbv];omega),_,_,rq,?_,s.Dc Ag.upd hl⟩;rw[Ac,QcB hdi,QbH,QbH];congr 3;refine congrArg (λz=>[V.str z]) (HN ?_);simp only[Di,T8,List.nil_append,Qbe,L_S];rfl
 obtain⟨_,_,rfl,e1,s⟩:=h;have ll':ds.length=p.spur.length:=by rw[hsp];exact lds
 rw[ll',Qbw] at e1;have e0:(p.spur.map λd=>S (Bf d)).map L=p.spur.map Bf:=by rw[List.map_map];rfl
 have hj:L (Txt.join (Str.ofString ", ") (p.spur.map λd=>S (Bf d)))=Dg p.spur:=by
  show L (Builtin.Str.glued _ _)=_;rw[QaB,Ph,e0];rfl
 have hlen:(Dg p.spur).length<=33:=by
  have h1:=N6 (y:=L ", ") (m:=9) (ps:=p.spur.map Bf) λx hx=>by
   obtain⟨d,hd,rfl⟩:=Qcm.mp hx;exact Kc (dv.2 d hd)
  rw[CQ] at l3;rw[QbF,show (L ", ").length=2 from l3] at h1
  exact Qcn h1 (by omega)
 have hjl:=hlen;rw[<-hj,<-CQ] at hjl;refine⟨_,l,_,rq,rq,SqL.of e1,?_,?_⟩
 ·have:=KR (f:=λx:Str=>x.length) (m:=9) (ys:=p.spur.map λd=>S (Bf d)) λx hx=>by
   obtain⟨d,hd,rfl⟩:=Qcm.mp hx;show (S (Bf d)).length<=9;rw[Dz];exact Kc (dv.2 d hd)
  rw[QbF] at this;rw[show (Str.ofString ", ").length=2 from l3,QbF]
  omega
 refine⟨_,rq,_,.inl rfl,szb (by simp only[Qbd,l0,l2];omega),_,rq,szb (by simp only[Qbd,l0,l2,l4];omega),_,rq,_,.inl rfl,szb (by simp only[Qbd,l0,l2,l4];omega),szb (by simp only[Qbd,l0,l2,l4];omega),?_⟩;refine fin _ _ s ?_;unfold Bw;rw[if_neg (λz=>e (by injection z)),if_neg ne];simp only[Di,T8,List.nil_append,hj];generalize Dg p.spur=g;simp only[Bf,Qbe];rfl
inductive MJ (vs:YG) (H:Hp) (Q:VK) (E:XK):Prop
 | mk (v:V) (z:Zone) (_:vs=[v]) (_:CT H v z) (_:ZnB z) (_:∀H',Same H H'->Q (.str (S (CV z))) H'):MJ vs H Q E
theorem Vc (C:Code K mg "show_zone" Kq Gx) (T:Nm mg):Good P w K mg base "show_zone" 1 Gx MJ:=by
 refine C.good JF (λvs H Q E h=>?_) (λf cdv A outer s H vs Q E hr h=>?_)
 ·obtain⟨v,z,rfl,_⟩:=h;rfl
 obtain⟨v,z,rfl,⟨t,u,rfl,ht,hu⟩,ok,q⟩:=h;refine⟨_,(Af (DR (pv 0) (CN rfl (Aj (Ah (i:=1) JF.nd rfl (Or.inl rfl)) (Aj (Ah (i:=2) JF.nd rfl (Or.inl rfl)) Bp))))
 (Ai (Ba (BR Qav PySem.F.slot_str_join PySem.F.type_str_join NT Bb (Aa (Av kJ (Cp (Aa Bb (Aa (pv 1) Ab))) (BP (N':=["address"]) rfl (Bh.plain rfl (by trivial) (by trivial) (by trivial)) (CK (pv 2)) (λ_ _ _ _=>(Ah (i:=0) (show List.Nodup (["address"]:YF) by trivial) rfl (Or.inl rfl))) (λ_ _ _ _=>Cy) (λ_ _ _ _=>(Bo Gd rfl T.str Hy (Aa (pv 0) Ab))))) Ab))))),?_⟩
 show let R0:TS:=_;Am _ R0 _ _ _;intro R0;obtain⟨l0,l1,l2,l3,l4,l5,l6,l7,l8,l9⟩:=ll;refine⟨_,rq,t,_,rq,SqT.of ht,rq,_,_,rq,_,_,rq,rq,?_⟩;refine⟨rq,_,rq,Aw (by show 2<=1000;decide),λp1 hp1=>⟨_,rq,u,rq,⟨_,SqT.of (Ad hp1 _ _ _ hu)⟩,λl hl=>?_⟩⟩;have s1:=Ad hp1 (.lst [.str "zone",.str z.name]);have c1:upd H p1 (.lst [.str "zone",.str z.name]) p1=some (.lst [.str "zone",.str z.name]):=Ac;generalize upd H p1 (.lst [.str "zone",.str z.name])=H1 at *;let J1:YN:=λi U HX=>∃(u1:Option V),U=[u1]/\HX l=some (.lst (((z.adr.take i).map λd=>(Str.ofString (toString d))).map V.str))/\Same H1 HX;refine G5 (xs:=z.adr.map V.int) J1 ⟨none,rq,Ac,Ad hl _⟩ (λi U HX _ h=>?_) (λi x U HX hx h=>?_) (fun U HX h=>?_)
 ·obtain⟨_,rfl,_,s⟩:=h;exact SqT.of (s _ _ (s1 _ _ hu))
 ·obtain⟨_,rfl,e1,s⟩:=h;rw[Qbf] at hx;obtain⟨a,ha,rfl⟩:=Qau.mp hx;have ba:=ok.bd a (QaC ha);have u3:=ok.up.2.2;unfold FJ;dsimp only;refine BK ⟨_,rq,a,rq,Ga ba,?_⟩;refine⟨_,e1,Aq (by rw[QbF,QbF,Qbv];omega),_,rq,?_,s.Dc Ag.upd hl⟩;rw[Ac,QcB ha,QbH,QbH];rfl
 obtain⟨_,rfl,e1,s⟩:=h;rw[QbF,Qbw] at e1;have u3:=ok.up.2.2;refine⟨p1,l,_,_,rq,rq,s _ _ c1,e1,Aw (by rw[QbF,QbF];show 2+_<=1000;omega),λp2 hp2=>?_⟩;have s2:=Ad hp2 (.lst ([V.str "zone",.str z.name]++(z.adr.map λd=>(Str.ofString (toString d))).map V.str));refine⟨_,p2,Str.ofString "zone"::z.name::(z.adr.map λd=>(Str.ofString (toString d))),rq,rq,SqL.of Ac,?_,?_⟩
 ·have:=KR (f:=λx:Str=>x.length) (m:=2) (ys:=z.adr.map λd=>(Str.ofString (toString d))) λx hx=>by
   obtain⟨d,hd,rfl⟩:=Qcm.mp hx;exact DY (ok.bd d hd)
  rw[QbF] at this;have n8:=ok.nm.1.2;rw[show (Str.ofString " ").length=1 from l2]
  simp only[Qce,List.sum_cons,Qbu,QbF];omega
 have hj:L (Txt.join (Str.ofString " ") (Str.ofString "zone"::z.name::(z.adr.map λd=>(Str.ofString (toString d)))))=CV z:=by
  show L (Builtin.Str.glued _ _)=_;rw[QaB,Ph,Qce,Qce,List.map_map];rfl
 rw[show Txt.join _ _=S (CV z) from HN hj]
 exact q _ (s1.trans (s.trans s2))
end
theorem Uc {z:Zone} (h:ZnB z):(CV z).length<=290:=by
 have l2:=ll.2.2.1;rw[CQ] at l2;have h1:=N6 (y:=L " ") (m:=8) (ps:=L "zone"::L z.name::z.adr.map Bd) λx hx=>by
  rcases Qcc.mp hx with rfl | hx
  ·exact (by trivial:(L "zone").length<=8)
  ·rcases Qcc.mp hx with rfl | hx
   ·rw[<-CQ];exact h.nm.1.2
   ·obtain⟨d,hd,rfl⟩:=Qcm.mp hx;have:=DY (h.bd d hd);rw[CQ] at this;exact Qcn this (by decide)
 rw[show (L " ").length=1 from l2,Qbu,Qbu,QbF] at h1
 have:=h.up.2.2;exact Qcn h1 (by omega)
theorem PlF.place {most:Int} {ja:YU} {jp:List Zone} (h:PlF most ja jp) {ps:List Place} (hps:ps∈ja) {p:Place} (hp:p∈ps):En p:=
 ⟨(h.ok.ok ps hps).ok p hp,λx hx=>h.bd x (Qbz.mpr ⟨ps,hps,Qbz.mpr ⟨p,hp,hx⟩⟩)⟩
theorem Jw {α β : Type} {f:α->List β} {m:Nat}:∀{l:List α},(∀x∈l,(f x).length<=m)->(l.flatMap f).length<=m*l.length
 | [],_=>Qcs _
 | a::r,h=>by
  have h1:=h a QaQ;have h2:=Jw (f:=f) (l:=r) λy hy=>h y (QaD _ hy);rw[Qbg,QaN,Qbu,Nat.mul_add];omega
theorem Nk {ps:List Place} (h:OkL ps):(Br ps).length<=13:=by
 have:=h.hi;show (ps.map Bw).length+1<=13;rw[QbF];omega
theorem JL {most:Int} {ja:YU} {jp:List Zone} (h:PlF most ja jp):(CP most ja jp).length<=50/\∀r∈CP most ja jp,r.length<=290:=by
 have h1:=Jw (f:=Br) (m:=13) (l:=ja) λps hps=>Nk (h.ok.ok ps hps);have h2:=h.ok.hi;have h3:=h.Mt;refine⟨?_,λr hr=>?_⟩
 ·show (ja.flatMap Br++jp.map CV).length+1<=50;rw[QaN,QbF];omega
 ·rcases Qcc.mp hr with rfl | hr
  ·have:=DY (a:=most) ⟨h.mo.1,by have:=h.mo.2;omega⟩;rw[CQ] at this;have l6:=ll.2.2.2.2.2.2.1;rw[CQ] at l6;rw[QaN];show (L (Str.ofString "most ")).length+(L _).length<=290;omega
  ·rcases QbG.mp hr with hr | hr
   ·obtain⟨ps,hps,hr⟩:=Qbz.mp hr;rcases Qcc.mp hr with rfl | hr
    ·exact (by trivial:(L "loop").length<=290)
    ·obtain⟨p,hp,rfl⟩:=Qcm.mp hr;exact Qcn (O8 (h.place hps hp)) (by decide)
   ·obtain⟨z,hz,rfl⟩:=Qcm.mp hr;exact Uc (h.zb z hz)
theorem Om:∀ys:YF,L (Str.join (Str.ofString "") ys)=(ys.map L).flatten
 | []=>by trivial
 | [a]=>by show L a=L a++[];rw[QbI]
 | a::b::r=>by
  have e:L (Str.ofString "")=[]:=by trivial
  show L ((a++(Str.ofString ""))++Str.join (Str.ofString "") (b::r))=L a++((b::r).map L).flatten;rw[Di,Di,Om (b::r),e,QbI]
theorem YX (ys:YF):L (Txt.join (Str.ofString "") ys)=(ys.map L).flatten:=by
 show L (Builtin.Str.glued _ ys)=_;rw[QaB];exact Om ys
def vS (l:List (List Nat)):YG:=l.map λr=>V.str (S r)
theorem Mx (a b:List (List Nat)):vS (a++b)=vS a++vS b:=QbH
section
variable {P:Program} {w:World} {K:YD} {mg:YB} {base:Heap}
inductive Gi (K:YD) (vs:YG) (H:Hp) (Q:VK) (E:XK):Prop
 | mk (pl:Addr) (most:Int) (ja:YU) (jp:List Zone) (_:vs=[.ref pl]) (_:PlA K H pl most ja jp) (_:∀H',Same H H'->Q (.str (S (Eh most ja jp))) H'):Gi K vs H Q E
theorem Vd (C:Code K mg "show_plan" Kr Fw) (T:Nm mg) (VJ:Good P w K mg base "show_place" 1 FQ (MK K)) (Wz:Good P w K mg base "show_zone" 1 Gx MJ):Good P w K mg base "show_plan" 2 Fw (Gi K):=by
 refine C.good Et (λvs H Q E h=>?_) (λf cdv A outer s H vs Q E hr h=>?_)
 ·obtain⟨pl,most,ja,jp,rfl,_⟩:=h;rfl
 obtain⟨pl,most,ja,jp,rfl,pa,q⟩:=h;obtain⟨Ls,zs,ws,zvs,e1,e2,e3,e4,e5⟩:=pa.at_;refine⟨_,(@Af _ _ _ _ _ (DR (pv 0) (CN rfl (Aj (Ah (i:=1) Et.nd rfl (Or.inl rfl)) (Aj (Ah (i:=2) Et.nd rfl (Or.inl rfl)) (Aj (Ah (i:=3) Et.nd rfl (Or.inl rfl)) Bp)))))
 (@Af _ _ _ _ _ (@Az _ _ 4 _ _ _ _ Et.nd rfl (Or.inl rfl) (Cp (Aa (K5 (Ng Bb (Iz (pv 1) Nh))) Ab)) (by rfl) (by first | exact .inl rfl | exact .inr rfl))
 (@Af _ _ _ _ _ (Cw QbJ rfl (CK (pv 2)) (Ah (i:=5) Et.nd rfl (Or.inl rfl))
 (@Af _ _ _ _ _ (Cr (BR Qap Qak Qal Ce (pv 4) (Aa Bb Ab)))
 (@Ai _ _ _ (Cr (BR Qap Qan Qao Kh (pv 4) (Aa (BP (N':=["place"]) rfl (Bh.plain rfl (by trivial) (by trivial) (by trivial)) (CK (pv 5)) (λ_ _ _ _=>(Ah (i:=0) (show List.Nodup (["place"]:YF) by trivial) rfl (Or.inl rfl))) (λ_ _ _ _=>Cy) (λ_ _ _ _=>(BJ VJ hr (Aa (pv 0) Ab)))) Ab))))))
 (@Af _ _ _ _ _ (Cr (BR Qap Qan Qao Kh (pv 4) (Aa (BP (N':=["zone"]) rfl (Bh.plain rfl (by trivial) (by trivial) (by trivial)) (CK (pv 3)) (λ_ _ _ _=>(Ah (i:=0) (show List.Nodup (["zone"]:YF) by trivial) rfl (Or.inl rfl))) (λ_ _ _ _=>Cy) (λ_ _ _ _=>(BJ Wz hr (Aa (pv 0) Ab)))) Ab)))
 (@Ai _ _ _ (@Ba _ _ _ _ (BR Qav PySem.F.slot_str_join PySem.F.type_str_join NT Bb (Aa (BP (N':=GD) rfl (Bh.plain rfl (by trivial) (by trivial) (by trivial)) (Ed (pv 4)) (λ_ _ _ _=>(Ah (i:=0) (show List.Nodup (GD:YF) by trivial) rfl (Or.inl rfl))) (λ_ _ _ _=>Cy) (λ_ _ _ _=>(K5 (Iz (pv 0) (Ng Bb Nh))))) Ab)))))))),?_⟩
 show let R0:TS:=_;let R1:TS:=Am _ R0;let R2:TS:=_;let R3:TS:=Am _ R2;let R4:TS:=Am (Dy _ _ R3) R1;let R5:TS:=Am _ R4;Am _ R5 _ _ _;intro R0 R1 R2 R3 R4 R5;obtain⟨l0,l1,l2,l3,l4,l5,l6,l7,l8,l9⟩:=ll;have mb:1<=most/\most<=99:=⟨pa.mo.1,by have:=pa.mo.2;omega⟩;have ml:=DY mb;have pf:=pa.toPlF;generalize hst:L2.start _ _=σ0;have e0:σ0=[js pl,none,none,none,none,none]:=hst.symm;clear hst;subst e0;refine⟨_,rq,pl,_,rq,SqT.of e1,rq,_,_,rq,_,_,rq,_,_,rq,rq,?_⟩;refine⟨_,rq,szb (by simp only[Qbd,l0,l6];omega),_,rq,Str.ofString (toString most),.inr ⟨_,rq,Ga mb,rq⟩,szb (by simp only[Qbd,l0,l6];omega),szb (by simp only[Qbd,l0,l6];omega),Aw (by show 1<=1000;decide),λlr hlr=>?_⟩;simp only[QaP,QaO];have hd:∀y:Str,y=(Str.empty++Str.ofString "most ")++Str.ofString (toString most)->V.str y=V.str (S (L "most "++Bd most)):=λy e=>congrArg V.str (HN (by rw[e,Di,Di];rfl));rw[hd _ rfl];have c0:upd H lr (.lst [V.str (S (L "most "++Bd most))]) lr=some (.lst (vS [L "most "++Bd most])):=Ac;have s0:=Ad hlr (.lst [V.str (S (L "most "++Bd most))]);generalize upd H lr (.lst [V.str (S (L "most "++Bd most))])=H1 at *;have c0':=c0;refine⟨_,rq,Ls,rq,⟨_,SqT.of (s0 _ _ e2)⟩,?_⟩;have rl:=(JL pf).1;have rlen:(ja.flatMap Br).length<=49:=by
  have:(CP most ja jp).length=(ja.flatMap Br++jp.map CV).length+1:=rfl;rw[QaN] at this;omega
 have tk:∀i,((ja.take i).flatMap Br).length<=39:=λi=>by
  have h1:=Jw (f:=Br) (m:=13) (l:=ja.take i) λps hps=>Nk (pf.ok.ok ps (QaG hps));have h2:=pf.ok.hi;rw[Qbv] at h1;omega
 let J0:YN:=λi U HX=>∃(u5:Option V),U=[js pl,some (.int most),js Ls,js zs,js lr,u5]/\HX lr=some (.lst (vS ((L "most "++Bd most)::(ja.take i).flatMap Br)))/\Ag lr H HX/\H lr=none;refine Ew (xs:=ws) J0 ⟨_,rq,c0,Ag.of s0,hlr⟩ (λi U HX _ h=>?_) (λi x U HX hx h=>?_) (fun U HX h=>?_)
 ·obtain⟨_,rfl,_,s,f⟩:=h;exact SqT.of (s _ _ e2 (Ao e2 f))
 ·obtain⟨_,rfl,c1,s,f⟩:=h;simp only[QaP,QaO];obtain⟨ps,hps,tp,vp,rfl,h1,h2⟩:=Paired.Dh e3 hx;have psm:=QaC hps;have tki:=tk i;have oks:=pf.ok.ok ps psm;have v1:=s.tup (λxs z=>by rw[f] at z;cases z);refine⟨_,rq,.inl ⟨rq,_,SqL.of c1⟩,lr,_,_,rq,rq,c1,Aq (by unfold vS;rw[QbF,Qbu];omega),?_⟩;have c2:upd HX lr (.lst (vS ((L "most "++Bd most)::(ja.take i).flatMap Br)++[V.str "loop"])) lr=some (.lst (vS (((L "most "++Bd most)::(ja.take i).flatMap Br)++[L "loop"]))):=by rw[Ac,Mx];rfl
  have s2:Ag lr H (upd HX lr (.lst (vS ((L "most "++Bd most)::(ja.take i).flatMap Br)++[V.str "loop"]))):=s.trans Ag.upd;generalize upd HX lr (.lst (vS ((L "most "++Bd most)::(ja.take i).flatMap Br)++[V.str "loop"]))=H2 at *;have v2:Ak H H2:=s2.tup (λxs z=>by rw[f] at z;cases z);refine⟨_,rq,.inl ⟨rq,_,SqL.of c2⟩,_,rq,tp,rq,⟨_,SqT.of (v2 _ _ h1)⟩,λl hl=>?_⟩;have nl:lr≠l:=Ao c2 hl;let J1:YN:=λj U HY=>∃(u1:Option V),U=[u1]/\HY l=some (.lst (vS ((ps.take j).map Bw)))/\Same H2 HY;refine G5 (xs:=vp) J1 ⟨none,rq,Ac,Ad hl _⟩ (λj U HY _ h=>?_) (λj x U HY hx h=>?_) (fun U HY h=>?_)
  ·obtain⟨_,rfl,_,sy⟩:=h;exact SqT.of (sy _ _ (v2 _ _ h1))
  ·obtain⟨_,rfl,cy,sy⟩:=h;obtain⟨p,hp,hpk⟩:=Paired.Dh h2 hx;unfold FJ;dsimp only;refine BK ⟨_,rq,x,p,rq,(hpk.tups v2).tups (Ak.of sy),pf.place psm (QaC hp),λHZ sz=>?_⟩;have hi:=oks.hi;refine⟨_,sz _ _ cy,Aq (by unfold vS;rw[QbF,QbF,Qbv];omega),_,rq,?_,(sy.trans sz).Dc Ag.upd hl⟩;rw[Ac,QcB hp,QbH,Mx];rfl
  obtain⟨_,rfl,cy,sy⟩:=h;rw[Qcd h2,Qbw] at cy;have hi:=oks.hi;refine⟨lr,l,_,_,rq,rq,sy _ _ c2,cy,Aw (by unfold vS;rw[QbF,QbF,QbF,QaN,Qbu];show _+1+1+_<=1000;omega),?_⟩;refine⟨_,rq,?_,((s2.trans (Ag.of sy)).trans Ag.upd),f⟩;rw[Ac,QcB hps,QaL,<-Mx];congr 3;show ((L "most "++Bd most)::((ja.take i).flatMap Br++[L "loop"]))++ps.map Bw=(L "most "++Bd most)::((ja.take i).flatMap Br++(Br ps++[]));rw[QbI,List.cons_append,Qbe];rfl
 obtain⟨_,rfl,c1,s,f⟩:=h;rw[Qcd e3,Qbw] at c1;simp only[QaP,QaO];have v1:Ak H HX:=s.tup (λxs z=>by rw[f] at z;cases z);refine⟨_,rq,.inl ⟨rq,_,SqL.of c1⟩,_,rq,zs,rq,⟨_,SqT.of (v1 _ _ e4)⟩,λl hl=>?_⟩;let J2:YN:=λj U HY=>∃(u1:Option V),U=[u1]/\HY l=some (.lst (vS ((jp.take j).map CV)))/\Same HX HY;refine G5 (xs:=zvs) J2 ⟨none,rq,Ac,Ad hl _⟩ (λj U HY _ h=>?_) (λj x U HY hx h=>?_) (fun U HY h=>?_)
 ·obtain⟨_,rfl,_,sy⟩:=h;exact SqT.of (sy _ _ (v1 _ _ e4))
 ·obtain⟨_,rfl,cy,sy⟩:=h;obtain⟨z,hz,hzk⟩:=Paired.Dh e5 hx;unfold FJ;dsimp only;refine BK ⟨_,rq,x,z,rq,(hzk.tups v1).tups (Ak.of sy),pf.zb z (QaC hz),λHZ sz=>?_⟩;have hi:=pf.Mt;refine⟨_,sz _ _ cy,Aq (by unfold vS;rw[QbF,QbF,Qbv];omega),_,rq,?_,(sy.trans sz).Dc Ag.upd hl⟩;rw[Ac,QcB hz,QbH,Mx];rfl
 obtain⟨_,rfl,cy,sy⟩:=h;rw[Qcd e5,Qbw] at cy;have hi:=pf.Mt;refine⟨lr,l,_,_,rq,rq,sy _ _ c1,cy,Aw (by unfold vS;rw[QbF,QbF,QbF,Qbu];show _+1+_<=1000;omega),?_⟩;have c3:upd HY lr (.lst (vS ((L "most "++Bd most)::ja.flatMap Br)++vS (jp.map CV))) lr=some (.lst (vS (CP most ja jp))):=by rw[Ac,<-Mx];rfl
 have s3:Ag lr H (upd HY lr (.lst (vS ((L "most "++Bd most)::ja.flatMap Br)++vS (jp.map CV)))):=(s.trans (Ag.of sy)).trans Ag.upd;generalize upd HY lr (.lst (vS ((L "most "++Bd most)::ja.flatMap Br)++vS (jp.map CV)))=H3 at *;have rz:=JL pf;generalize hrs:CP most ja jp=rs at *;refine⟨rq,_,rq,lr,rq,⟨_,SqL.of c3⟩,λl2 hl2=>?_⟩;let J3:YN:=λj U HZ=>∃(u1:Option V),U=[u1]/\HZ l2=some (.lst (((rs.take j).map λr=>S (r++L "\n")).map V.str))/\Same H3 HZ;refine Gb (xs:=vS rs) J3 ⟨none,rq,Ac,Ad hl2 _⟩ (λj U HZ _ h=>?_) (λj x U HZ hx h=>?_) (fun U HZ h=>?_)
 ·obtain⟨_,rfl,_,sz⟩:=h;exact SqL.of (sz _ _ c3)
 ·obtain⟨_,rfl,cz,sz⟩:=h;unfold vS at hx;rw[Qbf] at hx;obtain⟨r,hr,rfl⟩:=Qau.mp hx;have wH:=rz.2 r (QaC hr);have r50:=rz.1;unfold FJ;dsimp only;refine BK ⟨_,rq,_,.inl rfl,szb (by simp only[Qbd,l0,Dz];omega),_,rq,szb (by simp only[Qbd,l0,l5,Dz];omega),szb (by simp only[Qbd,l0,l5,Dz];omega),?_⟩;refine⟨_,cz,Aq (by rw[QbF,QbF,Qbv];omega),_,rq,?_,sz.Dc Ag.upd hl2⟩;rw[Ac,QcB hr,QbH,QbH];congr 3;refine congrArg (λz=>[V.str z]) (HN ?_);simp only[Di,T8,List.nil_append,Qbe,L_S]
 obtain⟨_,rfl,cz,sz⟩:=h;have lv:(vS rs).length=rs.length:=QbF _;rw[lv,Qbw] at cz;refine⟨_,l2,_,rq,rq,SqL.of cz,?_,?_⟩
 ·have:=KR (f:=λx:Str=>x.length) (m:=291) (ys:=rs.map λr=>S (r++L "\n")) λx hx=>by
   obtain⟨r,hr,rfl⟩:=Qcm.mp hx;show (S (r++L "\n")).length<=291;rw[CQ] at l5;rw[Dz,QaN,show (L "\n").length=1 from l5]
   have:=rz.2 r hr;omega
  rw[QbF] at this;have r50:=rz.1;rw[show (Str.ofString "").length=0 from l9,QbF]
  omega
 have hj:L (Txt.join (Str.ofString "") (rs.map λr=>S (r++L "\n")))=Eh most ja jp:=by
  rw[YX,List.map_map];unfold Eh;rw[hrs];rfl
 rw[show Txt.join _ _=S (Eh most ja jp) from HN hj]
 exact q _ (λc o e=>sz _ _ (s3 _ _ e (λz=>by rw[z,f] at e;cases e)))
end
abbrev Jj:Stmt:=top 30
abbrev Du:YF:=["text"]
theorem Ra:Bc ["text"] Du (Al Jj):=by ac_rfl
abbrev Jk:Stmt:=top 31
abbrev Fg:YF:=["text"]
theorem Gj:Bc ["text","kind","blank","number"] Fg (Al Jk):=by ac_rfl
abbrev JK:Stmt:=top 32
abbrev FT:YF:=GD
theorem Dt:Bc ["row","here","colon","hung","spur","kind","address"] FT (Al JK):=by ac_rfl
def GQ (c:Nat):Prop:=97<=c/\c<=122
theorem fX:∀c∈abc.cps.toList,GQ c:=by
 have h:abc.cps.toList.all (λc=>decide (97<=c/\c<=122))=true:=by trivial
 exact λc hc=>(Qbo (QbD.mp h c hc):97<=c/\c<=122)
theorem Np {k:Str} (h:Dl k):∀c∈L k,GQ c:=by
 have key:∀k:Str,(L k).all (λc=>decide (97<=c/\c<=122))=true->∀c∈L k,GQ c:=λk h c hc=>(Qbo (QbD.mp h c hc):97<=c/\c<=122);refine key k ?_;rcases h with rfl | rfl | rfl | rfl <;> decide +kernel
theorem Nj {a:Int} (h:1<=a/\a<=99):∀c∈Bd a,48<=c/\c<=57:=by
 obtain⟨n,rfl,h'⟩:=Jz h;exact dY h'
theorem Bv:L " "=[32]/\L ", "=[44,32]/\L " : "=[32,58,32]/\L "\n"=[10]/\L "opener"=[111,112,101,110,101,114]/\L "loop"=[108,111,111,112]/\L "most "=[109,111,115,116,32]/\L "zone"=[122,111,110,101]:=by trivial
def V2 (c:Nat):Prop:=c=32\/(48<=c/\c<=57)\/GQ c
theorem K9 {d:Dev} (h:OkD d):∀c∈Bf d,V2 c:=λc hc=>by
 have l:=Bv.1;unfold Bf at hc;rw[l] at hc;simp only[QbG,QaR] at hc;rcases hc with hc | hc | hc
 ·exact .inr (.inr (Np h.kind c hc))
 ·exact .inl hc
 ·exact .inr (.inl (Nj h.bd c hc))
theorem La {c:Nat} (h:V2 c):c≠58/\c≠44/\c≠10:=by
 unfold V2 GQ at h;omega
structure Tf (K:YD) (mg:YB) (op oe:Addr):Prop extends Tx K mg op oe where
 FIGURES:∃u,mg "FIGURES"=some u/\RelV (.str "0123456789") u
theorem all_map {α : Type} (f:α->Bool) (l:List α):(l.map f).all id=l.all f:=by rw[List.all_map];rfl
section
variable {P:Program} {w:World} {K:YD} {mg:YB} {base:Heap} {op oe:Addr}
inductive Uq (vs:YG) (H:Hp) (Q:VK) (E:XK):Prop
 | mk (a:Int) (_:vs=[.str (S (Bd a))]) (_:(1<=a/\a<=99)) (_:∀H',Same H H'->Q (.int a) H'):Uq vs H Q E
theorem Rj (C:Code K mg "read_number" Jj Du) (T:Tf K mg op oe):Good P w K mg base "read_number" 1 Du Uq:=by
 refine C.good Ra (λvs H Q E h=>?_) (λf cdv A outer s H vs Q E hr h=>?_)
 ·obtain⟨n,rfl,_⟩:=h;rfl
 obtain⟨a,rfl,ha,q⟩:=h;obtain⟨n,rfl,hn⟩:=Jz ha;rw[show Bd (n:Int)=num n from rfl]
 refine⟨_,(Af (Cj (PW.pt (Ip (Dw (dz Ir Ir Ae (Ay Nt rfl T.len Ek (Aa (pv 0) Ab)) Ae)) (Iw (Dw (Dd (Ay (Fd rfl) rfl T.all Hz (Aa (BP (N':=["sign"]) rfl (Bh.plain rfl (by trivial) (by trivial) (by trivial)) (U8 (pv 0)) (λ_ _ _ _=>(Ah (i:=0) (show List.Nodup (["sign"]:YF) by trivial) rfl (Or.inl rfl))) (λ_ _ _ _=>Cy) (λ_ _ _ _=>(Fv Sh (pv 0) (Qu rfl T.FIGURES) (by with_unfolding_all rfl)))) Ab))))))) (Ai (Ba Z4)) BL)
 (Ai (Ba (Bo bL rfl T.int Wb (Aa (pv 0) Ab))))),?_⟩
 show let R0:TS:=_;Am _ R0 _ _ _;intro R0;obtain⟨na,n1,n2,_⟩:=Ro n hn;have ls:(S (num n)).length<=sizeLine:=szb (by rw[Dz];omega);refine⟨_,rq,_,rq,ls,_,_,rq,rq,_,rq,?_⟩;rw[Dz,QbX (show (1:Int)<=((num n).length:Nat) by omega)];refine BK ⟨_,_,rq,rq,_,rq,?_⟩;rw[QbX (show (((num n).length:Nat):Int)<=2 by omega)];refine Dn ⟨_,rq,_,rq,λl hl=>?_⟩;refine PX (z:=S (num n)) (λi U HH=>∃u,U=[u]/\HH l=some (.lst ((((num n).take i).map fM).map V.bl))/\Same H HH) ⟨_,rq,Ac,Ad hl _⟩ (λi c U HH hc h=>?_) (fun U HH h=>?_)
 ·obtain⟨u,rfl,e1,e2⟩:=h;have hcl:(S (num n)).cps.toList[i]?=some c:=by rw[Qay];exact hc
  have hcl:(num n)[i]?=some c:=hcl;have hi:=(Qaf.mp hcl).1;unfold FJ;dsimp only;refine BK ⟨_,rq,_,_,rq,rq,_,e1,Aq (by simp;omega),_,rq,?_,e2.Dc Ag.upd hl⟩;rw[Ac,QcB hcl,QbH,QbH];rfl
 obtain⟨u,rfl,e1,s1⟩:=h;have sz:(S (num n)).cps.size=(num n).length:=(Dz _);rw[sz,Qbw] at e1;refine⟨l,_,rq,SqL.of e1,_,rq,?_⟩;rw[all_map,na];exact Dn ⟨_,rq,_,_,rq,Rn hn,by rw[Dz];omega,q _ s1⟩
inductive cV (vs:YG) (H:Hp) (Q:VK) (E:XK):Prop
 | mk (d:Dev) (_:vs=[.str (S (Bf d))]) (_:OkD d) (_:∀p H',H' p=some (.tup [.str d.kind,.int d.addr])->Same H H'->Q (.ref p) H'):cV vs H Q E
theorem Rk (C:Code K mg "read_device" Jk Fg) (T:Tf K mg op oe) (Fp:Good P w K mg base "read_number" 1 Du Uq):Good P w K mg base "read_device" 2 Fg cV:=by
 refine C.good Gj (λvs H Q E h=>?_) (λf cdv A outer s H vs Q E hr h=>?_)
 ·obtain⟨n,rfl,_⟩:=h;rfl
 obtain⟨d,rfl,ok,q⟩:=h;refine⟨_,(Af (DR (BR Qav PySem.F.slot_str_partition PySem.F.type_str_partition JV (pv 0) (Aa Bb Ab)) (CN rfl (Aj (Ah (i:=1) Gj.nd rfl (Or.inl rfl)) (Aj (Ah (i:=2) Gj.nd rfl (Or.inl rfl)) (Aj (Ah (i:=3) Gj.nd rfl (Or.inl rfl)) Bp)))))
 (Ai (Ba (BZ (Aa (pv 1) (Aa (BJ Fp hr (Aa (pv 3) Ab)) Ab)))))),?_⟩
 show let R0:TS:=_;Am _ R0 _ _ _;intro R0;obtain⟨l1,_⟩:=Bv;have e1:Txt.partition (S (Bf d)) " "=(S (L d.kind),(" ":Str),S (Bd d.addr)):=K6 (j:=0) (m:=32) (by rw[show L (Str.ofString " ")=[32] from l1];rfl) (λi hi=>absurd hi (QbO _)) (λhc=>by
  have:=Np ok.kind _ hc;unfold GQ at this;omega)
 have dl:=Kc ok;refine⟨_,rq,rq,S (Bf d)," ",rq,rq,by trivial,szb (by rw[Dz];omega),λp1 hp1=>?_⟩;rw[e1];have s1:=Ad hp1 (.tup [.str (S (L d.kind)),.str " ",.str (S (Bd d.addr))]);refine⟨p1,_,rq,SqT.of Ac,rq,_,_,rq,_,_,rq,_,_,rq,rq,?_⟩;refine⟨_,rq,_,rq,d.addr,rq,ok.bd,λH2 s2=>⟨Aw (by show 2<=1000;decide),λp2 hp2=>?_⟩⟩;exact q p2 _ Ac (s1.trans (s2.trans (Ad hp2 _)))
theorem VG {ds:List Dev} (h:∀d∈ds,OkD d):∀p∈ds.map Bf,44∉p:=λp hp hc=>by
 obtain⟨d,hd,rfl⟩:=Qcm.mp hp;exact (La (K9 (h d hd) _ hc)).2.1 rfl
theorem G4 {p:Place} (k:¬V.str p.kind=V.str "opener"):Bw p=if p.spur=[] then Bf ⟨p.kind,p.addr⟩ else Bf ⟨p.kind,p.addr⟩++(L " : "++Dg p.spur):=if_neg k
theorem Xy (d:Dev):32∈Bf d:=by
 unfold Bf;rw[Bv.1];exact Qax _ (QaE _ (QaR.mpr rfl))
theorem Rf {p:Place} (k:¬V.str p.kind=V.str "opener"):S (Bw p)≠"opener":=λz=>by
 have e:=congrArg L z;rw[L_S,G4 k] at e;have h:32∈L (Str.ofString "opener"):=by
  show 32∈L "opener";rw[<-e];split
  ·exact Xy _
  ·exact QaE _ (Xy _)
 rw[show L (Str.ofString "opener")=[111,112,101,110,101,114] from Bv.2.2.2.2.1] at h
 exact absurd h (by decide)
inductive cU (K:YD) (vs:YG) (H:Hp) (Q:VK) (E:XK):Prop
 | mk (p:Place) (_:vs=[.str (S (Bw p))]) (_:En p) (_:∀x H',Gf K H' x p->Same H H'->Q x H'):cU K vs H Q E
theorem Tq (C:Code K mg "read_place" JK FT) (T:Tf K mg op oe) (Ml:Good P w K mg base "read_device" 2 Fg cV):Good P w K mg base "read_place" 3 FT (cU K):=by
 refine C.good Dt (λvs H Q E h=>?_) (λf cdv A outer s H vs Q E hr h=>?_)
 ·obtain⟨n,rfl,_⟩:=h;rfl
 obtain⟨p,rfl,ok,q⟩:=h;refine⟨_,(Af (Cj (BX Gm (pv 0) Bb (Cd _)) (Ai (Ba (Qu rfl T.OPENER))) BL)
 (Af (DR (BR Qav PySem.F.slot_str_partition PySem.F.type_str_partition JV (pv 0) (Aa Bb Ab)) (CN rfl (Aj (Ah (i:=1) Dt.nd rfl (Or.inl rfl)) (Aj (Ah (i:=2) Dt.nd rfl (Or.inl rfl)) (Aj (Ah (i:=3) Dt.nd rfl (Or.inl rfl)) Bp)))))
 (Af (Az (i:=4) Dt.nd rfl (Or.inl rfl) (dM (O7 (pv 2) (λ_=>rfl)) (BP (N':=["text"]) rfl (Bh.plain rfl (by trivial) (by trivial) (by trivial)) (Ed (BR Qav PySem.F.slot_str_split PySem.F.type_str_split Pb (pv 3) (Aa Bb Ab))) (λ_ _ _ _=>(Ah (i:=0) (show List.Nodup (["text"]:YF) by trivial) rfl (Or.inl rfl))) (λ_ _ _ _=>Cy) (λ_ _ _ _=>(BJ Ml hr (Aa (pv 0) Ab)))) (Cp Ab)))
 (Af (DR (BJ Ml hr (Aa (pv 1) Ab)) (CN rfl (Aj (Ah (i:=5) Dt.nd rfl (Or.inl rfl)) (Aj (Ah (i:=6) Dt.nd rfl (Or.inl rfl)) Bp))))
 (Ai (Ba (BZ (Aa (pv 5) (Aa (pv 6) (Aa (Bo Bm rfl T.tuple Cm (Aa (pv 4) Ab)) Ab)))))))))),?_⟩
 show let R0:TS:=_;let R1:TS:=Am _ R0;let R2:TS:=Am _ R1;let R3:TS:=Am _ R2;Am _ R3 _ _ _;intro R0 R1 R2 R3;obtain⟨l1,l2,l3,_⟩:=Bv;have pl:=O8 ok;by_cases k:V.str p.kind=V.str "opener"
 ·have e:S (Bw p)="opener":=by unfold Bw;rw[if_pos k];rfl
  rw[e];refine⟨_,rq,rq,_,rq,ifS (λ_=>?_) (λz=>absurd rfl z)⟩;refine q _ H ?_ (Same.refl _);rcases ok.ok.form with⟨f1,f2,f3⟩| f
  ·exact⟨op,oe,[],rq,by rw[f1,f2];exact .inr ⟨T.opT,by show 3≠2;decide⟩,.inr ⟨T.opE,by show 0≠2;decide⟩,by rw[f3];exact .nil⟩
  ·exact absurd k (Hx f)
 obtain⟨d0,ds⟩:=ok.dev k;have no:∀m:Nat,¬V2 m->m∉Bf ⟨p.kind,p.addr⟩:=λm hm hc=>hm (K9 d0 _ hc);have n58:58∉Bf ⟨p.kind,p.addr⟩:=no 58 (by unfold V2 GQ;omega);refine⟨_,rq,rq,_,rq,ifS (λz=>absurd z (Rf k)) (λ_=>?_)⟩;refine⟨_,rq,rq,S (Bw p)," : ",rq,rq,by trivial,szb (by rw[Dz];omega),λp1 hp1=>?_⟩;have pj:(L (Str.ofString " : "))[1]?=some 58:=by rw[show L (Str.ofString " : ")=[32,58,32] from l3];rfl
 by_cases hs:p.spur=[]
 ·have e:Bw p=Bf ⟨p.kind,p.addr⟩:=by rw[G4 k,if_pos hs]
  rw[e];rw[RZ pj n58];have s1:=Ad hp1 (.tup [.str (S (Bf ⟨p.kind,p.addr⟩)),.str Str.empty,.str Str.empty]);refine⟨p1,_,rq,SqT.of Ac,rq,_,_,rq,_,_,rq,_,_,rq,rq,?_⟩;refine⟨_,rq,_,⟨Qcs _,rq⟩,Dn ⟨Aw (by show 0<=1000;decide),λl hl=>?_⟩⟩;have s2:=Ad hl (.lst []);refine⟨_,rq,⟨p.kind,p.addr⟩,rq,d0,λp2 H2 hp2 sd=>?_⟩;refine⟨p2,_,rq,SqT.of hp2,rq,_,_,rq,_,_,rq,rq,?_⟩;refine⟨_,rq,_,rq,_,rq,l,_,rq,.inl ⟨SqL.of (sd _ _ Ac),λt1 ht1=>⟨Aw (by show 3<=1000;decide),λt2 ht2=>?_⟩⟩⟩;have s3:=Ad ht1 (.tup []);have s4:=Ad ht2 (.tup [.str p.kind,.int p.addr,.ref t1]);exact q _ _ ⟨t2,t1,[],rq,.inl Ac,.inl (s4 _ _ Ac),by rw[hs];exact .nil⟩ ((((s1.trans s2).trans sd).trans s3).trans s4)
 ·have e:Bw p=Bf ⟨p.kind,p.addr⟩++(L (Str.ofString " : ")++Dg p.spur):=by rw[G4 k,if_neg hs]
  rw[e];rw[K6 pj (λi hi=>by
   have:i=0:=by omega
   subst this;rw[show L (Str.ofString " : ")=[32,58,32] from l3]
   decide) n58]
  have s1:=Ad hp1 (.tup [.str (S (Bf ⟨p.kind,p.addr⟩)),.str (Str.ofString " : "),.str (S (Dg p.spur))]);have c1:upd H p1 (.tup [.str (S (Bf ⟨p.kind,p.addr⟩)),.str (Str.ofString " : "),.str (S (Dg p.spur))]) p1=_:=Ac;generalize upd H p1 (.tup [.str (S (Bf ⟨p.kind,p.addr⟩)),.str (Str.ofString " : "),.str (S (Dg p.spur))])=H1 at *;refine⟨p1,_,rq,SqT.of c1,rq,_,_,rq,_,_,rq,_,_,rq,rq,?_⟩;have l43:=ll.2.2.2.2.1;have wM:(Dg p.spur).length<=60:=by
   have:=pl;rw[e,QaN,QaN] at this;omega
  refine⟨_,rq,_,⟨szb (by rw[l43];decide),rq⟩,eZ (by rw[l43];rfl) ?_⟩;refine⟨_,rq,rq,S (Dg p.spur),", ",rq,rq,by trivial,Qcn (by rw[Dz];show _<=100000;omega) NP,λp2 hp2=>?_⟩;have ne:p.spur.map Bf≠[]:=λz=>hs (List.map_eq_nil_iff.mp z);rw[show Txt.split (S (Dg p.spur)) ", "=(p.spur.map Bf).map S from Ie (c0:=44) (t:=[32]) (by trivial) l2 ne (VG ds)]
  have s2:=Ad hp2 (.lst (((p.spur.map Bf).map S).map V.str));have c2:upd H1 p2 (.lst (((p.spur.map Bf).map S).map V.str)) p2=_:=Ac;generalize upd H1 p2 (.lst (((p.spur.map Bf).map S).map V.str))=H2 at *;refine⟨p2,rq,⟨_,SqL.of c2⟩,λl hl=>?_⟩;refine Gb (xs:=((p.spur.map Bf).map S).map V.str) (λ(i:Nat) (U : St) (HX:Hp)=>∃(b1:Option V) (ys:YG),U=[b1]/\HX l=some (.lst ys)/\Paired (Er HX) ys (p.spur.take i)/\Same H2 HX) ⟨none,[],rq,Ac,.nil,Ad hl _⟩ (λi U HX _ h=>?_) (λi x U HX hx h=>?_) (fun U HX h=>?_)
  ·obtain⟨_,_,rfl,_,_,s⟩:=h;exact SqL.of (s _ _ c2)
  ·obtain⟨b1,ys,rfl,ey,py,s⟩:=h;rw[Qbf,Qbf,Qbf] at hx;cases hu:p.spur[i]? with
   | none=>rw[hu] at hx;cases hx
   | some d=>
   rw[hu] at hx;injection hx with hx;subst hx;have hi:=(Qaf.mp hu).1;have s3:=ok.ok.spur;unfold FJ;dsimp only;refine BK ⟨_,rq,d,rq,ds d (QaC hu),λp3 HY hp3 sy=>?_⟩;have ey':=sy _ _ ey;have yl:=Qcd py;rw[Qbv] at yl;have ts:Ak HY (upd HY l (.lst (ys++[.ref p3]))):=(Ag.upd (b:=l)).tup λxs z=>by rw[ey'] at z;cases z
   refine⟨ys,ey',Aq (by omega),_,_,rq,Ac,?_,(s.trans sy).Dc Ag.upd hl⟩;rw[QcB hu];exact Qct ⟨p3,rq,ts _ _ hp3⟩ (Paired.Bg py λ_ _ z=>(z.tups (Ak.of sy)).tups ts)
  ·obtain⟨b1,ys,rfl,ey,py,s⟩:=h;rw[QbF,QbF,QbF,Qbw] at py;refine⟨_,rq,⟨p.kind,p.addr⟩,rq,d0,λp4 H4 hp4 sd=>?_⟩;refine⟨p4,_,rq,SqT.of hp4,rq,_,_,rq,_,_,rq,rq,?_⟩;refine⟨_,rq,_,rq,_,rq,l,_,rq,.inl ⟨SqL.of (sd _ _ ey),λt1 ht1=>⟨Aw (by show 3<=1000;decide),λt2 ht2=>?_⟩⟩⟩;have s3:=Ad ht1 (.tup ys);have s4:=Ad ht2 (.tup [.str p.kind,.int p.addr,.ref t1]);exact q _ _ ⟨t2,t1,ys,rq,.inl Ac,.inl (s4 _ _ Ac),Paired.Bg py λ_ _ z=>z.tups (Ak.of (sd.trans (s3.trans s4)))⟩ (((((s1.trans s2).trans s).trans sd).trans s3).trans s4)
end
section
open PySem.W PySem.Spec PySem.Calls PyProof.Rows
theorem Ui {prog:Program} {w:World} {A:Around} {E:YA} {s:Shared} {l:Addr} {items:Array Value} {n i:Nat} {Q:YE->Shared->Prop} (hl:s.heap.IsList l items) (hh:A.handled=none) (hi:i < n) (hn:n<=items.size+1) (hz:items.size<=16384)
  (h:∀(h2:Heap) tk,(∀b o,s.heap.get? b=some o->h2.get? b=some o)->Q (items.toList.take i++[.ref h2.objs.size]++(items.toList.drop i).drop (items.size+1 - n)) { s with heap:=h2.push { cls:=.type "list",data:=.seq ((items.toList.drop i).take (items.size+1 - n)).toArray },toks:=tk }):wpAny (model prog w) A (unpackItems (.ref l) n (some i)) Q E s:=by
 have hlt:l≠s.heap.objs.size:=by obtain⟨o,ho,_⟩:=hl;exact Qcl (Qck ho)
 unfold unpackItems;refine Qcx ?_;unfold notIterableAtAll;refine Qcx (wpAny_specialOf hl.typeIs slot_list_iter.lookup ?_);refine Qcy ?_;simp only[QaX,QcD];refine Qcx (Qcf (Qbm hl ?_));refine Qcx (Qcf (kun_draw hlt i 0 _ _ ⟨_,QaI _ rfl,rq,rq⟩ (hl.push _) (by omega) λh₁ hit₁ hs₁=>?_));have hl₁ : h₁.IsList l items:=(hl.push _).extBut hs₁.extBut hlt;rw[Nat.zero_add] at hit₁;have hit₁':=hit₁;obtain⟨oi,hoi,_⟩:=hit₁';have hl₁':=hl₁;obtain⟨ol,hol,_⟩:=hl₁';rw[List.drop_zero];have hfl:(items.toList.take i).length=i:=by rw[Qbv,QaJ];omega
 rw[if_neg (show ¬((items.toList.take i).length < i) by rw[hfl];omega)];refine Qcx (Qcf (kun_collect (s:={ s with heap:=h₁ }) (T:="list_iterator") (.inr (.inr (.inl rfl))) (Walks.list (A:=A.in1) hh s.heap.objs.size l hlt items) (λj u st=>st.1.typeIs) (k:=i) (by omega) ⟨hit₁,hl₁⟩ (Qck hoi) (Qck hol) (λh₂ tk hk=>?_) (by rw[Qcv];omega)));have hrl:(items.toList.drop i).length=items.size - i:=by rw[Qby,QaJ]
 have hmid:(items.toList.drop i).length - (n - 1 - i)=items.size+1 - n:=by rw[hrl];omega
 show wpAny _ _ (if (items.toList.drop i).length < n - 1 - i then _ else _) _ _ _
 rw[if_neg (by rw[hrl];omega)];show wpAny _ _ (newList ((items.toList.drop i).take ((items.toList.drop i).length - (n - 1 - i))) >>= λd=>pure (items.toList.take i++[d]++(items.toList.drop i).drop ((items.toList.drop i).length - (n - 1 - i)))) _ _ _;rw[hmid];refine Qcx (wpAny_newList (Qcy (h h₂ tk λb o e=>?_)) (by rw[Qbv,hrl,Qcv];omega));exact hk b o (Qcl (Qck e)) (hs₁.extBut b o (Qcl (Qck e)) (Qat _ e))
end
def oN (K:YD) (n i:Nat) (t:TGs):TG:=λv U H Q=>∃a xs,v=.ref a/\SqL K H a xs/\n<=xs.length+1/\xs.length<=1000/\∀d,H d=none->t (xs.take i++[.ref d]++(xs.drop i).drop (xs.length+1 - n)) U (upd H d (.lst ((xs.drop i).take (xs.length+1 - n)))) Q
theorem Vals.gF {xs:YG} {us:YE} (r:Vals xs us) (n:Nat):Vals (xs.take n) (us.take n)/\Vals (xs.drop n) (us.drop n):=by
 induction r generalizing n with
 | nil=>cases n <;> exact⟨.nil,.nil⟩
 | cons r rr ih=>
  cases n with
  | zero=>exact⟨.nil,.cons r rr⟩
  | succ n=>exact⟨.cons r (ih n).1,(ih n).2⟩
theorem Vals.mX {xs ys:YG} {us vs:YE} (r:Vals xs us) (q:Vals ys vs):Vals (xs++ys) (us++vs):=by
 induction r with
 | nil=>exact q
 | cons r rr ih=>exact .cons r ih
section
open PySem.Calls PySem.Spec PyProof.Rows
variable {X:Cx} {pos:Pos}
theorem dJ {e:Expr} {es:YJ} {p:Pos} {t:TG} {u:TGs} (h1:PG X e t) (h2:PGs X es u)
  (hs:(assignEach (.Starred e p::es) X.env).map (·.2)=assign e X.env::(assignEach es X.env).map (·.2):=by rfl):PGs X (.Starred e p::es) (gR t u):=by
 intro jb s U H vs us Q I r h;obtain⟨v,vr,e1,h⟩:=h;subst e1;cases r with
 | cons r rr=>
  rw[hs];refine assignInOrder_cons (thn (h1 jb s U H _ _ _ I r h) λ_ s1 zz=>?_);obtain⟨σ1,H1,I1,q1⟩:=zz;exact h2 jb s1 σ1 H1 _ _ Q I1 rr q1
theorem iM {es:YJ} {k:Nat} {t:TGs} {n i:Nat} (hc:X.calm=true) (h:PGs X es t)
  (hn:(assignEach es X.env).length=n:=by rfl) (hst:(assignEach es X.env).findIdx? (·.1)=some i:=by rfl) (hin:i < n:=by decide):PG X (.Tuple es k pos) (oN X.K n i t):=by
 intro jb s U H v u Q I r hw;obtain⟨a,xs,e1,hq,hl,hz,hw⟩:=hw;subst e1;cases r;obtain⟨its,rv,ht,_⟩:=I.list hq;have hsz:its.toArray.size=xs.length:=by rw[Qbc,rv.length]
 rw[assign_Tuple];refine Qcx (Qch ?_);unfold unpack;rw[hst,hn];refine Qcx (Qcf (Ui ht.isList (I.ok.hd hc) hin (by rw[hsz];exact hl) (by rw[hsz];omega) λh2 tk he=>?_));have I1:Inv X jb U H { s with heap:=h2 }:=I.kept (t':=s.toks) he;have hf:H h2.objs.size=none:=I1.hok.fresh (Qcr _);rw[hsz];have ts:=Vals.gF rv i;have td:=Vals.gF ts.2 (xs.length+1 - n);refine h jb _ U (upd H h2.objs.size (.lst ((xs.drop i).take (xs.length+1 - n)))) _ _ Q (I1.laid (t':=tk) (λb u e=>Qat _ e) (Qcr _) ?_) (Vals.mX (Vals.mX ts.1 (show Vals [V.ref h2.objs.size] [Value.ref h2.objs.size] from .cons rfl .nil)) td.2) (hw _ hf)
 exact⟨by rw[Qbv,Qby];exact Aw (by omega),_,0,td.1,QaI _ rfl⟩
end
theorem RK {X:Cx} {K:YD} (h:X.K=K):Ds X (.type "tuple") (λxs H Q=>∃p ys,xs=[.ref p]/\((SqL K H p ys/\∀l,H l=none->Q (.ref l) (upd H l (.tup ys)))\/(SqT K H p ys/\Q (.ref p) H))):=h ▸ Bm
end K05
namespace K05
open PySem L2
abbrev Ks:Stmt:=top 33
abbrev Gy:YF:=GD
theorem Ho:Bc ["row","word","name","numbers"] Gy (Al Ks):=by ac_rfl
abbrev Ku:Stmt:=top 34
abbrev Gz:YF:=["rows"]
theorem DQ:Bc ["rows","loops","zones","row","word","blank","most"] Gz (Al Ku):=by ac_rfl
theorem cG {z:Zone} (h:ZnB z):∀c∈L z.name,GQ c:=λc hc=>fX c (h.nm.2 c hc)
def JC (z:Zone):List (List Nat):=L "zone"::L z.name::z.adr.map Bd
theorem Zn {z:Zone} (h:ZnB z):∀p∈JC z,∀c∈p,(48<=c/\c<=57)\/GQ c:=λp hp c hc=>by
 rcases Qcc.mp hp with rfl | hp
 ·rw[Bv.2.2.2.2.2.2.2] at hc;have:∀c∈[122,111,110,101],97<=c/\c<=122:=by decide
  exact .inr (this c hc)
 ·rcases Qcc.mp hp with rfl | hp
  ·exact .inr (cG h c hc)
  ·obtain⟨a,ha,rfl⟩:=Qcm.mp hp;exact .inl (Nj (h.bd a ha) c hc)
theorem Xa {z:Zone} (h:ZnB z):∀p∈JC z,32∉p:=λp hp hc=>by
 have:=Zn h p hp 32 hc;unfold GQ at this;omega
section
variable {P:Program} {w:World} {K:YD} {mg:YB} {base:Heap} {op oe:Addr}
inductive cR (vs:YG) (H:Hp) (Q:VK) (E:XK):Prop
 | mk (z:Zone) (_:vs=[.str (S (CV z))]) (_:ZnB z) (_:∀x H',CT H' x z->Same H H'->Q x H'):cR vs H Q E
theorem Ve (C:Code K mg "read_zone" Ks Gy) (T:Tf K mg op oe) (Fp:Good P w K mg base "read_number" 1 Du Uq):Good P w K mg base "read_zone" 2 Gy cR:=by
 refine C.good Ho (λvs H Q E h=>?_) (λf cdv A outer s H vs Q E hr h=>?_)
 ·obtain⟨n,rfl,_⟩:=h;rfl
 obtain⟨z,rfl,ok,q⟩:=h;refine⟨_,(Af (DR (BR Qav PySem.F.slot_str_split PySem.F.type_str_split Pb (pv 0) (Aa Bb Ab)) (iM (n:=3) (i:=2) rfl (Aj (Ah (i:=1) Ho.nd rfl (Or.inl rfl)) (Aj (Ah (i:=2) Ho.nd rfl (Or.inl rfl)) (dJ (Ah (i:=3) Ho.nd rfl (Or.inl rfl)) Bp)))))
 (Ai (Ba (BZ (Aa (pv 2) (Aa (Bo Bm rfl T.tuple Cm (Aa (BP (N':=["number"]) rfl (Bh.plain rfl (by trivial) (by trivial) (by trivial)) (Ed (pv 3)) (λ_ _ _ _=>(Ah (i:=0) (show List.Nodup (["number"]:YF) by trivial) rfl (Or.inl rfl))) (λ_ _ _ _=>Cy) (λ_ _ _ _=>(BJ Fp hr (Aa (pv 0) Ab)))) Ab)) Ab)))))),?_⟩
 show let R0:TS:=_;Am _ R0 _ _ _;intro R0;have zl:=Uc ok;have u3:=ok.up.2.2;refine⟨_,rq,rq,S (CV z)," ",rq,rq,by trivial,Qcn (by rw[Dz];show _<=100000;omega) NP,λp1 hp1=>?_⟩;rw[show Txt.split (S (CV z)) " "=(JC z).map S from Ie (c0:=32) (t:=[]) (by trivial) Bv.1 (QbC _ _) (Xa ok)]
 have s1:=Ad hp1 (.lst (((JC z).map S).map V.str));have c1:upd H p1 (.lst (((JC z).map S).map V.str)) p1=_:=Ac;generalize upd H p1 (.lst (((JC z).map S).map V.str))=H1 at *;have lp:(((JC z).map S).map V.str).length=z.adr.length+2:=by rw[QbF,QbF];show (z.adr.map Bd).length+1+1=_;rw[QbF]
 refine⟨p1,_,rq,SqL.of c1,by rw[lp];omega,by rw[lp];omega,λd hd=>?_⟩;rw[lp];have e3:((((JC z).map S).map V.str).drop 2).take (z.adr.length+2+1 - 3)=((z.adr.map Bd).map S).map V.str:=by
  show (((z.adr.map Bd).map S).map V.str).take _=_;refine Qaw ?_;rw[QbF,QbF,QbF];omega
 have e4:((((JC z).map S).map V.str).drop 2).drop (z.adr.length+2+1 - 3)=[]:=by
  show (((z.adr.map Bd).map S).map V.str).drop _=_;refine List.drop_of_length_le ?_;rw[QbF,QbF,QbF];omega
 rw[e3,e4];refine⟨_,_,rq,_,_,rq,_,_,rq,rq,?_⟩;have s2:=Ad hd (.lst (((z.adr.map Bd).map S).map V.str));have c2:upd H1 d (.lst (((z.adr.map Bd).map S).map V.str)) d=_:=Ac;generalize upd H1 d (.lst (((z.adr.map Bd).map S).map V.str))=H2 at *;refine⟨_,rq,_,rq,d,rq,⟨_,SqL.of c2⟩,λl hl=>?_⟩;refine Gb (xs:=((z.adr.map Bd).map S).map V.str) (λ(i:Nat) (U : St) (HX:Hp)=>∃(b1:Option V),U=[b1]/\HX l=some (.lst ((z.adr.take i).map V.int))/\Same H2 HX) ⟨none,rq,Ac,Ad hl _⟩ (λi U HX _ h=>?_) (λi x U HX hx h=>?_) (fun U HX h=>?_)
 ·obtain⟨_,rfl,_,s⟩:=h;exact SqL.of (s _ _ c2)
 ·obtain⟨b1,rfl,ey,s⟩:=h;rw[Qbf,Qbf,Qbf] at hx;cases hu:z.adr[i]? with
  | none=>rw[hu] at hx;cases hx
  | some a=>
  rw[hu] at hx;injection hx with hx;subst hx;unfold FJ;dsimp only;refine BK ⟨_,rq,a,rq,ok.bd a (QaC hu),λHY sy=>?_⟩;refine⟨_,sy _ _ ey,Aq (by rw[QbF,Qbv];omega),_,rq,?_,(s.trans sy).Dc Ag.upd hl⟩;rw[Ac,QcB hu,QbH];rfl
 obtain⟨b1,rfl,ey,s⟩:=h;rw[QbF,QbF,QbF,Qbw] at ey;refine⟨l,_,rq,.inl ⟨SqL.of ey,λt1 ht1=>⟨Aw (by show 2<=1000;decide),λt2 ht2=>?_⟩⟩⟩;have s3:=Ad ht1 (.tup (z.adr.map V.int));have s4:=Ad ht2 (.tup [.str z.name,.ref t1]);exact q _ _ ⟨t2,t1,rq,Ac,s4 _ _ Ac⟩ (((s1.trans s2).trans s).trans (s3.trans s4))
end
inductive Rw where
 | lp
 | pl (p:Place)
 | zn (z:Zone)
def Rw.txt:Rw->List Nat
 | .lp=>L "loop"
 | .pl p=>Bw p
 | .zn z=>CV z
def YT (ps:List Place):List Rw:=.lp::ps.map .pl
def Jm (ja:YU) (jp:List Zone):List Rw:=ja.flatMap YT++jp.map .zn
theorem Li (ja:YU) (jp:List Zone):(Jm ja jp).map Rw.txt=ja.flatMap Br++jp.map CV:=by
 unfold Jm;rw[QbH,List.map_map,List.map_flatMap];congr 1;refine congrArg (λf=>List.flatMap f ja) (funext λps=>?_);show L "loop"::(ps.map Rw.pl).map Rw.txt=L "loop"::ps.map Bw;rw[List.map_map];rfl
abbrev RS:=YU×List Zone
def Nv:YU->Place->YU
 | [],p=>[[p]]
 | [a],p=>[a++[p]]
 | a::b::r,p=>a::Nv (b::r) p
theorem Nu (l:YU) (a:List Place) (p:Place):Nv (l++[a]) p=l++[a++[p]]:=by
 induction l with
 | nil=>rfl
 | cons b r ih=>
  cases r with
  | nil=>rfl
  | cons c r=>exact congrArg (b::·) ih
def stR (s:RS):Rw->RS
 | .lp=>(s.1++[[]],s.2)
 | .pl p=>(Nv s.1 p,s.2)
 | .zn z=>(s.1,s.2++[z])
def foR (l:List Rw):RS:=l.foldl stR ([],[])
theorem fL (l:List Rw) (r:Rw):foR (l++[r])=stR (foR l) r:=by unfold foR;rw[List.foldl_append];rfl
theorem QF:∀(ps:List Place) (s:YU) (a:List Place) (zs:List Zone),(ps.map Rw.pl).foldl stR (s++[a],zs)=(s++[a++ps],zs)
 | [],s,a,zs=>by rw[QbI];rfl
 | p::r,s,a,zs=>by
  show (r.map Rw.pl).foldl stR (Nv (s++[a]) p,zs)=_;rw[Nu,QF r s (a++[p]) zs,Qbe];rfl
theorem SQ:∀(ja s:YU) (zs:List Zone),(ja.flatMap YT).foldl stR (s,zs)=(s++ja,zs)
 | [],s,zs=>by rw[QbI];rfl
 | ps::r,s,zs=>by
  rw[Qbg,List.foldl_append];show (r.flatMap YT).foldl stR ((ps.map Rw.pl).foldl stR (s++[[]],zs))=_;rw[QF ps s [] zs,SQ r,Qbe];rfl
theorem SM:∀(jp:List Zone) (s:YU) (zs:List Zone),(jp.map Rw.zn).foldl stR (s,zs)=(s,zs++jp)
 | [],s,zs=>by rw[QbI];rfl
 | z::r,s,zs=>by
  show (r.map Rw.zn).foldl stR (s,zs++[z])=_;rw[SM r,Qbe];rfl
theorem RJ (ja:YU) (jp:List Zone):foR (Jm ja jp)=(ja,jp):=by
 unfold foR Jm;rw[List.foldl_append,SQ,SM];rfl
theorem jB {l:YU} {p:Place}:Nv l p≠[]:=by
 cases l with
 | nil=>exact QbC _ _
 | cons a r=>cases r <;> exact QbC _ _
theorem aZ:∀(l:List Rw) (s:RS),s.1≠[]->(l.foldl stR s).1≠[]
 | [],_,h=>h
 | r::l,s,h=>aZ l (stR s r) (by
  cases r with
  | lp=>exact List.append_ne_nil_of_right_ne_nil _ (QbC _ _)
  | pl p=>exact jB
  | zn z=>exact h)
theorem VP:∀(l:List Rw) (s:RS),(l.foldl stR s).1.length<=s.1.length+l.length/\(l.foldl stR s).2.length<=s.2.length+l.length/\∀m,(∀ps∈s.1,ps.length<=m)->∀ps∈(l.foldl stR s).1,ps.length<=m+l.length
 | [],s=>⟨Qcr _,Qcr _,λm h ps hp=>h ps hp⟩
 | r::l,s=>by
  have al:∀(q:YU) (p:Place),(Nv q p).length<=q.length+1/\∀m,(∀ps∈q,ps.length<=m)->∀ps∈Nv q p,ps.length<=m+1:=by
   intro q p;rcases List.eq_nil_or_concat q with rfl |⟨i,t,rfl⟩
   ·refine⟨Qcr _,λm _ ps hps=>?_⟩;rw[QaR.mp hps];show 1<=m+1;omega
   ·simp only[List.concat_eq_append];rw[Nu];refine⟨by rw[QaN,QaN];show _+1<=_+1+1;omega,λm h ps hps=>?_⟩;rcases QbG.mp hps with z | z
    ·have:=h ps (QaE _ z);omega
    ·rw[QaR.mp z,QaN];have:=h t (Qax _ (QaR.mpr rfl));show _+1<=_;omega
  have ih:=VP l (stR s r);have st:(stR s r).1.length<=s.1.length+1/\(stR s r).2.length<=s.2.length+1/\∀m,(∀ps∈s.1,ps.length<=m)->∀ps∈(stR s r).1,ps.length<=m+1:=by
   cases r with
   | lp=>
    refine⟨by show (s.1++[[]]).length<=_;rw[QaN];exact Qcr _,Qcw _,λm h ps hps=>?_⟩;rcases QbG.mp hps with z | z
    ·have:=h ps z;omega
    ·rw[QaR.mp z];exact Qcs _
   | pl p=>exact⟨(al s.1 p).1,Qcw _,(al s.1 p).2⟩
   | zn z=>exact⟨Qcw _,by show (s.2++[z]).length<=_;rw[QaN];exact Qcr _,λm h ps hps=>Nat.le_succ_of_le (h ps hps)⟩
  refine⟨?_,?_,λm h ps hps=>?_⟩
  ·rw[List.foldl_cons,Qbu];have:=ih.1;omega
  ·rw[List.foldl_cons,Qbu];have:=ih.2.1;omega
  ·have:=ih.2.2 (m+1) (st.2.2 m h) ps hps;rw[Qbu];omega
def Ny (K:YD) (H:Hp) (as:List Addr) (lss:YU):Prop:=Paired (λ(a:Addr) (ps:List Place)=>∃vs,H a=some (.lst vs)/\Paired (Gf K H) vs ps) as lss
theorem Paired.mem {α β : Type} {F G:α->β->Prop}:∀{l:List α} {r:List β},Paired F l r->(∀a∈l,∀b,F a b->G a b)->Paired G l r
 | _,_,.nil,_=>.nil
 | _,_,.cons h t,g=>.cons (g _ QaQ _ h) (Paired.mem t λa ha b=>g a (QaD _ ha) b)
theorem Ny.keep {K:YD} {H H':Hp} {as:List Addr} {lss:YU} (h:Ny K H as lss) (t:Ak H H') (k:∀a∈as,∀o,H a=some o->H' a=some o):Ny K H' as lss:=
 Paired.mem h λa ha ps ⟨vs,e,p⟩=>⟨vs,k a ha _ e,Paired.Bg p λ_ _ z=>z.tups t⟩
theorem Paired.Zu {α β : Type} {F:α->β->Prop} {a:α}:∀{l:List α} {r:List β},Paired F (l++[a]) r->∃r0 b,r=r0++[b]/\Paired F l r0/\F a b
 | [],_,.cons h .nil=>⟨[],_,rfl,.nil,h⟩
 | x::l,_,.cons h t=>by
  obtain⟨r0,b,e,p,f⟩:=Paired.Zu t;exact⟨_::r0,b,by rw[e];rfl,.cons h p,f⟩
theorem aB {k:Str} (h:Dl k):∃c t,L k=c::t/\c≠122/\c≠108:=by
 have key:∀k:Str,(match L k with | c::_=>decide (c≠122/\c≠108) | []=>false)=true->∃c t,L k=c::t/\c≠122/\c≠108:=λk h=>by
  cases e:L k with
  | nil=>rw[e] at h;cases h
  | cons c t=>rw[e] at h;exact⟨c,t,rfl,Qbo h⟩
 refine key k ?_;rcases h with rfl | rfl | rfl | rfl <;> decide +kernel
theorem Nf {p:Place} (h:En p):∃c t,Bw p=c::t/\c≠122/\c≠108:=by
 by_cases k:V.str p.kind=V.str "opener"
 ·exact⟨111,[112,101,110,101,114],by unfold Bw;rw[if_pos k];exact Bv.2.2.2.2.1,by decide,by decide⟩
 obtain⟨c,t,e,h1,h2⟩:=aB (h.dev k).1.kind;have e:L p.kind=c::t:=e;rw[G4 k];split
 ·exact⟨c,t++(L " "++Bd p.addr),by show L p.kind++_=_;rw[e];rfl,h1,h2⟩
 ·exact⟨c,t++(L " "++Bd p.addr)++(L " : "++Dg p.spur),by show (L p.kind++_)++_=_;rw[e];rfl,h1,h2⟩
theorem Mr (z:Zone):CV z=L (Str.ofString "zone ")++jnS (L " ") (L z.name::z.adr.map Bd):=by
 have e:L "zone"++L " "=L (Str.ofString "zone "):=by trivial
 show L "zone"++(L " "++jnS (L " ") (L z.name::z.adr.map Bd))=_;rw[<-e,Qbe]
theorem QT (z:Zone):S (CV z)≠"loop":=λe=>by
 have h:=congrArg (λx=>(L x).head?) e;rw[Mr] at h;have e1:L (Str.ofString "zone ")=[122,111,110,101,32]:=by trivial
 have e2:L (Str.ofString "loop")=[108,111,111,112]:=by trivial
 have h:(L (Str.ofString "zone ")++jnS (L " ") (L z.name::z.adr.map Bd)).head?=(L (Str.ofString "loop")).head?:=h;rw[e1,e2] at h;exact absurd (QbK h) (by decide)
theorem Rg {p:Place} (h:En p):S (Bw p)≠"loop":=λe=>by
 obtain⟨c,t,ec,h1,h2⟩:=Nf h;have e2:L (Str.ofString "loop")=[108,111,111,112]:=by trivial
 have h:(Bw p).head?=(L (Str.ofString "loop")).head?:=congrArg (λx=>(L x).head?) e;rw[ec,e2] at h;exact h2 (QbK h)
theorem aq (a:Int):Txt.partition (S (L "most "++Bd a)) " "=(S (L "most"),(" ":Str),S (Bd a)):=by
 have e:L "most"++L (Str.ofString " ")=L "most ":=by trivial
 rw[<-e,Qbe];refine K6 (j:=0) (m:=32) (by rw[show L (Str.ofString " ")=[32] from Bv.1];rfl) (λi hi=>absurd hi (QbO _)) (by trivial)
section
variable {P:Program} {w:World} {K:YD} {mg:YB} {base:Heap} {op oe:Addr}
inductive cT (K:YD) (vs:YG) (H:Hp) (Q:VK) (E:XK):Prop
 | mk (p:Addr) (most:Int) (ja:YU) (jp:List Zone) (_:vs=[.ref p]) (_:H p=some (.lst (vS (CP most ja jp)))) (_:PlF most ja jp) (_:∀pl H',PlL K H' pl most ja jp->Same H H'->Q (.ref pl) H'):cT K vs H Q E
theorem Vf (C:Code K mg "read_rows" Ku Gz) (T:Tf K mg op oe) (Fp:Good P w K mg base "read_number" 1 Du Uq) (VL:Good P w K mg base "read_place" 3 FT (cU K)) (WD:Good P w K mg base "read_zone" 2 Gy cR):Good P w K mg base "read_rows" 4 Gz (cT K):=by
 refine C.good DQ (λvs H Q E h=>?_) (λf cdv A outer s H vs Q E hr h=>?_)
 ·obtain⟨pl,most,ja,jp,rfl,_⟩:=h;rfl
 obtain⟨p,most,ja,jp,rfl,hp,pf,q⟩:=h;refine⟨_,(@Af _ _ _ _ _ (@Az _ _ 1 _ _ _ _ DQ.nd rfl (Or.inl rfl) (Cp Ab) (by rfl) (by first | exact .inl rfl | exact .inr rfl))
 (@Af _ _ _ _ _ (@Az _ _ 2 _ _ _ _ DQ.nd rfl (Or.inl rfl) (Cp Ab) (by rfl) (by first | exact .inl rfl | exact .inr rfl))
 (@Af _ _ _ _ _ (Cw QbJ rfl (Ed (FP Q9 (pv 0) (Hf Ae) Hg)) (Ah (i:=3) DQ.nd rfl (Or.inl rfl))
 (@Ai _ _ _ (Cj (BX Gm (pv 3) Bb (Cd _)) (@Ai _ _ _ (Cr (BR Qap Qak Qal Ce (pv 1) (Aa (Cp Ab) Ab)))) (@Ai _ _ _ (Cj (Dd (BR Qav PySem.F.slot_str_startswith PySem.F.type_str_startswith Tt (pv 3) (Aa Bb Ab))) (@Ai _ _ _ (Cr (BR Qap Qak Qal Ce (pv 2) (Aa (BJ WD hr (Aa (pv 3) Ab)) Ab)))) (@Ai _ _ _ (Cj (O7 (pv 1) (λ_=>rfl)) (@Ai _ _ _ (Cr (BR Qap Qak Qal Ce (@Cu _ _ _ _ _ _ _ CJ (pv 1) (T4 Qj Ae) (λ_ _=>rfl)) (Aa (BJ VL hr (Aa (pv 3) Ab)) Ab)))) (@Ai _ _ _ (@Ba _ _ _ _ Z4)))))))))
 (@Af _ _ _ _ _ (DR (BR Qav PySem.F.slot_str_partition PySem.F.type_str_partition JV (@Cu _ _ _ _ _ _ _ CJ (pv 0) Ae (λ_ _=>rfl)) (Aa Bb Ab)) (CN rfl (Aj (Ah (i:=4) DQ.nd rfl (Or.inl rfl)) (Aj (Ah (i:=5) DQ.nd rfl (Or.inl rfl)) (Aj (Ah (i:=6) DQ.nd rfl (Or.inl rfl)) Bp)))))
 (@Ai _ _ _ (@Ba _ _ _ _ (BZ (Aa (BJ Fp hr (Aa (pv 6) Ab)) (Aa (Bo Bm rfl T.tuple Cm (Aa (BP (N':=["places"]) rfl (Bh.plain rfl (by trivial) (by trivial) (by trivial)) (Ed (pv 1)) (λ_ _ _ _=>(Ah (i:=0) (show List.Nodup (["places"]:YF) by trivial) rfl (Or.inl rfl))) (λ_ _ _ _=>Cy) (λ_ _ _ _=>(Bo (RK (K:=K) rfl) rfl T.tuple Cm (Aa (pv 0) Ab)))) Ab)) (Aa (Bo Bm rfl T.tuple Cm (Aa (pv 2) Ab)) Ab)))))))))),?_⟩
 show let R0:TS:=_;let R1:TS:=Am _ R0;let R2:TS:=_;let R3:TS:=_;let R4:TS:=_;let R5:TS:=Hj _ R4 _;let R6:TS:=Hj _ R3 R5;let R7:TS:=Hj _ R2 R6;let R8:TS:=Am (Dy _ _ R7) R1;let R9:TS:=Am _ R8;Am _ R9 _ _ _;intro R0 R1 R2 R3 R4 R5 R6 R7 R8 R9;have mb:1<=most/\most<=99:=⟨pf.mo.1,by have:=pf.mo.2;omega⟩;have rl:=JL pf;generalize hst:L2.start _ _=σ0;have e0:σ0=[js p,none,none,none,none,none,none]:=hst.symm;clear hst;subst e0;refine⟨Aw (by show 0<=1000;decide),λlp hlp=>?_⟩;simp only[QaP,QaO];have s1:=Ad hlp (.lst []);have c1:upd H lp (.lst []) lp=some (.lst []):=Ac;generalize upd H lp (.lst [])=H1 at *;refine⟨Aw (by show 0<=1000;decide),λlz hlz=>?_⟩;simp only[QaP,QaO];have nlz:lp≠lz:=Ao c1 hlz;have s2:=Ad hlz (.lst []);have c2:upd H1 lz (.lst []) lz=some (.lst []):=Ac;have c1:=s2 _ _ c1;have fz:H lz=none:=by
  cases e:H lz with
  | none=>rfl
  | some o=>rw[s1 _ _ e] at hlz;cases hlz
 have s12:=s1.trans s2;generalize upd H1 lz (.lst [])=H2 at *;refine⟨_,rq,_,rq,p,_,rq,SqL.of (s12 _ _ hp),λp2 hp2=>?_⟩;have ev:Fz (vS (CP most ja jp)) (some 1) none=(Jm ja jp).map λr=>V.str (S r.txt):=by
  rw[show (some (1:Int))=some ((1:Nat):Int) from rfl,Ma (by show 1<=_+1;omega)]
  show vS (ja.flatMap Br++jp.map CV)=_;rw[<-Li];unfold vS;rw[List.map_map];rfl
 rw[ev];have lrs:(Jm ja jp).length<=49:=by
  have h1:=congrArg List.length (Li ja jp);rw[QbF] at h1;have h2:(CP most ja jp).length=(ja.flatMap Br++jp.map CV).length+1:=rfl;omega
 have np2:p2≠lp/\p2≠lz:=⟨(Ao c1 hp2).symm,(Ao c2 hp2).symm⟩;have s3:=Ad hp2 (.lst ((Jm ja jp).map λr=>V.str (S r.txt)));have c3:upd H2 p2 (.lst ((Jm ja jp).map λr=>V.str (S r.txt))) p2=some (.lst ((Jm ja jp).map λr=>V.str (S r.txt))):=Ac;have c1:=s3 _ _ c1;have c2:=s3 _ _ c2;have jX:=s12.trans s3;generalize upd H2 p2 (.lst ((Jm ja jp).map λr=>V.str (S r.txt)))=H3 at *;generalize hrs:Jm ja jp=rs at *;refine⟨p2,rq,⟨_,SqL.of c3⟩,?_⟩;have rok:∀i r,rs[i]?=some r->(∀p,r=.pl p->En p/\i≠0)/\∀z,r=.zn z->ZnB z:=λi r hi=>by
  have hm:=QaC hi;rw[<-hrs] at hm hi;refine⟨λp e=>⟨?_,λz=>?_⟩,λz e=>?_⟩
  ·subst e;rcases QbG.mp hm with hm | hm
   ·obtain⟨ps,hps,hm⟩:=Qbz.mp hm;rcases Qcc.mp hm with hm | hm
    ·cases hm
    ·obtain⟨p',hp',e⟩:=Qcm.mp hm;cases e;exact pf.place hps hp'
   ·obtain⟨z,_,e⟩:=Qcm.mp hm;cases e
  ·subst z e;have lo:=pf.lo;cases el:ja with
   | nil=>rw[el] at lo;exact absurd lo (by decide)
   | cons ps lr=>
    rw[el] at hi;have hi:some Rw.lp=some (Rw.pl p):=hi;cases hi
  ·subst e;rcases QbG.mp hm with hm | hm
   ·obtain⟨ps,hps,hm⟩:=Qbz.mp hm;rcases Qcc.mp hm with hm | hm
    ·cases hm
    ·obtain⟨p',hp',e⟩:=Qcm.mp hm;cases e
   ·obtain⟨z',hz',e⟩:=Qcm.mp hm;cases e;exact pf.zb _ hz'
 have first:∀i,i≠0->i<=rs.length->(foR (rs.take i)).1≠[]:=λi hi hl=>by
  have lo:=pf.lo;rw[<-hrs] at hl ⊢;cases el:ja with
  | nil=>rw[el] at lo;exact absurd lo (by decide)
  | cons ps lr=>
   obtain⟨j,rfl⟩ : ∃j,i=j+1:=⟨i - 1,by omega⟩;show (List.foldl stR ([[]],[]) _).1≠[];exact aZ _ _ (QbC _ _)
 have lens:∀i,i<=rs.length->(foR (rs.take i)).1.length<=49/\(foR (rs.take i)).2.length<=49/\∀ps∈(foR (rs.take i)).1,ps.length<=49:=λi hi=>by
  have h:=VP (rs.take i) ([],[]);rw[Qbv] at h;refine⟨?_,?_,λps hps=>?_⟩
  ·have:=h.1;show (List.foldl stR ([],[]) _).1.length<=49;simp only[List.length_nil] at this;omega
  ·have:=h.2.1;show (List.foldl stR ([],[]) _).2.length<=49;simp only[List.length_nil] at this;omega
  ·have:=h.2.2 0 (λps hps=>by cases hps) ps hps;omega
 refine Ka (xs:=rs.map λr=>V.str (S r.txt)) (λi U HX=>i<=rs.length/\∃(u3:Option V) (as:List Addr) (zv:YG),U=[js p,js lp,js lz,u3,none,none,none]/\HX lp=some (.lst (as.map V.ref))/\Ny K HX as (foR (rs.take i)).1/\(as.Nodup/\(∀a∈as,H3 a=none))/\HX lz=some (.lst zv)/\Paired (CT HX) zv (foR (rs.take i)).2/\Bs lp lz H3 HX) ⟨Qcs _,_,[],[],rq,c1,.nil,⟨QbZ,(λa ha=>by cases ha)⟩,c2,.nil,Bs.of (Same.refl _)⟩ (λi U HX _ h=>?_) (λi x U HX hx h=>?_) (fun U HX h=>?_)
 ·obtain⟨_,_,as,zv,rfl,h1,h2,h3,h4,h5,h6⟩:=h;exact SqL.of (h6 _ _ c3 np2.1 np2.2)
 ·obtain⟨hil,_,as,zv,rfl,h1,h2,h3,h4,h5,h6⟩:=h;simp only[QaP,QaO];rw[Qbf] at hx;obtain⟨r,hr,rfl⟩:=Qau.mp hx;have hi:=(Qaf.mp hr).1;obtain⟨ok1,ok2⟩:=rok i r hr;obtain⟨n1,n2,n3⟩:=lens i hil;have tk:=QcB hr;have fo:foR (rs.take (i+1))=stR (foR (rs.take i)) r:=by rw[tk,fL]
  have las:=Qcd h2;have lzv:=Qcd h5;have ane:∀a∈as,a≠lp/\a≠lz:=λa ha=>⟨λz=>(by rw[z] at ha;have:=h3.2 lp ha;rw[c1] at this;cases this),λz=>(by rw[z] at ha;have:=h3.2 lz ha;rw[c2] at this;cases this)⟩;cases r with
  | lp=>
   refine⟨_,rq,rq,_,rq,ifS (λ_=>?_) (λe=>absurd rfl e)⟩;refine⟨_,rq,.inl ⟨rq,_,SqL.of h1⟩,Aw (by show 0<=1000;decide),λl0 hl0=>?_⟩;have w1:=Ad hl0 (.lst []);have d0:upd HX l0 (.lst []) l0=some (.lst []):=Ac;have n0:lp≠l0:=Ao h1 hl0;have m0:lz≠l0:=Ao h4 hl0;generalize upd HX l0 (.lst [])=HY at *;have h1':=w1 _ _ h1;refine⟨lp,_,_,rq,rq,h1',Aq (by rw[QbF];omega),?_⟩;have tv:Ak HX (upd HY lp (.lst (as.map V.ref++[.ref l0]))):=Ak.trans (Ak.of w1) ((Ag.upd (b:=lp)).tup λxs z=>by rw[h1'] at z;cases z);have h30:H3 l0=none:=by
    cases e:H3 l0 with
    | none=>rfl
    | some o=>rw[h6 _ _ e n0.symm m0.symm] at hl0;cases hl0
   refine⟨hi,_,as++[l0],zv,rq,by rw[Ac,QbH];rfl,?_,⟨?_,λa ha=>?_⟩,by rw[Ar nlz.symm];exact w1 _ _ h4,?_,?_⟩
   ·rw[fo];refine Qct ⟨[],by rw[Ar n0.symm];exact d0,.nil⟩ (h2.keep tv λa ha o e=>?_);rw[Ar (ane a ha).1];exact w1 _ _ e
   ·refine Qbp.mpr ⟨h3.1,(by simp),λa ha b hb e=>?_⟩;rw[QaR.mp hb] at e;subst e;obtain⟨k,hk⟩:=QaF ha;obtain⟨_,_,_,e,_⟩:=Paired.Dh h2 hk;rw[hl0] at e;cases e
   ·rcases QbG.mp ha with z | z
    ·exact h3.2 a z
    ·rw[QaR.mp z];exact h30
   ·rw[fo];exact Paired.Bg h5 λ_ _ z=>z.tups tv
   ·exact (h6.trans (Bs.of w1)).trans (Bs.l Ag.upd)
  | zn z=>
   have zb:=ok2 z rfl;refine⟨_,rq,rq,_,rq,ifS (λe=>absurd e (QT z)) (λ_=>?_)⟩;refine⟨_,rq,rq,_,_,rq,rq,_,rq,eZ (cO (r:=jnS (L " ") (L z.name::z.adr.map Bd)) (Mr z)) ?_⟩;refine⟨_,rq,.inl ⟨rq,_,SqL.of h4⟩,_,rq,z,rq,zb,λx HY hx sy=>?_⟩;have h4':=sy _ _ h4;refine⟨lz,_,_,rq,rq,h4',Aq (by omega),?_⟩;have tv:Ak HY (upd HY lz (.lst (zv++[x]))):=(Ag.upd (b:=lz)).tup λxs z=>by rw[h4'] at z;cases z
   have tv2:=Ak.trans (Ak.of sy) tv;refine⟨hi,_,as,zv++[x],rq,by rw[Ar nlz];exact sy _ _ h1,?_,h3,Ac,?_,(h6.trans (Bs.of sy)).trans (Bs.r Ag.upd)⟩
   ·rw[fo];refine h2.keep tv2 λa ha o e=>?_;rw[Ar (ane a ha).2];exact sy _ _ e
   ·rw[fo];exact Qct (hx.tups tv) (Paired.Bg h5 λ_ _ z=>z.tups tv2)
  | pl pc=>
   obtain⟨pb,i0⟩:=ok1 pc rfl;have ne:=first i i0 hil
   refine⟨_,rq,rq,_,rq,ifS (λe=>absurd e (Rg pb)) (λ_=>?_)⟩;obtain⟨c,t,ec,hc1,hc2⟩:=Nf pb;have ns:Txt.startswith (S (Bw pc)) "zone "=false:=by
    rw[ec];exact cP (d:=122) (t:=[111,110,101,32]) (by trivial) hc1
   refine⟨_,rq,rq,_,_,rq,rq,_,rq,RD ns ?_⟩;rcases List.eq_nil_or_concat as with z |⟨as0,a,z⟩
   ·subst z;exact absurd (Qas.mp las.symm) ne
   rw[List.concat_eq_append] at z;subst z;refine⟨_,rq,_,.inl ⟨_,SqL.of h1,rq⟩,eZ (by rw[QbH];cases as0 <;> rfl) ?_⟩;obtain⟨l0,ps,e0,q0,vs,e1,q1⟩:=Paired.Zu h2;have nps:ps.length<=49:=n3 ps (by rw[e0];exact Qax _ (QaR.mpr rfl));have lvs:=Qcd q1;refine⟨_,rq,_,rq,lp,_,_,V.ref a,rq,rq,SqL.of h1,(by rw[QbH];exact Wf _ _),.inl ⟨rq,_,SqL.of e1⟩,_,rq,pc,rq,pb,λx HY hx sy=>?_⟩;have e1':=sy _ _ e1;refine⟨a,_,_,rq,rq,e1',Aq (by omega),?_⟩;have tv:Ak HY (upd HY a (.lst (vs++[x]))):=(Ag.upd (b:=a)).tup λxs z=>by rw[e1'] at z;cases z
   have tv2:=Ak.trans (Ak.of sy) tv;have am:a∈as0++[a]:=Qax _ (QaR.mpr rfl);obtain⟨a1,a2⟩:=ane a am;refine⟨hi,_,as0++[a],zv,rq,by rw[Ar a1.symm];exact sy _ _ h1,?_,h3,by rw[Ar a2.symm];exact sy _ _ h4,?_,?_⟩
   ·rw[fo];show Ny K _ _ (Nv _ _);rw[e0,Nu];refine Qct ⟨_,Ac,Qct (hx.tups tv) (Paired.Bg q1 λ_ _ z=>z.tups tv2)⟩ (Ny.keep q0 tv2 λb hb o e=>?_);rw[Ar (λz=>(Qbp.mp h3.1).2.2 b hb a (QaR.mpr rfl) z)];exact sy _ _ e
   ·rw[fo];exact Paired.Bg h5 λ_ _ z=>z.tups tv2
   ·exact λc o e n m=>by
     rw[Ar (λz=>by rw[z,h3.2 a am] at e;cases e)];exact sy _ _ (h6 _ _ e n m)
 obtain⟨_,_,as,zv,rfl,h1,h2,h3,h4,h5,h6⟩:=h;rw[QbF,Qbw,<-hrs,RJ] at h2 h5;have h2:Ny K HX as ja:=h2;have h5:Paired (CT HX) zv jp:=h5;simp only[QaP,QaO];have hpX:HX p=some (.lst (vS (CP most ja jp))):=h6 _ _ (jX _ _ hp) (Ao hp hlp) (Ao hp fz);have sHX:Same H HX:=λc o e=>h6 _ _ (jX _ _ e) (Ao e hlp) (Ao e fz);have wG:=rl.2 (L "most "++Bd most) QaQ;refine⟨_,rq,p,_,_,.str (S (L "most "++Bd most)),rq,rq,SqL.of hpX,Fy (j:=0) rfl,rq,S (L "most "++Bd most)," ",rq,rq,by trivial,szb (by rw[Dz];omega),λp3 hp3=>?_⟩;rw[aq];have t3:=Ad hp3 (.tup [.str (S (L "most")),.str (" ":Str),.str (S (Bd most))]);refine⟨p3,_,rq,SqT.of Ac,rq,_,_,rq,_,_,rq,_,_,rq,rq,?_⟩;simp only[QaP,QaO];generalize upd HX p3 (.tup [.str (S (L "most")),.str (" ":Str),.str (S (Bd most))])=HY at *;refine⟨_,rq,most,rq,mb,λH4 s4=>?_⟩;have t4:=t3.trans s4;have h1:=t4 _ _ h1;have h4:=t4 _ _ h4;have h2:Ny K H4 as ja:=h2.keep (Ak.of t4) λa ha o e=>t4 _ _ e;have h5:Paired (CT H4) zv jp:=Paired.Bg h5 λ_ _ z=>z.tups (Ak.of t4);refine⟨_,rq,lp,rq,⟨_,SqL.of h1⟩,λl hl=>?_⟩;have las:=Qcd h2;let J0:YN:=λi U HZ=>∃(u:Option V) (ys:YG),U=[u]/\HZ l=some (.lst ys)/\Paired (Jx K HZ) ys (ja.take i)/\Same H4 HZ;refine Gb (xs:=as.map V.ref) J0 ⟨none,[],rq,Ac,.nil,Ad hl _⟩ (λi U HZ _ h=>?_) (λi x U HZ hx h=>?_) (fun U HZ h=>?_)
 ·obtain⟨_,_,rfl,_,_,s⟩:=h;exact SqL.of (s _ _ h1)
 ·obtain⟨_,ys,rfl,ey,py,s⟩:=h;rw[Qbf] at hx;obtain⟨a,ha,rfl⟩:=Qau.mp hx;obtain⟨ps,hps,vs,ev,pv⟩:=Paired.Dh h2 ha;have l3:=pf.ok.hi;have yl:=Qcd py;rw[Qbv] at yl;unfold FJ;dsimp only;refine BK ⟨_,rq,a,_,rq,.inl ⟨SqL.of (s _ _ ev),λt ht=>?_⟩⟩;have st:=Ad ht (.tup vs);have ct:upd HZ t (.tup vs) t=some (.tup vs):=Ac;generalize upd HZ t (.tup vs)=HW at *;have ey':=st _ _ ey;have tv:Ak HW (upd HW l (.lst (ys++[.ref t]))):=(Ag.upd (b:=l)).tup λxs z=>by rw[ey'] at z;cases z
  have tv2:=Ak.trans (Ak.of st) tv;refine⟨ys,ey',Aq (by omega),_,_,rq,Ac,?_,(s.trans st).Dc Ag.upd hl⟩;rw[QcB hps];exact Qct ⟨t,vs,rq,tv _ _ ct,Paired.Bg pv λ_ _ z=>z.tups (Ak.trans (Ak.of s) tv2)⟩ (Paired.Bg py λ_ _ z=>z.tups tv2)
 obtain⟨_,ys,rfl,ey,py,s⟩:=h;rw[QbF,las,Qbw] at py;refine⟨l,_,rq,.inl ⟨SqL.of ey,λt1 ht1=>?_⟩⟩;have w1:=Ad ht1 (.tup ys);have d1:upd HZ t1 (.tup ys) t1=some (.tup ys):=Ac;generalize upd HZ t1 (.tup ys)=HA at *;refine⟨_,rq,lz,_,rq,.inl ⟨SqL.of (w1 _ _ (s _ _ h4)),λt2 ht2=>⟨Aw (by show 3<=1000;decide),λt5 ht5=>?_⟩⟩⟩;have w2:=Ad ht2 (.tup zv);have w3:=Ad ht5 (.tup [.int most,.ref t1,.ref t2]);have w23:=w2.trans w3;exact q t5 _ ⟨t1,t2,ys,zv,Ac,w23 _ _ d1,Paired.Bg py λ_ _ z=>z.tups (Ak.of (w1.trans w23)),w3 _ _ Ac,Paired.Bg h5 λ_ _ z=>z.tups (Ak.of (s.trans (w1.trans w23)))⟩ (sHX.trans (t4.trans (s.trans (w1.trans w23))))
end
abbrev Kv:Stmt:=top 35
abbrev GC:YF:=Fb
theorem MP:Bc ["thing","plan"] GC (Al Kv):=by ac_rfl
theorem RB {y:List Nat} {c:Nat}:∀{ps:List (List Nat)},c∈jnS y ps->c∈y\/∃p∈ps,c∈p
 | [],h=>by cases h
 | [a],h=>.inr ⟨a,QaQ,h⟩
 | a::b::r,h=>by
  have h:c∈a++(y++jnS y (b::r)):=h;rcases QbG.mp h with h | h
  ·exact .inr ⟨a,QaQ,h⟩
  ·rcases QbG.mp h with h | h
   ·exact .inl h
   ·rcases RB h with h |⟨p,hp,h⟩
    ·exact .inl h
    ·exact .inr ⟨p,QaD _ hp,h⟩
theorem iI {p:Place} (h:En p):10∉Bw p:=λhc=>by
 obtain⟨l1,l2,l3,l4,l5,_⟩:=Bv;by_cases k:V.str p.kind=V.str "opener"
 ·unfold Bw at hc;rw[if_pos k,l5] at hc;exact absurd hc (by decide)
 obtain⟨d0,ds⟩:=h.dev k;rw[G4 k] at hc;split at hc
 ·exact (La (K9 d0 _ hc)).2.2 rfl
 ·rcases QbG.mp hc with hc | hc
  ·exact (La (K9 d0 _ hc)).2.2 rfl
  ·rcases QbG.mp hc with hc | hc
   ·rw[l3] at hc;exact absurd hc (by decide)
   ·rcases RB hc with hc |⟨q,hq,hc⟩
    ·rw[l2] at hc;exact absurd hc (by decide)
    ·obtain⟨d,hd,rfl⟩:=Qcm.mp hq;exact (La (K9 (ds d hd) _ hc)).2.2 rfl
theorem gZ {z:Zone} (h:ZnB z):10∉CV z:=λhc=>by
 rcases RB (ps:=JC z) hc with hc |⟨q,hq,hc⟩
 ·rw[Bv.1] at hc;exact absurd hc (by decide)
 ·have:=Zn h q hq _ hc;unfold GQ at this;omega
theorem Xj {most:Int} {ja:YU} {jp:List Zone} (h:PlF most ja jp):∀r∈CP most ja jp,10∉r:=λr hr hc=>by
 obtain⟨l1,l2,l3,l4,l5,l6,l7,l8⟩:=Bv;rcases Qcc.mp hr with rfl | hr
 ·rcases QbG.mp hc with hc | hc
  ·rw[l7] at hc;exact absurd hc (by decide)
  ·have:=Nj (a:=most) ⟨h.mo.1,by have:=h.mo.2;omega⟩ _ hc;omega
 ·rcases QbG.mp hr with hr | hr
  ·obtain⟨ps,hps,hr⟩:=Qbz.mp hr;rcases Qcc.mp hr with rfl | hr
   ·rw[l6] at hc;exact absurd hc (by decide)
   ·obtain⟨p,hp,rfl⟩:=Qcm.mp hr;exact iI (h.place hps hp) hc
  ·obtain⟨z,hz,rfl⟩:=Qcm.mp hr;exact gZ (h.zb z hz) hc
theorem Pj {y:List Nat}:∀rows:List (List Nat),jnS y (rows++[[]])=(rows.map λr=>r++y).flatten
 | []=>rfl
 | [a]=>by show a++(y++[])=(a++y)++[];rw[Qbe]
 | a::b::r=>by
  show a++(y++jnS y ((b::r)++[[]]))=(a++y)++((b::r).map λr=>r++y).flatten;rw[Pj (b::r),Qbe]
theorem fU {xs:YG} {x:V}:Fz (xs++[x]) none (some (-1))=xs:=by
 unfold Fz;have e:HT.sIx (xs++[x]).length (xs++[x]).length (some (-1))=xs.length:=by
  show (if (-1:Int) < 0 then ((-1:Int)+((xs++[x]).length:Int)).toNat else min (-1:Int).toNat (xs++[x]).length)=_
  rw[if_pos (by decide),QaN,QaA];omega
 rw[HT.O6,e,List.drop_zero,Nat.sub_zero];exact QbW rfl
theorem dF {most:Int} {ja:YU} {jp:List Zone} (h:PlF most ja jp):(Eh most ja jp).length<=14550:=by
 obtain⟨h1,h2⟩:=JL h;have l4:=Bv.2.2.2.1;have:=KR (f:=λr:List Nat=>r.length) (m:=291) (ys:=(CP most ja jp).map λr=>r++L "\n") λx hx=>by
  obtain⟨r,hr,rfl⟩:=Qcm.mp hx;have:=h2 r hr;rw[l4,QaN];show _+1<=_;omega
 unfold Eh;rw[List.length_flatten];rw[QbF] at this;exact Qcn this (by omega)
theorem Z1 {most:Int} {ja:YU} {jp:List Zone}:Txt.endswith (S (Eh most ja jp)) "\n"=true:=by
 have ne:CP most ja jp≠[]:=QbC _ _;have e:=List.dropLast_concat_getLast ne;unfold Eh;rw[<-e,QbH,List.flatten_append];have:([(CP most ja jp).getLast ne].map λr=>r++L "\n").flatten=(CP most ja jp).getLast ne++L "\n":=by rw[List.map_singleton,List.flatten_singleton]
 rw[this,<-Qbe];exact mR _
section
variable {P:Program} {w:World} {K:YD} {mg:YB} {base:Heap} {op oe:Addr}
inductive Yc (K:YD) (vs:YG) (H:Hp) (Q:VK) (E:XK):Prop
 | mk (most:Int) (ja:YU) (jp:List Zone) (_:vs=[.str (S (Eh most ja jp))]) (_:PlF most ja jp) (_:∀pl H',PlL K H' pl most ja jp->Same H H'->Q (.ref pl) H'):Yc K vs H Q E
theorem Vg (C:Code K mg "read_plan" Kv GC) (T:Tf K mg op oe) (WK:Good P w K mg base "read_rows" 4 Gz (cT K)) (aU:Good P w K mg base "is_plan" 9 Jb (Q5 K)) (GP:Good P w K mg base "show_plan" 2 Fw (Gi K)):Good P w K mg base "read_plan" 10 GC (Yc K):=by
 refine C.good MP (λvs H Q E h=>?_) (λf cdv A outer s H vs Q E hr h=>?_)
 ·obtain⟨pl,most,ja,rfl,_⟩:=h;rfl
 obtain⟨most,ja,jp,rfl,pf,q⟩:=h;refine⟨_,(Af (Cj (PW.pt (Ip (Dw (Dd (Ay Kd rfl T.isinstance Cg (Aa (pv 0) (Aa (Eu (v:=.ty "str") rfl T.str Hy rfl) Ab))))) (Iw (Dw (Dd (BR Qav PySem.F.slot_str_endswith PySem.F.type_str_endswith Wt (pv 0) (Aa Bb Ab))))))) (Ai U5) BL)
 (Af (Az (i:=1) MP.nd rfl (Or.inl rfl) (BJ WK hr (Aa (FP Q9 (BR Qav PySem.F.slot_str_split PySem.F.type_str_split Pb (pv 0) (Aa Bb Ab)) Hg (Hf (T4 Qj Ae))) Ab)))
 (Af (Cj (PW.pt (Ip (Dw (Dd (BJ aU hr (Aa (pv 1) Ab)))) (Iw (BX Qw (BJ GP hr (Aa (pv 1) Ab)) (pv 0) (Cd _))))) (Ai U5) BL)
 (Ai (Ba (pv 1)))))),?_⟩
 show let R0:TS:=Am _ _;let R1:TS:=Am _ R0;Am _ R1 _ _ _;intro R0 R1;have en:=Z1 (most:=most) (ja:=ja) (jp:=jp);have tl:=dF pf;have sp:Txt.split (S (Eh most ja jp)) "\n"=(CP most ja jp++[[]]).map S:=by
  have l4:=Bv.2.2.2.1;have:=Ie (y:="\n") (c0:=10) (t:=[]) (by trivial) l4 (ps:=CP most ja jp++[[]]) (by simp) (λr hr=>by
   rcases QbG.mp hr with z | z
   ·exact Xj pf r z
   ·rw[QaR.mp z];exact λz=>by cases z)
  rw[Pj] at this;exact this
 refine⟨_,rq,Xr ⟨_,rq,Dn ⟨_,rq,rq,_,_,rq,rq,_,rq,RD (by rw[en];rfl) ?_⟩⟩⟩;refine⟨_,rq,rq,S (Eh most ja jp),"\n",rq,rq,by trivial,Qcn (by rw[Dz];show _<=100000;omega) NP,λp1 hp1=>?_⟩;rw[sp];have ev:((CP most ja jp++[[]]).map S).map V.str=vS (CP most ja jp)++[.str (S [])]:=by rw[List.map_map,QbH];rfl
 rw[ev];have s1:=Ad hp1 (.lst (vS (CP most ja jp)++[.str (S [])]));have c1:upd H p1 (.lst (vS (CP most ja jp)++[.str (S [])])) p1=some (.lst (vS (CP most ja jp)++[.str (S [])])):=Ac;generalize upd H p1 (.lst (vS (CP most ja jp)++[.str (S [])]))=H1 at *;refine⟨_,rq,_,rq,p1,_,rq,SqL.of c1,λp2 hp2=>?_⟩;rw[fU];have s2:=Ad hp2 (.lst (vS (CP most ja jp)));refine⟨p2,most,ja,jp,rq,Ac,pf,λpl H3 hpl s3=>?_⟩;have s13:=s1.trans (s2.trans s3);refine⟨_,rq,pl,most,ja,jp,rq,{ toPlF:=pf,at_:=hpl },λH4 s4=>⟨_,rq,Dn ?_⟩⟩;have lQ:=hpl.tups (Ak.of s4);refine⟨_,rq,pl,most,ja,jp,rq,{ toPlF:=pf,at_:=lQ },λH5 s5=>⟨_,rq,rq,_,rq,RD (by simp) ?_⟩⟩;exact⟨_,rq,q pl _ (lQ.tups (Ak.of s5)) (s13.trans (s4.trans s5))⟩
end
abbrev Jl:Stmt:=top 44
abbrev Fi:YF:=["_law_plan_here"]
theorem Ax:Bc ["_law_plan_here","_law_most","_law_loops","_law_zones","_law_text","_law_places","_law_kind","_law_address","_law_spur","_law_row","_law_between","_law_other","_law_number","_law_name_here","_law_addresses"] Fi (Al Jl):=by ac_rfl
theorem kwt:L (Str.ofString "loop\n")=L "loop"++L "\n"/\L (Str.ofString "zone ")=L "zone"++L " "/\(Str.ofString "loop\n").length=5/\(Str.ofString "zone ").length=5:=by trivial
def Fo (rows:List (List Nat)):List Nat:=(rows.map λr=>r++L "\n").flatten
theorem KJ (a:List (List Nat)) (r:List Nat):Fo (a++[r])=Fo a++(r++L "\n"):=by
 unfold Fo;rw[QbH,List.flatten_append,List.map_singleton,List.flatten_singleton]
theorem YW {m:Nat} {rows:List (List Nat)} (h:∀r∈rows,r.length<=m):(Fo rows).length<=(m+1)*rows.length:=by
 have l4:=Bv.2.2.2.1;have:=KR (f:=λr:List Nat=>r.length) (m:=m+1) (ys:=rows.map λr=>r++L "\n") λx hx=>by
  obtain⟨r,hr,rfl⟩:=Qcm.mp hx;have:=h r hr;rw[l4,QaN];show _+1<=_;omega
 rw[QbF] at this;unfold Fo;rw[List.length_flatten];exact this
def jnD:List Dev->List Nat
 | []=>[]
 | d::r=>L ", "++(Bf d++jnD r)
theorem QB (d:Dev) (r:List Dev):Dg (d::r)=Bf d++jnD r:=by
 induction r generalizing d with
 | nil=>show Bf d=Bf d++[];rw[QbI]
 | cons e r ih=>
  show Bf d++(L ", "++Dg (e::r))=Bf d++(L ", "++(Bf e++jnD r));rw[ih]
theorem eV (l:List Dev) (d:Dev):jnD (l++[d])=jnD l++(L ", "++Bf d):=by
 induction l with
 | nil=>show L ", "++(Bf d++[])=[]++(L ", "++Bf d);rw[QbI];rfl
 | cons e r ih=>
  show L ", "++(Bf e++jnD (r++[d]))=(L ", "++(Bf e++jnD r))++_;rw[ih];simp only[Qbe]
def QC (ds:List Dev):List Nat:=if ds=[] then [] else L " : "++Dg ds
theorem Y5 (l:List Dev) (d:Dev):QC (l++[d])=QC l++(if l=[] then L " : " else L ", ")++Bf d:=by
 cases l with
 | nil=>show L " : "++Bf d=([]++L " : ")++Bf d;rfl
 | cons e r=>
  show L " : "++Dg (e::(r++[d]))=((L " : "++Dg (e::r))++L ", ")++Bf d;rw[QB,QB,eV];simp only[Qbe]
theorem iH {p:Place} (k:V.str p.kind=V.str "opener"):Bw p=L "opener":=if_pos k
theorem Z0 {p:Place} (k:¬V.str p.kind=V.str "opener"):Bw p=Bf ⟨p.kind,p.addr⟩++QC p.spur:=by
 rw[G4 k];unfold QC;split
 ·rw[QbI]
 ·rfl
section
variable {P:Program} {w:World} {K:YD} {mg:YB} {base:Heap}
theorem Vh (C:Code K mg "_law_plan_text" Jl Fi) (T:Nm mg):Good P w K mg base "_law_plan_text" 1 Fi (Gi K):=by
 refine C.good Ax (λvs H Q E h=>?_) (λf cdv A outer s H vs Q E hr h=>?_)
 ·obtain⟨pl,most,ja,jp,rfl,_⟩:=h;rfl
 obtain⟨pl,most,ja,jp,rfl,pa,q⟩:=h;obtain⟨Ls,zs,ws,zvs,e1,e2,e3,e4,e5⟩:=pa.at_;refine⟨_,(@Af _ _ _ _ _ (DR (pv 0) (CN rfl (Aj (Ah (i:=1) Ax.nd rfl (Or.inl rfl)) (Aj (Ah (i:=2) Ax.nd rfl (Or.inl rfl)) (Aj (Ah (i:=3) Ax.nd rfl (Or.inl rfl)) Bp)))))
 (@Af _ _ _ _ _ (@Az _ _ 4 _ _ _ _ Ax.nd rfl (Or.inl rfl) (@Av _ _ _ _ _ _ _ _ Bu (@Av _ _ _ _ _ _ _ _ Bu Bb (Bo Gd rfl T.str Hy (Aa (pv 1) Ab))) Bb) (by rfl) (by first | exact .inl rfl | exact .inr rfl))
 (@Af _ _ _ _ _ (Cw QbJ rfl (CK (pv 2)) (Ah (i:=5) Ax.nd rfl (Or.inl rfl))
 (@Af _ _ _ _ _ (@Az _ _ 4 _ _ _ _ Ax.nd rfl (Or.inl rfl) (@Av _ _ _ _ _ _ _ _ Bu (pv 4) Bb) (by rfl) (by first | exact .inl rfl | exact .inr rfl))
 (@Ai _ _ _ (Cw QbJ rfl (CK (pv 5)) (CN rfl (Aj (Ah (i:=6) Ax.nd rfl (Or.inl rfl)) (Aj (Ah (i:=7) Ax.nd rfl (Or.inl rfl)) (Aj (Ah (i:=8) Ax.nd rfl (Or.inl rfl)) Bp))))
 (@Af _ _ _ _ _ (@Az _ _ 9 _ _ _ _ Ax.nd rfl (Or.inl rfl) (pv 6) (by rfl) (by first | exact .inl rfl | exact .inr rfl))
 (@Af _ _ _ _ _ (Cj (BX Qw (pv 6) Bb (Cd _)) (@Ai _ _ _ (@Az _ _ 9 _ _ _ _ Ax.nd rfl (Or.inl rfl) (@Av _ _ _ _ _ _ _ _ Bu (@Av _ _ _ _ _ _ _ _ Bu (pv 9) Bb) (Bo Gd rfl T.str Hy (Aa (pv 7) Ab))) (by rfl) (by first | exact .inl rfl | exact .inr rfl))) BL)
 (@Af _ _ _ _ _ (@Az _ _ 10 _ _ _ _ Ax.nd rfl (Or.inl rfl) Bb (by rfl) (by first | exact .inl rfl | exact .inr rfl))
 (@Af _ _ _ _ _ (Cw QbJ rfl (CK (pv 8)) (CN rfl (Aj (Ah (i:=11) Ax.nd rfl (Or.inl rfl)) (Aj (Ah (i:=12) Ax.nd rfl (Or.inl rfl)) Bp)))
 (@Af _ _ _ _ _ (@Az _ _ 9 _ _ _ _ Ax.nd rfl (Or.inl rfl) (@Av _ _ _ _ _ _ _ _ Bu (@Av _ _ _ _ _ _ _ _ Bu (@Av _ _ _ _ _ _ _ _ Bu (@Av _ _ _ _ _ _ _ _ Bu (pv 9) (pv 10)) (pv 11)) Bb) (Bo Gd rfl T.str Hy (Aa (pv 12) Ab))) (by rfl) (by first | exact .inl rfl | exact .inr rfl))
 (@Ai _ _ _ (@Az _ _ 10 _ _ _ _ Ax.nd rfl (Or.inl rfl) Bb (by rfl) (by first | exact .inl rfl | exact .inr rfl)))))
 (@Ai _ _ _ (@Az _ _ 4 _ _ _ _ Ax.nd rfl (Or.inl rfl) (@Av _ _ _ _ _ _ _ _ Bu (@Av _ _ _ _ _ _ _ _ Bu (pv 4) (pv 9)) Bb) (by rfl) (by first | exact .inl rfl | exact .inr rfl)))))))))))
 (@Af _ _ _ _ _ (Cw QbJ rfl (CK (pv 3)) (CN rfl (Aj (Ah (i:=13) Ax.nd rfl (Or.inl rfl)) (Aj (Ah (i:=14) Ax.nd rfl (Or.inl rfl)) Bp)))
 (@Af _ _ _ _ _ (@Az _ _ 4 _ _ _ _ Ax.nd rfl (Or.inl rfl) (@Av _ _ _ _ _ _ _ _ Bu (@Av _ _ _ _ _ _ _ _ Bu (pv 4) Bb) (pv 13)) (by rfl) (by first | exact .inl rfl | exact .inr rfl))
 (@Af _ _ _ _ _ (Cw QbJ rfl (CK (pv 14)) (Ah (i:=7) Ax.nd rfl (Or.inl rfl))
 (@Ai _ _ _ (@Az _ _ 4 _ _ _ _ Ax.nd rfl (Or.inl rfl) (@Av _ _ _ _ _ _ _ _ Bu (@Av _ _ _ _ _ _ _ _ Bu (pv 4) Bb) (Bo Gd rfl T.str Hy (Aa (pv 7) Ab))) (by rfl) (by first | exact .inl rfl | exact .inr rfl))))
 (@Ai _ _ _ (@Az _ _ 4 _ _ _ _ Ax.nd rfl (Or.inl rfl) (@Av _ _ _ _ _ _ _ _ Bu (pv 4) Bb) (by rfl) (by first | exact .inl rfl | exact .inr rfl))))))
 (@Ai _ _ _ (@Ba _ _ _ _ (pv 4))))))),?_⟩
 show let R0:TS:=_;let R1:TS:=_;let R2:TS:=Am (Dy _ _ R1) R0;let R3:TS:=Am _ R2;let R4:TS:=Am (Dy _ _ R3) _;let R5:TS:=_;let R6:TS:=_;let R7:TS:=Am _ R6;let R8:TS:=Am (Dy _ _ R7) R5;let R9:TS:=Am _ R8;let R10:TS:=_;let R11:TS:=Am (Hj _ R10 _) R9;let R12:TS:=Am _ R11;let R13:TS:=Dy _ _ R12;let R14:TS:=Am _ R13;let R15:TS:=Am (Dy _ _ R14) R4;let R16:TS:=Am _ R15;Am _ R16 _ _ _;intro R0 R1 R2 R3 R4 R5 R6 R7 R8 R9 R10 R11 R12 R13 R14 R15 R16;obtain⟨l0,l1,l2,l3,l4,l5,l6,l7,l8,l9⟩:=ll;obtain⟨k1,k2,k3,k4⟩:=kwt;have mb:1<=most/\most<=99:=⟨pa.mo.1,by have:=pa.mo.2;omega⟩;have ml:=DY mb;have pf:=pa.toPlF;have rl:=JL pf;generalize hst:L2.start _ _=σ0;have e0:σ0=[js pl,none,none,none,none,none,none,none,none,none,none,none,none,none,none]:=hst.symm;clear hst;subst e0;refine⟨_,rq,pl,_,rq,SqT.of e1,rq,_,_,rq,_,_,rq,_,_,rq,rq,?_⟩;refine⟨_,rq,most,rq,Ga mb,_,_,rq,rq,szb (by simp only[Qbd,l6];omega),_,_,rq,rq,szb (by simp only[Qbd,l5,l6];omega),?_⟩;simp only[QaP,QaO];have nZ:((L "most "++Bd most):List Nat).length<=290:=rl.2 _ QaQ;have gO:∀ps∈ja,∀r∈Br ps,r.length<=290:=λps hps r hr=>rl.2 _ (QaD _ (QaE _ (Qbz.mpr ⟨ps,hps,hr⟩)));have oZ:∀z∈jp,(CV z).length<=290:=λz hz=>rl.2 _ (QaD _ (Qax _ (Qcm.mpr ⟨z,hz,rq⟩)));have tk:∀i,((ja.take i).flatMap Br).length<=39:=λi=>by
  have h1:=Jw (f:=Br) (m:=13) (l:=ja.take i) λps hps=>Nk (pf.ok.ok ps (QaG hps));have h2:=pf.ok.hi;rw[Qbv] at h1;omega
 have pre:∀i,∀r∈(L "most "++Bd most)::(ja.take i).flatMap Br,r.length<=290:=λi r hr=>by
  rcases Qcc.mp hr with rfl | hr
  ·exact nZ
  ·obtain⟨ps,hps,hr⟩:=Qbz.mp hr;exact gO ps (QaG hps) r hr
 have sz:∀(R:List (List Nat)) (y:Str),(∀r∈R,r.length<=290)->R.length<=60->L y=Fo R->y.length<=17460:=λR y h1 h2 e=>by
  rw[CQ,e];exact Qcn (YW h1) (by omega)
 refine⟨_,rq,Ls,rq,⟨_,SqT.of e2⟩,?_⟩;let J0:YN:=λi U HX=>HX=H/\∃(y:Str) (u5 u6 u7 u8 u9 u10 u11 u12:Option V),U=[js pl,some (.int most),js Ls,js zs,some (.str y),u5,u6,u7,u8,u9,u10,u11,u12,none,none]/\L y=Fo ((L "most "++Bd most)::(ja.take i).flatMap Br);refine Ew (xs:=ws) J0 ⟨rq,_,_,_,_,_,_,_,_,_,rq,?_⟩ (λi U HX _ h=>?_) (λi x U HX hx h=>?_) (fun U HX h=>?_)
 ·simp only[Di];show _=((L "most "++Bd most)++L "\n")++[];rw[QbI];rfl
 ·obtain⟨rfl,_⟩:=h;exact SqT.of e2
 ·obtain⟨rfl,y,u5,u6,u7,u8,u9,u10,u11,u12,rfl,ey⟩:=h;simp only[QaP,QaO];obtain⟨ps,hps,tp,vp,rfl,h1,h2⟩:=Paired.Dh e3 hx;have psm:=QaC hps;have oks:=pf.ok.ok ps psm;have lX:=oks.hi;have tki:=tk i;have yl:=sz _ y (pre i) (by rw[Qbu];omega) ey;refine⟨_,rq,_,_,rq,rq,szb (by omega),?_⟩;simp only[QaP,QaO];refine⟨_,rq,tp,rq,⟨_,SqT.of h1⟩,?_⟩;let J1:YN:=λj U HY=>HY=HX/\∃(y:Str) (u6 u7 u8 u9 u10 u11 u12:Option V),U=[js pl,some (.int most),js Ls,js zs,some (.str y),js tp,u6,u7,u8,u9,u10,u11,u12,none,none]/\L y=Fo (((L "most "++Bd most)::(ja.take i).flatMap Br)++(L "loop"::(ps.take j).map Bw));refine Ew (xs:=vp) J1 ⟨rq,_,_,_,_,_,_,_,_,rq,?_⟩ (λj U HY _ h=>?_) (λj x U HY hx h=>?_) (fun U HY h=>?_)
  ·rw[Di,ey,k1];show _=Fo (((L "most "++Bd most)::(ja.take i).flatMap Br)++[L "loop"]);rw[KJ]
  ·obtain⟨rfl,_⟩:=h;exact SqT.of h1
  ·obtain⟨rfl,y,u6,u7,u8,u9,u10,u11,u12,rfl,ey⟩:=h;simp only[QaP,QaO];obtain⟨p,hp,t,u,ds,rfl,ht,hu,hd⟩:=Paired.Dh h2 hx;have ok:=pf.place psm (QaC hp);have s3:=ok.ok.spur;have lds:=Qcd hd;have tkp:=QcB hp;have yl:=sz _ y (λr hr=>by
    rcases QbG.mp hr with hr | hr
    ·exact pre i r hr
    ·refine gO ps psm r ?_;rcases Qcc.mp hr with rfl | hr
     ·exact QaQ
     ·obtain⟨q,hq,rfl⟩:=Qcm.mp hr;exact QaD _ (Qcm.mpr ⟨q,QaG hq,rq⟩)) (by rw[QaN,Qbu,Qbu,QbF,Qbv];omega) ey
   have fin:∀z:Str,L z=Bw p->L (y++z++Str.ofString "\n")=Fo (((L "most "++Bd most)::(ja.take i).flatMap Br)++(L "loop"::(ps.take (j+1)).map Bw)):=λz ez=>by
    rw[Di,Di,ey,ez,tkp,QbH];show _=Fo (((L "most "++Bd most)::(ja.take i).flatMap Br)++((L "loop"::(ps.take j).map Bw)++[Bw p]));rw[<-Qbe,KJ,Qbe]
   have j6:=O8 ok;refine⟨t,_,rq,ht.sq,rq,_,_,rq,_,_,rq,_,_,rq,rq,?_⟩;simp only[QaP,QaO];refine⟨_,rq,?_⟩;simp only[QaP,QaO];refine⟨_,rq,rq,_,rq,?_⟩;by_cases k:V.str p.kind=V.str "opener"
   ·have esp:p.spur=[]:=by
     rcases ok.ok.form with⟨_,_,f⟩| f
     ·exact f
     ·exact absurd k (Hx f)
    have eds:ds=[]:=Qas.mp (by rw[lds,esp];rfl);subst eds;have ek:L p.kind=Bw p:=by rw[iH k,show p.kind=Str.ofString "opener" by injection k]
    rw[QbX k];refine Dn ?_;simp only[QaP,QaO];refine⟨_,rq,u,rq,⟨_,hu.sq⟩,?_⟩;let J2:YN:=λk' U HZ=>HZ=HY/\U=[js pl,some (.int most),js Ls,js zs,some (.str y),js tp,some (.str p.kind),some (.int p.addr),js u,some (.str p.kind),some (.str (Str.ofString " : ")),u11,u12,none,none];refine Ew (xs:=[]) J2 ⟨rq,rq⟩ (λk' U HZ _ h=>?_) (λk' x U HZ hx h=>by cases hx) (fun U HZ h=>?_)
    ·obtain⟨rfl,_⟩:=h;exact hu.sq
    ·obtain⟨rfl,rfl⟩:=h;have pk:p.kind.length<=60:=by rw[CQ,ek];exact j6
     refine⟨_,rq,_,rq,_,_,rq,rq,szb (by omega),_,_,rq,rq,szb (by simp only[Qbd,l5];omega),?_⟩;exact⟨rq,_,_,_,_,_,_,_,_,rq,fin _ ek⟩
   ·obtain⟨d0,dsp⟩:=ok.dev k;have k6:p.kind.length<=6:=kind_len d0.kind;have n2:(Str.ofString (toString p.addr)).length<=2:=DY d0.bd;have nl:p.addr.natAbs.log2 < 1920:=Ga d0.bd;rw[QbL k];refine BK ?_;refine⟨_,rq,_,_,rq,rq,szb (by simp only[l2];omega),_,rq,p.addr,rq,nl,_,_,rq,rq,szb (by simp only[Qbd,l2];omega),?_⟩;simp only[QaP,QaO];refine⟨_,rq,u,rq,⟨_,hu.sq⟩,?_⟩;let J3:YN:=λk' U HZ=>HZ=HY/\∃(z b:Str) (u11 u12:Option V),U=[js pl,some (.int most),js Ls,js zs,some (.str y),js tp,some (.str p.kind),some (.int p.addr),js u,some (.str z),some (.str b),u11,u12,none,none]/\L z=Bf ⟨p.kind,p.addr⟩++QC (p.spur.take k')/\L b=(if p.spur.take k'=[] then L " : " else L ", ")/\z.length<=9+14*k'
    refine Ew (xs:=ds) J3 ⟨rq,_,_,_,_,rq,?_,rq,?_⟩ (λk' U HZ _ h=>?_) (λk' x U HZ hx h=>?_) (fun U HZ h=>?_)
    ·rw[Di,Di,Qbe];show _=(L p.kind++(L " "++Bd p.addr))++[];rw[QbI];rfl
    ·simp only[Qbd,l2];omega
    ·obtain⟨rfl,_⟩:=h;exact hu.sq
    ·obtain⟨rfl,z,b,u11,u12,rfl,ez,eb,zl⟩:=h;simp only[QaP,QaO];obtain⟨d,hdi,td,rfl,htd⟩:=Paired.Dh hd hx;have dd:=dsp d (QaC hdi);have hk3:k' < 3:=QaU (Qaf.mp hdi).1 s3;have dk6:=kind_len dd.kind;have dn2:=DY dd.bd;have bl:b.length<=3:=by
      rw[CQ,eb];have l43:(L " : ").length=3:=by rw[CQ] at l4;exact l4
      have l32:(L ", ").length=2:=by rw[CQ] at l3;exact l3
      split <;> omega
     refine⟨td,_,rq,SqT.of htd,rq,_,_,rq,_,_,rq,rq,?_⟩;simp only[QaP,QaO];refine⟨_,rq,_,rq,_,_,rq,rq,szb (by omega),_,rq,_,_,rq,rq,szb (by simp only[Qbd];omega),_,_,rq,rq,szb (by simp only[Qbd,l2];omega),_,rq,d.addr,rq,Ga dd.bd,_,_,rq,rq,szb (by simp only[Qbd,l2];omega),?_⟩;simp only[QaP,QaO];refine⟨rq,_,_,_,_,rq,?_,?_,by simp only[Qbd,l2];omega⟩
     ·rw[QcB hdi,Y5];simp only[Di,ez,eb,Qbe];rfl
     ·rw[if_neg (by rw[QcB hdi];simp)]
    ·obtain⟨rfl,z,b,u11,u12,rfl,ez,eb,zl⟩:=h;simp only[QaP,QaO];rw[lds,Qbw,<-Z0 k] at ez;have zl:z.length<=60:=by rw[CQ,ez];exact j6
     refine⟨_,rq,_,rq,_,_,rq,rq,szb (by omega),_,_,rq,rq,szb (by simp only[Qbd,l5];omega),?_⟩;exact⟨rq,_,_,_,_,_,_,_,_,rq,fin _ ez⟩
  ·obtain⟨rfl,y,u6,u7,u8,u9,u10,u11,u12,rfl,ey⟩:=h;rw[Qcd h2,Qbw] at ey;refine⟨rq,_,_,_,_,_,_,_,_,_,rq,?_⟩;rw[ey,QcB hps,QaL];congr 1;show ((L "most "++Bd most)::(ja.take i).flatMap Br)++Br ps=(L "most "++Bd most)::((ja.take i).flatMap Br++(Br ps++[]));rw[QbI];rfl
 obtain⟨rfl,y,u5,u6,u7,u8,u9,u10,u11,u12,rfl,ey⟩:=h;rw[Qcd e3,Qbw] at ey;simp only[QaP,QaO];have lr0:((L "most "++Bd most)::ja.flatMap Br).length<=40:=by
  have:=tk ja.length;rw[Qbw] at this;rw[Qbu];omega
 have pr0:∀r∈(L "most "++Bd most)::ja.flatMap Br,r.length<=290:=by
  have:=pre ja.length;rw[Qbw] at this;exact this
 refine⟨_,rq,zs,rq,⟨_,SqT.of e4⟩,?_⟩;let J4:YN:=λi U HW=>HW=HX/\∃(y:Str) (v5 v6 v7 v8 v9 v10 v11 v12 v13 v14:Option V),U=[js pl,some (.int most),js Ls,js zs,some (.str y),v5,v6,v7,v8,v9,v10,v11,v12,v13,v14]/\L y=Fo (((L "most "++Bd most)::ja.flatMap Br)++(jp.take i).map CV);refine Ew (xs:=zvs) J4 ⟨rq,_,_,_,_,_,_,_,_,_,_,_,rq,?_⟩ (λi U HW _ h=>?_) (λi x U HW hx h=>?_) (fun U HW h=>?_)
 ·rw[ey,List.take_zero,List.map_nil,QbI]
 ·obtain⟨rfl,_⟩:=h;exact SqT.of e4
 ·obtain⟨rfl,y,v5,v6,v7,v8,v9,v10,v11,v12,v13,v14,rfl,ey⟩:=h;simp only[QaP,QaO];obtain⟨z,hz,t,u,rfl,ht,hu⟩:=Paired.Dh e5 hx;have zb:=pf.zb z (QaC hz);have z8:=pf.Mt;have u3:=zb.up.2.2;have n8:=zb.nm.1.2;have yl:=sz _ y (λr hr=>by
   rcases QbG.mp hr with hr | hr
   ·exact pr0 r hr
   ·obtain⟨q,hq,rfl⟩:=Qcm.mp hr;exact oZ q (QaG hq)) (by rw[QaN,QbF,Qbv];omega) ey
  refine⟨t,_,rq,SqT.of ht,rq,_,_,rq,_,_,rq,rq,?_⟩;simp only[QaP,QaO];refine⟨_,rq,_,_,rq,rq,szb (by omega),_,rq,_,_,rq,rq,szb (by simp only[Qbd,k4];omega),?_⟩;simp only[QaP,QaO];refine⟨_,rq,u,rq,⟨_,SqT.of hu⟩,?_⟩;let J5:YN:=λj U HY=>HY=HW/\∃(x:Str) (v7:Option V),U=[js pl,some (.int most),js Ls,js zs,some (.str x),v5,v6,v7,v8,v9,v10,v11,v12,some (.str z.name),js u]/\L x=L y++jnS (L " ") (L "zone"::L z.name::(z.adr.take j).map Bd)/\x.length<=17500+3*j;refine Ew (xs:=z.adr.map V.int) J5 ⟨rq,_,_,rq,?_,by simp only[Qbd,k4];omega⟩ (λj U HY _ h=>?_) (λj x U HY hx h=>?_) (fun U HY h=>?_)
  ·rw[Di,Di,k2,Qbe,Qbe];rfl
  ·obtain⟨rfl,_⟩:=h;exact SqT.of hu
  ·obtain⟨rfl,x,v7,rfl,ex,xl⟩:=h;simp only[QaP,QaO];rw[Qbf] at hx;obtain⟨a,ha,rfl⟩:=Qau.mp hx;have ba:=zb.bd a (QaC ha);have j30:=(Qaf.mp ha).1;have an:=DY ba;refine⟨_,rq,_,_,rq,rq,szb (by simp only[l2];omega),_,rq,a,rq,Ga ba,_,_,rq,rq,szb (by simp only[Qbd,l2];omega),?_⟩;simp only[QaP,QaO];refine⟨rq,_,_,rq,?_,by simp only[Qbd,l2];omega⟩;rw[Di,Di,ex,QcB ha,QbH];have jn:∀(l:List (List Nat)) (q r:List Nat),jnS (L " ") (q::l)++(L " "++r)=jnS (L " ") ((q::l)++[r]):=by
    intro l
    induction l with
    | nil=>intro q r;rfl
    | cons e l ih=>
     intro q r;show (q++(L " "++jnS (L " ") (e::l)))++(L " "++r)=q++(L " "++jnS (L " ") ((e::l)++[r]));rw[<-ih e r];simp only[Qbe]
   rw[Qbe,Qbe];congr 1;exact jn _ _ _
  ·obtain⟨rfl,x,v7,rfl,ex,xl⟩:=h;simp only[QaP,QaO];rw[QbF] at ex xl;rw[Qbw] at ex;refine⟨_,rq,_,_,rq,rq,szb (by rw[l5];omega),?_⟩;simp only[QaP,QaO];refine⟨rq,_,_,_,_,_,_,_,_,_,_,_,rq,?_⟩;rw[Di,ex,ey,QcB hz,QbH,<-Qbe,List.map_singleton,KJ,Qbe];rfl
 obtain⟨rfl,y,v5,v6,v7,v8,v9,v10,v11,v12,v13,v14,rfl,ey⟩:=h;rw[Qcd e5,Qbw] at ey;refine⟨_,rq,?_⟩;rw[show y=S (Eh most ja jp) from HN ey]
 exact q _ (Same.refl _)
end
section
open PySem.Spec PyProof.Rows
def SqZ (K:YD) (H:Hp) (a:Addr) (xs:YG):Prop:=H a=some (.tup xs)\/(∀H':Hp,SqT K H' a xs)/\xs.length≠2
theorem SqZ.sq {K:YD} {H:Hp} {a:Addr} {xs:YG} (h:SqZ K H a xs):SqT K H a xs:=h.elim SqT.of λf=>f.1 H
theorem SqZ.tups {K:YD} {H H':Hp} {a:Addr} {xs:YG} (h:SqZ K H a xs) (s:Ak H H'):SqZ K H' a xs:=h.imp (s _ _) id
theorem SqZ.ne {K:YD} {H:Hp} {a TO:Addr} {xs:YG} {h:Heap} {us olds:YE} (q:SqZ K H a xs) (f:H TO=none) (p:h.IsTuple a us.toArray) (t:ZZ.Ci h TO olds) (lo:olds.length=2) (r:Vals xs us):a≠TO:=λe=>by
 subst e;rcases q with q |⟨_,q⟩
 ·rw[q] at f;cases f
 ·obtain⟨o,e1,_,n,d⟩:=p;have t:h.get? a=_:=t;rw[e1] at t;injection t with t;rw[t] at d;injection d with d _;have:=congrArg Array.size d;rw[Qbc,Qbc,lo,<-r.length] at this;exact q this.symm
def f9 (K:YD) (a b:Addr) (xs ys:YG):It:=
  ⟨λi H=>∃x y,SqZ K H a xs/\SqZ K H b ys/\xs[i]?=some x/\ys[i]?=some y,
   λi H v H'=>∃p x y,H p=none/\v=.ref p/\H'=upd H p (.tup [x,y])/\xs[i]?=some x/\ys[i]?=some y,
   λi H=>SqZ K H a xs/\SqZ K H b ys/\(xs.length<=i\/ys.length<=i)⟩
theorem Zv {P:Program} {w:World} {K:YD} {elts:YJ} {k:Nat} {pos:Pos} {xs ys:YG} (a b z TI TO i1 i2:Addr) (nd:[z,TI,TO,i1,i2].Nodup) :
  Turn P w K (.Tuple elts k pos) (f9 K a b xs ys) [z,TI,TO,i1,i2] z (λi h=>(∃f1,ZZ.IsZ h z TI TO .none f1)/\ZZ.Ci h TI [.ref i1,.ref i2]/\(∃olds:YE,ZZ.Ci h TO olds/\olds.length=2)/\h.IsTupleIter i1 a i/\h.IsTupleIter i2 b i) where
 mem:=by simp
 obj:=λi h st c hc=>by
  obtain⟨⟨f1,hz⟩,hTI,⟨olds,hTO,_⟩,⟨o1,e1,_,d1⟩,o2,e2,_,d2⟩:=st;simp only[Qcc,Qbt,QcC] at hc;rcases hc with rfl | rfl | rfl | rfl | rfl
  ·exact⟨_,hz,λv q=>by cases (show Data.fields _=Data.cell v from q)⟩
  ·exact⟨_,hTI,λv q=>by cases (show Data.seq _ _=Data.cell v from q)⟩
  ·exact⟨_,hTO,λv q=>by cases (show Data.seq _ _=Data.cell v from q)⟩
  ·exact⟨o1,e1,λv q=>by rw[d1] at q;cases q⟩
  ·exact⟨o2,e2,λv q=>by rw[d2] at q;cases q⟩
 keep:=λi h h' st k=>by
  obtain⟨⟨f1,hz⟩,hTI,⟨olds,hTO,l⟩,h1,h2⟩:=st;exact⟨⟨f1,k z (by simp) _ hz⟩,k TI (by simp) _ hTI,⟨olds,k TO (by simp) _ hTO,l⟩,h1.at λo e=>k i1 (by simp) o e,h2.at λo e=>k i2 (by simp) o e⟩
 item:=by
  intro X hP hw hK hc i jb s U H E I hf st hg;subst hP hw hK;obtain⟨x,y,hq1,hq2,hx,hy⟩:=hg;obtain⟨us,ru,p1,z1⟩:=I.tuple hq1.sq;obtain⟨ws,rw',p2,z2⟩:=I.tuple hq2.sq;obtain⟨u,hu,ru'⟩:=ru.get hx;obtain⟨v,hv,rv'⟩:=rw'.get hy;obtain⟨⟨f1,hz⟩,hTI,⟨olds,hTO,lo⟩,hi1,hi2⟩:=st;simp only[QbN,Qcc,Qbt,QcC,not_or,QbZ,Qbr,and_true] at nd;obtain⟨⟨n1,n2,n3,n4⟩,⟨n5,n6,n7⟩,⟨n8,n9⟩,n10⟩:=nd;have D:ZZ.Apart z TI TO [⟨i1,a,us.toArray⟩,⟨i2,b,ws.toArray⟩]:=by
   obtain⟨oa,ea,ca,_⟩:=id p1;obtain⟨ob,eb,cb,_⟩:=id p2;obtain⟨o1,e1,c1,_⟩:=id hi1;obtain⟨o2,e2,c2,_⟩:=id hi2;have aTO:a≠TO:=hq1.ne (hf TO (by simp)).1 p1 hTO lo ru;have bTO:b≠TO:=hq2.ne (hf TO (by simp)).1 p2 hTO lo rw';have t1:Value.type "tuple"≠Value.type "zip":=λq=>absurd (by injection q) (show ¬("tuple"="zip") by decide);have t2:Value.type "tuple"≠Value.type "tuple_iterator":=λq=>absurd (by injection q) (show ¬("tuple"="tuple_iterator") by decide);refine⟨Ne.symm n1,Ne.symm n2,n5,λq hq=>?_,λq hq=>?_,λq hq r hr=>?_,?_⟩
   ·simp only[Qcc,Qbt,QcC] at hq;rcases hq with rfl | rfl
    ·exact⟨Ne.symm n3,Ne.symm n6,Ne.symm n8⟩
    ·exact⟨Ne.symm n4,Ne.symm n7,Ne.symm n9⟩
   ·simp only[Qcc,Qbt,QcC] at hq;rcases hq with rfl | rfl
    ·exact⟨Cq ea hz (by rw[ca];exact t1),aTO⟩
    ·exact⟨Cq eb hz (by rw[cb];exact t1),bTO⟩
   ·simp only[Qcc,Qbt,QcC] at hq hr;rcases hq with rfl | rfl <;> rcases hr with rfl | rfl
    ·exact Cq ea e1 (by rw[ca,c1];exact t2)
    ·exact Cq ea e2 (by rw[ca,c2];exact t2)
    ·exact Cq eb e1 (by rw[cb,c1];exact t2)
    ·exact Cq eb e2 (by rw[cb,c2];exact t2)
   ·simp[n10]
  have hat:∀q∈([⟨i1,a,us.toArray⟩,⟨i2,b,ws.toArray⟩]:List ZZ.Src),ZZ.SrcAt s.heap q i:=λq hq=>by
   simp only[Qcc,Qbt,QcC] at hq;rcases hq with rfl | rfl
   ·exact .inr ⟨hi1,p1⟩
   ·exact .inr ⟨hi2,p2⟩
  refine ZZ.Qp hz (Qi:=λr s'=>∃h',r=.ref s.heap.objs.size/\s'={ s with heap:=h' }/\ZZ.IsZ h' z TI TO (rawInt s.heap.objs.size) (.bool false)/\ZZ.Ci h' TI [.ref i1,.ref i2]/\ZZ.Ci h' TO [u,v]/\(∀q∈([⟨i1,a,us.toArray⟩,⟨i2,b,ws.toArray⟩]:List ZZ.Src),ZZ.SrcAt h' q (i+1))/\ZZ.Ci h' s.heap.objs.size [u,v]/\ZZ.Rest z TO [⟨i1,a,us.toArray⟩,⟨i2,b,ws.toArray⟩] s.heap h')
   (ZZ.Mi (xs:=[u,v]) D hz hTI hTO hat (by simp) rfl lo (λj q hj=>?_) (by show 2<=100;decide) λh' a1 a2 a3 a4 a5 a6 a7=>⟨h',rq,rq,a1,a2,a3,a4,a5,a7⟩) λr s' hQ=>?_
  ·match j,hj with
   | 0,hj=>cases hj;exact⟨u,rfl,by simpa using hu⟩
   | 1,hj=>cases hj;exact⟨v,rfl,by simpa using hv⟩
  obtain⟨h',rfl,rfl,a1,a2,a3,a4,a5,a7⟩:=hQ;refine⟨_,rq,ZZ.Ss (s:={ s with heap:=h' }) a1 λh2 hz2 sb=>?_⟩;have hlt2:s.heap.objs.size≠z:=Qco (Qck hz);have hT2:ZZ.Ci h2 s.heap.objs.size [u,v]:=(sb.2 _ hlt2).trans a5;have new:BW X.prog X.w (upd H s.heap.objs.size (.tup [x,y])) h2 s.heap.objs.size (.tup [x,y]):=
   ⟨by show 2<=sizeLine;decide,[u,v],.cons ru' (.cons rv' .nil),_,hT2,rq,0,rq⟩
  have I1:=I.Mz (h':=h2) (t':=s.toks) (Qcr _) (λc q hc e=>(sb.2 c (λw=>hc (by simp[w]))).trans (a7 c q (λw=>hc (by simp[w])) (λw=>hc (by simp[w])) (λw=>hc (by simp only[Qce,List.map_nil,Qcc,Qbt,QcC] at w;rcases w with w | w <;> simp[w])) e)) hf new;have QL:∀{it l:Addr} {items:Array Value},l≠z->l≠TO->l≠i1->l≠i2->it≠z->s.heap.IsTuple l items->ZZ.SrcAt h' ⟨it,l,items⟩ (i+1)->h2.IsTupleIter it l (i+1):=λm1 m2 m3 m4 m5 hl q=>by
   rcases q with⟨_,q2⟩|⟨q1,_⟩
   ·obtain⟨o,e,r⟩:=hl;exact (DK q2 ⟨o,a7 _ o m1 m2 (by simp[m3,m4]) e,r⟩).elim
   ·exact q1.at λo e=>(sb.2 _ m5).trans e
  refine⟨.ref s.heap.objs.size,_,I1,rq,⟨s.heap.objs.size,x,y,I.hok.fresh (Qcr _),rq,rq,hx,hy⟩,⟨⟨_,hz2⟩,(sb.2 _ (Ne.symm n1)).trans a2,⟨[u,v],(sb.2 _ (Ne.symm n2)).trans a3,rq⟩,?_,?_⟩,λc hc=>?_⟩
  ·exact QL (D.a ⟨i1,a,us.toArray⟩ (by simp)).1 (D.a ⟨i1,a,us.toArray⟩ (by simp)).2 (D.ai ⟨i1,a,us.toArray⟩ (by simp) ⟨i1,a,us.toArray⟩ (by simp)) (D.ai ⟨i1,a,us.toArray⟩ (by simp) ⟨i2,b,ws.toArray⟩ (by simp)) (Ne.symm n3) p1 (a4 _ (by simp))
  ·exact QL (D.a ⟨i2,b,ws.toArray⟩ (by simp)).1 (D.a ⟨i2,b,ws.toArray⟩ (by simp)).2 (D.ai ⟨i2,b,ws.toArray⟩ (by simp) ⟨i1,a,us.toArray⟩ (by simp)) (D.ai ⟨i2,b,ws.toArray⟩ (by simp) ⟨i2,b,ws.toArray⟩ (by simp)) (Ne.symm n4) p2 (a4 _ (by simp))
  ·have hlc:c≠s.heap.objs.size:=by
    have hmem:∃o,s.heap.get? c=some o:=by
     simp only[Qcc,Qbt,QcC] at hc;rcases hc with rfl | rfl | rfl | rfl | rfl
     ·exact⟨_,hz⟩
     ·exact⟨_,hTI⟩
     ·exact⟨_,hTO⟩
     ·obtain⟨o,e,_⟩:=hi1;exact⟨o,e⟩
     ·obtain⟨o,e,_⟩:=hi2;exact⟨o,e⟩
    obtain⟨o,e⟩:=hmem;exact Qcl (Qck e)
   rw[Ar hlc];exact (hf c hc).1
 done:=by
  intro X hP hw hK hc i jb s U H E I hf st hg;subst hP hw hK;obtain⟨hq1,hq2,hend⟩:=hg;obtain⟨us,ru,p1,z1⟩:=I.tuple hq1.sq;obtain⟨ws,rw',p2,z2⟩:=I.tuple hq2.sq;obtain⟨⟨f1,hz⟩,hTI,⟨olds,hTO,lo⟩,hi1,hi2⟩:=st;simp only[QbN,Qcc,Qbt,QcC,not_or,QbZ,Qbr,and_true] at nd;obtain⟨⟨n1,n2,n3,n4⟩,⟨n5,n6,n7⟩,⟨n8,n9⟩,n10⟩:=nd;have D:ZZ.Apart z TI TO [⟨i1,a,us.toArray⟩,⟨i2,b,ws.toArray⟩]:=by
   obtain⟨oa,ea,ca,_⟩:=id p1;obtain⟨ob,eb,cb,_⟩:=id p2;obtain⟨o1,e1,c1,_⟩:=id hi1;obtain⟨o2,e2,c2,_⟩:=id hi2;have aTO:a≠TO:=hq1.ne (hf TO (by simp)).1 p1 hTO lo ru;have bTO:b≠TO:=hq2.ne (hf TO (by simp)).1 p2 hTO lo rw';have t1:Value.type "tuple"≠Value.type "zip":=λq=>absurd (by injection q) (show ¬("tuple"="zip") by decide);have t2:Value.type "tuple"≠Value.type "tuple_iterator":=λq=>absurd (by injection q) (show ¬("tuple"="tuple_iterator") by decide);refine⟨Ne.symm n1,Ne.symm n2,n5,λq hq=>?_,λq hq=>?_,λq hq r hr=>?_,?_⟩
   ·simp only[Qcc,Qbt,QcC] at hq;rcases hq with rfl | rfl
    ·exact⟨Ne.symm n3,Ne.symm n6,Ne.symm n8⟩
    ·exact⟨Ne.symm n4,Ne.symm n7,Ne.symm n9⟩
   ·simp only[Qcc,Qbt,QcC] at hq;rcases hq with rfl | rfl
    ·exact⟨Cq ea hz (by rw[ca];exact t1),aTO⟩
    ·exact⟨Cq eb hz (by rw[cb];exact t1),bTO⟩
   ·simp only[Qcc,Qbt,QcC] at hq hr;rcases hq with rfl | rfl <;> rcases hr with rfl | rfl
    ·exact Cq ea e1 (by rw[ca,c1];exact t2)
    ·exact Cq ea e2 (by rw[ca,c2];exact t2)
    ·exact Cq eb e1 (by rw[cb,c1];exact t2)
    ·exact Cq eb e2 (by rw[cb,c2];exact t2)
   ·simp[n10]
  have hat:∀q∈([⟨i1,a,us.toArray⟩,⟨i2,b,ws.toArray⟩]:List ZZ.Src),ZZ.SrcAt s.heap q i:=λq hq=>by
   simp only[Qcc,Qbt,QcC] at hq;rcases hq with rfl | rfl
   ·exact .inr ⟨hi1,p1⟩
   ·exact .inr ⟨hi2,p2⟩
  have l1:=ru.length;have l2:=rw'.length;refine ZZ.K3 hz (R:=λh'=>ZZ.Rest z TO [⟨i1,a,us.toArray⟩,⟨i2,b,ws.toArray⟩] s.heap h') (ZZ.Ms (I.ok.hd hc) D hz hTI hTO hat (by simp) lo (by show 2<=100;decide) ?_ λh' e r st=>⟨h',e,rfl,rfl,r,st⟩) λh' r=>⟨rfl,I.QV (h':=h') (t':=s.toks) (λc q hc e=>r c q (λw=>hc (by simp[w])) (λw=>hc (by simp[w])) (λw=>hc (by simp only[Qce,List.map_nil,Qcc,Qbt,QcC] at w;rcases w with w | w <;> simp[w])) e) hf⟩;rcases hend with h | h
  ·exact⟨_,QaQ ..,by simp;omega⟩
  ·exact⟨_,QaD _ (QaQ ..),by simp;omega⟩
 self:=λ_ _ _ _ _ st h=>ZZ.Jt st.1.choose_spec h
def oE (K:YD) (ta:TA):TI:=fun U H R=>ta U H λvs H1=>∃a b xs ys,vs=[.ref a,.ref b]/\SqZ K H1 a xs/\SqZ K H1 b ys/\R (f9 K a b xs ys) H1
section
variable {X:Cx}
theorem iK {a b:Expr} {ta:TA} {p pos tp:Pos} {elts:YJ} {k:Nat} (hg:Gl X "zip") (hm:X.mg "zip"=none) (ha:PA X [a,b] ta)
  (hs:starEach [a,b] X.env=[(false,eval a X.env),(false,eval b X.env)]:=by rfl) (hs2:starEach [b] X.env=[(false,eval b X.env)]:=by rfl):PI X (.Tuple elts k tp) (.Call (.Name "zip" p) [a,b] [] pos) (oE X.K ta):=by
 intro jb s U H R I h;refine Call_ (GK I hg hm (u:=.type "zip") (by trivial) (Qac (thn (ha pos jb s U H _ I h) λus s1 ⟨vs,H1,I1,r1,q1⟩=>?_) (by rw[hs,hs2]) (by rw[hs2];rfl)));obtain⟨a,b,xs,ys,e,hx,hy,q⟩:=q1;subst e;cases r1 with
 | cons r rr=>
  cases rr with
  | cons r' rr=>
   cases rr;cases r;cases r';obtain⟨us,ru,k1,z1⟩:=I1.tuple hx.sq;obtain⟨ws,rw',k2,z2⟩:=I1.tuple hy.sq;refine ZZ.S6 (c1:="tuple_iterator") (c2:="tuple_iterator") (.inr ⟨rq,k1⟩) (.inr ⟨rq,k2⟩) λh' z TI TO i1 i2 f=>?_;refine ZZ.Jt (s:={ s1 with heap:=h' }) f.hz ?_;have nd:[z,TI,TO,i1,i2].Nodup:=by
    have a1:=f.ap.it ⟨i1,a,us.toArray⟩ (by simp);have a2:=f.ap.it ⟨i2,b,ws.toArray⟩ (by simp);have a3:i1≠i2:=by
     have:=f.ap.nd;simpa using this
    simp only[QbN,Qcc,Qbt,QcC,not_or,QbZ,Qbr,and_true];exact⟨⟨Ne.symm f.ap.TIz,Ne.symm f.ap.TOz,Ne.symm a1.1,Ne.symm a2.1⟩,⟨f.ap.TITO,Ne.symm a1.2.1,Ne.symm a2.2.1⟩,⟨Ne.symm a1.2.2,Ne.symm a2.2.2⟩,a3⟩
   have at1:h'.IsTupleIter i1 a 0:=by
    rcases f.at_ ⟨i1,a,us.toArray⟩ (by simp) with⟨_,x2⟩|⟨x1,_⟩
    ·obtain⟨o,e,r⟩:=id k1;exact (DK x2 ⟨o,f.keep _ o e,r⟩).elim
    ·exact x1
   have at2:h'.IsTupleIter i2 b 0:=by
    rcases f.at_ ⟨i2,b,ws.toArray⟩ (by simp) with⟨_,x2⟩|⟨x1,_⟩
    ·obtain⟨o,e,r⟩:=id k2;exact (DK x2 ⟨o,f.keep _ o e,r⟩).elim
    ·exact x1
   refine⟨z,[z,TI,TO,i1,i2],_,_,H1,rq,I1.kept (t':=s1.toks) λc o e=>f.keep c o e,Zv a b z TI TO i1 i2 nd,⟨⟨_,f.hz⟩,f.hTI,⟨_,f.hTO,rq⟩,at1,at2⟩,λc hc=>?_,q⟩;have hn:=f.new;have hcs:s1.heap.objs.size<=c:=by
    simp only[Qcc,Qbt,QcC] at hc;rcases hc with rfl | rfl | rfl | rfl | rfl
    ·exact hn.1
    ·exact hn.2.1
    ·exact hn.2.2.1
    ·exact hn.2.2.2 ⟨c,a,us.toArray⟩ (by simp)
    ·exact hn.2.2.2 ⟨c,b,ws.toArray⟩ (by simp)
   exact I1.Py hcs (I1.hok.fresh hcs)
end
theorem bH {K:YD} {a b l:Addr} {xs ys:YG} {g:TG} {tt:TT} {te:TE} {Q:VK} {σ0:L2.St} {H0:Hp} (n:Nat) (hx:n<=xs.length) (hy:n<=ys.length) (hn:xs.length<=n\/ys.length<=n) (Pv:Nat->L2.St->Hp->Prop)
  (h0:Pv 0 σ0 H0) (hl:∀i U H',i<=n->Pv i U H'->SqZ K H' a xs/\SqZ K H' b ys)
  (hs:∀i x y p U H',xs[i]?=some x->ys[i]?=some y->Pv i U H'->H' p=none->g (.ref p) U (upd H' p (.tup [x,y])) fun σ3 H3=>tt σ3 H3 λb H4=>if b=true then te σ3 H4 λy H5=>∃ys,H5 l=some (.lst ys)/\ys.length < sizeLine/\Pv (i+1) σ3 (upd H5 l (.lst (ys++[y]))) else Pv (i+1) σ3 H4)
  (hd:∀ U H',Pv n U H'->Q (.ref l) H'):Fe (f9 K a b xs ys) g tt te Q σ0 H0 l:=by
 unfold Fe;refine⟨λi m U H'=>m=n - i/\i<=n/\Pv i U H',⟨n,by simp,Qcs _,h0⟩,?_⟩;rintro i m U H' ⟨rfl,hi,p⟩;obtain⟨q1,q2⟩:=hl i U H' hi p;by_cases hlt:i < n
 ·have hlt1:i < xs.length:=by omega
  have hlt2:i < ys.length:=by omega
  refine .inr ⟨⟨xs[i],ys[i],q1,q2,Qam hlt1,Qam hlt2⟩,Pv (i+1),fun σ3 H3 p'=>⟨n - (i+1),by omega,rq,hlt,p'⟩,λv H2 y=>?_⟩;obtain⟨pp,x',y',hp,rfl,rfl,e1,e2⟩:=y;exact hs i x' y' pp U _ e1 e2 p hp
 ·exact .inl ⟨⟨q1,q2,by omega⟩,by
   have:i=n:=by omega
   subst this;exact hd _ _ p⟩
end
theorem Hi {X:Cx}:Ds X (.builtin "isinstance") (λxs H Q=>EY X.K xs H Q\/gJ X.K xs H Q):=by
 intro jb s U H xs us Q I r h;rcases h with h | h
 ·exact Kd jb s U H xs us Q I r h
 ·exact S9 jb s U H xs us Q I r h
end K05
namespace K05
open PySem L2
abbrev O2:Stmt:=top 46
abbrev JN:YF:=["_law_one","_law_other"]
theorem RV:Bc ["_law_one","_law_other"] JN (Al O2):=by ac_rfl
def T5 (x y:V):Prop:=(∃i:Int,x=.int i/\y=.int i)\/∃s:Str,x=.str s/\y=.str s
def Gs (K:YD) (H:Hp):Nat->V->V->Prop
 | 0,_,_=>False
 | D+1,x,y=>T5 x y\/∃a b xs ys,x=.ref a/\y=.ref b/\SqZ K H a xs/\SqZ K H b ys/\xs.length<=100/\Paired (Gs K H D) xs ys
theorem Gs.tups {K:YD} {H H':Hp} (t:Ak H H'):∀{D:Nat} {x y:V},Gs K H D x y->Gs K H' D x y
 | 0,_,_,h=>h.elim
 | D+1,_,_,.inl h=>.inl h
 | D+1,_,_,.inr ⟨a,b,xs,ys,e1,e2,h1,h2,l,p⟩=>.inr ⟨a,b,xs,ys,e1,e2,h1.tups t,h2.tups t,l,Paired.Bg p λ_ _ z=>Gs.tups t z⟩
theorem oA {K:YD} {H:Hp} {x y:V} (h:T5 x y) {Q:VK} (q:Q (.bl false) H):EY K [x,.ty "tuple"] H Q/\EY K [y,.ty "tuple"] H Q:=by
 unfold EY;rcases h with⟨i,rfl,rfl⟩|⟨z,rfl,rfl⟩
 ·exact⟨⟨_,_,_,_,rq,.int i,by rfl,q⟩,⟨_,_,_,_,rq,.int i,by rfl,q⟩⟩
 ·exact⟨⟨_,_,_,_,rq,.str z,by rfl,q⟩,⟨_,_,_,_,rq,.str z,by rfl,q⟩⟩
theorem gP {K:YD} {H:Hp} {x y:V} (h:T5 x y) {Q:VK} (q:Q (.bl false) H):EY K [x,.ty "bool"] H Q/\EY K [y,.ty "bool"] H Q:=by
 unfold EY;rcases h with⟨i,rfl,rfl⟩|⟨z,rfl,rfl⟩
 ·exact⟨⟨_,_,_,_,rq,.int i,by rfl,q⟩,⟨_,_,_,_,rq,.int i,by rfl,q⟩⟩
 ·exact⟨⟨_,_,_,_,rq,.str z,by rfl,q⟩,⟨_,_,_,_,rq,.str z,by rfl,q⟩⟩
theorem ou {K:YD} {H:Hp} {x y:V} (h:T5 x y):∃b,∀{Q:VK},Q (.bl b) H->EY K [x,.ty "str"] H Q/\EY K [y,.ty "str"] H Q:=by
 rcases h with⟨i,rfl,rfl⟩|⟨z,rfl,rfl⟩
 ·refine⟨false,λq=>?_⟩;unfold EY;exact⟨⟨_,_,_,_,rq,.int i,by rfl,q⟩,⟨_,_,_,_,rq,.int i,by rfl,q⟩⟩
 ·refine⟨true,λq=>?_⟩;unfold EY;exact⟨⟨_,_,_,_,rq,.str z,by rfl,q⟩,⟨_,_,_,_,rq,.str z,by rfl,q⟩⟩
section
variable {P:Program} {w:World} {K:YD} {mg:YB} {base:Heap}
inductive Uo (K:YD) (D:Nat) (vs:YG) (H:Hp) (Q:VK) (E:XK):Prop
 | mk (x y) (_:vs=[x,y]) (_:Gs K H D x y) (_:∀H',Same H H'->Q (.bl true) H'):Uo K D vs H Q E
abbrev xi:YF:=["_law_a","_law_b"]
theorem iV (C:Code K mg "_law_same" O2 JN) (T:Nm mg):∀D,Good P w K mg base "_law_same" (1+D) JN (Uo K D):=by
 intro D
 induction D with
 | zero=>
  refine C.good RV (λvs H Q E h=>?_) (λf cdv A outer s H vs Q E hr h=>?_)
  ·obtain⟨x,y,_,h0,_⟩:=h;exact h0.elim
  ·obtain⟨x,y,_,h0,_⟩:=h;exact h0.elim
 | succ D Pu=>
 refine C.good RV (λvs H Q E h=>?_) (λf cdv A outer s H vs Q E hr h=>?_)
 ·obtain⟨x,y,rfl,_⟩:=h;rfl
 obtain⟨x,y,rfl,sv,q⟩:=h;refine⟨_,(Af (Cj (PW.pt (j5 (Dd (Ay Hi rfl T.isinstance Cg (Aa (pv 0) (Aa (Eu (v:=.ty "tuple") rfl T.tuple Cm rfl) Ab)))) (iG (Dd (Ay Hi rfl T.isinstance Cg (Aa (pv 1) (Aa (Eu (v:=.ty "tuple") rfl T.tuple Cm rfl) Ab))))))) (Ai (Ba (DW (Fv Gm (Ay CG rfl T.len Ek (Aa (pv 0) Ab)) (Ay CG rfl T.len Ek (Aa (pv 1) Ab)) (Cd _)) (Ei (Ay (Fd rfl) rfl T.all Hz (Aa (BP (N':=xi) rfl (Bh.plain rfl (by trivial) (by trivial) (by trivial)) (iK rfl T.zip (Aa (pv 0) (Aa (pv 1) Ab))) (λ_ _ _ _=>(Jy (K:=K) (n:=2) rfl rfl (Aj (Ah (i:=0) (show List.Nodup (xi:YF) by trivial) rfl (Or.inl rfl)) (Aj (Ah (i:=1) (show List.Nodup (xi:YF) by trivial) rfl (Or.inl rfl)) Bp)))) (λ_ _ _ _=>Cy) (λ_ _ _ _=>(Qv (hk:=(Qcr _)) Pu hr (Aa (pv 0) (Aa (pv 1) Ab))))) Ab)))))) BL)
 (Af (Cj (PW.pt (Ip (BX Qw (Ay Hi rfl T.isinstance Cg (Aa (pv 0) (Aa (Eu (v:=.ty "str") rfl T.str Hy rfl) Ab))) (Ay Hi rfl T.isinstance Cg (Aa (pv 1) (Aa (Eu (v:=.ty "str") rfl T.str Hy rfl) Ab))) (Cd _)) (Ip (Dd (Ay Hi rfl T.isinstance Cg (Aa (pv 0) (Aa (Eu (v:=.ty "bool") rfl T.bool RM rfl) Ab)))) (Iw (Dd (Ay Hi rfl T.isinstance Cg (Aa (pv 1) (Aa (Eu (v:=.ty "bool") rfl T.bool RM rfl) Ab)))))))) (Ai (Ba Hv)) BL)
 (Ai (Ba (Fv (Gm) (pv 0) (pv 1) (Cd _)))))),?_⟩
 show let R0:TS:=_;let R1:TS:=Am _ R0;let R2:TS:=_;Am (Hj _ R2 _) R1 _ _ _;intro R0 R1 R2;rcases sv with lf |⟨a,b,xs,ys,rfl,rfl,ha,hb,wI,pp⟩
 ·refine⟨_,rq,.inl (oA lf ⟨_,rq,Dn (Dn ?_)⟩).1⟩;obtain⟨sb,hsb⟩:=ou (K:=K) (H:=H) lf;refine⟨_,rq,.inl (hsb ⟨_,rq,.inl (hsb ⟨rq,_,rq,?_⟩).2⟩).1⟩;rw[show (!decide (V.bl sb=V.bl sb))=false by simp];refine Dn ⟨_,rq,.inl (gP lf ⟨_,rq,Dn ⟨_,rq,.inl (gP lf ⟨_,rq,Dn ?_⟩).2⟩⟩).1⟩;refine⟨_,rq,_,rq,?_,?_⟩
  ·rcases lf with⟨i,rfl,rfl⟩|⟨z,rfl,rfl⟩ <;> rfl
  ·rw[show decide (x=y)=true by rcases lf with⟨i,rfl,rfl⟩|⟨z,rfl,rfl⟩ <;> simp];exact q H (Same.refl _)
 ·have lxy:=Qcd pp;refine⟨_,rq,.inr ⟨a,xs,rq,ha.sq,_,rq,BK ⟨_,rq,.inr ⟨b,ys,rq,hb.sq,_,rq,BK ?_⟩⟩⟩⟩;refine⟨_,rq,a,xs,rq,.inr ha.sq,_,rq,b,ys,rq,.inr hb.sq,rq,_,rq,?_⟩;rw[lxy,QbX rfl];refine BK ⟨_,rq,_,rq,a,b,xs,ys,rq,ha,hb,λl hl=>?_⟩;refine bH xs.length (Qcr _) (by omega) (.inl (Qcr _)) (λi U HX=>∃u1 u2,U=[u1,u2]/\HX l=some (.lst ((List.replicate i true).map V.bl))/\Same H HX) ⟨none,none,rq,Ac,Ad hl _⟩ (λi U HX _ h=>?_) (λi x y p U HX hx hy h hp=>?_) (fun U HX h=>?_)
  ·obtain⟨_,_,rfl,_,s⟩:=h;exact⟨ha.tups (Ak.of s),hb.tups (Ak.of s)⟩
  ·obtain⟨_,_,rfl,e,s⟩:=h;have s1:=Ad hp (.tup [x,y]);obtain⟨y',hy',sv⟩:=Paired.Dh pp hx;rw[hy] at hy';injection hy' with hy';subst hy';have hi:=(Qaf.mp hx).1;refine⟨p,_,rq,SqT.of Ac,rq,_,_,rq,_,_,rq,rq,?_⟩;refine BK ⟨_,rq,_,rq,x,y,rq,sv.tups (Ak.of (s.trans s1)),λHY s2=>?_⟩;have e':=s2 _ _ (s1 _ _ e);refine⟨_,e',Aq (by rw[QbF,List.length_replicate];omega),_,_,rq,?_,((s.trans s1).trans s2).Dc Ag.upd hl⟩;rw[Ac,List.replicate_succ',QbH];rfl
  ·obtain⟨_,_,rfl,e,s⟩:=h;refine⟨l,_,rq,SqL.of e,?_⟩;rw[show (List.replicate xs.length true).all id=true by simp];exact q _ s
end
abbrev K1:Stmt:=top 45
abbrev K8:YF:=["_law_bag_here","_law_plan_here"]
abbrev xj:YF:=["_law_bag_here","_law_plan_here","_law_loops","_law_places","_law_some","_law_kind","_law_address","_law_spur","_law_number","_law_zones","_law_name_here"]
theorem El:Bc xj K8 (Al K1):=by ac_rfl
structure Lk (p' p:Place):Prop where
 kind:p'.kind=p.kind
 len:p'.spur.length=p.spur.length
 ok:En p'
theorem Lk.many {p' p:Place} (h:Lk p' p):(adP p').length=(adP p).length:=by
 unfold adP;rw[h.kind];split
 ·rfl
 ·rw[Qbu,Qbu,QbF,QbF,h.len]
theorem LkL.many {ps' ps:List Place} (h:Paired Lk ps' ps):(adL ps').length=(adL ps).length:=by
 induction h with
 | nil=>rfl
 | cons a t ih=>
  unfold adL at ih ⊢;rw[Qbg,Qbg,QaN,QaN,ih,a.many]
theorem wz.many {l' l:YU} (h:Paired (Paired Lk) l' l):(Bx l').length=(Bx l).length:=by
 induction h with
 | nil=>rfl
 | cons a t ih=>
  unfold Bx at ih ⊢;rw[Qbg,Qbg,QaN,QaN,ih,LkL.many a]
theorem Paired.eF {α β : Type} {F:α->β->Prop}:∀{l:List α} {r:List β},Paired F l r->∀a∈l,∃b∈r,F a b
 | _,_,.nil,_,h=>by cases h
 | _,_,.cons h t,a,m=>by
  rcases Qcc.mp m with rfl | m
  ·exact⟨_,QaQ,h⟩
  ·obtain⟨b,hb,f⟩:=Paired.eF t a m;exact⟨b,QaD _ hb,f⟩
theorem nU:En opP:=⟨gM,by rw[bU];exact λx h=>by cases h⟩
theorem nP {k:Str} {a:Int} {ds:List Dev} (hk:Dl k) (ha:1<=a/\a<=99) (h3:ds.length<=3) (hd:∀d∈ds,OkD d):En ⟨k,a,ds⟩:=by
 refine⟨⟨h3,λd m=>(hd d m).kind,.inr hk⟩,λx hx=>?_⟩;have e:adP ⟨k,a,ds⟩=a::ds.map (·.addr):=if_neg (Hx hk);rw[e] at hx;rcases Qcc.mp hx with rfl | hx
 ·exact ha
 ·obtain⟨d,m,rfl⟩:=Qcm.mp hx;exact (hd d m).bd
theorem ak:∀{l m:List Int},l.Nodup->(∀x∈l,x∈m)->l.length<=m.length
 | [],_,_,_=>Qcs _
 | a::r,m,nd,h=>by
  have ha:=h a QaQ;have nr:=QbN.mp nd;have:=ak (l:=r) (m:=m.erase a) nr.2 λx hx=>(List.mem_erase_of_ne (λe=>nr.1 (by rw[<-e];exact hx))).mpr (h x (QaD _ hx));have:=List.length_erase_of_mem ha;have:=List.length_pos_of_mem ha;rw[Qbu];omega
inductive Yg (vs:YG) (H:Hp) (Q:VK) (E:XK):Prop
 | mk (b pl Ls:Addr) (n:Nat) (most:Int) (zs:V) (ws:YG) (ja:YU) (_:vs=[.ref b,.ref pl]) (_:Bk H b n) (_:n<=4000) (_:H pl=some (.tup [.int most,.ref Ls,zs])) (_:H Ls=some (.tup ws)) (_:Paired (LoopAt H) ws ja) (_:Wg ja) (_:1<=ja.length) (_:1<=(Bx ja).length/\(Bx ja).length<=30)
  (_:∀t Ls' zs' vs' Ua CW Dq Lq H',H' t=some (.tup [.int Lq,.ref Ls',.ref zs'])->H' Ls'=some (.tup vs')->Paired (LoopAt H') vs' CW->H' zs'=some (.tup Ua)->Paired (CT H') Ua Dq->PlF Lq CW Dq->Ag b H H'->Q (.ref t) H'):Yg vs H Q E
section
variable {P:Program} {w:World} {K:YD} {mg:YB} {base:Heap}
abbrev xk:YF:=["_law_other","_law_same_here","_law_bag_here"]
theorem kY (C:Code K mg "_law_any" K1 K8) (T:Nm mg) (Bj:Good P w K mg base "_law_take" 1 FW KY) (Nr:Good P w K mg base "_law_names" 3 Hh NK):Good P w K mg base "_law_any" 4 K8 Yg:=by
 refine C.good El (λvs H Q E h=>?_) (λf cdv A outer s H vs Q E hr h=>?_)
 ·obtain⟨b,pl,Ls,n,most,zs,ws,ja,rfl,_⟩:=h;rfl
 obtain⟨b,pl,Ls,n,most,zs,ws,ja,rfl,hb,hn,e1,e2,e3,okl,lo,cnt,q⟩:=h;refine⟨_,(@Af _ _ _ _ _ (@Az _ _ 2 _ _ _ _ El.nd rfl (Or.inl rfl) (Cp Ab) (by rfl) (by first | exact .inl rfl | exact .inr rfl))
 (@Af _ _ _ _ _ (Cw QbJ rfl (CK (@Cu _ _ _ _ _ _ _ Jg (pv 1) Ae (λ_ _=>rfl))) (Ah (i:=3) El.nd rfl (Or.inl rfl))
 (@Af _ _ _ _ _ (@Az _ _ 4 _ _ _ _ El.nd rfl (Or.inl rfl) (Cp Ab) (by rfl) (by first | exact .inl rfl | exact .inr rfl))
 (@Af _ _ _ _ _ (Cw QbJ rfl (CK (pv 3)) (CN rfl (Aj (Ah (i:=5) El.nd rfl (Or.inl rfl)) (Aj (Ah (i:=6) El.nd rfl (Or.inl rfl)) (Aj (Ah (i:=7) El.nd rfl (Or.inl rfl)) Bp))))
 (@Ai _ _ _ (Cj (BX Gm (pv 5) Bb (Cd _)) (@Ai _ _ _ (Cr (BR Qap Qak Qal Ce (pv 4) (Aa (BZ (Aa (pv 5) (Aa (pv 6) (Aa (pv 7) Ab)))) Ab)))) (@Af _ _ _ _ _ (@Az _ _ 8 _ _ _ _ El.nd rfl (Or.inl rfl) (@Av _ _ _ _ _ _ _ _ Cz Ae (Ca Bj hr (Aa (pv 0) (Aa Ae Ab)))) (by rfl) (by first | exact .inl rfl | exact .inr rfl))
 (@Ai _ _ _ (Cr (BR Qap Qak Qal Ce (pv 4) (Aa (BZ (Aa (pv 5) (Aa (pv 8) (Aa (Bo Bm rfl T.tuple Cm (Aa (BP (N':=xk) rfl (Bh.of (src:=[none,none,some 0]) (Al K1) xj rfl rfl rfl (by trivial) (by trivial) (by trivial) rfl (by trivial)) (CK (pv 7)) (λ_ _ _ _=>(Jy (K:=K) (n:=2) rfl rfl (Aj (Ah (i:=0) (show List.Nodup (xk:YF) by trivial) rfl (Or.inl rfl)) (Aj (Ah (i:=1) (show List.Nodup (xk:YF) by trivial) rfl (Or.inl rfl)) Bp)))) (λ_ _ _ _=>Cy) (λ_ _ _ _=>(BZ (Aa (pv 0) (Aa (@Av _ _ _ _ _ _ _ _ Cz Ae (Ca Bj hr (Aa (pv 2) (Aa Ae Ab)))) Ab))))) Ab)) Ab)))) Ab))))))))
 (@Ai _ _ _ (Cr (BR Qap Qak Qal Ce (pv 2) (Aa (Bo Bm rfl T.tuple Cm (Aa (pv 4) Ab)) Ab)))))))
 (@Af _ _ _ _ _ (@Az _ _ 9 _ _ _ _ El.nd rfl (Or.inl rfl) (Cp Ab) (by rfl) (by first | exact .inl rfl | exact .inr rfl))
 (@Af _ _ _ _ _ (Cw QbJ rfl (Ed (Ca Nr hr (Aa (pv 0) (Aa (Ca Bj hr (Aa (pv 0) (Aa Ae Ab))) Ab)))) (Ah (i:=10) El.nd rfl (Or.inl rfl))
 (@Ai _ _ _ (Cr (BR Qap Qak Qal Ce (pv 9) (Aa (BZ (Aa (pv 10) (Aa (Bo Bm rfl T.tuple Cm (Aa (Yq rfl rfl T.sorted rfl T.set (Aa (BP (N':=["_law_at","_law_bag_here"]) rfl (Bh.of (src:=[none,some 0]) (Al K1) xj rfl rfl rfl (by trivial) (by trivial) (by trivial) rfl (by trivial)) (Ez rfl T.range (Aa (@Av _ _ _ _ _ _ _ _ Cz Ae (Ca Bj hr (Aa (pv 0) (Aa Ae Ab)))) Ab)) (λ_ _ _ _=>(Ah (i:=0) (show List.Nodup (["_law_at","_law_bag_here"]:YF) by trivial) rfl (Or.inl rfl))) (λ_ _ _ _=>Cy) (λ_ _ _ _=>(@Av _ _ _ _ _ _ _ _ Cz Ae (Ca Bj hr (Aa (pv 1) (Aa Ae Ab)))))) Ab)) Ab)) Ab))) Ab)))))
 (@Ai _ _ _ (@Ba _ _ _ _ (BZ (Aa (@Av _ _ _ _ _ _ _ _ Cz Ae (Ca Bj hr (Aa (pv 0) (Aa Ae Ab)))) (Aa (Bo Bm rfl T.tuple Cm (Aa (pv 2) Ab)) (Aa (Bo Bm rfl T.tuple Cm (Aa (pv 9) Ab)) Ab)))))))))),?_⟩
 show let R0:TS:=_;let R1:TS:=_;let R2:TS:=Am (Dy _ _ R1) R0;let R3:TS:=Am _ R2;let R4:TS:=_;let R5:TS:=_;let R6:TS:=_;let R7:TS:=Am _ R6;let R8:TS:=Hj _ R5 R7;let R9:TS:=Am (Dy _ _ R8) R4;let R10:TS:=Am _ R9;let R11:TS:=Am (Dy _ _ R10) R3;Am _ R11 _ _ _;intro R0 R1 R2 R3 R4 R5 R6 R7 R8 R9 R10 R11;generalize hst:L2.start _ _=σ0;have e0:σ0=[js b,js pl,none,none,none,none,none,none,none,none,none]:=hst.symm;clear hst;subst e0;have hi3:=okl.hi;refine⟨Aw (by show 0<=1000;decide),λll hll=>?_⟩;simp only[QaP,QaO];have s1:=Ad hll (.lst []);have c1:upd H ll (.lst []) ll=some (.lst []):=Ac;have nbl:b≠ll:=hb.nb hll;have hb1:=hb.same s1;have e1:=s1 _ _ e1;have e2:=s1 _ _ e2;have e3:Paired (LoopAt (upd H ll (.lst []))) ws ja:=Paired.Bg e3 λ_ _ z=>z.tups (Ak.of s1);have fll:=hll;generalize upd H ll (.lst [])=H1 at *;refine⟨_,rq,pl,_,_,.ref Ls,rq,rq,SqT.of e1,Fy (j:=1) rfl,Ls,rq,⟨_,SqT.of e2⟩,?_⟩;let J0:YN:=λi U HH=>∃(u3 u4 u5 u6 u7 u8:Option V) (vs:YG) (CW:YU),U=[js b,js pl,js ll,u3,u4,u5,u6,u7,u8,none,none]/\HH ll=some (.lst vs)/\Paired (LoopAt HH) vs CW/\Paired (Paired Lk) CW (ja.take i)/\Bk HH b (n+48*i)/\Bs b ll H1 HH;refine Ew (xs:=ws) J0 ⟨_,_,_,_,_,_,[],[],rq,c1,.nil,.nil,hb1,Bs.of (Same.refl _)⟩ (λi U HH _ h=>?_) (λi x U HH hx h=>?_) (fun U HH h=>?_)
 ·obtain⟨_,_,_,_,_,_,vs,CW,rfl,h1,h2,h3,h4,h5⟩:=h;exact SqT.of (h5 _ _ e2 (λz=>hb1.Df _ (z ▸ e2)) (λz=>by rw[z,c1] at e2;cases e2))
 ·obtain⟨_,_,_,_,_,_,vs,CW,rfl,h1,h2,h3,h4,h5⟩:=h;simp only[QaP,QaO];obtain⟨ps,hps,tp,wp,rfl,ht,hp⟩:=Paired.Dh e3 hx;have oks:=okl.ok ps (QaC hps);have lX:=oks.hi;have hil:=(Qaf.mp hps).1;have t1:Ak H1 HH:=λc xs e=>h5 _ _ e (λz=>hb1.Df _ (z ▸ e)) (λz=>by rw[z,c1] at e;cases e);have ht:=t1 _ _ ht;have hp:Paired (CZ HH) wp ps:=Paired.Bg hp λ_ _ z=>z.tups t1;refine⟨Aw (by show 0<=1000;decide),λls hls=>?_⟩;simp only[QaP,QaO];have s2:=Ad hls (.lst []);have c2:upd HH ls (.lst []) ls=some (.lst []):=Ac;have nls:b≠ls:=h4.nb hls;have nll:ll≠ls:=Ao h1 hls;have h4':=h4.same s2;refine⟨_,rq,tp,rq,⟨_,SqT.of (s2 _ _ ht)⟩,?_⟩;let J1:YN:=λj U HI=>∃(u5 u6 u7 u8:Option V) (xs:YG) (ps':List Place),U=[js b,js pl,js ll,js tp,js ls,u5,u6,u7,u8,none,none]/\HI ls=some (.lst xs)/\Paired (CZ HI) xs ps'/\Paired Lk ps' (ps.take j)/\Bk HI b (n+48*i+4*j)/\Ag b HH HI;refine Ew (xs:=wp) J1 ⟨_,_,_,_,[],[],rq,c2,.nil,.nil,h4',Ag.of s2⟩ (λj U HI _ h=>?_) (λj x U HI hx h=>?_) (fun U HI h=>?_)
  ·obtain⟨_,_,_,_,xs,ps',rfl,g1,g2,g3,g4,g5⟩:=h;exact SqT.of (g5.tup h4.Df _ _ ht)
  ·obtain⟨u5,u6,u7,u8,xs,ps',rfl,g1,g2,g3,g4,g5⟩:=h;simp only[QaP,QaO];obtain⟨p,hpj,t,u,ds,rfl,ht',hu,hd⟩:=Paired.Dh hp hx;have okp:=oks.ok p (QaC hpj);have s3:=okp.spur;have lds:=Qcd hd;have wN:=(Qaf.mp hpj).1;have tg:=g5.tup h4.Df;have ht':=tg _ _ ht';have hu:=tg _ _ hu;have hd:Paired (Er HI) ds p.spur:=Paired.Bg hd λ_ _ z=>z.tups tg;have lxs:=Qcd g2;have lps:=Qcd g3;rw[Qbv] at lps;refine⟨t,_,rq,SqT.of ht',rq,_,_,rq,_,_,rq,_,_,rq,rq,?_⟩;simp only[QaP,QaO];refine⟨_,rq,rq,_,rq,?_⟩;by_cases k:V.str p.kind=V.str "opener"
   ·have ep:p=opP:=by
     rcases okp.form with⟨f1,f2,f3⟩| f
     ·cases p;cases f1;cases f2;cases f3;rfl
     ·exact absurd k (Hx f)
    rw[QbX k];refine BK ?_;refine⟨_,rq,.inl ⟨rq,_,SqL.of g1⟩,_,rq,_,rq,_,rq,Aw (by show 3<=1000;decide),λt2 ht2=>?_⟩;have w1:=Ad ht2 (.tup [.str p.kind,.int p.addr,.ref u]);have d1:upd HI t2 (.tup [.str p.kind,.int p.addr,.ref u]) t2=some (.tup [.str p.kind,.int p.addr,.ref u]):=Ac;generalize upd HI t2 (.tup [.str p.kind,.int p.addr,.ref u])=HJ at *;have g1':=w1 _ _ g1;have tv:Ak HJ (upd HJ ls (.lst (xs++[.ref t2]))):=(Ag.upd (b:=ls)).tup λxs z=>by rw[g1'] at z;cases z
    have tv2:=Ak.trans (Ak.of w1) tv;refine⟨ls,_,_,rq,rq,g1',Aq (by omega),?_⟩;refine⟨_,_,_,_,xs++[.ref t2],ps'++[p],rq,Ac,Qct ⟨t2,u,ds,rq,tv _ _ d1,tv2 _ _ hu,Paired.Bg hd λ_ _ z=>z.tups tv2⟩ (Paired.Bg g2 λ_ _ z=>z.tups tv2),?_,((g4.same w1).Eo Ag.upd nls).mono (by omega),Ag.Hl (g5.trans (Ag.of w1)) Ag.upd hls⟩;rw[QcB hpj];exact Qct ⟨rq,rq,by rw[ep];exact nU⟩ g3
   ·have hk:Dl p.kind:=by
     rcases okp.form with⟨f,_⟩| f
     ·exact absurd (congrArg V.str f) k
     ·exact f
    rw[QbL k];refine Dn ?_;refine⟨_,rq,b,_,99,rq,g4,by omega,by decide,by decide,λr HA r0 r1 hbA sA=>⟨_,_,rq,rq,?_⟩⟩;simp only[QaP,QaO];have tA:=sA.tup g4.Df;have g1A:=sA _ _ g1 nls.symm;have huA:=tA _ _ hu;have hdA:Paired (Er HA) ds p.spur:=Paired.Bg hd λ_ _ z=>z.tups tA;refine⟨_,rq,.inl ⟨rq,_,SqL.of g1A⟩,_,rq,_,rq,_,rq,u,rq,⟨_,SqT.of huA⟩,λlc hlc=>?_⟩;have nbc:b≠lc:=hbA.nb hlc;let J2:YN:=λk' U HC=>∃(v1 v2:Option V) (ys:YG) (ds':List Dev),U=[v1,v2,js b]/\HC lc=some (.lst ys)/\Paired (Er HC) ys ds'/\ds'.length=k'/\(∀d∈ds',OkD d)/\Bk HC b (n+48*i+4*j+1+k')/\Ag b HA HC;refine G5 (xs:=ds) J2 ⟨none,none,[],[],rq,Ac,.nil,rq,(λd hd=>by cases hd),hbA.same (Ad hlc _),Ag.of (Ad hlc _)⟩ (λk' U HC _ h=>?_) (λk' x U HC hx h=>?_) (fun U HC h=>?_)
    ·obtain⟨_,_,ys,ds',rfl,y1,y2,y3,y4,y5,y6⟩:=h;exact SqT.of (y6.tup hbA.Df _ _ huA)
    ·obtain⟨_,_,ys,ds',rfl,y1,y2,y3,y4,y5,y6⟩:=h;obtain⟨d,hdi,td,rfl,htd⟩:=Paired.Dh hdA hx;have dk:=okp.kinds d (QaC hdi);have hk3:=(Qaf.mp hdi).1;have lys:=Qcd y2;refine⟨td,_,rq,SqT.of (y6.tup hbA.Df _ _ htd),rq,_,_,rq,_,_,rq,rq,?_⟩;refine BK ⟨_,rq,_,rq,b,_,99,rq,y5,by omega,by decide,by decide,λr2 HD r20 r21 hbD sD=>⟨_,_,rq,rq,Aw (by show 2<=1000;decide),λt2 ht2=>?_⟩⟩;have w1:=Ad ht2 (.tup [.str d.kind,.int (1+r2)]);have d1:upd HD t2 (.tup [.str d.kind,.int (1+r2)]) t2=some (.tup [.str d.kind,.int (1+r2)]):=Ac;have y1':=w1 _ _ (sD _ _ y1 nbc.symm);have hbE:=hbD.same w1;have sE:=sD.trans (Ag.of w1);have tE:=sE.tup y5.Df;generalize upd HD t2 (.tup [.str d.kind,.int (1+r2)])=HE at *;have tv:Ak HE (upd HE lc (.lst (ys++[.ref t2]))):=(Ag.upd (b:=lc)).tup λxs z=>by rw[y1'] at z;cases z
     have tv2:=Ak.trans tE tv;refine⟨ys,y1',Aq (by omega),_,_,ys++[.ref t2],ds'++[⟨d.kind,1+r2⟩],rq,Ac,Qct ⟨t2,rq,tv _ _ d1⟩ (Paired.Bg y2 λ_ _ z=>z.tups tv2),by rw[QaN,y3];rfl,λe he=>?_,(hbE.Eo Ag.upd nbc).mono (by omega),Ag.Hl (y6.trans sE) Ag.upd hlc⟩;rcases QbG.mp he with he | he
     ·exact y4 e he
     ·rw[QaR.mp he];exact⟨dk,by show 1<=1+r2/\1+r2<=99;omega⟩
    ·obtain⟨_,_,ys,ds',rfl,y1,y2,y3,y4,y5,y6⟩:=h;rw[lds] at y3 y5;refine⟨lc,_,rq,.inl ⟨SqL.of y1,λt1 ht1=>⟨Aw (by show 3<=1000;decide),λt2 ht2=>?_⟩⟩⟩;have w1:=Ad ht1 (.tup ys);have d1:upd HC t1 (.tup ys) t1=some (.tup ys):=Ac;generalize upd HC t1 (.tup ys)=HD at *;have w2:=Ad ht2 (.tup [.str p.kind,.int (1+r),.ref t1]);have d2:upd HD t2 (.tup [.str p.kind,.int (1+r),.ref t1]) t2=some (.tup [.str p.kind,.int (1+r),.ref t1]):=Ac;have d1:=w2 _ _ d1;generalize upd HD t2 (.tup [.str p.kind,.int (1+r),.ref t1])=HE at *;have w12:=w1.trans w2;have sE:Ag b HI HE:=(sA.trans y6).trans (Ag.of w12);have g1':=sE _ _ g1 nls.symm;have tv:Ak HE (upd HE ls (.lst (xs++[.ref t2]))):=(Ag.upd (b:=ls)).tup λxs z=>by rw[g1'] at z;cases z
     refine⟨ls,_,_,rq,rq,g1',Aq (by omega),?_⟩;refine⟨_,_,_,_,xs++[.ref t2],ps'++[⟨p.kind,1+r,ds'⟩],rq,Ac,Qct ⟨t2,t1,ys,rq,tv _ _ d2,tv _ _ d1,Paired.Bg y2 λ_ _ z=>z.tups (Ak.trans (Ak.of w12) tv)⟩ (Paired.Bg g2 λ_ _ z=>z.tups (Ak.trans (sE.tup g4.Df) tv)),?_,((y5.same w12).Eo Ag.upd nls).mono (by omega),Ag.Hl (g5.trans sE) Ag.upd hls⟩;rw[QcB hpj];exact Qct ⟨rq,y3,nP hk (by omega) (by omega) y4⟩ g3
  ·obtain⟨u5,u6,u7,u8,xs,ps',rfl,g1,g2,g3,g4,g5⟩:=h;rw[Qcd hp] at g3 g4;rw[Qbw] at g3;simp only[QaP,QaO];have h1I:=g5 _ _ h1 nbl.symm;refine⟨_,rq,.inl ⟨rq,_,SqL.of h1I⟩,_,rq,ls,_,rq,.inl ⟨SqL.of g1,λt ht'=>?_⟩⟩;have w1:=Ad ht' (.tup xs);have d1:upd HI t (.tup xs) t=some (.tup xs):=Ac;have h1J:=w1 _ _ h1I;generalize upd HI t (.tup xs)=HJ at *;have lvs:=Qcd h2;have llo:=Qcd h3;rw[Qbv] at llo;refine⟨ll,_,_,rq,rq,h1J,Aq (by omega),?_⟩;have tv:Ak HJ (upd HJ ll (.lst (vs++[.ref t]))):=(Ag.upd (b:=ll)).tup λxs z=>by rw[h1J] at z;cases z
   have tv2:=Ak.trans (Ak.of w1) tv;refine⟨_,_,_,_,_,_,vs++[.ref t],CW++[ps'],rq,Ac,Qct ⟨t,xs,rq,tv _ _ d1,Paired.Bg g2 λ_ _ z=>z.tups tv2⟩ (Paired.Bg h2 λ_ _ z=>z.tups (Ak.trans (g5.tup h4.Df) tv2)),?_,((g4.same w1).Eo Ag.upd nbl).mono (by omega),?_⟩
   ·rw[QcB hps];exact Qct g3 h3
   ·exact λc o e ne1 ne2=>by
     rw[Ar ne2];exact w1 _ _ (g5 _ _ (h5 _ _ e ne1 ne2) ne1)
 obtain⟨u3,u4,u5,u6,u7,u8,vs,CW,rfl,h1,h2,h3,h4,h5⟩:=h;rw[Qcd e3] at h3 h4;rw[Qbw] at h3;simp only[QaP,QaO];refine⟨Aw (by show 0<=1000;decide),λlz hlz=>?_⟩;simp only[QaP,QaO];have s6:=Ad hlz (.lst []);have c6:upd HH lz (.lst []) lz=some (.lst []):=Ac;have nlz:ll≠lz:=Ao h1 hlz;have nbz:b≠lz:=h4.nb hlz;have h1:=s6 _ _ h1;have h2:Paired (LoopAt (upd HH lz (.lst []))) vs CW:=Paired.Bg h2 λ_ _ z=>z.tups (Ak.of s6);have h4:=h4.same s6;have fz:H1 lz=none:=by
  cases e:H1 lz with
  | none=>rfl
  | some o=>rw[h5 _ _ e nbz.symm nlz.symm] at hlz;cases hlz
 have h5:=h5.trans (Bs.of s6);generalize upd HH lz (.lst [])=HK at *;refine⟨_,rq,_,rq,b,_,9,rq,h4,by omega,by decide,by decide,λr6 HU r60 r61 hbU sU=>?_⟩;obtain⟨rn,hrn⟩ : ∃rn:Nat,r6=rn:=⟨r6.toNat,by omega⟩;subst hrn;refine⟨b,_,rn,rq,hbU,by omega,by omega,λln ys HV hln ly hys cH Pr hbV sV=>?_⟩;have sUV:=sU.trans sV;have nzn:lz≠ln:=Ao (sU _ _ c6 nbz.symm) hln;have h1:=sUV _ _ h1 nbl.symm;have c6:=sUV _ _ c6 nbz.symm;have h2:Paired (LoopAt HV) vs CW:=Paired.Bg h2 λ_ _ z=>z.tups (sUV.tup h4.Df);have h5:Bs b ll H1 HV:=h5.trans (Bs.l sUV);have nbn:b≠ln:=hbU.nb hln;have hbV:=hbV.mono (show _<=n+300 by omega);refine⟨ln,rq,⟨_,SqL.of Pr⟩,?_⟩;let J3:YN:=λi U HX=>∃(v10:Option V) (zs':YG) (Dq:List Zone),U=[js b,js pl,js ll,u3,u4,u5,u6,u7,u8,js lz,v10]/\HX lz=some (.lst zs')/\Paired (CT HX) zs' Dq/\Dq.map (·.name)=ys.take i/\(∀z∈Dq,ZnB z)/\Bk HX b (n+300+40*i)/\Bs b lz HV HX;refine Ka (xs:=ys.map V.str) J3 ⟨_,[],[],rq,c6,.nil,rq,(λz hz=>by cases hz),hbV,Bs.of (Same.refl _)⟩ (λi U HX _ h=>?_) (λi x U HX hx h=>?_) (fun U HX h=>?_)
 ·obtain⟨_,zs',Dq,rfl,z1,z2,z3,z4,z5,z6⟩:=h;exact SqL.of (z6 _ _ Pr nbn.symm nzn.symm)
 ·obtain⟨_,zs',Dq,rfl,z1,z2,z3,z4,z5,z6⟩:=h;simp only[QaP,QaO];rw[Qbf] at hx;obtain⟨y,hy,rfl⟩:=Qau.mp hx;have hi:=(Qaf.mp hy).1;have i8:i < 8:=by omega
  have lzz:=Qcd z2;have lzy:=congrArg List.length z3;rw[QbF,Qbv] at lzy;refine⟨_,rq,.inl ⟨rq,_,SqL.of z1⟩,_,rq,_,rq,b,_,30,rq,z5,by omega,by decide,by decide,λr HA r0 r1 hbA sA=>⟨_,_,rq,rq,_,rq,by omega,by omega,λlc hlc=>?_⟩⟩;have nbc:b≠lc:=hbA.nb hlc;let J4:YN:=λk U HC=>∃(u:Option V) (ms:List Int),U=[u,js b]/\HC lc=some (.lst (ms.map V.int))/\ms.length=k/\(∀x∈ms,1<=x/\x<=99)/\Bk HC b (n+300+40*i+1+k)/\Ag b HA HC;refine Mf J4 ⟨none,[],rq,Ac,rq,(λx hx=>by cases hx),hbA.same (Ad hlc _),Ag.of (Ad hlc _)⟩ (λk U HC hk h=>?_) (fun U HC h=>?_)
  ·obtain⟨u,ms,rfl,m1,m2,m3,m4,m5⟩:=h;have hk:k < (1+r).toNat:=hk;refine⟨_,rq,b,_,99,rq,m4,by omega,by decide,by decide,λr2 HD r20 r21 hbD sD=>⟨_,_,rq,rq,?_⟩⟩;have m1':=sD _ _ m1 nbc.symm;refine⟨_,m1',Aq (by rw[QbF];omega),_,ms++[1+r2],rq,by rw[Ac,QbH];rfl,by rw[QaN,m2];rfl,λx hx=>?_,(hbD.Eo Ag.upd nbc).mono (by omega),Ag.Hl (m5.trans sD) Ag.upd hlc⟩;rcases QbG.mp hx with hx | hx
   ·exact m3 x hx
   ·rw[QaR.mp hx];omega
  ·obtain⟨u,ms,rfl,m1,m2,m3,m4,m5⟩:=h;have m2:ms.length=(1+r).toNat:=m2;refine⟨lc,ms,rq,.inl (SqL.of m1),by omega,λss l2 hup hmem hl2=>?_⟩;have w1:=Ad hl2 (.lst (ss.map V.int));have d1:upd HC l2 (.lst (ss.map V.int)) l2=some (.lst (ss.map V.int)):=Ac;generalize upd HC l2 (.lst (ss.map V.int))=HD at *;refine⟨l2,_,rq,.inl ⟨SqL.of d1,λt1 ht1=>⟨Aw (by show 2<=1000;decide),λt2 ht2=>?_⟩⟩⟩;have w2:=Ad ht1 (.tup (ss.map V.int));have d2:upd HD t1 (.tup (ss.map V.int)) t1=some (.tup (ss.map V.int)):=Ac;generalize upd HD t1 (.tup (ss.map V.int))=HE at *;have w3:=Ad ht2 (.tup [.str y,.ref t1]);have d3:upd HE t2 (.tup [.str y,.ref t1]) t2=some (.tup [.str y,.ref t1]):=Ac;have d2:=w3 _ _ d2;generalize upd HE t2 (.tup [.str y,.ref t1])=HF at *;have Ue:=(w1.trans w2).trans w3;have sF:Ag b HX HF:=(sA.trans m5).trans (Ag.of Ue);have z1':=sF _ _ z1 nbz.symm;have tv:Ak HF (upd HF lz (.lst (zs'++[.ref t2]))):=(Ag.upd (b:=lz)).tup λxs z=>by rw[z1'] at z;cases z
   refine⟨lz,_,_,rq,rq,z1',Aq (by omega),?_⟩;have nd:ss.Nodup:=hup.imp λh=>by omega
   have sl:ss.length<=ms.length:=ak nd λx hx=>(hmem x).mp hx;have s1:1<=ss.length:=by
    cases em:ms with
    | nil=>rw[em] at m2;simp at m2;omega
    | cons x _=>
     have:=(hmem x).mpr (by rw[em];exact QaQ);exact List.length_pos_of_mem this
   have yk:=hys y (QaC hy);refine⟨_,zs'++[.ref t2],Dq++[⟨y,ss⟩],rq,Ac,Qct ⟨t2,t1,rq,tv _ _ d3,tv _ _ d2⟩ (Paired.Bg z2 λ_ _ z=>z.tups (Ak.trans (sF.tup z5.Df) tv)),by rw[QcB hy,QbH,z3];rfl,λz hz=>?_,((m4.same Ue).Eo Ag.upd nbz).mono (by omega),?_⟩
   ·rcases QbG.mp hz with hz | hz
    ·exact z4 z hz
    ·rw[QaR.mp hz];exact⟨yk,⟨hup,s1,by show ss.length<=30;omega⟩,λx hx=>m3 x ((hmem x).mp hx)⟩
   ·exact λc o e ne1 ne2=>by
     rw[Ar ne2];exact sF _ _ (z6 _ _ e ne1 ne2) ne1
 obtain⟨v10,zs',Dq,rfl,z1,z2,z3,z4,z5,z6⟩:=h;rw[QbF] at z3 z5;rw[Qbw] at z3;have lnz:Dq.length=ys.length:=by rw[<-z3,QbF]
 have h1:=z6 _ _ h1 nbl.symm nlz;have t6:Ak HV HX:=λc xs e=>z6 _ _ e (λz=>hbV.Df _ (z ▸ e)) (λz=>by rw[z,c6] at e;cases e);have h2:Paired (LoopAt HX) vs CW:=Paired.Bg h2 λ_ _ z=>z.tups t6;refine⟨_,rq,b,_,30,rq,z5,by omega,by decide,by decide,λr HA r0 r1 hbA sA=>⟨_,_,rq,rq,?_⟩⟩;have h1A:=sA _ _ h1 nbl.symm;have z1A:=sA _ _ z1 nbz.symm;refine⟨_,rq,ll,_,rq,.inl ⟨SqL.of h1A,λt1 ht1=>?_⟩⟩;have w1:=Ad ht1 (.tup vs);have d1:upd HA t1 (.tup vs) t1=some (.tup vs):=Ac;have z1A:=w1 _ _ z1A;generalize upd HA t1 (.tup vs)=HB at *;refine⟨_,rq,lz,_,rq,.inl ⟨SqL.of z1A,λt2 ht2=>⟨Aw (by show 3<=1000;decide),λt3 ht3=>?_⟩⟩⟩;have w2:=Ad ht2 (.tup zs');have w3:=Ad ht3 (.tup [.int (1+r),.ref t1,.ref t2]);have Ue:=w1.trans (w2.trans w3);have tA:=Ak.trans (sA.tup z5.Df) (Ak.of Ue);have many:=wz.many h3;refine q t3 t1 t2 vs zs' CW Dq (1+r) _ Ac ((w2.trans w3) _ _ d1) (Paired.Bg h2 λ_ _ z=>z.tups tA) (w3 _ _ Ac) (Paired.Bg z2 λ_ _ z=>z.tups tA) ?_ ?_
 ·have lk:∀ps'∈CW,∃ps∈ja,Paired Lk ps' ps:=Paired.eF h3;have pk:∀ps'∈CW,∀p∈ps',En p:=λps' hps p hp=>by
   obtain⟨ps,_,pp⟩:=lk ps' hps;obtain⟨_,_,k⟩:=Paired.eF pp p hp;exact k.ok
  refine⟨⟨λps' hps=>?_,by rw[Qcd h3];exact hi3⟩,by rw[Qcd h3];exact lo,λx hx=>?_,by rw[many];exact cnt,by omega,z4,by omega,by rw[z3];exact cH⟩
  ·obtain⟨ps,hpl,pp⟩:=lk ps' hps;have ok:=okl.ok ps hpl;exact⟨by rw[Qcd pp];exact ok.lo,by rw[Qcd pp];exact ok.hi,λp hp=>(pk ps' hps p hp).ok⟩
  ·obtain⟨ps',hps,hx⟩:=Qbz.mp hx;obtain⟨p,hp,hx⟩:=Qbz.mp hx;exact (pk ps' hps p hp).bd x hx
 ·exact λc o e ne=>Ue _ _ (sA _ _ (z6 _ _ (h5 _ _ (s1 _ _ e) ne (Ao e fll)) ne (λz=>by rw[z] at e;rw[s1 _ _ e] at fz;cases fz)) ne)
end
theorem Km {a b:List Nat} (h:S a=S b):a=b:=congrArg L h
theorem Pa {a b:Int} (ha:1<=a/\a<=99) (hb:1<=b/\b<=99) (h:Bd a=Bd b):a=b:=by
 obtain⟨n,rfl,hn⟩:=Jz ha;obtain⟨m,rfl,hm⟩:=Jz hb;rw[jd hn hm h]
theorem map_inj {α β : Type} {f:α->β} {P:α->Prop} (hf:∀a b,P a->P b->f a=f b->a=b):∀{xs ys:List α},(∀x∈xs,P x)->(∀y∈ys,P y)->xs.map f=ys.map f->xs=ys
 | [],[],_,_,_=>rfl
 | [],_::_,_,_,h=>by cases h
 | _::_,[],_,_,h=>by cases h
 | x::xs,y::ys,hx,hy,h=>by
  injection h with h1 h2;rw[hf x y (hx x QaQ) (hy y QaQ) h1,map_inj hf (λz hz=>hx z (QaD _ hz)) (λz hz=>hy z (QaD _ hz)) h2]
theorem V0 {d:Dev} (h:OkD d):Txt.partition (S (Bf d)) " "=(S (L d.kind),(" ":Str),S (Bd d.addr)):=K6 (j:=0) (m:=32) (by rw[show L (Str.ofString " ")=[32] from Bv.1];rfl) (λi hi=>absurd hi (QbO _)) (λhc=>by
  have:=Np h.kind _ hc;unfold GQ at this;omega)
theorem V1 {d e:Dev} (hd:OkD d) (he:OkD e) (h:Bf d=Bf e):d=e:=by
 have p:=V0 hd;rw[h,V0 he] at p;injection p with p1 p2;injection p2 with _ p2;have k:e.kind=d.kind:=p1;have a:=Pa he.bd hd.bd (Km p2);cases d;cases e;cases k;cases a;rfl
theorem U6 {p:Place} (h:En p) (k:¬V.str p.kind=V.str "opener"):Txt.partition (S (Bw p)) " : "=if p.spur=[] then (S (Bf ⟨p.kind,p.addr⟩),Str.empty,Str.empty) else (S (Bf ⟨p.kind,p.addr⟩),(" : ":Str),S (Dg p.spur)):=by
 obtain⟨d0,ds⟩:=h.dev k;have l3:=Bv.2.2.1;have n58:58∉Bf ⟨p.kind,p.addr⟩:=λhc=>(La (K9 d0 _ hc)).1 rfl;have pj:(L (Str.ofString " : "))[1]?=some 58:=by rw[show L (Str.ofString " : ")=[32,58,32] from l3];rfl
 rw[G4 k];split
 ·exact RZ pj n58
 ·exact K6 pj (λi hi=>by
   have:i=0:=by omega
   subst this;rw[show L (Str.ofString " : ")=[32,58,32] from l3]
   decide) n58
theorem aL {a b:List Dev} (na:a≠[]) (nb:b≠[]) (ha:∀d∈a,OkD d) (hb:∀d∈b,OkD d) (h:Dg a=Dg b):a=b:=by
 have sp:∀c:List Dev,c≠[]->(∀d∈c,OkD d)->Txt.split (S (Dg c)) ", "=(c.map Bf).map S:=λc nc hc=>Ie (c0:=44) (t:=[32]) (by trivial) Bv.2.1 (λz=>nc (List.map_eq_nil_iff.mp z)) (VG hc);have e:=sp a na ha;rw[h,sp b nb hb] at e;have e:=(map_inj (P:=λ_=>True) (λx y _ _=>Km) (λ_ _=>trivial) (λ_ _=>trivial) e);exact (map_inj (λx y=>V1) hb ha e).symm
theorem dD {p q:Place} (hp:En p) (hq:En q) (h:Bw p=Bw q):p=q:=by
 have op:∀{p:Place},En p->V.str p.kind=V.str "opener"->p=opP:=λ{p} hp k=>by
  rcases hp.ok.form with⟨f1,f2,f3⟩| f
  ·cases p;cases f1;cases f2;cases f3;rfl
  ·exact absurd k (Hx f)
 have sop:∀{p:Place},V.str p.kind=V.str "opener"->S (Bw p)="opener":=λ{p} k=>by unfold Bw;rw[if_pos k];rfl
 by_cases k:V.str p.kind=V.str "opener"
 ·by_cases k':V.str q.kind=V.str "opener"
  ·rw[op hp k,op hq k']
  ·have:=sop k;rw[h] at this;exact absurd this (Rf k')
 by_cases k':V.str q.kind=V.str "opener"
 ·have:=sop k';rw[<-h] at this;exact absurd this (Rf k)
 have e:=U6 hp k;rw[h,U6 hq k'] at e;obtain⟨dp,dsp⟩:=hp.dev k;obtain⟨dq,dsq⟩:=hq.dev k';have ne:Str.empty≠(" : ":Str):=by trivial
 have fin:Bf ⟨q.kind,q.addr⟩=Bf ⟨p.kind,p.addr⟩->p.spur=q.spur->p=q:=λe1 e2=>by
  have:=V1 dq dp e1;injection this with a b;cases p;cases q;cases a;cases b;cases e2;rfl
 by_cases s:p.spur=[]
 ·by_cases s':q.spur=[]
  ·rw[if_pos s,if_pos s'] at e;injection e with e1 _;exact fin (Km e1) (by rw[s,s'])
  ·rw[if_pos s,if_neg s'] at e;injection e with _ e2;injection e2 with e2 _;exact absurd e2.symm ne
 ·by_cases s':q.spur=[]
  ·rw[if_neg s,if_pos s'] at e;injection e with _ e2;injection e2 with e2 _;exact absurd e2 ne
  ·rw[if_neg s,if_neg s'] at e;injection e with e1 e2;injection e2 with _ e2;exact fin (Km e1) (aL s s' dsp dsq (Km e2).symm)
theorem cF {y z:Zone} (hy:ZnB y) (hz:ZnB z) (h:CV y=CV z):y=z:=by
 have sp:∀{z:Zone},ZnB z->Txt.split (S (CV z)) " "=(JC z).map S:=λok=>Ie (c0:=32) (t:=[]) (by trivial) Bv.1 (QbC _ _) (Xa ok);have e:=sp hy;rw[h,sp hz] at e;have e:=map_inj (P:=λ_=>True) (λx y _ _=>Km) (λ_ _=>trivial) (λ_ _=>trivial) e;injection e with _ e;injection e with e1 e2;have e1:z.name=y.name:=congrArg S e1;have e2:=map_inj (λa b=>Pa) hz.bd hy.bd e2;cases y;cases z;cases e1;cases e2;rfl
def okR:Rw->Prop
 | .lp=>True
 | .pl p=>En p
 | .zn z=>ZnB z
theorem ig (z:Zone):(CV z).head?=some 122:=by
 rw[Mr];have e1:L (Str.ofString "zone ")=[122,111,110,101,32]:=by trivial
 rw[e1];rfl
theorem m7 (a b:Rw) (ha:okR a) (hb:okR b) (h:a.txt=b.txt):a=b:=by
 have pz:∀{p:Place} {z:Zone},En p->Bw p≠CV z:=λ{p z} hp e=>by
  obtain⟨c,t,ec,h1,_⟩:=Nf hp;have:=ig z;rw[<-e,ec] at this;exact h1 (QbK this)
 cases a with
 | lp=>
  cases b with
  | lp=>rfl
  | pl p=>exact absurd (congrArg S (show L "loop"=Bw p from h)).symm (Rg hb)
  | zn z=>exact absurd (congrArg S (show L "loop"=CV z from h)).symm (QT z)
 | pl p=>
  cases b with
  | lp=>exact absurd (congrArg S (show Bw p=L "loop" from h)) (Rg ha)
  | pl q=>rw[dD ha hb h]
  | zn z=>exact absurd h (pz ha)
 | zn y=>
  cases b with
  | lp=>exact absurd (congrArg S (show CV y=L "loop" from h)) (QT y)
  | pl p=>exact absurd (show Bw p=CV y from h.symm) (pz hb)
  | zn z=>rw[cF ha hb h]
theorem ZS {most:Int} {ja:YU} {jp:List Zone} (h:PlF most ja jp):∀r∈Jm ja jp,okR r:=λr hm=>by
 rcases QbG.mp hm with hm | hm
 ·obtain⟨ps,hps,hm⟩:=Qbz.mp hm;rcases Qcc.mp hm with rfl | hm
  ·exact True.intro
  ·obtain⟨p,hp,rfl⟩:=Qcm.mp hm;exact h.place hps hp
 ·obtain⟨z,hz,rfl⟩:=Qcm.mp hm;exact h.zb z hz
theorem Qs {most:Int} {ja:YU} {jp:List Zone} (h:PlF most ja jp):Txt.split (S (Eh most ja jp)) "\n"=(CP most ja jp++[[]]).map S:=by
 have:=Ie (y:="\n") (c0:=10) (t:=[]) (by trivial) Bv.2.2.2.1 (ps:=CP most ja jp++[[]]) (by simp) (λr hr=>by
  rcases QbG.mp hr with z | z
  ·exact Xj h r z
  ·rw[QaR.mp z];exact λz=>by cases z)
 rw[Pj] at this;exact this
theorem Z2 {m m':Int} {l l':YU} {z z':List Zone} (h:PlF m l z) (h':PlF m' l' z') (e:Eh m l z=Eh m' l' z'):m=m'/\l=l'/\z=z':=by
 have p:=Qs h;rw[e,Qs h'] at p;have p:=map_inj (P:=λ_=>True) (λx y _ _=>Km) (λ_ _=>trivial) (λ_ _=>trivial) p;have p:=List.append_cancel_right p;injection p with p1 p2;have pm:=List.append_cancel_left p1;have em:=Pa ⟨h'.mo.1,by have:=h'.mo.2;omega⟩ ⟨h.mo.1,by have:=h.mo.2;omega⟩ pm;rw[<-Li,<-Li] at p2;have er:=map_inj m7 (ZS h') (ZS h) p2;have ef:=congrArg foR er;rw[RJ,RJ] at ef;injection ef with e1 e2;exact⟨em.symm,e1.symm,e2.symm⟩
theorem Gq {α : Type} {f:α->PyData} (h:∀a b,PyData.eqv (f a) (f b)=true ↔ a=b):∀xs ys:List α,PyData.eqvAll (xs.map f) (ys.map f)=true ↔ xs=ys
 | [],[]=>⟨λ_=>rfl,λ_=>rfl⟩
 | [],_::_=>⟨λh=>(by cases h),λh=>(by cases h)⟩
 | _::_,[]=>⟨λh=>(by cases h),λh=>(by cases h)⟩
 | x::xs,y::ys=>by
  show (PyData.eqv (f x) (f y)&&PyData.eqvAll (xs.map f) (ys.map f))=true ↔ _;rw[Qbx,h x y,Gq h xs ys,List.cons.injEq]
def Lw (ps:List Place):PyData:=.tuple (ps.map JM)
def Jp (z:Zone):PyData:=.tuple [.str z.name,.tuple (z.adr.map PyData.int)]
def Hu (m:Int) (l:YU) (z:List Zone):PyData:=.tuple [.int m,.tuple (l.map Lw),.tuple (z.map Jp)]
theorem N7 (a b:Int):PyData.eqv (.int a) (.int b)=true ↔ a=b:=by
 show decide (a=b)=true ↔ a=b;exact QaV
theorem fO (a b:Dev):PyData.eqv (LR a) (LR b)=true ↔ a=b:=by
 have:PyData.eqv (LR a) (LR b)=(a.kind == b.kind&&(PyData.eqv (.int a.addr) (.int b.addr)&&true)):=rfl;rw[this,Bool.and_true,Qbx,N7,beq_iff_eq];cases a;cases b;simp
theorem Za (a b:Place):PyData.eqv (JM a) (JM b)=true ↔ a=b:=by
 have:PyData.eqv (JM a) (JM b)=(a.kind == b.kind&&(PyData.eqv (.int a.addr) (.int b.addr)&&(PyData.eqvAll (a.spur.map LR) (b.spur.map LR)&&true))):=rfl;rw[this,Bool.and_true,Qbx,Qbx,N7,beq_iff_eq,Gq fO];cases a;cases b;simp
theorem bh (a b:Zone):PyData.eqv (Jp a) (Jp b)=true ↔ a=b:=by
 have:PyData.eqv (Jp a) (Jp b)=(a.name == b.name&&(PyData.eqvAll (a.adr.map PyData.int) (b.adr.map PyData.int)&&true)):=rfl;rw[this,Bool.and_true,Qbx,beq_iff_eq,Gq N7];cases a;cases b;simp
theorem bx (a b:List Place):PyData.eqv (Lw a) (Lw b)=true ↔ a=b:=Gq Za a b
theorem bw (m m':Int) (l l':YU) (z z':List Zone):PyData.eqv (Hu m l z) (Hu m' l' z')=true ↔ m=m'/\l=l'/\z=z':=by
 have:PyData.eqv (Hu m l z) (Hu m' l' z')=(PyData.eqv (.int m) (.int m')&&(PyData.eqvAll (l.map Lw) (l'.map Lw)&&(PyData.eqvAll (z.map Jp) (z'.map Jp)&&true))):=rfl;rw[this,Bool.and_true,Qbx,Qbx,N7,Gq bx,Gq bh]
def Ik (d:PyData) (k:Nat):Prop:=d.canLay0=true/\d.depth<=k
theorem Xp {k:Nat}:∀{ds:List PyData},(∀d∈ds,Ik d k)->PyData.canLayAll0 ds=true/\PyData.depthAll ds<=k
 | [],_=>⟨rfl,Qcs _⟩
 | d::ds,h=>by
  have h1:=h d QaQ;have ih:=Xp λx hx=>h x (QaD _ hx);refine⟨?_,?_⟩
  ·show (PyData.canLay0 d&&PyData.canLayAll0 ds)=true;rw[h1.1,ih.1];rfl
  ·show max (PyData.depth d) (PyData.depthAll ds)<=k;exact Nat.max_le.mpr ⟨h1.2,ih.2⟩
theorem Gp {k:Nat} {ds:List PyData} (h:∀d∈ds,Ik d k):Ik (.tuple ds) (k+1):=by
 obtain⟨h1,h2⟩:=Xp h;exact⟨h1,Nat.succ_le_succ h2⟩
theorem NZ (i:Int) (k:Nat):Ik (.int i) k:=⟨rfl,Qcs _⟩
theorem Ik.mono {d:PyData} {k m:Nat} (h:Ik d k) (l:k<=m):Ik d m:=⟨h.1,Qcn h.2 l⟩
theorem Ry {k:Str} (h:PyData.canLay0 (.str k)=true) (n:Nat):Ik (.str k) n:=⟨h,Qcs _⟩
theorem ji {d:Dev} (h:Dl d.kind):Ik (LR d) 1:=Gp λx hx=>by
 rcases Qcc.mp hx with rfl | hx
 ·exact Ry (VB h) 0
 ·rw[QaR.mp hx];exact NZ _ 0
theorem aA {p:Place} (h:OkP p):Ik (JM p) 3:=Gp λx hx=>by
 have hk:PyData.canLay0 (.str p.kind)=true:=by
  rcases h.form with⟨e,_⟩| e
  ·rw[e];exact kE
  ·exact VB e
 rcases Qcc.mp hx with rfl | hx
 ·exact Ry hk 2
 ·rcases Qcc.mp hx with rfl | hx
  ·exact NZ _ 2
  ·rw[QaR.mp hx];refine Gp λy hy=>?_;obtain⟨d,hd,rfl⟩:=Qcm.mp hy;exact ji (h.kinds d hd)
theorem eO {ps:List Place} (h:OkL ps):Ik (Lw ps) 4:=Gp λx hx=>by
 obtain⟨p,hp,rfl⟩:=Qcm.mp hx;exact aA (h.ok p hp)
theorem eN {z:Zone} (h:ZnB z):Ik (Jp z) 2:=Gp λx hx=>by
 rcases Qcc.mp hx with rfl | hx
 ·exact Ry h.nm.2.ok 1
 ·rw[QaR.mp hx];refine Gp λy hy=>?_;obtain⟨a,_,rfl⟩:=Qcm.mp hy;exact NZ _ 0
theorem Oi {m:Int} {l:YU} {z:List Zone} (h:PlF m l z):SeqAt.shaped (Hu m l z)=true:=by
 have:Ik (Hu m l z) 6:=Gp λx hx=>by
  rcases Qcc.mp hx with rfl | hx
  ·exact NZ _ 5
  ·rcases Qcc.mp hx with rfl | hx
   ·refine Gp λy hy=>?_;obtain⟨ps,hps,rfl⟩:=Qcm.mp hy;exact eO (h.ok.ok ps hps)
   ·rw[QaR.mp hx];refine Gp λy hy=>?_;obtain⟨q,hq,rfl⟩:=Qcm.mp hy;exact (eN (h.zb q hq)).mono (by decide)
 unfold SeqAt.shaped;rw[this.1,QbX (Qcn this.2 (by decide))];rfl
theorem Xx {H:Hp}:∀{vs:YG} {ds:List Dev},Paired (Er H) vs ds->G6 H vs (ds.map LR)
 | _,_,.nil=>.nil
 | _,_,.cons ⟨t,e,q⟩ r=>.cons (e ▸ .tup q (.cons (.str _) (.cons (.int _) .nil))) (Xx r)
theorem RX {H:Hp}:∀{vs:YG} {ds:List Place},Paired (CZ H) vs ds->G6 H vs (ds.map JM)
 | _,_,.nil=>.nil
 | _,_,.cons ⟨t,u,ws,e,q1,q2,q3⟩ r=>.cons (e ▸ .tup q1 (.cons (.str _) (.cons (.int _) (.cons (.tup q2 (Xx q3)) .nil)))) (RX r)
theorem Vv {H:Hp}:∀{vs:YG} {ds:YU},Paired (LoopAt H) vs ds->G6 H vs (ds.map Lw)
 | _,_,.nil=>.nil
 | _,_,.cons ⟨t,ws,e,q1,q2⟩ r=>.cons (e ▸ .tup q1 (RX q2)) (Vv r)
theorem SJ {H:Hp}:∀ns:List Int,G6 H (ns.map V.int) (ns.map PyData.int)
 | []=>.nil
 | _::r=>.cons (.int _) (SJ r)
theorem Ub {H:Hp}:∀{vs:YG} {ds:List Zone},Paired (CT H) vs ds->G6 H vs (ds.map Jp)
 | _,_,.nil=>.nil
 | _,_,.cons ⟨t,u,e,q1,q2⟩ r=>.cons (e ▸ .tup q1 (.cons (.str _) (.cons (.tup q2 (SJ _)) .nil))) (Ub r)
structure PlH (H:Hp) (t:Addr) (most:Int) (ja:YU) (jp:List Zone):Prop extends PlF most ja jp where
 at_:∃Ls zs vs zvs,H t=some (.tup [.int most,.ref Ls,.ref zs])/\H Ls=some (.tup vs)/\Paired (LoopAt H) vs ja/\H zs=some (.tup zvs)/\Paired (CT H) zvs jp
theorem PlH.tups {H H':Hp} {t:Addr} {most:Int} {ja:YU} {jp:List Zone} (h:PlH H t most ja jp) (s:Ak H H'):PlH H' t most ja jp:=by
 obtain⟨pf,Ls,zs,vs,zvs,e1,e2,e3,e4,e5⟩:=h;exact⟨pf,Ls,zs,vs,zvs,s _ _ e1,s _ _ e2,Paired.Bg e3 λ_ _ z=>z.tups s,s _ _ e4,Paired.Bg e5 λ_ _ z=>z.tups s⟩
theorem PlH.k {K:YD} {H:Hp} {t:Addr} {most:Int} {ja:YU} {jp:List Zone} (h:PlH H t most ja jp):PlA K H t most ja jp:=by
 obtain⟨pf,Ls,zs,vs,zvs,e1,e2,e3,e4,e5⟩:=h;exact⟨pf,Ls,zs,vs,zvs,e1,e2,Paired.Bg e3 λ_ _ z=>z.k,e4,e5⟩
theorem PlH.rep {H:Hp} {t:Addr} {most:Int} {ja:YU} {jp:List Zone} (h:PlH H t most ja jp):Rep H (.ref t) (Hu most ja jp):=by
 obtain⟨pf,Ls,zs,vs,zvs,e1,e2,e3,e4,e5⟩:=h;exact .tup e1 (.cons (.int _) (.cons (.tup e2 (Vv e3)) (.cons (.tup e4 (Ub e5)) .nil)))
theorem Ly (K:YD) (H:Hp) (D:Nat) (i:Int):Gs K H (D+1) (.int i) (.int i):=.inl (.inl ⟨i,rfl,rfl⟩)
theorem Pg (K:YD) (H:Hp) (D:Nat) (i:Str):Gs K H (D+1) (.str i) (.str i):=.inl (.inr ⟨i,rfl,rfl⟩)
theorem Paired.both {α β γ : Type} {F:α->γ->Prop} {G:β->γ->Prop} {R:α->β->Prop} (h:∀a b c,F a c->G b c->R a b):∀{l:List α} {r:List β} {m:List γ},Paired F l m->Paired G r m->Paired R l r
 | _,_,_,.nil,.nil=>.nil
 | _,_,_,.cons a t,.cons b u=>.cons (h _ _ _ a b) (Paired.both h t u)
theorem dg {K:YD} {H:Hp} {D:Nat} (x y:V) (d:Dev) (h:Er H x d) (g:Er H y d):Gs K H (D+2) x y:=by
 obtain⟨t,rfl,e⟩:=h;obtain⟨u,rfl,f⟩:=g;exact .inr ⟨t,u,_,_,rq,rq,.inl e,.inl f,by show 2<=100;decide,.cons (Pg ..) (.cons (Ly ..) .nil)⟩
theorem Yn {K:YD} {H:Hp} {D:Nat} (x y:V) (p:Place) (ok:p.spur.length<=3) (h:Gf K H x p) (g:CZ H y p):Gs K H (D+4) x y:=by
 obtain⟨t,u,vs,rfl,e1,e2,e3⟩:=h;obtain⟨t',u',vs',rfl,f1,f2,f3⟩:=g;have l:=Qcd e3;exact .inr ⟨t,t',_,_,rq,rq,e1,.inl f1,by show 3<=100;decide,.cons (Pg ..) (.cons (Ly ..) (.cons (.inr ⟨u,u',_,_,rq,rq,e2,.inl f2,by omega,Paired.both (λa b c=>dg a b c) e3 f3⟩) .nil))⟩
theorem ZQ {K:YD} {H:Hp} {D:Nat} (x y:V) (z:Zone) (ok:z.adr.length<=30) (h:CT H x z) (g:CT H y z):Gs K H (D+3) x y:=by
 obtain⟨t,u,rfl,e1,e2⟩:=h;obtain⟨t',u',rfl,f1,f2⟩:=g;have ii:∀ns:List Int,Paired (Gs K H (D+1)) (ns.map V.int) (ns.map V.int):=λns=>by
  induction ns with
  | nil=>exact .nil
  | cons a r ih=>exact .cons (Ly ..) ih
 exact .inr ⟨t,t',_,_,rq,rq,.inl e1,.inl f1,by show 2<=100;decide,.cons (Pg ..) (.cons (.inr ⟨u,u',_,_,rq,rq,.inl e2,.inl f2,by rw[QbF];omega,ii _⟩) .nil)⟩
theorem Paired.QM {α β : Type} {F:α->β->Prop}:∀{l:List α} {r:List β},Paired F l r->Paired (λa b=>F a b/\b∈r) l r
 | _,_,.nil=>.nil
 | _,_,.cons h t=>.cons ⟨h,QaQ⟩ (Paired.Bg (Paired.QM t) λ_ _ z=>⟨z.1,QaD _ z.2⟩)
theorem ZR {K:YD} {H:Hp} {pl t:Addr} {most:Int} {ja:YU} {jp:List Zone} (h:PlL K H pl most ja jp) (g:PlH H t most ja jp):Gs K H 7 (.ref pl) (.ref t):=by
 obtain⟨Ls,zs,vs,zvs,e1,e2,e3,e4,e5⟩:=h;obtain⟨pf,Ls',zs',vs',Ua,f1,f2,f3,f4,f5⟩:=g;have l1:=Qcd e3;have l2:=Qcd e5;have l3:=pf.ok.hi;have l8:=pf.Mt;refine .inr ⟨pl,t,_,_,rq,rq,.inl e1,.inl f1,by show 3<=100;decide,.cons (Ly ..) (.cons (.inr ⟨Ls,Ls',_,_,rq,rq,.inl e2,.inl f2,by omega,?_⟩) (.cons (.inr ⟨zs,zs',_,_,rq,rq,.inl e4,.inl f4,by omega,?_⟩) .nil))⟩
 ·refine Paired.both (λa b c=>?_) (Paired.QM e3) f3;rintro ⟨⟨t1,w1,rfl,a1,a2⟩,hm⟩ ⟨t2,w2,rfl,b1,b2⟩;have okc:=pf.ok.ok c hm;have l4:=Qcd a2;have l12:=okc.hi;refine .inr ⟨t1,t2,_,_,rq,rq,.inl a1,.inl b1,by omega,?_⟩;exact Paired.both (λa b p q1 q2=>Yn (D:=0) a b p (okc.ok p q1.2).spur q1.1 q2) (Paired.QM a2) b2
 ·exact Paired.both (λa b z q1 q2=>ZQ (D:=2) a b z (pf.zb z q1.2).up.2.2 q1.1 q2) (Paired.QM e5) f5
abbrev Jr:Stmt:=top 47
abbrev gK:YF:=["_law_script"]
theorem JG:Bc ["_law_script","_law_k","_law_bag_here","_law_plan_here","_law_plans","_law_one","_law_text"] gK (Al Jr):=by ac_rfl
section
variable {P:Program} {w:World} {K:YD} {mg:YB} {base:Heap}
theorem cJ {m m':Int} {l l':YU} {z z':List Zone} (h:PlF m l z) (h':PlF m' l' z'):decide (V.str (S (Eh m l z))=V.str (S (Eh m' l' z')))=PyData.eqv (Hu m l z) (Hu m' l' z'):=by
 rw[QbP,QaV,bw];constructor
 ·intro e;exact Z2 h h' (Km (by injection e))
 ·rintro ⟨rfl,rfl,rfl⟩;rfl
theorem kW {f:Addr} {fd:FuncData} (F:Fun K "law" "law" Jr f fd) (T:Nm mg) (RG:Good P w K mg base "_law_bag" 1 K7 (Ye K)) (fJ:Good P w K mg base "_law_plan" 4 JQ Ut) (jq:Good P w K mg base "_law_any" 4 K8 Yg) (Tz:Good P w K mg base "_law_plan_text" 1 Fi (Gi K)) (GP:Good P w K mg base "show_plan" 2 Fw (Gi K)) (WL:Good P w K mg base "read_plan" 10 GC (Yc K)) (Pu:Good P w K mg base "_law_same" 8 JN (Uo K 7)):Io P w K mg base CX0 11 f fd gK (Qm K):=by
 refine F.ok JG (λvs H Q E h=>?_) (λcdv A outer s H vs Q E hr h=>?_)
 ·obtain⟨a,ns,rfl,_⟩:=h;rfl
 obtain⟨a,ns,rfl,hS,h63,q⟩:=h;refine⟨_,(@Af _ _ _ _ _ (Cw QbJ rfl (Ez rfl T.range (Aa (Ay (bJ rfl) rfl T.max Wa (Aa Ae (Aa (Ay (S7 rfl) rfl T.min bQ (Aa Ae (Aa (Ay CG rfl T.len Ek (Aa (pv 0) Ab)) Ab))) Ab))) Ab)) (Ah (i:=1) JG.nd rfl (Or.inl rfl))
 (@Af _ _ _ _ _ (@Az _ _ 2 _ _ _ _ JG.nd rfl (Or.inl rfl) (Ca RG hr (Aa (pv 0) (Aa (pv 1) Ab))) (by rfl) (by first | exact .inl rfl | exact .inr rfl))
 (@Af _ _ _ _ _ (@Az _ _ 3 _ _ _ _ JG.nd rfl (Or.inl rfl) (Dj fJ hr (Aa (pv 2) (Aa Ae (Aa Ae Ab)))) (by rfl) (by first | exact .inl rfl | exact .inr rfl))
 (@Af _ _ _ _ _ (@Az _ _ 4 _ _ _ _ JG.nd rfl (Or.inl rfl) (Cp (Aa (pv 3) (Aa (Ca jq hr (Aa (pv 2) (Aa (pv 3) Ab))) Ab))) (by rfl) (by first | exact .inl rfl | exact .inr rfl))
 (@Af _ _ _ _ _ (Cw QbJ rfl (Ed (pv 4)) (Ah (i:=5) JG.nd rfl (Or.inl rfl))
 (@Af _ _ _ _ _ (@Az _ _ 6 _ _ _ _ JG.nd rfl (Or.inl rfl) (BJ Tz hr (Aa (pv 5) Ab)) (by rfl) (by first | exact .inl rfl | exact .inr rfl))
 (@Ai _ _ _ (Cj (PW.pt (Ip (BX Qw (BJ GP hr (Aa (pv 5) Ab)) (pv 6) (Cd _)) (Iw (Dw (Dd (Ca Pu hr (Aa (BJ WL hr (Aa (pv 6) Ab)) (Aa (pv 5) Ab)))))))) (@Ai _ _ _ (@Ba _ _ _ _ Hv)) BL))))
 (@Ai _ _ _ (Cj (BX Qw (Fv Gm (BJ GP hr (Aa (@Cu _ _ _ _ _ _ _ CJ (pv 4) Ae (λ_ _=>rfl)) Ab)) (BJ GP hr (Aa (@Cu _ _ _ _ _ _ _ CJ (pv 4) Ae (λ_ _=>rfl)) Ab)) (Cd _)) (Fv (kI hr.units) (@Cu _ _ _ _ _ _ _ CJ (pv 4) Ae (λ_ _=>rfl)) (@Cu _ _ _ _ _ _ _ CJ (pv 4) Ae (λ_ _=>rfl)) (Cd _)) (Cd _)) (@Ai _ _ _ (@Ba _ _ _ _ Hv)) BL)))))))
 (@Ai _ _ _ (@Ba _ _ _ _ Hv))),?_⟩
 show let R0:TS:=_;let R1:TS:=_;let R2:TS:=Am _ R1;let R3:TS:=Am (Dy _ _ R2) R0;let R4:TS:=Am _ R3;let R5:TS:=Am _ R4;let R6:TS:=Am _ R5;Am (Dy _ _ R6) _ _ _ _;intro R0 R1 R2 R3 R4 R5 R6;have hl:(ns.map V.int).length=ns.length:=QbF _;refine⟨_,rq,a,_,rq,.inl hS,_,_,rq,_,_,rq,_,rq,?_,?_,?_⟩
 ·rw[hl];split <;> split <;> omega
 ·rw[hl];split <;> split <;> omega
 let J0:YN:=λi U H'=>Same H H'/\∃u1 u2 u3 u4 u5 u6,U=[js a,u1,u2,u3,u4,u5,u6];refine Jh J0 ⟨Same.refl H,_,_,_,_,_,_,rq⟩ (λi U H' hi h=>?_) (fun U H' h=>?_)
 ·obtain⟨sm,u1,u2,u3,u4,u5,u6,rfl⟩:=h;rw[hl] at hi;have hi':(i:Int)<=100:=by
   revert hi;split <;> split <;> omega
  refine⟨_,rq,_,rq,a,ns,_,rq,sm.seq hS,h63,by omega,by omega,λb o hb0 mq=>?_⟩;have s1:Same H (upd H' b o):=sm.trans (Ad hb0 o);have fb:H b=none:=sm.free hb0;generalize upd H' b o=H1 at s1 mq ⊢;refine⟨_,rq,b,0,3,12,rq,mq,by omega,by decide,by decide,by decide,by decide,λt Ls zs vs zvs ja jp most H2 e1 e2 e3 okl lo hi3 e4 e5 pok hb2 sb2=>?_⟩;have s2:=s1.Dc sb2 fb;have pf:PlF most ja jp:=⟨⟨okl,hi3⟩,lo,pok.bd,pok.cnt,pok.mo,λz hz=>⟨pok.znm z hz,pok.zup z hz,λx hx=>?_⟩,pok.Mt,pok.zdi⟩
  ·have ph:PlH H2 t most ja jp:={ toPlF:=pf,at_:=⟨Ls,zs,vs,zvs,e1,e2,e3,e4,e5⟩ };refine⟨_,rq,_,rq,_,rq,b,t,Ls,_,most,.ref zs,vs,ja,rq,hb2,by omega,e1,e2,e3,⟨okl,hi3⟩,lo,pok.cnt,λt' Ls' zs' vs' Ua CW Dq Lq H3 e1' e2' e3' e4' e5' pf' sb3=>⟨Aw (by show 2<=1000;decide),λlp hlp=>?_⟩⟩;have s3:=s2.Dc sb3 fb;have ph:=ph.tups (sb3.tup hb2.Df);have ph':PlH H3 t' Lq CW Dq:={ toPlF:=pf',at_:=⟨Ls',zs',vs',Ua,e1',e2',e3',e4',e5'⟩ };have s4:=Ad hlp (.lst [.ref t,.ref t']);have c4:upd H3 lp (.lst [.ref t,.ref t']) lp=some (.lst [.ref t,.ref t']):=Ac;have ph:=ph.tups (Ak.of s4);have ph':=ph'.tups (Ak.of s4);have s04:=s3.trans s4;generalize upd H3 lp (.lst [.ref t,.ref t'])=H4 at *;refine⟨_,rq,lp,rq,⟨_,SqL.of c4⟩,?_⟩;let J1:YN:=λk U HH=>∃v5 v6,U=[js a,some (.int (0+(i:Int))),js b,js t,js lp,v5,v6]/\Same H4 HH;refine Ka (xs:=[.ref t,.ref t']) J1 ⟨_,_,rq,Same.refl _⟩ (λk U HH _ h=>?_) (λk x U HH hx h=>?_) (fun U HH h=>?_)
   ·obtain⟨_,_,rfl,s⟩:=h;exact SqL.of (s _ _ c4)
   ·obtain⟨_,_,rfl,s⟩:=h;have two:∃tx m l z,x=.ref tx/\PlH H4 tx m l z:=by
     rcases k with _ | _ | k
     ·injection hx with hx;exact⟨t,most,ja,jp,hx.symm,ph⟩
     ·injection hx with hx;exact⟨t',Lq,CW,Dq,hx.symm,ph'⟩
     ·cases hx
    obtain⟨tx,m,l,z,rfl,pt⟩:=two;have pt:=pt.tups (Ak.of s);refine⟨_,rq,tx,m,l,z,rq,pt.k,λH5 s5=>?_⟩;have pt:=pt.tups (Ak.of s5);refine⟨_,rq,tx,m,l,z,rq,pt.k,λH6 s6=>⟨_,rq,rq,_,rq,RD (by simp) ?_⟩⟩;have pt:=pt.tups (Ak.of s6);refine⟨_,rq,m,l,z,rq,pt.toPlF,λpl H7 hpl s7=>⟨_,rq,.ref pl,.ref tx,rq,ZR hpl (pt.tups (Ak.of s7)),λH8 s8=>⟨_,rq,Dn ?_⟩⟩⟩;exact⟨_,_,rq,s.trans (s5.trans (s6.trans (s7.trans s8)))⟩
   ·obtain⟨v5,v6,rfl,s⟩:=h;have ph:=ph.tups (Ak.of s);have ph':=ph'.tups (Ak.of s);have c5:=s _ _ c4;refine⟨_,rq,lp,_,_,_,rq,rq,SqL.of c5,Fy (j:=0) rfl,t,most,ja,jp,rq,ph.k,λH5 s5=>?_⟩;have ph:=ph.tups (Ak.of s5);have ph':=ph'.tups (Ak.of s5);have c6:=s5 _ _ c5;refine⟨_,rq,lp,_,_,_,rq,rq,SqL.of c6,Fy (j:=1) rfl,t',Lq,CW,Dq,rq,ph'.k,λH6 s6=>?_⟩;have ph:=ph.tups (Ak.of s6);have ph':=ph'.tups (Ak.of s6);have c7:=s6 _ _ c6;refine⟨rq,_,rq,lp,_,_,_,rq,rq,SqL.of c7,Fy (j:=0) rfl,_,rq,lp,_,_,_,rq,rq,SqL.of c7,Fy (j:=1) rfl,Hu most ja jp,Hu Lq CW Dq,ph.rep,ph'.rep,Oi pf,Oi pf',rq,_,rq,?_⟩;rw[cJ pf pf'];refine RD (by simp) ?_;exact⟨s04.trans (s.trans (s5.trans s6)),_,_,_,_,_,_,rq⟩
  ·have hw:=pok.zin z hz x hx;exact pok.bd x (cI ⟨okl,hi3⟩ hw)
 ·exact q _
end
structure FnI (K:YD) (x:Str) (st:Stmt):Prop where
 ex:∃(f:Addr) (oc:Value) (od an:Option Addr) (sl:YI) (kV dc pm cd ct:Value),nsIn K mainGlobals x=some (some (.ref f))/\K.lookup f=some ⟨oc,od,.func (fnOf x x (Ey st) (DN st) (Al st) .none kV dc pm an cd ct),sl⟩/\codeIn K cd x=true/\keepIn K (.ref f)=true
theorem FnI.of {K:YD} {x:Str} {st:Stmt} {f:Addr} {oc:Value} {od an:Option Addr} {sl:YI} {kV dc pm cd ct:Value} (a:nsIn K mainGlobals x=some (some (.ref f))) (l:K.lookup f=some ⟨oc,od,.func (fnOf x x (Ey st) (DN st) (Al st) .none kV dc pm an cd ct),sl⟩) (c:codeIn K cd x=true) (k:keepIn K (.ref f)=true):FnI K x st:=⟨f,oc,od,an,sl,kV,dc,pm,cd,ct,a,l,c,k⟩
theorem FnI.code {K:YD} {mg:YB} {h:Heap} {x:Str} {st:Stmt} {ps:YF} (I:FnI K x st) (X:K.In h) (G:h.Ns mainGlobals mg) (hb:∀(kV doc pm:Value) (an:Option Addr) (cdv ct:Value) (us:YE),us.length=ps.length->bindArgs (fnOf x x (Ey st) (DN st) (Al st) .none kV doc pm an cdv ct) ⟨us,[]⟩=pure (ps.zip us)):Code K mg x st ps:=by
 obtain⟨f,oc,od,an,sl,kV,dc,pm,cd,ct,a,l,c,k⟩:=I.ex;exact Code.of X G a l c k hb
def fW:YF->(YE->Prop)->Prop
 | [],P=>P []
 | _::r,P=>∀a,fW r λt=>P (a::t)
theorem XJ:∀(ps:YF) {P:YE->Prop},fW ps P->∀us:YE,us.length=ps.length->P us
 | [],_,h,[],_=>h
 | _::r,_,h,a::t,e=>XJ r (h a) t (Nat.succ.inj e)
theorem fnA {F:Value->Value->Value->Option Addr->Value->Value->FuncData} {ps:YF} (h:∀kV dc pm an cd ct,fW ps λus=>bindArgs (F kV dc pm an cd ct) ⟨us,[]⟩=pure (ps.zip us)) (kV dc pm:Value) (an:Option Addr) (cd ct:Value) (us:YE) (hu:us.length=ps.length):bindArgs (F kV dc pm an cd ct) ⟨us,[]⟩=pure (ps.zip us):=XJ ps (h kV dc pm an cd ct) us hu
theorem all_mk {l:PySem.W.OpenLaw} {w:World} {K:YD} {h:Heap} {mg:YB} {fa fl:Addr} (X:K.In h) (G:h.Ns mainGlobals mg) (hfa:mg "law"=some (.ref fa))
  {odl anl:Option Addr} {sll:YI} {ocl kVl dcl pml cdl ctl:Value}
  (i0:FnI K "is_whole" Js)
  (i1:FnI K "is_within" Kw)
  (i2:FnI K "is_row" O5)
  (i3:FnI K "is_rising" Ky)
  (i4:FnI K "are_rising_within" Eb)
  (i5:FnI K "is_name" M8)
  (i6:FnI K "is_device" Kz)
  (i7:FnI K "is_spur_device" G3)
  (i8:FnI K "is_spur" M6)
  (i9:FnI K "is_place" Lh)
  (i10:FnI K "is_loop" M9)
  (i11:FnI K "is_zone" M5)
  (i12:FnI K "are_loops" KD)
  (i13:FnI K "are_zones" KC)
  (i14:FnI K "is_plan" M7)
  (i15:FnI K "place_devices" Ht)
  (i16:FnI K "devices" Nb)
  (i17:FnI K "show_place" JH)
  (i18:FnI K "show_zone" Kq)
  (i19:FnI K "show_plan" Kr)
  (i20:FnI K "read_number" Jj)
  (i21:FnI K "read_device" Jk)
  (i22:FnI K "read_place" JK)
  (i23:FnI K "read_zone" Ks)
  (i24:FnI K "read_rows" Ku)
  (i25:FnI K "read_plan" Kv)
  (i26:FnI K "_law_bag" Rb)
  (i27:FnI K "_law_take" O1)
  (i28:FnI K "_law_name" Lg)
  (i29:FnI K "_law_names" Kf)
  (i30:FnI K "_law_loop" O4)
  (i31:FnI K "_law_parts" M4)
  (i32:FnI K "_law_plan" Ih)
  (i33:FnI K "_law_plan_text" Jl)
  (i34:FnI K "_law_any" K1)
  (i35:FnI K "_law_same" O2)
  (al:nsIn K mainGlobals "law"=some (some (.ref fl))) (ll:K.lookup fl=some ⟨ocl,odl,.func (fnOf "law" "law" (Ey Jr) (DN Jr) (Al Jr) .none kVl dcl pml anl cdl ctl),sll⟩) (cl:codeIn K cdl "law"=true) (kl:keepIn K (.ref fl)=true)
  (z0:nsIn K mainGlobals "isinstance"=some none)
  (z1:nsIn K mainGlobals "int"=some none)
  (z2:nsIn K mainGlobals "bool"=some none)
  (z3:nsIn K mainGlobals "tuple"=some none)
  (z4:nsIn K mainGlobals "list"=some none)
  (z5:nsIn K mainGlobals "str"=some none)
  (z6:nsIn K mainGlobals "len"=some none)
  (z7:nsIn K mainGlobals "all"=some none)
  (z8:nsIn K mainGlobals "abs"=some none)
  (z9:nsIn K mainGlobals "max"=some none)
  (z10:nsIn K mainGlobals "min"=some none)
  (z11:nsIn K mainGlobals "range"=some none)
  (z12:nsIn K mainGlobals "sorted"=some none)
  (z13:nsIn K mainGlobals "any"=some none)
  (z14:nsIn K mainGlobals "sum"=some none)
  (z15:nsIn K mainGlobals "enumerate"=some none)
  (z16:nsIn K mainGlobals "zip"=some none)
  (z17:nsIn K mainGlobals "reversed"=some none)
  (z18:nsIn K mainGlobals "dict"=some none)
  (z19:nsIn K mainGlobals "ord"=some none)
  (z20:nsIn K mainGlobals "set"=some none)
  {op oe:Addr} {odo ode:Option Addr} {no ne:Nat} {slo sle:YI} {tks tko:Tok} {kd:Addr} {odk:Option Addr} {nk:Nat} {slk:YI} {tq1 tq2 tq3 tq4 o8:Tok} {o9:Tok}
  (ao:nsIn K mainGlobals "OPENER"=some (some (.ref op)))
  (lo:K.lookup op=some ⟨.type "tuple",odo,.seq #[.str "opener" tks,.int 0 tko,.ref oe] no,slo⟩)
  (lq2:K.lookup oe=some ⟨.type "tuple",ode,.seq #[] ne,sle⟩)
  (aKd:nsIn K mainGlobals "KINDS"=some (some (.ref kd)))
  (lKd:K.lookup kd=some ⟨.type "tuple",odk,.seq #[.str "seeker" tq1,.str "knob" tq2,.str "bell" tq3,.str "door" tq4] nk,slk⟩)
  (aSL:nsIn K mainGlobals "SMALL_LETTERS"=some (some (.str "abcdefghijklmnopqrstuvwxyz" o8)))
  (aFg:nsIn K mainGlobals "FIGURES"=some (some (.str "0123456789" o9)))
  : ∃fd:FuncData,(∀(s:Shared) (v:Value),BindsTo s fd ⟨[v],[]⟩ [("_law_script",v)])/\∀base:Heap,K.In base->base.Ns mainGlobals mg->Io l.prog w K mg base CX0 11 fa fd gK (Qm K):=by
 have e:=hfa.symm.trans (mg_of X G al);cases e;have TN:Nm mg:=⟨mg_none_of X G z0,mg_none_of X G z1,mg_none_of X G z2,mg_none_of X G z3,mg_none_of X G z4,mg_none_of X G z5,mg_none_of X G z6,mg_none_of X G z7,mg_none_of X G z8,mg_none_of X G z9,mg_none_of X G z10,mg_none_of X G z11,mg_none_of X G z12,mg_none_of X G z13,mg_none_of X G z14,mg_none_of X G z15,mg_none_of X G z16,mg_none_of X G z17,mg_none_of X G z18,mg_none_of X G z19,mg_none_of X G z20⟩;have TX:Tx K mg op oe:=⟨TN,⟨_,mg_of X G ao,rq⟩,λH=>.inr ⟨_,_,_,lo,rq,rq,(by show 3<=sizeLine;decide),.cons ⟨_,rq⟩ (.cons ⟨_,rq⟩ (.cons rfl .nil))⟩,λH=>.inr ⟨_,_,_,lq2,rq,rq,(by show 0<=sizeLine;decide),.nil⟩⟩;have TY:Ty K mg op oe kd kd:={ toTx:=TX,KINDS:=⟨_,mg_of X G aKd,rq⟩,kdT:=λH=>.inr ⟨_,_,_,lKd,rq,rq,(by show 4<=sizeLine;decide),.cons ⟨_,rq⟩ (.cons ⟨_,rq⟩ (.cons ⟨_,rq⟩ (.cons ⟨_,rq⟩ .nil)))⟩,SMALL_LETTERS:=⟨_,mg_of X G aSL,⟨_,rq⟩⟩ };have TF:Tf K mg op oe:={ toTx:=TX,FIGURES:=⟨_,mg_of X G aFg,⟨_,rq⟩⟩ };have Zj:=i0.code (ps:=Fb) X G (fnA λ_ _ _ _ _ _ _=>rfl);have W5:=i1.code (ps:=DG) X G (fnA λ_ _ _ _ _ _ _ _ _=>rfl);have gB:=i2.code (ps:=Dm) X G (fnA λ_ _ _ _ _ _ _ _ _=>rfl);have W6:=i3.code (ps:=GD) X G (fnA λ_ _ _ _ _ _ _=>rfl);have Mq:=i4.code (ps:=Dk) X G (fnA λ_ _ _ _ _ _ _ _ _ _ _=>rfl);have cB:=i5.code (ps:=Jc) X G (fnA λ_ _ _ _ _ _ _=>rfl);have W7:=i6.code (ps:=Fx) X G (fnA λ_ _ _ _ _ _ _ _=>rfl);have Qg:=i7.code (ps:=DX) X G (fnA λ_ _ _ _ _ _ _=>rfl);have cu:=i8.code (ps:=Ja) X G (fnA λ_ _ _ _ _ _ _=>rfl);have Zk:=i9.code (ps:=Hw) X G (fnA λ_ _ _ _ _ _ _=>rfl);have cC:=i10.code (ps:=Jd) X G (fnA λ_ _ _ _ _ _ _=>rfl);have cj:=i11.code (ps:=IW) X G (fnA λ_ _ _ _ _ _ _=>rfl);have W9:=i12.code (ps:=GJ) X G (fnA λ_ _ _ _ _ _ _=>rfl);have W8:=i13.code (ps:=GF) X G (fnA λ_ _ _ _ _ _ _=>rfl);have cA:=i14.code (ps:=Jb) X G (fnA λ_ _ _ _ _ _ _=>rfl);have QS:=i15.code (ps:=Ej) X G (fnA λ_ _ _ _ _ _ _ _ _=>rfl);have cD:=i16.code (ps:=Je) X G (fnA λ_ _ _ _ _ _ _=>rfl);have Wh:=i17.code (ps:=FQ) X G (fnA λ_ _ _ _ _ _ _=>rfl);have WX:=i18.code (ps:=Gx) X G (fnA λ_ _ _ _ _ _ _=>rfl);have WY:=i19.code (ps:=Fw) X G (fnA λ_ _ _ _ _ _ _=>rfl);have TQ:=i20.code (ps:=Du) X G (fnA λ_ _ _ _ _ _ _=>rfl);have TV:=i21.code (ps:=Fg) X G (fnA λ_ _ _ _ _ _ _=>rfl);have Wi:=i22.code (ps:=FT) X G (fnA λ_ _ _ _ _ _ _=>rfl);have W0:=i23.code (ps:=Gy) X G (fnA λ_ _ _ _ _ _ _=>rfl);have W2:=i24.code (ps:=Gz) X G (fnA λ_ _ _ _ _ _ _=>rfl);have W4:=i25.code (ps:=GC) X G (fnA λ_ _ _ _ _ _ _=>rfl);have jE:=i26.code (ps:=K7) X G (fnA λ_ _ _ _ _ _ _ _=>rfl);have gb:=i27.code (ps:=FW) X G (fnA λ_ _ _ _ _ _ _ _=>rfl);have gq:=i28.code (ps:=JR) X G (fnA λ_ _ _ _ _ _ _=>rfl);have cg:=i29.code (ps:=Hh) X G (fnA λ_ _ _ _ _ _ _ _=>rfl);have gA:=i30.code (ps:=JT) X G (fnA λ_ _ _ _ _ _ _ _ _=>rfl);have bZ:=i31.code (ps:=IV) X G (fnA λ_ _ _ _ _ _ _=>rfl);have gk:=i32.code (ps:=JQ) X G (fnA λ_ _ _ _ _ _ _ _ _=>rfl);have T3:=i33.code (ps:=Fi) X G (fnA λ_ _ _ _ _ _ _=>rfl);have jF:=i34.code (ps:=K8) X G (fnA λ_ _ _ _ _ _ _ _=>rfl);have gj:=i35.code (ps:=JN) X G (fnA λ_ _ _ _ _ _ _ _=>rfl);have oY:=aY (st:=Jr) ll cl kl;refine⟨fnOf "law" "law" (Ey Jr) (DN Jr) (Al Jr) .none kVl dcl pml anl cdl ctl,λs v=>.of_eq rfl,λbase _ _=>?_⟩;have RG:=dX (P:=l.prog) (w:=w) (base:=base) jE TN;have Bj:=Z7 (P:=l.prog) (w:=w) (base:=base) gb TN;have uc:=Wq (P:=l.prog) (w:=w) (base:=base) Zj TN;have Y6:=Vi (P:=l.prog) (w:=w) (base:=base) W5 TN uc;have LK:=Z8 (P:=l.prog) (w:=w) (base:=base) gB TN;have tR:=Vk (P:=l.prog) (w:=w) (base:=base) W6 TY;have tL:=Tr (P:=l.prog) (w:=w) (base:=base) Mq TY LK Y6 tR;have tY:=Yy (P:=l.prog) (w:=w) (base:=base) cB TY;have mL:=Vl (P:=l.prog) (w:=w) (base:=base) W7 TY Y6;have tH:=Oc (P:=l.prog) (w:=w) (base:=base) Qg TY LK mL;have tG:=Yw (P:=l.prog) (w:=w) (base:=base) cu TY LK tH;have tW:=Wr (P:=l.prog) (w:=w) (base:=base) Zk TY LK Y6 mL tG;have tZ:=Yz (P:=l.prog) (w:=w) (base:=base) cC TY LK tW;have oM:=Vn (P:=l.prog) (w:=w) (base:=base) W9 TY LK tZ;have tD:=Yv (P:=l.prog) (w:=w) (base:=base) cj TY LK tY tL;have oK:=Vm (P:=l.prog) (w:=w) (base:=base) W8 TY LK tD;have tX:=O9 (P:=l.prog) (w:=w) (base:=base) QS TX;have uh:=YK (P:=l.prog) (w:=w) (base:=base) cD TX tX;have ud:=Yx (P:=l.prog) (w:=w) (base:=base) cA TY LK Y6 oM oK uh;have ug:=Tp (P:=l.prog) (w:=w) (base:=base) Wh;have uf:=Vc (P:=l.prog) (w:=w) (base:=base) WX TN;have mK:=Vd (P:=l.prog) (w:=w) (base:=base) WY TN ug uf;have fH:=Rj (P:=l.prog) (w:=w) (base:=base) TQ TF;have tV:=Rk (P:=l.prog) (w:=w) (base:=base) TV TF fH;have tQ:=Tq (P:=l.prog) (w:=w) (base:=base) Wi TF tV;have tK:=Ve (P:=l.prog) (w:=w) (base:=base) W0 TF fH;have tO:=Vf (P:=l.prog) (w:=w) (base:=base) W2 TF fH tQ tK;have tU:=Vg (P:=l.prog) (w:=w) (base:=base) W4 TF tO ud mK;have mG:=iY (P:=l.prog) (w:=w) (base:=base) gq TN Bj;have aP:=dW (P:=l.prog) (w:=w) (base:=base) cg TN mG;have mH:=iZ (P:=l.prog) (w:=w) (base:=base) gA TN Bj;have mF:=Z6 (P:=l.prog) (w:=w) (base:=base) bZ TN;have mD:=iW (P:=l.prog) (w:=w) (base:=base) gk TN Bj mH mF aP;have mC:=Vh (P:=l.prog) (w:=w) (base:=base) T3 TN;have mJ:=kY (P:=l.prog) (w:=w) (base:=base) jF TN Bj aP;have mz:=iV (P:=l.prog) (w:=w) (base:=base) gj TN 7;exact kW oY TN RG mD mJ mC mK tU mz
theorem walk {l:PySem.W.OpenLaw} {q:Program} {loose:YF} {XP:(YB)->Heap->Prop} {YP:World->Heap->Prop} {d:DefRec} {K:Params->YD} (hn:l.most=some 63) (hdf:d.params.defaults=[])
  (hY:∀(w:World) (h:Heap),YP w h->(K w.params).In h)
  (F:∀(w:World) (mg:YB) (fa:Addr) (h:Heap),(K w.params).In h->h.Ns mainGlobals mg->mg d.name=some (.ref fa) ->
   ∃fd:FuncData,(∀(s:Shared) (u:Value),BindsTo s fd ⟨[u],[]⟩ [("_law_script",u)])/\∀base:Heap,(K w.params).In base->base.Ns mainGlobals mg->Io l.prog w (K w.params) mg base CX0 11 fa fd gK (Qm (K w.params))) :
  PySem.W.WalkO q loose XP YP l.row.toRowW d [] (λf vs=>PySem.call f vs):=
 L2.iu (n:=63) (k:=11) (x:="_law_script") (CX:=λ_=>CX0) (sp:=λw=>Qm (K w.params)) hn (by decide) hdf ⟨rq,by decide,by decide⟩ hY F (λ_ _ a ns hl _ hS=>⟨a,ns,rq,hS,hl,λ_=>rfl⟩) λ_ _ _ _ _ z=>z
end K05
/-! names that stay free of quick twins: the head comes through without them, and the compiled text is much smaller -/
namespace PySem.W.Fast
def tw17205355028986823498:=0
def tw13198746940102903720:=0
def tw7192440693920866447:=0
def tw9725350372652906393:=0
def tw4412323926903885588:=0
def tw3016603674089157824:=0
def tw7205373196310588024:=0
def tw11297560108913364038:=0
def tw782371384400275568:=0
def tw18304184970484195379:=0
def tw7797830639115532078:=0
def tw3942695678225285875:=0
def tw12163856366520570032:=0
def tw14534116527705949929:=0
def tw887005817742750689:=0
def tw4121862799714263994:=0
def tw17382163053053872511:=0
def tw5389136456247578603:=0
def tw15342384524137598826:=0
def tw5314098514799968243:=0
def tw10618309254204484474:=0
def tw8306577746946807904:=0
def tw14821733068751112830:=0
def tw6351209454315290990:=0
def tw4454286560801912775:=0
def tw7820137494606952314:=0
def tw3615985427898371778:=0
def tw143977517273556500:=0
def tw7069210910076541781:=0
def tw11987890908131812007:=0
def tw14549034033312258469:=0
def tw8494059174819953645:=0
def tw10694053561869319118:=0
def tw8528801641772089573:=0
def tw10743897379383602012:=0
def tw16307985502411933184:=0
def tw3703680497616704497:=0
def tw2156704763215843219:=0
def tw17031741545521756031:=0
def tw9097680209682839487:=0
def tw2711051791799837492:=0
def tw16612888164069772461:=0
def tw5012214496025861763:=0
def tw2535096045260707609:=0
def tw6968683534540732534:=0
def tw9296093527639340662:=0
def tw11728435107283792625:=0
def tw6394301587095555269:=0
def tw4177216937796189050:=0
def tw116000173496576735:=0
def tw17589739623581060518:=0
def tw1476172485503209680:=0
def tw2800654260428875461:=0
def tw13656156957346660892:=0
def tw15777017950110968697:=0
def tw12326342881466524453:=0
def tw6710754433660176974:=0
def tw6727586914405451520:=0
def tw11341040642399999456:=0
def tw13273396882385707257:=0
def tw6722008409720057190:=0
def tw7179202211523018323:=0
def tw9795412247779860519:=0
def tw14465499470858612849:=0
def tw9623659101120406335:=0
def tw12641871467764855934:=0
def tw12928421342229604865:=0
def tw11701252905439163857:=0
def tw12611889697637634168:=0
def tw1971939934028607992:=0
def tw16710786549126668905:=0
def tw8744501389787779455:=0
def tw18180694027047848499:=0
def tw12587655020072286897:=0
def tw9409746996342129210:=0
def tw1390253405678254374:=0
def tw13816909517179639935:=0
def tw12135149021646906578:=0
def tw532568852627588502:=0
def tw11530092186422091630:=0
def tw15383668897585919128:=0
def tw11874555881556116187:=0
def tw12096754445141638679:=0
def tw2013266847876489881:=0
def tw13893110220469936020:=0
def tw1629971912450627203:=0
def tw13067518865236119284:=0
def tw4281533902509164572:=0
def tw11185500753518540759:=0
def tw3967012759525618805:=0
def tw10340656220380499398:=0
def tw15806732139640695012:=0
def tw16577328739071958394:=0
def tw7948904370455556605:=0
def tw2412359032702784752:=0
def tw4993277562613680455:=0
def tw5136551356446499870:=0
def tw14481258826983227792:=0
def tw14758052505715894444:=0
def tw1917232742938286588:=0
def tw12254136334601528729:=0
def tw15707182356742460975:=0
def tw5355811039612637769:=0
def tw12725678631205521795:=0
def tw8864062832219959334:=0
def tw9320086957680416435:=0
def tw209515355723207219:=0
def tw12909688889932211647:=0
def tw16181698557481932186:=0
def tw14040247831156565924:=0
def tw9618823103878116576:=0
def tw7123938232014904754:=0
def tw15981759760281286712:=0
def tw3557216770929698399:=0
def tw16048019791279249186:=0
def tw16000668815683794834:=0
def tw2382221931513812821:=0
def tw9066988164474497079:=0
def tw17137541695634150508:=0
def tw16872366317830545006:=0
def tw10051201561558930452:=0
def tw15878089716869328243:=0
def tw8585858090119841359:=0
def tw7776737821695471062:=0
def tw10600059955669744042:=0
def tw8347270919875338611:=0
def tw14242492849544330845:=0
def tw14171867904939331334:=0
def tw17708590989334123532:=0
def tw5388275641859080269:=0
def tw17382385384555121665:=0
def tw15620438465178794497:=0
def tw7070066451179040774:=0
def tw1207732668053543230:=0
def tw7884380361991884330:=0
def tw2953163314056083792:=0
def tw5409264657117857936:=0
def tw3804793807630970885:=0
def tw17173411161296032147:=0
def tw17020667393427085501:=0
def tw1404097290545091486:=0
def tw7230221238861917560:=0
def tw18110558300181713461:=0
def tw6176275006144610228:=0
def tw14635028789443067650:=0
def tw14887290277359370893:=0
def tw15193240699755530841:=0
def tw10271840521761407094:=0
def tw7574483831345944205:=0
def tw16270421236187201661:=0
def tw12748679014533258812:=0
def tw7429255072864376429:=0
def tw6621972752377735513:=0
def tw9449524747771224863:=0
def tw17429285872123750903:=0
def tw8832727280460764424:=0
def tw6339012624093324695:=0
def tw16615849736063581221:=0
def tw11151635089496491274:=0
end PySem.W.Fast
open PySem PySem.W PyProof.Rows
set_option maxRecDepth 100000 in
set_option maxHeartbeats 0 in
theorem PySem.Challenge.cw_warnloop_k05_plans_written_holds : PySem.Challenge.rw_warnloop_k05_plans_written.Holds := by
 w_on;o_law;k_head;(case hw=>w_witness2)
 k_fill
 refine K05.walk (l:=PySem.Challenge.rw_warnloop_k05_plans_written) rfl rfl (λw h Y=>PySem.W.kIn_of Y) ?F
 case F=>
  intro w mg fa h KX G hmg
  refine' K05.all_mk KX G hmg (.of ?ai0 ?li0 ?ci0 ?ki0) (.of ?ai1 ?li1 ?ci1 ?ki1) (.of ?ai2 ?li2 ?ci2 ?ki2) (.of ?ai3 ?li3 ?ci3 ?ki3) (.of ?ai4 ?li4 ?ci4 ?ki4) (.of ?ai5 ?li5 ?ci5 ?ki5) (.of ?ai6 ?li6 ?ci6 ?ki6) (.of ?ai7 ?li7 ?ci7 ?ki7) (.of ?ai8 ?li8 ?ci8 ?ki8) (.of ?ai9 ?li9 ?ci9 ?ki9) (.of ?vZ ?qJ ?uZ ?rN) (.of ?vY ?qI ?uY ?rM) (.of ?vX ?qH ?uX ?rK) (.of ?vW ?qG ?uW ?rJ) (.of ?vV ?qF ?uV ?rH) (.of ?vU ?qD ?uU ?rG) (.of ?vR ?qC ?uT ?rF) (.of ?vQ ?qz ?uR ?rE) (.of ?vP ?qy ?uQ ?rD) (.of ?vO ?qx ?uP ?rC) (.of ?vN ?qw ?uO ?rB) (.of ?vM ?qu ?uN ?rA) (.of ?vL ?qt ?uM ?rm) (.of ?vK ?qp ?uL ?qZ) (.of ?vJ ?qm ?uK ?qY) (.of ?vI ?ql ?uJ ?qX) (.of ?vH ?qj ?uI ?qW) (.of ?vG ?qg ?uH ?qU) (.of ?vD ?qe ?uG ?qT) (.of ?vB ?qd ?uF ?qR) (.of ?vA ?qb ?uE ?qQ) (.of ?vo ?p8 ?uD ?qP) (.of ?vm ?p7 ?uy ?qO) (.of ?vh ?pZ ?ux ?qN) (.of ?vg ?pY ?uw ?qM) (.of ?vf ?pX ?ur ?qL) ?al ?ll ?cl ?kl ?z0 ?z1 ?z2 ?z3 ?z4 ?z5 ?z6 ?z7 ?z8 ?z9 ?z10 ?z11 ?z12 ?z13 ?z14 ?z15 ?z16 ?z17 ?z18 ?z19 ?z20 ?ao ?lo ?lq2 ?aKd ?lKd ?aSL ?aFg
  (case ai0 | li0 | ci0 | ki0 | ai1 | li1 | ci1 | ki1 | ai2 | li2 | ci2 | ki2 | ai3 | li3 | ci3 | ki3 | ai4 | li4 | ci4 | ki4 | ai5 | li5 | ci5 | ki5 | ai6 | li6 | ci6 | ki6 | ai7 | li7 | ci7 | ki7 | ai8 | li8 | ci8 | ki8 | ai9 | li9 | ci9 | ki9 | vZ | qJ | uZ | rN | vY | qI | uY | rM | vX | qH | uX | rK | vW | qG | uW | rJ | vV | qF | uV | rH | vU | qD | uU | rG | vR | qC | uT | rF | vQ | qz | uR | rE | vP | qy | uQ | rD | vO | qx | uP | rC | vN | qw | uO | rB | vM | qu | uN | rA | vL | qt | uM | rm | vK | qp | uL | qZ | vJ | qm | uK | qY | vI | ql | uJ | qX | vH | qj | uI | qW | vG | qg | uH | qU | vD | qe | uG | qT | vB | qd | uF | qR | vA | qb | uE | qQ | vo | p8 | uD | qP | vm | p7 | uy | qO | vh | pZ | ux | qN | vg | pY | uw | qM | vf | pX | ur | qL=>k_is)
  (case al | ll | cl | kl | z0 | z1 | z2 | z3 | z4 | z5 | z6 | z7 | z8 | z9 | z10 | z11 | z12 | z13 | z14 | z15 | z16 | z17 | z18 | z19 | z20 | ao | lo | lq2 | aKd | lKd | aSL | aFg=>k_is)
