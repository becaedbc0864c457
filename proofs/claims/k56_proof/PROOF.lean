import PyProof.Rows.All
import Wide.All
import OpenK.AllK
import Wide.FinOn
import Lean
import PyProof.EqAt
import PyProof.EqKinds
import PyProof.TupleCall
import PySem.Challenge.RW_warnloop_k56_says_claims
set_option linter.all false
set_option Elab.async false
set_option maxRecDepth 100000
set_option maxHeartbeats 4000000
abbrev YA:=PySem.Value→PySem.Shared→Prop
abbrev YH:=Unit→PySem.Shared→Prop
abbrev YB:=PySem.Str→Option PySem.Value
abbrev YC:=List (PySem.Addr×PySem.Obj)
abbrev YD:=PySem.W.Frag
abbrev YI:=Array (Option PySem.Value)
abbrev YE:=List PySem.Value
abbrev YF:=List PySem.Str
abbrev YJ:=List PySem.Expr
theorem rq{α:Sort _}{a:α}:a=a:=rfl
local macro_rules|`(tactic|trivial)=>`(tactic|decide +kernel)
local macro_rules | `(tactic|ac_rfl) => `(tactic|exact ⟨rfl,rfl,rfl,by decide +kernel,rfl,by decide +kernel,by decide +kernel⟩)
open PySem.W (instObj hideAll hideAll_get lookIn plainGet hasDictIn findIn isFn makesIn emptyDict keepIn kitOne kia_one callWith_K fnOf codeIn nsIn mg_of KeysLit mg_none_of)
abbrev Qaa:=@PyProof.Rows.slot_tupleiter_next
abbrev Qab:=@PyProof.Rows.slot_tuple_getitem
abbrev Qac:=@PyProof.Rows.callWith_type1
abbrev Qad:=@List.getElem?_append_right
abbrev Qae:=@List.getD_eq_getElem?_getD
abbrev Qaf:=@List.getElem?_eq_some_iff
abbrev Qag:=@Array.getElem?_eq_getElem
abbrev Qah:=@List.pairwise_iff_getElem
abbrev Qai:=@List.drop_eq_getElem_cons
abbrev Qaj:=@List.getElem?_eq_getElem
abbrev Qak:=@PySem.wpAny_callSpecial?_slot
abbrev Qal:=@Int.eq_ofNat_of_zero_le
abbrev Qam:=@PySem.Heap.get?_push_of_some
abbrev Qan:=@Option.map_eq_some_iff
abbrev Qao:=@List.take_of_length_le
abbrev Qap:=@List.mem_append_right
abbrev Qaq:=@Array.getElem?_toList
abbrev Qar:=@PySem.Heap.get?_update_self
abbrev Qas:=@List.length_singleton
abbrev Qat:=@List.length_filter_le
abbrev Qau:=@List.mem_of_getElem?
abbrev Qav:=@List.mem_cons_of_mem
abbrev Qaw:=@List.getElem?_of_mem
abbrev Qax:=@PySem.Around.under_plainId
abbrev Qay:=@List.forall_mem_nil
abbrev Qaz:=@PySem.Heap.get?_push_size
abbrev QaA:=@Array.length_toList
abbrev QaB:=@PySem.Heap.SameBut.update
abbrev QaC:=@PySem.mem_of_lookup
abbrev QaD:=@List.replicate_succ
abbrev QaE:=@beq_eq_false_iff_ne
abbrev QaF:=@List.length_append
abbrev QaG:=@Bool.false_ne_true
abbrev QaH:=@Nat.lt_of_lt_of_le
abbrev QaI:=@List.mem_cons_self
abbrev QaK:=@List.mem_singleton
abbrev QaL:=@Bool.false_eq_true
abbrev QaM:=@decide_eq_true_iff
abbrev QaN:=@PySem.wpAny_pyIter_tuple
abbrev QaO:=@List.filter_append
abbrev QaP:=@PySem.wpAny_Call_Name_kw
abbrev QaQ:=@PySem.wpAny_setField_rec
abbrev QaR:=@List.length_zipIdx
abbrev QaS:=@Int.emod_lt_of_pos
abbrev QaT:=@List.size_toArray
abbrev QaU:=@List.getElem?_map
abbrev QaV:=@of_decide_eq_true
abbrev QaW:=@PySem.wpAny_truthy_bool
abbrev QaX:=@PySem.wpAny_setState_of
abbrev QaY:=@Int.toNat_natCast
abbrev QaZ:=@Nat.lt_succ_of_lt
abbrev Qba:=@PySem.wpAny_pyIter_list
abbrev Qbb:=@PySem.wpAny_newObj_type
abbrev Qbc:=@List.length_range
abbrev Qbd:=@List.flatten_cons
abbrev Qbe:=@not_false_eq_true
abbrev Qbf:=@bne_self_eq_false
abbrev Qbg:=@Bool.and_eq_true
abbrev Qbh:=@List.not_mem_nil
abbrev Qbi:=@List.length_take
abbrev Qbj:=@List.length_cons
abbrev Qbk:=@List.take_length
abbrev Qbl:=@PySem.wpAny_call_entry
abbrev Qbm:=@List.length_drop
abbrev Qbn:=@List.filter_cons
abbrev Qbo:=@List.all_eq_true
abbrev Qbp:=@Nat.lt_succ_self
abbrev Qbq:=@List.length_tail
abbrev Qbr:=@PySem.wpAny_askSetting
abbrev Qbs:=@List.length_map
abbrev Qbt:=@List.map_append
abbrev Qbu:=@decide_eq_false
abbrev Qbv:=@Option.some.inj
abbrev Qbw:=@List.nodup_cons
abbrev Qbx:=@List.mem_append
abbrev Qbz:=@Nat.min_eq_left
abbrev QbA:=@Bool.eq_iff_iff
abbrev QbB:=@List.append_nil
abbrev QbC:=@List.find?_cons
abbrev QbD:=@PySem.codeAny_builtin
abbrev QbE:=@Int.emod_nonneg
abbrev QbF:=@decide_eq_true
abbrev QbG:=@PySem.Heap.size_push
abbrev QbH:=@List.nodup_nil
abbrev QbI:=@PySem.wpAny_seqItems
abbrev QbJ:=@PySem.isSubtype_type
abbrev QbK:=@List.mem_cons
abbrev QbL:=@Bool.true_and
abbrev QbM:=@List.map_cons
abbrev QbN:=@PySem.Paired.length
abbrev QbO:=@Nat.lt_irrefl
abbrev QbP:=@PySem.wpAny_holding
abbrev QbR:=@List.any_cons
abbrev QbS:=@PySem.wpAny_attempt
abbrev QbT:=@PySem.Heap.lt_size
abbrev QbU:=@Nat.ne_of_lt
abbrev QbV:=@Nat.le_trans
abbrev QbW:=@List.mem_map
abbrev QbX:=@Nat.ne_of_gt
abbrev QbY:=@List.all_map
abbrev QbZ:=@Nat.le_refl
abbrev Qca:=@Nat.zero_le
abbrev Qcb:=@PySem.wpAny_field
abbrev Qcc:=@PySem.wpAny_bind
abbrev Qcd:=@PySem.wpAny_pure
abbrev Qce:=@PySem.wpAny_mono
abbrev Qcf:=@PySem.wpAny_rule
abbrev Qcg:=@PyProof.Rows.take_snoc
abbrev Qch:=@or_false
abbrev Qci:=@if_false
namespace L2
open PySem PySem.Spec PyProof.Rows
abbrev Key:=Sum Int Str
def Z5:Key->Value->Bool
 | .inl k,v=>Value.isInt k v
 | .inr x,v=>Value.isStrOf x v
def lO (w:World):Key->Int
 | .inl k=>hashInt k
 | .inr x=>hashStr w x
theorem Dh:∀{k:Key} {v:Value},Z5 k v=true->(∃i t,k=Sum.inl i/\v=Value.int i t)\/(∃x t,k=Sum.inr x/\v=Value.str x t)
 | .inl i,v,h=>by
  obtain⟨t,e⟩:=Value.isInt_shape (k:=i) (v:=v) h;exact .inl ⟨i,t,rq,e⟩
 | .inr x,v,h=>by
  obtain⟨t,e⟩:=Value.isStrOf_shape (x:=x) (v:=v) h;exact .inr ⟨x,t,rq,e⟩
theorem fC (a b:Int):decide ((Sum.inl a:Key)=Sum.inl b)=(a == b):=by
 by_cases e:a=b
 ·subst e;simp
 ·have h:¬(Sum.inl a:Key)=Sum.inl b:=λq=>e (Sum.inl.inj q);rw[Qbu h];exact (QaE.mpr e).symm
theorem eZ (a b:Str):decide ((Sum.inr a:Key)=Sum.inr b)=decide (a=b):=by
 by_cases e:a=b
 ·subst e;simp
 ·have h:¬(Sum.inr a:Key)=Sum.inr b:=λq=>e (Sum.inr.inj q);rw[Qbu h,Qbu e]
theorem fB (a:Int) (b:Str):decide ((Sum.inl a:Key)=Sum.inr b)=false:=Qbu (λq=>nomatch q)
theorem fj (a:Str) (b:Int):decide ((Sum.inr a:Key)=Sum.inl b)=false:=Qbu (λq=>nomatch q)
def Ph (prog:Program) (w:World):PySem.KeyKind prog w Key where
 is:=Z5
 hash:=lO w
 inj:=λv a b ha hb=>by
  rcases Dh ha with⟨i,t,rfl,rfl⟩|⟨x,t,rfl,rfl⟩
  ·rcases Dh hb with⟨j,u,rfl,e⟩|⟨y,u,rfl,e⟩
   ·injection e with e1 _;rw[e1]
   ·exact nomatch e
  ·rcases Dh hb with⟨j,u,rfl,e⟩|⟨y,u,rfl,e⟩
   ·exact nomatch e
   ·injection e with e1 _;rw[e1]
 byValue:=λk v h=>by
  rcases Dh h with⟨i,t,rfl,rfl⟩|⟨x,t,rfl,rfl⟩ <;> rfl
 pyHash:=λhv h=>by
  rcases Dh hv with⟨i,t,rfl,rfl⟩|⟨x,t,rfl,rfl⟩
  ·exact wpAny_pyHash_int h
  ·exact wpAny_pyHash_str h
 eqBool:=λhu hv h=>by
  rcases Dh hu with⟨i,t,rfl,rfl⟩|⟨x,t,rfl,rfl⟩
  ·rcases Dh hv with⟨j,u,rfl,rfl⟩|⟨y,u,rfl,rfl⟩
   ·rw[fC] at h;exact wpAny_eqBool_int h
   ·rw[fB] at h;exact SeqAt.EqAt.int_str i t y u _ _ _ _ h
  ·rcases Dh hv with⟨j,u,rfl,rfl⟩|⟨y,u,rfl,rfl⟩
   ·rw[fj] at h;exact SeqAt.EqAt.str_int x t j u _ _ _ _ h
   ·rw[eZ] at h;exact wpAny_eqBool_str h
 «strs»:=λk x t v h=>by
  rcases Dh h with⟨i,u,rfl,e⟩|⟨y,u,rfl,e⟩
  ·exact nomatch e
  ·injection e with e1 _;subst e1;cases v <;> rfl
inductive V where
 | non | bl (b:Bool) | int (i:Int) | str (x:Str) | byt (b:Array UInt8) | flt (b:UInt64) | ref (a:Addr) | ty (n:String)
 deriving DecidableEq
def RelV:V->Value->Prop
 | .non,u=>u=Value.none
 | .bl b,u=>u=Value.bool b
 | .int i,u=>∃t,u=Value.int i t
 | .str x,u=>∃t,u=Value.str x t
 | .byt b,u=>∃t,u=Value.bytes b t
 | .flt b,u=>∃t,u=Value.float b t
 | .ref a,u=>u=Value.ref a
 | .ty n,u=>u=Value.type n
abbrev YG:=List V
abbrev Vals:YG->YE->Prop:=Paired RelV
theorem Vals.length {xs:YG} {us:YE} (r:Vals xs us):xs.length=us.length:=QbN r
theorem Vals.get:∀{xs:YG} {us:YE} {i:Nat} {x:V},Vals xs us->xs[i]?=some x->∃u,us[i]?=some u/\RelV x u
 | _,_,_,_,.nil,e=>by simp at e
 | _,_,0,_,.cons r _,e=>by simp at e;subst e;exact⟨_,rfl,r⟩
 | _,_,i+1,x,.cons _ t,e=>by
  obtain⟨u,h1,h2⟩:=Vals.get (i:=i) (x:=x) t (by simpa using e);exact⟨u,by simpa using h1,h2⟩
theorem Vals.set {x:V} {u:Value} (r:RelV x u):∀{xs:YG} {us:YE} (i:Nat),Vals xs us->Vals (xs.set i x) (us.set i u)
 | _,_,_,.nil=>.nil
 | _,_,0,.cons _ t=>.cons r t
 | _,_,i+1,.cons q t=>.cons q (Vals.set r i t)
theorem Vals.append:∀{xs ys:YG} {us ws:YE},Vals xs us->Vals ys ws->Vals (xs++ys) (us++ws)
 | _,_,_,_,.nil,s=>s
 | _,_,_,_,.cons r t,s=>.cons r (Vals.append t s)
theorem Vals.take:∀{xs:YG} {us:YE} (n:Nat),Vals xs us->Vals (xs.take n) (us.take n)
 | _,_,0,_=>.nil
 | _,_,_+1,.nil=>.nil
 | _,_,n+1,.cons r t=>.cons r (Vals.take n t)
theorem Vals.drop:∀{xs:YG} {us:YE} (n:Nat),Vals xs us->Vals (xs.drop n) (us.drop n)
 | _,_,0,r=>r
 | _,_,_+1,.nil=>.nil
 | _,_,n+1,.cons _ t=>Vals.drop n t
theorem Vals.none_of:∀{xs:YG} {us:YE} {i:Nat},Vals xs us->xs[i]?=none->us[i]?=none:=λ{xs us i} r e=>by
 have h1:=r.length;have h2:xs.length<=i:=List.getElem?_eq_none_iff.mp e;exact List.getElem?_eq_none_iff.mpr (by omega)
def Ge:Option V->Option Value->Prop
 | some v,some u=>RelV v u
 | none,none=>True
 | _,_=>False
def KV {κ : Type}:List (κ×V)->List (κ×Value)->Prop:=Paired λ(p:κ×V) (q:κ×Value)=>p.1=q.1/\RelV p.2 q.2
def kV:Key->V
 | .inl i=>.int i
 | .inr x=>.str x
inductive HO where
 | lst (xs:YG)
 | tup (xs:YG)
 | dK (kvs:List (Key×V)) | dT (kvs:List (List Key×V))
 | set (S:Int->Bool) (n:Nat)
 | ins (C dx:Addr) (fs:List (Str×V))
 | own (x:Addr)
 | xd (fs:List (Str×V))
 | met (f x:Addr)
 | rng (lo hi:Int)
 | frz (o:Obj) (u:HO)
 | tbl (ps:Array Value)
 | ext (φ : Heap->Prop)
abbrev Hp:=Addr->Option HO
def upd (H:Hp) (a:Addr) (o:HO):Hp:=λb=>if b=a then some o else H b
theorem Ad {H:Hp} {a:Addr} {o:HO}:upd H a o a=some o:=by unfold upd;rw[if_pos rfl]
theorem Bp {H:Hp} {a b:Addr} {o:HO} (h:b≠a):upd H a o b=H b:=by unfold upd;rw[if_neg h]
theorem BJ {H:Hp} {a b:Addr} {o:HO} (h:H a=some o) (h':H b=none):a≠b:=by
 intro e;subst e;rw[h] at h';cases h'
section
variable (P:Program) (w:World)
def Cj (H:Hp) (h:Heap) (a:Addr):HO->Prop
 | .lst xs=>xs.length<=sizeLine/\∃(its:YE) (n:Nat),Vals xs its/\h.get? a=some { cls:=.type "list",data:=.seq its.toArray n }
 | .tup xs=>xs.length<=sizeLine/\∃its:YE,Vals xs its/\IsTup h a its.toArray
 | .dK kvs=>kvs.length<=sizeLine/\(a == sysModules)=false/\∃vs,KV kvs vs/\h.DictOf (Ph P w) a vs
 | .dT kvs=>kvs.length<=sizeLine/\(a == sysModules)=false/\∃xs:List (List Key×Addr×Value),
   Paired (λ(p:List Key×V) (q:List Key×Addr×Value)=>p.1=q.1/\H q.2.1=some (.tup (p.1.map kV))/\RelV p.2 q.2.2) kvs xs /\
   ∃o es ep,h.get? a=some o/\o.ExactDict/\o.data=.dict es ep/\es.toList=xs.map (entryOfKey (tupleKind (Ph P w)))/\(xs.map (·.1)).Nodup
 | .set S n=>h.SetOf (intKind P w) a S n
 | .ins C dx fs=>H dx=some (.own a)/\fs.length<=1000/\dx≠a/\h.get? a=some (instObj C dx) /\
   ∃mA,h.Ns1 dx mA/\(∀f,Ge (fs.lookup f) (mA f))/\PySem.Within mA (fs.map (·.1))
 | .own _=>∃o,h.get? a=some o
 | .xd fs=>∃mA,h.Ns1 a mA/\∀f,Ge (fs.lookup f) (mA f)
 | .rng lo hi=>∃t u v,h.get? a=some { cls:=.type "range",data:=.fields #[.int lo t,.int hi u,.int 1 v] }
 | .frz o u=>h.get? a=some o/\Cj H h a u
 | .tbl ps=>h.get? a=some { cls:=.none,data:=.fields ps }
 | .met f x=>h.get? a=some (PySem.W.methodObj (.ref f) (.ref x))
 | .ext φ=>φ h/\(∃o,h.get? a=some o)/\∀h1 h2:Heap,φ h1->(∀o,h1.get? a=some o->h2.get? a=some o)->φ h2
def HOk (H:Hp) (h:Heap):Prop:=∀a o,H a=some o->Cj P w H h a o
end
section
variable {P:Program} {w:World} {H H':Hp} {h h':Heap} {a:Addr} {o:HO}
theorem Cj.lt (x:Cj P w H h a o):a < h.objs.size:=by
 cases o with
 | lst xs=>obtain⟨_,_,_,_,e⟩:=x;exact QbT e
 | tup xs=>obtain⟨_,_,_,p⟩:=x;exact p.lt
 | dK kvs=>obtain⟨_,_,_,_,o,_,_,e,_⟩:=x;exact QbT e
 | dT kvs=>obtain⟨_,_,_,_,o,_,_,e,_⟩:=x;exact QbT e
 | set S n=>obtain⟨o,_,_,_,e,_⟩:=x;exact QbT e
 | ins C dx fs=>obtain⟨_,_,_,e,_⟩:=x;exact QbT e
 | own y=>obtain⟨_,e⟩:=x;exact QbT e
 | xd fs=>obtain⟨_,⟨_,_,_,e,_⟩,_⟩:=x;exact QbT e
 | rng lo hi=>obtain⟨_,_,_,e⟩:=x;exact QbT e
 | frz ob u=>obtain⟨e,_⟩:=x;exact QbT e
 | tbl ps=>exact QbT (show h.get? a=some _ from x)
 | met f y=>exact QbT (show h.get? a=some _ from x)
 | ext φ=>obtain⟨_,⟨_,e⟩,_⟩:=x;exact QbT e
theorem Paired.Zd {α β : Type} {F G:α->β->Prop}:∀{l₁ : List α} {l₂ : List β},Paired F l₁ l₂->(∀a b,F a b->G a b)->Paired G l₁ l₂
 | _,_,.nil,_=>.nil
 | _,_,.cons r t,f=>.cons (f _ _ r) (Paired.Zd t f)
theorem Cj.stay (x:Cj P w H h a o) (k:∀b u,(b=a\/H b=some (.own a))->h.get? b=some u->h'.get? b=some u)
  (ho:∀b,H b=some (.own a)->H' b=some (.own a)) (ht:∀b xs,H b=some (.tup xs)->H' b=some (.tup xs)):Cj P w H' h' a o:=by
 induction o with
 | lst xs=>obtain⟨z,its,n,r,e⟩:=x;exact⟨z,its,n,r,k _ _ (.inl rfl) e⟩
 | tup xs=>obtain⟨z,its,r,ob,e,c⟩:=x;exact⟨z,its,r,ob,k _ _ (.inl rfl) e,c⟩
 | dK kvs=>obtain⟨z,y,vs,r,ob,es,ep,e,c⟩:=x;exact⟨z,y,vs,r,ob,es,ep,k _ _ (.inl rfl) e,c⟩
 | dT kvs=>
  obtain⟨z,y,xs,r,ob,es,ep,e,c⟩:=x;exact⟨z,y,xs,Paired.Zd r λp q z=>⟨z.1,ht _ _ z.2.1,z.2.2⟩,ob,es,ep,k _ _ (.inl rfl) e,c⟩
 | set S n=>obtain⟨ob,es,ep,t,e,c⟩:=x;exact⟨ob,es,ep,t,k _ _ (.inl rfl) e,c⟩
 | ins C dx fs=>
  obtain⟨d,z,ne,e,mA,⟨od,es,ep,e2,c⟩,r⟩:=x;exact⟨ho _ d,z,ne,k _ _ (.inl rfl) e,mA,⟨od,es,ep,k _ _ (.inr d) e2,c⟩,r⟩
 | own y=>obtain⟨ob,e⟩:=x;exact⟨ob,k _ _ (.inl rfl) e⟩
 | xd fs=>obtain⟨mA,⟨od,es,ep,e,c⟩,r⟩:=x;exact⟨mA,⟨od,es,ep,k _ _ (.inl rfl) e,c⟩,r⟩
 | rng lo hi=>obtain⟨t,u,v,e⟩:=x;exact⟨t,u,v,k _ _ (.inl rfl) e⟩
 | frz ob u ih=>obtain⟨e,q⟩:=x;exact⟨k _ _ (.inl rfl) e,ih q⟩
 | tbl ps=>
  have e:h.get? a=some { cls:=.none,data:=.fields ps }:=x;show h'.get? a=some { cls:=.none,data:=.fields ps };exact k a _ (.inl rfl) e
 | met f y=>
  have e:h.get? a=some (PySem.W.methodObj (.ref f) (.ref y)):=x;show h'.get? a=some (PySem.W.methodObj (.ref f) (.ref y));exact k a _ (.inl rfl) e
 | ext φ=>obtain⟨p,⟨o,e⟩,st⟩:=x;exact⟨st _ _ p λo q=>k _ _ (.inl rfl) q,⟨o,k _ _ (.inl rfl) e⟩,st⟩
theorem HOk.lt (x:HOk P w H h) (e:H a=some o):a < h.objs.size:=(x a o e).lt
theorem HOk.fresh (x:HOk P w H h) (e:h.objs.size<=a):H a=none:=by
 cases q:H a with
 | none=>rfl
 | some u=>exact absurd (QaH (x.lt q) e) (QbO _)
theorem HOk.kept (x:HOk P w H h) (k:∀b u,h.get? b=some u->h'.get? b=some u):HOk P w H h':=λa o e=>
 (x a o e).stay (λb u _ q=>k b u q) (λ_ q=>q) λ_ _ q=>q
theorem HOk.laid (x:HOk P w H h) (k:∀b u,h.get? b=some u->h'.get? b=some u) (hp:h.objs.size<=a) (new:Cj P w (upd H a o) h' a o):HOk P w (upd H a o) h':=λb u e=>by
 have hn:=x.fresh hp;by_cases hb:b=a
 ·subst hb;rw[Ad] at e;cases e;exact new
 ·rw[Bp hb] at e;exact (x b u e).stay (λc v _ q=>k c v q) (λc q=>by rw[Bp (BJ q hn)];exact q) λc xs q=>by rw[Bp (BJ q hn)];exact q
end
def Rd (H:Hp) (a:Addr) (u:HO):Prop:=H a=some u\/∃o,H a=some (.frz o u)
theorem Rd.of {H:Hp} {a:Addr} {u:HO} (h:H a=some u):Rd H a u:=.inl h
theorem Rd.ok {P:Program} {w:World} {H:Hp} {h:Heap} {a:Addr} {u:HO} (r:Rd H a u) (x:HOk P w H h):Cj P w H h a u:=by
 rcases r with r |⟨o,r⟩
 ·exact x a u r
 ·obtain⟨_,q⟩:=x a _ r;exact q
def Mut:Option HO->Prop
 | some (.lst _)=>True
 | some (.dK _)=>True
 | some (.dT _)=>True
 | some (.set _ _)=>True
 | some (.ins _ _ _)=>True
 | some (.ext _)=>True
 | _=>False
section
variable {P:Program} {w:World} {H:Hp} {h h':Heap} {x e:Addr} {o':HO}
theorem HOk.write (ok:HOk P w H h) (mu:Mut (H x)) (he:e=x\/H e=some (.own x)) (k:∀b u,b≠e->h.get? b=some u->h'.get? b=some u) (heo:∃u,h'.get? e=some u)
  (new:Cj P w (upd H x o') h' x o'):HOk P w (upd H x o') h':=λb u q=>by
 have eE:∀c y,H c=some (.own y)->c≠x:=λc y r z=>by subst z;rw[r] at mu;exact mu
 have Cz:∀c xs,H c=some (.tup xs)->c≠x:=λc xs r z=>by subst z;rw[r] at mu;exact mu
 by_cases hb:b=x
 ·subst hb;rw[Ad] at q;cases q;exact new
 ·rw[Bp hb] at q;by_cases hbe:b=e
  ·have q':H b=some (.own x):=by
    rcases he with z | z
    ·exact absurd (hbe.trans z) hb
    ·rw[hbe];exact z
   rw[q] at q';cases q';obtain⟨v,hv⟩:=heo;exact⟨v,by rw[hbe];exact hv⟩
  ·refine (ok b u q).stay (λc v hc r=>k c v ?_ r) (λc r=>by rw[Bp (eE c b r)];exact r) λc xs r=>by rw[Bp (Cz c xs r)];exact r
   rcases hc with rfl | hc
   ·exact hbe
   ·rintro rfl;rcases he with z | z
    ·exact eE c b hc z
    ·rw[hc] at z;cases z;exact hb rfl
end
structure Un (fs ex:List Addr) (H H':Hp) (h h':Heap):Prop where
 keep:∀b o,h.get? b=some o->H b=none->b∉fs->b∉ex->h'.get? b=some o
 slot:∀b o,h.get? b=some o->H b=none->b∈fs->b∉ex->∃sl,h'.get? b=some { o with slots:=sl }
 free:∀b o,h.get? b=some o->H b=none->b∉ex->H' b=none
 there:∀b o,h.get? b=some o->b∉ex->∃o',h'.get? b=some o'
 tups:∀b xs,H b=some (.tup xs)->H' b=some (.tup xs)
 Gw:∀b o u,H b=some (.frz o u)->H' b=some (.frz o u)
 GJ:∀b ps,H b=some (.tbl ps)->∃more,H' b=some (.tbl (ps++more))
section
variable {fs fs' ex ex':List Addr} {H H1 H2:Hp} {h h1 h2 h':Heap} {a x e:Addr} {o:HO}
theorem Un.any (u:Un fs ex H H1 h h1) {b:Addr} {ob:Obj} (q:h.get? b=some ob) (n:H b=none) (hx:b∉ex):∃sl,h1.get? b=some { ob with slots:=sl }:=by
 by_cases hb:b∈fs
 ·exact u.slot b ob q n hb hx
 ·exact⟨ob.slots,u.keep b ob q n hb hx⟩
theorem Un.trans (a:Un fs ex H H1 h h1) (b:Un fs ex H1 H2 h1 h2):Un fs ex H H2 h h2 where
 keep:=λc ob q n hc hx=>b.keep c ob (a.keep c ob q n hc hx) (a.free c ob q n hx) hc hx
 slot:=λc ob q n hc hx=>by
  obtain⟨sl,e1⟩:=a.slot c ob q n hc hx;obtain⟨sl',e2⟩:=b.slot c _ e1 (a.free c ob q n hx) hc hx;exact⟨sl',e2⟩
 free:=λc ob q n hx=>by
  obtain⟨o',e1⟩:=a.there c ob q hx;exact b.free c o' e1 (a.free c ob q n hx) hx
 there:=λc ob q hx=>by
  obtain⟨o',e1⟩:=a.there c ob q hx;exact b.there c o' e1 hx
 tups:=λc xs q=>b.tups c xs (a.tups c xs q)
 Gw:=λc ob xs q=>b.Gw c ob xs (a.Gw c ob xs q)
 GJ:=λc ps q=>by
  obtain⟨m1,e1⟩:=a.GJ c ps q;obtain⟨m2,e2⟩:=b.GJ c _ e1;exact⟨m1++m2,by rw[e2,Array.append_assoc]⟩
theorem Un.kept (k:∀b u,h.get? b=some u->h'.get? b=some u):Un fs ex H H h h':=
 ⟨λb ob q _ _ _=>k b ob q,λb ob q _ _ _=>⟨ob.slots,k b ob q⟩,λ_ _ _ n _=>n,λb ob q _=>⟨ob,k b ob q⟩,λ_ _ q=>q,λ_ _ _ q=>q,λ_ ps q=>⟨#[],by rw[q];simp⟩⟩
theorem Un.refl:Un fs ex H H h h:=Un.kept λ_ _ q=>q
theorem Un.laid (k:∀b u,h.get? b=some u->h'.get? b=some u) (hp:h.objs.size<=a) (hn:H a=none):Un fs ex H (upd H a o) h h' where
 keep:=λb u q _ _ _=>k b u q
 slot:=λb u q _ _ _=>⟨u.slots,k b u q⟩
 free:=λb u q n _=>by rw[Bp (QbU (QaH (QbT q) hp))];exact n
 there:=λb u q _=>⟨u,k b u q⟩
 tups:=λb xs q=>by rw[Bp (BJ q hn)];exact q
 Gw:=λb u xs q=>by rw[Bp (BJ q hn)];exact q
 GJ:=λb ps q=>⟨#[],by rw[Bp (BJ q hn),q];simp⟩
theorem Un.write (mu:Mut (H x)) (he:e=x\/H e=some (.own x)) (k:∀b u,b≠e->h.get? b=some u->h'.get? b=some u) (heo:∃u,h'.get? e=some u):Un fs ex H (upd H x o) h h':=by
 have hx:∀b,H b=none->b≠x:=λb n z=>by subst z;rw[n] at mu;exact mu
 have hb:∀b,H b=none->b≠e:=λb n z=>by
  subst z;rcases he with r | r
  ·exact hx b n r
  ·rw[n] at r;cases r
 have hm:∀b u,H b=some u->¬Mut (some u)->b≠x:=λb u q nm z=>by subst z;rw[q] at mu;exact nm mu
 refine⟨λb u q n _ _=>k b u (hb b n) q,λb u q n _ _=>⟨u.slots,k b u (hb b n) q⟩,λb u q n _=>by rw[Bp (hx b n)];exact n,λb u q _=>?_,
  λb xs q=>by rw[Bp (hm b _ q λz=>z)];exact q,λb u xs q=>by rw[Bp (hm b _ q λz=>z)];exact q,λb ps q=>⟨#[],by rw[Bp (hm b _ q λz=>z),q];simp⟩⟩
 by_cases hbe:b=e
 ·subst hbe;exact heo
 ·exact⟨u,k b u hbe q⟩
theorem Un.mono (u:Un fs ex H H1 h h1) (hs:∀b∈fs,b∈fs') (hx:∀b∈ex,b∈ex'):Un fs' ex' H H1 h h1:=
 ⟨λb ob q n hb he=>u.keep b ob q n (λz=>hb (hs b z)) λz=>he (hx b z),λ_ _ q n _ he=>u.any q n λz=>he (hx _ z),λb ob q n he=>u.free b ob q n λz=>he (hx b z),λb ob q he=>u.there b ob q λz=>he (hx b z),u.tups,u.Gw,u.GJ⟩
end
def trk (h:Heap) (H:Hp):List Addr:=(List.range h.objs.size).filter λa=>(H a).isSome
def Kr (h:Heap) (H:Hp):Heap:=hideAll h (trk h H)
theorem XM (h:Heap) (H:Hp):(Kr h H).objs.size=h.objs.size:=PySem.W.hideAll_size _ _
theorem Zq {h:Heap} {H:Hp} {b:Addr} {o:Obj} (e:h.get? b=some o) (n:H b=none):(Kr h H).get? b=some o:=
 hideAll_get _ e λhm=>by
  have q:(H b).isSome=true:=(List.mem_filter.mp hm).2;rw[n] at q;simp at q
theorem aZ {h:Heap} {H:Hp} {b:Addr} {o:Obj} (e:(Kr h H).get? b=some o):h.get? b=some o/\H b=none:=by
 have e':h.get? b=some o:=PySem.W.of_hideAll (trk h H) e;refine⟨e',?_⟩;cases q:H b with
 | none=>rfl
 | some x=>
  have hm:b∈trk h H:=List.mem_filter.mpr ⟨List.mem_range.mpr (QbT e'),by simp[q]⟩;have z:(Kr h H).get? b=none:=PySem.W.hideAll_none (trk h H) hm;rw[z] at e;cases e
def cu (g h:Heap) (L:Addr):YC:=(List.range h.objs.size).filterMap λa=>if a=L\/(g.get? a).isSome=true then none else (h.get? a).map λo=>(a,o)
def rest (g h:Heap) (L d:Addr):YC:=(cu g h L).filter λp=>decide (p.1≠d)
structure Mod (K:YD) (mg:YB) (base:Heap):Prop where
 kin:K.In base
 glob:base.Ns mainGlobals mg
 blt:∃mb,base.Ns builtinsNs mb/\∀x:Str,x≠"__name__"->mb x=bootBuiltins x
 nolimit:base.NoLimit
structure Cx where
 prog:Program
 w:World
 K:YD
 mg:YB
 base:Heap
 A:Around
 N:YF
 s₀ : Shared
 H₀ : Hp
 env:Env
 outer:List Env
 stack:List Env
 ex:List Addr
 fn:Str->Bool
 calm:Bool
 pn:YC
 xe:YA
def frs (l:List Env):List Addr:=l.filterMap (·.frame)
abbrev Cx.fs (X:Cx):List Addr:=frs X.outer
def Vis (sc:Scope) (x:Str):Prop:=sc.names.lookup x=some .local\/sc.names.lookup x=some .cell\/sc.names.lookup x=some .free
def Loc (sc:Scope) (x:Str):Prop:=sc.names.lookup x=some .local\/sc.names.lookup x=some .cell
def Look (env:Env) (h:Heap) (m:YB) (x:Str) (u:Value):Prop:=
 (env.kindOf x=some .local/\m x=some u)\/((env.kindOf x=some .cell\/env.kindOf x=some .free)/\∃c,env.cells.lookup x=some c/\h.IsCell c (some u))
structure Cx.Ok (X:Cx):Prop where
 mod:Mod X.K X.mg X.base
 kind:X.env.scope.kind=.function
 glob:X.env.globals=mainGlobals
 blt:X.env.builtins=builtinsNs
 above:X.s₀.heap.objs.size<=X.env.locals
 inj:∀x y c,X.env.cells.lookup x=some c->X.env.cells.lookup y=some c->x=y
 has:∀x,(X.env.kindOf x=some .cell\/X.env.kindOf x=some .free)->∃c,X.env.cells.lookup x=some c
 cab:∀x c,X.fn x=true->X.env.cells.lookup x=some c->X.s₀.heap.objs.size<=c
 hd:X.calm=true->X.A.handled=none
 frames:X.A.frames=some X.stack
 stk:X.stack=X.outer\/(X.stack=X.env::X.outer/\X.env.frame=some X.env.locals)
 exf:∀b∈X.ex,b≠X.env.locals/\∀x c,X.env.cells.lookup x=some c->c≠b
 bs:∀b o,X.base.get? b=some o->X.s₀.heap.get? b=some o/\X.H₀ b=none
 bsz:X.base.objs.size<=X.s₀.heap.objs.size
 Pa:∀b o,X.base.get? b=some o->b∉X.ex
 PX:∀b∈X.ex,b∉X.fs
 G6:X.s₀.heap.FunFrames X.base X.outer
 frf:∀b∈X.fs,X.H₀ b=none
structure Inv (X:Cx) (jb:YC) (σ : List (Option V)) (H:Hp) (s:Shared):Prop where
 ok:X.Ok
 os:s.os=X.s₀.os
 bare:AllBare s.gens
 base:Un X.fs X.ex X.H₀ H X.s₀.heap s.heap
 loc:∃m,s.heap.Ns X.env.locals m/\∀(i:Nat) (x:Str) (v:V),X.N[i]?=some x->σ[i]?=some (some v)->Vis X.env.scope x->∃u,RelV v u/\Look X.env s.heap m x u
 cell:∀x c,X.env.cells.lookup x=some c->∃v,s.heap.IsCell c v
 free:H X.env.locals=none
 Gu:∀x c,X.env.cells.lookup x=some c->H c=none
 pin:∀p∈X.pn++jb,s.heap.get? p.1=some p.2/\H p.1=none/\p.1≠X.env.locals/\p.1∉X.fs/\∀v,p.2.data≠.cell v
 hok:HOk X.prog X.w H s.heap
 len:σ.length=X.N.length
section
variable {X:Cx} {jb:YC} {σ : List (Option V)} {H H':Hp} {s:Shared} {h':Heap}
theorem Cx.Ok.jT (ok:X.Ok) {b:Addr} {o:Obj} (e:X.base.get? b=some o):b∉X.fs:=λhb=>by
 have:=(ok.G6.mem hb).1;rw[e] at this;cases this
theorem Inv.bs (I:Inv X jb σ H s):∀b o,X.base.get? b=some o->s.heap.get? b=some o/\H b=none:=λb o e=>
 ⟨I.base.keep b o (I.ok.bs b o e).1 (I.ok.bs b o e).2 (I.ok.jT e) (I.ok.Pa b o e),I.base.free b o (I.ok.bs b o e).1 (I.ok.bs b o e).2 (I.ok.Pa b o e)⟩
theorem Inv.bk (I:Inv X jb σ H s):∀b o,X.base.get? b=some o->s.heap.get? b=some o:=λb o e=>(I.bs b o e).1
theorem Inv.mod (I:Inv X jb σ H s):Mod X.K X.mg X.base:=I.ok.mod
theorem Inv.kIn (I:Inv X jb σ H s):X.K.In s.heap:=I.ok.mod.kin.keeps I.bk
theorem Inv.nolimit (I:Inv X jb σ H s):s.heap.NoLimit:=I.ok.mod.nolimit.keeps I.bk
theorem Inv.fr (I:Inv X jb σ H s):∃m,Fr X.base X.env.locals s.heap m:=
 let ⟨m,hn,_⟩:=I.loc
 ⟨m,hn,I.bk,QbV I.ok.bsz I.ok.above⟩
theorem Inv.lt (I:Inv X jb σ H s):X.env.locals < s.heap.objs.size:=let ⟨_,hn,_⟩:=I.loc;hn.lt
theorem Inv.sz (I:Inv X jb σ H s):X.s₀.heap.objs.size<=s.heap.objs.size:=QbV I.ok.above (Nat.le_of_lt I.lt)
theorem Inv.eG (I:Inv X jb σ H s) {a:Addr} (h:s.heap.objs.size<=a):a∉X.fs:=λhb=>by
 obtain⟨_,o,ho,_⟩:=I.ok.G6.mem hb;exact absurd (QaH (QbT ho) (QbV I.sz h)) (QbO _)
theorem Inv.cne (I:Inv X jb σ H s):∀x c,X.env.cells.lookup x=some c->c≠X.env.locals:=λx c e z=>by
 obtain⟨v,o,ho,hd⟩:=I.cell x c e;obtain⟨m,⟨o',es,ep,ho',hd',_⟩,_⟩:=I.loc;rw[z,ho'] at ho;cases ho;rw[hd'] at hd;cases hd
theorem Inv.G6 (I:Inv X jb σ H s):s.heap.FunFrames X.base X.outer:=by
 have all:∀(l:List Env),(∀b∈frs l,b∈X.fs)->X.s₀.heap.FunFrames X.base l->s.heap.FunFrames X.base l:=by
  intro l
  induction l with
  | nil=>intro _ _;trivial
  | cons env r ih=>
   intro hs hl;obtain⟨hk,⟨L,o,hf,hn,ho,hd⟩,hr⟩:=hl;have hL:L∈X.fs:=hs L (by unfold frs;rw[List.filterMap_cons,hf];exact QaI);obtain⟨sl,e⟩:=I.base.slot L o ho (I.ok.frf L hL) hL λz=>I.ok.PX L z hL;exact⟨hk,⟨L,_,hf,hn,e,hd⟩,ih (λb hb=>hs b (by unfold frs;rw[List.filterMap_cons,hf];exact Qav _ hb)) hr⟩
 exact all X.outer (λ_ hb=>hb) I.ok.G6
theorem Inv.stack (I:Inv X jb σ H s):s.heap.FunFrames X.base X.stack:=by
 rcases I.ok.stk with e |⟨e,hf⟩
 ·rw[e];exact I.G6
 ·rw[e];obtain⟨m,hn,_⟩:=I.loc;refine .cons (by rw[I.ok.kind];decide) hf hn ?_ I.G6;exact Heap.get?_none_of_le (QbV I.ok.bsz I.ok.above)
theorem Inv.Rb (I:Inv X jb σ H s):∀b∈frs X.stack,b∈X.env.locals::X.fs:=λb hb=>by
 rcases I.ok.stk with e |⟨e,hf⟩
 ·rw[e] at hb;exact Qav _ hb
 ·rw[e] at hb;unfold frs at hb;rw[List.filterMap_cons,hf] at hb;exact hb
theorem Inv.Oq (I:Inv X jb σ H s):∀b∈frs X.stack,H b=none:=λb hb=>by
 rcases QbK.mp (I.Rb b hb) with e | hb
 ·rw[e];exact I.free
 ·obtain⟨_,o,ho,_⟩:=I.ok.G6.mem hb;exact I.base.free b o ho (I.ok.frf b hb) λz=>I.ok.PX b z hb
theorem Inv.step {g':Array GenState} {t':Nat} {d':Drawn} {ch:List Addr} (I:Inv X jb σ H s)
  (hch:∀b∈ch,(b∈X.ex\/X.s₀.heap.objs.size<=b)/\b≠X.env.locals/\(∀x c,X.env.cells.lookup x=some c->c≠b)/\∀p∈X.pn++jb,p.1≠b)
  (keep:∀b o,b≠X.env.locals->b∉X.fs->b∉ch->s.heap.get? b=some o->H b=none->h'.get? b=some o)
  (slot:∀b o,b≠X.env.locals->b∈X.fs->b∉ch->s.heap.get? b=some o->H b=none->∃sl,h'.get? b=some { o with slots:=sl }) (free:∀b o,b∉ch->s.heap.get? b=some o->H b=none->H' b=none)
  (there:∀b o,b∉ch->s.heap.get? b=some o->∃o',h'.get? b=some o')
  (tups:∀b xs,H b=some (.tup xs)->H' b=some (.tup xs)) (Gw:∀b o u,H b=some (.frz o u)->H' b=some (.frz o u)) (GJ:∀b ps,H b=some (.tbl ps)->∃more,H' b=some (.tbl (ps++more)))
  (ns:∀m,s.heap.Ns X.env.locals m->h'.Ns X.env.locals m) (hok:HOk X.prog X.w H' h') (hg:AllBare g') :
  Inv X jb σ H' { s with heap:=h',gens:=g',drawn:=d',toks:=t' }:=by
 have neL:∀b o,X.s₀.heap.get? b=some o->b≠X.env.locals:=λb o e=>QbU (QaH (QbT e) I.ok.above);have neC:∀b o,X.s₀.heap.get? b=some o->b∉X.ex->b∉ch:=λb o e hx hb=>by
  rcases (hch b hb).1 with z | z
  ·exact hx z
  ·exact absurd (QaH (QbT e) z) (QbO _)
 have cellK:∀x c,X.env.cells.lookup x=some c->∀v,s.heap.IsCell c v->h'.IsCell c v:=λx c e v ⟨o,ho,hd⟩=>by
  have nch:c∉ch:=λz=>(hch c z).2.2.1 x c e rfl;by_cases hc:c∈X.fs
  ·obtain⟨sl,q⟩:=slot c o (I.cne x c e) hc nch ho (I.Gu x c e);exact⟨_,q,hd⟩
  ·exact⟨o,keep c o (I.cne x c e) hc nch ho (I.Gu x c e),hd⟩
 refine⟨I.ok,I.os,hg,⟨λb o e n hb hx=>?_,λb o e n hb hx=>?_,λb o e n hx=>?_,λb o e hx=>?_,λb xs e=>tups b xs (I.base.tups b xs e),λb o xs e=>Gw b o xs (I.base.Gw b o xs e),λb ps e=>?_⟩,?_,λx c e=>?_,?_,λx c e=>?_,λp hp=>?_,hok,I.len⟩
 ·exact keep b o (neL b o e) hb (neC b o e hx) (I.base.keep b o e n hb hx) (I.base.free b o e n hx)
 ·obtain⟨sl,e1⟩:=I.base.slot b o e n hb hx;obtain⟨sl',e2⟩:=slot b _ (neL b o e) hb (neC b o e hx) e1 (I.base.free b o e n hx);exact⟨sl',e2⟩
 ·obtain⟨o',e1⟩:=I.base.there b o e hx;exact free b o' (neC b o e hx) e1 (I.base.free b o e n hx)
 ·obtain⟨o',e1⟩:=I.base.there b o e hx;exact there b o' (neC b o e hx) e1
 ·obtain⟨m1,e1⟩:=I.base.GJ b ps e;obtain⟨m2,e2⟩:=GJ b _ e1;exact⟨m1++m2,by rw[e2,Array.append_assoc]⟩
 ·obtain⟨m,hn,hl⟩:=I.loc;refine⟨m,ns m hn,λi x v e1 e2 e3=>?_⟩;obtain⟨u,r,l⟩:=hl i x v e1 e2 e3;refine⟨u,r,?_⟩;rcases l with l |⟨k,c,e,z⟩
  ·exact .inl l
  ·exact .inr ⟨k,c,e,cellK x c e _ z⟩
 ·obtain⟨v,z⟩:=I.cell x c e;exact⟨v,cellK x c e v z⟩
 ·obtain⟨m,⟨o,_,_,ho,_⟩,_⟩:=I.loc;exact free _ o (λz=>(hch _ z).2.1 rfl) ho I.free
 ·obtain⟨v,o,ho,hd⟩:=I.cell x c e;exact free c o (λz=>(hch c z).2.2.1 x c e rfl) ho (I.Gu x c e)
 ·obtain⟨e,n,ne,nf,d⟩:=I.pin p hp;have nch:p.1∉ch:=λz=>(hch p.1 z).2.2.2 p hp rfl;exact⟨keep p.1 p.2 ne nf nch e n,free p.1 p.2 nch e n,ne,nf,d⟩
theorem Inv.un {t':Nat} (I:Inv X jb σ H s) (u:Un X.fs [] H H' s.heap h') (hok:HOk X.prog X.w H' h'):Inv X jb σ H' { s with heap:=h',toks:=t' }:=by
 obtain⟨m,⟨o,es,ep,ho,r⟩,_⟩:=id I.loc;obtain⟨sl,hL⟩:=u.any ho I.free (by simp);exact I.step (g':=s.gens) (d':=s.drawn) (ch:=[]) (λ_ z=>nomatch z) (λb o _ hb _ e n=>u.keep b o e n hb (by simp)) (λb o _ hb _ e n=>u.slot b o e n hb (by simp)) (λb o _ e n=>u.free b o e n (by simp)) (λb o _ e=>u.there b o e (by simp)) u.tups u.Gw u.GJ (λm' hm=>by
  obtain⟨o',es',ep',ho',r'⟩:=hm;rw[ho] at ho';cases ho';exact⟨_,es',ep',hL,r'⟩) hok I.bare
theorem Inv.call {g':Array GenState} {t':Nat} {d':Drawn} {ch:List Addr} (I:Inv X jb σ H s) (u:Un (frs X.stack) ch H H' s.heap h') (hok:HOk X.prog X.w H' h') (hg:AllBare g')
  (hch:∀b∈ch,(b∈X.ex\/X.s₀.heap.objs.size<=b)/\b≠X.env.locals/\(∀x c,X.env.cells.lookup x=some c->c≠b)/\∀p∈X.pn++jb,p.1≠b) :
  Inv X jb σ H' { s with heap:=h',gens:=g',drawn:=d',toks:=t' }:=by
 obtain⟨m,⟨o,es,ep,ho,r⟩,_⟩:=id I.loc;obtain⟨sl,hL⟩:=u.any ho I.free λz=>(hch _ z).2.1 rfl;exact I.step (ch:=ch) hch (λb o hL hb hc e n=>u.keep b o e n (λz=>(QbK.mp (I.Rb b z)).elim hL hb) hc) (λb o _ _ hc e n=>u.any e n hc) (λb o hc e n=>u.free b o e n hc) (λb o hc e=>u.there b o e hc) u.tups u.Gw u.GJ (λm' hm=>by
  obtain⟨o',es',ep',ho',r'⟩:=hm;rw[ho] at ho';cases ho';exact⟨_,es',ep',hL,r'⟩) hok hg
theorem Inv.turned {t':Nat} {it:Addr} (I:Inv X jb σ H s) (k:∀b o,b≠it->s.heap.get? b=some o->h'.get? b=some o) (hn:H it=none) (hL:it≠X.env.locals)
  (h1:it∈X.ex\/X.s₀.heap.objs.size<=it) (h2:∀x c,X.env.cells.lookup x=some c->c≠it) (h3:∀p∈X.pn++jb,p.1≠it):Inv X jb σ H { s with heap:=h',toks:=t' }:=by
 have nit:∀b u,H b=some u->b≠it:=λb u e z=>by rw[z,hn] at e;cases e
 refine I.step (g':=s.gens) (d':=s.drawn) (ch:=[it]) (λb hb=>?_) (λb o _ _ hc e _=>k b o (λz=>hc (by simp[z])) e) (λb o _ _ hc e _=>⟨o.slots,k b o (λz=>hc (by simp[z])) e⟩) (λ_ _ _ _ n=>n)
  (λb o hc e=>⟨o,k b o (λz=>hc (by simp[z])) e⟩) (λ_ _ e=>e) (λ_ _ _ e=>e) (λb ps e=>⟨#[],by rw[e];simp⟩) (λm hm=>?_) (λb u e=>?_) I.bare
 ·have e:b=it:=by simpa using hb
  subst e;exact⟨h1,hL,h2,h3⟩
 ·obtain⟨o,es,ep,ho,r⟩:=hm;exact⟨o,es,ep,k _ o (Ne.symm hL) ho,r⟩
 ·refine (I.hok b u e).stay (λc v hc q=>k c v ?_ q) (λ_ q=>q) λ_ _ q=>q;rcases hc with z | z
  ·rw[z];exact nit b u e
  ·exact nit c _ z
theorem Inv.tok (I:Inv X jb σ H s) (t:Nat):Inv X jb σ H { s with toks:=t }:=I.un (h':=s.heap) (t':=t) Un.refl I.hok
theorem Inv.kept {t':Nat} (I:Inv X jb σ H s) (k:∀b u,s.heap.get? b=some u->h'.get? b=some u):Inv X jb σ H { s with heap:=h',toks:=t' }:=I.un (Un.kept k) (I.hok.kept k)
theorem Inv.laid {a:Addr} {o:HO} {t':Nat} (I:Inv X jb σ H s) (k:∀b u,s.heap.get? b=some u->h'.get? b=some u) (hp:s.heap.objs.size<=a) (new:Cj X.prog X.w (upd H a o) h' a o) :
  Inv X jb σ (upd H a o) { s with heap:=h',toks:=t' }:=I.un (Un.laid k hp (I.hok.fresh hp)) (I.hok.laid k hp new)
theorem Inv.write {x e:Addr} {o:HO} {t':Nat} (I:Inv X jb σ H s) (mu:Mut (H x)) (he:e=x\/H e=some (.own x)) (k:∀b u,b≠e->s.heap.get? b=some u->h'.get? b=some u) (heo:∃u,h'.get? e=some u)
  (new:Cj X.prog X.w (upd H x o) h' x o):Inv X jb σ (upd H x o) { s with heap:=h',toks:=t' }:=I.un (Un.write mu he k heo) (I.hok.write mu he k heo new)
theorem Inv.O1 {VG:YC} (I:Inv X jb σ H s) (h:∀p∈VG,s.heap.get? p.1=some p.2/\H p.1=none/\p.1≠X.env.locals/\p.1∉X.fs/\∀v,p.2.data≠.cell v):Inv X VG σ H s:=
 ⟨I.ok,I.os,I.bare,I.base,I.loc,I.cell,I.free,I.Gu,λp hp=>(Qbx.mp hp).elim (λz=>I.pin p (List.mem_append_left _ z)) (h p),I.hok,I.len⟩
theorem Sg {N:YF} (hN:N.Nodup) {i j:Nat} {x:Str} (a:N[i]?=some x) (b:N[j]?=some x):i=j:=by
 obtain⟨h1,e1⟩:=Qaf.mp a;obtain⟨h2,e2⟩:=Qaf.mp b;exact (List.getElem_inj hN).mp (e1.trans e2.symm)
theorem WY {M:Model} {A:Around} {E:YA} {i:Nat} {x:Str} {v:V} {u:Value} {Q:YH} (I:Inv X jb σ H s) (hN:X.N.Nodup) (hi:X.N[i]?=some x) (hx:Loc X.env.scope x) (r:RelV v u)
  (h:∀s',Inv X jb (σ.set i (some v)) H s'->(∃a,Heap.SameBut a s.heap s'.heap/\(a=X.env.locals\/X.env.cells.lookup x=some a))->Q () s') (hf:X.fn x=true\/X.env.scope.names.lookup x=some .local:=by first | exact .inl rfl | exact .inr rfl | assumption):wpAny M A (storeName X.env x u) Q E s:=by
 obtain⟨m,hn,hl⟩:=id I.loc;have hcls:(X.env.scope.kind == .class || (X.env.scope.kind == .module&&X.env.locals != X.env.globals))=false:=by rw[I.ok.kind];rfl
 have hiσ : i < σ.length:=by rw[I.len];exact (Qaf.mp hi).1
 have cne:=I.cne;have tracked:∀{a:Addr} {h':Heap},(∃o,s.heap.get? a=some o/\H a=none)->Heap.SameBut a s.heap h'->HOk X.prog X.w H h':=λ{a h'} ha hs b ob e=>by
  obtain⟨_,_,hfree⟩:=ha;refine (I.hok b ob e).stay (λc w' hc q=>(hs.2 c ?_).trans q) (λ_ q=>q) λ_ _ q=>q;rintro rfl;rcases hc with rfl | hc
  ·rw[hfree] at e;cases e
  ·rw[hfree] at hc;cases hc
 rcases hx with hk | hk
 ·refine wpAny_storeName_local hk hn (λh' hn' hs=>?_) hcls;obtain⟨oL,_,_,hoL,_⟩:=id hn;refine h _ ⟨I.ok,I.os,I.bare,⟨λb o e n hb hx=>?_,λb o e n hb hx=>?_,I.base.free,λb o e hx=>?_,I.base.tups,I.base.Gw,I.base.GJ⟩,⟨_,hn',λj y v' e1 e2 e3=>?_⟩,λy c e=>?_,I.free,I.Gu,λp hp=>?_,tracked ⟨oL,hoL,I.free⟩ hs,by simpa using I.len⟩ ⟨_,hs,.inl rfl⟩
  ·exact (hs.2 b (QbU (QaH (QbT e) I.ok.above))).trans (I.base.keep b o e n hb hx)
  ·obtain⟨sl,e1⟩:=I.base.slot b o e n hb hx;exact⟨sl,(hs.2 b (QbU (QaH (QbT e) I.ok.above))).trans e1⟩
  ·obtain⟨o',e1⟩:=I.base.there b o e hx;exact⟨o',(hs.2 b (QbU (QaH (QbT e) I.ok.above))).trans e1⟩
  ·by_cases hj:j=i
   ·subst hj;rw[hi] at e1;cases e1;rw[List.getElem?_set_self hiσ] at e2;cases e2;exact⟨u,r,.inl ⟨hk,by simp⟩⟩
   ·rw[List.getElem?_set_ne (Ne.symm hj)] at e2;obtain⟨u',r',q⟩:=hl j y v' e1 e2 e3;refine⟨u',r',?_⟩;rcases q with⟨k,e⟩|⟨k,c,e,z⟩
    ·refine .inl ⟨k,?_⟩;have:y≠x:=λe=>hj (Sg hN e1 (e ▸ hi));simp[this,e]
    ·exact .inr ⟨k,c,e,z.sameBut hs (cne y c e)⟩
  ·obtain⟨w',z⟩:=I.cell y c e;exact⟨w',z.sameBut hs (cne y c e)⟩
  ·obtain⟨e,n,ne,nf,d⟩:=I.pin p hp;exact⟨(hs.2 p.1 ne).trans e,n,ne,nf,d⟩
 ·have hfn:X.fn x=true:=by
   rcases hf with z | z
   ·exact z
   ·rw[z] at hk;cases hk
  obtain⟨c,hc⟩:=I.ok.has x (.inl hk);obtain⟨w',z⟩:=I.cell x c hc;refine wpAny_storeName_cell I.ok.kind hk hc z (λh' hc' hs=>?_);obtain⟨oc,hoc,lW⟩:=id z;refine h { s with heap:=h' } ⟨I.ok,I.os,I.bare,⟨λb o e n hb hx=>?_,λb o e n hb hx=>?_,I.base.free,λb o e hx=>?_,I.base.tups,I.base.Gw,I.base.GJ⟩,⟨m,hn.sameBut hs (Ne.symm (cne x c hc)),λj y v' e1 e2 e3=>?_⟩,λy c' e=>?_,I.free,I.Gu,λp hp=>?_,tracked ⟨oc,hoc,I.Gu x c hc⟩ hs,by simpa using I.len⟩ ⟨c,hs,.inr hc⟩
  ·exact (hs.2 b (QbU (QaH (QbT e) (I.ok.cab x c hfn hc)))).trans (I.base.keep b o e n hb hx)
  ·obtain⟨sl,e1⟩:=I.base.slot b o e n hb hx;exact⟨sl,(hs.2 b (QbU (QaH (QbT e) (I.ok.cab x c hfn hc)))).trans e1⟩
  ·obtain⟨o',e1⟩:=I.base.there b o e hx;exact⟨o',(hs.2 b (QbU (QaH (QbT e) (I.ok.cab x c hfn hc)))).trans e1⟩
  ·by_cases hj:j=i
   ·subst hj;rw[hi] at e1;cases e1;rw[List.getElem?_set_self hiσ] at e2;cases e2;exact⟨u,r,.inr ⟨.inl hk,c,hc,hc'⟩⟩
   ·rw[List.getElem?_set_ne (Ne.symm hj)] at e2;obtain⟨u',r',q⟩:=hl j y v' e1 e2 e3;refine⟨u',r',?_⟩;rcases q with q |⟨k,c',e,z'⟩
    ·exact .inl q
    ·refine .inr ⟨k,c',e,z'.sameBut hs ?_⟩;rintro rfl;exact hj (Sg hN e1 (I.ok.inj _ _ _ e hc ▸ hi))
  ·by_cases hcc:c'=c
   ·subst hcc;exact⟨_,hc'⟩
   ·obtain⟨w2,z2⟩:=I.cell y c' e;exact⟨w2,z2.sameBut hs hcc⟩
  ·obtain⟨e,n,ne,nf,d⟩:=I.pin p hp;refine⟨(hs.2 p.1 ?_).trans e,n,ne,nf,d⟩;intro q;rw[q,hoc] at e;have q':oc=p.2:=Qbv e;exact d w' (by rw[<-q'];exact lW)
theorem MN {M:Model} {A:Around} {E:YA} {i:Nat} {x:Str} {v:V} {u:Value} {Q:YH} (I:Inv X jb σ H s) (hN:X.N.Nodup) (hi:X.N[i]?=some x) (hx:Loc X.env.scope x) (r:RelV v u)
  (h:∀s',Inv X jb (σ.set i (some v)) H s'->Q () s') (hf:X.fn x=true\/X.env.scope.names.lookup x=some .local:=by first | exact .inl rfl | exact .inr rfl | assumption):wpAny M A (storeName X.env x u) Q E s:=
 WY I hN hi hx r (λs' I' _=>h s' I') hf
theorem Inv.call' {s':Shared} {ch:List Addr} (I:Inv X jb σ H s) (ho:s'.os=s.os) (u:Un (frs X.stack) ch H H' s.heap s'.heap) (hok:HOk X.prog X.w H' s'.heap) (hg:AllBare s'.gens)
  (hch:∀b∈ch,(b∈X.ex\/X.s₀.heap.objs.size<=b)/\b≠X.env.locals/\(∀x c,X.env.cells.lookup x=some c->c≠b)/\∀p∈X.pn++jb,p.1≠b):Inv X jb σ H' s':=by
 obtain⟨h',g',d',t',o'⟩:=s';have e:o'=s.os:=ho;subst e;exact I.call (g':=g') (t':=t') (d':=d') u hok hg hch
end
abbrev XK:=Value->Option Addr->Hp->Prop
abbrev St:=List (Option V)
abbrev VK:=V->Hp->Prop
abbrev TE:=St->Hp->VK->Prop
abbrev TT:=St->Hp->(Bool->Hp->Prop)->Prop
abbrev TA:=St->Hp->(YG->Hp->Prop)->Prop
structure Ends where
 nx:St->Hp->Prop
 rt:VK
 bk:St->Hp->Prop:=λ_ _=>False
 ct:St->Hp->Prop:=λ_ _=>False
abbrev YO:=St->Hp->Prop
abbrev TS:=Ends->YO
def EP (X:Cx) (jb:YC) (σ : St) (Q:VK) (u:Value) (s':Shared):Prop:=∃v H',Inv X jb σ H' s'/\RelV v u/\Q v H'
def TP (X:Cx) (jb:YC) (σ : St) (Q:Bool->Hp->Prop) (b:Bool) (s':Shared):Prop:=∃H',Inv X jb σ H' s'/\Q b H'
def AP (X:Cx) (jb:YC) (σ : St) (Q:YG->Hp->Prop) (us:YE) (s':Shared):Prop:=∃vs H',Inv X jb σ H' s'/\Vals vs us/\Q vs H'
def SP (X:Cx) (jb:YC) (D:Ends) (f:Flow) (s':Shared):Prop:=
 match f with
 | .next=>∃ σ' H',Inv X jb σ' H' s'/\D.nx σ' H'
 | .brk=>∃ σ' H',Inv X jb σ' H' s'/\D.bk σ' H'
 | .cont=>∃ σ' H',Inv X jb σ' H' s'/\D.ct σ' H'
 | .ret u=>∃v σ' H',Inv X jb σ' H' s'/\RelV v u/\D.rt v H'
def PE (X:Cx) (e:Expr) (t:TE):Prop:=
 ∀(jb:YC) (s:Shared) (σ : St) (H:Hp) (Q:VK),Inv X jb σ H s->t σ H Q->wpAny (model X.prog X.w) X.A (eval e X.env) (EP X jb σ Q) X.xe s
def PT (X:Cx) (e:Expr) (t:TT):Prop:=
 ∀(jb:YC) (s:Shared) (σ : St) (H:Hp) (Q:Bool->Hp->Prop),Inv X jb σ H s->t σ H Q->wpAny (model X.prog X.w) X.A (isTrue e X.env (eval e X.env)) (TP X jb σ Q) X.xe s
def PW (X:Cx) (e:Expr) (t:TT):Prop:=
 ∀(whole:Sem Value) (jb:YC) (s:Shared) (σ : St) (H:Hp) (Q:Bool->Hp->Prop),Inv X jb σ H s->t σ H Q->wpAny (model X.prog X.w) X.A (isTrue e X.env whole) (TP X jb σ Q) X.xe s
theorem PW.pt {X:Cx} {e:Expr} {t:TT} (h:PW X e t):PT X e t:=h _
def PA (X:Cx) (es:YJ) (t:TA):Prop:=
 ∀(pos:Pos) (jb:YC) (s:Shared) (σ : St) (H:Hp) (Q:YG->Hp->Prop),Inv X jb σ H s->t σ H Q->wpAny (model X.prog X.w) X.A (spliced (backTo pos (starEach es X.env))) (AP X jb σ Q) X.xe s
def PS (X:Cx) (st:Stmt) (t:TS):Prop:=
 ∀(jb:YC) (s:Shared) (σ : St) (H:Hp) (D:Ends),Inv X jb σ H s->t D σ H->wpAny (model X.prog X.w) X.A (exec st X.env) (SP X jb D) X.xe s
def PSs (X:Cx) (st:List Stmt) (t:TS):Prop:=
 ∀(jb:YC) (s:Shared) (σ : St) (H:Hp) (D:Ends),Inv X jb σ H s->t D σ H->wpAny (model X.prog X.w) X.A (execs st X.env) (SP X jb D) X.xe s
theorem thn {α : Type} {t:Sem α} {Q Q':α->Shared->Prop} {M:Model} {A:Around} {E:YA} {s:Shared} (h:wpAny M A t Q E s) (hQ:∀a s,Q a s->Q' a s):wpAny M A t Q' E s:=Qce h hQ λ_ _ x=>x
section
variable {X:Cx}
theorem bin {a b:Expr} {ta tb:TE} (ha:PE X a ta) (hb:PE X b tb) {jb:YC} {s:Shared} {σ : St} {H:Hp} {R:V->V->Hp->Prop} (I:Inv X jb σ H s) (h:ta σ H λx H1=>tb σ H1 λy H2=>R x y H2)
  {α : Type} {Q:α->Shared->Prop} {f:Value->Value->Sem α}
  (hf:∀v u s2 x y H2,Inv X jb σ H2 s2->RelV x v->RelV y u->R x y H2->wpAny (model X.prog X.w) X.A (f v u) Q X.xe s2) :
  wpAny (model X.prog X.w) X.A (eval a X.env) (λv s₁=>wpAny (model X.prog X.w) X.A (eval b X.env) (λu s₂=>wpAny (model X.prog X.w) X.A (f v u) Q X.xe s₂) X.xe s₁) X.xe s:=by
 refine thn (ha jb s σ H _ I h) λv s1 zz=>?_;obtain⟨x,H1,I1,r1,q1⟩:=zz;refine thn (hb jb s1 σ H1 _ I1 q1) λu s2 zz=>?_;obtain⟨y,H2,I2,r2,q2⟩:=zz;exact hf v u s2 x y H2 I2 r1 r2 q2
def cP (i:Nat):TE:=fun σ H Q=>∃v,σ[i]?=some (some v)/\Q v H
def tC (v:V):TE:=λ_ H Q=>Q v H
theorem Xj {i:Nat} {x:Str} {pos:Pos} (hN:X.N[i]?=some x) (hv:Vis X.env.scope x) (hd:(x == ("__debug__":Str))=false:=by decide) (hcd:(x == ("__classdict__":Str))=false:=by decide):PE X (.Name x pos) (cP i):=by
 intro jb s σ H Q I h;obtain⟨v,e,h⟩:=h;obtain⟨m,hn,hl⟩:=I.loc;obtain⟨u,r,l⟩:=hl i x v hN e hv;have fin:EP X jb σ Q u s:=⟨v,H,I,r,h⟩;rcases l with⟨hk,hm⟩|⟨hk,c,hc,hcell⟩
 ·exact wpAny_Name (wpAny_loadName_local I.ok.kind hk hn hm fin) hd
 ·rcases hk with hk | hk
  ·exact wpAny_Name (wpAny_loadName_cell I.ok.kind hk hc hcell fin) hd
  ·exact wpAny_Name (wpAny_loadName_free I.ok.kind hk hc hcell fin hcd) hd
theorem Ac {i j pos}:PE X (.Constant (.int i) j pos) (tC (.int i)):=λ_ _ _ H _ I h=>wpAny_Constant_int ⟨.int i,H,I.tok _,⟨_,rfl⟩,h⟩
theorem Df {b j pos}:PE X (.Constant (.bool b) j pos) (tC (.bl b)):=λ_ _ _ H _ I h=>Constant_bool ⟨.bl b,H,I,rfl,h⟩
theorem Lk {j pos}:PE X (.Constant .none j pos) (tC .non):=λ_ _ _ H _ I h=>Constant_none ⟨.non,H,I,rfl,h⟩
theorem Bf {x j pos}:PE X (.Constant (.str x) j pos) (tC (.str x)):=λ_ _ _ H _ I h=>Calls.Constant_str ⟨.str x,H,I.tok _,⟨_,rfl⟩,h⟩
def Gl (X:Cx) (x:Str):Prop:=X.env.kindOf x=some .globalImplicit
theorem Pu {E:YA} {jb:YC} {s:Shared} {σ : St} {H:Hp} {x:Str} {u:Value} {pos:Pos} {Q:YA} (I:Inv X jb σ H s) (hg:Gl X x) (hm:X.mg x=some u) (h:Q u s)
  (hd:(x == ("__debug__":Str))=false:=by decide):wpAny (model X.prog X.w) X.A (eval (.Name x pos) X.env) Q E s:=
 Calls.Name_function_global I.ok.kind hg (Calls.loadGlobal_global (by rw[I.ok.glob];exact I.mod.glob.keeps I.bk) hm h) hd
theorem G5 {E:YA} {jb:YC} {s:Shared} {σ : St} {H:Hp} {x:Str} {u:Value} {pos:Pos} {Q:YA} (I:Inv X jb σ H s) (hg:Gl X x) (hm:X.mg x=none) (hv:bootBuiltins x=some u) (h:Q u s)
  (hn:x≠"__name__":=by decide) (hd:(x == ("__debug__":Str))=false:=by decide):wpAny (model X.prog X.w) X.A (eval (.Name x pos) X.env) Q E s:=by
 obtain⟨mb,h1,h2⟩:=I.mod.blt;exact Calls.Name_function_global I.ok.kind hg (Calls.loadGlobal_builtin (by rw[I.ok.glob];exact I.mod.glob.keeps I.bk) hm (by rw[I.ok.blt];exact h1.keeps I.bk) ((h2 x hn).trans hv) h) hd
theorem aO {x:Str} {v:V} {u:Value} {pos:Pos} (hg:Gl X x) (hm:X.mg x=some u) (r:RelV v u) (hd:(x == ("__debug__":Str))=false:=by decide):PE X (.Name x pos) (tC v):=
 λ_ _ _ H _ I h=>Pu I hg hm ⟨v,H,I,r,h⟩ hd
theorem Hj {x:Str} {v:V} {u:Value} {pos:Pos} (hg:Gl X x) (hm:X.mg x=none) (hv:bootBuiltins x=some u) (r:RelV v u) (hn:x≠"__name__":=by decide) (hd:(x == ("__debug__":Str))=false:=by decide):PE X (.Name x pos) (tC v):=
 λ_ _ _ H _ I h=>G5 I hg hm hv ⟨v,H,I,r,h⟩ hn hd
variable {a b:Expr} {ta tb:TE} {pos:Pos}
def PC (X:Cx) (op:CmpOp) (a b:Expr) (t:TE):Prop:=
 ∀(jb:YC) (s:Shared) (σ : St) (H:Hp) (Q:VK),Inv X jb σ H s->t σ H Q ->
  wpAny (model X.prog X.w) X.A (eval a X.env) (λv s₁=>wpAny (model X.prog X.w) X.A (eval b X.env) (λu s₂=>wpAny (model X.prog X.w) X.A (compareOp op v u) (EP X jb σ Q) X.xe s₂) X.xe s₁) X.xe s
theorem Za (b:Expr) {op:CmpOp} (h:op≠.In) (h2:op≠.NotIn):behindInMarks op b=false:=by
 have e1:(op == CmpOp.In)=false:=by cases op <;> first | rfl | exact absurd rfl h
 have e2:(op == CmpOp.NotIn)=false:=by cases op <;> first | rfl | exact absurd rfl h2
 cases b <;> simp[behindInMarks,e1,e2]
def tB (t:TE):TT:=fun σ H Q=>t σ H λx H1=>∃c,x=.bl c/\Q c H1
theorem o7 {op:CmpOp} {t:TE} (h:PC X op a b t) (h1:behindInMarks op b=false:=by first | exact Za _ (by decide) (by decide) | rfl):PT X (.Compare a [op] [b] pos) (tB t):=by
 intro jb s σ H Q I hw;refine wpAny_isTrue_Compare1 (thn (h jb s σ H _ I hw) λv s1 h1=>thn h1 λu s2 h2=>thn h2 λc s3 zz=>?_) h1;obtain⟨x,H1,I1,r1,q1⟩:=zz;obtain⟨d,rfl,q⟩:=q1;cases r1;exact QaW ⟨H1,I1,q⟩
theorem Dj {e:Expr} {t:TE} (h:PE X e t) (he:∀whole,isTrue e X.env whole=(do let v <-whole;standAt e.pos;holding [v] (truthy v)):=by intro _;rfl):PT X e (tB t):=by
 intro jb s σ H Q I hw;refine isTrue_plain (thn (h jb s σ H _ I hw) λv s1 zz=>?_) (he _);obtain⟨x,H1,I1,r1,q1⟩:=zz;obtain⟨d,rfl,q⟩:=q1;cases r1;exact QaW ⟨H1,I1,q⟩
variable {tA tB':TT} {rest:YJ}
def tOr (t u:TT):TT:=fun σ H Q=>t σ H λc H1=>if c=true then Q true H1 else u σ H1 Q
def jK (t:TT):TT:=fun σ H Q=>t σ H λc H1=>Q (!c) H1
theorem Lh (ha:PT X a tA):PW X (.BoolOp .Or [a] pos) tA:=by
 intro wh jb s σ H Q I h;refine isTrue_or (thn (ha jb s σ H Q I h) λc s1 e=>?_);cases c with
 | false=>exact isTrue_or_nil e
 | true=>exact e
theorem Ip (ha:PT X a tA) (hb:PW X (.BoolOp .Or (b::rest) pos) tB'):PW X (.BoolOp .Or (a::b::rest) pos) (tOr tA tB'):=by
 intro wh jb s σ H Q I h;refine isTrue_or (thn (ha jb s σ H _ I h) λc s1 zz=>?_);obtain⟨H1,I1,q1⟩:=zz;cases c with
 | true=>exact⟨H1,I1,q1⟩
 | false=>exact hb wh jb s1 σ H1 Q I1 q1
theorem Dw (ha:PT X a tA):PT X (.UnaryOp .Not a pos) (jK tA):=by
 intro jb s σ H Q I h;exact isTrue_not (ha jb s σ H (λc H1=>Q (!c) H1) I h)
def iz (ta tb:TE):TE:=fun σ H Q=>ta σ H λx H1=>∃c,x=.bl c/\if c=true then tb σ H1 Q else Q (.bl false) H1
def jJ (ta tb:TE):TE:=fun σ H Q=>ta σ H λx H1=>∃c,x=.bl c/\if c=true then Q (.bl true) H1 else tb σ H1 Q
def ig (ta:TE):TE:=fun σ H Q=>ta σ H λx H1=>∃c,x=.bl c/\Q (.bl (!c)) H1
theorem Cw {op} {t:TE} (h:PE X a t):PE X (.BoolOp op [a] pos) t:=λjb s σ H Q I hw=>BoolOp_one (h jb s σ H Q I hw)
theorem Cg (ha:PE X a ta) (hb:PE X (.BoolOp .And (b::rest) pos) tb):PE X (.BoolOp .And (a::b::rest) pos) (iz ta tb):=by
 intro jb s σ H Q I h;refine BoolOp_and (thn (ha jb s σ H _ I h) λv s1 zz=>?_);obtain⟨x,H1,I1,r1,q1⟩:=zz;obtain⟨c,rfl,q1⟩:=q1;cases r1;refine QaW ?_;cases c with
 | true=>exact hb jb s1 σ H1 Q I1 q1
 | false=>exact⟨.bl false,H1,I1,rfl,q1⟩
theorem VH (ha:PE X a ta) (hb:PE X (.BoolOp .Or (b::rest) pos) tb):PE X (.BoolOp .Or (a::b::rest) pos) (jJ ta tb):=by
 intro jb s σ H Q I h;refine BoolOp_or (thn (ha jb s σ H _ I h) λv s1 zz=>?_);obtain⟨x,H1,I1,r1,q1⟩:=zz;obtain⟨c,rfl,q1⟩:=q1;cases r1;refine QaW ?_;cases c with
 | false=>exact hb jb s1 σ H1 Q I1 q1
 | true=>exact⟨.bl true,H1,I1,rfl,q1⟩
theorem RJ (ha:PE X a ta):PE X (.UnaryOp .Not a pos) (ig ta):=by
 intro jb s σ H Q I h;refine UnaryOp_ (thn (ha jb s σ H _ I h) λv s1 zz=>?_);obtain⟨x,H1,I1,r1,q1⟩:=zz;obtain⟨c,rfl,q1⟩:=q1;cases r1;exact not_of (QaW ⟨.bl (!c),H1,I1,rq,q1⟩)
end
def SqL (K:YD) (H:Hp) (a:Addr) (xs:YG):Prop:=
 Rd H a (.lst xs) \/
  ∃(o:Obj) (its:Array Value) (n:Nat),K.lookup a=some o/\o.cls=.type "list"/\o.dict=none/\o.data=.seq its n/\its.size<=sizeLine/\Vals xs its.toList
def SqT (K:YD) (H:Hp) (a:Addr) (xs:YG):Prop:=
 Rd H a (.tup xs) \/
  ∃(o:Obj) (its:Array Value) (n:Nat),K.lookup a=some o/\o.cls=.type "tuple"/\o.data=.seq its n/\its.size<=sizeLine/\Vals xs its.toList
def oW:Value->Option V
 | .none=>some .non
 | .bool b=>some (.bl b)
 | .int i _=>some (.int i)
 | .str x _=>some (.str x)
 | .bytes b _=>some (.byt b)
 | .float b _=>some (.flt b)
 | .ref a=>some (.ref a)
 | .type n=>some (.ty n)
 | _=>none
theorem RelV.abs {x:V} {u:Value} (r:RelV x u):oW u=some x:=by
 cases x with
 | non=>cases r;rfl
 | bl _=>cases r;rfl
 | int _=>obtain⟨t,rfl⟩:=r;rfl
 | str _=>obtain⟨t,rfl⟩:=r;rfl
 | byt _=>obtain⟨t,rfl⟩:=r;rfl
 | flt _=>obtain⟨t,rfl⟩:=r;rfl
 | ref _=>cases r;rfl
 | ty _=>cases r;rfl
theorem RelV.inj {x y:V} {u:Value} (r:RelV x u) (q:RelV y u):x=y:=Qbv (r.abs.symm.trans q.abs)
theorem Vals.inj:∀{xs ys:YG} {us:YE},Vals xs us->Vals ys us->xs=ys
 | _,_,_,.nil,.nil=>rfl
 | _,_,_,.cons r t,.cons r' t'=>by rw[r.inj r',Vals.inj t t']
section
variable {X:Cx} {jb:YC} {σ : St} {H:Hp} {s:Shared} {a:Addr} {xs ys:YG}
theorem SqL.of {K:YD} (h:H a=some (.lst xs)):SqL K H a xs:=.inl (.inl h)
theorem SqT.of {K:YD} (h:H a=some (.tup xs)):SqT K H a xs:=.inl (.inl h)
theorem Inv.list (I:Inv X jb σ H s) (h:SqL X.K H a xs):∃its:YE,Vals xs its/\PlainL s.heap a its.toArray/\xs.length<=sizeLine:=by
 rcases h with h |⟨o,its,n,hk,hc,hd,hs,hz,r⟩
 ·obtain⟨z,its,n,r,e⟩:=h.ok I.hok;exact⟨its,r,⟨_,n,e,rq,rq,rq⟩,z⟩
 ·refine⟨its.toList,r,⟨o,n,I.kIn a o hk,hc,hd,by simpa using hs⟩,?_⟩;have e:=r.length;simp only[QaA] at e;omega
theorem Inv.tuple (I:Inv X jb σ H s) (h:SqT X.K H a xs):∃its:YE,Vals xs its/\IsTup s.heap a its.toArray/\xs.length<=sizeLine:=by
 rcases h with h |⟨o,its,n,hk,hc,hs,hz,r⟩
 ·obtain⟨z,its,r,p⟩:=h.ok I.hok;exact⟨its,r,p,z⟩
 ·refine⟨its.toList,r,⟨o,I.kIn a o hk,hc,n,by simpa using hs⟩,?_⟩;have e:=r.length;simp only[QaA] at e;omega
theorem Inv.Ni (I:Inv X jb σ H s) (h:SqL X.K H a xs) (h':SqL X.K H a ys):xs=ys:=by
 obtain⟨its,r,⟨o,n,e,_,_,d⟩,_⟩:=I.list h;obtain⟨its',r',⟨o',n',e',_,_,d'⟩,_⟩:=I.list h';rw[e] at e';cases e';rw[d] at d';injection d' with d1 _;have:its=its':=by simpa using congrArg Array.toList d1
 subst this;exact r.inj r'
theorem Inv.Qe (I:Inv X jb σ H s) (h:SqT X.K H a xs) (h':SqT X.K H a ys):xs=ys:=by
 obtain⟨its,r,⟨o,e,_,n,d⟩,_⟩:=I.tuple h;obtain⟨its',r',⟨o',e',_,n',d'⟩,_⟩:=I.tuple h';rw[e] at e';cases e';rw[d] at d';injection d' with d1 _;have:its=its':=by simpa using congrArg Array.toList d1
 subst this;exact r.inj r'
end
abbrev Cx.wish (X:Cx) (E:YA):Cx:={ X with xe:=E }
abbrev Cx.nox (X:Cx):Cx:=X.wish λ_ _=>False
theorem Cx.Ok.wish {X:Cx} (ok:X.Ok) (E:YA):(X.wish E).Ok:=
 ⟨ok.mod,ok.kind,ok.glob,ok.blt,ok.above,ok.inj,ok.has,ok.cab,ok.hd,ok.frames,ok.stk,ok.exf,ok.bs,ok.bsz,ok.Pa,ok.PX,ok.G6,ok.frf⟩
theorem Cx.Ok.Fp {X:Cx} {E:YA} (ok:(X.wish E).Ok):X.Ok:=
 ⟨ok.mod,ok.kind,ok.glob,ok.blt,ok.above,ok.inj,ok.has,ok.cab,ok.hd,ok.frames,ok.stk,ok.exf,ok.bs,ok.bsz,ok.Pa,ok.PX,ok.G6,ok.frf⟩
section
variable {X:Cx} {jb:YC} {σ : St} {H:Hp} {s:Shared} {E:YA}
theorem Inv.wish (I:Inv X jb σ H s) (E:YA):Inv (X.wish E) jb σ H s:=⟨I.ok.wish E,I.os,I.bare,I.base,I.loc,I.cell,I.free,I.Gu,I.pin,I.hok,I.len⟩
theorem Inv.Fp (I:Inv (X.wish E) jb σ H s):Inv X jb σ H s:=⟨I.ok.Fp,I.os,I.bare,I.base,I.loc,I.cell,I.free,I.Gu,I.pin,I.hok,I.len⟩
theorem SP.Fp {D:Ends} {f:Flow} {s':Shared} (h:SP (X.wish E) jb D f s'):SP X jb D f s':=by
 cases f with
 | next=>obtain⟨σ',H',I,q⟩:=h;exact⟨σ',H',I.Fp,q⟩
 | brk=>obtain⟨σ',H',I,q⟩:=h;exact⟨σ',H',I.Fp,q⟩
 | cont=>obtain⟨σ',H',I,q⟩:=h;exact⟨σ',H',I.Fp,q⟩
 | ret u=>obtain⟨v,σ',H',I,r,q⟩:=h;exact⟨v,σ',H',I.Fp,r,q⟩
theorem PE.nox {e:Expr} {t:TE} (h:PE X.nox e t):PE X e t:=λjb s σ H Q I hw=>
 Qce (h jb s σ H Q (I.wish _) hw) (λ_ _ ⟨v,H',I',r,q⟩=>⟨v,H',I'.Fp,r,q⟩) λ_ _ z=>False.elim z
theorem PT.nox {e:Expr} {t:TT} (h:PT X.nox e t):PT X e t:=λjb s σ H Q I hw=>
 Qce (h jb s σ H Q (I.wish _) hw) (λ_ _ ⟨H',I',q⟩=>⟨H',I'.Fp,q⟩) λ_ _ z=>False.elim z
theorem PSs.nox {st:List Stmt} {t:TS} (h:PSs X.nox st t):PSs X st t:=λjb s σ H D I hw=>
 Qce (h jb s σ H D (I.wish _) hw) (λ_ _ q=>q.Fp) λ_ _ z=>False.elim z
end
section
variable {X:Cx} {st:Stmt} {rest:List Stmt} {t u:TS} {e:Expr} {te:TE} {pos:Pos}
def iu:TS:=λD σ H=>D.nx σ H
def Az (t u:TS):TS:=λD σ H=>t { D with nx:=u D } σ H
theorem Bh:PSs X [] iu:=λ_ _ σ H _ I h=>wpAny_execs_nil ⟨σ,H,I,h⟩
theorem Af (h1:PS X st t) (h2:PSs X rest u):PSs X (st::rest) (Az t u):=by
 intro jb s σ H D I h;refine wpAny_execs_cons (thn (h1 jb s σ H { D with nx:=u D } I h) λf s1 q=>?_);cases f with
 | next=>
  obtain⟨σ',H',I',q⟩:=q;exact h2 jb s1 σ' H' D I' q
 | ret v=>exact q
 | brk=>exact q
 | cont=>exact q
theorem Aj (h1:PS X st t):PSs X [st] t:=by
 intro jb s σ H D I h;refine wpAny_execs_cons (thn (h1 jb s σ H D I h) λf s1 q=>?_);cases f with
 | next=>exact wpAny_execs_nil q
 | ret v=>exact q
 | brk=>exact q
 | cont=>exact q
theorem Inv.quiet {jb:YC} {σ : St} {H:Hp} {s:Shared} (I:Inv X jb σ H s):interactive X.env=false:=by simp[interactive,I.ok.kind]
def iw (te:TE):TS:=λD σ H=>te σ H λ_ H1=>D.nx σ H1
theorem OJ (he:PE X e te) (hs:swapsWith e none pos.line X.env=pure false:=by rfl):PS X (.Expr e pos) (iw te):=by
 intro jb s σ H D I h;refine wpAny_Expr_any (thn (he jb s σ H _ I h) λv s1 zz=>?_) I.quiet hs;obtain⟨x,H1,I1,r1,q1⟩:=zz;exact⟨σ,H1,I1,q1⟩
def jH (te:TE):TS:=λD σ H=>te σ H D.rt
theorem Av (he:PE X e te):PS X (.Return (some e) pos) (jH te):=by
 intro jb s σ H D I h;refine wpAny_Return_some (thn (he jb s σ H _ I h) λv s1 zz=>?_);obtain⟨x,H1,I1,r1,q1⟩:=zz;exact⟨x,σ,H1,I1,r1,q1⟩
def CQ (c:TT) (t u:TS):TS:=λD σ H=>c σ H λb H1=>if b=true then t D σ H1 else u D σ H1
theorem Bv {c:Expr} {a b:List Stmt} {tc:TT} (hc:PT X c tc) (ha:PSs X a t) (hb:PSs X b u):PS X (.If c a b pos) (CQ tc t u):=by
 intro jb s σ H D I h;refine wpAny_If (thn (hc jb s σ H _ I h) λd s1 zz=>?_);obtain⟨H1,I1,q1⟩:=zz;cases d with
 | true=>exact ha jb s1 σ H1 D I1 q1
 | false=>exact hb jb s1 σ H1 D I1 q1
end
abbrev TG:=V->St->Hp->(YO)->Prop
abbrev TGs:=YG->St->Hp->(YO)->Prop
def PG (X:Cx) (target:Expr) (t:TG):Prop:=
 ∀(jb:YC) (s:Shared) (σ : St) (H:Hp) (v:V) (u:Value) (Q:YO),Inv X jb σ H s->RelV v u->t v σ H Q ->
  wpAny (model X.prog X.w) X.A (assign target X.env u) (λ_ s'=>∃ σ' H',Inv X jb σ' H' s'/\Q σ' H') X.xe s
def PGs (X:Cx) (ts:YJ) (t:TGs):Prop:=
 ∀(jb:YC) (s:Shared) (σ : St) (H:Hp) (vs:YG) (us:YE) (Q:YO),Inv X jb σ H s->Vals vs us->t vs σ H Q ->
  wpAny (model X.prog X.w) X.A (assignInOrder ((assignEach ts X.env).map (·.2)) us) (λ_ s'=>∃ σ' H',Inv X jb σ' H' s'/\Q σ' H') X.xe s
abbrev ZF:=V->V->V->Hp->(Hp->Prop)->Prop
def gG (X:Cx) (t:ZF):Prop:=
 ∀(jb:YC) (s:Shared) (σ : St) (H:Hp) (o i v:V) (ov iv u:Value) (Q:Hp->Prop),Inv X jb σ H s->RelV o ov->RelV i iv->RelV v u->t o i v H Q ->
  wpAny (model X.prog X.w) X.A (setItem ov iv u) (λ_ s'=>∃H',Inv X jb σ H' s'/\Q H') X.xe s
section
variable {X:Cx} {pos:Pos}
def Jt (i:Nat):TG:=λv σ H Q=>Q (σ.set i (some v)) H
theorem Ay {i:Nat} {x:Str} (hN:X.N.Nodup) (hi:X.N[i]?=some x) (hx:Loc X.env.scope x) (hf:X.fn x=true\/X.env.scope.names.lookup x=some .local:=by first | exact .inl rfl | exact .inr rfl | assumption):PG X (.Name x pos) (Jt i):=by
 intro jb s σ H v u Q I r h;exact wpAny_assign_Name (MN I hN hi hx r (λs' I'=>⟨_,H,I',h⟩) hf)
def mO:TGs:=λvs σ H Q=>vs=[]/\Q σ H
def jk (t:TG) (u:TGs):TGs:=λvs σ H Q=>∃v r,vs=v::r/\t v σ H fun σ' H'=>u r σ' H' Q
theorem CW:PGs X [] mO:=by
 intro jb s σ H vs us Q I r h;obtain⟨e,h⟩:=h;subst e;cases r;exact assignInOrder_nil ⟨σ,H,I,h⟩
theorem Bd {e:Expr} {es:YJ} {t:TG} {u:TGs} (h1:PG X e t) (h2:PGs X es u)
  (hs:(assignEach (e::es) X.env).map (·.2)=assign e X.env::(assignEach es X.env).map (·.2):=by rfl):PGs X (e::es) (jk t u):=by
 intro jb s σ H vs us Q I r h;obtain⟨v,vr,e1,h⟩:=h;subst e1;cases r with
 | cons r rr=>
  rw[hs];refine assignInOrder_cons (thn (h1 jb s σ H _ _ _ I r h) λ_ s1 zz=>?_);obtain⟨σ1,H1,I1,q1⟩:=zz;exact h2 jb s1 σ1 H1 _ _ Q I1 rr q1
def fV (K:YD) (n:Nat) (t:TGs):TG:=λv σ H Q=>∃a xs,v=.ref a/\SqT K H a xs/\xs.length=n/\t xs σ H Q
theorem Gh {es:YJ} {k:Nat} {t:TGs} {n:Nat} (hc:X.calm=true) (h:PGs X es t)
  (hn:(assignEach es X.env).length=n:=by rfl) (hst:(assignEach es X.env).findIdx? (·.1)=none:=by rfl):PG X (.Tuple es k pos) (fV X.K n t):=by
 intro jb s σ H v u Q I r hw;obtain⟨a,xs,e1,hq,hl,hw⟩:=hw;subst e1;cases r;obtain⟨its,rv,ht,hz⟩:=I.tuple hq;refine assign_Tuple_tuple (I.ok.hd hc) ht (by simp[hn,<-hl,rv.length]) hst λh' hx=>?_;have I1:Inv X jb σ H { s with heap:=h' }:=I.kept (t':=s.toks) λb o e=>hx b o (QbU (QbT e)) e;exact h jb _ σ H xs _ Q I1 (by simpa using rv) hw
def mL (to ti:TE) (t:ZF):TG:=λv σ H Q=>to σ H λo H1=>ti σ H1 λi H2=>t o i v H2 λH3=>Q σ H3
theorem Xi {o i:Expr} {to ti:TE} {t:ZF} (ho:PE X o to) (hi:PE X i ti) (hs:gG X t)
  (ha:∀v,assign (.Subscript o i pos) X.env v=(do
   let ov <-holding [v] (eval o X.env);let iv <-holding [v,ov] (eval i X.env)
   standAt pos
   holding [v,ov,iv] (setItem ov iv v)
   release [v,ov,iv] []):=by intro _;rfl):PG X (.Subscript o i pos) (mL to ti t):=by
 intro jb s σ H v u Q I r h;rw[ha];refine Qcc (QbP (thn (ho jb s σ H _ I h) λov s1 zz=>?_));obtain⟨x,H1,I1,r1,q1⟩:=zz;refine Qcc (QbP (thn (hi jb s1 σ H1 _ I1 q1) λiv s2 zz=>?_));obtain⟨y,H2,I2,r2,q2⟩:=zz;refine Qcc (wpAny_standAt (Qcc (QbP (thn (hs jb s2 σ H2 x y v ov iv u _ I2 r1 r2 r q2) λ_ s3 zz=>?_))));obtain⟨H3,I3,q3⟩:=zz;exact wpAny_release ⟨σ,H3,I3,q3⟩
def Yp (te:TE) (g:TG):TS:=λD σ H=>te σ H λx H1=>g x σ H1 D.nx
theorem Ft {tg e:Expr} {te:TE} {g:TG} (he:PE X e te) (hg:PG X tg g) (hs:swapsWithSole [tg] e pos.line X.env=pure false:=by rfl) (hw:swappedStores [tg] e X.env=pure none:=by rfl)
  (h1:(assignEach [tg] X.env).map (·.2)=[assign tg X.env]:=by rfl):PS X (.Assign [tg] e pos) (Yp te g):=by
 intro jb s σ H D I h;refine wpAny_Assign_stores (thn (he jb s σ H _ I h) λv s1 zz=>?_) hs hw;obtain⟨x,H1,I1,r1,q1⟩:=zz;rw[h1];exact thn (hg jb s1 σ H1 x v _ I1 r1 q1) λ_ s2 q=>q
theorem BZ {i:Nat} {x:Str} {e:Expr} {te:TE} {pos':Pos} (hN:X.N.Nodup) (hi:X.N[i]?=some x) (hx:Loc X.env.scope x) (he:PE X e te) (hs:swapsWith e (some (.Name x pos')) pos.line X.env=pure false:=by rfl) (hf:X.fn x=true\/X.env.scope.names.lookup x=some .local:=by first | exact .inl rfl | exact .inr rfl | assumption) :
  PS X (.Assign [.Name x pos'] e pos) (Yp te (Jt i)):=by
 intro jb s σ H D I h;refine wpAny_Assign_Name (thn (he jb s σ H _ I h) λv s1 zz=>?_) hs;obtain⟨y,H1,I1,r1,q1⟩:=zz;exact MN I1 hN hi hx r1 (λs2 I2=>⟨_,H1,I2,q1⟩) hf
end
section
variable {X:Cx} {pos:Pos}
end
structure It where
 go:Nat->Hp->Prop
 yld:Nat->Hp->V->Hp->Prop
 stop:Nat->Hp->Prop
def Hr (X:Cx) (jb:YC) (H:Hp) (b:Addr):Prop:=
 H b=none/\b≠X.env.locals/\b∉X.fs/\(b∈X.ex\/X.s₀.heap.objs.size<=b)/\(∀x c,X.env.cells.lookup x=some c->c≠b)/\∀p∈X.pn++jb,p.1≠b
theorem Inv.PN {X:Cx} {jb:YC} {σ : St} {H H':Hp} {s:Shared} {b:Addr} (I:Inv X jb σ H s) (hb:s.heap.objs.size<=b) (hn:H' b=none):Hr X jb H' b:=by
 refine⟨hn,QbX (QaH I.lt hb),I.eG hb,.inr (QbV I.sz hb),λx c e z=>?_,λp hp z=>?_⟩
 ·obtain⟨v,q⟩:=I.cell x c e;exact absurd (QaH q.lt (by rw[z];exact hb)) (QbO _)
 ·exact absurd (QaH (QbT (I.pin p hp).1) (by rw[z];exact hb)) (QbO _)
structure Turn (P:Program) (w:World) (K:YD) (tg:Expr) (J:It) (fp:List Addr) (it:Addr) (tn:Nat->Heap->Prop):Prop where
 mem:it∈fp
 obj:∀i h,tn i h->∀b∈fp,∃o,h.get? b=some o/\∀v,o.data≠.cell v
 keep:∀i h h',tn i h->(∀b∈fp,∀o,h.get? b=some o->h'.get? b=some o)->tn i h'
 item:∀(X:Cx),X.prog=P->X.w=w->X.K=K->X.calm=true->∀(i:Nat) (jb:YC) (s:Shared) (σ : St) (H:Hp) (E:YA),Inv X jb σ H s->(∀b∈fp,Hr X jb H b)->tn i s.heap->J.go i H ->
  wpAny (model P w) X.A (pyNext (.ref it)) (λr s1=>∃u,r=some u /\
   wpAny (model P w) X.A (letOwnedTupleGo tg (.ref it) u) (λ_ s2=>∃x H',Inv X jb σ H' s2/\RelV x u/\J.yld i H x H'/\tn (i+1) s2.heap/\∀b∈fp,H' b=none) E s1) E s
 done:∀(X:Cx),X.prog=P->X.w=w->X.K=K->X.calm=true->∀(i:Nat) (jb:YC) (s:Shared) (σ : St) (H:Hp) (E:YA),Inv X jb σ H s->(∀b∈fp,Hr X jb H b)->tn i s.heap->J.stop i H ->
  wpAny (model P w) X.A (pyNext (.ref it)) (λr s1=>r=none/\Inv X jb σ H s1) E s
 self:∀(A:Around) (i:Nat) (s:Shared) (Q:YA) (E:YA),tn i s.heap->Q (.ref it) s->wpAny (model P w) A (pyIter (.ref it)) Q E s
abbrev TI:=St->Hp->(It->Hp->Prop)->Prop
def PIE (X:Cx) (jb:YC) (σ : St) (tg:Expr) (R:It->Hp->Prop) (itv:Value) (s2:Shared):Prop:=
 ∃(it:Addr) (fp:List Addr) (tn:Nat->Heap->Prop) (J:It) (H':Hp),itv=.ref it/\Inv X jb σ H' s2/\Turn X.prog X.w X.K tg J fp it tn/\tn 0 s2.heap/\(∀b∈fp,Hr X jb H' b)/\R J H'
def PI (X:Cx) (tg iter:Expr) (wi:TI):Prop:=
 ∀(jb:YC) (s:Shared) (σ : St) (H:Hp) (R:It->Hp->Prop),Inv X jb σ H s->wi σ H R ->
  wpAny (model X.prog X.w) X.A (eval iter X.env) (λv s1=>wpAny (model X.prog X.w) X.A (pyIter v) (PIE X jb σ tg R) X.xe s1) X.xe s
theorem Wb {M:Model} {A:Around} {E:YA} {s:Shared} {tg:Expr} {it:Addr} {u:Value} {o:Obj} {n:String} {vs:Array Value} {Q:YH} (ho:s.heap.get? it=some o) (hc:o.cls=.type n) (hd:o.data=.fields vs)
    (hn:["enumerate","zip","dict_itemiterator","dict_reverseitemiterator","odict_iterator","itertools.zip_longest","itertools.pairwise"].contains n=false) (hQ:Q () s):wpAny M A (letOwnedTupleGo tg (.ref it) u) Q E s:=by
  unfold letOwnedTupleGo;cases tg <;> first
    | exact Qcd hQ
    | (cases u <;> first
        | exact Qcd hQ
        | (refine Qcc (wpAny_load ho ?_)
           rw[hc,hd];show wpAny M A (if (["enumerate","zip","dict_itemiterator","dict_reverseitemiterator","odict_iterator","itertools.zip_longest","itertools.pairwise"].contains n&&vs[0]? == some (rawInt _))=true then _ else _) Q E s
           rw[if_neg (by intro h;rw[hn,Bool.false_and] at h;cases h)];exact Qcd hQ))
def Itl (K:YD) (a:Addr):It:=
 ⟨λi H=>∃xs x,SqL K H a xs/\xs[i]?=some x,λi H x H'=>H'=H/\∀xs,SqL K H a xs->xs[i]?=some x,λi H=>∃xs,SqL K H a xs/\xs.length<=i⟩
def Itt (K:YD) (a:Addr):It:=
 ⟨λi H=>∃xs x,SqT K H a xs/\xs[i]?=some x,λi H x H'=>H'=H/\∀xs,SqT K H a xs->xs[i]?=some x,λi H=>∃xs,SqT K H a xs/\xs.length<=i⟩
def Itr (lo:Int) (n:Nat):It:=⟨λi _=>i < n,λi H x H'=>H'=H/\x=.int (lo+i),λi _=>n<=i⟩
theorem WW {P:Program} {w:World} {K:YD} {tg:Expr} (a it:Addr):Turn P w K tg (Itl K a) [it] it (λi h=>h.IsListIter it a i) where
 mem:=by simp
 obj:=λi h st b hb=>by
  have e:b=it:=by simpa using hb
  subst e;obtain⟨o,e,c,d⟩:=st;exact⟨o,e,λv z=>by rw[d] at z;cases z⟩
 keep:=λi h h' st k=>st.at λo e=>k it (by simp) o e
 item:=by
  intro X hP hw hK hc i jb s σ H E I hf st hg;subst hP hw hK;obtain⟨xs,x,hq,hx⟩:=hg;obtain⟨its,rv,p,hz⟩:=I.list hq;obtain⟨u,hu,ru⟩:=rv.get hx;obtain⟨f0,f1,f2,f3,f4,f5⟩:=hf it (by simp);refine wpAny_pyNext_list_item st p.isList (x:=u) (by simpa using hu) λh' st' sb=>?_;have I1:Inv X jb σ H { s with heap:=h' }:=I.turned (t':=s.toks) (λb o hb e=>(sb.2 b hb).trans e) f0 f1 f3 f4 f5;obtain⟨o,e,c,d⟩:=id st';exact⟨u,rq,Wb (s:={ s with heap:=h' }) e c d (by decide) ⟨x,H,I1,ru,⟨rq,λys hy=>by rw[I.Ni hy hq];exact hx⟩,st',λb hb=>(hf b hb).1⟩⟩
 done:=by
  intro X hP hw hK hc i jb s σ H E I hf st hg;subst hP hw hK;obtain⟨xs,hq,hx⟩:=hg;obtain⟨its,rv,p,hz⟩:=I.list hq;obtain⟨f0,f1,f2,f3,f4,f5⟩:=hf it (by simp);have hl:=rv.length;exact wpAny_pyNext_list_end (I.ok.hd hc) st p.isList (by simp;omega) λh' eb=>⟨rq,I.turned (t':=s.toks) (λb o hb e=>eb b o hb e) f0 f1 f3 f4 f5⟩
 self:=λ_ _ _ _ _ st h=>wpAny_pyIter_listiter st h
theorem Vn {P:Program} {w:World} {K:YD} {tg:Expr} (a it:Addr):Turn P w K tg (Itt K a) [it] it (λi h=>h.IsTupleIter it a i) where
 mem:=by simp
 obj:=λi h st b hb=>by
  have e:b=it:=by simpa using hb
  subst e;obtain⟨o,e,c,d⟩:=st;exact⟨o,e,λv z=>by rw[d] at z;cases z⟩
 keep:=λi h h' st k=>st.at λo e=>k it (by simp) o e
 item:=by
  intro X hP hw hK hc i jb s σ H E I hf st hg;subst hP hw hK;obtain⟨xs,x,hq,hx⟩:=hg;obtain⟨its,rv,p,hz⟩:=I.tuple hq;obtain⟨u,hu,ru⟩:=rv.get hx;obtain⟨f0,f1,f2,f3,f4,f5⟩:=hf it (by simp);refine wpAny_pyNext_tuple_item st (show s.heap.IsTuple a its.toArray from p) (x:=u) (by simpa using hu) λh' st' sb=>?_
  have I1:Inv X jb σ H { s with heap:=h' }:=I.turned (t':=s.toks) (λb o hb e=>(sb.2 b hb).trans e) f0 f1 f3 f4 f5;obtain⟨o,e,c,d⟩:=id st';exact⟨u,rq,Wb (s:={ s with heap:=h' }) e c d (by decide) ⟨x,H,I1,ru,⟨rq,λys hy=>by rw[I.Qe hy hq];exact hx⟩,st',λb hb=>(hf b hb).1⟩⟩
 done:=by
  intro X hP hw hK hc i jb s σ H E I hf st hg;subst hP hw hK;obtain⟨xs,hq,hx⟩:=hg;obtain⟨its,rv,p,hz⟩:=I.tuple hq;obtain⟨f0,f1,f2,f3,f4,f5⟩:=hf it (by simp);have hl:=rv.length;exact wpAny_pyNext_tuple_end (I.ok.hd hc) st (show s.heap.IsTuple a its.toArray from p) (by simp;omega) λh' eb=>⟨rq,I.turned (t':=s.toks) (λb o hb e=>eb b o hb e) f0 f1 f3 f4 f5⟩
 self:=λ_ _ _ _ _ st h=>wpAny_pyIter_tupleiter st h
theorem Vo {P:Program} {w:World} {K:YD} {tg:Expr} (it:Addr) (lo:Int) (n:Nat):Turn P w K tg (Itr lo n) [it] it (λi h=>IsRangeIter h it (lo+(i:Nat)*1) ((n:Int) - (i:Nat)) 1) where
 mem:=by simp
 obj:=λi h st b hb=>by
  have e:b=it:=by simpa using hb
  subst e;exact⟨_,st,λv z=>by
   have z':Data.fields _=Data.cell v:=z;cases z'⟩
 keep:=λi h h' st k=>k it (by simp) _ st
 item:=by
  intro X hP hw hK hc i jb s σ H E I hf st hg;subst hP hw hK;obtain⟨f0,f1,f2,f3,f4,f5⟩:=hf it (by simp);have W:=Walks.range (prog:=X.prog) (w:=X.w) (I.ok.hd hc) it lo 1 n;refine W.item i s _ _ hg st λv h' tk hv st' kk=>?_;obtain⟨t,rfl⟩:=hv;have I1:Inv X jb σ H { s with heap:=h',toks:=tk }:=I.turned (λb o hb e=>kk b o (by simpa using hb) e) f0 f1 f3 f4 f5;refine⟨_,rq,Wb (s:={ s with heap:=h',toks:=tk }) (n:="range_iterator") st' rfl rfl (by decide) ⟨.int (lo+i),H,I1,⟨t,?_⟩,⟨rq,rq⟩,st',λb hb=>(hf b hb).1⟩⟩;rw[Int.mul_one]
 done:=by
  intro X hP hw hK hc i jb s σ H E I hf st hg;subst hP hw hK;obtain⟨f0,f1,f2,f3,f4,f5⟩:=hf it (by simp);exact wpAny_pyNext_range_end (I.ok.hd hc) st (by have:n<=i:=hg;omega) λh' eb=>⟨rq,I.turned (t':=s.toks) (λb o hb e=>eb b o hb e) f0 f1 f3 f4 f5⟩
 self:=λ_ _ _ _ _ st h=>wpAny_pyIter_rangeiter st h
section
variable {X:Cx} {tg:Expr}
def jd (K:YD) (tl:TE):TI:=fun σ H R=>tl σ H λx H1=>∃a,x=.ref a/\(∃xs,SqL K H1 a xs)/\R (Itl K a) H1
def lU (K:YD) (tl:TE):TI:=fun σ H R=>tl σ H λx H1=>∃a,x=.ref a/\(∃xs,SqT K H1 a xs)/\R (Itt K a) H1
theorem O2 {l:Expr} {tl:TE} (hl:PE X l tl):PI X tg l (jd X.K tl):=by
 intro jb s σ H R I h;refine thn (hl jb s σ H _ I h) λv s1 zz=>?_;obtain⟨x,H1,I1,r1,q1⟩:=zz;obtain⟨a,e,⟨xs,hq⟩,q⟩:=q1;subst e;cases r1;obtain⟨its,rv,p,hz⟩:=I1.list hq;refine Qba p.isList ?_;refine⟨s1.heap.objs.size,[s1.heap.objs.size],_,_,H1,rq,I1.kept (t':=s1.toks) λb o e=>Qam _ e,WW a _,⟨_,Qaz _ rfl,rq,rq⟩,λb hb=>?_,q⟩;have e:b=s1.heap.objs.size:=by simpa using hb
 subst e;exact I1.PN (QbZ _) (I1.hok.fresh (QbZ _))
theorem Eu {l:Expr} {tl:TE} (hl:PE X l tl):PI X tg l (lU X.K tl):=by
 intro jb s σ H R I h;refine thn (hl jb s σ H _ I h) λv s1 zz=>?_;obtain⟨x,H1,I1,r1,q1⟩:=zz;obtain⟨a,e,⟨xs,hq⟩,q⟩:=q1;subst e;cases r1;obtain⟨its,rv,p,hz⟩:=I1.tuple hq;refine QaN (show s1.heap.IsTuple a its.toArray from p) ?_
 refine⟨s1.heap.objs.size,[s1.heap.objs.size],_,_,H1,rq,I1.kept (t':=s1.toks) λb o e=>Qam _ e,Vn a _,⟨_,Qaz _ rfl,rq,rq⟩,λb hb=>?_,q⟩;have e:b=s1.heap.objs.size:=by simpa using hb
 subst e;exact I1.PN (QbZ _) (I1.hok.fresh (QbZ _))
theorem YK {jb:YC} {σ : St} {H:Hp} {s:Shared} {R:It->Hp->Prop} {E:YA} {lo hi:Int} {t u v:Tok} {tk:Nat} (I:Inv X jb σ H s) (h1:-(2 ^ 62)<=lo) (h2:lo < 2 ^ 62) (h3:-(2 ^ 62)<=hi) (h4:hi < 2 ^ 62)
  (q:R (Itr lo (hi - lo).toNat) H):wpAny (model X.prog X.w) X.A (pyIter (.ref s.heap.objs.size)) (PIE X jb σ tg R) E { s with heap:=s.heap.push { cls:=.type "range",data:=.fields #[.int lo t,.int hi u,.int 1 v] },toks:=tk }:=by
 refine wpAny_pyIter_range (IsRange.new ..) (small_one h1 h2 h3 h4) ?_;have I1:Inv X jb σ H { s with heap:=s.heap.push { cls:=.type "range",data:=.fields #[.int lo t,.int hi u,.int 1 v] },toks:=tk }:=I.kept λb o e=>Qam _ e;refine⟨(s.heap.push { cls:=.type "range",data:=.fields #[.int lo t,.int hi u,.int 1 v] }).objs.size,[(s.heap.push { cls:=.type "range",data:=.fields #[.int lo t,.int hi u,.int 1 v] }).objs.size],_,_,H,rq,
  I1.kept (t':=tk) λb o e=>Qam _ e,Vo _ lo (hi - lo).toNat,?_,λb hb=>?_,q⟩
 ·have e1:lo+((0:Nat):Int)*1=lo:=by simp
  have e2:(((hi - lo).toNat:Nat):Int) - ((0:Nat):Int)=Builtin.Range.rangeSize lo hi 1:=by rw[rangeSize_one];split <;> omega
  show IsRangeIter _ _ (lo+((0:Nat):Int)*1) ((((hi - lo).toNat:Nat):Int) - ((0:Nat):Int)) 1;rw[e1,e2];exact Qaz _ rfl
 ·have e:b=(s.heap.push { cls:=.type "range",data:=.fields #[.int lo t,.int hi u,.int 1 v] }).objs.size:=by simpa using hb
  subst e;exact I1.PN (QbZ _) (I1.hok.fresh (QbZ _))
def jc (ta:TA):TI:=fun σ H R=>ta σ H λvs H1=>∃j:Int,vs=[.int j]/\-(2 ^ 62)<=j/\j < 2 ^ 62/\R (Itr 0 j.toNat) H1
theorem GF {a:Expr} {ta:TA} {p pos:Pos} (hg:Gl X "range") (hm:X.mg "range"=none) (ha:PA X [a] ta) (hs:starEach [a] X.env=[(false,eval a X.env)]:=by rfl):PI X tg (.Call (.Name "range" p) [a] [] pos) (jc ta):=by
 intro jb s σ H R I h;refine Call_ (G5 I hg hm boot_range (Qac (thn (ha pos jb s σ H _ I h) λus s1 zz=>?_) hs rfl));obtain⟨vs,H1,I1,r1,q1⟩:=zz;obtain⟨j,e,q1,q2,q⟩:=q1;subst e;cases r1 with
 | cons r rr=>
  cases rr;obtain⟨t,rfl⟩:=r;exact call_range_1 (YK I1 (by omega) (by omega) q1 q2 (by simpa using q))
abbrev YN:=Nat->YO
def Oo (wi:TI) (g:TG) (tb:TS):TS:=λD σ H=>wi σ H λJ H1=>∃W:Nat->YN,(∃m,W 0 m σ H1)/\∀i m σ H,W i m σ H ->
 (J.stop i H/\D.nx σ H)\/(J.go i H/\∃N:YO,(∀ σ' H',N σ' H'->∃m',m' < m/\W (i+1) m' σ' H')/\∀x H',J.yld i H x H'->g x σ H' fun σ2 H2=>tb { D with nx:=N,ct:=N,bk:=D.nx } σ2 H2)
def Lj (fp:List Addr) (h:Heap):YC:=fp.filterMap λb=>(h.get? b).map λo=>(b,o)
theorem Km {fp:List Addr} {h:Heap} {b:Addr} {o:Obj} (hb:b∈fp) (e:h.get? b=some o):(b,o)∈Lj fp h:=List.mem_filterMap.mpr ⟨b,hb,by rw[e];rfl⟩
theorem Xr {fp:List Addr} {h:Heap} {p:Addr×Obj} (hp:p∈Lj fp h):p.1∈fp/\h.get? p.1=some p.2:=by
 obtain⟨b,hb,e⟩:=List.mem_filterMap.mp hp;cases q:h.get? b with
 | none=>rw[q] at e;cases e
 | some o=>
  rw[q] at e;have e':(b,o)=p:=Qbv e;subst e';exact⟨hb,q⟩
theorem Inv.pinned {jb:YC} {σ : St} {H:Hp} {s:Shared} {fp:List Addr} (I:Inv X jb σ H s) (hf:∀b∈fp,Hr X jb H b) (ho:∀b∈fp,∃o,s.heap.get? b=some o/\∀v,o.data≠.cell v):Inv X (jb++Lj fp s.heap) σ H s:=
 I.O1 λp hp=>(Qbx.mp hp).elim (λz=>I.pin p (Qap _ z)) λz=>by
  obtain⟨hb,e⟩:=Xr z;obtain⟨f0,f1,f2,_⟩:=hf p.1 hb;obtain⟨o,e',d⟩:=ho p.1 hb;rw[e] at e';cases e';exact⟨e,f0,f1,f2,d⟩
theorem Inv.IV {jb pl:YC} {σ : St} {H:Hp} {s:Shared} (I:Inv X (jb++pl) σ H s):Inv X jb σ H s:=I.O1 λp hp=>I.pin p (Qap _ (List.mem_append_left _ hp))
theorem Li {iter:Expr} {body:List Stmt} {wi:TI} {g:TG} {tb:TS} {pos:Pos} (hp:PassesOwn (model X.prog X.w) X.A X.env X.xe) (hc:X.calm=true) (hi:PI X tg iter wi) (hg:PG X tg g) (hb:PSs X body tb)
  (hs:∀x,foldedSetIterable iter X.env x=pure x:=by intro _;rfl):PS X (.For tg iter body [] pos) (Oo wi g tb):=by
 intro jb s σ H D I h;refine wpAny_For (thn (hi jb s σ H _ I h) λv s1 h1=>thn h1 λitv s2 h2=>?_) hs;obtain⟨it,fp,tn,J,H2,e,I2,T,st2,f2,W,⟨m0,w0⟩,turn⟩:=h2;subst e;have stat:∀{H':Hp},(∀b∈fp,H' b=none)->∀b∈fp,Hr X jb H' b:=λhn b hb=>⟨hn b hb,(f2 b hb).2⟩;refine codeAny_forLoop_any (λn s'=>∃i σ' H',Inv X jb σ' H' s'/\tn i s'.heap/\(∀b∈fp,H' b=none)/\W i n σ' H') ?_ m0 ⟨0,σ,H2,I2,st2,λb hb=>(f2 b hb).1,w0⟩;rintro n s3 ⟨i,σ3,H3,I3,st3,fr3,w3⟩;rcases turn i n σ3 H3 w3 with⟨stop,qn⟩|⟨go,N,hN,step⟩
 ·refine wpAny_passesOwn hp (thn (T.done X rfl rfl rfl hc i jb s3 σ3 H3 X.xe I3 (stat fr3) st3 stop) λr s4 zz=>?_);obtain⟨hr,I4⟩:=zz;subst hr;exact wpAny_execs_nil ⟨σ3,H3,I4,qn⟩
 ·refine wpAny_passesOwn hp (thn (T.item X rfl rfl rfl hc i jb s3 σ3 H3 X.xe I3 (stat fr3) st3 go) λr s4 zz=>?_);obtain⟨u,hr,h4⟩:=zz;subst hr;refine wpAny_passesOwn hp (thn h4 λ_ s5 zz=>?_);obtain⟨x,H5,I5,r5,y5,st5,fr5⟩:=zz;have I5':=I5.pinned (stat fr5) (T.obj _ _ st5);refine wpAny_passesOwn hp (thn (hg _ s5 σ3 H5 x u _ I5' r5 (step x H5 y5)) λ_ s6 zz=>?_);obtain⟨σ6,H6,I6,q6⟩:=zz;refine wpAny_passesOwn hp (thn (hb _ s6 σ6 H6 _ I6 q6) λf s7 q7=>?_);have again:∀{σ7:St} {H7:Hp},Inv X (jb++Lj fp s5.heap) σ7 H7 s7->N σ7 H7->∃m,m < n/\∃i σ' H',Inv X jb σ' H' s7/\tn i s7.heap/\(∀b∈fp,H' b=none)/\W i m σ' H':=λ{σ7 H7} I7 n7=>by
   obtain⟨m',hm,w7⟩:=hN σ7 H7 n7;refine⟨m',hm,i+1,σ7,H7,I7.IV,T.keep _ _ _ st5 λb hb o e=>(I7.pin (b,o) (Qap _ (Qap _ (Km hb e)))).1,λb hb=>?_,w7⟩;obtain⟨o,e,d⟩:=T.obj _ _ st5 b hb;exact (I7.pin (b,o) (Qap _ (Qap _ (Km hb e)))).2.1
  cases f with
  | next=>obtain⟨σ7,H7,I7,n7⟩:=q7;exact again I7 n7
  | cont=>obtain⟨σ7,H7,I7,n7⟩:=q7;exact again I7 n7
  | brk=>obtain⟨σ7,H7,I7,q7⟩:=q7;exact⟨σ7,H7,I7.IV,q7⟩
  | ret v=>obtain⟨x7,σ7,H7,I7,r7,q7⟩:=q7;exact⟨x7,σ7,H7,I7.IV,r7,q7⟩
end
theorem mQ {K:YD} {a:Addr} {xs:YG} {g:TG} {tb:TS} {D:Ends} {σ : St} {H:Hp} (Pv:YN) (h0:Pv 0 σ H) (hl:∀i σ H,i<=xs.length->Pv i σ H->SqL K H a xs)
  (hs:∀i x σ H,xs[i]?=some x->Pv i σ H->g x σ H fun σ2 H2=>tb { D with nx:=Pv (i+1),ct:=Pv (i+1),bk:=D.nx } σ2 H2) (hd:∀ σ H,Pv xs.length σ H->D.nx σ H) :
  ∃W:Nat->YN,(∃m,W 0 m σ H)/\∀i m σ H,W i m σ H ->
   ((Itl K a).stop i H/\D.nx σ H)\/((Itl K a).go i H/\∃N:YO,(∀ σ' H',N σ' H'->∃m',m' < m/\W (i+1) m' σ' H')/\∀x H',(Itl K a).yld i H x H'->g x σ H' fun σ2 H2=>tb { D with nx:=N,ct:=N,bk:=D.nx } σ2 H2):=by
 refine⟨λi m σ H=>m=xs.length - i/\i<=xs.length/\Pv i σ H,⟨xs.length,by simp,Qca _,h0⟩,?_⟩;rintro i m σ H ⟨rfl,hi,p⟩;have q:=hl i σ H hi p;by_cases hlt:i < xs.length
 ·refine .inr ⟨⟨xs,xs[i],q,by simp[hlt]⟩,Pv (i+1),fun σ' H' p'=>⟨xs.length - (i+1),by omega,rq,hlt,p'⟩,λx H' y=>?_⟩;obtain⟨e,y⟩:=y;subst e;exact hs i x σ _ (y xs q) p
 ·have e:i=xs.length:=by omega
  subst e;exact .inl ⟨⟨xs,q,QbZ _⟩,hd σ H p⟩
theorem U3 {K:YD} {a:Addr} {xs:YG} {g:TG} {tb:TS} {D:Ends} {σ : St} {H:Hp} (Pv:YN) (h0:Pv 0 σ H) (hl:∀i σ H,i<=xs.length->Pv i σ H->SqT K H a xs)
  (hs:∀i x σ H,xs[i]?=some x->Pv i σ H->g x σ H fun σ2 H2=>tb { D with nx:=Pv (i+1),ct:=Pv (i+1),bk:=D.nx } σ2 H2) (hd:∀ σ H,Pv xs.length σ H->D.nx σ H) :
  ∃W:Nat->YN,(∃m,W 0 m σ H)/\∀i m σ H,W i m σ H ->
   ((Itt K a).stop i H/\D.nx σ H)\/((Itt K a).go i H/\∃N:YO,(∀ σ' H',N σ' H'->∃m',m' < m/\W (i+1) m' σ' H')/\∀x H',(Itt K a).yld i H x H'->g x σ H' fun σ2 H2=>tb { D with nx:=N,ct:=N,bk:=D.nx } σ2 H2):=by
 refine⟨λi m σ H=>m=xs.length - i/\i<=xs.length/\Pv i σ H,⟨xs.length,by simp,Qca _,h0⟩,?_⟩;rintro i m σ H ⟨rfl,hi,p⟩;have q:=hl i σ H hi p;by_cases hlt:i < xs.length
 ·refine .inr ⟨⟨xs,xs[i],q,by simp[hlt]⟩,Pv (i+1),fun σ' H' p'=>⟨xs.length - (i+1),by omega,rq,hlt,p'⟩,λx H' y=>?_⟩;obtain⟨e,y⟩:=y;subst e;exact hs i x σ _ (y xs q) p
 ·have e:i=xs.length:=by omega
  subst e;exact .inl ⟨⟨xs,q,QbZ _⟩,hd σ H p⟩
theorem Ly {lo:Int} {n:Nat} {g:TG} {tb:TS} {D:Ends} {σ : St} {H:Hp} (Pv:YN) (h0:Pv 0 σ H)
  (hs:∀i σ H,i < n->Pv i σ H->g (.int (lo+i)) σ H fun σ2 H2=>tb { D with nx:=Pv (i+1),ct:=Pv (i+1),bk:=D.nx } σ2 H2) (hd:∀ σ H,Pv n σ H->D.nx σ H) :
  ∃W:Nat->YN,(∃m,W 0 m σ H)/\∀i m σ H,W i m σ H ->
   ((Itr lo n).stop i H/\D.nx σ H)\/((Itr lo n).go i H/\∃N:YO,(∀ σ' H',N σ' H'->∃m',m' < m/\W (i+1) m' σ' H')/\∀x H',(Itr lo n).yld i H x H'->g x σ H' fun σ2 H2=>tb { D with nx:=N,ct:=N,bk:=D.nx } σ2 H2):=by
 refine⟨λi m σ H=>m=n - i/\i<=n/\Pv i σ H,⟨n,by simp,Qca _,h0⟩,?_⟩;rintro i m σ H ⟨rfl,hi,p⟩;by_cases hlt:i < n
 ·refine .inr ⟨hlt,Pv (i+1),fun σ' H' p'=>⟨n - (i+1),by omega,rq,hlt,p'⟩,λx H' y=>?_⟩;obtain⟨e,y⟩:=y;subst e y;exact hs i σ _ hlt p
 ·have e:i=n:=by omega
  subst e;exact .inl ⟨QbZ _,hd σ H p⟩
abbrev R2:=V->V->Hp->VK->Prop
def OpR (X:Cx) (f:Value->Value->Sem Value) (r:R2):Prop:=
 ∀(jb:YC) (s:Shared) (σ : St) (H:Hp) (x y:V) (v u:Value) (Q:VK),Inv X jb σ H s->RelV x v->RelV y u->r x y H Q ->
  wpAny (model X.prog X.w) X.A (f v u) (EP X jb σ Q) X.xe s
def UnR (X:Cx) (f:Value->Sem Value) (r:V->Hp->VK->Prop):Prop:=
 ∀(jb:YC) (s:Shared) (σ : St) (H:Hp) (x:V) (v:Value) (Q:VK),Inv X jb σ H s->RelV x v->r x H Q ->
  wpAny (model X.prog X.w) X.A (f v) (EP X jb σ Q) X.xe s
def Ea (X:Cx) (f:Value) (r:YG->Hp->VK->Prop):Prop:=
 ∀(jb:YC) (s:Shared) (σ : St) (H:Hp) (xs:YG) (us:YE) (Q:VK),Inv X jb σ H s->Vals xs us->r xs H Q ->
  wpAny (model X.prog X.w) X.A (call f us) (EP X jb σ Q) X.xe s
def oX (X:Cx) (r:V->Hp->(Bool->Hp->Prop)->Prop):Prop:=
 ∀(jb:YC) (s:Shared) (σ : St) (H:Hp) (x:V) (v:Value) (Q:Bool->Hp->Prop),Inv X jb σ H s->RelV x v->r x H Q ->
  wpAny (model X.prog X.w) X.A (truthy v) (TP X jb σ Q) X.xe s
def tOp (r:R2) (ta tb:TE):TE:=fun σ H Q=>ta σ H λx H1=>tb σ H1 λy H2=>r x y H2 Q
def tUn (r:V->Hp->VK->Prop) (ta:TE):TE:=fun σ H Q=>ta σ H λx H1=>r x H1 Q
def rI (C:Int->Int->Prop) (g:Int->Int->V):R2:=λx y H Q=>∃i j,x=.int i/\y=.int j/\C i j/\Q (g i j) H
def rI0 (g:Int->Int->V):R2:=λx y H Q=>∃i j,x=.int i/\y=.int j/\Q (g i j) H
def rU (g:Int->V):V->Hp->VK->Prop:=λx H Q=>∃i,x=.int i/\Q (g i) H
section
variable {X:Cx} {a b c:Expr} {ta tb tc:TE} {pos:Pos}
theorem Zz (ha:PE X a ta) (hb:PE X b tb) {jb:YC} {s:Shared} {σ : St} {H:Hp} {R:V->V->Hp->Prop} (I:Inv X jb σ H s)
  (h:ta σ H λx H1=>tb σ H1 λy H2=>R x y H2) {Q:YA} {f:Value->Value->Sem Value}
  (hf:∀v u s2 x y H2,Inv X jb σ H2 s2->RelV x v->RelV y u->R x y H2->wpAny (model X.prog X.w) X.A (f v u) Q X.xe s2) :
  wpAny (model X.prog X.w) X.A (eval a X.env) (λv s₁=>wpAny (model X.prog X.w) X.A (eval b X.env) (λu s₂=>wpAny (model X.prog X.w) X.A (f v u) Q X.xe s₂) X.xe s₁) X.xe s:=by
 refine thn (ha jb s σ H _ I h) λv s1 zz=>?_;obtain⟨x,H1,I1,r1,q1⟩:=zz;refine thn (hb jb s1 σ H1 _ I1 q1) λu s2 zz=>?_;obtain⟨y,H2,I2,r2,q2⟩:=zz;exact hf v u s2 x y H2 I2 r1 r2 q2
theorem Ax {op:Operator} {r:R2} (ho:OpR X (binaryOp op) r) (ha:PE X a ta) (hb:PE X b tb):PE X (.BinOp a op b pos) (tOp r ta tb):=by
 intro jb s σ H Q I h;exact wpAny_BinOp (Zz ha hb I h λv u s2 x y H2 I2 rx ry q=>ho jb s2 σ H2 x y v u Q I2 rx ry q)
theorem NT {op:UnaryOp} {r:V->Hp->VK->Prop} (ho:UnR X (unaryOp op) r) (ha:PE X a ta):PE X (.UnaryOp op a pos) (tUn r ta):=by
 intro jb s σ H Q I h;refine UnaryOp_ (thn (ha jb s σ H _ I h) λv s1 zz=>?_);obtain⟨x,H1,I1,r1,q1⟩:=zz;exact ho jb s1 σ H1 x v Q I1 r1 q1
theorem opI {f:Value->Value->Sem Value} {C:Int->Int->Prop} {g:Int->Int->Int}
  (rule:∀(i j:Int) (t u:Tok) (s:Shared) (Q:YA) (E:YA),C i j->Q (.int (g i j) s.toks) { s with toks:=s.toks+1 }->wpAny (model X.prog X.w) X.A (f (.int i t) (.int j u)) Q E s) :
  OpR X f (rI C λi j=>.int (g i j)):=by
 intro jb s σ H x y v u Q I rx ry h;obtain⟨i,j,rfl,rfl,hc,q⟩:=h;obtain⟨t,rfl⟩:=rx;obtain⟨t',rfl⟩:=ry;exact rule i j t t' s _ _ hc ⟨.int (g i j),H,I.tok _,⟨_,rq⟩,q⟩
theorem dW {f:Value->Value->Sem Value} {g:Int->Int->Int}
  (rule:∀(i j:Int) (t u:Tok) (s:Shared) (Q:YA) (E:YA),Q (.int (g i j) s.toks) { s with toks:=s.toks+1 }->wpAny (model X.prog X.w) X.A (f (.int i t) (.int j u)) Q E s) :
  OpR X f (rI0 λi j=>.int (g i j)):=by
 intro jb s σ H x y v u Q I rx ry h;obtain⟨i,j,rfl,rfl,q⟩:=h;obtain⟨t,rfl⟩:=rx;obtain⟨t',rfl⟩:=ry;exact rule i j t t' s _ _ ⟨.int (g i j),H,I.tok _,⟨_,rq⟩,q⟩
theorem VP {f:Value->Value->Sem Value} {g:Int->Int->Bool}
  (rule:∀(i j:Int) (t u:Tok) (s:Shared) (Q:YA) (E:YA),Q (.bool (g i j)) s->wpAny (model X.prog X.w) X.A (f (.int i t) (.int j u)) Q E s) :
  OpR X f (rI0 λi j=>.bl (g i j)):=by
 intro jb s σ H x y v u Q I rx ry h;obtain⟨i,j,rfl,rfl,q⟩:=h;obtain⟨t,rfl⟩:=rx;obtain⟨t',rfl⟩:=ry;exact rule i j t t' s _ _ ⟨.bl (g i j),H,I,rq,q⟩
def oZ (i j:Int):Prop:=0 < j/\j < 1073741824
def oY (i j:Int):Prop:=0<=j/\j<=1000000/\i.natAbs < 2 ^ 64
def WQ (i j:Int):Prop:=(-(2 ^ 64) < i/\i < 2 ^ 64)\/(-(2 ^ 64) < j/\j < 2 ^ 64)
theorem WQ.ok {i j:Int} (h:WQ i j):IntMulOk i j:=by
 rcases h with⟨h1,h2⟩|⟨h1,h2⟩
 ·exact .of_left (intBits_le_64 h1 h2)
 ·exact .of_right (intBits_le_64 h1 h2)
theorem CK:OpR X (binaryOp .Add) (rI0 λi j=>.int (i+j)):=dW λ_ _ _ _ _ _ _ q=>add_int q
theorem Gm:OpR X (binaryOp .Sub) (rI0 λi j=>.int (i - j)):=dW λ_ _ _ _ _ _ _ q=>sub_int q
theorem Gn:OpR X (binaryOp .Mult) (rI WQ λi j=>.int (i*j)):=opI λ_ _ _ _ _ _ _ hc q=>mul_int q hc.ok
theorem O5:OpR X (binaryOp .FloorDiv) (rI oZ λi j=>.int (i / j)):=opI λi j _ _ _ _ _ hc q=>by
 have h1:(0:Int) < j:=hc.1;have h2:j < 1073741824:=hc.2;exact floordiv_int (by omega) (by rw[Int.fdiv_eq_ediv_of_nonneg i (by omega)];exact q) (.inl (PyProof.noPylong_small (by omega)))
theorem El:OpR X (binaryOp .Mod) (rI (λ_ j=>0 < j) λi j=>.int (i % j)):=opI λi j _ _ _ _ _ hc q=>by
 have h1:(0:Int) < j:=hc;exact mod_int' (by omega) (by rw[Int.fmod_eq_emod_of_nonneg i (by omega)];exact q)
theorem Xm:OpR X (binaryOp .Pow) (rI oY λi j=>.int (i ^ j.toNat)):=opI λ_ _ _ _ _ _ _ hc q=>pow_int_small hc.1 hc.2.1 hc.2.2 q
theorem unI {f:Value->Sem Value} {g:Int->Int}
  (rule:∀(i:Int) (t:Tok) (s:Shared) (Q:YA) (E:YA),Q (.int (g i) s.toks) { s with toks:=s.toks+1 }->wpAny (model X.prog X.w) X.A (f (.int i t)) Q E s) :
  UnR X f (rU λi=>.int (g i)):=by
 intro jb s σ H x v Q I rx h;obtain⟨i,rfl,q⟩:=h;obtain⟨t,rfl⟩:=rx;exact rule i t s _ _ ⟨.int (g i),H,I.tok _,⟨_,rq⟩,q⟩
theorem La:UnR X (unaryOp .USub) (rU λi=>.int (-i)):=unI λ_ _ _ _ _ q=>neg_int q
end
def dz:V->V->Bool
 | .non,.non=>true | .non,.int _=>true | .int _,.non=>true | .non,.bl _=>true | .bl _,.non=>true | .non,.str _=>true | .str _,.non=>true
 | .int _,.int _=>true | .bl _,.bl _=>true | .str _,.str _=>true | .byt _,.byt _=>true
 | .int _,.str _=>true | .str _,.int _=>true | .bl _,.str _=>true | .str _,.bl _=>true
 | _,_=>false
def rEq:R2:=λx y H Q=>dz x y=true/\Q (.bl (decide (x=y))) H
def rNe:R2:=λx y H Q=>dz x y=true/\Q (.bl (!decide (x=y))) H
theorem U7 {i j:Int}:decide (V.int i=V.int j)=(i == j):=by
 rw[QbA];simp
theorem X5 {i j:Bool}:decide (V.bl i=V.bl j)=(i == j):=by
 rw[QbA];simp
theorem U6 {i j:Str}:decide (V.str i=V.str j)=(i == j):=by
 rw[QbA];simp
theorem U8 {i j:Array UInt8}:decide (V.byt i=V.byt j)=(i.toList == j.toList):=by
 rw[QbA];cases i;cases j;simp
section
variable {X:Cx} {a b c:Expr} {ta tb tc:TE} {pos:Pos}
theorem Bx {jb:YC} {σ : St} {H:Hp} {s:Shared} {Q:VK} {k k':Bool} (I:Inv X jb σ H s) (q:Q (.bl k) H) (e:k=k'):EP X jb σ Q (.bool k') s:=by
 subst e;exact⟨.bl k,H,I,rq,q⟩
theorem Dg:OpR X (compareOp .Eq) rEq:=by
 intro jb s σ H x y v u Q I rx ry h;obtain⟨hs,q⟩:=h;cases x with
 | non=>
  cases rx;cases y with
  | non=>cases ry;exact PySem.EqNone.eq_none_none (Bx I q (by simp))
  | bl j=>cases ry;exact PySem.EqNone.eq_none_bool (Bx I q (by simp))
  | int j=>obtain⟨t',rfl⟩:=ry;exact PySem.EqNone.eq_none_int (Bx I q (by simp))
  | str j=>obtain⟨t',rfl⟩:=ry;exact PySem.EqNone.eq_none_str (Bx I q (by simp))
  | _=>exact absurd (show false=true from hs) QaG
 | bl i=>
  cases rx;cases y with
  | non=>cases ry;exact PySem.EqNone.eq_bool_none (Bx I q (by simp))
  | bl j=>cases ry;exact eq_bool (Bx I q X5)
  | str j=>obtain⟨t',rfl⟩:=ry;exact PySem.EqMixed.eq_bool_str (Bx I q (by simp))
  | _=>exact absurd (show false=true from hs) QaG
 | int i=>
  obtain⟨t,rfl⟩:=rx;cases y with
  | non=>cases ry;exact PySem.EqNone.eq_int_none (Bx I q (by simp))
  | int j=>obtain⟨t',rfl⟩:=ry;exact eq_int (Bx I q U7)
  | str j=>obtain⟨t',rfl⟩:=ry;exact PySem.EqMixed.eq_int_str (Bx I q (by simp))
  | _=>exact absurd (show false=true from hs) QaG
 | str i=>
  obtain⟨t,rfl⟩:=rx;cases y with
  | non=>cases ry;exact PySem.EqNone.eq_str_none (Bx I q (by simp))
  | bl j=>cases ry;exact PySem.EqMixed.eq_str_bool (Bx I q (by simp))
  | int j=>obtain⟨t',rfl⟩:=ry;exact PySem.EqMixed.eq_str_int (Bx I q (by simp))
  | str j=>obtain⟨t',rfl⟩:=ry;exact eq_str (Bx I q U6)
  | _=>exact absurd (show false=true from hs) QaG
 | byt i=>
  obtain⟨t,rfl⟩:=rx;cases y with
  | byt j=>obtain⟨t',rfl⟩:=ry;exact PySem.W.eq_bytes (Bx I q U8)
  | _=>exact absurd (show false=true from hs) QaG
 | _=>cases y <;> exact absurd (show false=true from hs) QaG
theorem N5:OpR X (compareOp .NotEq) rNe:=by
 intro jb s σ H x y v u Q I rx ry h;obtain⟨hs,q⟩:=h;cases x with
 | non=>
  cases rx;cases y with
  | non=>cases ry;exact PySem.EqNone.ne_none_none (Bx I q (by simp))
  | bl j=>cases ry;exact PySem.EqNone.ne_none_bool (Bx I q (by simp))
  | int j=>obtain⟨t',rfl⟩:=ry;exact PySem.EqNone.ne_none_int (Bx I q (by simp))
  | str j=>obtain⟨t',rfl⟩:=ry;exact PySem.EqNone.ne_none_str (Bx I q (by simp))
  | _=>exact absurd (show false=true from hs) QaG
 | bl i=>
  cases rx;cases y with
  | non=>cases ry;exact PySem.EqNone.ne_bool_none (Bx I q (by simp))
  | bl j=>cases ry;exact ne_bool (Bx I q (congrArg not X5))
  | str j=>obtain⟨t',rfl⟩:=ry;exact PySem.EqMixed.ne_bool_str (Bx I q (by simp))
  | _=>exact absurd (show false=true from hs) QaG
 | int i=>
  obtain⟨t,rfl⟩:=rx;cases y with
  | non=>cases ry;exact PySem.EqNone.ne_int_none (Bx I q (by simp))
  | int j=>obtain⟨t',rfl⟩:=ry;exact ne_int (Bx I q (congrArg not U7))
  | str j=>obtain⟨t',rfl⟩:=ry;exact PySem.EqMixed.ne_int_str (Bx I q (by simp))
  | _=>exact absurd (show false=true from hs) QaG
 | str i=>
  obtain⟨t,rfl⟩:=rx;cases y with
  | non=>cases ry;exact PySem.EqNone.ne_str_none (Bx I q (by simp))
  | bl j=>cases ry;exact PySem.EqMixed.ne_str_bool (Bx I q (by simp))
  | int j=>obtain⟨t',rfl⟩:=ry;exact PySem.EqMixed.ne_str_int (Bx I q (by simp))
  | str j=>obtain⟨t',rfl⟩:=ry;exact ne_str (Bx I q (congrArg not U6))
  | _=>exact absurd (show false=true from hs) QaG
 | byt i=>
  obtain⟨t,rfl⟩:=rx;cases y with
  | byt j=>obtain⟨t',rfl⟩:=ry;exact PySem.W.ne_bytes (Bx I q (congrArg not U8))
  | _=>exact absurd (show false=true from hs) QaG
 | _=>cases y <;> exact absurd (show false=true from hs) QaG
theorem Ml:OpR X (compareOp .Lt) (rI0 λi j=>.bl (decide (i < j))):=VP λ_ _ _ _ _ _ _ q=>lt_int q
theorem Mp:OpR X (compareOp .LtE) (rI0 λi j=>.bl (decide (i<=j))):=VP λ_ _ _ _ _ _ _ q=>le_int q
theorem Z2:OpR X (compareOp .Gt) (rI0 λi j=>.bl (decide (j < i))):=VP λ_ _ _ _ _ _ _ q=>gt_int q
theorem VN:OpR X (compareOp .GtE) (rI0 λi j=>.bl (decide (j<=i))):=VP λ_ _ _ _ _ _ _ q=>ge_int q
theorem aR:OpR X (compareOp .IsNot) (λx y H Q=>y=.non/\Q (.bl (!decide (x=.non))) H):=by
 intro jb s σ H x y v u Q I rx ry h;obtain⟨rfl,q⟩:=h;cases ry;refine isnot_none_gen (Bx I q ?_);cases x <;> first
  | (cases rx;rfl)
  | (obtain⟨t,rfl⟩:=rx;rfl)
theorem OpR.or {f:Value->Value->Sem Value} {r r':R2} (h:OpR X f r) (h':OpR X f r'):OpR X f (λx y H Q=>r x y H Q\/r' x y H Q):=by
 intro jb s σ H x y v u Q I rx ry q;rcases q with q | q
 ·exact h jb s σ H x y v u Q I rx ry q
 ·exact h' jb s σ H x y v u Q I rx ry q
theorem Bg (b:Expr) {op:CmpOp} (h:op≠.In:=by decide) (h2:op≠.NotIn:=by decide):behindInMarks op b=false:=by
 have e1:(op == CmpOp.In)=false:=by cases op <;> first | rfl | exact absurd rfl h
 have e2:(op == CmpOp.NotIn)=false:=by cases op <;> first | rfl | exact absurd rfl h2
 cases b <;> simp[behindInMarks,e1,e2]
theorem Cp {op:CmpOp} {r:R2} (ho:OpR X (compareOp op) r) (ha:PE X a ta) (hb:PE X b tb) (hm:behindInMarks op b=false):PE X (.Compare a [op] [b] pos) (tOp r ta tb):=by
 intro jb s σ H Q I h;exact wpAny_Compare1 (Zz ha hb I h λv u s2 x y H2 I2 rx ry q=>ho jb s2 σ H2 x y v u Q I2 rx ry q) hm
def gW (t:TE):TT:=fun σ H Q=>t σ H λx H'=>∃k,x=.bl k/\Q k H'
theorem Bm {op:CmpOp} {r:R2} (ho:OpR X (compareOp op) r) (ha:PE X a ta) (hb:PE X b tb) (hm:behindInMarks op b=false):PT X (.Compare a [op] [b] pos) (gW (tOp r ta tb)):=by
 intro jb s σ H Q I h;refine wpAny_isTrue_Compare1 (thn (ha jb s σ H _ I h) λv s1 ⟨x,H1,I1,r1,q1⟩=>thn (hb jb s1 σ H1 _ I1 q1) λu s2 ⟨y,H2,I2,r2,q2⟩=>
  thn (ho jb s2 σ H2 x y v u _ I2 r1 r2 q2) λc s3 ⟨z,H3,I3,r3,k,e,q3⟩=>?_) hm
 subst e;cases r3;exact QaW ⟨H3,I3,q3⟩
def cR (r r':R2) (ta tb tc:TE):TE:=fun σ H Q=>ta σ H λx H1=>tb σ H1 λy H2=>r x y H2 λz H3=>∃k,z=.bl k /\
 (if k=true then tc σ H3 λw' H4=>r' y w' H4 Q else Q (.bl false) H3)
theorem Nb {op op':CmpOp} {r r':R2} (ho:OpR X (compareOp op) r) (ho':OpR X (compareOp op') r') (ha:PE X a ta) (hb:PE X b tb) (hc:PE X c tc)
  (hm:lastMarks [op,op'] [b,c]=false:=by with_unfolding_all rfl):PE X (.Compare a [op,op'] [b,c] pos) (cR r r' ta tb tc):=by
 intro jb s σ H Q I h;refine Compare_chain (thn (ha jb s σ H _ I h) λv s1 ⟨x,H1,I1,r1,q1⟩=>chain_link (thn (hb jb s1 σ H1 _ I1 q1) λu s2 ⟨y,H2,I2,r2,q2⟩=>
  thn (ho jb s2 σ H2 x y v u _ I2 r1 r2 q2) λd s3 ⟨z,H3,I3,r3,k,e,q3⟩=>?_)) hm
 subst e;cases r3;refine QaW ?_;cases k with
 | false=>exact ite_ff ⟨.bl false,H3,I3,rfl,q3⟩
 | true=>exact ite_tt (chain_last (thn (hc jb s3 σ H3 _ I3 q3) λw' s4 ⟨z',H4,I4,r4,q4⟩=>ho' jb s4 σ H4 y z' u w' Q I4 r2 r4 q4))
def ZD (K:YD) (x:V) (H:Hp) (k:Bool):Prop:=
 match x with
 | .non=>k=false
 | .bl b=>k=b
 | .int i=>k=(i != 0)
 | .str y=>y.length<=sizeLine/\k=((y.length:Int) != 0)
 | .byt y=>y.size<=sizeLine/\k=((y.size:Int) != 0)
 | .ref p=>(∃xs,SqL K H p xs/\k=!xs.isEmpty)\/(∃xs,SqT K H p xs/\k=!xs.isEmpty)\/∃kvs,H p=some (.dK kvs)/\k=!kvs.isEmpty
 | _=>False
theorem V7 {κ : Type} {kvs:List (κ×V)} {vs:List (κ×Value)} (r:KV kvs vs):(!vs.isEmpty)=!kvs.isEmpty:=by
 cases r <;> rfl
theorem Oc {xs:YG} {its:YE} (r:Vals xs its):(!its.toArray.isEmpty)=!xs.isEmpty:=by
 cases r <;> simp
theorem Lr:(sizeLine:Nat) < 2 ^ 63:=by rw[sizeLine_eq];decide
theorem cO:oX X (λx H Q=>∃k,ZD X.K x H k/\Q k H):=by
 intro jb s σ H x v Q I rx h;obtain⟨k,e,q⟩:=h;have hl:=Lr;have hs:sizeLine=16777216:=sizeLine_eq;cases x with
 | non=>
  cases rx;have e':k=false:=e;subst e';exact truthy_none ⟨H,I,q⟩
 | bl b=>
  cases rx;have e':k=b:=e;subst e';exact QaW ⟨H,I,q⟩
 | int i=>
  obtain⟨t,rfl⟩:=rx;have e':k=(i != 0):=e;subst e';exact PySem.P.truthy_int ⟨H,I,q⟩
 | str y=>
  obtain⟨t,rfl⟩:=rx;obtain⟨hy,e'⟩ : y.length<=sizeLine/\k=((y.length:Int) != 0):=e;subst e';exact PySem.P.truthy_str (by omega) ⟨H,I.tok _,q⟩
 | byt y=>
  obtain⟨t,rfl⟩:=rx;obtain⟨hy,e'⟩ : y.size<=sizeLine/\k=((y.size:Int) != 0):=e;subst e';exact PySem.W.truthy_bytes (by omega) ⟨H,I.tok _,q⟩
 | ref p=>
  cases rx;have e':(∃xs,SqL X.K H p xs/\k=!xs.isEmpty)\/(∃xs,SqT X.K H p xs/\k=!xs.isEmpty)\/∃kvs,H p=some (.dK kvs)/\k=!kvs.isEmpty:=e;rcases e' with⟨xs,hx,e'⟩|⟨xs,hx,e'⟩|⟨kvs,hx,e'⟩
  ·subst e';obtain⟨its,r,pl,hz⟩:=I.list hx;have hlen:=r.length;exact wpAny_truthy_list pl.isList (by simp only[QaT];omega) ⟨H,I.tok _,by rw[Oc r];exact q⟩
  ·subst e';obtain⟨its,r,pl,hz⟩:=I.tuple hx;have hlen:=r.length;exact truthy_tuple pl (by simp only[QaT];omega) ⟨H,I.tok _,by rw[Oc r];exact q⟩
  ·subst e';obtain⟨hz,hS,vs,r,m⟩ : kvs.length<=sizeLine/\(p == sysModules)=false/\∃vs,KV kvs vs/\s.heap.DictOf (Ph X.prog X.w) p vs:=I.hok p _ hx;have hlen:kvs.length=vs.length:=QbN r;exact wpAny_truthy_dict hS m (by omega) ⟨H,I.tok _,by rw[V7 r];exact q⟩
 | _=>exact (show False from e).elim
theorem YT (ha:PE X a ta) (he:∀whole,isTrue a X.env whole=(do let v <-whole;standAt a.pos;holding [v] (truthy v))) :
  PT X a (fun σ H Q=>ta σ H λx H'=>∃k,ZD X.K x H' k/\Q k H'):=by
 intro jb s σ H Q I h;refine isTrue_plain (thn (ha jb s σ H _ I h) λv s1 zz=>?_) (he _);obtain⟨x,H1,I1,r1,q1⟩:=zz;exact cO jb s1 σ H1 x v Q I1 r1 q1
theorem vals1 {x:V} {us:YE} (r:Vals [x] us):∃u,us=[u]/\RelV x u:=by
 cases r with
 | cons r1 r2=>cases r2;exact⟨_,rfl,r1⟩
theorem vals2 {x y:V} {us:YE} (r:Vals [x,y] us):∃u w',us=[u,w']/\RelV x u/\RelV y w':=by
 cases r with
 | cons r1 r2=>
  cases r2 with
  | cons r3 r4=>cases r4;exact⟨_,_,rfl,r1,r3⟩
theorem Tw:Ea X (.builtin "abs") (λxs H Q=>∃i,xs=[.int i]/\Q (.int (if i < 0 then -i else i)) H):=by
 intro jb s σ H xs us Q I r h;obtain⟨i,rfl,q⟩:=h;obtain⟨u,rfl,t,rfl⟩:=vals1 r;exact call_abs_int λu tk=>⟨.int (if i < 0 then -i else i),H,I.tok _,⟨_,rq⟩,q⟩
theorem Qq (hc:X.calm=true):Ea X (.builtin "max") (λxs H Q=>∃i j,xs=[.int i,.int j]/\Q (.int (if j > i then j else i)) H):=by
 intro jb s σ H xs us Q I r h;obtain⟨i,j,rfl,q⟩:=h;obtain⟨u,w',rfl,⟨t,rfl⟩,⟨t',rfl⟩⟩:=vals2 r;refine max_two_ints (I.ok.hd hc) λh' tk k=>⟨_,H,I.kept k,?_,q⟩;by_cases hj:j > i
 ·rw[if_pos hj,if_pos hj];exact⟨_,rq⟩
 ·rw[if_neg hj,if_neg hj];exact⟨_,rq⟩
theorem Yg (hc:X.calm=true):Ea X (.builtin "min") (λxs H Q=>∃i j,xs=[.int i,.int j]/\Q (.int (if j < i then j else i)) H):=by
 intro jb s σ H xs us Q I r h;obtain⟨i,j,rfl,q⟩:=h;obtain⟨u,w',rfl,⟨t,rfl⟩,⟨t',rfl⟩⟩:=vals2 r;refine min_two_ints (I.ok.hd hc) λh' tk k=>⟨_,H,I.kept k,?_,q⟩;by_cases hj:j < i
 ·rw[if_pos hj,if_pos hj];exact⟨_,rq⟩
 ·rw[if_neg hj,if_neg hj];exact⟨_,rq⟩
theorem Ju:Ea X (.type "int") (λxs H Q=>(∃i,xs=[.int i]/\Q (.int i) H)\/∃k,xs=[.bl k]/\Q (.int (if k then 1 else 0)) H):=by
 intro jb s σ H xs us Q I r h;rcases h with⟨i,rfl,q⟩|⟨k,rfl,q⟩
 ·obtain⟨u,rfl,t,rfl⟩:=vals1 r;exact call_int_int ⟨.int i,H,I,⟨_,rq⟩,q⟩
 ·obtain⟨u,rfl,r1⟩:=vals1 r;cases r1;exact call_int_bool ⟨.int (if k then 1 else 0),H,I.tok _,⟨_,rq⟩,q⟩
end
structure Nu (h:Heap) (x dx C:Addr) (mA:YB):Prop where
 obj:h.get? x=some (instObj C dx)
 ns:h.Ns1 dx mA
 ne:dx≠x
theorem Xv {h:Heap} {dx:Addr} {mA:YB} (n:h.Ns1 dx mA):∃od,h.get? dx=some od/\∀name,lookIn name od=some (mA name):=by
 obtain⟨o,es,ep,ho,hd,hk,_,hm⟩:=n;refine⟨o,ho,λname=>?_⟩;have e:=hm name;unfold nsFind findBy at e;rw[<-Array.find?_toList] at e;unfold lookIn;rw[hd];dsimp only;split
 ·rename_i y q;rw[q] at e;exact congrArg some e
 ·rename_i q;rw[q] at e;have a:es.toList.any (·.refKey)=false:=by
   rw[List.any_eq_false];intro y hy;obtain⟨z,t,hkey⟩:=hk y (Array.mem_toList_iff.mp hy);simp[DictEntry.refKey,hkey]
  have a':¬es.toList.any (·.refKey)=true:=by rw[a];exact QaG
  rw[if_neg a'];exact congrArg some e
theorem Nu.look {h:Heap} {x dx C:Addr} {mA:YB} (I:Nu h x dx C mA):∃od,PySem.W.InstAt h x (instObj C dx) C (some od)/\∀name,lookIn name od=some (mA name):=
 let ⟨od,ho,hl⟩:=Xv I.ns
 ⟨od,⟨I.obj,rq,rq,ho⟩,hl⟩
section
variable {prog:Program} {w:World} {A:Around} {E:YA} {s:Shared} {K:YD} {x dx C f:Addr} {mA:YB} {name:Str} {v:Value}
theorem get_map {expr:Bool} {Q:YA} (X:K.In s.heap) (I:Nu s.heap x dx C mA) (hg:plainGet K C name=true) (hh:hasDictIn K C=true)
  (ha:findIn K (.ref C) name=some none) (hv:mA name=some v) (hv':PySem.W.handedIn v=true) (h:Q v { s with toks:=s.toks+1 }) :
  wpAny (model prog w) A (getAttr (.ref x) name expr) Q E s:=by
 obtain⟨od,J,hl⟩:=I.look;exact PySem.W.get_value X J (PySem.W.plainGet_of hg).1 (PySem.W.findObj_own hh ha rfl (by rw[hl,hv])) hv' h
theorem Zt {pl:Sem Bool} {Q:Value×YE->Shared->Prop} (X:K.In s.heap) (I:Nu s.heap x dx C mA) (hg:plainGet K C name=true)
  (hf:findIn K (.ref C) name=some (some (.ref f))) (ht:isFn K (.ref f)=true) (hv:mA name=none) (h:Q (.ref f,[.ref x]) s) :
  wpAny (model prog w) A (getMethod (.ref x) name pl) Q E s:=by
 obtain⟨od,J,hl⟩:=I.look;exact PySem.W.method_fn X J (PySem.W.plainGet_of hg).1 (PySem.W.plainGet_of hg).2 hf (beq_iff_eq.mp ht) (by show (lookIn name od).map (·.isSome)=some false;rw[hl,hv];rfl) h
theorem aD {ns:YF} {Q:YH} (X:K.In s.heap) (I:Nu s.heap x dx C mA)
  (hs:findIn K (.ref C) "__setattr__"=some (some (.builtin "object.__setattr__"))) (hp:PySem.W.plainOver K C=true) (ht:PySem.W.takerIn K C name=some none) (hh:hasDictIn K C=true)
  (hw:PySem.Within mA ns) (hsz:ns.length<=sizeLine)
  (h:∀h',Nu h' x dx C (λy=>if y=name then some v else mA y)->Heap.SameBut dx s.heap h'->Q () { s with heap:=h',toks:=s.toks+2 }) :
  wpAny (model prog w) A (setAttr (.ref x) name v) Q E s:=by
 obtain⟨od,J,hl⟩:=I.look;refine PySem.W.set_plain X J hs (PySem.W.osa_open (s:={ s with toks:=s.toks+1 }) (r:=none) X J hp ht λb=>?_);obtain⟨cd,hc,hd'⟩:=PySem.W.any_some hh;have hx:s.heap.get? x=some ⟨.ref C,some dx,.plain,#[]⟩:=I.obj;refine Qcc (Qcd (Qcc (Qcc (wpAny_loadPart hx (Qcc (PySem.W.Looks.here (s:={ s with toks:=s.toks+1 }) (PySem.W.looks_clsIn X hc) ?_))))));rw[hd'];refine Qcd (a:=some dx) (Qcc (Qcd (Qcc ?_)));refine wpAny_nsSet1 (s:={ s with toks:=s.toks+1 }) I.ns λh' hn2 hs2=>?_;obtain⟨oD,esD,epD,hoD,hdD,hcD⟩:=hn2.count (PySem.Within.cons name v hw);refine Qcc (wpAny_lookBehind hoD (by rw[hdD];exact pastItsLine_dict (QbV hcD (by rw[Qbj];omega))) ?_);exact Qcd (h _ ⟨(hs2.2 _ (Ne.symm I.ne)).trans I.obj,hn2,I.ne⟩ hs2)
theorem Ze {R:Result->Shared->Prop} {vs:YE} {kw:List (Str×Value)} (X:K.In s.heap) (hm:makesIn K C=true)
  (hi:findIn K (.ref C) "__init__"=some (some (.ref f))) (hf:PySem.W.typeIn K (.ref f)=some (.type "function"))
  (h:codeAny (model prog w) (A.under (.builtin "type.__call__" ⟨.ref C::vs,kw⟩)) (.call (.ref f) ⟨.ref (s.heap.objs.size+1)::vs,kw⟩) (PySem.W.InitBack (s.heap.objs.size+1) R)
   { s with heap:=(s.heap.push emptyDict).push (instObj C s.heap.objs.size) }) :
  codeAny (model prog w) A (.call (.ref C) ⟨vs,kw⟩) R s:=by
 obtain⟨hh,g,d,t,os⟩:=s;exact PySem.W.make_core (PySem.W.makes_of X hm) (PySem.W.looks_findIn X hi) (λself=>PySem.W.bind_fn X self hf) (.inl rfl) h
end
def DK (f:Str) (v:V):List (Str×V)->List (Str×V)
 | []=>[(f,v)]
 | (g,x)::r=>if g=f then (g,v)::r else (g,x)::DK f v r
theorem Mx (f g:Str) (v:V):∀fs:List (Str×V),(DK f v fs).lookup g=if g=f then some v else fs.lookup g
 | []=>by
  show List.lookup g [(f,v)]=_;by_cases h:g=f
  ·have hb:(g == f)=true:=beq_iff_eq.mpr h;simp only[List.lookup,hb,if_pos h]
  ·have hb:(g == f)=false:=QaE.mpr h;simp only[List.lookup,hb,if_neg h]
 | (k,x)::r=>by
  have ih:=Mx f g v r;rw[show DK f v ((k,x)::r)=(if k=f then (k,v)::r else (k,x)::DK f v r) from rfl]
  by_cases hk:k=f
  ·rw[if_pos hk];by_cases h:g=k
   ·have hb:(g == k)=true:=beq_iff_eq.mpr h;simp only[List.lookup,hb,if_pos (h.trans hk)]
   ·have hb:(g == k)=false:=QaE.mpr h;simp only[List.lookup,hb,if_neg (λe:g=f=>h (e.trans hk.symm))]
  ·rw[if_neg hk];by_cases h:g=k
   ·have hb:(g == k)=true:=beq_iff_eq.mpr h;simp only[List.lookup,hb,if_neg (λe:g=f=>hk (h.symm.trans e))]
   ·have hb:(g == k)=false:=QaE.mpr h;simp only[List.lookup,hb];exact ih
theorem Lw (f:Str) (v:V):∀fs:List (Str×V),f∈(DK f v fs).map (·.1)/\∀g,g∈fs.map (·.1)->g∈(DK f v fs).map (·.1)
 | []=>⟨by simp[DK],λg h=>by simp at h⟩
 | (k,x)::r=>by
  obtain⟨i1,i2⟩:=Lw f v r;rw[show DK f v ((k,x)::r)=(if k=f then (k,v)::r else (k,x)::DK f v r) from rfl]
  by_cases hk:k=f
  ·rw[if_pos hk];subst hk;exact⟨by simp,λg h=>by simpa using h⟩
  ·rw[if_neg hk];refine⟨?_,λg h=>?_⟩
   ·rw[QbM];exact Qav _ i1
   ·rw[QbM] at h ⊢;rcases QbK.mp h with e | e
    ·exact QbK.mpr (.inl e)
    ·exact Qav _ (i2 g e)
theorem Mz (f:Str) (v:V):∀fs:List (Str×V),(DK f v fs).length<=fs.length+1
 | []=>by simp[DK]
 | (k,x)::r=>by
  have ih:=Mz f v r;rw[show DK f v ((k,x)::r)=(if k=f then (k,v)::r else (k,x)::DK f v r) from rfl]
  by_cases hk:k=f
  ·rw[if_pos hk,Qbj,Qbj];omega
  ·rw[if_neg hk,Qbj,Qbj];omega
theorem Ge.some_of {v:V} {o:Option Value} (r:Ge (some v) o):∃u,o=some u/\RelV v u:=by
 cases o with
 | none=>exact (show False from r).elim
 | some u=>exact⟨u,rfl,r⟩
theorem Ge.none_of {o:Option Value} (r:Ge none o):o=none:=by
 cases o with
 | none=>rfl
 | some u=>exact (show False from r).elim
theorem XQ {v:V} {u:Value} (r:RelV v u):PySem.W.handedIn u=true:=by
 cases v with
 | non=>cases (show u=Value.none from r);rfl
 | bl b=>cases (show u=Value.bool b from r);rfl
 | int i=>obtain⟨t,e⟩:=(show ∃t,u=Value.int i t from r);cases e;rfl
 | str x=>obtain⟨t,e⟩:=(show ∃t,u=Value.str x t from r);cases e;rfl
 | byt b=>obtain⟨t,e⟩:=(show ∃t,u=Value.bytes b t from r);cases e;rfl
 | flt b=>obtain⟨t,e⟩:=(show ∃t,u=Value.float b t from r);cases e;rfl
 | ref a=>cases (show u=Value.ref a from r);rfl
 | ty n=>cases (show u=Value.type n from r);rfl
section
variable {P:Program} {w:World} {H H':Hp} {h h':Heap} {a C dx:Addr} {fs fs':List (Str×V)}
theorem Mr (hok:HOk P w H h) (e:H a=some (.ins C dx fs)):∃mA,Nu h a dx C mA/\(∀f,Ge (fs.lookup f) (mA f))/\PySem.Within mA (fs.map (·.1))/\fs.length<=1000/\H dx=some (.own a):=by
 obtain⟨d,z,ne,ob,mA,n,r,q⟩:=(show Cj P w H h a (.ins C dx fs) from hok a _ e)
 exact⟨mA,⟨ob,n,ne⟩,r,q,z,d⟩
end
structure Cls (K:YD) (C:Addr):Prop where
 pg:plainGet K C Str.empty=true
 hd:hasDictIn K C=true
 po:PySem.W.plainOver K C=true
 sa:findIn K (.ref C) "__setattr__"=some (some (.builtin "object.__setattr__"))
theorem Cls.get {K:YD} {C:Addr} (c:Cls K C) (f:Str):plainGet K C f=true:=c.pg
def Ia (K:YD) (C:Addr) (f:Str):Prop:=findIn K (.ref C) f=some none
theorem Ia.taker {K:YD} {C:Addr} {f:Str} (n:Ia K C f):PySem.W.takerIn K C f=some none:=by
 unfold PySem.W.takerIn;rw[show findIn K (.ref C) f=some none from n]
 rfl
structure Meth (K:YD) (C:Addr) (m:Str) (f:Addr):Prop where
 at_:findIn K (.ref C) m=some (some (.ref f))
 fn:isFn K (.ref f)=true
 kp:keepIn K (.ref f)=true
section
variable {X:Cx} {jb:YC} {σ : St} {H:Hp} {s:Shared} {a C dx:Addr} {fs:List (Str×V)} {f:Str} {v:V} {A:Around} {E:YA}
theorem Wc {b:Bool} {Q:YA} (I:Inv X jb σ H s) (e:H a=some (.ins C dx fs)) (c:Cls X.K C) (n:Ia X.K C f) (l:fs.lookup f=some v)
  (h:∀u s',Inv X jb σ H s'->RelV v u->Q u s'):wpAny (model X.prog X.w) A (getAttr (.ref a) f b) Q E s:=by
 obtain⟨mA,O,r,_,_,_⟩:=Mr I.hok e;obtain⟨u,hu,ru⟩:=Ge.some_of (v:=v) (o:=mA f) (by rw[<-l];exact r f);exact get_map I.kIn O (c.get f) c.hd n hu (XQ ru) (h u _ (I.tok _) ru)
theorem Og {m:Str} {g:Addr} {pl:Sem Bool} {Q:Value×YE->Shared->Prop} (I:Inv X jb σ H s) (e:H a=some (.ins C dx fs)) (c:Cls X.K C) (k:Meth X.K C m g) (l:fs.lookup m=none)
  (h:Q (.ref g,[.ref a]) s):wpAny (model X.prog X.w) A (getMethod (.ref a) m pl) Q E s:=by
 obtain⟨mA,O,r,_,_,_⟩:=Mr I.hok e;have hn:mA m=none:=Ge.none_of (by rw[<-l];exact r m);exact Zt I.kIn O (c.get m) k.at_ k.fn hn h
theorem Vy {y:V} {u:Value} {Q:YH} (I:Inv X jb σ H s) (e:H a=some (.ins C dx fs)) (c:Cls X.K C) (n:Ia X.K C f) (hl:fs.length < 1000) (ry:RelV y u)
  (h:∀s',Inv X jb σ (upd H a (.ins C dx (DK f y fs))) s'->Q () s'):wpAny (model X.prog X.w) A (setAttr (.ref a) f u) Q E s:=by
 obtain⟨mA,O,r,wi,_,ho⟩:=Mr I.hok e;have hz:(fs.map (·.1)).length<=sizeLine:=by rw[Qbs,sizeLine_eq];omega
 refine aD I.kIn O c.sa c.po n.taker c.hd wi hz λh' O' sb=>h _ ?_;have hd:∃o,h'.get? dx=some o:=let ⟨o,_,_,e',_⟩:=O'.ns;⟨o,e'⟩;refine I.write (x:=a) (e:=dx) (by rw[e];exact True.intro) (.inr ho) (λb q hb z=>(sb.2 b hb).trans z) hd ?_;refine⟨by rw[Bp O.ne];exact ho,?_,O.ne,O'.obj,_,O'.ns,λg=>?_,λg hg=>?_⟩
 ·have:=Mz f y fs;omega
 ·show Ge ((DK f y fs).lookup g) (if g=f then some u else mA g)
  rw[Mx];by_cases q:g=f
  ·rw[if_pos q,if_pos q];exact ry
  ·rw[if_neg q,if_neg q];exact r g
 ·by_cases q:g=f
  ·rw[q];exact (Lw f y fs).1
  ·refine (Lw f y fs).2 g (wi g λz=>hg ?_);show (if g=f then some u else mA g)=none
   rw[if_neg q];exact z
theorem Inv.made (I:Inv X jb σ H s):Inv X jb σ (upd (upd H s.heap.objs.size (.own (s.heap.objs.size+1))) (s.heap.objs.size+1) (.ins C s.heap.objs.size []))
  { s with heap:=(s.heap.push emptyDict).push (instObj C s.heap.objs.size) }:=by
 have e1:(s.heap.push emptyDict).get? s.heap.objs.size=some emptyDict:=Qaz s.heap rfl;have e2:((s.heap.push emptyDict).push (instObj C s.heap.objs.size)).get? (s.heap.objs.size+1)=some (instObj C s.heap.objs.size):=by
  have:=Qaz (s.heap.push emptyDict) (o:=instObj C s.heap.objs.size) rfl
  rwa [QbG] at this
 have e3:(s.heap.push emptyDict).Ns s.heap.objs.size (λ_=>none):=⟨emptyDict,#[],_,e1,rq,(λe he=>absurd he (by simp)),λ_=>rfl⟩;have I1:=I.laid (a:=s.heap.objs.size) (o:=.own (s.heap.objs.size+1)) (h':=s.heap.push emptyDict) (t':=s.toks) (λb u q=>Qam _ q) (QbZ _) ⟨_,e1⟩;refine I1.laid (a:=s.heap.objs.size+1) (o:=.ins C s.heap.objs.size []) (t':=s.toks) (λb u q=>Qam _ q) (Nat.le_of_eq (QbG _ _)) ?_;have ne:s.heap.objs.size≠s.heap.objs.size+1:=QbU (Qbp _);refine⟨by rw[Bp ne,Ad],Qca _,ne,e2,λ_=>none,(Heap.Ns1.of_empty e3).at λo q=>Qam _ q,λ_=>True.intro,λy hy=>absurd rfl hy⟩
theorem cg {prog:Program} {w:World} {env:Env} {e:Expr} {f:Str} {pos:Pos} {s:Shared} {Q:YA} (hb:attributeBase e f env (eval e env)=eval e env)
  (h:wpAny (model prog w) A (eval e env) (λo s₁=>wpAny (model prog w) A (getAttr o f true) Q E s₁) E s):wpAny (model prog w) A (eval (.Attribute e f pos) env) Q E s:=
 Attribute_any_ h (by rw[arm_eval_Attribute,hb])
end
def jN (K:YD) (ta:TE) (f:Str):TE:=fun σ H Q=>ta σ H λx H1=>∃a C dx fs v,x=.ref a/\H1 a=some (.ins C dx fs)/\Cls K C/\Ia K C f/\fs.lookup f=some v/\Q v H1
section
variable {X:Cx} {o e value:Expr} {f:Str} {pos pos' tpos:Pos} {ta tv:TE}
theorem RM (he:PE X e ta) (hb:attributeBase e f X.env (eval e X.env)=eval e X.env):PE X (.Attribute e f pos) (jN X.K ta f):=by
 intro jb s σ H Q I h;refine cg hb (thn (he jb s σ H _ I h) λu s1 zz=>?_);obtain⟨x,H1,I1,rx,a,C,dx,fs,v,ex,ea,c,n,l,q⟩:=zz;subst ex;obtain rfl:u=Value.ref a:=rx;exact Wc I1 ea c n l λu' s2 I2 ru=>⟨v,H1,I2,ru,q⟩
theorem gO {pl:Sem Bool} {m:Str} {apos:Pos} {args:YJ} {jb:YC} {s:Shared} {σ : St} {H:Hp} {Q:YA} {te:TE} (he:PE X e te) (I:Inv X jb σ H s)
  (h:te σ H λx H1=>∃a C dx fs g,x=.ref a/\H1 a=some (.ins C dx fs)/\Cls X.K C/\Meth X.K C m g/\fs.lookup m=none /\
   ∀s1,Inv X jb σ H1 s1->wpAny (model X.prog X.w) X.A (callWith pos (.ref g) [.ref a] (backTo pos (starEach args X.env)) (backToKw pos (keywordEach [] X.env))) Q X.xe s1)
  (ht:eval (.Call (.Attribute e m apos) args [] pos) X.env=(do
   let ov <-eval e X.env
   standAt apos.atName
   let (f,first) <-holding [ov] (getMethod ov m pl)
   callWith pos f first (backTo pos (starEach args X.env)) (backToKw pos (keywordEach [] X.env)))) :
  wpAny (model X.prog X.w) X.A (eval (.Call (.Attribute e m apos) args [] pos) X.env) Q X.xe s:=by
 refine PySem.W.methodCall_KW (pl:=pl) (thn (he jb s σ H _ I h) λu s1 zz=>?_) ht;obtain⟨x,H1,I1,rx,a,C,dx,fs,g,ex,ea,c,k,l,q⟩:=zz;subst ex;obtain rfl:u=Value.ref a:=rx;exact Og I1 ea c k l (q s1 I1)
end
section
variable {X:Cx} {jb:YC} {σ : St} {H:Hp} {s:Shared} {A:Around} {E:YA} {Q:YA} {c:Value} {b:Bool}
inductive Ho (K:YD) (H:Hp):V->Value->Prop where
 | non:Ho K H .non (.type "NoneType")
 | bl (x:Bool):Ho K H (.bl x) (.type "bool")
 | int (i:Int):Ho K H (.int i) (.type "int")
 | str (x:Str):Ho K H (.str x) (.type "str")
 | flt (x:UInt64):Ho K H (.flt x) (.type "float")
 | lst {a:Addr} {xs:YG} (e:H a=some (.lst xs)):Ho K H (.ref a) (.type "list")
 | frz {a:Addr} {o:Obj} {xs:YG} (e:H a=some (.frz o (.lst xs))):Ho K H (.ref a) (.type "list")
 | tup {a:Addr} {xs:YG} (e:H a=some (.tup xs)):Ho K H (.ref a) (.type "tuple")
 | dK {a:Addr} {kvs:List (Key×V)} (e:H a=some (.dK kvs)):Ho K H (.ref a) (.type "dict")
 | dT {a:Addr} {kvs:List (List Key×V)} (e:H a=some (.dT kvs)):Ho K H (.ref a) (.type "dict")
 | ins {a C dx:Addr} {fs:List (Str×V)} (e:H a=some (.ins C dx fs)) (cl:Cls K C) (ha:findIn K (.ref C) "__class__"=some (some (.builtin "object.__class__")))
   (hn:PySem.W.specialIn K (.builtin "object.__class__") "__get__"=some (some (.builtin "getset_descriptor.__get__"))) (htk:PySem.W.takesIn K (.builtin "object.__class__")=some true)
   (hm:PySem.W.mroIn K C (.type "object")=some true):Ho K H (.ref a) (.ref C)
theorem Xw {x:V} {u t:Value} (I:Inv X jb σ H s) (rx:RelV x u) (ty:Ho X.K H x t) (e:kitOne X.K t c=some b) (h:∀tk,Q (.bool b) { s with toks:=tk }) :
  wpAny (model X.prog X.w) A (call (.builtin "isinstance") [u,c]) Q E s:=by
 cases ty with
 | non=>cases (show u=Value.none from rx);exact kia_one PySem.W.kitx_none I.kIn True.intro e (λz=>nomatch z) h
 | bl y=>cases (show u=Value.bool y from rx);exact kia_one PySem.W.kitx_bool I.kIn True.intro e (λz=>nomatch z) h
 | int i=>obtain⟨t,q⟩:=(show ∃t,u=Value.int i t from rx);cases q;exact kia_one PySem.W.kitx_int I.kIn True.intro e (λz=>nomatch z) h
 | str y=>obtain⟨t,q⟩:=(show ∃t,u=Value.str y t from rx);cases q;exact kia_one PySem.W.kitx_str I.kIn True.intro e (λz=>nomatch z) h
 | flt y=>obtain⟨t,q⟩:=(show ∃t,u=Value.float y t from rx);cases q;exact kia_one PySem.W.kitx_float I.kIn True.intro e (λz=>nomatch z) h
 | @lst a xs ea=>
  cases (show u=Value.ref a from rx)
  obtain⟨_,_,n,_,h1⟩:=(show Cj X.prog X.w H s.heap a (.lst xs) from I.hok a _ ea)
  exact kia_one PySem.W.kitx_list I.kIn ⟨_,h1,rq⟩ e (λz=>nomatch z) h
 | @frz a ob xs ea=>
  cases (show u=Value.ref a from rx)
  obtain⟨_,_,_,n,_,h1⟩:=(show Cj X.prog X.w H s.heap a (.frz ob (.lst xs)) from I.hok a _ ea)
  exact kia_one PySem.W.kitx_list I.kIn ⟨_,h1,rq⟩ e (λz=>nomatch z) h
 | @tup a xs ea=>
  cases (show u=Value.ref a from rx)
  obtain⟨_,_,_,p⟩:=(show Cj X.prog X.w H s.heap a (.tup xs) from I.hok a _ ea)
  obtain⟨o,h1,h2,_⟩:=p;exact kia_one PySem.W.kitx_tuple I.kIn ⟨o,h1,h2⟩ e (λz=>nomatch z) h
 | @dK a kvs ea=>
  cases (show u=Value.ref a from rx)
  obtain⟨_,_,vs,_,p⟩:=(show Cj X.prog X.w H s.heap a (.dK kvs) from I.hok a _ ea)
  obtain⟨o,es,ep,h1,h2,_⟩:=p;exact kia_one PySem.W.kitx_dict I.kIn ⟨o,h1,h2.1⟩ e (λz=>nomatch z) h
 | @dT a kvs ea=>
  cases (show u=Value.ref a from rx)
  obtain⟨_,_,xs,_,o,es,ep,h1,h2,_⟩:=(show Cj X.prog X.w H s.heap a (.dT kvs) from I.hok a _ ea)
  exact kia_one PySem.W.kitx_dict I.kIn ⟨o,h1,h2.1⟩ e (λz=>nomatch z) h
 | @ins a C dx fs ea cl ha hn htk hm=>
  cases (show u=Value.ref a from rx)
  obtain⟨mA,O,_⟩:=Mr I.hok ea;obtain⟨od,J,_⟩:=O.look;exact kia_one (PySem.W.kitx_own (cl.get _) cl.hd ha hn htk hm) I.kIn J e (λz=>nomatch z) h
end
structure Cq (k:Nat) (A:Around):Prop where
 hd:A.handled=none
 dp:A.depth+3*k+5 < recursionLimit
 un:A.units+16*k+200 < cLine
theorem Cq.mono {j k:Nat} {A:Around} (r:Cq k A) (h:j<=k):Cq j A:=⟨r.hd,by have:=r.dp;omega,by have:=r.un;omega⟩
theorem Cq.deeper {k:Nat} {A:Around} (r:Cq (k+1) A) (env:Env):Cq k (A.deeper env):=
 ⟨r.hd,by have:=r.dp;show A.depth+1+3*k+5 < _;omega,by have:=r.un;show A.units+3+16*k+200 < _;omega⟩
theorem Cq.in1 {k:Nat} {A:Around} (r:Cq (k+1) A):Cq k A.in1:=
 ⟨r.hd,by have:=r.dp;show A.depth+3*k+5 < _;omega,by have:=r.un;show A.units+1+16*k+200 < _;omega⟩
theorem V2 {A:Around} {C:Addr} {us:YE} {kw:List (Str×Value)}:(A.under (.builtin "type.__call__" ⟨.ref C::us,kw⟩)).depth=A.depth+1:=by
 first | rfl | simp[Around.under,Code.weight,Code.isCreation,Code.isGuard,Code.isCaller,Code.frames,Code.isFrame,guardIds]
theorem V1 {A:Around} {C:Addr} {us:YE} {kw:List (Str×Value)}:(A.under (.builtin "type.__call__" ⟨.ref C::us,kw⟩)).units=A.units+1:=by
 first | rfl | simp[Around.under,Code.cUnits,Code.frames,Code.isFrame]
theorem Cq.make {k:Nat} {A:Around} (r:Cq (k+1) A) (C:Addr) (us:YE) (kw:List (Str×Value)):Cq k (A.under (.builtin "type.__call__" ⟨.ref C::us,kw⟩)):=
 ⟨r.hd,by have:=r.dp;rw[V2];omega,by have:=r.un;rw[V1];omega⟩
theorem Cq.depth {k:Nat} {A:Around} (r:Cq k A):A.depth < recursionLimit:=by have:=r.dp;omega
theorem Cq.units {k:Nat} {A:Around} (r:Cq k A):A.units+64 < cLine:=by have:=r.un;omega
def jL:TA:=λ_ H Q=>Q [] H
def iy (ta:TE) (tr:TA):TA:=fun σ H Q=>ta σ H λx H1=>tr σ H1 λxs H2=>Q (x::xs) H2
section
variable {X:Cx} {e:Expr} {es:YJ} {te:TE} {t:TA} {pos:Pos}
theorem Ab:PA X [] jL:=λ_ _ _ _ H Q I h=>Calls.spliced_nil ⟨[],H,I,.nil,h⟩
theorem Aa (ha:PE X e te) (hr:PA X es t) (hs:starEach (e::es) X.env=(false,eval e X.env)::starEach es X.env:=by rfl):PA X (e::es) (iy te t):=by
 intro pos jb s σ H Q I h;rw[hs];show wpAny _ _ (spliced ((false,eval e X.env)::backTo pos (starEach es X.env))) _ _ s;refine Calls.spliced_cons (thn (ha jb s σ H _ I h) λu s1 zz=>?_);obtain⟨x,H1,I1,r1,q1⟩:=zz;refine thn (hr pos jb s1 σ H1 _ I1 q1) λus s2 zz=>?_;obtain⟨xs,H2,I2,r2,q2⟩:=zz;exact⟨x::xs,H2,I2,.cons r1 r2,q2⟩
def jG (t:TA):TE:=fun σ H Q=>t σ H λxs H1=>xs.length<=sizeLine/\∀p,H1 p=none->Q (.ref p) (upd H1 p (.tup xs))
def jM (t:TA):TE:=fun σ H Q=>t σ H λxs H1=>xs.length<=sizeLine/\∀p,H1 p=none->Q (.ref p) (upd H1 p (.lst xs))
theorem Aq {x1} (h:PA X es t):PE X (.Tuple es x1 pos) (jG t):=by
 intro jb s σ H Q I hq;refine wpAny_Tuple_spliced (thn (h pos jb s σ H _ I hq) λus s1 zz=>?_);obtain⟨xs,H1,I1,r,z,q⟩:=zz;refine⟨by rw[<-r.length];exact z,?_⟩;have hf:H1 s1.heap.objs.size=none:=I1.hok.fresh (QbZ _);refine⟨.ref s1.heap.objs.size,upd H1 s1.heap.objs.size (.tup xs),I1.laid (t':=s1.toks) (λb u e=>Qam _ e) (QbZ _) ?_,rq,q _ hf⟩;exact⟨z,us,r,⟨_,Qaz _ rfl,rq,_,rq⟩⟩
theorem CT (h:PA X es t):PE X (.List es pos) (jM t):=by
 intro jb s σ H Q I hq;refine wpAny_List_spliced (thn (h pos jb s σ H _ I hq) λus s1 zz=>?_);obtain⟨xs,H1,I1,r,z,q⟩:=zz;refine⟨by rw[<-r.length];exact z,?_⟩;have hf:H1 s1.heap.objs.size=none:=I1.hok.fresh (QbZ _);refine⟨.ref s1.heap.objs.size,upd H1 s1.heap.objs.size (.lst xs),I1.laid (t':=s1.toks) (λb u e=>Qam _ e) (QbZ _) ?_,rq,q _ hf⟩;exact⟨z,us,0,r,Qaz _ rfl⟩
end
abbrev Sp:=YG->Hp->VK->XK->Prop
abbrev CXT:=List Env->Hp->Shared->XK->YA
structure JG (P:Program) (w:World) (K:YD) (mg:YB) (base:Heap) (A:Around) (outer:List Env) (s:Shared) (H:Hp):Prop where
 frames:A.frames=some outer
 mod:Mod K mg base
 bs:∀b o,base.get? b=some o->s.heap.get? b=some o/\H b=none
 bsz:base.objs.size<=s.heap.objs.size
 G6:s.heap.FunFrames base outer
 frf:∀b∈frs outer,H b=none
 hok:HOk P w H s.heap
 bare:AllBare s.gens
def CE (outer:List Env) (P:Program) (w:World) (H:Hp) (s:Shared) (Q:VK) (u:Value) (s':Shared):Prop:=
 ∃v H',s'.os=s.os/\AllBare s'.gens/\Un (frs outer) [] H H' s.heap s'.heap/\HOk P w H' s'.heap/\RelV v u/\Q v H'
def CR (CX:CXT) (outer:List Env) (P:Program) (w:World) (H:Hp) (s:Shared) (Q:VK) (E:XK) (r:Result) (s':Shared):Prop:=
 match r with
 | .ok (.ret u)=>CE outer P w H s Q u s'
 | .ok _=>False
 | .error e=>CX outer H s E e s'
structure Ed (P:Program) (w:World) (K:YD) (mg:YB) (base:Heap) (CX:CXT) (k:Nat) (f:Addr) (fd:FuncData) (ps:YF) (sp:Sp):Prop where
 len:∀vs H Q E,sp vs H Q E->vs.length=ps.length
 run:∀(A:Around) (outer:List Env) (s:Shared) (H:Hp) (args:Args) (us:YE) (vs:YG) (Q:VK) (E:XK),Cq k A->JG P w K mg base A outer s H->BindsTo s fd args (ps.zip us)->Vals vs us->sp vs H Q E ->
  codeAny (model P w) A (.call (.ref f) args) (CR CX outer P w H s Q E) s
theorem Ed.mono {P:Program} {w:World} {K:YD} {mg:YB} {base:Heap} {CX:CXT} {j k:Nat} {f:Addr} {fd:FuncData} {ps:YF} {sp:Sp} (F:Ed P w K mg base CX j f fd ps sp) (h:j<=k) :
  Ed P w K mg base CX k f fd ps sp:=⟨F.len,λA outer s H args us vs Q E hr=>F.run A outer s H args us vs Q E (hr.mono h)⟩
theorem Ed.imp {P:Program} {w:World} {K:YD} {mg:YB} {base:Heap} {CX:CXT} {k:Nat} {f:Addr} {fd:FuncData} {ps:YF} {sp sp':Sp} (F:Ed P w K mg base CX k f fd ps sp)
  (h:∀vs H Q E,sp' vs H Q E->sp vs H Q E):Ed P w K mg base CX k f fd ps sp':=
 ⟨λvs H Q E q=>F.len vs H Q E (h _ _ _ _ q),λA outer s H args us vs Q E hr he hb hv hs=>F.run A outer s H args us vs Q E hr he hb hv (h _ _ _ _ hs)⟩
theorem JG.make {P:Program} {w:World} {K:YD} {mg:YB} {base:Heap} {A:Around} {outer:List Env} {s:Shared} {H:Hp} (e:JG P w K mg base A outer s H) (C:Addr) (us:YE) (kw:List (Str×Value)) :
  JG P w K mg base (A.under (.builtin "type.__call__" ⟨.ref C::us,kw⟩)) outer s H:=⟨by first | exact e.frames | (simpa [Around.under,Code.envs,Code.isFrame,pushEnvs] using e.frames),e.mod,e.bs,e.bsz,e.G6,e.frf,e.hok,e.bare⟩
theorem JG.in1 {P:Program} {w:World} {K:YD} {mg:YB} {base:Heap} {A:Around} {outer:List Env} {s:Shared} {H:Hp} (e:JG P w K mg base A outer s H) :
  JG P w K mg base A.in1 outer s H:=⟨e.frames,e.mod,e.bs,e.bsz,e.G6,e.frf,e.hok,e.bare⟩
section
variable {X:Cx} {jb:YC} {σ : St} {H:Hp} {s s':Shared}
theorem Inv.env0 (I:Inv X jb σ H s):JG X.prog X.w X.K X.mg X.base X.A X.stack s H:=
 ⟨I.ok.frames,I.ok.mod,I.bs,QbV I.ok.bsz I.sz,I.stack,I.Oq,I.hok,I.bare⟩
theorem Inv.after {Q:VK} {u:Value} (I:Inv X jb σ H s) (h:CE X.stack X.prog X.w H s Q u s'):EP X jb σ Q u s':=by
 obtain⟨v,H',os,bare,un,hok,r,q⟩:=h;obtain⟨hh,g,d,t,os'⟩:=s';obtain rfl:os'=s.os:=os;exact⟨v,H',I.call (h':=hh) (g':=g) (d':=d) (t':=t) (ch:=[]) un hok bare (λb z=>absurd z (by simp)),r,q⟩
end
def QV (sp:Sp) (dvs:YG) (E:XK) (t:TA):TE:=fun σ H Q=>t σ H λvs H1=>sp (vs++dvs) H1 Q E
def ZR (C:Addr) (m:Str) (sp:Sp) (dvs:YG) (E:XK) (ta:TE) (t:TA):TE:=fun σ H Q=>ta σ H λx H1=>∃a dx fs,x=.ref a/\H1 a=some (.ins C dx fs)/\fs.lookup m=none /\
 t σ H1 λvs H2=>sp (x::(vs++dvs)) H2 Q E
def ZS (C:Addr) (sp:Sp) (dvs:YG) (E:XK) (t:TA):TE:=fun σ H Q=>t σ H λvs H1=>∀x dx,H1 x=none->H1 dx=none->dx≠x ->
 sp (.ref x::(vs++dvs)) (upd (upd H1 dx (.own x)) x (.ins C dx [])) (λv H2=>v=.non/\Q (.ref x) H2) E
def Binds (K:YD) (fd:FuncData) (ps:YF) (ds:YE):Prop:=
 ∀(s:Shared) (us:YE),K.In s.heap->(us++ds).length=ps.length->BindsTo s fd ⟨us,[]⟩ (ps.zip (us++ds))
theorem Binds.all {K:YD} {fd:FuncData} {ps:YF} (h:∀us:YE,us.length=ps.length->bindArgs fd ⟨us,[]⟩=pure (ps.zip us)):Binds K fd ps []:=λs us _ hl=>by
 rw[QbB] at hl ⊢;exact .of_eq (h us hl)
def Passes (CX:CXT) (X:Cx) (E:XK):Prop:=∀(jb:YC) (σ : St) (H:Hp) (s:Shared) (e:Value) (s':Shared),Inv X jb σ H s->CX X.stack H s E e s'->X.xe e s'
section
variable {X:Cx} {CX:CXT} {k:Nat} {f C:Addr} {fd:FuncData} {ps:YF} {sp:Sp} {dvs:YG} {ds:YE} {E:XK} {x m:Str} {p pos apos:Pos} {e o:Expr} {es:YJ} {ta:TE} {t:TA}
theorem Rx {jb:YC} {σ : St} {H:Hp} {s:Shared} {Q:VK} {us:YE} {vs:YG} (F:Ed X.prog X.w X.K X.mg X.base CX k f fd ps sp) (hr:Cq k X.A) (hb:Binds X.K fd ps ds) (hd:Vals dvs ds) (hx:Passes CX X E)
  (I:Inv X jb σ H s) (r:Vals vs us) (h:sp (vs++dvs) H Q E):wpAny (model X.prog X.w) X.A (call (.ref f) us) (EP X jb σ Q) X.xe s:=by
 have r2:Vals (vs++dvs) (us++ds):=r.append hd;have hl:(us++ds).length=ps.length:=by rw[<-r2.length];exact F.len _ _ _ _ h
 refine wpAny_call (codeAny_mono (F.run X.A X.stack s H ⟨us,[]⟩ (us++ds) (vs++dvs) Q E hr I.env0 (hb s us I.kIn hl) r2 h) λr s' hq=>?_);cases r with
 | error e=>exact hx jb σ H s e s' I hq
 | ok fl=>
  cases fl with
  | ret u=>exact I.after hq
  | next=>exact False.elim hq
  | brk=>exact False.elim hq
  | cont=>exact False.elim hq
theorem aP (F:Ed X.prog X.w X.K X.mg X.base CX k f fd ps sp) (hr:Cq k X.A) (hg:Gl X x) (hm:X.mg x=some (.ref f)) (hk:keepIn X.K (.ref f)=true) (hb:Binds X.K fd ps ds) (hd:Vals dvs ds) (hx:Passes CX X E)
  (ha:PA X (e::es) t) (hdb:(x == ("__debug__":Str))=false:=by decide) (he:starEach (e::es) X.env=(false,eval e X.env)::starEach es X.env:=by rfl) (hpl:(backTo pos (starEach es X.env)).any (·.1)=false:=by rfl) :
  PE X (.Call (.Name x p) (e::es) [] pos) (QV sp dvs E t):=by
 intro jb s σ H Q I h;refine QaP (Pu I hg hm ?_ hdb);refine callWith_K (h₀:=X.base) I.ok.mod.kin hk (thn (ha pos jb s σ H _ I h) λus s1 zz=>?_) he hpl;obtain⟨vs,H1,I1,r,q⟩:=zz;refine⟨I1.kIn,?_⟩;exact Rx F hr hb hd hx I1 r q
theorem aM {pl:Sem Bool} (he:PE X o ta) (c:Cls X.K C) (hm:Meth X.K C m f) (F:Ed X.prog X.w X.K X.mg X.base CX k f fd ps sp) (hr:Cq k X.A) (hb:Binds X.K fd ps ds) (hd:Vals dvs ds) (hx:Passes CX X E) (ha:PA X (e::es) t)
  (hst:starEach (e::es) X.env=(false,eval e X.env)::starEach es X.env:=by rfl) (hpl:(backTo pos (starEach es X.env)).any (·.1)=false:=by rfl)
  (ht:eval (.Call (.Attribute o m apos) (e::es) [] pos) X.env=(do
   let ov <-eval o X.env
   standAt apos.atName
   let (f,first) <-holding [ov] (getMethod ov m pl)
   callWith pos f first (backTo pos (starEach (e::es) X.env)) (backToKw pos (keywordEach [] X.env))):=by rfl) :
  PE X (.Call (.Attribute o m apos) (e::es) [] pos) (ZR C m sp dvs E ta t):=by
 intro jb s σ H Q I h;refine PySem.W.methodCall_KW (pl:=pl) (thn (he jb s σ H _ I h) λu s1 zz=>?_) ht;obtain⟨x,H1,I1,rx,a,dx,fs,ex,ea,l,q⟩:=zz;subst ex;obtain rfl:u=Value.ref a:=rx;refine Og I1 ea c hm l ?_;refine callWith_K (first:=[.ref a]) (h₀:=X.base) I.ok.mod.kin hm.kp (thn (ha pos jb s1 σ H1 _ I1 q) λus s2 zz=>?_) hst hpl
 obtain⟨vs,H2,I2,r,q2⟩:=zz;refine⟨I2.kIn,?_⟩;exact Rx (us:=.ref a::us) (vs:=.ref a::vs) F hr hb hd hx I2 (.cons rfl r) q2
structure Mk (K:YD) (C f:Addr):Prop where
 makes:makesIn K C=true
 init:findIn K (.ref C) "__init__"=some (some (.ref f))
 fn:isFn K (.ref f)=true
 kp:keepIn K (.ref C)=true
theorem Yy {jb:YC} {σ : St} {H:Hp} {s:Shared} {Q:VK} {us:YE} {vs:YG} (M:Mk X.K C f) (F:Ed X.prog X.w X.K X.mg X.base CX k f fd ps sp) (hr:Cq (k+1) X.A) (hb:Binds X.K fd ps ds) (hd:Vals dvs ds)
  (hx:Passes CX X E) (I:Inv X jb σ H s) (r:Vals vs us)
  (h:∀x dx,H x=none->H dx=none->dx≠x->sp (.ref x::(vs++dvs)) (upd (upd H dx (.own x)) x (.ins C dx [])) (λv H2=>v=.non/\Q (.ref x) H2) E) :
  wpAny (model X.prog X.w) X.A (call (.ref C) us) (EP X jb σ Q) X.xe s:=by
 have hq:=h (s.heap.objs.size+1) s.heap.objs.size (I.hok.fresh (Nat.le_succ _)) (I.hok.fresh (QbZ _)) (QbU (Qbp _));have I2:=Inv.made (C:=C) I;have r2:Vals (V.ref (s.heap.objs.size+1)::(vs++dvs)) (Value.ref (s.heap.objs.size+1)::(us++ds)):=.cons rfl (r.append hd);have hl:(Value.ref (s.heap.objs.size+1)::us++ds).length=ps.length:=by
  have e:=r2.length;rw[F.len _ _ _ _ hq] at e;exact e.symm
 refine wpAny_call (Ze (f:=f) I.kIn M.makes M.init (beq_iff_eq.mp M.fn) (codeAny_mono (F.run _ X.stack _ _ ⟨Value.ref (s.heap.objs.size+1)::us,[]⟩ (Value.ref (s.heap.objs.size+1)::(us++ds)) _ _ E (hr.make C us [])
  (I2.env0.make C us []) (hb _ (Value.ref (s.heap.objs.size+1)::us) I2.kIn hl) r2 hq) λr s' hq'=>?_))
 cases r with
 | error e=>exact hx jb σ _ _ e s' I2 hq'
 | ok fl=>
  cases fl with
  | ret u=>
   obtain⟨v,H',I3,rv,ev,q3⟩:=I2.after hq';subst ev;exact⟨rv,⟨V.ref (s.heap.objs.size+1),H',I3,rq,q3⟩⟩
  | next=>exact False.elim hq'
  | brk=>exact False.elim hq'
  | cont=>exact False.elim hq'
theorem aN (M:Mk X.K C f) (F:Ed X.prog X.w X.K X.mg X.base CX k f fd ps sp) (hr:Cq (k+1) X.A) (hg:Gl X x) (hm:X.mg x=some (.ref C)) (hb:Binds X.K fd ps ds) (hd:Vals dvs ds) (hx:Passes CX X E)
  (ha:PA X (e::es) t) (hdb:(x == ("__debug__":Str))=false:=by decide) (he:starEach (e::es) X.env=(false,eval e X.env)::starEach es X.env:=by rfl) (hpl:(backTo pos (starEach es X.env)).any (·.1)=false:=by rfl) :
  PE X (.Call (.Name x p) (e::es) [] pos) (ZS C sp dvs E t):=by
 intro jb s σ H Q I h;refine QaP (Pu I hg hm ?_ hdb);refine callWith_K (h₀:=X.base) I.ok.mod.kin M.kp (thn (ha pos jb s σ H _ I h) λus s1 zz=>?_) he hpl;obtain⟨vs,H1,I1,r,q⟩:=zz;refine⟨I1.kIn,?_⟩;exact Yy M F hr hb hd hx I1 r q
end
section
variable {X:Cx} {CX:CXT} {k:Nat} {f C:Addr} {fd:FuncData} {ps ks:YF} {sp:Sp} {E:XK} {x m:Str} {p pos apos kpos:Pos} {e o:Expr} {es:YJ} {kws:List Keyword} {te ta:TE} {t tk:TA} {nm:Option Str}
variable {g:YE->YE->YE} {gV:YG->YG->YG}
end
structure Bo (N P:YF) (sc:Scope):Prop where
 kind:sc.kind=.function
 co:sc.isCoroutine=false
 gen:sc.isGenerator=false
 nd:N.Nodup
 pre:N.take P.length=P
 par:∀x∈P,sc.names.lookup x=some .local\/sc.names.lookup x=some .cell
 Sd:∀y∈sc.names,y.2≠.free
theorem Qs {kindOf:Str->Option NameKind} {x:Str}:∀{binds:List (Str×Value)} {m:YB},(∀v,(x,v)∉binds)->bindL kindOf binds m x=m x
 | [],_,_=>rfl
 | (n,v)::r,m,h=>by
  unfold bindL;rw[Qs λw hw=>h w (Qav _ hw)];split
  ·have:x≠n:=by rintro rfl;exact h v QaI
   simp[this]
  ·rfl
theorem Qu {kindOf:Str->Option NameKind} {x:Str}:∀{binds:List (Str×Value)} {m:YB},(∀v,(x,v)∉binds)->bindC kindOf binds m x=m x
 | [],_,_=>rfl
 | (n,v)::r,m,h=>by
  unfold bindC;rw[Qu λw hw=>h w (Qav _ hw)];split
  ·rfl
  ·have:x≠n:=by rintro rfl;exact h v QaI
   simp[this]
theorem Qt {kindOf:Str->Option NameKind} {x:Str} {v:Value}:∀{P:YF} {vs:YE} {i:Nat} {m:YB},P.Nodup->P[i]?=some x->vs[i]?=some v->kindOf x=some .local ->
  bindL kindOf (P.zip vs) m x=some v
 | [],_,_,_,_,h,_,_=>by simp at h
 | _::_,[],_,_,_,_,h,_=>by simp at h
 | p::P,w::vs,0,m,nd,h1,h2,hk=>by
  simp at h1 h2;subst h1;subst h2;show bindL kindOf ((p,w)::P.zip vs) m p=_;unfold bindL;rw[Qs λv hv=>(Qbw.mp nd).1 (List.of_mem_zip hv).1,if_pos hk];simp
 | p::P,w::vs,i+1,m,nd,h1,h2,hk=>by
  show bindL kindOf ((p,w)::P.zip vs) m x=_;unfold bindL;exact Qt (i:=i) (Qbw.mp nd).2 (by simpa using h1) (by simpa using h2) hk
theorem Qv {kindOf:Str->Option NameKind} {x:Str} {v:Value}:∀{P:YF} {vs:YE} {i:Nat} {m:YB},P.Nodup->P[i]?=some x->vs[i]?=some v->kindOf x≠some .local ->
  bindC kindOf (P.zip vs) m x=some v
 | [],_,_,_,_,h,_,_=>by simp at h
 | _::_,[],_,_,_,_,h,_=>by simp at h
 | p::P,w::vs,0,m,nd,h1,h2,hk=>by
  simp at h1 h2;subst h1;subst h2;show bindC kindOf ((p,w)::P.zip vs) m p=_;unfold bindC;rw[Qu λv hv=>(Qbw.mp nd).1 (List.of_mem_zip hv).1,if_neg hk];simp
 | p::P,w::vs,i+1,m,nd,h1,h2,hk=>by
  show bindC kindOf ((p,w)::P.zip vs) m x=_;unfold bindC;exact Qv (i:=i) (Qbw.mp nd).2 (by simpa using h1) (by simpa using h2) hk
def start (N:YF) (vs:YG):St:=vs.map some++List.replicate (N.length - vs.length) none
def LC (CX:CXT) (P:Program) (w:World) (K:YD) (mg:YB) (base:Heap) (N:YF) (qual:Str) (scope:Scope) (f:Addr) (cd:Value) (A:Around) (outer:List Env) (s:Shared) (H:Hp) (E:XK):Cx where
 prog:=P
 w:=w
 K:=K
 mg:=mg
 base:=base
 A:=A.deeper (envOfC qual scope s.heap.objs.size f cd)
 N:=N
 s₀:=s
 H₀:=H
 env:=envOfC qual scope s.heap.objs.size f cd
 outer:=outer
 stack:=envOfC qual scope s.heap.objs.size f cd::outer
 ex:=[]
 calm:=true
 fn:=λ_=>true
 pn:=[]
 xe:=λe s'=>wpAny (model P w) (A.deeper (envOfC qual scope s.heap.objs.size f cd)) (leaving (envOfC qual scope s.heap.objs.size f cd) e) (λ_ s''=>CX outer H s E e s'') (λe' s''=>CX outer H s E e' s'') s'
theorem Tt {sc:Scope} {n:Nat} {x:Str} (h:sc.names.lookup x=some .cell):∃c,(cellsFrom n sc.names []).lookup x=some c:=by
 have q:=PySem.W.cellsFrom_some sc.names n [] (.inl h);exact Option.isSome_iff_exists.mp q
theorem Xz {CX:CXT} {P:Program} {w:World} {K:YD} {mg:YB} {base:Heap} {N ps:YF} {qual:Str} {scope:Scope} {f:Addr} {cd:Value} {A:Around} {outer:List Env} {s s1:Shared} {H:Hp} {E:XK} {us:YE} {vs:YG}
  (S:Bo N ps scope) (hd:A.handled=none) (e0:JG P w K mg base A outer s H) (hl:vs.length=ps.length) (r:Vals vs us)
  (x:InCallC s s.heap.objs.size (bindL (envOfC qual scope s.heap.objs.size f cd).kindOf (ps.zip us) λ_=>none) (cellsFrom (s.heap.objs.size+1) scope.names []) (bindC (envOfC qual scope s.heap.objs.size f cd).kindOf (ps.zip us) λ_=>none) s1) :
  Inv (LC CX P w K mg base N qual scope f cd A outer s H E) [] (start N vs) H s1:=by
 have hpl:ps.length<=N.length:=by have:=congrArg List.length S.pre;rw[Qbi] at this;omega
 obtain⟨h1,tk,rfl,hk⟩:=x.done;have noA:∀b:Addr,b∉(LC CX P w K mg base N qual scope f cd A outer s H E).ex:=λb z=>absurd (show b∈([]:List Addr) from z) (by simp)
 refine⟨⟨e0.mod,S.kind,rq,rq,QbZ _,λy z c h1 h2=>?_,λy hy=>?_,λy c _ h=>?_,λ_=>hd,Around.frames_deeper e0.frames,.inr ⟨rq,rq⟩,λb z=>absurd z (noA b),e0.bs,e0.bsz,λb _ _=>noA b,λb z=>absurd z (noA b),e0.G6,e0.frf⟩,
  rfl,e0.bare,Un.kept hk,⟨_,x.toInCall.ns,λi y v h1 h2 h3=>?_⟩,λy c h=>⟨_,x.cell y c h⟩,e0.hok.fresh (QbZ _),λy c h=>?_,λp hp=>absurd (show p∈([]:YC) from hp) (by simp),e0.hok.kept hk,?_⟩
 ·exact name_of_addr x.apart (QaC h1) (QaC h2)
 ·have hy:scope.names.lookup y=some .cell\/scope.names.lookup y=some .free:=hy;rcases hy with hy | hy
  ·exact Tt hy
  ·exact absurd rfl (S.Sd _ (QaC hy))
 ·exact Nat.le_of_lt (x.above y c (QaC h))
 ·have hi:i < vs.length:=by
   unfold start at h2;by_cases hi:i < vs.length
   ·exact hi
   ·rw[Qad (by simpa using hi)] at h2;rw[List.getElem?_replicate] at h2;split at h2 <;> cases h2
  have ha:vs[i]?=some v:=by
   unfold start at h2;rw[List.getElem?_append_left (by simpa using hi),QaU] at h2;cases e:vs[i]? with
   | none=>rw[e] at h2;cases h2
   | some a=>rw[e] at h2;cases h2;rfl
  obtain⟨u,hu,rv⟩:=r.get ha;have hp:ps[i]?=some y:=by
   rw[<-S.pre,List.getElem?_take_of_lt (by omega)];exact h1
  have ndP:ps.Nodup:=by rw[<-S.pre];exact S.nd.sublist (List.take_sublist _ _)
  refine⟨u,rv,?_⟩;rcases S.par y (Qau hp) with k | k
  ·exact .inl ⟨k,Qt ndP hp hu k⟩
  ·obtain⟨c,e⟩:=Tt (n:=s.heap.objs.size+1) k;refine .inr ⟨.inl k,c,e,?_⟩;have q:=x.cell y c e;rw[Qv ndP hp hu (by show scope.names.lookup y≠_;rw[k];decide)] at q;exact q
 ·exact e0.hok.fresh (Nat.le_of_lt (x.above y c (QaC h)))
 ·unfold start;show _=N.length;rw[QaF,Qbs,List.length_replicate];omega
theorem jm {CX:CXT} {P:Program} {w:World} {K:YD} {mg:YB} {base:Heap} {k:Nat} {f:Addr} {name qual:Str} {params:Arguments} {body:List Stmt} {scope:Scope} {dV kV doc pm cdv ct oc:Value} {an od:Option Addr}
  {osl:YI} {N ps:YF} {sp:Sp} (lk:K.lookup f=some ⟨oc,od,.func (fnOf name qual params body scope dV kV doc pm an cdv ct),osl⟩) (hcd:codeIn K cdv qual=true) (S:Bo N ps scope)
  (len:∀vs H Q E,sp vs H Q E->vs.length=ps.length)
  (hbody:∀(A:Around) (outer:List Env) (s:Shared) (H:Hp) (vs:YG) (Q:VK) (E:XK),Cq k (A.deeper (envOfC qual scope s.heap.objs.size f cdv))->sp vs H Q E ->
   ∃t,PSs (LC CX P w K mg base N qual scope f cdv A outer s H E) body t/\t { nx:=λ_ H'=>Q .non H',rt:=Q } (start N vs) H) :
  Ed P w K mg base CX (k+1) f (fnOf name qual params body scope dV kV doc pm an cdv ct) ps sp:=by
 refine⟨len,λA outer s H args us vs Q E hr e0 hb r hsp=>?_⟩;have hl:=len _ _ _ _ hsp;have KX:K.In s.heap:=e0.mod.kin.keeps λb o e=>(e0.bs b o e).1;have lim:s.heap.NoLimit:=e0.mod.nolimit.keeps λb o e=>(e0.bs b o e).1;have hkind:∀y∈ps.zip us,scope.names.lookup y.1=some .local\/(scope.names.lookup y.1=some .cell/\((cellsFrom (s.heap.objs.size+1) scope.names []).lookup y.1).isSome=true):=λ⟨n,v⟩ hy=>by
  rcases S.par n (List.of_mem_zip hy).1 with q | q
  ·exact .inl q
  ·exact .inr ⟨q,PySem.W.cellsFrom_some _ _ _ (.inl q)⟩
 refine codeAny_call_function hr.depth (KX _ _ lk) rfl S.co S.gen rfl (PySem.W.codeRec_of KX hcd) (hb _ _ _ _ ?_);refine wpAny_newFunctionEnv_cells S.kind hkind λenv he s1 x=>?_;subst he;refine⟨lim.keeps x.toInCall.keep,codeAny_func ?_⟩;obtain⟨t,ht,hq⟩:=hbody A outer s H vs Q E (hr.deeper _) hsp;have I:Inv (LC CX P w K mg base N qual scope f cdv A outer s H E) [] (start N vs) H s1:=Xz S hr.hd e0 hl r x;refine Qce (ht [] s1 (start N vs) H _ I hq) (λfl s' hs=>?_) λe s' hs=>hs;have fin:∀{σ':St} {H':Hp} {v:V} {u:Value},Inv (LC CX P w K mg base N qual scope f cdv A outer s H E) [] σ' H' s'->RelV v u->Q v H'->CE outer P w H s Q u s':=
  λ{σ' H' v u} J rv q=>⟨v,H',J.os,J.bare,J.base,J.hok,rv,q⟩
 cases fl with
 | ret u=>
  obtain⟨v,σ',H',J,rv,q⟩:=hs;exact fin J rv q
 | next=>
  obtain⟨σ',H',J,q⟩:=hs;exact fin (v:=V.non) (u:=Value.none) J rfl q
 | brk=>
  obtain⟨_,_,_,q⟩:=hs;exact False.elim q
 | cont=>
  obtain⟨_,_,_,q⟩:=hs;exact False.elim q
section
variable {X:Cx} {x:Str} {p pos:Pos} {e:Expr} {es:YJ} {t:TA} {id T:String} {r:YG->Hp->VK->Prop}
def tCB (r:YG->Hp->VK->Prop) (t:TA):TE:=fun σ H Q=>t σ H λvs H1=>r vs H1 Q
theorem Bc (hc:Ea X (.builtin id) r) (hg:Gl X x) (hm:X.mg x=none) (hv:bootBuiltins x=some (.builtin id)) (ha:PA X (e::es) t) (hn:x≠"__name__":=by decide) (hdb:(x == ("__debug__":Str))=false:=by decide)
  (he:starEach (e::es) X.env=(false,eval e X.env)::starEach es X.env:=by rfl) (hpl:(backTo pos (starEach es X.env)).any (·.1)=false:=by rfl):PE X (.Call (.Name x p) (e::es) [] pos) (tCB r t):=by
 intro jb s σ H Q I h;refine QaP (G5 I hg hm hv ?_ hn hdb);refine PyProof.Rows.callWith_builtin1 (thn (ha pos jb s σ H _ I h) λus s1 zz=>?_) he hpl;obtain⟨vs,H1,I1,r1,q1⟩:=zz;exact hc jb s1 σ H1 vs us Q I1 r1 q1
theorem Cm (hc:Ea X (.type T) r) (hg:Gl X x) (hm:X.mg x=none) (hv:bootBuiltins x=some (.type T)) (ha:PA X (e::es) t) (hn:x≠"__name__":=by decide) (hdb:(x == ("__debug__":Str))=false:=by decide)
  (he:starEach (e::es) X.env=(false,eval e X.env)::starEach es X.env:=by rfl) (hpl:(backTo pos (starEach es X.env)).any (·.1)=false:=by rfl):PE X (.Call (.Name x p) (e::es) [] pos) (tCB r t):=by
 intro jb s σ H Q I h;refine QaP (G5 I hg hm hv ?_ hn hdb);refine Qac (thn (ha pos jb s σ H _ I h) λus s1 zz=>?_) he hpl;obtain⟨vs,H1,I1,r1,q1⟩:=zz;exact hc jb s1 σ H1 vs us Q I1 r1 q1
end
end L2
namespace HT
open PySem PyProof.Rows
section
open PySem.SeqAt
open PySem.AutoSeq1 (wpAny_loadPart')
open PySem.MeetsSeq PySem.MeetsSeq2 PySem.MeetsSeq3
end
section
variable {prog:Program} {w:World} {A:Around} {E:YA} {s:Shared}
theorem bR {t b:Addr} {vs ws:YE} {Q:YA} (ht:IsTup s.heap t vs.toArray) (hb:IsTup s.heap b ws.toArray) (hv:vs≠[])
  (h1:ws=[]->Q (.ref t) s) (h2:ws≠[]->Q (.ref s.heap.objs.size) { s with heap:=s.heap.push { cls:=.type "tuple",data:=.seq (vs++ws).toArray } })
  (hsz:vs.length+ws.length<=sizeLine):wpAny (model prog w) A (binaryOp .Add (.ref t) (.ref b)) Q E s:=by
 obtain⟨⟨cls,dd,data,sl⟩,ho,hc,n,hd⟩:=id ht;obtain⟨⟨cls2,dd2,data2,sl2⟩,ho2,hc2,n2,hd2⟩:=id hb;simp only at hc hd hc2 hd2;subst hc hd hc2 hd2;have e:vs.toArray++ws.toArray=(vs++ws).toArray:=by simp
 by_cases hw:ws=[]
 ·exact concat_meets ⟨_,ho,rq⟩ ⟨_,ho2,rq⟩ noFill_tuple_add seq_tuple_add PySem.F.slot_tuple_add PySem.F.entry_tuple_add (PySem.F.args_tuple_add_2 _ _)
   (tuple_addW1 t b vs.toArray ws.toArray n n2 dd dd2 sl sl2 (by simpa using hv) (by simp[hw])) ⟨ho,ho2,h1 hw⟩
 ·refine concat_meets ⟨_,ho,rq⟩ ⟨_,ho2,rq⟩ noFill_tuple_add seq_tuple_add PySem.F.slot_tuple_add PySem.F.entry_tuple_add (PySem.F.args_tuple_add_2 _ _)
   (tuple_addW2 t b vs.toArray ws.toArray n n2 dd dd2 sl sl2 (by simpa using hv) (by simpa using hw) (by rw[QaT,QaT];exact hsz)) ⟨ho,ho2,?_⟩
  rw[e];exact h2 hw
def sIx (n d:Nat):Option Int->Nat
 | none=>d
 | some v=>if v < 0 then (v+(n:Int)).toNat else min v.toNat n
theorem Kg (n d:Nat):sIx n d none=d:=rfl
theorem Hg (n d k:Nat):sIx n d (some (k:Int))=min k n:=by
 show (if (k:Int) < 0 then ((k:Int)+(n:Int)).toNat else min (k:Int).toNat n)=min k n
 rw[if_neg (by omega),QaY]
theorem dB (n d:Nat) (hd:d<=n) (o:Option Int):sIx n d o<=n:=by
 cases o with
 | none=>exact hd
 | some v=>
  show (if v < 0 then (v+(n:Int)).toNat else min v.toNat n)<=n
  by_cases hv:v < 0
  ·rw[if_pos hv];omega
  ·rw[if_neg hv];exact Nat.min_le_right _ _
theorem Vb (v:Int) (n d:Nat):(if v < 0 then max (v+(n:Int)) 0 else min v (n:Int))=((sIx n d (some v):Nat):Int):=by
 show (if v < 0 then max (v+(n:Int)) 0 else min v (n:Int))=(((if v < 0 then (v+(n:Int)).toNat else min v.toNat n):Nat):Int)
 by_cases hv:v < 0
 ·simp only[if_pos hv];omega
 ·simp only[if_neg hv];omega
theorem Wt (lo hi:Option Int) (n:Nat):Builtin.Slice.sliceAdjust lo hi 1 (n:Int)=(((sIx n 0 lo:Nat):Int),((sIx n n hi:Nat):Int)):=by
 have h1:¬((1:Int) < 0):=by omega
 unfold Builtin.Slice.sliceAdjust;simp only[h1,Qci];refine Prod.ext ?_ ?_
 ·cases lo with
  | none=>rfl
  | some v=>exact Vb v n 0
 ·cases hi with
  | none=>rfl
  | some v=>exact Vb v n n
theorem VF (i j:Nat):Builtin.Slice.slicePlaces (i:Int) (j:Int) 1=j - i:=by
 unfold Builtin.Slice.slicePlaces;have h1:(1:Int) > 0:=by omega
 simp only[h1,if_true,Int.ediv_one];split <;> omega
theorem Ny {v:Value} {o:Option Int} {Q:Option Int->Shared->Prop} (p:IsPart v o) (h:Q o s):wpAny (model prog w) A (Builtin.Slice.slicePartIndex v) Q E s:=by
 cases p with
 | none=>exact slicePart_none h
 | int i t=>exact slicePart_int h
theorem Jb {sl:Addr} {vl vu:Value} {lo hi:Option Int} {n:Nat} {Q:Int×Int×Nat->Shared->Prop} (hs:s.heap.IsSliceOf sl vl vu .none) (pl:IsPart vl lo) (pu:IsPart vu hi)
  (h:Q (((sIx n 0 lo:Nat):Int),1,sIx n n hi - sIx n 0 lo) s):wpAny (model prog w) A (Builtin.Slice.sliceApplied (.ref sl) (pure (n:Int))) Q E s:=by
 obtain⟨os,hos,hcs,hds⟩:=id hs;unfold Builtin.Slice.sliceApplied Builtin.Slice.sliceFields;refine Qcc (Qcc (Qcb hos hds (x:=vl) rfl (Qcc (Qcb hos hds (x:=vu) rfl (Qcc (Qcb hos hds (x:=.none) rfl (Qcd ?_)))))));refine Qcc (slicePart_none ?_);show wpAny _ _ (if ((1:Int) == 0)=true then _ else _) _ _ s
 rw[if_neg (by decide)];refine Qcc (Ny pl (Qcc (Ny pu (Qcc (Qcd ?_)))));show wpAny _ _ (match Builtin.Slice.sliceAdjust lo hi 1 (n:Int) with | (lo,hi)=>pure (lo,(1:Int),Builtin.Slice.slicePlaces lo hi 1)) _ _ s
 rw[Wt lo hi n];show wpAny _ _ (pure (((sIx n 0 lo:Nat):Int),(1:Int),Builtin.Slice.slicePlaces ((sIx n 0 lo:Nat):Int) ((sIx n n hi:Nat):Int) 1)) _ _ s;rw[VF];exact Qcd h
theorem YW (xs:Array Value) (i k:Nat):((List.range k).filterMap λ(m:Nat)=>xs[((i:Int)+(m:Int)*1).toNat]?).toArray=((xs.toList.drop i).take k).toArray:=by
 have e:(λ(m:Nat)=>xs[((i:Int)+(m:Int)*1).toNat]?)=λm=>xs[i+m]?:=by
  funext m
  have:((i:Int)+(m:Int)*1).toNat=i+m:=by omega
  rw[this]
 rw[e];have:=pick_run xs i k;rw[List.filterMap_map] at this;have e2:((λx=>xs[x]?) ∘ λx=>i+x)=λm=>xs[i+m]?:=rfl;rw[e2] at this;rw[this]
theorem Mv {t sl:Addr} {items:Array Value} {vl vu:Value} {lo hi:Option Int} {Q:YA} (ht:IsTup s.heap t items) (hs:s.heap.IsSliceOf sl vl vu .none) (pl:IsPart vl lo) (pu:IsPart vu hi)
  (hw:¬(sIx items.size 0 lo=0/\sIx items.size items.size hi=items.size))
  (h:Q (.ref s.heap.objs.size) { s with heap:=s.heap.push { cls:=.type "tuple",data:=.seq ((items.toList.drop (sIx items.size 0 lo)).take (sIx items.size items.size hi - sIx items.size 0 lo)).toArray } })
  (hsz:items.size<=sizeLine):wpAny (model prog w) A (getItem (.ref t) (.ref sl)) Q E s:=by
 have Q0:sizeOk (.seq ((items.toList.drop (sIx items.size 0 lo)).take (sIx items.size items.size hi - sIx items.size 0 lo)).toArray):=by
  show ((items.toList.drop (sIx items.size 0 lo)).take (sIx items.size items.size hi - sIx items.size 0 lo)).toArray.size<=sizeLine;rw[QaT,Qbi,Qbm,QaA];omega
 have hj:sIx items.size items.size hi<=items.size:=dB _ _ (QbZ _) hi;obtain⟨os,hos,hcs,hds⟩:=id hs;have hTs:s.TypeIs (.ref sl) "slice":=⟨os,hos,hcs⟩;unfold getItem
 try with_reducible refine QbP ?_
 first | refine Qcc (Qcd ?_) | skip
 refine Qcc (wpAny_sequenceKey ht.typeIs (by decide) ?_);refine Qcc (Qak (name:=Str.ofString "__getitem__") ht.typeIs Qab
  (Qbl Qab ht.typeIs entry_tuple_getitem ?_ (args_tuple_getitem _ _)))
 show wpAny _ _ (Builtin.Tuple.tupleItemsOf (.ref t) >>= _) _ _ s;refine Qcc (tupleItemsOf_ ht ?_);refine Qcc (wpAny_typeOf hTs ?_);rw[if_pos (by decide)];refine Qcc (Jb hs pl pu ?_);have hno:¬((((sIx items.size 0 lo:Nat):Int) == 0&&(1:Int) == 1&&(sIx items.size items.size hi - sIx items.size 0 lo) == items.size)=true):=by
  intro q;rw[Qbg,Qbg] at q;have q1:((sIx items.size 0 lo:Nat):Int)=0:=eq_of_beq q.1.1;have q2:sIx items.size items.size hi - sIx items.size 0 lo=items.size:=eq_of_beq q.2;exact hw ⟨by omega,by omega⟩
 show wpAny _ _ (if (((sIx items.size 0 lo:Nat):Int) == 0&&(1:Int) == 1&&(sIx items.size items.size hi - sIx items.size 0 lo) == items.size)=true then _ else _) _ _ s
 rw[if_neg hno,YW]
 first
  | exact Qcc (m:=Builtin.Tuple.tupleExact _) (Qbb (Qcd ⟨_,rfl,Qcd h⟩) Q0)
  | exact Qcc (m:=Builtin.Tuple.tupleExact _) (Qbb (Qcc (Qcd (Qcd ⟨_,rfl,Qcd h⟩))) Q0)
  | exact Qcc (Qcc (m:=Builtin.Tuple.tupleExact _) (Qbb (Qcd (Qcd ⟨_,rfl,Qcd h⟩)) Q0))
  | exact Qcc (Qcc (m:=Builtin.Tuple.tupleExact _) (Qbb (Qcd ⟨_,rfl,Qcd h⟩) Q0))
end
end HT
namespace L2
open PySem PySem.Spec PyProof.Rows
abbrev TO:=St->Hp->(Option Int->Hp->Prop)->Prop
def PO (X:Cx) (e:Option Expr) (t:TO):Prop:=
 ∀(jb:YC) (s:Shared) (σ : St) (H:Hp) (Q:Option Int->Hp->Prop),Inv X jb σ H s->t σ H Q ->
  wpAny (model X.prog X.w) X.A (evalPart e X.env) (λu s'=>∃o H',Inv X jb σ H' s'/\IsPart u o/\Q o H') X.xe s
def aq:TO:=λ_ H Q=>Q none H
def g8 (t:TE):TO:=fun σ H Q=>t σ H λx H1=>∃i,x=.int i/\Q (some i) H1
theorem intsAre_of {ns:List Int}:∀{us:YE},Vals (ns.map V.int) us->IntsAre us ns:=by
 induction ns with
 | nil=>intro us r;rw[List.map_nil] at r;cases r;exact .nil
 | cons n ns ih=>
  intro us r;rw[QbM] at r;cases r with
  | cons r1 r2=>
   obtain⟨t,e⟩:=r1;subst e;exact .cons n t (ih r2)
section
variable {X:Cx} {e:Expr} {te:TE} {lo hi:Option Expr} {tl th:TO} {pos p2:Pos}
theorem Fe:PO X none aq:=by
 intro jb s σ H Q I h;rw[evalPart_none];exact Qcd ⟨none,H,I,.none,h⟩
theorem Dl (h:PE X e te):PO X (some e) (g8 te):=by
 intro jb s σ H Q I hw;rw[evalPart_some];refine thn (h jb s σ H _ I hw) λu s1 zz=>?_;obtain⟨x,H1,I1,r1,q1⟩:=zz;obtain⟨i,rfl,q⟩:=q1;obtain⟨t,rfl⟩:=r1;exact⟨some i,H1,I1,.int i t,q⟩
def SlR (X:Cx) (r:V->Option Int->Option Int->Hp->VK->Prop):Prop:=
 ∀(jb:YC) (s:Shared) (σ : St) (H:Hp) (x:V) (v vl vu:Value) (lo hi:Option Int) (sl:Addr) (Q:VK),Inv X jb σ H s->RelV x v->s.heap.IsSliceOf sl vl vu .none->IsPart vl lo->IsPart vu hi->r x lo hi H Q ->
  ∃T id,typeLookup (.type T) "__getitem__"=pure (some (.builtin id))/\s.TypeIs v T/\wpAny (model X.prog X.w) X.A (getItem v (.ref sl)) (EP X jb σ Q) X.xe s
theorem SlR.or {r r':V->Option Int->Option Int->Hp->VK->Prop} (h:SlR X r) (h':SlR X r'):SlR X (λx lo hi H Q=>r x lo hi H Q\/r' x lo hi H Q):=by
 intro jb s σ H x v vl vu lo hi sl Q I rx hs pl pu q;rcases q with q | q
 ·exact h jb s σ H x v vl vu lo hi sl Q I rx hs pl pu q
 ·exact h' jb s σ H x v vl vu lo hi sl Q I rx hs pl pu q
def tSl (r:V->Option Int->Option Int->Hp->VK->Prop) (te:TE) (tl th:TO):TE:=fun σ H Q=>te σ H λx H1=>tl σ H1 λl H2=>th σ H2 λu H3=>r x l u H3 Q
theorem Dm {r:V->Option Int->Option Int->Hp->VK->Prop} (hr:SlR X r) (he:PE X e te) (hl:PO X lo tl) (hu:PO X hi th):PE X (.Subscript e (.Slice lo hi none p2) pos) (tSl r te tl th):=by
 intro jb s σ H Q I h;refine Subscript_ (thn (he jb s σ H _ I h) λv s1 zz=>?_);obtain⟨x,H1,I1,r1,q1⟩:=zz;refine wpAny_Slice (thn (hl jb s1 σ H1 _ I1 q1) λvl s2 zz=>?_);obtain⟨l,H2,I2,pl,q2⟩:=zz;refine thn (hu jb s2 σ H2 _ I2 q2) λvu s3 zz=>?_;obtain⟨u,H3,I3,pu,q3⟩:=zz;rw[evalPart_none];refine Qcd ?_;have I4:Inv X jb σ H3 { s3 with heap:=s3.heap.push { cls:=.type "slice",data:=.fields #[vl,vu,.none] } }:=I3.kept (t':=s3.toks) λb ob q=>Qam _ q;obtain⟨T,id,hT,ht,hg⟩:=hr jb { s3 with heap:=s3.heap.push { cls:=.type "slice",data:=.fields #[vl,vu,.none] } } σ H3 x v vl vu l u s3.heap.objs.size Q I4 r1 (Heap.IsSliceOf.new ..) pl pu q3;show wpAny (model X.prog X.w) X.A (subscriptTail e (.Slice lo hi none p2) v (.ref s3.heap.objs.size)) (EP X jb σ Q) X.xe { s3 with heap:=s3.heap.push { cls:=.type "slice",data:=.fields #[vl,vu,.none] } };exact tail_any (ops:=[.ref s3.heap.objs.size,v]) ht hT hg (by with_unfolding_all rfl)
def Cy (xs:YG) (lo hi:Option Int):YG:=(xs.drop (HT.sIx xs.length 0 lo)).take (HT.sIx xs.length xs.length hi - HT.sIx xs.length 0 lo)
theorem MF (xs:YG) (lo hi:Option Int):(Cy xs lo hi).length<=xs.length:=by
 unfold Cy;rw[Qbi,Qbm];omega
def jP (K:YD):V->Option Int->Option Int->Hp->VK->Prop:=λx lo hi H Q=>∃a xs,x=.ref a/\SqT K H a xs /\
 ¬(HT.sIx xs.length 0 lo=0/\HT.sIx xs.length xs.length hi=xs.length)/\∀p,H p=none->Q (.ref p) (upd H p (.tup (Cy xs lo hi)))
theorem dg:SlR X (jP X.K):=by
 intro jb s σ H x v vl vu lo hi sl Q I rx hs pl pu h;obtain⟨a,xs,rfl,hx,hw,q⟩:=h;cases rx;obtain⟨its,r,ht,hz⟩:=I.tuple hx;have hlen:its.toArray.size=xs.length:=by rw[QaT];exact r.length.symm
 refine⟨"tuple",_,Qab.lookup,ht.typeIs,?_⟩;refine HT.Mv ht hs pl pu (by rw[hlen];exact hw) ?_ (by rw[hlen];exact hz);rw[hlen];refine⟨.ref s.heap.objs.size,_,I.laid (t':=s.toks) (o:=.tup (Cy xs lo hi)) (λb ob q=>Qam _ q) (QbZ _) ?_,rq,q _ (I.hok.fresh (QbZ _))⟩;exact⟨QbV (MF xs lo hi) hz,_,(r.drop (HT.sIx xs.length 0 lo)).take (HT.sIx xs.length xs.length hi - HT.sIx xs.length 0 lo),IsTup.new _ _⟩
def iK (K:YD):R2:=λx y H Q=>∃a b xs ys,x=.ref a/\y=.ref b/\SqT K H a xs/\SqT K H b ys/\xs≠[]/\xs.length+ys.length<=sizeLine /\
 (ys=[]->Q (.ref a) H)/\(ys≠[]->∀p,H p=none->Q (.ref p) (upd H p (.tup (xs++ys))))
theorem Vals.Pb {xs:YG} {us:YE} (r:Vals xs us):us=[] ↔ xs=[]:=by
 cases r with
 | nil=>simp
 | cons _ _=>simp
theorem aV:OpR X (binaryOp .Add) (iK X.K):=by
 intro jb s σ H x y v u Q I rx ry h;obtain⟨a,b,xs,ys,rfl,rfl,ha,hb,hx,hz,q1,q2⟩:=h;cases rx;cases ry;obtain⟨its,r1,p1,_⟩:=I.tuple ha;obtain⟨its2,r2,p2,_⟩:=I.tuple hb;refine HT.bR p1 p2 (λz=>hx (r1.Pb.mp z)) (λz=>⟨.ref a,H,I,rq,q1 (r2.Pb.mp z)⟩) (λz=>?_) (by rw[<-r1.length,<-r2.length];exact hz);refine⟨.ref s.heap.objs.size,_,I.laid (t':=s.toks) (o:=.tup (xs++ys)) (λb ob q=>Qam _ q) (QbZ _) ?_,rq,q2 (λw=>z (r2.Pb.mpr w)) _ (I.hok.fresh (QbZ _))⟩;exact⟨by rw[QaF];exact hz,_,r1.append r2,IsTup.new _ _⟩
end
def ixN (n:Nat) (i:Int):Option Nat:=if 0<=i then (if i < n then some i.toNat else none) else if -(n:Int)<=i then some (i+n).toNat else none
def atI {α : Type} (xs:List α) (i:Int):Option α:=(ixN xs.length i).bind λj=>xs[j]?
theorem UJ {n:Nat} {i:Int} {j:Nat} (h:ixN n i=some j):seqIndex? i n=some j/\j < n/\-(n:Int)<=i/\i < n:=by
 unfold ixN at h;by_cases h0:0<=i
 ·rw[if_pos h0] at h;by_cases h1:i < n
  ·rw[if_pos h1] at h;have e:i.toNat=j:=Qbv h;exact⟨by rw[seqIndex_of h0 h1,e],by omega,by omega,h1⟩
  ·rw[if_neg h1] at h;cases h
 ·rw[if_neg h0] at h;by_cases h1:-(n:Int)<=i
  ·rw[if_pos h1] at h;have e:(i+n).toNat=j:=Qbv h;exact⟨by rw[seqIndex_neg (by omega) h1,e],by omega,h1,by omega⟩
  ·rw[if_neg h1] at h;cases h
theorem Vf {α : Type} {xs:List α} {i:Int} {v:α} (h:atI xs i=some v):∃j,seqIndex? i xs.length=some j/\xs[j]?=some v/\j < xs.length/\-(xs.length:Int)<=i/\i < xs.length:=by
 unfold atI at h;cases e:ixN xs.length i with
 | none=>rw[e] at h;cases h
 | some j=>
  rw[e] at h;obtain⟨h1,h2,h3,h4⟩:=UJ e;exact⟨j,h1,h,h2,h3,h4⟩
theorem Ah {α : Type} {xs:List α} {j:Nat} {v:α} (h:xs[j]?=some v):atI xs (j:Int)=some v:=by
 have hj:j < xs.length:=(Qaf.mp h).1;have e:ixN xs.length (j:Int)=some j:=by
  unfold ixN;rw[if_pos (by omega),if_pos (by omega)];simp
 unfold atI;rw[e];exact h
def cC (b:Expr):Prop:=∀o i,subscripted b false o i=operate [o,i] (getItem o i)
def IxR (X:Cx) (r:R2):Prop:=
 ∀(value slice:Expr) (jb:YC) (s:Shared) (σ : St) (H:Hp) (x y:V) (v u:Value) (Q:VK),Inv X jb σ H s->RelV x v->RelV y u->r x y H Q ->
  subscripted slice false v u=operate [v,u] (getItem v u)->wpAny (model X.prog X.w) X.A (subscriptTail value slice v u) (EP X jb σ Q) X.xe s
def MtR (X:Cx) (id:String) (r:V->YG->Hp->VK->Prop):Prop:=
 ∀(jb:YC) (s:Shared) (σ : St) (H:Hp) (x:V) (xs:YG) (v:Value) (us:YE) (Q:VK),Inv X jb σ H s->RelV x v->Vals xs us->r x xs H Q ->
  wpAny (model X.prog X.w) X.A (call (.builtin id) (v::us)) (EP X jb σ Q) X.xe s
section
variable {X:Cx} {a b:Expr} {ta tb:TE} {pos:Pos}
theorem IxR.or {r r':R2} (h:IxR X r) (h':IxR X r'):IxR X (λx y H Q=>r x y H Q\/r' x y H Q):=by
 intro value slice jb s σ H x y v u Q I rx ry q hs;rcases q with q | q
 ·exact h value slice jb s σ H x y v u Q I rx ry q hs
 ·exact h' value slice jb s σ H x y v u Q I rx ry q hs
theorem MtR.or {id:String} {r r':V->YG->Hp->VK->Prop} (h:MtR X id r) (h':MtR X id r'):MtR X id (λx xs H Q=>r x xs H Q\/r' x xs H Q):=by
 intro jb s σ H x xs v us Q I rx rs q;rcases q with q | q
 ·exact h jb s σ H x xs v us Q I rx rs q
 ·exact h' jb s σ H x xs v us Q I rx rs q
theorem Ao {r:R2} (hr:IxR X r) (ha:PE X a ta) (hb:PE X b tb) (hs:cC b):PE X (.Subscript a b pos) (tOp r ta tb):=by
 intro jb s σ H Q I h;exact Subscript_ (Zz ha hb I h λv u s2 x y H2 I2 rx ry q=>hr a b jb s2 σ H2 x y v u Q I2 rx ry q (hs _ _))
def dI (K:YD):R2:=λx y H Q=>∃p xs i v,x=.ref p/\y=.int i/\SqL K H p xs/\atI xs i=some v/\Q v H
def dH (K:YD):R2:=λx y H Q=>∃p xs i v,x=.ref p/\y=.int i/\SqT K H p xs/\atI xs i=some v/\Q v H
theorem Bl:IxR X (dI X.K):=by
 intro value slice jb s σ H x y v u Q I rx ry h hs;obtain⟨p,xs,i,z,rfl,rfl,hq,he,q⟩:=h;cases rx;obtain⟨t,rfl⟩:=ry;obtain⟨its,r,pl,hz⟩:=I.list hq;obtain⟨j,h1,h2,h3,h4,h5⟩:=Vf he;obtain⟨w,ew,rw'⟩:=r.get h2;have hl:=r.length;have hn:=Lr;have fin:EP X jb σ Q w s:=⟨z,H,I,rw',q⟩;by_cases h0:0<=i
 ·have hj:i.toNat=j:=by
   rw[seqIndex_of h0 h5] at h1;exact Qbv h1
  exact item_listR pl.isList h0 (by omega) (by rw[hj];simpa using ew) fin hs
 ·have hj:(i+(its.toArray.size:Int)).toNat=j:=by
   rw[seqIndex_neg (by omega) h4] at h1;rw[QaT,<-hl];exact Qbv h1
  exact subscriptTail_builtinR (x:=w) pl.isList.typeIs slot_list_getitem.lookup
   (wpAny_getItem_list_neg (Q:=λr s'=>r=w/\EP X jb σ Q r s') pl.isList (by omega) (by rw[QaT] <;> omega) (by omega) (by rw[hj];simpa using ew) ⟨rq,fin⟩) hs
theorem Ba:IxR X (dH X.K):=by
 intro value slice jb s σ H x y v u Q I rx ry h hs;obtain⟨p,xs,i,z,rfl,rfl,hq,he,q⟩:=h;cases rx;obtain⟨t,rfl⟩:=ry;obtain⟨its,r,pl,hz⟩:=I.tuple hq;obtain⟨j,h1,h2,h3,h4,h5⟩:=Vf he;obtain⟨w,ew,rw'⟩:=r.get h2;have hl:=r.length;have hn:=Lr;have fin:EP X jb σ Q w s:=⟨z,H,I,rw',q⟩;exact subscriptTail_builtinR (x:=w) pl.typeIs slot_tuple_getitem.lookup
  (getItem_tuple (j:=j) (Q:=λr s'=>r=w/\EP X jb σ Q r s') pl (by omega) (by omega) (by rw[QaT,<-hl];exact h1) (by simpa using ew) ⟨rq,fin⟩) hs
theorem V0 (its:YE) (n j:Nat) (u:Value):Obj.mapSeq (·.setIfInBounds j u) { cls:=.type "list",data:=.seq its.toArray n }={ cls:=.type "list",data:=.seq (its.set j u).toArray n }:=by
 simp[Obj.mapSeq]
theorem Inv.lst {jb:YC} {σ : St} {H:Hp} {s:Shared} {p:Addr} {xs:YG} (I:Inv X jb σ H s) (h:H p=some (.lst xs)) :
  ∃(its:YE) (n:Nat),Vals xs its/\s.heap.get? p=some { cls:=.type "list",data:=.seq its.toArray n }/\xs.length<=sizeLine:=by
 obtain⟨z,its,n,r,e⟩:=I.hok p _ h;exact⟨its,n,r,e,z⟩
theorem Inv.eN {jb:YC} {σ : St} {H:Hp} {s:Shared} {p:Addr} {xs ys:YG} {its its':YE} {n n':Nat} {f:Obj->Obj} (I:Inv X jb σ H s) (h:H p=some (.lst xs))
  (ho:s.heap.get? p=some { cls:=.type "list",data:=.seq its.toArray n }) (hf:f { cls:=.type "list",data:=.seq its.toArray n }={ cls:=.type "list",data:=.seq its'.toArray n' }) (r:Vals ys its') (hz:ys.length<=sizeLine) (t:Nat) :
  Inv X jb σ (upd H p (.lst ys)) { s with heap:=s.heap.update p f,toks:=t }:=by
 have e:(s.heap.update p f).get? p=some { cls:=.type "list",data:=.seq its'.toArray n' }:=by
  rw[Qar f ho (by rw[hf] <;> rfl),hf]
 refine I.write (x:=p) (e:=p) (by rw[h];trivial) (.inl rfl) (λb u hb q=>(Heap.get?_update_other _ _ (Ne.symm hb)).trans q) ⟨_,e⟩ ?_;exact⟨hz,its',n',r,e⟩
def iJ:V->V->V->Hp->(Hp->Prop)->Prop:=λo i v H Q=>∃p xs k j,o=.ref p/\i=.int k/\H p=some (.lst xs)/\ixN xs.length k=some j/\Q (upd H p (.lst (xs.set j v)))
theorem set_list:gG X iJ:=by
 intro jb s σ H o i v ov iv u Q I ro ri rv h;obtain⟨p,xs,k,j,rfl,rfl,hp,hj,q⟩:=h;cases ro;obtain⟨t,rfl⟩:=ri;obtain⟨its,n,r,ho,hz⟩:=I.lst hp;obtain⟨h1,h2,h3,h4⟩:=UJ hj;have hl:=r.length;have hn:=Lr;have I':Inv X jb σ (upd H p (.lst (xs.set j v))) { s with heap:=s.heap.update p (Obj.mapSeq (·.setIfInBounds j u)) }:=
  I.eN hp ho (V0 its n j u) (r.set rv j) (by rw[List.length_set];exact hz) s.toks
 by_cases h0:0<=k
 ·have hk:k.toNat=j:=by
   rw[seqIndex_of h0 h4] at h1;exact Qbv h1
  exact PySem.W.ki_setAt ho h0 (by omega) (by rw[QaT,<-hl];exact h4) (by rw[hk];exact⟨_,I',q⟩)
 ·have hk:(k+(its.toArray.size:Int)).toNat=j:=by
   rw[seqIndex_neg (by omega) h3] at h1;rw[QaT,<-hl];exact Qbv h1
  exact PySem.W.ki_setBack ho (by omega) (by rw[QaT,<-hl];exact h3) (by omega) (by rw[hk];exact⟨_,I',q⟩)
theorem Rm (lo hi:Option Int) (n:Nat):(sliceBounds lo hi none n).1=((HT.sIx n 0 lo:Nat):Int)/\(sliceBounds lo hi none n).2.1=((HT.sIx n n hi:Nat):Int)/\(sliceBounds lo hi none n).2.2=1:=by
 refine⟨?_,?_,rq⟩
 ·cases lo with
  | none=>simp[sliceBounds,HT.sIx]
  | some i=>
   simp only[sliceBounds,HT.sIx,Option.getD_none,show (1:Int) > 0 by decide,if_true];by_cases h:i < 0
   ·simp only[h,if_true] <;> omega
   ·simp only[h,Qci] <;> omega
 ·cases hi with
  | none=>simp[sliceBounds,HT.sIx]
  | some i=>
   simp only[sliceBounds,HT.sIx,Option.getD_none,show (1:Int) > 0 by decide,if_true];by_cases h:i < 0
   ·simp only[h,if_true] <;> omega
   ·simp only[h,Qci] <;> omega
theorem Qx (its:YE) (lo hi:Option Int):slicePick its.toArray lo hi none=((its.drop (HT.sIx its.length 0 lo)).take (HT.sIx its.length its.length hi - HT.sIx its.length 0 lo)).toArray:=by
 obtain⟨h1,h2,h3⟩:=Rm lo hi its.toArray.size;unfold slicePick;rw[h1,h2,h3];simp only[sliceRange_one,pick_run,QaT] <;> rfl
def dG (K:YD):V->Option Int->Option Int->Hp->VK->Prop:=λx lo hi H Q=>∃a xs,x=.ref a/\SqL K H a xs/\∀p,H p=none->Q (.ref p) (upd H p (.lst (Cy xs lo hi)))
theorem Iz:SlR X (dG X.K):=by
 intro jb s σ H x v vl vu lo hi sl Q I rx hs pl pu h;obtain⟨a,xs,rfl,hx,q⟩:=h;cases rx;obtain⟨its,r,ht,hz⟩:=I.list hx;have hlen:=r.length;refine⟨"list",_,slot_list_getitem.lookup,ht.isList.typeIs,?_⟩;refine wpAny_getItem_list_slice ht.isList hs pl pu .none (by simp) ?_ (by rw[QaT] <;> omega);rw[Qx,<-hlen];refine⟨.ref s.heap.objs.size,_,I.laid (t':=s.toks) (o:=.lst (Cy xs lo hi)) (λb ob q=>Qam _ q) (QbZ _) ?_,rq,q _ (I.hok.fresh (QbZ _))⟩;exact⟨QbV (MF xs lo hi) hz,_,0,(r.drop (HT.sIx xs.length 0 lo)).take (HT.sIx xs.length xs.length hi - HT.sIx xs.length 0 lo),Qaz _ rfl⟩
def Iv:V->Bool
 | .non=>true
 | .bl _=>true
 | .int _=>true
 | .str _=>true
 | _=>false
def eqV:V->V->Bool
 | .non,.non=>true
 | .bl a,.bl b=>a == b
 | .bl a,.int b=>(if a then 1 else 0) == b
 | .int a,.bl b=>a == (if b then 1 else 0)
 | .int a,.int b=>a == b
 | .str a,.str b=>a == b
 | _,_=>false
theorem fZ {A:Around} {s:Shared} {y x:V} {u v:Value} (ry:RelV y u) (rx:RelV x v) (fy:Iv y=true) (fx:Iv x=true):SeqAt.EqAt A s u v (eqV y x):=by
 cases y with
 | non=>
  cases ry;cases x with
  | non=>cases rx;exact SeqAt.EqAt.same _
  | bl b=>cases rx;exact SeqAt.EqAt.none_bool b
  | int b=>obtain⟨t,rfl⟩:=rx;exact SeqAt.EqAt.none_int b t
  | str b=>obtain⟨t,rfl⟩:=rx;exact SeqAt.EqAt.none_str b t
  | _=>exact absurd (show false=true from fx) QaG
 | bl a=>
  cases ry;cases x with
  | non=>cases rx;exact SeqAt.EqAt.bool_none a
  | bl b=>cases rx;exact SeqAt.EqAt.bool_bool a b
  | int b=>obtain⟨t,rfl⟩:=rx;exact SeqAt.EqAt.bool_int a b t
  | str b=>obtain⟨t,rfl⟩:=rx;exact SeqAt.EqAt.bool_str a b t
  | _=>exact absurd (show false=true from fx) QaG
 | int a=>
  obtain⟨t',rfl⟩:=ry;cases x with
  | non=>cases rx;exact SeqAt.EqAt.int_none a t'
  | bl b=>cases rx;exact SeqAt.EqAt.int_bool a t' b
  | int b=>obtain⟨t,rfl⟩:=rx;exact SeqAt.EqAt.int_int a t' b t
  | str b=>obtain⟨t,rfl⟩:=rx;exact SeqAt.EqAt.int_str a t' b t
  | _=>exact absurd (show false=true from fx) QaG
 | str a=>
  obtain⟨t',rfl⟩:=ry;cases x with
  | non=>cases rx;exact SeqAt.EqAt.str_none a t'
  | bl b=>cases rx;exact SeqAt.EqAt.str_bool a t' b
  | int b=>obtain⟨t,rfl⟩:=rx;exact SeqAt.EqAt.str_int a t' b t
  | str b=>obtain⟨t,rfl⟩:=rx;exact SeqAt.EqAt.str_str a t' b t
  | _=>exact absurd (show false=true from fx) QaG
 | _=>exact absurd (show false=true from fy) QaG
def eqU (x:V) (u:Value):Bool:=match u with
 | .none=>eqV .non x
 | .bool b=>eqV (.bl b) x
 | .int i _=>eqV (.int i) x
 | .str z _=>eqV (.str z) x
 | _=>false
theorem X4 {x y:V} {u:Value} (r:RelV y u) (f:Iv y=true):eqU x u=eqV y x:=by
 cases y with
 | non=>cases r;rfl
 | bl b=>cases r;rfl
 | int i=>obtain⟨t,rfl⟩:=r;rfl
 | str z=>obtain⟨t,rfl⟩:=r;rfl
 | _=>exact absurd (show false=true from f) QaG
theorem Qa {x:V}:∀{xs:YG} {us:YE},Vals xs us->xs.all Iv=true->us.any (eqU x)=xs.any λy=>eqV y x
 | _,_,.nil,_=>rfl
 | y::xs,u::us,.cons r t,f=>by
  rw[List.all_cons,Qbg] at f;rw[QbR,QbR,X4 r f.1,Qa t f.2]
theorem Nh {A:Around} {s:Shared} {x:V} {v:Value} (rx:RelV x v) (fx:Iv x=true):∀{xs:YG} {us:YE},Vals xs us->xs.all Iv=true->∀u∈us,SeqAt.EqAt A s u v (eqU x u)
 | _,_,.nil,_=>λu hu=>by cases hu
 | y::xs,u::us,.cons r t,f=>λu' hu=>by
  rw[List.all_cons,Qbg] at f;rcases QbK.mp hu with rfl | hu
  ·rw[X4 r f.1];exact fZ r rx f.1 fx
  ·exact Nh rx fx t f.2 u' hu
def inV (x:V) (xs:YG):Bool:=xs.any λy=>eqV y x
def rIn (K:YD) (neg:Bool):R2:=λx y H Q=>∃p xs,y=.ref p/\(SqL K H p xs\/SqT K H p xs)/\Iv x=true/\xs.all Iv=true/\Q (.bl (if neg then !inV x xs else inV x xs)) H
theorem Ln:OpR X (compareOp .In) (rIn X.K false):=by
 intro jb s σ H x y v u Q I rx ry h;obtain⟨p,xs,rfl,hq,fx,fs,q⟩:=h;cases ry;rcases hq with hq | hq
 ·obtain⟨its,r,pl,hz⟩:=I.list hq;refine SeqAt.in_listAt (eqU x) pl.isList (λw hw=>Nh rx fx r fs w (by simpa using hw)) ⟨.bl _,H,I,rq,?_⟩;rw[show its.toArray.any (eqU x)=its.any (eqU x) by simp,Qa r fs];exact q
 ·obtain⟨its,r,pl,hz⟩:=I.tuple hq;refine SeqAt.in_tupleAt (eqU x) pl (λw hw=>Nh rx fx r fs w (by simpa using hw)) ⟨.bl _,H,I,rq,?_⟩;rw[show its.toArray.any (eqU x)=its.any (eqU x) by simp,Qa r fs];exact q
theorem Bw:Ea X (.builtin "len") (λxs H Q=>∃p ys,xs=[.ref p]/\(SqL X.K H p ys\/SqT X.K H p ys)/\Q (.int ys.length) H):=by
 intro jb s σ H xs us Q I r h;obtain⟨p,ys,rfl,hq,q⟩:=h;obtain⟨u,rfl,rx⟩:=vals1 r;cases rx;have hn:=Lr;rcases hq with hq | hq
 ·obtain⟨its,r',pl,hz⟩:=I.list hq;have hlen:=r'.length;exact Calls.call_len_list pl.isList (by simp only[QaT] <;> omega) ⟨.int ys.length,H,I.tok _,⟨s.toks+1,by rw[QaT,hlen]⟩,q⟩
 ·obtain⟨its,r',pl,hz⟩:=I.tuple hq;have hlen:=r'.length;exact len_tuple pl (by simp only[QaT] <;> omega) ⟨.int ys.length,H,I.tok _,⟨s.toks+1,by rw[QaT,hlen]⟩,q⟩
theorem Ea.or {f:Value} {r r':YG->Hp->VK->Prop} (h:Ea X f r) (h':Ea X f r'):Ea X f (λxs H Q=>r xs H Q\/r' xs H Q):=by
 intro jb s σ H xs us Q I rs q;rcases q with q | q
 ·exact h jb s σ H xs us Q I rs q
 ·exact h' jb s σ H xs us Q I rs q
theorem G8:Ea X (.type "list") (λxs H Q=>∃p ys,xs=[.ref p]/\(SqL X.K H p ys\/SqT X.K H p ys)/\∀l,H l=none->Q (.ref l) (upd H l (.lst ys))):=by
 intro jb s σ H xs us Q I r h;obtain⟨p,ys,rfl,hq,q⟩:=h;obtain⟨u,rfl,rx⟩:=vals1 r;cases rx;have fin:∀(its:YE),Vals ys its->ys.length<=sizeLine->∀(h':Heap) (c':Nat),(∀b o',s.heap.get? b=some o'->h'.get? b=some o') ->
   h'.get? s.heap.objs.size=some { cls:=.type "list",dict:=none,data:=.seq its.toArray c',slots:=#[] }->EP X jb σ Q (.ref s.heap.objs.size) { s with heap:=h' }:=λits r' hz h' c' kp e=>
  ⟨.ref s.heap.objs.size,_,I.laid (t':=s.toks) kp (QbZ _) (show Cj X.prog X.w _ h' _ (.lst ys) from⟨hz,its,c',r',e⟩),rq,q _ (I.hok.fresh (QbZ _))⟩
 rcases hq with hq | hq
 ·obtain⟨its,r',pl,hz⟩:=I.list hq;have hlen:=r'.length;obtain⟨o,ho,hc,n,hd⟩:=pl.isList;exact call_list_seq p (.inl rfl) ho hc hd (λh' c' kp e=>fin its r' hz h' c' kp e) (by simp only[QaT] <;> omega)
 ·obtain⟨its,r',pl,hz⟩:=I.tuple hq;have hlen:=r'.length;obtain⟨o,ho,hc,n,hd⟩:=pl;exact call_list_seq p (.inr rfl) ho hc hd (λh' c' kp e=>fin its r' hz h' c' kp e) (by simp only[QaT] <;> omega)
theorem Dq:Ea X (.type "tuple") (λxs H Q=>∃p ys,xs=[.ref p]/\((SqL X.K H p ys/\∀l,H l=none->Q (.ref l) (upd H l (.tup ys)))\/(SqT X.K H p ys/\Q (.ref p) H))):=by
 intro jb s σ H xs us Q I r h;obtain⟨p,ys,rfl,h⟩:=h;obtain⟨u,rfl,rx⟩:=vals1 r;cases rx;rcases h with⟨hq,q⟩|⟨hq,q⟩
 ·obtain⟨its,r',pl,hz⟩:=I.list hq;have hlen:=r'.length;refine call_tuple_list pl.isList (λh' kp=>?_) (by simp only[QaT] <;> omega);have I1:Inv X jb σ H { s with heap:=h' }:=I.kept (t':=s.toks) kp;have I2:Inv X jb σ (upd H h'.objs.size (.tup ys)) { s with heap:=h'.push { cls:=.type "tuple",data:=.seq its.toArray } }:=
   I1.laid (t':=s.toks) (λb o e=>Qam _ e) (QbZ _) (show Cj X.prog X.w _ _ _ (.tup ys) from⟨hz,its,r',IsTup.new _ _⟩)
  exact⟨.ref h'.objs.size,_,I2,rq,q _ (I1.hok.fresh (QbZ _))⟩
 ·obtain⟨its,r',pl,hz⟩:=I.tuple hq;exact call_tuple_same pl ⟨.ref p,H,I,rq,q⟩
def tyV (K:YD) (T:String) (x:V) (H:Hp):Prop:=match x with
 | .str _=>T="str"
 | .int _=>T="int"
 | .ref p=>(T="list"/\∃xs,SqL K H p xs)\/(T="tuple"/\∃o,K.lookup p=some o/\o.cls=.type "tuple"/\o.dict=none) \/
   (T="dict"/\((∃kvs,H p=some (.dK kvs))\/∃kvs,H p=some (.dT kvs)))\/(T="set"/\∃S n,H p=some (.set S n))
 | _=>False
theorem cM {jb:YC} {σ : St} {H:Hp} {s:Shared} {T:String} {x:V} {v:Value} (I:Inv X jb σ H s) (r:RelV x v) (ty:tyV X.K T x H) :
  s.TypeIs v T/\∀a,v=.ref a->∃ob,s.heap.get? a=some ob/\ob.dict=none:=by
 cases x with
 | str z=>
  obtain⟨t,rfl⟩:=r;cases (show T="str" from ty)
  exact⟨typeIs_str s z t,λ_ e=>nomatch e⟩
 | int i=>
  obtain⟨t,rfl⟩:=r;cases (show T="int" from ty)
  exact⟨typeIs_int s i t,λ_ e=>nomatch e⟩
 | ref p=>
  cases r;rcases ty with⟨rfl,xs,hq⟩|⟨rfl,o,hk,hc,hd⟩|⟨rfl,hk⟩|⟨rfl,S,n,hk⟩
  ·obtain⟨its,_,pl,_⟩:=I.list hq;refine⟨pl.isList.typeIs,λa e=>?_⟩;cases e;obtain⟨o,n,e,c,hd,_⟩:=pl;exact⟨o,e,hd⟩
  ·refine⟨⟨o,I.kIn p o hk,hc⟩,λa e=>?_⟩;cases e;exact⟨o,I.kIn _ o hk,hd⟩
  ·have z:∃o,s.heap.get? p=some o/\o.ExactDict:=by
    rcases hk with⟨kvs,hk⟩|⟨kvs,hk⟩
    ·obtain⟨_,_,_,_,o,_,_,e,ex,_⟩:=I.hok p _ hk;exact⟨o,e,ex⟩
    ·obtain⟨_,_,_,_,o,_,_,e,ex,_⟩:=I.hok p _ hk;exact⟨o,e,ex⟩
   obtain⟨o,e,ex⟩:=z;refine⟨⟨o,e,ex.1⟩,λa e2=>?_⟩;cases e2;exact⟨o,e,ex.2.1⟩
  ·obtain⟨o,_,_,_,e,ex,_⟩:=I.hok p _ hk;refine⟨⟨o,e,ex.1⟩,λa e2=>?_⟩;cases e2;exact⟨o,e,ex.2.1⟩
 | _=>exact False.elim ty
def tBM (K:YD) (T:String) (r:V->YG->Hp->VK->Prop) (to:TE) (t:TA):TE:=fun σ H Q=>to σ H λx H1=>tyV K T x H1/\t σ H1 λxs H2=>r x xs H2 Q
variable {o e:Expr} {es:YJ} {to:TE} {t:TA} {name:Str} {apos cpos:Pos} {T id:String} {r:V->YG->Hp->VK->Prop}
theorem VJ (pa:PlainAttrs T) (slot:Slot T name id) (hty:typeOf (.builtin id)=pure (.type "method_descriptor")) (hm:MtR X id r) (ho:PE X o to) (ha:PA X (e::es) t)
  (hbase:attributeBase o name X.env (eval o X.env)=eval o X.env:=by rfl)
  (hfew:((backTo cpos (starEach (e::es) X.env)).all (λx=>!x.1)&&(backToKw cpos (keywordEach [] X.env)).all (λx=>x.1.isSome)
  &&decide ((e::es).length+([]:List Keyword).length+(if ([]:List Keyword).isEmpty then 0 else 1) < 30))=true:=by rfl)
  (hline:(apos.endLine == cpos.line)=true:=by rfl) (hs:starEach (e::es) X.env=(false,eval e X.env)::starEach es X.env:=by rfl) (hplain:(backTo cpos (starEach es X.env)).any (·.1)=false:=by rfl) :
  PE X (.Call (.Attribute o name apos) (e::es) [] cpos) (tBM X.K T r to t):=by
 intro jb s σ H Q I h;refine wpAny_Call_method_late hbase hfew hline rfl (thn (ho jb s σ H _ I h) λv s1 zz=>?_);obtain⟨x,H1,I1,r1,ty,q1⟩:=zz;obtain⟨h1,h2⟩:=cM I1 r1 ty;refine⟨T,id,pa,slot,hty,h1,h2,?_⟩;have hA:=ha cpos jb s1 σ H1 _ I1 q1;rw[hs] at hA ⊢;refine Calls.callWith_builtin (by show (false || (backTo cpos (starEach es X.env)).any (·.1))=false;rw[hplain] <;> rfl) (Calls.evalArgs_plain ?_);refine thn hA λus s2 zz=>?_;obtain⟨vs,H2,I2,r2,q2⟩:=zz;exact hm jb s2 σ H2 x vs v us Q I2 r1 r2 q2
end
def MtM (X:Cx) (id:String) (r:V->YG->Hp->VK->Prop):Prop:=
 ∀(jb:YC) (s:Shared) (σ : St) (H:Hp) (x:V) (xs:YG) (v:Value) (us:YE) (Q:VK),Inv X jb σ H s->RelV x v->Vals xs us->r x xs H Q ->
  wpAny (model X.prog X.w) X.A (call (.builtin id) (v::us)) (EP X jb σ Q) X.xe s
theorem Vals.one:∀{x:V} {us:YE},Vals [x] us->∃u,us=[u]/\RelV x u
 | _,_,.cons r .nil=>⟨_,rfl,r⟩
theorem Vals.zero:∀{us:YE},Vals [] us->us=[]
 | _,.nil=>rfl
theorem Vals.dropLast {xs:YG} {us:YE} (h:Vals xs us):Vals xs.dropLast us.dropLast:=by
 induction h with
 | nil=>exact .nil
 | cons r t ih=>
  cases t with
  | nil=>exact .nil
  | cons q t'=>exact .cons r ih
theorem Vals.eraseIdx:∀{xs:YG} {us:YE} (i:Nat),Vals xs us->Vals (xs.eraseIdx i) (us.eraseIdx i)
 | _,_,_,.nil=>.nil
 | _,_,0,.cons _ t=>t
 | _,_,i+1,.cons r t=>.cons r (Vals.eraseIdx i t)
theorem Vals.reverse {xs:YG} {us:YE} (h:Vals xs us):Vals xs.reverse us.reverse:=by
 induction h with
 | nil=>exact .nil
 | cons r t ih=>rw[List.reverse_cons,List.reverse_cons];exact Vals.append ih (.cons r .nil)
theorem Vals.rep {xs:YG} {us:YE} (h:Vals xs us):∀k:Nat,Vals (List.replicate k xs).flatten (List.replicate k us).flatten
 | 0=>.nil
 | k+1=>by
  rw[QaD,QaD,Qbd,Qbd];exact Vals.append h (Vals.rep h k)
theorem foldl_rep (its:YE):∀(k:Nat) (acc:YE),
  List.foldl (λx1 x2=>x1++x2) acc.toArray (List.replicate k its.toArray)=(acc++(List.replicate k its).flatten).toArray
 | 0,acc=>by simp
 | k+1,acc=>by
  have e:acc.toArray++its.toArray=(acc++its).toArray:=by simp
  have e2:(acc++its)++(List.replicate k its).flatten=acc++(List.replicate (k+1) its).flatten:=by
   rw[QaD,Qbd,List.append_assoc]
  rw[<-e2,<-foldl_rep its k (acc++its),<-e,QaD,List.foldl_cons]
section
variable {X:Cx} {jb:YC} {σ : St} {H:Hp} {s:Shared} {l b:Addr} {xs ys zs:YG}
theorem Inv.eO {its its':YE} {n:Nat} {f:Array Value->Array Value} {t':Nat} (I:Inv X jb σ H s) (hH:H l=some (.lst xs))
  (e:s.heap.get? l=some { cls:=.type "list",data:=.seq its.toArray n }) (hf:f its.toArray=its'.toArray) (hv:Vals ys its') (hz:ys.length<=sizeLine) :
  Inv X jb σ (upd H l (.lst ys)) { s with heap:=s.heap.update l (Obj.mapSeq f),toks:=t' }:=by
 have q:=PySem.IsL.update e f;rw[hf] at q;refine I.write (x:=l) (e:=l) (by rw[hH];exact trivial) (.inl rfl) (λb' u hb hu=>(Heap.get?_update_other s.heap (Obj.mapSeq f) (Ne.symm hb)).trans hu) ⟨_,q⟩ ?_;exact⟨hz,its',_,hv,q⟩
theorem Inv.eV {its:YE} {t':Nat} (I:Inv X jb σ H s) (hv:Vals ys its) (hz:ys.length<=sizeLine) :
  Inv X jb σ (upd H s.heap.objs.size (.lst ys)) { s with heap:=s.heap.push { cls:=.type "list",data:=.seq its.toArray },toks:=t' }:=
 I.laid (λ_ _ q=>Qam _ q) (QbZ _) ⟨hz,its,0,hv,Qaz _ rfl⟩
theorem Inv.fresh (I:Inv X jb σ H s):H s.heap.objs.size=none:=I.hok.fresh (QbZ _)
theorem Inv.Pq (I:Inv X jb σ H s) (hH:H l=some (.lst xs)):xs.length<=sizeLine/\∃(its:YE) (n:Nat),Vals xs its/\xs.length=its.length/\s.heap.get? l=some { cls:=.type "list",data:=.seq its.toArray n }:=by
 obtain⟨z,its,n,r,e⟩:=I.hok l _ hH;exact⟨z,its,n,r,r.length,e⟩
theorem RZ {n:Nat} (h:n<=sizeLine):Builtin.List.listTooLong n=false:=by
 unfold Builtin.List.listTooLong;exact Qbu (by omega)
end
section
variable {X:Cx}
def aK:V->YG->Hp->VK->Prop:=λx vs H Q=>∃l xs y,x=.ref l/\vs=[y]/\H l=some (.lst xs)/\xs.length < sizeLine/\Q .non (upd H l (.lst (xs++[y])))
theorem Js:MtM X "list.append" aK:=by
 intro jb s σ H x vs v us Q I rx rv h;obtain⟨l,xs,y,rfl,rfl,hH,hz,q⟩:=h;cases rx;obtain⟨u,rfl,ru⟩:=rv.one;obtain⟨z,its,n,r,hl,e⟩:=I.Pq hH;refine call_meets F.slot_list_append ⟨_,e,rq⟩ F.entry_list_append (F.args_list_append_2 _ _) (PySem.list_append l its.toArray n u (by rw[QaT];omega)) ⟨e,?_⟩;refine⟨.non,_,I.eO (its':=its++[u]) hH e (by simp) (r.append (.cons ru .nil)) ?_,rq,q⟩;rw[QaF,Qas];omega
def aJ:V->YG->Hp->VK->Prop:=λx vs H Q=>∃l b xs zs,x=.ref l/\vs=[.ref b]/\H l=some (.lst xs)/\H b=some (.lst zs)/\xs.length+zs.length<=sizeLine/\Q .non (upd H l (.lst (xs++zs)))
theorem jE:MtM X "list.extend" aJ:=by
 intro jb s σ H x vs v us Q I rx rv h;obtain⟨l,b,xs,zs,rfl,rfl,hH,hB,hz,q⟩:=h;cases rx;obtain⟨u,rfl,ru⟩:=rv.one;cases ru;obtain⟨z,its,n,r,hl,e⟩:=I.Pq hH;obtain⟨z2,its2,n2,r2,hl2,e2⟩:=I.Pq hB;have hsz:its.toArray.size+its2.toArray.size<=sizeLine:=by rw[QaT,QaT];omega
 have Wa:¬(!its.toArray.isEmpty&&Builtin.List.listTooLong (its.toArray.size+its2.toArray.size))=true:=by
  rw[RZ hsz,Bool.and_false];exact QaG
 refine call_meets F.slot_list_extend ⟨_,e,rq⟩ F.entry_list_extend (F.args_list_extend_2 _ _)
  (AutoSeq1.list_extend_list_list_0 l its.toArray n b its2.toArray n2 Wa (by rw[QaT];omega) (by omega)) ⟨e,e2,?_⟩
 refine⟨.non,_,I.eO (its':=its++its2) hH e (by simp) (r.append r2) ?_,rq,q⟩;rw[QaF];omega
def jR:R2:=λx y H Q=>∃l b xs zs,x=.ref l/\y=.ref b/\H l=some (.lst xs)/\H b=some (.lst zs)/\xs.length+zs.length<=sizeLine/\∀p,H p=none->Q (.ref p) (upd H p (.lst (xs++zs)))
theorem N7:OpR X (binaryOp .Add) jR:=by
 intro jb s σ H x y v u Q I rx ry h;obtain⟨l,b,xs,zs,rfl,rfl,hH,hB,hz,q⟩:=h;cases rx;cases ry;obtain⟨z,its,n,r,hl,e⟩:=I.Pq hH;obtain⟨z2,its2,n2,r2,hl2,e2⟩:=I.Pq hB;refine PySem.P.add_list e e2 ?_ (by rw[QaT,QaT];omega);have ea:its.toArray++its2.toArray=(its++its2).toArray:=by simp
 rw[ea];exact⟨.ref _,_,I.eV (t':=s.toks) (r.append r2) (by rw[QaF];omega),rq,q _ I.fresh⟩
def jQ:R2:=λx y H Q=>∃l k xs,x=.ref l/\y=.int k/\H l=some (.lst xs)/\-(2 ^ 63)<=k/\k < 2 ^ 63/\xs.length*k.toNat<=sizeLine /\
 ∀p,H p=none->Q (.ref p) (upd H p (.lst (List.replicate k.toNat xs).flatten))
theorem len_rep {α : Type} (xs:List α) (k:Nat):(List.replicate k xs).flatten.length=k*xs.length:=by
 induction k with
 | zero=>simp
 | succ k ih=>rw[QaD,Qbd,QaF,ih,Nat.succ_mul,Nat.add_comm]
theorem dR:OpR X (binaryOp .Mult) jQ:=by
 intro jb s σ H x y v u Q I rx ry h;obtain⟨l,k,xs,rfl,rfl,hH,h1,h2,hz,q⟩:=h;cases rx;obtain⟨t,rfl⟩:=ry;obtain⟨z,its,n,r,hl,e⟩:=I.Pq hH;have hlen:its.toArray.size*k.toNat<=sizeLine:=by rw[QaT,<-hl];exact hz
 have hcap:¬its.toArray.size*k.toNat > (2 ^ 63 - 1) / 8:=by
  have:(sizeLine:Nat)<=(2 ^ 63 - 1) / 8:=by decide
  omega
 have hfit:¬(!Builtin.List.listFitsIndex k)=true:=by
  rw[fitsIndex_both h1 h2];exact QaG
 have Wa:¬Builtin.List.listTooLong (its.toArray.size*k.toNat)=true:=by
  rw[RZ hlen];exact QaG
 have hnew:List.foldl (λx1 x2=>x1++x2) #[] (List.replicate (if its.toArray.isEmpty=true then 0 else k.toNat) its.toArray)=(List.replicate k.toNat its).flatten.toArray:=by
  have f0:∀m:Nat,List.foldl (λx1 x2=>x1++x2) #[] (List.replicate m its.toArray)=(List.replicate m its).flatten.toArray:=λm=>by
   have:=foldl_rep its m [];rw[List.nil_append] at this;exact this
  rw[f0];cases its with
  | nil=>simp
  | cons a r'=>rw[if_neg (by simp)]
 refine wpAny_binaryOp_repeat_ref (T:="list") (U:="int") (by decide) ⟨_,e,rq⟩ (λs'=>typeIs_int s' k t) noFill_list_mul F.fills_int_mul F.slot_int_rmul repeat_list F.slot_int_index.lookup
  (call_meets F.slot_int_rmul (typeIs_int s k t) F.entry_int_rmul (F.args_int_rmul_2 _ _) (int___rmul___int_list k t l its.toArray n)
   ⟨e,rq,⟨_,e,rq⟩,call_meets F.slot_list_mul ⟨_,e,rq⟩ F.entry_list_mul (F.args_list_mul_2 _ _) (AutoListH.list___mul___list_int_3 l its.toArray n k t hfit hcap Wa) ⟨e,?_⟩⟩)
 rw[hnew];exact⟨.ref _,_,I.eV (t':=s.toks) (r.rep k.toNat) (by rw[len_rep,Nat.mul_comm];exact hz),rq,q _ I.fresh⟩
end
section
variable {prog:Program} {w:World} {A:Around} {E:YA} {s:Shared}
set_option maxRecDepth 100000 in
end
section
variable {X:Cx}
end
end L2
namespace Att
open PySem PySem.W PySem.Calls PyProof.Rows
theorem Od {P:Params} {h:Heap}:∀(ns:List Int) (vs:YE),WellAll P h vs (ns.map WData.int)->IntsAre vs ns:=by
 intro ns
 induction ns with
 | nil=>
  intro vs w;rw[List.map_nil] at w;cases w;exact .nil
 | cons n ns ih=>
  intro vs w;rw[QbM] at w;cases w with
  | cons a b=>
   cases a;exact .cons _ _ (ih _ b)
theorem Xa {l:OpenLaw} {n:Nat} (hn:l.most=some n) {P:Params} {h:Heap} {args:List WData} {vals:YE}
  (hpre:l.row.toRowW.claim.pre args=true) (hwl:WellAll P h vals args) :
  ∃a vs ns,vals=[Value.ref a]/\args=[WData.list (ns.map WData.int)]/\h.get? a=some { cls:=.type "list",data:=.seq vs.toArray }/\IntsAre vs ns/\ns.length<=n:=by
 have hsh:WShape.hasAll [] args [.list .int]=true:=(pre_splitW hpre).1;have hc:l.pre.holds [] { args:=args }=true:=(pre_splitW hpre).2;obtain⟨d,r,rfl,h1,h2⟩:=hasAllW_cons hsh;obtain rfl:=hasAllW_nil h2;obtain⟨xs,rfl,h3⟩:=hasW_list h1;obtain⟨ns,rfl⟩:=items_int h3;have hlen:ns.length<=n:=by
  unfold OpenLaw.pre at hc;have h4:(WTm.not (.lt (.lit (.int (n:Int))) (.len (.arg 0)))).holds [] { args:=[.list (ns.map .int)] }=true:=by
   have h4:=(holds_andW hc).1;rw[hn] at h4;exact h4
  have h5:=condW_of h4 (w_not (w_lt w_lit (w_len_list (w_arg rfl))));rw[Qbs] at h5;refine Nat.le_of_not_lt λq=>?_;have q':(n:Int) < ((ns.length:Nat):Int):=by omega
  first
   | (rw[QbF q'] at h5;exact absurd h5 (by decide))
   | (simp at h5;omega)
 cases hwl with
 | cons w1 w2=>
  cases w2;cases w1 with
  | list ho hall=>exact⟨_,_,ns,rfl,rfl,ho,Od ns _ hall,hlen⟩
theorem Xh (l:OpenLaw) (args:List WData):l.row.toRowW.claim.post args (.bool true) args=true:=
 postW_of (r:=l.row.toRowW) (X:=(true == true))
  (show WShape.has [] (.bool true) .bool=true by first | rfl | decide | simp[WShape.has,WShape.arms,WShape.armsAll])
  (show (WTm.eq .res (.lit (.bool true))).value [] { args:=args,res:=some (.bool true),after:=args }=some (.bool (true == true)) from w_eq_bool (w_res rfl) w_lit) rfl
theorem Ui {l:OpenLaw} {n:Nat} {q:Program} {loose:YF} {XP:(YB)->Heap->Prop} {YP:World->Heap->Prop} {d:DefRec}
  (hn:l.most=some n) (hdf:d.params.defaults=[])
  (call:∀(w:World) (s₀ s₁ : Shared) (mg mb:YB) (fa:Addr) (o:Obj) (pm cd doc:Value) (a:Addr) (vs:YE) (ns:List Int),
   Ground q loose [] XP w s₀ mg mb s₁.heap->YP w s₁.heap ->
   s₁.heap.get? fa=some o->o.data=.func (docDef d.name d.params d.body d.scope pm cd doc)->s₁.heap.CodeRec cd d.name->mg d.name=some (.ref fa) ->
   s₁.heap.get? a=some { cls:=.type "list",data:=.seq vs.toArray }->IntsAre vs ns->ns.length<=n->s₁.gens=#[] ->
   codeAny (model l.prog w) callerA (.call (.ref fa) ⟨[.ref a],[]⟩) (λr s'=>r=.ok (.ret (.bool true))/\OldK s₁.heap s'.heap/\s'.os=s₁.os/\AllBare s'.gens) s₁) :
  WalkO q loose XP YP l.row.toRowW d [] (λf vs=>PySem.call f vs):=by
 intro w s₀ s₁ mg mb G Y fa o pm cd doc dV kV ho hd hcd hD hmg hg args vals as hpre hlay hrd hwl hlo;obtain rfl:dV=.none:=Dflts.none hD hdf;obtain rfl:kV=.none:=Dflts.noKw hD;obtain⟨a,vs,ns,rfl,rfl,hobj,hints,hlen⟩:=Xa hn hpre hwl;refine enter_call (codeAny_mono (call w s₀ s₁ mg mb fa o pm cd doc a vs ns G Y ho (fd_plain hd) hcd hmg hobj hints hlen hg) λr s' hq=>?_);obtain⟨rfl,h2,h3,h4⟩:=hq;exact⟨.inl ⟨.bool true,.bool true,[],rq,λ_=>rfl,.bool true,Xh l _,λ_=>⟨List.Pairwise.nil,λ_ hm=>(nomatch hm)⟩⟩,h2,h3,h4⟩
section
variable {prog:Program} {w:World} {A:Around} {E:YA} {s:Shared} {K:Frag}
end
end Att
namespace L2
open PySem PySem.Spec PyProof.Rows
theorem KZ:∀{vs:YE} {ns:List Int},IntsAre vs ns->Vals (ns.map V.int) vs
 | _,_,.nil=>.nil
 | _,_,.cons n t h=>.cons ⟨t,rfl⟩ (KZ h)
def Only (H:Hp):Prop:=∀b,H b=none\/∃o xs,H b=some (.frz o (.lst xs))
theorem Zg {P:Program} {w:World} {K:YD} {mg mb:YB} {CX:CXT} {k:Nat} {fa a:Addr} {fd:FuncData} {x:Str} {sp:Sp} {s₁ : Shared} {vs:YE} {ns:List Int}
  (KX:K.In s₁.heap) (hns:s₁.heap.Ns mainGlobals mg) (hb:s₁.heap.Ns builtinsNs mb) (hbb:∀x:Str,x≠"__name__"->mb x=bootBuiltins x) (hlim:s₁.heap.NoLimit) (hg:s₁.gens=#[])
  (ha:s₁.heap.get? a=some { cls:=.type "list",data:=.seq vs.toArray }) (hi:IntsAre vs ns) (hl:ns.length<=sizeLine) (hr:Cq k callerA)
  (F:∀base:Heap,K.In base->base.Ns mainGlobals mg->Ed P w K mg base CX k fa fd [x] sp) (hbind:∀(s:Shared) (u:Value),BindsTo s fd ⟨[u],[]⟩ [(x,u)])
  (hsp:∀H:Hp,Only H->SqL K H a (ns.map V.int)->sp [.ref a] H (λv _=>v=.bl true) λ_ _ _=>False)
  (hCX:∀H e s',CX [] H s₁ (λ_ _ _=>False) e s'->False) :
  codeAny (model P w) callerA (.call (.ref fa) ⟨[.ref a],[]⟩) (λr s'=>r=.ok (.ret (.bool true))/\OldK s₁.heap s'.heap/\s'.os=s₁.os/\AllBare s'.gens) s₁:=by
 have rv:=KZ hi;have lenV:=hi.length;have core:∀H:Hp,Only H->SqL K H a (ns.map V.int)->HOk P w H s₁.heap->(∀b,H b≠none->b=a)->(H a≠none->K.lookup a=none) ->
   codeAny (model P w) callerA (.call (.ref fa) ⟨[.ref a],[]⟩) (λr s'=>r=.ok (.ret (.bool true))/\OldK s₁.heap s'.heap/\s'.os=s₁.os/\AllBare s'.gens) s₁:=by
  intro H hO hS hok hA hK;have Vd:∀{b:Addr} {o:Obj},s₁.heap.get? b=some o->H b=none->(Kr s₁.heap H).get? b=some o:=λe n=>Zq e n;have noA:∀{b:Addr} {o:Obj} {es:Array DictEntry} {ep:Nat},s₁.heap.get? b=some o->o.data=.dict es ep->H b=none:=λ{b o es ep} e d=>by
   cases q:H b with
   | none=>rfl
   | some u=>
    have e':b=a:=hA b (by rw[q];simp);subst e';rw[ha] at e;cases e;have d':Data.seq vs.toArray _=Data.dict es ep:=d;cases d'
  have nsK:∀{b:Addr} {m:YB},s₁.heap.Ns b m->(Kr s₁.heap H).Ns b m:=λ{b m} ⟨o,es,ep,e,d,r⟩=>⟨o,es,ep,Vd e (noA e d),d,r⟩;have hKb:K.In (Kr s₁.heap H):=λb o e=>Vd (KX b o e) (by
   cases q:H b with
   | none=>rfl
   | some u=>
    have e':b=a:=hA b (by rw[q];simp);subst e';rw[hK (by rw[q];simp)] at e;cases e)
  have hM:Mod K mg (Kr s₁.heap H):=⟨hKb,nsK hns,⟨mb,nsK hb,hbb⟩,let ⟨mc,h1,h2⟩:=hlim;⟨mc,nsK h1,h2⟩⟩;have e0:JG P w K mg (Kr s₁.heap H) callerA [] s₁ H:=⟨rq,hM,λb o e=>aZ e,Nat.le_of_eq (XM _ _),trivial,λb hb=>absurd (show b∈([]:List Addr) from hb) (by simp),hok,.of_eq hg⟩
  refine codeAny_mono ((F _ hKb (nsK hns)).run callerA [] s₁ H ⟨[.ref a],[]⟩ [.ref a] [.ref a] _ _ hr e0 (hbind s₁ (.ref a)) (.cons rfl .nil) (hsp H hO hS)) λr s' h=>?_;cases r with
  | error e=>exact (hCX H e s' h).elim
  | ok fl=>
   cases fl with
   | next=>exact False.elim h
   | brk=>exact False.elim h
   | cont=>exact False.elim h
   | ret u=>
    obtain⟨v,H',os,bare,un,hok',r',q⟩:=h;have q':v=.bl true:=q;subst q';obtain rfl:u=Value.bool true:=r';refine⟨rq,OldK.of_keep λb o e=>?_,os,bare⟩;cases q:H b with
    | none=>exact un.keep b o e q (by intro z;exact absurd (show b∈([]:List Addr) from z) (by simp)) (by simp)
    | some u=>
     rcases hO b with z |⟨ob,xs,z⟩
     ·rw[q] at z;cases z
     ·have z2:=un.Gw b ob _ z;obtain⟨e1,_⟩:=hok b _ z;obtain⟨e2,_⟩:=hok' b _ z2;rw[e] at e1;cases e1;exact e2
 cases hk:K.lookup a with
 | some o=>
  have e:=KX a o hk;rw[ha] at e;cases e;refine core (λ_=>none) (λ_=>.inl rfl) (.inr ⟨_,vs.toArray,_,hk,rq,rq,rq,by rw[QaT,lenV];exact hl,by simpa using rv⟩) (λb u z=>by have z':(none:Option HO)=some u:=z;cases z') (λb z=>absurd rfl z) λz=>absurd rfl z
 | none=>
  refine core (λb=>if b=a then some (.frz { cls:=.type "list",data:=.seq vs.toArray } (.lst (ns.map V.int))) else none) (λb=>?_) (.inl (.inr ⟨{ cls:=.type "list",data:=.seq vs.toArray },if_pos rfl⟩)) (λb u z=>?_) (λb z=>?_) λ_=>hk
  ·by_cases hb:b=a
   ·exact .inr ⟨_,_,if_pos hb⟩
   ·exact .inl (if_neg hb)
  ·by_cases hb:b=a
   ·have z':=(if_pos hb).symm.trans z;cases z';subst hb;exact⟨ha,by rw[Qbs];exact hl,vs,_,rv,ha⟩
   ·have z':=(if_neg hb).symm.trans z;cases z'
  ·by_cases hb:b=a
   ·exact hb
   ·exact absurd (if_neg hb) z
theorem ak {l:PySem.W.OpenLaw} {n k:Nat} {q:Program} {loose:YF} {XP:(YB)->Heap->Prop} {YP:World->Heap->Prop} {d:DefRec} {K:Params->YD} {CX:World->CXT} {sp:World->Sp} {x:Str}
  (hn:l.most=some n) (hn2:n<=sizeLine) (hdf:d.params.defaults=[]) (hr:Cq k callerA)
  (hY:∀(w:World) (h:Heap),YP w h->(K w.params).In h)
  (F:∀(w:World) (mg:YB) (fa:Addr) (h:Heap),(K w.params).In h->h.Ns mainGlobals mg->mg d.name=some (.ref fa) ->
   ∃fd:FuncData,(∀(s:Shared) (u:Value),BindsTo s fd ⟨[u],[]⟩ [(x,u)]) /\
    ∀base:Heap,(K w.params).In base->base.Ns mainGlobals mg->Ed l.prog w (K w.params) mg base (CX w) k fa fd [x] (sp w))
  (hsp:∀(w:World) (H:Hp) (a:Addr) (ns:List Int),ns.length<=n->Only H->SqL (K w.params) H a (ns.map V.int)->sp w [.ref a] H (λv _=>v=.bl true) λ_ _ _=>False)
  (hCX:∀(w:World) (H:Hp) (s:Shared) (e:Value) (s':Shared),CX w [] H s (λ_ _ _=>False) e s'->False) :
  PySem.W.WalkO q loose XP YP l.row.toRowW d [] (λf vs=>PySem.call f vs):=by
 refine Att.Ui hn hdf λw s₀ s₁ mg mb fa o pm cd doc a vs ns G Y ho hd hcd hmg hobj hints hlen hg=>?_;have KX:=hY w _ Y;obtain⟨fd,hb,hF⟩:=F w mg fa _ KX G.T.g hmg;exact Zg KX G.T.g G.T.b G.T.builtins G.T.nolimit hg hobj hints (QbV hlen hn2) hr hF hb (λH hO hS=>hsp w H a ns hlen hO hS) λH e s'=>hCX w H s₁ e s'
def inClass (s:Stmt) (j:Nat):Stmt:=match s with
 | .ClassDef _ _ _ body _ _ _ _ _ _ _=>body.getD j (.Pass ⟨0,0,0,0⟩)
 | _=>.Pass ⟨0,0,0,0⟩
def Dd (s:Stmt):Arguments:=match s with
 | .FunctionDef _ a _ _ _ _ _ _ _ _=>a
 | _=>{ posonlyargs:=[],args:=[],vararg:=none,kwonlyargs:=[],kw_defaults:=[],kwarg:=none,defaults:=[] }
def Cv (s:Stmt):List Stmt:=match s with
 | .FunctionDef _ _ b _ _ _ _ _ _ _=>b
 | _=>[]
def Ai (s:Stmt):Scope:=match s with
 | .FunctionDef _ _ _ _ _ _ sc _ _ _=>sc
 | _=>{ kind:=.function,names:=[],isGenerator:=false,isCoroutine:=false }
abbrev CX0:CXT:=λ_ _ _ _ _ _=>False
abbrev E0:XK:=λ_ _ _=>False
theorem QX {X:Cx}:Passes CX0 X E0:=λ_ _ _ _ _ _ _ h=>h.elim
structure Fun (K:YD) (x qual:Str) (st:Stmt) (f:Addr) (fd:FuncData):Prop where
 ex:∃(oc:Value) (od:Option Addr) (kV doc pm:Value) (an:Option Addr) (cdv ct:Value) (osl:YI),
  fd=fnOf x qual (Dd st) (Cv st) (Ai st) .none kV doc pm an cdv ct/\K.lookup f=some ⟨oc,od,.func fd,osl⟩/\codeIn K cdv qual=true
 kp:keepIn K (.ref f)=true
section
variable {P:Program} {w:World} {K:YD} {mg:YB} {base:Heap}
theorem Fun.ok {x qual:Str} {st:Stmt} {f:Addr} {fd:FuncData} {N ps:YF} {k:Nat} {sp:Sp} (F:Fun K x qual st f fd) (S:Bo N ps (Ai st)) (len:∀vs H Q E,sp vs H Q E->vs.length=ps.length)
  (hbody:∀(cdv:Value) (A:Around) (outer:List Env) (s:Shared) (H:Hp) (vs:YG) (Q:VK) (E:XK),Cq k (A.deeper (envOfC qual (Ai st) s.heap.objs.size f cdv))->sp vs H Q E ->
   ∃t,PSs (LC CX0 P w K mg base N qual (Ai st) f cdv A outer s H E).nox (Cv st) t/\t { nx:=λ_ H'=>Q .non H',rt:=Q } (start N vs) H):Ed P w K mg base CX0 (k+1) f fd ps sp:=by
 obtain⟨oc,od,kV,doc,pm,an,cdv,ct,osl,rfl,lk,hcd⟩:=F.ex;refine jm lk hcd S len λA outer s H vs Q E hr hsp=>?_;obtain⟨t,h,q⟩:=hbody cdv A outer s H vs Q E hr hsp;exact⟨t,h.nox,q⟩
theorem Fun.binds {x qual:Str} {st:Stmt} {f:Addr} {fd:FuncData} {ps:YF} (F:Fun K x qual st f fd)
  (h:∀(kV doc pm:Value) (an:Option Addr) (cdv ct:Value) (us:YE),us.length=ps.length->bindArgs (fnOf x qual (Dd st) (Cv st) (Ai st) .none kV doc pm an cdv ct) ⟨us,[]⟩=pure (ps.zip us)):Binds K fd ps []:=by
 obtain⟨oc,od,kV,doc,pm,an,cdv,ct,osl,rfl,lk,hcd⟩:=F.ex;exact .all (h kV doc pm an cdv ct)
theorem Oh {x qual:Str} {st:Stmt} {f:Addr} {oc:Value} {od an:Option Addr} {osl:YI} {kV doc pm cdv ct:Value} (l:K.lookup f=some ⟨oc,od,.func (fnOf x qual (Dd st) (Cv st) (Ai st) .none kV doc pm an cdv ct),osl⟩)
  (c:codeIn K cdv qual=true) (k:keepIn K (.ref f)=true):Fun K x qual st f (fnOf x qual (Dd st) (Cv st) (Ai st) .none kV doc pm an cdv ct):=⟨⟨oc,od,kV,doc,pm,an,cdv,ct,osl,rq,l,c⟩,k⟩
end
theorem Bq {n:Nat} (h:n<=1000):n < sizeLine:=Nat.lt_of_le_of_lt h (by decide)
section
variable {X:Cx}
theorem pv (i:Nat) {x:Str} {pos:Pos} (hN:X.N[i]?=some x:=by rfl) (hv:Vis X.env.scope x:=by first | exact Or.inl rfl | exact Or.inr (Or.inl rfl) | exact Or.inr (Or.inr rfl)) (hd:(x == ("__debug__":Str))=false:=by decide)
  (hcd:(x == ("__classdict__":Str))=false:=by decide):PE X (.Name x pos) (cP i):=Xj hN hv hd hcd
end
theorem Bu {A B:Prop} (h:B):if false=true then A else B:=by
 rw[if_neg QaG];exact h
theorem Bj {A B:Prop} (h:A):if true=true then A else B:=by
 rw[if_pos rfl];exact h
theorem V6 {c A B:Prop} [Decidable c] (h1:c->A) (h2:¬c->B):if c then A else B:=by
 by_cases h:c
 ·rw[if_pos h];exact h1 h
 ·rw[if_neg h];exact h2 h
def Same (H H':Hp):Prop:=∀b o,H b=some o->H' b=some o
theorem Same.refl (H:Hp):Same H H:=λ_ _ h=>h
theorem Same.trans {H H1 H2:Hp} (a:Same H H1) (b:Same H1 H2):Same H H2:=λc o h=>b c o (a c o h)
theorem Same.free {H H':Hp} (e:Same H H') {l:Addr} (h:H' l=Option.none):H l=Option.none:=by
 cases q:H l with
 | none=>rfl
 | some o=>
  rw[e l o q] at h;cases h
theorem Same.seq {K:YD} {H H':Hp} {a:Addr} {xs:YG} (e:Same H H') (h:SqL K H a xs):SqL K H' a xs:=by
 rcases h with (h |⟨o,h⟩) | h
 ·exact .inl (.inl (e _ _ h))
 ·exact .inl (.inr ⟨o,e _ _ h⟩)
 ·exact .inr h
def Em (env:Env):List (Str×NameKind)->List (Str×Addr)->List (Str×Addr)
 | [],cs=>cs
 | (n,k)::r,cs=>Em env r (if (k == .free)=true then (match env.cells.lookup n with | some c=>(n,c)::cs | none=>cs) else cs)
theorem Tr {env:Env}:∀(names:List (Str×NameKind)) (cs:List (Str×Addr)),(∀p∈names,p.2=.free->∃c,env.cells.lookup p.1=some c) ->
  (forIn names cs λ(p:Str×NameKind) (r:List (Str×Addr))=>(if (p.2 == .free)=true then do
    let c <-cellOf env p.1
    pure (ForInStep.yield ((p.1,c)::r))
   else pure (ForInStep.yield r):Sem (ForInStep (List (Str×Addr)))))=pure (Em env names cs)
 | [],cs,_=>rfl
 | (n,k)::rest,cs,h=>by
  have ih:=λcs'=>Tr rest cs' λp hp=>h p (Qav _ hp);rw[List.forIn_cons];cases hk:(k == NameKind.free) with
  | true=>
   obtain⟨c,hc⟩:=h (n,k) QaI (eq_of_beq hk);have e1:cellOf env n=pure c:=by unfold cellOf;rw[hc]
   have e2:Em env ((n,k)::rest) cs=Em env rest ((n,c)::cs):=by simp only[Em,hk,if_true,hc]
   rw[e2,<-ih];simp only[hk,if_true,e1,pure_bind]
  | false=>
   have e2:Em env ((n,k)::rest) cs=Em env rest cs:=by simp only[Em,hk,QaL,Qci]
   rw[e2,<-ih];simp only[hk,QaL,Qci,pure_bind]
theorem Wq {env:Env} {scope:Scope} (h:∀p∈scope.names,p.2=.free->∃c,env.cells.lookup p.1=some c):closureFor scope env=pure (Em env scope.names []):=by
 have e:=Tr (env:=env) scope.names [] h;unfold closureFor;simp only[bind_pure];exact e
theorem Tq {env:Env}:∀(names:List (Str×NameKind)) (cs:List (Str×Addr)),(∀x c,cs.lookup x=some c->env.cells.lookup x=some c) ->
  ∀x c,(Em env names cs).lookup x=some c->env.cells.lookup x=some c
 | [],cs,h,x,c,e=>h x c e
 | (n,k)::rest,cs,h,x,c,e=>by
  refine Tq rest _ (λy d z=>?_) x c e;split at z
  ·split at z
   ·rename_i c' hc';rw[List.lookup_cons] at z;cases q:y == n with
    | true=>rw[q] at z;cases z;rw[eq_of_beq q];exact hc'
    | false=>rw[q] at z;exact h y d z
   ·exact h y d z
  ·exact h y d z
theorem Nq {env:Env}:∀(names:List (Str×NameKind)) (cs:List (Str×Addr)) (x:Str),((cs.lookup x).isSome=true\/((x,NameKind.free)∈names/\∃c,env.cells.lookup x=some c)) ->
  ∃c,(Em env names cs).lookup x=some c
 | [],cs,x,h=>by
  rcases h with h |⟨h,_⟩
  ·exact Option.isSome_iff_exists.mp h
  ·cases h
 | (n,k)::rest,cs,x,h=>by
  refine Nq rest _ x ?_;have grow:(cs.lookup x).isSome=true->(List.lookup x (if (k == .free)=true then (match env.cells.lookup n with | some c=>(n,c)::cs | none=>cs) else cs)).isSome=true:=λz=>by
   split
   ·split
    ·rw[List.lookup_cons];cases x == n with
     | true=>rfl
     | false=>exact z
    ·exact z
   ·exact z
  rcases h with h |⟨h,c,hc⟩
  ·exact .inl (grow h)
  ·rcases QbK.mp h with z | z
   ·cases z;refine .inl ?_;simp[hc,List.lookup_cons]
   ·exact .inr ⟨z,c,hc⟩
def Jh (env:Env) (n:Str) (k:NameKind):NameKind:=if (k == .free&&env.scope.kind == .function&&env.kindOf n == some .cell)=true then .cell else k
theorem Oa (env:Env):∀(l:List (Str×NameKind)) (x:Str),
  (l.map λ(n,k)=>if (k == NameKind.free&&env.scope.kind == .function&&env.kindOf n == some .cell) then (n,NameKind.cell) else (n,k)).lookup x=(l.lookup x).map (Jh env x)
 | [],_=>rfl
 | (n,k)::r,x=>by
  have ih:=Oa env r x;have e:(if (k == NameKind.free&&env.scope.kind == .function&&env.kindOf n == some .cell)=true then (n,NameKind.cell) else (n,k))=(n,Jh env n k):=by
   unfold Jh;split <;> rfl
  rw[QbM];show List.lookup x ((if (k == NameKind.free&&env.scope.kind == .function&&env.kindOf n == some .cell)=true then (n,NameKind.cell) else (n,k))::_)=_
  rw[e,List.lookup_cons,List.lookup_cons];cases q:x == n with
  | true=>rw[eq_of_beq q];rfl
  | false=>exact ih
theorem Yz {env:Env} {n:Str} {k:NameKind} (h:Jh env n k=.cell\/Jh env n k=.free):k=.cell\/k=.free:=by
 unfold Jh at h;split at h
 ·rename_i q;simp only[Qbg] at q;exact .inr (eq_of_beq q.1.1)
 ·exact h
theorem Yb {prog:Program} {w:World} {A:Around} {R:Result->Shared->Prop} {s:Shared} {elt target iter:Expr} {ifs:YJ} {scope:Scope} {pos:Pos} {it acc:Value} {env:Env} (J:Nat->Shared->Prop)
  (turn:∀n s,J n s->wpAny (model prog w) A (pyNext it) (λr s1=>match r with
   | none=>R (.ok .next) s1
   | some v=>wpAny (model prog w) A (letOwnedTupleGo target it v) (λ_ s2=>wpAny (model prog w) A (assign target env v) (λ_ s3=>
     wpAny (model prog w) A (forIn ifs true λc r=>if r=true then do let ok <-isTrue c env (eval c env);pure (ForInStep.yield ok) else pure (ForInStep.yield r)) (λok s4=>
      if ok=true then wpAny (model prog w) A (eval elt env) (λx s5=>wpAny (model prog w) A (call (.builtin "list.append") [acc,x]) (λ_ s6=>∃m,m < n/\J m s6) (λ_ _=>False) s5) (λ_ _=>False) s4
      else ∃m,m < n/\J m s4) (λ_ _=>False) s3) (λ_ _=>False) s2) (λ_ _=>False) s1) (λ_ _=>False) s)
  (n:Nat) (h:J n s):codeAny (model prog w) A (.compLoop (.ListComp elt [⟨target,iter,ifs,0⟩] scope pos) 0 it acc env) R s:=by
 refine codeAny_loop rfl J (λk s' hk=>?_) n h;show wpAny _ A (Sem.onRaise (compTurn (.ListComp elt [⟨target,iter,ifs,0⟩] scope pos) 0 it acc env) (λx=>do noteFrame x env;theTreesLotGoes x)) _ _ s'
 refine wpAny_noted ?_;rw[compTurn_list];refine Qcc (wpAny_standAt (Qcc (Qce (turn k s' hk) (λr s1 q1=>?_) λ_ _ f=>f.elim)));cases r with
 | none=>exact Qcd q1
 | some v=>
  refine Qcc (Qce q1 (λ_ s2 q2=>Qcc (Qce q2 (λ_ s3 q3=>Qcc (Qce q3 (λok s4 q4=>?_) λ_ _ f=>f.elim)) λ_ _ f=>f.elim)) λ_ _ f=>f.elim);cases ok with
  | false=>exact Qcd ⟨rfl,q4⟩
  | true=>exact Qcc (Qcc (Qce q4 (λx s5 q5=>Qcc (Qce q5 (λ_ s6 q6=>Qcd (Qcd ⟨rfl,q6⟩)) λ_ _ f=>f.elim)) λ_ _ f=>f.elim))
def cxC (X:Cx) (N':YF) (scope:Scope) (s3:Shared) (H3:Hp) (fp:List Addr) (pn:YC):Cx where
 prog:=X.prog
 w:=X.w
 K:=X.K
 mg:=X.mg
 base:=X.base
 A:=X.A
 N:=N'
 s₀:=s3
 H₀:=H3
 env:=compEnvC scope (Em X.env scope.names []) s3.heap.objs.size X.env
 outer:=X.stack
 stack:=X.stack
 ex:=fp
 fn:=λ_=>false
 calm:=X.calm
 pn:=pn
 xe:=λ_ _=>False
structure Ca (X:Cx) (N':YF) (src:List (Option Nat)) (sc:Scope):Prop where
 kind:sc.kind=.function
 HS:∀y∈sc.names,y.2≠.cell
 loc:∀y∈sc.names,y.2=.local->sc.names.lookup y.1=some .local
 fv:∀y∈sc.names,y.2=.free->X.env.kindOf y.1=some .cell\/X.env.kindOf y.1=some .free
 len:src.length=N'.length
 src:∀(i:Nat) (x:Str) (j:Nat),N'[i]?=some x->src[i]?=some (some j)->X.N[j]?=some x/\sc.names.lookup x=some .free
def JZ (src:List (Option Nat)) (σ : St):St:=src.map λo=>match o with | none=>none | some j=>(σ[j]?).join
def PF (X:Cx) (ifs:YJ) (t:TT):Prop:=
 ∀(jb:YC) (s:Shared) (σ : St) (H:Hp) (Q:Bool->Hp->Prop),Inv X jb σ H s->t σ H Q ->
  wpAny (model X.prog X.w) X.A (forIn ifs true λc r=>if r=true then do let ok <-isTrue c X.env (eval c X.env);pure (ForInStep.yield ok) else pure (ForInStep.yield r)) (TP X jb σ Q) X.xe s
theorem DX {X:Cx}:PF X [] (λ_ H Q=>Q true H):=λ_ _ _ H _ I h=>wpAny_tests_nil ⟨H,I,h⟩
theorem NQ {X:Cx} {c:Expr} {t:TT} (hc:PT X c t):PF X [c] t:=λjb s σ H Q I h=>wpAny_tests_one (hc jb s σ H Q I h)
theorem Un.ahead {fs ex:List Addr} {H H':Hp} {h h1 h':Heap} (u:Un fs ex H H' h h1) (k:∀b o,b < h.objs.size->h1.get? b=some o->h'.get? b=some o):Un fs ex H H' h h' where
 keep:=λb o e n hb hx=>k b o (QbT e) (u.keep b o e n hb hx)
 slot:=λb o e n hb hx=>by
  obtain⟨sl,q⟩:=u.slot b o e n hb hx;exact⟨sl,k b _ (QbT e) q⟩
 free:=u.free
 there:=λb o e hx=>by
  obtain⟨o',q⟩:=u.there b o e hx;exact⟨o',k b _ (QbT e) q⟩
 tups:=u.tups
 Gw:=u.Gw
 GJ:=u.GJ
section
variable {X:Cx} {N':YF} {src:List (Option Nat)} {sc:Scope} {jb:YC} {σ : St} {H:Hp} {s3:Shared} {fp:List Addr} {h1:Heap} {tk:Nat}
theorem Zy (S:Ca X N' src sc) (I:Inv X jb σ H s3) (hf:∀b∈fp,Hr X jb H b) (ht:∀b∈fp,b < s3.heap.objs.size)
  (ns:h1.Ns s3.heap.objs.size λ_=>none) (kp:∀b o,s3.heap.get? b=some o->h1.get? b=some o) :
  Inv (cxC X N' sc s3 H fp (X.pn++jb)) [] (JZ src σ) H { s3 with heap:=h1,toks:=tk }:=by
 have hcl:∀x c,(Em X.env sc.names []).lookup x=some c->X.env.cells.lookup x=some c:=Tq sc.names [] λx c e=>by cases e
 have old:∀x c,(Em X.env sc.names []).lookup x=some c->∃o,s3.heap.get? c=some o:=λx c e=>by
  obtain⟨v,o,ho,_⟩:=I.cell x c (hcl x c e);exact⟨o,ho⟩
 have fvh:∀x,(x,NameKind.free)∈sc.names->∃c,X.env.cells.lookup x=some c:=λx hx=>I.ok.has x (S.fv _ hx rfl);have cU:∀b,b≠X.env.locals->b∉X.fs->b∉frs X.stack:=λb h1 h2 hb=>(QbK.mp (I.Rb b hb)).elim h1 h2;have kindOf_eq:∀x,(compEnvC sc (Em X.env sc.names []) s3.heap.objs.size X.env).kindOf x=(sc.names.lookup x).map (Jh X.env x):=λx=>Oa X.env sc.names x;refine⟨⟨I.ok.mod,S.kind,I.ok.glob,I.ok.blt,QbZ _,λx y c e1 e2=>I.ok.inj x y c (hcl x c e1) (hcl y c e2),λx hx=>?_,λx c hf=>absurd hf QaG,I.ok.hd,I.ok.frames,.inl rfl,λb hb=>?_,I.bs,QbV I.ok.bsz I.sz,
  λb o e hb=>?_,λb hb=>?_,I.stack,I.Oq⟩,rq,I.bare,Un.kept kp,⟨_,ns,λi x v e1 e2 e3=>?_⟩,λx c e=>?_,I.hok.fresh (QbZ _),λx c e=>I.Gu x c (hcl x c e),λp hp=>?_,I.hok.kept kp,?_⟩
 ·
  have hx':(sc.names.lookup x).map (Jh X.env x)=some .cell\/(sc.names.lookup x).map (Jh X.env x)=some .free:=by
   rw[<-kindOf_eq x];exact hx
  cases q:sc.names.lookup x with
  | none=>rw[q] at hx';rcases hx' with z | z <;> cases z
  | some k=>
   rw[q] at hx';have hk:k=.cell\/k=.free:=Yz (env:=X.env) (n:=x) (hx'.imp (λz=>Qbv z) λz=>Qbv z);have hm:=QaC q;rcases hk with rfl | rfl
   ·exact absurd rfl (S.HS _ hm)
   ·exact Nq sc.names [] x (.inr ⟨hm,fvh x hm⟩)
 ·
  obtain⟨f0,f1,f2,f3,f4,f5⟩:=hf b hb;exact⟨QbU (ht b hb),λx c e=>f4 x c (hcl x c e)⟩
 ·
  obtain⟨f0,f1,f2,f3,f4,f5⟩:=hf b hb;rcases f3 with z | z
  ·exact I.ok.Pa b o e z
  ·exact absurd (QaH (QbT e) (QbV I.ok.bsz z)) (QbO _)
 ·
  obtain⟨f0,f1,f2,f3,f4,f5⟩:=hf b hb;exact cU b f1 f2
 ·
  have e2':(JZ src σ)[i]?=some (some v):=e2;unfold JZ at e2';rw[QaU] at e2';cases q:src[i]? with
  | none=>rw[q] at e2';cases e2'
  | some oj=>
   rw[q] at e2';cases oj with
   | none=>cases e2'
   | some j=>
    have e4:(σ[j]?).join=some v:=Qbv e2';have e5:σ[j]?=some (some v):=by
     cases r:σ[j]? with
     | none=>rw[r] at e4;cases e4
     | some z=>rw[r] at e4;cases z with
      | none=>cases e4
      | some y=>cases e4;rfl
    obtain⟨hN,hfr⟩:=S.src i x j e1 q;have hm:=QaC hfr;have kx:=S.fv _ hm rfl;obtain⟨m,hn,hl⟩:=I.loc;obtain⟨u,r,l⟩:=hl j x v hN e5 (.inr kx);refine⟨u,r,?_⟩;rcases l with⟨k1,_⟩|⟨_,c,hc,hcell⟩
    ·rcases kx with z | z <;> (rw[z] at k1;cases k1)
    ·obtain⟨c',hc'⟩:=Nq (env:=X.env) sc.names [] x (.inr ⟨hm,c,hc⟩);have e6:c'=c:=by
      have:=hcl x c' hc';rw[hc] at this;exact (Qbv this).symm
     subst e6;refine .inr ⟨?_,c',hc',?_⟩
     ·have:(compEnvC sc (Em X.env sc.names []) s3.heap.objs.size X.env).kindOf x=some (Jh X.env x .free):=by rw[kindOf_eq x,hfr];rfl
      show (compEnvC sc (Em X.env sc.names []) s3.heap.objs.size X.env).kindOf x=some .cell\/(compEnvC sc (Em X.env sc.names []) s3.heap.objs.size X.env).kindOf x=some .free;rw[this];unfold Jh;split
      ·exact .inl rfl
      ·exact .inr rfl
     ·obtain⟨o,ho,hd⟩:=hcell;exact⟨o,kp _ o ho,hd⟩
 ·
  obtain⟨v,o,ho,hd⟩:=I.cell x c (hcl x c e);exact⟨v,o,kp _ o ho,hd⟩
 ·
  have hp':p∈X.pn++jb:=(Qbx.mp hp).elim id λz=>by cases z
  obtain⟨a1,a2,a3,a4,a5⟩:=I.pin p hp';exact⟨kp _ _ a1,a2,QbU (QbT a1),cU p.1 a3 a4,a5⟩
 ·show (JZ src σ).length=N'.length;unfold JZ;rw[Qbs];exact S.len
theorem X6 {s1:Shared} {σ':St} {H':Hp} {h':Heap} (I:Inv X jb σ H s3) (hf:∀b∈fp,Hr X jb H b) (I':Inv (cxC X N' sc s3 H fp (X.pn++jb)) [] σ' H' s1)
  (sb:Heap.SameBut s3.heap.objs.size s1.heap h'):Inv X jb σ H' { s1 with heap:=h' }:=by
 have fr:H' s3.heap.objs.size=none:=I'.free;refine I.call' (s':={ s1 with heap:=h' }) (ch:=fp) I'.os ?_ ?_ I'.bare λb hb=>?_
 ·exact Un.ahead (h:=s3.heap) (h1:=s1.heap) I'.base λb o hb e=>sb.extBut b o (QbU hb) e
 ·exact λb u e=>(I'.hok b u e).stay (λc v hc q=>sb.extBut c v (by
   intro z;rcases hc with y | y
   ·rw[<-y,z,fr] at e;cases e
   ·rw[z,fr] at y;cases y) q) (λ_ q=>q) λ_ _ q=>q
 ·obtain⟨f0,f1,f2,f3,f4,f5⟩:=hf b hb;exact⟨f3,f1,f4,λp hp=>f5 p hp⟩
end
@[irreducible] def Ef (J:It) (g:TG) (tt:TT) (te:TE) (Q:VK) (σ0:St) (H0:Hp) (l:Addr):Prop:=∃W:Nat->YN,(∃m,W 0 m σ0 H0) /\
 ∀i m σ' H',W i m σ' H'->(J.stop i H'/\Q (.ref l) H')\/(J.go i H'/\∃N:YO,(∀ σ3 H3,N σ3 H3->∃m',m' < m/\W (i+1) m' σ3 H3)/\∀x H2,J.yld i H' x H2->g x σ' H2 fun σ3 H3=>tt σ3 H3 λb H4=>
  if b=true then te σ3 H4 λy H5=>∃xs,H5 l=some (.lst xs)/\xs.length < sizeLine/\N σ3 (upd H5 l (.lst (xs++[y]))) else N σ3 H4)
def Vr (wi:TI) (src:List (Option Nat)) (g:TG) (tt:TT) (te:TE):TE:=fun σ H Q=>wi σ H λJ H1=>∀l,H1 l=none->Ef J g tt te Q (JZ src σ) (upd H1 l (.lst [])) l
theorem Qo {X:Cx} {N':YF} {src:List (Option Nat)} {sc:Scope} {elt tg iter:Expr} {ifs:YJ} {pos pos':Pos} {wi:TI} {g:TG} {tt:TT} {te:TE} {use:Option (Value->Sem Unit)} {R:YA} (hc:X.calm=true) (S:Ca X N' src sc)
  (hi:PI X tg iter wi) (hg:∀s3 H3 fp pn,PG (cxC X N' sc s3 H3 fp pn) tg g) (ht:∀s3 H3 fp pn,PF (cxC X N' sc s3 H3 fp pn) ifs tt) (he:∀s3 H3 fp pn,PE (cxC X N' sc s3 H3 fp pn) elt te)
  (hs:∀x,foldedSetIterable iter X.env x=pure x) {jb:YC} {s:Shared} {σ : St} {H:Hp} {Q:VK} (I:Inv X jb σ H s) (h:Vr wi src g tt te σ H Q)
  (fin:∀s3 H3 fp σ4 H4 s5 l,Inv X jb σ H3 s3->(∀b∈fp,Hr X jb H3 b)->Inv (cxC X N' sc s3 H3 fp (X.pn++jb)) [] σ4 H4 s5->Q (.ref l) H4 ->
   compPost (model X.prog X.w) X.A X.xe use R (.ref l) s3.heap.objs.size (.ok .next) s5) :
  wpAny (model X.prog X.w) X.A (comprehension (.ListComp elt [⟨tg,iter,ifs,0⟩] sc pos) sc X.env pos' (newList []) false (eval iter X.env) use) R X.xe s:=by
 refine wpAny_comprehension_free (use:=use) (cl:=Em X.env sc.names []) rfl hs (Wq λp hp e=>I.ok.has p.1 (S.fv p hp e)) S.kind S.loc ?_;refine thn (hi jb s σ H _ I h) λv s1 h1=>thn h1 λitv s2 h2=>?_;obtain⟨it,fp,tn,J,H2,rfl,I2,T,st2,f2,q⟩:=h2;have q':=q s2.heap.objs.size (I2.hok.fresh (QbZ _));unfold Ef at q';obtain⟨W,⟨m0,w0⟩,turn⟩:=q';refine Qbb (wpAny_newFunctionEnv S.HS (by intro y hy;simp at hy) (λha hns hsb=>?_) S.kind);have I3:Inv X jb σ (upd H2 s2.heap.objs.size (.lst [])) { s2 with heap:=s2.heap.push { cls:=.type "list",dict:=none,data:=.seq ([]:YE).toArray } }:=
  I2.laid (t':=s2.toks) (λb u e=>Qam _ e) (QbZ _) ⟨Qca _,[],0,.nil,Qaz _ rfl⟩
 have hfl:∀b∈fp,b < s2.heap.objs.size:=λb hb=>by
  obtain⟨o,e,_⟩:=T.obj 0 _ st2 b hb;exact QbT e
 have f3:∀b∈fp,Hr X jb (upd H2 s2.heap.objs.size (.lst [])) b:=λb hb=>⟨by rw[Bp (QbU (hfl b hb))];exact (f2 b hb).1,(f2 b hb).2⟩;generalize hs3:({ s2 with heap:=s2.heap.push { cls:=.type "list",dict:=none,data:=.seq ([]:YE).toArray } }:Shared)=s3 at *;have hsz:s2.heap.objs.size < s3.heap.objs.size:=by rw[<-hs3];show s2.heap.objs.size < (s2.heap.push _).objs.size;rw[QbG];exact Qbp _
 have kp:∀b o,s3.heap.get? b=some o->ha.get? b=some o:=λb o e=>hsb.extBut b o (QbU (QbT e)) (Qam _ e);have st3:tn 0 ha:=T.keep 0 _ _ st2 λb hb o e=>kp b o (by rw[<-hs3];exact Qam _ e);have I4:Inv (cxC X N' sc s3 (upd H2 s2.heap.objs.size (.lst [])) fp (X.pn++jb)) [] (JZ src σ) (upd H2 s2.heap.objs.size (.lst [])) { s3 with heap:=ha,toks:=s3.toks+([]:List (Str×Value)).length }:=
  Zy S I3 f3 (λb hb=>Nat.lt_trans (hfl b hb) hsz) hns kp
 have loop:codeAny (model X.prog X.w) X.A (.compLoop (.ListComp elt [⟨tg,iter,ifs,0⟩] sc pos) 0 (.ref it) (.ref s2.heap.objs.size) (compEnvC sc (Em X.env sc.names []) s3.heap.objs.size X.env))
   (compPost (model X.prog X.w) X.A X.xe use R (.ref s2.heap.objs.size) s3.heap.objs.size) { s3 with heap:=ha,toks:=s3.toks+([]:List (Str×Value)).length }:=by
  refine Yb (λn s'=>∃i σ' H',Inv (cxC X N' sc s3 (upd H2 s2.heap.objs.size (.lst [])) fp (X.pn++jb)) [] σ' H' s'/\tn i s'.heap/\(∀b∈fp,H' b=none)/\W i n σ' H') ?_ m0 ⟨0,_,_,I4,st3,λb hb=>(f3 b hb).1,w0⟩;rintro n s4 ⟨i,σ4,H4,J4,st4,fr4,w4⟩;have stat:∀{H':Hp},(∀b∈fp,H' b=none)->∀b∈fp,Hr (cxC X N' sc s3 (upd H2 s2.heap.objs.size (.lst [])) fp (X.pn++jb)) [] H' b:=λhn b hb=>
   ⟨hn b hb,(I4.ok.exf b hb).1,I4.ok.PX b hb,.inl hb,λx c e=>(I4.ok.exf b hb).2 x c e,λp hp=>(f3 b hb).2.2.2.2.2 p ((Qbx.mp hp).elim id λz=>by cases z)⟩
  rcases turn i n σ4 H4 w4 with⟨stop,qn⟩|⟨go,N,hN,step⟩
  ·refine thn (T.done (cxC X N' sc s3 (upd H2 s2.heap.objs.size (.lst [])) fp (X.pn++jb)) rfl rfl rfl hc i [] s4 σ4 H4 _ J4 (stat fr4) st4 stop) λr s5 zz=>?_;obtain⟨hr,J5⟩:=zz;subst hr;exact fin s3 _ fp σ4 H4 s5 _ I3 f3 J5 qn
  ·refine thn (T.item (cxC X N' sc s3 (upd H2 s2.heap.objs.size (.lst [])) fp (X.pn++jb)) rfl rfl rfl hc i [] s4 σ4 H4 _ J4 (stat fr4) st4 go) λr s5 zz=>?_;obtain⟨u,hr,h5⟩:=zz;subst hr;refine thn h5 λ_ s6 zz=>?_;obtain⟨x,H6,J6,r6,y6,st6,fr6⟩:=zz;have J6':=J6.pinned (stat fr6) (T.obj _ _ st6);have back:∀{pl:YC} {σ7:St} {H7:Hp} {s7:Shared},Inv (cxC X N' sc s3 (upd H2 s2.heap.objs.size (.lst [])) fp (X.pn++jb)) ([]++Lj fp s6.heap) σ7 H7 s7->N σ7 H7 ->
     ∃m',m' < n/\∃i σ' H',Inv (cxC X N' sc s3 (upd H2 s2.heap.objs.size (.lst [])) fp (X.pn++jb)) [] σ' H' s7/\tn i s7.heap/\(∀b∈fp,H' b=none)/\W i m' σ' H':=λ{pl σ7 H7 s7} J7 w7=>by
    obtain⟨m',hm,w7⟩:=hN _ _ w7;have pinned:∀b∈fp,∀o,s6.heap.get? b=some o->s7.heap.get? b=some o/\H7 b=none:=λb hb o e=>by
     have:=J7.pin (b,o) (Qap _ (Qap _ (Km hb e)));exact⟨this.1,this.2.1⟩
    refine⟨m',hm,i+1,σ7,H7,J7.IV,T.keep _ _ _ st6 λb hb o e=>(pinned b hb o e).1,λb hb=>?_,w7⟩;obtain⟨o,e,_⟩:=T.obj _ _ st6 b hb;exact (pinned b hb o e).2
   refine thn (hg s3 _ fp _ _ s6 σ4 H6 x u _ J6' r6 (step x H6 y6)) λ_ s7 zz=>?_;obtain⟨σ7,H7,J7,q7⟩:=zz;refine thn (ht s3 _ fp _ _ s7 σ7 H7 _ J7 q7) λok s8 zz=>?_;obtain⟨H8,J8,q8⟩:=zz;cases ok with
   | false=>
    rw[if_neg QaG] at q8 ⊢;exact back (pl:=[]) J8 q8
   | true=>
    rw[if_pos rfl] at q8 ⊢;refine thn (he s3 _ fp _ _ s8 σ7 H8 _ J8 q8) λy s9 zz=>?_;obtain⟨yv,H9,J9,r9,xs,hl9,hz9,q9⟩:=zz;refine thn (Js _ s9 σ7 H9 (.ref s2.heap.objs.size) [yv] (.ref s2.heap.objs.size) [y] (λ_ H'=>N σ7 H') J9 rfl (.cons r9 .nil) ⟨_,xs,yv,rq,rq,hl9,hz9,q9⟩) λ_ s10 zz=>?_;obtain⟨_,H10,J10,_,q10⟩:=zz;exact back (pl:=[]) J10 q10
 exact codeAny_compStart_list loop (T.self X.A 0 _ _ _ st3 loop)
theorem CP {X:Cx} {N':YF} {src:List (Option Nat)} {sc:Scope} {elt tg iter:Expr} {ifs:YJ} {pos:Pos} {wi:TI} {g:TG} {tt:TT} {te:TE} (hc:X.calm=true) (S:Ca X N' src sc)
  (hi:PI X tg iter wi) (hg:∀s3 H3 fp pn,PG (cxC X N' sc s3 H3 fp pn) tg g) (ht:∀s3 H3 fp pn,PF (cxC X N' sc s3 H3 fp pn) ifs tt) (he:∀s3 H3 fp pn,PE (cxC X N' sc s3 H3 fp pn) elt te)
  (hs:∀x,foldedSetIterable iter X.env x=pure x:=by intro _;rfl):PE X (.ListComp elt [⟨tg,iter,ifs,0⟩] sc pos) (Vr wi src g tt te):=by
 intro jb s σ H Q I h;rw[eval_ListComp];refine Qo (use:=none) hc S hi hg ht he hs I h λs3 H3 fp σ4 H4 s5 l I3 f3 J5 q=>?_;obtain⟨m,hn,_⟩:=J5.loc;exact⟨m,hn,λh' sb=>⟨.ref l,H4,X6 I3 f3 J5 sb,rq,q⟩⟩
theorem Uz {X:Cx} {N':YF} {src:List (Option Nat)} {sc:Scope} {elt tg iter:Expr} {ifs:YJ} {pos spos px:Pos} {wi:TI} {g:TG} {tt:TT} {te:TE} {i:Nat} {x:Str} (hN:X.N.Nodup) (hi0:X.N[i]?=some x) (hx:Loc X.env.scope x) (hc:X.calm=true) (S:Ca X N' src sc)
  (hi:PI X tg iter wi) (hg:∀s3 H3 fp pn,PG (cxC X N' sc s3 H3 fp pn) tg g) (ht:∀s3 H3 fp pn,PF (cxC X N' sc s3 H3 fp pn) ifs tt) (he:∀s3 H3 fp pn,PE (cxC X N' sc s3 H3 fp pn) elt te)
  (hsw:swapsWith (.ListComp elt [⟨tg,iter,ifs,0⟩] sc pos) (some (.Name x px)) spos.line X.env=pure true:=by rfl) (hs:∀x,foldedSetIterable iter X.env x=pure x:=by intro _;rfl)
  (hf:X.fn x=true\/X.env.scope.names.lookup x=some .local:=by first | exact .inl rfl | exact .inr rfl | assumption) :
  PS X (.Assign [.Name x px] (.ListComp elt [⟨tg,iter,ifs,0⟩] sc pos) spos) (Yp (Vr wi src g tt te) (Jt i)):=by
 intro jb s σ H D I h;rw[exec_Assign_Name_used _ _ _ _ hsw];refine Qcc (wpAny_standAt (Qcc ?_));show wpAny _ X.A (do let _ <-comprehension (.ListComp elt [⟨tg,iter,ifs,0⟩] sc pos) sc X.env _ (newList []) false (eval iter X.env) (some (assign (.Name x px) X.env))) _ _ s
 refine Qcc (thn (Qo (R:=λ_ s'=>SP X jb D .next s') hc S hi hg ht he hs I h λs3 H3 fp σ4 H4 s5 l I3 f3 J5 q=>?_) λ_ s' hq=>Qcd (Qcd hq));obtain⟨m,⟨oC,es,ep,hoC,r⟩,_⟩:=J5.loc;have I6:Inv X jb σ H4 { s5 with heap:=s5.heap }:=X6 I3 f3 J5 (Heap.SameBut.refl _ _);have hCn:H4 s3.heap.objs.size=none:=J5.free;have neL:s3.heap.objs.size≠X.env.locals:=QbX I3.lt;have jU:∀v,oC.data≠.cell v:=λv z=>by rw[r.1] at z;cases z
 have I7:Inv X (jb++[(s3.heap.objs.size,oC)]) σ H4 s5:=I6.O1 λp hp=>(Qbx.mp hp).elim (λz=>I6.pin p (Qap _ z)) λz=>by
  cases QaK.mp z;exact⟨hoC,hCn,neL,I3.eG (QbZ _),jU⟩
 show wpAny _ X.A (assign (.Name x px) X.env (.ref l)) _ _ s5;refine wpAny_assign_Name (MN (v:=.ref l) I7 hN hi0 hx rfl (λs6 I8=>?_) hf);have k8:=(I8.pin (s3.heap.objs.size,oC) (Qap _ (Qap _ (QaK.mpr rfl)))).1;refine⟨m,⟨oC,es,ep,k8,r⟩,λh' sb=>⟨_,H4,?_,q⟩⟩;have I9:=I8.IV;refine I9.turned (t':=s6.toks) (λb o hb e=>sb.extBut b o hb e) hCn neL (.inr I3.sz) (λy c e z=>?_) (λp hp z=>?_)
 ·obtain⟨v,o,ho,_⟩:=I3.cell y c e;exact absurd (QbT ho) (by rw[z];exact QbO _)
 ·have:=(I3.pin p hp).1;exact absurd (QbT this) (by rw[z];exact QbO _)
theorem Ca.of {X:Cx} {N':YF} {src:List (Option Nat)} {sc:Scope} (fsc:Scope) (N:YF) (hX:X.env.scope=fsc) (hN:X.N=N) (kind:sc.kind=.function) (HS:∀y∈sc.names,y.2≠.cell) (loc:∀y∈sc.names,y.2=.local->sc.names.lookup y.1=some .local)
  (fv:∀y∈sc.names,y.2=.free->fsc.names.lookup y.1=some .cell) (len:src.length=N'.length)
  (sr:((N'.zip src).all λp=>match p.2 with | none=>true | some j=>decide (N[j]?=some p.1)&&decide (sc.names.lookup p.1=some .free))=true):Ca X N' src sc where
 kind:=kind
 HS:=HS
 loc:=loc
 fv:=λy hy e=>.inl (by show X.env.scope.names.lookup y.1=some .cell;rw[hX];exact fv y hy e)
 len:=len
 src:=λi x j e1 e2=>by
  rw[Qbo] at sr;have hm:(x,some j)∈N'.zip src:=by
   refine Qau (i:=i) ?_;rw[List.getElem?_zip_eq_some];exact⟨e1,e2⟩
  have:=sr _ hm;simp only[Qbg,decide_eq_true_eq] at this;rw[hN];exact this
section
variable {X:Cx}
@[irreducible] def Ig (K:YD):YG->Hp->VK->Prop:=λxs H Q=>∃x T t b,xs=[x,.ty T]/\Ho K H x t/\kitOne K t (.type T)=some b/\Q (.bl b) H
theorem Gx:Ea X (.builtin "isinstance") (Ig X.K):=by
 intro jb s σ H xs us Q I r h;unfold Ig at h;obtain⟨x,T,t,b,rfl,ty,e,q⟩:=h;obtain⟨u,w',rfl,rx,rt⟩:=vals2 r;cases rt;exact Xw I rx ty e λtk=>⟨.bl b,H,I.tok tk,rq,q⟩
theorem Ug {K:YD}:kitOne K (.type "int") (.type "int")=some true:=by rfl
theorem Sy {K:YD}:kitOne K (.type "int") (.type "bool")=some false:=by rfl
theorem SJ {K:YD}:kitOne K (.type "bool") (.type "int")=some true:=by rfl
theorem QM {K:YD}:kitOne K (.type "bool") (.type "bool")=some true:=by rfl
theorem Sw {K:YD}:kitOne K (.type "NoneType") (.type "int")=some false:=by rfl
theorem Ue {K:YD}:kitOne K (.type "str") (.type "int")=some false:=by rfl
theorem Sx {K:YD}:kitOne K (.type "list") (.type "int")=some false:=by rfl
theorem QJ {K:YD}:kitOne K (.type "tuple") (.type "int")=some false:=by rfl
theorem Px {K:YD}:kitOne K (.type "NoneType") (.type "tuple")=some false:=by rfl
theorem Pz {K:YD}:kitOne K (.type "bool") (.type "tuple")=some false:=by rfl
theorem QL {K:YD}:kitOne K (.type "int") (.type "tuple")=some false:=by rfl
theorem QK {K:YD}:kitOne K (.type "str") (.type "tuple")=some false:=by rfl
theorem Py {K:YD}:kitOne K (.type "list") (.type "tuple")=some false:=by rfl
theorem Ob {K:YD}:kitOne K (.type "tuple") (.type "tuple")=some true:=by rfl
def Kn (H:Hp):V->Prop
 | .non=>True
 | .bl _=>True
 | .int _=>True
 | .str _=>True
 | .ref a=>(∃xs,H a=some (.lst xs))\/∃xs,H a=some (.tup xs)
 | _=>False
def isI:V->Bool
 | .int _=>true
 | .bl _=>true
 | _=>false
def isB:V->Bool
 | .bl _=>true
 | _=>false
def isW:V->Bool
 | .int _=>true
 | _=>false
def Ij (H:Hp):V->Option (YG)
 | .ref a=>match H a with
  | some (.tup xs)=>some xs
  | _=>none
 | _=>none
theorem IW {H:Hp} {a:Addr} {xs:YG} (h:H a=some (.tup xs)):Ij H (.ref a)=some xs:=by
 show (match H a with | some (.tup xs)=>some xs | _=>none)=some xs
 rw[h]
theorem Ld {H:Hp} {a:Addr} {xs:YG} (h:H a=some (.lst xs)):Ij H (.ref a)=none:=by
 show (match H a with | some (.tup xs)=>some xs | _=>none)=none
 rw[h]
theorem Y8 {H:Hp} {v:V} {xs:YG} (h:Ij H v=some xs):∃a,v=.ref a/\H a=some (.tup xs):=by
 cases v with
 | ref a=>
  refine⟨a,rq,?_⟩;have h':(match H a with | some (.tup xs)=>some xs | _=>none)=some xs:=h
  split at h'
  ·rename_i e;cases h';exact e
  ·cases h'
 | _=>cases h
theorem Kn.same {H H':Hp} {v:V} (s:Same H H') (k:Kn H v):Kn H' v:=by
 cases v with
 | ref a=>exact k.imp (λ⟨xs,e⟩=>⟨xs,s _ _ e⟩) λ⟨xs,e⟩=>⟨xs,s _ _ e⟩
 | _=>exact k
theorem bw {K:YD} {H:Hp} {x:V} {Q:VK} (k:Kn H x) (q:Q (.bl (isI x)) H):Ig K [x,.ty "int"] H Q:=by
 unfold Ig;cases x with
 | non=>exact⟨_,_,_,_,rfl,.non,Sw,q⟩
 | bl b=>exact⟨_,_,_,_,rfl,.bl b,SJ,q⟩
 | int i=>exact⟨_,_,_,_,rfl,.int i,Ug,q⟩
 | str z=>exact⟨_,_,_,_,rfl,.str z,Ue,q⟩
 | ref a=>
  rcases k with⟨xs,e⟩|⟨xs,e⟩
  ·exact⟨_,_,_,_,rq,.lst e,Sx,q⟩
  ·exact⟨_,_,_,_,rq,.tup e,QJ,q⟩
 | _=>exact k.elim
theorem S5 {K:YD} {H:Hp} {x:V} {Q:VK} (k:isI x=true) (q:Q (.bl (isB x)) H):Ig K [x,.ty "bool"] H Q:=by
 unfold Ig;cases x with
 | bl b=>exact⟨_,_,_,_,rfl,.bl b,QM,q⟩
 | int i=>exact⟨_,_,_,_,rfl,.int i,Sy,q⟩
 | _=>cases k
theorem Qm {K:YD} {H:Hp} {x:V} {Q:VK} (k:Kn H x) (q:Q (.bl (Ij H x).isSome) H):Ig K [x,.ty "tuple"] H Q:=by
 unfold Ig;cases x with
 | non=>exact⟨_,_,_,_,rfl,.non,Px,q⟩
 | bl b=>exact⟨_,_,_,_,rfl,.bl b,Pz,q⟩
 | int i=>exact⟨_,_,_,_,rfl,.int i,QL,q⟩
 | str z=>exact⟨_,_,_,_,rfl,.str z,QK,q⟩
 | ref a=>
  rcases k with⟨xs,e⟩|⟨xs,e⟩
  ·rw[Ld e] at q;exact⟨_,_,_,_,rq,.lst e,Py,q⟩
  ·rw[IW e] at q;exact⟨_,_,_,_,rq,.tup e,Ob,q⟩
 | _=>exact k.elim
theorem Nr:∀{bs:List Bool} {us:YE},Vals (bs.map V.bl) us->LSm.BoolsAre us bs
 | [],_,.nil=>.nil
 | b::r,_,.cons h t=>by
  cases (show _=Value.bool b from h)
  exact .cons b (Nr t)
theorem Gy (hc:X.calm=true):Ea X (.builtin "all") (λxs H Q=>∃(p:Addr) (bs:List Bool),xs=[.ref p]/\SqL X.K H p (bs.map V.bl)/\Q (.bl (bs.all id)) H):=by
 intro jb s σ H xs us Q I r h;obtain⟨p,bs,rfl,hq,q⟩:=h;obtain⟨u,rfl,rx⟩:=vals1 r;cases rx;obtain⟨its,rv,pl,hz⟩:=I.list hq;have hb:=Nr rv;have hl:=pl.isList;have hlt:p < s.heap.objs.size:=by obtain⟨_,e,_⟩:=hl;exact QbT e
 refine call_all_walk (Qba hl ?_);refine⟨s.heap.objs.size,[s.heap.objs.size,p],[s.heap.objs.size],its.toArray.size,_,_,λi=>(bs[i]?).getD true,rq,Walks.list (A:=X.A.in1) (I.ok.hd hc) _ p (QbU hlt) its.toArray,
  ⟨⟨_,Qaz _ rfl,rq,rq⟩,hl.push _⟩,λi v s' Q' E' hP hQ=>?_,λh' tk hk=>?_⟩
 ·obtain⟨b,e,rfl⟩:=hb.get i v (by simpa using hP);simp only[e,Option.getD_some] at hQ;exact QaW hQ
 ·have e:((List.range its.toArray.size).all λi=>(bs[i]?).getD true)=bs.all id:=by
   rw[QaT,hb.length];exact LSm.range_all bs
  rw[e];exact⟨.bl (bs.all id),H,I.kept (LSm.kept_iter hk),rq,q⟩
def dJ (K:YD):R2:=λx y H Q=>∃a b ys,x=.ref a/\y=.ref b/\SqT K H a []/\SqT K H b ys/\Q (.ref b) H
theorem Y0:OpR X (binaryOp .Add) (dJ X.K):=by
 intro jb s σ H x y v u Q I rx ry h;obtain⟨a,b,ys,rfl,rfl,ha,hb,q⟩:=h;cases rx;cases ry;obtain⟨its,r1,p1,_⟩:=I.tuple ha;obtain⟨its2,r2,p2,_⟩:=I.tuple hb;cases r1;obtain⟨⟨cls,dd,data,sl⟩,ho,hc,n,hd⟩:=id p1;obtain⟨⟨cls2,dd2,data2,sl2⟩,ho2,hc2,n2,hd2⟩:=id p2;simp only at hc hd hc2 hd2;subst hc hd hc2 hd2;exact concat_meets ⟨_,ho,rq⟩ ⟨_,ho2,rq⟩ noFill_tuple_add seq_tuple_add PySem.F.slot_tuple_add PySem.F.entry_tuple_add (PySem.F.args_tuple_add_2 _ _)
  (tuple_addW0 a b #[] its2.toArray n n2 dd dd2 sl sl2 rfl) ⟨ho,ho2,⟨.ref b,H,I,rq,q⟩⟩
theorem CZ:OpR X (binaryOp .Add) (λx y H Q=>∃a b xs ys,x=.ref a/\y=.ref b/\H a=some (.tup xs)/\H b=some (.tup ys)/\xs.length+ys.length<=sizeLine /\
  ∀p H',H' p=some (.tup (xs++ys))->Same H H'->Q (.ref p) H'):=by
 intro jb s σ H x y v u Q I rx ry h;obtain⟨a,b,xs,ys,rfl,rfl,ha,hb,hz,q⟩:=h;cases xs with
 | nil=>exact Y0 jb s σ H _ _ v u Q I rx ry ⟨a,b,ys,rfl,rfl,SqT.of ha,SqT.of hb,q b H hb (Same.refl H)⟩
 | cons x0 xr=>
  refine aV jb s σ H _ _ v u Q I rx ry ⟨a,b,x0::xr,ys,rq,rq,SqT.of ha,SqT.of hb,(λz=>by cases z),hz,λz=>?_,λz p hp=>?_⟩
  ·subst z;exact q a H (by rw[QbB];exact ha) (Same.refl H)
  ·refine q p _ Ad λc o e=>?_;rw[Bp (BJ e hp)];exact e
mutual
inductive Rep (H:Hp):V->PyData->Prop
 | non:Rep H .non .none
 | bl (b:Bool):Rep H (.bl b) (.bool b)
 | int (i:Int):Rep H (.int i) (.int i)
 | str (x:Str):Rep H (.str x) (.str x)
 | tup {a:Addr} {xs:YG} {ds:List PyData}:H a=some (.tup xs)->Ak H xs ds->Rep H (.ref a) (.tuple ds)
 | lst {a:Addr} {xs:YG} {ds:List PyData}:H a=some (.lst xs)->Ak H xs ds->Rep H (.ref a) (.list ds)
inductive Ak (H:Hp):YG->List PyData->Prop
 | nil:Ak H [] []
 | cons {x:V} {d:PyData} {xs:YG} {ds:List PyData}:Rep H x d->Ak H xs ds->Ak H (x::xs) (d::ds)
end
mutual
theorem Rep.reads {P:Program} {w:World} {H:Hp} {h:Heap} (ok:HOk P w H h):∀{v:V} {d:PyData} {u:Value},Rep H v d->RelV v u->∃as,Reads h u d as
 | _,_,_,.non,r=>by cases (show _=Value.none from r);exact⟨_,.none⟩
 | _,_,_,.bl b,r=>by cases (show _=Value.bool b from r);exact⟨_,.bool b⟩
 | _,_,_,.int i,r=>by obtain⟨t,rfl⟩:=(show ∃t,_=Value.int i t from r);exact⟨_,.int i t⟩
 | _,_,_,.str x,r=>by obtain⟨t,rfl⟩:=(show ∃t,_=Value.str x t from r);exact⟨_,.str x t⟩
 | _,_,_,.tup (a:=a) (xs:=xs) e q,r=>by
  cases (show _=Value.ref a from r)
  obtain⟨_,its,rv,o,ho,hc,n,hd⟩:=(show Cj P w H h a (.tup xs) from ok a _ e)
  obtain⟨as,z⟩:=Ak.reads ok q rv;exact⟨_,.tuple ho hc hd (by simpa using z)⟩
 | _,_,_,.lst (a:=a) (xs:=xs) e q,r=>by
  cases (show _=Value.ref a from r)
  obtain⟨_,its,n,rv,ho⟩:=(show Cj P w H h a (.lst xs) from ok a _ e)
  obtain⟨as,z⟩:=Ak.reads ok q rv;exact⟨_,.list ho rfl rfl (by simpa using z)⟩
theorem Ak.reads {P:Program} {w:World} {H:Hp} {h:Heap} (ok:HOk P w H h):∀{xs:YG} {ds:List PyData} {us:YE},Ak H xs ds->Vals xs us->∃as,ReadsAll h us ds as
 | _,_,_,.nil,.nil=>⟨_,.nil⟩
 | _,_,_,.cons p q,.cons r t=>by
  obtain⟨as,a1⟩:=Rep.reads ok p r;obtain⟨bs,b1⟩:=Ak.reads ok q t;exact⟨_,.cons a1 b1⟩
end
theorem HF (hu:X.A.units+64 < cLine):OpR X (compareOp .Eq) (λx y H Q=>∃d e,Rep H x d/\Rep H y e/\SeqAt.shaped d=true/\SeqAt.shaped e=true/\Q (.bl (PyData.eqv d e)) H):=by
 intro jb s σ H x y v u Q I rx ry h;obtain⟨d,e,p,p',sd,se,q⟩:=h;obtain⟨as,r1⟩:=p.reads I.hok rx;obtain⟨bs,r2⟩:=p'.reads I.hok ry;exact eq_dataH r1 r2 sd se hu ⟨.bl (PyData.eqv d e),H,I,rq,q⟩
theorem dU (hu:X.A.units+64 < cLine):OpR X (compareOp .NotEq) (λx y H Q=>∃d e,Rep H x d/\Rep H y e/\SeqAt.shaped d=true/\SeqAt.shaped e=true/\Q (.bl (!PyData.eqv d e)) H):=by
 intro jb s σ H x y v u Q I rx ry h;obtain⟨d,e,p,p',sd,se,q⟩:=h;obtain⟨as,r1⟩:=p.reads I.hok rx;obtain⟨bs,r2⟩:=p'.reads I.hok ry;exact ne_dataH r1 r2 sd se hu ⟨.bl (!PyData.eqv d e),H,I,rq,q⟩
end
structure Code (K:YD) (mg:YB) (x:Str) (st:Stmt) (ps:YF):Prop where
 ex:∃(f:Addr) (fd:FuncData),Fun K x x st f fd/\mg x=some (.ref f)/\Binds K fd ps []
structure Good (P:Program) (w:World) (K:YD) (mg:YB) (base:Heap) (x:Str) (k:Nat) (ps:YF) (sp:Sp):Prop where
 ex:∃(f:Addr) (fd:FuncData),mg x=some (.ref f)/\keepIn K (.ref f)=true/\Binds K fd ps []/\Ed P w K mg base CX0 k f fd ps sp
theorem Code.good {P:Program} {w:World} {K:YD} {mg:YB} {base:Heap} {x:Str} {st:Stmt} {ps N:YF} {k:Nat} {sp:Sp} (C:Code K mg x st ps) (S:Bo N ps (Ai st)) (len:∀vs H Q E,sp vs H Q E->vs.length=ps.length)
  (hbody:∀(f:Addr) (cdv:Value) (A:Around) (outer:List Env) (s:Shared) (H:Hp) (vs:YG) (Q:VK) (E:XK),Cq k (A.deeper (envOfC x (Ai st) s.heap.objs.size f cdv))->sp vs H Q E ->
   ∃t,PSs (LC CX0 P w K mg base N x (Ai st) f cdv A outer s H E).nox (Cv st) t/\t { nx:=λ_ H'=>Q .non H',rt:=Q } (start N vs) H):Good P w K mg base x (k+1) ps sp:=by
 obtain⟨f,fd,F,m,b⟩:=C.ex;exact⟨f,fd,m,F.kp,b,F.ok S len λcdv A outer s H vs Q E hr h=>hbody f cdv A outer s H vs Q E hr h⟩
theorem Aw {X:Cx} {k k':Nat} {ps:YF} {sp:Sp} {x:Str} {p pos:Pos} {e:Expr} {es:YJ} {t:TA} (g:Good X.prog X.w X.K X.mg X.base x k ps sp) (hr:Cq k' X.A) (ha:PA X (e::es) t) (hk:k<=k':=by decide) (hg:Gl X x:=by rfl)
  (hdb:(x == ("__debug__":Str))=false:=by decide) (he:starEach (e::es) X.env=(false,eval e X.env)::starEach es X.env:=by rfl) (hpl:(backTo pos (starEach es X.env)).any (·.1)=false:=by rfl) :
  PE X (.Call (.Name x p) (e::es) [] pos) (QV sp [] E0 t):=by
 intro jb s σ H Q I h;obtain⟨f,fd,m,kp,b,F⟩:=g.ex;exact aP F (hr.mono hk) hg m kp b .nil QX ha hdb he hpl jb s σ H Q I h
theorem Code.of {K:YD} {mg:YB} {h:Heap} {x:Str} {st:Stmt} {ps:YF} {f:Addr} {oc:Value} {od an:Option Addr} {osl:YI} {kV doc pm cdv ct:Value} (X:K.In h) (G:h.Ns mainGlobals mg)
  (a:nsIn K mainGlobals x=some (some (.ref f))) (l:K.lookup f=some ⟨oc,od,.func (fnOf x x (Dd st) (Cv st) (Ai st) .none kV doc pm an cdv ct),osl⟩) (c:codeIn K cdv x=true) (k:keepIn K (.ref f)=true)
  (hb:∀(kV doc pm:Value) (an:Option Addr) (cdv ct:Value) (us:YE),us.length=ps.length->bindArgs (fnOf x x (Dd st) (Cv st) (Ai st) .none kV doc pm an cdv ct) ⟨us,[]⟩=pure (ps.zip us)):Code K mg x st ps:=by
 have F:=Oh (st:=st) l c k;exact⟨f,_,F,mg_of X G a,F.binds hb⟩
theorem Ae {H:Hp} {p:Addr} (h:H p=none) (o:HO):Same H (upd H p o):=λb u q=>by rw[Bp (BJ q h)];exact q
theorem Ca.plain {X:Cx} {N':YF} {sc:Scope} (kind:sc.kind=.function) (HS:∀y∈sc.names,y.2≠.cell) (loc:∀y∈sc.names,y.2=.local->sc.names.lookup y.1=some .local) (Sd:∀y∈sc.names,y.2≠.free) :
  Ca X N' (N'.map λ_=>none) sc where
 kind:=kind
 HS:=HS
 loc:=loc
 fv:=λy hy e=>absurd e (Sd y hy)
 len:=by simp
 src:=λi x j _ e=>by
  rw[QaU] at e;cases q:N'[i]? with
  | none=>rw[q] at e;cases e
  | some z=>rw[q] at e;cases e
theorem Ec {K:YD} {a l:Addr} {xs:YG} {g:TG} {tt:TT} {te:TE} {Q:VK} {σ0:St} {H0:Hp} (Pv:YN)
  (h0:Pv 0 σ0 H0) (hl:∀i σ H',i<=xs.length->Pv i σ H'->SqT K H' a xs)
  (hs:∀i x σ H',xs[i]?=some x->Pv i σ H'->g x σ H' fun σ3 H3=>tt σ3 H3 λb H4=>if b=true then te σ3 H4 λy H5=>∃ys,H5 l=some (.lst ys)/\ys.length < sizeLine/\Pv (i+1) σ3 (upd H5 l (.lst (ys++[y]))) else Pv (i+1) σ3 H4)
  (hd:∀ σ H',Pv xs.length σ H'->Q (.ref l) H'):Ef (Itt K a) g tt te Q σ0 H0 l:=by
 unfold Ef;refine⟨λi m σ H'=>m=xs.length - i/\i<=xs.length/\Pv i σ H',⟨xs.length,by simp,Qca _,h0⟩,?_⟩;rintro i m σ H' ⟨rfl,hi,p⟩;have q:=hl i σ H' hi p;by_cases hlt:i < xs.length
 ·refine .inr ⟨⟨xs,xs[i],q,by simp[hlt]⟩,Pv (i+1),fun σ3 H3 p'=>⟨xs.length - (i+1),by omega,rq,hlt,p'⟩,λx H2 y=>?_⟩;obtain⟨e,y⟩:=y;subst e;exact hs i x σ _ (y xs q) p
 ·have e:i=xs.length:=by omega
  subst e;exact .inl ⟨⟨xs,q,QbZ _⟩,hd σ H' p⟩
theorem LK {K:YD} {a l:Addr} {xs:YG} {g:TG} {tt:TT} {te:TE} {Q:VK} {σ0:St} {H0:Hp} (Pv:YN)
  (h0:Pv 0 σ0 H0) (hl:∀i σ H',i<=xs.length->Pv i σ H'->SqL K H' a xs)
  (hs:∀i x σ H',xs[i]?=some x->Pv i σ H'->g x σ H' fun σ3 H3=>tt σ3 H3 λb H4=>if b=true then te σ3 H4 λy H5=>∃ys,H5 l=some (.lst ys)/\ys.length < sizeLine/\Pv (i+1) σ3 (upd H5 l (.lst (ys++[y]))) else Pv (i+1) σ3 H4)
  (hd:∀ σ H',Pv xs.length σ H'->Q (.ref l) H'):Ef (Itl K a) g tt te Q σ0 H0 l:=by
 unfold Ef;refine⟨λi m σ H'=>m=xs.length - i/\i<=xs.length/\Pv i σ H',⟨xs.length,by simp,Qca _,h0⟩,?_⟩;rintro i m σ H' ⟨rfl,hi,p⟩;have q:=hl i σ H' hi p;by_cases hlt:i < xs.length
 ·refine .inr ⟨⟨xs,xs[i],q,by simp[hlt]⟩,Pv (i+1),fun σ3 H3 p'=>⟨xs.length - (i+1),by omega,rq,hlt,p'⟩,λx H2 y=>?_⟩;obtain⟨e,y⟩:=y;subst e;exact hs i x σ _ (y xs q) p
 ·have e:i=xs.length:=by omega
  subst e;exact .inl ⟨⟨xs,q,QbZ _⟩,hd σ H' p⟩
theorem Kw {lo:Int} {n:Nat} {l:Addr} {g:TG} {tt:TT} {te:TE} {Q:VK} {σ0:St} {H0:Hp} (Pv:YN) (h0:Pv 0 σ0 H0)
  (hs:∀i σ H',i < n->Pv i σ H'->g (.int (lo+i)) σ H' fun σ3 H3=>tt σ3 H3 λb H4=>if b=true then te σ3 H4 λy H5=>∃ys,H5 l=some (.lst ys)/\ys.length < sizeLine/\Pv (i+1) σ3 (upd H5 l (.lst (ys++[y]))) else Pv (i+1) σ3 H4)
  (hd:∀ σ H',Pv n σ H'->Q (.ref l) H'):Ef (Itr lo n) g tt te Q σ0 H0 l:=by
 unfold Ef;refine⟨λi m σ H'=>m=n - i/\i<=n/\Pv i σ H',⟨n,by simp,Qca _,h0⟩,?_⟩;rintro i m σ H' ⟨rfl,hi,p⟩;by_cases hlt:i < n
 ·refine .inr ⟨hlt,Pv (i+1),fun σ3 H3 p'=>⟨n - (i+1),by omega,rq,hlt,p'⟩,λx H2 y=>?_⟩;obtain⟨e,y⟩:=y;subst e y;exact hs i σ _ hlt p
 ·have e:i=n:=by omega
  subst e;exact .inl ⟨QbZ _,hd σ H' p⟩
section
variable {X:Cx}
theorem XC:∀{us:YE} {ns:List Int},IntsAre us ns->Vals (ns.map V.int) us:=λh=>KZ h
end
section
variable {X:Cx} {tg:Expr}
end
end L2
namespace HT
open PySem PyProof.Rows
section
variable {prog:Program} {w:World} {A:Around} {E:YA} {s:Shared}
theorem Mw {t sl:Addr} {items:Array Value} {vl vu:Value} {lo hi:Option Int} {Q:YA} (ht:IsTup s.heap t items) (hs:s.heap.IsSliceOf sl vl vu .none) (pl:IsPart vl lo) (pu:IsPart vu hi)
  (hw:sIx items.size 0 lo=0/\sIx items.size items.size hi=items.size) (h:Q (.ref t) s):wpAny (model prog w) A (getItem (.ref t) (.ref sl)) Q E s:=by
 obtain⟨os,hos,hcs,hds⟩:=id hs;have hTs:s.TypeIs (.ref sl) "slice":=⟨os,hos,hcs⟩;unfold getItem
 try with_reducible refine QbP ?_
 first | refine Qcc (Qcd ?_) | skip
 refine Qcc (wpAny_sequenceKey ht.typeIs (by decide) ?_);refine Qcc (Qak (name:=Str.ofString "__getitem__") ht.typeIs Qab (Qbl Qab ht.typeIs entry_tuple_getitem ?_ (args_tuple_getitem _ _)));show wpAny _ _ (Builtin.Tuple.tupleItemsOf (.ref t) >>= _) _ _ s;refine Qcc (tupleItemsOf_ ht ?_);refine Qcc (wpAny_typeOf hTs ?_);rw[if_pos (by decide)];refine Qcc (Jb hs pl pu ?_);rw[hw.1,hw.2];show wpAny _ _ (if (((0:Nat):Int) == 0&&(1:Int) == 1&&(items.size - 0) == items.size)=true then _ else _) _ _ s
 rw[if_pos (by simp)];refine Qcc ?_;unfold Builtin.Tuple.tupleIsExact;refine Qcc (wpAny_typeOf ht.typeIs (Qcd ?_));rw[if_pos (by decide)];exact Qcc (Qcf (Qcd ⟨_,rq,Qcd h⟩))
end
end HT
namespace L2
open PySem PySem.Spec PyProof.Rows
section
variable {X:Cx}
theorem Iw:SlR X (λx lo hi H Q=>∃a xs,x=.ref a/\H a=some (.tup xs)/\∀p H',H' p=some (.tup (Cy xs lo hi))->Same H H'->Q (.ref p) H'):=by
 intro jb s σ H x v vl vu lo hi sl Q I rx hs pl pu h;obtain⟨a,xs,rfl,hx,q⟩:=h;by_cases hw:HT.sIx xs.length 0 lo=0/\HT.sIx xs.length xs.length hi=xs.length
 ·cases rx;obtain⟨its,r,ht,hz⟩:=I.tuple (SqT.of hx);have hlen:its.toArray.size=xs.length:=by rw[QaT];exact r.length.symm
  refine⟨"tuple",_,Qab.lookup,ht.typeIs,?_⟩;refine HT.Mw ht hs pl pu (by rw[hlen];exact hw) ⟨.ref a,H,I,rq,q a H ?_ (Same.refl H)⟩;have e:Cy xs lo hi=xs:=by unfold Cy;rw[hw.1,hw.2];simp
  rw[e];exact hx
 ·exact dg jb s σ H _ v vl vu lo hi sl Q I rx hs pl pu ⟨a,xs,rq,SqT.of hx,hw,λp hp=>q p _ Ad (λc o e=>by rw[Bp (BJ e hp)];exact e)⟩
end
structure Q6 (K:YD) (C:Addr) (m qn:Str) (st:Stmt) (ps:YF):Prop where
 ex:∃(f:Addr) (fd:FuncData),Fun K m qn st f fd/\Meth K C m f/\Binds K fd ps []
structure Q5 (P:Program) (w:World) (K:YD) (mg:YB) (base:Heap) (C:Addr) (m:Str) (k:Nat) (ps:YF) (sp:Sp):Prop where
 ex:∃(f:Addr) (fd:FuncData),Meth K C m f/\Binds K fd ps []/\Ed P w K mg base CX0 k f fd ps sp
structure Wx (P:Program) (w:World) (K:YD) (mg:YB) (base:Heap) (C:Addr) (k:Nat) (ps:YF) (sp:Sp):Prop where
 ex:∃(f:Addr) (fd:FuncData),Mk K C f/\Binds K fd ps []/\Ed P w K mg base CX0 k f fd ps sp
theorem Q6.good {P:Program} {w:World} {K:YD} {mg:YB} {base:Heap} {C:Addr} {m qn:Str} {st:Stmt} {ps N:YF} {k:Nat} {sp:Sp} (c:Q6 K C m qn st ps) (S:Bo N ps (Ai st)) (len:∀vs H Q E,sp vs H Q E->vs.length=ps.length)
  (hbody:∀(f:Addr) (cdv:Value) (A:Around) (outer:List Env) (s:Shared) (H:Hp) (vs:YG) (Q:VK) (E:XK),Cq k (A.deeper (envOfC qn (Ai st) s.heap.objs.size f cdv))->sp vs H Q E ->
   ∃t,PSs (LC CX0 P w K mg base N qn (Ai st) f cdv A outer s H E).nox (Cv st) t/\t { nx:=λ_ H'=>Q .non H',rt:=Q } (start N vs) H):Q5 P w K mg base C m (k+1) ps sp:=by
 obtain⟨f,fd,F,M,b⟩:=c.ex;exact⟨f,fd,M,b,F.ok S len λcdv A outer s H vs Q E hr h=>hbody f cdv A outer s H vs Q E hr h⟩
theorem iM {X:Cx} {pl:Sem Bool} {k k':Nat} {C:Addr} {ps:YF} {sp:Sp} {m:Str} {apos pos:Pos} {o e:Expr} {es:YJ} {ta:TE} {t:TA} (he:PE X o ta) (c:Cls X.K C) (g:Q5 X.prog X.w X.K X.mg X.base C m k ps sp) (hr:Cq k' X.A) (ha:PA X (e::es) t) (hk:k<=k':=by decide)
  (hst:starEach (e::es) X.env=(false,eval e X.env)::starEach es X.env:=by rfl) (hpl:(backTo pos (starEach es X.env)).any (·.1)=false:=by rfl)
  (ht:eval (.Call (.Attribute o m apos) (e::es) [] pos) X.env=(do
   let ov <-eval o X.env
   standAt apos.atName
   let (f,first) <-holding [ov] (getMethod ov m pl)
   callWith pos f first (backTo pos (starEach (e::es) X.env)) (backToKw pos (keywordEach [] X.env))):=by rfl) :
  PE X (.Call (.Attribute o m apos) (e::es) [] pos) (ZR C m sp [] E0 ta t):=by
 intro jb s σ H Q I h;obtain⟨f,fd,M,b,F⟩:=g.ex;exact aM (pl:=pl) he c M F (hr.mono hk) b .nil QX ha hst hpl ht jb s σ H Q I h
theorem iQ {X:Cx} {k k':Nat} {C:Addr} {ps:YF} {sp:Sp} {x:Str} {p pos:Pos} {e:Expr} {es:YJ} {t:TA} (g:Wx X.prog X.w X.K X.mg X.base C k ps sp) (hr:Cq k' X.A) (hm:X.mg x=some (.ref C)) (ha:PA X (e::es) t) (hk:k+1<=k':=by decide) (hg:Gl X x:=by rfl)
  (hdb:(x == ("__debug__":Str))=false:=by decide) (he:starEach (e::es) X.env=(false,eval e X.env)::starEach es X.env:=by rfl) (hpl:(backTo pos (starEach es X.env)).any (·.1)=false:=by rfl) :
  PE X (.Call (.Name x p) (e::es) [] pos) (ZS C sp [] E0 t):=by
 intro jb s σ H Q I h;obtain⟨f,fd,M,b,F⟩:=g.ex;exact aN M F (hr.mono hk) hg hm b .nil QX ha hdb he hpl jb s σ H Q I h
theorem Hz {X:Cx} {x:Str} {v:V} {pos:Pos} (hg:Gl X x) (hm:∃u,X.mg x=some u/\RelV v u) (hd:(x == ("__debug__":Str))=false:=by decide):PE X (.Name x pos) (tC v):=by
 obtain⟨u,h,r⟩:=hm;exact aO hg h r hd
theorem Tj:∀{fs:List (Str×V)} {i:Nat} {f:Str} {v:V},(fs.map (·.1)).Nodup->fs[i]?=some (f,v)->fs.lookup f=some v
 | [],_,_,_,_,h=>by simp at h
 | (g,u)::fs,0,f,v,_,h=>by simp at h;obtain⟨rfl,rfl⟩:=h;simp[List.lookup]
 | (g,u)::fs,i+1,f,v,hn,h=>by
  rw[QbM,Qbw] at hn;have h':fs[i]?=some (f,v):=by simpa using h
  have hm:f∈fs.map (·.1):=QbW.mpr ⟨(f,v),Qau h',rq⟩;have hne:(f == g)=false:=QaE.mpr λe=>hn.1 (e ▸ hm);rw[List.lookup,hne];exact Tj hn.2 h'
theorem Z8:∀{fs:List (Str×V)} {m:Str},m∉fs.map (·.1)->fs.lookup m=none
 | [],_,_=>rfl
 | (g,u)::fs,m,h=>by
  rw[QbM,QbK] at h;have hne:(m == g)=false:=QaE.mpr λe=>h (.inl e);rw[List.lookup,hne];exact Z8 λz=>h (.inr z)
theorem XS {y:V}:∀{fs:List (Str×V)} {i:Nat} {f:Str} {v:V},(fs.map (·.1)).Nodup->fs[i]?=some (f,v)->DK f y fs=fs.set i (f,y)
 | [],_,_,_,_,h=>by simp at h
 | (g,u)::fs,0,f,v,_,h=>by
  simp at h;obtain⟨rfl,rfl⟩:=h;show (if g=g then (g,y)::fs else (g,u)::DK g y fs)=_
  rw[if_pos rfl];rfl
 | (g,u)::fs,i+1,f,v,hn,h=>by
  rw[QbM,Qbw] at hn;have h':fs[i]?=some (f,v):=by simpa using h
  have hm:f∈fs.map (·.1):=QbW.mpr ⟨(f,v),Qau h',rq⟩;have hne:¬g=f:=λe=>hn.1 (by rw[show (g,u).fst=g from rfl,e];exact hm)
  show (if g=f then (g,y)::fs else (g,u)::DK f y fs)=_
  rw[if_neg hne,XS hn.2 h'];rfl
theorem Ti {y:V}:∀{fs:List (Str×V)} {f:Str},f∉fs.map (·.1)->DK f y fs=fs++[(f,y)]
 | [],_,_=>rfl
 | (g,u)::fs,f,h=>by
  rw[QbM,QbK] at h;show (if g=f then (g,y)::fs else (g,u)::DK f y fs)=_
  rw[if_neg λe=>h (.inl e.symm),Ti λz=>h (.inr z)];rfl
def BK (H H':Hp):Prop:=∀c xs,H c=some (.tup xs)->H' c=some (.tup xs)
theorem BK.refl (H:Hp):BK H H:=λ_ _ e=>e
theorem BK.trans {H H1 H2:Hp} (a:BK H H1) (b:BK H1 H2):BK H H2:=λc xs e=>b c xs (a c xs e)
theorem BK.of {H H1:Hp} (s:Same H H1):BK H H1:=λc xs e=>s c _ e
theorem BK.upd {H:Hp} {b:Addr} {o:HO} (h:∀xs,H b≠some (.tup xs)):BK H (upd H b o):=λc xs e=>by
 have n:c≠b:=λz=>h xs (z ▸ e);rw[Bp n];exact e
def Al (b:Addr) (H H':Hp):Prop:=∀c o,H c=some o->c≠b->H' c=some o
theorem Al.trans {b:Addr} {H H1 H2:Hp} (x:Al b H H1) (y:Al b H1 H2):Al b H H2:=λc o e n=>y c o (x c o e n) n
theorem Al.of {b:Addr} {H H1:Hp} (x:Same H H1):Al b H H1:=λc o e _=>x c o e
theorem Al.refl (b:Addr) (H:Hp):Al b H H:=λ_ _ e _=>e
theorem Al.upd {b:Addr} {H:Hp} {o:HO}:Al b H (upd H b o):=λc u e n=>by rw[Bp n];exact e
theorem Al.tup {b:Addr} {H H':Hp} (x:Al b H H') (h:∀xs,H b≠some (.tup xs)):BK H H':=λc xs e=>x c _ e λz=>h xs (z ▸ e)
theorem Al.free {b:Addr} {H H':Hp} (x:Al b H H') (hb:∃o,H' b=some o) {l:Addr} (h:H' l=none):H l=none:=by
 cases e:H l with
 | none=>rfl
 | some o=>
  by_cases n:l=b
  ·obtain⟨o',e'⟩:=hb;rw[n,e'] at h;cases h
  ·rw[x l o e n] at h;cases h
def iB (K:YD) (ta tv:TE) (f:Str):TS:=λD σ H=>tv σ H λy H1=>ta σ H1 λx H2=>∃a C dx fs fs',x=.ref a/\H2 a=some (.ins C dx fs)/\Cls K C/\Ia K C f/\fs.length < 1000/\DK f y fs=fs' /\
 ∀H',H' a=some (.ins C dx fs')->Al a H2 H'->D.nx σ H'
section
variable {X:Cx} {o e value:Expr} {f:Str} {pos pos' tpos:Pos} {ta tv:TE}
theorem OD (ha:PE X o ta) (hv:PE X value tv) (hs:swapsWith value (some (.Attribute o f pos')) pos.line X.env=pure false):PS X (.Assign [.Attribute o f pos'] value pos) (iB X.K ta tv f):=by
 intro jb s σ H D I h;refine plainObj_wpAny_Assign_Attribute (thn (hv jb s σ H _ I h) λu s1 zz=>?_) hs;obtain⟨y,H1,I1,ry,q⟩:=zz;refine thn (ha jb s1 σ H1 _ I1 q) λov s2 zz=>?_;obtain⟨x,H2,I2,rx,a,C,dx,fs,fs',ex,ea,c,n,l,ep,q2⟩:=zz;subst ex;obtain rfl:ov=Value.ref a:=rx;refine Vy I2 ea c n l ry λs3 I3=>⟨σ,_,I3,q2 _ ?_ Al.upd⟩;rw[Ad,ep]
end
section
variable {X:Cx} {K:YD}
theorem bh (h:X.K=K):IxR X (dH K):=h ▸ Ba
theorem Ko (h:X.K=K):IxR X (dI K):=h ▸ Bl
theorem N6 (h:X.K=K):OpR X (compareOp .In) (rIn K false):=h ▸ Ln
end
end L2
namespace PySem
open Sem (wp)
section
variable {prog:Program} {w:World} {A:Around} {E:YA} {s:Shared}
end
end PySem
namespace L2
open PySem PySem.Spec PyProof.Rows
section
variable {X:Cx} {pos:Pos}
end
theorem Qj {α : Type}:∀{l:List α} {i:Nat} {a:α},l.Nodup->a∉l->(l.set i a).Nodup
 | [],_,_,h,_=>by simpa using h
 | x::r,0,a,h,n=>by
  rw[Qbw] at h;rw[List.set_cons_zero,Qbw];exact⟨λz=>n (Qav _ z),h.2⟩
 | x::r,i+1,a,h,n=>by
  rw[Qbw] at h;rw[List.set_cons_succ,Qbw];refine⟨λz=>?_,Qj h.2 λz=>n (Qav _ z)⟩;rcases List.mem_or_eq_of_mem_set z with z | z
  ·exact h.1 z
  ·exact n (z ▸ QaI)
structure Has (H:Hp) (l:List (Addr×HO)):Prop where
 nd:(l.map (·.1)).Nodup
 at_:∀x∈l,H x.1=some x.2
theorem Has.get {H:Hp} {l:List (Addr×HO)} (h:Has H l) {i:Nat} {a:Addr} {o:HO} (e:l[i]?=some (a,o)):H a=some o:=h.at_ (a,o) (Qau e)
theorem Has.same {H H':Hp} {l:List (Addr×HO)} (h:Has H l) (s:Same H H'):Has H' l:=⟨h.nd,λx hx=>s _ _ (h.at_ x hx)⟩
theorem Has.Nz {H H':Hp} {l:List (Addr×HO)} {b:Addr} (h:Has H l) (s:Al b H H') (n:b∉l.map (·.1)):Has H' l:=⟨h.nd,λx hx=>s _ _ (h.at_ x hx) λz=>n (z ▸ QbW.mpr ⟨x,hx,rfl⟩)⟩
theorem Has.iU {H:Hp} {l:List (Addr×HO)} {a:Addr} (h:Has H l) (e:H a=none):a∉l.map (·.1):=λz=>by
 obtain⟨x,hx,rfl⟩:=QbW.mp z;rw[h.at_ x hx] at e;cases e
theorem map_set {l:List (Addr×HO)} {i:Nat} {a:Addr} {o:HO}:(l.set i (a,o)).map (·.1)=(l.map (·.1)).set i a:=by rw[List.map_set]
theorem Has.set {H H':Hp} {l:List (Addr×HO)} (h:Has H l) (i:Nat) {a:Addr} {o o':HO} (e:l[i]?=some (a,o)) (s:Al a H H') (e':H' a=some o'):Has H' (l.set i (a,o')):=by
 have em:(l.map (·.1))[i]?=some a:=by rw[QaU,e];rfl
 have hi:=(Qaf.mp e).1;refine⟨?_,λx hx=>?_⟩
 ·rw[map_set];have:(l.map (·.1)).set i a=l.map (·.1):=by
   obtain⟨h1,h2⟩:=Qaf.mp em;rw[<-h2];exact List.set_getElem_self h1
  rw[this];exact h.nd
 ·obtain⟨j,hj,ex⟩:=List.mem_iff_getElem.mp hx;rw[List.getElem_set] at ex;by_cases q:i=j
  ·rw[if_pos q] at ex;subst ex;exact e'
  ·rw[if_neg q] at ex;have hj':j < l.length:=by simpa using hj
   have hm:x∈l:=ex ▸ List.getElem_mem hj';refine s _ _ (h.at_ x hm) λz=>q ?_;have ej:(l.map (·.1))[j]?=some a:=by rw[QaU,Qaj hj'];rw[<-z,<-ex];rfl
   obtain⟨h1,h2⟩:=Qaf.mp em;obtain⟨h3,h4⟩:=Qaf.mp ej;exact (List.getElem_inj h.nd).mp (h2.trans h4.symm)
theorem Has.put {H:Hp} {l:List (Addr×HO)} (h:Has H l) (i:Nat) {a:Addr} {o:HO} (n:a∉l.map (·.1)) (e:H a=some o):Has H (l.set i (a,o)):=by
 refine⟨by rw[map_set];exact Qj h.nd n,λx hx=>?_⟩;rcases List.mem_or_eq_of_mem_set hx with z | z
 ·exact h.at_ x z
 ·rw[z];exact e
theorem Has.new {H H':Hp} {l:List (Addr×HO)} {a:Addr} {o:HO} (h:Has H l) (n:H a=none) (s:Same H H') (e:H' a=some o):Has H' (l++[(a,o)]):=by
 refine⟨?_,λx hx=>?_⟩
 ·rw[Qbt,List.nodup_append];refine⟨h.nd,by simp,λx hx y hy z=>?_⟩;have:y=a:=by simpa using hy
  subst this;exact h.iU n (z ▸ hx)
 ·rcases Qbx.mp hx with z | z
  ·exact s _ _ (h.at_ x z)
  ·have:x=(a,o):=by simpa using z
   subst this;exact e
theorem Has.nil (H:Hp):Has H []:=⟨QbH,λx hx=>by cases hx⟩
theorem Has.ne {H:Hp} {l:List (Addr×HO)} (h:Has H l) {i j:Nat} {a b:Addr} {o p:HO} (e:l[i]?=some (a,o)) (e':l[j]?=some (b,p)) (n:i≠j):a≠b:=λz=>by
 have ea:(l.map (·.1))[i]?=some a:=by rw[QaU,e];rfl
 have eb:(l.map (·.1))[j]?=some a:=by rw[QaU,e',z];rfl
 obtain⟨h1,h2⟩:=Qaf.mp ea;obtain⟨h3,h4⟩:=Qaf.mp eb;exact n ((List.getElem_inj h.nd).mp (h2.trans h4.symm))
theorem Same.Cr {H0 H H':Hp} {a:Addr} (s:Same H0 H) (b:Al a H H') (f:H0 a=none):Same H0 H':=λc o e=>b _ _ (s _ _ e) λz=>by rw[z,f] at e;cases e
section
variable {κ : Type} [DecidableEq κ]
def Ib (kvs:List (κ×V)) (k:κ):Option V:=(kvs.find? λkv=>decide (kv.1=k)).map (·.2)
def putK (kvs:List (κ×V)) (k:κ) (v:V):List (κ×V):=
 if (kvs.any λkv=>decide (kv.1=k))=true then kvs.map (λkv=>if kv.1=k then (kv.1,v) else kv) else kvs++[(k,v)]
def Z9 (kvs:List (κ×V)) (k:κ):List (κ×V):=kvs.filter λkv=>decide (kv.1≠k)
theorem MJ {p:κ×V} {r:List (κ×V)} {k:κ} (e:p.1=k):Ib (p::r) k=some p.2:=by simp[Ib,QbC,e]
theorem MK {p:κ×V} {r:List (κ×V)} {k:κ} (e:¬p.1=k):Ib (p::r) k=Ib r k:=by simp[Ib,QbC,e]
theorem Q8 (k:κ):∀kvs:List (κ×V),(kvs.any λkv=>decide (kv.1=k))=(Ib kvs k).isSome
 | []=>rfl
 | p::r=>by
  rw[QbR];by_cases e:p.1=k
  ·simp only[MJ e,QbF e,Bool.true_or,Option.isSome_some]
  ·rw[MK e,Qbu e,Bool.false_or];exact Q8 k r
theorem Ge.Xy {o:Option V} {u:Option Value} (r:Ge o u):o.isSome=u.isSome:=by
 cases o with
 | none=>cases u with
  | none=>rfl
  | some _=>exact (show False from r).elim
 | some _=>cases u with
  | none=>exact (show False from r).elim
  | some _=>rfl
theorem Ge.getD {o:Option V} {u:Option Value} {d:V} {d':Value} (r:Ge o u) (rd:RelV d d'):RelV (o.getD d) (u.getD d'):=by
 cases o with
 | none=>cases u with
  | none=>exact rd
  | some _=>exact (show False from r).elim
 | some _=>cases u with
  | none=>exact (show False from r).elim
  | some _=>exact r
theorem KV.val {kvs:List (κ×V)} {vs:List (κ×Value)} (r:KV kvs vs) (k:κ):Ge (Ib kvs k) (valueAt vs k):=by
 unfold KV at r
 induction r with
 | nil=>exact True.intro
 | @cons p q ps qs h t ih=>
  obtain⟨h1,h2⟩:=h;by_cases e:p.1=k
  ·have e':q.1=k:=h1.symm.trans e;have b:valueAt (q::qs) k=some q.2:=by simp[valueAt,QbC,e']
   rw[MJ e,b];exact h2
  ·have e':¬q.1=k:=λz=>e (h1.trans z);have b:valueAt (q::qs) k=valueAt qs k:=by simp[valueAt,QbC,e']
   rw[MK e,b];exact ih
theorem KV.any {kvs:List (κ×V)} {vs:List (κ×Value)} (r:KV kvs vs) (k:κ):(kvs.any λkv=>decide (kv.1=k))=vs.any λkv=>decide (kv.1=k):=by
 unfold KV at r
 induction r with
 | nil=>rfl
 | cons h t ih=>rw[QbR,QbR,ih,h.1]
theorem KV.repl {kvs:List (κ×V)} {vs:List (κ×Value)} (r:KV kvs vs) (k:κ) {y:V} {u:Value} (ry:RelV y u) :
  KV (kvs.map λkv=>if kv.1=k then (kv.1,y) else kv) (vs.map λkv=>if kv.1=k then (kv.1,u) else kv):=by
 unfold KV at r ⊢
 induction r with
 | nil=>exact .nil
 | @cons p q ps qs h t ih=>
  rw[QbM,QbM];refine .cons ?_ ih;obtain⟨h1,h2⟩:=h;by_cases e:p.1=k
  ·rw[if_pos e,if_pos (h1.symm.trans e)];exact⟨h1,ry⟩
  ·rw[if_neg e,if_neg (λz=>e (h1.trans z))];exact⟨h1,h2⟩
theorem KV.put {kvs:List (κ×V)} {vs:List (κ×Value)} (r:KV kvs vs) (k:κ) {y:V} {u:Value} (ry:RelV y u):KV (putK kvs k y) (stored vs k u):=by
 unfold putK stored;rw[r.any k];by_cases e:(vs.any λkv=>decide (kv.1=k))=true
 ·rw[if_pos e,if_pos e];exact r.repl k ry
 ·rw[if_neg e,if_neg e];exact Paired.snoc r ⟨rq,ry⟩
theorem KV.drop {kvs:List (κ×V)} {vs:List (κ×Value)} (r:KV kvs vs) (k:κ):KV (Z9 kvs k) (without vs k):=by
 unfold KV at r ⊢;unfold Z9 without
 induction r with
 | nil=>exact .nil
 | @cons p q ps qs h t ih=>
  obtain⟨h1,h2⟩:=h;rw[Qbn,Qbn];by_cases e:p.1=k
  ·have a:¬decide (p.1≠k)=true:=by simp[e]
   have b:¬decide (q.1≠k)=true:=by simp[h1.symm.trans e]
   rw[if_neg a,if_neg b];exact ih
  ·have e':¬q.1=k:=λz=>e (h1.trans z);have a:decide (p.1≠k)=true:=by simp[e]
   have b:decide (q.1≠k)=true:=by simp[e']
   rw[if_pos a,if_pos b];exact .cons ⟨h1,h2⟩ ih
theorem KV.length {kvs:List (κ×V)} {vs:List (κ×Value)} (r:KV kvs vs):kvs.length=vs.length:=QbN r
end
abbrev YL:=List (List Key×V)
abbrev KT (H:Hp):YL->List (List Key×Addr×Value)->Prop:=Paired λp q=>p.1=q.1/\H q.2.1=some (.tup (p.1.map kV))/\RelV p.2 q.2.2
theorem KT.val {H:Hp} {kvs:YL} {xs:List (List Key×Addr×Value)} (r:KT H kvs xs) (k:List Key):Ge (Ib kvs k) ((atKey xs k).map (·.2)):=by
 induction r with
 | nil=>exact True.intro
 | @cons p q ps qs h t ih=>
  obtain⟨h1,_,h2⟩:=h;by_cases e:p.1=k
  ·have e':q.1=k:=h1.symm.trans e;have b:atKey (q::qs) k=some q.2:=by simp[atKey,QbC,e']
   rw[MJ e,b];exact h2
  ·have e':¬q.1=k:=λz=>e (h1.trans z);have b:atKey (q::qs) k=atKey qs k:=by simp[atKey,QbC,e']
   rw[MK e,b];exact ih
theorem KT.repl {H:Hp} {kvs:YL} {xs:List (List Key×Addr×Value)} (r:KT H kvs xs) (k:List Key) {y:V} {u:Value} (ry:RelV y u) :
  KT H (kvs.map λkv=>if kv.1=k then (kv.1,y) else kv) (xs.map (putAt k u)):=by
 induction r with
 | nil=>exact .nil
 | @cons p q ps qs h t ih=>
  rw[QbM,QbM];refine .cons ?_ ih;obtain⟨h1,h2,h3⟩:=h;unfold putAt;by_cases e:p.1=k
  ·rw[if_pos e,if_pos (h1.symm.trans e)];exact⟨h1,h2,ry⟩
  ·rw[if_neg e,if_neg (λz=>e (h1.trans z))];exact⟨h1,h2,h3⟩
theorem KT.put {H:Hp} {kvs:YL} {xs:List (List Key×Addr×Value)} (r:KT H kvs xs) (k:List Key) {b:Addr} {y:V} {u:Value} (hb:H b=some (.tup (k.map kV))) (ry:RelV y u) :
  KT H (putK kvs k y) (storedH xs k b u):=by
 have e:(kvs.any λkv=>decide (kv.1=k))=(atKey xs k).isSome:=by
  rw[Q8,(r.val k).Xy,Option.isSome_map]
 unfold putK storedH;rw[e];by_cases q:(atKey xs k).isSome=true
 ·rw[if_pos q,if_pos q];exact r.repl k ry
 ·rw[if_neg q,if_neg q];exact Paired.snoc r ⟨rq,hb,ry⟩
theorem KT.keeps {H H':Hp} {kvs:YL} {xs:List (List Key×Addr×Value)} (r:KT H kvs xs) (ht:∀b ys,H b=some (.tup ys)->H' b=some (.tup ys)):KT H' kvs xs:=
 Paired.Zd r λ_ _ z=>⟨z.1,ht _ _ z.2.1,z.2.2⟩
section
variable {P:Program} {w:World} {H:Hp} {h:Heap} {a:Addr}
end
def Wz (H:Hp) (a:Addr) (y:V) (r:Option V):Prop:=
 (∃kvs k,Rd H a (.dK kvs)/\y=kV k/\r=Ib kvs k)\/∃kvs k b,Rd H a (.dT kvs)/\y=.ref b/\H b=some (.tup (k.map kV))/\r=Ib kvs k
def Wy (H:Hp) (a:Addr) (y v:V) (H':Hp):Prop:=
 (∃kvs k,H a=some (.dK kvs)/\y=kV k/\kvs.length < sizeLine/\H'=upd H a (.dK (putK kvs k v))) \/
 ∃kvs k b,H a=some (.dT kvs)/\y=.ref b/\H b=some (.tup (k.map kV))/\kvs.length < sizeLine/\H'=upd H a (.dT (putK kvs k v))
abbrev YM:=List (Key×V)
theorem Wz.k {H:Hp} {a:Addr} {kvs:YM} {k:Key} (e:H a=some (.dK kvs)):Wz H a (kV k) (Ib kvs k):=.inl ⟨kvs,k,.inl e,rfl,rfl⟩
theorem Wz.t {H:Hp} {a b:Addr} {kvs:YL} {k:List Key} (e:H a=some (.dT kvs)) (eb:H b=some (.tup (k.map kV))):Wz H a (.ref b) (Ib kvs k):=.inr ⟨kvs,k,b,.inl e,rfl,eb,rfl⟩
theorem Wy.k {H:Hp} {a:Addr} {kvs:YM} {k:Key} {v:V} (e:H a=some (.dK kvs)) (hl:kvs.length < sizeLine):Wy H a (kV k) v (upd H a (.dK (putK kvs k v))):=.inl ⟨kvs,k,e,rfl,hl,rfl⟩
theorem Wy.t {H:Hp} {a b:Addr} {kvs:YL} {k:List Key} {v:V} (e:H a=some (.dT kvs)) (eb:H b=some (.tup (k.map kV))) (hl:kvs.length < sizeLine) :
  Wy H a (.ref b) v (upd H a (.dT (putK kvs k v))):=.inr ⟨kvs,k,b,e,rq,eb,hl,rq⟩
section
variable {X:Cx} {jb:YC} {σ : St} {H:Hp} {s:Shared} {a:Addr} {y v:V} {u r:Value} {o:Option V} {A:Around} {E:YA}
end
section
variable {X:Cx} {jb:YC} {σ : St} {H:Hp} {s:Shared} {a:Addr} {kvs:YM} {k:Key} {u:Value} {A:Around} {E:YA}
end
def gH (i:Expr):Prop:=∀ov iv,subscripted i false ov iv=operate [ov,iv] (getItem ov iv)
theorem au {prog:Program} {w:World} {A:Around} {E:YA} {s:Shared} {env:Env} {value slice:Expr} {pos:Pos} {T id:String} {Q:YA}
  (hl:typeLookup (.type T) "__getitem__"=pure (some (.builtin id))) (hs:gH slice)
  (h:wpAny (model prog w) A (eval value env) (λo s₁=>wpAny (model prog w) A (eval slice env) (λi s₂=>s₂.TypeIs o T/\wpAny (model prog w) A (getItem o i) Q E s₂) E s₁) E s) :
  wpAny (model prog w) A (eval (.Subscript value slice pos) env) Q E s:=by
 refine Subscript_ (Qce h (λo s₁ h₁=>Qce h₁ (λi s₂ h₂=>?_) λ_ _ x=>x) λ_ _ x=>x);obtain⟨hT,h₂⟩:=h₂;unfold subscriptTail;refine Qcc ?_;rw[getitemInPython_of_ne hT.not_modules];refine Qcc (wpAny_specialOf hT hl ?_);have fin:wpAny (model prog w) A (subscripted slice false o i) (λr s₃=>wpAny (model prog w) A (letTemporaryGo value o r >>= λ_=>pure r) Q E s₃) E s₂:=by
  rw[hs o i];exact wpAny_operating (Qce h₂ (λr s₃ h₃=>Qcc (wpAny_letTemporaryGo (Qcd h₃))) λ_ _ x=>x)
 first
  | exact Qcd (Qcc fin)
  | exact Qcc (Qcd (Qcc fin))
  | exact Qcc fin
section
variable {X:Cx} {o i e value:Expr} {pos pos' tpos:Pos} {td ty tv:TE}
end
section
variable {X:Cx} {pos:Pos}
end
section
variable {X:Cx} {jb:YC} {σ : St} {H:Hp} {s:Shared} {a:Addr} {y d:V} {u r:Value} {o:Option V} {A:Around} {E:YA}
end
section
variable {X:Cx} {o e f:Expr} {apos cpos:Pos} {td ty tx:TE}
end
section
variable {X:Cx} {jb:YC} {σ : St} {H:Hp} {s:Shared} {a:Addr} {kvs:YM} {A:Around} {E:YA}
end
section
variable {X:Cx} {jb:YC} {σ : St} {H:Hp} {s:Shared} {a:Addr} {y:V} {u:Value} {A:Around} {E:YA}
end
section
variable {X:Cx}
end
section
variable {κ : Type} [DecidableEq κ]
end
end L2
namespace PySem
open Sem (wp)
section
variable {prog:Program} {w:World} {A:Around} {E:YA} {s:Shared}
theorem Jr {it l:Addr} {i:Nat} {items:Array Value} {x:Value} {Q:YA} (hit:s.heap.IsTupleIter it l i) (hl:s.heap.IsTuple l items) (hx:items[i]?=some x)
  (hQ:∀h',h'.IsTupleIter it l (i+1)->Heap.SameBut it s.heap h'->Q x { s with heap:=h' }):wpAny (model prog w) A (Builtin.SmallTypes.nextOf (.ref it)) Q E s:=by
 obtain⟨o,ho,hc,hd⟩:=id hit;obtain⟨ol,hol,_,nl,hdl⟩:=hl;unfold Builtin.SmallTypes.nextOf;refine Qcc (Qak (name:=Str.ofString "__next__") hit.typeIs Qaa (Qbl Qaa hit.typeIs PyProof.Rows.entry_tupleiter_next ?_ (PyProof.Rows.args_tupleiter_next _)));show wpAny _ _ (field (.ref it) 0 >>= _) _ _ s;refine Qcc (Qcb ho hd (x:=.ref l) rfl ?_);show wpAny _ _ (if (Value.ref l == Value.none)=true then _ else _) _ _ s
 rw[if_neg (show ¬((Value.ref l == Value.none)=true) from QaG)]
 show wpAny _ _ (field (.ref it) 1 >>= _) _ _ s;refine Qcc (Qcb ho hd (x:=.int i 0) rfl ?_);show wpAny _ _ (seqItems? (.ref l) >>= _) _ _ s;refine Qcc (QbI hol hdl ?_);simp only[QaY,hx];refine Qcc (wpAny_setField ho hd (by simp) (Qcd ⟨x,rq,Qcd (hQ _ ?_ (QaB ..))⟩));exact⟨_,Qar _ ho (Obj.isFreed_of_fields (Obj.data_mapFields hd _)),(Obj.cls_mapFields ..).trans hc,by rw[Obj.data_mapFields hd];simp[rawInt]⟩
theorem Hl {it l:Addr} {i:Nat} {items:Array Value} {Q:YA} (hh:A.handled=none) (hit:s.heap.IsTupleIter it l i) (hl:s.heap.IsTuple l items) (hx:items[i]?=none)
  (hE:∀h' e,Heap.ExtBut it s.heap h'->(∃o,h'.get? e=some o/\o.cls=.type "StopIteration")->E (.ref e) { s with heap:=h' }):wpAny (model prog w) A (Builtin.SmallTypes.nextOf (.ref it)) Q E s:=by
 obtain⟨o,ho,hc,hd⟩:=id hit;obtain⟨ol,hol,_,nl,hdl⟩:=hl;unfold Builtin.SmallTypes.nextOf;refine Qcc (Qak (name:=Str.ofString "__next__") hit.typeIs Qaa (Qbl Qaa hit.typeIs PyProof.Rows.entry_tupleiter_next ?_ (PyProof.Rows.args_tupleiter_next _)));show wpAny _ _ (field (.ref it) 0 >>= _) _ _ s;refine Qcc (Qcb ho hd (x:=.ref l) rfl ?_);show wpAny _ _ (if (Value.ref l == Value.none)=true then _ else _) _ _ s
 rw[if_neg (show ¬((Value.ref l == Value.none)=true) from QaG)]
 show wpAny _ _ (field (.ref it) 1 >>= _) _ _ s;refine Qcc (Qcb ho hd (x:=.int i 0) rfl ?_);show wpAny _ _ (seqItems? (.ref l) >>= _) _ _ s;refine Qcc (QbI hol hdl ?_);simp only[QaY,hx];refine Qcc (Qcf (Qcc (wpAny_setField ho hd (by simp) ?_)));show wpAny _ _ (newExc (.type "StopIteration") [] >>= _) _ _ _;refine Qcc ?_;simp only[newExc,newTuple];refine Qcc (Qbb ?_ (by size_fits));refine Qcc (m:=firstArgMember _ _) (wpAny_of_eq (a:=Value.none) (by first | rfl | (simp only[firstArgMember];rfl)) ?_)
 refine Qbb ?_ (by size_fits);simp only[raiseNew];refine Qcc (wpAny_handled ?_)
 first | rw[show A.in1.handled=none from hh] | rw[hh]
 refine Qcc (Qcd (wpAny_throw ?_));exact hE _ _ (((QaB ..).extBut.push _).push _) ⟨_,Qaz _ rfl,rq⟩
theorem Tn {e it l:Addr} {i:Nat} {j:Int} {items:Array Value} {old:Value} {Q:Option Value->Shared->Prop} (hh:A.handled=none) (he:IsEnum s.heap e it j old) (hit:s.heap.IsTupleIter it l i) (hl:s.heap.IsTuple l items) (hx:items[i]?=none)
  (hQ:∀h',Heap.ExtBut it s.heap h'->Q none { s with heap:=h' }):wpAny (model prog w) A (pyNext (.ref e)) Q E s:=by
 have hT:s.TypeIs (.ref e) "enumerate":=⟨_,he,rq⟩;unfold pyNext;refine Qcc (QbS (Qak (name:=Str.ofString "__next__") hT F.slot_enumerate_next (Qbl F.slot_enumerate_next hT F.entry_enumerate_next ?_ (F.args_enumerate_next_1 _))));show wpAny _ _ (field (.ref e) 2 >>= _) _ _ _;refine Qcc (Qcb he rfl (x:=.ref it) rfl (Qcc (Hl hh hit hl hx λh' x he' hx'=>?_)));obtain⟨o,ho,hc⟩:=hx';exact Qcc (wpAny_isInstance (T:="StopIteration") (b:=true) ⟨o,ho,hc⟩ isSubtype_stop (Qcd (hQ _ he')))
end
theorem Draws.tup {prog:Program} {w:World} {A:Around} (hh:A.handled=none) (it l:Addr) (hne:l≠it) (items:Array Value) :
  Draws prog w A it [it,l] items.size (λi v=>items[i]?=some v) (λi h=>h.IsTupleIter it l i/\h.IsTuple l items) where
 live:=λ_ _ st=>let ⟨o,ho,_⟩:=st.1;⟨o,ho⟩
 frame:=λ_ _ _ st hk=>⟨st.1.at λo e=>hk it (by simp) o e,let ⟨o,e,r⟩:=st.2;⟨o,hk l (by simp) o e,r⟩⟩
 item:=λi s Q E hi st hQ=>Jr st.1 st.2 (x:=items[i]) (by simp[hi]) λh' hit' hs'=>hQ _ h' s.toks (by simp[hi]) ⟨hit',let ⟨o,e,r⟩:=st.2;⟨o,hs'.extBut _ _ hne e,r⟩⟩ hs'
 done:=λs Q E st hE=>Hl hh st.1 st.2 (by simp) hE
theorem Draws.from {prog:Program} {w:World} {A:Around} {it:Addr} {fp:List Addr} {n:Nat} {P:Nat->Value->Prop} {St:Nat->Heap->Prop} (D:Draws prog w A it fp n P St) (k:Nat) :
  Draws prog w A it fp (k+n) (λj v=>∃i,j=k+i/\P i v) (λj h=>∃i,j=k+i/\i<=n/\St i h) where
 live:=λ_ _ ⟨i,_,_,st⟩=>D.live i _ st
 frame:=λ_ _ _ ⟨i,e,hi,st⟩ hk=>⟨i,e,hi,D.frame i _ _ st hk⟩
 item:=λj s Q E hj ⟨i,e,hi,st⟩ hQ=>D.item i s Q E (by omega) st λx h' tk p st' sb=>hQ x h' tk ⟨i,e,p⟩ ⟨i+1,by omega,by omega,st'⟩ sb
 done:=λs Q E ⟨i,e,hi,st⟩ hE=>by
  have:i=n:=by omega
  subst this;exact D.done s Q E st hE
end PySem
namespace L2
open PySem PySem.Spec PyProof.Rows
section
variable {X:Cx} {jb:YC} {σ : St} {H:Hp} {s:Shared} {h':Heap}
theorem Inv.Lb {t':Nat} {fp:List Addr} {t:Addr} {o:HO} (I:Inv X jb σ H s) (ht:s.heap.objs.size<=t) (k:∀b u,b∉fp->s.heap.get? b=some u->h'.get? b=some u) (hf:∀b∈fp,Hr X jb H b) (new:Cj X.prog X.w (upd H t o) h' t o) :
  Inv X jb σ (upd H t o) { s with heap:=h',toks:=t' }:=by
 have nt:=I.hok.fresh ht;have old:∀b u,s.heap.get? b=some u->b≠t:=λb u e z=>absurd (QaH (QbT e) ht) (by rw[z];exact QbO _);have nf:∀b u,H b=some u->b∉fp:=λb u e z=>by rw[(hf b z).1] at e;cases e
 have tr:∀b u,H b=some u->(upd H t o) b=some u:=λb u e=>by rw[Bp (BJ e nt)];exact e
 refine I.step (g':=s.gens) (d':=s.drawn) (ch:=fp) (λb hb=>?_) (λb u _ _ hc e _=>k b u hc e) (λb u _ _ hc e _=>⟨u.slots,k b u hc e⟩) (λb u hc e n=>by rw[Bp (old b u e)];exact n)
  (λb u hc e=>⟨u,k b u hc e⟩) (λ_ _ e=>tr _ _ e) (λ_ _ _ e=>tr _ _ e) (λb ps e=>⟨#[],by rw[tr _ _ e];simp⟩) (λm hm=>?_) (λb u e=>?_) I.bare
 ·obtain⟨_,f1,_,f3,f4,f5⟩:=hf b hb;exact⟨f3,f1,f4,f5⟩
 ·obtain⟨u,es,ep,hu,r⟩:=hm;exact⟨u,es,ep,k _ u (λz=>(hf _ z).2.1 rfl) hu,r⟩
 ·by_cases hb:b=t
  ·subst hb;rw[Ad] at e;cases e;exact new
  ·rw[Bp hb] at e;refine (I.hok b u e).stay (λc v hc q=>k c v ?_ q) (λc q=>tr _ _ q) λc xs q=>tr _ _ q;rcases hc with z | z
   ·rw[z];exact nf b u e
   ·exact nf c _ z
theorem Inv.Om {t':Nat} {fp:List Addr} (I:Inv X jb σ H s) (k:∀b u,b∉fp->s.heap.get? b=some u->h'.get? b=some u) (hf:∀b∈fp,Hr X jb H b):Inv X jb σ H { s with heap:=h',toks:=t' }:=by
 have nf:∀b u,H b=some u->b∉fp:=λb u e z=>by rw[(hf b z).1] at e;cases e
 refine I.step (g':=s.gens) (d':=s.drawn) (ch:=fp) (λb hb=>?_) (λb u _ _ hc e _=>k b u hc e) (λb u _ _ hc e _=>⟨u.slots,k b u hc e⟩) (λb u hc e n=>n)
  (λb u hc e=>⟨u,k b u hc e⟩) (λ_ _ e=>e) (λ_ _ _ e=>e) (λb ps e=>⟨#[],by rw[e];simp⟩) (λm hm=>?_) (λb u e=>?_) I.bare
 ·obtain⟨_,f1,_,f3,f4,f5⟩:=hf b hb;exact⟨f3,f1,f4,f5⟩
 ·obtain⟨u,es,ep,hu,r⟩:=hm;exact⟨u,es,ep,k _ u (λz=>(hf _ z).2.1 rfl) hu,r⟩
 ·refine (I.hok b u e).stay (λc v hc q=>k c v ?_ q) (λ_ q=>q) λ_ _ q=>q;rcases hc with z | z
  ·rw[z];exact nf b u e
  ·exact nf c _ z
end
def KH (K:YD) (a:Addr) (lo:Nat):It:=
 ⟨λi H=>∃xs x,SqT K H a xs/\xs[i]?=some x,λi H v H'=>∃p x,H p=none/\v=.ref p/\H'=upd H p (.tup [.int ((lo+i:Nat):Int),x])/\∀xs,SqT K H a xs->xs[i]?=some x,λi H=>∃xs,SqT K H a xs/\xs.length<=i⟩
theorem Vp {P:Program} {w:World} {K:YD} {elts:YJ} {k:Nat} {pos:Pos} (a e it:Addr) (lo:Nat) (nei:e≠it):Turn P w K (.Tuple elts k pos) (KH K a lo) [e,it] e (λi h=>(∃old,IsEnum h e it ((lo+i:Nat):Int) old)/\h.IsTupleIter it a i) where
 mem:=by simp
 obj:=λi h st b hb=>by
  obtain⟨⟨old,he⟩,o,ho,hc,hd⟩:=st;rcases QbK.mp hb with rfl | hb
  ·exact⟨_,he,λv z=>by cases (show Data.fields _=Data.cell v from z)⟩
  ·have:b=it:=by simpa using hb
   subst this;exact⟨o,ho,λv z=>by rw[hd] at z;cases z⟩
 keep:=λi h h' st k=>by
  obtain⟨⟨old,he⟩,hi⟩:=st;exact⟨⟨old,k e (by simp) _ he⟩,hi.at λo q=>k it (by simp) o q⟩
 item:=by
  intro X hP hw hK hc i jb s σ H E I hf st hg;subst hP hw hK;obtain⟨xs,x,hq,hx⟩:=hg;obtain⟨its,rv,p,hz⟩:=I.tuple hq;obtain⟨u,hu,ru⟩:=rv.get hx;obtain⟨⟨old,he⟩,hit⟩:=st;have hts:s.heap.IsTuple a its.toArray:=p;have ane:a≠e:=λz=>by
   obtain⟨o,ho,hcl,_⟩:=hts;rw[z,he] at ho;cases ho;injection hcl with q;exact absurd q (by decide)
  have ani:a≠it:=λz=>by
   obtain⟨o,ho,hcl,_⟩:=hts;obtain⟨o',ho',hcl',_⟩:=hit;rw[z,ho'] at ho;cases ho;rw[hcl'] at hcl;injection hcl with q;exact absurd q (by decide)
  have hlt:i < its.toArray.size:=by
   have:=(Qaf.mp hu).1;simpa using this
  have D:=(Draws.tup (prog:=X.prog) (w:=X.w) (A:=X.A.in1) (I.ok.hd hc) it a ani its.toArray).from lo;refine wpAny_pyNext_enum_itemD D he ⟨i,rq,Nat.le_of_lt hlt,hit,hts⟩ (by omega) nei (by simp[nei,ane.symm]) λy h1 tk hP ho hst hT hsz hk=>?_;obtain⟨i',ei,hy⟩:=hP;have:i'=i:=by omega
  subst this;have ey:y=u:=by
   have h2:its.toArray[i']?=some u:=by simpa using hu
   rw[h2] at hy;exact (Qbv hy).symm
  subst ey;refine⟨_,rq,wpAny_letOwnedTupleGo_enum ho λh2 he2 hs2=>?_⟩;have hlt2:s.heap.objs.size≠e:=QbX (QbT he);have hT2:h2.get? s.heap.objs.size=some { cls:=.type "tuple",data:=.seq #[.int ((lo+i':Nat):Int) tk,y] }:=(hs2.2 _ hlt2).trans hT;have new:Cj X.prog X.w (upd H s.heap.objs.size (.tup [.int ((lo+i':Nat):Int),x])) h2 s.heap.objs.size (.tup [.int ((lo+i':Nat):Int),x]):=
   ⟨by show 2<=sizeLine;decide,[.int ((lo+i':Nat):Int) tk,y],.cons ⟨tk,rq⟩ (.cons ru .nil),_,hT2,rq,0,rq⟩
  have I1:=I.Lb (h':=h2) (t':=tk+1) (QbZ _) (λb q hb z=>(hs2.2 b (λw=>hb (by simp[w]))).trans (hk b q (λw=>hb (by simp[w])) (λw=>hb (by simp[w])) z)) hf new;refine⟨.ref s.heap.objs.size,_,I1,rq,⟨s.heap.objs.size,x,I.hok.fresh (QbZ _),rq,rq,λys hy'=>by rw[I.Qe hy' hq];exact hx⟩,⟨⟨y,?_⟩,?_⟩,λb hb=>?_⟩
  ·have:=he2;rw[show ((lo+(i'+1):Nat):Int)=((lo+i':Nat):Int)+1 by omega];exact this
  ·obtain⟨i2,e2,_,st2,_⟩:=hst;have:i2=i'+1:=by omega
   subst this;exact st2.at λo q=>(hs2.2 it (Ne.symm nei)).trans q
  ·have hb':b < s.heap.objs.size:=by
    rcases QbK.mp hb with rfl | hb
    ·exact QbT he
    ·have:b=it:=by simpa using hb
     subst this;obtain⟨o,ho',_⟩:=hit;exact QbT ho'
   rw[Bp (QbU hb')];exact (hf b hb).1
 done:=by
  intro X hP hw hK hc i jb s σ H E I hf st hg;subst hP hw hK;obtain⟨xs,hq,hx⟩:=hg;obtain⟨its,rv,p,hz⟩:=I.tuple hq;obtain⟨⟨old,he⟩,hit⟩:=st;have hl:=rv.length;exact Tn (I.ok.hd hc) he hit (show s.heap.IsTuple a its.toArray from p) (by simp;omega) λh' eb=>⟨rq,I.Om (t':=s.toks) (λb o hb q=>eb b o (λz=>hb (by simp[z])) q) hf⟩
 self:=λ_ _ _ _ _ st h=>let ⟨⟨_,he⟩,_⟩:=st;wpAny_pyIter_enum he h
end L2
namespace PySem
open Sem (wp)
open AutoSeq1 (wpAny_loadPart')
theorem Pn (l:Addr) (items:Array Value) (n:Nat) (dct:Option Addr) (sl:YI) :
  Meets (Builtin.«enumerate.__new__» ⟨[.type "enumerate",.ref l],[]⟩) (λ_ R s=>s.heap.get? l=some { cls:=.type "tuple",dict:=dct,data:=.seq items n,slots:=sl } /\
   R (.ok (.ret (.ref (s.heap.push { cls:=.type "tuple_iterator",data:=.fields #[.ref l,.int 0 0] }).objs.size)))
    { s with heap:=(s.heap.push { cls:=.type "tuple_iterator",data:=.fields #[.ref l,.int 0 0] }).push { cls:=.type "enumerate",data:=.fields #[.none,.bool false,.ref s.heap.objs.size,rawInt 0,.none,.none] } }):=
 .of_wp λprog w A R s h=>by
  obtain⟨hp,g,d,tk,os⟩:=s;obtain⟨hl,h⟩:=h;have hsub:=sub_enumerate;have hL:Heap.IsTuple (Shared.heap ⟨hp,g,d,tk,os⟩) l items:=⟨_,hl,rq,n,rq⟩
  wp_walk using wpAny_loadPart' hl
  refine wpAny_stack_any λst=>Qcd ?_;split
  ·rename_i c _ _ _ _ _;cases (c == Value.type "enumerate")
   ·wp_walk using wpAny_loadPart' hl,QaN hL
    exact⟨_,rq,h⟩
   ·wp_walk using wpAny_loadPart' hl,QaN hL
    exact⟨_,rq,h⟩
  ·wp_walk using wpAny_loadPart' hl,QaN hL
   exact⟨_,rq,h⟩
end PySem
namespace PySem
open Sem (wp)
section
variable {prog:Program} {w:World} {A:Around} {E:YA} {s:Shared}
end
end PySem
namespace PyProof.Rows
open PySem
section
variable {M:Model} {A:Around} {E:YA} {s:Shared} {env:Env}
end
end PyProof.Rows
namespace L2
open PySem PySem.Spec PyProof.Rows
section
variable {X:Cx}
theorem bI {jb:YC} {σ : St} {H:Hp} {s:Shared} {R:It->Hp->Prop} {E:YA} {elts:YJ} {k:Nat} {pos:Pos} {a:Addr} {lo:Nat} {tk:Nat} (I:Inv X jb σ H s) (q:R (KH X.K a lo) H) :
  wpAny (model X.prog X.w) X.A (pyIter (.ref (s.heap.objs.size+1))) (PIE X jb σ (.Tuple elts k pos) R) E
   { s with heap:=(s.heap.push { cls:=.type "tuple_iterator",data:=.fields #[.ref a,.int 0 0] }).push { cls:=.type "enumerate",data:=.fields #[.none,.bool false,.ref s.heap.objs.size,rawInt (lo:Int),.none,.none] },toks:=tk }:=by
 have hz:(s.heap.push { cls:=.type "tuple_iterator",data:=.fields #[.ref a,.int 0 0] }).objs.size=s.heap.objs.size+1:=QbG ..;have he:IsEnum ((s.heap.push { cls:=.type "tuple_iterator",data:=.fields #[.ref a,.int 0 0] }).push { cls:=.type "enumerate",data:=.fields #[.none,.bool false,.ref s.heap.objs.size,rawInt (lo:Int),.none,.none] }) (s.heap.objs.size+1) s.heap.objs.size (lo:Int) .none:=by
  have:=Qaz (s.heap.push { cls:=.type "tuple_iterator",data:=.fields #[.ref a,.int 0 0] }) (o:={ cls:=.type "enumerate",data:=.fields #[.none,.bool false,.ref s.heap.objs.size,rawInt (lo:Int),.none,.none] }) rfl;rw[hz] at this;exact this
 refine wpAny_pyIter_enum he ⟨s.heap.objs.size+1,[s.heap.objs.size+1,s.heap.objs.size],_,_,H,rq,I.kept (t':=tk) λb o e=>Qam _ (Qam _ e),Vp a (s.heap.objs.size+1) s.heap.objs.size lo (Nat.succ_ne_self _),⟨⟨.none,he⟩,⟨_,Qam _ (Qaz _ rfl),rq,rq⟩⟩,λb hb=>?_,q⟩;have hb':s.heap.objs.size<=b:=by
  simp only[QbK,Qbh,Qch] at hb;rcases hb with rfl | rfl
  ·exact Nat.le_succ _
  ·exact QbZ _
 exact I.PN hb' (I.hok.fresh hb')
end
section
variable {X:Cx}
def je (K:YD) (lo:Nat) (tl:TE):TI:=fun σ H R=>tl σ H λx H1=>∃a,x=.ref a/\(∃xs,SqT K H1 a xs)/\R (KH K a lo) H1
theorem Wr {jb:YC} {σ : St} {H:Hp} {s:Shared} {R:It->Hp->Prop} {elts:YJ} {k:Nat} {pos:Pos} {a:Addr} {xs:YG} (I:Inv X jb σ H s) (hq:SqT X.K H a xs) (q:R (KH X.K a 0) H) :
  wpAny (model X.prog X.w) X.A (call (.type "enumerate") [.ref a]) (λv s1=>wpAny (model X.prog X.w) X.A (pyIter v) (PIE X jb σ (.Tuple elts k pos) R) X.xe s1) X.xe s:=by
 obtain⟨its,rv,p,hz⟩:=I.tuple hq;obtain⟨⟨c,dct,dt,sl⟩,hl,hc,n,hd⟩:=id p;replace hc:c=.type "tuple":=hc;replace hd:dt=.seq its.toArray n:=hd;subst hc hd;refine callType_new F.called_enumerate (by decide) (F.typeCall_enumerate_1 _) (F.newCall_enumerate_1 _) (λobj=>F.args_object_init_2 obj _) F.entry_enumerate_new (Pn a its.toArray n dct sl) ⟨hl,?_⟩;have hz:(s.heap.push { cls:=.type "tuple_iterator",data:=.fields #[.ref a,.int 0 0] }).objs.size=s.heap.objs.size+1:=QbG ..;show _/\_;refine⟨⟨_,Qaz _ rfl,rq⟩,?_⟩;rw[hz];exact bI (lo:=0) (tk:=s.toks) I q
end
section
variable {X:Cx}
theorem YZ {x:Expr} {tx:TE} {p pos tp:Pos} {elts:YJ} {k:Nat} (hg:Gl X "enumerate") (hm:X.mg "enumerate"=none) (hl:PE X x tx) (hs:starEach [x] X.env=[(false,eval x X.env)]:=by rfl):PI X (.Tuple elts k tp) (.Call (.Name "enumerate" p) [x] [] pos) (je X.K 0 tx):=by
 intro jb s σ H R I h;refine Call_ (G5 I hg hm boot_enumerate (Qac (thn ((Aa hl Ab (by rw[hs];rfl)) pos jb s σ H (λvs H1=>match vs with | [v]=>∃a,v=.ref a/\(∃xs,SqT X.K H1 a xs)/\R (KH X.K a 0) H1 | _=>False) I h) λus s1 ⟨vs,H1,I1,r1,q1⟩=>?_) hs rfl))
 cases r1 with
 | nil=>exact False.elim q1
 | cons r rr=>
  cases rr with
  | nil=>
   obtain⟨a,e,⟨xs,hq⟩,q⟩:=q1;subst e;cases r;exact Wr I1 hq q
  | cons _ _=>exact False.elim q1
theorem mR {K:YD} {a:Addr} {lo:Nat} {xs:YG} {g:TG} {tb:TS} {D:Ends} {σ : St} {H:Hp} (Pv:YN) (h0:Pv 0 σ H) (hl:∀i σ H',i<=xs.length->Pv i σ H'->SqT K H' a xs)
  (hs:∀i x p σ H',xs[i]?=some x->Pv i σ H'->H' p=none->g (.ref p) σ (upd H' p (.tup [.int ((lo+i:Nat):Int),x])) fun σ2 H2=>tb { D with nx:=Pv (i+1),ct:=Pv (i+1),bk:=D.nx } σ2 H2) (hd:∀ σ H',Pv xs.length σ H'->D.nx σ H') :
  ∃W:Nat->YN,(∃m,W 0 m σ H)/\∀i m σ H,W i m σ H ->
   ((KH K a lo).stop i H/\D.nx σ H)\/((KH K a lo).go i H/\∃N:YO,(∀ σ' H',N σ' H'->∃m',m' < m/\W (i+1) m' σ' H')/\∀x H',(KH K a lo).yld i H x H'->g x σ H' fun σ2 H2=>tb { D with nx:=N,ct:=N,bk:=D.nx } σ2 H2):=by
 refine⟨λi m σ H=>m=xs.length - i/\i<=xs.length/\Pv i σ H,⟨xs.length,by simp,Qca _,h0⟩,?_⟩;rintro i m σ H ⟨rfl,hi,p⟩;have q:=hl i σ H hi p;by_cases hlt:i < xs.length
 ·refine .inr ⟨⟨xs,xs[i],q,by simp[hlt]⟩,Pv (i+1),fun σ3 H3 p'=>⟨xs.length - (i+1),by omega,rq,hlt,p'⟩,λv H2 y=>?_⟩;obtain⟨pa,x,hn,rfl,rfl,hx⟩:=y;exact hs i x pa σ _ (hx xs q) p hn
 ·have e:i=xs.length:=by omega
  subst e;exact .inl ⟨⟨xs,q,QbZ _⟩,hd σ H p⟩
theorem Yc {K:YD} {a l:Addr} {lo:Nat} {xs:YG} {g:TG} {tt:TT} {te:TE} {Q:VK} {σ0:St} {H0:Hp} (Pv:YN)
  (h0:Pv 0 σ0 H0) (hl:∀i σ H',i<=xs.length->Pv i σ H'->SqT K H' a xs)
  (hs:∀i x p σ H',xs[i]?=some x->Pv i σ H'->H' p=none->g (.ref p) σ (upd H' p (.tup [.int ((lo+i:Nat):Int),x])) fun σ3 H3=>tt σ3 H3 λb H4=>if b=true then te σ3 H4 λy H5=>∃ys,H5 l=some (.lst ys)/\ys.length < sizeLine/\Pv (i+1) σ3 (upd H5 l (.lst (ys++[y]))) else Pv (i+1) σ3 H4)
  (hd:∀ σ H',Pv xs.length σ H'->Q (.ref l) H'):Ef (KH K a lo) g tt te Q σ0 H0 l:=by
 unfold Ef;refine⟨λi m σ H'=>m=xs.length - i/\i<=xs.length/\Pv i σ H',⟨xs.length,by simp,Qca _,h0⟩,?_⟩;rintro i m σ H' ⟨rfl,hi,p⟩;have q:=hl i σ H' hi p;by_cases hlt:i < xs.length
 ·refine .inr ⟨⟨xs,xs[i],q,by simp[hlt]⟩,Pv (i+1),fun σ3 H3 p'=>⟨xs.length - (i+1),by omega,rq,hlt,p'⟩,λv H2 y=>?_⟩;obtain⟨pa,x,hn,rfl,rfl,hx⟩:=y;exact hs i x pa σ _ (hx xs q) p hn
 ·have e:i=xs.length:=by omega
  subst e;exact .inl ⟨⟨xs,q,QbZ _⟩,hd σ H' p⟩
end
section
variable {X:Cx}
theorem range_any (bs:List Bool):((List.range bs.length).any λi=>(bs[i]?).getD false)=bs.any id:=by
 induction bs with
 | nil=>rfl
 | cons b r ih=>
  rw[Qbj,List.range_succ_eq_map,QbR,List.any_map,QbR];show ((some b).getD false || _)=_;rw[show ((λi=>((b::r)[i]?).getD false) ∘ Nat.succ)=λi=>(r[i]?).getD false from by funext i;simp[Function.comp]]
  rw[ih];rfl
theorem Tv (hc:X.calm=true):Ea X (.builtin "any") (λxs H Q=>∃(p:Addr) (bs:List Bool),xs=[.ref p]/\SqL X.K H p (bs.map V.bl)/\Q (.bl (bs.any id)) H):=by
 intro jb s σ H xs us Q I r h;obtain⟨p,bs,rfl,hq,q⟩:=h;obtain⟨u,rfl,rx⟩:=vals1 r;cases rx;obtain⟨its,rv,pl,hz⟩:=I.list hq;have hb:=Nr rv;have hl:=pl.isList;have hlt:p < s.heap.objs.size:=by obtain⟨_,e,_⟩:=hl;exact QbT e
 refine call_any_walk (Qba hl ?_);refine⟨s.heap.objs.size,[s.heap.objs.size,p],[s.heap.objs.size],its.toArray.size,_,_,λi=>(bs[i]?).getD false,rq,Walks.list (A:=X.A.in1) (I.ok.hd hc) _ p (QbU hlt) its.toArray,
  ⟨⟨_,Qaz _ rfl,rq,rq⟩,hl.push _⟩,λi v s' Q' E' hP hQ=>?_,λh' tk hk=>?_⟩
 ·obtain⟨b,e,rfl⟩:=hb.get i v (by simpa using hP);simp only[e,Option.getD_some] at hQ;exact QaW hQ
 ·have e:((List.range its.toArray.size).any λi=>(bs[i]?).getD false)=bs.any id:=by
   rw[QaT,hb.length];exact range_any bs
  rw[e];exact⟨.bl (bs.any id),H,I.kept (LSm.kept_iter hk),rq,q⟩
def gK (i j:Int):Prop:=i.natAbs < 2 ^ 8000/\j.natAbs < 2 ^ 8000
theorem TF {k:Int} (h:k.natAbs < 2 ^ 8000):Builtin.Int.intBits k<=8000:=by
 unfold Builtin.Int.intBits;split
 ·exact Qca _
 ·rcases Nat.eq_zero_or_pos k.natAbs with h0 | hp
  ·rw[h0];decide
  ·have:=(Nat.log2_lt (QbX hp)).mpr h;omega
theorem gK.ok {i j:Int} (h:gK i j):IntMulOk i j:=by
 have h1:=TF h.1;have h2:=TF h.2;unfold IntMulOk;have e:Builtin.Int.intTooBig (Builtin.Int.intBits i+Builtin.Int.intBits j)=false:=by
  unfold Builtin.Int.intTooBig;rw[bitsLine_eq];exact Qbu (by omega)
 rw[e,Bool.and_false];exact QaG
end
end L2
namespace PySem.ZZ
open PySem
section
variable {prog:Program} {w:World} {A:Around} {E:YA} {s:Shared}
theorem Np {M:Model} {α β : Type} {Q:β->Shared->Prop} {body:α->β->Sem (ForInStep β)} (J:List α->β->Shared->Prop) (hnil:∀b s,J [] b s->Q b s)
  (hstep:∀x r b s,J (x::r) b s->wpAny M A (body x b) (λst s'=>match st with | .yield b'=>J r b' s' | .done b'=>Q b' s') E s):∀(l:List α) (b:β) (s:Shared),J l b s->wpAny M A (forIn l b body) Q E s
 | [],b,s,h=>by
  rw[List.forIn_nil];exact Qcd (hnil b s h)
 | x::r,b,s,h=>by
  rw[List.forIn_cons];refine Qcc (Qce (hstep x r b s h) (λst s' q=>?_) λ_ _ e=>e);cases st with
  | yield b'=>exact Np J hnil hstep r b' s' q
  | done b'=>exact Qcd q
structure Src where
 it:Addr
 a:Addr
 items:Array Value
def SrcAt (h:Heap) (x:Src) (i:Nat):Prop:=(h.IsListIter x.it x.a i/\h.IsList x.a x.items)\/(h.IsTupleIter x.it x.a i/\h.IsTuple x.a x.items)
theorem SrcAt.keep {h h':Heap} {x:Src} {i:Nat} (q:SrcAt h x i) (k1:∀o,h.get? x.it=some o->h'.get? x.it=some o) (k2:∀o,h.get? x.a=some o->h'.get? x.a=some o):SrcAt h' x i:=by
 rcases q with⟨q1,q2⟩|⟨q1,o,e,r⟩
 ·exact .inl ⟨q1.at k1,q2.at k2⟩
 ·exact .inr ⟨q1.at k1,o,k2 o e,r⟩
theorem SrcAt.ne {h:Heap} {x:Src} {i:Nat} (q:SrcAt h x i):x.a≠x.it:=λz=>by
 rcases q with⟨⟨o,e,c,_⟩,⟨o',e',c',_⟩⟩|⟨⟨o,e,c,_⟩,⟨o',e',c',_⟩⟩
 ·rw[z,e] at e';cases e';rw[c] at c';injection c' with y;exact absurd y (by decide)
 ·rw[z,e] at e';cases e';rw[c] at c';injection c' with y;exact absurd y (by decide)
theorem SrcAt.ex {h:Heap} {x:Src} {i:Nat} (q:SrcAt h x i):(∃o,h.get? x.it=some o)/\∃o,h.get? x.a=some o:=by
 rcases q with⟨⟨o,e,_⟩,⟨o',e',_⟩⟩|⟨⟨o,e,_⟩,⟨o',e',_⟩⟩
 ·exact⟨⟨o,e⟩,o',e'⟩
 ·exact⟨⟨o,e⟩,o',e'⟩
theorem Rf {x:Src} {i:Nat} {v:Value} {Q:YA} (q:SrcAt s.heap x i) (hx:x.items[i]?=some v) (hQ:∀h',SrcAt h' x (i+1)->Heap.SameBut x.it s.heap h'->Q v { s with heap:=h' }) :
  wpAny (model prog w) A (Builtin.SmallTypes.nextOf (.ref x.it)) Q E s:=by
 have ne:=q.ne;rcases q with⟨q1,q2⟩|⟨q1,q2⟩
 ·exact wpAny_nextOf_list_item q1 q2 hx λh' i1 sb=>hQ h' (.inl ⟨i1,q2.at λo e=>sb.extBut _ _ ne e⟩) sb
 ·exact Jr q1 q2 hx λh' i1 sb=>hQ h' (.inr ⟨i1,let ⟨o,e,r⟩:=q2;⟨o,sb.extBut _ _ ne e,r⟩⟩) sb
theorem aA {x:Src} {i:Nat} {Q:YA} (hh:A.handled=none) (q:SrcAt s.heap x i) (hx:x.items[i]?=none)
  (hE:∀h' e,Heap.ExtBut x.it s.heap h'->(∃o,h'.get? e=some o/\o.cls=.type "StopIteration")->E (.ref e) { s with heap:=h' }):wpAny (model prog w) A (Builtin.SmallTypes.nextOf (.ref x.it)) Q E s:=by
 rcases q with⟨q1,q2⟩|⟨q1,q2⟩
 ·exact wpAny_nextOf_list_end hh q1 q2 hx hE
 ·exact Hl hh q1 q2 hx hE
abbrev IsZ (h:Heap) (z TI TO:Addr) (f0 f1:Value):Prop:=h.get? z=some { cls:=.type "zip",dict:=none,data:=.fields #[f0,f1,.bool false,.ref TI,.ref TO],slots:=#[] }
abbrev Ce (h:Heap) (T:Addr) (xs:YE):Prop:=h.get? T=some { cls:=.type "tuple",data:=.seq xs.toArray }
structure Apart (z TI TO:Addr) (ls:List Src):Prop where
 TIz:TI≠z
 TOz:TO≠z
 TITO:TI≠TO
 it:∀x∈ls,x.it≠z/\x.it≠TI/\x.it≠TO
 a:∀x∈ls,x.a≠z/\x.a≠TO
 ai:∀x∈ls,∀y∈ls,x.a≠y.it
 nd:(ls.map (·.it)).Nodup
def Rest (z TO:Addr) (ls:List Src) (h h':Heap):Prop:=∀c o,c≠z->c≠TO->c∉ls.map (·.it)->h.get? c=some o->h'.get? c=some o
theorem aB {xs olds:YE} {k:Nat} {v:Value} (hk:k < olds.length) (hx:xs.length=olds.length) (e:xs[k]?=some v):(xs.take k++olds.drop k).toArray.setIfInBounds k v=(xs.take (k+1)++olds.drop (k+1)).toArray:=by
 rw[List.setIfInBounds_toArray];congr 1;have hl:(xs.take k).length=k:=by rw[Qbi];omega
 rw[List.set_append_right _ _ (by omega),hl,Nat.sub_self,Qai hk,List.set_cons_zero,List.take_add_one,e];simp
structure Mid (z TI TO:Addr) (ls:List Src) (xs olds:YE) (i:Nat) (f0 f1:Value) (h:Heap) (k:Nat) (h':Heap):Prop where
 hz:IsZ h' z TI TO f0 f1
 hTI:Ce h' TI (ls.map λx=>.ref x.it)
 done:∀j x,ls[j]?=some x->SrcAt h' x (if j < k then i+1 else i)
 rest:Rest z TO ls h h'
 size:h'.objs.size=h.objs.size
theorem Mid.draw {z TI TO:Addr} {ls:List Src} {xs olds:YE} {i:Nat} {f0 f1:Value} {h h1 h2:Heap} {k:Nat} {x:Src} (D:Apart z TI TO ls) (m:Mid z TI TO ls xs olds i f0 f1 h k h1) (hx:ls[k]?=some x) (q:SrcAt h2 x (i+1)) (sb:Heap.SameBut x.it h1 h2) :
  Mid z TI TO ls xs olds i f0 f1 h (k+1) h2:=by
 have hm:=Qau hx;have hi:=D.it x hm;refine⟨sb.extBut _ _ hi.1.symm m.hz,sb.extBut _ _ hi.2.1.symm m.hTI,λj y hy=>?_,λc o c1 c2 c3 e=>sb.extBut _ _ (λz=>c3 (z ▸ QbW.mpr ⟨x,hm,rq⟩)) (m.rest c o c1 c2 c3 e),by rw[sb.1,m.size]⟩;by_cases hj:j=k
 ·subst hj;rw[hx] at hy;cases hy;rw[if_pos (Qbp _)];exact q
 ·have h1:=m.done j y hy;have hne:y.it≠x.it:=λz=>hj (by
   have e1:(ls.map (·.it))[j]?=some y.it:=by rw[QaU,hy];rfl
   have e2:(ls.map (·.it))[k]?=some x.it:=by rw[QaU,hx];rfl
   rw[z] at e1;have l1:=(Qaf.mp e1);have l2:=(Qaf.mp e2);exact (List.getElem_inj D.nd).mp (l1.2.trans l2.2.symm))
  have hc:(if j < k+1 then i+1 else i)=(if j < k then i+1 else i):=by
   by_cases c:j < k
   ·rw[if_pos c,if_pos (by omega)]
   ·rw[if_neg c,if_neg (by omega)]
  rw[hc];exact h1.keep (λo e=>sb.extBut _ _ hne e) (λo e=>sb.extBut _ _ (D.ai y (Qau hy) x hm) e)
theorem Mid.other {z TI TO:Addr} {ls:List Src} {xs olds:YE} {i:Nat} {f0 f1:Value} {h h1 h2:Heap} {k:Nat} (D:Apart z TI TO ls) (m:Mid z TI TO ls xs olds i f0 f1 h k h1) (sb:Heap.SameBut TO h1 h2):Mid z TI TO ls xs olds i f0 f1 h k h2:=by
 refine⟨sb.extBut _ _ D.TOz.symm m.hz,sb.extBut _ _ D.TITO m.hTI,λj y hy=>?_,λc o c1 c2 c3 e=>sb.extBut _ _ c2 (m.rest c o c1 c2 c3 e),by rw[sb.1,m.size]⟩;have hm:=Qau hy;exact (m.done j y hy).keep (λo e=>sb.extBut _ _ (D.it y hm).2.2 e) (λo e=>sb.extBut _ _ (D.a y hm).2 e)
theorem KJ {z TI TO:Addr} {ls:List Src} {xs olds:YE} {i:Nat} {f1:Value} {Q:YA} (D:Apart z TI TO ls) (hz:IsZ s.heap z TI TO .none f1) (hTI:Ce s.heap TI (ls.map λx=>.ref x.it)) (hTO:Ce s.heap TO olds)
  (hat:∀x∈ls,SrcAt s.heap x i) (hne:ls≠[]) (hl1:xs.length=ls.length) (hl2:olds.length=ls.length) (hx:∀(j:Nat) (x:Src),ls[j]?=some x->∃v,xs[j]?=some v/\x.items[i]?=some v) (hsz:ls.length<=100)
  (hQ:∀h',IsZ h' z TI TO (rawInt s.heap.objs.size) (.bool false)->Ce h' TI (ls.map λx=>.ref x.it)->Ce h' TO xs->(∀x∈ls,SrcAt h' x (i+1))->Ce h' s.heap.objs.size xs->h'.objs.size=s.heap.objs.size+1->Rest z TO ls s.heap h'->Q (.ref s.heap.objs.size) { s with heap:=h' }) :
  wpAny (model prog w) A (Builtin.«zip.__next__» ⟨[.ref z],[]⟩) (λfin s'=>∃v,fin=.done (.ret v)/\Q v s') E s:=by
 show wpAny _ _ (field (.ref z) 2 >>= _) _ _ _;refine Qcc (Qcb hz rfl (x:=.bool false) rfl ?_);show wpAny _ _ (field (.ref z) 3 >>= _) _ _ _;refine Qcc (Qcb hz rfl (x:=.ref TI) rfl ?_);refine Qcc (QbI hTI rfl ?_);dsimp only;rw[if_neg (by cases ls with | nil=>exact absurd rfl hne | cons a r=>simp)];show wpAny _ _ (Builtin.SmallTypes.ownedTupleIsFree (.ref z) >>= _) _ _ _;refine Qcc ?_;unfold Builtin.SmallTypes.ownedTupleIsFree;refine Qcc (Qcb hz rfl (x:=.none) rfl (Qcd ?_));simp only[if_true];refine Qcc (Qcf ?_);refine Qcc (Qcb hz rfl (x:=.ref TO) rfl ?_);refine Qcc (QaQ hz (by simp) λh₁ hz₁ hs₁=>?_);replace hz₁ : IsZ h₁ z TI TO .ellipsis f1:=hz₁;refine Qcc ?_;have m0:Mid z TI TO ls xs olds i .ellipsis f1 s.heap 0 h₁:=by
  refine⟨hz₁,hs₁.extBut _ _ D.TIz hTI,λj x hj=>?_,λc o c1 _ _ e=>hs₁.extBut _ _ c1 e,hs₁.1⟩;have hm:=Qau hj;rw[if_neg (Nat.not_lt_zero _)];exact (hat x hm).keep (λo e=>hs₁.extBut _ _ (D.it x hm).1 e) (λo e=>hs₁.extBut _ _ (D.a x hm).1 e)
 have S8 : Ce h₁ TO (xs.take 0++olds.drop 0):=hs₁.extBut _ _ D.TOz hTO;refine Np (λl b s'=>∃k h',k<=ls.length/\l=((ls.map λx=>Value.ref x.it).drop k).zipIdx k/\b=⟨none,⟨⟩⟩/\s'={ s with heap:=h' }/\Mid z TI TO ls xs olds i .ellipsis f1 s.heap k h'/\Ce h' TO (xs.take k++olds.drop k)) (λb s' h=>?_) (λx r b s' h=>?_) _ _ _ ⟨0,h₁,Qca _,rq,rq,rq,m0,S8⟩
 ·obtain⟨k,h',hk,e1,rfl,rfl,m,hT⟩:=h;have hkl:k=ls.length:=by
   have:=congrArg List.length e1;rw[List.length_nil,QaR,Qbm,Qbs] at this;omega
  subst hkl;rw[<-hl1,Qbk,hl1,<-hl2,List.drop_length,QbB] at hT;dsimp only;refine Qcc (QbI hT rfl ?_);refine Qcc (wpAny_newTuple ?_ (by show xs.length<=sizeLine;rw[sizeLine_eq];omega));have hkl:∀j x,ls[j]?=some x->SrcAt h' x (i+1):=λj x hj=>by
   have:=m.done j x hj;rw[if_pos (Qaf.mp hj).1] at this;exact this
  have hzlt:z < h'.objs.size:=QbT m.hz;have hTOlt:TO < h'.objs.size:=QbT hT;show wpAny _ _ (Builtin.SmallTypes.ownedTupleHandOut (.ref z) (.ref h'.objs.size) >>= _) _ _ _;refine Qcc ?_;unfold Builtin.SmallTypes.ownedTupleHandOut;have hz₆ : IsZ (h'.push { cls:=.type "tuple",data:=.seq xs.toArray }) z TI TO .ellipsis f1:=Qam _ m.hz;refine Qcc (QaQ hz₆ (by simp) λh₇ hz₇ hs₇=>?_);replace hz₇ : IsZ h₇ z TI TO (rawInt h'.objs.size) f1:=hz₇;refine QaQ hz₇ (by simp) λh₈ hz₈ hs₈=>?_;replace hz₈ : IsZ h₈ z TI TO (rawInt h'.objs.size) (.bool false):=hz₈;have up:∀c o,c≠z->h'.get? c=some o->h₈.get? c=some o:=λc o c1 e=>hs₈.extBut _ _ c1 (hs₇.extBut _ _ c1 (Qam _ e));have hT₈ : Ce h₈ h'.objs.size xs:=hs₈.extBut _ _ (QbX hzlt) (hs₇.extBut _ _ (QbX hzlt) (Qaz _ rfl));have hz8:h₈.objs.size=h'.objs.size+1:=by rw[hs₈.1,hs₇.1,QbG]
  have hsz':=m.size;rw[hsz'] at hz₈ hT₈ hz8;refine Qcd ⟨_,rq,?_⟩;show Q (.ref h'.objs.size) _;rw[hsz'];refine hQ h₈ hz₈ (up _ _ D.TIz m.hTI) (up _ _ D.TOz hT) (λx hm=>?_) hT₈ hz8 λc o c1 c2 c3 e=>up c o c1 (m.rest c o c1 c2 c3 e);obtain⟨j,hj⟩:=Qaw hm;exact (hkl j x hj).keep (λo e=>up _ o (D.it x hm).1 e) (λo e=>up _ o (D.a x hm).1 e)
 ·obtain⟨k,h',hk,e1,rfl,rfl,m,hT⟩:=h;have hkl:k < ls.length:=by
   have:=congrArg List.length e1;rw[Qbj,QaR,Qbm,Qbs] at this;omega
  obtain⟨y,hy⟩ : ∃y,ls[k]?=some y:=⟨_,Qaj hkl⟩;have hm:=Qau hy;rw[Qai (by rw[Qbs];exact hkl),List.zipIdx_cons,List.getElem_map] at e1;have ey:ls[k]=y:=(Qaf.mp hy).2;rw[ey] at e1;injection e1 with e1 e2;subst e1 e2;obtain⟨v,hv1,hv2⟩:=hx k y hy;refine Qcc (wpAny_onRaise ?_);show wpAny _ _ (Builtin.SmallTypes.nextOf (.ref y.it) >>= _) _ _ _;have q0:=m.done k y hy;rw[if_neg (QbO _)] at q0;refine Qcc (Rf q0 hv2 λh2 q2 sb2=>Qcd ?_);have m2:=m.draw D hy q2 sb2;have hT2:Ce h2 TO (xs.take k++olds.drop k):=sb2.extBut _ _ (D.it y hm).2.2.symm hT;have hln:(xs.take k++olds.drop k).length<=100:=by rw[QaF,Qbi,Qbm];omega
  have hsm:=aB (xs:=xs) (olds:=olds) (k:=k) (v:=v) (by omega) (by omega) hv1;refine Qcc (QbI hT2 rfl ?_);refine Qcc (wpAny_updateSeq hT2 rfl ?_ (by rw[QaT,sizeLine_eq];omega) (by rw[hsm,QaT,sizeLine_eq,QaF,Qbi,Qbm];omega));have sb3:Heap.SameBut TO h2 (h2.update TO (Obj.mapSeq λx=>x.setIfInBounds k v)):=QaB ..;have hT3:Ce (h2.update TO (Obj.mapSeq λx=>x.setIfInBounds k v)) TO (xs.take (k+1)++olds.drop (k+1)):=by
   show (h2.update TO _).get? TO=_;rw[Qar _ hT2 rfl,<-hsm];simp[Obj.mapSeq]
  refine Qcc (wpAny_letGo (Qcd ?_));exact⟨k+1,_,hkl,rq,rq,rq,m2.other D sb3,hT3⟩
theorem KR {z TI TO:Addr} {ls:List Src} {olds:YE} {i:Nat} {f1:Value} {Q:Fin->Shared->Prop} (hh:A.handled=none) (D:Apart z TI TO ls) (hz:IsZ s.heap z TI TO .none f1) (hTI:Ce s.heap TI (ls.map λx=>.ref x.it)) (hTO:Ce s.heap TO olds)
  (hat:∀x∈ls,SrcAt s.heap x i) (hne:ls≠[]) (hl2:olds.length=ls.length) (hsz:ls.length<=100) (hend:∃x∈ls,x.items[i]?=none)
  (hE:∀h' e,Rest z TO ls s.heap h'->(∃o,h'.get? e=some o/\o.cls=.type "StopIteration")->E (.ref e) { s with heap:=h' }) :
  wpAny (model prog w) A (Builtin.«zip.__next__» ⟨[.ref z],[]⟩) Q E s:=by
 show wpAny _ _ (field (.ref z) 2 >>= _) _ _ _;refine Qcc (Qcb hz rfl (x:=.bool false) rfl ?_);show wpAny _ _ (field (.ref z) 3 >>= _) _ _ _;refine Qcc (Qcb hz rfl (x:=.ref TI) rfl ?_);refine Qcc (QbI hTI rfl ?_);dsimp only;rw[if_neg (by cases ls with | nil=>exact absurd rfl hne | cons a r=>simp)];show wpAny _ _ (Builtin.SmallTypes.ownedTupleIsFree (.ref z) >>= _) _ _ _;refine Qcc ?_;unfold Builtin.SmallTypes.ownedTupleIsFree;refine Qcc (Qcb hz rfl (x:=.none) rfl (Qcd ?_));simp only[if_true];refine Qcc (Qcf ?_);refine Qcc (Qcb hz rfl (x:=.ref TO) rfl ?_);refine Qcc (QaQ hz (by simp) λh₁ hz₁ hs₁=>?_);replace hz₁ : IsZ h₁ z TI TO .ellipsis f1:=hz₁;refine Qcc ?_;have m0:Mid z TI TO ls [] olds i .ellipsis f1 s.heap 0 h₁:=by
  refine⟨hz₁,hs₁.extBut _ _ D.TIz hTI,λj x hj=>?_,λc o c1 _ _ e=>hs₁.extBut _ _ c1 e,hs₁.1⟩;have hm:=Qau hj;rw[if_neg (Nat.not_lt_zero _)];exact (hat x hm).keep (λo e=>hs₁.extBut _ _ (D.it x hm).1 e) (λo e=>hs₁.extBut _ _ (D.a x hm).1 e)
 have S8 : Ce h₁ TO olds:=hs₁.extBut _ _ D.TOz hTO;refine Np (λl b s'=>∃k h' ys,k<=ls.length/\l=((ls.map λx=>Value.ref x.it).drop k).zipIdx k/\b=⟨none,⟨⟩⟩/\s'={ s with heap:=h' }/\Mid z TI TO ls [] olds i .ellipsis f1 s.heap k h'/\Ce h' TO ys/\ys.length=ls.length/\∃x∈ls.drop k,x.items[i]?=none) (λb s' h=>?_) (λx r b s' h=>?_) _ _ _ ⟨0,h₁,olds,Qca _,rq,rq,rq,m0,S8,hl2,hend⟩
 ·obtain⟨k,h',ys,hk,e1,rfl,rfl,m,hT,hy,x,hx,_⟩:=h;have:k=ls.length:=by
   have:=congrArg List.length e1;rw[List.length_nil,QaR,Qbm,Qbs] at this;omega
  subst this;rw[List.drop_length] at hx;cases hx
 ·obtain⟨k,h',ys,hk,e1,rfl,rfl,m,hT,hys,xe,hxe,hxn⟩:=h;have hkl:k < ls.length:=by
   have:=congrArg List.length e1;rw[Qbj,QaR,Qbm,Qbs] at this;omega
  obtain⟨y,hy⟩ : ∃y,ls[k]?=some y:=⟨_,Qaj hkl⟩;have hm:=Qau hy;rw[Qai (by rw[Qbs];exact hkl),List.zipIdx_cons,List.getElem_map] at e1;have ey:ls[k]=y:=(Qaf.mp hy).2;rw[ey] at e1;injection e1 with e1 e2;subst e1 e2;refine Qcc (wpAny_onRaise ?_);show wpAny _ _ (Builtin.SmallTypes.nextOf (.ref y.it) >>= _) _ _ _;have q0:=m.done k y hy;rw[if_neg (QbO _)] at q0;cases hv:y.items[i]? with
  | none=>
   refine Qcc (aA hh q0 hv λh₂ e hs₂ he=>?_);obtain⟨oe,hoe,hce⟩:=he;have hz₂ : IsZ h₂ z TI TO .ellipsis f1:=hs₂ _ _ (D.it y hm).1.symm m.hz;have hez:e≠z:=λx=>by subst x;rw[hz₂] at hoe;cases hoe;simp at hce
   refine QaQ hz₂ (by simp) λh₃ _ hs₃=>hE h₃ e (λc o c1 c2 c3 x=>hs₃.extBut _ _ c1 (hs₂ _ _ (λq=>c3 (q ▸ QbW.mpr ⟨y,hm,rq⟩)) (m.rest c o c1 c2 c3 x))) ⟨oe,hs₃.extBut _ _ hez hoe,hce⟩
  | some v=>
   refine Qcc (Rf q0 hv λh2 q2 sb2=>Qcd ?_);have m2:=m.draw D hy q2 sb2;have hT2:Ce h2 TO ys:=sb2.extBut _ _ (D.it y hm).2.2.symm hT;refine Qcc (QbI hT2 rfl ?_);refine Qcc (wpAny_updateSeq hT2 rfl ?_ (by rw[QaT,sizeLine_eq];omega) (by rw[Array.size_setIfInBounds,QaT,sizeLine_eq];omega));have sb3:Heap.SameBut TO h2 (h2.update TO (Obj.mapSeq λx=>x.setIfInBounds k v)):=QaB ..;have hT3:Ce (h2.update TO (Obj.mapSeq λx=>x.setIfInBounds k v)) TO (ys.set k v):=by
    show (h2.update TO _).get? TO=_;rw[Qar _ hT2 rfl,<-List.setIfInBounds_toArray];simp[Obj.mapSeq]
   refine Qcc (wpAny_letGo (Qcd ?_));refine⟨k+1,_,ys.set k v,hkl,rq,rq,rq,m2.other D sb3,hT3,by rw[List.length_set];exact hys,xe,?_,hxn⟩;rw[Qai hkl,ey] at hxe;rcases QbK.mp hxe with z | z
   ·subst z;rw[hv] at hxn;cases hxn
   ·exact z
theorem NK {z TI TO:Addr} {f0 f1:Value} {Q:Option Value->Shared->Prop} (hz:IsZ s.heap z TI TO f0 f1) {Qi:YA} (h:wpAny (model prog w) A.in1 (Builtin.«zip.__next__» ⟨[.ref z],[]⟩) (λfin s'=>∃v,fin=.done (.ret v)/\Qi v s') (λ_ _=>False) s) (hQ:∀v s',Qi v s'->Q (some v) s') :
  wpAny (model prog w) A (pyNext (.ref z)) Q E s:=by
 have hT:s.TypeIs (.ref z) "zip":=⟨_,hz,rq⟩;unfold pyNext;refine Qcc (QbS (Qak (name:=Str.ofString "__next__") hT F.slot_zip_next (Qbl F.slot_zip_next hT F.entry_zip_next (Qce h (λfin s' q=>?_) λ_ _ f=>f.elim) (F.args_zip_next_1 _))));obtain⟨v,e,q⟩:=q;exact⟨v,e,Qcd (hQ v s' q)⟩
theorem JM {z TI TO:Addr} {f0 f1:Value} {Q:Option Value->Shared->Prop} {R:Heap->Prop} (hz:IsZ s.heap z TI TO f0 f1)
  (h:wpAny (model prog w) A.in1 (Builtin.«zip.__next__» ⟨[.ref z],[]⟩) (λ_ _=>False) (λv s'=>∃h' e,v=.ref e/\s'={ s with heap:=h' }/\R h'/\∃o,h'.get? e=some o/\o.cls=.type "StopIteration") s) (hQ:∀h',R h'->Q none { s with heap:=h' }) :
  wpAny (model prog w) A (pyNext (.ref z)) Q E s:=by
 have hT:s.TypeIs (.ref z) "zip":=⟨_,hz,rq⟩;unfold pyNext;refine Qcc (QbS (Qak (name:=Str.ofString "__next__") hT F.slot_zip_next (Qbl F.slot_zip_next hT F.entry_zip_next (Qce h (λ_ _ f=>f.elim) λv s' q=>?_) (F.args_zip_next_1 _))));obtain⟨h',e,rfl,rfl,r,o,ho,hc⟩:=q;exact Qcc (wpAny_isInstance (T:="StopIteration") (b:=true) ⟨o,ho,hc⟩ isSubtype_stop (Qcd (hQ _ r)))
theorem Io {z TI TO:Addr} {f0 f1:Value} {Q:YA} (hz:IsZ s.heap z TI TO f0 f1) (h:Q (.ref z) s):wpAny (model prog w) A (pyIter (.ref z)) Q E s:=by
 have hT:s.TypeIs (.ref z) "zip":=⟨_,hz,rq⟩;refine wpAny_pyIter_slot hT F.slot_zip_iter (Qbl F.slot_zip_iter hT F.entry_zip_iter ?_ (F.args_zip_iter_1 _));show wpAny _ _ (ret (.ref z)) _ _ s;exact Qcd ⟨_,rq,"zip",_,hT,F.slot_zip_next.lookup,h⟩
theorem Ql {elts:YJ} {x1} {pos:Pos} {z TI TO T:Addr} {f1:Value} {Q:YH} (hz:IsZ s.heap z TI TO (rawInt T) f1)
  (hQ:∀h',IsZ h' z TI TO .none f1->Heap.SameBut z s.heap h'->Q () { s with heap:=h' }):wpAny (model prog w) A (letOwnedTupleGo (.Tuple elts x1 pos) (.ref z) (.ref T)) Q E s:=by
 unfold letOwnedTupleGo;refine Qcc (wpAny_load hz ?_);show wpAny _ _ (if (["enumerate","zip","dict_itemiterator","dict_reverseitemiterator","odict_iterator","itertools.zip_longest","itertools.pairwise"].contains "zip" &&
   (#[rawInt T,f1,.bool false,.ref TI,.ref TO]:Array Value)[0]? == some (rawInt T))=true then _ else _) Q E s
 rw[if_pos (by simp)];refine Qcc (Qcf ?_);show wpAny _ _ (setField (.ref z) 0 .none) Q E s;exact QaQ hz (by simp) λh' hz' hs'=>hQ h' hz' hs'
end
end PySem.ZZ
namespace PySem
namespace F
end F
end PySem
namespace PySem.ZZ
open PySem
def LR (h:Heap) (a:Addr) (xs:Array Value) (c:String):Prop:=(c="list_iterator"/\h.IsList a xs)\/(c="tuple_iterator"/\h.IsTuple a xs)
theorem LR.src {h h':Heap} {a it:Addr} {xs:Array Value} {c:String} (q:LR h a xs c) (k:∀o,h.get? a=some o->h'.get? a=some o) (e:h'.get? it=some { cls:=.type c,data:=.fields #[.ref a,.int 0 0] }):SrcAt h' ⟨it,a,xs⟩ 0:=by
 rcases q with⟨rfl,q⟩|⟨rfl,o,ho,r⟩
 ·exact .inl ⟨⟨_,e,rq,rq⟩,q.at k⟩
 ·exact .inr ⟨⟨_,e,rq,rq⟩,o,k o ho,r⟩
theorem LR.lt {h:Heap} {a:Addr} {xs:Array Value} {c:String} (q:LR h a xs c):a < h.objs.size:=by
 rcases q with⟨rfl,o,e,_⟩|⟨rfl,o,e,_⟩
 ·exact QbT e
 ·exact QbT e
abbrev itO (c:String) (l:Addr):Obj:={ cls:=.type c,data:=.fields #[.ref l,.int 0 0] }
abbrev tuO (xs:Array Value):Obj:={ cls:=.type "tuple",data:=.seq xs }
abbrev z2a (h:Heap) (c1 c2:String) (l1 l2:Addr):Heap:=((((h.push (itO c1 l1)).push (itO c2 l2)).push (tuO #[.ref h.objs.size,.ref (h.push (itO c1 l1)).objs.size])).push (tuO #[.none,.none]))
abbrev z2 (h:Heap) (c1 c2:String) (l1 l2:Addr):Heap:=(z2a h c1 c2 l1 l2).push
 { cls:=.type "zip",data:=.fields #[.none,.bool false,.bool false,.ref ((h.push (itO c1 l1)).push (itO c2 l2)).objs.size,.ref (((h.push (itO c1 l1)).push (itO c2 l2)).push (tuO #[.ref h.objs.size,.ref (h.push (itO c1 l1)).objs.size])).objs.size] }
theorem VR (l1 l2:Addr) (xs ys:Array Value) (c1 c2:String):Meets (Builtin.«zip.__new__» ⟨[.type "zip",.ref l1,.ref l2],[]⟩) (λ_ R s=>LR s.heap l1 xs c1/\LR s.heap l2 ys c2/\R (.ok (.ret (.ref (z2a s.heap c1 c2 l1 l2).objs.size))) { s with heap:=z2 s.heap c1 c2 l1 l2 }):=
 .of_wp λprog w A R s h=>by
  obtain⟨hp,g,d,tk,os⟩:=s;obtain⟨hl1,hl2,h⟩:=h;have hsub:=sub_zip;rcases hl1 with⟨rfl,hl1⟩|⟨rfl,hl1⟩
  ·have hL1:Heap.IsList (Shared.heap ⟨hp,g,d,tk,os⟩) l1 xs:=hl1;rcases hl2 with⟨rfl,hl2⟩|⟨rfl,hl2⟩
   ·have hL2:Heap.IsList (Shared.heap ⟨hp.push (itO "list_iterator" l1),g,d,tk,os⟩) l2 ys:=Heap.IsList.push hl2 _
    wp_walk using Qba hL1,Qba hL2
    exact⟨_,rq,h⟩
   ·have hL2:Heap.IsTuple (Shared.heap ⟨hp.push (itO "list_iterator" l1),g,d,tk,os⟩) l2 ys:=Heap.IsTuple.push hl2 _
    wp_walk using Qba hL1,QaN hL2
    exact⟨_,rq,h⟩
  ·have hL1:Heap.IsTuple (Shared.heap ⟨hp,g,d,tk,os⟩) l1 xs:=hl1;rcases hl2 with⟨rfl,hl2⟩|⟨rfl,hl2⟩
   ·have hL2:Heap.IsList (Shared.heap ⟨hp.push (itO "tuple_iterator" l1),g,d,tk,os⟩) l2 ys:=Heap.IsList.push hl2 _
    wp_walk using QaN hL1,Qba hL2
    exact⟨_,rq,h⟩
   ·have hL2:Heap.IsTuple (Shared.heap ⟨hp.push (itO "tuple_iterator" l1),g,d,tk,os⟩) l2 ys:=Heap.IsTuple.push hl2 _
    wp_walk using QaN hL1,QaN hL2
    exact⟨_,rq,h⟩
abbrev z3a (h:Heap) (c1 c2 c3:String) (l1 l2 l3:Addr):Heap:=(((((h.push (itO c1 l1)).push (itO c2 l2)).push (itO c3 l3)).push (tuO #[.ref h.objs.size,.ref (h.push (itO c1 l1)).objs.size,.ref ((h.push (itO c1 l1)).push (itO c2 l2)).objs.size])).push (tuO #[.none,.none,.none]))
abbrev z3 (h:Heap) (c1 c2 c3:String) (l1 l2 l3:Addr):Heap:=(z3a h c1 c2 c3 l1 l2 l3).push
 { cls:=.type "zip",data:=.fields #[.none,.bool false,.bool false,.ref (((h.push (itO c1 l1)).push (itO c2 l2)).push (itO c3 l3)).objs.size,.ref ((((h.push (itO c1 l1)).push (itO c2 l2)).push (itO c3 l3)).push (tuO #[.ref h.objs.size,.ref (h.push (itO c1 l1)).objs.size,.ref ((h.push (itO c1 l1)).push (itO c2 l2)).objs.size])).objs.size] }
structure jC (h:Heap) (z TI TO:Addr) (ls:List Src) (h':Heap):Prop where
 hz:IsZ h' z TI TO .none (.bool false)
 hTI:Ce h' TI (ls.map λx=>.ref x.it)
 hTO:Ce h' TO (ls.map λ_=>.none)
 at_:∀x∈ls,SrcAt h' x 0
 ap:Apart z TI TO ls
 new:h.objs.size<=z/\h.objs.size<=TI/\h.objs.size<=TO/\∀x∈ls,h.objs.size<=x.it
 keep:∀c o,h.get? c=some o->h'.get? c=some o
theorem na {a b:Nat} (h:a≠b):@Ne Addr a b:=h
theorem apart2 {n l1 l2:Nat} {xs ys:Array Value} (a1:l1 < n) (a2:l2 < n):Apart (n+1+1+1+1:Nat) (n+1+1:Nat) (n+1+1+1:Nat) [⟨n,l1,xs⟩,⟨(n+1:Nat),l2,ys⟩]:=by
 refine⟨na (by omega),na (by omega),na (by omega),λx hx=>?_,λx hx=>?_,λx hx y hy=>?_,?_⟩
 ·rcases QbK.mp hx with rfl | hx
  ·exact⟨na (by dsimp only;omega),na (by dsimp only;omega),na (by dsimp only;omega)⟩
  ·cases QaK.mp hx;exact⟨na (by dsimp only;omega),na (by dsimp only;omega),na (by dsimp only;omega)⟩
 ·rcases QbK.mp hx with rfl | hx
  ·exact⟨na (by dsimp only;omega),na (by dsimp only;omega)⟩
  ·cases QaK.mp hx;exact⟨na (by dsimp only;omega),na (by dsimp only;omega)⟩
 ·rcases QbK.mp hx with rfl | hx
  ·rcases QbK.mp hy with rfl | hy
   ·exact na (by dsimp only;omega)
   ·cases QaK.mp hy;exact na (by dsimp only;omega)
  ·cases QaK.mp hx;rcases QbK.mp hy with rfl | hy
   ·exact na (by dsimp only;omega)
   ·cases QaK.mp hy;exact na (by dsimp only;omega)
 ·show List.Nodup ([n,n+1]:List Nat);simp
section
variable {prog:Program} {w:World} {A:Around} {E:YA} {s:Shared}
theorem Qp {l1 l2:Addr} {xs ys:Array Value} {c1 c2:String} {Q:YA} (hl1:LR s.heap l1 xs c1) (hl2:LR s.heap l2 ys c2)
  (h:∀h' z TI TO i1 i2,jC s.heap z TI TO [⟨i1,l1,xs⟩,⟨i2,l2,ys⟩] h'->Q (.ref z) { s with heap:=h' }):wpAny (model prog w) A (call (.type "zip") [.ref l1,.ref l2]) Q E s:=by
 refine callType_new F.called_zip (by decide) (F.typeCall_zip_2 _ _) (F.newCall_zip_2 _ _) (λobj=>F.args_object_init_3 obj _ _) F.entry_zip_new (VR l1 l2 xs ys c1 c2) ⟨hl1,hl2,?_⟩;have g5:(z2 s.heap c1 c2 l1 l2).get? (z2a s.heap c1 c2 l1 l2).objs.size=some _:=Qaz _ rfl;have g4:(z2 s.heap c1 c2 l1 l2).get? (((s.heap.push (itO c1 l1)).push (itO c2 l2)).push (tuO #[.ref s.heap.objs.size,.ref (s.heap.push (itO c1 l1)).objs.size])).objs.size=some (tuO #[.none,.none]):=Qam _ (Qaz _ rfl);have g3:(z2 s.heap c1 c2 l1 l2).get? ((s.heap.push (itO c1 l1)).push (itO c2 l2)).objs.size=some (tuO #[.ref s.heap.objs.size,.ref (s.heap.push (itO c1 l1)).objs.size]):=Qam _ (Qam _ (Qaz _ rfl));have g2:(z2 s.heap c1 c2 l1 l2).get? (s.heap.push (itO c1 l1)).objs.size=some (itO c2 l2):=Qam _ (Qam _ (Qam _ (Qaz _ rfl)));have g1:(z2 s.heap c1 c2 l1 l2).get? s.heap.objs.size=some (itO c1 l1):=Qam _ (Qam _ (Qam _ (Qam _ (Qaz _ rfl))));have kp:∀c o,s.heap.get? c=some o->(z2 s.heap c1 c2 l1 l2).get? c=some o:=λc o x=>Qam _ (Qam _ (Qam _ (Qam _ (Qam _ x))));have a1:=hl1.lt;have a2:=hl2.lt;refine⟨⟨_,g5,rq⟩,h _ _ _ _ s.heap.objs.size (s.heap.push (itO c1 l1)).objs.size ⟨g5,g3,g4,?_,?_,?_,kp⟩⟩
 ·intro x hx;rcases QbK.mp hx with rfl | hx
  ·exact hl1.src (λo e=>kp _ _ e) g1
  ·rcases QbK.mp hx with rfl | hx
   ·exact hl2.src (λo e=>kp _ _ e) g2
   ·cases hx
 ·simp only[QbG];exact apart2 a1 a2
 ·simp only[QbG,QbK,Qbh,Qch,forall_eq_or_imp,forall_eq];omega
end
end PySem.ZZ
namespace PySem
namespace F
end F
end PySem
namespace PySem.ZZ
open PySem
section
variable {prog:Program} {w:World} {A:Around} {E:YA} {s:Shared}
structure Run (hb:Heap) (z TI TO:Addr) (ls:List Src) (rows:Nat->YE) (S:Addr) (ts:List Addr) (h:Heap):Prop where
 inc:ts.Pairwise (· < ·)
 lo:∀t∈ts,S < t/\t < h.objs.size
 at_:∀j t,ts[j]?=some t->Ce h t (rows j)
 keep:∀c o,hb.get? c=some o->h.get? c=some o
 hTI:Ce h TI (ls.map λx=>.ref x.it)
 hTO:∃olds,Ce h TO olds/\olds.length=ls.length
 src:∀x∈ls,SrcAt h x ts.length
 hz:(ts=[]/\IsZ h z TI TO .none (.bool false))\/∃(T:Addr) (f1:Value),ts[0]?=some T/\IsZ h z TI TO (rawInt T) f1
structure Below (hb:Heap) (z TI TO:Addr) (ls:List Src) (S:Addr):Prop where
 ap:Apart z TI TO ls
 old:hb.objs.size<=z/\hb.objs.size<=TI/\hb.objs.size<=TO/\∀x∈ls,hb.objs.size<=x.it
 lz:z < S
 lTI:TI < S
 lTO:TO < S
 it:∀x∈ls,x.it < S/\x.a < S
 base:hb.objs.size<=S
theorem Run.frame {hb:Heap} {z TI TO:Addr} {ls:List Src} {rows:Nat->YE} {S:Addr} {ts:List Addr} {h h':Heap} (B:Below hb z TI TO ls S) (r:Run hb z TI TO ls rows S ts h) (hs:h'.objs.size=h.objs.size) (k:∀c o,c≠S->h.get? c=some o->h'.get? c=some o):Run hb z TI TO ls rows S ts h':=by
 obtain⟨olds,o1,o2⟩:=r.hTO;refine⟨r.inc,λt ht=>by rw[hs];exact r.lo t ht,λj t e=>k _ _ (QbX (r.lo t (Qau e)).1) (r.at_ j t e),λc o e=>k _ _ (QbU (QaH (QbT e) B.base)) (r.keep c o e),k _ _ (QbU B.lTI) r.hTI,⟨olds,k _ _ (QbU B.lTO) o1,o2⟩,λx hx=>?_,?_⟩
 ·exact (r.src x hx).keep (λo e=>k _ _ (QbU (B.it x hx).1) e) (λo e=>k _ _ (QbU (B.it x hx).2) e)
 ·rcases r.hz with⟨e,q⟩|⟨T,f1,e,q⟩
  ·exact .inl ⟨e,k _ _ (QbU B.lz) q⟩
  ·exact .inr ⟨T,f1,e,k _ _ (QbU B.lz) q⟩
theorem Run.more {hb:Heap} {z TI TO:Addr} {ls:List Src} {rows:Nat->YE} {S:Addr} {ts:List Addr} {h h':Heap} (B:Below hb z TI TO ls S) (r:Run hb z TI TO ls rows S ts h) (hS:S < h.objs.size) (hs:h'.objs.size=h.objs.size+1) (hr:Rest z TO ls h h')
  (hTI:Ce h' TI (ls.map λx=>.ref x.it)) (hTO:∃olds,Ce h' TO olds/\olds.length=ls.length) (src:∀x∈ls,SrcAt h' x (ts.length+1)) (new:Ce h' h.objs.size (rows ts.length)) (hz:∃(T:Addr) (f1:Value),(ts++[h.objs.size])[0]?=some T/\IsZ h' z TI TO (rawInt T) f1):Run hb z TI TO ls rows S (ts++[h.objs.size]) h':=by
 have fr:∀t,S < t->t≠z/\t≠TO/\t∉ls.map (·.it):=λt ht=>⟨λe=>by rw[e] at ht;exact Nat.lt_asymm ht B.lz,λe=>by rw[e] at ht;exact Nat.lt_asymm ht B.lTO,λe=>by
  obtain⟨x,hx,e'⟩:=QbW.mp e;rw[<-e'] at ht;exact Nat.lt_asymm ht (B.it x hx).1⟩
 refine⟨?_,λt ht=>?_,λj t e=>?_,λc o e=>?_,hTI,hTO,λx hx=>by rw[QaF];exact src x hx,.inr hz⟩
 ·exact List.pairwise_append.mpr ⟨r.inc,List.pairwise_singleton _ _,λa ha b hb'=>by
   have:b=h.objs.size:=by simpa using hb'
   rw[this];exact (r.lo a ha).2⟩
 ·rw[hs];rcases Qbx.mp ht with ht | ht
  ·have:=r.lo t ht;exact⟨this.1,QaZ this.2⟩
  ·have:t=h.objs.size:=by simpa using ht
   rw[this];exact⟨hS,Qbp _⟩
 ·by_cases c:j < ts.length
  ·rw[List.getElem?_append_left c] at e;have hlo:=r.lo t (Qau e);obtain⟨f1,f2,f3⟩:=fr t hlo.1;exact hr t _ f1 f2 f3 (r.at_ j t e)
  ·rw[Qad (Nat.le_of_not_lt c)] at e;have hj:j - ts.length=0:=by
    have:=(Qaf.mp e).1;rw[Qas] at this;omega
   rw[hj] at e;cases e;have:j=ts.length:=by omega
   rw[this];exact new
 ·have hlt:=QbT e;refine hr c o (λq=>?_) (λq=>?_) (λq=>?_) (r.keep c o e)
  ·rw[q] at hlt;exact absurd hlt (Nat.not_lt.mpr B.old.1)
  ·rw[q] at hlt;exact absurd hlt (Nat.not_lt.mpr B.old.2.2.1)
  ·obtain⟨x,hx,e'⟩:=QbW.mp q;rw[<-e'] at hlt;exact absurd hlt (Nat.not_lt.mpr (B.old.2.2.2 x hx))
end
end PySem.ZZ
namespace PySem.ZZ
open PySem
section
variable {prog:Program} {w:World} {A:Around} {E:YA} {s:Shared}
structure Rows (ls:List Src) (n:Nat) (rows:Nat->YE):Prop where
 row:∀j,j < n->(rows j).length=ls.length/\∀(k:Nat) (x:Src),ls[k]?=some x->∃v,(rows j)[k]?=some v/\x.items[j]?=some v
 stop:∃x∈ls,x.items[n]?=none
 ne:ls≠[]
 few:ls.length<=100
 most:n<=1000
end
end PySem.ZZ
namespace L2
open PySem PySem.Spec PyProof.Rows
section
variable {X:Cx} {jb:YC} {σ : St} {H:Hp} {s:Shared} {h':Heap}
theorem Inv.grown {H':Hp} {t':Nat} (I:Inv X jb σ H s) (k:∀b u,s.heap.get? b=some u->h'.get? b=some u) (old:∀b,b < s.heap.objs.size->H' b=H b)
  (new:∀b o,s.heap.objs.size<=b->H' b=some o->Cj X.prog X.w H' h' b o):Inv X jb σ H' { s with heap:=h',toks:=t' }:=by
 have tr:∀b u,H b=some u->H' b=some u:=λb u e=>by rw[old b (I.hok.lt e)];exact e
 refine I.step (g':=s.gens) (d':=s.drawn) (ch:=[]) (λb hb=>by cases hb) (λb u _ _ _ e _=>k b u e) (λb u _ _ _ e _=>⟨u.slots,k b u e⟩) (λb u _ e n=>by rw[old b (QbT e)];exact n)
  (λb u _ e=>⟨u,k b u e⟩) (λ_ _ e=>tr _ _ e) (λ_ _ _ e=>tr _ _ e) (λb ps e=>⟨#[],by rw[tr _ _ e];simp⟩) (λm hm=>?_) (λb u e=>?_) I.bare
 ·obtain⟨u,es,ep,hu,r⟩:=hm;exact⟨u,es,ep,k _ u hu,r⟩
 ·by_cases hb:b < s.heap.objs.size
  ·rw[old b hb] at e;exact (I.hok b u e).stay (λc v _ q=>k c v q) (λc q=>tr _ _ q) λc xs q=>tr _ _ q
  ·exact new b u (Nat.le_of_not_lt hb) e
end
section
variable {X:Cx}
end
theorem BP {h:Heap} {p q:Addr} {o o':Obj} (e:h.get? p=some o) (e':h.get? q=some o') (n:o.cls≠o'.cls):p≠q:=λz=>by
 rw[z,e'] at e;cases e;exact n rfl
theorem Du {h:Heap} {a:Addr} {xs ys:Array Value} (h1:h.IsList a xs) (h2:h.IsTuple a ys):False:=by
 obtain⟨o,e,c,_⟩:=h1;obtain⟨o',e',c',_⟩:=h2;rw[e'] at e;cases e;rw[c'] at c;injection c with q;exact absurd q (by decide)
def Itz (K:YD) (a b:Addr):It:=
  ⟨λi H=>∃xs ys x y,SqL K H a xs/\SqL K H b ys/\xs[i]?=some x/\ys[i]?=some y,
   λi H v H'=>∃p x y,H p=none/\v=.ref p/\H'=upd H p (.tup [x,y])/\(∀xs,SqL K H a xs->xs[i]?=some x)/\∀ys,SqL K H b ys->ys[i]?=some y,
   λi H=>∃xs ys,SqL K H a xs/\SqL K H b ys/\(xs.length<=i\/ys.length<=i)⟩
theorem Yn {P:Program} {w:World} {K:YD} {elts:YJ} {k:Nat} {pos:Pos} (a b z TI TO i1 i2:Addr) (nd:[z,TI,TO,i1,i2].Nodup) :
  Turn P w K (.Tuple elts k pos) (Itz K a b) [z,TI,TO,i1,i2] z (λi h=>(∃f1,ZZ.IsZ h z TI TO .none f1)/\ZZ.Ce h TI [.ref i1,.ref i2]/\(∃olds:YE,ZZ.Ce h TO olds/\olds.length=2)/\h.IsListIter i1 a i/\h.IsListIter i2 b i) where
 mem:=by simp
 obj:=λi h st c hc=>by
  obtain⟨⟨f1,hz⟩,hTI,⟨olds,hTO,_⟩,⟨o1,e1,_,d1⟩,o2,e2,_,d2⟩:=st;simp only[QbK,Qbh,Qch] at hc;rcases hc with rfl | rfl | rfl | rfl | rfl
  ·exact⟨_,hz,λv q=>by cases (show Data.fields _=Data.cell v from q)⟩
  ·exact⟨_,hTI,λv q=>by cases (show Data.seq _ _=Data.cell v from q)⟩
  ·exact⟨_,hTO,λv q=>by cases (show Data.seq _ _=Data.cell v from q)⟩
  ·exact⟨o1,e1,λv q=>by rw[d1] at q;cases q⟩
  ·exact⟨o2,e2,λv q=>by rw[d2] at q;cases q⟩
 keep:=λi h h' st k=>by
  obtain⟨⟨f1,hz⟩,hTI,⟨olds,hTO,l⟩,h1,h2⟩:=st;exact⟨⟨f1,k z (by simp) _ hz⟩,k TI (by simp) _ hTI,⟨olds,k TO (by simp) _ hTO,l⟩,h1.at λo e=>k i1 (by simp) o e,h2.at λo e=>k i2 (by simp) o e⟩
 item:=by
  intro X hP hw hK hc i jb s σ H E I hf st hg;subst hP hw hK;obtain⟨xs,ys,x,y,hq1,hq2,hx,hy⟩:=hg;obtain⟨us,ru,p1,z1⟩:=I.list hq1;obtain⟨ws,rw',p2,z2⟩:=I.list hq2;obtain⟨u,hu,ru'⟩:=ru.get hx;obtain⟨v,hv,rv'⟩:=rw'.get hy;obtain⟨⟨f1,hz⟩,hTI,⟨olds,hTO,lo⟩,hi1,hi2⟩:=st;simp only[Qbw,QbK,Qbh,Qch,not_or,QbH,Qbe,and_true] at nd;obtain⟨⟨n1,n2,n3,n4⟩,⟨n5,n6,n7⟩,⟨n8,n9⟩,n10⟩:=nd;have D:ZZ.Apart z TI TO [⟨i1,a,us.toArray⟩,⟨i2,b,ws.toArray⟩]:=by
   obtain⟨oa,ea,ca,_⟩:=p1.isList;obtain⟨ob,eb,cb,_⟩:=p2.isList;obtain⟨o1,e1,c1,_⟩:=id hi1;obtain⟨o2,e2,c2,_⟩:=id hi2;have l1:Value.type "list"≠Value.type "zip":=λq=>absurd (by injection q) (show ¬("list"="zip") by decide);have l2:Value.type "list"≠Value.type "tuple":=λq=>absurd (by injection q) (show ¬("list"="tuple") by decide);have l3:Value.type "list"≠Value.type "list_iterator":=λq=>absurd (by injection q) (show ¬("list"="list_iterator") by decide);refine⟨Ne.symm n1,Ne.symm n2,n5,λq hq=>?_,λq hq=>?_,λq hq r hr=>?_,?_⟩
   ·simp only[QbK,Qbh,Qch] at hq;rcases hq with rfl | rfl
    ·exact⟨Ne.symm n3,Ne.symm n6,Ne.symm n8⟩
    ·exact⟨Ne.symm n4,Ne.symm n7,Ne.symm n9⟩
   ·simp only[QbK,Qbh,Qch] at hq;rcases hq with rfl | rfl
    ·exact⟨BP ea hz (by rw[ca];exact l1),BP ea hTO (by rw[ca];exact l2)⟩
    ·exact⟨BP eb hz (by rw[cb];exact l1),BP eb hTO (by rw[cb];exact l2)⟩
   ·simp only[QbK,Qbh,Qch] at hq hr;rcases hq with rfl | rfl <;> rcases hr with rfl | rfl
    ·exact BP ea e1 (by rw[ca,c1];exact l3)
    ·exact BP ea e2 (by rw[ca,c2];exact l3)
    ·exact BP eb e1 (by rw[cb,c1];exact l3)
    ·exact BP eb e2 (by rw[cb,c2];exact l3)
   ·simp[n10]
  have hat:∀q∈([⟨i1,a,us.toArray⟩,⟨i2,b,ws.toArray⟩]:List ZZ.Src),ZZ.SrcAt s.heap q i:=λq hq=>by
   simp only[QbK,Qbh,Qch] at hq;rcases hq with rfl | rfl
   ·exact .inl ⟨hi1,p1.isList⟩
   ·exact .inl ⟨hi2,p2.isList⟩
  refine ZZ.NK hz (Qi:=λr s'=>∃h',r=.ref s.heap.objs.size/\s'={ s with heap:=h' }/\ZZ.IsZ h' z TI TO (rawInt s.heap.objs.size) (.bool false)/\ZZ.Ce h' TI [.ref i1,.ref i2]/\ZZ.Ce h' TO [u,v]/\(∀q∈([⟨i1,a,us.toArray⟩,⟨i2,b,ws.toArray⟩]:List ZZ.Src),ZZ.SrcAt h' q (i+1))/\ZZ.Ce h' s.heap.objs.size [u,v]/\ZZ.Rest z TO [⟨i1,a,us.toArray⟩,⟨i2,b,ws.toArray⟩] s.heap h')
   (ZZ.KJ (xs:=[u,v]) D hz hTI hTO hat (by simp) rfl lo (λj q hj=>?_) (by show 2<=100;decide) λh' a1 a2 a3 a4 a5 a6 a7=>⟨h',rq,rq,a1,a2,a3,a4,a5,a7⟩) λr s' hQ=>?_
  ·match j,hj with
   | 0,hj=>cases hj;exact⟨u,rfl,by simpa using hu⟩
   | 1,hj=>cases hj;exact⟨v,rfl,by simpa using hv⟩
  obtain⟨h',rfl,rfl,a1,a2,a3,a4,a5,a7⟩:=hQ;refine⟨_,rq,ZZ.Ql (s:={ s with heap:=h' }) a1 λh2 hz2 sb=>?_⟩;have hlt2:s.heap.objs.size≠z:=QbX (QbT hz);have hT2:ZZ.Ce h2 s.heap.objs.size [u,v]:=(sb.2 _ hlt2).trans a5;have new:Cj X.prog X.w (upd H s.heap.objs.size (.tup [x,y])) h2 s.heap.objs.size (.tup [x,y]):=
   ⟨by show 2<=sizeLine;decide,[u,v],.cons ru' (.cons rv' .nil),_,hT2,rq,0,rq⟩
  have I1:=I.Lb (h':=h2) (t':=s.toks) (QbZ _) (λc q hc e=>(sb.2 c (λw=>hc (by simp[w]))).trans (a7 c q (λw=>hc (by simp[w])) (λw=>hc (by simp[w])) (λw=>hc (by simp only[QbM,List.map_nil,QbK,Qbh,Qch] at w;rcases w with w | w <;> simp[w])) e)) hf new;have back:∀{it l:Addr} {items:Array Value},l≠z->l≠TO->l≠i1->l≠i2->it≠z->s.heap.IsList l items->ZZ.SrcAt h' ⟨it,l,items⟩ (i+1)->h2.IsListIter it l (i+1):=λm1 m2 m3 m4 m5 hl q=>by
   rcases q with⟨q1,_⟩|⟨_,q2⟩
   ·exact q1.at λo e=>(sb.2 _ m5).trans e
   ·obtain⟨o,e,r⟩:=hl;exact (Du ⟨o,a7 _ o m1 m2 (by simp[m3,m4]) e,r⟩ q2).elim
  refine⟨.ref s.heap.objs.size,_,I1,rq,⟨s.heap.objs.size,x,y,I.hok.fresh (QbZ _),rq,rq,λys' hy'=>by rw[I.Ni hy' hq1];exact hx,λys' hy'=>by rw[I.Ni hy' hq2];exact hy⟩,⟨⟨_,hz2⟩,(sb.2 _ (Ne.symm n1)).trans a2,⟨[u,v],(sb.2 _ (Ne.symm n2)).trans a3,rq⟩,?_,?_⟩,λc hc=>?_⟩
  ·exact back (D.a ⟨i1,a,us.toArray⟩ (by simp)).1 (D.a ⟨i1,a,us.toArray⟩ (by simp)).2 (D.ai ⟨i1,a,us.toArray⟩ (by simp) ⟨i1,a,us.toArray⟩ (by simp)) (D.ai ⟨i1,a,us.toArray⟩ (by simp) ⟨i2,b,ws.toArray⟩ (by simp)) (Ne.symm n3) p1.isList (a4 _ (by simp))
  ·exact back (D.a ⟨i2,b,ws.toArray⟩ (by simp)).1 (D.a ⟨i2,b,ws.toArray⟩ (by simp)).2 (D.ai ⟨i2,b,ws.toArray⟩ (by simp) ⟨i1,a,us.toArray⟩ (by simp)) (D.ai ⟨i2,b,ws.toArray⟩ (by simp) ⟨i2,b,ws.toArray⟩ (by simp)) (Ne.symm n4) p2.isList (a4 _ (by simp))
  ·have hlc:c≠s.heap.objs.size:=by
    have hmem:∃o,s.heap.get? c=some o:=by
     simp only[QbK,Qbh,Qch] at hc;rcases hc with rfl | rfl | rfl | rfl | rfl
     ·exact⟨_,hz⟩
     ·exact⟨_,hTI⟩
     ·exact⟨_,hTO⟩
     ·obtain⟨o,e,_⟩:=hi1;exact⟨o,e⟩
     ·obtain⟨o,e,_⟩:=hi2;exact⟨o,e⟩
    obtain⟨o,e⟩:=hmem;exact QbU (QbT e)
   rw[Bp hlc];exact (hf c hc).1
 done:=by
  intro X hP hw hK hc i jb s σ H E I hf st hg;subst hP hw hK;obtain⟨xs,ys,hq1,hq2,hend⟩:=hg;obtain⟨us,ru,p1,z1⟩:=I.list hq1;obtain⟨ws,rw',p2,z2⟩:=I.list hq2;obtain⟨⟨f1,hz⟩,hTI,⟨olds,hTO,lo⟩,hi1,hi2⟩:=st;simp only[Qbw,QbK,Qbh,Qch,not_or,QbH,Qbe,and_true] at nd;obtain⟨⟨n1,n2,n3,n4⟩,⟨n5,n6,n7⟩,⟨n8,n9⟩,n10⟩:=nd;have D:ZZ.Apart z TI TO [⟨i1,a,us.toArray⟩,⟨i2,b,ws.toArray⟩]:=by
   obtain⟨oa,ea,ca,_⟩:=p1.isList;obtain⟨ob,eb,cb,_⟩:=p2.isList;obtain⟨o1,e1,c1,_⟩:=id hi1;obtain⟨o2,e2,c2,_⟩:=id hi2;have l1:Value.type "list"≠Value.type "zip":=λq=>absurd (by injection q) (show ¬("list"="zip") by decide);have l2:Value.type "list"≠Value.type "tuple":=λq=>absurd (by injection q) (show ¬("list"="tuple") by decide);have l3:Value.type "list"≠Value.type "list_iterator":=λq=>absurd (by injection q) (show ¬("list"="list_iterator") by decide);refine⟨Ne.symm n1,Ne.symm n2,n5,λq hq=>?_,λq hq=>?_,λq hq r hr=>?_,?_⟩
   ·simp only[QbK,Qbh,Qch] at hq;rcases hq with rfl | rfl
    ·exact⟨Ne.symm n3,Ne.symm n6,Ne.symm n8⟩
    ·exact⟨Ne.symm n4,Ne.symm n7,Ne.symm n9⟩
   ·simp only[QbK,Qbh,Qch] at hq;rcases hq with rfl | rfl
    ·exact⟨BP ea hz (by rw[ca];exact l1),BP ea hTO (by rw[ca];exact l2)⟩
    ·exact⟨BP eb hz (by rw[cb];exact l1),BP eb hTO (by rw[cb];exact l2)⟩
   ·simp only[QbK,Qbh,Qch] at hq hr;rcases hq with rfl | rfl <;> rcases hr with rfl | rfl
    ·exact BP ea e1 (by rw[ca,c1];exact l3)
    ·exact BP ea e2 (by rw[ca,c2];exact l3)
    ·exact BP eb e1 (by rw[cb,c1];exact l3)
    ·exact BP eb e2 (by rw[cb,c2];exact l3)
   ·simp[n10]
  have hat:∀q∈([⟨i1,a,us.toArray⟩,⟨i2,b,ws.toArray⟩]:List ZZ.Src),ZZ.SrcAt s.heap q i:=λq hq=>by
   simp only[QbK,Qbh,Qch] at hq;rcases hq with rfl | rfl
   ·exact .inl ⟨hi1,p1.isList⟩
   ·exact .inl ⟨hi2,p2.isList⟩
  have l1:=ru.length;have l2:=rw'.length;refine ZZ.JM hz (R:=λh'=>ZZ.Rest z TO [⟨i1,a,us.toArray⟩,⟨i2,b,ws.toArray⟩] s.heap h') (ZZ.KR (I.ok.hd hc) D hz hTI hTO hat (by simp) lo (by show 2<=100;decide) ?_ λh' e r st=>⟨h',e,rfl,rfl,r,st⟩) λh' r=>⟨rfl,I.Om (h':=h') (t':=s.toks) (λc q hc e=>r c q (λw=>hc (by simp[w])) (λw=>hc (by simp[w])) (λw=>hc (by simp only[QbM,List.map_nil,QbK,Qbh,Qch] at w;rcases w with w | w <;> simp[w])) e) hf⟩;rcases hend with h | h
  ·exact⟨_,QaI ..,by simp;omega⟩
  ·exact⟨_,Qav _ (QaI ..),by simp;omega⟩
 self:=λ_ _ _ _ _ st h=>ZZ.Io st.1.choose_spec h
def lR (K:YD) (ta:TA):TI:=fun σ H R=>ta σ H λvs H1=>∃a b,vs=[.ref a,.ref b]/\(∃xs,SqL K H1 a xs)/\(∃ys,SqL K H1 b ys)/\R (Itz K a b) H1
section
variable {X:Cx}
theorem aL {a b:Expr} {ta:TA} {p pos tp:Pos} {elts:YJ} {k:Nat} (hg:Gl X "zip") (hm:X.mg "zip"=none) (ha:PA X [a,b] ta)
  (hs:starEach [a,b] X.env=[(false,eval a X.env),(false,eval b X.env)]:=by rfl) (hs2:starEach [b] X.env=[(false,eval b X.env)]:=by rfl):PI X (.Tuple elts k tp) (.Call (.Name "zip" p) [a,b] [] pos) (lR X.K ta):=by
 intro jb s σ H R I h;refine Call_ (G5 I hg hm (u:=.type "zip") (by trivial) (Qac (thn (ha pos jb s σ H _ I h) λus s1 ⟨vs,H1,I1,r1,q1⟩=>?_) (by rw[hs,hs2]) (by rw[hs2];rfl)));obtain⟨a,b,e,⟨xs,hx⟩,⟨ys,hy⟩,q⟩:=q1;subst e;cases r1 with
 | cons r rr=>
  cases rr with
  | cons r' rr=>
   cases rr;cases r;cases r';obtain⟨us,ru,k1,z1⟩:=I1.list hx;obtain⟨ws,rw',k2,z2⟩:=I1.list hy;refine ZZ.Qp (c1:="list_iterator") (c2:="list_iterator") (.inl ⟨rq,k1.isList⟩) (.inl ⟨rq,k2.isList⟩) λh' z TI TO i1 i2 f=>?_;refine ZZ.Io (s:={ s1 with heap:=h' }) f.hz ?_;have nd:[z,TI,TO,i1,i2].Nodup:=by
    have a1:=f.ap.it ⟨i1,a,us.toArray⟩ (by simp);have a2:=f.ap.it ⟨i2,b,ws.toArray⟩ (by simp);have a3:i1≠i2:=by
     have:=f.ap.nd;simpa using this
    simp only[Qbw,QbK,Qbh,Qch,not_or,QbH,Qbe,and_true];exact⟨⟨Ne.symm f.ap.TIz,Ne.symm f.ap.TOz,Ne.symm a1.1,Ne.symm a2.1⟩,⟨f.ap.TITO,Ne.symm a1.2.1,Ne.symm a2.2.1⟩,⟨Ne.symm a1.2.2,Ne.symm a2.2.2⟩,a3⟩
   have at1:h'.IsListIter i1 a 0:=by
    rcases f.at_ ⟨i1,a,us.toArray⟩ (by simp) with⟨x1,_⟩|⟨_,x2⟩
    ·exact x1
    ·obtain⟨o,e,r⟩:=k1.isList;exact (Du ⟨o,f.keep _ o e,r⟩ x2).elim
   have at2:h'.IsListIter i2 b 0:=by
    rcases f.at_ ⟨i2,b,ws.toArray⟩ (by simp) with⟨x1,_⟩|⟨_,x2⟩
    ·exact x1
    ·obtain⟨o,e,r⟩:=k2.isList;exact (Du ⟨o,f.keep _ o e,r⟩ x2).elim
   refine⟨z,[z,TI,TO,i1,i2],_,_,H1,rq,I1.kept (t':=s1.toks) λc o e=>f.keep c o e,Yn a b z TI TO i1 i2 nd,⟨⟨_,f.hz⟩,f.hTI,⟨_,f.hTO,rq⟩,at1,at2⟩,λc hc=>?_,q⟩;have hn:=f.new;have hcs:s1.heap.objs.size<=c:=by
    simp only[QbK,Qbh,Qch] at hc;rcases hc with rfl | rfl | rfl | rfl | rfl
    ·exact hn.1
    ·exact hn.2.1
    ·exact hn.2.2.1
    ·exact hn.2.2.2 ⟨c,a,us.toArray⟩ (by simp)
    ·exact hn.2.2.2 ⟨c,b,ws.toArray⟩ (by simp)
   exact I1.PN hcs (I1.hok.fresh hcs)
end
mutual
inductive KC (K:YD) (H:Hp):V->PyData->Prop
 | non:KC K H .non .none
 | bl (b:Bool):KC K H (.bl b) (.bool b)
 | int (i:Int):KC K H (.int i) (.int i)
 | str (x:Str):KC K H (.str x) (.str x)
 | tup {a:Addr} {xs:YG} {ds:List PyData}:SqT K H a xs->Hw K H xs ds->KC K H (.ref a) (.tuple ds)
inductive Hw (K:YD) (H:Hp):YG->List PyData->Prop
 | nil:Hw K H [] []
 | cons {x:V} {d:PyData} {xs:YG} {ds:List PyData}:KC K H x d->Hw K H xs ds->Hw K H (x::xs) (d::ds)
end
section
variable {X:Cx} {jb:YC} {σ : St} {H:Hp} {s:Shared}
mutual
theorem KC.reads (I:Inv X jb σ H s):∀{v:V} {d:PyData} {u:Value},KC X.K H v d->RelV v u->∃as,Reads s.heap u d as
 | _,_,_,.non,r=>by cases (show _=Value.none from r);exact⟨_,.none⟩
 | _,_,_,.bl b,r=>by cases (show _=Value.bool b from r);exact⟨_,.bool b⟩
 | _,_,_,.int i,r=>by obtain⟨t,rfl⟩:=(show ∃t,_=Value.int i t from r);exact⟨_,.int i t⟩
 | _,_,_,.str x,r=>by obtain⟨t,rfl⟩:=(show ∃t,_=Value.str x t from r);exact⟨_,.str x t⟩
 | _,_,_,.tup (a:=a) (xs:=xs) e q,r=>by
  cases (show _=Value.ref a from r)
  obtain⟨its,rv,⟨o,ho,hc,n,hd⟩,_⟩:=I.tuple e;obtain⟨as,z⟩:=Hw.reads I q rv;exact⟨_,.tuple ho hc hd (by simpa using z)⟩
theorem Hw.reads (I:Inv X jb σ H s):∀{xs:YG} {ds:List PyData} {us:YE},Hw X.K H xs ds->Vals xs us->∃as,ReadsAll s.heap us ds as
 | _,_,_,.nil,.nil=>⟨_,.nil⟩
 | _,_,_,.cons p q,.cons r t=>by
  obtain⟨as,a1⟩:=KC.reads I p r;obtain⟨bs,b1⟩:=Hw.reads I q t;exact⟨_,.cons a1 b1⟩
end
end
section
variable {X:Cx} {K:YD}
theorem IK {es:YJ} {k:Nat} {pos:Pos} {t:TGs} {n:Nat} (hK:X.K=K) (hc:X.calm=true) (h:PGs X es t)
  (hn:(assignEach es X.env).length=n:=by rfl) (hst:(assignEach es X.env).findIdx? (·.1)=none:=by rfl):PG X (.Tuple es k pos) (fV K n t):=hK ▸ Gh hc h hn hst
end
end L2
namespace L2
open PySem PySem.Spec PyProof.Rows
abbrev ZM:YE:=[.type "ValueError",.type "Exception",.type "BaseException",.type "object"]
structure XCl (K:YD) (C:Addr):Prop where
 ex:PySem.W.excIn K C ZM "ValueError.__new__"=true
 ga:findIn K (.ref C) "__getattribute__"=some (some (.builtin "BaseException.__getattribute__"))
 gn:findIn K (.ref C) "__getattr__"=some none
 ca:findIn K (.ref C) "__class__"=some (some (.builtin "object.__class__"))
 mo:PySem.W.subIn K (.ref C) (.type "object")=some true
 mb:PySem.W.subIn K (.ref C) (.type "BaseException")=some true
 kp:keepIn K (.ref C)=true
section
variable {K:YD} {C:Addr}
theorem XCl.look (T:XCl K C):∃dd cd sl,K.lookup C=some ⟨.type "type",dd,.cls cd,sl⟩:=by
 have q:=T.ex;unfold PySem.W.excIn at q;split at q
 ·rename_i dd cd sl ho;exact⟨dd,cd,sl,ho⟩
 ·cases q
theorem XCl.obj (T:XCl K C) {h:Heap} (X:K.In h):∃bm N nm q bs hdct sn sub ab col dd k0 k1 k2 k3 k5 mN,h.get? C=some (excClassObj nm q C N bs bm hdct sn sub ab col dd k0 k1 k2 k3 k5 "ValueError.__new__")/\h.Ns N mN/\mN "__init__"=none/\OwnTail h ZM bm:=by
 have q:=T.ex;unfold PySem.W.excIn at q;split at q
 ·rename_i dd cd sl ho;split at q
  ·rename_i C' bm k0 k1 k2 k3 n k5 hm hs;simp only[Qbg,beq_iff_eq,Bool.not_eq_true'] at q;obtain⟨⟨⟨⟨⟨rfl,rfl⟩,hdel⟩,ht⟩,hok⟩,hni⟩:=q;obtain⟨nm,bs,mro,ns,qn,hd,sn,sub,ab,col,del⟩:=cd;dsimp only at hm hdel hok hni;subst hm hdel;have hsl:sl=#[k0,k1,k2,k3,some (.builtin "ValueError.__new__"),k5]:=by
    obtain⟨l⟩:=sl;simp only at hs;rw[hs]
   subst hsl;exact⟨bm,ns,nm,qn,bs,hd,sn,sub,ab,col,dd,k0,k1,k2,k3,k5,_,X _ _ ho,.of_isNs (PySem.W.isNs_of_in X hok),PySem.W.nsMap_none_of_in X hok hni,PySem.W.tail_of_in X ht⟩
  ·cases q
 ·cases q
end
def XAt (a C:Addr) (h:Heap):Prop:=∃o vs,h.get? a=some o/\o.cls=.ref C/\o.data=.fields vs/\vs[2]?=some .none
section
variable {prog:Program} {w:World} {A:Around} {E:YA} {h:Heap} {g:Array GenState} {d:Drawn} {t:Nat} {os:OsState} {K:YD} {a C:Addr} {o:Obj}
end
def xo (a C:Addr):HO:=.ext (XAt a C)
section
variable {X:Cx} {jb:YC} {σ : St} {H:Hp} {s:Shared}
end
def XT (B:Heap) (e C:Addr) (fl:Option Value) (h:Heap):Prop:=
 ∃oe vs,h.get? e=some oe/\oe.cls=.ref C/\oe.data=.fields vs/\vs[2]?=some .none /\
  match fl with
  | none=>vs[1]?=some .none
  | some f=>∃T oT ts,vs[1]?=some (.ref T)/\B.get? T=none/\T≠e/\h.get? T=some oT/\oT.data=.fields ts/\ts[3]?=some f
structure Fl (B:Heap) (l:List Env) (e C:Addr) (fl:Option Value) (h:Heap):Prop where
 stays:B.StaysIn h
 new:B.get? e=none
 fr:h.FunFrames B l
 tr:XT B e C fl h
theorem XT.at {B h:Heap} {e C:Addr} {fl:Option Value} (x:XT B e C fl h):XAt e C h:=by
 obtain⟨oe,vs,h1,h2,h3,h4,_⟩:=x;exact⟨oe,vs,h1,h2,h3,h4⟩
section
variable {M:Model} {A:Around} {E:YA} {s:Shared} {B:Heap} {env:Env} {outer l:List Env} {L e C:Addr} {Q:YH}
end
theorem Cj.there {P:Program} {w:World} {H:Hp} {h:Heap} {a:Addr} {o:HO} (x:Cj P w H h a o):∃u,h.get? a=some u:=by
 cases o with
 | lst xs=>obtain⟨_,its,n,_,q⟩:=x;exact⟨_,q⟩
 | tup xs=>obtain⟨_,its,_,ob,q,_⟩:=x;exact⟨_,q⟩
 | dK kvs=>obtain⟨_,_,vs,_,ob,es,ep,q,_⟩:=x;exact⟨_,q⟩
 | dT kvs=>obtain⟨_,_,xs,_,ob,es,ep,q,_⟩:=x;exact⟨_,q⟩
 | set S n=>obtain⟨ob,es,ep,t,q,_⟩:=x;exact⟨_,q⟩
 | ins C dx fs=>obtain⟨_,_,_,q,_⟩:=x;exact⟨_,q⟩
 | own y=>exact x
 | xd fs=>obtain⟨mA,⟨od,es,ep,q,_⟩,_⟩:=x;exact⟨_,q⟩
 | rng lo hi=>obtain⟨t,u,v,q⟩:=x;exact⟨_,q⟩
 | frz ob u=>exact⟨_,x.1⟩
 | tbl ps=>exact⟨_,x⟩
 | met f y=>exact⟨_,x⟩
 | ext φ=>exact x.2.1
structure Exc (P:Program) (w:World) (outer:List Env) (H:Hp) (s:Shared) (e C:Addr) (B:Heap) (H':Hp) (s':Shared):Prop where
 os:s'.os=s.os
 bare:AllBare s'.gens
 fl:∃fl,(fl=none\/fl=some .none)/\Fl B outer e C fl s'.heap
 un:Un (frs outer) [] H H' s.heap s'.heap
 hok:HOk P w H' s'.heap
 tin:∀b o,s'.heap.get? b=some o->H' b≠none->B.get? b=some o
 old:∀b o,s.heap.get? b=some o->H b=none->b∉frs outer->B.get? b=some o
 ex:∀b o,s.heap.get? b=some o->b∉frs outer->∃o',B.get? b=some o'
section
variable {P:Program} {w:World} {outer:List Env} {H H':Hp} {s s':Shared} {e C:Addr} {B h2:Heap} {fl:Option Value}
theorem Exc.free (x:Exc P w outer H s e C B H' s'):H' e=none:=by
 cases hq:H' e with
 | none=>rfl
 | some v=>
  obtain⟨o1,q1⟩:=(x.hok e v hq).there;have q2:=x.tin e o1 q1 (by rw[hq];exact λz=>nomatch z);obtain⟨_,_,g⟩:=x.fl;rw[g.new] at q2;cases q2
theorem Exc.fresh (x:Exc P w outer H s e C B H' s'):s.heap.get? e=none:=by
 cases hq:s.heap.get? e with
 | none=>rfl
 | some o=>
  obtain⟨_,_,g⟩:=x.fl;by_cases hb:e∈frs outer
  ·obtain⟨_,o1,q1,nf⟩:=g.fr.mem hb;obtain⟨oe,vs,q2,_,q3,_⟩:=g.tr;rw[q1] at q2;cases q2;exact absurd q3 (nf vs)
  ·obtain⟨o1,q1⟩:=x.ex e o hq hb;rw[g.new] at q1;cases q1
end
section
variable {X:Cx} {jb:YC} {σ : St} {H H':Hp} {s s':Shared} {e C:Addr} {B h2:Heap} {fl:Option Value}
theorem Exc.made {args:YE} {h':Heap} (I:Inv X jb σ H s) (hx:Heap.MadeExcOf s.heap h' e (.ref C) args):Exc X.prog X.w X.stack H s e C (hideAll s.heap (frs X.stack)) H { s with heap:=h' }:=by
 have st:(hideAll s.heap (frs X.stack)).StaysIn s.heap:=λb o q=>PySem.W.of_hideAll _ q;refine⟨rq,I.bare,⟨none,.inl rfl,⟨λb o q=>hx.keeps b o (st b o q),?_,?_,?_⟩⟩,Un.kept hx.keeps,I.hok.kept hx.keeps,λb o q hb=>?_,λb o q n hb=>hideAll_get _ q hb,λb o q hb=>⟨o,hideAll_get _ q hb⟩⟩
 ·cases hq:(hideAll s.heap (frs X.stack)).get? e with
  | none=>rfl
  | some o=>
   have q:=st e o hq;rw[hx.new] at q;cases q
 ·have f0:s.heap.FunFrames (hideAll s.heap (frs X.stack)) X.stack:=PySem.W.funFrames_hide I.stack λenv he a ha=>List.mem_filterMap.mpr ⟨env,he,ha⟩;exact f0.of_keeps λb o q _=>⟨o,hx.keeps b o q,rq⟩
 ·obtain⟨t,q,_⟩:=hx.there;exact⟨_,_,q,rq,rq,rq,rq⟩
 ·cases hq:H b with
  | none=>exact absurd hq hb
  | some v=>
   obtain⟨o1,q1⟩:=(I.hok b v hq).there;have q2:=hx.keeps b o1 q1;have q':h'.get? b=some o:=q;rw[q'] at q2;cases q2;refine hideAll_get _ q1 λhm=>?_;rw[I.Oq b hm] at hq;cases hq
end
theorem PS.nox {X:Cx} {st:Stmt} {t:TS} (h:PS X.nox st t):PS X st t:=λjb s σ H D I hw=>
 Qce (h jb s σ H D (I.wish _) hw) (λ_ _ q=>q.Fp) λ_ _ z=>False.elim z
section
variable {M:Model} {A:Around} {E:YA} {h:Heap} {g:Array GenState} {d:Drawn} {t:Nat} {os:OsState} {K:YD} {e C HC:Addr}
end
abbrev Cx.by (X:Cx) (pn:YC) (E:YA):Cx:={ X with pn:=pn,xe:=E }
section
variable {X:Cx} {jb VG pn:YC} {σ : St} {H:Hp} {s:Shared} {E:YA} {ev:Value}
theorem Inv.by (I:Inv X jb σ H s) (E:YA):Inv (X.by (X.pn++jb) E) [] σ H s:=
 ⟨⟨I.ok.mod,I.ok.kind,I.ok.glob,I.ok.blt,I.ok.above,I.ok.inj,I.ok.has,I.ok.cab,I.ok.hd,I.ok.frames,I.ok.stk,I.ok.exf,I.ok.bs,I.ok.bsz,I.ok.Pa,I.ok.PX,I.ok.G6,I.ok.frf⟩,I.os,I.bare,I.base,I.loc,I.cell,I.free,I.Gu,
  λp hp=>I.pin p (by simpa using hp),I.hok,I.len⟩
end
def Ends.drop (D:Ends) (i:Nat):Ends where
 nx:=fun σ H=>D.nx (σ.set i none) H
 rt:=D.rt
 bk:=fun σ H=>D.bk (σ.set i none) H
 ct:=fun σ H=>D.ct (σ.set i none) H
structure Jw (k:Nat) (A:Around):Prop where
 dp:A.depth+3*k+5 < recursionLimit
 un:A.units+16*k+200 < cLine
theorem Jw.deeper {k:Nat} {A:Around} (r:Jw (k+1) A) (env:Env):Jw k (A.deeper env):=
 ⟨by have:=r.dp;show A.depth+1+3*k+5 < _;omega,by have:=r.un;show A.units+3+16*k+200 < _;omega⟩
theorem Jw.mono {j k:Nat} {A:Around} (r:Jw k A) (h:j<=k):Jw j A:=⟨by have:=r.dp;omega,by have:=r.un;omega⟩
theorem Jw.units {k:Nat} {A:Around} (r:Jw k A):A.units+64 < cLine:=by have:=r.un;omega
end L2
namespace L2
open PySem PySem.Spec PyProof.Rows PySem.SeqAt
theorem BW {c:Const} {k:Nat} {p:Pos} {es:YJ} {env:Env}:starEach (.Constant c k p::es) env=(false,eval (.Constant c k p) env)::starEach es env:=by rfl
theorem Ck {as:YJ} {k:Nat} {p:Pos} {es:YJ} {env:Env}:starEach (.Tuple as k p::es) env=(false,eval (.Tuple as k p) env)::starEach es env:=by rfl
section
variable {X:Cx}
end
section
variable {prog:Program} {w:World} {A:Around} {E:YA} {s:Shared}
end
end L2
namespace L2
open PySem PySem.Spec PyProof.Rows
section
variable {X:Cx} {jb:YC} {σ : St} {H:Hp} {s:Shared} {a:Addr} {kvs:YM} {o:Obj}
end
section
variable {a l:Addr} {o:Obj} {kvs:YM} {g:TG} {tb:TS} {D:Ends} {σ : St} {H:Hp} {tt:TT} {te tk tv:TE} {Q:VK}
end
open PySem.W (KasT kas_asc kas_desc kas_rev kas_tail3 kas_descPart kas_count kas_place kas_bin kas_sort)
def Pm (n:Nat) (p:Array Nat):Prop:=p.toList.Perm (List.range n)
theorem Pm.lt {n:Nat} {p:Array Nat} (h:Pm n p) (n0:0 < n) (i:Nat):p.getD i 0 < n:=by
 by_cases hi:i < p.size
 ·have e:p.getD i 0=p[i]:=by simp[hi]
  rw[e];have hm:p[i]∈p.toList:=by simp
  exact List.mem_range.mp (h.mem_iff.mp hm)
 ·have e:p.getD i 0=0:=by simp[hi]
  rw[e];exact n0
section
variable {n:Nat} (n0:0 < n)
include n0
end
section
variable {prog:Program} {w:World} {A:Around} {E:YA} {s:Shared}
end
theorem bf {h:Heap} {a:Addr} {m m':YB} (x:h.Ns a m) (y:h.Ns a m'):m=m':=by
 obtain⟨o,es,ep,h1,h2,_,h3⟩:=x;obtain⟨o',es',ep',g1,g2,_,g3⟩:=y;rw[h1] at g1;cases g1;rw[h2] at g2;cases g2
 funext k
 rw[<-h3,<-g3]
theorem range_getD {α : Type} (d:α) (vs:List α):(List.range vs.length).map (λi=>vs.getD i d)=vs:=by
 apply List.ext_getElem
 ·simp
 ·intro i h1 h2;simp[h2]
end L2
namespace L2
open PySem PySem.Spec PyProof.Rows
open PySem.W (KasT kas_asc kas_desc kas_rev kas_tail3 kas_descPart kas_count kas_place kas_bin kas_sort)
section
variable {n:Nat} {ky:Nat->Int}
def Gk (ky:Nat->Int) (p:Array Nat) (i:Nat):Int:=ky (p.getD i 0)
def Inj (n:Nat) (ky:Nat->Int):Prop:=∀i j,i < n->j < n->ky i=ky j->i=j
def gF (ky:Nat->Int) (p:Array Nat) (m:Nat):Prop:=∀i,i+1 < m->Gk ky p i < Gk ky p (i+1)
def Wu (ky:Nat->Int) (p:Array Nat) (m:Nat):Prop:=∀i j,i < j->j < m->Gk ky p i < Gk ky p j
theorem gF.all {p:Array Nat} {m:Nat} (h:gF ky p m):Wu ky p m:=λi j hij hj=>by
 induction j with
 | zero=>omega
 | succ j ih=>
  have h1:=h j hj;by_cases e:i=j
  ·rw[e];exact h1
  ·exact Int.lt_trans (ih (by omega) (by omega)) h1
theorem eH {α : Type} {l:List α} (nd:l.Nodup) {i j:Nat} (hi:i < l.length) (hj:j < l.length) (e:l[i]=l[j]):i=j:=by
 rcases Nat.lt_trichotomy i j with h | h | h
 ·exact absurd e (Qah.mp nd i j hi hj h)
 ·exact h
 ·exact absurd e.symm (Qah.mp nd j i hj hi h)
theorem Pm.size {p:Array Nat} (h:Pm n p):p.size=n:=by
 have:=List.Perm.length_eq h;simpa using this
theorem Pm.ne (hi:Inj n ky) {p:Array Nat} (h:Pm n p) {i j:Nat} (a:i < n) (b:j < n) (ne:i≠j):Gk ky p i≠Gk ky p j:=λe=>by
 have n0:0 < n:=by omega
 have hs:=h.size;have e:=hi _ _ (h.lt n0 i) (h.lt n0 j) e;have nd:p.toList.Nodup:=(List.Perm.nodup_iff h).mpr List.nodup_range;have e1:p.getD i 0=p.toList[i]'(by simp[hs,a]):=by simp[hs,a]
 have e2:p.getD j 0=p.toList[j]'(by simp[hs,b]):=by simp[hs,b]
 rw[e1,e2] at e;exact ne (eH nd _ _ e)
theorem Wu.list {p:Array Nat} (h:Pm n p) (R:Wu ky p n):(p.toList.map ky).Pairwise (· < ·):=by
 have hs:=h.size;rw[Qah];intro i j hi hj hij;have hi':i < n:=by simpa [hs] using hi
 have hj':j < n:=by simpa [hs] using hj
 have:=R i j hij hj';unfold Gk at this;have e1:p.getD i 0=p[i]'(by omega):=by simp[hs,hi']
 have e2:p.getD j 0=p[j]'(by omega):=by simp[hs,hj']
 rw[e1,e2] at this;simpa using this
end
section
variable {prog:Program} {w:World} {A:Around} {s:Shared}
end
end L2
namespace L2
open PySem PySem.Spec PyProof.Rows
theorem Cq.cL {k:Nat} {A:Around} (r:Cq k A):A.units+66 < cLine:=by have:=r.un;omega
section
variable {X:Cx} {K:YD}
end
end L2
namespace PySem
open Sem (wp)
open AutoSeq1 (wpAny_loadPart')
section
variable {prog:Program} {w:World} {A:Around} {E:YA} {s:Shared}
end
end PySem
namespace L2
open PySem PySem.Spec PyProof.Rows
section
variable {X:Cx}
end
section
variable {X:Cx}
end
section
variable {X:Cx}
end
section
variable {prog:Program} {w:World} {A:Around} {R:Result->Shared->Prop} {s:Shared} {elt t1 i1 t2 i2:Expr} {scope:Scope} {pos:Pos} {it acc:Value} {env:Env}
end
end L2
namespace L2
open PySem
theorem Uq {x:Str} {p:Pos} {es:YJ} {env:Env}:starEach (.Name x p::es) env=(false,eval (.Name x p) env)::starEach es env:=by rfl
theorem cV {a b:Expr} {p:Pos} {es:YJ} {env:Env}:starEach (.Subscript a b p::es) env=(false,eval (.Subscript a b p) env)::starEach es env:=by rfl
end L2
namespace L2
open PySem PySem.Spec PyProof.Rows
def KD (K:YD) (P:Params) (a:Addr):Prop:=(∃es n,K.lookup a=some ⟨.type "dict",none,.dict es n,#[]⟩/\KeysLit P es.toList)/\(a == sysModules)=false
def YQ (K:YD) (P:Params):R2:=λx y H Q=>∃z a r,x=.str z/\y=.ref a/\KD K P a/\nsIn K a z=some r/\Q (.bl (!r.isSome)) H
def cQ (K:YD) (P:Params) (td ty:TE):TE:=fun σ H Q=>td σ H λx H1=>ty σ H1 λy H2=>∃z a v u,y=.str z/\x=.ref a/\KD K P a/\nsIn K a z=some (some u)/\RelV v u/\Q v H2
def cT (mg:YB) (i:Nat) (names:YF) (sp:Str->Sp) (t:TA):TE:=fun σ H Q=>∃nm f,σ[i]?=some (some (.ref f))/\mg nm=some (.ref f)/\nm∈names/\QV (sp nm) [] E0 t σ H Q
section
variable {X:Cx}
theorem VL {K:YD} {P:Params} (hK:X.K=K) (hP:X.w.params=P):OpR X (compareOp .NotIn) (YQ K P):=by
 subst hK hP;intro jb s σ H x y v u Q I rx ry h;obtain⟨z,a,r,rfl,rfl,⟨⟨es,n,hl,hk⟩,lo⟩,e,q⟩:=h;obtain⟨t,rfl⟩:=rx;cases ry;refine wpAny_notIn_of (strKind_is X.prog X.w z t) lo (PySem.W.mapOf_K (prog:=X.prog) I.kIn hl hk) ?_;rw[PySem.W.find_K hl e];exact⟨.bl _,H,I.tok _,rq,q⟩
theorem RK {K:YD} {P:Params} {o i:Expr} {pos:Pos} {td ty:TE} (hK:X.K=K) (hP:X.w.params=P) (ho:PE X o td) (hi:PE X i ty) (hs:gH i):PE X (.Subscript o i pos) (cQ K P td ty):=by
 subst hK hP;intro jb s σ H Q I h;refine au PySem.F.slot_dict_getitem.lookup hs (thn (ho jb s σ H _ I h) λu s1 zz=>?_);obtain⟨x,H1,I1,rx,q1⟩:=zz;refine thn (hi jb s1 σ H1 _ I1 q1) λiv s2 ⟨y,H2,I2,ry,z,a,v,u',ey,ex,⟨⟨es,n,hl,hk⟩,lo⟩,e,rv,q2⟩=>?_;subst ex ey;obtain⟨t,rfl⟩:=ry;obtain rfl:u=Value.ref a:=rx;have M:=PySem.W.mapOf_K (prog:=X.prog) I2.kIn hl hk;exact⟨M.typeIs,wpAny_getItem_of (strKind_is X.prog X.w z t) M (PySem.W.find_K hl e) ⟨v,H2,I2.tok _,rv,q2⟩⟩
theorem dM {k k' i:Nat} {ps:YF} {sp:Str->Sp} {names:YF} {x:Str} {p pos:Pos} {e:Expr} {es:YJ} {t:TA} (g:∀nm,nm∈names->Good X.prog X.w X.K X.mg X.base nm k ps (sp nm)) (hr:Cq k' X.A) (ha:PA X (e::es) t) (hN:X.N[i]?=some x:=by rfl)
  (hk:k<=k':=by decide) (hv:Vis X.env.scope x:=by first | exact Or.inl rfl | exact Or.inr (Or.inl rfl) | exact Or.inr (Or.inr rfl)) (hd:(x == ("__debug__":Str))=false:=by decide) (hcd:(x == ("__classdict__":Str))=false:=by decide)
  (he:starEach (e::es) X.env=(false,eval e X.env)::starEach es X.env:=by rfl) (hpl:(backTo pos (starEach es X.env)).any (·.1)=false:=by rfl) :
  PE X (.Call (.Name x p) (e::es) [] pos) (cT X.mg i names sp t):=by
 intro jb s σ H Q I h;obtain⟨nm,f,e1,e2,hin,q⟩:=h;obtain⟨f',fd,m,kp,b,F⟩:=(g nm hin).ex;rw[m] at e2;cases e2;refine QaP (thn (Xj hN hv hd hcd jb s σ H (λv H'=>v=.ref f/\H'=H) I ⟨.ref f,e1,rq,rq⟩) λu s1 zz=>?_);obtain⟨v,H1,I1,r1,e3,e4⟩:=zz;subst e3 e4;cases r1;refine callWith_K (h₀:=X.base) I1.ok.mod.kin kp (thn (ha pos jb s1 σ H1 _ I1 q) λus s2 zz=>?_) he hpl;obtain⟨vs,H2,I2,r,q2⟩:=zz;refine⟨I2.kIn,?_⟩;exact Rx F (hr.mono hk) b .nil QX I2 r q2
end
def Ww (K:YD) (a b:Addr):It:=
  ⟨λi H=>∃xs ys x y,H a=some (.tup xs)/\H b=some (.tup ys)/\xs[i]?=some x/\ys[i]?=some y,
   λi H v H'=>∃p x y,H p=none/\v=.ref p/\H'=upd H p (.tup [x,y])/\(∀xs,H a=some (.tup xs)->xs[i]?=some x)/\∀ys,H b=some (.tup ys)->ys[i]?=some y,
   λi H=>∃xs ys,H a=some (.tup xs)/\H b=some (.tup ys)/\(xs.length<=i\/ys.length<=i)⟩
theorem Vm {P:Program} {w:World} {K:YD} {elts:YJ} {k:Nat} {pos:Pos} (a b z TI TO i1 i2:Addr) (nd:[z,TI,TO,i1,i2].Nodup) :
  Turn P w K (.Tuple elts k pos) (Ww K a b) [z,TI,TO,i1,i2] z (λi h=>(∃f1,ZZ.IsZ h z TI TO .none f1)/\ZZ.Ce h TI [.ref i1,.ref i2]/\(∃olds:YE,ZZ.Ce h TO olds/\olds.length=2)/\h.IsTupleIter i1 a i/\h.IsTupleIter i2 b i) where
 mem:=by simp
 obj:=λi h st c hc=>by
  obtain⟨⟨f1,hz⟩,hTI,⟨olds,hTO,_⟩,⟨o1,e1,_,d1⟩,o2,e2,_,d2⟩:=st;simp only[QbK,Qbh,Qch] at hc;rcases hc with rfl | rfl | rfl | rfl | rfl
  ·exact⟨_,hz,λv q=>by cases (show Data.fields _=Data.cell v from q)⟩
  ·exact⟨_,hTI,λv q=>by cases (show Data.seq _ _=Data.cell v from q)⟩
  ·exact⟨_,hTO,λv q=>by cases (show Data.seq _ _=Data.cell v from q)⟩
  ·exact⟨o1,e1,λv q=>by rw[d1] at q;cases q⟩
  ·exact⟨o2,e2,λv q=>by rw[d2] at q;cases q⟩
 keep:=λi h h' st k=>by
  obtain⟨⟨f1,hz⟩,hTI,⟨olds,hTO,l⟩,h1,h2⟩:=st;exact⟨⟨f1,k z (by simp) _ hz⟩,k TI (by simp) _ hTI,⟨olds,k TO (by simp) _ hTO,l⟩,h1.at λo e=>k i1 (by simp) o e,h2.at λo e=>k i2 (by simp) o e⟩
 item:=by
  intro X hP hw hK hc i jb s σ H E I hf st hg;subst hP hw hK;obtain⟨xs,ys,x,y,hq1,hq2,hx,hy⟩:=hg;obtain⟨us,ru,p1,z1⟩:=I.tuple (SqT.of hq1);obtain⟨ws,rw',p2,z2⟩:=I.tuple (SqT.of hq2);obtain⟨u,hu,ru'⟩:=ru.get hx;obtain⟨v,hv,rv'⟩:=rw'.get hy;obtain⟨⟨f1,hz⟩,hTI,⟨olds,hTO,lo⟩,hi1,hi2⟩:=st;simp only[Qbw,QbK,Qbh,Qch,not_or,QbH,Qbe,and_true] at nd;obtain⟨⟨n1,n2,n3,n4⟩,⟨n5,n6,n7⟩,⟨n8,n9⟩,n10⟩:=nd;have D:ZZ.Apart z TI TO [⟨i1,a,us.toArray⟩,⟨i2,b,ws.toArray⟩]:=by
   obtain⟨oa,ea,ca,_⟩:=id p1;obtain⟨ob,eb,cb,_⟩:=id p2;obtain⟨o1,e1,c1,_⟩:=id hi1;obtain⟨o2,e2,c2,_⟩:=id hi2;have aTO:a≠TO:=λq=>by
    have:=(hf TO (by simp)).1;rw[<-q,hq1] at this;cases this
   have bTO:b≠TO:=λq=>by
    have:=(hf TO (by simp)).1;rw[<-q,hq2] at this;cases this
   have t1:Value.type "tuple"≠Value.type "zip":=λq=>absurd (by injection q) (show ¬("tuple"="zip") by decide);have t2:Value.type "tuple"≠Value.type "tuple_iterator":=λq=>absurd (by injection q) (show ¬("tuple"="tuple_iterator") by decide);refine⟨Ne.symm n1,Ne.symm n2,n5,λq hq=>?_,λq hq=>?_,λq hq r hr=>?_,?_⟩
   ·simp only[QbK,Qbh,Qch] at hq;rcases hq with rfl | rfl
    ·exact⟨Ne.symm n3,Ne.symm n6,Ne.symm n8⟩
    ·exact⟨Ne.symm n4,Ne.symm n7,Ne.symm n9⟩
   ·simp only[QbK,Qbh,Qch] at hq;rcases hq with rfl | rfl
    ·exact⟨BP ea hz (by rw[ca];exact t1),aTO⟩
    ·exact⟨BP eb hz (by rw[cb];exact t1),bTO⟩
   ·simp only[QbK,Qbh,Qch] at hq hr;rcases hq with rfl | rfl <;> rcases hr with rfl | rfl
    ·exact BP ea e1 (by rw[ca,c1];exact t2)
    ·exact BP ea e2 (by rw[ca,c2];exact t2)
    ·exact BP eb e1 (by rw[cb,c1];exact t2)
    ·exact BP eb e2 (by rw[cb,c2];exact t2)
   ·simp[n10]
  have hat:∀q∈([⟨i1,a,us.toArray⟩,⟨i2,b,ws.toArray⟩]:List ZZ.Src),ZZ.SrcAt s.heap q i:=λq hq=>by
   simp only[QbK,Qbh,Qch] at hq;rcases hq with rfl | rfl
   ·exact .inr ⟨hi1,p1⟩
   ·exact .inr ⟨hi2,p2⟩
  refine ZZ.NK hz (Qi:=λr s'=>∃h',r=.ref s.heap.objs.size/\s'={ s with heap:=h' }/\ZZ.IsZ h' z TI TO (rawInt s.heap.objs.size) (.bool false)/\ZZ.Ce h' TI [.ref i1,.ref i2]/\ZZ.Ce h' TO [u,v]/\(∀q∈([⟨i1,a,us.toArray⟩,⟨i2,b,ws.toArray⟩]:List ZZ.Src),ZZ.SrcAt h' q (i+1))/\ZZ.Ce h' s.heap.objs.size [u,v]/\ZZ.Rest z TO [⟨i1,a,us.toArray⟩,⟨i2,b,ws.toArray⟩] s.heap h')
   (ZZ.KJ (xs:=[u,v]) D hz hTI hTO hat (by simp) rfl lo (λj q hj=>?_) (by show 2<=100;decide) λh' a1 a2 a3 a4 a5 a6 a7=>⟨h',rq,rq,a1,a2,a3,a4,a5,a7⟩) λr s' hQ=>?_
  ·match j,hj with
   | 0,hj=>cases hj;exact⟨u,rfl,by simpa using hu⟩
   | 1,hj=>cases hj;exact⟨v,rfl,by simpa using hv⟩
  obtain⟨h',rfl,rfl,a1,a2,a3,a4,a5,a7⟩:=hQ;refine⟨_,rq,ZZ.Ql (s:={ s with heap:=h' }) a1 λh2 hz2 sb=>?_⟩;have hlt2:s.heap.objs.size≠z:=QbX (QbT hz);have hT2:ZZ.Ce h2 s.heap.objs.size [u,v]:=(sb.2 _ hlt2).trans a5;have new:Cj X.prog X.w (upd H s.heap.objs.size (.tup [x,y])) h2 s.heap.objs.size (.tup [x,y]):=
   ⟨by show 2<=sizeLine;decide,[u,v],.cons ru' (.cons rv' .nil),_,hT2,rq,0,rq⟩
  have I1:=I.Lb (h':=h2) (t':=s.toks) (QbZ _) (λc q hc e=>(sb.2 c (λw=>hc (by simp[w]))).trans (a7 c q (λw=>hc (by simp[w])) (λw=>hc (by simp[w])) (λw=>hc (by simp only[QbM,List.map_nil,QbK,Qbh,Qch] at w;rcases w with w | w <;> simp[w])) e)) hf new;have aj:∀{it l:Addr} {items:Array Value},l≠z->l≠TO->l≠i1->l≠i2->it≠z->s.heap.IsTuple l items->ZZ.SrcAt h' ⟨it,l,items⟩ (i+1)->h2.IsTupleIter it l (i+1):=λm1 m2 m3 m4 m5 hl q=>by
   rcases q with⟨_,q2⟩|⟨q1,_⟩
   ·obtain⟨o,e,r⟩:=hl;exact (Du q2 ⟨o,a7 _ o m1 m2 (by simp[m3,m4]) e,r⟩).elim
   ·exact q1.at λo e=>(sb.2 _ m5).trans e
  refine⟨.ref s.heap.objs.size,_,I1,rq,⟨s.heap.objs.size,x,y,I.hok.fresh (QbZ _),rq,rq,λys' hy'=>by (rw[hq1] at hy';cases hy';exact hx),λys' hy'=>by (rw[hq2] at hy';cases hy';exact hy)⟩,⟨⟨_,hz2⟩,(sb.2 _ (Ne.symm n1)).trans a2,⟨[u,v],(sb.2 _ (Ne.symm n2)).trans a3,rq⟩,?_,?_⟩,λc hc=>?_⟩
  ·exact aj (D.a ⟨i1,a,us.toArray⟩ (by simp)).1 (D.a ⟨i1,a,us.toArray⟩ (by simp)).2 (D.ai ⟨i1,a,us.toArray⟩ (by simp) ⟨i1,a,us.toArray⟩ (by simp)) (D.ai ⟨i1,a,us.toArray⟩ (by simp) ⟨i2,b,ws.toArray⟩ (by simp)) (Ne.symm n3) p1 (a4 _ (by simp))
  ·exact aj (D.a ⟨i2,b,ws.toArray⟩ (by simp)).1 (D.a ⟨i2,b,ws.toArray⟩ (by simp)).2 (D.ai ⟨i2,b,ws.toArray⟩ (by simp) ⟨i1,a,us.toArray⟩ (by simp)) (D.ai ⟨i2,b,ws.toArray⟩ (by simp) ⟨i2,b,ws.toArray⟩ (by simp)) (Ne.symm n4) p2 (a4 _ (by simp))
  ·have hlc:c≠s.heap.objs.size:=by
    have hmem:∃o,s.heap.get? c=some o:=by
     simp only[QbK,Qbh,Qch] at hc;rcases hc with rfl | rfl | rfl | rfl | rfl
     ·exact⟨_,hz⟩
     ·exact⟨_,hTI⟩
     ·exact⟨_,hTO⟩
     ·obtain⟨o,e,_⟩:=hi1;exact⟨o,e⟩
     ·obtain⟨o,e,_⟩:=hi2;exact⟨o,e⟩
    obtain⟨o,e⟩:=hmem;exact QbU (QbT e)
   rw[Bp hlc];exact (hf c hc).1
 done:=by
  intro X hP hw hK hc i jb s σ H E I hf st hg;subst hP hw hK;obtain⟨xs,ys,hq1,hq2,hend⟩:=hg;obtain⟨us,ru,p1,z1⟩:=I.tuple (SqT.of hq1);obtain⟨ws,rw',p2,z2⟩:=I.tuple (SqT.of hq2);obtain⟨⟨f1,hz⟩,hTI,⟨olds,hTO,lo⟩,hi1,hi2⟩:=st;simp only[Qbw,QbK,Qbh,Qch,not_or,QbH,Qbe,and_true] at nd;obtain⟨⟨n1,n2,n3,n4⟩,⟨n5,n6,n7⟩,⟨n8,n9⟩,n10⟩:=nd;have D:ZZ.Apart z TI TO [⟨i1,a,us.toArray⟩,⟨i2,b,ws.toArray⟩]:=by
   obtain⟨oa,ea,ca,_⟩:=id p1;obtain⟨ob,eb,cb,_⟩:=id p2;obtain⟨o1,e1,c1,_⟩:=id hi1;obtain⟨o2,e2,c2,_⟩:=id hi2;have aTO:a≠TO:=λq=>by
    have:=(hf TO (by simp)).1;rw[<-q,hq1] at this;cases this
   have bTO:b≠TO:=λq=>by
    have:=(hf TO (by simp)).1;rw[<-q,hq2] at this;cases this
   have t1:Value.type "tuple"≠Value.type "zip":=λq=>absurd (by injection q) (show ¬("tuple"="zip") by decide);have t2:Value.type "tuple"≠Value.type "tuple_iterator":=λq=>absurd (by injection q) (show ¬("tuple"="tuple_iterator") by decide);refine⟨Ne.symm n1,Ne.symm n2,n5,λq hq=>?_,λq hq=>?_,λq hq r hr=>?_,?_⟩
   ·simp only[QbK,Qbh,Qch] at hq;rcases hq with rfl | rfl
    ·exact⟨Ne.symm n3,Ne.symm n6,Ne.symm n8⟩
    ·exact⟨Ne.symm n4,Ne.symm n7,Ne.symm n9⟩
   ·simp only[QbK,Qbh,Qch] at hq;rcases hq with rfl | rfl
    ·exact⟨BP ea hz (by rw[ca];exact t1),aTO⟩
    ·exact⟨BP eb hz (by rw[cb];exact t1),bTO⟩
   ·simp only[QbK,Qbh,Qch] at hq hr;rcases hq with rfl | rfl <;> rcases hr with rfl | rfl
    ·exact BP ea e1 (by rw[ca,c1];exact t2)
    ·exact BP ea e2 (by rw[ca,c2];exact t2)
    ·exact BP eb e1 (by rw[cb,c1];exact t2)
    ·exact BP eb e2 (by rw[cb,c2];exact t2)
   ·simp[n10]
  have hat:∀q∈([⟨i1,a,us.toArray⟩,⟨i2,b,ws.toArray⟩]:List ZZ.Src),ZZ.SrcAt s.heap q i:=λq hq=>by
   simp only[QbK,Qbh,Qch] at hq;rcases hq with rfl | rfl
   ·exact .inr ⟨hi1,p1⟩
   ·exact .inr ⟨hi2,p2⟩
  have l1:=ru.length;have l2:=rw'.length;refine ZZ.JM hz (R:=λh'=>ZZ.Rest z TO [⟨i1,a,us.toArray⟩,⟨i2,b,ws.toArray⟩] s.heap h') (ZZ.KR (I.ok.hd hc) D hz hTI hTO hat (by simp) lo (by show 2<=100;decide) ?_ λh' e r st=>⟨h',e,rfl,rfl,r,st⟩) λh' r=>⟨rfl,I.Om (h':=h') (t':=s.toks) (λc q hc e=>r c q (λw=>hc (by simp[w])) (λw=>hc (by simp[w])) (λw=>hc (by simp only[QbM,List.map_nil,QbK,Qbh,Qch] at w;rcases w with w | w <;> simp[w])) e) hf⟩;rcases hend with h | h
  ·exact⟨_,QaI ..,by simp;omega⟩
  ·exact⟨_,Qav _ (QaI ..),by simp;omega⟩
 self:=λ_ _ _ _ _ st h=>ZZ.Io st.1.choose_spec h
def fG (K:YD) (ta:TA):TI:=fun σ H R=>ta σ H λvs H1=>∃a b,vs=[.ref a,.ref b]/\(∃xs,H1 a=some (.tup xs))/\(∃ys,H1 b=some (.tup ys))/\R (Ww K a b) H1
section
variable {X:Cx}
theorem YX {a b:Expr} {ta:TA} {p pos tp:Pos} {elts:YJ} {k:Nat} (hg:Gl X "zip") (hm:X.mg "zip"=none) (ha:PA X [a,b] ta)
  (hs:starEach [a,b] X.env=[(false,eval a X.env),(false,eval b X.env)]:=by rfl) (hs2:starEach [b] X.env=[(false,eval b X.env)]:=by rfl):PI X (.Tuple elts k tp) (.Call (.Name "zip" p) [a,b] [] pos) (fG X.K ta):=by
 intro jb s σ H R I h;refine Call_ (G5 I hg hm (u:=.type "zip") (by trivial) (Qac (thn (ha pos jb s σ H _ I h) λus s1 ⟨vs,H1,I1,r1,q1⟩=>?_) (by rw[hs,hs2]) (by rw[hs2];rfl)));obtain⟨a,b,e,⟨xs,hx⟩,⟨ys,hy⟩,q⟩:=q1;subst e;cases r1 with
 | cons r rr=>
  cases rr with
  | cons r' rr=>
   cases rr;cases r;cases r';obtain⟨us,ru,k1,z1⟩:=I1.tuple (SqT.of hx);obtain⟨ws,rw',k2,z2⟩:=I1.tuple (SqT.of hy);refine ZZ.Qp (c1:="tuple_iterator") (c2:="tuple_iterator") (.inr ⟨rq,k1⟩) (.inr ⟨rq,k2⟩) λh' z TI TO i1 i2 f=>?_;refine ZZ.Io (s:={ s1 with heap:=h' }) f.hz ?_;have nd:[z,TI,TO,i1,i2].Nodup:=by
    have a1:=f.ap.it ⟨i1,a,us.toArray⟩ (by simp);have a2:=f.ap.it ⟨i2,b,ws.toArray⟩ (by simp);have a3:i1≠i2:=by
     have:=f.ap.nd;simpa using this
    simp only[Qbw,QbK,Qbh,Qch,not_or,QbH,Qbe,and_true];exact⟨⟨Ne.symm f.ap.TIz,Ne.symm f.ap.TOz,Ne.symm a1.1,Ne.symm a2.1⟩,⟨f.ap.TITO,Ne.symm a1.2.1,Ne.symm a2.2.1⟩,⟨Ne.symm a1.2.2,Ne.symm a2.2.2⟩,a3⟩
   have at1:h'.IsTupleIter i1 a 0:=by
    rcases f.at_ ⟨i1,a,us.toArray⟩ (by simp) with⟨_,x2⟩|⟨x1,_⟩
    ·obtain⟨o,e,r⟩:=id k1;exact (Du x2 ⟨o,f.keep _ o e,r⟩).elim
    ·exact x1
   have at2:h'.IsTupleIter i2 b 0:=by
    rcases f.at_ ⟨i2,b,ws.toArray⟩ (by simp) with⟨_,x2⟩|⟨x1,_⟩
    ·obtain⟨o,e,r⟩:=id k2;exact (Du x2 ⟨o,f.keep _ o e,r⟩).elim
    ·exact x1
   refine⟨z,[z,TI,TO,i1,i2],_,_,H1,rq,I1.kept (t':=s1.toks) λc o e=>f.keep c o e,Vm a b z TI TO i1 i2 nd,⟨⟨_,f.hz⟩,f.hTI,⟨_,f.hTO,rq⟩,at1,at2⟩,λc hc=>?_,q⟩;have hn:=f.new;have hcs:s1.heap.objs.size<=c:=by
    simp only[QbK,Qbh,Qch] at hc;rcases hc with rfl | rfl | rfl | rfl | rfl
    ·exact hn.1
    ·exact hn.2.1
    ·exact hn.2.2.1
    ·exact hn.2.2.2 ⟨c,a,us.toArray⟩ (by simp)
    ·exact hn.2.2.2 ⟨c,b,ws.toArray⟩ (by simp)
   exact I1.PN hcs (I1.hok.fresh hcs)
end
theorem Wn {K:YD} {a b l:Addr} {xs ys:YG} {g:TG} {tt:TT} {te:TE} {Q:VK} {σ0:St} {H0:Hp} (n:Nat) (hx:n<=xs.length) (hy:n<=ys.length) (hn:xs.length<=n\/ys.length<=n) (Pv:YN)
  (h0:Pv 0 σ0 H0) (hl:∀i σ H',i<=n->Pv i σ H'->H' a=some (.tup xs)/\H' b=some (.tup ys))
  (hs:∀i x y p σ H',xs[i]?=some x->ys[i]?=some y->Pv i σ H'->H' p=none->g (.ref p) σ (upd H' p (.tup [x,y])) fun σ3 H3=>tt σ3 H3 λb H4=>if b=true then te σ3 H4 λy H5=>∃ys,H5 l=some (.lst ys)/\ys.length < sizeLine/\Pv (i+1) σ3 (upd H5 l (.lst (ys++[y]))) else Pv (i+1) σ3 H4)
  (hd:∀ σ H',Pv n σ H'->Q (.ref l) H'):Ef (Ww K a b) g tt te Q σ0 H0 l:=by
 unfold Ef;refine⟨λi m σ H'=>m=n - i/\i<=n/\Pv i σ H',⟨n,by simp,Qca _,h0⟩,?_⟩;rintro i m σ H' ⟨rfl,hi,p⟩;obtain⟨q1,q2⟩:=hl i σ H' hi p;by_cases hlt:i < n
 ·have hlt1:i < xs.length:=by omega
  have hlt2:i < ys.length:=by omega
  refine .inr ⟨⟨xs,ys,xs[i],ys[i],q1,q2,Qaj hlt1,Qaj hlt2⟩,Pv (i+1),fun σ3 H3 p'=>⟨n - (i+1),by omega,rq,hlt,p'⟩,λv H2 y=>?_⟩;obtain⟨pp,x',y',hp,rfl,rfl,e1,e2⟩:=y;exact hs i x' y' pp σ _ (e1 xs q1) (e2 ys q2) p hp
 ·exact .inl ⟨⟨xs,ys,q1,q2,by omega⟩,by
   have:i=n:=by omega
   subst this;exact hd _ _ p⟩
open PySem.W (KasT kas_asc kas_desc kas_rev kas_tail3 kas_descPart kas_count kas_place kas_bin kas_sort)
section
variable {prog:Program} {w:World} {A:Around} {s:Shared}
end
theorem Vx {X:Cx} {jb:YC} {σ : St} {H:Hp} {s:Shared} {h2:Heap} {tk:Nat} {m:YB} {D:Addr} {c:Nat} {vs:YG} {its:YE} (I:Inv X jb σ H s) (hn:s.heap.Ns X.env.locals m) (hn2:h2.Ns X.env.locals m) (kp2:∀b o,b≠X.env.locals->s.heap.get? b=some o->h2.get? b=some o) (nD:∀b o,s.heap.get? b=some o->b≠D)
  (oD:h2.get? D=some (seqObj "list" its.toArray c)) (rv:Vals vs its) (h64:vs.length < 64):H D=none/\Inv X jb σ (upd H D (.lst vs)) { s with heap:=h2,toks:=tk }:=by
 have hDn:H D=none:=by
  cases e:H D with
  | none=>rfl
  | some v=>
   obtain⟨o,ho⟩:=(I.hok D v e).there;exact absurd rfl (nD D o ho)
 refine⟨hDn,?_⟩;have tr:∀(o:HO) b u,H b=some u->(upd H D o) b=some u:=λo b u e=>by rw[Bp (BJ e hDn)];exact e
 refine I.step (h':=h2) (g':=s.gens) (d':=s.drawn) (t':=tk) (ch:=[]) (λb hb=>absurd hb (by simp)) (λb u hb _ _ e _=>kp2 b u hb e) (λb u hb _ _ e _=>⟨u.slots,kp2 b u hb e⟩) (λb u _ e n=>by rw[Bp (nD b u e)];exact n)
  (λb u _ e=>?_) (λb ys e=>tr _ _ _ e) (λb u v e=>tr _ _ _ e) (λb ps e=>⟨#[],by rw[tr _ _ _ e];simp⟩) (λm' hm'=>by rw[bf hm' hn];exact hn2) (λb u e=>?_) I.bare
 ·by_cases hb:b=X.env.locals
  ·obtain⟨o,_,_,ho,_⟩:=hn2;exact⟨o,by rw[hb];exact ho⟩
  ·exact⟨u,kp2 b u hb e⟩
 ·by_cases hb:b=D
  ·subst hb;rw[Ad] at e;cases e;exact⟨Nat.le_of_lt (Bq (by omega)),_,c,rv,oD⟩
  ·rw[Bp hb] at e;refine (I.hok b u e).stay (λx v hx e1=>kp2 x v ?_ e1) (λx e1=>tr _ _ _ e1) λx ys e1=>tr _ _ _ e1;intro z;rcases hx with hx | hx
   ·rw[<-hx,z,I.free] at e;cases e
   ·rw[z,I.free] at hx;cases hx
end L2
namespace L2
open PySem PySem.Spec PyProof.Rows
theorem Nt (xs:Array Nat) (j:Nat) (up:xs.toList.Pairwise (· < ·)):∀(f lo hi:Nat),hi - lo<=f->lo<=hi->hi<=xs.size->(∀i v,xs[i]?=some v->i < lo->v < j)->(∀i v,xs[i]?=some v->hi<=i->j<=v) ->
  ∃r,SetTable.below.go xs j f lo hi=r/\r<=xs.size/\(∀i v,xs[i]?=some v->i < r->v < j)/\(∀i v,xs[i]?=some v->r<=i->j<=v)
 | 0,lo,hi,h1,h2,h3,h4,h5=>⟨lo,rfl,by omega,h4,λi v e h=>h5 i v e (by omega)⟩
 | f+1,lo,hi,h1,h2,h3,h4,h5=>by
  unfold SetTable.below.go;by_cases c:lo < hi
  ·rw[if_pos c];dsimp only;have hm:(lo+hi) / 2 < xs.size:=by omega
   have em:xs[(lo+hi) / 2]?=some xs[(lo+hi) / 2]:=Qag hm;have eg:xs.getD ((lo+hi) / 2) j=xs[(lo+hi) / 2]:=by simp[Array.getD,hm]
   have mono:∀(a b:Nat) (u v:Nat),xs[a]?=some u->xs[b]?=some v->a < b->u < v:=λa b u v ea eb l=>by
    rw[<-Qaq] at ea eb;obtain⟨ha,rfl⟩:=Qaf.mp ea;obtain⟨hb,rfl⟩:=Qaf.mp eb;exact Qah.mp up a b ha hb l
   rw[eg];by_cases d:xs[(lo+hi) / 2] < j
   ·rw[if_pos d];refine Nt xs j up f _ hi (by omega) (by omega) h3 (λi v e l=>?_) h5;by_cases q:i=(lo+hi) / 2
    ·subst q;rw[em] at e;cases e;exact d
    ·exact Nat.lt_trans (mono i _ v _ e em (by omega)) d
   ·rw[if_neg d];refine Nt xs j up f lo _ (by omega) (by omega) (by omega) h4 (λi v e l=>?_);by_cases q:i=(lo+hi) / 2
    ·subst q;rw[em] at e;cases e;exact Nat.le_of_not_lt d
    ·exact QbV (Nat.le_of_not_lt d) (Nat.le_of_lt (mono _ i _ v em e (by omega)))
  ·rw[if_neg c];exact⟨lo,rq,by omega,h4,λi v e h=>h5 i v e (by omega)⟩
theorem below_at {xs:Array Nat} {j:Nat} (up:xs.toList.Pairwise (· < ·)):SetTable.below xs j<=xs.size/\(∀i v,xs[i]?=some v->i < SetTable.below xs j->v < j)/\(∀i v,xs[i]?=some v->SetTable.below xs j<=i->j<=v):=by
 obtain⟨r,e,h⟩:=Nt xs j up xs.size 0 xs.size (by omega) (by omega) (QbZ _) (λi v _ h=>absurd h (Nat.not_lt_zero _)) (λi v e h=>absurd (Array.getElem?_eq_some_iff.mp e).1 (by omega));have e':SetTable.below xs j=r:=e;rw[e'];exact h
def TOk (b:Bool) (t:SetTable):Prop:=t.led=b/\t.dummies=#[]/\(t.plain=true->t.place.toList.Pairwise (· < ·))
theorem TOk.fresh0 (b:Bool):TOk b (.fresh 0 0 b):=⟨rfl,rfl,λ_=>List.Pairwise.nil⟩
theorem TOk.stand {b:Bool} {t:SetTable} (h:TOk b t) (n:Nat):TOk b (t.standIn n):=⟨h.1,rfl,λz=>by cases z⟩
theorem TOk.off {b:Bool} {t:SetTable} (h:TOk b t):TOk b { t with plain:=false }:=⟨h.1,h.2.1,λz=>by cases z⟩
theorem NP {t:SetTable} {b:Bool} (h:TOk b t) (ha:Nat->Int) (x:Int):∀(f:Nat) (p:SetTable.Probe),p.dummy=none->∀j d,SetTable.probe.go t ha x f p=some (.empty j d)->d=none/\t.slot j=.empty
 | 0,p,_,j,d,e=>by simp[SetTable.probe.go] at e
 | f+1,p,pd,j,d,e=>by
  unfold SetTable.probe.go at e;have adv:∀q:SetTable.Probe,q.dummy=none->(t.advance q).dummy=none:=λq hq=>by unfold SetTable.advance;split <;> exact hq
  split at e
  ·rename_i hs;cases e;exact⟨pd,hs⟩
  ·rename_i hs;exfalso;unfold SetTable.slot at hs;dsimp only at hs;rw[h.2.1] at hs;split at hs
   ·cases hs
   ·split at hs
    ·rename_i hh;simp[SetTable.has] at hh
    ·cases hs
  ·split at e
   ·cases e
   ·exact NP h ha x f _ (adv p pd) j d e
theorem XF {xs:Array Nat} {j:Nat} (up:xs.toList.Pairwise (· < ·)) (ne:xs[SetTable.below xs j]?≠some j):(SetTable.insertAt xs (SetTable.below xs j) j).toList.Pairwise (· < ·):=by
 obtain⟨h1,h2,h3⟩:=below_at (j:=j) up;rw[SetTable.toList_insertAt];refine List.pairwise_append.mpr ⟨up.sublist (List.take_sublist _ _),List.pairwise_cons.mpr ⟨λv hv=>?_,up.sublist (List.drop_sublist _ _)⟩,λu hu v hv=>?_⟩
 ·obtain⟨i,hi⟩:=Qaw hv;rw[List.getElem?_drop,Qaq] at hi;have q:=h3 _ v hi (Nat.le_add_right _ _);by_cases c:j=v
  ·subst c;by_cases z:i=0
   ·subst z;exact absurd hi ne
   ·exfalso;have hl:SetTable.below xs j < xs.size:=by have:=(Array.getElem?_eq_some_iff.mp hi).1;omega
    have e0:xs[SetTable.below xs j]?=some xs[SetTable.below xs j]:=Qag hl;have q0:=h3 _ _ e0 (QbZ _);rw[<-Qaq] at e0 hi;obtain⟨a1,a2⟩:=Qaf.mp e0;obtain⟨b1,b2⟩:=Qaf.mp hi;have:=Qah.mp up _ _ a1 b1 (by omega);omega
  ·omega
 ·obtain⟨i,hi⟩:=Qaw hu;have hil:i < SetTable.below xs j:=by
   have:=(Qaf.mp hi).1;rw[Qbi] at this;omega
  rw[List.getElem?_take_of_lt hil,Qaq] at hi;have uj:=h2 i u hi hil;rcases QbK.mp hv with rfl | hv
  ·exact uj
  ·obtain⟨k,hk⟩:=Qaw hv;rw[List.getElem?_drop,Qaq] at hk;exact QaH uj (h3 _ v hk (Nat.le_add_right _ _))
theorem TOk.Xg {b:Bool} {t:SetTable} (h:TOk b t) {j:Nat} (e:t.slot j=.empty):TOk b (t.put j).1:=by
 refine⟨h.1,?_,λpl=>?_⟩
 ·show (if SetTable.has t.dummies j=true then SetTable.eraseAt t.dummies (SetTable.below t.dummies j) else t.dummies)=#[]
  rw[h.2.1];have:SetTable.has (#[]:Array Nat) j=false:=by simp[SetTable.has]
  rw[this];rfl
 ·refine XF (h.2.2 pl) λz=>?_;unfold SetTable.slot at e;dsimp only at e;rw[z] at e;simp at e
theorem TOk.lay {b:Bool} {t:SetTable} (h:TOk b t) (es:Array (Int×Value)) (k:Int) (x:Value):TOk b (layNew t es k x).2.1:=by
 unfold layNew;split
 ·rename_i slot wd hf;dsimp only;have key:t.slot slot=.empty:=by
   unfold SetTable.freeSlot at hf;split at hf
   ·rename_i j d hp;obtain⟨rfl,hs⟩:=NP h _ _ _ _ rfl j d hp;cases hf;exact hs
   ·cases hf
  unfold SetTable.orStandIn;split
  ·exact h.Xg key
  ·exact (h.Xg key).stand _
 ·exact h.stand _
theorem TOk.iI {b:Bool} {t:SetTable} (h:TOk b t) (es:Array (Int×Value)) (n:Nat):TOk b (relayAll t es n).2.1:=by
 unfold relayAll;split
 ·rename_i t' order hr;dsimp only;split
  ·dsimp only;unfold SetTable.relaid SetTable.laid at hr;rw[Option.bind_eq_bind] at hr;obtain⟨owner,_,e⟩:=Option.bind_eq_some_iff.mp hr;have e':=Qbv e;cases e';refine⟨h.1,rq,λ_=>?_⟩;dsimp only;have:∀(l:List Nat) (g:Nat->Option (Nat×Nat)),(∀j p,g j=some p->p.1=j)->((l.filterMap g).map (·.1)).Sublist l:=by
    intro l g hg
    induction l with
    | nil=>exact .slnil
    | cons a l ih=>
     rw[List.filterMap_cons];split
     ·exact ih.cons _
     ·rename_i p hp;rw[QbM,hg a p hp];exact ih.cons₂ _
   refine List.Pairwise.sublist (this _ _ λj p hp=>?_) List.pairwise_lt_range;obtain⟨v,_,rfl⟩:=Qan.mp hp;rfl
  ·exact h.stand _
 ·exact h.stand _
section
variable {prog:Program} {w:World} {KT:Type} [DecidableEq KT] (kn:KeyKind prog w KT)
def SetT (b:Bool) (h:Heap) (a:Addr) (S:KT->Bool) (n:Nat):Prop:=
 ∃ob es ep t,(h.get? a=some ob/\ob.ExactSet/\ob.data=.set es ep t)/\(ElemsOf kn es.toList/\∀k,S k=true ↔ ∃e∈es.toList,kn.is k e.2=true)/\(es.size < scanBound/\t.fits es.size=true/\es.size=n)/\TOk b t
variable {kn}
variable {A:Around} {E:YA} {s:Shared}
theorem SetT.at {b:Bool} {h h':Heap} {a:Addr} {S:KT->Bool} {n:Nat} (z:SetT kn b h a S n) (k:∀o,h.get? a=some o->h'.get? a=some o):SetT kn b h' a S n:=
 let ⟨ob,es,ep,t,⟨g1,g2⟩,g3⟩:=z
 ⟨ob,es,ep,t,⟨k _ g1,g2⟩,g3⟩
theorem SetT.stored {b:Bool} {h:Heap} {a:Addr} {ob:Obj} {es:Array (Int×Value)} {ep:Nat} {t:SetTable} (g1:h.get? a=some ob) (g2:ob.ExactSet) (g3:ob.data=.set es ep t)
  {es':Array (Int×Value)} {t':SetTable} {S':KT->Bool} (k1:ElemsOf kn es'.toList) (k2:∀k,S' k=true ↔ ∃e∈es'.toList,kn.is k e.2=true) (k3:es'.size < scanBound) (k4:t'.fits es'.size=true) (k5:TOk b t') :
  (h.update a (Obj.putSet es' t')).get? a=some { ob with data:=.set es' (ep+1) t' }/\SetT kn b (h.update a (Obj.putSet es' t')) a S' es'.size:=by
 obtain⟨q,_⟩:=SetOf_store (knd:=kn) g1 g2 g3 k1 k2 k3 k4;exact⟨q,_,es',ep+1,t',⟨q,g2,rq⟩,⟨k1,k2⟩,⟨k3,k4,rq⟩,k5⟩
theorem Qw {b:Bool} {g:Bool->Sem Unit} (hg:∀(c:Bool) (s₁ : Shared) (Z:YH),Z () s₁->wpAny (model prog w) A (g c) Z E s₁)
  {a:Addr} {ob:Obj} {es:Array (Int×Value)} {ep:Nat} {t:SetTable} (g1:s.heap.get? a=some ob) (g2:ob.ExactSet) (g3:ob.data=.set es ep t)
  {es1:Array (Int×Value)} {t1:SetTable} {S':KT->Bool} (k1:ElemsOf kn es1.toList) (k2:∀k,S' k=true ↔ ∃e∈es1.toList,kn.is k e.2=true) (k3:es1.size < scanBound) (k4:t1.fits es1.size=true) (k5:TOk b t1) {wd:Bool} {R:Option Bool->Shared->Prop}
  (h:∀h',Heap.SameBut a s.heap h'->SetT kn b h' a S' es1.size->R (some true) { s with heap:=h' }) :
  wpAny (model prog w) A (do
    storeSet a es1 t1
    if (!wd&&t1.tooFull)=true then do
      g (relayAll t1 es1 (SetTable.grown es1.size)).2.2
      storeSet a (relayAll t1 es1 (SetTable.grown es1.size)).1 (relayAll t1 es1 (SetTable.grown es1.size)).2.1
      pure (some true)
     else pure (some true)) R E s:=by
 refine Qcc (wpAny_storeSet_of g1 g3 ?_ (fits_of_scanBound k3));obtain⟨o1,z1⟩:=SetT.stored g1 g2 g3 k1 k2 k3 k4 k5;have m1:=QaB s.heap a (Obj.putSet es1 t1);split
 ·have pm:=relayAll_perm t1 es1 (SetTable.grown es1.size);have ft:=relayAll_fits t1 es1 (SetTable.grown es1.size);have tk:=k5.iI es1 (SetTable.grown es1.size);generalize relayAll t1 es1 (SetTable.grown es1.size)=RL at pm ft tk ⊢;obtain⟨es2,t2,gv⟩:=RL;dsimp only at pm ft tk ⊢;have l1:ElemsOf kn es2.toList:=k1.perm pm;have l2:∀k,S' k=true ↔ ∃e∈es2.toList,kn.is k e.2=true:=λk=>(k2 k).trans ⟨λ⟨e,he,q⟩=>⟨e,pm.mem_iff.mpr he,q⟩,λ⟨e,he,q⟩=>⟨e,pm.mem_iff.mp he,q⟩⟩;have sz:es2.size=es1.size:=by rw[<-QaA,pm.length_eq,QaA]
  have l3:es2.size < scanBound:=sz ▸ k3;refine Qcc (hg gv _ _ ?_);refine Qcc (wpAny_storeSet_of o1 rfl ?_ (fits_of_scanBound l3));obtain⟨_,z2⟩:=SetT.stored o1 g2 rfl l1 l2 l3 ft tk;exact Qcd (h _ (m1.trans (QaB _ a _)) (sz ▸ z2))
 ·exact Qcd (h _ m1 z1)
theorem oV {b:Bool} {a:Addr} {S:KT->Bool} {n:Nat} {k:KT} {x:Value} {Q:Bool->Shared->Prop} (kx:kn.is k x=true) (sx:x.scannable=true) (z:SetT kn b s.heap a S n) (room:n+1 < scanBound)
  (h:∀h',Heap.SameBut a s.heap h'->SetT kn b h' a (λk'=>S k' || decide (k'=k)) (if S k then n else n+1)->Q (!S k) { s with heap:=h' }) :
  wpAny (model prog w) A (setAddHashed a x (kn.hash k)) Q E s:=by
 obtain⟨ob,es,ep,t,⟨g1,g2,g3⟩,⟨c1,c2⟩,⟨c3,c4,rfl⟩,c5⟩:=z;unfold setAddHashed setAddHashedIn;refine QbP (Qcc (QaX g1 g3 c4 ?_));dsimp only;rw[byScan_of sx c3 c1];simp only[↓reduceIte];unfold setAddByScan;refine Qcc (Qcc (Qcf (Qcc (wpAny_setScan_of kx g1 g3 c4 c1 ?_))));cases fnd:es.toList.findIdx? (λe=>kn.is k e.2) with
 | some i=>
  dsimp only;obtain⟨hi,pi,_⟩:=List.findIdx?_eq_some_iff_getElem.mp fnd;have Sk:S k=true:=(c2 k).mpr ⟨es.toList[i],List.getElem_mem hi,pi⟩;refine Qcd (Qcd ?_);have u:=h s.heap (Heap.SameBut.refl a s.heap) ⟨ob,es,ep,t,⟨g1,g2,g3⟩,⟨c1,λk'=>by
   rw[Bool.or_eq_true,decide_eq_true_eq,<-c2 k'];exact⟨λq=>q.elim id λe=>e ▸ Sk,.inl⟩⟩,⟨c3,c4,by rw[Sk];rfl⟩,c5⟩
  rw[Sk] at u;obtain⟨_,_,_,_,_⟩:=s;exact u
 | none=>
  dsimp only;have Sk:S k=false:=Bool.eq_false_iff.mpr λq=>by
   obtain⟨e,he,p⟩:=(c2 k).mp q;have:=List.findIdx?_eq_none_iff.mp fnd e he;rw[p] at this;cases this
  have gw:∀(c:Bool) {s₁ : Shared} {Z:YH},Z () s₁->wpAny (model prog w) A (match c with | true=>rule "set.scan.the-table-gave-way" | false=>pure ()) Z E s₁:=λc s₁ Z q=>by cases c <;> first | exact Qcd q | exact Qcf q
  have pm:=layNew_perm t es (kn.hash k) x;have ft:=layNew_fits t es (kn.hash k) x;have tk:=c5.lay es (kn.hash k) x;generalize layNew t es (kn.hash k) x=LN at pm ft tk ⊢;obtain⟨es1,t1,wd,gv⟩:=LN;dsimp only at pm ft tk ⊢;rw[Array.toList_push] at pm;have d1:ElemsOf kn es1.toList:=(c1.push kx sx).perm pm;have d2:∀k',(S k' || decide (k'=k))=true ↔ ∃e∈es1.toList,kn.is k' e.2=true:=mem_push_iff kx c2 pm;have sz:es1.size=es.size+1:=by rw[<-QaA,pm.length_eq,QaF,QaA];rfl
  have d3:es1.size < scanBound:=by rw[sz];exact room
  have fin:∀h',Heap.SameBut a s.heap h'->SetT kn b h' a (λk'=>S k' || decide (k'=k)) es1.size->Q true { s with heap:=h' }:=λh' m z=>by
   have u:=h h' m;rw[Sk] at u;exact u (sz ▸ z)
  refine Qcc (gw gv ?_);split
  ·refine Qcc ?_;rw[hashByValue_scannable 8 sx];refine Qcd ?_;refine Qw ?_ g1 g2 g3 d1 d2 d3 ?_ (b:=b) ?_ ?_
   ·intro c s₁ Z q;cases c <;> first | exact Qcd q | exact Qcf q
   ·split
    ·exact ft
    ·exact SetTable.fits_plain_off ft
   ·split
    ·exact tk
    ·exact tk.off
   ·intro h' m z;dsimp only;exact Qcd (fin h' m z)
  ·refine Qcc (Qcd ?_);simp only[↓reduceIte];refine Qw ?_ g1 g2 g3 d1 d2 d3 ft tk ?_
   ·intro c s₁ Z q;cases c <;> first | exact Qcd q | exact Qcf q
   ·intro h' m z;dsimp only;exact Qcd (fin h' m z)
end
def met {KT:Type} [DecidableEq KT] (val:Nat->KT):Nat->List KT
 | 0=>[]
 | i+1=>if val i∈met val i then met val i else met val i++[val i]
section
variable {KT:Type} [DecidableEq KT]
theorem Zc (val:Nat->KT) (i:Nat):met val (i+1)=if val i∈met val i then met val i else met val i++[val i]:=rfl
theorem Pk (val:Nat->KT):∀i,(met val i).length<=i
 | 0=>QbZ _
 | i+1=>by
  have ih:=Pk val i;unfold met;split
  ·omega
  ·rw[QaF];exact Nat.succ_le_succ ih
theorem Sv (val:Nat->KT):∀i,(met val i).Nodup
 | 0=>List.Pairwise.nil
 | i+1=>by
  unfold met;split
  ·exact Sv val i
  ·rename_i h;exact List.nodup_append.mpr ⟨Sv val i,by simp,λx hx y hy z=>by rw[QaK.mp hy] at z;exact h (z ▸ hx)⟩
theorem Pj (val:Nat->KT) (k:KT):∀i,k∈met val i ↔ ∃j,j < i/\val j=k
 | 0=>⟨(λh=>by cases h),λ⟨j,h,_⟩=>absurd h (Nat.not_lt_zero _)⟩
 | i+1=>by
  have ih:=Pj val k i;unfold met;split
  ·rename_i h;rw[ih];constructor
   ·refine λzz=>?_;obtain⟨j,h,e⟩:=zz;exact⟨j,QaZ h,e⟩
   ·intro ⟨j,hj,e⟩;by_cases c:j=i
    ·subst c;subst e;exact (Pj val _ j).mp h
    ·exact⟨j,by omega,e⟩
  ·rw[Qbx,QaK,ih];constructor
   ·rintro (⟨j,h,e⟩| e)
    ·exact⟨j,QaZ h,e⟩
    ·exact⟨i,Qbp _,e.symm⟩
   ·intro ⟨j,hj,e⟩;by_cases c:j=i
    ·subst c;exact .inr e.symm
    ·exact .inl ⟨j,by omega,e⟩
end
section
variable {prog:Program} {w:World} {KT:Type} [DecidableEq KT] {kn:KeyKind prog w KT} {A:Around} {E:YA} {s:Shared}
theorem SetT.mU {b:Bool} {h:Heap} {a:Addr} {S S':KT->Bool} {n n':Nat} (z:SetT kn b h a S n) (e:∀k,S k=S' k) (en:n=n'):SetT kn b h a S' n':=by
 have:S=S':=funext e;rw[<-this,<-en];exact z
theorem W9 {R:Result->Shared->Prop} {I:Addr} {fp wr:List Addr} {G:Array GenState->Array GenState->Prop} {n:Nat} {P:Nat->Value->Prop} {St:Nat->Shared->Prop} (Wk:WalksS prog w A.in1 I fp wr G n P St) (b:Bool) (S:Addr) (nS:S∉fp)
  (val:Nat->KT) (hv:∀i v,P i v->kn.is (val i) v=true/\v.scannable=true) (lim:n+1 < scanBound) :
  ∀(m i:Nat) (s:Shared),n - i=m->i<=n->St i s->SetT kn b s.heap S (λk=>decide (k∈met val i)) (met val i).length ->
   (∀s',Moved (S::wr) G s s'->SetT kn b s'.heap S (λk=>decide (k∈met val n)) (met val n).length->R (.ok (.ret .none)) s') ->
   codeAny (model prog w) A (.builtin "set.update.loop" ⟨[.ref S,.ref I],[]⟩) R s:=by
 have nw:S∉wr:=λq=>nS (Wk.sub _ q);have sub:∀c∈wr,c∈S::wr:=λc hc=>.tail _ hc;intro m
 induction m with
 | zero=>
  intro i s hm hi st z fin;obtain rfl:i=n:=by omega
  refine QbD PyProof.Rows.F.entry_set_update_loop ?_;rw[Qax PyProof.Rows.F.plain_set_update_loop _];show wpAny _ A.in1 (pyNext (.ref I) >>= _) _ _ s;refine Qcc (Wk.done s _ _ st λs1 mv=>?_);show wpAny _ A.in1 (ret Value.none) _ _ s1;exact Qcd (fin s1 (mv.mono sub) (z.at λo e=>mv.heap S _ nw e))
 | succ m ih=>
  intro i s hm hi st z fin;have lt:i < n:=by omega
  refine QbD PyProof.Rows.F.entry_set_update_loop ?_;rw[Qax PyProof.Rows.F.plain_set_update_loop _];show wpAny _ A.in1 (pyNext (.ref I) >>= _) _ _ s;refine Qcc (Wk.item i s _ _ lt st λv s1 pv st1 mv=>?_);obtain⟨kv,sv⟩:=hv i v pv;have z1:=z.at λo e=>mv.heap S o nw e;show wpAny _ A.in1 (holding [v] (setAdd S v) >>= _) _ _ s1;refine Qcc (QbP ?_);unfold setAdd;refine QbP (Qcc (kn.pyHash kv ?_));have room:(met val i).length+1 < scanBound:=by have:=Pk val i;omega
  refine oV (s:={ s1 with toks:=s1.toks+1 }) kv sv z1 room λh2 sb z2=>?_;have z3:SetT kn b h2 S (λk=>decide (k∈met val (i+1))) (met val (i+1)).length:=by
   refine z2.mU (λk=>?_) ?_
   ·rw[QbA,Bool.or_eq_true,QaM,QaM,QaM];rw[Zc];split
    ·rename_i q;exact⟨λx=>x.elim id λe=>e ▸ q,.inl⟩
    ·rw[Qbx,QaK]
   ·show (if decide (val i∈met val i)=true then (met val i).length else (met val i).length+1)=(met val (i+1)).length
    by_cases q:val i∈met val i
    ·rw[if_pos (QbF q)];show _=(if val i∈met val i then met val i else met val i++[val i]).length
     rw[if_pos q]
    ·rw[if_neg (by simp[q])];show _=(if val i∈met val i then met val i else met val i++[val i]).length
     rw[if_neg q,QaF];rfl
  refine Qcd ⟨plainId_quiet PyProof.Rows.F.plain_set_update_loop _,ih (i+1) _ (by omega) lt (Wk.frame _ s1 _ _ st1 (Nat.le_succ _) λc hc o e=>?_) z3 λs2 mv2 z4=>?_⟩
  ·rw[sb.2 c λq:c=S=>nS (q ▸ hc)];exact e
  ·refine fin s2 (Moved.trans Wk.gtrans ((mv.mono sub).then_heap (Nat.le_succ _) λc o hc e=>?_) mv2) z4;rw[sb.2 c λq:c=S=>hc (q ▸ .head _)];exact e
def Eh (w:World):Obj:={ cls:=.type "set",dict:=none,data:=.set #[] 0 (.fresh 0 0 (!w.params.followText "set-order")) }
theorem T7 (a:Value) {Z:YA} (h:Z (.ref s.heap.objs.size) { s with heap:=s.heap.push (Eh w) }) :
  codeAny (model prog w) A (.call (.builtin "set.__new__") ⟨[.type "set",a],[]⟩) (wants Z E) s:=by
 refine codeAny_of_tree ?_;show wpAny _ A.in1 (checkBuiltinCall "set.__new__" ⟨[.type "set",a],[]⟩ >>= λ_=>again (.builtin "set.__new__" ⟨[.type "set",a],[]⟩)) _ _ s;refine Qcc (wpAny_of_eq (PySem.F.newCall_set_1 a) (Qcd ⟨plainId_quiet PySem.F.plain_set_new _,QbD PySem.F.entry_set_new ?_⟩));rw[Qax PySem.F.plain_set_new _];unfold Builtin.«set.__new__»;unfold Builtin.Frozenset.newClass;have sf:=sub_set_self;obtain⟨hp,g,d,tk,os⟩:=s;dsimp only
 wp_walk
 refine Qbr (Qcd ?_);dsimp only;simp only[newObj];exact Qcc (wpAny_alloc (Qcd (Qcd h)))
theorem T5:isSubtype (.type "tuple") (.type "set")=pure false:=by rw[QbJ];kernel_rfl
theorem Vs:isSubtype (.type "tuple") (.type "frozenset")=pure false:=by rw[QbJ];kernel_rfl
theorem Qf {T:String} {l:Addr} {n:Nat} {Q:YA} {P:Nat->Value->Prop} (hh:A.handled=none) (val:Nat->KT) (hv:∀i v,P i v->kn.is (val i) v=true/\v.scannable=true) (lim:n+1 < scanBound)
  (hT:s.TypeIs (.ref l) T) (t1:isSubtype (.type T) (.type "set")=pure false) (t2:isSubtype (.type T) (.type "frozenset")=pure false) (t3:(Value.type T == Value.type "dict")=false)
  (it:∀(s1:Shared),(∀o,s.heap.get? l=some o->s1.heap.get? l=some o)->∃(oI:Obj) (St:Nat->Heap->Prop),(∀(A:Around) (E:YA) (Q:YA),Q (.ref s1.heap.objs.size) { s1 with heap:=s1.heap.push oI }->wpAny (model prog w) A (pyIter (.ref l)) Q E s1) /\
   (∀A:Around,A.handled=none->l≠s1.heap.objs.size->Walks prog w A s1.heap.objs.size [s1.heap.objs.size,l] [s1.heap.objs.size] n P St)/\St 0 (s1.heap.push oI))
  (h:∀(h':Heap) (tk:Nat),SetT kn (!w.params.followText "set-order") h' s.heap.objs.size (λk=>decide (k∈met val n)) (met val n).length->(∀b o,b < s.heap.objs.size->s.heap.get? b=some o->h'.get? b=some o)->Q (.ref s.heap.objs.size) { s with heap:=h',toks:=tk }) :
  wpAny (model prog w) A (call (.type "set") [.ref l]) Q E s:=by
 obtain⟨ol,hol,hcl⟩:=hT;obtain⟨c,tl,hmro⟩:=PySem.F.called_set.mro;have hmade:=PySem.F.called_set.made;have hsub:=PySem.F.called_set.sub;refine wpAny_call (codeAny_of_tree ?_);show wpAny _ _ (callAny (.type "set") _) _ _ _;refine Qcd ⟨Code.quiet_builtin _ (by trivial),QbD PySem.F.entry_type_call ?_⟩;rw[Around.under_plain (weight_type_call_type "set" [.ref l] []) rfl];have f1:=PySem.F.called_set.notType;have f2:=PySem.F.called_set.canCreate;have f3:=PySem.F.typeCall_set_1 (.ref l)
 repeat (any_goals (first | assumption | wp_step))
 refine codeAny_mono (T7 (.ref l) (E:=E) (Z:=λv s1=>v=.ref s.heap.objs.size/\s1={ s with heap:=s.heap.push (Eh w) }) ⟨rq,rq⟩) λr s1 hr=>?_;cases r with
 | error e=>exact hr
 | ok fl=>
  cases fl with
  | ret v=>
   obtain⟨rfl,rfl⟩:=hr;have hS:(s.heap.push (Eh w)).get? s.heap.objs.size=some (Eh w):=Qaz _ rfl;have hTs:Shared.TypeIs { s with heap:=s.heap.push (Eh w) } (.ref s.heap.objs.size) "set":=⟨_,hS,rq⟩;have f4:=PySem.F.called_set.init.lookup;have f5:=PySem.F.called_set.init.bind (.ref s.heap.objs.size)
   repeat (any_goals (first | assumption | wp_step))
   refine codeAny_mono (codeAny_call_builtin (R:=wants (λr s2=>r=.none/\∃h' tk,s2={ s with heap:=h',toks:=tk }/\SetT kn (!w.params.followText "set-order") h' s.heap.objs.size (λk=>decide (k∈met val n)) (met val n).length/\(∀b o,b < s.heap.objs.size->s.heap.get? b=some o->h'.get? b=some o)) E) PySem.F.called_set.init.plain PySem.F.entry_set_init (check_set_init_1 hTs ?_)) λr2 s2 hr2=>?_
   ·obtain⟨ocls,odict,odata,oslots⟩:=ol;have hcl:ocls=.type T:=hcl;subst hcl;have ho1:(s.heap.push (Eh w)).get? l=some { cls:=.type T,dict:=odict,data:=odata,slots:=oslots }:=Qam _ hol;have hlS:l < s.heap.objs.size:=QbT hol;unfold Eh at hS;unfold Builtin.«set.__init__»;unfold noKeywords;unfold Builtin.Frozenset.updateFrom;generalize ePI:pyIter=PI
    wp_walk
    subst ePI;have hh3:A.in1.in1.in1.handled=none:=by simp[hh]
    obtain⟨oI,St,hit,Wk,st⟩:=it { s with heap:=s.heap.push (Eh w) } λo e=>Qam _ e;have nI:l≠(s.heap.push (Eh w)).objs.size:=by rw[QbG];exact QbU (QaZ hlS)
    have W3:=Wk A.in1.in1.in1 hh3 nI;refine hit _ _ _ ?_;refine Qcc (wpAny_runValue ?_);have nS:s.heap.objs.size∉[(s.heap.push (Eh w)).objs.size,l]:=by
     rw[QbG];simp only[QbK,Qbh,Qch,not_or];exact⟨QbU (Qbp _),QbX hlS⟩
    have hS2:((s.heap.push (Eh w)).push oI).get? s.heap.objs.size=some (Eh w):=Qam _ (Qaz _ rfl);refine W9 W3.toS (!w.params.followText "set-order") s.heap.objs.size nS val hv lim (n - 0) 0 _ rfl (Qca _) st ?_ ?_
    ·exact⟨_,#[],0,_,⟨hS2,⟨rq,rq,rq⟩,rq⟩,⟨λe he=>by simp at he,λk=>by simp[met]⟩,⟨by unfold scanBound;decide,by rfl,rq⟩,TOk.fresh0 _⟩
    ·intro s2 mv z;obtain⟨h',g',d',tk',os'⟩:=s2;have e1:g'=s.gens:=mv.gens;have e2:d'=s.drawn:=mv.drawn;have e3:os'=s.os:=mv.os;subst e1 e2 e3;show wpAny _ _ _ _ _ _;refine Qcd ?_;show wpAny _ _ (ret Value.none) _ _ _;refine Qcd ⟨rq,h',tk',rq,z,λb o hb e=>?_⟩;have n1:b≠s.heap.objs.size:=QbU hb;have n2:b≠(s.heap.push (Eh w)).objs.size:=by rw[QbG];exact QbU (QaZ hb)
     exact mv.heap b o (by simp only[QbK,Qbh,Qch,not_or];exact⟨n1,n2⟩) (Qam _ (Qam _ e))
   ·cases r2 with
    | error e=>exact hr2
    | ok fl2=>
     cases fl2 with
     | ret r=>
      obtain⟨rfl,h',tk,rfl,z,kp⟩:=hr2
      repeat (any_goals (first | assumption | wp_step))
      exact h _ _ z kp
     | _=>exact hr2.elim
  | _=>exact hr.elim
end
theorem EY:Slot "set_iterator" "__next__" "set_iterator.__next__":=.of (owner:="set_iterator") (n:="__next__") (by rw[typeLookup_type,builtinLookup_eq_fast];kernel_rfl) (by trivial) (by trivial) (by trivial) (by first | exact .inl (by trivial) | exact .inr (by trivial)) (by rw[QbJ];kernel_rfl)
theorem Kc:entryFor table "set_iterator.__next__"=some Builtin.«set_iterator.__next__»:=entryFor_of_tree (by kernel_rfl)
theorem W7:Manifest.owners.lookup (String.ofList ("set_iterator".toList.reverse).reverse)=some Manifest.sig_set_iterator:=by kernel_rfl
theorem Mi (a:Value):argsOk "set_iterator.__next__" ⟨[a],[]⟩:=by
 unfold argsOk;rw[signature?_of (id:="set_iterator.__next__") (n:=("__next__".toList.reverse)) (o:=("set_iterator".toList.reverse)) (by kernel_rfl) W7]
 kernel_rfl
theorem Yq:entryFor table "set.__iter__"=some Builtin.«frozenset.__iter__»:=entryFor_alias (id':="frozenset.__iter__") (by kernel_rfl) rfl (by trivial) (by kernel_rfl)
theorem Kv {α : Type}:∀{xs:List α} {i:Nat} (h:i < xs.length),(xs[i]::xs.eraseIdx i).Perm xs
 | x::xs,0,_=>List.Perm.refl _
 | x::xs,i+1,h=>(List.Perm.swap _ _ _).trans (List.Perm.cons _ (Kv (xs:=xs) (i:=i) (Nat.lt_of_succ_lt_succ h)))
section
variable {prog:Program} {w:World} {A:Around} {E:YA} {s:Shared}
theorem WR {src:Source} {n:Nat} {Q:Nat->Shared->Prop} (hn:n≠0) (h:∀i,i < n->Q i { s with drawn:=s.drawn.bump src }):wpAny (model prog w) A (choose src n) Q E s:=fun Γ p hΓ=>by
 show n≠0/\_;exact⟨hn,h _ (Nat.mod_lt _ (Nat.pos_of_ne_zero hn))⟩
theorem KY {α : Type}:∀(n:Nat) (xs:List α) (s:Shared) {Q:List α->Shared->Prop},xs.length=n->(∀ys d',ys.Perm xs->Q ys { s with drawn:=d' })->wpAny (model prog w) A (drawOrder n xs) Q E s
 | 0,[],s,Q,_,h=>Qcd (by
   have:=h [] s.drawn (List.Perm.refl _);obtain⟨_,_,_,_,_⟩:=s;exact this)
 | 0,_::_,s,Q,e,h=>by cases e
 | n+1,[],s,Q,e,h=>by cases e
 | n+1,x::xs,s,Q,e,h=>by
  unfold drawOrder;refine Qcc (WR (by simp) λi hi=>?_);rw[Qaj hi];dsimp only;refine Qcc (KY n ((x::xs).eraseIdx i) _ (by rw[List.length_eraseIdx_of_lt hi];simpa using e) λys d' pm=>Qcd ?_);exact h _ d' (((List.Perm.cons _ pm)).trans (Kv hi))
theorem Hy {α : Type} (nx:Nat->Nat):∀(f k:Nat) (xs:List α) (out:Array α),xs.length=f->(pickOrder.go nx f k xs out).toList.Perm (out.toList++xs)
 | 0,k,[],out,_=>by
  show out.toList.Perm _;rw[QbB]
 | 0,k,_::_,out,e=>by cases e
 | f+1,k,[],out,e=>by cases e
 | f+1,k,x::xs,out,e=>by
  have hi:nx k % (x::xs).length < (x::xs).length:=Nat.mod_lt _ (by simp);unfold pickOrder.go;rw[Qaj hi];dsimp only;refine (Hy nx f (k+1) _ _ (by rw[List.length_eraseIdx_of_lt hi];simpa using e)).trans ?_;rw[Array.toList_push,List.append_assoc];exact List.Perm.append_left _ (Kv hi)
def FN (b:Bool) (h:Heap) (a:Addr) (es:Array (Int×Value)) (ep:Nat) (t:SetTable):Prop:=∃ob,h.get? a=some ob/\ob.ExactSet/\ob.data=.set es ep t/\t.fits es.size=true/\TOk b t
theorem FN.at {b:Bool} {h h':Heap} {a:Addr} {es:Array (Int×Value)} {ep:Nat} {t:SetTable} (z:FN b h a es ep t) (k:∀o,h.get? a=some o->h'.get? a=some o):FN b h' a es ep t:=let ⟨ob,g1,g2⟩:=z;⟨ob,k _ g1,g2⟩
def GC (h:Heap) (it a:Addr) (first:Value) (i n ep:Nat):Prop:=∃o,h.get? it=some o/\o.cls=.type "set_iterator"/\o.data=.fields #[first,rawInt i,.ref a,rawInt n,rawInt ep]
theorem Zn {r:Addr} {Q:Bool->Shared->Prop} (hT:s.TypeIs (.ref r) "set") (h:Q false s):wpAny (model prog w) A (Builtin.List.listLengthHint (.ref r)) Q E s:=by
 unfold Builtin.List.listLengthHint;refine Qcc (wpAny_specialOf hT PySem.F.slot_set_len.lookup ?_);generalize hid:("set.__len__":String)=q
 wp_delta
 rw[show splitId q=some ("set","__len__") by subst hid;decide +kernel];subst hid;refine Qcc (wpAny_isInstance (T:="set") (b:=true) hT (by rw[QbJ];kernel_rfl) ?_);refine wpAny_ite_split (λz=>absurd z (by decide)) λ_=>?_;exact wpAny_ite_split (λ_=>Qcc (wpAny_typeOf hT (Qcd h))) λz=>absurd (by trivial) z
theorem Zi {b:Bool} {a:Addr} {es:Array (Int×Value)} {ep:Nat} {t:SetTable} {Q:YA} (R:FN b s.heap a es ep t) (eb:b=!w.params.followText "set-order") (hsz:es.size < scanBound)
  (q1:(b=true->t.plain=true\/es.size<=1)->Q (.ref s.heap.objs.size) { s with heap:=s.heap.push { cls:=.type "set_iterator",data:=.fields #[rawInt 0,rawInt 0,.ref a,rawInt es.size,rawInt ep] } })
  (q2:∀(is:List Nat) d',b=true->is.Perm (List.range es.size)->Q (.ref (s.heap.objs.size+1)) { s with heap:=(s.heap.push { cls:=.type "tuple",data:=.seq (is.map λi:Nat=>rawInt (i:Int)).toArray }).push { cls:=.type "set_iterator",data:=.fields #[.ref s.heap.objs.size,rawInt 0,.ref a,rawInt es.size,rawInt ep] },drawn:=d' }):wpAny (model prog w) A (pyIter (.ref a)) Q E s:=by
 obtain⟨ob,g1,g2,g3,g4,g5⟩:=R;have T:s.TypeIs (.ref a) "set":=⟨ob,g1,g2.1⟩;refine wpAny_pyIter_slot T PySem.F.slot_set_iter (Qbl PySem.F.slot_set_iter T Yq ?_ (PySem.F.args_set_iter_1 _));have dr:setDrawn a=(do let (x,_,y) <-setState a;let c <-setsByText;return !c&&(!y.plain&&decide (x.size > 1))):=rfl
 have fin:∀(first:Value) (s1:Shared),FN b s1.heap a es ep t->Q (.ref s1.heap.objs.size) { s1 with heap:=s1.heap.push { cls:=.type "set_iterator",data:=.fields #[first,rawInt 0,.ref a,rawInt es.size,rawInt ep] } } ->
   wpAny (model prog w) A.in1 (do let e <-setEpoch a;let v <-newFields "set_iterator" [first,rawInt 0,.ref a,rawInt (es.size:Int),rawInt (e:Int)];ret v)
    (λfin s'=>∃v,fin=Fin.done (Flow.ret v)/\∃T' r,s'.TypeIs v T'/\typeLookup (Value.type T') (Str.ofString "__next__")=pure (some r)/\Q v s') E s1:=λfirst s1 R1 hq=>by
  obtain⟨o1,k1,k2,k3,k4,k5⟩:=R1;refine Qcc (wpAny_setEpoch_of k1 k3 k4 ?_);unfold newFields
  wp_walk
  exact⟨_,rq,"set_iterator",_,⟨_,Qaz _ rfl,rq⟩,EY.lookup,hq⟩
 show wpAny _ _ (Builtin.Frozenset.slot0 "__iter__" _ >>= _) _ _ _;have sl:Builtin.Frozenset.slot0 "__iter__" { pos:=[Value.ref a] }=pure a:=by
  unfold Builtin.Frozenset.slot0;rfl
 rw[sl];refine Qcc (Qcd ?_);dsimp only;unfold Builtin.Frozenset.sizeOf;refine Qcc (Qcc (wpAny_setEntries_of g1 g3 g4 (Qcd ?_)));rw[dr];refine Qcc (Qcc (QaX g1 g3 g4 ?_));dsimp only;unfold setsByText;refine Qcc (Qcc (Qbr (Qcd ?_)));refine Qcd ?_;have em:(model prog w).w.params.followText "set-order"=!b:=by rw[eb,Bool.not_not];rfl
 show wpAny _ _ (if (!(model prog w).w.params.followText "set-order"&&(!t.plain&&decide (es.size > 1)))=true then _ else _) _ _ _
 rw[em,Bool.not_not];by_cases c:(b&&(!t.plain&&decide (es.size > 1)))=true
 ·rw[if_pos c];rw[Qbg] at c;refine Qcc (KY _ _ _ (Qbc) λis d' pm=>?_);refine Qcc (wpAny_newTuple ?_ ?_)
  ·refine fin _ _ ⟨ob,Qam _ g1,g2,g3,g4,g5⟩ ?_;have:=q2 is d' c.1 pm;rw[show (s.heap.push { cls:=.type "tuple",data:=.seq (is.map λi:Nat=>rawInt (i:Int)).toArray }).objs.size=s.heap.objs.size+1 from QbG ..]
   exact this
  ·first | (simp only[Qbs,pm.length_eq,Qbc];exact fits_of_scanBound hsz) | trace_state
 ·rw[if_neg c];refine Qcc (Qcd (fin _ _ ⟨ob,g1,g2,g3,g4,g5⟩ (q1 λhb=>?_)));rw[hb,QbL,Qbg,Bool.not_eq_true',QaM] at c;cases hp:t.plain with
  | true=>exact .inl rfl
  | false=>exact .inr (by by_cases z:es.size > 1;exact absurd ⟨hp,z⟩ c;omega)
theorem Sh {it a:Addr} {b:Bool} {es:Array (Int×Value)} {i ep:Nat} {sl:Nat} {t:SetTable} {Q:Option Value->Shared->Prop} {x:Value} {nx:Nat} (K:GC s.heap it a (rawInt sl) i es.size ep) (R:FN b s.heap a es ep t)
  (hx:∀(A:Around) (E:YA) (Z:Option (Value×Nat)->Shared->Prop),Z (some (x,nx)) s->wpAny (model prog w) A (setNext a sl i ep) Z E s)
  (q:∀h',GC h' it a (rawInt nx) (i+1) es.size ep->Heap.SameBut it s.heap h'->Q (some x) { s with heap:=h' }):wpAny (model prog w) A (pyNext (.ref it)) Q E s:=by
 obtain⟨oi,hoi,ci,di⟩:=K;obtain⟨ob,g1,g2,g3,g4,g5⟩:=R;have T:s.TypeIs (.ref it) "set_iterator":=⟨_,hoi,ci⟩;obtain⟨Zk,V8,V9,SQ⟩:=oi;dsimp only at ci di;subst ci di;unfold pyNext;refine Qcc (QbS (Qak (name:=Str.ofString "__next__") T EY (Qbl EY T Kc ?_ (Mi _))));have e1:typeName (.type "set_iterator")=pure "set_iterator":=by unfold typeName;rw[find?_eq_fast];kernel_rfl
 unfold Builtin.«set_iterator.__next__»;generalize eSE:setEntries=SE;generalize eSN:setNext=SN at hx ⊢
 wp_walk
 subst eSE;refine Qcc (QaX g1 g3 g4 ?_);refine Qcd ?_;dsimp only [rawInt];simp only[Qbf,QaL,Qci,QaY];refine Qcc (hx _ _ _ ?_)
 wp_walk
 have h1:=Qar (Obj.mapFields λx=>x.setIfInBounds 0 (Value.int (nx:Int) 0)) hoi rfl;have h2:=Qar (Obj.mapFields λx=>x.setIfInBounds 1 (Value.int ((i:Int)+1) 0)) h1 rfl;exact⟨_,rq,Qcd (q _ ⟨_,h2,rq,rq⟩ ((QaB ..).trans (QaB ..)))⟩
theorem U5 {it a:Addr} {b:Bool} {es:Array (Int×Value)} {i ep:Nat} {sl:Nat} {t:SetTable} {Q:Option Value->Shared->Prop} (hh:A.handled=none) (K:GC s.heap it a (rawInt sl) i es.size ep) (R:FN b s.heap a es ep t)
  (hx:∀(A:Around) (E:YA) (Z:Option (Value×Nat)->Shared->Prop),Z none s->wpAny (model prog w) A (setNext a sl i ep) Z E s)
  (q:∀h',Heap.ExtBut it s.heap h'->Q none { s with heap:=h' }):wpAny (model prog w) A (pyNext (.ref it)) Q E s:=by
 obtain⟨oi,hoi,ci,di⟩:=K;obtain⟨ob,g1,g2,g3,g4,g5⟩:=R;have T:s.TypeIs (.ref it) "set_iterator":=⟨_,hoi,ci⟩;obtain⟨Zk,V8,V9,SQ⟩:=oi;dsimp only at ci di;subst ci di;unfold pyNext;refine Qcc (QbS (Qak (name:=Str.ofString "__next__") T EY (Qbl EY T Kc ?_ (Mi _))));have e1:typeName (.type "set_iterator")=pure "set_iterator":=by unfold typeName;rw[find?_eq_fast];kernel_rfl
 have hh1:A.in1.handled=none:=hh;unfold Builtin.«set_iterator.__next__»;generalize eSE:setEntries=SE;generalize eSN:setNext=SN at hx ⊢
 wp_walk
 subst eSE;refine Qcc (QaX g1 g3 g4 ?_);refine Qcd ?_;dsimp only [rawInt];simp only[Qbf,QaL,Qci,QaY];refine Qcc (hx _ _ _ ?_)
 wp_walk
 unfold raiseNew
 wp_walk
 refine wpAny_of_eq isSubtype_stop ?_
 wp_walk
 exact q _ (((QaB ..).extBut.push _).push _)
theorem Zb {it a tp:Addr} {b:Bool} {es:Array (Int×Value)} {i ep:Nat} {t:SetTable} {Q:Option Value->Shared->Prop} {is:List Nat} {pl:Nat} {e:Int×Value} (K:GC s.heap it a (.ref tp) i es.size ep) (ht:s.heap.IsTuple tp (is.map λi:Nat=>rawInt (i:Int)).toArray) (R:FN b s.heap a es ep t) (hi:is[i]?=some pl) (he:es[pl]?=some e)
  (q:∀h',GC h' it a (.ref tp) (i+1) es.size ep->Heap.SameBut it s.heap h'->Q (some e.2) { s with heap:=h' }):wpAny (model prog w) A (pyNext (.ref it)) Q E s:=by
 obtain⟨oi,hoi,ci,di⟩:=K;obtain⟨ob,g1,g2,g3,g4,g5⟩:=R;have T:s.TypeIs (.ref it) "set_iterator":=⟨_,hoi,ci⟩;obtain⟨Zk,V8,V9,SQ⟩:=oi;dsimp only at ci di;subst ci di;obtain⟨ot,hot,cot,nt,dot⟩:=ht;obtain⟨jF,gR,gU,cN⟩:=ot;dsimp only at cot dot;subst cot dot;unfold pyNext;refine Qcc (QbS (Qak (name:=Str.ofString "__next__") T EY (Qbl EY T Kc ?_ (Mi _))));have e1:typeName (.type "set_iterator")=pure "set_iterator":=by unfold typeName;rw[find?_eq_fast];kernel_rfl
 unfold Builtin.«set_iterator.__next__»;generalize eSE:setEntries=SE;generalize eSN:setNextDrawn=SN
 wp_walk
 subst eSE;refine Qcc (QaX g1 g3 g4 ?_);refine Qcd ?_;dsimp only [rawInt];simp only[Qbf,QaL,Qci,QaY];have hpl:((is.map λi:Nat=>rawInt (i:Int)).toArray)[i]?=some (.int (pl:Int) 0):=by
  rw[List.getElem?_toArray,QaU,hi];rfl
 wp_walk
 simp only[hpl];subst eSN;unfold setNextDrawn;refine Qcc (Qcc (QaX g1 g3 g4 ?_));dsimp only;simp only[Qbf,QaL,Qci,QaY,he]
 wp_walk
 have h1:=Qar (Obj.mapFields λx=>x.setIfInBounds 1 (Value.int ((i:Int)+1) 0)) hoi rfl;exact⟨_,rq,Qcd (q _ ⟨_,h1,rq,rq⟩ (QaB ..))⟩
theorem bJ {it a tp:Addr} {b:Bool} {es:Array (Int×Value)} {i ep:Nat} {t:SetTable} {Q:Option Value->Shared->Prop} {is:List Nat} (hh:A.handled=none) (K:GC s.heap it a (.ref tp) i es.size ep) (ht:s.heap.IsTuple tp (is.map λi:Nat=>rawInt (i:Int)).toArray) (R:FN b s.heap a es ep t) (hi:is[i]?=none)
  (q:∀h',Heap.ExtBut it s.heap h'->Q none { s with heap:=h' }):wpAny (model prog w) A (pyNext (.ref it)) Q E s:=by
 obtain⟨oi,hoi,ci,di⟩:=K;obtain⟨ob,g1,g2,g3,g4,g5⟩:=R;have T:s.TypeIs (.ref it) "set_iterator":=⟨_,hoi,ci⟩;obtain⟨Zk,V8,V9,SQ⟩:=oi;dsimp only at ci di;subst ci di;obtain⟨ot,hot,cot,nt,dot⟩:=ht;obtain⟨jF,gR,gU,cN⟩:=ot;dsimp only at cot dot;subst cot dot;unfold pyNext;refine Qcc (QbS (Qak (name:=Str.ofString "__next__") T EY (Qbl EY T Kc ?_ (Mi _))));have e1:typeName (.type "set_iterator")=pure "set_iterator":=by unfold typeName;rw[find?_eq_fast];kernel_rfl
 have hh1:A.in1.handled=none:=hh;unfold Builtin.«set_iterator.__next__»;generalize eSE:setEntries=SE;generalize eSN:setNextDrawn=SN
 wp_walk
 subst eSE;refine Qcc (QaX g1 g3 g4 ?_);refine Qcd ?_;dsimp only [rawInt];simp only[Qbf,QaL,Qci,QaY];have hpl:((is.map λi:Nat=>rawInt (i:Int)).toArray)[i]?=none:=by
  rw[List.getElem?_toArray,QaU,hi];rfl
 wp_walk
 simp only[hpl]
 wp_walk
 unfold raiseNew
 wp_walk
 refine wpAny_of_eq isSubtype_stop ?_
 wp_walk
 exact q _ ((((QaB ..).trans (QaB ..)).extBut.push _).push _)
end
theorem Rn:Slot "set_iterator" "__iter__" "set_iterator.__iter__":=.of (owner:="set_iterator") (n:="__iter__") (by rw[typeLookup_type,builtinLookup_eq_fast];kernel_rfl) (by trivial) (by trivial) (by trivial) (by first | exact .inl (by trivial) | exact .inr (by trivial)) (by rw[QbJ];kernel_rfl)
theorem W8:entryFor table "set_iterator.__iter__"=some Builtin.«dict_keyiterator.__iter__»:=entryFor_alias (id':="dict_keyiterator.__iter__") (by kernel_rfl) rfl (by trivial) (by kernel_rfl)
theorem Yu (a:Value):argsOk "set_iterator.__iter__" ⟨[a],[]⟩:=by
 unfold argsOk;rw[signature?_of (id:="set_iterator.__iter__") (n:=("__iter__".toList.reverse)) (o:=("set_iterator".toList.reverse)) (by kernel_rfl) W7]
 kernel_rfl
section
variable {prog:Program} {w:World} {A:Around} {E:YA} {s:Shared}
theorem Uw {a:Addr} {es:Array (Int×Value)} {i ep sl:Nat} {t:SetTable} {Z:Option (Value×Nat)->Shared->Prop} (R:FN false s.heap a es ep t) (eb:w.params.followText "set-order"=true)
  (h:Z (((pickOrder (w.params.setOrder a ep) es)[i]?).map λe=>(e.2,sl)) s):wpAny (model prog w) A (setNext a sl i ep) Z E s:=by
 obtain⟨ob,g1,g2,g3,g4,g5⟩:=R;unfold setNext;refine Qcc (QaX g1 g3 g4 ?_);dsimp only;unfold setsByText;refine Qcc (Qcc (Qbr (Qcd ?_)));show wpAny _ _ (if w.params.followText "set-order"=true then _ else _) _ _ _
 rw[if_pos eb];simp only[Qbf,QaL,Qci];unfold setWalk;refine Qcc (Qcc (QaX g1 g3 g4 ?_));dsimp only;unfold setsByText;refine Qcc (Qcc (Qbr (Qcd ?_)));show wpAny _ _ (if w.params.followText "set-order"=true then _ else _) _ _ _
 rw[if_pos eb];refine Qcc (Qbr (Qcd ?_));exact Qcd h
theorem Rk {a:Addr} {es:Array (Int×Value)} {i ep sl:Nat} {t:SetTable} {Z:Option (Value×Nat)->Shared->Prop} (R:FN true s.heap a es ep t) (eb:w.params.followText "set-order"=false) (pl:t.plain=true\/es.size<=1)
  (h:Z (match es[SetTable.below t.place sl]?,t.place[SetTable.below t.place sl]? with | some (_,x),some j=>some (x,j+1) | _,_=>none) s):wpAny (model prog w) A (setNext a sl i ep) Z E s:=by
 obtain⟨ob,g1,g2,g3,g4,g5⟩:=R;unfold setNext;refine Qcc (QaX g1 g3 g4 ?_);dsimp only;unfold setsByText;refine Qcc (Qcc (Qbr (Qcd ?_)));show wpAny _ _ (if w.params.followText "set-order"=true then _ else _) _ _ _
 rw[if_neg (by rw[eb];decide)];split
 ·rename_i hd;have hd:(!t.plain&&decide (es.size > 1))=true:=hd;rw[Qbg,Bool.not_eq_true',QaM] at hd;rcases pl with q | q
  ·rw[q] at hd;cases hd.1
  ·omega
 ·show wpAny _ _ ((if (!t.led&&!es.isEmpty)=true then unsupported _ else pure ()) >>= _) _ _ _
  rw[g5.1];simp only[Bool.not_true,Bool.false_and,QaL,Qci];refine Qcc (Qcd ?_);exact Qcd h
theorem up_place {t:SetTable} {es:Array (Int×Value)} (g4:t.fits es.size=true) (g5:TOk true t) (pl:t.plain=true\/es.size<=1):t.place.size=es.size/\t.place.toList.Pairwise (· < ·):=by
 simp only[SetTable.fits,Qbg,beq_iff_eq,decide_eq_true_eq] at g4;refine⟨g4.1,?_⟩;rcases pl with q | q
 ·exact g5.2.2 q
 ·have:t.place.toList.length<=1:=by rw[QaA];omega
  match h:t.place.toList,this with
  | [],_=>exact .nil
  | [x],_=>exact List.pairwise_singleton _ _
def JK (t:SetTable):Nat->Nat
 | 0=>0
 | i+1=>t.place.getD i 0+1
theorem Ol {t:SetTable} (up:t.place.toList.Pairwise (· < ·)) {i:Nat} (hi:i<=t.place.size):SetTable.below t.place (JK t i)=i:=by
 obtain⟨h1,h2,h3⟩:=below_at (j:=JK t i) up;have lt:∀(x y:Nat) (u v:Nat),t.place[x]?=some u->t.place[y]?=some v->x < y->u < v:=λx y u v ex ey l=>by
  rw[<-Qaq] at ex ey;obtain⟨a1,a2⟩:=Qaf.mp ex;obtain⟨b1,b2⟩:=Qaf.mp ey;rw[<-a2,<-b2];exact Qah.mp up x y a1 b1 l
 generalize hr:SetTable.below t.place (JK t i)=r at *
 match i,hi with
 | 0,_=>
  by_cases c:r=0
  ·exact c
  ·have l0:0 < t.place.size:=by omega
   have:=h2 0 _ (Qag l0) (by omega);exact absurd this (Nat.not_lt_zero _)
 | i+1,hi=>
  have li:i < t.place.size:=by omega
  have ei:t.place[i]?=some t.place[i]:=Qag li;have eg:t.place.getD i 0=t.place[i]:=by simp[Array.getD,li]
  have es:JK t (i+1)=t.place[i]+1:=by show t.place.getD i 0+1=_;rw[eg]
  rw[es] at h2 h3;by_cases c1:r<=i
  ·have:=h3 i _ ei c1;omega
  ·by_cases c2:i+1 < r
   ·have l2:i+1 < t.place.size:=by omega
    have e2:t.place[i+1]?=some t.place[i+1]:=Qag l2;have a:=h2 (i+1) _ e2 c2;have b:=lt i (i+1) _ _ ei e2 (Qbp _);omega
   ·omega
theorem Lf {it a:Addr} {first:Value} {i n ep:Nat} {Q:YA} (K:GC s.heap it a first i n ep) (q:Q (.ref it) s):wpAny (model prog w) A (pyIter (.ref it)) Q E s:=by
 obtain⟨oi,hoi,ci,di⟩:=K;have T:s.TypeIs (.ref it) "set_iterator":=⟨_,hoi,ci⟩;refine wpAny_pyIter_slot T Rn (Qbl Rn T W8 ?_ (Yu _));show wpAny _ _ (ret (.ref it)) _ _ s;exact Qcd ⟨_,rq,"set_iterator",_,T,EY.lookup,q⟩
theorem GC.at {h h':Heap} {it a:Addr} {first:Value} {i n ep:Nat} (x:GC h it a first i n ep) (e:∀o,h.get? it=some o->h'.get? it=some o):GC h' it a first i n ep:=let ⟨o,ho,r⟩:=x;⟨o,e _ ho,r⟩
theorem WT (hh:A.handled=none) (it a:Addr) (ne:a≠it) (es:Array (Int×Value)) (ep:Nat) (t:SetTable) (eb:w.params.followText "set-order"=true) :
  Walks prog w A it [it,a] [it] es.size (λi v=>∃e,(pickOrder (w.params.setOrder a ep) es)[i]?=some e/\v=e.2) (λi h=>GC h it a (rawInt (0:Nat)) i es.size ep/\FN false h a es ep t) where
 sub:=λb hb=>by simp at hb;simp[hb]
 frame:=λ_ _ _ st hk=>⟨st.1.at λo e=>hk it (by simp) o e,st.2.at λo e=>hk a (by simp) o e⟩
 item:=λi s Q E hi st hQ=>by
  have sz:(pickOrder (w.params.setOrder a ep) es).size=es.size:=by
   have:=(Hy (w.params.setOrder a ep) es.size 0 es.toList #[] (QaA ..)).length_eq;rw[QaA] at this;exact this.trans (by simp)
  have hx:(pickOrder (w.params.setOrder a ep) es)[i]?=some ((pickOrder (w.params.setOrder a ep) es)[i]'(by omega)):=Qag (by omega);refine Sh (nx:=0) (x:=((pickOrder (w.params.setOrder a ep) es)[i]'(by omega)).2) st.1 st.2 (λA E Z hz=>Uw st.2 eb (by rw[hx];exact hz)) λh' k sb=>?_;exact hQ _ h' s.toks ⟨_,hx,rq⟩ ⟨k,st.2.at λo e=>by rw[sb.2 a ne];exact e⟩ λc o hc e=>by rw[sb.2 c (λz=>hc (by simp[z]))];exact e
 done:=λs Q E st hQ=>by
  have sz:(pickOrder (w.params.setOrder a ep) es).size=es.size:=by
   have:=(Hy (w.params.setOrder a ep) es.size 0 es.toList #[] (QaA ..)).length_eq;rw[QaA] at this;exact this.trans (by simp)
  have hx:(pickOrder (w.params.setOrder a ep) es)[es.size]?=none:=Array.getElem?_eq_none (by omega);exact U5 hh st.1 st.2 (λA E Z hz=>Uw st.2 eb (by rw[hx];exact hz)) λh' x=>hQ h' s.toks λc o hc e=>x c o (λz=>hc (by simp[z])) e
 self:=λ_ _ _ _ st hQ=>Lf st.1 hQ
theorem Vk (hh:A.handled=none) (it a:Addr) (ne:a≠it) (es:Array (Int×Value)) (ep:Nat) (t:SetTable) (eb:w.params.followText "set-order"=false) (pl:t.plain=true\/es.size<=1) (ft:t.fits es.size=true) (tk:TOk true t) :
  Walks prog w A it [it,a] [it] es.size (λi v=>∃e,es[i]?=some e/\v=e.2) (λi h=>GC h it a (rawInt (JK t i:Nat)) i es.size ep/\FN true h a es ep t) where
 sub:=λb hb=>by simp at hb;simp[hb]
 frame:=λ_ _ _ st hk=>⟨st.1.at λo e=>hk it (by simp) o e,st.2.at λo e=>hk a (by simp) o e⟩
 item:=λi s Q E hi st hQ=>by
  obtain⟨sz,up⟩:=up_place ft tk pl;have hx:es[i]?=some es[i]:=Qag hi;have li:i < t.place.size:=by omega
  have hp:t.place[i]?=some (t.place.getD i 0):=by rw[Qag li];simp[Array.getD,li]
  refine Sh (nx:=JK t (i+1)) (x:=es[i].2) st.1 st.2 (λA E Z hz=>Rk st.2 eb pl (by rw[Ol up (by omega),hx,hp];exact hz)) λh' k sb=>?_;exact hQ _ h' s.toks ⟨_,hx,rq⟩ ⟨k,st.2.at λo e=>by rw[sb.2 a ne];exact e⟩ λc o hc e=>by rw[sb.2 c (λz=>hc (by simp[z]))];exact e
 done:=λs Q E st hQ=>by
  obtain⟨sz,up⟩:=up_place ft tk pl;have hx:es[es.size]?=none:=Array.getElem?_eq_none (QbZ _);exact U5 hh st.1 st.2 (λA E Z hz=>Rk st.2 eb pl (by rw[Ol up (by omega),hx];exact hz)) λh' x=>hQ h' s.toks λc o hc e=>x c o (λz=>hc (by simp[z])) e
 self:=λ_ _ _ _ st hQ=>Lf st.1 hQ
theorem Vl (hh:A.handled=none) (it a tp:Addr) (ne:a≠it) (nt:tp≠it) (es:Array (Int×Value)) (ep:Nat) (t:SetTable) (is:List Nat) (pm:is.Perm (List.range es.size)) :
  Walks prog w A it [it,a,tp] [it] es.size (λi v=>∃pl e,is[i]?=some pl/\es[pl]?=some e/\v=e.2) (λi h=>GC h it a (.ref tp) i es.size ep/\FN true h a es ep t/\h.IsTuple tp (is.map λi:Nat=>rawInt (i:Int)).toArray) where
 sub:=λb hb=>by simp at hb;simp[hb]
 frame:=λ_ _ _ st hk=>⟨st.1.at λo e=>hk it (by simp) o e,st.2.1.at λo e=>hk a (by simp) o e,let ⟨o,ho,r⟩:=st.2.2;⟨o,hk tp (by simp) o ho,r⟩⟩
 item:=λi s Q E hi st hQ=>by
  have hl:is.length=es.size:=by rw[pm.length_eq,Qbc]
  have li:i < is.length:=by omega
  have hp:is[i]?=some is[i]:=Qaj li;have lp:is[i] < es.size:=List.mem_range.mp (pm.mem_iff.mp (List.getElem_mem li));have hx:es[is[i]]?=some es[is[i]]:=Qag lp;refine Zb st.1 st.2.2 st.2.1 hp hx λh' k sb=>?_;have kp:∀c o,c≠it->s.heap.get? c=some o->h'.get? c=some o:=λc o n e=>by rw[sb.2 c n];exact e
  exact hQ _ h' s.toks ⟨_,_,hp,hx,rq⟩ ⟨k,st.2.1.at λo e=>kp a o ne e,let ⟨o,ho,r⟩:=st.2.2;⟨o,kp tp o nt ho,r⟩⟩ λc o hc e=>kp c o (λz=>hc (by simp[z])) e
 done:=λs Q E st hQ=>by
  have hl:is.length=es.size:=by rw[pm.length_eq,Qbc]
  exact bJ hh st.1 st.2.2 st.2.1 (List.getElem?_eq_none (by omega)) λh' x=>hQ h' s.toks λc o hc e=>x c o (λz=>hc (by simp[z])) e
 self:=λ_ _ _ _ st hQ=>Lf st.1 hQ
end
section
variable {prog:Program} {w:World} {A:Around} {E:YA} {s:Shared}
theorem take_all {R:Result->Shared->Prop} {S a I:Addr} {fp:List Addr} {n c0:Nat} {P:Nat->Value->Prop} {St:Nat->Heap->Prop} {res:Value} {tt:Bool} (hT:s.TypeIs (.ref a) "set") (hS:s.heap.get? S=some { cls:=.type "list",data:=.seq #[] c0 }) (nS:S∉fp) (Wk:Walks prog w A.in1 I fp [I] n P St) (st:St 0 s.heap) (hn:n<=sizeLine)
  (fin:∀h' tk us c,(∀b o,b≠S->b≠I->s.heap.get? b=some o->h'.get? b=some o)->h'.get? S=some { cls:=.type "list",dict:=none,data:=.seq us c,slots:=#[] }->ItemsOf P us n->R (.ok (.ret res)) { s with heap:=h',toks:=tk }) :
  wpAny (model prog w) A.in1 (do
    let room <-holding [.ref I] (Builtin.List.listLengthHint (.ref a))
    if (room || tt)=true then do
     rule "list.extend.makes-room"
     Builtin.List.listTouch (.ref S)
     again (.builtin "list.extend.loop" ⟨[.ref S,.ref I,res],[]⟩)
    else again (.builtin "list.extend.loop" ⟨[.ref S,.ref I,res],[]⟩))
   (λfin s'=>match fin with | .done f=>R (.ok f) s' | .again c'=>c'.quiet=true/\codeAny (model prog w) A c' R s') (λe s'=>R (.error e) s') s:=by
 have key:∀(h:Heap) (c1:Nat),St 0 h->(∀b o,b≠S->s.heap.get? b=some o->h.get? b=some o)->h.get? S=some { cls:=.type "list",data:=.seq #[] c1 } ->
   codeAny (model prog w) A (.builtin "list.extend.loop" ⟨[.ref S,.ref I,res],[]⟩) R { s with heap:=h }:=λh c1 st1 kp hS1=>by
  refine codeAny_extend_loopS Wk.toS hn S nS res n 0 _ #[] c1 rfl (Qca _) st1 hS1 (ItemsOf.nil _) λs2 us c mv hS2 itm=>?_;rw[Moved.eq_with mv];exact fin s2.heap s2.toks us c (λb o nb nI e=>mv.heap b o (by simp[nb,nI]) (kp b o nb e)) hS2 itm
 refine Qcc (QbP (Zn hT ?_));refine wpAny_ite_split (λ_=>?_) (λ_=>Qcd ⟨plainId_quiet PySem.F.plain_extend_loop _,key s.heap c0 st (λ_ _ _ e=>e) hS⟩);refine Qcc (Qcf ?_);refine Qcc ?_;show wpAny _ _ (updateSeq S (·.push .none) >>= λ_=>updateSeq S (·.pop)) _ _ _;refine Qcc (wpAny_updateSeq hS rfl ?_);have hS2:=Qar (Obj.mapSeq (·.push Value.none)) hS rfl;refine wpAny_updateSeq (hz:=by seq_fits) hS2 rfl ?_;have hS3:=Qar (Obj.mapSeq (·.pop)) hS2 rfl;have kp:∀b o,b≠S->s.heap.get? b=some o->((s.heap.update S (Obj.mapSeq (·.push Value.none))).update S (Obj.mapSeq (·.pop))).get? b=some o:=λb o nb e=>
  (Heap.get?_update_other _ _ (Ne.symm nb)).trans ((Heap.get?_update_other _ _ (Ne.symm nb)).trans e)
 exact Qcd ⟨plainId_quiet PySem.F.plain_extend_loop _,key _ _ (Wk.frame 0 _ _ st λb hb o e=>kp b o (λz=>nS (z ▸ hb)) e) kp hS3⟩
theorem Ir {α : Type} {f:α->Value}:∀{us:YE} {es:List α},us.length=es.length->(∀(j:Nat) (v:Value),us[j]?=some v->∃e,es[j]?=some e/\v=f e)->us=es.map f
 | [],[],_,_=>rfl
 | [],_::_,h,_=>by cases h
 | _::_,[],h,_=>by cases h
 | u::us,e::es,h,g=>by
  obtain⟨e',h1,h2⟩:=g 0 u rfl;cases h1;rw[QbM,h2,Ir (us:=us) (es:=es) (by simpa using h) λj v hj=>by simpa using g (j+1) v (by simpa using hj)]
theorem bH {R:Result->Shared->Prop} {b:Bool} {S a:Addr} {es:Array (Int×Value)} {ep c0:Nat} {t:SetTable} {res:Value} (hh:A.handled=none) (RS:FN b s.heap a es ep t) (eb:b=!w.params.followText "set-order") (hsz:es.size < scanBound) (hS:s.heap.get? S=some { cls:=.type "list",data:=.seq #[] c0 }) (nSa:S≠a)
  (fin:∀h' tk d' us c,(∀b o,b≠S->s.heap.get? b=some o->h'.get? b=some o)->h'.get? S=some { cls:=.type "list",dict:=none,data:=.seq us c,slots:=#[] }->us.toList.Perm (es.toList.map (·.2))->R (.ok (.ret res)) { s with heap:=h',toks:=tk,drawn:=d' }) :
  wpAny (model prog w) A.in1 (Builtin.List.listExtendWith (.ref S) (.ref a) res) (λfin s'=>match fin with | .done f=>R (.ok f) s' | .again c'=>c'.quiet=true/\codeAny (model prog w) A c' R s') (λe s'=>R (.error e) s') s:=by
 have T0:s.TypeIs (.ref a) "set":=let ⟨ob,g1,g2,_⟩:=RS;⟨ob,g1,g2.1⟩;have la:a < s.heap.objs.size:=let ⟨_,g,_⟩:=RS;QbT g;have lS:S < s.heap.objs.size:=QbT hS;have hn:es.size<=sizeLine:=fits_of_scanBound hsz;unfold Builtin.List.listExtendWith;refine Qcc (wpAny_typeOf (T:="set") T0 ?_);have n1:Builtin.List.listSameRef (.ref S) (.ref a)=false:=by simp[Builtin.List.listSameRef,nSa]
 have n2:(Value.type "set" == Value.type "list")=false:=by decide
 have n3:(Value.type "set" == Value.type "tuple")=false:=by decide
 simp only[n1,n2,n3,Bool.or_false,QaL,Qci];refine Qcc (Zi RS eb hsz (λpl=>?_) λis d' hb pm=>?_)
 ·generalize eo:({ cls:=.type "set_iterator",data:=.fields #[rawInt 0,rawInt 0,.ref a,rawInt es.size,rawInt ep] }:Obj)=oI;have hI:(s.heap.push oI).get? s.heap.objs.size=some oI:=Qaz _ (by rw[<-eo];rfl);have kp:∀c o,s.heap.get? c=some o->(s.heap.push oI).get? c=some o:=λc o e=>Qam _ e;have T1:Shared.TypeIs { s with heap:=s.heap.push oI } (.ref a) "set":=let ⟨ob,g1,g2⟩:=T0;⟨ob,kp _ _ g1,g2⟩;have R1:=RS.at λo e=>kp a o e;have nI:a≠s.heap.objs.size:=QbU la;have nS:S∉[s.heap.objs.size,a]:=by
   simp only[QbK,Qbh,Qch,not_or];exact⟨QbU lS,nSa⟩
  have si:∀k:Nat,k=0->GC (s.heap.push oI) s.heap.objs.size a (rawInt (k:Nat)) 0 es.size ep:=λk hk=>⟨oI,hI,by rw[<-eo],by rw[<-eo,hk];rfl⟩;cases eb2:w.params.followText "set-order" with
  | true=>
   rw[eb2] at eb;subst eb;refine take_all T1 (kp _ _ hS) nS (WT (A:=A.in1) (by simp[hh]) _ a nI es ep t eb2) ⟨si 0 rfl,R1⟩ hn λh' tk us c kk hS' itm=>?_;refine fin h' tk s.drawn us c (λc o nc e=>kk c o nc (QbU (QbT e)) (kp _ _ e)) hS' ?_;have e1:us.toList=(pickOrder (w.params.setOrder a ep) es).toList.map (·.2):=by
    have sz:=(Hy (w.params.setOrder a ep) es.size 0 es.toList #[] (QaA ..)).length_eq;refine Ir (by rw[QaA,itm.1];exact (sz.trans (by simp)).symm) λj v hj=>?_;rw[Qaq] at hj;obtain⟨e,h1,h2⟩:=itm.2 j v hj;exact⟨e,by rw[Qaq];exact h1,h2⟩
   rw[e1];exact ((Hy (w.params.setOrder a ep) es.size 0 es.toList #[] (QaA ..)).trans (by simp)).map _
  | false=>
   rw[eb2] at eb;subst eb;obtain⟨ob,g1,g2,g3,g4,g5⟩:=id RS;refine take_all T1 (kp _ _ hS) nS (Vk (A:=A.in1) (by simp[hh]) _ a nI es ep t eb2 (pl rfl) g4 g5) ⟨si _ rfl,R1⟩ hn λh' tk us c kk hS' itm=>?_;refine fin h' tk s.drawn us c (λc o nc e=>kk c o nc (QbU (QbT e)) (kp _ _ e)) hS' ?_;have e1:us.toList=es.toList.map (·.2):=by
    refine Ir (by rw[QaA,QaA,itm.1]) λj v hj=>?_;rw[Qaq] at hj;obtain⟨e,h1,h2⟩:=itm.2 j v hj;exact⟨e,by rw[Qaq];exact h1,h2⟩
   rw[e1]
 ·subst hb;generalize eo1:({ cls:=.type "tuple",data:=.seq (is.map λi:Nat=>rawInt (i:Int)).toArray }:Obj)=oT;generalize eo:({ cls:=.type "set_iterator",data:=.fields #[.ref s.heap.objs.size,rawInt 0,.ref a,rawInt es.size,rawInt ep] }:Obj)=oI;have z1:(s.heap.push oT).objs.size=s.heap.objs.size+1:=QbG ..;have hT:(s.heap.push oT).get? s.heap.objs.size=some oT:=Qaz _ (by rw[<-eo1];rfl);have hI:((s.heap.push oT).push oI).get? (s.heap.objs.size+1)=some oI:=by rw[<-z1];exact Qaz _ (by rw[<-eo];rfl)
  have kp:∀c o,s.heap.get? c=some o->((s.heap.push oT).push oI).get? c=some o:=λc o e=>Qam _ (Qam _ e);have T1:Shared.TypeIs { s with heap:=(s.heap.push oT).push oI,drawn:=d' } (.ref a) "set":=let ⟨ob,g1,g2⟩:=T0;⟨ob,kp _ _ g1,g2⟩;have R1:=RS.at λo e=>kp a o e;have nI:a≠s.heap.objs.size+1:=QbU (QaZ la);have nS:S∉[s.heap.objs.size+1,a,s.heap.objs.size]:=by
   simp only[QbK,Qbh,Qch,not_or];exact⟨QbU (QaZ lS),nSa,QbU lS⟩
  have tup:((s.heap.push oT).push oI).IsTuple s.heap.objs.size (is.map λi:Nat=>rawInt (i:Int)).toArray:=⟨oT,Qam _ hT,by rw[<-eo1],0,by rw[<-eo1]⟩;have si:GC ((s.heap.push oT).push oI) (s.heap.objs.size+1) a (.ref s.heap.objs.size) 0 es.size ep:=⟨oI,hI,by rw[<-eo],by rw[<-eo];rfl⟩;refine take_all (s:={ s with heap:=(s.heap.push oT).push oI,drawn:=d' }) T1 (kp _ _ hS) nS (Vl (A:=A.in1) (by simp[hh]) _ a _ nI (QbU (Qbp _)) es ep t is pm) ⟨si,R1,tup⟩ hn λh' tk us c kk hS' itm=>?_;refine fin h' tk d' us c (λc o nc e=>kk c o nc (QbU (QaZ (QbT e))) (kp _ _ e)) hS' ?_;have hl:is.length=es.size:=by rw[pm.length_eq,Qbc]
  have e1:us.toList=is.map λi=>(es.toList.map (·.2)).getD i .none:=by
   refine Ir (by rw[QaA,itm.1,hl]) λj v hj=>?_;rw[Qaq] at hj;obtain⟨p,e,h1,h2,h3⟩:=itm.2 j v hj;refine⟨p,h1,?_⟩;rw[h3,Qae,QaU,Qaq,h2];rfl
  rw[e1];have:=(pm.map λi=>(es.toList.map (·.2)).getD i Value.none);rw[show es.size=(es.toList.map (·.2)).length by rw[Qbs,QaA],range_getD] at this;exact this
theorem bN {b:Bool} {a:Addr} {es:Array (Int×Value)} {ep:Nat} {t:SetTable} {Rr:YE->Shared->Prop} (hh:A.handled=none) (RS:FN b s.heap a es ep t) (eb:b=!w.params.followText "set-order") (hsz:es.size < scanBound)
  (h:∀h' tk d' (us:YE),(∀c o,s.heap.get? c=some o->h'.get? c=some o)->us.Perm (es.toList.map (·.2))->Rr us { s with heap:=h',toks:=tk,drawn:=d' }):wpAny (model prog w) A (collect (.ref a)) Rr E s:=by
 have hlt:a < s.heap.objs.size:=let ⟨_,g,_⟩:=RS;QbT g;unfold collect;refine Qcc (wpAny_runValue (QbD entry_proto_collect' ?_));rw[Qax PySem.F.plain_proto_collect _];show wpAny _ A.in1 (newList [] >>= λl=>again (.builtin "list.__iadd__" ⟨[l,.ref a],[]⟩)) _ _ s;refine Qcc (Qbb ?_);refine Qcd ⟨plainId_quiet PySem.F.plain_list_iadd _,QbD entry_list_iadd' ?_⟩;rw[Qax PySem.F.plain_list_iadd _];have k0:∀c o,s.heap.get? c=some o->(s.heap.push { cls:=.type "list",data:=.seq ([]:YE).toArray }).get? c=some o:=λc o e=>Qam _ e;have hS0:(s.heap.push { cls:=.type "list",data:=.seq ([]:YE).toArray }).get? s.heap.objs.size=some { cls:=.type "list",data:=.seq #[] }:=Qaz _ rfl;show wpAny _ A.in1 (Builtin.List.listExtendWith (.ref s.heap.objs.size) (.ref a) (.ref s.heap.objs.size)) _ _ _;have key:=bH (prog:=prog) (A:=A) (s:={ s with heap:=s.heap.push { cls:=.type "list",data:=.seq ([]:YE).toArray } }) (res:=.ref s.heap.objs.size)
  (R:=λ(r:Result) (s':Shared)=>∃h' tk d' us c,r=.ok (.ret (.ref s.heap.objs.size))/\s'={ s with heap:=h',toks:=tk,drawn:=d' }/\(∀c o,s.heap.get? c=some o->h'.get? c=some o)/\h'.get? s.heap.objs.size=some { cls:=.type "list",dict:=none,data:=.seq us c,slots:=#[] }/\us.toList.Perm (es.toList.map (·.2)))
  hh (RS.at λo e=>k0 a o e) eb hsz hS0 (QbX hlt) λh' tk d' us c kk hS' pm=>⟨h',tk,d',us,c,rq,rq,λc o e=>kk c o (QbU (QbT e)) (k0 _ _ e),hS',pm⟩
 refine Qce key (λfin s' x=>?_) λe s' x=>?_
 ·cases fin with
  | done f=>
   obtain⟨h',tk,d',us,c,e,rfl,kk,hS',pm⟩:=x;cases e;show wpAny _ A (load s.heap.objs.size >>= _) _ _ _;exact Qcc (wpAny_load hS' (Qcd (h h' tk d' us.toList kk pm)))
  | again c1=>
   refine⟨x.1,codeAny_mono x.2 λq s2 y=>?_⟩;obtain⟨h',tk,d',us,c,rfl,rfl,kk,hS',pm⟩:=y;show wpAny _ A (load s.heap.objs.size >>= _) _ _ _;exact Qcc (wpAny_load hS' (Qcd (h h' tk d' us.toList kk pm)))
 ·obtain⟨_,_,_,_,_,e',_⟩:=x;cases e'
end
open PySem.Calls (spliced_cons spliced_nil)
theorem Sq {α : Type} [DecidableEq α]:∀{l m:List α},l.Nodup->(∀x∈l,x∈m)->l.length<=m.length
 | [],m,_,_=>Qca _
 | a::l,m,h,c=>by
  obtain⟨h1,h2⟩:=Qbw.mp h;have ha:=c a (.head _);have:=Sq (l:=l) (m:=m.erase a) h2 λx hx=>(List.mem_erase_of_ne (λz:x=a=>h1 (by rw[<-z];exact hx))).mpr (c x (.tail _ hx));rw[List.length_erase_of_mem ha] at this;have:0 < m.length:=List.length_pos_of_mem ha;simp only[Qbj];omega
theorem Ss {α : Type} [DecidableEq α]:∀{m l:List α},l.Nodup->(∀x∈l,x∈m)->m.length<=l.length->m.Nodup
 | [],_,_,_,_=>List.Pairwise.nil
 | a::m,l,h,c,e=>by
  by_cases q:a∈m
  ·have:=Sq (m:=m) h λx hx=>by
    rcases QbK.mp (c x hx) with z | z
    ·exact z ▸ q
    ·exact z
   simp only[Qbj] at e;omega
  ·refine Qbw.mpr ⟨q,Ss (l:=l.erase a) (h.erase a) (λx hx=>?_) ?_⟩
   ·have x1:=(h.mem_erase_iff).mp hx;rcases QbK.mp (c x x1.2) with z | z
    ·exact absurd z x1.1
    ·exact z
   ·rw[List.length_erase];simp only[Qbj] at e;split <;> omega
theorem XD {vs us:YE} (p:us.Perm vs):∀{ns:List Int},IntsAre vs ns->∃ms,IntsAre us ms/\ms.Perm ns:=by
 induction p with
 | nil=>intro ns h;cases h;exact⟨[],.nil,List.Perm.refl _⟩
 | cons x _ ih=>
  intro ns h;cases h with
  | cons n t r=>
   obtain⟨ms,h1,h2⟩:=ih r;exact⟨n::ms,.cons n t h1,h2.cons _⟩
 | swap x y l=>
  intro ns h;cases h with
  | cons n t r=>
   cases r with
   | cons n2 t2 r2=>exact⟨_,.cons n2 t2 (.cons n t r2),List.Perm.swap _ _ _⟩
 | trans _ _ ih1 ih2=>
  intro ns h;obtain⟨ms,h1,h2⟩:=ih2 h;obtain⟨ks,h3,h4⟩:=ih1 h1;exact⟨ks,h3,h4.trans h2⟩
section
variable {prog:Program} {w:World} {A:Around} {E:YA} {s:Shared}
theorem Vw {b:Bool} {a:Addr} {es:Array (Int×Value)} {ep:Nat} {t:SetTable} {ns:List Int} {Q:YA} (hh:A.handled=none) (RS:FN b s.heap a es ep t) (eb:b=!w.params.followText "set-order") (h64:es.size < 64) (hi:IntsAre (es.toList.map (·.2)) ns)
  (h:∀h' tk d' D (out:Array Value) ms e,(∀c o,s.heap.get? c=some o->h'.get? c=some o)->(∀c o,s.heap.get? c=some o->c≠D)->h'.get? D=some (seqObj "list" out e)->IntsAre out.toList ms->ms.Perm ns->ms.Pairwise (·<=·)->Q (.ref D) { s with heap:=h',toks:=tk,drawn:=d' }) :
  wpAny (model prog w) A (call (.builtin "sorted") [.ref a]) Q E s:=by
 refine Calls.call_function_entry kind_sorted plain_sorted entry_sorted (args_sorted1 _) ?_;unfold Builtin.«sorted»;refine Qcc (m:=checkCount "sorted" 1 1 _) (Qcd ?_);have hsz:es.size < scanBound:=by unfold scanBound;omega
 refine Qcc (bN (A:=A.in1) hh RS eb hsz λh1 tk d' us kk pm=>?_);obtain⟨ms,i1,i2⟩:=XD pm hi;have ul:us.length=es.size:=by rw[pm.length_eq,Qbs,QaA]
 refine Qcc (wpAny_newList ?_ (by rw[ul];exact fits_of_scanBound hsz));have hD:(h1.push (seqObj "list" us.toArray 0)).get? h1.objs.size=some (seqObj "list" us.toArray 0):=Qaz _ rfl;refine Qcc (QbP (Qbl slot_list_sort ⟨_,hD,rq⟩ entry_list_sort (list_sort_tree (s:={ s with heap:=h1.push (seqObj "list" us.toArray 0),toks:=tk,drawn:=d' }) hD i1 (by omega) λout ks a1 a2 a3=>⟨_,rq,?_⟩) (args_list_sort _)));obtain⟨e,he⟩:=sortedHeap_at (out:=out) hD;refine Qcd ⟨_,rq,h _ tk d' _ out ks e (λc o ec=>?_) (λc o ec=>QbU (QbT (kk c o ec))) he a1 (a2.trans i2) a3⟩;have e1:=kk c o ec;have lt:=QbT e1;rw[sortedHeap_old (QbU lt) (by rw[QbG];exact QaZ lt)];exact Qam _ e1
end
theorem Inv.aH {X:Cx} {jb:YC} {σ : St} {H:Hp} {s:Shared} (I:Inv X jb σ H s) (d':Drawn):Inv X jb σ H { s with drawn:=d' }:=⟨I.ok,I.os,I.bare,I.base,I.loc,I.cell,I.free,I.Gu,I.pin,I.hok,I.len⟩
def Yo (K:YD) (t:TA):TE:=fun σ H Q=>t σ H λvs H1=>∃(p:Addr) (ns:List Int),vs=[.ref p]/\(SqL K H1 p (ns.map V.int)\/SqT K H1 p (ns.map V.int))/\ns.length < 64 /\
 ∀(ms:List Int) l,ms.Pairwise (· < ·)->(∀k,k∈ms ↔ k∈ns)->H1 l=none->Q (.ref l) (upd H1 l (.lst (ms.map V.int)))
theorem Zj {k:Int} {v:Value} (h:Value.isInt k v=true):∃t,v=.int k t:=Value.isInt_shape h
theorem Oj {prog:Program} {w:World}:∀{es:List (Int×Value)},ElemsOf (intKind prog w) es->∃ns,IntsAre (es.map (·.2)) ns/\∀k,k∈ns ↔ ∃e∈es,(intKind prog w).is k e.2=true
 | [],_=>⟨[],.nil,λk=>⟨(λh=>by cases h),λ⟨e,he,_⟩=>by cases he⟩⟩
 | e::es,h=>by
  obtain⟨⟨k,hk,_⟩,_⟩:=h.head;obtain⟨ns,h1,h2⟩:=Oj (es:=es) h.tail;obtain⟨t,et⟩:=Zj hk;refine⟨k::ns,by rw[QbM,et];exact .cons k t h1,λj=>?_⟩;rw[QbK,h2];constructor
  ·rintro (rfl |⟨e',he,q⟩)
   ·exact⟨e,.head _,hk⟩
   ·exact⟨e',.tail _ he,q⟩
  ·rintro ⟨e',he,q⟩;rcases QbK.mp he with rfl | he
   ·exact .inl ((intKind prog w).inj _ _ _ q hk)
   ·exact .inr ⟨e',he,q⟩
theorem Rj {X:Cx} {jb:YC} {σ : St} {H:Hp} {s:Shared} {h1:Heap} {tk n:Nat} {a:Addr} {val:Nat->Int} {ns:List Int} {Q:VK} (hc:X.calm=true) (I:Inv X jb σ H s) (z:SetT (intKind X.prog X.w) (!X.w.params.followText "set-order") h1 a (λk=>decide (k∈met val n)) (met val n).length)
  (kp:∀b o,s.heap.get? b=some o->h1.get? b=some o) (hn:n=ns.length) (h64:ns.length < 64) (hval:∀j,j < n->ns[j]?=some (val j))
  (q:∀(ms:List Int) l,ms.Pairwise (· < ·)->(∀k,k∈ms ↔ k∈ns)->H l=none->Q (.ref l) (upd H l (.lst (ms.map V.int)))) :
  wpAny (model X.prog X.w) X.A (call (.builtin "sorted") [.ref a]) (EP X jb σ Q) X.xe { s with heap:=h1,toks:=tk }:=by
 obtain⟨ob,es,ep,t,⟨g1,g2,g3⟩,⟨c1,c2⟩,⟨c3,c4,c5⟩,c6⟩:=z;obtain⟨ks,k1,k2⟩:=Oj c1;have ml:=Pk val n;have kl:ks.length=(met val n).length:=by
  have:=k1.length;rw[Qbs,QaA,c5] at this;exact this.symm
 have mem:∀k,k∈ks ↔ k∈met val n:=λk=>by rw[k2,<-c2,QaM]
 have nd:ks.Nodup:=Ss (Sv val n) (λx hx=>(mem x).mpr hx) (by omega);have jV:∀k,k∈ks ↔ k∈ns:=λk=>by
  rw[mem,Pj];constructor
  ·intro ⟨j,hj,e⟩;exact Qau (e ▸ hval j hj)
  ·intro hk;obtain⟨j,hj⟩:=Qaw hk;have lj:j < n:=by rw[hn];exact (Qaf.mp hj).1
   refine⟨j,lj,?_⟩;rw[hval j lj] at hj;exact Qbv hj
 refine Vw (I.ok.hd hc) ⟨ob,g1,g2,g3,c4,c6⟩ rfl (by omega) k1 λh2 tk2 d' D out ms e kk nD oD a1 a2 a3=>?_;obtain⟨m,hns,_⟩:=id I.loc;have k02:∀b o,s.heap.get? b=some o->h2.get? b=some o:=λb o e=>kk b o (kp b o e);have hn2:h2.Ns X.env.locals m:=by
  obtain⟨o,es',ep',q1,q2⟩:=hns;exact⟨o,es',ep',k02 _ _ q1,q2⟩
 have rv:Vals (ms.map V.int) out.toList:=XC a1;obtain⟨hDn,I2⟩:=Vx (tk:=tk2) I hns hn2 (λb o _ e=>k02 b o e) (λb o e=>nD b o (kp b o e)) (by rw[Array.toArray_toList];exact oD) rv (by rw[Qbs,a2.length_eq,kl];omega);refine⟨.ref D,_,I2.aH d',rq,q ms D ?_ (λk=>(a2.mem_iff).trans (jV k)) hDn⟩;have nd2:ms.Nodup:=a2.nodup_iff.mpr nd;refine (List.pairwise_and_iff.mpr ⟨a3,nd2⟩).imp λzz=>?_;obtain⟨x,y⟩:=zz;exact by omega
end L2
namespace L2
open PySem PySem.Spec PyProof.Rows
theorem T6:isSubtype (.type "list") (.type "set")=pure false:=by rw[QbJ];kernel_rfl
theorem Vt:isSubtype (.type "list") (.type "frozenset")=pure false:=by rw[QbJ];kernel_rfl
theorem Yv {X:Cx} {jb:YC} {σ : St} {H:Hp} {s:Shared} {p:Addr} {ns:List Int} {Q:YA} (hc:X.calm=true) (I:Inv X jb σ H s) (hq:SqL X.K H p (ns.map V.int)\/SqT X.K H p (ns.map V.int)) (h64:ns.length < 64)
  (h:∀(h1:Heap) (tk:Nat),SetT (intKind X.prog X.w) (!X.w.params.followText "set-order") h1 s.heap.objs.size (λk=>decide (k∈met (λi=>ns.getD i 0) ns.length)) (met (λi=>ns.getD i 0) ns.length).length->(∀b o,s.heap.get? b=some o->h1.get? b=some o)->Q (.ref s.heap.objs.size) { s with heap:=h1,toks:=tk }) :
  wpAny (model X.prog X.w) X.A (call (.type "set") [.ref p]) Q X.xe s:=by
 have vOk:∀{its:YE},IntsAre its ns->∀(i:Nat) (v:Value),its.toArray[i]?=some v->(intKind X.prog X.w).is (ns.getD i 0) v=true/\v.scannable=true:=λhi i v e=>by
  obtain⟨t,rfl⟩:=IntsAre.int_at hi i v (by rw[<-List.getElem?_toArray];exact e);exact⟨intKind_is _ _ _ _,rq⟩
 have lim:ns.length+1 < scanBound:=by unfold scanBound;omega
 rcases hq with hq | hq
 ·obtain⟨its,rv,pl,hz⟩:=I.list hq;have hi:IntsAre its ns:=intsAre_of rv;have hl:its.toArray.size=ns.length:=by rw[QaT,hi.length]
  have il:=pl.isList;obtain⟨o,ho,cl,x⟩:=id il;refine Qf (T:="list") (n:=ns.length) (P:=λi v=>its.toArray[i]?=some v) (I.ok.hd hc) (λi=>ns.getD i 0) (vOk hi) lim ⟨o,ho,cl⟩ T6 Vt (by decide) (λs1 kk=>?_) λh1 tk z kp=>h h1 tk z λb o e=>kp b o (QbT e) e;have l1:s1.heap.IsList p its.toArray:=⟨o,kk o ho,cl,x⟩;refine⟨_,λi h=>h.IsListIter s1.heap.objs.size p i/\h.IsList p its.toArray,λA E Q hQ=>Qba l1 hQ,λA hA ne=>?_,⟨⟨_,Qaz _ rfl,rq,rq⟩,l1.push _⟩⟩;rw[<-hl];exact Walks.list hA _ p ne its.toArray
 ·obtain⟨its,rv,il,hz⟩:=I.tuple hq;have hi:IntsAre its ns:=intsAre_of rv;have hl:its.toArray.size=ns.length:=by rw[QaT,hi.length]
  have il':s.heap.IsTuple p its.toArray:=il;obtain⟨o,ho,cl,x⟩:=id il';refine Qf (T:="tuple") (n:=ns.length) (P:=λi v=>its.toArray[i]?=some v) (I.ok.hd hc) (λi=>ns.getD i 0) (vOk hi) lim ⟨o,ho,cl⟩ T5 Vs (by decide) (λs1 kk=>?_) λh1 tk z kp=>h h1 tk z λb o e=>kp b o (QbT e) e;have l1:s1.heap.IsTuple p its.toArray:=⟨o,kk o ho,cl,x⟩;refine⟨_,λi h=>h.IsTupleIter s1.heap.objs.size p i/\h.IsTuple p its.toArray,λA E Q hQ=>QaN l1 hQ,λA hA ne=>?_,⟨⟨_,Qaz _ rfl,rq,rq⟩,let ⟨o,e,r⟩:=l1;⟨o,Qam _ e,r⟩⟩⟩;rw[<-hl];exact Walks.tuple hA _ p ne its.toArray
theorem NZ {X:Cx} {e:Expr} {t:TA} {q1 q2 cpos pos2:Pos} (hc:X.calm=true) (hg:Gl X "sorted") (hm:X.mg "sorted"=none) (hg2:Gl X "set") (hm2:X.mg "set"=none) (ha:PA X [e] t)
  (he:starEach [e] X.env=(false,eval e X.env)::starEach [] X.env:=by rfl) (hpl:(backTo cpos (starEach [] X.env)).any (·.1)=false:=by rfl)
  (hs0:starEach [.Call (.Name "set" q2) [e] [] cpos] X.env=[(false,eval (.Call (.Name "set" q2) [e] [] cpos) X.env)]:=by rfl) :
  PE X (.Call (.Name "sorted" q1) [.Call (.Name "set" q2) [e] [] cpos] [] pos2) (Yo X.K t):=by
 intro jb s σ H Q I h;have inner:wpAny (model X.prog X.w) X.A (eval (.Call (.Name "set" q2) [e] [] cpos) X.env) (λv s1=>∃(s0:Shared) (H1:Hp) (h1:Heap) (tk:Nat) (ns:List Int),v=.ref s0.heap.objs.size/\s1={ s0 with heap:=h1,toks:=tk }/\Inv X jb σ H1 s0/\ns.length < 64 /\
   SetT (intKind X.prog X.w) (!X.w.params.followText "set-order") h1 s0.heap.objs.size (λk=>decide (k∈met (λi=>ns.getD i 0) ns.length)) (met (λi=>ns.getD i 0) ns.length).length/\(∀b o,s0.heap.get? b=some o->h1.get? b=some o) /\
   ∀(ms:List Int) l,ms.Pairwise (· < ·)->(∀k,k∈ms ↔ k∈ns)->H1 l=none->Q (.ref l) (upd H1 l (.lst (ms.map V.int)))) X.xe s:=by
  refine QaP (G5 I hg2 hm2 (u:=.type "set") (by trivial) ?_);refine Qac (thn (ha cpos jb s σ H _ I h) λus s1 zz=>?_) he hpl;obtain⟨vs,H1,I1,r1,p,ns,ev,hq,h64,q⟩:=zz;subst ev;obtain⟨u,rfl,rx⟩:=vals1 r1;cases rx;exact Yv hc I1 hq h64 λh1 tk z kp=>⟨s1,H1,h1,tk,ns,rq,rq,I1,h64,z,kp,q⟩
 refine QaP (G5 I hg hm (u:=.builtin "sorted") (by trivial) ?_);refine PyProof.Rows.callWith_builtin1 (Q:=EP X jb σ Q) ?_ hs0 rfl;rw[hs0];show wpAny _ _ (spliced ((false,eval (.Call (.Name "set" q2) [e] [] cpos) X.env)::backTo pos2 [])) _ _ s;refine Calls.spliced_cons (thn inner λv s1 zz=>?_);obtain⟨s0,H1,h1,tk,ns,ev,es,I1,h64,z,kp,q⟩:=zz;subst ev es;refine Calls.spliced_nil ?_;exact Rj hc I1 z kp rfl h64 (λj hj=>by rw[Qaj hj];simp[hj]) q
section
variable {X:Cx} {K:YD}
theorem aU (h:X.K=K) (hu:X.A.units+66 < cLine):OpR X (compareOp .In) (λx y H Q=>∃l xs d ds,y=.ref l/\SqT K H l xs/\Hw K H xs ds/\Rep H x d/\SeqAt.shaped d=true/\PyData.canLayAll0 ds=true/\Q (.bl (ds.any λz=>PyData.eqv z d)) H):=by
 subst h;intro jb s σ H x y v u Q I rx ry hh;obtain⟨l,xs,d,ds,rfl,hq,hr,hx,sd,hc,q⟩:=hh;cases ry;obtain⟨its,rv,⟨o,ho,hcl,n,hd⟩,_⟩:=I.tuple hq;obtain⟨as,r1⟩:=Hw.reads I hr rv;obtain⟨bs,r2⟩:=hx.reads I.hok rx;refine SeqAt.in_tuple_reads (xs:=ds) (d:=d) (.tuple ho hcl hd (by simpa using r1)) r2 hc (SeqAt.canLay_of_shaped sd) (room_in_shaped sd (by omega)) ⟨.bl _,H,I,rq,q⟩
end
theorem Rep.kn {H:Hp} {v:V} {d:PyData} (r:Rep H v d):Kn H v:=by
 cases r with
 | non=>exact True.intro
 | bl b=>exact True.intro
 | int i=>exact True.intro
 | str x=>exact True.intro
 | tup e _=>exact .inr ⟨_,e⟩
 | lst e _=>exact .inl ⟨_,e⟩
end L2
namespace PySem.ZZ
open PySem
section
variable {prog:Program} {w:World} {A:Around} {E:YA} {s:Shared}
abbrev itS (x:Str) (t:Tok):Obj:={ cls:=.type "str_ascii_iterator",data:=.fields #[.str x t,.int 0 0] }
abbrev zsa (h:Heap) (x:Str) (t:Tok) (l2:Addr):Heap:=((((h.push (itS x t)).push (itO "tuple_iterator" l2)).push (tuO #[.ref h.objs.size,.ref (h.push (itS x t)).objs.size])).push (tuO #[.none,.none]))
abbrev zs (h:Heap) (x:Str) (t:Tok) (l2:Addr):Heap:=(zsa h x t l2).push
 { cls:=.type "zip",data:=.fields #[.none,.bool false,.bool false,.ref ((h.push (itS x t)).push (itO "tuple_iterator" l2)).objs.size,.ref (((h.push (itS x t)).push (itO "tuple_iterator" l2)).push (tuO #[.ref h.objs.size,.ref (h.push (itS x t)).objs.size])).objs.size] }
end
end PySem.ZZ
namespace L2
open PySem PySem.Spec PyProof.Rows
section
variable {X:Cx}
end
theorem iR {X:Cx} {tg it:Expr} {w1 w2:TI} (h1:PI X tg it w1) (h2:PI X tg it w2):PI X tg it (fun σ H R=>w1 σ H R\/w2 σ H R):=λjb s σ H R I h=>h.elim (h1 jb s σ H R I) (h2 jb s σ H R I)
theorem X8 {K:YD} {a b l:Addr} {xs ys:YG} {g:TG} {tt:TT} {te:TE} {Q:VK} {σ0:St} {H0:Hp} (n:Nat) (hx:n<=xs.length) (hy:n<=ys.length) (hn:xs.length<=n\/ys.length<=n) (Pv:YN)
  (h0:Pv 0 σ0 H0) (hl:∀i σ H',i<=n->Pv i σ H'->SqL K H' a xs/\SqL K H' b ys)
  (hs:∀i x y p σ H',xs[i]?=some x->ys[i]?=some y->Pv i σ H'->H' p=none->g (.ref p) σ (upd H' p (.tup [x,y])) fun σ3 H3=>tt σ3 H3 λb H4=>if b=true then te σ3 H4 λy H5=>∃ys,H5 l=some (.lst ys)/\ys.length < sizeLine/\Pv (i+1) σ3 (upd H5 l (.lst (ys++[y]))) else Pv (i+1) σ3 H4)
  (hd:∀ σ H',Pv n σ H'->Q (.ref l) H'):Ef (Itz K a b) g tt te Q σ0 H0 l:=by
 unfold Ef;refine⟨λi m σ H'=>m=n - i/\i<=n/\Pv i σ H',⟨n,by simp,Qca _,h0⟩,?_⟩;rintro i m σ H' ⟨rfl,hi,p⟩;obtain⟨q1,q2⟩:=hl i σ H' hi p;by_cases hlt:i < n
 ·have hlt1:i < xs.length:=by omega
  have hlt2:i < ys.length:=by omega
  refine .inr ⟨⟨xs,ys,xs[i],ys[i],q1,q2,Qaj hlt1,Qaj hlt2⟩,Pv (i+1),fun σ3 H3 p'=>⟨n - (i+1),by omega,rq,hlt,p'⟩,λv H2 y=>?_⟩;obtain⟨pp,x',y',hp,rfl,rfl,e1,e2⟩:=y;exact hs i x' y' pp σ _ (e1 xs q1) (e2 ys q2) p hp
 ·exact .inl ⟨⟨xs,ys,q1,q2,by omega⟩,by
   have:i=n:=by omega
   subst this;exact hd _ _ p⟩
end L2
namespace K56
open PySem L2
def top (i:Nat):Stmt:=PySem.Challenge.pw_warnloop_k56_says_claims.main.body.getD i (.Pass ⟨0,0,0,0⟩)
theorem Dr:bootBuiltins "isinstance"=some (.builtin "isinstance"):=by trivial
theorem LQ:bootBuiltins "int"=some (.type "int"):=by trivial
theorem Vc:bootBuiltins "bool"=some (.type "bool"):=by trivial
theorem Es:bootBuiltins "tuple"=some (.type "tuple"):=by trivial
theorem JX:bootBuiltins "list"=some (.type "list"):=by trivial
theorem gA:bootBuiltins "str"=some (.type "str"):=by trivial
theorem Dk:bootBuiltins "len"=some (.builtin "len"):=by trivial
theorem Jo:bootBuiltins "all"=some (.builtin "all"):=by trivial
theorem Yj:bootBuiltins "abs"=some (.builtin "abs"):=by trivial
theorem Yh:bootBuiltins "max"=some (.builtin "max"):=by trivial
theorem Yi:bootBuiltins "any"=some (.builtin "any"):=by trivial
theorem gB:bootBuiltins "min"=some (.builtin "min"):=by trivial
structure Nm (mg:YB):Prop where
 isinstance:mg "isinstance"=none
 int:mg "int"=none
 bool:mg "bool"=none
 tuple:mg "tuple"=none
 list:mg "list"=none
 str:mg "str"=none
 len:mg "len"=none
 all:mg "all"=none
 abs:mg "abs"=none
 max:mg "max"=none
 min:mg "min"=none
 range:mg "range"=none
 sorted:mg "sorted"=none
 any:mg "any"=none
 sum:mg "sum"=none
 enumerate:mg "enumerate"=none
 zip:mg "zip"=none
 reversed:mg "reversed"=none
 dict:mg "dict"=none
 ord:mg "ord"=none
 set:mg "set"=none
abbrev Ou:Stmt:=top 93
abbrev JT:YF:=["_law_script","_law_k"]
theorem MP:Bo ["_law_script","_law_k","_law_cell"] JT (Ai Ou):=by ac_rfl
abbrev M4:Stmt:=top 94
abbrev Eo:YF:=["_law_bag_here","_law_many"]
theorem GD:Bo ["_law_bag_here","_law_many","_law_digit","_law_primes","_law_step","_law_base","_law_found"] Eo (Ai M4):=by ac_rfl
theorem fD (v:V):isW v=(isI v&&!isB v):=by cases v <;> rfl
def BX (H:Hp) (b:Addr) (n:Nat):Prop:=∃x y z:Int,H b=some (.lst [.int x,.int y,.int z])/\0<=x/\0<=y/\y<=4294967296/\0<=z/\z<=n
theorem BX.same {H H':Hp} {b:Addr} {n:Nat} (h:BX H b n) (s:Same H H'):BX H' b n:=by
 obtain⟨x,y,z,e,r⟩:=h;exact⟨x,y,z,s _ _ e,r⟩
theorem BX.mono {H:Hp} {b:Addr} {n m:Nat} (h:BX H b n) (l:n<=m):BX H b m:=by
 obtain⟨x,y,z,e,h1,h2,h3,h4,h5⟩:=h;exact⟨x,y,z,e,h1,h2,h3,h4,by omega⟩
theorem BX.nb {H:Hp} {b p:Addr} {n:Nat} (h:BX H b n) (hp:H p=none):b≠p:=by obtain⟨_,_,_,e,_⟩:=h;exact BJ e hp
theorem BX.Cz {H:Hp} {b:Addr} {n:Nat} (h:BX H b n):∀xs,H b≠some (.tup xs):=λxs z=>by obtain⟨_,_,_,e,_⟩:=h;rw[e] at z;cases z
theorem BX.ex {H:Hp} {b:Addr} {n:Nat} (h:BX H b n):∃o,H b=some o:=by obtain⟨_,_,_,e,_⟩:=h;exact⟨_,e⟩
theorem BX.Nz {H H':Hp} {a b:Addr} {n:Nat} (h:BX H b n) (s:Al a H H') (ne:b≠a):BX H' b n:=by
 obtain⟨x,y,z,e,r⟩:=h;exact⟨x,y,z,s _ _ e ne,r⟩
theorem Ag {n:Nat} (h:n<=1000):n<=sizeLine:=Nat.le_of_lt (Bq h)
def ZX (K:YD):Sp:=λvs H Q _=>∃(a:Addr) (ns:List Int) (k:Int),vs=[.ref a,.int k]/\SqL K H a (ns.map V.int)/\ns.length<=63/\0<=k/\k<=100/\∀p o,H p=none->BX (upd H p o) p 0->Q (.ref p) (upd H p o)
def JH:Sp:=λvs H Q _=>∃(b:Addr) (n:Nat) (m:Int),vs=[.ref b,.int m]/\BX H b n/\n<=10000/\0 < m/\m < 1073741824/\∀r H',0<=r->r < m->BX H' b (n+1)->Al b H H'->Q (.int r) H'
def QW (K:YD):Sp:=λvs H Q _=>∃(a:Addr) (ns:List Int),vs=[.ref a]/\SqL K H a (ns.map V.int)/\ns.length<=63/\∀H',Q (.bl true) H'
theorem at7 {i:Int} (h0:0<=i) (h7:i < 7) {a b c d e f g:Int} (P:Int->Prop) (ha:P a) (hb:P b) (hc:P c) (hd:P d) (he:P e) (hf:P f) (hg:P g):∃p,atI [V.int a,.int b,.int c,.int d,.int e,.int f,.int g] i=some (.int p)/\P p:=by
 have:i=0\/i=1\/i=2\/i=3\/i=4\/i=5\/i=6:=by omega
 rcases this with rfl | rfl | rfl | rfl | rfl | rfl | rfl
 ·exact⟨_,rq,ha⟩
 ·exact⟨_,rq,hb⟩
 ·exact⟨_,rq,hc⟩
 ·exact⟨_,rq,hd⟩
 ·exact⟨_,rq,he⟩
 ·exact⟨_,rq,hf⟩
 ·exact⟨_,rq,hg⟩
theorem gq {x:Int} {b:Bool}:WQ x (if b=true then 1 else 0):=.inr (by cases b <;> exact⟨by decide,by decide⟩)
section
variable {P:Program} {w:World} {K:YD} {mg:YB} {base:Heap}
theorem Y6 (C:Code K mg "_law_bag" Ou JT) (T:Nm mg):Good P w K mg base "_law_bag" 1 JT (ZX K):=by
 refine C.good MP (λvs H Q E h=>?_) (λf cdv A outer s H vs Q E hr h=>?_)
 ·obtain⟨a,ns,k,rfl,_⟩:=h;rfl
 obtain⟨a,ns,k,rfl,hS,h63,h0,h1,q⟩:=h;refine⟨_,(Af (BZ (i:=2) MP.nd rfl (Or.inl rfl) (Ax CK (Ax CK (Ax Gn (Ax Gn Ac (pv 1)) (pv 1)) (Ax Gn Ac (pv 1))) Ac))
 (Af (Bv (Bm Ml (pv 1) (Bc Bw rfl T.len Dk (Aa (pv 0) Ab)) (Bg _)) (Aj (BZ (i:=2) MP.nd rfl (Or.inl rfl) (Ao Bl (pv 0) (pv 1) (λ_ _=>rfl)))) Bh)
 (Aj (Av (CT (Aa (Ax Gn (Bc Tw rfl T.abs Yj (Aa (pv 2) Ab)) (Cm Ju rfl T.int LQ (Aa (Cp VN (Bc Tw rfl T.abs Yj (Aa (pv 2) Ab)) (Ax Xm Ac Ac) (Bg _)) Ab))) (Aa (Ax CK (Ax El (pv 2) Ac) (Ax Gn Ac (pv 1))) (Aa Ac Ab)))))))),?_⟩
 show let R0:TS:=_;let R1:TS:=_;let R2:TS:=Az (CQ _ R1 _) R0;Az _ R2 _ _ _;intro R0 R1 R2;refine⟨_,rq,_,_,rq,rq,.inl ⟨by decide,by decide⟩,_,rq,_,_,rq,rq,.inr ⟨by omega,by omega⟩,_,rq,_,_,rq,rq,.inl ⟨by decide,by decide⟩,_,_,rq,rq,_,_,rq,rq,?_⟩;refine⟨_,rq,_,rq,a,_,rq,.inl hS,_,_,rq,rq,_,rq,?_⟩;have hl:(ns.map V.int).length=ns.length:=Qbs _;have fin:∀(c:Int) (p:Addr),H p=none->Q (.ref p) (upd H p (.lst [.int ((if c < 0 then -c else c)*(if decide ((10:Int) ^ (18:Int).toNat<=(if c < 0 then -c else c))=true then 1 else 0)),.int (c % 2147483647+37*k),.int 0])):=λc p hp=>by
  refine q p _ hp ⟨_,_,_,Ad,?_,?_,?_,by omega,by omega⟩
  ·refine Int.mul_nonneg ?_ ?_
   ·split <;> omega
   ·split <;> omega
  ·have:=QbE c (show (2147483647:Int)≠0 by decide);omega
  ·have:=QaS c (show (0:Int) < 2147483647 by decide);omega
 refine V6 (λc1=>?_) (λc1=>?_)
 ·have c':k < (((ns.map V.int).length:Nat):Int):=QaV c1;rw[hl] at c';have hk:k.toNat < ns.length:=by omega
  have hat:atI (ns.map V.int) ((k.toNat:Nat):Int)=some (.int ns[k.toNat]):=Ah (by rw[QaU];simp[hk]);rw[Int.toNat_of_nonneg h0] at hat;refine⟨_,rq,_,rq,a,_,_,_,rq,rq,hS,hat,?_⟩;exact⟨_,rq,_,rq,_,rq,_,rq,_,_,rq,rq,⟨by decide,by decide,by decide⟩,_,_,rq,rq,.inr ⟨_,rq,_,_,rq,rq,gq,_,rq,_,_,rq,rq,(by show (0:Int) < 2147483647;decide),_,rq,_,_,rq,rq,.inl ⟨by decide,by decide⟩,_,_,rq,rq,
   (by show 3<=sizeLine;decide),λl hl'=>fin _ l hl'⟩⟩
 ·exact⟨_,rq,_,rq,_,rq,_,rq,_,_,rq,rq,⟨by decide,by decide,by decide⟩,_,_,rq,rq,.inr ⟨_,rq,_,_,rq,rq,gq,_,rq,_,_,rq,rq,(by show (0:Int) < 2147483647;decide),_,rq,_,_,rq,rq,.inl ⟨by decide,by decide⟩,_,_,rq,rq,
   (by show 3<=sizeLine;decide),λl hl'=>fin _ l hl'⟩⟩
theorem Xn (C:Code K mg "_law_take" M4 Eo) (T:Nm mg):Good P w K mg base "_law_take" 1 Eo JH:=by
 refine C.good GD (λvs H Q E h=>?_) (λf cdv A outer s H vs Q E hr h=>?_)
 ·obtain⟨b,n,m,rfl,_⟩:=h;rfl
 obtain⟨b,n,m,rfl,⟨x,y,z,hb,x0,y0,y1,z0,z1⟩,hn,m0,m1,q⟩:=h;refine⟨_,(Af (Bv (Bm Z2 (Ao Bl (pv 0) Ac (λ_ _=>rfl)) Ac (Bg _)) (Af (BZ (i:=2) GD.nd rfl (Or.inl rfl) (Ax El (Ao Bl (pv 0) Ac (λ_ _=>rfl)) (pv 1)))
 (Af (Ft (Ax O5 (Ao Bl (pv 0) Ac (λ_ _=>rfl)) (pv 1)) (Xi (pv 0) Ac set_list))
 (Aj (Av (pv 2))))) Bh)
 (Af (BZ (i:=3) GD.nd rfl (Or.inl rfl) (@Aq _ _ _ _ _ (@Aa _ _ _ _ _ (@Ac _ _ _ _) (@Aa _ _ _ _ _ (@Ac _ _ _ _) (@Aa _ _ _ _ _ (@Ac _ _ _ _) (@Aa _ _ _ _ _ (@Ac _ _ _ _) (@Aa _ _ _ _ _ (@Ac _ _ _ _) (@Aa _ _ _ _ _ (@Ac _ _ _ _) (@Aa _ _ _ _ _ (@Ac _ _ _ _) (@Ab _) BW) BW) BW) BW) BW) BW) BW)))
 (Af (Ft (Ax CK (Ao Bl (pv 0) Ac (λ_ _=>rfl)) Ac) (Xi (pv 0) Ac set_list))
 (Af (BZ (i:=4) GD.nd rfl (Or.inl rfl) (Ao Bl (pv 0) Ac (λ_ _=>rfl)))
 (Af (BZ (i:=5) GD.nd rfl (Or.inl rfl) (Ax CK (Ax CK (Ax Gn (Ao Bl (pv 0) Ac (λ_ _=>rfl)) (Ax CK (Ax Gn Ac (pv 4)) Ac)) (Ax Gn (Ax Gn Ac (pv 4)) (pv 4))) Ac))
 (Af (BZ (i:=6) GD.nd rfl (Or.inl rfl) (Ax El (Ax Xm (pv 5) Ac) (Ao Ba (pv 3) (Ax El (pv 4) Ac) (λ_ _=>rfl))))
 (Aj (Av (Ax El (Ax O5 (Ax El (Ax Gn (pv 6) (Ax CK (Ax O5 (pv 6) Ac) Ac)) (Ao Ba (pv 3) (Ax El (Ax CK (pv 4) Ac) Ac) (λ_ _=>rfl))) Ac) (pv 1)))))))))),?_⟩
 show let R0:TS:=_;let R1:TS:=Az _ R0;let R2:TS:=Az _ R1;let R3:TS:=Az _ R2;let R4:TS:=Az _ R3;let R5:TS:=Az _ R4;let R6:TS:=Az _ _;let R7:TS:=Az _ R6;Az (CQ _ R7 _) R5 _ _ _;intro R0 R1 R2 R3 R4 R5 R6 R7;refine⟨_,rq,b,_,_,_,rq,rq,SqL.of hb,rq,_,_,rq,rq,_,rq,?_⟩;refine V6 (λc1=>?_) (λc1=>?_)
 ·have c':0 < x:=QaV c1;refine⟨_,rq,b,_,_,_,rq,rq,SqL.of hb,rq,_,rq,_,_,rq,rq,m0,?_⟩;refine⟨_,rq,b,_,_,_,rq,rq,SqL.of hb,rq,_,rq,_,_,rq,rq,⟨m0,m1⟩,_,rq,b,_,_,_,rq,rq,hb,rq,?_⟩;exact⟨_,rq,q _ _ (QbE x (by omega)) (QaS x m0) ⟨x / m,y,z,Ad,Int.ediv_nonneg x0 (by omega),y0,y1,z0,by omega⟩ Al.upd⟩
 ·refine⟨(by show 7<=sizeLine;decide),λtp htp=>?_⟩;have nbt:b≠tp:=BJ hb htp;have hb1:∀o,(upd H tp o) b=some (.lst [.int x,.int y,.int z]):=λo=>by rw[Bp nbt];exact hb
  have ht1:∀o u,(upd (upd H tp o) b u) tp=some o:=λo u=>by rw[Bp nbt.symm,Ad]
  refine⟨_,rq,b,_,_,_,rq,rq,SqL.of (hb1 _),rq,_,_,rq,rq,_,rq,b,_,_,_,rq,rq,hb1 _,rq,?_⟩;refine⟨_,rq,b,_,_,_,rq,rq,SqL.of Ad,rq,?_⟩;have s0:0<=z+1:=by omega
  have s1:z+1<=10001:=by omega
  refine⟨_,rq,b,_,_,_,rq,rq,SqL.of Ad,rq,_,rq,_,_,rq,rq,.inl ⟨by decide,by decide⟩,_,_,rq,rq,_,_,rq,rq,.inl ⟨by omega,by omega⟩,_,rq,_,_,rq,rq,.inl ⟨by decide,by decide⟩,_,rq,_,_,rq,rq,.inr ⟨by omega,by omega⟩,
   _,_,rq,rq,_,_,rq,rq,?_⟩
  have hbase:(y*(2*(z+1)+1)+6007*(z+1)*(z+1)+29).natAbs < 2 ^ 64:=by
   have h1:0<=y*(2*(z+1)+1):=Int.mul_nonneg y0 (by omega);have h2:y*(2*(z+1)+1)<=4294967296*20003:=Int.mul_le_mul y1 (by omega) (by omega) (by omega);have h3:0<=6007*(z+1)*(z+1):=Int.mul_nonneg (by omega) s0;have h4:6007*(z+1)*(z+1)<=(6007*10001)*10001:=Int.mul_le_mul (by omega) s1 s0 (by omega);omega
  obtain⟨p1,e1,p10,p11⟩:=at7 (i:=(z+1) % 7) (QbE _ (by decide)) (QaS _ (by decide)) (a:=2147483629) (b:=2147483587) (c:=2147483579) (d:=2147483563) (e:=2147483549) (f:=2147483543) (g:=2147483497)
   (λp=>0 < p/\p < 2147483648) (by decide) (by decide) (by decide) (by decide) (by decide) (by decide) (by decide)
  obtain⟨p2,e2,p20,p21⟩:=at7 (i:=(z+1+3) % 7) (QbE _ (by decide)) (QaS _ (by decide)) (a:=2147483629) (b:=2147483587) (c:=2147483579) (d:=2147483563) (e:=2147483549) (f:=2147483543) (g:=2147483497)
   (λp=>0 < p/\p < 2147483648) (by decide) (by decide) (by decide) (by decide) (by decide) (by decide) (by decide)
  refine⟨_,rq,_,_,rq,rq,⟨by decide,by decide,hbase⟩,_,rq,_,rq,_,_,rq,rq,(by show (0:Int) < 7;decide),tp,_,_,_,rq,rq,SqT.of (ht1 _ _),e1,_,_,rq,rq,p10,?_⟩;generalize hF:(y*(2*(z+1)+1)+6007*(z+1)*(z+1)+29) ^ (3:Int).toNat % p1=F;have F0:0<=F:=by rw[<-hF];exact QbE _ (by omega)
  have F1:F < p1:=by rw[<-hF];exact QaS _ p10
  refine⟨_,rq,_,rq,_,_,rq,rq,⟨by decide,by decide⟩,_,_,rq,rq,_,_,rq,rq,.inl ⟨by omega,by omega⟩,_,rq,_,rq,_,_,rq,rq,_,_,rq,rq,(by show (0:Int) < 7;decide),tp,_,_,_,rq,rq,SqT.of (ht1 _ _),e2,_,_,rq,rq,p20,
   _,_,rq,rq,⟨by decide,by decide⟩,_,rq,_,_,rq,rq,m0,?_⟩
  refine q _ _ (QbE _ (by omega)) (QaS _ m0) ⟨x,y,z+1,Ad,x0,y0,y1,s0,by omega⟩ λc o e nc=>?_;rw[Bp nc,Bp (BJ e htp)];exact e
end
abbrev Ke:Stmt:=top 6
abbrev FQ:YF:=["thing"]
theorem T9:Bo FQ FQ (Ai Ke):=by ac_rfl
abbrev Jz:Stmt:=top 7
abbrev CJ:YF:=["thing","low","high"]
theorem Rp:Bo ["thing","low","high"] CJ (Ai Jz):=by ac_rfl
abbrev M6:Stmt:=top 8
abbrev Dn:YF:=["thing","least","most"]
theorem Xc:Bo ["thing","least","most"] Dn (Ai M6):=by ac_rfl
abbrev JB:Stmt:=top 10
abbrev Fg:YF:=["row"]
theorem Rq:Bo ["row"] Fg (Ai JB):=by ac_rfl
abbrev Dz:Stmt:=top 11
abbrev Cu:YF:=["thing","least","most","low","high"]
theorem Kd:Bo Cu Cu (Ai Dz):=by ac_rfl
theorem Gv {i:Nat} {v:V} {σ : St} {H:Hp} {Q:YO} (h:Q (σ.set i (some v)) H):Jt i v σ H Q:=h
def Yr:Sp:=λvs H Q _=>∃v,vs=[v]/\Kn H v/\Q (.bl (isW v)) H
def VB (o:Option (YG)) (a b:Int):Bool:=match o with
 | some xs=>decide (a<=xs.length)&&decide ((xs.length:Int)<=b)
 | none=>false
def GK:Sp:=λvs H Q _=>∃v a b,vs=[v,.int a,.int b]/\Kn H v/\Q (.bl (VB (Ij H v) a b)) H
theorem bx {v:V} (h:isW v=true):∃i,v=.int i:=by
 cases v with
 | int i=>exact⟨i,rfl⟩
 | _=>cases h
def wiB (v:V) (lo hi:Int):Bool:=match v with
 | .int i=>decide (lo<=i)&&decide (i<=hi)
 | _=>false
def Ka:Sp:=λvs H Q _=>∃v lo hi,vs=[v,.int lo,.int hi]/\Kn H v/\Q (.bl (wiB v lo hi)) H
def adj {α : Type} (l:List α):List (α×α):=l.zip l.tail
theorem Vi {α : Type} (l:List α):(adj l).length=l.length - 1:=by unfold adj;rw[List.length_zip,Qbq];omega
theorem Ym {α : Type} {l:List α} {i:Nat} {x y:α} (hx:l[i]?=some x) (hy:l[i+1]?=some y):(adj l)[i]?=some (x,y):=by
 unfold adj;rw[List.getElem?_zip_eq_some];exact⟨hx,by rw[List.getElem?_tail];exact hy⟩
def Hh (gs:List Int):Bool:=(adj gs).all λp=>decide (p.1 < p.2)
theorem Qcg {α : Type} {l:List α} {i:Nat} {x:α} (h:l[i]?=some x):l.take (i+1)=l.take i++[x]:=by rw[List.take_add_one,h];rfl
def Vv:Sp:=λvs H Q _=>∃t gs,vs=[.ref t]/\(H t=some (.tup (gs.map V.int))\/H t=some (.lst (gs.map V.int)))/\gs.length<=1000/\∀H',Same H H'->Q (.bl (Hh gs)) H'
theorem Kh {α β : Type} {F:α->β->Prop}:∀{l:List α} {m:List β} {i:Nat} {x:α},Paired F l m->l[i]?=some x->∃y,m[i]?=some y/\F x y
 | _,_,_,_,.nil,h=>by cases h
 | _,_,0,_,.cons a r,h=>by cases h;exact⟨_,rfl,a⟩
 | _,_,i+1,_,.cons a r,h=>Kh (i:=i) r h
theorem all_map {α : Type} (f:α->Bool) (l:List α):(l.map f).all id=l.all f:=by rw[QbY];rfl
theorem Wm {α : Type} (xs:YG):Cy xs (some 1) none=xs.tail:=by
 unfold Cy;cases xs with
 | nil=>simp
 | cons x r=>
  rw[HT.Kg,show (some (1:Int))=some ((1:Nat):Int) from rfl,HT.Hg,Qbz (by rw[Qbj];omega)]
  rw[show (x::r).drop 1=r from rfl]
  exact Qao (by rw[Qbj];omega)
mutual
def wide:PyData->Bool
 | .tuple ds=>decide (ds.length<=900)&&CV ds
 | .list ds=>decide (ds.length<=900)&&CV ds
 | .str z=>decide (z.length<=900)&&z.cps.toList.all λc=>decide (c < 128)
 | _=>true
def CV:List PyData->Bool
 | []=>true
 | x::r=>wide x&&CV r
end
structure Fit (n:Nat) (d:PyData):Prop where
 lay:d.canLay0=true
 dep:d.depth<=n
 wd:wide d=true
theorem Mq:∀{ds:List PyData},PyData.canLayAll0 ds=true->∀x∈ds,x.canLay0=true
 | [],_,_,h=>by cases h
 | a::r,h,x,hx=>by
  have h:(a.canLay0&&PyData.canLayAll0 r)=true:=h;rw[Qbg] at h;rcases QbK.mp hx with rfl | hx
  ·exact h.1
  ·exact Mq h.2 x hx
theorem Mt:∀{ds:List PyData} {n:Nat},PyData.depthAll ds<=n->∀x∈ds,x.depth<=n
 | [],_,_,_,h=>by cases h
 | a::r,n,h,x,hx=>by
  have h:max a.depth (PyData.depthAll r)<=n:=h;rcases QbK.mp hx with rfl | hx
  ·omega
  ·exact Mt (by omega) x hx
theorem Q7:∀{ds:List PyData},CV ds=true->∀x∈ds,wide x=true
 | [],_,_,h=>by cases h
 | a::r,h,x,hx=>by
  have h:(wide a&&CV r)=true:=by simpa only [CV] using h
  rw[Qbg] at h;rcases QbK.mp hx with rfl | hx
  ·exact h.1
  ·exact Q7 h.2 x hx
theorem Fit.len {n:Nat} {ds:List PyData} (h:Fit n (.tuple ds)):ds.length<=900:=by
 have h:(decide (ds.length<=900)&&CV ds)=true:=by simpa only [wide] using h.wd
 rw[Qbg] at h;exact QaV h.1
theorem Fit.item {n:Nat} {ds:List PyData} (h:Fit (n+1) (.tuple ds)) {x:PyData} (hx:x∈ds):Fit n x:=by
 have h1:PyData.canLayAll0 ds=true:=h.lay;have h2:PyData.depthAll ds+1<=n+1:=h.dep;have h3:(decide (ds.length<=900)&&CV ds)=true:=by simpa only [wide] using h.wd
 rw[Qbg] at h3;exact⟨Mq h1 x hx,Mt (by omega) x hx,Q7 h3.2 x hx⟩
theorem Fit.mono {n m:Nat} {d:PyData} (h:Fit n d) (l:n<=m):Fit m d:=⟨h.lay,QbV h.dep l,h.wd⟩
theorem Fit.shaped {n:Nat} {d:PyData} (h:Fit n d) (l:n<=64):SeqAt.shaped d=true:=by
 show (d.canLay0&&decide (d.depth<=64))=true;rw[h.lay,QbF (QbV h.dep l)];rfl
theorem Ak.pair {H:Hp}:∀{xs:YG} {ds:List PyData},Ak H xs ds->Paired (Rep H) xs ds
 | _,_,.nil=>.nil
 | _,_,.cons a r=>.cons a (Ak.pair r)
mutual
theorem Rep.same {H H':Hp} (s:Same H H'):∀{v:V} {d:PyData},Rep H v d->Rep H' v d
 | _,_,.non=>.non
 | _,_,.bl b=>.bl b
 | _,_,.int i=>.int i
 | _,_,.str x=>.str x
 | _,_,.tup e r=>.tup (s _ _ e) (Ak.same s r)
 | _,_,.lst e r=>.lst (s _ _ e) (Ak.same s r)
theorem Ak.same {H H':Hp} (s:Same H H'):∀{vs:YG} {ds:List PyData},Ak H vs ds->Ak H' vs ds
 | _,_,.nil=>.nil
 | _,_,.cons a r=>.cons (Rep.same s a) (Ak.same s r)
end
theorem Ak.len {H:Hp} {xs:YG} {ds:List PyData} (h:Ak H xs ds):xs.length=ds.length:=QbN (Ak.pair h)
theorem Ak.at_ {H:Hp} {xs:YG} {ds:List PyData} (h:Ak H xs ds) {i:Nat} {x:V} (hx:xs[i]?=some x):∃d,ds[i]?=some d/\Rep H x d:=Kh (Ak.pair h) hx
def wiP (d:PyData) (lo hi:Int):Bool:=match d with
 | .int i=>decide (lo<=i)&&decide (i<=hi)
 | _=>false
def Di (d:PyData) (a b:Int):Bool:=match d with
 | .tuple ds=>decide (a<=ds.length)&&decide ((ds.length:Int)<=b)
 | _=>false
theorem Gg {H:Hp} {v:V} {d:PyData} (r:Rep H v d) (lo hi:Int):wiB v lo hi=wiP d lo hi:=by
 cases r <;> rfl
theorem Fd {H:Hp} {v:V} {d:PyData} (r:Rep H v d) (a b:Int):VB (Ij H v) a b=Di d a b:=by
 cases r with
 | tup e r=>
  rw[IW e];show (decide (a<=_)&&decide (_<=b))=_;rw[Ak.len r];rfl
 | lst e r=>rw[Ld e];rfl
 | _=>rfl
theorem Fb {H:Hp} {v:V} {d:PyData} (r:Rep H v d) {a b:Int} (h:Di d a b=true):∃t xs ds,v=.ref t/\d=.tuple ds/\H t=some (.tup xs)/\Ak H xs ds/\a<=ds.length/\(ds.length:Int)<=b:=by
 cases r with
 | tup e r=>
  have h:(decide _&&decide _)=true:=h;rw[Qbg] at h;exact⟨_,_,_,rq,rq,e,r,QaV h.1,QaV h.2⟩
 | _=>cases h
def Oz (ds:List PyData):Bool:=(adj ds).all λp=>match p with
 | (.int a,.int b)=>decide (a < b)
 | _=>false
def rwP (d:PyData) (a b lo hi:Int):Bool:=match d with
 | .tuple ds=>Di (.tuple ds) a b&&((ds.all λx=>wiP x lo hi)&&Oz ds)
 | _=>false
theorem ints_of:∀{ds:List PyData} {lo hi:Int},(ds.all λx=>wiP x lo hi)=true->∃gs:List Int,ds=gs.map PyData.int
 | [],_,_,_=>⟨[],rfl⟩
 | x::r,lo,hi,h=>by
  rw[List.all_cons,Qbg] at h;obtain⟨gs,e⟩:=ints_of h.2;cases x with
  | int i=>exact⟨i::gs,by rw[e];rfl⟩
  | _=>cases h.1
theorem Jq {H:Hp}:∀{xs:YG} {gs:List Int},Ak H xs (gs.map PyData.int)->xs=gs.map V.int
 | _,[],.nil=>rfl
 | _,g::r,.cons (.int _) t=>by rw[Jq t];rfl
theorem M9 (gs:List Int):Oz (gs.map PyData.int)=Hh gs:=by
 unfold Oz Hh adj;rw[<-List.map_tail,List.zip_map,QbY];rfl
def Ri:Sp:=λvs H Q _=>∃v a b lo hi d n,vs=[v,.int a,.int b,.int lo,.int hi]/\Rep H v d/\Fit n d/\∀H',Same H H'->Q (.bl (rwP d a b lo hi)) H'
section
variable {P:Program} {w:World} {K:YD} {mg:YB} {base:Heap}
theorem RQ (c:Code K mg "is_whole" Ke FQ) (T:Nm mg):Good P w K mg base "is_whole" 1 FQ Yr:=by
 refine c.good T9 (λvs H Q E h=>?_) (λf cdv A outer s H vs Q E hr h=>?_)
 ·obtain⟨v,rfl,_⟩:=h;rfl
 obtain⟨v,rfl,k,q⟩:=h;refine⟨_,(Aj (Av (Cg (Bc Gx rfl T.isinstance Dr (Aa (pv 0) (Aa (Hj (v:=.ty "int") rfl T.int LQ rfl) Ab))) (Cw (RJ (Bc Gx rfl T.isinstance Dr (Aa (pv 0) (Aa (Hj (v:=.ty "bool") rfl T.bool Vc rfl) Ab)))))))),?_⟩;refine⟨_,rq,bw k ⟨_,rq,?_⟩⟩;rw[fD] at q;cases e:isI v with
 | false=>rw[e] at q;exact Bu q
 | true=>rw[e] at q;exact Bj ⟨_,rfl,S5 e ⟨_,rfl,q⟩⟩
theorem Xo (c:Code K mg "is_row" M6 Dn) (T:Nm mg):Good P w K mg base "is_row" 1 Dn GK:=by
 refine c.good Xc (λvs H Q E h=>?_) (λf cdv A outer s H vs Q E hr h=>?_)
 ·obtain⟨v,a,b,rfl,_⟩:=h;rfl
 obtain⟨v,a,b,rfl,k,q⟩:=h;refine⟨_,(Aj (Av (Cg (Bc Gx rfl T.isinstance Dr (Aa (pv 0) (Aa (Hj (v:=.ty "tuple") rfl T.tuple Es rfl) Ab))) (Cw (Nb Mp Mp (pv 1) (Bc Bw rfl T.len Dk (Aa (pv 0) Ab)) (pv 2)))))),?_⟩;refine⟨_,rq,Qm k ⟨_,rq,?_⟩⟩;cases e:Ij H v with
 | none=>rw[e] at q;exact Bu q
 | some xs=>
  rw[e] at q;obtain⟨p,rfl,hp⟩:=Y8 e;refine Bj ⟨_,rq,_,rq,p,xs,rq,.inr (SqT.of hp),_,_,rq,rq,_,rq,?_⟩;by_cases h1:a<=(xs.length:Int)
  ·rw[QbF h1];refine Bj ⟨_,rq,_,_,rq,rq,?_⟩;simpa [VB,h1] using q
  ·rw[Qbu h1];refine Bu ?_;simpa [VB,h1] using q
theorem QC (c:Code K mg "is_within" Jz CJ) (T:Nm mg) (Ks:Good P w K mg base "is_whole" 1 FQ Yr):Good P w K mg base "is_within" 2 CJ Ka:=by
 refine c.good Rp (λvs H Q E h=>?_) (λf cdv A outer s H vs Q E hr h=>?_)
 ·obtain⟨v,lo,hi,rfl,_⟩:=h;rfl
 obtain⟨v,lo,hi,rfl,k,q⟩:=h;refine⟨_,(Aj (Av (Cg (Aw Ks hr (Aa (pv 0) Ab)) (Cw (Nb Mp Mp (pv 1) (pv 0) (pv 2)))))),?_⟩;refine⟨_,rq,v,rq,k,_,rq,?_⟩;cases ew:isW v with
 | false=>
  have:wiB v lo hi=false:=by cases v <;> first | rfl | cases ew
  rw[this] at q;exact Bu q
 | true=>
 obtain⟨x,rfl⟩:=bx ew;have q:Q (.bl (decide (lo<=x)&&decide (x<=hi))) H:=q;refine Bj ⟨_,rq,_,rq,_,_,rq,rq,_,rq,?_⟩;by_cases h1:lo<=x
 ·rw[QbF h1];rw[QbF h1,QbL] at q;exact Bj ⟨_,rq,_,_,rq,rq,q⟩
 ·rw[Qbu h1];rw[Qbu h1,Bool.false_and] at q;exact Bu q
abbrev xf:YF:=["one","other"]
theorem RW (c:Code K mg "is_rising" JB Fg) (T:Nm mg):Good P w K mg base "is_rising" 1 Fg Vv:=by
 refine c.good Rq (λvs H Q E h=>?_) (λf cdv A outer s H vs Q E hr h=>?_)
 ·obtain⟨t,gs,rfl,_⟩:=h;rfl
 obtain⟨t,gs,rfl,ht,few,q⟩:=h;refine⟨_,(Aj (Av (Bc (Gy rfl) rfl T.all Jo (Aa (CP (N':=xf) rfl (Ca.plain rfl (by trivial) (by trivial) (by trivial)) (iR (YX rfl T.zip (Aa (pv 0) (Aa (Dm Iw (pv 0) (Dl Ac) Fe) Ab))) (aL rfl T.zip (Aa (pv 0) (Aa (Dm Iz (pv 0) (Dl Ac) Fe) Ab)))) (λ_ _ _ _=>(IK (K:=K) (n:=2) rfl rfl (Bd (Ay (i:=0) (show List.Nodup (xf:YF) by trivial) rfl (Or.inl rfl)) (Bd (Ay (i:=1) (show List.Nodup (xf:YF) by trivial) rfl (Or.inl rfl)) CW)))) (λ_ _ _ _=>DX) (λ_ _ _ _=>(Cp Ml (pv 0) (pv 1) (Bg _)))) Ab)))),?_⟩;rcases ht with ht | ht
 ·refine .inl ⟨_,rq,_,rq,_,rq,t,_,rq,ht,λu H1 hu s1=>?_⟩;rw[Wm (α:=Unit),<-List.map_tail] at hu;have ht1:=s1 _ _ ht;refine⟨t,u,rq,⟨_,ht1⟩,⟨_,hu⟩,λl hl=>?_⟩;have q:∀H',Same H H'->Q (.bl ((adj gs).all λp=>decide (p.1 < p.2))) H':=q;have al:=Vi gs;refine Wn (xs:=gs.map V.int) (ys:=gs.tail.map V.int) (gs.length - 1) (by rw[Qbs];omega) (by rw[Qbs,Qbq];exact QbZ _) (.inr (by rw[Qbs,Qbq];exact QbZ _)) (λ(i:Nat) (σ : St) (HH:Hp)=>∃(u v:Option V),σ=[u,v]/\HH l=some (.lst ((((adj gs).take i).map λp=>decide (p.1 < p.2)).map V.bl))/\Same H1 HH) ⟨_,_,rq,Ad,Ae hl _⟩ (λi σ HH _ h=>?_) (λi x y p σ HH hx hy h hp=>?_) (fun σ HH h=>?_)
  ·obtain⟨u,v,rfl,e1,e2⟩:=h;exact⟨e2 _ _ ht1,e2 _ _ hu⟩
  ·obtain⟨u',v',rfl,e1,e2⟩:=h;rw[QaU] at hx hy;obtain⟨a,ha,rfl⟩:=Qan.mp hx;obtain⟨b,hb,rfl⟩:=Qan.mp hy;rw[List.getElem?_tail] at hb;have pr:=Ym ha hb;have hi:i < (adj gs).length:=(Qaf.mp pr).1;have s3:=Ae hp (.tup [.int a,.int b]);have h3:(upd HH p (.tup [.int a,.int b])) p=some (.tup [.int a,.int b]):=Ad;have e1':=s3 _ _ e1;have e2':=e2.trans s3;generalize upd HH p (.tup [.int a,.int b])=H3 at *;refine⟨p,_,rq,SqT.of h3,rq,_,_,rq,_,_,rq,rq,Bj ⟨_,rq,_,rq,_,_,rq,rq,_,e1',Bq (by rw[Qbs,Qbs,Qbi];omega),_,_,rq,?_,e2'.Cr Al.upd hl⟩⟩;rw[Ad,Qcg pr,Qbt,Qbt];rfl
  ·obtain⟨u',v',rfl,e1,e2⟩:=h;rw[<-al,Qbk] at e1;refine⟨l,_,rq,SqL.of e1,?_⟩;rw[all_map];exact q _ (s1.trans e2)
 ·refine .inr ⟨_,rq,_,rq,_,rq,t,_,rq,SqL.of ht,λu fu=>?_⟩;rw[Wm (α:=Unit),<-List.map_tail] at *;have s1:=Ae fu (.lst (gs.tail.map V.int));have hu:upd H u (.lst (gs.tail.map V.int)) u=some (.lst (gs.tail.map V.int)):=Ad;generalize upd H u (.lst (gs.tail.map V.int))=H1 at *;have ht1:=s1 _ _ ht;refine⟨t,u,rq,⟨_,SqL.of ht1⟩,⟨_,SqL.of hu⟩,λl hl=>?_⟩;have q:∀H',Same H H'->Q (.bl ((adj gs).all λp=>decide (p.1 < p.2))) H':=q;have al:=Vi gs;refine X8 (xs:=gs.map V.int) (ys:=gs.tail.map V.int) (gs.length - 1) (by rw[Qbs];omega) (by rw[Qbs,Qbq];exact QbZ _) (.inr (by rw[Qbs,Qbq];exact QbZ _)) (λ(i:Nat) (σ : St) (HH:Hp)=>∃(u v:Option V),σ=[u,v]/\HH l=some (.lst ((((adj gs).take i).map λp=>decide (p.1 < p.2)).map V.bl))/\Same H1 HH) ⟨_,_,rq,Ad,Ae hl _⟩ (λi σ HH _ h=>?_) (λi x y p σ HH hx hy h hp=>?_) (fun σ HH h=>?_)
  ·obtain⟨u,v,rfl,e1,e2⟩:=h;exact⟨SqL.of (e2 _ _ ht1),SqL.of (e2 _ _ hu)⟩
  ·obtain⟨u',v',rfl,e1,e2⟩:=h;rw[QaU] at hx hy;obtain⟨a,ha,rfl⟩:=Qan.mp hx;obtain⟨b,hb,rfl⟩:=Qan.mp hy;rw[List.getElem?_tail] at hb;have pr:=Ym ha hb;have hi:i < (adj gs).length:=(Qaf.mp pr).1;have s3:=Ae hp (.tup [.int a,.int b]);have h3:(upd HH p (.tup [.int a,.int b])) p=some (.tup [.int a,.int b]):=Ad;have e1':=s3 _ _ e1;have e2':=e2.trans s3;generalize upd HH p (.tup [.int a,.int b])=H3 at *;refine⟨p,_,rq,SqT.of h3,rq,_,_,rq,_,_,rq,rq,Bj ⟨_,rq,_,rq,_,_,rq,rq,_,e1',Bq (by rw[Qbs,Qbs,Qbi];omega),_,_,rq,?_,e2'.Cr Al.upd hl⟩⟩;rw[Ad,Qcg pr,Qbt,Qbt];rfl
  ·obtain⟨u',v',rfl,e1,e2⟩:=h;rw[<-al,Qbk] at e1;refine⟨l,_,rq,SqL.of e1,?_⟩;rw[all_map];exact q _ (s1.trans e2)
theorem Nf (c:Code K mg "are_rising_within" Dz Cu) (T:Nm mg) (Cd:Good P w K mg base "is_row" 1 Dn GK) (BL:Good P w K mg base "is_within" 2 CJ Ka) (JC:Good P w K mg base "is_rising" 1 Fg Vv):Good P w K mg base "are_rising_within" 3 Cu Ri:=by
 refine c.good Kd (λvs H Q E h=>?_) (λf cdv A outer s H vs Q E hr h=>?_)
 ·obtain⟨v,a,b,lo,hi,d,n,rfl,_⟩:=h;rfl
 obtain⟨v,a,b,lo,hi,d,n,rfl,rd,fit,q⟩:=h;refine⟨_,(Af (Bv (Dw (Dj (Aw Cd hr (Aa (pv 0) (Aa (pv 1) (Aa (pv 2) Ab)))))) (Aj (Av Df)) Bh)
 (Aj (Av (Cg (Bc (Gy rfl) rfl T.all Jo (Aa (CP (N':=["part","low","high"]) rfl (Ca.of (src:=[none,some 3,some 4]) (Ai Dz) Cu rfl rfl rfl (by trivial) (by trivial) (by trivial) rfl (by trivial)) (Eu (pv 0)) (λ_ _ _ _=>(Ay (i:=0) (show List.Nodup (["part","low","high"]:YF) by trivial) rfl (Or.inl rfl))) (λ_ _ _ _=>DX) (λ_ _ _ _=>(Aw BL hr (Aa (pv 0) (Aa (pv 1) (Aa (pv 2) Ab)))))) Ab)) (Cw (Aw JC hr (Aa (pv 0) Ab))))))),?_⟩
 show let R0:TS:=_;Az _ R0 _ _ _;intro R0;refine⟨_,rq,_,rq,_,rq,v,a,b,rq,rd.kn,_,rq,?_⟩;rw[Fd rd];cases eb:Di d a b with
 | false=>
  have:rwP d a b lo hi=false:=by
   unfold rwP;split
   ·rw[eb];rfl
   ·rfl
  rw[this] at q;exact Bj (q _ (Same.refl _))
 | true=>
  obtain⟨t,xs,ds,rfl,rfl,ht,rs,_,_⟩:=Fb rd eb;have lx:=Ak.len rs;have fl:=fit.len;have q:∀H',Same H H'->Q (.bl (Di (.tuple ds) a b&&((ds.all λx=>wiP x lo hi)&&Oz ds))) H':=q;rw[eb,QbL] at q;refine Bu ⟨_,rq,t,rq,⟨_,SqT.of ht⟩,λl hl=>?_⟩;let J0:YN:=λ(i:Nat) (σ : St) (HH:Hp)=>∃(u:Option V),σ=[u,some (.int lo),some (.int hi)]/\HH l=some (.lst (((ds.take i).map λg=>wiP g lo hi).map V.bl))/\Same H HH;refine Ec (xs:=xs) J0 ⟨_,rq,Ad,Ae hl _⟩ (λi σ HH _ h=>?_) (λi x σ HH hx h=>?_) (fun σ HH h=>?_)
  ·obtain⟨u,rfl,e1,e2⟩:=h;exact SqT.of (e2 _ _ ht)
  ·obtain⟨u,rfl,e1,e2⟩:=h;obtain⟨g,hg,rg⟩:=Ak.at_ rs hx;have hi':i < ds.length:=(Qaf.mp hg).1;refine Gv (Bj ⟨_,rq,_,rq,_,rq,x,_,_,rq,(Rep.same e2 rg).kn,_,e1,Bq (by rw[Qbs,Qbs,Qbi];omega),_,rq,?_,e2.Cr Al.upd hl⟩);rw[Ad,Qcg hg,Qbt,Qbt,Gg rg];rfl
  obtain⟨u,rfl,e1,e2⟩:=h;rw[lx,Qbk] at e1;refine⟨l,_,rq,SqL.of e1,_,rq,?_⟩;rw[all_map];cases ea:ds.all λg=>wiP g lo hi with
  | false=>rw[ea] at q;exact Bu (q _ e2)
  | true=>
   obtain⟨gs,eg⟩:=ints_of ea;rw[ea,QbL] at q;subst eg;have ex:=Jq rs;subst ex;rw[M9] at q;rw[Qbs] at fl;exact Bj ⟨_,rq,t,gs,rq,.inl (e2 _ _ ht),by omega,λH' s'=>q _ (e2.trans s')⟩
end
abbrev Kf:Stmt:=top 47
abbrev G4:YF:=FQ
theorem Ua:Bo FQ G4 (Ai Kf):=by ac_rfl
abbrev Ht:Stmt:=top 56
abbrev Gj:YF:=["numbers","at"]
theorem Ru:Bo Gj Gj (Ai Ht):=by ac_rfl
abbrev Hf:Stmt:=top 57
abbrev Ek:YF:=["thing","at"]
theorem Jp:Bo ["thing","at","word"] Ek (Ai Hf):=by ac_rfl
structure Tc (mg:YB):Prop extends Nm mg where
 MOST_ROWS:∃u,mg "MOST_ROWS"=some u/\RelV (.int 320) u
 MOST_OUTS:∃u,mg "MOST_OUTS"=some u/\RelV (.int 16) u
 MOST_AHEAD:∃u,mg "MOST_AHEAD"=some u/\RelV (.int 20) u
theorem Fit.item' {n:Nat} {ds:List PyData} (h:Fit n (.tuple ds)) {x:PyData} (hx:x∈ds):Fit n x:=by
 have hd:PyData.depthAll ds+1<=n:=h.dep;obtain⟨k,rfl⟩ : ∃k,n=k+1:=⟨n - 1,by omega⟩;exact (h.item hx).mono (Nat.le_succ _)
def isS:V->Bool
 | .str _=>true
 | _=>false
theorem SX {K:YD} {H:Hp} {x:V} {Q:VK} (k:Kn H x) (q:Q (.bl (isS x)) H):Ig K [x,.ty "str"] H Q:=by
 unfold Ig;cases x with
 | non=>exact⟨_,_,_,_,rfl,.non,by rfl,q⟩
 | bl b=>exact⟨_,_,_,_,rfl,.bl b,by rfl,q⟩
 | int i=>exact⟨_,_,_,_,rfl,.int i,by rfl,q⟩
 | str z=>exact⟨_,_,_,_,rfl,.str z,by rfl,q⟩
 | ref a=>
  rcases k with⟨xs,e⟩|⟨xs,e⟩
  ·exact⟨_,_,_,_,rq,.lst e,by rfl,q⟩
  ·exact⟨_,_,_,_,rq,.tup e,by rfl,q⟩
 | _=>exact k.elim
theorem QZ {α : Type} {l:List α} (h:(2:Int)<=l.length) (h':(l.length:Int)<=2):∃a b,l=[a,b]:=by
 match l,h,h' with
 | [a,b],_,_=>exact⟨a,b,rfl⟩
 | [],h,_=>simp at h
 | [_],h,_=>simp at h
 | _::_::_::_,_,h=>simp at h;omega
theorem Z4 {α : Type} {l:List α} (h:(3:Int)<=l.length) (h':(l.length:Int)<=3):∃a b c,l=[a,b,c]:=by
 match l,h,h' with
 | [a,b,c],_,_=>exact⟨a,b,c,rfl⟩
 | [],h,_=>simp at h
 | [_],h,_=>simp at h
 | [_,_],h,_=>simp at h
 | _::_::_::_::_,_,h=>simp at h;omega
theorem Ox {d:PyData} (h:Di d 2 2=false):∀a b,d≠.tuple [a,b]:=λa b e=>by
 rw[e] at h;have h:(decide ((2:Int)<=2)&&decide ((2:Int)<=2))=false:=h;exact absurd h (by decide)
theorem aG {d:PyData} (h:Di d 3 3=false):∀a b c,d≠.tuple [a,b,c]:=λa b c e=>by
 rw[e] at h;have h:(decide ((3:Int)<=3)&&decide ((3:Int)<=3))=false:=h;exact absurd h (by decide)
theorem Yd {K:YD} {a l:Addr} {xs:YG} {ds:List PyData} {fb:PyData->Bool} {te:TE} {Q:VK} {r:St} {H:Hp} (hl:H l=none) (ha:H a=some (.tup xs)) (rs:Ak H xs ds) (h9:ds.length<=900)
  (hs:∀(x:V) (d:PyData) (HH:Hp),d∈ds->Rep HH x d->Same H HH->∀R:VK,(∀H',Same HH H'->R (.bl (fb d)) H')->te (some x::r) HH R)
  (hq:∀H',H' l=some (.lst ((ds.map fb).map V.bl))->Same H H'->Q (.ref l) H'):Ef (Itt K a) (Jt 0) (λ_ H Q=>Q true H) te Q (none::r) (upd H l (.lst [])) l:=by
 have lx:=Ak.len rs;let J0:YN:=λi σ HH=>∃u,σ=u::r/\HH l=some (.lst (((ds.take i).map fb).map V.bl))/\Same H HH;refine Ec (xs:=xs) J0 ⟨_,rq,Ad,Ae hl _⟩ (λi σ HH _ h=>?_) (λi x σ HH hx h=>?_) (fun σ HH h=>?_)
 ·obtain⟨u,rfl,_,s⟩:=h;exact SqT.of (s _ _ ha)
 ·obtain⟨u,rfl,e,s⟩:=h;obtain⟨d,hd,rd⟩:=Ak.at_ rs hx;have hi:=(Qaf.mp hd).1;unfold Jt;dsimp only;refine Bj (hs x d HH (Qau hd) (Rep.same s rd) s _ λH' s'=>⟨_,s' _ _ e,Bq (by rw[Qbs,Qbs,Qbi];omega),_,rq,?_,(s.trans s').Cr Al.upd hl⟩);rw[Ad,Qcg hd,Qbt,Qbt];rfl
 ·obtain⟨u,rfl,e,s⟩:=h;rw[lx,Qbk] at e;exact hq _ e s
def Le (fb:PyData->Bool):Sp:=λvs H Q _=>∃v d,vs=[v]/\Rep H v d/\Fit 64 d/\∀H',Same H H'->Q (.bl (fb d)) H'
theorem ifN {a b:Int} {A B:Prop} (h1:a=b->A) (h2:a≠b->B):if decide (V.int a=V.int b)=true then A else B:=by
 by_cases h:a=b
 ·subst h;rw[QbF rfl];exact Bj (h1 rfl)
 ·rw[Qbu (λz=>h (by injection z))];exact Bu (h2 h)
theorem ifS {a b:Str} {A B:Prop} (h1:a=b->A) (h2:a≠b->B):if decide (V.str a=V.str b)=true then A else B:=by
 by_cases h:a=b
 ·subst h;rw[QbF rfl];exact Bj (h1 rfl)
 ·rw[Qbu (λz=>h (by injection z))];exact Bu (h2 h)
def eqS (d:PyData) (z:Str):Bool:=PyData.eqv d (.str z)
theorem U4 {d:PyData} {y:Str}:eqS d y=true ↔ d=.str y:=by
 cases d with
 | str z=>
  show (z == y)=true ↔ _;constructor
  ·intro h;rw[eq_of_beq h]
  ·intro h;cases h;exact beq_self_eq_true _
 | _=>exact⟨(λh=>by cases h),(λh=>by cases h)⟩
theorem fY {d:PyData} {y:Str} (h:d≠.str y):eqS d y=false:=by
 cases e:eqS d y with
 | false=>rfl
 | true=>exact absurd (U4.mp e) h
theorem P0 {z y:Str} (h:z≠y):eqS (.str z) y=false:=fY (λe=>h (by injection e))
theorem FJ (y:Str):eqS (.str y) y=true:=U4.mpr rfl
def aoP (d:PyData):Bool:=[PyData.str "and",.str "or"].any λz=>PyData.eqv z d
theorem Vg {d:PyData}:aoP d=true ↔ d=.str "and"\/d=.str "or":=by
 have key:∀(y:Str) (d:PyData),PyData.eqv (.str y) d=true ↔ d=.str y:=λy d=>by
  cases d with
  | str z=>
   show (y == z)=true ↔ _;constructor
   ·intro h;rw[eq_of_beq h]
   ·intro h;cases h;exact beq_self_eq_true _
  | _=>exact⟨(λh=>by cases h),(λh=>by cases h)⟩
 unfold aoP;simp only[QbR,List.any_nil,Bool.or_false,Bool.or_eq_true,key]
def Fv (d:PyData):Bool:=match d with
 | .tuple [k,n]=>eqS k "key"&&wiP n 0 9
 | .tuple [k,a,b]=>eqS k "hours"&&(wiP a 0 23&&wiP b 0 23)
 | _=>false
theorem dF {k:PyData} {r:List PyData} (h:Di (.tuple (k::r)) 2 4=true):1<=r.length/\r.length<=3:=by
 have h:(decide ((2:Int)<=((k::r).length:Nat))&&decide ((((k::r).length:Nat):Int)<=4))=true:=h;rw[Qbg] at h;have h1:=QaV h.1;have h2:=QaV h.2;rw[Qbj] at h1 h2;omega
def Ez (at_:Int) (ds:List PyData):Bool:=ds.all λd=>wiP d 0 (at_ - 1)
def N8 (r:List PyData):Bool:=match r with
 | [n,a]=>wiP n 1 9&&rwP a 1 30 1 99
 | _=>false
def Ik (at_:Int) (r:List PyData):Bool:=match r with
 | [a,b,c]=>Ez at_ [a,b]&&wiP c 1 20
 | _=>false
def trR (at_:Int) (k:PyData) (r:List PyData):Bool:=
 if eqS k "many"=true then N8 r else if eqS k "not"=true then decide (r.length=1)&&Ez at_ r
 else if aoP k=true then decide (r.length=2)&&Ez at_ r else if eqS k "then"=true then Ik at_ r else Fv (.tuple (k::r))
def trP (at_:Int) (d:PyData):Bool:=match d with
 | .tuple (k::r)=>Di d 2 4&&trR at_ k r
 | _=>false
def cY:Sp:=λvs H Q _=>∃(t:Addr) (a:Int) (xs:YG) (ds:List PyData) (G:Hp),vs=[.ref t,.int a]/\H t=some (.tup xs)/\Same G H/\Ak G xs ds/\ds.length<=900/\∀H',Same H H'->Q (.bl (Ez a ds)) H'
def cW:Sp:=λvs H Q _=>∃(v:V) (d:PyData) (a:Int),vs=[v,.int a]/\Rep H v d/\Fit 64 d/\∀H',Same H H'->Q (.bl (trP a d)) H'
theorem gj {x:V} {r:YG} {n:Nat} (h:n<=r.length):Cy (x::r) (some 1) (some ((n+1:Nat):Int))=r.take n:=by
 unfold Cy;rw[show (some (1:Int))=some ((1:Nat):Int) from rfl,HT.Hg,HT.Hg,Qbz (by rw[Qbj];omega),Qbz (by rw[Qbj];omega)]
 rfl
theorem Ak.ZQ {H:Hp}:∀{xs:YG} {ds:List PyData} (n:Nat),Ak H xs ds->Ak H (xs.take n) (ds.take n)
 | _,_,0,_=>.nil
 | _,_,_+1,.nil=>.nil
 | _,_,n+1,.cons a r=>.cons a (Ak.ZQ n r)
section
variable {P:Program} {w:World} {K:YD} {mg:YB} {base:Heap}
theorem Ud (C:Code K mg "is_plain" Kf G4) (T:Tc mg) (Cd:Good P w K mg base "is_row" 1 Dn GK) (BL:Good P w K mg base "is_within" 2 CJ Ka):Good P w K mg base "is_plain" 3 G4 (Le Fv):=by
 refine C.good Ua (λvs H Q E h=>?_) (λf cdv A outer s H vs Q E hr h=>?_)
 ·obtain⟨v,d,rfl,_⟩:=h;rfl
 obtain⟨v,d,rfl,rd,fit,q⟩:=h;refine⟨_,(Af (Bv (Dj (Aw Cd hr (Aa (pv 0) (Aa Ac (Aa Ac Ab))))) (Aj (Av (Cg (Cp (HF hr.units) (Ao Ba (pv 0) Ac (λ_ _=>rfl)) Bf (Bg _)) (Cw (Aw BL hr (Aa (Ao Ba (pv 0) Ac (λ_ _=>rfl)) (Aa Ac (Aa Ac Ab)))))))) Bh)
 (Af (Bv (Dj (Aw Cd hr (Aa (pv 0) (Aa Ac (Aa Ac Ab))))) (Aj (Av (Cg (Cp (HF hr.units) (Ao Ba (pv 0) Ac (λ_ _=>rfl)) Bf (Bg _)) (Cg (Aw BL hr (Aa (Ao Ba (pv 0) Ac (λ_ _=>rfl)) (Aa Ac (Aa Ac Ab)))) (Cw (Aw BL hr (Aa (Ao Ba (pv 0) Ac (λ_ _=>rfl)) (Aa Ac (Aa Ac Ab))))))))) Bh)
 (Aj (Av Df)))),?_⟩
 show let R0:TS:=_;let R1:TS:=Az (CQ _ R0 _) _;let R2:TS:=_;Az (CQ _ R2 _) R1 _ _ _;intro R0 R1 R2;have q0:=q _ (Same.refl _);have sS:∀z:Str,PyData.strOk z=true->SeqAt.shaped (.str z)=true:=λz hz=>by
  show (PyData.strOk z&&decide (0<=64))=true;rw[hz];rfl
 refine⟨_,rq,v,2,2,rq,rd.kn,_,rq,?_⟩;rw[Fd rd];cases e2:Di d 2 2 with
 | true=>
  obtain⟨t,xs,ds,rfl,rfl,ht,rs,h1,h2⟩:=Fb rd e2;obtain⟨k,n,rfl⟩:=QZ h1 h2;cases rs with
  | cons rk rs=>
  cases rs with
  | cons rn rs=>
  cases rs;have q0:Q (.bl (eqS k "key"&&wiP n 0 9)) H:=q0;refine Bj ⟨_,rq,t,_,_,_,rq,rq,SqT.of ht,Ah (j:=0) rfl,k,.str "key",rk,.str _,(fit.item' (QaI ..)).shaped (QbZ _),sS _ (by trivial),_,rq,?_⟩;show if eqS k "key"=true then _ else _
  cases ek:eqS k "key" with
  | false=>rw[ek] at q0;exact Bu q0
  | true=>
   rw[ek,QbL] at q0;refine Bj ⟨_,rq,t,_,_,_,rq,rq,SqT.of ht,Ah (j:=1) rfl,_,0,9,rq,rn.kn,?_⟩;rw[Gg rn];exact q0
 | false=>
 refine Bu ⟨_,rq,v,3,3,rq,rd.kn,_,rq,?_⟩;rw[Fd rd];cases e3:Di d 3 3 with
 | true=>
  obtain⟨t,xs,ds,rfl,rfl,ht,rs,h1,h2⟩:=Fb rd e3;obtain⟨k,a,b,rfl⟩:=Z4 h1 h2;cases rs with
  | cons rk rs=>
  cases rs with
  | cons ra rs=>
  cases rs with
  | cons rb rs=>
  cases rs;have q0:Q (.bl (eqS k "hours"&&(wiP a 0 23&&wiP b 0 23))) H:=q0;refine Bj ⟨_,rq,t,_,_,_,rq,rq,SqT.of ht,Ah (j:=0) rfl,k,.str "hours",rk,.str _,(fit.item' (QaI ..)).shaped (QbZ _),sS _ (by trivial),_,rq,?_⟩;show if eqS k "hours"=true then _ else _
  cases ek:eqS k "hours" with
  | false=>rw[ek] at q0;exact Bu q0
  | true=>
   rw[ek,QbL] at q0;refine Bj ⟨_,rq,t,_,_,_,rq,rq,SqT.of ht,Ah (j:=1) rfl,_,0,23,rq,ra.kn,_,rq,?_⟩;rw[Gg ra];cases ea:wiP a 0 23 with
   | false=>rw[ea] at q0;exact Bu q0
   | true=>
    rw[ea,QbL] at q0;refine Bj ⟨_,rq,t,_,_,_,rq,rq,SqT.of ht,Ah (j:=2) rfl,_,0,23,rq,rb.kn,?_⟩;rw[Gg rb];exact q0
 | false=>
  have:Fv d=false:=by
   unfold Fv;split
   ·exact absurd rfl (Ox e2 _ _)
   ·exact absurd rfl (aG e3 _ _ _)
   ·rfl
  rw[this] at q0;exact Bu q0
theorem RX (C:Code K mg "are_ahead" Ht Gj) (T:Tc mg) (BL:Good P w K mg base "is_within" 2 CJ Ka):Good P w K mg base "are_ahead" 3 Gj cY:=by
 refine C.good Ru (λvs H Q E h=>?_) (λf cdv A outer s H vs Q E hr h=>?_)
 ·obtain⟨t,a,xs,ds,G,rfl,_⟩:=h;rfl
 obtain⟨t,a,xs,ds,G,rfl,ht,sG,rs,fl,q⟩:=h;refine⟨_,(Aj (Av (Bc (Gy rfl) rfl T.all Jo (Aa (CP (N':=["number","at"]) rfl (Ca.of (src:=[none,some 1]) (Ai Ht) Gj rfl rfl rfl (by trivial) (by trivial) (by trivial) rfl (by trivial)) (Eu (pv 0)) (λ_ _ _ _=>(Ay (i:=0) (show List.Nodup (["number","at"]:YF) by trivial) rfl (Or.inl rfl))) (λ_ _ _ _=>DX) (λ_ _ _ _=>(Aw BL hr (Aa (pv 0) (Aa Ac (Aa (Ax Gm (pv 1) Ac) Ab)))))) Ab)))),?_⟩;have lx:=Ak.len rs;refine⟨_,rq,t,rq,⟨_,SqT.of ht⟩,λl hl=>?_⟩;let J1:YN:=λ(i:Nat) (σ : St) (HH:Hp)=>∃(u:Option V),σ=[u,some (.int a)]/\HH l=some (.lst (((ds.take i).map λg=>wiP g 0 (a - 1)).map V.bl))/\Same H HH;refine Ec (xs:=xs) J1 ⟨_,rq,Ad,Ae hl _⟩ (λi σ HH _ h=>?_) (λi x σ HH hx h=>?_) (fun σ HH h=>?_)
 ·obtain⟨u,rfl,e1,e2⟩:=h;exact SqT.of (e2 _ _ ht)
 ·obtain⟨u,rfl,e1,e2⟩:=h;obtain⟨g,hg,rg⟩:=Ak.at_ rs hx;have hi':i < ds.length:=(Qaf.mp hg).1;have rg':=Rep.same (sG.trans e2) rg;refine Gv (Bj ⟨_,rq,_,rq,_,_,rq,rq,x,_,_,rq,rg'.kn,_,e1,Bq (by rw[Qbs,Qbs,Qbi];omega),_,rq,?_,e2.Cr Al.upd hl⟩);rw[Ad,Qcg hg,Qbt,Qbt,Gg rg'];rfl
 obtain⟨u,rfl,e1,e2⟩:=h;rw[lx,Qbk] at e1;refine⟨l,_,rq,SqL.of e1,?_⟩;rw[all_map];exact q _ e2
theorem RN (C:Code K mg "is_table_row" Hf Ek) (T:Tc mg) (Cd:Good P w K mg base "is_row" 1 Dn GK) (BL:Good P w K mg base "is_within" 2 CJ Ka) (DG:Good P w K mg base "are_rising_within" 3 Cu Ri) (JD:Good P w K mg base "are_ahead" 3 Gj cY) (Wg:Good P w K mg base "is_plain" 3 G4 (Le Fv)):Good P w K mg base "is_table_row" 4 Ek cW:=by
 refine C.good Jp (λvs H Q E h=>?_) (λf cdv A outer s H vs Q E hr h=>?_)
 ·obtain⟨v,d,at_,rfl,_⟩:=h;rfl
 obtain⟨v,d,at_,rfl,rd,fit,q⟩:=h;refine⟨_,(@Af _ _ _ _ _ (Bv (Dw (Dj (Aw Cd hr (Aa (pv 0) (Aa Ac (Aa Ac Ab)))))) (@Aj _ _ _ (@Av _ _ _ _ Df)) Bh)
 (@Af _ _ _ _ _ (@BZ _ _ 2 _ _ _ _ Jp.nd rfl (Or.inl rfl) (@Ao _ _ _ _ _ _ _ Ba (pv 0) Ac (λ_ _=>rfl)) (by rfl) (by first | exact .inl rfl | exact .inr rfl))
 (@Af _ _ _ _ _ (Bv (Bm (HF hr.units) (pv 2) Bf (Bg _)) (@Aj _ _ _ (@Av _ _ _ _ (Cg (Cp Dg (Bc Bw rfl T.len Dk (Aa (pv 0) Ab)) Ac (Bg _)) (Cg (Aw BL hr (Aa (@Ao _ _ _ _ _ _ _ Ba (pv 0) Ac (λ_ _=>rfl)) (Aa Ac (Aa Ac Ab)))) (Cw (Aw DG hr (@Aa _ _ _ _ _ (@Ao _ _ _ _ _ _ _ Ba (pv 0) Ac (λ_ _=>rfl)) (@Aa _ _ _ _ _ (@Ac _ _ _ _) (@Aa _ _ _ _ _ (@Ac _ _ _ _) (@Aa _ _ _ _ _ (@Ac _ _ _ _) (@Aa _ _ _ _ _ (@Ac _ _ _ _) (@Ab _) BW) BW) BW) BW) cV))))))) Bh)
 (@Af _ _ _ _ _ (Bv (Bm (HF hr.units) (pv 2) Bf (Bg _)) (@Aj _ _ _ (@Av _ _ _ _ (Cg (Cp Dg (Bc Bw rfl T.len Dk (Aa (pv 0) Ab)) Ac (Bg _)) (Cw (Aw JD hr (Aa (Dm Iw (pv 0) (Dl Ac) Fe) (Aa (pv 1) Ab))))))) Bh)
 (@Af _ _ _ _ _ (Bv (Bm (aU (K:=K) rfl hr.cL) (pv 2) (Aq (Aa Bf (Aa Bf Ab))) (by with_unfolding_all rfl)) (@Aj _ _ _ (@Av _ _ _ _ (Cg (Cp Dg (Bc Bw rfl T.len Dk (Aa (pv 0) Ab)) Ac (Bg _)) (Cw (Aw JD hr (Aa (Dm Iw (pv 0) (Dl Ac) Fe) (Aa (pv 1) Ab))))))) Bh)
 (@Af _ _ _ _ _ (Bv (Bm (HF hr.units) (pv 2) Bf (Bg _)) (@Aj _ _ _ (@Av _ _ _ _ (Cg (Cp Dg (Bc Bw rfl T.len Dk (Aa (pv 0) Ab)) Ac (Bg _)) (Cg (Aw JD hr (Aa (Dm Iw (pv 0) (Dl Ac) (Dl Ac)) (Aa (pv 1) Ab))) (Cw (Aw BL hr (Aa (@Ao _ _ _ _ _ _ _ Ba (pv 0) Ac (λ_ _=>rfl)) (Aa Ac (Aa (Hz rfl T.MOST_AHEAD) Ab))))))))) Bh)
 (@Aj _ _ _ (@Av _ _ _ _ (Aw Wg hr (Aa (pv 0) Ab)))))))))),?_⟩
 show let R0:TS:=_;let R1:TS:=_;let R2:TS:=Az (CQ _ R1 _) R0;let R3:TS:=_;let R4:TS:=Az (CQ _ R3 _) R2;let R5:TS:=_;let R6:TS:=Az (CQ _ R5 _) R4;let R7:TS:=_;let R8:TS:=Az (CQ _ R7 _) R6;let R9:TS:=Az _ R8;Az _ R9 _ _ _;intro R0 R1 R2 R3 R4 R5 R6 R7 R8 R9;have sS:∀z:Str,PyData.strOk z=true->SeqAt.shaped (.str z)=true:=λz hz=>by
  show (PyData.strOk z&&decide (0<=64))=true;rw[hz];rfl
 refine⟨_,rq,v,2,4,rq,rd.kn,_,rq,?_⟩;rw[Fd rd];cases e0:Di d 2 4 with
 | false=>
  have:trP at_ d=false:=by
   unfold trP;split
   ·rw[e0];rfl
   ·rfl
  rw[this] at q;exact Bj (q _ (Same.refl _))
 | true=>
 obtain⟨t,xs,ds,rfl,rfl,ht,rs,h1,h2⟩:=Fb rd e0;cases rs with
 | nil=>exact absurd h1 (by decide)
 | @cons x0 k xr r rk rs=>
 obtain⟨r1,r3⟩:=dF e0;have lr:=Ak.len rs;have q:∀H',Same H H'->Q (.bl (trR at_ k r)) H':=λH' s'=>by
  have:=q H' s';have e:trP at_ (.tuple (k::r))=trR at_ k r:=by
   show (Di (.tuple (k::r)) 2 4&&trR at_ k r)=trR at_ k r;rw[e0,QbL]
  rw[e] at this;exact this
 have sk:SeqAt.shaped k=true:=(fit.item' (QaI ..)).shaped (QbZ _);have fr:∀x∈r,Fit 64 x:=λx hx=>fit.item' (Qav _ hx);have len1:(((x0::xr).length:Nat):Int)=(r.length:Int)+1:=by rw[Qbj,lr];omega
 have gb:Cy (x0::xr) (some 1) none=xr:=by
  unfold Cy;rw[HT.Kg,show (some (1:Int))=some ((1:Nat):Int) from rfl,HT.Hg,Qbz (by rw[Qbj];omega)]
  exact Qao (by rw[Qbj];show xr.length<=_;omega)
 refine Bu ⟨_,rq,t,_,_,_,rq,rq,SqT.of ht,Ah (j:=0) rfl,?_⟩;refine⟨_,rq,k,.str "many",rk,.str _,sk,sS _ (by trivial),_,rq,?_⟩;show if eqS k "many"=true then _ else _
 unfold trR at q;cases e1:eqS k "many" with
 | true=>
  have q:∀H',Same H H'->Q (.bl (N8 r)) H':=λH' s'=>by have:=q H' s';rw[e1,if_pos rfl] at this;exact this
  refine Bj ⟨_,rq,t,_,rq,.inr (SqT.of ht),rq,_,rq,ifN (λhl=>?_) (λhl=>?_)⟩
  ·rw[len1] at hl;obtain⟨n,z,rfl⟩:=QZ (l:=r) (by omega) (by omega);cases rs with
   | cons rn rs=>
   cases rs with
   | cons rz rs=>
   cases rs;have q:∀H',Same H H'->Q (.bl (wiP n 1 9&&rwP z 1 30 1 99)) H':=q;refine⟨_,rq,t,_,_,_,rq,rq,SqT.of ht,Ah (j:=1) rfl,_,1,9,rq,rn.kn,_,rq,?_⟩;rw[Gg rn];cases ew:wiP n 1 9 with
   | false=>rw[ew] at q;exact Bu (q _ (Same.refl _))
   | true=>
    rw[ew,QbL] at q;exact Bj ⟨_,rq,t,_,_,_,rq,rq,SqT.of ht,Ah (j:=2) rfl,_,1,30,1,99,z,64,rq,rz,fr z (by simp),q⟩
  ·rw[len1] at hl;have:N8 r=false:=by
    unfold N8;split
    ·exact absurd rfl hl
    ·rfl
   rw[this] at q;exact q _ (Same.refl _)
 | false=>
 have q:∀H',Same H H'->Q (.bl (if eqS k "not"=true then decide (r.length=1)&&Ez at_ r else if aoP k=true then decide (r.length=2)&&Ez at_ r else if eqS k "then"=true then Ik at_ r else Fv (.tuple (k::r)))) H':=λH' s'=>by have:=q H' s';rw[e1,if_neg (by decide)] at this;exact this
 refine Bu ⟨_,rq,k,.str "not",rk,.str _,sk,sS _ (by trivial),_,rq,?_⟩;show if eqS k "not"=true then _ else _
 cases e2:eqS k "not" with
 | true=>
  have q:∀H',Same H H'->Q (.bl (decide (r.length=1)&&Ez at_ r)) H':=λH' s'=>by have:=q H' s';rw[e2,if_pos rfl] at this;exact this
  refine Bj ⟨_,rq,t,_,rq,.inr (SqT.of ht),rq,_,rq,ifN (λhl=>?_) (λhl=>?_)⟩
  ·rw[len1] at hl;rw[QbF (show r.length=1 by omega),QbL] at q;refine⟨_,rq,_,rq,t,_,rq,ht,λp H1 hp s1=>⟨_,rq,p,at_,_,r,H,rq,hp,s1,?_,by omega,λH2 s2=>q _ (s1.trans s2)⟩⟩;rw[gb];exact rs
  ·rw[len1] at hl;rw[Qbu (show ¬r.length=1 by omega),Bool.false_and] at q;exact q _ (Same.refl _)
 | false=>
 have q:∀H',Same H H'->Q (.bl (if aoP k=true then decide (r.length=2)&&Ez at_ r else if eqS k "then"=true then Ik at_ r else Fv (.tuple (k::r)))) H':=λH' s'=>by have:=q H' s';rw[e2,if_neg (by decide)] at this;exact this
 refine Bu ⟨_,rq,Ag (by show 2<=1000;decide),λp hp=>?_⟩;have sp:=Ae hp (.tup [.str "and",.str "or"]);have cp:upd H p (.tup [.str "and",.str "or"]) p=some (.tup [.str "and",.str "or"]):=Ad;generalize upd H p (.tup [.str "and",.str "or"])=H1 at *;have ht1:=sp _ _ ht;have q:∀H',Same H1 H'->Q (.bl (if aoP k=true then decide (r.length=2)&&Ez at_ r else if eqS k "then"=true then Ik at_ r else Fv (.tuple (k::r)))) H':=λH' s'=>q H' (sp.trans s')
 refine⟨p,_,k,[.str "and",.str "or"],rq,SqT.of cp,.cons (.str _) (.cons (.str _) .nil),Rep.same sp rk,sk,by trivial,_,rq,?_⟩;show if aoP k=true then _ else _
 cases e3:aoP k with
 | true=>
  have q:∀H',Same H1 H'->Q (.bl (decide (r.length=2)&&Ez at_ r)) H':=λH' s'=>by have:=q H' s';rw[e3,if_pos rfl] at this;exact this
  refine Bj ⟨_,rq,t,_,rq,.inr (SqT.of ht1),rq,_,rq,ifN (λhl=>?_) (λhl=>?_)⟩
  ·rw[len1] at hl;rw[QbF (show r.length=2 by omega),QbL] at q;refine⟨_,rq,_,rq,t,_,rq,ht1,λp H2 hp s2=>⟨_,rq,p,at_,_,r,H,rq,hp,sp.trans s2,?_,by omega,λH3 s3=>q _ (s2.trans s3)⟩⟩;rw[gb];exact rs
  ·rw[len1] at hl;rw[Qbu (show ¬r.length=2 by omega),Bool.false_and] at q;exact q _ (Same.refl _)
 | false=>
 have q:∀H',Same H1 H'->Q (.bl (if eqS k "then"=true then Ik at_ r else Fv (.tuple (k::r)))) H':=λH' s'=>by have:=q H' s';rw[e3,if_neg (by decide)] at this;exact this
 refine Bu ⟨_,rq,k,.str "then",Rep.same sp rk,.str _,sk,sS _ (by trivial),_,rq,?_⟩;show if eqS k "then"=true then _ else _
 cases e4:eqS k "then" with
 | true=>
  have q:∀H',Same H1 H'->Q (.bl (Ik at_ r)) H':=λH' s'=>by have:=q H' s';rw[e4,if_pos rfl] at this;exact this
  refine Bj ⟨_,rq,t,_,rq,.inr (SqT.of ht1),rq,_,rq,ifN (λhl=>?_) (λhl=>?_)⟩
  ·rw[len1] at hl;obtain⟨a,b,c,rfl⟩:=Z4 (l:=r) (by omega) (by omega);have rs0:=rs;cases rs with
   | cons ra rs=>
   cases rs with
   | cons rb rs=>
   cases rs with
   | cons rc rs=>
   cases rs;have q:∀H',Same H1 H'->Q (.bl (Ez at_ [a,b]&&wiP c 1 20)) H':=q;refine⟨_,rq,_,rq,_,rq,t,_,rq,ht1,λp H2 hp s2=>⟨_,rq,p,at_,_,[a,b],H,rq,hp,sp.trans s2,?_,by show 2<=900;decide,λH3 s3=>⟨_,rq,?_⟩⟩⟩
   ·have ec:=gj (x:=x0) (n:=2) (r:=_) (by rw[Ak.len rs0];show 2<=3;decide);rw[show (some (3:Int))=some ((2+1:Nat):Int) from rfl,ec]
    exact Ak.ZQ 2 rs0
   cases ea:Ez at_ [a,b] with
   | false=>rw[ea] at q;exact Bu (q _ (s2.trans s3))
   | true=>
    rw[ea,QbL] at q;have rc3:=Rep.same (sp.trans (s2.trans s3)) rc;refine Bj ⟨_,rq,t,_,_,_,rq,rq,SqT.of ((s2.trans s3) _ _ ht1),Ah (j:=3) rfl,_,1,20,rq,rc3.kn,?_⟩;rw[Gg rc3];exact q _ (s2.trans s3)
  ·rw[len1] at hl;have:Ik at_ r=false:=by
    unfold Ik;split
    ·exact absurd rfl hl
    ·rfl
   rw[this] at q;exact q _ (Same.refl _)
 | false=>
 have q:∀H',Same H1 H'->Q (.bl (Fv (.tuple (k::r)))) H':=λH' s'=>by have:=q H' s';rw[e4,if_neg (by decide)] at this;exact this
 exact Bu ⟨_,rq,_,_,rq,Rep.same sp rd,fit,q⟩
end
abbrev M7:Stmt:=top 58
abbrev Jj:YF:=["thing","many"]
theorem Xd:Bo Jj Jj (Ai M7):=by ac_rfl
abbrev Im:Stmt:=top 59
abbrev G3:YF:=FQ
theorem Jy:Bo ["thing","rows","outs"] G3 (Ai Im):=by ac_rfl
theorem KN {X:Cx} {K:YD} (h:X.K=K):Ea X (.builtin "len") (λxs H Q=>∃p ys,xs=[.ref p]/\(SqL K H p ys\/SqT K H p ys)/\Q (.int ys.length) H):=h ▸ Bw
def Lx:PyData->Int
 | .tuple (.int a::_)=>a
 | _=>0
def GX (ds:List PyData):Bool:=ds.zipIdx.all λp=>trP (p.2:Int) p.1
def Gd (n:Int) (d:PyData):Bool:=match d with
 | .tuple [a,m]=>wiP a 1 99&&wiP m 0 (n - 1)
 | _=>false
def DQ (d:PyData):Bool:=match d with
 | .tuple [.tuple rs,.tuple os]=>(decide (rs.length<=320)&&decide (os.length<=16))&&(GX rs&&(os.all (Gd rs.length)&&Hh (os.map Lx)))
 | _=>false
def ZV:Sp:=λvs H Q _=>∃(v:V) (d:PyData) (n:Int),vs=[v,.int n]/\Rep H v d/\Q (.bl (Gd n d)) H
theorem Xl {n:Int} {d:PyData} (h:Gd n d=true):∃a m,d=.tuple [.int a,.int m]/\1<=a/\a<=99/\0<=m/\m<=n - 1:=by
 unfold Gd at h;split at h
 ·rename_i a m;rw[Qbg] at h;cases a with
  | int a=>
   cases m with
   | int m=>
    have h1:(decide (1<=a)&&decide (a<=99))=true:=h.1;have h2:(decide (0<=m)&&decide (m<=n - 1))=true:=h.2;rw[Qbg] at h1 h2;exact⟨a,m,rq,QaV h1.1,QaV h1.2,QaV h2.1,QaV h2.2⟩
   | _=>cases h.2
  | _=>cases h.1
 ·cases h
theorem Ja {d:PyData} (h:∀rs os,d=.tuple [.tuple rs,.tuple os]->rs.length<=320->os.length<=16->GX rs=true->os.all (Gd rs.length)=true->Hh (os.map Lx)=true->False):DQ d=false:=by
 unfold DQ;split
 ·rename_i rs os;cases e:((decide (rs.length<=320)&&decide (os.length<=16))&&(GX rs&&(os.all (Gd rs.length)&&Hh (os.map Lx)))) with
  | false=>rfl
  | true=>
   simp only[Qbg,decide_eq_true_eq] at e;exact (h rs os rfl e.1.1 e.1.2 e.2.1 e.2.2.1 e.2.2.2).elim
 ·rfl
theorem Ry {d:PyData} {a b:Int} (h:Di d a b=false) {ds:List PyData} (e:d=.tuple ds):¬(a<=(ds.length:Int)/\(ds.length:Int)<=b):=by
 subst e;have h:(decide (a<=(ds.length:Nat))&&decide (((ds.length:Nat):Int)<=b))=false:=h;rintro ⟨h1,h2⟩;rw[QbF h1,QbF h2] at h;cases h
section
variable {P:Program} {w:World} {K:YD} {mg:YB} {base:Heap}
theorem Xp (C:Code K mg "is_out" M7 Jj) (T:Tc mg) (Cd:Good P w K mg base "is_row" 1 Dn GK) (BL:Good P w K mg base "is_within" 2 CJ Ka):Good P w K mg base "is_out" 3 Jj ZV:=by
 refine C.good Xd (λvs H Q E h=>?_) (λf cdv A outer s H vs Q E hr h=>?_)
 ·obtain⟨v,d,n,rfl,_⟩:=h;rfl
 obtain⟨v,d,n,rfl,rd,q⟩:=h;refine⟨_,(Aj (Av (Cg (Aw Cd hr (Aa (pv 0) (Aa Ac (Aa Ac Ab)))) (Cg (Aw BL hr (Aa (Ao Ba (pv 0) Ac (λ_ _=>rfl)) (Aa Ac (Aa Ac Ab)))) (Cw (Aw BL hr (Aa (Ao Ba (pv 0) Ac (λ_ _=>rfl)) (Aa Ac (Aa (Ax Gm (pv 1) Ac) Ab))))))))),?_⟩;refine⟨_,rq,v,2,2,rq,rd.kn,_,rq,?_⟩;rw[Fd rd];cases e2:Di d 2 2 with
 | false=>
  have:Gd n d=false:=by
   unfold Gd;split
   ·exact absurd rfl (Ox e2 _ _)
   ·rfl
  rw[this] at q;exact Bu q
 | true=>
 obtain⟨t,xs,ds,rfl,rfl,ht,rs,h1,h2⟩:=Fb rd e2;obtain⟨a,m,rfl⟩:=QZ h1 h2;cases rs with
 | cons ra rs=>
 cases rs with
 | cons rm rs=>
 cases rs;have q:Q (.bl (wiP a 1 99&&wiP m 0 (n - 1))) H:=q;refine Bj ⟨_,rq,t,_,_,_,rq,rq,SqT.of ht,Ah (j:=0) rfl,_,1,99,rq,ra.kn,_,rq,?_⟩;rw[Gg ra];cases ea:wiP a 1 99 with
 | false=>rw[ea] at q;exact Bu q
 | true=>
  rw[ea,QbL] at q;refine Bj ⟨_,rq,t,_,_,_,rq,rq,SqT.of ht,Ah (j:=1) rfl,_,rq,_,_,rq,rq,_,0,n - 1,rq,rm.kn,?_⟩;rw[Gg rm];exact q
abbrev jp(a:PySem.Addr):Option L2.V:=some (.ref a)
abbrev xg:YF:=["address","number"]
theorem Uc (C:Code K mg "is_table" Im G3) (T:Tc mg) (Cd:Good P w K mg base "is_row" 1 Dn GK) (JC:Good P w K mg base "is_rising" 1 Fg Vv) (PL:Good P w K mg base "is_table_row" 4 Ek cW) (Zw:Good P w K mg base "is_out" 3 Jj ZV):Good P w K mg base "is_table" 5 G3 (Le DQ):=by
 refine C.good Jy (λvs H Q E h=>?_) (λf cdv A outer s H vs Q E hr h=>?_)
 ·obtain⟨v,d,rfl,_⟩:=h;rfl
 obtain⟨v,d,rfl,rd,fit,q⟩:=h;refine⟨_,(@Af _ _ _ _ _ (Bv (PW.pt (Ip (Dw (Dj (Aw Cd hr (Aa (pv 0) (Aa Ac (Aa Ac Ab)))))) (Ip (Dw (Dj (Aw Cd hr (Aa (@Ao _ _ _ _ _ _ _ Ba (pv 0) Ac (λ_ _=>rfl)) (Aa Ac (Aa (Hz rfl T.MOST_ROWS) Ab)))))) (Lh (Dw (Dj (Aw Cd hr (Aa (@Ao _ _ _ _ _ _ _ Ba (pv 0) Ac (λ_ _=>rfl)) (Aa Ac (Aa (Hz rfl T.MOST_OUTS) Ab)))))))))) (@Aj _ _ _ (@Av _ _ _ _ Df)) Bh)
 (@Af _ _ _ _ _ (Ft (pv 0) (Gh rfl (Bd (Ay (i:=1) Jy.nd rfl (Or.inr rfl)) (Bd (Ay (i:=2) Jy.nd rfl (Or.inl rfl)) CW))))
 (@Af _ _ _ _ _ (Bv (Dw (Dj (Bc (Gy rfl) rfl T.all Jo (Aa (CP (N':=["at","row"]) rfl (Ca.plain rfl (by trivial) (by trivial) (by trivial)) (YZ rfl T.enumerate (pv 1)) (λ_ _ _ _=>(IK (K:=K) (n:=2) rfl rfl (Bd (Ay (i:=0) (show List.Nodup (["at","row"]:YF) by trivial) rfl (Or.inl rfl)) (Bd (Ay (i:=1) (show List.Nodup (["at","row"]:YF) by trivial) rfl (Or.inl rfl)) CW)))) (λ_ _ _ _=>DX) (λ_ _ _ _=>(Aw PL hr (Aa (pv 1) (Aa (pv 0) Ab))))) Ab)))) (@Aj _ _ _ (@Av _ _ _ _ Df)) Bh)
 (@Af _ _ _ _ _ (Bv (Dw (Dj (Bc (Gy rfl) rfl T.all Jo (Aa (CP (N':=["out","rows"]) rfl (Ca.of (src:=[none,some 1]) (Ai Im) ["thing","rows","outs"] rfl rfl rfl (by trivial) (by trivial) (by trivial) rfl (by trivial)) (Eu (pv 2)) (λ_ _ _ _=>(Ay (i:=0) (show List.Nodup (["out","rows"]:YF) by trivial) rfl (Or.inl rfl))) (λ_ _ _ _=>DX) (λ_ _ _ _=>(Aw Zw hr (Aa (pv 0) (Aa (Bc (KN (K:=K) rfl) rfl T.len Dk (Aa (pv 1) Ab)) Ab))))) Ab)))) (@Aj _ _ _ (@Av _ _ _ _ Df)) Bh)
 (@Aj _ _ _ (@Av _ _ _ _ (Aw JC hr (Aa (CP (N':=xg) rfl (Ca.plain rfl (by trivial) (by trivial) (by trivial)) (Eu (pv 2)) (λ_ _ _ _=>(IK (K:=K) (n:=2) rfl rfl (Bd (Ay (i:=0) (show List.Nodup (xg:YF) by trivial) rfl (Or.inl rfl)) (Bd (Ay (i:=1) (show List.Nodup (xg:YF) by trivial) rfl (Or.inl rfl)) CW)))) (λ_ _ _ _=>DX) (λ_ _ _ _=>(pv 0))) Ab)))))))),?_⟩
 show let R0:TS:=_;let R1:TS:=Az _ R0;let R2:TS:=Az _ R1;let R3:TS:=Az _ R2;Az _ R3 _ _ _;intro R0 R1 R2 R3;have no:(DQ d=false)->Q (.bl false) H:=λe=>by rw[e] at q;exact q _ (Same.refl _)
 refine⟨_,rq,v,2,2,rq,rd.kn,_,rq,?_⟩;rw[Fd rd];cases e2:Di d 2 2 with
 | false=>exact Bj (Bj (no (Ja λrs os e _ _ _ _ _=>Ox e2 _ _ e)))
 | true=>
 obtain⟨t,xs,ds,rfl,rfl,ht,rs,h1,h2⟩:=Fb rd e2;obtain⟨dr,dO,rfl⟩:=QZ h1 h2;have fr:Fit 64 dr:=fit.item' (QaI ..);have fo:Fit 64 dO:=fit.item' (Qav _ (QaI ..));cases rs with
 | cons rr rs=>
 cases rs with
 | cons ro rs=>
 cases rs;refine Bu ⟨_,rq,t,_,_,_,rq,rq,SqT.of ht,Ah (j:=0) rfl,_,0,320,rq,rr.kn,_,rq,?_⟩;rw[Fd rr];cases e3:Di dr 0 320 with
 | false=>
  refine Bj (Bj (no (Ja λrs os e l1 _ _ _ _=>?_)));simp only[PyData.tuple.injEq,List.cons.injEq] at e;exact Ry e3 e.1 ⟨by omega,by omega⟩
 | true=>
 refine Bu ⟨_,rq,t,_,_,_,rq,rq,SqT.of ht,Ah (j:=1) rfl,_,0,16,rq,ro.kn,_,rq,?_⟩;rw[Fd ro];cases e4:Di dO 0 16 with
 | false=>
  refine Bj (no (Ja λrs os e _ l2 _ _ _=>?_));simp only[PyData.tuple.injEq,List.cons.injEq] at e;exact Ry e4 e.2.1 ⟨by omega,by omega⟩
 | true=>
 obtain⟨tr,xr,rows,rfl,rfl,htr,rsr,_,lr⟩:=Fb rr e3;obtain⟨to,xo,outs,rfl,rfl,hto,rso,_,lo⟩:=Fb ro e4;have lxr:=Ak.len rsr;have lxo:=Ak.len rso;refine Bu ⟨_,rq,t,_,rq,SqT.of ht,rq,_,_,rq,_,_,rq,rq,?_⟩;refine⟨_,rq,tr,rq,⟨_,SqT.of htr⟩,λl hl=>?_⟩;let J0:YN:=λ(i:Nat) (σ : St) (HH:Hp)=>∃(u v:Option V),σ=[u,v]/\HH l=some (.lst (((rows.zipIdx.take i).map λp=>trP (p.2:Int) p.1).map V.bl))/\Same H HH;refine Yc (xs:=xr) J0 ⟨_,_,rq,Ad,Ae hl _⟩ (λi σ HH _ h=>?_) (λi x p σ HH hx h hp=>?_) (fun σ HH h=>?_)
 ·obtain⟨u,v,rfl,e1,e2⟩:=h;exact SqT.of (e2 _ _ htr)
 ·obtain⟨u,v,rfl,e1,s2⟩:=h;obtain⟨g,hg,rg⟩:=Ak.at_ rsr hx;have hi':i < rows.length:=(Qaf.mp hg).1;have hz:rows.zipIdx[i]?=some (g,i):=by rw[List.getElem?_zipIdx,hg];simp
  have s3:=Ae hp (.tup [.int ((0+i:Nat):Int),x]);have h3:(upd HH p (.tup [.int ((0+i:Nat):Int),x])) p=some (.tup [.int ((0+i:Nat):Int),x]):=Ad;have e1':=s3 _ _ e1;have s2':=s2.trans s3;generalize upd HH p (.tup [.int ((0+i:Nat):Int),x])=H3 at *;refine⟨p,_,rq,SqT.of h3,rq,_,_,rq,_,_,rq,rq,Bj ⟨_,rq,_,rq,x,g,_,rq,Rep.same s2' rg,fr.item' (Qau hg),λH4 s4=>⟨_,s4 _ _ e1',Bq (by rw[Qbs,Qbs,Qbi,QaR];omega),_,_,rq,?_,(s2'.trans s4).Cr Al.upd hl⟩⟩⟩;rw[Ad,Qcg hz,Qbt,Qbt,Nat.zero_add];rfl
 obtain⟨u,v,rfl,e1,s1⟩:=h;rw[show xr.length=rows.zipIdx.length by rw[QaR,lxr],Qbk] at e1;refine⟨l,_,rq,SqL.of e1,_,rq,?_⟩;rw[all_map];have q1:∀H',Same HH H'->Q (.bl (GX rows&&(outs.all (Gd rows.length)&&Hh (outs.map Lx)))) H':=λH' s'=>by
  have:=q H' (s1.trans s');have e:DQ (.tuple [.tuple rows,.tuple outs])=(GX rows&&(outs.all (Gd rows.length)&&Hh (outs.map Lx))):=by
   show ((decide (rows.length<=320)&&decide (outs.length<=16))&&_)=_;rw[QbF (show rows.length<=320 by omega),QbF (show outs.length<=16 by omega)];rfl
  rw[e] at this;exact this
 show if (!GX rows)=true then _ else _
 cases er:GX rows with
 | false=>rw[er] at q1;exact Bj (q1 _ (Same.refl _))
 | true=>
 rw[er,QbL] at q1;refine Bu ⟨_,rq,to,rq,⟨_,SqT.of (s1 _ _ hto)⟩,λl2 hl2=>?_⟩;let J1:YN:=λ(i:Nat) (σ : St) (HX:Hp)=>∃(u:Option V),σ=[u,jp tr]/\HX l2=some (.lst (((outs.take i).map (Gd rows.length)).map V.bl))/\Same HH HX;refine Ec (xs:=xo) J1 ⟨_,rq,Ad,Ae hl2 _⟩ (λi σ HX _ h=>?_) (λi x σ HX hx h=>?_) (fun σ HX h=>?_)
 ·obtain⟨u,rfl,e1,e2⟩:=h;exact SqT.of (e2 _ _ (s1 _ _ hto))
 ·obtain⟨u,rfl,e1,s2⟩:=h;obtain⟨g,hg,rg⟩:=Ak.at_ rso hx;have hi':i < outs.length:=(Qaf.mp hg).1;refine Gv (Bj ⟨_,rq,_,rq,tr,_,rq,.inr (SqT.of (s2 _ _ (s1 _ _ htr))),x,g,_,rq,Rep.same (s1.trans s2) rg,_,e1,Bq (by rw[Qbs,Qbs,Qbi];omega),_,rq,?_,s2.Cr Al.upd hl2⟩);rw[Ad,Qcg hg,Qbt,Qbt,lxr];rfl
 obtain⟨u,rfl,e1',s2⟩:=h;rw[show xo.length=outs.length from lxo,Qbk] at e1'
 refine⟨l2,_,rq,SqL.of e1',_,rq,?_⟩;rw[all_map];cases eo:outs.all (Gd rows.length) with
 | false=>rw[eo] at q1;exact Bj (q1 _ s2)
 | true=>
 rw[eo,QbL] at q1;refine Bu ⟨_,rq,to,rq,⟨_,SqT.of (s2 _ _ (s1 _ _ hto))⟩,λl3 hl3=>?_⟩;let J2:YN:=λ(i:Nat) (σ : St) (HY:Hp)=>∃(u v:Option V),σ=[u,v]/\HY l3=some (.lst (((outs.take i).map Lx).map V.int))/\Same HX HY;refine Ec (xs:=xo) J2 ⟨_,_,rq,Ad,Ae hl3 _⟩ (λi σ HY _ h=>?_) (λi x σ HY hx h=>?_) (fun σ HY h=>?_)
 ·obtain⟨u,v,rfl,e1,e2⟩:=h;exact SqT.of (e2 _ _ (s2 _ _ (s1 _ _ hto)))
 ·obtain⟨u,v,rfl,e1,s3⟩:=h;obtain⟨g,hg,rg⟩:=Ak.at_ rso hx;have hi':i < outs.length:=(Qaf.mp hg).1;obtain⟨a,m,rfl,_⟩:=Xl (Qbo.mp eo g (Qau hg));have rg:=Rep.same (s1.trans (s2.trans s3)) rg;cases rg with
  | tup eg rg=>
  cases rg with
  | cons ra rg=>
  cases rg with
  | cons rm rg=>
  cases rg;cases ra;cases rm;refine⟨_,_,rq,SqT.of eg,rq,_,_,rq,_,_,rq,rq,Bj ⟨_,rq,_,e1,Bq (by rw[Qbs,Qbs,Qbi];omega),_,_,rq,?_,s3.Cr Al.upd hl3⟩⟩;rw[Ad,Qcg hg,Qbt,Qbt];rfl
 obtain⟨u,v,rfl,e3,s3⟩:=h;rw[show xo.length=outs.length from lxo,Qbk] at e3
 exact⟨l3,_,rq,.inr e3,by rw[Qbs];omega,λH' s'=>q1 _ (s2.trans (s3.trans s'))⟩
end
abbrev GR:Stmt:=top 50
abbrev Fz:YF:=["many","addresses","warned"]
theorem QB:Bo Fz Fz (Ai GR):=by ac_rfl
abbrev Ie:Stmt:=top 51
abbrev Ew:YF:=["condition","turned","hour"]
theorem FP:Bo ["condition","turned","hour","word","begin","end"] Ew (Ai Ie):=by ac_rfl
abbrev Hs:Stmt:=top 60
abbrev Gi:YF:=["row","now","past","brought"]
abbrev xl:YF:=["row","now","past","brought","warned","turned","hour","word"]
theorem Fq:Bo xl Gi (Ai Hs):=by ac_rfl
theorem Qg {X:Cx} {K:YD} {a:Expr} {ta:TE} (h:X.K=K) (ha:PE X a ta) (he:∀whole,isTrue a X.env whole=(do let v <-whole;standAt a.pos;holding [v] (truthy v))) :
  PT X a (fun σ H Q=>ta σ H λx H'=>∃k,ZD K x H' k/\Q k H'):=h ▸ YT ha he
inductive Rw where
 | many (n:Int) (as:List Int)
 | key (k:Int)
 | hours (a b:Int)
 | neg (i:Nat)
 | both (i j:Nat)
 | any (i j:Nat)
 | thn (i j n:Nat)
def Rw.data:Rw->PyData
 | .many n as=>.tuple [.str "many",.int n,.tuple (as.map PyData.int)]
 | .key k=>.tuple [.str "key",.int k]
 | .hours a b=>.tuple [.str "hours",.int a,.int b]
 | .neg i=>.tuple [.str "not",.int i]
 | .both i j=>.tuple [.str "and",.int i,.int j]
 | .any i j=>.tuple [.str "or",.int i,.int j]
 | .thn i j n=>.tuple [.str "then",.int i,.int j,.int n]
def Rw.ok (m:Nat):Rw->Prop
 | .many n as=>1<=n/\n<=9/\1<=as.length/\as.length<=30/\(∀a∈as,1<=a/\a<=99)/\Hh as=true
 | .key k=>0<=k/\k<=9
 | .hours a b=>0<=a/\a<=23/\0<=b/\b<=23
 | .neg i=>i < m
 | .both i j=>i < m/\j < m
 | .any i j=>i < m/\j < m
 | .thn i j n=>i < m/\j < m/\1<=n/\n<=20
def Gs (ws ks:List Int) (h:Int) (past:List (List Bool)) (now:List Bool):Rw->Bool
 | .many n as=>decide (n<=(((as.filter λa=>decide (a∈ws)).length:Nat):Int))
 | .key k=>decide (k∈ks)
 | .hours a b=>decide (a=b) || decide ((h - a) % 24 < (b - a) % 24)
 | .neg i=>!now.getD i false
 | .both i j=>now.getD i false&&now.getD j false
 | .any i j=>now.getD i false || now.getD j false
 | .thn i j n=>now.getD j false&&(past.drop (past.length - n)).any λg=>g.getD i false
def HeldAt (H:Hp) (v:V) (g:List Bool):Prop:=∃a,v=.ref a/\H a=some (.lst (g.map V.bl))
theorem HeldAt.same {H H':Hp} {v:V} {g:List Bool} (h:HeldAt H v g) (s:Same H H'):HeldAt H' v g:=by
 obtain⟨a,rfl,e⟩:=h;exact⟨a,rq,s _ _ e⟩
theorem Oe (w:Int):∀ws:List Int,inV (.int w) (ws.map V.int)=decide (w∈ws)
 | []=>rfl
 | x::r=>by
  have ih:=Oe w r;unfold inV at ih ⊢;rw[QbM,QbR,ih];have h2:eqV (.int x) (.int w)=decide (w=x):=by
   show (x == w)=decide (w=x);rw[QbA,beq_iff_eq,QaM];exact⟨λh=>h.symm,λh=>h.symm⟩
  rw[h2,QbA,Bool.or_eq_true,QaM,QaM,QaM,QbK]
theorem Oi (ws:List Int):(ws.map V.int).all Iv=true:=by rw[QbY];exact Qbo.mpr λx _=>rfl
theorem Jv {now:List Bool} {i:Nat} (h:i < now.length):atI (now.map V.bl) (i:Int)=some (.bl (now.getD i false)):=Ah (by rw[QaU,Qaj h];simp[h])
theorem Tp {xs:YG} {n:Nat} (h:1<=n):Cy xs (some (-(n:Int))) none=xs.drop (xs.length - n):=by
 unfold Cy;have e:HT.sIx xs.length 0 (some (-(n:Int)))=xs.length - n:=by
  show (if (-(n:Int)) < 0 then ((-(n:Int))+(xs.length:Int)).toNat else _)=_
  rw[if_pos (by omega)];omega
 rw[e,HT.Kg];exact Qao (by rw[Qbm];exact QbZ _)
theorem Paired.Wj {α β : Type} {F:α->β->Prop}:∀{l:List α} {r:List β} (n:Nat),Paired F l r->Paired F (l.drop n) (r.drop n)
 | _,_,0,h=>h
 | _,_,_+1,.nil=>.nil
 | _,_,n+1,.cons h t=>Paired.Wj n t
def Rg:Sp:=λvs H Q _=>∃(n:Int) (ta tw:Addr) (as ws:List Int),vs=[.int n,.ref ta,.ref tw]/\H ta=some (.tup (as.map V.int))/\H tw=some (.tup (ws.map V.int))/\as.length<=900/\∀H',Same H H'->Q (.bl (decide (n<=(((as.filter λa=>decide (a∈ws)).length:Nat):Int)))) H'
def Ur:Sp:=λvs H Q _=>∃(v:V) (r:Rw) (tk:Addr) (ks ws:List Int) (h:Int) (past:List (List Bool)) (now:List Bool),vs=[v,.ref tk,.int h]/\((∃k,r=.key k)\/∃a b,r=.hours a b)/\Rep H v r.data/\H tk=some (.tup (ks.map V.int))/\Q (.bl (Gs ws ks h past now r)) H
def Ut:Sp:=λvs H Q _=>∃(v:V) (r:Rw) (m:Nat) (ln lp tb tw tk:Addr) (now:List Bool) (xs:YG) (past:List (List Bool)) (ws ks:List Int) (h:Int),vs=[v,.ref ln,.ref lp,.ref tb]/\Rep H v r.data/\r.ok m/\H ln=some (.lst (now.map V.bl))/\now.length=m/\H lp=some (.lst xs)/\Paired (HeldAt H) xs past/\(∀g∈past,m<=g.length)/\past.length<=40/\H tb=some (.tup [.ref tw,.ref tk,.int h])/\H tw=some (.tup (ws.map V.int))/\H tk=some (.tup (ks.map V.int))/\∀H',Same H H'->Q (.bl (Gs ws ks h past now r)) H'
section
variable {P:Program} {w:World} {K:YD} {mg:YB} {base:Heap}
theorem QH (C:Code K mg "are_warned" GR Fz) (T:Tc mg):Good P w K mg base "are_warned" 1 Fz Rg:=by
 refine C.good QB (λvs H Q E h=>?_) (λf cdv A outer s H vs Q E hr h=>?_)
 ·obtain⟨n,ta,tw,as,ws,rfl,_⟩:=h;rfl
 obtain⟨n,ta,tw,as,ws,rfl,hta,htw,l9,q⟩:=h;refine⟨_,(Aj (Av (Cp VN (Bc Bw rfl T.len Dk (Aa (CP (N':=["address","warned"]) rfl (Ca.of (src:=[none,some 2]) (Ai GR) Fz rfl rfl rfl (by trivial) (by trivial) (by trivial) rfl (by trivial)) (Eu (pv 1)) (λ_ _ _ _=>(Ay (i:=0) (show List.Nodup (["address","warned"]:YF) by trivial) rfl (Or.inl rfl))) (λ_ _ _ _=>(NQ (Bm (N6 (K:=K) rfl) (pv 0) (pv 1) (by with_unfolding_all rfl)))) (λ_ _ _ _=>(pv 0))) Ab)) (pv 0) (Bg _)))),?_⟩;refine⟨_,rq,ta,rq,⟨_,SqT.of hta⟩,λl hl=>?_⟩;let J0:YN:=λ(i:Nat) (σ : St) (HH:Hp)=>∃(u:Option V),σ=[u,jp tw]/\HH l=some (.lst (((as.take i).filter λa=>decide (a∈ws)).map V.int))/\Same H HH;refine Ec (xs:=as.map V.int) J0 ⟨_,rq,Ad,Ae hl _⟩ (λi σ HH _ h=>?_) (λi x σ HH hx h=>?_) (fun σ HH h=>?_)
 ·obtain⟨u,rfl,e1,e2⟩:=h;exact SqT.of (e2 _ _ hta)
 ·obtain⟨u,rfl,e1,s2⟩:=h;rw[QaU] at hx;obtain⟨a,ha,rfl⟩:=Qan.mp hx;have hi:=(Qaf.mp ha).1;refine Gv ⟨_,rq,_,rq,tw,_,rq,.inr (SqT.of (s2 _ _ htw)),rq,Oi ws,_,rq,?_⟩;show if inV (.int a) (ws.map V.int)=true then _ else _
  rw[Oe];have ts:=Qcg ha;by_cases e:a∈ws
  ·rw[QbF e];refine Bj ⟨_,rq,_,e1,Bq (by rw[Qbs];exact QbV (Qat _ _) (by rw[Qbi];omega)),_,rq,?_,s2.Cr Al.upd hl⟩;rw[Ad,ts,QaO,Qbn,if_pos (QbF e),Qbt];rfl
  ·rw[Qbu e];refine Bu ⟨_,rq,?_,s2⟩;rw[ts,QaO,Qbn,if_neg (by rw[Qbu e];decide),List.filter_nil,QbB];exact e1
 obtain⟨u,rfl,e1,s1⟩:=h;rw[Qbs,Qbk] at e1;refine⟨l,_,rq,.inl (SqL.of e1),_,rq,_,_,rq,rq,?_⟩;rw[Qbs];exact q _ s1
theorem O8 (C:Code K mg "plain_holds" Ie Ew) (T:Tc mg):Good P w K mg base "plain_holds" 1 Ew Ur:=by
 refine C.good FP (λvs H Q E h=>?_) (λf cdv A outer s H vs Q E hr h=>?_)
 ·obtain⟨v,r,tk,ks,ws,h,past,now,rfl,_⟩:=h;rfl
 obtain⟨v,r,tk,ks,ws,h,past,now,rfl,hr',rd,htk,q⟩:=h;refine⟨_,(Af (Bv (Bm Dg (Ao Ba (pv 0) Ac (λ_ _=>rfl)) Bf (Bg _)) (Aj (Av (Cp Ln (Ao Ba (pv 0) Ac (λ_ _=>rfl)) (pv 1) (by with_unfolding_all rfl)))) Bh)
 (Af (Ft (pv 0) (Gh rfl (Bd (Ay (i:=3) FP.nd rfl (Or.inl rfl)) (Bd (Ay (i:=4) FP.nd rfl (Or.inl rfl)) (Bd (Ay (i:=5) FP.nd rfl (Or.inl rfl)) CW)))))
 (Aj (Av (VH (Cp Dg (pv 4) (pv 5) (Bg _)) (Cw (Cp Ml (Ax El (Ax Gm (pv 2) (pv 4)) Ac) (Ax El (Ax Gm (pv 5) (pv 4)) Ac) (Bg _)))))))),?_⟩
 show let R0:TS:=_;let R1:TS:=Az _ R0;let R2:TS:=_;Az (CQ _ R2 _) R1 _ _ _;intro R0 R1 R2;rcases hr' with⟨k,rfl⟩|⟨a,b,rfl⟩
 ·cases rd with
  | tup ht rs=>
  cases rs with
  | cons r1 rs=>
  cases rs with
  | cons r2 rs=>
  cases rs;cases r1;cases r2;refine⟨_,rq,_,_,_,_,rq,rq,SqT.of ht,Ah (j:=0) rfl,rq,_,rq,ifS (λ_=>?_) (λz=>absurd rfl z)⟩;refine⟨_,rq,_,_,_,_,rq,rq,SqT.of ht,Ah (j:=1) rfl,_,rq,tk,_,rq,.inr (SqT.of htk),rq,Oi ks,?_⟩;show Q (.bl (inV (.int k) (ks.map V.int))) H;rw[Oe];exact q
 ·cases rd with
  | tup ht rs=>
  cases rs with
  | cons r1 rs=>
  cases rs with
  | cons r2 rs=>
  cases rs with
  | cons r3 rs=>
  cases rs;cases r1;cases r2;cases r3;refine⟨_,rq,_,_,_,_,rq,rq,SqT.of ht,Ah (j:=0) rfl,rq,_,rq,ifS (λz=>absurd z (by trivial)) (λ_=>?_)⟩;refine⟨_,rq,_,_,rq,SqT.of ht,rq,_,_,rq,_,_,rq,_,_,rq,rq,?_⟩;have q:Q (.bl (decide (a=b) || decide ((h - a) % 24 < (b - a) % 24))) H:=q;refine⟨_,rq,_,rq,rq,_,rq,ifN (λe=>?_) (λe=>?_)⟩
  ·rw[QbF e] at q;exact q
  ·rw[Qbu e,Bool.false_or] at q;exact⟨_,rq,_,rq,_,_,rq,rq,_,_,rq,rq,(by show (0:Int) < 24;decide),_,rq,_,rq,_,_,rq,rq,_,_,rq,rq,(by show (0:Int) < 24;decide),_,_,rq,rq,q⟩
theorem RP (C:Code K mg "row_holds" Hs Gi) (T:Tc mg) (Tg:Good P w K mg base "are_warned" 1 Fz Rg) (QS:Good P w K mg base "plain_holds" 1 Ew Ur):Good P w K mg base "row_holds" 2 Gi Ut:=by
 refine C.good Fq (λvs H Q E h=>?_) (λf cdv A outer s H vs Q E hr h=>?_)
 ·obtain⟨v,r,m,ln,lp,tb,tw,tk,now,xs,past,ws,ks,h,rfl,_⟩:=h;rfl
 obtain⟨v,r,m,ln,lp,tb,tw,tk,now,xs,past,ws,ks,h,rfl,rd,ok,hln,Zf,hlp,Z6,iV,l40,htb,htw,htk,q⟩:=h;refine⟨_,(@Af _ _ _ _ _ (Ft (pv 3) (Gh rfl (Bd (Ay (i:=4) Fq.nd rfl (Or.inl rfl)) (Bd (Ay (i:=5) Fq.nd rfl (Or.inl rfl)) (Bd (Ay (i:=6) Fq.nd rfl (Or.inl rfl)) CW)))))
 (@Af _ _ _ _ _ (@BZ _ _ 7 _ _ _ _ Fq.nd rfl (Or.inl rfl) (@Ao _ _ _ _ _ _ _ Ba (pv 0) Ac (λ_ _=>rfl)) (by rfl) (by first | exact .inl rfl | exact .inr rfl))
 (@Af _ _ _ _ _ (Bv (Bm Dg (pv 7) Bf (Bg _)) (@Aj _ _ _ (@Av _ _ _ _ (Aw Tg hr (Aa (@Ao _ _ _ _ _ _ _ Ba (pv 0) Ac (λ_ _=>rfl)) (Aa (@Ao _ _ _ _ _ _ _ Ba (pv 0) Ac (λ_ _=>rfl)) (Aa (pv 4) Ab)))))) Bh)
 (@Af _ _ _ _ _ (Bv (Bm Dg (pv 7) Bf (Bg _)) (@Aj _ _ _ (@Av _ _ _ _ (RJ (@Ao _ _ _ _ _ _ _ Bl (pv 1) (@Ao _ _ _ _ _ _ _ Ba (pv 0) Ac (λ_ _=>rfl)) (λ_ _=>rfl))))) Bh)
 (@Af _ _ _ _ _ (Bv (Bm Dg (pv 7) Bf (Bg _)) (@Aj _ _ _ (@Av _ _ _ _ (Cg (@Ao _ _ _ _ _ _ _ Bl (pv 1) (@Ao _ _ _ _ _ _ _ Ba (pv 0) Ac (λ_ _=>rfl)) (λ_ _=>rfl)) (Cw (@Ao _ _ _ _ _ _ _ Bl (pv 1) (@Ao _ _ _ _ _ _ _ Ba (pv 0) Ac (λ_ _=>rfl)) (λ_ _=>rfl)))))) Bh)
 (@Af _ _ _ _ _ (Bv (Bm Dg (pv 7) Bf (Bg _)) (@Aj _ _ _ (@Av _ _ _ _ (VH (@Ao _ _ _ _ _ _ _ Bl (pv 1) (@Ao _ _ _ _ _ _ _ Ba (pv 0) Ac (λ_ _=>rfl)) (λ_ _=>rfl)) (Cw (@Ao _ _ _ _ _ _ _ Bl (pv 1) (@Ao _ _ _ _ _ _ _ Ba (pv 0) Ac (λ_ _=>rfl)) (λ_ _=>rfl)))))) Bh)
 (@Af _ _ _ _ _ (Bv (Bm Dg (pv 7) Bf (Bg _)) (@Aj _ _ _ (@Av _ _ _ _ (Cg (@Ao _ _ _ _ _ _ _ Bl (pv 1) (@Ao _ _ _ _ _ _ _ Ba (pv 0) Ac (λ_ _=>rfl)) (λ_ _=>rfl)) (Cw (Bc (Tv rfl) rfl T.any Yi (Aa (CP (N':=["held","row"]) rfl (Ca.of (src:=[none,some 0]) (Ai Hs) xl rfl rfl rfl (by trivial) (by trivial) (by trivial) rfl (by trivial)) (O2 (Dm Iz (pv 2) (Dl (NT La (@Ao _ _ _ _ _ _ _ Ba (pv 0) Ac (λ_ _=>rfl)))) Fe)) (λ_ _ _ _=>(Ay (i:=0) (show List.Nodup (["held","row"]:YF) by trivial) rfl (Or.inl rfl))) (λ_ _ _ _=>DX) (λ_ _ _ _=>(@Ao _ _ _ _ _ _ _ (Ko (K:=K) rfl) (pv 0) (@Ao _ _ _ _ _ _ _ (bh (K:=K) rfl) (pv 1) Ac (λ_ _=>rfl)) (λ_ _=>rfl)))) Ab)))))) Bh)
 (@Aj _ _ _ (@Av _ _ _ _ (Aw QS hr (Aa (pv 0) (Aa (pv 5) (Aa (pv 6) Ab))))))))))))),?_⟩
 show let R0:TS:=_;let R1:TS:=_;let R2:TS:=Az (CQ _ R1 _) R0;let R3:TS:=_;let R4:TS:=Az (CQ _ R3 _) R2;let R5:TS:=_;let R6:TS:=Az (CQ _ R5 _) R4;let R7:TS:=_;let R8:TS:=Az (CQ _ R7 _) R6;let R9:TS:=_;let R10:TS:=Az (CQ _ R9 _) R8;let R11:TS:=Az _ R10;Az _ R11 _ _ _;intro R0 R1 R2 R3 R4 R5 R6 R7 R8 R9 R10 R11;have q0:=q _ (Same.refl _);refine⟨_,rq,tb,_,rq,SqT.of htb,rq,_,_,rq,_,_,rq,_,_,rq,rq,?_⟩;subst Zf;cases r with
 | many n as=>
  have rd0:=rd;cases rd with
  | tup ht rs=>
  cases rs with
  | cons r1 rs=>
  cases rs with
  | cons r2 rs=>
  cases rs with
  | cons r3 rs=>
  cases rs;cases r1;cases r2;cases r3 with
  | tup ha ra=>
  have ea:=Jq ra;subst ea;refine⟨_,rq,_,_,_,_,rq,rq,SqT.of ht,Ah (j:=0) rfl,?_⟩;refine⟨_,rq,rq,_,rq,ifS (λ_=>?_) (λz=>absurd rfl z)⟩;exact⟨_,rq,_,_,_,_,rq,rq,SqT.of ht,Ah (j:=1) rfl,_,rq,_,_,_,_,rq,rq,SqT.of ht,Ah (j:=2) rfl,_,rq,_,_,_,as,ws,rq,ha,htw,by have:=ok.2.2.2.1;omega,q⟩
 | key k=>
  have rd0:=rd;cases rd with
  | tup ht rs=>
  cases rs with
  | cons r1 rs=>
  cases rs with
  | cons r2 rs=>
  cases rs;cases r1;cases r2;refine⟨_,rq,_,_,_,_,rq,rq,SqT.of ht,Ah (j:=0) rfl,?_⟩;refine⟨_,rq,rq,_,rq,ifS (λz=>absurd z (by trivial)) (λ_=>?_)⟩;refine⟨_,rq,rq,_,rq,ifS (λz=>absurd z (by trivial)) (λ_=>?_)⟩;refine⟨_,rq,rq,_,rq,ifS (λz=>absurd z (by trivial)) (λ_=>?_)⟩;refine⟨_,rq,rq,_,rq,ifS (λz=>absurd z (by trivial)) (λ_=>?_)⟩;refine⟨_,rq,rq,_,rq,ifS (λz=>absurd z (by trivial)) (λ_=>?_)⟩;exact⟨_,rq,_,rq,_,rq,_,.key k,tk,ks,ws,h,past,now,rq,.inl ⟨k,rq⟩,rd0,htk,q0⟩
 | hours a b=>
  have rd0:=rd;cases rd with
  | tup ht rs=>
  cases rs with
  | cons r1 rs=>
  cases rs with
  | cons r2 rs=>
  cases rs with
  | cons r3 rs=>
  cases rs;cases r1;cases r2;cases r3;refine⟨_,rq,_,_,_,_,rq,rq,SqT.of ht,Ah (j:=0) rfl,?_⟩;refine⟨_,rq,rq,_,rq,ifS (λz=>absurd z (by trivial)) (λ_=>?_)⟩;refine⟨_,rq,rq,_,rq,ifS (λz=>absurd z (by trivial)) (λ_=>?_)⟩;refine⟨_,rq,rq,_,rq,ifS (λz=>absurd z (by trivial)) (λ_=>?_)⟩;refine⟨_,rq,rq,_,rq,ifS (λz=>absurd z (by trivial)) (λ_=>?_)⟩;refine⟨_,rq,rq,_,rq,ifS (λz=>absurd z (by trivial)) (λ_=>?_)⟩;exact⟨_,rq,_,rq,_,rq,_,.hours a b,tk,ks,ws,h,past,now,rq,.inr ⟨a,b,rq⟩,rd0,htk,q0⟩
 | neg i=>
  cases rd with
  | tup ht rs=>
  cases rs with
  | cons r1 rs=>
  cases rs with
  | cons r2 rs=>
  cases rs;cases r1;cases r2;refine⟨_,rq,_,_,_,_,rq,rq,SqT.of ht,Ah (j:=0) rfl,?_⟩;refine⟨_,rq,rq,_,rq,ifS (λz=>absurd z (by trivial)) (λ_=>?_)⟩;refine⟨_,rq,rq,_,rq,ifS (λ_=>?_) (λz=>absurd rfl z)⟩;exact⟨_,rq,_,rq,_,_,_,_,rq,rq,SqT.of ht,Ah (j:=1) rfl,ln,_,_,_,rq,rq,SqL.of hln,Jv ok,_,rq,q0⟩
 | both i j=>
  cases rd with
  | tup ht rs=>
  cases rs with
  | cons r1 rs=>
  cases rs with
  | cons r2 rs=>
  cases rs with
  | cons r3 rs=>
  cases rs;cases r1;cases r2;cases r3;refine⟨_,rq,_,_,_,_,rq,rq,SqT.of ht,Ah (j:=0) rfl,?_⟩;refine⟨_,rq,rq,_,rq,ifS (λz=>absurd z (by trivial)) (λ_=>?_)⟩;refine⟨_,rq,rq,_,rq,ifS (λz=>absurd z (by trivial)) (λ_=>?_)⟩;refine⟨_,rq,rq,_,rq,ifS (λ_=>?_) (λz=>absurd rfl z)⟩;refine⟨_,rq,_,rq,_,_,_,_,rq,rq,SqT.of ht,Ah (j:=1) rfl,ln,_,_,_,rq,rq,SqL.of hln,Jv ok.1,_,rq,?_⟩;have q0:Q (.bl (now.getD i false&&now.getD j false)) H:=q0;cases e:now.getD i false with
  | false=>rw[e] at q0;exact Bu q0
  | true=>
   rw[e,QbL] at q0;exact Bj ⟨_,rq,_,rq,_,_,_,_,rq,rq,SqT.of ht,Ah (j:=2) rfl,ln,_,_,_,rq,rq,SqL.of hln,Jv ok.2,q0⟩
 | any i j=>
  cases rd with
  | tup ht rs=>
  cases rs with
  | cons r1 rs=>
  cases rs with
  | cons r2 rs=>
  cases rs with
  | cons r3 rs=>
  cases rs;cases r1;cases r2;cases r3;refine⟨_,rq,_,_,_,_,rq,rq,SqT.of ht,Ah (j:=0) rfl,?_⟩;refine⟨_,rq,rq,_,rq,ifS (λz=>absurd z (by trivial)) (λ_=>?_)⟩;refine⟨_,rq,rq,_,rq,ifS (λz=>absurd z (by trivial)) (λ_=>?_)⟩;refine⟨_,rq,rq,_,rq,ifS (λz=>absurd z (by trivial)) (λ_=>?_)⟩;refine⟨_,rq,rq,_,rq,ifS (λ_=>?_) (λz=>absurd rfl z)⟩;refine⟨_,rq,_,rq,_,_,_,_,rq,rq,SqT.of ht,Ah (j:=1) rfl,ln,_,_,_,rq,rq,SqL.of hln,Jv ok.1,_,rq,?_⟩;have q0:Q (.bl (now.getD i false || now.getD j false)) H:=q0;cases e:now.getD i false with
  | true=>rw[e] at q0;exact Bj q0
  | false=>
   rw[e,Bool.false_or] at q0;exact Bu ⟨_,rq,_,rq,_,_,_,_,rq,rq,SqT.of ht,Ah (j:=2) rfl,ln,_,_,_,rq,rq,SqL.of hln,Jv ok.2,q0⟩
 | thn i j n=>
  obtain⟨tt,rfl⟩ : ∃tt,v=.ref tt:=by cases rd;exact⟨_,rfl⟩
  cases rd with
  | tup ht rs=>
  cases rs with
  | cons r1 rs=>
  cases rs with
  | cons r2 rs=>
  cases rs with
  | cons r3 rs=>
  cases rs with
  | cons r4 rs=>
  cases rs;cases r1;cases r2;cases r3;cases r4;obtain⟨o1,o2,o3,o4⟩ : i < now.length/\j < now.length/\1<=n/\n<=20:=ok;refine⟨_,rq,_,_,_,_,rq,rq,SqT.of ht,Ah (j:=0) rfl,?_⟩;refine⟨_,rq,rq,_,rq,ifS (λz=>absurd z (by trivial)) (λ_=>?_)⟩;refine⟨_,rq,rq,_,rq,ifS (λz=>absurd z (by trivial)) (λ_=>?_)⟩;refine⟨_,rq,rq,_,rq,ifS (λz=>absurd z (by trivial)) (λ_=>?_)⟩;refine⟨_,rq,rq,_,rq,ifS (λz=>absurd z (by trivial)) (λ_=>?_)⟩;refine⟨_,rq,rq,_,rq,ifS (λ_=>?_) (λz=>absurd rfl z)⟩;refine⟨_,rq,_,rq,_,_,_,_,rq,rq,SqT.of ht,Ah (j:=2) rfl,ln,_,_,_,rq,rq,SqL.of hln,Jv o2,_,rq,?_⟩;have q:∀H',Same H H'->Q (.bl (now.getD j false&&(past.drop (past.length - n)).any λg=>g.getD i false)) H':=q;cases e:now.getD j false with
  | false=>rw[e] at q;exact Bu (q _ (Same.refl _))
  | true=>
  rw[e,QbL] at q;refine Bj ⟨_,rq,_,rq,_,_,_,_,rq,rq,SqT.of ht,Ah (j:=3) rfl,_,rq,_,rq,lp,_,rq,SqL.of hlp,λlc hlc=>?_⟩;rw[Tp o3];have sc:=Ae hlc (.lst (xs.drop (xs.length - n)));have cc:upd H lc (.lst (xs.drop (xs.length - n))) lc=some (.lst (xs.drop (xs.length - n))):=Ad;have pl:Paired (HeldAt H) (xs.drop (xs.length - n)) (past.drop (past.length - n)):=by rw[QbN Z6];exact Paired.Wj _ Z6
  have lg:∀g∈past.drop (past.length - n),i < g.length:=λg hg=>QaH o1 (iV g (List.mem_of_mem_drop hg));have ll:(past.drop (past.length - n)).length<=40:=by rw[Qbm];omega
  generalize upd H lc (.lst (xs.drop (xs.length - n)))=H1 at *;generalize xs.drop (xs.length - n)=ys at *;generalize past.drop (past.length - n)=ps at *;have ly:=QbN pl;refine⟨lc,rq,⟨_,SqL.of cc⟩,λl hl=>?_⟩;let J1:YN:=λ(k:Nat) (σ : St) (HH:Hp)=>∃(u:Option V),σ=[u,jp tt]/\HH l=some (.lst (((ps.take k).map λg=>g.getD i false).map V.bl))/\Same H1 HH;refine LK (xs:=ys) J1 ⟨_,rq,Ad,Ae hl _⟩ (λk σ HH _ h=>?_) (λk x σ HH hx h=>?_) (fun σ HH h=>?_)
  ·obtain⟨u,rfl,e1,e2⟩:=h;exact SqL.of (e2 _ _ cc)
  ·obtain⟨u,rfl,e1,s2⟩:=h;obtain⟨g,hg,a,rfl,ha⟩:=Kh pl hx;have hk:=(Qaf.mp hg).1;refine Gv (Bj ⟨_,rq,_,rq,_,_,_,_,rq,rq,SqT.of (s2 _ _ (sc _ _ ht)),Ah (j:=1) rfl,a,_,_,_,rq,rq,SqL.of (s2 _ _ (sc _ _ ha)),Jv (lg g (Qau hg)),_,e1,Bq (by rw[Qbs,Qbs,Qbi];omega),_,rq,?_,s2.Cr Al.upd hl⟩);rw[Ad,Qcg hg,Qbt,Qbt];rfl
  obtain⟨u,rfl,e1,s2⟩:=h;rw[ly,Qbk] at e1;refine⟨l,_,rq,SqL.of e1,?_⟩;have:((ps.map λg=>g.getD i false).any id)=ps.any λg=>g.getD i false:=by rw[List.any_map];rfl
  rw[this];exact q _ (sc.trans s2)
end
def hid (b:Addr) (H:Hp):Hp:=λa=>if a=b then none else H a
theorem XJ {b a:Addr} {H:Hp} (n:a≠b):hid b H a=H a:=if_neg n
theorem UW {b a:Addr} {H:Hp} {o:HO} (h:hid b H a=some o):a≠b/\H a=some o:=by
 unfold hid at h;by_cases e:a=b
 ·rw[if_pos e] at h;cases h
 ·rw[if_neg e] at h;exact⟨e,h⟩
theorem Kq {b:Addr} {H H':Hp} (s:Al b H H'):Same (hid b H) (hid b H'):=λa o e=>by
 obtain⟨n,h⟩:=UW e;rw[XJ n];exact s _ _ h n
theorem UL {b:Addr} {H:Hp}:Same (hid b H) H:=λa o e=>(UW e).2
theorem Bb {b a:Addr} {H:Hp} {o:HO} (n:a≠b) (h:H a=some o):hid b H a=some o:=by rw[XJ n];exact h
def Nj:PyData->Bool
 | .int _=>true
 | _=>false
mutual
def Dy (w:Nat):PyData->Bool
 | .tuple ds=>decide (ds.length<=400+w)&&(decide (ds.countP Nj<=w)&&DP w ds)
 | .list ds=>decide (ds.length<=400+w)&&DP w ds
 | .str z=>decide (z.length<=w)&&z.cps.toList.all λc=>decide (c < 128)
 | .int i=>decide (i.natAbs < 10 ^ w)
 | _=>true
def DP (w:Nat):List PyData->Bool
 | []=>true
 | x::r=>Dy w x&&DP w r
end
theorem Hu (w:Nat):∀ds:List PyData,DP w ds=true ↔ ∀x∈ds,Dy w x=true
 | []=>⟨(λ_ x h=>by cases h),λ_=>by simp only[DP]⟩
 | a::r=>by
  simp only[DP];rw[Qbg,Hu w r];exact⟨λh x hx=>by
   rcases QbK.mp hx with rfl | hx
   ·exact h.1
   ·exact h.2 x hx,λh=>⟨h a (QaI ..),λx hx=>h x (Qav _ hx)⟩⟩
theorem Jx:∀ds:List PyData,CV ds=true ↔ ∀x∈ds,wide x=true
 | []=>⟨(λ_ x h=>by cases h),λ_=>by simp only[CV]⟩
 | a::r=>by
  simp only[CV];rw[Qbg,Jx r];exact⟨λh x hx=>by
   rcases QbK.mp hx with rfl | hx
   ·exact h.1
   ·exact h.2 x hx,λh=>⟨h a (QaI ..),λx hx=>h x (Qav _ hx)⟩⟩
mutual
theorem Lp {w w':Nat} (l:w<=w'):∀d:PyData,Dy w d=true->Dy w' d=true
 | .tuple ds,h=>by
  simp only[Dy,Qbg] at h ⊢;exact⟨QbF (QbV (QaV h.1) (Nat.add_le_add_left l _)),QbF (QbV (QaV h.2.1) l),Jl l ds h.2.2⟩
 | .list ds,h=>by
  simp only[Dy,Qbg] at h ⊢;exact⟨QbF (QbV (QaV h.1) (Nat.add_le_add_left l _)),Jl l ds h.2⟩
 | .str z,h=>by
  simp only[Dy,Qbg] at h ⊢;exact⟨QbF (QbV (QaV h.1) l),h.2⟩
 | .none,_=>by simp only[Dy]
 | .bool _,_=>by simp only[Dy]
 | .int i,h=>by
  simp only[Dy] at h ⊢;exact QbF (QaH (QaV h) (Nat.pow_le_pow_right (by decide) l))
 | .dict _,_=>by simp only[Dy]
theorem Jl {w w':Nat} (l:w<=w'):∀ds:List PyData,DP w ds=true->DP w' ds=true
 | [],_=>by simp only[DP]
 | x::r,h=>by
  simp only[DP,Qbg] at h ⊢;exact⟨Lp l x h.1,Jl l r h.2⟩
end
mutual
theorem Qk:∀d:PyData,Dy 500 d=true->wide d=true
 | .tuple ds,h=>by
  simp only[Dy,wide,Qbg] at h ⊢;exact⟨h.1,Jk ds h.2.2⟩
 | .list ds,h=>by
  simp only[Dy,wide,Qbg] at h ⊢;exact⟨h.1,Jk ds h.2⟩
 | .str z,h=>by
  simp only[Dy,wide,Qbg] at h ⊢;exact⟨QbF (QbV (QaV h.1) (by decide)),h.2⟩
 | .none,_=>by simp only[wide]
 | .bool _,_=>by simp only[wide]
 | .int _,_=>by simp only[wide]
 | .dict _,_=>by simp only[wide]
theorem Jk:∀ds:List PyData,DP 500 ds=true->CV ds=true
 | [],_=>by simp only[CV]
 | x::r,h=>by
  simp only[DP,CV,Qbg] at h ⊢;exact⟨Qk x h.1,Jk r h.2⟩
end
structure Sl (w k:Nat) (d:PyData):Prop where
 lay:d.canLay0=true
 dep:d.depth<=k
 nar:Dy w d=true
theorem Sl.fit {w k:Nat} {d:PyData} (h:Sl w k d) (hw:w<=500):Fit k d:=⟨h.lay,h.dep,Qk d (Lp hw d h.nar)⟩
theorem Sl.mono {w w' k k':Nat} {d:PyData} (h:Sl w k d) (hw:w<=w') (hk:k<=k'):Sl w' k' d:=⟨h.lay,QbV h.dep hk,Lp hw d h.nar⟩
theorem Ls:∀{ds:List PyData},(∀x∈ds,x.canLay0=true)->PyData.canLayAll0 ds=true
 | [],_=>rfl
 | a::r,h=>by
  show (a.canLay0&&PyData.canLayAll0 r)=true;rw[h a (QaI ..),Ls λx hx=>h x (Qav _ hx)];rfl
theorem Lz:∀{ds:List PyData} {n:Nat},(∀x∈ds,x.depth<=n)->PyData.depthAll ds<=n
 | [],_,_=>Qca _
 | a::r,n,h=>by
  show max a.depth (PyData.depthAll r)<=n;exact Nat.max_le.mpr ⟨h a (QaI ..),Lz λx hx=>h x (Qav _ hx)⟩
theorem Sl.tup {w k:Nat} {ds:List PyData} (h:∀x∈ds,Sl w k x) (l:ds.length<=400+w) (c:ds.countP Nj<=w):Sl w (k+1) (.tuple ds):=by
 refine⟨Ls λx hx=>(h x hx).lay,Nat.succ_le_succ (Lz λx hx=>(h x hx).dep),?_⟩;simp only[Dy,Qbg];exact⟨QbF l,QbF c,(Hu w ds).mpr λx hx=>(h x hx).nar⟩
theorem Sl.lst {w k:Nat} {ds:List PyData} (h:∀x∈ds,Sl w k x) (l:ds.length<=400+w):Sl w (k+1) (.list ds):=by
 refine⟨Ls λx hx=>(h x hx).lay,Nat.succ_le_succ (Lz λx hx=>(h x hx).dep),?_⟩;simp only[Dy,Qbg];exact⟨QbF l,(Hu w ds).mpr λx hx=>(h x hx).nar⟩
theorem Sl.item {w k:Nat} {ds:List PyData} (h:Sl w (k+1) (.tuple ds)) {x:PyData} (hx:x∈ds):Sl w k x:=by
 have h1:PyData.canLayAll0 ds=true:=h.lay;have h2:PyData.depthAll ds+1<=k+1:=h.dep;have h3:=h.nar;simp only[Dy,Qbg] at h3;exact⟨Mq h1 x hx,Mt (by omega) x hx,(Hu w ds).mp h3.2.2 x hx⟩
theorem Sl.len {w k:Nat} {ds:List PyData} (h:Sl w k (.tuple ds)):ds.length<=400+w:=by
 have h3:=h.nar;simp only[Dy,Qbg] at h3;exact QaV h3.1
theorem Sl.few {w k:Nat} {ds:List PyData} (h:Sl w k (.tuple ds)):ds.countP Nj<=w:=by
 have h3:=h.nar;simp only[Dy,Qbg] at h3;exact QaV h3.2.1
theorem Ak.mk {H:Hp}:∀{xs:YG} {ds:List PyData},Paired (Rep H) xs ds->Ak H xs ds
 | _,_,.nil=>.nil
 | _,_,.cons a r=>.cons a (Ak.mk r)
theorem Am {α : Type} {P:α->Prop} {a:α} {r:List α} (h:P a) (t:∀x∈r,P x):∀x∈a::r,P x:=List.forall_mem_cons.mpr ⟨h,t⟩
theorem dj {w k:Nat} {i:Int} (h:i.natAbs < 10 ^ w):Sl w k (.int i):=⟨rfl,Qca _,by simp only[Dy];exact QbF h⟩
theorem gQ:1000000<=10 ^ 30:=by decide
theorem jO {k:Nat} {i:Int} (h:i.natAbs < 1000000):Sl 30 k (.int i):=dj (QaH h gQ)
theorem cZ {w k:Nat} {z:Str} (h2:z.length<=w) (h3:∀c∈z.cps.toList,c < 128):Sl w k (.str z):=by
 refine⟨?_,Qca _,?_⟩
 ·show PyData.strOk z=true;unfold PyData.strOk;rw[Array.all_eq_true'];exact λc hc=>QbF (Nat.lt_trans (h3 c (Array.mem_toList_iff.mpr hc)) (by decide))
 ·simp only[Dy,Qbg];exact⟨QbF h2,Qbo.mpr λc hc=>QbF (h3 c hc)⟩
def Ws (z:Str):Bool:=decide (z.length<=30)&&z.cps.toList.all λc=>decide (c < 128)
theorem W6 {k:Nat} {z:Str} (h:Ws z=true):Sl 30 k (.str z):=by
 unfold Ws at h;rw[Qbg] at h;exact cZ (QaV h.1) λc hc=>QaV (Qbo.mp h.2 c hc)
theorem Zo {b:Addr} {H:Hp} {n:Nat} (hb:BX H b n):BK H (hid b H):=λa xs h=>Bb (λe=>hb.Cz xs (by rw[<-e];exact h)) h
theorem BR {b p:Addr} {H Hi:Hp} (hb:H b≠none) (s:Same H Hi) (f:Hi p=none):p≠b:=λe=>by
 subst e;cases z:H p with
 | none=>exact hb z
 | some o=>rw[s _ _ z] at f;cases f
theorem Yw {I R:TS} {D:Ends} {σ : St} {H:Hp} (P:YO) (hR:∀ σ' H',P σ' H'->R D σ' H') (hI:(∀ σ' H',P σ' H'->R D σ' H')->I { D with nx:=fun σ H=>R D σ H } σ H):Az I R D σ H:=hI hR
def onl (H:Hp):Hp:=λa=>match H a with
 | some (.tup xs)=>some (.tup xs)
 | _=>none
theorem Dc {H:Hp} {a:Addr} {xs:YG} (h:H a=some (.tup xs)):onl H a=some (.tup xs):=by unfold onl;rw[h]
theorem O7 {H:Hp} {a:Addr} {o:HO} (h:onl H a=some o):∃xs,o=.tup xs/\H a=some (.tup xs):=by
 unfold onl at h;split at h
 ·rename_i xs e;cases h;exact⟨xs,rq,e⟩
 ·cases h
theorem Eb {H H':Hp} (s:BK H H'):Same (onl H) (onl H'):=λa o e=>by
 obtain⟨xs,rfl,h⟩:=O7 e;exact Dc (s _ _ h)
theorem O6 {H:Hp} {b:Addr} {n:Nat} (hb:BX H b n):Same (onl H) (hid b H):=λa o e=>by
 obtain⟨xs,rfl,h⟩:=O7 e;exact Zo hb _ _ h
abbrev Gb:Stmt:=(inClass (top 61) 0)
abbrev Ds:YF:=["self","table"]
theorem Lg:Bo ["self","table"] Ds (Ai Gb):=by ac_rfl
abbrev Gq:Stmt:=(inClass (top 61) 1)
abbrev Ey:YF:=["self","warned","turned","hour"]
abbrev xn:YF:=["self","warned","turned","hour","rows","outs","now","row"]
theorem Ei:Bo xn Ey (Ai Gq):=by ac_rfl
structure Tx (K:YD) (mg:YB) (C:Addr):Prop extends Tc mg where
 cl:Cls K C
 mgC:mg "Runner"=some (.ref C)
 Pg:Ia K C "table"
 Lq:Ia K C "past"
def fr (t p:Addr):List (Str×V):=[("table",.ref t),("past",.ref p)]
theorem Wi (t p:Addr):((fr t p).map (·.1)).Nodup:=by show (["table","past"]:YF).Nodup;decide +kernel
theorem XR (t p:Addr):List.lookup ("table":Str) (fr t p)=some (V.ref t):=Tj (i:=0) (Wi t p) rfl
theorem S9 (t p:Addr):List.lookup ("past":Str) (fr t p)=some (V.ref p):=Tj (i:=1) (Wi t p) rfl
theorem YS (t p q:Addr):DK "past" (.ref q) (fr t p)=fr t q:=XS (i:=1) (Wi t p) rfl
theorem jl {t p:Addr} {f:Str} (h:f∉(["table","past"]:YF)):List.lookup f (fr t p)=none:=Z8 h
def CG (ws ks:List Int) (h:Int) (past:List (List Bool)) (rows:List Rw):List Bool:=rows.foldl (λnow r=>now++[Gs ws ks h past now r]) []
theorem Ng {ws ks:List Int} {h:Int} {past:List (List Bool)} {rows:List Rw} {i:Nat} {r:Rw} (e:rows[i]?=some r):CG ws ks h past (rows.take (i+1))=CG ws ks h past (rows.take i)++[Gs ws ks h past (CG ws ks h past (rows.take i)) r]:=by
 unfold CG;rw[Qcg e,List.foldl_append];rfl
theorem O9 (ws ks:List Int) (h:Int) (past:List (List Bool)) (rows:List Rw):(CG ws ks h past rows).length=rows.length:=by
 have key:∀(rs:List Rw) (acc:List Bool),(rs.foldl (λnow r=>now++[Gs ws ks h past now r]) acc).length=acc.length+rs.length:=by
  intro rs
  induction rs with
  | nil=>intro acc;rfl
  | cons r t ih=>intro acc;rw[List.foldl_cons,ih,QaF,Qbj,Qbj,List.length_nil];omega
 have:=key rows [];rw[List.length_nil] at this;unfold CG;omega
def Er (past:List (List Bool)):List (List Bool):=past.drop (past.length - 20)
theorem Zm {ws ks:List Int} {h:Int} {past:List (List Bool)} {now:List Bool} {r:Rw} {m:Nat} (ok:r.ok m):Gs ws ks h (Er past) now r=Gs ws ks h past now r:=by
 cases r with
 | thn i j n=>
  have e:(Er past).drop ((Er past).length - n)=past.drop (past.length - n):=by
   have h4:n<=20:=ok.2.2.2;unfold Er;rw[List.drop_drop,Qbm];congr 1;omega
  show (now.getD j false&&((Er past).drop ((Er past).length - n)).any _)=(now.getD j false&&(past.drop (past.length - n)).any _);rw[e]
 | _=>rfl
def OkR (rows:List Rw):Prop:=∀(i:Nat) (r:Rw),rows[i]?=some r->r.ok i
theorem UG {ws ks:List Int} {h:Int} {past:List (List Bool)} {rows:List Rw} (ok:OkR rows):∀i,i<=rows.length->CG ws ks h (Er past) (rows.take i)=CG ws ks h past (rows.take i)
 | 0,_=>by rw[List.take_zero];rfl
 | i+1,hi=>by
  have e:rows[i]?=some rows[i]:=Qaj (by omega);rw[Ng e,Ng e,UG ok i (by omega),Zm (ok i _ e)]
def G7 (outs:List (Int×Nat)) (now:List Bool):List Int:=(outs.filter λo=>now.getD o.2 false).map (·.1)
def outD (o:Int×Nat):PyData:=.tuple [.int o.1,.int (o.2:Int)]
structure JF (rows:List Rw) (outs:List (Int×Nat)):Prop where
 ok:OkR rows
 RG:rows.length<=320
 o16:outs.length<=16
 io:∀o∈outs,1<=o.1/\o.1<=99/\o.2 < rows.length
 up:Hh (outs.map (·.1))=true
def Hq (H:Hp) (t:Addr) (rows:List Rw) (outs:List (Int×Nat)):Prop:=∃tr to xr xo,H t=some (.tup [.ref tr,.ref to])/\H tr=some (.tup xr)/\H to=some (.tup xo)/\Ak (onl H) xr (rows.map Rw.data)/\Ak (onl H) xo (outs.map outD)
theorem FW {H:Hp}:Same (onl H) H:=λa o e=>by
 obtain⟨xs,rfl,h⟩:=O7 e;exact h
theorem Hq.tups {H H':Hp} {t:Addr} {rows:List Rw} {outs:List (Int×Nat)} (h:Hq H t rows outs) (s:BK H H'):Hq H' t rows outs:=by
 obtain⟨tr,to,xr,xo,h1,h2,h3,h4,h5⟩:=h;exact⟨tr,to,xr,xo,s _ _ h1,s _ _ h2,s _ _ h3,Ak.same (Eb s) h4,Ak.same (Eb s) h5⟩
def Mf (H:Hp) (t:Addr) (ws ks:List Int) (h:Int):Prop:=∃tw tk,H t=some (.tup [.ref tw,.ref tk,.int h])/\H tw=some (.tup (ws.map V.int))/\H tk=some (.tup (ks.map V.int))
theorem Mf.tups {H H':Hp} {t:Addr} {ws ks:List Int} {h:Int} (b:Mf H t ws ks h) (s:BK H H'):Mf H' t ws ks h:=by
 obtain⟨tw,tk,h1,h2,h3⟩:=b;exact⟨tw,tk,s _ _ h1,s _ _ h2,s _ _ h3⟩
def HB (M:List Addr) (H:Hp) (v:V) (g:List Bool):Prop:=∃a,v=.ref a/\a∉M/\H a=some (.lst (g.map V.bl))
def Et (M:List Addr) (H H':Hp):Prop:=∀c o,H c=some o->c∉M->H' c=some o
theorem Et.of {M:List Addr} {H H':Hp} (s:Same H H'):Et M H H':=λc o e _=>s c o e
theorem Et.ofB {M:List Addr} {b:Addr} {H H':Hp} (s:Al b H H') (h:b∈M):Et M H H':=λc o e n=>s c o e (λz=>n (z ▸ h))
theorem Et.trans {M:List Addr} {H H' H2:Hp} (s:Et M H H') (s':Et M H' H2):Et M H H2:=λc o e n=>s' c o (s c o e n) n
theorem HB.Vz {M:List Addr} {H H':Hp} {v:V} {g:List Bool} (h:HB M H v g) (s:Et M H H'):HB M H' v g:=by
 obtain⟨a,rfl,n,e⟩:=h;exact⟨a,rq,n,s _ _ e n⟩
theorem HB.held {M:List Addr} {H:Hp} {v:V} {g:List Bool} (h:HB M H v g):HeldAt H v g:=by
 obtain⟨a,rfl,_,e⟩:=h;exact⟨a,rq,e⟩
theorem pmap {α β : Type} {F G:α->β->Prop} (f:∀a b,F a b->G a b):∀{l:List α} {r:List β},Paired F l r->Paired G l r
 | _,_,.nil=>.nil
 | _,_,.cons h t=>.cons (f _ _ h) (pmap f t)
theorem O4 {α β : Type} {F:α->β->Prop}:∀{a₁ b₁ : List α} {a₂ b₂ : List β},Paired F a₁ a₂->Paired F b₁ b₂->Paired F (a₁++b₁) (a₂++b₂)
 | _,_,_,_,.nil,t=>t
 | _,_,_,_,.cons r s,t=>.cons r (O4 s t)
def Kz (C:Addr) (M:List Addr) (H:Hp) (p t:Addr) (past:List (List Bool)):Prop:=∃dx pl xs,H p=some (.ins C dx (fr t pl))/\pl∉M/\H pl=some (.lst xs)/\Paired (HB M H) xs (Er past)
theorem Kz.other {C:Addr} {M:List Addr} {H H':Hp} {p t:Addr} {past:List (List Bool)} (h:Kz C M H p t past) (s:Et M H H') (sp:∀o,H p=some o->H' p=some o):Kz C M H' p t past:=by
 obtain⟨dx,pl,xs,h1,h2,h3,h4⟩:=h;exact⟨dx,pl,xs,sp _ h1,h2,s _ _ h3 h2,pmap (λ_ _ z=>z.Vz s) h4⟩
def W2 (C:Addr):Sp:=λvs H Q _=>∃p dx t,vs=[.ref p,.ref t]/\H p=some (.ins C dx [])/\∀pl H',H pl=none->H' p=some (.ins C dx (fr t pl))->H' pl=some (.lst [])->Al p H H'->Q .non H'
def W5 (C:Addr):Sp:=λvs H Q _=>∃(M:List Addr) (p t tw tk:Addr) (ws ks:List Int) (h:Int) (rows:List Rw) (outs:List (Int×Nat)) (past:List (List Bool)),vs=[.ref p,.ref tw,.ref tk,.int h]/\p∈M/\(∀c∈M,H c≠none)/\Kz C M H p t past/\Hq H t rows outs/\JF rows outs/\H tw=some (.tup (ws.map V.int))/\H tk=some (.tup (ks.map V.int))/\(∀g∈past,rows.length<=g.length) /\
 ∀r H',H' r=some (.tup ((G7 outs (CG ws ks h past rows)).map V.int))->Kz C M H' p t (past++[CG ws ks h past rows])->Al p H H'->Q (.ref r) H'
theorem U9 (past:List (List Bool)):(Er past).length<=20:=by unfold Er;rw[Qbm];omega
theorem bM (past:List (List Bool)) (g:List Bool):(Er past++[g]).drop ((Er past++[g]).length - 20)=Er (past++[g]):=by
 unfold Er;rw[QaF,QaF,Qbm,Qas];by_cases h:past.length < 20
 ·rw[show past.length - 20=0 by omega,List.drop_zero,show past.length - 0+1 - 20=past.length+1 - 20 by omega]
 ·rw[show past.length - (past.length - 20)+1 - 20=1 by omega];rw[List.drop_append_of_le_length (by rw[Qbm];omega),List.drop_drop,List.drop_append_of_le_length (by omega)];congr 2;omega
section
variable {P:Program} {w:World} {K:YD} {mg:YB} {base:Heap} {C:Addr}
theorem aX (F:∃f fd,Fun K "__init__" "Runner.__init__" Gb f fd/\Mk K C f/\Binds K fd Ds []) (T:Tx K mg C):Wx P w K mg base C 1 Ds (W2 C):=by
 obtain⟨f,fd,F,Mk,b⟩:=F;refine⟨f,fd,Mk,b,F.ok Lg (λvs H Q E h=>?_) (λcdv A outer s H vs Q E hr h=>?_)⟩
 ·obtain⟨p,dx,t,rfl,_⟩:=h;rfl
 obtain⟨p,dx,t,rfl,hp,q⟩:=h;refine⟨_,(Af (OD (pv 0) (pv 1) rfl)
 (Aj (OD (pv 0) (CT Ab) rfl))),?_⟩
 refine⟨_,rq,_,rq,p,C,dx,_,_,rq,hp,T.cl,T.Pg,(by show 0 < 1000;decide),Ti (by show _∉([]:YF);decide +kernel),λH1 h1 s1=>?_⟩;refine⟨Ag (by show 0<=1000;decide),λL hL=>?_⟩;have s2:=Ae hL (.lst []);have c2:upd H1 L (.lst []) L=some (.lst []):=Ad;have h2:=s2 _ _ h1;have nL:p≠L:=BJ h1 hL;have fL:H L=none:=s1.free ⟨_,h1⟩ hL;generalize upd H1 L (.lst [])=H2 at *;refine⟨_,rq,p,C,dx,_,_,rq,h2,T.cl,T.Lq,(by show 1 < 1000;decide),Ti (by show _∉(["table"]:YF);decide +kernel),λH3 h3 s3=>?_⟩;exact q L H3 fL h3 (s3 _ _ c2 nL.symm) ((s1.trans (Al.of s2)).trans s3)
abbrev xh:YF:=["address","number","now"]
theorem aY (c:Q6 K C "beat" "Runner.beat" Gq Ey) (T:Tx K mg C) (Uh:Good P w K mg base "row_holds" 2 Gi Ut):Q5 P w K mg base C "beat" 3 Ey (W5 C):=by
 refine c.good Ei (λvs H Q E h=>?_) (λf cdv A outer s H vs Q E hr h=>?_)
 ·obtain⟨M,p,t,tw,tk,ws,ks,h,rows,outs,past,rfl,_⟩:=h;rfl
 obtain⟨M,p,t,tw,tk,ws,ks,h,rows,outs,past,rfl,pM,hM,R,TB,tok,htw,htk,hlen,q⟩:=h;refine⟨_,(Af (Ft (RM (pv 0) rfl) (Gh rfl (Bd (Ay (i:=4) Ei.nd rfl (Or.inl rfl)) (Bd (Ay (i:=5) Ei.nd rfl (Or.inl rfl)) CW))))
 (Af (BZ (i:=6) Ei.nd rfl (Or.inr rfl) (CT Ab))
 (Af (Li PassesOwn.never rfl (Eu (pv 4)) (Ay (i:=7) Ei.nd rfl (Or.inl rfl))
 (Aj (OJ (VJ PySem.F.plainAttrs_list PySem.F.slot_list_append PySem.F.type_list_append Js (pv 6) (Aa (Aw Uh hr (Aa (pv 7) (Aa (pv 6) (Aa (RM (pv 0) rfl) (Aa (Aq (Aa (pv 1) (Aa (pv 2) (Aa (pv 3) Ab)))) Ab))))) Ab)))))
 (Af (OD (pv 0) (Dm Iz (Ax N7 (RM (pv 0) rfl) (CT (Aa (pv 6) Ab))) (Dl (NT La (Hz rfl T.MOST_AHEAD))) Fe) rfl)
 (Aj (Av (Cm Dq rfl T.tuple Es (Aa (CP (N':=xh) rfl (Ca.of (src:=[none,none,some 6]) (Ai Gq) xn rfl rfl rfl (by trivial) (by trivial) (by trivial) rfl (by trivial)) (Eu (pv 5)) (λ_ _ _ _=>(IK (K:=K) (n:=2) rfl rfl (Bd (Ay (i:=0) (show List.Nodup (xh:YF) by trivial) rfl (Or.inl rfl)) (Bd (Ay (i:=1) (show List.Nodup (xh:YF) by trivial) rfl (Or.inl rfl)) CW)))) (λ_ _ _ _=>(NQ (Qg (K:=K) rfl (Ao (Ko (K:=K) rfl) (pv 2) (pv 1) (λ_ _=>rfl)) (λ_=>rfl)))) (λ_ _ _ _=>(pv 0))) Ab)))))))),?_⟩
 show let R0:TS:=_;let R1:TS:=Az _ R0;let R2:TS:=_;let R3:TS:=Az (Oo _ _ R2) R1;let R4:TS:=Az _ R3;Az _ R4 _ _ _;intro R0 R1 R2 R3 R4;obtain⟨dx,pl,xs,ob,plM,hpl,hps⟩:=R;obtain⟨tr,to,xr,xo,ht,htr,hto,rsr,rso⟩:=TB;have fW:∀{H':Hp} {a:Addr},Same H H'->H' a=none->a∉M:=λs f z=>hM _ z (s.free f);have lxr:=Ak.len rsr;have lxo:=Ak.len rso;rw[Qbs] at lxr lxo;refine⟨_,rq,p,C,dx,_,_,rq,ob,T.cl,T.Pg,XR _ _,t,_,rq,SqT.of ht,rq,_,_,rq,_,_,rq,rq,?_⟩;refine⟨Ag (by show 0<=1000;decide),λln hln=>?_⟩;refine⟨_,rq,tr,rq,⟨_,SqT.of (Ae hln _ _ _ htr)⟩,?_⟩;have pt:∀xs,H p≠some (.tup xs):=λxs z=>by rw[ob] at z;cases z
 let J0:YN:=λi σ HH=>∃u7,σ=[jp p,jp tw,jp tk,some (.int h),jp tr,jp to,jp ln,u7]/\HH ln=some (.lst ((CG ws ks h (Er past) (rows.take i)).map V.bl))/\Same H HH;refine U3 (xs:=xr) J0 ⟨none,rq,Ad,Ae hln _⟩ (λi σ HH _ h=>?_) (λi x σ HH hx h=>?_) (fun σ HH h=>?_)
 ·obtain⟨u7,rfl,e1,s1⟩:=h;exact SqT.of (s1 _ _ htr)
 ·obtain⟨u7,rfl,e1,s1⟩:=h;obtain⟨d,hd,rd⟩:=Ak.at_ rsr hx;rw[QaU] at hd;obtain⟨r,hr',rfl⟩:=Qan.mp hd;have hi:=(Qaf.mp hr').1;have l1:(CG ws ks h (Er past) (rows.take i)).length=i:=by rw[O9,Qbi];omega
  have r3:=tok.RG;have ob1:=s1 _ _ ob;refine Gv ⟨_,rq,.inl ⟨rq,_,SqL.of e1⟩,_,rq,_,rq,_,rq,p,C,dx,_,_,rq,ob1,T.cl,T.Lq,S9 _ _,_,rq,_,rq,_,rq,Ag (by show 3<=1000;decide),λtb htb=>?_⟩;have s2:=Ae htb (.tup [.ref tw,.ref tk,.int h]);have c2:upd HH tb (.tup [.ref tw,.ref tk,.int h]) tb=some (.tup [.ref tw,.ref tk,.int h]):=Ad;have s02:=s1.trans s2;have e2:=s2 _ _ e1;generalize upd HH tb (.tup [.ref tw,.ref tk,.int h])=H2 at *;refine⟨x,r,i,ln,pl,tb,tw,tk,_,xs,Er past,ws,ks,h,rq,Rep.same (Same.trans FW s02) rd,tok.ok i r hr',e2,l1,s02 _ _ hpl,pmap (λ_ _ z=>z.held.same s02) hps,λg hg=>?_,by have:=U9 past;omega,c2,s02 _ _ htw,s02 _ _ htk,λH3 s3=>?_⟩
  ·exact QbV (by omega) (hlen g (List.mem_of_mem_drop hg))
  ·refine⟨ln,_,_,rq,rq,s3 _ _ e2,Bq (by rw[Qbs,l1];omega),?_⟩;have s03:=s02.trans s3;refine⟨_,rq,?_,s03.Cr Al.upd hln⟩;rw[Ad,Ng hr',Qbt];rfl
 ·obtain⟨u7,rfl,e1,s1⟩:=h;rw[lxr,UG tok.ok _ (QbZ _),Qbk] at e1;generalize lX:CG ws ks h past rows=now at *;have Zf:now.length=rows.length:=by rw[<-lX,O9]
  have ob1:=s1 _ _ ob;have lxs:=QbN hps;have l20:=U9 past;refine⟨_,rq,p,C,dx,_,_,rq,ob1,T.cl,T.Lq,S9 _ _,_,rq,Ag (by show 1<=1000;decide),λl1 hl1=>?_⟩;have s2:=Ae hl1 (.lst [.ref ln]);have c2:upd HH l1 (.lst [.ref ln]) l1=some (.lst [.ref ln]):=Ad;generalize upd HH l1 (.lst [.ref ln])=H2 at *;have s02:=s1.trans s2;refine⟨pl,l1,_,_,rq,rq,s02 _ _ hpl,c2,Ag (by show xs.length+1<=1000;omega),λl2 hl2=>?_⟩;have s3:=Ae hl2 (.lst (xs++[V.ref ln]));have c3:upd H2 l2 (.lst (xs++[V.ref ln])) l2=some (.lst (xs++[V.ref ln])):=Ad;generalize upd H2 l2 (.lst (xs++[V.ref ln]))=H3 at *;refine⟨_,rq,_,rq,l2,_,rq,SqL.of c3,λl3 hl3=>?_⟩;have ec:=Tp (xs:=xs++[V.ref ln]) (n:=20) (by decide);have ec:Cy (xs++[V.ref ln]) (some (-20)) none=(xs++[V.ref ln]).drop ((xs++[V.ref ln]).length - 20):=ec;rw[ec];have s4:=Ae hl3 (.lst ((xs++[V.ref ln]).drop ((xs++[V.ref ln]).length - 20)));have c4:upd H3 l3 (.lst ((xs++[V.ref ln]).drop ((xs++[V.ref ln]).length - 20))) l3=some (.lst ((xs++[V.ref ln]).drop ((xs++[V.ref ln]).length - 20))):=Ad;generalize upd H3 l3 (.lst ((xs++[V.ref ln]).drop ((xs++[V.ref ln]).length - 20)))=H4 at *;have s03:=s02.trans s3;have s04:=s03.trans s4;have l3M:l3∉M:=fW s03 hl3;have lnM:ln∉M:=λz=>hM _ z hln;have nl3:l3≠p:=(BJ (s03 _ _ ob) hl3).symm;refine⟨_,rq,p,C,dx,_,_,rq,s04 _ _ ob,T.cl,T.Lq,(by show 2 < 1000;decide),YS _ _ _,λH5 h5 s5=>?_⟩;have s05:Al p H H5:=(Al.of s04).trans s5;have tu:BK H H5:=s05.tup pt;have e5:H5 ln=some (.lst (now.map V.bl)):=s5 _ _ (s2.trans (s3.trans s4) _ _ e1) (λz=>by rw[z,ob] at hln;cases hln);have R5:Kz C M H5 p t (past++[now]):=by
   refine⟨dx,l3,_,h5,l3M,s5 _ _ c4 nl3,?_⟩;have pr:Paired (HB M H5) (xs++[V.ref ln]) (Er past++[now]):=O4 (pmap (λ_ _ z=>z.Vz (Et.ofB s05 pM)) hps) (.cons ⟨ln,rq,lnM,e5⟩ .nil);have:=Paired.Wj ((xs++[V.ref ln]).length - 20) pr;rw[show (xs++[V.ref ln]).length=(Er past++[now]).length by rw[QaF,QaF,lxs];rfl] at this ⊢;rw[bM] at this;exact this
  refine⟨_,rq,to,rq,⟨_,SqT.of (tu _ _ hto)⟩,λl hl=>?_⟩;let J1:YN:=λ(i:Nat) (σ : St) (HX:Hp)=>∃(u v:Option V),σ=[u,v,jp ln]/\HX l=some (.lst ((G7 (outs.take i) now).map V.int))/\Same H5 HX;refine Ec (xs:=xo) J1 ⟨_,_,rq,Ad,Ae hl _⟩ (λi σ HX _ h=>?_) (λi x σ HX hx h=>?_) (fun σ HX h=>?_)
  ·obtain⟨u,v,rfl,g1,g2⟩:=h;exact SqT.of (g2 _ _ (tu _ _ hto))
  ·obtain⟨u,v,rfl,g1,g2⟩:=h;obtain⟨d,hd,rd⟩:=Ak.at_ rso hx;rw[QaU] at hd;obtain⟨o,ho,rfl⟩:=Qan.mp hd;have hi:=(Qaf.mp ho).1;have io:=tok.io o (Qau ho);have o16:=tok.o16;have rd:=Rep.same (Eb (tu.trans (BK.of g2))) rd;have rd:=Rep.same FW rd;cases rd with
   | tup eg rg=>
   cases rg with
   | cons ra rg=>
   cases rg with
   | cons rm rg=>
   cases rg;cases ra;cases rm;refine⟨_,_,rq,SqT.of eg,rq,_,_,rq,_,_,rq,rq,?_⟩;refine⟨_,rq,_,rq,ln,_,_,_,rq,rq,SqL.of (g2 _ _ e5),Jv (by rw[Zf];exact io.2.2),_,rq,?_⟩;have tk:=Qcg ho;cases e:now.getD o.2 false with
   | true=>
    refine Bj ⟨_,rq,_,g1,Bq ?_,_,_,rq,?_,g2.Cr Al.upd hl⟩
    ·unfold G7;rw[Qbs,Qbs];exact QbV (Qat _ _) (by rw[Qbi];omega)
    ·rw[Ad];unfold G7;rw[tk,QaO,Qbn,if_pos e,Qbt,Qbt];rfl
   | false=>
    refine Bu ⟨_,_,rq,?_,g2⟩;unfold G7;rw[tk,QaO,Qbn,if_neg (by rw[e];decide),List.filter_nil,QbB];exact g1
  obtain⟨u,v,rfl,g1,g2⟩:=h;rw[lxo,Qbk] at g1;refine⟨l,_,rq,.inl ⟨SqL.of g1,λr hr'=>?_⟩⟩;have s6:=g2.trans (Ae hr' (.tup ((G7 outs now).map V.int)));exact q r _ Ad (R5.other (Et.of s6) (s6 _)) (s05.trans (Al.of s6))
end
abbrev Jg:Stmt:=top 9
abbrev Fy:YF:=Jj
theorem Qz:Bo Jj Fy (Ai Jg):=by ac_rfl
abbrev Jf:Stmt:=top 48
abbrev Fx:YF:=FQ
theorem Gp:Bo ["thing","warned","turned","hour"] Fx (Ai Jf):=by ac_rfl
abbrev Je:Stmt:=top 49
abbrev Fw:YF:=FQ
theorem Qy:Bo FQ Fw (Ai Je):=by ac_rfl
structure Ty (K:YD) (mg:YB) (C:Addr):Prop extends Tx K mg C where
 MOST_BEATS:∃u,mg "MOST_BEATS"=some u/\RelV (.int 60) u
def whP:PyData->Bool
 | .int _=>true
 | _=>false
theorem cJ {H:Hp} {v:V} {d:PyData} (r:Rep H v d):isW v=whP d:=by cases r <;> rfl
def Vj (d:PyData) (n:Int):Bool:=match d with
 | .tuple ds=>(decide (n<=ds.length)&&decide ((ds.length:Int)<=n))&&ds.all whP
 | _=>false
def brP (d:PyData):Bool:=match d with
 | .tuple [w,t,h]=>rwP w 0 30 1 99&&(rwP t 0 10 0 9&&wiP h 0 23)
 | _=>false
def lQ:PyData->Bool
 | .list _=>true
 | _=>false
def Iu (d:PyData):Bool:=match d with
 | .list ds=>(decide ((1:Int)<=ds.length)&&decide ((ds.length:Int)<=60))&&ds.all brP
 | _=>false
def cX:Sp:=λvs H Q _=>∃(v:V) (d:PyData) (n:Int),vs=[v,.int n]/\Rep H v d/\Fit 64 d/\∀H',Same H H'->Q (.bl (Vj d n)) H'
theorem Xx {K:YD} {H:Hp} {x:V} {d:PyData} {Q:VK} (r:Rep H x d) (q:Q (.bl (lQ d)) H):Ig K [x,.ty "list"] H Q:=by
 unfold Ig;cases r with
 | non=>exact⟨_,_,_,_,rfl,.non,by rfl,q⟩
 | bl b=>exact⟨_,_,_,_,rfl,.bl b,by rfl,q⟩
 | int i=>exact⟨_,_,_,_,rfl,.int i,by rfl,q⟩
 | str z=>exact⟨_,_,_,_,rfl,.str z,by rfl,q⟩
 | tup e _=>exact⟨_,_,_,_,rfl,.tup e,by rfl,q⟩
 | lst e _=>exact⟨_,_,_,_,rfl,.lst e,by rfl,q⟩
theorem Wo {K:YD} {a l:Addr} {xs:YG} {ds:List PyData} {fb:PyData->Bool} {te:TE} {Q:VK} {r:St} {H:Hp} (hl:H l=none) (ha:H a=some (.lst xs)) (rs:Ak H xs ds) (h9:ds.length<=900)
  (hs:∀(x:V) (d:PyData) (HH:Hp),d∈ds->Rep HH x d->Same H HH->∀R:VK,(∀H',Same HH H'->R (.bl (fb d)) H')->te (some x::r) HH R)
  (hq:∀H',H' l=some (.lst ((ds.map fb).map V.bl))->Same H H'->Q (.ref l) H'):Ef (Itl K a) (Jt 0) (λ_ H Q=>Q true H) te Q (none::r) (upd H l (.lst [])) l:=by
 have lx:=Ak.len rs;let J0:YN:=λi σ HH=>∃u,σ=u::r/\HH l=some (.lst (((ds.take i).map fb).map V.bl))/\Same H HH;refine LK (xs:=xs) J0 ⟨_,rq,Ad,Ae hl _⟩ (λi σ HH _ h=>?_) (λi x σ HH hx h=>?_) (fun σ HH h=>?_)
 ·obtain⟨u,rfl,_,s⟩:=h;exact SqL.of (s _ _ ha)
 ·obtain⟨u,rfl,e,s⟩:=h;obtain⟨d,hd,rd⟩:=Ak.at_ rs hx;have hi:=(Qaf.mp hd).1;unfold Jt;dsimp only;refine Bj (hs x d HH (Qau hd) (Rep.same s rd) s _ λH' s'=>⟨_,s' _ _ e,Bq (by rw[Qbs,Qbs,Qbi];omega),_,rq,?_,(s.trans s').Cr Al.upd hl⟩);rw[Ad,Qcg hd,Qbt,Qbt];rfl
 ·obtain⟨u,rfl,e,s⟩:=h;rw[lx,Qbk] at e;exact hq _ e s
theorem Fit.iZ {n:Nat} {ds:List PyData} (h:Fit n (.list ds)) {x:PyData} (hx:x∈ds):Fit n x:=by
 have h1:PyData.canLayAll0 ds=true:=h.lay;have h2:PyData.depthAll ds+1<=n:=h.dep;have h3:(decide (ds.length<=900)&&CV ds)=true:=by simpa only [wide] using h.wd
 rw[Qbg] at h3;exact⟨Mq h1 x hx,Mt (by omega) x hx,Q7 h3.2 x hx⟩
theorem eX {ds:List PyData} (h1:(3:Int)<=ds.length) (h2:(ds.length:Int)<=3):∃a b c,ds=[a,b,c]:=by
 match ds,h1,h2 with
 | [a,b,c],_,_=>exact⟨a,b,c,rfl⟩
 | [],h1,_=>exact absurd h1 (by decide)
 | [a],h1,_=>exact absurd h1 (by show ¬(3:Int)<=1;decide)
 | [a,b],h1,_=>exact absurd h1 (by show ¬(3:Int)<=2;decide)
 | a::b::c::d::r,_,h2=>
  have h2:((a::b::c::d::r).length:Int)<=3:=h2;simp only[Qbj] at h2;omega
theorem jq {d:PyData} (h:Di d 3 3=false):brP d=false:=by
 unfold brP;split
 ·exact absurd (show true=false from h) (by decide)
 ·rfl
section
variable {P:Program} {w:World} {K:YD} {mg:YB} {base:Heap} {C:Addr}
theorem QG (c:Code K mg "are_wholes" Jg Fy) (T:Tc mg) (Cd:Good P w K mg base "is_row" 1 Dn GK) (Ks:Good P w K mg base "is_whole" 1 FQ Yr):Good P w K mg base "are_wholes" 2 Fy cX:=by
 refine c.good Qz (λvs H Q E h=>?_) (λf cdv A outer s H vs Q E hr h=>?_)
 ·obtain⟨v,d,n,rfl,_⟩:=h;rfl
 obtain⟨v,d,n,rfl,rd,fit,q⟩:=h;refine⟨_,(Aj (Av (Cg (Aw Cd hr (Aa (pv 0) (Aa (pv 1) (Aa (pv 1) Ab)))) (Cw (Bc (Gy rfl) rfl T.all Jo (Aa (CP (N':=["part"]) rfl (Ca.plain rfl (by trivial) (by trivial) (by trivial)) (Eu (pv 0)) (λ_ _ _ _=>(Ay (i:=0) (show List.Nodup (["part"]:YF) by trivial) rfl (Or.inl rfl))) (λ_ _ _ _=>DX) (λ_ _ _ _=>(Aw Ks hr (Aa (pv 0) Ab)))) Ab)))))),?_⟩;refine⟨_,rq,_,rq,_,rq,v,n,n,rq,rd.kn,_,rq,?_⟩;rw[Fd rd];cases e2:Di d n n with
 | false=>
  have:Vj d n=false:=by
   unfold Vj;split
   ·rename_i ds;have e2:(decide (n<=ds.length)&&decide ((ds.length:Int)<=n))=false:=e2;rw[e2];rfl
   ·rfl
  rw[this] at q;exact Bu (q _ (Same.refl _))
 | true=>
 obtain⟨t,xs,ds,rfl,rfl,ht,rs,h1,h2⟩:=Fb rd e2;have e2:(decide (n<=ds.length)&&decide ((ds.length:Int)<=n))=true:=e2;have q:∀H',Same H H'->Q (.bl ((decide (n<=ds.length)&&decide ((ds.length:Int)<=n))&&ds.all whP)) H':=q;rw[e2,QbL] at q;have l9:=fit.len;refine Bj ⟨_,rq,t,rq,⟨_,SqT.of ht⟩,λl hl=>?_⟩;refine Yd (fb:=whP) hl ht rs l9 (λx dx HH hdx rx sx R hR=>⟨_,rq,x,rq,rx.kn,?_⟩) (λH2 hc s2=>?_)
 ·rw[cJ rx];exact hR _ (Same.refl _)
 ·refine⟨l,_,rq,SqL.of hc,?_⟩;rw[all_map];exact q _ s2
theorem QF (c:Code K mg "is_brought" Jf Fx) (T:Tc mg) (Cd:Good P w K mg base "is_row" 1 Dn GK) (BL:Good P w K mg base "is_within" 2 CJ Ka) (DG:Good P w K mg base "are_rising_within" 3 Cu Ri):Good P w K mg base "is_brought" 4 Fx (Le brP):=by
 refine c.good Gp (λvs H Q E h=>?_) (λf cdv A outer s H vs Q E hr h=>?_)
 ·obtain⟨v,d,rfl,_⟩:=h;rfl
 obtain⟨v,d,rfl,rd,fit,q⟩:=h;refine⟨_,(Af (Bv (Dw (Dj (Aw Cd hr (Aa (pv 0) (Aa Ac (Aa Ac Ab)))))) (Aj (Av Df)) Bh)
 (Af (Ft (pv 0) (Gh rfl (Bd (Ay (i:=1) Gp.nd rfl (Or.inl rfl)) (Bd (Ay (i:=2) Gp.nd rfl (Or.inl rfl)) (Bd (Ay (i:=3) Gp.nd rfl (Or.inl rfl)) CW)))))
 (Aj (Av (Cg (Aw DG hr (@Aa _ _ _ _ _ (pv 1) (@Aa _ _ _ _ _ (@Ac _ _ _ _) (@Aa _ _ _ _ _ (@Ac _ _ _ _) (@Aa _ _ _ _ _ (@Ac _ _ _ _) (@Aa _ _ _ _ _ (@Ac _ _ _ _) (@Ab _) BW) BW) BW) BW) Uq)) (Cg (Aw DG hr (@Aa _ _ _ _ _ (pv 2) (@Aa _ _ _ _ _ (@Ac _ _ _ _) (@Aa _ _ _ _ _ (@Ac _ _ _ _) (@Aa _ _ _ _ _ (@Ac _ _ _ _) (@Aa _ _ _ _ _ (@Ac _ _ _ _) (@Ab _) BW) BW) BW) BW) Uq)) (Cw (Aw BL hr (Aa (pv 3) (Aa Ac (Aa Ac Ab))))))))))),?_⟩
 show let R0:TS:=_;let R1:TS:=Az _ R0;Az _ R1 _ _ _;intro R0 R1;refine⟨_,rq,v,3,3,rq,rd.kn,_,rq,?_⟩;rw[Fd rd];cases e2:Di d 3 3 with
 | false=>
  rw[jq e2] at q;exact Bj (q _ (Same.refl _))
 | true=>
 obtain⟨t,xs,ds,rfl,rfl,ht,rs,h1,h2⟩:=Fb rd e2;obtain⟨dw,dt,dh,rfl⟩:=eX h1 h2;cases rs with
 | cons rw' rs=>
 cases rs with
 | cons rt rs=>
 cases rs with
 | cons rh rs=>
 cases rs;have q:∀H',Same H H'->Q (.bl (rwP dw 0 30 1 99&&(rwP dt 0 10 0 9&&wiP dh 0 23))) H':=q;have f1:Fit 64 dw:=fit.item' (by simp);have f2:Fit 64 dt:=fit.item' (by simp);refine Bu ⟨_,rq,t,_,rq,SqT.of ht,rq,_,_,rq,_,_,rq,_,_,rq,rq,?_⟩;refine⟨_,rq,_,0,30,1,99,dw,64,rq,rw',f1,λH1 s1=>⟨_,rq,?_⟩⟩;cases ea:rwP dw 0 30 1 99 with
 | false=>rw[ea] at q;exact Bu (q _ s1)
 | true=>
  rw[ea,QbL] at q;refine Bj ⟨_,rq,_,0,10,0,9,dt,64,rq,Rep.same s1 rt,f2,λH2 s2=>⟨_,rq,?_⟩⟩;cases eb:rwP dt 0 10 0 9 with
  | false=>rw[eb] at q;exact Bu (q _ (s1.trans s2))
  | true=>
   rw[eb,QbL] at q;refine Bj ⟨_,rq,_,0,23,rq,(Rep.same (s1.trans s2) rh).kn,?_⟩;rw[Gg rh];exact q _ (s1.trans s2)
theorem QD (c:Code K mg "is_history" Je Fw) (T:Ty K mg C) (Te:Good P w K mg base "is_brought" 4 Fx (Le brP)):Good P w K mg base "is_history" 5 Fw (Le Iu):=by
 refine c.good Qy (λvs H Q E h=>?_) (λf cdv A outer s H vs Q E hr h=>?_)
 ·obtain⟨v,d,rfl,_⟩:=h;rfl
 obtain⟨v,d,rfl,rd,fit,q⟩:=h;refine⟨_,(Aj (Av (Cg (Bc Gx rfl T.isinstance Dr (Aa (pv 0) (Aa (Hj (v:=.ty "list") rfl T.list JX rfl) Ab))) (Cg (Nb Mp Mp Ac (Bc Bw rfl T.len Dk (Aa (pv 0) Ab)) (Hz rfl T.MOST_BEATS)) (Cw (Bc (Gy rfl) rfl T.all Jo (Aa (CP (N':=["part"]) rfl (Ca.plain rfl (by trivial) (by trivial) (by trivial)) (O2 (pv 0)) (λ_ _ _ _=>(Ay (i:=0) (show List.Nodup (["part"]:YF) by trivial) rfl (Or.inl rfl))) (λ_ _ _ _=>DX) (λ_ _ _ _=>(Aw Te hr (Aa (pv 0) Ab)))) Ab))))))),?_⟩;refine⟨_,rq,Xx rd ⟨_,rq,?_⟩⟩;cases rd with
 | @lst t xs ds ht rs=>
  have q:∀H',Same H H'->Q (.bl ((decide ((1:Int)<=ds.length)&&decide ((ds.length:Int)<=60))&&ds.all brP)) H':=q;have lx:=Ak.len rs;refine Bj ⟨_,rq,t,_,rq,.inl (SqL.of ht),_,_,rq,rq,_,rq,?_⟩;rw[lx];cases e1:decide ((1:Int)<=ds.length) with
  | false=>rw[e1] at q;exact Bu ⟨_,rfl,Bu (q _ (Same.refl _))⟩
  | true=>
  rw[e1,QbL] at q;refine Bj ⟨_,_,rq,rq,_,rq,?_⟩;cases e2:decide ((ds.length:Int)<=60) with
  | false=>rw[e2] at q;exact Bu (q _ (Same.refl _))
  | true=>
  rw[e2,QbL] at q;have l6:=QaV e2;refine Bj ⟨_,rq,t,rq,⟨_,SqL.of ht⟩,λl hl=>?_⟩;refine Wo (fb:=brP) hl ht rs (by omega) (λx dx HH hdx rx sx R hR=>⟨_,rq,x,dx,rq,rx,fit.iZ hdx,hR⟩) (λH2 hc s2=>?_);refine⟨l,_,rq,SqL.of hc,?_⟩;rw[all_map];exact q _ s2
 | _=>exact Bu (q _ (Same.refl _))
end
theorem cnt_ints:∀gs:List Int,(gs.map PyData.int).countP Nj=gs.length
 | []=>rfl
 | g::r=>by rw[QbM,List.countP_cons,cnt_ints r,Qbj];rfl
theorem nE {z y:Str} (h:z≠y):¬eqS (.str z) y=true:=by rw[P0 h];decide
theorem nA {z:Str} (h:z≠"and") (h':z≠"or"):¬aoP (.str z)=true:=λe=>by
 rcases Vg.mp e with e | e
 ·injection e with e;exact h e
 ·injection e with e;exact h' e
theorem yA {z:Str} (h:z="and"\/z="or"):aoP (.str z)=true:=Vg.mpr (h.elim (λe=>.inl (by rw[e])) λe=>.inr (by rw[e]))
theorem iH {r:List PyData} {k:PyData} (h1:1<=r.length) (h2:r.length<=3):Di (.tuple (k::r)) 2 4=true:=by
 show (decide ((2:Int)<=((k::r).length:Nat))&&decide ((((k::r).length:Nat):Int)<=4))=true;rw[Qbj,QbF (by omega),QbF (by omega)];rfl
theorem Mg {a:Int} {k:PyData} {r:List PyData} (h1:1<=r.length) (h2:r.length<=3):trP a (.tuple (k::r))=trR a k r:=by
 show (Di (.tuple (k::r)) 2 4&&trR a k r)=_;rw[iH h1 h2,QbL]
theorem Mh {a:Int} {n x:PyData}:trP a (.tuple [.str "many",n,x])=(wiP n 1 9&&rwP x 1 30 1 99):=by
 rw[Mg (by simp) (by simp)];unfold trR;rw[if_pos (FJ _)];rfl
theorem Q9 {a:Int} {n:PyData}:trP a (.tuple [.str "key",n])=wiP n 0 9:=by
 rw[Mg (by simp) (by simp)];unfold trR;rw[if_neg (nE (by trivial)),if_neg (nE (by trivial)),if_neg (nA (by trivial) (by trivial)),if_neg (nE (by trivial))];show (eqS (.str "key") "key"&&wiP n 0 9)=_;rw[FJ,QbL]
theorem Ra {a:Int} {n m:PyData}:trP a (.tuple [.str "hours",n,m])=(wiP n 0 23&&wiP m 0 23):=by
 rw[Mg (by simp) (by simp)];unfold trR;rw[if_neg (nE (by trivial)),if_neg (nE (by trivial)),if_neg (nA (by trivial) (by trivial)),if_neg (nE (by trivial))];show (eqS (.str "hours") "hours"&&(wiP n 0 23&&wiP m 0 23))=_;rw[FJ,QbL]
theorem WX {a:Int} {n:PyData}:trP a (.tuple [.str "not",n])=wiP n 0 (a - 1):=by
 rw[Mg (by simp) (by simp)];unfold trR;rw[if_neg (nE (by trivial)),if_pos (FJ _)];show (true&&(wiP n 0 (a - 1)&&true))=_;rw[QbL,Bool.and_true]
theorem ZP {a:Int} {z:Str} {n m:PyData} (h:z="and"\/z="or"):trP a (.tuple [.str z,n,m])=(wiP n 0 (a - 1)&&wiP m 0 (a - 1)):=by
 rw[Mg (by simp) (by simp)];unfold trR;rw[if_neg (nE (by rcases h with rfl | rfl <;> decide +kernel)),if_neg (nE (by rcases h with rfl | rfl <;> decide +kernel)),if_pos (yA h)];show (true&&(wiP n 0 (a - 1)&&(wiP m 0 (a - 1)&&true)))=_;rw[QbL,Bool.and_true]
theorem Uo {a:Int} {n m x:PyData}:trP a (.tuple [.str "then",n,m,x])=((wiP n 0 (a - 1)&&wiP m 0 (a - 1))&&wiP x 1 20):=by
 rw[Mg (by simp) (by simp)];unfold trR;rw[if_neg (nE (by trivial)),if_neg (nE (by trivial)),if_neg (nA (by trivial) (by trivial)),if_pos (FJ _)];show ((wiP n 0 (a - 1)&&(wiP m 0 (a - 1)&&true))&&wiP x 1 20)=_;rw[Bool.and_true]
theorem ao {a:Int} {z:Str} {r:List PyData} (h1:¬(z="many"/\r.length=2)) (h2:¬(z="key"/\r.length=1)) (h3:¬(z="hours"/\r.length=2)) (h4:¬(z="not"/\r.length=1)) (h5:¬(z="then"/\r.length=3)) (h6:¬(z="and"/\r.length=2)) (h7:¬(z="or"/\r.length=2)):trP a (.tuple (.str z::r))=false:=by
 show (Di (.tuple (.str z::r)) 2 4&&trR a (.str z) r)=false;cases e:Di (.tuple (.str z::r)) 2 4 with
 | false=>rfl
 | true=>
 rw[QbL];unfold trR;by_cases e1:z="many"
 ·rw[e1,if_pos (FJ _)];unfold N8;split
  ·exact absurd ⟨e1,rq⟩ h1
  ·rfl
 rw[if_neg (nE e1)];by_cases e2:z="not"
 ·rw[e2,if_pos (FJ _),Qbu (λl=>h4 ⟨e2,l⟩)];rfl
 rw[if_neg (nE e2)];by_cases e3:z="and"\/z="or"
 ·rw[if_pos (yA e3),Qbu (λl=>e3.elim (λw=>h6 ⟨w,l⟩) (λw=>h7 ⟨w,l⟩))];rfl
 rw[if_neg (nA (λw=>e3 (.inl w)) (λw=>e3 (.inr w)))];by_cases e4:z="then"
 ·rw[e4,if_pos (FJ _)];unfold Ik;split
  ·exact absurd ⟨e4,rq⟩ h5
  ·rfl
 rw[if_neg (nE e4)];unfold Fv;split
 ·rename_i k n w;injection w with w1;injection w1 with w1 w2;rw[<-w1];rw[P0 (λe=>h2 ⟨e,by rw[w2];rfl⟩)];rfl
 ·rename_i k n m w;injection w with w1;injection w1 with w1 w2;rw[<-w1];rw[P0 (λe=>h3 ⟨e,by rw[w2];rfl⟩)];rfl
 ·rfl
theorem TJ {α : Type} (xs:List α) (x:α):atI (xs++[x]) (-1)=some x:=by
 unfold atI ixN;rw[if_neg (by decide),QaF,Qas,if_pos (by omega),show (-1+((xs.length+1:Nat):Int)).toNat=xs.length by omega];show (xs++[x])[xs.length]?=some x;rw[Qad (QbZ _),Nat.sub_self];rfl
def Dv (rows:List Rw) (outs:List (Int×Nat)):PyData:=.tuple [.tuple (rows.map Rw.data),.tuple (outs.map outD)]
theorem Fo {i lo hi:Int} (h:lo<=i) (h':i<=hi):wiP (.int i) lo hi=true:=by
 show (decide (lo<=i)&&decide (i<=hi))=true;rw[QbF h,QbF h'];rfl
theorem iT {r:Rw} {m:Nat} (h:r.ok m):trP (m:Int) r.data=true:=by
 cases r with
 | many n as=>
  obtain⟨h1,h2,h3,h4,h5,h6⟩:=h;show trP (m:Int) (.tuple [.str "many",.int n,.tuple (as.map PyData.int)])=true;rw[Mh,Fo h1 h2,QbL];show (Di (.tuple (as.map PyData.int)) 1 30&&(((as.map PyData.int).all λx=>wiP x 1 99)&&Oz (as.map PyData.int)))=true;rw[M9,h6,Bool.and_true,show ((as.map PyData.int).all λx=>wiP x 1 99)=true from (by rw[QbY];exact Qbo.mpr λa ha=>Fo (h5 a ha).1 (h5 a ha).2),Bool.and_true]
  show (decide ((1:Int)<=((as.map PyData.int).length:Nat))&&decide ((((as.map PyData.int).length:Nat):Int)<=30))=true;rw[Qbs,QbF (by omega),QbF (by omega)];rfl
 | key k=>show trP (m:Int) (.tuple [.str "key",.int k])=true;rw[Q9];exact Fo h.1 h.2
 | hours a b=>show trP (m:Int) (.tuple [.str "hours",.int a,.int b])=true;rw[Ra,Fo h.1 h.2.1,Fo h.2.2.1 h.2.2.2];rfl
 | neg i=>have h:i < m:=h;show trP (m:Int) (.tuple [.str "not",.int i])=true;rw[WX];exact Fo (by omega) (by omega)
 | both i j=>have h:i < m/\j < m:=h;show trP (m:Int) (.tuple [.str "and",.int i,.int j])=true;rw[ZP (.inl rfl),Fo (by omega) (by omega),Fo (by omega) (by omega)];rfl
 | any i j=>have h:i < m/\j < m:=h;show trP (m:Int) (.tuple [.str "or",.int i,.int j])=true;rw[ZP (.inr rfl),Fo (by omega) (by omega),Fo (by omega) (by omega)];rfl
 | thn i j n=>have h:i < m/\j < m/\1<=n/\n<=20:=h;show trP (m:Int) (.tuple [.str "then",.int i,.int j,.int n])=true;rw[Uo,Fo (by omega) (by omega),Fo (by omega) (by omega),Fo (by omega) (by omega)];rfl
theorem Vq {rows:List Rw} {outs:List (Int×Nat)} (h:JF rows outs):DQ (Dv rows outs)=true:=by
 show ((decide ((rows.map Rw.data).length<=320)&&decide ((outs.map outD).length<=16))&&(GX (rows.map Rw.data)&&((outs.map outD).all (Gd (rows.map Rw.data).length)&&Hh ((outs.map outD).map Lx))))=true;have e1:GX (rows.map Rw.data)=true:=by
  unfold GX;refine Qbo.mpr λp hp=>?_;obtain⟨i,hi,ei⟩:=List.getElem_of_mem hp;have hz:(rows.map Rw.data).zipIdx[i]?=some p:=by rw[Qaj hi,ei]
  rw[List.getElem?_zipIdx,QaU] at hz;cases hr:rows[i]? with
  | none=>rw[hr] at hz;cases hz
  | some r=>
   rw[hr] at hz;cases hz;show trP ((0+i:Nat):Int) r.data=true;rw[Nat.zero_add];exact iT (h.ok i r hr)
 have e2:(outs.map outD).all (Gd (rows.map Rw.data).length)=true:=by
  rw[QbY];refine Qbo.mpr λo ho=>?_;have:=h.io o ho;show (wiP (.int o.1) 1 99&&wiP (.int (o.2:Int)) 0 (((rows.map Rw.data).length:Nat) - 1))=true;rw[Fo this.1 this.2.1,Qbs,Fo (by omega) (by omega)];rfl
 have e3:(outs.map outD).map Lx=outs.map (·.1):=by rw[List.map_map];rfl
 rw[Qbs,Qbs,QbF h.RG,QbF h.o16,e1];rw[Qbs] at e2;rw[e2,e3,h.up];rfl
theorem En {k:Nat} {i:Int} (h:i.natAbs < 1000):Sl 30 k (.int i):=jO (by omega)
theorem Z0 {r:Rw} {m:Nat} (h:r.ok m) (hm:m<=400):Sl 30 3 r.data:=by
 have W:∀{z:Str} {k:Nat},Ws z=true->Sl 30 k (.str z):=λh=>W6 h;cases r with
 | many n as=>
  obtain⟨h1,h2,h3,h4,h5,h6⟩:=h;refine Sl.tup (k:=2) (Am (W (by trivial)) (Am (En (by omega)) (Am ((Sl.tup (k:=1) (λx hx=>?_) (by rw[Qbs];omega) (by rw[cnt_ints];exact h4)).mono (QbZ _) (by decide)) (Qay _)))) (by show 3<=430;decide) (by show 1<=30;decide);obtain⟨a,ha,rfl⟩:=QbW.mp hx;have:=h5 a ha;exact En (by omega)
 | key k=>have h:0<=k/\k<=9:=h;exact Sl.tup (k:=2) (Am (W (by trivial)) (Am (En (by omega)) (Qay _))) (by show 2<=430;decide) (by show 1<=30;decide)
 | hours a b=>have h:0<=a/\a<=23/\0<=b/\b<=23:=h;exact Sl.tup (k:=2) (Am (W (by trivial)) (Am (En (by omega)) (Am (En (by omega)) (Qay _)))) (by show 3<=430;decide) (by show 2<=30;decide)
 | neg i=>have h:i < m:=h;exact Sl.tup (k:=2) (Am (W (by trivial)) (Am (En (by omega)) (Qay _))) (by show 2<=430;decide) (by show 1<=30;decide)
 | both i j=>have h:i < m/\j < m:=h;exact Sl.tup (k:=2) (Am (W (by trivial)) (Am (En (by omega)) (Am (En (by omega)) (Qay _)))) (by show 3<=430;decide) (by show 2<=30;decide)
 | any i j=>have h:i < m/\j < m:=h;exact Sl.tup (k:=2) (Am (W (by trivial)) (Am (En (by omega)) (Am (En (by omega)) (Qay _)))) (by show 3<=430;decide) (by show 2<=30;decide)
 | thn i j n=>have h:i < m/\j < m/\1<=n/\n<=20:=h;exact Sl.tup (k:=2) (Am (W (by trivial)) (Am (En (by omega)) (Am (En (by omega)) (Am (En (by omega)) (Qay _))))) (by show 4<=430;decide) (by show 3<=30;decide)
theorem Ye {ds:List PyData} (h:∀x∈ds,Nj x=false):ds.countP Nj<=30:=by
 rw[List.countP_eq_zero.mpr λx hx=>by rw[h x hx];decide];exact Qca _
theorem iG (r:Rw):Nj r.data=false:=by cases r <;> rfl
theorem Ys {rows:List Rw} {outs:List (Int×Nat)} (h1:∀r∈rows,∃m,m<=400/\r.ok m) (h2:rows.length<=400) (h3:∀o∈outs,0<=o.1/\o.1<=99/\o.2 < 400) (h4:outs.length<=400):Sl 30 5 (Dv rows outs):=by
 refine Sl.tup (k:=4) (Am (Sl.tup (k:=3) (λx hx=>?_) (by rw[Qbs];omega) (Ye λx hx=>?_)) (Am (Sl.tup (k:=3) (λx hx=>?_) (by rw[Qbs];omega) (Ye λx hx=>?_)) (Qay _))) (by show 2<=430;decide) (by show 0<=30;decide)
 ·obtain⟨r,hr,rfl⟩:=QbW.mp hx;obtain⟨m,hm,ok⟩:=h1 r hr;exact Z0 ok hm
 ·obtain⟨r,hr,rfl⟩:=QbW.mp hx;exact iG r
 ·obtain⟨o,ho,rfl⟩:=QbW.mp hx;have:=h3 o ho;exact Sl.tup (k:=2) (Am (En (by omega)) (Am (En (by omega)) (Qay _))) (by show 2<=430;decide) (by show 2<=30;decide)
 ·obtain⟨o,ho,rfl⟩:=QbW.mp hx;rfl
theorem JF.sl {rows:List Rw} {outs:List (Int×Nat)} (h:JF rows outs):Sl 30 5 (Dv rows outs):=by
 have:=h.RG;have:=h.o16;refine Ys (λr hr=>?_) (by omega) (λo ho=>by have:=h.io o ho;omega) (by omega);obtain⟨i,hi,ei⟩:=List.getElem_of_mem hr;exact⟨i,by omega,h.ok i r (by rw[Qaj hi,ei])⟩
theorem Hq.rep {H:Hp} {t:Addr} {rows:List Rw} {outs:List (Int×Nat)} (h:Hq H t rows outs):Rep (onl H) (.ref t) (Dv rows outs):=by
 obtain⟨tr,to,xr,xo,h1,h2,h3,h4,h5⟩:=h;exact .tup (Dc h1) (.cons (.tup (Dc h2) h4) (.cons (.tup (Dc h3) h5) .nil))
abbrev GP:Stmt:=top 88
abbrev GZ:YF:=["parts","paper"]
abbrev xp:YF:=["parts","paper","table","history","addresses","runner","told"]
theorem DN:Bo xp GZ (Ai GP):=by ac_rfl
theorem SM {b:Bool} {A B:Prop} (h:b=true) (a:A):if b=true then A else B:=by rw[if_pos h];exact a
theorem Ii {b:Bool} {A B:Prop} (h:b=false) (a:B):if b=true then A else B:=by rw[if_neg (by rw[h];decide)];exact a
abbrev Bt:=List Int×List Int×Int
def Ci (rows:List Rw) (bs:List Bt):List (List Bool):=bs.foldl (λpast b=>past++[CG b.1 b.2.1 b.2.2 past rows]) []
theorem Qh {rows:List Rw} {bs:List Bt} {i:Nat} {b:Bt} (e:bs[i]?=some b):Ci rows (bs.take (i+1))=Ci rows (bs.take i)++[CG b.1 b.2.1 b.2.2 (Ci rows (bs.take i)) rows]:=by
 unfold Ci;rw[Qcg e,List.foldl_append];rfl
theorem Kl (rows:List Rw):∀(bs:List Bt),(Ci rows bs).length=bs.length/\∀g∈Ci rows bs,rows.length<=g.length:=by
 have key:∀(bs:List Bt) (acc:List (List Bool)),(∀g∈acc,rows.length<=g.length)->(bs.foldl (λpast b=>past++[CG b.1 b.2.1 b.2.2 past rows]) acc).length=acc.length+bs.length/\∀g∈bs.foldl (λpast b=>past++[CG b.1 b.2.1 b.2.2 past rows]) acc,rows.length<=g.length:=by
  intro bs
  induction bs with
  | nil=>intro acc h;exact⟨rfl,h⟩
  | cons b r ih=>
   intro acc h;have k:=ih (acc++[CG b.1 b.2.1 b.2.2 acc rows]) (λg hg=>by
    rcases Qbx.mp hg with hg | hg
    ·exact h g hg
    ·rw[QaK.mp hg,O9];exact QbZ _)
   rw[List.foldl_cons];refine⟨?_,k.2⟩;rw[k.1,QaF,Qas,Qbj];omega
 intro bs;have:=key bs [] (λg hg=>by cases hg);refine⟨?_,this.2⟩;have e:=this.1;rw[List.length_nil,Nat.zero_add] at e;exact e
def DY (rows:List Rw) (outs:List (Int×Nat)) (bs:List Bt):List Int:=G7 outs ((Ci rows bs).getLastD [])
def BAt (H:Hp) (v:V) (b:Bt):Prop:=∃t,v=.ref t/\Mf H t b.1 b.2.1 b.2.2
theorem BAt.tups {H H':Hp} {v:V} {b:Bt} (s:BK H H') (h:BAt H v b):BAt H' v b:=by
 obtain⟨t,rfl,h⟩:=h;exact⟨t,rq,h.tups s⟩
def Ky (H:Hp) (pav tv hv av:V) (Q:VK):Prop:=∃(dt dh da:PyData),Rep H tv dt/\Rep H hv dh/\Rep H av da/\Fit 64 dt/\Fit 64 dh/\Fit 64 da /\
 (((pav≠.non\/DQ dt=false\/Iu dh=false\/∀ds,da=.tuple ds->ds.all whP=false)/\∀H',Same H H'->Q (.bl false) H') \/
 ∃(t hl:Addr) (rows:List Rw) (outs:List (Int×Nat)) (xs:YG) (bs:List Bt),pav=.non/\tv=.ref t/\Hq H t rows outs/\JF rows outs/\DQ dt=true/\Iu dh=true/\hv=.ref hl/\H hl=some (.lst xs)/\Paired (BAt H) xs bs/\1<=bs.length/\bs.length<=60/\(∃ds,da=.tuple ds/\ds.all whP=true) /\
  ∀H',Same H H'->Q (.bl (PyData.eqv da (.tuple ((DY rows outs bs).map PyData.int)))) H')
theorem Ky.same {H H1:Hp} {pav tv hv av:V} {Q:VK} (s:Same H H1) (h:Ky H pav tv hv av Q):Ky H1 pav tv hv av Q:=by
 obtain⟨dt,dh,da,rt,rh,ra,ft,fh,fa,h⟩:=h;refine⟨dt,dh,da,Rep.same s rt,Rep.same s rh,Rep.same s ra,ft,fh,fa,?_⟩;rcases h with⟨z,q⟩|⟨t,hl,rows,outs,xs,bs,pn,e1,TB,tok,e2,e3,e4,hhl,hb,b1,b2,ed,q⟩
 ·exact .inl ⟨z,λH' s'=>q _ (s.trans s')⟩
 ·exact .inr ⟨t,hl,rows,outs,xs,bs,pn,e1,TB.tups (BK.of s),tok,e2,e3,e4,s _ _ hhl,pmap (λ_ _ z=>BAt.tups (BK.of s) z) hb,b1,b2,ed,λH' s'=>q _ (s.trans s')⟩
def Rh:Sp:=λvs H Q _=>∃(p:Addr) (pav tv hv av:V),vs=[.ref p,pav]/\H p=some (.tup [tv,hv,av])/\Ky H pav tv hv av Q
theorem S6:∀zs:List Int,PyData.canLayAll0 (zs.map PyData.int)=true/\PyData.depthAll (zs.map PyData.int)<=1
 | []=>⟨rfl,by show 0<=1;decide⟩
 | z::r=>by
  have ih:=S6 r;refine⟨?_,?_⟩
  ·show (true&&PyData.canLayAll0 (r.map PyData.int))=true;rw[ih.1];rfl
  ·show max 0 (PyData.depthAll (r.map PyData.int))<=1;exact Nat.max_le.mpr ⟨by decide,ih.2⟩
theorem Kp (zs:List Int):SeqAt.shaped (.tuple (zs.map PyData.int))=true:=by
 have h:=S6 zs;show (PyData.canLayAll0 (zs.map PyData.int)&&decide (PyData.depthAll (zs.map PyData.int)+1<=64))=true;rw[h.1,QbF (by omega)];rfl
theorem V5 {rows:List Rw} {outs:List (Int×Nat)} {bs:List Bt} {i:Nat} {b:Bt} (e:bs[i]?=some b):DY rows outs (bs.take (i+1))=G7 outs (CG b.1 b.2.1 b.2.2 (Ci rows (bs.take i)) rows):=by
 unfold DY;rw[Qh e,List.getLastD_concat]
theorem RB {H:Hp}:∀gs:List Int,Ak H (gs.map V.int) (gs.map PyData.int)
 | []=>.nil
 | g::r=>.cons (.int g) (RB r)
theorem bK (outs:List (Int×Nat)) (now:List Bool):(G7 outs now).length<=outs.length:=by
 unfold G7;rw[Qbs];exact Qat _ _
section
variable {P:Program} {w:World} {K:YD} {mg:YB} {base:Heap} {C:Addr}
abbrev xc:YF:=["warned","turned","hour","runner"]
theorem aW (c:Code K mg "says_holds" GP GZ) (T:Ty K mg C) (Wf:Good P w K mg base "is_table" 5 G3 (Le DQ)) (Td:Good P w K mg base "is_history" 5 Fw (Le Iu)) (Tf:Good P w K mg base "are_wholes" 2 Fy cX) (Wh:Wx P w K mg base C 1 Ds (W2 C)) (Zu:Q5 P w K mg base C "beat" 3 Ey (W5 C)):Good P w K mg base "says_holds" 6 GZ Rh:=by
 refine c.good DN (λvs H Q E h=>?_) (λf cdv A outer s H vs Q E hr h=>?_)
 ·obtain⟨p,pav,tv,hv,av,rfl,_⟩:=h;rfl
 obtain⟨p,pav,tv,hv,av,rfl,hp,dt,dh,da,rt,rh,ra,ft,fh,fa,h⟩:=h;refine⟨_,(Af (Ft (pv 0) (Gh rfl (Bd (Ay (i:=2) DN.nd rfl (Or.inl rfl)) (Bd (Ay (i:=3) DN.nd rfl (Or.inl rfl)) (Bd (Ay (i:=4) DN.nd rfl (Or.inl rfl)) CW)))))
 (Af (Bv (PW.pt (Ip (Bm aR (pv 1) Lk (Bg _)) (Ip (Dw (Dj (Aw Wf hr (Aa (pv 2) Ab)))) (Lh (Dw (Dj (Aw Td hr (Aa (pv 3) Ab)))))))) (Aj (Av Df)) Bh)
 (Af (Bv (PW.pt (Ip (Dw (Dj (Bc Gx rfl T.isinstance Dr (Aa (pv 4) (Aa (Hj (v:=.ty "tuple") rfl T.tuple Es rfl) Ab))))) (Lh (Dw (Dj (Aw Tf hr (Aa (pv 4) (Aa (Bc Bw rfl T.len Dk (Aa (pv 4) Ab)) Ab)))))))) (Aj (Av Df)) Bh)
 (Af (BZ (i:=5) DN.nd rfl (Or.inr rfl) (iQ Wh hr T.mgC (Aa (pv 2) Ab)))
 (Af (Uz (i:=6) DN.nd rfl (Or.inl rfl) (N':=xc) rfl (Ca.of (src:=[none,none,none,some 5]) (Ai GP) xp rfl rfl rfl (by trivial) (by trivial) (by trivial) rfl (by trivial)) (O2 (pv 3)) (λ_ _ _ _=>(IK (K:=K) (n:=3) rfl rfl (Bd (Ay (i:=0) (show List.Nodup (xc:YF) by trivial) rfl (Or.inl rfl)) (Bd (Ay (i:=1) (show List.Nodup (xc:YF) by trivial) rfl (Or.inl rfl)) (Bd (Ay (i:=2) (show List.Nodup (xc:YF) by trivial) rfl (Or.inl rfl)) CW))))) (λ_ _ _ _=>DX) (λ_ _ _ _=>(iM (pv 3) T.cl Zu hr (Aa (pv 0) (Aa (pv 1) (Aa (pv 2) Ab))))))
 (Aj (Av (Cp (HF hr.units) (pv 4) (Ao Bl (pv 6) (NT La Ac) (λ_ _=>rfl)) (Bg _))))))))),?_⟩
 show let R0:TS:=_;let R1:TS:=Az _ R0;let R2:TS:=Az _ R1;let R3:TS:=Az _ R2;let R4:TS:=Az _ R3;Az _ R4 _ _ _;intro R0 R1 R2 R3 R4;refine⟨_,rq,p,_,rq,SqT.of hp,rq,_,_,rq,_,_,rq,_,_,rq,rq,?_⟩;by_cases pn:pav=.non
 case neg=>
  rcases h with⟨_,q⟩|⟨_,_,_,_,_,_,z,_⟩
  ·exact⟨_,rq,rq,_,rq,SM (by rw[Qbu pn];rfl) (Bj (q _ (Same.refl _)))⟩
  ·exact absurd z pn
 subst pn;refine⟨_,rq,rq,_,rq,Ii (by rw[QbF rfl];rfl) ?_⟩;refine⟨_,rq,tv,dt,rq,rt,ft,λH1 s1=>⟨_,rq,?_⟩⟩;cases e1:DQ dt with
 | false=>
  rcases h with⟨_,q⟩|⟨_,_,_,_,_,_,_,_,_,_,z,_⟩
  ·exact SM rfl (Bj (q _ s1))
  ·rw[e1] at z;cases z
 | true=>
 refine Ii rfl ⟨_,rq,hv,dh,rq,Rep.same s1 rh,fh,λH2 s2=>⟨_,rq,?_⟩⟩;have s02:=s1.trans s2;cases e2:Iu dh with
 | false=>
  rcases h with⟨_,q⟩|⟨_,_,_,_,_,_,_,_,_,_,_,z,_⟩
  ·exact SM rfl (q _ s02)
  ·rw[e2] at z;cases z
 | true=>
 refine Ii rfl ?_;have ra2:=Rep.same s02 ra;refine⟨_,rq,Qm ra2.kn ⟨_,rq,?_⟩⟩;have nt:(Ij H2 av).isSome=false->∀ds,da≠.tuple ds:=λz ds e=>by
  subst e;cases ra2 with
  | tup e _=>rw[IW e] at z;cases z
 cases e3:(Ij H2 av).isSome with
 | false=>
  rcases h with⟨_,q⟩|⟨_,_,_,_,_,_,_,_,_,_,_,_,_,_,_,_,_,⟨ds,z,_⟩,_⟩
  ·exact SM rfl (Bj (q _ s02))
  ·exact absurd z (nt e3 ds)
 | true=>
 refine Ii rfl ?_;have tp:∃a xs ds,av=.ref a/\da=.tuple ds/\H2 a=some (.tup xs)/\Ak H2 xs ds:=by
  cases ra2 with
  | @tup a xs ds e r=>exact⟨a,xs,ds,rfl,rfl,e,r⟩
  | lst e _=>rw[Ld e] at e3;cases e3
  | _=>cases e3
 obtain⟨a,xa,ds,rfl,rfl,ha,rs⟩:=tp;have la:=Ak.len rs;refine⟨_,rq,_,rq,a,_,rq,.inr (SqT.of ha),_,.tuple ds,_,rq,ra2,fa,λH3 s3=>⟨_,rq,?_⟩⟩;have s03:=s02.trans s3;have ew:Vj (.tuple ds) (xa.length:Int)=ds.all whP:=by
  show ((decide ((xa.length:Int)<=ds.length)&&decide ((ds.length:Int)<=xa.length))&&ds.all whP)=_;rw[QbF (by omega),QbF (by omega)];rfl
 rw[ew];cases e4:ds.all whP with
 | false=>
  rcases h with⟨_,q⟩|⟨_,_,_,_,_,_,_,_,_,_,_,_,_,_,_,_,_,⟨ds',z,z'⟩,_⟩
  ·exact SM rfl (q _ s03)
  ·injection z with z;subst z;rw[e4] at z';cases z'
 | true=>
 refine Ii rfl ?_;rcases h with⟨z,_⟩|⟨t,hl,rows,outs,xs,bs,_,rfl,TB,tok,_,_,rfl,hhl,hb,b1,b60,_,q⟩
 ·rcases z with z | z | z | z
  ·exact absurd rfl z
  ·rw[e1] at z;cases z
  ·rw[e2] at z;cases z
  ·rw[z ds rfl] at e4;cases e4
 refine⟨_,rq,λr dx hr0 hdx ndr=>⟨r,dx,t,rq,Ad,λpl H4 hpl ob4 hl4 s4=>⟨rq,?_⟩⟩⟩;have sN:Same H3 (upd (upd H3 dx (.own r)) r (.ins C dx [])):=(Ae hdx _).trans (Ae (by rw[Bp ndr.symm];exact hr0) _);have sM4:Same H3 H4:=λc o e=>s4 _ _ (sN _ _ e) (λz=>by rw[z,hr0] at e;cases e);have fK:=s03 _ _ hhl;have TB3:=TB.tups (BK.of s03);have hb3:=pmap (λ_ _ z=>BAt.tups (BK.of s03) z) hb;have lb:=QbN hb3;have hlr:H4 r=some (.ins C dx (fr t pl)):=ob4;refine⟨_,rq,hl,rq,⟨_,SqL.of (sM4 _ _ fK)⟩,λl hl0=>?_⟩;have nlr:r≠l:=BJ hlr hl0;have nll:pl≠l:=BJ hl4 hl0;have fl:H3 l=none:=sM4.free hl0;have npr:pl≠r:=λz=>by
  rw[z] at hpl;rw[Ad] at hpl;cases hpl
 have sl:=Ae hl0 (.lst []);let J0:YN:=λ(i:Nat) (σ : St) (HX:Hp)=>∃(u1 u2 u3:Option V) (ys:YG),σ=[u1,u2,u3,jp r]/\HX l=some (.lst ys)/\ys.length=i/\(∀y,ys.getLast?=some y->∃o,y=.ref o/\HX o=some (.tup ((DY rows outs (bs.take i)).map V.int)))/\Kz C [r,l] HX r t (Ci rows (bs.take i))/\Same H3 HX;refine LK (xs:=xs) J0 ⟨none,none,none,[],rq,Ad,rq,(λy hy=>by cases hy),⟨dx,pl,[],sl _ _ hlr,(by simp[npr,nll]),sl _ _ hl4,.nil⟩,sM4.trans sl⟩ (λi σ HX _ h=>?_) (λi x σ HX hx h=>?_) (fun σ HX h=>?_)
 ·obtain⟨_,_,_,_,rfl,_,_,_,_,s⟩:=h;exact SqL.of (s _ _ fK)
 ·obtain⟨u1,u2,u3,ys,rfl,e,ly,Z7,R,s⟩:=h;obtain⟨b,hbi,tb,rfl,Br⟩:=Kh hb3 hx;have hi:=(Qaf.mp hbi).1;obtain⟨tw,tk,h1,h2,h3⟩:=Br.tups (BK.of s);have R0':=R;obtain⟨dx',pl',xs',ob,_⟩:=R0';refine⟨tb,_,rq,SqT.of h1,rq,_,_,rq,_,_,rq,_,_,rq,rq,Bj ?_⟩;refine⟨_,rq,r,dx',_,rq,ob,jl (by trivial),_,rq,_,rq,_,rq,[r,l],r,t,tw,tk,b.1,b.2.1,b.2.2,rows,outs,_,rq,QaI ..,(λc hc=>?_),R,TB3.tups (BK.of s),tok,h2,h3,(Kl rows _).2,λo HY ho RY sY=>?_⟩
  ·simp only[QbK,Qbh,Qch] at hc;rcases hc with rfl | rfl
   ·rw[ob];exact λz=>by cases z
   ·rw[e];exact λz=>by cases z
  have eY:=sY _ _ e nlr.symm;have nol:o≠l:=λz=>by rw[z,eY] at ho;cases ho
  refine⟨ys,eY,Bq (by omega),_,_,_,ys++[.ref o],rq,Ad,by rw[QaF,ly];rfl,λy hy=>?_,?_,(s.Cr sY hr0).Cr Al.upd fl⟩
  ·rw[List.getLast?_concat] at hy;injection hy with hy;subst hy;refine⟨o,rq,?_⟩;rw[Bp nol,V5 hbi];exact ho
  ·rw[Qh hbi];exact RY.other (Et.ofB Al.upd (by simp)) (λo e=>by rw[Bp nlr];exact e)
 ·obtain⟨u1,u2,u3,ys,rfl,e,ly,Z7,R,s⟩:=h;have lx:xs.length=bs.length:=lb;have ny:ys≠[]:=λz=>by rw[z] at ly;simp at ly;omega
  have ey:=List.dropLast_concat_getLast ny;obtain⟨o,eo,ho⟩:=Z7 _ (List.getLast?_eq_some_getLast ny);rw[lx,Qbk] at ho;refine⟨_,rq,_,rq,_,rq,l,ys,-1,.ref o,rq,rq,SqL.of e,?_,.tuple ds,.tuple ((DY rows outs bs).map PyData.int),Rep.same (s3.trans s) ra2,.tup ho (RB _),fa.shaped (by decide),Kp _,q _ (s03.trans s)⟩;have:=TJ ys.dropLast (ys.getLast ny);rw[ey,eo] at this;exact this
end
abbrev Ov:Stmt:=top 91
abbrev JV:YF:=["claim","paper"]
theorem Rt:Bo ["claim","paper","check"] JV (Ai Ov):=by ac_rfl
structure Tz (K:YD) (mg:YB) (P:Params) (C cA mA f4:Addr):Prop extends Ty K mg C where
 CHECKS:∃u,mg "CHECKS"=some u/\RelV (.ref cA) u
 MANY_PARTS:∃u,mg "MANY_PARTS"=some u/\RelV (.ref mA) u
 dc:KD K P cA
 dm:KD K P mA
 cf:nsIn K cA "says"=some (some (.ref f4))
 mf:∃t,nsIn K mA "says"=some (some (.int 3 t))
 gf:mg "says_holds"=some (.ref f4)
def one:YF:=["says_holds"]
def spV (nm:Str):Sp:=Rh
def Uu:Sp:=λvs H Q _=>∃t pav,vs=[.ref t,pav]/\((∃x y,H t=some (.tup [.str "says",x,y])/\∀H',Same H H'->Q (.bl false) H') \/
 ∃tv hv av,H t=some (.tup [.str "says",tv,hv,av])/\Ky H pav tv hv av Q)
section
variable {P:Program} {w:World} {K:YD} {mg:YB} {base:Heap} {C cA mA f4:Addr}
theorem Y7 (c:Code K mg "holds" Ov JV) (T:Tz K mg w.params C cA mA f4) (Cd:Good P w K mg base "is_row" 1 Dn GK) (gV:∀nm,nm∈one->Good P w K mg base nm 6 GZ (spV nm)):Good P w K mg base "holds" 7 JV Uu:=by
 refine c.good Rt (λvs H Q E h=>?_) (λf cdv A outer s H vs Q E hr h=>?_)
 ·obtain⟨t,pav,rfl,_⟩:=h;rfl
 obtain⟨t,pav,rfl,h⟩:=h;refine⟨_,(Af (Bv (PW.pt (Ip (Dw (Dj (Aw Cd hr (Aa (pv 0) (Aa Ac (Aa Ac Ab)))))) (Ip (Dw (Dj (Bc Gx rfl T.isinstance Dr (Aa (Ao Ba (pv 0) Ac (λ_ _=>rfl)) (Aa (Hj (v:=.ty "str") rfl T.str gA rfl) Ab))))) (Lh (Bm (VL (K:=K) rfl rfl) (Ao Ba (pv 0) Ac (λ_ _=>rfl)) (Hz rfl T.CHECKS) (by with_unfolding_all rfl)))))) (Aj (Av Df)) Bh)
 (Af (Bv (Bm N5 (Ax Gm (Bc Bw rfl T.len Dk (Aa (pv 0) Ab)) Ac) (RK (K:=K) rfl rfl (Hz rfl T.MANY_PARTS) (Ao Ba (pv 0) Ac (λ_ _=>rfl)) (λ_ _=>rfl)) (Bg _)) (Aj (Av Df)) Bh)
 (Af (BZ (i:=2) Rt.nd rfl (Or.inl rfl) (RK (K:=K) rfl rfl (Hz rfl T.CHECKS) (Ao Ba (pv 0) Ac (λ_ _=>rfl)) (λ_ _=>rfl)))
 (Aj (Av (dM (i:=2) gV hr (Aa (Dm Iw (pv 0) (Dl Ac) Fe) (Aa (pv 1) Ab)))))))),?_⟩
 show let R0:TS:=_;let R1:TS:=Az _ R0;let R2:TS:=Az _ R1;Az _ R2 _ _ _;intro R0 R1 R2;obtain⟨tk,hm⟩:=T.mf;have a0:∀r,atI (V.str "says"::r) 0=some (.str "says"):=λr=>Ah (xs:=V.str "says"::r) (j:=0) rfl;rcases h with⟨x,y,ht,q⟩|⟨tv,hv,av,ht,sb⟩
 ·refine⟨_,rq,.ref t,1,6,rq,.inr ⟨_,ht⟩,_,rq,?_⟩;rw[IW ht];refine Bu ⟨_,rq,t,_,_,_,rq,rq,SqT.of ht,a0 _,SX True.intro ⟨_,rq,?_⟩⟩;refine Bu ⟨_,rq,t,_,_,_,rq,rq,SqT.of ht,a0 _,"says",cA,_,rq,rq,T.dc,T.cf,_,rq,Bu ?_⟩;exact⟨_,rq,t,_,rq,.inr (SqT.of ht),_,_,rq,rq,_,rq,t,_,_,_,rq,rq,SqT.of ht,a0 _,"says",mA,.int 3,_,rq,rq,T.dm,hm,⟨tk,rq⟩,rq,_,rq,Bj (q _ (Same.refl _))⟩
 ·refine⟨_,rq,.ref t,1,6,rq,.inr ⟨_,ht⟩,_,rq,?_⟩;rw[IW ht];refine Bu ⟨_,rq,t,_,_,_,rq,rq,SqT.of ht,a0 _,SX True.intro ⟨_,rq,?_⟩⟩;refine Bu ⟨_,rq,t,_,_,_,rq,rq,SqT.of ht,a0 _,"says",cA,_,rq,rq,T.dc,T.cf,_,rq,Bu ?_⟩;refine⟨_,rq,t,_,rq,.inr (SqT.of ht),_,_,rq,rq,_,rq,t,_,_,_,rq,rq,SqT.of ht,a0 _,"says",mA,.int 3,_,rq,rq,T.dm,hm,⟨tk,rq⟩,rq,_,rq,?_⟩;refine Bu ?_;refine⟨_,rq,t,_,_,_,rq,rq,SqT.of ht,a0 _,"says",cA,.ref f4,_,rq,rq,T.dc,T.cf,rq,?_⟩;refine⟨"says_holds",f4,rq,T.gf,.head _,_,rq,_,rq,t,_,rq,ht,λp1 H1 hp1 s1=>⟨_,rq,p1,pav,tv,hv,av,rq,?_,sb.same s1⟩⟩;rw[hp1,Wm (α:=Unit)];rfl
end
abbrev Il:Stmt:=top 95
abbrev Ep:YF:=["_law_bag_here","_law_most","_law_least","_law_top"]
theorem T8:Bo Ep Ep (Ai Il):=by ac_rfl
abbrev Ot:Stmt:=top 96
abbrev JN:YF:=["_law_bag_here","_law_at"]
theorem Ro:Bo ["_law_bag_here","_law_at","_law_way"] JN (Ai Ot):=by ac_rfl
abbrev M5:Stmt:=top 97
abbrev Ji:YF:=["_law_bag_here"]
theorem Xb:Bo ["_law_bag_here"] Ji (Ai M5):=by ac_rfl
theorem Al.Vu {a b:Addr} {H HH H':Hp} (s:Al b H HH) (t:Al a HH H') (f:H a=none):Al b H H':=λc o e n=>t _ _ (s _ _ e n) λz=>by rw[z,f] at e;cases e
theorem Xu {κ : Type} [DecidableEq κ]:∀{l m:List κ},l.Nodup->(∀x∈l,x∈m)->l.length<=m.length
 | [],_,_,_=>Qca _
 | a::r,m,nd,h=>by
  have ha:=h a (QaI ..);obtain⟨n1,n2⟩:=Qbw.mp nd;have:=Xu (l:=r) (m:=m.erase a) n2 λx hx=>(List.mem_erase_of_ne (λe=>n1 (by rw[<-e];exact hx))).mpr (h x (Qav _ hx));rw[List.length_erase_of_mem ha] at this;have hp:=List.length_pos_of_mem ha;rw[Qbj];omega
theorem gP {ms:List Int} (h:ms.Pairwise (· < ·)):ms.Nodup:=h.imp λh e=>absurd h (by omega)
theorem Nv:∀{ms:List Int},ms.Pairwise (· < ·)->Hh ms=true
 | [],_=>rfl
 | [_],_=>rfl
 | a::b::r,h=>by
  obtain⟨h1,h2⟩:=List.pairwise_cons.mp h;have:=Nv h2;unfold Hh adj at this ⊢;show ((decide (a < b)&&((b::r).zip r).all λp=>decide (p.1 < p.2)):Bool)=true;rw[QbF (h1 b (QaI ..))];exact this
theorem Rv {ms ns:List Int} (h:ms.Pairwise (· < ·)) (e:∀k,k∈ms ↔ k∈ns):ms.length<=ns.length:=Xu (gP h) λx hx=>(e x).mp hx
theorem Dt {H:Hp}:∀gs:List Int,Ak H (gs.map V.int) (gs.map PyData.int)
 | []=>.nil
 | g::r=>.cons (.int g) (Dt r)
theorem Ak.snoc {H:Hp} {xs:YG} {ds:List PyData} {x:V} {d:PyData} (h:Ak H xs ds) (r:Rep H x d):Ak H (xs++[x]) (ds++[d]):=Ak.mk (O4 (Ak.pair h) (.cons r .nil))
def Nx:Sp:=λvs H Q _=>∃(b:Addr) (m most least top:Nat),vs=[.ref b,.int most,.int least,.int top]/\most<=16/\least<=top/\top<=99/\BX H b m/\m<=9000/\∀(t:Addr) (gs:List Int) (H':Hp),H' t=some (.tup (gs.map V.int))->(∀g∈gs,(least:Int)<=g/\g<=(top:Int))->gs.Pairwise (· < ·)->gs.length<=most->BX H' b (m+1+most)->Al b H H'->Q (.ref t) H'
section
variable {P:Program} {w:World} {K:YD} {mg:YB} {base:Heap}
abbrev xq:YF:=["_law_at","_law_least","_law_bag_here","_law_top"]
theorem Ub (C:Code K mg "_law_rising" Il Ep) (T:Tc mg) (Bk:Good P w K mg base "_law_take" 1 Eo JH):Good P w K mg base "_law_rising" 2 Ep Nx:=by
 refine C.good T8 (λvs H Q E h=>?_) (λf cdv A outer s H vs Q E hr h=>?_)
 ·obtain⟨b,m,most,least,top,rfl,_⟩:=h;rfl
 obtain⟨b,m,most,least,top,rfl,pA,hlt,pq,hb,hm,q⟩:=h;refine⟨_,(Aj (Av (Cm Dq rfl T.tuple Es (Aa (NZ rfl rfl T.sorted rfl T.set (Aa (CP (N':=xq) rfl (Ca.of (src:=[none,some 2,some 0,some 3]) (Ai Il) Ep rfl rfl rfl (by trivial) (by trivial) (by trivial) rfl (by trivial)) (GF rfl T.range (Aa (Aw Bk hr (Aa (pv 0) (Aa (Ax CK (pv 1) Ac) Ab))) Ab)) (λ_ _ _ _=>(Ay (i:=0) (show List.Nodup (xq:YF) by trivial) rfl (Or.inl rfl))) (λ_ _ _ _=>DX) (λ_ _ _ _=>(Ax CK (pv 1) (Aw Bk hr (Aa (pv 2) (Aa (Ax CK (Ax Gm (pv 3) (pv 1)) Ac) Ab)))))) Ab)) Ab)))),?_⟩;refine⟨_,rq,_,rq,_,_,rq,rq,b,m,_,rq,hb,by omega,by omega,by omega,λr H2 r0 r1 hb2 sb2=>⟨_,rq,by omega,by omega,λl hl=>?_⟩⟩;have nbl:=hb2.nb hl;have hl0:H l=none:=sb2.free hb2.ex hl;let J0:YN:=λi σ HH=>∃(u:Option V) (ns:List Int),σ=[u,some (.int least),jp b,some (.int top)]/\HH l=some (.lst (ns.map V.int))/\ns.length=i/\(∀a∈ns,(least:Int)<=a/\a<=(top:Int))/\BX HH b (m+1+i)/\Al b H2 HH;refine Kw J0 ⟨_,[],rq,Ad,rq,(λa ha=>by cases ha),hb2.same (Ae hl _),Al.of (Ae hl _)⟩ (λi σ HH hi h=>?_) (fun σ HH h=>?_)
 ·obtain⟨u,ns,rfl,e1,e2,e3,e4,e5⟩:=h;refine Gv (Bj ⟨_,rq,_,rq,_,rq,_,rq,_,_,rq,rq,_,_,rq,rq,b,_,_,rq,e4,by omega,by omega,by omega,λr3 H3 r30 r31 hb3 sb3=>⟨_,_,rq,rq,_,sb3 _ _ e1 nbl.symm,Bq (by rw[Qbs];omega),_,ns++[(least:Int)+r3],rq,?_,by rw[QaF,e2];rfl,?_,hb3.Nz Al.upd nbl,Al.Vu (e5.trans sb3) Al.upd hl⟩⟩)
  ·rw[Ad,Qbt];rfl
  ·intro x hx;rcases Qbx.mp hx with hx | hx
   ·exact e3 x hx
   ·rw[QaK.mp hx];omega
 ·obtain⟨u,ns,rfl,e1,e2,e3,e4,e5⟩:=h;refine⟨l,ns,rq,.inl (SqL.of e1),by omega,λms ls up mem hls=>?_⟩;have s6:=Ae hls (.lst (ms.map V.int));have c6:upd HH ls (.lst (ms.map V.int)) ls=some (.lst (ms.map V.int)):=Ad;generalize upd HH ls (.lst (ms.map V.int))=H6 at *;refine⟨ls,_,rq,.inl ⟨SqL.of c6,λtt htt=>?_⟩⟩;have s9:=Ae htt (.tup (ms.map V.int));exact q tt ms _ Ad (λg hg=>e3 g ((mem g).mp hg)) up (by have:=Rv up mem;omega) ((e4.same (s6.trans s9)).mono (by omega)) (sb2.trans (e5.trans (Al.of (s6.trans s9))))
theorem nW (a:Nat):∃p:Int,atI [V.int 3,.int 9] (if decide ((0:Int) < (a:Int))=true then 1 else 0)=some (.int p)/\((a=0/\p=3)\/(0 < a/\p=9)):=by
 by_cases h:(0:Int) < (a:Int)
 ·rw[QbF h];exact⟨9,rq,.inr ⟨by omega,rq⟩⟩
 ·rw[Qbu h];exact⟨3,rq,.inl ⟨by omega,rq⟩⟩
def W0:Sp:=λvs H Q _=>∃(b:Addr) (m a:Nat),vs=[.ref b,.int a]/\BX H b m/\m<=8000/\a<=30/\∀t (r:Rw) H',Rep (onl H') (.ref t) r.data->r.ok a->BX H' b (m+12)->Al b H H'->Q (.ref t) H'
def Uv:Sp:=λvs H Q _=>∃(b:Addr) (m:Nat),vs=[.ref b]/\BX H b m/\m<=8000/\∀(t:Addr) (ws ks:List Int) (h:Int) (H':Hp),Mf H' t ws ks h->(∀g∈ws,1<=g/\g<=99)->ws.Pairwise (· < ·)->ws.length<=6->(∀g∈ks,0<=g/\g<=9)->ks.Pairwise (· < ·)->ks.length<=5->0<=h->h<=23->BX H' b (m+20)->Al b H H'->Q (.ref t) H'
theorem Y4 (C:Code K mg "_law_row" Ot JN) (T:Tc mg) (Bk:Good P w K mg base "_law_take" 1 Eo JH) (FZ:Good P w K mg base "_law_rising" 2 Ep Nx):Good P w K mg base "_law_row" 3 JN W0:=by
 refine C.good Ro (λvs H Q E h=>?_) (λf cdv A outer s H vs Q E hr h=>?_)
 ·obtain⟨b,m,a,rfl,_⟩:=h;rfl
 obtain⟨b,m,a,rfl,hb,hm,ha,q⟩:=h;refine⟨_,(@Af _ _ _ _ _ (@BZ _ _ 2 _ _ _ _ Ro.nd rfl (Or.inl rfl) (Aw Bk hr (Aa (pv 0) (Aa (@Ao _ _ _ _ _ _ _ Bl (CT (Aa Ac (Aa Ac Ab))) (Cm Ju rfl T.int LQ (Aa (Cp Z2 (pv 1) Ac (Bg _)) Ab)) (λ_ _=>rfl)) Ab))) (by rfl) (by first | exact .inl rfl | exact .inr rfl))
 (@Af _ _ _ _ _ (Bv (Bm Dg (pv 2) Ac (Bg _)) (@Aj _ _ _ (@Av _ _ _ _ (Aq (Aa Bf (Aa (@Ax _ _ _ _ _ _ _ _ CK Ac (Aw Bk hr (Aa (pv 0) (Aa Ac Ab)))) (Aa (@Ax _ _ _ _ _ _ _ _ CZ (Aw FZ hr (Aa (pv 0) (Aa Ac (Aa Ac (Aa Ac Ab))))) (Aq (Aa (@Ax _ _ _ _ _ _ _ _ CK Ac (Aw Bk hr (Aa (pv 0) (Aa Ac Ab)))) Ab))) Ab)))))) Bh)
 (@Af _ _ _ _ _ (Bv (Bm Dg (pv 2) Ac (Bg _)) (@Aj _ _ _ (@Av _ _ _ _ (Aq (Aa Bf (Aa (Aw Bk hr (Aa (pv 0) (Aa Ac Ab))) Ab))))) Bh)
 (@Af _ _ _ _ _ (Bv (Bm Dg (pv 2) Ac (Bg _)) (@Aj _ _ _ (@Av _ _ _ _ (Aq (Aa Bf (Aa (Aw Bk hr (Aa (pv 0) (Aa Ac Ab))) (Aa (Aw Bk hr (Aa (pv 0) (Aa Ac Ab))) Ab)))))) Bh)
 (@Af _ _ _ _ _ (Bv (Bm Ml (pv 2) Ac (Bg _)) (@Aj _ _ _ (@Av _ _ _ _ (Aq (Aa Bf (Aa (Aw Bk hr (Aa (pv 0) (Aa (pv 1) Ab))) Ab))))) Bh)
 (@Af _ _ _ _ _ (Bv (Bm Ml (pv 2) Ac (Bg _)) (@Aj _ _ _ (@Av _ _ _ _ (Aq (Aa (@Ao _ _ _ _ _ _ _ Bl (CT (Aa Bf (Aa Bf Ab))) (@Ax _ _ _ _ _ _ _ _ El (pv 2) Ac) (λ_ _=>rfl)) (Aa (Aw Bk hr (Aa (pv 0) (Aa (pv 1) Ab))) (Aa (Aw Bk hr (Aa (pv 0) (Aa (pv 1) Ab))) Ab)))))) Bh)
 (@Aj _ _ _ (@Av _ _ _ _ (Aq (Aa Bf (Aa (Aw Bk hr (Aa (pv 0) (Aa (pv 1) Ab))) (Aa (Aw Bk hr (Aa (pv 0) (Aa (pv 1) Ab))) (Aa (@Ax _ _ _ _ _ _ _ _ CK Ac (Aw Bk hr (Aa (pv 0) (Aa (@Ao _ _ _ _ _ _ _ Bl (CT (Aa Ac (Aa Ac Ab))) (@Ax _ _ _ _ _ _ _ _ El (pv 2) Ac) (λ_ _=>rfl)) Ab)))) Ab))))))))))))),?_⟩
 show let R0:TS:=_;let R1:TS:=_;let R2:TS:=Az (CQ _ R1 _) R0;let R3:TS:=_;let R4:TS:=Az (CQ _ R3 _) R2;let R5:TS:=_;let R6:TS:=Az (CQ _ R5 _) R4;let R7:TS:=_;let R8:TS:=Az (CQ _ R7 _) R6;let R9:TS:=_;let R10:TS:=Az (CQ _ R9 _) R8;Az _ R10 _ _ _;intro R0 R1 R2 R3 R4 R5 R6 R7 R8 R9 R10;obtain⟨p,hp,hpc⟩:=nW a;refine⟨_,rq,Ag (by show 2<=1000;decide),λl2 hl2=>?_⟩;have s1:=Ae hl2 (.lst [.int 3,.int 9]);have c1:upd H l2 (.lst [.int 3,.int 9]) l2=some (.lst [.int 3,.int 9]):=Ad;have hb1:=hb.same s1;show tCB _ _ _ (upd H l2 (.lst [.int 3,.int 9])) _;generalize upd H l2 (.lst [.int 3,.int 9])=H1 at *;refine⟨_,rq,_,_,rq,rq,.inr ⟨_,rq,l2,_,_,.int p,rq,rq,SqL.of c1,hp,b,m,p,rq,hb1,by omega,by omega,by omega,λway H2 w0 w1 hb2 sb2=>?_⟩⟩;have s2:Al b H H2:=(Al.of s1).trans sb2;refine⟨_,rq,rq,_,rq,ifN (λe0=>?_) (λe0=>?_)⟩
 ·refine⟨_,rq,b,_,3,rq,hb2,by omega,by decide,by decide,λr3 H3 r30 r31 hb3 sb3=>⟨_,_,rq,rq,_,rq,b,_,5,1,9,rq,by decide,by decide,by decide,hb3,by omega,λt1 gs H4 ht1 hg up l5 hb4 sb4=>?_⟩⟩;refine⟨_,rq,b,_,90,rq,hb4,by omega,by decide,by decide,λr5 H5 r50 r51 hb5 sb5=>⟨_,_,rq,rq,Ag (by show 1<=1000;decide),λt2 ht2=>?_⟩⟩;have lV:=(sb5.tup hb4.Cz) _ _ ht1;have s6:=Ae ht2 (.tup [.int (10+r5)]);refine⟨t1,t2,_,_,rq,rq,s6 _ _ lV,Ad,Ag (by rw[Qbs];show gs.length+1<=1000;omega),λt3 H6 ht3 s7=>⟨Ag (by show 3<=1000;decide),λt ht=>?_⟩⟩;have ht3:H6 t3=some (.tup ((gs++[10+r5]).map V.int)):=by rw[Qbt];exact ht3
  have sA:=Ae ht (.tup [.str "many",.int (1+r3),.ref t3]);refine q t (.many (1+r3) (gs++[10+r5])) _ (.tup (Dc Ad) (.cons (.str _) (.cons (.int _) (.cons (.tup (Dc (sA _ _ ht3)) (Dt _)) .nil)))) ⟨by omega,by omega,by rw[QaF,Qas];omega,by rw[QaF,Qas];omega,λx hx=>?_,Nv (List.pairwise_append.mpr ⟨up,List.pairwise_singleton ..,λx hx y hy=>?_⟩)⟩ (((hb5.same s6).same (s7.trans sA)).mono (by omega)) (s2.trans (sb3.trans (sb4.trans (sb5.trans (Al.of (s6.trans (s7.trans sA)))))))
  ·rcases Qbx.mp hx with hx | hx
   ·have:=hg x hx;omega
   ·rw[QaK.mp hx];omega
  ·have:=hg x hx;rw[QaK.mp hy];omega
 refine⟨_,rq,rq,_,rq,ifN (λe1=>?_) (λe1=>?_)⟩
 ·refine⟨_,rq,b,_,10,rq,hb2,by omega,by decide,by decide,λk H3 k0 k1 hb3 sb3=>⟨Ag (by show 2<=1000;decide),λt ht=>?_⟩⟩;have sA:=Ae ht (.tup [.str "key",.int k]);exact q t (.key k) _ (.tup (Dc Ad) (.cons (.str _) (.cons (.int _) .nil))) ⟨k0,by omega⟩ ((hb3.same sA).mono (by omega)) (s2.trans (sb3.trans (Al.of sA)))
 refine⟨_,rq,rq,_,rq,ifN (λe2=>?_) (λe2=>?_)⟩
 ·refine⟨_,rq,b,_,24,rq,hb2,by omega,by decide,by decide,λx H3 x0 x1 hb3 sb3=>⟨_,rq,b,_,24,rq,hb3,by omega,by decide,by decide,λy H4 y0 y1 hb4 sb4=>⟨Ag (by show 3<=1000;decide),λt ht=>?_⟩⟩⟩;have sA:=Ae ht (.tup [.str "hours",.int x,.int y]);exact q t (.hours x y) _ (.tup (Dc Ad) (.cons (.str _) (.cons (.int _) (.cons (.int _) .nil)))) ⟨x0,by omega,y0,by omega⟩ ((hb4.same sA).mono (by omega)) (s2.trans (sb3.trans (sb4.trans (Al.of sA))))
 have a0:0 < a:=by omega
 refine⟨_,rq,_,_,rq,rq,_,rq,V6 (λc5=>?_) (λc5=>?_)⟩
 ·refine⟨_,rq,_,rq,b,_,a,rq,hb2,by omega,by omega,by omega,λi H3 i0 i1 hb3 sb3=>⟨Ag (by show 2<=1000;decide),λt ht=>?_⟩⟩;obtain⟨i,rfl⟩:=Qal i0;have sA:=Ae ht (.tup [.str "not",.int i]);exact q t (.neg i) _ (.tup (Dc Ad) (.cons (.str _) (.cons (.int _) .nil))) (by show i < a;omega) ((hb3.same sA).mono (by omega)) (s2.trans (sb3.trans (Al.of sA)))
 have c5:¬way < 5:=λz=>c5 (QbF z);refine⟨_,rq,_,_,rq,rq,_,rq,V6 (λc7=>?_) (λc7=>?_)⟩
 ·have c7:way < 7:=QaV c7;obtain⟨wd,rr,hwd,hrr⟩ : ∃(wd:Str) (rr:Nat->Nat->Rw),atI [V.str "and",.str "or"] (way % 2)=some (.str wd)/\∀i j,(rr i j).data=.tuple [.str wd,.int i,.int j]/\∀m,i < m->j < m->(rr i j).ok m:=by
   have hw:way=5\/way=6:=by omega
   rcases hw with rfl | rfl
   ·exact⟨"or",.any,rq,λi j=>⟨rq,λm h1 h2=>⟨h1,h2⟩⟩⟩
   ·exact⟨"and",.both,rq,λi j=>⟨rq,λm h1 h2=>⟨h1,h2⟩⟩⟩
  refine⟨Ag (by show 2<=1000;decide),λl hl=>?_⟩;have s3:=Ae hl (.lst [.str "and",.str "or"]);have c3:upd H2 l (.lst [.str "and",.str "or"]) l=some (.lst [.str "and",.str "or"]):=Ad;have hb3:=hb2.same s3;show tOp _ _ _ _ (upd H2 l (.lst [.str "and",.str "or"])) _;generalize upd H2 l (.lst [.str "and",.str "or"])=H3 at *;refine⟨_,rq,_,_,rq,rq,(by show (0:Int) < 2;decide),l,_,_,_,rq,rq,SqL.of c3,hwd,?_⟩;refine⟨_,rq,_,rq,b,_,a,rq,hb3,by omega,by omega,by omega,λi H4 i0 i1 hb4 sb4=>⟨_,rq,_,rq,b,_,a,rq,hb4,by omega,by omega,by omega,λj H5 j0 j1 hb5 sb5=>⟨Ag (by show 3<=1000;decide),λt ht=>?_⟩⟩⟩;obtain⟨i,rfl⟩:=Qal i0;obtain⟨j,rfl⟩:=Qal j0;have sA:=Ae ht (.tup [.str wd,.int i,.int j]);refine q t (rr i j) _ ?_ ((hrr i j).2 a (by omega) (by omega)) ((hb5.same sA).mono (by omega)) (s2.trans ((Al.of s3).trans (sb4.trans (sb5.trans (Al.of sA)))));rw[(hrr i j).1];exact .tup (Dc Ad) (.cons (.str _) (.cons (.int _) (.cons (.int _) .nil)))
 have c7:¬way < 7:=λz=>c7 (QbF z);refine⟨_,rq,_,rq,b,_,a,rq,hb2,by omega,by omega,by omega,λi H4 i0 i1 hb4 sb4=>⟨_,rq,_,rq,b,_,a,rq,hb4,by omega,by omega,by omega,λj H5 j0 j1 hb5 sb5=>?_⟩⟩;obtain⟨i,rfl⟩:=Qal i0;obtain⟨j,rfl⟩:=Qal j0;obtain⟨v,hv,v1,v20⟩ : ∃v:Int,atI [V.int 3,.int 20] (way % 2)=some (.int v)/\1<=v/\v<=20:=by
  have hw:way=7\/way=8:=by omega
  rcases hw with rfl | rfl
  ·exact⟨20,rq,by decide,by decide⟩
  ·exact⟨3,rq,by decide,by decide⟩
 refine⟨_,rq,Ag (by show 2<=1000;decide),λl hl=>?_⟩;have s3:=Ae hl (.lst [.int 3,.int 20]);have c3:upd H5 l (.lst [.int 3,.int 20]) l=some (.lst [.int 3,.int 20]):=Ad;have hb6:=hb5.same s3;show tOp _ _ _ _ (upd H5 l (.lst [.int 3,.int 20])) _;generalize upd H5 l (.lst [.int 3,.int 20])=H6 at *;refine⟨_,rq,_,_,rq,rq,(by show (0:Int) < 2;decide),l,_,_,_,rq,rq,SqL.of c3,hv,b,_,v,rq,hb6,by omega,by omega,by omega,λn H7 n0 n1 hb7 sb7=>⟨_,_,rq,rq,Ag (by show 4<=1000;decide),λt ht=>?_⟩⟩;obtain⟨n,rfl⟩:=Qal n0;dsimp only;rw[show (1:Int)+(n:Int)=((1+n:Nat):Int) by omega];have sA:=Ae ht (.tup [.str "then",.int i,.int j,.int ((1+n:Nat):Int)]);exact q t (.thn i j (1+n)) _ (.tup (Dc Ad) (.cons (.str _) (.cons (.int _) (.cons (.int _) (.cons (.int _) .nil))))) ⟨by omega,by omega,by omega,by omega⟩ ((hb7.same sA).mono (by omega)) (s2.trans (sb4.trans (sb5.trans ((Al.of s3).trans (sb7.trans (Al.of sA))))))
theorem Xq (C:Code K mg "_law_beat" M5 Ji) (T:Tc mg) (Bk:Good P w K mg base "_law_take" 1 Eo JH) (FZ:Good P w K mg base "_law_rising" 2 Ep Nx):Good P w K mg base "_law_beat" 3 Ji Uv:=by
 refine C.good Xb (λvs H Q E h=>?_) (λf cdv A outer s H vs Q E hr h=>?_)
 ·obtain⟨b,m,rfl,_⟩:=h;rfl
 obtain⟨b,m,rfl,hb,hm,q⟩:=h;refine⟨_,(Aj (Av (Aq (Aa (Aw FZ hr (Aa (pv 0) (Aa Ac (Aa Ac (Aa (Ao Bl (CT (Aa Ac (Aa Ac Ab))) (Aw Bk hr (Aa (pv 0) (Aa Ac Ab))) (λ_ _=>rfl)) Ab))))) (Aa (Aw FZ hr (Aa (pv 0) (Aa Ac (Aa Ac (Aa Ac Ab))))) (Aa (Aw Bk hr (Aa (pv 0) (Aa Ac Ab))) Ab)))))),?_⟩;refine⟨_,rq,Ag (by show 2<=1000;decide),λl hl=>?_⟩;have s1:=Ae hl (.lst [.int 9,.int 99]);have c1:upd H l (.lst [.int 9,.int 99]) l=some (.lst [.int 9,.int 99]):=Ad;have nbl:=hb.nb hl;have hb1:=hb.same s1;show QV _ _ _ _ _ (upd H l (.lst [.int 9,.int 99])) _;generalize upd H l (.lst [.int 9,.int 99])=H1 at *;refine⟨_,rq,b,_,2,rq,hb1,by omega,by decide,by decide,λr H2 r0 r1 hb2 sb2=>?_⟩;obtain⟨top,htop,t1,t2⟩ : ∃top:Nat,atI [V.int 9,.int 99] r=some (.int top)/\1<=top/\top<=99:=by
  have hr:r=0\/r=1:=by omega
  rcases hr with rfl | rfl
  ·exact⟨9,rq,by decide,by decide⟩
  ·exact⟨99,rq,by decide,by decide⟩
 refine⟨l,_,_,_,rq,rq,SqL.of (sb2 _ _ c1 nbl.symm),htop,b,_,6,1,top,rq,by decide,by omega,t2,hb2,by omega,λtw ws H3 htw hw upw lw hb3 sb3=>?_⟩;refine⟨_,rq,b,_,5,0,9,rq,by decide,by decide,by decide,hb3,by omega,λtk ks H4 htk hk upk lk hb4 sb4=>?_⟩;refine⟨_,rq,b,_,24,rq,hb4,by omega,by decide,by decide,λh H5 h0 h1 hb5 sb5=>⟨Ag (by show 3<=1000;decide),λt ht=>?_⟩⟩;have sA:=Ae ht (.tup [.ref tw,.ref tk,.int h]);have tu:=(sb5.tup hb4.Cz).trans (BK.of sA);exact q t ws ks h _ ⟨tw,tk,Ad,(sb4.tup hb3.Cz |>.trans tu) _ _ htw,tu _ _ htk⟩ (λg hg=>by have:=hw g hg;omega) upw lw (λg hg=>by have:=hk g hg;omega) upk lk h0 (by omega) ((hb5.same sA).mono (by omega)) ((Al.of s1).trans (sb2.trans (sb3.trans (sb4.trans (sb5.trans (Al.of sA))))))
end
def run {α β : Type} (f:List α->β->α) (bs:List β):List α:=bs.foldl (λacc b=>acc++[f acc b]) []
theorem Ow {α β : Type} (f:List α->β->α):∀(bs:List β) (acc:List α),∃t,bs.foldl (λacc b=>acc++[f acc b]) acc=acc++t/\t.length=bs.length
 | [],acc=>⟨[],by rw[QbB];rfl,rfl⟩
 | b::r,acc=>by
  obtain⟨t,e,l⟩:=Ow f r (acc++[f acc b]);exact⟨f acc b::t,by rw[List.foldl_cons,e,List.append_assoc];rfl,by rw[Qbj,Qbj,l]⟩
theorem Uy {α β : Type} (f:List α->β->α) (bs:List β):(run f bs).length=bs.length:=by
 obtain⟨t,e,l⟩:=Ow f bs [];unfold run;rw[e,List.nil_append,l]
theorem Yx {α β : Type} (f:List α->β->α) {bs:List β} {i:Nat} {b:β} (e:bs[i]?=some b):run f (bs.take (i+1))=run f (bs.take i)++[f (run f (bs.take i)) b]:=by
 unfold run;rw[Qcg e,List.foldl_append];rfl
theorem M8 {α β : Type} (f:List α->β->α) {bs:List β} {i:Nat} (h:i<=bs.length):(run f bs).take i=run f (bs.take i):=by
 have e:run f bs=(bs.drop i).foldl (λacc b=>acc++[f acc b]) (run f (bs.take i)):=by
  unfold run;rw[<-List.foldl_append,List.take_append_drop]
 obtain⟨t,e2,_⟩:=Ow f (bs.drop i) (run f (bs.take i));rw[e,e2];have l:=Uy f (bs.take i);rw[Qbi,Qbz h] at l;rw[List.take_append_of_le_length (by omega),Qao (by omega)]
theorem Xe {α β : Type} (f:List α->β->α) {bs:List β} {i:Nat} {b:β} (e:bs[i]?=some b):(run f bs)[i]?=some (f (run f (bs.take i)) b):=by
 have hi:=(Qaf.mp e).1;have t:=M8 f (bs:=bs) (i:=i+1) hi;rw[Yx f e] at t;have l:=Uy f (bs.take i);rw[Qbi,Qbz (by omega)] at l;have:((run f bs).take (i+1))[i]?=some (f (run f (bs.take i)) b):=by
  rw[t,Qad (by omega),l,Nat.sub_self];rfl
 rw[List.getElem?_take] at this;simpa using this
theorem U0 {α : Type} {l:List α} {i:Nat} {x d:α} (h:l[i]?=some x):l.getD i d=x:=by
 rw[Qae,h];rfl
def Dp (rows:List Rw) (bs:List Bt) (j:Nat):List Bool:=(Ci rows bs).map λg=>g.getD j false
theorem Xk {rows:List Rw} {bs:List Bt} {k:Nat} (h:k<=bs.length):(Ci rows bs).take k=Ci rows (bs.take k):=M8 (λpast (b:Bt)=>CG b.1 b.2.1 b.2.2 past rows) h
theorem aQ {rows:List Rw} {bs:List Bt} {k:Nat} {b:Bt} (e:bs[k]?=some b):(Ci rows bs)[k]?=some (CG b.1 b.2.1 b.2.2 (Ci rows (bs.take k)) rows):=Xe (λpast (b:Bt)=>CG b.1 b.2.1 b.2.2 past rows) e
theorem Y9 {ws ks:List Int} {h:Int} {past:List (List Bool)} {rows:List Rw} {i:Nat} (l:i<=rows.length):(CG ws ks h past rows).take i=CG ws ks h past (rows.take i):=M8 (λnow r=>Gs ws ks h past now r) l
theorem eF {ws ks:List Int} {h:Int} {past:List (List Bool)} {rows:List Rw} {i:Nat} {r:Rw} (e:rows[i]?=some r):(CG ws ks h past rows)[i]?=some (Gs ws ks h past (CG ws ks h past (rows.take i)) r):=Xe (λnow r=>Gs ws ks h past now r) e
theorem Mu (rows:List Rw) (bs:List Bt) (j:Nat):(Dp rows bs j).length=bs.length:=by
 unfold Dp;rw[Qbs,(Kl rows bs).1]
theorem Va {rows:List Rw} {bs:List Bt} {j k:Nat} {b:Bt} (e:bs[k]?=some b):(Dp rows bs j)[k]?=some ((CG b.1 b.2.1 b.2.2 (Ci rows (bs.take k)) rows).getD j false):=by
 unfold Dp;rw[QaU,aQ e];rfl
theorem gk {rows:List Rw} {bs:List Bt} {i k:Nat} {b:Bt} {r:Rw} (er:rows[i]?=some r) (e:bs[k]?=some b):(Dp rows bs i)[k]?=some (Gs b.1 b.2.1 b.2.2 (Ci rows (bs.take k)) (CG b.1 b.2.1 b.2.2 (Ci rows (bs.take k)) (rows.take i)) r):=by
 rw[Va e,U0 (eF er)]
theorem bO {rows:List Rw} {bs:List Bt} {i j k:Nat} {b:Bt} (hj:j < i) (hi:i<=rows.length) (e:bs[k]?=some b):(Dp rows bs j)[k]?=some ((CG b.1 b.2.1 b.2.2 (Ci rows (bs.take k)) (rows.take i)).getD j false):=by
 rw[Va e,<-Y9 hi];congr 1;rw[Qae,Qae,List.getElem?_take,if_pos hj]
theorem bQ {rows:List Rw} {bs:List Bt} {j k n:Nat} (h:k<=bs.length):(((Dp rows bs j).drop (k - n)).take (k - (k - n))).any id=((Ci rows (bs.take k)).drop ((Ci rows (bs.take k)).length - n)).any λg=>g.getD j false:=by
 rw[(Kl rows _).1,Qbi,Qbz h,<-Xk h,List.drop_take];unfold Dp;rw[<-List.map_drop,<-List.map_take,List.any_map];rfl
theorem Zh {rows:List Rw} {bs:List Bt} (h:1<=bs.length) (j:Nat):((Ci rows bs).getLastD []).getD j false=(Dp rows bs j).getLastD false:=by
 have l:=(Kl rows bs).1;unfold Dp;cases e:Ci rows bs with
 | nil=>rw[e] at l;simp at l;omega
 | cons a r=>
  have key:∀(a:List Bool) (r:List (List Bool)),((a::r).getLastD []).getD j false=(((a::r).map λg=>g.getD j false)).getLastD false:=by
   intro a r
   induction r generalizing a with
   | nil=>rfl
   | cons b t ih=>exact ih b
  exact key a r
abbrev Mj:Stmt:=top 98
abbrev JQ:YF:=["_law_row_here","_law_held","_law_beats"]
abbrev xt:YF:=["_law_row_here","_law_held","_law_beats","_law_warned","_law_turned","_law_hour","_law_last"]
theorem Jc:Bo xt JQ (Ai Mj):=by ac_rfl
theorem Ve {α : Type} {xs:List α} {k:Nat} {x:α} (l:xs.length=k+1) (h:xs[k]?=some x):atI xs (-1)=some x:=by
 have ny:xs≠[]:=λz=>by rw[z] at l;cases l
 have e:=List.dropLast_concat_getLast ny;have:=TJ xs.dropLast (xs.getLast ny);rw[e] at this;rw[this];have g:xs.getLast?=some x:=by rw[List.getLast?_eq_getElem?,l];exact h
 rw[List.getLast?_eq_some_getLast ny] at g;exact g
theorem bL {xs:YG} {a b:Nat} (h:a<=xs.length) (h':b<=xs.length):Cy xs (some (a:Int)) (some (b:Int))=(xs.drop a).take (b - a):=by
 unfold Cy;rw[HT.Hg,HT.Hg,Qbz h,Qbz h']
theorem bA {a b h:Int}:decide ((h - a) % 24 < (if a=b then 24 else (b - a) % 24))=(decide (a=b) || decide ((h - a) % 24 < (b - a) % 24)):=by
 by_cases e:a=b
 ·rw[if_pos e,QbF e,QbF (by omega)];rfl
 ·rw[if_neg e,Qbu e];rfl
theorem bB {a b x:Int}:atI [V.int x,.int 24] (if PyData.eqv (.int a) (.int b)=true then 1 else 0)=some (.int (if a=b then 24 else x)):=by
 have h:PyData.eqv (.int a) (.int b)=decide (a=b):=by show (a == b)=_;rw[QbA];simp
 rw[h];by_cases e:a=b
 ·rw[QbF e,if_pos rfl,if_pos e];rfl
 ·rw[Qbu e,if_neg (by decide),if_neg e];rfl
def ZW:Sp:=λvs H Q _=>∃(tr hl bl:Addr) (rows:List Rw) (bs:List Bt) (i k:Nat) (r:Rw) (hs xs:YG),vs=[.ref tr,.ref hl,.ref bl]/\Rep H (.ref tr) r.data/\rows[i]?=some r/\r.ok i/\H hl=some (.lst hs)/\Paired (HeldAt H) hs ((List.range i).map (Dp rows bs))/\H bl=some (.lst xs)/\Paired (BAt H) xs (bs.take (k+1))/\k < bs.length/\bs.length<=60/\∀H',Same H H'->Q (.bl ((Dp rows bs i).getD k false)) H'
section
variable {P:Program} {w:World} {K:YD} {mg:YB} {base:Heap}
abbrev xu:YF:=["_law_address","_law_warned"]
theorem dX (C:Code K mg "_law_now" Mj JQ) (T:Tc mg):Good P w K mg base "_law_now" 1 JQ ZW:=by
 refine C.good Jc (λvs H Q E h=>?_) (λf cdv A outer s H vs Q E hr h=>?_)
 ·obtain⟨tr,hl,bl,rows,bs,i,k,r,hs,xs,rfl,_⟩:=h;rfl
 obtain⟨tr,hl,bl,rows,bs,i,k,r,hs,xs,rfl,rt,er,ok,hhl,ph,hbl,pb,kb,b60,q⟩:=h;refine⟨_,(Af (Ft (Ao Bl (pv 2) (NT La Ac) (λ_ _=>rfl)) (Gh rfl (Bd (Ay (i:=3) Jc.nd rfl (Or.inr rfl)) (Bd (Ay (i:=4) Jc.nd rfl (Or.inl rfl)) (Bd (Ay (i:=5) Jc.nd rfl (Or.inl rfl)) CW)))))
 (Af (BZ (i:=6) Jc.nd rfl (Or.inl rfl) (Ax Gm (Bc Bw rfl T.len Dk (Aa (pv 2) Ab)) Ac))
 (Af (Bv (Bm Dg (Ao Ba (pv 0) Ac (λ_ _=>rfl)) Bf (Bg _)) (Aj (Av (Cp VN (Bc Bw rfl T.len Dk (Aa (CP (N':=xu) rfl (Ca.of (src:=[none,some 3]) (Ai Mj) xt rfl rfl rfl (by trivial) (by trivial) (by trivial) rfl (by trivial)) (Eu (Ao Ba (pv 0) Ac (λ_ _=>rfl))) (λ_ _ _ _=>(Ay (i:=0) (show List.Nodup (xu:YF) by trivial) rfl (Or.inl rfl))) (λ_ _ _ _=>(NQ (Bm (N6 (K:=K) rfl) (pv 0) (pv 1) (by with_unfolding_all rfl)))) (λ_ _ _ _=>(pv 0))) Ab)) (Ao Ba (pv 0) Ac (λ_ _=>rfl)) (Bg _)))) Bh)
 (Af (Bv (Bm Dg (Ao Ba (pv 0) Ac (λ_ _=>rfl)) Bf (Bg _)) (Aj (Av (Cp Ln (Ao Ba (pv 0) Ac (λ_ _=>rfl)) (pv 4) (by with_unfolding_all rfl)))) Bh)
 (Af (Bv (Bm Dg (Ao Ba (pv 0) Ac (λ_ _=>rfl)) Bf (Bg _)) (Aj (Av (Cp Ml (Ax El (Ax Gm (pv 5) (Ao Ba (pv 0) Ac (λ_ _=>rfl))) Ac) (Ao Bl (CT (Aa (Ax El (Ax Gm (Ao Ba (pv 0) Ac (λ_ _=>rfl)) (Ao Ba (pv 0) Ac (λ_ _=>rfl))) Ac) (Aa Ac Ab))) (Cm Ju rfl T.int LQ (Aa (Cp (HF hr.units) (Ao Ba (pv 0) Ac (λ_ _=>rfl)) (Ao Ba (pv 0) Ac (λ_ _=>rfl)) (Bg _)) Ab)) (λ_ _=>rfl)) (Bg _)))) Bh)
 (Af (Bv (Bm Dg (Ao Ba (pv 0) Ac (λ_ _=>rfl)) Bf (Bg _)) (Aj (Av (RJ (Ao Bl (Ao Bl (pv 1) (Ao Ba (pv 0) Ac (λ_ _=>rfl)) (λ_ _=>rfl)) (pv 6) (λ_ _=>rfl))))) Bh)
 (Af (Bv (Bm Dg (Ao Ba (pv 0) Ac (λ_ _=>rfl)) Bf (Bg _)) (Aj (Av (Cg (Ao Bl (Ao Bl (pv 1) (Ao Ba (pv 0) Ac (λ_ _=>rfl)) (λ_ _=>rfl)) (pv 6) (λ_ _=>rfl)) (Cw (Ao Bl (Ao Bl (pv 1) (Ao Ba (pv 0) Ac (λ_ _=>rfl)) (λ_ _=>rfl)) (pv 6) (λ_ _=>rfl)))))) Bh)
 (Af (Bv (Bm Dg (Ao Ba (pv 0) Ac (λ_ _=>rfl)) Bf (Bg _)) (Aj (Av (VH (Ao Bl (Ao Bl (pv 1) (Ao Ba (pv 0) Ac (λ_ _=>rfl)) (λ_ _=>rfl)) (pv 6) (λ_ _=>rfl)) (Cw (Ao Bl (Ao Bl (pv 1) (Ao Ba (pv 0) Ac (λ_ _=>rfl)) (λ_ _=>rfl)) (pv 6) (λ_ _=>rfl)))))) Bh)
 (Aj (Av (Cg (Ao Bl (Ao Bl (pv 1) (Ao Ba (pv 0) Ac (λ_ _=>rfl)) (λ_ _=>rfl)) (pv 6) (λ_ _=>rfl)) (Cw (Bc (Tv rfl) rfl T.any Yi (Aa (Dm Iz (Ao Bl (pv 1) (Ao Ba (pv 0) Ac (λ_ _=>rfl)) (λ_ _=>rfl)) (Dl (Bc (Qq rfl) rfl T.max Yh (Aa Ac (Aa (Ax Gm (pv 6) (Ao Ba (pv 0) Ac (λ_ _=>rfl))) Ab)))) (Dl (pv 6))) Ab)))))))))))))),?_⟩
 show let R0:TS:=_;let R1:TS:=_;let R2:TS:=Az (CQ _ R1 _) R0;let R3:TS:=_;let R4:TS:=Az (CQ _ R3 _) R2;let R5:TS:=_;let R6:TS:=Az (CQ _ R5 _) R4;let R7:TS:=_;let R8:TS:=Az (CQ _ R7 _) R6;let R9:TS:=_;let R10:TS:=Az (CQ _ R9 _) R8;let R11:TS:=_;let R12:TS:=Az (CQ _ R11 _) R10;let R13:TS:=Az _ R12;Az _ R13 _ _ _;intro R0 R1 R2 R3 R4 R5 R6 R7 R8 R9 R10 R11 R12 R13;have hi:=(Qaf.mp er).1;have lx:=QbN pb;rw[Qbi,Qbz (by omega)] at lx;have hxk:xs[k]?=some xs[k]:=Qaj (by omega);obtain⟨b,hb,tb,exk,tw,tk,h1,h2,h3⟩:=Kh pb hxk;rw[List.getElem?_take,if_pos (by omega)] at hb;rw[exk] at hxk;have ek:((xs.length:Nat):Int) - 1=(k:Int):=by omega
 have q:∀H',Same H H'->Q (.bl (Gs b.1 b.2.1 b.2.2 (Ci rows (bs.take k)) (CG b.1 b.2.1 b.2.2 (Ci rows (bs.take k)) (rows.take i)) r)) H':=λH' s=>by
  have:=q H' s;rw[U0 (gk er hb)] at this;exact this
 generalize hN:CG b.1 b.2.1 b.2.2 (Ci rows (bs.take k)) (rows.take i)=N at q;have col:∀j,j < i->∃a,atI hs (j:Int)=some (.ref a)/\H a=some (.lst ((Dp rows bs j).map V.bl))/\atI ((Dp rows bs j).map V.bl) (((xs.length:Nat):Int) - 1)=some (.bl (N.getD j false)):=λj hj=>by
  have lh:=QbN ph;rw[Qbs,Qbc] at lh;have hj':hs[j]?=some hs[j]:=Qaj (by omega);obtain⟨g,hg,a,ea,ha⟩:=Kh ph hj';rw[QaU,List.getElem?_range hj] at hg;injection hg with hg;subst hg;refine⟨a,Ah (by rw[hj',ea]),ha,?_⟩;rw[ek];refine Ah ?_;rw[QaU,bO hj (by omega) hb,hN];rfl
 refine⟨_,rq,_,rq,bl,xs,-1,_,rq,rq,SqL.of hbl,Ve lx hxk,tb,_,rq,SqT.of h1,rq,_,_,rq,_,_,rq,_,_,rq,rq,?_⟩;refine⟨_,rq,bl,_,rq,.inl (SqL.of hbl),_,_,rq,rq,?_⟩;cases r with
 | many n as=>
  cases rt with
  | tup ht rs=>
  cases rs with
  | cons r1 rs=>
  cases rs with
  | cons r2 rs=>
  cases rs with
  | cons r3 rs=>
  cases rs;cases r1;cases r2;cases r3 with
  | @tup ta ys _ hta ra=>
  have ea:=Jq ra;subst ea;have l30:as.length<=30:=ok.2.2.2.1;refine⟨_,rq,tr,_,_,_,rq,rq,SqT.of ht,Ah (j:=0) rfl,rq,_,rq,ifS (λ_=>?_) (λz=>absurd rfl z)⟩;refine⟨_,rq,tr,_,_,_,rq,rq,SqT.of ht,Ah (j:=2) rfl,ta,rq,⟨_,SqT.of hta⟩,λl hl=>?_⟩;let J0:YN:=λ(j:Nat) (σ : St) (HH:Hp)=>∃(u:Option V),σ=[u,jp tw]/\HH l=some (.lst (((as.take j).filter λa=>decide (a∈b.1)).map V.int))/\Same H HH;refine Ec (xs:=as.map V.int) J0 ⟨_,rq,Ad,Ae hl _⟩ (λj σ HH _ h=>?_) (λj x σ HH hx h=>?_) (fun σ HH h=>?_)
  ·obtain⟨u,rfl,e1,e2⟩:=h;exact SqT.of (e2 _ _ hta)
  ·obtain⟨u,rfl,e1,s2⟩:=h;rw[QaU] at hx;obtain⟨a,ha,rfl⟩:=Qan.mp hx;have hi:=(Qaf.mp ha).1;refine Gv ⟨_,rq,_,rq,tw,_,rq,.inr (SqT.of (s2 _ _ h2)),rq,Oi b.1,_,rq,?_⟩;show if inV (.int a) (b.1.map V.int)=true then _ else _
   rw[Oe];have ts:=Qcg ha;by_cases e:a∈b.1
   ·rw[QbF e];refine Bj ⟨_,rq,_,e1,Bq (by rw[Qbs];exact QbV (Qat _ _) (by rw[Qbi];omega)),_,rq,?_,s2.Cr Al.upd hl⟩;rw[Ad,ts,QaO,Qbn,if_pos (QbF e),Qbt];rfl
   ·rw[Qbu e];refine Bu ⟨_,rq,?_,s2⟩;rw[ts,QaO,Qbn,if_neg (by rw[Qbu e];decide),List.filter_nil,QbB];exact e1
  obtain⟨u,rfl,e1,s1⟩:=h;rw[Qbs,Qbk] at e1;refine⟨l,_,rq,.inl (SqL.of e1),_,rq,tr,_,_,_,rq,rq,SqT.of (s1 _ _ ht),Ah (j:=1) rfl,_,_,rq,rq,?_⟩;rw[Qbs];exact q _ s1
 | key n=>
  cases rt with
  | tup ht rs=>
  cases rs with
  | cons r1 rs=>
  cases rs with
  | cons r2 rs=>
  cases rs;cases r1;cases r2;refine⟨_,rq,tr,_,_,_,rq,rq,SqT.of ht,Ah (j:=0) rfl,rq,_,rq,ifS (λz=>absurd z (by trivial)) (λ_=>?_)⟩;refine⟨_,rq,tr,_,_,_,rq,rq,SqT.of ht,Ah (j:=0) rfl,rq,_,rq,ifS (λ_=>?_) (λz=>absurd rfl z)⟩;refine⟨_,rq,tr,_,_,_,rq,rq,SqT.of ht,Ah (j:=1) rfl,_,rq,tk,_,rq,.inr (SqT.of h3),rq,Oi b.2.1,?_⟩;show Q (.bl (inV (.int n) (b.2.1.map V.int))) H;rw[Oe];exact q _ (Same.refl _)
 | hours x y=>
  cases rt with
  | tup ht rs=>
  cases rs with
  | cons r1 rs=>
  cases rs with
  | cons r2 rs=>
  cases rs with
  | cons r3 rs=>
  cases rs;cases r1;cases r2;cases r3;refine⟨_,rq,tr,_,_,_,rq,rq,SqT.of ht,Ah (j:=0) rfl,rq,_,rq,ifS (λz=>absurd z (by trivial)) (λ_=>?_)⟩;refine⟨_,rq,tr,_,_,_,rq,rq,SqT.of ht,Ah (j:=0) rfl,rq,_,rq,ifS (λz=>absurd z (by trivial)) (λ_=>?_)⟩;refine⟨_,rq,tr,_,_,_,rq,rq,SqT.of ht,Ah (j:=0) rfl,rq,_,rq,ifS (λ_=>?_) (λz=>absurd rfl z)⟩;refine⟨_,rq,_,rq,tr,_,_,_,rq,rq,SqT.of ht,Ah (j:=1) rfl,_,_,rq,rq,_,_,rq,rq,(by show (0:Int) < 24;decide),_,rq,tr,_,_,_,rq,rq,SqT.of ht,Ah (j:=2) rfl,_,rq,tr,_,_,_,rq,rq,SqT.of ht,Ah (j:=1) rfl,_,_,rq,rq,_,_,rq,rq,(by show (0:Int) < 24;decide),Ag (by show 2<=1000;decide),λl hl=>?_⟩;have s1:=Ae hl (.lst [.int ((y - x) % 24),.int 24]);have c1:upd H l (.lst [.int ((y - x) % 24),.int 24]) l=some (.lst [.int ((y - x) % 24),.int 24]):=Ad;have ht1:=s1 _ _ ht;show tCB _ _ _ (upd H l (.lst [.int ((y - x) % 24),.int 24])) _;generalize upd H l (.lst [.int ((y - x) % 24),.int 24])=H1 at *;refine⟨_,rq,tr,_,_,_,rq,rq,SqT.of ht1,Ah (j:=1) rfl,_,rq,tr,_,_,_,rq,rq,SqT.of ht1,Ah (j:=2) rfl,.int x,.int y,.int x,.int y,rq,rq,.inr ⟨_,rq,l,_,_,_,rq,rq,SqL.of c1,bB,_,_,rq,rq,?_⟩⟩;have:=q _ s1;show Q (.bl (decide ((b.2.2 - x) % 24 < (if x=y then 24 else (y - x) % 24)))) H1
  rw[bA];exact this
 | neg j=>
  cases rt with
  | tup ht rs=>
  cases rs with
  | cons r1 rs=>
  cases rs with
  | cons r2 rs=>
  cases rs;cases r1;cases r2;refine⟨_,rq,tr,_,_,_,rq,rq,SqT.of ht,Ah (j:=0) rfl,rq,_,rq,ifS (λz=>absurd z (by trivial)) (λ_=>?_)⟩;refine⟨_,rq,tr,_,_,_,rq,rq,SqT.of ht,Ah (j:=0) rfl,rq,_,rq,ifS (λz=>absurd z (by trivial)) (λ_=>?_)⟩;refine⟨_,rq,tr,_,_,_,rq,rq,SqT.of ht,Ah (j:=0) rfl,rq,_,rq,ifS (λz=>absurd z (by trivial)) (λ_=>?_)⟩;refine⟨_,rq,tr,_,_,_,rq,rq,SqT.of ht,Ah (j:=0) rfl,rq,_,rq,ifS (λ_=>?_) (λz=>absurd rfl z)⟩;obtain⟨a,a1,ha,a2⟩:=col j ok;exact⟨_,rq,_,rq,tr,_,_,_,rq,rq,SqT.of ht,Ah (j:=1) rfl,hl,hs,_,_,rq,rq,SqL.of hhl,a1,_,rq,a,_,_,_,rq,rq,SqL.of ha,a2,_,rq,q _ (Same.refl _)⟩
 | both j m=>
  cases rt with
  | tup ht rs=>
  cases rs with
  | cons r1 rs=>
  cases rs with
  | cons r2 rs=>
  cases rs with
  | cons r3 rs=>
  cases rs;cases r1;cases r2;cases r3;refine⟨_,rq,tr,_,_,_,rq,rq,SqT.of ht,Ah (j:=0) rfl,rq,_,rq,ifS (λz=>absurd z (by trivial)) (λ_=>?_)⟩;refine⟨_,rq,tr,_,_,_,rq,rq,SqT.of ht,Ah (j:=0) rfl,rq,_,rq,ifS (λz=>absurd z (by trivial)) (λ_=>?_)⟩;refine⟨_,rq,tr,_,_,_,rq,rq,SqT.of ht,Ah (j:=0) rfl,rq,_,rq,ifS (λz=>absurd z (by trivial)) (λ_=>?_)⟩;refine⟨_,rq,tr,_,_,_,rq,rq,SqT.of ht,Ah (j:=0) rfl,rq,_,rq,ifS (λz=>absurd z (by trivial)) (λ_=>?_)⟩;refine⟨_,rq,tr,_,_,_,rq,rq,SqT.of ht,Ah (j:=0) rfl,rq,_,rq,ifS (λ_=>?_) (λz=>absurd rfl z)⟩;obtain⟨a,a1,ha,a2⟩:=col j ok.1;obtain⟨c,b1,hc,b2⟩:=col m ok.2;have q:=q _ (Same.refl _);have q:Q (.bl (N.getD j false&&N.getD m false)) H:=q;refine⟨_,rq,_,rq,tr,_,_,_,rq,rq,SqT.of ht,Ah (j:=1) rfl,hl,hs,_,_,rq,rq,SqL.of hhl,a1,_,rq,a,_,_,_,rq,rq,SqL.of ha,a2,_,rq,?_⟩;cases e:N.getD j false with
  | false=>rw[e] at q;exact Bu q
  | true=>
   rw[e] at q;refine Bj ⟨_,rq,_,rq,tr,_,_,_,rq,rq,SqT.of ht,Ah (j:=2) rfl,hl,hs,_,_,rq,rq,SqL.of hhl,b1,_,rq,c,_,_,_,rq,rq,SqL.of hc,b2,?_⟩;rw[QbL] at q;exact q
 | any j m=>
  cases rt with
  | tup ht rs=>
  cases rs with
  | cons r1 rs=>
  cases rs with
  | cons r2 rs=>
  cases rs with
  | cons r3 rs=>
  cases rs;cases r1;cases r2;cases r3;refine⟨_,rq,tr,_,_,_,rq,rq,SqT.of ht,Ah (j:=0) rfl,rq,_,rq,ifS (λz=>absurd z (by trivial)) (λ_=>?_)⟩;refine⟨_,rq,tr,_,_,_,rq,rq,SqT.of ht,Ah (j:=0) rfl,rq,_,rq,ifS (λz=>absurd z (by trivial)) (λ_=>?_)⟩;refine⟨_,rq,tr,_,_,_,rq,rq,SqT.of ht,Ah (j:=0) rfl,rq,_,rq,ifS (λz=>absurd z (by trivial)) (λ_=>?_)⟩;refine⟨_,rq,tr,_,_,_,rq,rq,SqT.of ht,Ah (j:=0) rfl,rq,_,rq,ifS (λz=>absurd z (by trivial)) (λ_=>?_)⟩;refine⟨_,rq,tr,_,_,_,rq,rq,SqT.of ht,Ah (j:=0) rfl,rq,_,rq,ifS (λz=>absurd z (by trivial)) (λ_=>?_)⟩;refine⟨_,rq,tr,_,_,_,rq,rq,SqT.of ht,Ah (j:=0) rfl,rq,_,rq,ifS (λ_=>?_) (λz=>absurd rfl z)⟩;obtain⟨a,a1,ha,a2⟩:=col j ok.1;obtain⟨c,b1,hc,b2⟩:=col m ok.2;have q:=q _ (Same.refl _);have q:Q (.bl (N.getD j false || N.getD m false)) H:=q;refine⟨_,rq,_,rq,tr,_,_,_,rq,rq,SqT.of ht,Ah (j:=1) rfl,hl,hs,_,_,rq,rq,SqL.of hhl,a1,_,rq,a,_,_,_,rq,rq,SqL.of ha,a2,_,rq,?_⟩;cases e:N.getD j false with
  | true=>rw[e] at q;exact Bj q
  | false=>
   rw[e] at q;refine Bu ⟨_,rq,_,rq,tr,_,_,_,rq,rq,SqT.of ht,Ah (j:=2) rfl,hl,hs,_,_,rq,rq,SqL.of hhl,b1,_,rq,c,_,_,_,rq,rq,SqL.of hc,b2,?_⟩;rw[Bool.false_or] at q;exact q
 | thn j m n=>
  cases rt with
  | tup ht rs=>
  cases rs with
  | cons r1 rs=>
  cases rs with
  | cons r2 rs=>
  cases rs with
  | cons r3 rs=>
  cases rs with
  | cons r4 rs=>
  cases rs;cases r1;cases r2;cases r3;cases r4;refine⟨_,rq,tr,_,_,_,rq,rq,SqT.of ht,Ah (j:=0) rfl,rq,_,rq,ifS (λz=>absurd z (by trivial)) (λ_=>?_)⟩;refine⟨_,rq,tr,_,_,_,rq,rq,SqT.of ht,Ah (j:=0) rfl,rq,_,rq,ifS (λz=>absurd z (by trivial)) (λ_=>?_)⟩;refine⟨_,rq,tr,_,_,_,rq,rq,SqT.of ht,Ah (j:=0) rfl,rq,_,rq,ifS (λz=>absurd z (by trivial)) (λ_=>?_)⟩;refine⟨_,rq,tr,_,_,_,rq,rq,SqT.of ht,Ah (j:=0) rfl,rq,_,rq,ifS (λz=>absurd z (by trivial)) (λ_=>?_)⟩;refine⟨_,rq,tr,_,_,_,rq,rq,SqT.of ht,Ah (j:=0) rfl,rq,_,rq,ifS (λz=>absurd z (by trivial)) (λ_=>?_)⟩;refine⟨_,rq,tr,_,_,_,rq,rq,SqT.of ht,Ah (j:=0) rfl,rq,_,rq,ifS (λz=>absurd z (by trivial)) (λ_=>?_)⟩;obtain⟨a,a1,ha,a2⟩:=col j ok.1;obtain⟨c,b1,hc,b2⟩:=col m ok.2.1;have q:∀H',Same H H'->Q (.bl (N.getD m false&&((Ci rows (bs.take k)).drop ((Ci rows (bs.take k)).length - n)).any λg=>g.getD j false)) H':=q;rw[<-bQ (by omega)] at q;refine⟨_,rq,_,rq,tr,_,_,_,rq,rq,SqT.of ht,Ah (j:=2) rfl,hl,hs,_,_,rq,rq,SqL.of hhl,b1,_,rq,c,_,_,_,rq,rq,SqL.of hc,b2,_,rq,?_⟩;cases e:N.getD m false with
  | false=>rw[e] at q;exact Bu (q _ (Same.refl _))
  | true=>
   rw[e] at q;refine Bj ⟨_,rq,_,rq,tr,_,_,_,rq,rq,SqT.of ht,Ah (j:=1) rfl,hl,hs,_,_,rq,rq,SqL.of hhl,a1,_,rq,_,rq,tr,_,_,_,rq,rq,SqT.of ht,Ah (j:=3) rfl,_,_,rq,rq,_,_,rq,_,rq,_,rq,_,rq,a,_,rq,SqL.of ha,λl hl0=>?_⟩;have cl:=Mu rows bs j;have e1:(if (((xs.length:Nat):Int) - 1) - (n:Int) > 0 then (((xs.length:Nat):Int) - 1) - (n:Int) else 0)=((k - n:Nat):Int):=by split <;> omega
   have ec:Cy ((Dp rows bs j).map V.bl) (some (if (((xs.length:Nat):Int) - 1) - (n:Int) > 0 then (((xs.length:Nat):Int) - 1) - (n:Int) else 0)) (some (((xs.length:Nat):Int) - 1))=(((Dp rows bs j).drop (k - n)).take (k - (k - n))).map V.bl:=by
    rw[e1,ek,bL (by rw[Qbs];omega) (by rw[Qbs];omega),List.map_take,List.map_drop]
   have s1:=Ae hl0 (.lst (Cy ((Dp rows bs j).map V.bl) (some (if (((xs.length:Nat):Int) - 1) - (n:Int) > 0 then (((xs.length:Nat):Int) - 1) - (n:Int) else 0)) (some (((xs.length:Nat):Int) - 1))))
   refine⟨l,((Dp rows bs j).drop (k - n)).take (k - (k - n)),rq,SqL.of ?_,?_⟩
   ·rw[<-ec];exact Ad
   ·rw[QbL] at q;exact q _ s1
end
abbrev JL:Stmt:=top 99
abbrev JR:YF:=["_law_table","_law_history"]
abbrev xi:YF:=["_law_table","_law_history","_law_rows","_law_outs","_law_held","_law_row_here"]
theorem Jd:Bo xi JR (Ai JL):=by ac_rfl
theorem Yt {X:Cx} {K:YD} (h:X.K=K):SlR X (dG K):=h ▸ Iz
theorem X7 {xs:YG} {m:Nat} (h:m<=xs.length):Cy xs none (some (m:Int))=xs.take m:=by
 unfold Cy;rw[HT.Kg,HT.Hg,Qbz h];rfl
theorem VD {α β : Type} {F:α->β->Prop}:∀{l:List α} {r:List β} (n:Nat),Paired F l r->Paired F (l.take n) (r.take n)
 | _,_,0,_=>.nil
 | _,_,_+1,.nil=>.nil
 | _,_,n+1,.cons h t=>.cons h (VD n t)
theorem bT {l:List Bool} (h:1<=l.length):atI (l.map V.bl) (-1)=some (.bl (l.getLastD false)):=by
 refine Ve (k:=l.length - 1) (by rw[Qbs];omega) ?_;rw[QaU];have:l[l.length - 1]?=some (l.getLastD false):=by
  rw[<-List.getLast?_eq_getElem?];cases l with
  | nil=>cases h
  | cons a r=>rfl
 rw[this];rfl
def W4:Sp:=λvs H Q _=>∃(t hl:Addr) (rows:List Rw) (outs:List (Int×Nat)) (xs:YG) (bs:List Bt),vs=[.ref t,.ref hl]/\Hq H t rows outs/\JF rows outs/\H hl=some (.lst xs)/\Paired (BAt H) xs bs/\1<=bs.length/\bs.length<=60/\∀d H',H' d=some (.tup ((DY rows outs bs).map V.int))->Same H H'->Q (.ref d) H'
section
variable {P:Program} {w:World} {K:YD} {mg:YB} {base:Heap}
abbrev xj:YF:=["_law_address","_law_at","_law_held"]
abbrev xv:YF:=["_law_at","_law_row_here","_law_held","_law_history"]
theorem dZ (C:Code K mg "_law_due" JL JR) (T:Tc mg) (bD:Good P w K mg base "_law_now" 1 JQ ZW):Good P w K mg base "_law_due" 2 JR W4:=by
 refine C.good Jd (λvs H Q E h=>?_) (λf cdv A outer s H vs Q E hr h=>?_)
 ·obtain⟨t,hl,rows,outs,xs,bs,rfl,_⟩:=h;rfl
 obtain⟨t,hl,rows,outs,xs,bs,rfl,TB,tok,hhl,hb,b1,b60,q⟩:=h;refine⟨_,(Af (Ft (pv 0) (Gh rfl (Bd (Ay (i:=2) Jd.nd rfl (Or.inl rfl)) (Bd (Ay (i:=3) Jd.nd rfl (Or.inl rfl)) CW))))
 (Af (BZ (i:=4) Jd.nd rfl (Or.inr rfl) (CT Ab))
 (Af (Li PassesOwn.never rfl (Eu (pv 2)) (Ay (i:=5) Jd.nd rfl (Or.inr rfl))
 (Aj (OJ (VJ PySem.F.plainAttrs_list PySem.F.slot_list_append PySem.F.type_list_append Js (pv 4) (Aa (CP (N':=xv) rfl (Ca.of (src:=[none,some 5,some 4,some 1]) (Ai JL) xi rfl rfl rfl (by trivial) (by trivial) (by trivial) rfl (by trivial)) (GF rfl T.range (Aa (Bc Bw rfl T.len Dk (Aa (pv 1) Ab)) Ab)) (λ_ _ _ _=>(Ay (i:=0) (show List.Nodup (xv:YF) by trivial) rfl (Or.inl rfl))) (λ_ _ _ _=>DX) (λ_ _ _ _=>(Aw bD hr (Aa (pv 1) (Aa (pv 2) (Aa (Dm (Yt (K:=K) rfl) (pv 3) Fe (Dl (Ax CK (pv 0) Ac))) Ab)))))) Ab)))))
 (Aj (Av (Cm Dq rfl T.tuple Es (Aa (CP (N':=xj) rfl (Ca.of (src:=[none,none,some 4]) (Ai JL) xi rfl rfl rfl (by trivial) (by trivial) (by trivial) rfl (by trivial)) (Eu (pv 3)) (λ_ _ _ _=>(IK (K:=K) (n:=2) rfl rfl (Bd (Ay (i:=0) (show List.Nodup (xj:YF) by trivial) rfl (Or.inl rfl)) (Bd (Ay (i:=1) (show List.Nodup (xj:YF) by trivial) rfl (Or.inl rfl)) CW)))) (λ_ _ _ _=>(NQ (Qg (K:=K) rfl (Ao (Ko (K:=K) rfl) (Ao (Ko (K:=K) rfl) (pv 2) (pv 1) (λ_ _=>rfl)) (NT La Ac) (λ_ _=>rfl)) (λ_=>rfl)))) (λ_ _ _ _=>(pv 0))) Ab))))))),?_⟩
 show let R0:TS:=_;let R1:TS:=_;let R2:TS:=Az (Oo _ _ R1) R0;let R3:TS:=Az _ R2;Az _ R3 _ _ _;intro R0 R1 R2 R3;obtain⟨tr,to,xr,xo,ht,htr,hto,rsr,rso⟩:=TB;have lxr:=Ak.len rsr;have lxo:=Ak.len rso;rw[Qbs] at lxr lxo;have lb:=QbN hb;refine⟨_,rq,t,_,rq,SqT.of ht,rq,_,_,rq,_,_,rq,rq,?_⟩;refine⟨Ag (by show 0<=1000;decide),λlh hlh=>?_⟩;refine⟨_,rq,tr,rq,⟨_,SqT.of (Ae hlh _ _ _ htr)⟩,?_⟩;let J0:YN:=λ(i:Nat) (σ : St) (HX:Hp)=>∃(u5:Option V) (hs:YG),σ=[jp t,jp hl,jp tr,jp to,jp lh,u5]/\HX lh=some (.lst hs)/\Paired (HB [lh] HX) hs ((List.range i).map (Dp rows bs))/\Same H HX;refine U3 (xs:=xr) J0 ⟨none,[],rq,Ad,.nil,Ae hlh _⟩ (λi σ HX _ h=>?_) (λi x σ HX hx h=>?_) (fun σ HX h=>?_)
 ·obtain⟨_,_,rfl,_,_,s⟩:=h;exact SqT.of (s _ _ htr)
 ·obtain⟨u5,hs,rfl,e,ph,s⟩:=h;obtain⟨d,hd,rd⟩:=Ak.at_ rsr hx;rw[QaU] at hd;obtain⟨r,er,rfl⟩:=Qan.mp hd;have hi:=(Qaf.mp er).1;have lhs:=QbN ph;rw[Qbs,Qbc] at lhs;have r3:=tok.RG;have rd:=Rep.same (Same.trans FW s) rd;obtain⟨ti,rfl⟩ : ∃a,x=.ref a:=by cases r <;> (cases rd;exact⟨_,rfl⟩)
  refine Gv ⟨_,rq,.inl ⟨rq,_,SqL.of e⟩,_,rq,hl,_,rq,.inl (SqL.of (s _ _ hhl)),_,rq,by omega,by omega,λl hl0=>?_⟩;have nll:lh≠l:=BJ e hl0;let J1:YN:=λ(k:Nat) (σ : St) (HY:Hp)=>∃(u:Option V),σ=[u,jp ti,jp lh,jp hl]/\HY l=some (.lst (((Dp rows bs i).take k).map V.bl))/\Same HX HY;refine Kw J1 ⟨_,rq,Ad,Ae hl0 _⟩ (λk σ HY hk h=>?_) (fun σ HY h=>?_)
  ·obtain⟨u,rfl,eY,sY⟩:=h;have hk:k < bs.length:=by omega
   have sHY:=s.trans sY;have ec:Cy xs none (some ((0+(k:Int))+1))=xs.take (k+1):=by rw[show (0+(k:Int))+1=((k+1:Nat):Int) by omega,X7 (by omega)]
   refine Gv (Bj ⟨_,rq,_,rq,_,rq,_,rq,_,_,rq,rq,_,rq,hl,_,rq,SqL.of (sHY _ _ hhl),λbl hbl=>?_⟩);have sB:=Ae hbl (.lst (Cy xs none (some ((0+(k:Int))+1))));have cB:upd HY bl (.lst (Cy xs none (some ((0+(k:Int))+1)))) bl=some (.lst (xs.take (k+1))):=by rw[Ad,ec]
   have sXZ:=sY.trans sB;have ck:(Dp rows bs i)[k]?=some ((Dp rows bs i).getD k false):=by
    rw[Qae,Qaj (by rw[Mu];exact hk)];rfl
   refine⟨ti,lh,bl,rows,bs,i,k,r,hs,xs.take (k+1),rq,Rep.same sXZ rd,er,tok.ok i r er,sXZ _ _ e,pmap (λ_ _ z=>z.held.same sXZ) ph,cB,pmap (λ_ _ z=>BAt.tups (BK.of (s.trans sXZ)) z) (VD (k+1) hb),hk,b60,λHW sW=>?_⟩;refine⟨_,(sB.trans sW) _ _ eY,Bq (by rw[Qbs,Qbi];omega),_,rq,?_,(sXZ.trans sW).Cr Al.upd hl0⟩;rw[Ad,Qcg ck,Qbt];rfl
  ·obtain⟨u,rfl,eY,sY⟩:=h;have el:(Dp rows bs i).take ((xs.length:Int)).toNat=Dp rows bs i:=Qao (by rw[Mu];omega);have eY:HY l=some (.lst ((Dp rows bs i).map V.bl)):=by
    rw[<-el];exact eY
   refine⟨lh,_,_,rq,rq,sY _ _ e,Bq (by omega),?_⟩;refine⟨_,hs++[.ref l],rq,Ad,?_,(s.trans sY).Cr Al.upd hlh⟩;rw[List.range_succ,Qbt];refine O4 (pmap (λ_ _ z=>z.Vz ((Et.of sY).trans (Et.ofB Al.upd (by simp)))) ph) (.cons ⟨l,rq,by simp[nll.symm],?_⟩ .nil);rw[Bp nll.symm];exact eY
 ·obtain⟨u5,hs,rfl,e,ph,s⟩:=h;rw[lxr] at ph;refine⟨_,rq,to,rq,⟨_,SqT.of (s _ _ hto)⟩,λl hl0=>?_⟩;let J2:YN:=λ(i:Nat) (σ : St) (HY:Hp)=>∃(u v:Option V),σ=[u,v,jp lh]/\HY l=some (.lst ((G7 (outs.take i) ((Ci rows bs).getLastD [])).map V.int))/\Same HX HY;refine Ec (xs:=xo) J2 ⟨_,_,rq,Ad,Ae hl0 _⟩ (λi σ HY _ h=>?_) (λi x σ HY hx h=>?_) (fun σ HY h=>?_)
  ·obtain⟨u,v,rfl,g1,g2⟩:=h;exact SqT.of ((s.trans g2) _ _ hto)
  ·obtain⟨u,v,rfl,g1,g2⟩:=h;obtain⟨d,hd,rd⟩:=Ak.at_ rso hx;rw[QaU] at hd;obtain⟨o,ho,rfl⟩:=Qan.mp hd;have hi:=(Qaf.mp ho).1;have io:=tok.io o (Qau ho);have o16:=tok.o16;have rd:=Rep.same (Same.trans FW (s.trans g2)) rd;cases rd with
   | tup eg rg=>
   cases rg with
   | cons ra rg=>
   cases rg with
   | cons rm rg=>
   cases rg;cases ra;cases rm;have lhs:=QbN ph;rw[Qbs,Qbc] at lhs;have hj':hs[o.2]?=some hs[o.2]:=Qaj (by omega);obtain⟨g,hg,a,ea,_,ha⟩:=Kh ph hj';rw[QaU,List.getElem?_range (by omega)] at hg;injection hg with hg;subst hg;have cl:=Mu rows bs o.2;refine⟨_,_,rq,SqT.of eg,rq,_,_,rq,_,_,rq,rq,?_⟩;refine⟨_,rq,_,rq,lh,_,_,_,rq,rq,SqL.of (g2 _ _ e),Ah (by rw[hj',ea]),_,rq,a,_,_,_,rq,rq,SqL.of (g2 _ _ ha),bT (by omega),_,rq,?_⟩;rw[<-Zh b1];have tk:=Qcg ho;cases e:((Ci rows bs).getLastD []).getD o.2 false with
   | true=>
    refine Bj ⟨_,rq,_,g1,Bq ?_,_,_,rq,?_,g2.Cr Al.upd hl0⟩
    ·unfold G7;rw[Qbs,Qbs];exact QbV (Qat _ _) (by rw[Qbi];omega)
    ·rw[Ad];unfold G7;rw[tk,QaO,Qbn,if_pos e,Qbt,Qbt];rfl
   | false=>
    refine Bu ⟨_,_,rq,?_,g2⟩;unfold G7;rw[tk,QaO,Qbn,if_neg (by rw[e];decide),List.filter_nil,QbB];exact g1
  ·obtain⟨u,v,rfl,g1,g2⟩:=h;rw[lxo,Qbk] at g1;refine⟨l,_,rq,.inl ⟨SqL.of g1,λp hp=>?_⟩⟩;exact q p _ Ad (s.trans (g2.trans (Ae hp _)))
end
theorem Fj {R O:List PyData} {x:PyData} (h:trP (R.length:Int) x=false):DQ (.tuple [.tuple (R++[x]),.tuple O])=false:=Ja λrs os e _ _ h3 _ _=>by
 injection e with e;injection e with e1 _;injection e1 with e1;subst e1;unfold GX at h3;have hm:(x,R.length)∈(R++[x]).zipIdx:=by
  refine Qau (i:=R.length) ?_;rw[List.getElem?_zipIdx,Qad (QbZ _),Nat.sub_self];simp
 have:=Qbo.mp h3 _ hm;rw[show trP (((x,R.length):PyData×Nat).2:Int) ((x,R.length):PyData×Nat).1=trP (R.length:Int) x from rfl,h] at this
 cases this
theorem bU {R O:List PyData} {x:PyData} (h:Gd (R.length:Int) x=false):DQ (.tuple [.tuple R,.tuple (O++[x])])=false:=Ja λrs os e _ _ _ h4 _=>by
 injection e with e;injection e with e1 e2;injection e1 with e1;injection e2 with e2 _;injection e2 with e2;subst e1 e2;have:=Qbo.mp h4 x (Qap _ (QaK.mpr rfl));rw[h] at this;cases this
theorem ju (n:Nat):trP (n:Int) (.tuple [.str "not",.int n])=false:=by
 rw[WX];show (decide ((0:Int)<=n)&&decide ((n:Int)<=(n:Int) - 1))=false;rw[Qbu (show ¬((n:Int)<=(n:Int) - 1) by omega),Bool.and_false]
theorem jx (a:Int):trP a (.tuple [.str "key",.int 10])=false:=by rw[Q9];rfl
theorem gC (a:Int):trP a (.tuple [.str "key",.bool true])=false:=by rw[Q9];rfl
theorem bY (a:Int):trP a (.tuple [.str "many",.int 0,.tuple [.int 1]])=false:=by rw[Mh];rfl
theorem bW (a:Int):trP a (.tuple [.str "many",.int 1,.tuple []])=false:=by rw[Mh];rfl
theorem bV (a:Int):trP a (.tuple [.str "many",.int 1,.tuple [.int 2,.int 1]])=false:=by rw[Mh];rfl
theorem Yk (a n:Int) (h:n=0\/n=21):trP a (.tuple [.str "then",.int 0,.int 0,.int n])=false:=by
 rw[Uo];have:wiP (.int n) 1 20=false:=by rcases h with rfl | rfl <;> rfl
 rw[this,Bool.and_false]
theorem bZ (a:Int):trP a (.tuple [.str "hours",.int 24,.int 0])=false:=by rw[Ra];rfl
theorem jw (a:Int):trP a (.tuple [.str "nor",.int 0,.int 0])=false:=by
 refine ao ?_ ?_ ?_ ?_ ?_ ?_ ?_ <;> decide +kernel
theorem jt (n:Int):Gd n (.tuple [.int 100,.int 0])=false:=rfl
theorem Ar {n:Nat} {ds:List PyData} (h:∀x∈ds,Fit n x) (l:ds.length<=900):Fit (n+1) (.tuple ds):=by
 refine⟨Ls λx hx=>(h x hx).lay,Nat.succ_le_succ (Lz λx hx=>(h x hx).dep),?_⟩;simp only[wide,Qbg];exact⟨QbF l,(Jx ds).mpr λx hx=>(h x hx).wd⟩
theorem Ga {n:Nat} {ds:List PyData} (h:∀x∈ds,Fit n x) (l:ds.length<=900):Fit (n+1) (.list ds):=by
 refine⟨Ls λx hx=>(h x hx).lay,Nat.succ_le_succ (Lz λx hx=>(h x hx).dep),?_⟩;simp only[wide,Qbg];exact⟨QbF l,(Jx ds).mpr λx hx=>(h x hx).wd⟩
def btD (b:Bt):PyData:=.tuple [.tuple (b.1.map PyData.int),.tuple (b.2.1.map PyData.int),.int b.2.2]
structure Ma (b:Bt):Prop where
 w:∀g∈b.1,1<=g/\g<=99
 wu:b.1.Pairwise (· < ·)
 wl:b.1.length<=6
 k:∀g∈b.2.1,0<=g/\g<=9
 ku:b.2.1.Pairwise (· < ·)
 kl:b.2.1.length<=5
 h:0<=b.2.2/\b.2.2<=23
theorem dD {gs:List Int} {a c lo hi:Int} (h1:a<=gs.length) (h2:(gs.length:Int)<=c) (h3:∀g∈gs,lo<=g/\g<=hi) (h4:gs.Pairwise (· < ·)):rwP (.tuple (gs.map PyData.int)) a c lo hi=true:=by
 show ((decide (a<=((gs.map PyData.int).length:Nat))&&decide ((((gs.map PyData.int).length:Nat):Int)<=c))&&(((gs.map PyData.int).all λx=>wiP x lo hi)&&Oz (gs.map PyData.int)))=true;rw[M9,Nv h4,Qbs,QbF h1,QbF h2,QbY];simp only[Bool.and_true,QbL];exact Qbo.mpr λg hg=>Fo (h3 g hg).1 (h3 g hg).2
theorem nR {b:Bt} (h:Ma b):brP (btD b)=true:=by
 show (rwP (.tuple (b.1.map PyData.int)) 0 30 1 99&&(rwP (.tuple (b.2.1.map PyData.int)) 0 10 0 9&&wiP (.int b.2.2) 0 23))=true;have:=h.wl;have:=h.kl;rw[dD (by omega) (by omega) h.w h.wu,dD (by omega) (by omega) h.k h.ku,Fo h.h.1 h.h.2];rfl
theorem fJ {bs:List Bt} (h:∀b∈bs,Ma b) (l:1<=bs.length/\bs.length<=60):Iu (.list (bs.map btD))=true:=by
 show ((decide ((1:Int)<=(bs.map btD).length)&&decide (((bs.map btD).length:Int)<=60))&&(bs.map btD).all brP)=true;rw[Qbs,QbF (by omega),QbF (by omega),QbY];exact Qbo.mpr λb hb=>nR (h b hb)
theorem Nk {ds:List PyData} {x:PyData} (h:brP x=false):Iu (.list (ds++[x]))=false:=by
 show (_&&(ds++[x]).all brP)=false;rw[List.all_append,List.all_cons,h];simp
theorem jA:brP (.tuple [.tuple [.int 2,.int 1],.tuple [],.int 0])=false:=rfl
theorem jz:brP (.tuple [.tuple [],.tuple [.int 10],.int 0])=false:=rfl
theorem jy:brP (.tuple [.tuple [],.tuple [],.int 24])=false:=rfl
theorem Mf.rep {H:Hp} {t:Addr} {b:Bt} (h:Mf H t b.1 b.2.1 b.2.2):Rep (onl H) (.ref t) (btD b):=by
 obtain⟨tw,tk,h1,h2,h3⟩:=h;exact .tup (Dc h1) (.cons (.tup (Dc h2) (Dt _)) (.cons (.tup (Dc h3) (Dt _)) (.cons (.int _) .nil)))
theorem JW {H:Hp}:∀{xs:YG} {bs:List Bt},Paired (BAt H) xs bs->Ak (onl H) xs (bs.map btD)
 | _,_,.nil=>.nil
 | _,_,.cons ⟨_,e,h⟩ t=>.cons (by rw[e];exact Mf.rep h) (JW t)
theorem Bs {n:Nat} {i:Int}:Fit n (.int i):=⟨rfl,Qca _,by simp only[wide]⟩
theorem Jm {n:Nat} {gs:List Int} (l:gs.length<=900):Fit (n+1) (.tuple (gs.map PyData.int)):=Ar (λx hx=>by
 obtain⟨g,_,rfl⟩:=QbW.mp hx;exact Bs) (by rw[Qbs];exact l)
theorem X3 {b:Bt} (h:Ma b):Fit 2 (btD b):=Ar (n:=1) (Am (Jm (by have:=h.wl;omega)) (Am (Jm (by have:=h.kl;omega)) (Am Bs (Qay _)))) (by show 3<=900;decide)
theorem Ku {bs:List Bt} (h:∀b∈bs,Ma b) (l:bs.length<=60):Fit 3 (.list (bs.map btD)):=Ga (λx hx=>by
 obtain⟨b,hb,rfl⟩:=QbW.mp hx;exact X3 (h b hb)) (by rw[Qbs];omega)
abbrev G9:Stmt:=top 100
abbrev Ej:YF:=["_law_bag_here","_law_table","_law_history","_law_due_here"]
theorem DW:Bo ["_law_bag_here","_law_table","_law_history","_law_due_here","_law_rows","_law_outs","_law_odd","_law_claims"] Ej (Ai G9):=by ac_rfl
theorem Ak.Gz {H:Hp} {xs ys:YG} {ds es:List PyData} (h:Ak H xs ds) (r:Ak H ys es):Ak H (xs++ys) (ds++es):=Ak.mk (O4 (Ak.pair h) (Ak.pair r))
theorem CN {n:Nat} {R:List PyData} {d:PyData} (h:∀x∈R,Fit n x) (hd:Fit n d):∀x∈R++[d],Fit n x:=λx hx=>by
 rcases Qbx.mp hx with hx | hx
 ·exact h x hx
 ·rw[QaK.mp hx];exact hd
theorem bG {n:Nat}:Fit n .none:=⟨rfl,Qca _,by simp only[wide]⟩
theorem fX {n:Nat} {c:Bool}:Fit n (.bool c):=⟨rfl,Qca _,by simp only[wide]⟩
theorem Fi {n:Nat} {z:Str} (h:Ws z=true):Fit n (.str z):=((W6 (k:=0) h).fit (by decide)).mono (Qca _)
def Gf (G:Hp) (v:V):Prop:=∃d,Rep G v d/\Fit 60 d/\DQ d=false
theorem Yl {l:YG} {Pr:V->Prop} (h:∀x∈l,Pr x) {r:Int} (r0:0<=r) (r1:r < l.length):∃v,atI l r=some v/\Pr v:=by
 obtain⟨n,rfl⟩:=Qal r0;have:n < l.length:=by omega
 exact⟨l[n],Ah (Qaj this),h _ (List.getElem_mem this)⟩
def gM (H:Hp) (t:Addr):Prop:=(∃x y,H t=some (.tup [.str "says",x,y]))\/∃tv hv av dt dh da,H t=some (.tup [.str "says",tv,hv,av])/\Rep H tv dt/\Rep H hv dh/\Rep H av da/\Fit 64 dt/\Fit 64 dh/\Fit 64 da/\(DQ dt=false\/Iu dh=false\/∀ds,da=.tuple ds->ds.all whP=false)
def Hx (H:Hp) (x:V):Prop:=∃t,x=.ref t/\gM H t
theorem Rz {H:Hp} {xs:YG} {ds:List PyData} (h:Ak H xs ds):∀n,Ak H (List.replicate n xs).flatten (List.replicate n ds).flatten
 | 0=>.nil
 | n+1=>by
  rw[QaD,QaD,Qbd,Qbd];exact Ak.Gz h (Rz h n)
theorem Xf {H:Hp} {xs:YG} {ds:List PyData} (n:Nat) (h:Ak H xs ds):Ak H (xs.take n) (ds.take n):=Ak.mk (VD n (Ak.pair h))
theorem XH {ds:List PyData} (h:¬((ds.length:Int)<=60)):Iu (.list ds)=false:=by
 show ((decide ((1:Int)<=ds.length)&&decide ((ds.length:Int)<=60))&&ds.all brP)=false;rw[Qbu h,Bool.and_false,Bool.false_and]
def Us:Sp:=λvs H Q _=>∃(b tb hl td:Addr) (m:Nat) (rows:List Rw) (outs:List (Int×Nat)) (xs:YG) (bs:List Bt) (due:List Int),vs=[.ref b,.ref tb,.ref hl,.ref td]/\BX H b m/\m<=9000/\b≠hl/\Hq H tb rows outs/\JF rows outs/\rows.length<=40/\H hl=some (.lst xs)/\Paired (BAt H) xs bs/\(∀b∈bs,Ma b)/\1<=bs.length/\bs.length<=60/\H td=some (.tup (due.map V.int))/\due.length<=16/\∀t H',gM H' t->BX H' b (m+2)->Al b H H'->Q (.ref t) H'
section
variable {P:Program} {w:World} {K:YD} {mg:YB} {base:Heap}
theorem Y5 (C:Code K mg "_law_other_form" G9 Ej) (T:Tc mg) (Bk:Good P w K mg base "_law_take" 1 Eo JH):Good P w K mg base "_law_other_form" 2 Ej Us:=by
 refine C.good DW (λvs H Q E h=>?_) (λf cdv A outer s H vs Q E hr h=>?_)
 ·obtain⟨b,tb,hl,td,m,rows,outs,xs,bs,due,rfl,_⟩:=h;rfl
 obtain⟨b,tb,hl,td,m,rows,outs,xs,bs,due,rfl,hb,hm,nbh,TB,tok,l40,hhl,pb,bok,b1,b60,htd,l16,q⟩:=h;refine⟨_,(@Af _ _ _ _ _ (Ft (pv 1) (Gh rfl (Bd (Ay (i:=4) DW.nd rfl (Or.inl rfl)) (Bd (Ay (i:=5) DW.nd rfl (Or.inl rfl)) CW))))
 (@Af _ _ _ _ _ (@BZ _ _ 6 _ _ _ _ DW.nd rfl (Or.inl rfl) (@CT _ _ _ _ (@Aa _ _ _ _ _ (@Aq _ _ _ _ _ (Aa (Cm G8 rfl T.list JX (Aa (pv 4) Ab)) (Aa (pv 5) Ab))) (@Aa _ _ _ _ _ (@Aq _ _ _ _ _ (Aa (pv 4) (Aa (Cm G8 rfl T.list JX (Aa (pv 5) Ab)) Ab))) (@Aa _ _ _ _ _ (@Aq _ _ _ _ _ (Aa (@Ax _ _ _ _ _ _ _ _ CZ (pv 4) (Aq (Aa (Aq (Aa Bf (Aa (Bc Bw rfl T.len Dk (Aa (pv 4) Ab)) Ab))) Ab))) (Aa (pv 5) Ab))) (@Aa _ _ _ _ _ (@Aq _ _ _ _ _ (Aa (@Ax _ _ _ _ _ _ _ _ CZ (pv 4) (Aq (Aa (Aq (Aa Bf (Aa Ac Ab))) Ab))) (Aa (pv 5) Ab))) (@Aa _ _ _ _ _ (@Aq _ _ _ _ _ (Aa (pv 4) (Aa (@Ax _ _ _ _ _ _ _ _ CZ (pv 5) (Aq (Aa (Aq (Aa Ac (Aa Ac Ab))) Ab))) Ab))) (@Aa _ _ _ _ _ (@Aq _ _ _ _ _ (Aa (@Ax _ _ _ _ _ _ _ _ CZ (pv 4) (Aq (Aa (Aq (Aa Bf (Aa Ac (Aa (Aq (Aa Ac Ab)) Ab)))) Ab))) (Aa (pv 5) Ab))) (@Aa _ _ _ _ _ (@Aq _ _ _ _ _ (Aa (@Ax _ _ _ _ _ _ _ _ CZ (pv 4) (Aq (Aa (Aq (Aa Bf (Aa Ac (Aa (Aq Ab) Ab)))) Ab))) (Aa (pv 5) Ab))) (@Aa _ _ _ _ _ (@Aq _ _ _ _ _ (Aa (@Ax _ _ _ _ _ _ _ _ CZ (pv 4) (Aq (Aa (Aq (Aa Bf (Aa Ac (Aa Ac (Aa Ac Ab))))) Ab))) (Aa (pv 5) Ab))) (@Aa _ _ _ _ _ (@Aq _ _ _ _ _ (Aa (@Ax _ _ _ _ _ _ _ _ CZ (pv 4) (Aq (Aa (Aq (Aa Bf (Aa Ac (Aa Ac (Aa Ac Ab))))) Ab))) (Aa (pv 5) Ab))) (@Aa _ _ _ _ _ (@Aq _ _ _ _ _ (Aa (@Ax _ _ _ _ _ _ _ _ CZ (pv 4) (Aq (Aa (Aq (Aa Bf (Aa Ac (Aa Ac Ab)))) Ab))) (Aa (pv 5) Ab))) (@Aa _ _ _ _ _ (@Aq _ _ _ _ _ (Aa (@Ax _ _ _ _ _ _ _ _ CZ (pv 4) (Aq (Aa (Aq (Aa Bf (Aa Ac (Aa (Aq (Aa Ac (Aa Ac Ab))) Ab)))) Ab))) (Aa (pv 5) Ab))) (@Aa _ _ _ _ _ (@Aq _ _ _ _ _ (Aa (@Ax _ _ _ _ _ _ _ _ CZ (pv 4) (Aq (Aa (Aq (Aa Bf (Aa Df Ab))) Ab))) (Aa (pv 5) Ab))) (@Aa _ _ _ _ _ (@Aq _ _ _ _ _ (Aa (pv 4) Ab)) (@Aa _ _ _ _ _ (@Lk _ _ _) (@Aa _ _ _ _ _ (@Aq _ _ _ _ _ (Aa (@Ax _ _ _ _ _ _ _ _ CZ (pv 4) (Aq (Aa (Aq (Aa Bf (Aa Ac (Aa Ac Ab)))) Ab))) (Aa (pv 5) Ab))) (@Ab _) Ck) BW) Ck) Ck) Ck) Ck) Ck) Ck) Ck) Ck) Ck) Ck) Ck) Ck) Ck)) (by rfl) (by first | exact .inl rfl | exact .inr rfl))
 (@Af _ _ _ _ _ (@BZ _ _ 7 _ _ _ _ DW.nd rfl (Or.inl rfl) (@CT _ _ _ _ (@Aa _ _ _ _ _ (@Aq _ _ _ _ _ (Aa Bf (Aa (@Ao _ _ _ _ _ _ _ Bl (pv 6) (Aw Bk hr (Aa (pv 0) (Aa Ac Ab))) (λ_ _=>rfl)) (Aa (pv 2) (Aa (pv 3) Ab))))) (@Aa _ _ _ _ _ (@Aq _ _ _ _ _ (Aa Bf (Aa (pv 1) (Aa (CT Ab) (Aa (Aq Ab) Ab))))) (@Aa _ _ _ _ _ (@Aq _ _ _ _ _ (Aa Bf (Aa (pv 1) (Aa (Cm Dq rfl T.tuple Es (Aa (pv 2) Ab)) (Aa (pv 3) Ab))))) (@Aa _ _ _ _ _ (@Aq _ _ _ _ _ (Aa Bf (Aa (pv 1) (Aa (@Ax _ _ _ _ _ _ _ _ N7 (pv 2) (CT (Aa (Aq (Aa (Aq (Aa Ac (Aa Ac Ab))) (Aa (Aq Ab) (Aa Ac Ab)))) Ab))) (Aa (pv 3) Ab))))) (@Aa _ _ _ _ _ (@Aq _ _ _ _ _ (Aa Bf (Aa (pv 1) (Aa (@Ax _ _ _ _ _ _ _ _ N7 (pv 2) (CT (Aa (Aq (Aa (Aq Ab) (Aa (Aq (Aa Ac Ab)) (Aa Ac Ab)))) Ab))) (Aa (pv 3) Ab))))) (@Aa _ _ _ _ _ (@Aq _ _ _ _ _ (Aa Bf (Aa (pv 1) (Aa (@Ax _ _ _ _ _ _ _ _ N7 (pv 2) (CT (Aa (Aq (Aa (Aq Ab) (Aa (Aq Ab) (Aa Ac Ab)))) Ab))) (Aa (pv 3) Ab))))) (@Aa _ _ _ _ _ (@Aq _ _ _ _ _ (Aa Bf (Aa (pv 1) (Aa (pv 2) (Aa (Cm G8 rfl T.list JX (Aa (pv 3) Ab)) Ab))))) (@Aa _ _ _ _ _ (@Aq _ _ _ _ _ (Aa Bf (Aa (pv 1) (Aa (pv 2) Ab)))) (@Aa _ _ _ _ _ (@Aq _ _ _ _ _ (Aa Bf (Aa (pv 1) (Aa (Dm Iz (@Ax _ _ _ _ _ _ _ _ dR (pv 2) Ac) Fe (Dl Ac)) (Aa (pv 3) Ab))))) (@Ab _) Ck) Ck) Ck) Ck) Ck) Ck) Ck) Ck) Ck)) (by rfl) (by first | exact .inl rfl | exact .inr rfl))
 (@Aj _ _ _ (@Av _ _ _ _ (@Ao _ _ _ _ _ _ _ Bl (pv 7) (Aw Bk hr (Aa (pv 0) (Aa Ac Ab))) (λ_ _=>rfl))))))),?_⟩
 show let R0:TS:=_;let R1:TS:=Az _ R0;let R2:TS:=Az _ R1;Az _ R2 _ _ _;intro R0 R1 R2;obtain⟨tr,to,xr,xo,htb,htr,hto,rsr,rso⟩:=TB;have lxr:=Ak.len rsr;have lxo:=Ak.len rso;rw[Qbs] at lxr lxo;have lb:=QbN pb;have o16:=tok.o16;have f0:Same H H:=Same.refl H;refine⟨_,rq,tb,_,rq,SqT.of htb,rq,_,_,rq,_,_,rq,rq,?_⟩;refine⟨_,rq,tr,_,rq,.inr (SqT.of (f0 _ _ htr)),λa1 h1=>?_⟩;have s1:=Ae h1 (.lst xr);have c1:upd H a1 (.lst xr) a1=some (.lst xr):=Ad;have f1:=f0.trans s1;generalize upd H a1 (.lst xr)=H1 at *;refine⟨_,rq,Ag (by show 2<=1000;decide),λa2 h2=>?_⟩;have s2:=Ae h2 (.tup [.ref a1,.ref to]);have c2:upd H1 a2 (.tup [.ref a1,.ref to]) a2=some (.tup [.ref a1,.ref to]):=Ad;have f2:=f1.trans s2;generalize upd H1 a2 (.tup [.ref a1,.ref to])=H2 at *;refine⟨_,rq,_,rq,to,_,rq,.inr (SqT.of (f2 _ _ hto)),λa3 h3=>?_⟩;have s3:=Ae h3 (.lst xo);have c3:upd H2 a3 (.lst xo) a3=some (.lst xo):=Ad;have f3:=f2.trans s3;generalize upd H2 a3 (.lst xo)=H3 at *;refine⟨Ag (by show 2<=1000;decide),λa4 h4=>?_⟩;have s4:=Ae h4 (.tup [.ref tr,.ref a3]);have c4:upd H3 a4 (.tup [.ref tr,.ref a3]) a4=some (.tup [.ref tr,.ref a3]):=Ad;have f4:=f3.trans s4;generalize upd H3 a4 (.tup [.ref tr,.ref a3])=H4 at *;refine⟨_,rq,_,rq,tr,_,rq,.inr (SqT.of (f4 _ _ htr)),Ag (by show 2<=1000;decide),λa5 h5=>?_⟩;have s5:=Ae h5 (.tup [.str "not",.int xr.length]);have c5:upd H4 a5 (.tup [.str "not",.int xr.length]) a5=some (.tup [.str "not",.int xr.length]):=Ad;have f5:=f4.trans s5;generalize upd H4 a5 (.tup [.str "not",.int xr.length])=H5 at *;refine⟨Ag (by show 1<=1000;decide),λa6 h6=>?_⟩;have s6:=Ae h6 (.tup [.ref a5]);have c6:upd H5 a6 (.tup [.ref a5]) a6=some (.tup [.ref a5]):=Ad;have f6:=f5.trans s6;generalize upd H5 a6 (.tup [.ref a5])=H6 at *;refine⟨tr,a6,_,_,rq,rq,(f6 _ _ htr),c6,Ag (by show xr.length+1<=1000;omega),λa7 H7 g7 s7=>?_⟩;have f7:=f6.trans s7;have c7:=g7;refine⟨_,rq,Ag (by show 2<=1000;decide),λa8 h8=>?_⟩;have s8:=Ae h8 (.tup [.ref a7,.ref to]);have c8:upd H7 a8 (.tup [.ref a7,.ref to]) a8=some (.tup [.ref a7,.ref to]):=Ad;have f8:=f7.trans s8;generalize upd H7 a8 (.tup [.ref a7,.ref to])=H8 at *;refine⟨_,rq,Ag (by show 2<=1000;decide),λa9 h9=>?_⟩;have s9:=Ae h9 (.tup [.str "key",.int 10]);have c9:upd H8 a9 (.tup [.str "key",.int 10]) a9=some (.tup [.str "key",.int 10]):=Ad;have f9:=f8.trans s9;generalize upd H8 a9 (.tup [.str "key",.int 10])=H9 at *;refine⟨Ag (by show 1<=1000;decide),λa10 h10=>?_⟩;have s10:=Ae h10 (.tup [.ref a9]);have c10:upd H9 a10 (.tup [.ref a9]) a10=some (.tup [.ref a9]):=Ad;have f10:=f9.trans s10;generalize upd H9 a10 (.tup [.ref a9])=H10 at *;refine⟨tr,a10,_,_,rq,rq,(f10 _ _ htr),c10,Ag (by show xr.length+1<=1000;omega),λa11 H11 g11 s11=>?_⟩;have f11:=f10.trans s11;have c11:=g11;refine⟨_,rq,Ag (by show 2<=1000;decide),λa12 h12=>?_⟩;have s12:=Ae h12 (.tup [.ref a11,.ref to]);have c12:upd H11 a12 (.tup [.ref a11,.ref to]) a12=some (.tup [.ref a11,.ref to]):=Ad;have f12:=f11.trans s12;generalize upd H11 a12 (.tup [.ref a11,.ref to])=H12 at *;refine⟨_,rq,_,rq,Ag (by show 2<=1000;decide),λa13 h13=>?_⟩;have s13:=Ae h13 (.tup [.int 100,.int 0]);have c13:upd H12 a13 (.tup [.int 100,.int 0]) a13=some (.tup [.int 100,.int 0]):=Ad;have f13:=f12.trans s13;generalize upd H12 a13 (.tup [.int 100,.int 0])=H13 at *;refine⟨Ag (by show 1<=1000;decide),λa14 h14=>?_⟩;have s14:=Ae h14 (.tup [.ref a13]);have c14:upd H13 a14 (.tup [.ref a13]) a14=some (.tup [.ref a13]):=Ad;have f14:=f13.trans s14;generalize upd H13 a14 (.tup [.ref a13])=H14 at *;refine⟨to,a14,_,_,rq,rq,(f14 _ _ hto),c14,Ag (by show xo.length+1<=1000;omega),λa15 H15 g15 s15=>?_⟩;have f15:=f14.trans s15;have c15:=g15;refine⟨Ag (by show 2<=1000;decide),λa16 h16=>?_⟩;have s16:=Ae h16 (.tup [.ref tr,.ref a15]);have c16:upd H15 a16 (.tup [.ref tr,.ref a15]) a16=some (.tup [.ref tr,.ref a15]):=Ad;have f16:=f15.trans s16;generalize upd H15 a16 (.tup [.ref tr,.ref a15])=H16 at *;refine⟨_,rq,Ag (by show 1<=1000;decide),λa17 h17=>?_⟩;have s17:=Ae h17 (.tup [.int 1]);have c17:upd H16 a17 (.tup [.int 1]) a17=some (.tup [.int 1]):=Ad;have f17:=f16.trans s17;generalize upd H16 a17 (.tup [.int 1])=H17 at *;refine⟨Ag (by show 3<=1000;decide),λa18 h18=>?_⟩;have s18:=Ae h18 (.tup [.str "many",.int 0,.ref a17]);have c18:upd H17 a18 (.tup [.str "many",.int 0,.ref a17]) a18=some (.tup [.str "many",.int 0,.ref a17]):=Ad;have f18:=f17.trans s18;generalize upd H17 a18 (.tup [.str "many",.int 0,.ref a17])=H18 at *;refine⟨Ag (by show 1<=1000;decide),λa19 h19=>?_⟩;have s19:=Ae h19 (.tup [.ref a18]);have c19:upd H18 a19 (.tup [.ref a18]) a19=some (.tup [.ref a18]):=Ad;have f19:=f18.trans s19;generalize upd H18 a19 (.tup [.ref a18])=H19 at *;refine⟨tr,a19,_,_,rq,rq,(f19 _ _ htr),c19,Ag (by show xr.length+1<=1000;omega),λa20 H20 g20 s20=>?_⟩;have f20:=f19.trans s20;have c20:=g20;refine⟨_,rq,Ag (by show 2<=1000;decide),λa21 h21=>?_⟩;have s21:=Ae h21 (.tup [.ref a20,.ref to]);have c21:upd H20 a21 (.tup [.ref a20,.ref to]) a21=some (.tup [.ref a20,.ref to]):=Ad;have f21:=f20.trans s21;generalize upd H20 a21 (.tup [.ref a20,.ref to])=H21 at *;refine⟨_,rq,Ag (by show 0<=1000;decide),λa22 h22=>?_⟩;have s22:=Ae h22 (.tup []);have c22:upd H21 a22 (.tup []) a22=some (.tup []):=Ad;have f22:=f21.trans s22;generalize upd H21 a22 (.tup [])=H22 at *;refine⟨Ag (by show 3<=1000;decide),λa23 h23=>?_⟩;have s23:=Ae h23 (.tup [.str "many",.int 1,.ref a22]);have c23:upd H22 a23 (.tup [.str "many",.int 1,.ref a22]) a23=some (.tup [.str "many",.int 1,.ref a22]):=Ad;have f23:=f22.trans s23;generalize upd H22 a23 (.tup [.str "many",.int 1,.ref a22])=H23 at *;refine⟨Ag (by show 1<=1000;decide),λa24 h24=>?_⟩;have s24:=Ae h24 (.tup [.ref a23]);have c24:upd H23 a24 (.tup [.ref a23]) a24=some (.tup [.ref a23]):=Ad;have f24:=f23.trans s24;generalize upd H23 a24 (.tup [.ref a23])=H24 at *;refine⟨tr,a24,_,_,rq,rq,(f24 _ _ htr),c24,Ag (by show xr.length+1<=1000;omega),λa25 H25 g25 s25=>?_⟩;have f25:=f24.trans s25;have c25:=g25;refine⟨_,rq,Ag (by show 2<=1000;decide),λa26 h26=>?_⟩;have s26:=Ae h26 (.tup [.ref a25,.ref to]);have c26:upd H25 a26 (.tup [.ref a25,.ref to]) a26=some (.tup [.ref a25,.ref to]):=Ad;have f26:=f25.trans s26;generalize upd H25 a26 (.tup [.ref a25,.ref to])=H26 at *;refine⟨_,rq,Ag (by show 4<=1000;decide),λa27 h27=>?_⟩;have s27:=Ae h27 (.tup [.str "then",.int 0,.int 0,.int 21]);have c27:upd H26 a27 (.tup [.str "then",.int 0,.int 0,.int 21]) a27=some (.tup [.str "then",.int 0,.int 0,.int 21]):=Ad;have f27:=f26.trans s27;generalize upd H26 a27 (.tup [.str "then",.int 0,.int 0,.int 21])=H27 at *;refine⟨Ag (by show 1<=1000;decide),λa28 h28=>?_⟩;have s28:=Ae h28 (.tup [.ref a27]);have c28:upd H27 a28 (.tup [.ref a27]) a28=some (.tup [.ref a27]):=Ad;have f28:=f27.trans s28;generalize upd H27 a28 (.tup [.ref a27])=H28 at *;refine⟨tr,a28,_,_,rq,rq,(f28 _ _ htr),c28,Ag (by show xr.length+1<=1000;omega),λa29 H29 g29 s29=>?_⟩;have f29:=f28.trans s29;have c29:=g29;refine⟨_,rq,Ag (by show 2<=1000;decide),λa30 h30=>?_⟩;have s30:=Ae h30 (.tup [.ref a29,.ref to]);have c30:upd H29 a30 (.tup [.ref a29,.ref to]) a30=some (.tup [.ref a29,.ref to]):=Ad;have f30:=f29.trans s30;generalize upd H29 a30 (.tup [.ref a29,.ref to])=H30 at *;refine⟨_,rq,Ag (by show 4<=1000;decide),λa31 h31=>?_⟩;have s31:=Ae h31 (.tup [.str "then",.int 0,.int 0,.int 0]);have c31:upd H30 a31 (.tup [.str "then",.int 0,.int 0,.int 0]) a31=some (.tup [.str "then",.int 0,.int 0,.int 0]):=Ad;have f31:=f30.trans s31;generalize upd H30 a31 (.tup [.str "then",.int 0,.int 0,.int 0])=H31 at *;refine⟨Ag (by show 1<=1000;decide),λa32 h32=>?_⟩;have s32:=Ae h32 (.tup [.ref a31]);have c32:upd H31 a32 (.tup [.ref a31]) a32=some (.tup [.ref a31]):=Ad;have f32:=f31.trans s32;generalize upd H31 a32 (.tup [.ref a31])=H32 at *;refine⟨tr,a32,_,_,rq,rq,(f32 _ _ htr),c32,Ag (by show xr.length+1<=1000;omega),λa33 H33 g33 s33=>?_⟩;have f33:=f32.trans s33;have c33:=g33;refine⟨_,rq,Ag (by show 2<=1000;decide),λa34 h34=>?_⟩;have s34:=Ae h34 (.tup [.ref a33,.ref to]);have c34:upd H33 a34 (.tup [.ref a33,.ref to]) a34=some (.tup [.ref a33,.ref to]):=Ad;have f34:=f33.trans s34;generalize upd H33 a34 (.tup [.ref a33,.ref to])=H34 at *;refine⟨_,rq,Ag (by show 3<=1000;decide),λa35 h35=>?_⟩;have s35:=Ae h35 (.tup [.str "hours",.int 24,.int 0]);have c35:upd H34 a35 (.tup [.str "hours",.int 24,.int 0]) a35=some (.tup [.str "hours",.int 24,.int 0]):=Ad;have f35:=f34.trans s35;generalize upd H34 a35 (.tup [.str "hours",.int 24,.int 0])=H35 at *;refine⟨Ag (by show 1<=1000;decide),λa36 h36=>?_⟩;have s36:=Ae h36 (.tup [.ref a35]);have c36:upd H35 a36 (.tup [.ref a35]) a36=some (.tup [.ref a35]):=Ad;have f36:=f35.trans s36;generalize upd H35 a36 (.tup [.ref a35])=H36 at *;refine⟨tr,a36,_,_,rq,rq,(f36 _ _ htr),c36,Ag (by show xr.length+1<=1000;omega),λa37 H37 g37 s37=>?_⟩;have f37:=f36.trans s37;have c37:=g37;refine⟨_,rq,Ag (by show 2<=1000;decide),λa38 h38=>?_⟩;have s38:=Ae h38 (.tup [.ref a37,.ref to]);have c38:upd H37 a38 (.tup [.ref a37,.ref to]) a38=some (.tup [.ref a37,.ref to]):=Ad;have f38:=f37.trans s38;generalize upd H37 a38 (.tup [.ref a37,.ref to])=H38 at *;refine⟨_,rq,Ag (by show 2<=1000;decide),λa39 h39=>?_⟩;have s39:=Ae h39 (.tup [.int 2,.int 1]);have c39:upd H38 a39 (.tup [.int 2,.int 1]) a39=some (.tup [.int 2,.int 1]):=Ad;have f39:=f38.trans s39;generalize upd H38 a39 (.tup [.int 2,.int 1])=H39 at *;refine⟨Ag (by show 3<=1000;decide),λa40 h40=>?_⟩;have s40:=Ae h40 (.tup [.str "many",.int 1,.ref a39]);have c40:upd H39 a40 (.tup [.str "many",.int 1,.ref a39]) a40=some (.tup [.str "many",.int 1,.ref a39]):=Ad;have f40:=f39.trans s40;generalize upd H39 a40 (.tup [.str "many",.int 1,.ref a39])=H40 at *;refine⟨Ag (by show 1<=1000;decide),λa41 h41=>?_⟩;have s41:=Ae h41 (.tup [.ref a40]);have c41:upd H40 a41 (.tup [.ref a40]) a41=some (.tup [.ref a40]):=Ad;have f41:=f40.trans s41;generalize upd H40 a41 (.tup [.ref a40])=H41 at *;refine⟨tr,a41,_,_,rq,rq,(f41 _ _ htr),c41,Ag (by show xr.length+1<=1000;omega),λa42 H42 g42 s42=>?_⟩;have f42:=f41.trans s42;have c42:=g42;refine⟨_,rq,Ag (by show 2<=1000;decide),λa43 h43=>?_⟩;have s43:=Ae h43 (.tup [.ref a42,.ref to]);have c43:upd H42 a43 (.tup [.ref a42,.ref to]) a43=some (.tup [.ref a42,.ref to]):=Ad;have f43:=f42.trans s43;generalize upd H42 a43 (.tup [.ref a42,.ref to])=H43 at *;refine⟨_,rq,Ag (by show 2<=1000;decide),λa44 h44=>?_⟩;have s44:=Ae h44 (.tup [.str "key",.bl true]);have c44:upd H43 a44 (.tup [.str "key",.bl true]) a44=some (.tup [.str "key",.bl true]):=Ad;have f44:=f43.trans s44;generalize upd H43 a44 (.tup [.str "key",.bl true])=H44 at *;refine⟨Ag (by show 1<=1000;decide),λa45 h45=>?_⟩;have s45:=Ae h45 (.tup [.ref a44]);have c45:upd H44 a45 (.tup [.ref a44]) a45=some (.tup [.ref a44]):=Ad;have f45:=f44.trans s45;generalize upd H44 a45 (.tup [.ref a44])=H45 at *;refine⟨tr,a45,_,_,rq,rq,(f45 _ _ htr),c45,Ag (by show xr.length+1<=1000;omega),λa46 H46 g46 s46=>?_⟩;have f46:=f45.trans s46;have c46:=g46;refine⟨_,rq,Ag (by show 2<=1000;decide),λa47 h47=>?_⟩;have s47:=Ae h47 (.tup [.ref a46,.ref to]);have c47:upd H46 a47 (.tup [.ref a46,.ref to]) a47=some (.tup [.ref a46,.ref to]):=Ad;have f47:=f46.trans s47;generalize upd H46 a47 (.tup [.ref a46,.ref to])=H47 at *;refine⟨_,rq,Ag (by show 1<=1000;decide),λa48 h48=>?_⟩;have s48:=Ae h48 (.tup [.ref tr]);have c48:upd H47 a48 (.tup [.ref tr]) a48=some (.tup [.ref tr]):=Ad;have f48:=f47.trans s48;generalize upd H47 a48 (.tup [.ref tr])=H48 at *;refine⟨_,rq,Ag (by show 3<=1000;decide),λa49 h49=>?_⟩;have s49:=Ae h49 (.tup [.str "nor",.int 0,.int 0]);have c49:upd H48 a49 (.tup [.str "nor",.int 0,.int 0]) a49=some (.tup [.str "nor",.int 0,.int 0]):=Ad;have f49:=f48.trans s49;generalize upd H48 a49 (.tup [.str "nor",.int 0,.int 0])=H49 at *;refine⟨Ag (by show 1<=1000;decide),λa50 h50=>?_⟩;have s50:=Ae h50 (.tup [.ref a49]);have c50:upd H49 a50 (.tup [.ref a49]) a50=some (.tup [.ref a49]):=Ad;have f50:=f49.trans s50;generalize upd H49 a50 (.tup [.ref a49])=H50 at *;refine⟨tr,a50,_,_,rq,rq,(f50 _ _ htr),c50,Ag (by show xr.length+1<=1000;omega),λa51 H51 g51 s51=>?_⟩;have f51:=f50.trans s51;have c51:=g51;refine⟨_,rq,Ag (by show 2<=1000;decide),λa52 h52=>?_⟩;have s52:=Ae h52 (.tup [.ref a51,.ref to]);have c52:upd H51 a52 (.tup [.ref a51,.ref to]) a52=some (.tup [.ref a51,.ref to]):=Ad;have f52:=f51.trans s52;generalize upd H51 a52 (.tup [.ref a51,.ref to])=H52 at *;refine⟨Ag (by show 15<=1000;decide),λa53 h53=>?_⟩;have s53:=Ae h53 (.lst [.ref a2,.ref a4,.ref a8,.ref a12,.ref a16,.ref a21,.ref a26,.ref a30,.ref a34,.ref a38,.ref a43,.ref a47,.ref a48,.non,.ref a52]);have c53:upd H52 a53 (.lst [.ref a2,.ref a4,.ref a8,.ref a12,.ref a16,.ref a21,.ref a26,.ref a30,.ref a34,.ref a38,.ref a43,.ref a47,.ref a48,.non,.ref a52]) a53=some (.lst [.ref a2,.ref a4,.ref a8,.ref a12,.ref a16,.ref a21,.ref a26,.ref a30,.ref a34,.ref a38,.ref a43,.ref a47,.ref a48,.non,.ref a52]):=Ad;have f53:=f52.trans s53;generalize upd H52 a53 (.lst [.ref a2,.ref a4,.ref a8,.ref a12,.ref a16,.ref a21,.ref a26,.ref a30,.ref a34,.ref a38,.ref a43,.ref a47,.ref a48,.non,.ref a52])=H53 at *;have hbn:H b≠none:=λz=>by obtain⟨o,e⟩:=hb.ex;rw[z] at e;cases e
 have e52:=s53;have e51:=s52.trans e52;have e50:=s51.trans e51;have e49:=s50.trans e50;have e48:=s49.trans e49;have e47:=s48.trans e48;have e46:=s47.trans e47;have e45:=s46.trans e46;have e44:=s45.trans e45;have e43:=s44.trans e44;have e42:=s43.trans e43;have e41:=s42.trans e42;have e40:=s41.trans e41;have e39:=s40.trans e40;have e38:=s39.trans e39;have e37:=s38.trans e38;have e36:=s37.trans e37;have e35:=s36.trans e36;have e34:=s35.trans e35;have e33:=s34.trans e34;have e32:=s33.trans e33;have e31:=s32.trans e32;have e30:=s31.trans e31;have e29:=s30.trans e30;have e28:=s29.trans e29;have e27:=s28.trans e28;have e26:=s27.trans e27;have e25:=s26.trans e26;have e24:=s25.trans e25;have e23:=s24.trans e24;have e22:=s23.trans e23;have e21:=s22.trans e22;have e20:=s21.trans e21;have e19:=s20.trans e20;have e18:=s19.trans e19;have e17:=s18.trans e18;have e16:=s17.trans e17;have e15:=s16.trans e16;have e14:=s15.trans e15;have e13:=s14.trans e14;have e12:=s13.trans e13;have e11:=s12.trans e12;have e10:=s11.trans e11;have e9:=s10.trans e10;have e8:=s9.trans e9;have e7:=s8.trans e8;have e6:=s7.trans e7;have e5:=s6.trans e6;have e4:=s5.trans e5;have e3:=s4.trans e4;have e2:=s3.trans e3;have e1:=s2.trans e2;have n1:a1≠b:=BR hbn f0 h1;have n2:a2≠b:=BR hbn f1 h2;have n3:a3≠b:=BR hbn f2 h3;have n4:a4≠b:=BR hbn f3 h4;have n5:a5≠b:=BR hbn f4 h5;have n6:a6≠b:=BR hbn f5 h6;have n7:a7≠b:=λz=>(hb.same f7).Cz _ (z ▸ g7);have n8:a8≠b:=BR hbn f7 h8;have n9:a9≠b:=BR hbn f8 h9;have n10:a10≠b:=BR hbn f9 h10;have n11:a11≠b:=λz=>(hb.same f11).Cz _ (z ▸ g11);have n12:a12≠b:=BR hbn f11 h12;have n13:a13≠b:=BR hbn f12 h13;have n14:a14≠b:=BR hbn f13 h14;have n15:a15≠b:=λz=>(hb.same f15).Cz _ (z ▸ g15);have n16:a16≠b:=BR hbn f15 h16;have n17:a17≠b:=BR hbn f16 h17;have n18:a18≠b:=BR hbn f17 h18;have n19:a19≠b:=BR hbn f18 h19;have n20:a20≠b:=λz=>(hb.same f20).Cz _ (z ▸ g20);have n21:a21≠b:=BR hbn f20 h21;have n22:a22≠b:=BR hbn f21 h22;have n23:a23≠b:=BR hbn f22 h23;have n24:a24≠b:=BR hbn f23 h24;have n25:a25≠b:=λz=>(hb.same f25).Cz _ (z ▸ g25);have n26:a26≠b:=BR hbn f25 h26;have n27:a27≠b:=BR hbn f26 h27;have n28:a28≠b:=BR hbn f27 h28;have n29:a29≠b:=λz=>(hb.same f29).Cz _ (z ▸ g29);have n30:a30≠b:=BR hbn f29 h30;have n31:a31≠b:=BR hbn f30 h31;have n32:a32≠b:=BR hbn f31 h32;have n33:a33≠b:=λz=>(hb.same f33).Cz _ (z ▸ g33);have n34:a34≠b:=BR hbn f33 h34;have n35:a35≠b:=BR hbn f34 h35;have n36:a36≠b:=BR hbn f35 h36;have n37:a37≠b:=λz=>(hb.same f37).Cz _ (z ▸ g37);have n38:a38≠b:=BR hbn f37 h38;have n39:a39≠b:=BR hbn f38 h39;have n40:a40≠b:=BR hbn f39 h40;have n41:a41≠b:=BR hbn f40 h41;have n42:a42≠b:=λz=>(hb.same f42).Cz _ (z ▸ g42);have n43:a43≠b:=BR hbn f42 h43;have n44:a44≠b:=BR hbn f43 h44;have n45:a45≠b:=BR hbn f44 h45;have n46:a46≠b:=λz=>(hb.same f46).Cz _ (z ▸ g46);have n47:a47≠b:=BR hbn f46 h47;have n48:a48≠b:=BR hbn f47 h48;have n49:a49≠b:=BR hbn f48 h49;have n50:a50≠b:=BR hbn f49 h50;have n51:a51≠b:=λz=>(hb.same f51).Cz _ (z ▸ g51);have n52:a52≠b:=BR hbn f51 h52;have n53:a53≠b:=BR hbn f52 h53;have ntr:tr≠b:=λz=>hb.Cz _ (z ▸ htr);have nto:to≠b:=λz=>hb.Cz _ (z ▸ hto);have RR:Ak (hid b H53) xr (rows.map Rw.data):=Ak.same ((O6 hb).trans (Kq (Al.of f53))) rsr;have RO:Ak (hid b H53) xo (outs.map outD):=Ak.same ((O6 hb).trans (Kq (Al.of f53))) rso;have ptr:hid b H53 tr=some (.tup xr):=Bb ntr (f53 _ _ htr);have pto:hid b H53 to=some (.tup xo):=Bb nto (f53 _ _ hto);have FR:∀x∈rows.map Rw.data,Fit 3 x:=λx hx=>by obtain⟨r,hr,rfl⟩:=QbW.mp hx;obtain⟨i,hi,e⟩:=List.getElem_of_mem hr;exact (Z0 (tok.ok i r (by rw[Qaj hi,e])) (by have:=tok.RG;omega)).fit (by decide)
 have FO:∀x∈outs.map outD,Fit 3 x:=λx hx=>by obtain⟨o,ho,rfl⟩:=QbW.mp hx;exact Ar (n:=2) (Am Bs (Am Bs (Qay _))) (by show 2<=900;decide)
 have V3:(rows.map Rw.data).length<=900:=by rw[Qbs];omega
 have Ih:(outs.map outD).length<=900:=by rw[Qbs];omega
 have Hv:∀{x:PyData},(rows.map Rw.data++[x]).length<=900:=by intro x;rw[QaF,Qbs];show rows.length+1<=900;omega
 have iW:∀{x:PyData},(outs.map outD++[x]).length<=900:=by intro x;rw[QaF,Qbs];show outs.length+1<=900;omega
 have b1:Gf (hid b H53) (.ref a2):=⟨.tuple [.list (rows.map Rw.data),.tuple (outs.map outD)],.tup (Bb n2 (e2 _ _ c2)) (.cons (.lst (Bb n1 (e1 _ _ c1)) RR) (.cons (.tup pto RO) .nil)),(Ar (n:=4) (Am (Ga FR V3) (Am (Ar FO Ih) (Qay _))) (by show 2<=900;decide):Fit 5 _).mono (by decide),rq⟩;have b2:Gf (hid b H53) (.ref a4):=⟨.tuple [.tuple (rows.map Rw.data),.list (outs.map outD)],.tup (Bb n4 (e4 _ _ c4)) (.cons (.tup ptr RR) (.cons (.lst (Bb n3 (e3 _ _ c3)) RO) .nil)),(Ar (n:=4) (Am (Ar FR V3) (Am (Ga FO Ih) (Qay _))) (by show 2<=900;decide):Fit 5 _).mono (by decide),rq⟩;have b3:Gf (hid b H53) (.ref a8):=⟨.tuple [.tuple (rows.map Rw.data++[.tuple [.str "not",.int xr.length]]),.tuple (outs.map outD)],.tup (Bb n8 (e8 _ _ c8)) (.cons (.tup (Bb n7 (e7 _ _ c7)) (Ak.Gz RR (.cons (.tup (Bb n5 (e5 _ _ c5)) (.cons (.str _) (.cons (.int _) .nil))) .nil))) (.cons (.tup pto RO) .nil)),(Ar (n:=4) (Am (Ar (CN FR (Ar (n:=2) (Am (Fi (by trivial)) (Am (Bs) (Qay _))) (by show 2<=900;decide))) Hv) (Am (Ar FO Ih) (Qay _))) (by show 2<=900;decide):Fit 5 _).mono (by decide),Fj (by rw[Qbs,<-lxr];exact ju _)⟩;have b4:Gf (hid b H53) (.ref a12):=⟨.tuple [.tuple (rows.map Rw.data++[.tuple [.str "key",.int 10]]),.tuple (outs.map outD)],.tup (Bb n12 (e12 _ _ c12)) (.cons (.tup (Bb n11 (e11 _ _ c11)) (Ak.Gz RR (.cons (.tup (Bb n9 (e9 _ _ c9)) (.cons (.str _) (.cons (.int _) .nil))) .nil))) (.cons (.tup pto RO) .nil)),(Ar (n:=4) (Am (Ar (CN FR (Ar (n:=2) (Am (Fi (by trivial)) (Am (Bs) (Qay _))) (by show 2<=900;decide))) Hv) (Am (Ar FO Ih) (Qay _))) (by show 2<=900;decide):Fit 5 _).mono (by decide),Fj (jx _)⟩;have b5:Gf (hid b H53) (.ref a16):=⟨.tuple [.tuple (rows.map Rw.data),.tuple (outs.map outD++[.tuple [.int 100,.int 0]])],.tup (Bb n16 (e16 _ _ c16)) (.cons (.tup ptr RR) (.cons (.tup (Bb n15 (e15 _ _ c15)) (Ak.Gz RO (.cons (.tup (Bb n13 (e13 _ _ c13)) (.cons (.int _) (.cons (.int _) .nil))) .nil))) .nil)),(Ar (n:=4) (Am (Ar FR V3) (Am (Ar (CN FO (Ar (n:=2) (Am (Bs) (Am (Bs) (Qay _))) (by show 2<=900;decide))) iW) (Qay _))) (by show 2<=900;decide):Fit 5 _).mono (by decide),bU (jt _)⟩;have b6:Gf (hid b H53) (.ref a21):=⟨.tuple [.tuple (rows.map Rw.data++[.tuple [.str "many",.int 0,.tuple [.int 1]]]),.tuple (outs.map outD)],.tup (Bb n21 (e21 _ _ c21)) (.cons (.tup (Bb n20 (e20 _ _ c20)) (Ak.Gz RR (.cons (.tup (Bb n18 (e18 _ _ c18)) (.cons (.str _) (.cons (.int _) (.cons (.tup (Bb n17 (e17 _ _ c17)) (.cons (.int _) .nil)) .nil)))) .nil))) (.cons (.tup pto RO) .nil)),(Ar (n:=4) (Am (Ar (CN FR (Ar (n:=2) (Am (Fi (by trivial)) (Am (Bs) (Am (Ar (n:=1) (Am (Bs) (Qay _)) (by show 1<=900;decide)) (Qay _)))) (by show 3<=900;decide))) Hv) (Am (Ar FO Ih) (Qay _))) (by show 2<=900;decide):Fit 5 _).mono (by decide),Fj (bY _)⟩;have b7:Gf (hid b H53) (.ref a26):=⟨.tuple [.tuple (rows.map Rw.data++[.tuple [.str "many",.int 1,.tuple []]]),.tuple (outs.map outD)],.tup (Bb n26 (e26 _ _ c26)) (.cons (.tup (Bb n25 (e25 _ _ c25)) (Ak.Gz RR (.cons (.tup (Bb n23 (e23 _ _ c23)) (.cons (.str _) (.cons (.int _) (.cons (.tup (Bb n22 (e22 _ _ c22)) (.nil)) .nil)))) .nil))) (.cons (.tup pto RO) .nil)),(Ar (n:=4) (Am (Ar (CN FR (Ar (n:=2) (Am (Fi (by trivial)) (Am (Bs) (Am (Ar (n:=1) (Qay _) (by show 0<=900;decide)) (Qay _)))) (by show 3<=900;decide))) Hv) (Am (Ar FO Ih) (Qay _))) (by show 2<=900;decide):Fit 5 _).mono (by decide),Fj (bW _)⟩;have b8:Gf (hid b H53) (.ref a30):=⟨.tuple [.tuple (rows.map Rw.data++[.tuple [.str "then",.int 0,.int 0,.int 21]]),.tuple (outs.map outD)],.tup (Bb n30 (e30 _ _ c30)) (.cons (.tup (Bb n29 (e29 _ _ c29)) (Ak.Gz RR (.cons (.tup (Bb n27 (e27 _ _ c27)) (.cons (.str _) (.cons (.int _) (.cons (.int _) (.cons (.int _) .nil))))) .nil))) (.cons (.tup pto RO) .nil)),(Ar (n:=4) (Am (Ar (CN FR (Ar (n:=2) (Am (Fi (by trivial)) (Am (Bs) (Am (Bs) (Am (Bs) (Qay _))))) (by show 4<=900;decide))) Hv) (Am (Ar FO Ih) (Qay _))) (by show 2<=900;decide):Fit 5 _).mono (by decide),Fj (Yk _ _ (.inr rfl))⟩;have b9:Gf (hid b H53) (.ref a34):=⟨.tuple [.tuple (rows.map Rw.data++[.tuple [.str "then",.int 0,.int 0,.int 0]]),.tuple (outs.map outD)],.tup (Bb n34 (e34 _ _ c34)) (.cons (.tup (Bb n33 (e33 _ _ c33)) (Ak.Gz RR (.cons (.tup (Bb n31 (e31 _ _ c31)) (.cons (.str _) (.cons (.int _) (.cons (.int _) (.cons (.int _) .nil))))) .nil))) (.cons (.tup pto RO) .nil)),(Ar (n:=4) (Am (Ar (CN FR (Ar (n:=2) (Am (Fi (by trivial)) (Am (Bs) (Am (Bs) (Am (Bs) (Qay _))))) (by show 4<=900;decide))) Hv) (Am (Ar FO Ih) (Qay _))) (by show 2<=900;decide):Fit 5 _).mono (by decide),Fj (Yk _ _ (.inl rfl))⟩;have b10:Gf (hid b H53) (.ref a38):=⟨.tuple [.tuple (rows.map Rw.data++[.tuple [.str "hours",.int 24,.int 0]]),.tuple (outs.map outD)],.tup (Bb n38 (e38 _ _ c38)) (.cons (.tup (Bb n37 (e37 _ _ c37)) (Ak.Gz RR (.cons (.tup (Bb n35 (e35 _ _ c35)) (.cons (.str _) (.cons (.int _) (.cons (.int _) .nil)))) .nil))) (.cons (.tup pto RO) .nil)),(Ar (n:=4) (Am (Ar (CN FR (Ar (n:=2) (Am (Fi (by trivial)) (Am (Bs) (Am (Bs) (Qay _)))) (by show 3<=900;decide))) Hv) (Am (Ar FO Ih) (Qay _))) (by show 2<=900;decide):Fit 5 _).mono (by decide),Fj (bZ _)⟩;have b11:Gf (hid b H53) (.ref a43):=⟨.tuple [.tuple (rows.map Rw.data++[.tuple [.str "many",.int 1,.tuple [.int 2,.int 1]]]),.tuple (outs.map outD)],.tup (Bb n43 (e43 _ _ c43)) (.cons (.tup (Bb n42 (e42 _ _ c42)) (Ak.Gz RR (.cons (.tup (Bb n40 (e40 _ _ c40)) (.cons (.str _) (.cons (.int _) (.cons (.tup (Bb n39 (e39 _ _ c39)) (.cons (.int _) (.cons (.int _) .nil))) .nil)))) .nil))) (.cons (.tup pto RO) .nil)),(Ar (n:=4) (Am (Ar (CN FR (Ar (n:=2) (Am (Fi (by trivial)) (Am (Bs) (Am (Ar (n:=1) (Am (Bs) (Am (Bs) (Qay _))) (by show 2<=900;decide)) (Qay _)))) (by show 3<=900;decide))) Hv) (Am (Ar FO Ih) (Qay _))) (by show 2<=900;decide):Fit 5 _).mono (by decide),Fj (bV _)⟩;have b12:Gf (hid b H53) (.ref a47):=⟨.tuple [.tuple (rows.map Rw.data++[.tuple [.str "key",.bool true]]),.tuple (outs.map outD)],.tup (Bb n47 (e47 _ _ c47)) (.cons (.tup (Bb n46 (e46 _ _ c46)) (Ak.Gz RR (.cons (.tup (Bb n44 (e44 _ _ c44)) (.cons (.str _) (.cons (.bl _) .nil))) .nil))) (.cons (.tup pto RO) .nil)),(Ar (n:=4) (Am (Ar (CN FR (Ar (n:=2) (Am (Fi (by trivial)) (Am (fX) (Qay _))) (by show 2<=900;decide))) Hv) (Am (Ar FO Ih) (Qay _))) (by show 2<=900;decide):Fit 5 _).mono (by decide),Fj (gC _)⟩;have b13:Gf (hid b H53) (.ref a48):=⟨.tuple [.tuple (rows.map Rw.data)],.tup (Bb n48 (e48 _ _ c48)) (.cons (.tup ptr RR) .nil),(Ar (n:=4) (Am (Ar FR V3) (Qay _)) (by show 1<=900;decide):Fit 5 _).mono (by decide),rq⟩;have b14:Gf (hid b H53) (.non):=⟨.none,.non,(bG:Fit 5 _).mono (by decide),rq⟩;have b15:Gf (hid b H53) (.ref a52):=⟨.tuple [.tuple (rows.map Rw.data++[.tuple [.str "nor",.int 0,.int 0]]),.tuple (outs.map outD)],.tup (Bb n52 (e52 _ _ c52)) (.cons (.tup (Bb n51 (e51 _ _ c51)) (Ak.Gz RR (.cons (.tup (Bb n49 (e49 _ _ c49)) (.cons (.str _) (.cons (.int _) (.cons (.int _) .nil)))) .nil))) (.cons (.tup pto RO) .nil)),(Ar (n:=4) (Am (Ar (CN FR (Ar (n:=2) (Am (Fi (by trivial)) (Am (Bs) (Am (Bs) (Qay _)))) (by show 3<=900;decide))) Hv) (Am (Ar FO Ih) (Qay _))) (by show 2<=900;decide):Fit 5 _).mono (by decide),Fj (jw _)⟩;have nT:∀x∈[V.ref a2,V.ref a4,V.ref a8,V.ref a12,V.ref a16,V.ref a21,V.ref a26,V.ref a30,V.ref a34,V.ref a38,V.ref a43,V.ref a47,V.ref a48,V.non,V.ref a52],Gf (hid b H53) x:=Am b1 (Am b2 (Am b3 (Am b4 (Am b5 (Am b6 (Am b7 (Am b8 (Am b9 (Am b10 (Am b11 (Am b12 (Am b13 (Am b14 (Am b15 ((Qay _))))))))))))))));have ntb:tb≠b:=λz=>hb.Cz _ (z ▸ htb);have ntd:td≠b:=λz=>hb.Cz _ (z ▸ htd);refine⟨_,rq,_,rq,b,m,15,rq,hb.same f53,by omega,by decide,by decide,λr HA r0 r1 hbA sbA=>?_⟩;obtain⟨v,hv,d0,rv,fv,bv⟩:=Yl nT r0 (show r < 15 from r1)
 have zhl:HA hl=some (.lst xs):=sbA _ _ (f53 _ _ hhl) nbh.symm;have ztd:HA td=some (.tup (due.map V.int)):=sbA _ _ (f53 _ _ htd) ntd;refine⟨a53,_,_,_,rq,rq,SqL.of (sbA _ _ c53 n53),hv,?_⟩;have t0:Same HA HA:=Same.refl HA;refine⟨_,rq,_,rq,Ag (by show 4<=1000;decide),λw1 y1=>?_⟩;have p1:=Ae y1 (.tup [.str "says",v,.ref hl,.ref td]);have d1:upd HA w1 (.tup [.str "says",v,.ref hl,.ref td]) w1=some (.tup [.str "says",v,.ref hl,.ref td]):=Ad;have t1:=t0.trans p1;have m1:w1≠b:=(hbA.same t0).nb y1 |>.symm;generalize upd HA w1 (.tup [.str "says",v,.ref hl,.ref td])=K1 at *;refine⟨_,rq,Ag (by show 0<=1000;decide),λw2 y2=>?_⟩;have p2:=Ae y2 (.lst []);have d2:upd K1 w2 (.lst []) w2=some (.lst []):=Ad;have t2:=t1.trans p2;have m2:w2≠b:=(hbA.same t1).nb y2 |>.symm;generalize upd K1 w2 (.lst [])=K2 at *;refine⟨Ag (by show 0<=1000;decide),λw3 y3=>?_⟩;have p3:=Ae y3 (.tup []);have d3:upd K2 w3 (.tup []) w3=some (.tup []):=Ad;have t3:=t2.trans p3;have m3:w3≠b:=(hbA.same t2).nb y3 |>.symm;generalize upd K2 w3 (.tup [])=K3 at *;refine⟨Ag (by show 4<=1000;decide),λw4 y4=>?_⟩;have p4:=Ae y4 (.tup [.str "says",.ref tb,.ref w2,.ref w3]);have d4:upd K3 w4 (.tup [.str "says",.ref tb,.ref w2,.ref w3]) w4=some (.tup [.str "says",.ref tb,.ref w2,.ref w3]):=Ad;have t4:=t3.trans p4;have m4:w4≠b:=(hbA.same t3).nb y4 |>.symm;generalize upd K3 w4 (.tup [.str "says",.ref tb,.ref w2,.ref w3])=K4 at *;refine⟨_,rq,_,rq,hl,_,rq,.inl ⟨SqL.of (t4 _ _ zhl),λw5 y5=>?_⟩⟩;have p5:=Ae y5 (.tup xs);have d5:upd K4 w5 (.tup xs) w5=some (.tup xs):=Ad;have t5:=t4.trans p5;have m5:w5≠b:=(hbA.same t4).nb y5 |>.symm;generalize upd K4 w5 (.tup xs)=K5 at *;refine⟨_,rq,Ag (by show 4<=1000;decide),λw6 y6=>?_⟩;have p6:=Ae y6 (.tup [.str "says",.ref tb,.ref w5,.ref td]);have d6:upd K5 w6 (.tup [.str "says",.ref tb,.ref w5,.ref td]) w6=some (.tup [.str "says",.ref tb,.ref w5,.ref td]):=Ad;have t6:=t5.trans p6;have m6:w6≠b:=(hbA.same t5).nb y6 |>.symm;generalize upd K5 w6 (.tup [.str "says",.ref tb,.ref w5,.ref td])=K6 at *;refine⟨_,rq,_,rq,Ag (by show 2<=1000;decide),λw7 y7=>?_⟩;have p7:=Ae y7 (.tup [.int 2,.int 1]);have d7:upd K6 w7 (.tup [.int 2,.int 1]) w7=some (.tup [.int 2,.int 1]):=Ad;have t7:=t6.trans p7;have m7:w7≠b:=(hbA.same t6).nb y7 |>.symm;generalize upd K6 w7 (.tup [.int 2,.int 1])=K7 at *;refine⟨Ag (by show 0<=1000;decide),λw8 y8=>?_⟩;have p8:=Ae y8 (.tup []);have d8:upd K7 w8 (.tup []) w8=some (.tup []):=Ad;have t8:=t7.trans p8;have m8:w8≠b:=(hbA.same t7).nb y8 |>.symm;generalize upd K7 w8 (.tup [])=K8 at *;refine⟨Ag (by show 3<=1000;decide),λw9 y9=>?_⟩;have p9:=Ae y9 (.tup [.ref w7,.ref w8,.int 0]);have d9:upd K8 w9 (.tup [.ref w7,.ref w8,.int 0]) w9=some (.tup [.ref w7,.ref w8,.int 0]):=Ad;have t9:=t8.trans p9;have m9:w9≠b:=(hbA.same t8).nb y9 |>.symm;generalize upd K8 w9 (.tup [.ref w7,.ref w8,.int 0])=K9 at *;refine⟨Ag (by show 1<=1000;decide),λw10 y10=>?_⟩;have p10:=Ae y10 (.lst [.ref w9]);have d10:upd K9 w10 (.lst [.ref w9]) w10=some (.lst [.ref w9]):=Ad;have t10:=t9.trans p10;have m10:w10≠b:=(hbA.same t9).nb y10 |>.symm;generalize upd K9 w10 (.lst [.ref w9])=K10 at *;refine⟨hl,w10,_,_,rq,rq,t10 _ _ zhl,d10,Ag (by show xs.length+1<=1000;omega),λw11 y11=>?_⟩;have p11:=Ae y11 (.lst (xs++[.ref w9]));have d11:upd K10 w11 (.lst (xs++[.ref w9])) w11=some (.lst (xs++[.ref w9])):=Ad;have t11:=t10.trans p11;have m11:w11≠b:=(hbA.same t10).nb y11 |>.symm;generalize upd K10 w11 (.lst (xs++[.ref w9]))=K11 at *;refine⟨_,rq,Ag (by show 4<=1000;decide),λw12 y12=>?_⟩;have p12:=Ae y12 (.tup [.str "says",.ref tb,.ref w11,.ref td]);have d12:upd K11 w12 (.tup [.str "says",.ref tb,.ref w11,.ref td]) w12=some (.tup [.str "says",.ref tb,.ref w11,.ref td]):=Ad;have t12:=t11.trans p12;have m12:w12≠b:=(hbA.same t11).nb y12 |>.symm;generalize upd K11 w12 (.tup [.str "says",.ref tb,.ref w11,.ref td])=K12 at *;refine⟨_,rq,_,rq,Ag (by show 0<=1000;decide),λw13 y13=>?_⟩;have p13:=Ae y13 (.tup []);have d13:upd K12 w13 (.tup []) w13=some (.tup []):=Ad;have t13:=t12.trans p13;have m13:w13≠b:=(hbA.same t12).nb y13 |>.symm;generalize upd K12 w13 (.tup [])=K13 at *;refine⟨Ag (by show 1<=1000;decide),λw14 y14=>?_⟩;have p14:=Ae y14 (.tup [.int 10]);have d14:upd K13 w14 (.tup [.int 10]) w14=some (.tup [.int 10]):=Ad;have t14:=t13.trans p14;have m14:w14≠b:=(hbA.same t13).nb y14 |>.symm;generalize upd K13 w14 (.tup [.int 10])=K14 at *;refine⟨Ag (by show 3<=1000;decide),λw15 y15=>?_⟩;have p15:=Ae y15 (.tup [.ref w13,.ref w14,.int 0]);have d15:upd K14 w15 (.tup [.ref w13,.ref w14,.int 0]) w15=some (.tup [.ref w13,.ref w14,.int 0]):=Ad;have t15:=t14.trans p15;have m15:w15≠b:=(hbA.same t14).nb y15 |>.symm;generalize upd K14 w15 (.tup [.ref w13,.ref w14,.int 0])=K15 at *;refine⟨Ag (by show 1<=1000;decide),λw16 y16=>?_⟩;have p16:=Ae y16 (.lst [.ref w15]);have d16:upd K15 w16 (.lst [.ref w15]) w16=some (.lst [.ref w15]):=Ad;have t16:=t15.trans p16;have m16:w16≠b:=(hbA.same t15).nb y16 |>.symm;generalize upd K15 w16 (.lst [.ref w15])=K16 at *;refine⟨hl,w16,_,_,rq,rq,t16 _ _ zhl,d16,Ag (by show xs.length+1<=1000;omega),λw17 y17=>?_⟩;have p17:=Ae y17 (.lst (xs++[.ref w15]));have d17:upd K16 w17 (.lst (xs++[.ref w15])) w17=some (.lst (xs++[.ref w15])):=Ad;have t17:=t16.trans p17;have m17:w17≠b:=(hbA.same t16).nb y17 |>.symm;generalize upd K16 w17 (.lst (xs++[.ref w15]))=K17 at *;refine⟨_,rq,Ag (by show 4<=1000;decide),λw18 y18=>?_⟩;have p18:=Ae y18 (.tup [.str "says",.ref tb,.ref w17,.ref td]);have d18:upd K17 w18 (.tup [.str "says",.ref tb,.ref w17,.ref td]) w18=some (.tup [.str "says",.ref tb,.ref w17,.ref td]):=Ad;have t18:=t17.trans p18;have m18:w18≠b:=(hbA.same t17).nb y18 |>.symm;generalize upd K17 w18 (.tup [.str "says",.ref tb,.ref w17,.ref td])=K18 at *;refine⟨_,rq,_,rq,Ag (by show 0<=1000;decide),λw19 y19=>?_⟩;have p19:=Ae y19 (.tup []);have d19:upd K18 w19 (.tup []) w19=some (.tup []):=Ad;have t19:=t18.trans p19;have m19:w19≠b:=(hbA.same t18).nb y19 |>.symm;generalize upd K18 w19 (.tup [])=K19 at *;refine⟨Ag (by show 0<=1000;decide),λw20 y20=>?_⟩;have p20:=Ae y20 (.tup []);have d20:upd K19 w20 (.tup []) w20=some (.tup []):=Ad;have t20:=t19.trans p20;have m20:w20≠b:=(hbA.same t19).nb y20 |>.symm;generalize upd K19 w20 (.tup [])=K20 at *;refine⟨Ag (by show 3<=1000;decide),λw21 y21=>?_⟩;have p21:=Ae y21 (.tup [.ref w19,.ref w20,.int 24]);have d21:upd K20 w21 (.tup [.ref w19,.ref w20,.int 24]) w21=some (.tup [.ref w19,.ref w20,.int 24]):=Ad;have t21:=t20.trans p21;have m21:w21≠b:=(hbA.same t20).nb y21 |>.symm;generalize upd K20 w21 (.tup [.ref w19,.ref w20,.int 24])=K21 at *;refine⟨Ag (by show 1<=1000;decide),λw22 y22=>?_⟩;have p22:=Ae y22 (.lst [.ref w21]);have d22:upd K21 w22 (.lst [.ref w21]) w22=some (.lst [.ref w21]):=Ad;have t22:=t21.trans p22;have m22:w22≠b:=(hbA.same t21).nb y22 |>.symm;generalize upd K21 w22 (.lst [.ref w21])=K22 at *;refine⟨hl,w22,_,_,rq,rq,t22 _ _ zhl,d22,Ag (by show xs.length+1<=1000;omega),λw23 y23=>?_⟩;have p23:=Ae y23 (.lst (xs++[.ref w21]));have d23:upd K22 w23 (.lst (xs++[.ref w21])) w23=some (.lst (xs++[.ref w21])):=Ad;have t23:=t22.trans p23;have m23:w23≠b:=(hbA.same t22).nb y23 |>.symm;generalize upd K22 w23 (.lst (xs++[.ref w21]))=K23 at *;refine⟨_,rq,Ag (by show 4<=1000;decide),λw24 y24=>?_⟩;have p24:=Ae y24 (.tup [.str "says",.ref tb,.ref w23,.ref td]);have d24:upd K23 w24 (.tup [.str "says",.ref tb,.ref w23,.ref td]) w24=some (.tup [.str "says",.ref tb,.ref w23,.ref td]):=Ad;have t24:=t23.trans p24;have m24:w24≠b:=(hbA.same t23).nb y24 |>.symm;generalize upd K23 w24 (.tup [.str "says",.ref tb,.ref w23,.ref td])=K24 at *;refine⟨_,rq,_,rq,_,rq,td,_,rq,.inr (SqT.of (t24 _ _ ztd)),λw25 y25=>?_⟩;have p25:=Ae y25 (.lst (due.map V.int));have d25:upd K24 w25 (.lst (due.map V.int)) w25=some (.lst (due.map V.int)):=Ad;have t25:=t24.trans p25;have m25:w25≠b:=(hbA.same t24).nb y25 |>.symm;generalize upd K24 w25 (.lst (due.map V.int))=K25 at *;refine⟨Ag (by show 4<=1000;decide),λw26 y26=>?_⟩;have p26:=Ae y26 (.tup [.str "says",.ref tb,.ref hl,.ref w25]);have d26:upd K25 w26 (.tup [.str "says",.ref tb,.ref hl,.ref w25]) w26=some (.tup [.str "says",.ref tb,.ref hl,.ref w25]):=Ad;have t26:=t25.trans p26;have m26:w26≠b:=(hbA.same t25).nb y26 |>.symm;generalize upd K25 w26 (.tup [.str "says",.ref tb,.ref hl,.ref w25])=K26 at *;refine⟨_,rq,_,rq,Ag (by show 3<=1000;decide),λw27 y27=>?_⟩;have p27:=Ae y27 (.tup [.str "says",.ref tb,.ref hl]);have d27:upd K26 w27 (.tup [.str "says",.ref tb,.ref hl]) w27=some (.tup [.str "says",.ref tb,.ref hl]):=Ad;have t27:=t26.trans p27;have m27:w27≠b:=(hbA.same t26).nb y27 |>.symm;generalize upd K26 w27 (.tup [.str "says",.ref tb,.ref hl])=K27 at *;refine⟨_,rq,_,rq,hl,61,xs,rq,rq,t27 _ _ zhl,by decide,by decide,QbV (show xs.length*61<=100000 by omega) (by decide),λw28 y28=>?_⟩;have p28:=Ae y28 (.lst (List.replicate (61:Int).toNat xs).flatten);have d28:upd K27 w28 (.lst (List.replicate (61:Int).toNat xs).flatten) w28=some (.lst (List.replicate (61:Int).toNat xs).flatten):=Ad;have t28:=t27.trans p28;have m28:w28≠b:=(hbA.same t27).nb y28 |>.symm;generalize upd K27 w28 (.lst (List.replicate (61:Int).toNat xs).flatten)=K28 at *;refine⟨_,rq,w28,_,rq,SqL.of d28,λw29 y29=>?_⟩;have p29:=Ae y29 (.lst (Cy (List.replicate (61:Int).toNat xs).flatten none (some 61)));have d29:upd K28 w29 (.lst (Cy (List.replicate (61:Int).toNat xs).flatten none (some 61))) w29=some (.lst (Cy (List.replicate (61:Int).toNat xs).flatten none (some 61))):=Ad;have t29:=t28.trans p29;have m29:w29≠b:=(hbA.same t28).nb y29 |>.symm;generalize upd K28 w29 (.lst (Cy (List.replicate (61:Int).toNat xs).flatten none (some 61)))=K29 at *;refine⟨_,rq,Ag (by show 4<=1000;decide),λw30 y30=>?_⟩;have p30:=Ae y30 (.tup [.str "says",.ref tb,.ref w29,.ref td]);have d30:upd K29 w30 (.tup [.str "says",.ref tb,.ref w29,.ref td]) w30=some (.tup [.str "says",.ref tb,.ref w29,.ref td]):=Ad;have t30:=t29.trans p30;have m30:w30≠b:=(hbA.same t29).nb y30 |>.symm;generalize upd K29 w30 (.tup [.str "says",.ref tb,.ref w29,.ref td])=K30 at *;refine⟨Ag (by show 9<=1000;decide),λw31 y31=>?_⟩;have p31:=Ae y31 (.lst [.ref w1,.ref w4,.ref w6,.ref w12,.ref w18,.ref w24,.ref w26,.ref w27,.ref w30]);have d31:upd K30 w31 (.lst [.ref w1,.ref w4,.ref w6,.ref w12,.ref w18,.ref w24,.ref w26,.ref w27,.ref w30]) w31=some (.lst [.ref w1,.ref w4,.ref w6,.ref w12,.ref w18,.ref w24,.ref w26,.ref w27,.ref w30]):=Ad;have t31:=t30.trans p31;have m31:w31≠b:=(hbA.same t30).nb y31 |>.symm;generalize upd K30 w31 (.lst [.ref w1,.ref w4,.ref w6,.ref w12,.ref w18,.ref w24,.ref w26,.ref w27,.ref w30])=K31 at *;refine⟨_,rq,_,rq,b,_,9,rq,hbA.same t31,by omega,by decide,by decide,λr2 HZ r20 r21 hbZ sbZ=>?_⟩;have SZ:Al b H HZ:=(Al.of f53).trans (sbA.trans ((Al.of t31).trans sbZ));have toZ:Same (onl H) HZ:=((O6 hb).trans (Kq SZ)).trans UL;have RR2:=Ak.same toZ rsr;have RO2:=Ak.same toZ rso;have RH2:=Ak.same toZ (JW pb);have RT:Rep HZ (.ref tb) (Dv rows outs):=.tup (SZ _ _ htb ntb) (.cons (.tup (SZ _ _ htr ntr) RR2) (.cons (.tup (SZ _ _ hto nto) RO2) .nil));have RHl:Rep HZ (.ref hl) (.list (bs.map btD)):=.lst (SZ _ _ hhl nbh.symm) RH2;have RD:Rep HZ (.ref td) (.tuple (due.map PyData.int)):=.tup (SZ _ _ htd ntd) (Dt due);have RV:Rep HZ v d0:=Rep.same ((Kq (sbA.trans ((Al.of t31).trans sbZ))).trans UL) rv;have FT:Fit 64 (Dv rows outs):=(tok.sl.fit (by decide)).mono (by decide);have FH:Fit 64 (.list (bs.map btD)):=(Ku bok b60).mono (by decide);have FD:Fit 64 (.tuple (due.map PyData.int)):=(Jm (n:=1) (by omega)).mono (by decide);have FB:∀x∈bs.map btD,Fit 2 x:=λx hx=>by obtain⟨c,hc,rfl⟩:=QbW.mp hx;exact X3 (bok c hc)
 have u30:=p31;have u29:=p30.trans u30;have u28:=p29.trans u29;have u27:=p28.trans u28;have u26:=p27.trans u27;have u25:=p26.trans u26;have u24:=p25.trans u25;have u23:=p24.trans u24;have u22:=p23.trans u23;have u21:=p22.trans u22;have u20:=p21.trans u21;have u19:=p20.trans u20;have u18:=p19.trans u19;have u17:=p18.trans u18;have u16:=p17.trans u17;have u15:=p16.trans u16;have u14:=p15.trans u15;have u13:=p14.trans u14;have u12:=p13.trans u13;have u11:=p12.trans u12;have u10:=p11.trans u11;have u9:=p10.trans u10;have u8:=p9.trans u9;have u7:=p8.trans u8;have u6:=p7.trans u7;have u5:=p6.trans u6;have u4:=p5.trans u5;have u3:=p4.trans u4;have u2:=p3.trans u3;have u1:=p2.trans u2;have z1:=sbZ _ _ (u1 _ _ d1) m1;have z2:=sbZ _ _ (u2 _ _ d2) m2;have z3:=sbZ _ _ (u3 _ _ d3) m3;have z4:=sbZ _ _ (u4 _ _ d4) m4;have z5:=sbZ _ _ (u5 _ _ d5) m5;have z6:=sbZ _ _ (u6 _ _ d6) m6;have z7:=sbZ _ _ (u7 _ _ d7) m7;have z8:=sbZ _ _ (u8 _ _ d8) m8;have z9:=sbZ _ _ (u9 _ _ d9) m9;have z10:=sbZ _ _ (u10 _ _ d10) m10;have z11:=sbZ _ _ (u11 _ _ d11) m11;have z12:=sbZ _ _ (u12 _ _ d12) m12;have z13:=sbZ _ _ (u13 _ _ d13) m13;have z14:=sbZ _ _ (u14 _ _ d14) m14;have z15:=sbZ _ _ (u15 _ _ d15) m15;have z16:=sbZ _ _ (u16 _ _ d16) m16;have z17:=sbZ _ _ (u17 _ _ d17) m17;have z18:=sbZ _ _ (u18 _ _ d18) m18;have z19:=sbZ _ _ (u19 _ _ d19) m19;have z20:=sbZ _ _ (u20 _ _ d20) m20;have z21:=sbZ _ _ (u21 _ _ d21) m21;have z22:=sbZ _ _ (u22 _ _ d22) m22;have z23:=sbZ _ _ (u23 _ _ d23) m23;have z24:=sbZ _ _ (u24 _ _ d24) m24;have z25:=sbZ _ _ (u25 _ _ d25) m25;have z26:=sbZ _ _ (u26 _ _ d26) m26;have z27:=sbZ _ _ (u27 _ _ d27) m27;have z28:=sbZ _ _ (u28 _ _ d28) m28;have z29:=sbZ _ _ (u29 _ _ d29) m29;have z30:=sbZ _ _ (u30 _ _ d30) m30;have z31:=sbZ _ _ d31 m31;have V4:∀{x:PyData},(bs.map btD++[x]).length<=900:=by intro x;rw[QaF,Qbs];show bs.length+1<=900;omega
 have kW:(bs.map btD).length<=900:=by rw[Qbs];omega
 have q1:Hx HZ (.ref w1):=⟨w1,rq,.inr ⟨v,.ref hl,.ref td,d0,.list (bs.map btD),.tuple (due.map PyData.int),z1,RV,RHl,RD,fv.mono (by decide),FH,FD,.inl bv⟩⟩;have q2:Hx HZ (.ref w4):=⟨w4,rq,.inr ⟨.ref tb,.ref w2,.ref w3,Dv rows outs,.list [],.tuple [],z4,RT,.lst z2 .nil,.tup z3 .nil,FT,(Ga (n:=0) (Qay _) (by show 0<=900;decide)).mono (by decide),(Ar (n:=0) (Qay _) (by show 0<=900;decide)).mono (by decide),.inr (.inl rfl)⟩⟩;have q3:Hx HZ (.ref w6):=⟨w6,rq,.inr ⟨.ref tb,.ref w5,.ref td,Dv rows outs,.tuple (bs.map btD),.tuple (due.map PyData.int),z6,RT,.tup z5 RH2,RD,FT,(Ar FB kW).mono (by decide),FD,.inr (.inl rfl)⟩⟩;have q4:Hx HZ (.ref w12):=⟨w12,rq,.inr ⟨.ref tb,.ref w11,.ref td,Dv rows outs,.list (bs.map btD++[.tuple [.tuple [.int 2,.int 1],.tuple [],.int 0]]),.tuple (due.map PyData.int),z12,RT,.lst z11 (Ak.Gz RH2 (.cons (.tup z9 (.cons (.tup z7 (.cons (.int _) (.cons (.int _) .nil))) (.cons (.tup z8 .nil) (.cons (.int _) .nil)))) .nil)),RD,FT,(Ga (CN FB (Ar (n:=1) (Am (Ar (n:=0) (Am Bs (Am Bs (Qay _))) (by show 2<=900;decide)) (Am (Ar (n:=0) (Qay _) (by show 0<=900;decide)) (Am Bs (Qay _)))) (by show 3<=900;decide))) V4).mono (by decide),FD,.inr (.inl (Nk jA))⟩⟩;have q5:Hx HZ (.ref w18):=⟨w18,rq,.inr ⟨.ref tb,.ref w17,.ref td,Dv rows outs,.list (bs.map btD++[.tuple [.tuple [],.tuple [.int 10],.int 0]]),.tuple (due.map PyData.int),z18,RT,.lst z17 (Ak.Gz RH2 (.cons (.tup z15 (.cons (.tup z13 .nil) (.cons (.tup z14 (.cons (.int _) .nil)) (.cons (.int _) .nil)))) .nil)),RD,FT,(Ga (CN FB (Ar (n:=1) (Am (Ar (n:=0) (Qay _) (by show 0<=900;decide)) (Am (Ar (n:=0) (Am Bs (Qay _)) (by show 1<=900;decide)) (Am Bs (Qay _)))) (by show 3<=900;decide))) V4).mono (by decide),FD,.inr (.inl (Nk jz))⟩⟩;have q6:Hx HZ (.ref w24):=⟨w24,rq,.inr ⟨.ref tb,.ref w23,.ref td,Dv rows outs,.list (bs.map btD++[.tuple [.tuple [],.tuple [],.int 24]]),.tuple (due.map PyData.int),z24,RT,.lst z23 (Ak.Gz RH2 (.cons (.tup z21 (.cons (.tup z19 .nil) (.cons (.tup z20 .nil) (.cons (.int _) .nil)))) .nil)),RD,FT,(Ga (CN FB (Ar (n:=1) (Am (Ar (n:=0) (Qay _) (by show 0<=900;decide)) (Am (Ar (n:=0) (Qay _) (by show 0<=900;decide)) (Am Bs (Qay _)))) (by show 3<=900;decide))) V4).mono (by decide),FD,.inr (.inl (Nk jy))⟩⟩;have q7:Hx HZ (.ref w26):=⟨w26,rfl,.inr ⟨.ref tb,.ref hl,.ref w25,Dv rows outs,.list (bs.map btD),.list (due.map PyData.int),z26,RT,RHl,.lst z25 (Dt due),FT,FH,(Ga (n:=0) (λx hx=>by obtain⟨g,_,rfl⟩:=QbW.mp hx;exact Bs) (by rw[Qbs];omega)).mono (by decide),.inr (.inr λds e=>by cases e)⟩⟩;have q8:Hx HZ (.ref w27):=⟨w27,rq,.inl ⟨_,_,z27⟩⟩;have eU:∀{α : Type} (l:List α),((List.replicate 61 l).flatten).length=61*l.length:=λl=>by rw[List.length_flatten,List.map_replicate,List.sum_replicate_nat]
 have ex:Cy (List.replicate (61:Int).toNat xs).flatten none (some 61)=((List.replicate 61 xs).flatten).take 61:=X7 (m:=61) (by show 61<=((List.replicate 61 xs).flatten).length;rw[eU];omega);rw[ex] at z29;have l61:(((List.replicate 61 (bs.map btD)).flatten).take 61).length=61:=by rw[Qbi,eU,Qbs];omega
 have q9:Hx HZ (.ref w30):=⟨w30,rfl,.inr ⟨.ref tb,.ref w29,.ref td,Dv rows outs,.list (((List.replicate 61 (bs.map btD)).flatten).take 61),.tuple (due.map PyData.int),z30,RT,.lst z29 (Xf 61 (Rz RH2 61)),RD,FT,(Ga (n:=2) (λx hx=>by obtain⟨l,hl,hx⟩:=List.mem_flatten.mp (List.mem_of_mem_take hx);rw[List.eq_of_mem_replicate hl] at hx;exact FB x hx) (by rw[l61];decide)).mono (by decide),FD,.inr (.inl (XH (by rw[l61];decide)))⟩⟩;have jr:∀x∈[V.ref w1,V.ref w4,V.ref w6,V.ref w12,V.ref w18,V.ref w24,V.ref w26,V.ref w27,V.ref w30],Hx HZ x:=Am q1 (Am q2 (Am q3 (Am q4 (Am q5 (Am q6 (Am q7 (Am q8 (Am q9 ((Qay _))))))))));obtain⟨y,hy,tt,rfl,bad⟩:=Yl jr r20 (show r2 < 9 from r21)
 exact⟨w31,_,_,_,rq,rq,SqL.of z31,hy,q tt HZ bad hbZ SZ⟩
end
abbrev GQ:Stmt:=top 101
abbrev Z1:YF:=["_law_script"]
abbrev xk:YF:=["_law_script","_law_k","_law_bag_here","_law_rows","_law_at","_law_addresses","_law_table","_law_history","_law_due_here","_law_handed","_law_again","_law_told","_law_other"]
theorem DR:Bo xk Z1 (Ai GQ):=by ac_rfl
theorem nU {r i:Int} (r0:0<=r) (r1:r < 12):∃n:Nat,atI [V.int (1+r),.int 60] (if decide (V.int i=V.int 0)=true then 1 else 0)=some (.int n)/\1<=n/\n<=60:=by
 split
 ·exact⟨60,rq,by decide,by decide⟩
 ·exact⟨(1+r).toNat,(by rw[Int.toNat_of_nonneg (by omega)];rfl),by omega,by omega⟩
theorem Qn:∀ms ns:List Int,PyData.eqvAll (ms.map PyData.int) (ns.map PyData.int)=decide (ms=ns)
 | [],[]=>rfl
 | [],_::_=>rfl
 | _::_,[]=>rfl
 | m::r,n::t=>by
  show ((m == n)&&PyData.eqvAll (r.map PyData.int) (t.map PyData.int))=_;rw[Qn r t,QbA];simp
theorem S7 (ms ns:List Int):PyData.eqv (.tuple (ms.map PyData.int)) (.tuple (ns.map PyData.int))=decide (ms=ns):=Qn ms ns
theorem gD (gs:List Int):(gs.map PyData.int).all whP=true:=by rw[QbY];exact Qbo.mpr λ_ _=>rfl
theorem Ux {X:Hp} {tb hl td:Addr} {rows:List Rw} {outs:List (Int×Nat)} {xb:YG} {bs:List Bt} {da:List Int} {Q:VK} (TB:Hq X tb rows outs) (tok:JF rows outs) (hh:X hl=some (.lst xb)) (pb:Paired (BAt X) xb bs) (ok:∀c∈bs,Ma c) (b1:1<=bs.length) (b60:bs.length<=60) (hd:X td=some (.tup (da.map V.int))) (ld:da.length<=40) (q:∀H',Same X H'->Q (.bl (PyData.eqv (.tuple (da.map PyData.int)) (.tuple ((DY rows outs bs).map PyData.int)))) H'):Ky X .non (.ref tb) (.ref hl) (.ref td) Q:=
 ⟨Dv rows outs,.list (bs.map btD),.tuple (da.map PyData.int),Rep.same FW TB.rep,.lst hh (Ak.same FW (JW pb)),.tup hd (Dt da),(tok.sl.fit (by decide)).mono (by decide),(Ku ok b60).mono (by decide),(Jm (n:=1) (by omega)).mono (by decide),.inr ⟨tb,hl,rows,outs,xb,bs,rq,rq,TB,tok,Vq tok,fJ ok ⟨b1,b60⟩,rq,hh,pb,b1,b60,⟨_,rq,gD da⟩,q⟩⟩
theorem aF {X:Hp} {tb hl td p:Addr} {rows:List Rw} {outs:List (Int×Nat)} {xb:YG} {bs:List Bt} {da:List Int} {Q:VK} (TB:Hq X tb rows outs) (tok:JF rows outs) (hh:X hl=some (.lst xb)) (pb:Paired (BAt X) xb bs) (ok:∀c∈bs,Ma c) (b60:bs.length<=60) (hd:X td=some (.tup (da.map V.int))) (ld:da.length<=40) (q:∀H',Same X H'->Q (.bl false) H'):Ky X (.ref p) (.ref tb) (.ref hl) (.ref td) Q:=
 ⟨Dv rows outs,.list (bs.map btD),.tuple (da.map PyData.int),Rep.same FW TB.rep,.lst hh (Ak.same FW (JW pb)),.tup hd (Dt da),(tok.sl.fit (by decide)).mono (by decide),(Ku ok b60).mono (by decide),(Jm (n:=1) (by omega)).mono (by decide),.inl ⟨.inl (λe=>by cases e),q⟩⟩
def jB (a:Addr) (i:Nat) (b lr:Addr) (H:Hp):YN:=λj σ HH=>∃(u4 u5 u6 u7 u8 u9 u10 u11 u12:Option V) (xs:YG) (rows:List Rw),σ=[jp a,some (.int (0+(i:Int))),jp b,jp lr,u4,u5,u6,u7,u8,u9,u10,u11,u12]/\HH lr=some (.lst xs)/\Ak (onl HH) xs (rows.map Rw.data)/\rows.length=j/\OkR rows/\BX HH b (1+12*j)/\Same H HH
section
variable {P:Program} {w:World} {K:YD} {mg:YB} {base:Heap} {C cA mA f4:Addr}
abbrev xw:YF:=["_law_address","_law_bag_here","_law_rows"]
theorem dY {f:Addr} {fd:FuncData} (F:Fun K "law" "law" GQ f fd) (T:Tz K mg w.params C cA mA f4) (PK:Good P w K mg base "_law_bag" 1 JT (ZX K)) (Bk:Good P w K mg base "_law_take" 1 Eo JH) (FZ:Good P w K mg base "_law_rising" 2 Ep Nx) (bC:Good P w K mg base "_law_row" 3 JN W0) (Zv:Good P w K mg base "_law_beat" 3 Ji Uv) (bF:Good P w K mg base "_law_due" 2 JR W4) (Ms:Good P w K mg base "holds" 7 JV Uu) (PJ:Good P w K mg base "_law_other_form" 2 Ej Us):Ed P w K mg base CX0 8 f fd Z1 (QW K):=by
 refine F.ok DR (λvs H Q E h=>?_) (λcdv A outer s H vs Q E hr h=>?_)
 ·obtain⟨a,ns,rfl,_⟩:=h;rfl
 obtain⟨a,ns,rfl,hS,h63,q⟩:=h;refine⟨_,(@Af _ _ _ _ _ (Li PassesOwn.never rfl (GF rfl T.range (Aa (Bc (Qq rfl) rfl T.max Yh (Aa Ac (Aa (Bc (Yg rfl) rfl T.min gB (Aa Ac (Aa (Bc Bw rfl T.len Dk (Aa (pv 0) Ab)) Ab))) Ab))) Ab)) (Ay (i:=1) DR.nd rfl (Or.inl rfl))
 (@Af _ _ _ _ _ (@BZ _ _ 2 _ _ _ _ DR.nd rfl (Or.inr rfl) (Aw PK hr (Aa (pv 0) (Aa (pv 1) Ab))) (by rfl) (by first | exact .inl rfl | exact .inr rfl))
 (@Af _ _ _ _ _ (@BZ _ _ 3 _ _ _ _ DR.nd rfl (Or.inr rfl) (CT Ab) (by rfl) (by first | exact .inl rfl | exact .inr rfl))
 (@Af _ _ _ _ _ (Li PassesOwn.never rfl (GF rfl T.range (Aa (@Ax _ _ _ _ _ _ _ _ CK Ac (Aw Bk hr (Aa (pv 2) (Aa Ac Ab)))) Ab)) (Ay (i:=4) DR.nd rfl (Or.inl rfl))
 (@Aj _ _ _ (OJ (VJ PySem.F.plainAttrs_list PySem.F.slot_list_append PySem.F.type_list_append Js (pv 3) (Aa (Aw bC hr (Aa (pv 2) (Aa (pv 4) Ab))) Ab)))))
 (@Af _ _ _ _ _ (@BZ _ _ 5 _ _ _ _ DR.nd rfl (Or.inl rfl) (Aw FZ hr (Aa (pv 2) (Aa Ac (Aa Ac (Aa Ac Ab))))) (by rfl) (by first | exact .inl rfl | exact .inr rfl))
 (@Af _ _ _ _ _ (@BZ _ _ 6 _ _ _ _ DR.nd rfl (Or.inl rfl) (Aq (Aa (Cm Dq rfl T.tuple Es (Aa (pv 3) Ab)) (Aa (Cm Dq rfl T.tuple Es (Aa (CP (N':=xw) rfl (Ca.of (src:=[none,some 2,some 3]) (Ai GQ) xk rfl rfl rfl (by trivial) (by trivial) (by trivial) rfl (by trivial)) (Eu (pv 5)) (λ_ _ _ _=>(Ay (i:=0) (show List.Nodup (xw:YF) by trivial) rfl (Or.inl rfl))) (λ_ _ _ _=>DX) (λ_ _ _ _=>(Aq (Aa (pv 0) (Aa (Aw Bk hr (Aa (pv 1) (Aa (Bc (KN (K:=K) rfl) rfl T.len Dk (Aa (pv 2) Ab)) Ab))) Ab))))) Ab)) Ab))) (by rfl) (by first | exact .inl rfl | exact .inr rfl))
 (@Af _ _ _ _ _ (Uz (i:=7) DR.nd rfl (Or.inl rfl) (N':=["_law_at","_law_bag_here"]) rfl (Ca.of (src:=[none,some 2]) (Ai GQ) xk rfl rfl rfl (by trivial) (by trivial) (by trivial) rfl (by trivial)) (GF rfl T.range (Aa (@Ao _ _ _ _ _ _ _ Bl (CT (Aa (@Ax _ _ _ _ _ _ _ _ CK Ac (Aw Bk hr (Aa (pv 2) (Aa Ac Ab)))) (Aa Ac Ab))) (Cm Ju rfl T.int LQ (Aa (Cp Dg (Aw Bk hr (Aa (pv 2) (Aa Ac Ab))) Ac (Bg _)) Ab)) (λ_ _=>rfl)) Ab)) (λ_ _ _ _=>(Ay (i:=0) (show List.Nodup (["_law_at","_law_bag_here"]:YF) by trivial) rfl (Or.inl rfl))) (λ_ _ _ _=>DX) (λ_ _ _ _=>(Aw Zv hr (Aa (pv 1) Ab))))
 (@Af _ _ _ _ _ (@BZ _ _ 8 _ _ _ _ DR.nd rfl (Or.inl rfl) (Aw bF hr (Aa (pv 6) (Aa (pv 7) Ab))) (by rfl) (by first | exact .inl rfl | exact .inr rfl))
 (@Af _ _ _ _ _ (@BZ _ _ 9 _ _ _ _ DR.nd rfl (Or.inl rfl) (Cm G8 rfl T.list JX (Aa (pv 7) Ab)) (by rfl) (by first | exact .inl rfl | exact .inr rfl))
 (@Af _ _ _ _ _ (Li PassesOwn.never rfl (GF rfl T.range (Aa Ac Ab)) (Ay (i:=10) DR.nd rfl (Or.inl rfl))
 (@Af _ _ _ _ _ (@BZ _ _ 11 _ _ _ _ DR.nd rfl (Or.inl rfl) (Aw Ms hr (Aa (Aq (Aa Bf (Aa (pv 6) (Aa (pv 9) (Aa (pv 8) Ab))))) (Aa Lk Ab))) (by rfl) (by first | exact .inl rfl | exact .inr rfl))
 (@Aj _ _ _ (Bv (PW.pt (Ip (Dw (Dj (Bc Gx rfl T.isinstance Dr (Aa (pv 11) (Aa (Hj (v:=.ty "bool") rfl T.bool Vc rfl) Ab))))) (Ip (Bm N5 (pv 11) Df (Bg _)) (Lh (Bm (dU hr.units) (pv 9) (pv 7) (Bg _)))))) (@Aj _ _ _ (@Av _ _ _ _ Df)) Bh))))
 (@Af _ _ _ _ _ (Bv (Bm N5 (Aw Ms hr (Aa (Aq (Aa Bf (Aa (pv 6) (Aa (pv 7) (Aa (pv 8) Ab))))) (Aa (Aq Ab) Ab))) Df (Bg _)) (@Aj _ _ _ (@Av _ _ _ _ Df)) Bh)
 (@Af _ _ _ _ _ (@BZ _ _ 12 _ _ _ _ DR.nd rfl (Or.inl rfl) (Cm Dq rfl T.tuple Es (Aa (NZ rfl rfl T.sorted rfl T.set (Aa (@Ax _ _ _ _ _ _ _ _ CZ (pv 8) (Aq (Aa (@Ax _ _ _ _ _ _ _ _ CK Ac (Aw Bk hr (Aa (pv 2) (Aa Ac Ab)))) Ab))) Ab)) Ab)) (by rfl) (by first | exact .inl rfl | exact .inr rfl))
 (@Af _ _ _ _ _ (Bv (Bm (HF hr.units) (pv 12) (pv 8) (Bg _)) (@Aj _ _ _ (@BZ _ _ 12 _ _ _ _ DR.nd rfl (Or.inl rfl) (Dm Iw (pv 8) (Dl Ac) Fe) (by rfl) (by first | exact .inl rfl | exact .inr rfl))) Bh)
 (@Af _ _ _ _ _ (Bv (Bm N5 (Aw Ms hr (Aa (Aq (Aa Bf (Aa (pv 6) (Aa (pv 7) (Aa (pv 12) Ab))))) (Aa Lk Ab))) Df (Bg _)) (@Aj _ _ _ (@Av _ _ _ _ Df)) Bh)
 (@Aj _ _ _ (Bv (Bm N5 (Aw Ms hr (Aa (Aw PJ hr (Aa (pv 2) (Aa (pv 6) (Aa (pv 7) (Aa (pv 8) Ab))))) (Aa Lk Ab))) Df (Bg _)) (@Aj _ _ _ (@Av _ _ _ _ Df)) Bh))))))))))))))))
 (@Aj _ _ _ (@Av _ _ _ _ Df))),?_⟩
 show let R0:TS:=_;let R1:TS:=Az _ R0;let R2:TS:=_;let R3:TS:=Az (CQ _ R2 _) R1;let R4:TS:=Az _ R3;let R5:TS:=Az _ R4;let R6:TS:=_;let R7:TS:=Az _ R6;let R8:TS:=Az (Oo _ _ R7) R5;let R9:TS:=Az _ R8;let R10:TS:=Az _ R9;let R11:TS:=Az _ R10;let R12:TS:=Az _ R11;let R13:TS:=Az _ R12;let R14:TS:=_;let R15:TS:=Az (Oo _ _ R14) R13;let R16:TS:=Az _ R15;let R17:TS:=Az _ R16;Az (Oo _ _ R17) _ _ _ _;intro R0 R1 R2 R3 R4 R5 R6 R7 R8 R9 R10 R11 R12 R13 R14 R15 R16 R17;have hl:(ns.map V.int).length=ns.length:=Qbs _;refine⟨_,rq,a,_,rq,.inl hS,_,_,rq,_,_,rq,_,rq,?_,?_,?_⟩
 ·rw[hl];split <;> split <;> omega
 ·rw[hl];split <;> split <;> omega
 let J0:YN:=λ(i:Nat) (σ : St) (H':Hp)=>Same H H'/\∃(u1 u2 u3 u4 u5 u6 u7 u8 u9 u10 u11 u12:Option V),σ=[jp a,u1,u2,u3,u4,u5,u6,u7,u8,u9,u10,u11,u12];refine Ly J0 ⟨Same.refl H,_,_,_,_,_,_,_,_,_,_,_,_,rq⟩ (λi σ H' hi h=>?_) (fun σ H' h=>?_)
 ·obtain⟨sm,u1,u2,u3,u4,u5,u6,u7,u8,u9,u10,u11,u12,rfl⟩:=h;rw[hl] at hi;have hi':(i:Int)<=100:=by
   revert hi;split <;> split <;> omega
  refine⟨_,rq,_,rq,a,ns,_,rq,sm.seq hS,h63,by omega,by omega,λb o hb0 Zr=>?_⟩;have s1:Same H (upd H' b o):=sm.trans (Ae hb0 o);have fb:H b=none:=sm.free hb0;generalize upd H' b o=H1 at s1 Zr ⊢;refine⟨Ag (by show 0<=1000;decide),λlr hlr=>?_⟩;have sr:=Ae hlr (.lst []);have cr:upd H1 lr (.lst []) lr=some (.lst []):=Ad;have nbr:b≠lr:=Zr.nb hlr;have fr1:H lr=none:=s1.free hlr;have hb1:=Zr.same sr;have s2:=s1.trans sr;generalize upd H1 lr (.lst [])=H2 at *;refine⟨_,rq,b,0,30,rq,hb1,by omega,by decide,by decide,λr H3 r0 r1 hb3 sb3=>⟨_,_,rq,rq,_,rq,by omega,by omega,?_⟩⟩;have s3:=s2.Cr sb3 fb;have cr3:=sb3 _ _ cr nbr.symm;refine Ly (jB a i b lr H) ⟨_,_,_,_,_,_,_,_,_,[],[],rq,cr3,.nil,rq,(λi r e=>by cases e),hb3,s3⟩ (λj σ HH hj h=>?_) (fun σ HH h=>?_)
  ·obtain⟨u4,u5,u6,u7,u8,u9,u10,u11,u12,xs,rows,rfl,e1,e2,e3,e4,e5,e6⟩:=h;have lx:=Ak.len e2;rw[Qbs] at lx;have hj:j < 30:=by omega
   refine Gv ⟨_,rq,.inl ⟨rq,_,SqL.of e1⟩,_,rq,_,rq,b,_,j,by show [V.ref b,V.int (0+(j:Int))]=_;rw[Int.zero_add],e5,by omega,by omega,λt rw' H4 rt ok hb4 sb4=>?_⟩;have e1':=sb4 _ _ e1 nbr.symm;have tu:BK HH (upd H4 lr (.lst (xs++[.ref t]))):=(sb4.tup e5.Cz).trans (BK.upd λxs z=>by rw[e1'] at z;cases z);have tu4:BK H4 (upd H4 lr (.lst (xs++[.ref t]))):=BK.upd λxs z=>by rw[e1'] at z;cases z
   refine⟨lr,_,_,rq,rq,e1',Bq (by omega),?_⟩;refine⟨_,_,_,_,_,_,_,_,_,xs++[.ref t],rows++[rw'],rq,Ad,?_,by rw[QaF,e3];rfl,λi r e=>?_,(hb4.Nz Al.upd nbr).mono (by omega),(e6.Cr sb4 fb).Cr Al.upd fr1⟩
   ·rw[Qbt];exact Ak.snoc (Ak.same (Eb tu) e2) (Rep.same (Eb tu4) rt)
   ·by_cases hi:i < rows.length
    ·rw[List.getElem?_append_left hi] at e;exact e4 i r e
    ·have hi2:=(Qaf.mp e).1;rw[QaF,Qas] at hi2;have:i=rows.length:=by omega
     subst this;rw[Qad (QbZ _),Nat.sub_self] at e;injection e with e;rw[<-e,e3];exact ok
  ·obtain⟨u4,u5,u6,u7,u8,u9,u10,u11,u12,xs,rows,rfl,e1,e2,e3,e4,e5,e6⟩:=h;have lx:=Ak.len e2;rw[Qbs] at lx;have rl1:1<=rows.length:=by omega
   have o8:rows.length<=30:=by omega
   refine⟨_,rq,b,_,16,1,99,rq,by decide,by decide,by decide,e5,by omega,λta gs H5 hta hg upg lg hb5 sb5=>?_⟩;have e1':=sb5 _ _ e1 nbr.symm;have s5:=e6.Cr sb5 fb;have e2:=Ak.same (Eb (sb5.tup e5.Cz)) e2;refine⟨_,rq,lr,_,rq,.inl ⟨SqL.of e1',λtr htr=>?_⟩⟩;have p6:=Ae htr (.tup xs);have c6:upd H5 tr (.tup xs) tr=some (.tup xs):=Ad;have hb6:=hb5.same p6;have s6:=s5.trans p6;have fH:=p6 _ _ hta;have e16:=p6 _ _ e1';have e2:=Ak.same (Eb (BK.of p6)) e2;generalize upd H5 tr (.tup xs)=H6 at *;refine⟨_,rq,ta,rq,⟨_,SqT.of fH⟩,λlo hlo=>?_⟩;have nbo:=hb6.nb hlo;let J1:YN:=λ(k:Nat) (σ : St) (HX:Hp)=>∃(u:Option V) (ys:YG) (outs:List (Int×Nat)),σ=[u,jp b,jp lr]/\HX lo=some (.lst ys)/\Ak (onl HX) ys (outs.map outD)/\outs.map (·.1)=gs.take k/\(∀o∈outs,o.2 < rows.length)/\BX HX b (500+k)/\Al b H6 HX;refine Ec (xs:=gs.map V.int) J1 ⟨none,[],[],rq,Ad,.nil,rq,(λo ho=>by cases ho),(hb6.same (Ae hlo _)).mono (by omega),Al.of (Ae hlo _)⟩ (λk σ HX _ h=>?_) (λk x σ HX hx h=>?_) (fun σ HX h=>?_)
   ·obtain⟨_,_,_,rfl,_,_,_,_,_,sx⟩:=h;exact SqT.of ((sx.tup hb6.Cz) _ _ fH)
   ·obtain⟨u,ys,outs,rfl,g1,g2,g3,g4,g5,g6⟩:=h;rw[QaU] at hx;obtain⟨g,hgk,rfl⟩:=Qan.mp hx;have hk:=(Qaf.mp hgk).1;have lo':=congrArg List.length g3;rw[Qbs,Qbi] at lo';have ly:=Ak.len g2;rw[Qbs] at ly;refine Gv (Bj ⟨_,rq,_,rq,_,rq,lr,_,rq,.inl (SqL.of (g6 _ _ e16 nbr.symm)),b,_,_,rq,g5,by omega,by omega,by omega,λr2 HY r20 r21 hbY sbY=>⟨Ag (by show 2<=1000;decide),λt ht=>?_⟩⟩);obtain⟨rn,rfl⟩:=Qal r20;have pt:=Ae ht (.tup [.int g,.int (rn:Int)]);have gY:=sbY _ _ g1 nbo.symm;have gZ:=pt _ _ gY;have tu:=BK.upd (H:=upd HY t (.tup [.int g,.int (rn:Int)])) (b:=lo) (o:=.lst (ys++[.ref t])) (λxs z=>by rw[gZ] at z;cases z);refine⟨ys,gZ,Bq (by omega),_,ys++[.ref t],outs++[(g,rn)],rq,Ad,?_,?_,λo ho=>?_,((hbY.same pt).Nz Al.upd nbo).mono (by omega),?_⟩
    ·rw[Qbt];exact Ak.snoc (Ak.same (Eb ((sbY.tup g5.Cz).trans ((BK.of pt).trans tu))) g2) (.tup (Dc (tu _ _ Ad)) (.cons (.int _) (.cons (.int _) .nil)))
    ·rw[Qbt,g3,Qcg hgk];rfl
    ·rcases Qbx.mp ho with ho | ho
     ·exact g4 o ho
     ·rw[QaK.mp ho];show rn < rows.length;omega
    ·exact Al.Vu (g6.trans (sbY.trans (Al.of pt))) Al.upd hlo
   ·obtain⟨u,ys,outs,rfl,g1,g2,g3,g4,g5,g6⟩:=h;rw[Qbs,Qbk] at g3;rw[Qbs] at g5;have s7:=s6.Cr g6 fb;refine⟨lo,_,rq,.inl ⟨SqL.of g1,λto hto=>⟨Ag (by show 2<=1000;decide),λtb htb=>?_⟩⟩⟩;have p8:=Ae hto (.tup ys);have c8:upd HX to (.tup ys) to=some (.tup ys):=Ad;have hb8:=g5.same p8;generalize upd HX to (.tup ys)=H8 at *;have p9:=Ae htb (.tup [.ref tr,.ref to]);have c9:upd H8 tb (.tup [.ref tr,.ref to]) tb=some (.tup [.ref tr,.ref to]):=Ad;have hb9:=hb8.same p9;have p89:=p8.trans p9;have tu6:=(g6.tup hb6.Cz).trans (BK.of p89);have TB:Hq (upd H8 tb (.tup [.ref tr,.ref to])) tb rows outs:=⟨tr,to,xs,ys,c9,tu6 _ _ c6,p9 _ _ c8,Ak.same (Eb tu6) e2,Ak.same (Eb (BK.of p89)) g2⟩;have s9:=s7.trans p89;generalize upd H8 tb (.tup [.ref tr,.ref to])=H9 at *;have o9:outs.length=gs.length:=by have:=congrArg List.length g3;rwa [Qbs] at this
    have tok:JF rows outs:=⟨e4,by omega,by omega,λo ho=>by
     have hm:o.1∈gs:=by rw[<-g3];exact QbW.mpr ⟨o,ho,rq⟩
     have:=hg _ hm;exact⟨by omega,by omega,g4 o ho⟩,by rw[g3];exact Nv upg⟩
    refine⟨_,rq,b,_,12,rq,hb9,by omega,by decide,by decide,λr3 HA r30 r31 hbA sbA=>⟨_,_,rq,rq,Ag (by show 2<=1000;decide),λl2 hl2=>?_⟩⟩;have pB:=Ae hl2 (.lst [.int (1+r3),.int 60]);have cB:upd HA l2 (.lst [.int (1+r3),.int 60]) l2=some (.lst [.int (1+r3),.int 60]):=Ad;have nb2:b≠l2:=hbA.nb hl2;have hbB:=hbA.same pB;have sB9:Al b H9 (upd HA l2 (.lst [.int (1+r3),.int 60])):=sbA.trans (Al.of pB);show tCB _ _ _ (upd HA l2 (.lst [.int (1+r3),.int 60])) _;generalize upd HA l2 (.lst [.int (1+r3),.int 60])=HB at *;refine⟨_,rq,b,_,8,rq,hbB,by omega,by decide,by decide,λr4 HC r40 r41 hbC sbC=>?_⟩;obtain⟨n,hn,n1,n60⟩:=nU (i:=r4) r30 r31;refine⟨rq,.inr ⟨_,rq,l2,_,_,_,rq,rq,SqL.of (sbC _ _ cB nb2.symm),hn,_,rq,by omega,by omega,λlh hlh=>?_⟩⟩;rw[QaY];have nbh:=hbC.nb hlh;have sC9:=sB9.trans sbC;let J2:YN:=λ(k:Nat) (σ : St) (HX:Hp)=>∃(u:Option V) (xb:YG) (bs:List Bt),σ=[u,jp b]/\HX lh=some (.lst xb)/\Paired (BAt HX) xb bs/\bs.length=k/\(∀c∈bs,Ma c)/\BX HX b (600+20*k)/\Al b H9 HX;refine Kw (n:=n) J2 ⟨none,[],[],rq,Ad,.nil,rq,(λo ho=>by cases ho),(hbC.same (Ae hlh _)).mono (by omega),sC9.trans (Al.of (Ae hlh _))⟩ (λk σ HX hk h=>?_) (fun σ HX h=>?_)
    ·obtain⟨u,xb,bs,rfl,i1,i2,i3,i4,i5,i6⟩:=h;have lxb:=QbN i2;refine Gv (Bj ⟨_,rq,b,_,rq,i5,by omega,λt ws ks h HY hB w1 w2 w3 k1 k2 k3 h0 h23 hbY sbY=>?_⟩);have iY:=sbY _ _ i1 nbh.symm;have tu:=BK.upd (H:=HY) (b:=lh) (o:=.lst (xb++[.ref t])) (λxs z=>by rw[iY] at z;cases z);refine⟨xb,iY,Bq (by omega),_,xb++[.ref t],bs++[(ws,ks,h)],rq,Ad,?_,by rw[QaF,i3];rfl,λc hc=>?_,(hbY.Nz Al.upd nbh).mono (by omega),?_⟩
     ·exact O4 (pmap (λ_ _ z=>BAt.tups ((sbY.tup i5.Cz).trans tu) z) i2) (.cons ⟨t,rq,hB.tups tu⟩ .nil)
     ·rcases Qbx.mp hc with hc | hc
      ·exact i4 c hc
      ·rw[QaK.mp hc];exact⟨w1,w2,w3,k1,k2,k3,h0,h23⟩
     ·exact Al.Vu (i6.trans sbY) Al.upd (sC9.free hbC.ex hlh)
    ·obtain⟨u,xb,bs,rfl,i1,i2,i3,i4,i5,i6⟩:=h;have sX:=s9.Cr i6 fb;have TBX:=TB.tups (i6.tup hb9.Cz);refine⟨_,rq,_,rq,tb,lh,rows,outs,xb,bs,rq,TBX,tok,i1,i2,by omega,by omega,λtd HD htd sD=>?_⟩;have sD':=sX.trans sD;have iD:=sD _ _ i1;refine⟨_,rq,lh,_,rq,.inl (SqL.of iD),λl2 hl2'=>?_⟩;have pE:=Ae hl2' (.lst xb);have cE:upd HD l2 (.lst xb) l2=some (.lst xb):=Ad;have sE:=sD'.trans pE;have TE:Hq (upd HD l2 (.lst xb)) tb rows outs:=TBX.tups (BK.of (sD.trans pE));have iE:=pE _ _ iD;have bE:=pmap (λ_ _ z=>BAt.tups (BK.of (sD.trans pE)) z) i2;have dE:=pE _ _ htd;have hbE:=i5.same (sD.trans pE);generalize upd HD l2 (.lst xb)=HE at *;have jo:(DY rows outs bs).length<=16:=by unfold DY;exact QbV (bK _ _) (by omega)
     have Zx:=Ku i4 (by omega);refine⟨_,rq,by decide,by decide,?_⟩;let J3:YN:=λ(j:Nat) (σ : St) (HH:Hp)=>∃(u10 u11 u12 u4:Option V),σ=[jp a,some (.int (0+(i:Int))),jp b,jp lr,u4,jp ta,jp tb,jp lh,jp td,jp l2,u10,u11,u12]/\Same HE HH;refine Ly (n:=2) J3 ⟨_,_,_,_,rq,Same.refl _⟩ (λj σ HH _ h=>?_) (fun σ HH h=>?_)
     ·obtain⟨u10,u11,u12,u4,rfl,sH⟩:=h;refine Gv ⟨_,rq,_,rq,_,rq,Ag (by show 4<=1000;decide),λtc htc=>?_⟩;have pc:=Ae htc (.tup [.str "says",.ref tb,.ref l2,.ref td]);have sc:=sH.trans pc;refine⟨tc,.non,rq,.inr ⟨_,_,_,Ad,Ux (TE.tups (BK.of sc)) tok (sc _ _ cE) (pmap (λ_ _ z=>BAt.tups (BK.of sc) z) bE) i4 (by omega) (by omega) (sc _ _ dE) (by omega) λHI sI=>?_⟩⟩;rw[SeqAt.eqv_refl _ (SeqAt.canLay_of_shaped (Kp _))];have sI':=sc.trans sI;refine⟨_,rq,S5 rfl ⟨_,rq,Ii rfl ?_⟩⟩;refine⟨_,rq,rq,_,rq,Ii rfl ?_⟩;have rl:∀{l:Addr},HI l=some (.lst xb)->Rep HI (.ref l) (.list (bs.map btD)):=λe=>.lst e (Ak.same (FW (H:=HI)) (JW (pmap (λ_ _ z=>BAt.tups (BK.of sI') z) bE)));refine⟨_,rq,_,rq,_,_,rl (sI' _ _ cE),rl (sI' _ _ iE),Zx.shaped (by decide),Zx.shaped (by decide),_,rq,Ii (by rw[SeqAt.eqv_refl _ (SeqAt.canLay_of_shaped (Zx.shaped (by decide)))];rfl) ?_⟩;exact⟨_,_,_,_,rq,sI'⟩
     ·obtain⟨u10,u11,u12,u4,rfl,sH⟩:=h;refine⟨_,rq,_,rq,_,rq,Ag (by show 4<=1000;decide),λtc htc=>?_⟩;have pc:=Ae htc (.tup [.str "says",.ref tb,.ref lh,.ref td]);have cc:upd HH tc (.tup [.str "says",.ref tb,.ref lh,.ref td]) tc=some (.tup [.str "says",.ref tb,.ref lh,.ref td]):=Ad;generalize upd HH tc (.tup [.str "says",.ref tb,.ref lh,.ref td])=HI at *;refine⟨Ag (by show 0<=1000;decide),λtp htp=>?_⟩;have pp:=Ae htp (.tup []);have sc:=sH.trans (pc.trans pp);refine⟨tc,.ref tp,rq,.inr ⟨_,_,_,pp _ _ cc,aF (TE.tups (BK.of sc)) tok (sc _ _ iE) (pmap (λ_ _ z=>BAt.tups (BK.of sc) z) bE) i4 (by omega) (sc _ _ dE) (by omega) λHJ sJ=>?_⟩⟩;refine⟨rq,_,rq,Ii rfl ?_⟩;have sJ':=sc.trans sJ;have hbJ:=hbE.same sJ';refine⟨_,rq,_,rq,b,_,99,rq,hbJ,by omega,by decide,by decide,λr5 HK r50 r51 hbK sbK=>⟨_,_,rq,rq,Ag (by show 1<=1000;decide),λt1 ht1=>?_⟩⟩;have p1:=Ae ht1 (.tup [.int (1+r5)]);have dK:=(sbK.tup hbJ.Cz) _ _ (sJ' _ _ dE);refine⟨td,t1,_,_,rq,rq,p1 _ _ dK,Ad,Ag (by rw[Qbs];show (DY rows outs bs).length+1<=1000;omega),λt2 HL ht2 sL=>?_⟩;have ht2:HL t2=some (.tup ((DY rows outs bs++[1+r5]).map V.int)):=by rw[Qbt];exact ht2
      refine⟨t2,DY rows outs bs++[1+r5],rq,.inr (SqT.of ht2),by rw[QaF];show _+1 < 64;omega,λms ls up mem hls=>?_⟩;have p3:=Ae hls (.lst (ms.map V.int));have c3:upd HL ls (.lst (ms.map V.int)) ls=some (.lst (ms.map V.int)):=Ad;generalize upd HL ls (.lst (ms.map V.int))=HM at *;refine⟨ls,_,rq,.inl ⟨SqL.of c3,λt3 ht3=>?_⟩⟩;have p4:=Ae ht3 (.tup (ms.map V.int));have c4:upd HM t3 (.tup (ms.map V.int)) t3=some (.tup (ms.map V.int)):=Ad;have pK:=p1.trans (sL.trans (p3.trans p4));have sEN:Al b HE (upd HM t3 (.tup (ms.map V.int))):=(Al.of sJ').trans (sbK.trans (Al.of pK));have hbN:=hbK.same pK;have dN:=pK _ _ dK;generalize upd HM t3 (.tup (ms.map V.int))=HN at *;have xm:(1+r5)∈ms:=(mem _).mpr (Qap _ (QaK.mpr rfl));have lms:ms.length<=17:=by
       have:=Rv up mem;rw[QaF,Qas] at this;omega
      refine Gv ?_;dsimp only;show Az (CQ _ _ _) _ _ _ _;refine Yw (fun σ' HX=>∃(t4:Addr) (da:List Int),σ'=[jp a,some (.int (0+(i:Int))),jp b,jp lr,u4,jp ta,jp tb,jp lh,jp td,jp l2,u10,u11,jp t4]/\HX t4=some (.tup (da.map V.int))/\da.length<=40/\da≠DY rows outs bs/\Same HN HX) (fun σ' HX hP=>?_) (λhR=>?_)
      ·obtain⟨t4,da,rfl,hda,lda,nda,sX⟩:=hP;have sEX:=sEN.trans (Al.of sX);have hbX:=hbN.same sX;have tuX:=sEX.tup hbE.Cz;refine⟨_,rq,_,rq,_,rq,Ag (by show 4<=1000;decide),λtc htc=>?_⟩;have pc:=Ae htc (.tup [.str "says",.ref tb,.ref lh,.ref t4]);have tuC:=tuX.trans (BK.of pc);have iC:=pc _ _ (sEX _ _ iE nbh.symm);refine⟨tc,.non,rq,.inr ⟨_,_,_,Ad,Ux (TE.tups tuC) tok iC (pmap (λ_ _ z=>BAt.tups tuC z) bE) i4 (by omega) (by omega) (pc _ _ hda) lda λHY sY=>?_⟩⟩;rw[S7,Qbu nda];refine⟨rq,_,rq,Ii rfl ?_⟩;have sXY:=pc.trans sY;have sEY:=sEX.trans (Al.of sXY);have tuY:=sEY.tup hbE.Cz;refine⟨_,rq,_,rq,_,rq,_,rq,b,tb,lh,td,_,rows,outs,xb,bs,DY rows outs bs,rq,hbX.same sXY,by omega,nbh,TE.tups tuY,tok,by omega,sEY _ _ iE nbh.symm,pmap (λ_ _ z=>BAt.tups tuY z) bE,i4,by omega,by omega,tuY _ _ dE,jo,λtt HZ bad hbZ sbZ=>?_⟩;have sEZ:=sEY.trans sbZ;have fin:∀HW,Same HZ HW->Same H HW:=λHW sW=>(sE.Cr sEZ fb).trans sW;rcases bad with⟨x,y,ee⟩|⟨tv,hv,av,dt,dh,da',ee,g1',g2',g3',ff1,ff2,ff3,why⟩
       ·exact⟨tt,.non,rq,.inl ⟨x,y,ee,λHW sW=>⟨rq,_,rq,Ii rfl ⟨fin HW sW,_,_,_,_,_,_,_,_,_,_,_,_,rq⟩⟩⟩⟩
       ·exact⟨tt,.non,rq,.inr ⟨tv,hv,av,ee,dt,dh,da',g1',g2',g3',ff1,ff2,ff3,.inl ⟨.inr why,λHW sW=>⟨rq,_,rq,Ii rfl ⟨fin HW sW,_,_,_,_,_,_,_,_,_,_,_,_,rq⟩⟩⟩⟩⟩
      ·refine⟨_,rq,_,rq,.tuple (ms.map PyData.int),.tuple ((DY rows outs bs).map PyData.int),.tup c4 (Dt _),.tup dN (Dt _),Kp _,Kp _,_,rq,?_⟩;rw[S7];by_cases em:ms=DY rows outs bs
       ·rw[QbF em];refine Bj ⟨_,rq,_,rq,td,_,rq,dN,λt5 H5' h5 s5'=>?_⟩;rw[Wm (α:=Unit),<-List.map_tail] at h5;refine hR _ _ ⟨t5,(DY rows outs bs).tail,rq,h5,by rw[Qbq];omega,λz=>?_,s5'⟩;have lz:=congrArg List.length z;rw[em] at xm;have:=List.length_pos_of_mem xm;rw[Qbq] at lz;omega
       ·rw[Qbu em];exact Bu (hR _ _ ⟨t3,ms,rq,c4,by omega,em,Same.refl _⟩)
 ·obtain⟨sm,_,_,_,_,_,_,_,_,_,_,_,_,rfl⟩:=h;exact q _
end
theorem cj {P:Program} {w:World} {K:YD} {mg:YB} {base:Heap} (g4:Good P w K mg base "says_holds" 6 GZ Rh):∀nm,nm∈one->Good P w K mg base nm 6 GZ (spV nm):=λnm h=>by
 unfold one at h;rw[QaK.mp h];exact g4
structure FnI (K:YD) (x:Str) (st:Stmt):Prop where
 ex:∃(f:Addr) (oc:Value) (od an:Option Addr) (sl:YI) (kV dc pm cd ct:Value),nsIn K mainGlobals x=some (some (.ref f))/\K.lookup f=some ⟨oc,od,.func (fnOf x x (Dd st) (Cv st) (Ai st) .none kV dc pm an cd ct),sl⟩/\codeIn K cd x=true/\keepIn K (.ref f)=true
theorem FnI.of {K:YD} {x:Str} {st:Stmt} {f:Addr} {oc:Value} {od an:Option Addr} {sl:YI} {kV dc pm cd ct:Value} (a:nsIn K mainGlobals x=some (some (.ref f))) (l:K.lookup f=some ⟨oc,od,.func (fnOf x x (Dd st) (Cv st) (Ai st) .none kV dc pm an cd ct),sl⟩) (c:codeIn K cd x=true) (k:keepIn K (.ref f)=true):FnI K x st:=⟨f,oc,od,an,sl,kV,dc,pm,cd,ct,a,l,c,k⟩
theorem FnI.code {K:YD} {mg:YB} {h:Heap} {x:Str} {st:Stmt} {ps:YF} (I:FnI K x st) (X:K.In h) (G:h.Ns mainGlobals mg) (hb:∀(kV doc pm:Value) (an:Option Addr) (cdv ct:Value) (us:YE),us.length=ps.length->bindArgs (fnOf x x (Dd st) (Cv st) (Ai st) .none kV doc pm an cdv ct) ⟨us,[]⟩=pure (ps.zip us)):Code K mg x st ps:=by
 obtain⟨f,oc,od,an,sl,kV,dc,pm,cd,ct,a,l,c,k⟩:=I.ex;exact Code.of X G a l c k hb
structure MtI (K:YD) (C:Addr) (x q:Str) (st:Stmt):Prop where
 ex:∃(f:Addr) (oc:Value) (od an:Option Addr) (sl:YI) (kV dc pm cd ct:Value),findIn K (.ref C) x=some (some (.ref f))/\isFn K (.ref f)=true/\K.lookup f=some ⟨oc,od,.func (fnOf x q (Dd st) (Cv st) (Ai st) .none kV dc pm an cd ct),sl⟩/\codeIn K cd q=true/\keepIn K (.ref f)=true
theorem MtI.of {K:YD} {C:Addr} {x q:Str} {st:Stmt} {f:Addr} {oc:Value} {od an:Option Addr} {sl:YI} {kV dc pm cd ct:Value} (a:findIn K (.ref C) x=some (some (.ref f))) (i:isFn K (.ref f)=true) (l:K.lookup f=some ⟨oc,od,.func (fnOf x q (Dd st) (Cv st) (Ai st) .none kV dc pm an cd ct),sl⟩) (c:codeIn K cd q=true) (k:keepIn K (.ref f)=true):MtI K C x q st:=⟨f,oc,od,an,sl,kV,dc,pm,cd,ct,a,i,l,c,k⟩
theorem MtI.code {K:YD} {C:Addr} {x q:Str} {st:Stmt} {ps:YF} (I:MtI K C x q st) (hb:∀(kV doc pm:Value) (an:Option Addr) (cdv ct:Value) (us:YE),us.length=ps.length->bindArgs (fnOf x q (Dd st) (Cv st) (Ai st) .none kV doc pm an cdv ct) ⟨us,[]⟩=pure (ps.zip us)):Q6 K C x q st ps:=by
 obtain⟨f,oc,od,an,sl,kV,dc,pm,cd,ct,a,i,l,c,k⟩:=I.ex;have F:=Oh (st:=st) l c k;exact⟨f,_,F,⟨a,i,k⟩,F.binds hb⟩
theorem MtI.init {K:YD} {C:Addr} {q:Str} {st:Stmt} {ps:YF} (I:MtI K C "__init__" q st) (mk:makesIn K C=true) (kc:keepIn K (.ref C)=true) (hb:∀(kV doc pm:Value) (an:Option Addr) (cdv ct:Value) (us:YE),us.length=ps.length->bindArgs (fnOf "__init__" q (Dd st) (Cv st) (Ai st) .none kV doc pm an cdv ct) ⟨us,[]⟩=pure (ps.zip us)):∃f fd,Fun K "__init__" q st f fd/\Mk K C f/\Binds K fd ps []:=by
 obtain⟨f,oc,od,an,sl,kV,dc,pm,cd,ct,a,i,l,c,k⟩:=I.ex;have F:=Oh (st:=st) l c k;exact⟨f,_,F,⟨mk,a,i,kc⟩,F.binds hb⟩
def ZC:YF->(YE->Prop)->Prop
 | [],P=>P []
 | _::r,P=>∀a,ZC r λt=>P (a::t)
theorem Vh:∀(ps:YF) {P:YE->Prop},ZC ps P->∀us:YE,us.length=ps.length->P us
 | [],_,h,[],_=>h
 | _::r,_,h,a::t,e=>Vh r (h a) t (Nat.succ.inj e)
theorem fnA {F:Value->Value->Value->Option Addr->Value->Value->FuncData} {ps:YF} (h:∀kV dc pm an cd ct,ZC ps λus=>bindArgs (F kV dc pm an cd ct) ⟨us,[]⟩=pure (ps.zip us)) (kV dc pm:Value) (an:Option Addr) (cd ct:Value) (us:YE) (hu:us.length=ps.length):bindArgs (F kV dc pm an cd ct) ⟨us,[]⟩=pure (ps.zip us):=Vh ps (h kV dc pm an cd ct) us hu
theorem all_mk {l:PySem.W.OpenLaw} {w:World} {K:YD} {h:Heap} {mg:YB} {fa C fl:Addr} (X:K.In h) (G:h.Ns mainGlobals mg) (hfa:mg "law"=some (.ref fa))
  {odl anl:Option Addr} {sll:YI} {ocl kVl dcl pml cdl ctl:Value}
  (aC:nsIn K mainGlobals "Runner"=some (some (.ref C)))
  (m0:MtI K C "__init__" "Runner.__init__" Gb)
  (m1:MtI K C "beat" "Runner.beat" Gq)
  (i0:FnI K "is_whole" Ke)
  (i1:FnI K "is_within" Jz)
  (i2:FnI K "is_row" M6)
  (i3:FnI K "are_wholes" Jg)
  (i4:FnI K "is_rising" JB)
  (i5:FnI K "are_rising_within" Dz)
  (i6:FnI K "is_plain" Kf)
  (i7:FnI K "is_brought" Jf)
  (i8:FnI K "is_history" Je)
  (i9:FnI K "are_warned" GR)
  (i10:FnI K "plain_holds" Ie)
  (i11:FnI K "are_ahead" Ht)
  (i12:FnI K "is_table_row" Hf)
  (i13:FnI K "is_out" M7)
  (i14:FnI K "is_table" Im)
  (i15:FnI K "row_holds" Hs)
  (i16:FnI K "says_holds" GP)
  (i17:FnI K "holds" Ov)
  (i18:FnI K "_law_bag" Ou)
  (i19:FnI K "_law_take" M4)
  (i20:FnI K "_law_rising" Il)
  (i21:FnI K "_law_row" Ot)
  (i22:FnI K "_law_beat" M5)
  (i23:FnI K "_law_now" Mj)
  (i24:FnI K "_law_due" JL)
  (i25:FnI K "_law_other_form" G9)
  (al:nsIn K mainGlobals "law"=some (some (.ref fl))) (ll:K.lookup fl=some ⟨ocl,odl,.func (fnOf "law" "law" (Dd GQ) (Cv GQ) (Ai GQ) .none kVl dcl pml anl cdl ctl),sll⟩) (cl:codeIn K cdl "law"=true) (kl:keepIn K (.ref fl)=true)
  (pg:plainGet K C Str.empty=true) (hd:hasDictIn K C=true) (po:PySem.W.plainOver K C=true) (sa:findIn K (.ref C) "__setattr__"=some (some (.builtin "object.__setattr__"))) (mk:makesIn K C=true) (kc:keepIn K (.ref C)=true)
  (n0:findIn K (.ref C) "table"=some none)
  (n1:findIn K (.ref C) "past"=some none)
  (z0:nsIn K mainGlobals "isinstance"=some none)
  (z1:nsIn K mainGlobals "int"=some none)
  (z2:nsIn K mainGlobals "bool"=some none)
  (z3:nsIn K mainGlobals "tuple"=some none)
  (z4:nsIn K mainGlobals "list"=some none)
  (z5:nsIn K mainGlobals "str"=some none)
  (z6:nsIn K mainGlobals "len"=some none)
  (z7:nsIn K mainGlobals "all"=some none)
  (z8:nsIn K mainGlobals "abs"=some none)
  (z9:nsIn K mainGlobals "max"=some none)
  (z10:nsIn K mainGlobals "min"=some none)
  (z11:nsIn K mainGlobals "range"=some none)
  (z12:nsIn K mainGlobals "sorted"=some none)
  (z13:nsIn K mainGlobals "any"=some none)
  (z14:nsIn K mainGlobals "sum"=some none)
  (z15:nsIn K mainGlobals "enumerate"=some none)
  (z16:nsIn K mainGlobals "zip"=some none)
  (z17:nsIn K mainGlobals "reversed"=some none)
  (z18:nsIn K mainGlobals "dict"=some none)
  (z19:nsIn K mainGlobals "ord"=some none)
  (z20:nsIn K mainGlobals "set"=some none)
  {tkR tkO tkA tkB tk4:Tok} {cA mA fS:Addr} {esC esM:Array DictEntry} {nC nM:Nat}
  (aMR:nsIn K mainGlobals "MOST_ROWS"=some (some (.int 320 tkR)))
  (aMO:nsIn K mainGlobals "MOST_OUTS"=some (some (.int 16 tkO)))
  (aMA:nsIn K mainGlobals "MOST_AHEAD"=some (some (.int 20 tkA)))
  (aMB:nsIn K mainGlobals "MOST_BEATS"=some (some (.int 60 tkB)))
  (aSY:nsIn K mainGlobals "says_holds"=some (some (.ref fS)))
  (yc:nsIn K mainGlobals "CHECKS"=some (some (.ref cA)))
  (ym:nsIn K mainGlobals "MANY_PARTS"=some (some (.ref mA)))
  (ylc:K.lookup cA=some ⟨.type "dict",none,.dict esC nC,#[]⟩)
  (ylm:K.lookup mA=some ⟨.type "dict",none,.dict esM nM,#[]⟩)
  (ykc:KeysLit w.params esC.toList)
  (ykm:KeysLit w.params esM.toList)
  (yoc:(cA == sysModules)=false)
  (yom:(mA == sysModules)=false)
  (ycf:nsIn K cA "says"=some (some (.ref fS)))
  (ymf:nsIn K mA "says"=some (some (.int 3 tk4)))
  : ∃fd:FuncData,(∀(s:Shared) (v:Value),BindsTo s fd ⟨[v],[]⟩ [("_law_script",v)])/\∀base:Heap,K.In base->base.Ns mainGlobals mg->Ed l.prog w K mg base CX0 8 fa fd Z1 (QW K):=by
 have e:=hfa.symm.trans (mg_of X G al);cases e;have TN:Nm mg:=⟨mg_none_of X G z0,mg_none_of X G z1,mg_none_of X G z2,mg_none_of X G z3,mg_none_of X G z4,mg_none_of X G z5,mg_none_of X G z6,mg_none_of X G z7,mg_none_of X G z8,mg_none_of X G z9,mg_none_of X G z10,mg_none_of X G z11,mg_none_of X G z12,mg_none_of X G z13,mg_none_of X G z14,mg_none_of X G z15,mg_none_of X G z16,mg_none_of X G z17,mg_none_of X G z18,mg_none_of X G z19,mg_none_of X G z20⟩;have TC:Tc mg:={ toNm:=TN,MOST_ROWS:=⟨_,mg_of X G aMR,⟨_,rq⟩⟩,MOST_OUTS:=⟨_,mg_of X G aMO,⟨_,rq⟩⟩,MOST_AHEAD:=⟨_,mg_of X G aMA,⟨_,rq⟩⟩ };have TT:Tx K mg C:={ toTc:=TC,cl:=⟨pg,hd,po,sa⟩,mgC:=mg_of X G aC,Pg:=n0,Lq:=n1 };have TY:Ty K mg C:={ toTx:=TT,MOST_BEATS:=⟨_,mg_of X G aMB,⟨_,rq⟩⟩ };have T:Tz K mg w.params C cA mA fS:={ toTy:=TY,CHECKS:=⟨_,mg_of X G yc,rq⟩,MANY_PARTS:=⟨_,mg_of X G ym,rq⟩,dc:=⟨⟨_,_,ylc,ykc⟩,yoc⟩,dm:=⟨⟨_,_,ylm,ykm⟩,yom⟩,cf:=ycf,mf:=⟨_,ymf⟩,gf:=mg_of X G aSY };have Wv:=m0.init (ps:=Ds) mk kc (fnA λ_ _ _ _ _ _ _ _=>rfl);have gJ:=m1.code (ps:=Ey) (fnA λ_ _ _ _ _ _ _ _ _ _=>rfl);have WK:=i0.code (ps:=FQ) X G (fnA λ_ _ _ _ _ _ _=>rfl);have Uk:=i1.code (ps:=CJ) X G (fnA λ_ _ _ _ _ _ _ _ _=>rfl);have ZK:=i2.code (ps:=Dn) X G (fnA λ_ _ _ _ _ _ _ _ _=>rfl);have T3:=i3.code (ps:=Fy) X G (fnA λ_ _ _ _ _ _ _ _=>rfl);have Ul:=i4.code (ps:=Fg) X G (fnA λ_ _ _ _ _ _ _=>rfl);have KQ:=i5.code (ps:=Cu) X G (fnA λ_ _ _ _ _ _ _ _ _ _ _=>rfl);have WM:=i6.code (ps:=G4) X G (fnA λ_ _ _ _ _ _ _=>rfl);have TX:=i7.code (ps:=Fx) X G (fnA λ_ _ _ _ _ _ _=>rfl);have TV:=i8.code (ps:=Fw) X G (fnA λ_ _ _ _ _ _ _=>rfl);have T4:=i9.code (ps:=Fz) X G (fnA λ_ _ _ _ _ _ _ _ _=>rfl);have QT:=i10.code (ps:=Ew) X G (fnA λ_ _ _ _ _ _ _ _ _=>rfl);have Um:=i11.code (ps:=Gj) X G (fnA λ_ _ _ _ _ _ _ _=>rfl);have Qd:=i12.code (ps:=Ek) X G (fnA λ_ _ _ _ _ _ _ _=>rfl);have ZL:=i13.code (ps:=Jj) X G (fnA λ_ _ _ _ _ _ _ _=>rfl);have WL:=i14.code (ps:=G3) X G (fnA λ_ _ _ _ _ _ _=>rfl);have Uj:=i15.code (ps:=Gi) X G (fnA λ_ _ _ _ _ _ _ _ _ _=>rfl);have TQ:=i16.code (ps:=GZ) X G (fnA λ_ _ _ _ _ _ _ _=>rfl);have cI:=i17.code (ps:=JV) X G (fnA λ_ _ _ _ _ _ _ _=>rfl);have cH:=i18.code (ps:=JT) X G (fnA λ_ _ _ _ _ _ _ _=>rfl);have ZG:=i19.code (ps:=Eo) X G (fnA λ_ _ _ _ _ _ _ _=>rfl);have WD:=i20.code (ps:=Ep) X G (fnA λ_ _ _ _ _ _ _ _ _ _=>rfl);have cD:=i21.code (ps:=JN) X G (fnA λ_ _ _ _ _ _ _ _=>rfl);have ZJ:=i22.code (ps:=Ji) X G (fnA λ_ _ _ _ _ _ _=>rfl);have cF:=i23.code (ps:=JQ) X G (fnA λ_ _ _ _ _ _ _ _ _=>rfl);have cG:=i24.code (ps:=JR) X G (fnA λ_ _ _ _ _ _ _ _=>rfl);have Qc:=i25.code (ps:=Ej) X G (fnA λ_ _ _ _ _ _ _ _ _ _=>rfl);have jD:=Oh (st:=GQ) ll cl kl;refine⟨fnOf "law" "law" (Dd GQ) (Cv GQ) (Ai GQ) .none kVl dcl pml anl cdl ctl,λs v=>.of_eq rfl,λbase _ _=>?_⟩;have PK:=Y6 (P:=l.prog) (w:=w) (base:=base) cH TN;have Bk:=Xn (P:=l.prog) (w:=w) (base:=base) ZG TN;have g_w:=RQ (P:=l.prog) (w:=w) (base:=base) WK TN;have g_r:=Xo (P:=l.prog) (w:=w) (base:=base) ZK TN;have PB:=QC (P:=l.prog) (w:=w) (base:=base) Uk TN g_w;have fO:=RW (P:=l.prog) (w:=w) (base:=base) Ul TN;have fM:=Nf (P:=l.prog) (w:=w) (base:=base) KQ TN g_r PB fO;have mz:=Ud (P:=l.prog) (w:=w) (base:=base) WM TC g_r PB;have mK:=RX (P:=l.prog) (w:=w) (base:=base) Um TC PB;have lZ:=RN (P:=l.prog) (w:=w) (base:=base) Qd TC g_r PB fM mK mz;have jg:=Xp (P:=l.prog) (w:=w) (base:=base) ZL TC g_r PB;have jf:=Uc (P:=l.prog) (w:=w) (base:=base) WL TC g_r fO lZ jg;have mJ:=QH (P:=l.prog) (w:=w) (base:=base) T4 TC;have mC:=O8 (P:=l.prog) (w:=w) (base:=base) QT TC;have mq:=RP (P:=l.prog) (w:=w) (base:=base) Uj TC mJ mC;have fQ:=aX (P:=l.prog) (w:=w) (base:=base) Wv TT;have fU:=aY (P:=l.prog) (w:=w) (base:=base) gJ TT mq;have lY:=QG (P:=l.prog) (w:=w) (base:=base) T3 TC g_r g_w;have mG:=QF (P:=l.prog) (w:=w) (base:=base) TX TC g_r PB fM;have mF:=QD (P:=l.prog) (w:=w) (base:=base) TV TY mG;have mj:=aW (P:=l.prog) (w:=w) (base:=base) TQ TY jf mF lY fQ fU;have mH:=Y7 (P:=l.prog) (w:=w) (base:=base) cI T g_r (cj mj);have Wd:=Ub (P:=l.prog) (w:=w) (base:=base) WD TC Bk;have fP:=Y4 (P:=l.prog) (w:=w) (base:=base) cD TC Bk Wd;have ji:=Xq (P:=l.prog) (w:=w) (base:=base) ZJ TC Bk Wd;have jh:=dX (P:=l.prog) (w:=w) (base:=base) cF TC;have jj:=dZ (P:=l.prog) (w:=w) (base:=base) cG TC jh;have mD:=Y5 (P:=l.prog) (w:=w) (base:=base) Qc TC Bk;exact dY jD T PK Bk Wd fP ji jj mH mD
theorem walk {l:PySem.W.OpenLaw} {q:Program} {loose:YF} {XP:(YB)->Heap->Prop} {YP:World->Heap->Prop} {d:DefRec} {K:Params->YD} (hn:l.most=some 63) (hdf:d.params.defaults=[])
  (hY:∀(w:World) (h:Heap),YP w h->(K w.params).In h)
  (F:∀(w:World) (mg:YB) (fa:Addr) (h:Heap),(K w.params).In h->h.Ns mainGlobals mg->mg d.name=some (.ref fa) ->
   ∃fd:FuncData,(∀(s:Shared) (u:Value),BindsTo s fd ⟨[u],[]⟩ [("_law_script",u)])/\∀base:Heap,(K w.params).In base->base.Ns mainGlobals mg->Ed l.prog w (K w.params) mg base CX0 8 fa fd Z1 (QW (K w.params))) :
  PySem.W.WalkO q loose XP YP l.row.toRowW d [] (λf vs=>PySem.call f vs):=
 L2.ak (n:=63) (k:=8) (x:="_law_script") (CX:=λ_=>CX0) (sp:=λw=>QW (K w.params)) hn (by decide) hdf ⟨rq,by decide,by decide⟩ hY F (λ_ _ a ns hl _ hS=>⟨a,ns,rq,hS,hl,λ_=>rfl⟩) λ_ _ _ _ _ z=>z
end K56
/-! names that stay free of quick twins: the head comes through without them, and the compiled text is much smaller -/
namespace PySem.W.Fast
def tw7589090095067972816:=0
def tw16903421004489722827:=0
def tw15659559171130206389:=0
def tw932283929993324470:=0
def tw11036914732602630326:=0
def tw8061878448693066973:=0
def tw2979690340271083139:=0
def tw10562040324219368913:=0
def tw15545208661602205536:=0
def tw11492808518077000376:=0
def tw499395045858476530:=0
def tw5397652072201396613:=0
def tw824347019704558682:=0
def tw5283297294194169149:=0
def tw686427470165127486:=0
def tw13219968336755500752:=0
def tw3784710760426837241:=0
def tw1360051199760919475:=0
def tw14332817991400332081:=0
def tw10927538415988488386:=0
def tw6155276563702362562:=0
def tw11897748752470649540:=0
def tw7876201913047483990:=0
def tw5018910639173360221:=0
def tw14836173068547533573:=0
def tw12040297047793460793:=0
def tw11695797848338323398:=0
def tw17247990448712131703:=0
def tw339702869846453673:=0
def tw5365523623741634204:=0
def tw5278884128397448331:=0
def tw17957212942428704520:=0
def tw1829959583282305975:=0
def tw10039317778044843680:=0
def tw13532196680483047392:=0
def tw3287118469423763260:=0
def tw2029835064687458222:=0
def tw9476491491390856614:=0
def tw5937871234488128700:=0
def tw6668109500123712350:=0
def tw5525030256904247108:=0
def tw11758131082806848713:=0
def tw16041238365029525072:=0
def tw2478870904710277710:=0
def tw7087495629463180721:=0
def tw12877513910807195308:=0
def tw6281268625630417207:=0
def tw7017826375191994723:=0
def tw6197026762982970477:=0
def tw9749840283881206917:=0
def tw736551593679434820:=0
def tw5638133953329939389:=0
def tw10680279958072450883:=0
def tw1744854103390808572:=0
def tw1117314554972153525:=0
def tw17199681894661051886:=0
def tw11067883027962627098:=0
def tw12051353354174103715:=0
def tw2810003553212315192:=0
def tw2766842037606117116:=0
def tw6084158438517077319:=0
def tw4536686504555930794:=0
def tw14660525903297369044:=0
def tw16809556387847209158:=0
def tw3013929811311831711:=0
def tw3344259236837797455:=0
def tw16775464404878516250:=0
def tw11030769649354486576:=0
def tw2028582098952839679:=0
def tw11157504759247423126:=0
def tw15247865815996955552:=0
def tw2855268944825731543:=0
def tw11342137017548823635:=0
def tw10186540909433553191:=0
def tw8439886219312503765:=0
def tw15175289957839448520:=0
def tw987842077976826736:=0
def tw3833724332939333536:=0
def tw2823208793970971387:=0
def tw10585782446259600920:=0
def tw17308969220736828915:=0
def tw7839813541930228978:=0
def tw3204570494830023670:=0
def tw13716984833818704711:=0
def tw2407963091084143839:=0
def tw14684991093899898271:=0
def tw9603770943463283649:=0
def tw8469271330280085926:=0
def tw4591581673710658164:=0
def tw693209893603619626:=0
def tw17982756134268604401:=0
def tw2117368601486959383:=0
def tw11843066734850744920:=0
def tw18317424322983420875:=0
def tw1628175003640595501:=0
def tw16883459469646857910:=0
def tw12675883837634832339:=0
def tw2147344767201358909:=0
def tw13533524061734217971:=0
def tw3390734882088792359:=0
def tw8607459176703060136:=0
def tw10528104373066546186:=0
def tw427982160485024336:=0
def tw4751217130085558973:=0
def tw13150819239049626892:=0
def tw17688826950634935306:=0
def tw16646511333072647735:=0
def tw1470035915498606875:=0
def tw2525048784850112091:=0
def tw2352368133156013093:=0
def tw16454357981259390779:=0
def tw17777638622886747745:=0
def tw1355834880260721413:=0
def tw3683112810386989234:=0
def tw17818875847715398005:=0
def tw16519268926824386460:=0
def tw8295695129927510554:=0
def tw6756433354865652594:=0
def tw11092891381273211973:=0
def tw638282238191828689:=0
def tw17457564919855334216:=0
def tw18215233879537442125:=0
def tw4418554078418952818:=0
def tw6037874129807077490:=0
def tw18239132923336311211:=0
def tw3433028318715821229:=0
def tw16451023359986233179:=0
def tw12175243501451548180:=0
def tw6443243855135604466:=0
def tw16680524183805547725:=0
def tw6156032082628807938:=0
def tw16405015335867205168:=0
def tw14614905853378847557:=0
def tw14428812197438172071:=0
def tw17659820770163221535:=0
def tw9776813006222738202:=0
def tw5395325520772677032:=0
def tw5026491744275531269:=0
def tw17834721736939689447:=0
def tw1253851488733459131:=0
def tw12186644944390709228:=0
def tw15415506209290831993:=0
def tw7026985126099000337:=0
def tw6209177350921569938:=0
def tw6579682829785097328:=0
def tw14630282748808847184:=0
def tw7148252231670418405:=0
def tw17429678529654170825:=0
def tw14454314340189630706:=0
def tw14872865821895456944:=0
def tw4853802492354380788:=0
def tw12612258260053594144:=0
def tw100851338589988448:=0
def tw10325305857702469788:=0
def tw10636132702220078725:=0
def tw9156135518290581119:=0
def tw16020775971343895157:=0
def tw13119690974433425074:=0
def tw9254114084906333966:=0
def tw16891670479147830868:=0
def tw7988460646636282888:=0
def tw11306334298792039405:=0
def tw17897173404090686194:=0
def tw380314015633995076:=0
def tw8370930258003553129:=0
def tw7066957136386073603:=0
def tw12274215160734354467:=0
def tw11573883042781593853:=0
def tw17818095920752118877:=0
def tw4613117447359028778:=0
def tw15213305192797700270:=0
def tw7525042526526269801:=0
def tw16839093110807077551:=0
def tw18185484341584101895:=0
def tw2728934011240572665:=0
def tw16545815228813094078:=0
def tw9870564125707240148:=0
end PySem.W.Fast
open PySem PySem.W PyProof.Rows
set_option maxRecDepth 100000 in
set_option maxHeartbeats 0 in
theorem PySem.Challenge.cw_warnloop_k56_says_claims_holds : PySem.Challenge.rw_warnloop_k56_says_claims.Holds := by
 w_on;o_law;k_head;(case hw=>w_witness2)
 k_fill
 refine K56.walk (l:=PySem.Challenge.rw_warnloop_k56_says_claims) rfl rfl (λw h Y=>PySem.W.kIn_of Y) ?F
 case F=>
  intro w mg fa h KX G hmg
  refine' K56.all_mk KX G hmg ?aC (.of ?am0 ?bm0 ?lm0 ?cm0 ?km0) (.of ?am1 ?bm1 ?lm1 ?cm1 ?km1) (.of ?ai0 ?li0 ?ci0 ?ki0) (.of ?ai1 ?li1 ?ci1 ?ki1) (.of ?ai2 ?li2 ?ci2 ?ki2) (.of ?ai3 ?li3 ?ci3 ?ki3) (.of ?ai4 ?li4 ?ci4 ?ki4) (.of ?ai5 ?li5 ?ci5 ?ki5) (.of ?ai6 ?li6 ?ci6 ?ki6) (.of ?ai7 ?li7 ?ci7 ?ki7) (.of ?ai8 ?li8 ?ci8 ?ki8) (.of ?ai9 ?li9 ?ci9 ?ki9) (.of ?oU ?kO ?nQ ?lN) (.of ?oR ?kJ ?nP ?lM) (.of ?oO ?kI ?nO ?lK) (.of ?oN ?kE ?nJ ?lJ) (.of ?oM ?kj ?nH ?lH) (.of ?oK ?kh ?nG ?lG) (.of ?oJ ?j9 ?nF ?lF) (.of ?oH ?j8 ?nu ?lE) (.of ?oG ?j7 ?nq ?lD) (.of ?oF ?j6 ?nj ?lC) (.of ?oE ?j5 ?ni ?lB) (.of ?oA ?j4 ?mZ ?lA) (.of ?ou ?jZ ?mY ?lu) (.of ?oh ?jY ?mX ?lq) (.of ?nZ ?jX ?mW ?kZ) (.of ?nY ?jW ?mV ?kY) ?al ?ll ?cl ?kl ?pg ?hd ?po ?sa ?mk ?kc ?n0 ?n1 ?z0 ?z1 ?z2 ?z3 ?z4 ?z5 ?z6 ?z7 ?z8 ?z9 ?z10 ?z11 ?z12 ?z13 ?z14 ?z15 ?z16 ?z17 ?z18 ?z19 ?z20 ?aMR ?aMO ?aMA ?aMB ?aSY ?yc ?ym ?ylc ?ylm ?ykc ?ykm ?yoc ?yom ?ycf ?ymf
  (case aC | am0 | bm0 | lm0 | cm0 | km0 | am1 | bm1 | lm1 | cm1 | km1 | ai0 | li0 | ci0 | ki0 | ai1 | li1 | ci1 | ki1 | ai2 | li2 | ci2 | ki2 | ai3 | li3 | ci3 | ki3 | ai4 | li4 | ci4 | ki4 | ai5 | li5 | ci5 | ki5 | ai6 | li6 | ci6 | ki6 | ai7 | li7 | ci7 | ki7 | ai8 | li8 | ci8 | ki8 | ai9 | li9 | ci9 | ki9 | oU | kO | nQ | lN | oR | kJ | nP | lM | oO | kI | nO | lK | oN | kE | nJ | lJ | oM | kj | nH | lH | oK | kh | nG | lG | oJ | j9 | nF | lF | oH | j8 | nu | lE | oG | j7 | nq | lD | oF | j6 | nj | lC | oE | j5 | ni | lB | oA | j4 | mZ | lA | ou | jZ | mY | lu | oh | jY | mX | lq | nZ | jX | mW | kZ | nY | jW | mV | kY=>k_is)
  (case al | ll | cl | kl | pg | hd | po | sa | mk | kc | n0 | n1 | z0 | z1 | z2 | z3 | z4 | z5 | z6 | z7 | z8 | z9 | z10 | z11 | z12 | z13 | z14 | z15 | z16 | z17 | z18 | z19 | z20 | aMR | aMO | aMA | aMB | aSY | yc | ym | ylc | ylm=>k_is)
  (case ykc | ykm=>(dsimp only [KeysLit];exact⟨⟨_,_,rfl,rfl⟩,⟨_,_,rfl,rfl⟩,⟨_,_,rfl,rfl⟩,⟨_,_,rfl,rfl⟩,⟨_,_,rfl,rfl⟩,⟨_,_,rfl,rfl⟩,True.intro⟩))
  (case yoc | yom=>rfl)
  (case ycf | ymf=>k_is)
