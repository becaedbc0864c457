import PyProof.Rows.All
import Wide.All
import OpenK.AllK
import Wide.FinOn
import Lean
import PyProof.EqAt
import PyProof.EqKinds
import PyProof.TupleCall
import PySem.Challenge.RW_warnloop_k54_fewest_claims
set_option linter.all false
set_option Elab.async false
set_option maxRecDepth 100000
set_option maxHeartbeats 4000000
abbrev YA:=PySem.Value→PySem.Shared→Prop
abbrev YH:=Unit→PySem.Shared→Prop
abbrev YB:=PySem.Str→Option PySem.Value
abbrev YC:=List (PySem.Addr×PySem.Obj)
abbrev YD:=PySem.W.Frag
abbrev YI:=Array (Option PySem.Value)
abbrev YE:=List PySem.Value
abbrev YF:=List PySem.Str
abbrev YJ:=List PySem.Expr
theorem rq{α:Sort _}{a:α}:a=a:=rfl
local macro_rules|`(tactic|trivial)=>`(tactic|decide +kernel)
local macro_rules | `(tactic|ac_rfl) => `(tactic|exact ⟨rfl,rfl,rfl,by decide +kernel,rfl,by decide +kernel,by decide +kernel⟩)
open PySem.W (instObj hideAll hideAll_get findIn keepIn emptyDict kitOne kia_one fnOf codeIn nsIn mg_of KeysLit mg_none_of)
abbrev Qaa:=@PyProof.Rows.slot_tupleiter_next
abbrev Qab:=@PyProof.Rows.slot_tuple_getitem
abbrev Qac:=@PyProof.Rows.callWith_type1
abbrev Qad:=@List.getElem?_eq_some_iff
abbrev Qae:=@Array.getElem?_eq_getElem
abbrev Qaf:=@List.drop_eq_getElem_cons
abbrev Qag:=@List.pairwise_iff_getElem
abbrev Qah:=@List.getElem?_eq_getElem
abbrev Qai:=@PySem.wpAny_callSpecial?_slot
abbrev Qaj:=@PySem.Heap.get?_push_of_some
abbrev Qak:=@Option.map_eq_some_iff
abbrev Qal:=@Array.getElem?_toList
abbrev Qam:=@Bool.and_eq_false_iff
abbrev Qan:=@PySem.Heap.get?_update_self
abbrev Qao:=@List.mem_append_right
abbrev Qap:=@List.mem_of_getElem?
abbrev Qaq:=@List.mem_cons_of_mem
abbrev Qar:=@List.getElem?_of_mem
abbrev Qas:=@PySem.Around.under_plainId
abbrev Qat:=@PySem.Heap.get?_push_size
abbrev Qau:=@Array.length_toList
abbrev Qav:=@PySem.Heap.SameBut.update
abbrev Qaw:=@PySem.mem_of_lookup
abbrev Qax:=@List.length_append
abbrev Qay:=@decide_eq_true_iff
abbrev QaA:=@Bool.false_ne_true
abbrev QaB:=@Nat.lt_of_lt_of_le
abbrev QaC:=@List.mem_singleton
abbrev QaD:=@Bool.false_eq_true
abbrev QaE:=@PySem.wpAny_pyIter_tuple
abbrev QaF:=@List.mem_cons_self
abbrev QaG:=@PySem.wpAny_Call_Name_kw
abbrev QaH:=@PySem.wpAny_setField_rec
abbrev QaI:=@Int.emod_lt_of_pos
abbrev QaJ:=@List.size_toArray
abbrev QaK:=@List.getElem?_map
abbrev QaL:=@Nat.lt_succ_of_lt
abbrev QaM:=@PySem.wpAny_setState_of
abbrev QaN:=@PySem.wpAny_pyIter_list
abbrev QaO:=@PySem.wpAny_newObj_type
abbrev QaP:=@PySem.wpAny_truthy_bool
abbrev QaQ:=@Int.toNat_natCast
abbrev QaR:=@bne_self_eq_false
abbrev QaS:=@Bool.and_eq_true
abbrev QaT:=@List.not_mem_nil
abbrev QaU:=@PySem.wpAny_call_entry
abbrev QaV:=@List.length_take
abbrev QaW:=@Nat.lt_succ_self
abbrev QaX:=@List.length_cons
abbrev QaY:=@List.length_drop
abbrev QaZ:=@List.take_length
abbrev Qba:=@List.length_tail
abbrev Qbb:=@PySem.wpAny_askSetting
abbrev Qbc:=@List.length_map
abbrev Qbd:=@decide_eq_false
abbrev Qbe:=@List.map_append
abbrev Qbf:=@Option.some.inj
abbrev Qbh:=@List.mem_append
abbrev Qbi:=@List.nodup_cons
abbrev Qbj:=@Bool.eq_iff_iff
abbrev Qbk:=@List.find?_cons
abbrev Qbl:=@PySem.codeAny_builtin
abbrev Qbm:=@Int.emod_nonneg
abbrev Qbn:=@PySem.PassesOwn.never
abbrev Qbo:=@decide_eq_true
abbrev Qbp:=@PySem.Heap.size_push
abbrev Qbq:=@Bool.and_false
abbrev Qbr:=@Bool.false_and
abbrev Qbs:=@PySem.wpAny_seqItems
abbrev Qbt:=@PySem.isSubtype_type
abbrev Qbu:=@List.mem_cons
abbrev Qbv:=@List.map_cons
abbrev Qbw:=@Bool.true_and
abbrev Qbx:=@PySem.wpAny_holding
abbrev Qby:=@Nat.lt_irrefl
abbrev Qbz:=@PySem.Paired.length
abbrev QbA:=@PySem.Heap.lt_size
abbrev QbB:=@Nat.ne_of_lt
abbrev QbC:=@Nat.le_trans
abbrev QbD:=@Nat.ne_of_gt
abbrev QbE:=@Nat.le_refl
abbrev QbF:=@Nat.zero_le
abbrev QbG:=@PySem.wpAny_field
abbrev QbH:=@PySem.wpAny_bind
abbrev QbI:=@PySem.wpAny_pure
abbrev QbJ:=@PySem.wpAny_mono
abbrev QbK:=@PySem.wpAny_rule
abbrev QbL:=@or_false
abbrev QbM:=@if_false
namespace L2
open PySem PySem.Spec PyProof.Rows
abbrev Key:=Sum Int Str
def Ti:Key->Value->Bool
 | .inl k,v=>Value.isInt k v
 | .inr x,v=>Value.isStrOf x v
def XH (w:World):Key->Int
 | .inl k=>hashInt k
 | .inr x=>hashStr w x
theorem BX:∀{k:Key} {v:Value},Ti k v=true->(∃i t,k=Sum.inl i/\v=Value.int i t)\/(∃x t,k=Sum.inr x/\v=Value.str x t)
 | .inl i,v,h=>by
  obtain⟨t,e⟩:=Value.isInt_shape (k:=i) (v:=v) h;exact .inl ⟨i,t,rq,e⟩
 | .inr x,v,h=>by
  obtain⟨t,e⟩:=Value.isStrOf_shape (x:=x) (v:=v) h;exact .inr ⟨x,t,rq,e⟩
theorem Vj (a b:Int):decide ((Sum.inl a:Key)=Sum.inl b)=(a == b):=by
 by_cases e:a=b
 ·subst e;simp
 ·have h:¬(Sum.inl a:Key)=Sum.inl b:=λq=>e (Sum.inl.inj q);rw[Qbd h];exact (beq_eq_false_iff_ne.mpr e).symm
theorem Vg (a b:Str):decide ((Sum.inr a:Key)=Sum.inr b)=decide (a=b):=by
 by_cases e:a=b
 ·subst e;simp
 ·have h:¬(Sum.inr a:Key)=Sum.inr b:=λq=>e (Sum.inr.inj q);rw[Qbd h,Qbd e]
theorem Vi (a:Int) (b:Str):decide ((Sum.inl a:Key)=Sum.inr b)=false:=Qbd (λq=>nomatch q)
theorem Vh (a:Str) (b:Int):decide ((Sum.inr a:Key)=Sum.inl b)=false:=Qbd (λq=>nomatch q)
def Nh (prog:Program) (w:World):PySem.KeyKind prog w Key where
 is:=Ti
 hash:=XH w
 inj:=λv a b ha hb=>by
  rcases BX ha with⟨i,t,rfl,rfl⟩|⟨x,t,rfl,rfl⟩
  ·rcases BX hb with⟨j,u,rfl,e⟩|⟨y,u,rfl,e⟩
   ·injection e with e1 _;rw[e1]
   ·exact nomatch e
  ·rcases BX hb with⟨j,u,rfl,e⟩|⟨y,u,rfl,e⟩
   ·exact nomatch e
   ·injection e with e1 _;rw[e1]
 byValue:=λk v h=>by
  rcases BX h with⟨i,t,rfl,rfl⟩|⟨x,t,rfl,rfl⟩ <;> rfl
 pyHash:=λhv h=>by
  rcases BX hv with⟨i,t,rfl,rfl⟩|⟨x,t,rfl,rfl⟩
  ·exact wpAny_pyHash_int h
  ·exact wpAny_pyHash_str h
 eqBool:=λhu hv h=>by
  rcases BX hu with⟨i,t,rfl,rfl⟩|⟨x,t,rfl,rfl⟩
  ·rcases BX hv with⟨j,u,rfl,rfl⟩|⟨y,u,rfl,rfl⟩
   ·rw[Vj] at h;exact wpAny_eqBool_int h
   ·rw[Vi] at h;exact SeqAt.EqAt.int_str i t y u _ _ _ _ h
  ·rcases BX hv with⟨j,u,rfl,rfl⟩|⟨y,u,rfl,rfl⟩
   ·rw[Vh] at h;exact SeqAt.EqAt.str_int x t j u _ _ _ _ h
   ·rw[Vg] at h;exact wpAny_eqBool_str h
 «strs»:=λk x t v h=>by
  rcases BX h with⟨i,u,rfl,e⟩|⟨y,u,rfl,e⟩
  ·exact nomatch e
  ·injection e with e1 _;subst e1;cases v <;> rfl
inductive V where
 | non | bl (b:Bool) | int (i:Int) | str (x:Str) | byt (b:Array UInt8) | flt (b:UInt64) | ref (a:Addr) | ty (n:String)
 deriving DecidableEq
def RelV:V->Value->Prop
 | .non,u=>u=Value.none
 | .bl b,u=>u=Value.bool b
 | .int i,u=>∃t,u=Value.int i t
 | .str x,u=>∃t,u=Value.str x t
 | .byt b,u=>∃t,u=Value.bytes b t
 | .flt b,u=>∃t,u=Value.float b t
 | .ref a,u=>u=Value.ref a
 | .ty n,u=>u=Value.type n
abbrev YG:=List V
abbrev Vals:YG->YE->Prop:=Paired RelV
theorem Vals.length {xs:YG} {us:YE} (r:Vals xs us):xs.length=us.length:=Qbz r
theorem Vals.get:∀{xs:YG} {us:YE} {i:Nat} {x:V},Vals xs us->xs[i]?=some x->∃u,us[i]?=some u/\RelV x u
 | _,_,_,_,.nil,e=>by simp at e
 | _,_,0,_,.cons r _,e=>by simp at e;subst e;exact⟨_,rfl,r⟩
 | _,_,i+1,x,.cons _ t,e=>by
  obtain⟨u,h1,h2⟩:=Vals.get (i:=i) (x:=x) t (by simpa using e);exact⟨u,by simpa using h1,h2⟩
theorem Vals.set {x:V} {u:Value} (r:RelV x u):∀{xs:YG} {us:YE} (i:Nat),Vals xs us->Vals (xs.set i x) (us.set i u)
 | _,_,_,.nil=>.nil
 | _,_,0,.cons _ t=>.cons r t
 | _,_,i+1,.cons q t=>.cons q (Vals.set r i t)
theorem Vals.append:∀{xs ys:YG} {us ws:YE},Vals xs us->Vals ys ws->Vals (xs++ys) (us++ws)
 | _,_,_,_,.nil,s=>s
 | _,_,_,_,.cons r t,s=>.cons r (Vals.append t s)
theorem Vals.take:∀{xs:YG} {us:YE} (n:Nat),Vals xs us->Vals (xs.take n) (us.take n)
 | _,_,0,_=>.nil
 | _,_,_+1,.nil=>.nil
 | _,_,n+1,.cons r t=>.cons r (Vals.take n t)
theorem Vals.drop:∀{xs:YG} {us:YE} (n:Nat),Vals xs us->Vals (xs.drop n) (us.drop n)
 | _,_,0,r=>r
 | _,_,_+1,.nil=>.nil
 | _,_,n+1,.cons _ t=>Vals.drop n t
def Ho:Option V->Option Value->Prop
 | some v,some u=>RelV v u
 | none,none=>True
 | _,_=>False
def KV {κ : Type}:List (κ×V)->List (κ×Value)->Prop:=Paired λ(p:κ×V) (q:κ×Value)=>p.1=q.1/\RelV p.2 q.2
def kV:Key->V
 | .inl i=>.int i
 | .inr x=>.str x
inductive HO where
 | lst (xs:YG)
 | tup (xs:YG)
 | dK (kvs:List (Key×V)) | dT (kvs:List (List Key×V))
 | set (S:Int->Bool) (n:Nat)
 | ins (C dx:Addr) (fs:List (Str×V))
 | own (x:Addr)
 | xd (fs:List (Str×V))
 | met (f x:Addr)
 | rng (lo hi:Int)
 | frz (o:Obj) (u:HO)
 | tbl (ps:Array Value)
 | ext (φ : Heap->Prop)
abbrev Hp:=Addr->Option HO
def upd (H:Hp) (a:Addr) (o:HO):Hp:=λb=>if b=a then some o else H b
theorem Ac {H:Hp} {a:Addr} {o:HO}:upd H a o a=some o:=by unfold upd;rw[if_pos rfl]
theorem Aw {H:Hp} {a b:Addr} {o:HO} (h:b≠a):upd H a o b=H b:=by unfold upd;rw[if_neg h]
theorem Bt {H:Hp} {a b:Addr} {o:HO} (h:H a=some o) (h':H b=none):a≠b:=by
 intro e;subst e;rw[h] at h';cases h'
section
variable (P:Program) (w:World)
def Bu (H:Hp) (h:Heap) (a:Addr):HO->Prop
 | .lst xs=>xs.length<=sizeLine/\∃(its:YE) (n:Nat),Vals xs its/\h.get? a=some { cls:=.type "list",data:=.seq its.toArray n }
 | .tup xs=>xs.length<=sizeLine/\∃its:YE,Vals xs its/\IsTup h a its.toArray
 | .dK kvs=>kvs.length<=sizeLine/\(a == sysModules)=false/\∃vs,KV kvs vs/\h.DictOf (Nh P w) a vs
 | .dT kvs=>kvs.length<=sizeLine/\(a == sysModules)=false/\∃xs:List (List Key×Addr×Value),
   Paired (λ(p:List Key×V) (q:List Key×Addr×Value)=>p.1=q.1/\H q.2.1=some (.tup (p.1.map kV))/\RelV p.2 q.2.2) kvs xs /\
   ∃o es ep,h.get? a=some o/\o.ExactDict/\o.data=.dict es ep/\es.toList=xs.map (entryOfKey (tupleKind (Nh P w)))/\(xs.map (·.1)).Nodup
 | .set S n=>h.SetOf (intKind P w) a S n
 | .ins C dx fs=>H dx=some (.own a)/\fs.length<=1000/\dx≠a/\h.get? a=some (instObj C dx) /\
   ∃mA,h.Ns1 dx mA/\(∀f,Ho (fs.lookup f) (mA f))/\PySem.Within mA (fs.map (·.1))
 | .own _=>∃o,h.get? a=some o
 | .xd fs=>∃mA,h.Ns1 a mA/\∀f,Ho (fs.lookup f) (mA f)
 | .rng lo hi=>∃t u v,h.get? a=some { cls:=.type "range",data:=.fields #[.int lo t,.int hi u,.int 1 v] }
 | .frz o u=>h.get? a=some o/\Bu H h a u
 | .tbl ps=>h.get? a=some { cls:=.none,data:=.fields ps }
 | .met f x=>h.get? a=some (PySem.W.methodObj (.ref f) (.ref x))
 | .ext φ=>φ h/\(∃o,h.get? a=some o)/\∀h1 h2:Heap,φ h1->(∀o,h1.get? a=some o->h2.get? a=some o)->φ h2
def HOk (H:Hp) (h:Heap):Prop:=∀a o,H a=some o->Bu P w H h a o
end
section
variable {P:Program} {w:World} {H H':Hp} {h h':Heap} {a:Addr} {o:HO}
theorem Bu.lt (x:Bu P w H h a o):a < h.objs.size:=by
 cases o with
 | lst xs=>obtain⟨_,_,_,_,e⟩:=x;exact QbA e
 | tup xs=>obtain⟨_,_,_,p⟩:=x;exact p.lt
 | dK kvs=>obtain⟨_,_,_,_,o,_,_,e,_⟩:=x;exact QbA e
 | dT kvs=>obtain⟨_,_,_,_,o,_,_,e,_⟩:=x;exact QbA e
 | set S n=>obtain⟨o,_,_,_,e,_⟩:=x;exact QbA e
 | ins C dx fs=>obtain⟨_,_,_,e,_⟩:=x;exact QbA e
 | own y=>obtain⟨_,e⟩:=x;exact QbA e
 | xd fs=>obtain⟨_,⟨_,_,_,e,_⟩,_⟩:=x;exact QbA e
 | rng lo hi=>obtain⟨_,_,_,e⟩:=x;exact QbA e
 | frz ob u=>obtain⟨e,_⟩:=x;exact QbA e
 | tbl ps=>exact QbA (show h.get? a=some _ from x)
 | met f y=>exact QbA (show h.get? a=some _ from x)
 | ext φ=>obtain⟨_,⟨_,e⟩,_⟩:=x;exact QbA e
theorem Paired.OJ {α β : Type} {F G:α->β->Prop}:∀{l₁ : List α} {l₂ : List β},Paired F l₁ l₂->(∀a b,F a b->G a b)->Paired G l₁ l₂
 | _,_,.nil,_=>.nil
 | _,_,.cons r t,f=>.cons (f _ _ r) (Paired.OJ t f)
theorem Bu.stay (x:Bu P w H h a o) (k:∀b u,(b=a\/H b=some (.own a))->h.get? b=some u->h'.get? b=some u)
  (ho:∀b,H b=some (.own a)->H' b=some (.own a)) (ht:∀b xs,H b=some (.tup xs)->H' b=some (.tup xs)):Bu P w H' h' a o:=by
 induction o with
 | lst xs=>obtain⟨z,its,n,r,e⟩:=x;exact⟨z,its,n,r,k _ _ (.inl rfl) e⟩
 | tup xs=>obtain⟨z,its,r,ob,e,c⟩:=x;exact⟨z,its,r,ob,k _ _ (.inl rfl) e,c⟩
 | dK kvs=>obtain⟨z,y,vs,r,ob,es,ep,e,c⟩:=x;exact⟨z,y,vs,r,ob,es,ep,k _ _ (.inl rfl) e,c⟩
 | dT kvs=>
  obtain⟨z,y,xs,r,ob,es,ep,e,c⟩:=x;exact⟨z,y,xs,Paired.OJ r λp q z=>⟨z.1,ht _ _ z.2.1,z.2.2⟩,ob,es,ep,k _ _ (.inl rfl) e,c⟩
 | set S n=>obtain⟨ob,es,ep,t,e,c⟩:=x;exact⟨ob,es,ep,t,k _ _ (.inl rfl) e,c⟩
 | ins C dx fs=>
  obtain⟨d,z,ne,e,mA,⟨od,es,ep,e2,c⟩,r⟩:=x;exact⟨ho _ d,z,ne,k _ _ (.inl rfl) e,mA,⟨od,es,ep,k _ _ (.inr d) e2,c⟩,r⟩
 | own y=>obtain⟨ob,e⟩:=x;exact⟨ob,k _ _ (.inl rfl) e⟩
 | xd fs=>obtain⟨mA,⟨od,es,ep,e,c⟩,r⟩:=x;exact⟨mA,⟨od,es,ep,k _ _ (.inl rfl) e,c⟩,r⟩
 | rng lo hi=>obtain⟨t,u,v,e⟩:=x;exact⟨t,u,v,k _ _ (.inl rfl) e⟩
 | frz ob u ih=>obtain⟨e,q⟩:=x;exact⟨k _ _ (.inl rfl) e,ih q⟩
 | tbl ps=>
  have e:h.get? a=some { cls:=.none,data:=.fields ps }:=x;show h'.get? a=some { cls:=.none,data:=.fields ps };exact k a _ (.inl rfl) e
 | met f y=>
  have e:h.get? a=some (PySem.W.methodObj (.ref f) (.ref y)):=x;show h'.get? a=some (PySem.W.methodObj (.ref f) (.ref y));exact k a _ (.inl rfl) e
 | ext φ=>obtain⟨p,⟨o,e⟩,st⟩:=x;exact⟨st _ _ p λo q=>k _ _ (.inl rfl) q,⟨o,k _ _ (.inl rfl) e⟩,st⟩
theorem HOk.lt (x:HOk P w H h) (e:H a=some o):a < h.objs.size:=(x a o e).lt
theorem HOk.fresh (x:HOk P w H h) (e:h.objs.size<=a):H a=none:=by
 cases q:H a with
 | none=>rfl
 | some u=>exact absurd (QaB (x.lt q) e) (Qby _)
theorem HOk.kept (x:HOk P w H h) (k:∀b u,h.get? b=some u->h'.get? b=some u):HOk P w H h':=λa o e=>
 (x a o e).stay (λb u _ q=>k b u q) (λ_ q=>q) λ_ _ q=>q
theorem HOk.laid (x:HOk P w H h) (k:∀b u,h.get? b=some u->h'.get? b=some u) (hp:h.objs.size<=a) (new:Bu P w (upd H a o) h' a o):HOk P w (upd H a o) h':=λb u e=>by
 have hn:=x.fresh hp;by_cases hb:b=a
 ·subst hb;rw[Ac] at e;cases e;exact new
 ·rw[Aw hb] at e;exact (x b u e).stay (λc v _ q=>k c v q) (λc q=>by rw[Aw (Bt q hn)];exact q) λc xs q=>by rw[Aw (Bt q hn)];exact q
end
def Rd (H:Hp) (a:Addr) (u:HO):Prop:=H a=some u\/∃o,H a=some (.frz o u)
theorem Rd.of {H:Hp} {a:Addr} {u:HO} (h:H a=some u):Rd H a u:=.inl h
theorem Rd.ok {P:Program} {w:World} {H:Hp} {h:Heap} {a:Addr} {u:HO} (r:Rd H a u) (x:HOk P w H h):Bu P w H h a u:=by
 rcases r with r |⟨o,r⟩
 ·exact x a u r
 ·obtain⟨_,q⟩:=x a _ r;exact q
def Mut:Option HO->Prop
 | some (.lst _)=>True
 | some (.dK _)=>True
 | some (.dT _)=>True
 | some (.set _ _)=>True
 | some (.ins _ _ _)=>True
 | some (.ext _)=>True
 | _=>False
section
variable {P:Program} {w:World} {H:Hp} {h h':Heap} {x e:Addr} {o':HO}
theorem HOk.write (ok:HOk P w H h) (mu:Mut (H x)) (he:e=x\/H e=some (.own x)) (k:∀b u,b≠e->h.get? b=some u->h'.get? b=some u) (heo:∃u,h'.get? e=some u)
  (new:Bu P w (upd H x o') h' x o'):HOk P w (upd H x o') h':=λb u q=>by
 have Vd:∀c y,H c=some (.own y)->c≠x:=λc y r z=>by subst z;rw[r] at mu;exact mu
 have RG:∀c xs,H c=some (.tup xs)->c≠x:=λc xs r z=>by subst z;rw[r] at mu;exact mu
 by_cases hb:b=x
 ·subst hb;rw[Ac] at q;cases q;exact new
 ·rw[Aw hb] at q;by_cases hbe:b=e
  ·have q':H b=some (.own x):=by
    rcases he with z | z
    ·exact absurd (hbe.trans z) hb
    ·rw[hbe];exact z
   rw[q] at q';cases q';obtain⟨v,hv⟩:=heo;exact⟨v,by rw[hbe];exact hv⟩
  ·refine (ok b u q).stay (λc v hc r=>k c v ?_ r) (λc r=>by rw[Aw (Vd c b r)];exact r) λc xs r=>by rw[Aw (RG c xs r)];exact r
   rcases hc with rfl | hc
   ·exact hbe
   ·rintro rfl;rcases he with z | z
    ·exact Vd c b hc z
    ·rw[hc] at z;cases z;exact hb rfl
end
structure Un (fs ex:List Addr) (H H':Hp) (h h':Heap):Prop where
 keep:∀b o,h.get? b=some o->H b=none->b∉fs->b∉ex->h'.get? b=some o
 slot:∀b o,h.get? b=some o->H b=none->b∈fs->b∉ex->∃sl,h'.get? b=some { o with slots:=sl }
 free:∀b o,h.get? b=some o->H b=none->b∉ex->H' b=none
 there:∀b o,h.get? b=some o->b∉ex->∃o',h'.get? b=some o'
 tups:∀b xs,H b=some (.tup xs)->H' b=some (.tup xs)
 DX:∀b o u,H b=some (.frz o u)->H' b=some (.frz o u)
 Ei:∀b ps,H b=some (.tbl ps)->∃more,H' b=some (.tbl (ps++more))
section
variable {fs fs' ex ex':List Addr} {H H1 H2:Hp} {h h1 h2 h':Heap} {a x e:Addr} {o:HO}
theorem Un.any (u:Un fs ex H H1 h h1) {b:Addr} {ob:Obj} (q:h.get? b=some ob) (n:H b=none) (hx:b∉ex):∃sl,h1.get? b=some { ob with slots:=sl }:=by
 by_cases hb:b∈fs
 ·exact u.slot b ob q n hb hx
 ·exact⟨ob.slots,u.keep b ob q n hb hx⟩
theorem Un.trans (a:Un fs ex H H1 h h1) (b:Un fs ex H1 H2 h1 h2):Un fs ex H H2 h h2 where
 keep:=λc ob q n hc hx=>b.keep c ob (a.keep c ob q n hc hx) (a.free c ob q n hx) hc hx
 slot:=λc ob q n hc hx=>by
  obtain⟨sl,e1⟩:=a.slot c ob q n hc hx;obtain⟨sl',e2⟩:=b.slot c _ e1 (a.free c ob q n hx) hc hx;exact⟨sl',e2⟩
 free:=λc ob q n hx=>by
  obtain⟨o',e1⟩:=a.there c ob q hx;exact b.free c o' e1 (a.free c ob q n hx) hx
 there:=λc ob q hx=>by
  obtain⟨o',e1⟩:=a.there c ob q hx;exact b.there c o' e1 hx
 tups:=λc xs q=>b.tups c xs (a.tups c xs q)
 DX:=λc ob xs q=>b.DX c ob xs (a.DX c ob xs q)
 Ei:=λc ps q=>by
  obtain⟨m1,e1⟩:=a.Ei c ps q;obtain⟨m2,e2⟩:=b.Ei c _ e1;exact⟨m1++m2,by rw[e2,Array.append_assoc]⟩
theorem Un.kept (k:∀b u,h.get? b=some u->h'.get? b=some u):Un fs ex H H h h':=
 ⟨λb ob q _ _ _=>k b ob q,λb ob q _ _ _=>⟨ob.slots,k b ob q⟩,λ_ _ _ n _=>n,λb ob q _=>⟨ob,k b ob q⟩,λ_ _ q=>q,λ_ _ _ q=>q,λ_ ps q=>⟨#[],by rw[q];simp⟩⟩
theorem Un.refl:Un fs ex H H h h:=Un.kept λ_ _ q=>q
theorem Un.laid (k:∀b u,h.get? b=some u->h'.get? b=some u) (hp:h.objs.size<=a) (hn:H a=none):Un fs ex H (upd H a o) h h' where
 keep:=λb u q _ _ _=>k b u q
 slot:=λb u q _ _ _=>⟨u.slots,k b u q⟩
 free:=λb u q n _=>by rw[Aw (QbB (QaB (QbA q) hp))];exact n
 there:=λb u q _=>⟨u,k b u q⟩
 tups:=λb xs q=>by rw[Aw (Bt q hn)];exact q
 DX:=λb u xs q=>by rw[Aw (Bt q hn)];exact q
 Ei:=λb ps q=>⟨#[],by rw[Aw (Bt q hn),q];simp⟩
theorem Un.write (mu:Mut (H x)) (he:e=x\/H e=some (.own x)) (k:∀b u,b≠e->h.get? b=some u->h'.get? b=some u) (heo:∃u,h'.get? e=some u):Un fs ex H (upd H x o) h h':=by
 have hx:∀b,H b=none->b≠x:=λb n z=>by subst z;rw[n] at mu;exact mu
 have hb:∀b,H b=none->b≠e:=λb n z=>by
  subst z;rcases he with r | r
  ·exact hx b n r
  ·rw[n] at r;cases r
 have hm:∀b u,H b=some u->¬Mut (some u)->b≠x:=λb u q nm z=>by subst z;rw[q] at mu;exact nm mu
 refine⟨λb u q n _ _=>k b u (hb b n) q,λb u q n _ _=>⟨u.slots,k b u (hb b n) q⟩,λb u q n _=>by rw[Aw (hx b n)];exact n,λb u q _=>?_,
  λb xs q=>by rw[Aw (hm b _ q λz=>z)];exact q,λb u xs q=>by rw[Aw (hm b _ q λz=>z)];exact q,λb ps q=>⟨#[],by rw[Aw (hm b _ q λz=>z),q];simp⟩⟩
 by_cases hbe:b=e
 ·subst hbe;exact heo
 ·exact⟨u,k b u hbe q⟩
theorem Un.mono (u:Un fs ex H H1 h h1) (hs:∀b∈fs,b∈fs') (hx:∀b∈ex,b∈ex'):Un fs' ex' H H1 h h1:=
 ⟨λb ob q n hb he=>u.keep b ob q n (λz=>hb (hs b z)) λz=>he (hx b z),λ_ _ q n _ he=>u.any q n λz=>he (hx _ z),λb ob q n he=>u.free b ob q n λz=>he (hx b z),λb ob q he=>u.there b ob q λz=>he (hx b z),u.tups,u.DX,u.Ei⟩
end
def trk (h:Heap) (H:Hp):List Addr:=(List.range h.objs.size).filter λa=>(H a).isSome
def Hh (h:Heap) (H:Hp):Heap:=hideAll h (trk h H)
theorem QX (h:Heap) (H:Hp):(Hh h H).objs.size=h.objs.size:=PySem.W.hideAll_size _ _
theorem Sg {h:Heap} {H:Hp} {b:Addr} {o:Obj} (e:h.get? b=some o) (n:H b=none):(Hh h H).get? b=some o:=
 hideAll_get _ e λhm=>by
  have q:(H b).isSome=true:=(List.mem_filter.mp hm).2;rw[n] at q;simp at q
theorem T8 {h:Heap} {H:Hp} {b:Addr} {o:Obj} (e:(Hh h H).get? b=some o):h.get? b=some o/\H b=none:=by
 have e':h.get? b=some o:=PySem.W.of_hideAll (trk h H) e;refine⟨e',?_⟩;cases q:H b with
 | none=>rfl
 | some x=>
  have hm:b∈trk h H:=List.mem_filter.mpr ⟨List.mem_range.mpr (QbA e'),by simp[q]⟩;have z:(Hh h H).get? b=none:=PySem.W.hideAll_none (trk h H) hm;rw[z] at e;cases e
def Um (g h:Heap) (L:Addr):YC:=(List.range h.objs.size).filterMap λa=>if a=L\/(g.get? a).isSome=true then none else (h.get? a).map λo=>(a,o)
def rest (g h:Heap) (L d:Addr):YC:=(Um g h L).filter λp=>decide (p.1≠d)
structure Mod (K:YD) (mg:YB) (base:Heap):Prop where
 kin:K.In base
 glob:base.Ns mainGlobals mg
 blt:∃mb,base.Ns builtinsNs mb/\∀x:Str,x≠"__name__"->mb x=bootBuiltins x
 nolimit:base.NoLimit
structure Cx where
 prog:Program
 w:World
 K:YD
 mg:YB
 base:Heap
 A:Around
 N:YF
 s₀ : Shared
 H₀ : Hp
 env:Env
 outer:List Env
 stack:List Env
 ex:List Addr
 fn:Str->Bool
 calm:Bool
 pn:YC
 xe:YA
def frs (l:List Env):List Addr:=l.filterMap (·.frame)
abbrev Cx.fs (X:Cx):List Addr:=frs X.outer
def Vis (sc:Scope) (x:Str):Prop:=sc.names.lookup x=some .local\/sc.names.lookup x=some .cell\/sc.names.lookup x=some .free
def Loc (sc:Scope) (x:Str):Prop:=sc.names.lookup x=some .local\/sc.names.lookup x=some .cell
def Look (env:Env) (h:Heap) (m:YB) (x:Str) (u:Value):Prop:=
 (env.kindOf x=some .local/\m x=some u)\/((env.kindOf x=some .cell\/env.kindOf x=some .free)/\∃c,env.cells.lookup x=some c/\h.IsCell c (some u))
structure Cx.Ok (X:Cx):Prop where
 mod:Mod X.K X.mg X.base
 kind:X.env.scope.kind=.function
 glob:X.env.globals=mainGlobals
 blt:X.env.builtins=builtinsNs
 above:X.s₀.heap.objs.size<=X.env.locals
 inj:∀x y c,X.env.cells.lookup x=some c->X.env.cells.lookup y=some c->x=y
 has:∀x,(X.env.kindOf x=some .cell\/X.env.kindOf x=some .free)->∃c,X.env.cells.lookup x=some c
 cab:∀x c,X.fn x=true->X.env.cells.lookup x=some c->X.s₀.heap.objs.size<=c
 hd:X.calm=true->X.A.handled=none
 frames:X.A.frames=some X.stack
 stk:X.stack=X.outer\/(X.stack=X.env::X.outer/\X.env.frame=some X.env.locals)
 exf:∀b∈X.ex,b≠X.env.locals/\∀x c,X.env.cells.lookup x=some c->c≠b
 bs:∀b o,X.base.get? b=some o->X.s₀.heap.get? b=some o/\X.H₀ b=none
 bsz:X.base.objs.size<=X.s₀.heap.objs.size
 JH:∀b o,X.base.get? b=some o->b∉X.ex
 Ka:∀b∈X.ex,b∉X.fs
 Et:X.s₀.heap.FunFrames X.base X.outer
 frf:∀b∈X.fs,X.H₀ b=none
structure Inv (X:Cx) (jb:YC) (σ : List (Option V)) (H:Hp) (s:Shared):Prop where
 ok:X.Ok
 os:s.os=X.s₀.os
 bare:AllBare s.gens
 base:Un X.fs X.ex X.H₀ H X.s₀.heap s.heap
 loc:∃m,s.heap.Ns X.env.locals m/\∀(i:Nat) (x:Str) (v:V),X.N[i]?=some x->σ[i]?=some (some v)->Vis X.env.scope x->∃u,RelV v u/\Look X.env s.heap m x u
 cell:∀x c,X.env.cells.lookup x=some c->∃v,s.heap.IsCell c v
 free:H X.env.locals=none
 DP:∀x c,X.env.cells.lookup x=some c->H c=none
 pin:∀p∈X.pn++jb,s.heap.get? p.1=some p.2/\H p.1=none/\p.1≠X.env.locals/\p.1∉X.fs/\∀v,p.2.data≠.cell v
 hok:HOk X.prog X.w H s.heap
 len:σ.length=X.N.length
section
variable {X:Cx} {jb:YC} {σ : List (Option V)} {H H':Hp} {s:Shared} {h':Heap}
theorem Cx.Ok.Xz (ok:X.Ok) {b:Addr} {o:Obj} (e:X.base.get? b=some o):b∉X.fs:=λhb=>by
 have:=(ok.Et.mem hb).1;rw[e] at this;cases this
theorem Inv.bs (I:Inv X jb σ H s):∀b o,X.base.get? b=some o->s.heap.get? b=some o/\H b=none:=λb o e=>
 ⟨I.base.keep b o (I.ok.bs b o e).1 (I.ok.bs b o e).2 (I.ok.Xz e) (I.ok.JH b o e),I.base.free b o (I.ok.bs b o e).1 (I.ok.bs b o e).2 (I.ok.JH b o e)⟩
theorem Inv.bk (I:Inv X jb σ H s):∀b o,X.base.get? b=some o->s.heap.get? b=some o:=λb o e=>(I.bs b o e).1
theorem Inv.mod (I:Inv X jb σ H s):Mod X.K X.mg X.base:=I.ok.mod
theorem Inv.kIn (I:Inv X jb σ H s):X.K.In s.heap:=I.ok.mod.kin.keeps I.bk
theorem Inv.nolimit (I:Inv X jb σ H s):s.heap.NoLimit:=I.ok.mod.nolimit.keeps I.bk
theorem Inv.fr (I:Inv X jb σ H s):∃m,Fr X.base X.env.locals s.heap m:=
 let ⟨m,hn,_⟩:=I.loc
 ⟨m,hn,I.bk,QbC I.ok.bsz I.ok.above⟩
theorem Inv.lt (I:Inv X jb σ H s):X.env.locals < s.heap.objs.size:=let ⟨_,hn,_⟩:=I.loc;hn.lt
theorem Inv.sz (I:Inv X jb σ H s):X.s₀.heap.objs.size<=s.heap.objs.size:=QbC I.ok.above (Nat.le_of_lt I.lt)
theorem Inv.Xy (I:Inv X jb σ H s) {a:Addr} (h:s.heap.objs.size<=a):a∉X.fs:=λhb=>by
 obtain⟨_,o,ho,_⟩:=I.ok.Et.mem hb;exact absurd (QaB (QbA ho) (QbC I.sz h)) (Qby _)
theorem Inv.cne (I:Inv X jb σ H s):∀x c,X.env.cells.lookup x=some c->c≠X.env.locals:=λx c e z=>by
 obtain⟨v,o,ho,hd⟩:=I.cell x c e;obtain⟨m,⟨o',es,ep,ho',hd',_⟩,_⟩:=I.loc;rw[z,ho'] at ho;cases ho;rw[hd'] at hd;cases hd
theorem Inv.Et (I:Inv X jb σ H s):s.heap.FunFrames X.base X.outer:=by
 have all:∀(l:List Env),(∀b∈frs l,b∈X.fs)->X.s₀.heap.FunFrames X.base l->s.heap.FunFrames X.base l:=by
  intro l
  induction l with
  | nil=>intro _ _;trivial
  | cons env r ih=>
   intro hs hl;obtain⟨hk,⟨L,o,hf,hn,ho,hd⟩,hr⟩:=hl;have hL:L∈X.fs:=hs L (by unfold frs;rw[List.filterMap_cons,hf];exact QaF);obtain⟨sl,e⟩:=I.base.slot L o ho (I.ok.frf L hL) hL λz=>I.ok.Ka L z hL;exact⟨hk,⟨L,_,hf,hn,e,hd⟩,ih (λb hb=>hs b (by unfold frs;rw[List.filterMap_cons,hf];exact Qaq _ hb)) hr⟩
 exact all X.outer (λ_ hb=>hb) I.ok.Et
theorem Inv.stack (I:Inv X jb σ H s):s.heap.FunFrames X.base X.stack:=by
 rcases I.ok.stk with e |⟨e,hf⟩
 ·rw[e];exact I.Et
 ·rw[e];obtain⟨m,hn,_⟩:=I.loc;refine .cons (by rw[I.ok.kind];decide) hf hn ?_ I.Et;exact Heap.get?_none_of_le (QbC I.ok.bsz I.ok.above)
theorem Inv.K7 (I:Inv X jb σ H s):∀b∈frs X.stack,b∈X.env.locals::X.fs:=λb hb=>by
 rcases I.ok.stk with e |⟨e,hf⟩
 ·rw[e] at hb;exact Qaq _ hb
 ·rw[e] at hb;unfold frs at hb;rw[List.filterMap_cons,hf] at hb;exact hb
theorem Inv.Jv (I:Inv X jb σ H s):∀b∈frs X.stack,H b=none:=λb hb=>by
 rcases Qbu.mp (I.K7 b hb) with e | hb
 ·rw[e];exact I.free
 ·obtain⟨_,o,ho,_⟩:=I.ok.Et.mem hb;exact I.base.free b o ho (I.ok.frf b hb) λz=>I.ok.Ka b z hb
theorem Inv.step {g':Array GenState} {t':Nat} {d':Drawn} {ch:List Addr} (I:Inv X jb σ H s)
  (hch:∀b∈ch,(b∈X.ex\/X.s₀.heap.objs.size<=b)/\b≠X.env.locals/\(∀x c,X.env.cells.lookup x=some c->c≠b)/\∀p∈X.pn++jb,p.1≠b)
  (keep:∀b o,b≠X.env.locals->b∉X.fs->b∉ch->s.heap.get? b=some o->H b=none->h'.get? b=some o)
  (slot:∀b o,b≠X.env.locals->b∈X.fs->b∉ch->s.heap.get? b=some o->H b=none->∃sl,h'.get? b=some { o with slots:=sl }) (free:∀b o,b∉ch->s.heap.get? b=some o->H b=none->H' b=none)
  (there:∀b o,b∉ch->s.heap.get? b=some o->∃o',h'.get? b=some o')
  (tups:∀b xs,H b=some (.tup xs)->H' b=some (.tup xs)) (DX:∀b o u,H b=some (.frz o u)->H' b=some (.frz o u)) (Ei:∀b ps,H b=some (.tbl ps)->∃more,H' b=some (.tbl (ps++more)))
  (ns:∀m,s.heap.Ns X.env.locals m->h'.Ns X.env.locals m) (hok:HOk X.prog X.w H' h') (hg:AllBare g') :
  Inv X jb σ H' { s with heap:=h',gens:=g',drawn:=d',toks:=t' }:=by
 have neL:∀b o,X.s₀.heap.get? b=some o->b≠X.env.locals:=λb o e=>QbB (QaB (QbA e) I.ok.above);have neC:∀b o,X.s₀.heap.get? b=some o->b∉X.ex->b∉ch:=λb o e hx hb=>by
  rcases (hch b hb).1 with z | z
  ·exact hx z
  ·exact absurd (QaB (QbA e) z) (Qby _)
 have cellK:∀x c,X.env.cells.lookup x=some c->∀v,s.heap.IsCell c v->h'.IsCell c v:=λx c e v ⟨o,ho,hd⟩=>by
  have nch:c∉ch:=λz=>(hch c z).2.2.1 x c e rfl;by_cases hc:c∈X.fs
  ·obtain⟨sl,q⟩:=slot c o (I.cne x c e) hc nch ho (I.DP x c e);exact⟨_,q,hd⟩
  ·exact⟨o,keep c o (I.cne x c e) hc nch ho (I.DP x c e),hd⟩
 refine⟨I.ok,I.os,hg,⟨λb o e n hb hx=>?_,λb o e n hb hx=>?_,λb o e n hx=>?_,λb o e hx=>?_,λb xs e=>tups b xs (I.base.tups b xs e),λb o xs e=>DX b o xs (I.base.DX b o xs e),λb ps e=>?_⟩,?_,λx c e=>?_,?_,λx c e=>?_,λp hp=>?_,hok,I.len⟩
 ·exact keep b o (neL b o e) hb (neC b o e hx) (I.base.keep b o e n hb hx) (I.base.free b o e n hx)
 ·obtain⟨sl,e1⟩:=I.base.slot b o e n hb hx;obtain⟨sl',e2⟩:=slot b _ (neL b o e) hb (neC b o e hx) e1 (I.base.free b o e n hx);exact⟨sl',e2⟩
 ·obtain⟨o',e1⟩:=I.base.there b o e hx;exact free b o' (neC b o e hx) e1 (I.base.free b o e n hx)
 ·obtain⟨o',e1⟩:=I.base.there b o e hx;exact there b o' (neC b o e hx) e1
 ·obtain⟨m1,e1⟩:=I.base.Ei b ps e;obtain⟨m2,e2⟩:=Ei b _ e1;exact⟨m1++m2,by rw[e2,Array.append_assoc]⟩
 ·obtain⟨m,hn,hl⟩:=I.loc;refine⟨m,ns m hn,λi x v e1 e2 e3=>?_⟩;obtain⟨u,r,l⟩:=hl i x v e1 e2 e3;refine⟨u,r,?_⟩;rcases l with l |⟨k,c,e,z⟩
  ·exact .inl l
  ·exact .inr ⟨k,c,e,cellK x c e _ z⟩
 ·obtain⟨v,z⟩:=I.cell x c e;exact⟨v,cellK x c e v z⟩
 ·obtain⟨m,⟨o,_,_,ho,_⟩,_⟩:=I.loc;exact free _ o (λz=>(hch _ z).2.1 rfl) ho I.free
 ·obtain⟨v,o,ho,hd⟩:=I.cell x c e;exact free c o (λz=>(hch c z).2.2.1 x c e rfl) ho (I.DP x c e)
 ·obtain⟨e,n,ne,nf,d⟩:=I.pin p hp;have nch:p.1∉ch:=λz=>(hch p.1 z).2.2.2 p hp rfl;exact⟨keep p.1 p.2 ne nf nch e n,free p.1 p.2 nch e n,ne,nf,d⟩
theorem Inv.un {t':Nat} (I:Inv X jb σ H s) (u:Un X.fs [] H H' s.heap h') (hok:HOk X.prog X.w H' h'):Inv X jb σ H' { s with heap:=h',toks:=t' }:=by
 obtain⟨m,⟨o,es,ep,ho,r⟩,_⟩:=id I.loc;obtain⟨sl,hL⟩:=u.any ho I.free (by simp);exact I.step (g':=s.gens) (d':=s.drawn) (ch:=[]) (λ_ z=>nomatch z) (λb o _ hb _ e n=>u.keep b o e n hb (by simp)) (λb o _ hb _ e n=>u.slot b o e n hb (by simp)) (λb o _ e n=>u.free b o e n (by simp)) (λb o _ e=>u.there b o e (by simp)) u.tups u.DX u.Ei (λm' hm=>by
  obtain⟨o',es',ep',ho',r'⟩:=hm;rw[ho] at ho';cases ho';exact⟨_,es',ep',hL,r'⟩) hok I.bare
theorem Inv.call {g':Array GenState} {t':Nat} {d':Drawn} {ch:List Addr} (I:Inv X jb σ H s) (u:Un (frs X.stack) ch H H' s.heap h') (hok:HOk X.prog X.w H' h') (hg:AllBare g')
  (hch:∀b∈ch,(b∈X.ex\/X.s₀.heap.objs.size<=b)/\b≠X.env.locals/\(∀x c,X.env.cells.lookup x=some c->c≠b)/\∀p∈X.pn++jb,p.1≠b) :
  Inv X jb σ H' { s with heap:=h',gens:=g',drawn:=d',toks:=t' }:=by
 obtain⟨m,⟨o,es,ep,ho,r⟩,_⟩:=id I.loc;obtain⟨sl,hL⟩:=u.any ho I.free λz=>(hch _ z).2.1 rfl;exact I.step (ch:=ch) hch (λb o hL hb hc e n=>u.keep b o e n (λz=>(Qbu.mp (I.K7 b z)).elim hL hb) hc) (λb o _ _ hc e n=>u.any e n hc) (λb o hc e n=>u.free b o e n hc) (λb o hc e=>u.there b o e hc) u.tups u.DX u.Ei (λm' hm=>by
  obtain⟨o',es',ep',ho',r'⟩:=hm;rw[ho] at ho';cases ho';exact⟨_,es',ep',hL,r'⟩) hok hg
theorem Inv.turned {t':Nat} {it:Addr} (I:Inv X jb σ H s) (k:∀b o,b≠it->s.heap.get? b=some o->h'.get? b=some o) (hn:H it=none) (hL:it≠X.env.locals)
  (h1:it∈X.ex\/X.s₀.heap.objs.size<=it) (h2:∀x c,X.env.cells.lookup x=some c->c≠it) (h3:∀p∈X.pn++jb,p.1≠it):Inv X jb σ H { s with heap:=h',toks:=t' }:=by
 have nit:∀b u,H b=some u->b≠it:=λb u e z=>by rw[z,hn] at e;cases e
 refine I.step (g':=s.gens) (d':=s.drawn) (ch:=[it]) (λb hb=>?_) (λb o _ _ hc e _=>k b o (λz=>hc (by simp[z])) e) (λb o _ _ hc e _=>⟨o.slots,k b o (λz=>hc (by simp[z])) e⟩) (λ_ _ _ _ n=>n)
  (λb o hc e=>⟨o,k b o (λz=>hc (by simp[z])) e⟩) (λ_ _ e=>e) (λ_ _ _ e=>e) (λb ps e=>⟨#[],by rw[e];simp⟩) (λm hm=>?_) (λb u e=>?_) I.bare
 ·have e:b=it:=by simpa using hb
  subst e;exact⟨h1,hL,h2,h3⟩
 ·obtain⟨o,es,ep,ho,r⟩:=hm;exact⟨o,es,ep,k _ o (Ne.symm hL) ho,r⟩
 ·refine (I.hok b u e).stay (λc v hc q=>k c v ?_ q) (λ_ q=>q) λ_ _ q=>q;rcases hc with z | z
  ·rw[z];exact nit b u e
  ·exact nit c _ z
theorem Inv.tok (I:Inv X jb σ H s) (t:Nat):Inv X jb σ H { s with toks:=t }:=I.un (h':=s.heap) (t':=t) Un.refl I.hok
theorem Inv.kept {t':Nat} (I:Inv X jb σ H s) (k:∀b u,s.heap.get? b=some u->h'.get? b=some u):Inv X jb σ H { s with heap:=h',toks:=t' }:=I.un (Un.kept k) (I.hok.kept k)
theorem Inv.laid {a:Addr} {o:HO} {t':Nat} (I:Inv X jb σ H s) (k:∀b u,s.heap.get? b=some u->h'.get? b=some u) (hp:s.heap.objs.size<=a) (new:Bu X.prog X.w (upd H a o) h' a o) :
  Inv X jb σ (upd H a o) { s with heap:=h',toks:=t' }:=I.un (Un.laid k hp (I.hok.fresh hp)) (I.hok.laid k hp new)
theorem Inv.write {x e:Addr} {o:HO} {t':Nat} (I:Inv X jb σ H s) (mu:Mut (H x)) (he:e=x\/H e=some (.own x)) (k:∀b u,b≠e->s.heap.get? b=some u->h'.get? b=some u) (heo:∃u,h'.get? e=some u)
  (new:Bu X.prog X.w (upd H x o) h' x o):Inv X jb σ (upd H x o) { s with heap:=h',toks:=t' }:=I.un (Un.write mu he k heo) (I.hok.write mu he k heo new)
theorem Inv.Ng {Oq:YC} (I:Inv X jb σ H s) (h:∀p∈Oq,s.heap.get? p.1=some p.2/\H p.1=none/\p.1≠X.env.locals/\p.1∉X.fs/\∀v,p.2.data≠.cell v):Inv X Oq σ H s:=
 ⟨I.ok,I.os,I.bare,I.base,I.loc,I.cell,I.free,I.DP,λp hp=>(Qbh.mp hp).elim (λz=>I.pin p (List.mem_append_left _ z)) (h p),I.hok,I.len⟩
theorem LK {N:YF} (hN:N.Nodup) {i j:Nat} {x:Str} (a:N[i]?=some x) (b:N[j]?=some x):i=j:=by
 obtain⟨h1,e1⟩:=Qad.mp a;obtain⟨h2,e2⟩:=Qad.mp b;exact (List.getElem_inj hN).mp (e1.trans e2.symm)
theorem Qk {M:Model} {A:Around} {E:YA} {i:Nat} {x:Str} {v:V} {u:Value} {Q:YH} (I:Inv X jb σ H s) (hN:X.N.Nodup) (hi:X.N[i]?=some x) (hx:Loc X.env.scope x) (r:RelV v u)
  (h:∀s',Inv X jb (σ.set i (some v)) H s'->(∃a,Heap.SameBut a s.heap s'.heap/\(a=X.env.locals\/X.env.cells.lookup x=some a))->Q () s') (hf:X.fn x=true\/X.env.scope.names.lookup x=some .local:=by first | exact .inl rfl | exact .inr rfl | assumption):wpAny M A (storeName X.env x u) Q E s:=by
 obtain⟨m,hn,hl⟩:=id I.loc;have hcls:(X.env.scope.kind == .class || (X.env.scope.kind == .module&&X.env.locals != X.env.globals))=false:=by rw[I.ok.kind];rfl
 have hiσ : i < σ.length:=by rw[I.len];exact (Qad.mp hi).1
 have cne:=I.cne;have tracked:∀{a:Addr} {h':Heap},(∃o,s.heap.get? a=some o/\H a=none)->Heap.SameBut a s.heap h'->HOk X.prog X.w H h':=λ{a h'} ha hs b ob e=>by
  obtain⟨_,_,hfree⟩:=ha;refine (I.hok b ob e).stay (λc w' hc q=>(hs.2 c ?_).trans q) (λ_ q=>q) λ_ _ q=>q;rintro rfl;rcases hc with rfl | hc
  ·rw[hfree] at e;cases e
  ·rw[hfree] at hc;cases hc
 rcases hx with hk | hk
 ·refine wpAny_storeName_local hk hn (λh' hn' hs=>?_) hcls;obtain⟨oL,_,_,hoL,_⟩:=id hn;refine h _ ⟨I.ok,I.os,I.bare,⟨λb o e n hb hx=>?_,λb o e n hb hx=>?_,I.base.free,λb o e hx=>?_,I.base.tups,I.base.DX,I.base.Ei⟩,⟨_,hn',λj y v' e1 e2 e3=>?_⟩,λy c e=>?_,I.free,I.DP,λp hp=>?_,tracked ⟨oL,hoL,I.free⟩ hs,by simpa using I.len⟩ ⟨_,hs,.inl rfl⟩
  ·exact (hs.2 b (QbB (QaB (QbA e) I.ok.above))).trans (I.base.keep b o e n hb hx)
  ·obtain⟨sl,e1⟩:=I.base.slot b o e n hb hx;exact⟨sl,(hs.2 b (QbB (QaB (QbA e) I.ok.above))).trans e1⟩
  ·obtain⟨o',e1⟩:=I.base.there b o e hx;exact⟨o',(hs.2 b (QbB (QaB (QbA e) I.ok.above))).trans e1⟩
  ·by_cases hj:j=i
   ·subst hj;rw[hi] at e1;cases e1;rw[List.getElem?_set_self hiσ] at e2;cases e2;exact⟨u,r,.inl ⟨hk,by simp⟩⟩
   ·rw[List.getElem?_set_ne (Ne.symm hj)] at e2;obtain⟨u',r',q⟩:=hl j y v' e1 e2 e3;refine⟨u',r',?_⟩;rcases q with⟨k,e⟩|⟨k,c,e,z⟩
    ·refine .inl ⟨k,?_⟩;have:y≠x:=λe=>hj (LK hN e1 (e ▸ hi));simp[this,e]
    ·exact .inr ⟨k,c,e,z.sameBut hs (cne y c e)⟩
  ·obtain⟨w',z⟩:=I.cell y c e;exact⟨w',z.sameBut hs (cne y c e)⟩
  ·obtain⟨e,n,ne,nf,d⟩:=I.pin p hp;exact⟨(hs.2 p.1 ne).trans e,n,ne,nf,d⟩
 ·have hfn:X.fn x=true:=by
   rcases hf with z | z
   ·exact z
   ·rw[z] at hk;cases hk
  obtain⟨c,hc⟩:=I.ok.has x (.inl hk);obtain⟨w',z⟩:=I.cell x c hc;refine wpAny_storeName_cell I.ok.kind hk hc z (λh' hc' hs=>?_);obtain⟨oc,hoc,Ym⟩:=id z;refine h { s with heap:=h' } ⟨I.ok,I.os,I.bare,⟨λb o e n hb hx=>?_,λb o e n hb hx=>?_,I.base.free,λb o e hx=>?_,I.base.tups,I.base.DX,I.base.Ei⟩,⟨m,hn.sameBut hs (Ne.symm (cne x c hc)),λj y v' e1 e2 e3=>?_⟩,λy c' e=>?_,I.free,I.DP,λp hp=>?_,tracked ⟨oc,hoc,I.DP x c hc⟩ hs,by simpa using I.len⟩ ⟨c,hs,.inr hc⟩
  ·exact (hs.2 b (QbB (QaB (QbA e) (I.ok.cab x c hfn hc)))).trans (I.base.keep b o e n hb hx)
  ·obtain⟨sl,e1⟩:=I.base.slot b o e n hb hx;exact⟨sl,(hs.2 b (QbB (QaB (QbA e) (I.ok.cab x c hfn hc)))).trans e1⟩
  ·obtain⟨o',e1⟩:=I.base.there b o e hx;exact⟨o',(hs.2 b (QbB (QaB (QbA e) (I.ok.cab x c hfn hc)))).trans e1⟩
  ·by_cases hj:j=i
   ·subst hj;rw[hi] at e1;cases e1;rw[List.getElem?_set_self hiσ] at e2;cases e2;exact⟨u,r,.inr ⟨.inl hk,c,hc,hc'⟩⟩
   ·rw[List.getElem?_set_ne (Ne.symm hj)] at e2;obtain⟨u',r',q⟩:=hl j y v' e1 e2 e3;refine⟨u',r',?_⟩;rcases q with q |⟨k,c',e,z'⟩
    ·exact .inl q
    ·refine .inr ⟨k,c',e,z'.sameBut hs ?_⟩;rintro rfl;exact hj (LK hN e1 (I.ok.inj _ _ _ e hc ▸ hi))
  ·by_cases hcc:c'=c
   ·subst hcc;exact⟨_,hc'⟩
   ·obtain⟨w2,z2⟩:=I.cell y c' e;exact⟨w2,z2.sameBut hs hcc⟩
  ·obtain⟨e,n,ne,nf,d⟩:=I.pin p hp;refine⟨(hs.2 p.1 ?_).trans e,n,ne,nf,d⟩;intro q;rw[q,hoc] at e;have q':oc=p.2:=Qbf e;exact d w' (by rw[<-q'];exact Ym)
theorem K6 {M:Model} {A:Around} {E:YA} {i:Nat} {x:Str} {v:V} {u:Value} {Q:YH} (I:Inv X jb σ H s) (hN:X.N.Nodup) (hi:X.N[i]?=some x) (hx:Loc X.env.scope x) (r:RelV v u)
  (h:∀s',Inv X jb (σ.set i (some v)) H s'->Q () s') (hf:X.fn x=true\/X.env.scope.names.lookup x=some .local:=by first | exact .inl rfl | exact .inr rfl | assumption):wpAny M A (storeName X.env x u) Q E s:=
 Qk I hN hi hx r (λs' I' _=>h s' I') hf
theorem Inv.call' {s':Shared} {ch:List Addr} (I:Inv X jb σ H s) (ho:s'.os=s.os) (u:Un (frs X.stack) ch H H' s.heap s'.heap) (hok:HOk X.prog X.w H' s'.heap) (hg:AllBare s'.gens)
  (hch:∀b∈ch,(b∈X.ex\/X.s₀.heap.objs.size<=b)/\b≠X.env.locals/\(∀x c,X.env.cells.lookup x=some c->c≠b)/\∀p∈X.pn++jb,p.1≠b):Inv X jb σ H' s':=by
 obtain⟨h',g',d',t',o'⟩:=s';have e:o'=s.os:=ho;subst e;exact I.call (g':=g') (t':=t') (d':=d') u hok hg hch
end
abbrev XK:=Value->Option Addr->Hp->Prop
abbrev St:=List (Option V)
abbrev VK:=V->Hp->Prop
abbrev TE:=St->Hp->VK->Prop
abbrev TT:=St->Hp->(Bool->Hp->Prop)->Prop
abbrev TA:=St->Hp->(YG->Hp->Prop)->Prop
structure Ends where
 nx:St->Hp->Prop
 rt:VK
 bk:St->Hp->Prop:=λ_ _=>False
 ct:St->Hp->Prop:=λ_ _=>False
abbrev YO:=St->Hp->Prop
abbrev TS:=Ends->YO
def EP (X:Cx) (jb:YC) (σ : St) (Q:VK) (u:Value) (s':Shared):Prop:=∃v H',Inv X jb σ H' s'/\RelV v u/\Q v H'
def TP (X:Cx) (jb:YC) (σ : St) (Q:Bool->Hp->Prop) (b:Bool) (s':Shared):Prop:=∃H',Inv X jb σ H' s'/\Q b H'
def AP (X:Cx) (jb:YC) (σ : St) (Q:YG->Hp->Prop) (us:YE) (s':Shared):Prop:=∃vs H',Inv X jb σ H' s'/\Vals vs us/\Q vs H'
def SP (X:Cx) (jb:YC) (D:Ends) (f:Flow) (s':Shared):Prop:=
 match f with
 | .next=>∃ σ' H',Inv X jb σ' H' s'/\D.nx σ' H'
 | .brk=>∃ σ' H',Inv X jb σ' H' s'/\D.bk σ' H'
 | .cont=>∃ σ' H',Inv X jb σ' H' s'/\D.ct σ' H'
 | .ret u=>∃v σ' H',Inv X jb σ' H' s'/\RelV v u/\D.rt v H'
def PE (X:Cx) (e:Expr) (t:TE):Prop:=
 ∀(jb:YC) (s:Shared) (σ : St) (H:Hp) (Q:VK),Inv X jb σ H s->t σ H Q->wpAny (model X.prog X.w) X.A (eval e X.env) (EP X jb σ Q) X.xe s
def PT (X:Cx) (e:Expr) (t:TT):Prop:=
 ∀(jb:YC) (s:Shared) (σ : St) (H:Hp) (Q:Bool->Hp->Prop),Inv X jb σ H s->t σ H Q->wpAny (model X.prog X.w) X.A (isTrue e X.env (eval e X.env)) (TP X jb σ Q) X.xe s
def PW (X:Cx) (e:Expr) (t:TT):Prop:=
 ∀(whole:Sem Value) (jb:YC) (s:Shared) (σ : St) (H:Hp) (Q:Bool->Hp->Prop),Inv X jb σ H s->t σ H Q->wpAny (model X.prog X.w) X.A (isTrue e X.env whole) (TP X jb σ Q) X.xe s
theorem PW.pt {X:Cx} {e:Expr} {t:TT} (h:PW X e t):PT X e t:=h _
def PA (X:Cx) (es:YJ) (t:TA):Prop:=
 ∀(pos:Pos) (jb:YC) (s:Shared) (σ : St) (H:Hp) (Q:YG->Hp->Prop),Inv X jb σ H s->t σ H Q->wpAny (model X.prog X.w) X.A (spliced (backTo pos (starEach es X.env))) (AP X jb σ Q) X.xe s
def PS (X:Cx) (st:Stmt) (t:TS):Prop:=
 ∀(jb:YC) (s:Shared) (σ : St) (H:Hp) (D:Ends),Inv X jb σ H s->t D σ H->wpAny (model X.prog X.w) X.A (exec st X.env) (SP X jb D) X.xe s
def PSs (X:Cx) (st:List Stmt) (t:TS):Prop:=
 ∀(jb:YC) (s:Shared) (σ : St) (H:Hp) (D:Ends),Inv X jb σ H s->t D σ H->wpAny (model X.prog X.w) X.A (execs st X.env) (SP X jb D) X.xe s
theorem thn {α : Type} {t:Sem α} {Q Q':α->Shared->Prop} {M:Model} {A:Around} {E:YA} {s:Shared} (h:wpAny M A t Q E s) (hQ:∀a s,Q a s->Q' a s):wpAny M A t Q' E s:=QbJ h hQ λ_ _ x=>x
section
variable {X:Cx}
theorem bin {a b:Expr} {ta tb:TE} (ha:PE X a ta) (hb:PE X b tb) {jb:YC} {s:Shared} {σ : St} {H:Hp} {R:V->V->Hp->Prop} (I:Inv X jb σ H s) (h:ta σ H λx H1=>tb σ H1 λy H2=>R x y H2)
  {α : Type} {Q:α->Shared->Prop} {f:Value->Value->Sem α}
  (hf:∀v u s2 x y H2,Inv X jb σ H2 s2->RelV x v->RelV y u->R x y H2->wpAny (model X.prog X.w) X.A (f v u) Q X.xe s2) :
  wpAny (model X.prog X.w) X.A (eval a X.env) (λv s₁=>wpAny (model X.prog X.w) X.A (eval b X.env) (λu s₂=>wpAny (model X.prog X.w) X.A (f v u) Q X.xe s₂) X.xe s₁) X.xe s:=by
 refine thn (ha jb s σ H _ I h) λv s1 zz=>?_;obtain⟨x,H1,I1,r1,q1⟩:=zz;refine thn (hb jb s1 σ H1 _ I1 q1) λu s2 zz=>?_;obtain⟨y,H2,I2,r2,q2⟩:=zz;exact hf v u s2 x y H2 I2 r1 r2 q2
def Uw (i:Nat):TE:=fun σ H Q=>∃v,σ[i]?=some (some v)/\Q v H
def tC (v:V):TE:=λ_ H Q=>Q v H
theorem Qx {i:Nat} {x:Str} {pos:Pos} (hN:X.N[i]?=some x) (hv:Vis X.env.scope x) (hd:(x == ("__debug__":Str))=false:=by decide) (hcd:(x == ("__classdict__":Str))=false:=by decide):PE X (.Name x pos) (Uw i):=by
 intro jb s σ H Q I h;obtain⟨v,e,h⟩:=h;obtain⟨m,hn,hl⟩:=I.loc;obtain⟨u,r,l⟩:=hl i x v hN e hv;have fin:EP X jb σ Q u s:=⟨v,H,I,r,h⟩;rcases l with⟨hk,hm⟩|⟨hk,c,hc,hcell⟩
 ·exact wpAny_Name (wpAny_loadName_local I.ok.kind hk hn hm fin) hd
 ·rcases hk with hk | hk
  ·exact wpAny_Name (wpAny_loadName_cell I.ok.kind hk hc hcell fin) hd
  ·exact wpAny_Name (wpAny_loadName_free I.ok.kind hk hc hcell fin hcd) hd
theorem Ae {i j pos}:PE X (.Constant (.int i) j pos) (tC (.int i)):=λ_ _ _ H _ I h=>wpAny_Constant_int ⟨.int i,H,I.tok _,⟨_,rfl⟩,h⟩
theorem Cr {b j pos}:PE X (.Constant (.bool b) j pos) (tC (.bl b)):=λ_ _ _ H _ I h=>Constant_bool ⟨.bl b,H,I,rfl,h⟩
theorem Lq {j pos}:PE X (.Constant .none j pos) (tC .non):=λ_ _ _ H _ I h=>Constant_none ⟨.non,H,I,rfl,h⟩
theorem Cw {x j pos}:PE X (.Constant (.str x) j pos) (tC (.str x)):=λ_ _ _ H _ I h=>Calls.Constant_str ⟨.str x,H,I.tok _,⟨_,rfl⟩,h⟩
def Gl (X:Cx) (x:Str):Prop:=X.env.kindOf x=some .globalImplicit
theorem Ni {E:YA} {jb:YC} {s:Shared} {σ : St} {H:Hp} {x:Str} {u:Value} {pos:Pos} {Q:YA} (I:Inv X jb σ H s) (hg:Gl X x) (hm:X.mg x=some u) (h:Q u s)
  (hd:(x == ("__debug__":Str))=false:=by decide):wpAny (model X.prog X.w) X.A (eval (.Name x pos) X.env) Q E s:=
 Calls.Name_function_global I.ok.kind hg (Calls.loadGlobal_global (by rw[I.ok.glob];exact I.mod.glob.keeps I.bk) hm h) hd
theorem Fi {E:YA} {jb:YC} {s:Shared} {σ : St} {H:Hp} {x:Str} {u:Value} {pos:Pos} {Q:YA} (I:Inv X jb σ H s) (hg:Gl X x) (hm:X.mg x=none) (hv:bootBuiltins x=some u) (h:Q u s)
  (hn:x≠"__name__":=by decide) (hd:(x == ("__debug__":Str))=false:=by decide):wpAny (model X.prog X.w) X.A (eval (.Name x pos) X.env) Q E s:=by
 obtain⟨mb,h1,h2⟩:=I.mod.blt;exact Calls.Name_function_global I.ok.kind hg (Calls.loadGlobal_builtin (by rw[I.ok.glob];exact I.mod.glob.keeps I.bk) hm (by rw[I.ok.blt];exact h1.keeps I.bk) ((h2 x hn).trans hv) h) hd
theorem T3 {x:Str} {v:V} {u:Value} {pos:Pos} (hg:Gl X x) (hm:X.mg x=some u) (r:RelV v u) (hd:(x == ("__debug__":Str))=false:=by decide):PE X (.Name x pos) (tC v):=
 λ_ _ _ H _ I h=>Ni I hg hm ⟨v,H,I,r,h⟩ hd
theorem GJ {x:Str} {v:V} {u:Value} {pos:Pos} (hg:Gl X x) (hm:X.mg x=none) (hv:bootBuiltins x=some u) (r:RelV v u) (hn:x≠"__name__":=by decide) (hd:(x == ("__debug__":Str))=false:=by decide):PE X (.Name x pos) (tC v):=
 λ_ _ _ H _ I h=>Fi I hg hm hv ⟨v,H,I,r,h⟩ hn hd
variable {a b:Expr} {ta tb:TE} {pos:Pos}
def PC (X:Cx) (op:CmpOp) (a b:Expr) (t:TE):Prop:=
 ∀(jb:YC) (s:Shared) (σ : St) (H:Hp) (Q:VK),Inv X jb σ H s->t σ H Q ->
  wpAny (model X.prog X.w) X.A (eval a X.env) (λv s₁=>wpAny (model X.prog X.w) X.A (eval b X.env) (λu s₂=>wpAny (model X.prog X.w) X.A (compareOp op v u) (EP X jb σ Q) X.xe s₂) X.xe s₁) X.xe s
theorem RJ (b:Expr) {op:CmpOp} (h:op≠.In) (h2:op≠.NotIn):behindInMarks op b=false:=by
 have e1:(op == CmpOp.In)=false:=by cases op <;> first | rfl | exact absurd rfl h
 have e2:(op == CmpOp.NotIn)=false:=by cases op <;> first | rfl | exact absurd rfl h2
 cases b <;> simp[behindInMarks,e1,e2]
def tB (t:TE):TT:=fun σ H Q=>t σ H λx H1=>∃c,x=.bl c/\Q c H1
theorem aA {op:CmpOp} {t:TE} (h:PC X op a b t) (h1:behindInMarks op b=false:=by first | exact RJ _ (by decide) (by decide) | rfl):PT X (.Compare a [op] [b] pos) (tB t):=by
 intro jb s σ H Q I hw;refine wpAny_isTrue_Compare1 (thn (h jb s σ H _ I hw) λv s1 h1=>thn h1 λu s2 h2=>thn h2 λc s3 zz=>?_) h1;obtain⟨x,H1,I1,r1,q1⟩:=zz;obtain⟨d,rfl,q⟩:=q1;cases r1;exact QaP ⟨H1,I1,q⟩
theorem Df {e:Expr} {t:TE} (h:PE X e t) (he:∀whole,isTrue e X.env whole=(do let v <-whole;standAt e.pos;holding [v] (truthy v)):=by intro _;rfl):PT X e (tB t):=by
 intro jb s σ H Q I hw;refine isTrue_plain (thn (h jb s σ H _ I hw) λv s1 zz=>?_) (he _);obtain⟨x,H1,I1,r1,q1⟩:=zz;obtain⟨d,rfl,q⟩:=q1;cases r1;exact QaP ⟨H1,I1,q⟩
variable {tA tB':TT} {rest:YJ}
def tOr (t u:TT):TT:=fun σ H Q=>t σ H λc H1=>if c=true then Q true H1 else u σ H1 Q
def WT (t:TT):TT:=fun σ H Q=>t σ H λc H1=>Q (!c) H1
theorem FP (ha:PT X a tA):PW X (.BoolOp .Or [a] pos) tA:=by
 intro wh jb s σ H Q I h;refine isTrue_or (thn (ha jb s σ H Q I h) λc s1 e=>?_);cases c with
 | false=>exact isTrue_or_nil e
 | true=>exact e
theorem Fb (ha:PT X a tA) (hb:PW X (.BoolOp .Or (b::rest) pos) tB'):PW X (.BoolOp .Or (a::b::rest) pos) (tOr tA tB'):=by
 intro wh jb s σ H Q I h;refine isTrue_or (thn (ha jb s σ H _ I h) λc s1 zz=>?_);obtain⟨H1,I1,q1⟩:=zz;cases c with
 | true=>exact⟨H1,I1,q1⟩
 | false=>exact hb wh jb s1 σ H1 Q I1 q1
theorem Dq (ha:PT X a tA):PT X (.UnaryOp .Not a pos) (WT tA):=by
 intro jb s σ H Q I h;exact isTrue_not (ha jb s σ H (λc H1=>Q (!c) H1) I h)
def Wi (ta tb:TE):TE:=fun σ H Q=>ta σ H λx H1=>∃c,x=.bl c/\if c=true then tb σ H1 Q else Q (.bl false) H1
def Wf (ta:TE):TE:=fun σ H Q=>ta σ H λx H1=>∃c,x=.bl c/\Q (.bl (!c)) H1
theorem GD {op} {t:TE} (h:PE X a t):PE X (.BoolOp op [a] pos) t:=λjb s σ H Q I hw=>BoolOp_one (h jb s σ H Q I hw)
theorem GK (ha:PE X a ta) (hb:PE X (.BoolOp .And (b::rest) pos) tb):PE X (.BoolOp .And (a::b::rest) pos) (Wi ta tb):=by
 intro jb s σ H Q I h;refine BoolOp_and (thn (ha jb s σ H _ I h) λv s1 zz=>?_);obtain⟨x,H1,I1,r1,q1⟩:=zz;obtain⟨c,rfl,q1⟩:=q1;cases r1;refine QaP ?_;cases c with
 | true=>exact hb jb s1 σ H1 Q I1 q1
 | false=>exact⟨.bl false,H1,I1,rfl,q1⟩
theorem U8 (ha:PE X a ta):PE X (.UnaryOp .Not a pos) (Wf ta):=by
 intro jb s σ H Q I h;refine UnaryOp_ (thn (ha jb s σ H _ I h) λv s1 zz=>?_);obtain⟨x,H1,I1,r1,q1⟩:=zz;obtain⟨c,rfl,q1⟩:=q1;cases r1;exact not_of (QaP ⟨.bl (!c),H1,I1,rq,q1⟩)
end
def SqL (K:YD) (H:Hp) (a:Addr) (xs:YG):Prop:=
 Rd H a (.lst xs) \/
  ∃(o:Obj) (its:Array Value) (n:Nat),K.lookup a=some o/\o.cls=.type "list"/\o.dict=none/\o.data=.seq its n/\its.size<=sizeLine/\Vals xs its.toList
def SqT (K:YD) (H:Hp) (a:Addr) (xs:YG):Prop:=
 Rd H a (.tup xs) \/
  ∃(o:Obj) (its:Array Value) (n:Nat),K.lookup a=some o/\o.cls=.type "tuple"/\o.data=.seq its n/\its.size<=sizeLine/\Vals xs its.toList
def ak:Value->Option V
 | .none=>some .non
 | .bool b=>some (.bl b)
 | .int i _=>some (.int i)
 | .str x _=>some (.str x)
 | .bytes b _=>some (.byt b)
 | .float b _=>some (.flt b)
 | .ref a=>some (.ref a)
 | .type n=>some (.ty n)
 | _=>none
theorem RelV.abs {x:V} {u:Value} (r:RelV x u):ak u=some x:=by
 cases x with
 | non=>cases r;rfl
 | bl _=>cases r;rfl
 | int _=>obtain⟨t,rfl⟩:=r;rfl
 | str _=>obtain⟨t,rfl⟩:=r;rfl
 | byt _=>obtain⟨t,rfl⟩:=r;rfl
 | flt _=>obtain⟨t,rfl⟩:=r;rfl
 | ref _=>cases r;rfl
 | ty _=>cases r;rfl
theorem RelV.inj {x y:V} {u:Value} (r:RelV x u) (q:RelV y u):x=y:=Qbf (r.abs.symm.trans q.abs)
theorem Vals.inj:∀{xs ys:YG} {us:YE},Vals xs us->Vals ys us->xs=ys
 | _,_,_,.nil,.nil=>rfl
 | _,_,_,.cons r t,.cons r' t'=>by rw[r.inj r',Vals.inj t t']
section
variable {X:Cx} {jb:YC} {σ : St} {H:Hp} {s:Shared} {a:Addr} {xs ys:YG}
theorem SqL.of {K:YD} (h:H a=some (.lst xs)):SqL K H a xs:=.inl (.inl h)
theorem SqT.of {K:YD} (h:H a=some (.tup xs)):SqT K H a xs:=.inl (.inl h)
theorem Inv.list (I:Inv X jb σ H s) (h:SqL X.K H a xs):∃its:YE,Vals xs its/\PlainL s.heap a its.toArray/\xs.length<=sizeLine:=by
 rcases h with h |⟨o,its,n,hk,hc,hd,hs,hz,r⟩
 ·obtain⟨z,its,n,r,e⟩:=h.ok I.hok;exact⟨its,r,⟨_,n,e,rq,rq,rq⟩,z⟩
 ·refine⟨its.toList,r,⟨o,n,I.kIn a o hk,hc,hd,by simpa using hs⟩,?_⟩;have e:=r.length;simp only[Qau] at e;omega
theorem Inv.tuple (I:Inv X jb σ H s) (h:SqT X.K H a xs):∃its:YE,Vals xs its/\IsTup s.heap a its.toArray/\xs.length<=sizeLine:=by
 rcases h with h |⟨o,its,n,hk,hc,hs,hz,r⟩
 ·obtain⟨z,its,r,p⟩:=h.ok I.hok;exact⟨its,r,p,z⟩
 ·refine⟨its.toList,r,⟨o,I.kIn a o hk,hc,n,by simpa using hs⟩,?_⟩;have e:=r.length;simp only[Qau] at e;omega
theorem Inv.RP (I:Inv X jb σ H s) (h:SqL X.K H a xs) (h':SqL X.K H a ys):xs=ys:=by
 obtain⟨its,r,⟨o,n,e,_,_,d⟩,_⟩:=I.list h;obtain⟨its',r',⟨o',n',e',_,_,d'⟩,_⟩:=I.list h';rw[e] at e';cases e';rw[d] at d';injection d' with d1 _;have:its=its':=by simpa using congrArg Array.toList d1
 subst this;exact r.inj r'
theorem Inv.Qj (I:Inv X jb σ H s) (h:SqT X.K H a xs) (h':SqT X.K H a ys):xs=ys:=by
 obtain⟨its,r,⟨o,e,_,n,d⟩,_⟩:=I.tuple h;obtain⟨its',r',⟨o',e',_,n',d'⟩,_⟩:=I.tuple h';rw[e] at e';cases e';rw[d] at d';injection d' with d1 _;have:its=its':=by simpa using congrArg Array.toList d1
 subst this;exact r.inj r'
end
abbrev Cx.wish (X:Cx) (E:YA):Cx:={ X with xe:=E }
abbrev Cx.nox (X:Cx):Cx:=X.wish λ_ _=>False
theorem Cx.Ok.wish {X:Cx} (ok:X.Ok) (E:YA):(X.wish E).Ok:=
 ⟨ok.mod,ok.kind,ok.glob,ok.blt,ok.above,ok.inj,ok.has,ok.cab,ok.hd,ok.frames,ok.stk,ok.exf,ok.bs,ok.bsz,ok.JH,ok.Ka,ok.Et,ok.frf⟩
theorem Cx.Ok.Dn {X:Cx} {E:YA} (ok:(X.wish E).Ok):X.Ok:=
 ⟨ok.mod,ok.kind,ok.glob,ok.blt,ok.above,ok.inj,ok.has,ok.cab,ok.hd,ok.frames,ok.stk,ok.exf,ok.bs,ok.bsz,ok.JH,ok.Ka,ok.Et,ok.frf⟩
section
variable {X:Cx} {jb:YC} {σ : St} {H:Hp} {s:Shared} {E:YA}
theorem Inv.wish (I:Inv X jb σ H s) (E:YA):Inv (X.wish E) jb σ H s:=⟨I.ok.wish E,I.os,I.bare,I.base,I.loc,I.cell,I.free,I.DP,I.pin,I.hok,I.len⟩
theorem Inv.Dn (I:Inv (X.wish E) jb σ H s):Inv X jb σ H s:=⟨I.ok.Dn,I.os,I.bare,I.base,I.loc,I.cell,I.free,I.DP,I.pin,I.hok,I.len⟩
theorem SP.Dn {D:Ends} {f:Flow} {s':Shared} (h:SP (X.wish E) jb D f s'):SP X jb D f s':=by
 cases f with
 | next=>obtain⟨σ',H',I,q⟩:=h;exact⟨σ',H',I.Dn,q⟩
 | brk=>obtain⟨σ',H',I,q⟩:=h;exact⟨σ',H',I.Dn,q⟩
 | cont=>obtain⟨σ',H',I,q⟩:=h;exact⟨σ',H',I.Dn,q⟩
 | ret u=>obtain⟨v,σ',H',I,r,q⟩:=h;exact⟨v,σ',H',I.Dn,r,q⟩
theorem PE.nox {e:Expr} {t:TE} (h:PE X.nox e t):PE X e t:=λjb s σ H Q I hw=>
 QbJ (h jb s σ H Q (I.wish _) hw) (λ_ _ ⟨v,H',I',r,q⟩=>⟨v,H',I'.Dn,r,q⟩) λ_ _ z=>False.elim z
theorem PT.nox {e:Expr} {t:TT} (h:PT X.nox e t):PT X e t:=λjb s σ H Q I hw=>
 QbJ (h jb s σ H Q (I.wish _) hw) (λ_ _ ⟨H',I',q⟩=>⟨H',I'.Dn,q⟩) λ_ _ z=>False.elim z
theorem PSs.nox {st:List Stmt} {t:TS} (h:PSs X.nox st t):PSs X st t:=λjb s σ H D I hw=>
 QbJ (h jb s σ H D (I.wish _) hw) (λ_ _ q=>q.Dn) λ_ _ z=>False.elim z
end
section
variable {X:Cx} {st:Stmt} {rest:List Stmt} {t u:TS} {e:Expr} {te:TE} {pos:Pos}
def Wg:TS:=λD σ H=>D.nx σ H
def Ao (t u:TS):TS:=λD σ H=>t { D with nx:=u D } σ H
theorem Bl:PSs X [] Wg:=λ_ _ σ H _ I h=>wpAny_execs_nil ⟨σ,H,I,h⟩
theorem Ag (h1:PS X st t) (h2:PSs X rest u):PSs X (st::rest) (Ao t u):=by
 intro jb s σ H D I h;refine wpAny_execs_cons (thn (h1 jb s σ H { D with nx:=u D } I h) λf s1 q=>?_);cases f with
 | next=>
  obtain⟨σ',H',I',q⟩:=q;exact h2 jb s1 σ' H' D I' q
 | ret v=>exact q
 | brk=>exact q
 | cont=>exact q
theorem Al (h1:PS X st t):PSs X [st] t:=by
 intro jb s σ H D I h;refine wpAny_execs_cons (thn (h1 jb s σ H D I h) λf s1 q=>?_);cases f with
 | next=>exact wpAny_execs_nil q
 | ret v=>exact q
 | brk=>exact q
 | cont=>exact q
theorem Inv.quiet {jb:YC} {σ : St} {H:Hp} {s:Shared} (I:Inv X jb σ H s):interactive X.env=false:=by simp[interactive,I.ok.kind]
def Wh (te:TE):TS:=λD σ H=>te σ H λ_ H1=>D.nx σ H1
theorem JC (he:PE X e te) (hs:swapsWith e none pos.line X.env=pure false:=by rfl):PS X (.Expr e pos) (Wh te):=by
 intro jb s σ H D I h;refine wpAny_Expr_any (thn (he jb s σ H _ I h) λv s1 zz=>?_) I.quiet hs;obtain⟨x,H1,I1,r1,q1⟩:=zz;exact⟨σ,H1,I1,q1⟩
def WR (te:TE):TS:=λD σ H=>te σ H D.rt
theorem Av (he:PE X e te):PS X (.Return (some e) pos) (WR te):=by
 intro jb s σ H D I h;refine wpAny_Return_some (thn (he jb s σ H _ I h) λv s1 zz=>?_);obtain⟨x,H1,I1,r1,q1⟩:=zz;exact⟨x,σ,H1,I1,r1,q1⟩
def Hu (c:TT) (t u:TS):TS:=λD σ H=>c σ H λb H1=>if b=true then t D σ H1 else u D σ H1
theorem BW {c:Expr} {a b:List Stmt} {tc:TT} (hc:PT X c tc) (ha:PSs X a t) (hb:PSs X b u):PS X (.If c a b pos) (Hu tc t u):=by
 intro jb s σ H D I h;refine wpAny_If (thn (hc jb s σ H _ I h) λd s1 zz=>?_);obtain⟨H1,I1,q1⟩:=zz;cases d with
 | true=>exact ha jb s1 σ H1 D I1 q1
 | false=>exact hb jb s1 σ H1 D I1 q1
end
abbrev TG:=V->St->Hp->(YO)->Prop
abbrev TGs:=YG->St->Hp->(YO)->Prop
def PG (X:Cx) (target:Expr) (t:TG):Prop:=
 ∀(jb:YC) (s:Shared) (σ : St) (H:Hp) (v:V) (u:Value) (Q:YO),Inv X jb σ H s->RelV v u->t v σ H Q ->
  wpAny (model X.prog X.w) X.A (assign target X.env u) (λ_ s'=>∃ σ' H',Inv X jb σ' H' s'/\Q σ' H') X.xe s
def PGs (X:Cx) (ts:YJ) (t:TGs):Prop:=
 ∀(jb:YC) (s:Shared) (σ : St) (H:Hp) (vs:YG) (us:YE) (Q:YO),Inv X jb σ H s->Vals vs us->t vs σ H Q ->
  wpAny (model X.prog X.w) X.A (assignInOrder ((assignEach ts X.env).map (·.2)) us) (λ_ s'=>∃ σ' H',Inv X jb σ' H' s'/\Q σ' H') X.xe s
abbrev SQ:=V->V->V->Hp->(Hp->Prop)->Prop
def V6 (X:Cx) (t:SQ):Prop:=
 ∀(jb:YC) (s:Shared) (σ : St) (H:Hp) (o i v:V) (ov iv u:Value) (Q:Hp->Prop),Inv X jb σ H s->RelV o ov->RelV i iv->RelV v u->t o i v H Q ->
  wpAny (model X.prog X.w) X.A (setItem ov iv u) (λ_ s'=>∃H',Inv X jb σ H' s'/\Q H') X.xe s
section
variable {X:Cx} {pos:Pos}
def Pq (i:Nat):TG:=λv σ H Q=>Q (σ.set i (some v)) H
theorem Ax {i:Nat} {x:Str} (hN:X.N.Nodup) (hi:X.N[i]?=some x) (hx:Loc X.env.scope x) (hf:X.fn x=true\/X.env.scope.names.lookup x=some .local:=by first | exact .inl rfl | exact .inr rfl | assumption):PG X (.Name x pos) (Pq i):=by
 intro jb s σ H v u Q I r h;exact wpAny_assign_Name (K6 I hN hi hx r (λs' I'=>⟨_,H,I',h⟩) hf)
def Y0:TGs:=λvs σ H Q=>vs=[]/\Q σ H
def Wv (t:TG) (u:TGs):TGs:=λvs σ H Q=>∃v r,vs=v::r/\t v σ H fun σ' H'=>u r σ' H' Q
theorem Dm:PGs X [] Y0:=by
 intro jb s σ H vs us Q I r h;obtain⟨e,h⟩:=h;subst e;cases r;exact assignInOrder_nil ⟨σ,H,I,h⟩
theorem Bb {e:Expr} {es:YJ} {t:TG} {u:TGs} (h1:PG X e t) (h2:PGs X es u)
  (hs:(assignEach (e::es) X.env).map (·.2)=assign e X.env::(assignEach es X.env).map (·.2):=by rfl):PGs X (e::es) (Wv t u):=by
 intro jb s σ H vs us Q I r h;obtain⟨v,vr,e1,h⟩:=h;subst e1;cases r with
 | cons r rr=>
  rw[hs];refine assignInOrder_cons (thn (h1 jb s σ H _ _ _ I r h) λ_ s1 zz=>?_);obtain⟨σ1,H1,I1,q1⟩:=zz;exact h2 jb s1 σ1 H1 _ _ Q I1 rr q1
def Vu (K:YD) (n:Nat) (t:TGs):TG:=λv σ H Q=>∃a xs,v=.ref a/\SqT K H a xs/\xs.length=n/\t xs σ H Q
theorem Fe {es:YJ} {k:Nat} {t:TGs} {n:Nat} (hc:X.calm=true) (h:PGs X es t)
  (hn:(assignEach es X.env).length=n:=by rfl) (hst:(assignEach es X.env).findIdx? (·.1)=none:=by rfl):PG X (.Tuple es k pos) (Vu X.K n t):=by
 intro jb s σ H v u Q I r hw;obtain⟨a,xs,e1,hq,hl,hw⟩:=hw;subst e1;cases r;obtain⟨its,rv,ht,hz⟩:=I.tuple hq;refine assign_Tuple_tuple (I.ok.hd hc) ht (by simp[hn,<-hl,rv.length]) hst λh' hx=>?_;have I1:Inv X jb σ H { s with heap:=h' }:=I.kept (t':=s.toks) λb o e=>hx b o (QbB (QbA e)) e;exact h jb _ σ H xs _ Q I1 (by simpa using rv) hw
def YZ (to ti:TE) (t:SQ):TG:=λv σ H Q=>to σ H λo H1=>ti σ H1 λi H2=>t o i v H2 λH3=>Q σ H3
theorem Qw {o i:Expr} {to ti:TE} {t:SQ} (ho:PE X o to) (hi:PE X i ti) (hs:V6 X t)
  (ha:∀v,assign (.Subscript o i pos) X.env v=(do
   let ov <-holding [v] (eval o X.env);let iv <-holding [v,ov] (eval i X.env)
   standAt pos
   holding [v,ov,iv] (setItem ov iv v)
   release [v,ov,iv] []):=by intro _;rfl):PG X (.Subscript o i pos) (YZ to ti t):=by
 intro jb s σ H v u Q I r h;rw[ha];refine QbH (Qbx (thn (ho jb s σ H _ I h) λov s1 zz=>?_));obtain⟨x,H1,I1,r1,q1⟩:=zz;refine QbH (Qbx (thn (hi jb s1 σ H1 _ I1 q1) λiv s2 zz=>?_));obtain⟨y,H2,I2,r2,q2⟩:=zz;refine QbH (wpAny_standAt (QbH (Qbx (thn (hs jb s2 σ H2 x y v ov iv u _ I2 r1 r2 r q2) λ_ s3 zz=>?_))));obtain⟨H3,I3,q3⟩:=zz;exact wpAny_release ⟨σ,H3,I3,q3⟩
def UG (te:TE) (g:TG):TS:=λD σ H=>te σ H λx H1=>g x σ H1 D.nx
theorem FQ {tg e:Expr} {te:TE} {g:TG} (he:PE X e te) (hg:PG X tg g) (hs:swapsWithSole [tg] e pos.line X.env=pure false:=by rfl) (hw:swappedStores [tg] e X.env=pure none:=by rfl)
  (h1:(assignEach [tg] X.env).map (·.2)=[assign tg X.env]:=by rfl):PS X (.Assign [tg] e pos) (UG te g):=by
 intro jb s σ H D I h;refine wpAny_Assign_stores (thn (he jb s σ H _ I h) λv s1 zz=>?_) hs hw;obtain⟨x,H1,I1,r1,q1⟩:=zz;rw[h1];exact thn (hg jb s1 σ H1 x v _ I1 r1 q1) λ_ s2 q=>q
theorem Bd {i:Nat} {x:Str} {e:Expr} {te:TE} {pos':Pos} (hN:X.N.Nodup) (hi:X.N[i]?=some x) (hx:Loc X.env.scope x) (he:PE X e te) (hs:swapsWith e (some (.Name x pos')) pos.line X.env=pure false:=by rfl) (hf:X.fn x=true\/X.env.scope.names.lookup x=some .local:=by first | exact .inl rfl | exact .inr rfl | assumption) :
  PS X (.Assign [.Name x pos'] e pos) (UG te (Pq i)):=by
 intro jb s σ H D I h;refine wpAny_Assign_Name (thn (he jb s σ H _ I h) λv s1 zz=>?_) hs;obtain⟨y,H1,I1,r1,q1⟩:=zz;exact K6 I1 hN hi hx r1 (λs2 I2=>⟨_,H1,I2,q1⟩) hf
end
section
variable {X:Cx} {pos:Pos}
end
structure It where
 go:Nat->Hp->Prop
 yld:Nat->Hp->V->Hp->Prop
 stop:Nat->Hp->Prop
def Ez (X:Cx) (jb:YC) (H:Hp) (b:Addr):Prop:=
 H b=none/\b≠X.env.locals/\b∉X.fs/\(b∈X.ex\/X.s₀.heap.objs.size<=b)/\(∀x c,X.env.cells.lookup x=some c->c≠b)/\∀p∈X.pn++jb,p.1≠b
theorem Inv.Pr {X:Cx} {jb:YC} {σ : St} {H H':Hp} {s:Shared} {b:Addr} (I:Inv X jb σ H s) (hb:s.heap.objs.size<=b) (hn:H' b=none):Ez X jb H' b:=by
 refine⟨hn,QbD (QaB I.lt hb),I.Xy hb,.inr (QbC I.sz hb),λx c e z=>?_,λp hp z=>?_⟩
 ·obtain⟨v,q⟩:=I.cell x c e;exact absurd (QaB q.lt (by rw[z];exact hb)) (Qby _)
 ·exact absurd (QaB (QbA (I.pin p hp).1) (by rw[z];exact hb)) (Qby _)
structure Turn (P:Program) (w:World) (K:YD) (tg:Expr) (J:It) (fp:List Addr) (it:Addr) (tn:Nat->Heap->Prop):Prop where
 mem:it∈fp
 obj:∀i h,tn i h->∀b∈fp,∃o,h.get? b=some o/\∀v,o.data≠.cell v
 keep:∀i h h',tn i h->(∀b∈fp,∀o,h.get? b=some o->h'.get? b=some o)->tn i h'
 item:∀(X:Cx),X.prog=P->X.w=w->X.K=K->X.calm=true->∀(i:Nat) (jb:YC) (s:Shared) (σ : St) (H:Hp) (E:YA),Inv X jb σ H s->(∀b∈fp,Ez X jb H b)->tn i s.heap->J.go i H ->
  wpAny (model P w) X.A (pyNext (.ref it)) (λr s1=>∃u,r=some u /\
   wpAny (model P w) X.A (letOwnedTupleGo tg (.ref it) u) (λ_ s2=>∃x H',Inv X jb σ H' s2/\RelV x u/\J.yld i H x H'/\tn (i+1) s2.heap/\∀b∈fp,H' b=none) E s1) E s
 done:∀(X:Cx),X.prog=P->X.w=w->X.K=K->X.calm=true->∀(i:Nat) (jb:YC) (s:Shared) (σ : St) (H:Hp) (E:YA),Inv X jb σ H s->(∀b∈fp,Ez X jb H b)->tn i s.heap->J.stop i H ->
  wpAny (model P w) X.A (pyNext (.ref it)) (λr s1=>r=none/\Inv X jb σ H s1) E s
 self:∀(A:Around) (i:Nat) (s:Shared) (Q:YA) (E:YA),tn i s.heap->Q (.ref it) s->wpAny (model P w) A (pyIter (.ref it)) Q E s
abbrev TI:=St->Hp->(It->Hp->Prop)->Prop
def PIE (X:Cx) (jb:YC) (σ : St) (tg:Expr) (R:It->Hp->Prop) (itv:Value) (s2:Shared):Prop:=
 ∃(it:Addr) (fp:List Addr) (tn:Nat->Heap->Prop) (J:It) (H':Hp),itv=.ref it/\Inv X jb σ H' s2/\Turn X.prog X.w X.K tg J fp it tn/\tn 0 s2.heap/\(∀b∈fp,Ez X jb H' b)/\R J H'
def PI (X:Cx) (tg iter:Expr) (wi:TI):Prop:=
 ∀(jb:YC) (s:Shared) (σ : St) (H:Hp) (R:It->Hp->Prop),Inv X jb σ H s->wi σ H R ->
  wpAny (model X.prog X.w) X.A (eval iter X.env) (λv s1=>wpAny (model X.prog X.w) X.A (pyIter v) (PIE X jb σ tg R) X.xe s1) X.xe s
theorem Pj {M:Model} {A:Around} {E:YA} {s:Shared} {tg:Expr} {it:Addr} {u:Value} {o:Obj} {n:String} {vs:Array Value} {Q:YH} (ho:s.heap.get? it=some o) (hc:o.cls=.type n) (hd:o.data=.fields vs)
    (hn:["enumerate","zip","dict_itemiterator","dict_reverseitemiterator","odict_iterator","itertools.zip_longest","itertools.pairwise"].contains n=false) (hQ:Q () s):wpAny M A (letOwnedTupleGo tg (.ref it) u) Q E s:=by
  unfold letOwnedTupleGo;cases tg <;> first
    | exact QbI hQ
    | (cases u <;> first
        | exact QbI hQ
        | (refine QbH (wpAny_load ho ?_)
           rw[hc,hd];show wpAny M A (if (["enumerate","zip","dict_itemiterator","dict_reverseitemiterator","odict_iterator","itertools.zip_longest","itertools.pairwise"].contains n&&vs[0]? == some (rawInt _))=true then _ else _) Q E s
           rw[if_neg (by intro h;rw[hn,Qbr] at h;cases h)];exact QbI hQ))
def Itl (K:YD) (a:Addr):It:=
 ⟨λi H=>∃xs x,SqL K H a xs/\xs[i]?=some x,λi H x H'=>H'=H/\∀xs,SqL K H a xs->xs[i]?=some x,λi H=>∃xs,SqL K H a xs/\xs.length<=i⟩
def Itt (K:YD) (a:Addr):It:=
 ⟨λi H=>∃xs x,SqT K H a xs/\xs[i]?=some x,λi H x H'=>H'=H/\∀xs,SqT K H a xs->xs[i]?=some x,λi H=>∃xs,SqT K H a xs/\xs.length<=i⟩
def Itr (lo:Int) (n:Nat):It:=⟨λi _=>i < n,λi H x H'=>H'=H/\x=.int (lo+i),λi _=>n<=i⟩
theorem Qh {P:Program} {w:World} {K:YD} {tg:Expr} (a it:Addr):Turn P w K tg (Itl K a) [it] it (λi h=>h.IsListIter it a i) where
 mem:=by simp
 obj:=λi h st b hb=>by
  have e:b=it:=by simpa using hb
  subst e;obtain⟨o,e,c,d⟩:=st;exact⟨o,e,λv z=>by rw[d] at z;cases z⟩
 keep:=λi h h' st k=>st.at λo e=>k it (by simp) o e
 item:=by
  intro X hP hw hK hc i jb s σ H E I hf st hg;subst hP hw hK;obtain⟨xs,x,hq,hx⟩:=hg;obtain⟨its,rv,p,hz⟩:=I.list hq;obtain⟨u,hu,ru⟩:=rv.get hx;obtain⟨f0,f1,f2,f3,f4,f5⟩:=hf it (by simp);refine wpAny_pyNext_list_item st p.isList (x:=u) (by simpa using hu) λh' st' sb=>?_;have I1:Inv X jb σ H { s with heap:=h' }:=I.turned (t':=s.toks) (λb o hb e=>(sb.2 b hb).trans e) f0 f1 f3 f4 f5;obtain⟨o,e,c,d⟩:=id st';exact⟨u,rq,Pj (s:={ s with heap:=h' }) e c d (by decide) ⟨x,H,I1,ru,⟨rq,λys hy=>by rw[I.RP hy hq];exact hx⟩,st',λb hb=>(hf b hb).1⟩⟩
 done:=by
  intro X hP hw hK hc i jb s σ H E I hf st hg;subst hP hw hK;obtain⟨xs,hq,hx⟩:=hg;obtain⟨its,rv,p,hz⟩:=I.list hq;obtain⟨f0,f1,f2,f3,f4,f5⟩:=hf it (by simp);have hl:=rv.length;exact wpAny_pyNext_list_end (I.ok.hd hc) st p.isList (by simp;omega) λh' eb=>⟨rq,I.turned (t':=s.toks) (λb o hb e=>eb b o hb e) f0 f1 f3 f4 f5⟩
 self:=λ_ _ _ _ _ st h=>wpAny_pyIter_listiter st h
theorem N5 {P:Program} {w:World} {K:YD} {tg:Expr} (a it:Addr):Turn P w K tg (Itt K a) [it] it (λi h=>h.IsTupleIter it a i) where
 mem:=by simp
 obj:=λi h st b hb=>by
  have e:b=it:=by simpa using hb
  subst e;obtain⟨o,e,c,d⟩:=st;exact⟨o,e,λv z=>by rw[d] at z;cases z⟩
 keep:=λi h h' st k=>st.at λo e=>k it (by simp) o e
 item:=by
  intro X hP hw hK hc i jb s σ H E I hf st hg;subst hP hw hK;obtain⟨xs,x,hq,hx⟩:=hg;obtain⟨its,rv,p,hz⟩:=I.tuple hq;obtain⟨u,hu,ru⟩:=rv.get hx;obtain⟨f0,f1,f2,f3,f4,f5⟩:=hf it (by simp);refine wpAny_pyNext_tuple_item st (show s.heap.IsTuple a its.toArray from p) (x:=u) (by simpa using hu) λh' st' sb=>?_
  have I1:Inv X jb σ H { s with heap:=h' }:=I.turned (t':=s.toks) (λb o hb e=>(sb.2 b hb).trans e) f0 f1 f3 f4 f5;obtain⟨o,e,c,d⟩:=id st';exact⟨u,rq,Pj (s:={ s with heap:=h' }) e c d (by decide) ⟨x,H,I1,ru,⟨rq,λys hy=>by rw[I.Qj hy hq];exact hx⟩,st',λb hb=>(hf b hb).1⟩⟩
 done:=by
  intro X hP hw hK hc i jb s σ H E I hf st hg;subst hP hw hK;obtain⟨xs,hq,hx⟩:=hg;obtain⟨its,rv,p,hz⟩:=I.tuple hq;obtain⟨f0,f1,f2,f3,f4,f5⟩:=hf it (by simp);have hl:=rv.length;exact wpAny_pyNext_tuple_end (I.ok.hd hc) st (show s.heap.IsTuple a its.toArray from p) (by simp;omega) λh' eb=>⟨rq,I.turned (t':=s.toks) (λb o hb e=>eb b o hb e) f0 f1 f3 f4 f5⟩
 self:=λ_ _ _ _ _ st h=>wpAny_pyIter_tupleiter st h
theorem N6 {P:Program} {w:World} {K:YD} {tg:Expr} (it:Addr) (lo:Int) (n:Nat):Turn P w K tg (Itr lo n) [it] it (λi h=>IsRangeIter h it (lo+(i:Nat)*1) ((n:Int) - (i:Nat)) 1) where
 mem:=by simp
 obj:=λi h st b hb=>by
  have e:b=it:=by simpa using hb
  subst e;exact⟨_,st,λv z=>by
   have z':Data.fields _=Data.cell v:=z;cases z'⟩
 keep:=λi h h' st k=>k it (by simp) _ st
 item:=by
  intro X hP hw hK hc i jb s σ H E I hf st hg;subst hP hw hK;obtain⟨f0,f1,f2,f3,f4,f5⟩:=hf it (by simp);have W:=Walks.range (prog:=X.prog) (w:=X.w) (I.ok.hd hc) it lo 1 n;refine W.item i s _ _ hg st λv h' tk hv st' kk=>?_;obtain⟨t,rfl⟩:=hv;have I1:Inv X jb σ H { s with heap:=h',toks:=tk }:=I.turned (λb o hb e=>kk b o (by simpa using hb) e) f0 f1 f3 f4 f5;refine⟨_,rq,Pj (s:={ s with heap:=h',toks:=tk }) (n:="range_iterator") st' rfl rfl (by decide) ⟨.int (lo+i),H,I1,⟨t,?_⟩,⟨rq,rq⟩,st',λb hb=>(hf b hb).1⟩⟩;rw[Int.mul_one]
 done:=by
  intro X hP hw hK hc i jb s σ H E I hf st hg;subst hP hw hK;obtain⟨f0,f1,f2,f3,f4,f5⟩:=hf it (by simp);exact wpAny_pyNext_range_end (I.ok.hd hc) st (by have:n<=i:=hg;omega) λh' eb=>⟨rq,I.turned (t':=s.toks) (λb o hb e=>eb b o hb e) f0 f1 f3 f4 f5⟩
 self:=λ_ _ _ _ _ st h=>wpAny_pyIter_rangeiter st h
section
variable {X:Cx} {tg:Expr}
def Wu (K:YD) (tl:TE):TI:=fun σ H R=>tl σ H λx H1=>∃a,x=.ref a/\(∃xs,SqL K H1 a xs)/\R (Itl K a) H1
def X4 (K:YD) (tl:TE):TI:=fun σ H R=>tl σ H λx H1=>∃a,x=.ref a/\(∃xs,SqT K H1 a xs)/\R (Itt K a) H1
theorem TY {l:Expr} {tl:TE} (hl:PE X l tl):PI X tg l (Wu X.K tl):=by
 intro jb s σ H R I h;refine thn (hl jb s σ H _ I h) λv s1 zz=>?_;obtain⟨x,H1,I1,r1,q1⟩:=zz;obtain⟨a,e,⟨xs,hq⟩,q⟩:=q1;subst e;cases r1;obtain⟨its,rv,p,hz⟩:=I1.list hq;refine QaN p.isList ?_;refine⟨s1.heap.objs.size,[s1.heap.objs.size],_,_,H1,rq,I1.kept (t':=s1.toks) λb o e=>Qaj _ e,Qh a _,⟨_,Qat _ rfl,rq,rq⟩,λb hb=>?_,q⟩;have e:b=s1.heap.objs.size:=by simpa using hb
 subst e;exact I1.Pr (QbE _) (I1.hok.fresh (QbE _))
theorem HJ {l:Expr} {tl:TE} (hl:PE X l tl):PI X tg l (X4 X.K tl):=by
 intro jb s σ H R I h;refine thn (hl jb s σ H _ I h) λv s1 zz=>?_;obtain⟨x,H1,I1,r1,q1⟩:=zz;obtain⟨a,e,⟨xs,hq⟩,q⟩:=q1;subst e;cases r1;obtain⟨its,rv,p,hz⟩:=I1.tuple hq;refine QaE (show s1.heap.IsTuple a its.toArray from p) ?_
 refine⟨s1.heap.objs.size,[s1.heap.objs.size],_,_,H1,rq,I1.kept (t':=s1.toks) λb o e=>Qaj _ e,N5 a _,⟨_,Qat _ rfl,rq,rq⟩,λb hb=>?_,q⟩;have e:b=s1.heap.objs.size:=by simpa using hb
 subst e;exact I1.Pr (QbE _) (I1.hok.fresh (QbE _))
theorem Lp {jb:YC} {σ : St} {H:Hp} {s:Shared} {R:It->Hp->Prop} {E:YA} {lo hi:Int} {t u v:Tok} {tk:Nat} (I:Inv X jb σ H s) (h1:-(2 ^ 62)<=lo) (h2:lo < 2 ^ 62) (h3:-(2 ^ 62)<=hi) (h4:hi < 2 ^ 62)
  (q:R (Itr lo (hi - lo).toNat) H):wpAny (model X.prog X.w) X.A (pyIter (.ref s.heap.objs.size)) (PIE X jb σ tg R) E { s with heap:=s.heap.push { cls:=.type "range",data:=.fields #[.int lo t,.int hi u,.int 1 v] },toks:=tk }:=by
 refine wpAny_pyIter_range (IsRange.new ..) (small_one h1 h2 h3 h4) ?_;have I1:Inv X jb σ H { s with heap:=s.heap.push { cls:=.type "range",data:=.fields #[.int lo t,.int hi u,.int 1 v] },toks:=tk }:=I.kept λb o e=>Qaj _ e;refine⟨(s.heap.push { cls:=.type "range",data:=.fields #[.int lo t,.int hi u,.int 1 v] }).objs.size,[(s.heap.push { cls:=.type "range",data:=.fields #[.int lo t,.int hi u,.int 1 v] }).objs.size],_,_,H,rq,
  I1.kept (t':=tk) λb o e=>Qaj _ e,N6 _ lo (hi - lo).toNat,?_,λb hb=>?_,q⟩
 ·have e1:lo+((0:Nat):Int)*1=lo:=by simp
  have e2:(((hi - lo).toNat:Nat):Int) - ((0:Nat):Int)=Builtin.Range.rangeSize lo hi 1:=by rw[rangeSize_one];split <;> omega
  show IsRangeIter _ _ (lo+((0:Nat):Int)*1) ((((hi - lo).toNat:Nat):Int) - ((0:Nat):Int)) 1;rw[e1,e2];exact Qat _ rfl
 ·have e:b=(s.heap.push { cls:=.type "range",data:=.fields #[.int lo t,.int hi u,.int 1 v] }).objs.size:=by simpa using hb
  subst e;exact I1.Pr (QbE _) (I1.hok.fresh (QbE _))
def Wt (ta:TA):TI:=fun σ H R=>ta σ H λvs H1=>∃j:Int,vs=[.int j]/\-(2 ^ 62)<=j/\j < 2 ^ 62/\R (Itr 0 j.toNat) H1
def Ws (ta:TA):TI:=fun σ H R=>ta σ H λvs H1=>∃i j:Int,vs=[.int i,.int j]/\(-(2 ^ 62)<=i/\i < 2 ^ 62/\-(2 ^ 62)<=j/\j < 2 ^ 62)/\R (Itr i (j - i).toNat) H1
theorem HN {a:Expr} {ta:TA} {p pos:Pos} (hg:Gl X "range") (hm:X.mg "range"=none) (ha:PA X [a] ta) (hs:starEach [a] X.env=[(false,eval a X.env)]:=by rfl):PI X tg (.Call (.Name "range" p) [a] [] pos) (Wt ta):=by
 intro jb s σ H R I h;refine Call_ (Fi I hg hm boot_range (Qac (thn (ha pos jb s σ H _ I h) λus s1 zz=>?_) hs rfl));obtain⟨vs,H1,I1,r1,q1⟩:=zz;obtain⟨j,e,q1,q2,q⟩:=q1;subst e;cases r1 with
 | cons r rr=>
  cases rr;obtain⟨t,rfl⟩:=r;exact call_range_1 (Lp I1 (by omega) (by omega) q1 q2 (by simpa using q))
theorem Qv {a b:Expr} {ta:TA} {p pos:Pos} (hg:Gl X "range") (hm:X.mg "range"=none) (ha:PA X [a,b] ta) (hs:starEach [a,b] X.env=[(false,eval a X.env),(false,eval b X.env)]:=by rfl) (hs2:starEach [b] X.env=[(false,eval b X.env)]:=by rfl) :
  PI X tg (.Call (.Name "range" p) [a,b] [] pos) (Ws ta):=by
 intro jb s σ H R I h;refine Call_ (Fi I hg hm boot_range (Qac (thn (ha pos jb s σ H _ I h) λus s1 zz=>?_) (by rw[hs,hs2]) (by rw[hs2];rfl)));obtain⟨vs,H1,I1,r1,q1⟩:=zz;obtain⟨i,j,e,⟨q1,q2,q3,q4⟩,q⟩:=q1;subst e;cases r1 with
 | cons r rr=>
  cases rr with
  | cons r' rr=>
   cases rr;obtain⟨t,rfl⟩:=r;obtain⟨t',rfl⟩:=r';exact call_range_2 (Lp I1 q1 q2 q3 q4 q)
abbrev YN:=Nat->YO
def Ir (wi:TI) (g:TG) (tb:TS):TS:=λD σ H=>wi σ H λJ H1=>∃W:Nat->YN,(∃m,W 0 m σ H1)/\∀i m σ H,W i m σ H ->
 (J.stop i H/\D.nx σ H)\/(J.go i H/\∃N:YO,(∀ σ' H',N σ' H'->∃m',m' < m/\W (i+1) m' σ' H')/\∀x H',J.yld i H x H'->g x σ H' fun σ2 H2=>tb { D with nx:=N,ct:=N,bk:=D.nx } σ2 H2)
def Hz (fp:List Addr) (h:Heap):YC:=fp.filterMap λb=>(h.get? b).map λo=>(b,o)
theorem Hg {fp:List Addr} {h:Heap} {b:Addr} {o:Obj} (hb:b∈fp) (e:h.get? b=some o):(b,o)∈Hz fp h:=List.mem_filterMap.mpr ⟨b,hb,by rw[e];rfl⟩
theorem QG {fp:List Addr} {h:Heap} {p:Addr×Obj} (hp:p∈Hz fp h):p.1∈fp/\h.get? p.1=some p.2:=by
 obtain⟨b,hb,e⟩:=List.mem_filterMap.mp hp;cases q:h.get? b with
 | none=>rw[q] at e;cases e
 | some o=>
  rw[q] at e;have e':(b,o)=p:=Qbf e;subst e';exact⟨hb,q⟩
theorem Inv.pinned {jb:YC} {σ : St} {H:Hp} {s:Shared} {fp:List Addr} (I:Inv X jb σ H s) (hf:∀b∈fp,Ez X jb H b) (ho:∀b∈fp,∃o,s.heap.get? b=some o/\∀v,o.data≠.cell v):Inv X (jb++Hz fp s.heap) σ H s:=
 I.Ng λp hp=>(Qbh.mp hp).elim (λz=>I.pin p (Qao _ z)) λz=>by
  obtain⟨hb,e⟩:=QG z;obtain⟨f0,f1,f2,_⟩:=hf p.1 hb;obtain⟨o,e',d⟩:=ho p.1 hb;rw[e] at e';cases e';exact⟨e,f0,f1,f2,d⟩
theorem Inv.G3 {jb pl:YC} {σ : St} {H:Hp} {s:Shared} (I:Inv X (jb++pl) σ H s):Inv X jb σ H s:=I.Ng λp hp=>I.pin p (Qao _ (List.mem_append_left _ hp))
theorem Gz {iter:Expr} {body:List Stmt} {wi:TI} {g:TG} {tb:TS} {pos:Pos} (hp:PassesOwn (model X.prog X.w) X.A X.env X.xe) (hc:X.calm=true) (hi:PI X tg iter wi) (hg:PG X tg g) (hb:PSs X body tb)
  (hs:∀x,foldedSetIterable iter X.env x=pure x:=by intro _;rfl):PS X (.For tg iter body [] pos) (Ir wi g tb):=by
 intro jb s σ H D I h;refine wpAny_For (thn (hi jb s σ H _ I h) λv s1 h1=>thn h1 λitv s2 h2=>?_) hs;obtain⟨it,fp,tn,J,H2,e,I2,T,st2,f2,W,⟨m0,w0⟩,turn⟩:=h2;subst e;have stat:∀{H':Hp},(∀b∈fp,H' b=none)->∀b∈fp,Ez X jb H' b:=λhn b hb=>⟨hn b hb,(f2 b hb).2⟩;refine codeAny_forLoop_any (λn s'=>∃i σ' H',Inv X jb σ' H' s'/\tn i s'.heap/\(∀b∈fp,H' b=none)/\W i n σ' H') ?_ m0 ⟨0,σ,H2,I2,st2,λb hb=>(f2 b hb).1,w0⟩;rintro n s3 ⟨i,σ3,H3,I3,st3,fr3,w3⟩;rcases turn i n σ3 H3 w3 with⟨stop,qn⟩|⟨go,N,hN,step⟩
 ·refine wpAny_passesOwn hp (thn (T.done X rfl rfl rfl hc i jb s3 σ3 H3 X.xe I3 (stat fr3) st3 stop) λr s4 zz=>?_);obtain⟨hr,I4⟩:=zz;subst hr;exact wpAny_execs_nil ⟨σ3,H3,I4,qn⟩
 ·refine wpAny_passesOwn hp (thn (T.item X rfl rfl rfl hc i jb s3 σ3 H3 X.xe I3 (stat fr3) st3 go) λr s4 zz=>?_);obtain⟨u,hr,h4⟩:=zz;subst hr;refine wpAny_passesOwn hp (thn h4 λ_ s5 zz=>?_);obtain⟨x,H5,I5,r5,y5,st5,fr5⟩:=zz;have I5':=I5.pinned (stat fr5) (T.obj _ _ st5);refine wpAny_passesOwn hp (thn (hg _ s5 σ3 H5 x u _ I5' r5 (step x H5 y5)) λ_ s6 zz=>?_);obtain⟨σ6,H6,I6,q6⟩:=zz;refine wpAny_passesOwn hp (thn (hb _ s6 σ6 H6 _ I6 q6) λf s7 q7=>?_);have again:∀{σ7:St} {H7:Hp},Inv X (jb++Hz fp s5.heap) σ7 H7 s7->N σ7 H7->∃m,m < n/\∃i σ' H',Inv X jb σ' H' s7/\tn i s7.heap/\(∀b∈fp,H' b=none)/\W i m σ' H':=λ{σ7 H7} I7 n7=>by
   obtain⟨m',hm,w7⟩:=hN σ7 H7 n7;refine⟨m',hm,i+1,σ7,H7,I7.G3,T.keep _ _ _ st5 λb hb o e=>(I7.pin (b,o) (Qao _ (Qao _ (Hg hb e)))).1,λb hb=>?_,w7⟩;obtain⟨o,e,d⟩:=T.obj _ _ st5 b hb;exact (I7.pin (b,o) (Qao _ (Qao _ (Hg hb e)))).2.1
  cases f with
  | next=>obtain⟨σ7,H7,I7,n7⟩:=q7;exact again I7 n7
  | cont=>obtain⟨σ7,H7,I7,n7⟩:=q7;exact again I7 n7
  | brk=>obtain⟨σ7,H7,I7,q7⟩:=q7;exact⟨σ7,H7,I7.G3,q7⟩
  | ret v=>obtain⟨x7,σ7,H7,I7,r7,q7⟩:=q7;exact⟨x7,σ7,H7,I7.G3,r7,q7⟩
end
theorem Sv {K:YD} {a:Addr} {xs:YG} {g:TG} {tb:TS} {D:Ends} {σ : St} {H:Hp} (Pv:YN) (h0:Pv 0 σ H) (hl:∀i σ H,i<=xs.length->Pv i σ H->SqL K H a xs)
  (hs:∀i x σ H,xs[i]?=some x->Pv i σ H->g x σ H fun σ2 H2=>tb { D with nx:=Pv (i+1),ct:=Pv (i+1),bk:=D.nx } σ2 H2) (hd:∀ σ H,Pv xs.length σ H->D.nx σ H) :
  ∃W:Nat->YN,(∃m,W 0 m σ H)/\∀i m σ H,W i m σ H ->
   ((Itl K a).stop i H/\D.nx σ H)\/((Itl K a).go i H/\∃N:YO,(∀ σ' H',N σ' H'->∃m',m' < m/\W (i+1) m' σ' H')/\∀x H',(Itl K a).yld i H x H'->g x σ H' fun σ2 H2=>tb { D with nx:=N,ct:=N,bk:=D.nx } σ2 H2):=by
 refine⟨λi m σ H=>m=xs.length - i/\i<=xs.length/\Pv i σ H,⟨xs.length,by simp,QbF _,h0⟩,?_⟩;rintro i m σ H ⟨rfl,hi,p⟩;have q:=hl i σ H hi p;by_cases hlt:i < xs.length
 ·refine .inr ⟨⟨xs,xs[i],q,by simp[hlt]⟩,Pv (i+1),fun σ' H' p'=>⟨xs.length - (i+1),by omega,rq,hlt,p'⟩,λx H' y=>?_⟩;obtain⟨e,y⟩:=y;subst e;exact hs i x σ _ (y xs q) p
 ·have e:i=xs.length:=by omega
  subst e;exact .inl ⟨⟨xs,q,QbE _⟩,hd σ H p⟩
theorem Nq {K:YD} {a:Addr} {xs:YG} {g:TG} {tb:TS} {D:Ends} {σ : St} {H:Hp} (Pv:YN) (h0:Pv 0 σ H) (hl:∀i σ H,i<=xs.length->Pv i σ H->SqT K H a xs)
  (hs:∀i x σ H,xs[i]?=some x->Pv i σ H->g x σ H fun σ2 H2=>tb { D with nx:=Pv (i+1),ct:=Pv (i+1),bk:=D.nx } σ2 H2) (hd:∀ σ H,Pv xs.length σ H->D.nx σ H) :
  ∃W:Nat->YN,(∃m,W 0 m σ H)/\∀i m σ H,W i m σ H ->
   ((Itt K a).stop i H/\D.nx σ H)\/((Itt K a).go i H/\∃N:YO,(∀ σ' H',N σ' H'->∃m',m' < m/\W (i+1) m' σ' H')/\∀x H',(Itt K a).yld i H x H'->g x σ H' fun σ2 H2=>tb { D with nx:=N,ct:=N,bk:=D.nx } σ2 H2):=by
 refine⟨λi m σ H=>m=xs.length - i/\i<=xs.length/\Pv i σ H,⟨xs.length,by simp,QbF _,h0⟩,?_⟩;rintro i m σ H ⟨rfl,hi,p⟩;have q:=hl i σ H hi p;by_cases hlt:i < xs.length
 ·refine .inr ⟨⟨xs,xs[i],q,by simp[hlt]⟩,Pv (i+1),fun σ' H' p'=>⟨xs.length - (i+1),by omega,rq,hlt,p'⟩,λx H' y=>?_⟩;obtain⟨e,y⟩:=y;subst e;exact hs i x σ _ (y xs q) p
 ·have e:i=xs.length:=by omega
  subst e;exact .inl ⟨⟨xs,q,QbE _⟩,hd σ H p⟩
theorem HY {lo:Int} {n:Nat} {g:TG} {tb:TS} {D:Ends} {σ : St} {H:Hp} (Pv:YN) (h0:Pv 0 σ H)
  (hs:∀i σ H,i < n->Pv i σ H->g (.int (lo+i)) σ H fun σ2 H2=>tb { D with nx:=Pv (i+1),ct:=Pv (i+1),bk:=D.nx } σ2 H2) (hd:∀ σ H,Pv n σ H->D.nx σ H) :
  ∃W:Nat->YN,(∃m,W 0 m σ H)/\∀i m σ H,W i m σ H ->
   ((Itr lo n).stop i H/\D.nx σ H)\/((Itr lo n).go i H/\∃N:YO,(∀ σ' H',N σ' H'->∃m',m' < m/\W (i+1) m' σ' H')/\∀x H',(Itr lo n).yld i H x H'->g x σ H' fun σ2 H2=>tb { D with nx:=N,ct:=N,bk:=D.nx } σ2 H2):=by
 refine⟨λi m σ H=>m=n - i/\i<=n/\Pv i σ H,⟨n,by simp,QbF _,h0⟩,?_⟩;rintro i m σ H ⟨rfl,hi,p⟩;by_cases hlt:i < n
 ·refine .inr ⟨hlt,Pv (i+1),fun σ' H' p'=>⟨n - (i+1),by omega,rq,hlt,p'⟩,λx H' y=>?_⟩;obtain⟨e,y⟩:=y;subst e y;exact hs i σ _ hlt p
 ·have e:i=n:=by omega
  subst e;exact .inl ⟨QbE _,hd σ H p⟩
abbrev R2:=V->V->Hp->VK->Prop
def OpR (X:Cx) (f:Value->Value->Sem Value) (r:R2):Prop:=
 ∀(jb:YC) (s:Shared) (σ : St) (H:Hp) (x y:V) (v u:Value) (Q:VK),Inv X jb σ H s->RelV x v->RelV y u->r x y H Q ->
  wpAny (model X.prog X.w) X.A (f v u) (EP X jb σ Q) X.xe s
def Dd (X:Cx) (f:Value) (r:YG->Hp->VK->Prop):Prop:=
 ∀(jb:YC) (s:Shared) (σ : St) (H:Hp) (xs:YG) (us:YE) (Q:VK),Inv X jb σ H s->Vals xs us->r xs H Q ->
  wpAny (model X.prog X.w) X.A (call f us) (EP X jb σ Q) X.xe s
def tOp (r:R2) (ta tb:TE):TE:=fun σ H Q=>ta σ H λx H1=>tb σ H1 λy H2=>r x y H2 Q
def rI (C:Int->Int->Prop) (g:Int->Int->V):R2:=λx y H Q=>∃i j,x=.int i/\y=.int j/\C i j/\Q (g i j) H
def rI0 (g:Int->Int->V):R2:=λx y H Q=>∃i j,x=.int i/\y=.int j/\Q (g i j) H
section
variable {X:Cx} {a b c:Expr} {ta tb tc:TE} {pos:Pos}
theorem SJ (ha:PE X a ta) (hb:PE X b tb) {jb:YC} {s:Shared} {σ : St} {H:Hp} {R:V->V->Hp->Prop} (I:Inv X jb σ H s)
  (h:ta σ H λx H1=>tb σ H1 λy H2=>R x y H2) {Q:YA} {f:Value->Value->Sem Value}
  (hf:∀v u s2 x y H2,Inv X jb σ H2 s2->RelV x v->RelV y u->R x y H2->wpAny (model X.prog X.w) X.A (f v u) Q X.xe s2) :
  wpAny (model X.prog X.w) X.A (eval a X.env) (λv s₁=>wpAny (model X.prog X.w) X.A (eval b X.env) (λu s₂=>wpAny (model X.prog X.w) X.A (f v u) Q X.xe s₂) X.xe s₁) X.xe s:=by
 refine thn (ha jb s σ H _ I h) λv s1 zz=>?_;obtain⟨x,H1,I1,r1,q1⟩:=zz;refine thn (hb jb s1 σ H1 _ I1 q1) λu s2 zz=>?_;obtain⟨y,H2,I2,r2,q2⟩:=zz;exact hf v u s2 x y H2 I2 r1 r2 q2
theorem Ai {op:Operator} {r:R2} (ho:OpR X (binaryOp op) r) (ha:PE X a ta) (hb:PE X b tb):PE X (.BinOp a op b pos) (tOp r ta tb):=by
 intro jb s σ H Q I h;exact wpAny_BinOp (SJ ha hb I h λv u s2 x y H2 I2 rx ry q=>ho jb s2 σ H2 x y v u Q I2 rx ry q)
theorem opI {f:Value->Value->Sem Value} {C:Int->Int->Prop} {g:Int->Int->Int}
  (rule:∀(i j:Int) (t u:Tok) (s:Shared) (Q:YA) (E:YA),C i j->Q (.int (g i j) s.toks) { s with toks:=s.toks+1 }->wpAny (model X.prog X.w) X.A (f (.int i t) (.int j u)) Q E s) :
  OpR X f (rI C λi j=>.int (g i j)):=by
 intro jb s σ H x y v u Q I rx ry h;obtain⟨i,j,rfl,rfl,hc,q⟩:=h;obtain⟨t,rfl⟩:=rx;obtain⟨t',rfl⟩:=ry;exact rule i j t t' s _ _ hc ⟨.int (g i j),H,I.tok _,⟨_,rq⟩,q⟩
theorem Va {f:Value->Value->Sem Value} {g:Int->Int->Int}
  (rule:∀(i j:Int) (t u:Tok) (s:Shared) (Q:YA) (E:YA),Q (.int (g i j) s.toks) { s with toks:=s.toks+1 }->wpAny (model X.prog X.w) X.A (f (.int i t) (.int j u)) Q E s) :
  OpR X f (rI0 λi j=>.int (g i j)):=by
 intro jb s σ H x y v u Q I rx ry h;obtain⟨i,j,rfl,rfl,q⟩:=h;obtain⟨t,rfl⟩:=rx;obtain⟨t',rfl⟩:=ry;exact rule i j t t' s _ _ ⟨.int (g i j),H,I.tok _,⟨_,rq⟩,q⟩
theorem Ox {f:Value->Value->Sem Value} {g:Int->Int->Bool}
  (rule:∀(i j:Int) (t u:Tok) (s:Shared) (Q:YA) (E:YA),Q (.bool (g i j)) s->wpAny (model X.prog X.w) X.A (f (.int i t) (.int j u)) Q E s) :
  OpR X f (rI0 λi j=>.bl (g i j)):=by
 intro jb s σ H x y v u Q I rx ry h;obtain⟨i,j,rfl,rfl,q⟩:=h;obtain⟨t,rfl⟩:=rx;obtain⟨t',rfl⟩:=ry;exact rule i j t t' s _ _ ⟨.bl (g i j),H,I,rq,q⟩
def aq (i j:Int):Prop:=0 < j/\j < 1073741824
def ao (i j:Int):Prop:=0<=j/\j<=1000000/\i.natAbs < 2 ^ 64
def Qd (i j:Int):Prop:=(-(2 ^ 64) < i/\i < 2 ^ 64)\/(-(2 ^ 64) < j/\j < 2 ^ 64)
theorem Qd.ok {i j:Int} (h:Qd i j):IntMulOk i j:=by
 rcases h with⟨h1,h2⟩|⟨h1,h2⟩
 ·exact .of_left (intBits_le_64 h1 h2)
 ·exact .of_right (intBits_le_64 h1 h2)
theorem Bk:OpR X (binaryOp .Add) (rI0 λi j=>.int (i+j)):=Va λ_ _ _ _ _ _ _ q=>add_int q
theorem Ek:OpR X (binaryOp .Sub) (rI0 λi j=>.int (i - j)):=Va λ_ _ _ _ _ _ _ q=>sub_int q
theorem DN:OpR X (binaryOp .Mult) (rI Qd λi j=>.int (i*j)):=opI λ_ _ _ _ _ _ _ hc q=>mul_int q hc.ok
theorem JF:OpR X (binaryOp .FloorDiv) (rI aq λi j=>.int (i / j)):=opI λi j _ _ _ _ _ hc q=>by
 have h1:(0:Int) < j:=hc.1;have h2:j < 1073741824:=hc.2;exact floordiv_int (by omega) (by rw[Int.fdiv_eq_ediv_of_nonneg i (by omega)];exact q) (.inl (PyProof.noPylong_small (by omega)))
theorem Ga:OpR X (binaryOp .Mod) (rI (λ_ j=>0 < j) λi j=>.int (i % j)):=opI λi j _ _ _ _ _ hc q=>by
 have h1:(0:Int) < j:=hc;exact mod_int' (by omega) (by rw[Int.fmod_eq_emod_of_nonneg i (by omega)];exact q)
theorem QB:OpR X (binaryOp .Pow) (rI ao λi j=>.int (i ^ j.toNat)):=opI λ_ _ _ _ _ _ _ hc q=>pow_int_small hc.1 hc.2.1 hc.2.2 q
end
def UW:V->V->Bool
 | .non,.non=>true | .non,.int _=>true | .int _,.non=>true | .non,.bl _=>true | .bl _,.non=>true | .non,.str _=>true | .str _,.non=>true
 | .int _,.int _=>true | .bl _,.bl _=>true | .str _,.str _=>true | .byt _,.byt _=>true
 | .int _,.str _=>true | .str _,.int _=>true | .bl _,.str _=>true | .str _,.bl _=>true
 | _,_=>false
def rEq:R2:=λx y H Q=>UW x y=true/\Q (.bl (decide (x=y))) H
def rNe:R2:=λx y H Q=>UW x y=true/\Q (.bl (!decide (x=y))) H
theorem Nu {i j:Int}:decide (V.int i=V.int j)=(i == j):=by
 rw[Qbj];simp
theorem Q0 {i j:Bool}:decide (V.bl i=V.bl j)=(i == j):=by
 rw[Qbj];simp
theorem Nt {i j:Str}:decide (V.str i=V.str j)=(i == j):=by
 rw[Qbj];simp
theorem Nv {i j:Array UInt8}:decide (V.byt i=V.byt j)=(i.toList == j.toList):=by
 rw[Qbj];cases i;cases j;simp
section
variable {X:Cx} {a b c:Expr} {ta tb tc:TE} {pos:Pos}
theorem Az {jb:YC} {σ : St} {H:Hp} {s:Shared} {Q:VK} {k k':Bool} (I:Inv X jb σ H s) (q:Q (.bl k) H) (e:k=k'):EP X jb σ Q (.bool k') s:=by
 subst e;exact⟨.bl k,H,I,rq,q⟩
theorem Ij:OpR X (compareOp .Eq) rEq:=by
 intro jb s σ H x y v u Q I rx ry h;obtain⟨hs,q⟩:=h;cases x with
 | non=>
  cases rx;cases y with
  | non=>cases ry;exact PySem.EqNone.eq_none_none (Az I q (by simp))
  | bl j=>cases ry;exact PySem.EqNone.eq_none_bool (Az I q (by simp))
  | int j=>obtain⟨t',rfl⟩:=ry;exact PySem.EqNone.eq_none_int (Az I q (by simp))
  | str j=>obtain⟨t',rfl⟩:=ry;exact PySem.EqNone.eq_none_str (Az I q (by simp))
  | _=>exact absurd (show false=true from hs) QaA
 | bl i=>
  cases rx;cases y with
  | non=>cases ry;exact PySem.EqNone.eq_bool_none (Az I q (by simp))
  | bl j=>cases ry;exact eq_bool (Az I q Q0)
  | str j=>obtain⟨t',rfl⟩:=ry;exact PySem.EqMixed.eq_bool_str (Az I q (by simp))
  | _=>exact absurd (show false=true from hs) QaA
 | int i=>
  obtain⟨t,rfl⟩:=rx;cases y with
  | non=>cases ry;exact PySem.EqNone.eq_int_none (Az I q (by simp))
  | int j=>obtain⟨t',rfl⟩:=ry;exact eq_int (Az I q Nu)
  | str j=>obtain⟨t',rfl⟩:=ry;exact PySem.EqMixed.eq_int_str (Az I q (by simp))
  | _=>exact absurd (show false=true from hs) QaA
 | str i=>
  obtain⟨t,rfl⟩:=rx;cases y with
  | non=>cases ry;exact PySem.EqNone.eq_str_none (Az I q (by simp))
  | bl j=>cases ry;exact PySem.EqMixed.eq_str_bool (Az I q (by simp))
  | int j=>obtain⟨t',rfl⟩:=ry;exact PySem.EqMixed.eq_str_int (Az I q (by simp))
  | str j=>obtain⟨t',rfl⟩:=ry;exact eq_str (Az I q Nt)
  | _=>exact absurd (show false=true from hs) QaA
 | byt i=>
  obtain⟨t,rfl⟩:=rx;cases y with
  | byt j=>obtain⟨t',rfl⟩:=ry;exact PySem.W.eq_bytes (Az I q Nv)
  | _=>exact absurd (show false=true from hs) QaA
 | _=>cases y <;> exact absurd (show false=true from hs) QaA
theorem KZ:OpR X (compareOp .NotEq) rNe:=by
 intro jb s σ H x y v u Q I rx ry h;obtain⟨hs,q⟩:=h;cases x with
 | non=>
  cases rx;cases y with
  | non=>cases ry;exact PySem.EqNone.ne_none_none (Az I q (by simp))
  | bl j=>cases ry;exact PySem.EqNone.ne_none_bool (Az I q (by simp))
  | int j=>obtain⟨t',rfl⟩:=ry;exact PySem.EqNone.ne_none_int (Az I q (by simp))
  | str j=>obtain⟨t',rfl⟩:=ry;exact PySem.EqNone.ne_none_str (Az I q (by simp))
  | _=>exact absurd (show false=true from hs) QaA
 | bl i=>
  cases rx;cases y with
  | non=>cases ry;exact PySem.EqNone.ne_bool_none (Az I q (by simp))
  | bl j=>cases ry;exact ne_bool (Az I q (congrArg not Q0))
  | str j=>obtain⟨t',rfl⟩:=ry;exact PySem.EqMixed.ne_bool_str (Az I q (by simp))
  | _=>exact absurd (show false=true from hs) QaA
 | int i=>
  obtain⟨t,rfl⟩:=rx;cases y with
  | non=>cases ry;exact PySem.EqNone.ne_int_none (Az I q (by simp))
  | int j=>obtain⟨t',rfl⟩:=ry;exact ne_int (Az I q (congrArg not Nu))
  | str j=>obtain⟨t',rfl⟩:=ry;exact PySem.EqMixed.ne_int_str (Az I q (by simp))
  | _=>exact absurd (show false=true from hs) QaA
 | str i=>
  obtain⟨t,rfl⟩:=rx;cases y with
  | non=>cases ry;exact PySem.EqNone.ne_str_none (Az I q (by simp))
  | bl j=>cases ry;exact PySem.EqMixed.ne_str_bool (Az I q (by simp))
  | int j=>obtain⟨t',rfl⟩:=ry;exact PySem.EqMixed.ne_str_int (Az I q (by simp))
  | str j=>obtain⟨t',rfl⟩:=ry;exact ne_str (Az I q (congrArg not Nt))
  | _=>exact absurd (show false=true from hs) QaA
 | byt i=>
  obtain⟨t,rfl⟩:=rx;cases y with
  | byt j=>obtain⟨t',rfl⟩:=ry;exact PySem.W.ne_bytes (Az I q (congrArg not Nv))
  | _=>exact absurd (show false=true from hs) QaA
 | _=>cases y <;> exact absurd (show false=true from hs) QaA
theorem Ow:OpR X (compareOp .Lt) (rI0 λi j=>.bl (decide (i < j))):=Ox λ_ _ _ _ _ _ _ q=>lt_int q
theorem Gm:OpR X (compareOp .LtE) (rI0 λi j=>.bl (decide (i<=j))):=Ox λ_ _ _ _ _ _ _ q=>le_int q
theorem Jj:OpR X (compareOp .Gt) (rI0 λi j=>.bl (decide (j < i))):=Ox λ_ _ _ _ _ _ _ q=>gt_int q
theorem Tg:OpR X (compareOp .GtE) (rI0 λi j=>.bl (decide (j<=i))):=Ox λ_ _ _ _ _ _ _ q=>ge_int q
theorem Bq (b:Expr) {op:CmpOp} (h:op≠.In:=by decide) (h2:op≠.NotIn:=by decide):behindInMarks op b=false:=by
 have e1:(op == CmpOp.In)=false:=by cases op <;> first | rfl | exact absurd rfl h
 have e2:(op == CmpOp.NotIn)=false:=by cases op <;> first | rfl | exact absurd rfl h2
 cases b <;> simp[behindInMarks,e1,e2]
theorem Fy {op:CmpOp} {r:R2} (ho:OpR X (compareOp op) r) (ha:PE X a ta) (hb:PE X b tb) (hm:behindInMarks op b=false):PE X (.Compare a [op] [b] pos) (tOp r ta tb):=by
 intro jb s σ H Q I h;exact wpAny_Compare1 (SJ ha hb I h λv u s2 x y H2 I2 rx ry q=>ho jb s2 σ H2 x y v u Q I2 rx ry q) hm
def Wc (t:TE):TT:=fun σ H Q=>t σ H λx H'=>∃k,x=.bl k/\Q k H'
theorem Bs {op:CmpOp} {r:R2} (ho:OpR X (compareOp op) r) (ha:PE X a ta) (hb:PE X b tb) (hm:behindInMarks op b=false):PT X (.Compare a [op] [b] pos) (Wc (tOp r ta tb)):=by
 intro jb s σ H Q I h;refine wpAny_isTrue_Compare1 (thn (ha jb s σ H _ I h) λv s1 ⟨x,H1,I1,r1,q1⟩=>thn (hb jb s1 σ H1 _ I1 q1) λu s2 ⟨y,H2,I2,r2,q2⟩=>
  thn (ho jb s2 σ H2 x y v u _ I2 r1 r2 q2) λc s3 ⟨z,H3,I3,r3,k,e,q3⟩=>?_) hm
 subst e;cases r3;exact QaP ⟨H3,I3,q3⟩
def Uy (r r':R2) (ta tb tc:TE):TE:=fun σ H Q=>ta σ H λx H1=>tb σ H1 λy H2=>r x y H2 λz H3=>∃k,z=.bl k /\
 (if k=true then tc σ H3 λw' H4=>r' y w' H4 Q else Q (.bl false) H3)
theorem Lw {op op':CmpOp} {r r':R2} (ho:OpR X (compareOp op) r) (ho':OpR X (compareOp op') r') (ha:PE X a ta) (hb:PE X b tb) (hc:PE X c tc)
  (hm:lastMarks [op,op'] [b,c]=false:=by with_unfolding_all rfl):PE X (.Compare a [op,op'] [b,c] pos) (Uy r r' ta tb tc):=by
 intro jb s σ H Q I h;refine Compare_chain (thn (ha jb s σ H _ I h) λv s1 ⟨x,H1,I1,r1,q1⟩=>chain_link (thn (hb jb s1 σ H1 _ I1 q1) λu s2 ⟨y,H2,I2,r2,q2⟩=>
  thn (ho jb s2 σ H2 x y v u _ I2 r1 r2 q2) λd s3 ⟨z,H3,I3,r3,k,e,q3⟩=>?_)) hm
 subst e;cases r3;refine QaP ?_;cases k with
 | false=>exact ite_ff ⟨.bl false,H3,I3,rfl,q3⟩
 | true=>exact ite_tt (chain_last (thn (hc jb s3 σ H3 _ I3 q3) λw' s4 ⟨z',H4,I4,r4,q4⟩=>ho' jb s4 σ H4 y z' u w' Q I4 r2 r4 q4))
theorem Jl:(sizeLine:Nat) < 2 ^ 63:=by rw[sizeLine_eq];decide
theorem vals1 {x:V} {us:YE} (r:Vals [x] us):∃u,us=[u]/\RelV x u:=by
 cases r with
 | cons r1 r2=>cases r2;exact⟨_,rfl,r1⟩
theorem vals2 {x y:V} {us:YE} (r:Vals [x,y] us):∃u w',us=[u,w']/\RelV x u/\RelV y w':=by
 cases r with
 | cons r1 r2=>
  cases r2 with
  | cons r3 r4=>cases r4;exact⟨_,_,rfl,r1,r3⟩
theorem Mv:Dd X (.builtin "abs") (λxs H Q=>∃i,xs=[.int i]/\Q (.int (if i < 0 then -i else i)) H):=by
 intro jb s σ H xs us Q I r h;obtain⟨i,rfl,q⟩:=h;obtain⟨u,rfl,t,rfl⟩:=vals1 r;exact call_abs_int λu tk=>⟨.int (if i < 0 then -i else i),H,I.tok _,⟨_,rq⟩,q⟩
theorem Fj (hc:X.calm=true):Dd X (.builtin "max") (λxs H Q=>∃i j,xs=[.int i,.int j]/\Q (.int (if j > i then j else i)) H):=by
 intro jb s σ H xs us Q I r h;obtain⟨i,j,rfl,q⟩:=h;obtain⟨u,w',rfl,⟨t,rfl⟩,⟨t',rfl⟩⟩:=vals2 r;refine max_two_ints (I.ok.hd hc) λh' tk k=>⟨_,H,I.kept k,?_,q⟩;by_cases hj:j > i
 ·rw[if_pos hj,if_pos hj];exact⟨_,rq⟩
 ·rw[if_neg hj,if_neg hj];exact⟨_,rq⟩
theorem Ra (hc:X.calm=true):Dd X (.builtin "min") (λxs H Q=>∃i j,xs=[.int i,.int j]/\Q (.int (if j < i then j else i)) H):=by
 intro jb s σ H xs us Q I r h;obtain⟨i,j,rfl,q⟩:=h;obtain⟨u,w',rfl,⟨t,rfl⟩,⟨t',rfl⟩⟩:=vals2 r;refine min_two_ints (I.ok.hd hc) λh' tk k=>⟨_,H,I.kept k,?_,q⟩;by_cases hj:j < i
 ·rw[if_pos hj,if_pos hj];exact⟨_,rq⟩
 ·rw[if_neg hj,if_neg hj];exact⟨_,rq⟩
theorem Ko:Dd X (.type "int") (λxs H Q=>(∃i,xs=[.int i]/\Q (.int i) H)\/∃k,xs=[.bl k]/\Q (.int (if k then 1 else 0)) H):=by
 intro jb s σ H xs us Q I r h;rcases h with⟨i,rfl,q⟩|⟨k,rfl,q⟩
 ·obtain⟨u,rfl,t,rfl⟩:=vals1 r;exact call_int_int ⟨.int i,H,I,⟨_,rq⟩,q⟩
 ·obtain⟨u,rfl,r1⟩:=vals1 r;cases r1;exact call_int_bool ⟨.int (if k then 1 else 0),H,I.tok _,⟨_,rq⟩,q⟩
end
structure S5 (h:Heap) (x dx C:Addr) (mA:YB):Prop where
 obj:h.get? x=some (instObj C dx)
 ns:h.Ns1 dx mA
 ne:dx≠x
theorem QH {h:Heap} {dx:Addr} {mA:YB} (n:h.Ns1 dx mA):∃od,h.get? dx=some od/\∀name,PySem.W.lookIn name od=some (mA name):=by
 obtain⟨o,es,ep,ho,hd,hk,_,hm⟩:=n;refine⟨o,ho,λname=>?_⟩;have e:=hm name;unfold nsFind findBy at e;rw[<-Array.find?_toList] at e;unfold PySem.W.lookIn;rw[hd];dsimp only;split
 ·rename_i y q;rw[q] at e;exact congrArg some e
 ·rename_i q;rw[q] at e;have a:es.toList.any (·.refKey)=false:=by
   rw[List.any_eq_false];intro y hy;obtain⟨z,t,hkey⟩:=hk y (Array.mem_toList_iff.mp hy);simp[DictEntry.refKey,hkey]
  have a':¬es.toList.any (·.refKey)=true:=by rw[a];exact QaA
  rw[if_neg a'];exact congrArg some e
theorem S5.look {h:Heap} {x dx C:Addr} {mA:YB} (I:S5 h x dx C mA):∃od,PySem.W.InstAt h x (instObj C dx) C (some od)/\∀name,PySem.W.lookIn name od=some (mA name):=
 let ⟨od,ho,hl⟩:=QH I.ns
 ⟨od,⟨I.obj,rq,rq,ho⟩,hl⟩
section
variable {prog:Program} {w:World} {A:Around} {E:YA} {s:Shared} {K:YD} {x dx C f:Addr} {mA:YB} {name:Str} {v:Value}
end
section
variable {P:Program} {w:World} {H H':Hp} {h h':Heap} {a C dx:Addr} {fs fs':List (Str×V)}
theorem Uc (hok:HOk P w H h) (e:H a=some (.ins C dx fs)):∃mA,S5 h a dx C mA/\(∀f,Ho (fs.lookup f) (mA f))/\PySem.Within mA (fs.map (·.1))/\fs.length<=1000/\H dx=some (.own a):=by
 obtain⟨d,z,ne,ob,mA,n,r,q⟩:=(show Bu P w H h a (.ins C dx fs) from hok a _ e)
 exact⟨mA,⟨ob,n,ne⟩,r,q,z,d⟩
end
structure Cls (K:YD) (C:Addr):Prop where
 pg:PySem.W.plainGet K C Str.empty=true
 hd:PySem.W.hasDictIn K C=true
 po:PySem.W.plainOver K C=true
 sa:findIn K (.ref C) "__setattr__"=some (some (.builtin "object.__setattr__"))
theorem Cls.get {K:YD} {C:Addr} (c:Cls K C) (f:Str):PySem.W.plainGet K C f=true:=c.pg
structure Meth (K:YD) (C:Addr) (m:Str) (f:Addr):Prop where
 at_:findIn K (.ref C) m=some (some (.ref f))
 fn:PySem.W.isFn K (.ref f)=true
 kp:keepIn K (.ref f)=true
section
variable {X:Cx} {jb:YC} {σ : St} {H:Hp} {s:Shared} {a C dx:Addr} {fs:List (Str×V)} {f:Str} {v:V} {A:Around} {E:YA}
theorem Inv.made (I:Inv X jb σ H s):Inv X jb σ (upd (upd H s.heap.objs.size (.own (s.heap.objs.size+1))) (s.heap.objs.size+1) (.ins C s.heap.objs.size []))
  { s with heap:=(s.heap.push emptyDict).push (instObj C s.heap.objs.size) }:=by
 have e1:(s.heap.push emptyDict).get? s.heap.objs.size=some emptyDict:=Qat s.heap rfl;have e2:((s.heap.push emptyDict).push (instObj C s.heap.objs.size)).get? (s.heap.objs.size+1)=some (instObj C s.heap.objs.size):=by
  have:=Qat (s.heap.push emptyDict) (o:=instObj C s.heap.objs.size) rfl
  rwa [Qbp] at this
 have e3:(s.heap.push emptyDict).Ns s.heap.objs.size (λ_=>none):=⟨emptyDict,#[],_,e1,rq,(λe he=>absurd he (by simp)),λ_=>rfl⟩;have I1:=I.laid (a:=s.heap.objs.size) (o:=.own (s.heap.objs.size+1)) (h':=s.heap.push emptyDict) (t':=s.toks) (λb u q=>Qaj _ q) (QbE _) ⟨_,e1⟩;refine I1.laid (a:=s.heap.objs.size+1) (o:=.ins C s.heap.objs.size []) (t':=s.toks) (λb u q=>Qaj _ q) (Nat.le_of_eq (Qbp _ _)) ?_;have ne:s.heap.objs.size≠s.heap.objs.size+1:=QbB (QaW _);refine⟨by rw[Aw ne,Ac],QbF _,ne,e2,λ_=>none,(Heap.Ns1.of_empty e3).at λo q=>Qaj _ q,λ_=>True.intro,λy hy=>absurd rfl hy⟩
end
section
variable {X:Cx} {o e value:Expr} {f:Str} {pos pos' tpos:Pos} {ta tv:TE}
end
section
variable {X:Cx} {jb:YC} {σ : St} {H:Hp} {s:Shared} {A:Around} {E:YA} {Q:YA} {c:Value} {b:Bool}
inductive Eu (K:YD) (H:Hp):V->Value->Prop where
 | non:Eu K H .non (.type "NoneType")
 | bl (x:Bool):Eu K H (.bl x) (.type "bool")
 | int (i:Int):Eu K H (.int i) (.type "int")
 | str (x:Str):Eu K H (.str x) (.type "str")
 | flt (x:UInt64):Eu K H (.flt x) (.type "float")
 | lst {a:Addr} {xs:YG} (e:H a=some (.lst xs)):Eu K H (.ref a) (.type "list")
 | frz {a:Addr} {o:Obj} {xs:YG} (e:H a=some (.frz o (.lst xs))):Eu K H (.ref a) (.type "list")
 | tup {a:Addr} {xs:YG} (e:H a=some (.tup xs)):Eu K H (.ref a) (.type "tuple")
 | dK {a:Addr} {kvs:List (Key×V)} (e:H a=some (.dK kvs)):Eu K H (.ref a) (.type "dict")
 | dT {a:Addr} {kvs:List (List Key×V)} (e:H a=some (.dT kvs)):Eu K H (.ref a) (.type "dict")
 | ins {a C dx:Addr} {fs:List (Str×V)} (e:H a=some (.ins C dx fs)) (cl:Cls K C) (ha:findIn K (.ref C) "__class__"=some (some (.builtin "object.__class__")))
   (hn:PySem.W.specialIn K (.builtin "object.__class__") "__get__"=some (some (.builtin "getset_descriptor.__get__"))) (htk:PySem.W.takesIn K (.builtin "object.__class__")=some true)
   (hm:PySem.W.mroIn K C (.type "object")=some true):Eu K H (.ref a) (.ref C)
theorem QK {x:V} {u t:Value} (I:Inv X jb σ H s) (rx:RelV x u) (ty:Eu X.K H x t) (e:kitOne X.K t c=some b) (h:∀tk,Q (.bool b) { s with toks:=tk }) :
  wpAny (model X.prog X.w) A (call (.builtin "isinstance") [u,c]) Q E s:=by
 cases ty with
 | non=>cases (show u=Value.none from rx);exact kia_one PySem.W.kitx_none I.kIn True.intro e (λz=>nomatch z) h
 | bl y=>cases (show u=Value.bool y from rx);exact kia_one PySem.W.kitx_bool I.kIn True.intro e (λz=>nomatch z) h
 | int i=>obtain⟨t,q⟩:=(show ∃t,u=Value.int i t from rx);cases q;exact kia_one PySem.W.kitx_int I.kIn True.intro e (λz=>nomatch z) h
 | str y=>obtain⟨t,q⟩:=(show ∃t,u=Value.str y t from rx);cases q;exact kia_one PySem.W.kitx_str I.kIn True.intro e (λz=>nomatch z) h
 | flt y=>obtain⟨t,q⟩:=(show ∃t,u=Value.float y t from rx);cases q;exact kia_one PySem.W.kitx_float I.kIn True.intro e (λz=>nomatch z) h
 | @lst a xs ea=>
  cases (show u=Value.ref a from rx)
  obtain⟨_,_,n,_,h1⟩:=(show Bu X.prog X.w H s.heap a (.lst xs) from I.hok a _ ea)
  exact kia_one PySem.W.kitx_list I.kIn ⟨_,h1,rq⟩ e (λz=>nomatch z) h
 | @frz a ob xs ea=>
  cases (show u=Value.ref a from rx)
  obtain⟨_,_,_,n,_,h1⟩:=(show Bu X.prog X.w H s.heap a (.frz ob (.lst xs)) from I.hok a _ ea)
  exact kia_one PySem.W.kitx_list I.kIn ⟨_,h1,rq⟩ e (λz=>nomatch z) h
 | @tup a xs ea=>
  cases (show u=Value.ref a from rx)
  obtain⟨_,_,_,p⟩:=(show Bu X.prog X.w H s.heap a (.tup xs) from I.hok a _ ea)
  obtain⟨o,h1,h2,_⟩:=p;exact kia_one PySem.W.kitx_tuple I.kIn ⟨o,h1,h2⟩ e (λz=>nomatch z) h
 | @dK a kvs ea=>
  cases (show u=Value.ref a from rx)
  obtain⟨_,_,vs,_,p⟩:=(show Bu X.prog X.w H s.heap a (.dK kvs) from I.hok a _ ea)
  obtain⟨o,es,ep,h1,h2,_⟩:=p;exact kia_one PySem.W.kitx_dict I.kIn ⟨o,h1,h2.1⟩ e (λz=>nomatch z) h
 | @dT a kvs ea=>
  cases (show u=Value.ref a from rx)
  obtain⟨_,_,xs,_,o,es,ep,h1,h2,_⟩:=(show Bu X.prog X.w H s.heap a (.dT kvs) from I.hok a _ ea)
  exact kia_one PySem.W.kitx_dict I.kIn ⟨o,h1,h2.1⟩ e (λz=>nomatch z) h
 | @ins a C dx fs ea cl ha hn htk hm=>
  cases (show u=Value.ref a from rx)
  obtain⟨mA,O,_⟩:=Uc I.hok ea;obtain⟨od,J,_⟩:=O.look;exact kia_one (PySem.W.kitx_own (cl.get _) cl.hd ha hn htk hm) I.kIn J e (λz=>nomatch z) h
end
structure BK (k:Nat) (A:Around):Prop where
 hd:A.handled=none
 dp:A.depth+3*k+5 < recursionLimit
 un:A.units+16*k+200 < cLine
theorem BK.mono {j k:Nat} {A:Around} (r:BK k A) (h:j<=k):BK j A:=⟨r.hd,by have:=r.dp;omega,by have:=r.un;omega⟩
theorem BK.deeper {k:Nat} {A:Around} (r:BK (k+1) A) (env:Env):BK k (A.deeper env):=
 ⟨r.hd,by have:=r.dp;show A.depth+1+3*k+5 < _;omega,by have:=r.un;show A.units+3+16*k+200 < _;omega⟩
theorem BK.in1 {k:Nat} {A:Around} (r:BK (k+1) A):BK k A.in1:=
 ⟨r.hd,by have:=r.dp;show A.depth+3*k+5 < _;omega,by have:=r.un;show A.units+1+16*k+200 < _;omega⟩
theorem BK.depth {k:Nat} {A:Around} (r:BK k A):A.depth < recursionLimit:=by have:=r.dp;omega
theorem BK.units {k:Nat} {A:Around} (r:BK k A):A.units+64 < cLine:=by have:=r.un;omega
def Ju:TA:=λ_ H Q=>Q [] H
def CK (ta:TE) (tr:TA):TA:=fun σ H Q=>ta σ H λx H1=>tr σ H1 λxs H2=>Q (x::xs) H2
section
variable {X:Cx} {e:Expr} {es:YJ} {te:TE} {t:TA} {pos:Pos}
theorem Ab:PA X [] Ju:=λ_ _ _ _ H Q I h=>Calls.spliced_nil ⟨[],H,I,.nil,h⟩
theorem Aa (ha:PE X e te) (hr:PA X es t) (hs:starEach (e::es) X.env=(false,eval e X.env)::starEach es X.env:=by rfl):PA X (e::es) (CK te t):=by
 intro pos jb s σ H Q I h;rw[hs];show wpAny _ _ (spliced ((false,eval e X.env)::backTo pos (starEach es X.env))) _ _ s;refine Calls.spliced_cons (thn (ha jb s σ H _ I h) λu s1 zz=>?_);obtain⟨x,H1,I1,r1,q1⟩:=zz;refine thn (hr pos jb s1 σ H1 _ I1 q1) λus s2 zz=>?_;obtain⟨xs,H2,I2,r2,q2⟩:=zz;exact⟨x::xs,H2,I2,.cons r1 r2,q2⟩
def WQ (t:TA):TE:=fun σ H Q=>t σ H λxs H1=>xs.length<=sizeLine/\∀p,H1 p=none->Q (.ref p) (upd H1 p (.tup xs))
def WW (t:TA):TE:=fun σ H Q=>t σ H λxs H1=>xs.length<=sizeLine/\∀p,H1 p=none->Q (.ref p) (upd H1 p (.lst xs))
theorem Aj {x1} (h:PA X es t):PE X (.Tuple es x1 pos) (WQ t):=by
 intro jb s σ H Q I hq;refine wpAny_Tuple_spliced (thn (h pos jb s σ H _ I hq) λus s1 zz=>?_);obtain⟨xs,H1,I1,r,z,q⟩:=zz;refine⟨by rw[<-r.length];exact z,?_⟩;have hf:H1 s1.heap.objs.size=none:=I1.hok.fresh (QbE _);refine⟨.ref s1.heap.objs.size,upd H1 s1.heap.objs.size (.tup xs),I1.laid (t':=s1.toks) (λb u e=>Qaj _ e) (QbE _) ?_,rq,q _ hf⟩;exact⟨z,us,r,⟨_,Qat _ rfl,rq,_,rq⟩⟩
theorem GF (h:PA X es t):PE X (.List es pos) (WW t):=by
 intro jb s σ H Q I hq;refine wpAny_List_spliced (thn (h pos jb s σ H _ I hq) λus s1 zz=>?_);obtain⟨xs,H1,I1,r,z,q⟩:=zz;refine⟨by rw[<-r.length];exact z,?_⟩;have hf:H1 s1.heap.objs.size=none:=I1.hok.fresh (QbE _);refine⟨.ref s1.heap.objs.size,upd H1 s1.heap.objs.size (.lst xs),I1.laid (t':=s1.toks) (λb u e=>Qaj _ e) (QbE _) ?_,rq,q _ hf⟩;exact⟨z,us,0,r,Qat _ rfl⟩
end
abbrev Sp:=YG->Hp->VK->XK->Prop
abbrev CXT:=List Env->Hp->Shared->XK->YA
structure Jc (P:Program) (w:World) (K:YD) (mg:YB) (base:Heap) (A:Around) (outer:List Env) (s:Shared) (H:Hp):Prop where
 frames:A.frames=some outer
 mod:Mod K mg base
 bs:∀b o,base.get? b=some o->s.heap.get? b=some o/\H b=none
 bsz:base.objs.size<=s.heap.objs.size
 Et:s.heap.FunFrames base outer
 frf:∀b∈frs outer,H b=none
 hok:HOk P w H s.heap
 bare:AllBare s.gens
def CE (outer:List Env) (P:Program) (w:World) (H:Hp) (s:Shared) (Q:VK) (u:Value) (s':Shared):Prop:=
 ∃v H',s'.os=s.os/\AllBare s'.gens/\Un (frs outer) [] H H' s.heap s'.heap/\HOk P w H' s'.heap/\RelV v u/\Q v H'
def CR (CX:CXT) (outer:List Env) (P:Program) (w:World) (H:Hp) (s:Shared) (Q:VK) (E:XK) (r:Result) (s':Shared):Prop:=
 match r with
 | .ok (.ret u)=>CE outer P w H s Q u s'
 | .ok _=>False
 | .error e=>CX outer H s E e s'
structure Du (P:Program) (w:World) (K:YD) (mg:YB) (base:Heap) (CX:CXT) (k:Nat) (f:Addr) (fd:FuncData) (ps:YF) (sp:Sp):Prop where
 len:∀vs H Q E,sp vs H Q E->vs.length=ps.length
 run:∀(A:Around) (outer:List Env) (s:Shared) (H:Hp) (args:Args) (us:YE) (vs:YG) (Q:VK) (E:XK),BK k A->Jc P w K mg base A outer s H->BindsTo s fd args (ps.zip us)->Vals vs us->sp vs H Q E ->
  codeAny (model P w) A (.call (.ref f) args) (CR CX outer P w H s Q E) s
theorem Du.mono {P:Program} {w:World} {K:YD} {mg:YB} {base:Heap} {CX:CXT} {j k:Nat} {f:Addr} {fd:FuncData} {ps:YF} {sp:Sp} (F:Du P w K mg base CX j f fd ps sp) (h:j<=k) :
  Du P w K mg base CX k f fd ps sp:=⟨F.len,λA outer s H args us vs Q E hr=>F.run A outer s H args us vs Q E (hr.mono h)⟩
theorem Du.imp {P:Program} {w:World} {K:YD} {mg:YB} {base:Heap} {CX:CXT} {k:Nat} {f:Addr} {fd:FuncData} {ps:YF} {sp sp':Sp} (F:Du P w K mg base CX k f fd ps sp)
  (h:∀vs H Q E,sp' vs H Q E->sp vs H Q E):Du P w K mg base CX k f fd ps sp':=
 ⟨λvs H Q E q=>F.len vs H Q E (h _ _ _ _ q),λA outer s H args us vs Q E hr he hb hv hs=>F.run A outer s H args us vs Q E hr he hb hv (h _ _ _ _ hs)⟩
theorem Jc.in1 {P:Program} {w:World} {K:YD} {mg:YB} {base:Heap} {A:Around} {outer:List Env} {s:Shared} {H:Hp} (e:Jc P w K mg base A outer s H) :
  Jc P w K mg base A.in1 outer s H:=⟨e.frames,e.mod,e.bs,e.bsz,e.Et,e.frf,e.hok,e.bare⟩
section
variable {X:Cx} {jb:YC} {σ : St} {H:Hp} {s s':Shared}
theorem Inv.env0 (I:Inv X jb σ H s):Jc X.prog X.w X.K X.mg X.base X.A X.stack s H:=
 ⟨I.ok.frames,I.ok.mod,I.bs,QbC I.ok.bsz I.sz,I.stack,I.Jv,I.hok,I.bare⟩
theorem Inv.after {Q:VK} {u:Value} (I:Inv X jb σ H s) (h:CE X.stack X.prog X.w H s Q u s'):EP X jb σ Q u s':=by
 obtain⟨v,H',os,bare,un,hok,r,q⟩:=h;obtain⟨hh,g,d,t,os'⟩:=s';obtain rfl:os'=s.os:=os;exact⟨v,H',I.call (h':=hh) (g':=g) (d':=d) (t':=t) (ch:=[]) un hok bare (λb z=>absurd z (by simp)),r,q⟩
end
def N7 (sp:Sp) (dvs:YG) (E:XK) (t:TA):TE:=fun σ H Q=>t σ H λvs H1=>sp (vs++dvs) H1 Q E
def Binds (K:YD) (fd:FuncData) (ps:YF) (ds:YE):Prop:=
 ∀(s:Shared) (us:YE),K.In s.heap->(us++ds).length=ps.length->BindsTo s fd ⟨us,[]⟩ (ps.zip (us++ds))
theorem Binds.all {K:YD} {fd:FuncData} {ps:YF} (h:∀us:YE,us.length=ps.length->bindArgs fd ⟨us,[]⟩=pure (ps.zip us)):Binds K fd ps []:=λs us _ hl=>by
 rw[List.append_nil] at hl ⊢;exact .of_eq (h us hl)
def Passes (CX:CXT) (X:Cx) (E:XK):Prop:=∀(jb:YC) (σ : St) (H:Hp) (s:Shared) (e:Value) (s':Shared),Inv X jb σ H s->CX X.stack H s E e s'->X.xe e s'
section
variable {X:Cx} {CX:CXT} {k:Nat} {f C:Addr} {fd:FuncData} {ps:YF} {sp:Sp} {dvs:YG} {ds:YE} {E:XK} {x m:Str} {p pos apos:Pos} {e o:Expr} {es:YJ} {ta:TE} {t:TA}
theorem Qs {jb:YC} {σ : St} {H:Hp} {s:Shared} {Q:VK} {us:YE} {vs:YG} (F:Du X.prog X.w X.K X.mg X.base CX k f fd ps sp) (hr:BK k X.A) (hb:Binds X.K fd ps ds) (hd:Vals dvs ds) (hx:Passes CX X E)
  (I:Inv X jb σ H s) (r:Vals vs us) (h:sp (vs++dvs) H Q E):wpAny (model X.prog X.w) X.A (call (.ref f) us) (EP X jb σ Q) X.xe s:=by
 have r2:Vals (vs++dvs) (us++ds):=r.append hd;have hl:(us++ds).length=ps.length:=by rw[<-r2.length];exact F.len _ _ _ _ h
 refine wpAny_call (codeAny_mono (F.run X.A X.stack s H ⟨us,[]⟩ (us++ds) (vs++dvs) Q E hr I.env0 (hb s us I.kIn hl) r2 h) λr s' hq=>?_);cases r with
 | error e=>exact hx jb σ H s e s' I hq
 | ok fl=>
  cases fl with
  | ret u=>exact I.after hq
  | next=>exact False.elim hq
  | brk=>exact False.elim hq
  | cont=>exact False.elim hq
theorem T4 (F:Du X.prog X.w X.K X.mg X.base CX k f fd ps sp) (hr:BK k X.A) (hg:Gl X x) (hm:X.mg x=some (.ref f)) (hk:keepIn X.K (.ref f)=true) (hb:Binds X.K fd ps ds) (hd:Vals dvs ds) (hx:Passes CX X E)
  (ha:PA X (e::es) t) (hdb:(x == ("__debug__":Str))=false:=by decide) (he:starEach (e::es) X.env=(false,eval e X.env)::starEach es X.env:=by rfl) (hpl:(backTo pos (starEach es X.env)).any (·.1)=false:=by rfl) :
  PE X (.Call (.Name x p) (e::es) [] pos) (N7 sp dvs E t):=by
 intro jb s σ H Q I h;refine QaG (Ni I hg hm ?_ hdb);refine PySem.W.callWith_K (h₀:=X.base) I.ok.mod.kin hk (thn (ha pos jb s σ H _ I h) λus s1 zz=>?_) he hpl;obtain⟨vs,H1,I1,r,q⟩:=zz;refine⟨I1.kIn,?_⟩;exact Qs F hr hb hd hx I1 r q
end
section
variable {X:Cx} {CX:CXT} {k:Nat} {f C:Addr} {fd:FuncData} {ps ks:YF} {sp:Sp} {E:XK} {x m:Str} {p pos apos kpos:Pos} {e o:Expr} {es:YJ} {kws:List Keyword} {te ta:TE} {t tk:TA} {nm:Option Str}
variable {g:YE->YE->YE} {gV:YG->YG->YG}
end
structure Bm (N P:YF) (sc:Scope):Prop where
 kind:sc.kind=.function
 co:sc.isCoroutine=false
 gen:sc.isGenerator=false
 nd:N.Nodup
 pre:N.take P.length=P
 par:∀x∈P,sc.names.lookup x=some .local\/sc.names.lookup x=some .cell
 LC:∀y∈sc.names,y.2≠.free
theorem Kp {kindOf:Str->Option NameKind} {x:Str}:∀{binds:List (Str×Value)} {m:YB},(∀v,(x,v)∉binds)->bindL kindOf binds m x=m x
 | [],_,_=>rfl
 | (n,v)::r,m,h=>by
  unfold bindL;rw[Kp λw hw=>h w (Qaq _ hw)];split
  ·have:x≠n:=by rintro rfl;exact h v QaF
   simp[this]
  ·rfl
theorem Kr {kindOf:Str->Option NameKind} {x:Str}:∀{binds:List (Str×Value)} {m:YB},(∀v,(x,v)∉binds)->bindC kindOf binds m x=m x
 | [],_,_=>rfl
 | (n,v)::r,m,h=>by
  unfold bindC;rw[Kr λw hw=>h w (Qaq _ hw)];split
  ·rfl
  ·have:x≠n:=by rintro rfl;exact h v QaF
   simp[this]
theorem Kq {kindOf:Str->Option NameKind} {x:Str} {v:Value}:∀{P:YF} {vs:YE} {i:Nat} {m:YB},P.Nodup->P[i]?=some x->vs[i]?=some v->kindOf x=some .local ->
  bindL kindOf (P.zip vs) m x=some v
 | [],_,_,_,_,h,_,_=>by simp at h
 | _::_,[],_,_,_,_,h,_=>by simp at h
 | p::P,w::vs,0,m,nd,h1,h2,hk=>by
  simp at h1 h2;subst h1;subst h2;show bindL kindOf ((p,w)::P.zip vs) m p=_;unfold bindL;rw[Kp λv hv=>(Qbi.mp nd).1 (List.of_mem_zip hv).1,if_pos hk];simp
 | p::P,w::vs,i+1,m,nd,h1,h2,hk=>by
  show bindL kindOf ((p,w)::P.zip vs) m x=_;unfold bindL;exact Kq (i:=i) (Qbi.mp nd).2 (by simpa using h1) (by simpa using h2) hk
theorem Ks {kindOf:Str->Option NameKind} {x:Str} {v:Value}:∀{P:YF} {vs:YE} {i:Nat} {m:YB},P.Nodup->P[i]?=some x->vs[i]?=some v->kindOf x≠some .local ->
  bindC kindOf (P.zip vs) m x=some v
 | [],_,_,_,_,h,_,_=>by simp at h
 | _::_,[],_,_,_,_,h,_=>by simp at h
 | p::P,w::vs,0,m,nd,h1,h2,hk=>by
  simp at h1 h2;subst h1;subst h2;show bindC kindOf ((p,w)::P.zip vs) m p=_;unfold bindC;rw[Kr λv hv=>(Qbi.mp nd).1 (List.of_mem_zip hv).1,if_neg hk];simp
 | p::P,w::vs,i+1,m,nd,h1,h2,hk=>by
  show bindC kindOf ((p,w)::P.zip vs) m x=_;unfold bindC;exact Ks (i:=i) (Qbi.mp nd).2 (by simpa using h1) (by simpa using h2) hk
def start (N:YF) (vs:YG):St:=vs.map some++List.replicate (N.length - vs.length) none
def Ia (CX:CXT) (P:Program) (w:World) (K:YD) (mg:YB) (base:Heap) (N:YF) (qual:Str) (scope:Scope) (f:Addr) (cd:Value) (A:Around) (outer:List Env) (s:Shared) (H:Hp) (E:XK):Cx where
 prog:=P
 w:=w
 K:=K
 mg:=mg
 base:=base
 A:=A.deeper (envOfC qual scope s.heap.objs.size f cd)
 N:=N
 s₀:=s
 H₀:=H
 env:=envOfC qual scope s.heap.objs.size f cd
 outer:=outer
 stack:=envOfC qual scope s.heap.objs.size f cd::outer
 ex:=[]
 calm:=true
 fn:=λ_=>true
 pn:=[]
 xe:=λe s'=>wpAny (model P w) (A.deeper (envOfC qual scope s.heap.objs.size f cd)) (leaving (envOfC qual scope s.heap.objs.size f cd) e) (λ_ s''=>CX outer H s E e s'') (λe' s''=>CX outer H s E e' s'') s'
theorem Mu {sc:Scope} {n:Nat} {x:Str} (h:sc.names.lookup x=some .cell):∃c,(cellsFrom n sc.names []).lookup x=some c:=by
 have q:=PySem.W.cellsFrom_some sc.names n [] (.inl h);exact Option.isSome_iff_exists.mp q
theorem QS {CX:CXT} {P:Program} {w:World} {K:YD} {mg:YB} {base:Heap} {N ps:YF} {qual:Str} {scope:Scope} {f:Addr} {cd:Value} {A:Around} {outer:List Env} {s s1:Shared} {H:Hp} {E:XK} {us:YE} {vs:YG}
  (S:Bm N ps scope) (hd:A.handled=none) (e0:Jc P w K mg base A outer s H) (hl:vs.length=ps.length) (r:Vals vs us)
  (x:InCallC s s.heap.objs.size (bindL (envOfC qual scope s.heap.objs.size f cd).kindOf (ps.zip us) λ_=>none) (cellsFrom (s.heap.objs.size+1) scope.names []) (bindC (envOfC qual scope s.heap.objs.size f cd).kindOf (ps.zip us) λ_=>none) s1) :
  Inv (Ia CX P w K mg base N qual scope f cd A outer s H E) [] (start N vs) H s1:=by
 have hpl:ps.length<=N.length:=by have:=congrArg List.length S.pre;rw[QaV] at this;omega
 obtain⟨h1,tk,rfl,hk⟩:=x.done;have noA:∀b:Addr,b∉(Ia CX P w K mg base N qual scope f cd A outer s H E).ex:=λb z=>absurd (show b∈([]:List Addr) from z) (by simp)
 refine⟨⟨e0.mod,S.kind,rq,rq,QbE _,λy z c h1 h2=>?_,λy hy=>?_,λy c _ h=>?_,λ_=>hd,Around.frames_deeper e0.frames,.inr ⟨rq,rq⟩,λb z=>absurd z (noA b),e0.bs,e0.bsz,λb _ _=>noA b,λb z=>absurd z (noA b),e0.Et,e0.frf⟩,
  rfl,e0.bare,Un.kept hk,⟨_,x.toInCall.ns,λi y v h1 h2 h3=>?_⟩,λy c h=>⟨_,x.cell y c h⟩,e0.hok.fresh (QbE _),λy c h=>?_,λp hp=>absurd (show p∈([]:YC) from hp) (by simp),e0.hok.kept hk,?_⟩
 ·exact name_of_addr x.apart (Qaw h1) (Qaw h2)
 ·have hy:scope.names.lookup y=some .cell\/scope.names.lookup y=some .free:=hy;rcases hy with hy | hy
  ·exact Mu hy
  ·exact absurd rfl (S.LC _ (Qaw hy))
 ·exact Nat.le_of_lt (x.above y c (Qaw h))
 ·have hi:i < vs.length:=by
   unfold start at h2;by_cases hi:i < vs.length
   ·exact hi
   ·rw[List.getElem?_append_right (by simpa using hi)] at h2;rw[List.getElem?_replicate] at h2;split at h2 <;> cases h2
  have ha:vs[i]?=some v:=by
   unfold start at h2;rw[List.getElem?_append_left (by simpa using hi),QaK] at h2;cases e:vs[i]? with
   | none=>rw[e] at h2;cases h2
   | some a=>rw[e] at h2;cases h2;rfl
  obtain⟨u,hu,rv⟩:=r.get ha;have hp:ps[i]?=some y:=by
   rw[<-S.pre,List.getElem?_take_of_lt (by omega)];exact h1
  have ndP:ps.Nodup:=by rw[<-S.pre];exact S.nd.sublist (List.take_sublist _ _)
  refine⟨u,rv,?_⟩;rcases S.par y (Qap hp) with k | k
  ·exact .inl ⟨k,Kq ndP hp hu k⟩
  ·obtain⟨c,e⟩:=Mu (n:=s.heap.objs.size+1) k;refine .inr ⟨.inl k,c,e,?_⟩;have q:=x.cell y c e;rw[Ks ndP hp hu (by show scope.names.lookup y≠_;rw[k];decide)] at q;exact q
 ·exact e0.hok.fresh (Nat.le_of_lt (x.above y c (Qaw h)))
 ·unfold start;show _=N.length;rw[Qax,Qbc,List.length_replicate];omega
theorem Wx {CX:CXT} {P:Program} {w:World} {K:YD} {mg:YB} {base:Heap} {k:Nat} {f:Addr} {name qual:Str} {params:Arguments} {body:List Stmt} {scope:Scope} {dV kV doc pm cdv ct oc:Value} {an od:Option Addr}
  {osl:YI} {N ps:YF} {sp:Sp} (lk:K.lookup f=some ⟨oc,od,.func (fnOf name qual params body scope dV kV doc pm an cdv ct),osl⟩) (hcd:codeIn K cdv qual=true) (S:Bm N ps scope)
  (len:∀vs H Q E,sp vs H Q E->vs.length=ps.length)
  (hbody:∀(A:Around) (outer:List Env) (s:Shared) (H:Hp) (vs:YG) (Q:VK) (E:XK),BK k (A.deeper (envOfC qual scope s.heap.objs.size f cdv))->sp vs H Q E ->
   ∃t,PSs (Ia CX P w K mg base N qual scope f cdv A outer s H E) body t/\t { nx:=λ_ H'=>Q .non H',rt:=Q } (start N vs) H) :
  Du P w K mg base CX (k+1) f (fnOf name qual params body scope dV kV doc pm an cdv ct) ps sp:=by
 refine⟨len,λA outer s H args us vs Q E hr e0 hb r hsp=>?_⟩;have hl:=len _ _ _ _ hsp;have KX:K.In s.heap:=e0.mod.kin.keeps λb o e=>(e0.bs b o e).1;have lim:s.heap.NoLimit:=e0.mod.nolimit.keeps λb o e=>(e0.bs b o e).1;have hkind:∀y∈ps.zip us,scope.names.lookup y.1=some .local\/(scope.names.lookup y.1=some .cell/\((cellsFrom (s.heap.objs.size+1) scope.names []).lookup y.1).isSome=true):=λ⟨n,v⟩ hy=>by
  rcases S.par n (List.of_mem_zip hy).1 with q | q
  ·exact .inl q
  ·exact .inr ⟨q,PySem.W.cellsFrom_some _ _ _ (.inl q)⟩
 refine codeAny_call_function hr.depth (KX _ _ lk) rfl S.co S.gen rfl (PySem.W.codeRec_of KX hcd) (hb _ _ _ _ ?_);refine wpAny_newFunctionEnv_cells S.kind hkind λenv he s1 x=>?_;subst he;refine⟨lim.keeps x.toInCall.keep,codeAny_func ?_⟩;obtain⟨t,ht,hq⟩:=hbody A outer s H vs Q E (hr.deeper _) hsp;have I:Inv (Ia CX P w K mg base N qual scope f cdv A outer s H E) [] (start N vs) H s1:=QS S hr.hd e0 hl r x;refine QbJ (ht [] s1 (start N vs) H _ I hq) (λfl s' hs=>?_) λe s' hs=>hs;have fin:∀{σ':St} {H':Hp} {v:V} {u:Value},Inv (Ia CX P w K mg base N qual scope f cdv A outer s H E) [] σ' H' s'->RelV v u->Q v H'->CE outer P w H s Q u s':=
  λ{σ' H' v u} J rv q=>⟨v,H',J.os,J.bare,J.base,J.hok,rv,q⟩
 cases fl with
 | ret u=>
  obtain⟨v,σ',H',J,rv,q⟩:=hs;exact fin J rv q
 | next=>
  obtain⟨σ',H',J,q⟩:=hs;exact fin (v:=V.non) (u:=Value.none) J rfl q
 | brk=>
  obtain⟨_,_,_,q⟩:=hs;exact False.elim q
 | cont=>
  obtain⟨_,_,_,q⟩:=hs;exact False.elim q
section
variable {X:Cx} {x:Str} {p pos:Pos} {e:Expr} {es:YJ} {t:TA} {id T:String} {r:YG->Hp->VK->Prop}
def tCB (r:YG->Hp->VK->Prop) (t:TA):TE:=fun σ H Q=>t σ H λvs H1=>r vs H1 Q
theorem Ak (hc:Dd X (.builtin id) r) (hg:Gl X x) (hm:X.mg x=none) (hv:bootBuiltins x=some (.builtin id)) (ha:PA X (e::es) t) (hn:x≠"__name__":=by decide) (hdb:(x == ("__debug__":Str))=false:=by decide)
  (he:starEach (e::es) X.env=(false,eval e X.env)::starEach es X.env:=by rfl) (hpl:(backTo pos (starEach es X.env)).any (·.1)=false:=by rfl):PE X (.Call (.Name x p) (e::es) [] pos) (tCB r t):=by
 intro jb s σ H Q I h;refine QaG (Fi I hg hm hv ?_ hn hdb);refine PyProof.Rows.callWith_builtin1 (thn (ha pos jb s σ H _ I h) λus s1 zz=>?_) he hpl;obtain⟨vs,H1,I1,r1,q1⟩:=zz;exact hc jb s1 σ H1 vs us Q I1 r1 q1
theorem Cy (hc:Dd X (.type T) r) (hg:Gl X x) (hm:X.mg x=none) (hv:bootBuiltins x=some (.type T)) (ha:PA X (e::es) t) (hn:x≠"__name__":=by decide) (hdb:(x == ("__debug__":Str))=false:=by decide)
  (he:starEach (e::es) X.env=(false,eval e X.env)::starEach es X.env:=by rfl) (hpl:(backTo pos (starEach es X.env)).any (·.1)=false:=by rfl):PE X (.Call (.Name x p) (e::es) [] pos) (tCB r t):=by
 intro jb s σ H Q I h;refine QaG (Fi I hg hm hv ?_ hn hdb);refine Qac (thn (ha pos jb s σ H _ I h) λus s1 zz=>?_) he hpl;obtain⟨vs,H1,I1,r1,q1⟩:=zz;exact hc jb s1 σ H1 vs us Q I1 r1 q1
end
end L2
namespace HT
open PySem PyProof.Rows
section
open PySem.SeqAt
open PySem.AutoSeq1 (wpAny_loadPart')
open PySem.MeetsSeq PySem.MeetsSeq2 PySem.MeetsSeq3
end
section
variable {prog:Program} {w:World} {A:Around} {E:YA} {s:Shared}
theorem Uk {t b:Addr} {vs ws:YE} {Q:YA} (ht:IsTup s.heap t vs.toArray) (hb:IsTup s.heap b ws.toArray) (hv:vs≠[])
  (h1:ws=[]->Q (.ref t) s) (h2:ws≠[]->Q (.ref s.heap.objs.size) { s with heap:=s.heap.push { cls:=.type "tuple",data:=.seq (vs++ws).toArray } })
  (hsz:vs.length+ws.length<=sizeLine):wpAny (model prog w) A (binaryOp .Add (.ref t) (.ref b)) Q E s:=by
 obtain⟨⟨cls,dd,data,sl⟩,ho,hc,n,hd⟩:=id ht;obtain⟨⟨cls2,dd2,data2,sl2⟩,ho2,hc2,n2,hd2⟩:=id hb;simp only at hc hd hc2 hd2;subst hc hd hc2 hd2;have e:vs.toArray++ws.toArray=(vs++ws).toArray:=by simp
 by_cases hw:ws=[]
 ·exact concat_meets ⟨_,ho,rq⟩ ⟨_,ho2,rq⟩ noFill_tuple_add seq_tuple_add PySem.F.slot_tuple_add PySem.F.entry_tuple_add (PySem.F.args_tuple_add_2 _ _)
   (tuple_addW1 t b vs.toArray ws.toArray n n2 dd dd2 sl sl2 (by simpa using hv) (by simp[hw])) ⟨ho,ho2,h1 hw⟩
 ·refine concat_meets ⟨_,ho,rq⟩ ⟨_,ho2,rq⟩ noFill_tuple_add seq_tuple_add PySem.F.slot_tuple_add PySem.F.entry_tuple_add (PySem.F.args_tuple_add_2 _ _)
   (tuple_addW2 t b vs.toArray ws.toArray n n2 dd dd2 sl sl2 (by simpa using hv) (by simpa using hw) (by rw[QaJ,QaJ];exact hsz)) ⟨ho,ho2,?_⟩
  rw[e];exact h2 hw
def sIx (n d:Nat):Option Int->Nat
 | none=>d
 | some v=>if v < 0 then (v+(n:Int)).toNat else min v.toNat n
theorem Rn (n d:Nat):sIx n d none=d:=rfl
theorem TJ (n d k:Nat):sIx n d (some (k:Int))=min k n:=by
 show (if (k:Int) < 0 then ((k:Int)+(n:Int)).toNat else min (k:Int).toNat n)=min k n
 rw[if_neg (by omega),QaQ]
theorem U0 (n d:Nat) (hd:d<=n) (o:Option Int):sIx n d o<=n:=by
 cases o with
 | none=>exact hd
 | some v=>
  show (if v < 0 then (v+(n:Int)).toNat else min v.toNat n)<=n
  by_cases hv:v < 0
  ·rw[if_pos hv];omega
  ·rw[if_neg hv];exact Nat.min_le_right _ _
theorem Ny (v:Int) (n d:Nat):(if v < 0 then max (v+(n:Int)) 0 else min v (n:Int))=((sIx n d (some v):Nat):Int):=by
 show (if v < 0 then max (v+(n:Int)) 0 else min v (n:Int))=(((if v < 0 then (v+(n:Int)).toNat else min v.toNat n):Nat):Int)
 by_cases hv:v < 0
 ·simp only[if_pos hv];omega
 ·simp only[if_neg hv];omega
theorem PL (lo hi:Option Int) (n:Nat):Builtin.Slice.sliceAdjust lo hi 1 (n:Int)=(((sIx n 0 lo:Nat):Int),((sIx n n hi:Nat):Int)):=by
 have h1:¬((1:Int) < 0):=by omega
 unfold Builtin.Slice.sliceAdjust;simp only[h1,QbM];refine Prod.ext ?_ ?_
 ·cases lo with
  | none=>rfl
  | some v=>exact Ny v n 0
 ·cases hi with
  | none=>rfl
  | some v=>exact Ny v n n
theorem Oo (i j:Nat):Builtin.Slice.slicePlaces (i:Int) (j:Int) 1=j - i:=by
 unfold Builtin.Slice.slicePlaces;have h1:(1:Int) > 0:=by omega
 simp only[h1,if_true,Int.ediv_one];split <;> omega
theorem Je {v:Value} {o:Option Int} {Q:Option Int->Shared->Prop} (p:IsPart v o) (h:Q o s):wpAny (model prog w) A (Builtin.Slice.slicePartIndex v) Q E s:=by
 cases p with
 | none=>exact slicePart_none h
 | int i t=>exact slicePart_int h
theorem FJ {sl:Addr} {vl vu:Value} {lo hi:Option Int} {n:Nat} {Q:Int×Int×Nat->Shared->Prop} (hs:s.heap.IsSliceOf sl vl vu .none) (pl:IsPart vl lo) (pu:IsPart vu hi)
  (h:Q (((sIx n 0 lo:Nat):Int),1,sIx n n hi - sIx n 0 lo) s):wpAny (model prog w) A (Builtin.Slice.sliceApplied (.ref sl) (pure (n:Int))) Q E s:=by
 obtain⟨os,hos,hcs,hds⟩:=id hs;unfold Builtin.Slice.sliceApplied Builtin.Slice.sliceFields;refine QbH (QbH (QbG hos hds (x:=vl) rfl (QbH (QbG hos hds (x:=vu) rfl (QbH (QbG hos hds (x:=.none) rfl (QbI ?_)))))));refine QbH (slicePart_none ?_);show wpAny _ _ (if ((1:Int) == 0)=true then _ else _) _ _ s
 rw[if_neg (by decide)];refine QbH (Je pl (QbH (Je pu (QbH (QbI ?_)))));show wpAny _ _ (match Builtin.Slice.sliceAdjust lo hi 1 (n:Int) with | (lo,hi)=>pure (lo,(1:Int),Builtin.Slice.slicePlaces lo hi 1)) _ _ s
 rw[PL lo hi n];show wpAny _ _ (pure (((sIx n 0 lo:Nat):Int),(1:Int),Builtin.Slice.slicePlaces ((sIx n 0 lo:Nat):Int) ((sIx n n hi:Nat):Int) 1)) _ _ s;rw[Oo];exact QbI h
theorem Ru (xs:Array Value) (i k:Nat):((List.range k).filterMap λ(m:Nat)=>xs[((i:Int)+(m:Int)*1).toNat]?).toArray=((xs.toList.drop i).take k).toArray:=by
 have e:(λ(m:Nat)=>xs[((i:Int)+(m:Int)*1).toNat]?)=λm=>xs[i+m]?:=by
  funext m
  have:((i:Int)+(m:Int)*1).toNat=i+m:=by omega
  rw[this]
 rw[e];have:=pick_run xs i k;rw[List.filterMap_map] at this;have e2:((λx=>xs[x]?) ∘ λx=>i+x)=λm=>xs[i+m]?:=rfl;rw[e2] at this;rw[this]
theorem Ik {t sl:Addr} {items:Array Value} {vl vu:Value} {lo hi:Option Int} {Q:YA} (ht:IsTup s.heap t items) (hs:s.heap.IsSliceOf sl vl vu .none) (pl:IsPart vl lo) (pu:IsPart vu hi)
  (hw:¬(sIx items.size 0 lo=0/\sIx items.size items.size hi=items.size))
  (h:Q (.ref s.heap.objs.size) { s with heap:=s.heap.push { cls:=.type "tuple",data:=.seq ((items.toList.drop (sIx items.size 0 lo)).take (sIx items.size items.size hi - sIx items.size 0 lo)).toArray } })
  (hsz:items.size<=sizeLine):wpAny (model prog w) A (getItem (.ref t) (.ref sl)) Q E s:=by
 have K3:sizeOk (.seq ((items.toList.drop (sIx items.size 0 lo)).take (sIx items.size items.size hi - sIx items.size 0 lo)).toArray):=by
  show ((items.toList.drop (sIx items.size 0 lo)).take (sIx items.size items.size hi - sIx items.size 0 lo)).toArray.size<=sizeLine;rw[QaJ,QaV,QaY,Qau];omega
 have hj:sIx items.size items.size hi<=items.size:=U0 _ _ (QbE _) hi;obtain⟨os,hos,hcs,hds⟩:=id hs;have hTs:s.TypeIs (.ref sl) "slice":=⟨os,hos,hcs⟩;unfold getItem
 try with_reducible refine Qbx ?_
 first | refine QbH (QbI ?_) | skip
 refine QbH (wpAny_sequenceKey ht.typeIs (by decide) ?_);refine QbH (Qai (name:=Str.ofString "__getitem__") ht.typeIs Qab
  (QaU Qab ht.typeIs entry_tuple_getitem ?_ (args_tuple_getitem _ _)))
 show wpAny _ _ (Builtin.Tuple.tupleItemsOf (.ref t) >>= _) _ _ s;refine QbH (tupleItemsOf_ ht ?_);refine QbH (wpAny_typeOf hTs ?_);rw[if_pos (by decide)];refine QbH (FJ hs pl pu ?_);have hno:¬((((sIx items.size 0 lo:Nat):Int) == 0&&(1:Int) == 1&&(sIx items.size items.size hi - sIx items.size 0 lo) == items.size)=true):=by
  intro q;rw[QaS,QaS] at q;have q1:((sIx items.size 0 lo:Nat):Int)=0:=eq_of_beq q.1.1;have q2:sIx items.size items.size hi - sIx items.size 0 lo=items.size:=eq_of_beq q.2;exact hw ⟨by omega,by omega⟩
 show wpAny _ _ (if (((sIx items.size 0 lo:Nat):Int) == 0&&(1:Int) == 1&&(sIx items.size items.size hi - sIx items.size 0 lo) == items.size)=true then _ else _) _ _ s
 rw[if_neg hno,Ru]
 first
  | exact QbH (m:=Builtin.Tuple.tupleExact _) (QaO (QbI ⟨_,rfl,QbI h⟩) K3)
  | exact QbH (m:=Builtin.Tuple.tupleExact _) (QaO (QbH (QbI (QbI ⟨_,rfl,QbI h⟩))) K3)
  | exact QbH (QbH (m:=Builtin.Tuple.tupleExact _) (QaO (QbI (QbI ⟨_,rfl,QbI h⟩)) K3))
  | exact QbH (QbH (m:=Builtin.Tuple.tupleExact _) (QaO (QbI ⟨_,rfl,QbI h⟩) K3))
end
end HT
namespace L2
open PySem PySem.Spec PyProof.Rows
abbrev TO:=St->Hp->(Option Int->Hp->Prop)->Prop
def PO (X:Cx) (e:Option Expr) (t:TO):Prop:=
 ∀(jb:YC) (s:Shared) (σ : St) (H:Hp) (Q:Option Int->Hp->Prop),Inv X jb σ H s->t σ H Q ->
  wpAny (model X.prog X.w) X.A (evalPart e X.env) (λu s'=>∃o H',Inv X jb σ H' s'/\IsPart u o/\Q o H') X.xe s
def Tv:TO:=λ_ H Q=>Q none H
def Wd (t:TE):TO:=fun σ H Q=>t σ H λx H1=>∃i,x=.int i/\Q (some i) H1
theorem intsAre_of {ns:List Int}:∀{us:YE},Vals (ns.map V.int) us->IntsAre us ns:=by
 induction ns with
 | nil=>intro us r;rw[List.map_nil] at r;cases r;exact .nil
 | cons n ns ih=>
  intro us r;rw[Qbv] at r;cases r with
  | cons r1 r2=>
   obtain⟨t,e⟩:=r1;subst e;exact .cons n t (ih r2)
section
variable {X:Cx} {e:Expr} {te:TE} {lo hi:Option Expr} {tl th:TO} {pos p2:Pos}
theorem Cd:PO X none Tv:=by
 intro jb s σ H Q I h;rw[evalPart_none];exact QbI ⟨none,H,I,.none,h⟩
theorem Bc (h:PE X e te):PO X (some e) (Wd te):=by
 intro jb s σ H Q I hw;rw[evalPart_some];refine thn (h jb s σ H _ I hw) λu s1 zz=>?_;obtain⟨x,H1,I1,r1,q1⟩:=zz;obtain⟨i,rfl,q⟩:=q1;obtain⟨t,rfl⟩:=r1;exact⟨some i,H1,I1,.int i t,q⟩
def SlR (X:Cx) (r:V->Option Int->Option Int->Hp->VK->Prop):Prop:=
 ∀(jb:YC) (s:Shared) (σ : St) (H:Hp) (x:V) (v vl vu:Value) (lo hi:Option Int) (sl:Addr) (Q:VK),Inv X jb σ H s->RelV x v->s.heap.IsSliceOf sl vl vu .none->IsPart vl lo->IsPart vu hi->r x lo hi H Q ->
  ∃T id,typeLookup (.type T) "__getitem__"=pure (some (.builtin id))/\s.TypeIs v T/\wpAny (model X.prog X.w) X.A (getItem v (.ref sl)) (EP X jb σ Q) X.xe s
def tSl (r:V->Option Int->Option Int->Hp->VK->Prop) (te:TE) (tl th:TO):TE:=fun σ H Q=>te σ H λx H1=>tl σ H1 λl H2=>th σ H2 λu H3=>r x l u H3 Q
theorem Bg {r:V->Option Int->Option Int->Hp->VK->Prop} (hr:SlR X r) (he:PE X e te) (hl:PO X lo tl) (hu:PO X hi th):PE X (.Subscript e (.Slice lo hi none p2) pos) (tSl r te tl th):=by
 intro jb s σ H Q I h;refine Subscript_ (thn (he jb s σ H _ I h) λv s1 zz=>?_);obtain⟨x,H1,I1,r1,q1⟩:=zz;refine wpAny_Slice (thn (hl jb s1 σ H1 _ I1 q1) λvl s2 zz=>?_);obtain⟨l,H2,I2,pl,q2⟩:=zz;refine thn (hu jb s2 σ H2 _ I2 q2) λvu s3 zz=>?_;obtain⟨u,H3,I3,pu,q3⟩:=zz;rw[evalPart_none];refine QbI ?_;have I4:Inv X jb σ H3 { s3 with heap:=s3.heap.push { cls:=.type "slice",data:=.fields #[vl,vu,.none] } }:=I3.kept (t':=s3.toks) λb ob q=>Qaj _ q;obtain⟨T,id,hT,ht,hg⟩:=hr jb { s3 with heap:=s3.heap.push { cls:=.type "slice",data:=.fields #[vl,vu,.none] } } σ H3 x v vl vu l u s3.heap.objs.size Q I4 r1 (Heap.IsSliceOf.new ..) pl pu q3;show wpAny (model X.prog X.w) X.A (subscriptTail e (.Slice lo hi none p2) v (.ref s3.heap.objs.size)) (EP X jb σ Q) X.xe { s3 with heap:=s3.heap.push { cls:=.type "slice",data:=.fields #[vl,vu,.none] } };exact tail_any (ops:=[.ref s3.heap.objs.size,v]) ht hT hg (by with_unfolding_all rfl)
def Ds (xs:YG) (lo hi:Option Int):YG:=(xs.drop (HT.sIx xs.length 0 lo)).take (HT.sIx xs.length xs.length hi - HT.sIx xs.length 0 lo)
theorem Gw (xs:YG) (lo hi:Option Int):(Ds xs lo hi).length<=xs.length:=by
 unfold Ds;rw[QaV,QaY];omega
def W7 (K:YD):V->Option Int->Option Int->Hp->VK->Prop:=λx lo hi H Q=>∃a xs,x=.ref a/\SqT K H a xs /\
 ¬(HT.sIx xs.length 0 lo=0/\HT.sIx xs.length xs.length hi=xs.length)/\∀p,H p=none->Q (.ref p) (upd H p (.tup (Ds xs lo hi)))
theorem UL:SlR X (W7 X.K):=by
 intro jb s σ H x v vl vu lo hi sl Q I rx hs pl pu h;obtain⟨a,xs,rfl,hx,hw,q⟩:=h;cases rx;obtain⟨its,r,ht,hz⟩:=I.tuple hx;have hlen:its.toArray.size=xs.length:=by rw[QaJ];exact r.length.symm
 refine⟨"tuple",_,Qab.lookup,ht.typeIs,?_⟩;refine HT.Ik ht hs pl pu (by rw[hlen];exact hw) ?_ (by rw[hlen];exact hz);rw[hlen];refine⟨.ref s.heap.objs.size,_,I.laid (t':=s.toks) (o:=.tup (Ds xs lo hi)) (λb ob q=>Qaj _ q) (QbE _) ?_,rq,q _ (I.hok.fresh (QbE _))⟩;exact⟨QbC (Gw xs lo hi) hz,_,(r.drop (HT.sIx xs.length 0 lo)).take (HT.sIx xs.length xs.length hi - HT.sIx xs.length 0 lo),IsTup.new _ _⟩
def Wo (K:YD):R2:=λx y H Q=>∃a b xs ys,x=.ref a/\y=.ref b/\SqT K H a xs/\SqT K H b ys/\xs≠[]/\xs.length+ys.length<=sizeLine /\
 (ys=[]->Q (.ref a) H)/\(ys≠[]->∀p,H p=none->Q (.ref p) (upd H p (.tup (xs++ys))))
theorem Vals.JL {xs:YG} {us:YE} (r:Vals xs us):us=[] ↔ xs=[]:=by
 cases r with
 | nil=>simp
 | cons _ _=>simp
theorem T5:OpR X (binaryOp .Add) (Wo X.K):=by
 intro jb s σ H x y v u Q I rx ry h;obtain⟨a,b,xs,ys,rfl,rfl,ha,hb,hx,hz,q1,q2⟩:=h;cases rx;cases ry;obtain⟨its,r1,p1,_⟩:=I.tuple ha;obtain⟨its2,r2,p2,_⟩:=I.tuple hb;refine HT.Uk p1 p2 (λz=>hx (r1.JL.mp z)) (λz=>⟨.ref a,H,I,rq,q1 (r2.JL.mp z)⟩) (λz=>?_) (by rw[<-r1.length,<-r2.length];exact hz);refine⟨.ref s.heap.objs.size,_,I.laid (t':=s.toks) (o:=.tup (xs++ys)) (λb ob q=>Qaj _ q) (QbE _) ?_,rq,q2 (λw=>z (r2.JL.mpr w)) _ (I.hok.fresh (QbE _))⟩;exact⟨by rw[Qax];exact hz,_,r1.append r2,IsTup.new _ _⟩
end
def ixN (n:Nat) (i:Int):Option Nat:=if 0<=i then (if i < n then some i.toNat else none) else if -(n:Int)<=i then some (i+n).toNat else none
def atI {α : Type} (xs:List α) (i:Int):Option α:=(ixN xs.length i).bind λj=>xs[j]?
theorem Nk {n:Nat} {i:Int} {j:Nat} (h:ixN n i=some j):seqIndex? i n=some j/\j < n/\-(n:Int)<=i/\i < n:=by
 unfold ixN at h;by_cases h0:0<=i
 ·rw[if_pos h0] at h;by_cases h1:i < n
  ·rw[if_pos h1] at h;have e:i.toNat=j:=Qbf h;exact⟨by rw[seqIndex_of h0 h1,e],by omega,by omega,h1⟩
  ·rw[if_neg h1] at h;cases h
 ·rw[if_neg h0] at h;by_cases h1:-(n:Int)<=i
  ·rw[if_pos h1] at h;have e:(i+n).toNat=j:=Qbf h;exact⟨by rw[seqIndex_neg (by omega) h1,e],by omega,h1,by omega⟩
  ·rw[if_neg h1] at h;cases h
theorem NP {α : Type} {xs:List α} {i:Int} {v:α} (h:atI xs i=some v):∃j,seqIndex? i xs.length=some j/\xs[j]?=some v/\j < xs.length/\-(xs.length:Int)<=i/\i < xs.length:=by
 unfold atI at h;cases e:ixN xs.length i with
 | none=>rw[e] at h;cases h
 | some j=>
  rw[e] at h;obtain⟨h1,h2,h3,h4⟩:=Nk e;exact⟨j,h1,h,h2,h3,h4⟩
theorem Kd {α : Type} {xs:List α} {j:Nat} {v:α} (h:xs[j]?=some v):atI xs (j:Int)=some v:=by
 have hj:j < xs.length:=(Qad.mp h).1;have e:ixN xs.length (j:Int)=some j:=by
  unfold ixN;rw[if_pos (by omega),if_pos (by omega)];simp
 unfold atI;rw[e];exact h
def Uq (b:Expr):Prop:=∀o i,subscripted b false o i=operate [o,i] (getItem o i)
def IxR (X:Cx) (r:R2):Prop:=
 ∀(value slice:Expr) (jb:YC) (s:Shared) (σ : St) (H:Hp) (x y:V) (v u:Value) (Q:VK),Inv X jb σ H s->RelV x v->RelV y u->r x y H Q ->
  subscripted slice false v u=operate [v,u] (getItem v u)->wpAny (model X.prog X.w) X.A (subscriptTail value slice v u) (EP X jb σ Q) X.xe s
def MtR (X:Cx) (id:String) (r:V->YG->Hp->VK->Prop):Prop:=
 ∀(jb:YC) (s:Shared) (σ : St) (H:Hp) (x:V) (xs:YG) (v:Value) (us:YE) (Q:VK),Inv X jb σ H s->RelV x v->Vals xs us->r x xs H Q ->
  wpAny (model X.prog X.w) X.A (call (.builtin id) (v::us)) (EP X jb σ Q) X.xe s
section
variable {X:Cx} {a b:Expr} {ta tb:TE} {pos:Pos}
theorem Cg {r:R2} (hr:IxR X r) (ha:PE X a ta) (hb:PE X b tb) (hs:Uq b):PE X (.Subscript a b pos) (tOp r ta tb):=by
 intro jb s σ H Q I h;exact Subscript_ (SJ ha hb I h λv u s2 x y H2 I2 rx ry q=>hr a b jb s2 σ H2 x y v u Q I2 rx ry q (hs _ _))
def W9 (K:YD):R2:=λx y H Q=>∃p xs i v,x=.ref p/\y=.int i/\SqL K H p xs/\atI xs i=some v/\Q v H
def U3 (K:YD):R2:=λx y H Q=>∃p xs i v,x=.ref p/\y=.int i/\SqT K H p xs/\atI xs i=some v/\Q v H
theorem Dy:IxR X (W9 X.K):=by
 intro value slice jb s σ H x y v u Q I rx ry h hs;obtain⟨p,xs,i,z,rfl,rfl,hq,he,q⟩:=h;cases rx;obtain⟨t,rfl⟩:=ry;obtain⟨its,r,pl,hz⟩:=I.list hq;obtain⟨j,h1,h2,h3,h4,h5⟩:=NP he;obtain⟨w,ew,rw'⟩:=r.get h2;have hl:=r.length;have hn:=Jl;have fin:EP X jb σ Q w s:=⟨z,H,I,rw',q⟩;by_cases h0:0<=i
 ·have hj:i.toNat=j:=by
   rw[seqIndex_of h0 h5] at h1;exact Qbf h1
  exact item_listR pl.isList h0 (by omega) (by rw[hj];simpa using ew) fin hs
 ·have hj:(i+(its.toArray.size:Int)).toNat=j:=by
   rw[seqIndex_neg (by omega) h4] at h1;rw[QaJ,<-hl];exact Qbf h1
  exact subscriptTail_builtinR (x:=w) pl.isList.typeIs slot_list_getitem.lookup
   (wpAny_getItem_list_neg (Q:=λr s'=>r=w/\EP X jb σ Q r s') pl.isList (by omega) (by rw[QaJ] <;> omega) (by omega) (by rw[hj];simpa using ew) ⟨rq,fin⟩) hs
theorem El:IxR X (U3 X.K):=by
 intro value slice jb s σ H x y v u Q I rx ry h hs;obtain⟨p,xs,i,z,rfl,rfl,hq,he,q⟩:=h;cases rx;obtain⟨t,rfl⟩:=ry;obtain⟨its,r,pl,hz⟩:=I.tuple hq;obtain⟨j,h1,h2,h3,h4,h5⟩:=NP he;obtain⟨w,ew,rw'⟩:=r.get h2;have hl:=r.length;have hn:=Jl;have fin:EP X jb σ Q w s:=⟨z,H,I,rw',q⟩;exact subscriptTail_builtinR (x:=w) pl.typeIs slot_tuple_getitem.lookup
  (getItem_tuple (j:=j) (Q:=λr s'=>r=w/\EP X jb σ Q r s') pl (by omega) (by omega) (by rw[QaJ,<-hl];exact h1) (by simpa using ew) ⟨rq,fin⟩) hs
theorem OD (its:YE) (n j:Nat) (u:Value):Obj.mapSeq (·.setIfInBounds j u) { cls:=.type "list",data:=.seq its.toArray n }={ cls:=.type "list",data:=.seq (its.set j u).toArray n }:=by
 simp[Obj.mapSeq]
theorem Inv.lst {jb:YC} {σ : St} {H:Hp} {s:Shared} {p:Addr} {xs:YG} (I:Inv X jb σ H s) (h:H p=some (.lst xs)) :
  ∃(its:YE) (n:Nat),Vals xs its/\s.heap.get? p=some { cls:=.type "list",data:=.seq its.toArray n }/\xs.length<=sizeLine:=by
 obtain⟨z,its,n,r,e⟩:=I.hok p _ h;exact⟨its,n,r,e,z⟩
theorem Inv.Vf {jb:YC} {σ : St} {H:Hp} {s:Shared} {p:Addr} {xs ys:YG} {its its':YE} {n n':Nat} {f:Obj->Obj} (I:Inv X jb σ H s) (h:H p=some (.lst xs))
  (ho:s.heap.get? p=some { cls:=.type "list",data:=.seq its.toArray n }) (hf:f { cls:=.type "list",data:=.seq its.toArray n }={ cls:=.type "list",data:=.seq its'.toArray n' }) (r:Vals ys its') (hz:ys.length<=sizeLine) (t:Nat) :
  Inv X jb σ (upd H p (.lst ys)) { s with heap:=s.heap.update p f,toks:=t }:=by
 have e:(s.heap.update p f).get? p=some { cls:=.type "list",data:=.seq its'.toArray n' }:=by
  rw[Qan f ho (by rw[hf] <;> rfl),hf]
 refine I.write (x:=p) (e:=p) (by rw[h];trivial) (.inl rfl) (λb u hb q=>(Heap.get?_update_other _ _ (Ne.symm hb)).trans q) ⟨_,e⟩ ?_;exact⟨hz,its',n',r,e⟩
def Wn:V->V->V->Hp->(Hp->Prop)->Prop:=λo i v H Q=>∃p xs k j,o=.ref p/\i=.int k/\H p=some (.lst xs)/\ixN xs.length k=some j/\Q (upd H p (.lst (xs.set j v)))
theorem set_list:V6 X Wn:=by
 intro jb s σ H o i v ov iv u Q I ro ri rv h;obtain⟨p,xs,k,j,rfl,rfl,hp,hj,q⟩:=h;cases ro;obtain⟨t,rfl⟩:=ri;obtain⟨its,n,r,ho,hz⟩:=I.lst hp;obtain⟨h1,h2,h3,h4⟩:=Nk hj;have hl:=r.length;have hn:=Jl;have I':Inv X jb σ (upd H p (.lst (xs.set j v))) { s with heap:=s.heap.update p (Obj.mapSeq (·.setIfInBounds j u)) }:=
  I.Vf hp ho (OD its n j u) (r.set rv j) (by rw[List.length_set];exact hz) s.toks
 by_cases h0:0<=k
 ·have hk:k.toNat=j:=by
   rw[seqIndex_of h0 h4] at h1;exact Qbf h1
  exact PySem.W.ki_setAt ho h0 (by omega) (by rw[QaJ,<-hl];exact h4) (by rw[hk];exact⟨_,I',q⟩)
 ·have hk:(k+(its.toArray.size:Int)).toNat=j:=by
   rw[seqIndex_neg (by omega) h3] at h1;rw[QaJ,<-hl];exact Qbf h1
  exact PySem.W.ki_setBack ho (by omega) (by rw[QaJ,<-hl];exact h3) (by omega) (by rw[hk];exact⟨_,I',q⟩)
theorem Lg (lo hi:Option Int) (n:Nat):(sliceBounds lo hi none n).1=((HT.sIx n 0 lo:Nat):Int)/\(sliceBounds lo hi none n).2.1=((HT.sIx n n hi:Nat):Int)/\(sliceBounds lo hi none n).2.2=1:=by
 refine⟨?_,?_,rq⟩
 ·cases lo with
  | none=>simp[sliceBounds,HT.sIx]
  | some i=>
   simp only[sliceBounds,HT.sIx,Option.getD_none,show (1:Int) > 0 by decide,if_true];by_cases h:i < 0
   ·simp only[h,if_true] <;> omega
   ·simp only[h,QbM] <;> omega
 ·cases hi with
  | none=>simp[sliceBounds,HT.sIx]
  | some i=>
   simp only[sliceBounds,HT.sIx,Option.getD_none,show (1:Int) > 0 by decide,if_true];by_cases h:i < 0
   ·simp only[h,if_true] <;> omega
   ·simp only[h,QbM] <;> omega
theorem Kw (its:YE) (lo hi:Option Int):slicePick its.toArray lo hi none=((its.drop (HT.sIx its.length 0 lo)).take (HT.sIx its.length its.length hi - HT.sIx its.length 0 lo)).toArray:=by
 obtain⟨h1,h2,h3⟩:=Lg lo hi its.toArray.size;unfold slicePick;rw[h1,h2,h3];simp only[sliceRange_one,pick_run,QaJ] <;> rfl
def W8 (K:YD):V->Option Int->Option Int->Hp->VK->Prop:=λx lo hi H Q=>∃a xs,x=.ref a/\SqL K H a xs/\∀p,H p=none->Q (.ref p) (upd H p (.lst (Ds xs lo hi)))
theorem au:SlR X (W8 X.K):=by
 intro jb s σ H x v vl vu lo hi sl Q I rx hs pl pu h;obtain⟨a,xs,rfl,hx,q⟩:=h;cases rx;obtain⟨its,r,ht,hz⟩:=I.list hx;have hlen:=r.length;refine⟨"list",_,slot_list_getitem.lookup,ht.isList.typeIs,?_⟩;refine wpAny_getItem_list_slice ht.isList hs pl pu .none (by simp) ?_ (by rw[QaJ] <;> omega);rw[Kw,<-hlen];refine⟨.ref s.heap.objs.size,_,I.laid (t':=s.toks) (o:=.lst (Ds xs lo hi)) (λb ob q=>Qaj _ q) (QbE _) ?_,rq,q _ (I.hok.fresh (QbE _))⟩;exact⟨QbC (Gw xs lo hi) hz,_,0,(r.drop (HT.sIx xs.length 0 lo)).take (HT.sIx xs.length xs.length hi - HT.sIx xs.length 0 lo),Qat _ rfl⟩
theorem Aq:Dd X (.builtin "len") (λxs H Q=>∃p ys,xs=[.ref p]/\(SqL X.K H p ys\/SqT X.K H p ys)/\Q (.int ys.length) H):=by
 intro jb s σ H xs us Q I r h;obtain⟨p,ys,rfl,hq,q⟩:=h;obtain⟨u,rfl,rx⟩:=vals1 r;cases rx;have hn:=Jl;rcases hq with hq | hq
 ·obtain⟨its,r',pl,hz⟩:=I.list hq;have hlen:=r'.length;exact Calls.call_len_list pl.isList (by simp only[QaJ] <;> omega) ⟨.int ys.length,H,I.tok _,⟨s.toks+1,by rw[QaJ,hlen]⟩,q⟩
 ·obtain⟨its,r',pl,hz⟩:=I.tuple hq;have hlen:=r'.length;exact len_tuple pl (by simp only[QaJ] <;> omega) ⟨.int ys.length,H,I.tok _,⟨s.toks+1,by rw[QaJ,hlen]⟩,q⟩
theorem Ge:Dd X (.type "list") (λxs H Q=>∃p ys,xs=[.ref p]/\(SqL X.K H p ys\/SqT X.K H p ys)/\∀l,H l=none->Q (.ref l) (upd H l (.lst ys))):=by
 intro jb s σ H xs us Q I r h;obtain⟨p,ys,rfl,hq,q⟩:=h;obtain⟨u,rfl,rx⟩:=vals1 r;cases rx;have fin:∀(its:YE),Vals ys its->ys.length<=sizeLine->∀(h':Heap) (c':Nat),(∀b o',s.heap.get? b=some o'->h'.get? b=some o') ->
   h'.get? s.heap.objs.size=some { cls:=.type "list",dict:=none,data:=.seq its.toArray c',slots:=#[] }->EP X jb σ Q (.ref s.heap.objs.size) { s with heap:=h' }:=λits r' hz h' c' kp e=>
  ⟨.ref s.heap.objs.size,_,I.laid (t':=s.toks) kp (QbE _) (show Bu X.prog X.w _ h' _ (.lst ys) from⟨hz,its,c',r',e⟩),rq,q _ (I.hok.fresh (QbE _))⟩
 rcases hq with hq | hq
 ·obtain⟨its,r',pl,hz⟩:=I.list hq;have hlen:=r'.length;obtain⟨o,ho,hc,n,hd⟩:=pl.isList;exact call_list_seq p (.inl rfl) ho hc hd (λh' c' kp e=>fin its r' hz h' c' kp e) (by simp only[QaJ] <;> omega)
 ·obtain⟨its,r',pl,hz⟩:=I.tuple hq;have hlen:=r'.length;obtain⟨o,ho,hc,n,hd⟩:=pl;exact call_list_seq p (.inr rfl) ho hc hd (λh' c' kp e=>fin its r' hz h' c' kp e) (by simp only[QaJ] <;> omega)
theorem DQ:Dd X (.type "tuple") (λxs H Q=>∃p ys,xs=[.ref p]/\((SqL X.K H p ys/\∀l,H l=none->Q (.ref l) (upd H l (.tup ys)))\/(SqT X.K H p ys/\Q (.ref p) H))):=by
 intro jb s σ H xs us Q I r h;obtain⟨p,ys,rfl,h⟩:=h;obtain⟨u,rfl,rx⟩:=vals1 r;cases rx;rcases h with⟨hq,q⟩|⟨hq,q⟩
 ·obtain⟨its,r',pl,hz⟩:=I.list hq;have hlen:=r'.length;refine call_tuple_list pl.isList (λh' kp=>?_) (by simp only[QaJ] <;> omega);have I1:Inv X jb σ H { s with heap:=h' }:=I.kept (t':=s.toks) kp;have I2:Inv X jb σ (upd H h'.objs.size (.tup ys)) { s with heap:=h'.push { cls:=.type "tuple",data:=.seq its.toArray } }:=
   I1.laid (t':=s.toks) (λb o e=>Qaj _ e) (QbE _) (show Bu X.prog X.w _ _ _ (.tup ys) from⟨hz,its,r',IsTup.new _ _⟩)
  exact⟨.ref h'.objs.size,_,I2,rq,q _ (I1.hok.fresh (QbE _))⟩
 ·obtain⟨its,r',pl,hz⟩:=I.tuple hq;exact call_tuple_same pl ⟨.ref p,H,I,rq,q⟩
def tyV (K:YD) (T:String) (x:V) (H:Hp):Prop:=match x with
 | .str _=>T="str"
 | .int _=>T="int"
 | .ref p=>(T="list"/\∃xs,SqL K H p xs)\/(T="tuple"/\∃o,K.lookup p=some o/\o.cls=.type "tuple"/\o.dict=none) \/
   (T="dict"/\((∃kvs,H p=some (.dK kvs))\/∃kvs,H p=some (.dT kvs)))\/(T="set"/\∃S n,H p=some (.set S n))
 | _=>False
theorem Uu {jb:YC} {σ : St} {H:Hp} {s:Shared} {T:String} {x:V} {v:Value} (I:Inv X jb σ H s) (r:RelV x v) (ty:tyV X.K T x H) :
  s.TypeIs v T/\∀a,v=.ref a->∃ob,s.heap.get? a=some ob/\ob.dict=none:=by
 cases x with
 | str z=>
  obtain⟨t,rfl⟩:=r;cases (show T="str" from ty)
  exact⟨typeIs_str s z t,λ_ e=>nomatch e⟩
 | int i=>
  obtain⟨t,rfl⟩:=r;cases (show T="int" from ty)
  exact⟨typeIs_int s i t,λ_ e=>nomatch e⟩
 | ref p=>
  cases r;rcases ty with⟨rfl,xs,hq⟩|⟨rfl,o,hk,hc,hd⟩|⟨rfl,hk⟩|⟨rfl,S,n,hk⟩
  ·obtain⟨its,_,pl,_⟩:=I.list hq;refine⟨pl.isList.typeIs,λa e=>?_⟩;cases e;obtain⟨o,n,e,c,hd,_⟩:=pl;exact⟨o,e,hd⟩
  ·refine⟨⟨o,I.kIn p o hk,hc⟩,λa e=>?_⟩;cases e;exact⟨o,I.kIn _ o hk,hd⟩
  ·have z:∃o,s.heap.get? p=some o/\o.ExactDict:=by
    rcases hk with⟨kvs,hk⟩|⟨kvs,hk⟩
    ·obtain⟨_,_,_,_,o,_,_,e,ex,_⟩:=I.hok p _ hk;exact⟨o,e,ex⟩
    ·obtain⟨_,_,_,_,o,_,_,e,ex,_⟩:=I.hok p _ hk;exact⟨o,e,ex⟩
   obtain⟨o,e,ex⟩:=z;refine⟨⟨o,e,ex.1⟩,λa e2=>?_⟩;cases e2;exact⟨o,e,ex.2.1⟩
  ·obtain⟨o,_,_,_,e,ex,_⟩:=I.hok p _ hk;refine⟨⟨o,e,ex.1⟩,λa e2=>?_⟩;cases e2;exact⟨o,e,ex.2.1⟩
 | _=>exact False.elim ty
def tBM (K:YD) (T:String) (r:V->YG->Hp->VK->Prop) (to:TE) (t:TA):TE:=fun σ H Q=>to σ H λx H1=>tyV K T x H1/\t σ H1 λxs H2=>r x xs H2 Q
variable {o e:Expr} {es:YJ} {to:TE} {t:TA} {name:Str} {apos cpos:Pos} {T id:String} {r:V->YG->Hp->VK->Prop}
theorem Ou (pa:PlainAttrs T) (slot:Slot T name id) (hty:typeOf (.builtin id)=pure (.type "method_descriptor")) (hm:MtR X id r) (ho:PE X o to) (ha:PA X (e::es) t)
  (hbase:attributeBase o name X.env (eval o X.env)=eval o X.env:=by rfl)
  (hfew:((backTo cpos (starEach (e::es) X.env)).all (λx=>!x.1)&&(backToKw cpos (keywordEach [] X.env)).all (λx=>x.1.isSome)
  &&decide ((e::es).length+([]:List Keyword).length+(if ([]:List Keyword).isEmpty then 0 else 1) < 30))=true:=by rfl)
  (hline:(apos.endLine == cpos.line)=true:=by rfl) (hs:starEach (e::es) X.env=(false,eval e X.env)::starEach es X.env:=by rfl) (hplain:(backTo cpos (starEach es X.env)).any (·.1)=false:=by rfl) :
  PE X (.Call (.Attribute o name apos) (e::es) [] cpos) (tBM X.K T r to t):=by
 intro jb s σ H Q I h;refine wpAny_Call_method_late hbase hfew hline rfl (thn (ho jb s σ H _ I h) λv s1 zz=>?_);obtain⟨x,H1,I1,r1,ty,q1⟩:=zz;obtain⟨h1,h2⟩:=Uu I1 r1 ty;refine⟨T,id,pa,slot,hty,h1,h2,?_⟩;have hA:=ha cpos jb s1 σ H1 _ I1 q1;rw[hs] at hA ⊢;refine Calls.callWith_builtin (by show (false || (backTo cpos (starEach es X.env)).any (·.1))=false;rw[hplain] <;> rfl) (Calls.evalArgs_plain ?_);refine thn hA λus s2 zz=>?_;obtain⟨vs,H2,I2,r2,q2⟩:=zz;exact hm jb s2 σ H2 x vs v us Q I2 r1 r2 q2
end
def MtM (X:Cx) (id:String) (r:V->YG->Hp->VK->Prop):Prop:=
 ∀(jb:YC) (s:Shared) (σ : St) (H:Hp) (x:V) (xs:YG) (v:Value) (us:YE) (Q:VK),Inv X jb σ H s->RelV x v->Vals xs us->r x xs H Q ->
  wpAny (model X.prog X.w) X.A (call (.builtin id) (v::us)) (EP X jb σ Q) X.xe s
theorem Vals.one:∀{x:V} {us:YE},Vals [x] us->∃u,us=[u]/\RelV x u
 | _,_,.cons r .nil=>⟨_,rfl,r⟩
theorem Vals.zero:∀{us:YE},Vals [] us->us=[]
 | _,.nil=>rfl
theorem Vals.eraseIdx:∀{xs:YG} {us:YE} (i:Nat),Vals xs us->Vals (xs.eraseIdx i) (us.eraseIdx i)
 | _,_,_,.nil=>.nil
 | _,_,0,.cons _ t=>t
 | _,_,i+1,.cons r t=>.cons r (Vals.eraseIdx i t)
theorem Vals.reverse {xs:YG} {us:YE} (h:Vals xs us):Vals xs.reverse us.reverse:=by
 induction h with
 | nil=>exact .nil
 | cons r t ih=>rw[List.reverse_cons,List.reverse_cons];exact Vals.append ih (.cons r .nil)
theorem Vals.rep {xs:YG} {us:YE} (h:Vals xs us):∀k:Nat,Vals (List.replicate k xs).flatten (List.replicate k us).flatten
 | 0=>.nil
 | k+1=>by
  rw[List.replicate_succ,List.replicate_succ,List.flatten_cons,List.flatten_cons];exact Vals.append h (Vals.rep h k)
section
variable {X:Cx} {jb:YC} {σ : St} {H:Hp} {s:Shared} {l b:Addr} {xs ys zs:YG}
theorem Inv.XF {its its':YE} {n:Nat} {f:Array Value->Array Value} {t':Nat} (I:Inv X jb σ H s) (hH:H l=some (.lst xs))
  (e:s.heap.get? l=some { cls:=.type "list",data:=.seq its.toArray n }) (hf:f its.toArray=its'.toArray) (hv:Vals ys its') (hz:ys.length<=sizeLine) :
  Inv X jb σ (upd H l (.lst ys)) { s with heap:=s.heap.update l (Obj.mapSeq f),toks:=t' }:=by
 have q:=PySem.IsL.update e f;rw[hf] at q;refine I.write (x:=l) (e:=l) (by rw[hH];exact trivial) (.inl rfl) (λb' u hb hu=>(Heap.get?_update_other s.heap (Obj.mapSeq f) (Ne.symm hb)).trans hu) ⟨_,q⟩ ?_;exact⟨hz,its',_,hv,q⟩
theorem Inv.fresh (I:Inv X jb σ H s):H s.heap.objs.size=none:=I.hok.fresh (QbE _)
theorem Inv.XD (I:Inv X jb σ H s) (hH:H l=some (.lst xs)):xs.length<=sizeLine/\∃(its:YE) (n:Nat),Vals xs its/\xs.length=its.length/\s.heap.get? l=some { cls:=.type "list",data:=.seq its.toArray n }:=by
 obtain⟨z,its,n,r,e⟩:=I.hok l _ hH;exact⟨z,its,n,r,r.length,e⟩
end
section
variable {X:Cx}
def TV:V->YG->Hp->VK->Prop:=λx vs H Q=>∃l xs y,x=.ref l/\vs=[y]/\H l=some (.lst xs)/\xs.length < sizeLine/\Q .non (upd H l (.lst (xs++[y])))
theorem Gp:MtM X "list.append" TV:=by
 intro jb s σ H x vs v us Q I rx rv h;obtain⟨l,xs,y,rfl,rfl,hH,hz,q⟩:=h;cases rx;obtain⟨u,rfl,ru⟩:=rv.one;obtain⟨z,its,n,r,hl,e⟩:=I.XD hH;refine call_meets F.slot_list_append ⟨_,e,rq⟩ F.entry_list_append (F.args_list_append_2 _ _) (PySem.list_append l its.toArray n u (by rw[QaJ];omega)) ⟨e,?_⟩;refine⟨.non,_,I.XF (its':=its++[u]) hH e (by simp) (r.append (.cons ru .nil)) ?_,rq,q⟩;rw[Qax,List.length_singleton];omega
end
section
variable {prog:Program} {w:World} {A:Around} {E:YA} {s:Shared}
set_option maxRecDepth 100000 in
end
section
variable {X:Cx}
end
end L2
namespace Att
open PySem PySem.W PySem.Calls PyProof.Rows
theorem Jo {P:Params} {h:Heap}:∀(ns:List Int) (vs:YE),WellAll P h vs (ns.map WData.int)->IntsAre vs ns:=by
 intro ns
 induction ns with
 | nil=>
  intro vs w;rw[List.map_nil] at w;cases w;exact .nil
 | cons n ns ih=>
  intro vs w;rw[Qbv] at w;cases w with
  | cons a b=>
   cases a;exact .cons _ _ (ih _ b)
theorem Qp {l:OpenLaw} {n:Nat} (hn:l.most=some n) {P:Params} {h:Heap} {args:List WData} {vals:YE}
  (hpre:l.row.toRowW.claim.pre args=true) (hwl:WellAll P h vals args) :
  ∃a vs ns,vals=[Value.ref a]/\args=[WData.list (ns.map WData.int)]/\h.get? a=some { cls:=.type "list",data:=.seq vs.toArray }/\IntsAre vs ns/\ns.length<=n:=by
 have hsh:WShape.hasAll [] args [.list .int]=true:=(pre_splitW hpre).1;have hc:l.pre.holds [] { args:=args }=true:=(pre_splitW hpre).2;obtain⟨d,r,rfl,h1,h2⟩:=hasAllW_cons hsh;obtain rfl:=hasAllW_nil h2;obtain⟨xs,rfl,h3⟩:=hasW_list h1;obtain⟨ns,rfl⟩:=items_int h3;have hlen:ns.length<=n:=by
  unfold OpenLaw.pre at hc;have h4:(WTm.not (.lt (.lit (.int (n:Int))) (.len (.arg 0)))).holds [] { args:=[.list (ns.map .int)] }=true:=by
   have h4:=(holds_andW hc).1;rw[hn] at h4;exact h4
  have h5:=condW_of h4 (w_not (w_lt w_lit (w_len_list (w_arg rfl))));rw[Qbc] at h5;refine Nat.le_of_not_lt λq=>?_;have q':(n:Int) < ((ns.length:Nat):Int):=by omega
  first
   | (rw[Qbo q'] at h5;exact absurd h5 (by decide))
   | (simp at h5;omega)
 cases hwl with
 | cons w1 w2=>
  cases w2;cases w1 with
  | list ho hall=>exact⟨_,_,ns,rfl,rfl,ho,Jo ns _ hall,hlen⟩
theorem Qu (l:OpenLaw) (args:List WData):l.row.toRowW.claim.post args (.bool true) args=true:=
 postW_of (r:=l.row.toRowW) (X:=(true == true))
  (show WShape.has [] (.bool true) .bool=true by first | rfl | decide | simp[WShape.has,WShape.arms,WShape.armsAll])
  (show (WTm.eq .res (.lit (.bool true))).value [] { args:=args,res:=some (.bool true),after:=args }=some (.bool (true == true)) from w_eq_bool (w_res rfl) w_lit) rfl
theorem M7 {l:OpenLaw} {n:Nat} {q:Program} {loose:YF} {XP:(YB)->Heap->Prop} {YP:World->Heap->Prop} {d:DefRec}
  (hn:l.most=some n) (hdf:d.params.defaults=[])
  (call:∀(w:World) (s₀ s₁ : Shared) (mg mb:YB) (fa:Addr) (o:Obj) (pm cd doc:Value) (a:Addr) (vs:YE) (ns:List Int),
   Ground q loose [] XP w s₀ mg mb s₁.heap->YP w s₁.heap ->
   s₁.heap.get? fa=some o->o.data=.func (docDef d.name d.params d.body d.scope pm cd doc)->s₁.heap.CodeRec cd d.name->mg d.name=some (.ref fa) ->
   s₁.heap.get? a=some { cls:=.type "list",data:=.seq vs.toArray }->IntsAre vs ns->ns.length<=n->s₁.gens=#[] ->
   codeAny (model l.prog w) callerA (.call (.ref fa) ⟨[.ref a],[]⟩) (λr s'=>r=.ok (.ret (.bool true))/\OldK s₁.heap s'.heap/\s'.os=s₁.os/\AllBare s'.gens) s₁) :
  WalkO q loose XP YP l.row.toRowW d [] (λf vs=>PySem.call f vs):=by
 intro w s₀ s₁ mg mb G Y fa o pm cd doc dV kV ho hd hcd hD hmg hg args vals as hpre hlay hrd hwl hlo;obtain rfl:dV=.none:=Dflts.none hD hdf;obtain rfl:kV=.none:=Dflts.noKw hD;obtain⟨a,vs,ns,rfl,rfl,hobj,hints,hlen⟩:=Qp hn hpre hwl;refine enter_call (codeAny_mono (call w s₀ s₁ mg mb fa o pm cd doc a vs ns G Y ho (fd_plain hd) hcd hmg hobj hints hlen hg) λr s' hq=>?_);obtain⟨rfl,h2,h3,h4⟩:=hq;exact⟨.inl ⟨.bool true,.bool true,[],rq,λ_=>rfl,.bool true,Qu l _,λ_=>⟨List.Pairwise.nil,λ_ hm=>(nomatch hm)⟩⟩,h2,h3,h4⟩
section
variable {prog:Program} {w:World} {A:Around} {E:YA} {s:Shared} {K:Frag}
end
end Att
namespace L2
open PySem PySem.Spec PyProof.Rows
theorem Ht:∀{vs:YE} {ns:List Int},IntsAre vs ns->Vals (ns.map V.int) vs
 | _,_,.nil=>.nil
 | _,_,.cons n t h=>.cons ⟨t,rfl⟩ (Ht h)
def Only (H:Hp):Prop:=∀b,H b=none\/∃o xs,H b=some (.frz o (.lst xs))
theorem RQ {P:Program} {w:World} {K:YD} {mg mb:YB} {CX:CXT} {k:Nat} {fa a:Addr} {fd:FuncData} {x:Str} {sp:Sp} {s₁ : Shared} {vs:YE} {ns:List Int}
  (KX:K.In s₁.heap) (hns:s₁.heap.Ns mainGlobals mg) (hb:s₁.heap.Ns builtinsNs mb) (hbb:∀x:Str,x≠"__name__"->mb x=bootBuiltins x) (hlim:s₁.heap.NoLimit) (hg:s₁.gens=#[])
  (ha:s₁.heap.get? a=some { cls:=.type "list",data:=.seq vs.toArray }) (hi:IntsAre vs ns) (hl:ns.length<=sizeLine) (hr:BK k callerA)
  (F:∀base:Heap,K.In base->base.Ns mainGlobals mg->Du P w K mg base CX k fa fd [x] sp) (hbind:∀(s:Shared) (u:Value),BindsTo s fd ⟨[u],[]⟩ [(x,u)])
  (hsp:∀H:Hp,Only H->SqL K H a (ns.map V.int)->sp [.ref a] H (λv _=>v=.bl true) λ_ _ _=>False)
  (hCX:∀H e s',CX [] H s₁ (λ_ _ _=>False) e s'->False) :
  codeAny (model P w) callerA (.call (.ref fa) ⟨[.ref a],[]⟩) (λr s'=>r=.ok (.ret (.bool true))/\OldK s₁.heap s'.heap/\s'.os=s₁.os/\AllBare s'.gens) s₁:=by
 have rv:=Ht hi;have lenV:=hi.length;have core:∀H:Hp,Only H->SqL K H a (ns.map V.int)->HOk P w H s₁.heap->(∀b,H b≠none->b=a)->(H a≠none->K.lookup a=none) ->
   codeAny (model P w) callerA (.call (.ref fa) ⟨[.ref a],[]⟩) (λr s'=>r=.ok (.ret (.bool true))/\OldK s₁.heap s'.heap/\s'.os=s₁.os/\AllBare s'.gens) s₁:=by
  intro H hO hS hok hA hK;have NK:∀{b:Addr} {o:Obj},s₁.heap.get? b=some o->H b=none->(Hh s₁.heap H).get? b=some o:=λe n=>Sg e n;have noA:∀{b:Addr} {o:Obj} {es:Array DictEntry} {ep:Nat},s₁.heap.get? b=some o->o.data=.dict es ep->H b=none:=λ{b o es ep} e d=>by
   cases q:H b with
   | none=>rfl
   | some u=>
    have e':b=a:=hA b (by rw[q];simp);subst e';rw[ha] at e;cases e;have d':Data.seq vs.toArray _=Data.dict es ep:=d;cases d'
  have nsK:∀{b:Addr} {m:YB},s₁.heap.Ns b m->(Hh s₁.heap H).Ns b m:=λ{b m} ⟨o,es,ep,e,d,r⟩=>⟨o,es,ep,NK e (noA e d),d,r⟩;have hKb:K.In (Hh s₁.heap H):=λb o e=>NK (KX b o e) (by
   cases q:H b with
   | none=>rfl
   | some u=>
    have e':b=a:=hA b (by rw[q];simp);subst e';rw[hK (by rw[q];simp)] at e;cases e)
  have hM:Mod K mg (Hh s₁.heap H):=⟨hKb,nsK hns,⟨mb,nsK hb,hbb⟩,let ⟨mc,h1,h2⟩:=hlim;⟨mc,nsK h1,h2⟩⟩;have e0:Jc P w K mg (Hh s₁.heap H) callerA [] s₁ H:=⟨rq,hM,λb o e=>T8 e,Nat.le_of_eq (QX _ _),trivial,λb hb=>absurd (show b∈([]:List Addr) from hb) (by simp),hok,.of_eq hg⟩
  refine codeAny_mono ((F _ hKb (nsK hns)).run callerA [] s₁ H ⟨[.ref a],[]⟩ [.ref a] [.ref a] _ _ hr e0 (hbind s₁ (.ref a)) (.cons rfl .nil) (hsp H hO hS)) λr s' h=>?_;cases r with
  | error e=>exact (hCX H e s' h).elim
  | ok fl=>
   cases fl with
   | next=>exact False.elim h
   | brk=>exact False.elim h
   | cont=>exact False.elim h
   | ret u=>
    obtain⟨v,H',os,bare,un,hok',r',q⟩:=h;have q':v=.bl true:=q;subst q';obtain rfl:u=Value.bool true:=r';refine⟨rq,OldK.of_keep λb o e=>?_,os,bare⟩;cases q:H b with
    | none=>exact un.keep b o e q (by intro z;exact absurd (show b∈([]:List Addr) from z) (by simp)) (by simp)
    | some u=>
     rcases hO b with z |⟨ob,xs,z⟩
     ·rw[q] at z;cases z
     ·have z2:=un.DX b ob _ z;obtain⟨e1,_⟩:=hok b _ z;obtain⟨e2,_⟩:=hok' b _ z2;rw[e] at e1;cases e1;exact e2
 cases hk:K.lookup a with
 | some o=>
  have e:=KX a o hk;rw[ha] at e;cases e;refine core (λ_=>none) (λ_=>.inl rfl) (.inr ⟨_,vs.toArray,_,hk,rq,rq,rq,by rw[QaJ,lenV];exact hl,by simpa using rv⟩) (λb u z=>by have z':(none:Option HO)=some u:=z;cases z') (λb z=>absurd rfl z) λz=>absurd rfl z
 | none=>
  refine core (λb=>if b=a then some (.frz { cls:=.type "list",data:=.seq vs.toArray } (.lst (ns.map V.int))) else none) (λb=>?_) (.inl (.inr ⟨{ cls:=.type "list",data:=.seq vs.toArray },if_pos rfl⟩)) (λb u z=>?_) (λb z=>?_) λ_=>hk
  ·by_cases hb:b=a
   ·exact .inr ⟨_,_,if_pos hb⟩
   ·exact .inl (if_neg hb)
  ·by_cases hb:b=a
   ·have z':=(if_pos hb).symm.trans z;cases z';subst hb;exact⟨ha,by rw[Qbc];exact hl,vs,_,rv,ha⟩
   ·have z':=(if_neg hb).symm.trans z;cases z'
  ·by_cases hb:b=a
   ·exact hb
   ·exact absurd (if_neg hb) z
theorem Tr {l:PySem.W.OpenLaw} {n k:Nat} {q:Program} {loose:YF} {XP:(YB)->Heap->Prop} {YP:World->Heap->Prop} {d:DefRec} {K:Params->YD} {CX:World->CXT} {sp:World->Sp} {x:Str}
  (hn:l.most=some n) (hn2:n<=sizeLine) (hdf:d.params.defaults=[]) (hr:BK k callerA)
  (hY:∀(w:World) (h:Heap),YP w h->(K w.params).In h)
  (F:∀(w:World) (mg:YB) (fa:Addr) (h:Heap),(K w.params).In h->h.Ns mainGlobals mg->mg d.name=some (.ref fa) ->
   ∃fd:FuncData,(∀(s:Shared) (u:Value),BindsTo s fd ⟨[u],[]⟩ [(x,u)]) /\
    ∀base:Heap,(K w.params).In base->base.Ns mainGlobals mg->Du l.prog w (K w.params) mg base (CX w) k fa fd [x] (sp w))
  (hsp:∀(w:World) (H:Hp) (a:Addr) (ns:List Int),ns.length<=n->Only H->SqL (K w.params) H a (ns.map V.int)->sp w [.ref a] H (λv _=>v=.bl true) λ_ _ _=>False)
  (hCX:∀(w:World) (H:Hp) (s:Shared) (e:Value) (s':Shared),CX w [] H s (λ_ _ _=>False) e s'->False) :
  PySem.W.WalkO q loose XP YP l.row.toRowW d [] (λf vs=>PySem.call f vs):=by
 refine Att.M7 hn hdf λw s₀ s₁ mg mb fa o pm cd doc a vs ns G Y ho hd hcd hmg hobj hints hlen hg=>?_;have KX:=hY w _ Y;obtain⟨fd,hb,hF⟩:=F w mg fa _ KX G.T.g hmg;exact RQ KX G.T.g G.T.b G.T.builtins G.T.nolimit hg hobj hints (QbC hlen hn2) hr hF hb (λH hO hS=>hsp w H a ns hlen hO hS) λH e s'=>hCX w H s₁ e s'
def Bf (s:Stmt):Arguments:=match s with
 | .FunctionDef _ a _ _ _ _ _ _ _ _=>a
 | _=>{ posonlyargs:=[],args:=[],vararg:=none,kwonlyargs:=[],kw_defaults:=[],kwarg:=none,defaults:=[] }
def Ay (s:Stmt):List Stmt:=match s with
 | .FunctionDef _ _ b _ _ _ _ _ _ _=>b
 | _=>[]
def Ah (s:Stmt):Scope:=match s with
 | .FunctionDef _ _ _ _ _ _ sc _ _ _=>sc
 | _=>{ kind:=.function,names:=[],isGenerator:=false,isCoroutine:=false }
abbrev CX0:CXT:=λ_ _ _ _ _ _=>False
abbrev E0:XK:=λ_ _ _=>False
theorem Te {X:Cx}:Passes CX0 X E0:=λ_ _ _ _ _ _ _ h=>h.elim
structure Fun (K:YD) (x qual:Str) (st:Stmt) (f:Addr) (fd:FuncData):Prop where
 ex:∃(oc:Value) (od:Option Addr) (kV doc pm:Value) (an:Option Addr) (cdv ct:Value) (osl:YI),
  fd=fnOf x qual (Bf st) (Ay st) (Ah st) .none kV doc pm an cdv ct/\K.lookup f=some ⟨oc,od,.func fd,osl⟩/\codeIn K cdv qual=true
 kp:keepIn K (.ref f)=true
section
variable {P:Program} {w:World} {K:YD} {mg:YB} {base:Heap}
theorem Fun.ok {x qual:Str} {st:Stmt} {f:Addr} {fd:FuncData} {N ps:YF} {k:Nat} {sp:Sp} (F:Fun K x qual st f fd) (S:Bm N ps (Ah st)) (len:∀vs H Q E,sp vs H Q E->vs.length=ps.length)
  (hbody:∀(cdv:Value) (A:Around) (outer:List Env) (s:Shared) (H:Hp) (vs:YG) (Q:VK) (E:XK),BK k (A.deeper (envOfC qual (Ah st) s.heap.objs.size f cdv))->sp vs H Q E ->
   ∃t,PSs (Ia CX0 P w K mg base N qual (Ah st) f cdv A outer s H E).nox (Ay st) t/\t { nx:=λ_ H'=>Q .non H',rt:=Q } (start N vs) H):Du P w K mg base CX0 (k+1) f fd ps sp:=by
 obtain⟨oc,od,kV,doc,pm,an,cdv,ct,osl,rfl,lk,hcd⟩:=F.ex;refine Wx lk hcd S len λA outer s H vs Q E hr hsp=>?_;obtain⟨t,h,q⟩:=hbody cdv A outer s H vs Q E hr hsp;exact⟨t,h.nox,q⟩
theorem Fun.binds {x qual:Str} {st:Stmt} {f:Addr} {fd:FuncData} {ps:YF} (F:Fun K x qual st f fd)
  (h:∀(kV doc pm:Value) (an:Option Addr) (cdv ct:Value) (us:YE),us.length=ps.length->bindArgs (fnOf x qual (Bf st) (Ay st) (Ah st) .none kV doc pm an cdv ct) ⟨us,[]⟩=pure (ps.zip us)):Binds K fd ps []:=by
 obtain⟨oc,od,kV,doc,pm,an,cdv,ct,osl,rfl,lk,hcd⟩:=F.ex;exact .all (h kV doc pm an cdv ct)
theorem QZ {x qual:Str} {st:Stmt} {f:Addr} {oc:Value} {od an:Option Addr} {osl:YI} {kV doc pm cdv ct:Value} (l:K.lookup f=some ⟨oc,od,.func (fnOf x qual (Bf st) (Ay st) (Ah st) .none kV doc pm an cdv ct),osl⟩)
  (c:codeIn K cdv qual=true) (k:keepIn K (.ref f)=true):Fun K x qual st f (fnOf x qual (Bf st) (Ay st) (Ah st) .none kV doc pm an cdv ct):=⟨⟨oc,od,kV,doc,pm,an,cdv,ct,osl,rq,l,c⟩,k⟩
end
theorem Bx {n:Nat} (h:n<=1000):n < sizeLine:=Nat.lt_of_le_of_lt h (by decide)
section
variable {X:Cx}
theorem pv (i:Nat) {x:Str} {pos:Pos} (hN:X.N[i]?=some x:=by rfl) (hv:Vis X.env.scope x:=by first | exact Or.inl rfl | exact Or.inr (Or.inl rfl) | exact Or.inr (Or.inr rfl)) (hd:(x == ("__debug__":Str))=false:=by decide)
  (hcd:(x == ("__classdict__":Str))=false:=by decide):PE X (.Name x pos) (Uw i):=Qx hN hv hd hcd
end
theorem Bj {A B:Prop} (h:B):if false=true then A else B:=by
 rw[if_neg QaA];exact h
theorem Ba {A B:Prop} (h:A):if true=true then A else B:=by
 rw[if_pos rfl];exact h
theorem Vl {c A B:Prop} [Decidable c] (h1:c->A) (h2:¬c->B):if c then A else B:=by
 by_cases h:c
 ·rw[if_pos h];exact h1 h
 ·rw[if_neg h];exact h2 h
theorem K1 {c A B:Prop} [Decidable c] (hc:c) (h:B):if (!decide c)=true then A else B:=by
 rw[Qbo hc];exact Bj h
def Same (H H':Hp):Prop:=∀b o,H b=some o->H' b=some o
theorem Same.refl (H:Hp):Same H H:=λ_ _ h=>h
theorem Same.trans {H H1 H2:Hp} (a:Same H H1) (b:Same H1 H2):Same H H2:=λc o h=>b c o (a c o h)
theorem Same.free {H H':Hp} (e:Same H H') {l:Addr} (h:H' l=Option.none):H l=Option.none:=by
 cases q:H l with
 | none=>rfl
 | some o=>
  rw[e l o q] at h;cases h
theorem Same.seq {K:YD} {H H':Hp} {a:Addr} {xs:YG} (e:Same H H') (h:SqL K H a xs):SqL K H' a xs:=by
 rcases h with (h |⟨o,h⟩) | h
 ·exact .inl (.inl (e _ _ h))
 ·exact .inl (.inr ⟨o,e _ _ h⟩)
 ·exact .inr h
def CT (env:Env):List (Str×NameKind)->List (Str×Addr)->List (Str×Addr)
 | [],cs=>cs
 | (n,k)::r,cs=>CT env r (if (k == .free)=true then (match env.cells.lookup n with | some c=>(n,c)::cs | none=>cs) else cs)
theorem Mt {env:Env}:∀(names:List (Str×NameKind)) (cs:List (Str×Addr)),(∀p∈names,p.2=.free->∃c,env.cells.lookup p.1=some c) ->
  (forIn names cs λ(p:Str×NameKind) (r:List (Str×Addr))=>(if (p.2 == .free)=true then do
    let c <-cellOf env p.1
    pure (ForInStep.yield ((p.1,c)::r))
   else pure (ForInStep.yield r):Sem (ForInStep (List (Str×Addr)))))=pure (CT env names cs)
 | [],cs,_=>rfl
 | (n,k)::rest,cs,h=>by
  have ih:=λcs'=>Mt rest cs' λp hp=>h p (Qaq _ hp);rw[List.forIn_cons];cases hk:(k == NameKind.free) with
  | true=>
   obtain⟨c,hc⟩:=h (n,k) QaF (eq_of_beq hk);have e1:cellOf env n=pure c:=by unfold cellOf;rw[hc]
   have e2:CT env ((n,k)::rest) cs=CT env rest ((n,c)::cs):=by simp only[CT,hk,if_true,hc]
   rw[e2,<-ih];simp only[hk,if_true,e1,pure_bind]
  | false=>
   have e2:CT env ((n,k)::rest) cs=CT env rest cs:=by simp only[CT,hk,QaD,QbM]
   rw[e2,<-ih];simp only[hk,QaD,QbM,pure_bind]
theorem PJ {env:Env} {scope:Scope} (h:∀p∈scope.names,p.2=.free->∃c,env.cells.lookup p.1=some c):closureFor scope env=pure (CT env scope.names []):=by
 have e:=Mt (env:=env) scope.names [] h;unfold closureFor;simp only[bind_pure];exact e
theorem Ms {env:Env}:∀(names:List (Str×NameKind)) (cs:List (Str×Addr)),(∀x c,cs.lookup x=some c->env.cells.lookup x=some c) ->
  ∀x c,(CT env names cs).lookup x=some c->env.cells.lookup x=some c
 | [],cs,h,x,c,e=>h x c e
 | (n,k)::rest,cs,h,x,c,e=>by
  refine Ms rest _ (λy d z=>?_) x c e;split at z
  ·split at z
   ·rename_i c' hc';rw[List.lookup_cons] at z;cases q:y == n with
    | true=>rw[q] at z;cases z;rw[eq_of_beq q];exact hc'
    | false=>rw[q] at z;exact h y d z
   ·exact h y d z
  ·exact h y d z
theorem I8 {env:Env}:∀(names:List (Str×NameKind)) (cs:List (Str×Addr)) (x:Str),((cs.lookup x).isSome=true\/((x,NameKind.free)∈names/\∃c,env.cells.lookup x=some c)) ->
  ∃c,(CT env names cs).lookup x=some c
 | [],cs,x,h=>by
  rcases h with h |⟨h,_⟩
  ·exact Option.isSome_iff_exists.mp h
  ·cases h
 | (n,k)::rest,cs,x,h=>by
  refine I8 rest _ x ?_;have grow:(cs.lookup x).isSome=true->(List.lookup x (if (k == .free)=true then (match env.cells.lookup n with | some c=>(n,c)::cs | none=>cs) else cs)).isSome=true:=λz=>by
   split
   ·split
    ·rw[List.lookup_cons];cases x == n with
     | true=>rfl
     | false=>exact z
    ·exact z
   ·exact z
  rcases h with h |⟨h,c,hc⟩
  ·exact .inl (grow h)
  ·rcases Qbu.mp h with z | z
   ·cases z;refine .inl ?_;simp[hc,List.lookup_cons]
   ·exact .inr ⟨z,c,hc⟩
def FN (env:Env) (n:Str) (k:NameKind):NameKind:=if (k == .free&&env.scope.kind == .function&&env.kindOf n == some .cell)=true then .cell else k
theorem Jk (env:Env):∀(l:List (Str×NameKind)) (x:Str),
  (l.map λ(n,k)=>if (k == NameKind.free&&env.scope.kind == .function&&env.kindOf n == some .cell) then (n,NameKind.cell) else (n,k)).lookup x=(l.lookup x).map (FN env x)
 | [],_=>rfl
 | (n,k)::r,x=>by
  have ih:=Jk env r x;have e:(if (k == NameKind.free&&env.scope.kind == .function&&env.kindOf n == some .cell)=true then (n,NameKind.cell) else (n,k))=(n,FN env n k):=by
   unfold FN;split <;> rfl
  rw[Qbv];show List.lookup x ((if (k == NameKind.free&&env.scope.kind == .function&&env.kindOf n == some .cell)=true then (n,NameKind.cell) else (n,k))::_)=_
  rw[e,List.lookup_cons,List.lookup_cons];cases q:x == n with
  | true=>rw[eq_of_beq q];rfl
  | false=>exact ih
theorem Rp {env:Env} {n:Str} {k:NameKind} (h:FN env n k=.cell\/FN env n k=.free):k=.cell\/k=.free:=by
 unfold FN at h;split at h
 ·rename_i q;simp only[QaS] at q;exact .inr (eq_of_beq q.1.1)
 ·exact h
theorem Q6 {prog:Program} {w:World} {A:Around} {R:Result->Shared->Prop} {s:Shared} {elt target iter:Expr} {ifs:YJ} {scope:Scope} {pos:Pos} {it acc:Value} {env:Env} (J:Nat->Shared->Prop)
  (turn:∀n s,J n s->wpAny (model prog w) A (pyNext it) (λr s1=>match r with
   | none=>R (.ok .next) s1
   | some v=>wpAny (model prog w) A (letOwnedTupleGo target it v) (λ_ s2=>wpAny (model prog w) A (assign target env v) (λ_ s3=>
     wpAny (model prog w) A (forIn ifs true λc r=>if r=true then do let ok <-isTrue c env (eval c env);pure (ForInStep.yield ok) else pure (ForInStep.yield r)) (λok s4=>
      if ok=true then wpAny (model prog w) A (eval elt env) (λx s5=>wpAny (model prog w) A (call (.builtin "list.append") [acc,x]) (λ_ s6=>∃m,m < n/\J m s6) (λ_ _=>False) s5) (λ_ _=>False) s4
      else ∃m,m < n/\J m s4) (λ_ _=>False) s3) (λ_ _=>False) s2) (λ_ _=>False) s1) (λ_ _=>False) s)
  (n:Nat) (h:J n s):codeAny (model prog w) A (.compLoop (.ListComp elt [⟨target,iter,ifs,0⟩] scope pos) 0 it acc env) R s:=by
 refine codeAny_loop rfl J (λk s' hk=>?_) n h;show wpAny _ A (Sem.onRaise (compTurn (.ListComp elt [⟨target,iter,ifs,0⟩] scope pos) 0 it acc env) (λx=>do noteFrame x env;theTreesLotGoes x)) _ _ s'
 refine wpAny_noted ?_;rw[compTurn_list];refine QbH (wpAny_standAt (QbH (QbJ (turn k s' hk) (λr s1 q1=>?_) λ_ _ f=>f.elim)));cases r with
 | none=>exact QbI q1
 | some v=>
  refine QbH (QbJ q1 (λ_ s2 q2=>QbH (QbJ q2 (λ_ s3 q3=>QbH (QbJ q3 (λok s4 q4=>?_) λ_ _ f=>f.elim)) λ_ _ f=>f.elim)) λ_ _ f=>f.elim);cases ok with
  | false=>exact QbI ⟨rfl,q4⟩
  | true=>exact QbH (QbH (QbJ q4 (λx s5 q5=>QbH (QbJ q5 (λ_ s6 q6=>QbI (QbI ⟨rfl,q6⟩)) λ_ _ f=>f.elim)) λ_ _ f=>f.elim))
def cxC (X:Cx) (N':YF) (scope:Scope) (s3:Shared) (H3:Hp) (fp:List Addr) (pn:YC):Cx where
 prog:=X.prog
 w:=X.w
 K:=X.K
 mg:=X.mg
 base:=X.base
 A:=X.A
 N:=N'
 s₀:=s3
 H₀:=H3
 env:=compEnvC scope (CT X.env scope.names []) s3.heap.objs.size X.env
 outer:=X.stack
 stack:=X.stack
 ex:=fp
 fn:=λ_=>false
 calm:=X.calm
 pn:=pn
 xe:=λ_ _=>False
structure CG (X:Cx) (N':YF) (src:List (Option Nat)) (sc:Scope):Prop where
 kind:sc.kind=.function
 Fg:∀y∈sc.names,y.2≠.cell
 loc:∀y∈sc.names,y.2=.local->sc.names.lookup y.1=some .local
 fv:∀y∈sc.names,y.2=.free->X.env.kindOf y.1=some .cell\/X.env.kindOf y.1=some .free
 len:src.length=N'.length
 src:∀(i:Nat) (x:Str) (j:Nat),N'[i]?=some x->src[i]?=some (some j)->X.N[j]?=some x/\sc.names.lookup x=some .free
def G5 (src:List (Option Nat)) (σ : St):St:=src.map λo=>match o with | none=>none | some j=>(σ[j]?).join
def PF (X:Cx) (ifs:YJ) (t:TT):Prop:=
 ∀(jb:YC) (s:Shared) (σ : St) (H:Hp) (Q:Bool->Hp->Prop),Inv X jb σ H s->t σ H Q ->
  wpAny (model X.prog X.w) X.A (forIn ifs true λc r=>if r=true then do let ok <-isTrue c X.env (eval c X.env);pure (ForInStep.yield ok) else pure (ForInStep.yield r)) (TP X jb σ Q) X.xe s
theorem FT {X:Cx}:PF X [] (λ_ H Q=>Q true H):=λ_ _ _ H _ I h=>wpAny_tests_nil ⟨H,I,h⟩
theorem Un.ahead {fs ex:List Addr} {H H':Hp} {h h1 h':Heap} (u:Un fs ex H H' h h1) (k:∀b o,b < h.objs.size->h1.get? b=some o->h'.get? b=some o):Un fs ex H H' h h' where
 keep:=λb o e n hb hx=>k b o (QbA e) (u.keep b o e n hb hx)
 slot:=λb o e n hb hx=>by
  obtain⟨sl,q⟩:=u.slot b o e n hb hx;exact⟨sl,k b _ (QbA e) q⟩
 free:=u.free
 there:=λb o e hx=>by
  obtain⟨o',q⟩:=u.there b o e hx;exact⟨o',k b _ (QbA e) q⟩
 tups:=u.tups
 DX:=u.DX
 Ei:=u.Ei
section
variable {X:Cx} {N':YF} {src:List (Option Nat)} {sc:Scope} {jb:YC} {σ : St} {H:Hp} {s3:Shared} {fp:List Addr} {h1:Heap} {tk:Nat}
theorem Sw (S:CG X N' src sc) (I:Inv X jb σ H s3) (hf:∀b∈fp,Ez X jb H b) (ht:∀b∈fp,b < s3.heap.objs.size)
  (ns:h1.Ns s3.heap.objs.size λ_=>none) (kp:∀b o,s3.heap.get? b=some o->h1.get? b=some o) :
  Inv (cxC X N' sc s3 H fp (X.pn++jb)) [] (G5 src σ) H { s3 with heap:=h1,toks:=tk }:=by
 have hcl:∀x c,(CT X.env sc.names []).lookup x=some c->X.env.cells.lookup x=some c:=Ms sc.names [] λx c e=>by cases e
 have old:∀x c,(CT X.env sc.names []).lookup x=some c->∃o,s3.heap.get? c=some o:=λx c e=>by
  obtain⟨v,o,ho,_⟩:=I.cell x c (hcl x c e);exact⟨o,ho⟩
 have fvh:∀x,(x,NameKind.free)∈sc.names->∃c,X.env.cells.lookup x=some c:=λx hx=>I.ok.has x (S.fv _ hx rfl);have UJ:∀b,b≠X.env.locals->b∉X.fs->b∉frs X.stack:=λb h1 h2 hb=>(Qbu.mp (I.K7 b hb)).elim h1 h2;have kindOf_eq:∀x,(compEnvC sc (CT X.env sc.names []) s3.heap.objs.size X.env).kindOf x=(sc.names.lookup x).map (FN X.env x):=λx=>Jk X.env sc.names x;refine⟨⟨I.ok.mod,S.kind,I.ok.glob,I.ok.blt,QbE _,λx y c e1 e2=>I.ok.inj x y c (hcl x c e1) (hcl y c e2),λx hx=>?_,λx c hf=>absurd hf QaA,I.ok.hd,I.ok.frames,.inl rfl,λb hb=>?_,I.bs,QbC I.ok.bsz I.sz,
  λb o e hb=>?_,λb hb=>?_,I.stack,I.Jv⟩,rq,I.bare,Un.kept kp,⟨_,ns,λi x v e1 e2 e3=>?_⟩,λx c e=>?_,I.hok.fresh (QbE _),λx c e=>I.DP x c (hcl x c e),λp hp=>?_,I.hok.kept kp,?_⟩
 ·
  have hx':(sc.names.lookup x).map (FN X.env x)=some .cell\/(sc.names.lookup x).map (FN X.env x)=some .free:=by
   rw[<-kindOf_eq x];exact hx
  cases q:sc.names.lookup x with
  | none=>rw[q] at hx';rcases hx' with z | z <;> cases z
  | some k=>
   rw[q] at hx';have hk:k=.cell\/k=.free:=Rp (env:=X.env) (n:=x) (hx'.imp (λz=>Qbf z) λz=>Qbf z);have hm:=Qaw q;rcases hk with rfl | rfl
   ·exact absurd rfl (S.Fg _ hm)
   ·exact I8 sc.names [] x (.inr ⟨hm,fvh x hm⟩)
 ·
  obtain⟨f0,f1,f2,f3,f4,f5⟩:=hf b hb;exact⟨QbB (ht b hb),λx c e=>f4 x c (hcl x c e)⟩
 ·
  obtain⟨f0,f1,f2,f3,f4,f5⟩:=hf b hb;rcases f3 with z | z
  ·exact I.ok.JH b o e z
  ·exact absurd (QaB (QbA e) (QbC I.ok.bsz z)) (Qby _)
 ·
  obtain⟨f0,f1,f2,f3,f4,f5⟩:=hf b hb;exact UJ b f1 f2
 ·
  have e2':(G5 src σ)[i]?=some (some v):=e2;unfold G5 at e2';rw[QaK] at e2';cases q:src[i]? with
  | none=>rw[q] at e2';cases e2'
  | some oj=>
   rw[q] at e2';cases oj with
   | none=>cases e2'
   | some j=>
    have e4:(σ[j]?).join=some v:=Qbf e2';have e5:σ[j]?=some (some v):=by
     cases r:σ[j]? with
     | none=>rw[r] at e4;cases e4
     | some z=>rw[r] at e4;cases z with
      | none=>cases e4
      | some y=>cases e4;rfl
    obtain⟨hN,hfr⟩:=S.src i x j e1 q;have hm:=Qaw hfr;have kx:=S.fv _ hm rfl;obtain⟨m,hn,hl⟩:=I.loc;obtain⟨u,r,l⟩:=hl j x v hN e5 (.inr kx);refine⟨u,r,?_⟩;rcases l with⟨k1,_⟩|⟨_,c,hc,hcell⟩
    ·rcases kx with z | z <;> (rw[z] at k1;cases k1)
    ·obtain⟨c',hc'⟩:=I8 (env:=X.env) sc.names [] x (.inr ⟨hm,c,hc⟩);have e6:c'=c:=by
      have:=hcl x c' hc';rw[hc] at this;exact (Qbf this).symm
     subst e6;refine .inr ⟨?_,c',hc',?_⟩
     ·have:(compEnvC sc (CT X.env sc.names []) s3.heap.objs.size X.env).kindOf x=some (FN X.env x .free):=by rw[kindOf_eq x,hfr];rfl
      show (compEnvC sc (CT X.env sc.names []) s3.heap.objs.size X.env).kindOf x=some .cell\/(compEnvC sc (CT X.env sc.names []) s3.heap.objs.size X.env).kindOf x=some .free;rw[this];unfold FN;split
      ·exact .inl rfl
      ·exact .inr rfl
     ·obtain⟨o,ho,hd⟩:=hcell;exact⟨o,kp _ o ho,hd⟩
 ·
  obtain⟨v,o,ho,hd⟩:=I.cell x c (hcl x c e);exact⟨v,o,kp _ o ho,hd⟩
 ·
  have hp':p∈X.pn++jb:=(Qbh.mp hp).elim id λz=>by cases z
  obtain⟨a1,a2,a3,a4,a5⟩:=I.pin p hp';exact⟨kp _ _ a1,a2,QbB (QbA a1),UJ p.1 a3 a4,a5⟩
 ·show (G5 src σ).length=N'.length;unfold G5;rw[Qbc];exact S.len
theorem VF {s1:Shared} {σ':St} {H':Hp} {h':Heap} (I:Inv X jb σ H s3) (hf:∀b∈fp,Ez X jb H b) (I':Inv (cxC X N' sc s3 H fp (X.pn++jb)) [] σ' H' s1)
  (sb:Heap.SameBut s3.heap.objs.size s1.heap h'):Inv X jb σ H' { s1 with heap:=h' }:=by
 have fr:H' s3.heap.objs.size=none:=I'.free;refine I.call' (s':={ s1 with heap:=h' }) (ch:=fp) I'.os ?_ ?_ I'.bare λb hb=>?_
 ·exact Un.ahead (h:=s3.heap) (h1:=s1.heap) I'.base λb o hb e=>sb.extBut b o (QbB hb) e
 ·exact λb u e=>(I'.hok b u e).stay (λc v hc q=>sb.extBut c v (by
   intro z;rcases hc with y | y
   ·rw[<-y,z,fr] at e;cases e
   ·rw[z,fr] at y;cases y) q) (λ_ q=>q) λ_ _ q=>q
 ·obtain⟨f0,f1,f2,f3,f4,f5⟩:=hf b hb;exact⟨f3,f1,f4,λp hp=>f5 p hp⟩
end
@[irreducible] def Gu (J:It) (g:TG) (tt:TT) (te:TE) (Q:VK) (σ0:St) (H0:Hp) (l:Addr):Prop:=∃W:Nat->YN,(∃m,W 0 m σ0 H0) /\
 ∀i m σ' H',W i m σ' H'->(J.stop i H'/\Q (.ref l) H')\/(J.go i H'/\∃N:YO,(∀ σ3 H3,N σ3 H3->∃m',m' < m/\W (i+1) m' σ3 H3)/\∀x H2,J.yld i H' x H2->g x σ' H2 fun σ3 H3=>tt σ3 H3 λb H4=>
  if b=true then te σ3 H4 λy H5=>∃xs,H5 l=some (.lst xs)/\xs.length < sizeLine/\N σ3 (upd H5 l (.lst (xs++[y]))) else N σ3 H4)
def Td (wi:TI) (src:List (Option Nat)) (g:TG) (tt:TT) (te:TE):TE:=fun σ H Q=>wi σ H λJ H1=>∀l,H1 l=none->Gu J g tt te Q (G5 src σ) (upd H1 l (.lst [])) l
theorem Q7 {X:Cx} {N':YF} {src:List (Option Nat)} {sc:Scope} {elt tg iter:Expr} {ifs:YJ} {pos pos':Pos} {wi:TI} {g:TG} {tt:TT} {te:TE} {use:Option (Value->Sem Unit)} {R:YA} (hc:X.calm=true) (S:CG X N' src sc)
  (hi:PI X tg iter wi) (hg:∀s3 H3 fp pn,PG (cxC X N' sc s3 H3 fp pn) tg g) (ht:∀s3 H3 fp pn,PF (cxC X N' sc s3 H3 fp pn) ifs tt) (he:∀s3 H3 fp pn,PE (cxC X N' sc s3 H3 fp pn) elt te)
  (hs:∀x,foldedSetIterable iter X.env x=pure x) {jb:YC} {s:Shared} {σ : St} {H:Hp} {Q:VK} (I:Inv X jb σ H s) (h:Td wi src g tt te σ H Q)
  (fin:∀s3 H3 fp σ4 H4 s5 l,Inv X jb σ H3 s3->(∀b∈fp,Ez X jb H3 b)->Inv (cxC X N' sc s3 H3 fp (X.pn++jb)) [] σ4 H4 s5->Q (.ref l) H4 ->
   compPost (model X.prog X.w) X.A X.xe use R (.ref l) s3.heap.objs.size (.ok .next) s5) :
  wpAny (model X.prog X.w) X.A (comprehension (.ListComp elt [⟨tg,iter,ifs,0⟩] sc pos) sc X.env pos' (newList []) false (eval iter X.env) use) R X.xe s:=by
 refine wpAny_comprehension_free (use:=use) (cl:=CT X.env sc.names []) rfl hs (PJ λp hp e=>I.ok.has p.1 (S.fv p hp e)) S.kind S.loc ?_;refine thn (hi jb s σ H _ I h) λv s1 h1=>thn h1 λitv s2 h2=>?_;obtain⟨it,fp,tn,J,H2,rfl,I2,T,st2,f2,q⟩:=h2;have q':=q s2.heap.objs.size (I2.hok.fresh (QbE _));unfold Gu at q';obtain⟨W,⟨m0,w0⟩,turn⟩:=q';refine QaO (wpAny_newFunctionEnv S.Fg (by intro y hy;simp at hy) (λha hns hsb=>?_) S.kind);have I3:Inv X jb σ (upd H2 s2.heap.objs.size (.lst [])) { s2 with heap:=s2.heap.push { cls:=.type "list",dict:=none,data:=.seq ([]:YE).toArray } }:=
  I2.laid (t':=s2.toks) (λb u e=>Qaj _ e) (QbE _) ⟨QbF _,[],0,.nil,Qat _ rfl⟩
 have hfl:∀b∈fp,b < s2.heap.objs.size:=λb hb=>by
  obtain⟨o,e,_⟩:=T.obj 0 _ st2 b hb;exact QbA e
 have f3:∀b∈fp,Ez X jb (upd H2 s2.heap.objs.size (.lst [])) b:=λb hb=>⟨by rw[Aw (QbB (hfl b hb))];exact (f2 b hb).1,(f2 b hb).2⟩;generalize hs3:({ s2 with heap:=s2.heap.push { cls:=.type "list",dict:=none,data:=.seq ([]:YE).toArray } }:Shared)=s3 at *;have hsz:s2.heap.objs.size < s3.heap.objs.size:=by rw[<-hs3];show s2.heap.objs.size < (s2.heap.push _).objs.size;rw[Qbp];exact QaW _
 have kp:∀b o,s3.heap.get? b=some o->ha.get? b=some o:=λb o e=>hsb.extBut b o (QbB (QbA e)) (Qaj _ e);have st3:tn 0 ha:=T.keep 0 _ _ st2 λb hb o e=>kp b o (by rw[<-hs3];exact Qaj _ e);have I4:Inv (cxC X N' sc s3 (upd H2 s2.heap.objs.size (.lst [])) fp (X.pn++jb)) [] (G5 src σ) (upd H2 s2.heap.objs.size (.lst [])) { s3 with heap:=ha,toks:=s3.toks+([]:List (Str×Value)).length }:=
  Sw S I3 f3 (λb hb=>Nat.lt_trans (hfl b hb) hsz) hns kp
 have loop:codeAny (model X.prog X.w) X.A (.compLoop (.ListComp elt [⟨tg,iter,ifs,0⟩] sc pos) 0 (.ref it) (.ref s2.heap.objs.size) (compEnvC sc (CT X.env sc.names []) s3.heap.objs.size X.env))
   (compPost (model X.prog X.w) X.A X.xe use R (.ref s2.heap.objs.size) s3.heap.objs.size) { s3 with heap:=ha,toks:=s3.toks+([]:List (Str×Value)).length }:=by
  refine Q6 (λn s'=>∃i σ' H',Inv (cxC X N' sc s3 (upd H2 s2.heap.objs.size (.lst [])) fp (X.pn++jb)) [] σ' H' s'/\tn i s'.heap/\(∀b∈fp,H' b=none)/\W i n σ' H') ?_ m0 ⟨0,_,_,I4,st3,λb hb=>(f3 b hb).1,w0⟩;rintro n s4 ⟨i,σ4,H4,J4,st4,fr4,w4⟩;have stat:∀{H':Hp},(∀b∈fp,H' b=none)->∀b∈fp,Ez (cxC X N' sc s3 (upd H2 s2.heap.objs.size (.lst [])) fp (X.pn++jb)) [] H' b:=λhn b hb=>
   ⟨hn b hb,(I4.ok.exf b hb).1,I4.ok.Ka b hb,.inl hb,λx c e=>(I4.ok.exf b hb).2 x c e,λp hp=>(f3 b hb).2.2.2.2.2 p ((Qbh.mp hp).elim id λz=>by cases z)⟩
  rcases turn i n σ4 H4 w4 with⟨stop,qn⟩|⟨go,N,hN,step⟩
  ·refine thn (T.done (cxC X N' sc s3 (upd H2 s2.heap.objs.size (.lst [])) fp (X.pn++jb)) rfl rfl rfl hc i [] s4 σ4 H4 _ J4 (stat fr4) st4 stop) λr s5 zz=>?_;obtain⟨hr,J5⟩:=zz;subst hr;exact fin s3 _ fp σ4 H4 s5 _ I3 f3 J5 qn
  ·refine thn (T.item (cxC X N' sc s3 (upd H2 s2.heap.objs.size (.lst [])) fp (X.pn++jb)) rfl rfl rfl hc i [] s4 σ4 H4 _ J4 (stat fr4) st4 go) λr s5 zz=>?_;obtain⟨u,hr,h5⟩:=zz;subst hr;refine thn h5 λ_ s6 zz=>?_;obtain⟨x,H6,J6,r6,y6,st6,fr6⟩:=zz;have J6':=J6.pinned (stat fr6) (T.obj _ _ st6);have back:∀{pl:YC} {σ7:St} {H7:Hp} {s7:Shared},Inv (cxC X N' sc s3 (upd H2 s2.heap.objs.size (.lst [])) fp (X.pn++jb)) ([]++Hz fp s6.heap) σ7 H7 s7->N σ7 H7 ->
     ∃m',m' < n/\∃i σ' H',Inv (cxC X N' sc s3 (upd H2 s2.heap.objs.size (.lst [])) fp (X.pn++jb)) [] σ' H' s7/\tn i s7.heap/\(∀b∈fp,H' b=none)/\W i m' σ' H':=λ{pl σ7 H7 s7} J7 w7=>by
    obtain⟨m',hm,w7⟩:=hN _ _ w7;have pinned:∀b∈fp,∀o,s6.heap.get? b=some o->s7.heap.get? b=some o/\H7 b=none:=λb hb o e=>by
     have:=J7.pin (b,o) (Qao _ (Qao _ (Hg hb e)));exact⟨this.1,this.2.1⟩
    refine⟨m',hm,i+1,σ7,H7,J7.G3,T.keep _ _ _ st6 λb hb o e=>(pinned b hb o e).1,λb hb=>?_,w7⟩;obtain⟨o,e,_⟩:=T.obj _ _ st6 b hb;exact (pinned b hb o e).2
   refine thn (hg s3 _ fp _ _ s6 σ4 H6 x u _ J6' r6 (step x H6 y6)) λ_ s7 zz=>?_;obtain⟨σ7,H7,J7,q7⟩:=zz;refine thn (ht s3 _ fp _ _ s7 σ7 H7 _ J7 q7) λok s8 zz=>?_;obtain⟨H8,J8,q8⟩:=zz;cases ok with
   | false=>
    rw[if_neg QaA] at q8 ⊢;exact back (pl:=[]) J8 q8
   | true=>
    rw[if_pos rfl] at q8 ⊢;refine thn (he s3 _ fp _ _ s8 σ7 H8 _ J8 q8) λy s9 zz=>?_;obtain⟨yv,H9,J9,r9,xs,hl9,hz9,q9⟩:=zz;refine thn (Gp _ s9 σ7 H9 (.ref s2.heap.objs.size) [yv] (.ref s2.heap.objs.size) [y] (λ_ H'=>N σ7 H') J9 rfl (.cons r9 .nil) ⟨_,xs,yv,rq,rq,hl9,hz9,q9⟩) λ_ s10 zz=>?_;obtain⟨_,H10,J10,_,q10⟩:=zz;exact back (pl:=[]) J10 q10
 exact codeAny_compStart_list loop (T.self X.A 0 _ _ _ st3 loop)
theorem Er {X:Cx} {N':YF} {src:List (Option Nat)} {sc:Scope} {elt tg iter:Expr} {ifs:YJ} {pos:Pos} {wi:TI} {g:TG} {tt:TT} {te:TE} (hc:X.calm=true) (S:CG X N' src sc)
  (hi:PI X tg iter wi) (hg:∀s3 H3 fp pn,PG (cxC X N' sc s3 H3 fp pn) tg g) (ht:∀s3 H3 fp pn,PF (cxC X N' sc s3 H3 fp pn) ifs tt) (he:∀s3 H3 fp pn,PE (cxC X N' sc s3 H3 fp pn) elt te)
  (hs:∀x,foldedSetIterable iter X.env x=pure x:=by intro _;rfl):PE X (.ListComp elt [⟨tg,iter,ifs,0⟩] sc pos) (Td wi src g tt te):=by
 intro jb s σ H Q I h;rw[eval_ListComp];refine Q7 (use:=none) hc S hi hg ht he hs I h λs3 H3 fp σ4 H4 s5 l I3 f3 J5 q=>?_;obtain⟨m,hn,_⟩:=J5.loc;exact⟨m,hn,λh' sb=>⟨.ref l,H4,VF I3 f3 J5 sb,rq,q⟩⟩
theorem CG.of {X:Cx} {N':YF} {src:List (Option Nat)} {sc:Scope} (fsc:Scope) (N:YF) (hX:X.env.scope=fsc) (hN:X.N=N) (kind:sc.kind=.function) (Fg:∀y∈sc.names,y.2≠.cell) (loc:∀y∈sc.names,y.2=.local->sc.names.lookup y.1=some .local)
  (fv:∀y∈sc.names,y.2=.free->fsc.names.lookup y.1=some .cell) (len:src.length=N'.length)
  (sr:((N'.zip src).all λp=>match p.2 with | none=>true | some j=>decide (N[j]?=some p.1)&&decide (sc.names.lookup p.1=some .free))=true):CG X N' src sc where
 kind:=kind
 Fg:=Fg
 loc:=loc
 fv:=λy hy e=>.inl (by show X.env.scope.names.lookup y.1=some .cell;rw[hX];exact fv y hy e)
 len:=len
 src:=λi x j e1 e2=>by
  rw[List.all_eq_true] at sr;have hm:(x,some j)∈N'.zip src:=by
   refine Qap (i:=i) ?_;rw[List.getElem?_zip_eq_some];exact⟨e1,e2⟩
  have:=sr _ hm;simp only[QaS,decide_eq_true_eq] at this;rw[hN];exact this
section
variable {X:Cx}
@[irreducible] def Gv (K:YD):YG->Hp->VK->Prop:=λxs H Q=>∃x T t b,xs=[x,.ty T]/\Eu K H x t/\kitOne K t (.type T)=some b/\Q (.bl b) H
theorem Gf:Dd X (.builtin "isinstance") (Gv X.K):=by
 intro jb s σ H xs us Q I r h;unfold Gv at h;obtain⟨x,T,t,b,rfl,ty,e,q⟩:=h;obtain⟨u,w',rfl,rx,rt⟩:=vals2 r;cases rt;exact QK I rx ty e λtk=>⟨.bl b,H,I.tok tk,rq,q⟩
theorem M5 {K:YD}:kitOne K (.type "int") (.type "int")=some true:=by rfl
theorem Mh {K:YD}:kitOne K (.type "int") (.type "bool")=some false:=by rfl
theorem Mi {K:YD}:kitOne K (.type "bool") (.type "int")=some true:=by rfl
theorem KJ {K:YD}:kitOne K (.type "bool") (.type "bool")=some true:=by rfl
theorem Mf {K:YD}:kitOne K (.type "NoneType") (.type "int")=some false:=by rfl
theorem M4 {K:YD}:kitOne K (.type "str") (.type "int")=some false:=by rfl
theorem Mg {K:YD}:kitOne K (.type "list") (.type "int")=some false:=by rfl
theorem Kz {K:YD}:kitOne K (.type "tuple") (.type "int")=some false:=by rfl
theorem JQ {K:YD}:kitOne K (.type "NoneType") (.type "tuple")=some false:=by rfl
theorem JT {K:YD}:kitOne K (.type "bool") (.type "tuple")=some false:=by rfl
theorem KH {K:YD}:kitOne K (.type "int") (.type "tuple")=some false:=by rfl
theorem KC {K:YD}:kitOne K (.type "str") (.type "tuple")=some false:=by rfl
theorem JR {K:YD}:kitOne K (.type "list") (.type "tuple")=some false:=by rfl
theorem Jm {K:YD}:kitOne K (.type "tuple") (.type "tuple")=some true:=by rfl
def Kn (H:Hp):V->Prop
 | .non=>True
 | .bl _=>True
 | .int _=>True
 | .str _=>True
 | .ref a=>(∃xs,H a=some (.lst xs))\/∃xs,H a=some (.tup xs)
 | _=>False
def isI:V->Bool
 | .int _=>true
 | .bl _=>true
 | _=>false
def isB:V->Bool
 | .bl _=>true
 | _=>false
def isW:V->Bool
 | .int _=>true
 | _=>false
def Eh (H:Hp):V->Option (YG)
 | .ref a=>match H a with
  | some (.tup xs)=>some xs
  | _=>none
 | _=>none
theorem CV {H:Hp} {a:Addr} {xs:YG} (h:H a=some (.tup xs)):Eh H (.ref a)=some xs:=by
 show (match H a with | some (.tup xs)=>some xs | _=>none)=some xs
 rw[h]
theorem Ea {H:Hp} {a:Addr} {xs:YG} (h:H a=some (.lst xs)):Eh H (.ref a)=none:=by
 show (match H a with | some (.tup xs)=>some xs | _=>none)=none
 rw[h]
theorem RD {H:Hp} {v:V} {xs:YG} (h:Eh H v=some xs):∃a,v=.ref a/\H a=some (.tup xs):=by
 cases v with
 | ref a=>
  refine⟨a,rq,?_⟩;have h':(match H a with | some (.tup xs)=>some xs | _=>none)=some xs:=h
  split at h'
  ·rename_i e;cases h';exact e
  ·cases h'
 | _=>cases h
theorem Kn.same {H H':Hp} {v:V} (s:Same H H') (k:Kn H v):Kn H' v:=by
 cases v with
 | ref a=>exact k.imp (λ⟨xs,e⟩=>⟨xs,s _ _ e⟩) λ⟨xs,e⟩=>⟨xs,s _ _ e⟩
 | _=>exact k
theorem Ua {K:YD} {H:Hp} {x:V} {Q:VK} (k:Kn H x) (q:Q (.bl (isI x)) H):Gv K [x,.ty "int"] H Q:=by
 unfold Gv;cases x with
 | non=>exact⟨_,_,_,_,rfl,.non,Mf,q⟩
 | bl b=>exact⟨_,_,_,_,rfl,.bl b,Mi,q⟩
 | int i=>exact⟨_,_,_,_,rfl,.int i,M5,q⟩
 | str z=>exact⟨_,_,_,_,rfl,.str z,M4,q⟩
 | ref a=>
  rcases k with⟨xs,e⟩|⟨xs,e⟩
  ·exact⟨_,_,_,_,rq,.lst e,Mg,q⟩
  ·exact⟨_,_,_,_,rq,.tup e,Kz,q⟩
 | _=>exact k.elim
theorem Mp {K:YD} {H:Hp} {x:V} {Q:VK} (k:isI x=true) (q:Q (.bl (isB x)) H):Gv K [x,.ty "bool"] H Q:=by
 unfold Gv;cases x with
 | bl b=>exact⟨_,_,_,_,rfl,.bl b,KJ,q⟩
 | int i=>exact⟨_,_,_,_,rfl,.int i,Mh,q⟩
 | _=>cases k
theorem QL {K:YD} {H:Hp} {x:V} {Q:VK} (k:Kn H x) (q:Q (.bl (Eh H x).isSome) H):Gv K [x,.ty "tuple"] H Q:=by
 unfold Gv;cases x with
 | non=>exact⟨_,_,_,_,rfl,.non,JQ,q⟩
 | bl b=>exact⟨_,_,_,_,rfl,.bl b,JT,q⟩
 | int i=>exact⟨_,_,_,_,rfl,.int i,KH,q⟩
 | str z=>exact⟨_,_,_,_,rfl,.str z,KC,q⟩
 | ref a=>
  rcases k with⟨xs,e⟩|⟨xs,e⟩
  ·rw[Ea e] at q;exact⟨_,_,_,_,rq,.lst e,JR,q⟩
  ·rw[CV e] at q;exact⟨_,_,_,_,rq,.tup e,Jm,q⟩
 | _=>exact k.elim
theorem I9:∀{bs:List Bool} {us:YE},Vals (bs.map V.bl) us->LSm.BoolsAre us bs
 | [],_,.nil=>.nil
 | b::r,_,.cons h t=>by
  cases (show _=Value.bool b from h)
  exact .cons b (I9 t)
theorem Gg (hc:X.calm=true):Dd X (.builtin "all") (λxs H Q=>∃(p:Addr) (bs:List Bool),xs=[.ref p]/\SqL X.K H p (bs.map V.bl)/\Q (.bl (bs.all id)) H):=by
 intro jb s σ H xs us Q I r h;obtain⟨p,bs,rfl,hq,q⟩:=h;obtain⟨u,rfl,rx⟩:=vals1 r;cases rx;obtain⟨its,rv,pl,hz⟩:=I.list hq;have hb:=I9 rv;have hl:=pl.isList;have hlt:p < s.heap.objs.size:=by obtain⟨_,e,_⟩:=hl;exact QbA e
 refine call_all_walk (QaN hl ?_);refine⟨s.heap.objs.size,[s.heap.objs.size,p],[s.heap.objs.size],its.toArray.size,_,_,λi=>(bs[i]?).getD true,rq,Walks.list (A:=X.A.in1) (I.ok.hd hc) _ p (QbB hlt) its.toArray,
  ⟨⟨_,Qat _ rfl,rq,rq⟩,hl.push _⟩,λi v s' Q' E' hP hQ=>?_,λh' tk hk=>?_⟩
 ·obtain⟨b,e,rfl⟩:=hb.get i v (by simpa using hP);simp only[e,Option.getD_some] at hQ;exact QaP hQ
 ·have e:((List.range its.toArray.size).all λi=>(bs[i]?).getD true)=bs.all id:=by
   rw[QaJ,hb.length];exact LSm.range_all bs
  rw[e];exact⟨.bl (bs.all id),H,I.kept (LSm.kept_iter hk),rq,q⟩
def U4 (K:YD):R2:=λx y H Q=>∃a b ys,x=.ref a/\y=.ref b/\SqT K H a []/\SqT K H b ys/\Q (.ref b) H
theorem Rw:OpR X (binaryOp .Add) (U4 X.K):=by
 intro jb s σ H x y v u Q I rx ry h;obtain⟨a,b,ys,rfl,rfl,ha,hb,q⟩:=h;cases rx;cases ry;obtain⟨its,r1,p1,_⟩:=I.tuple ha;obtain⟨its2,r2,p2,_⟩:=I.tuple hb;cases r1;obtain⟨⟨cls,dd,data,sl⟩,ho,hc,n,hd⟩:=id p1;obtain⟨⟨cls2,dd2,data2,sl2⟩,ho2,hc2,n2,hd2⟩:=id p2;simp only at hc hd hc2 hd2;subst hc hd hc2 hd2;exact concat_meets ⟨_,ho,rq⟩ ⟨_,ho2,rq⟩ noFill_tuple_add seq_tuple_add PySem.F.slot_tuple_add PySem.F.entry_tuple_add (PySem.F.args_tuple_add_2 _ _)
  (tuple_addW0 a b #[] its2.toArray n n2 dd dd2 sl sl2 rfl) ⟨ho,ho2,⟨.ref b,H,I,rq,q⟩⟩
theorem Bh:OpR X (binaryOp .Add) (λx y H Q=>∃a b xs ys,x=.ref a/\y=.ref b/\H a=some (.tup xs)/\H b=some (.tup ys)/\xs.length+ys.length<=sizeLine /\
  ∀p H',H' p=some (.tup (xs++ys))->Same H H'->Q (.ref p) H'):=by
 intro jb s σ H x y v u Q I rx ry h;obtain⟨a,b,xs,ys,rfl,rfl,ha,hb,hz,q⟩:=h;cases xs with
 | nil=>exact Rw jb s σ H _ _ v u Q I rx ry ⟨a,b,ys,rfl,rfl,SqT.of ha,SqT.of hb,q b H hb (Same.refl H)⟩
 | cons x0 xr=>
  refine T5 jb s σ H _ _ v u Q I rx ry ⟨a,b,x0::xr,ys,rq,rq,SqT.of ha,SqT.of hb,(λz=>by cases z),hz,λz=>?_,λz p hp=>?_⟩
  ·subst z;exact q a H (by rw[List.append_nil];exact ha) (Same.refl H)
  ·refine q p _ Ac λc o e=>?_;rw[Aw (Bt e hp)];exact e
mutual
inductive Rep (H:Hp):V->PyData->Prop
 | non:Rep H .non .none
 | bl (b:Bool):Rep H (.bl b) (.bool b)
 | int (i:Int):Rep H (.int i) (.int i)
 | str (x:Str):Rep H (.str x) (.str x)
 | tup {a:Addr} {xs:YG} {ds:List PyData}:H a=some (.tup xs)->Gx H xs ds->Rep H (.ref a) (.tuple ds)
 | lst {a:Addr} {xs:YG} {ds:List PyData}:H a=some (.lst xs)->Gx H xs ds->Rep H (.ref a) (.list ds)
inductive Gx (H:Hp):YG->List PyData->Prop
 | nil:Gx H [] []
 | cons {x:V} {d:PyData} {xs:YG} {ds:List PyData}:Rep H x d->Gx H xs ds->Gx H (x::xs) (d::ds)
end
mutual
theorem Rep.reads {P:Program} {w:World} {H:Hp} {h:Heap} (ok:HOk P w H h):∀{v:V} {d:PyData} {u:Value},Rep H v d->RelV v u->∃as,Reads h u d as
 | _,_,_,.non,r=>by cases (show _=Value.none from r);exact⟨_,.none⟩
 | _,_,_,.bl b,r=>by cases (show _=Value.bool b from r);exact⟨_,.bool b⟩
 | _,_,_,.int i,r=>by obtain⟨t,rfl⟩:=(show ∃t,_=Value.int i t from r);exact⟨_,.int i t⟩
 | _,_,_,.str x,r=>by obtain⟨t,rfl⟩:=(show ∃t,_=Value.str x t from r);exact⟨_,.str x t⟩
 | _,_,_,.tup (a:=a) (xs:=xs) e q,r=>by
  cases (show _=Value.ref a from r)
  obtain⟨_,its,rv,o,ho,hc,n,hd⟩:=(show Bu P w H h a (.tup xs) from ok a _ e)
  obtain⟨as,z⟩:=Gx.reads ok q rv;exact⟨_,.tuple ho hc hd (by simpa using z)⟩
 | _,_,_,.lst (a:=a) (xs:=xs) e q,r=>by
  cases (show _=Value.ref a from r)
  obtain⟨_,its,n,rv,ho⟩:=(show Bu P w H h a (.lst xs) from ok a _ e)
  obtain⟨as,z⟩:=Gx.reads ok q rv;exact⟨_,.list ho rfl rfl (by simpa using z)⟩
theorem Gx.reads {P:Program} {w:World} {H:Hp} {h:Heap} (ok:HOk P w H h):∀{xs:YG} {ds:List PyData} {us:YE},Gx H xs ds->Vals xs us->∃as,ReadsAll h us ds as
 | _,_,_,.nil,.nil=>⟨_,.nil⟩
 | _,_,_,.cons p q,.cons r t=>by
  obtain⟨as,a1⟩:=Rep.reads ok p r;obtain⟨bs,b1⟩:=Gx.reads ok q t;exact⟨_,.cons a1 b1⟩
end
end
structure Code (K:YD) (mg:YB) (x:Str) (st:Stmt) (ps:YF):Prop where
 ex:∃(f:Addr) (fd:FuncData),Fun K x x st f fd/\mg x=some (.ref f)/\Binds K fd ps []
structure Good (P:Program) (w:World) (K:YD) (mg:YB) (base:Heap) (x:Str) (k:Nat) (ps:YF) (sp:Sp):Prop where
 ex:∃(f:Addr) (fd:FuncData),mg x=some (.ref f)/\keepIn K (.ref f)=true/\Binds K fd ps []/\Du P w K mg base CX0 k f fd ps sp
theorem Code.good {P:Program} {w:World} {K:YD} {mg:YB} {base:Heap} {x:Str} {st:Stmt} {ps N:YF} {k:Nat} {sp:Sp} (C:Code K mg x st ps) (S:Bm N ps (Ah st)) (len:∀vs H Q E,sp vs H Q E->vs.length=ps.length)
  (hbody:∀(f:Addr) (cdv:Value) (A:Around) (outer:List Env) (s:Shared) (H:Hp) (vs:YG) (Q:VK) (E:XK),BK k (A.deeper (envOfC x (Ah st) s.heap.objs.size f cdv))->sp vs H Q E ->
   ∃t,PSs (Ia CX0 P w K mg base N x (Ah st) f cdv A outer s H E).nox (Ay st) t/\t { nx:=λ_ H'=>Q .non H',rt:=Q } (start N vs) H):Good P w K mg base x (k+1) ps sp:=by
 obtain⟨f,fd,F,m,b⟩:=C.ex;exact⟨f,fd,m,F.kp,b,F.ok S len λcdv A outer s H vs Q E hr h=>hbody f cdv A outer s H vs Q E hr h⟩
theorem Ji {X:Cx} {k k':Nat} {ps:YF} {sp:Sp} {x:Str} {p pos:Pos} {e:Expr} {es:YJ} {t:TA} (g:Good X.prog X.w X.K X.mg X.base x k ps sp) (hr:BK k' X.A) (ha:PA X (e::es) t) (hk:k<=k':=by decide) (hg:Gl X x:=by rfl)
  (hdb:(x == ("__debug__":Str))=false:=by decide) (he:starEach (e::es) X.env=(false,eval e X.env)::starEach es X.env:=by rfl) (hpl:(backTo pos (starEach es X.env)).any (·.1)=false:=by rfl) :
  PE X (.Call (.Name x p) (e::es) [] pos) (N7 sp [] E0 t):=by
 intro jb s σ H Q I h;obtain⟨f,fd,m,kp,b,F⟩:=g.ex;exact T4 F (hr.mono hk) hg m kp b .nil Te ha hdb he hpl jb s σ H Q I h
theorem Code.of {K:YD} {mg:YB} {h:Heap} {x:Str} {st:Stmt} {ps:YF} {f:Addr} {oc:Value} {od an:Option Addr} {osl:YI} {kV doc pm cdv ct:Value} (X:K.In h) (G:h.Ns mainGlobals mg)
  (a:nsIn K mainGlobals x=some (some (.ref f))) (l:K.lookup f=some ⟨oc,od,.func (fnOf x x (Bf st) (Ay st) (Ah st) .none kV doc pm an cdv ct),osl⟩) (c:codeIn K cdv x=true) (k:keepIn K (.ref f)=true)
  (hb:∀(kV doc pm:Value) (an:Option Addr) (cdv ct:Value) (us:YE),us.length=ps.length->bindArgs (fnOf x x (Bf st) (Ay st) (Ah st) .none kV doc pm an cdv ct) ⟨us,[]⟩=pure (ps.zip us)):Code K mg x st ps:=by
 have F:=QZ (st:=st) l c k;exact⟨f,_,F,mg_of X G a,F.binds hb⟩
theorem Ad {H:Hp} {p:Addr} (h:H p=none) (o:HO):Same H (upd H p o):=λb u q=>by rw[Aw (Bt q h)];exact q
theorem CG.plain {X:Cx} {N':YF} {sc:Scope} (kind:sc.kind=.function) (Fg:∀y∈sc.names,y.2≠.cell) (loc:∀y∈sc.names,y.2=.local->sc.names.lookup y.1=some .local) (LC:∀y∈sc.names,y.2≠.free) :
  CG X N' (N'.map λ_=>none) sc where
 kind:=kind
 Fg:=Fg
 loc:=loc
 fv:=λy hy e=>absurd e (LC y hy)
 len:=by simp
 src:=λi x j _ e=>by
  rw[QaK] at e;cases q:N'[i]? with
  | none=>rw[q] at e;cases e
  | some z=>rw[q] at e;cases e
theorem IW {K:YD} {a l:Addr} {xs:YG} {g:TG} {tt:TT} {te:TE} {Q:VK} {σ0:St} {H0:Hp} (Pv:YN)
  (h0:Pv 0 σ0 H0) (hl:∀i σ H',i<=xs.length->Pv i σ H'->SqT K H' a xs)
  (hs:∀i x σ H',xs[i]?=some x->Pv i σ H'->g x σ H' fun σ3 H3=>tt σ3 H3 λb H4=>if b=true then te σ3 H4 λy H5=>∃ys,H5 l=some (.lst ys)/\ys.length < sizeLine/\Pv (i+1) σ3 (upd H5 l (.lst (ys++[y]))) else Pv (i+1) σ3 H4)
  (hd:∀ σ H',Pv xs.length σ H'->Q (.ref l) H'):Gu (Itt K a) g tt te Q σ0 H0 l:=by
 unfold Gu;refine⟨λi m σ H'=>m=xs.length - i/\i<=xs.length/\Pv i σ H',⟨xs.length,by simp,QbF _,h0⟩,?_⟩;rintro i m σ H' ⟨rfl,hi,p⟩;have q:=hl i σ H' hi p;by_cases hlt:i < xs.length
 ·refine .inr ⟨⟨xs,xs[i],q,by simp[hlt]⟩,Pv (i+1),fun σ3 H3 p'=>⟨xs.length - (i+1),by omega,rq,hlt,p'⟩,λx H2 y=>?_⟩;obtain⟨e,y⟩:=y;subst e;exact hs i x σ _ (y xs q) p
 ·have e:i=xs.length:=by omega
  subst e;exact .inl ⟨⟨xs,q,QbE _⟩,hd σ H' p⟩
theorem PB {lo:Int} {n:Nat} {l:Addr} {g:TG} {tt:TT} {te:TE} {Q:VK} {σ0:St} {H0:Hp} (Pv:YN) (h0:Pv 0 σ0 H0)
  (hs:∀i σ H',i < n->Pv i σ H'->g (.int (lo+i)) σ H' fun σ3 H3=>tt σ3 H3 λb H4=>if b=true then te σ3 H4 λy H5=>∃ys,H5 l=some (.lst ys)/\ys.length < sizeLine/\Pv (i+1) σ3 (upd H5 l (.lst (ys++[y]))) else Pv (i+1) σ3 H4)
  (hd:∀ σ H',Pv n σ H'->Q (.ref l) H'):Gu (Itr lo n) g tt te Q σ0 H0 l:=by
 unfold Gu;refine⟨λi m σ H'=>m=n - i/\i<=n/\Pv i σ H',⟨n,by simp,QbF _,h0⟩,?_⟩;rintro i m σ H' ⟨rfl,hi,p⟩;by_cases hlt:i < n
 ·refine .inr ⟨hlt,Pv (i+1),fun σ3 H3 p'=>⟨n - (i+1),by omega,rq,hlt,p'⟩,λx H2 y=>?_⟩;obtain⟨e,y⟩:=y;subst e y;exact hs i σ _ hlt p
 ·have e:i=n:=by omega
  subst e;exact .inl ⟨QbE _,hd σ H' p⟩
section
variable {X:Cx}
theorem QT:∀{us:YE} {ns:List Int},IntsAre us ns->Vals (ns.map V.int) us:=λh=>Ht h
end
section
variable {X:Cx} {tg:Expr}
end
end L2
namespace HT
open PySem PyProof.Rows
section
variable {prog:Program} {w:World} {A:Around} {E:YA} {s:Shared}
theorem Il {t sl:Addr} {items:Array Value} {vl vu:Value} {lo hi:Option Int} {Q:YA} (ht:IsTup s.heap t items) (hs:s.heap.IsSliceOf sl vl vu .none) (pl:IsPart vl lo) (pu:IsPart vu hi)
  (hw:sIx items.size 0 lo=0/\sIx items.size items.size hi=items.size) (h:Q (.ref t) s):wpAny (model prog w) A (getItem (.ref t) (.ref sl)) Q E s:=by
 obtain⟨os,hos,hcs,hds⟩:=id hs;have hTs:s.TypeIs (.ref sl) "slice":=⟨os,hos,hcs⟩;unfold getItem
 try with_reducible refine Qbx ?_
 first | refine QbH (QbI ?_) | skip
 refine QbH (wpAny_sequenceKey ht.typeIs (by decide) ?_);refine QbH (Qai (name:=Str.ofString "__getitem__") ht.typeIs Qab (QaU Qab ht.typeIs entry_tuple_getitem ?_ (args_tuple_getitem _ _)));show wpAny _ _ (Builtin.Tuple.tupleItemsOf (.ref t) >>= _) _ _ s;refine QbH (tupleItemsOf_ ht ?_);refine QbH (wpAny_typeOf hTs ?_);rw[if_pos (by decide)];refine QbH (FJ hs pl pu ?_);rw[hw.1,hw.2];show wpAny _ _ (if (((0:Nat):Int) == 0&&(1:Int) == 1&&(items.size - 0) == items.size)=true then _ else _) _ _ s
 rw[if_pos (by simp)];refine QbH ?_;unfold Builtin.Tuple.tupleIsExact;refine QbH (wpAny_typeOf ht.typeIs (QbI ?_));rw[if_pos (by decide)];exact QbH (QbK (QbI ⟨_,rq,QbI h⟩))
end
end HT
namespace L2
open PySem PySem.Spec PyProof.Rows
section
variable {X:Cx}
theorem Br:SlR X (λx lo hi H Q=>∃a xs,x=.ref a/\H a=some (.tup xs)/\∀p H',H' p=some (.tup (Ds xs lo hi))->Same H H'->Q (.ref p) H'):=by
 intro jb s σ H x v vl vu lo hi sl Q I rx hs pl pu h;obtain⟨a,xs,rfl,hx,q⟩:=h;by_cases hw:HT.sIx xs.length 0 lo=0/\HT.sIx xs.length xs.length hi=xs.length
 ·cases rx;obtain⟨its,r,ht,hz⟩:=I.tuple (SqT.of hx);have hlen:its.toArray.size=xs.length:=by rw[QaJ];exact r.length.symm
  refine⟨"tuple",_,Qab.lookup,ht.typeIs,?_⟩;refine HT.Il ht hs pl pu (by rw[hlen];exact hw) ⟨.ref a,H,I,rq,q a H ?_ (Same.refl H)⟩;have e:Ds xs lo hi=xs:=by unfold Ds;rw[hw.1,hw.2];simp
  rw[e];exact hx
 ·exact UL jb s σ H _ v vl vu lo hi sl Q I rx hs pl pu ⟨a,xs,rq,SqT.of hx,hw,λp hp=>q p _ Ac (λc o e=>by rw[Aw (Bt e hp)];exact e)⟩
end
structure Tq (K:YD) (C:Addr) (m qn:Str) (st:Stmt) (ps:YF):Prop where
 ex:∃(f:Addr) (fd:FuncData),Fun K m qn st f fd/\Meth K C m f/\Binds K fd ps []
structure WD (P:Program) (w:World) (K:YD) (mg:YB) (base:Heap) (C:Addr) (m:Str) (k:Nat) (ps:YF) (sp:Sp):Prop where
 ex:∃(f:Addr) (fd:FuncData),Meth K C m f/\Binds K fd ps []/\Du P w K mg base CX0 k f fd ps sp
theorem Tq.good {P:Program} {w:World} {K:YD} {mg:YB} {base:Heap} {C:Addr} {m qn:Str} {st:Stmt} {ps N:YF} {k:Nat} {sp:Sp} (c:Tq K C m qn st ps) (S:Bm N ps (Ah st)) (len:∀vs H Q E,sp vs H Q E->vs.length=ps.length)
  (hbody:∀(f:Addr) (cdv:Value) (A:Around) (outer:List Env) (s:Shared) (H:Hp) (vs:YG) (Q:VK) (E:XK),BK k (A.deeper (envOfC qn (Ah st) s.heap.objs.size f cdv))->sp vs H Q E ->
   ∃t,PSs (Ia CX0 P w K mg base N qn (Ah st) f cdv A outer s H E).nox (Ay st) t/\t { nx:=λ_ H'=>Q .non H',rt:=Q } (start N vs) H):WD P w K mg base C m (k+1) ps sp:=by
 obtain⟨f,fd,F,M,b⟩:=c.ex;exact⟨f,fd,M,b,F.ok S len λcdv A outer s H vs Q E hr h=>hbody f cdv A outer s H vs Q E hr h⟩
theorem Ls {X:Cx} {x:Str} {v:V} {pos:Pos} (hg:Gl X x) (hm:∃u,X.mg x=some u/\RelV v u) (hd:(x == ("__debug__":Str))=false:=by decide):PE X (.Name x pos) (tC v):=by
 obtain⟨u,h,r⟩:=hm;exact T3 hg h r hd
def Ar (H H':Hp):Prop:=∀c xs,H c=some (.tup xs)->H' c=some (.tup xs)
theorem Ar.refl (H:Hp):Ar H H:=λ_ _ e=>e
theorem Ar.trans {H H1 H2:Hp} (a:Ar H H1) (b:Ar H1 H2):Ar H H2:=λc xs e=>b c xs (a c xs e)
theorem Ar.of {H H1:Hp} (s:Same H H1):Ar H H1:=λc xs e=>s c _ e
theorem Ar.upd {H:Hp} {b:Addr} {o:HO} (h:∀xs,H b≠some (.tup xs)):Ar H (upd H b o):=λc xs e=>by
 have n:c≠b:=λz=>h xs (z ▸ e);rw[Aw n];exact e
def Am (b:Addr) (H H':Hp):Prop:=∀c o,H c=some o->c≠b->H' c=some o
theorem Am.trans {b:Addr} {H H1 H2:Hp} (x:Am b H H1) (y:Am b H1 H2):Am b H H2:=λc o e n=>y c o (x c o e n) n
theorem Am.of {b:Addr} {H H1:Hp} (x:Same H H1):Am b H H1:=λc o e _=>x c o e
theorem Am.refl (b:Addr) (H:Hp):Am b H H:=λ_ _ e _=>e
theorem Am.upd {b:Addr} {H:Hp} {o:HO}:Am b H (upd H b o):=λc u e n=>by rw[Aw n];exact e
theorem Am.tup {b:Addr} {H H':Hp} (x:Am b H H') (h:∀xs,H b≠some (.tup xs)):Ar H H':=λc xs e=>x c _ e λz=>h xs (z ▸ e)
theorem Am.free {b:Addr} {H H':Hp} (x:Am b H H') (hb:∃o,H' b=some o) {l:Addr} (h:H' l=none):H l=none:=by
 cases e:H l with
 | none=>rfl
 | some o=>
  by_cases n:l=b
  ·obtain⟨o',e'⟩:=hb;rw[n,e'] at h;cases h
  ·rw[x l o e n] at h;cases h
section
variable {X:Cx} {o e value:Expr} {f:Str} {pos pos' tpos:Pos} {ta tv:TE}
end
section
variable {X:Cx} {K:YD}
theorem Nj (h:X.K=K):IxR X (U3 K):=h ▸ El
end
end L2
namespace PySem
open Sem (wp)
section
variable {prog:Program} {w:World} {A:Around} {E:YA} {s:Shared}
end
end PySem
namespace L2
open PySem PySem.Spec PyProof.Rows
section
variable {X:Cx} {pos:Pos}
end
theorem Km {α : Type}:∀{l:List α} {i:Nat} {a:α},l.Nodup->a∉l->(l.set i a).Nodup
 | [],_,_,h,_=>by simpa using h
 | x::r,0,a,h,n=>by
  rw[Qbi] at h;rw[List.set_cons_zero,Qbi];exact⟨λz=>n (Qaq _ z),h.2⟩
 | x::r,i+1,a,h,n=>by
  rw[Qbi] at h;rw[List.set_cons_succ,Qbi];refine⟨λz=>?_,Km h.2 λz=>n (Qaq _ z)⟩;rcases List.mem_or_eq_of_mem_set z with z | z
  ·exact h.1 z
  ·exact n (z ▸ QaF)
structure Has (H:Hp) (l:List (Addr×HO)):Prop where
 nd:(l.map (·.1)).Nodup
 at_:∀x∈l,H x.1=some x.2
theorem Has.get {H:Hp} {l:List (Addr×HO)} (h:Has H l) {i:Nat} {a:Addr} {o:HO} (e:l[i]?=some (a,o)):H a=some o:=h.at_ (a,o) (Qap e)
theorem Has.same {H H':Hp} {l:List (Addr×HO)} (h:Has H l) (s:Same H H'):Has H' l:=⟨h.nd,λx hx=>s _ _ (h.at_ x hx)⟩
theorem Has.Oj {H H':Hp} {l:List (Addr×HO)} {b:Addr} (h:Has H l) (s:Am b H H') (n:b∉l.map (·.1)):Has H' l:=⟨h.nd,λx hx=>s _ _ (h.at_ x hx) λz=>n (z ▸ List.mem_map.mpr ⟨x,hx,rfl⟩)⟩
theorem Has.Wr {H:Hp} {l:List (Addr×HO)} {a:Addr} (h:Has H l) (e:H a=none):a∉l.map (·.1):=λz=>by
 obtain⟨x,hx,rfl⟩:=List.mem_map.mp z;rw[h.at_ x hx] at e;cases e
theorem map_set {l:List (Addr×HO)} {i:Nat} {a:Addr} {o:HO}:(l.set i (a,o)).map (·.1)=(l.map (·.1)).set i a:=by rw[List.map_set]
theorem Has.set {H H':Hp} {l:List (Addr×HO)} (h:Has H l) (i:Nat) {a:Addr} {o o':HO} (e:l[i]?=some (a,o)) (s:Am a H H') (e':H' a=some o'):Has H' (l.set i (a,o')):=by
 have em:(l.map (·.1))[i]?=some a:=by rw[QaK,e];rfl
 have hi:=(Qad.mp e).1;refine⟨?_,λx hx=>?_⟩
 ·rw[map_set];have:(l.map (·.1)).set i a=l.map (·.1):=by
   obtain⟨h1,h2⟩:=Qad.mp em;rw[<-h2];exact List.set_getElem_self h1
  rw[this];exact h.nd
 ·obtain⟨j,hj,ex⟩:=List.mem_iff_getElem.mp hx;rw[List.getElem_set] at ex;by_cases q:i=j
  ·rw[if_pos q] at ex;subst ex;exact e'
  ·rw[if_neg q] at ex;have hj':j < l.length:=by simpa using hj
   have hm:x∈l:=ex ▸ List.getElem_mem hj';refine s _ _ (h.at_ x hm) λz=>q ?_;have ej:(l.map (·.1))[j]?=some a:=by rw[QaK,Qah hj'];rw[<-z,<-ex];rfl
   obtain⟨h1,h2⟩:=Qad.mp em;obtain⟨h3,h4⟩:=Qad.mp ej;exact (List.getElem_inj h.nd).mp (h2.trans h4.symm)
theorem Has.put {H:Hp} {l:List (Addr×HO)} (h:Has H l) (i:Nat) {a:Addr} {o:HO} (n:a∉l.map (·.1)) (e:H a=some o):Has H (l.set i (a,o)):=by
 refine⟨by rw[map_set];exact Km h.nd n,λx hx=>?_⟩;rcases List.mem_or_eq_of_mem_set hx with z | z
 ·exact h.at_ x z
 ·rw[z];exact e
theorem Has.new {H H':Hp} {l:List (Addr×HO)} {a:Addr} {o:HO} (h:Has H l) (n:H a=none) (s:Same H H') (e:H' a=some o):Has H' (l++[(a,o)]):=by
 refine⟨?_,λx hx=>?_⟩
 ·rw[Qbe,List.nodup_append];refine⟨h.nd,by simp,λx hx y hy z=>?_⟩;have:y=a:=by simpa using hy
  subst this;exact h.Wr n (z ▸ hx)
 ·rcases Qbh.mp hx with z | z
  ·exact s _ _ (h.at_ x z)
  ·have:x=(a,o):=by simpa using z
   subst this;exact e
theorem Has.nil (H:Hp):Has H []:=⟨List.nodup_nil,λx hx=>by cases hx⟩
theorem Has.ne {H:Hp} {l:List (Addr×HO)} (h:Has H l) {i j:Nat} {a b:Addr} {o p:HO} (e:l[i]?=some (a,o)) (e':l[j]?=some (b,p)) (n:i≠j):a≠b:=λz=>by
 have ea:(l.map (·.1))[i]?=some a:=by rw[QaK,e];rfl
 have eb:(l.map (·.1))[j]?=some a:=by rw[QaK,e',z];rfl
 obtain⟨h1,h2⟩:=Qad.mp ea;obtain⟨h3,h4⟩:=Qad.mp eb;exact n ((List.getElem_inj h.nd).mp (h2.trans h4.symm))
theorem Same.Cq {H0 H H':Hp} {a:Addr} (s:Same H0 H) (b:Am a H H') (f:H0 a=none):Same H0 H':=λc o e=>b _ _ (s _ _ e) λz=>by rw[z,f] at e;cases e
section
variable {κ : Type} [DecidableEq κ]
def Fo (kvs:List (κ×V)) (k:κ):Option V:=(kvs.find? λkv=>decide (kv.1=k)).map (·.2)
def putK (kvs:List (κ×V)) (k:κ) (v:V):List (κ×V):=
 if (kvs.any λkv=>decide (kv.1=k))=true then kvs.map (λkv=>if kv.1=k then (kv.1,v) else kv) else kvs++[(k,v)]
def Tn (kvs:List (κ×V)) (k:κ):List (κ×V):=kvs.filter λkv=>decide (kv.1≠k)
theorem Io {p:κ×V} {r:List (κ×V)} {k:κ} (e:p.1=k):Fo (p::r) k=some p.2:=by simp[Fo,Qbk,e]
theorem Ip {p:κ×V} {r:List (κ×V)} {k:κ} (e:¬p.1=k):Fo (p::r) k=Fo r k:=by simp[Fo,Qbk,e]
theorem K5 (k:κ):∀kvs:List (κ×V),(kvs.any λkv=>decide (kv.1=k))=(Fo kvs k).isSome
 | []=>rfl
 | p::r=>by
  rw[List.any_cons];by_cases e:p.1=k
  ·simp only[Io e,Qbo e,Bool.true_or,Option.isSome_some]
  ·rw[Ip e,Qbd e,Bool.false_or];exact K5 k r
theorem Ho.QM {o:Option V} {u:Option Value} (r:Ho o u):o.isSome=u.isSome:=by
 cases o with
 | none=>cases u with
  | none=>rfl
  | some _=>exact (show False from r).elim
 | some _=>cases u with
  | none=>exact (show False from r).elim
  | some _=>rfl
theorem Ho.getD {o:Option V} {u:Option Value} {d:V} {d':Value} (r:Ho o u) (rd:RelV d d'):RelV (o.getD d) (u.getD d'):=by
 cases o with
 | none=>cases u with
  | none=>exact rd
  | some _=>exact (show False from r).elim
 | some _=>cases u with
  | none=>exact (show False from r).elim
  | some _=>exact r
theorem KV.val {kvs:List (κ×V)} {vs:List (κ×Value)} (r:KV kvs vs) (k:κ):Ho (Fo kvs k) (valueAt vs k):=by
 unfold KV at r
 induction r with
 | nil=>exact True.intro
 | @cons p q ps qs h t ih=>
  obtain⟨h1,h2⟩:=h;by_cases e:p.1=k
  ·have e':q.1=k:=h1.symm.trans e;have b:valueAt (q::qs) k=some q.2:=by simp[valueAt,Qbk,e']
   rw[Io e,b];exact h2
  ·have e':¬q.1=k:=λz=>e (h1.trans z);have b:valueAt (q::qs) k=valueAt qs k:=by simp[valueAt,Qbk,e']
   rw[Ip e,b];exact ih
theorem KV.any {kvs:List (κ×V)} {vs:List (κ×Value)} (r:KV kvs vs) (k:κ):(kvs.any λkv=>decide (kv.1=k))=vs.any λkv=>decide (kv.1=k):=by
 unfold KV at r
 induction r with
 | nil=>rfl
 | cons h t ih=>rw[List.any_cons,List.any_cons,ih,h.1]
theorem KV.repl {kvs:List (κ×V)} {vs:List (κ×Value)} (r:KV kvs vs) (k:κ) {y:V} {u:Value} (ry:RelV y u) :
  KV (kvs.map λkv=>if kv.1=k then (kv.1,y) else kv) (vs.map λkv=>if kv.1=k then (kv.1,u) else kv):=by
 unfold KV at r ⊢
 induction r with
 | nil=>exact .nil
 | @cons p q ps qs h t ih=>
  rw[Qbv,Qbv];refine .cons ?_ ih;obtain⟨h1,h2⟩:=h;by_cases e:p.1=k
  ·rw[if_pos e,if_pos (h1.symm.trans e)];exact⟨h1,ry⟩
  ·rw[if_neg e,if_neg (λz=>e (h1.trans z))];exact⟨h1,h2⟩
theorem KV.put {kvs:List (κ×V)} {vs:List (κ×Value)} (r:KV kvs vs) (k:κ) {y:V} {u:Value} (ry:RelV y u):KV (putK kvs k y) (stored vs k u):=by
 unfold putK stored;rw[r.any k];by_cases e:(vs.any λkv=>decide (kv.1=k))=true
 ·rw[if_pos e,if_pos e];exact r.repl k ry
 ·rw[if_neg e,if_neg e];exact Paired.snoc r ⟨rq,ry⟩
theorem KV.drop {kvs:List (κ×V)} {vs:List (κ×Value)} (r:KV kvs vs) (k:κ):KV (Tn kvs k) (without vs k):=by
 unfold KV at r ⊢;unfold Tn without
 induction r with
 | nil=>exact .nil
 | @cons p q ps qs h t ih=>
  obtain⟨h1,h2⟩:=h;rw[List.filter_cons,List.filter_cons];by_cases e:p.1=k
  ·have a:¬decide (p.1≠k)=true:=by simp[e]
   have b:¬decide (q.1≠k)=true:=by simp[h1.symm.trans e]
   rw[if_neg a,if_neg b];exact ih
  ·have e':¬q.1=k:=λz=>e (h1.trans z);have a:decide (p.1≠k)=true:=by simp[e]
   have b:decide (q.1≠k)=true:=by simp[e']
   rw[if_pos a,if_pos b];exact .cons ⟨h1,h2⟩ ih
theorem KV.length {kvs:List (κ×V)} {vs:List (κ×Value)} (r:KV kvs vs):kvs.length=vs.length:=Qbz r
end
abbrev YL:=List (List Key×V)
abbrev KT (H:Hp):YL->List (List Key×Addr×Value)->Prop:=Paired λp q=>p.1=q.1/\H q.2.1=some (.tup (p.1.map kV))/\RelV p.2 q.2.2
theorem KT.val {H:Hp} {kvs:YL} {xs:List (List Key×Addr×Value)} (r:KT H kvs xs) (k:List Key):Ho (Fo kvs k) ((atKey xs k).map (·.2)):=by
 induction r with
 | nil=>exact True.intro
 | @cons p q ps qs h t ih=>
  obtain⟨h1,_,h2⟩:=h;by_cases e:p.1=k
  ·have e':q.1=k:=h1.symm.trans e;have b:atKey (q::qs) k=some q.2:=by simp[atKey,Qbk,e']
   rw[Io e,b];exact h2
  ·have e':¬q.1=k:=λz=>e (h1.trans z);have b:atKey (q::qs) k=atKey qs k:=by simp[atKey,Qbk,e']
   rw[Ip e,b];exact ih
theorem KT.repl {H:Hp} {kvs:YL} {xs:List (List Key×Addr×Value)} (r:KT H kvs xs) (k:List Key) {y:V} {u:Value} (ry:RelV y u) :
  KT H (kvs.map λkv=>if kv.1=k then (kv.1,y) else kv) (xs.map (putAt k u)):=by
 induction r with
 | nil=>exact .nil
 | @cons p q ps qs h t ih=>
  rw[Qbv,Qbv];refine .cons ?_ ih;obtain⟨h1,h2,h3⟩:=h;unfold putAt;by_cases e:p.1=k
  ·rw[if_pos e,if_pos (h1.symm.trans e)];exact⟨h1,h2,ry⟩
  ·rw[if_neg e,if_neg (λz=>e (h1.trans z))];exact⟨h1,h2,h3⟩
theorem KT.put {H:Hp} {kvs:YL} {xs:List (List Key×Addr×Value)} (r:KT H kvs xs) (k:List Key) {b:Addr} {y:V} {u:Value} (hb:H b=some (.tup (k.map kV))) (ry:RelV y u) :
  KT H (putK kvs k y) (storedH xs k b u):=by
 have e:(kvs.any λkv=>decide (kv.1=k))=(atKey xs k).isSome:=by
  rw[K5,(r.val k).QM,Option.isSome_map]
 unfold putK storedH;rw[e];by_cases q:(atKey xs k).isSome=true
 ·rw[if_pos q,if_pos q];exact r.repl k ry
 ·rw[if_neg q,if_neg q];exact Paired.snoc r ⟨rq,hb,ry⟩
theorem KT.keeps {H H':Hp} {kvs:YL} {xs:List (List Key×Addr×Value)} (r:KT H kvs xs) (ht:∀b ys,H b=some (.tup ys)->H' b=some (.tup ys)):KT H' kvs xs:=
 Paired.OJ r λ_ _ z=>⟨z.1,ht _ _ z.2.1,z.2.2⟩
section
variable {P:Program} {w:World} {H:Hp} {h:Heap} {a:Addr}
end
def Qa (H:Hp) (a:Addr) (y:V) (r:Option V):Prop:=
 (∃kvs k,Rd H a (.dK kvs)/\y=kV k/\r=Fo kvs k)\/∃kvs k b,Rd H a (.dT kvs)/\y=.ref b/\H b=some (.tup (k.map kV))/\r=Fo kvs k
def P0 (H:Hp) (a:Addr) (y v:V) (H':Hp):Prop:=
 (∃kvs k,H a=some (.dK kvs)/\y=kV k/\kvs.length < sizeLine/\H'=upd H a (.dK (putK kvs k v))) \/
 ∃kvs k b,H a=some (.dT kvs)/\y=.ref b/\H b=some (.tup (k.map kV))/\kvs.length < sizeLine/\H'=upd H a (.dT (putK kvs k v))
abbrev YM:=List (Key×V)
theorem Qa.k {H:Hp} {a:Addr} {kvs:YM} {k:Key} (e:H a=some (.dK kvs)):Qa H a (kV k) (Fo kvs k):=.inl ⟨kvs,k,.inl e,rfl,rfl⟩
theorem Qa.t {H:Hp} {a b:Addr} {kvs:YL} {k:List Key} (e:H a=some (.dT kvs)) (eb:H b=some (.tup (k.map kV))):Qa H a (.ref b) (Fo kvs k):=.inr ⟨kvs,k,b,.inl e,rfl,eb,rfl⟩
theorem P0.k {H:Hp} {a:Addr} {kvs:YM} {k:Key} {v:V} (e:H a=some (.dK kvs)) (hl:kvs.length < sizeLine):P0 H a (kV k) v (upd H a (.dK (putK kvs k v))):=.inl ⟨kvs,k,e,rfl,hl,rfl⟩
theorem P0.t {H:Hp} {a b:Addr} {kvs:YL} {k:List Key} {v:V} (e:H a=some (.dT kvs)) (eb:H b=some (.tup (k.map kV))) (hl:kvs.length < sizeLine) :
  P0 H a (.ref b) v (upd H a (.dT (putK kvs k v))):=.inr ⟨kvs,k,b,e,rq,eb,hl,rq⟩
section
variable {X:Cx} {jb:YC} {σ : St} {H:Hp} {s:Shared} {a:Addr} {y v:V} {u r:Value} {o:Option V} {A:Around} {E:YA}
end
section
variable {X:Cx} {jb:YC} {σ : St} {H:Hp} {s:Shared} {a:Addr} {kvs:YM} {k:Key} {u:Value} {A:Around} {E:YA}
end
def V7 (i:Expr):Prop:=∀ov iv,subscripted i false ov iv=operate [ov,iv] (getItem ov iv)
theorem Tw {prog:Program} {w:World} {A:Around} {E:YA} {s:Shared} {env:Env} {value slice:Expr} {pos:Pos} {T id:String} {Q:YA}
  (hl:typeLookup (.type T) "__getitem__"=pure (some (.builtin id))) (hs:V7 slice)
  (h:wpAny (model prog w) A (eval value env) (λo s₁=>wpAny (model prog w) A (eval slice env) (λi s₂=>s₂.TypeIs o T/\wpAny (model prog w) A (getItem o i) Q E s₂) E s₁) E s) :
  wpAny (model prog w) A (eval (.Subscript value slice pos) env) Q E s:=by
 refine Subscript_ (QbJ h (λo s₁ h₁=>QbJ h₁ (λi s₂ h₂=>?_) λ_ _ x=>x) λ_ _ x=>x);obtain⟨hT,h₂⟩:=h₂;unfold subscriptTail;refine QbH ?_;rw[getitemInPython_of_ne hT.not_modules];refine QbH (wpAny_specialOf hT hl ?_);have fin:wpAny (model prog w) A (subscripted slice false o i) (λr s₃=>wpAny (model prog w) A (letTemporaryGo value o r >>= λ_=>pure r) Q E s₃) E s₂:=by
  rw[hs o i];exact wpAny_operating (QbJ h₂ (λr s₃ h₃=>QbH (wpAny_letTemporaryGo (QbI h₃))) λ_ _ x=>x)
 first
  | exact QbI (QbH fin)
  | exact QbH (QbI (QbH fin))
  | exact QbH fin
section
variable {X:Cx} {o i e value:Expr} {pos pos' tpos:Pos} {td ty tv:TE}
end
section
variable {X:Cx} {pos:Pos}
end
section
variable {X:Cx} {jb:YC} {σ : St} {H:Hp} {s:Shared} {a:Addr} {y d:V} {u r:Value} {o:Option V} {A:Around} {E:YA}
end
section
variable {X:Cx} {o e f:Expr} {apos cpos:Pos} {td ty tx:TE}
end
section
variable {X:Cx} {jb:YC} {σ : St} {H:Hp} {s:Shared} {a:Addr} {kvs:YM} {A:Around} {E:YA}
end
section
variable {X:Cx} {jb:YC} {σ : St} {H:Hp} {s:Shared} {a:Addr} {y:V} {u:Value} {A:Around} {E:YA}
end
section
variable {X:Cx}
end
section
variable {κ : Type} [DecidableEq κ]
end
end L2
namespace PySem
open Sem (wp)
section
variable {prog:Program} {w:World} {A:Around} {E:YA} {s:Shared}
theorem Gn {it l:Addr} {i:Nat} {items:Array Value} {x:Value} {Q:YA} (hit:s.heap.IsTupleIter it l i) (hl:s.heap.IsTuple l items) (hx:items[i]?=some x)
  (hQ:∀h',h'.IsTupleIter it l (i+1)->Heap.SameBut it s.heap h'->Q x { s with heap:=h' }):wpAny (model prog w) A (Builtin.SmallTypes.nextOf (.ref it)) Q E s:=by
 obtain⟨o,ho,hc,hd⟩:=id hit;obtain⟨ol,hol,_,nl,hdl⟩:=hl;unfold Builtin.SmallTypes.nextOf;refine QbH (Qai (name:=Str.ofString "__next__") hit.typeIs Qaa (QaU Qaa hit.typeIs PyProof.Rows.entry_tupleiter_next ?_ (PyProof.Rows.args_tupleiter_next _)));show wpAny _ _ (field (.ref it) 0 >>= _) _ _ s;refine QbH (QbG ho hd (x:=.ref l) rfl ?_);show wpAny _ _ (if (Value.ref l == Value.none)=true then _ else _) _ _ s
 rw[if_neg (show ¬((Value.ref l == Value.none)=true) from QaA)]
 show wpAny _ _ (field (.ref it) 1 >>= _) _ _ s;refine QbH (QbG ho hd (x:=.int i 0) rfl ?_);show wpAny _ _ (seqItems? (.ref l) >>= _) _ _ s;refine QbH (Qbs hol hdl ?_);simp only[QaQ,hx];refine QbH (wpAny_setField ho hd (by simp) (QbI ⟨x,rq,QbI (hQ _ ?_ (Qav ..))⟩));exact⟨_,Qan _ ho (Obj.isFreed_of_fields (Obj.data_mapFields hd _)),(Obj.cls_mapFields ..).trans hc,by rw[Obj.data_mapFields hd];simp[rawInt]⟩
theorem GX {it l:Addr} {i:Nat} {items:Array Value} {Q:YA} (hh:A.handled=none) (hit:s.heap.IsTupleIter it l i) (hl:s.heap.IsTuple l items) (hx:items[i]?=none)
  (hE:∀h' e,Heap.ExtBut it s.heap h'->(∃o,h'.get? e=some o/\o.cls=.type "StopIteration")->E (.ref e) { s with heap:=h' }):wpAny (model prog w) A (Builtin.SmallTypes.nextOf (.ref it)) Q E s:=by
 obtain⟨o,ho,hc,hd⟩:=id hit;obtain⟨ol,hol,_,nl,hdl⟩:=hl;unfold Builtin.SmallTypes.nextOf;refine QbH (Qai (name:=Str.ofString "__next__") hit.typeIs Qaa (QaU Qaa hit.typeIs PyProof.Rows.entry_tupleiter_next ?_ (PyProof.Rows.args_tupleiter_next _)));show wpAny _ _ (field (.ref it) 0 >>= _) _ _ s;refine QbH (QbG ho hd (x:=.ref l) rfl ?_);show wpAny _ _ (if (Value.ref l == Value.none)=true then _ else _) _ _ s
 rw[if_neg (show ¬((Value.ref l == Value.none)=true) from QaA)]
 show wpAny _ _ (field (.ref it) 1 >>= _) _ _ s;refine QbH (QbG ho hd (x:=.int i 0) rfl ?_);show wpAny _ _ (seqItems? (.ref l) >>= _) _ _ s;refine QbH (Qbs hol hdl ?_);simp only[QaQ,hx];refine QbH (QbK (QbH (wpAny_setField ho hd (by simp) ?_)));show wpAny _ _ (newExc (.type "StopIteration") [] >>= _) _ _ _;refine QbH ?_;simp only[newExc,newTuple];refine QbH (QaO ?_ (by size_fits));refine QbH (m:=firstArgMember _ _) (wpAny_of_eq (a:=Value.none) (by first | rfl | (simp only[firstArgMember];rfl)) ?_)
 refine QaO ?_ (by size_fits);simp only[raiseNew];refine QbH (wpAny_handled ?_)
 first | rw[show A.in1.handled=none from hh] | rw[hh]
 refine QbH (QbI (wpAny_throw ?_));exact hE _ _ (((Qav ..).extBut.push _).push _) ⟨_,Qat _ rfl,rq⟩
end
theorem Draws.tup {prog:Program} {w:World} {A:Around} (hh:A.handled=none) (it l:Addr) (hne:l≠it) (items:Array Value) :
  Draws prog w A it [it,l] items.size (λi v=>items[i]?=some v) (λi h=>h.IsTupleIter it l i/\h.IsTuple l items) where
 live:=λ_ _ st=>let ⟨o,ho,_⟩:=st.1;⟨o,ho⟩
 frame:=λ_ _ _ st hk=>⟨st.1.at λo e=>hk it (by simp) o e,let ⟨o,e,r⟩:=st.2;⟨o,hk l (by simp) o e,r⟩⟩
 item:=λi s Q E hi st hQ=>Gn st.1 st.2 (x:=items[i]) (by simp[hi]) λh' hit' hs'=>hQ _ h' s.toks (by simp[hi]) ⟨hit',let ⟨o,e,r⟩:=st.2;⟨o,hs'.extBut _ _ hne e,r⟩⟩ hs'
 done:=λs Q E st hE=>GX hh st.1 st.2 (by simp) hE
theorem Draws.from {prog:Program} {w:World} {A:Around} {it:Addr} {fp:List Addr} {n:Nat} {P:Nat->Value->Prop} {St:Nat->Heap->Prop} (D:Draws prog w A it fp n P St) (k:Nat) :
  Draws prog w A it fp (k+n) (λj v=>∃i,j=k+i/\P i v) (λj h=>∃i,j=k+i/\i<=n/\St i h) where
 live:=λ_ _ ⟨i,_,_,st⟩=>D.live i _ st
 frame:=λ_ _ _ ⟨i,e,hi,st⟩ hk=>⟨i,e,hi,D.frame i _ _ st hk⟩
 item:=λj s Q E hj ⟨i,e,hi,st⟩ hQ=>D.item i s Q E (by omega) st λx h' tk p st' sb=>hQ x h' tk ⟨i,e,p⟩ ⟨i+1,by omega,by omega,st'⟩ sb
 done:=λs Q E ⟨i,e,hi,st⟩ hE=>by
  have:i=n:=by omega
  subst this;exact D.done s Q E st hE
end PySem
namespace L2
open PySem PySem.Spec PyProof.Rows
section
variable {X:Cx} {jb:YC} {σ : St} {H:Hp} {s:Shared} {h':Heap}
theorem Inv.Qg {t':Nat} {fp:List Addr} {t:Addr} {o:HO} (I:Inv X jb σ H s) (ht:s.heap.objs.size<=t) (k:∀b u,b∉fp->s.heap.get? b=some u->h'.get? b=some u) (hf:∀b∈fp,Ez X jb H b) (new:Bu X.prog X.w (upd H t o) h' t o) :
  Inv X jb σ (upd H t o) { s with heap:=h',toks:=t' }:=by
 have nt:=I.hok.fresh ht;have old:∀b u,s.heap.get? b=some u->b≠t:=λb u e z=>absurd (QaB (QbA e) ht) (by rw[z];exact Qby _);have nf:∀b u,H b=some u->b∉fp:=λb u e z=>by rw[(hf b z).1] at e;cases e
 have tr:∀b u,H b=some u->(upd H t o) b=some u:=λb u e=>by rw[Aw (Bt e nt)];exact e
 refine I.step (g':=s.gens) (d':=s.drawn) (ch:=fp) (λb hb=>?_) (λb u _ _ hc e _=>k b u hc e) (λb u _ _ hc e _=>⟨u.slots,k b u hc e⟩) (λb u hc e n=>by rw[Aw (old b u e)];exact n)
  (λb u hc e=>⟨u,k b u hc e⟩) (λ_ _ e=>tr _ _ e) (λ_ _ _ e=>tr _ _ e) (λb ps e=>⟨#[],by rw[tr _ _ e];simp⟩) (λm hm=>?_) (λb u e=>?_) I.bare
 ·obtain⟨_,f1,_,f3,f4,f5⟩:=hf b hb;exact⟨f3,f1,f4,f5⟩
 ·obtain⟨u,es,ep,hu,r⟩:=hm;exact⟨u,es,ep,k _ u (λz=>(hf _ z).2.1 rfl) hu,r⟩
 ·by_cases hb:b=t
  ·subst hb;rw[Ac] at e;cases e;exact new
  ·rw[Aw hb] at e;refine (I.hok b u e).stay (λc v hc q=>k c v ?_ q) (λc q=>tr _ _ q) λc xs q=>tr _ _ q;rcases hc with z | z
   ·rw[z];exact nf b u e
   ·exact nf c _ z
theorem Inv.Tt {t':Nat} {fp:List Addr} (I:Inv X jb σ H s) (k:∀b u,b∉fp->s.heap.get? b=some u->h'.get? b=some u) (hf:∀b∈fp,Ez X jb H b):Inv X jb σ H { s with heap:=h',toks:=t' }:=by
 have nf:∀b u,H b=some u->b∉fp:=λb u e z=>by rw[(hf b z).1] at e;cases e
 refine I.step (g':=s.gens) (d':=s.drawn) (ch:=fp) (λb hb=>?_) (λb u _ _ hc e _=>k b u hc e) (λb u _ _ hc e _=>⟨u.slots,k b u hc e⟩) (λb u hc e n=>n)
  (λb u hc e=>⟨u,k b u hc e⟩) (λ_ _ e=>e) (λ_ _ _ e=>e) (λb ps e=>⟨#[],by rw[e];simp⟩) (λm hm=>?_) (λb u e=>?_) I.bare
 ·obtain⟨_,f1,_,f3,f4,f5⟩:=hf b hb;exact⟨f3,f1,f4,f5⟩
 ·obtain⟨u,es,ep,hu,r⟩:=hm;exact⟨u,es,ep,k _ u (λz=>(hf _ z).2.1 rfl) hu,r⟩
 ·refine (I.hok b u e).stay (λc v hc q=>k c v ?_ q) (λ_ q=>q) λ_ _ q=>q;rcases hc with z | z
  ·rw[z];exact nf b u e
  ·exact nf c _ z
end
section
variable {X:Cx}
theorem range_any (bs:List Bool):((List.range bs.length).any λi=>(bs[i]?).getD false)=bs.any id:=by
 induction bs with
 | nil=>rfl
 | cons b r ih=>
  rw[QaX,List.range_succ_eq_map,List.any_cons,List.any_map,List.any_cons];show ((some b).getD false || _)=_;rw[show ((λi=>((b::r)[i]?).getD false) ∘ Nat.succ)=λi=>(r[i]?).getD false from by funext i;simp[Function.comp]]
  rw[ih];rfl
theorem Sy (hc:X.calm=true):Dd X (.builtin "any") (λxs H Q=>∃(p:Addr) (bs:List Bool),xs=[.ref p]/\SqL X.K H p (bs.map V.bl)/\Q (.bl (bs.any id)) H):=by
 intro jb s σ H xs us Q I r h;obtain⟨p,bs,rfl,hq,q⟩:=h;obtain⟨u,rfl,rx⟩:=vals1 r;cases rx;obtain⟨its,rv,pl,hz⟩:=I.list hq;have hb:=I9 rv;have hl:=pl.isList;have hlt:p < s.heap.objs.size:=by obtain⟨_,e,_⟩:=hl;exact QbA e
 refine call_any_walk (QaN hl ?_);refine⟨s.heap.objs.size,[s.heap.objs.size,p],[s.heap.objs.size],its.toArray.size,_,_,λi=>(bs[i]?).getD false,rq,Walks.list (A:=X.A.in1) (I.ok.hd hc) _ p (QbB hlt) its.toArray,
  ⟨⟨_,Qat _ rfl,rq,rq⟩,hl.push _⟩,λi v s' Q' E' hP hQ=>?_,λh' tk hk=>?_⟩
 ·obtain⟨b,e,rfl⟩:=hb.get i v (by simpa using hP);simp only[e,Option.getD_some] at hQ;exact QaP hQ
 ·have e:((List.range its.toArray.size).any λi=>(bs[i]?).getD false)=bs.any id:=by
   rw[QaJ,hb.length];exact range_any bs
  rw[e];exact⟨.bl (bs.any id),H,I.kept (LSm.kept_iter hk),rq,q⟩
theorem Im (ns:List Int):∀j,j<=ns.length->preSum (λi=>ns.getD i 0) j=(ns.take j).sum
 | 0,_=>by simp[preSum]
 | j+1,h=>by
  have ih:=Im ns j (by omega);show preSum (λi=>ns.getD i 0) j+ns.getD j 0=_;rw[ih,PyProof.Rows.take_sum_succ ns j (by omega)]
theorem Gd (hc:X.calm=true):Dd X (.builtin "sum") (λxs H Q=>∃(p:Addr) (ns:List Int),xs=[.ref p]/\(SqL X.K H p (ns.map V.int)\/SqT X.K H p (ns.map V.int))/\Q (.int ns.sum) H):=by
 intro jb s σ H xs us Q I r h;obtain⟨p,ns,rfl,hq,q⟩:=h;obtain⟨u,rfl,rx⟩:=vals1 r;cases rx;have fin:∀its:YE,Vals (ns.map V.int) its->∀(i:Nat) (v:Value),its.toArray[i]?=some v->∃t,v=.int (ns.getD i 0) t:=λits rv i v e=>by
  have e':its[i]?=some v:=by simpa using e
  have hi:i < its.length:=(Qad.mp e').1;have hl:=rv.length;rw[Qbc] at hl;obtain⟨u,e2,r2⟩:=Vals.get (i:=i) (x:=.int (ns.getD i 0)) rv (by rw[QaK,Qah (by omega:i < ns.length)];simp[List.getD,Qah (by omega:i < ns.length)]);rw[e'] at e2;cases e2;exact r2
 have hsum:∀its:YE,Vals (ns.map V.int) its->preSum (λi=>ns.getD i 0) its.toArray.size=ns.sum:=λits rv=>by
  have hl:=rv.length;rw[Qbc] at hl;rw[QaJ,<-hl,Im ns _ (QbE _),QaZ]
 rcases hq with hq | hq
 ·obtain⟨its,rv,pl,hz⟩:=I.list hq;have hl:=pl.isList;have hlt:p < s.heap.objs.size:=by obtain⟨_,e,_⟩:=hl;exact QbA e
  refine call_sum_walkG (QaN hl ?_);refine⟨s.heap.objs.size,[s.heap.objs.size,p],[s.heap.objs.size],its.toArray.size,_,_,λi=>ns.getD i 0,rq,Walks.list (A:=X.A.in1) (I.ok.hd hc) _ p (QbB hlt) its.toArray,
   ⟨⟨_,Qat _ rfl,rq,rq⟩,hl.push _⟩,λb hb=>?_,λi v hP=>fin its rv i v hP,λh' tk t' hk=>?_⟩
  ·rw[Qbp];rcases Qbu.mp hb with rfl | hb
   ·exact QaW _
   ·rcases Qbu.mp hb with rfl | hb
    ·exact QaL hlt
    ·cases hb
  ·rw[hsum its rv];exact⟨.int ns.sum,H,I.kept (LSm.kept_iter hk),⟨_,rq⟩,q⟩
 ·obtain⟨its,rv,pl,hz⟩:=I.tuple hq;have hl:s.heap.IsTuple p its.toArray:=pl;have hlt:p < s.heap.objs.size:=pl.lt;refine call_sum_walkG (QaE hl ?_);refine⟨s.heap.objs.size,[s.heap.objs.size,p],[s.heap.objs.size],its.toArray.size,_,_,λi=>ns.getD i 0,rq,Walks.tuple (A:=X.A.in1) (I.ok.hd hc) _ p (QbB hlt) its.toArray,
   ⟨⟨_,Qat _ rfl,rq,rq⟩,hl.push _⟩,λb hb=>?_,λi v hP=>fin its rv i v hP,λh' tk t' hk=>?_⟩
  ·rw[Qbp];rcases Qbu.mp hb with rfl | hb
   ·exact QaW _
   ·rcases Qbu.mp hb with rfl | hb
    ·exact QaL hlt
    ·cases hb
  ·rw[hsum its rv];exact⟨.int ns.sum,H,I.kept (LSm.kept_iter hk),⟨_,rq⟩,q⟩
theorem PK (hc:X.calm=true):Dd X (.builtin "max") (λxs H Q=>∃(p:Addr) (ns:List Int),xs=[.ref p]/\SqT X.K H p (ns.map V.int)/\0 < ns.length/\∀M,M∈ns->(∀a,a∈ns->a<=M)->Q (.int M) H):=by
 intro jb s σ H xs us Q I r h;obtain⟨p,ns,rfl,hq,hne,q⟩:=h;obtain⟨u,rfl,rx⟩:=vals1 r;cases rx;obtain⟨its,rv,pl,hz⟩:=I.tuple hq;have hi:IntsAre its ns:=intsAre_of rv;obtain⟨zs,e⟩:=hi.allInts.items;have hl:s.heap.IsTuple p its.toArray:=pl;rw[e] at hl;have hns:ns=zs.toList.map (·.1):=by rw[<-hi.numsOf,<-nums_intItems,<-e]
 have hsz:0 < zs.size:=by
  have h3:=hne;rw[hns,Qbc,Qau] at h3;exact h3
 have hlt:p < s.heap.objs.size:=pl.lt;refine call_max_walk (QaE hl ?_);refine⟨s.heap.objs.size,[s.heap.objs.size,p],[s.heap.objs.size],(intItems zs).size,_,_,_,rq,Walks.tuple (A:=X.A.in1) (I.ok.hd hc) _ p (QbB hlt) (intItems zs),
  ⟨⟨_,Qat _ rfl,rq,rq⟩,hl.push _⟩,λb hb=>?_,by simpa [intItems] using hsz,CmpOf.ints_gt (numAt zs) (λ_ _=>intItems_at),λv h' tk hP hk=>?_⟩
 ·rw[Qbp];rcases Qbu.mp hb with rfl | hb
  ·exact QaW _
  ·rcases Qbu.mp hb with rfl | hb
   ·exact QaL hlt
   ·cases hb
 ·have hv:(intItems zs)[argBest (λi j=>decide (numAt zs i > numAt zs j)) (zs.size - 1)]?=some v:=by simpa [intItems] using hP
  obtain⟨t,rfl⟩:=intItems_at hv;obtain⟨_,h2⟩:=argBest_gt (numAt zs) (zs.size - 1);refine⟨.int _,H,I.kept (LSm.kept_iter hk),⟨t,rq⟩,q _ ?_ λa ha=>?_⟩
  ·rw[hns,numAt_eq];exact getD_mem (by rw[Qbc,Qau];have:=(argBest_gt (numAt zs) (zs.size - 1)).1;omega)
  ·rw[hns] at ha;obtain⟨j,hj,rfl⟩:=mem_getD ha;rw[Qbc,Qau] at hj;rw[<-numAt_eq];exact h2 j (by omega)
def V8 (i j:Int):Prop:=i.natAbs < 2 ^ 8000/\j.natAbs < 2 ^ 8000
theorem Mx {k:Int} (h:k.natAbs < 2 ^ 8000):Builtin.Int.intBits k<=8000:=by
 unfold Builtin.Int.intBits;split
 ·exact QbF _
 ·rcases Nat.eq_zero_or_pos k.natAbs with h0 | hp
  ·rw[h0];decide
  ·have:=(Nat.log2_lt (QbD hp)).mpr h;omega
theorem V8.ok {i j:Int} (h:V8 i j):IntMulOk i j:=by
 have h1:=Mx h.1;have h2:=Mx h.2;unfold IntMulOk;have e:Builtin.Int.intTooBig (Builtin.Int.intBits i+Builtin.Int.intBits j)=false:=by
  unfold Builtin.Int.intTooBig;rw[bitsLine_eq];exact Qbd (by omega)
 rw[e,Qbq];exact QaA
end
end L2
namespace PySem.ZZ
open PySem
section
variable {prog:Program} {w:World} {A:Around} {E:YA} {s:Shared}
theorem IV {M:Model} {α β : Type} {Q:β->Shared->Prop} {body:α->β->Sem (ForInStep β)} (J:List α->β->Shared->Prop) (hnil:∀b s,J [] b s->Q b s)
  (hstep:∀x r b s,J (x::r) b s->wpAny M A (body x b) (λst s'=>match st with | .yield b'=>J r b' s' | .done b'=>Q b' s') E s):∀(l:List α) (b:β) (s:Shared),J l b s->wpAny M A (forIn l b body) Q E s
 | [],b,s,h=>by
  rw[List.forIn_nil];exact QbI (hnil b s h)
 | x::r,b,s,h=>by
  rw[List.forIn_cons];refine QbH (QbJ (hstep x r b s h) (λst s' q=>?_) λ_ _ e=>e);cases st with
  | yield b'=>exact IV J hnil hstep r b' s' q
  | done b'=>exact QbI q
structure Src where
 it:Addr
 a:Addr
 items:Array Value
def SrcAt (h:Heap) (x:Src) (i:Nat):Prop:=(h.IsListIter x.it x.a i/\h.IsList x.a x.items)\/(h.IsTupleIter x.it x.a i/\h.IsTuple x.a x.items)
theorem SrcAt.keep {h h':Heap} {x:Src} {i:Nat} (q:SrcAt h x i) (k1:∀o,h.get? x.it=some o->h'.get? x.it=some o) (k2:∀o,h.get? x.a=some o->h'.get? x.a=some o):SrcAt h' x i:=by
 rcases q with⟨q1,q2⟩|⟨q1,o,e,r⟩
 ·exact .inl ⟨q1.at k1,q2.at k2⟩
 ·exact .inr ⟨q1.at k1,o,k2 o e,r⟩
theorem SrcAt.ne {h:Heap} {x:Src} {i:Nat} (q:SrcAt h x i):x.a≠x.it:=λz=>by
 rcases q with⟨⟨o,e,c,_⟩,⟨o',e',c',_⟩⟩|⟨⟨o,e,c,_⟩,⟨o',e',c',_⟩⟩
 ·rw[z,e] at e';cases e';rw[c] at c';injection c' with y;exact absurd y (by decide)
 ·rw[z,e] at e';cases e';rw[c] at c';injection c' with y;exact absurd y (by decide)
theorem SrcAt.ex {h:Heap} {x:Src} {i:Nat} (q:SrcAt h x i):(∃o,h.get? x.it=some o)/\∃o,h.get? x.a=some o:=by
 rcases q with⟨⟨o,e,_⟩,⟨o',e',_⟩⟩|⟨⟨o,e,_⟩,⟨o',e',_⟩⟩
 ·exact⟨⟨o,e⟩,o',e'⟩
 ·exact⟨⟨o,e⟩,o',e'⟩
theorem K8 {x:Src} {i:Nat} {v:Value} {Q:YA} (q:SrcAt s.heap x i) (hx:x.items[i]?=some v) (hQ:∀h',SrcAt h' x (i+1)->Heap.SameBut x.it s.heap h'->Q v { s with heap:=h' }) :
  wpAny (model prog w) A (Builtin.SmallTypes.nextOf (.ref x.it)) Q E s:=by
 have ne:=q.ne;rcases q with⟨q1,q2⟩|⟨q1,q2⟩
 ·exact wpAny_nextOf_list_item q1 q2 hx λh' i1 sb=>hQ h' (.inl ⟨i1,q2.at λo e=>sb.extBut _ _ ne e⟩) sb
 ·exact Gn q1 q2 hx λh' i1 sb=>hQ h' (.inr ⟨i1,let ⟨o,e,r⟩:=q2;⟨o,sb.extBut _ _ ne e,r⟩⟩) sb
theorem Tz {x:Src} {i:Nat} {Q:YA} (hh:A.handled=none) (q:SrcAt s.heap x i) (hx:x.items[i]?=none)
  (hE:∀h' e,Heap.ExtBut x.it s.heap h'->(∃o,h'.get? e=some o/\o.cls=.type "StopIteration")->E (.ref e) { s with heap:=h' }):wpAny (model prog w) A (Builtin.SmallTypes.nextOf (.ref x.it)) Q E s:=by
 rcases q with⟨q1,q2⟩|⟨q1,q2⟩
 ·exact wpAny_nextOf_list_end hh q1 q2 hx hE
 ·exact GX hh q1 q2 hx hE
abbrev IsZ (h:Heap) (z TI TO:Addr) (f0 f1:Value):Prop:=h.get? z=some { cls:=.type "zip",dict:=none,data:=.fields #[f0,f1,.bool false,.ref TI,.ref TO],slots:=#[] }
abbrev Bw (h:Heap) (T:Addr) (xs:YE):Prop:=h.get? T=some { cls:=.type "tuple",data:=.seq xs.toArray }
structure Apart (z TI TO:Addr) (ls:List Src):Prop where
 TIz:TI≠z
 TOz:TO≠z
 TITO:TI≠TO
 it:∀x∈ls,x.it≠z/\x.it≠TI/\x.it≠TO
 a:∀x∈ls,x.a≠z/\x.a≠TO
 ai:∀x∈ls,∀y∈ls,x.a≠y.it
 nd:(ls.map (·.it)).Nodup
def Rest (z TO:Addr) (ls:List Src) (h h':Heap):Prop:=∀c o,c≠z->c≠TO->c∉ls.map (·.it)->h.get? c=some o->h'.get? c=some o
theorem TF {xs olds:YE} {k:Nat} {v:Value} (hk:k < olds.length) (hx:xs.length=olds.length) (e:xs[k]?=some v):(xs.take k++olds.drop k).toArray.setIfInBounds k v=(xs.take (k+1)++olds.drop (k+1)).toArray:=by
 rw[List.setIfInBounds_toArray];congr 1;have hl:(xs.take k).length=k:=by rw[QaV];omega
 rw[List.set_append_right _ _ (by omega),hl,Nat.sub_self,Qaf hk,List.set_cons_zero,List.take_add_one,e];simp
structure Mid (z TI TO:Addr) (ls:List Src) (xs olds:YE) (i:Nat) (f0 f1:Value) (h:Heap) (k:Nat) (h':Heap):Prop where
 hz:IsZ h' z TI TO f0 f1
 hTI:Bw h' TI (ls.map λx=>.ref x.it)
 done:∀j x,ls[j]?=some x->SrcAt h' x (if j < k then i+1 else i)
 rest:Rest z TO ls h h'
 size:h'.objs.size=h.objs.size
theorem Mid.draw {z TI TO:Addr} {ls:List Src} {xs olds:YE} {i:Nat} {f0 f1:Value} {h h1 h2:Heap} {k:Nat} {x:Src} (D:Apart z TI TO ls) (m:Mid z TI TO ls xs olds i f0 f1 h k h1) (hx:ls[k]?=some x) (q:SrcAt h2 x (i+1)) (sb:Heap.SameBut x.it h1 h2) :
  Mid z TI TO ls xs olds i f0 f1 h (k+1) h2:=by
 have hm:=Qap hx;have hi:=D.it x hm;refine⟨sb.extBut _ _ hi.1.symm m.hz,sb.extBut _ _ hi.2.1.symm m.hTI,λj y hy=>?_,λc o c1 c2 c3 e=>sb.extBut _ _ (λz=>c3 (z ▸ List.mem_map.mpr ⟨x,hm,rq⟩)) (m.rest c o c1 c2 c3 e),by rw[sb.1,m.size]⟩;by_cases hj:j=k
 ·subst hj;rw[hx] at hy;cases hy;rw[if_pos (QaW _)];exact q
 ·have h1:=m.done j y hy;have hne:y.it≠x.it:=λz=>hj (by
   have e1:(ls.map (·.it))[j]?=some y.it:=by rw[QaK,hy];rfl
   have e2:(ls.map (·.it))[k]?=some x.it:=by rw[QaK,hx];rfl
   rw[z] at e1;have l1:=(Qad.mp e1);have l2:=(Qad.mp e2);exact (List.getElem_inj D.nd).mp (l1.2.trans l2.2.symm))
  have hc:(if j < k+1 then i+1 else i)=(if j < k then i+1 else i):=by
   by_cases c:j < k
   ·rw[if_pos c,if_pos (by omega)]
   ·rw[if_neg c,if_neg (by omega)]
  rw[hc];exact h1.keep (λo e=>sb.extBut _ _ hne e) (λo e=>sb.extBut _ _ (D.ai y (Qap hy) x hm) e)
theorem Mid.other {z TI TO:Addr} {ls:List Src} {xs olds:YE} {i:Nat} {f0 f1:Value} {h h1 h2:Heap} {k:Nat} (D:Apart z TI TO ls) (m:Mid z TI TO ls xs olds i f0 f1 h k h1) (sb:Heap.SameBut TO h1 h2):Mid z TI TO ls xs olds i f0 f1 h k h2:=by
 refine⟨sb.extBut _ _ D.TOz.symm m.hz,sb.extBut _ _ D.TITO m.hTI,λj y hy=>?_,λc o c1 c2 c3 e=>sb.extBut _ _ c2 (m.rest c o c1 c2 c3 e),by rw[sb.1,m.size]⟩;have hm:=Qap hy;exact (m.done j y hy).keep (λo e=>sb.extBut _ _ (D.it y hm).2.2 e) (λo e=>sb.extBut _ _ (D.a y hm).2 e)
theorem Kv {z TI TO:Addr} {ls:List Src} {xs olds:YE} {i:Nat} {f1:Value} {Q:YA} (D:Apart z TI TO ls) (hz:IsZ s.heap z TI TO .none f1) (hTI:Bw s.heap TI (ls.map λx=>.ref x.it)) (hTO:Bw s.heap TO olds)
  (hat:∀x∈ls,SrcAt s.heap x i) (hne:ls≠[]) (hl1:xs.length=ls.length) (hl2:olds.length=ls.length) (hx:∀(j:Nat) (x:Src),ls[j]?=some x->∃v,xs[j]?=some v/\x.items[i]?=some v) (hsz:ls.length<=100)
  (hQ:∀h',IsZ h' z TI TO (rawInt s.heap.objs.size) (.bool false)->Bw h' TI (ls.map λx=>.ref x.it)->Bw h' TO xs->(∀x∈ls,SrcAt h' x (i+1))->Bw h' s.heap.objs.size xs->h'.objs.size=s.heap.objs.size+1->Rest z TO ls s.heap h'->Q (.ref s.heap.objs.size) { s with heap:=h' }) :
  wpAny (model prog w) A (Builtin.«zip.__next__» ⟨[.ref z],[]⟩) (λfin s'=>∃v,fin=.done (.ret v)/\Q v s') E s:=by
 show wpAny _ _ (field (.ref z) 2 >>= _) _ _ _;refine QbH (QbG hz rfl (x:=.bool false) rfl ?_);show wpAny _ _ (field (.ref z) 3 >>= _) _ _ _;refine QbH (QbG hz rfl (x:=.ref TI) rfl ?_);refine QbH (Qbs hTI rfl ?_);dsimp only;rw[if_neg (by cases ls with | nil=>exact absurd rfl hne | cons a r=>simp)];show wpAny _ _ (Builtin.SmallTypes.ownedTupleIsFree (.ref z) >>= _) _ _ _;refine QbH ?_;unfold Builtin.SmallTypes.ownedTupleIsFree;refine QbH (QbG hz rfl (x:=.none) rfl (QbI ?_));simp only[if_true];refine QbH (QbK ?_);refine QbH (QbG hz rfl (x:=.ref TO) rfl ?_);refine QbH (QaH hz (by simp) λh₁ hz₁ hs₁=>?_);replace hz₁ : IsZ h₁ z TI TO .ellipsis f1:=hz₁;refine QbH ?_;have m0:Mid z TI TO ls xs olds i .ellipsis f1 s.heap 0 h₁:=by
  refine⟨hz₁,hs₁.extBut _ _ D.TIz hTI,λj x hj=>?_,λc o c1 _ _ e=>hs₁.extBut _ _ c1 e,hs₁.1⟩;have hm:=Qap hj;rw[if_neg (Nat.not_lt_zero _)];exact (hat x hm).keep (λo e=>hs₁.extBut _ _ (D.it x hm).1 e) (λo e=>hs₁.extBut _ _ (D.a x hm).1 e)
 have Mq : Bw h₁ TO (xs.take 0++olds.drop 0):=hs₁.extBut _ _ D.TOz hTO;refine IV (λl b s'=>∃k h',k<=ls.length/\l=((ls.map λx=>Value.ref x.it).drop k).zipIdx k/\b=⟨none,⟨⟩⟩/\s'={ s with heap:=h' }/\Mid z TI TO ls xs olds i .ellipsis f1 s.heap k h'/\Bw h' TO (xs.take k++olds.drop k)) (λb s' h=>?_) (λx r b s' h=>?_) _ _ _ ⟨0,h₁,QbF _,rq,rq,rq,m0,Mq⟩
 ·obtain⟨k,h',hk,e1,rfl,rfl,m,hT⟩:=h;have hkl:k=ls.length:=by
   have:=congrArg List.length e1;rw[List.length_nil,List.length_zipIdx,QaY,Qbc] at this;omega
  subst hkl;rw[<-hl1,QaZ,hl1,<-hl2,List.drop_length,List.append_nil] at hT;dsimp only;refine QbH (Qbs hT rfl ?_);refine QbH (wpAny_newTuple ?_ (by show xs.length<=sizeLine;rw[sizeLine_eq];omega));have hkl:∀j x,ls[j]?=some x->SrcAt h' x (i+1):=λj x hj=>by
   have:=m.done j x hj;rw[if_pos (Qad.mp hj).1] at this;exact this
  have hzlt:z < h'.objs.size:=QbA m.hz;have hTOlt:TO < h'.objs.size:=QbA hT;show wpAny _ _ (Builtin.SmallTypes.ownedTupleHandOut (.ref z) (.ref h'.objs.size) >>= _) _ _ _;refine QbH ?_;unfold Builtin.SmallTypes.ownedTupleHandOut;have hz₆ : IsZ (h'.push { cls:=.type "tuple",data:=.seq xs.toArray }) z TI TO .ellipsis f1:=Qaj _ m.hz;refine QbH (QaH hz₆ (by simp) λh₇ hz₇ hs₇=>?_);replace hz₇ : IsZ h₇ z TI TO (rawInt h'.objs.size) f1:=hz₇;refine QaH hz₇ (by simp) λh₈ hz₈ hs₈=>?_;replace hz₈ : IsZ h₈ z TI TO (rawInt h'.objs.size) (.bool false):=hz₈;have up:∀c o,c≠z->h'.get? c=some o->h₈.get? c=some o:=λc o c1 e=>hs₈.extBut _ _ c1 (hs₇.extBut _ _ c1 (Qaj _ e));have hT₈ : Bw h₈ h'.objs.size xs:=hs₈.extBut _ _ (QbD hzlt) (hs₇.extBut _ _ (QbD hzlt) (Qat _ rfl));have hz8:h₈.objs.size=h'.objs.size+1:=by rw[hs₈.1,hs₇.1,Qbp]
  have hsz':=m.size;rw[hsz'] at hz₈ hT₈ hz8;refine QbI ⟨_,rq,?_⟩;show Q (.ref h'.objs.size) _;rw[hsz'];refine hQ h₈ hz₈ (up _ _ D.TIz m.hTI) (up _ _ D.TOz hT) (λx hm=>?_) hT₈ hz8 λc o c1 c2 c3 e=>up c o c1 (m.rest c o c1 c2 c3 e);obtain⟨j,hj⟩:=Qar hm;exact (hkl j x hj).keep (λo e=>up _ o (D.it x hm).1 e) (λo e=>up _ o (D.a x hm).1 e)
 ·obtain⟨k,h',hk,e1,rfl,rfl,m,hT⟩:=h;have hkl:k < ls.length:=by
   have:=congrArg List.length e1;rw[QaX,List.length_zipIdx,QaY,Qbc] at this;omega
  obtain⟨y,hy⟩ : ∃y,ls[k]?=some y:=⟨_,Qah hkl⟩;have hm:=Qap hy;rw[Qaf (by rw[Qbc];exact hkl),List.zipIdx_cons,List.getElem_map] at e1;have ey:ls[k]=y:=(Qad.mp hy).2;rw[ey] at e1;injection e1 with e1 e2;subst e1 e2;obtain⟨v,hv1,hv2⟩:=hx k y hy;refine QbH (wpAny_onRaise ?_);show wpAny _ _ (Builtin.SmallTypes.nextOf (.ref y.it) >>= _) _ _ _;have q0:=m.done k y hy;rw[if_neg (Qby _)] at q0;refine QbH (K8 q0 hv2 λh2 q2 sb2=>QbI ?_);have m2:=m.draw D hy q2 sb2;have hT2:Bw h2 TO (xs.take k++olds.drop k):=sb2.extBut _ _ (D.it y hm).2.2.symm hT;have hln:(xs.take k++olds.drop k).length<=100:=by rw[Qax,QaV,QaY];omega
  have hsm:=TF (xs:=xs) (olds:=olds) (k:=k) (v:=v) (by omega) (by omega) hv1;refine QbH (Qbs hT2 rfl ?_);refine QbH (wpAny_updateSeq hT2 rfl ?_ (by rw[QaJ,sizeLine_eq];omega) (by rw[hsm,QaJ,sizeLine_eq,Qax,QaV,QaY];omega));have sb3:Heap.SameBut TO h2 (h2.update TO (Obj.mapSeq λx=>x.setIfInBounds k v)):=Qav ..;have hT3:Bw (h2.update TO (Obj.mapSeq λx=>x.setIfInBounds k v)) TO (xs.take (k+1)++olds.drop (k+1)):=by
   show (h2.update TO _).get? TO=_;rw[Qan _ hT2 rfl,<-hsm];simp[Obj.mapSeq]
  refine QbH (wpAny_letGo (QbI ?_));exact⟨k+1,_,hkl,rq,rq,rq,m2.other D sb3,hT3⟩
theorem K4 {z TI TO:Addr} {ls:List Src} {olds:YE} {i:Nat} {f1:Value} {Q:Fin->Shared->Prop} (hh:A.handled=none) (D:Apart z TI TO ls) (hz:IsZ s.heap z TI TO .none f1) (hTI:Bw s.heap TI (ls.map λx=>.ref x.it)) (hTO:Bw s.heap TO olds)
  (hat:∀x∈ls,SrcAt s.heap x i) (hne:ls≠[]) (hl2:olds.length=ls.length) (hsz:ls.length<=100) (hend:∃x∈ls,x.items[i]?=none)
  (hE:∀h' e,Rest z TO ls s.heap h'->(∃o,h'.get? e=some o/\o.cls=.type "StopIteration")->E (.ref e) { s with heap:=h' }) :
  wpAny (model prog w) A (Builtin.«zip.__next__» ⟨[.ref z],[]⟩) Q E s:=by
 show wpAny _ _ (field (.ref z) 2 >>= _) _ _ _;refine QbH (QbG hz rfl (x:=.bool false) rfl ?_);show wpAny _ _ (field (.ref z) 3 >>= _) _ _ _;refine QbH (QbG hz rfl (x:=.ref TI) rfl ?_);refine QbH (Qbs hTI rfl ?_);dsimp only;rw[if_neg (by cases ls with | nil=>exact absurd rfl hne | cons a r=>simp)];show wpAny _ _ (Builtin.SmallTypes.ownedTupleIsFree (.ref z) >>= _) _ _ _;refine QbH ?_;unfold Builtin.SmallTypes.ownedTupleIsFree;refine QbH (QbG hz rfl (x:=.none) rfl (QbI ?_));simp only[if_true];refine QbH (QbK ?_);refine QbH (QbG hz rfl (x:=.ref TO) rfl ?_);refine QbH (QaH hz (by simp) λh₁ hz₁ hs₁=>?_);replace hz₁ : IsZ h₁ z TI TO .ellipsis f1:=hz₁;refine QbH ?_;have m0:Mid z TI TO ls [] olds i .ellipsis f1 s.heap 0 h₁:=by
  refine⟨hz₁,hs₁.extBut _ _ D.TIz hTI,λj x hj=>?_,λc o c1 _ _ e=>hs₁.extBut _ _ c1 e,hs₁.1⟩;have hm:=Qap hj;rw[if_neg (Nat.not_lt_zero _)];exact (hat x hm).keep (λo e=>hs₁.extBut _ _ (D.it x hm).1 e) (λo e=>hs₁.extBut _ _ (D.a x hm).1 e)
 have Mq : Bw h₁ TO olds:=hs₁.extBut _ _ D.TOz hTO;refine IV (λl b s'=>∃k h' ys,k<=ls.length/\l=((ls.map λx=>Value.ref x.it).drop k).zipIdx k/\b=⟨none,⟨⟩⟩/\s'={ s with heap:=h' }/\Mid z TI TO ls [] olds i .ellipsis f1 s.heap k h'/\Bw h' TO ys/\ys.length=ls.length/\∃x∈ls.drop k,x.items[i]?=none) (λb s' h=>?_) (λx r b s' h=>?_) _ _ _ ⟨0,h₁,olds,QbF _,rq,rq,rq,m0,Mq,hl2,hend⟩
 ·obtain⟨k,h',ys,hk,e1,rfl,rfl,m,hT,hy,x,hx,_⟩:=h;have:k=ls.length:=by
   have:=congrArg List.length e1;rw[List.length_nil,List.length_zipIdx,QaY,Qbc] at this;omega
  subst this;rw[List.drop_length] at hx;cases hx
 ·obtain⟨k,h',ys,hk,e1,rfl,rfl,m,hT,hys,xe,hxe,hxn⟩:=h;have hkl:k < ls.length:=by
   have:=congrArg List.length e1;rw[QaX,List.length_zipIdx,QaY,Qbc] at this;omega
  obtain⟨y,hy⟩ : ∃y,ls[k]?=some y:=⟨_,Qah hkl⟩;have hm:=Qap hy;rw[Qaf (by rw[Qbc];exact hkl),List.zipIdx_cons,List.getElem_map] at e1;have ey:ls[k]=y:=(Qad.mp hy).2;rw[ey] at e1;injection e1 with e1 e2;subst e1 e2;refine QbH (wpAny_onRaise ?_);show wpAny _ _ (Builtin.SmallTypes.nextOf (.ref y.it) >>= _) _ _ _;have q0:=m.done k y hy;rw[if_neg (Qby _)] at q0;cases hv:y.items[i]? with
  | none=>
   refine QbH (Tz hh q0 hv λh₂ e hs₂ he=>?_);obtain⟨oe,hoe,hce⟩:=he;have hz₂ : IsZ h₂ z TI TO .ellipsis f1:=hs₂ _ _ (D.it y hm).1.symm m.hz;have hez:e≠z:=λx=>by subst x;rw[hz₂] at hoe;cases hoe;simp at hce
   refine QaH hz₂ (by simp) λh₃ _ hs₃=>hE h₃ e (λc o c1 c2 c3 x=>hs₃.extBut _ _ c1 (hs₂ _ _ (λq=>c3 (q ▸ List.mem_map.mpr ⟨y,hm,rq⟩)) (m.rest c o c1 c2 c3 x))) ⟨oe,hs₃.extBut _ _ hez hoe,hce⟩
  | some v=>
   refine QbH (K8 q0 hv λh2 q2 sb2=>QbI ?_);have m2:=m.draw D hy q2 sb2;have hT2:Bw h2 TO ys:=sb2.extBut _ _ (D.it y hm).2.2.symm hT;refine QbH (Qbs hT2 rfl ?_);refine QbH (wpAny_updateSeq hT2 rfl ?_ (by rw[QaJ,sizeLine_eq];omega) (by rw[Array.size_setIfInBounds,QaJ,sizeLine_eq];omega));have sb3:Heap.SameBut TO h2 (h2.update TO (Obj.mapSeq λx=>x.setIfInBounds k v)):=Qav ..;have hT3:Bw (h2.update TO (Obj.mapSeq λx=>x.setIfInBounds k v)) TO (ys.set k v):=by
    show (h2.update TO _).get? TO=_;rw[Qan _ hT2 rfl,<-List.setIfInBounds_toArray];simp[Obj.mapSeq]
   refine QbH (wpAny_letGo (QbI ?_));refine⟨k+1,_,ys.set k v,hkl,rq,rq,rq,m2.other D sb3,hT3,by rw[List.length_set];exact hys,xe,?_,hxn⟩;rw[Qaf hkl,ey] at hxe;rcases Qbu.mp hxe with z | z
   ·subst z;rw[hv] at hxn;cases hxn
   ·exact z
theorem Om {z TI TO:Addr} {f0 f1:Value} {Q:Option Value->Shared->Prop} (hz:IsZ s.heap z TI TO f0 f1) {Qi:YA} (h:wpAny (model prog w) A.in1 (Builtin.«zip.__next__» ⟨[.ref z],[]⟩) (λfin s'=>∃v,fin=.done (.ret v)/\Qi v s') (λ_ _=>False) s) (hQ:∀v s',Qi v s'->Q (some v) s') :
  wpAny (model prog w) A (pyNext (.ref z)) Q E s:=by
 have hT:s.TypeIs (.ref z) "zip":=⟨_,hz,rq⟩;unfold pyNext;refine QbH (wpAny_attempt (Qai (name:=Str.ofString "__next__") hT F.slot_zip_next (QaU F.slot_zip_next hT F.entry_zip_next (QbJ h (λfin s' q=>?_) λ_ _ f=>f.elim) (F.args_zip_next_1 _))));obtain⟨v,e,q⟩:=q;exact⟨v,e,QbI (hQ v s' q)⟩
theorem JB {z TI TO:Addr} {f0 f1:Value} {Q:Option Value->Shared->Prop} {R:Heap->Prop} (hz:IsZ s.heap z TI TO f0 f1)
  (h:wpAny (model prog w) A.in1 (Builtin.«zip.__next__» ⟨[.ref z],[]⟩) (λ_ _=>False) (λv s'=>∃h' e,v=.ref e/\s'={ s with heap:=h' }/\R h'/\∃o,h'.get? e=some o/\o.cls=.type "StopIteration") s) (hQ:∀h',R h'->Q none { s with heap:=h' }) :
  wpAny (model prog w) A (pyNext (.ref z)) Q E s:=by
 have hT:s.TypeIs (.ref z) "zip":=⟨_,hz,rq⟩;unfold pyNext;refine QbH (wpAny_attempt (Qai (name:=Str.ofString "__next__") hT F.slot_zip_next (QaU F.slot_zip_next hT F.entry_zip_next (QbJ h (λ_ _ f=>f.elim) λv s' q=>?_) (F.args_zip_next_1 _))));obtain⟨h',e,rfl,rfl,r,o,ho,hc⟩:=q;exact QbH (wpAny_isInstance (T:="StopIteration") (b:=true) ⟨o,ho,hc⟩ isSubtype_stop (QbI (hQ _ r)))
theorem Jf {z TI TO:Addr} {f0 f1:Value} {Q:YA} (hz:IsZ s.heap z TI TO f0 f1) (h:Q (.ref z) s):wpAny (model prog w) A (pyIter (.ref z)) Q E s:=by
 have hT:s.TypeIs (.ref z) "zip":=⟨_,hz,rq⟩;refine wpAny_pyIter_slot hT F.slot_zip_iter (QaU F.slot_zip_iter hT F.entry_zip_iter ?_ (F.args_zip_iter_1 _));show wpAny _ _ (ret (.ref z)) _ _ s;exact QbI ⟨_,rq,"zip",_,hT,F.slot_zip_next.lookup,h⟩
theorem QJ {elts:YJ} {x1} {pos:Pos} {z TI TO T:Addr} {f1:Value} {Q:YH} (hz:IsZ s.heap z TI TO (rawInt T) f1)
  (hQ:∀h',IsZ h' z TI TO .none f1->Heap.SameBut z s.heap h'->Q () { s with heap:=h' }):wpAny (model prog w) A (letOwnedTupleGo (.Tuple elts x1 pos) (.ref z) (.ref T)) Q E s:=by
 unfold letOwnedTupleGo;refine QbH (wpAny_load hz ?_);show wpAny _ _ (if (["enumerate","zip","dict_itemiterator","dict_reverseitemiterator","odict_iterator","itertools.zip_longest","itertools.pairwise"].contains "zip" &&
   (#[rawInt T,f1,.bool false,.ref TI,.ref TO]:Array Value)[0]? == some (rawInt T))=true then _ else _) Q E s
 rw[if_pos (by simp)];refine QbH (QbK ?_);show wpAny _ _ (setField (.ref z) 0 .none) Q E s;exact QaH hz (by simp) λh' hz' hs'=>hQ h' hz' hs'
end
end PySem.ZZ
namespace PySem
namespace F
end F
end PySem
namespace PySem.ZZ
open PySem
def Ig (h:Heap) (a:Addr) (xs:Array Value) (c:String):Prop:=(c="list_iterator"/\h.IsList a xs)\/(c="tuple_iterator"/\h.IsTuple a xs)
theorem Ig.src {h h':Heap} {a it:Addr} {xs:Array Value} {c:String} (q:Ig h a xs c) (k:∀o,h.get? a=some o->h'.get? a=some o) (e:h'.get? it=some { cls:=.type c,data:=.fields #[.ref a,.int 0 0] }):SrcAt h' ⟨it,a,xs⟩ 0:=by
 rcases q with⟨rfl,q⟩|⟨rfl,o,ho,r⟩
 ·exact .inl ⟨⟨_,e,rq,rq⟩,q.at k⟩
 ·exact .inr ⟨⟨_,e,rq,rq⟩,o,k o ho,r⟩
theorem Ig.lt {h:Heap} {a:Addr} {xs:Array Value} {c:String} (q:Ig h a xs c):a < h.objs.size:=by
 rcases q with⟨rfl,o,e,_⟩|⟨rfl,o,e,_⟩
 ·exact QbA e
 ·exact QbA e
abbrev itO (c:String) (l:Addr):Obj:={ cls:=.type c,data:=.fields #[.ref l,.int 0 0] }
abbrev tuO (xs:Array Value):Obj:={ cls:=.type "tuple",data:=.seq xs }
abbrev z2a (h:Heap) (c1 c2:String) (l1 l2:Addr):Heap:=((((h.push (itO c1 l1)).push (itO c2 l2)).push (tuO #[.ref h.objs.size,.ref (h.push (itO c1 l1)).objs.size])).push (tuO #[.none,.none]))
abbrev z2 (h:Heap) (c1 c2:String) (l1 l2:Addr):Heap:=(z2a h c1 c2 l1 l2).push
 { cls:=.type "zip",data:=.fields #[.none,.bool false,.bool false,.ref ((h.push (itO c1 l1)).push (itO c2 l2)).objs.size,.ref (((h.push (itO c1 l1)).push (itO c2 l2)).push (tuO #[.ref h.objs.size,.ref (h.push (itO c1 l1)).objs.size])).objs.size] }
theorem Oz (l1 l2:Addr) (xs ys:Array Value) (c1 c2:String):Meets (Builtin.«zip.__new__» ⟨[.type "zip",.ref l1,.ref l2],[]⟩) (λ_ R s=>Ig s.heap l1 xs c1/\Ig s.heap l2 ys c2/\R (.ok (.ret (.ref (z2a s.heap c1 c2 l1 l2).objs.size))) { s with heap:=z2 s.heap c1 c2 l1 l2 }):=
 .of_wp λprog w A R s h=>by
  obtain⟨hp,g,d,tk,os⟩:=s;obtain⟨hl1,hl2,h⟩:=h;have hsub:=sub_zip;rcases hl1 with⟨rfl,hl1⟩|⟨rfl,hl1⟩
  ·have hL1:Heap.IsList (Shared.heap ⟨hp,g,d,tk,os⟩) l1 xs:=hl1;rcases hl2 with⟨rfl,hl2⟩|⟨rfl,hl2⟩
   ·have hL2:Heap.IsList (Shared.heap ⟨hp.push (itO "list_iterator" l1),g,d,tk,os⟩) l2 ys:=Heap.IsList.push hl2 _
    wp_walk using QaN hL1,QaN hL2
    exact⟨_,rq,h⟩
   ·have hL2:Heap.IsTuple (Shared.heap ⟨hp.push (itO "list_iterator" l1),g,d,tk,os⟩) l2 ys:=Heap.IsTuple.push hl2 _
    wp_walk using QaN hL1,QaE hL2
    exact⟨_,rq,h⟩
  ·have hL1:Heap.IsTuple (Shared.heap ⟨hp,g,d,tk,os⟩) l1 xs:=hl1;rcases hl2 with⟨rfl,hl2⟩|⟨rfl,hl2⟩
   ·have hL2:Heap.IsList (Shared.heap ⟨hp.push (itO "tuple_iterator" l1),g,d,tk,os⟩) l2 ys:=Heap.IsList.push hl2 _
    wp_walk using QaE hL1,QaN hL2
    exact⟨_,rq,h⟩
   ·have hL2:Heap.IsTuple (Shared.heap ⟨hp.push (itO "tuple_iterator" l1),g,d,tk,os⟩) l2 ys:=Heap.IsTuple.push hl2 _
    wp_walk using QaE hL1,QaE hL2
    exact⟨_,rq,h⟩
abbrev z3a (h:Heap) (c1 c2 c3:String) (l1 l2 l3:Addr):Heap:=(((((h.push (itO c1 l1)).push (itO c2 l2)).push (itO c3 l3)).push (tuO #[.ref h.objs.size,.ref (h.push (itO c1 l1)).objs.size,.ref ((h.push (itO c1 l1)).push (itO c2 l2)).objs.size])).push (tuO #[.none,.none,.none]))
abbrev z3 (h:Heap) (c1 c2 c3:String) (l1 l2 l3:Addr):Heap:=(z3a h c1 c2 c3 l1 l2 l3).push
 { cls:=.type "zip",data:=.fields #[.none,.bool false,.bool false,.ref (((h.push (itO c1 l1)).push (itO c2 l2)).push (itO c3 l3)).objs.size,.ref ((((h.push (itO c1 l1)).push (itO c2 l2)).push (itO c3 l3)).push (tuO #[.ref h.objs.size,.ref (h.push (itO c1 l1)).objs.size,.ref ((h.push (itO c1 l1)).push (itO c2 l2)).objs.size])).objs.size] }
structure WK (h:Heap) (z TI TO:Addr) (ls:List Src) (h':Heap):Prop where
 hz:IsZ h' z TI TO .none (.bool false)
 hTI:Bw h' TI (ls.map λx=>.ref x.it)
 hTO:Bw h' TO (ls.map λ_=>.none)
 at_:∀x∈ls,SrcAt h' x 0
 ap:Apart z TI TO ls
 new:h.objs.size<=z/\h.objs.size<=TI/\h.objs.size<=TO/\∀x∈ls,h.objs.size<=x.it
 keep:∀c o,h.get? c=some o->h'.get? c=some o
theorem na {a b:Nat} (h:a≠b):@Ne Addr a b:=h
theorem apart2 {n l1 l2:Nat} {xs ys:Array Value} (a1:l1 < n) (a2:l2 < n):Apart (n+1+1+1+1:Nat) (n+1+1:Nat) (n+1+1+1:Nat) [⟨n,l1,xs⟩,⟨(n+1:Nat),l2,ys⟩]:=by
 refine⟨na (by omega),na (by omega),na (by omega),λx hx=>?_,λx hx=>?_,λx hx y hy=>?_,?_⟩
 ·rcases Qbu.mp hx with rfl | hx
  ·exact⟨na (by dsimp only;omega),na (by dsimp only;omega),na (by dsimp only;omega)⟩
  ·cases QaC.mp hx;exact⟨na (by dsimp only;omega),na (by dsimp only;omega),na (by dsimp only;omega)⟩
 ·rcases Qbu.mp hx with rfl | hx
  ·exact⟨na (by dsimp only;omega),na (by dsimp only;omega)⟩
  ·cases QaC.mp hx;exact⟨na (by dsimp only;omega),na (by dsimp only;omega)⟩
 ·rcases Qbu.mp hx with rfl | hx
  ·rcases Qbu.mp hy with rfl | hy
   ·exact na (by dsimp only;omega)
   ·cases QaC.mp hy;exact na (by dsimp only;omega)
  ·cases QaC.mp hx;rcases Qbu.mp hy with rfl | hy
   ·exact na (by dsimp only;omega)
   ·cases QaC.mp hy;exact na (by dsimp only;omega)
 ·show List.Nodup ([n,n+1]:List Nat);simp
section
variable {prog:Program} {w:World} {A:Around} {E:YA} {s:Shared}
theorem Q8 {l1 l2:Addr} {xs ys:Array Value} {c1 c2:String} {Q:YA} (hl1:Ig s.heap l1 xs c1) (hl2:Ig s.heap l2 ys c2)
  (h:∀h' z TI TO i1 i2,WK s.heap z TI TO [⟨i1,l1,xs⟩,⟨i2,l2,ys⟩] h'->Q (.ref z) { s with heap:=h' }):wpAny (model prog w) A (call (.type "zip") [.ref l1,.ref l2]) Q E s:=by
 refine callType_new F.called_zip (by decide) (F.typeCall_zip_2 _ _) (F.newCall_zip_2 _ _) (λobj=>F.args_object_init_3 obj _ _) F.entry_zip_new (Oz l1 l2 xs ys c1 c2) ⟨hl1,hl2,?_⟩;have g5:(z2 s.heap c1 c2 l1 l2).get? (z2a s.heap c1 c2 l1 l2).objs.size=some _:=Qat _ rfl;have g4:(z2 s.heap c1 c2 l1 l2).get? (((s.heap.push (itO c1 l1)).push (itO c2 l2)).push (tuO #[.ref s.heap.objs.size,.ref (s.heap.push (itO c1 l1)).objs.size])).objs.size=some (tuO #[.none,.none]):=Qaj _ (Qat _ rfl);have g3:(z2 s.heap c1 c2 l1 l2).get? ((s.heap.push (itO c1 l1)).push (itO c2 l2)).objs.size=some (tuO #[.ref s.heap.objs.size,.ref (s.heap.push (itO c1 l1)).objs.size]):=Qaj _ (Qaj _ (Qat _ rfl));have g2:(z2 s.heap c1 c2 l1 l2).get? (s.heap.push (itO c1 l1)).objs.size=some (itO c2 l2):=Qaj _ (Qaj _ (Qaj _ (Qat _ rfl)));have g1:(z2 s.heap c1 c2 l1 l2).get? s.heap.objs.size=some (itO c1 l1):=Qaj _ (Qaj _ (Qaj _ (Qaj _ (Qat _ rfl))));have kp:∀c o,s.heap.get? c=some o->(z2 s.heap c1 c2 l1 l2).get? c=some o:=λc o x=>Qaj _ (Qaj _ (Qaj _ (Qaj _ (Qaj _ x))));have a1:=hl1.lt;have a2:=hl2.lt;refine⟨⟨_,g5,rq⟩,h _ _ _ _ s.heap.objs.size (s.heap.push (itO c1 l1)).objs.size ⟨g5,g3,g4,?_,?_,?_,kp⟩⟩
 ·intro x hx;rcases Qbu.mp hx with rfl | hx
  ·exact hl1.src (λo e=>kp _ _ e) g1
  ·rcases Qbu.mp hx with rfl | hx
   ·exact hl2.src (λo e=>kp _ _ e) g2
   ·cases hx
 ·simp only[Qbp];exact apart2 a1 a2
 ·simp only[Qbp,Qbu,QaT,QbL,forall_eq_or_imp,forall_eq];omega
end
end PySem.ZZ
namespace PySem
namespace F
end F
end PySem
namespace PySem.ZZ
open PySem
section
variable {prog:Program} {w:World} {A:Around} {E:YA} {s:Shared}
structure Run (hb:Heap) (z TI TO:Addr) (ls:List Src) (rows:Nat->YE) (S:Addr) (ts:List Addr) (h:Heap):Prop where
 inc:ts.Pairwise (· < ·)
 lo:∀t∈ts,S < t/\t < h.objs.size
 at_:∀j t,ts[j]?=some t->Bw h t (rows j)
 keep:∀c o,hb.get? c=some o->h.get? c=some o
 hTI:Bw h TI (ls.map λx=>.ref x.it)
 hTO:∃olds,Bw h TO olds/\olds.length=ls.length
 src:∀x∈ls,SrcAt h x ts.length
 hz:(ts=[]/\IsZ h z TI TO .none (.bool false))\/∃(T:Addr) (f1:Value),ts[0]?=some T/\IsZ h z TI TO (rawInt T) f1
structure Below (hb:Heap) (z TI TO:Addr) (ls:List Src) (S:Addr):Prop where
 ap:Apart z TI TO ls
 old:hb.objs.size<=z/\hb.objs.size<=TI/\hb.objs.size<=TO/\∀x∈ls,hb.objs.size<=x.it
 lz:z < S
 lTI:TI < S
 lTO:TO < S
 it:∀x∈ls,x.it < S/\x.a < S
 base:hb.objs.size<=S
theorem Run.frame {hb:Heap} {z TI TO:Addr} {ls:List Src} {rows:Nat->YE} {S:Addr} {ts:List Addr} {h h':Heap} (B:Below hb z TI TO ls S) (r:Run hb z TI TO ls rows S ts h) (hs:h'.objs.size=h.objs.size) (k:∀c o,c≠S->h.get? c=some o->h'.get? c=some o):Run hb z TI TO ls rows S ts h':=by
 obtain⟨olds,o1,o2⟩:=r.hTO;refine⟨r.inc,λt ht=>by rw[hs];exact r.lo t ht,λj t e=>k _ _ (QbD (r.lo t (Qap e)).1) (r.at_ j t e),λc o e=>k _ _ (QbB (QaB (QbA e) B.base)) (r.keep c o e),k _ _ (QbB B.lTI) r.hTI,⟨olds,k _ _ (QbB B.lTO) o1,o2⟩,λx hx=>?_,?_⟩
 ·exact (r.src x hx).keep (λo e=>k _ _ (QbB (B.it x hx).1) e) (λo e=>k _ _ (QbB (B.it x hx).2) e)
 ·rcases r.hz with⟨e,q⟩|⟨T,f1,e,q⟩
  ·exact .inl ⟨e,k _ _ (QbB B.lz) q⟩
  ·exact .inr ⟨T,f1,e,k _ _ (QbB B.lz) q⟩
theorem Run.more {hb:Heap} {z TI TO:Addr} {ls:List Src} {rows:Nat->YE} {S:Addr} {ts:List Addr} {h h':Heap} (B:Below hb z TI TO ls S) (r:Run hb z TI TO ls rows S ts h) (hS:S < h.objs.size) (hs:h'.objs.size=h.objs.size+1) (hr:Rest z TO ls h h')
  (hTI:Bw h' TI (ls.map λx=>.ref x.it)) (hTO:∃olds,Bw h' TO olds/\olds.length=ls.length) (src:∀x∈ls,SrcAt h' x (ts.length+1)) (new:Bw h' h.objs.size (rows ts.length)) (hz:∃(T:Addr) (f1:Value),(ts++[h.objs.size])[0]?=some T/\IsZ h' z TI TO (rawInt T) f1):Run hb z TI TO ls rows S (ts++[h.objs.size]) h':=by
 have fr:∀t,S < t->t≠z/\t≠TO/\t∉ls.map (·.it):=λt ht=>⟨λe=>by rw[e] at ht;exact Nat.lt_asymm ht B.lz,λe=>by rw[e] at ht;exact Nat.lt_asymm ht B.lTO,λe=>by
  obtain⟨x,hx,e'⟩:=List.mem_map.mp e;rw[<-e'] at ht;exact Nat.lt_asymm ht (B.it x hx).1⟩
 refine⟨?_,λt ht=>?_,λj t e=>?_,λc o e=>?_,hTI,hTO,λx hx=>by rw[Qax];exact src x hx,.inr hz⟩
 ·exact List.pairwise_append.mpr ⟨r.inc,List.pairwise_singleton _ _,λa ha b hb'=>by
   have:b=h.objs.size:=by simpa using hb'
   rw[this];exact (r.lo a ha).2⟩
 ·rw[hs];rcases Qbh.mp ht with ht | ht
  ·have:=r.lo t ht;exact⟨this.1,QaL this.2⟩
  ·have:t=h.objs.size:=by simpa using ht
   rw[this];exact⟨hS,QaW _⟩
 ·by_cases c:j < ts.length
  ·rw[List.getElem?_append_left c] at e;have hlo:=r.lo t (Qap e);obtain⟨f1,f2,f3⟩:=fr t hlo.1;exact hr t _ f1 f2 f3 (r.at_ j t e)
  ·rw[List.getElem?_append_right (Nat.le_of_not_lt c)] at e;have hj:j - ts.length=0:=by
    have:=(Qad.mp e).1;rw[List.length_singleton] at this;omega
   rw[hj] at e;cases e;have:j=ts.length:=by omega
   rw[this];exact new
 ·have hlt:=QbA e;refine hr c o (λq=>?_) (λq=>?_) (λq=>?_) (r.keep c o e)
  ·rw[q] at hlt;exact absurd hlt (Nat.not_lt.mpr B.old.1)
  ·rw[q] at hlt;exact absurd hlt (Nat.not_lt.mpr B.old.2.2.1)
  ·obtain⟨x,hx,e'⟩:=List.mem_map.mp q;rw[<-e'] at hlt;exact absurd hlt (Nat.not_lt.mpr (B.old.2.2.2 x hx))
end
end PySem.ZZ
namespace PySem.ZZ
open PySem
section
variable {prog:Program} {w:World} {A:Around} {E:YA} {s:Shared}
structure Rows (ls:List Src) (n:Nat) (rows:Nat->YE):Prop where
 row:∀j,j < n->(rows j).length=ls.length/\∀(k:Nat) (x:Src),ls[k]?=some x->∃v,(rows j)[k]?=some v/\x.items[j]?=some v
 stop:∃x∈ls,x.items[n]?=none
 ne:ls≠[]
 few:ls.length<=100
 most:n<=1000
end
end PySem.ZZ
namespace L2
open PySem PySem.Spec PyProof.Rows
section
variable {X:Cx} {jb:YC} {σ : St} {H:Hp} {s:Shared} {h':Heap}
theorem Inv.grown {H':Hp} {t':Nat} (I:Inv X jb σ H s) (k:∀b u,s.heap.get? b=some u->h'.get? b=some u) (old:∀b,b < s.heap.objs.size->H' b=H b)
  (new:∀b o,s.heap.objs.size<=b->H' b=some o->Bu X.prog X.w H' h' b o):Inv X jb σ H' { s with heap:=h',toks:=t' }:=by
 have tr:∀b u,H b=some u->H' b=some u:=λb u e=>by rw[old b (I.hok.lt e)];exact e
 refine I.step (g':=s.gens) (d':=s.drawn) (ch:=[]) (λb hb=>by cases hb) (λb u _ _ _ e _=>k b u e) (λb u _ _ _ e _=>⟨u.slots,k b u e⟩) (λb u _ e n=>by rw[old b (QbA e)];exact n)
  (λb u _ e=>⟨u,k b u e⟩) (λ_ _ e=>tr _ _ e) (λ_ _ _ e=>tr _ _ e) (λb ps e=>⟨#[],by rw[tr _ _ e];simp⟩) (λm hm=>?_) (λb u e=>?_) I.bare
 ·obtain⟨u,es,ep,hu,r⟩:=hm;exact⟨u,es,ep,k _ u hu,r⟩
 ·by_cases hb:b < s.heap.objs.size
  ·rw[old b hb] at e;exact (I.hok b u e).stay (λc v _ q=>k c v q) (λc q=>tr _ _ q) λc xs q=>tr _ _ q
  ·exact new b u (Nat.le_of_not_lt hb) e
end
section
variable {X:Cx}
end
theorem Dh {h:Heap} {p q:Addr} {o o':Obj} (e:h.get? p=some o) (e':h.get? q=some o') (n:o.cls≠o'.cls):p≠q:=λz=>by
 rw[z,e'] at e;cases e;exact n rfl
theorem Es {h:Heap} {a:Addr} {xs ys:Array Value} (h1:h.IsList a xs) (h2:h.IsTuple a ys):False:=by
 obtain⟨o,e,c,_⟩:=h1;obtain⟨o',e',c',_⟩:=h2;rw[e'] at e;cases e;rw[c'] at c;injection c with q;exact absurd q (by decide)
section
variable {X:Cx}
end
mutual
inductive Hl (K:YD) (H:Hp):V->PyData->Prop
 | non:Hl K H .non .none
 | bl (b:Bool):Hl K H (.bl b) (.bool b)
 | int (i:Int):Hl K H (.int i) (.int i)
 | str (x:Str):Hl K H (.str x) (.str x)
 | tup {a:Addr} {xs:YG} {ds:List PyData}:SqT K H a xs->Gs K H xs ds->Hl K H (.ref a) (.tuple ds)
inductive Gs (K:YD) (H:Hp):YG->List PyData->Prop
 | nil:Gs K H [] []
 | cons {x:V} {d:PyData} {xs:YG} {ds:List PyData}:Hl K H x d->Gs K H xs ds->Gs K H (x::xs) (d::ds)
end
section
variable {X:Cx} {jb:YC} {σ : St} {H:Hp} {s:Shared}
mutual
theorem Hl.reads (I:Inv X jb σ H s):∀{v:V} {d:PyData} {u:Value},Hl X.K H v d->RelV v u->∃as,Reads s.heap u d as
 | _,_,_,.non,r=>by cases (show _=Value.none from r);exact⟨_,.none⟩
 | _,_,_,.bl b,r=>by cases (show _=Value.bool b from r);exact⟨_,.bool b⟩
 | _,_,_,.int i,r=>by obtain⟨t,rfl⟩:=(show ∃t,_=Value.int i t from r);exact⟨_,.int i t⟩
 | _,_,_,.str x,r=>by obtain⟨t,rfl⟩:=(show ∃t,_=Value.str x t from r);exact⟨_,.str x t⟩
 | _,_,_,.tup (a:=a) (xs:=xs) e q,r=>by
  cases (show _=Value.ref a from r)
  obtain⟨its,rv,⟨o,ho,hc,n,hd⟩,_⟩:=I.tuple e;obtain⟨as,z⟩:=Gs.reads I q rv;exact⟨_,.tuple ho hc hd (by simpa using z)⟩
theorem Gs.reads (I:Inv X jb σ H s):∀{xs:YG} {ds:List PyData} {us:YE},Gs X.K H xs ds->Vals xs us->∃as,ReadsAll s.heap us ds as
 | _,_,_,.nil,.nil=>⟨_,.nil⟩
 | _,_,_,.cons p q,.cons r t=>by
  obtain⟨as,a1⟩:=Hl.reads I p r;obtain⟨bs,b1⟩:=Gs.reads I q t;exact⟨_,.cons a1 b1⟩
end
end
section
variable {X:Cx} {K:YD}
theorem JD {es:YJ} {k:Nat} {pos:Pos} {t:TGs} {n:Nat} (hK:X.K=K) (hc:X.calm=true) (h:PGs X es t)
  (hn:(assignEach es X.env).length=n:=by rfl) (hst:(assignEach es X.env).findIdx? (·.1)=none:=by rfl):PG X (.Tuple es k pos) (Vu K n t):=hK ▸ Fe hc h hn hst
end
end L2
namespace L2
open PySem PySem.Spec PyProof.Rows
abbrev Tc:YE:=[.type "ValueError",.type "Exception",.type "BaseException",.type "object"]
structure XCl (K:YD) (C:Addr):Prop where
 ex:PySem.W.excIn K C Tc "ValueError.__new__"=true
 ga:findIn K (.ref C) "__getattribute__"=some (some (.builtin "BaseException.__getattribute__"))
 gn:findIn K (.ref C) "__getattr__"=some none
 ca:findIn K (.ref C) "__class__"=some (some (.builtin "object.__class__"))
 mo:PySem.W.subIn K (.ref C) (.type "object")=some true
 mb:PySem.W.subIn K (.ref C) (.type "BaseException")=some true
 kp:keepIn K (.ref C)=true
section
variable {K:YD} {C:Addr}
theorem XCl.look (T:XCl K C):∃dd cd sl,K.lookup C=some ⟨.type "type",dd,.cls cd,sl⟩:=by
 have q:=T.ex;unfold PySem.W.excIn at q;split at q
 ·rename_i dd cd sl ho;exact⟨dd,cd,sl,ho⟩
 ·cases q
theorem XCl.obj (T:XCl K C) {h:Heap} (X:K.In h):∃bm N nm q bs hdct sn sub ab col dd k0 k1 k2 k3 k5 mN,h.get? C=some (excClassObj nm q C N bs bm hdct sn sub ab col dd k0 k1 k2 k3 k5 "ValueError.__new__")/\h.Ns N mN/\mN "__init__"=none/\OwnTail h Tc bm:=by
 have q:=T.ex;unfold PySem.W.excIn at q;split at q
 ·rename_i dd cd sl ho;split at q
  ·rename_i C' bm k0 k1 k2 k3 n k5 hm hs;simp only[QaS,beq_iff_eq,Bool.not_eq_true'] at q;obtain⟨⟨⟨⟨⟨rfl,rfl⟩,hdel⟩,ht⟩,hok⟩,hni⟩:=q;obtain⟨nm,bs,mro,ns,qn,hd,sn,sub,ab,col,del⟩:=cd;dsimp only at hm hdel hok hni;subst hm hdel;have hsl:sl=#[k0,k1,k2,k3,some (.builtin "ValueError.__new__"),k5]:=by
    obtain⟨l⟩:=sl;simp only at hs;rw[hs]
   subst hsl;exact⟨bm,ns,nm,qn,bs,hd,sn,sub,ab,col,dd,k0,k1,k2,k3,k5,_,X _ _ ho,.of_isNs (PySem.W.isNs_of_in X hok),PySem.W.nsMap_none_of_in X hok hni,PySem.W.tail_of_in X ht⟩
  ·cases q
 ·cases q
end
def XAt (a C:Addr) (h:Heap):Prop:=∃o vs,h.get? a=some o/\o.cls=.ref C/\o.data=.fields vs/\vs[2]?=some .none
section
variable {prog:Program} {w:World} {A:Around} {E:YA} {h:Heap} {g:Array GenState} {d:Drawn} {t:Nat} {os:OsState} {K:YD} {a C:Addr} {o:Obj}
end
section
variable {X:Cx} {jb:YC} {σ : St} {H:Hp} {s:Shared}
end
def XT (B:Heap) (e C:Addr) (fl:Option Value) (h:Heap):Prop:=
 ∃oe vs,h.get? e=some oe/\oe.cls=.ref C/\oe.data=.fields vs/\vs[2]?=some .none /\
  match fl with
  | none=>vs[1]?=some .none
  | some f=>∃T oT ts,vs[1]?=some (.ref T)/\B.get? T=none/\T≠e/\h.get? T=some oT/\oT.data=.fields ts/\ts[3]?=some f
structure Fl (B:Heap) (l:List Env) (e C:Addr) (fl:Option Value) (h:Heap):Prop where
 stays:B.StaysIn h
 new:B.get? e=none
 fr:h.FunFrames B l
 tr:XT B e C fl h
theorem XT.at {B h:Heap} {e C:Addr} {fl:Option Value} (x:XT B e C fl h):XAt e C h:=by
 obtain⟨oe,vs,h1,h2,h3,h4,_⟩:=x;exact⟨oe,vs,h1,h2,h3,h4⟩
section
variable {M:Model} {A:Around} {E:YA} {s:Shared} {B:Heap} {env:Env} {outer l:List Env} {L e C:Addr} {Q:YH}
end
theorem Bu.there {P:Program} {w:World} {H:Hp} {h:Heap} {a:Addr} {o:HO} (x:Bu P w H h a o):∃u,h.get? a=some u:=by
 cases o with
 | lst xs=>obtain⟨_,its,n,_,q⟩:=x;exact⟨_,q⟩
 | tup xs=>obtain⟨_,its,_,ob,q,_⟩:=x;exact⟨_,q⟩
 | dK kvs=>obtain⟨_,_,vs,_,ob,es,ep,q,_⟩:=x;exact⟨_,q⟩
 | dT kvs=>obtain⟨_,_,xs,_,ob,es,ep,q,_⟩:=x;exact⟨_,q⟩
 | set S n=>obtain⟨ob,es,ep,t,q,_⟩:=x;exact⟨_,q⟩
 | ins C dx fs=>obtain⟨_,_,_,q,_⟩:=x;exact⟨_,q⟩
 | own y=>exact x
 | xd fs=>obtain⟨mA,⟨od,es,ep,q,_⟩,_⟩:=x;exact⟨_,q⟩
 | rng lo hi=>obtain⟨t,u,v,q⟩:=x;exact⟨_,q⟩
 | frz ob u=>exact⟨_,x.1⟩
 | tbl ps=>exact⟨_,x⟩
 | met f y=>exact⟨_,x⟩
 | ext φ=>exact x.2.1
structure Exc (P:Program) (w:World) (outer:List Env) (H:Hp) (s:Shared) (e C:Addr) (B:Heap) (H':Hp) (s':Shared):Prop where
 os:s'.os=s.os
 bare:AllBare s'.gens
 fl:∃fl,(fl=none\/fl=some .none)/\Fl B outer e C fl s'.heap
 un:Un (frs outer) [] H H' s.heap s'.heap
 hok:HOk P w H' s'.heap
 tin:∀b o,s'.heap.get? b=some o->H' b≠none->B.get? b=some o
 old:∀b o,s.heap.get? b=some o->H b=none->b∉frs outer->B.get? b=some o
 ex:∀b o,s.heap.get? b=some o->b∉frs outer->∃o',B.get? b=some o'
section
variable {P:Program} {w:World} {outer:List Env} {H H':Hp} {s s':Shared} {e C:Addr} {B h2:Heap} {fl:Option Value}
theorem Exc.free (x:Exc P w outer H s e C B H' s'):H' e=none:=by
 cases hq:H' e with
 | none=>rfl
 | some v=>
  obtain⟨o1,q1⟩:=(x.hok e v hq).there;have q2:=x.tin e o1 q1 (by rw[hq];exact λz=>nomatch z);obtain⟨_,_,g⟩:=x.fl;rw[g.new] at q2;cases q2
theorem Exc.fresh (x:Exc P w outer H s e C B H' s'):s.heap.get? e=none:=by
 cases hq:s.heap.get? e with
 | none=>rfl
 | some o=>
  obtain⟨_,_,g⟩:=x.fl;by_cases hb:e∈frs outer
  ·obtain⟨_,o1,q1,nf⟩:=g.fr.mem hb;obtain⟨oe,vs,q2,_,q3,_⟩:=g.tr;rw[q1] at q2;cases q2;exact absurd q3 (nf vs)
  ·obtain⟨o1,q1⟩:=x.ex e o hq hb;rw[g.new] at q1;cases q1
end
section
variable {X:Cx} {jb:YC} {σ : St} {H H':Hp} {s s':Shared} {e C:Addr} {B h2:Heap} {fl:Option Value}
theorem Exc.made {args:YE} {h':Heap} (I:Inv X jb σ H s) (hx:Heap.MadeExcOf s.heap h' e (.ref C) args):Exc X.prog X.w X.stack H s e C (hideAll s.heap (frs X.stack)) H { s with heap:=h' }:=by
 have st:(hideAll s.heap (frs X.stack)).StaysIn s.heap:=λb o q=>PySem.W.of_hideAll _ q;refine⟨rq,I.bare,⟨none,.inl rfl,⟨λb o q=>hx.keeps b o (st b o q),?_,?_,?_⟩⟩,Un.kept hx.keeps,I.hok.kept hx.keeps,λb o q hb=>?_,λb o q n hb=>hideAll_get _ q hb,λb o q hb=>⟨o,hideAll_get _ q hb⟩⟩
 ·cases hq:(hideAll s.heap (frs X.stack)).get? e with
  | none=>rfl
  | some o=>
   have q:=st e o hq;rw[hx.new] at q;cases q
 ·have f0:s.heap.FunFrames (hideAll s.heap (frs X.stack)) X.stack:=PySem.W.funFrames_hide I.stack λenv he a ha=>List.mem_filterMap.mpr ⟨env,he,ha⟩;exact f0.of_keeps λb o q _=>⟨o,hx.keeps b o q,rq⟩
 ·obtain⟨t,q,_⟩:=hx.there;exact⟨_,_,q,rq,rq,rq,rq⟩
 ·cases hq:H b with
  | none=>exact absurd hq hb
  | some v=>
   obtain⟨o1,q1⟩:=(I.hok b v hq).there;have q2:=hx.keeps b o1 q1;have q':h'.get? b=some o:=q;rw[q'] at q2;cases q2;refine hideAll_get _ q1 λhm=>?_;rw[I.Jv b hm] at hq;cases hq
end
theorem PS.nox {X:Cx} {st:Stmt} {t:TS} (h:PS X.nox st t):PS X st t:=λjb s σ H D I hw=>
 QbJ (h jb s σ H D (I.wish _) hw) (λ_ _ q=>q.Dn) λ_ _ z=>False.elim z
section
variable {M:Model} {A:Around} {E:YA} {h:Heap} {g:Array GenState} {d:Drawn} {t:Nat} {os:OsState} {K:YD} {e C HC:Addr}
end
abbrev Cx.by (X:Cx) (pn:YC) (E:YA):Cx:={ X with pn:=pn,xe:=E }
section
variable {X:Cx} {jb Oq pn:YC} {σ : St} {H:Hp} {s:Shared} {E:YA} {ev:Value}
theorem Inv.by (I:Inv X jb σ H s) (E:YA):Inv (X.by (X.pn++jb) E) [] σ H s:=
 ⟨⟨I.ok.mod,I.ok.kind,I.ok.glob,I.ok.blt,I.ok.above,I.ok.inj,I.ok.has,I.ok.cab,I.ok.hd,I.ok.frames,I.ok.stk,I.ok.exf,I.ok.bs,I.ok.bsz,I.ok.JH,I.ok.Ka,I.ok.Et,I.ok.frf⟩,I.os,I.bare,I.base,I.loc,I.cell,I.free,I.DP,
  λp hp=>I.pin p (by simpa using hp),I.hok,I.len⟩
end
def Ends.drop (D:Ends) (i:Nat):Ends where
 nx:=fun σ H=>D.nx (σ.set i none) H
 rt:=D.rt
 bk:=fun σ H=>D.bk (σ.set i none) H
 ct:=fun σ H=>D.ct (σ.set i none) H
structure Gq (k:Nat) (A:Around):Prop where
 dp:A.depth+3*k+5 < recursionLimit
 un:A.units+16*k+200 < cLine
theorem Gq.deeper {k:Nat} {A:Around} (r:Gq (k+1) A) (env:Env):Gq k (A.deeper env):=
 ⟨by have:=r.dp;show A.depth+1+3*k+5 < _;omega,by have:=r.un;show A.units+3+16*k+200 < _;omega⟩
theorem Gq.mono {j k:Nat} {A:Around} (r:Gq k A) (h:j<=k):Gq j A:=⟨by have:=r.dp;omega,by have:=r.un;omega⟩
theorem Gq.units {k:Nat} {A:Around} (r:Gq k A):A.units+64 < cLine:=by have:=r.un;omega
end L2
namespace L2
open PySem PySem.Spec PyProof.Rows PySem.SeqAt
theorem CW {c:Const} {k:Nat} {p:Pos} {es:YJ} {env:Env}:starEach (.Constant c k p::es) env=(false,eval (.Constant c k p) env)::starEach es env:=by rfl
theorem CN {as:YJ} {k:Nat} {p:Pos} {es:YJ} {env:Env}:starEach (.Tuple as k p::es) env=(false,eval (.Tuple as k p) env)::starEach es env:=by rfl
section
variable {X:Cx}
end
section
variable {prog:Program} {w:World} {A:Around} {E:YA} {s:Shared}
end
end L2
namespace L2
open PySem PySem.Spec PyProof.Rows
section
variable {X:Cx} {jb:YC} {σ : St} {H:Hp} {s:Shared} {a:Addr} {kvs:YM} {o:Obj}
end
section
variable {a l:Addr} {o:Obj} {kvs:YM} {g:TG} {tb:TS} {D:Ends} {σ : St} {H:Hp} {tt:TT} {te tk tv:TE} {Q:VK}
end
open PySem.W (KasT kas_asc kas_desc kas_rev kas_tail3 kas_descPart kas_count kas_place kas_bin kas_sort)
def Pm (n:Nat) (p:Array Nat):Prop:=p.toList.Perm (List.range n)
theorem Pm.lt {n:Nat} {p:Array Nat} (h:Pm n p) (n0:0 < n) (i:Nat):p.getD i 0 < n:=by
 by_cases hi:i < p.size
 ·have e:p.getD i 0=p[i]:=by simp[hi]
  rw[e];have hm:p[i]∈p.toList:=by simp
  exact List.mem_range.mp (h.mem_iff.mp hm)
 ·have e:p.getD i 0=0:=by simp[hi]
  rw[e];exact n0
section
variable {n:Nat} (n0:0 < n)
include n0
end
section
variable {prog:Program} {w:World} {A:Around} {E:YA} {s:Shared}
end
theorem T9 {h:Heap} {a:Addr} {m m':YB} (x:h.Ns a m) (y:h.Ns a m'):m=m':=by
 obtain⟨o,es,ep,h1,h2,_,h3⟩:=x;obtain⟨o',es',ep',g1,g2,_,g3⟩:=y;rw[h1] at g1;cases g1;rw[h2] at g2;cases g2
 funext k
 rw[<-h3,<-g3]
theorem range_getD {α : Type} (d:α) (vs:List α):(List.range vs.length).map (λi=>vs.getD i d)=vs:=by
 apply List.ext_getElem
 ·simp
 ·intro i h1 h2;simp[h2]
end L2
namespace L2
open PySem PySem.Spec PyProof.Rows
open PySem.W (KasT kas_asc kas_desc kas_rev kas_tail3 kas_descPart kas_count kas_place kas_bin kas_sort)
section
variable {n:Nat} {ky:Nat->Int}
def Gk (ky:Nat->Int) (p:Array Nat) (i:Nat):Int:=ky (p.getD i 0)
def Inj (n:Nat) (ky:Nat->Int):Prop:=∀i j,i < n->j < n->ky i=ky j->i=j
def V5 (ky:Nat->Int) (p:Array Nat) (m:Nat):Prop:=∀i,i+1 < m->Gk ky p i < Gk ky p (i+1)
def PN (ky:Nat->Int) (p:Array Nat) (m:Nat):Prop:=∀i j,i < j->j < m->Gk ky p i < Gk ky p j
theorem V5.all {p:Array Nat} {m:Nat} (h:V5 ky p m):PN ky p m:=λi j hij hj=>by
 induction j with
 | zero=>omega
 | succ j ih=>
  have h1:=h j hj;by_cases e:i=j
  ·rw[e];exact h1
  ·exact Int.lt_trans (ih (by omega) (by omega)) h1
theorem Ve {α : Type} {l:List α} (nd:l.Nodup) {i j:Nat} (hi:i < l.length) (hj:j < l.length) (e:l[i]=l[j]):i=j:=by
 rcases Nat.lt_trichotomy i j with h | h | h
 ·exact absurd e (Qag.mp nd i j hi hj h)
 ·exact h
 ·exact absurd e.symm (Qag.mp nd j i hj hi h)
theorem Pm.size {p:Array Nat} (h:Pm n p):p.size=n:=by
 have:=List.Perm.length_eq h;simpa using this
theorem Pm.ne (hi:Inj n ky) {p:Array Nat} (h:Pm n p) {i j:Nat} (a:i < n) (b:j < n) (ne:i≠j):Gk ky p i≠Gk ky p j:=λe=>by
 have n0:0 < n:=by omega
 have hs:=h.size;have e:=hi _ _ (h.lt n0 i) (h.lt n0 j) e;have nd:p.toList.Nodup:=(List.Perm.nodup_iff h).mpr List.nodup_range;have e1:p.getD i 0=p.toList[i]'(by simp[hs,a]):=by simp[hs,a]
 have e2:p.getD j 0=p.toList[j]'(by simp[hs,b]):=by simp[hs,b]
 rw[e1,e2] at e;exact ne (Ve nd _ _ e)
theorem PN.list {p:Array Nat} (h:Pm n p) (R:PN ky p n):(p.toList.map ky).Pairwise (· < ·):=by
 have hs:=h.size;rw[Qag];intro i j hi hj hij;have hi':i < n:=by simpa [hs] using hi
 have hj':j < n:=by simpa [hs] using hj
 have:=R i j hij hj';unfold Gk at this;have e1:p.getD i 0=p[i]'(by omega):=by simp[hs,hi']
 have e2:p.getD j 0=p[j]'(by omega):=by simp[hs,hj']
 rw[e1,e2] at this;simpa using this
end
section
variable {prog:Program} {w:World} {A:Around} {s:Shared}
end
end L2
namespace L2
open PySem
theorem Ql {a b:Expr} {op:Operator} {p:Pos} {es:YJ} {env:Env}:starEach (.BinOp a op b p::es) env=(false,eval (.BinOp a op b p) env)::starEach es env:=by rfl
theorem Ft {x:Str} {p:Pos} {es:YJ} {env:Env}:starEach (.Name x p::es) env=(false,eval (.Name x p) env)::starEach es env:=by rfl
end L2
namespace L2
open PySem PySem.Spec PyProof.Rows
def KD (K:YD) (P:Params) (a:Addr):Prop:=(∃es n,K.lookup a=some ⟨.type "dict",none,.dict es n,#[]⟩/\KeysLit P es.toList)/\(a == sysModules)=false
def Rq (K:YD) (P:Params):R2:=λx y H Q=>∃z a r,x=.str z/\y=.ref a/\KD K P a/\nsIn K a z=some r/\Q (.bl (!r.isSome)) H
def Ux (K:YD) (P:Params) (td ty:TE):TE:=fun σ H Q=>td σ H λx H1=>ty σ H1 λy H2=>∃z a v u,y=.str z/\x=.ref a/\KD K P a/\nsIn K a z=some (some u)/\RelV v u/\Q v H2
def Uz (mg:YB) (i:Nat) (names:YF) (sp:Str->Sp) (t:TA):TE:=fun σ H Q=>∃nm f,σ[i]?=some (some (.ref f))/\mg nm=some (.ref f)/\nm∈names/\N7 (sp nm) [] E0 t σ H Q
section
variable {X:Cx}
theorem Ov {K:YD} {P:Params} (hK:X.K=K) (hP:X.w.params=P):OpR X (compareOp .NotIn) (Rq K P):=by
 subst hK hP;intro jb s σ H x y v u Q I rx ry h;obtain⟨z,a,r,rfl,rfl,⟨⟨es,n,hl,hk⟩,lo⟩,e,q⟩:=h;obtain⟨t,rfl⟩:=rx;cases ry;refine wpAny_notIn_of (strKind_is X.prog X.w z t) lo (PySem.W.mapOf_K (prog:=X.prog) I.kIn hl hk) ?_;rw[PySem.W.find_K hl e];exact⟨.bl _,H,I.tok _,rq,q⟩
theorem Lr {K:YD} {P:Params} {o i:Expr} {pos:Pos} {td ty:TE} (hK:X.K=K) (hP:X.w.params=P) (ho:PE X o td) (hi:PE X i ty) (hs:V7 i):PE X (.Subscript o i pos) (Ux K P td ty):=by
 subst hK hP;intro jb s σ H Q I h;refine Tw PySem.F.slot_dict_getitem.lookup hs (thn (ho jb s σ H _ I h) λu s1 zz=>?_);obtain⟨x,H1,I1,rx,q1⟩:=zz;refine thn (hi jb s1 σ H1 _ I1 q1) λiv s2 ⟨y,H2,I2,ry,z,a,v,u',ey,ex,⟨⟨es,n,hl,hk⟩,lo⟩,e,rv,q2⟩=>?_;subst ex ey;obtain⟨t,rfl⟩:=ry;obtain rfl:u=Value.ref a:=rx;have M:=PySem.W.mapOf_K (prog:=X.prog) I2.kIn hl hk;exact⟨M.typeIs,wpAny_getItem_of (strKind_is X.prog X.w z t) M (PySem.W.find_K hl e) ⟨v,H2,I2.tok _,rv,q2⟩⟩
theorem U9 {k k' i:Nat} {ps:YF} {sp:Str->Sp} {names:YF} {x:Str} {p pos:Pos} {e:Expr} {es:YJ} {t:TA} (g:∀nm,nm∈names->Good X.prog X.w X.K X.mg X.base nm k ps (sp nm)) (hr:BK k' X.A) (ha:PA X (e::es) t) (hN:X.N[i]?=some x:=by rfl)
  (hk:k<=k':=by decide) (hv:Vis X.env.scope x:=by first | exact Or.inl rfl | exact Or.inr (Or.inl rfl) | exact Or.inr (Or.inr rfl)) (hd:(x == ("__debug__":Str))=false:=by decide) (hcd:(x == ("__classdict__":Str))=false:=by decide)
  (he:starEach (e::es) X.env=(false,eval e X.env)::starEach es X.env:=by rfl) (hpl:(backTo pos (starEach es X.env)).any (·.1)=false:=by rfl) :
  PE X (.Call (.Name x p) (e::es) [] pos) (Uz X.mg i names sp t):=by
 intro jb s σ H Q I h;obtain⟨nm,f,e1,e2,hin,q⟩:=h;obtain⟨f',fd,m,kp,b,F⟩:=(g nm hin).ex;rw[m] at e2;cases e2;refine QaG (thn (Qx hN hv hd hcd jb s σ H (λv H'=>v=.ref f/\H'=H) I ⟨.ref f,e1,rq,rq⟩) λu s1 zz=>?_);obtain⟨v,H1,I1,r1,e3,e4⟩:=zz;subst e3 e4;cases r1;refine PySem.W.callWith_K (h₀:=X.base) I1.ok.mod.kin kp (thn (ha pos jb s1 σ H1 _ I1 q) λus s2 zz=>?_) he hpl;obtain⟨vs,H2,I2,r,q2⟩:=zz;refine⟨I2.kIn,?_⟩;exact Qs F (hr.mono hk) b .nil Te I2 r q2
end
def PX (K:YD) (a b:Addr):It:=
  ⟨λi H=>∃xs ys x y,H a=some (.tup xs)/\H b=some (.tup ys)/\xs[i]?=some x/\ys[i]?=some y,
   λi H v H'=>∃p x y,H p=none/\v=.ref p/\H'=upd H p (.tup [x,y])/\(∀xs,H a=some (.tup xs)->xs[i]?=some x)/\∀ys,H b=some (.tup ys)->ys[i]?=some y,
   λi H=>∃xs ys,H a=some (.tup xs)/\H b=some (.tup ys)/\(xs.length<=i\/ys.length<=i)⟩
theorem NZ {P:Program} {w:World} {K:YD} {elts:YJ} {k:Nat} {pos:Pos} (a b z TI TO i1 i2:Addr) (nd:[z,TI,TO,i1,i2].Nodup) :
  Turn P w K (.Tuple elts k pos) (PX K a b) [z,TI,TO,i1,i2] z (λi h=>(∃f1,ZZ.IsZ h z TI TO .none f1)/\ZZ.Bw h TI [.ref i1,.ref i2]/\(∃olds:YE,ZZ.Bw h TO olds/\olds.length=2)/\h.IsTupleIter i1 a i/\h.IsTupleIter i2 b i) where
 mem:=by simp
 obj:=λi h st c hc=>by
  obtain⟨⟨f1,hz⟩,hTI,⟨olds,hTO,_⟩,⟨o1,e1,_,d1⟩,o2,e2,_,d2⟩:=st;simp only[Qbu,QaT,QbL] at hc;rcases hc with rfl | rfl | rfl | rfl | rfl
  ·exact⟨_,hz,λv q=>by cases (show Data.fields _=Data.cell v from q)⟩
  ·exact⟨_,hTI,λv q=>by cases (show Data.seq _ _=Data.cell v from q)⟩
  ·exact⟨_,hTO,λv q=>by cases (show Data.seq _ _=Data.cell v from q)⟩
  ·exact⟨o1,e1,λv q=>by rw[d1] at q;cases q⟩
  ·exact⟨o2,e2,λv q=>by rw[d2] at q;cases q⟩
 keep:=λi h h' st k=>by
  obtain⟨⟨f1,hz⟩,hTI,⟨olds,hTO,l⟩,h1,h2⟩:=st;exact⟨⟨f1,k z (by simp) _ hz⟩,k TI (by simp) _ hTI,⟨olds,k TO (by simp) _ hTO,l⟩,h1.at λo e=>k i1 (by simp) o e,h2.at λo e=>k i2 (by simp) o e⟩
 item:=by
  intro X hP hw hK hc i jb s σ H E I hf st hg;subst hP hw hK;obtain⟨xs,ys,x,y,hq1,hq2,hx,hy⟩:=hg;obtain⟨us,ru,p1,z1⟩:=I.tuple (SqT.of hq1);obtain⟨ws,rw',p2,z2⟩:=I.tuple (SqT.of hq2);obtain⟨u,hu,ru'⟩:=ru.get hx;obtain⟨v,hv,rv'⟩:=rw'.get hy;obtain⟨⟨f1,hz⟩,hTI,⟨olds,hTO,lo⟩,hi1,hi2⟩:=st;simp only[Qbi,Qbu,QaT,QbL,not_or,List.nodup_nil,not_false_eq_true,and_true] at nd;obtain⟨⟨n1,n2,n3,n4⟩,⟨n5,n6,n7⟩,⟨n8,n9⟩,n10⟩:=nd;have D:ZZ.Apart z TI TO [⟨i1,a,us.toArray⟩,⟨i2,b,ws.toArray⟩]:=by
   obtain⟨oa,ea,ca,_⟩:=id p1;obtain⟨ob,eb,cb,_⟩:=id p2;obtain⟨o1,e1,c1,_⟩:=id hi1;obtain⟨o2,e2,c2,_⟩:=id hi2;have aTO:a≠TO:=λq=>by
    have:=(hf TO (by simp)).1;rw[<-q,hq1] at this;cases this
   have bTO:b≠TO:=λq=>by
    have:=(hf TO (by simp)).1;rw[<-q,hq2] at this;cases this
   have t1:Value.type "tuple"≠Value.type "zip":=λq=>absurd (by injection q) (show ¬("tuple"="zip") by decide);have t2:Value.type "tuple"≠Value.type "tuple_iterator":=λq=>absurd (by injection q) (show ¬("tuple"="tuple_iterator") by decide);refine⟨Ne.symm n1,Ne.symm n2,n5,λq hq=>?_,λq hq=>?_,λq hq r hr=>?_,?_⟩
   ·simp only[Qbu,QaT,QbL] at hq;rcases hq with rfl | rfl
    ·exact⟨Ne.symm n3,Ne.symm n6,Ne.symm n8⟩
    ·exact⟨Ne.symm n4,Ne.symm n7,Ne.symm n9⟩
   ·simp only[Qbu,QaT,QbL] at hq;rcases hq with rfl | rfl
    ·exact⟨Dh ea hz (by rw[ca];exact t1),aTO⟩
    ·exact⟨Dh eb hz (by rw[cb];exact t1),bTO⟩
   ·simp only[Qbu,QaT,QbL] at hq hr;rcases hq with rfl | rfl <;> rcases hr with rfl | rfl
    ·exact Dh ea e1 (by rw[ca,c1];exact t2)
    ·exact Dh ea e2 (by rw[ca,c2];exact t2)
    ·exact Dh eb e1 (by rw[cb,c1];exact t2)
    ·exact Dh eb e2 (by rw[cb,c2];exact t2)
   ·simp[n10]
  have hat:∀q∈([⟨i1,a,us.toArray⟩,⟨i2,b,ws.toArray⟩]:List ZZ.Src),ZZ.SrcAt s.heap q i:=λq hq=>by
   simp only[Qbu,QaT,QbL] at hq;rcases hq with rfl | rfl
   ·exact .inr ⟨hi1,p1⟩
   ·exact .inr ⟨hi2,p2⟩
  refine ZZ.Om hz (Qi:=λr s'=>∃h',r=.ref s.heap.objs.size/\s'={ s with heap:=h' }/\ZZ.IsZ h' z TI TO (rawInt s.heap.objs.size) (.bool false)/\ZZ.Bw h' TI [.ref i1,.ref i2]/\ZZ.Bw h' TO [u,v]/\(∀q∈([⟨i1,a,us.toArray⟩,⟨i2,b,ws.toArray⟩]:List ZZ.Src),ZZ.SrcAt h' q (i+1))/\ZZ.Bw h' s.heap.objs.size [u,v]/\ZZ.Rest z TO [⟨i1,a,us.toArray⟩,⟨i2,b,ws.toArray⟩] s.heap h')
   (ZZ.Kv (xs:=[u,v]) D hz hTI hTO hat (by simp) rfl lo (λj q hj=>?_) (by show 2<=100;decide) λh' a1 a2 a3 a4 a5 a6 a7=>⟨h',rq,rq,a1,a2,a3,a4,a5,a7⟩) λr s' hQ=>?_
  ·match j,hj with
   | 0,hj=>cases hj;exact⟨u,rfl,by simpa using hu⟩
   | 1,hj=>cases hj;exact⟨v,rfl,by simpa using hv⟩
  obtain⟨h',rfl,rfl,a1,a2,a3,a4,a5,a7⟩:=hQ;refine⟨_,rq,ZZ.QJ (s:={ s with heap:=h' }) a1 λh2 hz2 sb=>?_⟩;have hlt2:s.heap.objs.size≠z:=QbD (QbA hz);have hT2:ZZ.Bw h2 s.heap.objs.size [u,v]:=(sb.2 _ hlt2).trans a5;have new:Bu X.prog X.w (upd H s.heap.objs.size (.tup [x,y])) h2 s.heap.objs.size (.tup [x,y]):=
   ⟨by show 2<=sizeLine;decide,[u,v],.cons ru' (.cons rv' .nil),_,hT2,rq,0,rq⟩
  have I1:=I.Qg (h':=h2) (t':=s.toks) (QbE _) (λc q hc e=>(sb.2 c (λw=>hc (by simp[w]))).trans (a7 c q (λw=>hc (by simp[w])) (λw=>hc (by simp[w])) (λw=>hc (by simp only[Qbv,List.map_nil,Qbu,QaT,QbL] at w;rcases w with w | w <;> simp[w])) e)) hf new;have Tp:∀{it l:Addr} {items:Array Value},l≠z->l≠TO->l≠i1->l≠i2->it≠z->s.heap.IsTuple l items->ZZ.SrcAt h' ⟨it,l,items⟩ (i+1)->h2.IsTupleIter it l (i+1):=λm1 m2 m3 m4 m5 hl q=>by
   rcases q with⟨_,q2⟩|⟨q1,_⟩
   ·obtain⟨o,e,r⟩:=hl;exact (Es q2 ⟨o,a7 _ o m1 m2 (by simp[m3,m4]) e,r⟩).elim
   ·exact q1.at λo e=>(sb.2 _ m5).trans e
  refine⟨.ref s.heap.objs.size,_,I1,rq,⟨s.heap.objs.size,x,y,I.hok.fresh (QbE _),rq,rq,λys' hy'=>by (rw[hq1] at hy';cases hy';exact hx),λys' hy'=>by (rw[hq2] at hy';cases hy';exact hy)⟩,⟨⟨_,hz2⟩,(sb.2 _ (Ne.symm n1)).trans a2,⟨[u,v],(sb.2 _ (Ne.symm n2)).trans a3,rq⟩,?_,?_⟩,λc hc=>?_⟩
  ·exact Tp (D.a ⟨i1,a,us.toArray⟩ (by simp)).1 (D.a ⟨i1,a,us.toArray⟩ (by simp)).2 (D.ai ⟨i1,a,us.toArray⟩ (by simp) ⟨i1,a,us.toArray⟩ (by simp)) (D.ai ⟨i1,a,us.toArray⟩ (by simp) ⟨i2,b,ws.toArray⟩ (by simp)) (Ne.symm n3) p1 (a4 _ (by simp))
  ·exact Tp (D.a ⟨i2,b,ws.toArray⟩ (by simp)).1 (D.a ⟨i2,b,ws.toArray⟩ (by simp)).2 (D.ai ⟨i2,b,ws.toArray⟩ (by simp) ⟨i1,a,us.toArray⟩ (by simp)) (D.ai ⟨i2,b,ws.toArray⟩ (by simp) ⟨i2,b,ws.toArray⟩ (by simp)) (Ne.symm n4) p2 (a4 _ (by simp))
  ·have hlc:c≠s.heap.objs.size:=by
    have hmem:∃o,s.heap.get? c=some o:=by
     simp only[Qbu,QaT,QbL] at hc;rcases hc with rfl | rfl | rfl | rfl | rfl
     ·exact⟨_,hz⟩
     ·exact⟨_,hTI⟩
     ·exact⟨_,hTO⟩
     ·obtain⟨o,e,_⟩:=hi1;exact⟨o,e⟩
     ·obtain⟨o,e,_⟩:=hi2;exact⟨o,e⟩
    obtain⟨o,e⟩:=hmem;exact QbB (QbA e)
   rw[Aw hlc];exact (hf c hc).1
 done:=by
  intro X hP hw hK hc i jb s σ H E I hf st hg;subst hP hw hK;obtain⟨xs,ys,hq1,hq2,hend⟩:=hg;obtain⟨us,ru,p1,z1⟩:=I.tuple (SqT.of hq1);obtain⟨ws,rw',p2,z2⟩:=I.tuple (SqT.of hq2);obtain⟨⟨f1,hz⟩,hTI,⟨olds,hTO,lo⟩,hi1,hi2⟩:=st;simp only[Qbi,Qbu,QaT,QbL,not_or,List.nodup_nil,not_false_eq_true,and_true] at nd;obtain⟨⟨n1,n2,n3,n4⟩,⟨n5,n6,n7⟩,⟨n8,n9⟩,n10⟩:=nd;have D:ZZ.Apart z TI TO [⟨i1,a,us.toArray⟩,⟨i2,b,ws.toArray⟩]:=by
   obtain⟨oa,ea,ca,_⟩:=id p1;obtain⟨ob,eb,cb,_⟩:=id p2;obtain⟨o1,e1,c1,_⟩:=id hi1;obtain⟨o2,e2,c2,_⟩:=id hi2;have aTO:a≠TO:=λq=>by
    have:=(hf TO (by simp)).1;rw[<-q,hq1] at this;cases this
   have bTO:b≠TO:=λq=>by
    have:=(hf TO (by simp)).1;rw[<-q,hq2] at this;cases this
   have t1:Value.type "tuple"≠Value.type "zip":=λq=>absurd (by injection q) (show ¬("tuple"="zip") by decide);have t2:Value.type "tuple"≠Value.type "tuple_iterator":=λq=>absurd (by injection q) (show ¬("tuple"="tuple_iterator") by decide);refine⟨Ne.symm n1,Ne.symm n2,n5,λq hq=>?_,λq hq=>?_,λq hq r hr=>?_,?_⟩
   ·simp only[Qbu,QaT,QbL] at hq;rcases hq with rfl | rfl
    ·exact⟨Ne.symm n3,Ne.symm n6,Ne.symm n8⟩
    ·exact⟨Ne.symm n4,Ne.symm n7,Ne.symm n9⟩
   ·simp only[Qbu,QaT,QbL] at hq;rcases hq with rfl | rfl
    ·exact⟨Dh ea hz (by rw[ca];exact t1),aTO⟩
    ·exact⟨Dh eb hz (by rw[cb];exact t1),bTO⟩
   ·simp only[Qbu,QaT,QbL] at hq hr;rcases hq with rfl | rfl <;> rcases hr with rfl | rfl
    ·exact Dh ea e1 (by rw[ca,c1];exact t2)
    ·exact Dh ea e2 (by rw[ca,c2];exact t2)
    ·exact Dh eb e1 (by rw[cb,c1];exact t2)
    ·exact Dh eb e2 (by rw[cb,c2];exact t2)
   ·simp[n10]
  have hat:∀q∈([⟨i1,a,us.toArray⟩,⟨i2,b,ws.toArray⟩]:List ZZ.Src),ZZ.SrcAt s.heap q i:=λq hq=>by
   simp only[Qbu,QaT,QbL] at hq;rcases hq with rfl | rfl
   ·exact .inr ⟨hi1,p1⟩
   ·exact .inr ⟨hi2,p2⟩
  have l1:=ru.length;have l2:=rw'.length;refine ZZ.JB hz (R:=λh'=>ZZ.Rest z TO [⟨i1,a,us.toArray⟩,⟨i2,b,ws.toArray⟩] s.heap h') (ZZ.K4 (I.ok.hd hc) D hz hTI hTO hat (by simp) lo (by show 2<=100;decide) ?_ λh' e r st=>⟨h',e,rfl,rfl,r,st⟩) λh' r=>⟨rfl,I.Tt (h':=h') (t':=s.toks) (λc q hc e=>r c q (λw=>hc (by simp[w])) (λw=>hc (by simp[w])) (λw=>hc (by simp only[Qbv,List.map_nil,Qbu,QaT,QbL] at w;rcases w with w | w <;> simp[w])) e) hf⟩;rcases hend with h | h
  ·exact⟨_,QaF ..,by simp;omega⟩
  ·exact⟨_,Qaq _ (QaF ..),by simp;omega⟩
 self:=λ_ _ _ _ _ st h=>ZZ.Jf st.1.choose_spec h
def Vn (K:YD) (ta:TA):TI:=fun σ H R=>ta σ H λvs H1=>∃a b,vs=[.ref a,.ref b]/\(∃xs,H1 a=some (.tup xs))/\(∃ys,H1 b=some (.tup ys))/\R (PX K a b) H1
section
variable {X:Cx}
theorem Iw {a b:Expr} {ta:TA} {p pos tp:Pos} {elts:YJ} {k:Nat} (hg:Gl X "zip") (hm:X.mg "zip"=none) (ha:PA X [a,b] ta)
  (hs:starEach [a,b] X.env=[(false,eval a X.env),(false,eval b X.env)]:=by rfl) (hs2:starEach [b] X.env=[(false,eval b X.env)]:=by rfl):PI X (.Tuple elts k tp) (.Call (.Name "zip" p) [a,b] [] pos) (Vn X.K ta):=by
 intro jb s σ H R I h;refine Call_ (Fi I hg hm (u:=.type "zip") (by trivial) (Qac (thn (ha pos jb s σ H _ I h) λus s1 ⟨vs,H1,I1,r1,q1⟩=>?_) (by rw[hs,hs2]) (by rw[hs2];rfl)));obtain⟨a,b,e,⟨xs,hx⟩,⟨ys,hy⟩,q⟩:=q1;subst e;cases r1 with
 | cons r rr=>
  cases rr with
  | cons r' rr=>
   cases rr;cases r;cases r';obtain⟨us,ru,k1,z1⟩:=I1.tuple (SqT.of hx);obtain⟨ws,rw',k2,z2⟩:=I1.tuple (SqT.of hy);refine ZZ.Q8 (c1:="tuple_iterator") (c2:="tuple_iterator") (.inr ⟨rq,k1⟩) (.inr ⟨rq,k2⟩) λh' z TI TO i1 i2 f=>?_;refine ZZ.Jf (s:={ s1 with heap:=h' }) f.hz ?_;have nd:[z,TI,TO,i1,i2].Nodup:=by
    have a1:=f.ap.it ⟨i1,a,us.toArray⟩ (by simp);have a2:=f.ap.it ⟨i2,b,ws.toArray⟩ (by simp);have a3:i1≠i2:=by
     have:=f.ap.nd;simpa using this
    simp only[Qbi,Qbu,QaT,QbL,not_or,List.nodup_nil,not_false_eq_true,and_true];exact⟨⟨Ne.symm f.ap.TIz,Ne.symm f.ap.TOz,Ne.symm a1.1,Ne.symm a2.1⟩,⟨f.ap.TITO,Ne.symm a1.2.1,Ne.symm a2.2.1⟩,⟨Ne.symm a1.2.2,Ne.symm a2.2.2⟩,a3⟩
   have at1:h'.IsTupleIter i1 a 0:=by
    rcases f.at_ ⟨i1,a,us.toArray⟩ (by simp) with⟨_,x2⟩|⟨x1,_⟩
    ·obtain⟨o,e,r⟩:=id k1;exact (Es x2 ⟨o,f.keep _ o e,r⟩).elim
    ·exact x1
   have at2:h'.IsTupleIter i2 b 0:=by
    rcases f.at_ ⟨i2,b,ws.toArray⟩ (by simp) with⟨_,x2⟩|⟨x1,_⟩
    ·obtain⟨o,e,r⟩:=id k2;exact (Es x2 ⟨o,f.keep _ o e,r⟩).elim
    ·exact x1
   refine⟨z,[z,TI,TO,i1,i2],_,_,H1,rq,I1.kept (t':=s1.toks) λc o e=>f.keep c o e,NZ a b z TI TO i1 i2 nd,⟨⟨_,f.hz⟩,f.hTI,⟨_,f.hTO,rq⟩,at1,at2⟩,λc hc=>?_,q⟩;have hn:=f.new;have hcs:s1.heap.objs.size<=c:=by
    simp only[Qbu,QaT,QbL] at hc;rcases hc with rfl | rfl | rfl | rfl | rfl
    ·exact hn.1
    ·exact hn.2.1
    ·exact hn.2.2.1
    ·exact hn.2.2.2 ⟨c,a,us.toArray⟩ (by simp)
    ·exact hn.2.2.2 ⟨c,b,ws.toArray⟩ (by simp)
   exact I1.Pr hcs (I1.hok.fresh hcs)
end
theorem Hj {K:YD} {a b l:Addr} {xs ys:YG} {g:TG} {tt:TT} {te:TE} {Q:VK} {σ0:St} {H0:Hp} (n:Nat) (hx:n<=xs.length) (hy:n<=ys.length) (hn:xs.length<=n\/ys.length<=n) (Pv:YN)
  (h0:Pv 0 σ0 H0) (hl:∀i σ H',i<=n->Pv i σ H'->H' a=some (.tup xs)/\H' b=some (.tup ys))
  (hs:∀i x y p σ H',xs[i]?=some x->ys[i]?=some y->Pv i σ H'->H' p=none->g (.ref p) σ (upd H' p (.tup [x,y])) fun σ3 H3=>tt σ3 H3 λb H4=>if b=true then te σ3 H4 λy H5=>∃ys,H5 l=some (.lst ys)/\ys.length < sizeLine/\Pv (i+1) σ3 (upd H5 l (.lst (ys++[y]))) else Pv (i+1) σ3 H4)
  (hd:∀ σ H',Pv n σ H'->Q (.ref l) H'):Gu (PX K a b) g tt te Q σ0 H0 l:=by
 unfold Gu;refine⟨λi m σ H'=>m=n - i/\i<=n/\Pv i σ H',⟨n,by simp,QbF _,h0⟩,?_⟩;rintro i m σ H' ⟨rfl,hi,p⟩;obtain⟨q1,q2⟩:=hl i σ H' hi p;by_cases hlt:i < n
 ·have hlt1:i < xs.length:=by omega
  have hlt2:i < ys.length:=by omega
  refine .inr ⟨⟨xs,ys,xs[i],ys[i],q1,q2,Qah hlt1,Qah hlt2⟩,Pv (i+1),fun σ3 H3 p'=>⟨n - (i+1),by omega,rq,hlt,p'⟩,λv H2 y=>?_⟩;obtain⟨pp,x',y',hp,rfl,rfl,e1,e2⟩:=y;exact hs i x' y' pp σ _ (e1 xs q1) (e2 ys q2) p hp
 ·exact .inl ⟨⟨xs,ys,q1,q2,by omega⟩,by
   have:i=n:=by omega
   subst this;exact hd _ _ p⟩
section
variable {prog:Program} {w:World} {A:Around} {E:YA} {s:Shared}
end
section
variable {X:Cx} {o e f:Expr} {apos cpos:Pos} {td ty tx:TE}
end
def tC1 (sp:Sp) (t0:TE):TE:=fun σ H Q=>t0 σ H λv0 H0=>sp [v0] H0 Q E0
def tC2 (sp:Sp) (t0 t1:TE):TE:=fun σ H Q=>t0 σ H λv0 H0=>t1 σ H0 λv1 H1=>sp [v0,v1] H1 Q E0
def tC3 (sp:Sp) (t0 t1 t2:TE):TE:=fun σ H Q=>t0 σ H λv0 H0=>t1 σ H0 λv1 H1=>t2 σ H1 λv2 H2=>sp [v0,v1,v2] H2 Q E0
def tC4 (sp:Sp) (t0 t1 t2 t3:TE):TE:=fun σ H Q=>t0 σ H λv0 H0=>t1 σ H0 λv1 H1=>t2 σ H1 λv2 H2=>t3 σ H2 λv3 H3=>sp [v0,v1,v2,v3] H3 Q E0
def tC5 (sp:Sp) (t0 t1 t2 t3 t4:TE):TE:=fun σ H Q=>t0 σ H λv0 H0=>t1 σ H0 λv1 H1=>t2 σ H1 λv2 H2=>t3 σ H2 λv3 H3=>t4 σ H3 λv4 H4=>sp [v0,v1,v2,v3,v4] H4 Q E0
section
variable {X:Cx} {pl:Sem Bool} {k k':Nat} {C:Addr} {ps:YF} {sp:Sp} {x m:Str} {p apos pos:Pos} {o e0 e1 e2 e3 e4 e5:Expr} {ta t0 t1 t2 t3 t4 t5:TE}
theorem Lx (g:Good X.prog X.w X.K X.mg X.base x k ps sp) (hr:BK k' X.A) (ha:PA X [e0] (CK t0 Ju)) (hk:k<=k':=by decide) (hg:Gl X x:=by rfl) (hdb:(x == ("__debug__":Str))=false:=by decide) (he:starEach [e0] X.env=(false,eval e0 X.env)::starEach [] X.env:=by rfl) (hpl:(backTo pos (starEach [] X.env)).any (·.1)=false:=by rfl):PE X (.Call (.Name x p) [e0] [] pos) (tC1 sp t0):=Ji g hr ha hk hg hdb he hpl
theorem Ce (g:Good X.prog X.w X.K X.mg X.base x k ps sp) (hr:BK k' X.A) (ha:PA X [e0,e1] (CK t0 (CK t1 Ju))) (hk:k<=k':=by decide) (hg:Gl X x:=by rfl) (hdb:(x == ("__debug__":Str))=false:=by decide) (he:starEach [e0,e1] X.env=(false,eval e0 X.env)::starEach [e1] X.env:=by rfl) (hpl:(backTo pos (starEach [e1] X.env)).any (·.1)=false:=by rfl):PE X (.Call (.Name x p) [e0,e1] [] pos) (tC2 sp t0 t1):=Ji g hr ha hk hg hdb he hpl
theorem Dr (g:Good X.prog X.w X.K X.mg X.base x k ps sp) (hr:BK k' X.A) (ha:PA X [e0,e1,e2] (CK t0 (CK t1 (CK t2 Ju)))) (hk:k<=k':=by decide) (hg:Gl X x:=by rfl) (hdb:(x == ("__debug__":Str))=false:=by decide) (he:starEach [e0,e1,e2] X.env=(false,eval e0 X.env)::starEach [e1,e2] X.env:=by rfl) (hpl:(backTo pos (starEach [e1,e2] X.env)).any (·.1)=false:=by rfl):PE X (.Call (.Name x p) [e0,e1,e2] [] pos) (tC3 sp t0 t1 t2):=Ji g hr ha hk hg hdb he hpl
theorem Qz (g:Good X.prog X.w X.K X.mg X.base x k ps sp) (hr:BK k' X.A) (ha:PA X [e0,e1,e2,e3] (CK t0 (CK t1 (CK t2 (CK t3 Ju))))) (hk:k<=k':=by decide) (hg:Gl X x:=by rfl) (hdb:(x == ("__debug__":Str))=false:=by decide) (he:starEach [e0,e1,e2,e3] X.env=(false,eval e0 X.env)::starEach [e1,e2,e3] X.env:=by rfl) (hpl:(backTo pos (starEach [e1,e2,e3] X.env)).any (·.1)=false:=by rfl):PE X (.Call (.Name x p) [e0,e1,e2,e3] [] pos) (tC4 sp t0 t1 t2 t3):=Ji g hr ha hk hg hdb he hpl
theorem Qy (g:Good X.prog X.w X.K X.mg X.base x k ps sp) (hr:BK k' X.A) (ha:PA X [e0,e1,e2,e3,e4] (CK t0 (CK t1 (CK t2 (CK t3 (CK t4 Ju)))))) (hk:k<=k':=by decide) (hg:Gl X x:=by rfl) (hdb:(x == ("__debug__":Str))=false:=by decide) (he:starEach [e0,e1,e2,e3,e4] X.env=(false,eval e0 X.env)::starEach [e1,e2,e3,e4] X.env:=by rfl) (hpl:(backTo pos (starEach [e1,e2,e3,e4] X.env)).any (·.1)=false:=by rfl):PE X (.Call (.Name x p) [e0,e1,e2,e3,e4] [] pos) (tC5 sp t0 t1 t2 t3 t4):=Ji g hr ha hk hg hdb he hpl
end
open PySem.W (KasT kas_asc kas_desc kas_rev kas_tail3 kas_descPart kas_count kas_place kas_bin kas_sort)
section
variable {prog:Program} {w:World} {A:Around} {s:Shared}
end
theorem Oh {X:Cx} {jb:YC} {σ : St} {H:Hp} {s:Shared} {h2:Heap} {tk:Nat} {m:YB} {D:Addr} {c:Nat} {vs:YG} {its:YE} (I:Inv X jb σ H s) (hn:s.heap.Ns X.env.locals m) (hn2:h2.Ns X.env.locals m) (kp2:∀b o,b≠X.env.locals->s.heap.get? b=some o->h2.get? b=some o) (nD:∀b o,s.heap.get? b=some o->b≠D)
  (oD:h2.get? D=some (seqObj "list" its.toArray c)) (rv:Vals vs its) (h64:vs.length < 64):H D=none/\Inv X jb σ (upd H D (.lst vs)) { s with heap:=h2,toks:=tk }:=by
 have hDn:H D=none:=by
  cases e:H D with
  | none=>rfl
  | some v=>
   obtain⟨o,ho⟩:=(I.hok D v e).there;exact absurd rfl (nD D o ho)
 refine⟨hDn,?_⟩;have tr:∀(o:HO) b u,H b=some u->(upd H D o) b=some u:=λo b u e=>by rw[Aw (Bt e hDn)];exact e
 refine I.step (h':=h2) (g':=s.gens) (d':=s.drawn) (t':=tk) (ch:=[]) (λb hb=>absurd hb (by simp)) (λb u hb _ _ e _=>kp2 b u hb e) (λb u hb _ _ e _=>⟨u.slots,kp2 b u hb e⟩) (λb u _ e n=>by rw[Aw (nD b u e)];exact n)
  (λb u _ e=>?_) (λb ys e=>tr _ _ _ e) (λb u v e=>tr _ _ _ e) (λb ps e=>⟨#[],by rw[tr _ _ _ e];simp⟩) (λm' hm'=>by rw[T9 hm' hn];exact hn2) (λb u e=>?_) I.bare
 ·by_cases hb:b=X.env.locals
  ·obtain⟨o,_,_,ho,_⟩:=hn2;exact⟨o,by rw[hb];exact ho⟩
  ·exact⟨u,kp2 b u hb e⟩
 ·by_cases hb:b=D
  ·subst hb;rw[Ac] at e;cases e;exact⟨Nat.le_of_lt (Bx (by omega)),_,c,rv,oD⟩
  ·rw[Aw hb] at e;refine (I.hok b u e).stay (λx v hx e1=>kp2 x v ?_ e1) (λx e1=>tr _ _ _ e1) λx ys e1=>tr _ _ _ e1;intro z;rcases hx with hx | hx
   ·rw[<-hx,z,I.free] at e;cases e
   ·rw[z,I.free] at hx;cases hx
end L2
namespace L2
open PySem PySem.Spec PyProof.Rows
theorem Jb {α β : Type} {F:α->β->Prop}:∀{l l':List α} {m m':List β},Paired F l m->Paired F l' m'->Paired F (l++l') (m++m')
 | _,_,_,_,.nil,h=>h
 | _,_,_,_,.cons a t,h=>.cons a (Jb t h)
section
variable {X:Cx} {o e f:Expr} {apos cpos:Pos} {td ty tx:TE}
end
section
variable {prog:Program} {w:World} {A:Around} {E:YA} {s:Shared}
end
theorem Ja (xs:Array Nat) (j:Nat) (up:xs.toList.Pairwise (· < ·)):∀(f lo hi:Nat),hi - lo<=f->lo<=hi->hi<=xs.size->(∀i v,xs[i]?=some v->i < lo->v < j)->(∀i v,xs[i]?=some v->hi<=i->j<=v) ->
  ∃r,SetTable.below.go xs j f lo hi=r/\r<=xs.size/\(∀i v,xs[i]?=some v->i < r->v < j)/\(∀i v,xs[i]?=some v->r<=i->j<=v)
 | 0,lo,hi,h1,h2,h3,h4,h5=>⟨lo,rfl,by omega,h4,λi v e h=>h5 i v e (by omega)⟩
 | f+1,lo,hi,h1,h2,h3,h4,h5=>by
  unfold SetTable.below.go;by_cases c:lo < hi
  ·rw[if_pos c];dsimp only;have hm:(lo+hi) / 2 < xs.size:=by omega
   have em:xs[(lo+hi) / 2]?=some xs[(lo+hi) / 2]:=Qae hm;have eg:xs.getD ((lo+hi) / 2) j=xs[(lo+hi) / 2]:=by simp[Array.getD,hm]
   have mono:∀(a b:Nat) (u v:Nat),xs[a]?=some u->xs[b]?=some v->a < b->u < v:=λa b u v ea eb l=>by
    rw[<-Qal] at ea eb;obtain⟨ha,rfl⟩:=Qad.mp ea;obtain⟨hb,rfl⟩:=Qad.mp eb;exact Qag.mp up a b ha hb l
   rw[eg];by_cases d:xs[(lo+hi) / 2] < j
   ·rw[if_pos d];refine Ja xs j up f _ hi (by omega) (by omega) h3 (λi v e l=>?_) h5;by_cases q:i=(lo+hi) / 2
    ·subst q;rw[em] at e;cases e;exact d
    ·exact Nat.lt_trans (mono i _ v _ e em (by omega)) d
   ·rw[if_neg d];refine Ja xs j up f lo _ (by omega) (by omega) (by omega) h4 (λi v e l=>?_);by_cases q:i=(lo+hi) / 2
    ·subst q;rw[em] at e;cases e;exact Nat.le_of_not_lt d
    ·exact QbC (Nat.le_of_not_lt d) (Nat.le_of_lt (mono _ i _ v em e (by omega)))
  ·rw[if_neg c];exact⟨lo,rq,by omega,h4,λi v e h=>h5 i v e (by omega)⟩
theorem below_at {xs:Array Nat} {j:Nat} (up:xs.toList.Pairwise (· < ·)):SetTable.below xs j<=xs.size/\(∀i v,xs[i]?=some v->i < SetTable.below xs j->v < j)/\(∀i v,xs[i]?=some v->SetTable.below xs j<=i->j<=v):=by
 obtain⟨r,e,h⟩:=Ja xs j up xs.size 0 xs.size (by omega) (by omega) (QbE _) (λi v _ h=>absurd h (Nat.not_lt_zero _)) (λi v e h=>absurd (Array.getElem?_eq_some_iff.mp e).1 (by omega));have e':SetTable.below xs j=r:=e;rw[e'];exact h
def TOk (b:Bool) (t:SetTable):Prop:=t.led=b/\t.dummies=#[]/\(t.plain=true->t.place.toList.Pairwise (· < ·))
theorem TOk.fresh0 (b:Bool):TOk b (.fresh 0 0 b):=⟨rfl,rfl,λ_=>List.Pairwise.nil⟩
theorem TOk.stand {b:Bool} {t:SetTable} (h:TOk b t) (n:Nat):TOk b (t.standIn n):=⟨h.1,rfl,λz=>by cases z⟩
theorem TOk.off {b:Bool} {t:SetTable} (h:TOk b t):TOk b { t with plain:=false }:=⟨h.1,h.2.1,λz=>by cases z⟩
theorem Jg {t:SetTable} {b:Bool} (h:TOk b t) (ha:Nat->Int) (x:Int):∀(f:Nat) (p:SetTable.Probe),p.dummy=none->∀j d,SetTable.probe.go t ha x f p=some (.empty j d)->d=none/\t.slot j=.empty
 | 0,p,_,j,d,e=>by simp[SetTable.probe.go] at e
 | f+1,p,pd,j,d,e=>by
  unfold SetTable.probe.go at e;have adv:∀q:SetTable.Probe,q.dummy=none->(t.advance q).dummy=none:=λq hq=>by unfold SetTable.advance;split <;> exact hq
  split at e
  ·rename_i hs;cases e;exact⟨pd,hs⟩
  ·rename_i hs;exfalso;unfold SetTable.slot at hs;dsimp only at hs;rw[h.2.1] at hs;split at hs
   ·cases hs
   ·split at hs
    ·rename_i hh;simp[SetTable.has] at hh
    ·cases hs
  ·split at e
   ·cases e
   ·exact Jg h ha x f _ (adv p pd) j d e
theorem QW {xs:Array Nat} {j:Nat} (up:xs.toList.Pairwise (· < ·)) (ne:xs[SetTable.below xs j]?≠some j):(SetTable.insertAt xs (SetTable.below xs j) j).toList.Pairwise (· < ·):=by
 obtain⟨h1,h2,h3⟩:=below_at (j:=j) up;rw[SetTable.toList_insertAt];refine List.pairwise_append.mpr ⟨up.sublist (List.take_sublist _ _),List.pairwise_cons.mpr ⟨λv hv=>?_,up.sublist (List.drop_sublist _ _)⟩,λu hu v hv=>?_⟩
 ·obtain⟨i,hi⟩:=Qar hv;rw[List.getElem?_drop,Qal] at hi;have q:=h3 _ v hi (Nat.le_add_right _ _);by_cases c:j=v
  ·subst c;by_cases z:i=0
   ·subst z;exact absurd hi ne
   ·exfalso;have hl:SetTable.below xs j < xs.size:=by have:=(Array.getElem?_eq_some_iff.mp hi).1;omega
    have e0:xs[SetTable.below xs j]?=some xs[SetTable.below xs j]:=Qae hl;have q0:=h3 _ _ e0 (QbE _);rw[<-Qal] at e0 hi;obtain⟨a1,a2⟩:=Qad.mp e0;obtain⟨b1,b2⟩:=Qad.mp hi;have:=Qag.mp up _ _ a1 b1 (by omega);omega
  ·omega
 ·obtain⟨i,hi⟩:=Qar hu;have hil:i < SetTable.below xs j:=by
   have:=(Qad.mp hi).1;rw[QaV] at this;omega
  rw[List.getElem?_take_of_lt hil,Qal] at hi;have uj:=h2 i u hi hil;rcases Qbu.mp hv with rfl | hv
  ·exact uj
  ·obtain⟨k,hk⟩:=Qar hv;rw[List.getElem?_drop,Qal] at hk;exact QaB uj (h3 _ v hk (Nat.le_add_right _ _))
theorem TOk.Qt {b:Bool} {t:SetTable} (h:TOk b t) {j:Nat} (e:t.slot j=.empty):TOk b (t.put j).1:=by
 refine⟨h.1,?_,λpl=>?_⟩
 ·show (if SetTable.has t.dummies j=true then SetTable.eraseAt t.dummies (SetTable.below t.dummies j) else t.dummies)=#[]
  rw[h.2.1];have:SetTable.has (#[]:Array Nat) j=false:=by simp[SetTable.has]
  rw[this];rfl
 ·refine QW (h.2.2 pl) λz=>?_;unfold SetTable.slot at e;dsimp only at e;rw[z] at e;simp at e
theorem TOk.lay {b:Bool} {t:SetTable} (h:TOk b t) (es:Array (Int×Value)) (k:Int) (x:Value):TOk b (layNew t es k x).2.1:=by
 unfold layNew;split
 ·rename_i slot wd hf;dsimp only;have key:t.slot slot=.empty:=by
   unfold SetTable.freeSlot at hf;split at hf
   ·rename_i j d hp;obtain⟨rfl,hs⟩:=Jg h _ _ _ _ rfl j d hp;cases hf;exact hs
   ·cases hf
  unfold SetTable.orStandIn;split
  ·exact h.Qt key
  ·exact (h.Qt key).stand _
 ·exact h.stand _
theorem TOk.Wm {b:Bool} {t:SetTable} (h:TOk b t) (es:Array (Int×Value)) (n:Nat):TOk b (relayAll t es n).2.1:=by
 unfold relayAll;split
 ·rename_i t' order hr;dsimp only;split
  ·dsimp only;unfold SetTable.relaid SetTable.laid at hr;rw[Option.bind_eq_bind] at hr;obtain⟨owner,_,e⟩:=Option.bind_eq_some_iff.mp hr;have e':=Qbf e;cases e';refine⟨h.1,rq,λ_=>?_⟩;dsimp only;have:∀(l:List Nat) (g:Nat->Option (Nat×Nat)),(∀j p,g j=some p->p.1=j)->((l.filterMap g).map (·.1)).Sublist l:=by
    intro l g hg
    induction l with
    | nil=>exact .slnil
    | cons a l ih=>
     rw[List.filterMap_cons];split
     ·exact ih.cons _
     ·rename_i p hp;rw[Qbv,hg a p hp];exact ih.cons₂ _
   refine List.Pairwise.sublist (this _ _ λj p hp=>?_) List.pairwise_lt_range;obtain⟨v,_,rfl⟩:=Qak.mp hp;rfl
  ·exact h.stand _
 ·exact h.stand _
section
variable {prog:Program} {w:World} {KT:Type} [DecidableEq KT] (kn:KeyKind prog w KT)
def SetT (b:Bool) (h:Heap) (a:Addr) (S:KT->Bool) (n:Nat):Prop:=
 ∃ob es ep t,(h.get? a=some ob/\ob.ExactSet/\ob.data=.set es ep t)/\(ElemsOf kn es.toList/\∀k,S k=true ↔ ∃e∈es.toList,kn.is k e.2=true)/\(es.size < scanBound/\t.fits es.size=true/\es.size=n)/\TOk b t
variable {kn}
variable {A:Around} {E:YA} {s:Shared}
theorem SetT.at {b:Bool} {h h':Heap} {a:Addr} {S:KT->Bool} {n:Nat} (z:SetT kn b h a S n) (k:∀o,h.get? a=some o->h'.get? a=some o):SetT kn b h' a S n:=
 let ⟨ob,es,ep,t,⟨g1,g2⟩,g3⟩:=z
 ⟨ob,es,ep,t,⟨k _ g1,g2⟩,g3⟩
theorem SetT.stored {b:Bool} {h:Heap} {a:Addr} {ob:Obj} {es:Array (Int×Value)} {ep:Nat} {t:SetTable} (g1:h.get? a=some ob) (g2:ob.ExactSet) (g3:ob.data=.set es ep t)
  {es':Array (Int×Value)} {t':SetTable} {S':KT->Bool} (k1:ElemsOf kn es'.toList) (k2:∀k,S' k=true ↔ ∃e∈es'.toList,kn.is k e.2=true) (k3:es'.size < scanBound) (k4:t'.fits es'.size=true) (k5:TOk b t') :
  (h.update a (Obj.putSet es' t')).get? a=some { ob with data:=.set es' (ep+1) t' }/\SetT kn b (h.update a (Obj.putSet es' t')) a S' es'.size:=by
 obtain⟨q,_⟩:=SetOf_store (knd:=kn) g1 g2 g3 k1 k2 k3 k4;exact⟨q,_,es',ep+1,t',⟨q,g2,rq⟩,⟨k1,k2⟩,⟨k3,k4,rq⟩,k5⟩
theorem Ku {b:Bool} {g:Bool->Sem Unit} (hg:∀(c:Bool) (s₁ : Shared) (Z:YH),Z () s₁->wpAny (model prog w) A (g c) Z E s₁)
  {a:Addr} {ob:Obj} {es:Array (Int×Value)} {ep:Nat} {t:SetTable} (g1:s.heap.get? a=some ob) (g2:ob.ExactSet) (g3:ob.data=.set es ep t)
  {es1:Array (Int×Value)} {t1:SetTable} {S':KT->Bool} (k1:ElemsOf kn es1.toList) (k2:∀k,S' k=true ↔ ∃e∈es1.toList,kn.is k e.2=true) (k3:es1.size < scanBound) (k4:t1.fits es1.size=true) (k5:TOk b t1) {wd:Bool} {R:Option Bool->Shared->Prop}
  (h:∀h',Heap.SameBut a s.heap h'->SetT kn b h' a S' es1.size->R (some true) { s with heap:=h' }) :
  wpAny (model prog w) A (do
    storeSet a es1 t1
    if (!wd&&t1.tooFull)=true then do
      g (relayAll t1 es1 (SetTable.grown es1.size)).2.2
      storeSet a (relayAll t1 es1 (SetTable.grown es1.size)).1 (relayAll t1 es1 (SetTable.grown es1.size)).2.1
      pure (some true)
     else pure (some true)) R E s:=by
 refine QbH (wpAny_storeSet_of g1 g3 ?_ (fits_of_scanBound k3));obtain⟨o1,z1⟩:=SetT.stored g1 g2 g3 k1 k2 k3 k4 k5;have m1:=Qav s.heap a (Obj.putSet es1 t1);split
 ·have pm:=relayAll_perm t1 es1 (SetTable.grown es1.size);have ft:=relayAll_fits t1 es1 (SetTable.grown es1.size);have tk:=k5.Wm es1 (SetTable.grown es1.size);generalize relayAll t1 es1 (SetTable.grown es1.size)=RL at pm ft tk ⊢;obtain⟨es2,t2,gv⟩:=RL;dsimp only at pm ft tk ⊢;have l1:ElemsOf kn es2.toList:=k1.perm pm;have l2:∀k,S' k=true ↔ ∃e∈es2.toList,kn.is k e.2=true:=λk=>(k2 k).trans ⟨λ⟨e,he,q⟩=>⟨e,pm.mem_iff.mpr he,q⟩,λ⟨e,he,q⟩=>⟨e,pm.mem_iff.mp he,q⟩⟩;have sz:es2.size=es1.size:=by rw[<-Qau,pm.length_eq,Qau]
  have l3:es2.size < scanBound:=sz ▸ k3;refine QbH (hg gv _ _ ?_);refine QbH (wpAny_storeSet_of o1 rfl ?_ (fits_of_scanBound l3));obtain⟨_,z2⟩:=SetT.stored o1 g2 rfl l1 l2 l3 ft tk;exact QbI (h _ (m1.trans (Qav _ a _)) (sz ▸ z2))
 ·exact QbI (h _ m1 z1)
theorem aj {b:Bool} {a:Addr} {S:KT->Bool} {n:Nat} {k:KT} {x:Value} {Q:Bool->Shared->Prop} (kx:kn.is k x=true) (sx:x.scannable=true) (z:SetT kn b s.heap a S n) (room:n+1 < scanBound)
  (h:∀h',Heap.SameBut a s.heap h'->SetT kn b h' a (λk'=>S k' || decide (k'=k)) (if S k then n else n+1)->Q (!S k) { s with heap:=h' }) :
  wpAny (model prog w) A (setAddHashed a x (kn.hash k)) Q E s:=by
 obtain⟨ob,es,ep,t,⟨g1,g2,g3⟩,⟨c1,c2⟩,⟨c3,c4,rfl⟩,c5⟩:=z;unfold setAddHashed setAddHashedIn;refine Qbx (QbH (QaM g1 g3 c4 ?_));dsimp only;rw[byScan_of sx c3 c1];simp only[↓reduceIte];unfold setAddByScan;refine QbH (QbH (QbK (QbH (wpAny_setScan_of kx g1 g3 c4 c1 ?_))));cases fnd:es.toList.findIdx? (λe=>kn.is k e.2) with
 | some i=>
  dsimp only;obtain⟨hi,pi,_⟩:=List.findIdx?_eq_some_iff_getElem.mp fnd;have Sk:S k=true:=(c2 k).mpr ⟨es.toList[i],List.getElem_mem hi,pi⟩;refine QbI (QbI ?_);have u:=h s.heap (Heap.SameBut.refl a s.heap) ⟨ob,es,ep,t,⟨g1,g2,g3⟩,⟨c1,λk'=>by
   rw[Bool.or_eq_true,decide_eq_true_eq,<-c2 k'];exact⟨λq=>q.elim id λe=>e ▸ Sk,.inl⟩⟩,⟨c3,c4,by rw[Sk];rfl⟩,c5⟩
  rw[Sk] at u;obtain⟨_,_,_,_,_⟩:=s;exact u
 | none=>
  dsimp only;have Sk:S k=false:=Bool.eq_false_iff.mpr λq=>by
   obtain⟨e,he,p⟩:=(c2 k).mp q;have:=List.findIdx?_eq_none_iff.mp fnd e he;rw[p] at this;cases this
  have gw:∀(c:Bool) {s₁ : Shared} {Z:YH},Z () s₁->wpAny (model prog w) A (match c with | true=>rule "set.scan.the-table-gave-way" | false=>pure ()) Z E s₁:=λc s₁ Z q=>by cases c <;> first | exact QbI q | exact QbK q
  have pm:=layNew_perm t es (kn.hash k) x;have ft:=layNew_fits t es (kn.hash k) x;have tk:=c5.lay es (kn.hash k) x;generalize layNew t es (kn.hash k) x=LN at pm ft tk ⊢;obtain⟨es1,t1,wd,gv⟩:=LN;dsimp only at pm ft tk ⊢;rw[Array.toList_push] at pm;have d1:ElemsOf kn es1.toList:=(c1.push kx sx).perm pm;have d2:∀k',(S k' || decide (k'=k))=true ↔ ∃e∈es1.toList,kn.is k' e.2=true:=mem_push_iff kx c2 pm;have sz:es1.size=es.size+1:=by rw[<-Qau,pm.length_eq,Qax,Qau];rfl
  have d3:es1.size < scanBound:=by rw[sz];exact room
  have fin:∀h',Heap.SameBut a s.heap h'->SetT kn b h' a (λk'=>S k' || decide (k'=k)) es1.size->Q true { s with heap:=h' }:=λh' m z=>by
   have u:=h h' m;rw[Sk] at u;exact u (sz ▸ z)
  refine QbH (gw gv ?_);split
  ·refine QbH ?_;rw[hashByValue_scannable 8 sx];refine QbI ?_;refine Ku ?_ g1 g2 g3 d1 d2 d3 ?_ (b:=b) ?_ ?_
   ·intro c s₁ Z q;cases c <;> first | exact QbI q | exact QbK q
   ·split
    ·exact ft
    ·exact SetTable.fits_plain_off ft
   ·split
    ·exact tk
    ·exact tk.off
   ·intro h' m z;dsimp only;exact QbI (fin h' m z)
  ·refine QbH (QbI ?_);simp only[↓reduceIte];refine Ku ?_ g1 g2 g3 d1 d2 d3 ft tk ?_
   ·intro c s₁ Z q;cases c <;> first | exact QbI q | exact QbK q
   ·intro h' m z;dsimp only;exact QbI (fin h' m z)
end
def met {KT:Type} [DecidableEq KT] (val:Nat->KT):Nat->List KT
 | 0=>[]
 | i+1=>if val i∈met val i then met val i else met val i++[val i]
section
variable {KT:Type} [DecidableEq KT]
theorem RN (val:Nat->KT) (i:Nat):met val (i+1)=if val i∈met val i then met val i else met val i++[val i]:=rfl
theorem JN (val:Nat->KT):∀i,(met val i).length<=i
 | 0=>QbE _
 | i+1=>by
  have ih:=JN val i;unfold met;split
  ·omega
  ·rw[Qax];exact Nat.succ_le_succ ih
theorem Ma (val:Nat->KT):∀i,(met val i).Nodup
 | 0=>List.Pairwise.nil
 | i+1=>by
  unfold met;split
  ·exact Ma val i
  ·rename_i h;exact List.nodup_append.mpr ⟨Ma val i,by simp,λx hx y hy z=>by rw[QaC.mp hy] at z;exact h (z ▸ hx)⟩
theorem JM (val:Nat->KT) (k:KT):∀i,k∈met val i ↔ ∃j,j < i/\val j=k
 | 0=>⟨(λh=>by cases h),λ⟨j,h,_⟩=>absurd h (Nat.not_lt_zero _)⟩
 | i+1=>by
  have ih:=JM val k i;unfold met;split
  ·rename_i h;rw[ih];constructor
   ·refine λzz=>?_;obtain⟨j,h,e⟩:=zz;exact⟨j,QaL h,e⟩
   ·intro ⟨j,hj,e⟩;by_cases c:j=i
    ·subst c;subst e;exact (JM val _ j).mp h
    ·exact⟨j,by omega,e⟩
  ·rw[Qbh,QaC,ih];constructor
   ·rintro (⟨j,h,e⟩| e)
    ·exact⟨j,QaL h,e⟩
    ·exact⟨i,QaW _,e.symm⟩
   ·intro ⟨j,hj,e⟩;by_cases c:j=i
    ·subst c;exact .inr e.symm
    ·exact .inl ⟨j,by omega,e⟩
end
section
variable {prog:Program} {w:World} {KT:Type} [DecidableEq KT] {kn:KeyKind prog w KT} {A:Around} {E:YA} {s:Shared}
theorem SetT.Z0 {b:Bool} {h:Heap} {a:Addr} {S S':KT->Bool} {n n':Nat} (z:SetT kn b h a S n) (e:∀k,S k=S' k) (en:n=n'):SetT kn b h a S' n':=by
 have:S=S':=funext e;rw[<-this,<-en];exact z
theorem Qo {R:Result->Shared->Prop} {I:Addr} {fp wr:List Addr} {G:Array GenState->Array GenState->Prop} {n:Nat} {P:Nat->Value->Prop} {St:Nat->Shared->Prop} (Wk:WalksS prog w A.in1 I fp wr G n P St) (b:Bool) (S:Addr) (nS:S∉fp)
  (val:Nat->KT) (hv:∀i v,P i v->kn.is (val i) v=true/\v.scannable=true) (lim:n+1 < scanBound) :
  ∀(m i:Nat) (s:Shared),n - i=m->i<=n->St i s->SetT kn b s.heap S (λk=>decide (k∈met val i)) (met val i).length ->
   (∀s',Moved (S::wr) G s s'->SetT kn b s'.heap S (λk=>decide (k∈met val n)) (met val n).length->R (.ok (.ret .none)) s') ->
   codeAny (model prog w) A (.builtin "set.update.loop" ⟨[.ref S,.ref I],[]⟩) R s:=by
 have nw:S∉wr:=λq=>nS (Wk.sub _ q);have sub:∀c∈wr,c∈S::wr:=λc hc=>.tail _ hc;intro m
 induction m with
 | zero=>
  intro i s hm hi st z fin;obtain rfl:i=n:=by omega
  refine Qbl PyProof.Rows.F.entry_set_update_loop ?_;rw[Qas PyProof.Rows.F.plain_set_update_loop _];show wpAny _ A.in1 (pyNext (.ref I) >>= _) _ _ s;refine QbH (Wk.done s _ _ st λs1 mv=>?_);show wpAny _ A.in1 (ret Value.none) _ _ s1;exact QbI (fin s1 (mv.mono sub) (z.at λo e=>mv.heap S _ nw e))
 | succ m ih=>
  intro i s hm hi st z fin;have lt:i < n:=by omega
  refine Qbl PyProof.Rows.F.entry_set_update_loop ?_;rw[Qas PyProof.Rows.F.plain_set_update_loop _];show wpAny _ A.in1 (pyNext (.ref I) >>= _) _ _ s;refine QbH (Wk.item i s _ _ lt st λv s1 pv st1 mv=>?_);obtain⟨kv,sv⟩:=hv i v pv;have z1:=z.at λo e=>mv.heap S o nw e;show wpAny _ A.in1 (holding [v] (setAdd S v) >>= _) _ _ s1;refine QbH (Qbx ?_);unfold setAdd;refine Qbx (QbH (kn.pyHash kv ?_));have room:(met val i).length+1 < scanBound:=by have:=JN val i;omega
  refine aj (s:={ s1 with toks:=s1.toks+1 }) kv sv z1 room λh2 sb z2=>?_;have z3:SetT kn b h2 S (λk=>decide (k∈met val (i+1))) (met val (i+1)).length:=by
   refine z2.Z0 (λk=>?_) ?_
   ·rw[Qbj,Bool.or_eq_true,Qay,Qay,Qay];rw[RN];split
    ·rename_i q;exact⟨λx=>x.elim id λe=>e ▸ q,.inl⟩
    ·rw[Qbh,QaC]
   ·show (if decide (val i∈met val i)=true then (met val i).length else (met val i).length+1)=(met val (i+1)).length
    by_cases q:val i∈met val i
    ·rw[if_pos (Qbo q)];show _=(if val i∈met val i then met val i else met val i++[val i]).length
     rw[if_pos q]
    ·rw[if_neg (by simp[q])];show _=(if val i∈met val i then met val i else met val i++[val i]).length
     rw[if_neg q,Qax];rfl
  refine QbI ⟨plainId_quiet PyProof.Rows.F.plain_set_update_loop _,ih (i+1) _ (by omega) lt (Wk.frame _ s1 _ _ st1 (Nat.le_succ _) λc hc o e=>?_) z3 λs2 mv2 z4=>?_⟩
  ·rw[sb.2 c λq:c=S=>nS (q ▸ hc)];exact e
  ·refine fin s2 (Moved.trans Wk.gtrans ((mv.mono sub).then_heap (Nat.le_succ _) λc o hc e=>?_) mv2) z4;rw[sb.2 c λq:c=S=>hc (q ▸ .head _)];exact e
def CP (w:World):Obj:={ cls:=.type "set",dict:=none,data:=.set #[] 0 (.fresh 0 0 (!w.params.followText "set-order")) }
theorem MN (a:Value) {Z:YA} (h:Z (.ref s.heap.objs.size) { s with heap:=s.heap.push (CP w) }) :
  codeAny (model prog w) A (.call (.builtin "set.__new__") ⟨[.type "set",a],[]⟩) (wants Z E) s:=by
 refine codeAny_of_tree ?_;show wpAny _ A.in1 (checkBuiltinCall "set.__new__" ⟨[.type "set",a],[]⟩ >>= λ_=>again (.builtin "set.__new__" ⟨[.type "set",a],[]⟩)) _ _ s;refine QbH (wpAny_of_eq (PySem.F.newCall_set_1 a) (QbI ⟨plainId_quiet PySem.F.plain_set_new _,Qbl PySem.F.entry_set_new ?_⟩));rw[Qas PySem.F.plain_set_new _];unfold Builtin.«set.__new__»;unfold Builtin.Frozenset.newClass;have sf:=sub_set_self;obtain⟨hp,g,d,tk,os⟩:=s;dsimp only
 wp_walk
 refine Qbb (QbI ?_);dsimp only;simp only[newObj];exact QbH (wpAny_alloc (QbI (QbI h)))
theorem MJ:isSubtype (.type "tuple") (.type "set")=pure false:=by rw[Qbt];kernel_rfl
theorem N8:isSubtype (.type "tuple") (.type "frozenset")=pure false:=by rw[Qbt];kernel_rfl
theorem Kl {T:String} {l:Addr} {n:Nat} {Q:YA} {P:Nat->Value->Prop} (hh:A.handled=none) (val:Nat->KT) (hv:∀i v,P i v->kn.is (val i) v=true/\v.scannable=true) (lim:n+1 < scanBound)
  (hT:s.TypeIs (.ref l) T) (t1:isSubtype (.type T) (.type "set")=pure false) (t2:isSubtype (.type T) (.type "frozenset")=pure false) (t3:(Value.type T == Value.type "dict")=false)
  (it:∀(s1:Shared),(∀o,s.heap.get? l=some o->s1.heap.get? l=some o)->∃(oI:Obj) (St:Nat->Heap->Prop),(∀(A:Around) (E:YA) (Q:YA),Q (.ref s1.heap.objs.size) { s1 with heap:=s1.heap.push oI }->wpAny (model prog w) A (pyIter (.ref l)) Q E s1) /\
   (∀A:Around,A.handled=none->l≠s1.heap.objs.size->Walks prog w A s1.heap.objs.size [s1.heap.objs.size,l] [s1.heap.objs.size] n P St)/\St 0 (s1.heap.push oI))
  (h:∀(h':Heap) (tk:Nat),SetT kn (!w.params.followText "set-order") h' s.heap.objs.size (λk=>decide (k∈met val n)) (met val n).length->(∀b o,b < s.heap.objs.size->s.heap.get? b=some o->h'.get? b=some o)->Q (.ref s.heap.objs.size) { s with heap:=h',toks:=tk }) :
  wpAny (model prog w) A (call (.type "set") [.ref l]) Q E s:=by
 obtain⟨ol,hol,hcl⟩:=hT;obtain⟨c,tl,hmro⟩:=PySem.F.called_set.mro;have hmade:=PySem.F.called_set.made;have hsub:=PySem.F.called_set.sub;refine wpAny_call (codeAny_of_tree ?_);show wpAny _ _ (callAny (.type "set") _) _ _ _;refine QbI ⟨Code.quiet_builtin _ (by trivial),Qbl PySem.F.entry_type_call ?_⟩;rw[Around.under_plain (weight_type_call_type "set" [.ref l] []) rfl];have f1:=PySem.F.called_set.notType;have f2:=PySem.F.called_set.canCreate;have f3:=PySem.F.typeCall_set_1 (.ref l)
 repeat (any_goals (first | assumption | wp_step))
 refine codeAny_mono (MN (.ref l) (E:=E) (Z:=λv s1=>v=.ref s.heap.objs.size/\s1={ s with heap:=s.heap.push (CP w) }) ⟨rq,rq⟩) λr s1 hr=>?_;cases r with
 | error e=>exact hr
 | ok fl=>
  cases fl with
  | ret v=>
   obtain⟨rfl,rfl⟩:=hr;have hS:(s.heap.push (CP w)).get? s.heap.objs.size=some (CP w):=Qat _ rfl;have hTs:Shared.TypeIs { s with heap:=s.heap.push (CP w) } (.ref s.heap.objs.size) "set":=⟨_,hS,rq⟩;have f4:=PySem.F.called_set.init.lookup;have f5:=PySem.F.called_set.init.bind (.ref s.heap.objs.size)
   repeat (any_goals (first | assumption | wp_step))
   refine codeAny_mono (codeAny_call_builtin (R:=wants (λr s2=>r=.none/\∃h' tk,s2={ s with heap:=h',toks:=tk }/\SetT kn (!w.params.followText "set-order") h' s.heap.objs.size (λk=>decide (k∈met val n)) (met val n).length/\(∀b o,b < s.heap.objs.size->s.heap.get? b=some o->h'.get? b=some o)) E) PySem.F.called_set.init.plain PySem.F.entry_set_init (check_set_init_1 hTs ?_)) λr2 s2 hr2=>?_
   ·obtain⟨ocls,odict,odata,oslots⟩:=ol;have hcl:ocls=.type T:=hcl;subst hcl;have ho1:(s.heap.push (CP w)).get? l=some { cls:=.type T,dict:=odict,data:=odata,slots:=oslots }:=Qaj _ hol;have hlS:l < s.heap.objs.size:=QbA hol;unfold CP at hS;unfold Builtin.«set.__init__»;unfold noKeywords;unfold Builtin.Frozenset.updateFrom;generalize ePI:pyIter=PI
    wp_walk
    subst ePI;have hh3:A.in1.in1.in1.handled=none:=by simp[hh]
    obtain⟨oI,St,hit,Wk,st⟩:=it { s with heap:=s.heap.push (CP w) } λo e=>Qaj _ e;have nI:l≠(s.heap.push (CP w)).objs.size:=by rw[Qbp];exact QbB (QaL hlS)
    have W3:=Wk A.in1.in1.in1 hh3 nI;refine hit _ _ _ ?_;refine QbH (wpAny_runValue ?_);have nS:s.heap.objs.size∉[(s.heap.push (CP w)).objs.size,l]:=by
     rw[Qbp];simp only[Qbu,QaT,QbL,not_or];exact⟨QbB (QaW _),QbD hlS⟩
    have hS2:((s.heap.push (CP w)).push oI).get? s.heap.objs.size=some (CP w):=Qaj _ (Qat _ rfl);refine Qo W3.toS (!w.params.followText "set-order") s.heap.objs.size nS val hv lim (n - 0) 0 _ rfl (QbF _) st ?_ ?_
    ·exact⟨_,#[],0,_,⟨hS2,⟨rq,rq,rq⟩,rq⟩,⟨λe he=>by simp at he,λk=>by simp[met]⟩,⟨by unfold scanBound;decide,by rfl,rq⟩,TOk.fresh0 _⟩
    ·intro s2 mv z;obtain⟨h',g',d',tk',os'⟩:=s2;have e1:g'=s.gens:=mv.gens;have e2:d'=s.drawn:=mv.drawn;have e3:os'=s.os:=mv.os;subst e1 e2 e3;show wpAny _ _ _ _ _ _;refine QbI ?_;show wpAny _ _ (ret Value.none) _ _ _;refine QbI ⟨rq,h',tk',rq,z,λb o hb e=>?_⟩;have n1:b≠s.heap.objs.size:=QbB hb;have n2:b≠(s.heap.push (CP w)).objs.size:=by rw[Qbp];exact QbB (QaL hb)
     exact mv.heap b o (by simp only[Qbu,QaT,QbL,not_or];exact⟨n1,n2⟩) (Qaj _ (Qaj _ e))
   ·cases r2 with
    | error e=>exact hr2
    | ok fl2=>
     cases fl2 with
     | ret r=>
      obtain⟨rfl,h',tk,rfl,z,kp⟩:=hr2
      repeat (any_goals (first | assumption | wp_step))
      exact h _ _ z kp
     | _=>exact hr2.elim
  | _=>exact hr.elim
end
theorem Dj:Slot "set_iterator" "__next__" "set_iterator.__next__":=.of (owner:="set_iterator") (n:="__next__") (by rw[typeLookup_type,builtinLookup_eq_fast];kernel_rfl) (by trivial) (by trivial) (by trivial) (by first | exact .inl (by trivial) | exact .inr (by trivial)) (by rw[Qbt];kernel_rfl)
theorem G6:entryFor table "set_iterator.__next__"=some Builtin.«set_iterator.__next__»:=entryFor_of_tree (by kernel_rfl)
theorem Qm:Manifest.owners.lookup (String.ofList ("set_iterator".toList.reverse).reverse)=some Manifest.sig_set_iterator:=by kernel_rfl
theorem Ii (a:Value):argsOk "set_iterator.__next__" ⟨[a],[]⟩:=by
 unfold argsOk;rw[signature?_of (id:="set_iterator.__next__") (n:=("__next__".toList.reverse)) (o:=("set_iterator".toList.reverse)) (by kernel_rfl) Qm]
 kernel_rfl
theorem Rh:entryFor table "set.__iter__"=some Builtin.«frozenset.__iter__»:=entryFor_alias (id':="frozenset.__iter__") (by kernel_rfl) rfl (by trivial) (by kernel_rfl)
theorem Hi {α : Type}:∀{xs:List α} {i:Nat} (h:i < xs.length),(xs[i]::xs.eraseIdx i).Perm xs
 | x::xs,0,_=>List.Perm.refl _
 | x::xs,i+1,h=>(List.Perm.swap _ _ _).trans (List.Perm.cons _ (Hi (xs:=xs) (i:=i) (Nat.lt_of_succ_lt_succ h)))
section
variable {prog:Program} {w:World} {A:Around} {E:YA} {s:Shared}
theorem Qe {src:Source} {n:Nat} {Q:Nat->Shared->Prop} (hn:n≠0) (h:∀i,i < n->Q i { s with drawn:=s.drawn.bump src }):wpAny (model prog w) A (choose src n) Q E s:=fun Γ p hΓ=>by
 show n≠0/\_;exact⟨hn,h _ (Nat.mod_lt _ (Nat.pos_of_ne_zero hn))⟩
theorem Hs {α : Type}:∀(n:Nat) (xs:List α) (s:Shared) {Q:List α->Shared->Prop},xs.length=n->(∀ys d',ys.Perm xs->Q ys { s with drawn:=d' })->wpAny (model prog w) A (drawOrder n xs) Q E s
 | 0,[],s,Q,_,h=>QbI (by
   have:=h [] s.drawn (List.Perm.refl _);obtain⟨_,_,_,_,_⟩:=s;exact this)
 | 0,_::_,s,Q,e,h=>by cases e
 | n+1,[],s,Q,e,h=>by cases e
 | n+1,x::xs,s,Q,e,h=>by
  unfold drawOrder;refine QbH (Qe (by simp) λi hi=>?_);rw[Qah hi];dsimp only;refine QbH (Hs n ((x::xs).eraseIdx i) _ (by rw[List.length_eraseIdx_of_lt hi];simpa using e) λys d' pm=>QbI ?_);exact h _ d' (((List.Perm.cons _ pm)).trans (Hi hi))
theorem Fd {α : Type} (nx:Nat->Nat):∀(f k:Nat) (xs:List α) (out:Array α),xs.length=f->(pickOrder.go nx f k xs out).toList.Perm (out.toList++xs)
 | 0,k,[],out,_=>by
  show out.toList.Perm _;rw[List.append_nil]
 | 0,k,_::_,out,e=>by cases e
 | f+1,k,[],out,e=>by cases e
 | f+1,k,x::xs,out,e=>by
  have hi:nx k % (x::xs).length < (x::xs).length:=Nat.mod_lt _ (by simp);unfold pickOrder.go;rw[Qah hi];dsimp only;refine (Fd nx f (k+1) _ _ (by rw[List.length_eraseIdx_of_lt hi];simpa using e)).trans ?_;rw[Array.toList_push,List.append_assoc];exact List.Perm.append_left _ (Hi hi)
def Dt (b:Bool) (h:Heap) (a:Addr) (es:Array (Int×Value)) (ep:Nat) (t:SetTable):Prop:=∃ob,h.get? a=some ob/\ob.ExactSet/\ob.data=.set es ep t/\t.fits es.size=true/\TOk b t
theorem Dt.at {b:Bool} {h h':Heap} {a:Addr} {es:Array (Int×Value)} {ep:Nat} {t:SetTable} (z:Dt b h a es ep t) (k:∀o,h.get? a=some o->h'.get? a=some o):Dt b h' a es ep t:=let ⟨ob,g1,g2⟩:=z;⟨ob,k _ g1,g2⟩
def DY (h:Heap) (it a:Addr) (first:Value) (i n ep:Nat):Prop:=∃o,h.get? it=some o/\o.cls=.type "set_iterator"/\o.data=.fields #[first,rawInt i,.ref a,rawInt n,rawInt ep]
theorem Sd {r:Addr} {Q:Bool->Shared->Prop} (hT:s.TypeIs (.ref r) "set") (h:Q false s):wpAny (model prog w) A (Builtin.List.listLengthHint (.ref r)) Q E s:=by
 unfold Builtin.List.listLengthHint;refine QbH (wpAny_specialOf hT PySem.F.slot_set_len.lookup ?_);generalize hid:("set.__len__":String)=q
 wp_delta
 rw[show splitId q=some ("set","__len__") by subst hid;decide +kernel];subst hid;refine QbH (wpAny_isInstance (T:="set") (b:=true) hT (by rw[Qbt];kernel_rfl) ?_);refine wpAny_ite_split (λz=>absurd z (by decide)) λ_=>?_;exact wpAny_ite_split (λ_=>QbH (wpAny_typeOf hT (QbI h))) λz=>absurd (by trivial) z
theorem RT {b:Bool} {a:Addr} {es:Array (Int×Value)} {ep:Nat} {t:SetTable} {Q:YA} (R:Dt b s.heap a es ep t) (eb:b=!w.params.followText "set-order") (hsz:es.size < scanBound)
  (q1:(b=true->t.plain=true\/es.size<=1)->Q (.ref s.heap.objs.size) { s with heap:=s.heap.push { cls:=.type "set_iterator",data:=.fields #[rawInt 0,rawInt 0,.ref a,rawInt es.size,rawInt ep] } })
  (q2:∀(is:List Nat) d',b=true->is.Perm (List.range es.size)->Q (.ref (s.heap.objs.size+1)) { s with heap:=(s.heap.push { cls:=.type "tuple",data:=.seq (is.map λi:Nat=>rawInt (i:Int)).toArray }).push { cls:=.type "set_iterator",data:=.fields #[.ref s.heap.objs.size,rawInt 0,.ref a,rawInt es.size,rawInt ep] },drawn:=d' }):wpAny (model prog w) A (pyIter (.ref a)) Q E s:=by
 obtain⟨ob,g1,g2,g3,g4,g5⟩:=R;have T:s.TypeIs (.ref a) "set":=⟨ob,g1,g2.1⟩;refine wpAny_pyIter_slot T PySem.F.slot_set_iter (QaU PySem.F.slot_set_iter T Rh ?_ (PySem.F.args_set_iter_1 _));have dr:setDrawn a=(do let (x,_,y) <-setState a;let c <-setsByText;return !c&&(!y.plain&&decide (x.size > 1))):=rfl
 have fin:∀(first:Value) (s1:Shared),Dt b s1.heap a es ep t->Q (.ref s1.heap.objs.size) { s1 with heap:=s1.heap.push { cls:=.type "set_iterator",data:=.fields #[first,rawInt 0,.ref a,rawInt es.size,rawInt ep] } } ->
   wpAny (model prog w) A.in1 (do let e <-setEpoch a;let v <-newFields "set_iterator" [first,rawInt 0,.ref a,rawInt (es.size:Int),rawInt (e:Int)];ret v)
    (λfin s'=>∃v,fin=Fin.done (Flow.ret v)/\∃T' r,s'.TypeIs v T'/\typeLookup (Value.type T') (Str.ofString "__next__")=pure (some r)/\Q v s') E s1:=λfirst s1 R1 hq=>by
  obtain⟨o1,k1,k2,k3,k4,k5⟩:=R1;refine QbH (wpAny_setEpoch_of k1 k3 k4 ?_);unfold newFields
  wp_walk
  exact⟨_,rq,"set_iterator",_,⟨_,Qat _ rfl,rq⟩,Dj.lookup,hq⟩
 show wpAny _ _ (Builtin.Frozenset.slot0 "__iter__" _ >>= _) _ _ _;have sl:Builtin.Frozenset.slot0 "__iter__" { pos:=[Value.ref a] }=pure a:=by
  unfold Builtin.Frozenset.slot0;rfl
 rw[sl];refine QbH (QbI ?_);dsimp only;unfold Builtin.Frozenset.sizeOf;refine QbH (QbH (wpAny_setEntries_of g1 g3 g4 (QbI ?_)));rw[dr];refine QbH (QbH (QaM g1 g3 g4 ?_));dsimp only;unfold setsByText;refine QbH (QbH (Qbb (QbI ?_)));refine QbI ?_;have em:(model prog w).w.params.followText "set-order"=!b:=by rw[eb,Bool.not_not];rfl
 show wpAny _ _ (if (!(model prog w).w.params.followText "set-order"&&(!t.plain&&decide (es.size > 1)))=true then _ else _) _ _ _
 rw[em,Bool.not_not];by_cases c:(b&&(!t.plain&&decide (es.size > 1)))=true
 ·rw[if_pos c];rw[QaS] at c;refine QbH (Hs _ _ _ (List.length_range) λis d' pm=>?_);refine QbH (wpAny_newTuple ?_ ?_)
  ·refine fin _ _ ⟨ob,Qaj _ g1,g2,g3,g4,g5⟩ ?_;have:=q2 is d' c.1 pm;rw[show (s.heap.push { cls:=.type "tuple",data:=.seq (is.map λi:Nat=>rawInt (i:Int)).toArray }).objs.size=s.heap.objs.size+1 from Qbp ..]
   exact this
  ·first | (simp only[Qbc,pm.length_eq,List.length_range];exact fits_of_scanBound hsz) | trace_state
 ·rw[if_neg c];refine QbH (QbI (fin _ _ ⟨ob,g1,g2,g3,g4,g5⟩ (q1 λhb=>?_)));rw[hb,Qbw,QaS,Bool.not_eq_true',Qay] at c;cases hp:t.plain with
  | true=>exact .inl rfl
  | false=>exact .inr (by by_cases z:es.size > 1;exact absurd ⟨hp,z⟩ c;omega)
theorem LQ {it a:Addr} {b:Bool} {es:Array (Int×Value)} {i ep:Nat} {sl:Nat} {t:SetTable} {Q:Option Value->Shared->Prop} {x:Value} {nx:Nat} (K:DY s.heap it a (rawInt sl) i es.size ep) (R:Dt b s.heap a es ep t)
  (hx:∀(A:Around) (E:YA) (Z:Option (Value×Nat)->Shared->Prop),Z (some (x,nx)) s->wpAny (model prog w) A (setNext a sl i ep) Z E s)
  (q:∀h',DY h' it a (rawInt nx) (i+1) es.size ep->Heap.SameBut it s.heap h'->Q (some x) { s with heap:=h' }):wpAny (model prog w) A (pyNext (.ref it)) Q E s:=by
 obtain⟨oi,hoi,ci,di⟩:=K;obtain⟨ob,g1,g2,g3,g4,g5⟩:=R;have T:s.TypeIs (.ref it) "set_iterator":=⟨_,hoi,ci⟩;obtain⟨RW,Pa,Pb,Mj⟩:=oi;dsimp only at ci di;subst ci di;unfold pyNext;refine QbH (wpAny_attempt (Qai (name:=Str.ofString "__next__") T Dj (QaU Dj T G6 ?_ (Ii _))));have e1:typeName (.type "set_iterator")=pure "set_iterator":=by unfold typeName;rw[find?_eq_fast];kernel_rfl
 unfold Builtin.«set_iterator.__next__»;generalize eSE:setEntries=SE;generalize eSN:setNext=SN at hx ⊢
 wp_walk
 subst eSE;refine QbH (QaM g1 g3 g4 ?_);refine QbI ?_;dsimp only [rawInt];simp only[QaR,QaD,QbM,QaQ];refine QbH (hx _ _ _ ?_)
 wp_walk
 have h1:=Qan (Obj.mapFields λx=>x.setIfInBounds 0 (Value.int (nx:Int) 0)) hoi rfl;have h2:=Qan (Obj.mapFields λx=>x.setIfInBounds 1 (Value.int ((i:Int)+1) 0)) h1 rfl;exact⟨_,rq,QbI (q _ ⟨_,h2,rq,rq⟩ ((Qav ..).trans (Qav ..)))⟩
theorem Nr {it a:Addr} {b:Bool} {es:Array (Int×Value)} {i ep:Nat} {sl:Nat} {t:SetTable} {Q:Option Value->Shared->Prop} (hh:A.handled=none) (K:DY s.heap it a (rawInt sl) i es.size ep) (R:Dt b s.heap a es ep t)
  (hx:∀(A:Around) (E:YA) (Z:Option (Value×Nat)->Shared->Prop),Z none s->wpAny (model prog w) A (setNext a sl i ep) Z E s)
  (q:∀h',Heap.ExtBut it s.heap h'->Q none { s with heap:=h' }):wpAny (model prog w) A (pyNext (.ref it)) Q E s:=by
 obtain⟨oi,hoi,ci,di⟩:=K;obtain⟨ob,g1,g2,g3,g4,g5⟩:=R;have T:s.TypeIs (.ref it) "set_iterator":=⟨_,hoi,ci⟩;obtain⟨RW,Pa,Pb,Mj⟩:=oi;dsimp only at ci di;subst ci di;unfold pyNext;refine QbH (wpAny_attempt (Qai (name:=Str.ofString "__next__") T Dj (QaU Dj T G6 ?_ (Ii _))));have e1:typeName (.type "set_iterator")=pure "set_iterator":=by unfold typeName;rw[find?_eq_fast];kernel_rfl
 have hh1:A.in1.handled=none:=hh;unfold Builtin.«set_iterator.__next__»;generalize eSE:setEntries=SE;generalize eSN:setNext=SN at hx ⊢
 wp_walk
 subst eSE;refine QbH (QaM g1 g3 g4 ?_);refine QbI ?_;dsimp only [rawInt];simp only[QaR,QaD,QbM,QaQ];refine QbH (hx _ _ _ ?_)
 wp_walk
 unfold raiseNew
 wp_walk
 refine wpAny_of_eq isSubtype_stop ?_
 wp_walk
 exact q _ (((Qav ..).extBut.push _).push _)
theorem RK {it a tp:Addr} {b:Bool} {es:Array (Int×Value)} {i ep:Nat} {t:SetTable} {Q:Option Value->Shared->Prop} {is:List Nat} {pl:Nat} {e:Int×Value} (K:DY s.heap it a (.ref tp) i es.size ep) (ht:s.heap.IsTuple tp (is.map λi:Nat=>rawInt (i:Int)).toArray) (R:Dt b s.heap a es ep t) (hi:is[i]?=some pl) (he:es[pl]?=some e)
  (q:∀h',DY h' it a (.ref tp) (i+1) es.size ep->Heap.SameBut it s.heap h'->Q (some e.2) { s with heap:=h' }):wpAny (model prog w) A (pyNext (.ref it)) Q E s:=by
 obtain⟨oi,hoi,ci,di⟩:=K;obtain⟨ob,g1,g2,g3,g4,g5⟩:=R;have T:s.TypeIs (.ref it) "set_iterator":=⟨_,hoi,ci⟩;obtain⟨RW,Pa,Pb,Mj⟩:=oi;dsimp only at ci di;subst ci di;obtain⟨ot,hot,cot,nt,dot⟩:=ht;obtain⟨WM,Wa,Wb,Uv⟩:=ot;dsimp only at cot dot;subst cot dot;unfold pyNext;refine QbH (wpAny_attempt (Qai (name:=Str.ofString "__next__") T Dj (QaU Dj T G6 ?_ (Ii _))));have e1:typeName (.type "set_iterator")=pure "set_iterator":=by unfold typeName;rw[find?_eq_fast];kernel_rfl
 unfold Builtin.«set_iterator.__next__»;generalize eSE:setEntries=SE;generalize eSN:setNextDrawn=SN
 wp_walk
 subst eSE;refine QbH (QaM g1 g3 g4 ?_);refine QbI ?_;dsimp only [rawInt];simp only[QaR,QaD,QbM,QaQ];have hpl:((is.map λi:Nat=>rawInt (i:Int)).toArray)[i]?=some (.int (pl:Int) 0):=by
  rw[List.getElem?_toArray,QaK,hi];rfl
 wp_walk
 simp only[hpl];subst eSN;unfold setNextDrawn;refine QbH (QbH (QaM g1 g3 g4 ?_));dsimp only;simp only[QaR,QaD,QbM,QaQ,he]
 wp_walk
 have h1:=Qan (Obj.mapFields λx=>x.setIfInBounds 1 (Value.int ((i:Int)+1) 0)) hoi rfl;exact⟨_,rq,QbI (q _ ⟨_,h1,rq,rq⟩ (Qav ..))⟩
theorem Uh {it a tp:Addr} {b:Bool} {es:Array (Int×Value)} {i ep:Nat} {t:SetTable} {Q:Option Value->Shared->Prop} {is:List Nat} (hh:A.handled=none) (K:DY s.heap it a (.ref tp) i es.size ep) (ht:s.heap.IsTuple tp (is.map λi:Nat=>rawInt (i:Int)).toArray) (R:Dt b s.heap a es ep t) (hi:is[i]?=none)
  (q:∀h',Heap.ExtBut it s.heap h'->Q none { s with heap:=h' }):wpAny (model prog w) A (pyNext (.ref it)) Q E s:=by
 obtain⟨oi,hoi,ci,di⟩:=K;obtain⟨ob,g1,g2,g3,g4,g5⟩:=R;have T:s.TypeIs (.ref it) "set_iterator":=⟨_,hoi,ci⟩;obtain⟨RW,Pa,Pb,Mj⟩:=oi;dsimp only at ci di;subst ci di;obtain⟨ot,hot,cot,nt,dot⟩:=ht;obtain⟨WM,Wa,Wb,Uv⟩:=ot;dsimp only at cot dot;subst cot dot;unfold pyNext;refine QbH (wpAny_attempt (Qai (name:=Str.ofString "__next__") T Dj (QaU Dj T G6 ?_ (Ii _))));have e1:typeName (.type "set_iterator")=pure "set_iterator":=by unfold typeName;rw[find?_eq_fast];kernel_rfl
 have hh1:A.in1.handled=none:=hh;unfold Builtin.«set_iterator.__next__»;generalize eSE:setEntries=SE;generalize eSN:setNextDrawn=SN
 wp_walk
 subst eSE;refine QbH (QaM g1 g3 g4 ?_);refine QbI ?_;dsimp only [rawInt];simp only[QaR,QaD,QbM,QaQ];have hpl:((is.map λi:Nat=>rawInt (i:Int)).toArray)[i]?=none:=by
  rw[List.getElem?_toArray,QaK,hi];rfl
 wp_walk
 simp only[hpl]
 wp_walk
 unfold raiseNew
 wp_walk
 refine wpAny_of_eq isSubtype_stop ?_
 wp_walk
 exact q _ ((((Qav ..).trans (Qav ..)).extBut.push _).push _)
end
theorem Lh:Slot "set_iterator" "__iter__" "set_iterator.__iter__":=.of (owner:="set_iterator") (n:="__iter__") (by rw[typeLookup_type,builtinLookup_eq_fast];kernel_rfl) (by trivial) (by trivial) (by trivial) (by first | exact .inl (by trivial) | exact .inr (by trivial)) (by rw[Qbt];kernel_rfl)
theorem Qn:entryFor table "set_iterator.__iter__"=some Builtin.«dict_keyiterator.__iter__»:=entryFor_alias (id':="dict_keyiterator.__iter__") (by kernel_rfl) rfl (by trivial) (by kernel_rfl)
theorem Rj (a:Value):argsOk "set_iterator.__iter__" ⟨[a],[]⟩:=by
 unfold argsOk;rw[signature?_of (id:="set_iterator.__iter__") (n:=("__iter__".toList.reverse)) (o:=("set_iterator".toList.reverse)) (by kernel_rfl) Qm]
 kernel_rfl
section
variable {prog:Program} {w:World} {A:Around} {E:YA} {s:Shared}
theorem Nf {a:Addr} {es:Array (Int×Value)} {i ep sl:Nat} {t:SetTable} {Z:Option (Value×Nat)->Shared->Prop} (R:Dt false s.heap a es ep t) (eb:w.params.followText "set-order"=true)
  (h:Z (((pickOrder (w.params.setOrder a ep) es)[i]?).map λe=>(e.2,sl)) s):wpAny (model prog w) A (setNext a sl i ep) Z E s:=by
 obtain⟨ob,g1,g2,g3,g4,g5⟩:=R;unfold setNext;refine QbH (QaM g1 g3 g4 ?_);dsimp only;unfold setsByText;refine QbH (QbH (Qbb (QbI ?_)));show wpAny _ _ (if w.params.followText "set-order"=true then _ else _) _ _ _
 rw[if_pos eb];simp only[QaR,QaD,QbM];unfold setWalk;refine QbH (QbH (QaM g1 g3 g4 ?_));dsimp only;unfold setsByText;refine QbH (QbH (Qbb (QbI ?_)));show wpAny _ _ (if w.params.followText "set-order"=true then _ else _) _ _ _
 rw[if_pos eb];refine QbH (Qbb (QbI ?_));exact QbI h
theorem Lf {a:Addr} {es:Array (Int×Value)} {i ep sl:Nat} {t:SetTable} {Z:Option (Value×Nat)->Shared->Prop} (R:Dt true s.heap a es ep t) (eb:w.params.followText "set-order"=false) (pl:t.plain=true\/es.size<=1)
  (h:Z (match es[SetTable.below t.place sl]?,t.place[SetTable.below t.place sl]? with | some (_,x),some j=>some (x,j+1) | _,_=>none) s):wpAny (model prog w) A (setNext a sl i ep) Z E s:=by
 obtain⟨ob,g1,g2,g3,g4,g5⟩:=R;unfold setNext;refine QbH (QaM g1 g3 g4 ?_);dsimp only;unfold setsByText;refine QbH (QbH (Qbb (QbI ?_)));show wpAny _ _ (if w.params.followText "set-order"=true then _ else _) _ _ _
 rw[if_neg (by rw[eb];decide)];split
 ·rename_i hd;have hd:(!t.plain&&decide (es.size > 1))=true:=hd;rw[QaS,Bool.not_eq_true',Qay] at hd;rcases pl with q | q
  ·rw[q] at hd;cases hd.1
  ·omega
 ·show wpAny _ _ ((if (!t.led&&!es.isEmpty)=true then unsupported _ else pure ()) >>= _) _ _ _
  rw[g5.1];simp only[Bool.not_true,Qbr,QaD,QbM];refine QbH (QbI ?_);exact QbI h
theorem up_place {t:SetTable} {es:Array (Int×Value)} (g4:t.fits es.size=true) (g5:TOk true t) (pl:t.plain=true\/es.size<=1):t.place.size=es.size/\t.place.toList.Pairwise (· < ·):=by
 simp only[SetTable.fits,QaS,beq_iff_eq,decide_eq_true_eq] at g4;refine⟨g4.1,?_⟩;rcases pl with q | q
 ·exact g5.2.2 q
 ·have:t.place.toList.length<=1:=by rw[Qau];omega
  match h:t.place.toList,this with
  | [],_=>exact .nil
  | [x],_=>exact List.pairwise_singleton _ _
def Gy (t:SetTable):Nat->Nat
 | 0=>0
 | i+1=>t.place.getD i 0+1
theorem Js {t:SetTable} (up:t.place.toList.Pairwise (· < ·)) {i:Nat} (hi:i<=t.place.size):SetTable.below t.place (Gy t i)=i:=by
 obtain⟨h1,h2,h3⟩:=below_at (j:=Gy t i) up;have lt:∀(x y:Nat) (u v:Nat),t.place[x]?=some u->t.place[y]?=some v->x < y->u < v:=λx y u v ex ey l=>by
  rw[<-Qal] at ex ey;obtain⟨a1,a2⟩:=Qad.mp ex;obtain⟨b1,b2⟩:=Qad.mp ey;rw[<-a2,<-b2];exact Qag.mp up x y a1 b1 l
 generalize hr:SetTable.below t.place (Gy t i)=r at *
 match i,hi with
 | 0,_=>
  by_cases c:r=0
  ·exact c
  ·have l0:0 < t.place.size:=by omega
   have:=h2 0 _ (Qae l0) (by omega);exact absurd this (Nat.not_lt_zero _)
 | i+1,hi=>
  have li:i < t.place.size:=by omega
  have ei:t.place[i]?=some t.place[i]:=Qae li;have eg:t.place.getD i 0=t.place[i]:=by simp[Array.getD,li]
  have es:Gy t (i+1)=t.place[i]+1:=by show t.place.getD i 0+1=_;rw[eg]
  rw[es] at h2 h3;by_cases c1:r<=i
  ·have:=h3 i _ ei c1;omega
  ·by_cases c2:i+1 < r
   ·have l2:i+1 < t.place.size:=by omega
    have e2:t.place[i+1]?=some t.place[i+1]:=Qae l2;have a:=h2 (i+1) _ e2 c2;have b:=lt i (i+1) _ _ ei e2 (QaW _);omega
   ·omega
theorem Hy {it a:Addr} {first:Value} {i n ep:Nat} {Q:YA} (K:DY s.heap it a first i n ep) (q:Q (.ref it) s):wpAny (model prog w) A (pyIter (.ref it)) Q E s:=by
 obtain⟨oi,hoi,ci,di⟩:=K;have T:s.TypeIs (.ref it) "set_iterator":=⟨_,hoi,ci⟩;refine wpAny_pyIter_slot T Lh (QaU Lh T Qn ?_ (Rj _));show wpAny _ _ (ret (.ref it)) _ _ s;exact QbI ⟨_,rq,"set_iterator",_,T,Dj.lookup,q⟩
theorem DY.at {h h':Heap} {it a:Addr} {first:Value} {i n ep:Nat} (x:DY h it a first i n ep) (e:∀o,h.get? it=some o->h'.get? it=some o):DY h' it a first i n ep:=let ⟨o,ho,r⟩:=x;⟨o,e _ ho,r⟩
theorem Qf (hh:A.handled=none) (it a:Addr) (ne:a≠it) (es:Array (Int×Value)) (ep:Nat) (t:SetTable) (eb:w.params.followText "set-order"=true) :
  Walks prog w A it [it,a] [it] es.size (λi v=>∃e,(pickOrder (w.params.setOrder a ep) es)[i]?=some e/\v=e.2) (λi h=>DY h it a (rawInt (0:Nat)) i es.size ep/\Dt false h a es ep t) where
 sub:=λb hb=>by simp at hb;simp[hb]
 frame:=λ_ _ _ st hk=>⟨st.1.at λo e=>hk it (by simp) o e,st.2.at λo e=>hk a (by simp) o e⟩
 item:=λi s Q E hi st hQ=>by
  have sz:(pickOrder (w.params.setOrder a ep) es).size=es.size:=by
   have:=(Fd (w.params.setOrder a ep) es.size 0 es.toList #[] (Qau ..)).length_eq;rw[Qau] at this;exact this.trans (by simp)
  have hx:(pickOrder (w.params.setOrder a ep) es)[i]?=some ((pickOrder (w.params.setOrder a ep) es)[i]'(by omega)):=Qae (by omega);refine LQ (nx:=0) (x:=((pickOrder (w.params.setOrder a ep) es)[i]'(by omega)).2) st.1 st.2 (λA E Z hz=>Nf st.2 eb (by rw[hx];exact hz)) λh' k sb=>?_;exact hQ _ h' s.toks ⟨_,hx,rq⟩ ⟨k,st.2.at λo e=>by rw[sb.2 a ne];exact e⟩ λc o hc e=>by rw[sb.2 c (λz=>hc (by simp[z]))];exact e
 done:=λs Q E st hQ=>by
  have sz:(pickOrder (w.params.setOrder a ep) es).size=es.size:=by
   have:=(Fd (w.params.setOrder a ep) es.size 0 es.toList #[] (Qau ..)).length_eq;rw[Qau] at this;exact this.trans (by simp)
  have hx:(pickOrder (w.params.setOrder a ep) es)[es.size]?=none:=Array.getElem?_eq_none (by omega);exact Nr hh st.1 st.2 (λA E Z hz=>Nf st.2 eb (by rw[hx];exact hz)) λh' x=>hQ h' s.toks λc o hc e=>x c o (λz=>hc (by simp[z])) e
 self:=λ_ _ _ _ st hQ=>Hy st.1 hQ
theorem NQ (hh:A.handled=none) (it a:Addr) (ne:a≠it) (es:Array (Int×Value)) (ep:Nat) (t:SetTable) (eb:w.params.followText "set-order"=false) (pl:t.plain=true\/es.size<=1) (ft:t.fits es.size=true) (tk:TOk true t) :
  Walks prog w A it [it,a] [it] es.size (λi v=>∃e,es[i]?=some e/\v=e.2) (λi h=>DY h it a (rawInt (Gy t i:Nat)) i es.size ep/\Dt true h a es ep t) where
 sub:=λb hb=>by simp at hb;simp[hb]
 frame:=λ_ _ _ st hk=>⟨st.1.at λo e=>hk it (by simp) o e,st.2.at λo e=>hk a (by simp) o e⟩
 item:=λi s Q E hi st hQ=>by
  obtain⟨sz,up⟩:=up_place ft tk pl;have hx:es[i]?=some es[i]:=Qae hi;have li:i < t.place.size:=by omega
  have hp:t.place[i]?=some (t.place.getD i 0):=by rw[Qae li];simp[Array.getD,li]
  refine LQ (nx:=Gy t (i+1)) (x:=es[i].2) st.1 st.2 (λA E Z hz=>Lf st.2 eb pl (by rw[Js up (by omega),hx,hp];exact hz)) λh' k sb=>?_;exact hQ _ h' s.toks ⟨_,hx,rq⟩ ⟨k,st.2.at λo e=>by rw[sb.2 a ne];exact e⟩ λc o hc e=>by rw[sb.2 c (λz=>hc (by simp[z]))];exact e
 done:=λs Q E st hQ=>by
  obtain⟨sz,up⟩:=up_place ft tk pl;have hx:es[es.size]?=none:=Array.getElem?_eq_none (QbE _);exact Nr hh st.1 st.2 (λA E Z hz=>Lf st.2 eb pl (by rw[Js up (by omega),hx];exact hz)) λh' x=>hQ h' s.toks λc o hc e=>x c o (λz=>hc (by simp[z])) e
 self:=λ_ _ _ _ st hQ=>Hy st.1 hQ
theorem NT (hh:A.handled=none) (it a tp:Addr) (ne:a≠it) (nt:tp≠it) (es:Array (Int×Value)) (ep:Nat) (t:SetTable) (is:List Nat) (pm:is.Perm (List.range es.size)) :
  Walks prog w A it [it,a,tp] [it] es.size (λi v=>∃pl e,is[i]?=some pl/\es[pl]?=some e/\v=e.2) (λi h=>DY h it a (.ref tp) i es.size ep/\Dt true h a es ep t/\h.IsTuple tp (is.map λi:Nat=>rawInt (i:Int)).toArray) where
 sub:=λb hb=>by simp at hb;simp[hb]
 frame:=λ_ _ _ st hk=>⟨st.1.at λo e=>hk it (by simp) o e,st.2.1.at λo e=>hk a (by simp) o e,let ⟨o,ho,r⟩:=st.2.2;⟨o,hk tp (by simp) o ho,r⟩⟩
 item:=λi s Q E hi st hQ=>by
  have hl:is.length=es.size:=by rw[pm.length_eq,List.length_range]
  have li:i < is.length:=by omega
  have hp:is[i]?=some is[i]:=Qah li;have lp:is[i] < es.size:=List.mem_range.mp (pm.mem_iff.mp (List.getElem_mem li));have hx:es[is[i]]?=some es[is[i]]:=Qae lp;refine RK st.1 st.2.2 st.2.1 hp hx λh' k sb=>?_;have kp:∀c o,c≠it->s.heap.get? c=some o->h'.get? c=some o:=λc o n e=>by rw[sb.2 c n];exact e
  exact hQ _ h' s.toks ⟨_,_,hp,hx,rq⟩ ⟨k,st.2.1.at λo e=>kp a o ne e,let ⟨o,ho,r⟩:=st.2.2;⟨o,kp tp o nt ho,r⟩⟩ λc o hc e=>kp c o (λz=>hc (by simp[z])) e
 done:=λs Q E st hQ=>by
  have hl:is.length=es.size:=by rw[pm.length_eq,List.length_range]
  exact Uh hh st.1 st.2.2 st.2.1 (List.getElem?_eq_none (by omega)) λh' x=>hQ h' s.toks λc o hc e=>x c o (λz=>hc (by simp[z])) e
 self:=λ_ _ _ _ st hQ=>Hy st.1 hQ
end
section
variable {prog:Program} {w:World} {A:Around} {E:YA} {s:Shared}
theorem take_all {R:Result->Shared->Prop} {S a I:Addr} {fp:List Addr} {n c0:Nat} {P:Nat->Value->Prop} {St:Nat->Heap->Prop} {res:Value} {tt:Bool} (hT:s.TypeIs (.ref a) "set") (hS:s.heap.get? S=some { cls:=.type "list",data:=.seq #[] c0 }) (nS:S∉fp) (Wk:Walks prog w A.in1 I fp [I] n P St) (st:St 0 s.heap) (hn:n<=sizeLine)
  (fin:∀h' tk us c,(∀b o,b≠S->b≠I->s.heap.get? b=some o->h'.get? b=some o)->h'.get? S=some { cls:=.type "list",dict:=none,data:=.seq us c,slots:=#[] }->ItemsOf P us n->R (.ok (.ret res)) { s with heap:=h',toks:=tk }) :
  wpAny (model prog w) A.in1 (do
    let room <-holding [.ref I] (Builtin.List.listLengthHint (.ref a))
    if (room || tt)=true then do
     rule "list.extend.makes-room"
     Builtin.List.listTouch (.ref S)
     again (.builtin "list.extend.loop" ⟨[.ref S,.ref I,res],[]⟩)
    else again (.builtin "list.extend.loop" ⟨[.ref S,.ref I,res],[]⟩))
   (λfin s'=>match fin with | .done f=>R (.ok f) s' | .again c'=>c'.quiet=true/\codeAny (model prog w) A c' R s') (λe s'=>R (.error e) s') s:=by
 have key:∀(h:Heap) (c1:Nat),St 0 h->(∀b o,b≠S->s.heap.get? b=some o->h.get? b=some o)->h.get? S=some { cls:=.type "list",data:=.seq #[] c1 } ->
   codeAny (model prog w) A (.builtin "list.extend.loop" ⟨[.ref S,.ref I,res],[]⟩) R { s with heap:=h }:=λh c1 st1 kp hS1=>by
  refine codeAny_extend_loopS Wk.toS hn S nS res n 0 _ #[] c1 rfl (QbF _) st1 hS1 (ItemsOf.nil _) λs2 us c mv hS2 itm=>?_;rw[Moved.eq_with mv];exact fin s2.heap s2.toks us c (λb o nb nI e=>mv.heap b o (by simp[nb,nI]) (kp b o nb e)) hS2 itm
 refine QbH (Qbx (Sd hT ?_));refine wpAny_ite_split (λ_=>?_) (λ_=>QbI ⟨plainId_quiet PySem.F.plain_extend_loop _,key s.heap c0 st (λ_ _ _ e=>e) hS⟩);refine QbH (QbK ?_);refine QbH ?_;show wpAny _ _ (updateSeq S (·.push .none) >>= λ_=>updateSeq S (·.pop)) _ _ _;refine QbH (wpAny_updateSeq hS rfl ?_);have hS2:=Qan (Obj.mapSeq (·.push Value.none)) hS rfl;refine wpAny_updateSeq (hz:=by seq_fits) hS2 rfl ?_;have hS3:=Qan (Obj.mapSeq (·.pop)) hS2 rfl;have kp:∀b o,b≠S->s.heap.get? b=some o->((s.heap.update S (Obj.mapSeq (·.push Value.none))).update S (Obj.mapSeq (·.pop))).get? b=some o:=λb o nb e=>
  (Heap.get?_update_other _ _ (Ne.symm nb)).trans ((Heap.get?_update_other _ _ (Ne.symm nb)).trans e)
 exact QbI ⟨plainId_quiet PySem.F.plain_extend_loop _,key _ _ (Wk.frame 0 _ _ st λb hb o e=>kp b o (λz=>nS (z ▸ hb)) e) kp hS3⟩
theorem Fq {α : Type} {f:α->Value}:∀{us:YE} {es:List α},us.length=es.length->(∀(j:Nat) (v:Value),us[j]?=some v->∃e,es[j]?=some e/\v=f e)->us=es.map f
 | [],[],_,_=>rfl
 | [],_::_,h,_=>by cases h
 | _::_,[],h,_=>by cases h
 | u::us,e::es,h,g=>by
  obtain⟨e',h1,h2⟩:=g 0 u rfl;cases h1;rw[Qbv,h2,Fq (us:=us) (es:=es) (by simpa using h) λj v hj=>by simpa using g (j+1) v (by simpa using hj)]
theorem Ug {R:Result->Shared->Prop} {b:Bool} {S a:Addr} {es:Array (Int×Value)} {ep c0:Nat} {t:SetTable} {res:Value} (hh:A.handled=none) (RS:Dt b s.heap a es ep t) (eb:b=!w.params.followText "set-order") (hsz:es.size < scanBound) (hS:s.heap.get? S=some { cls:=.type "list",data:=.seq #[] c0 }) (nSa:S≠a)
  (fin:∀h' tk d' us c,(∀b o,b≠S->s.heap.get? b=some o->h'.get? b=some o)->h'.get? S=some { cls:=.type "list",dict:=none,data:=.seq us c,slots:=#[] }->us.toList.Perm (es.toList.map (·.2))->R (.ok (.ret res)) { s with heap:=h',toks:=tk,drawn:=d' }) :
  wpAny (model prog w) A.in1 (Builtin.List.listExtendWith (.ref S) (.ref a) res) (λfin s'=>match fin with | .done f=>R (.ok f) s' | .again c'=>c'.quiet=true/\codeAny (model prog w) A c' R s') (λe s'=>R (.error e) s') s:=by
 have T0:s.TypeIs (.ref a) "set":=let ⟨ob,g1,g2,_⟩:=RS;⟨ob,g1,g2.1⟩;have la:a < s.heap.objs.size:=let ⟨_,g,_⟩:=RS;QbA g;have lS:S < s.heap.objs.size:=QbA hS;have hn:es.size<=sizeLine:=fits_of_scanBound hsz;unfold Builtin.List.listExtendWith;refine QbH (wpAny_typeOf (T:="set") T0 ?_);have n1:Builtin.List.listSameRef (.ref S) (.ref a)=false:=by simp[Builtin.List.listSameRef,nSa]
 have n2:(Value.type "set" == Value.type "list")=false:=by decide
 have n3:(Value.type "set" == Value.type "tuple")=false:=by decide
 simp only[n1,n2,n3,Bool.or_false,QaD,QbM];refine QbH (RT RS eb hsz (λpl=>?_) λis d' hb pm=>?_)
 ·generalize eo:({ cls:=.type "set_iterator",data:=.fields #[rawInt 0,rawInt 0,.ref a,rawInt es.size,rawInt ep] }:Obj)=oI;have hI:(s.heap.push oI).get? s.heap.objs.size=some oI:=Qat _ (by rw[<-eo];rfl);have kp:∀c o,s.heap.get? c=some o->(s.heap.push oI).get? c=some o:=λc o e=>Qaj _ e;have T1:Shared.TypeIs { s with heap:=s.heap.push oI } (.ref a) "set":=let ⟨ob,g1,g2⟩:=T0;⟨ob,kp _ _ g1,g2⟩;have R1:=RS.at λo e=>kp a o e;have nI:a≠s.heap.objs.size:=QbB la;have nS:S∉[s.heap.objs.size,a]:=by
   simp only[Qbu,QaT,QbL,not_or];exact⟨QbB lS,nSa⟩
  have si:∀k:Nat,k=0->DY (s.heap.push oI) s.heap.objs.size a (rawInt (k:Nat)) 0 es.size ep:=λk hk=>⟨oI,hI,by rw[<-eo],by rw[<-eo,hk];rfl⟩;cases eb2:w.params.followText "set-order" with
  | true=>
   rw[eb2] at eb;subst eb;refine take_all T1 (kp _ _ hS) nS (Qf (A:=A.in1) (by simp[hh]) _ a nI es ep t eb2) ⟨si 0 rfl,R1⟩ hn λh' tk us c kk hS' itm=>?_;refine fin h' tk s.drawn us c (λc o nc e=>kk c o nc (QbB (QbA e)) (kp _ _ e)) hS' ?_;have e1:us.toList=(pickOrder (w.params.setOrder a ep) es).toList.map (·.2):=by
    have sz:=(Fd (w.params.setOrder a ep) es.size 0 es.toList #[] (Qau ..)).length_eq;refine Fq (by rw[Qau,itm.1];exact (sz.trans (by simp)).symm) λj v hj=>?_;rw[Qal] at hj;obtain⟨e,h1,h2⟩:=itm.2 j v hj;exact⟨e,by rw[Qal];exact h1,h2⟩
   rw[e1];exact ((Fd (w.params.setOrder a ep) es.size 0 es.toList #[] (Qau ..)).trans (by simp)).map _
  | false=>
   rw[eb2] at eb;subst eb;obtain⟨ob,g1,g2,g3,g4,g5⟩:=id RS;refine take_all T1 (kp _ _ hS) nS (NQ (A:=A.in1) (by simp[hh]) _ a nI es ep t eb2 (pl rfl) g4 g5) ⟨si _ rfl,R1⟩ hn λh' tk us c kk hS' itm=>?_;refine fin h' tk s.drawn us c (λc o nc e=>kk c o nc (QbB (QbA e)) (kp _ _ e)) hS' ?_;have e1:us.toList=es.toList.map (·.2):=by
    refine Fq (by rw[Qau,Qau,itm.1]) λj v hj=>?_;rw[Qal] at hj;obtain⟨e,h1,h2⟩:=itm.2 j v hj;exact⟨e,by rw[Qal];exact h1,h2⟩
   rw[e1]
 ·subst hb;generalize eo1:({ cls:=.type "tuple",data:=.seq (is.map λi:Nat=>rawInt (i:Int)).toArray }:Obj)=oT;generalize eo:({ cls:=.type "set_iterator",data:=.fields #[.ref s.heap.objs.size,rawInt 0,.ref a,rawInt es.size,rawInt ep] }:Obj)=oI;have z1:(s.heap.push oT).objs.size=s.heap.objs.size+1:=Qbp ..;have hT:(s.heap.push oT).get? s.heap.objs.size=some oT:=Qat _ (by rw[<-eo1];rfl);have hI:((s.heap.push oT).push oI).get? (s.heap.objs.size+1)=some oI:=by rw[<-z1];exact Qat _ (by rw[<-eo];rfl)
  have kp:∀c o,s.heap.get? c=some o->((s.heap.push oT).push oI).get? c=some o:=λc o e=>Qaj _ (Qaj _ e);have T1:Shared.TypeIs { s with heap:=(s.heap.push oT).push oI,drawn:=d' } (.ref a) "set":=let ⟨ob,g1,g2⟩:=T0;⟨ob,kp _ _ g1,g2⟩;have R1:=RS.at λo e=>kp a o e;have nI:a≠s.heap.objs.size+1:=QbB (QaL la);have nS:S∉[s.heap.objs.size+1,a,s.heap.objs.size]:=by
   simp only[Qbu,QaT,QbL,not_or];exact⟨QbB (QaL lS),nSa,QbB lS⟩
  have tup:((s.heap.push oT).push oI).IsTuple s.heap.objs.size (is.map λi:Nat=>rawInt (i:Int)).toArray:=⟨oT,Qaj _ hT,by rw[<-eo1],0,by rw[<-eo1]⟩;have si:DY ((s.heap.push oT).push oI) (s.heap.objs.size+1) a (.ref s.heap.objs.size) 0 es.size ep:=⟨oI,hI,by rw[<-eo],by rw[<-eo];rfl⟩;refine take_all (s:={ s with heap:=(s.heap.push oT).push oI,drawn:=d' }) T1 (kp _ _ hS) nS (NT (A:=A.in1) (by simp[hh]) _ a _ nI (QbB (QaW _)) es ep t is pm) ⟨si,R1,tup⟩ hn λh' tk us c kk hS' itm=>?_;refine fin h' tk d' us c (λc o nc e=>kk c o nc (QbB (QaL (QbA e))) (kp _ _ e)) hS' ?_;have hl:is.length=es.size:=by rw[pm.length_eq,List.length_range]
  have e1:us.toList=is.map λi=>(es.toList.map (·.2)).getD i .none:=by
   refine Fq (by rw[Qau,itm.1,hl]) λj v hj=>?_;rw[Qal] at hj;obtain⟨p,e,h1,h2,h3⟩:=itm.2 j v hj;refine⟨p,h1,?_⟩;rw[h3,List.getD_eq_getElem?_getD,QaK,Qal,h2];rfl
  rw[e1];have:=(pm.map λi=>(es.toList.map (·.2)).getD i Value.none);rw[show es.size=(es.toList.map (·.2)).length by rw[Qbc,Qau],range_getD] at this;exact this
theorem Uj {b:Bool} {a:Addr} {es:Array (Int×Value)} {ep:Nat} {t:SetTable} {Rr:YE->Shared->Prop} (hh:A.handled=none) (RS:Dt b s.heap a es ep t) (eb:b=!w.params.followText "set-order") (hsz:es.size < scanBound)
  (h:∀h' tk d' (us:YE),(∀c o,s.heap.get? c=some o->h'.get? c=some o)->us.Perm (es.toList.map (·.2))->Rr us { s with heap:=h',toks:=tk,drawn:=d' }):wpAny (model prog w) A (collect (.ref a)) Rr E s:=by
 have hlt:a < s.heap.objs.size:=let ⟨_,g,_⟩:=RS;QbA g;unfold collect;refine QbH (wpAny_runValue (Qbl entry_proto_collect' ?_));rw[Qas PySem.F.plain_proto_collect _];show wpAny _ A.in1 (newList [] >>= λl=>again (.builtin "list.__iadd__" ⟨[l,.ref a],[]⟩)) _ _ s;refine QbH (QaO ?_);refine QbI ⟨plainId_quiet PySem.F.plain_list_iadd _,Qbl entry_list_iadd' ?_⟩;rw[Qas PySem.F.plain_list_iadd _];have k0:∀c o,s.heap.get? c=some o->(s.heap.push { cls:=.type "list",data:=.seq ([]:YE).toArray }).get? c=some o:=λc o e=>Qaj _ e;have hS0:(s.heap.push { cls:=.type "list",data:=.seq ([]:YE).toArray }).get? s.heap.objs.size=some { cls:=.type "list",data:=.seq #[] }:=Qat _ rfl;show wpAny _ A.in1 (Builtin.List.listExtendWith (.ref s.heap.objs.size) (.ref a) (.ref s.heap.objs.size)) _ _ _;have key:=Ug (prog:=prog) (A:=A) (s:={ s with heap:=s.heap.push { cls:=.type "list",data:=.seq ([]:YE).toArray } }) (res:=.ref s.heap.objs.size)
  (R:=λ(r:Result) (s':Shared)=>∃h' tk d' us c,r=.ok (.ret (.ref s.heap.objs.size))/\s'={ s with heap:=h',toks:=tk,drawn:=d' }/\(∀c o,s.heap.get? c=some o->h'.get? c=some o)/\h'.get? s.heap.objs.size=some { cls:=.type "list",dict:=none,data:=.seq us c,slots:=#[] }/\us.toList.Perm (es.toList.map (·.2)))
  hh (RS.at λo e=>k0 a o e) eb hsz hS0 (QbD hlt) λh' tk d' us c kk hS' pm=>⟨h',tk,d',us,c,rq,rq,λc o e=>kk c o (QbB (QbA e)) (k0 _ _ e),hS',pm⟩
 refine QbJ key (λfin s' x=>?_) λe s' x=>?_
 ·cases fin with
  | done f=>
   obtain⟨h',tk,d',us,c,e,rfl,kk,hS',pm⟩:=x;cases e;show wpAny _ A (load s.heap.objs.size >>= _) _ _ _;exact QbH (wpAny_load hS' (QbI (h h' tk d' us.toList kk pm)))
  | again c1=>
   refine⟨x.1,codeAny_mono x.2 λq s2 y=>?_⟩;obtain⟨h',tk,d',us,c,rfl,rfl,kk,hS',pm⟩:=y;show wpAny _ A (load s.heap.objs.size >>= _) _ _ _;exact QbH (wpAny_load hS' (QbI (h h' tk d' us.toList kk pm)))
 ·obtain⟨_,_,_,_,_,e',_⟩:=x;cases e'
end
open PySem.Calls (spliced_cons spliced_nil)
theorem Hf {α : Type} [DecidableEq α]:∀{l m:List α},l.Nodup->(∀x∈l,x∈m)->l.length<=m.length
 | [],m,_,_=>QbF _
 | a::l,m,h,c=>by
  obtain⟨h1,h2⟩:=Qbi.mp h;have ha:=c a (.head _);have:=Hf (l:=l) (m:=m.erase a) h2 λx hx=>(List.mem_erase_of_ne (λz:x=a=>h1 (by rw[<-z];exact hx))).mpr (c x (.tail _ hx));rw[List.length_erase_of_mem ha] at this;have:0 < m.length:=List.length_pos_of_mem ha;simp only[QaX];omega
theorem LR {α : Type} [DecidableEq α]:∀{m l:List α},l.Nodup->(∀x∈l,x∈m)->m.length<=l.length->m.Nodup
 | [],_,_,_,_=>List.Pairwise.nil
 | a::m,l,h,c,e=>by
  by_cases q:a∈m
  ·have:=Hf (m:=m) h λx hx=>by
    rcases Qbu.mp (c x hx) with z | z
    ·exact z ▸ q
    ·exact z
   simp only[QaX] at e;omega
  ·refine Qbi.mpr ⟨q,LR (l:=l.erase a) (h.erase a) (λx hx=>?_) ?_⟩
   ·have x1:=(h.mem_erase_iff).mp hx;rcases Qbu.mp (c x x1.2) with z | z
    ·exact absurd z x1.1
    ·exact z
   ·rw[List.length_erase];simp only[QaX] at e;split <;> omega
theorem QV {vs us:YE} (p:us.Perm vs):∀{ns:List Int},IntsAre vs ns->∃ms,IntsAre us ms/\ms.Perm ns:=by
 induction p with
 | nil=>intro ns h;cases h;exact⟨[],.nil,List.Perm.refl _⟩
 | cons x _ ih=>
  intro ns h;cases h with
  | cons n t r=>
   obtain⟨ms,h1,h2⟩:=ih r;exact⟨n::ms,.cons n t h1,h2.cons _⟩
 | swap x y l=>
  intro ns h;cases h with
  | cons n t r=>
   cases r with
   | cons n2 t2 r2=>exact⟨_,.cons n2 t2 (.cons n t r2),List.Perm.swap _ _ _⟩
 | trans _ _ ih1 ih2=>
  intro ns h;obtain⟨ms,h1,h2⟩:=ih2 h;obtain⟨ks,h3,h4⟩:=ih1 h1;exact⟨ks,h3,h4.trans h2⟩
section
variable {prog:Program} {w:World} {A:Around} {E:YA} {s:Shared}
theorem Og {b:Bool} {a:Addr} {es:Array (Int×Value)} {ep:Nat} {t:SetTable} {ns:List Int} {Q:YA} (hh:A.handled=none) (RS:Dt b s.heap a es ep t) (eb:b=!w.params.followText "set-order") (h64:es.size < 64) (hi:IntsAre (es.toList.map (·.2)) ns)
  (h:∀h' tk d' D (out:Array Value) ms e,(∀c o,s.heap.get? c=some o->h'.get? c=some o)->(∀c o,s.heap.get? c=some o->c≠D)->h'.get? D=some (seqObj "list" out e)->IntsAre out.toList ms->ms.Perm ns->ms.Pairwise (·<=·)->Q (.ref D) { s with heap:=h',toks:=tk,drawn:=d' }) :
  wpAny (model prog w) A (call (.builtin "sorted") [.ref a]) Q E s:=by
 refine Calls.call_function_entry kind_sorted plain_sorted entry_sorted (args_sorted1 _) ?_;unfold Builtin.«sorted»;refine QbH (m:=checkCount "sorted" 1 1 _) (QbI ?_);have hsz:es.size < scanBound:=by unfold scanBound;omega
 refine QbH (Uj (A:=A.in1) hh RS eb hsz λh1 tk d' us kk pm=>?_);obtain⟨ms,i1,i2⟩:=QV pm hi;have ul:us.length=es.size:=by rw[pm.length_eq,Qbc,Qau]
 refine QbH (wpAny_newList ?_ (by rw[ul];exact fits_of_scanBound hsz));have hD:(h1.push (seqObj "list" us.toArray 0)).get? h1.objs.size=some (seqObj "list" us.toArray 0):=Qat _ rfl;refine QbH (Qbx (QaU slot_list_sort ⟨_,hD,rq⟩ entry_list_sort (list_sort_tree (s:={ s with heap:=h1.push (seqObj "list" us.toArray 0),toks:=tk,drawn:=d' }) hD i1 (by omega) λout ks a1 a2 a3=>⟨_,rq,?_⟩) (args_list_sort _)));obtain⟨e,he⟩:=sortedHeap_at (out:=out) hD;refine QbI ⟨_,rq,h _ tk d' _ out ks e (λc o ec=>?_) (λc o ec=>QbB (QbA (kk c o ec))) he a1 (a2.trans i2) a3⟩;have e1:=kk c o ec;have lt:=QbA e1;rw[sortedHeap_old (QbB lt) (by rw[Qbp];exact QaL lt)];exact Qaj _ e1
end
theorem Inv.TQ {X:Cx} {jb:YC} {σ : St} {H:Hp} {s:Shared} (I:Inv X jb σ H s) (d':Drawn):Inv X jb σ H { s with drawn:=d' }:=⟨I.ok,I.os,I.bare,I.base,I.loc,I.cell,I.free,I.DP,I.pin,I.hok,I.len⟩
def Rg (K:YD) (t:TA):TE:=fun σ H Q=>t σ H λvs H1=>∃(p:Addr) (ns:List Int),vs=[.ref p]/\(SqL K H1 p (ns.map V.int)\/SqT K H1 p (ns.map V.int))/\ns.length < 64 /\
 ∀(ms:List Int) l,ms.Pairwise (· < ·)->(∀k,k∈ms ↔ k∈ns)->H1 l=none->Q (.ref l) (upd H1 l (.lst (ms.map V.int)))
theorem RV {k:Int} {v:Value} (h:Value.isInt k v=true):∃t,v=.int k t:=Value.isInt_shape h
theorem Jr {prog:Program} {w:World}:∀{es:List (Int×Value)},ElemsOf (intKind prog w) es->∃ns,IntsAre (es.map (·.2)) ns/\∀k,k∈ns ↔ ∃e∈es,(intKind prog w).is k e.2=true
 | [],_=>⟨[],.nil,λk=>⟨(λh=>by cases h),λ⟨e,he,_⟩=>by cases he⟩⟩
 | e::es,h=>by
  obtain⟨⟨k,hk,_⟩,_⟩:=h.head;obtain⟨ns,h1,h2⟩:=Jr (es:=es) h.tail;obtain⟨t,et⟩:=RV hk;refine⟨k::ns,by rw[Qbv,et];exact .cons k t h1,λj=>?_⟩;rw[Qbu,h2];constructor
  ·rintro (rfl |⟨e',he,q⟩)
   ·exact⟨e,.head _,hk⟩
   ·exact⟨e',.tail _ he,q⟩
  ·rintro ⟨e',he,q⟩;rcases Qbu.mp he with rfl | he
   ·exact .inl ((intKind prog w).inj _ _ _ q hk)
   ·exact .inr ⟨e',he,q⟩
theorem Le {X:Cx} {jb:YC} {σ : St} {H:Hp} {s:Shared} {h1:Heap} {tk n:Nat} {a:Addr} {val:Nat->Int} {ns:List Int} {Q:VK} (hc:X.calm=true) (I:Inv X jb σ H s) (z:SetT (intKind X.prog X.w) (!X.w.params.followText "set-order") h1 a (λk=>decide (k∈met val n)) (met val n).length)
  (kp:∀b o,s.heap.get? b=some o->h1.get? b=some o) (hn:n=ns.length) (h64:ns.length < 64) (hval:∀j,j < n->ns[j]?=some (val j))
  (q:∀(ms:List Int) l,ms.Pairwise (· < ·)->(∀k,k∈ms ↔ k∈ns)->H l=none->Q (.ref l) (upd H l (.lst (ms.map V.int)))) :
  wpAny (model X.prog X.w) X.A (call (.builtin "sorted") [.ref a]) (EP X jb σ Q) X.xe { s with heap:=h1,toks:=tk }:=by
 obtain⟨ob,es,ep,t,⟨g1,g2,g3⟩,⟨c1,c2⟩,⟨c3,c4,c5⟩,c6⟩:=z;obtain⟨ks,k1,k2⟩:=Jr c1;have ml:=JN val n;have kl:ks.length=(met val n).length:=by
  have:=k1.length;rw[Qbc,Qau,c5] at this;exact this.symm
 have mem:∀k,k∈ks ↔ k∈met val n:=λk=>by rw[k2,<-c2,Qay]
 have nd:ks.Nodup:=LR (Ma val n) (λx hx=>(mem x).mpr hx) (by omega);have XC:∀k,k∈ks ↔ k∈ns:=λk=>by
  rw[mem,JM];constructor
  ·intro ⟨j,hj,e⟩;exact Qap (e ▸ hval j hj)
  ·intro hk;obtain⟨j,hj⟩:=Qar hk;have lj:j < n:=by rw[hn];exact (Qad.mp hj).1
   refine⟨j,lj,?_⟩;rw[hval j lj] at hj;exact Qbf hj
 refine Og (I.ok.hd hc) ⟨ob,g1,g2,g3,c4,c6⟩ rfl (by omega) k1 λh2 tk2 d' D out ms e kk nD oD a1 a2 a3=>?_;obtain⟨m,hns,_⟩:=id I.loc;have k02:∀b o,s.heap.get? b=some o->h2.get? b=some o:=λb o e=>kk b o (kp b o e);have hn2:h2.Ns X.env.locals m:=by
  obtain⟨o,es',ep',q1,q2⟩:=hns;exact⟨o,es',ep',k02 _ _ q1,q2⟩
 have rv:Vals (ms.map V.int) out.toList:=QT a1;obtain⟨hDn,I2⟩:=Oh (tk:=tk2) I hns hn2 (λb o _ e=>k02 b o e) (λb o e=>nD b o (kp b o e)) (by rw[Array.toArray_toList];exact oD) rv (by rw[Qbc,a2.length_eq,kl];omega);refine⟨.ref D,_,I2.TQ d',rq,q ms D ?_ (λk=>(a2.mem_iff).trans (XC k)) hDn⟩;have nd2:ms.Nodup:=a2.nodup_iff.mpr nd;refine (List.pairwise_and_iff.mpr ⟨a3,nd2⟩).imp λzz=>?_;obtain⟨x,y⟩:=zz;exact by omega
end L2
namespace L2
open PySem PySem.Spec PyProof.Rows
theorem MK:isSubtype (.type "list") (.type "set")=pure false:=by rw[Qbt];kernel_rfl
theorem Oa:isSubtype (.type "list") (.type "frozenset")=pure false:=by rw[Qbt];kernel_rfl
theorem Rk {X:Cx} {jb:YC} {σ : St} {H:Hp} {s:Shared} {p:Addr} {ns:List Int} {Q:YA} (hc:X.calm=true) (I:Inv X jb σ H s) (hq:SqL X.K H p (ns.map V.int)\/SqT X.K H p (ns.map V.int)) (h64:ns.length < 64)
  (h:∀(h1:Heap) (tk:Nat),SetT (intKind X.prog X.w) (!X.w.params.followText "set-order") h1 s.heap.objs.size (λk=>decide (k∈met (λi=>ns.getD i 0) ns.length)) (met (λi=>ns.getD i 0) ns.length).length->(∀b o,s.heap.get? b=some o->h1.get? b=some o)->Q (.ref s.heap.objs.size) { s with heap:=h1,toks:=tk }) :
  wpAny (model X.prog X.w) X.A (call (.type "set") [.ref p]) Q X.xe s:=by
 have vOk:∀{its:YE},IntsAre its ns->∀(i:Nat) (v:Value),its.toArray[i]?=some v->(intKind X.prog X.w).is (ns.getD i 0) v=true/\v.scannable=true:=λhi i v e=>by
  obtain⟨t,rfl⟩:=IntsAre.int_at hi i v (by rw[<-List.getElem?_toArray];exact e);exact⟨intKind_is _ _ _ _,rq⟩
 have lim:ns.length+1 < scanBound:=by unfold scanBound;omega
 rcases hq with hq | hq
 ·obtain⟨its,rv,pl,hz⟩:=I.list hq;have hi:IntsAre its ns:=intsAre_of rv;have hl:its.toArray.size=ns.length:=by rw[QaJ,hi.length]
  have il:=pl.isList;obtain⟨o,ho,cl,x⟩:=id il;refine Kl (T:="list") (n:=ns.length) (P:=λi v=>its.toArray[i]?=some v) (I.ok.hd hc) (λi=>ns.getD i 0) (vOk hi) lim ⟨o,ho,cl⟩ MK Oa (by decide) (λs1 kk=>?_) λh1 tk z kp=>h h1 tk z λb o e=>kp b o (QbA e) e;have l1:s1.heap.IsList p its.toArray:=⟨o,kk o ho,cl,x⟩;refine⟨_,λi h=>h.IsListIter s1.heap.objs.size p i/\h.IsList p its.toArray,λA E Q hQ=>QaN l1 hQ,λA hA ne=>?_,⟨⟨_,Qat _ rfl,rq,rq⟩,l1.push _⟩⟩;rw[<-hl];exact Walks.list hA _ p ne its.toArray
 ·obtain⟨its,rv,il,hz⟩:=I.tuple hq;have hi:IntsAre its ns:=intsAre_of rv;have hl:its.toArray.size=ns.length:=by rw[QaJ,hi.length]
  have il':s.heap.IsTuple p its.toArray:=il;obtain⟨o,ho,cl,x⟩:=id il';refine Kl (T:="tuple") (n:=ns.length) (P:=λi v=>its.toArray[i]?=some v) (I.ok.hd hc) (λi=>ns.getD i 0) (vOk hi) lim ⟨o,ho,cl⟩ MJ N8 (by decide) (λs1 kk=>?_) λh1 tk z kp=>h h1 tk z λb o e=>kp b o (QbA e) e;have l1:s1.heap.IsTuple p its.toArray:=⟨o,kk o ho,cl,x⟩;refine⟨_,λi h=>h.IsTupleIter s1.heap.objs.size p i/\h.IsTuple p its.toArray,λA E Q hQ=>QaE l1 hQ,λA hA ne=>?_,⟨⟨_,Qat _ rfl,rq,rq⟩,let ⟨o,e,r⟩:=l1;⟨o,Qaj _ e,r⟩⟩⟩;rw[<-hl];exact Walks.tuple hA _ p ne its.toArray
theorem Ot {X:Cx} {e:Expr} {t:TA} {q1 q2 cpos pos2:Pos} (hc:X.calm=true) (hg:Gl X "sorted") (hm:X.mg "sorted"=none) (hg2:Gl X "set") (hm2:X.mg "set"=none) (ha:PA X [e] t)
  (he:starEach [e] X.env=(false,eval e X.env)::starEach [] X.env:=by rfl) (hpl:(backTo cpos (starEach [] X.env)).any (·.1)=false:=by rfl)
  (hs0:starEach [.Call (.Name "set" q2) [e] [] cpos] X.env=[(false,eval (.Call (.Name "set" q2) [e] [] cpos) X.env)]:=by rfl) :
  PE X (.Call (.Name "sorted" q1) [.Call (.Name "set" q2) [e] [] cpos] [] pos2) (Rg X.K t):=by
 intro jb s σ H Q I h;have inner:wpAny (model X.prog X.w) X.A (eval (.Call (.Name "set" q2) [e] [] cpos) X.env) (λv s1=>∃(s0:Shared) (H1:Hp) (h1:Heap) (tk:Nat) (ns:List Int),v=.ref s0.heap.objs.size/\s1={ s0 with heap:=h1,toks:=tk }/\Inv X jb σ H1 s0/\ns.length < 64 /\
   SetT (intKind X.prog X.w) (!X.w.params.followText "set-order") h1 s0.heap.objs.size (λk=>decide (k∈met (λi=>ns.getD i 0) ns.length)) (met (λi=>ns.getD i 0) ns.length).length/\(∀b o,s0.heap.get? b=some o->h1.get? b=some o) /\
   ∀(ms:List Int) l,ms.Pairwise (· < ·)->(∀k,k∈ms ↔ k∈ns)->H1 l=none->Q (.ref l) (upd H1 l (.lst (ms.map V.int)))) X.xe s:=by
  refine QaG (Fi I hg2 hm2 (u:=.type "set") (by trivial) ?_);refine Qac (thn (ha cpos jb s σ H _ I h) λus s1 zz=>?_) he hpl;obtain⟨vs,H1,I1,r1,p,ns,ev,hq,h64,q⟩:=zz;subst ev;obtain⟨u,rfl,rx⟩:=vals1 r1;cases rx;exact Rk hc I1 hq h64 λh1 tk z kp=>⟨s1,H1,h1,tk,ns,rq,rq,I1,h64,z,kp,q⟩
 refine QaG (Fi I hg hm (u:=.builtin "sorted") (by trivial) ?_);refine PyProof.Rows.callWith_builtin1 (Q:=EP X jb σ Q) ?_ hs0 rfl;rw[hs0];show wpAny _ _ (spliced ((false,eval (.Call (.Name "set" q2) [e] [] cpos) X.env)::backTo pos2 [])) _ _ s;refine Calls.spliced_cons (thn inner λv s1 zz=>?_);obtain⟨s0,H1,h1,tk,ns,ev,es,I1,h64,z,kp,q⟩:=zz;subst ev es;refine Calls.spliced_nil ?_;exact Le hc I1 z kp rfl h64 (λj hj=>by rw[Qah hj];simp[hj]) q
theorem JK:fillsNumberSlot (.type "tuple") "mul"=pure false:=PySem.fillsNumberSlot_seq (id:="tuple.__mul__") (r:=some (.builtin "tuple.__rmul__")) PySem.F.slot_tuple_mul.lookup (by trivial) PySem.F.slot_tuple_rmul.lookup (by trivial)
theorem Ol:seqRepeat? (.type "tuple")=pure (some (.builtin "tuple.__mul__")):=by
 unfold seqRepeat?;rw[PySem.seqSlot_of (T:="tuple") (name:="__mul__") (id:="tuple.__mul__") PySem.F.slot_tuple_mul.lookup (by trivial),PySem.seqSlot_of (T:="tuple") (name:="__rmul__") (id:="tuple.__rmul__") PySem.F.slot_tuple_rmul.lookup (by trivial)];rfl
theorem Ro (k:Int) (t:Tok) (l:Addr) (items:Array Value) (n:Nat) (dd:Option Addr) (sl:YI) :
  Meets (Builtin.«int.__rmul__» ⟨[.int k t,.ref l],[]⟩) (λ_ R s=>s.heap.get? l=some { cls:=.type "tuple",dict:=dd,data:=.seq items n,slots:=sl }/\R (.ok (.ret Value.notImplemented)) s):=
 .of_wp λprog w A R s h=>by obtain⟨hp,g,d,tk,os⟩:=s;obtain⟨hl,h⟩:=h;wp_walk;exact⟨_,rfl,h⟩
theorem RM (k:Int) (t:Tok) (l:Addr) (u:Value) (n:Nat) (dd:Option Addr) (sl:YI) (h2:2<=k) (h3:k<=1000) :
  Meets (Builtin.«tuple.__mul__» ⟨[.ref l,.int k t],[]⟩) (λ_ R s=>s.heap.get? l=some { cls:=.type "tuple",dict:=dd,data:=.seq #[u] n,slots:=sl }/\R (.ok (.ret (.ref s.heap.objs.size))) { s with heap:=s.heap.push { cls:=.type "tuple",data:=.seq (List.replicate k.toNat u).toArray } }):=
 .of_wp λprog w A R s h=>by
  obtain⟨hp,g,d,tk,os⟩:=s;obtain⟨hl,h⟩:=h;have c1:((decide (k < -(2 ^ 63)) || decide (k ≥ 2 ^ 63)):Bool)=false:=by
   rw[Bool.or_eq_false_iff];exact⟨Qbd (by omega),Qbd (by omega)⟩
  have c2:(k == 1)=false:=by rw[beq_eq_false_iff_ne];omega
  have c3:decide (k<=0)=false:=Qbd (by omega)
  wp_walk
  rw[if_neg (by rw[c1];decide)]
  wp_walk
  have sz:((#[u]:Array Value).size:Int)*k=k:=by show (1:Int)*k=k;omega
  rw[if_neg (by rw[sz];show ¬k > (2 ^ 63 - 1) / 8;omega)]
  wp_walk
  rw[if_neg (by
   rw[sz];show ¬decide (k > (sizeLine:Int))=true;rw[Qay];have:(1000:Int)<=(sizeLine:Int):=by decide
   omega)]
  have ef:∀(j:Nat) (a:Array Value),List.foldl (λx1 x2=>x1++x2) a (List.replicate j #[u])=a++(List.replicate j u).toArray:=λj=>by
   induction j with
   | zero=>intro a;simp
   | succ j ih=>intro a;rw[List.replicate_succ,List.foldl_cons,ih,List.replicate_succ];apply Array.toList_inj.mp;simp
  rw[ef];unfold Builtin.Tuple.tupleExact;dsimp only;have e0:(#[]:Array Value)++(List.replicate k.toNat u).toArray=(List.replicate k.toNat u).toArray:=by apply Array.toList_inj.mp;simp
  rw[e0];exact QbH (QaO (QbI ⟨_,rq,h⟩))
theorem Rv {X:Cx}:OpR X (binaryOp .Mult) (λx y H Q=>∃(a:Addr) (v:V) (k:Int),x=.ref a/\y=.int k/\H a=some (.tup [v])/\2<=k/\k<=1000/\∀p H',H' p=some (.tup (List.replicate k.toNat v))->Same H H'->Q (.ref p) H'):=by
 intro jb s σ H x y v u Q I rx ry h;obtain⟨a,v0,k,rfl,rfl,ha,h2,h3,q⟩:=h;cases rx;obtain⟨t,rfl⟩:=ry;obtain⟨its,rv,⟨o,e,cl,n,d⟩,hz⟩:=I.tuple (SqT.of ha);cases rv with
 | cons r0 rr=>
  cases rr;rename_i u0;obtain⟨oc,od,oda,osl⟩:=o;have cl:oc=.type "tuple":=cl;have d:oda=.seq #[u0] n:=d;subst cl d;refine wpAny_binaryOp_repeat_ref (T:="tuple") (U:="int") (by decide) ⟨_,e,rq⟩ (λs'=>typeIs_int s' k t) JK F.fills_int_mul F.slot_int_rmul Ol F.slot_int_index.lookup
   (call_meets F.slot_int_rmul (typeIs_int s k t) F.entry_int_rmul (F.args_int_rmul_2 _ _) (Ro k t a #[u0] n od osl) ⟨e,rq,⟨_,e,rq⟩,call_meets F.slot_tuple_mul ⟨_,e,rq⟩ F.entry_tuple_mul (F.args_tuple_mul_2 _ _) (RM k t a u0 n od osl h2 h3) ⟨e,?_⟩⟩)
  have rep:Vals (List.replicate k.toNat v0) (List.replicate k.toNat u0):=by
   generalize k.toNat=j
   induction j with
   | zero=>exact .nil
   | succ j ih=>exact .cons r0 ih
  refine⟨.ref s.heap.objs.size,_,I.laid (t':=s.toks) (o:=.tup (List.replicate k.toNat v0)) (λb o e=>Qaj _ e) (QbE _) ⟨by rw[List.length_replicate];exact Nat.le_of_lt (Bx (by omega)),_,rep,IsTup.new _ _⟩,rq,q _ _ Ac (Ad (I.hok.fresh (QbE _)) _)⟩
end L2
namespace K54
open PySem L2
def top (i:Nat):Stmt:=PySem.Challenge.pw_warnloop_k54_fewest_claims.main.body.getD i (.Pass ⟨0,0,0,0⟩)
theorem Di:bootBuiltins "isinstance"=some (.builtin "isinstance"):=by trivial
theorem Mw:bootBuiltins "int"=some (.type "int"):=by trivial
theorem Nz:bootBuiltins "bool"=some (.type "bool"):=by trivial
theorem Gh:bootBuiltins "tuple"=some (.type "tuple"):=by trivial
theorem Kc:bootBuiltins "list"=some (.type "list"):=by trivial
theorem V1:bootBuiltins "str"=some (.type "str"):=by trivial
theorem BP:bootBuiltins "len"=some (.builtin "len"):=by trivial
theorem Ie:bootBuiltins "all"=some (.builtin "all"):=by trivial
theorem Rb:bootBuiltins "abs"=some (.builtin "abs"):=by trivial
theorem GZ:bootBuiltins "max"=some (.builtin "max"):=by trivial
theorem V3:bootBuiltins "any"=some (.builtin "any"):=by trivial
theorem Ib:bootBuiltins "sum"=some (.builtin "sum"):=by trivial
theorem V2:bootBuiltins "min"=some (.builtin "min"):=by trivial
structure Nm (mg:YB):Prop where
 isinstance:mg "isinstance"=none
 int:mg "int"=none
 bool:mg "bool"=none
 tuple:mg "tuple"=none
 list:mg "list"=none
 str:mg "str"=none
 len:mg "len"=none
 all:mg "all"=none
 abs:mg "abs"=none
 max:mg "max"=none
 min:mg "min"=none
 range:mg "range"=none
 sorted:mg "sorted"=none
 any:mg "any"=none
 sum:mg "sum"=none
 enumerate:mg "enumerate"=none
 zip:mg "zip"=none
 reversed:mg "reversed"=none
 dict:mg "dict"=none
 ord:mg "ord"=none
 set:mg "set"=none
abbrev Fw:Stmt:=top 93
abbrev GQ:YF:=["_law_script","_law_k"]
theorem Iu:Bm ["_law_script","_law_k","_law_cell"] GQ (Ah Fw):=by ac_rfl
abbrev Em:Stmt:=top 94
abbrev DW:YF:=["_law_bag_here","_law_many"]
theorem Eb:Bm ["_law_bag_here","_law_many","_law_digit","_law_primes","_law_step","_law_base","_law_found"] DW (Ah Em):=by ac_rfl
theorem Vm (v:V):isW v=(isI v&&!isB v):=by cases v <;> rfl
def Bv (H:Hp) (b:Addr) (n:Nat):Prop:=∃x y z:Int,H b=some (.lst [.int x,.int y,.int z])/\0<=x/\0<=y/\y<=4294967296/\0<=z/\z<=n
theorem Bv.same {H H':Hp} {b:Addr} {n:Nat} (h:Bv H b n) (s:Same H H'):Bv H' b n:=by
 obtain⟨x,y,z,e,r⟩:=h;exact⟨x,y,z,s _ _ e,r⟩
theorem Bv.mono {H:Hp} {b:Addr} {n m:Nat} (h:Bv H b n) (l:n<=m):Bv H b m:=by
 obtain⟨x,y,z,e,h1,h2,h3,h4,h5⟩:=h;exact⟨x,y,z,e,h1,h2,h3,h4,by omega⟩
theorem Bv.nb {H:Hp} {b p:Addr} {n:Nat} (h:Bv H b n) (hp:H p=none):b≠p:=by obtain⟨_,_,_,e,_⟩:=h;exact Bt e hp
theorem Bv.RG {H:Hp} {b:Addr} {n:Nat} (h:Bv H b n):∀xs,H b≠some (.tup xs):=λxs z=>by obtain⟨_,_,_,e,_⟩:=h;rw[e] at z;cases z
theorem Bv.ex {H:Hp} {b:Addr} {n:Nat} (h:Bv H b n):∃o,H b=some o:=by obtain⟨_,_,_,e,_⟩:=h;exact⟨_,e⟩
theorem Bv.Oj {H H':Hp} {a b:Addr} {n:Nat} (h:Bv H b n) (s:Am a H H') (ne:b≠a):Bv H' b n:=by
 obtain⟨x,y,z,e,r⟩:=h;exact⟨x,y,z,s _ _ e ne,r⟩
theorem Af {n:Nat} (h:n<=1000):n<=sizeLine:=Nat.le_of_lt (Bx h)
inductive Oe (K:YD) (vs:YG) (H:Hp) (Q:VK) (E:XK):Prop
 | mk (a:Addr) (ns:List Int) (k:Int) (_:vs=[.ref a,.int k]) (_:SqL K H a (ns.map V.int)) (_:ns.length<=63) (_:0<=k) (_:k<=100) (_:∀p o,H p=none->Bv (upd H p o) p 0->Q (.ref p) (upd H p o)):Oe K vs H Q E
inductive Hx (vs:YG) (H:Hp) (Q:VK) (E:XK):Prop
 | mk (b:Addr) (n:Nat) (m:Int) (_:vs=[.ref b,.int m]) (_:Bv H b n) (_:n<=10000) (_:0 < m) (_:m < 1073741824) (_:∀r H',0<=r->r < m->Bv H' b (n+1)->Am b H H'->Q (.int r) H'):Hx vs H Q E
inductive Jd (K:YD) (vs:YG) (H:Hp) (Q:VK) (E:XK):Prop
 | mk (a:Addr) (ns:List Int) (_:vs=[.ref a]) (_:SqL K H a (ns.map V.int)) (_:ns.length<=63) (_:∀H',Q (.bl true) H'):Jd K vs H Q E
theorem at7 {i:Int} (h0:0<=i) (h7:i < 7) {a b c d e f g:Int} (P:Int->Prop) (ha:P a) (hb:P b) (hc:P c) (hd:P d) (he:P e) (hf:P f) (hg:P g):∃p,atI [V.int a,.int b,.int c,.int d,.int e,.int f,.int g] i=some (.int p)/\P p:=by
 have:i=0\/i=1\/i=2\/i=3\/i=4\/i=5\/i=6:=by omega
 rcases this with rfl | rfl | rfl | rfl | rfl | rfl | rfl
 ·exact⟨_,rq,ha⟩
 ·exact⟨_,rq,hb⟩
 ·exact⟨_,rq,hc⟩
 ·exact⟨_,rq,hd⟩
 ·exact⟨_,rq,he⟩
 ·exact⟨_,rq,hf⟩
 ·exact⟨_,rq,hg⟩
theorem VH {x:Int} {b:Bool}:Qd x (if b=true then 1 else 0):=.inr (by cases b <;> exact⟨by decide,by decide⟩)
section
variable {P:Program} {w:World} {K:YD} {mg:YB} {base:Heap}
theorem Ry (C:Code K mg "_law_bag" Fw GQ) (T:Nm mg):Good P w K mg base "_law_bag" 1 GQ (Oe K):=by
 refine C.good Iu (λvs H Q E h=>?_) (λf cdv A outer s H vs Q E hr h=>?_)
 ·obtain⟨a,ns,k,rfl,_⟩:=h;rfl
 obtain⟨a,ns,k,rfl,hS,h63,h0,h1,q⟩:=h;refine⟨_,(Ag (Bd (i:=2) Iu.nd rfl (Or.inl rfl) (Ai Bk (Ai Bk (Ai DN (Ai DN Ae (pv 1)) (pv 1)) (Ai DN Ae (pv 1))) Ae))
 (Ag (BW (Bs Ow (pv 1) (Ak Aq rfl T.len BP (Aa (pv 0) Ab)) (Bq _)) (Al (Bd (i:=2) Iu.nd rfl (Or.inl rfl) (Cg Dy (pv 0) (pv 1) (λ_ _=>rfl)))) Bl)
 (Al (Av (GF (Aa (Ai DN (Ak Mv rfl T.abs Rb (Aa (pv 2) Ab)) (Cy Ko rfl T.int Mw (Aa (Fy Tg (Ak Mv rfl T.abs Rb (Aa (pv 2) Ab)) (Ai QB Ae Ae) (Bq _)) Ab))) (Aa (Ai Bk (Ai Ga (pv 2) Ae) (Ai DN Ae (pv 1))) (Aa Ae Ab)))))))),?_⟩
 show let R0:TS:=_;let R1:TS:=_;let R2:TS:=Ao (Hu _ R1 _) R0;Ao _ R2 _ _ _;intro R0 R1 R2;refine⟨_,rq,_,_,rq,rq,.inl ⟨by decide,by decide⟩,_,rq,_,_,rq,rq,.inr ⟨by omega,by omega⟩,_,rq,_,_,rq,rq,.inl ⟨by decide,by decide⟩,_,_,rq,rq,_,_,rq,rq,?_⟩;refine⟨_,rq,_,rq,a,_,rq,.inl hS,_,_,rq,rq,_,rq,?_⟩;have hl:(ns.map V.int).length=ns.length:=Qbc _;have fin:∀(c:Int) (p:Addr),H p=none->Q (.ref p) (upd H p (.lst [.int ((if c < 0 then -c else c)*(if decide ((10:Int) ^ (18:Int).toNat<=(if c < 0 then -c else c))=true then 1 else 0)),.int (c % 2147483647+37*k),.int 0])):=λc p hp=>by
  refine q p _ hp ⟨_,_,_,Ac,?_,?_,?_,by omega,by omega⟩
  ·refine Int.mul_nonneg ?_ ?_
   ·split <;> omega
   ·split <;> omega
  ·have:=Qbm c (show (2147483647:Int)≠0 by decide);omega
  ·have:=QaI c (show (0:Int) < 2147483647 by decide);omega
 refine Vl (λc1=>?_) (λc1=>?_)
 ·have c':k < (((ns.map V.int).length:Nat):Int):=of_decide_eq_true c1;rw[hl] at c';have hk:k.toNat < ns.length:=by omega
  have hat:atI (ns.map V.int) ((k.toNat:Nat):Int)=some (.int ns[k.toNat]):=Kd (by rw[QaK];simp[hk]);rw[Int.toNat_of_nonneg h0] at hat;refine⟨_,rq,_,rq,a,_,_,_,rq,rq,hS,hat,?_⟩;exact⟨_,rq,_,rq,_,rq,_,rq,_,_,rq,rq,⟨by decide,by decide,by decide⟩,_,_,rq,rq,.inr ⟨_,rq,_,_,rq,rq,VH,_,rq,_,_,rq,rq,(by show (0:Int) < 2147483647;decide),_,rq,_,_,rq,rq,.inl ⟨by decide,by decide⟩,_,_,rq,rq,
   (by show 3<=sizeLine;decide),λl hl'=>fin _ l hl'⟩⟩
 ·exact⟨_,rq,_,rq,_,rq,_,rq,_,_,rq,rq,⟨by decide,by decide,by decide⟩,_,_,rq,rq,.inr ⟨_,rq,_,_,rq,rq,VH,_,rq,_,_,rq,rq,(by show (0:Int) < 2147483647;decide),_,rq,_,_,rq,rq,.inl ⟨by decide,by decide⟩,_,_,rq,rq,
   (by show 3<=sizeLine;decide),λl hl'=>fin _ l hl'⟩⟩
theorem QC (C:Code K mg "_law_take" Em DW) (T:Nm mg):Good P w K mg base "_law_take" 1 DW Hx:=by
 refine C.good Eb (λvs H Q E h=>?_) (λf cdv A outer s H vs Q E hr h=>?_)
 ·obtain⟨b,n,m,rfl,_⟩:=h;rfl
 obtain⟨b,n,m,rfl,⟨x,y,z,hb,x0,y0,y1,z0,z1⟩,hn,m0,m1,q⟩:=h;refine⟨_,(Ag (BW (Bs Jj (Cg Dy (pv 0) Ae (λ_ _=>rfl)) Ae (Bq _)) (Ag (Bd (i:=2) Eb.nd rfl (Or.inl rfl) (Ai Ga (Cg Dy (pv 0) Ae (λ_ _=>rfl)) (pv 1)))
 (Ag (FQ (Ai JF (Cg Dy (pv 0) Ae (λ_ _=>rfl)) (pv 1)) (Qw (pv 0) Ae set_list))
 (Al (Av (pv 2))))) Bl)
 (Ag (Bd (i:=3) Eb.nd rfl (Or.inl rfl) (@Aj _ _ _ _ _ (@Aa _ _ _ _ _ (@Ae _ _ _ _) (@Aa _ _ _ _ _ (@Ae _ _ _ _) (@Aa _ _ _ _ _ (@Ae _ _ _ _) (@Aa _ _ _ _ _ (@Ae _ _ _ _) (@Aa _ _ _ _ _ (@Ae _ _ _ _) (@Aa _ _ _ _ _ (@Ae _ _ _ _) (@Aa _ _ _ _ _ (@Ae _ _ _ _) (@Ab _) CW) CW) CW) CW) CW) CW) CW)))
 (Ag (FQ (Ai Bk (Cg Dy (pv 0) Ae (λ_ _=>rfl)) Ae) (Qw (pv 0) Ae set_list))
 (Ag (Bd (i:=4) Eb.nd rfl (Or.inl rfl) (Cg Dy (pv 0) Ae (λ_ _=>rfl)))
 (Ag (Bd (i:=5) Eb.nd rfl (Or.inl rfl) (Ai Bk (Ai Bk (Ai DN (Cg Dy (pv 0) Ae (λ_ _=>rfl)) (Ai Bk (Ai DN Ae (pv 4)) Ae)) (Ai DN (Ai DN Ae (pv 4)) (pv 4))) Ae))
 (Ag (Bd (i:=6) Eb.nd rfl (Or.inl rfl) (Ai Ga (Ai QB (pv 5) Ae) (Cg El (pv 3) (Ai Ga (pv 4) Ae) (λ_ _=>rfl))))
 (Al (Av (Ai Ga (Ai JF (Ai Ga (Ai DN (pv 6) (Ai Bk (Ai JF (pv 6) Ae) Ae)) (Cg El (pv 3) (Ai Ga (Ai Bk (pv 4) Ae) Ae) (λ_ _=>rfl))) Ae) (pv 1)))))))))),?_⟩
 show let R0:TS:=_;let R1:TS:=Ao _ R0;let R2:TS:=Ao _ R1;let R3:TS:=Ao _ R2;let R4:TS:=Ao _ R3;let R5:TS:=Ao _ R4;let R6:TS:=Ao _ _;let R7:TS:=Ao _ R6;Ao (Hu _ R7 _) R5 _ _ _;intro R0 R1 R2 R3 R4 R5 R6 R7;refine⟨_,rq,b,_,_,_,rq,rq,SqL.of hb,rq,_,_,rq,rq,_,rq,?_⟩;refine Vl (λc1=>?_) (λc1=>?_)
 ·have c':0 < x:=of_decide_eq_true c1;refine⟨_,rq,b,_,_,_,rq,rq,SqL.of hb,rq,_,rq,_,_,rq,rq,m0,?_⟩;refine⟨_,rq,b,_,_,_,rq,rq,SqL.of hb,rq,_,rq,_,_,rq,rq,⟨m0,m1⟩,_,rq,b,_,_,_,rq,rq,hb,rq,?_⟩;exact⟨_,rq,q _ _ (Qbm x (by omega)) (QaI x m0) ⟨x / m,y,z,Ac,Int.ediv_nonneg x0 (by omega),y0,y1,z0,by omega⟩ Am.upd⟩
 ·refine⟨(by show 7<=sizeLine;decide),λtp htp=>?_⟩;have nbt:b≠tp:=Bt hb htp;have hb1:∀o,(upd H tp o) b=some (.lst [.int x,.int y,.int z]):=λo=>by rw[Aw nbt];exact hb
  have ht1:∀o u,(upd (upd H tp o) b u) tp=some o:=λo u=>by rw[Aw nbt.symm,Ac]
  refine⟨_,rq,b,_,_,_,rq,rq,SqL.of (hb1 _),rq,_,_,rq,rq,_,rq,b,_,_,_,rq,rq,hb1 _,rq,?_⟩;refine⟨_,rq,b,_,_,_,rq,rq,SqL.of Ac,rq,?_⟩;have s0:0<=z+1:=by omega
  have s1:z+1<=10001:=by omega
  refine⟨_,rq,b,_,_,_,rq,rq,SqL.of Ac,rq,_,rq,_,_,rq,rq,.inl ⟨by decide,by decide⟩,_,_,rq,rq,_,_,rq,rq,.inl ⟨by omega,by omega⟩,_,rq,_,_,rq,rq,.inl ⟨by decide,by decide⟩,_,rq,_,_,rq,rq,.inr ⟨by omega,by omega⟩,
   _,_,rq,rq,_,_,rq,rq,?_⟩
  have hbase:(y*(2*(z+1)+1)+6007*(z+1)*(z+1)+29).natAbs < 2 ^ 64:=by
   have h1:0<=y*(2*(z+1)+1):=Int.mul_nonneg y0 (by omega);have h2:y*(2*(z+1)+1)<=4294967296*20003:=Int.mul_le_mul y1 (by omega) (by omega) (by omega);have h3:0<=6007*(z+1)*(z+1):=Int.mul_nonneg (by omega) s0;have h4:6007*(z+1)*(z+1)<=(6007*10001)*10001:=Int.mul_le_mul (by omega) s1 s0 (by omega);omega
  obtain⟨p1,e1,p10,p11⟩:=at7 (i:=(z+1) % 7) (Qbm _ (by decide)) (QaI _ (by decide)) (a:=2147483629) (b:=2147483587) (c:=2147483579) (d:=2147483563) (e:=2147483549) (f:=2147483543) (g:=2147483497)
   (λp=>0 < p/\p < 2147483648) (by decide) (by decide) (by decide) (by decide) (by decide) (by decide) (by decide)
  obtain⟨p2,e2,p20,p21⟩:=at7 (i:=(z+1+3) % 7) (Qbm _ (by decide)) (QaI _ (by decide)) (a:=2147483629) (b:=2147483587) (c:=2147483579) (d:=2147483563) (e:=2147483549) (f:=2147483543) (g:=2147483497)
   (λp=>0 < p/\p < 2147483648) (by decide) (by decide) (by decide) (by decide) (by decide) (by decide) (by decide)
  refine⟨_,rq,_,_,rq,rq,⟨by decide,by decide,hbase⟩,_,rq,_,rq,_,_,rq,rq,(by show (0:Int) < 7;decide),tp,_,_,_,rq,rq,SqT.of (ht1 _ _),e1,_,_,rq,rq,p10,?_⟩;generalize hF:(y*(2*(z+1)+1)+6007*(z+1)*(z+1)+29) ^ (3:Int).toNat % p1=F;have F0:0<=F:=by rw[<-hF];exact Qbm _ (by omega)
  have F1:F < p1:=by rw[<-hF];exact QaI _ p10
  refine⟨_,rq,_,rq,_,_,rq,rq,⟨by decide,by decide⟩,_,_,rq,rq,_,_,rq,rq,.inl ⟨by omega,by omega⟩,_,rq,_,rq,_,_,rq,rq,_,_,rq,rq,(by show (0:Int) < 7;decide),tp,_,_,_,rq,rq,SqT.of (ht1 _ _),e2,_,_,rq,rq,p20,
   _,_,rq,rq,⟨by decide,by decide⟩,_,rq,_,_,rq,rq,m0,?_⟩
  refine q _ _ (Qbm _ (by omega)) (QaI _ m0) ⟨x,y,z+1,Ac,x0,y0,y1,s0,by omega⟩ λc o e nc=>?_;rw[Aw nc,Aw (Bt e htp)];exact e
end
abbrev Dv:Stmt:=top 6
abbrev Ej:YF:=["thing"]
theorem MP:Bm ["thing"] Ej (Ah Dv):=by ac_rfl
abbrev Dk:Stmt:=top 7
abbrev Cj:YF:=["thing","low","high"]
theorem Li:Bm ["thing","low","high"] Cj (Ah Dk):=by ac_rfl
abbrev Ep:Stmt:=top 8
abbrev CZ:YF:=["thing","least","most"]
theorem Qq:Bm ["thing","least","most"] CZ (Ah Ep):=by ac_rfl
abbrev Cv:Stmt:=top 85
abbrev Dg:YF:=["thing"]
theorem Jy:Bm ["thing"] Dg (Ah Cv):=by ac_rfl
abbrev Dl:Stmt:=top 10
abbrev DK:YF:=["row"]
theorem Lj:Bm ["row"] DK (Ah Dl):=by ac_rfl
abbrev Bo:Stmt:=top 11
abbrev BL:YF:=["thing","least","most","low","high"]
theorem G7:Bm BL BL (Ah Bo):=by ac_rfl
abbrev Ca:Stmt:=top 84
abbrev Cz:YF:=["thing","weights","most"]
theorem DR:Bm ["thing","weights","most","first","last"] Cz (Ah Ca):=by ac_rfl
theorem Q9 {X:Cx} {K:YD} (h:X.K=K) (hc:X.calm=true):Dd X (.builtin "sum") (λxs H Q=>∃(p:Addr) (ns:List Int),xs=[.ref p]/\(SqL K H p (ns.map V.int)\/SqT K H p (ns.map V.int))/\Q (.int ns.sum) H):=h ▸ Gd hc
theorem BR {i:Nat} {v:V} {σ : St} {H:Hp} {Q:YO} (h:Q (σ.set i (some v)) H):Pq i v σ H Q:=h
inductive Ri (vs:YG) (H:Hp) (Q:VK) (E:XK):Prop
 | mk (v) (_:vs=[v]) (_:Kn H v) (_:Q (.bl (isW v)) H):Ri vs H Q E
def Dz (o:Option (YG)) (a b:Int):Bool:=match o with
 | some xs=>decide (a<=xs.length)&&decide ((xs.length:Int)<=b)
 | none=>false
inductive Fz (vs:YG) (H:Hp) (Q:VK) (E:XK):Prop
 | mk (v a b) (_:vs=[v,.int a,.int b]) (_:Kn H v) (_:Q (.bl (Dz (Eh H v) a b)) H):Fz vs H Q E
theorem Ub {v:V} (h:isW v=true):∃i,v=.int i:=by
 cases v with
 | int i=>exact⟨i,rfl⟩
 | _=>cases h
def wiB (v:V) (lo hi:Int):Bool:=match v with
 | .int i=>decide (lo<=i)&&decide (i<=hi)
 | _=>false
inductive Ih (vs:YG) (H:Hp) (Q:VK) (E:XK):Prop
 | mk (v lo hi) (_:vs=[v,.int lo,.int hi]) (_:Kn H v) (_:Q (.bl (wiB v lo hi)) H):Ih vs H Q E
def oV:Option Int->V
 | some i=>.int i
 | none=>.non
theorem Wq {H:Hp} (o:Option Int):Kn H (oV o):=by cases o <;> exact True.intro
def Gi (H:Hp) (v:V):Option (List (Option Int))->Prop
 | some ws=>∃t,v=.ref t/\H t=some (.tup (ws.map oV))
 | none=>Kn H v/\Eh H v=none
def Fp (H:Hp) (v:V):Option (List Int)->Prop
 | some gs=>∃t,v=.ref t/\H t=some (.tup (gs.map V.int))
 | none=>Kn H v/\Eh H v=none
def Ew (H:Hp) (v:V):Option (Int×Int)->Prop
 | some p=>∃t,v=.ref t/\H t=some (.tup [.int p.1,.int p.2])
 | none=>v=.non
def Ey (H:Hp) (v:V):Option (List (Option (Int×Int)))->Prop
 | some ps=>∃t vs,v=.ref t/\H t=some (.tup vs)/\Paired (Ew H) vs ps
 | none=>Kn H v/\Eh H v=none
theorem G4 {H H':Hp} (s:Same H H') {v:V} (k:Kn H v):Eh H' v=Eh H v:=by
 cases v with
 | ref a=>
  rcases k with⟨xs,e⟩|⟨xs,e⟩
  ·rw[Ea e,Ea (s _ _ e)]
  ·rw[CV e,CV (s _ _ e)]
 | _=>rfl
theorem Gi.same {H H':Hp} {v:V} {W:Option (List (Option Int))} (h:Gi H v W) (s:Same H H'):Gi H' v W:=by
 cases W with
 | some ws=>obtain⟨t,e,h⟩:=h;exact⟨t,e,s _ _ h⟩
 | none=>exact⟨Kn.same s h.1,by rw[G4 s h.1];exact h.2⟩
theorem Fp.same {H H':Hp} {v:V} {W:Option (List Int)} (h:Fp H v W) (s:Same H H'):Fp H' v W:=by
 cases W with
 | some ws=>obtain⟨t,e,h⟩:=h;exact⟨t,e,s _ _ h⟩
 | none=>exact⟨Kn.same s h.1,by rw[G4 s h.1];exact h.2⟩
theorem Ew.tups {H H':Hp} (s:Ar H H') {v:V} {o:Option (Int×Int)} (h:Ew H v o):Ew H' v o:=by
 cases o with
 | some p=>obtain⟨t,e,h⟩:=h;exact⟨t,e,s _ _ h⟩
 | none=>exact h
theorem Sps.tups {H H':Hp} (s:Ar H H') {vs:YG} {ps:List (Option (Int×Int))} (h:Paired (Ew H) vs ps):Paired (Ew H') vs ps:=Paired.OJ h λ_ _ z=>z.tups s
theorem Ey.same {H H':Hp} {v:V} {W:Option (List (Option (Int×Int)))} (h:Ey H v W) (s:Same H H'):Ey H' v W:=by
 cases W with
 | some ws=>obtain⟨t,vs,e,h,p⟩:=h;exact⟨t,vs,e,s _ _ h,Sps.tups (Ar.of s) p⟩
 | none=>exact⟨Kn.same s h.1,by rw[G4 s h.1];exact h.2⟩
theorem Gi.kn {H:Hp} {v:V} {W:Option (List (Option Int))} (h:Gi H v W):Kn H v:=by
 cases W with
 | some ws=>obtain⟨t,rfl,h⟩:=h;exact .inr ⟨_,h⟩
 | none=>exact h.1
theorem Fp.kn {H:Hp} {v:V} {W:Option (List Int)} (h:Fp H v W):Kn H v:=by
 cases W with
 | some ws=>obtain⟨t,rfl,h⟩:=h;exact .inr ⟨_,h⟩
 | none=>exact h.1
theorem Ew.kn {H:Hp} {v:V} {o:Option (Int×Int)} (h:Ew H v o):Kn H v:=by
 cases o with
 | some p=>obtain⟨t,rfl,h⟩:=h;exact .inr ⟨_,h⟩
 | none=>rw[show v=.non from h];exact True.intro
theorem Ey.kn {H:Hp} {v:V} {W:Option (List (Option (Int×Int)))} (h:Ey H v W):Kn H v:=by
 cases W with
 | some ws=>obtain⟨t,vs,rfl,h,_⟩:=h;exact .inr ⟨_,h⟩
 | none=>exact h.1
def wtB:Option (List (Option Int))->Bool
 | some ws=>Dz (some (ws.map oV)) 1 30&&ws.all λo=>wiB (oV o) 0 9
 | none=>false
def adj {α : Type} (l:List α):List (α×α):=l.zip l.tail
theorem Ke {α : Type} (l:List α):(adj l).length=l.length - 1:=by unfold adj;rw[List.length_zip,Qba];omega
theorem Mz {α : Type} {l:List α} {i:Nat} {x y:α} (hx:l[i]?=some x) (hy:l[i+1]?=some y):(adj l)[i]?=some (x,y):=by
 unfold adj;rw[List.getElem?_zip_eq_some];exact⟨hx,by rw[List.getElem?_tail];exact hy⟩
def Jz (gs:List Int):Bool:=(adj gs).all λp=>decide (p.1 < p.2)
def gB (a b lo hi:Int):Option (List Int)->Bool
 | some gs=>Dz (some (gs.map V.int)) a b&&((gs.all λg=>wiB (.int g) lo hi)&&Jz gs)
 | none=>false
def Py (xs:List Int) (lo hi:Option Int):List Int:=(xs.drop (HT.sIx xs.length 0 lo)).take (HT.sIx xs.length xs.length hi - HT.sIx xs.length 0 lo)
theorem Gb (xs:List Int) (lo hi:Option Int):Ds (xs.map V.int) lo hi=(Py xs lo hi).map V.int:=by
 unfold Ds Py;rw[Qbc,List.map_take,List.map_drop]
def Cu (ws:List Int) (a b:Int):Int:=(Py ws (some a) (some b)).sum
def hvB (ws:List Int) (m:Int):Option (Int×Int)->Bool
 | some p=>wiB (.int p.1) 0 ((ws.length:Int) - 1)&&(wiB (.int p.2) (p.1+1) ((ws.length:Int) - 1)&&decide (Cu ws p.1 (p.2+1) > m))
 | none=>false
inductive Ld (vs:YG) (H:Hp) (Q:VK) (E:XK):Prop
 | mk (v W) (_:vs=[v]) (_:Gi H v W) (_:(∀ws,W=some ws->ws.length<=100)) (_:∀H',Same H H'->Q (.bl (wtB W)) H'):Ld vs H Q E
inductive Ob (vs:YG) (H:Hp) (Q:VK) (E:XK):Prop
 | mk (t gs) (_:vs=[.ref t]) (_:H t=some (.tup (gs.map V.int))) (_:gs.length<=100) (_:∀H',Same H H'->Q (.bl (Jz gs)) H'):Ob vs H Q E
inductive K9 (vs:YG) (H:Hp) (Q:VK) (E:XK):Prop
 | mk (v a b lo hi G) (_:vs=[v,.int a,.int b,.int lo,.int hi]) (_:Fp H v G) (_:(∀gs,G=some gs->gs.length<=100)) (_:∀H',Same H H'->Q (.bl (gB a b lo hi G)) H'):K9 vs H Q E
inductive Jx (vs:YG) (H:Hp) (Q:VK) (E:XK):Prop
 | mk (v o t ws m) (_:vs=[v,.ref t,.int m]) (_:Ew H v o) (_:H t=some (.tup (ws.map V.int))) (_:∀H',Same H H'->Q (.bl (hvB ws m o)) H'):Jx vs H Q E
theorem take_snoc {α : Type} {l:List α} {i:Nat} {x:α} (h:l[i]?=some x):l.take (i+1)=l.take i++[x]:=by
 rw[List.take_add_one,h];rfl
theorem Jh {α β : Type} {F:α->β->Prop}:∀{l:List α} {m:List β} {i:Nat} {x:α},Paired F l m->l[i]?=some x->∃y,m[i]?=some y/\F x y
 | _,_,_,_,.nil,h=>by cases h
 | _,_,0,_,.cons a r,h=>by cases h;exact⟨_,rfl,a⟩
 | _,_,i+1,_,.cons a r,h=>Jh (i:=i) r h
theorem all_map {α : Type} (f:α->Bool) (l:List α):(l.map f).all id=l.all f:=by rw[List.all_map];rfl
theorem Pz {α : Type} (xs:YG):Ds xs (some 1) none=xs.tail:=by
 unfold Ds;cases xs with
 | nil=>simp
 | cons x r=>
  rw[HT.Rn,show (some (1:Int))=some ((1:Nat):Int) from rfl,HT.TJ,Nat.min_eq_left (by rw[QaX];omega)]
  rw[show (x::r).drop 1=r from rfl]
  exact List.take_of_length_le (by rw[QaX];omega)
section
variable {P:Program} {w:World} {K:YD} {mg:YB} {base:Heap}
theorem Ly (c:Code K mg "is_whole" Dv Ej) (T:Nm mg):Good P w K mg base "is_whole" 1 Ej Ri:=by
 refine c.good MP (λvs H Q E h=>?_) (λf cdv A outer s H vs Q E hr h=>?_)
 ·obtain⟨v,rfl,_⟩:=h;rfl
 obtain⟨v,rfl,k,q⟩:=h;refine⟨_,(Al (Av (GK (Ak Gf rfl T.isinstance Di (Aa (pv 0) (Aa (GJ (v:=.ty "int") rfl T.int Mw rfl) Ab))) (GD (U8 (Ak Gf rfl T.isinstance Di (Aa (pv 0) (Aa (GJ (v:=.ty "bool") rfl T.bool Nz rfl) Ab)))))))),?_⟩;refine⟨_,rq,Ua k ⟨_,rq,?_⟩⟩;rw[Vm] at q;cases e:isI v with
 | false=>rw[e] at q;exact Bj q
 | true=>rw[e] at q;exact Ba ⟨_,rfl,Mp e ⟨_,rfl,q⟩⟩
theorem QD (c:Code K mg "is_row" Ep CZ) (T:Nm mg):Good P w K mg base "is_row" 1 CZ Fz:=by
 refine c.good Qq (λvs H Q E h=>?_) (λf cdv A outer s H vs Q E hr h=>?_)
 ·obtain⟨v,a,b,rfl,_⟩:=h;rfl
 obtain⟨v,a,b,rfl,k,q⟩:=h;refine⟨_,(Al (Av (GK (Ak Gf rfl T.isinstance Di (Aa (pv 0) (Aa (GJ (v:=.ty "tuple") rfl T.tuple Gh rfl) Ab))) (GD (Lw Gm Gm (pv 1) (Ak Aq rfl T.len BP (Aa (pv 0) Ab)) (pv 2)))))),?_⟩;refine⟨_,rq,QL k ⟨_,rq,?_⟩⟩;cases e:Eh H v with
 | none=>rw[e] at q;exact Bj q
 | some xs=>
  rw[e] at q;obtain⟨p,rfl,hp⟩:=RD e;refine Ba ⟨_,rq,_,rq,p,xs,rq,.inr (SqT.of hp),_,_,rq,rq,_,rq,?_⟩;by_cases h1:a<=(xs.length:Int)
  ·rw[Qbo h1];refine Ba ⟨_,rq,_,_,rq,rq,?_⟩;simpa [Dz,h1] using q
  ·rw[Qbd h1];refine Bj ?_;simpa [Dz,h1] using q
theorem Ky (c:Code K mg "is_within" Dk Cj) (T:Nm mg) (Pn:Good P w K mg base "is_whole" 1 Ej Ri):Good P w K mg base "is_within" 2 Cj Ih:=by
 refine c.good Li (λvs H Q E h=>?_) (λf cdv A outer s H vs Q E hr h=>?_)
 ·obtain⟨v,lo,hi,rfl,_⟩:=h;rfl
 obtain⟨v,lo,hi,rfl,k,q⟩:=h;refine⟨_,(Al (Av (GK (Lx Pn hr (Aa (pv 0) Ab)) (GD (Lw Gm Gm (pv 1) (pv 0) (pv 2)))))),?_⟩;refine⟨_,rq,v,rq,k,_,rq,?_⟩;cases ew:isW v with
 | false=>
  have:wiB v lo hi=false:=by cases v <;> first | rfl | cases ew
  rw[this] at q;exact Bj q
 | true=>
 obtain⟨x,rfl⟩:=Ub ew;have q:Q (.bl (decide (lo<=x)&&decide (x<=hi))) H:=q;refine Ba ⟨_,rq,_,rq,_,_,rq,rq,_,rq,?_⟩;by_cases h1:lo<=x
 ·rw[Qbo h1];rw[Qbo h1,Qbw] at q;exact Ba ⟨_,rq,_,_,rq,rq,q⟩
 ·rw[Qbd h1];rw[Qbd h1,Qbr] at q;exact Bj q
theorem JG (c:Code K mg "are_weights" Cv Dg) (T:Nm mg) (Dc:Good P w K mg base "is_row" 1 CZ Fz) (Ck:Good P w K mg base "is_within" 2 Cj Ih):Good P w K mg base "are_weights" 3 Dg Ld:=by
 refine c.good Jy (λvs H Q E h=>?_) (λf cdv A outer s H vs Q E hr h=>?_)
 ·obtain⟨v,W,rfl,_⟩:=h;rfl
 obtain⟨v,W,rfl,rw',few,q⟩:=h;refine⟨_,(Al (Av (GK (Dr Dc hr (Aa (pv 0) (Aa Ae (Aa Ae Ab)))) (GD (Ak (Gg rfl) rfl T.all Ie (Aa (Er (N':=["part"]) rfl (CG.plain rfl (by trivial) (by trivial) (by trivial)) (HJ (pv 0)) (λ_ _ _ _=>(Ax (i:=0) (show List.Nodup (["part"]:YF) by trivial) rfl (Or.inl rfl))) (λ_ _ _ _=>FT) (λ_ _ _ _=>(Dr Ck hr (Aa (pv 0) (Aa Ae (Aa Ae Ab)))))) Ab)))))),?_⟩;refine⟨_,rq,v,1,30,rq,rw'.kn,_,rq,?_⟩;cases W with
 | none=>
  rw[rw'.2];exact Bj (q _ (Same.refl _))
 | some ws=>
  obtain⟨t,rfl,ht⟩:=rw';rw[CV ht];have fl:=few ws rfl;have q:∀H',Same H H'->Q (.bl (Dz (some (ws.map oV)) 1 30&&ws.all λo=>wiB (oV o) 0 9)) H':=q;cases eb:Dz (some (ws.map oV)) 1 30 with
  | false=>rw[eb] at q;exact Bj (q _ (Same.refl _))
  | true=>
   rw[eb] at q;refine Ba ⟨_,rq,t,rq,⟨_,SqT.of ht⟩,λl hl=>?_⟩;let J0:YN:=λ(i:Nat) (σ : St) (HH:Hp)=>∃(u:Option V),σ=[u]/\HH l=some (.lst (((ws.take i).map λo=>wiB (oV o) 0 9).map V.bl))/\Same H HH;refine IW (xs:=ws.map oV) J0 ⟨_,rq,Ac,Ad hl _⟩ (λi σ HH _ h=>?_) (λi x σ HH hx h=>?_) (fun σ HH h=>?_)
   ·obtain⟨u,rfl,e1,e2⟩:=h;exact SqT.of (e2 _ _ ht)
   ·obtain⟨u,rfl,e1,e2⟩:=h;rw[QaK] at hx;obtain⟨o,ho,rfl⟩:=Qak.mp hx;have hi:i < ws.length:=(Qad.mp ho).1;refine BR (Ba ⟨_,rq,oV o,0,9,rq,Wq o,_,e1,Bx (by rw[Qbc,Qbc,QaV];omega),_,rq,?_,e2.Cq Am.upd hl⟩);rw[Ac,take_snoc ho,Qbe,Qbe];rfl
   obtain⟨u,rfl,e1,e2⟩:=h;rw[Qbc,QaZ] at e1;refine⟨l,_,rq,SqL.of e1,?_⟩;rw[all_map];exact q _ e2
abbrev xa:YF:=["one","other"]
theorem Lz (c:Code K mg "is_rising" Dl DK) (T:Nm mg):Good P w K mg base "is_rising" 1 DK Ob:=by
 refine c.good Lj (λvs H Q E h=>?_) (λf cdv A outer s H vs Q E hr h=>?_)
 ·obtain⟨t,gs,rfl,_⟩:=h;rfl
 obtain⟨t,gs,rfl,ht,few,q⟩:=h;refine⟨_,(Al (Av (Ak (Gg rfl) rfl T.all Ie (Aa (Er (N':=xa) rfl (CG.plain rfl (by trivial) (by trivial) (by trivial)) (Iw rfl T.zip (Aa (pv 0) (Aa (Bg Br (pv 0) (Bc Ae) Cd) Ab))) (λ_ _ _ _=>(JD (K:=K) (n:=2) rfl rfl (Bb (Ax (i:=0) (show List.Nodup (xa:YF) by trivial) rfl (Or.inl rfl)) (Bb (Ax (i:=1) (show List.Nodup (xa:YF) by trivial) rfl (Or.inl rfl)) Dm)))) (λ_ _ _ _=>FT) (λ_ _ _ _=>(Fy Ow (pv 0) (pv 1) (Bq _)))) Ab)))),?_⟩;refine⟨_,rq,_,rq,_,rq,t,_,rq,ht,λu H1 hu s1=>?_⟩;rw[Pz (α:=Unit),<-List.map_tail] at hu;have ht1:=s1 _ _ ht;refine⟨t,u,rq,⟨_,ht1⟩,⟨_,hu⟩,λl hl=>?_⟩;have q:∀H',Same H H'->Q (.bl ((adj gs).all λp=>decide (p.1 < p.2))) H':=q;have al:=Ke gs;refine Hj (xs:=gs.map V.int) (ys:=gs.tail.map V.int) (gs.length - 1) (by rw[Qbc];omega) (by rw[Qbc,Qba];exact QbE _) (.inr (by rw[Qbc,Qba];exact QbE _)) (λ(i:Nat) (σ : St) (HH:Hp)=>∃(u v:Option V),σ=[u,v]/\HH l=some (.lst ((((adj gs).take i).map λp=>decide (p.1 < p.2)).map V.bl))/\Same H1 HH) ⟨_,_,rq,Ac,Ad hl _⟩ (λi σ HH _ h=>?_) (λi x y p σ HH hx hy h hp=>?_) (fun σ HH h=>?_)
 ·obtain⟨u,v,rfl,e1,e2⟩:=h;exact⟨e2 _ _ ht1,e2 _ _ hu⟩
 ·obtain⟨u',v',rfl,e1,e2⟩:=h;rw[QaK] at hx hy;obtain⟨a,ha,rfl⟩:=Qak.mp hx;obtain⟨b,hb,rfl⟩:=Qak.mp hy;rw[List.getElem?_tail] at hb;have pr:=Mz ha hb;have hi:i < (adj gs).length:=(Qad.mp pr).1;have s3:=Ad hp (.tup [.int a,.int b]);have h3:(upd HH p (.tup [.int a,.int b])) p=some (.tup [.int a,.int b]):=Ac;have e1':=s3 _ _ e1;have e2':=e2.trans s3;generalize upd HH p (.tup [.int a,.int b])=H3 at *;refine⟨p,_,rq,SqT.of h3,rq,_,_,rq,_,_,rq,rq,Ba ⟨_,rq,_,rq,_,_,rq,rq,_,e1',Bx (by rw[Qbc,Qbc,QaV];omega),_,_,rq,?_,e2'.Cq Am.upd hl⟩⟩;rw[Ac,take_snoc pr,Qbe,Qbe];rfl
 ·obtain⟨u',v',rfl,e1,e2⟩:=h;rw[<-al,QaZ] at e1;refine⟨l,_,rq,SqL.of e1,?_⟩;rw[all_map];exact q _ (s1.trans e2)
theorem IK (c:Code K mg "are_rising_within" Bo BL) (T:Nm mg) (Dc:Good P w K mg base "is_row" 1 CZ Fz) (Ck:Good P w K mg base "is_within" 2 Cj Ih) (M6:Good P w K mg base "is_rising" 1 DK Ob):Good P w K mg base "are_rising_within" 3 BL K9:=by
 refine c.good G7 (λvs H Q E h=>?_) (λf cdv A outer s H vs Q E hr h=>?_)
 ·obtain⟨v,a,b,lo,hi,G,rfl,_⟩:=h;rfl
 obtain⟨v,a,b,lo,hi,G,rfl,rg,few,q⟩:=h;refine⟨_,(Ag (BW (Dq (Df (Dr Dc hr (Aa (pv 0) (Aa (pv 1) (Aa (pv 2) Ab)))))) (Al (Av Cr)) Bl)
 (Al (Av (GK (Ak (Gg rfl) rfl T.all Ie (Aa (Er (N':=["part","low","high"]) rfl (CG.of (src:=[none,some 3,some 4]) (Ah Bo) BL rfl rfl rfl (by trivial) (by trivial) (by trivial) rfl (by trivial)) (HJ (pv 0)) (λ_ _ _ _=>(Ax (i:=0) (show List.Nodup (["part","low","high"]:YF) by trivial) rfl (Or.inl rfl))) (λ_ _ _ _=>FT) (λ_ _ _ _=>(Dr Ck hr (Aa (pv 0) (Aa (pv 1) (Aa (pv 2) Ab)))))) Ab)) (GD (Lx M6 hr (Aa (pv 0) Ab))))))),?_⟩
 show let R0:TS:=_;Ao _ R0 _ _ _;intro R0;refine⟨_,rq,_,rq,_,rq,v,a,b,rq,rg.kn,_,rq,?_⟩;cases G with
 | none=>
  rw[rg.2];exact Ba (q _ (Same.refl _))
 | some gs=>
  obtain⟨t,rfl,ht⟩:=rg;rw[CV ht];have fl:=few gs rfl;have q:∀H',Same H H'->Q (.bl (Dz (some (gs.map V.int)) a b&&((gs.all λg=>wiB (.int g) lo hi)&&Jz gs))) H':=q;cases eb:Dz (some (gs.map V.int)) a b with
  | false=>rw[eb] at q;exact Ba (q _ (Same.refl _))
  | true=>
   rw[eb,Qbw] at q;refine Bj ⟨_,rq,t,rq,⟨_,SqT.of ht⟩,λl hl=>?_⟩;let J1:YN:=λ(i:Nat) (σ : St) (HH:Hp)=>∃(u:Option V),σ=[u,some (.int lo),some (.int hi)]/\HH l=some (.lst (((gs.take i).map λg=>wiB (.int g) lo hi).map V.bl))/\Same H HH;refine IW (xs:=gs.map V.int) J1 ⟨_,rq,Ac,Ad hl _⟩ (λi σ HH _ h=>?_) (λi x σ HH hx h=>?_) (fun σ HH h=>?_)
   ·obtain⟨u,rfl,e1,e2⟩:=h;exact SqT.of (e2 _ _ ht)
   ·obtain⟨u,rfl,e1,e2⟩:=h;rw[QaK] at hx;obtain⟨o,ho,rfl⟩:=Qak.mp hx;have hi:i < gs.length:=(Qad.mp ho).1;refine BR (Ba ⟨_,rq,_,rq,_,rq,.int o,_,_,rq,True.intro,_,e1,Bx (by rw[Qbc,Qbc,QaV];omega),_,rq,?_,e2.Cq Am.upd hl⟩);rw[Ac,take_snoc ho,Qbe,Qbe];rfl
   obtain⟨u,rfl,e1,e2⟩:=h;rw[Qbc,QaZ] at e1;refine⟨l,_,rq,SqL.of e1,_,rq,?_⟩;rw[all_map];cases ea:gs.all λg=>wiB (.int g) lo hi with
   | false=>rw[ea] at q;exact Bj (q _ e2)
   | true=>
    rw[ea,Qbw] at q;exact Ba ⟨_,rq,t,gs,rq,e2 _ _ ht,fl,λH' s'=>q _ (e2.trans s')⟩
theorem RB (c:Code K mg "is_heavy_span" Ca Cz) (T:Nm mg) (Dc:Good P w K mg base "is_row" 1 CZ Fz) (Ck:Good P w K mg base "is_within" 2 Cj Ih):Good P w K mg base "is_heavy_span" 3 Cz Jx:=by
 refine c.good DR (λvs H Q E h=>?_) (λf cdv A outer s H vs Q E hr h=>?_)
 ·obtain⟨v,o,t,ws,m,rfl,_⟩:=h;rfl
 obtain⟨v,o,t,ws,m,rfl,sp,ht,q⟩:=h;refine⟨_,(Ag (BW (PW.pt (Fb (Dq (Df (Dr Dc hr (Aa (pv 0) (Aa Ae (Aa Ae Ab)))))) (FP (Dq (Df (Dr Ck hr (Aa (Cg El (pv 0) Ae (λ_ _=>rfl)) (Aa Ae (Aa (Ai Ek (Ak Aq rfl T.len BP (Aa (pv 1) Ab)) Ae) Ab))))))))) (Al (Av Cr)) Bl)
 (Ag (FQ (pv 0) (Fe rfl (Bb (Ax (i:=3) DR.nd rfl (Or.inl rfl)) (Bb (Ax (i:=4) DR.nd rfl (Or.inl rfl)) Dm))))
 (Al (Av (GK (Dr Ck hr (Aa (pv 4) (Aa (Ai Bk (pv 3) Ae) (Aa (Ai Ek (Ak Aq rfl T.len BP (Aa (pv 1) Ab)) Ae) Ab)))) (GD (Fy Jj (Ak (Gd rfl) rfl T.sum Ib (Aa (Bg Br (pv 1) (Bc (pv 3)) (Bc (Ai Bk (pv 4) Ae))) Ab)) (pv 2) (Bq _)))))))),?_⟩
 show let R0:TS:=_;let R1:TS:=Ao _ R0;Ao _ R1 _ _ _;intro R0 R1;have q0:=q _ (Same.refl H);refine⟨_,rq,v,2,2,rq,sp.kn,_,rq,?_⟩;cases o with
 | none=>
  rw[show v=.non from sp]
  exact Ba q0
 | some p=>
  obtain⟨a,rfl,ha⟩:=sp;rw[CV ha];have q:∀H',Same H H'->Q (.bl (wiB (.int p.1) 0 ((ws.length:Int) - 1)&&(wiB (.int p.2) (p.1+1) ((ws.length:Int) - 1)&&decide (Cu ws p.1 (p.2+1) > m)))) H':=q;have a0:atI [V.int p.1,.int p.2] 0=some (.int p.1):=rfl;refine Bj ⟨_,rq,a,_,_,_,rq,rq,SqT.of ha,a0,_,rq,t,_,rq,.inr (SqT.of ht),_,_,rq,rq,_,0,_,rq,True.intro,_,rq,?_⟩;show if (!wiB (.int p.1) 0 (((List.map V.int ws).length:Int) - 1))=true then _ else _
  rw[Qbc];cases e1:wiB (.int p.1) 0 ((ws.length:Int) - 1) with
  | false=>rw[e1] at q;exact Ba (q _ (Same.refl _))
  | true=>
   rw[e1,Qbw] at q;refine Bj ⟨_,rq,a,_,rq,SqT.of ha,rq,_,_,rq,_,_,rq,rq,?_⟩;refine⟨_,rq,_,rq,_,_,rq,rq,_,rq,t,_,rq,.inr (SqT.of ht),_,_,rq,rq,_,_,_,rq,True.intro,_,rq,?_⟩;show if wiB (.int p.2) (p.1+1) (((List.map V.int ws).length:Int) - 1)=true then _ else _
   rw[Qbc];cases e2:wiB (.int p.2) (p.1+1) ((ws.length:Int) - 1) with
   | false=>rw[e2] at q;exact Bj (q _ (Same.refl _))
   | true=>
    rw[e2,Qbw] at q;refine Ba ⟨_,rq,_,rq,_,rq,_,rq,_,_,rq,rq,_,rq,t,_,rq,ht,λu H1 hu s1=>?_⟩;rw[Gb] at hu;exact⟨u,_,rq,.inr (SqT.of hu),_,rq,_,_,rq,rq,q _ s1⟩
end
abbrev BJ:Stmt:=top 86
abbrev Dw:YF:=["parts","paper"]
abbrev xb:YF:=["parts","paper","weights","most","placed","many","edges"]
theorem BZ:Bm xb Dw (Ah BJ):=by ac_rfl
abbrev Fx:Stmt:=top 91
abbrev GR:YF:=["claim","paper"]
theorem Lk:Bm ["claim","paper","check"] GR (Ah Fx):=by ac_rfl
def wsI (W:Option (List (Option Int))):List Int:=(W.getD []).map (·.getD 0)
def mB:Option Int->Bool
 | some m=>wiB (.int m) 1 99
 | none=>false
def SX (v:V):Option Int->Prop
 | some m=>v=.int m
 | none=>∃b,v=.bl b
def anyB (ws:List Int) (m:Int) (gs:List Int):Bool:=(adj (0::(gs++[(ws.length:Int)]))).any λp=>decide (Cu ws p.1 p.2 > m)
def Iz (ps:List (Option (Int×Int))):Bool:=(adj ps).all λp=>decide ((p.1.getD (0,0)).2<=(p.2.getD (0,0)).1)
def pB (ws:List Int) (m:Int) (gs:List Int):Option (List (Option (Int×Int)))->Bool
 | some ps=>decide (ps.length=gs.length)&&(ps.all (hvB ws m)&&Iz ps)
 | none=>false
def DG (W:Option (List (Option Int))) (M:Option Int) (G:Option (List Int)) (P:Option (List (Option (Int×Int)))):Bool:=
 wtB W&&(mB M&&(gB 0 (((wsI W).length:Int) - 1) 1 (((wsI W).length:Int) - 1) G&&(!anyB (wsI W) (M.getD 0) (G.getD [])&&pB (wsI W) (M.getD 0) (G.getD []) P)))
theorem V9 {wo:List (Option Int)} (h:wtB (some wo)=true):wo.map oV=(wsI (some wo)).map V.int:=by
 have h:(Dz (some (wo.map oV)) 1 30&&wo.all λo=>wiB (oV o) 0 9)=true:=h;rw[QaS] at h;have h2:=List.all_eq_true.mp h.2;show wo.map oV=(wo.map (·.getD 0)).map V.int;rw[List.map_map];refine List.map_congr_left λo ho=>?_;have:=h2 o ho;cases o with
 | some i=>rfl
 | none=>cases this
theorem Ud {ws:List Int} {m:Int} {o:Option (Int×Int)} (h:hvB ws m o=true):∃p,o=some p:=by
 cases o with
 | some p=>exact⟨p,rfl⟩
 | none=>cases h
inductive KR (vs:YG) (H:Hp) (Q:VK) (E:XK):Prop
 | mk (t wv mv gv pav W M G P) (_:vs=[.ref t,pav]) (_:H t=some (.tup [wv,mv,gv])) (_:Gi H wv W) (_:SX mv M) (_:Fp H gv G) (_:Ey H pav P) (_:(∀ws,W=some ws->ws.length<=100)) (_:(∀gs,G=some gs->gs.length<=100)) (_:(∀ps,P=some ps->ps.length<=100)) (_:∀H',Same H H'->Q (.bl (DG W M G P)) H'):KR vs H Q E
theorem Wj (n k:Nat) (xs:YG) (h:xs.length=n):Dz (some xs) (k:Int) (k:Int)=decide (n=k):=by
 show (decide ((k:Int)<=xs.length)&&decide ((xs.length:Int)<=k))=decide (n=k);rw[h,Qbj,QaS,Qay,Qay,Qay];omega
theorem any_map {α : Type} (f:α->Bool) (l:List α):(l.map f).any id=l.any f:=by rw[List.any_map];rfl
section
variable {P:Program} {w:World} {K:YD} {mg:YB} {base:Heap}
abbrev jd(a:PySem.Addr):Option L2.V:=some (.ref a)
abbrev xc:YF:=["begin","end","most","weights"]
theorem QF (c:Code K mg "fewest_holds" BJ Dw) (T:Nm mg) (Dc:Good P w K mg base "is_row" 1 CZ Fz) (Ck:Good P w K mg base "is_within" 2 Cj Ih) (KN:Good P w K mg base "are_weights" 3 Dg Ld) (Hq:Good P w K mg base "are_rising_within" 3 BL K9) (Jp:Good P w K mg base "is_heavy_span" 3 Cz Jx):Good P w K mg base "fewest_holds" 4 Dw KR:=by
 refine c.good BZ (λvs H Q E h=>?_) (λf cdv A outer s H vs Q E hr h=>?_)
 ·obtain⟨t,wv,mv,gv,pav,W,M,G,Pp,rfl,_⟩:=h;rfl
 obtain⟨t,wv,mv,gv,pav,W,M,G,Pp,rfl,ht,rw',rm,rg,rp,fw,fg,fp,q⟩:=h;refine⟨_,(Ag (FQ (pv 0) (Fe rfl (Bb (Ax (i:=2) BZ.nd rfl (Or.inr rfl)) (Bb (Ax (i:=3) BZ.nd rfl (Or.inr rfl)) (Bb (Ax (i:=4) BZ.nd rfl (Or.inl rfl)) Dm)))))
 (Ag (BW (PW.pt (Fb (Dq (Df (Lx KN hr (Aa (pv 2) Ab)))) (FP (Dq (Df (Dr Ck hr (Aa (pv 3) (Aa Ae (Aa Ae Ab))))))))) (Al (Av Cr)) Bl)
 (Ag (Bd (i:=5) BZ.nd rfl (Or.inl rfl) (Ak Aq rfl T.len BP (Aa (pv 2) Ab)))
 (Ag (BW (Dq (Df (Qy Hq hr (@Aa _ _ _ _ _ (pv 4) (@Aa _ _ _ _ _ (@Ae _ _ _ _) (@Aa _ _ _ _ _ (Ai Ek (pv 5) Ae) (@Aa _ _ _ _ _ (@Ae _ _ _ _) (@Aa _ _ _ _ _ (Ai Ek (pv 5) Ae) (@Ab _) Ql) CW) Ql) CW) Ft)))) (Al (Av Cr)) Bl)
 (Ag (Bd (i:=6) BZ.nd rfl (Or.inl rfl) (Ai Bh (Ai Bh (Aj (Aa Ae Ab)) (pv 4)) (Aj (Aa (pv 5) Ab))))
 (Ag (BW (Df (Ak (Sy rfl) rfl T.any V3 (Aa (Er (N':=xc) rfl (CG.of (src:=[none,none,some 3,some 2]) (Ah BJ) xb rfl rfl rfl (by trivial) (by trivial) (by trivial) rfl (by trivial)) (Iw rfl T.zip (Aa (pv 6) (Aa (Bg Br (pv 6) (Bc Ae) Cd) Ab))) (λ_ _ _ _=>(JD (K:=K) (n:=2) rfl rfl (Bb (Ax (i:=0) (show List.Nodup (xc:YF) by trivial) rfl (Or.inl rfl)) (Bb (Ax (i:=1) (show List.Nodup (xc:YF) by trivial) rfl (Or.inl rfl)) Dm)))) (λ_ _ _ _=>FT) (λ_ _ _ _=>(Fy Jj (Ak (Q9 (K:=K) rfl rfl) rfl T.sum Ib (Aa (Bg Br (pv 3) (Bc (pv 0)) (Bc (pv 1))) Ab)) (pv 2) (Bq _)))) Ab))) (Al (Av Cr)) Bl)
 (Ag (BW (Dq (Df (Dr Dc hr (Aa (pv 1) (Aa (Ak Aq rfl T.len BP (Aa (pv 4) Ab)) (Aa (Ak Aq rfl T.len BP (Aa (pv 4) Ab)) Ab)))))) (Al (Av Cr)) Bl)
 (Ag (BW (Dq (Df (Ak (Gg rfl) rfl T.all Ie (Aa (Er (N':=["part","weights","most"]) rfl (CG.of (src:=[none,some 2,some 3]) (Ah BJ) xb rfl rfl rfl (by trivial) (by trivial) (by trivial) rfl (by trivial)) (HJ (pv 1)) (λ_ _ _ _=>(Ax (i:=0) (show List.Nodup (["part","weights","most"]:YF) by trivial) rfl (Or.inl rfl))) (λ_ _ _ _=>FT) (λ_ _ _ _=>(Dr Jp hr (Aa (pv 0) (Aa (pv 1) (Aa (pv 2) Ab)))))) Ab)))) (Al (Av Cr)) Bl)
 (Al (Av (Ak (Gg rfl) rfl T.all Ie (Aa (Er (N':=xa) rfl (CG.plain rfl (by trivial) (by trivial) (by trivial)) (Iw rfl T.zip (Aa (pv 1) (Aa (Bg Br (pv 1) (Bc Ae) Cd) Ab))) (λ_ _ _ _=>(JD (K:=K) (n:=2) rfl rfl (Bb (Ax (i:=0) (show List.Nodup (xa:YF) by trivial) rfl (Or.inl rfl)) (Bb (Ax (i:=1) (show List.Nodup (xa:YF) by trivial) rfl (Or.inl rfl)) Dm)))) (λ_ _ _ _=>FT) (λ_ _ _ _=>(Fy Gm (Cg (Nj (K:=K) rfl) (pv 0) Ae (λ_ _=>rfl)) (Cg (Nj (K:=K) rfl) (pv 1) Ae (λ_ _=>rfl)) (Bq _)))) Ab)))))))))))),?_⟩
 show let R0:TS:=_;let R1:TS:=Ao _ R0;let R2:TS:=Ao _ R1;let R3:TS:=Ao _ R2;let R4:TS:=Ao _ R3;let R5:TS:=Ao _ R4;let R6:TS:=Ao _ R5;let R7:TS:=Ao _ R6;Ao _ R7 _ _ _;intro R0 R1 R2 R3 R4 R5 R6 R7;refine⟨_,rq,t,_,rq,SqT.of ht,rq,_,_,rq,_,_,rq,_,_,rq,rq,?_⟩;refine⟨_,rq,wv,W,rq,rw',fw,λH1 s1=>⟨_,rq,?_⟩⟩;unfold DG at q;cases e1:wtB W with
 | false=>rw[e1] at q;exact Ba (q _ s1)
 | true=>
 rw[e1,Qbw] at q;have kmv:Kn H1 mv:=by
  cases M with
  | some m=>rw[show mv=.int m from rm];exact True.intro
  | none=>obtain⟨b,rfl⟩:=rm;exact True.intro
 have em:wiB mv 1 99=mB M:=by
  cases M with
  | some m=>rw[show mv=.int m from rm];rfl
  | none=>obtain⟨b,rfl⟩:=rm;rfl
 refine Bj ⟨_,rq,mv,1,99,rq,kmv,_,rq,?_⟩;rw[em];cases e2:mB M with
 | false=>rw[e2] at q;exact Ba (q _ s1)
 | true=>
 rw[e2,Qbw] at q;obtain⟨m,rfl⟩ : ∃m,M=some m:=by
  cases M with
  | some m=>exact⟨m,rfl⟩
  | none=>cases e2
 obtain rfl:mv=.int m:=rm;obtain⟨wo,rfl⟩ : ∃wo,W=some wo:=by
  cases W with
  | some wo=>exact⟨wo,rfl⟩
  | none=>cases e1
 obtain⟨tw,rfl,htw⟩:=rw';rw[V9 e1] at htw;have wl:(wsI (some wo)).length<=100:=by
  have:=fw wo rfl;unfold wsI;rw[Qbc];exact this
 generalize wsI (some wo)=ws at *;have RX:=s1 _ _ htw;refine Bj ⟨_,rq,tw,_,rq,.inr (SqT.of RX),?_⟩;rw[Qbc];refine BR ?_;refine⟨_,rq,_,rq,_,_,rq,rq,_,rq,_,_,rq,rq,gv,0,_,1,_,G,rq,rg.same s1,fg,λH2 s2=>⟨_,rq,?_⟩⟩;have s02:=s1.trans s2;cases e3:gB 0 ((ws.length:Int) - 1) 1 ((ws.length:Int) - 1) G with
 | false=>rw[e3] at q;exact Ba (q _ s02)
 | true=>
 rw[e3,Qbw] at q;obtain⟨gs,rfl⟩ : ∃gs,G=some gs:=by
  cases G with
  | some gs=>exact⟨gs,rfl⟩
  | none=>cases e3
 obtain⟨tg,rfl,htg⟩:=rg;have gl:=fg gs rfl;have q:∀H',Same H H'->Q (.bl (!anyB ws m gs&&pB ws m gs Pp)) H':=q;refine Bj ⟨Af (by show 1<=1000;decide),λt3 ht3=>?_⟩;have s3:=Ad ht3 (.tup [.int 0]);have h3:(upd H2 t3 (.tup [.int 0])) t3=some (.tup [.int 0]):=Ac;have s03:=s02.trans s3;generalize upd H2 t3 (.tup [.int 0])=H3 at *;refine⟨_,rq,t3,tg,_,_,rq,rq,h3,s03 _ _ htg,Af (by rw[Qbc];show 1+gs.length<=1000;omega),λt4 H4 h4 s4=>?_⟩;have s04:=s03.trans s4;refine⟨_,rq,Af (by show 1<=1000;decide),λt5 ht5=>?_⟩;have s5:=Ad ht5 (.tup [.int (ws.length:Int)]);have h5:(upd H4 t5 (.tup [.int (ws.length:Int)])) t5=some (.tup [.int (ws.length:Int)]):=Ac;have h45:=s5 _ _ h4;have s05:=s04.trans s5;generalize upd H4 t5 (.tup [.int (ws.length:Int)])=H5 at *;refine⟨t4,t5,_,_,rq,rq,h45,h5,Af (by rw[Qax,Qbc];show 1+gs.length+1<=1000;omega),λt6 H6 h6 s6=>BR ?_⟩;have s06:=s05.trans s6;have ee:[V.int 0]++gs.map V.int++[.int (ws.length:Int)]=(0::(gs++[(ws.length:Int)])).map V.int:=by
  rw[Qbv,Qbe];rfl
 rw[ee] at h6;have aJ:(0::(gs++[(ws.length:Int)])).length=gs.length+2:=by simp
 generalize hed:(0::(gs++[(ws.length:Int)]))=ed at *;have hany:anyB ws m gs=(adj ed).any λp=>decide (Cu ws p.1 p.2 > m):=by rw[<-hed];rfl
 rw[hany] at q;refine⟨_,rq,_,rq,_,rq,t6,_,rq,h6,λu7 H7 h7 s7=>?_⟩;rw[Pz (α:=Unit),<-List.map_tail] at h7;have h67:=s7 _ _ h6;have s07:=s06.trans s7;have al:=Ke ed;refine⟨t6,u7,rq,⟨_,h67⟩,⟨_,h7⟩,λl hl=>?_⟩;have X8:=s07 _ _ htw;refine Hj (xs:=ed.map V.int) (ys:=ed.tail.map V.int) (ed.length - 1) (by rw[Qbc];omega) (by rw[Qbc,Qba];exact QbE _) (.inr (by rw[Qbc,Qba];exact QbE _)) (λ(i:Nat) (σ : St) (HH:Hp)=>∃(u v:Option V),σ=[u,v,some (.int m),jd tw]/\HH l=some (.lst ((((adj ed).take i).map λp=>decide (Cu ws p.1 p.2 > m)).map V.bl))/\Same H7 HH) ⟨_,_,rq,Ac,Ad hl _⟩ (λi σ HH _ h=>?_) (λi x y p σ HH hx hy h hp=>?_) (fun σ H8 h=>?_)
 ·obtain⟨u,v,rfl,e1,e2⟩:=h;exact⟨e2 _ _ h67,e2 _ _ h7⟩
 ·obtain⟨u',v',rfl,e1,e2⟩:=h;rw[QaK] at hx hy;obtain⟨a,ha,rfl⟩:=Qak.mp hx;obtain⟨b,hb,rfl⟩:=Qak.mp hy;rw[List.getElem?_tail] at hb;have pr:=Mz ha hb;have hi:i < (adj ed).length:=(Qad.mp pr).1;have s3:=Ad hp (.tup [.int a,.int b]);have h3:(upd HH p (.tup [.int a,.int b])) p=some (.tup [.int a,.int b]):=Ac;have e1':=s3 _ _ e1;have e2':=e2.trans s3;generalize upd HH p (.tup [.int a,.int b])=H3 at *;refine⟨p,_,rq,SqT.of h3,rq,_,_,rq,_,_,rq,rq,Ba ⟨_,rq,_,rq,_,rq,_,rq,_,rq,tw,_,rq,e2' _ _ X8,λu8 H8 hu8 s8=>?_⟩⟩;rw[Gb] at hu8;refine⟨u8,_,rq,.inr (SqT.of hu8),_,rq,_,_,rq,rq,_,s8 _ _ e1',Bx (by rw[Qbc,Qbc,QaV];omega),_,_,rq,?_,(e2'.trans s8).Cq Am.upd hl⟩;rw[Ac,take_snoc pr,Qbe,Qbe];rfl
 obtain⟨u',v',rfl,k1,k2⟩:=h;rw[<-al,QaZ] at k1;have s08:=s07.trans k2;refine⟨l,_,rq,SqL.of k1,_,rq,?_⟩;rw[any_map];cases e4:(adj ed).any λp=>decide (Cu ws p.1 p.2 > m) with
 | true=>rw[e4] at q;exact Ba (q _ s08)
 | false=>
 rw[e4] at q;have q:∀H',Same H H'->Q (.bl (pB ws m gs Pp)) H':=q;have Vs:=s08 _ _ htg;have rp8:=rp.same s08;refine Bj ⟨_,rq,_,rq,tg,_,rq,.inr (SqT.of Vs),_,rq,tg,_,rq,.inr (SqT.of Vs),pav,_,_,rq,rp8.kn,_,rq,?_⟩;rw[Qbc];cases Pp with
 | none=>
  rw[rp8.2];exact Ba (q _ s08)
 | some ps=>
 obtain⟨tp,pvs,rfl,htp,pps⟩:=rp8;have pl:=Qbz pps;have pf:=fp ps rfl;rw[CV htp,Wj ps.length gs.length pvs pl];have q:∀H',Same H H'->Q (.bl (decide (ps.length=gs.length)&&(ps.all (hvB ws m)&&Iz ps))) H':=q;cases e5:decide (ps.length=gs.length) with
 | false=>rw[e5] at q;exact Ba (q _ s08)
 | true=>
 rw[e5,Qbw] at q;refine Bj ⟨_,rq,tp,rq,⟨_,SqT.of htp⟩,λl9 hl9=>?_⟩;have Pg:=s08 _ _ htw;let J0:YN:=λ(i:Nat) (σ : St) (HH:Hp)=>∃(u:Option V),σ=[u,jd tw,some (.int m)]/\HH l9=some (.lst (((ps.take i).map (hvB ws m)).map V.bl))/\Same H8 HH;refine IW (xs:=pvs) J0 ⟨_,rq,Ac,Ad hl9 _⟩ (λi σ HH _ h=>?_) (λi x σ HH hx h=>?_) (fun σ H9 h=>?_)
 ·obtain⟨u,rfl,e1,e2⟩:=h;exact SqT.of (e2 _ _ htp)
 ·obtain⟨u,rfl,e1,e2⟩:=h;obtain⟨o,ho,so⟩:=Jh pps hx;have hi:i < ps.length:=(Qad.mp ho).1;refine BR (Ba ⟨_,rq,_,rq,_,rq,x,o,tw,ws,m,rq,so.tups (Ar.of e2),e2 _ _ Pg,λH' s'=>⟨_,s' _ _ e1,Bx (by rw[Qbc,Qbc,QaV];omega),_,rq,?_,(e2.trans s').Cq Am.upd hl9⟩⟩);rw[Ac,take_snoc ho,Qbe,Qbe];rfl
 obtain⟨u,rfl,j1,j2⟩:=h;rw[pl,QaZ] at j1;have s09:=s08.trans j2;refine⟨l9,_,rq,SqL.of j1,_,rq,?_⟩;rw[all_map];cases e6:ps.all (hvB ws m) with
 | false=>rw[e6] at q;exact Ba (q _ s09)
 | true=>
 rw[e6,Qbw] at q;have q:∀H',Same H H'->Q (.bl ((adj ps).all λp=>decide ((p.1.getD (0,0)).2<=(p.2.getD (0,0)).1))) H':=q;have hsome:∀o∈ps,∃p,o=some p:=λo ho=>Ud (List.all_eq_true.mp e6 o ho);have Vr:=j2 _ _ htp;have Xb:=Sps.tups (Ar.of j2) pps;refine Bj ⟨_,rq,_,rq,_,rq,tp,_,rq,Vr,λua HA hA sA=>?_⟩;rw[Pz (α:=Unit)] at hA;have Vq:=sA _ _ Vr;have U5:=Sps.tups (Ar.of sA) Xb;have s0A:=s09.trans sA;have alp:=Ke ps;refine⟨tp,ua,rq,⟨_,Vq⟩,⟨_,hA⟩,λlb hlb=>?_⟩;refine Hj (xs:=pvs) (ys:=pvs.tail) (pvs.length - 1) (by omega) (by rw[Qba];exact QbE _) (.inr (by rw[Qba];exact QbE _)) (λ(i:Nat) (σ : St) (HH:Hp)=>∃(u v:Option V),σ=[u,v]/\HH lb=some (.lst ((((adj ps).take i).map λp=>decide ((p.1.getD (0,0)).2<=(p.2.getD (0,0)).1)).map V.bl))/\Same HA HH) ⟨_,_,rq,Ac,Ad hlb _⟩ (λi σ HH _ h=>?_) (λi x y p σ HH hx hy h hp=>?_) (fun σ HB h=>?_)
 ·obtain⟨u,v,rfl,e1,e2⟩:=h;exact⟨e2 _ _ Vq,e2 _ _ hA⟩
 ·obtain⟨u',v',rfl,e1,e2⟩:=h;rw[List.getElem?_tail] at hy;obtain⟨o1,ho1,so1⟩:=Jh U5 hx;obtain⟨o2,ho2,so2⟩:=Jh U5 hy;obtain⟨p1,rfl⟩:=hsome o1 (Qap ho1);obtain⟨p2,rfl⟩:=hsome o2 (Qap ho2);have pr:=Mz ho1 ho2;have hi:i < (adj ps).length:=(Qad.mp pr).1;obtain⟨x1,rfl,hx1⟩:=so1;obtain⟨x2,rfl,hx2⟩:=so2;have s3:=Ad hp (.tup [.ref x1,.ref x2]);have h3:(upd HH p (.tup [.ref x1,.ref x2])) p=some (.tup [.ref x1,.ref x2]):=Ac;have e1':=s3 _ _ e1;have e2':=e2.trans s3;generalize upd HH p (.tup [.ref x1,.ref x2])=H3 at *;refine⟨p,_,rq,SqT.of h3,rq,_,_,rq,_,_,rq,rq,Ba ⟨_,rq,x1,_,_,_,rq,rq,SqT.of (e2' _ _ hx1),rq,_,rq,x2,_,_,_,rq,rq,SqT.of (e2' _ _ hx2),rq,_,_,rq,rq,_,e1',Bx (by rw[Qbc,Qbc,QaV];omega),_,_,rq,?_,e2'.Cq Am.upd hlb⟩⟩;rw[Ac,take_snoc pr,Qbe,Qbe];rfl
 obtain⟨u',v',rfl,i1,i2⟩:=h;rw[pl,<-alp,QaZ] at i1;refine⟨lb,_,rq,SqL.of i1,?_⟩;rw[all_map];exact q _ (s0A.trans i2)
end
structure Tx (K:YD) (mg:YB) (P:Params) (cA mA f4:Addr):Prop extends Nm mg where
 CHECKS:∃u,mg "CHECKS"=some u/\RelV (.ref cA) u
 MANY_PARTS:∃u,mg "MANY_PARTS"=some u/\RelV (.ref mA) u
 dc:KD K P cA
 dm:KD K P mA
 cf:nsIn K cA "fewest"=some (some (.ref f4))
 mf:∃t,nsIn K mA "fewest"=some (some (.int 3 t))
 gf:mg "fewest_holds"=some (.ref f4)
def one:YF:=["fewest_holds"]
def spV (nm:Str):Sp:=KR
def isS:V->Bool
 | .str _=>true
 | _=>false
theorem Ml {K:YD} {H:Hp} {x:V} {Q:VK} (k:Kn H x) (q:Q (.bl (isS x)) H):Gv K [x,.ty "str"] H Q:=by
 unfold Gv;cases x with
 | non=>exact⟨_,_,_,_,rfl,.non,by rfl,q⟩
 | bl b=>exact⟨_,_,_,_,rfl,.bl b,by rfl,q⟩
 | int i=>exact⟨_,_,_,_,rfl,.int i,by rfl,q⟩
 | str z=>exact⟨_,_,_,_,rfl,.str z,by rfl,q⟩
 | ref a=>
  rcases k with⟨xs,e⟩|⟨xs,e⟩
  ·exact⟨_,_,_,_,rq,.lst e,by rfl,q⟩
  ·exact⟨_,_,_,_,rq,.tup e,by rfl,q⟩
 | _=>exact k.elim
inductive Jw (vs:YG) (H:Hp) (Q:VK) (E:XK):Prop
 | mk (t pav) (_:vs=[.ref t,pav]) (_:((∃x y,H t=some (.tup [.str "fewest",x,y])/\∀H',Same H H'->Q (.bl false) H')\/∃wv mv gv W M G P,H t=some (.tup [.str "fewest",wv,mv,gv])/\Gi H wv W/\SX mv M/\Fp H gv G/\Ey H pav P/\(∀ws,W=some ws->ws.length<=100)/\(∀gs,G=some gs->gs.length<=100)/\(∀ps,P=some ps->ps.length<=100)/\∀H',Same H H'->Q (.bl (DG W M G P)) H')):Jw vs H Q E
section
variable {P:Program} {w:World} {K:YD} {mg:YB} {base:Heap} {cA mA f4:Addr}
theorem Rz (c:Code K mg "holds" Fx GR) (T:Tx K mg w.params cA mA f4) (Dc:Good P w K mg base "is_row" 1 CZ Fz) (gV:∀nm,nm∈one->Good P w K mg base nm 4 Dw (spV nm)):Good P w K mg base "holds" 5 GR Jw:=by
 refine c.good Lk (λvs H Q E h=>?_) (λf cdv A outer s H vs Q E hr h=>?_)
 ·obtain⟨t,pav,rfl,_⟩:=h;rfl
 obtain⟨t,pav,rfl,h⟩:=h;refine⟨_,(Ag (BW (PW.pt (Fb (Dq (Df (Dr Dc hr (Aa (pv 0) (Aa Ae (Aa Ae Ab)))))) (Fb (Dq (Df (Ak Gf rfl T.isinstance Di (Aa (Cg El (pv 0) Ae (λ_ _=>rfl)) (Aa (GJ (v:=.ty "str") rfl T.str V1 rfl) Ab))))) (FP (Bs (Ov (K:=K) rfl rfl) (Cg El (pv 0) Ae (λ_ _=>rfl)) (Ls rfl T.CHECKS) (by with_unfolding_all rfl)))))) (Al (Av Cr)) Bl)
 (Ag (BW (Bs KZ (Ai Ek (Ak Aq rfl T.len BP (Aa (pv 0) Ab)) Ae) (Lr (K:=K) rfl rfl (Ls rfl T.MANY_PARTS) (Cg El (pv 0) Ae (λ_ _=>rfl)) (λ_ _=>rfl)) (Bq _)) (Al (Av Cr)) Bl)
 (Ag (Bd (i:=2) Lk.nd rfl (Or.inl rfl) (Lr (K:=K) rfl rfl (Ls rfl T.CHECKS) (Cg El (pv 0) Ae (λ_ _=>rfl)) (λ_ _=>rfl)))
 (Al (Av (U9 (i:=2) gV hr (Aa (Bg Br (pv 0) (Bc Ae) Cd) (Aa (pv 1) Ab)))))))),?_⟩
 show let R0:TS:=_;let R1:TS:=Ao _ R0;let R2:TS:=Ao _ R1;Ao _ R2 _ _ _;intro R0 R1 R2;obtain⟨tk,hm⟩:=T.mf;have a0:∀r,atI (V.str "fewest"::r) 0=some (.str "fewest"):=λr=>Kd (xs:=V.str "fewest"::r) (j:=0) rfl;rcases h with⟨x,y,ht,q⟩|⟨wv,mv,gv,W,M,G,Pp,ht,rw',rm,rg,rp,fw,fg,fp,q⟩
 ·refine⟨_,rq,.ref t,1,6,rq,.inr ⟨_,ht⟩,_,rq,?_⟩;rw[CV ht];refine Bj ⟨_,rq,t,_,_,_,rq,rq,SqT.of ht,a0 _,Ml True.intro ⟨_,rq,?_⟩⟩;refine Bj ⟨_,rq,t,_,_,_,rq,rq,SqT.of ht,a0 _,"fewest",cA,_,rq,rq,T.dc,T.cf,_,rq,Bj ?_⟩;exact⟨_,rq,t,_,rq,.inr (SqT.of ht),_,_,rq,rq,_,rq,t,_,_,_,rq,rq,SqT.of ht,a0 _,"fewest",mA,.int 3,_,rq,rq,T.dm,hm,⟨tk,rq⟩,rq,_,rq,Ba (q _ (Same.refl _))⟩
 ·refine⟨_,rq,.ref t,1,6,rq,.inr ⟨_,ht⟩,_,rq,?_⟩;rw[CV ht];refine Bj ⟨_,rq,t,_,_,_,rq,rq,SqT.of ht,a0 _,Ml True.intro ⟨_,rq,?_⟩⟩;refine Bj ⟨_,rq,t,_,_,_,rq,rq,SqT.of ht,a0 _,"fewest",cA,_,rq,rq,T.dc,T.cf,_,rq,Bj ?_⟩;refine⟨_,rq,t,_,rq,.inr (SqT.of ht),_,_,rq,rq,_,rq,t,_,_,_,rq,rq,SqT.of ht,a0 _,"fewest",mA,.int 3,_,rq,rq,T.dm,hm,⟨tk,rq⟩,rq,_,rq,?_⟩;refine Bj ?_;refine⟨_,rq,t,_,_,_,rq,rq,SqT.of ht,a0 _,"fewest",cA,.ref f4,_,rq,rq,T.dc,T.cf,rq,?_⟩;refine⟨"fewest_holds",f4,rq,T.gf,.head _,_,rq,_,rq,t,_,rq,ht,λp1 H1 hp1 s1=>⟨_,rq,p1,wv,mv,gv,pav,W,M,G,Pp,rq,?_,rw'.same s1,rm,rg.same s1,rp.same s1,fw,fg,fp,λH' s'=>q _ (s1.trans s')⟩⟩;rw[hp1,Pz (α:=Unit)];rfl
end
abbrev En:Stmt:=top 95
abbrev FW:YF:=["_law_weights","_law_most"]
theorem Ec:Bm ["_law_weights","_law_most","_law_gates","_law_spans","_law_first","_law_at"] FW (Ah En):=by ac_rfl
abbrev Fv:Stmt:=top 96
abbrev GP:YF:=["_law_weights","_law_most","_law_gates","_law_spans"]
theorem Dp:Bm ["_law_weights","_law_most","_law_gates","_law_spans","_law_ahead","_law_gate","_law_ended","_law_first","_law_last"] GP (Ah Fv):=by ac_rfl
abbrev Eo:Stmt:=top 97
abbrev FZ:YF:=["_law_bag_here","_law_weights","_law_gates","_law_spans"]
theorem Ed:Bm ["_law_bag_here","_law_weights","_law_gates","_law_spans","_law_way","_law_place","_law_at","_law_first","_law_last"] FZ (Ah Eo):=by ac_rfl
def d1 (ws:List Int) (m:Int):Int->List Int->Bool
 | _,[]=>true
 | a,g::r=>!(decide (g<=a) || decide (Cu ws a g > m))&&d1 ws m g r
def d2 (ws:List Int) (m:Int):Int->List (Int×Int)->Bool
 | _,[]=>true
 | e,p::r=>!(decide (p.1 < e) || (decide (p.2<=p.1) || (decide (p.2 ≥ (ws.length:Int)) || decide (Cu ws p.1 (p.2+1)<=m))))&&d2 ws m p.2 r
def Px (ws:List Int) (m:Int) (gs:List Int) (sps:List (Int×Int)):Bool:=d1 ws m 0 (gs++[(ws.length:Int)])&&(decide (sps.length=gs.length)&&d2 ws m 0 sps)
inductive Od (vs:YG) (H:Hp) (Q:VK) (E:XK):Prop
 | mk (tw tg ts:Addr) (ws:List Int) (m:Int) (gs:List Int) (pvs:YG) (sps:List (Int×Int)) (_:vs=[.ref tw,.int m,.ref tg,.ref ts]) (_:H tw=some (.tup (ws.map V.int))) (_:H tg=some (.tup (gs.map V.int))) (_:H ts=some (.tup pvs)) (_:Paired (Ew H) pvs (sps.map some)) (_:gs.length<=100) (_:∀H',Same H H'->Q (.bl (Px ws m gs sps)) H'):Od vs H Q E
def CJ (vs:YG):Prop:=∀v∈vs,∃i,v=.int i
def SpV (H:Hp) (vs:YG):Prop:=∀v∈vs,∃p,Ew H v (some p)
theorem CJ.list:∀{vs:YG},CJ vs->∃gs:List Int,vs=gs.map V.int
 | [],_=>⟨[],rfl⟩
 | v::r,h=>by
  obtain⟨i,rfl⟩:=h v (.head _);obtain⟨gs,e⟩:=CJ.list (vs:=r) λx hx=>h x (.tail _ hx);exact⟨i::gs,by rw[e];rfl⟩
theorem SpV.list {H:Hp}:∀{vs:YG},SpV H vs->∃ps:List (Int×Int),Paired (Ew H) vs (ps.map some)
 | [],_=>⟨[],.nil⟩
 | v::r,h=>by
  obtain⟨p,hp⟩:=h v (.head _);obtain⟨ps,e⟩:=SpV.list (vs:=r) λx hx=>h x (.tail _ hx);exact⟨p::ps,.cons hp e⟩
theorem SpV.tups {H H':Hp} (s:Ar H H') {vs:YG} (h:SpV H vs):SpV H' vs:=λv hv=>let ⟨p,q⟩:=h v hv;⟨p,q.tups s⟩
theorem SpV.app {H:Hp} {a b:YG} (h:SpV H a) (k:SpV H b):SpV H (a++b):=λv hv=>(Qbh.mp hv).elim (h v) (k v)
theorem CJ.app {a b:YG} (h:CJ a) (k:CJ b):CJ (a++b):=λv hv=>(Qbh.mp hv).elim (h v) (k v)
theorem Nx {xs:YG} {lo hi:Option Int} {v:V} (h:v∈Ds xs lo hi):v∈xs:=List.mem_of_mem_drop (List.mem_of_mem_take h)
theorem SpV.cut {H:Hp} {a:YG} (h:SpV H a) (lo hi:Option Int):SpV H (Ds a lo hi):=λv hv=>h v (Nx hv)
theorem CJ.cut {a:YG} (h:CJ a) (lo hi:Option Int):CJ (Ds a lo hi):=λv hv=>h v (Nx hv)
theorem CJ.one (i:Int):CJ [.int i]:=λv hv=>⟨i,QaC.mp hv⟩
theorem SpV.one {H:Hp} {t:Addr} {a b:Int} (h:H t=some (.tup [.int a,.int b])):SpV H [.ref t]:=λv hv=>⟨(a,b),t,QaC.mp hv,h⟩
theorem CJ.map (gs:List Int):CJ (gs.map V.int):=λv hv=>by
 obtain⟨i,_,rfl⟩:=List.mem_map.mp hv;exact⟨i,rq⟩
structure GS (H:Hp) (t:Addr) (k:Nat) (tg ts:Addr) (gvs svs:YG):Prop where
 ht:H t=some (.tup [.ref tg,.ref ts])
 hg:H tg=some (.tup gvs)
 hs:H ts=some (.tup svs)
 ig:CJ gvs
 is:SpV H svs
 lg:gvs.length<=k
 ls:svs.length<=k
theorem GS.tups {H H':Hp} {t:Addr} {k:Nat} {tg ts:Addr} {gvs svs:YG} (h:GS H t k tg ts gvs svs) (s:Ar H H'):GS H' t k tg ts gvs svs:=⟨s _ _ h.ht,s _ _ h.hg,s _ _ h.hs,h.ig,h.is.tups s,h.lg,h.ls⟩
inductive La (vs:YG) (H:Hp) (Q:VK) (E:XK):Prop
 | mk (tw:Addr) (ws:List Int) (m:Int) (_:vs=[.ref tw,.int m]) (_:H tw=some (.tup (ws.map V.int))) (_:ws.length<=30) (_:∀t tg ts gvs svs H',GS H' t 30 tg ts gvs svs->gvs.length=svs.length->Same H H'->Q (.ref t) H'):La vs H Q E
inductive Lb (vs:YG) (H:Hp) (Q:VK) (E:XK):Prop
 | mk (b:Addr) (k:Nat) (tw tg ts:Addr) (ws:List Int) (gvs svs:YG) (_:vs=[.ref b,.ref tw,.ref tg,.ref ts]) (_:Bv H b k) (_:k<=9000) (_:H tw=some (.tup (ws.map V.int))) (_:1<=ws.length) (_:ws.length<=30) (_:H tg=some (.tup gvs)) (_:H ts=some (.tup svs)) (_:CJ gvs) (_:SpV H svs) (_:gvs.length<=30) (_:gvs.length=svs.length) (_:∀t tg' ts' JW Hv H',GS H' t 70 tg' ts' JW Hv->Bv H' b (k+4)->Am b H H'->Q (.ref t) H'):Lb vs H Q E
theorem Am.Ef {b:Addr} {k:Nat} {H H':Hp} (s:Am b H H') (hb:Bv H b k):Ar H H':=λc xs e=>s _ _ e λz=>by rw[z] at e;exact hb.RG _ e
section
variable {P:Program} {w:World} {K:YD} {mg:YB} {base:Heap}
theorem T6 (c:Code K mg "_law_laid" En FW) (T:Nm mg):Good P w K mg base "_law_laid" 1 FW La:=by
 refine c.good Ec (λvs H Q E h=>?_) (λf cdv A outer s H vs Q E hr h=>?_)
 ·obtain⟨tw,ws,m,rfl,_⟩:=h;rfl
 obtain⟨tw,ws,m,rfl,htw,wl,q⟩:=h;refine⟨_,(Ag (Bd (i:=2) Ec.nd rfl (Or.inl rfl) (GF Ab))
 (Ag (Bd (i:=3) Ec.nd rfl (Or.inl rfl) (GF Ab))
 (Ag (Bd (i:=4) Ec.nd rfl (Or.inl rfl) Ae)
 (Ag (Gz Qbn rfl (Qv rfl T.range (Aa Ae (Aa (Ak Aq rfl T.len BP (Aa (pv 0) Ab)) Ab))) (Ax (i:=5) Ec.nd rfl (Or.inl rfl))
 (Al (BW (Bs Jj (Ak (Gd rfl) rfl T.sum Ib (Aa (Bg Br (pv 0) (Bc (pv 4)) (Bc (Ai Bk (pv 5) Ae))) Ab)) (pv 1) (Bq _)) (Ag (JC (Ou PySem.F.plainAttrs_list PySem.F.slot_list_append PySem.F.type_list_append Gp (pv 2) (Aa (pv 5) Ab)))
 (Ag (JC (Ou PySem.F.plainAttrs_list PySem.F.slot_list_append PySem.F.type_list_append Gp (pv 3) (Aa (Aj (Aa (pv 4) (Aa (pv 5) Ab))) Ab)))
 (Al (Bd (i:=4) Ec.nd rfl (Or.inl rfl) (pv 5))))) Bl)))
 (Al (Av (Aj (Aa (Cy DQ rfl T.tuple Gh (Aa (pv 2) Ab)) (Aa (Cy DQ rfl T.tuple Gh (Aa (pv 3) Ab)) Ab))))))))),?_⟩
 show let R0:TS:=_;let R1:TS:=Ao _ _;let R2:TS:=Ao _ R1;let R3:TS:=Hu _ R2 _;let R4:TS:=Ao (Ir _ _ R3) R0;let R5:TS:=Ao _ R4;let R6:TS:=Ao _ R5;Ao _ R6 _ _ _;intro R0 R1 R2 R3 R4 R5 R6;refine⟨Af (by show 0<=1000;decide),λg hg=>BR ?_⟩;have s1:=Ad hg (.lst []);have h1:(upd H g (.lst [])) g=some (.lst []):=Ac;generalize upd H g (.lst [])=H1 at *;refine⟨Af (by show 0<=1000;decide),λsp hsp=>BR (BR ?_)⟩;have s2:=Ad hsp (.lst []);have h2:(upd H1 sp (.lst [])) sp=some (.lst []):=Ac;have h12:=s2 _ _ h1;have s02:=s1.trans s2;have ngs:g≠sp:=λz=>by rw[z] at h1;rw[h1] at hsp;cases hsp
 have fg:H g=none:=hg;have fs:H sp=none:=s1.free hsp;generalize upd H1 sp (.lst [])=H2 at *;have Yb:=s02 _ _ htw;refine⟨_,rq,tw,_,rq,.inr (SqT.of Yb),1,_,rq,?_⟩;rw[Qbc];refine⟨⟨by omega,by omega,by omega,by omega⟩,?_⟩;let J0:YN:=λ(i:Nat) (σ : St) (HH:Hp)=>∃u5,∃(first:Int) (gvs svs:YG),σ=[jd tw,some (.int m),jd g,jd sp,some (.int first),u5]/\HH g=some (.lst gvs)/\HH sp=some (.lst svs)/\CJ gvs/\SpV HH svs/\gvs.length=svs.length/\gvs.length<=i/\Same H HH
 refine HY J0 ⟨_,0,[],[],rq,h12,h2,(λv hv=>by cases hv),(λv hv=>by cases hv),rq,QbE _,s02⟩ (λi σ HH hi h=>?_) (fun σ HH h=>?_)
 ·obtain⟨u5,first,gvs,svs,rfl,e1,e2,e3,e4,e5,e6,e7⟩:=h
  have aB:i < 30:=by omega
  refine BR ⟨_,rq,_,rq,_,rq,_,rq,_,_,rq,rq,_,rq,tw,_,rq,e7 _ _ htw,λu H3 hu s3=>?_⟩;rw[Gb] at hu;refine⟨u,_,rq,.inr (SqT.of hu),_,rq,_,_,rq,rq,_,rq,?_⟩;have e1':=s3 _ _ e1;have e2':=s3 _ _ e2;have e4':=e4.tups (Ar.of s3);have e7':=e7.trans s3;by_cases cc:(Py ws (some first) (some (1+(i:Int)+1))).sum > m
  ·rw[Qbo cc];refine Ba ⟨_,rq,.inl ⟨rq,_,SqL.of e1'⟩,_,rq,g,_,_,rq,rq,e1',Bx (by omega),?_⟩;have s4:Am g H3 (upd H3 g (.lst (gvs++[.int (1+(i:Int))]))):=Am.upd;have h4:(upd H3 g (.lst (gvs++[.int (1+(i:Int))]))) g=some (.lst (gvs++[.int (1+(i:Int))])):=Ac;have tg':∀xs,H3 g≠some (.tup xs):=λxs z=>by rw[e1'] at z;cases z
   have e24:(upd H3 g (.lst (gvs++[.int (1+(i:Int))]))) sp=some (.lst svs):=by rw[Aw ngs.symm];exact e2'
   have e44:=e4'.tups (Ar.upd tg' (o:=.lst (gvs++[.int (1+(i:Int))])));have e74:=e7'.Cq s4 fg;generalize upd H3 g (.lst (gvs++[.int (1+(i:Int))]))=H4 at *;refine⟨_,rq,.inl ⟨rq,_,SqL.of e24⟩,_,rq,_,rq,Af (by show 2<=1000;decide),λtp htp=>?_⟩;have s5:=Ad htp (.tup [.int first,.int (1+(i:Int))])
   have h5:(upd H4 tp (.tup [.int first,.int (1+(i:Int))])) tp=some (.tup [.int first,.int (1+(i:Int))]):=Ac
   have h45:=s5 _ _ h4;have e25:=s5 _ _ e24;have e45:=e44.tups (Ar.of s5);have e75:=e74.trans s5;generalize upd H4 tp (.tup [.int first,.int (1+(i:Int))])=H5 at *
   refine⟨sp,_,_,rq,rq,e25,Bx (by omega),?_⟩;have ts':∀xs,H5 sp≠some (.tup xs):=λxs z=>by rw[e25] at z;cases z
   refine⟨_,rq,BR ⟨_,_,gvs++[.int (1+(i:Int))],svs++[.ref tp],rq,by rw[Aw ngs];exact h45,Ac,e3.app (CJ.one _),?_,by rw[Qax,Qax,e5];rfl,by rw[Qax];exact Nat.succ_le_succ e6,e75.Cq Am.upd fs⟩⟩;exact SpV.tups (Ar.upd ts') (e45.app (SpV.one h5))
  ·rw[Qbd cc];exact Bj ⟨_,first,gvs,svs,rq,e1',e2',e3,e4',e5,Nat.le_succ_of_le e6,e7'⟩
 ·obtain⟨u5,first,gvs,svs,rfl,e1,e2,e3,e4,e5,e6,e7⟩:=h
  have g30:gvs.length<=30:=by omega
  refine⟨_,rq,g,_,rq,.inl ⟨SqL.of e1,λt3 ht3=>?_⟩⟩;have s3:=Ad ht3 (.tup gvs);have h3:(upd HH t3 (.tup gvs)) t3=some (.tup gvs):=Ac;generalize upd HH t3 (.tup gvs)=H3 at *;refine⟨_,rq,sp,_,rq,.inl ⟨SqL.of (s3 _ _ e2),λt4 ht4=>?_⟩⟩;have s4:=Ad ht4 (.tup svs);have h4:(upd H3 t4 (.tup svs)) t4=some (.tup svs):=Ac;have h34:=s4 _ _ h3;have s34:=s3.trans s4;generalize upd H3 t4 (.tup svs)=H4 at *;refine⟨Af (by show 2<=1000;decide),λt5 ht5=>?_⟩;have s5:=Ad ht5 (.tup [.ref t3,.ref t4]);exact q t5 t3 t4 gvs svs _ ⟨Ac,s5 _ _ h34,s5 _ _ h4,e3,e4.tups (Ar.of (s34.trans s5)),g30,by omega⟩ e5 (e7.trans (s34.trans s5))
theorem Vc (c:Code K mg "_law_due" Fv GP) (T:Nm mg):Good P w K mg base "_law_due" 1 GP Od:=by
 refine c.good Dp (λvs H Q E h=>?_) (λf cdv A outer s H vs Q E hr h=>?_)
 ·obtain⟨tw,tg,ts,ws,m,gs,pvs,sps,rfl,_⟩:=h;rfl
 obtain⟨tw,tg,ts,ws,m,gs,pvs,sps,rfl,htw,htg,hts,pps,gl,q⟩:=h;refine⟨_,(Ag (Bd (i:=4) Dp.nd rfl (Or.inl rfl) Ae)
 (Ag (Gz Qbn rfl (HJ (Ai Bh (pv 2) (Aj (Aa (Ak Aq rfl T.len BP (Aa (pv 0) Ab)) Ab)))) (Ax (i:=5) Dp.nd rfl (Or.inl rfl))
 (Ag (BW (PW.pt (Fb (Bs Gm (pv 5) (pv 4) (Bq _)) (FP (Bs Jj (Ak (Gd rfl) rfl T.sum Ib (Aa (Bg Br (pv 0) (Bc (pv 4)) (Bc (pv 5))) Ab)) (pv 1) (Bq _))))) (Al (Av Cr)) Bl)
 (Al (Bd (i:=4) Dp.nd rfl (Or.inl rfl) (pv 5)))))
 (Ag (BW (Bs KZ (Ak Aq rfl T.len BP (Aa (pv 3) Ab)) (Ak Aq rfl T.len BP (Aa (pv 2) Ab)) (Bq _)) (Al (Av Cr)) Bl)
 (Ag (Bd (i:=6) Dp.nd rfl (Or.inl rfl) Ae)
 (Ag (Gz Qbn rfl (HJ (pv 3)) (Fe rfl (Bb (Ax (i:=7) Dp.nd rfl (Or.inl rfl)) (Bb (Ax (i:=8) Dp.nd rfl (Or.inl rfl)) Dm)))
 (Ag (BW (PW.pt (Fb (Bs Ow (pv 7) (pv 6) (Bq _)) (Fb (Bs Gm (pv 8) (pv 7) (Bq _)) (Fb (Bs Tg (pv 8) (Ak Aq rfl T.len BP (Aa (pv 0) Ab)) (Bq _)) (FP (Bs Gm (Ak (Gd rfl) rfl T.sum Ib (Aa (Bg Br (pv 0) (Bc (pv 7)) (Bc (Ai Bk (pv 8) Ae))) Ab)) (pv 1) (Bq _))))))) (Al (Av Cr)) Bl)
 (Al (Bd (i:=6) Dp.nd rfl (Or.inl rfl) (pv 8)))))
 (Al (Av Cr))))))),?_⟩
 show let R0:TS:=Ao _ _;let R1:TS:=Ao (Ir _ _ R0) _;let R2:TS:=Ao _ R1;let R3:TS:=Ao _ R2;let R4:TS:=Ao _ _;let R5:TS:=Ao (Ir _ _ R4) R3;Ao _ R5 _ _ _;intro R0 R1 R2 R3 R4 R5;refine BR ?_;refine⟨_,rq,_,rq,tw,_,rq,.inr (SqT.of htw),Af (by show 1<=1000;decide),λt1 ht1=>?_⟩;rw[Qbc];have s1:=Ad ht1 (.tup [.int (ws.length:Int)]);have h1:(upd H t1 (.tup [.int (ws.length:Int)])) t1=some (.tup [.int (ws.length:Int)]):=Ac;generalize upd H t1 (.tup [.int (ws.length:Int)])=H1 at *;refine⟨tg,t1,_,_,rq,rq,s1 _ _ htg,h1,Af (by rw[Qbc];show gs.length+1<=1000;omega),λt2 H2 h2 s2=>⟨t2,rq,⟨_,SqT.of h2⟩,?_⟩⟩;have s02:=s1.trans s2;have ee:gs.map V.int++[.int (ws.length:Int)]=(gs++[(ws.length:Int)]).map V.int:=by rw[Qbe];rfl
 rw[ee] at h2;unfold Px at q;generalize gs++[(ws.length:Int)]=L at *;let J1:YN:=λ(i:Nat) (σ : St) (HH:Hp)=>∃u5 u6 u7 u8,∃a:Int,σ=[jd tw,some (.int m),jd tg,jd ts,some (.int a),u5,u6,u7,u8]/\d1 ws m 0 L=d1 ws m a (L.drop i)/\Same H2 HH;refine Nq (xs:=L.map V.int) J1 ⟨_,_,_,_,0,rq,rq,Same.refl _⟩ (λi σ HH _ h=>?_) (λi x σ HH hx h=>?_) (fun σ HH h=>?_)
 ·obtain⟨u5,u6,u7,u8,a,rfl,e1,e2⟩:=h;exact SqT.of (e2 _ _ h2)
 ·obtain⟨u5,u6,u7,u8,a,rfl,e1,e2⟩:=h;rw[QaK] at hx;obtain⟨g,hg,rfl⟩:=Qak.mp hx;have hl:i < L.length:=(Qad.mp hg).1;have hd:L.drop i=g::L.drop (i+1):=by
   rw[Qaf hl];congr 1;exact (Qad.mp hg).2
  rw[hd] at e1;have e1:d1 ws m 0 L=(!(decide (g<=a) || decide (Cu ws a g > m))&&d1 ws m g (L.drop (i+1))):=e1;have s0H:=s02.trans e2;refine BR ⟨_,rq,_,rq,_,_,rq,rq,_,rq,?_⟩;by_cases c1:g<=a
  ·rw[Qbo c1];refine Ba (Ba ?_);have:=q HH s0H;rw[e1,Qbo c1] at this;exact this
  ·rw[Qbd c1];refine Bj ⟨_,rq,_,rq,_,rq,_,rq,_,rq,tw,_,rq,s0H _ _ htw,λu H3 hu s3=>?_⟩;rw[Gb] at hu;refine⟨u,_,rq,.inr (SqT.of hu),_,rq,_,_,rq,rq,_,rq,?_⟩;show if decide (Cu ws a g > m)=true then _ else _
   by_cases c2:Cu ws a g > m
   ·rw[Qbo c2];refine Ba ?_;have:=q H3 (s0H.trans s3);rw[e1,Qbo c2,Bool.or_true] at this;exact this
   ·rw[Qbd c2];refine Bj ⟨_,rq,BR ⟨_,_,_,_,g,rq,?_,e2.trans s3⟩⟩;rw[e1,Qbd c1,Qbd c2];rfl
 obtain⟨u5,u6,u7,u8,a,rfl,e1,e2⟩:=h;rw[Qbc,List.drop_length] at e1;have e1:d1 ws m 0 L=true:=e1;rw[e1,Qbw] at q;have s0H:=s02.trans e2;have RZ:=s0H _ _ hts;have Xa:=Sps.tups (Ar.of s0H) pps;have pl:=Qbz pps;rw[Qbc] at pl;refine⟨_,rq,ts,_,rq,.inr (SqT.of RZ),_,rq,tg,_,rq,.inr (SqT.of (s0H _ _ htg)),rq,_,rq,?_⟩;rw[Qbc,pl];by_cases c3:sps.length=gs.length
 ·rw[Qbo c3,Qbw] at q;refine K1 (by rw[c3]) ?_;refine⟨_,rq,ts,rq,⟨_,SqT.of RZ⟩,?_⟩;let J2:YN:=λ(i:Nat) (σ : St) (HX:Hp)=>∃u5 u7 u8,∃e:Int,σ=[jd tw,some (.int m),jd tg,jd ts,some (.int a),u5,some (.int e),u7,u8]/\d2 ws m 0 sps=d2 ws m e (sps.drop i)/\Same HH HX;refine Nq (xs:=pvs) J2 ⟨_,_,_,0,rq,rq,Same.refl _⟩ (λi σ HX _ h=>?_) (λi x σ HX hx h=>?_) (fun σ HX h=>?_)
  ·obtain⟨u5,u7,u8,e,rfl,f1,f2⟩:=h;exact SqT.of (f2 _ _ RZ)
  ·obtain⟨u5,u7,u8,e,rfl,f1,f2⟩:=h;obtain⟨o,ho,so⟩:=Jh Xa hx;rw[QaK] at ho;obtain⟨p,hp,rfl⟩:=Qak.mp ho;have hl:i < sps.length:=(Qad.mp hp).1;have hd:sps.drop i=p::sps.drop (i+1):=by
    rw[Qaf hl];congr 1;exact (Qad.mp hp).2
   rw[hd] at f1;have f1:d2 ws m 0 sps=(!(decide (p.1 < e) || (decide (p.2<=p.1) || (decide (p.2 ≥ (ws.length:Int)) || decide (Cu ws p.1 (p.2+1)<=m))))&&d2 ws m p.2 (sps.drop (i+1))):=f1;obtain⟨tp,rfl,htp⟩:=so;have s0X:=s0H.trans f2;refine⟨tp,_,rq,SqT.of (f2 _ _ htp),rq,_,_,rq,_,_,rq,rq,?_⟩;refine⟨_,rq,_,rq,_,_,rq,rq,_,rq,?_⟩;by_cases c4:p.1 < e
   ·rw[Qbo c4];refine Ba (Ba ?_);have:=q HX s0X;rw[f1,Qbo c4] at this;exact this
   rw[Qbd c4];refine Bj ⟨_,rq,_,rq,_,_,rq,rq,_,rq,?_⟩;by_cases c5:p.2<=p.1
   ·rw[Qbo c5];refine Ba (Ba ?_);have:=q HX s0X;rw[f1,Qbo c5,Bool.true_or,Bool.or_true] at this;exact this
   rw[Qbd c5];refine Bj ⟨_,rq,_,rq,tw,_,rq,.inr (SqT.of (s0X _ _ htw)),_,_,rq,rq,_,rq,?_⟩;rw[Qbc];by_cases c6:p.2 ≥ (ws.length:Int)
   ·rw[Qbo c6];refine Ba (Ba ?_);have:=q HX s0X;rw[f1,Qbo c6,Bool.true_or,Bool.or_true,Bool.or_true] at this;exact this
   rw[Qbd c6];refine Bj ⟨_,rq,_,rq,_,rq,_,rq,_,_,rq,rq,_,rq,tw,_,rq,s0X _ _ htw,λu H3 hu s3=>?_⟩;rw[Gb] at hu;refine⟨u,_,rq,.inr (SqT.of hu),_,rq,_,_,rq,rq,_,rq,?_⟩;show if decide (Cu ws p.1 (p.2+1)<=m)=true then _ else _
   by_cases c7:Cu ws p.1 (p.2+1)<=m
   ·rw[Qbo c7];refine Ba ?_;have:=q H3 (s0X.trans s3);rw[f1,Qbo c7,Bool.or_true,Bool.or_true,Bool.or_true] at this;exact this
   rw[Qbd c7];refine Bj ⟨_,rq,BR ⟨_,_,_,p.2,rq,?_,f2.trans s3⟩⟩;rw[f1,Qbd c4,Qbd c5,Qbd c6,Qbd c7];rfl
  ·obtain⟨u5,u7,u8,e,rfl,f1,f2⟩:=h;rw[pl,List.drop_length] at f1;have f1:d2 ws m 0 sps=true:=f1;rw[f1] at q;exact q _ (s0H.trans f2)
 ·rw[Qbd c3,Qbr] at q;have ne:¬V.int (sps.length:Int)=V.int (gs.length:Int):=λz=>c3 (by have:=V.int.inj z;omega);show if (!decide (V.int (sps.length:Int)=V.int (gs.length:Int)))=true then _ else _
  rw[Qbd ne];exact Ba (q _ s0H)
end
def Ci (R:Int->Int->Bool):List Int->Bool
 | a::b::r=>R a b&&Ci R (b::r)
 | _=>true
theorem SM {α : Type} (a b:α) (r:List α):adj (a::b::r)=(a,b)::adj (b::r):=rfl
theorem Kf {R:Int->Int->Bool}:∀l:List Int,((adj l).all λp=>R p.1 p.2)=Ci R l
 | []=>rfl
 | [a]=>rfl
 | a::b::r=>by
  rw[SM,List.all_cons,Kf (b::r)];rfl
theorem Uo {R:Int->Int->Bool} (l:List Int):(!(adj l).any λp=>R p.1 p.2)=Ci (λx y=>!R x y) l:=by
 rw[<-Kf];generalize adj l=q
 induction q with
 | nil=>rfl
 | cons p r ih=>rw[List.any_cons,List.all_cons,<-ih,Bool.not_or]
theorem Q5 {ws:List Int} {m:Int}:∀(L:List Int) (a:Int),d1 ws m a L=Ci (λx y=>decide (x < y)&&!decide (Cu ws x y > m)) (a::L)
 | [],a=>rfl
 | g::r,a=>by
  show (!(decide (g<=a) || decide (Cu ws a g > m))&&d1 ws m g r)=_;rw[Q5 r g];show _=(decide (a < g)&&!decide (Cu ws a g > m)&&Ci _ (g::r));rw[Bool.not_or];congr 2;by_cases h:g<=a
  ·rw[Qbo h,Qbd (by omega)];rfl
  ·rw[Qbd h,Qbo (by omega)];rfl
theorem MF {R S:Int->Int->Bool}:∀l,Ci (λx y=>R x y&&S x y) l=(Ci R l&&Ci S l)
 | []=>rfl
 | [a]=>rfl
 | a::b::r=>by
  show (R a b&&S a b&&Ci _ (b::r))=(R a b&&Ci R (b::r)&&(S a b&&Ci S (b::r)));rw[MF (b::r)];cases R a b <;> cases S a b <;> cases Ci R (b::r) <;> rfl
theorem G8 (n:Int):∀(gs:List Int) (a:Int),Ci (λx y=>decide (x < y)) (a::(gs++[n]))=true ↔ (a < n/\(∀g∈gs,a < g/\g < n)/\Ci (λx y=>decide (x < y)) gs=true)
 | [],a=>by
  show (decide (a < n)&&true)=true ↔ _;rw[Bool.and_true,Qay];exact⟨λh=>⟨h,(λg hg=>by cases hg),rq⟩,λh=>h.1⟩
 | g::r,a=>by
  show (decide (a < g)&&Ci _ (g::(r++[n])))=true ↔ _;rw[QaS,Qay,G8 n r g];constructor
  ·intro ⟨h1,h2,h3,h4⟩;refine⟨by omega,λx hx=>?_,?_⟩
   ·rcases Qbu.mp hx with rfl | hx
    ·exact⟨h1,h2⟩
    ·have:=h3 x hx;omega
   ·cases r with
    | nil=>rfl
    | cons y z=>
     show (decide (g < y)&&Ci _ (y::z))=true;rw[h4,Qbo (h3 y (.head _)).1];rfl
  ·intro ⟨h1,h2,h3⟩;have hg:=h2 g (.head _);have key:∀(r:List Int) (g:Int),Ci (λx y=>decide (x < y)) (g::r)=true->∀x∈r,g < x:=by
    intro r
    induction r with
    | nil=>intro g _ x hx;cases hx
    | cons y z ih=>
     intro g h x hx;have h:(decide (g < y)&&Ci (λx y=>decide (x < y)) (y::z))=true:=h;rw[QaS,Qay] at h;rcases Qbu.mp hx with rfl | hx
     ·exact h.1
     ·exact Int.lt_trans h.1 (ih y h.2 x hx)
   refine⟨hg.1,hg.2,λx hx=>⟨key r g h3 x hx,(h2 x (.tail _ hx)).2⟩,?_⟩;cases r with
   | nil=>rfl
   | cons y z=>
    have h3:(decide (g < y)&&Ci (λx y=>decide (x < y)) (y::z))=true:=h3;rw[QaS] at h3;exact h3.2
theorem Ln:∀(gs:List Int) (a n:Int),(∀g∈gs,a < g/\g < n)->Ci (λx y=>decide (x < y)) gs=true->a < n->(gs.length:Int)<=n - 1 - a
 | [],a,n,_,_,h=>by simp;omega
 | g::r,a,n,h1,h2,h=>by
  have hg:=h1 g (.head _);have:∀x∈r,g < x/\x < n:=by
   intro x hx;have e:=(G8 n (r) g).mp ?_
   ·exact e.2.1 x hx
   ·
    have q:=(G8 n (g::r) a).mpr ⟨h,h1,h2⟩;have q:(decide (a < g)&&Ci (λx y=>decide (x < y)) (g::(r++[n])))=true:=q;rw[QaS] at q;exact q.2
  have h3:Ci (λx y=>decide (x < y)) r=true:=by
   cases r with
   | nil=>rfl
   | cons y z=>
    have h2:(decide (g < y)&&Ci (λx y=>decide (x < y)) (y::z))=true:=h2;rw[QaS] at h2;exact h2.2
  have:=Ln r g n this h3 hg.2;rw[QaX];omega
theorem Sh {ws:List Int} {m:Int} {gs:List Int} (hn:1<=ws.length):d1 ws m 0 (gs++[(ws.length:Int)])=(gB 0 ((ws.length:Int) - 1) 1 ((ws.length:Int) - 1) (some gs)&&!anyB ws m gs):=by
 rw[Q5,MF];unfold anyB;rw[Uo (R:=λx y=>decide (Cu ws x y > m))];congr 1;have e:Jz gs=Ci (λx y=>decide (x < y)) gs:=by unfold Jz;exact Kf (R:=λx y=>decide (x < y)) gs
 show _=(Dz (some (gs.map V.int)) 0 ((ws.length:Int) - 1)&&((gs.all λg=>wiB (.int g) 1 ((ws.length:Int) - 1))&&Jz gs));rw[e,Qbj,G8];show _ ↔ ((decide ((0:Int)<=(gs.map V.int).length)&&decide (((gs.map V.int).length:Int)<=(ws.length:Int) - 1))&&_)=true;rw[Qbc,QaS,QaS,QaS,Qay,Qay,List.all_eq_true];have wi:∀g:Int,wiB (.int g) 1 ((ws.length:Int) - 1)=true ↔ 0 < g/\g < (ws.length:Int):=λg=>by
  show (decide (1<=g)&&decide (g<=(ws.length:Int) - 1))=true ↔ _;rw[QaS,Qay,Qay];omega
 constructor
 ·intro ⟨h1,h2,h3⟩;have:=Ln gs 0 _ h2 h3 h1;exact⟨⟨by omega,by omega⟩,λg hg=>(wi g).mpr (h2 g hg),h3⟩
 ·intro ⟨h1,h2,h3⟩;exact⟨by omega,λg hg=>(wi g).mp (h2 g hg),h3⟩
theorem Hw {ws:List Int} {m:Int}:∀(sps:List (Int×Int)) (e:Int),0<=e->(d2 ws m e sps=true ↔ ((sps.map some).all (hvB ws m)=true/\Iz (sps.map some)=true/\∀p,sps.head?=some p->e<=p.1))
 | [],e,_=>⟨λ_=>⟨rfl,rfl,λp h=>by cases h⟩,λ_=>rfl⟩
 | p::r,e,he=>by
  have hv:hvB ws m (some p)=true ↔ ((0<=p.1/\p.1<=(ws.length:Int) - 1)/\(p.1+1<=p.2/\p.2<=(ws.length:Int) - 1)/\Cu ws p.1 (p.2+1) > m):=by
   show ((decide (0<=p.1)&&decide (p.1<=(ws.length:Int) - 1))&&((decide (p.1+1<=p.2)&&decide (p.2<=(ws.length:Int) - 1))&&decide (Cu ws p.1 (p.2+1) > m)))=true ↔ _;simp only[QaS,Qay]
  have hd:d2 ws m e (p::r)=true ↔ ((¬p.1 < e/\¬p.2<=p.1/\¬p.2 ≥ (ws.length:Int)/\¬Cu ws p.1 (p.2+1)<=m)/\d2 ws m p.2 r=true):=by
   show (!(decide (p.1 < e) || (decide (p.2<=p.1) || (decide (p.2 ≥ (ws.length:Int)) || decide (Cu ws p.1 (p.2+1)<=m))))&&d2 ws m p.2 r)=true ↔ _;simp only[QaS,Bool.not_eq_true',Bool.or_eq_false_iff,decide_eq_false_iff_not]
  have ho:Iz ((p::r).map some)=true ↔ ((∀q,r.head?=some q->p.2<=q.1)/\Iz (r.map some)=true):=by
   cases r with
   | nil=>exact⟨λ_=>⟨(λq h=>by cases h),rfl⟩,λ_=>rfl⟩
   | cons q z=>
    show (decide (p.2<=q.1)&&Iz ((q::z).map some))=true ↔ _;rw[QaS,Qay];exact⟨λh=>⟨(λx hx=>by cases hx;exact h.1),h.2⟩,λh=>⟨h.1 q rfl,h.2⟩⟩
  rw[hd,ho,Qbv,List.all_cons,QaS,hv];constructor
  ·intro ⟨h1,h2⟩;have:=(Hw r p.2 (by omega)).mp h2;exact⟨⟨⟨⟨by omega,by omega⟩,⟨by omega,by omega⟩,by omega⟩,this.1⟩,⟨this.2.2,this.2.1⟩,λx hx=>by cases hx;omega⟩
  ·intro ⟨⟨h1,h2⟩,⟨h3,h4⟩,h5⟩;have:=h5 p rfl;exact⟨⟨by omega,by omega,by omega,by omega⟩,(Hw r p.2 (by omega)).mpr ⟨h2,h4,h3⟩⟩
theorem Ui {ws:List Int} {m:Int} {gs:List Int} {sps:List (Int×Int)} (h1:1<=ws.length) (h30:ws.length<=30) (hw:∀x∈ws,0<=x/\x<=9) (m1:1<=m) (m99:m<=99):DG (some (ws.map some)) (some m) (some gs) (some (sps.map some))=Px ws m gs sps:=by
 have ew:wsI (some (ws.map some))=ws:=by
  show (ws.map some).map (·.getD 0)=ws;rw[List.map_map];exact List.map_id _
 have e1:wtB (some (ws.map some))=true:=by
  show (Dz (some ((ws.map some).map oV)) 1 30&&(ws.map some).all λo=>wiB (oV o) 0 9)=true;rw[QaS];constructor
  ·show (decide ((1:Int)<=((ws.map some).map oV).length)&&decide ((((ws.map some).map oV).length:Int)<=30))=true;rw[Qbc,Qbc,QaS,Qay,Qay];omega
  ·rw[List.all_map];refine List.all_eq_true.mpr λx hx=>?_;show (decide (0<=x)&&decide (x<=9))=true;rw[QaS,Qay,Qay];exact hw x hx
 have e2:mB (some m)=true:=by
  show (decide (1<=m)&&decide (m<=99))=true;rw[QaS,Qay,Qay];exact⟨m1,m99⟩
 unfold DG Px;rw[e1,e2,ew,Sh h1,Qbw,Qbw,Bool.and_assoc];congr 2;show (decide ((sps.map some).length=gs.length)&&((sps.map some).all (hvB ws m)&&Iz (sps.map some)))=_;rw[Qbc];congr 1;rw[Qbj,Hw sps 0 (Int.le_refl _),QaS];constructor
 ·intro ⟨h,k⟩;refine⟨h,k,λp hp=>?_⟩;have hm:p∈sps:=by
   cases sps with
   | nil=>cases hp
   | cons q z=>cases hp;exact .head _
  have:=List.all_eq_true.mp h (some p) (List.mem_map.mpr ⟨p,hm,rq⟩);have this:((decide (0<=p.1)&&decide (p.1<=(ws.length:Int) - 1))&&_)=true:=this;rw[QaS,QaS,Qay] at this;exact this.1.1
 ·intro ⟨h,k,_⟩;exact⟨h,k⟩
abbrev Cm:Stmt:=top 98
abbrev CQ:YF:=["_law_bag_here","_law_weights","_law_most","_law_gates","_law_spans"]
theorem Gj:Bm ["_law_bag_here","_law_weights","_law_most","_law_gates","_law_spans","_law_odd"] CQ (Ah Cm):=by ac_rfl
def Odd (H:Hp) (c:Addr) (pav:V):Prop:=(∃x y,H c=some (.tup [.str "fewest",x,y])) \/
 ∃wv mv gv W M G P,H c=some (.tup [.str "fewest",wv,mv,gv])/\Gi H wv W/\SX mv M/\Fp H gv G/\Ey H pav P/\(∀ws,W=some ws->ws.length<=100)/\(∀gs,G=some gs->gs.length<=100)/\(∀ps,P=some ps->ps.length<=100)/\DG W M G P=false
inductive Oc (vs:YG) (H:Hp) (Q:VK) (E:XK):Prop
 | mk (b:Addr) (k:Nat) (tw tg ts:Addr) (ws:List Int) (m:Int) (gs:List Int) (svs:YG) (sps:List (Int×Int)) (_:vs=[.ref b,.ref tw,.int m,.ref tg,.ref ts]) (_:Bv H b k) (_:k<=9000) (_:H tw=some (.tup (ws.map V.int))) (_:ws.length<=30) (_:H tg=some (.tup (gs.map V.int))) (_:H ts=some (.tup svs)) (_:Paired (Ew H) svs (sps.map some)) (_:gs.length<=30) (_:sps.length<=30) (_:∀t c pav H',H' t=some (.tup [.ref c,pav])->Odd H' c pav->Bv H' b (k+1)->Am b H H'->Q (.ref t) H'):Oc vs H Q E
theorem Jq {W M G P} (h:wtB W=false):DG W M G P=false:=by unfold DG;rw[h];rfl
theorem Tj {W M G P} (h:mB M=false):DG W M G P=false:=by unfold DG;rw[h,Qbr,Qbq]
theorem Wy {W M G P} (h:∀n:Int,gB 0 (n - 1) 1 (n - 1) G=false):DG W M G P=false:=by unfold DG;rw[h,Qbr,Qbq,Qbq]
theorem VB {W M G P} (h:gB 0 (((wsI W).length:Int) - 1) 1 (((wsI W).length:Int) - 1) G=false):DG W M G P=false:=by unfold DG;rw[h,Qbr,Qbq,Qbq]
theorem Pu {W M G P} (h:∀ws m gs,pB ws m gs P=false):DG W M G P=false:=by unfold DG;rw[h,Qbq,Qbq,Qbq,Qbq]
theorem KY {H:Hp} {t:Addr} {ws:List Int} (h:H t=some (.tup (ws.map V.int))):Gi H (.ref t) (some (ws.map some)):=⟨t,rfl,by rw[h,List.map_map];rfl⟩
theorem Rf (ws:List Int):wsI (some (ws.map some))=ws:=by
 show (ws.map some).map (·.getD 0)=ws;rw[List.map_map];exact List.map_id _
theorem Z2 {i:Int} (h0:0<=i) (h1:i < 13) {a0 a1 a2 a3 a4 a5 a6 a7 a8 a9 a10 a11 a12:V} (P:V->Prop) (p0:P a0) (p1:P a1) (p2:P a2) (p3:P a3) (p4:P a4) (p5:P a5) (p6:P a6) (p7:P a7) (p8:P a8) (p9:P a9) (p10:P a10) (p11:P a11) (p12:P a12):∃v,atI [a0,a1,a2,a3,a4,a5,a6,a7,a8,a9,a10,a11,a12] i=some v/\P v:=by
 have:i=0\/i=1\/i=2\/i=3\/i=4\/i=5\/i=6\/i=7\/i=8\/i=9\/i=10\/i=11\/i=12:=by omega
 rcases this with rfl | rfl | rfl | rfl | rfl | rfl | rfl | rfl | rfl | rfl | rfl | rfl | rfl
 ·exact⟨_,rq,p0⟩
 ·exact⟨_,rq,p1⟩
 ·exact⟨_,rq,p2⟩
 ·exact⟨_,rq,p3⟩
 ·exact⟨_,rq,p4⟩
 ·exact⟨_,rq,p5⟩
 ·exact⟨_,rq,p6⟩
 ·exact⟨_,rq,p7⟩
 ·exact⟨_,rq,p8⟩
 ·exact⟨_,rq,p9⟩
 ·exact⟨_,rq,p10⟩
 ·exact⟨_,rq,p11⟩
 ·exact⟨_,rq,p12⟩
section
variable {P:Program} {w:World} {K:YD} {mg:YB} {base:Heap}
theorem Rx (c:Code K mg "_law_other_form" Cm CQ) (T:Nm mg) (Bp:Good P w K mg base "_law_take" 1 DW Hx):Good P w K mg base "_law_other_form" 2 CQ Oc:=by
 refine c.good Gj (λvs H Q E h=>?_) (λf cdv A outer s H vs Q E hr h=>?_)
 ·obtain⟨b,k,tw,tg,ts,ws,m,gs,svs,sps,rfl,_⟩:=h;rfl
 obtain⟨b,k,tw,tg,ts,ws,m,gs,svs,sps,rfl,hb,hk,htw,wl,htg,hts,pps,gl,sl,q⟩:=h;refine⟨_,(@Ag _ _ _ _ _ (@Bd _ _ 5 _ _ _ _ Gj.nd rfl (Or.inl rfl) (@GF _ _ _ _ (@Aa _ _ _ _ _ (Aj (Aa (Aj (Aa Cw (Aa (Cy Ge rfl T.list Kc (Aa (pv 1) Ab)) (Aa (pv 2) (Aa (pv 3) Ab))))) (Aa (pv 4) Ab))) (@Aa _ _ _ _ _ (Aj (Aa (Aj (Aa Cw (Aa (pv 1) (Aa (pv 2) (Aa (Cy Ge rfl T.list Kc (Aa (pv 3) Ab)) Ab))))) (Aa (pv 4) Ab))) (@Aa _ _ _ _ _ (Aj (Aa (Aj (Aa Cw (Aa (pv 1) (Aa (pv 2) (Aa (pv 3) Ab))))) (Aa (Cy Ge rfl T.list Kc (Aa (pv 4) Ab)) Ab))) (@Aa _ _ _ _ _ (Aj (Aa (Aj (Aa Cw (Aa (pv 1) (Aa Ae (Aa (Aj Ab) Ab))))) (Aa (Aj Ab) Ab))) (@Aa _ _ _ _ _ (Aj (Aa (Aj (Aa Cw (Aa (@Ai _ _ _ _ _ _ _ _ Bh (pv 1) (Aj (Aa Ae Ab))) (Aa Ae (Aa (pv 3) Ab))))) (Aa (pv 4) Ab))) (@Aa _ _ _ _ _ (Aj (Aa (Aj (Aa Cw (Aa (Aj Ab) (Aa (pv 2) (Aa (Aj Ab) Ab))))) (Aa (Aj Ab) Ab))) (@Aa _ _ _ _ _ (Aj (Aa (Aj (Aa Cw (Aa (pv 1) (Aa (pv 2) (Aa (@Ai _ _ _ _ _ _ _ _ Bh (pv 3) (Aj (Aa (Ak Aq rfl T.len BP (Aa (pv 1) Ab)) Ab))) Ab))))) (Aa (@Ai _ _ _ _ _ _ _ _ Bh (pv 4) (Aj (Aa (Aj (Aa Ae (Aa Ae Ab))) Ab))) Ab))) (@Aa _ _ _ _ _ (Aj (Aa (Aj (Aa Cw (Aa (pv 1) (Aa (pv 2) (Aa (pv 3) Ab))))) (Aa Lq Ab))) (@Aa _ _ _ _ _ (Aj (Aa (Aj (Aa Cw (Aa (pv 1) (Aa (pv 2) Ab)))) (Aa (pv 4) Ab))) (@Aa _ _ _ _ _ (Aj (Aa (Aj (Aa Cw (Aa (@Ai _ _ _ _ _ _ _ _ Bh (pv 1) (@Ai _ _ _ _ _ _ _ _ Rv (Aj (Aa Ae Ab)) Ae)) (Aa Ae (Aa (pv 3) Ab))))) (Aa (pv 4) Ab))) (@Aa _ _ _ _ _ (Aj (Aa (Aj (Aa Cw (Aa (pv 1) (Aa Cr (Aa (pv 3) Ab))))) (Aa (pv 4) Ab))) (@Aa _ _ _ _ _ (Aj (Aa (Aj (Aa Cw (Aa (pv 1) (Aa (pv 2) (Aa (pv 3) Ab))))) (Aa (@Ai _ _ _ _ _ _ _ _ Bh (pv 4) (Aj (Aa Lq Ab))) Ab))) (@Aa _ _ _ _ _ (Aj (Aa (Aj (Aa Cw (Aa (@Ai _ _ _ _ _ _ _ _ Bh (Aj (Aa Lq Ab)) (pv 1)) (Aa (pv 2) (Aa (pv 3) Ab))))) (Aa (pv 4) Ab))) (@Ab _) CN) CN) CN) CN) CN) CN) CN) CN) CN) CN) CN) CN) CN)) (by rfl) (by first | exact .inl rfl | exact .inr rfl))
 (@Al _ _ _ (Av (Cg Dy (pv 5) (Ce Bp hr (Aa (pv 0) (Aa Ae Ab))) (λ_ _=>rfl))))),?_⟩
 show let R0:TS:=_;Ao _ R0 _ _ _;intro R0;have svl:=Qbz pps;rw[Qbc] at svl;have z0:Same H H:=Same.refl _;refine⟨_,rq,tw,_,rq,.inr (SqT.of (z0 _ _ htw)),λl1 hl1=>?_⟩;have s1:=Ad hl1 (.lst (ws.map V.int));have fl1:(upd H l1 (.lst (ws.map V.int))) l1=some (.lst (ws.map V.int)):=Ac;generalize upd H l1 (.lst (ws.map V.int))=H1 at *;have z1:Same H H1:=z0.trans s1;refine⟨_,rq,_,rq,Af (by show 4<=1000;decide),λc1 hc1=>?_⟩;have s2:=Ad hc1 (.tup [.str "fewest",.ref l1,.int m,.ref tg]);have fc1:(upd H1 c1 (.tup [.str "fewest",.ref l1,.int m,.ref tg])) c1=some (.tup [.str "fewest",.ref l1,.int m,.ref tg]):=Ac;generalize upd H1 c1 (.tup [.str "fewest",.ref l1,.int m,.ref tg])=H2 at *;have z2:Same H H2:=z1.trans s2;refine⟨_,rq,Af (by show 2<=1000;decide),λp1 hp1=>?_⟩;have s3:=Ad hp1 (.tup [.ref c1,.ref ts]);have fp1:(upd H2 p1 (.tup [.ref c1,.ref ts])) p1=some (.tup [.ref c1,.ref ts]):=Ac;generalize upd H2 p1 (.tup [.ref c1,.ref ts])=H3 at *;have z3:Same H H3:=z2.trans s3;have t2:True:=True.intro;refine⟨_,rq,_,rq,?_⟩;refine⟨_,rq,tg,_,rq,.inr (SqT.of (z3 _ _ htg)),λl2 hl2=>?_⟩;have s4:=Ad hl2 (.lst (gs.map V.int));have fl2:(upd H3 l2 (.lst (gs.map V.int))) l2=some (.lst (gs.map V.int)):=Ac;generalize upd H3 l2 (.lst (gs.map V.int))=H4 at *;have z4:Same H H4:=z3.trans s4;refine⟨Af (by show 4<=1000;decide),λc2 hc2=>?_⟩;have s5:=Ad hc2 (.tup [.str "fewest",.ref tw,.int m,.ref l2]);have fc2:(upd H4 c2 (.tup [.str "fewest",.ref tw,.int m,.ref l2])) c2=some (.tup [.str "fewest",.ref tw,.int m,.ref l2]):=Ac;generalize upd H4 c2 (.tup [.str "fewest",.ref tw,.int m,.ref l2])=H5 at *;have z5:Same H H5:=z4.trans s5;refine⟨_,rq,Af (by show 2<=1000;decide),λp2 hp2=>?_⟩;have s6:=Ad hp2 (.tup [.ref c2,.ref ts]);have fp2:(upd H5 p2 (.tup [.ref c2,.ref ts])) p2=some (.tup [.ref c2,.ref ts]):=Ac;generalize upd H5 p2 (.tup [.ref c2,.ref ts])=H6 at *;have z6:Same H H6:=z5.trans s6;refine⟨_,rq,_,rq,_,rq,Af (by show 4<=1000;decide),λc3 hc3=>?_⟩;have s7:=Ad hc3 (.tup [.str "fewest",.ref tw,.int m,.ref tg]);have fc3:(upd H6 c3 (.tup [.str "fewest",.ref tw,.int m,.ref tg])) c3=some (.tup [.str "fewest",.ref tw,.int m,.ref tg]):=Ac;generalize upd H6 c3 (.tup [.str "fewest",.ref tw,.int m,.ref tg])=H7 at *;have z7:Same H H7:=z6.trans s7;refine⟨_,rq,ts,_,rq,.inr (SqT.of (z7 _ _ hts)),λl3 hl3=>?_⟩;have s8:=Ad hl3 (.lst svs);have fl3:(upd H7 l3 (.lst svs)) l3=some (.lst svs):=Ac;generalize upd H7 l3 (.lst svs)=H8 at *;have z8:Same H H8:=z7.trans s8;refine⟨Af (by show 2<=1000;decide),λp3 hp3=>?_⟩;have s9:=Ad hp3 (.tup [.ref c3,.ref l3]);have fp3:(upd H8 p3 (.tup [.ref c3,.ref l3])) p3=some (.tup [.ref c3,.ref l3]):=Ac;generalize upd H8 p3 (.tup [.ref c3,.ref l3])=H9 at *;have z9:Same H H9:=z8.trans s9;refine⟨_,rq,?_⟩;refine⟨Af (by show 0<=1000;decide),λe4 he4=>?_⟩;have s10:=Ad he4 (.tup []);have fe4:(upd H9 e4 (.tup [])) e4=some (.tup []):=Ac;generalize upd H9 e4 (.tup [])=H10 at *;have z10:Same H H10:=z9.trans s10;refine⟨Af (by show 4<=1000;decide),λc4 hc4=>?_⟩;have s11:=Ad hc4 (.tup [.str "fewest",.ref tw,.int 100,.ref e4]);have fc4:(upd H10 c4 (.tup [.str "fewest",.ref tw,.int 100,.ref e4])) c4=some (.tup [.str "fewest",.ref tw,.int 100,.ref e4]):=Ac;generalize upd H10 c4 (.tup [.str "fewest",.ref tw,.int 100,.ref e4])=H11 at *;have z11:Same H H11:=z10.trans s11;refine⟨Af (by show 0<=1000;decide),λe4b Yq=>?_⟩;have s12:=Ad Yq (.tup []);have Zf:(upd H11 e4b (.tup [])) e4b=some (.tup []):=Ac;generalize upd H11 e4b (.tup [])=H12 at *;have z12:Same H H12:=z11.trans s12;refine⟨Af (by show 2<=1000;decide),λp4 hp4=>?_⟩;have s13:=Ad hp4 (.tup [.ref c4,.ref e4b]);have fp4:(upd H12 p4 (.tup [.ref c4,.ref e4b])) p4=some (.tup [.ref c4,.ref e4b]):=Ac;generalize upd H12 p4 (.tup [.ref c4,.ref e4b])=H13 at *;have z13:Same H H13:=z12.trans s13;refine⟨_,rq,?_⟩;refine⟨Af (by show 1<=1000;decide),λt5 ht5=>?_⟩;have s14:=Ad ht5 (.tup [.int 10]);have ft5:(upd H13 t5 (.tup [.int 10])) t5=some (.tup [.int 10]):=Ac;generalize upd H13 t5 (.tup [.int 10])=H14 at *;have z14:Same H H14:=z13.trans s14;refine⟨tw,t5,_,_,rq,rq,(z14 _ _ htw),ft5,Af (by simp;omega),λw5 H15 fw5 s15=>?_⟩;have z15:Same H H15:=z14.trans s15;refine⟨_,rq,Af (by show 4<=1000;decide),λc5 hc5=>?_⟩;have s16:=Ad hc5 (.tup [.str "fewest",.ref w5,.int 99,.ref tg]);have fc5:(upd H15 c5 (.tup [.str "fewest",.ref w5,.int 99,.ref tg])) c5=some (.tup [.str "fewest",.ref w5,.int 99,.ref tg]):=Ac;generalize upd H15 c5 (.tup [.str "fewest",.ref w5,.int 99,.ref tg])=H16 at *;have z16:Same H H16:=z15.trans s16;refine⟨_,rq,Af (by show 2<=1000;decide),λp5 hp5=>?_⟩;have s17:=Ad hp5 (.tup [.ref c5,.ref ts]);have fp5:(upd H16 p5 (.tup [.ref c5,.ref ts])) p5=some (.tup [.ref c5,.ref ts]):=Ac;generalize upd H16 p5 (.tup [.ref c5,.ref ts])=H17 at *;have z17:Same H H17:=z16.trans s17;refine⟨Af (by show 0<=1000;decide),λe6a Yp=>?_⟩;have s18:=Ad Yp (.tup []);have Ze:(upd H17 e6a (.tup [])) e6a=some (.tup []):=Ac;generalize upd H17 e6a (.tup [])=H18 at *;have z18:Same H H18:=z17.trans s18;refine⟨_,rq,?_⟩;refine⟨Af (by show 0<=1000;decide),λe6b Yo=>?_⟩;have s19:=Ad Yo (.tup []);have Zd:(upd H18 e6b (.tup [])) e6b=some (.tup []):=Ac;generalize upd H18 e6b (.tup [])=H19 at *;have z19:Same H H19:=z18.trans s19;refine⟨Af (by show 4<=1000;decide),λc6 hc6=>?_⟩;have s20:=Ad hc6 (.tup [.str "fewest",.ref e6a,.int m,.ref e6b]);have fc6:(upd H19 c6 (.tup [.str "fewest",.ref e6a,.int m,.ref e6b])) c6=some (.tup [.str "fewest",.ref e6a,.int m,.ref e6b]):=Ac;generalize upd H19 c6 (.tup [.str "fewest",.ref e6a,.int m,.ref e6b])=H20 at *;have z20:Same H H20:=z19.trans s20;refine⟨Af (by show 0<=1000;decide),λe6c Yn=>?_⟩;have s21:=Ad Yn (.tup []);have Zc:(upd H20 e6c (.tup [])) e6c=some (.tup []):=Ac;generalize upd H20 e6c (.tup [])=H21 at *;have z21:Same H H21:=z20.trans s21;refine⟨Af (by show 2<=1000;decide),λp6 hp6=>?_⟩;have s22:=Ad hp6 (.tup [.ref c6,.ref e6c]);have fp6:(upd H21 p6 (.tup [.ref c6,.ref e6c])) p6=some (.tup [.ref c6,.ref e6c]):=Ac;generalize upd H21 p6 (.tup [.ref c6,.ref e6c])=H22 at *;have z22:Same H H22:=z21.trans s22;refine⟨_,rq,_,rq,_,rq,_,rq,tw,_,rq,.inr (SqT.of (z22 _ _ htw)),?_⟩;rw[Qbc];refine⟨Af (by show 1<=1000;decide),λt7 ht7=>?_⟩;have s23:=Ad ht7 (.tup [.int (ws.length:Int)]);have ft7:(upd H22 t7 (.tup [.int (ws.length:Int)])) t7=some (.tup [.int (ws.length:Int)]):=Ac;generalize upd H22 t7 (.tup [.int (ws.length:Int)])=H23 at *;have z23:Same H H23:=z22.trans s23;refine⟨tg,t7,_,_,rq,rq,(z23 _ _ htg),ft7,Af (by simp;omega),λg7 H24 fg7 s24=>?_⟩;have z24:Same H H24:=z23.trans s24;refine⟨Af (by show 4<=1000;decide),λc7 hc7=>?_⟩;have s25:=Ad hc7 (.tup [.str "fewest",.ref tw,.int m,.ref g7]);have fc7:(upd H24 c7 (.tup [.str "fewest",.ref tw,.int m,.ref g7])) c7=some (.tup [.str "fewest",.ref tw,.int m,.ref g7]):=Ac;generalize upd H24 c7 (.tup [.str "fewest",.ref tw,.int m,.ref g7])=H25 at *;have z25:Same H H25:=z24.trans s25;refine⟨_,rq,?_⟩;refine⟨Af (by show 2<=1000;decide),λt7b Yd=>?_⟩;have s26:=Ad Yd (.tup [.int 0,.int 0]);have Y6:(upd H25 t7b (.tup [.int 0,.int 0])) t7b=some (.tup [.int 0,.int 0]):=Ac;generalize upd H25 t7b (.tup [.int 0,.int 0])=H26 at *;have z26:Same H H26:=z25.trans s26;refine⟨Af (by show 1<=1000;decide),λt7c Yc=>?_⟩;have s27:=Ad Yc (.tup [.ref t7b]);have Vv:(upd H26 t7c (.tup [.ref t7b])) t7c=some (.tup [.ref t7b]):=Ac;generalize upd H26 t7c (.tup [.ref t7b])=H27 at *;have z27:Same H H27:=z26.trans s27;refine⟨ts,t7c,_,_,rq,rq,(z27 _ _ hts),Vv,Af (by simp;omega),λqq7 H28 Y7 s28=>?_⟩;have z28:Same H H28:=z27.trans s28;refine⟨Af (by show 2<=1000;decide),λp7 hp7=>?_⟩;have s29:=Ad hp7 (.tup [.ref c7,.ref qq7]);have fp7:(upd H28 p7 (.tup [.ref c7,.ref qq7])) p7=some (.tup [.ref c7,.ref qq7]):=Ac;generalize upd H28 p7 (.tup [.ref c7,.ref qq7])=H29 at *;have z29:Same H H29:=z28.trans s29;refine⟨_,rq,_,rq,_,rq,Af (by show 4<=1000;decide),λc8 hc8=>?_⟩;have s30:=Ad hc8 (.tup [.str "fewest",.ref tw,.int m,.ref tg]);have fc8:(upd H29 c8 (.tup [.str "fewest",.ref tw,.int m,.ref tg])) c8=some (.tup [.str "fewest",.ref tw,.int m,.ref tg]):=Ac;generalize upd H29 c8 (.tup [.str "fewest",.ref tw,.int m,.ref tg])=H30 at *;have z30:Same H H30:=z29.trans s30;refine⟨Af (by show 2<=1000;decide),λp8 hp8=>?_⟩;have s31:=Ad hp8 (.tup [.ref c8,.non]);have fp8:(upd H30 p8 (.tup [.ref c8,.non])) p8=some (.tup [.ref c8,.non]):=Ac;generalize upd H30 p8 (.tup [.ref c8,.non])=H31 at *;have z31:Same H H31:=z30.trans s31;refine⟨_,rq,_,rq,Af (by show 3<=1000;decide),λc9 hc9=>?_⟩;have s32:=Ad hc9 (.tup [.str "fewest",.ref tw,.int m]);have fc9:(upd H31 c9 (.tup [.str "fewest",.ref tw,.int m])) c9=some (.tup [.str "fewest",.ref tw,.int m]):=Ac;generalize upd H31 c9 (.tup [.str "fewest",.ref tw,.int m])=H32 at *;have z32:Same H H32:=z31.trans s32;refine⟨_,rq,Af (by show 2<=1000;decide),λp9 hp9=>?_⟩;have s33:=Ad hp9 (.tup [.ref c9,.ref ts]);have fp9:(upd H32 p9 (.tup [.ref c9,.ref ts])) p9=some (.tup [.ref c9,.ref ts]):=Ac;generalize upd H32 p9 (.tup [.ref c9,.ref ts])=H33 at *;have z33:Same H H33:=z32.trans s33;refine⟨_,rq,?_⟩;refine⟨Af (by show 1<=1000;decide),λt10 Yh=>?_⟩;have s34:=Ad Yh (.tup [.int 0]);have Vy:(upd H33 t10 (.tup [.int 0])) t10=some (.tup [.int 0]):=Ac;generalize upd H33 t10 (.tup [.int 0])=H34 at *;have z34:Same H H34:=z33.trans s34;refine⟨t10,.int 0,31,rq,rq,Vy,by decide,by decide,λr10 H35 Vz s35=>?_⟩;have z35:Same H H35:=z34.trans s35;refine⟨tw,r10,_,_,rq,rq,(z35 _ _ htw),Vz,Af (by simp;omega),λw10 H36 Y5 s36=>?_⟩;have z36:Same H H36:=z35.trans s36;refine⟨_,rq,Af (by show 4<=1000;decide),λc10 Yu=>?_⟩;have s37:=Ad Yu (.tup [.str "fewest",.ref w10,.int 99,.ref tg]);have Zj:(upd H36 c10 (.tup [.str "fewest",.ref w10,.int 99,.ref tg])) c10=some (.tup [.str "fewest",.ref w10,.int 99,.ref tg]):=Ac;generalize upd H36 c10 (.tup [.str "fewest",.ref w10,.int 99,.ref tg])=H37 at *;have z37:Same H H37:=z36.trans s37;refine⟨_,rq,Af (by show 2<=1000;decide),λp10 Yl=>?_⟩;have s38:=Ad Yl (.tup [.ref c10,.ref ts]);have Zb:(upd H37 p10 (.tup [.ref c10,.ref ts])) p10=some (.tup [.ref c10,.ref ts]):=Ac;generalize upd H37 p10 (.tup [.ref c10,.ref ts])=H38 at *;have z38:Same H H38:=z37.trans s38;refine⟨_,rq,?_⟩;refine⟨_,rq,Af (by show 4<=1000;decide),λc11 Yt=>?_⟩;have s39:=Ad Yt (.tup [.str "fewest",.ref tw,.bl true,.ref tg]);have Zi:(upd H38 c11 (.tup [.str "fewest",.ref tw,.bl true,.ref tg])) c11=some (.tup [.str "fewest",.ref tw,.bl true,.ref tg]):=Ac;generalize upd H38 c11 (.tup [.str "fewest",.ref tw,.bl true,.ref tg])=H39 at *;have z39:Same H H39:=z38.trans s39;refine⟨_,rq,Af (by show 2<=1000;decide),λp11 Yk=>?_⟩;have s40:=Ad Yk (.tup [.ref c11,.ref ts]);have Za:(upd H39 p11 (.tup [.ref c11,.ref ts])) p11=some (.tup [.ref c11,.ref ts]):=Ac;generalize upd H39 p11 (.tup [.ref c11,.ref ts])=H40 at *;have z40:Same H H40:=z39.trans s40;refine⟨_,rq,_,rq,_,rq,Af (by show 4<=1000;decide),λc12 Ys=>?_⟩;have s41:=Ad Ys (.tup [.str "fewest",.ref tw,.int m,.ref tg]);have Zh:(upd H40 c12 (.tup [.str "fewest",.ref tw,.int m,.ref tg])) c12=some (.tup [.str "fewest",.ref tw,.int m,.ref tg]):=Ac;generalize upd H40 c12 (.tup [.str "fewest",.ref tw,.int m,.ref tg])=H41 at *;have z41:Same H H41:=z40.trans s41;refine⟨_,rq,?_⟩;refine⟨Af (by show 1<=1000;decide),λt12 Yg=>?_⟩;have s42:=Ad Yg (.tup [.non]);have Vx:(upd H41 t12 (.tup [.non])) t12=some (.tup [.non]):=Ac;generalize upd H41 t12 (.tup [.non])=H42 at *;have z42:Same H H42:=z41.trans s42;refine⟨ts,t12,_,_,rq,rq,(z42 _ _ hts),Vx,Af (by simp;omega),λIv H43 Ww s43=>?_⟩;have z43:Same H H43:=z42.trans s43;refine⟨Af (by show 2<=1000;decide),λp12 Yj=>?_⟩;have s44:=Ad Yj (.tup [.ref c12,.ref Iv]);have Y9:(upd H43 p12 (.tup [.ref c12,.ref Iv])) p12=some (.tup [.ref c12,.ref Iv]):=Ac;generalize upd H43 p12 (.tup [.ref c12,.ref Iv])=H44 at *;have z44:Same H H44:=z43.trans s44;refine⟨Af (by show 1<=1000;decide),λt13 Ye=>?_⟩;have s45:=Ad Ye (.tup [.non]);have Vw:(upd H44 t13 (.tup [.non])) t13=some (.tup [.non]):=Ac;generalize upd H44 t13 (.tup [.non])=H45 at *;have z45:Same H H45:=z44.trans s45;refine⟨_,rq,?_⟩;refine⟨t13,tw,_,_,rq,rq,Vw,(z45 _ _ htw),Af (by simp;omega),λw13 H46 Y4 s46=>?_⟩;have z46:Same H H46:=z45.trans s46;refine⟨_,rq,_,rq,Af (by show 4<=1000;decide),λc13 Yr=>?_⟩;have s47:=Ad Yr (.tup [.str "fewest",.ref w13,.int m,.ref tg]);have Zg:(upd H46 c13 (.tup [.str "fewest",.ref w13,.int m,.ref tg])) c13=some (.tup [.str "fewest",.ref w13,.int m,.ref tg]):=Ac;generalize upd H46 c13 (.tup [.str "fewest",.ref w13,.int m,.ref tg])=H47 at *;have z47:Same H H47:=z46.trans s47;refine⟨_,rq,Af (by show 2<=1000;decide),λp13 Yi=>?_⟩;have s48:=Ad Yi (.tup [.ref c13,.ref ts]);have Y8:(upd H47 p13 (.tup [.ref c13,.ref ts])) p13=some (.tup [.ref c13,.ref ts]):=Ac;generalize upd H47 p13 (.tup [.ref c13,.ref ts])=H48 at *;have z48:Same H H48:=z47.trans s48;refine⟨Af (by show 13<=1000;decide),λll hll=>BR ?_⟩;have s49:=Ad hll (.lst [.ref p1,.ref p2,.ref p3,.ref p4,.ref p5,.ref p6,.ref p7,.ref p8,.ref p9,.ref p10,.ref p11,.ref p12,.ref p13]);have fll:(upd H48 ll (.lst [.ref p1,.ref p2,.ref p3,.ref p4,.ref p5,.ref p6,.ref p7,.ref p8,.ref p9,.ref p10,.ref p11,.ref p12,.ref p13])) ll=some (.lst [.ref p1,.ref p2,.ref p3,.ref p4,.ref p5,.ref p6,.ref p7,.ref p8,.ref p9,.ref p10,.ref p11,.ref p12,.ref p13]):=Ac;generalize upd H48 ll (.lst [.ref p1,.ref p2,.ref p3,.ref p4,.ref p5,.ref p6,.ref p7,.ref p8,.ref p9,.ref p10,.ref p11,.ref p12,.ref p13])=H49 at *;have z49:Same H H49:=z48.trans s49;have y49:Same H49 H49:=Same.refl _;have y48:Same H48 H49:=s49.trans y49;have y47:Same H47 H49:=s48.trans y48;have y46:Same H46 H49:=s47.trans y47;have y45:Same H45 H49:=s46.trans y46;have y44:Same H44 H49:=s45.trans y45;have y43:Same H43 H49:=s44.trans y44;have y42:Same H42 H49:=s43.trans y43;have y41:Same H41 H49:=s42.trans y42;have y40:Same H40 H49:=s41.trans y41;have y39:Same H39 H49:=s40.trans y40;have y38:Same H38 H49:=s39.trans y39;have y37:Same H37 H49:=s38.trans y38;have y36:Same H36 H49:=s37.trans y37;have y35:Same H35 H49:=s36.trans y36;have y34:Same H34 H49:=s35.trans y35;have y33:Same H33 H49:=s34.trans y34;have y32:Same H32 H49:=s33.trans y33;have y31:Same H31 H49:=s32.trans y32;have y30:Same H30 H49:=s31.trans y31;have y29:Same H29 H49:=s30.trans y30;have y28:Same H28 H49:=s29.trans y29;have y27:Same H27 H49:=s28.trans y28;have y26:Same H26 H49:=s27.trans y27;have y25:Same H25 H49:=s26.trans y26;have y24:Same H24 H49:=s25.trans y25;have y23:Same H23 H49:=s24.trans y24;have y22:Same H22 H49:=s23.trans y23;have y21:Same H21 H49:=s22.trans y22;have y20:Same H20 H49:=s21.trans y21;have y19:Same H19 H49:=s20.trans y20;have y18:Same H18 H49:=s19.trans y19;have y17:Same H17 H49:=s18.trans y18;have y16:Same H16 H49:=s17.trans y17;have y15:Same H15 H49:=s16.trans y16;have y14:Same H14 H49:=s15.trans y15;have y13:Same H13 H49:=s14.trans y14;have y12:Same H12 H49:=s13.trans y13;have y11:Same H11 H49:=s12.trans y12;have y10:Same H10 H49:=s11.trans y11;have y9:Same H9 H49:=s10.trans y10;have y8:Same H8 H49:=s9.trans y9;have y7:Same H7 H49:=s8.trans y8;have y6:Same H6 H49:=s7.trans y7;have y5:Same H5 H49:=s6.trans y6;have y4:Same H4 H49:=s5.trans y5;have y3:Same H3 H49:=s4.trans y4;have y2:Same H2 H49:=s3.trans y3;have y1:Same H1 H49:=s2.trans y2;have hbN:=hb.same z49;refine⟨_,rq,_,rq,b,k,13,rq,hbN,by omega,by decide,by decide,λr HE r0 r1 hbE sbE=>?_⟩;have tE:Ar H49 HE:=Am.Ef sbE hbN;have tH:Ar H HE:=λc xs e=>tE _ _ (z49 _ _ e);have nb:∀{x:Addr} {HX:Hp},Same H HX->HX x=none->x≠b:=λs e z=>by
  obtain⟨o,e1⟩:=hb.ex;have:=s _ _ e1;rw[<-z,e] at this;cases this
 have el1:=sbE _ _ (y1 _ _ fl1) (nb z0 hl1);have ec1:=tE _ _ (y2 _ _ fc1);have ep1:=tE _ _ (y3 _ _ fp1);have el2:=sbE _ _ (y4 _ _ fl2) (nb z3 hl2);have ec2:=tE _ _ (y5 _ _ fc2);have ep2:=tE _ _ (y6 _ _ fp2);have ec3:=tE _ _ (y7 _ _ fc3);have el3:=sbE _ _ (y8 _ _ fl3) (nb z7 hl3);have ep3:=tE _ _ (y9 _ _ fp3);have ee4:=tE _ _ (y10 _ _ fe4);have ec4:=tE _ _ (y11 _ _ fc4);have Zy:=tE _ _ (y12 _ _ Zf);have ep4:=tE _ _ (y13 _ _ fp4);have et5:=tE _ _ (y14 _ _ ft5);have ew5:=tE _ _ (y15 _ _ fw5);have ec5:=tE _ _ (y16 _ _ fc5);have ep5:=tE _ _ (y17 _ _ fp5);have Zx:=tE _ _ (y18 _ _ Ze);have Zw:=tE _ _ (y19 _ _ Zd);have ec6:=tE _ _ (y20 _ _ fc6);have Zv:=tE _ _ (y21 _ _ Zc);have ep6:=tE _ _ (y22 _ _ fp6);have et7:=tE _ _ (y23 _ _ ft7);have eg7:=tE _ _ (y24 _ _ fg7);have ec7:=tE _ _ (y25 _ _ fc7);have Zn:=tE _ _ (y26 _ _ Y6);have aC:=tE _ _ (y27 _ _ Vv);have Zo:=tE _ _ (y28 _ _ Y7);have ep7:=tE _ _ (y29 _ _ fp7);have ec8:=tE _ _ (y30 _ _ fc8);have ep8:=tE _ _ (y31 _ _ fp8);have ec9:=tE _ _ (y32 _ _ fc9);have ep9:=tE _ _ (y33 _ _ fp9);have aG:=tE _ _ (y34 _ _ Vy);have aH:=tE _ _ (y35 _ _ Vz);have Zm:=tE _ _ (y36 _ _ Y5);have ZF:=tE _ _ (y37 _ _ Zj);have Zu:=tE _ _ (y38 _ _ Zb);have ZD:=tE _ _ (y39 _ _ Zi);have Zt:=tE _ _ (y40 _ _ Za);have ZC:=tE _ _ (y41 _ _ Zh);have aF:=tE _ _ (y42 _ _ Vx);have Wz:=tE _ _ (y43 _ _ Ww);have Zr:=tE _ _ (y44 _ _ Y9);have aD:=tE _ _ (y45 _ _ Vw);have Zk:=tE _ _ (y46 _ _ Y4);have Zz:=tE _ _ (y47 _ _ Zg);have Zq:=tE _ _ (y48 _ _ Y8);have ell:=sbE _ _ fll (nb z48 hll);have ppE:=Sps.tups tH pps;have hWE:=KY (tH _ _ htw);have hGE:Fp HE (.ref tg) (some gs):=⟨tg,rq,tH _ _ htg⟩;have hPE:Ey HE (.ref ts) (some (sps.map some)):=⟨ts,svs,rq,tH _ _ hts,ppE⟩;have fw:∀x,some (ws.map some)=some x->x.length<=100:=λx e=>by cases e;rw[Qbc];omega
 have fg:∀x,some gs=some x->x.length<=100:=λx e=>by cases e;omega
 have fp:∀x,some (sps.map some)=some x->x.length<=100:=λx e=>by cases e;rw[Qbc];omega
 have noW:∀x:List (Option Int),none=some x->x.length<=100:=λx e=>by cases e
 have noG:∀x:List Int,none=some x->x.length<=100:=λx e=>by cases e
 have noP:∀x:List (Option (Int×Int)),none=some x->x.length<=100:=λx e=>by cases e
 have emG:∀{e:Addr},HE e=some (.tup [])->Fp HE (.ref e) (some []):=λh=>⟨_,rq,h⟩;have emP:∀{e:Addr},HE e=some (.tup [])->Ey HE (.ref e) (some []):=λh=>⟨_,[],rq,h,.nil⟩;have lsG:∀{e:Addr} {xs:YG},HE e=some (.lst xs)->Fp HE (.ref e) none:=λh=>⟨.inl ⟨_,h⟩,Ea h⟩;have lsP:∀{e:Addr} {xs:YG},HE e=some (.lst xs)->Ey HE (.ref e) none:=λh=>⟨.inl ⟨_,h⟩,Ea h⟩;have lsW:∀{e:Addr} {xs:YG},HE e=some (.lst xs)->Gi HE (.ref e) none:=λh=>⟨.inl ⟨_,h⟩,Ea h⟩;have O1:Odd HE c1 (.ref ts):=.inr ⟨_,_,_,none,some m,some gs,_,ec1,lsW el1,rq,hGE,hPE,noW,fg,fp,Jq rfl⟩;have O2:Odd HE c2 (.ref ts):=.inr ⟨_,_,_,_,some m,none,_,ec2,hWE,rq,lsG el2,hPE,fw,noG,fp,Wy λ_=>rfl⟩;have O3:Odd HE c3 (.ref l3):=.inr ⟨_,_,_,_,some m,some gs,none,ec3,hWE,rq,hGE,lsP el3,fw,fg,noP,Pu λ_ _ _=>rfl⟩;have O4:Odd HE c4 (.ref e4b):=.inr ⟨_,_,_,_,some 100,some [],some [],ec4,hWE,rq,emG ee4,emP Zy,fw,(λx e=>by cases e;exact QbF _),(λx e=>by cases e;exact QbF _),Tj (by decide)⟩;have O5:Odd HE c5 (.ref ts):=by
  have h5:HE w5=some (.tup ((ws++[10]).map V.int)):=by rw[ew5,Qbe];rfl
  refine .inr ⟨_,_,_,some ((ws++[10]).map some),some 99,some gs,_,ec5,KY h5,rq,hGE,hPE,(λx e=>by cases e;rw[Qbc,Qax];show ws.length+1<=100;omega),fg,fp,Jq ?_⟩;show (Dz _ 1 30&&((ws++[10]).map some).all λo=>wiB (oV o) 0 9)=false;rw[Qam]
  right
  rw[Qbe,List.all_append,Qam]
  right
  decide
 have O6:Odd HE c6 (.ref e6c):=.inr ⟨_,_,_,some [],some m,some [],some [],ec6,⟨e6a,rq,Zx⟩,rq,emG Zw,emP Zv,(λx e=>by cases e;exact QbF _),(λx e=>by cases e;exact QbF _),(λx e=>by cases e;exact QbF _),Jq rfl⟩;have O7:Odd HE c7 (.ref qq7):=by
  have h7:HE g7=some (.tup ((gs++[(ws.length:Int)]).map V.int)):=by rw[eg7,Qbe];rfl
  have hp:Ey HE (.ref qq7) (some ((sps++[(0,0)]).map some)):=⟨qq7,_,rq,Zo,by rw[Qbe];exact Jb ppE (.cons ⟨t7b,rq,Zn⟩ .nil)⟩;refine .inr ⟨_,_,_,some (ws.map some),some m,some (gs++[(ws.length:Int)]),_,ec7,hWE,rq,⟨g7,rq,h7⟩,hp,fw,(λx e=>by cases e;rw[Qax];show gs.length+1<=100;omega),(λx e=>by cases e;rw[Qbc,Qax];show sps.length+1<=100;omega),VB ?_⟩;rw[Rf];show (Dz _ _ _&&(((gs++[(ws.length:Int)]).all λg=>wiB (.int g) 1 ((ws.length:Int) - 1))&&_))=false;rw[Qam]
  right
  rw[Qam]
  left
  rw[List.all_append,Qam]
  right
  show ((decide (1<=(ws.length:Int))&&decide ((ws.length:Int)<=(ws.length:Int) - 1))&&true)=false;rw[Qbd (show ¬((ws.length:Int)<=(ws.length:Int) - 1) by omega),Qbq];rfl
 have O8:Odd HE c8 .non:=.inr ⟨_,_,_,_,some m,some gs,none,ec8,hWE,rq,hGE,⟨True.intro,rq⟩,fw,fg,noP,Pu λ_ _ _=>rfl⟩;have O9:Odd HE c9 (.ref ts):=.inl ⟨_,_,ec9⟩;have O10:Odd HE c10 (.ref ts):=by
  have h10:HE w10=some (.tup ((ws++List.replicate 31 0).map V.int)):=by rw[Zm,Qbe,List.map_replicate];rfl
  refine .inr ⟨_,_,_,some ((ws++List.replicate 31 0).map some),some 99,some gs,_,ZF,KY h10,rq,hGE,hPE,(λx e=>by cases e;rw[Qbc,Qax,List.length_replicate];omega),fg,fp,Jq ?_⟩;show ((decide ((1:Int)<=(((ws++List.replicate 31 0).map some).map oV).length)&&decide ((((((ws++List.replicate 31 (0:Int)).map some).map oV).length:Nat):Int)<=30))&&_)=false;rw[Qbc,Qbc,Qax,List.length_replicate,Qam]
  left
  rw[Qam]
  right
  exact Qbd (by omega)
 have O11:Odd HE c11 (.ref ts):=.inr ⟨_,_,_,_,none,some gs,_,ZD,hWE,⟨true,rq⟩,hGE,hPE,fw,fg,fp,Tj rfl⟩;have O12:Odd HE c12 (.ref Iv):=by
  have hp:Ey HE (.ref Iv) (some (sps.map some++[none])):=⟨Iv,_,rq,Wz,Jb ppE (.cons rfl .nil)⟩;refine .inr ⟨_,_,_,_,some m,some gs,_,ZC,hWE,rq,hGE,hp,fw,fg,(λx e=>by cases e;rw[Qax,Qbc];show sps.length+1<=100;omega),Pu λws m gs=>?_⟩;show (decide _&&((sps.map some++[none]).all (hvB ws m)&&_))=false;rw[Qam]
  right
  rw[Qam]
  left
  rw[List.all_append,Qam]
  right
  rfl
 have O13:Odd HE c13 (.ref ts):=by
  refine .inr ⟨_,_,_,some (none::ws.map some),some m,some gs,_,Zz,⟨w13,rq,?_⟩,rq,hGE,hPE,(λx e=>by cases e;rw[QaX,Qbc];omega),fg,fp,Jq ?_⟩
  ·rw[Zk,Qbv,List.map_map];rfl
  ·show (Dz _ 1 30&&(none::ws.map some).all λo=>wiB (oV o) 0 9)=false;rw[Qam]
   right
   rfl
 obtain⟨v,hv,t,cc,pav,rfl,ht,ho⟩:=Z2 r0 r1 (λv=>∃t cc pav,v=.ref t/\HE t=some (.tup [.ref cc,pav])/\Odd HE cc pav) (a0:=.ref p1) (a1:=.ref p2) (a2:=.ref p3) (a3:=.ref p4) (a4:=.ref p5) (a5:=.ref p6) (a6:=.ref p7) (a7:=.ref p8) (a8:=.ref p9) (a9:=.ref p10) (a10:=.ref p11) (a11:=.ref p12) (a12:=.ref p13)
  ⟨_,_,_,rq,ep1,O1⟩ ⟨_,_,_,rq,ep2,O2⟩ ⟨_,_,_,rq,ep3,O3⟩ ⟨_,_,_,rq,ep4,O4⟩ ⟨_,_,_,rq,ep5,O5⟩ ⟨_,_,_,rq,ep6,O6⟩ ⟨_,_,_,rq,ep7,O7⟩ ⟨_,_,_,rq,ep8,O8⟩ ⟨_,_,_,rq,ep9,O9⟩ ⟨_,_,_,rq,Zu,O10⟩ ⟨_,_,_,rq,Zt,O11⟩ ⟨_,_,_,rq,Zr,O12⟩ ⟨_,_,_,rq,Zq,O13⟩
 exact⟨ll,_,_,_,rq,rq,SqL.of ell,hv,q t cc pav HE ht ho hbE ((Am.of z49).trans sbE)⟩
end
section
variable {P:Program} {w:World} {K:YD} {mg:YB} {base:Heap}
theorem T7 (c:Code K mg "_law_bent" Eo FZ) (T:Nm mg) (Bp:Good P w K mg base "_law_take" 1 DW Hx):Good P w K mg base "_law_bent" 2 FZ Lb:=by
 refine c.good Ed (λvs H Q E h=>?_) (λf cdv A outer s H vs Q E hr h=>?_)
 ·obtain⟨b,k,tw,tg,ts,ws,gvs,svs,rfl,_⟩:=h;rfl
 obtain⟨b,k,tw,tg,ts,ws,gvs,svs,rfl,hb,hk,htw,w1,w30,htg,hts,hIV,hSV,g30,gsl,q⟩:=h;refine⟨_,(Ag (Bd (i:=4) Ed.nd rfl (Or.inl rfl) (Ce Bp hr (Aa (pv 0) (Aa Ae Ab))))
 (Ag (Bd (i:=5) Ed.nd rfl (Or.inl rfl) (Ai Bk Ae (Ce Bp hr (Aa (pv 0) (Aa (Ak Aq rfl T.len BP (Aa (pv 1) Ab)) Ab)))))
 (Ag (BW (PW.pt (Fb (Bs Ij (pv 4) Ae (Bq _)) (FP (Bs Ij (Ak Aq rfl T.len BP (Aa (pv 2) Ab)) Ae (Bq _))))) (Al (Av (Aj (Aa (Cy DQ rfl T.tuple Gh (Aa (Ot rfl rfl T.sorted rfl T.set (Aa (Ai Bh (pv 2) (Aj (Aa (pv 5) Ab))) Ab)) Ab)) (Aa (Ai Bh (pv 3) (Aj (Aa (Aj (Aa (Ak (Fj rfl) rfl T.max GZ (Aa Ae (Aa (Ai Ek (pv 5) Ae) Ab))) (Aa (Ai Ek (pv 5) Ae) Ab))) Ab))) Ab))))) Bl)
 (Ag (Bd (i:=6) Ed.nd rfl (Or.inl rfl) (Ce Bp hr (Aa (pv 0) (Aa (Ak Aq rfl T.len BP (Aa (pv 2) Ab)) Ab))))
 (Ag (BW (Bs Ij (pv 4) Ae (Bq _)) (Al (Av (Aj (Aa (Ai Bh (Ai Bh (Bg Br (pv 2) Cd (Bc (pv 6))) (Aj (Aa (pv 5) Ab))) (Bg Br (pv 2) (Bc (Ai Bk (pv 6) Ae)) Cd)) (Aa (pv 3) Ab))))) Bl)
 (Ag (BW (Bs Ij (pv 4) Ae (Bq _)) (Al (Av (Aj (Aa (Ai Bh (Bg Br (pv 2) Cd (Bc (pv 6))) (Bg Br (pv 2) (Bc (Ai Bk (pv 6) Ae)) Cd)) (Aa (Ai Bh (Bg Br (pv 3) Cd (Bc (pv 6))) (Bg Br (pv 3) (Bc (Ai Bk (pv 6) Ae)) Cd)) Ab))))) Bl)
 (Ag (FQ (Cg El (pv 3) (pv 6) (λ_ _=>rfl)) (Fe rfl (Bb (Ax (i:=7) Ed.nd rfl (Or.inl rfl)) (Bb (Ax (i:=8) Ed.nd rfl (Or.inl rfl)) Dm))))
 (Ag (BW (Bs Ij (pv 4) Ae (Bq _)) (Al (Av (Aj (Aa (pv 2) (Aa (Ai Bh (Ai Bh (Bg Br (pv 3) Cd (Bc (pv 6))) (Aj (Aa (Aj (Aa (Ak (Fj rfl) rfl T.max GZ (Aa Ae (Aa (Ai Ek (Ai Bk (pv 7) (Ce Bp hr (Aa (pv 0) (Aa Ae Ab)))) Ae) Ab))) (Aa (pv 8) Ab))) Ab))) (Bg Br (pv 3) (Bc (Ai Bk (pv 6) Ae)) Cd)) Ab))))) Bl)
 (Al (Av (Aj (Aa (pv 2) (Aa (Ai Bh (Ai Bh (Bg Br (pv 3) Cd (Bc (pv 6))) (Aj (Aa (Aj (Aa (pv 7) (Aa (Ak (Fj rfl) rfl T.max GZ (Aa Ae (Aa (Ai Ek (Ai Bk (pv 8) (Ce Bp hr (Aa (pv 0) (Aa Ae Ab)))) Ae) Ab))) Ab))) Ab))) (Bg Br (pv 3) (Bc (Ai Bk (pv 6) Ae)) Cd)) Ab))))))))))))),?_⟩
 show let R0:TS:=_;let R1:TS:=_;let R2:TS:=Ao (Hu _ R1 _) R0;let R3:TS:=Ao _ R2;let R4:TS:=_;let R5:TS:=Ao (Hu _ R4 _) R3;let R6:TS:=_;let R7:TS:=Ao (Hu _ R6 _) R5;let R8:TS:=Ao _ R7;let R9:TS:=_;let R10:TS:=Ao (Hu _ R9 _) R8;let R11:TS:=Ao _ R10;Ao _ R11 _ _ _;intro R0 R1 R2 R3 R4 R5 R6 R7 R8 R9 R10 R11;obtain⟨gs,eg⟩:=hIV.list;have gl:gs.length=gvs.length:=by rw[eg,Qbc]
 refine⟨_,rq,b,k,5,rq,hb,by omega,by decide,by decide,λr H1 r0 r1 hb1 sb1=>BR ?_⟩;have RX:=Am.Ef sb1 hb _ _ htw;refine⟨_,rq,_,rq,tw,_,rq,.inr (SqT.of RX),?_⟩;rw[Qbc];refine⟨b,k+1,_,rq,hb1,by omega,by omega,by omega,λr2 H2 r20 r21 hb2 sb2=>⟨_,_,rq,rq,BR ?_⟩⟩;have t02:Ar H H2:=λc xs e=>Am.Ef sb2 hb1 _ _ (Am.Ef sb1 hb _ _ e);have Ph:=t02 _ _ htg;have Vp:=t02 _ _ hts;have Vt:=hSV.tups t02;have Rm:=sb1.trans sb2;obtain⟨pl,hpl⟩ : ∃pl:Int,1+r2=pl:=⟨_,rfl⟩;rw[show (λi j:Int=>V.int (i+j)) 1 r2=V.int pl from congrArg V.int hpl]
 refine⟨_,rq,rq,_,rq,?_⟩;by_cases c0:r=0
 ·subst c0;refine Ba (Ba ?_);refine⟨_,rq,_,rq,Af (by show 1<=1000;decide),λt3 ht3=>?_⟩;have s3:=Ad ht3 (.tup [.int pl]);have h3:(upd H2 t3 (.tup [.int pl])) t3=some (.tup [.int pl]):=Ac;generalize upd H2 t3 (.tup [.int pl])=H3 at *;refine⟨tg,t3,_,_,rq,rq,s3 _ _ Ph,h3,Af (by rw[eg,Qbc];show gs.length+1<=1000;omega),λt4 H4 h4 s4=>?_⟩;have s24:=s3.trans s4;have e4:gvs++[.int pl]=(gs++[pl]).map V.int:=by rw[eg,Qbe];rfl
  rw[e4] at h4;refine⟨t4,gs++[pl],rq,.inr (SqT.of h4),by rw[Qax];show gs.length+1 < 64;omega,λms l hms hmem hl=>?_⟩;have s5:=Ad hl (.lst (ms.map V.int));have h5:(upd H4 l (.lst (ms.map V.int))) l=some (.lst (ms.map V.int)):=Ac;have ml:ms.length<=31:=by
   have:=Hf (l:=ms) (m:=gs++[pl]) (hms.imp λh=>by omega) λx hx=>(hmem x).mp hx;rw[Qax] at this;have:ms.length<=gs.length+1:=this;omega
  have s25:=s24.trans s5;generalize upd H4 l (.lst (ms.map V.int))=H5 at *;refine⟨l,_,rq,.inl ⟨SqL.of h5,λt6 ht6=>?_⟩⟩;have s6:=Ad ht6 (.tup (ms.map V.int));have h6:(upd H5 t6 (.tup (ms.map V.int))) t6=some (.tup (ms.map V.int)):=Ac;have s26:=s25.trans s6;generalize upd H5 t6 (.tup (ms.map V.int))=H6 at *;refine⟨_,rq,_,rq,_,_,rq,rq,_,_,rq,_,rq,_,_,rq,rq,Af (by show 2<=1000;decide),λt7 ht7=>?_⟩;dsimp only;generalize hmx:(if (pl - 2:Int) > 0 then (pl - 2:Int) else 0)=mx at *
  have s7:=Ad ht7 (.tup [.int mx,.int (pl - 1)]);have h7:(upd H6 t7 (.tup [.int mx,.int (pl - 1)])) t7=some (.tup [.int mx,.int (pl - 1)]):=Ac;have s27:=s26.trans s7;generalize upd H6 t7 (.tup [.int mx,.int (pl - 1)])=H7 at *;refine⟨Af (by show 1<=1000;decide),λt8 ht8=>?_⟩;have s8:=Ad ht8 (.tup [.ref t7]);have h8:(upd H7 t8 (.tup [.ref t7])) t8=some (.tup [.ref t7]):=Ac;have s28:=s27.trans s8;have h78:=s8 _ _ h7;have h68:=s8 _ _ (s7 _ _ h6);generalize upd H7 t8 (.tup [.ref t7])=H8 at *;refine⟨ts,t8,_,_,rq,rq,s28 _ _ Vp,h8,Af (by show svs.length+1<=1000;omega),λt9 H9 h9 s9=>⟨Af (by show 2<=1000;decide),λta hta=>?_⟩⟩;have sa:=Ad hta (.tup [.ref t6,.ref t9]);have s2a:=(s28.trans s9).trans sa;refine q ta t6 t9 (ms.map V.int) (svs++[.ref t7]) _ ⟨Ac,sa _ _ (s9 _ _ h68),sa _ _ h9,CJ.map ms,?_,by rw[Qbc];omega,by rw[Qax];show svs.length+1<=70;omega⟩ ((hb2.same s2a).mono (by omega)) (Rm.trans (Am.of s2a));exact (Vt.tups (Ar.of s2a)).app (SpV.one (sa _ _ (s9 _ _ h78)))
 rw[Qbd (λz=>c0 (V.int.inj z))];refine Bj ⟨_,rq,tg,_,rq,.inr (SqT.of Ph),rq,_,rq,?_⟩;by_cases cg:gvs.length=0
 ·rw[Qbo (by rw[cg];rfl)];refine Ba ?_;refine⟨_,rq,_,rq,Af (by show 1<=1000;decide),λt3 ht3=>?_⟩;have s3:=Ad ht3 (.tup [.int pl]);have h3:(upd H2 t3 (.tup [.int pl])) t3=some (.tup [.int pl]):=Ac;generalize upd H2 t3 (.tup [.int pl])=H3 at *;refine⟨tg,t3,_,_,rq,rq,s3 _ _ Ph,h3,Af (by rw[eg,Qbc];show gs.length+1<=1000;omega),λt4 H4 h4 s4=>?_⟩;have s24:=s3.trans s4;have e4:gvs++[.int pl]=(gs++[pl]).map V.int:=by rw[eg,Qbe];rfl
  rw[e4] at h4;refine⟨t4,gs++[pl],rq,.inr (SqT.of h4),by rw[Qax];show gs.length+1 < 64;omega,λms l hms hmem hl=>?_⟩;have s5:=Ad hl (.lst (ms.map V.int));have h5:(upd H4 l (.lst (ms.map V.int))) l=some (.lst (ms.map V.int)):=Ac;have ml:ms.length<=31:=by
   have:=Hf (l:=ms) (m:=gs++[pl]) (hms.imp λh=>by omega) λx hx=>(hmem x).mp hx;rw[Qax] at this;have:ms.length<=gs.length+1:=this;omega
  have s25:=s24.trans s5;generalize upd H4 l (.lst (ms.map V.int))=H5 at *;refine⟨l,_,rq,.inl ⟨SqL.of h5,λt6 ht6=>?_⟩⟩;have s6:=Ad ht6 (.tup (ms.map V.int));have h6:(upd H5 t6 (.tup (ms.map V.int))) t6=some (.tup (ms.map V.int)):=Ac;have s26:=s25.trans s6;generalize upd H5 t6 (.tup (ms.map V.int))=H6 at *;refine⟨_,rq,_,rq,_,_,rq,rq,_,_,rq,_,rq,_,_,rq,rq,Af (by show 2<=1000;decide),λt7 ht7=>?_⟩;dsimp only;generalize hmx:(if (pl - 2:Int) > 0 then (pl - 2:Int) else 0)=mx at *
  have s7:=Ad ht7 (.tup [.int mx,.int (pl - 1)]);have h7:(upd H6 t7 (.tup [.int mx,.int (pl - 1)])) t7=some (.tup [.int mx,.int (pl - 1)]):=Ac;have s27:=s26.trans s7;generalize upd H6 t7 (.tup [.int mx,.int (pl - 1)])=H7 at *;refine⟨Af (by show 1<=1000;decide),λt8 ht8=>?_⟩;have s8:=Ad ht8 (.tup [.ref t7]);have h8:(upd H7 t8 (.tup [.ref t7])) t8=some (.tup [.ref t7]):=Ac;have s28:=s27.trans s8;have h78:=s8 _ _ h7;have h68:=s8 _ _ (s7 _ _ h6);generalize upd H7 t8 (.tup [.ref t7])=H8 at *;refine⟨ts,t8,_,_,rq,rq,s28 _ _ Vp,h8,Af (by show svs.length+1<=1000;omega),λt9 H9 h9 s9=>⟨Af (by show 2<=1000;decide),λta hta=>?_⟩⟩;have sa:=Ad hta (.tup [.ref t6,.ref t9]);have s2a:=(s28.trans s9).trans sa;refine q ta t6 t9 (ms.map V.int) (svs++[.ref t7]) _ ⟨Ac,sa _ _ (s9 _ _ h68),sa _ _ h9,CJ.map ms,?_,by rw[Qbc];omega,by rw[Qax];show svs.length+1<=70;omega⟩ ((hb2.same s2a).mono (by omega)) (Rm.trans (Am.of s2a));exact (Vt.tups (Ar.of s2a)).app (SpV.one (sa _ _ (s9 _ _ h78)))
 rw[Qbd (λz=>cg (by have:=V.int.inj z;omega))];refine Bj ?_;refine⟨_,rq,_,rq,tg,_,rq,.inr (SqT.of Ph),b,k+1+1,_,rq,hb2,by omega,by omega,by omega,λr3 H3 r30 r31 hb3 sb3=>BR ?_⟩;have t03:Ar H H3:=λc xs e=>Am.Ef sb3 hb2 _ _ (t02 _ _ e);have JV:=t03 _ _ htg;have HS:=t03 _ _ hts;have HW:=hSV.tups t03;have Oi:=Rm.trans sb3;have cl:∀(xs:YG) lo hi,(Ds xs lo hi).length<=xs.length:=Gw;refine⟨_,rq,rq,_,rq,?_⟩;by_cases c1:r=1
 ·subst c1;refine Ba ?_;refine⟨_,rq,_,rq,_,rq,tg,_,rq,JV,λu4 H4 h4 s4=>?_⟩;refine⟨_,rq,Af (by show 1<=1000;decide),λt5 ht5=>?_⟩;have s5:=Ad ht5 (.tup [.int pl]);have h5:(upd H4 t5 (.tup [.int pl])) t5=some (.tup [.int pl]):=Ac;have h45:=s5 _ _ h4;have s35:=s4.trans s5;generalize upd H4 t5 (.tup [.int pl])=H5 at *;have l1:=cl gvs none (some r3);have l2:=cl gvs (some (r3+1)) none;refine⟨u4,t5,_,_,rq,rq,h45,h5,Af (by show _+1<=1000;omega),λt6 H6 h6 s6=>?_⟩;have s36:=s35.trans s6;refine⟨_,rq,_,rq,_,_,rq,rq,_,rq,tg,_,rq,s36 _ _ JV,λu7 H7 h7 s7=>?_⟩;have s37:=s36.trans s7;refine⟨t6,u7,_,_,rq,rq,s7 _ _ h6,h7,Af (by rw[Qax];show _+1+_<=1000;omega),λt8 H8 h8 s8=>⟨_,rq,Af (by show 2<=1000;decide),λta hta=>?_⟩⟩;have sa:=Ad hta (.tup [.ref t8,.ref ts]);have s3a:=(s37.trans s8).trans sa;refine q ta t8 ts _ svs _ ⟨Ac,sa _ _ h8,s3a _ _ HS,((hIV.cut _ _).app (CJ.one _)).app (hIV.cut _ _),HW.tups (Ar.of s3a),?_,by omega⟩ ((hb3.same s3a).mono (by omega)) (Oi.trans (Am.of s3a));rw[Qax,Qax];show _+1+_<=70;omega
 rw[Qbd (λz=>c1 (V.int.inj z))];refine Bj ⟨_,rq,rq,_,rq,?_⟩;by_cases c2:r=2
 ·subst c2;refine Ba ?_;have l1:=cl gvs none (some r3);have l2:=cl gvs (some (r3+1)) none;have l3:=cl svs none (some r3);have l4:=cl svs (some (r3+1)) none;refine⟨_,rq,_,rq,_,rq,tg,_,rq,JV,λu4 H4 h4 s4=>?_⟩;refine⟨_,rq,_,rq,_,_,rq,rq,_,rq,tg,_,rq,s4 _ _ JV,λu5 H5 h5 s5=>?_⟩;have s35:=s4.trans s5;refine⟨u4,u5,_,_,rq,rq,s5 _ _ h4,h5,Af (by show _+_<=1000;omega),λt6 H6 h6 s6=>?_⟩;have s36:=s35.trans s6;refine⟨_,rq,_,rq,_,rq,ts,_,rq,s36 _ _ HS,λu7 H7 h7 s7=>?_⟩;have s37:=s36.trans s7;refine⟨_,rq,_,rq,_,_,rq,rq,_,rq,ts,_,rq,s37 _ _ HS,λu8 H8 h8 s8=>?_⟩;have s38:=s37.trans s8;refine⟨u7,u8,_,_,rq,rq,s8 _ _ h7,h8,Af (by show _+_<=1000;omega),λt9 H9 h9 s9=>⟨Af (by show 2<=1000;decide),λta hta=>?_⟩⟩;have s39:=s38.trans s9;have sa:=Ad hta (.tup [.ref t6,.ref t9]);have s3a:=s39.trans sa;have h69:=(s7.trans s8).trans (s9.trans sa);refine q ta t6 t9 _ _ _ ⟨Ac,h69 _ _ h6,sa _ _ h9,(hIV.cut _ _).app (hIV.cut _ _),((HW.tups (Ar.of s3a)).cut _ _).app ((HW.tups (Ar.of s3a)).cut _ _),?_,?_⟩ ((hb3.same s3a).mono (by omega)) (Oi.trans (Am.of s3a))
  ·rw[Qax];omega
  ·rw[Qax];omega
 rw[Qbd (λz=>c2 (V.int.inj z))];refine Bj ?_;obtain⟨r3n,rfl⟩:=Int.eq_ofNat_of_zero_le r30;have lt3:r3n < svs.length:=by omega
 have hat:atI svs (r3n:Int)=some svs[r3n]:=Kd (Qah lt3);obtain⟨p,tp,etp,htp⟩:=HW svs[r3n] (List.getElem_mem lt3);rw[etp] at hat;refine⟨_,rq,_,rq,ts,_,_,_,rq,rq,SqT.of HS,hat,tp,_,rq,SqT.of htp,rq,_,_,rq,_,_,rq,rq,?_⟩;refine⟨_,rq,rq,_,rq,?_⟩;have l3:=cl svs none (some (r3n:Int));have l4:=cl svs (some ((r3n:Int)+1)) none;by_cases c3:r=3
 ·subst c3;refine Ba ?_;refine⟨_,rq,_,rq,_,rq,_,rq,ts,_,rq,HS,λu4 H4 h4 s4=>?_⟩;refine⟨_,rq,_,rq,b,k+1+1+1,3,rq,hb3.same s4,by omega,by decide,by decide,λr5 H5 r50 r51 hb5 sb5=>⟨_,_,rq,rq,_,_,rq,rq,_,_,rq,_,rq,Af (by show 2<=1000;decide),λt6 ht6=>?_⟩⟩;generalize hmx:(if (p.1+r5 - 1:Int) > 0 then (p.1+r5 - 1:Int) else 0)=mx at *
  have t45:Ar H4 H5:=Am.Ef sb5 (hb3.same s4);have s6:=Ad ht6 (.tup [.int mx,.int p.2]);have h6:(upd H5 t6 (.tup [.int mx,.int p.2])) t6=some (.tup [.int mx,.int p.2]):=Ac;generalize upd H5 t6 (.tup [.int mx,.int p.2])=H6 at *;refine⟨Af (by show 1<=1000;decide),λt7 ht7=>?_⟩;have s7:=Ad ht7 (.tup [.ref t6]);have h7:(upd H6 t7 (.tup [.ref t6])) t7=some (.tup [.ref t6]):=Ac;have s57:=s6.trans s7;have h67:=s7 _ _ h6;generalize upd H6 t7 (.tup [.ref t6])=H7 at *;refine⟨u4,t7,_,_,rq,rq,s57 _ _ (t45 _ _ h4),h7,Af (by show _+1<=1000;omega),λt8 H8 h8 s8=>?_⟩;have t38:Ar H3 H8:=λc xs e=>s8 _ _ (s57 _ _ (t45 _ _ (s4 _ _ e)));refine⟨_,rq,_,rq,_,_,rq,rq,_,rq,ts,_,rq,t38 _ _ HS,λu9 H9 h9 s9=>?_⟩;refine⟨t8,u9,_,_,rq,rq,s9 _ _ h8,h9,Af (by rw[Qax];show _+1+_<=1000;omega),λta HA hA sA=>⟨Af (by show 2<=1000;decide),λtb htb=>?_⟩⟩;have sB:=Ad htb (.tup [.ref tg,.ref ta]);have s5B:=((s57.trans s8).trans (s9.trans sA)).trans sB;have t3B:Ar H3 (upd HA tb (.tup [.ref tg,.ref ta])):=λc xs e=>s5B _ _ (t45 _ _ (s4 _ _ e));have h6B:=((s8.trans s9).trans (sA.trans sB)) _ _ h67;refine q tb tg ta gvs _ _ ⟨Ac,t3B _ _ JV,sB _ _ hA,hIV,(((HW.tups t3B).cut _ _).app (SpV.one h6B)).app ((HW.tups t3B).cut _ _),by omega,?_⟩ ((hb5.same s5B).mono (by omega)) (Oi.trans ((Am.of s4).trans (sb5.trans (Am.of s5B))));rw[Qax,Qax];show _+1+_<=70;omega
 rw[Qbd (λz=>c3 (V.int.inj z))];refine Bj ?_;refine⟨_,rq,_,rq,_,rq,_,rq,ts,_,rq,HS,λu4 H4 h4 s4=>?_⟩;refine⟨_,rq,_,rq,_,rq,b,k+1+1+1,3,rq,hb3.same s4,by omega,by decide,by decide,λr5 H5 r50 r51 hb5 sb5=>⟨_,_,rq,rq,_,_,rq,rq,_,_,rq,Af (by show 2<=1000;decide),λt6 ht6=>?_⟩⟩;generalize hmx:(if (p.2+r5 - 1:Int) > 0 then (p.2+r5 - 1:Int) else 0)=mx at *
 have t45:Ar H4 H5:=Am.Ef sb5 (hb3.same s4);have s6:=Ad ht6 (.tup [.int p.1,.int mx]);have h6:(upd H5 t6 (.tup [.int p.1,.int mx])) t6=some (.tup [.int p.1,.int mx]):=Ac;generalize upd H5 t6 (.tup [.int p.1,.int mx])=H6 at *;refine⟨Af (by show 1<=1000;decide),λt7 ht7=>?_⟩;have s7:=Ad ht7 (.tup [.ref t6]);have h7:(upd H6 t7 (.tup [.ref t6])) t7=some (.tup [.ref t6]):=Ac;have s57:=s6.trans s7;have h67:=s7 _ _ h6;generalize upd H6 t7 (.tup [.ref t6])=H7 at *;refine⟨u4,t7,_,_,rq,rq,s57 _ _ (t45 _ _ h4),h7,Af (by show _+1<=1000;omega),λt8 H8 h8 s8=>?_⟩;have t38:Ar H3 H8:=λc xs e=>s8 _ _ (s57 _ _ (t45 _ _ (s4 _ _ e)));refine⟨_,rq,_,rq,_,_,rq,rq,_,rq,ts,_,rq,t38 _ _ HS,λu9 H9 h9 s9=>?_⟩;refine⟨t8,u9,_,_,rq,rq,s9 _ _ h8,h9,Af (by rw[Qax];show _+1+_<=1000;omega),λta HA hA sA=>⟨Af (by show 2<=1000;decide),λtb htb=>?_⟩⟩;have sB:=Ad htb (.tup [.ref tg,.ref ta]);have s5B:=((s57.trans s8).trans (s9.trans sA)).trans sB;have t3B:Ar H3 (upd HA tb (.tup [.ref tg,.ref ta])):=λc xs e=>s5B _ _ (t45 _ _ (s4 _ _ e));have h6B:=((s8.trans s9).trans (sA.trans sB)) _ _ h67;refine q tb tg ta gvs _ _ ⟨Ac,t3B _ _ JV,sB _ _ hA,hIV,(((HW.tups t3B).cut _ _).app (SpV.one h6B)).app ((HW.tups t3B).cut _ _),by omega,?_⟩ ((hb5.same s5B).mono (by omega)) (Oi.trans ((Am.of s4).trans (sb5.trans (Am.of s5B))));rw[Qax,Qax];show _+1+_<=70;omega
end
abbrev EY:Stmt:=top 99
abbrev Tf:YF:=["_law_script"]
abbrev xf:YF:=["_law_script","_law_k","_law_bag_here","_law_top","_law_weights","_law_most","_law_gates","_law_spans","_law_pairs","_law_again","_law_some","_law_paper","_law_told","_law_claim"]
theorem Cp:Bm xf Tf (Ah EY):=by ac_rfl
theorem Z1 {r x y:Int} (hx:1<=x/\x<=99) (hy:1<=y/\y<=99):∃m:Int,atI [V.int x,.int y] (if decide (V.int r=V.int 0)=true then 1 else 0)=some (.int m)/\1<=m/\m<=99:=by
 by_cases h:V.int r=V.int 0
 ·rw[Qbo h];exact⟨y,rq,hy⟩
 ·rw[Qbd h];exact⟨x,rq,hx⟩
section
variable {P:Program} {w:World} {K:YD} {mg:YB} {base:Heap}
abbrev xg:YF:=["_law_at","_law_bag_here","_law_top"]
theorem Vb {f:Addr} {fd:FuncData} (F:Fun K "law" "law" EY f fd) (T:Nm mg) (JZ:Good P w K mg base "_law_bag" 1 GQ (Oe K)) (Bp:Good P w K mg base "_law_take" 1 DW Hx) (Np:Good P w K mg base "holds" 5 GR Jw) (Sq:Good P w K mg base "_law_laid" 1 FW La) (Ue:Good P w K mg base "_law_due" 1 GP Od) (Ss:Good P w K mg base "_law_bent" 2 FZ Lb) (JX:Good P w K mg base "_law_other_form" 2 CQ Oc):Du P w K mg base CX0 6 f fd Tf (Jd K):=by
 refine F.ok Cp (λvs H Q E h=>?_) (λcdv A outer s H vs Q E hr h=>?_)
 ·obtain⟨a,ns,rfl,_⟩:=h;rfl
 obtain⟨sa,ns,rfl,hS,h63,q⟩:=h;refine⟨_,(Ag (Gz Qbn rfl (HN rfl T.range (Aa (Ak (Fj rfl) rfl T.max GZ (Aa Ae (Aa (Ak (Ra rfl) rfl T.min V2 (Aa Ae (Aa (Ak Aq rfl T.len BP (Aa (pv 0) Ab)) Ab))) Ab))) Ab)) (Ax (i:=1) Cp.nd rfl (Or.inl rfl))
 (Ag (Bd (i:=2) Cp.nd rfl (Or.inr rfl) (Ce JZ hr (Aa (pv 0) (Aa (pv 1) Ab))))
 (Ag (Bd (i:=3) Cp.nd rfl (Or.inr rfl) (Ai Bk Ae (Ce Bp hr (Aa (pv 2) (Aa Ae Ab)))))
 (Ag (Bd (i:=4) Cp.nd rfl (Or.inl rfl) (Cy DQ rfl T.tuple Gh (Aa (Er (N':=xg) rfl (CG.of (src:=[none,some 2,some 3]) (Ah EY) xf rfl rfl rfl (by trivial) (by trivial) (by trivial) rfl (by trivial)) (HN rfl T.range (Aa (Ai Bk Ae (Ce Bp hr (Aa (pv 2) (Aa Ae Ab)))) Ab)) (λ_ _ _ _=>(Ax (i:=0) (show List.Nodup (xg:YF) by trivial) rfl (Or.inl rfl))) (λ_ _ _ _=>FT) (λ_ _ _ _=>(Ce Bp hr (Aa (pv 1) (Aa (pv 2) Ab))))) Ab)))
 (Ag (Bd (i:=5) Cp.nd rfl (Or.inl rfl) (Cg Dy (GF (Aa (Ai Bk (Ak (Fj rfl) rfl T.max GZ (Aa Ae (Aa (Ak (PK rfl) rfl T.max GZ (Aa (pv 4) Ab)) Ab))) (Ce Bp hr (Aa (pv 2) (Aa Ae Ab)))) (Aa (Ai Bk Ae (Ce Bp hr (Aa (pv 2) (Aa Ae Ab)))) Ab))) (Cy Ko rfl T.int Mw (Aa (Fy Ij (Ce Bp hr (Aa (pv 2) (Aa Ae Ab))) Ae (Bq _)) Ab)) (λ_ _=>rfl)))
 (Ag (FQ (Ce Sq hr (Aa (pv 4) (Aa (pv 5) Ab))) (Fe rfl (Bb (Ax (i:=6) Cp.nd rfl (Or.inl rfl)) (Bb (Ax (i:=7) Cp.nd rfl (Or.inl rfl)) Dm))))
 (Ag (Bd (i:=8) Cp.nd rfl (Or.inl rfl) (GF (Aa (Aj (Aa (pv 6) (Aa (pv 7) Ab))) Ab)))
 (Ag (Gz Qbn rfl (HN rfl T.range (Aa Ae Ab)) (Ax (i:=9) Cp.nd rfl (Or.inl rfl))
 (Al (JC (Ou PySem.F.plainAttrs_list PySem.F.slot_list_append PySem.F.type_list_append Gp (pv 8) (Aa (Qz Ss hr (Aa (pv 2) (Aa (pv 4) (Aa (pv 6) (Aa (pv 7) Ab))))) Ab)))))
 (Ag (Gz Qbn rfl (TY (pv 8)) (Fe rfl (Bb (Ax (i:=10) Cp.nd rfl (Or.inl rfl)) (Bb (Ax (i:=11) Cp.nd rfl (Or.inl rfl)) Dm)))
 (Ag (Bd (i:=12) Cp.nd rfl (Or.inl rfl) (Ce Np hr (Aa (Aj (Aa Cw (Aa (pv 4) (Aa (pv 5) (Aa (pv 10) Ab))))) (Aa (pv 11) Ab))))
 (Al (BW (PW.pt (Fb (Dq (Df (Ak Gf rfl T.isinstance Di (Aa (pv 12) (Aa (GJ (v:=.ty "bool") rfl T.bool Nz rfl) Ab))))) (FP (Bs KZ (pv 12) (Qz Ue hr (Aa (pv 4) (Aa (pv 5) (Aa (pv 10) (Aa (pv 11) Ab))))) (Bq _))))) (Al (Av Cr)) Bl))))
 (Ag (FQ (Qy JX hr (@Aa _ _ _ _ _ (pv 2) (@Aa _ _ _ _ _ (pv 4) (@Aa _ _ _ _ _ (pv 5) (@Aa _ _ _ _ _ (pv 6) (@Aa _ _ _ _ _ (pv 7) (@Ab _) Ft) Ft) Ft) Ft) Ft)) (Fe rfl (Bb (Ax (i:=13) Cp.nd rfl (Or.inl rfl)) (Bb (Ax (i:=11) Cp.nd rfl (Or.inl rfl)) Dm))))
 (Al (BW (Bs KZ (Ce Np hr (Aa (pv 13) (Aa (pv 11) Ab))) Cr (Bq _)) (Al (Av Cr)) Bl))))))))))))
 (Al (Av Cr))),?_⟩
 show let R0:TS:=_;let R1:TS:=Ao _ R0;let R2:TS:=_;let R3:TS:=Ao _ R2;let R4:TS:=Ao (Ir _ _ R3) R1;let R5:TS:=_;let R6:TS:=Ao (Ir _ _ R5) R4;let R7:TS:=Ao _ R6;let R8:TS:=Ao _ R7;let R9:TS:=Ao _ R8;let R10:TS:=Ao _ R9;let R11:TS:=Ao _ R10;let R12:TS:=Ao _ R11;Ao (Ir _ _ R12) _ _ _ _;intro R0 R1 R2 R3 R4 R5 R6 R7 R8 R9 R10 R11 R12;have hl:(ns.map V.int).length=ns.length:=Qbc _;refine⟨_,rq,sa,_,rq,.inl hS,_,_,rq,_,_,rq,_,rq,?_,?_,?_⟩
 ·rw[hl];split <;> split <;> omega
 ·rw[hl];split <;> split <;> omega
 let J0:YN:=λ(i:Nat) (σ : St) (HH:Hp)=>∃u1 u2 u3 u4 u5 u6 u7 u8 u9 u10 u11 u12 u13,σ=[jd sa,u1,u2,u3,u4,u5,u6,u7,u8,u9,u10,u11,u12,u13]/\Same H HH;refine HY J0 ⟨_,_,_,_,_,_,_,_,_,_,_,_,_,rq,Same.refl _⟩ (λi σ HH hi h=>?_) (fun σ HH h=>?_);rotate_left 1
 ·exact q _
 obtain⟨u1,u2,u3,u4,u5,u6,u7,u8,u9,u10,u11,u12,u13,rfl,sm⟩:=h;have hi8:i < 9:=by
  rw[hl] at hi;revert hi;split <;> split <;> omega
 refine BR ⟨_,rq,_,rq,sa,ns,_,rq,sm.seq hS,h63,by omega,by omega,λb o hbn hb=>BR ?_⟩;have sbn:=Ad hbn o;generalize upd HH b o=H0 at *;have fb:H b=none:=sm.free hbn;have s0:=sm.trans sbn;refine⟨_,rq,b,0,10,rq,hb,by decide,by decide,by decide,λr1 H1 r10 r11 hb1 sb1=>⟨_,_,rq,rq,?_⟩⟩;obtain⟨top,htop⟩ : ∃top:Int,1+r1=top:=⟨_,rfl⟩;rw[show (λi j:Int=>V.int (i+j)) 1 r1=V.int top from congrArg V.int htop]
 have s1:Same H H1:=s0.Cq sb1 fb;refine BR ?_;refine⟨_,rq,b,1,30,rq,hb1,by decide,by decide,by decide,λr2 H2 r20 r21 hb2 sb2=>⟨_,_,rq,rq,_,rq,by omega,by omega,λls hls=>?_⟩⟩;have s2:Same H H2:=s1.Cq sb2 fb;obtain⟨rn,rfl⟩:=Int.eq_ofNat_of_zero_le r20;rw[show ((1:Int)+(rn:Int)).toNat=rn+1 by omega];have nbs:b≠ls:=hb2.nb hls;have sl:=Ad hls (.lst []);have fls:H ls=none:=s2.free hls;let J1:YN:=λ(j:Nat) (σ : St) (HG:Hp)=>∃(u:Option V) (xs:List Int),σ=[u,jd b,some (.int top)]/\HG ls=some (.lst (xs.map V.int))/\xs.length=j/\(∀x∈xs,0<=x/\x<=9)/\Bv HG b (2+j)/\Same H HG;refine PB (n:=rn+1) J1 ⟨_,[],rq,Ac,rq,(λx hx=>by cases hx),hb2.same sl,s2.trans sl⟩ (λj σ HG hj h=>?_) (fun σ H3 h=>?_)
 ·obtain⟨u,xs,rfl,g1,g2,g3,g4,g5⟩:=h;refine BR (Ba ⟨_,rq,_,rq,b,_,top,rq,g4,by omega,by omega,by omega,λr H4 r0 r1' hb4 sb4=>?_⟩);have e4:=sb4 _ _ g1 nbs.symm;have s4:Same H H4:=g5.Cq sb4 fb;refine⟨_,e4,Bx (by rw[Qbc];omega),_,xs++[r],rq,by rw[Ac,Qbe];rfl,by rw[Qax,g2];rfl,λx hx=>?_,hb4.Oj Am.upd nbs,s4.Cq Am.upd fls⟩;rcases Qbh.mp hx with hx | hx
  ·exact g3 x hx
  ·rw[QaC.mp hx];omega
 obtain⟨u,ws,rfl,g1,g2,g3,hb3,s3⟩:=h;have w30:ws.length<=30:=by omega
 have w1:1<=ws.length:=by omega
 refine⟨ls,_,rq,.inl ⟨SqL.of g1,λtw ftw=>BR ?_⟩⟩;have s4:=Ad ftw (.tup (ws.map V.int));have htw:(upd H3 tw (.tup (ws.map V.int))) tw=some (.tup (ws.map V.int)):=Ac;have hb4:=hb3.same s4;have s04:=s3.trans s4;generalize upd H3 tw (.tup (ws.map V.int))=H4 at *;refine⟨_,rq,tw,ws,rq,SqT.of htw,by omega,λM hM hall=>⟨_,_,rq,_,rq,b,_,9,rq,hb4,by omega,by decide,by decide,λr5 H5 r50 r51 hb5 sb5=>⟨_,_,rq,rq,?_⟩⟩⟩;have t45:Ar H4 H5:=Am.Ef sb5 hb4;have s05:Same H H5:=s04.Cq sb5 fb;refine⟨_,rq,b,_,99,rq,hb5,by omega,by decide,by decide,λr6 H6 r60 r61 hb6 sb6=>⟨_,_,rq,rq,Af (by show 2<=1000;decide),λlm hlm=>?_⟩⟩;have t56:Ar H5 H6:=Am.Ef sb6 hb5;have s06:Same H H6:=s05.Cq sb6 fb;obtain⟨m1,hm1⟩ : ∃m1:Int,(if M > 1 then M else 1)+r5=m1:=⟨_,rfl⟩
 obtain⟨m2,hm2⟩ : ∃m2:Int,1+r6=m2:=⟨_,rfl⟩;have M9:=g3 M hM;have m1b:1<=m1/\m1<=99:=by
  rw[<-hm1];split <;> omega
 have m2b:1<=m2/\m2<=99:=by omega
 rw[show (λi j:Int=>V.int (i+j)) (if M > 1 then M else 1) r5=V.int m1 from congrArg V.int hm1,show (λi j:Int=>V.int (i+j)) 1 r6=V.int m2 from congrArg V.int hm2]
 have s7:=Ad hlm (.lst [.int m1,.int m2]);have h7:(upd H6 lm (.lst [.int m1,.int m2])) lm=some (.lst [.int m1,.int m2]):=Ac;have hb7:=hb6.same s7;have nbm:b≠lm:=hb6.nb hlm;have s07:=s06.trans s7;generalize upd H6 lm (.lst [.int m1,.int m2])=H7 at *;refine⟨_,rq,b,_,4,rq,hb7,by omega,by decide,by decide,λr8 H8 r80 r81 hb8 sb8=>⟨rq,.inr ⟨_,rq,?_⟩⟩⟩;obtain⟨m,hm,m1',m99⟩:=Z1 (r:=r8) m1b m2b;refine⟨lm,_,_,_,rq,rq,SqL.of (sb8 _ _ h7 nbm.symm),hm,BR ?_⟩;have t78:Ar H7 H8:=Am.Ef sb8 hb7;have s08:Same H H8:=s07.Cq sb8 fb;have Pg:H8 tw=some (.tup (ws.map V.int)):=t78 _ _ (s7 _ _ (t56 _ _ (t45 _ _ htw)));refine⟨_,rq,_,rq,tw,ws,m,rq,Pg,w30,λt9 tg ts gvs svs H9 G9 geq s9=>⟨t9,_,rq,SqT.of G9.ht,rq,_,_,rq,_,_,rq,rq,?_⟩⟩;have s09:=s08.trans s9;have hb9:=hb8.same s9;have X7:=s9 _ _ Pg;refine⟨_,rq,_,rq,Af (by show 2<=1000;decide),λtp htp=>?_⟩;have sA:=Ad htp (.tup [.ref tg,.ref ts]);have hA:(upd H9 tp (.tup [.ref tg,.ref ts])) tp=some (.tup [.ref tg,.ref ts]):=Ac;have GA:GS (upd H9 tp (.tup [.ref tg,.ref ts])) tp 70 tg ts gvs svs:=by
  have:=G9.tups (Ar.of sA);exact⟨hA,this.hg,this.hs,this.ig,this.is,QbC this.lg (by decide),QbC this.ls (by decide)⟩
 have s0A:=s09.trans sA;have hbA:=hb9.same sA;have X6:=sA _ _ X7;generalize upd H9 tp (.tup [.ref tg,.ref ts])=HA at *;refine⟨Af (by show 1<=1000;decide),λlp hlp=>BR ?_⟩;have sB:=Ad hlp (.lst [.ref tp]);have hB:(upd HA lp (.lst [.ref tp])) lp=some (.lst [.ref tp]):=Ac;have GB:=GA.tups (Ar.of sB);have s0B:=s0A.trans sB;have hbB:=hbA.same sB;have X5:=sB _ _ X6;have nbp:b≠lp:=hbA.nb hlp;have flp:H lp=none:=s0A.free hlp;generalize upd HA lp (.lst [.ref tp])=HB at *;refine⟨3,rq,by decide,by decide,?_⟩;let J2:YN:=λ(j:Nat) (σ : St) (HF:Hp)=>∃u9 u10 u11 u12 u13,∃tvs:YG,σ=[jd sa,some (.int (0+(i:Int))),jd b,some (.int top),jd tw,some (.int m),jd tg,jd ts,jd lp,u9,u10,u11,u12,u13]/\HF lp=some (.lst tvs)/\tvs.length=j+1/\(∀v∈tvs,∃t tg' ts' JW Hv,v=.ref t/\GS HF t 70 tg' ts' JW Hv)/\Bv HF b (40+4*j)/\HF tw=some (.tup (ws.map V.int))/\GS HF tp 70 tg ts gvs svs/\Same H HF;refine HY (n:=3) J2 ⟨_,_,_,_,_,[.ref tp],rq,hB,rq,(λv hv=>⟨tp,tg,ts,gvs,svs,QaC.mp hv,GB⟩),hbB.mono (by omega),X5,GB,s0B⟩ (λj σ HF hj h=>?_) (fun σ HF h=>?_)
 ·obtain⟨u9,u10,u11,u12,u13,tvs,rfl,k1,k2,k3,k4,k5,k6,k7⟩:=h;refine BR ⟨_,rq,.inl ⟨rq,_,SqL.of k1⟩,_,rq,_,rq,_,rq,_,rq,b,_,tw,tg,ts,ws,gvs,svs,rq,k4,by omega,k5,w1,w30,k6.hg,k6.hs,k6.ig,k6.is,G9.lg,geq,λt tg' ts' JW Hv HC GC hbC sbC=>?_⟩;have tC:Ar HF HC:=Am.Ef sbC k4;have e1:=sbC _ _ k1 nbp.symm;refine⟨lp,_,_,rq,rq,e1,Bx (by omega),?_⟩;have ntl:∀xs,HC lp≠some (.tup xs):=λxs z=>by rw[e1] at z;cases z
  have tD:Ar HC (upd HC lp (.lst (tvs++[.ref t]))):=Ar.upd ntl;refine⟨_,_,_,_,_,tvs++[.ref t],rq,Ac,by rw[Qax,k2];rfl,λv hv=>?_,(hbC.Oj Am.upd nbp).mono (by omega),tD _ _ (tC _ _ k5),(k6.tups tC).tups tD,(k7.Cq sbC fb).Cq Am.upd flp⟩;rcases Qbh.mp hv with hv | hv
  ·obtain⟨t',a1,a2,a3,a4,e,g⟩:=k3 v hv;exact⟨t',a1,a2,a3,a4,e,(g.tups tC).tups tD⟩
  ·exact⟨t,tg',ts',JW,Hv,QaC.mp hv,GC.tups tD⟩
 obtain⟨u9,u10,u11,u12,u13,tvs,rfl,k1,k2,k3,k4,k5,k6,k7⟩:=h;refine⟨_,rq,lp,rq,⟨_,SqL.of k1⟩,?_⟩;let J3:YN:=λ(j:Nat) (σ : St) (HG:Hp)=>∃u10 u11 u12,σ=[jd sa,some (.int (0+(i:Int))),jd b,some (.int top),jd tw,some (.int m),jd tg,jd ts,jd lp,u9,u10,u11,u12,u13]/\Same HF HG;refine Sv (xs:=tvs) J3 ⟨_,_,_,rq,Same.refl _⟩ (λj σ HG _ h=>?_) (λj x σ HG hx h=>?_) (fun σ HG h=>?_)
 ·obtain⟨u10,u11,u12,rfl,n1⟩:=h;exact SqL.of (n1 _ _ k1)
 ·obtain⟨u10,u11,u12,rfl,n1⟩:=h;obtain⟨t,tg',ts',JW,Hv,rfl,gF⟩:=k3 x (Qap hx);have gG:=gF.tups (Ar.of n1);refine⟨t,_,rq,SqT.of gG.ht,rq,_,_,rq,_,_,rq,rq,?_⟩;refine⟨_,rq,_,rq,_,rq,Af (by show 4<=1000;decide),λtc htc=>?_⟩;have sC:=Ad htc (.tup [.str "fewest",.ref tw,.int m,.ref tg']);have hC:(upd HG tc (.tup [.str "fewest",.ref tw,.int m,.ref tg'])) tc=some (.tup [.str "fewest",.ref tw,.int m,.ref tg']):=Ac;have gC:=gG.tups (Ar.of sC);have Vo:=sC _ _ (n1 _ _ k5);have n1C:=n1.trans sC;generalize upd HG tc (.tup [.str "fewest",.ref tw,.int m,.ref tg'])=HC at *;obtain⟨gs',eg'⟩:=gC.ig.list;obtain⟨ps',Rt⟩:=gC.is.list;have gl':gs'.length<=70:=by have:=gC.lg;rw[eg',Qbc] at this;exact this
  have pl':ps'.length<=70:=by have:=gC.ls;rw[Qbz Rt,Qbc] at this;exact this
  have hgC:=gC.hg;rw[eg'] at hgC;refine⟨_,rq,tc,.ref ts',rq,.inr ⟨.ref tw,.int m,.ref tg',some (ws.map some),some m,some gs',some (ps'.map some),hC,KY Vo,rq,⟨tg',rq,hgC⟩,⟨ts',Hv,rq,gC.hs,Rt⟩,(λx e=>by cases e;rw[Qbc];omega),(λx e=>by cases e;omega),(λx e=>by cases e;rw[Qbc];omega),λHD sD=>BR ?_⟩⟩;rw[Ui w1 w30 g3 m1' m99];have gD:=gC.tups (Ar.of sD);refine⟨_,rq,Mp rfl ⟨_,rq,Bj ?_⟩⟩;refine⟨_,rq,_,rq,_,rq,_,rq,_,rq,tw,tg',ts',ws,m,gs',Hv,ps',rq,sD _ _ Vo,sD _ _ hgC,gD.hs,Sps.tups (Ar.of sD) Rt,by omega,λHE sE=>?_⟩;exact⟨rq,_,rq,K1 rfl ⟨_,_,_,rq,(n1C.trans sD).trans sE⟩⟩
 obtain⟨u10,u11,u12,rfl,n1⟩:=h;have k6G:=k6.tups (Ar.of n1);obtain⟨gs0,eg0⟩:=k6G.ig.list;obtain⟨ps0,U6⟩:=k6G.is.list;have hgG:=k6G.hg;rw[eg0] at hgG;have gl0:gs0.length<=30:=by have:=G9.lg;rw[eg0,Qbc] at this;exact this
 have pl0:ps0.length<=30:=by have:=G9.ls;rw[Qbz U6,Qbc] at this;exact this
 have k4G:=k4.same n1;refine⟨_,rq,_,rq,_,rq,_,rq,_,rq,b,_,tw,tg,ts,ws,m,gs0,svs,ps0,rq,k4G,by omega,n1 _ _ k5,w30,hgG,k6G.hs,U6,gl0,pl0,λt c' pav HE hE oE hbE sbE=>⟨t,_,rq,SqT.of hE,rq,_,_,rq,_,_,rq,rq,?_⟩⟩;have s0E:Same H HE:=(k7.trans n1).Cq sbE fb;rcases oE with⟨x,y,hx⟩|⟨wv,mv,gv,W,M',G',P',hx,r1,r2,r3,r4,f1,f2,f3,ff⟩
 ·exact⟨_,rq,_,rq,c',pav,rq,.inl ⟨x,y,hx,λHZ sZ=>⟨rq,_,rq,K1 rfl ⟨_,_,_,_,_,_,_,_,_,_,_,_,_,rq,s0E.trans sZ⟩⟩⟩⟩
 ·refine⟨_,rq,_,rq,c',pav,rq,.inr ⟨wv,mv,gv,W,M',G',P',hx,r1,r2,r3,r4,f1,f2,f3,λHZ sZ=>?_⟩⟩;rw[ff];exact⟨rq,_,rq,K1 rfl ⟨_,_,_,_,_,_,_,_,_,_,_,_,_,rq,s0E.trans sZ⟩⟩
end
theorem Ul {P:Program} {w:World} {K:YD} {mg:YB} {base:Heap} (g4:Good P w K mg base "fewest_holds" 4 Dw KR):∀nm,nm∈one->Good P w K mg base nm 4 Dw (spV nm):=λnm h=>by
 unfold one at h;rw[QaC.mp h];exact g4
theorem all_mk {l:PySem.W.OpenLaw} {w:World} {K:YD} {h:Heap} {mg:YB} {fa f1 f2 f3 f4 f5 f6 f7 f8 f9 f10 f11 f12 f13 f14 f15 f16:Addr} (X:K.In h) (G:h.Ns mainGlobals mg) (hfa:mg "law"=some (.ref fa))
  {od1 an1 od2 an2 od3 an3 od4 an4 od5 an5 od6 an6 od7 an7 od8 an8 od9 an9 Xo Z9 Xn Z8 Xm Z7 Xl Z6 Xk Z5 Xj Z4 Xi V4:Option Addr} {sl1 sl2 sl3 sl4 sl5 sl6 sl7 sl8 sl9 W6 W5 W4 W2 W0 WY WX:YI} {oc1 kV1 dc1 pm1 cd1 ct1 oc2 kV2 dc2 pm2 cd2 ct2 oc3 kV3 dc3 pm3 cd3 ct3 oc4 kV4 dc4 pm4 cd4 ct4 oc5 kV5 dc5 pm5 cd5 ct5 oc6 kV6 dc6 pm6 cd6 ct6 oc7 kV7 dc7 pm7 cd7 ct7 oc8 kV8 dc8 pm8 cd8 ct8 oc9 kV9 dc9 pm9 cd9 ct9 Xx X3 ZP Xh V0 ZX Xw XS ZM Xg VR ZW Xv XR ZL Xf VP ZV Xu XQ ZK Xe VN ZS Xr XM ZJ Xd VL ZR Xq XJ ZG Xc VJ ZQ Xp Vk VD U7 Sx VG:Value}
  (a1:nsIn K mainGlobals "is_whole"=some (some (.ref f1))) (l1:K.lookup f1=some ⟨oc1,od1,.func (fnOf "is_whole" "is_whole" (Bf Dv) (Ay Dv) (Ah Dv) .none kV1 dc1 pm1 an1 cd1 ct1),sl1⟩) (c1:codeIn K cd1 "is_whole"=true) (k1:keepIn K (.ref f1)=true)
  (a2:nsIn K mainGlobals "is_within"=some (some (.ref f2))) (l2:K.lookup f2=some ⟨oc2,od2,.func (fnOf "is_within" "is_within" (Bf Dk) (Ay Dk) (Ah Dk) .none kV2 dc2 pm2 an2 cd2 ct2),sl2⟩) (c2:codeIn K cd2 "is_within"=true) (k2:keepIn K (.ref f2)=true)
  (a3:nsIn K mainGlobals "is_row"=some (some (.ref f3))) (l3:K.lookup f3=some ⟨oc3,od3,.func (fnOf "is_row" "is_row" (Bf Ep) (Ay Ep) (Ah Ep) .none kV3 dc3 pm3 an3 cd3 ct3),sl3⟩) (c3:codeIn K cd3 "is_row"=true) (k3:keepIn K (.ref f3)=true)
  (a4:nsIn K mainGlobals "is_rising"=some (some (.ref f4))) (l4:K.lookup f4=some ⟨oc4,od4,.func (fnOf "is_rising" "is_rising" (Bf Dl) (Ay Dl) (Ah Dl) .none kV4 dc4 pm4 an4 cd4 ct4),sl4⟩) (c4:codeIn K cd4 "is_rising"=true) (k4:keepIn K (.ref f4)=true)
  (a5:nsIn K mainGlobals "are_rising_within"=some (some (.ref f5))) (l5:K.lookup f5=some ⟨oc5,od5,.func (fnOf "are_rising_within" "are_rising_within" (Bf Bo) (Ay Bo) (Ah Bo) .none kV5 dc5 pm5 an5 cd5 ct5),sl5⟩) (c5:codeIn K cd5 "are_rising_within"=true) (k5:keepIn K (.ref f5)=true)
  (a6:nsIn K mainGlobals "is_heavy_span"=some (some (.ref f6))) (l6:K.lookup f6=some ⟨oc6,od6,.func (fnOf "is_heavy_span" "is_heavy_span" (Bf Ca) (Ay Ca) (Ah Ca) .none kV6 dc6 pm6 an6 cd6 ct6),sl6⟩) (c6:codeIn K cd6 "is_heavy_span"=true) (k6:keepIn K (.ref f6)=true)
  (a7:nsIn K mainGlobals "are_weights"=some (some (.ref f7))) (l7:K.lookup f7=some ⟨oc7,od7,.func (fnOf "are_weights" "are_weights" (Bf Cv) (Ay Cv) (Ah Cv) .none kV7 dc7 pm7 an7 cd7 ct7),sl7⟩) (c7:codeIn K cd7 "are_weights"=true) (k7:keepIn K (.ref f7)=true)
  (a8:nsIn K mainGlobals "fewest_holds"=some (some (.ref f8))) (l8:K.lookup f8=some ⟨oc8,od8,.func (fnOf "fewest_holds" "fewest_holds" (Bf BJ) (Ay BJ) (Ah BJ) .none kV8 dc8 pm8 an8 cd8 ct8),sl8⟩) (c8:codeIn K cd8 "fewest_holds"=true) (k8:keepIn K (.ref f8)=true)
  (a9:nsIn K mainGlobals "holds"=some (some (.ref f9))) (l9:K.lookup f9=some ⟨oc9,od9,.func (fnOf "holds" "holds" (Bf Fx) (Ay Fx) (Ah Fx) .none kV9 dc9 pm9 an9 cd9 ct9),sl9⟩) (c9:codeIn K cd9 "holds"=true) (k9:keepIn K (.ref f9)=true)
  (a10:nsIn K mainGlobals "_law_bag"=some (some (.ref f10))) (l10:K.lookup f10=some ⟨Xx,Xo,.func (fnOf "_law_bag" "_law_bag" (Bf Fw) (Ay Fw) (Ah Fw) .none X3 ZP Xh Z9 V0 ZX),W6⟩) (c10:codeIn K V0 "_law_bag"=true) (k10:keepIn K (.ref f10)=true)
  (a11:nsIn K mainGlobals "_law_take"=some (some (.ref f11))) (l11:K.lookup f11=some ⟨Xw,Xn,.func (fnOf "_law_take" "_law_take" (Bf Em) (Ay Em) (Ah Em) .none XS ZM Xg Z8 VR ZW),W5⟩) (c11:codeIn K VR "_law_take"=true) (k11:keepIn K (.ref f11)=true)
  (a12:nsIn K mainGlobals "_law_laid"=some (some (.ref f12))) (l12:K.lookup f12=some ⟨Xv,Xm,.func (fnOf "_law_laid" "_law_laid" (Bf En) (Ay En) (Ah En) .none XR ZL Xf Z7 VP ZV),W4⟩) (c12:codeIn K VP "_law_laid"=true) (k12:keepIn K (.ref f12)=true)
  (a13:nsIn K mainGlobals "_law_due"=some (some (.ref f13))) (l13:K.lookup f13=some ⟨Xu,Xl,.func (fnOf "_law_due" "_law_due" (Bf Fv) (Ay Fv) (Ah Fv) .none XQ ZK Xe Z6 VN ZS),W2⟩) (c13:codeIn K VN "_law_due"=true) (k13:keepIn K (.ref f13)=true)
  (a14:nsIn K mainGlobals "_law_bent"=some (some (.ref f14))) (l14:K.lookup f14=some ⟨Xr,Xk,.func (fnOf "_law_bent" "_law_bent" (Bf Eo) (Ay Eo) (Ah Eo) .none XM ZJ Xd Z5 VL ZR),W0⟩) (c14:codeIn K VL "_law_bent"=true) (k14:keepIn K (.ref f14)=true)
  (a15:nsIn K mainGlobals "_law_other_form"=some (some (.ref f15))) (l15:K.lookup f15=some ⟨Xq,Xj,.func (fnOf "_law_other_form" "_law_other_form" (Bf Cm) (Ay Cm) (Ah Cm) .none XJ ZG Xc Z4 VJ ZQ),WY⟩) (c15:codeIn K VJ "_law_other_form"=true) (k15:keepIn K (.ref f15)=true)
  (a16:nsIn K mainGlobals "law"=some (some (.ref f16))) (l16:K.lookup f16=some ⟨Xp,Xi,.func (fnOf "law" "law" (Bf EY) (Ay EY) (Ah EY) .none Vk VD U7 V4 Sx VG),WX⟩) (c16:codeIn K Sx "law"=true) (k16:keepIn K (.ref f16)=true)
  (z0:nsIn K mainGlobals "isinstance"=some none)
  (z1:nsIn K mainGlobals "int"=some none)
  (z2:nsIn K mainGlobals "bool"=some none)
  (z3:nsIn K mainGlobals "tuple"=some none)
  (z4:nsIn K mainGlobals "list"=some none)
  (z5:nsIn K mainGlobals "str"=some none)
  (z6:nsIn K mainGlobals "len"=some none)
  (z7:nsIn K mainGlobals "all"=some none)
  (z8:nsIn K mainGlobals "abs"=some none)
  (z9:nsIn K mainGlobals "max"=some none)
  (z10:nsIn K mainGlobals "min"=some none)
  (z11:nsIn K mainGlobals "range"=some none)
  (z12:nsIn K mainGlobals "sorted"=some none)
  (z13:nsIn K mainGlobals "any"=some none)
  (z14:nsIn K mainGlobals "sum"=some none)
  (z15:nsIn K mainGlobals "enumerate"=some none)
  (z16:nsIn K mainGlobals "zip"=some none)
  (z17:nsIn K mainGlobals "reversed"=some none)
  (z18:nsIn K mainGlobals "dict"=some none)
  (z19:nsIn K mainGlobals "ord"=some none)
  (z20:nsIn K mainGlobals "set"=some none)
  {cA mA:Addr} {esC esM:Array DictEntry} {nC nM:Nat} {tk4:Tok}
  (yc:nsIn K mainGlobals "CHECKS"=some (some (.ref cA)))
  (ym:nsIn K mainGlobals "MANY_PARTS"=some (some (.ref mA)))
  (ylc:K.lookup cA=some ⟨.type "dict",none,.dict esC nC,#[]⟩)
  (ylm:K.lookup mA=some ⟨.type "dict",none,.dict esM nM,#[]⟩)
  (ykc:KeysLit w.params esC.toList)
  (ykm:KeysLit w.params esM.toList)
  (yoc:(cA == sysModules)=false)
  (yom:(mA == sysModules)=false)
  (ycf:nsIn K cA "fewest"=some (some (.ref f8)))
  (ymf:nsIn K mA "fewest"=some (some (.int 3 tk4)))
  : ∃fd:FuncData,(∀(s:Shared) (v:Value),BindsTo s fd ⟨[v],[]⟩ [("_law_script",v)])/\∀base:Heap,K.In base->base.Ns mainGlobals mg->Du l.prog w K mg base CX0 6 fa fd Tf (Jd K):=by
 have e:=hfa.symm.trans (mg_of X G a16);cases e;have T:Nm mg:=⟨mg_none_of X G z0,mg_none_of X G z1,mg_none_of X G z2,mg_none_of X G z3,mg_none_of X G z4,mg_none_of X G z5,mg_none_of X G z6,mg_none_of X G z7,mg_none_of X G z8,mg_none_of X G z9,mg_none_of X G z10,mg_none_of X G z11,mg_none_of X G z12,mg_none_of X G z13,mg_none_of X G z14,mg_none_of X G z15,mg_none_of X G z16,mg_none_of X G z17,mg_none_of X G z18,mg_none_of X G z19,mg_none_of X G z20⟩;have TX:Tx K mg w.params cA mA f8:={ toNm:=T,CHECKS:=⟨_,mg_of X G yc,rq⟩,MANY_PARTS:=⟨_,mg_of X G ym,rq⟩,dc:=⟨⟨_,_,ylc,ykc⟩,yoc⟩,dm:=⟨⟨_,_,ylm,ykm⟩,yom⟩,cf:=ycf,mf:=⟨_,ymf⟩,gf:=mg_of X G a8 };have Qc:Code K mg "is_whole" Dv Ej:=Code.of X G a1 l1 c1 k1 λ_ _ _ _ _ _ us hl=>match us,hl with | [_],_=>rfl
 have M8:Code K mg "is_within" Dk Cj:=Code.of X G a2 l2 c2 k2 λ_ _ _ _ _ _ us hl=>match us,hl with | [_,_,_],_=>rfl
 have S9:Code K mg "is_row" Ep CZ:=Code.of X G a3 l3 c3 k3 λ_ _ _ _ _ _ us hl=>match us,hl with | [_,_,_],_=>rfl
 have Nb:Code K mg "is_rising" Dl DK:=Code.of X G a4 l4 c4 k4 λ_ _ _ _ _ _ us hl=>match us,hl with | [_],_=>rfl
 have Hr:Code K mg "are_rising_within" Bo BL:=Code.of X G a5 l5 c5 k5 λ_ _ _ _ _ _ us hl=>match us,hl with | [_,_,_,_,_],_=>rfl
 have Jt:Code K mg "is_heavy_span" Ca Cz:=Code.of X G a6 l6 c6 k6 λ_ _ _ _ _ _ us hl=>match us,hl with | [_,_,_],_=>rfl
 have KQ:Code K mg "are_weights" Cv Dg:=Code.of X G a7 l7 c7 k7 λ_ _ _ _ _ _ us hl=>match us,hl with | [_],_=>rfl
 have Kh:Code K mg "fewest_holds" BJ Dw:=Code.of X G a8 l8 c8 k8 λ_ _ _ _ _ _ us hl=>match us,hl with | [_,_],_=>rfl
 have Ut:Code K mg "holds" Fx GR:=Code.of X G a9 l9 c9 k9 λ_ _ _ _ _ _ us hl=>match us,hl with | [_,_],_=>rfl
 have Us:Code K mg "_law_bag" Fw GQ:=Code.of X G a10 l10 c10 k10 λ_ _ _ _ _ _ us hl=>match us,hl with | [_,_],_=>rfl
 have S6:Code K mg "_law_take" Em DW:=Code.of X G a11 l11 c11 k11 λ_ _ _ _ _ _ us hl=>match us,hl with | [_,_],_=>rfl
 have S7:Code K mg "_law_laid" En FW:=Code.of X G a12 l12 c12 k12 λ_ _ _ _ _ _ us hl=>match us,hl with | [_,_],_=>rfl
 have Ur:Code K mg "_law_due" Fv GP:=Code.of X G a13 l13 c13 k13 λ_ _ _ _ _ _ us hl=>match us,hl with | [_,_,_,_],_=>rfl
 have S8:Code K mg "_law_bent" Eo FZ:=Code.of X G a14 l14 c14 k14 λ_ _ _ _ _ _ us hl=>match us,hl with | [_,_,_,_],_=>rfl
 have Kg:Code K mg "_law_other_form" Cm CQ:=Code.of X G a15 l15 c15 k15 λ_ _ _ _ _ _ us hl=>match us,hl with | [_,_,_,_,_],_=>rfl
 have WL:=QZ (st:=EY) l16 c16 k16;refine⟨fnOf "law" "law" (Bf EY) (Ay EY) (Ah EY) .none Vk VD U7 V4 Sx VG,λs v=>.of_eq rfl,λbase _ _=>?_⟩;have JZ:=Ry (P:=l.prog) (w:=w) (base:=base) Us T;have Bp:=QC (P:=l.prog) (w:=w) (base:=base) S6 T;have Yz:=Ly (P:=l.prog) (w:=w) (base:=base) Qc T;have Pk:=Ky (P:=l.prog) (w:=w) (base:=base) M8 T Yz;have Mr:=QD (P:=l.prog) (w:=w) (base:=base) S9 T;have Yw:=Lz (P:=l.prog) (w:=w) (base:=base) Nb T;have Yv:=IK (P:=l.prog) (w:=w) (base:=base) Hr T Mr Pk Yw;have YK:=RB (P:=l.prog) (w:=w) (base:=base) Jt T Mr Pk;have YX:=JG (P:=l.prog) (w:=w) (base:=base) KQ T Mr Pk;have YS:=QF (P:=l.prog) (w:=w) (base:=base) Kh T Mr Pk YX Yv YK;have YQ:=Rz (P:=l.prog) (w:=w) (base:=base) Ut TX Mr (Ul YS);have Yy:=T6 (P:=l.prog) (w:=w) (base:=base) S7 T;have YT:=Vc (P:=l.prog) (w:=w) (base:=base) Ur T;have YW:=T7 (P:=l.prog) (w:=w) (base:=base) S8 T Bp;have Yx:=Rx (P:=l.prog) (w:=w) (base:=base) Kg T Bp;exact Vb WL T JZ Bp YQ Yy YT YW Yx
theorem walk {l:PySem.W.OpenLaw} {q:Program} {loose:YF} {XP:(YB)->Heap->Prop} {YP:World->Heap->Prop} {d:DefRec} {K:Params->YD} (hn:l.most=some 63) (hdf:d.params.defaults=[])
  (hY:∀(w:World) (h:Heap),YP w h->(K w.params).In h)
  (F:∀(w:World) (mg:YB) (fa:Addr) (h:Heap),(K w.params).In h->h.Ns mainGlobals mg->mg d.name=some (.ref fa) ->
   ∃fd:FuncData,(∀(s:Shared) (u:Value),BindsTo s fd ⟨[u],[]⟩ [("_law_script",u)])/\∀base:Heap,(K w.params).In base->base.Ns mainGlobals mg->Du l.prog w (K w.params) mg base CX0 6 fa fd Tf (Jd (K w.params))) :
  PySem.W.WalkO q loose XP YP l.row.toRowW d [] (λf vs=>PySem.call f vs):=
 L2.Tr (n:=63) (k:=6) (x:="_law_script") (CX:=λ_=>CX0) (sp:=λw=>Jd (K w.params)) hn (by decide) hdf ⟨rq,by decide,by decide⟩ hY F (λ_ _ a ns hl _ hS=>⟨a,ns,rq,hS,hl,λ_=>rfl⟩) λ_ _ _ _ _ z=>z
end K54
/-! names that stay free of quick twins: the head comes through without them, and the compiled text is much smaller -/
namespace PySem.W.Fast
def tw14111876277547330571:=0
def tw13826250339709511902:=0
def tw16723623295138447907:=0
def tw6113449145936350309:=0
def tw1566857267541001250:=0
def tw13549604090042958421:=0
def tw15375996248208160087:=0
def tw14782354450985700942:=0
def tw1780239915582237766:=0
def tw4002167056253842700:=0
def tw17937734266597728339:=0
def tw1455319774663170644:=0
def tw1050581880294175344:=0
def tw11549818913236798174:=0
def tw10504637660937527775:=0
def tw15026532013298674213:=0
def tw14002537405220536311:=0
def tw9528301734931233084:=0
def tw13134879702975662652:=0
def tw14081762636665887978:=0
def tw13499675972216893352:=0
def tw6980712922140046283:=0
def tw15921870960298289619:=0
def tw12946016086304862945:=0
def tw7498226691374495194:=0
def tw17943869095999581487:=0
def tw12381281511017897462:=0
def tw15187305220807170417:=0
def tw8963452471760873486:=0
def tw8186396663723873998:=0
def tw11529453148976334160:=0
def tw9757434559123879618:=0
def tw2420046571732902144:=0
def tw1620757041912659010:=0
def tw6226403936343830587:=0
def tw2209505120395978576:=0
def tw15297892750712386955:=0
def tw1420090415754310616:=0
def tw1237273179056369423:=0
def tw12767318958412968542:=0
def tw16197114572857181024:=0
def tw7893117807385180791:=0
def tw1978715591913160274:=0
def tw10820878081824280305:=0
def tw13657570920890757307:=0
def tw15342248663859256147:=0
def tw17183324180167904874:=0
def tw7943251158961101419:=0
def tw11987751158695369730:=0
def tw3735146188397133859:=0
def tw18213214811198333376:=0
def tw6821875163226457236:=0
def tw1438076333728960309:=0
def tw7165129686323138502:=0
def tw1021406220454196705:=0
def tw3749301248285981956:=0
def tw16312021852453265951:=0
def tw2006151980695805402:=0
def tw5245066949987444536:=0
def tw126368009973541689:=0
def tw17842328894057275785:=0
def tw383851474607198078:=0
def tw5003828922797158361:=0
def tw13061442334403050088:=0
def tw5642689234295909646:=0
def tw1745423232410417781:=0
def tw10388653320998586961:=0
def tw7575476011975832965:=0
def tw8296313290865970945:=0
def tw16808121387156197379:=0
def tw7608569470938282558:=0
def tw18071324892421645579:=0
def tw15092068748224522510:=0
def tw3112629166781475885:=0
def tw3212164968528755942:=0
def tw1099890223313866764:=0
def tw6410112013311438088:=0
def tw10756833563174659041:=0
def tw2896388666571732985:=0
def tw1581141651914239545:=0
def tw10938222505100477287:=0
def tw322329124932305718:=0
def tw1401313104936893784:=0
def tw601409836889665338:=0
def tw9884369448015367044:=0
def tw17793706969540422199:=0
def tw7432339139892834577:=0
def tw4072582177216249510:=0
def tw17870204001499171421:=0
def tw5416274825950358267:=0
def tw1067669150198568264:=0
def tw139808755668297989:=0
def tw15280683787320167147:=0
def tw10279722701210639589:=0
def tw10003866561233764097:=0
def tw12561394542898397014:=0
def tw661627420033989796:=0
def tw8848222105312831070:=0
def tw4762849771074949618:=0
def tw1728850714471573867:=0
def tw8487300556523181220:=0
def tw10869715932343677937:=0
def tw17726476318165708045:=0
def tw7224110855986465997:=0
def tw6702625644879142323:=0
def tw12086897806633298669:=0
def tw15750175602961724871:=0
def tw3841772198131665363:=0
def tw7969615021134651724:=0
def tw10453307160075694179:=0
def tw11843073930028932194:=0
def tw15457438968603640468:=0
def tw5178098589865705100:=0
def tw4970678429578023059:=0
def tw15907685817192506967:=0
def tw2220743167884342454:=0
def tw4740155626761795291:=0
def tw14350756146971137420:=0
def tw16426345057884519308:=0
def tw3078470029107957117:=0
def tw9503641244381750139:=0
def tw3163941596534838733:=0
def tw6424611996816965018:=0
def tw15469773167780131340:=0
def tw13594331529891468891:=0
def tw12275025527491320572:=0
def tw5973010971605918334:=0
def tw16172398174094055315:=0
def tw18092116341331442049:=0
def tw17903309451878993081:=0
def tw12203651560707021716:=0
def tw7895221595121030230:=0
def tw6424788924978676947:=0
def tw3142181073023708737:=0
def tw15612243331452229229:=0
def tw4567153473665520146:=0
def tw15070668162514058591:=0
def tw12363621801345175063:=0
def tw6148882233778132076:=0
def tw9228816259222184766:=0
def tw4746192548942512990:=0
def tw9734462665928994803:=0
def tw8527428139784447759:=0
def tw12420263537331518476:=0
def tw1796320368759543038:=0
def tw10736942631923738810:=0
def tw3128754655265161614:=0
def tw13900629454418971982:=0
def tw10290776767709398370:=0
def tw12392455806016032083:=0
def tw15841233302227625049:=0
def tw1849875195992158563:=0
def tw12195878817316200268:=0
def tw2508315994909377952:=0
def tw6166025351791755354:=0
def tw16852611573293003510:=0
def tw12051197631662401036:=0
def tw15297149333694703466:=0
def tw14095649497125287279:=0
def tw3193797371568297941:=0
def tw10161020209343371957:=0
def tw4325812027622329643:=0
def tw12293265880708758987:=0
def tw11180332763699449476:=0
def tw1200572188919464448:=0
def tw2897339839611476847:=0
def tw1365886940137972521:=0
def tw16016912059228877791:=0
def tw14357958556106147312:=0
def tw17721856568940901594:=0
end PySem.W.Fast
open PySem PySem.W PyProof.Rows
set_option maxRecDepth 100000 in
set_option maxHeartbeats 0 in
theorem PySem.Challenge.cw_warnloop_k54_fewest_claims_holds : PySem.Challenge.rw_warnloop_k54_fewest_claims.Holds := by
 w_on;o_law;k_head;(case hw=>w_witness2)
 k_fill
 refine K54.walk (l:=PySem.Challenge.rw_warnloop_k54_fewest_claims) rfl rfl (λw h Y=>PySem.W.kIn_of Y) ?F
 case F=>
  intro w mg fa h KX G hmg
  refine' K54.all_mk KX G hmg ?a1 ?l1 ?c1 ?k1 ?a2 ?l2 ?c2 ?k2 ?a3 ?l3 ?c3 ?k3 ?a4 ?l4 ?c4 ?k4 ?a5 ?l5 ?c5 ?k5 ?a6 ?l6 ?c6 ?k6 ?a7 ?l7 ?c7 ?k7 ?a8 ?l8 ?c8 ?k8 ?a9 ?l9 ?c9 ?k9 ?a10 ?l10 ?c10 ?k10 ?a11 ?l11 ?c11 ?k11 ?a12 ?l12 ?c12 ?k12 ?a13 ?l13 ?c13 ?k13 ?a14 ?l14 ?c14 ?k14 ?a15 ?l15 ?c15 ?k15 ?a16 ?l16 ?c16 ?k16 ?z0 ?z1 ?z2 ?z3 ?z4 ?z5 ?z6 ?z7 ?z8 ?z9 ?z10 ?z11 ?z12 ?z13 ?z14 ?z15 ?z16 ?z17 ?z18 ?z19 ?z20 ?yc ?ym ?ylc ?ylm ?ykc ?ykm ?yoc ?yom ?ycf ?ymf
  (case a1=>k_is)
  (case l1=>k_is)
  (case c1=>k_is)
  (case k1=>k_is)
  (case a2=>k_is)
  (case l2=>k_is)
  (case c2=>k_is)
  (case k2=>k_is)
  (case a3=>k_is)
  (case l3=>k_is)
  (case c3=>k_is)
  (case k3=>k_is)
  (case a4=>k_is)
  (case l4=>k_is)
  (case c4=>k_is)
  (case k4=>k_is)
  (case a5=>k_is)
  (case l5=>k_is)
  (case c5=>k_is)
  (case k5=>k_is)
  (case a6=>k_is)
  (case l6=>k_is)
  (case c6=>k_is)
  (case k6=>k_is)
  (case a7=>k_is)
  (case l7=>k_is)
  (case c7=>k_is)
  (case k7=>k_is)
  (case a8=>k_is)
  (case l8=>k_is)
  (case c8=>k_is)
  (case k8=>k_is)
  (case a9=>k_is)
  (case l9=>k_is)
  (case c9=>k_is)
  (case k9=>k_is)
  (case a10=>k_is)
  (case l10=>k_is)
  (case c10=>k_is)
  (case k10=>k_is)
  (case a11=>k_is)
  (case l11=>k_is)
  (case c11=>k_is)
  (case k11=>k_is)
  (case a12=>k_is)
  (case l12=>k_is)
  (case c12=>k_is)
  (case k12=>k_is)
  (case a13=>k_is)
  (case l13=>k_is)
  (case c13=>k_is)
  (case k13=>k_is)
  (case a14=>k_is)
  (case l14=>k_is)
  (case c14=>k_is)
  (case k14=>k_is)
  (case a15=>k_is)
  (case l15=>k_is)
  (case c15=>k_is)
  (case k15=>k_is)
  (case a16=>k_is)
  (case l16=>k_is)
  (case c16=>k_is)
  (case k16=>k_is)
  (case z0=>k_is)
  (case z1=>k_is)
  (case z2=>k_is)
  (case z3=>k_is)
  (case z4=>k_is)
  (case z5=>k_is)
  (case z6=>k_is)
  (case z7=>k_is)
  (case z8=>k_is)
  (case z9=>k_is)
  (case z10=>k_is)
  (case z11=>k_is)
  (case z12=>k_is)
  (case z13=>k_is)
  (case z14=>k_is)
  (case z15=>k_is)
  (case z16=>k_is)
  (case z17=>k_is)
  (case z18=>k_is)
  (case z19=>k_is)
  (case z20=>k_is)
  (case yc=>k_is)
  (case ym=>k_is)
  (case ylc=>k_is)
  (case ylm=>k_is)
  (case ykc=>(dsimp only [KeysLit];exact⟨⟨_,_,rq,rq⟩,⟨_,_,rq,rq⟩,⟨_,_,rq,rq⟩,⟨_,_,rq,rq⟩,⟨_,_,rq,rq⟩,⟨_,_,rq,rq⟩,True.intro⟩))
  (case ykm=>(dsimp only [KeysLit];exact⟨⟨_,_,rq,rq⟩,⟨_,_,rq,rq⟩,⟨_,_,rq,rq⟩,⟨_,_,rq,rq⟩,⟨_,_,rq,rq⟩,⟨_,_,rq,rq⟩,True.intro⟩))
  (case yoc=>rfl)
  (case yom=>rfl)
  (case ycf=>k_is)
  (case ymf=>k_is)
