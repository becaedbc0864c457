import PyProof.Rows.All
import Wide.All
import OpenK.AllK
import Wide.FinOn
import Lean
import PyProof.EqAt
import PyProof.EqKinds
import PyProof.TupleCall
import PySem.Challenge.RW_warnloop_k28_rules_written
set_option linter.all false
set_option Elab.async false
set_option maxRecDepth 100000
set_option maxHeartbeats 4000000
abbrev YA:=PySem.Value→PySem.Shared→Prop
abbrev YH:=Unit→PySem.Shared→Prop
abbrev YB:=PySem.Str→Option PySem.Value
abbrev YC:=List (PySem.Addr×PySem.Obj)
abbrev YD:=PySem.W.Frag
abbrev YI:=Array (Option PySem.Value)
abbrev YE:=List PySem.Value
abbrev YF:=List PySem.Str
abbrev YJ:=List PySem.Expr
theorem rq{α:Sort _}{a:α}:a=a:=rfl
local macro_rules|`(tactic|trivial)=>`(tactic|decide +kernel)
local macro_rules | `(tactic|ac_rfl) => `(tactic|exact ⟨rfl,rfl,rfl,by decide +kernel,rfl,by decide +kernel,by decide +kernel⟩)
open PySem.W (findIn keepIn kitOne kia_one fnOf codeIn nsIn mg_of mg_none_of)
abbrev Qaa:=@PyProof.Rows.slot_tupleiter_next
abbrev Qab:=@PyProof.Rows.slot_tuple_getitem
abbrev Qac:=@Array.getElem?_eq_some_iff
abbrev Qad:=@List.getElem?_append_right
abbrev Qae:=@List.getElem?_eq_some_iff
abbrev Qaf:=@List.getElem?_append_left
abbrev Qag:=@List.pairwise_iff_getElem
abbrev Qah:=@List.getElem?_eq_getElem
abbrev Qai:=@PySem.F.slot_list_append
abbrev Qaj:=@PySem.F.type_list_append
abbrev Qak:=@Int.eq_ofNat_of_zero_le
abbrev Qal:=@PySem.wpAny_callSpecial?_slot
abbrev Qam:=@PySem.wpAny_getItem_str_slice
abbrev Qan:=@PySem.F.plainAttrs_list
abbrev Qao:=@PySem.Heap.get?_push_of_some
abbrev Qap:=@PySem.F.plainAttrs_str
abbrev Qaq:=@List.mem_append_right
abbrev Qar:=@Array.getElem?_toList
abbrev Qas:=@List.mem_cons_of_mem
abbrev Qat:=@List.mem_of_getElem?
abbrev Qau:=@Array.toList_extract
abbrev Qav:=@List.forall_mem_nil
abbrev Qaw:=@PySem.Heap.get?_push_size
abbrev Qax:=@PySem.mem_of_lookup
abbrev Qay:=@Array.length_toList
abbrev Qaz:=@List.length_append
abbrev QaA:=@Bool.false_ne_true
abbrev QaB:=@List.mem_cons_self
abbrev QaD:=@Nat.lt_of_lt_of_le
abbrev QaE:=@List.mem_singleton
abbrev QaF:=@decide_eq_true_iff
abbrev QaG:=@Int.emod_lt_of_pos
abbrev QaH:=@of_decide_eq_false
abbrev QaI:=@PySem.Str.length_append
abbrev QaJ:=@List.append_assoc
abbrev QaK:=@List.size_toArray
abbrev QaL:=@of_decide_eq_true
abbrev QaM:=@List.getElem?_map
abbrev QaN:=@PySem.wpAny_truthy_bool
abbrev QaO:=@PySem.wpAny_newObj_type
abbrev QaP:=@Int.toNat_natCast
abbrev QaQ:=@List.length_cons
abbrev QaR:=@Bool.and_eq_true
abbrev QaS:=@List.all_eq_true
abbrev QaT:=@List.length_take
abbrev QaU:=@List.take_length
abbrev QaV:=@Nat.succ_le_succ
abbrev QaW:=@Nat.le_max_right
abbrev QaX:=@List.length_map
abbrev QaY:=@List.map_append
abbrev QaZ:=@decide_eq_false
abbrev Qba:=@List.nil_append
abbrev Qbb:=@List.mem_append
abbrev Qbc:=@Option.some.inj
abbrev Qbe:=@Nat.le_max_left
abbrev Qbf:=@List.all_append
abbrev Qbg:=@PySem.PassesOwn.never
abbrev Qbh:=@List.nodup_cons
abbrev Qbi:=@PySem.wpAny_passesOwn
abbrev Qbj:=@Bool.eq_iff_iff
abbrev Qbk:=@List.append_nil
abbrev Qbl:=@List.find?_cons
abbrev Qbm:=@Int.emod_nonneg
abbrev Qbn:=@List.drop_left'
abbrev Qbo:=@decide_eq_true
abbrev Qbp:=@Bool.and_self
abbrev Qbq:=@Bool.true_and
abbrev Qbr:=@List.map_cons
abbrev Qbs:=@List.mem_cons
abbrev Qbt:=@Nat.lt_irrefl
abbrev Qbu:=@PySem.wpAny_standAt
abbrev Qbv:=@List.any_cons
abbrev Qbx:=@PySem.Heap.lt_size
abbrev Qby:=@Nat.le_trans
abbrev Qbz:=@Nat.ne_of_lt
abbrev QbA:=@List.mem_map
abbrev QbB:=@Nat.le_refl
abbrev QbC:=@Nat.zero_le
abbrev QbD:=@decide_true
abbrev QbE:=@PySem.wpAny_bind
abbrev QbF:=@PySem.wpAny_pure
abbrev QbG:=@PySem.wpAny_mono
abbrev QbH:=@PyProof.Rows.take_snoc
abbrev QbI:=@LawfulBEq.eq_of_beq
namespace L2
open PySem PySem.Spec PyProof.Rows
abbrev Key:=Sum Int Str
def Xm:Key->Value->Bool
 | .inl k,v=>Value.isInt k v
 | .inr x,v=>Value.isStrOf x v
def cZ (w:World):Key->Int
 | .inl k=>hashInt k
 | .inr x=>hashStr w x
theorem CN:∀{k:Key} {v:Value},Xm k v=true->(∃i t,k=Sum.inl i/\v=Value.int i t)\/(∃x t,k=Sum.inr x/\v=Value.str x t)
 | .inl i,v,h=>by
  obtain⟨t,e⟩:=Value.isInt_shape (k:=i) (v:=v) h;exact .inl ⟨i,t,rq,e⟩
 | .inr x,v,h=>by
  obtain⟨t,e⟩:=Value.isStrOf_shape (x:=x) (v:=v) h;exact .inr ⟨x,t,rq,e⟩
theorem Zn (a b:Int):decide ((Sum.inl a:Key)=Sum.inl b)=(a == b):=by
 by_cases e:a=b
 ·subst e;simp
 ·have h:¬(Sum.inl a:Key)=Sum.inl b:=λq=>e (Sum.inl.inj q);rw[QaZ h];exact (beq_eq_false_iff_ne.mpr e).symm
theorem Zj (a b:Str):decide ((Sum.inr a:Key)=Sum.inr b)=decide (a=b):=by
 by_cases e:a=b
 ·subst e;simp
 ·have h:¬(Sum.inr a:Key)=Sum.inr b:=λq=>e (Sum.inr.inj q);rw[QaZ h,QaZ e]
theorem Zm (a:Int) (b:Str):decide ((Sum.inl a:Key)=Sum.inr b)=false:=QaZ (λq=>nomatch q)
theorem Zk (a:Str) (b:Int):decide ((Sum.inr a:Key)=Sum.inl b)=false:=QaZ (λq=>nomatch q)
def Nb (prog:Program) (w:World):PySem.KeyKind prog w Key where
 is:=Xm
 hash:=cZ w
 inj:=λv a b ha hb=>by
  rcases CN ha with⟨i,t,rfl,rfl⟩|⟨x,t,rfl,rfl⟩
  ·rcases CN hb with⟨j,u,rfl,e⟩|⟨y,u,rfl,e⟩
   ·injection e with e1 _;rw[e1]
   ·exact nomatch e
  ·rcases CN hb with⟨j,u,rfl,e⟩|⟨y,u,rfl,e⟩
   ·exact nomatch e
   ·injection e with e1 _;rw[e1]
 byValue:=λk v h=>by
  rcases CN h with⟨i,t,rfl,rfl⟩|⟨x,t,rfl,rfl⟩ <;> rfl
 pyHash:=λhv h=>by
  rcases CN hv with⟨i,t,rfl,rfl⟩|⟨x,t,rfl,rfl⟩
  ·exact wpAny_pyHash_int h
  ·exact wpAny_pyHash_str h
 eqBool:=λhu hv h=>by
  rcases CN hu with⟨i,t,rfl,rfl⟩|⟨x,t,rfl,rfl⟩
  ·rcases CN hv with⟨j,u,rfl,rfl⟩|⟨y,u,rfl,rfl⟩
   ·rw[Zn] at h;exact wpAny_eqBool_int h
   ·rw[Zm] at h;exact SeqAt.EqAt.int_str i t y u _ _ _ _ h
  ·rcases CN hv with⟨j,u,rfl,rfl⟩|⟨y,u,rfl,rfl⟩
   ·rw[Zk] at h;exact SeqAt.EqAt.str_int x t j u _ _ _ _ h
   ·rw[Zj] at h;exact wpAny_eqBool_str h
 «strs»:=λk x t v h=>by
  rcases CN h with⟨i,u,rfl,e⟩|⟨y,u,rfl,e⟩
  ·exact nomatch e
  ·injection e with e1 _;subst e1;cases v <;> rfl
inductive V where
 | non | bl (b:Bool) | int (i:Int) | str (x:Str) | byt (b:Array UInt8) | flt (b:UInt64) | ref (a:Addr) | ty (n:String)
 deriving DecidableEq
def RelV:V->Value->Prop
 | .non,u=>u=Value.none
 | .bl b,u=>u=Value.bool b
 | .int i,u=>∃t,u=Value.int i t
 | .str x,u=>∃t,u=Value.str x t
 | .byt b,u=>∃t,u=Value.bytes b t
 | .flt b,u=>∃t,u=Value.float b t
 | .ref a,u=>u=Value.ref a
 | .ty n,u=>u=Value.type n
abbrev YG:=List V
abbrev Vals:YG->YE->Prop:=Paired RelV
theorem Vals.length {xs:YG} {us:YE} (r:Vals xs us):xs.length=us.length:=Paired.length r
theorem Vals.get:∀{xs:YG} {us:YE} {i:Nat} {x:V},Vals xs us->xs[i]?=some x->∃u,us[i]?=some u/\RelV x u
 | _,_,_,_,.nil,e=>by simp at e
 | _,_,0,_,.cons r _,e=>by simp at e;subst e;exact⟨_,rfl,r⟩
 | _,_,i+1,x,.cons _ t,e=>by
  obtain⟨u,h1,h2⟩:=Vals.get (i:=i) (x:=x) t (by simpa using e);exact⟨u,by simpa using h1,h2⟩
theorem Vals.set {x:V} {u:Value} (r:RelV x u):∀{xs:YG} {us:YE} (i:Nat),Vals xs us->Vals (xs.set i x) (us.set i u)
 | _,_,_,.nil=>.nil
 | _,_,0,.cons _ t=>.cons r t
 | _,_,i+1,.cons q t=>.cons q (Vals.set r i t)
theorem Vals.append:∀{xs ys:YG} {us ws:YE},Vals xs us->Vals ys ws->Vals (xs++ys) (us++ws)
 | _,_,_,_,.nil,s=>s
 | _,_,_,_,.cons r t,s=>.cons r (Vals.append t s)
theorem Vals.take:∀{xs:YG} {us:YE} (n:Nat),Vals xs us->Vals (xs.take n) (us.take n)
 | _,_,0,_=>.nil
 | _,_,_+1,.nil=>.nil
 | _,_,n+1,.cons r t=>.cons r (Vals.take n t)
theorem Vals.drop:∀{xs:YG} {us:YE} (n:Nat),Vals xs us->Vals (xs.drop n) (us.drop n)
 | _,_,0,r=>r
 | _,_,_+1,.nil=>.nil
 | _,_,n+1,.cons _ t=>Vals.drop n t
def JW:Option V->Option Value->Prop
 | some v,some u=>RelV v u
 | none,none=>True
 | _,_=>False
def KV {κ : Type}:List (κ×V)->List (κ×Value)->Prop:=Paired λ(p:κ×V) (q:κ×Value)=>p.1=q.1/\RelV p.2 q.2
def kV:Key->V
 | .inl i=>.int i
 | .inr x=>.str x
inductive HO where
 | lst (xs:YG)
 | tup (xs:YG)
 | dK (kvs:List (Key×V)) | dT (kvs:List (List Key×V))
 | set (S:Int->Bool) (n:Nat)
 | ins (C dx:Addr) (fs:List (Str×V))
 | own (x:Addr)
 | xd (fs:List (Str×V))
 | met (f x:Addr)
 | rng (lo hi:Int)
 | frz (o:Obj) (u:HO)
 | tbl (ps:Array Value)
 | ext (φ : Heap->Prop)
abbrev Hp:=Addr->Option HO
def upd (H:Hp) (a:Addr) (o:HO):Hp:=λb=>if b=a then some o else H b
theorem Ae {H:Hp} {a:Addr} {o:HO}:upd H a o a=some o:=by unfold upd;rw[if_pos rfl]
theorem Bv {H:Hp} {a b:Addr} {o:HO} (h:b≠a):upd H a o b=H b:=by unfold upd;rw[if_neg h]
theorem Xr {H:Hp} {a:Addr} {o u:HO}:upd (upd H a o) a u=upd H a u:=by
 funext b;unfold upd;split <;> rfl
theorem Cg {H:Hp} {a b:Addr} {o:HO} (h:H a=some o) (h':H b=none):a≠b:=by
 intro e;subst e;rw[h] at h';cases h'
section
variable (P:Program) (w:World)
def Cm (H:Hp) (h:Heap) (a:Addr):HO->Prop
 | .lst xs=>xs.length<=sizeLine/\∃(its:YE) (n:Nat),Vals xs its/\h.get? a=some { cls:=.type "list",data:=.seq its.toArray n }
 | .tup xs=>xs.length<=sizeLine/\∃its:YE,Vals xs its/\IsTup h a its.toArray
 | .dK kvs=>kvs.length<=sizeLine/\(a == sysModules)=false/\∃vs,KV kvs vs/\h.DictOf (Nb P w) a vs
 | .dT kvs=>kvs.length<=sizeLine/\(a == sysModules)=false/\∃xs:List (List Key×Addr×Value),
   Paired (λ(p:List Key×V) (q:List Key×Addr×Value)=>p.1=q.1/\H q.2.1=some (.tup (p.1.map kV))/\RelV p.2 q.2.2) kvs xs /\
   ∃o es ep,h.get? a=some o/\o.ExactDict/\o.data=.dict es ep/\es.toList=xs.map (entryOfKey (tupleKind (Nb P w)))/\(xs.map (·.1)).Nodup
 | .set S n=>h.SetOf (intKind P w) a S n
 | .ins C dx fs=>H dx=some (.own a)/\fs.length<=1000/\dx≠a/\h.get? a=some (PySem.W.instObj C dx) /\
   ∃mA,h.Ns1 dx mA/\(∀f,JW (fs.lookup f) (mA f))/\PySem.Within mA (fs.map (·.1))
 | .own _=>∃o,h.get? a=some o
 | .xd fs=>∃mA,h.Ns1 a mA/\∀f,JW (fs.lookup f) (mA f)
 | .rng lo hi=>∃t u v,h.get? a=some { cls:=.type "range",data:=.fields #[.int lo t,.int hi u,.int 1 v] }
 | .frz o u=>h.get? a=some o/\Cm H h a u
 | .tbl ps=>h.get? a=some { cls:=.none,data:=.fields ps }
 | .met f x=>h.get? a=some (PySem.W.methodObj (.ref f) (.ref x))
 | .ext φ=>φ h/\(∃o,h.get? a=some o)/\∀h1 h2:Heap,φ h1->(∀o,h1.get? a=some o->h2.get? a=some o)->φ h2
def HOk (H:Hp) (h:Heap):Prop:=∀a o,H a=some o->Cm P w H h a o
end
section
variable {P:Program} {w:World} {H H':Hp} {h h':Heap} {a:Addr} {o:HO}
theorem Cm.lt (x:Cm P w H h a o):a < h.objs.size:=by
 cases o with
 | lst xs=>obtain⟨_,_,_,_,e⟩:=x;exact Qbx e
 | tup xs=>obtain⟨_,_,_,p⟩:=x;exact p.lt
 | dK kvs=>obtain⟨_,_,_,_,o,_,_,e,_⟩:=x;exact Qbx e
 | dT kvs=>obtain⟨_,_,_,_,o,_,_,e,_⟩:=x;exact Qbx e
 | set S n=>obtain⟨o,_,_,_,e,_⟩:=x;exact Qbx e
 | ins C dx fs=>obtain⟨_,_,_,e,_⟩:=x;exact Qbx e
 | own y=>obtain⟨_,e⟩:=x;exact Qbx e
 | xd fs=>obtain⟨_,⟨_,_,_,e,_⟩,_⟩:=x;exact Qbx e
 | rng lo hi=>obtain⟨_,_,_,e⟩:=x;exact Qbx e
 | frz ob u=>obtain⟨e,_⟩:=x;exact Qbx e
 | tbl ps=>exact Qbx (show h.get? a=some _ from x)
 | met f y=>exact Qbx (show h.get? a=some _ from x)
 | ext φ=>obtain⟨_,⟨_,e⟩,_⟩:=x;exact Qbx e
theorem Paired.Wt {α β : Type} {F G:α->β->Prop}:∀{l₁ : List α} {l₂ : List β},Paired F l₁ l₂->(∀a b,F a b->G a b)->Paired G l₁ l₂
 | _,_,.nil,_=>.nil
 | _,_,.cons r t,f=>.cons (f _ _ r) (Paired.Wt t f)
theorem Cm.stay (x:Cm P w H h a o) (k:∀b u,(b=a\/H b=some (.own a))->h.get? b=some u->h'.get? b=some u)
  (ho:∀b,H b=some (.own a)->H' b=some (.own a)) (ht:∀b xs,H b=some (.tup xs)->H' b=some (.tup xs)):Cm P w H' h' a o:=by
 induction o with
 | lst xs=>obtain⟨z,its,n,r,e⟩:=x;exact⟨z,its,n,r,k _ _ (.inl rfl) e⟩
 | tup xs=>obtain⟨z,its,r,ob,e,c⟩:=x;exact⟨z,its,r,ob,k _ _ (.inl rfl) e,c⟩
 | dK kvs=>obtain⟨z,y,vs,r,ob,es,ep,e,c⟩:=x;exact⟨z,y,vs,r,ob,es,ep,k _ _ (.inl rfl) e,c⟩
 | dT kvs=>
  obtain⟨z,y,xs,r,ob,es,ep,e,c⟩:=x;exact⟨z,y,xs,Paired.Wt r λp q z=>⟨z.1,ht _ _ z.2.1,z.2.2⟩,ob,es,ep,k _ _ (.inl rfl) e,c⟩
 | set S n=>obtain⟨ob,es,ep,t,e,c⟩:=x;exact⟨ob,es,ep,t,k _ _ (.inl rfl) e,c⟩
 | ins C dx fs=>
  obtain⟨d,z,ne,e,mA,⟨od,es,ep,e2,c⟩,r⟩:=x;exact⟨ho _ d,z,ne,k _ _ (.inl rfl) e,mA,⟨od,es,ep,k _ _ (.inr d) e2,c⟩,r⟩
 | own y=>obtain⟨ob,e⟩:=x;exact⟨ob,k _ _ (.inl rfl) e⟩
 | xd fs=>obtain⟨mA,⟨od,es,ep,e,c⟩,r⟩:=x;exact⟨mA,⟨od,es,ep,k _ _ (.inl rfl) e,c⟩,r⟩
 | rng lo hi=>obtain⟨t,u,v,e⟩:=x;exact⟨t,u,v,k _ _ (.inl rfl) e⟩
 | frz ob u ih=>obtain⟨e,q⟩:=x;exact⟨k _ _ (.inl rfl) e,ih q⟩
 | tbl ps=>
  have e:h.get? a=some { cls:=.none,data:=.fields ps }:=x;show h'.get? a=some { cls:=.none,data:=.fields ps };exact k a _ (.inl rfl) e
 | met f y=>
  have e:h.get? a=some (PySem.W.methodObj (.ref f) (.ref y)):=x;show h'.get? a=some (PySem.W.methodObj (.ref f) (.ref y));exact k a _ (.inl rfl) e
 | ext φ=>obtain⟨p,⟨o,e⟩,st⟩:=x;exact⟨st _ _ p λo q=>k _ _ (.inl rfl) q,⟨o,k _ _ (.inl rfl) e⟩,st⟩
theorem HOk.lt (x:HOk P w H h) (e:H a=some o):a < h.objs.size:=(x a o e).lt
theorem HOk.fresh (x:HOk P w H h) (e:h.objs.size<=a):H a=none:=by
 cases q:H a with
 | none=>rfl
 | some u=>exact absurd (QaD (x.lt q) e) (Qbt _)
theorem HOk.kept (x:HOk P w H h) (k:∀b u,h.get? b=some u->h'.get? b=some u):HOk P w H h':=λa o e=>
 (x a o e).stay (λb u _ q=>k b u q) (λ_ q=>q) λ_ _ q=>q
theorem HOk.laid (x:HOk P w H h) (k:∀b u,h.get? b=some u->h'.get? b=some u) (hp:h.objs.size<=a) (new:Cm P w (upd H a o) h' a o):HOk P w (upd H a o) h':=λb u e=>by
 have hn:=x.fresh hp;by_cases hb:b=a
 ·subst hb;rw[Ae] at e;cases e;exact new
 ·rw[Bv hb] at e;exact (x b u e).stay (λc v _ q=>k c v q) (λc q=>by rw[Bv (Cg q hn)];exact q) λc xs q=>by rw[Bv (Cg q hn)];exact q
end
def Rd (H:Hp) (a:Addr) (u:HO):Prop:=H a=some u\/∃o,H a=some (.frz o u)
theorem Rd.of {H:Hp} {a:Addr} {u:HO} (h:H a=some u):Rd H a u:=.inl h
theorem Rd.ok {P:Program} {w:World} {H:Hp} {h:Heap} {a:Addr} {u:HO} (r:Rd H a u) (x:HOk P w H h):Cm P w H h a u:=by
 rcases r with r |⟨o,r⟩
 ·exact x a u r
 ·obtain⟨_,q⟩:=x a _ r;exact q
def Mut:Option HO->Prop
 | some (.lst _)=>True
 | some (.dK _)=>True
 | some (.dT _)=>True
 | some (.set _ _)=>True
 | some (.ins _ _ _)=>True
 | some (.ext _)=>True
 | _=>False
section
variable {P:Program} {w:World} {H:Hp} {h h':Heap} {x e:Addr} {o':HO}
theorem HOk.write (ok:HOk P w H h) (mu:Mut (H x)) (he:e=x\/H e=some (.own x)) (k:∀b u,b≠e->h.get? b=some u->h'.get? b=some u) (heo:∃u,h'.get? e=some u)
  (new:Cm P w (upd H x o') h' x o'):HOk P w (upd H x o') h':=λb u q=>by
 have Zg:∀c y,H c=some (.own y)->c≠x:=λc y r z=>by subst z;rw[r] at mu;exact mu
 have Lk:∀c xs,H c=some (.tup xs)->c≠x:=λc xs r z=>by subst z;rw[r] at mu;exact mu
 by_cases hb:b=x
 ·subst hb;rw[Ae] at q;cases q;exact new
 ·rw[Bv hb] at q;by_cases hbe:b=e
  ·have q':H b=some (.own x):=by
    rcases he with z | z
    ·exact absurd (hbe.trans z) hb
    ·rw[hbe];exact z
   rw[q] at q';cases q';obtain⟨v,hv⟩:=heo;exact⟨v,by rw[hbe];exact hv⟩
  ·refine (ok b u q).stay (λc v hc r=>k c v ?_ r) (λc r=>by rw[Bv (Zg c b r)];exact r) λc xs r=>by rw[Bv (Lk c xs r)];exact r
   rcases hc with rfl | hc
   ·exact hbe
   ·rintro rfl;rcases he with z | z
    ·exact Zg c b hc z
    ·rw[hc] at z;cases z;exact hb rfl
end
structure Un (fs ex:List Addr) (H H':Hp) (h h':Heap):Prop where
 keep:∀b o,h.get? b=some o->H b=none->b∉fs->b∉ex->h'.get? b=some o
 slot:∀b o,h.get? b=some o->H b=none->b∈fs->b∉ex->∃sl,h'.get? b=some { o with slots:=sl }
 free:∀b o,h.get? b=some o->H b=none->b∉ex->H' b=none
 there:∀b o,h.get? b=some o->b∉ex->∃o',h'.get? b=some o'
 tups:∀b xs,H b=some (.tup xs)->H' b=some (.tup xs)
 Gd:∀b o u,H b=some (.frz o u)->H' b=some (.frz o u)
 Gp:∀b ps,H b=some (.tbl ps)->∃more,H' b=some (.tbl (ps++more))
section
variable {fs fs' ex ex':List Addr} {H H1 H2:Hp} {h h1 h2 h':Heap} {a x e:Addr} {o:HO}
theorem Un.any (u:Un fs ex H H1 h h1) {b:Addr} {ob:Obj} (q:h.get? b=some ob) (n:H b=none) (hx:b∉ex):∃sl,h1.get? b=some { ob with slots:=sl }:=by
 by_cases hb:b∈fs
 ·exact u.slot b ob q n hb hx
 ·exact⟨ob.slots,u.keep b ob q n hb hx⟩
theorem Un.trans (a:Un fs ex H H1 h h1) (b:Un fs ex H1 H2 h1 h2):Un fs ex H H2 h h2 where
 keep:=λc ob q n hc hx=>b.keep c ob (a.keep c ob q n hc hx) (a.free c ob q n hx) hc hx
 slot:=λc ob q n hc hx=>by
  obtain⟨sl,e1⟩:=a.slot c ob q n hc hx;obtain⟨sl',e2⟩:=b.slot c _ e1 (a.free c ob q n hx) hc hx;exact⟨sl',e2⟩
 free:=λc ob q n hx=>by
  obtain⟨o',e1⟩:=a.there c ob q hx;exact b.free c o' e1 (a.free c ob q n hx) hx
 there:=λc ob q hx=>by
  obtain⟨o',e1⟩:=a.there c ob q hx;exact b.there c o' e1 hx
 tups:=λc xs q=>b.tups c xs (a.tups c xs q)
 Gd:=λc ob xs q=>b.Gd c ob xs (a.Gd c ob xs q)
 Gp:=λc ps q=>by
  obtain⟨m1,e1⟩:=a.Gp c ps q;obtain⟨m2,e2⟩:=b.Gp c _ e1;exact⟨m1++m2,by rw[e2,Array.append_assoc]⟩
theorem Un.kept (k:∀b u,h.get? b=some u->h'.get? b=some u):Un fs ex H H h h':=
 ⟨λb ob q _ _ _=>k b ob q,λb ob q _ _ _=>⟨ob.slots,k b ob q⟩,λ_ _ _ n _=>n,λb ob q _=>⟨ob,k b ob q⟩,λ_ _ q=>q,λ_ _ _ q=>q,λ_ ps q=>⟨#[],by rw[q];simp⟩⟩
theorem Un.refl:Un fs ex H H h h:=Un.kept λ_ _ q=>q
theorem Un.laid (k:∀b u,h.get? b=some u->h'.get? b=some u) (hp:h.objs.size<=a) (hn:H a=none):Un fs ex H (upd H a o) h h' where
 keep:=λb u q _ _ _=>k b u q
 slot:=λb u q _ _ _=>⟨u.slots,k b u q⟩
 free:=λb u q n _=>by rw[Bv (Qbz (QaD (Qbx q) hp))];exact n
 there:=λb u q _=>⟨u,k b u q⟩
 tups:=λb xs q=>by rw[Bv (Cg q hn)];exact q
 Gd:=λb u xs q=>by rw[Bv (Cg q hn)];exact q
 Gp:=λb ps q=>⟨#[],by rw[Bv (Cg q hn),q];simp⟩
theorem Un.write (mu:Mut (H x)) (he:e=x\/H e=some (.own x)) (k:∀b u,b≠e->h.get? b=some u->h'.get? b=some u) (heo:∃u,h'.get? e=some u):Un fs ex H (upd H x o) h h':=by
 have hx:∀b,H b=none->b≠x:=λb n z=>by subst z;rw[n] at mu;exact mu
 have hb:∀b,H b=none->b≠e:=λb n z=>by
  subst z;rcases he with r | r
  ·exact hx b n r
  ·rw[n] at r;cases r
 have hm:∀b u,H b=some u->¬Mut (some u)->b≠x:=λb u q nm z=>by subst z;rw[q] at mu;exact nm mu
 refine⟨λb u q n _ _=>k b u (hb b n) q,λb u q n _ _=>⟨u.slots,k b u (hb b n) q⟩,λb u q n _=>by rw[Bv (hx b n)];exact n,λb u q _=>?_,
  λb xs q=>by rw[Bv (hm b _ q λz=>z)];exact q,λb u xs q=>by rw[Bv (hm b _ q λz=>z)];exact q,λb ps q=>⟨#[],by rw[Bv (hm b _ q λz=>z),q];simp⟩⟩
 by_cases hbe:b=e
 ·subst hbe;exact heo
 ·exact⟨u,k b u hbe q⟩
theorem Un.mono (u:Un fs ex H H1 h h1) (hs:∀b∈fs,b∈fs') (hx:∀b∈ex,b∈ex'):Un fs' ex' H H1 h h1:=
 ⟨λb ob q n hb he=>u.keep b ob q n (λz=>hb (hs b z)) λz=>he (hx b z),λ_ _ q n _ he=>u.any q n λz=>he (hx _ z),λb ob q n he=>u.free b ob q n λz=>he (hx b z),λb ob q he=>u.there b ob q λz=>he (hx b z),u.tups,u.Gd,u.Gp⟩
end
def trk (h:Heap) (H:Hp):List Addr:=(List.range h.objs.size).filter λa=>(H a).isSome
def JN (h:Heap) (H:Hp):Heap:=PySem.W.hideAll h (trk h H)
theorem Vp (h:Heap) (H:Hp):(JN h H).objs.size=h.objs.size:=PySem.W.hideAll_size _ _
theorem Wx {h:Heap} {H:Hp} {b:Addr} {o:Obj} (e:h.get? b=some o) (n:H b=none):(JN h H).get? b=some o:=
 PySem.W.hideAll_get _ e λhm=>by
  have q:(H b).isSome=true:=(List.mem_filter.mp hm).2;rw[n] at q;simp at q
theorem X8 {h:Heap} {H:Hp} {b:Addr} {o:Obj} (e:(JN h H).get? b=some o):h.get? b=some o/\H b=none:=by
 have e':h.get? b=some o:=PySem.W.of_hideAll (trk h H) e;refine⟨e',?_⟩;cases q:H b with
 | none=>rfl
 | some x=>
  have hm:b∈trk h H:=List.mem_filter.mpr ⟨List.mem_range.mpr (Qbx e'),by simp[q]⟩;have z:(JN h H).get? b=none:=PySem.W.hideAll_none (trk h H) hm;rw[z] at e;cases e
def Yp (g h:Heap) (L:Addr):YC:=(List.range h.objs.size).filterMap λa=>if a=L\/(g.get? a).isSome=true then none else (h.get? a).map λo=>(a,o)
def rest (g h:Heap) (L d:Addr):YC:=(Yp g h L).filter λp=>decide (p.1≠d)
structure Mod (K:YD) (mg:YB) (base:Heap):Prop where
 kin:K.In base
 glob:base.Ns mainGlobals mg
 blt:∃mb,base.Ns builtinsNs mb/\∀x:Str,x≠"__name__"->mb x=bootBuiltins x
 nolimit:base.NoLimit
structure Cx where
 prog:Program
 w:World
 K:YD
 mg:YB
 base:Heap
 A:Around
 N:YF
 s₀ : Shared
 H₀ : Hp
 env:Env
 outer:List Env
 stack:List Env
 ex:List Addr
 fn:Str->Bool
 calm:Bool
 pn:YC
 xe:YA
def frs (l:List Env):List Addr:=l.filterMap (·.frame)
abbrev Cx.fs (X:Cx):List Addr:=frs X.outer
def Vis (sc:Scope) (x:Str):Prop:=sc.names.lookup x=some .local\/sc.names.lookup x=some .cell\/sc.names.lookup x=some .free
def Loc (sc:Scope) (x:Str):Prop:=sc.names.lookup x=some .local\/sc.names.lookup x=some .cell
def Look (env:Env) (h:Heap) (m:YB) (x:Str) (u:Value):Prop:=
 (env.kindOf x=some .local/\m x=some u)\/((env.kindOf x=some .cell\/env.kindOf x=some .free)/\∃c,env.cells.lookup x=some c/\h.IsCell c (some u))
structure Cx.Ok (X:Cx):Prop where
 mod:Mod X.K X.mg X.base
 kind:X.env.scope.kind=.function
 glob:X.env.globals=mainGlobals
 blt:X.env.builtins=builtinsNs
 above:X.s₀.heap.objs.size<=X.env.locals
 inj:∀x y c,X.env.cells.lookup x=some c->X.env.cells.lookup y=some c->x=y
 has:∀x,(X.env.kindOf x=some .cell\/X.env.kindOf x=some .free)->∃c,X.env.cells.lookup x=some c
 cab:∀x c,X.fn x=true->X.env.cells.lookup x=some c->X.s₀.heap.objs.size<=c
 hd:X.calm=true->X.A.handled=none
 frames:X.A.frames=some X.stack
 stk:X.stack=X.outer\/(X.stack=X.env::X.outer/\X.env.frame=some X.env.locals)
 exf:∀b∈X.ex,b≠X.env.locals/\∀x c,X.env.cells.lookup x=some c->c≠b
 bs:∀b o,X.base.get? b=some o->X.s₀.heap.get? b=some o/\X.H₀ b=none
 bsz:X.base.objs.size<=X.s₀.heap.objs.size
 M5:∀b o,X.base.get? b=some o->b∉X.ex
 Lr:∀b∈X.ex,b∉X.fs
 G4:X.s₀.heap.FunFrames X.base X.outer
 frf:∀b∈X.fs,X.H₀ b=none
structure Inv (X:Cx) (jb:YC) (U : List (Option V)) (H:Hp) (s:Shared):Prop where
 ok:X.Ok
 os:s.os=X.s₀.os
 bare:AllBare s.gens
 base:Un X.fs X.ex X.H₀ H X.s₀.heap s.heap
 loc:∃m,s.heap.Ns X.env.locals m/\∀(i:Nat) (x:Str) (v:V),X.N[i]?=some x->U[i]?=some (some v)->Vis X.env.scope x->∃u,RelV v u/\Look X.env s.heap m x u
 cell:∀x c,X.env.cells.lookup x=some c->∃v,s.heap.IsCell c v
 free:H X.env.locals=none
 GD:∀x c,X.env.cells.lookup x=some c->H c=none
 pin:∀p∈X.pn++jb,s.heap.get? p.1=some p.2/\H p.1=none/\p.1≠X.env.locals/\p.1∉X.fs/\∀v,p.2.data≠.cell v
 hok:HOk X.prog X.w H s.heap
 len:U.length=X.N.length
section
variable {X:Cx} {jb:YC} {U : List (Option V)} {H H':Hp} {s:Shared} {h':Heap}
theorem Cx.Ok.bD (ok:X.Ok) {b:Addr} {o:Obj} (e:X.base.get? b=some o):b∉X.fs:=λhb=>by
 have:=(ok.G4.mem hb).1;rw[e] at this;cases this
theorem Inv.bs (I:Inv X jb U H s):∀b o,X.base.get? b=some o->s.heap.get? b=some o/\H b=none:=λb o e=>
 ⟨I.base.keep b o (I.ok.bs b o e).1 (I.ok.bs b o e).2 (I.ok.bD e) (I.ok.M5 b o e),I.base.free b o (I.ok.bs b o e).1 (I.ok.bs b o e).2 (I.ok.M5 b o e)⟩
theorem Inv.bk (I:Inv X jb U H s):∀b o,X.base.get? b=some o->s.heap.get? b=some o:=λb o e=>(I.bs b o e).1
theorem Inv.mod (I:Inv X jb U H s):Mod X.K X.mg X.base:=I.ok.mod
theorem Inv.kIn (I:Inv X jb U H s):X.K.In s.heap:=I.ok.mod.kin.keeps I.bk
theorem Inv.nolimit (I:Inv X jb U H s):s.heap.NoLimit:=I.ok.mod.nolimit.keeps I.bk
theorem Inv.fr (I:Inv X jb U H s):∃m,Fr X.base X.env.locals s.heap m:=
 let ⟨m,hn,_⟩:=I.loc
 ⟨m,hn,I.bk,Qby I.ok.bsz I.ok.above⟩
theorem Inv.lt (I:Inv X jb U H s):X.env.locals < s.heap.objs.size:=let ⟨_,hn,_⟩:=I.loc;hn.lt
theorem Inv.sz (I:Inv X jb U H s):X.s₀.heap.objs.size<=s.heap.objs.size:=Qby I.ok.above (Nat.le_of_lt I.lt)
theorem Inv.Wn (I:Inv X jb U H s) {a:Addr} (h:s.heap.objs.size<=a):a∉X.fs:=λhb=>by
 obtain⟨_,o,ho,_⟩:=I.ok.G4.mem hb;exact absurd (QaD (Qbx ho) (Qby I.sz h)) (Qbt _)
theorem Inv.cne (I:Inv X jb U H s):∀x c,X.env.cells.lookup x=some c->c≠X.env.locals:=λx c e z=>by
 obtain⟨v,o,ho,hd⟩:=I.cell x c e;obtain⟨m,⟨o',es,ep,ho',hd',_⟩,_⟩:=I.loc;rw[z,ho'] at ho;cases ho;rw[hd'] at hd;cases hd
theorem Inv.G4 (I:Inv X jb U H s):s.heap.FunFrames X.base X.outer:=by
 have all:∀(l:List Env),(∀b∈frs l,b∈X.fs)->X.s₀.heap.FunFrames X.base l->s.heap.FunFrames X.base l:=by
  intro l
  induction l with
  | nil=>intro _ _;trivial
  | cons env r ih=>
   intro hs hl;obtain⟨hk,⟨L,o,hf,hn,ho,hd⟩,hr⟩:=hl;have hL:L∈X.fs:=hs L (by unfold frs;rw[List.filterMap_cons,hf];exact QaB);obtain⟨sl,e⟩:=I.base.slot L o ho (I.ok.frf L hL) hL λz=>I.ok.Lr L z hL;exact⟨hk,⟨L,_,hf,hn,e,hd⟩,ih (λb hb=>hs b (by unfold frs;rw[List.filterMap_cons,hf];exact Qas _ hb)) hr⟩
 exact all X.outer (λ_ hb=>hb) I.ok.G4
theorem Inv.stack (I:Inv X jb U H s):s.heap.FunFrames X.base X.stack:=by
 rcases I.ok.stk with e |⟨e,hf⟩
 ·rw[e];exact I.G4
 ·rw[e];obtain⟨m,hn,_⟩:=I.loc;refine .cons (by rw[I.ok.kind];decide) hf hn ?_ I.G4;exact Heap.get?_none_of_le (Qby I.ok.bsz I.ok.above)
theorem Inv.Pr (I:Inv X jb U H s):∀b∈frs X.stack,b∈X.env.locals::X.fs:=λb hb=>by
 rcases I.ok.stk with e |⟨e,hf⟩
 ·rw[e] at hb;exact Qas _ hb
 ·rw[e] at hb;unfold frs at hb;rw[List.filterMap_cons,hf] at hb;exact hb
theorem Inv.Rq (I:Inv X jb U H s):∀b∈frs X.stack,H b=none:=λb hb=>by
 rcases Qbs.mp (I.Pr b hb) with e | hb
 ·rw[e];exact I.free
 ·obtain⟨_,o,ho,_⟩:=I.ok.G4.mem hb;exact I.base.free b o ho (I.ok.frf b hb) λz=>I.ok.Lr b z hb
theorem Inv.step {g':Array GenState} {t':Nat} {d':Drawn} {ch:List Addr} (I:Inv X jb U H s)
  (hch:∀b∈ch,(b∈X.ex\/X.s₀.heap.objs.size<=b)/\b≠X.env.locals/\(∀x c,X.env.cells.lookup x=some c->c≠b)/\∀p∈X.pn++jb,p.1≠b)
  (keep:∀b o,b≠X.env.locals->b∉X.fs->b∉ch->s.heap.get? b=some o->H b=none->h'.get? b=some o)
  (slot:∀b o,b≠X.env.locals->b∈X.fs->b∉ch->s.heap.get? b=some o->H b=none->∃sl,h'.get? b=some { o with slots:=sl }) (free:∀b o,b∉ch->s.heap.get? b=some o->H b=none->H' b=none)
  (there:∀b o,b∉ch->s.heap.get? b=some o->∃o',h'.get? b=some o')
  (tups:∀b xs,H b=some (.tup xs)->H' b=some (.tup xs)) (Gd:∀b o u,H b=some (.frz o u)->H' b=some (.frz o u)) (Gp:∀b ps,H b=some (.tbl ps)->∃more,H' b=some (.tbl (ps++more)))
  (ns:∀m,s.heap.Ns X.env.locals m->h'.Ns X.env.locals m) (hok:HOk X.prog X.w H' h') (hg:AllBare g') :
  Inv X jb U H' { s with heap:=h',gens:=g',drawn:=d',toks:=t' }:=by
 have neL:∀b o,X.s₀.heap.get? b=some o->b≠X.env.locals:=λb o e=>Qbz (QaD (Qbx e) I.ok.above);have neC:∀b o,X.s₀.heap.get? b=some o->b∉X.ex->b∉ch:=λb o e hx hb=>by
  rcases (hch b hb).1 with z | z
  ·exact hx z
  ·exact absurd (QaD (Qbx e) z) (Qbt _)
 have cellK:∀x c,X.env.cells.lookup x=some c->∀v,s.heap.IsCell c v->h'.IsCell c v:=λx c e v ⟨o,ho,hd⟩=>by
  have nch:c∉ch:=λz=>(hch c z).2.2.1 x c e rfl;by_cases hc:c∈X.fs
  ·obtain⟨sl,q⟩:=slot c o (I.cne x c e) hc nch ho (I.GD x c e);exact⟨_,q,hd⟩
  ·exact⟨o,keep c o (I.cne x c e) hc nch ho (I.GD x c e),hd⟩
 refine⟨I.ok,I.os,hg,⟨λb o e n hb hx=>?_,λb o e n hb hx=>?_,λb o e n hx=>?_,λb o e hx=>?_,λb xs e=>tups b xs (I.base.tups b xs e),λb o xs e=>Gd b o xs (I.base.Gd b o xs e),λb ps e=>?_⟩,?_,λx c e=>?_,?_,λx c e=>?_,λp hp=>?_,hok,I.len⟩
 ·exact keep b o (neL b o e) hb (neC b o e hx) (I.base.keep b o e n hb hx) (I.base.free b o e n hx)
 ·obtain⟨sl,e1⟩:=I.base.slot b o e n hb hx;obtain⟨sl',e2⟩:=slot b _ (neL b o e) hb (neC b o e hx) e1 (I.base.free b o e n hx);exact⟨sl',e2⟩
 ·obtain⟨o',e1⟩:=I.base.there b o e hx;exact free b o' (neC b o e hx) e1 (I.base.free b o e n hx)
 ·obtain⟨o',e1⟩:=I.base.there b o e hx;exact there b o' (neC b o e hx) e1
 ·obtain⟨m1,e1⟩:=I.base.Gp b ps e;obtain⟨m2,e2⟩:=Gp b _ e1;exact⟨m1++m2,by rw[e2,Array.append_assoc]⟩
 ·obtain⟨m,hn,hl⟩:=I.loc;refine⟨m,ns m hn,λi x v e1 e2 e3=>?_⟩;obtain⟨u,r,l⟩:=hl i x v e1 e2 e3;refine⟨u,r,?_⟩;rcases l with l |⟨k,c,e,z⟩
  ·exact .inl l
  ·exact .inr ⟨k,c,e,cellK x c e _ z⟩
 ·obtain⟨v,z⟩:=I.cell x c e;exact⟨v,cellK x c e v z⟩
 ·obtain⟨m,⟨o,_,_,ho,_⟩,_⟩:=I.loc;exact free _ o (λz=>(hch _ z).2.1 rfl) ho I.free
 ·obtain⟨v,o,ho,hd⟩:=I.cell x c e;exact free c o (λz=>(hch c z).2.2.1 x c e rfl) ho (I.GD x c e)
 ·obtain⟨e,n,ne,nf,d⟩:=I.pin p hp;have nch:p.1∉ch:=λz=>(hch p.1 z).2.2.2 p hp rfl;exact⟨keep p.1 p.2 ne nf nch e n,free p.1 p.2 nch e n,ne,nf,d⟩
theorem Inv.un {t':Nat} (I:Inv X jb U H s) (u:Un X.fs [] H H' s.heap h') (hok:HOk X.prog X.w H' h'):Inv X jb U H' { s with heap:=h',toks:=t' }:=by
 obtain⟨m,⟨o,es,ep,ho,r⟩,_⟩:=id I.loc;obtain⟨sl,hL⟩:=u.any ho I.free (by simp);exact I.step (g':=s.gens) (d':=s.drawn) (ch:=[]) (λ_ z=>nomatch z) (λb o _ hb _ e n=>u.keep b o e n hb (by simp)) (λb o _ hb _ e n=>u.slot b o e n hb (by simp)) (λb o _ e n=>u.free b o e n (by simp)) (λb o _ e=>u.there b o e (by simp)) u.tups u.Gd u.Gp (λm' hm=>by
  obtain⟨o',es',ep',ho',r'⟩:=hm;rw[ho] at ho';cases ho';exact⟨_,es',ep',hL,r'⟩) hok I.bare
theorem Inv.call {g':Array GenState} {t':Nat} {d':Drawn} {ch:List Addr} (I:Inv X jb U H s) (u:Un (frs X.stack) ch H H' s.heap h') (hok:HOk X.prog X.w H' h') (hg:AllBare g')
  (hch:∀b∈ch,(b∈X.ex\/X.s₀.heap.objs.size<=b)/\b≠X.env.locals/\(∀x c,X.env.cells.lookup x=some c->c≠b)/\∀p∈X.pn++jb,p.1≠b) :
  Inv X jb U H' { s with heap:=h',gens:=g',drawn:=d',toks:=t' }:=by
 obtain⟨m,⟨o,es,ep,ho,r⟩,_⟩:=id I.loc;obtain⟨sl,hL⟩:=u.any ho I.free λz=>(hch _ z).2.1 rfl;exact I.step (ch:=ch) hch (λb o hL hb hc e n=>u.keep b o e n (λz=>(Qbs.mp (I.Pr b z)).elim hL hb) hc) (λb o _ _ hc e n=>u.any e n hc) (λb o hc e n=>u.free b o e n hc) (λb o hc e=>u.there b o e hc) u.tups u.Gd u.Gp (λm' hm=>by
  obtain⟨o',es',ep',ho',r'⟩:=hm;rw[ho] at ho';cases ho';exact⟨_,es',ep',hL,r'⟩) hok hg
theorem Inv.turned {t':Nat} {it:Addr} (I:Inv X jb U H s) (k:∀b o,b≠it->s.heap.get? b=some o->h'.get? b=some o) (hn:H it=none) (hL:it≠X.env.locals)
  (h1:it∈X.ex\/X.s₀.heap.objs.size<=it) (h2:∀x c,X.env.cells.lookup x=some c->c≠it) (h3:∀p∈X.pn++jb,p.1≠it):Inv X jb U H { s with heap:=h',toks:=t' }:=by
 have nit:∀b u,H b=some u->b≠it:=λb u e z=>by rw[z,hn] at e;cases e
 refine I.step (g':=s.gens) (d':=s.drawn) (ch:=[it]) (λb hb=>?_) (λb o _ _ hc e _=>k b o (λz=>hc (by simp[z])) e) (λb o _ _ hc e _=>⟨o.slots,k b o (λz=>hc (by simp[z])) e⟩) (λ_ _ _ _ n=>n)
  (λb o hc e=>⟨o,k b o (λz=>hc (by simp[z])) e⟩) (λ_ _ e=>e) (λ_ _ _ e=>e) (λb ps e=>⟨#[],by rw[e];simp⟩) (λm hm=>?_) (λb u e=>?_) I.bare
 ·have e:b=it:=by simpa using hb
  subst e;exact⟨h1,hL,h2,h3⟩
 ·obtain⟨o,es,ep,ho,r⟩:=hm;exact⟨o,es,ep,k _ o (Ne.symm hL) ho,r⟩
 ·refine (I.hok b u e).stay (λc v hc q=>k c v ?_ q) (λ_ q=>q) λ_ _ q=>q;rcases hc with z | z
  ·rw[z];exact nit b u e
  ·exact nit c _ z
theorem Inv.tok (I:Inv X jb U H s) (t:Nat):Inv X jb U H { s with toks:=t }:=I.un (h':=s.heap) (t':=t) Un.refl I.hok
theorem Inv.kept {t':Nat} (I:Inv X jb U H s) (k:∀b u,s.heap.get? b=some u->h'.get? b=some u):Inv X jb U H { s with heap:=h',toks:=t' }:=I.un (Un.kept k) (I.hok.kept k)
theorem Inv.laid {a:Addr} {o:HO} {t':Nat} (I:Inv X jb U H s) (k:∀b u,s.heap.get? b=some u->h'.get? b=some u) (hp:s.heap.objs.size<=a) (new:Cm X.prog X.w (upd H a o) h' a o) :
  Inv X jb U (upd H a o) { s with heap:=h',toks:=t' }:=I.un (Un.laid k hp (I.hok.fresh hp)) (I.hok.laid k hp new)
theorem Inv.write {x e:Addr} {o:HO} {t':Nat} (I:Inv X jb U H s) (mu:Mut (H x)) (he:e=x\/H e=some (.own x)) (k:∀b u,b≠e->s.heap.get? b=some u->h'.get? b=some u) (heo:∃u,h'.get? e=some u)
  (new:Cm X.prog X.w (upd H x o) h' x o):Inv X jb U (upd H x o) { s with heap:=h',toks:=t' }:=I.un (Un.write mu he k heo) (I.hok.write mu he k heo new)
theorem Inv.KQ {S7:YC} (I:Inv X jb U H s) (h:∀p∈S7,s.heap.get? p.1=some p.2/\H p.1=none/\p.1≠X.env.locals/\p.1∉X.fs/\∀v,p.2.data≠.cell v):Inv X S7 U H s:=
 ⟨I.ok,I.os,I.bare,I.base,I.loc,I.cell,I.free,I.GD,λp hp=>(Qbb.mp hp).elim (λz=>I.pin p (List.mem_append_left _ z)) (h p),I.hok,I.len⟩
theorem Qj {N:YF} (hN:N.Nodup) {i j:Nat} {x:Str} (a:N[i]?=some x) (b:N[j]?=some x):i=j:=by
 obtain⟨h1,e1⟩:=Qae.mp a;obtain⟨h2,e2⟩:=Qae.mp b;exact (List.getElem_inj hN).mp (e1.trans e2.symm)
theorem Uv {M:Model} {A:Around} {E:YA} {i:Nat} {x:Str} {v:V} {u:Value} {Q:YH} (I:Inv X jb U H s) (hN:X.N.Nodup) (hi:X.N[i]?=some x) (hx:Loc X.env.scope x) (r:RelV v u)
  (h:∀s',Inv X jb (U.set i (some v)) H s'->(∃a,Heap.SameBut a s.heap s'.heap/\(a=X.env.locals\/X.env.cells.lookup x=some a))->Q () s') (hf:X.fn x=true\/X.env.scope.names.lookup x=some .local:=by first | exact .inl rfl | exact .inr rfl | assumption):wpAny M A (storeName X.env x u) Q E s:=by
 obtain⟨m,hn,hl⟩:=id I.loc;have hcls:(X.env.scope.kind == .class || (X.env.scope.kind == .module&&X.env.locals != X.env.globals))=false:=by rw[I.ok.kind];rfl
 have hiσ : i < U.length:=by rw[I.len];exact (Qae.mp hi).1
 have cne:=I.cne;have tracked:∀{a:Addr} {h':Heap},(∃o,s.heap.get? a=some o/\H a=none)->Heap.SameBut a s.heap h'->HOk X.prog X.w H h':=λ{a h'} ha hs b ob e=>by
  obtain⟨_,_,hfree⟩:=ha;refine (I.hok b ob e).stay (λc w' hc q=>(hs.2 c ?_).trans q) (λ_ q=>q) λ_ _ q=>q;rintro rfl;rcases hc with rfl | hc
  ·rw[hfree] at e;cases e
  ·rw[hfree] at hc;cases hc
 rcases hx with hk | hk
 ·refine wpAny_storeName_local hk hn (λh' hn' hs=>?_) hcls;obtain⟨oL,_,_,hoL,_⟩:=id hn;refine h _ ⟨I.ok,I.os,I.bare,⟨λb o e n hb hx=>?_,λb o e n hb hx=>?_,I.base.free,λb o e hx=>?_,I.base.tups,I.base.Gd,I.base.Gp⟩,⟨_,hn',λj y v' e1 e2 e3=>?_⟩,λy c e=>?_,I.free,I.GD,λp hp=>?_,tracked ⟨oL,hoL,I.free⟩ hs,by simpa using I.len⟩ ⟨_,hs,.inl rfl⟩
  ·exact (hs.2 b (Qbz (QaD (Qbx e) I.ok.above))).trans (I.base.keep b o e n hb hx)
  ·obtain⟨sl,e1⟩:=I.base.slot b o e n hb hx;exact⟨sl,(hs.2 b (Qbz (QaD (Qbx e) I.ok.above))).trans e1⟩
  ·obtain⟨o',e1⟩:=I.base.there b o e hx;exact⟨o',(hs.2 b (Qbz (QaD (Qbx e) I.ok.above))).trans e1⟩
  ·by_cases hj:j=i
   ·subst hj;rw[hi] at e1;cases e1;rw[List.getElem?_set_self hiσ] at e2;cases e2;exact⟨u,r,.inl ⟨hk,by simp⟩⟩
   ·rw[List.getElem?_set_ne (Ne.symm hj)] at e2;obtain⟨u',r',q⟩:=hl j y v' e1 e2 e3;refine⟨u',r',?_⟩;rcases q with⟨k,e⟩|⟨k,c,e,z⟩
    ·refine .inl ⟨k,?_⟩;have:y≠x:=λe=>hj (Qj hN e1 (e ▸ hi));simp[this,e]
    ·exact .inr ⟨k,c,e,z.sameBut hs (cne y c e)⟩
  ·obtain⟨w',z⟩:=I.cell y c e;exact⟨w',z.sameBut hs (cne y c e)⟩
  ·obtain⟨e,n,ne,nf,d⟩:=I.pin p hp;exact⟨(hs.2 p.1 ne).trans e,n,ne,nf,d⟩
 ·have hfn:X.fn x=true:=by
   rcases hf with z | z
   ·exact z
   ·rw[z] at hk;cases hk
  obtain⟨c,hc⟩:=I.ok.has x (.inl hk);obtain⟨w',z⟩:=I.cell x c hc;refine wpAny_storeName_cell I.ok.kind hk hc z (λh' hc' hs=>?_);obtain⟨oc,hoc,dG⟩:=id z;refine h { s with heap:=h' } ⟨I.ok,I.os,I.bare,⟨λb o e n hb hx=>?_,λb o e n hb hx=>?_,I.base.free,λb o e hx=>?_,I.base.tups,I.base.Gd,I.base.Gp⟩,⟨m,hn.sameBut hs (Ne.symm (cne x c hc)),λj y v' e1 e2 e3=>?_⟩,λy c' e=>?_,I.free,I.GD,λp hp=>?_,tracked ⟨oc,hoc,I.GD x c hc⟩ hs,by simpa using I.len⟩ ⟨c,hs,.inr hc⟩
  ·exact (hs.2 b (Qbz (QaD (Qbx e) (I.ok.cab x c hfn hc)))).trans (I.base.keep b o e n hb hx)
  ·obtain⟨sl,e1⟩:=I.base.slot b o e n hb hx;exact⟨sl,(hs.2 b (Qbz (QaD (Qbx e) (I.ok.cab x c hfn hc)))).trans e1⟩
  ·obtain⟨o',e1⟩:=I.base.there b o e hx;exact⟨o',(hs.2 b (Qbz (QaD (Qbx e) (I.ok.cab x c hfn hc)))).trans e1⟩
  ·by_cases hj:j=i
   ·subst hj;rw[hi] at e1;cases e1;rw[List.getElem?_set_self hiσ] at e2;cases e2;exact⟨u,r,.inr ⟨.inl hk,c,hc,hc'⟩⟩
   ·rw[List.getElem?_set_ne (Ne.symm hj)] at e2;obtain⟨u',r',q⟩:=hl j y v' e1 e2 e3;refine⟨u',r',?_⟩;rcases q with q |⟨k,c',e,z'⟩
    ·exact .inl q
    ·refine .inr ⟨k,c',e,z'.sameBut hs ?_⟩;rintro rfl;exact hj (Qj hN e1 (I.ok.inj _ _ _ e hc ▸ hi))
  ·by_cases hcc:c'=c
   ·subst hcc;exact⟨_,hc'⟩
   ·obtain⟨w2,z2⟩:=I.cell y c' e;exact⟨w2,z2.sameBut hs hcc⟩
  ·obtain⟨e,n,ne,nf,d⟩:=I.pin p hp;refine⟨(hs.2 p.1 ?_).trans e,n,ne,nf,d⟩;intro q;rw[q,hoc] at e;have q':oc=p.2:=Qbc e;exact d w' (by rw[<-q'];exact dG)
theorem Ga {M:Model} {A:Around} {E:YA} {i:Nat} {x:Str} {v:V} {u:Value} {Q:YH} (I:Inv X jb U H s) (hN:X.N.Nodup) (hi:X.N[i]?=some x) (hx:Loc X.env.scope x) (r:RelV v u)
  (h:∀s',Inv X jb (U.set i (some v)) H s'->Q () s') (hf:X.fn x=true\/X.env.scope.names.lookup x=some .local:=by first | exact .inl rfl | exact .inr rfl | assumption):wpAny M A (storeName X.env x u) Q E s:=
 Uv I hN hi hx r (λs' I' _=>h s' I') hf
theorem Inv.call' {s':Shared} {ch:List Addr} (I:Inv X jb U H s) (ho:s'.os=s.os) (u:Un (frs X.stack) ch H H' s.heap s'.heap) (hok:HOk X.prog X.w H' s'.heap) (hg:AllBare s'.gens)
  (hch:∀b∈ch,(b∈X.ex\/X.s₀.heap.objs.size<=b)/\b≠X.env.locals/\(∀x c,X.env.cells.lookup x=some c->c≠b)/\∀p∈X.pn++jb,p.1≠b):Inv X jb U H' s':=by
 obtain⟨h',g',d',t',o'⟩:=s';have e:o'=s.os:=ho;subst e;exact I.call (g':=g') (t':=t') (d':=d') u hok hg hch
end
abbrev XK:=Value->Option Addr->Hp->Prop
abbrev St:=List (Option V)
abbrev VK:=V->Hp->Prop
abbrev TE:=St->Hp->VK->Prop
abbrev TT:=St->Hp->(Bool->Hp->Prop)->Prop
abbrev TA:=St->Hp->(YG->Hp->Prop)->Prop
structure Ends where
 nx:St->Hp->Prop
 rt:VK
 bk:St->Hp->Prop:=λ_ _=>False
 ct:St->Hp->Prop:=λ_ _=>False
abbrev YO:=St->Hp->Prop
abbrev TS:=Ends->YO
def EP (X:Cx) (jb:YC) (U : St) (Q:VK) (u:Value) (s':Shared):Prop:=∃v H',Inv X jb U H' s'/\RelV v u/\Q v H'
def TP (X:Cx) (jb:YC) (U : St) (Q:Bool->Hp->Prop) (b:Bool) (s':Shared):Prop:=∃H',Inv X jb U H' s'/\Q b H'
def AP (X:Cx) (jb:YC) (U : St) (Q:YG->Hp->Prop) (us:YE) (s':Shared):Prop:=∃vs H',Inv X jb U H' s'/\Vals vs us/\Q vs H'
def SP (X:Cx) (jb:YC) (D:Ends) (f:Flow) (s':Shared):Prop:=
 match f with
 | .next=>∃ σ' H',Inv X jb σ' H' s'/\D.nx σ' H'
 | .brk=>∃ σ' H',Inv X jb σ' H' s'/\D.bk σ' H'
 | .cont=>∃ σ' H',Inv X jb σ' H' s'/\D.ct σ' H'
 | .ret u=>∃v σ' H',Inv X jb σ' H' s'/\RelV v u/\D.rt v H'
def PE (X:Cx) (e:Expr) (t:TE):Prop:=
 ∀(jb:YC) (s:Shared) (U : St) (H:Hp) (Q:VK),Inv X jb U H s->t U H Q->wpAny (model X.prog X.w) X.A (eval e X.env) (EP X jb U Q) X.xe s
def PT (X:Cx) (e:Expr) (t:TT):Prop:=
 ∀(jb:YC) (s:Shared) (U : St) (H:Hp) (Q:Bool->Hp->Prop),Inv X jb U H s->t U H Q->wpAny (model X.prog X.w) X.A (isTrue e X.env (eval e X.env)) (TP X jb U Q) X.xe s
def PW (X:Cx) (e:Expr) (t:TT):Prop:=
 ∀(whole:Sem Value) (jb:YC) (s:Shared) (U : St) (H:Hp) (Q:Bool->Hp->Prop),Inv X jb U H s->t U H Q->wpAny (model X.prog X.w) X.A (isTrue e X.env whole) (TP X jb U Q) X.xe s
theorem PW.pt {X:Cx} {e:Expr} {t:TT} (h:PW X e t):PT X e t:=h _
def PA (X:Cx) (es:YJ) (t:TA):Prop:=
 ∀(pos:Pos) (jb:YC) (s:Shared) (U : St) (H:Hp) (Q:YG->Hp->Prop),Inv X jb U H s->t U H Q->wpAny (model X.prog X.w) X.A (spliced (backTo pos (starEach es X.env))) (AP X jb U Q) X.xe s
def PS (X:Cx) (st:Stmt) (t:TS):Prop:=
 ∀(jb:YC) (s:Shared) (U : St) (H:Hp) (D:Ends),Inv X jb U H s->t D U H->wpAny (model X.prog X.w) X.A (exec st X.env) (SP X jb D) X.xe s
def PSs (X:Cx) (st:List Stmt) (t:TS):Prop:=
 ∀(jb:YC) (s:Shared) (U : St) (H:Hp) (D:Ends),Inv X jb U H s->t D U H->wpAny (model X.prog X.w) X.A (execs st X.env) (SP X jb D) X.xe s
theorem thn {α : Type} {t:Sem α} {Q Q':α->Shared->Prop} {M:Model} {A:Around} {E:YA} {s:Shared} (h:wpAny M A t Q E s) (hQ:∀a s,Q a s->Q' a s):wpAny M A t Q' E s:=QbG h hQ λ_ _ x=>x
section
variable {X:Cx}
theorem bin {a b:Expr} {ta tb:TE} (ha:PE X a ta) (hb:PE X b tb) {jb:YC} {s:Shared} {U : St} {H:Hp} {R:V->V->Hp->Prop} (I:Inv X jb U H s) (h:ta U H λx H1=>tb U H1 λy H2=>R x y H2)
  {α : Type} {Q:α->Shared->Prop} {f:Value->Value->Sem α}
  (hf:∀v u s2 x y H2,Inv X jb U H2 s2->RelV x v->RelV y u->R x y H2->wpAny (model X.prog X.w) X.A (f v u) Q X.xe s2) :
  wpAny (model X.prog X.w) X.A (eval a X.env) (λv s₁=>wpAny (model X.prog X.w) X.A (eval b X.env) (λu s₂=>wpAny (model X.prog X.w) X.A (f v u) Q X.xe s₂) X.xe s₁) X.xe s:=by
 refine thn (ha jb s U H _ I h) λv s1 zz=>?_;obtain⟨x,H1,I1,r1,q1⟩:=zz;refine thn (hb jb s1 U H1 _ I1 q1) λu s2 zz=>?_;obtain⟨y,H2,I2,r2,q2⟩:=zz;exact hf v u s2 x y H2 I2 r1 r2 q2
def Yz (i:Nat):TE:=fun U H Q=>∃v,U[i]?=some (some v)/\Q v H
def tC (v:V):TE:=λ_ H Q=>Q v H
theorem Zb {i:Nat} {x:Str} {pos:Pos} (hN:X.N[i]?=some x) (hv:Vis X.env.scope x) (hd:(x == ("__debug__":Str))=false:=by decide) (hcd:(x == ("__classdict__":Str))=false:=by decide):PE X (.Name x pos) (Yz i):=by
 intro jb s U H Q I h;obtain⟨v,e,h⟩:=h;obtain⟨m,hn,hl⟩:=I.loc;obtain⟨u,r,l⟩:=hl i x v hN e hv;have fin:EP X jb U Q u s:=⟨v,H,I,r,h⟩;rcases l with⟨hk,hm⟩|⟨hk,c,hc,hcell⟩
 ·exact wpAny_Name (wpAny_loadName_local I.ok.kind hk hn hm fin) hd
 ·rcases hk with hk | hk
  ·exact wpAny_Name (wpAny_loadName_cell I.ok.kind hk hc hcell fin) hd
  ·exact wpAny_Name (wpAny_loadName_free I.ok.kind hk hc hcell fin hcd) hd
theorem Ab {i j pos}:PE X (.Constant (.int i) j pos) (tC (.int i)):=λ_ _ _ H _ I h=>wpAny_Constant_int ⟨.int i,H,I.tok _,⟨_,rfl⟩,h⟩
theorem Hx {b j pos}:PE X (.Constant (.bool b) j pos) (tC (.bl b)):=λ_ _ _ H _ I h=>Constant_bool ⟨.bl b,H,I,rfl,h⟩
theorem Zc {j pos}:PE X (.Constant .none j pos) (tC .non):=λ_ _ _ H _ I h=>Constant_none ⟨.non,H,I,rfl,h⟩
theorem Aj {x j pos}:PE X (.Constant (.str x) j pos) (tC (.str x)):=λ_ _ _ H _ I h=>Calls.Constant_str ⟨.str x,H,I.tok _,⟨_,rfl⟩,h⟩
def Gl (X:Cx) (x:Str):Prop:=X.env.kindOf x=some .globalImplicit
theorem RN {E:YA} {jb:YC} {s:Shared} {U : St} {H:Hp} {x:Str} {u:Value} {pos:Pos} {Q:YA} (I:Inv X jb U H s) (hg:Gl X x) (hm:X.mg x=some u) (h:Q u s)
  (hd:(x == ("__debug__":Str))=false:=by decide):wpAny (model X.prog X.w) X.A (eval (.Name x pos) X.env) Q E s:=
 Calls.Name_function_global I.ok.kind hg (Calls.loadGlobal_global (by rw[I.ok.glob];exact I.mod.glob.keeps I.bk) hm h) hd
theorem Ms {E:YA} {jb:YC} {s:Shared} {U : St} {H:Hp} {x:Str} {u:Value} {pos:Pos} {Q:YA} (I:Inv X jb U H s) (hg:Gl X x) (hm:X.mg x=none) (hv:bootBuiltins x=some u) (h:Q u s)
  (hn:x≠"__name__":=by decide) (hd:(x == ("__debug__":Str))=false:=by decide):wpAny (model X.prog X.w) X.A (eval (.Name x pos) X.env) Q E s:=by
 obtain⟨mb,h1,h2⟩:=I.mod.blt;exact Calls.Name_function_global I.ok.kind hg (Calls.loadGlobal_builtin (by rw[I.ok.glob];exact I.mod.glob.keeps I.bk) hm (by rw[I.ok.blt];exact h1.keeps I.bk) ((h2 x hn).trans hv) h) hd
theorem XM {x:Str} {v:V} {u:Value} {pos:Pos} (hg:Gl X x) (hm:X.mg x=some u) (r:RelV v u) (hd:(x == ("__debug__":Str))=false:=by decide):PE X (.Name x pos) (tC v):=
 λ_ _ _ H _ I h=>RN I hg hm ⟨v,H,I,r,h⟩ hd
theorem Fy {x:Str} {v:V} {u:Value} {pos:Pos} (hg:Gl X x) (hm:X.mg x=none) (hv:bootBuiltins x=some u) (r:RelV v u) (hn:x≠"__name__":=by decide) (hd:(x == ("__debug__":Str))=false:=by decide):PE X (.Name x pos) (tC v):=
 λ_ _ _ H _ I h=>Ms I hg hm hv ⟨v,H,I,r,h⟩ hn hd
variable {a b:Expr} {ta tb:TE} {pos:Pos}
def PC (X:Cx) (op:CmpOp) (a b:Expr) (t:TE):Prop:=
 ∀(jb:YC) (s:Shared) (U : St) (H:Hp) (Q:VK),Inv X jb U H s->t U H Q ->
  wpAny (model X.prog X.w) X.A (eval a X.env) (λv s₁=>wpAny (model X.prog X.w) X.A (eval b X.env) (λu s₂=>wpAny (model X.prog X.w) X.A (compareOp op v u) (EP X jb U Q) X.xe s₂) X.xe s₁) X.xe s
theorem Wo (b:Expr) {op:CmpOp} (h:op≠.In) (h2:op≠.NotIn):behindInMarks op b=false:=by
 have e1:(op == CmpOp.In)=false:=by cases op <;> first | rfl | exact absurd rfl h
 have e2:(op == CmpOp.NotIn)=false:=by cases op <;> first | rfl | exact absurd rfl h2
 cases b <;> simp[behindInMarks,e1,e2]
def tB (t:TE):TT:=fun U H Q=>t U H λx H1=>∃c,x=.bl c/\Q c H1
theorem iu {op:CmpOp} {t:TE} (h:PC X op a b t) (h1:behindInMarks op b=false:=by first | exact Wo _ (by decide) (by decide) | rfl):PT X (.Compare a [op] [b] pos) (tB t):=by
 intro jb s U H Q I hw;refine wpAny_isTrue_Compare1 (thn (h jb s U H _ I hw) λv s1 h1=>thn h1 λu s2 h2=>thn h2 λc s3 zz=>?_) h1;obtain⟨x,H1,I1,r1,q1⟩:=zz;obtain⟨d,rfl,q⟩:=q1;cases r1;exact QaN ⟨H1,I1,q⟩
theorem Dk {e:Expr} {t:TE} (h:PE X e t) (he:∀whole,isTrue e X.env whole=(do let v <-whole;standAt e.pos;holding [v] (truthy v)):=by intro _;rfl):PT X e (tB t):=by
 intro jb s U H Q I hw;refine isTrue_plain (thn (h jb s U H _ I hw) λv s1 zz=>?_) (he _);obtain⟨x,H1,I1,r1,q1⟩:=zz;obtain⟨d,rfl,q⟩:=q1;cases r1;exact QaN ⟨H1,I1,q⟩
variable {tA tB':TT} {rest:YJ}
def aZ (t u:TT):TT:=fun U H Q=>t U H λc H1=>if c=true then u U H1 Q else Q false H1
def tOr (t u:TT):TT:=fun U H Q=>t U H λc H1=>if c=true then Q true H1 else u U H1 Q
def aV (t:TT):TT:=fun U H Q=>t U H λc H1=>Q (!c) H1
theorem KJ (ha:PT X a tA):PW X (.BoolOp .And [a] pos) tA:=by
 intro wh jb s U H Q I h;refine isTrue_and (thn (ha jb s U H Q I h) λc s1 e=>?_);cases c with
 | true=>exact isTrue_and_nil e
 | false=>exact e
theorem Ju (ha:PT X a tA):PW X (.BoolOp .Or [a] pos) tA:=by
 intro wh jb s U H Q I h;refine isTrue_or (thn (ha jb s U H Q I h) λc s1 e=>?_);cases c with
 | false=>exact isTrue_or_nil e
 | true=>exact e
theorem Mj (ha:PT X a tA) (hb:PW X (.BoolOp .And (b::rest) pos) tB'):PW X (.BoolOp .And (a::b::rest) pos) (aZ tA tB'):=by
 intro wh jb s U H Q I h;refine isTrue_and (thn (ha jb s U H _ I h) λc s1 zz=>?_);obtain⟨H1,I1,q1⟩:=zz;cases c with
 | true=>exact hb wh jb s1 U H1 Q I1 q1
 | false=>exact⟨H1,I1,q1⟩
theorem JK (ha:PT X a tA) (hb:PW X (.BoolOp .Or (b::rest) pos) tB'):PW X (.BoolOp .Or (a::b::rest) pos) (tOr tA tB'):=by
 intro wh jb s U H Q I h;refine isTrue_or (thn (ha jb s U H _ I h) λc s1 zz=>?_);obtain⟨H1,I1,q1⟩:=zz;cases c with
 | true=>exact⟨H1,I1,q1⟩
 | false=>exact hb wh jb s1 U H1 Q I1 q1
theorem Fb (ha:PT X a tA):PT X (.UnaryOp .Not a pos) (aV tA):=by
 intro jb s U H Q I h;exact isTrue_not (ha jb s U H (λc H1=>Q (!c) H1) I h)
def Z8 (ta tb:TE):TE:=fun U H Q=>ta U H λx H1=>∃c,x=.bl c/\if c=true then tb U H1 Q else Q (.bl false) H1
def aU (ta tb:TE):TE:=fun U H Q=>ta U H λx H1=>∃c,x=.bl c/\if c=true then Q (.bl true) H1 else tb U H1 Q
def Z5 (ta:TE):TE:=fun U H Q=>ta U H λx H1=>∃c,x=.bl c/\Q (.bl (!c)) H1
theorem DP {op} {t:TE} (h:PE X a t):PE X (.BoolOp op [a] pos) t:=λjb s U H Q I hw=>BoolOp_one (h jb s U H Q I hw)
theorem Dm (ha:PE X a ta) (hb:PE X (.BoolOp .And (b::rest) pos) tb):PE X (.BoolOp .And (a::b::rest) pos) (Z8 ta tb):=by
 intro jb s U H Q I h;refine BoolOp_and (thn (ha jb s U H _ I h) λv s1 zz=>?_);obtain⟨x,H1,I1,r1,q1⟩:=zz;obtain⟨c,rfl,q1⟩:=q1;cases r1;refine QaN ?_;cases c with
 | true=>exact hb jb s1 U H1 Q I1 q1
 | false=>exact⟨.bl false,H1,I1,rfl,q1⟩
theorem aq (ha:PE X a ta) (hb:PE X (.BoolOp .Or (b::rest) pos) tb):PE X (.BoolOp .Or (a::b::rest) pos) (aU ta tb):=by
 intro jb s U H Q I h;refine BoolOp_or (thn (ha jb s U H _ I h) λv s1 zz=>?_);obtain⟨x,H1,I1,r1,q1⟩:=zz;obtain⟨c,rfl,q1⟩:=q1;cases r1;refine QaN ?_;cases c with
 | false=>exact hb jb s1 U H1 Q I1 q1
 | true=>exact⟨.bl true,H1,I1,rfl,q1⟩
theorem Va (ha:PE X a ta):PE X (.UnaryOp .Not a pos) (Z5 ta):=by
 intro jb s U H Q I h;refine UnaryOp_ (thn (ha jb s U H _ I h) λv s1 zz=>?_);obtain⟨x,H1,I1,r1,q1⟩:=zz;obtain⟨c,rfl,q1⟩:=q1;cases r1;exact not_of (QaN ⟨.bl (!c),H1,I1,rq,q1⟩)
def tIf (t:TT) (ta tb:TE):TE:=fun U H Q=>t U H λc H1=>if c=true then ta U H1 Q else tb U H1 Q
theorem Wg {c:Expr} (hc:PT X c tA) (ha:PE X a ta) (hb:PE X b tb):PE X (.IfExp c a b pos) (tIf tA ta tb):=by
 intro jb s U H Q I h;refine wpAny_IfExp (thn (hc jb s U H _ I h) λd s1 zz=>?_);obtain⟨H1,I1,q1⟩:=zz;cases d with
 | true=>exact ha jb s1 U H1 Q I1 q1
 | false=>exact hb jb s1 U H1 Q I1 q1
end
def SqL (K:YD) (H:Hp) (a:Addr) (xs:YG):Prop:=
 Rd H a (.lst xs) \/
  ∃(o:Obj) (its:Array Value) (n:Nat),K.lookup a=some o/\o.cls=.type "list"/\o.dict=none/\o.data=.seq its n/\its.size<=sizeLine/\Vals xs its.toList
def SqT (K:YD) (H:Hp) (a:Addr) (xs:YG):Prop:=
 Rd H a (.tup xs) \/
  ∃(o:Obj) (its:Array Value) (n:Nat),K.lookup a=some o/\o.cls=.type "tuple"/\o.data=.seq its n/\its.size<=sizeLine/\Vals xs its.toList
def gY:Value->Option V
 | .none=>some .non
 | .bool b=>some (.bl b)
 | .int i _=>some (.int i)
 | .str x _=>some (.str x)
 | .bytes b _=>some (.byt b)
 | .float b _=>some (.flt b)
 | .ref a=>some (.ref a)
 | .type n=>some (.ty n)
 | _=>none
theorem RelV.abs {x:V} {u:Value} (r:RelV x u):gY u=some x:=by
 cases x with
 | non=>cases r;rfl
 | bl _=>cases r;rfl
 | int _=>obtain⟨t,rfl⟩:=r;rfl
 | str _=>obtain⟨t,rfl⟩:=r;rfl
 | byt _=>obtain⟨t,rfl⟩:=r;rfl
 | flt _=>obtain⟨t,rfl⟩:=r;rfl
 | ref _=>cases r;rfl
 | ty _=>cases r;rfl
theorem RelV.inj {x y:V} {u:Value} (r:RelV x u) (q:RelV y u):x=y:=Qbc (r.abs.symm.trans q.abs)
theorem Vals.inj:∀{xs ys:YG} {us:YE},Vals xs us->Vals ys us->xs=ys
 | _,_,_,.nil,.nil=>rfl
 | _,_,_,.cons r t,.cons r' t'=>by rw[r.inj r',Vals.inj t t']
section
variable {X:Cx} {jb:YC} {U : St} {H:Hp} {s:Shared} {a:Addr} {xs ys:YG}
theorem SqL.of {K:YD} (h:H a=some (.lst xs)):SqL K H a xs:=.inl (.inl h)
theorem SqT.of {K:YD} (h:H a=some (.tup xs)):SqT K H a xs:=.inl (.inl h)
theorem Inv.list (I:Inv X jb U H s) (h:SqL X.K H a xs):∃its:YE,Vals xs its/\PlainL s.heap a its.toArray/\xs.length<=sizeLine:=by
 rcases h with h |⟨o,its,n,hk,hc,hd,hs,hz,r⟩
 ·obtain⟨z,its,n,r,e⟩:=h.ok I.hok;exact⟨its,r,⟨_,n,e,rq,rq,rq⟩,z⟩
 ·refine⟨its.toList,r,⟨o,n,I.kIn a o hk,hc,hd,by simpa using hs⟩,?_⟩;have e:=r.length;simp only[Qay] at e;omega
theorem Inv.tuple (I:Inv X jb U H s) (h:SqT X.K H a xs):∃its:YE,Vals xs its/\IsTup s.heap a its.toArray/\xs.length<=sizeLine:=by
 rcases h with h |⟨o,its,n,hk,hc,hs,hz,r⟩
 ·obtain⟨z,its,r,p⟩:=h.ok I.hok;exact⟨its,r,p,z⟩
 ·refine⟨its.toList,r,⟨o,I.kIn a o hk,hc,n,by simpa using hs⟩,?_⟩;have e:=r.length;simp only[Qay] at e;omega
theorem Inv.Wv (I:Inv X jb U H s) (h:SqL X.K H a xs) (h':SqL X.K H a ys):xs=ys:=by
 obtain⟨its,r,⟨o,n,e,_,_,d⟩,_⟩:=I.list h;obtain⟨its',r',⟨o',n',e',_,_,d'⟩,_⟩:=I.list h';rw[e] at e';cases e';rw[d] at d';injection d' with d1 _;have:its=its':=by simpa using congrArg Array.toList d1
 subst this;exact r.inj r'
theorem Inv.Ur (I:Inv X jb U H s) (h:SqT X.K H a xs) (h':SqT X.K H a ys):xs=ys:=by
 obtain⟨its,r,⟨o,e,_,n,d⟩,_⟩:=I.tuple h;obtain⟨its',r',⟨o',e',_,n',d'⟩,_⟩:=I.tuple h';rw[e] at e';cases e';rw[d] at d';injection d' with d1 _;have:its=its':=by simpa using congrArg Array.toList d1
 subst this;exact r.inj r'
end
abbrev Cx.wish (X:Cx) (E:YA):Cx:={ X with xe:=E }
abbrev Cx.nox (X:Cx):Cx:=X.wish λ_ _=>False
theorem Cx.Ok.wish {X:Cx} (ok:X.Ok) (E:YA):(X.wish E).Ok:=
 ⟨ok.mod,ok.kind,ok.glob,ok.blt,ok.above,ok.inj,ok.has,ok.cab,ok.hd,ok.frames,ok.stk,ok.exf,ok.bs,ok.bsz,ok.M5,ok.Lr,ok.G4,ok.frf⟩
theorem Cx.Ok.Ew {X:Cx} {E:YA} (ok:(X.wish E).Ok):X.Ok:=
 ⟨ok.mod,ok.kind,ok.glob,ok.blt,ok.above,ok.inj,ok.has,ok.cab,ok.hd,ok.frames,ok.stk,ok.exf,ok.bs,ok.bsz,ok.M5,ok.Lr,ok.G4,ok.frf⟩
section
variable {X:Cx} {jb:YC} {U : St} {H:Hp} {s:Shared} {E:YA}
theorem Inv.wish (I:Inv X jb U H s) (E:YA):Inv (X.wish E) jb U H s:=⟨I.ok.wish E,I.os,I.bare,I.base,I.loc,I.cell,I.free,I.GD,I.pin,I.hok,I.len⟩
theorem Inv.Ew (I:Inv (X.wish E) jb U H s):Inv X jb U H s:=⟨I.ok.Ew,I.os,I.bare,I.base,I.loc,I.cell,I.free,I.GD,I.pin,I.hok,I.len⟩
theorem SP.Ew {D:Ends} {f:Flow} {s':Shared} (h:SP (X.wish E) jb D f s'):SP X jb D f s':=by
 cases f with
 | next=>obtain⟨σ',H',I,q⟩:=h;exact⟨σ',H',I.Ew,q⟩
 | brk=>obtain⟨σ',H',I,q⟩:=h;exact⟨σ',H',I.Ew,q⟩
 | cont=>obtain⟨σ',H',I,q⟩:=h;exact⟨σ',H',I.Ew,q⟩
 | ret u=>obtain⟨v,σ',H',I,r,q⟩:=h;exact⟨v,σ',H',I.Ew,r,q⟩
theorem PE.nox {e:Expr} {t:TE} (h:PE X.nox e t):PE X e t:=λjb s U H Q I hw=>
 QbG (h jb s U H Q (I.wish _) hw) (λ_ _ ⟨v,H',I',r,q⟩=>⟨v,H',I'.Ew,r,q⟩) λ_ _ z=>False.elim z
theorem PT.nox {e:Expr} {t:TT} (h:PT X.nox e t):PT X e t:=λjb s U H Q I hw=>
 QbG (h jb s U H Q (I.wish _) hw) (λ_ _ ⟨H',I',q⟩=>⟨H',I'.Ew,q⟩) λ_ _ z=>False.elim z
theorem PSs.nox {st:List Stmt} {t:TS} (h:PSs X.nox st t):PSs X st t:=λjb s U H D I hw=>
 QbG (h jb s U H D (I.wish _) hw) (λ_ _ q=>q.Ew) λ_ _ z=>False.elim z
end
section
variable {X:Cx} {st:Stmt} {rest:List Stmt} {t u:TS} {e:Expr} {te:TE} {pos:Pos}
def Xa:TS:=λD U H=>D.nx U H
def Ak (t u:TS):TS:=λD U H=>t { D with nx:=u D } U H
theorem Ax:PSs X [] Xa:=λ_ _ U H _ I h=>wpAny_execs_nil ⟨U,H,I,h⟩
theorem Ad (h1:PS X st t) (h2:PSs X rest u):PSs X (st::rest) (Ak t u):=by
 intro jb s U H D I h;refine wpAny_execs_cons (thn (h1 jb s U H { D with nx:=u D } I h) λf s1 q=>?_);cases f with
 | next=>
  obtain⟨σ',H',I',q⟩:=q;exact h2 jb s1 σ' H' D I' q
 | ret v=>exact q
 | brk=>exact q
 | cont=>exact q
theorem Ag (h1:PS X st t):PSs X [st] t:=by
 intro jb s U H D I h;refine wpAny_execs_cons (thn (h1 jb s U H D I h) λf s1 q=>?_);cases f with
 | next=>exact wpAny_execs_nil q
 | ret v=>exact q
 | brk=>exact q
 | cont=>exact q
theorem Inv.quiet {jb:YC} {U : St} {H:Hp} {s:Shared} (I:Inv X jb U H s):interactive X.env=false:=by simp[interactive,I.ok.kind]
def Z6 (te:TE):TS:=λD U H=>te U H λ_ H1=>D.nx U H1
theorem KN (he:PE X e te) (hs:swapsWith e none pos.line X.env=pure false:=by rfl):PS X (.Expr e pos) (Z6 te):=by
 intro jb s U H D I h;refine wpAny_Expr_any (thn (he jb s U H _ I h) λv s1 zz=>?_) I.quiet hs;obtain⟨x,H1,I1,r1,q1⟩:=zz;exact⟨U,H1,I1,q1⟩
def aQ (te:TE):TS:=λD U H=>te U H D.rt
theorem Am (he:PE X e te):PS X (.Return (some e) pos) (aQ te):=by
 intro jb s U H D I h;refine wpAny_Return_some (thn (he jb s U H _ I h) λv s1 zz=>?_);obtain⟨x,H1,I1,r1,q1⟩:=zz;exact⟨x,U,H1,I1,r1,q1⟩
def Bu (c:TT) (t u:TS):TS:=λD U H=>c U H λb H1=>if b=true then t D U H1 else u D U H1
theorem Bh {c:Expr} {a b:List Stmt} {tc:TT} (hc:PT X c tc) (ha:PSs X a t) (hb:PSs X b u):PS X (.If c a b pos) (Bu tc t u):=by
 intro jb s U H D I h;refine wpAny_If (thn (hc jb s U H _ I h) λd s1 zz=>?_);obtain⟨H1,I1,q1⟩:=zz;cases d with
 | true=>exact ha jb s1 U H1 D I1 q1
 | false=>exact hb jb s1 U H1 D I1 q1
def YK:TS:=λ_ _ _=>False
theorem Li:PS X st YK:=λ_ _ _ _ _ _ h=>h.elim
end
abbrev TG:=V->St->Hp->(YO)->Prop
abbrev TGs:=YG->St->Hp->(YO)->Prop
def PG (X:Cx) (target:Expr) (t:TG):Prop:=
 ∀(jb:YC) (s:Shared) (U : St) (H:Hp) (v:V) (u:Value) (Q:YO),Inv X jb U H s->RelV v u->t v U H Q ->
  wpAny (model X.prog X.w) X.A (assign target X.env u) (λ_ s'=>∃ σ' H',Inv X jb σ' H' s'/\Q σ' H') X.xe s
def PGs (X:Cx) (ts:YJ) (t:TGs):Prop:=
 ∀(jb:YC) (s:Shared) (U : St) (H:Hp) (vs:YG) (us:YE) (Q:YO),Inv X jb U H s->Vals vs us->t vs U H Q ->
  wpAny (model X.prog X.w) X.A (assignInOrder ((assignEach ts X.env).map (·.2)) us) (λ_ s'=>∃ σ' H',Inv X jb σ' H' s'/\Q σ' H') X.xe s
abbrev WX:=V->V->V->Hp->(Hp->Prop)->Prop
def ZW (X:Cx) (t:WX):Prop:=
 ∀(jb:YC) (s:Shared) (U : St) (H:Hp) (o i v:V) (ov iv u:Value) (Q:Hp->Prop),Inv X jb U H s->RelV o ov->RelV i iv->RelV v u->t o i v H Q ->
  wpAny (model X.prog X.w) X.A (setItem ov iv u) (λ_ s'=>∃H',Inv X jb U H' s'/\Q H') X.xe s
abbrev TIp:=V->V->Hp->VK->Prop
def PIp (X:Cx) (op:Operator) (t:TIp):Prop:=
 ∀(jb:YC) (s:Shared) (U : St) (H:Hp) (x y:V) (v u:Value) (Q:VK),Inv X jb U H s->RelV x v->RelV y u->t x y H Q ->
  wpAny (model X.prog X.w) X.A (inplaceOp op v u) (EP X jb U Q) X.xe s
section
variable {X:Cx} {pos:Pos}
def FJ (i:Nat):TG:=λv U H Q=>Q (U.set i (some v)) H
theorem Az {i:Nat} {x:Str} (hN:X.N.Nodup) (hi:X.N[i]?=some x) (hx:Loc X.env.scope x) (hf:X.fn x=true\/X.env.scope.names.lookup x=some .local:=by first | exact .inl rfl | exact .inr rfl | assumption):PG X (.Name x pos) (FJ i):=by
 intro jb s U H v u Q I r h;exact wpAny_assign_Name (Ga I hN hi hx r (λs' I'=>⟨_,H,I',h⟩) hf)
def eO:TGs:=λvs U H Q=>vs=[]/\Q U H
def aJ (t:TG) (u:TGs):TGs:=λvs U H Q=>∃v r,vs=v::r/\t v U H fun σ' H'=>u r σ' H' Q
theorem Dy:PGs X [] eO:=by
 intro jb s U H vs us Q I r h;obtain⟨e,h⟩:=h;subst e;cases r;exact assignInOrder_nil ⟨U,H,I,h⟩
theorem Bk {e:Expr} {es:YJ} {t:TG} {u:TGs} (h1:PG X e t) (h2:PGs X es u)
  (hs:(assignEach (e::es) X.env).map (·.2)=assign e X.env::(assignEach es X.env).map (·.2):=by rfl):PGs X (e::es) (aJ t u):=by
 intro jb s U H vs us Q I r h;obtain⟨v,vr,e1,h⟩:=h;subst e1;cases r with
 | cons r rr=>
  rw[hs];refine assignInOrder_cons (thn (h1 jb s U H _ _ _ I r h) λ_ s1 zz=>?_);obtain⟨σ1,H1,I1,q1⟩:=zz;exact h2 jb s1 σ1 H1 _ _ Q I1 rr q1
def Zz (K:YD) (n:Nat) (t:TGs):TG:=λv U H Q=>∃a xs,v=.ref a/\SqT K H a xs/\xs.length=n/\t xs U H Q
theorem Ep {es:YJ} {k:Nat} {t:TGs} {n:Nat} (hc:X.calm=true) (h:PGs X es t)
  (hn:(assignEach es X.env).length=n:=by rfl) (hst:(assignEach es X.env).findIdx? (·.1)=none:=by rfl):PG X (.Tuple es k pos) (Zz X.K n t):=by
 intro jb s U H v u Q I r hw;obtain⟨a,xs,e1,hq,hl,hw⟩:=hw;subst e1;cases r;obtain⟨its,rv,ht,hz⟩:=I.tuple hq;refine assign_Tuple_tuple (I.ok.hd hc) ht (by simp[hn,<-hl,rv.length]) hst λh' hx=>?_;have I1:Inv X jb U H { s with heap:=h' }:=I.kept (t':=s.toks) λb o e=>hx b o (Qbz (Qbx e)) e;exact h jb _ U H xs _ Q I1 (by simpa using rv) hw
def eN (to ti:TE) (t:WX):TG:=λv U H Q=>to U H λo H1=>ti U H1 λi H2=>t o i v H2 λH3=>Q U H3
theorem Kp {o i:Expr} {to ti:TE} {t:WX} (ho:PE X o to) (hi:PE X i ti) (hs:ZW X t)
  (ha:∀v,assign (.Subscript o i pos) X.env v=(do
   let ov <-holding [v] (eval o X.env);let iv <-holding [v,ov] (eval i X.env)
   standAt pos
   holding [v,ov,iv] (setItem ov iv v)
   release [v,ov,iv] []):=by intro _;rfl):PG X (.Subscript o i pos) (eN to ti t):=by
 intro jb s U H v u Q I r h;rw[ha];refine QbE (wpAny_holding (thn (ho jb s U H _ I h) λov s1 zz=>?_));obtain⟨x,H1,I1,r1,q1⟩:=zz;refine QbE (wpAny_holding (thn (hi jb s1 U H1 _ I1 q1) λiv s2 zz=>?_));obtain⟨y,H2,I2,r2,q2⟩:=zz;refine QbE (Qbu (QbE (wpAny_holding (thn (hs jb s2 U H2 x y v ov iv u _ I2 r1 r2 r q2) λ_ s3 zz=>?_))));obtain⟨H3,I3,q3⟩:=zz;exact wpAny_release ⟨U,H3,I3,q3⟩
def SJ (te:TE) (g:TG):TS:=λD U H=>te U H λx H1=>g x U H1 D.nx
theorem Dc {tg e:Expr} {te:TE} {g:TG} (he:PE X e te) (hg:PG X tg g) (hs:swapsWithSole [tg] e pos.line X.env=pure false:=by rfl) (hw:swappedStores [tg] e X.env=pure none:=by rfl)
  (h1:(assignEach [tg] X.env).map (·.2)=[assign tg X.env]:=by rfl):PS X (.Assign [tg] e pos) (SJ te g):=by
 intro jb s U H D I h;refine wpAny_Assign_stores (thn (he jb s U H _ I h) λv s1 zz=>?_) hs hw;obtain⟨x,H1,I1,r1,q1⟩:=zz;rw[h1];exact thn (hg jb s1 U H1 x v _ I1 r1 q1) λ_ s2 q=>q
theorem Bl {i:Nat} {x:Str} {e:Expr} {te:TE} {pos':Pos} (hN:X.N.Nodup) (hi:X.N[i]?=some x) (hx:Loc X.env.scope x) (he:PE X e te) (hs:swapsWith e (some (.Name x pos')) pos.line X.env=pure false:=by rfl) (hf:X.fn x=true\/X.env.scope.names.lookup x=some .local:=by first | exact .inl rfl | exact .inr rfl | assumption) :
  PS X (.Assign [.Name x pos'] e pos) (SJ te (FJ i)):=by
 intro jb s U H D I h;refine wpAny_Assign_Name (thn (he jb s U H _ I h) λv s1 zz=>?_) hs;obtain⟨y,H1,I1,r1,q1⟩:=zz;exact Ga I1 hN hi hx r1 (λs2 I2=>⟨_,H1,I2,q1⟩) hf
def aR (i j:Nat) (ta:TA):TS:=λD U H=>ta U H λvs H1=>∃v w,vs=[v,w]/\D.nx ((U.set i (some v)).set j (some w)) H1
theorem U6 {i j:Nat} {x y:Str} {a b:Expr} {ta:TA} {px py pt:Pos} {kt k2 pt2} (hc:X.calm=true) (hN:X.N.Nodup) (hi:X.N[i]?=some x) (hj:X.N[j]?=some y) (hij:i≠j)
  (hx:X.env.scope.names.lookup x=some .local) (hy:X.env.scope.names.lookup y=some .local) (ha:PA X [a,b] ta)
  (hw:swappedStores [.Tuple [.Name x px,.Name y py] kt pt] (.Tuple [a,b] k2 pt2) X.env=pure (some [x,y]))
  (hs:swapsWithSole [.Tuple [.Name x px,.Name y py] kt pt] (.Tuple [a,b] k2 pt2) pos.line X.env=pure false:=by rfl) :
  PS X (.Assign [.Tuple [.Name x px,.Name y py] kt pt] (.Tuple [a,b] k2 pt2) pos) (aR i j ta):=by
 intro jb s U H D I h;rw[exec_Assign_arm];refine QbE (Qbu ?_);rw[hs];refine QbE (QbF ?_);rw[if_neg (by decide)];refine QbE (Tuple_ (thn (ha _ jb s U H _ I h) λus s1 zz=>?_));obtain⟨vs,H1,I1,r1,q1⟩:=zz;obtain⟨v,w,e1,q1⟩:=q1;subst e1;obtain⟨u1,u2,rfl,rv,rw'⟩ : ∃u1 u2,us=[u1,u2]/\RelV v u1/\RelV w u2:=by
  cases r1 with
  | cons p q=>
   cases q with
   | cons p' q'=>
    cases q';exact⟨_,_,rq,p,p'⟩
 refine QaO ?_ (by show 2<=sizeLine;decide);have I2:Inv X jb U H1 { s1 with heap:=s1.heap.push { cls:=.type "tuple",data:=.seq [u1,u2].toArray } }:=I1.kept (t':=s1.toks) λb o e=>Qao _ e;rw[hw];refine QbE (QbF ?_);show wpAny (model X.prog X.w) X.A (do rule "assign.swapped-stores";let items <-unpackItems (.ref s1.heap.objs.size) 2 none;assignInOrder [λv=>bindName X.env y v,λv=>bindName X.env x v] items.reverse;pure Flow.next) _ _ _
 refine QbE (wpAny_rule (QbE (unpackItems_tuple (items:=#[u1,u2]) (I.ok.hd hc) (IsTup.new s1.heap _) λh' hx'=>?_)));have I3:=I2.kept (h':=h') (t':=s1.toks) λb o e=>hx' b o (Qbz (Qbx e)) e;show wpAny _ _ (assignInOrder [λv=>bindName X.env y v,λv=>bindName X.env x v] [u2,u1] >>= λ_=>pure Flow.next) _ _ _;refine QbE (assignInOrder_cons (wpAny_bindName (Ga I3 hN hj (.inl hy) rw' (λs2 I4=>?_) (.inr hy))));refine assignInOrder_cons (wpAny_bindName (Ga I4 hN hi (.inl hx) rv (λs3 I5=>assignInOrder_nil (QbF ?_)) (.inr hx)));rw[List.set_comm _ _ (Ne.symm hij)] at I5;exact⟨_,H1,I5,q1⟩
def aY (i:Nat) (te:TE) (ti:TIp):TS:=λD U H=>∃x,U[i]?=some (some x)/\te U H λy H1=>ti x y H1 λz H2=>D.nx (U.set i (some z)) H2
theorem U7 {i:Nat} {x:Str} {e:Expr} {te:TE} {op:Operator} {ti:TIp} {pos':Pos} (hN:X.N.Nodup) (hi:X.N[i]?=some x) (hx:Loc X.env.scope x) (he:PE X e te) (ho:PIp X op ti) (hf:X.fn x=true\/X.env.scope.names.lookup x=some .local:=by first | exact .inl rfl | exact .inr rfl | assumption) :
  PS X (.AugAssign (.Name x pos') op e pos) (aY i te ti):=by
 intro jb s U H D I h;obtain⟨v,e1,h⟩:=h;obtain⟨m,hn,hl⟩:=I.loc;have vis:Vis X.env.scope x:=by rcases hx with k | k;exact .inl k;exact .inr (.inl k)
 obtain⟨u,r,l⟩:=hl i x v hi e1 vis;refine wpAny_AugAssign_Name ?_;have go:wpAny (model X.prog X.w) X.A (eval e X.env) (λw s₂=>wpAny (model X.prog X.w) X.A (inplaceOp op u w) (λr s₃=>wpAny (model X.prog X.w) X.A (storeName X.env x r) (λ_=>SP X jb D .next) X.xe s₃) X.xe s₂) X.xe s:=by
  refine thn (he jb s U H _ I h) λw s1 zz=>?_;obtain⟨y,H1,I1,r1,q1⟩:=zz;refine thn (ho jb s1 U H1 v y u w _ I1 r r1 q1) λz s2 zz=>?_;obtain⟨zv,H2,I2,r2,q2⟩:=zz;exact Ga I2 hN hi hx r2 (λs3 I3=>⟨_,H2,I3,q2⟩) hf
 rcases l with⟨hk,hm⟩|⟨hk,c,hc,hcell⟩
 ·exact wpAny_loadName_local I.ok.kind hk hn hm go
 ·rcases hk with hk | hk
  ·exact wpAny_loadName_cell I.ok.kind hk hc hcell go
  ·rcases hx with k | k
   ·have:X.env.scope.names.lookup x=some .free:=hk;rw[k] at this;cases this
   ·have:X.env.scope.names.lookup x=some .free:=hk;rw[k] at this;cases this
def ipI (f:Int->Int->Int):TIp:=λx y H Q=>∃i j,x=.int i/\y=.int j/\Q (.int (f i j)) H
theorem Vm:PIp X .Add (ipI λi j=>i+j):=by
 intro jb s U H x y v u Q I r1 r2 h;obtain⟨i,j,e1,e2,q⟩:=h;subst e1;subst e2;obtain⟨t,rfl⟩:=r1;obtain⟨t',rfl⟩:=r2;exact iadd_int ⟨.int _,H,I.tok _,⟨_,rq⟩,q⟩
end
section
variable {X:Cx} {pos:Pos}
abbrev YN:=Nat->YO
def Us (c:TT) (tb:TS):TS:=λD U H=>∃W:YN,(∃m,W m U H)/\∀m U H,W m U H ->
 c U H λb H1=>if b=true then ∃N:YO,(∀ σ' H',N σ' H'->∃m',m' < m/\W m' σ' H')/\tb { D with nx:=N,ct:=N,bk:=D.nx } U H1 else D.nx U H1
theorem Wc {c:Expr} {body:List Stmt} {tc:TT} {tb:TS} (hp:PassesOwn (model X.prog X.w) X.A X.env X.xe) (hc:PT X c tc) (hb:PSs X body tb):PS X (.While c body [] pos) (Us tc tb):=by
 intro jb s U H D I h;obtain⟨W,⟨m0,w0⟩,turn⟩:=h;refine wpAny_While (codeAny_whileLoop (λn s'=>∃ σ' H',Inv X jb σ' H' s'/\W n σ' H') ?_ m0 ⟨U,H,I,w0⟩);rintro n s1 ⟨σ1,H1,I1,w1⟩;refine Qbi hp (thn (hc jb s1 σ1 H1 _ I1 (turn n σ1 H1 w1)) λb s2 zz=>?_);obtain⟨H2,I2,q2⟩:=zz;cases b with
 | true=>
  obtain⟨N,hN,q2⟩:=q2;rw[if_pos rfl];refine Qbi hp (thn (hb jb s2 σ1 H2 _ I2 q2) λf s3 q3=>?_);cases f with
  | next=>
   obtain⟨σ3,H3,I3,n3⟩:=q3;obtain⟨m',hm,w3⟩:=hN σ3 H3 n3;exact⟨m',hm,σ3,H3,I3,w3⟩
  | cont=>
   obtain⟨σ3,H3,I3,n3⟩:=q3;obtain⟨m',hm,w3⟩:=hN σ3 H3 n3;exact⟨m',hm,σ3,H3,I3,w3⟩
  | brk=>exact q3
  | ret v=>exact q3
 | false=>
  rw[if_neg QaA];exact wpAny_execs_nil ⟨σ1,H2,I2,q2⟩
end
structure It where
 go:Nat->Hp->Prop
 yld:Nat->Hp->V->Hp->Prop
 stop:Nat->Hp->Prop
def Ft (X:Cx) (jb:YC) (H:Hp) (b:Addr):Prop:=
 H b=none/\b≠X.env.locals/\b∉X.fs/\(b∈X.ex\/X.s₀.heap.objs.size<=b)/\(∀x c,X.env.cells.lookup x=some c->c≠b)/\∀p∈X.pn++jb,p.1≠b
theorem Inv.TV {X:Cx} {jb:YC} {U : St} {H H':Hp} {s:Shared} {b:Addr} (I:Inv X jb U H s) (hb:s.heap.objs.size<=b) (hn:H' b=none):Ft X jb H' b:=by
 refine⟨hn,Nat.ne_of_gt (QaD I.lt hb),I.Wn hb,.inr (Qby I.sz hb),λx c e z=>?_,λp hp z=>?_⟩
 ·obtain⟨v,q⟩:=I.cell x c e;exact absurd (QaD q.lt (by rw[z];exact hb)) (Qbt _)
 ·exact absurd (QaD (Qbx (I.pin p hp).1) (by rw[z];exact hb)) (Qbt _)
structure Turn (P:Program) (w:World) (K:YD) (tg:Expr) (J:It) (fp:List Addr) (it:Addr) (tn:Nat->Heap->Prop):Prop where
 mem:it∈fp
 obj:∀i h,tn i h->∀b∈fp,∃o,h.get? b=some o/\∀v,o.data≠.cell v
 keep:∀i h h',tn i h->(∀b∈fp,∀o,h.get? b=some o->h'.get? b=some o)->tn i h'
 item:∀(X:Cx),X.prog=P->X.w=w->X.K=K->X.calm=true->∀(i:Nat) (jb:YC) (s:Shared) (U : St) (H:Hp) (E:YA),Inv X jb U H s->(∀b∈fp,Ft X jb H b)->tn i s.heap->J.go i H ->
  wpAny (model P w) X.A (pyNext (.ref it)) (λr s1=>∃u,r=some u /\
   wpAny (model P w) X.A (letOwnedTupleGo tg (.ref it) u) (λ_ s2=>∃x H',Inv X jb U H' s2/\RelV x u/\J.yld i H x H'/\tn (i+1) s2.heap/\∀b∈fp,H' b=none) E s1) E s
 done:∀(X:Cx),X.prog=P->X.w=w->X.K=K->X.calm=true->∀(i:Nat) (jb:YC) (s:Shared) (U : St) (H:Hp) (E:YA),Inv X jb U H s->(∀b∈fp,Ft X jb H b)->tn i s.heap->J.stop i H ->
  wpAny (model P w) X.A (pyNext (.ref it)) (λr s1=>r=none/\Inv X jb U H s1) E s
 self:∀(A:Around) (i:Nat) (s:Shared) (Q:YA) (E:YA),tn i s.heap->Q (.ref it) s->wpAny (model P w) A (pyIter (.ref it)) Q E s
abbrev TI:=St->Hp->(It->Hp->Prop)->Prop
def PIE (X:Cx) (jb:YC) (U : St) (tg:Expr) (R:It->Hp->Prop) (itv:Value) (s2:Shared):Prop:=
 ∃(it:Addr) (fp:List Addr) (tn:Nat->Heap->Prop) (J:It) (H':Hp),itv=.ref it/\Inv X jb U H' s2/\Turn X.prog X.w X.K tg J fp it tn/\tn 0 s2.heap/\(∀b∈fp,Ft X jb H' b)/\R J H'
def PI (X:Cx) (tg iter:Expr) (wi:TI):Prop:=
 ∀(jb:YC) (s:Shared) (U : St) (H:Hp) (R:It->Hp->Prop),Inv X jb U H s->wi U H R ->
  wpAny (model X.prog X.w) X.A (eval iter X.env) (λv s1=>wpAny (model X.prog X.w) X.A (pyIter v) (PIE X jb U tg R) X.xe s1) X.xe s
theorem Ph {M:Model} {A:Around} {E:YA} {s:Shared} {tg:Expr} {it:Addr} {u:Value} {o:Obj} {n:String} {vs:Array Value} {Q:YH} (ho:s.heap.get? it=some o) (hc:o.cls=.type n) (hd:o.data=.fields vs)
    (hn:["enumerate","zip","dict_itemiterator","dict_reverseitemiterator","odict_iterator","itertools.zip_longest","itertools.pairwise"].contains n=false) (hQ:Q () s):wpAny M A (letOwnedTupleGo tg (.ref it) u) Q E s:=by
  unfold letOwnedTupleGo;cases tg <;> first
    | exact QbF hQ
    | (cases u <;> first
        | exact QbF hQ
        | (refine QbE (wpAny_load ho ?_)
           rw[hc,hd];show wpAny M A (if (["enumerate","zip","dict_itemiterator","dict_reverseitemiterator","odict_iterator","itertools.zip_longest","itertools.pairwise"].contains n&&vs[0]? == some (rawInt _))=true then _ else _) Q E s
           rw[if_neg (by intro h;rw[hn,Bool.false_and] at h;cases h)];exact QbF hQ))
def Itl (K:YD) (a:Addr):It:=
 ⟨λi H=>∃xs x,SqL K H a xs/\xs[i]?=some x,λi H x H'=>H'=H/\∀xs,SqL K H a xs->xs[i]?=some x,λi H=>∃xs,SqL K H a xs/\xs.length<=i⟩
def Itt (K:YD) (a:Addr):It:=
 ⟨λi H=>∃xs x,SqT K H a xs/\xs[i]?=some x,λi H x H'=>H'=H/\∀xs,SqT K H a xs->xs[i]?=some x,λi H=>∃xs,SqT K H a xs/\xs.length<=i⟩
def Itr (lo:Int) (n:Nat):It:=⟨λi _=>i < n,λi H x H'=>H'=H/\x=.int (lo+i),λi _=>n<=i⟩
theorem Uq {P:Program} {w:World} {K:YD} {tg:Expr} (a it:Addr):Turn P w K tg (Itl K a) [it] it (λi h=>h.IsListIter it a i) where
 mem:=by simp
 obj:=λi h st b hb=>by
  have e:b=it:=by simpa using hb
  subst e;obtain⟨o,e,c,d⟩:=st;exact⟨o,e,λv z=>by rw[d] at z;cases z⟩
 keep:=λi h h' st k=>st.at λo e=>k it (by simp) o e
 item:=by
  intro X hP hw hK hc i jb s U H E I hf st hg;subst hP hw hK;obtain⟨xs,x,hq,hx⟩:=hg;obtain⟨its,rv,p,hz⟩:=I.list hq;obtain⟨u,hu,ru⟩:=rv.get hx;obtain⟨f0,f1,f2,f3,f4,f5⟩:=hf it (by simp);refine wpAny_pyNext_list_item st p.isList (x:=u) (by simpa using hu) λh' st' sb=>?_;have I1:Inv X jb U H { s with heap:=h' }:=I.turned (t':=s.toks) (λb o hb e=>(sb.2 b hb).trans e) f0 f1 f3 f4 f5;obtain⟨o,e,c,d⟩:=id st';exact⟨u,rq,Ph (s:={ s with heap:=h' }) e c d (by decide) ⟨x,H,I1,ru,⟨rq,λys hy=>by rw[I.Wv hy hq];exact hx⟩,st',λb hb=>(hf b hb).1⟩⟩
 done:=by
  intro X hP hw hK hc i jb s U H E I hf st hg;subst hP hw hK;obtain⟨xs,hq,hx⟩:=hg;obtain⟨its,rv,p,hz⟩:=I.list hq;obtain⟨f0,f1,f2,f3,f4,f5⟩:=hf it (by simp);have hl:=rv.length;exact wpAny_pyNext_list_end (I.ok.hd hc) st p.isList (by simp;omega) λh' eb=>⟨rq,I.turned (t':=s.toks) (λb o hb e=>eb b o hb e) f0 f1 f3 f4 f5⟩
 self:=λ_ _ _ _ _ st h=>wpAny_pyIter_listiter st h
theorem Sv {P:Program} {w:World} {K:YD} {tg:Expr} (a it:Addr):Turn P w K tg (Itt K a) [it] it (λi h=>h.IsTupleIter it a i) where
 mem:=by simp
 obj:=λi h st b hb=>by
  have e:b=it:=by simpa using hb
  subst e;obtain⟨o,e,c,d⟩:=st;exact⟨o,e,λv z=>by rw[d] at z;cases z⟩
 keep:=λi h h' st k=>st.at λo e=>k it (by simp) o e
 item:=by
  intro X hP hw hK hc i jb s U H E I hf st hg;subst hP hw hK;obtain⟨xs,x,hq,hx⟩:=hg;obtain⟨its,rv,p,hz⟩:=I.tuple hq;obtain⟨u,hu,ru⟩:=rv.get hx;obtain⟨f0,f1,f2,f3,f4,f5⟩:=hf it (by simp);refine wpAny_pyNext_tuple_item st (show s.heap.IsTuple a its.toArray from p) (x:=u) (by simpa using hu) λh' st' sb=>?_
  have I1:Inv X jb U H { s with heap:=h' }:=I.turned (t':=s.toks) (λb o hb e=>(sb.2 b hb).trans e) f0 f1 f3 f4 f5;obtain⟨o,e,c,d⟩:=id st';exact⟨u,rq,Ph (s:={ s with heap:=h' }) e c d (by decide) ⟨x,H,I1,ru,⟨rq,λys hy=>by rw[I.Ur hy hq];exact hx⟩,st',λb hb=>(hf b hb).1⟩⟩
 done:=by
  intro X hP hw hK hc i jb s U H E I hf st hg;subst hP hw hK;obtain⟨xs,hq,hx⟩:=hg;obtain⟨its,rv,p,hz⟩:=I.tuple hq;obtain⟨f0,f1,f2,f3,f4,f5⟩:=hf it (by simp);have hl:=rv.length;exact wpAny_pyNext_tuple_end (I.ok.hd hc) st (show s.heap.IsTuple a its.toArray from p) (by simp;omega) λh' eb=>⟨rq,I.turned (t':=s.toks) (λb o hb e=>eb b o hb e) f0 f1 f3 f4 f5⟩
 self:=λ_ _ _ _ _ st h=>wpAny_pyIter_tupleiter st h
theorem Sw {P:Program} {w:World} {K:YD} {tg:Expr} (it:Addr) (lo:Int) (n:Nat):Turn P w K tg (Itr lo n) [it] it (λi h=>IsRangeIter h it (lo+(i:Nat)*1) ((n:Int) - (i:Nat)) 1) where
 mem:=by simp
 obj:=λi h st b hb=>by
  have e:b=it:=by simpa using hb
  subst e;exact⟨_,st,λv z=>by
   have z':Data.fields _=Data.cell v:=z;cases z'⟩
 keep:=λi h h' st k=>k it (by simp) _ st
 item:=by
  intro X hP hw hK hc i jb s U H E I hf st hg;subst hP hw hK;obtain⟨f0,f1,f2,f3,f4,f5⟩:=hf it (by simp);have W:=Walks.range (prog:=X.prog) (w:=X.w) (I.ok.hd hc) it lo 1 n;refine W.item i s _ _ hg st λv h' tk hv st' kk=>?_;obtain⟨t,rfl⟩:=hv;have I1:Inv X jb U H { s with heap:=h',toks:=tk }:=I.turned (λb o hb e=>kk b o (by simpa using hb) e) f0 f1 f3 f4 f5;refine⟨_,rq,Ph (s:={ s with heap:=h',toks:=tk }) (n:="range_iterator") st' rfl rfl (by decide) ⟨.int (lo+i),H,I1,⟨t,?_⟩,⟨rq,rq⟩,st',λb hb=>(hf b hb).1⟩⟩;rw[Int.mul_one]
 done:=by
  intro X hP hw hK hc i jb s U H E I hf st hg;subst hP hw hK;obtain⟨f0,f1,f2,f3,f4,f5⟩:=hf it (by simp);exact wpAny_pyNext_range_end (I.ok.hd hc) st (by have:n<=i:=hg;omega) λh' eb=>⟨rq,I.turned (t':=s.toks) (λb o hb e=>eb b o hb e) f0 f1 f3 f4 f5⟩
 self:=λ_ _ _ _ _ st h=>wpAny_pyIter_rangeiter st h
section
variable {X:Cx} {tg:Expr}
def aH (K:YD) (tl:TE):TI:=fun U H R=>tl U H λx H1=>∃a,x=.ref a/\(∃xs,SqL K H1 a xs)/\R (Itl K a) H1
def Zr (K:YD) (tl:TE):TI:=fun U H R=>tl U H λx H1=>∃a,x=.ref a/\(∃xs,SqT K H1 a xs)/\R (Itt K a) H1
theorem KR {l:Expr} {tl:TE} (hl:PE X l tl):PI X tg l (aH X.K tl):=by
 intro jb s U H R I h;refine thn (hl jb s U H _ I h) λv s1 zz=>?_;obtain⟨x,H1,I1,r1,q1⟩:=zz;obtain⟨a,e,⟨xs,hq⟩,q⟩:=q1;subst e;cases r1;obtain⟨its,rv,p,hz⟩:=I1.list hq;refine wpAny_pyIter_list p.isList ?_;refine⟨s1.heap.objs.size,[s1.heap.objs.size],_,_,H1,rq,I1.kept (t':=s1.toks) λb o e=>Qao _ e,Uq a _,⟨_,Qaw _ rfl,rq,rq⟩,λb hb=>?_,q⟩;have e:b=s1.heap.objs.size:=by simpa using hb
 subst e;exact I1.TV (QbB _) (I1.hok.fresh (QbB _))
theorem Ko {l:Expr} {tl:TE} (hl:PE X l tl):PI X tg l (Zr X.K tl):=by
 intro jb s U H R I h;refine thn (hl jb s U H _ I h) λv s1 zz=>?_;obtain⟨x,H1,I1,r1,q1⟩:=zz;obtain⟨a,e,⟨xs,hq⟩,q⟩:=q1;subst e;cases r1;obtain⟨its,rv,p,hz⟩:=I1.tuple hq;refine wpAny_pyIter_tuple (show s1.heap.IsTuple a its.toArray from p) ?_
 refine⟨s1.heap.objs.size,[s1.heap.objs.size],_,_,H1,rq,I1.kept (t':=s1.toks) λb o e=>Qao _ e,Sv a _,⟨_,Qaw _ rfl,rq,rq⟩,λb hb=>?_,q⟩;have e:b=s1.heap.objs.size:=by simpa using hb
 subst e;exact I1.TV (QbB _) (I1.hok.fresh (QbB _))
theorem Wa {jb:YC} {U : St} {H:Hp} {s:Shared} {R:It->Hp->Prop} {E:YA} {lo hi:Int} {t u v:Tok} {tk:Nat} (I:Inv X jb U H s) (h1:-(2 ^ 62)<=lo) (h2:lo < 2 ^ 62) (h3:-(2 ^ 62)<=hi) (h4:hi < 2 ^ 62)
  (q:R (Itr lo (hi - lo).toNat) H):wpAny (model X.prog X.w) X.A (pyIter (.ref s.heap.objs.size)) (PIE X jb U tg R) E { s with heap:=s.heap.push { cls:=.type "range",data:=.fields #[.int lo t,.int hi u,.int 1 v] },toks:=tk }:=by
 refine wpAny_pyIter_range (IsRange.new ..) (small_one h1 h2 h3 h4) ?_;have I1:Inv X jb U H { s with heap:=s.heap.push { cls:=.type "range",data:=.fields #[.int lo t,.int hi u,.int 1 v] },toks:=tk }:=I.kept λb o e=>Qao _ e;refine⟨(s.heap.push { cls:=.type "range",data:=.fields #[.int lo t,.int hi u,.int 1 v] }).objs.size,[(s.heap.push { cls:=.type "range",data:=.fields #[.int lo t,.int hi u,.int 1 v] }).objs.size],_,_,H,rq,
  I1.kept (t':=tk) λb o e=>Qao _ e,Sw _ lo (hi - lo).toNat,?_,λb hb=>?_,q⟩
 ·have e1:lo+((0:Nat):Int)*1=lo:=by simp
  have e2:(((hi - lo).toNat:Nat):Int) - ((0:Nat):Int)=Builtin.Range.rangeSize lo hi 1:=by rw[rangeSize_one];split <;> omega
  show IsRangeIter _ _ (lo+((0:Nat):Int)*1) ((((hi - lo).toNat:Nat):Int) - ((0:Nat):Int)) 1;rw[e1,e2];exact Qaw _ rfl
 ·have e:b=(s.heap.push { cls:=.type "range",data:=.fields #[.int lo t,.int hi u,.int 1 v] }).objs.size:=by simpa using hb
  subst e;exact I1.TV (QbB _) (I1.hok.fresh (QbB _))
def aG (ta:TA):TI:=fun U H R=>ta U H λvs H1=>∃j:Int,vs=[.int j]/\-(2 ^ 62)<=j/\j < 2 ^ 62/\R (Itr 0 j.toNat) H1
theorem Fd {a:Expr} {ta:TA} {p pos:Pos} (hg:Gl X "range") (hm:X.mg "range"=none) (ha:PA X [a] ta) (hs:starEach [a] X.env=[(false,eval a X.env)]:=by rfl):PI X tg (.Call (.Name "range" p) [a] [] pos) (aG ta):=by
 intro jb s U H R I h;refine Call_ (Ms I hg hm boot_range (PyProof.Rows.callWith_type1 (thn (ha pos jb s U H _ I h) λus s1 zz=>?_) hs rfl));obtain⟨vs,H1,I1,r1,q1⟩:=zz;obtain⟨j,e,q1,q2,q⟩:=q1;subst e;cases r1 with
 | cons r rr=>
  cases rr;obtain⟨t,rfl⟩:=r;exact call_range_1 (Wa I1 (by omega) (by omega) q1 q2 (by simpa using q))
def Kd (wi:TI) (g:TG) (tb:TS):TS:=λD U H=>wi U H λJ H1=>∃W:Nat->YN,(∃m,W 0 m U H1)/\∀i m U H,W i m U H ->
 (J.stop i H/\D.nx U H)\/(J.go i H/\∃N:YO,(∀ σ' H',N σ' H'->∃m',m' < m/\W (i+1) m' σ' H')/\∀x H',J.yld i H x H'->g x U H' fun σ2 H2=>tb { D with nx:=N,ct:=N,bk:=D.nx } σ2 H2)
def Io (fp:List Addr) (h:Heap):YC:=fp.filterMap λb=>(h.get? b).map λo=>(b,o)
theorem Fz {fp:List Addr} {h:Heap} {b:Addr} {o:Obj} (hb:b∈fp) (e:h.get? b=some o):(b,o)∈Io fp h:=List.mem_filterMap.mpr ⟨b,hb,by rw[e];rfl⟩
theorem Vg {fp:List Addr} {h:Heap} {p:Addr×Obj} (hp:p∈Io fp h):p.1∈fp/\h.get? p.1=some p.2:=by
 obtain⟨b,hb,e⟩:=List.mem_filterMap.mp hp;cases q:h.get? b with
 | none=>rw[q] at e;cases e
 | some o=>
  rw[q] at e;have e':(b,o)=p:=Qbc e;subst e';exact⟨hb,q⟩
theorem Inv.pinned {jb:YC} {U : St} {H:Hp} {s:Shared} {fp:List Addr} (I:Inv X jb U H s) (hf:∀b∈fp,Ft X jb H b) (ho:∀b∈fp,∃o,s.heap.get? b=some o/\∀v,o.data≠.cell v):Inv X (jb++Io fp s.heap) U H s:=
 I.KQ λp hp=>(Qbb.mp hp).elim (λz=>I.pin p (Qaq _ z)) λz=>by
  obtain⟨hb,e⟩:=Vg z;obtain⟨f0,f1,f2,_⟩:=hf p.1 hb;obtain⟨o,e',d⟩:=ho p.1 hb;rw[e] at e';cases e';exact⟨e,f0,f1,f2,d⟩
theorem Inv.Ey {jb pl:YC} {U : St} {H:Hp} {s:Shared} (I:Inv X (jb++pl) U H s):Inv X jb U H s:=I.KQ λp hp=>I.pin p (Qaq _ (List.mem_append_left _ hp))
theorem Il {iter:Expr} {body:List Stmt} {wi:TI} {g:TG} {tb:TS} {pos:Pos} (hp:PassesOwn (model X.prog X.w) X.A X.env X.xe) (hc:X.calm=true) (hi:PI X tg iter wi) (hg:PG X tg g) (hb:PSs X body tb)
  (hs:∀x,foldedSetIterable iter X.env x=pure x:=by intro _;rfl):PS X (.For tg iter body [] pos) (Kd wi g tb):=by
 intro jb s U H D I h;refine wpAny_For (thn (hi jb s U H _ I h) λv s1 h1=>thn h1 λitv s2 h2=>?_) hs;obtain⟨it,fp,tn,J,H2,e,I2,T,st2,f2,W,⟨m0,w0⟩,turn⟩:=h2;subst e;have stat:∀{H':Hp},(∀b∈fp,H' b=none)->∀b∈fp,Ft X jb H' b:=λhn b hb=>⟨hn b hb,(f2 b hb).2⟩;refine codeAny_forLoop_any (λn s'=>∃i σ' H',Inv X jb σ' H' s'/\tn i s'.heap/\(∀b∈fp,H' b=none)/\W i n σ' H') ?_ m0 ⟨0,U,H2,I2,st2,λb hb=>(f2 b hb).1,w0⟩;rintro n s3 ⟨i,σ3,H3,I3,st3,fr3,w3⟩;rcases turn i n σ3 H3 w3 with⟨stop,qn⟩|⟨go,N,hN,step⟩
 ·refine Qbi hp (thn (T.done X rfl rfl rfl hc i jb s3 σ3 H3 X.xe I3 (stat fr3) st3 stop) λr s4 zz=>?_);obtain⟨hr,I4⟩:=zz;subst hr;exact wpAny_execs_nil ⟨σ3,H3,I4,qn⟩
 ·refine Qbi hp (thn (T.item X rfl rfl rfl hc i jb s3 σ3 H3 X.xe I3 (stat fr3) st3 go) λr s4 zz=>?_);obtain⟨u,hr,h4⟩:=zz;subst hr;refine Qbi hp (thn h4 λ_ s5 zz=>?_);obtain⟨x,H5,I5,r5,y5,st5,fr5⟩:=zz;have I5':=I5.pinned (stat fr5) (T.obj _ _ st5);refine Qbi hp (thn (hg _ s5 σ3 H5 x u _ I5' r5 (step x H5 y5)) λ_ s6 zz=>?_);obtain⟨σ6,H6,I6,q6⟩:=zz;refine Qbi hp (thn (hb _ s6 σ6 H6 _ I6 q6) λf s7 q7=>?_);have again:∀{σ7:St} {H7:Hp},Inv X (jb++Io fp s5.heap) σ7 H7 s7->N σ7 H7->∃m,m < n/\∃i σ' H',Inv X jb σ' H' s7/\tn i s7.heap/\(∀b∈fp,H' b=none)/\W i m σ' H':=λ{σ7 H7} I7 n7=>by
   obtain⟨m',hm,w7⟩:=hN σ7 H7 n7;refine⟨m',hm,i+1,σ7,H7,I7.Ey,T.keep _ _ _ st5 λb hb o e=>(I7.pin (b,o) (Qaq _ (Qaq _ (Fz hb e)))).1,λb hb=>?_,w7⟩;obtain⟨o,e,d⟩:=T.obj _ _ st5 b hb;exact (I7.pin (b,o) (Qaq _ (Qaq _ (Fz hb e)))).2.1
  cases f with
  | next=>obtain⟨σ7,H7,I7,n7⟩:=q7;exact again I7 n7
  | cont=>obtain⟨σ7,H7,I7,n7⟩:=q7;exact again I7 n7
  | brk=>obtain⟨σ7,H7,I7,q7⟩:=q7;exact⟨σ7,H7,I7.Ey,q7⟩
  | ret v=>obtain⟨x7,σ7,H7,I7,r7,q7⟩:=q7;exact⟨x7,σ7,H7,I7.Ey,r7,q7⟩
end
theorem eU {K:YD} {a:Addr} {xs:YG} {g:TG} {tb:TS} {D:Ends} {U : St} {H:Hp} (Pv:YN) (h0:Pv 0 U H) (hl:∀i U H,i<=xs.length->Pv i U H->SqL K H a xs)
  (hs:∀i x U H,xs[i]?=some x->Pv i U H->g x U H fun σ2 H2=>tb { D with nx:=Pv (i+1),ct:=Pv (i+1),bk:=D.nx } σ2 H2) (hd:∀ U H,Pv xs.length U H->D.nx U H) :
  ∃W:Nat->YN,(∃m,W 0 m U H)/\∀i m U H,W i m U H ->
   ((Itl K a).stop i H/\D.nx U H)\/((Itl K a).go i H/\∃N:YO,(∀ σ' H',N σ' H'->∃m',m' < m/\W (i+1) m' σ' H')/\∀x H',(Itl K a).yld i H x H'->g x U H' fun σ2 H2=>tb { D with nx:=N,ct:=N,bk:=D.nx } σ2 H2):=by
 refine⟨λi m U H=>m=xs.length - i/\i<=xs.length/\Pv i U H,⟨xs.length,by simp,QbC _,h0⟩,?_⟩;rintro i m U H ⟨rfl,hi,p⟩;have q:=hl i U H hi p;by_cases hlt:i < xs.length
 ·refine .inr ⟨⟨xs,xs[i],q,by simp[hlt]⟩,Pv (i+1),fun σ' H' p'=>⟨xs.length - (i+1),by omega,rq,hlt,p'⟩,λx H' y=>?_⟩;obtain⟨e,y⟩:=y;subst e;exact hs i x U _ (y xs q) p
 ·have e:i=xs.length:=by omega
  subst e;exact .inl ⟨⟨xs,q,QbB _⟩,hd U H p⟩
theorem Yj {K:YD} {a:Addr} {xs:YG} {g:TG} {tb:TS} {D:Ends} {U : St} {H:Hp} (Pv:YN) (h0:Pv 0 U H) (hl:∀i U H,i<=xs.length->Pv i U H->SqT K H a xs)
  (hs:∀i x U H,xs[i]?=some x->Pv i U H->g x U H fun σ2 H2=>tb { D with nx:=Pv (i+1),ct:=Pv (i+1),bk:=D.nx } σ2 H2) (hd:∀ U H,Pv xs.length U H->D.nx U H) :
  ∃W:Nat->YN,(∃m,W 0 m U H)/\∀i m U H,W i m U H ->
   ((Itt K a).stop i H/\D.nx U H)\/((Itt K a).go i H/\∃N:YO,(∀ σ' H',N σ' H'->∃m',m' < m/\W (i+1) m' σ' H')/\∀x H',(Itt K a).yld i H x H'->g x U H' fun σ2 H2=>tb { D with nx:=N,ct:=N,bk:=D.nx } σ2 H2):=by
 refine⟨λi m U H=>m=xs.length - i/\i<=xs.length/\Pv i U H,⟨xs.length,by simp,QbC _,h0⟩,?_⟩;rintro i m U H ⟨rfl,hi,p⟩;have q:=hl i U H hi p;by_cases hlt:i < xs.length
 ·refine .inr ⟨⟨xs,xs[i],q,by simp[hlt]⟩,Pv (i+1),fun σ' H' p'=>⟨xs.length - (i+1),by omega,rq,hlt,p'⟩,λx H' y=>?_⟩;obtain⟨e,y⟩:=y;subst e;exact hs i x U _ (y xs q) p
 ·have e:i=xs.length:=by omega
  subst e;exact .inl ⟨⟨xs,q,QbB _⟩,hd U H p⟩
theorem Gm {lo:Int} {n:Nat} {g:TG} {tb:TS} {D:Ends} {U : St} {H:Hp} (Pv:YN) (h0:Pv 0 U H)
  (hs:∀i U H,i < n->Pv i U H->g (.int (lo+i)) U H fun σ2 H2=>tb { D with nx:=Pv (i+1),ct:=Pv (i+1),bk:=D.nx } σ2 H2) (hd:∀ U H,Pv n U H->D.nx U H) :
  ∃W:Nat->YN,(∃m,W 0 m U H)/\∀i m U H,W i m U H ->
   ((Itr lo n).stop i H/\D.nx U H)\/((Itr lo n).go i H/\∃N:YO,(∀ σ' H',N σ' H'->∃m',m' < m/\W (i+1) m' σ' H')/\∀x H',(Itr lo n).yld i H x H'->g x U H' fun σ2 H2=>tb { D with nx:=N,ct:=N,bk:=D.nx } σ2 H2):=by
 refine⟨λi m U H=>m=n - i/\i<=n/\Pv i U H,⟨n,by simp,QbC _,h0⟩,?_⟩;rintro i m U H ⟨rfl,hi,p⟩;by_cases hlt:i < n
 ·refine .inr ⟨hlt,Pv (i+1),fun σ' H' p'=>⟨n - (i+1),by omega,rq,hlt,p'⟩,λx H' y=>?_⟩;obtain⟨e,y⟩:=y;subst e y;exact hs i U _ hlt p
 ·have e:i=n:=by omega
  subst e;exact .inl ⟨QbB _,hd U H p⟩
abbrev R2:=V->V->Hp->VK->Prop
def OpR (X:Cx) (f:Value->Value->Sem Value) (r:R2):Prop:=
 ∀(jb:YC) (s:Shared) (U : St) (H:Hp) (x y:V) (v u:Value) (Q:VK),Inv X jb U H s->RelV x v->RelV y u->r x y H Q ->
  wpAny (model X.prog X.w) X.A (f v u) (EP X jb U Q) X.xe s
def UnR (X:Cx) (f:Value->Sem Value) (r:V->Hp->VK->Prop):Prop:=
 ∀(jb:YC) (s:Shared) (U : St) (H:Hp) (x:V) (v:Value) (Q:VK),Inv X jb U H s->RelV x v->r x H Q ->
  wpAny (model X.prog X.w) X.A (f v) (EP X jb U Q) X.xe s
def Ds (X:Cx) (f:Value) (r:YG->Hp->VK->Prop):Prop:=
 ∀(jb:YC) (s:Shared) (U : St) (H:Hp) (xs:YG) (us:YE) (Q:VK),Inv X jb U H s->Vals xs us->r xs H Q ->
  wpAny (model X.prog X.w) X.A (call f us) (EP X jb U Q) X.xe s
def gZ (X:Cx) (r:V->Hp->(Bool->Hp->Prop)->Prop):Prop:=
 ∀(jb:YC) (s:Shared) (U : St) (H:Hp) (x:V) (v:Value) (Q:Bool->Hp->Prop),Inv X jb U H s->RelV x v->r x H Q ->
  wpAny (model X.prog X.w) X.A (truthy v) (TP X jb U Q) X.xe s
def tOp (r:R2) (ta tb:TE):TE:=fun U H Q=>ta U H λx H1=>tb U H1 λy H2=>r x y H2 Q
def tUn (r:V->Hp->VK->Prop) (ta:TE):TE:=fun U H Q=>ta U H λx H1=>r x H1 Q
def rI (C:Int->Int->Prop) (g:Int->Int->V):R2:=λx y H Q=>∃i j,x=.int i/\y=.int j/\C i j/\Q (g i j) H
def rI0 (g:Int->Int->V):R2:=λx y H Q=>∃i j,x=.int i/\y=.int j/\Q (g i j) H
def rU (g:Int->V):V->Hp->VK->Prop:=λx H Q=>∃i,x=.int i/\Q (g i) H
section
variable {X:Cx} {a b c:Expr} {ta tb tc:TE} {pos:Pos}
theorem WT (ha:PE X a ta) (hb:PE X b tb) {jb:YC} {s:Shared} {U : St} {H:Hp} {R:V->V->Hp->Prop} (I:Inv X jb U H s)
  (h:ta U H λx H1=>tb U H1 λy H2=>R x y H2) {Q:YA} {f:Value->Value->Sem Value}
  (hf:∀v u s2 x y H2,Inv X jb U H2 s2->RelV x v->RelV y u->R x y H2->wpAny (model X.prog X.w) X.A (f v u) Q X.xe s2) :
  wpAny (model X.prog X.w) X.A (eval a X.env) (λv s₁=>wpAny (model X.prog X.w) X.A (eval b X.env) (λu s₂=>wpAny (model X.prog X.w) X.A (f v u) Q X.xe s₂) X.xe s₁) X.xe s:=by
 refine thn (ha jb s U H _ I h) λv s1 zz=>?_;obtain⟨x,H1,I1,r1,q1⟩:=zz;refine thn (hb jb s1 U H1 _ I1 q1) λu s2 zz=>?_;obtain⟨y,H2,I2,r2,q2⟩:=zz;exact hf v u s2 x y H2 I2 r1 r2 q2
theorem Av {op:Operator} {r:R2} (ho:OpR X (binaryOp op) r) (ha:PE X a ta) (hb:PE X b tb):PE X (.BinOp a op b pos) (tOp r ta tb):=by
 intro jb s U H Q I h;exact wpAny_BinOp (WT ha hb I h λv u s2 x y H2 I2 rx ry q=>ho jb s2 U H2 x y v u Q I2 rx ry q)
theorem Xi {op:UnaryOp} {r:V->Hp->VK->Prop} (ho:UnR X (unaryOp op) r) (ha:PE X a ta):PE X (.UnaryOp op a pos) (tUn r ta):=by
 intro jb s U H Q I h;refine UnaryOp_ (thn (ha jb s U H _ I h) λv s1 zz=>?_);obtain⟨x,H1,I1,r1,q1⟩:=zz;exact ho jb s1 U H1 x v Q I1 r1 q1
theorem opI {f:Value->Value->Sem Value} {C:Int->Int->Prop} {g:Int->Int->Int}
  (rule:∀(i j:Int) (t u:Tok) (s:Shared) (Q:YA) (E:YA),C i j->Q (.int (g i j) s.toks) { s with toks:=s.toks+1 }->wpAny (model X.prog X.w) X.A (f (.int i t) (.int j u)) Q E s) :
  OpR X f (rI C λi j=>.int (g i j)):=by
 intro jb s U H x y v u Q I rx ry h;obtain⟨i,j,rfl,rfl,hc,q⟩:=h;obtain⟨t,rfl⟩:=rx;obtain⟨t',rfl⟩:=ry;exact rule i j t t' s _ _ hc ⟨.int (g i j),H,I.tok _,⟨_,rq⟩,q⟩
theorem Ze {f:Value->Value->Sem Value} {g:Int->Int->Int}
  (rule:∀(i j:Int) (t u:Tok) (s:Shared) (Q:YA) (E:YA),Q (.int (g i j) s.toks) { s with toks:=s.toks+1 }->wpAny (model X.prog X.w) X.A (f (.int i t) (.int j u)) Q E s) :
  OpR X f (rI0 λi j=>.int (g i j)):=by
 intro jb s U H x y v u Q I rx ry h;obtain⟨i,j,rfl,rfl,q⟩:=h;obtain⟨t,rfl⟩:=rx;obtain⟨t',rfl⟩:=ry;exact rule i j t t' s _ _ ⟨.int (g i j),H,I.tok _,⟨_,rq⟩,q⟩
theorem S8 {f:Value->Value->Sem Value} {g:Int->Int->Bool}
  (rule:∀(i j:Int) (t u:Tok) (s:Shared) (Q:YA) (E:YA),Q (.bool (g i j)) s->wpAny (model X.prog X.w) X.A (f (.int i t) (.int j u)) Q E s) :
  OpR X f (rI0 λi j=>.bl (g i j)):=by
 intro jb s U H x y v u Q I rx ry h;obtain⟨i,j,rfl,rfl,q⟩:=h;obtain⟨t,rfl⟩:=rx;obtain⟨t',rfl⟩:=ry;exact rule i j t t' s _ _ ⟨.bl (g i j),H,I,rq,q⟩
def ig (i j:Int):Prop:=0 < j/\j < 1073741824
def g8 (i j:Int):Prop:=0<=j/\j<=1000000/\i.natAbs < 2 ^ 64
def Uj (i j:Int):Prop:=(-(2 ^ 64) < i/\i < 2 ^ 64)\/(-(2 ^ 64) < j/\j < 2 ^ 64)
theorem Uj.ok {i j:Int} (h:Uj i j):IntMulOk i j:=by
 rcases h with⟨h1,h2⟩|⟨h1,h2⟩
 ·exact .of_left (intBits_le_64 h1 h2)
 ·exact .of_right (intBits_le_64 h1 h2)
theorem Dg:OpR X (binaryOp .Add) (rI0 λi j=>.int (i+j)):=Ze λ_ _ _ _ _ _ _ q=>add_int q
theorem Hl:OpR X (binaryOp .Sub) (rI0 λi j=>.int (i - j)):=Ze λ_ _ _ _ _ _ _ q=>sub_int q
theorem FQ:OpR X (binaryOp .Mult) (rI Uj λi j=>.int (i*j)):=opI λ_ _ _ _ _ _ _ hc q=>mul_int q hc.ok
theorem MP:OpR X (binaryOp .FloorDiv) (rI ig λi j=>.int (i / j)):=opI λi j _ _ _ _ _ hc q=>by
 have h1:(0:Int) < j:=hc.1;have h2:j < 1073741824:=hc.2;exact floordiv_int (by omega) (by rw[Int.fdiv_eq_ediv_of_nonneg i (by omega)];exact q) (.inl (PyProof.noPylong_small (by omega)))
theorem FT:OpR X (binaryOp .Mod) (rI (λ_ j=>0 < j) λi j=>.int (i % j)):=opI λi j _ _ _ _ _ hc q=>by
 have h1:(0:Int) < j:=hc;exact mod_int' (by omega) (by rw[Int.fmod_eq_emod_of_nonneg i (by omega)];exact q)
theorem Vc:OpR X (binaryOp .Pow) (rI g8 λi j=>.int (i ^ j.toNat)):=opI λ_ _ _ _ _ _ _ hc q=>pow_int_small hc.1 hc.2.1 hc.2.2 q
theorem unI {f:Value->Sem Value} {g:Int->Int}
  (rule:∀(i:Int) (t:Tok) (s:Shared) (Q:YA) (E:YA),Q (.int (g i) s.toks) { s with toks:=s.toks+1 }->wpAny (model X.prog X.w) X.A (f (.int i t)) Q E s) :
  UnR X f (rU λi=>.int (g i)):=by
 intro jb s U H x v Q I rx h;obtain⟨i,rfl,q⟩:=h;obtain⟨t,rfl⟩:=rx;exact rule i t s _ _ ⟨.int (g i),H,I.tok _,⟨_,rq⟩,q⟩
theorem Uo:UnR X (unaryOp .USub) (rU λi=>.int (-i)):=unI λ_ _ _ _ _ q=>neg_int q
end
def Y5:V->V->Bool
 | .non,.non=>true | .non,.int _=>true | .int _,.non=>true | .non,.bl _=>true | .bl _,.non=>true | .non,.str _=>true | .str _,.non=>true
 | .int _,.int _=>true | .bl _,.bl _=>true | .str _,.str _=>true | .byt _,.byt _=>true
 | .int _,.str _=>true | .str _,.int _=>true | .bl _,.str _=>true | .str _,.bl _=>true
 | _,_=>false
def rEq:R2:=λx y H Q=>Y5 x y=true/\Q (.bl (decide (x=y))) H
def rNe:R2:=λx y H Q=>Y5 x y=true/\Q (.bl (!decide (x=y))) H
theorem RX {i j:Int}:decide (V.int i=V.int j)=(i == j):=by
 rw[Qbj];simp
theorem Vv {i j:Bool}:decide (V.bl i=V.bl j)=(i == j):=by
 rw[Qbj];simp
theorem RW {i j:Str}:decide (V.str i=V.str j)=(i == j):=by
 rw[Qbj];simp
theorem RZ {i j:Array UInt8}:decide (V.byt i=V.byt j)=(i.toList == j.toList):=by
 rw[Qbj];cases i;cases j;simp
section
variable {X:Cx} {a b c:Expr} {ta tb tc:TE} {pos:Pos}
theorem Bs {jb:YC} {U : St} {H:Hp} {s:Shared} {Q:VK} {k k':Bool} (I:Inv X jb U H s) (q:Q (.bl k) H) (e:k=k'):EP X jb U Q (.bool k') s:=by
 subst e;exact⟨.bl k,H,I,rq,q⟩
theorem BR:OpR X (compareOp .Eq) rEq:=by
 intro jb s U H x y v u Q I rx ry h;obtain⟨hs,q⟩:=h;cases x with
 | non=>
  cases rx;cases y with
  | non=>cases ry;exact PySem.EqNone.eq_none_none (Bs I q (by simp))
  | bl j=>cases ry;exact PySem.EqNone.eq_none_bool (Bs I q (by simp))
  | int j=>obtain⟨t',rfl⟩:=ry;exact PySem.EqNone.eq_none_int (Bs I q (by simp))
  | str j=>obtain⟨t',rfl⟩:=ry;exact PySem.EqNone.eq_none_str (Bs I q (by simp))
  | _=>exact absurd (show false=true from hs) QaA
 | bl i=>
  cases rx;cases y with
  | non=>cases ry;exact PySem.EqNone.eq_bool_none (Bs I q (by simp))
  | bl j=>cases ry;exact eq_bool (Bs I q Vv)
  | str j=>obtain⟨t',rfl⟩:=ry;exact PySem.EqMixed.eq_bool_str (Bs I q (by simp))
  | _=>exact absurd (show false=true from hs) QaA
 | int i=>
  obtain⟨t,rfl⟩:=rx;cases y with
  | non=>cases ry;exact PySem.EqNone.eq_int_none (Bs I q (by simp))
  | int j=>obtain⟨t',rfl⟩:=ry;exact eq_int (Bs I q RX)
  | str j=>obtain⟨t',rfl⟩:=ry;exact PySem.EqMixed.eq_int_str (Bs I q (by simp))
  | _=>exact absurd (show false=true from hs) QaA
 | str i=>
  obtain⟨t,rfl⟩:=rx;cases y with
  | non=>cases ry;exact PySem.EqNone.eq_str_none (Bs I q (by simp))
  | bl j=>cases ry;exact PySem.EqMixed.eq_str_bool (Bs I q (by simp))
  | int j=>obtain⟨t',rfl⟩:=ry;exact PySem.EqMixed.eq_str_int (Bs I q (by simp))
  | str j=>obtain⟨t',rfl⟩:=ry;exact eq_str (Bs I q RW)
  | _=>exact absurd (show false=true from hs) QaA
 | byt i=>
  obtain⟨t,rfl⟩:=rx;cases y with
  | byt j=>obtain⟨t',rfl⟩:=ry;exact PySem.W.eq_bytes (Bs I q RZ)
  | _=>exact absurd (show false=true from hs) QaA
 | _=>cases y <;> exact absurd (show false=true from hs) QaA
theorem Pa:OpR X (compareOp .NotEq) rNe:=by
 intro jb s U H x y v u Q I rx ry h;obtain⟨hs,q⟩:=h;cases x with
 | non=>
  cases rx;cases y with
  | non=>cases ry;exact PySem.EqNone.ne_none_none (Bs I q (by simp))
  | bl j=>cases ry;exact PySem.EqNone.ne_none_bool (Bs I q (by simp))
  | int j=>obtain⟨t',rfl⟩:=ry;exact PySem.EqNone.ne_none_int (Bs I q (by simp))
  | str j=>obtain⟨t',rfl⟩:=ry;exact PySem.EqNone.ne_none_str (Bs I q (by simp))
  | _=>exact absurd (show false=true from hs) QaA
 | bl i=>
  cases rx;cases y with
  | non=>cases ry;exact PySem.EqNone.ne_bool_none (Bs I q (by simp))
  | bl j=>cases ry;exact ne_bool (Bs I q (congrArg not Vv))
  | str j=>obtain⟨t',rfl⟩:=ry;exact PySem.EqMixed.ne_bool_str (Bs I q (by simp))
  | _=>exact absurd (show false=true from hs) QaA
 | int i=>
  obtain⟨t,rfl⟩:=rx;cases y with
  | non=>cases ry;exact PySem.EqNone.ne_int_none (Bs I q (by simp))
  | int j=>obtain⟨t',rfl⟩:=ry;exact ne_int (Bs I q (congrArg not RX))
  | str j=>obtain⟨t',rfl⟩:=ry;exact PySem.EqMixed.ne_int_str (Bs I q (by simp))
  | _=>exact absurd (show false=true from hs) QaA
 | str i=>
  obtain⟨t,rfl⟩:=rx;cases y with
  | non=>cases ry;exact PySem.EqNone.ne_str_none (Bs I q (by simp))
  | bl j=>cases ry;exact PySem.EqMixed.ne_str_bool (Bs I q (by simp))
  | int j=>obtain⟨t',rfl⟩:=ry;exact PySem.EqMixed.ne_str_int (Bs I q (by simp))
  | str j=>obtain⟨t',rfl⟩:=ry;exact ne_str (Bs I q (congrArg not RW))
  | _=>exact absurd (show false=true from hs) QaA
 | byt i=>
  obtain⟨t,rfl⟩:=rx;cases y with
  | byt j=>obtain⟨t',rfl⟩:=ry;exact PySem.W.ne_bytes (Bs I q (congrArg not RZ))
  | _=>exact absurd (show false=true from hs) QaA
 | _=>cases y <;> exact absurd (show false=true from hs) QaA
theorem KY:OpR X (compareOp .Lt) (rI0 λi j=>.bl (decide (i < j))):=S8 λ_ _ _ _ _ _ _ q=>lt_int q
theorem Hy:OpR X (compareOp .LtE) (rI0 λi j=>.bl (decide (i<=j))):=S8 λ_ _ _ _ _ _ _ q=>le_int q
theorem Xk:OpR X (compareOp .Gt) (rI0 λi j=>.bl (decide (j < i))):=S8 λ_ _ _ _ _ _ _ q=>gt_int q
theorem aA:OpR X (compareOp .GtE) (rI0 λi j=>.bl (decide (j<=i))):=S8 λ_ _ _ _ _ _ _ q=>ge_int q
theorem NQ:OpR X (compareOp .In) (λx y H Q=>∃i j,x=.str i/\y=.str j/\Q (.bl (!(Builtin.Str.occurrences j i 0 j.length 1).isEmpty)) H):=by
 intro jb s U H x y v u Q I rx ry h;obtain⟨i,j,rfl,rfl,q⟩:=h;obtain⟨t,rfl⟩:=rx;obtain⟨t',rfl⟩:=ry;exact in_str (Bs I q rfl)
theorem OpR.or {f:Value->Value->Sem Value} {r r':R2} (h:OpR X f r) (h':OpR X f r'):OpR X f (λx y H Q=>r x y H Q\/r' x y H Q):=by
 intro jb s U H x y v u Q I rx ry q;rcases q with q | q
 ·exact h jb s U H x y v u Q I rx ry q
 ·exact h' jb s U H x y v u Q I rx ry q
theorem Ba (b:Expr) {op:CmpOp} (h:op≠.In:=by decide) (h2:op≠.NotIn:=by decide):behindInMarks op b=false:=by
 have e1:(op == CmpOp.In)=false:=by cases op <;> first | rfl | exact absurd rfl h
 have e2:(op == CmpOp.NotIn)=false:=by cases op <;> first | rfl | exact absurd rfl h2
 cases b <;> simp[behindInMarks,e1,e2]
theorem CG {op:CmpOp} {r:R2} (ho:OpR X (compareOp op) r) (ha:PE X a ta) (hb:PE X b tb) (hm:behindInMarks op b=false):PE X (.Compare a [op] [b] pos) (tOp r ta tb):=by
 intro jb s U H Q I h;exact wpAny_Compare1 (WT ha hb I h λv u s2 x y H2 I2 rx ry q=>ho jb s2 U H2 x y v u Q I2 rx ry q) hm
def W9 (t:TE):TT:=fun U H Q=>t U H λx H'=>∃k,x=.bl k/\Q k H'
theorem Ay {op:CmpOp} {r:R2} (ho:OpR X (compareOp op) r) (ha:PE X a ta) (hb:PE X b tb) (hm:behindInMarks op b=false):PT X (.Compare a [op] [b] pos) (W9 (tOp r ta tb)):=by
 intro jb s U H Q I h;refine wpAny_isTrue_Compare1 (thn (ha jb s U H _ I h) λv s1 ⟨x,H1,I1,r1,q1⟩=>thn (hb jb s1 U H1 _ I1 q1) λu s2 ⟨y,H2,I2,r2,q2⟩=>
  thn (ho jb s2 U H2 x y v u _ I2 r1 r2 q2) λc s3 ⟨z,H3,I3,r3,k,e,q3⟩=>?_) hm
 subst e;cases r3;exact QaN ⟨H3,I3,q3⟩
def Uu (r r':R2) (ta tb tc:TE):TE:=fun U H Q=>ta U H λx H1=>tb U H1 λy H2=>r x y H2 λz H3=>∃k,z=.bl k /\
 (if k=true then tc U H3 λw' H4=>r' y w' H4 Q else Q (.bl false) H3)
theorem Lj {op op':CmpOp} {r r':R2} (ho:OpR X (compareOp op) r) (ho':OpR X (compareOp op') r') (ha:PE X a ta) (hb:PE X b tb) (hc:PE X c tc)
  (hm:lastMarks [op,op'] [b,c]=false:=by with_unfolding_all rfl):PE X (.Compare a [op,op'] [b,c] pos) (Uu r r' ta tb tc):=by
 intro jb s U H Q I h;refine Compare_chain (thn (ha jb s U H _ I h) λv s1 ⟨x,H1,I1,r1,q1⟩=>chain_link (thn (hb jb s1 U H1 _ I1 q1) λu s2 ⟨y,H2,I2,r2,q2⟩=>
  thn (ho jb s2 U H2 x y v u _ I2 r1 r2 q2) λd s3 ⟨z,H3,I3,r3,k,e,q3⟩=>?_)) hm
 subst e;cases r3;refine QaN ?_;cases k with
 | false=>exact ite_ff ⟨.bl false,H3,I3,rfl,q3⟩
 | true=>exact ite_tt (chain_last (thn (hc jb s3 U H3 _ I3 q3) λw' s4 ⟨z',H4,I4,r4,q4⟩=>ho' jb s4 U H4 y z' u w' Q I4 r2 r4 q4))
theorem Wb {op op':CmpOp} {r r':R2} (ho:OpR X (compareOp op) r) (ho':OpR X (compareOp op') r') (ha:PE X a ta) (hb:PE X b tb) (hc:PE X c tc)
  (hm:lastMarks [op,op'] [b,c]=false:=by with_unfolding_all rfl):PT X (.Compare a [op,op'] [b,c] pos) (W9 (Uu r r' ta tb tc)):=by
 intro jb s U H Q I h;refine isTrue_chain (thn (ha jb s U H _ I h) λv s1 ⟨x,H1,I1,r1,q1⟩=>test_link (thn (hb jb s1 U H1 _ I1 q1) λu s2 ⟨y,H2,I2,r2,q2⟩=>
  thn (ho jb s2 U H2 x y v u _ I2 r1 r2 q2) λd s3 ⟨z,H3,I3,r3,k,e,q3⟩=>?_)) hm
 subst e;cases r3;refine QaN ?_;cases k with
 | false=>
  obtain⟨k',e',q'⟩:=q3;cases e';exact ite_ff ⟨H3,I3,q'⟩
 | true=>
  refine ite_tt (test_last (thn (hc jb s3 U H3 _ I3 q3) λw' s4 zz=>?_));obtain⟨z',H4,I4,r4,q4⟩:=zz;refine thn (ho' jb s4 U H4 y z' u w' _ I4 r2 r4 q4) λd' s5 zz=>?_;obtain⟨z2,H5,I5,r5,k2,e2,q5⟩:=zz;subst e2;cases r5;exact QaN ⟨H5,I5,q5⟩
def ZS (K:YD) (x:V) (H:Hp) (k:Bool):Prop:=
 match x with
 | .non=>k=false
 | .bl b=>k=b
 | .int i=>k=(i != 0)
 | .str y=>y.length<=sizeLine/\k=((y.length:Int) != 0)
 | .byt y=>y.size<=sizeLine/\k=((y.size:Int) != 0)
 | .ref p=>(∃xs,SqL K H p xs/\k=!xs.isEmpty)\/(∃xs,SqT K H p xs/\k=!xs.isEmpty)\/∃kvs,H p=some (.dK kvs)/\k=!kvs.isEmpty
 | _=>False
theorem Tt {κ : Type} {kvs:List (κ×V)} {vs:List (κ×Value)} (r:KV kvs vs):(!vs.isEmpty)=!kvs.isEmpty:=by
 cases r <;> rfl
theorem Mu {xs:YG} {its:YE} (r:Vals xs its):(!its.toArray.isEmpty)=!xs.isEmpty:=by
 cases r <;> simp
theorem IK:(sizeLine:Nat) < 2 ^ 63:=by rw[sizeLine_eq];decide
theorem Yw:gZ X (λx H Q=>∃k,ZS X.K x H k/\Q k H):=by
 intro jb s U H x v Q I rx h;obtain⟨k,e,q⟩:=h;have hl:=IK;have hs:sizeLine=16777216:=sizeLine_eq;cases x with
 | non=>
  cases rx;have e':k=false:=e;subst e';exact truthy_none ⟨H,I,q⟩
 | bl b=>
  cases rx;have e':k=b:=e;subst e';exact QaN ⟨H,I,q⟩
 | int i=>
  obtain⟨t,rfl⟩:=rx;have e':k=(i != 0):=e;subst e';exact PySem.P.truthy_int ⟨H,I,q⟩
 | str y=>
  obtain⟨t,rfl⟩:=rx;obtain⟨hy,e'⟩ : y.length<=sizeLine/\k=((y.length:Int) != 0):=e;subst e';exact PySem.P.truthy_str (by omega) ⟨H,I.tok _,q⟩
 | byt y=>
  obtain⟨t,rfl⟩:=rx;obtain⟨hy,e'⟩ : y.size<=sizeLine/\k=((y.size:Int) != 0):=e;subst e';exact PySem.W.truthy_bytes (by omega) ⟨H,I.tok _,q⟩
 | ref p=>
  cases rx;have e':(∃xs,SqL X.K H p xs/\k=!xs.isEmpty)\/(∃xs,SqT X.K H p xs/\k=!xs.isEmpty)\/∃kvs,H p=some (.dK kvs)/\k=!kvs.isEmpty:=e;rcases e' with⟨xs,hx,e'⟩|⟨xs,hx,e'⟩|⟨kvs,hx,e'⟩
  ·subst e';obtain⟨its,r,pl,hz⟩:=I.list hx;have hlen:=r.length;exact wpAny_truthy_list pl.isList (by simp only[QaK];omega) ⟨H,I.tok _,by rw[Mu r];exact q⟩
  ·subst e';obtain⟨its,r,pl,hz⟩:=I.tuple hx;have hlen:=r.length;exact truthy_tuple pl (by simp only[QaK];omega) ⟨H,I.tok _,by rw[Mu r];exact q⟩
  ·subst e';obtain⟨hz,hS,vs,r,m⟩ : kvs.length<=sizeLine/\(p == sysModules)=false/\∃vs,KV kvs vs/\s.heap.DictOf (Nb X.prog X.w) p vs:=I.hok p _ hx;have hlen:kvs.length=vs.length:=Paired.length r;exact wpAny_truthy_dict hS m (by omega) ⟨H,I.tok _,by rw[Tt r];exact q⟩
 | _=>exact (show False from e).elim
theorem Bg:OpR X (binaryOp .Add) (λx y H Q=>∃i j,x=.str i/\y=.str j/\i.length+j.length<=sizeLine/\Q (.str (i++j)) H):=by
 intro jb s U H x y v u Q I rx ry h;obtain⟨i,j,rfl,rfl,hz,q⟩:=h;obtain⟨t,rfl⟩:=rx;obtain⟨t',rfl⟩:=ry;exact add_str (λt' tk=>⟨.str (i++j),H,I.tok _,⟨_,rq⟩,q⟩) hz
theorem vals1 {x:V} {us:YE} (r:Vals [x] us):∃u,us=[u]/\RelV x u:=by
 cases r with
 | cons r1 r2=>cases r2;exact⟨_,rfl,r1⟩
theorem vals2 {x y:V} {us:YE} (r:Vals [x,y] us):∃u w',us=[u,w']/\RelV x u/\RelV y w':=by
 cases r with
 | cons r1 r2=>
  cases r2 with
  | cons r3 r4=>cases r4;exact⟨_,_,rfl,r1,r3⟩
theorem QL:Ds X (.builtin "abs") (λxs H Q=>∃i,xs=[.int i]/\Q (.int (if i < 0 then -i else i)) H):=by
 intro jb s U H xs us Q I r h;obtain⟨i,rfl,q⟩:=h;obtain⟨u,rfl,t,rfl⟩:=vals1 r;exact call_abs_int λu tk=>⟨.int (if i < 0 then -i else i),H,I.tok _,⟨_,rq⟩,q⟩
theorem VD (hc:X.calm=true):Ds X (.builtin "max") (λxs H Q=>∃i j,xs=[.int i,.int j]/\Q (.int (if j > i then j else i)) H):=by
 intro jb s U H xs us Q I r h;obtain⟨i,j,rfl,q⟩:=h;obtain⟨u,w',rfl,⟨t,rfl⟩,⟨t',rfl⟩⟩:=vals2 r;refine max_two_ints (I.ok.hd hc) λh' tk k=>⟨_,H,I.kept k,?_,q⟩;by_cases hj:j > i
 ·rw[if_pos hj,if_pos hj];exact⟨_,rq⟩
 ·rw[if_neg hj,if_neg hj];exact⟨_,rq⟩
theorem VB (hc:X.calm=true):Ds X (.builtin "min") (λxs H Q=>∃i j,xs=[.int i,.int j]/\Q (.int (if j < i then j else i)) H):=by
 intro jb s U H xs us Q I r h;obtain⟨i,j,rfl,q⟩:=h;obtain⟨u,w',rfl,⟨t,rfl⟩,⟨t',rfl⟩⟩:=vals2 r;refine min_two_ints (I.ok.hd hc) λh' tk k=>⟨_,H,I.kept k,?_,q⟩;by_cases hj:j < i
 ·rw[if_pos hj,if_pos hj];exact⟨_,rq⟩
 ·rw[if_neg hj,if_neg hj];exact⟨_,rq⟩
theorem Kz:Ds X (.type "int") (λxs H Q=>(∃i,xs=[.int i]/\Q (.int i) H)\/∃k,xs=[.bl k]/\Q (.int (if k then 1 else 0)) H):=by
 intro jb s U H xs us Q I r h;rcases h with⟨i,rfl,q⟩|⟨k,rfl,q⟩
 ·obtain⟨u,rfl,t,rfl⟩:=vals1 r;exact call_int_int ⟨.int i,H,I,⟨_,rq⟩,q⟩
 ·obtain⟨u,rfl,r1⟩:=vals1 r;cases r1;exact call_int_bool ⟨.int (if k then 1 else 0),H,I.tok _,⟨_,rq⟩,q⟩
end
structure W0 (h:Heap) (x dx C:Addr) (mA:YB):Prop where
 obj:h.get? x=some (PySem.W.instObj C dx)
 ns:h.Ns1 dx mA
 ne:dx≠x
theorem Vh {h:Heap} {dx:Addr} {mA:YB} (n:h.Ns1 dx mA):∃od,h.get? dx=some od/\∀name,PySem.W.lookIn name od=some (mA name):=by
 obtain⟨o,es,ep,ho,hd,hk,_,hm⟩:=n;refine⟨o,ho,λname=>?_⟩;have e:=hm name;unfold nsFind findBy at e;rw[<-Array.find?_toList] at e;unfold PySem.W.lookIn;rw[hd];dsimp only;split
 ·rename_i y q;rw[q] at e;exact congrArg some e
 ·rename_i q;rw[q] at e;have a:es.toList.any (·.refKey)=false:=by
   rw[List.any_eq_false];intro y hy;obtain⟨z,t,hkey⟩:=hk y (Array.mem_toList_iff.mp hy);simp[DictEntry.refKey,hkey]
  have a':¬es.toList.any (·.refKey)=true:=by rw[a];exact QaA
  rw[if_neg a'];exact congrArg some e
theorem W0.look {h:Heap} {x dx C:Addr} {mA:YB} (I:W0 h x dx C mA):∃od,PySem.W.InstAt h x (PySem.W.instObj C dx) C (some od)/\∀name,PySem.W.lookIn name od=some (mA name):=
 let ⟨od,ho,hl⟩:=Vh I.ns
 ⟨od,⟨I.obj,rq,rq,ho⟩,hl⟩
section
variable {prog:Program} {w:World} {A:Around} {E:YA} {s:Shared} {K:YD} {x dx C f:Addr} {mA:YB} {name:Str} {v:Value}
end
section
variable {P:Program} {w:World} {H H':Hp} {h h':Heap} {a C dx:Addr} {fs fs':List (Str×V)}
theorem Yg (hok:HOk P w H h) (e:H a=some (.ins C dx fs)):∃mA,W0 h a dx C mA/\(∀f,JW (fs.lookup f) (mA f))/\PySem.Within mA (fs.map (·.1))/\fs.length<=1000/\H dx=some (.own a):=by
 obtain⟨d,z,ne,ob,mA,n,r,q⟩:=(show Cm P w H h a (.ins C dx fs) from hok a _ e)
 exact⟨mA,⟨ob,n,ne⟩,r,q,z,d⟩
end
structure Cls (K:YD) (C:Addr):Prop where
 pg:PySem.W.plainGet K C Str.empty=true
 hd:PySem.W.hasDictIn K C=true
 po:PySem.W.plainOver K C=true
 sa:findIn K (.ref C) "__setattr__"=some (some (.builtin "object.__setattr__"))
theorem Cls.get {K:YD} {C:Addr} (c:Cls K C) (f:Str):PySem.W.plainGet K C f=true:=c.pg
structure Meth (K:YD) (C:Addr) (m:Str) (f:Addr):Prop where
 at_:findIn K (.ref C) m=some (some (.ref f))
 fn:PySem.W.isFn K (.ref f)=true
 kp:keepIn K (.ref f)=true
section
variable {X:Cx} {jb:YC} {U : St} {H:Hp} {s:Shared} {a C dx:Addr} {fs:List (Str×V)} {f:Str} {v:V} {A:Around} {E:YA}
end
section
variable {X:Cx} {o e value:Expr} {f:Str} {pos pos' tpos:Pos} {ta tv:TE}
end
section
variable {X:Cx} {jb:YC} {U : St} {H:Hp} {s:Shared} {A:Around} {E:YA} {Q:YA} {c:Value} {b:Bool}
inductive G5 (K:YD) (H:Hp):V->Value->Prop where
 | non:G5 K H .non (.type "NoneType")
 | bl (x:Bool):G5 K H (.bl x) (.type "bool")
 | int (i:Int):G5 K H (.int i) (.type "int")
 | str (x:Str):G5 K H (.str x) (.type "str")
 | flt (x:UInt64):G5 K H (.flt x) (.type "float")
 | lst {a:Addr} {xs:YG} (e:H a=some (.lst xs)):G5 K H (.ref a) (.type "list")
 | frz {a:Addr} {o:Obj} {xs:YG} (e:H a=some (.frz o (.lst xs))):G5 K H (.ref a) (.type "list")
 | tup {a:Addr} {xs:YG} (e:H a=some (.tup xs)):G5 K H (.ref a) (.type "tuple")
 | dK {a:Addr} {kvs:List (Key×V)} (e:H a=some (.dK kvs)):G5 K H (.ref a) (.type "dict")
 | dT {a:Addr} {kvs:List (List Key×V)} (e:H a=some (.dT kvs)):G5 K H (.ref a) (.type "dict")
 | ins {a C dx:Addr} {fs:List (Str×V)} (e:H a=some (.ins C dx fs)) (cl:Cls K C) (ha:findIn K (.ref C) "__class__"=some (some (.builtin "object.__class__")))
   (hn:PySem.W.specialIn K (.builtin "object.__class__") "__get__"=some (some (.builtin "getset_descriptor.__get__"))) (htk:PySem.W.takesIn K (.builtin "object.__class__")=some true)
   (hm:PySem.W.mroIn K C (.type "object")=some true):G5 K H (.ref a) (.ref C)
theorem Vk {x:V} {u t:Value} (I:Inv X jb U H s) (rx:RelV x u) (ty:G5 X.K H x t) (e:kitOne X.K t c=some b) (h:∀tk,Q (.bool b) { s with toks:=tk }) :
  wpAny (model X.prog X.w) A (call (.builtin "isinstance") [u,c]) Q E s:=by
 cases ty with
 | non=>cases (show u=Value.none from rx);exact kia_one PySem.W.kitx_none I.kIn True.intro e (λz=>nomatch z) h
 | bl y=>cases (show u=Value.bool y from rx);exact kia_one PySem.W.kitx_bool I.kIn True.intro e (λz=>nomatch z) h
 | int i=>obtain⟨t,q⟩:=(show ∃t,u=Value.int i t from rx);cases q;exact kia_one PySem.W.kitx_int I.kIn True.intro e (λz=>nomatch z) h
 | str y=>obtain⟨t,q⟩:=(show ∃t,u=Value.str y t from rx);cases q;exact kia_one PySem.W.kitx_str I.kIn True.intro e (λz=>nomatch z) h
 | flt y=>obtain⟨t,q⟩:=(show ∃t,u=Value.float y t from rx);cases q;exact kia_one PySem.W.kitx_float I.kIn True.intro e (λz=>nomatch z) h
 | @lst a xs ea=>
  cases (show u=Value.ref a from rx)
  obtain⟨_,_,n,_,h1⟩:=(show Cm X.prog X.w H s.heap a (.lst xs) from I.hok a _ ea)
  exact kia_one PySem.W.kitx_list I.kIn ⟨_,h1,rq⟩ e (λz=>nomatch z) h
 | @frz a ob xs ea=>
  cases (show u=Value.ref a from rx)
  obtain⟨_,_,_,n,_,h1⟩:=(show Cm X.prog X.w H s.heap a (.frz ob (.lst xs)) from I.hok a _ ea)
  exact kia_one PySem.W.kitx_list I.kIn ⟨_,h1,rq⟩ e (λz=>nomatch z) h
 | @tup a xs ea=>
  cases (show u=Value.ref a from rx)
  obtain⟨_,_,_,p⟩:=(show Cm X.prog X.w H s.heap a (.tup xs) from I.hok a _ ea)
  obtain⟨o,h1,h2,_⟩:=p;exact kia_one PySem.W.kitx_tuple I.kIn ⟨o,h1,h2⟩ e (λz=>nomatch z) h
 | @dK a kvs ea=>
  cases (show u=Value.ref a from rx)
  obtain⟨_,_,vs,_,p⟩:=(show Cm X.prog X.w H s.heap a (.dK kvs) from I.hok a _ ea)
  obtain⟨o,es,ep,h1,h2,_⟩:=p;exact kia_one PySem.W.kitx_dict I.kIn ⟨o,h1,h2.1⟩ e (λz=>nomatch z) h
 | @dT a kvs ea=>
  cases (show u=Value.ref a from rx)
  obtain⟨_,_,xs,_,o,es,ep,h1,h2,_⟩:=(show Cm X.prog X.w H s.heap a (.dT kvs) from I.hok a _ ea)
  exact kia_one PySem.W.kitx_dict I.kIn ⟨o,h1,h2.1⟩ e (λz=>nomatch z) h
 | @ins a C dx fs ea cl ha hn htk hm=>
  cases (show u=Value.ref a from rx)
  obtain⟨mA,O,_⟩:=Yg I.hok ea;obtain⟨od,J,_⟩:=O.look;exact kia_one (PySem.W.kitx_own (cl.get _) cl.hd ha hn htk hm) I.kIn J e (λz=>nomatch z) h
end
structure CP (k:Nat) (A:Around):Prop where
 hd:A.handled=none
 dp:A.depth+3*k+5 < recursionLimit
 un:A.units+16*k+200 < cLine
 gd:A.guards=some []
theorem CP.mono {j k:Nat} {A:Around} (r:CP k A) (h:j<=k):CP j A:=⟨r.hd,by have:=r.dp;omega,by have:=r.un;omega,r.gd⟩
theorem CP.deeper {k:Nat} {A:Around} (r:CP (k+1) A) (env:Env):CP k (A.deeper env):=
 ⟨r.hd,by have:=r.dp;show A.depth+1+3*k+5 < _;omega,by have:=r.un;show A.units+3+16*k+200 < _;omega,r.gd⟩
theorem CP.in1 {k:Nat} {A:Around} (r:CP (k+1) A):CP k A.in1:=
 ⟨r.hd,by have:=r.dp;show A.depth+3*k+5 < _;omega,by have:=r.un;show A.units+1+16*k+200 < _;omega,r.gd⟩
theorem CP.depth {k:Nat} {A:Around} (r:CP k A):A.depth < recursionLimit:=by have:=r.dp;omega
theorem CP.units {k:Nat} {A:Around} (r:CP k A):A.units+64 < cLine:=by have:=r.un;omega
def aW:TA:=λ_ H Q=>Q [] H
def Z7 (ta:TE) (tr:TA):TA:=fun U H Q=>ta U H λx H1=>tr U H1 λxs H2=>Q (x::xs) H2
section
variable {X:Cx} {e:Expr} {es:YJ} {te:TE} {t:TA} {pos:Pos}
theorem Ac:PA X [] aW:=λ_ _ _ _ H Q I h=>Calls.spliced_nil ⟨[],H,I,.nil,h⟩
theorem Aa (ha:PE X e te) (hr:PA X es t) (hs:starEach (e::es) X.env=(false,eval e X.env)::starEach es X.env:=by rfl):PA X (e::es) (Z7 te t):=by
 intro pos jb s U H Q I h;rw[hs];show wpAny _ _ (spliced ((false,eval e X.env)::backTo pos (starEach es X.env))) _ _ s;refine Calls.spliced_cons (thn (ha jb s U H _ I h) λu s1 zz=>?_);obtain⟨x,H1,I1,r1,q1⟩:=zz;refine thn (hr pos jb s1 U H1 _ I1 q1) λus s2 zz=>?_;obtain⟨xs,H2,I2,r2,q2⟩:=zz;exact⟨x::xs,H2,I2,.cons r1 r2,q2⟩
def aP (t:TA):TE:=fun U H Q=>t U H λxs H1=>xs.length<=sizeLine/\∀p,H1 p=none->Q (.ref p) (upd H1 p (.tup xs))
def aX (t:TA):TE:=fun U H Q=>t U H λxs H1=>xs.length<=sizeLine/\∀p,H1 p=none->Q (.ref p) (upd H1 p (.lst xs))
theorem Bq {x1} (h:PA X es t):PE X (.Tuple es x1 pos) (aP t):=by
 intro jb s U H Q I hq;refine wpAny_Tuple_spliced (thn (h pos jb s U H _ I hq) λus s1 zz=>?_);obtain⟨xs,H1,I1,r,z,q⟩:=zz;refine⟨by rw[<-r.length];exact z,?_⟩;have hf:H1 s1.heap.objs.size=none:=I1.hok.fresh (QbB _);refine⟨.ref s1.heap.objs.size,upd H1 s1.heap.objs.size (.tup xs),I1.laid (t':=s1.toks) (λb u e=>Qao _ e) (QbB _) ?_,rq,q _ hf⟩;exact⟨z,us,r,⟨_,Qaw _ rfl,rq,_,rq⟩⟩
theorem Dl (h:PA X es t):PE X (.List es pos) (aX t):=by
 intro jb s U H Q I hq;refine wpAny_List_spliced (thn (h pos jb s U H _ I hq) λus s1 zz=>?_);obtain⟨xs,H1,I1,r,z,q⟩:=zz;refine⟨by rw[<-r.length];exact z,?_⟩;have hf:H1 s1.heap.objs.size=none:=I1.hok.fresh (QbB _);refine⟨.ref s1.heap.objs.size,upd H1 s1.heap.objs.size (.lst xs),I1.laid (t':=s1.toks) (λb u e=>Qao _ e) (QbB _) ?_,rq,q _ hf⟩;exact⟨z,us,0,r,Qaw _ rfl⟩
end
abbrev Sp:=YG->Hp->VK->XK->Prop
abbrev CXT:=List Env->Hp->Shared->XK->YA
structure LC (P:Program) (w:World) (K:YD) (mg:YB) (base:Heap) (A:Around) (outer:List Env) (s:Shared) (H:Hp):Prop where
 frames:A.frames=some outer
 mod:Mod K mg base
 bs:∀b o,base.get? b=some o->s.heap.get? b=some o/\H b=none
 bsz:base.objs.size<=s.heap.objs.size
 G4:s.heap.FunFrames base outer
 frf:∀b∈frs outer,H b=none
 hok:HOk P w H s.heap
 bare:AllBare s.gens
def CE (outer:List Env) (P:Program) (w:World) (H:Hp) (s:Shared) (Q:VK) (u:Value) (s':Shared):Prop:=
 ∃v H',s'.os=s.os/\AllBare s'.gens/\Un (frs outer) [] H H' s.heap s'.heap/\HOk P w H' s'.heap/\RelV v u/\Q v H'
def CR (CX:CXT) (outer:List Env) (P:Program) (w:World) (H:Hp) (s:Shared) (Q:VK) (E:XK) (r:Result) (s':Shared):Prop:=
 match r with
 | .ok (.ret u)=>CE outer P w H s Q u s'
 | .ok _=>False
 | .error e=>CX outer H s E e s'
structure Fv (P:Program) (w:World) (K:YD) (mg:YB) (base:Heap) (CX:CXT) (k:Nat) (f:Addr) (fd:FuncData) (ps:YF) (sp:Sp):Prop where
 len:∀vs H Q E,sp vs H Q E->vs.length=ps.length
 run:∀(A:Around) (outer:List Env) (s:Shared) (H:Hp) (args:Args) (us:YE) (vs:YG) (Q:VK) (E:XK),CP k A->LC P w K mg base A outer s H->BindsTo s fd args (ps.zip us)->Vals vs us->sp vs H Q E ->
  codeAny (model P w) A (.call (.ref f) args) (CR CX outer P w H s Q E) s
theorem Fv.mono {P:Program} {w:World} {K:YD} {mg:YB} {base:Heap} {CX:CXT} {j k:Nat} {f:Addr} {fd:FuncData} {ps:YF} {sp:Sp} (F:Fv P w K mg base CX j f fd ps sp) (h:j<=k) :
  Fv P w K mg base CX k f fd ps sp:=⟨F.len,λA outer s H args us vs Q E hr=>F.run A outer s H args us vs Q E (hr.mono h)⟩
theorem Fv.imp {P:Program} {w:World} {K:YD} {mg:YB} {base:Heap} {CX:CXT} {k:Nat} {f:Addr} {fd:FuncData} {ps:YF} {sp sp':Sp} (F:Fv P w K mg base CX k f fd ps sp)
  (h:∀vs H Q E,sp' vs H Q E->sp vs H Q E):Fv P w K mg base CX k f fd ps sp':=
 ⟨λvs H Q E q=>F.len vs H Q E (h _ _ _ _ q),λA outer s H args us vs Q E hr he hb hv hs=>F.run A outer s H args us vs Q E hr he hb hv (h _ _ _ _ hs)⟩
theorem LC.in1 {P:Program} {w:World} {K:YD} {mg:YB} {base:Heap} {A:Around} {outer:List Env} {s:Shared} {H:Hp} (e:LC P w K mg base A outer s H) :
  LC P w K mg base A.in1 outer s H:=⟨e.frames,e.mod,e.bs,e.bsz,e.G4,e.frf,e.hok,e.bare⟩
section
variable {X:Cx} {jb:YC} {U : St} {H:Hp} {s s':Shared}
theorem Inv.env0 (I:Inv X jb U H s):LC X.prog X.w X.K X.mg X.base X.A X.stack s H:=
 ⟨I.ok.frames,I.ok.mod,I.bs,Qby I.ok.bsz I.sz,I.stack,I.Rq,I.hok,I.bare⟩
theorem Inv.after {Q:VK} {u:Value} (I:Inv X jb U H s) (h:CE X.stack X.prog X.w H s Q u s'):EP X jb U Q u s':=by
 obtain⟨v,H',os,bare,un,hok,r,q⟩:=h;obtain⟨hh,g,d,t,os'⟩:=s';obtain rfl:os'=s.os:=os;exact⟨v,H',I.call (h':=hh) (g':=g) (d':=d) (t':=t) (ch:=[]) un hok bare (λb z=>absurd z (by simp)),r,q⟩
end
def Xb (sp:Sp) (dvs:YG) (E:XK) (t:TA):TE:=fun U H Q=>t U H λvs H1=>sp (vs++dvs) H1 Q E
def Binds (K:YD) (fd:FuncData) (ps:YF) (ds:YE):Prop:=
 ∀(s:Shared) (us:YE),K.In s.heap->(us++ds).length=ps.length->BindsTo s fd ⟨us,[]⟩ (ps.zip (us++ds))
theorem Binds.all {K:YD} {fd:FuncData} {ps:YF} (h:∀us:YE,us.length=ps.length->bindArgs fd ⟨us,[]⟩=pure (ps.zip us)):Binds K fd ps []:=λs us _ hl=>by
 rw[Qbk] at hl ⊢;exact .of_eq (h us hl)
def Passes (CX:CXT) (X:Cx) (E:XK):Prop:=∀(jb:YC) (U : St) (H:Hp) (s:Shared) (e:Value) (s':Shared),Inv X jb U H s->CX X.stack H s E e s'->X.xe e s'
section
variable {X:Cx} {CX:CXT} {k:Nat} {f C:Addr} {fd:FuncData} {ps:YF} {sp:Sp} {dvs:YG} {ds:YE} {E:XK} {x m:Str} {p pos apos:Pos} {e o:Expr} {es:YJ} {ta:TE} {t:TA}
theorem Y7 {jb:YC} {U : St} {H:Hp} {s:Shared} {Q:VK} {us:YE} {vs:YG} (F:Fv X.prog X.w X.K X.mg X.base CX k f fd ps sp) (hr:CP k X.A) (hb:Binds X.K fd ps ds) (hd:Vals dvs ds) (hx:Passes CX X E)
  (I:Inv X jb U H s) (r:Vals vs us) (h:sp (vs++dvs) H Q E):wpAny (model X.prog X.w) X.A (call (.ref f) us) (EP X jb U Q) X.xe s:=by
 have r2:Vals (vs++dvs) (us++ds):=r.append hd;have hl:(us++ds).length=ps.length:=by rw[<-r2.length];exact F.len _ _ _ _ h
 refine wpAny_call (codeAny_mono (F.run X.A X.stack s H ⟨us,[]⟩ (us++ds) (vs++dvs) Q E hr I.env0 (hb s us I.kIn hl) r2 h) λr s' hq=>?_);cases r with
 | error e=>exact hx jb U H s e s' I hq
 | ok fl=>
  cases fl with
  | ret u=>exact I.after hq
  | next=>exact False.elim hq
  | brk=>exact False.elim hq
  | cont=>exact False.elim hq
theorem XQ (F:Fv X.prog X.w X.K X.mg X.base CX k f fd ps sp) (hr:CP k X.A) (hg:Gl X x) (hm:X.mg x=some (.ref f)) (hk:keepIn X.K (.ref f)=true) (hb:Binds X.K fd ps ds) (hd:Vals dvs ds) (hx:Passes CX X E)
  (ha:PA X (e::es) t) (hdb:(x == ("__debug__":Str))=false:=by decide) (he:starEach (e::es) X.env=(false,eval e X.env)::starEach es X.env:=by rfl) (hpl:(backTo pos (starEach es X.env)).any (·.1)=false:=by rfl) :
  PE X (.Call (.Name x p) (e::es) [] pos) (Xb sp dvs E t):=by
 intro jb s U H Q I h;refine wpAny_Call_Name_kw (RN I hg hm ?_ hdb);refine PySem.W.callWith_K (h₀:=X.base) I.ok.mod.kin hk (thn (ha pos jb s U H _ I h) λus s1 zz=>?_) he hpl;obtain⟨vs,H1,I1,r,q⟩:=zz;refine⟨I1.kIn,?_⟩;exact Y7 F hr hb hd hx I1 r q
end
section
variable {X:Cx} {CX:CXT} {k:Nat} {f C:Addr} {fd:FuncData} {ps ks:YF} {sp:Sp} {E:XK} {x m:Str} {p pos apos kpos:Pos} {e o:Expr} {es:YJ} {kws:List Keyword} {te ta:TE} {t tk:TA} {nm:Option Str}
variable {g:YE->YE->YE} {gV:YG->YG->YG}
end
structure Bc (N P:YF) (sc:Scope):Prop where
 kind:sc.kind=.function
 co:sc.isCoroutine=false
 gen:sc.isGenerator=false
 nd:N.Nodup
 pre:N.take P.length=P
 par:∀x∈P,sc.names.lookup x=some .local\/sc.names.lookup x=some .cell
 Qi:∀y∈sc.names,y.2≠.free
theorem Oc {kindOf:Str->Option NameKind} {x:Str}:∀{binds:List (Str×Value)} {m:YB},(∀v,(x,v)∉binds)->bindL kindOf binds m x=m x
 | [],_,_=>rfl
 | (n,v)::r,m,h=>by
  unfold bindL;rw[Oc λw hw=>h w (Qas _ hw)];split
  ·have:x≠n:=by rintro rfl;exact h v QaB
   simp[this]
  ·rfl
theorem Oe {kindOf:Str->Option NameKind} {x:Str}:∀{binds:List (Str×Value)} {m:YB},(∀v,(x,v)∉binds)->bindC kindOf binds m x=m x
 | [],_,_=>rfl
 | (n,v)::r,m,h=>by
  unfold bindC;rw[Oe λw hw=>h w (Qas _ hw)];split
  ·rfl
  ·have:x≠n:=by rintro rfl;exact h v QaB
   simp[this]
theorem Od {kindOf:Str->Option NameKind} {x:Str} {v:Value}:∀{P:YF} {vs:YE} {i:Nat} {m:YB},P.Nodup->P[i]?=some x->vs[i]?=some v->kindOf x=some .local ->
  bindL kindOf (P.zip vs) m x=some v
 | [],_,_,_,_,h,_,_=>by simp at h
 | _::_,[],_,_,_,_,h,_=>by simp at h
 | p::P,w::vs,0,m,nd,h1,h2,hk=>by
  simp at h1 h2;subst h1;subst h2;show bindL kindOf ((p,w)::P.zip vs) m p=_;unfold bindL;rw[Oc λv hv=>(Qbh.mp nd).1 (List.of_mem_zip hv).1,if_pos hk];simp
 | p::P,w::vs,i+1,m,nd,h1,h2,hk=>by
  show bindL kindOf ((p,w)::P.zip vs) m x=_;unfold bindL;exact Od (i:=i) (Qbh.mp nd).2 (by simpa using h1) (by simpa using h2) hk
theorem Og {kindOf:Str->Option NameKind} {x:Str} {v:Value}:∀{P:YF} {vs:YE} {i:Nat} {m:YB},P.Nodup->P[i]?=some x->vs[i]?=some v->kindOf x≠some .local ->
  bindC kindOf (P.zip vs) m x=some v
 | [],_,_,_,_,h,_,_=>by simp at h
 | _::_,[],_,_,_,_,h,_=>by simp at h
 | p::P,w::vs,0,m,nd,h1,h2,hk=>by
  simp at h1 h2;subst h1;subst h2;show bindC kindOf ((p,w)::P.zip vs) m p=_;unfold bindC;rw[Oe λv hv=>(Qbh.mp nd).1 (List.of_mem_zip hv).1,if_neg hk];simp
 | p::P,w::vs,i+1,m,nd,h1,h2,hk=>by
  show bindC kindOf ((p,w)::P.zip vs) m x=_;unfold bindC;exact Og (i:=i) (Qbh.mp nd).2 (by simpa using h1) (by simpa using h2) hk
def start (N:YF) (vs:YG):St:=vs.map some++List.replicate (N.length - vs.length) none
def Kv (CX:CXT) (P:Program) (w:World) (K:YD) (mg:YB) (base:Heap) (N:YF) (qual:Str) (scope:Scope) (f:Addr) (cd:Value) (A:Around) (outer:List Env) (s:Shared) (H:Hp) (E:XK):Cx where
 prog:=P
 w:=w
 K:=K
 mg:=mg
 base:=base
 A:=A.deeper (envOfC qual scope s.heap.objs.size f cd)
 N:=N
 s₀:=s
 H₀:=H
 env:=envOfC qual scope s.heap.objs.size f cd
 outer:=outer
 stack:=envOfC qual scope s.heap.objs.size f cd::outer
 ex:=[]
 calm:=true
 fn:=λ_=>true
 pn:=[]
 xe:=λe s'=>wpAny (model P w) (A.deeper (envOfC qual scope s.heap.objs.size f cd)) (leaving (envOfC qual scope s.heap.objs.size f cd) e) (λ_ s''=>CX outer H s E e s'') (λe' s''=>CX outer H s E e' s'') s'
theorem QJ {sc:Scope} {n:Nat} {x:Str} (h:sc.names.lookup x=some .cell):∃c,(cellsFrom n sc.names []).lookup x=some c:=by
 have q:=PySem.W.cellsFrom_some sc.names n [] (.inl h);exact Option.isSome_iff_exists.mp q
theorem Vn {CX:CXT} {P:Program} {w:World} {K:YD} {mg:YB} {base:Heap} {N ps:YF} {qual:Str} {scope:Scope} {f:Addr} {cd:Value} {A:Around} {outer:List Env} {s s1:Shared} {H:Hp} {E:XK} {us:YE} {vs:YG}
  (S:Bc N ps scope) (hd:A.handled=none) (e0:LC P w K mg base A outer s H) (hl:vs.length=ps.length) (r:Vals vs us)
  (x:InCallC s s.heap.objs.size (bindL (envOfC qual scope s.heap.objs.size f cd).kindOf (ps.zip us) λ_=>none) (cellsFrom (s.heap.objs.size+1) scope.names []) (bindC (envOfC qual scope s.heap.objs.size f cd).kindOf (ps.zip us) λ_=>none) s1) :
  Inv (Kv CX P w K mg base N qual scope f cd A outer s H E) [] (start N vs) H s1:=by
 have hpl:ps.length<=N.length:=by have:=congrArg List.length S.pre;rw[QaT] at this;omega
 obtain⟨h1,tk,rfl,hk⟩:=x.done;have noA:∀b:Addr,b∉(Kv CX P w K mg base N qual scope f cd A outer s H E).ex:=λb z=>absurd (show b∈([]:List Addr) from z) (by simp)
 refine⟨⟨e0.mod,S.kind,rq,rq,QbB _,λy z c h1 h2=>?_,λy hy=>?_,λy c _ h=>?_,λ_=>hd,Around.frames_deeper e0.frames,.inr ⟨rq,rq⟩,λb z=>absurd z (noA b),e0.bs,e0.bsz,λb _ _=>noA b,λb z=>absurd z (noA b),e0.G4,e0.frf⟩,
  rfl,e0.bare,Un.kept hk,⟨_,x.toInCall.ns,λi y v h1 h2 h3=>?_⟩,λy c h=>⟨_,x.cell y c h⟩,e0.hok.fresh (QbB _),λy c h=>?_,λp hp=>absurd (show p∈([]:YC) from hp) (by simp),e0.hok.kept hk,?_⟩
 ·exact name_of_addr x.apart (Qax h1) (Qax h2)
 ·have hy:scope.names.lookup y=some .cell\/scope.names.lookup y=some .free:=hy;rcases hy with hy | hy
  ·exact QJ hy
  ·exact absurd rfl (S.Qi _ (Qax hy))
 ·exact Nat.le_of_lt (x.above y c (Qax h))
 ·have hi:i < vs.length:=by
   unfold start at h2;by_cases hi:i < vs.length
   ·exact hi
   ·rw[Qad (by simpa using hi)] at h2;rw[List.getElem?_replicate] at h2;split at h2 <;> cases h2
  have ha:vs[i]?=some v:=by
   unfold start at h2;rw[Qaf (by simpa using hi),QaM] at h2;cases e:vs[i]? with
   | none=>rw[e] at h2;cases h2
   | some a=>rw[e] at h2;cases h2;rfl
  obtain⟨u,hu,rv⟩:=r.get ha;have hp:ps[i]?=some y:=by
   rw[<-S.pre,List.getElem?_take_of_lt (by omega)];exact h1
  have ndP:ps.Nodup:=by rw[<-S.pre];exact S.nd.sublist (List.take_sublist _ _)
  refine⟨u,rv,?_⟩;rcases S.par y (Qat hp) with k | k
  ·exact .inl ⟨k,Od ndP hp hu k⟩
  ·obtain⟨c,e⟩:=QJ (n:=s.heap.objs.size+1) k;refine .inr ⟨.inl k,c,e,?_⟩;have q:=x.cell y c e;rw[Og ndP hp hu (by show scope.names.lookup y≠_;rw[k];decide)] at q;exact q
 ·exact e0.hok.fresh (Nat.le_of_lt (x.above y c (Qax h)))
 ·unfold start;show _=N.length;rw[Qaz,QaX,List.length_replicate];omega
theorem aK {CX:CXT} {P:Program} {w:World} {K:YD} {mg:YB} {base:Heap} {k:Nat} {f:Addr} {name qual:Str} {params:Arguments} {body:List Stmt} {scope:Scope} {dV kV doc pm cdv ct oc:Value} {an od:Option Addr}
  {osl:YI} {N ps:YF} {sp:Sp} (lk:K.lookup f=some ⟨oc,od,.func (fnOf name qual params body scope dV kV doc pm an cdv ct),osl⟩) (hcd:codeIn K cdv qual=true) (S:Bc N ps scope)
  (len:∀vs H Q E,sp vs H Q E->vs.length=ps.length)
  (hbody:∀(A:Around) (outer:List Env) (s:Shared) (H:Hp) (vs:YG) (Q:VK) (E:XK),CP k (A.deeper (envOfC qual scope s.heap.objs.size f cdv))->sp vs H Q E ->
   ∃t,PSs (Kv CX P w K mg base N qual scope f cdv A outer s H E) body t/\t { nx:=λ_ H'=>Q .non H',rt:=Q } (start N vs) H) :
  Fv P w K mg base CX (k+1) f (fnOf name qual params body scope dV kV doc pm an cdv ct) ps sp:=by
 refine⟨len,λA outer s H args us vs Q E hr e0 hb r hsp=>?_⟩;have hl:=len _ _ _ _ hsp;have KX:K.In s.heap:=e0.mod.kin.keeps λb o e=>(e0.bs b o e).1;have lim:s.heap.NoLimit:=e0.mod.nolimit.keeps λb o e=>(e0.bs b o e).1;have hkind:∀y∈ps.zip us,scope.names.lookup y.1=some .local\/(scope.names.lookup y.1=some .cell/\((cellsFrom (s.heap.objs.size+1) scope.names []).lookup y.1).isSome=true):=λ⟨n,v⟩ hy=>by
  rcases S.par n (List.of_mem_zip hy).1 with q | q
  ·exact .inl q
  ·exact .inr ⟨q,PySem.W.cellsFrom_some _ _ _ (.inl q)⟩
 refine codeAny_call_function hr.depth (KX _ _ lk) rfl S.co S.gen rfl (PySem.W.codeRec_of KX hcd) (hb _ _ _ _ ?_);refine wpAny_newFunctionEnv_cells S.kind hkind λenv he s1 x=>?_;subst he;refine⟨lim.keeps x.toInCall.keep,codeAny_func ?_⟩;obtain⟨t,ht,hq⟩:=hbody A outer s H vs Q E (hr.deeper _) hsp;have I:Inv (Kv CX P w K mg base N qual scope f cdv A outer s H E) [] (start N vs) H s1:=Vn S hr.hd e0 hl r x;refine QbG (ht [] s1 (start N vs) H _ I hq) (λfl s' hs=>?_) λe s' hs=>hs;have fin:∀{σ':St} {H':Hp} {v:V} {u:Value},Inv (Kv CX P w K mg base N qual scope f cdv A outer s H E) [] σ' H' s'->RelV v u->Q v H'->CE outer P w H s Q u s':=
  λ{σ' H' v u} J rv q=>⟨v,H',J.os,J.bare,J.base,J.hok,rv,q⟩
 cases fl with
 | ret u=>
  obtain⟨v,σ',H',J,rv,q⟩:=hs;exact fin J rv q
 | next=>
  obtain⟨σ',H',J,q⟩:=hs;exact fin (v:=V.non) (u:=Value.none) J rfl q
 | brk=>
  obtain⟨_,_,_,q⟩:=hs;exact False.elim q
 | cont=>
  obtain⟨_,_,_,q⟩:=hs;exact False.elim q
section
variable {X:Cx} {x:Str} {p pos:Pos} {e:Expr} {es:YJ} {t:TA} {id T:String} {r:YG->Hp->VK->Prop}
def tCB (r:YG->Hp->VK->Prop) (t:TA):TE:=fun U H Q=>t U H λvs H1=>r vs H1 Q
theorem Bd (hc:Ds X (.builtin id) r) (hg:Gl X x) (hm:X.mg x=none) (hv:bootBuiltins x=some (.builtin id)) (ha:PA X (e::es) t) (hn:x≠"__name__":=by decide) (hdb:(x == ("__debug__":Str))=false:=by decide)
  (he:starEach (e::es) X.env=(false,eval e X.env)::starEach es X.env:=by rfl) (hpl:(backTo pos (starEach es X.env)).any (·.1)=false:=by rfl):PE X (.Call (.Name x p) (e::es) [] pos) (tCB r t):=by
 intro jb s U H Q I h;refine wpAny_Call_Name_kw (Ms I hg hm hv ?_ hn hdb);refine PyProof.Rows.callWith_builtin1 (thn (ha pos jb s U H _ I h) λus s1 zz=>?_) he hpl;obtain⟨vs,H1,I1,r1,q1⟩:=zz;exact hc jb s1 U H1 vs us Q I1 r1 q1
theorem Cr (hc:Ds X (.type T) r) (hg:Gl X x) (hm:X.mg x=none) (hv:bootBuiltins x=some (.type T)) (ha:PA X (e::es) t) (hn:x≠"__name__":=by decide) (hdb:(x == ("__debug__":Str))=false:=by decide)
  (he:starEach (e::es) X.env=(false,eval e X.env)::starEach es X.env:=by rfl) (hpl:(backTo pos (starEach es X.env)).any (·.1)=false:=by rfl):PE X (.Call (.Name x p) (e::es) [] pos) (tCB r t):=by
 intro jb s U H Q I h;refine wpAny_Call_Name_kw (Ms I hg hm hv ?_ hn hdb);refine PyProof.Rows.callWith_type1 (thn (ha pos jb s U H _ I h) λus s1 zz=>?_) he hpl;obtain⟨vs,H1,I1,r1,q1⟩:=zz;exact hc jb s1 U H1 vs us Q I1 r1 q1
end
end L2
namespace HT
open PySem PyProof.Rows
section
open PySem.SeqAt
open PySem.AutoSeq1 (wpAny_loadPart')
open PySem.MeetsSeq PySem.MeetsSeq2 PySem.MeetsSeq3
end
section
variable {prog:Program} {w:World} {A:Around} {E:YA} {s:Shared}
def sIx (n d:Nat):Option Int->Nat
 | none=>d
 | some v=>if v < 0 then (v+(n:Int)).toNat else min v.toNat n
theorem V7 (n d:Nat):sIx n d none=d:=rfl
theorem Rz (n d k:Nat):sIx n d (some (k:Int))=min k n:=by
 show (if (k:Int) < 0 then ((k:Int)+(n:Int)).toNat else min (k:Int).toNat n)=min k n
 rw[if_neg (by omega),QaP]
theorem Y6 (n d:Nat) (hd:d<=n) (o:Option Int):sIx n d o<=n:=by
 cases o with
 | none=>exact hd
 | some v=>
  show (if v < 0 then (v+(n:Int)).toNat else min v.toNat n)<=n
  by_cases hv:v < 0
  ·rw[if_pos hv];omega
  ·rw[if_neg hv];exact Nat.min_le_right _ _
theorem Sd (v:Int) (n d:Nat):(if v < 0 then max (v+(n:Int)) 0 else min v (n:Int))=((sIx n d (some v):Nat):Int):=by
 show (if v < 0 then max (v+(n:Int)) 0 else min v (n:Int))=(((if v < 0 then (v+(n:Int)).toNat else min v.toNat n):Nat):Int)
 by_cases hv:v < 0
 ·simp only[if_pos hv];omega
 ·simp only[if_neg hv];omega
theorem T8 (lo hi:Option Int) (n:Nat):Builtin.Slice.sliceAdjust lo hi 1 (n:Int)=(((sIx n 0 lo:Nat):Int),((sIx n n hi:Nat):Int)):=by
 have h1:¬((1:Int) < 0):=by omega
 unfold Builtin.Slice.sliceAdjust;simp only[h1,if_false];refine Prod.ext ?_ ?_
 ·cases lo with
  | none=>rfl
  | some v=>exact Sd v n 0
 ·cases hi with
  | none=>rfl
  | some v=>exact Sd v n n
theorem S6 (i j:Nat):Builtin.Slice.slicePlaces (i:Int) (j:Int) 1=j - i:=by
 unfold Builtin.Slice.slicePlaces;have h1:(1:Int) > 0:=by omega
 simp only[h1,if_true,Int.ediv_one];split <;> omega
theorem Mg {v:Value} {o:Option Int} {Q:Option Int->Shared->Prop} (p:IsPart v o) (h:Q o s):wpAny (model prog w) A (Builtin.Slice.slicePartIndex v) Q E s:=by
 cases p with
 | none=>exact slicePart_none h
 | int i t=>exact slicePart_int h
theorem Ia {sl:Addr} {vl vu:Value} {lo hi:Option Int} {n:Nat} {Q:Int×Int×Nat->Shared->Prop} (hs:s.heap.IsSliceOf sl vl vu .none) (pl:IsPart vl lo) (pu:IsPart vu hi)
  (h:Q (((sIx n 0 lo:Nat):Int),1,sIx n n hi - sIx n 0 lo) s):wpAny (model prog w) A (Builtin.Slice.sliceApplied (.ref sl) (pure (n:Int))) Q E s:=by
 obtain⟨os,hos,hcs,hds⟩:=id hs;unfold Builtin.Slice.sliceApplied Builtin.Slice.sliceFields;refine QbE (QbE (wpAny_field hos hds (x:=vl) rfl (QbE (wpAny_field hos hds (x:=vu) rfl (QbE (wpAny_field hos hds (x:=.none) rfl (QbF ?_)))))));refine QbE (slicePart_none ?_);show wpAny _ _ (if ((1:Int) == 0)=true then _ else _) _ _ s
 rw[if_neg (by decide)];refine QbE (Mg pl (QbE (Mg pu (QbE (QbF ?_)))));show wpAny _ _ (match Builtin.Slice.sliceAdjust lo hi 1 (n:Int) with | (lo,hi)=>pure (lo,(1:Int),Builtin.Slice.slicePlaces lo hi 1)) _ _ s
 rw[T8 lo hi n];show wpAny _ _ (pure (((sIx n 0 lo:Nat):Int),(1:Int),Builtin.Slice.slicePlaces ((sIx n 0 lo:Nat):Int) ((sIx n n hi:Nat):Int) 1)) _ _ s;rw[S6];exact QbF h
theorem Wf (xs:Array Value) (i k:Nat):((List.range k).filterMap λ(m:Nat)=>xs[((i:Int)+(m:Int)*1).toNat]?).toArray=((xs.toList.drop i).take k).toArray:=by
 have e:(λ(m:Nat)=>xs[((i:Int)+(m:Int)*1).toNat]?)=λm=>xs[i+m]?:=by
  funext m
  have:((i:Int)+(m:Int)*1).toNat=i+m:=by omega
  rw[this]
 rw[e];have:=pick_run xs i k;rw[List.filterMap_map] at this;have e2:((λx=>xs[x]?) ∘ λx=>i+x)=λm=>xs[i+m]?:=rfl;rw[e2] at this;rw[this]
theorem K4 {t sl:Addr} {items:Array Value} {vl vu:Value} {lo hi:Option Int} {Q:YA} (ht:IsTup s.heap t items) (hs:s.heap.IsSliceOf sl vl vu .none) (pl:IsPart vl lo) (pu:IsPart vu hi)
  (hw:¬(sIx items.size 0 lo=0/\sIx items.size items.size hi=items.size))
  (h:Q (.ref s.heap.objs.size) { s with heap:=s.heap.push { cls:=.type "tuple",data:=.seq ((items.toList.drop (sIx items.size 0 lo)).take (sIx items.size items.size hi - sIx items.size 0 lo)).toArray } })
  (hsz:items.size<=sizeLine):wpAny (model prog w) A (getItem (.ref t) (.ref sl)) Q E s:=by
 have Pg:sizeOk (.seq ((items.toList.drop (sIx items.size 0 lo)).take (sIx items.size items.size hi - sIx items.size 0 lo)).toArray):=by
  show ((items.toList.drop (sIx items.size 0 lo)).take (sIx items.size items.size hi - sIx items.size 0 lo)).toArray.size<=sizeLine;rw[QaK,QaT,List.length_drop,Qay];omega
 have hj:sIx items.size items.size hi<=items.size:=Y6 _ _ (QbB _) hi;obtain⟨os,hos,hcs,hds⟩:=id hs;have hTs:s.TypeIs (.ref sl) "slice":=⟨os,hos,hcs⟩;unfold getItem
 try with_reducible refine wpAny_holding ?_
 first | refine QbE (QbF ?_) | skip
 refine QbE (wpAny_sequenceKey ht.typeIs (by decide) ?_);refine QbE (Qal (name:=Str.ofString "__getitem__") ht.typeIs Qab
  (wpAny_call_entry Qab ht.typeIs entry_tuple_getitem ?_ (args_tuple_getitem _ _)))
 show wpAny _ _ (Builtin.Tuple.tupleItemsOf (.ref t) >>= _) _ _ s;refine QbE (tupleItemsOf_ ht ?_);refine QbE (wpAny_typeOf hTs ?_);rw[if_pos (by decide)];refine QbE (Ia hs pl pu ?_);have hno:¬((((sIx items.size 0 lo:Nat):Int) == 0&&(1:Int) == 1&&(sIx items.size items.size hi - sIx items.size 0 lo) == items.size)=true):=by
  intro q;rw[QaR,QaR] at q;have q1:((sIx items.size 0 lo:Nat):Int)=0:=QbI q.1.1;have q2:sIx items.size items.size hi - sIx items.size 0 lo=items.size:=QbI q.2;exact hw ⟨by omega,by omega⟩
 show wpAny _ _ (if (((sIx items.size 0 lo:Nat):Int) == 0&&(1:Int) == 1&&(sIx items.size items.size hi - sIx items.size 0 lo) == items.size)=true then _ else _) _ _ s
 rw[if_neg hno,Wf]
 first
  | exact QbE (m:=Builtin.Tuple.tupleExact _) (QaO (QbF ⟨_,rfl,QbF h⟩) Pg)
  | exact QbE (m:=Builtin.Tuple.tupleExact _) (QaO (QbE (QbF (QbF ⟨_,rfl,QbF h⟩))) Pg)
  | exact QbE (QbE (m:=Builtin.Tuple.tupleExact _) (QaO (QbF (QbF ⟨_,rfl,QbF h⟩)) Pg))
  | exact QbE (QbE (m:=Builtin.Tuple.tupleExact _) (QaO (QbF ⟨_,rfl,QbF h⟩) Pg))
end
end HT
namespace L2
open PySem PySem.Spec PyProof.Rows
abbrev TO:=St->Hp->(Option Int->Hp->Prop)->Prop
def PO (X:Cx) (e:Option Expr) (t:TO):Prop:=
 ∀(jb:YC) (s:Shared) (U : St) (H:Hp) (Q:Option Int->Hp->Prop),Inv X jb U H s->t U H Q ->
  wpAny (model X.prog X.w) X.A (evalPart e X.env) (λu s'=>∃o H',Inv X jb U H' s'/\IsPart u o/\Q o H') X.xe s
def Xv:TO:=λ_ H Q=>Q none H
def Z4 (t:TE):TO:=fun U H Q=>t U H λx H1=>∃i,x=.int i/\Q (some i) H1
section
variable {X:Cx} {e:Expr} {te:TE} {lo hi:Option Expr} {tl th:TO} {pos p2:Pos}
theorem Dw:PO X none Xv:=by
 intro jb s U H Q I h;rw[evalPart_none];exact QbF ⟨none,H,I,.none,h⟩
theorem Cq (h:PE X e te):PO X (some e) (Z4 te):=by
 intro jb s U H Q I hw;rw[evalPart_some];refine thn (h jb s U H _ I hw) λu s1 zz=>?_;obtain⟨x,H1,I1,r1,q1⟩:=zz;obtain⟨i,rfl,q⟩:=q1;obtain⟨t,rfl⟩:=r1;exact⟨some i,H1,I1,.int i t,q⟩
def SlR (X:Cx) (r:V->Option Int->Option Int->Hp->VK->Prop):Prop:=
 ∀(jb:YC) (s:Shared) (U : St) (H:Hp) (x:V) (v vl vu:Value) (lo hi:Option Int) (sl:Addr) (Q:VK),Inv X jb U H s->RelV x v->s.heap.IsSliceOf sl vl vu .none->IsPart vl lo->IsPart vu hi->r x lo hi H Q ->
  ∃T id,typeLookup (.type T) "__getitem__"=pure (some (.builtin id))/\s.TypeIs v T/\wpAny (model X.prog X.w) X.A (getItem v (.ref sl)) (EP X jb U Q) X.xe s
theorem SlR.or {r r':V->Option Int->Option Int->Hp->VK->Prop} (h:SlR X r) (h':SlR X r'):SlR X (λx lo hi H Q=>r x lo hi H Q\/r' x lo hi H Q):=by
 intro jb s U H x v vl vu lo hi sl Q I rx hs pl pu q;rcases q with q | q
 ·exact h jb s U H x v vl vu lo hi sl Q I rx hs pl pu q
 ·exact h' jb s U H x v vl vu lo hi sl Q I rx hs pl pu q
def tSl (r:V->Option Int->Option Int->Hp->VK->Prop) (te:TE) (tl th:TO):TE:=fun U H Q=>te U H λx H1=>tl U H1 λl H2=>th U H2 λu H3=>r x l u H3 Q
theorem Ce {r:V->Option Int->Option Int->Hp->VK->Prop} (hr:SlR X r) (he:PE X e te) (hl:PO X lo tl) (hu:PO X hi th):PE X (.Subscript e (.Slice lo hi none p2) pos) (tSl r te tl th):=by
 intro jb s U H Q I h;refine Subscript_ (thn (he jb s U H _ I h) λv s1 zz=>?_);obtain⟨x,H1,I1,r1,q1⟩:=zz;refine wpAny_Slice (thn (hl jb s1 U H1 _ I1 q1) λvl s2 zz=>?_);obtain⟨l,H2,I2,pl,q2⟩:=zz;refine thn (hu jb s2 U H2 _ I2 q2) λvu s3 zz=>?_;obtain⟨u,H3,I3,pu,q3⟩:=zz;rw[evalPart_none];refine QbF ?_;have I4:Inv X jb U H3 { s3 with heap:=s3.heap.push { cls:=.type "slice",data:=.fields #[vl,vu,.none] } }:=I3.kept (t':=s3.toks) λb ob q=>Qao _ q;obtain⟨T,id,hT,ht,hg⟩:=hr jb { s3 with heap:=s3.heap.push { cls:=.type "slice",data:=.fields #[vl,vu,.none] } } U H3 x v vl vu l u s3.heap.objs.size Q I4 r1 (Heap.IsSliceOf.new ..) pl pu q3;show wpAny (model X.prog X.w) X.A (subscriptTail e (.Slice lo hi none p2) v (.ref s3.heap.objs.size)) (EP X jb U Q) X.xe { s3 with heap:=s3.heap.push { cls:=.type "slice",data:=.fields #[vl,vu,.none] } };exact tail_any (ops:=[.ref s3.heap.objs.size,v]) ht hT hg (by with_unfolding_all rfl)
def FP (xs:YG) (lo hi:Option Int):YG:=(xs.drop (HT.sIx xs.length 0 lo)).take (HT.sIx xs.length xs.length hi - HT.sIx xs.length 0 lo)
theorem K8 (xs:YG) (lo hi:Option Int):(FP xs lo hi).length<=xs.length:=by
 unfold FP;rw[QaT,List.length_drop];omega
def bh (K:YD):V->Option Int->Option Int->Hp->VK->Prop:=λx lo hi H Q=>∃a xs,x=.ref a/\SqT K H a xs /\
 ¬(HT.sIx xs.length 0 lo=0/\HT.sIx xs.length xs.length hi=xs.length)/\∀p,H p=none->Q (.ref p) (upd H p (.tup (FP xs lo hi)))
theorem Y0:SlR X (bh X.K):=by
 intro jb s U H x v vl vu lo hi sl Q I rx hs pl pu h;obtain⟨a,xs,rfl,hx,hw,q⟩:=h;cases rx;obtain⟨its,r,ht,hz⟩:=I.tuple hx;have hlen:its.toArray.size=xs.length:=by rw[QaK];exact r.length.symm
 refine⟨"tuple",_,Qab.lookup,ht.typeIs,?_⟩;refine HT.K4 ht hs pl pu (by rw[hlen];exact hw) ?_ (by rw[hlen];exact hz);rw[hlen];refine⟨.ref s.heap.objs.size,_,I.laid (t':=s.toks) (o:=.tup (FP xs lo hi)) (λb ob q=>Qao _ q) (QbB _) ?_,rq,q _ (I.hok.fresh (QbB _))⟩;exact⟨Qby (K8 xs lo hi) hz,_,(r.drop (HT.sIx xs.length 0 lo)).take (HT.sIx xs.length xs.length hi - HT.sIx xs.length 0 lo),IsTup.new _ _⟩
end
def ixN (n:Nat) (i:Int):Option Nat:=if 0<=i then (if i < n then some i.toNat else none) else if -(n:Int)<=i then some (i+n).toNat else none
def atI {α : Type} (xs:List α) (i:Int):Option α:=(ixN xs.length i).bind λj=>xs[j]?
theorem RQ {n:Nat} {i:Int} {j:Nat} (h:ixN n i=some j):seqIndex? i n=some j/\j < n/\-(n:Int)<=i/\i < n:=by
 unfold ixN at h;by_cases h0:0<=i
 ·rw[if_pos h0] at h;by_cases h1:i < n
  ·rw[if_pos h1] at h;have e:i.toNat=j:=Qbc h;exact⟨by rw[seqIndex_of h0 h1,e],by omega,by omega,h1⟩
  ·rw[if_neg h1] at h;cases h
 ·rw[if_neg h0] at h;by_cases h1:-(n:Int)<=i
  ·rw[if_pos h1] at h;have e:(i+n).toNat=j:=Qbc h;exact⟨by rw[seqIndex_neg (by omega) h1,e],by omega,h1,by omega⟩
  ·rw[if_neg h1] at h;cases h
theorem Nr {α : Type} {xs:List α} {i:Int} {v:α} (h:atI xs i=some v):∃j,seqIndex? i xs.length=some j/\xs[j]?=some v/\j < xs.length/\-(xs.length:Int)<=i/\i < xs.length:=by
 unfold atI at h;cases e:ixN xs.length i with
 | none=>rw[e] at h;cases h
 | some j=>
  rw[e] at h;obtain⟨h1,h2,h3,h4⟩:=RQ e;exact⟨j,h1,h,h2,h3,h4⟩
theorem Ai {α : Type} {xs:List α} {j:Nat} {v:α} (h:xs[j]?=some v):atI xs (j:Int)=some v:=by
 have hj:j < xs.length:=(Qae.mp h).1;have e:ixN xs.length (j:Int)=some j:=by
  unfold ixN;rw[if_pos (by omega),if_pos (by omega)];simp
 unfold atI;rw[e];exact h
def Ys (b:Expr):Prop:=∀o i,subscripted b false o i=operate [o,i] (getItem o i)
def IxR (X:Cx) (r:R2):Prop:=
 ∀(value slice:Expr) (jb:YC) (s:Shared) (U : St) (H:Hp) (x y:V) (v u:Value) (Q:VK),Inv X jb U H s->RelV x v->RelV y u->r x y H Q ->
  subscripted slice false v u=operate [v,u] (getItem v u)->wpAny (model X.prog X.w) X.A (subscriptTail value slice v u) (EP X jb U Q) X.xe s
def MtR (X:Cx) (id:String) (r:V->YG->Hp->VK->Prop):Prop:=
 ∀(jb:YC) (s:Shared) (U : St) (H:Hp) (x:V) (xs:YG) (v:Value) (us:YE) (Q:VK),Inv X jb U H s->RelV x v->Vals xs us->r x xs H Q ->
  wpAny (model X.prog X.w) X.A (call (.builtin id) (v::us)) (EP X jb U Q) X.xe s
section
variable {X:Cx} {a b:Expr} {ta tb:TE} {pos:Pos}
theorem IxR.or {r r':R2} (h:IxR X r) (h':IxR X r'):IxR X (λx y H Q=>r x y H Q\/r' x y H Q):=by
 intro value slice jb s U H x y v u Q I rx ry q hs;rcases q with q | q
 ·exact h value slice jb s U H x y v u Q I rx ry q hs
 ·exact h' value slice jb s U H x y v u Q I rx ry q hs
theorem MtR.or {id:String} {r r':V->YG->Hp->VK->Prop} (h:MtR X id r) (h':MtR X id r'):MtR X id (λx xs H Q=>r x xs H Q\/r' x xs H Q):=by
 intro jb s U H x xs v us Q I rx rs q;rcases q with q | q
 ·exact h jb s U H x xs v us Q I rx rs q
 ·exact h' jb s U H x xs v us Q I rx rs q
theorem Aw {r:R2} (hr:IxR X r) (ha:PE X a ta) (hb:PE X b tb) (hs:Ys b):PE X (.Subscript a b pos) (tOp r ta tb):=by
 intro jb s U H Q I h;exact Subscript_ (WT ha hb I h λv u s2 x y H2 I2 rx ry q=>hr a b jb s2 U H2 x y v u Q I2 rx ry q (hs _ _))
def bC (K:YD):R2:=λx y H Q=>∃p xs i v,x=.ref p/\y=.int i/\SqL K H p xs/\atI xs i=some v/\Q v H
def bx (K:YD):R2:=λx y H Q=>∃p xs i v,x=.ref p/\y=.int i/\SqT K H p xs/\atI xs i=some v/\Q v H
def bA:R2:=λx y H Q=>∃z i c,x=.str z/\y=.int i/\z.length<=sizeLine/\atI z.cps.toList i=some c/\Q (.str ⟨#[c]⟩) H
theorem Bm:IxR X (bC X.K):=by
 intro value slice jb s U H x y v u Q I rx ry h hs;obtain⟨p,xs,i,z,rfl,rfl,hq,he,q⟩:=h;cases rx;obtain⟨t,rfl⟩:=ry;obtain⟨its,r,pl,hz⟩:=I.list hq;obtain⟨j,h1,h2,h3,h4,h5⟩:=Nr he;obtain⟨w,ew,rw'⟩:=r.get h2;have hl:=r.length;have hn:=IK;have fin:EP X jb U Q w s:=⟨z,H,I,rw',q⟩;by_cases h0:0<=i
 ·have hj:i.toNat=j:=by
   rw[seqIndex_of h0 h5] at h1;exact Qbc h1
  exact item_listR pl.isList h0 (by omega) (by rw[hj];simpa using ew) fin hs
 ·have hj:(i+(its.toArray.size:Int)).toNat=j:=by
   rw[seqIndex_neg (by omega) h4] at h1;rw[QaK,<-hl];exact Qbc h1
  exact subscriptTail_builtinR (x:=w) pl.isList.typeIs slot_list_getitem.lookup
   (wpAny_getItem_list_neg (Q:=λr s'=>r=w/\EP X jb U Q r s') pl.isList (by omega) (by rw[QaK] <;> omega) (by omega) (by rw[hj];simpa using ew) ⟨rq,fin⟩) hs
theorem Bf:IxR X (bx X.K):=by
 intro value slice jb s U H x y v u Q I rx ry h hs;obtain⟨p,xs,i,z,rfl,rfl,hq,he,q⟩:=h;cases rx;obtain⟨t,rfl⟩:=ry;obtain⟨its,r,pl,hz⟩:=I.tuple hq;obtain⟨j,h1,h2,h3,h4,h5⟩:=Nr he;obtain⟨w,ew,rw'⟩:=r.get h2;have hl:=r.length;have hn:=IK;have fin:EP X jb U Q w s:=⟨z,H,I,rw',q⟩;exact subscriptTail_builtinR (x:=w) pl.typeIs slot_tuple_getitem.lookup
  (getItem_tuple (j:=j) (Q:=λr s'=>r=w/\EP X jb U Q r s') pl (by omega) (by omega) (by rw[QaK,<-hl];exact h1) (by simpa using ew) ⟨rq,fin⟩) hs
theorem Vj:IxR X bA:=by
 intro value slice jb s U H x y v u Q I rx ry h hs;obtain⟨z,i,c,rfl,rfl,hz,he,q⟩:=h;obtain⟨t,rfl⟩:=rx;obtain⟨t',rfl⟩:=ry;obtain⟨j,h1,h2,h3,h4,h5⟩:=Nr he;have hl:z.cps.toList.length=z.length:=by simp[Str.length]
 rw[hl] at h1 h4 h5;have hn:=IK;exact tail_any (typeIs_str s z t) slot_str_getitem.lookup (getItem_str (c:=c) (by
  have e1:decide (i < -(2 ^ 63:Int))=false:=QaZ (by omega);have e2:decide (i ≥ 2 ^ 63)=false:=QaZ (by omega);rw[e1,e2,Bool.or_false]) (by rw[h1];simpa using h2) ⟨.str ⟨#[c]⟩,H,I.tok _,⟨_,rq⟩,q⟩) hs
theorem Ti (its:YE) (n j:Nat) (u:Value):Obj.mapSeq (·.setIfInBounds j u) { cls:=.type "list",data:=.seq its.toArray n }={ cls:=.type "list",data:=.seq (its.set j u).toArray n }:=by
 simp[Obj.mapSeq]
theorem Inv.lst {jb:YC} {U : St} {H:Hp} {s:Shared} {p:Addr} {xs:YG} (I:Inv X jb U H s) (h:H p=some (.lst xs)) :
  ∃(its:YE) (n:Nat),Vals xs its/\s.heap.get? p=some { cls:=.type "list",data:=.seq its.toArray n }/\xs.length<=sizeLine:=by
 obtain⟨z,its,n,r,e⟩:=I.hok p _ h;exact⟨its,n,r,e,z⟩
theorem Inv.Zi {jb:YC} {U : St} {H:Hp} {s:Shared} {p:Addr} {xs ys:YG} {its its':YE} {n n':Nat} {f:Obj->Obj} (I:Inv X jb U H s) (h:H p=some (.lst xs))
  (ho:s.heap.get? p=some { cls:=.type "list",data:=.seq its.toArray n }) (hf:f { cls:=.type "list",data:=.seq its.toArray n }={ cls:=.type "list",data:=.seq its'.toArray n' }) (r:Vals ys its') (hz:ys.length<=sizeLine) (t:Nat) :
  Inv X jb U (upd H p (.lst ys)) { s with heap:=s.heap.update p f,toks:=t }:=by
 have e:(s.heap.update p f).get? p=some { cls:=.type "list",data:=.seq its'.toArray n' }:=by
  rw[Heap.get?_update_self f ho (by rw[hf] <;> rfl),hf]
 refine I.write (x:=p) (e:=p) (by rw[h];trivial) (.inl rfl) (λb u hb q=>(Heap.get?_update_other _ _ (Ne.symm hb)).trans q) ⟨_,e⟩ ?_;exact⟨hz,its',n',r,e⟩
def ao:V->V->V->Hp->(Hp->Prop)->Prop:=λo i v H Q=>∃p xs k j,o=.ref p/\i=.int k/\H p=some (.lst xs)/\ixN xs.length k=some j/\Q (upd H p (.lst (xs.set j v)))
theorem set_list:ZW X ao:=by
 intro jb s U H o i v ov iv u Q I ro ri rv h;obtain⟨p,xs,k,j,rfl,rfl,hp,hj,q⟩:=h;cases ro;obtain⟨t,rfl⟩:=ri;obtain⟨its,n,r,ho,hz⟩:=I.lst hp;obtain⟨h1,h2,h3,h4⟩:=RQ hj;have hl:=r.length;have hn:=IK;have I':Inv X jb U (upd H p (.lst (xs.set j v))) { s with heap:=s.heap.update p (Obj.mapSeq (·.setIfInBounds j u)) }:=
  I.Zi hp ho (Ti its n j u) (r.set rv j) (by rw[List.length_set];exact hz) s.toks
 by_cases h0:0<=k
 ·have hk:k.toNat=j:=by
   rw[seqIndex_of h0 h4] at h1;exact Qbc h1
  exact PySem.W.ki_setAt ho h0 (by omega) (by rw[QaK,<-hl];exact h4) (by rw[hk];exact⟨_,I',q⟩)
 ·have hk:(k+(its.toArray.size:Int)).toNat=j:=by
   rw[seqIndex_neg (by omega) h3] at h1;rw[QaK,<-hl];exact Qbc h1
  exact PySem.W.ki_setBack ho (by omega) (by rw[QaK,<-hl];exact h3) (by omega) (by rw[hk];exact⟨_,I',q⟩)
theorem PN (lo hi:Option Int) (n:Nat):(sliceBounds lo hi none n).1=((HT.sIx n 0 lo:Nat):Int)/\(sliceBounds lo hi none n).2.1=((HT.sIx n n hi:Nat):Int)/\(sliceBounds lo hi none n).2.2=1:=by
 refine⟨?_,?_,rq⟩
 ·cases lo with
  | none=>simp[sliceBounds,HT.sIx]
  | some i=>
   simp only[sliceBounds,HT.sIx,Option.getD_none,show (1:Int) > 0 by decide,if_true];by_cases h:i < 0
   ·simp only[h,if_true] <;> omega
   ·simp only[h,if_false] <;> omega
 ·cases hi with
  | none=>simp[sliceBounds,HT.sIx]
  | some i=>
   simp only[sliceBounds,HT.sIx,Option.getD_none,show (1:Int) > 0 by decide,if_true];by_cases h:i < 0
   ·simp only[h,if_true] <;> omega
   ·simp only[h,if_false] <;> omega
theorem Oh (its:YE) (lo hi:Option Int):slicePick its.toArray lo hi none=((its.drop (HT.sIx its.length 0 lo)).take (HT.sIx its.length its.length hi - HT.sIx its.length 0 lo)).toArray:=by
 obtain⟨h1,h2,h3⟩:=PN lo hi its.toArray.size;unfold slicePick;rw[h1,h2,h3];simp only[sliceRange_one,pick_run,QaK] <;> rfl
def bw (K:YD):V->Option Int->Option Int->Hp->VK->Prop:=λx lo hi H Q=>∃a xs,x=.ref a/\SqL K H a xs/\∀p,H p=none->Q (.ref p) (upd H p (.lst (FP xs lo hi)))
theorem Xx:SlR X (bw X.K):=by
 intro jb s U H x v vl vu lo hi sl Q I rx hs pl pu h;obtain⟨a,xs,rfl,hx,q⟩:=h;cases rx;obtain⟨its,r,ht,hz⟩:=I.list hx;have hlen:=r.length;refine⟨"list",_,slot_list_getitem.lookup,ht.isList.typeIs,?_⟩;refine wpAny_getItem_list_slice ht.isList hs pl pu .none (by simp) ?_ (by rw[QaK] <;> omega);rw[Oh,<-hlen];refine⟨.ref s.heap.objs.size,_,I.laid (t':=s.toks) (o:=.lst (FP xs lo hi)) (λb ob q=>Qao _ q) (QbB _) ?_,rq,q _ (I.hok.fresh (QbB _))⟩;exact⟨Qby (K8 xs lo hi) hz,_,0,(r.drop (HT.sIx xs.length 0 lo)).take (HT.sIx xs.length xs.length hi - HT.sIx xs.length 0 lo),Qaw _ rfl⟩
def G8:V->Bool
 | .non=>true
 | .bl _=>true
 | .int _=>true
 | .str _=>true
 | _=>false
def eqV:V->V->Bool
 | .non,.non=>true
 | .bl a,.bl b=>a == b
 | .bl a,.int b=>(if a then 1 else 0) == b
 | .int a,.bl b=>a == (if b then 1 else 0)
 | .int a,.int b=>a == b
 | .str a,.str b=>a == b
 | _,_=>false
theorem ZD {A:Around} {s:Shared} {y x:V} {u v:Value} (ry:RelV y u) (rx:RelV x v) (fy:G8 y=true) (fx:G8 x=true):SeqAt.EqAt A s u v (eqV y x):=by
 cases y with
 | non=>
  cases ry;cases x with
  | non=>cases rx;exact SeqAt.EqAt.same _
  | bl b=>cases rx;exact SeqAt.EqAt.none_bool b
  | int b=>obtain⟨t,rfl⟩:=rx;exact SeqAt.EqAt.none_int b t
  | str b=>obtain⟨t,rfl⟩:=rx;exact SeqAt.EqAt.none_str b t
  | _=>exact absurd (show false=true from fx) QaA
 | bl a=>
  cases ry;cases x with
  | non=>cases rx;exact SeqAt.EqAt.bool_none a
  | bl b=>cases rx;exact SeqAt.EqAt.bool_bool a b
  | int b=>obtain⟨t,rfl⟩:=rx;exact SeqAt.EqAt.bool_int a b t
  | str b=>obtain⟨t,rfl⟩:=rx;exact SeqAt.EqAt.bool_str a b t
  | _=>exact absurd (show false=true from fx) QaA
 | int a=>
  obtain⟨t',rfl⟩:=ry;cases x with
  | non=>cases rx;exact SeqAt.EqAt.int_none a t'
  | bl b=>cases rx;exact SeqAt.EqAt.int_bool a t' b
  | int b=>obtain⟨t,rfl⟩:=rx;exact SeqAt.EqAt.int_int a t' b t
  | str b=>obtain⟨t,rfl⟩:=rx;exact SeqAt.EqAt.int_str a t' b t
  | _=>exact absurd (show false=true from fx) QaA
 | str a=>
  obtain⟨t',rfl⟩:=ry;cases x with
  | non=>cases rx;exact SeqAt.EqAt.str_none a t'
  | bl b=>cases rx;exact SeqAt.EqAt.str_bool a t' b
  | int b=>obtain⟨t,rfl⟩:=rx;exact SeqAt.EqAt.str_int a t' b t
  | str b=>obtain⟨t,rfl⟩:=rx;exact SeqAt.EqAt.str_str a t' b t
  | _=>exact absurd (show false=true from fx) QaA
 | _=>exact absurd (show false=true from fy) QaA
def eqU (x:V) (u:Value):Bool:=match u with
 | .none=>eqV .non x
 | .bool b=>eqV (.bl b) x
 | .int i _=>eqV (.int i) x
 | .str z _=>eqV (.str z) x
 | _=>false
theorem Vu {x y:V} {u:Value} (r:RelV y u) (f:G8 y=true):eqU x u=eqV y x:=by
 cases y with
 | non=>cases r;rfl
 | bl b=>cases r;rfl
 | int i=>obtain⟨t,rfl⟩:=r;rfl
 | str z=>obtain⟨t,rfl⟩:=r;rfl
 | _=>exact absurd (show false=true from f) QaA
theorem Jy {x:V}:∀{xs:YG} {us:YE},Vals xs us->xs.all G8=true->us.any (eqU x)=xs.any λy=>eqV y x
 | _,_,.nil,_=>rfl
 | y::xs,u::us,.cons r t,f=>by
  rw[List.all_cons,QaR] at f;rw[Qbv,Qbv,Vu r f.1,Jy t f.2]
theorem Iz {A:Around} {s:Shared} {x:V} {v:Value} (rx:RelV x v) (fx:G8 x=true):∀{xs:YG} {us:YE},Vals xs us->xs.all G8=true->∀u∈us,SeqAt.EqAt A s u v (eqU x u)
 | _,_,.nil,_=>λu hu=>by cases hu
 | y::xs,u::us,.cons r t,f=>λu' hu=>by
  rw[List.all_cons,QaR] at f;rcases Qbs.mp hu with rfl | hu
  ·rw[Vu r f.1];exact ZD r rx f.1 fx
  ·exact Iz rx fx t f.2 u' hu
def inV (x:V) (xs:YG):Bool:=xs.any λy=>eqV y x
def rIn (K:YD) (neg:Bool):R2:=λx y H Q=>∃p xs,y=.ref p/\(SqL K H p xs\/SqT K H p xs)/\G8 x=true/\xs.all G8=true/\Q (.bl (if neg then !inV x xs else inV x xs)) H
theorem Kr:OpR X (compareOp .In) (rIn X.K false):=by
 intro jb s U H x y v u Q I rx ry h;obtain⟨p,xs,rfl,hq,fx,fs,q⟩:=h;cases ry;rcases hq with hq | hq
 ·obtain⟨its,r,pl,hz⟩:=I.list hq;refine SeqAt.in_listAt (eqU x) pl.isList (λw hw=>Iz rx fx r fs w (by simpa using hw)) ⟨.bl _,H,I,rq,?_⟩;rw[show its.toArray.any (eqU x)=its.any (eqU x) by simp,Jy r fs];exact q
 ·obtain⟨its,r,pl,hz⟩:=I.tuple hq;refine SeqAt.in_tupleAt (eqU x) pl (λw hw=>Iz rx fx r fs w (by simpa using hw)) ⟨.bl _,H,I,rq,?_⟩;rw[show its.toArray.any (eqU x)=its.any (eqU x) by simp,Jy r fs];exact q
theorem Kq:OpR X (compareOp .NotIn) (rIn X.K true):=by
 intro jb s U H x y v u Q I rx ry h;obtain⟨p,xs,rfl,hq,fx,fs,q⟩:=h;cases ry;rcases hq with hq | hq
 ·obtain⟨its,r,pl,hz⟩:=I.list hq;refine SeqAt.notIn_listAt (eqU x) pl.isList (λw hw=>Iz rx fx r fs w (by simpa using hw)) ⟨.bl _,H,I,rq,?_⟩;rw[show its.toArray.any (eqU x)=its.any (eqU x) by simp,Jy r fs];exact q
 ·obtain⟨its,r,pl,hz⟩:=I.tuple hq;refine SeqAt.notIn_tupleAt (eqU x) pl (λw hw=>Iz rx fx r fs w (by simpa using hw)) ⟨.bl _,H,I,rq,?_⟩;rw[show its.toArray.any (eqU x)=its.any (eqU x) by simp,Jy r fs];exact q
theorem Qc:OpR X (compareOp .NotIn) (λx y H Q=>∃i j,x=.str i/\y=.str j/\Q (.bl (!(!(Builtin.Str.occurrences j i 0 j.length 1).isEmpty))) H):=by
 intro jb s U H x y v u Q I rx ry h;obtain⟨i,j,rfl,rfl,q⟩:=h;obtain⟨t,rfl⟩:=rx;obtain⟨t',rfl⟩:=ry;exact notIn_str ⟨.bl _,H,I,rq,q⟩
theorem BK:Ds X (.builtin "len") (λxs H Q=>∃p ys,xs=[.ref p]/\(SqL X.K H p ys\/SqT X.K H p ys)/\Q (.int ys.length) H):=by
 intro jb s U H xs us Q I r h;obtain⟨p,ys,rfl,hq,q⟩:=h;obtain⟨u,rfl,rx⟩:=vals1 r;cases rx;have hn:=IK;rcases hq with hq | hq
 ·obtain⟨its,r',pl,hz⟩:=I.list hq;have hlen:=r'.length;exact Calls.call_len_list pl.isList (by simp only[QaK] <;> omega) ⟨.int ys.length,H,I.tok _,⟨s.toks+1,by rw[QaK,hlen]⟩,q⟩
 ·obtain⟨its,r',pl,hz⟩:=I.tuple hq;have hlen:=r'.length;exact len_tuple pl (by simp only[QaK] <;> omega) ⟨.int ys.length,H,I.tok _,⟨s.toks+1,by rw[QaK,hlen]⟩,q⟩
theorem Ja:Ds X (.builtin "len") (λxs H Q=>∃z,xs=[.str z]/\z.length<=sizeLine/\Q (.int z.length) H):=by
 intro jb s U H xs us Q I r h;obtain⟨z,rfl,hz,q⟩:=h;obtain⟨u,rfl,t,rfl⟩:=vals1 r;have hn:=IK;exact len_str (by omega) ⟨.int z.length,H,I.tok _,⟨_,rq⟩,q⟩
theorem Ds.or {f:Value} {r r':YG->Hp->VK->Prop} (h:Ds X f r) (h':Ds X f r'):Ds X f (λxs H Q=>r xs H Q\/r' xs H Q):=by
 intro jb s U H xs us Q I rs q;rcases q with q | q
 ·exact h jb s U H xs us Q I rs q
 ·exact h' jb s U H xs us Q I rs q
theorem J3:Ds X (.type "tuple") (λxs H Q=>∃p ys,xs=[.ref p]/\((SqL X.K H p ys/\∀l,H l=none->Q (.ref l) (upd H l (.tup ys)))\/(SqT X.K H p ys/\Q (.ref p) H))):=by
 intro jb s U H xs us Q I r h;obtain⟨p,ys,rfl,h⟩:=h;obtain⟨u,rfl,rx⟩:=vals1 r;cases rx;rcases h with⟨hq,q⟩|⟨hq,q⟩
 ·obtain⟨its,r',pl,hz⟩:=I.list hq;have hlen:=r'.length;refine call_tuple_list pl.isList (λh' kp=>?_) (by simp only[QaK] <;> omega);have I1:Inv X jb U H { s with heap:=h' }:=I.kept (t':=s.toks) kp;have I2:Inv X jb U (upd H h'.objs.size (.tup ys)) { s with heap:=h'.push { cls:=.type "tuple",data:=.seq its.toArray } }:=
   I1.laid (t':=s.toks) (λb o e=>Qao _ e) (QbB _) (show Cm X.prog X.w _ _ _ (.tup ys) from⟨hz,its,r',IsTup.new _ _⟩)
  exact⟨.ref h'.objs.size,_,I2,rq,q _ (I1.hok.fresh (QbB _))⟩
 ·obtain⟨its,r',pl,hz⟩:=I.tuple hq;exact call_tuple_same pl ⟨.ref p,H,I,rq,q⟩
def tyV (K:YD) (T:String) (x:V) (H:Hp):Prop:=match x with
 | .str _=>T="str"
 | .int _=>T="int"
 | .ref p=>(T="list"/\∃xs,SqL K H p xs)\/(T="tuple"/\∃o,K.lookup p=some o/\o.cls=.type "tuple"/\o.dict=none) \/
   (T="dict"/\((∃kvs,H p=some (.dK kvs))\/∃kvs,H p=some (.dT kvs)))\/(T="set"/\∃S n,H p=some (.set S n))
 | _=>False
theorem Yu {jb:YC} {U : St} {H:Hp} {s:Shared} {T:String} {x:V} {v:Value} (I:Inv X jb U H s) (r:RelV x v) (ty:tyV X.K T x H) :
  s.TypeIs v T/\∀a,v=.ref a->∃ob,s.heap.get? a=some ob/\ob.dict=none:=by
 cases x with
 | str z=>
  obtain⟨t,rfl⟩:=r;cases (show T="str" from ty)
  exact⟨typeIs_str s z t,λ_ e=>nomatch e⟩
 | int i=>
  obtain⟨t,rfl⟩:=r;cases (show T="int" from ty)
  exact⟨typeIs_int s i t,λ_ e=>nomatch e⟩
 | ref p=>
  cases r;rcases ty with⟨rfl,xs,hq⟩|⟨rfl,o,hk,hc,hd⟩|⟨rfl,hk⟩|⟨rfl,S,n,hk⟩
  ·obtain⟨its,_,pl,_⟩:=I.list hq;refine⟨pl.isList.typeIs,λa e=>?_⟩;cases e;obtain⟨o,n,e,c,hd,_⟩:=pl;exact⟨o,e,hd⟩
  ·refine⟨⟨o,I.kIn p o hk,hc⟩,λa e=>?_⟩;cases e;exact⟨o,I.kIn _ o hk,hd⟩
  ·have z:∃o,s.heap.get? p=some o/\o.ExactDict:=by
    rcases hk with⟨kvs,hk⟩|⟨kvs,hk⟩
    ·obtain⟨_,_,_,_,o,_,_,e,ex,_⟩:=I.hok p _ hk;exact⟨o,e,ex⟩
    ·obtain⟨_,_,_,_,o,_,_,e,ex,_⟩:=I.hok p _ hk;exact⟨o,e,ex⟩
   obtain⟨o,e,ex⟩:=z;refine⟨⟨o,e,ex.1⟩,λa e2=>?_⟩;cases e2;exact⟨o,e,ex.2.1⟩
  ·obtain⟨o,_,_,_,e,ex,_⟩:=I.hok p _ hk;refine⟨⟨o,e,ex.1⟩,λa e2=>?_⟩;cases e2;exact⟨o,e,ex.2.1⟩
 | _=>exact False.elim ty
def tBM (K:YD) (T:String) (r:V->YG->Hp->VK->Prop) (to:TE) (t:TA):TE:=fun U H Q=>to U H λx H1=>tyV K T x H1/\t U H1 λxs H2=>r x xs H2 Q
variable {o e:Expr} {es:YJ} {to:TE} {t:TA} {name:Str} {apos cpos:Pos} {T id:String} {r:V->YG->Hp->VK->Prop}
theorem FW (pa:PlainAttrs T) (slot:Slot T name id) (hty:typeOf (.builtin id)=pure (.type "method_descriptor")) (hm:MtR X id r) (ho:PE X o to) (ha:PA X (e::es) t)
  (hbase:attributeBase o name X.env (eval o X.env)=eval o X.env:=by rfl)
  (hfew:((backTo cpos (starEach (e::es) X.env)).all (λx=>!x.1)&&(backToKw cpos (keywordEach [] X.env)).all (λx=>x.1.isSome)
  &&decide ((e::es).length+([]:List Keyword).length+(if ([]:List Keyword).isEmpty then 0 else 1) < 30))=true:=by rfl)
  (hline:(apos.endLine == cpos.line)=true:=by rfl) (hs:starEach (e::es) X.env=(false,eval e X.env)::starEach es X.env:=by rfl) (hplain:(backTo cpos (starEach es X.env)).any (·.1)=false:=by rfl) :
  PE X (.Call (.Attribute o name apos) (e::es) [] cpos) (tBM X.K T r to t):=by
 intro jb s U H Q I h;refine wpAny_Call_method_late hbase hfew hline rfl (thn (ho jb s U H _ I h) λv s1 zz=>?_);obtain⟨x,H1,I1,r1,ty,q1⟩:=zz;obtain⟨h1,h2⟩:=Yu I1 r1 ty;refine⟨T,id,pa,slot,hty,h1,h2,?_⟩;have hA:=ha cpos jb s1 U H1 _ I1 q1;rw[hs] at hA ⊢;refine Calls.callWith_builtin (by show (false || (backTo cpos (starEach es X.env)).any (·.1))=false;rw[hplain] <;> rfl) (Calls.evalArgs_plain ?_);refine thn hA λus s2 zz=>?_;obtain⟨vs,H2,I2,r2,q2⟩:=zz;exact hm jb s2 U H2 x vs v us Q I2 r1 r2 q2
end
def MtM (X:Cx) (id:String) (r:V->YG->Hp->VK->Prop):Prop:=
 ∀(jb:YC) (s:Shared) (U : St) (H:Hp) (x:V) (xs:YG) (v:Value) (us:YE) (Q:VK),Inv X jb U H s->RelV x v->Vals xs us->r x xs H Q ->
  wpAny (model X.prog X.w) X.A (call (.builtin id) (v::us)) (EP X jb U Q) X.xe s
theorem Vals.one:∀{x:V} {us:YE},Vals [x] us->∃u,us=[u]/\RelV x u
 | _,_,.cons r .nil=>⟨_,rfl,r⟩
theorem Vals.two:∀{x y:V} {us:YE},Vals [x,y] us->∃u v,us=[u,v]/\RelV x u/\RelV y v
 | _,_,_,.cons r (.cons q .nil)=>⟨_,_,rfl,r,q⟩
theorem Vals.zero:∀{us:YE},Vals [] us->us=[]
 | _,.nil=>rfl
theorem Vals.reverse {xs:YG} {us:YE} (h:Vals xs us):Vals xs.reverse us.reverse:=by
 induction h with
 | nil=>exact .nil
 | cons r t ih=>rw[List.reverse_cons,List.reverse_cons];exact Vals.append ih (.cons r .nil)
theorem Vals.rep {xs:YG} {us:YE} (h:Vals xs us):∀k:Nat,Vals (List.replicate k xs).flatten (List.replicate k us).flatten
 | 0=>.nil
 | k+1=>by
  rw[List.replicate_succ,List.replicate_succ,List.flatten_cons,List.flatten_cons];exact Vals.append h (Vals.rep h k)
section
variable {X:Cx} {jb:YC} {U : St} {H:Hp} {s:Shared} {l b:Addr} {xs ys zs:YG}
theorem Inv.bG {its its':YE} {n:Nat} {f:Array Value->Array Value} {t':Nat} (I:Inv X jb U H s) (hH:H l=some (.lst xs))
  (e:s.heap.get? l=some { cls:=.type "list",data:=.seq its.toArray n }) (hf:f its.toArray=its'.toArray) (hv:Vals ys its') (hz:ys.length<=sizeLine) :
  Inv X jb U (upd H l (.lst ys)) { s with heap:=s.heap.update l (Obj.mapSeq f),toks:=t' }:=by
 have q:=PySem.IsL.update e f;rw[hf] at q;refine I.write (x:=l) (e:=l) (by rw[hH];exact trivial) (.inl rfl) (λb' u hb hu=>(Heap.get?_update_other s.heap (Obj.mapSeq f) (Ne.symm hb)).trans hu) ⟨_,q⟩ ?_;exact⟨hz,its',_,hv,q⟩
theorem Inv.fresh (I:Inv X jb U H s):H s.heap.objs.size=none:=I.hok.fresh (QbB _)
theorem Inv.bF (I:Inv X jb U H s) (hH:H l=some (.lst xs)):xs.length<=sizeLine/\∃(its:YE) (n:Nat),Vals xs its/\xs.length=its.length/\s.heap.get? l=some { cls:=.type "list",data:=.seq its.toArray n }:=by
 obtain⟨z,its,n,r,e⟩:=I.hok l _ hH;exact⟨z,its,n,r,r.length,e⟩
end
section
variable {X:Cx}
def XC:V->YG->Hp->VK->Prop:=λx vs H Q=>∃l xs y,x=.ref l/\vs=[y]/\H l=some (.lst xs)/\xs.length < sizeLine/\Q .non (upd H l (.lst (xs++[y])))
theorem Gi:MtM X "list.append" XC:=by
 intro jb s U H x vs v us Q I rx rv h;obtain⟨l,xs,y,rfl,rfl,hH,hz,q⟩:=h;cases rx;obtain⟨u,rfl,ru⟩:=rv.one;obtain⟨z,its,n,r,hl,e⟩:=I.bF hH;refine call_meets F.slot_list_append ⟨_,e,rq⟩ F.entry_list_append (F.args_list_append_2 _ _) (PySem.list_append l its.toArray n u (by rw[QaK];omega)) ⟨e,?_⟩;refine⟨.non,_,I.bG (its':=its++[u]) hH e (by simp) (r.append (.cons ru .nil)) ?_,rq,q⟩;rw[Qaz,List.length_singleton];omega
end
section
variable {prog:Program} {w:World} {A:Around} {E:YA} {s:Shared}
set_option maxRecDepth 100000 in
end
section
variable {X:Cx}
end
end L2
namespace Att
open PySem PySem.W PySem.Calls PyProof.Rows
theorem Mv {P:Params} {h:Heap}:∀(ns:List Int) (vs:YE),WellAll P h vs (ns.map WData.int)->IntsAre vs ns:=by
 intro ns
 induction ns with
 | nil=>
  intro vs w;rw[List.map_nil] at w;cases w;exact .nil
 | cons n ns ih=>
  intro vs w;rw[Qbr] at w;cases w with
  | cons a b=>
   cases a;exact .cons _ _ (ih _ b)
theorem UL {l:OpenLaw} {n:Nat} (hn:l.most=some n) {P:Params} {h:Heap} {args:List WData} {vals:YE}
  (hpre:l.row.toRowW.claim.pre args=true) (hwl:WellAll P h vals args) :
  ∃a vs ns,vals=[Value.ref a]/\args=[WData.list (ns.map WData.int)]/\h.get? a=some { cls:=.type "list",data:=.seq vs.toArray }/\IntsAre vs ns/\ns.length<=n:=by
 have hsh:WShape.hasAll [] args [.list .int]=true:=(pre_splitW hpre).1;have hc:l.pre.holds [] { args:=args }=true:=(pre_splitW hpre).2;obtain⟨d,r,rfl,h1,h2⟩:=hasAllW_cons hsh;obtain rfl:=hasAllW_nil h2;obtain⟨xs,rfl,h3⟩:=hasW_list h1;obtain⟨ns,rfl⟩:=items_int h3;have hlen:ns.length<=n:=by
  unfold OpenLaw.pre at hc;have h4:(WTm.not (.lt (.lit (.int (n:Int))) (.len (.arg 0)))).holds [] { args:=[.list (ns.map .int)] }=true:=by
   have h4:=(holds_andW hc).1;rw[hn] at h4;exact h4
  have h5:=condW_of h4 (w_not (w_lt w_lit (w_len_list (w_arg rfl))));rw[QaX] at h5;refine Nat.le_of_not_lt λq=>?_;have q':(n:Int) < ((ns.length:Nat):Int):=by omega
  first
   | (rw[Qbo q'] at h5;exact absurd h5 (by decide))
   | (simp at h5;omega)
 cases hwl with
 | cons w1 w2=>
  cases w2;cases w1 with
  | list ho hall=>exact⟨_,_,ns,rfl,rfl,ho,Mv ns _ hall,hlen⟩
theorem U8 (l:OpenLaw) (args:List WData):l.row.toRowW.claim.post args (.bool true) args=true:=
 postW_of (r:=l.row.toRowW) (X:=(true == true))
  (show WShape.has [] (.bool true) .bool=true by first | rfl | decide | simp[WShape.has,WShape.arms,WShape.armsAll])
  (show (WTm.eq .res (.lit (.bool true))).value [] { args:=args,res:=some (.bool true),after:=args }=some (.bool (true == true)) from w_eq_bool (w_res rfl) w_lit) rfl
theorem Ri {l:OpenLaw} {n:Nat} {q:Program} {loose:YF} {XP:(YB)->Heap->Prop} {YP:World->Heap->Prop} {d:DefRec}
  (hn:l.most=some n) (hdf:d.params.defaults=[])
  (call:∀(w:World) (s₀ s₁ : Shared) (mg mb:YB) (fa:Addr) (o:Obj) (pm cd doc:Value) (a:Addr) (vs:YE) (ns:List Int),
   Ground q loose [] XP w s₀ mg mb s₁.heap->YP w s₁.heap ->
   s₁.heap.get? fa=some o->o.data=.func (docDef d.name d.params d.body d.scope pm cd doc)->s₁.heap.CodeRec cd d.name->mg d.name=some (.ref fa) ->
   s₁.heap.get? a=some { cls:=.type "list",data:=.seq vs.toArray }->IntsAre vs ns->ns.length<=n->s₁.gens=#[] ->
   codeAny (model l.prog w) callerA (.call (.ref fa) ⟨[.ref a],[]⟩) (λr s'=>r=.ok (.ret (.bool true))/\OldK s₁.heap s'.heap/\s'.os=s₁.os/\AllBare s'.gens) s₁) :
  WalkO q loose XP YP l.row.toRowW d [] (λf vs=>PySem.call f vs):=by
 intro w s₀ s₁ mg mb G Y fa o pm cd doc dV kV ho hd hcd hD hmg hg args vals as hpre hlay hrd hwl hlo;obtain rfl:dV=.none:=Dflts.none hD hdf;obtain rfl:kV=.none:=Dflts.noKw hD;obtain⟨a,vs,ns,rfl,rfl,hobj,hints,hlen⟩:=UL hn hpre hwl;refine enter_call (codeAny_mono (call w s₀ s₁ mg mb fa o pm cd doc a vs ns G Y ho (fd_plain hd) hcd hmg hobj hints hlen hg) λr s' hq=>?_);obtain⟨rfl,h2,h3,h4⟩:=hq;exact⟨.inl ⟨.bool true,.bool true,[],rq,λ_=>rfl,.bool true,U8 l _,λ_=>⟨List.Pairwise.nil,λ_ hm=>(nomatch hm)⟩⟩,h2,h3,h4⟩
section
variable {prog:Program} {w:World} {A:Around} {E:YA} {s:Shared} {K:Frag}
end
end Att
namespace L2
open PySem PySem.Spec PyProof.Rows
theorem Ny:∀{vs:YE} {ns:List Int},IntsAre vs ns->Vals (ns.map V.int) vs
 | _,_,.nil=>.nil
 | _,_,.cons n t h=>.cons ⟨t,rfl⟩ (Ny h)
def Only (H:Hp):Prop:=∀b,H b=none\/∃o xs,H b=some (.frz o (.lst xs))
theorem Ww {P:Program} {w:World} {K:YD} {mg mb:YB} {CX:CXT} {k:Nat} {fa a:Addr} {fd:FuncData} {x:Str} {sp:Sp} {s₁ : Shared} {vs:YE} {ns:List Int}
  (KX:K.In s₁.heap) (hns:s₁.heap.Ns mainGlobals mg) (hb:s₁.heap.Ns builtinsNs mb) (hbb:∀x:Str,x≠"__name__"->mb x=bootBuiltins x) (hlim:s₁.heap.NoLimit) (hg:s₁.gens=#[])
  (ha:s₁.heap.get? a=some { cls:=.type "list",data:=.seq vs.toArray }) (hi:IntsAre vs ns) (hl:ns.length<=sizeLine) (hr:CP k callerA)
  (F:∀base:Heap,K.In base->base.Ns mainGlobals mg->Fv P w K mg base CX k fa fd [x] sp) (hbind:∀(s:Shared) (u:Value),BindsTo s fd ⟨[u],[]⟩ [(x,u)])
  (hsp:∀H:Hp,Only H->SqL K H a (ns.map V.int)->sp [.ref a] H (λv _=>v=.bl true) λ_ _ _=>False)
  (hCX:∀H e s',CX [] H s₁ (λ_ _ _=>False) e s'->False) :
  codeAny (model P w) callerA (.call (.ref fa) ⟨[.ref a],[]⟩) (λr s'=>r=.ok (.ret (.bool true))/\OldK s₁.heap s'.heap/\s'.os=s₁.os/\AllBare s'.gens) s₁:=by
 have rv:=Ny hi;have lenV:=hi.length;have core:∀H:Hp,Only H->SqL K H a (ns.map V.int)->HOk P w H s₁.heap->(∀b,H b≠none->b=a)->(H a≠none->K.lookup a=none) ->
   codeAny (model P w) callerA (.call (.ref fa) ⟨[.ref a],[]⟩) (λr s'=>r=.ok (.ret (.bool true))/\OldK s₁.heap s'.heap/\s'.os=s₁.os/\AllBare s'.gens) s₁:=by
  intro H hO hS hok hA hK;have Sq:∀{b:Addr} {o:Obj},s₁.heap.get? b=some o->H b=none->(JN s₁.heap H).get? b=some o:=λe n=>Wx e n;have noA:∀{b:Addr} {o:Obj} {es:Array DictEntry} {ep:Nat},s₁.heap.get? b=some o->o.data=.dict es ep->H b=none:=λ{b o es ep} e d=>by
   cases q:H b with
   | none=>rfl
   | some u=>
    have e':b=a:=hA b (by rw[q];simp);subst e';rw[ha] at e;cases e;have d':Data.seq vs.toArray _=Data.dict es ep:=d;cases d'
  have nsK:∀{b:Addr} {m:YB},s₁.heap.Ns b m->(JN s₁.heap H).Ns b m:=λ{b m} ⟨o,es,ep,e,d,r⟩=>⟨o,es,ep,Sq e (noA e d),d,r⟩;have hKb:K.In (JN s₁.heap H):=λb o e=>Sq (KX b o e) (by
   cases q:H b with
   | none=>rfl
   | some u=>
    have e':b=a:=hA b (by rw[q];simp);subst e';rw[hK (by rw[q];simp)] at e;cases e)
  have hM:Mod K mg (JN s₁.heap H):=⟨hKb,nsK hns,⟨mb,nsK hb,hbb⟩,let ⟨mc,h1,h2⟩:=hlim;⟨mc,nsK h1,h2⟩⟩;have e0:LC P w K mg (JN s₁.heap H) callerA [] s₁ H:=⟨rq,hM,λb o e=>X8 e,Nat.le_of_eq (Vp _ _),trivial,λb hb=>absurd (show b∈([]:List Addr) from hb) (by simp),hok,.of_eq hg⟩
  refine codeAny_mono ((F _ hKb (nsK hns)).run callerA [] s₁ H ⟨[.ref a],[]⟩ [.ref a] [.ref a] _ _ hr e0 (hbind s₁ (.ref a)) (.cons rfl .nil) (hsp H hO hS)) λr s' h=>?_;cases r with
  | error e=>exact (hCX H e s' h).elim
  | ok fl=>
   cases fl with
   | next=>exact False.elim h
   | brk=>exact False.elim h
   | cont=>exact False.elim h
   | ret u=>
    obtain⟨v,H',os,bare,un,hok',r',q⟩:=h;have q':v=.bl true:=q;subst q';obtain rfl:u=Value.bool true:=r';refine⟨rq,OldK.of_keep λb o e=>?_,os,bare⟩;cases q:H b with
    | none=>exact un.keep b o e q (by intro z;exact absurd (show b∈([]:List Addr) from z) (by simp)) (by simp)
    | some u=>
     rcases hO b with z |⟨ob,xs,z⟩
     ·rw[q] at z;cases z
     ·have z2:=un.Gd b ob _ z;obtain⟨e1,_⟩:=hok b _ z;obtain⟨e2,_⟩:=hok' b _ z2;rw[e] at e1;cases e1;exact e2
 cases hk:K.lookup a with
 | some o=>
  have e:=KX a o hk;rw[ha] at e;cases e;refine core (λ_=>none) (λ_=>.inl rfl) (.inr ⟨_,vs.toArray,_,hk,rq,rq,rq,by rw[QaK,lenV];exact hl,by simpa using rv⟩) (λb u z=>by have z':(none:Option HO)=some u:=z;cases z') (λb z=>absurd rfl z) λz=>absurd rfl z
 | none=>
  refine core (λb=>if b=a then some (.frz { cls:=.type "list",data:=.seq vs.toArray } (.lst (ns.map V.int))) else none) (λb=>?_) (.inl (.inr ⟨{ cls:=.type "list",data:=.seq vs.toArray },if_pos rfl⟩)) (λb u z=>?_) (λb z=>?_) λ_=>hk
  ·by_cases hb:b=a
   ·exact .inr ⟨_,_,if_pos hb⟩
   ·exact .inl (if_neg hb)
  ·by_cases hb:b=a
   ·have z':=(if_pos hb).symm.trans z;cases z';subst hb;exact⟨ha,by rw[QaX];exact hl,vs,_,rv,ha⟩
   ·have z':=(if_neg hb).symm.trans z;cases z'
  ·by_cases hb:b=a
   ·exact hb
   ·exact absurd (if_neg hb) z
theorem Xq {l:PySem.W.OpenLaw} {n k:Nat} {q:Program} {loose:YF} {XP:(YB)->Heap->Prop} {YP:World->Heap->Prop} {d:DefRec} {K:Params->YD} {CX:World->CXT} {sp:World->Sp} {x:Str}
  (hn:l.most=some n) (hn2:n<=sizeLine) (hdf:d.params.defaults=[]) (hr:CP k callerA)
  (hY:∀(w:World) (h:Heap),YP w h->(K w.params).In h)
  (F:∀(w:World) (mg:YB) (fa:Addr) (h:Heap),(K w.params).In h->h.Ns mainGlobals mg->mg d.name=some (.ref fa) ->
   ∃fd:FuncData,(∀(s:Shared) (u:Value),BindsTo s fd ⟨[u],[]⟩ [(x,u)]) /\
    ∀base:Heap,(K w.params).In base->base.Ns mainGlobals mg->Fv l.prog w (K w.params) mg base (CX w) k fa fd [x] (sp w))
  (hsp:∀(w:World) (H:Hp) (a:Addr) (ns:List Int),ns.length<=n->Only H->SqL (K w.params) H a (ns.map V.int)->sp w [.ref a] H (λv _=>v=.bl true) λ_ _ _=>False)
  (hCX:∀(w:World) (H:Hp) (s:Shared) (e:Value) (s':Shared),CX w [] H s (λ_ _ _=>False) e s'->False) :
  PySem.W.WalkO q loose XP YP l.row.toRowW d [] (λf vs=>PySem.call f vs):=by
 refine Att.Ri hn hdf λw s₀ s₁ mg mb fa o pm cd doc a vs ns G Y ho hd hcd hmg hobj hints hlen hg=>?_;have KX:=hY w _ Y;obtain⟨fd,hb,hF⟩:=F w mg fa _ KX G.T.g hmg;exact Ww KX G.T.g G.T.b G.T.builtins G.T.nolimit hg hobj hints (Qby hlen hn2) hr hF hb (λH hO hS=>hsp w H a ns hlen hO hS) λH e s'=>hCX w H s₁ e s'
def Eh (s:Stmt):Arguments:=match s with
 | .FunctionDef _ a _ _ _ _ _ _ _ _=>a
 | _=>{ posonlyargs:=[],args:=[],vararg:=none,kwonlyargs:=[],kw_defaults:=[],kwarg:=none,defaults:=[] }
def CV (s:Stmt):List Stmt:=match s with
 | .FunctionDef _ _ b _ _ _ _ _ _ _=>b
 | _=>[]
def Ao (s:Stmt):Scope:=match s with
 | .FunctionDef _ _ _ _ _ _ sc _ _ _=>sc
 | _=>{ kind:=.function,names:=[],isGenerator:=false,isCoroutine:=false }
abbrev CX0:CXT:=λ_ _ _ _ _ _=>False
abbrev E0:XK:=λ_ _ _=>False
theorem au {X:Cx}:Passes CX0 X E0:=λ_ _ _ _ _ _ _ h=>h.elim
structure Fun (K:YD) (x qual:Str) (st:Stmt) (f:Addr) (fd:FuncData):Prop where
 ex:∃(oc:Value) (od:Option Addr) (kV doc pm:Value) (an:Option Addr) (cdv ct:Value) (osl:YI),
  fd=fnOf x qual (Eh st) (CV st) (Ao st) .none kV doc pm an cdv ct/\K.lookup f=some ⟨oc,od,.func fd,osl⟩/\codeIn K cdv qual=true
 kp:keepIn K (.ref f)=true
section
variable {P:Program} {w:World} {K:YD} {mg:YB} {base:Heap}
theorem Fun.ok {x qual:Str} {st:Stmt} {f:Addr} {fd:FuncData} {N ps:YF} {k:Nat} {sp:Sp} (F:Fun K x qual st f fd) (S:Bc N ps (Ao st)) (len:∀vs H Q E,sp vs H Q E->vs.length=ps.length)
  (hbody:∀(cdv:Value) (A:Around) (outer:List Env) (s:Shared) (H:Hp) (vs:YG) (Q:VK) (E:XK),CP k (A.deeper (envOfC qual (Ao st) s.heap.objs.size f cdv))->sp vs H Q E ->
   ∃t,PSs (Kv CX0 P w K mg base N qual (Ao st) f cdv A outer s H E).nox (CV st) t/\t { nx:=λ_ H'=>Q .non H',rt:=Q } (start N vs) H):Fv P w K mg base CX0 (k+1) f fd ps sp:=by
 obtain⟨oc,od,kV,doc,pm,an,cdv,ct,osl,rfl,lk,hcd⟩:=F.ex;refine aK lk hcd S len λA outer s H vs Q E hr hsp=>?_;obtain⟨t,h,q⟩:=hbody cdv A outer s H vs Q E hr hsp;exact⟨t,h.nox,q⟩
theorem Fun.binds {x qual:Str} {st:Stmt} {f:Addr} {fd:FuncData} {ps:YF} (F:Fun K x qual st f fd)
  (h:∀(kV doc pm:Value) (an:Option Addr) (cdv ct:Value) (us:YE),us.length=ps.length->bindArgs (fnOf x qual (Eh st) (CV st) (Ao st) .none kV doc pm an cdv ct) ⟨us,[]⟩=pure (ps.zip us)):Binds K fd ps []:=by
 obtain⟨oc,od,kV,doc,pm,an,cdv,ct,osl,rfl,lk,hcd⟩:=F.ex;exact .all (h kV doc pm an cdv ct)
theorem Vt {x qual:Str} {st:Stmt} {f:Addr} {oc:Value} {od an:Option Addr} {osl:YI} {kV doc pm cdv ct:Value} (l:K.lookup f=some ⟨oc,od,.func (fnOf x qual (Eh st) (CV st) (Ao st) .none kV doc pm an cdv ct),osl⟩)
  (c:codeIn K cdv qual=true) (k:keepIn K (.ref f)=true):Fun K x qual st f (fnOf x qual (Eh st) (CV st) (Ao st) .none kV doc pm an cdv ct):=⟨⟨oc,od,kV,doc,pm,an,cdv,ct,osl,rq,l,c⟩,k⟩
end
theorem BJ {n:Nat} (h:n<=1000):n < sizeLine:=Nat.lt_of_le_of_lt h (by decide)
section
variable {X:Cx}
theorem pv (i:Nat) {x:Str} {pos:Pos} (hN:X.N[i]?=some x:=by rfl) (hv:Vis X.env.scope x:=by first | exact Or.inl rfl | exact Or.inr (Or.inl rfl) | exact Or.inr (Or.inr rfl)) (hd:(x == ("__debug__":Str))=false:=by decide)
  (hcd:(x == ("__classdict__":Str))=false:=by decide):PE X (.Name x pos) (Yz i):=Zb hN hv hd hcd
end
theorem Bx {A B:Prop} (h:B):if false=true then A else B:=by
 rw[if_neg QaA];exact h
theorem Bt {A B:Prop} (h:A):if true=true then A else B:=by
 rw[if_pos rfl];exact h
theorem Tr {c A B:Prop} [Decidable c] (h1:c->A) (h2:¬c->B):if c then A else B:=by
 by_cases h:c
 ·rw[if_pos h];exact h1 h
 ·rw[if_neg h];exact h2 h
def Same (H H':Hp):Prop:=∀b o,H b=some o->H' b=some o
theorem Same.refl (H:Hp):Same H H:=λ_ _ h=>h
theorem Same.trans {H H1 H2:Hp} (a:Same H H1) (b:Same H1 H2):Same H H2:=λc o h=>b c o (a c o h)
theorem Same.free {H H':Hp} (e:Same H H') {l:Addr} (h:H' l=Option.none):H l=Option.none:=by
 cases q:H l with
 | none=>rfl
 | some o=>
  rw[e l o q] at h;cases h
theorem Same.seq {K:YD} {H H':Hp} {a:Addr} {xs:YG} (e:Same H H') (h:SqL K H a xs):SqL K H' a xs:=by
 rcases h with (h |⟨o,h⟩) | h
 ·exact .inl (.inl (e _ _ h))
 ·exact .inl (.inr ⟨o,e _ _ h⟩)
 ·exact .inr h
def Du (env:Env):List (Str×NameKind)->List (Str×Addr)->List (Str×Addr)
 | [],cs=>cs
 | (n,k)::r,cs=>Du env r (if (k == .free)=true then (match env.cells.lookup n with | some c=>(n,c)::cs | none=>cs) else cs)
theorem QH {env:Env}:∀(names:List (Str×NameKind)) (cs:List (Str×Addr)),(∀p∈names,p.2=.free->∃c,env.cells.lookup p.1=some c) ->
  (forIn names cs λ(p:Str×NameKind) (r:List (Str×Addr))=>(if (p.2 == .free)=true then do
    let c <-cellOf env p.1
    pure (ForInStep.yield ((p.1,c)::r))
   else pure (ForInStep.yield r):Sem (ForInStep (List (Str×Addr)))))=pure (Du env names cs)
 | [],cs,_=>rfl
 | (n,k)::rest,cs,h=>by
  have ih:=λcs'=>QH rest cs' λp hp=>h p (Qas _ hp);rw[List.forIn_cons];cases hk:(k == NameKind.free) with
  | true=>
   obtain⟨c,hc⟩:=h (n,k) QaB (QbI hk);have e1:cellOf env n=pure c:=by unfold cellOf;rw[hc]
   have e2:Du env ((n,k)::rest) cs=Du env rest ((n,c)::cs):=by simp only[Du,hk,if_true,hc]
   rw[e2,<-ih];simp only[hk,if_true,e1,pure_bind]
  | false=>
   have e2:Du env ((n,k)::rest) cs=Du env rest cs:=by simp only[Du,hk,Bool.false_eq_true,if_false]
   rw[e2,<-ih];simp only[hk,Bool.false_eq_true,if_false,pure_bind]
theorem Mw {env:Env} {scope:Scope} (h:∀p∈scope.names,p.2=.free->∃c,env.cells.lookup p.1=some c):closureFor scope env=pure (Du env scope.names []):=by
 have e:=QH (env:=env) scope.names [] h;unfold closureFor;simp only[bind_pure];exact e
theorem QG {env:Env}:∀(names:List (Str×NameKind)) (cs:List (Str×Addr)),(∀x c,cs.lookup x=some c->env.cells.lookup x=some c) ->
  ∀x c,(Du env names cs).lookup x=some c->env.cells.lookup x=some c
 | [],cs,h,x,c,e=>h x c e
 | (n,k)::rest,cs,h,x,c,e=>by
  refine QG rest _ (λy d z=>?_) x c e;split at z
  ·split at z
   ·rename_i c' hc';rw[List.lookup_cons] at z;cases q:y == n with
    | true=>rw[q] at z;cases z;rw[QbI q];exact hc'
    | false=>rw[q] at z;exact h y d z
   ·exact h y d z
  ·exact h y d z
theorem Lx {env:Env}:∀(names:List (Str×NameKind)) (cs:List (Str×Addr)) (x:Str),((cs.lookup x).isSome=true\/((x,NameKind.free)∈names/\∃c,env.cells.lookup x=some c)) ->
  ∃c,(Du env names cs).lookup x=some c
 | [],cs,x,h=>by
  rcases h with h |⟨h,_⟩
  ·exact Option.isSome_iff_exists.mp h
  ·cases h
 | (n,k)::rest,cs,x,h=>by
  refine Lx rest _ x ?_;have grow:(cs.lookup x).isSome=true->(List.lookup x (if (k == .free)=true then (match env.cells.lookup n with | some c=>(n,c)::cs | none=>cs) else cs)).isSome=true:=λz=>by
   split
   ·split
    ·rw[List.lookup_cons];cases x == n with
     | true=>rfl
     | false=>exact z
    ·exact z
   ·exact z
  rcases h with h |⟨h,c,hc⟩
  ·exact .inl (grow h)
  ·rcases Qbs.mp h with z | z
   ·cases z;refine .inl ?_;simp[hc,List.lookup_cons]
   ·exact .inr ⟨z,c,hc⟩
def Ik (env:Env) (n:Str) (k:NameKind):NameKind:=if (k == .free&&env.scope.kind == .function&&env.kindOf n == some .cell)=true then .cell else k
theorem Mr (env:Env):∀(l:List (Str×NameKind)) (x:Str),
  (l.map λ(n,k)=>if (k == NameKind.free&&env.scope.kind == .function&&env.kindOf n == some .cell) then (n,NameKind.cell) else (n,k)).lookup x=(l.lookup x).map (Ik env x)
 | [],_=>rfl
 | (n,k)::r,x=>by
  have ih:=Mr env r x;have e:(if (k == NameKind.free&&env.scope.kind == .function&&env.kindOf n == some .cell)=true then (n,NameKind.cell) else (n,k))=(n,Ik env n k):=by
   unfold Ik;split <;> rfl
  rw[Qbr];show List.lookup x ((if (k == NameKind.free&&env.scope.kind == .function&&env.kindOf n == some .cell)=true then (n,NameKind.cell) else (n,k))::_)=_
  rw[e,List.lookup_cons,List.lookup_cons];cases q:x == n with
  | true=>rw[QbI q];rfl
  | false=>exact ih
theorem V9 {env:Env} {n:Str} {k:NameKind} (h:Ik env n k=.cell\/Ik env n k=.free):k=.cell\/k=.free:=by
 unfold Ik at h;split at h
 ·rename_i q;simp only[QaR] at q;exact .inr (QbI q.1.1)
 ·exact h
theorem Vx {prog:Program} {w:World} {A:Around} {R:Result->Shared->Prop} {s:Shared} {elt target iter:Expr} {ifs:YJ} {scope:Scope} {pos:Pos} {it acc:Value} {env:Env} (J:Nat->Shared->Prop)
  (turn:∀n s,J n s->wpAny (model prog w) A (pyNext it) (λr s1=>match r with
   | none=>R (.ok .next) s1
   | some v=>wpAny (model prog w) A (letOwnedTupleGo target it v) (λ_ s2=>wpAny (model prog w) A (assign target env v) (λ_ s3=>
     wpAny (model prog w) A (forIn ifs true λc r=>if r=true then do let ok <-isTrue c env (eval c env);pure (ForInStep.yield ok) else pure (ForInStep.yield r)) (λok s4=>
      if ok=true then wpAny (model prog w) A (eval elt env) (λx s5=>wpAny (model prog w) A (call (.builtin "list.append") [acc,x]) (λ_ s6=>∃m,m < n/\J m s6) (λ_ _=>False) s5) (λ_ _=>False) s4
      else ∃m,m < n/\J m s4) (λ_ _=>False) s3) (λ_ _=>False) s2) (λ_ _=>False) s1) (λ_ _=>False) s)
  (n:Nat) (h:J n s):codeAny (model prog w) A (.compLoop (.ListComp elt [⟨target,iter,ifs,0⟩] scope pos) 0 it acc env) R s:=by
 refine codeAny_loop rfl J (λk s' hk=>?_) n h;show wpAny _ A (Sem.onRaise (compTurn (.ListComp elt [⟨target,iter,ifs,0⟩] scope pos) 0 it acc env) (λx=>do noteFrame x env;theTreesLotGoes x)) _ _ s'
 refine wpAny_noted ?_;rw[compTurn_list];refine QbE (Qbu (QbE (QbG (turn k s' hk) (λr s1 q1=>?_) λ_ _ f=>f.elim)));cases r with
 | none=>exact QbF q1
 | some v=>
  refine QbE (QbG q1 (λ_ s2 q2=>QbE (QbG q2 (λ_ s3 q3=>QbE (QbG q3 (λok s4 q4=>?_) λ_ _ f=>f.elim)) λ_ _ f=>f.elim)) λ_ _ f=>f.elim);cases ok with
  | false=>exact QbF ⟨rfl,q4⟩
  | true=>exact QbE (QbE (QbG q4 (λx s5 q5=>QbE (QbG q5 (λ_ s6 q6=>QbF (QbF ⟨rfl,q6⟩)) λ_ _ f=>f.elim)) λ_ _ f=>f.elim))
def cxC (X:Cx) (N':YF) (scope:Scope) (s3:Shared) (H3:Hp) (fp:List Addr) (pn:YC):Cx where
 prog:=X.prog
 w:=X.w
 K:=X.K
 mg:=X.mg
 base:=X.base
 A:=X.A
 N:=N'
 s₀:=s3
 H₀:=H3
 env:=compEnvC scope (Du X.env scope.names []) s3.heap.objs.size X.env
 outer:=X.stack
 stack:=X.stack
 ex:=fp
 fn:=λ_=>false
 calm:=X.calm
 pn:=pn
 xe:=λ_ _=>False
structure BX (X:Cx) (N':YF) (src:List (Option Nat)) (sc:Scope):Prop where
 kind:sc.kind=.function
 Gz:∀y∈sc.names,y.2≠.cell
 loc:∀y∈sc.names,y.2=.local->sc.names.lookup y.1=some .local
 fv:∀y∈sc.names,y.2=.free->X.env.kindOf y.1=some .cell\/X.env.kindOf y.1=some .free
 len:src.length=N'.length
 src:∀(i:Nat) (x:Str) (j:Nat),N'[i]?=some x->src[i]?=some (some j)->X.N[j]?=some x/\sc.names.lookup x=some .free
def Hv (src:List (Option Nat)) (U : St):St:=src.map λo=>match o with | none=>none | some j=>(U[j]?).join
def PF (X:Cx) (ifs:YJ) (t:TT):Prop:=
 ∀(jb:YC) (s:Shared) (U : St) (H:Hp) (Q:Bool->Hp->Prop),Inv X jb U H s->t U H Q ->
  wpAny (model X.prog X.w) X.A (forIn ifs true λc r=>if r=true then do let ok <-isTrue c X.env (eval c X.env);pure (ForInStep.yield ok) else pure (ForInStep.yield r)) (TP X jb U Q) X.xe s
theorem Gu {X:Cx}:PF X [] (λ_ H Q=>Q true H):=λ_ _ _ H _ I h=>wpAny_tests_nil ⟨H,I,h⟩
theorem Za {X:Cx} {c:Expr} {t:TT} (hc:PT X c t):PF X [c] t:=λjb s U H Q I h=>wpAny_tests_one (hc jb s U H Q I h)
theorem Un.ahead {fs ex:List Addr} {H H':Hp} {h h1 h':Heap} (u:Un fs ex H H' h h1) (k:∀b o,b < h.objs.size->h1.get? b=some o->h'.get? b=some o):Un fs ex H H' h h' where
 keep:=λb o e n hb hx=>k b o (Qbx e) (u.keep b o e n hb hx)
 slot:=λb o e n hb hx=>by
  obtain⟨sl,q⟩:=u.slot b o e n hb hx;exact⟨sl,k b _ (Qbx e) q⟩
 free:=u.free
 there:=λb o e hx=>by
  obtain⟨o',q⟩:=u.there b o e hx;exact⟨o',k b _ (Qbx e) q⟩
 tups:=u.tups
 Gd:=u.Gd
 Gp:=u.Gp
section
variable {X:Cx} {N':YF} {src:List (Option Nat)} {sc:Scope} {jb:YC} {U : St} {H:Hp} {s3:Shared} {fp:List Addr} {h1:Heap} {tk:Nat}
theorem Qz (S:BX X N' src sc) (I:Inv X jb U H s3) (hf:∀b∈fp,Ft X jb H b) (ht:∀b∈fp,b < s3.heap.objs.size)
  (ns:h1.Ns s3.heap.objs.size λ_=>none) (kp:∀b o,s3.heap.get? b=some o->h1.get? b=some o) :
  Inv (cxC X N' sc s3 H fp (X.pn++jb)) [] (Hv src U) H { s3 with heap:=h1,toks:=tk }:=by
 have hcl:∀x c,(Du X.env sc.names []).lookup x=some c->X.env.cells.lookup x=some c:=QG sc.names [] λx c e=>by cases e
 have old:∀x c,(Du X.env sc.names []).lookup x=some c->∃o,s3.heap.get? c=some o:=λx c e=>by
  obtain⟨v,o,ho,_⟩:=I.cell x c (hcl x c e);exact⟨o,ho⟩
 have fvh:∀x,(x,NameKind.free)∈sc.names->∃c,X.env.cells.lookup x=some c:=λx hx=>I.ok.has x (S.fv _ hx rfl);have YS:∀b,b≠X.env.locals->b∉X.fs->b∉frs X.stack:=λb h1 h2 hb=>(Qbs.mp (I.Pr b hb)).elim h1 h2;have kindOf_eq:∀x,(compEnvC sc (Du X.env sc.names []) s3.heap.objs.size X.env).kindOf x=(sc.names.lookup x).map (Ik X.env x):=λx=>Mr X.env sc.names x;refine⟨⟨I.ok.mod,S.kind,I.ok.glob,I.ok.blt,QbB _,λx y c e1 e2=>I.ok.inj x y c (hcl x c e1) (hcl y c e2),λx hx=>?_,λx c hf=>absurd hf QaA,I.ok.hd,I.ok.frames,.inl rfl,λb hb=>?_,I.bs,Qby I.ok.bsz I.sz,
  λb o e hb=>?_,λb hb=>?_,I.stack,I.Rq⟩,rq,I.bare,Un.kept kp,⟨_,ns,λi x v e1 e2 e3=>?_⟩,λx c e=>?_,I.hok.fresh (QbB _),λx c e=>I.GD x c (hcl x c e),λp hp=>?_,I.hok.kept kp,?_⟩
 ·
  have hx':(sc.names.lookup x).map (Ik X.env x)=some .cell\/(sc.names.lookup x).map (Ik X.env x)=some .free:=by
   rw[<-kindOf_eq x];exact hx
  cases q:sc.names.lookup x with
  | none=>rw[q] at hx';rcases hx' with z | z <;> cases z
  | some k=>
   rw[q] at hx';have hk:k=.cell\/k=.free:=V9 (env:=X.env) (n:=x) (hx'.imp (λz=>Qbc z) λz=>Qbc z);have hm:=Qax q;rcases hk with rfl | rfl
   ·exact absurd rfl (S.Gz _ hm)
   ·exact Lx sc.names [] x (.inr ⟨hm,fvh x hm⟩)
 ·
  obtain⟨f0,f1,f2,f3,f4,f5⟩:=hf b hb;exact⟨Qbz (ht b hb),λx c e=>f4 x c (hcl x c e)⟩
 ·
  obtain⟨f0,f1,f2,f3,f4,f5⟩:=hf b hb;rcases f3 with z | z
  ·exact I.ok.M5 b o e z
  ·exact absurd (QaD (Qbx e) (Qby I.ok.bsz z)) (Qbt _)
 ·
  obtain⟨f0,f1,f2,f3,f4,f5⟩:=hf b hb;exact YS b f1 f2
 ·
  have e2':(Hv src U)[i]?=some (some v):=e2;unfold Hv at e2';rw[QaM] at e2';cases q:src[i]? with
  | none=>rw[q] at e2';cases e2'
  | some oj=>
   rw[q] at e2';cases oj with
   | none=>cases e2'
   | some j=>
    have e4:(U[j]?).join=some v:=Qbc e2';have e5:U[j]?=some (some v):=by
     cases r:U[j]? with
     | none=>rw[r] at e4;cases e4
     | some z=>rw[r] at e4;cases z with
      | none=>cases e4
      | some y=>cases e4;rfl
    obtain⟨hN,hfr⟩:=S.src i x j e1 q;have hm:=Qax hfr;have kx:=S.fv _ hm rfl;obtain⟨m,hn,hl⟩:=I.loc;obtain⟨u,r,l⟩:=hl j x v hN e5 (.inr kx);refine⟨u,r,?_⟩;rcases l with⟨k1,_⟩|⟨_,c,hc,hcell⟩
    ·rcases kx with z | z <;> (rw[z] at k1;cases k1)
    ·obtain⟨c',hc'⟩:=Lx (env:=X.env) sc.names [] x (.inr ⟨hm,c,hc⟩);have e6:c'=c:=by
      have:=hcl x c' hc';rw[hc] at this;exact (Qbc this).symm
     subst e6;refine .inr ⟨?_,c',hc',?_⟩
     ·have:(compEnvC sc (Du X.env sc.names []) s3.heap.objs.size X.env).kindOf x=some (Ik X.env x .free):=by rw[kindOf_eq x,hfr];rfl
      show (compEnvC sc (Du X.env sc.names []) s3.heap.objs.size X.env).kindOf x=some .cell\/(compEnvC sc (Du X.env sc.names []) s3.heap.objs.size X.env).kindOf x=some .free;rw[this];unfold Ik;split
      ·exact .inl rfl
      ·exact .inr rfl
     ·obtain⟨o,ho,hd⟩:=hcell;exact⟨o,kp _ o ho,hd⟩
 ·
  obtain⟨v,o,ho,hd⟩:=I.cell x c (hcl x c e);exact⟨v,o,kp _ o ho,hd⟩
 ·
  have hp':p∈X.pn++jb:=(Qbb.mp hp).elim id λz=>by cases z
  obtain⟨a1,a2,a3,a4,a5⟩:=I.pin p hp';exact⟨kp _ _ a1,a2,Qbz (Qbx a1),YS p.1 a3 a4,a5⟩
 ·show (Hv src U).length=N'.length;unfold Hv;rw[QaX];exact S.len
theorem QB {s1:Shared} {σ':St} {H':Hp} {h':Heap} (I:Inv X jb U H s3) (hf:∀b∈fp,Ft X jb H b) (I':Inv (cxC X N' sc s3 H fp (X.pn++jb)) [] σ' H' s1)
  (sb:Heap.SameBut s3.heap.objs.size s1.heap h'):Inv X jb U H' { s1 with heap:=h' }:=by
 have fr:H' s3.heap.objs.size=none:=I'.free;refine I.call' (s':={ s1 with heap:=h' }) (ch:=fp) I'.os ?_ ?_ I'.bare λb hb=>?_
 ·exact Un.ahead (h:=s3.heap) (h1:=s1.heap) I'.base λb o hb e=>sb.extBut b o (Qbz hb) e
 ·exact λb u e=>(I'.hok b u e).stay (λc v hc q=>sb.extBut c v (by
   intro z;rcases hc with y | y
   ·rw[<-y,z,fr] at e;cases e
   ·rw[z,fr] at y;cases y) q) (λ_ q=>q) λ_ _ q=>q
 ·obtain⟨f0,f1,f2,f3,f4,f5⟩:=hf b hb;exact⟨f3,f1,f4,λp hp=>f5 p hp⟩
end
@[irreducible] def FZ (J:It) (g:TG) (tt:TT) (te:TE) (Q:VK) (σ0:St) (H0:Hp) (l:Addr):Prop:=∃W:Nat->YN,(∃m,W 0 m σ0 H0) /\
 ∀i m σ' H',W i m σ' H'->(J.stop i H'/\Q (.ref l) H')\/(J.go i H'/\∃N:YO,(∀ σ3 H3,N σ3 H3->∃m',m' < m/\W (i+1) m' σ3 H3)/\∀x H2,J.yld i H' x H2->g x σ' H2 fun σ3 H3=>tt σ3 H3 λb H4=>
  if b=true then te σ3 H4 λy H5=>∃xs,H5 l=some (.lst xs)/\xs.length < sizeLine/\N σ3 (upd H5 l (.lst (xs++[y]))) else N σ3 H4)
def Sy (wi:TI) (src:List (Option Nat)) (g:TG) (tt:TT) (te:TE):TE:=fun U H Q=>wi U H λJ H1=>∀l,H1 l=none->FZ J g tt te Q (Hv src U) (upd H1 l (.lst [])) l
theorem Ob {X:Cx} {N':YF} {src:List (Option Nat)} {sc:Scope} {elt tg iter:Expr} {ifs:YJ} {pos pos':Pos} {wi:TI} {g:TG} {tt:TT} {te:TE} {use:Option (Value->Sem Unit)} {R:YA} (hc:X.calm=true) (S:BX X N' src sc)
  (hi:PI X tg iter wi) (hg:∀s3 H3 fp pn,PG (cxC X N' sc s3 H3 fp pn) tg g) (ht:∀s3 H3 fp pn,PF (cxC X N' sc s3 H3 fp pn) ifs tt) (he:∀s3 H3 fp pn,PE (cxC X N' sc s3 H3 fp pn) elt te)
  (hs:∀x,foldedSetIterable iter X.env x=pure x) {jb:YC} {s:Shared} {U : St} {H:Hp} {Q:VK} (I:Inv X jb U H s) (h:Sy wi src g tt te U H Q)
  (fin:∀s3 H3 fp σ4 H4 s5 l,Inv X jb U H3 s3->(∀b∈fp,Ft X jb H3 b)->Inv (cxC X N' sc s3 H3 fp (X.pn++jb)) [] σ4 H4 s5->Q (.ref l) H4 ->
   compPost (model X.prog X.w) X.A X.xe use R (.ref l) s3.heap.objs.size (.ok .next) s5) :
  wpAny (model X.prog X.w) X.A (comprehension (.ListComp elt [⟨tg,iter,ifs,0⟩] sc pos) sc X.env pos' (newList []) false (eval iter X.env) use) R X.xe s:=by
 refine wpAny_comprehension_free (use:=use) (cl:=Du X.env sc.names []) rfl hs (Mw λp hp e=>I.ok.has p.1 (S.fv p hp e)) S.kind S.loc ?_;refine thn (hi jb s U H _ I h) λv s1 h1=>thn h1 λitv s2 h2=>?_;obtain⟨it,fp,tn,J,H2,rfl,I2,T,st2,f2,q⟩:=h2;have q':=q s2.heap.objs.size (I2.hok.fresh (QbB _));unfold FZ at q';obtain⟨W,⟨m0,w0⟩,turn⟩:=q';refine QaO (wpAny_newFunctionEnv S.Gz (by intro y hy;simp at hy) (λha hns hsb=>?_) S.kind);have I3:Inv X jb U (upd H2 s2.heap.objs.size (.lst [])) { s2 with heap:=s2.heap.push { cls:=.type "list",dict:=none,data:=.seq ([]:YE).toArray } }:=
  I2.laid (t':=s2.toks) (λb u e=>Qao _ e) (QbB _) ⟨QbC _,[],0,.nil,Qaw _ rfl⟩
 have hfl:∀b∈fp,b < s2.heap.objs.size:=λb hb=>by
  obtain⟨o,e,_⟩:=T.obj 0 _ st2 b hb;exact Qbx e
 have f3:∀b∈fp,Ft X jb (upd H2 s2.heap.objs.size (.lst [])) b:=λb hb=>⟨by rw[Bv (Qbz (hfl b hb))];exact (f2 b hb).1,(f2 b hb).2⟩;generalize hs3:({ s2 with heap:=s2.heap.push { cls:=.type "list",dict:=none,data:=.seq ([]:YE).toArray } }:Shared)=s3 at *;have hsz:s2.heap.objs.size < s3.heap.objs.size:=by rw[<-hs3];show s2.heap.objs.size < (s2.heap.push _).objs.size;rw[Heap.size_push];exact Nat.lt_succ_self _
 have kp:∀b o,s3.heap.get? b=some o->ha.get? b=some o:=λb o e=>hsb.extBut b o (Qbz (Qbx e)) (Qao _ e);have st3:tn 0 ha:=T.keep 0 _ _ st2 λb hb o e=>kp b o (by rw[<-hs3];exact Qao _ e);have I4:Inv (cxC X N' sc s3 (upd H2 s2.heap.objs.size (.lst [])) fp (X.pn++jb)) [] (Hv src U) (upd H2 s2.heap.objs.size (.lst [])) { s3 with heap:=ha,toks:=s3.toks+([]:List (Str×Value)).length }:=
  Qz S I3 f3 (λb hb=>Nat.lt_trans (hfl b hb) hsz) hns kp
 have loop:codeAny (model X.prog X.w) X.A (.compLoop (.ListComp elt [⟨tg,iter,ifs,0⟩] sc pos) 0 (.ref it) (.ref s2.heap.objs.size) (compEnvC sc (Du X.env sc.names []) s3.heap.objs.size X.env))
   (compPost (model X.prog X.w) X.A X.xe use R (.ref s2.heap.objs.size) s3.heap.objs.size) { s3 with heap:=ha,toks:=s3.toks+([]:List (Str×Value)).length }:=by
  refine Vx (λn s'=>∃i σ' H',Inv (cxC X N' sc s3 (upd H2 s2.heap.objs.size (.lst [])) fp (X.pn++jb)) [] σ' H' s'/\tn i s'.heap/\(∀b∈fp,H' b=none)/\W i n σ' H') ?_ m0 ⟨0,_,_,I4,st3,λb hb=>(f3 b hb).1,w0⟩;rintro n s4 ⟨i,σ4,H4,J4,st4,fr4,w4⟩;have stat:∀{H':Hp},(∀b∈fp,H' b=none)->∀b∈fp,Ft (cxC X N' sc s3 (upd H2 s2.heap.objs.size (.lst [])) fp (X.pn++jb)) [] H' b:=λhn b hb=>
   ⟨hn b hb,(I4.ok.exf b hb).1,I4.ok.Lr b hb,.inl hb,λx c e=>(I4.ok.exf b hb).2 x c e,λp hp=>(f3 b hb).2.2.2.2.2 p ((Qbb.mp hp).elim id λz=>by cases z)⟩
  rcases turn i n σ4 H4 w4 with⟨stop,qn⟩|⟨go,N,hN,step⟩
  ·refine thn (T.done (cxC X N' sc s3 (upd H2 s2.heap.objs.size (.lst [])) fp (X.pn++jb)) rfl rfl rfl hc i [] s4 σ4 H4 _ J4 (stat fr4) st4 stop) λr s5 zz=>?_;obtain⟨hr,J5⟩:=zz;subst hr;exact fin s3 _ fp σ4 H4 s5 _ I3 f3 J5 qn
  ·refine thn (T.item (cxC X N' sc s3 (upd H2 s2.heap.objs.size (.lst [])) fp (X.pn++jb)) rfl rfl rfl hc i [] s4 σ4 H4 _ J4 (stat fr4) st4 go) λr s5 zz=>?_;obtain⟨u,hr,h5⟩:=zz;subst hr;refine thn h5 λ_ s6 zz=>?_;obtain⟨x,H6,J6,r6,y6,st6,fr6⟩:=zz;have J6':=J6.pinned (stat fr6) (T.obj _ _ st6);have back:∀{pl:YC} {σ7:St} {H7:Hp} {s7:Shared},Inv (cxC X N' sc s3 (upd H2 s2.heap.objs.size (.lst [])) fp (X.pn++jb)) ([]++Io fp s6.heap) σ7 H7 s7->N σ7 H7 ->
     ∃m',m' < n/\∃i σ' H',Inv (cxC X N' sc s3 (upd H2 s2.heap.objs.size (.lst [])) fp (X.pn++jb)) [] σ' H' s7/\tn i s7.heap/\(∀b∈fp,H' b=none)/\W i m' σ' H':=λ{pl σ7 H7 s7} J7 w7=>by
    obtain⟨m',hm,w7⟩:=hN _ _ w7;have pinned:∀b∈fp,∀o,s6.heap.get? b=some o->s7.heap.get? b=some o/\H7 b=none:=λb hb o e=>by
     have:=J7.pin (b,o) (Qaq _ (Qaq _ (Fz hb e)));exact⟨this.1,this.2.1⟩
    refine⟨m',hm,i+1,σ7,H7,J7.Ey,T.keep _ _ _ st6 λb hb o e=>(pinned b hb o e).1,λb hb=>?_,w7⟩;obtain⟨o,e,_⟩:=T.obj _ _ st6 b hb;exact (pinned b hb o e).2
   refine thn (hg s3 _ fp _ _ s6 σ4 H6 x u _ J6' r6 (step x H6 y6)) λ_ s7 zz=>?_;obtain⟨σ7,H7,J7,q7⟩:=zz;refine thn (ht s3 _ fp _ _ s7 σ7 H7 _ J7 q7) λok s8 zz=>?_;obtain⟨H8,J8,q8⟩:=zz;cases ok with
   | false=>
    rw[if_neg QaA] at q8 ⊢;exact back (pl:=[]) J8 q8
   | true=>
    rw[if_pos rfl] at q8 ⊢;refine thn (he s3 _ fp _ _ s8 σ7 H8 _ J8 q8) λy s9 zz=>?_;obtain⟨yv,H9,J9,r9,xs,hl9,hz9,q9⟩:=zz;refine thn (Gi _ s9 σ7 H9 (.ref s2.heap.objs.size) [yv] (.ref s2.heap.objs.size) [y] (λ_ H'=>N σ7 H') J9 rfl (.cons r9 .nil) ⟨_,xs,yv,rq,rq,hl9,hz9,q9⟩) λ_ s10 zz=>?_;obtain⟨_,H10,J10,_,q10⟩:=zz;exact back (pl:=[]) J10 q10
 exact codeAny_compStart_list loop (T.self X.A 0 _ _ _ st3 loop)
theorem Fx {X:Cx} {N':YF} {src:List (Option Nat)} {sc:Scope} {elt tg iter:Expr} {ifs:YJ} {pos:Pos} {wi:TI} {g:TG} {tt:TT} {te:TE} (hc:X.calm=true) (S:BX X N' src sc)
  (hi:PI X tg iter wi) (hg:∀s3 H3 fp pn,PG (cxC X N' sc s3 H3 fp pn) tg g) (ht:∀s3 H3 fp pn,PF (cxC X N' sc s3 H3 fp pn) ifs tt) (he:∀s3 H3 fp pn,PE (cxC X N' sc s3 H3 fp pn) elt te)
  (hs:∀x,foldedSetIterable iter X.env x=pure x:=by intro _;rfl):PE X (.ListComp elt [⟨tg,iter,ifs,0⟩] sc pos) (Sy wi src g tt te):=by
 intro jb s U H Q I h;rw[eval_ListComp];refine Ob (use:=none) hc S hi hg ht he hs I h λs3 H3 fp σ4 H4 s5 l I3 f3 J5 q=>?_;obtain⟨m,hn,_⟩:=J5.loc;exact⟨m,hn,λh' sb=>⟨.ref l,H4,QB I3 f3 J5 sb,rq,q⟩⟩
theorem XD {X:Cx} {N':YF} {src:List (Option Nat)} {sc:Scope} {elt tg iter:Expr} {ifs:YJ} {pos spos px:Pos} {wi:TI} {g:TG} {tt:TT} {te:TE} {i:Nat} {x:Str} (hN:X.N.Nodup) (hi0:X.N[i]?=some x) (hx:Loc X.env.scope x) (hc:X.calm=true) (S:BX X N' src sc)
  (hi:PI X tg iter wi) (hg:∀s3 H3 fp pn,PG (cxC X N' sc s3 H3 fp pn) tg g) (ht:∀s3 H3 fp pn,PF (cxC X N' sc s3 H3 fp pn) ifs tt) (he:∀s3 H3 fp pn,PE (cxC X N' sc s3 H3 fp pn) elt te)
  (hsw:swapsWith (.ListComp elt [⟨tg,iter,ifs,0⟩] sc pos) (some (.Name x px)) spos.line X.env=pure true:=by rfl) (hs:∀x,foldedSetIterable iter X.env x=pure x:=by intro _;rfl)
  (hf:X.fn x=true\/X.env.scope.names.lookup x=some .local:=by first | exact .inl rfl | exact .inr rfl | assumption) :
  PS X (.Assign [.Name x px] (.ListComp elt [⟨tg,iter,ifs,0⟩] sc pos) spos) (SJ (Sy wi src g tt te) (FJ i)):=by
 intro jb s U H D I h;rw[exec_Assign_Name_used _ _ _ _ hsw];refine QbE (Qbu (QbE ?_));show wpAny _ X.A (do let _ <-comprehension (.ListComp elt [⟨tg,iter,ifs,0⟩] sc pos) sc X.env _ (newList []) false (eval iter X.env) (some (assign (.Name x px) X.env))) _ _ s
 refine QbE (thn (Ob (R:=λ_ s'=>SP X jb D .next s') hc S hi hg ht he hs I h λs3 H3 fp σ4 H4 s5 l I3 f3 J5 q=>?_) λ_ s' hq=>QbF (QbF hq));obtain⟨m,⟨oC,es,ep,hoC,r⟩,_⟩:=J5.loc;have I6:Inv X jb U H4 { s5 with heap:=s5.heap }:=QB I3 f3 J5 (Heap.SameBut.refl _ _);have hCn:H4 s3.heap.objs.size=none:=J5.free;have neL:s3.heap.objs.size≠X.env.locals:=Nat.ne_of_gt I3.lt;have Wr:∀v,oC.data≠.cell v:=λv z=>by rw[r.1] at z;cases z
 have I7:Inv X (jb++[(s3.heap.objs.size,oC)]) U H4 s5:=I6.KQ λp hp=>(Qbb.mp hp).elim (λz=>I6.pin p (Qaq _ z)) λz=>by
  cases QaE.mp z;exact⟨hoC,hCn,neL,I3.Wn (QbB _),Wr⟩
 show wpAny _ X.A (assign (.Name x px) X.env (.ref l)) _ _ s5;refine wpAny_assign_Name (Ga (v:=.ref l) I7 hN hi0 hx rfl (λs6 I8=>?_) hf);have k8:=(I8.pin (s3.heap.objs.size,oC) (Qaq _ (Qaq _ (QaE.mpr rfl)))).1;refine⟨m,⟨oC,es,ep,k8,r⟩,λh' sb=>⟨_,H4,?_,q⟩⟩;have I9:=I8.Ey;refine I9.turned (t':=s6.toks) (λb o hb e=>sb.extBut b o hb e) hCn neL (.inr I3.sz) (λy c e z=>?_) (λp hp z=>?_)
 ·obtain⟨v,o,ho,_⟩:=I3.cell y c e;exact absurd (Qbx ho) (by rw[z];exact Qbt _)
 ·have:=(I3.pin p hp).1;exact absurd (Qbx this) (by rw[z];exact Qbt _)
theorem BX.of {X:Cx} {N':YF} {src:List (Option Nat)} {sc:Scope} (fsc:Scope) (N:YF) (hX:X.env.scope=fsc) (hN:X.N=N) (kind:sc.kind=.function) (Gz:∀y∈sc.names,y.2≠.cell) (loc:∀y∈sc.names,y.2=.local->sc.names.lookup y.1=some .local)
  (fv:∀y∈sc.names,y.2=.free->fsc.names.lookup y.1=some .cell) (len:src.length=N'.length)
  (sr:((N'.zip src).all λp=>match p.2 with | none=>true | some j=>decide (N[j]?=some p.1)&&decide (sc.names.lookup p.1=some .free))=true):BX X N' src sc where
 kind:=kind
 Gz:=Gz
 loc:=loc
 fv:=λy hy e=>.inl (by show X.env.scope.names.lookup y.1=some .cell;rw[hX];exact fv y hy e)
 len:=len
 src:=λi x j e1 e2=>by
  rw[QaS] at sr;have hm:(x,some j)∈N'.zip src:=by
   refine Qat (i:=i) ?_;rw[List.getElem?_zip_eq_some];exact⟨e1,e2⟩
  have:=sr _ hm;simp only[QaR,decide_eq_true_eq] at this;rw[hN];exact this
section
variable {X:Cx}
@[irreducible] def Hu (K:YD):YG->Hp->VK->Prop:=λxs H Q=>∃x T t b,xs=[x,.ty T]/\G5 K H x t/\kitOne K t (.type T)=some b/\Q (.bl b) H
theorem Eo:Ds X (.builtin "isinstance") (Hu X.K):=by
 intro jb s U H xs us Q I r h;unfold Hu at h;obtain⟨x,T,t,b,rfl,ty,e,q⟩:=h;obtain⟨u,w',rfl,rx,rt⟩:=vals2 r;cases rt;exact Vk I rx ty e λtk=>⟨.bl b,H,I.tok tk,rq,q⟩
theorem Rf {K:YD}:kitOne K (.type "int") (.type "int")=some true:=by rfl
theorem Qp {K:YD}:kitOne K (.type "int") (.type "bool")=some false:=by rfl
theorem Qq {K:YD}:kitOne K (.type "bool") (.type "int")=some true:=by rfl
theorem OD {K:YD}:kitOne K (.type "bool") (.type "bool")=some true:=by rfl
theorem Qn {K:YD}:kitOne K (.type "NoneType") (.type "int")=some false:=by rfl
theorem Rb {K:YD}:kitOne K (.type "str") (.type "int")=some false:=by rfl
theorem Qo {K:YD}:kitOne K (.type "list") (.type "int")=some false:=by rfl
theorem Ow {K:YD}:kitOne K (.type "tuple") (.type "int")=some false:=by rfl
theorem Ng {K:YD}:kitOne K (.type "NoneType") (.type "tuple")=some false:=by rfl
theorem Ni {K:YD}:kitOne K (.type "bool") (.type "tuple")=some false:=by rfl
theorem Oz {K:YD}:kitOne K (.type "int") (.type "tuple")=some false:=by rfl
theorem Ox {K:YD}:kitOne K (.type "str") (.type "tuple")=some false:=by rfl
theorem Nh {K:YD}:kitOne K (.type "list") (.type "tuple")=some false:=by rfl
theorem Mt {K:YD}:kitOne K (.type "tuple") (.type "tuple")=some true:=by rfl
def Kn (H:Hp):V->Prop
 | .non=>True
 | .bl _=>True
 | .int _=>True
 | .str _=>True
 | .ref a=>(∃xs,H a=some (.lst xs))\/∃xs,H a=some (.tup xs)
 | _=>False
def isI:V->Bool
 | .int _=>true
 | .bl _=>true
 | _=>false
def isB:V->Bool
 | .bl _=>true
 | _=>false
def isW:V->Bool
 | .int _=>true
 | _=>false
def Jz (H:Hp):V->Option (YG)
 | .ref a=>match H a with
  | some (.tup xs)=>some xs
  | _=>none
 | _=>none
theorem Lb {H:Hp} {a:Addr} {xs:YG} (h:H a=some (.tup xs)):Jz H (.ref a)=some xs:=by
 show (match H a with | some (.tup xs)=>some xs | _=>none)=some xs
 rw[h]
theorem Nz {H:Hp} {a:Addr} {xs:YG} (h:H a=some (.lst xs)):Jz H (.ref a)=none:=by
 show (match H a with | some (.tup xs)=>some xs | _=>none)=none
 rw[h]
theorem Wk {H:Hp} {v:V} {xs:YG} (h:Jz H v=some xs):∃a,v=.ref a/\H a=some (.tup xs):=by
 cases v with
 | ref a=>
  refine⟨a,rq,?_⟩;have h':(match H a with | some (.tup xs)=>some xs | _=>none)=some xs:=h
  split at h'
  ·rename_i e;cases h';exact e
  ·cases h'
 | _=>cases h
theorem Kn.same {H H':Hp} {v:V} (s:Same H H') (k:Kn H v):Kn H' v:=by
 cases v with
 | ref a=>exact k.imp (λ⟨xs,e⟩=>⟨xs,s _ _ e⟩) λ⟨xs,e⟩=>⟨xs,s _ _ e⟩
 | _=>exact k
theorem RT {K:YD} {H:Hp} {x:V} {Q:VK} (k:Kn H x) (q:Q (.bl (isI x)) H):Hu K [x,.ty "int"] H Q:=by
 unfold Hu;cases x with
 | non=>exact⟨_,_,_,_,rfl,.non,Qn,q⟩
 | bl b=>exact⟨_,_,_,_,rfl,.bl b,Qq,q⟩
 | int i=>exact⟨_,_,_,_,rfl,.int i,Rf,q⟩
 | str z=>exact⟨_,_,_,_,rfl,.str z,Rb,q⟩
 | ref a=>
  rcases k with⟨xs,e⟩|⟨xs,e⟩
  ·exact⟨_,_,_,_,rq,.lst e,Qo,q⟩
  ·exact⟨_,_,_,_,rq,.tup e,Ow,q⟩
 | _=>exact k.elim
theorem Qu {K:YD} {H:Hp} {x:V} {Q:VK} (k:isI x=true) (q:Q (.bl (isB x)) H):Hu K [x,.ty "bool"] H Q:=by
 unfold Hu;cases x with
 | bl b=>exact⟨_,_,_,_,rfl,.bl b,OD,q⟩
 | int i=>exact⟨_,_,_,_,rfl,.int i,Qp,q⟩
 | _=>cases k
theorem Je {K:YD} {H:Hp} {x:V} {Q:VK} (k:Kn H x) (q:Q (.bl (Jz H x).isSome) H):Hu K [x,.ty "tuple"] H Q:=by
 unfold Hu;cases x with
 | non=>exact⟨_,_,_,_,rfl,.non,Ng,q⟩
 | bl b=>exact⟨_,_,_,_,rfl,.bl b,Ni,q⟩
 | int i=>exact⟨_,_,_,_,rfl,.int i,Oz,q⟩
 | str z=>exact⟨_,_,_,_,rfl,.str z,Ox,q⟩
 | ref a=>
  rcases k with⟨xs,e⟩|⟨xs,e⟩
  ·rw[Nz e] at q;exact⟨_,_,_,_,rq,.lst e,Nh,q⟩
  ·rw[Lb e] at q;exact⟨_,_,_,_,rq,.tup e,Mt,q⟩
 | _=>exact k.elim
theorem QM:∀{bs:List Bool} {us:YE},Vals (bs.map V.bl) us->LSm.BoolsAre us bs
 | [],_,.nil=>.nil
 | b::r,_,.cons h t=>by
  cases (show _=Value.bool b from h)
  exact .cons b (QM t)
theorem JR (hc:X.calm=true):Ds X (.builtin "all") (λxs H Q=>∃(p:Addr) (bs:List Bool),xs=[.ref p]/\SqL X.K H p (bs.map V.bl)/\Q (.bl (bs.all id)) H):=by
 intro jb s U H xs us Q I r h;obtain⟨p,bs,rfl,hq,q⟩:=h;obtain⟨u,rfl,rx⟩:=vals1 r;cases rx;obtain⟨its,rv,pl,hz⟩:=I.list hq;have hb:=QM rv;have hl:=pl.isList;have hlt:p < s.heap.objs.size:=by obtain⟨_,e,_⟩:=hl;exact Qbx e
 refine call_all_walk (wpAny_pyIter_list hl ?_);refine⟨s.heap.objs.size,[s.heap.objs.size,p],[s.heap.objs.size],its.toArray.size,_,_,λi=>(bs[i]?).getD true,rq,Walks.list (A:=X.A.in1) (I.ok.hd hc) _ p (Qbz hlt) its.toArray,
  ⟨⟨_,Qaw _ rfl,rq,rq⟩,hl.push _⟩,λi v s' Q' E' hP hQ=>?_,λh' tk hk=>?_⟩
 ·obtain⟨b,e,rfl⟩:=hb.get i v (by simpa using hP);simp only[e,Option.getD_some] at hQ;exact QaN hQ
 ·have e:((List.range its.toArray.size).all λi=>(bs[i]?).getD true)=bs.all id:=by
   rw[QaK,hb.length];exact LSm.range_all bs
  rw[e];exact⟨.bl (bs.all id),H,I.kept (LSm.kept_iter hk),rq,q⟩
mutual
inductive Rep (H:Hp):V->PyData->Prop
 | non:Rep H .non .none
 | bl (b:Bool):Rep H (.bl b) (.bool b)
 | int (i:Int):Rep H (.int i) (.int i)
 | str (x:Str):Rep H (.str x) (.str x)
 | tup {a:Addr} {xs:YG} {ds:List PyData}:H a=some (.tup xs)->Bb H xs ds->Rep H (.ref a) (.tuple ds)
 | lst {a:Addr} {xs:YG} {ds:List PyData}:H a=some (.lst xs)->Bb H xs ds->Rep H (.ref a) (.list ds)
inductive Bb (H:Hp):YG->List PyData->Prop
 | nil:Bb H [] []
 | cons {x:V} {d:PyData} {xs:YG} {ds:List PyData}:Rep H x d->Bb H xs ds->Bb H (x::xs) (d::ds)
end
mutual
theorem Rep.reads {P:Program} {w:World} {H:Hp} {h:Heap} (ok:HOk P w H h):∀{v:V} {d:PyData} {u:Value},Rep H v d->RelV v u->∃as,Reads h u d as
 | _,_,_,.non,r=>by cases (show _=Value.none from r);exact⟨_,.none⟩
 | _,_,_,.bl b,r=>by cases (show _=Value.bool b from r);exact⟨_,.bool b⟩
 | _,_,_,.int i,r=>by obtain⟨t,rfl⟩:=(show ∃t,_=Value.int i t from r);exact⟨_,.int i t⟩
 | _,_,_,.str x,r=>by obtain⟨t,rfl⟩:=(show ∃t,_=Value.str x t from r);exact⟨_,.str x t⟩
 | _,_,_,.tup (a:=a) (xs:=xs) e q,r=>by
  cases (show _=Value.ref a from r)
  obtain⟨_,its,rv,o,ho,hc,n,hd⟩:=(show Cm P w H h a (.tup xs) from ok a _ e)
  obtain⟨as,z⟩:=Bb.reads ok q rv;exact⟨_,.tuple ho hc hd (by simpa using z)⟩
 | _,_,_,.lst (a:=a) (xs:=xs) e q,r=>by
  cases (show _=Value.ref a from r)
  obtain⟨_,its,n,rv,ho⟩:=(show Cm P w H h a (.lst xs) from ok a _ e)
  obtain⟨as,z⟩:=Bb.reads ok q rv;exact⟨_,.list ho rfl rfl (by simpa using z)⟩
theorem Bb.reads {P:Program} {w:World} {H:Hp} {h:Heap} (ok:HOk P w H h):∀{xs:YG} {ds:List PyData} {us:YE},Bb H xs ds->Vals xs us->∃as,ReadsAll h us ds as
 | _,_,_,.nil,.nil=>⟨_,.nil⟩
 | _,_,_,.cons p q,.cons r t=>by
  obtain⟨as,a1⟩:=Rep.reads ok p r;obtain⟨bs,b1⟩:=Bb.reads ok q t;exact⟨_,.cons a1 b1⟩
end
theorem Ho (hu:X.A.units+64 < cLine):OpR X (compareOp .Eq) (λx y H Q=>∃d e,Rep H x d/\Rep H y e/\SeqAt.shaped d=true/\SeqAt.shaped e=true/\Q (.bl (PyData.eqv d e)) H):=by
 intro jb s U H x y v u Q I rx ry h;obtain⟨d,e,p,p',sd,se,q⟩:=h;obtain⟨as,r1⟩:=p.reads I.hok rx;obtain⟨bs,r2⟩:=p'.reads I.hok ry;exact eq_dataH r1 r2 sd se hu ⟨.bl (PyData.eqv d e),H,I,rq,q⟩
theorem Qd (hu:X.A.units+64 < cLine):OpR X (compareOp .NotEq) (λx y H Q=>∃d e,Rep H x d/\Rep H y e/\SeqAt.shaped d=true/\SeqAt.shaped e=true/\Q (.bl (!PyData.eqv d e)) H):=by
 intro jb s U H x y v u Q I rx ry h;obtain⟨d,e,p,p',sd,se,q⟩:=h;obtain⟨as,r1⟩:=p.reads I.hok rx;obtain⟨bs,r2⟩:=p'.reads I.hok ry;exact ne_dataH r1 r2 sd se hu ⟨.bl (!PyData.eqv d e),H,I,rq,q⟩
end
structure Code (K:YD) (mg:YB) (x:Str) (st:Stmt) (ps:YF):Prop where
 ex:∃(f:Addr) (fd:FuncData),Fun K x x st f fd/\mg x=some (.ref f)/\Binds K fd ps []
structure Good (P:Program) (w:World) (K:YD) (mg:YB) (base:Heap) (x:Str) (k:Nat) (ps:YF) (sp:Sp):Prop where
 ex:∃(f:Addr) (fd:FuncData),mg x=some (.ref f)/\keepIn K (.ref f)=true/\Binds K fd ps []/\Fv P w K mg base CX0 k f fd ps sp
theorem Code.good {P:Program} {w:World} {K:YD} {mg:YB} {base:Heap} {x:Str} {st:Stmt} {ps N:YF} {k:Nat} {sp:Sp} (C:Code K mg x st ps) (S:Bc N ps (Ao st)) (len:∀vs H Q E,sp vs H Q E->vs.length=ps.length)
  (hbody:∀(f:Addr) (cdv:Value) (A:Around) (outer:List Env) (s:Shared) (H:Hp) (vs:YG) (Q:VK) (E:XK),CP k (A.deeper (envOfC x (Ao st) s.heap.objs.size f cdv))->sp vs H Q E ->
   ∃t,PSs (Kv CX0 P w K mg base N x (Ao st) f cdv A outer s H E).nox (CV st) t/\t { nx:=λ_ H'=>Q .non H',rt:=Q } (start N vs) H):Good P w K mg base x (k+1) ps sp:=by
 obtain⟨f,fd,F,m,b⟩:=C.ex;exact⟨f,fd,m,F.kp,b,F.ok S len λcdv A outer s H vs Q E hr h=>hbody f cdv A outer s H vs Q E hr h⟩
theorem Aq {X:Cx} {k k':Nat} {ps:YF} {sp:Sp} {x:Str} {p pos:Pos} {e:Expr} {es:YJ} {t:TA} (g:Good X.prog X.w X.K X.mg X.base x k ps sp) (hr:CP k' X.A) (ha:PA X (e::es) t) (hk:k<=k':=by decide) (hg:Gl X x:=by rfl)
  (hdb:(x == ("__debug__":Str))=false:=by decide) (he:starEach (e::es) X.env=(false,eval e X.env)::starEach es X.env:=by rfl) (hpl:(backTo pos (starEach es X.env)).any (·.1)=false:=by rfl) :
  PE X (.Call (.Name x p) (e::es) [] pos) (Xb sp [] E0 t):=by
 intro jb s U H Q I h;obtain⟨f,fd,m,kp,b,F⟩:=g.ex;exact XQ F (hr.mono hk) hg m kp b .nil au ha hdb he hpl jb s U H Q I h
theorem Code.of {K:YD} {mg:YB} {h:Heap} {x:Str} {st:Stmt} {ps:YF} {f:Addr} {oc:Value} {od an:Option Addr} {osl:YI} {kV doc pm cdv ct:Value} (X:K.In h) (G:h.Ns mainGlobals mg)
  (a:nsIn K mainGlobals x=some (some (.ref f))) (l:K.lookup f=some ⟨oc,od,.func (fnOf x x (Eh st) (CV st) (Ao st) .none kV doc pm an cdv ct),osl⟩) (c:codeIn K cdv x=true) (k:keepIn K (.ref f)=true)
  (hb:∀(kV doc pm:Value) (an:Option Addr) (cdv ct:Value) (us:YE),us.length=ps.length->bindArgs (fnOf x x (Eh st) (CV st) (Ao st) .none kV doc pm an cdv ct) ⟨us,[]⟩=pure (ps.zip us)):Code K mg x st ps:=by
 have F:=Vt (st:=st) l c k;exact⟨f,_,F,mg_of X G a,F.binds hb⟩
theorem Af {H:Hp} {p:Addr} (h:H p=none) (o:HO):Same H (upd H p o):=λb u q=>by rw[Bv (Cg q h)];exact q
theorem BX.plain {X:Cx} {N':YF} {sc:Scope} (kind:sc.kind=.function) (Gz:∀y∈sc.names,y.2≠.cell) (loc:∀y∈sc.names,y.2=.local->sc.names.lookup y.1=some .local) (Qi:∀y∈sc.names,y.2≠.free) :
  BX X N' (N'.map λ_=>none) sc where
 kind:=kind
 Gz:=Gz
 loc:=loc
 fv:=λy hy e=>absurd e (Qi y hy)
 len:=by simp
 src:=λi x j _ e=>by
  rw[QaM] at e;cases q:N'[i]? with
  | none=>rw[q] at e;cases e
  | some z=>rw[q] at e;cases e
theorem QD {K:YD} {a l:Addr} {xs:YG} {g:TG} {tt:TT} {te:TE} {Q:VK} {σ0:St} {H0:Hp} (Pv:YN)
  (h0:Pv 0 σ0 H0) (hl:∀i U H',i<=xs.length->Pv i U H'->SqT K H' a xs)
  (hs:∀i x U H',xs[i]?=some x->Pv i U H'->g x U H' fun σ3 H3=>tt σ3 H3 λb H4=>if b=true then te σ3 H4 λy H5=>∃ys,H5 l=some (.lst ys)/\ys.length < sizeLine/\Pv (i+1) σ3 (upd H5 l (.lst (ys++[y]))) else Pv (i+1) σ3 H4)
  (hd:∀ U H',Pv xs.length U H'->Q (.ref l) H'):FZ (Itt K a) g tt te Q σ0 H0 l:=by
 unfold FZ;refine⟨λi m U H'=>m=xs.length - i/\i<=xs.length/\Pv i U H',⟨xs.length,by simp,QbC _,h0⟩,?_⟩;rintro i m U H' ⟨rfl,hi,p⟩;have q:=hl i U H' hi p;by_cases hlt:i < xs.length
 ·refine .inr ⟨⟨xs,xs[i],q,by simp[hlt]⟩,Pv (i+1),fun σ3 H3 p'=>⟨xs.length - (i+1),by omega,rq,hlt,p'⟩,λx H2 y=>?_⟩;obtain⟨e,y⟩:=y;subst e;exact hs i x U _ (y xs q) p
 ·have e:i=xs.length:=by omega
  subst e;exact .inl ⟨⟨xs,q,QbB _⟩,hd U H' p⟩
theorem Kw {K:YD} {a l:Addr} {xs:YG} {g:TG} {tt:TT} {te:TE} {Q:VK} {σ0:St} {H0:Hp} (Pv:YN)
  (h0:Pv 0 σ0 H0) (hl:∀i U H',i<=xs.length->Pv i U H'->SqL K H' a xs)
  (hs:∀i x U H',xs[i]?=some x->Pv i U H'->g x U H' fun σ3 H3=>tt σ3 H3 λb H4=>if b=true then te σ3 H4 λy H5=>∃ys,H5 l=some (.lst ys)/\ys.length < sizeLine/\Pv (i+1) σ3 (upd H5 l (.lst (ys++[y]))) else Pv (i+1) σ3 H4)
  (hd:∀ U H',Pv xs.length U H'->Q (.ref l) H'):FZ (Itl K a) g tt te Q σ0 H0 l:=by
 unfold FZ;refine⟨λi m U H'=>m=xs.length - i/\i<=xs.length/\Pv i U H',⟨xs.length,by simp,QbC _,h0⟩,?_⟩;rintro i m U H' ⟨rfl,hi,p⟩;have q:=hl i U H' hi p;by_cases hlt:i < xs.length
 ·refine .inr ⟨⟨xs,xs[i],q,by simp[hlt]⟩,Pv (i+1),fun σ3 H3 p'=>⟨xs.length - (i+1),by omega,rq,hlt,p'⟩,λx H2 y=>?_⟩;obtain⟨e,y⟩:=y;subst e;exact hs i x U _ (y xs q) p
 ·have e:i=xs.length:=by omega
  subst e;exact .inl ⟨⟨xs,q,QbB _⟩,hd U H' p⟩
theorem TY {lo:Int} {n:Nat} {l:Addr} {g:TG} {tt:TT} {te:TE} {Q:VK} {σ0:St} {H0:Hp} (Pv:YN) (h0:Pv 0 σ0 H0)
  (hs:∀i U H',i < n->Pv i U H'->g (.int (lo+i)) U H' fun σ3 H3=>tt σ3 H3 λb H4=>if b=true then te σ3 H4 λy H5=>∃ys,H5 l=some (.lst ys)/\ys.length < sizeLine/\Pv (i+1) σ3 (upd H5 l (.lst (ys++[y]))) else Pv (i+1) σ3 H4)
  (hd:∀ U H',Pv n U H'->Q (.ref l) H'):FZ (Itr lo n) g tt te Q σ0 H0 l:=by
 unfold FZ;refine⟨λi m U H'=>m=n - i/\i<=n/\Pv i U H',⟨n,by simp,QbC _,h0⟩,?_⟩;rintro i m U H' ⟨rfl,hi,p⟩;by_cases hlt:i < n
 ·refine .inr ⟨hlt,Pv (i+1),fun σ3 H3 p'=>⟨n - (i+1),by omega,rq,hlt,p'⟩,λx H2 y=>?_⟩;obtain⟨e,y⟩:=y;subst e y;exact hs i U _ hlt p
 ·have e:i=n:=by omega
  subst e;exact .inl ⟨QbB _,hd U H' p⟩
section
variable {X:Cx}
theorem Rp:∀{ys:YF} {us:YE},Vals (ys.map V.str) us->StrsAre us ys
 | [],_,.nil=>.nil
 | y::r,_,.cons h t=>by
  obtain⟨t',e⟩:=(show ∃t,_=Value.str y t from h)
  cases e;exact .cons y t' (Rp t)
def rJoin (K:YD):V->YG->Hp->VK->Prop:=λx vs H Q=>∃(z:Str) (p:Addr) (ys:YF),x=.str z/\vs=[.ref p]/\SqL K H p (ys.map V.str)/\(ys.map (·.length)).sum+ys.length*z.length<=16777216/\Q (.str (Txt.join z ys)) H
theorem RM:MtR X "str.join" (rJoin X.K):=by
 intro jb s U H x vs v us Q I rx rv h;obtain⟨z,p,ys,rfl,rfl,hq,hz,q⟩:=h;obtain⟨t,rfl⟩:=rx;obtain⟨u,rfl,ru⟩:=rv.one;cases ru;obtain⟨its,r',pl,_⟩:=I.list hq;exact join_list pl.isList (Rp r') hz λt' k=>⟨.str (Txt.join z ys),H,I.tok k,⟨t',rq⟩,q⟩
def Its (z:Str):It:=⟨λi _=>i < z.cps.size,λi H x H'=>H'=H/\∃c,z.cps[i]?=some c/\x=.str ⟨#[c]⟩,λi _=>i=z.cps.size⟩
def dF (tl:TE):TI:=fun U H R=>tl U H λx H1=>∃z,x=.str z/\R (Its z) H1
end
section
variable {X:Cx} {tg:Expr}
theorem Pk {P:Program} {w:World} {K:YD} {tg:Expr} (z:Str) (t:Tok) (it:Addr) (ty:String) (hty:["enumerate","zip","dict_itemiterator","dict_reverseitemiterator","odict_iterator","itertools.zip_longest","itertools.pairwise"].contains ty=false)
  (W:∀A':Around,A'.handled=none->Walks P w A' it [it] [it] z.cps.size (SignAt z) (λi h=>h.IsStrIter it ty z t i))
  (hself:∀(A:Around) (i:Nat) (s:Shared) (Q:YA) (E:YA),s.heap.IsStrIter it ty z t i->Q (.ref it) s->wpAny (model P w) A (pyIter (.ref it)) Q E s) :
  Turn P w K tg (Its z) [it] it (λi h=>h.IsStrIter it ty z t i) where
 mem:=QaE.mpr rfl
 obj:=λi h st b hb=>by
  cases QaE.mp hb;obtain⟨o,e,c,d⟩:=st;exact⟨o,e,λv z'=>by rw[d] at z';cases z'⟩
 keep:=λi h h' st k=>by
  obtain⟨o,e,r⟩:=st;exact⟨o,k it (QaE.mpr rfl) o e,r⟩
 item:=by
  intro X hP hw hK hc i jb s U H E I hf st hg;subst hP hw hK;obtain⟨f0,f1,f2,f3,f4,f5⟩:=hf it (QaE.mpr rfl);refine (W X.A (I.ok.hd hc)).item i s _ _ hg st λv h' tk hv st' kk=>?_;obtain⟨c,u,hcu,rfl⟩:=hv;have I1:Inv X jb U H { s with heap:=h',toks:=tk }:=I.turned (λb o hb e=>kk b o (λhm=>hb (QaE.mp hm)) e) f0 f1 f3 f4 f5;obtain⟨o,e,cl,d⟩:=id st';exact⟨_,rq,Ph (s:={ s with heap:=h',toks:=tk }) e cl d hty ⟨.str ⟨#[c]⟩,H,I1,⟨u,rq⟩,⟨rq,c,hcu,rq⟩,st',λb hb=>(hf b hb).1⟩⟩
 done:=by
  intro X hP hw hK hc i jb s U H E I hf st hg;subst hP hw hK;obtain⟨f0,f1,f2,f3,f4,f5⟩:=hf it (QaE.mpr rfl);cases (show i=z.cps.size from hg)
  exact (W X.A (I.ok.hd hc)).done s _ _ st λh' tk kk=>⟨rq,I.turned (λb o hb e=>kk b o (λhm=>hb (QaE.mp hm)) e) f0 f1 f3 f4 f5⟩
 self:=λA i s Q E st h=>hself A i s Q E st h
theorem Qa {l:Expr} {tl:TE} (hl:PE X l tl):PI X tg l (dF tl):=by
 intro jb s U H R I h;refine thn (hl jb s U H _ I h) λv s1 zz=>?_;obtain⟨x,H1,I1,r1,z,e,q⟩:=zz;subst e;obtain⟨t,rfl⟩:=r1;have fp:∀o:Obj,∀b∈[s1.heap.objs.size],Ft X jb H1 b:=λo b hb=>by
  cases QaE.mp hb;exact I1.TV (QbB _) (I1.hok.fresh (QbB _))
 cases ha:z.cps.all (· < 128) with
 | true=>
  refine wpAny_pyIter_ascii ha ?_;exact⟨s1.heap.objs.size,[s1.heap.objs.size],_,_,H1,rq,I1.kept (t':=s1.toks) λb o e=>Qao _ e,Pk z t _ "str_ascii_iterator" (by decide) (λA' hA=>Walks.strAscii hA _ z t) (λ_ _ _ _ _ st h=>wpAny_pyIter_striter_ascii st h),
   ⟨_,Qaw _ rfl,rq,rq⟩,fp { cls:=.none,data:=.fields #[] },q⟩
 | false=>
  refine wpAny_pyIter_wide ha ?_;exact⟨s1.heap.objs.size,[s1.heap.objs.size],_,_,H1,rq,I1.kept (t':=s1.toks) λb o e=>Qao _ e,Pk z t _ "str_iterator" (by decide) (λA' hA=>Walks.strWide hA _ z t) (λ_ _ _ _ _ st h=>wpAny_pyIter_striter_wide st h),
   ⟨_,Qaw _ rfl,rq,rq⟩,fp { cls:=.none,data:=.fields #[] },q⟩
theorem Lw {z:Str} {l:Addr} {g:TG} {tt:TT} {te:TE} {Q:VK} {σ0:St} {H0:Hp} (Pv:YN) (h0:Pv 0 σ0 H0)
  (hs:∀i c U H',z.cps[i]?=some c->Pv i U H'->g (.str ⟨#[c]⟩) U H' fun σ3 H3=>tt σ3 H3 λb H4=>if b=true then te σ3 H4 λy H5=>∃ys,H5 l=some (.lst ys)/\ys.length < sizeLine/\Pv (i+1) σ3 (upd H5 l (.lst (ys++[y]))) else Pv (i+1) σ3 H4)
  (hd:∀ U H',Pv z.cps.size U H'->Q (.ref l) H'):FZ (Its z) g tt te Q σ0 H0 l:=by
 unfold FZ;refine⟨λi m U H'=>m=z.cps.size - i/\i<=z.cps.size/\Pv i U H',⟨z.cps.size,by simp,QbC _,h0⟩,?_⟩;rintro i m U H' ⟨rfl,hi,p⟩;by_cases hlt:i < z.cps.size
 ·refine .inr ⟨hlt,Pv (i+1),fun σ3 H3 p'=>⟨z.cps.size - (i+1),by omega,rq,hlt,p'⟩,λx H2 y=>?_⟩;obtain⟨e,c,hc,rfl⟩:=y;subst e;exact hs i c U _ hc p
 ·have e:i=z.cps.size:=by omega
  subst e;exact .inl ⟨rq,hd U H' p⟩
end
end L2
namespace HT
open PySem PyProof.Rows
section
variable {prog:Program} {w:World} {A:Around} {E:YA} {s:Shared}
theorem K5 {t sl:Addr} {items:Array Value} {vl vu:Value} {lo hi:Option Int} {Q:YA} (ht:IsTup s.heap t items) (hs:s.heap.IsSliceOf sl vl vu .none) (pl:IsPart vl lo) (pu:IsPart vu hi)
  (hw:sIx items.size 0 lo=0/\sIx items.size items.size hi=items.size) (h:Q (.ref t) s):wpAny (model prog w) A (getItem (.ref t) (.ref sl)) Q E s:=by
 obtain⟨os,hos,hcs,hds⟩:=id hs;have hTs:s.TypeIs (.ref sl) "slice":=⟨os,hos,hcs⟩;unfold getItem
 try with_reducible refine wpAny_holding ?_
 first | refine QbE (QbF ?_) | skip
 refine QbE (wpAny_sequenceKey ht.typeIs (by decide) ?_);refine QbE (Qal (name:=Str.ofString "__getitem__") ht.typeIs Qab (wpAny_call_entry Qab ht.typeIs entry_tuple_getitem ?_ (args_tuple_getitem _ _)));show wpAny _ _ (Builtin.Tuple.tupleItemsOf (.ref t) >>= _) _ _ s;refine QbE (tupleItemsOf_ ht ?_);refine QbE (wpAny_typeOf hTs ?_);rw[if_pos (by decide)];refine QbE (Ia hs pl pu ?_);rw[hw.1,hw.2];show wpAny _ _ (if (((0:Nat):Int) == 0&&(1:Int) == 1&&(items.size - 0) == items.size)=true then _ else _) _ _ s
 rw[if_pos (by simp)];refine QbE ?_;unfold Builtin.Tuple.tupleIsExact;refine QbE (wpAny_typeOf ht.typeIs (QbF ?_));rw[if_pos (by decide)];exact QbE (wpAny_rule (QbF ⟨_,rq,QbF h⟩))
end
end HT
namespace L2
open PySem PySem.Spec PyProof.Rows
section
variable {X:Cx}
theorem Rx:SlR X (λx lo hi H Q=>∃a xs,x=.ref a/\H a=some (.tup xs)/\∀p H',H' p=some (.tup (FP xs lo hi))->Same H H'->Q (.ref p) H'):=by
 intro jb s U H x v vl vu lo hi sl Q I rx hs pl pu h;obtain⟨a,xs,rfl,hx,q⟩:=h;by_cases hw:HT.sIx xs.length 0 lo=0/\HT.sIx xs.length xs.length hi=xs.length
 ·cases rx;obtain⟨its,r,ht,hz⟩:=I.tuple (SqT.of hx);have hlen:its.toArray.size=xs.length:=by rw[QaK];exact r.length.symm
  refine⟨"tuple",_,Qab.lookup,ht.typeIs,?_⟩;refine HT.K5 ht hs pl pu (by rw[hlen];exact hw) ⟨.ref a,H,I,rq,q a H ?_ (Same.refl H)⟩;have e:FP xs lo hi=xs:=by unfold FP;rw[hw.1,hw.2];simp
  rw[e];exact hx
 ·exact Y0 jb s U H _ v vl vu lo hi sl Q I rx hs pl pu ⟨a,xs,rq,SqT.of hx,hw,λp hp=>q p _ Ae (λc o e=>by rw[Bv (Cg e hp)];exact e)⟩
theorem Ez:SlR X (λx lo hi H Q=>∃z,x=.str z/\z.length<=sizeLine/\Q (.str (Txt.slice z lo hi)) H):=by
 intro jb s U H x v vl vu lo hi sl Q I rx hs pl pu h;obtain⟨z,rfl,hz,q⟩:=h;obtain⟨t,rfl⟩:=rx;refine⟨"str",_,F.slot_str_getitem.lookup,typeIs_str _ _ _,?_⟩;have fin:∀t' k,EP X jb U Q (.str (Txt.slice z lo hi) t') { s with toks:=k }:=λt' k=>⟨.str (Txt.slice z lo hi),H,I.tok k,⟨t',rq⟩,q⟩;cases pl with
 | none=>
  cases pu with
  | none=>exact Qam (l:=none) (u:=none) (st:=none) hs rfl (post_val_or_str ⟨Qby (Txt.slice_le z _ _) hz,fin⟩)
  | int j tj=>exact Qam (l:=none) (u:=some (j,tj)) (st:=none) hs rfl (post_val_or_str ⟨Qby (Txt.slice_le z _ _) hz,fin⟩)
 | int i ti=>
  cases pu with
  | none=>exact Qam (l:=some (i,ti)) (u:=none) (st:=none) hs rfl (post_val_or_str ⟨Qby (Txt.slice_le z _ _) hz,fin⟩)
  | int j tj=>exact Qam (l:=some (i,ti)) (u:=some (j,tj)) (st:=none) hs rfl (post_val_or_str ⟨Qby (Txt.slice_le z _ _) hz,fin⟩)
end
structure Xp (K:YD) (C:Addr) (m qn:Str) (st:Stmt) (ps:YF):Prop where
 ex:∃(f:Addr) (fd:FuncData),Fun K m qn st f fd/\Meth K C m f/\Binds K fd ps []
structure aM (P:Program) (w:World) (K:YD) (mg:YB) (base:Heap) (C:Addr) (m:Str) (k:Nat) (ps:YF) (sp:Sp):Prop where
 ex:∃(f:Addr) (fd:FuncData),Meth K C m f/\Binds K fd ps []/\Fv P w K mg base CX0 k f fd ps sp
theorem Xp.good {P:Program} {w:World} {K:YD} {mg:YB} {base:Heap} {C:Addr} {m qn:Str} {st:Stmt} {ps N:YF} {k:Nat} {sp:Sp} (c:Xp K C m qn st ps) (S:Bc N ps (Ao st)) (len:∀vs H Q E,sp vs H Q E->vs.length=ps.length)
  (hbody:∀(f:Addr) (cdv:Value) (A:Around) (outer:List Env) (s:Shared) (H:Hp) (vs:YG) (Q:VK) (E:XK),CP k (A.deeper (envOfC qn (Ao st) s.heap.objs.size f cdv))->sp vs H Q E ->
   ∃t,PSs (Kv CX0 P w K mg base N qn (Ao st) f cdv A outer s H E).nox (CV st) t/\t { nx:=λ_ H'=>Q .non H',rt:=Q } (start N vs) H):aM P w K mg base C m (k+1) ps sp:=by
 obtain⟨f,fd,F,M,b⟩:=c.ex;exact⟨f,fd,M,b,F.ok S len λcdv A outer s H vs Q E hr h=>hbody f cdv A outer s H vs Q E hr h⟩
theorem Ip {X:Cx} {x:Str} {v:V} {pos:Pos} (hg:Gl X x) (hm:∃u,X.mg x=some u/\RelV v u) (hd:(x == ("__debug__":Str))=false:=by decide):PE X (.Name x pos) (tC v):=by
 obtain⟨u,h,r⟩:=hm;exact XM hg h r hd
def Ck (H H':Hp):Prop:=∀c xs,H c=some (.tup xs)->H' c=some (.tup xs)
theorem Ck.refl (H:Hp):Ck H H:=λ_ _ e=>e
theorem Ck.trans {H H1 H2:Hp} (a:Ck H H1) (b:Ck H1 H2):Ck H H2:=λc xs e=>b c xs (a c xs e)
theorem Ck.of {H H1:Hp} (s:Same H H1):Ck H H1:=λc xs e=>s c _ e
theorem Ck.upd {H:Hp} {b:Addr} {o:HO} (h:∀xs,H b≠some (.tup xs)):Ck H (upd H b o):=λc xs e=>by
 have n:c≠b:=λz=>h xs (z ▸ e);rw[Bv n];exact e
def Al (b:Addr) (H H':Hp):Prop:=∀c o,H c=some o->c≠b->H' c=some o
theorem Al.trans {b:Addr} {H H1 H2:Hp} (x:Al b H H1) (y:Al b H1 H2):Al b H H2:=λc o e n=>y c o (x c o e n) n
theorem Al.of {b:Addr} {H H1:Hp} (x:Same H H1):Al b H H1:=λc o e _=>x c o e
theorem Al.refl (b:Addr) (H:Hp):Al b H H:=λ_ _ e _=>e
theorem Al.upd {b:Addr} {H:Hp} {o:HO}:Al b H (upd H b o):=λc u e n=>by rw[Bv n];exact e
theorem Al.tup {b:Addr} {H H':Hp} (x:Al b H H') (h:∀xs,H b≠some (.tup xs)):Ck H H':=λc xs e=>x c _ e λz=>h xs (z ▸ e)
theorem Al.free {b:Addr} {H H':Hp} (x:Al b H H') (hb:∃o,H' b=some o) {l:Addr} (h:H' l=none):H l=none:=by
 cases e:H l with
 | none=>rfl
 | some o=>
  by_cases n:l=b
  ·obtain⟨o',e'⟩:=hb;rw[n,e'] at h;cases h
  ·rw[x l o e n] at h;cases h
section
variable {X:Cx} {o e value:Expr} {f:Str} {pos pos' tpos:Pos} {ta tv:TE}
end
section
variable {X:Cx} {K:YD}
theorem Ol (h:X.K=K):OpR X (compareOp .NotIn) (rIn K true):=h ▸ Kq
end
end L2
namespace PySem
open Sem (wp)
section
variable {prog:Program} {w:World} {A:Around} {E:YA} {s:Shared}
end
end PySem
namespace L2
open PySem PySem.Spec PyProof.Rows
section
variable {X:Cx} {pos:Pos}
end
theorem NZ {α : Type}:∀{l:List α} {i:Nat} {a:α},l.Nodup->a∉l->(l.set i a).Nodup
 | [],_,_,h,_=>by simpa using h
 | x::r,0,a,h,n=>by
  rw[Qbh] at h;rw[List.set_cons_zero,Qbh];exact⟨λz=>n (Qas _ z),h.2⟩
 | x::r,i+1,a,h,n=>by
  rw[Qbh] at h;rw[List.set_cons_succ,Qbh];refine⟨λz=>?_,NZ h.2 λz=>n (Qas _ z)⟩;rcases List.mem_or_eq_of_mem_set z with z | z
  ·exact h.1 z
  ·exact n (z ▸ QaB)
structure Has (H:Hp) (l:List (Addr×HO)):Prop where
 nd:(l.map (·.1)).Nodup
 at_:∀x∈l,H x.1=some x.2
theorem Has.get {H:Hp} {l:List (Addr×HO)} (h:Has H l) {i:Nat} {a:Addr} {o:HO} (e:l[i]?=some (a,o)):H a=some o:=h.at_ (a,o) (Qat e)
theorem Has.same {H H':Hp} {l:List (Addr×HO)} (h:Has H l) (s:Same H H'):Has H' l:=⟨h.nd,λx hx=>s _ _ (h.at_ x hx)⟩
theorem Has.Dr {H H':Hp} {l:List (Addr×HO)} {b:Addr} (h:Has H l) (s:Al b H H') (n:b∉l.map (·.1)):Has H' l:=⟨h.nd,λx hx=>s _ _ (h.at_ x hx) λz=>n (z ▸ QbA.mpr ⟨x,hx,rfl⟩)⟩
theorem Has.aC {H:Hp} {l:List (Addr×HO)} {a:Addr} (h:Has H l) (e:H a=none):a∉l.map (·.1):=λz=>by
 obtain⟨x,hx,rfl⟩:=QbA.mp z;rw[h.at_ x hx] at e;cases e
theorem map_set {l:List (Addr×HO)} {i:Nat} {a:Addr} {o:HO}:(l.set i (a,o)).map (·.1)=(l.map (·.1)).set i a:=by rw[List.map_set]
theorem Has.set {H H':Hp} {l:List (Addr×HO)} (h:Has H l) (i:Nat) {a:Addr} {o o':HO} (e:l[i]?=some (a,o)) (s:Al a H H') (e':H' a=some o'):Has H' (l.set i (a,o')):=by
 have em:(l.map (·.1))[i]?=some a:=by rw[QaM,e];rfl
 have hi:=(Qae.mp e).1;refine⟨?_,λx hx=>?_⟩
 ·rw[map_set];have:(l.map (·.1)).set i a=l.map (·.1):=by
   obtain⟨h1,h2⟩:=Qae.mp em;rw[<-h2];exact List.set_getElem_self h1
  rw[this];exact h.nd
 ·obtain⟨j,hj,ex⟩:=List.mem_iff_getElem.mp hx;rw[List.getElem_set] at ex;by_cases q:i=j
  ·rw[if_pos q] at ex;subst ex;exact e'
  ·rw[if_neg q] at ex;have hj':j < l.length:=by simpa using hj
   have hm:x∈l:=ex ▸ List.getElem_mem hj';refine s _ _ (h.at_ x hm) λz=>q ?_;have ej:(l.map (·.1))[j]?=some a:=by rw[QaM,Qah hj'];rw[<-z,<-ex];rfl
   obtain⟨h1,h2⟩:=Qae.mp em;obtain⟨h3,h4⟩:=Qae.mp ej;exact (List.getElem_inj h.nd).mp (h2.trans h4.symm)
theorem Has.put {H:Hp} {l:List (Addr×HO)} (h:Has H l) (i:Nat) {a:Addr} {o:HO} (n:a∉l.map (·.1)) (e:H a=some o):Has H (l.set i (a,o)):=by
 refine⟨by rw[map_set];exact NZ h.nd n,λx hx=>?_⟩;rcases List.mem_or_eq_of_mem_set hx with z | z
 ·exact h.at_ x z
 ·rw[z];exact e
theorem Has.new {H H':Hp} {l:List (Addr×HO)} {a:Addr} {o:HO} (h:Has H l) (n:H a=none) (s:Same H H') (e:H' a=some o):Has H' (l++[(a,o)]):=by
 refine⟨?_,λx hx=>?_⟩
 ·rw[QaY,List.nodup_append];refine⟨h.nd,by simp,λx hx y hy z=>?_⟩;have:y=a:=by simpa using hy
  subst this;exact h.aC n (z ▸ hx)
 ·rcases Qbb.mp hx with z | z
  ·exact s _ _ (h.at_ x z)
  ·have:x=(a,o):=by simpa using z
   subst this;exact e
theorem Has.nil (H:Hp):Has H []:=⟨List.nodup_nil,λx hx=>by cases hx⟩
theorem Has.ne {H:Hp} {l:List (Addr×HO)} (h:Has H l) {i j:Nat} {a b:Addr} {o p:HO} (e:l[i]?=some (a,o)) (e':l[j]?=some (b,p)) (n:i≠j):a≠b:=λz=>by
 have ea:(l.map (·.1))[i]?=some a:=by rw[QaM,e];rfl
 have eb:(l.map (·.1))[j]?=some a:=by rw[QaM,e',z];rfl
 obtain⟨h1,h2⟩:=Qae.mp ea;obtain⟨h3,h4⟩:=Qae.mp eb;exact n ((List.getElem_inj h.nd).mp (h2.trans h4.symm))
theorem Same.Gq {H0 H H':Hp} {a:Addr} (s:Same H0 H) (b:Al a H H') (f:H0 a=none):Same H0 H':=λc o e=>b _ _ (s _ _ e) λz=>by rw[z,f] at e;cases e
section
variable {κ : Type} [DecidableEq κ]
def Hr (kvs:List (κ×V)) (k:κ):Option V:=(kvs.find? λkv=>decide (kv.1=k)).map (·.2)
def putK (kvs:List (κ×V)) (k:κ) (v:V):List (κ×V):=
 if (kvs.any λkv=>decide (kv.1=k))=true then kvs.map (λkv=>if kv.1=k then (kv.1,v) else kv) else kvs++[(k,v)]
def Xn (kvs:List (κ×V)) (k:κ):List (κ×V):=kvs.filter λkv=>decide (kv.1≠k)
theorem K9 {p:κ×V} {r:List (κ×V)} {k:κ} (e:p.1=k):Hr (p::r) k=some p.2:=by simp[Hr,Qbl,e]
theorem La {p:κ×V} {r:List (κ×V)} {k:κ} (e:¬p.1=k):Hr (p::r) k=Hr r k:=by simp[Hr,Qbl,e]
theorem Pj (k:κ):∀kvs:List (κ×V),(kvs.any λkv=>decide (kv.1=k))=(Hr kvs k).isSome
 | []=>rfl
 | p::r=>by
  rw[Qbv];by_cases e:p.1=k
  ·simp only[K9 e,Qbo e,Bool.true_or,Option.isSome_some]
  ·rw[La e,QaZ e,Bool.false_or];exact Pj k r
theorem JW.Vl {o:Option V} {u:Option Value} (r:JW o u):o.isSome=u.isSome:=by
 cases o with
 | none=>cases u with
  | none=>rfl
  | some _=>exact (show False from r).elim
 | some _=>cases u with
  | none=>exact (show False from r).elim
  | some _=>rfl
theorem JW.getD {o:Option V} {u:Option Value} {d:V} {d':Value} (r:JW o u) (rd:RelV d d'):RelV (o.getD d) (u.getD d'):=by
 cases o with
 | none=>cases u with
  | none=>exact rd
  | some _=>exact (show False from r).elim
 | some _=>cases u with
  | none=>exact (show False from r).elim
  | some _=>exact r
theorem KV.val {kvs:List (κ×V)} {vs:List (κ×Value)} (r:KV kvs vs) (k:κ):JW (Hr kvs k) (valueAt vs k):=by
 unfold KV at r
 induction r with
 | nil=>exact True.intro
 | @cons p q ps qs h t ih=>
  obtain⟨h1,h2⟩:=h;by_cases e:p.1=k
  ·have e':q.1=k:=h1.symm.trans e;have b:valueAt (q::qs) k=some q.2:=by simp[valueAt,Qbl,e']
   rw[K9 e,b];exact h2
  ·have e':¬q.1=k:=λz=>e (h1.trans z);have b:valueAt (q::qs) k=valueAt qs k:=by simp[valueAt,Qbl,e']
   rw[La e,b];exact ih
theorem KV.any {kvs:List (κ×V)} {vs:List (κ×Value)} (r:KV kvs vs) (k:κ):(kvs.any λkv=>decide (kv.1=k))=vs.any λkv=>decide (kv.1=k):=by
 unfold KV at r
 induction r with
 | nil=>rfl
 | cons h t ih=>rw[Qbv,Qbv,ih,h.1]
theorem KV.repl {kvs:List (κ×V)} {vs:List (κ×Value)} (r:KV kvs vs) (k:κ) {y:V} {u:Value} (ry:RelV y u) :
  KV (kvs.map λkv=>if kv.1=k then (kv.1,y) else kv) (vs.map λkv=>if kv.1=k then (kv.1,u) else kv):=by
 unfold KV at r ⊢
 induction r with
 | nil=>exact .nil
 | @cons p q ps qs h t ih=>
  rw[Qbr,Qbr];refine .cons ?_ ih;obtain⟨h1,h2⟩:=h;by_cases e:p.1=k
  ·rw[if_pos e,if_pos (h1.symm.trans e)];exact⟨h1,ry⟩
  ·rw[if_neg e,if_neg (λz=>e (h1.trans z))];exact⟨h1,h2⟩
theorem KV.put {kvs:List (κ×V)} {vs:List (κ×Value)} (r:KV kvs vs) (k:κ) {y:V} {u:Value} (ry:RelV y u):KV (putK kvs k y) (stored vs k u):=by
 unfold putK stored;rw[r.any k];by_cases e:(vs.any λkv=>decide (kv.1=k))=true
 ·rw[if_pos e,if_pos e];exact r.repl k ry
 ·rw[if_neg e,if_neg e];exact Paired.snoc r ⟨rq,ry⟩
theorem KV.drop {kvs:List (κ×V)} {vs:List (κ×Value)} (r:KV kvs vs) (k:κ):KV (Xn kvs k) (without vs k):=by
 unfold KV at r ⊢;unfold Xn without
 induction r with
 | nil=>exact .nil
 | @cons p q ps qs h t ih=>
  obtain⟨h1,h2⟩:=h;rw[List.filter_cons,List.filter_cons];by_cases e:p.1=k
  ·have a:¬decide (p.1≠k)=true:=by simp[e]
   have b:¬decide (q.1≠k)=true:=by simp[h1.symm.trans e]
   rw[if_neg a,if_neg b];exact ih
  ·have e':¬q.1=k:=λz=>e (h1.trans z);have a:decide (p.1≠k)=true:=by simp[e]
   have b:decide (q.1≠k)=true:=by simp[e']
   rw[if_pos a,if_pos b];exact .cons ⟨h1,h2⟩ ih
theorem KV.length {kvs:List (κ×V)} {vs:List (κ×Value)} (r:KV kvs vs):kvs.length=vs.length:=Paired.length r
end
abbrev YL:=List (List Key×V)
abbrev KT (H:Hp):YL->List (List Key×Addr×Value)->Prop:=Paired λp q=>p.1=q.1/\H q.2.1=some (.tup (p.1.map kV))/\RelV p.2 q.2.2
theorem KT.val {H:Hp} {kvs:YL} {xs:List (List Key×Addr×Value)} (r:KT H kvs xs) (k:List Key):JW (Hr kvs k) ((atKey xs k).map (·.2)):=by
 induction r with
 | nil=>exact True.intro
 | @cons p q ps qs h t ih=>
  obtain⟨h1,_,h2⟩:=h;by_cases e:p.1=k
  ·have e':q.1=k:=h1.symm.trans e;have b:atKey (q::qs) k=some q.2:=by simp[atKey,Qbl,e']
   rw[K9 e,b];exact h2
  ·have e':¬q.1=k:=λz=>e (h1.trans z);have b:atKey (q::qs) k=atKey qs k:=by simp[atKey,Qbl,e']
   rw[La e,b];exact ih
theorem KT.repl {H:Hp} {kvs:YL} {xs:List (List Key×Addr×Value)} (r:KT H kvs xs) (k:List Key) {y:V} {u:Value} (ry:RelV y u) :
  KT H (kvs.map λkv=>if kv.1=k then (kv.1,y) else kv) (xs.map (putAt k u)):=by
 induction r with
 | nil=>exact .nil
 | @cons p q ps qs h t ih=>
  rw[Qbr,Qbr];refine .cons ?_ ih;obtain⟨h1,h2,h3⟩:=h;unfold putAt;by_cases e:p.1=k
  ·rw[if_pos e,if_pos (h1.symm.trans e)];exact⟨h1,h2,ry⟩
  ·rw[if_neg e,if_neg (λz=>e (h1.trans z))];exact⟨h1,h2,h3⟩
theorem KT.put {H:Hp} {kvs:YL} {xs:List (List Key×Addr×Value)} (r:KT H kvs xs) (k:List Key) {b:Addr} {y:V} {u:Value} (hb:H b=some (.tup (k.map kV))) (ry:RelV y u) :
  KT H (putK kvs k y) (storedH xs k b u):=by
 have e:(kvs.any λkv=>decide (kv.1=k))=(atKey xs k).isSome:=by
  rw[Pj,(r.val k).Vl,Option.isSome_map]
 unfold putK storedH;rw[e];by_cases q:(atKey xs k).isSome=true
 ·rw[if_pos q,if_pos q];exact r.repl k ry
 ·rw[if_neg q,if_neg q];exact Paired.snoc r ⟨rq,hb,ry⟩
theorem KT.keeps {H H':Hp} {kvs:YL} {xs:List (List Key×Addr×Value)} (r:KT H kvs xs) (ht:∀b ys,H b=some (.tup ys)->H' b=some (.tup ys)):KT H' kvs xs:=
 Paired.Wt r λ_ _ z=>⟨z.1,ht _ _ z.2.1,z.2.2⟩
section
variable {P:Program} {w:World} {H:Hp} {h:Heap} {a:Addr}
end
def Uc (H:Hp) (a:Addr) (y:V) (r:Option V):Prop:=
 (∃kvs k,Rd H a (.dK kvs)/\y=kV k/\r=Hr kvs k)\/∃kvs k b,Rd H a (.dT kvs)/\y=.ref b/\H b=some (.tup (k.map kV))/\r=Hr kvs k
def Ub (H:Hp) (a:Addr) (y v:V) (H':Hp):Prop:=
 (∃kvs k,H a=some (.dK kvs)/\y=kV k/\kvs.length < sizeLine/\H'=upd H a (.dK (putK kvs k v))) \/
 ∃kvs k b,H a=some (.dT kvs)/\y=.ref b/\H b=some (.tup (k.map kV))/\kvs.length < sizeLine/\H'=upd H a (.dT (putK kvs k v))
abbrev YM:=List (Key×V)
theorem Uc.k {H:Hp} {a:Addr} {kvs:YM} {k:Key} (e:H a=some (.dK kvs)):Uc H a (kV k) (Hr kvs k):=.inl ⟨kvs,k,.inl e,rfl,rfl⟩
theorem Uc.t {H:Hp} {a b:Addr} {kvs:YL} {k:List Key} (e:H a=some (.dT kvs)) (eb:H b=some (.tup (k.map kV))):Uc H a (.ref b) (Hr kvs k):=.inr ⟨kvs,k,b,.inl e,rfl,eb,rfl⟩
theorem Ub.k {H:Hp} {a:Addr} {kvs:YM} {k:Key} {v:V} (e:H a=some (.dK kvs)) (hl:kvs.length < sizeLine):Ub H a (kV k) v (upd H a (.dK (putK kvs k v))):=.inl ⟨kvs,k,e,rfl,hl,rfl⟩
theorem Ub.t {H:Hp} {a b:Addr} {kvs:YL} {k:List Key} {v:V} (e:H a=some (.dT kvs)) (eb:H b=some (.tup (k.map kV))) (hl:kvs.length < sizeLine) :
  Ub H a (.ref b) v (upd H a (.dT (putK kvs k v))):=.inr ⟨kvs,k,b,e,rq,eb,hl,rq⟩
section
variable {X:Cx} {jb:YC} {U : St} {H:Hp} {s:Shared} {a:Addr} {y v:V} {u r:Value} {o:Option V} {A:Around} {E:YA}
end
section
variable {X:Cx} {jb:YC} {U : St} {H:Hp} {s:Shared} {a:Addr} {kvs:YM} {k:Key} {u:Value} {A:Around} {E:YA}
end
section
variable {X:Cx} {o i e value:Expr} {pos pos' tpos:Pos} {td ty tv:TE}
end
section
variable {X:Cx} {pos:Pos}
end
structure M1 (X:Cx) (o:Expr) (m:Str) (apos:Pos) (e:Expr) (cpos:Pos):Prop where
 base:attributeBase o m X.env (eval o X.env)=eval o X.env
 few:((backTo cpos (starEach [e] X.env)).all (λx=>!x.1)&&(backToKw cpos (keywordEach [] X.env)).all (λx=>x.1.isSome)
 &&decide (([e]:YJ).length+([]:List Keyword).length+(if ([]:List Keyword).isEmpty then 0 else 1) < 30))=true
 line:(apos.endLine == cpos.line)=true
 trees:backTo cpos (starEach [e] X.env)=[(false,eval e X.env)]
structure M2 (X:Cx) (o:Expr) (m:Str) (apos:Pos) (e f:Expr) (cpos:Pos):Prop where
 base:attributeBase o m X.env (eval o X.env)=eval o X.env
 few:((backTo cpos (starEach [e,f] X.env)).all (λx=>!x.1)&&(backToKw cpos (keywordEach [] X.env)).all (λx=>x.1.isSome)
 &&decide (([e,f]:YJ).length+([]:List Keyword).length+(if ([]:List Keyword).isEmpty then 0 else 1) < 30))=true
 line:(apos.endLine == cpos.line)=true
 trees:backTo cpos (starEach [e,f] X.env)=[(false,eval e X.env),(false,eval f X.env)]
section
variable {X:Cx} {jb:YC} {U : St} {H:Hp} {s:Shared} {a:Addr} {y d:V} {u r:Value} {o:Option V} {A:Around} {E:YA}
end
section
variable {X:Cx} {o e f:Expr} {apos cpos:Pos} {td ty tx:TE}
end
section
variable {X:Cx} {jb:YC} {U : St} {H:Hp} {s:Shared} {a:Addr} {kvs:YM} {A:Around} {E:YA}
end
section
variable {X:Cx} {jb:YC} {U : St} {H:Hp} {s:Shared} {a:Addr} {y:V} {u:Value} {A:Around} {E:YA}
end
section
variable {X:Cx}
end
section
variable {κ : Type} [DecidableEq κ]
theorem RL:∀{l:List κ} {k:κ},l.Nodup->¬k∈l->(l++[k]).Nodup
 | [],k,_,_=>by simp
 | a::r,k,h,hk=>by
  obtain⟨h1,h2⟩:=Qbh.mp h;show (a::(r++[k])).Nodup;refine Qbh.mpr ⟨λm=>?_,RL h2 λm=>hk (Qbs.mpr (Or.inr m))⟩;rcases Qbb.mp m with q | q
  ·exact h1 q
  ·exact hk (Qbs.mpr (Or.inl (QaE.mp q).symm))
end
end L2
namespace PySem
open Sem (wp)
section
variable {prog:Program} {w:World} {A:Around} {E:YA} {s:Shared}
theorem Mq {it l:Addr} {i:Nat} {items:Array Value} {x:Value} {Q:YA} (hit:s.heap.IsTupleIter it l i) (hl:s.heap.IsTuple l items) (hx:items[i]?=some x)
  (hQ:∀h',h'.IsTupleIter it l (i+1)->Heap.SameBut it s.heap h'->Q x { s with heap:=h' }):wpAny (model prog w) A (Builtin.SmallTypes.nextOf (.ref it)) Q E s:=by
 obtain⟨o,ho,hc,hd⟩:=id hit;obtain⟨ol,hol,_,nl,hdl⟩:=hl;unfold Builtin.SmallTypes.nextOf;refine QbE (Qal (name:=Str.ofString "__next__") hit.typeIs Qaa (wpAny_call_entry Qaa hit.typeIs PyProof.Rows.entry_tupleiter_next ?_ (PyProof.Rows.args_tupleiter_next _)));show wpAny _ _ (field (.ref it) 0 >>= _) _ _ s;refine QbE (wpAny_field ho hd (x:=.ref l) rfl ?_);show wpAny _ _ (if (Value.ref l == Value.none)=true then _ else _) _ _ s
 rw[if_neg (show ¬((Value.ref l == Value.none)=true) from QaA)]
 show wpAny _ _ (field (.ref it) 1 >>= _) _ _ s;refine QbE (wpAny_field ho hd (x:=.int i 0) rfl ?_);show wpAny _ _ (seqItems? (.ref l) >>= _) _ _ s;refine QbE (wpAny_seqItems hol hdl ?_);simp only[QaP,hx];refine QbE (wpAny_setField ho hd (by simp) (QbF ⟨x,rq,QbF (hQ _ ?_ (Heap.SameBut.update ..))⟩));exact⟨_,Heap.get?_update_self _ ho (Obj.isFreed_of_fields (Obj.data_mapFields hd _)),(Obj.cls_mapFields ..).trans hc,by rw[Obj.data_mapFields hd];simp[rawInt]⟩
theorem M9 {it l:Addr} {i:Nat} {items:Array Value} {Q:YA} (hh:A.handled=none) (hit:s.heap.IsTupleIter it l i) (hl:s.heap.IsTuple l items) (hx:items[i]?=none)
  (hE:∀h' e,Heap.ExtBut it s.heap h'->(∃o,h'.get? e=some o/\o.cls=.type "StopIteration")->E (.ref e) { s with heap:=h' }):wpAny (model prog w) A (Builtin.SmallTypes.nextOf (.ref it)) Q E s:=by
 obtain⟨o,ho,hc,hd⟩:=id hit;obtain⟨ol,hol,_,nl,hdl⟩:=hl;unfold Builtin.SmallTypes.nextOf;refine QbE (Qal (name:=Str.ofString "__next__") hit.typeIs Qaa (wpAny_call_entry Qaa hit.typeIs PyProof.Rows.entry_tupleiter_next ?_ (PyProof.Rows.args_tupleiter_next _)));show wpAny _ _ (field (.ref it) 0 >>= _) _ _ s;refine QbE (wpAny_field ho hd (x:=.ref l) rfl ?_);show wpAny _ _ (if (Value.ref l == Value.none)=true then _ else _) _ _ s
 rw[if_neg (show ¬((Value.ref l == Value.none)=true) from QaA)]
 show wpAny _ _ (field (.ref it) 1 >>= _) _ _ s;refine QbE (wpAny_field ho hd (x:=.int i 0) rfl ?_);show wpAny _ _ (seqItems? (.ref l) >>= _) _ _ s;refine QbE (wpAny_seqItems hol hdl ?_);simp only[QaP,hx];refine QbE (wpAny_rule (QbE (wpAny_setField ho hd (by simp) ?_)));show wpAny _ _ (newExc (.type "StopIteration") [] >>= _) _ _ _;refine QbE ?_;simp only[newExc,newTuple];refine QbE (QaO ?_ (by size_fits));refine QbE (m:=firstArgMember _ _) (wpAny_of_eq (a:=Value.none) (by first | rfl | (simp only[firstArgMember];rfl)) ?_)
 refine QaO ?_ (by size_fits);simp only[raiseNew];refine QbE (wpAny_handled ?_)
 first | rw[show A.in1.handled=none from hh] | rw[hh]
 refine QbE (QbF (wpAny_throw ?_));exact hE _ _ (((Heap.SameBut.update ..).extBut.push _).push _) ⟨_,Qaw _ rfl,rq⟩
end
theorem Draws.tup {prog:Program} {w:World} {A:Around} (hh:A.handled=none) (it l:Addr) (hne:l≠it) (items:Array Value) :
  Draws prog w A it [it,l] items.size (λi v=>items[i]?=some v) (λi h=>h.IsTupleIter it l i/\h.IsTuple l items) where
 live:=λ_ _ st=>let ⟨o,ho,_⟩:=st.1;⟨o,ho⟩
 frame:=λ_ _ _ st hk=>⟨st.1.at λo e=>hk it (by simp) o e,let ⟨o,e,r⟩:=st.2;⟨o,hk l (by simp) o e,r⟩⟩
 item:=λi s Q E hi st hQ=>Mq st.1 st.2 (x:=items[i]) (by simp[hi]) λh' hit' hs'=>hQ _ h' s.toks (by simp[hi]) ⟨hit',let ⟨o,e,r⟩:=st.2;⟨o,hs'.extBut _ _ hne e,r⟩⟩ hs'
 done:=λs Q E st hE=>M9 hh st.1 st.2 (by simp) hE
theorem Draws.from {prog:Program} {w:World} {A:Around} {it:Addr} {fp:List Addr} {n:Nat} {P:Nat->Value->Prop} {St:Nat->Heap->Prop} (D:Draws prog w A it fp n P St) (k:Nat) :
  Draws prog w A it fp (k+n) (λj v=>∃i,j=k+i/\P i v) (λj h=>∃i,j=k+i/\i<=n/\St i h) where
 live:=λ_ _ ⟨i,_,_,st⟩=>D.live i _ st
 frame:=λ_ _ _ ⟨i,e,hi,st⟩ hk=>⟨i,e,hi,D.frame i _ _ st hk⟩
 item:=λj s Q E hj ⟨i,e,hi,st⟩ hQ=>D.item i s Q E (by omega) st λx h' tk p st' sb=>hQ x h' tk ⟨i,e,p⟩ ⟨i+1,by omega,by omega,st'⟩ sb
 done:=λs Q E ⟨i,e,hi,st⟩ hE=>by
  have:i=n:=by omega
  subst this;exact D.done s Q E st hE
end PySem
namespace L2
open PySem PySem.Spec PyProof.Rows
section
variable {X:Cx} {jb:YC} {U : St} {H:Hp} {s:Shared} {h':Heap}
end
end L2
namespace PySem
open Sem (wp)
open AutoSeq1 (wpAny_loadPart')
end PySem
namespace PySem
open Sem (wp)
section
variable {prog:Program} {w:World} {A:Around} {E:YA} {s:Shared}
end
end PySem
namespace PyProof.Rows
open PySem
section
variable {M:Model} {A:Around} {E:YA} {s:Shared} {env:Env}
end
end PyProof.Rows
namespace L2
open PySem PySem.Spec PyProof.Rows
section
variable {X:Cx}
end
section
variable {X:Cx}
end
section
variable {X:Cx}
end
section
variable {X:Cx}
def ZX (i j:Int):Prop:=i.natAbs < 2 ^ 8000/\j.natAbs < 2 ^ 8000
theorem QS {k:Int} (h:k.natAbs < 2 ^ 8000):Builtin.Int.intBits k<=8000:=by
 unfold Builtin.Int.intBits;split
 ·exact QbC _
 ·rcases Nat.eq_zero_or_pos k.natAbs with h0 | hp
  ·rw[h0];decide
  ·have:=(Nat.log2_lt (Nat.ne_of_gt hp)).mpr h;omega
theorem ZX.ok {i j:Int} (h:ZX i j):IntMulOk i j:=by
 have h1:=QS h.1;have h2:=QS h.2;unfold IntMulOk;have e:Builtin.Int.intTooBig (Builtin.Int.intBits i+Builtin.Int.intBits j)=false:=by
  unfold Builtin.Int.intTooBig;rw[bitsLine_eq];exact QaZ (by omega)
 rw[e,Bool.and_false];exact QaA
end
end L2
namespace PySem.ZZ
open PySem
section
variable {prog:Program} {w:World} {A:Around} {E:YA} {s:Shared}
structure Src where
 it:Addr
 a:Addr
 items:Array Value
def SrcAt (h:Heap) (x:Src) (i:Nat):Prop:=(h.IsListIter x.it x.a i/\h.IsList x.a x.items)\/(h.IsTupleIter x.it x.a i/\h.IsTuple x.a x.items)
theorem SrcAt.keep {h h':Heap} {x:Src} {i:Nat} (q:SrcAt h x i) (k1:∀o,h.get? x.it=some o->h'.get? x.it=some o) (k2:∀o,h.get? x.a=some o->h'.get? x.a=some o):SrcAt h' x i:=by
 rcases q with⟨q1,q2⟩|⟨q1,o,e,r⟩
 ·exact .inl ⟨q1.at k1,q2.at k2⟩
 ·exact .inr ⟨q1.at k1,o,k2 o e,r⟩
theorem SrcAt.ne {h:Heap} {x:Src} {i:Nat} (q:SrcAt h x i):x.a≠x.it:=λz=>by
 rcases q with⟨⟨o,e,c,_⟩,⟨o',e',c',_⟩⟩|⟨⟨o,e,c,_⟩,⟨o',e',c',_⟩⟩
 ·rw[z,e] at e';cases e';rw[c] at c';injection c' with y;exact absurd y (by decide)
 ·rw[z,e] at e';cases e';rw[c] at c';injection c' with y;exact absurd y (by decide)
theorem SrcAt.ex {h:Heap} {x:Src} {i:Nat} (q:SrcAt h x i):(∃o,h.get? x.it=some o)/\∃o,h.get? x.a=some o:=by
 rcases q with⟨⟨o,e,_⟩,⟨o',e',_⟩⟩|⟨⟨o,e,_⟩,⟨o',e',_⟩⟩
 ·exact⟨⟨o,e⟩,o',e'⟩
 ·exact⟨⟨o,e⟩,o',e'⟩
abbrev IsZ (h:Heap) (z TI TO:Addr) (f0 f1:Value):Prop:=h.get? z=some { cls:=.type "zip",dict:=none,data:=.fields #[f0,f1,.bool false,.ref TI,.ref TO],slots:=#[] }
abbrev Lz (h:Heap) (T:Addr) (xs:YE):Prop:=h.get? T=some { cls:=.type "tuple",data:=.seq xs.toArray }
structure Apart (z TI TO:Addr) (ls:List Src):Prop where
 TIz:TI≠z
 TOz:TO≠z
 TITO:TI≠TO
 it:∀x∈ls,x.it≠z/\x.it≠TI/\x.it≠TO
 a:∀x∈ls,x.a≠z/\x.a≠TO
 ai:∀x∈ls,∀y∈ls,x.a≠y.it
 nd:(ls.map (·.it)).Nodup
def Rest (z TO:Addr) (ls:List Src) (h h':Heap):Prop:=∀c o,c≠z->c≠TO->c∉ls.map (·.it)->h.get? c=some o->h'.get? c=some o
structure Mid (z TI TO:Addr) (ls:List Src) (xs olds:YE) (i:Nat) (f0 f1:Value) (h:Heap) (k:Nat) (h':Heap):Prop where
 hz:IsZ h' z TI TO f0 f1
 hTI:Lz h' TI (ls.map λx=>.ref x.it)
 done:∀j x,ls[j]?=some x->SrcAt h' x (if j < k then i+1 else i)
 rest:Rest z TO ls h h'
 size:h'.objs.size=h.objs.size
theorem Mid.other {z TI TO:Addr} {ls:List Src} {xs olds:YE} {i:Nat} {f0 f1:Value} {h h1 h2:Heap} {k:Nat} (D:Apart z TI TO ls) (m:Mid z TI TO ls xs olds i f0 f1 h k h1) (sb:Heap.SameBut TO h1 h2):Mid z TI TO ls xs olds i f0 f1 h k h2:=by
 refine⟨sb.extBut _ _ D.TOz.symm m.hz,sb.extBut _ _ D.TITO m.hTI,λj y hy=>?_,λc o c1 c2 c3 e=>sb.extBut _ _ c2 (m.rest c o c1 c2 c3 e),by rw[sb.1,m.size]⟩;have hm:=Qat hy;exact (m.done j y hy).keep (λo e=>sb.extBut _ _ (D.it y hm).2.2 e) (λo e=>sb.extBut _ _ (D.a y hm).2 e)
end
end PySem.ZZ
namespace PySem
namespace F
end F
end PySem
namespace PySem.ZZ
open PySem
def T9 (h:Heap) (a:Addr) (xs:Array Value) (c:String):Prop:=(c="list_iterator"/\h.IsList a xs)\/(c="tuple_iterator"/\h.IsTuple a xs)
theorem T9.src {h h':Heap} {a it:Addr} {xs:Array Value} {c:String} (q:T9 h a xs c) (k:∀o,h.get? a=some o->h'.get? a=some o) (e:h'.get? it=some { cls:=.type c,data:=.fields #[.ref a,.int 0 0] }):SrcAt h' ⟨it,a,xs⟩ 0:=by
 rcases q with⟨rfl,q⟩|⟨rfl,o,ho,r⟩
 ·exact .inl ⟨⟨_,e,rq,rq⟩,q.at k⟩
 ·exact .inr ⟨⟨_,e,rq,rq⟩,o,k o ho,r⟩
theorem T9.lt {h:Heap} {a:Addr} {xs:Array Value} {c:String} (q:T9 h a xs c):a < h.objs.size:=by
 rcases q with⟨rfl,o,e,_⟩|⟨rfl,o,e,_⟩
 ·exact Qbx e
 ·exact Qbx e
abbrev itO (c:String) (l:Addr):Obj:={ cls:=.type c,data:=.fields #[.ref l,.int 0 0] }
abbrev tuO (xs:Array Value):Obj:={ cls:=.type "tuple",data:=.seq xs }
abbrev z2a (h:Heap) (c1 c2:String) (l1 l2:Addr):Heap:=((((h.push (itO c1 l1)).push (itO c2 l2)).push (tuO #[.ref h.objs.size,.ref (h.push (itO c1 l1)).objs.size])).push (tuO #[.none,.none]))
abbrev z2 (h:Heap) (c1 c2:String) (l1 l2:Addr):Heap:=(z2a h c1 c2 l1 l2).push
 { cls:=.type "zip",data:=.fields #[.none,.bool false,.bool false,.ref ((h.push (itO c1 l1)).push (itO c2 l2)).objs.size,.ref (((h.push (itO c1 l1)).push (itO c2 l2)).push (tuO #[.ref h.objs.size,.ref (h.push (itO c1 l1)).objs.size])).objs.size] }
abbrev z3a (h:Heap) (c1 c2 c3:String) (l1 l2 l3:Addr):Heap:=(((((h.push (itO c1 l1)).push (itO c2 l2)).push (itO c3 l3)).push (tuO #[.ref h.objs.size,.ref (h.push (itO c1 l1)).objs.size,.ref ((h.push (itO c1 l1)).push (itO c2 l2)).objs.size])).push (tuO #[.none,.none,.none]))
abbrev z3 (h:Heap) (c1 c2 c3:String) (l1 l2 l3:Addr):Heap:=(z3a h c1 c2 c3 l1 l2 l3).push
 { cls:=.type "zip",data:=.fields #[.none,.bool false,.bool false,.ref (((h.push (itO c1 l1)).push (itO c2 l2)).push (itO c3 l3)).objs.size,.ref ((((h.push (itO c1 l1)).push (itO c2 l2)).push (itO c3 l3)).push (tuO #[.ref h.objs.size,.ref (h.push (itO c1 l1)).objs.size,.ref ((h.push (itO c1 l1)).push (itO c2 l2)).objs.size])).objs.size] }
theorem na {a b:Nat} (h:a≠b):@Ne Addr a b:=h
section
variable {prog:Program} {w:World} {A:Around} {E:YA} {s:Shared}
end
end PySem.ZZ
namespace PySem
namespace F
end F
end PySem
namespace PySem.ZZ
open PySem
section
variable {prog:Program} {w:World} {A:Around} {E:YA} {s:Shared}
structure Run (hb:Heap) (z TI TO:Addr) (ls:List Src) (rows:Nat->YE) (S:Addr) (ts:List Addr) (h:Heap):Prop where
 inc:ts.Pairwise (· < ·)
 lo:∀t∈ts,S < t/\t < h.objs.size
 at_:∀j t,ts[j]?=some t->Lz h t (rows j)
 keep:∀c o,hb.get? c=some o->h.get? c=some o
 hTI:Lz h TI (ls.map λx=>.ref x.it)
 hTO:∃olds,Lz h TO olds/\olds.length=ls.length
 src:∀x∈ls,SrcAt h x ts.length
 hz:(ts=[]/\IsZ h z TI TO .none (.bool false))\/∃(T:Addr) (f1:Value),ts[0]?=some T/\IsZ h z TI TO (rawInt T) f1
structure Below (hb:Heap) (z TI TO:Addr) (ls:List Src) (S:Addr):Prop where
 ap:Apart z TI TO ls
 old:hb.objs.size<=z/\hb.objs.size<=TI/\hb.objs.size<=TO/\∀x∈ls,hb.objs.size<=x.it
 lz:z < S
 lTI:TI < S
 lTO:TO < S
 it:∀x∈ls,x.it < S/\x.a < S
 base:hb.objs.size<=S
theorem Run.frame {hb:Heap} {z TI TO:Addr} {ls:List Src} {rows:Nat->YE} {S:Addr} {ts:List Addr} {h h':Heap} (B:Below hb z TI TO ls S) (r:Run hb z TI TO ls rows S ts h) (hs:h'.objs.size=h.objs.size) (k:∀c o,c≠S->h.get? c=some o->h'.get? c=some o):Run hb z TI TO ls rows S ts h':=by
 obtain⟨olds,o1,o2⟩:=r.hTO;refine⟨r.inc,λt ht=>by rw[hs];exact r.lo t ht,λj t e=>k _ _ (Nat.ne_of_gt (r.lo t (Qat e)).1) (r.at_ j t e),λc o e=>k _ _ (Qbz (QaD (Qbx e) B.base)) (r.keep c o e),k _ _ (Qbz B.lTI) r.hTI,⟨olds,k _ _ (Qbz B.lTO) o1,o2⟩,λx hx=>?_,?_⟩
 ·exact (r.src x hx).keep (λo e=>k _ _ (Qbz (B.it x hx).1) e) (λo e=>k _ _ (Qbz (B.it x hx).2) e)
 ·rcases r.hz with⟨e,q⟩|⟨T,f1,e,q⟩
  ·exact .inl ⟨e,k _ _ (Qbz B.lz) q⟩
  ·exact .inr ⟨T,f1,e,k _ _ (Qbz B.lz) q⟩
theorem Run.more {hb:Heap} {z TI TO:Addr} {ls:List Src} {rows:Nat->YE} {S:Addr} {ts:List Addr} {h h':Heap} (B:Below hb z TI TO ls S) (r:Run hb z TI TO ls rows S ts h) (hS:S < h.objs.size) (hs:h'.objs.size=h.objs.size+1) (hr:Rest z TO ls h h')
  (hTI:Lz h' TI (ls.map λx=>.ref x.it)) (hTO:∃olds,Lz h' TO olds/\olds.length=ls.length) (src:∀x∈ls,SrcAt h' x (ts.length+1)) (new:Lz h' h.objs.size (rows ts.length)) (hz:∃(T:Addr) (f1:Value),(ts++[h.objs.size])[0]?=some T/\IsZ h' z TI TO (rawInt T) f1):Run hb z TI TO ls rows S (ts++[h.objs.size]) h':=by
 have fr:∀t,S < t->t≠z/\t≠TO/\t∉ls.map (·.it):=λt ht=>⟨λe=>by rw[e] at ht;exact Nat.lt_asymm ht B.lz,λe=>by rw[e] at ht;exact Nat.lt_asymm ht B.lTO,λe=>by
  obtain⟨x,hx,e'⟩:=QbA.mp e;rw[<-e'] at ht;exact Nat.lt_asymm ht (B.it x hx).1⟩
 refine⟨?_,λt ht=>?_,λj t e=>?_,λc o e=>?_,hTI,hTO,λx hx=>by rw[Qaz];exact src x hx,.inr hz⟩
 ·exact List.pairwise_append.mpr ⟨r.inc,List.pairwise_singleton _ _,λa ha b hb'=>by
   have:b=h.objs.size:=by simpa using hb'
   rw[this];exact (r.lo a ha).2⟩
 ·rw[hs];rcases Qbb.mp ht with ht | ht
  ·have:=r.lo t ht;exact⟨this.1,Nat.lt_succ_of_lt this.2⟩
  ·have:t=h.objs.size:=by simpa using ht
   rw[this];exact⟨hS,Nat.lt_succ_self _⟩
 ·by_cases c:j < ts.length
  ·rw[Qaf c] at e;have hlo:=r.lo t (Qat e);obtain⟨f1,f2,f3⟩:=fr t hlo.1;exact hr t _ f1 f2 f3 (r.at_ j t e)
  ·rw[Qad (Nat.le_of_not_lt c)] at e;have hj:j - ts.length=0:=by
    have:=(Qae.mp e).1;rw[List.length_singleton] at this;omega
   rw[hj] at e;cases e;have:j=ts.length:=by omega
   rw[this];exact new
 ·have hlt:=Qbx e;refine hr c o (λq=>?_) (λq=>?_) (λq=>?_) (r.keep c o e)
  ·rw[q] at hlt;exact absurd hlt (Nat.not_lt.mpr B.old.1)
  ·rw[q] at hlt;exact absurd hlt (Nat.not_lt.mpr B.old.2.2.1)
  ·obtain⟨x,hx,e'⟩:=QbA.mp q;rw[<-e'] at hlt;exact absurd hlt (Nat.not_lt.mpr (B.old.2.2.2 x hx))
end
end PySem.ZZ
namespace PySem.ZZ
open PySem
section
variable {prog:Program} {w:World} {A:Around} {E:YA} {s:Shared}
structure Rows (ls:List Src) (n:Nat) (rows:Nat->YE):Prop where
 row:∀j,j < n->(rows j).length=ls.length/\∀(k:Nat) (x:Src),ls[k]?=some x->∃v,(rows j)[k]?=some v/\x.items[j]?=some v
 stop:∃x∈ls,x.items[n]?=none
 ne:ls≠[]
 few:ls.length<=100
 most:n<=1000
end
end PySem.ZZ
namespace L2
open PySem PySem.Spec PyProof.Rows
section
variable {X:Cx} {jb:YC} {U : St} {H:Hp} {s:Shared} {h':Heap}
end
section
variable {X:Cx}
end
mutual
inductive JV (K:YD) (H:Hp):V->PyData->Prop
 | non:JV K H .non .none
 | bl (b:Bool):JV K H (.bl b) (.bool b)
 | int (i:Int):JV K H (.int i) (.int i)
 | str (x:Str):JV K H (.str x) (.str x)
 | tup {a:Addr} {xs:YG} {ds:List PyData}:SqT K H a xs->G9 K H xs ds->JV K H (.ref a) (.tuple ds)
inductive G9 (K:YD) (H:Hp):YG->List PyData->Prop
 | nil:G9 K H [] []
 | cons {x:V} {d:PyData} {xs:YG} {ds:List PyData}:JV K H x d->G9 K H xs ds->G9 K H (x::xs) (d::ds)
end
section
variable {X:Cx} {jb:YC} {U : St} {H:Hp} {s:Shared}
mutual
theorem JV.reads (I:Inv X jb U H s):∀{v:V} {d:PyData} {u:Value},JV X.K H v d->RelV v u->∃as,Reads s.heap u d as
 | _,_,_,.non,r=>by cases (show _=Value.none from r);exact⟨_,.none⟩
 | _,_,_,.bl b,r=>by cases (show _=Value.bool b from r);exact⟨_,.bool b⟩
 | _,_,_,.int i,r=>by obtain⟨t,rfl⟩:=(show ∃t,_=Value.int i t from r);exact⟨_,.int i t⟩
 | _,_,_,.str x,r=>by obtain⟨t,rfl⟩:=(show ∃t,_=Value.str x t from r);exact⟨_,.str x t⟩
 | _,_,_,.tup (a:=a) (xs:=xs) e q,r=>by
  cases (show _=Value.ref a from r)
  obtain⟨its,rv,⟨o,ho,hc,n,hd⟩,_⟩:=I.tuple e;obtain⟨as,z⟩:=G9.reads I q rv;exact⟨_,.tuple ho hc hd (by simpa using z)⟩
theorem G9.reads (I:Inv X jb U H s):∀{xs:YG} {ds:List PyData} {us:YE},G9 X.K H xs ds->Vals xs us->∃as,ReadsAll s.heap us ds as
 | _,_,_,.nil,.nil=>⟨_,.nil⟩
 | _,_,_,.cons p q,.cons r t=>by
  obtain⟨as,a1⟩:=JV.reads I p r;obtain⟨bs,b1⟩:=G9.reads I q t;exact⟨_,.cons a1 b1⟩
end
end
section
variable {X:Cx} {K:YD}
theorem XH {es:YJ} {k:Nat} {pos:Pos} {t:TGs} {n:Nat} (hK:X.K=K) (hc:X.calm=true) (h:PGs X es t)
  (hn:(assignEach es X.env).length=n:=by rfl) (hst:(assignEach es X.env).findIdx? (·.1)=none:=by rfl):PG X (.Tuple es k pos) (Zz K n t):=hK ▸ Ep hc h hn hst
end
end L2
namespace L2
open PySem PySem.Spec PyProof.Rows
abbrev W8:YE:=[.type "ValueError",.type "Exception",.type "BaseException",.type "object"]
structure XCl (K:YD) (C:Addr):Prop where
 ex:PySem.W.excIn K C W8 "ValueError.__new__"=true
 ga:findIn K (.ref C) "__getattribute__"=some (some (.builtin "BaseException.__getattribute__"))
 gn:findIn K (.ref C) "__getattr__"=some none
 ca:findIn K (.ref C) "__class__"=some (some (.builtin "object.__class__"))
 mo:PySem.W.subIn K (.ref C) (.type "object")=some true
 mb:PySem.W.subIn K (.ref C) (.type "BaseException")=some true
 kp:keepIn K (.ref C)=true
section
variable {K:YD} {C:Addr}
theorem XCl.look (T:XCl K C):∃dd cd sl,K.lookup C=some ⟨.type "type",dd,.cls cd,sl⟩:=by
 have q:=T.ex;unfold PySem.W.excIn at q;split at q
 ·rename_i dd cd sl ho;exact⟨dd,cd,sl,ho⟩
 ·cases q
theorem XCl.obj (T:XCl K C) {h:Heap} (X:K.In h):∃bm N nm q bs hdct sn sub ab col dd k0 k1 k2 k3 k5 mN,h.get? C=some (excClassObj nm q C N bs bm hdct sn sub ab col dd k0 k1 k2 k3 k5 "ValueError.__new__")/\h.Ns N mN/\mN "__init__"=none/\OwnTail h W8 bm:=by
 have q:=T.ex;unfold PySem.W.excIn at q;split at q
 ·rename_i dd cd sl ho;split at q
  ·rename_i C' bm k0 k1 k2 k3 n k5 hm hs;simp only[QaR,beq_iff_eq,Bool.not_eq_true'] at q;obtain⟨⟨⟨⟨⟨rfl,rfl⟩,hdel⟩,ht⟩,hok⟩,hni⟩:=q;obtain⟨nm,bs,mro,ns,qn,hd,sn,sub,ab,col,del⟩:=cd;dsimp only at hm hdel hok hni;subst hm hdel;have hsl:sl=#[k0,k1,k2,k3,some (.builtin "ValueError.__new__"),k5]:=by
    obtain⟨l⟩:=sl;simp only at hs;rw[hs]
   subst hsl;exact⟨bm,ns,nm,qn,bs,hd,sn,sub,ab,col,dd,k0,k1,k2,k3,k5,_,X _ _ ho,.of_isNs (PySem.W.isNs_of_in X hok),PySem.W.nsMap_none_of_in X hok hni,PySem.W.tail_of_in X ht⟩
  ·cases q
 ·cases q
end
def XAt (a C:Addr) (h:Heap):Prop:=∃o vs,h.get? a=some o/\o.cls=.ref C/\o.data=.fields vs/\vs[2]?=some .none
section
variable {prog:Program} {w:World} {A:Around} {E:YA} {h:Heap} {g:Array GenState} {d:Drawn} {t:Nat} {os:OsState} {K:YD} {a C:Addr} {o:Obj}
end
section
variable {X:Cx} {jb:YC} {U : St} {H:Hp} {s:Shared}
end
def XT (B:Heap) (e C:Addr) (fl:Option Value) (h:Heap):Prop:=
 ∃oe vs,h.get? e=some oe/\oe.cls=.ref C/\oe.data=.fields vs/\vs[2]?=some .none /\
  match fl with
  | none=>vs[1]?=some .none
  | some f=>∃T oT ts,vs[1]?=some (.ref T)/\B.get? T=none/\T≠e/\h.get? T=some oT/\oT.data=.fields ts/\ts[3]?=some f
structure Fl (B:Heap) (l:List Env) (e C:Addr) (fl:Option Value) (h:Heap):Prop where
 stays:B.StaysIn h
 new:B.get? e=none
 fr:h.FunFrames B l
 tr:XT B e C fl h
theorem XT.at {B h:Heap} {e C:Addr} {fl:Option Value} (x:XT B e C fl h):XAt e C h:=by
 obtain⟨oe,vs,h1,h2,h3,h4,_⟩:=x;exact⟨oe,vs,h1,h2,h3,h4⟩
section
variable {M:Model} {A:Around} {E:YA} {s:Shared} {B:Heap} {env:Env} {outer l:List Env} {L e C:Addr} {Q:YH}
end
theorem Cm.there {P:Program} {w:World} {H:Hp} {h:Heap} {a:Addr} {o:HO} (x:Cm P w H h a o):∃u,h.get? a=some u:=by
 cases o with
 | lst xs=>obtain⟨_,its,n,_,q⟩:=x;exact⟨_,q⟩
 | tup xs=>obtain⟨_,its,_,ob,q,_⟩:=x;exact⟨_,q⟩
 | dK kvs=>obtain⟨_,_,vs,_,ob,es,ep,q,_⟩:=x;exact⟨_,q⟩
 | dT kvs=>obtain⟨_,_,xs,_,ob,es,ep,q,_⟩:=x;exact⟨_,q⟩
 | set S n=>obtain⟨ob,es,ep,t,q,_⟩:=x;exact⟨_,q⟩
 | ins C dx fs=>obtain⟨_,_,_,q,_⟩:=x;exact⟨_,q⟩
 | own y=>exact x
 | xd fs=>obtain⟨mA,⟨od,es,ep,q,_⟩,_⟩:=x;exact⟨_,q⟩
 | rng lo hi=>obtain⟨t,u,v,q⟩:=x;exact⟨_,q⟩
 | frz ob u=>exact⟨_,x.1⟩
 | tbl ps=>exact⟨_,x⟩
 | met f y=>exact⟨_,x⟩
 | ext φ=>exact x.2.1
structure Exc (P:Program) (w:World) (outer:List Env) (H:Hp) (s:Shared) (e C:Addr) (B:Heap) (H':Hp) (s':Shared):Prop where
 os:s'.os=s.os
 bare:AllBare s'.gens
 fl:∃fl,(fl=none\/fl=some .none)/\Fl B outer e C fl s'.heap
 un:Un (frs outer) [] H H' s.heap s'.heap
 hok:HOk P w H' s'.heap
 tin:∀b o,s'.heap.get? b=some o->H' b≠none->B.get? b=some o
 old:∀b o,s.heap.get? b=some o->H b=none->b∉frs outer->B.get? b=some o
 ex:∀b o,s.heap.get? b=some o->b∉frs outer->∃o',B.get? b=some o'
section
variable {P:Program} {w:World} {outer:List Env} {H H':Hp} {s s':Shared} {e C:Addr} {B h2:Heap} {fl:Option Value}
theorem Exc.free (x:Exc P w outer H s e C B H' s'):H' e=none:=by
 cases hq:H' e with
 | none=>rfl
 | some v=>
  obtain⟨o1,q1⟩:=(x.hok e v hq).there;have q2:=x.tin e o1 q1 (by rw[hq];exact λz=>nomatch z);obtain⟨_,_,g⟩:=x.fl;rw[g.new] at q2;cases q2
theorem Exc.fresh (x:Exc P w outer H s e C B H' s'):s.heap.get? e=none:=by
 cases hq:s.heap.get? e with
 | none=>rfl
 | some o=>
  obtain⟨_,_,g⟩:=x.fl;by_cases hb:e∈frs outer
  ·obtain⟨_,o1,q1,nf⟩:=g.fr.mem hb;obtain⟨oe,vs,q2,_,q3,_⟩:=g.tr;rw[q1] at q2;cases q2;exact absurd q3 (nf vs)
  ·obtain⟨o1,q1⟩:=x.ex e o hq hb;rw[g.new] at q1;cases q1
end
section
variable {X:Cx} {jb:YC} {U : St} {H H':Hp} {s s':Shared} {e C:Addr} {B h2:Heap} {fl:Option Value}
end
theorem PS.nox {X:Cx} {st:Stmt} {t:TS} (h:PS X.nox st t):PS X st t:=λjb s U H D I hw=>
 QbG (h jb s U H D (I.wish _) hw) (λ_ _ q=>q.Ew) λ_ _ z=>False.elim z
section
variable {M:Model} {A:Around} {E:YA} {h:Heap} {g:Array GenState} {d:Drawn} {t:Nat} {os:OsState} {K:YD} {e C HC:Addr}
end
abbrev Cx.by (X:Cx) (pn:YC) (E:YA):Cx:={ X with pn:=pn,xe:=E }
section
variable {X:Cx} {jb S7 pn:YC} {U : St} {H:Hp} {s:Shared} {E:YA} {ev:Value}
theorem Inv.by (I:Inv X jb U H s) (E:YA):Inv (X.by (X.pn++jb) E) [] U H s:=
 ⟨⟨I.ok.mod,I.ok.kind,I.ok.glob,I.ok.blt,I.ok.above,I.ok.inj,I.ok.has,I.ok.cab,I.ok.hd,I.ok.frames,I.ok.stk,I.ok.exf,I.ok.bs,I.ok.bsz,I.ok.M5,I.ok.Lr,I.ok.G4,I.ok.frf⟩,I.os,I.bare,I.base,I.loc,I.cell,I.free,I.GD,
  λp hp=>I.pin p (by simpa using hp),I.hok,I.len⟩
end
def Ends.drop (D:Ends) (i:Nat):Ends where
 nx:=fun U H=>D.nx (U.set i none) H
 rt:=D.rt
 bk:=fun U H=>D.bk (U.set i none) H
 ct:=fun U H=>D.ct (U.set i none) H
structure Ji (k:Nat) (A:Around):Prop where
 dp:A.depth+3*k+5 < recursionLimit
 un:A.units+16*k+200 < cLine
theorem Ji.deeper {k:Nat} {A:Around} (r:Ji (k+1) A) (env:Env):Ji k (A.deeper env):=
 ⟨by have:=r.dp;show A.depth+1+3*k+5 < _;omega,by have:=r.un;show A.units+3+16*k+200 < _;omega⟩
theorem Ji.mono {j k:Nat} {A:Around} (r:Ji k A) (h:j<=k):Ji j A:=⟨by have:=r.dp;omega,by have:=r.un;omega⟩
theorem Ji.units {k:Nat} {A:Around} (r:Ji k A):A.units+64 < cLine:=by have:=r.un;omega
end L2
namespace L2
open PySem PySem.Spec PyProof.Rows PySem.SeqAt
theorem Cy {c:Const} {k:Nat} {p:Pos} {es:YJ} {env:Env}:starEach (.Constant c k p::es) env=(false,eval (.Constant c k p) env)::starEach es env:=by rfl
section
variable {X:Cx}
end
section
variable {prog:Program} {w:World} {A:Around} {E:YA} {s:Shared}
end
end L2
namespace L2
open PySem PySem.Spec PyProof.Rows
section
variable {X:Cx} {jb:YC} {U : St} {H:Hp} {s:Shared} {a:Addr} {kvs:YM} {o:Obj}
end
section
variable {a l:Addr} {o:Obj} {kvs:YM} {g:TG} {tb:TS} {D:Ends} {U : St} {H:Hp} {tt:TT} {te tk tv:TE} {Q:VK}
end
open PySem.W (KasT kas_asc kas_desc kas_rev kas_tail3 kas_descPart kas_count kas_place kas_bin kas_sort)
def Pm (n:Nat) (p:Array Nat):Prop:=p.toList.Perm (List.range n)
theorem Pm.lt {n:Nat} {p:Array Nat} (h:Pm n p) (n0:0 < n) (i:Nat):p.getD i 0 < n:=by
 by_cases hi:i < p.size
 ·have e:p.getD i 0=p[i]:=by simp[hi]
  rw[e];have hm:p[i]∈p.toList:=by simp
  exact List.mem_range.mp (h.mem_iff.mp hm)
 ·have e:p.getD i 0=0:=by simp[hi]
  rw[e];exact n0
section
variable {n:Nat} (n0:0 < n)
include n0
end
section
variable {prog:Program} {w:World} {A:Around} {E:YA} {s:Shared}
end
end L2
namespace L2
open PySem PySem.Spec PyProof.Rows
open PySem.W (KasT kas_asc kas_desc kas_rev kas_tail3 kas_descPart kas_count kas_place kas_bin kas_sort)
section
variable {n:Nat} {ky:Nat->Int}
def Gk (ky:Nat->Int) (p:Array Nat) (i:Nat):Int:=ky (p.getD i 0)
def Inj (n:Nat) (ky:Nat->Int):Prop:=∀i j,i < n->j < n->ky i=ky j->i=j
def ZV (ky:Nat->Int) (p:Array Nat) (m:Nat):Prop:=∀i,i+1 < m->Gk ky p i < Gk ky p (i+1)
def Ua (ky:Nat->Int) (p:Array Nat) (m:Nat):Prop:=∀i j,i < j->j < m->Gk ky p i < Gk ky p j
theorem ZV.all {p:Array Nat} {m:Nat} (h:ZV ky p m):Ua ky p m:=λi j hij hj=>by
 induction j with
 | zero=>omega
 | succ j ih=>
  have h1:=h j hj;by_cases e:i=j
  ·rw[e];exact h1
  ·exact Int.lt_trans (ih (by omega) (by omega)) h1
theorem Zh {α : Type} {l:List α} (nd:l.Nodup) {i j:Nat} (hi:i < l.length) (hj:j < l.length) (e:l[i]=l[j]):i=j:=by
 rcases Nat.lt_trichotomy i j with h | h | h
 ·exact absurd e (Qag.mp nd i j hi hj h)
 ·exact h
 ·exact absurd e.symm (Qag.mp nd j i hj hi h)
theorem Pm.size {p:Array Nat} (h:Pm n p):p.size=n:=by
 have:=List.Perm.length_eq h;simpa using this
theorem Pm.ne (hi:Inj n ky) {p:Array Nat} (h:Pm n p) {i j:Nat} (a:i < n) (b:j < n) (ne:i≠j):Gk ky p i≠Gk ky p j:=λe=>by
 have n0:0 < n:=by omega
 have hs:=h.size;have e:=hi _ _ (h.lt n0 i) (h.lt n0 j) e;have nd:p.toList.Nodup:=(List.Perm.nodup_iff h).mpr List.nodup_range;have e1:p.getD i 0=p.toList[i]'(by simp[hs,a]):=by simp[hs,a]
 have e2:p.getD j 0=p.toList[j]'(by simp[hs,b]):=by simp[hs,b]
 rw[e1,e2] at e;exact ne (Zh nd _ _ e)
theorem Ua.list {p:Array Nat} (h:Pm n p) (R:Ua ky p n):(p.toList.map ky).Pairwise (· < ·):=by
 have hs:=h.size;rw[Qag];intro i j hi hj hij;have hi':i < n:=by simpa [hs] using hi
 have hj':j < n:=by simpa [hs] using hj
 have:=R i j hij hj';unfold Gk at this;have e1:p.getD i 0=p[i]'(by omega):=by simp[hs,hi']
 have e2:p.getD j 0=p[j]'(by omega):=by simp[hs,hj']
 rw[e1,e2] at this;simpa using this
end
section
variable {prog:Program} {w:World} {A:Around} {s:Shared}
end
end L2
namespace L2
open PySem PySem.Spec PyProof.Rows
theorem CP.Um {k:Nat} {A:Around} (r:CP k A):A.units+66 < cLine:=by have:=r.un;omega
section
variable {X:Cx} {K:YD}
end
end L2
namespace PySem
open Sem (wp)
open AutoSeq1 (wpAny_loadPart')
section
variable {prog:Program} {w:World} {A:Around} {E:YA} {s:Shared}
end
end PySem
namespace L2
open PySem PySem.Spec PyProof.Rows
section
variable {X:Cx}
end
section
variable {X:Cx}
end
section
variable {X:Cx}
end
theorem OJ (elt t1 i1 t2 i2:Expr) (scope:Scope) (pos:Pos) (it acc:Value) (env:Env) :
  compTurn (.ListComp elt [⟨t1,i1,[],0⟩,⟨t2,i2,[],0⟩] scope pos) 0 it acc env=(do
   standAt i1.pos
   match <-pyNext it with
   | none=>pure (.done .next)
   | some v=>
    letOwnedTupleGo t1 it v
    assign t1 env v
    let x <-eval i2 env
    standAt i2.pos
    let x <-foldedSetIterable i2 env x;let _ <-runOwn (.compStart (.ListComp elt [⟨t1,i1,[],0⟩,⟨t2,i2,[],0⟩] scope pos) 1 (<-holding [x] (pyIter x)) acc env) env
    again (.compLoop (.ListComp elt [⟨t1,i1,[],0⟩,⟨t2,i2,[],0⟩] scope pos) 0 it acc env)):=by rfl
theorem QF (elt t1 i1 t2 i2:Expr) (scope:Scope) (pos:Pos) (it acc:Value) (env:Env) :
  compTurn (.ListComp elt [⟨t1,i1,[],0⟩,⟨t2,i2,[],0⟩] scope pos) 1 it acc env=(do
   standAt i2.pos
   match <-pyNext it with
   | none=>pure (.done .next)
   | some v=>
    letOwnedTupleGo t2 it v
    assign t2 env v
    (do let _ <-call (.builtin "list.append") [acc,<-eval elt env])
    again (.compLoop (.ListComp elt [⟨t1,i1,[],0⟩,⟨t2,i2,[],0⟩] scope pos) 1 it acc env)):=by rfl
section
variable {prog:Program} {w:World} {A:Around} {R:Result->Shared->Prop} {s:Shared} {elt t1 i1 t2 i2:Expr} {scope:Scope} {pos:Pos} {it acc:Value} {env:Env}
theorem Ky
  (h0:codeAny (model prog w) A (.compLoop (.ListComp elt [⟨t1,i1,[],0⟩,⟨t2,i2,[],0⟩] scope pos) 1 it acc env) R s)
  (h:wpAny (model prog w) A (pyIter it) (λit' s'=>codeAny (model prog w) A (.compLoop (.ListComp elt [⟨t1,i1,[],0⟩,⟨t2,i2,[],0⟩] scope pos) 1 it' acc env) R s')
   (notedBy (model prog w) A env λx s'=>R (.error x) s') s) :
  codeAny (model prog w) A (.compStart (.ListComp elt [⟨t1,i1,[],0⟩,⟨t2,i2,[],0⟩] scope pos) 1 it acc env) R s:=by
 refine codeAny_of_tree ?_;show wpAny _ _ ((compStart (.ListComp elt [⟨t1,i1,[],0⟩,⟨t2,i2,[],0⟩] scope pos) 1 it acc env).onRaise (λx=>do noteFrame x env;standAt theWindowsPlace)) _ _ s
 refine wpAny_notedAt ?_;unfold compStart;show wpAny _ _ (ask >>= _) _ _ s;refine QbE (wpAny_askSetting (wpAny_ite ?_));split
 ·first
   | exact QbE (QbF (QbF (And.intro rfl h0)))
   | exact QbF (And.intro rfl h0)
 ·first
   | exact QbE (wpAny_rule (QbE (Qbu (QbE (QbG h (λit' s' h'=>QbF (And.intro rfl h')) λ_ _ x=>x)))))
   | (refine QbE (wpAny_rule ?_);show wpAny _ _ (standAt i2.pos >>= _) _ _ s;exact QbE (Qbu (QbE (QbG h (λit' s' h'=>QbF (And.intro rfl h')) λ_ _ x=>x))))
theorem O1 (J:Nat->Shared->Prop)
  (turn:∀n s,J n s->wpAny (model prog w) A (pyNext it) (λr s1=>match r with
   | none=>R (.ok .next) s1
   | some v=>wpAny (model prog w) A (letOwnedTupleGo t2 it v) (λ_ s2=>wpAny (model prog w) A (assign t2 env v) (λ_ s3=>
     wpAny (model prog w) A (eval elt env) (λx s5=>wpAny (model prog w) A (call (.builtin "list.append") [acc,x]) (λ_ s6=>∃m,m < n/\J m s6) (λ_ _=>False) s5) (λ_ _=>False) s3) (λ_ _=>False) s2) (λ_ _=>False) s1) (λ_ _=>False) s)
  (n:Nat) (h:J n s):codeAny (model prog w) A (.compLoop (.ListComp elt [⟨t1,i1,[],0⟩,⟨t2,i2,[],0⟩] scope pos) 1 it acc env) R s:=by
 refine codeAny_loop rfl J (λk s' hk=>?_) n h;show wpAny _ A (Sem.onRaise (compTurn (.ListComp elt [⟨t1,i1,[],0⟩,⟨t2,i2,[],0⟩] scope pos) 1 it acc env) (λx=>do noteFrame x env;theTreesLotGoes x)) _ _ s'
 refine wpAny_noted ?_;rw[QF];refine QbE (Qbu (QbE (QbG (turn k s' hk) (λr s1 q1=>?_) λ_ _ f=>f.elim)));cases r with
 | none=>exact QbF q1
 | some v=>
  refine QbE (QbG q1 (λ_ s2 q2=>QbE (QbG q2 (λ_ s3 q3=>?_) λ_ _ f=>f.elim)) λ_ _ f=>f.elim);exact QbE (QbE (QbG q3 (λx s5 q5=>QbE (QbG q5 (λ_ s6 q6=>QbF (QbF ⟨rq,q6⟩)) λ_ _ f=>f.elim)) λ_ _ f=>f.elim))
theorem T4 (hs2:∀x,foldedSetIterable i2 env x=pure x) (J:Nat->Shared->Prop)
  (turn:∀n s,J n s->wpAny (model prog w) A (pyNext it) (λr s1=>match r with
   | none=>R (.ok .next) s1
   | some v=>wpAny (model prog w) A (letOwnedTupleGo t1 it v) (λ_ s2=>wpAny (model prog w) A (assign t1 env v) (λ_ s3=>
     wpAny (model prog w) A (eval i2 env) (λx s4=>wpAny (model prog w) A (pyIter x) (λjt s5=>codeAny (model prog w) A (.compStart (.ListComp elt [⟨t1,i1,[],0⟩,⟨t2,i2,[],0⟩] scope pos) 1 jt acc env) (λr s6=>match r with | .ok _=>∃m,m < n/\J m s6 | .error _=>False) s5) (λ_ _=>False) s4) (λ_ _=>False) s3) (λ_ _=>False) s2) (λ_ _=>False) s1) (λ_ _=>False) s)
  (n:Nat) (h:J n s):codeAny (model prog w) A (.compLoop (.ListComp elt [⟨t1,i1,[],0⟩,⟨t2,i2,[],0⟩] scope pos) 0 it acc env) R s:=by
 refine codeAny_loop rfl J (λk s' hk=>?_) n h;show wpAny _ A (Sem.onRaise (compTurn (.ListComp elt [⟨t1,i1,[],0⟩,⟨t2,i2,[],0⟩] scope pos) 0 it acc env) (λx=>do noteFrame x env;theTreesLotGoes x)) _ _ s'
 refine wpAny_noted ?_;rw[OJ];refine QbE (Qbu (QbE (QbG (turn k s' hk) (λr s1 q1=>?_) λ_ _ f=>f.elim)));cases r with
 | none=>exact QbF q1
 | some v=>
  refine QbE (QbG q1 (λ_ s2 q2=>QbE (QbG q2 (λ_ s3 q3=>?_) λ_ _ f=>f.elim)) λ_ _ f=>f.elim);refine QbE (QbG q3 (λx s4 q4=>QbE (Qbu (QbE (wpAny_of_eq (hs2 x) (QbE (wpAny_holding (QbG q4 (λjt s5 q5=>?_) λ_ _ f=>f.elim))))))) λ_ _ f=>f.elim);refine QbE (wpAny_runOwn (codeAny_mono q5 λr s6 q6=>?_));cases r with
  | ok f=>exact QbF ⟨rfl,q6⟩
  | error e=>exact q6.elim
end
def CIn (J:It) (g:TG) (te:TE) (l:Addr) (N:YO) (σ0:St) (H0:Hp):Prop:=∃W:Nat->YN,(∃m,W 0 m σ0 H0) /\
 ∀i m σ' H',W i m σ' H'->(J.stop i H'/\N σ' H')\/(J.go i H'/\∃N2:YO,(∀ σ3 H3,N2 σ3 H3->∃m',m' < m/\W (i+1) m' σ3 H3)/\∀x H2,J.yld i H' x H2->g x σ' H2 fun σ3 H3=>
  te σ3 H3 λy H5=>∃xs,H5 l=some (.lst xs)/\xs.length < sizeLine/\N2 σ3 (upd H5 l (.lst (xs++[y]))))
@[irreducible] def Mz (J:It) (g:TG) (wi2:TI) (g2:TG) (te:TE) (Q:VK) (σ0:St) (H0:Hp) (l:Addr):Prop:=∃W:Nat->YN,(∃m,W 0 m σ0 H0) /\
 ∀i m σ' H',W i m σ' H'->(J.stop i H'/\Q (.ref l) H')\/(J.go i H'/\∃N:YO,(∀ σ3 H3,N σ3 H3->∃m',m' < m/\W (i+1) m' σ3 H3)/\∀x H2,J.yld i H' x H2->g x σ' H2 fun σ3 H3=>wi2 σ3 H3 λJ2 H4=>CIn J2 g2 te l N σ3 H4)
def Ut (wi:TI) (src:List (Option Nat)) (g:TG) (wi2:TI) (g2:TG) (te:TE):TE:=fun U H Q=>wi U H λJ H1=>∀l,H1 l=none->Mz J g wi2 g2 te Q (Hv src U) (upd H1 l (.lst [])) l
theorem WR {Y:Cx} (hE:∀v s,Y.xe v s->False) (hc:Y.calm=true) {elt t1 i1 t2 i2:Expr} {sc:Scope} {pos:Pos} {l it:Addr} {fp:List Addr} {tn:Nat->Heap->Prop} {J:It} {g:TG} {te:TE} {N:YO} {jb:YC} {U : St} {H:Hp} {s:Shared}
  (T:Turn Y.prog Y.w Y.K t2 J fp it tn) (hg:PG Y t2 g) (he:PE Y elt te) (I:Inv Y jb U H s) (st:tn 0 s.heap) (f:∀b∈fp,Ft Y jb H b) (w:CIn J g te l N U H) :
  codeAny (model Y.prog Y.w) Y.A (.compStart (.ListComp elt [⟨t1,i1,[],0⟩,⟨t2,i2,[],0⟩] sc pos) 1 (.ref it) (.ref l) Y.env) (λr s'=>match r with | .ok _=>∃ σ' H',Inv Y jb σ' H' s'/\N σ' H' | .error _=>False) s:=by
 obtain⟨W,⟨m0,w0⟩,turn⟩:=w;have loop:codeAny (model Y.prog Y.w) Y.A (.compLoop (.ListComp elt [⟨t1,i1,[],0⟩,⟨t2,i2,[],0⟩] sc pos) 1 (.ref it) (.ref l) Y.env) (λr s'=>match r with | .ok _=>∃ σ' H',Inv Y jb σ' H' s'/\N σ' H' | .error _=>False) s:=by
  refine O1 (λn s'=>∃i σ' H',Inv Y jb σ' H' s'/\tn i s'.heap/\(∀b∈fp,H' b=none)/\W i n σ' H') ?_ m0 ⟨0,U,H,I,st,λb hb=>(f b hb).1,w0⟩;rintro n s3 ⟨i,σ3,H3,I3,st3,fr3,w3⟩;have stat:∀{H':Hp},(∀b∈fp,H' b=none)->∀b∈fp,Ft Y jb H' b:=λhn b hb=>⟨hn b hb,(f b hb).2⟩;rcases turn i n σ3 H3 w3 with⟨stop,qn⟩|⟨go,N2,hN,step⟩
  ·refine thn (T.done Y rfl rfl rfl hc i jb s3 σ3 H3 _ I3 (stat fr3) st3 stop) λr s4 zz=>?_;obtain⟨hr,I4⟩:=zz;subst hr;exact⟨σ3,H3,I4,qn⟩
  ·refine thn (T.item Y rfl rfl rfl hc i jb s3 σ3 H3 _ I3 (stat fr3) st3 go) λr s4 zz=>?_;obtain⟨u,hr,h4⟩:=zz;subst hr;refine thn h4 λ_ s5 zz=>?_;obtain⟨x,H5,I5,r5,y5,st5,fr5⟩:=zz;have I5':=I5.pinned (stat fr5) (T.obj _ _ st5);have again:∀{σ7:St} {H7:Hp} {s7:Shared},Inv Y (jb++Io fp s5.heap) σ7 H7 s7->N2 σ7 H7->∃m,m < n/\∃i σ' H',Inv Y jb σ' H' s7/\tn i s7.heap/\(∀b∈fp,H' b=none)/\W i m σ' H':=λ{σ7 H7 s7} I7 n7=>by
    obtain⟨m',hm,w7⟩:=hN σ7 H7 n7;refine⟨m',hm,i+1,σ7,H7,I7.Ey,T.keep _ _ _ st5 λb hb o e=>(I7.pin (b,o) (Qaq _ (Qaq _ (Fz hb e)))).1,λb hb=>?_,w7⟩;obtain⟨o,e,d⟩:=T.obj _ _ st5 b hb;exact (I7.pin (b,o) (Qaq _ (Qaq _ (Fz hb e)))).2.1
   refine QbG (hg _ s5 σ3 H5 x u _ I5' r5 (step x H5 y5)) (λ_ s6 zz=>?_) λv s h=>(hE v s h).elim;obtain⟨σ6,H6,I6,q6⟩:=zz;refine QbG (he _ s6 σ6 H6 _ I6 q6) (λy s9 zz=>?_) λv s h=>(hE v s h).elim;obtain⟨yv,H9,J9,r9,xs,hl9,hz9,q9⟩:=zz;refine QbG (Gi _ s9 σ6 H9 (.ref l) [yv] (.ref l) [y] (λ_ H'=>N2 σ6 H') J9 rfl (.cons r9 .nil) ⟨_,xs,yv,rq,rq,hl9,hz9,q9⟩) (λ_ s10 zz=>?_) λv s h=>(hE v s h).elim;obtain⟨_,H10,J10,_,q10⟩:=zz;exact again J10 q10
 exact Ky loop (T.self Y.A 0 _ _ _ st loop)
theorem T6 {X:Cx} {N':YF} {src:List (Option Nat)} {sc:Scope} {elt tg iter t2 i2:Expr} {pos pos':Pos} {wi wi2:TI} {g g2:TG} {te:TE} {use:Option (Value->Sem Unit)} {R:YA} (hc:X.calm=true) (S:BX X N' src sc)
  (hi:PI X tg iter wi) (hg:∀s3 H3 fp pn,PG (cxC X N' sc s3 H3 fp pn) tg g) (hi2:∀s3 H3 fp pn,PI (cxC X N' sc s3 H3 fp pn) t2 i2 wi2) (hg2:∀s3 H3 fp pn,PG (cxC X N' sc s3 H3 fp pn) t2 g2) (he:∀s3 H3 fp pn,PE (cxC X N' sc s3 H3 fp pn) elt te)
  (hs:∀x,foldedSetIterable iter X.env x=pure x) (hs2:∀s3 H3 fp pn x,foldedSetIterable i2 (cxC X N' sc s3 H3 fp pn).env x=pure x) {jb:YC} {s:Shared} {U : St} {H:Hp} {Q:VK} (I:Inv X jb U H s) (h:Ut wi src g wi2 g2 te U H Q)
  (fin:∀s3 H3 fp σ4 H4 s5 l,Inv X jb U H3 s3->(∀b∈fp,Ft X jb H3 b)->Inv (cxC X N' sc s3 H3 fp (X.pn++jb)) [] σ4 H4 s5->Q (.ref l) H4 ->
   compPost (model X.prog X.w) X.A X.xe use R (.ref l) s3.heap.objs.size (.ok .next) s5) :
  wpAny (model X.prog X.w) X.A (comprehension (.ListComp elt [⟨tg,iter,[],0⟩,⟨t2,i2,[],0⟩] sc pos) sc X.env pos' (newList []) false (eval iter X.env) use) R X.xe s:=by
 refine wpAny_comprehension_free (use:=use) (cl:=Du X.env sc.names []) rfl hs (Mw λp hp e=>I.ok.has p.1 (S.fv p hp e)) S.kind S.loc ?_;refine thn (hi jb s U H _ I h) λv s1 h1=>thn h1 λitv s2 h2=>?_;obtain⟨it,fp,tn,J,H2,rfl,I2,T,st2,f2,q⟩:=h2;have q':=q s2.heap.objs.size (I2.hok.fresh (QbB _));unfold Mz at q';obtain⟨W,⟨m0,w0⟩,turn⟩:=q';refine QaO (wpAny_newFunctionEnv S.Gz (by intro y hy;simp at hy) (λha hns hsb=>?_) S.kind);have I3:Inv X jb U (upd H2 s2.heap.objs.size (.lst [])) { s2 with heap:=s2.heap.push { cls:=.type "list",dict:=none,data:=.seq ([]:YE).toArray } }:=
  I2.laid (t':=s2.toks) (λb u e=>Qao _ e) (QbB _) ⟨QbC _,[],0,.nil,Qaw _ rfl⟩
 have hfl:∀b∈fp,b < s2.heap.objs.size:=λb hb=>by
  obtain⟨o,e,_⟩:=T.obj 0 _ st2 b hb;exact Qbx e
 have f3:∀b∈fp,Ft X jb (upd H2 s2.heap.objs.size (.lst [])) b:=λb hb=>⟨by rw[Bv (Qbz (hfl b hb))];exact (f2 b hb).1,(f2 b hb).2⟩;generalize hs3:({ s2 with heap:=s2.heap.push { cls:=.type "list",dict:=none,data:=.seq ([]:YE).toArray } }:Shared)=s3 at *;have hsz:s2.heap.objs.size < s3.heap.objs.size:=by rw[<-hs3];show s2.heap.objs.size < (s2.heap.push _).objs.size;rw[Heap.size_push];exact Nat.lt_succ_self _
 have kp:∀b o,s3.heap.get? b=some o->ha.get? b=some o:=λb o e=>hsb.extBut b o (Qbz (Qbx e)) (Qao _ e);have st3:tn 0 ha:=T.keep 0 _ _ st2 λb hb o e=>kp b o (by rw[<-hs3];exact Qao _ e);have I4:Inv (cxC X N' sc s3 (upd H2 s2.heap.objs.size (.lst [])) fp (X.pn++jb)) [] (Hv src U) (upd H2 s2.heap.objs.size (.lst [])) { s3 with heap:=ha,toks:=s3.toks+([]:List (Str×Value)).length }:=
  Qz S I3 f3 (λb hb=>Nat.lt_trans (hfl b hb) hsz) hns kp
 have loop:codeAny (model X.prog X.w) X.A (.compLoop (.ListComp elt [⟨tg,iter,[],0⟩,⟨t2,i2,[],0⟩] sc pos) 0 (.ref it) (.ref s2.heap.objs.size) (compEnvC sc (Du X.env sc.names []) s3.heap.objs.size X.env))
   (compPost (model X.prog X.w) X.A X.xe use R (.ref s2.heap.objs.size) s3.heap.objs.size) { s3 with heap:=ha,toks:=s3.toks+([]:List (Str×Value)).length }:=by
  refine T4 (hs2 s3 (upd H2 s2.heap.objs.size (.lst [])) fp (X.pn++jb)) (λn s'=>∃i σ' H',Inv (cxC X N' sc s3 (upd H2 s2.heap.objs.size (.lst [])) fp (X.pn++jb)) [] σ' H' s'/\tn i s'.heap/\(∀b∈fp,H' b=none)/\W i n σ' H') ?_ m0 ⟨0,_,_,I4,st3,λb hb=>(f3 b hb).1,w0⟩;rintro n s4 ⟨i,σ4,H4,J4,st4,fr4,w4⟩;have stat:∀{H':Hp},(∀b∈fp,H' b=none)->∀b∈fp,Ft (cxC X N' sc s3 (upd H2 s2.heap.objs.size (.lst [])) fp (X.pn++jb)) [] H' b:=λhn b hb=>
   ⟨hn b hb,(I4.ok.exf b hb).1,I4.ok.Lr b hb,.inl hb,λx c e=>(I4.ok.exf b hb).2 x c e,λp hp=>(f3 b hb).2.2.2.2.2 p ((Qbb.mp hp).elim id λz=>by cases z)⟩
  rcases turn i n σ4 H4 w4 with⟨stop,qn⟩|⟨go,N,hN,step⟩
  ·refine thn (T.done (cxC X N' sc s3 (upd H2 s2.heap.objs.size (.lst [])) fp (X.pn++jb)) rfl rfl rfl hc i [] s4 σ4 H4 _ J4 (stat fr4) st4 stop) λr s5 zz=>?_;obtain⟨hr,J5⟩:=zz;subst hr;exact fin s3 _ fp σ4 H4 s5 _ I3 f3 J5 qn
  ·refine thn (T.item (cxC X N' sc s3 (upd H2 s2.heap.objs.size (.lst [])) fp (X.pn++jb)) rfl rfl rfl hc i [] s4 σ4 H4 _ J4 (stat fr4) st4 go) λr s5 zz=>?_;obtain⟨u,hr,h5⟩:=zz;subst hr;refine thn h5 λ_ s6 zz=>?_;obtain⟨x,H6,J6,r6,y6,st6,fr6⟩:=zz;have J6':=J6.pinned (stat fr6) (T.obj _ _ st6);have back:∀{σ7:St} {H7:Hp} {s7:Shared},Inv (cxC X N' sc s3 (upd H2 s2.heap.objs.size (.lst [])) fp (X.pn++jb)) ([]++Io fp s6.heap) σ7 H7 s7->N σ7 H7 ->
     ∃m',m' < n/\∃i σ' H',Inv (cxC X N' sc s3 (upd H2 s2.heap.objs.size (.lst [])) fp (X.pn++jb)) [] σ' H' s7/\tn i s7.heap/\(∀b∈fp,H' b=none)/\W i m' σ' H':=λ{σ7 H7 s7} J7 w7=>by
    obtain⟨m',hm,w7⟩:=hN _ _ w7;have pinned:∀b∈fp,∀o,s6.heap.get? b=some o->s7.heap.get? b=some o/\H7 b=none:=λb hb o e=>by
     have:=J7.pin (b,o) (Qaq _ (Qaq _ (Fz hb e)));exact⟨this.1,this.2.1⟩
    refine⟨m',hm,i+1,σ7,H7,J7.Ey,T.keep _ _ _ st6 λb hb o e=>(pinned b hb o e).1,λb hb=>?_,w7⟩;obtain⟨o,e,_⟩:=T.obj _ _ st6 b hb;exact (pinned b hb o e).2
   refine thn (hg s3 _ fp _ _ s6 σ4 H6 x u _ J6' r6 (step x H6 y6)) λ_ s7 zz=>?_;obtain⟨σ7,H7,J7,q7⟩:=zz;refine thn (hi2 s3 _ fp _ _ s7 σ7 H7 _ J7 q7) λv s8 q8=>thn q8 λjt s9 q9=>?_;obtain⟨it2,fp2,tn2,J2,H9,rfl,I9,T2,st9,f9,q9⟩:=q9;refine codeAny_mono (WR (Y:=cxC X N' sc s3 (upd H2 s2.heap.objs.size (.lst [])) fp (X.pn++jb)) (λ_ _ h=>h) hc T2 (hg2 s3 _ fp _) (he s3 _ fp _) I9 st9 f9 q9) λr s10 q10=>?_;cases r with
   | ok f=>obtain⟨σ',H',I',n'⟩:=q10;exact back I' n'
   | error e=>exact q10
 exact codeAny_compStart_list loop (T.self X.A 0 _ _ _ st3 loop)
end L2
namespace L2
open PySem
theorem Px {a b:Expr} {op:Operator} {p:Pos} {es:YJ} {env:Env}:starEach (.BinOp a op b p::es) env=(false,eval (.BinOp a op b p) env)::starEach es env:=by rfl
theorem Cw {x:Str} {p:Pos} {es:YJ} {env:Env}:starEach (.Name x p::es) env=(false,eval (.Name x p) env)::starEach es env:=by rfl
theorem YT {as:YJ} {p:Pos} {es:YJ} {env:Env}:starEach (.List as p::es) env=(false,eval (.List as p) env)::starEach es env:=by rfl
end L2
namespace L2
open PySem PySem.Spec PyProof.Rows
def KD (K:YD) (P:Params) (a:Addr):Prop:=(∃es n,K.lookup a=some ⟨.type "dict",none,.dict es n,#[]⟩/\PySem.W.KeysLit P es.toList)/\(a == sysModules)=false
section
variable {X:Cx}
end
theorem Ly (xs:Array Nat) (j:Nat) (up:xs.toList.Pairwise (· < ·)):∀(f lo hi:Nat),hi - lo<=f->lo<=hi->hi<=xs.size->(∀i v,xs[i]?=some v->i < lo->v < j)->(∀i v,xs[i]?=some v->hi<=i->j<=v) ->
  ∃r,SetTable.below.go xs j f lo hi=r/\r<=xs.size/\(∀i v,xs[i]?=some v->i < r->v < j)/\(∀i v,xs[i]?=some v->r<=i->j<=v)
 | 0,lo,hi,h1,h2,h3,h4,h5=>⟨lo,rfl,by omega,h4,λi v e h=>h5 i v e (by omega)⟩
 | f+1,lo,hi,h1,h2,h3,h4,h5=>by
  unfold SetTable.below.go;by_cases c:lo < hi
  ·rw[if_pos c];dsimp only;have hm:(lo+hi) / 2 < xs.size:=by omega
   have em:xs[(lo+hi) / 2]?=some xs[(lo+hi) / 2]:=Array.getElem?_eq_getElem hm;have eg:xs.getD ((lo+hi) / 2) j=xs[(lo+hi) / 2]:=by simp[Array.getD,hm]
   have mono:∀(a b:Nat) (u v:Nat),xs[a]?=some u->xs[b]?=some v->a < b->u < v:=λa b u v ea eb l=>by
    rw[<-Qar] at ea eb;obtain⟨ha,rfl⟩:=Qae.mp ea;obtain⟨hb,rfl⟩:=Qae.mp eb;exact Qag.mp up a b ha hb l
   rw[eg];by_cases d:xs[(lo+hi) / 2] < j
   ·rw[if_pos d];refine Ly xs j up f _ hi (by omega) (by omega) h3 (λi v e l=>?_) h5;by_cases q:i=(lo+hi) / 2
    ·subst q;rw[em] at e;cases e;exact d
    ·exact Nat.lt_trans (mono i _ v _ e em (by omega)) d
   ·rw[if_neg d];refine Ly xs j up f lo _ (by omega) (by omega) (by omega) h4 (λi v e l=>?_);by_cases q:i=(lo+hi) / 2
    ·subst q;rw[em] at e;cases e;exact Nat.le_of_not_lt d
    ·exact Qby (Nat.le_of_not_lt d) (Nat.le_of_lt (mono _ i _ v em e (by omega)))
  ·rw[if_neg c];exact⟨lo,rq,by omega,h4,λi v e h=>h5 i v e (by omega)⟩
theorem below_at {xs:Array Nat} {j:Nat} (up:xs.toList.Pairwise (· < ·)):SetTable.below xs j<=xs.size/\(∀i v,xs[i]?=some v->i < SetTable.below xs j->v < j)/\(∀i v,xs[i]?=some v->SetTable.below xs j<=i->j<=v):=by
 obtain⟨r,e,h⟩:=Ly xs j up xs.size 0 xs.size (by omega) (by omega) (QbB _) (λi v _ h=>absurd h (Nat.not_lt_zero _)) (λi v e h=>absurd (Qac.mp e).1 (by omega));have e':SetTable.below xs j=r:=e;rw[e'];exact h
def TOk (b:Bool) (t:SetTable):Prop:=t.led=b/\t.dummies=#[]/\(t.plain=true->t.place.toList.Pairwise (· < ·))
theorem TOk.stand {b:Bool} {t:SetTable} (h:TOk b t) (n:Nat):TOk b (t.standIn n):=⟨h.1,rfl,λz=>by cases z⟩
theorem TOk.off {b:Bool} {t:SetTable} (h:TOk b t):TOk b { t with plain:=false }:=⟨h.1,h.2.1,λz=>by cases z⟩
theorem Ml {t:SetTable} {b:Bool} (h:TOk b t) (ha:Nat->Int) (x:Int):∀(f:Nat) (p:SetTable.Probe),p.dummy=none->∀j d,SetTable.probe.go t ha x f p=some (.empty j d)->d=none/\t.slot j=.empty
 | 0,p,_,j,d,e=>by simp[SetTable.probe.go] at e
 | f+1,p,pd,j,d,e=>by
  unfold SetTable.probe.go at e;have adv:∀q:SetTable.Probe,q.dummy=none->(t.advance q).dummy=none:=λq hq=>by unfold SetTable.advance;split <;> exact hq
  split at e
  ·rename_i hs;cases e;exact⟨pd,hs⟩
  ·rename_i hs;exfalso;unfold SetTable.slot at hs;dsimp only at hs;rw[h.2.1] at hs;split at hs
   ·cases hs
   ·split at hs
    ·rename_i hh;simp[SetTable.has] at hh
    ·cases hs
  ·split at e
   ·cases e
   ·exact Ml h ha x f _ (adv p pd) j d e
theorem Vo {xs:Array Nat} {j:Nat} (up:xs.toList.Pairwise (· < ·)) (ne:xs[SetTable.below xs j]?≠some j):(SetTable.insertAt xs (SetTable.below xs j) j).toList.Pairwise (· < ·):=by
 obtain⟨h1,h2,h3⟩:=below_at (j:=j) up;rw[SetTable.toList_insertAt];refine List.pairwise_append.mpr ⟨up.sublist (List.take_sublist _ _),List.pairwise_cons.mpr ⟨λv hv=>?_,up.sublist (List.drop_sublist _ _)⟩,λu hu v hv=>?_⟩
 ·obtain⟨i,hi⟩:=List.getElem?_of_mem hv;rw[List.getElem?_drop,Qar] at hi;have q:=h3 _ v hi (Nat.le_add_right _ _);by_cases c:j=v
  ·subst c;by_cases z:i=0
   ·subst z;exact absurd hi ne
   ·exfalso;have hl:SetTable.below xs j < xs.size:=by have:=(Qac.mp hi).1;omega
    have e0:xs[SetTable.below xs j]?=some xs[SetTable.below xs j]:=Array.getElem?_eq_getElem hl;have q0:=h3 _ _ e0 (QbB _);rw[<-Qar] at e0 hi;obtain⟨a1,a2⟩:=Qae.mp e0;obtain⟨b1,b2⟩:=Qae.mp hi;have:=Qag.mp up _ _ a1 b1 (by omega);omega
  ·omega
 ·obtain⟨i,hi⟩:=List.getElem?_of_mem hu;have hil:i < SetTable.below xs j:=by
   have:=(Qae.mp hi).1;rw[QaT] at this;omega
  rw[List.getElem?_take_of_lt hil,Qar] at hi;have uj:=h2 i u hi hil;rcases Qbs.mp hv with rfl | hv
  ·exact uj
  ·obtain⟨k,hk⟩:=List.getElem?_of_mem hv;rw[List.getElem?_drop,Qar] at hk;exact QaD uj (h3 _ v hk (Nat.le_add_right _ _))
theorem TOk.U5 {b:Bool} {t:SetTable} (h:TOk b t) {j:Nat} (e:t.slot j=.empty):TOk b (t.put j).1:=by
 refine⟨h.1,?_,λpl=>?_⟩
 ·show (if SetTable.has t.dummies j=true then SetTable.eraseAt t.dummies (SetTable.below t.dummies j) else t.dummies)=#[]
  rw[h.2.1];have:SetTable.has (#[]:Array Nat) j=false:=by simp[SetTable.has]
  rw[this];rfl
 ·refine Vo (h.2.2 pl) λz=>?_;unfold SetTable.slot at e;dsimp only at e;rw[z] at e;simp at e
theorem TOk.lay {b:Bool} {t:SetTable} (h:TOk b t) (es:Array (Int×Value)) (k:Int) (x:Value):TOk b (layNew t es k x).2.1:=by
 unfold layNew;split
 ·rename_i slot wd hf;dsimp only;have key:t.slot slot=.empty:=by
   unfold SetTable.freeSlot at hf;split at hf
   ·rename_i j d hp;obtain⟨rfl,hs⟩:=Ml h _ _ _ _ rfl j d hp;cases hf;exact hs
   ·cases hf
  unfold SetTable.orStandIn;split
  ·exact h.U5 key
  ·exact (h.U5 key).stand _
 ·exact h.stand _
section
variable {prog:Program} {w:World} {KT:Type} [DecidableEq KT] (kn:KeyKind prog w KT)
def SetT (b:Bool) (h:Heap) (a:Addr) (S:KT->Bool) (n:Nat):Prop:=
 ∃ob es ep t,(h.get? a=some ob/\ob.ExactSet/\ob.data=.set es ep t)/\(ElemsOf kn es.toList/\∀k,S k=true ↔ ∃e∈es.toList,kn.is k e.2=true)/\(es.size < scanBound/\t.fits es.size=true/\es.size=n)/\TOk b t
variable {kn}
variable {A:Around} {E:YA} {s:Shared}
theorem SetT.at {b:Bool} {h h':Heap} {a:Addr} {S:KT->Bool} {n:Nat} (z:SetT kn b h a S n) (k:∀o,h.get? a=some o->h'.get? a=some o):SetT kn b h' a S n:=
 let ⟨ob,es,ep,t,⟨g1,g2⟩,g3⟩:=z
 ⟨ob,es,ep,t,⟨k _ g1,g2⟩,g3⟩
theorem SetT.stored {b:Bool} {h:Heap} {a:Addr} {ob:Obj} {es:Array (Int×Value)} {ep:Nat} {t:SetTable} (g1:h.get? a=some ob) (g2:ob.ExactSet) (g3:ob.data=.set es ep t)
  {es':Array (Int×Value)} {t':SetTable} {S':KT->Bool} (k1:ElemsOf kn es'.toList) (k2:∀k,S' k=true ↔ ∃e∈es'.toList,kn.is k e.2=true) (k3:es'.size < scanBound) (k4:t'.fits es'.size=true) (k5:TOk b t') :
  (h.update a (Obj.putSet es' t')).get? a=some { ob with data:=.set es' (ep+1) t' }/\SetT kn b (h.update a (Obj.putSet es' t')) a S' es'.size:=by
 obtain⟨q,_⟩:=SetOf_store (knd:=kn) g1 g2 g3 k1 k2 k3 k4;exact⟨q,_,es',ep+1,t',⟨q,g2,rq⟩,⟨k1,k2⟩,⟨k3,k4,rq⟩,k5⟩
end
section
variable {prog:Program} {w:World} {A:Around} {E:YA} {s:Shared}
def WY (b:Bool) (h:Heap) (a:Addr) (es:Array (Int×Value)) (ep:Nat) (t:SetTable):Prop:=∃ob,h.get? a=some ob/\ob.ExactSet/\ob.data=.set es ep t/\t.fits es.size=true/\TOk b t
theorem WY.at {b:Bool} {h h':Heap} {a:Addr} {es:Array (Int×Value)} {ep:Nat} {t:SetTable} (z:WY b h a es ep t) (k:∀o,h.get? a=some o->h'.get? a=some o):WY b h' a es ep t:=let ⟨ob,g1,g2⟩:=z;⟨ob,k _ g1,g2⟩
def W2 (h:Heap) (it a:Addr) (first:Value) (i n ep:Nat):Prop:=∃o,h.get? it=some o/\o.cls=.type "set_iterator"/\o.data=.fields #[first,rawInt i,.ref a,rawInt n,rawInt ep]
end
section
variable {prog:Program} {w:World} {A:Around} {E:YA} {s:Shared}
theorem W2.at {h h':Heap} {it a:Addr} {first:Value} {i n ep:Nat} (x:W2 h it a first i n ep) (e:∀o,h.get? it=some o->h'.get? it=some o):W2 h' it a first i n ep:=let ⟨o,ho,r⟩:=x;⟨o,e _ ho,r⟩
end
section
variable {X:Cx} {K:YD}
theorem RG (h:X.K=K) (hu:X.A.units+66 < cLine):OpR X (compareOp .In) (λx y H Q=>∃l xs d ds,y=.ref l/\SqT K H l xs/\G9 K H xs ds/\Rep H x d/\SeqAt.shaped d=true/\PyData.canLayAll0 ds=true/\Q (.bl (ds.any λz=>PyData.eqv z d)) H):=by
 subst h;intro jb s U H x y v u Q I rx ry hh;obtain⟨l,xs,d,ds,rfl,hq,hr,hx,sd,hc,q⟩:=hh;cases ry;obtain⟨its,rv,⟨o,ho,hcl,n,hd⟩,_⟩:=I.tuple hq;obtain⟨as,r1⟩:=G9.reads I hr rv;obtain⟨bs,r2⟩:=hx.reads I.hok rx;refine SeqAt.in_tuple_reads (xs:=ds) (d:=d) (.tuple ho hcl hd (by simpa using r1)) r2 hc (SeqAt.canLay_of_shaped sd) (room_in_shaped sd (by omega)) ⟨.bl _,H,I,rq,q⟩
end
theorem Rep.kn {H:Hp} {v:V} {d:PyData} (r:Rep H v d):Kn H v:=by
 cases r with
 | non=>exact True.intro
 | bl b=>exact True.intro
 | int i=>exact True.intro
 | str x=>exact True.intro
 | tup e _=>exact .inr ⟨_,e⟩
 | lst e _=>exact .inl ⟨_,e⟩
end L2
namespace PySem.ZZ
open PySem
section
variable {prog:Program} {w:World} {A:Around} {E:YA} {s:Shared}
abbrev itS (x:Str) (t:Tok):Obj:={ cls:=.type "str_ascii_iterator",data:=.fields #[.str x t,.int 0 0] }
abbrev zsa (h:Heap) (x:Str) (t:Tok) (l2:Addr):Heap:=((((h.push (itS x t)).push (itO "tuple_iterator" l2)).push (tuO #[.ref h.objs.size,.ref (h.push (itS x t)).objs.size])).push (tuO #[.none,.none]))
abbrev zs (h:Heap) (x:Str) (t:Tok) (l2:Addr):Heap:=(zsa h x t l2).push
 { cls:=.type "zip",data:=.fields #[.none,.bool false,.bool false,.ref ((h.push (itS x t)).push (itO "tuple_iterator" l2)).objs.size,.ref (((h.push (itS x t)).push (itO "tuple_iterator" l2)).push (tuO #[.ref h.objs.size,.ref (h.push (itS x t)).objs.size])).objs.size] }
end
end PySem.ZZ
namespace L2
open PySem PySem.Spec PyProof.Rows
section
variable {X:Cx}
end
theorem Ym {K:YD} {a l:Addr} {xs:YG} {g:TG} {te:TE} {N:YO} {σ0:St} {H0:Hp} (Pv:YN) (h0:Pv 0 σ0 H0) (hl:∀i U H',i<=xs.length->Pv i U H'->SqT K H' a xs)
  (hs:∀i x U H',xs[i]?=some x->Pv i U H'->g x U H' fun σ3 H3=>te σ3 H3 λy H5=>∃ys,H5 l=some (.lst ys)/\ys.length < sizeLine/\Pv (i+1) σ3 (upd H5 l (.lst (ys++[y])))) (hd:∀ U H',Pv xs.length U H'->N U H'):CIn (Itt K a) g te l N σ0 H0:=by
 refine⟨λi m U H'=>m=xs.length - i/\i<=xs.length/\Pv i U H',⟨xs.length,by simp,QbC _,h0⟩,?_⟩;rintro i m U H' ⟨rfl,hi,p⟩;have q:=hl i U H' hi p;by_cases hlt:i < xs.length
 ·refine .inr ⟨⟨xs,xs[i],q,Qah hlt⟩,Pv (i+1),fun σ3 H3 p'=>⟨xs.length - (i+1),by omega,rq,hlt,p'⟩,λv H2 y=>?_⟩;obtain⟨rfl,e⟩:=y;exact hs i v U _ (e xs q) p
 ·exact .inl ⟨⟨xs,q,by omega⟩,by
   have:i=xs.length:=by omega
   subst this;exact hd _ _ p⟩
section
variable {X:Cx}
end
theorem T5 {K:YD} {a l:Addr} {xs:YG} {g:TG} {wi2:TI} {g2:TG} {te:TE} {Q:VK} {σ0:St} {H0:Hp} (Pv:YN)
  (h0:Pv 0 σ0 H0) (hl:∀i U H',i<=xs.length->Pv i U H'->SqL K H' a xs)
  (hs:∀i x U H',xs[i]?=some x->Pv i U H'->g x U H' fun σ3 H3=>wi2 σ3 H3 λJ2 H4=>CIn J2 g2 te l (Pv (i+1)) σ3 H4)
  (hd:∀ U H',Pv xs.length U H'->Q (.ref l) H'):Mz (Itl K a) g wi2 g2 te Q σ0 H0 l:=by
 unfold Mz;refine⟨λi m U H'=>m=xs.length - i/\i<=xs.length/\Pv i U H',⟨xs.length,by simp,QbC _,h0⟩,?_⟩;rintro i m U H' ⟨rfl,hi,p⟩;have q:=hl i U H' hi p;by_cases hlt:i < xs.length
 ·refine .inr ⟨⟨xs,xs[i],q,by simp[hlt]⟩,Pv (i+1),fun σ3 H3 p'=>⟨xs.length - (i+1),by omega,rq,hlt,p'⟩,λv H2 y=>?_⟩;obtain⟨rfl,hx⟩:=y;exact hs i v U _ (hx xs q) p
 ·have e:i=xs.length:=by omega
  subst e;exact .inl ⟨⟨xs,q,QbB _⟩,hd U H' p⟩
theorem Wd {X:Cx} {N':YF} {src:List (Option Nat)} {sc:Scope} {elt tg iter t2 i2:Expr} {pos spos px:Pos} {wi wi2:TI} {g g2:TG} {te:TE} {i:Nat} {x:Str} (hN:X.N.Nodup) (hi0:X.N[i]?=some x) (hx:Loc X.env.scope x) (hc:X.calm=true) (S:BX X N' src sc)
  (hi:PI X tg iter wi) (hg:∀s3 H3 fp pn,PG (cxC X N' sc s3 H3 fp pn) tg g) (hi2:∀s3 H3 fp pn,PI (cxC X N' sc s3 H3 fp pn) t2 i2 wi2) (hg2:∀s3 H3 fp pn,PG (cxC X N' sc s3 H3 fp pn) t2 g2) (he:∀s3 H3 fp pn,PE (cxC X N' sc s3 H3 fp pn) elt te)
  (hsw:swapsWith (.ListComp elt [⟨tg,iter,[],0⟩,⟨t2,i2,[],0⟩] sc pos) (some (.Name x px)) spos.line X.env=pure true:=by rfl) (hs:∀x,foldedSetIterable iter X.env x=pure x:=by intro _;rfl) (hs2:∀s3 H3 fp pn x,foldedSetIterable i2 (cxC X N' sc s3 H3 fp pn).env x=pure x:=by intros;rfl)
  (hf:X.fn x=true\/X.env.scope.names.lookup x=some .local:=by first | exact .inl rfl | exact .inr rfl | assumption) :
  PS X (.Assign [.Name x px] (.ListComp elt [⟨tg,iter,[],0⟩,⟨t2,i2,[],0⟩] sc pos) spos) (SJ (Ut wi src g wi2 g2 te) (FJ i)):=by
 intro jb s U H D I h;rw[exec_Assign_Name_used _ _ _ _ hsw];refine QbE (Qbu (QbE ?_));show wpAny _ X.A (do let _ <-comprehension (.ListComp elt [⟨tg,iter,[],0⟩,⟨t2,i2,[],0⟩] sc pos) sc X.env _ (newList []) false (eval iter X.env) (some (assign (.Name x px) X.env))) _ _ s
 refine QbE (thn (T6 (R:=λ_ s'=>SP X jb D .next s') hc S hi hg hi2 hg2 he hs hs2 I h λs3 H3 fp σ4 H4 s5 l I3 f3 J5 q=>?_) λ_ s' hq=>QbF (QbF hq));obtain⟨m,⟨oC,es,ep,hoC,r⟩,_⟩:=J5.loc;have I6:Inv X jb U H4 { s5 with heap:=s5.heap }:=QB I3 f3 J5 (Heap.SameBut.refl _ _);have hCn:H4 s3.heap.objs.size=none:=J5.free;have neL:s3.heap.objs.size≠X.env.locals:=Nat.ne_of_gt I3.lt;have Wr:∀v,oC.data≠.cell v:=λv z=>by rw[r.1] at z;cases z
 have I7:Inv X (jb++[(s3.heap.objs.size,oC)]) U H4 s5:=I6.KQ λp hp=>(Qbb.mp hp).elim (λz=>I6.pin p (Qaq _ z)) λz=>by
  cases QaE.mp z;exact⟨hoC,hCn,neL,I3.Wn (QbB _),Wr⟩
 show wpAny _ X.A (assign (.Name x px) X.env (.ref l)) _ _ s5;refine wpAny_assign_Name (Ga (v:=.ref l) I7 hN hi0 hx rfl (λs6 I8=>?_) hf);have k8:=(I8.pin (s3.heap.objs.size,oC) (Qaq _ (Qaq _ (QaE.mpr rfl)))).1;refine⟨m,⟨oC,es,ep,k8,r⟩,λh' sb=>⟨_,H4,?_,q⟩⟩;have I9:=I8.Ey;refine I9.turned (t':=s6.toks) (λb o hb e=>sb.extBut b o hb e) hCn neL (.inr I3.sz) (λy c e z=>?_) (λp hp z=>?_)
 ·obtain⟨v,o,ho,_⟩:=I3.cell y c e;exact absurd (Qbx ho) (by rw[z];exact Qbt _)
 ·have:=(I3.pin p hp).1;exact absurd (Qbx this) (by rw[z];exact Qbt _)
theorem XF {X:Cx} {K:YD} {tg l:Expr} {tl:TE} (h:X.K=K) (hl:PE X l tl):PI X tg l (Zr K tl):=h ▸ Ko hl
theorem XJ {X:Cx} {a:Expr} {ta:TE} {pos:Pos} (ha:PE X a ta):PE X (.UnaryOp .Not a pos) (fun U H Q=>ta U H λx H1=>∃k,ZS X.K x H1 k/\Q (.bl (!k)) H1):=by
 intro jb s U H Q I h;refine UnaryOp_ (thn (ha jb s U H _ I h) λv s1 zz=>?_);obtain⟨x,H1,I1,r1,q1⟩:=zz;obtain⟨k,e,q⟩:=q1;refine not_of (thn (Yw jb s1 U H1 x v (λc H2=>Q (.bl (!c)) H2) I1 r1 ⟨k,e,q⟩) λc s2 zz=>?_);obtain⟨H2,I2,q2⟩:=zz;exact⟨.bl (!c),H2,I2,rq,q2⟩
section
variable {X:Cx}
abbrev TJ:=Str->St->Hp->VK->Prop
def PJ (X:Cx) (es:YJ) (t:TJ):Prop:=∀(jb:YC) (s:Shared) (U : St) (H:Hp) (acc:Str) (Q:VK),Inv X jb U H s->t acc U H Q->wpAny (model X.prog X.w) X.A (joinParts acc (evalEach es X.env)) (EP X jb U Q) X.xe s
def dz:TJ:=λacc _ H Q=>acc.length<=sizeLine/\Q (.str acc) H
def dj (te:TE) (t:TJ):TJ:=λacc U H Q=>te U H λv H1=>∃y,v=.str y/\(acc++y).length<=sizeLine/\t (acc++y) U H1 Q
def Xo (v:V) (y:Str):Prop:=v=.str y\/∃i:Int,v=.int i/\i.natAbs.log2 < 1920/\y=toString i
def dg (te:TE) (t:TJ):TJ:=λacc U H Q=>te U H λv H1=>∃y,Xo v y/\(acc++y).length<=sizeLine/\t (acc++y) U H1 Q
theorem Im:PJ X [] dz:=by
 intro jb s U H acc Q I h;exact joinParts_nil ⟨.str acc,H,I.tok _,⟨_,rq⟩,h.2⟩ h.1
theorem Df {e:Expr} {es:YJ} {te:TE} {t:TJ} (he:PE X e te) (hr:PJ X es t):PJ X (e::es) (dj te t):=by
 intro jb s U H acc Q I h;refine joinParts_cons (thn (he jb s U H _ I h) λv s1 h1=>?_);obtain⟨x,H1,I1,r1,y,rfl,hz,q⟩:=h1;obtain⟨t',rfl⟩:=r1;exact⟨hz,hr jb s1 U H1 _ Q I1 q⟩
theorem Dd {e:Expr} {es:YJ} {te:TE} {t:TJ} {pos:Pos} (he:PE X e te) (hr:PJ X es t):PJ X (.FormattedValue e (-1) none pos::es) (dg te t):=by
 intro jb s U H acc Q I h;refine joinParts_cons (FormattedValue_plain (thn (he jb s U H _ I h) λv s1 h1=>?_));obtain⟨x,H1,I1,r1,y,ty,hz,q⟩:=h1;have hy:y.length<=sizeLine:=by
  rw[QaI] at hz;omega
 rcases ty with rfl |⟨i,rfl,hi,rfl⟩
 ·obtain⟨t',rfl⟩:=r1;exact formatField_str (λt2 k2=>⟨hz,hr jb _ U H1 _ Q (I1.tok k2) q⟩) hy
 ·obtain⟨t',rfl⟩:=r1;exact formatField_int_small hi ⟨hz,hr jb _ U H1 _ Q (I1.tok _) q⟩
theorem GX {e1 e2:Expr} {es:YJ} {t:TJ} {pos:Pos} (h:PJ X (e1::e2::es) t):PE X (.JoinedStr (e1::e2::es) pos) (fun U H Q=>t Str.empty U H Q):=by
 intro jb s U H Q I hh;exact JoinedStr_many (h jb s U H _ Q I hh)
theorem JZ:MtR X "str.startswith" (λx vs H Q=>∃z y,x=.str z/\vs=[.str y]/\Q (.bl (Txt.startswith z y)) H):=by
 intro jb s U H x vs v us Q I rx rv h;obtain⟨z,y,rfl,rfl,q⟩:=h;obtain⟨t,rfl⟩:=rx;obtain⟨u,rfl,ru⟩:=rv.one;obtain⟨t',rfl⟩:=ru;exact SC.startswith ⟨.bl _,H,I,rfl,q⟩
theorem Ra:MtR X "str.endswith" (λx vs H Q=>∃z y,x=.str z/\vs=[.str y]/\Q (.bl (Txt.endswith z y)) H):=by
 intro jb s U H x vs v us Q I rx rv h;obtain⟨z,y,rfl,rfl,q⟩:=h;obtain⟨t,rfl⟩:=rx;obtain⟨u,rfl,ru⟩:=rv.one;obtain⟨t',rfl⟩:=ru;exact SC.endswith ⟨.bl _,H,I,rfl,q⟩
theorem Ku:MtR X "str.partition" (λx vs H Q=>∃z y,x=.str z/\vs=[.str y]/\y.length≠0/\z.length<=sizeLine/\∀p,H p=none->Q (.ref p) (upd H p (.tup [.str (Txt.partition z y).1,.str (Txt.partition z y).2.1,.str (Txt.partition z y).2.2]))):=by
 intro jb s U H x vs v us Q I rx rv h;obtain⟨z,y,rfl,rfl,hy,hz,q⟩:=h;obtain⟨t,rfl⟩:=rx;obtain⟨u,rfl,ru⟩:=rv.one;obtain⟨t',rfl⟩:=ru;have hy':(y.length == 0)=false:=beq_eq_false_iff_ne.mpr hy;have q0:=q s.heap.objs.size (I.hok.fresh (QbB _));refine call_meets F.slot_str_partition (typeIs_str _ _ _) F.entry_str_partition (F.args_str_partition_2 _ _) (meets_str_partition z y t t' hy' hz) ?_;unfold Txt.partition at q0;cases e:Builtin.Str.occurrences z y 0 z.length 1 with
 | nil=>
  rw[e] at q0;exact⟨.ref s.heap.objs.size,_,I.laid (t':=s.toks+1) (o:=.tup [.str z,.str Str.empty,.str Str.empty]) (λb o e=>Qao _ e) (QbB _) ⟨by show 3<=sizeLine;decide,_,.cons ⟨_,rq⟩ (.cons ⟨_,rq⟩ (.cons ⟨_,rq⟩ .nil)),IsTup.new _ _⟩,rq,q0⟩
 | cons i r=>
  rw[e] at q0;exact⟨.ref s.heap.objs.size,_,I.laid (t':=s.toks+1+1) (o:=.tup [.str (Builtin.Str.strSub z 0 i),.str y,.str (Builtin.Str.strSub z (i+y.length) z.length)]) (λb o e=>Qao _ e) (QbB _) ⟨by show 3<=sizeLine;decide,_,.cons ⟨_,rq⟩ (.cons ⟨_,rq⟩ (.cons ⟨_,rq⟩ .nil)),IsTup.new _ _⟩,rq,q0⟩
theorem Nx:∀l:List (Str×Tok),Vals ((l.map (·.1)).map V.str) (strValues l)
 | []=>.nil
 | p::r=>.cons ⟨p.2,rfl⟩ (Nx r)
theorem Ws:MtR X "str.split" (λx vs H Q=>∃z y,x=.str z/\vs=[.str y]/\y.length≠0/\z.length+2<=sizeLine/\∀p,H p=none->Q (.ref p) (upd H p (.lst ((Txt.split z y).map V.str)))):=by
 intro jb s U H x vs v us Q I rx rv h;obtain⟨z,y,rfl,rfl,hy,hz,q⟩:=h;obtain⟨t,rfl⟩:=rx;obtain⟨u,rfl,ru⟩:=rv.one;obtain⟨t',rfl⟩:=ru;have hy':(y.length == 0)=false:=beq_eq_false_iff_ne.mpr hy;have q0:=q s.heap.objs.size (I.hok.fresh (QbB _));have hn:(Builtin.Str.partsBetween z (Builtin.Str.occurrences z y 0 z.length (z.length+1)) y.length).length<=sizeLine:=by
  have e1:=StrLaws.occ_length_le z y 0 z.length (z.length+1);rw[length_partsBetween];omega
 have fin:∀(l:List (Str×Tok)) (k:Nat),l.map (·.1)=Txt.split z y->l.length<=sizeLine->EP X jb U Q (.ref s.heap.objs.size) { s with heap:=s.heap.push { cls:=.type "list",data:=.seq (strValues l).toArray },toks:=k }:=λl k e hl=>by
  rw[<-e] at q0;exact⟨.ref s.heap.objs.size,_,I.laid (t':=k) (o:=.lst ((l.map (·.1)).map V.str)) (λb o e=>Qao _ e) (QbB _) ⟨by rw[QaX,QaX];exact hl,_,0,Nx l,Qaw _ rfl⟩,rq,q0⟩
 cases h1:(decide (z.length < y.length) || decide (Builtin.Str.strKind z < Builtin.Str.strKind y)) with
 | true=>
  refine call_meets F.slot_str_split (typeIs_str _ _ _) F.entry_str_split (F.args_str_split_2 _ _) (meets_str_split_cannot_occur z y t t' h1) ?_;exact fin [(z,t)] _ (if_pos h1).symm (by show 1<=sizeLine;decide)
 | false=>
  cases hf:(Builtin.Str.occurrences z y 0 z.length (z.length+1)).isEmpty with
  | true=>
   refine call_meets F.slot_str_split (typeIs_str _ _ _) F.entry_str_split (F.args_str_split_2 _ _) (meets_str_split_not_found z y t t' h1 hy' hf) ?_;exact fin [(z,t)] _ ((if_neg (ne_true_of_eq_false h1)).trans (if_pos hf)).symm (by show 1<=sizeLine;decide)
  | false=>
   refine call_meets F.slot_str_split (typeIs_str _ _ _) F.entry_str_split (F.args_str_split_2 _ _) (meets_str_split_sep z y t t' h1 hy' hf (by omega) hn) ?_;show wants (EP X jb U Q) X.xe _ { s with toks:=_,heap:=s.heap.push { cls:=.type "list",data:=.seq (strsFrom s.toks (Builtin.Str.partsBetween z (Builtin.Str.occurrences z y 0 z.length (z.length+1)) y.length)).toArray } };rw[strsFrom_eq];refine fin (numbered s.toks _) _ ((numbered_texts _ _).trans ((if_neg (ne_true_of_eq_false h1)).trans (if_neg (ne_true_of_eq_false hf))).symm) ?_;have:=congrArg List.length (numbered_texts s.toks (Builtin.Str.partsBetween z (Builtin.Str.occurrences z y 0 z.length (z.length+1)) y.length));rw[QaX] at this;omega
theorem VF:Ds X (.type "int") (λxs H Q=>∃(z:Str) (n:Int),xs=[.str z]/\intText? z=some n/\z.length<=640/\Q (.int n) H):=by
 intro jb s U H xs us Q I r h;obtain⟨z,n,rfl,hn,hl,q⟩:=h;obtain⟨u,rfl,t,rfl⟩:=vals1 r;exact PySem.W.KIN.call_text hn hl ⟨.int n,H,I.tok _,⟨_,rq⟩,q⟩
end
def Xw (K:YD) (P:Params) (td ty tx:TE):TE:=fun U H Q=>td U H λx H1=>∃a,x=.ref a/\KD K P a/\ty U H1 λy H2=>tx U H2 λz H3=>∃w r v,y=.str w/\nsIn K a w=some r/\((r=none/\v=z)\/∃u,r=some u/\RelV v u)/\Q v H3
theorem Vb {X:Cx} {K:YD} {P:Params} {o e f:Expr} {apos cpos:Pos} {td ty tx:TE} (hK:X.K=K) (hP:X.w.params=P) (ho:PE X o td) (he:PE X e ty) (hf:PE X f tx) (m:M2 X o "get" apos e f cpos):PE X (.Call (.Attribute o "get" apos) [e,f] [] cpos) (Xw K P td ty tx):=by
 subst hK hP;intro jb s U H Q I h;refine wpAny_Call_method m.base m.few m.line PySem.F.plainAttrs_dict PySem.F.slot_dict_get PySem.F.type_dict_get (thn (ho jb s U H _ I h) λu s1 ⟨x,H1,I1,rx,a,ex,⟨⟨es,n,hl,hk⟩,lo⟩,q1⟩=>?_);subst ex;obtain rfl:u=Value.ref a:=rx;have M1:=PySem.W.mapOf_K (prog:=X.prog) I1.kIn hl hk;refine⟨M1.typeIs,λb q=>?_,?_⟩
 ·cases q;exact⟨_,I1.kIn _ _ hl,rq⟩
 rw[m.trees];refine Calls.callWith_builtin rfl (Calls.evalArgs_plain (Calls.spliced_cons (thn (he jb s1 U H1 _ I1 q1) λiv s2 ⟨y,H2,I2,ry,q2⟩=>
  Calls.spliced_cons (thn (hf jb s2 U H2 _ I2 q2) λfv s3 ⟨z,H3,I3,rz,w',r,v,ey,er,ev,q3⟩=>Calls.spliced_nil ?_))))
 subst ey;obtain⟨t,rfl⟩:=ry;have M3:=PySem.W.mapOf_K (prog:=X.prog) I3.kIn hl hk;refine call_meetsIn PySem.F.slot_dict_get M3.typeIs PySem.F.entry_dict_get (PySem.F.args_dict_get_3 _ _ _) (meets_dict_get_default (strKind X.prog X.w) a (strKind_is X.prog X.w w' t) lo fv) ⟨_,M3,?_⟩;have:RelV v ((findBy Value.isStrOf es w').getD fv):=by
  rw[PySem.W.find_K hl er];rcases ev with⟨rfl,rfl⟩|⟨u,rfl,rv⟩
  ·exact rz
  ·exact rv
 exact⟨v,H3,I3.tok _,this,q3⟩
theorem Vz {X:Cx} (hg:X.A.guards=some []) (hu:X.A.units+128 < cLine):Ds X (.type "str") (λxs H Q=>∃(a:Addr) (d:PyData),xs=[.ref a]/\Rep H (.ref a) d/\d.showable=true/\d.hasDict=false/\d.depth<=64/\d.shown.length<=sizeLine/\Q (.str d.shown) H):=by
 intro jb s U H xs us Q I r h;obtain⟨a,d,rfl,rp,h1,h2,h3,h4,q⟩:=h;obtain⟨u,rfl,rx⟩:=vals1 r;obtain⟨as,rd⟩:=rp.reads I.hok rx;cases rx;exact str_of_reads rd h1 (λh=>by rw[h2] at h;cases h) hg (by omega) (λ_ _ e=>e) (λh' u tk hk=>⟨.str d.shown,H,I.kept hk,⟨_,rq⟩,q⟩) h4
theorem FN {X:Cx} (hg:X.A.guards=some []) (hu:X.A.units+128 < cLine):Ds X (.type "str") (λxs H Q=>(∃i:Int,xs=[.int i]/\i.natAbs.log2 < 1920/\Q (.str (toString i)) H)\/(∃y:Str,xs=[.str y]/\Q (.str y) H)\/∃(a:Addr) (d:PyData),xs=[.ref a]/\Rep H (.ref a) d/\d.showable=true/\d.hasDict=false/\d.depth<=64/\d.shown.length<=sizeLine/\Q (.str d.shown) H):=by
 intro jb s U H xs us Q I r h;rcases h with⟨i,rfl,hi,q⟩|⟨y,rfl,q⟩| h
 ·obtain⟨u,rfl,t,rfl⟩:=vals1 r;exact PySem.P.str_of_int hi ⟨.str _,H,I.tok _,⟨_,rq⟩,q⟩
 ·obtain⟨u,rfl,t,rfl⟩:=vals1 r;exact PySem.P.str_of_str ⟨.str _,H,I,⟨_,rq⟩,q⟩
 ·exact Vz hg hu jb s U H xs us Q I r h
end L2
namespace K28
open PySem L2
def top (i:Nat):Stmt:=PySem.Challenge.pw_warnloop_k28_rules_written.main.body.getD i (.Pass ⟨0,0,0,0⟩)
theorem BZ:bootBuiltins "isinstance"=some (.builtin "isinstance"):=by trivial
theorem Jx:bootBuiltins "int"=some (.type "int"):=by trivial
theorem Sh:bootBuiltins "bool"=some (.type "bool"):=by trivial
theorem JT:bootBuiltins "tuple"=some (.type "tuple"):=by trivial
theorem GJ:bootBuiltins "str"=some (.type "str"):=by trivial
theorem DQ:bootBuiltins "len"=some (.builtin "len"):=by trivial
theorem Mx:bootBuiltins "all"=some (.builtin "all"):=by trivial
theorem VG:bootBuiltins "abs"=some (.builtin "abs"):=by trivial
theorem ZM:bootBuiltins "max"=some (.builtin "max"):=by trivial
theorem ZL:bootBuiltins "min"=some (.builtin "min"):=by trivial
structure Nm (mg:YB):Prop where
 isinstance:mg "isinstance"=none
 int:mg "int"=none
 bool:mg "bool"=none
 tuple:mg "tuple"=none
 list:mg "list"=none
 str:mg "str"=none
 len:mg "len"=none
 all:mg "all"=none
 abs:mg "abs"=none
 max:mg "max"=none
 min:mg "min"=none
 range:mg "range"=none
 sorted:mg "sorted"=none
 any:mg "any"=none
 sum:mg "sum"=none
 enumerate:mg "enumerate"=none
 zip:mg "zip"=none
 reversed:mg "reversed"=none
 dict:mg "dict"=none
 ord:mg "ord"=none
 set:mg "set"=none
abbrev MN:Stmt:=top 34
abbrev Jv:YF:=["_law_script","_law_k"]
theorem Ld:Bc ["_law_script","_law_k","_law_cell"] Jv (Ao MN):=by ac_rfl
abbrev Lf:Stmt:=top 35
abbrev Fg:YF:=["_law_bag_here","_law_many"]
theorem Gg:Bc ["_law_bag_here","_law_many","_law_digit","_law_primes","_law_step","_law_base","_law_found"] Fg (Ao Lf):=by ac_rfl
theorem Zo (v:V):isW v=(isI v&&!isB v):=by cases v <;> rfl
def Br (H:Hp) (b:Addr) (n:Nat):Prop:=∃x y z:Int,H b=some (.lst [.int x,.int y,.int z])/\0<=x/\0<=y/\y<=4294967296/\0<=z/\z<=n
theorem Br.same {H H':Hp} {b:Addr} {n:Nat} (h:Br H b n) (s:Same H H'):Br H' b n:=by
 obtain⟨x,y,z,e,r⟩:=h;exact⟨x,y,z,s _ _ e,r⟩
theorem Br.mono {H:Hp} {b:Addr} {n m:Nat} (h:Br H b n) (l:n<=m):Br H b m:=by
 obtain⟨x,y,z,e,h1,h2,h3,h4,h5⟩:=h;exact⟨x,y,z,e,h1,h2,h3,h4,by omega⟩
theorem Br.nb {H:Hp} {b p:Addr} {n:Nat} (h:Br H b n) (hp:H p=none):b≠p:=by obtain⟨_,_,_,e,_⟩:=h;exact Cg e hp
theorem Br.Lk {H:Hp} {b:Addr} {n:Nat} (h:Br H b n):∀xs,H b≠some (.tup xs):=λxs z=>by obtain⟨_,_,_,e,_⟩:=h;rw[e] at z;cases z
theorem Br.ex {H:Hp} {b:Addr} {n:Nat} (h:Br H b n):∃o,H b=some o:=by obtain⟨_,_,_,e,_⟩:=h;exact⟨_,e⟩
theorem Br.Dr {H H':Hp} {a b:Addr} {n:Nat} (h:Br H b n) (s:Al a H H') (ne:b≠a):Br H' b n:=by
 obtain⟨x,y,z,e,r⟩:=h;exact⟨x,y,z,s _ _ e ne,r⟩
theorem Ar {n:Nat} (h:n<=1000):n<=sizeLine:=Nat.le_of_lt (BJ h)
def Xf (K:YD):Sp:=λvs H Q _=>∃(a:Addr) (ns:List Int) (k:Int),vs=[.ref a,.int k]/\SqL K H a (ns.map V.int)/\ns.length<=63/\0<=k/\k<=100/\∀p o,H p=none->Br (upd H p o) p 0->Q (.ref p) (upd H p o)
def Ke:Sp:=λvs H Q _=>∃(b:Addr) (n:Nat) (m:Int),vs=[.ref b,.int m]/\Br H b n/\n<=10000/\0 < m/\m < 1073741824/\∀r H',0<=r->r < m->Br H' b (n+1)->Al b H H'->Q (.int r) H'
def O7 (K:YD):Sp:=λvs H Q _=>∃(a:Addr) (ns:List Int),vs=[.ref a]/\SqL K H a (ns.map V.int)/\ns.length<=63/\∀H',Q (.bl true) H'
theorem at7 {i:Int} (h0:0<=i) (h7:i < 7) {a b c d e f g:Int} (P:Int->Prop) (ha:P a) (hb:P b) (hc:P c) (hd:P d) (he:P e) (hf:P f) (hg:P g):∃p,atI [V.int a,.int b,.int c,.int d,.int e,.int f,.int g] i=some (.int p)/\P p:=by
 have:i=0\/i=1\/i=2\/i=3\/i=4\/i=5\/i=6:=by omega
 rcases this with rfl | rfl | rfl | rfl | rfl | rfl | rfl
 ·exact⟨_,rq,ha⟩
 ·exact⟨_,rq,hb⟩
 ·exact⟨_,rq,hc⟩
 ·exact⟨_,rq,hd⟩
 ·exact⟨_,rq,he⟩
 ·exact⟨_,rq,hf⟩
 ·exact⟨_,rq,hg⟩
theorem ZG {x:Int} {b:Bool}:Uj x (if b=true then 1 else 0):=.inr (by cases b <;> exact⟨by decide,by decide⟩)
section
variable {P:Program} {w:World} {K:YD} {mg:YB} {base:Heap}
theorem Wj (C:Code K mg "_law_bag" MN Jv) (T:Nm mg):Good P w K mg base "_law_bag" 1 Jv (Xf K):=by
 refine C.good Ld (λvs H Q E h=>?_) (λf cdv A outer s H vs Q E hr h=>?_)
 ·obtain⟨a,ns,k,rfl,_⟩:=h;rfl
 obtain⟨a,ns,k,rfl,hS,h63,h0,h1,q⟩:=h;refine⟨_,(Ad (Bl (i:=2) Ld.nd rfl (Or.inl rfl) (Av Dg (Av Dg (Av FQ (Av FQ Ab (pv 1)) (pv 1)) (Av FQ Ab (pv 1))) Ab))
 (Ad (Bh (Ay KY (pv 1) (Bd BK rfl T.len DQ (Aa (pv 0) Ac)) (Ba _)) (Ag (Bl (i:=2) Ld.nd rfl (Or.inl rfl) (Aw Bm (pv 0) (pv 1) (λ_ _=>rfl)))) Ax)
 (Ag (Am (Dl (Aa (Av FQ (Bd QL rfl T.abs VG (Aa (pv 2) Ac)) (Cr Kz rfl T.int Jx (Aa (CG aA (Bd QL rfl T.abs VG (Aa (pv 2) Ac)) (Av Vc Ab Ab) (Ba _)) Ac))) (Aa (Av Dg (Av FT (pv 2) Ab) (Av FQ Ab (pv 1))) (Aa Ab Ac)))))))),?_⟩
 show let R0:TS:=_;let R1:TS:=_;let R2:TS:=Ak (Bu _ R1 _) R0;Ak _ R2 _ _ _;intro R0 R1 R2;refine⟨_,rq,_,_,rq,rq,.inl ⟨by decide,by decide⟩,_,rq,_,_,rq,rq,.inr ⟨by omega,by omega⟩,_,rq,_,_,rq,rq,.inl ⟨by decide,by decide⟩,_,_,rq,rq,_,_,rq,rq,?_⟩;refine⟨_,rq,_,rq,a,_,rq,.inl hS,_,_,rq,rq,_,rq,?_⟩;have hl:(ns.map V.int).length=ns.length:=QaX _;have fin:∀(c:Int) (p:Addr),H p=none->Q (.ref p) (upd H p (.lst [.int ((if c < 0 then -c else c)*(if decide ((10:Int) ^ (18:Int).toNat<=(if c < 0 then -c else c))=true then 1 else 0)),.int (c % 2147483647+37*k),.int 0])):=λc p hp=>by
  refine q p _ hp ⟨_,_,_,Ae,?_,?_,?_,by omega,by omega⟩
  ·refine Int.mul_nonneg ?_ ?_
   ·split <;> omega
   ·split <;> omega
  ·have:=Qbm c (show (2147483647:Int)≠0 by decide);omega
  ·have:=QaG c (show (0:Int) < 2147483647 by decide);omega
 refine Tr (λc1=>?_) (λc1=>?_)
 ·have c':k < (((ns.map V.int).length:Nat):Int):=QaL c1;rw[hl] at c';have hk:k.toNat < ns.length:=by omega
  have hat:atI (ns.map V.int) ((k.toNat:Nat):Int)=some (.int ns[k.toNat]):=Ai (by rw[QaM];simp[hk]);rw[Int.toNat_of_nonneg h0] at hat;refine⟨_,rq,_,rq,a,_,_,_,rq,rq,hS,hat,?_⟩;exact⟨_,rq,_,rq,_,rq,_,rq,_,_,rq,rq,⟨by decide,by decide,by decide⟩,_,_,rq,rq,.inr ⟨_,rq,_,_,rq,rq,ZG,_,rq,_,_,rq,rq,(by show (0:Int) < 2147483647;decide),_,rq,_,_,rq,rq,.inl ⟨by decide,by decide⟩,_,_,rq,rq,
   (by show 3<=sizeLine;decide),λl hl'=>fin _ l hl'⟩⟩
 ·exact⟨_,rq,_,rq,_,rq,_,rq,_,_,rq,rq,⟨by decide,by decide,by decide⟩,_,_,rq,rq,.inr ⟨_,rq,_,_,rq,rq,ZG,_,rq,_,_,rq,rq,(by show (0:Int) < 2147483647;decide),_,rq,_,_,rq,rq,.inl ⟨by decide,by decide⟩,_,_,rq,rq,
   (by show 3<=sizeLine;decide),λl hl'=>fin _ l hl'⟩⟩
theorem Ve (C:Code K mg "_law_take" Lf Fg) (T:Nm mg):Good P w K mg base "_law_take" 1 Fg Ke:=by
 refine C.good Gg (λvs H Q E h=>?_) (λf cdv A outer s H vs Q E hr h=>?_)
 ·obtain⟨b,n,m,rfl,_⟩:=h;rfl
 obtain⟨b,n,m,rfl,⟨x,y,z,hb,x0,y0,y1,z0,z1⟩,hn,m0,m1,q⟩:=h;refine⟨_,(Ad (Bh (Ay Xk (Aw Bm (pv 0) Ab (λ_ _=>rfl)) Ab (Ba _)) (Ad (Bl (i:=2) Gg.nd rfl (Or.inl rfl) (Av FT (Aw Bm (pv 0) Ab (λ_ _=>rfl)) (pv 1)))
 (Ad (Dc (Av MP (Aw Bm (pv 0) Ab (λ_ _=>rfl)) (pv 1)) (Kp (pv 0) Ab set_list))
 (Ag (Am (pv 2))))) Ax)
 (Ad (Bl (i:=3) Gg.nd rfl (Or.inl rfl) (@Bq _ _ _ _ _ (@Aa _ _ _ _ _ (@Ab _ _ _ _) (@Aa _ _ _ _ _ (@Ab _ _ _ _) (@Aa _ _ _ _ _ (@Ab _ _ _ _) (@Aa _ _ _ _ _ (@Ab _ _ _ _) (@Aa _ _ _ _ _ (@Ab _ _ _ _) (@Aa _ _ _ _ _ (@Ab _ _ _ _) (@Aa _ _ _ _ _ (@Ab _ _ _ _) (@Ac _) Cy) Cy) Cy) Cy) Cy) Cy) Cy)))
 (Ad (Dc (Av Dg (Aw Bm (pv 0) Ab (λ_ _=>rfl)) Ab) (Kp (pv 0) Ab set_list))
 (Ad (Bl (i:=4) Gg.nd rfl (Or.inl rfl) (Aw Bm (pv 0) Ab (λ_ _=>rfl)))
 (Ad (Bl (i:=5) Gg.nd rfl (Or.inl rfl) (Av Dg (Av Dg (Av FQ (Aw Bm (pv 0) Ab (λ_ _=>rfl)) (Av Dg (Av FQ Ab (pv 4)) Ab)) (Av FQ (Av FQ Ab (pv 4)) (pv 4))) Ab))
 (Ad (Bl (i:=6) Gg.nd rfl (Or.inl rfl) (Av FT (Av Vc (pv 5) Ab) (Aw Bf (pv 3) (Av FT (pv 4) Ab) (λ_ _=>rfl))))
 (Ag (Am (Av FT (Av MP (Av FT (Av FQ (pv 6) (Av Dg (Av MP (pv 6) Ab) Ab)) (Aw Bf (pv 3) (Av FT (Av Dg (pv 4) Ab) Ab) (λ_ _=>rfl))) Ab) (pv 1)))))))))),?_⟩
 show let R0:TS:=_;let R1:TS:=Ak _ R0;let R2:TS:=Ak _ R1;let R3:TS:=Ak _ R2;let R4:TS:=Ak _ R3;let R5:TS:=Ak _ R4;let R6:TS:=Ak _ _;let R7:TS:=Ak _ R6;Ak (Bu _ R7 _) R5 _ _ _;intro R0 R1 R2 R3 R4 R5 R6 R7;refine⟨_,rq,b,_,_,_,rq,rq,SqL.of hb,rq,_,_,rq,rq,_,rq,?_⟩;refine Tr (λc1=>?_) (λc1=>?_)
 ·have c':0 < x:=QaL c1;refine⟨_,rq,b,_,_,_,rq,rq,SqL.of hb,rq,_,rq,_,_,rq,rq,m0,?_⟩;refine⟨_,rq,b,_,_,_,rq,rq,SqL.of hb,rq,_,rq,_,_,rq,rq,⟨m0,m1⟩,_,rq,b,_,_,_,rq,rq,hb,rq,?_⟩;exact⟨_,rq,q _ _ (Qbm x (by omega)) (QaG x m0) ⟨x / m,y,z,Ae,Int.ediv_nonneg x0 (by omega),y0,y1,z0,by omega⟩ Al.upd⟩
 ·refine⟨(by show 7<=sizeLine;decide),λtp htp=>?_⟩;have nbt:b≠tp:=Cg hb htp;have hb1:∀o,(upd H tp o) b=some (.lst [.int x,.int y,.int z]):=λo=>by rw[Bv nbt];exact hb
  have ht1:∀o u,(upd (upd H tp o) b u) tp=some o:=λo u=>by rw[Bv nbt.symm,Ae]
  refine⟨_,rq,b,_,_,_,rq,rq,SqL.of (hb1 _),rq,_,_,rq,rq,_,rq,b,_,_,_,rq,rq,hb1 _,rq,?_⟩;refine⟨_,rq,b,_,_,_,rq,rq,SqL.of Ae,rq,?_⟩;have s0:0<=z+1:=by omega
  have s1:z+1<=10001:=by omega
  refine⟨_,rq,b,_,_,_,rq,rq,SqL.of Ae,rq,_,rq,_,_,rq,rq,.inl ⟨by decide,by decide⟩,_,_,rq,rq,_,_,rq,rq,.inl ⟨by omega,by omega⟩,_,rq,_,_,rq,rq,.inl ⟨by decide,by decide⟩,_,rq,_,_,rq,rq,.inr ⟨by omega,by omega⟩,
   _,_,rq,rq,_,_,rq,rq,?_⟩
  have hbase:(y*(2*(z+1)+1)+6007*(z+1)*(z+1)+29).natAbs < 2 ^ 64:=by
   have h1:0<=y*(2*(z+1)+1):=Int.mul_nonneg y0 (by omega);have h2:y*(2*(z+1)+1)<=4294967296*20003:=Int.mul_le_mul y1 (by omega) (by omega) (by omega);have h3:0<=6007*(z+1)*(z+1):=Int.mul_nonneg (by omega) s0;have h4:6007*(z+1)*(z+1)<=(6007*10001)*10001:=Int.mul_le_mul (by omega) s1 s0 (by omega);omega
  obtain⟨p1,e1,p10,p11⟩:=at7 (i:=(z+1) % 7) (Qbm _ (by decide)) (QaG _ (by decide)) (a:=2147483629) (b:=2147483587) (c:=2147483579) (d:=2147483563) (e:=2147483549) (f:=2147483543) (g:=2147483497)
   (λp=>0 < p/\p < 2147483648) (by decide) (by decide) (by decide) (by decide) (by decide) (by decide) (by decide)
  obtain⟨p2,e2,p20,p21⟩:=at7 (i:=(z+1+3) % 7) (Qbm _ (by decide)) (QaG _ (by decide)) (a:=2147483629) (b:=2147483587) (c:=2147483579) (d:=2147483563) (e:=2147483549) (f:=2147483543) (g:=2147483497)
   (λp=>0 < p/\p < 2147483648) (by decide) (by decide) (by decide) (by decide) (by decide) (by decide) (by decide)
  refine⟨_,rq,_,_,rq,rq,⟨by decide,by decide,hbase⟩,_,rq,_,rq,_,_,rq,rq,(by show (0:Int) < 7;decide),tp,_,_,_,rq,rq,SqT.of (ht1 _ _),e1,_,_,rq,rq,p10,?_⟩;generalize hF:(y*(2*(z+1)+1)+6007*(z+1)*(z+1)+29) ^ (3:Int).toNat % p1=F;have F0:0<=F:=by rw[<-hF];exact Qbm _ (by omega)
  have F1:F < p1:=by rw[<-hF];exact QaG _ p10
  refine⟨_,rq,_,rq,_,_,rq,rq,⟨by decide,by decide⟩,_,_,rq,rq,_,_,rq,rq,.inl ⟨by omega,by omega⟩,_,rq,_,rq,_,_,rq,rq,_,_,rq,rq,(by show (0:Int) < 7;decide),tp,_,_,_,rq,rq,SqT.of (ht1 _ _),e2,_,_,rq,rq,p20,
   _,_,rq,rq,⟨by decide,by decide⟩,_,rq,_,_,rq,rq,m0,?_⟩
  refine q _ _ (Qbm _ (by omega)) (QaG _ m0) ⟨x,y,z+1,Ae,x0,y0,y1,s0,by omega⟩ λc o e nc=>?_;rw[Bv nc,Bv (Cg e htp)];exact e
end
abbrev JD:Stmt:=top 36
abbrev GZ:YF:=["_law_bag_here"]
abbrev xc:YF:=["_law_bag_here","_law_letters"]
theorem NP:Bc xc GZ (Ao JD):=by ac_rfl
abbrev Jd:Stmt:=top 37
abbrev Hh:YF:=["_law_bag_here","_law_many"]
abbrev xf:YF:=["_law_bag_here","_law_many","_law_found","_law_place","_law_name_here"]
theorem Gs:Bc xf Hh (Ao Jd):=by ac_rfl
theorem Yd {K:YD} {H:Hp} {z:Str} {Q:VK} (q:Q (.bl true) H):Hu K [.str z,.ty "str"] H Q:=by
 unfold Hu;exact⟨_,_,_,_,rq,.str z,by rfl,q⟩
def abc:Str:="abcdefghijklmnopqrstuvwxyz"
def okS (z:Str):Prop:=∀c∈z.cps.toList,c∈abc.cps.toList
theorem okS.ok {z:Str} (h:okS z):PyData.strOk z=true:=by
 have ha:abc.cps.toList.all (λc=>decide (c < 0x110000))=true:=by trivial
 unfold PyData.strOk;rw[Array.all_eq_true'];exact λc hc=>QaS.mp ha c (h c (Array.mem_toList_iff.mpr hc))
theorem okS.append {x y:Str} (h:okS x) (h':okS y):okS (x++y):=by
 intro c hc;have:c∈x.cps.toList++y.cps.toList:=by
  have e:(x++y).cps=x.cps++y.cps:=rfl;rw[e,Array.toList_append] at hc;exact hc
 rcases Qbb.mp this with z | z
 ·exact h c z
 ·exact h' c z
theorem okS.slice {x:Str} (h:okS x) (l u:Option Int):okS (Txt.slice x l u):=by
 unfold Txt.slice;split
 ·exact h
 ·intro c hc;have hc':c∈(Builtin.Str.strSliceIndices l u 1 x.length).filterMap (x.cps[·]?):=by simpa using hc
  obtain⟨i,_,e⟩:=List.mem_filterMap.mp hc';exact h c (Array.mem_toList_iff.mpr (Array.mem_of_getElem? e))
theorem okS.join {sep:Str} (hs:okS sep):∀{ts:YF},(∀t∈ts,okS t)->okS (Str.join sep ts)
 | [],_=>λc hc=>by cases hc
 | [x],h=>h x (QaB ..)
 | x::y::r,h=>((h x (QaB ..)).append hs).append (okS.join hs (ts:=y::r) λt ht=>h t (Qas _ ht))
theorem K3:abc.cps.toList.length=26:=by trivial
theorem ZQ:abc.cps.toList.Nodup:=by trivial
theorem VJ:okS abc:=λc hc=>hc
theorem Qs:∀ts:YF,(Str.join "" ts).length=(ts.map (·.length)).sum
 | []=>rfl
 | [x]=>by show x.length=_;simp
 | x::y::r=>by
  show ((x++"")++Str.join "" (y::r)).length=_;rw[QaI,QaI,Qs (y::r),Qbr (a:=x),List.sum_cons];have:(Str.ofString "").length=0:=by trivial
  rw[this];omega
theorem dB (n:Nat):(Builtin.Str.strSliceIndices (some 1) none 1 n).length<=n - 1:=by
 unfold Builtin.Str.strSliceIndices sliceRange;simp only[show (1:Int) > 0 by decide,if_true,QaX,List.length_range,show ¬((1:Int) < 0) by decide,if_false];split
 ·rw[Int.ediv_one];omega
 ·exact QbC _
theorem Uz (z:Str):(Txt.slice z (some 1) none).length<=z.length - 1:=by
 have h:=dB z.length;unfold Txt.slice;split
 ·rename_i hc;rw[QaR] at hc;have:=QbI hc.2;omega
 ·show (List.filterMap _ _).toArray.size<=_;rw[QaK];exact Qby (List.length_filterMap_le _ _) h
theorem ZR {r:Int} (h0:0<=r) (h1:r < 26):∃c,atI abc.cps.toList r=some c/\okS ⟨#[c]⟩:=by
 have hl:r.toNat < abc.cps.toList.length:=by rw[K3];omega
 refine⟨abc.cps.toList[r.toNat],?_,λc hc=>?_⟩
 ·have:=Ai (xs:=abc.cps.toList) (j:=r.toNat) (Qah hl);rw[Int.toNat_of_nonneg h0] at this;exact this
 ·have:c=abc.cps.toList[r.toNat]:=by simpa using hc
  rw[this];exact VJ _ (List.getElem_mem hl)
theorem Pn:∀{ys:YF},(∀y∈ys,y.length=1)->(ys.map (·.length)).sum=ys.length
 | [],_=>rfl
 | y::r,h=>by
  rw[Qbr,List.sum_cons,h y (QaB ..),Pn (ys:=r) λt ht=>h t (Qas _ ht),QaQ];omega
theorem N8 (ys:YF):(ys.map V.str).all G8=true:=by
 rw[List.all_map,QaS];intro _ _;rfl
theorem JM (z:Str):∀ys:YF,inV (.str z) (ys.map V.str)=true ↔ z∈ys
 | []=>by constructor <;> intro h <;> cases h
 | y::r=>by
  have ih:=JM z r;unfold inV at ih ⊢;rw[Qbr,Qbv,Bool.or_eq_true,ih,Qbs];have:eqV (.str y) (.str z)=true ↔ z=y:=by
   show (y == z)=true ↔ z=y;rw[beq_iff_eq];exact⟨λh=>h.symm,λh=>h.symm⟩
  rw[this]
theorem NT:∀{l m:YF},l.Nodup->(∀x∈l,x∈m)->l.length<=m.length
 | [],_,_,_=>QbC _
 | a::r,m,nd,h=>by
  have ha:=h a (QaB ..);obtain⟨n1,n2⟩:=Qbh.mp nd;have:=NT (l:=r) (m:=m.erase a) n2 λx hx=>(List.mem_erase_of_ne (λe=>n1 (by rw[<-e];exact hx))).mpr (h x (Qas _ hx));rw[List.length_erase_of_mem ha] at this;have hp:=List.length_pos_of_mem ha;rw[QaQ];omega
theorem Rh (rest:Str) {ys:YF} (h:ys.length < 26):∃(i c:Nat),abc.cps[i]?=some c/\((⟨#[c]⟩ : Str)++rest)∉ys:=by
 refine Classical.byContradiction λhn=>?_;have hall:∀x∈abc.cps.toList.map (λc=>(⟨#[c]⟩ : Str)++rest),x∈ys:=λx hx=>by
  obtain⟨c,hc,rfl⟩:=QbA.mp hx;obtain⟨i,hi⟩:=List.getElem?_of_mem hc;refine Classical.byContradiction λhm=>hn ⟨i,c,by simpa using hi,hm⟩
 have nd:(abc.cps.toList.map (λc=>(⟨#[c]⟩ : Str)++rest)).Nodup:=by
  refine List.pairwise_map.mpr (ZQ.imp λ{c d} hne e=>hne ?_);have e1:(#[c]++rest.cps:Array Nat)=#[d]++rest.cps:=congrArg Str.cps e;have e2:=congrArg Array.toList e1;rw[Array.toList_append,Array.toList_append] at e2;injection e2
 have:=NT nd hall;rw[QaX,K3] at this;omega
theorem QbH {α : Type} {l:List α} {i:Nat} {x:α} (h:l[i]?=some x):l.take (i+1)=l.take i++[x]:=by rw[List.take_add_one,h];rfl
theorem Al.Xc {a b:Addr} {H HH H':Hp} (s:Al b H HH) (t:Al a HH H') (f:H a=none):Al b H H':=λc o e n=>t _ _ (s _ _ e n) λz=>by rw[z,f] at e;cases e
def PK:Sp:=λvs H Q _=>∃(b:Addr) (n:Nat),vs=[.ref b]/\Br H b n/\n<=9000/\∀z H',1<=z.length->z.length<=8->okS z->Br H' b (n+9)->Al b H H'->Q (.str z) H'
def Rw:Sp:=λvs H Q _=>∃(b:Addr) (n many:Nat),vs=[.ref b,.int many]/\Br H b n/\n<=8000/\many<=20 /\
 ∀l (ys:YF) H',H l=none->ys.length=many->(∀y∈ys,(1<=y.length/\y.length<=8)/\okS y)->ys.Nodup->H' l=some (.lst (ys.map V.str))->Br H' b (n+9*many)->Al b H H'->Q (.ref l) H'
section
variable {P:Program} {w:World} {K:YD} {mg:YB} {base:Heap}
abbrev je(a:PySem.Addr):Option L2.V:=some (.ref a)
abbrev xg:YF:=["_law_place","_law_letters","_law_bag_here"]
theorem X5 (C:Code K mg "_law_name" JD GZ) (T:Nm mg) (Bo:Good P w K mg base "_law_take" 1 Fg Ke):Good P w K mg base "_law_name" 2 GZ PK:=by
 refine C.good NP (λvs H Q E h=>?_) (λf cdv A outer s H vs Q E hr h=>?_)
 ·obtain⟨b,n,rfl,_⟩:=h;rfl
 obtain⟨b,n,rfl,hb,hn,q⟩:=h;refine⟨_,(Ad (Bl (i:=1) NP.nd rfl (Or.inr rfl) Aj)
 (Ag (Am (FW Qap PySem.F.slot_str_join PySem.F.type_str_join RM Aj (Aa (Fx (N':=xg) rfl (BX.of (src:=[none,some 1,some 0]) (Ao JD) xc rfl rfl rfl (by trivial) (by trivial) (by trivial) rfl (by trivial)) (Fd rfl T.range (Aa (Av Dg Ab (Aq Bo hr (Aa (pv 0) (Aa Ab Ac)))) Ac)) (λ_ _ _ _=>(Az (i:=0) (show List.Nodup (xg:YF) by trivial) rfl (Or.inl rfl))) (λ_ _ _ _=>Gu) (λ_ _ _ _=>(Aw Vj (pv 1) (Aq Bo hr (Aa (pv 2) (Aa Ab Ac))) (λ_ _=>rfl)))) Ac))))),?_⟩
 show let R0:TS:=_;Ak _ R0 _ _ _;intro R0;refine⟨rq,_,rq,b,n,8,rq,hb,by omega,by decide,by decide,λr H1 r0 r1 hb1 sb1=>⟨_,_,rq,rq,_,rq,by omega,by omega,λl hl=>?_⟩⟩;have nbl:b≠l:=hb1.nb hl;have fl:H l=none:=sb1.free hb1.ex hl;let J0:YN:=λi U HH=>∃(u:Option V) (ys:YF),U=[u,some (.str abc),je b]/\HH l=some (.lst (ys.map V.str))/\ys.length=i/\(∀y∈ys,y.length=1/\okS y)/\Br HH b (n+1+i)/\Al b H HH;refine TY J0
  ⟨none,[],rq,Ae,rq,(λy hy=>by cases hy),hb1.same (Af hl _),sb1.trans (Al.of (Af hl _))⟩ (λi U HH hi h=>?_) (fun U HH h=>?_)
 ·obtain⟨u,ys,rfl,e1,e2,e3,e4,e5⟩:=h;refine⟨_,rq,_,rq,b,_,26,rq,e4,by omega,by decide,by decide,λr' HA r0' r1' hbA sA=>?_⟩;obtain⟨c,ec,oc⟩:=ZR r0' r1';have eA:=sA _ _ e1 nbl.symm;refine⟨_,_,c,rq,rq,Ar (by show abc.cps.size<=1000;rw[<-Qay,K3];decide),ec,_,eA,BJ (by rw[QaX];omega),_,ys++[⟨#[c]⟩],rq,?_,?_,λy hy=>?_,hbA.Dr Al.upd nbl,?_⟩
  ·rw[Ae,QaY];rfl
  ·rw[Qaz,e2];rfl
  ·rcases Qbb.mp hy with h | h
   ·exact e3 y h
   ·have:y=⟨#[c]⟩:=by simpa using h
    rw[this];exact⟨rq,oc⟩
  ·exact λc o e ne=>Al.upd _ _ (sA _ _ (e5 _ _ e ne) ne) λz=>by rw[z,fl] at e;cases e
 obtain⟨u,ys,rfl,e1,e2,e3,e4,e5⟩:=h;have hs:=Pn λy hy=>(e3 y hy).1;refine⟨_,l,ys,rq,rq,SqL.of e1,?_,?_⟩
 ·rw[hs];have:(Str.ofString "").length=0:=by trivial
  rw[this];omega
 ·have hj:=Qs ys;rw[hs] at hj;refine q _ HH ?_ ?_ ?_ (e4.mono (by omega)) e5
  ·show 1<=(Builtin.Str.glued _ ys).length;rw[StrLaws.glued_eq_join];show 1<=(Str.join "" ys).length;omega
  ·show (Builtin.Str.glued _ ys).length<=8;rw[StrLaws.glued_eq_join];show (Str.join "" ys).length<=8;omega
  ·show okS (Builtin.Str.glued _ ys);rw[StrLaws.glued_eq_join];exact okS.join (λc hc=>by cases hc) λy hy=>(e3 y hy).2
abbrev xh:YF:=["_law_one","_law_name_here","_law_found"]
theorem Wi (C:Code K mg "_law_names" Jd Hh) (T:Nm mg) (Lp:Good P w K mg base "_law_name" 2 GZ PK):Good P w K mg base "_law_names" 3 Hh Rw:=by
 refine C.good Gs (λvs H Q E h=>?_) (λf cdv A outer s H vs Q E hr h=>?_)
 ·obtain⟨b,n,many,rfl,_⟩:=h;rfl
 obtain⟨b,n,many,rfl,hb,hn,hm,q⟩:=h;refine⟨_,(Ad (Bl (i:=2) Gs.nd rfl (Or.inr rfl) (Dl Ac))
 (Ad (Il Qbg rfl (Fd rfl T.range (Aa (pv 1) Ac)) (Az (i:=3) Gs.nd rfl (Or.inl rfl))
 (Ad (Bl (i:=4) Gs.nd rfl (Or.inr rfl) (Aq Lp hr (Aa (pv 0) Ac)))
 (Ad (Bh (Ay Kr (pv 4) (pv 2) (by with_unfolding_all rfl)) (Ag (Bl (i:=4) Gs.nd rfl (Or.inr rfl) (Aw Bm (Fx (N':=xh) rfl (BX.of (src:=[none,some 4,some 2]) (Ao Jd) xf rfl rfl rfl (by trivial) (by trivial) (by trivial) rfl (by trivial)) (Qa Aj) (λ_ _ _ _=>(Az (i:=0) (show List.Nodup (xh:YF) by trivial) rfl (Or.inl rfl))) (λ_ _ _ _=>(Za (Ay (Ol (K:=K) rfl) (Av Bg (pv 0) (Ce Ez (pv 1) (Cq Ab) Dw)) (pv 2) (by with_unfolding_all rfl)))) (λ_ _ _ _=>(Av Bg (pv 0) (Ce Ez (pv 1) (Cq Ab) Dw)))) Ab (λ_ _=>rfl)))) Ax)
 (Ag (KN (FW Qan Qai Qaj Gi (pv 2) (Aa (pv 4) Ac)))))))
 (Ag (Am (pv 2))))),?_⟩
 show let R0:TS:=_;let R1:TS:=_;let R2:TS:=Ak (Bu _ R1 _) R0;let R3:TS:=Ak _ R2;let R4:TS:=Ak (Kd _ _ R3) _;Ak _ R4 _ _ _;intro R0 R1 R2 R3 R4;refine⟨Ar (by show 0<=1000;decide),λlf hlf=>?_⟩;have s1:=Af hlf (.lst []);have nbf:b≠lf:=hb.nb hlf;refine⟨_,rq,_,rq,by omega,by omega,?_⟩;rw[QaP];let J1:YN:=λi U HH=>∃(u3 u4:Option V) (ys:YF),U=[je b,some (.int many),je lf,u3,u4]/\HH lf=some (.lst (ys.map V.str))/\ys.length=i/\(∀y∈ys,(1<=y.length/\y.length<=8)/\okS y)/\Br HH b (n+9*i)/\Al b H HH/\ys.Nodup;refine Gm J1
  ⟨_,_,[],rq,Ae,rq,(λy hy=>by cases hy),hb.same s1,Al.of s1,List.nodup_nil⟩ (λi U HH hi h=>?_) (fun U HH h=>?_)
 ·obtain⟨u3,u4,ys,rfl,e1,e2,e3,e4,e5,e6⟩:=h;refine⟨_,rq,b,_,rq,e4,by omega,λz HA hz1 hz oz hbA sA=>?_⟩;have eA:=sA _ _ e1 nbf.symm;have s5:Al b H HA:=e5.trans sA;have fin:∀(y:Str) (HB:Hp),(1<=y.length/\y.length<=8)->okS y->y∉ys->HB lf=some (.lst (ys.map V.str))->Br HB b (n+9*i+9)->Al b H HB->∃(u3 u4:Option V) (ys':YF),[some (V.ref b),some (.int many),je lf,some (.int (0+(i:Int))),some (.str y)]=[je b,some (.int many),je lf,u3,u4] /\
    upd HB lf (.lst (ys.map V.str++[.str y])) lf=some (.lst (ys'.map V.str))/\ys'.length=i+1/\(∀y∈ys',(1<=y.length/\y.length<=8)/\okS y)/\Br (upd HB lf (.lst (ys.map V.str++[.str y]))) b (n+9*(i+1))/\Al b H (upd HB lf (.lst (ys.map V.str++[.str y])))/\ys'.Nodup:=λy HB hy oy hny hB bB sB=>by
   refine⟨_,_,ys++[y],rq,?_,?_,λx hx=>?_,(bB.Dr Al.upd nbf).mono (by omega),Al.Xc sB Al.upd hlf,RL e6 hny⟩
   ·rw[Ae,QaY];rfl
   ·rw[Qaz,e2];rfl
   ·rcases Qbb.mp hx with h | h
    ·exact e3 x h
    ·have:x=y:=by simpa using h
     rw[this];exact⟨hy,oy⟩
  refine⟨_,rq,_,rq,lf,_,rq,.inl (SqL.of eA),rq,N8 ys,_,rq,Tr (λ_=>?_) (λhnz=>?_)⟩
  ·refine⟨_,rq,λl2 hl2=>?_⟩;have nfl:lf≠l2:=Cg eA hl2;have hsl:(Txt.slice z (some 1) none).length<=7:=Qby (Uz z) (by omega);have osl:=oz.slice (some 1) none;let J2:YN:=λi U HH=>∃(u:Option V) (ws:YF),U=[u,some (.str z),je lf]/\HH=upd HA l2 (.lst (ws.map V.str))/\ws.length<=i/\(∀y∈ws,((1<=y.length/\y.length<=8)/\okS y)/\y∉ys)/\((∃j c,j < i/\abc.cps[j]?=some c/\((⟨#[c]⟩ : Str)++Txt.slice z (some 1) none)∉ys)->ws≠[]);refine Lw J2
    ⟨none,[],rfl,rfl,QbB _,(λy hy=>by cases hy),λ⟨j,c,hj,_⟩=>absurd hj (Nat.not_lt_zero _)⟩ (λj c U HH hc h=>?_) (fun U HH h=>?_)
   ·obtain⟨u,ws,rfl,rfl,l1,l2',l3⟩:=h;have hj:j < 26:=by
     have:=(Qac.mp hc).1;rw[<-Qay] at this;have e:=K3;unfold abc at e;omega
    have oc:okS ⟨#[c]⟩:=λd hd=>by
     have:d=c:=by simpa using hd
     rw[this];exact VJ c (Array.mem_toList_iff.mpr (Array.mem_of_getElem? hc))
    have hlen:(⟨#[c]⟩ : Str).length+(Txt.slice z (some 1) none).length<=sizeLine:=by
     show 1+_<=sizeLine;rw[sizeLine_eq];omega
    have hzl:z.length<=sizeLine:=by rw[sizeLine_eq];omega
    have eB:upd HA l2 (.lst (ws.map V.str)) lf=some (.lst (ys.map V.str)):=by rw[Bv nfl];exact eA
    refine⟨_,rq,_,rq,_,rq,_,rq,hzl,_,_,rq,rq,hlen,_,rq,lf,_,rq,.inl (SqL.of eB),rq,N8 ys,_,rq,Tr (λt=>?_) (λt=>?_)⟩
    ·refine⟨_,rq,_,rq,_,rq,_,rq,hzl,_,_,rq,rq,hlen,_,Ae,BJ (by rw[QaX];omega),_,ws++[(⟨#[c]⟩ : Str)++Txt.slice z (some 1) none],rq,?_,?_,λy hy=>?_,λ_ e=>?_⟩
     ·rw[Xr,QaY];rfl
     ·rw[Qaz];show _+1<=_;omega
     ·rcases Qbb.mp hy with h | h
      ·exact l2' y h
      ·have e:y=(⟨#[c]⟩ : Str)++Txt.slice z (some 1) none:=by simpa using h
       rw[e];refine⟨⟨⟨by rw[QaI];show 1<=1+_;omega,by rw[QaI];show 1+_<=8;omega⟩,oc.append osl⟩,λhin=>?_⟩;have t:(!inV (.str ((⟨#[c]⟩ : Str)++Txt.slice z (some 1) none)) (ys.map V.str))=true:=t;rw[(JM _ ys).mpr hin] at t;cases t
     ·have:=congrArg List.length e;rw[Qaz] at this;simp at this
    ·refine⟨_,ws,rfl,rfl,by omega,l2',λ⟨j',c',hj',hc',hn'⟩=>?_⟩;by_cases ej:j'=j
     ·subst ej;have ec:c'=c:=by
       have e1:abc.cps[j']?=some c:=hc;rw[hc'] at e1;exact Qbc e1
      subst ec;exfalso;apply t;show (!inV (.str ((⟨#[c']⟩ : Str)++Txt.slice z (some 1) none)) (ys.map V.str))=true;cases e:inV (.str ((⟨#[c']⟩ : Str)++Txt.slice z (some 1) none)) (ys.map V.str) with
      | false=>rfl
      | true=>exact absurd ((JM _ ys).mp e) hn'
     ·exact l3 ⟨j',c',by omega,hc',hn'⟩
   ·obtain⟨u,ws,rfl,rfl,l1,l2',l3⟩:=h;obtain⟨j,c,hc,hnot⟩:=Rh (Txt.slice z (some 1) none) (ys:=ys) (by omega);have hws:=l3 ⟨j,c,(Qac.mp hc).1,hc,hnot⟩;cases ws with
    | nil=>exact absurd rfl hws
    | cons w0 wr=>
     obtain⟨⟨y1,y2⟩,y3⟩:=l2' w0 (QaB ..);have s2:=Af hl2 (.lst ((w0::wr).map V.str));have eB:=s2 _ _ eA;refine⟨l2,_,_,_,rq,rq,SqL.of Ae,Ai (xs:=(w0::wr).map V.str) (j:=0) rfl,?_⟩;refine⟨_,rq,.inl ⟨rq,_,SqL.of eB⟩,_,rq,lf,_,_,rq,rq,eB,BJ (by rw[QaX];omega),?_⟩;exact fin w0 _ y1 y2 y3 eB (hbA.same s2) (s5.trans (Al.of s2))
  ·refine⟨_,rq,.inl ⟨rq,_,SqL.of eA⟩,_,rq,lf,_,_,rq,rq,eA,BJ (by rw[QaX];omega),?_⟩;exact fin z HA ⟨hz1,hz⟩ oz (λhin=>hnz ((JM _ ys).mpr hin)) eA hbA s5
 ·obtain⟨u3,u4,ys,rfl,e1,e2,e3,e4,e5,e6⟩:=h;exact⟨_,rq,q lf ys HH hlf e2 e3 e6 e1 e4 e5⟩
end
abbrev JF:Stmt:=top 5
abbrev Gw:YF:=["thing"]
theorem Q0:Bc Gw Gw (Ao JF):=by ac_rfl
abbrev Jl:Stmt:=top 6
abbrev DR:YF:=["thing","low","high"]
theorem PX:Bc ["thing","low","high"] DR (Ao Jl):=by ac_rfl
abbrev Lh:Stmt:=top 7
abbrev Fi:YF:=["thing","least","most"]
theorem U0:Bc ["thing","least","most"] Fi (Ao Lh):=by ac_rfl
theorem Zu {i:Nat} {v:V} {U : St} {H:Hp} {Q:YO} (h:Q (U.set i (some v)) H):FJ i v U H Q:=h
def YW:Sp:=λvs H Q _=>∃v,vs=[v]/\Kn H v/\Q (.bl (isW v)) H
def S5 (o:Option (YG)) (a b:Int):Bool:=match o with
 | some xs=>decide (a<=xs.length)&&decide ((xs.length:Int)<=b)
 | none=>false
def Kf:Sp:=λvs H Q _=>∃v a b,vs=[v,.int a,.int b]/\Kn H v/\Q (.bl (S5 (Jz H v) a b)) H
theorem Ye {v:V} (h:isW v=true):∃i,v=.int i:=by
 cases v with
 | int i=>exact⟨i,rfl⟩
 | _=>cases h
def wiB (v:V) (lo hi:Int):Bool:=match v with
 | .int i=>decide (lo<=i)&&decide (i<=hi)
 | _=>false
def O5:Sp:=λvs H Q _=>∃v lo hi,vs=[v,.int lo,.int hi]/\Kn H v/\Q (.bl (wiB v lo hi)) H
theorem Xh {α β : Type} {F:α->β->Prop}:∀{l:List α} {m:List β} {i:Nat} {x:α},Paired F l m->l[i]?=some x->∃y,m[i]?=some y/\F x y
 | _,_,_,_,.nil,h=>by cases h
 | _,_,0,_,.cons a r,h=>by cases h;exact⟨_,rfl,a⟩
 | _,_,i+1,_,.cons a r,h=>Xh (i:=i) r h
theorem all_map {α : Type} (f:α->Bool) (l:List α):(l.map f).all id=l.all f:=by rw[List.all_map];rfl
mutual
def wide:PyData->Bool
 | .tuple ds=>decide (ds.length<=900)&&DY ds
 | .list ds=>decide (ds.length<=900)&&DY ds
 | .str z=>decide (z.length<=900)&&z.cps.toList.all λc=>decide (c < 128)
 | _=>true
def DY:List PyData->Bool
 | []=>true
 | x::r=>wide x&&DY r
end
structure Fit (n:Nat) (d:PyData):Prop where
 lay:d.canLay0=true
 dep:d.depth<=n
 wd:wide d=true
theorem Nf:∀{ds:List PyData},PyData.canLayAll0 ds=true->∀x∈ds,x.canLay0=true
 | [],_,_,h=>by cases h
 | a::r,h,x,hx=>by
  have h:(a.canLay0&&PyData.canLayAll0 r)=true:=h;rw[QaR] at h;rcases Qbs.mp hx with rfl | hx
  ·exact h.1
  ·exact Nf h.2 x hx
theorem Nq:∀{ds:List PyData} {n:Nat},PyData.depthAll ds<=n->∀x∈ds,x.depth<=n
 | [],_,_,_,h=>by cases h
 | a::r,n,h,x,hx=>by
  have h:max a.depth (PyData.depthAll r)<=n:=h;rcases Qbs.mp hx with rfl | hx
  ·omega
  ·exact Nq (by omega) x hx
theorem Ul:∀{ds:List PyData},DY ds=true->∀x∈ds,wide x=true
 | [],_,_,h=>by cases h
 | a::r,h,x,hx=>by
  have h:(wide a&&DY r)=true:=by simpa only [DY] using h
  rw[QaR] at h;rcases Qbs.mp hx with rfl | hx
  ·exact h.1
  ·exact Ul h.2 x hx
theorem Fit.len {n:Nat} {ds:List PyData} (h:Fit n (.tuple ds)):ds.length<=900:=by
 have h:(decide (ds.length<=900)&&DY ds)=true:=by simpa only [wide] using h.wd
 rw[QaR] at h;exact QaL h.1
theorem Fit.item {n:Nat} {ds:List PyData} (h:Fit (n+1) (.tuple ds)) {x:PyData} (hx:x∈ds):Fit n x:=by
 have h1:PyData.canLayAll0 ds=true:=h.lay;have h2:PyData.depthAll ds+1<=n+1:=h.dep;have h3:(decide (ds.length<=900)&&DY ds)=true:=by simpa only [wide] using h.wd
 rw[QaR] at h3;exact⟨Nf h1 x hx,Nq (by omega) x hx,Ul h3.2 x hx⟩
theorem Fit.mono {n m:Nat} {d:PyData} (h:Fit n d) (l:n<=m):Fit m d:=⟨h.lay,Qby h.dep l,h.wd⟩
theorem Fit.shaped {n:Nat} {d:PyData} (h:Fit n d) (l:n<=64):SeqAt.shaped d=true:=by
 show (d.canLay0&&decide (d.depth<=64))=true;rw[h.lay,Qbo (Qby h.dep l)];rfl
theorem Bb.pair {H:Hp}:∀{xs:YG} {ds:List PyData},Bb H xs ds->Paired (Rep H) xs ds
 | _,_,.nil=>.nil
 | _,_,.cons a r=>.cons a (Bb.pair r)
mutual
theorem Rep.same {H H':Hp} (s:Same H H'):∀{v:V} {d:PyData},Rep H v d->Rep H' v d
 | _,_,.non=>.non
 | _,_,.bl b=>.bl b
 | _,_,.int i=>.int i
 | _,_,.str x=>.str x
 | _,_,.tup e r=>.tup (s _ _ e) (Bb.same s r)
 | _,_,.lst e r=>.lst (s _ _ e) (Bb.same s r)
theorem Bb.same {H H':Hp} (s:Same H H'):∀{vs:YG} {ds:List PyData},Bb H vs ds->Bb H' vs ds
 | _,_,.nil=>.nil
 | _,_,.cons a r=>.cons (Rep.same s a) (Bb.same s r)
end
theorem Bb.len {H:Hp} {xs:YG} {ds:List PyData} (h:Bb H xs ds):xs.length=ds.length:=Paired.length (Bb.pair h)
theorem Bb.at_ {H:Hp} {xs:YG} {ds:List PyData} (h:Bb H xs ds) {i:Nat} {x:V} (hx:xs[i]?=some x):∃d,ds[i]?=some d/\Rep H x d:=Xh (Bb.pair h) hx
def wiP (d:PyData) (lo hi:Int):Bool:=match d with
 | .int i=>decide (lo<=i)&&decide (i<=hi)
 | _=>false
def Ea (d:PyData) (a b:Int):Bool:=match d with
 | .tuple ds=>decide (a<=ds.length)&&decide ((ds.length:Int)<=b)
 | _=>false
theorem Jo {H:Hp} {v:V} {d:PyData} (r:Rep H v d) (lo hi:Int):wiB v lo hi=wiP d lo hi:=by
 cases r <;> rfl
theorem Jt {H:Hp} {v:V} {d:PyData} (r:Rep H v d) (a b:Int):S5 (Jz H v) a b=Ea d a b:=by
 cases r with
 | tup e r=>
  rw[Lb e];show (decide (a<=_)&&decide (_<=b))=_;rw[Bb.len r];rfl
 | lst e r=>rw[Nz e];rfl
 | _=>rfl
theorem HN {H:Hp} {v:V} {d:PyData} (r:Rep H v d) {a b:Int} (h:Ea d a b=true):∃t xs ds,v=.ref t/\d=.tuple ds/\H t=some (.tup xs)/\Bb H xs ds/\a<=ds.length/\(ds.length:Int)<=b:=by
 cases r with
 | tup e r=>
  have h:(decide _&&decide _)=true:=h;rw[QaR] at h;exact⟨_,_,_,rq,rq,e,r,QaL h.1,QaL h.2⟩
 | _=>cases h
section
variable {P:Program} {w:World} {K:YD} {mg:YB} {base:Heap}
theorem Qg (c:Code K mg "is_whole" JF Gw) (T:Nm mg):Good P w K mg base "is_whole" 1 Gw YW:=by
 refine c.good Q0 (λvs H Q E h=>?_) (λf cdv A outer s H vs Q E hr h=>?_)
 ·obtain⟨v,rfl,_⟩:=h;rfl
 obtain⟨v,rfl,k,q⟩:=h;refine⟨_,(Ag (Am (Dm (Bd Eo rfl T.isinstance BZ (Aa (pv 0) (Aa (Fy (v:=.ty "int") rfl T.int Jx rfl) Ac))) (DP (Va (Bd Eo rfl T.isinstance BZ (Aa (pv 0) (Aa (Fy (v:=.ty "bool") rfl T.bool Sh rfl) Ac)))))))),?_⟩;refine⟨_,rq,RT k ⟨_,rq,?_⟩⟩;rw[Zo] at q;cases e:isI v with
 | false=>rw[e] at q;exact Bx q
 | true=>rw[e] at q;exact Bt ⟨_,rfl,Qu e ⟨_,rfl,q⟩⟩
theorem Vf (c:Code K mg "is_row" Lh Fi) (T:Nm mg):Good P w K mg base "is_row" 1 Fi Kf:=by
 refine c.good U0 (λvs H Q E h=>?_) (λf cdv A outer s H vs Q E hr h=>?_)
 ·obtain⟨v,a,b,rfl,_⟩:=h;rfl
 obtain⟨v,a,b,rfl,k,q⟩:=h;refine⟨_,(Ag (Am (Dm (Bd Eo rfl T.isinstance BZ (Aa (pv 0) (Aa (Fy (v:=.ty "tuple") rfl T.tuple JT rfl) Ac))) (DP (Lj Hy Hy (pv 1) (Bd BK rfl T.len DQ (Aa (pv 0) Ac)) (pv 2)))))),?_⟩;refine⟨_,rq,Je k ⟨_,rq,?_⟩⟩;cases e:Jz H v with
 | none=>rw[e] at q;exact Bx q
 | some xs=>
  rw[e] at q;obtain⟨p,rfl,hp⟩:=Wk e;refine Bt ⟨_,rq,_,rq,p,xs,rq,.inr (SqT.of hp),_,_,rq,rq,_,rq,?_⟩;by_cases h1:a<=(xs.length:Int)
  ·rw[Qbo h1];refine Bt ⟨_,rq,_,_,rq,rq,?_⟩;simpa [S5,h1] using q
  ·rw[QaZ h1];refine Bx ?_;simpa [S5,h1] using q
theorem Ou (c:Code K mg "is_within" Jl DR) (T:Nm mg) (Tz:Good P w K mg base "is_whole" 1 Gw YW):Good P w K mg base "is_within" 2 DR O5:=by
 refine c.good PX (λvs H Q E h=>?_) (λf cdv A outer s H vs Q E hr h=>?_)
 ·obtain⟨v,lo,hi,rfl,_⟩:=h;rfl
 obtain⟨v,lo,hi,rfl,k,q⟩:=h;refine⟨_,(Ag (Am (Dm (Aq Tz hr (Aa (pv 0) Ac)) (DP (Lj Hy Hy (pv 1) (pv 0) (pv 2)))))),?_⟩;refine⟨_,rq,v,rq,k,_,rq,?_⟩;cases ew:isW v with
 | false=>
  have:wiB v lo hi=false:=by cases v <;> first | rfl | cases ew
  rw[this] at q;exact Bx q
 | true=>
 obtain⟨x,rfl⟩:=Ye ew;have q:Q (.bl (decide (lo<=x)&&decide (x<=hi))) H:=q;refine Bt ⟨_,rq,_,rq,_,_,rq,rq,_,rq,?_⟩;by_cases h1:lo<=x
 ·rw[Qbo h1];rw[Qbo h1,Qbq] at q;exact Bt ⟨_,rq,_,_,rq,rq,q⟩
 ·rw[QaZ h1];rw[QaZ h1,Bool.false_and] at q;exact Bx q
end
abbrev Kl:Stmt:=top 8
abbrev Gh:YF:=Gw
theorem SX:Bc Gw Gh (Ao Kl):=by ac_rfl
abbrev JH:Stmt:=top 15
abbrev Gy:YF:=Gw
theorem Q6:Bc Gw Gy (Ao JH):=by ac_rfl
abbrev Km:Stmt:=top 16
abbrev Hj:YF:=Gw
theorem Mi:Bc ["thing","word"] Hj (Ao Km):=by ac_rfl
abbrev Ij:Stmt:=top 17
abbrev Fj:YF:=["condition"]
theorem Oj:Bc ["condition"] Fj (Ao Ij):=by ac_rfl
structure Tc (mg:YB):Prop extends Nm mg where
 SMALL_LETTERS:∃u,mg "SMALL_LETTERS"=some u/\RelV (.str abc) u
 MOST_DEEP:∃u,mg "MOST_DEEP"=some u/\RelV (.int 6) u
 MOST_CONDITIONS:∃u,mg "MOST_CONDITIONS"=some u/\RelV (.int 20) u
theorem Fit.item' {n:Nat} {ds:List PyData} (h:Fit n (.tuple ds)) {x:PyData} (hx:x∈ds):Fit n x:=by
 have hd:PyData.depthAll ds+1<=n:=h.dep;obtain⟨k,rfl⟩ : ∃k,n=k+1:=⟨n - 1,by omega⟩;exact (h.item hx).mono (Nat.le_succ _)
theorem Fit.bf {n:Nat} {z:Str} (h:Fit n (.str z)):z.length<=900:=by
 have h:(decide (z.length<=900)&&z.cps.toList.all λc=>decide (c < 128))=true:=by simpa only [wide] using h.wd
 rw[QaR] at h;exact QaL h.1
def isS:V->Bool
 | .str _=>true
 | _=>false
theorem Ln {K:YD} {H:Hp} {x:V} {Q:VK} (k:Kn H x) (q:Q (.bl (isS x)) H):Hu K [x,.ty "str"] H Q:=by
 unfold Hu;cases x with
 | non=>exact⟨_,_,_,_,rfl,.non,by rfl,q⟩
 | bl b=>exact⟨_,_,_,_,rfl,.bl b,by rfl,q⟩
 | int i=>exact⟨_,_,_,_,rfl,.int i,by rfl,q⟩
 | str z=>exact⟨_,_,_,_,rfl,.str z,by rfl,q⟩
 | ref a=>
  rcases k with⟨xs,e⟩|⟨xs,e⟩
  ·exact⟨_,_,_,_,rq,.lst e,by rfl,q⟩
  ·exact⟨_,_,_,_,rq,.tup e,by rfl,q⟩
 | _=>exact k.elim
def QT (c:Nat):Bool:=!(Builtin.Str.occurrences abc ⟨#[c]⟩ 0 abc.length 1).isEmpty
def nameP (d:PyData):Bool:=match d with
 | .str z=>(decide ((1:Int)<=z.length)&&decide ((z.length:Int)<=8))&&z.cps.toList.all QT
 | _=>false
theorem Xl {α : Type} {l:List α} (h:(2:Int)<=l.length) (h':(l.length:Int)<=2):∃a b,l=[a,b]:=by
 match l,h,h' with
 | [a,b],_,_=>exact⟨a,b,rfl⟩
 | [],h,_=>simp at h
 | [_],h,_=>simp at h
 | _::_::_::_,_,h=>simp at h;omega
theorem Tp {α : Type} {l:List α} (h:(3:Int)<=l.length) (h':(l.length:Int)<=3):∃a b c,l=[a,b,c]:=by
 match l,h,h' with
 | [a,b,c],_,_=>exact⟨a,b,c,rfl⟩
 | [],h,_=>simp at h
 | [_],h,_=>simp at h
 | [_,_],h,_=>simp at h
 | _::_::_::_::_,_,h=>simp at h;omega
theorem Xz {d:PyData} (h:Ea d 2 2=false):∀a b,d≠.tuple [a,b]:=λa b e=>by
 rw[e] at h;have h:(decide ((2:Int)<=2)&&decide ((2:Int)<=2))=false:=h;exact absurd h (by decide)
theorem RD {d:PyData} (h:Ea d 3 3=false):∀a b c,d≠.tuple [a,b,c]:=λa b c e=>by
 rw[e] at h;have h:(decide ((3:Int)<=3)&&decide ((3:Int)<=3))=false:=h;exact absurd h (by decide)
theorem Oa {K:YD} {a l:Addr} {xs:YG} {ds:List PyData} {fb:PyData->Bool} {te:TE} {Q:VK} {r:St} {H:Hp} (hl:H l=none) (ha:H a=some (.tup xs)) (rs:Bb H xs ds) (h9:ds.length<=900)
  (hs:∀(x:V) (d:PyData) (HH:Hp),d∈ds->Rep HH x d->Same H HH->∀R:VK,(∀H',Same HH H'->R (.bl (fb d)) H')->te (some x::r) HH R)
  (hq:∀H',H' l=some (.lst ((ds.map fb).map V.bl))->Same H H'->Q (.ref l) H'):FZ (Itt K a) (FJ 0) (λ_ H Q=>Q true H) te Q (none::r) (upd H l (.lst [])) l:=by
 have lx:=Bb.len rs;let J0:YN:=λi U HH=>∃u,U=u::r/\HH l=some (.lst (((ds.take i).map fb).map V.bl))/\Same H HH;refine QD (xs:=xs) J0 ⟨_,rq,Ae,Af hl _⟩ (λi U HH _ h=>?_) (λi x U HH hx h=>?_) (fun U HH h=>?_)
 ·obtain⟨u,rfl,_,s⟩:=h;exact SqT.of (s _ _ ha)
 ·obtain⟨u,rfl,e,s⟩:=h;obtain⟨d,hd,rd⟩:=Bb.at_ rs hx;have hi:=(Qae.mp hd).1;unfold FJ;dsimp only;refine Bt (hs x d HH (Qat hd) (Rep.same s rd) s _ λH' s'=>⟨_,s' _ _ e,BJ (by rw[QaX,QaX,QaT];omega),_,rq,?_,(s.trans s').Gq Al.upd hl⟩);rw[Ae,QbH hd,QaY,QaY];rfl
 ·obtain⟨u,rfl,e,s⟩:=h;rw[lx,QaU] at e;exact hq _ e s
def GP (fb:PyData->Bool):Sp:=λvs H Q _=>∃v d,vs=[v]/\Rep H v d/\Fit 64 d/\∀H',Same H H'->Q (.bl (fb d)) H'
theorem Qt {b:Bool} {A B:Prop} (h1:b=true->A) (h2:b=false->B):if b=true then A else B:=by
 cases b with
 | true=>exact Bt (h1 rfl)
 | false=>exact Bx (h2 rfl)
theorem ifN {a b:Int} {A B:Prop} (h1:a=b->A) (h2:a≠b->B):if decide (V.int a=V.int b)=true then A else B:=by
 by_cases h:a=b
 ·subst h;rw[Qbo rfl];exact Bt (h1 rfl)
 ·rw[QaZ (λz=>h (by injection z))];exact Bx (h2 h)
theorem ifS {a b:Str} {A B:Prop} (h1:a=b->A) (h2:a≠b->B):if decide (V.str a=V.str b)=true then A else B:=by
 by_cases h:a=b
 ·subst h;rw[Qbo rfl];exact Bt (h1 rfl)
 ·rw[QaZ (λz=>h (by injection z))];exact Bx (h2 h)
def eqS (d:PyData) (z:Str):Bool:=PyData.eqv d (.str z)
theorem Gn {d:PyData} {y:Str}:eqS d y=true ↔ d=.str y:=by
 cases d with
 | str z=>
  show (z == y)=true ↔ _;constructor
  ·intro h;rw[QbI h]
  ·intro h;cases h;exact beq_self_eq_true _
 | _=>exact⟨(λh=>by cases h),(λh=>by cases h)⟩
theorem ZC {d:PyData} {y:Str} (h:d≠.str y):eqS d y=false:=by
 cases e:eqS d y with
 | false=>rfl
 | true=>exact absurd (Gn.mp e) h
theorem DK {z y:Str} (h:z≠y):eqS (.str z) y=false:=ZC (λe=>h (by injection e))
theorem Dq (y:Str):eqS (.str y) y=true:=Gn.mpr rfl
def aoP (d:PyData):Bool:=[PyData.str "and",.str "or"].any λz=>PyData.eqv z d
theorem HS {d:PyData}:aoP d=true ↔ d=.str "and"\/d=.str "or":=by
 have key:∀(y:Str) (d:PyData),PyData.eqv (.str y) d=true ↔ d=.str y:=λy d=>by
  cases d with
  | str z=>
   show (y == z)=true ↔ _;constructor
   ·intro h;rw[QbI h]
   ·intro h;cases h;exact beq_self_eq_true _
  | _=>exact⟨(λh=>by cases h),(λh=>by cases h)⟩
 unfold aoP;simp only[Qbv,List.any_nil,Bool.or_false,Bool.or_eq_true,key]
def Eb (d:PyData):Bool:=match d with
 | .tuple [k,n]=>eqS k "key"&&wiP n 0 9
 | .tuple [k,a,b]=>eqS k "hours"&&(wiP a 0 23&&wiP b 0 23)
 | _=>false
def ofR (r:List PyData):Bool:=match r with
 | [n,z]=>wiP n 1 9&&nameP z
 | _=>false
def LR (r:List PyData):Bool:=match r with
 | [z]=>nameP z
 | _=>false
def Jc (r:List PyData):Bool:=match r with
 | [_,_,b]=>wiP b 1 20
 | _=>false
def CT (k:PyData) (r:List PyData):Bool:=
 if eqS k "of"=true then ofR r else if eqS k "term"=true then LR r else if eqS k "not"=true then decide (r.length=1)
 else if aoP k=true then decide (r.length=2) else if eqS k "then"=true then Jc r else Eb (.tuple (k::r))
def Cj (d:PyData):Bool:=match d with
 | .tuple (k::r)=>Ea d 2 4&&CT k r
 | _=>false
theorem U4 {k:PyData} {r:List PyData} (h:Ea (.tuple (k::r)) 2 4=true):1<=r.length/\r.length<=3:=by
 have h:(decide ((2:Int)<=((k::r).length:Nat))&&decide ((((k::r).length:Nat):Int)<=4))=true:=h;rw[QaR] at h;have h1:=QaL h.1;have h2:=QaL h.2;rw[QaQ] at h1 h2;omega
theorem U9 {k:PyData} {r:List PyData} (h:Eb (.tuple (k::r))=true):k=.str "key"\/k=.str "hours":=by
 unfold Eb at h;split at h
 ·rename_i k' n e;cases e;rw[QaR] at h;exact .inl (Gn.mp h.1)
 ·rename_i k' a b e;cases e;rw[QaR] at h;exact .inr (Gn.mp h.1)
 ·cases h
theorem WK {k:PyData} {r:List PyData} (h:CT k r=true):∃z,k=.str z:=by
 unfold CT at h;by_cases h1:eqS k "of"=true
 ·exact⟨_,Gn.mp h1⟩
 rw[if_neg h1] at h;by_cases h2:eqS k "term"=true
 ·exact⟨_,Gn.mp h2⟩
 rw[if_neg h2] at h;by_cases h3:eqS k "not"=true
 ·exact⟨_,Gn.mp h3⟩
 rw[if_neg h3] at h;by_cases h4:aoP k=true
 ·rcases HS.mp h4 with e | e <;> exact⟨_,e⟩
 rw[if_neg h4] at h;by_cases h5:eqS k "then"=true
 ·exact⟨_,Gn.mp h5⟩
 rw[if_neg h5] at h;rcases U9 h with e | e <;> exact⟨_,e⟩
theorem Ls {a b:Str} (h:eqV (.str a) (.str b)=true):a=b:=QbI h
def Nt (k:PyData):Bool:=match k with
 | .str z=>inV (.str z) [.str "and",.str "or",.str "then"]
 | _=>false
def Fo (d:PyData):List PyData:=match d with
 | .tuple (k::r)=>if eqS k "not"=true then r.take 1 else if Nt k=true then r.take 2 else []
 | _=>[]
def Xe:Sp:=λvs H Q _=>∃(v:V) (d:PyData) (G:Hp),vs=[v]/\Same G H/\Rep G v d/\Cj d=true/\∀t xs H',H' t=some (.tup xs)->Bb G xs (Fo d)->Same H H'->Q (.ref t) H'
theorem Vw {x:V} {r:YG} {n:Nat} (h:n<=r.length):FP (x::r) (some 1) (some ((n+1:Nat):Int))=r.take n:=by
 unfold FP;rw[show (some (1:Int))=some ((1:Nat):Int) from rfl,HT.Rz,HT.Rz,Nat.min_eq_left (by rw[QaQ];omega),Nat.min_eq_left (by rw[QaQ];omega)]
 rfl
theorem Bb.Sx {H:Hp}:∀{xs:YG} {ds:List PyData} (n:Nat),Bb H xs ds->Bb H (xs.take n) (ds.take n)
 | _,_,0,_=>.nil
 | _,_,_+1,.nil=>.nil
 | _,_,n+1,.cons a r=>.cons a (Bb.Sx n r)
section
variable {P:Program} {w:World} {K:YD} {mg:YB} {base:Heap}
theorem Te (C:Code K mg "is_name" Kl Gh) (T:Tc mg):Good P w K mg base "is_name" 1 Gh (GP nameP):=by
 refine C.good SX (λvs H Q E h=>?_) (λf cdv A outer s H vs Q E hr h=>?_)
 ·obtain⟨v,d,rfl,_⟩:=h;rfl
 obtain⟨v,d,rfl,rd,fit,q⟩:=h;refine⟨_,(Ad (Bh (Fb (Dk (Bd Eo rfl T.isinstance BZ (Aa (pv 0) (Aa (Fy (v:=.ty "str") rfl T.str GJ rfl) Ac))))) (Ag (Am Hx)) Ax)
 (Ag (Am (Dm (Lj Hy Hy Ab (Bd Ja rfl T.len DQ (Aa (pv 0) Ac)) Ab) (DP (Bd (JR rfl) rfl T.all Mx (Aa (Fx (N':=["sign"]) rfl (BX.plain rfl (by trivial) (by trivial) (by trivial)) (Qa (pv 0)) (λ_ _ _ _=>(Az (i:=0) (show List.Nodup (["sign"]:YF) by trivial) rfl (Or.inl rfl))) (λ_ _ _ _=>Gu) (λ_ _ _ _=>(CG NQ (pv 0) (Ip rfl T.SMALL_LETTERS) (by with_unfolding_all rfl)))) Ac))))))),?_⟩
 show let R0:TS:=_;Ak _ R0 _ _ _;intro R0;refine⟨_,rq,Ln rd.kn ⟨_,rq,?_⟩⟩;cases rd with
 | str z=>
  have q:∀H',Same H H'->Q (.bl ((decide ((1:Int)<=z.length)&&decide ((z.length:Int)<=8))&&z.cps.toList.all QT)) H':=q;have z9:z.length<=900:=fit.bf;refine Bx ⟨_,rq,z,rq,Ar (by show z.length<=1000;omega),_,_,rq,rq,_,rq,?_⟩;by_cases g1:(1:Int)<=(z.length:Int)
  ·rw[Qbo g1];rw[Qbo g1,Qbq] at q;refine Bt ⟨_,_,rq,rq,_,rq,?_⟩;by_cases g2:(z.length:Int)<=8
   ·rw[Qbo g2];rw[Qbo g2,Qbq] at q;refine Bt ⟨_,rq,z,rq,λl hl'=>?_⟩;let J1:YN:=λi U HH=>∃u,U=[u]/\HH l=some (.lst (((z.cps.toList.take i).map QT).map V.bl))/\Same H HH;refine Lw J1 ⟨_,rq,Ae,Af hl' _⟩ (λi c U HH hc h=>?_) (fun U HH h=>?_)
    ·obtain⟨u,rfl,e1,e2⟩:=h;have hi:i < z.cps.size:=(Qac.mp hc).1;have hz:z.cps.size<=900:=z9;have hcl:z.cps.toList[i]?=some c:=by rw[Qar];exact hc
     unfold FJ;dsimp only;refine Bt ⟨_,rq,_,_,rq,rq,_,e1,BJ (by simp;omega),_,rq,?_,e2.Gq Al.upd hl'⟩;rw[Ae,QbH hcl,QaY,QaY];rfl
    ·obtain⟨u,rfl,e1,e2⟩:=h;have el:z.cps.size=z.cps.toList.length:=Qay.symm;rw[el,QaU] at e1;refine⟨l,_,rq,SqL.of e1,?_⟩;rw[all_map];exact q _ e2
   ·rw[QaZ g2];rw[QaZ g2] at q;exact Bx (q _ (Same.refl _))
  ·rw[QaZ g1];rw[QaZ g1] at q;exact Bx ⟨_,rq,Bx (q _ (Same.refl _))⟩
 | _=>exact Bt (q _ (Same.refl _))
theorem Q9 (C:Code K mg "is_plain" JH Gy) (T:Tc mg) (Fq:Good P w K mg base "is_row" 1 Fi Kf) (Dj:Good P w K mg base "is_within" 2 DR O5):Good P w K mg base "is_plain" 3 Gy (GP Eb):=by
 refine C.good Q6 (λvs H Q E h=>?_) (λf cdv A outer s H vs Q E hr h=>?_)
 ·obtain⟨v,d,rfl,_⟩:=h;rfl
 obtain⟨v,d,rfl,rd,fit,q⟩:=h;refine⟨_,(Ad (Bh (Dk (Aq Fq hr (Aa (pv 0) (Aa Ab (Aa Ab Ac))))) (Ag (Am (Dm (CG (Ho hr.units) (Aw Bf (pv 0) Ab (λ_ _=>rfl)) Aj (Ba _)) (DP (Aq Dj hr (Aa (Aw Bf (pv 0) Ab (λ_ _=>rfl)) (Aa Ab (Aa Ab Ac)))))))) Ax)
 (Ad (Bh (Dk (Aq Fq hr (Aa (pv 0) (Aa Ab (Aa Ab Ac))))) (Ag (Am (Dm (CG (Ho hr.units) (Aw Bf (pv 0) Ab (λ_ _=>rfl)) Aj (Ba _)) (Dm (Aq Dj hr (Aa (Aw Bf (pv 0) Ab (λ_ _=>rfl)) (Aa Ab (Aa Ab Ac)))) (DP (Aq Dj hr (Aa (Aw Bf (pv 0) Ab (λ_ _=>rfl)) (Aa Ab (Aa Ab Ac))))))))) Ax)
 (Ag (Am Hx)))),?_⟩
 show let R0:TS:=_;let R1:TS:=Ak (Bu _ R0 _) _;let R2:TS:=_;Ak (Bu _ R2 _) R1 _ _ _;intro R0 R1 R2;have q0:=q _ (Same.refl _);have sS:∀z:Str,PyData.strOk z=true->SeqAt.shaped (.str z)=true:=λz hz=>by
  show (PyData.strOk z&&decide (0<=64))=true;rw[hz];rfl
 refine⟨_,rq,v,2,2,rq,rd.kn,_,rq,?_⟩;rw[Jt rd];cases e2:Ea d 2 2 with
 | true=>
  obtain⟨t,xs,ds,rfl,rfl,ht,rs,h1,h2⟩:=HN rd e2;obtain⟨k,n,rfl⟩:=Xl h1 h2;cases rs with
  | cons rk rs=>
  cases rs with
  | cons rn rs=>
  cases rs;have q0:Q (.bl (eqS k "key"&&wiP n 0 9)) H:=q0;refine Bt ⟨_,rq,t,_,_,_,rq,rq,SqT.of ht,Ai (j:=0) rfl,k,.str "key",rk,.str _,(fit.item' (QaB ..)).shaped (QbB _),sS _ (by trivial),_,rq,?_⟩;show if eqS k "key"=true then _ else _
  cases ek:eqS k "key" with
  | false=>rw[ek] at q0;exact Bx q0
  | true=>
   rw[ek,Qbq] at q0;refine Bt ⟨_,rq,t,_,_,_,rq,rq,SqT.of ht,Ai (j:=1) rfl,_,0,9,rq,rn.kn,?_⟩;rw[Jo rn];exact q0
 | false=>
 refine Bx ⟨_,rq,v,3,3,rq,rd.kn,_,rq,?_⟩;rw[Jt rd];cases e3:Ea d 3 3 with
 | true=>
  obtain⟨t,xs,ds,rfl,rfl,ht,rs,h1,h2⟩:=HN rd e3;obtain⟨k,a,b,rfl⟩:=Tp h1 h2;cases rs with
  | cons rk rs=>
  cases rs with
  | cons ra rs=>
  cases rs with
  | cons rb rs=>
  cases rs;have q0:Q (.bl (eqS k "hours"&&(wiP a 0 23&&wiP b 0 23))) H:=q0;refine Bt ⟨_,rq,t,_,_,_,rq,rq,SqT.of ht,Ai (j:=0) rfl,k,.str "hours",rk,.str _,(fit.item' (QaB ..)).shaped (QbB _),sS _ (by trivial),_,rq,?_⟩;show if eqS k "hours"=true then _ else _
  cases ek:eqS k "hours" with
  | false=>rw[ek] at q0;exact Bx q0
  | true=>
   rw[ek,Qbq] at q0;refine Bt ⟨_,rq,t,_,_,_,rq,rq,SqT.of ht,Ai (j:=1) rfl,_,0,23,rq,ra.kn,_,rq,?_⟩;rw[Jo ra];cases ea:wiP a 0 23 with
   | false=>rw[ea] at q0;exact Bx q0
   | true=>
    rw[ea,Qbq] at q0;refine Bt ⟨_,rq,t,_,_,_,rq,rq,SqT.of ht,Ai (j:=2) rfl,_,0,23,rq,rb.kn,?_⟩;rw[Jo rb];exact q0
 | false=>
  have:Eb d=false:=by
   unfold Eb;split
   ·exact absurd rfl (Xz e2 _ _)
   ·exact absurd rfl (RD e3 _ _ _)
   ·rfl
  rw[this] at q0;exact Bx q0
theorem Tf (C:Code K mg "is_form" Km Hj) (T:Tc mg) (Fq:Good P w K mg base "is_row" 1 Fi Kf) (Dj:Good P w K mg base "is_within" 2 DR O5) (Jf:Good P w K mg base "is_name" 1 Gh (GP nameP)) (TQ:Good P w K mg base "is_plain" 3 Gy (GP Eb)):Good P w K mg base "is_form" 4 Hj (GP Cj):=by
 refine C.good Mi (λvs H Q E h=>?_) (λf cdv A outer s H vs Q E hr h=>?_)
 ·obtain⟨v,d,rfl,_⟩:=h;rfl
 obtain⟨v,d,rfl,rd,fit,q⟩:=h;refine⟨_,(Ad (Bh (Fb (Dk (Aq Fq hr (Aa (pv 0) (Aa Ab (Aa Ab Ac)))))) (Ag (Am Hx)) Ax)
 (Ad (Bl (i:=1) Mi.nd rfl (Or.inl rfl) (Aw Bf (pv 0) Ab (λ_ _=>rfl)))
 (Ad (Bh (Ay (Ho hr.units) (pv 1) Aj (Ba _)) (Ag (Am (Dm (CG BR (Bd BK rfl T.len DQ (Aa (pv 0) Ac)) Ab (Ba _)) (Dm (Aq Dj hr (Aa (Aw Bf (pv 0) Ab (λ_ _=>rfl)) (Aa Ab (Aa Ab Ac)))) (DP (Aq Jf hr (Aa (Aw Bf (pv 0) Ab (λ_ _=>rfl)) Ac))))))) Ax)
 (Ad (Bh (Ay (Ho hr.units) (pv 1) Aj (Ba _)) (Ag (Am (Dm (CG BR (Bd BK rfl T.len DQ (Aa (pv 0) Ac)) Ab (Ba _)) (DP (Aq Jf hr (Aa (Aw Bf (pv 0) Ab (λ_ _=>rfl)) Ac)))))) Ax)
 (Ad (Bh (Ay (Ho hr.units) (pv 1) Aj (Ba _)) (Ag (Am (CG BR (Bd BK rfl T.len DQ (Aa (pv 0) Ac)) Ab (Ba _)))) Ax)
 (Ad (Bh (Ay (RG (K:=K) rfl hr.Um) (pv 1) (Bq (Aa Aj (Aa Aj Ac))) (by with_unfolding_all rfl)) (Ag (Am (CG BR (Bd BK rfl T.len DQ (Aa (pv 0) Ac)) Ab (Ba _)))) Ax)
 (Ad (Bh (Ay (Ho hr.units) (pv 1) Aj (Ba _)) (Ag (Am (Dm (CG BR (Bd BK rfl T.len DQ (Aa (pv 0) Ac)) Ab (Ba _)) (DP (Aq Dj hr (Aa (Aw Bf (pv 0) Ab (λ_ _=>rfl)) (Aa Ab (Aa Ab Ac)))))))) Ax)
 (Ag (Am (Aq TQ hr (Aa (pv 0) Ac))))))))))),?_⟩
 show let R0:TS:=_;let R1:TS:=_;let R2:TS:=Ak (Bu _ R1 _) R0;let R3:TS:=_;let R4:TS:=Ak (Bu _ R3 _) R2;let R5:TS:=_;let R6:TS:=Ak (Bu _ R5 _) R4;let R7:TS:=_;let R8:TS:=Ak (Bu _ R7 _) R6;let R9:TS:=_;let R10:TS:=Ak (Bu _ R9 _) R8;let R11:TS:=Ak _ R10;Ak _ R11 _ _ _;intro R0 R1 R2 R3 R4 R5 R6 R7 R8 R9 R10 R11;have sS:∀z:Str,PyData.strOk z=true->SeqAt.shaped (.str z)=true:=λz hz=>by
  show (PyData.strOk z&&decide (0<=64))=true;rw[hz];rfl
 refine⟨_,rq,v,2,4,rq,rd.kn,_,rq,?_⟩;rw[Jt rd];cases e0:Ea d 2 4 with
 | false=>
  have:Cj d=false:=by
   unfold Cj;split
   ·rw[e0];rfl
   ·rfl
  rw[this] at q;exact Bt (q _ (Same.refl _))
 | true=>
 obtain⟨t,xs,ds,rfl,rfl,ht,rs,h1,h2⟩:=HN rd e0;cases rs with
 | nil=>exact absurd h1 (by decide)
 | @cons x0 k xr r rk rs=>
 obtain⟨r1,r3⟩:=U4 e0;have lr:=Bb.len rs;have q:∀H',Same H H'->Q (.bl (CT k r)) H':=λH' s'=>by
  have:=q H' s';have e:Cj (.tuple (k::r))=CT k r:=by
   show (Ea (.tuple (k::r)) 2 4&&CT k r)=CT k r;rw[e0,Qbq]
  rw[e] at this;exact this
 have q0:=q _ (Same.refl _);have sk:SeqAt.shaped k=true:=(fit.item' (QaB ..)).shaped (QbB _);have fr:∀x∈r,Fit 64 x:=λx hx=>fit.item' (Qas _ hx);have len1:(((x0::xr).length:Nat):Int)=(r.length:Int)+1:=by rw[QaQ,lr];omega
 refine Bx ⟨_,rq,t,_,_,_,rq,rq,SqT.of ht,Ai (j:=0) rfl,?_⟩;refine⟨_,rq,k,.str "of",rk,.str _,sk,sS _ (by trivial),_,rq,?_⟩;show if eqS k "of"=true then _ else _
 unfold CT at q q0;cases e1:eqS k "of" with
 | true=>
  rw[e1,if_pos rfl] at q0;have q:∀H',Same H H'->Q (.bl (ofR r)) H':=λH' s'=>by have:=q H' s';rw[e1,if_pos rfl] at this;exact this
  refine Bt ⟨_,rq,t,_,rq,.inr (SqT.of ht),rq,_,rq,ifN (λhl=>?_) (λhl=>?_)⟩
  ·rw[len1] at hl;obtain⟨n,z,rfl⟩:=Xl (l:=r) (by omega) (by omega);cases rs with
   | cons rn rs=>
   cases rs with
   | cons rz rs=>
   cases rs;have q:∀H',Same H H'->Q (.bl (wiP n 1 9&&nameP z)) H':=q;refine⟨_,rq,t,_,_,_,rq,rq,SqT.of ht,Ai (j:=1) rfl,_,1,9,rq,rn.kn,_,rq,?_⟩;rw[Jo rn];cases ew:wiP n 1 9 with
   | false=>rw[ew] at q;exact Bx (q _ (Same.refl _))
   | true=>
    rw[ew,Qbq] at q;exact Bt ⟨_,rq,t,_,_,_,rq,rq,SqT.of ht,Ai (j:=2) rfl,_,z,rq,rz,fr z (by simp),q⟩
  ·rw[len1] at hl;have:ofR r=false:=by
    unfold ofR;split
    ·exact absurd rfl hl
    ·rfl
   rw[this] at q0;exact q0
 | false=>
 rw[e1,if_neg (by decide)] at q0;have q:∀H',Same H H'->Q (.bl (if eqS k "term"=true then LR r else if eqS k "not"=true then decide (r.length=1) else if aoP k=true then decide (r.length=2) else if eqS k "then"=true then Jc r else Eb (.tuple (k::r)))) H':=λH' s'=>by have:=q H' s';rw[e1,if_neg (by decide)] at this;exact this
 refine Bx ⟨_,rq,k,.str "term",rk,.str _,sk,sS _ (by trivial),_,rq,?_⟩;show if eqS k "term"=true then _ else _
 cases e2:eqS k "term" with
 | true=>
  rw[e2,if_pos rfl] at q0;have q:∀H',Same H H'->Q (.bl (LR r)) H':=λH' s'=>by have:=q H' s';rw[e2,if_pos rfl] at this;exact this
  refine Bt ⟨_,rq,t,_,rq,.inr (SqT.of ht),rq,_,rq,ifN (λhl=>?_) (λhl=>?_)⟩
  ·rw[len1] at hl;obtain⟨z,rfl⟩ : ∃z,r=[z]:=by
    match r,hl with
    | [z],_=>exact⟨z,rfl⟩
    | [],h=>simp at h
    | _::_::_,h=>simp at h;omega
   cases rs with
   | cons rz rs=>
   cases rs;exact⟨_,rq,t,_,_,_,rq,rq,SqT.of ht,Ai (j:=1) rfl,_,z,rq,rz,fr z (by simp),q⟩
  ·rw[len1] at hl;have:LR r=false:=by
    unfold LR;split
    ·exact absurd rfl hl
    ·rfl
   rw[this] at q0;exact q0
 | false=>
 rw[e2,if_neg (by decide)] at q0;have q:∀H',Same H H'->Q (.bl (if eqS k "not"=true then decide (r.length=1) else if aoP k=true then decide (r.length=2) else if eqS k "then"=true then Jc r else Eb (.tuple (k::r)))) H':=λH' s'=>by have:=q H' s';rw[e2,if_neg (by decide)] at this;exact this
 have dl:∀n:Nat,decide (V.int (((x0::xr).length:Nat):Int)=V.int ((n+1:Nat):Int))=decide (r.length=n):=λn=>by
  rw[Qbj,QaF,QaF];constructor
  ·intro z;injection z with z;rw[len1] at z;omega
  ·intro z;rw[len1,z];congr 1
 refine Bx ⟨_,rq,k,.str "not",rk,.str _,sk,sS _ (by trivial),_,rq,?_⟩;show if eqS k "not"=true then _ else _
 cases e3:eqS k "not" with
 | true=>
  rw[e3,if_pos rfl] at q0;refine Bt ⟨_,rq,t,_,rq,.inr (SqT.of ht),rq,?_⟩;show Q (.bl (decide (V.int (((x0::xr).length:Nat):Int)=V.int ((1+1:Nat):Int)))) H;rw[dl];exact q0
 | false=>
 rw[e3,if_neg (by decide)] at q0;have q:∀H',Same H H'->Q (.bl (if aoP k=true then decide (r.length=2) else if eqS k "then"=true then Jc r else Eb (.tuple (k::r)))) H':=λH' s'=>by have:=q H' s';rw[e3,if_neg (by decide)] at this;exact this
 refine Bx ⟨_,rq,Ar (by show 2<=1000;decide),λp hp=>?_⟩;have sp:=Af hp (.tup [.str "and",.str "or"]);have cp:upd H p (.tup [.str "and",.str "or"]) p=some (.tup [.str "and",.str "or"]):=Ae;generalize upd H p (.tup [.str "and",.str "or"])=H1 at *;have ht1:=sp _ _ ht;have q1:∀H',Same H1 H'->Q (.bl (if aoP k=true then decide (r.length=2) else if eqS k "then"=true then Jc r else Eb (.tuple (k::r)))) H':=λH' s'=>q H' (sp.trans s')
 have q0:=q1 _ (Same.refl _);refine⟨p,_,k,[.str "and",.str "or"],rq,SqT.of cp,.cons (.str _) (.cons (.str _) .nil),Rep.same sp rk,sk,by trivial,_,rq,?_⟩;show if aoP k=true then _ else _
 cases e4:aoP k with
 | true=>
  rw[e4,if_pos rfl] at q0;refine Bt ⟨_,rq,t,_,rq,.inr (SqT.of ht1),rq,?_⟩;show Q (.bl (decide (V.int (((x0::xr).length:Nat):Int)=V.int ((2+1:Nat):Int)))) H1;rw[dl];exact q0
 | false=>
 rw[e4,if_neg (by decide)] at q0;have q1:∀H',Same H1 H'->Q (.bl (if eqS k "then"=true then Jc r else Eb (.tuple (k::r)))) H':=λH' s'=>by have:=q1 H' s';rw[e4,if_neg (by decide)] at this;exact this
 refine Bx ⟨_,rq,k,.str "then",Rep.same sp rk,.str _,sk,sS _ (by trivial),_,rq,?_⟩;show if eqS k "then"=true then _ else _
 cases e5:eqS k "then" with
 | true=>
  rw[e5,if_pos rfl] at q0;refine Bt ⟨_,rq,t,_,rq,.inr (SqT.of ht1),rq,_,rq,ifN (λhl=>?_) (λhl=>?_)⟩
  ·rw[len1] at hl;obtain⟨a,b,c,rfl⟩:=Tp (l:=r) (by omega) (by omega);cases rs with
   | cons ra rs=>
   cases rs with
   | cons rb rs=>
   cases rs with
   | cons rc rs=>
   cases rs;have q0:Q (.bl (wiP c 1 20)) H1:=q0;refine⟨_,rq,t,_,_,_,rq,rq,SqT.of ht1,Ai (j:=3) rfl,_,1,20,rq,(Rep.same sp rc).kn,?_⟩;rw[Jo (Rep.same sp rc)];exact q0
  ·rw[len1] at hl;have:Jc r=false:=by
    unfold Jc;split
    ·exact absurd rfl hl
    ·rfl
   rw[this] at q0;exact q0
 | false=>
 have q1:∀H',Same H1 H'->Q (.bl (Eb (.tuple (k::r)))) H':=λH' s'=>by have:=q1 H' s';rw[e5,if_neg (by decide)] at this;exact this
 exact Bx ⟨_,rq,_,_,rq,Rep.same sp rd,fit,q1⟩
theorem Ov (C:Code K mg "inner_ones" Ij Fj) (T:Tc mg):Good P w K mg base "inner_ones" 1 Fj Xe:=by
 refine C.good Oj (λvs H Q E h=>?_) (λf cdv A outer s H vs Q E hr h=>?_)
 ·obtain⟨v,d,G,rfl,_⟩:=h;rfl
 obtain⟨v,d,G,rfl,sG,rd,hf,q⟩:=h;refine⟨_,(Ad (Bh (Ay BR (Aw Bf (pv 0) Ab (λ_ _=>rfl)) Aj (Ba _)) (Ag (Am (Ce Rx (pv 0) (Cq Ab) (Cq Ab)))) Ax)
 (Ad (Bh (Ay Kr (Aw Bf (pv 0) Ab (λ_ _=>rfl)) (Bq (Aa Aj (Aa Aj (Aa Aj Ac)))) (by with_unfolding_all rfl)) (Ag (Am (Ce Rx (pv 0) (Cq Ab) (Cq Ab)))) Ax)
 (Ag (Am (Bq Ac))))),?_⟩
 show let R0:TS:=_;let R1:TS:=Ak (Bu _ R0 _) _;let R2:TS:=_;Ak (Bu _ R2 _) R1 _ _ _;intro R0 R1 R2;have e0:Ea d 2 4=true:=by
  unfold Cj at hf;split at hf
  ·rw[QaR] at hf;exact hf.1
  ·cases hf
 obtain⟨t,xs,ds,rfl,rfl,htG,rs,h1,h2⟩:=HN rd e0;have ht:=sG _ _ htG;cases rs with
 | nil=>exact absurd h1 (by decide)
 | @cons x0 k xr r rk rs=>
 obtain⟨r1,r3⟩:=U4 e0;have lr:=Bb.len rs;have hf:(Ea (.tuple (k::r)) 2 4&&CT k r)=true:=hf;rw[QaR] at hf;obtain⟨z,rfl⟩:=WK hf.2;cases rk;have q:∀t xs H',H' t=some (.tup xs)->Bb G xs (if eqS (.str z) "not"=true then r.take 1 else if Nt (.str z)=true then r.take 2 else [])->Same H H'->Q (.ref t) H':=q
 refine⟨_,rq,t,_,_,_,rq,rq,SqT.of ht,Ai (j:=0) rfl,rq,_,rq,ifS (λe=>?_) (λe=>?_)⟩
 ·rw[e,Dq,if_pos rfl] at q;refine⟨_,rq,_,rq,_,rq,t,_,rq,ht,λp H1 hp s1=>?_⟩;have ec:FP (V.str z::xr) (some 1) (some 2)=xr.take 1:=Vw (n:=1) (by omega);rw[ec] at hp;exact q p _ H1 hp (Bb.Sx 1 rs) s1
 ·rw[DK e,if_neg (by decide)] at q;refine⟨_,rq,t,_,_,_,rq,rq,SqT.of ht,Ai (j:=0) rfl,Ar (by show 3<=1000;decide),λp hp=>?_⟩;have sp:=Af hp (.tup [.str "and",.str "or",.str "then"]);have cp:upd H p (.tup [.str "and",.str "or",.str "then"]) p=some (.tup [.str "and",.str "or",.str "then"]):=Ae;generalize upd H p (.tup [.str "and",.str "or",.str "then"])=H1 at *;have ht1:=sp _ _ ht;refine⟨p,_,rq,.inr (SqT.of cp),rq,rq,_,rq,?_⟩;show if Nt (.str z)=true then _ else _
  cases ea:Nt (.str z) with
  | true=>
   rw[ea,if_pos rfl] at q;refine Bt ⟨_,rq,_,rq,_,rq,t,_,rq,ht1,λp2 H2 hp2 s2=>?_⟩;by_cases h2:2<=xr.length
   ·have ec:FP (V.str z::xr) (some 1) (some 3)=xr.take 2:=Vw (n:=2) h2;rw[ec] at hp2;exact q p2 _ H2 hp2 (Bb.Sx 2 rs) (sp.trans s2)
   ·exfalso;have hz:z="and"\/z="or"\/z="then":=by
     have ea:inV (.str z) [.str "and",.str "or",.str "then"]=true:=ea;simp only[inV,Qbv,List.any_nil,Bool.or_false,Bool.or_eq_true] at ea;rcases ea with h | h | h
     ·exact .inl (Ls h).symm
     ·exact .inr (.inl (Ls h).symm)
     ·exact .inr (.inr (Ls h).symm)
    have hr1:r.length=1:=by omega
    have hff:=hf.2;unfold CT at hff;rcases hz with rfl | rfl | rfl
    ·rw[if_neg (by rw[DK (by trivial)];decide),if_neg (by rw[DK (by trivial)];decide),if_neg (by rw[DK (by trivial)];decide),if_pos (HS.mpr (.inl rfl)),hr1] at hff;exact absurd hff (by decide)
    ·rw[if_neg (by rw[DK (by trivial)];decide),if_neg (by rw[DK (by trivial)];decide),if_neg (by rw[DK (by trivial)];decide),if_pos (HS.mpr (.inr rfl)),hr1] at hff;exact absurd hff (by decide)
    ·rw[if_neg (by rw[DK (by trivial)];decide),if_neg (by rw[DK (by trivial)];decide),if_neg (by rw[DK (by trivial)];decide),if_neg (λh=>by rcases HS.mp h with h | h <;> exact absurd (by injection h) (show ¬(("then":Str)=_) by trivial)),if_pos (Dq _)] at hff
     match r,hr1,hff with
     | [_],_,hff=>cases hff
  | false=>
   rw[ea,if_neg (by decide)] at q;refine Bx ⟨Ar (by show 0<=1000;decide),λp2 hp2=>?_⟩;exact q p2 [] _ Ae .nil (sp.trans (Af hp2 _))
end
abbrev GR:Stmt:=top 18
abbrev Ef:YF:=Gw
theorem CQ:Bc ["thing","level","many","deep"] Ef (Ao GR):=by ac_rfl
abbrev Kh:Stmt:=top 19
abbrev Hi:YF:=Gw
theorem SQ:Bc Gw Hi (Ao Kh):=by ac_rfl
abbrev JG:Stmt:=top 20
abbrev Gx:YF:=Gw
theorem Q5:Bc Gw Gx (Ao JG):=by ac_rfl
theorem T3 {K:YD} {a l:Addr} {xs:YG} {ds:List PyData} {fb:PyData->Bool} {te:TE} {Q:VK} {r:St} {H:Hp} (hl:H l=none) (ha:H a=some (.lst xs)) (rs:Bb H xs ds) (h9:ds.length<=900)
  (hs:∀(x:V) (d:PyData) (HH:Hp),d∈ds->Rep HH x d->Same H HH->∀R:VK,(∀H',Same HH H'->R (.bl (fb d)) H')->te (some x::r) HH R)
  (hq:∀H',H' l=some (.lst ((ds.map fb).map V.bl))->Same H H'->Q (.ref l) H'):FZ (Itl K a) (FJ 0) (λ_ H Q=>Q true H) te Q (none::r) (upd H l (.lst [])) l:=by
 have lx:=Bb.len rs;let J0:YN:=λi U HH=>∃u,U=u::r/\HH l=some (.lst (((ds.take i).map fb).map V.bl))/\Same H HH;refine Kw (xs:=xs) J0 ⟨_,rq,Ae,Af hl _⟩ (λi U HH _ h=>?_) (λi x U HH hx h=>?_) (fun U HH h=>?_)
 ·obtain⟨u,rfl,_,s⟩:=h;exact SqL.of (s _ _ ha)
 ·obtain⟨u,rfl,e,s⟩:=h;obtain⟨d,hd,rd⟩:=Bb.at_ rs hx;have hi:=(Qae.mp hd).1;unfold FJ;dsimp only;refine Bt (hs x d HH (Qat hd) (Rep.same s rd) s _ λH' s'=>⟨_,s' _ _ e,BJ (by rw[QaX,QaX,QaT];omega),_,rq,?_,(s.trans s').Gq Al.upd hl⟩);rw[Ae,QbH hd,QaY,QaY];rfl
 ·obtain⟨u,rfl,e,s⟩:=h;rw[lx,QaU] at e;exact hq _ e s
def bfs:Nat->List PyData->Nat->Option (List PyData×Nat)
 | 0,l,m=>some (l,m)
 | n+1,l,m=>if l.all Cj=true then bfs n (l.flatMap Fo) (m+l.length) else none
def GF (d:PyData):Bool:=match bfs 6 [d] 0 with
 | none=>false
 | some (l,m)=>l.isEmpty&&decide (m<=20)
theorem Yh {d x:PyData} (h:x∈Fo d):∃ds,d=.tuple ds/\x∈ds:=by
 unfold Fo at h;split at h
 ·rename_i k r;refine⟨_,rq,Qas _ ?_⟩;split at h
  ·exact List.mem_of_mem_take h
  ·split at h
   ·exact List.mem_of_mem_take h
   ·cases h
 ·cases h
theorem RV (d:PyData):(Fo d).length<=2:=by
 unfold Fo;split
 ·split
  ·rw[QaT];omega
  ·split
   ·rw[QaT];omega
   ·exact QbC _
 ·exact QbC _
theorem Lq:∀l:List PyData,(l.flatMap Fo).length<=2*l.length
 | []=>QbB _
 | x::r=>by
  have:=Lq r;have:=RV x;rw[List.flatMap_cons,Qaz,QaQ];omega
def Ek (d:PyData):Bool:=match d with
 | .tuple [k,c,x]=>GF x&&(if eqS k "term"=true then nameP c else eqS k "sound"&&wiP c 1 99)
 | _=>false
def Jr (d:PyData):Bool:=match d with
 | .tuple ds=>Ea (.tuple ds) 1 16&&ds.all Ek
 | _=>false
theorem Bb.app {H:Hp}:∀{xs ys:YG} {ds es:List PyData},Bb H xs ds->Bb H ys es->Bb H (xs++ys) (ds++es)
 | _,_,_,_,.nil,t=>t
 | _,_,_,_,.cons a r,t=>.cons a (Bb.app r t)
section
variable {P:Program} {w:World} {K:YD} {mg:YB} {base:Heap}
abbrev xb:YF:=["part","inner"]
theorem Mp (C:Code K mg "is_condition" GR Ef) (T:Tc mg) (Vs:Good P w K mg base "is_form" 4 Hj (GP Cj)) (Qx:Good P w K mg base "inner_ones" 1 Fj Xe):Good P w K mg base "is_condition" 5 Ef (GP GF):=by
 refine C.good CQ (λvs H Q E h=>?_) (λf cdv A outer s H vs Q E hr h=>?_)
 ·obtain⟨v,d,rfl,_⟩:=h;rfl
 obtain⟨v,d,rfl,rd,fit,q⟩:=h;refine⟨_,(Ad (Bl (i:=1) CQ.nd rfl (Or.inl rfl) (Dl (Aa (pv 0) Ac)))
 (Ad (Bl (i:=2) CQ.nd rfl (Or.inl rfl) Ab)
 (Ad (Il Qbg rfl (Fd rfl T.range (Aa (Ip rfl T.MOST_DEEP) Ac)) (Az (i:=3) CQ.nd rfl (Or.inl rfl))
 (Ad (Bh (Fb (Dk (Bd (JR rfl) rfl T.all Mx (Aa (Fx (N':=["part"]) rfl (BX.plain rfl (by trivial) (by trivial) (by trivial)) (KR (pv 1)) (λ_ _ _ _=>(Az (i:=0) (show List.Nodup (["part"]:YF) by trivial) rfl (Or.inl rfl))) (λ_ _ _ _=>Gu) (λ_ _ _ _=>(Aq Vs hr (Aa (pv 0) Ac)))) Ac)))) (Ag (Am Hx)) Ax)
 (Ad (U7 (i:=2) CQ.nd rfl (Or.inl rfl) (Bd BK rfl T.len DQ (Aa (pv 1) Ac)) Vm)
 (Ag (Wd (i:=1) CQ.nd rfl (Or.inl rfl) (N':=xb) rfl (BX.plain rfl (by trivial) (by trivial) (by trivial)) (KR (pv 1)) (λ_ _ _ _=>(Az (i:=0) (show List.Nodup (xb:YF) by trivial) rfl (Or.inl rfl))) (λ_ _ _ _=>(XF (K:=K) rfl (Aq Qx hr (Aa (pv 0) Ac)))) (λ_ _ _ _=>(Az (i:=1) (show List.Nodup (xb:YF) by trivial) rfl (Or.inl rfl))) (λ_ _ _ _=>(pv 1)))))))
 (Ag (Am (Dm (XJ (pv 1)) (DP (CG Hy (pv 2) (Ip rfl T.MOST_CONDITIONS) (Ba _))))))))),?_⟩
 show let R0:TS:=_;let R1:TS:=_;let R2:TS:=Ak _ R1;let R3:TS:=Ak _ R2;let R4:TS:=Ak (Kd _ _ R3) R0;let R5:TS:=Ak _ R4;Ak _ R5 _ _ _;intro R0 R1 R2 R3 R4 R5;refine⟨_,rq,Ar (by show 1<=1000;decide),λlv hlv=>?_⟩;have sl:=Af hlv (.lst [v]);have cl:upd H lv (.lst [v]) lv=some (.lst [v]):=Ae;generalize upd H lv (.lst [v])=H1 at *;refine⟨_,rq,by decide,by decide,?_⟩;let J1:YN:=λi U HH=>∃(l:Addr) (xs:YG) (ds:List PyData) (m:Nat) (u:Option V),U=[some v,je l,some (.int (m:Int)),u]/\HH l=some (.lst xs)/\Bb HH xs ds/\bfs 6 [d] 0=bfs (6 - i) ds m/\ds.length<=2 ^ i/\(∀x∈ds,Fit 64 x)/\Same H HH;refine Gm (n:=6) J1
  ⟨lv,[v],[d],0,none,rq,cl,.cons (Rep.same sl rd) .nil,rq,QbB _,(λx hx=>by rw[QaE.mp hx];exact fit),sl⟩ (λi U HH hi h=>?_) (fun U HH h=>?_)
 ·obtain⟨l,xs,ds,m,u,rfl,e1,e2,e3,e4,e5,e6⟩:=h;have p6:2 ^ i<=32:=by
   have:i<=5:=by omega
   exact Qby (Nat.pow_le_pow_right (by decide) this) (by decide)
  obtain⟨n,hn⟩ : ∃n,6 - i=n+1:=⟨5 - i,by omega⟩;have hn':6 - (i+1)=n:=by omega
  rw[hn] at e3;have e3':bfs 6 [d] 0=if ds.all Cj=true then bfs n (ds.flatMap Fo) (m+ds.length) else none:=e3
  have lx:=Bb.len e2;refine⟨_,rq,l,rq,⟨_,SqL.of e1⟩,λlc hlc=>?_⟩;refine T3 (fb:=Cj) hlc e1 e2 (by omega) (λx dx HX hdx rx sx R hR=>⟨_,rq,x,dx,rq,rx,e5 dx hdx,hR⟩) (λH2 hc s2=>?_);refine⟨lc,_,rq,SqL.of hc,?_⟩;rw[all_map];refine⟨_,rq,?_⟩;cases ea:ds.all Cj with
  | false=>
   rw[ea,if_neg (by decide)] at e3';have:GF d=false:=by unfold GF;rw[e3']
   rw[this] at q;exact Bt (q _ (e6.trans s2))
  | true=>
  rw[ea,if_pos rfl] at e3';have e12:=s2 _ _ e1;refine Bx ⟨_,rq,_,rq,l,_,rq,.inl (SqL.of e12),_,_,rq,rq,?_⟩;refine⟨_,rq,l,rq,⟨_,SqL.of e12⟩,λln hln=>?_⟩;have sn:=Af hln (.lst []);refine T5 (xs:=xs) (λj U HX=>∃(u1 u2:Option V) (ys:YG),U=[u1,u2]/\HX ln=some (.lst ys)/\Bb H2 ys ((ds.take j).flatMap Fo)/\Same H2 HX) ⟨_,_,[],rq,Ae,.nil,sn⟩ (λj U HX _ h=>?_) (λj x U HX hx h=>?_) (fun U HX h=>?_)
  ·obtain⟨u1,u2,ys,rfl,f1,f2,f3⟩:=h;exact SqL.of (f3 _ _ e12)
  ·obtain⟨u1,u2,ys,rfl,f1,f2,f3⟩:=h;obtain⟨dx,hdx,rx⟩:=Bb.at_ e2 hx;have mdx:=Qat hdx;have hj:=(Qae.mp hdx).1;have yl:=Bb.len f2;have yl2:((ds.take j).flatMap Fo).length<=2*(ds.take j).length:=Lq _;have yl3:(ds.take j).length<=32:=by rw[QaT];omega
   unfold FJ;dsimp only;refine⟨_,rq,x,dx,H2,rq,f3,Rep.same s2 rx,QaS.mp ea dx mdx,λt ts HY ht rt sY=>⟨t,rq,⟨_,SqT.of ht⟩,?_⟩⟩;have il:=RV dx;have tl:=Bb.len rt;refine Ym (xs:=ts) (λk U HZ=>∃(u2:Option V),U=[some x,u2]/\HZ ln=some (.lst (ys++ts.take k))/\Same H2 HZ/\HZ t=some (.tup ts)) ⟨_,rq,?_,f3.trans sY,ht⟩ (λk U HZ _ h=>?_) (λk y U HZ hy h=>?_) (fun U HZ h=>?_)
   ·rw[List.take_zero,Qbk];exact sY _ _ f1
   ·obtain⟨u2,rfl,g1,g4,g5⟩:=h;exact SqT.of g5
   ·obtain⟨u2,rfl,g1,g4,g5⟩:=h;have hk:=(Qae.mp hy).1;refine⟨_,rq,_,g1,BJ (by rw[Qaz,QaT];omega),_,rq,?_,g4.Gq Al.upd hln,?_⟩
    ·rw[Ae,QbH hy,QaJ]
    ·rw[Bv (λz=>by rw[z,g1] at g5;cases g5)];exact g5
   ·obtain⟨u2,rfl,g1,g4,g5⟩:=h;rw[QaU] at g1;refine⟨_,_,ys++ts,rq,g1,?_,g4⟩;rw[QbH hdx,List.flatMap_append];have:[dx].flatMap Fo=Fo dx:=by simp
    rw[this];exact Bb.app f2 rt
  ·obtain⟨u1,u2,ys,rfl,f1,f2,f3⟩:=h;rw[lx,QaU] at f2;refine⟨ln,ys,ds.flatMap Fo,m+ds.length,some (.int (0+(i:Int))),?_,f1,Bb.same f3 f2,?_,?_,λx hx=>?_,(e6.trans s2).trans f3⟩
   ·show [_,_,some (V.int ((m:Int)+(xs.length:Int))),_]=_;rw[lx];rfl
   ·rw[hn'];exact e3'
   ·have:=Lq ds;rw[Nat.pow_succ];omega
   ·obtain⟨y,hy,hx⟩:=List.mem_flatMap.mp hx;obtain⟨es,rfl,he⟩:=Yh hx;exact (e5 _ hy).item' he
 ·obtain⟨l,xs,ds,m,u,rfl,e1,e2,e3,e4,e5,e6⟩:=h;have e3:bfs 6 [d] 0=some (ds,m):=e3;have cd:GF d=(ds.isEmpty&&decide (m<=20)):=by unfold GF;rw[e3]
  rw[cd] at q;have lx:=Bb.len e2;have ee:xs.isEmpty=ds.isEmpty:=by
   cases xs with
   | nil=>cases ds with
    | nil=>rfl
    | cons _ _=>cases lx
   | cons _ _=>cases ds with
    | nil=>cases lx
    | cons _ _=>rfl
  refine⟨_,rq,!xs.isEmpty,.inl ⟨_,SqL.of e1,rq⟩,_,rq,?_⟩;rw[Bool.not_not,ee];cases eb:ds.isEmpty with
  | false=>rw[eb] at q;exact Bx (q _ e6)
  | true=>
   rw[eb,Qbq] at q;refine Bt ⟨_,rq,_,_,rq,rq,?_⟩;have:decide ((m:Int)<=20)=decide (m<=20):=by
    rw[Qbj,QaF,QaF];omega
   show Q (.bl (decide ((m:Int)<=20))) HH;rw[this];exact q _ e6
theorem Td (C:Code K mg "is_rule" Kh Hi) (T:Tc mg) (Fq:Good P w K mg base "is_row" 1 Fi Kf) (Dj:Good P w K mg base "is_within" 2 DR O5) (Jf:Good P w K mg base "is_name" 1 Gh (GP nameP)) (Np:Good P w K mg base "is_condition" 5 Ef (GP GF)):Good P w K mg base "is_rule" 6 Hi (GP Ek):=by
 refine C.good SQ (λvs H Q E h=>?_) (λf cdv A outer s H vs Q E hr h=>?_)
 ·obtain⟨v,d,rfl,_⟩:=h;rfl
 obtain⟨v,d,rfl,rd,fit,q⟩:=h;refine⟨_,(Ad (Bh (PW.pt (JK (Fb (Dk (Aq Fq hr (Aa (pv 0) (Aa Ab (Aa Ab Ac)))))) (Ju (Fb (Dk (Aq Np hr (Aa (Aw Bf (pv 0) Ab (λ_ _=>rfl)) Ac))))))) (Ag (Am Hx)) Ax)
 (Ad (Bh (Ay (Ho hr.units) (Aw Bf (pv 0) Ab (λ_ _=>rfl)) Aj (Ba _)) (Ag (Am (Aq Jf hr (Aa (Aw Bf (pv 0) Ab (λ_ _=>rfl)) Ac)))) Ax)
 (Ag (Am (Dm (CG (Ho hr.units) (Aw Bf (pv 0) Ab (λ_ _=>rfl)) Aj (Ba _)) (DP (Aq Dj hr (Aa (Aw Bf (pv 0) Ab (λ_ _=>rfl)) (Aa Ab (Aa Ab Ac)))))))))),?_⟩
 show let R0:TS:=_;let R1:TS:=_;let R2:TS:=Ak (Bu _ R1 _) R0;Ak _ R2 _ _ _;intro R0 R1 R2;have sS:∀z:Str,PyData.strOk z=true->SeqAt.shaped (.str z)=true:=λz hz=>by
  show (PyData.strOk z&&decide (0<=64))=true;rw[hz];rfl
 refine⟨_,rq,v,3,3,rq,rd.kn,_,rq,?_⟩;rw[Jt rd];cases e3:Ea d 3 3 with
 | false=>
  have:Ek d=false:=by
   unfold Ek;split
   ·exact absurd rfl (RD e3 _ _ _)
   ·rfl
  rw[this] at q;exact Bt (q _ (Same.refl _))
 | true=>
 obtain⟨t,xs,ds,rfl,rfl,ht,rs,h1,h2⟩:=HN rd e3;obtain⟨k,c,x,rfl⟩:=Tp h1 h2;cases rs with
 | cons rk rs=>
 cases rs with
 | cons rc rs=>
 cases rs with
 | cons rx rs=>
 cases rs;have fk:Fit 64 k:=fit.item' (by simp);have fc:Fit 64 c:=fit.item' (by simp);have fx:Fit 64 x:=fit.item' (by simp);have q:∀H',Same H H'->Q (.bl (GF x&&(if eqS k "term"=true then nameP c else eqS k "sound"&&wiP c 1 99))) H':=q
 refine Bx ⟨_,rq,t,_,_,_,rq,rq,SqT.of ht,Ai (j:=2) rfl,_,x,rq,rx,fx,λH1 s1=>⟨_,rq,?_⟩⟩;cases ec:GF x with
 | false=>rw[ec] at q;exact Bt (q _ s1)
 | true=>
 rw[ec,Qbq] at q;have ht1:=s1 _ _ ht;refine Bx ⟨_,rq,t,_,_,_,rq,rq,SqT.of ht1,Ai (j:=0) rfl,k,.str "term",Rep.same s1 rk,.str _,fk.shaped (QbB _),sS _ (by trivial),_,rq,?_⟩;show if eqS k "term"=true then _ else _
 cases e1:eqS k "term" with
 | true=>
  rw[e1,if_pos rfl] at q;exact Bt ⟨_,rq,t,_,_,_,rq,rq,SqT.of ht1,Ai (j:=1) rfl,_,c,rq,Rep.same s1 rc,fc,λH2 s2=>q _ (s1.trans s2)⟩
 | false=>
 rw[e1,if_neg (by decide)] at q;refine Bx ⟨_,rq,t,_,_,_,rq,rq,SqT.of ht1,Ai (j:=0) rfl,k,.str "sound",Rep.same s1 rk,.str _,fk.shaped (QbB _),sS _ (by trivial),_,rq,?_⟩;show if eqS k "sound"=true then _ else _
 cases e2:eqS k "sound" with
 | false=>rw[e2] at q;exact Bx (q _ s1)
 | true=>
 rw[e2,Qbq] at q;refine Bt ⟨_,rq,t,_,_,_,rq,rq,SqT.of ht1,Ai (j:=1) rfl,_,1,99,rq,(Rep.same s1 rc).kn,?_⟩;rw[Jo (Rep.same s1 rc)];exact q _ s1
theorem Q8 (C:Code K mg "is_rules" JG Gx) (T:Tc mg) (Fq:Good P w K mg base "is_row" 1 Fi Kf) (Vr:Good P w K mg base "is_rule" 6 Hi (GP Ek)):Good P w K mg base "is_rules" 7 Gx (GP Jr):=by
 refine C.good Q5 (λvs H Q E h=>?_) (λf cdv A outer s H vs Q E hr h=>?_)
 ·obtain⟨v,d,rfl,_⟩:=h;rfl
 obtain⟨v,d,rfl,rd,fit,q⟩:=h;refine⟨_,(Ag (Am (Dm (Aq Fq hr (Aa (pv 0) (Aa Ab (Aa Ab Ac)))) (DP (Bd (JR rfl) rfl T.all Mx (Aa (Fx (N':=["part"]) rfl (BX.plain rfl (by trivial) (by trivial) (by trivial)) (Ko (pv 0)) (λ_ _ _ _=>(Az (i:=0) (show List.Nodup (["part"]:YF) by trivial) rfl (Or.inl rfl))) (λ_ _ _ _=>Gu) (λ_ _ _ _=>(Aq Vr hr (Aa (pv 0) Ac)))) Ac)))))),?_⟩;refine⟨_,rq,v,1,16,rq,rd.kn,_,rq,?_⟩;rw[Jt rd];cases e3:Ea d 1 16 with
 | false=>
  have:Jr d=false:=by
   unfold Jr;split
   ·rw[e3];rfl
   ·rfl
  rw[this] at q;exact Bx (q _ (Same.refl _))
 | true=>
 obtain⟨t,xs,ds,rfl,rfl,ht,rs,h1,h2⟩:=HN rd e3;have q:∀H',Same H H'->Q (.bl (ds.all Ek)) H':=λH' s'=>by
  have:=q H' s';have e:Jr (.tuple ds)=ds.all Ek:=by
   show (Ea (.tuple ds) 1 16&&ds.all Ek)=_;rw[e3,Qbq]
  rw[e] at this;exact this
 refine Bt ⟨_,rq,t,rq,⟨_,SqT.of ht⟩,λlc hlc=>?_⟩;refine Oa (fb:=Ek) hlc ht rs (by omega) (λx dx HX hdx rx sx R hR=>⟨_,rq,x,dx,rq,rx,fit.item' hdx,hR⟩) (λH2 hc s2=>?_);refine⟨lc,_,rq,SqL.of hc,?_⟩;rw[all_map];exact q _ s2
end
mutual
def Dt (w:Nat):PyData->Bool
 | .tuple ds=>decide (ds.length<=w)&&DG w ds
 | .list ds=>decide (ds.length<=w)&&DG w ds
 | .str z=>decide (z.length<=w)&&z.cps.toList.all λc=>decide (c < 128)
 | .int i=>decide (i.natAbs < 10 ^ w)
 | _=>true
def DG (w:Nat):List PyData->Bool
 | []=>true
 | x::r=>Dt w x&&DG w r
end
theorem G7 (w:Nat):∀ds:List PyData,DG w ds=true ↔ ∀x∈ds,Dt w x=true
 | []=>⟨(λ_ x h=>by cases h),λ_=>by simp only[DG]⟩
 | a::r=>by
  simp only[DG];rw[QaR,G7 w r];exact⟨λh x hx=>by
   rcases Qbs.mp hx with rfl | hx
   ·exact h.1
   ·exact h.2 x hx,λh=>⟨h a (QaB ..),λx hx=>h x (Qas _ hx)⟩⟩
mutual
theorem Ks {w w':Nat} (l:w<=w'):∀d:PyData,Dt w d=true->Dt w' d=true
 | .tuple ds,h=>by
  simp only[Dt,QaR] at h ⊢;exact⟨Qbo (Qby (QaL h.1) l),Iw l ds h.2⟩
 | .list ds,h=>by
  simp only[Dt,QaR] at h ⊢;exact⟨Qbo (Qby (QaL h.1) l),Iw l ds h.2⟩
 | .str z,h=>by
  simp only[Dt,QaR] at h ⊢;exact⟨Qbo (Qby (QaL h.1) l),h.2⟩
 | .none,_=>by simp only[Dt]
 | .bool _,_=>by simp only[Dt]
 | .int i,h=>by
  simp only[Dt] at h ⊢;exact Qbo (QaD (QaL h) (Nat.pow_le_pow_right (by decide) l))
 | .dict _,_=>by simp only[Dt]
theorem Iw {w w':Nat} (l:w<=w'):∀ds:List PyData,DG w ds=true->DG w' ds=true
 | [],_=>by simp only[DG]
 | x::r,h=>by
  simp only[DG,QaR] at h ⊢;exact⟨Ks l x h.1,Iw l r h.2⟩
end
mutual
theorem N5:∀d:PyData,Dt 900 d=true->wide d=true
 | .tuple ds,h=>by
  simp only[Dt,wide,QaR] at h ⊢;exact⟨h.1,Iv ds h.2⟩
 | .list ds,h=>by
  simp only[Dt,wide,QaR] at h ⊢;exact⟨h.1,Iv ds h.2⟩
 | .str z,h=>by
  simp only[Dt,wide] at h ⊢;exact h
 | .none,_=>by simp only[wide]
 | .bool _,_=>by simp only[wide]
 | .int _,_=>by simp only[wide]
 | .dict _,_=>by simp only[wide]
theorem Iv:∀ds:List PyData,DG 900 ds=true->DY ds=true
 | [],_=>by simp only[DY]
 | x::r,h=>by
  simp only[DG,DY,QaR] at h ⊢;exact⟨N5 x h.1,Iv r h.2⟩
end
structure Sl (w k:Nat) (d:PyData):Prop where
 lay:d.canLay0=true
 dep:d.depth<=k
 nar:Dt w d=true
theorem Sl.fit {w k:Nat} {d:PyData} (h:Sl w k d) (hw:w<=900):Fit k d:=⟨h.lay,h.dep,N5 d (Ks hw d h.nar)⟩
theorem Sl.mono {w w' k k':Nat} {d:PyData} (h:Sl w k d) (hw:w<=w') (hk:k<=k'):Sl w' k' d:=⟨h.lay,Qby h.dep hk,Ks hw d h.nar⟩
theorem Qm:∀{ds:List PyData},(∀x∈ds,x.canLay0=true)->PyData.canLayAll0 ds=true
 | [],_=>rfl
 | a::r,h=>by
  show (a.canLay0&&PyData.canLayAll0 r)=true;rw[h a (QaB ..),Qm λx hx=>h x (Qas _ hx)];rfl
theorem Qy:∀{ds:List PyData} {n:Nat},(∀x∈ds,x.depth<=n)->PyData.depthAll ds<=n
 | [],_,_=>QbC _
 | a::r,n,h=>by
  show max a.depth (PyData.depthAll r)<=n;exact Nat.max_le.mpr ⟨h a (QaB ..),Qy λx hx=>h x (Qas _ hx)⟩
theorem Sl.tup {w k:Nat} {ds:List PyData} (h:∀x∈ds,Sl w k x) (l:ds.length<=w):Sl w (k+1) (.tuple ds):=by
 refine⟨Qm λx hx=>(h x hx).lay,QaV (Qy λx hx=>(h x hx).dep),?_⟩;simp only[Dt,QaR];exact⟨Qbo l,(G7 w ds).mpr λx hx=>(h x hx).nar⟩
theorem Sl.lst {w k:Nat} {ds:List PyData} (h:∀x∈ds,Sl w k x) (l:ds.length<=w):Sl w (k+1) (.list ds):=by
 refine⟨Qm λx hx=>(h x hx).lay,QaV (Qy λx hx=>(h x hx).dep),?_⟩;simp only[Dt,QaR];exact⟨Qbo l,(G7 w ds).mpr λx hx=>(h x hx).nar⟩
theorem Sl.item {w k:Nat} {ds:List PyData} (h:Sl w (k+1) (.tuple ds)) {x:PyData} (hx:x∈ds):Sl w k x:=by
 have h1:PyData.canLayAll0 ds=true:=h.lay;have h2:PyData.depthAll ds+1<=k+1:=h.dep;have h3:=h.nar;simp only[Dt,QaR] at h3;exact⟨Nf h1 x hx,Nq (by omega) x hx,(G7 w ds).mp h3.2 x hx⟩
theorem Sl.len {w k:Nat} {ds:List PyData} (h:Sl w k (.tuple ds)):ds.length<=w:=by
 have h3:=h.nar;simp only[Dt,QaR] at h3;exact QaL h3.1
theorem Bj {α : Type} {P:α->Prop} {a:α} {r:List α} (h:P a) (t:∀x∈r,P x):∀x∈a::r,P x:=List.forall_mem_cons.mpr ⟨h,t⟩
theorem Y4 {w k:Nat} {i:Int} (h:i.natAbs < 10 ^ w):Sl w k (.int i):=⟨rfl,QbC _,by simp only[Dt];exact Qbo h⟩
theorem Z2:1000000<=10 ^ 30:=by decide
theorem V5 {k:Nat} {i:Int} (h:i.natAbs < 1000000):Sl 30 k (.int i):=Y4 (QaD h Z2)
theorem UG {w k:Nat} {z:Str} (h2:z.length<=w) (h3:∀c∈z.cps.toList,c < 128):Sl w k (.str z):=by
 refine⟨?_,QbC _,?_⟩
 ·show PyData.strOk z=true;unfold PyData.strOk;rw[Array.all_eq_true'];exact λc hc=>Qbo (Nat.lt_trans (h3 c (Array.mem_toList_iff.mpr hc)) (by decide))
 ·simp only[Dt,QaR];exact⟨Qbo h2,QaS.mpr λc hc=>Qbo (h3 c hc)⟩
def T7 (z:Str):Bool:=decide (z.length<=30)&&z.cps.toList.all λc=>decide (c < 128)
theorem Mh {k:Nat} {z:Str} (h:T7 z=true):Sl 30 k (.str z):=by
 unfold T7 at h;rw[QaR] at h;exact UG (QaL h.1) λc hc=>QaL (QaS.mp h.2 c hc)
theorem Yq:∀c∈abc.cps.toList,c < 128:=by
 have h:abc.cps.toList.all (λc=>decide (c < 128))=true:=by trivial
 exact λc hc=>QaL (QaS.mp h c hc)
theorem Jq {k:Nat} {z:Str} (h:okS z) (l:z.length<=8):Sl 30 k (.str z):=UG (by omega) λc hc=>Yq c (h c hc)
theorem V6 {I R:TS} {D:Ends} {U : St} {H:Hp} (P:YO) (hR:∀ σ' H',P σ' H'->R D σ' H') (hI:(∀ σ' H',P σ' H'->R D σ' H')->I { D with nx:=fun U H=>R D U H } U H):Ak I R D U H:=hI hR
def onl (H:Hp):Hp:=λa=>match H a with
 | some (.tup xs)=>some (.tup xs)
 | _=>none
theorem BP {H:Hp} {a:Addr} {xs:YG} (h:H a=some (.tup xs)):onl H a=some (.tup xs):=by unfold onl;rw[h]
theorem RK {H:Hp} {a:Addr} {o:HO} (h:onl H a=some o):∃xs,o=.tup xs/\H a=some (.tup xs):=by
 unfold onl at h;split at h
 ·rename_i xs e;cases h;exact⟨xs,rq,e⟩
 ·cases h
theorem Em {H H':Hp} (s:Ck H H'):Same (onl H) (onl H'):=λa o e=>by
 obtain⟨xs,rfl,h⟩:=RK e;exact BP (s _ _ h)
def Tv (H:Hp) (k:Nat) (v:V):Prop:=∃d,Rep (onl H) v d/\Sl 40 k d
theorem Tv.tups {H H':Hp} {k:Nat} {v:V} (s:Ck H H') (h:Tv H k v):Tv H' k v:=by
 obtain⟨d,h1,h2⟩:=h;exact⟨d,Rep.same (Em s) h1,h2⟩
theorem Tv.int {H:Hp} {k:Nat} {i:Int} (h:i.natAbs < 1000000):Tv H k (.int i):=⟨_,.int i,(V5 h).mono (by decide) (QbB _)⟩
theorem Tv.word {H:Hp} {k:Nat} {z:Str} (h:T7 z=true):Tv H k (.str z):=⟨_,.str z,(Mh h).mono (by decide) (QbB _)⟩
theorem Tv.name {H:Hp} {k:Nat} {z:Str} (h:okS z) (l:z.length<=8):Tv H k (.str z):=⟨_,.str z,(Jq h l).mono (by decide) (QbB _)⟩
theorem Tv.up {H:Hp} {k k':Nat} {v:V} (h:Tv H k v) (l:k<=k'):Tv H k' v:=by
 obtain⟨d,h1,h2⟩:=h;exact⟨d,h1,h2.mono (QbB _) l⟩
def Bp (H:Hp) (l:Addr) (ys:YF):Prop:=H l=some (.lst (ys.map V.str))/\1<=ys.length/\ys.length<=10/\∀y∈ys,(1<=y.length/\y.length<=8)/\okS y
theorem NK {H:Hp}:∀ys:YF,Bb H (ys.map V.str) (ys.map PyData.str)
 | []=>.nil
 | y::r=>.cons (.str y) (NK r)
theorem Bp.rep {H:Hp} {l:Addr} {ys:YF} (h:Bp H l ys):Rep H (.ref l) (.list (ys.map PyData.str)):=.lst h.1 (NK ys)
theorem Bp.shp {H:Hp} {l:Addr} {ys:YF} (h:Bp H l ys):SeqAt.shaped (.list (ys.map PyData.str))=true:=by
 have:Sl 30 1 (.list (ys.map PyData.str)):=Sl.lst (k:=0) (λx hx=>by
  obtain⟨y,hy,rfl⟩:=QbA.mp hx;exact Jq (h.2.2.2 y hy).2 (h.2.2.2 y hy).1.2) (by rw[QaX];have:=h.2.2.1;omega)
 exact (this.fit (by decide)).shaped (by decide)
theorem Bp.ne {H:Hp} {l:Addr} {ys:YF} (h:Bp H l ys):PyData.eqv (.list (ys.map PyData.str)) (.list [])=false:=by
 cases ys with
 | nil=>exact absurd h.2.1 (by decide)
 | cons y r=>rfl
theorem Bp.Dr {H H':Hp} {l b:Addr} {ys:YF} (h:Bp H l ys) (s:Al b H H') (n:l≠b):Bp H' l ys:=⟨s _ _ h.1 n,h.2⟩
theorem Bp.at_ {H:Hp} {l:Addr} {ys:YF} (h:Bp H l ys) {i:Nat} (hi:i < ys.length):∃y,atI (ys.map V.str) (i:Int)=some (.str y)/\y.length<=8/\okS y:=by
 have hy:ys[i]?=some ys[i]:=Qah hi;have:=h.2.2.2 _ (Qat hy);exact⟨ys[i],Ai (by rw[QaM,hy];rfl),this.1.2,this.2⟩
def L (s:Str):List Nat:=s.cps.toList
def S (l:List Nat):Str:=⟨l.toArray⟩
theorem L_S (l:List Nat):L (S l)=l:=rfl
theorem S_L (s:Str):S (L s)=s:=rfl
theorem Cp (a b:Str):L (a++b)=L a++L b:=by
 have e:(a++b).cps=a.cps++b.cps:=rfl;unfold L;rw[e,Array.toList_append]
theorem HF {a b:Str} (h:L a=L b):a=b:=by rw[<-S_L a,h];rfl
theorem Dh:L Str.empty=[]:=rfl
theorem Hz (s:Str):s.length=(L s).length:=(Qay ..).symm
theorem Ah (l:List Nat):(S l).length=l.length:=by rw[Hz];rfl
theorem Ry:100000<=sizeLine:=by decide
theorem szb {n:Nat} (h:n<=100000):n<=sizeLine:=Qby h Ry
theorem MJ {l:List Nat} {k:Nat} (h:k<=l.length):Txt.slice (S l) (some (k:Int)) none=S (l.drop k):=by
 have e:=PyProof.Rows.slice_from_eq (x:=S l) (i:=(k:Int)) (b:=((S l).length:Int)) (by omega) (by rw[Ah];omega) rfl;rw[e];show S ((l.drop (k:Int).toNat).take (((S l).length:Int) - (k:Int)).toNat)=_;rw[QaP,List.take_of_length_le (by rw[List.length_drop,Ah];omega)]
theorem Z9 {l:List Nat} {k:Nat} (h:k<=l.length):Txt.slice (S l) none (some (k:Int))=S (l.take k):=by
 have e:=QbI (PyProof.Rows.slice_closes_toL (x:=S l) (j:=(k:Int)) (by omega) (by rw[Ah];omega));rw[e];show S ((l.drop (0:Int).toNat).take ((k:Int) - 0).toNat)=_;rw[Int.sub_zero,QaP];rfl
theorem Ib (c:Nat) (l:List Nat):Txt.slice (S (c::l)) (some 1) none=S l:=MJ (l:=c::l) (k:=1) (by rw[QaQ];omega)
def num (n:Nat):List Nat:=L (Str.ofString (toString (n:Int)))
def stop (c:Nat):Bool:=decide (c=32\/c=41)
def WL (c:Nat):Bool:=!(Builtin.Str.occurrences "0123456789" ⟨#[c]⟩ 0 (Str.ofString "0123456789").length 1).isEmpty
theorem Yk (c:Nat):WL c=decide (c∈L "0123456789"):=PySem.StrLaws.found_one _ _
theorem V2 (c:Nat):(!(!(Builtin.Str.occurrences " )" ⟨#[c]⟩ 0 (Str.ofString " )").length 1).isEmpty))=!stop c:=by
 rw[PySem.StrLaws.found_one];congr 1;have:(Str.ofString " )").cps.toList=[32,41]:=by trivial
 rw[this];unfold stop;rw[Qbj,QaF,QaF];simp
theorem K1:∀n,n < 100->(num n).all WL=true/\1<=(num n).length/\(num n).length<=2/\(num n).all (λc=>!stop c)=true:=by
 intro n h;have key:∀n,n < 100->((num n).all (λc=>decide (c∈L "0123456789"))=true/\1<=(num n).length/\(num n).length<=2/\(num n).all (λc=>!stop c)=true):=by trivial
 have k:=key n h;refine⟨?_,k.2⟩;rw[<-k.1];congr 1
 funext c
 exact Yk c
theorem Yb {n:Nat} (h:n < 100):intText? (S (num n))=some (n:Int):=PySem.W.KIN.num_reads (by omega) (by omega)
inductive Cd where
 | off (n:Nat) (z:Str)
 | term (z:Str)
 | key (k:Nat)
 | hours (a b:Nat)
 | neg (c:Cd)
 | both (c d:Cd)
 | any (c d:Cd)
 | thn (c d:Cd) (n:Nat)
def Cd.data:Cd->PyData
 | .off n z=>.tuple [.str "of",.int n,.str z]
 | .term z=>.tuple [.str "term",.str z]
 | .key k=>.tuple [.str "key",.int k]
 | .hours a b=>.tuple [.str "hours",.int a,.int b]
 | .neg c=>.tuple [.str "not",c.data]
 | .both c d=>.tuple [.str "and",c.data,d.data]
 | .any c d=>.tuple [.str "or",c.data,d.data]
 | .thn c d n=>.tuple [.str "then",c.data,d.data,.int n]
def M8 (z:Str):Prop:=1<=z.length/\z.length<=8/\okS z
def Cd.ok:Cd->Prop
 | .off n z=>1<=n/\n<=9/\M8 z
 | .term z=>M8 z
 | .key k=>k<=9
 | .hours a b=>a<=23/\b<=23
 | .neg c=>c.ok
 | .both c d=>c.ok/\d.ok
 | .any c d=>c.ok/\d.ok
 | .thn c d n=>c.ok/\d.ok/\1<=n/\n<=20
def Cd.deep:Cd->Nat
 | .neg c=>c.deep+1
 | .both c d=>max c.deep d.deep+1
 | .any c d=>max c.deep d.deep+1
 | .thn c d _=>max c.deep d.deep+1
 | _=>1
def Cd.many:Cd->Nat
 | .neg c=>c.many+1
 | .both c d=>c.many+d.many+1
 | .any c d=>c.many+d.many+1
 | .thn c d _=>c.many+d.many+1
 | _=>1
def Cd.txt:Cd->List Nat
 | .off n z=>num n++(L " of "++L z)
 | .term z=>L "term "++L z
 | .key k=>L "key "++num k
 | .hours a b=>L "hours "++(num a++(L " to "++num b))
 | .neg c=>L "not "++c.txt
 | .both c d=>L "("++(c.txt++(L " and "++(d.txt++L ")")))
 | .any c d=>L "("++(c.txt++(L " or "++(d.txt++L ")")))
 | .thn c d n=>L "("++(c.txt++(L " then "++(d.txt++(L " within "++(num n++L ")")))))
def Cd.inn:Cd->List Cd
 | .neg c=>[c]
 | .both c d=>[c,d]
 | .any c d=>[c,d]
 | .thn c d _=>[c,d]
 | _=>[]
theorem Cd.Jg (c:Cd):1<=c.deep:=by cases c <;> simp[Cd.deep]
theorem Yc:(L " of ").length=4/\(L "term ").length=5/\(L "key ").length=4/\(L "hours ").length=6/\(L " to ").length=4/\(L "not ").length=4/\(L "(").length=1/\(L " and ").length=5/\(L ")").length=1/\(L " or ").length=4/\(L " then ").length=6/\(L " within ").length=8:=by trivial
theorem Hq {n:Nat} (h:n < 100):(num n).length<=2:=(K1 n h).2.2.1
theorem BW:∀{c:Cd},c.ok->c.txt.length<=20*c.many:=by
 obtain⟨l1,l2,l3,l4,l5,l6,l7,l8,l9,l10,l11,l12⟩:=Yc;intro c
 induction c with
 | off n z=>intro h;have:=Hq (n:=n) (by have:=h.2.1;omega);have hz:=h.2.2.2.1;rw[Hz] at hz;simp only[Cd.txt,Cd.many,Qaz,l1];omega
 | term z=>intro h;have hz:=h.2.1;rw[Hz] at hz;simp only[Cd.txt,Cd.many,Qaz,l2];omega
 | key k=>intro h;have h:k<=9:=h;have:=Hq (n:=k) (by omega);simp only[Cd.txt,Cd.many,Qaz,l3];omega
 | hours a b=>intro h;have h:a<=23/\b<=23:=h;have:=Hq (n:=a) (by omega);have:=Hq (n:=b) (by omega);simp only[Cd.txt,Cd.many,Qaz,l4,l5];omega
 | neg c ih=>intro h;have:=ih h;simp only[Cd.txt,Cd.many,Qaz,l6];omega
 | both c d ih1 ih2=>intro h;have:=ih1 h.1;have:=ih2 h.2;simp only[Cd.txt,Cd.many,Qaz,l7,l8,l9];omega
 | any c d ih1 ih2=>intro h;have:=ih1 h.1;have:=ih2 h.2;simp only[Cd.txt,Cd.many,Qaz,l7,l10,l9];omega
 | thn c d n ih1 ih2=>intro h;have:=ih1 h.1;have:=ih2 h.2.1;have:=Hq (n:=n) (by have:=h.2.2.2;omega);simp only[Cd.txt,Cd.many,Qaz,l7,l11,l9,l12];omega
theorem Yr (c:Nat):QT c=decide (c∈abc.cps.toList):=PySem.StrLaws.found_one _ _
theorem M6 {z:Str} (h:M8 z):nameP (.str z)=true:=by
 show ((decide ((1:Int)<=z.length)&&decide ((z.length:Int)<=8))&&z.cps.toList.all QT)=true;have h1:=h.1;have h2:=h.2.1;rw[Qbo (by omega),Qbo (by omega)];exact QaS.mpr λc hc=>by rw[Yr];exact Qbo (h.2.2 c hc)
theorem MF {i lo hi:Int} (h:lo<=i) (h':i<=hi):wiP (.int i) lo hi=true:=by
 show (decide (lo<=i)&&decide (i<=hi))=true;rw[Qbo h,Qbo h'];rfl
theorem nE {z y:Str} (h:z≠y):¬eqS (.str z) y=true:=by rw[DK h];decide
theorem nA {z:Str} (h:z≠"and") (h':z≠"or"):¬aoP (.str z)=true:=λe=>by
 rcases HS.mp e with e | e
 ·injection e with e;exact h e
 ·injection e with e;exact h' e
theorem yA {z:Str} (h:z="and"\/z="or"):aoP (.str z)=true:=HS.mpr (h.elim (λe=>.inl (by rw[e])) λe=>.inr (by rw[e]))
theorem ak {r:List PyData} {k:PyData} (h1:1<=r.length) (h2:r.length<=3):Ea (.tuple (k::r)) 2 4=true:=by
 show (decide ((2:Int)<=((k::r).length:Nat))&&decide ((((k::r).length:Nat):Int)<=4))=true;rw[QaQ,Qbo (by omega),Qbo (by omega)];rfl
theorem Gj {k:PyData} {r:List PyData} (h1:1<=r.length) (h2:r.length<=3):Cj (.tuple (k::r))=CT k r:=by
 show (Ea (.tuple (k::r)) 2 4&&CT k r)=_;rw[ak h1 h2,Qbq]
theorem Yn:∀{c:Cd},c.ok->Cj c.data=true:=by
 intro c h;cases c with
 | off n z=>
  show Cj (.tuple [.str "of",.int n,.str z])=true;rw[Gj (by simp) (by simp)];unfold CT;rw[if_pos (Dq _)];show (wiP (.int n) 1 9&&nameP (.str z))=true;have h1:=h.1;have h2:=h.2.1;rw[MF (by omega) (by omega),M6 h.2.2];rfl
 | term z=>
  show Cj (.tuple [.str "term",.str z])=true;rw[Gj (by simp) (by simp)];unfold CT;rw[if_neg (nE (by trivial)),if_pos (Dq _)];exact M6 h
 | key k=>
  have h:k<=9:=h;show Cj (.tuple [.str "key",.int k])=true;rw[Gj (by simp) (by simp)];unfold CT;rw[if_neg (nE (by trivial)),if_neg (nE (by trivial)),if_neg (nE (by trivial)),if_neg (nA (by trivial) (by trivial)),if_neg (nE (by trivial))];show (eqS (.str "key") "key"&&wiP (.int k) 0 9)=true;rw[Dq,MF (by omega) (by omega)];rfl
 | hours a b=>
  have h:a<=23/\b<=23:=h;show Cj (.tuple [.str "hours",.int a,.int b])=true;rw[Gj (by simp) (by simp)];unfold CT;rw[if_neg (nE (by trivial)),if_neg (nE (by trivial)),if_neg (nE (by trivial)),if_neg (nA (by trivial) (by trivial)),if_neg (nE (by trivial))];show (eqS (.str "hours") "hours"&&(wiP (.int a) 0 23&&wiP (.int b) 0 23))=true;rw[Dq,MF (by omega) (by omega),MF (by omega) (by omega)];rfl
 | neg c=>
  show Cj (.tuple [.str "not",c.data])=true;rw[Gj (by simp) (by simp)];unfold CT;rw[if_neg (nE (by trivial)),if_neg (nE (by trivial)),if_pos (Dq _)];rfl
 | both c d=>
  show Cj (.tuple [.str "and",c.data,d.data])=true;rw[Gj (by simp) (by simp)];unfold CT;rw[if_neg (nE (by trivial)),if_neg (nE (by trivial)),if_neg (nE (by trivial)),if_pos (yA (.inl rfl))];rfl
 | any c d=>
  show Cj (.tuple [.str "or",c.data,d.data])=true;rw[Gj (by simp) (by simp)];unfold CT;rw[if_neg (nE (by trivial)),if_neg (nE (by trivial)),if_neg (nE (by trivial)),if_pos (yA (.inr rfl))];rfl
 | thn c d n=>
  have h1:=h.2.2;show Cj (.tuple [.str "then",c.data,d.data,.int n])=true;rw[Gj (by simp) (by simp)];unfold CT;rw[if_neg (nE (by trivial)),if_neg (nE (by trivial)),if_neg (nE (by trivial)),if_neg (nA (by trivial) (by trivial)),if_pos (Dq _)];exact MF (by omega) (by omega)
theorem JL {z:Str} (h:z≠"not") {r:List PyData}:Fo (.tuple (.str z::r))=if Nt (.str z)=true then r.take 2 else []:=by
 show (if eqS (.str z) "not"=true then r.take 1 else _)=_
 rw[if_neg (nE h)]
theorem ZK (c:Cd):Fo c.data=c.inn.map Cd.data:=by
 cases c with
 | neg c=>
  show (if eqS (.str "not") "not"=true then [c.data].take 1 else if Nt (.str "not")=true then [c.data].take 2 else [])=[c.data]
  rw[if_pos (Dq _)];rfl
 | off n z=>exact (JL (z:="of") (by trivial)).trans (if_neg (by trivial))
 | term z=>exact (JL (z:="term") (by trivial)).trans (if_neg (by trivial))
 | key k=>exact (JL (z:="key") (by trivial)).trans (if_neg (by trivial))
 | hours a b=>exact (JL (z:="hours") (by trivial)).trans (if_neg (by trivial))
 | both c d=>exact (JL (z:="and") (by trivial)).trans (if_pos (by trivial))
 | any c d=>exact (JL (z:="or") (by trivial)).trans (if_pos (by trivial))
 | thn c d n=>exact (JL (z:="then") (by trivial)).trans (if_pos (by trivial))
def GK (cs:List Cd):Nat:=(cs.map Cd.many).sum
theorem N6 (c:Cd):c.many=1+GK c.inn/\(∀d∈c.inn,d.deep+1<=c.deep)/\(c.ok->∀d∈c.inn,d.ok):=by
 have two:∀{P:Cd->Prop} {a b:Cd},P a->P b->∀d∈[a,b],P d:=λ{P a b} ha hb d hd=>by
  simp only[Qbs,List.not_mem_nil,or_false] at hd;rcases hd with rfl | rfl
  ·exact ha
  ·exact hb
 cases c with
 | neg c=>exact⟨by show c.many+1=1+(c.many+0);omega,λd hd=>by rw[QaE.mp hd];exact QbB _,λh d hd=>by rw[QaE.mp hd];exact h⟩
 | both a b=>exact⟨by show a.many+b.many+1=1+(a.many+(b.many+0));omega,two (QaV (Qbe ..)) (QaV (QaW ..)),λh=>two h.1 h.2⟩
 | any a b=>exact⟨by show a.many+b.many+1=1+(a.many+(b.many+0));omega,two (QaV (Qbe ..)) (QaV (QaW ..)),λh=>two h.1 h.2⟩
 | thn a b n=>exact⟨by show a.many+b.many+1=1+(a.many+(b.many+0));omega,two (QaV (Qbe ..)) (QaV (QaW ..)),λh=>two h.1 h.2.1⟩
 | _=>exact⟨rfl,(λd hd=>by cases hd),λ_ d hd=>by cases hd⟩
theorem VH:∀(n:Nat) (cs:List Cd) (m:Nat),(∀c∈cs,c.ok/\c.deep<=n)->bfs n (cs.map Cd.data) m=some ([],m+GK cs)
 | 0,cs,m,h=>by
  have:cs=[]:=by
   cases cs with
   | nil=>rfl
   | cons c r=>have:=(h c (QaB ..)).2;have:=c.Jg;omega
  subst this;rfl
 | n+1,cs,m,h=>by
  have e1:(cs.map Cd.data).all Cj=true:=by
   rw[List.all_map];exact QaS.mpr λc hc=>Yn (h c hc).1
  have e2:(cs.map Cd.data).flatMap Fo=(cs.flatMap Cd.inn).map Cd.data:=by
   clear e1 h
   induction cs with
   | nil=>rfl
   | cons c r ih=>rw[Qbr,List.flatMap_cons,List.flatMap_cons,QaY,ih,ZK]
  have e3:GK cs=cs.length+GK (cs.flatMap Cd.inn):=by
   clear e1 h e2
   induction cs with
   | nil=>rfl
   | cons c r ih=>
    have h1:=(N6 c).1;have a1:GK (c::r)=c.many+GK r:=by unfold GK;rw[Qbr,List.sum_cons]
    have a2:GK (c.inn++r.flatMap Cd.inn)=GK c.inn+GK (r.flatMap Cd.inn):=by unfold GK;rw[QaY,List.sum_append]
    rw[List.flatMap_cons,a1,a2,QaQ];omega
  show (if (cs.map Cd.data).all Cj=true then bfs n ((cs.map Cd.data).flatMap Fo) (m+(cs.map Cd.data).length) else none)=_
  rw[if_pos e1,e2,VH n _ _ λc hc=>?_,QaX,e3]
  ·congr 2;omega
  ·obtain⟨d,hd,hc⟩:=List.mem_flatMap.mp hc;have h1:=N6 d;have h2:=h d hd;exact⟨h1.2.2 h2.1 c hc,by have:=h1.2.1 c hc;omega⟩
theorem Sg {c:Cd} (h:c.ok) (hd:c.deep<=6) (hm:c.many<=20):GF c.data=true:=by
 have e:=VH 6 [c] 0 (λd hd'=>by rw[QaE.mp hd'];exact⟨h,hd⟩);unfold GF;have e:bfs 6 [c.data] 0=some ([],0+GK [c]):=e;rw[e];show (true&&decide (0+GK [c]<=20))=true;rw[Qbq];refine Qbo ?_;show 0+(c.many+0)<=20;omega
inductive Ru where
 | term (z:Str) (c:Cd)
 | sound (n:Nat) (c:Cd)
def Ru.data:Ru->PyData
 | .term z c=>.tuple [.str "term",.str z,c.data]
 | .sound n c=>.tuple [.str "sound",.int n,c.data]
def Ru.c:Ru->Cd
 | .term _ c=>c
 | .sound _ c=>c
def Ru.ok:Ru->Prop
 | .term z c=>M8 z/\c.ok/\c.deep<=6/\c.many<=20
 | .sound n c=>(1<=n/\n<=99)/\c.ok/\c.deep<=6/\c.many<=20
def Ru.head:Ru->List Nat
 | .term z _=>L "term "++L z
 | .sound n _=>L "sound "++num n
def Ru.row (r:Ru):List Nat:=r.head++(L " = "++r.c.txt)
def Ru.txt (r:Ru):List Nat:=r.row++L "\n"
theorem SN:∀{c:Cd},c.ok->Sl 30 c.deep c.data:=by
 have W:∀{z:Str} {k:Nat},T7 z=true->Sl 30 k (.str z):=λh=>Mh h;have N:∀{n k:Nat},n < 100->Sl 30 k (.int n):=λh=>V5 (by omega);intro c
 induction c with
 | off n z=>intro h;have:=h.2.1;exact Sl.tup (k:=0) (Bj (W (by trivial)) (Bj (N (by omega)) (Bj (Jq h.2.2.2.2 h.2.2.2.1) (Qav _)))) (by show 3<=30;decide)
 | term z=>intro h;exact Sl.tup (k:=0) (Bj (W (by trivial)) (Bj (Jq h.2.2 h.2.1) (Qav _))) (by show 2<=30;decide)
 | key k=>intro h;have h:k<=9:=h;exact Sl.tup (k:=0) (Bj (W (by trivial)) (Bj (N (by omega)) (Qav _))) (by show 2<=30;decide)
 | hours a b=>intro h;have h:a<=23/\b<=23:=h;exact Sl.tup (k:=0) (Bj (W (by trivial)) (Bj (N (by omega)) (Bj (N (by omega)) (Qav _)))) (by show 3<=30;decide)
 | neg c ih=>intro h;exact Sl.tup (Bj (W (by trivial)) (Bj (ih h) (Qav _))) (by show 2<=30;decide)
 | both c d ih1 ih2=>intro h;exact Sl.tup (Bj (W (by trivial)) (Bj ((ih1 h.1).mono (QbB _) (Qbe ..)) (Bj ((ih2 h.2).mono (QbB _) (QaW ..)) (Qav _)))) (by show 3<=30;decide)
 | any c d ih1 ih2=>intro h;exact Sl.tup (Bj (W (by trivial)) (Bj ((ih1 h.1).mono (QbB _) (Qbe ..)) (Bj ((ih2 h.2).mono (QbB _) (QaW ..)) (Qav _)))) (by show 3<=30;decide)
 | thn c d n ih1 ih2=>intro h;have:=h.2.2.2;exact Sl.tup (Bj (W (by trivial)) (Bj ((ih1 h.1).mono (QbB _) (Qbe ..)) (Bj ((ih2 h.2.1).mono (QbB _) (QaW ..)) (Bj (N (by omega)) (Qav _))))) (by show 4<=30;decide)
theorem aj {r:Ru} (h:r.ok):Sl 30 7 r.data:=by
 cases r with
 | term z c=>exact Sl.tup (k:=6) (Bj (Mh (by trivial)) (Bj (Jq h.1.2.2 h.1.2.1) (Bj ((SN h.2.1).mono (QbB _) h.2.2.1) (Qav _)))) (by show 3<=30;decide)
 | sound n c=>have:=h.1.2;exact Sl.tup (k:=6) (Bj (Mh (by trivial)) (Bj (V5 (by omega)) (Bj ((SN h.2.1).mono (QbB _) h.2.2.1) (Qav _)))) (by show 3<=30;decide)
theorem UJ {rs:List Ru} (h:∀r∈rs,r.ok) (l:rs.length<=16):Sl 30 8 (.tuple (rs.map Ru.data)):=Sl.tup (k:=7) (λx hx=>by obtain⟨r,hr,rfl⟩:=QbA.mp hx;exact aj (h r hr)) (by rw[QaX];omega)
theorem Xy {r:Ru} (h:r.ok):Ek r.data=true:=by
 cases r with
 | term z c=>
  show Ek (.tuple [.str "term",.str z,c.data])=true;unfold Ek;simp[Dq,M6 h.1,Sg h.2.1 h.2.2.1 h.2.2.2]
 | sound n c=>
  have h1:=h.1;show Ek (.tuple [.str "sound",.int n,c.data])=true;unfold Ek;simp[Dq,Sg h.2.1 h.2.2.1 h.2.2.2,MF (i:=(n:Int)) (lo:=1) (hi:=99) (by omega) (by omega),DK (z:="sound") (y:="term") (by trivial)]
theorem U3 {rs:List Ru} (h:∀r∈rs,r.ok) (l:1<=rs.length/\rs.length<=16):Jr (.tuple (rs.map Ru.data))=true:=by
 show (Ea (.tuple (rs.map Ru.data)) 1 16&&(rs.map Ru.data).all Ek)=true;rw[List.all_map];have e:Ea (.tuple (rs.map Ru.data)) 1 16=true:=by
  show (decide ((1:Int)<=((rs.map Ru.data).length:Nat))&&decide ((((rs.map Ru.data).length:Nat):Int)<=16))=true;rw[QaX,Qbo (by omega),Qbo (by omega)];rfl
 rw[e,Qbq];exact QaS.mpr λr hr=>Xy (h r hr)
abbrev Gb:Stmt:=top 24
abbrev Dp:YF:=["condition"]
theorem CZ:Bc ["condition","word","one","other"] Dp (Ao Gb):=by ac_rfl
abbrev Ih:Stmt:=top 25
abbrev Ec:YF:=["rules"]
theorem Oi:Bc ["rules"] Ec (Ao Ih):=by ac_rfl
theorem IV {b:Bool} {A B:Prop} (h:b=true) (a:A):if b=true then A else B:=by rw[if_pos h];exact a
theorem Ci {b:Bool} {A B:Prop} (h:b=false) (a:B):if b=true then A else B:=by rw[if_neg (by rw[h];decide)];exact a
theorem ll:Str.empty.length=0/\(Str.ofString " of ").length=4/\(Str.ofString "term").length=4/\(Str.ofString "key").length=3/\(Str.ofString " ").length=1/\(Str.ofString "hours ").length=6/\(Str.ofString " to ").length=4/\(Str.ofString "not ").length=4/\(Str.ofString "(").length=1/\(Str.ofString "and").length=3/\(Str.ofString ")").length=1/\(Str.ofString "or").length=2/\(Str.ofString " then ").length=6/\(Str.ofString " within ").length=8/\(Str.ofString "sound").length=5/\(Str.ofString " = ").length=3/\(Str.ofString "\n").length=1:=by trivial
theorem kw1:L (Str.ofString "term")++L (Str.ofString " ")=L "term "/\L (Str.ofString "key")++L (Str.ofString " ")=L "key "/\L (Str.ofString " ")++(L (Str.ofString "and")++L (Str.ofString " "))=L " and "/\L (Str.ofString " ")++(L (Str.ofString "or")++L (Str.ofString " "))=L " or "/\L (Str.ofString "sound")++L (Str.ofString " ")=L "sound ":=by trivial
theorem Eu {n:Nat} (h:n < 100):(Str.ofString (toString (n:Int))).length<=2:=by rw[Hz];exact Hq h
theorem Dz {n:Nat} (h:n < 100):(n:Int).natAbs.log2 < 1920:=by
 rw[Int.natAbs_natCast];by_cases z:n=0
 ·rw[z];decide
 ·rw[Nat.log2_lt z];exact QaD h (Qby (by decide:100<=2 ^ 7) (Nat.pow_le_pow_right (by decide) (by decide)))
def Ux (D:Nat):Sp:=λvs H Q _=>∃(v:V) (c:Cd),vs=[v]/\Rep H v c.data/\c.ok/\c.deep<=D/\c.many<=20/\∀H',Same H H'->Q (.str (S c.txt)) H'
section
variable {P:Program} {w:World} {K:YD} {mg:YB} {base:Heap}
theorem X3 (C:Code K mg "show_condition" Gb Dp) (T:Tc mg):∀D,Good P w K mg base "show_condition" (1+D) Dp (Ux D):=by
 intro D
 induction D with
 | zero=>
  refine C.good CZ (λvs H Q E h=>?_) (λf cdv A outer s H vs Q E hr h=>?_)
  ·obtain⟨v,c,_,_,_,h0,_⟩:=h;have:=c.Jg;omega
  ·obtain⟨v,c,_,_,_,h0,_⟩:=h;have:=c.Jg;omega
 | succ D En=>
 refine C.good CZ (λvs H Q E h=>?_) (λf cdv A outer s H vs Q E hr h=>?_)
 ·obtain⟨v,c,rfl,_⟩:=h;rfl
 obtain⟨v,c,rfl,rd,ok,hd,hm,q⟩:=h;refine⟨_,(@Ad _ _ _ _ _ (@Bl _ _ 1 _ _ _ _ CZ.nd rfl (Or.inl rfl) (@Aw _ _ _ _ _ _ _ Bf (pv 0) Ab (λ_ _=>rfl)) (by rfl) (by first | exact .inl rfl | exact .inr rfl))
 (@Ad _ _ _ _ _ (Bh (Ay BR (pv 1) Aj (Ba _)) (@Ag _ _ _ (@Am _ _ _ _ (GX (Dd (@Aw _ _ _ _ _ _ _ Bf (pv 0) Ab (λ_ _=>rfl)) (Df Aj (Dd (@Aw _ _ _ _ _ _ _ Bf (pv 0) Ab (λ_ _=>rfl)) Im)))))) Ax)
 (@Ad _ _ _ _ _ (Bh (Ay BR (pv 1) Aj (Ba _)) (@Ag _ _ _ (@Am _ _ _ _ (GX (Df Aj (Dd (@Aw _ _ _ _ _ _ _ Bf (pv 0) Ab (λ_ _=>rfl)) (Df Aj (Dd (@Aw _ _ _ _ _ _ _ Bf (pv 0) Ab (λ_ _=>rfl)) Im))))))) Ax)
 (@Ad _ _ _ _ _ (Bh (Ay (RG (K:=K) rfl hr.Um) (pv 1) (Bq (Aa Aj (Aa Aj Ac))) (by with_unfolding_all rfl)) (@Ag _ _ _ (@Am _ _ _ _ (GX (Dd (pv 1) (Df Aj (Dd (@Aw _ _ _ _ _ _ _ Bf (pv 0) Ab (λ_ _=>rfl)) Im)))))) Ax)
 (@Ad _ _ _ _ _ (@Bl _ _ 2 _ _ _ _ CZ.nd rfl (Or.inl rfl) (Aq (hk:=(QbB _)) En hr (Aa (@Aw _ _ _ _ _ _ _ Bf (pv 0) Ab (λ_ _=>rfl)) Ac)) (by rfl) (by first | exact .inl rfl | exact .inr rfl))
 (@Ad _ _ _ _ _ (Bh (Ay BR (pv 1) Aj (Ba _)) (@Ag _ _ _ (@Am _ _ _ _ (GX (Df Aj (Dd (pv 2) Im))))) Ax)
 (@Ad _ _ _ _ _ (@Bl _ _ 3 _ _ _ _ CZ.nd rfl (Or.inl rfl) (Aq (hk:=(QbB _)) En hr (Aa (@Aw _ _ _ _ _ _ _ Bf (pv 0) Ab (λ_ _=>rfl)) Ac)) (by rfl) (by first | exact .inl rfl | exact .inr rfl))
 (@Ad _ _ _ _ _ (Bh (Ay BR (pv 1) Aj (Ba _)) (@Ag _ _ _ (@Am _ _ _ _ (GX (Df Aj (Dd (pv 2) (Df Aj (Dd (pv 3) (Df Aj (Dd (@Aw _ _ _ _ _ _ _ Bf (pv 0) Ab (λ_ _=>rfl)) (Df Aj Im)))))))))) Ax)
 (@Ag _ _ _ (@Am _ _ _ _ (GX (Df Aj (Dd (pv 2) (Df Aj (Dd (pv 1) (Df Aj (Dd (pv 3) (Df Aj Im)))))))))))))))))),?_⟩
 show let R0:TS:=_;let R1:TS:=_;let R2:TS:=Ak (Bu _ R1 _) R0;let R3:TS:=Ak _ R2;let R4:TS:=_;let R5:TS:=Ak (Bu _ R4 _) R3;let R6:TS:=Ak _ R5;let R7:TS:=_;let R8:TS:=Ak (Bu _ R7 _) R6;let R9:TS:=_;let R10:TS:=Ak (Bu _ R9 _) R8;let R11:TS:=_;let R12:TS:=Ak (Bu _ R11 _) R10;Ak _ R12 _ _ _;intro R0 R1 R2 R3 R4 R5 R6 R7 R8 R9 R10 R11 R12;have fin:∀(y:Str) (H':Hp),Same H H'->L y=c.txt->Q (.str y) H':=λy H' s e=>by
  rw[show y=S c.txt from HF e]
  exact q H' s
 obtain⟨l0,l1,l2,l3,l4,l5,l6,l7,l8,l9,l10,l11,l12,l13,_⟩:=ll;obtain⟨kt,kk,ka,ko,_⟩:=kw1;cases c with
 | off n z=>
  cases rd with
  | @tup t xs _ ht rs=>
  cases rs with
  | cons r1 rs=>
  cases rs with
  | cons r2 rs=>
  cases rs with
  | cons r3 rs=>
  cases rs;cases r1;cases r2;cases r3;obtain⟨h1,h2,h3,h4,h5⟩:=ok;have hn:=Eu (n:=n) (by omega);refine⟨_,rq,t,_,_,_,rq,rq,SqT.of ht,Ai (j:=0) rfl,?_⟩;refine⟨_,rq,rq,_,rq,ifS (λ_=>?_) (λz=>absurd rfl z)⟩;exact⟨_,rq,t,_,_,_,rq,rq,SqT.of ht,Ai (j:=1) rfl,Str.ofString (toString (n:Int)),.inr ⟨_,rq,Dz (by omega),rq⟩,szb (by simp only[QaI,l0,l1,l2,l3,l4,l5,l6,l7,l8,l9,l10,l11,l12,l13,Ah];omega),_,rq,szb (by simp only[QaI,l0,l1,l2,l3,l4,l5,l6,l7,l8,l9,l10,l11,l12,l13,Ah];omega),_,rq,t,_,_,_,rq,rq,SqT.of ht,Ai (j:=2) rfl,_,.inl rfl,szb (by simp only[QaI,l0,l1,l2,l3,l4,l5,l6,l7,l8,l9,l10,l11,l12,l13,Ah];omega),szb (by simp only[QaI,l0,l1,l2,l3,l4,l5,l6,l7,l8,l9,l10,l11,l12,l13,Ah];omega),fin _ _ (Same.refl _) (by simp only[Cp,Dh,Qba,QaJ,L_S];rfl)⟩
 | term z=>
  cases rd with
  | @tup t xs _ ht rs=>
  cases rs with
  | cons r1 rs=>
  cases rs with
  | cons r2 rs=>
  cases rs;cases r1;cases r2;obtain⟨h3,h4,h5⟩:=ok;refine⟨_,rq,t,_,_,_,rq,rq,SqT.of ht,Ai (j:=0) rfl,?_⟩;refine⟨_,rq,rq,_,rq,ifS (λz=>absurd z (by trivial)) (λ_=>?_)⟩;refine⟨_,rq,rq,_,rq,ifS (λz=>absurd z (by trivial)) (λ_=>?_)⟩;refine⟨_,rq,Ar (by show 2<=1000;decide),λp hp=>?_⟩;have sp:=Af hp (.tup [.str "key",.str "term"]);have cp:upd H p (.tup [.str "key",.str "term"]) p=some (.tup [.str "key",.str "term"]):=Ae;have ht:=sp _ _ ht;generalize upd H p (.tup [.str "key",.str "term"])=H1 at *;refine⟨p,_,.str "term",[.str "key",.str "term"],rq,SqT.of cp,.cons (.str _) (.cons (.str _) .nil),.str _,by trivial,by trivial,_,rq,IV (by trivial) ?_⟩;exact⟨_,rq,_,.inl rfl,szb (by simp only[QaI,l0,l1,l2,l3,l4,l5,l6,l7,l8,l9,l10,l11,l12,l13,Ah];omega),_,rq,szb (by simp only[QaI,l0,l1,l2,l3,l4,l5,l6,l7,l8,l9,l10,l11,l12,l13,Ah];omega),_,rq,t,_,_,_,rq,rq,SqT.of ht,Ai (j:=1) rfl,_,.inl rfl,szb (by simp only[QaI,l0,l1,l2,l3,l4,l5,l6,l7,l8,l9,l10,l11,l12,l13,Ah];omega),szb (by simp only[QaI,l0,l1,l2,l3,l4,l5,l6,l7,l8,l9,l10,l11,l12,l13,Ah];omega),fin _ _ sp (by simp only[Cp,Dh,Qba];rw[kt];rfl)⟩
 | key k=>
  cases rd with
  | @tup t xs _ ht rs=>
  cases rs with
  | cons r1 rs=>
  cases rs with
  | cons r2 rs=>
  cases rs;cases r1;cases r2;have h3:k<=9:=ok;have hn:=Eu (n:=k) (by omega);refine⟨_,rq,t,_,_,_,rq,rq,SqT.of ht,Ai (j:=0) rfl,?_⟩;refine⟨_,rq,rq,_,rq,ifS (λz=>absurd z (by trivial)) (λ_=>?_)⟩;refine⟨_,rq,rq,_,rq,ifS (λz=>absurd z (by trivial)) (λ_=>?_)⟩;refine⟨_,rq,Ar (by show 2<=1000;decide),λp hp=>?_⟩;have sp:=Af hp (.tup [.str "key",.str "term"]);have cp:upd H p (.tup [.str "key",.str "term"]) p=some (.tup [.str "key",.str "term"]):=Ae;have ht:=sp _ _ ht;generalize upd H p (.tup [.str "key",.str "term"])=H1 at *;refine⟨p,_,.str "key",[.str "key",.str "term"],rq,SqT.of cp,.cons (.str _) (.cons (.str _) .nil),.str _,by trivial,by trivial,_,rq,IV (by trivial) ?_⟩;exact⟨_,rq,_,.inl rfl,szb (by simp only[QaI,l0,l1,l2,l3,l4,l5,l6,l7,l8,l9,l10,l11,l12,l13,Ah];omega),_,rq,szb (by simp only[QaI,l0,l1,l2,l3,l4,l5,l6,l7,l8,l9,l10,l11,l12,l13,Ah];omega),_,rq,t,_,_,_,rq,rq,SqT.of ht,Ai (j:=1) rfl,Str.ofString (toString (k:Int)),.inr ⟨_,rq,Dz (by omega),rq⟩,szb (by simp only[QaI,l0,l1,l2,l3,l4,l5,l6,l7,l8,l9,l10,l11,l12,l13,Ah];omega),szb (by simp only[QaI,l0,l1,l2,l3,l4,l5,l6,l7,l8,l9,l10,l11,l12,l13,Ah];omega),fin _ _ sp (by simp only[Cp,Dh,Qba];rw[kk];rfl)⟩
 | hours a b=>
  cases rd with
  | @tup t xs _ ht rs=>
  cases rs with
  | cons r1 rs=>
  cases rs with
  | cons r2 rs=>
  cases rs with
  | cons r3 rs=>
  cases rs;cases r1;cases r2;cases r3;have h3:a<=23/\b<=23:=ok;have hn:=Eu (n:=a) (by omega);have hn':=Eu (n:=b) (by omega);refine⟨_,rq,t,_,_,_,rq,rq,SqT.of ht,Ai (j:=0) rfl,?_⟩;refine⟨_,rq,rq,_,rq,ifS (λz=>absurd z (by trivial)) (λ_=>?_)⟩;refine⟨_,rq,rq,_,rq,ifS (λ_=>?_) (λz=>absurd rfl z)⟩;exact⟨_,rq,szb (by simp only[QaI,l0,l1,l2,l3,l4,l5,l6,l7,l8,l9,l10,l11,l12,l13,Ah];omega),_,rq,t,_,_,_,rq,rq,SqT.of ht,Ai (j:=1) rfl,Str.ofString (toString (a:Int)),.inr ⟨_,rq,Dz (by omega),rq⟩,szb (by simp only[QaI,l0,l1,l2,l3,l4,l5,l6,l7,l8,l9,l10,l11,l12,l13,Ah];omega),_,rq,szb (by simp only[QaI,l0,l1,l2,l3,l4,l5,l6,l7,l8,l9,l10,l11,l12,l13,Ah];omega),_,rq,t,_,_,_,rq,rq,SqT.of ht,Ai (j:=2) rfl,Str.ofString (toString (b:Int)),.inr ⟨_,rq,Dz (by omega),rq⟩,szb (by simp only[QaI,l0,l1,l2,l3,l4,l5,l6,l7,l8,l9,l10,l11,l12,l13,Ah];omega),szb (by simp only[QaI,l0,l1,l2,l3,l4,l5,l6,l7,l8,l9,l10,l11,l12,l13,Ah];omega),fin _ _ (Same.refl _) (by simp only[Cp,Dh,Qba,QaJ,L_S];rfl)⟩
 | neg c=>
  cases rd with
  | @tup t xs _ ht rs=>
  cases rs with
  | cons r1 rs=>
  cases rs with
  | cons r2 rs=>
  cases rs;cases r1;have hd:c.deep+1<=D+1:=hd;have hm:c.many+1<=20:=hm;have hc:=BW (c:=c) ok;refine⟨_,rq,t,_,_,_,rq,rq,SqT.of ht,Ai (j:=0) rfl,?_⟩;refine⟨_,rq,rq,_,rq,ifS (λz=>absurd z (by trivial)) (λ_=>?_)⟩;refine⟨_,rq,rq,_,rq,ifS (λz=>absurd z (by trivial)) (λ_=>?_)⟩;refine⟨_,rq,Ar (by show 2<=1000;decide),λp hp=>?_⟩;have sp:=Af hp (.tup [.str "key",.str "term"]);have cp:upd H p (.tup [.str "key",.str "term"]) p=some (.tup [.str "key",.str "term"]):=Ae;have ht:=sp _ _ ht;generalize upd H p (.tup [.str "key",.str "term"])=H1 at *;refine⟨p,_,.str "not",[.str "key",.str "term"],rq,SqT.of cp,.cons (.str _) (.cons (.str _) .nil),.str _,by trivial,by trivial,_,rq,Ci (by trivial) ?_⟩;refine⟨_,rq,t,_,_,_,rq,rq,SqT.of ht,Ai (j:=1) rfl,_,c,rq,Rep.same sp r2,ok,by omega,by omega,λH2 s2=>?_⟩;have s02:=sp.trans s2;refine⟨_,rq,rq,_,rq,ifS (λ_=>?_) (λz=>absurd rfl z)⟩;exact⟨_,rq,szb (by simp only[QaI,l0,l1,l2,l3,l4,l5,l6,l7,l8,l9,l10,l11,l12,l13,Ah];omega),_,rq,_,.inl rfl,szb (by simp only[QaI,l0,l1,l2,l3,l4,l5,l6,l7,l8,l9,l10,l11,l12,l13,Ah];omega),szb (by simp only[QaI,l0,l1,l2,l3,l4,l5,l6,l7,l8,l9,l10,l11,l12,l13,Ah];omega),fin _ _ s02 (by simp only[Cp,Dh,Qba,QaJ,L_S];rfl)⟩
 | both c d=>
  cases rd with
  | @tup t xs _ ht rs=>
  cases rs with
  | cons r1 rs=>
  cases rs with
  | cons r2 rs=>
  cases rs with
  | cons r3 rs=>
  cases rs;cases r1;have hd:max c.deep d.deep+1<=D+1:=hd;have hm:c.many+d.many+1<=20:=hm;have d1:c.deep<=D:=by omega
  have d2:d.deep<=D:=by omega
  have hc:=BW (c:=c) ok.1;have hc2:=BW (c:=d) ok.2;refine⟨_,rq,t,_,_,_,rq,rq,SqT.of ht,Ai (j:=0) rfl,?_⟩;refine⟨_,rq,rq,_,rq,ifS (λz=>absurd z (by trivial)) (λ_=>?_)⟩;refine⟨_,rq,rq,_,rq,ifS (λz=>absurd z (by trivial)) (λ_=>?_)⟩;refine⟨_,rq,Ar (by show 2<=1000;decide),λp hp=>?_⟩;have sp:=Af hp (.tup [.str "key",.str "term"]);have cp:upd H p (.tup [.str "key",.str "term"]) p=some (.tup [.str "key",.str "term"]):=Ae;have ht:=sp _ _ ht;generalize upd H p (.tup [.str "key",.str "term"])=H1 at *;refine⟨p,_,.str "and",[.str "key",.str "term"],rq,SqT.of cp,.cons (.str _) (.cons (.str _) .nil),.str _,by trivial,by trivial,_,rq,Ci (by trivial) ?_⟩;refine⟨_,rq,t,_,_,_,rq,rq,SqT.of ht,Ai (j:=1) rfl,_,c,rq,Rep.same sp r2,ok.1,d1,by omega,λH2 s2=>?_⟩;have s02:=sp.trans s2;refine⟨_,rq,rq,_,rq,ifS (λz=>absurd z (by trivial)) (λ_=>?_)⟩;refine⟨_,rq,t,_,_,_,rq,rq,SqT.of (s2 _ _ ht),Ai (j:=2) rfl,_,d,rq,Rep.same s02 r3,ok.2,d2,by omega,λH3 s3=>?_⟩;have s03:=s02.trans s3;refine⟨_,rq,rq,_,rq,ifS (λz=>absurd z (by trivial)) (λ_=>?_)⟩;refine⟨_,rq,szb (by simp only[QaI,l0,l1,l2,l3,l4,l5,l6,l7,l8,l9,l10,l11,l12,l13,Ah];omega),_,rq,_,.inl rfl,szb (by simp only[QaI,l0,l1,l2,l3,l4,l5,l6,l7,l8,l9,l10,l11,l12,l13,Ah];omega),_,rq,szb (by simp only[QaI,l0,l1,l2,l3,l4,l5,l6,l7,l8,l9,l10,l11,l12,l13,Ah];omega),_,rq,_,.inl rfl,szb (by simp only[QaI,l0,l1,l2,l3,l4,l5,l6,l7,l8,l9,l10,l11,l12,l13,Ah];omega),_,rq,szb (by simp only[QaI,l0,l1,l2,l3,l4,l5,l6,l7,l8,l9,l10,l11,l12,l13,Ah];omega),_,rq,_,.inl rfl,szb (by simp only[QaI,l0,l1,l2,l3,l4,l5,l6,l7,l8,l9,l10,l11,l12,l13,Ah];omega),_,rq,szb (by simp only[QaI,l0,l1,l2,l3,l4,l5,l6,l7,l8,l9,l10,l11,l12,l13,Ah];omega),szb (by simp only[QaI,l0,l1,l2,l3,l4,l5,l6,l7,l8,l9,l10,l11,l12,l13,Ah];omega),fin _ _ s03 ?_⟩;simp only[Cp,Dh,Qba,QaJ,L_S];show _=L "("++(c.txt++(L " and "++(d.txt++L ")")));rw[<-ka];simp only[QaJ]
 | any c d=>
  cases rd with
  | @tup t xs _ ht rs=>
  cases rs with
  | cons r1 rs=>
  cases rs with
  | cons r2 rs=>
  cases rs with
  | cons r3 rs=>
  cases rs;cases r1;have hd:max c.deep d.deep+1<=D+1:=hd;have hm:c.many+d.many+1<=20:=hm;have d1:c.deep<=D:=by omega
  have d2:d.deep<=D:=by omega
  have hc:=BW (c:=c) ok.1;have hc2:=BW (c:=d) ok.2;refine⟨_,rq,t,_,_,_,rq,rq,SqT.of ht,Ai (j:=0) rfl,?_⟩;refine⟨_,rq,rq,_,rq,ifS (λz=>absurd z (by trivial)) (λ_=>?_)⟩;refine⟨_,rq,rq,_,rq,ifS (λz=>absurd z (by trivial)) (λ_=>?_)⟩;refine⟨_,rq,Ar (by show 2<=1000;decide),λp hp=>?_⟩;have sp:=Af hp (.tup [.str "key",.str "term"]);have cp:upd H p (.tup [.str "key",.str "term"]) p=some (.tup [.str "key",.str "term"]):=Ae;have ht:=sp _ _ ht;generalize upd H p (.tup [.str "key",.str "term"])=H1 at *;refine⟨p,_,.str "or",[.str "key",.str "term"],rq,SqT.of cp,.cons (.str _) (.cons (.str _) .nil),.str _,by trivial,by trivial,_,rq,Ci (by trivial) ?_⟩;refine⟨_,rq,t,_,_,_,rq,rq,SqT.of ht,Ai (j:=1) rfl,_,c,rq,Rep.same sp r2,ok.1,d1,by omega,λH2 s2=>?_⟩;have s02:=sp.trans s2;refine⟨_,rq,rq,_,rq,ifS (λz=>absurd z (by trivial)) (λ_=>?_)⟩;refine⟨_,rq,t,_,_,_,rq,rq,SqT.of (s2 _ _ ht),Ai (j:=2) rfl,_,d,rq,Rep.same s02 r3,ok.2,d2,by omega,λH3 s3=>?_⟩;have s03:=s02.trans s3;refine⟨_,rq,rq,_,rq,ifS (λz=>absurd z (by trivial)) (λ_=>?_)⟩;refine⟨_,rq,szb (by simp only[QaI,l0,l1,l2,l3,l4,l5,l6,l7,l8,l9,l10,l11,l12,l13,Ah];omega),_,rq,_,.inl rfl,szb (by simp only[QaI,l0,l1,l2,l3,l4,l5,l6,l7,l8,l9,l10,l11,l12,l13,Ah];omega),_,rq,szb (by simp only[QaI,l0,l1,l2,l3,l4,l5,l6,l7,l8,l9,l10,l11,l12,l13,Ah];omega),_,rq,_,.inl rfl,szb (by simp only[QaI,l0,l1,l2,l3,l4,l5,l6,l7,l8,l9,l10,l11,l12,l13,Ah];omega),_,rq,szb (by simp only[QaI,l0,l1,l2,l3,l4,l5,l6,l7,l8,l9,l10,l11,l12,l13,Ah];omega),_,rq,_,.inl rfl,szb (by simp only[QaI,l0,l1,l2,l3,l4,l5,l6,l7,l8,l9,l10,l11,l12,l13,Ah];omega),_,rq,szb (by simp only[QaI,l0,l1,l2,l3,l4,l5,l6,l7,l8,l9,l10,l11,l12,l13,Ah];omega),szb (by simp only[QaI,l0,l1,l2,l3,l4,l5,l6,l7,l8,l9,l10,l11,l12,l13,Ah];omega),fin _ _ s03 ?_⟩;simp only[Cp,Dh,Qba,QaJ,L_S];show _=L "("++(c.txt++(L " or "++(d.txt++L ")")));rw[<-ko];simp only[QaJ]
 | thn c d n=>
  cases rd with
  | @tup t xs _ ht rs=>
  cases rs with
  | cons r1 rs=>
  cases rs with
  | cons r2 rs=>
  cases rs with
  | cons r3 rs=>
  cases rs with
  | cons r4 rs=>
  cases rs;cases r1;cases r4;have hd:max c.deep d.deep+1<=D+1:=hd;have hm:c.many+d.many+1<=20:=hm;have d1:c.deep<=D:=by omega
  have d2:d.deep<=D:=by omega
  have hc:=BW (c:=c) ok.1;have hc2:=BW (c:=d) ok.2.1;have hn:=Eu (n:=n) (by have:=ok.2.2.2;omega);have h20:=ok.2.2.2;refine⟨_,rq,t,_,_,_,rq,rq,SqT.of ht,Ai (j:=0) rfl,?_⟩;refine⟨_,rq,rq,_,rq,ifS (λz=>absurd z (by trivial)) (λ_=>?_)⟩;refine⟨_,rq,rq,_,rq,ifS (λz=>absurd z (by trivial)) (λ_=>?_)⟩;refine⟨_,rq,Ar (by show 2<=1000;decide),λp hp=>?_⟩;have sp:=Af hp (.tup [.str "key",.str "term"]);have cp:upd H p (.tup [.str "key",.str "term"]) p=some (.tup [.str "key",.str "term"]):=Ae;have ht:=sp _ _ ht;generalize upd H p (.tup [.str "key",.str "term"])=H1 at *;refine⟨p,_,.str "then",[.str "key",.str "term"],rq,SqT.of cp,.cons (.str _) (.cons (.str _) .nil),.str _,by trivial,by trivial,_,rq,Ci (by trivial) ?_⟩;refine⟨_,rq,t,_,_,_,rq,rq,SqT.of ht,Ai (j:=1) rfl,_,c,rq,Rep.same sp r2,ok.1,d1,by omega,λH2 s2=>?_⟩;have s02:=sp.trans s2;refine⟨_,rq,rq,_,rq,ifS (λz=>absurd z (by trivial)) (λ_=>?_)⟩;refine⟨_,rq,t,_,_,_,rq,rq,SqT.of (s2 _ _ ht),Ai (j:=2) rfl,_,d,rq,Rep.same s02 r3,ok.2.1,d2,by omega,λH3 s3=>?_⟩;have s03:=s02.trans s3;refine⟨_,rq,rq,_,rq,ifS (λ_=>?_) (λz=>absurd rfl z)⟩;exact⟨_,rq,szb (by simp only[QaI,l0,l1,l2,l3,l4,l5,l6,l7,l8,l9,l10,l11,l12,l13,Ah];omega),_,rq,_,.inl rfl,szb (by simp only[QaI,l0,l1,l2,l3,l4,l5,l6,l7,l8,l9,l10,l11,l12,l13,Ah];omega),_,rq,szb (by simp only[QaI,l0,l1,l2,l3,l4,l5,l6,l7,l8,l9,l10,l11,l12,l13,Ah];omega),_,rq,_,.inl rfl,szb (by simp only[QaI,l0,l1,l2,l3,l4,l5,l6,l7,l8,l9,l10,l11,l12,l13,Ah];omega),_,rq,szb (by simp only[QaI,l0,l1,l2,l3,l4,l5,l6,l7,l8,l9,l10,l11,l12,l13,Ah];omega),_,rq,t,_,_,_,rq,rq,SqT.of (s3 _ _ (s2 _ _ ht)),Ai (j:=3) rfl,Str.ofString (toString (n:Int)),.inr ⟨_,rq,Dz (by omega),rq⟩,szb (by simp only[QaI,l0,l1,l2,l3,l4,l5,l6,l7,l8,l9,l10,l11,l12,l13,Ah];omega),_,rq,szb (by simp only[QaI,l0,l1,l2,l3,l4,l5,l6,l7,l8,l9,l10,l11,l12,l13,Ah];omega),szb (by simp only[QaI,l0,l1,l2,l3,l4,l5,l6,l7,l8,l9,l10,l11,l12,l13,Ah];omega),fin _ _ s03 (by simp only[Cp,Dh,Qba,QaJ,L_S];rfl)⟩
end
theorem Ge (l:List Nat) (y:Str) (i:Nat):Builtin.Str.subAt (S l) y i=true ↔ (l.drop i).take y.length=L y:=by
 unfold Builtin.Str.subAt;rw[beq_iff_eq];constructor
 ·intro h;have h:=congrArg Array.toList h;rw[Qau] at h;rw[<-show y.cps.toList=L y from rfl,<-h]
  show _=((S l).cps.toList.drop i).take (i+y.length - i);rw[Nat.add_sub_cancel_left];rfl
 ·intro h;refine Array.toList_inj.mp ?_;rw[Qau];show ((S l).cps.toList.drop i).take (i+y.length - i)=L y;rw[Nat.add_sub_cancel_left];exact h
theorem Ma (l:List Nat) (y:Str):Txt.startswith (S l) y=true ↔ ∃r,l=L y++r:=by
 unfold Txt.startswith
 rw[QaR,QaF,Ge,List.drop_zero,Ah];constructor
 ·rintro ⟨_,h⟩;exact⟨l.drop y.length,by rw[<-h,List.take_append_drop]⟩
 ·rintro ⟨r,rfl⟩;have e:=Hz y;refine⟨by rw[Qaz];omega,?_⟩;rw[e,List.take_left'];rfl
theorem Pu {l r:List Nat} {y:Str} (h:l=L y++r):Txt.startswith (S l) y=true:=(Ma l y).mpr ⟨r,h⟩
theorem Ei {c:Nat} {l:List Nat} {y:Str} {d:Nat} {t:List Nat} (hy:L y=d::t) (h:c≠d):Txt.startswith (S (c::l)) y=false:=by
 cases e:Txt.startswith (S (c::l)) y with
 | false=>rfl
 | true=>
  obtain⟨r,hr⟩:=(Ma _ _).mp e;rw[hy] at hr;injection hr with hr _;exact absurd hr h
theorem ZF (l:List Nat):Txt.endswith (S (l++L "\n")) "\n"=true:=by
 have e:(Str.ofString "\n").length=1:=by trivial
 have e2:(L (Str.ofString "\n")).length=1:=by trivial
 unfold Txt.endswith
 rw[QaR,QaF,Ge,Ah,Qaz,e,e2];refine⟨by omega,?_⟩;rw[Nat.add_sub_cancel,Qbn]
 ·exact List.take_of_length_le (by omega)
 ·rfl
theorem XR {h b:List Nat} (hh:∀c∈h,c≠61):Txt.partition (S (h++(L " = "++b))) " = "=(S h,(" = ":Str),S b):=by
 have ey:L (Str.ofString " = ")=[32,61,32]:=by trivial
 have yl:(Str.ofString " = ").length=3:=by trivial
 have at_:StrLaws.At (S (h++(L " = "++b))) " = " (S (h++(L " = "++b))).length h.length:=by
  refine⟨?_,(Ge _ _ _).mpr ?_⟩
  ·rw[Ah,Qaz,Qaz,ey,yl];show _+3<=_+(3+_);omega
  ·rw[Qbn rfl,yl,ey];rfl
 have no:∀k,k < h.length->¬StrLaws.At (S (h++(L " = "++b))) " = " (S (h++(L " = "++b))).length k:=λk hk w=>by
  have w2:=(Ge _ _ _).mp w.2;rw[yl,ey] at w2;have g:((h++(L " = "++b)).drop k)[1]?=some 61:=by
   have:(((h++(L " = "++b)).drop k).take 3)[1]?=some 61:=by rw[ey,w2];rfl
   rw[List.getElem?_take] at this;simpa using this
  rw[List.getElem?_drop] at g;by_cases hk1:k+1 < h.length
  ·rw[Qaf hk1] at g;exact hh 61 (Qat g) rfl
  ·have:k+1=h.length:=by omega
   rw[this,Qad (QbB _),Nat.sub_self,ey] at g;cases g
 unfold Txt.partition;rcases StrLaws.occ_head (S (h++(L " = "++b))) " = " 1 (QbB _) with⟨e,hn⟩|⟨i,r,e,hi,hn⟩
 ·exact absurd at_ (hn _)
 ·have:i=h.length:=by
   rcases Nat.lt_trichotomy i h.length with z | z | z
   ·exact absurd hi (no i z)
   ·exact z
   ·exact absurd at_ (hn _ z)
  subst this;rw[e];refine Prod.ext ?_ (Prod.ext rfl ?_)
  ·refine HF ?_;show ((S (h++(L " = "++b))).cps.extract 0 h.length).toList=h;rw[Qau];show ((h++(L " = "++b)).drop 0).take (h.length - 0)=h;rw[List.drop_zero,Nat.sub_zero,List.take_left'];rfl
  ·refine HF ?_;show ((S (h++(L " = "++b))).cps.extract (h.length+(Str.ofString " = ").length) (S (h++(L " = "++b))).length).toList=b;rw[Qau,Ah,yl];show ((h++(L " = "++b)).drop (h.length+3)).take _=b;rw[<-List.drop_drop,Qbn rfl,ey];show b.take _=b;refine List.take_of_length_le ?_;rw[Qaz,Qaz];show _<=h.length+(3+b.length) - (h.length+3);omega
theorem Zd {h b:List Nat} (hh:∀c∈h,c≠32):Txt.partition (S (h++(L " "++b))) " "=(S h,(" ":Str),S b):=by
 have ey:L (Str.ofString " ")=[32]:=by trivial
 have yl:(Str.ofString " ").length=1:=by trivial
 have at_:StrLaws.At (S (h++(L " "++b))) " " (S (h++(L " "++b))).length h.length:=by
  refine⟨?_,(Ge _ _ _).mpr ?_⟩
  ·rw[Ah,Qaz,Qaz,ey,yl];show _+1<=_+(1+_);omega
  ·rw[Qbn rfl,yl,ey];rfl
 have no:∀k,k < h.length->¬StrLaws.At (S (h++(L " "++b))) " " (S (h++(L " "++b))).length k:=λk hk w=>by
  have w2:=(Ge _ _ _).mp w.2;rw[yl,ey] at w2;have g:((h++(L " "++b)).drop k)[0]?=some 32:=by
   have:(((h++(L " "++b)).drop k).take 1)[0]?=some 32:=by rw[ey,w2];rfl
   rw[List.getElem?_take] at this;simpa using this
  rw[List.getElem?_drop,Nat.add_zero,Qaf hk] at g;exact hh 32 (Qat g) rfl
 unfold Txt.partition;rcases StrLaws.occ_head (S (h++(L " "++b))) " " 1 (QbB _) with⟨e,hn⟩|⟨i,r,e,hi,hn⟩
 ·exact absurd at_ (hn _)
 ·have:i=h.length:=by
   rcases Nat.lt_trichotomy i h.length with z | z | z
   ·exact absurd hi (no i z)
   ·exact z
   ·exact absurd at_ (hn _ z)
  subst this;rw[e];refine Prod.ext ?_ (Prod.ext rfl ?_)
  ·refine HF ?_;show ((S (h++(L " "++b))).cps.extract 0 h.length).toList=h;rw[Qau];show ((h++(L " "++b)).drop 0).take (h.length - 0)=h;rw[List.drop_zero,Nat.sub_zero,List.take_left'];rfl
  ·refine HF ?_;show ((S (h++(L " "++b))).cps.extract (h.length+(Str.ofString " ").length) (S (h++(L " "++b))).length).toList=b;rw[Qau,Ah,yl];show ((h++(L " "++b)).drop (h.length+1)).take _=b;rw[<-List.drop_drop,Qbn rfl,ey];show b.take _=b;refine List.take_of_length_le ?_;rw[Qaz,Qaz];show _<=h.length+(1+b.length) - (h.length+1);omega
def nlS:Str:=⟨#[10]⟩
theorem aD:Str.ofString "\n"=nlS:=by trivial
def jn:List (List Nat)->List Nat
 | []=>[]
 | [a]=>a
 | a::b::r=>a++10::jn (b::r)
theorem RP:∀ps:YF,L (Str.join nlS ps)=jn (ps.map L)
 | []=>rfl
 | [a]=>rfl
 | a::b::r=>by
  show L ((a++nlS)++Str.join nlS (b::r))=L a++10::jn ((b::r).map L);rw[Cp,Cp,RP (b::r),QaJ];rfl
theorem Yl {a b x y:List Nat} (ha:∀c∈a,c≠10) (hb:∀c∈b,c≠10) (h:a++10::x=b++10::y):a=b/\x=y:=by
 induction a generalizing b with
 | nil=>
  cases b with
  | nil=>injection h with _ h;exact⟨rfl,h⟩
  | cons d t=>injection h with h _;exact absurd h.symm (hb d (QaB ..))
 | cons c s ih=>
  cases b with
  | nil=>injection h with h _;exact absurd h (ha c (QaB ..))
  | cons d t=>
   injection h with h1 h2;obtain⟨e1,e2⟩:=ih (λx hx=>ha x (Qas _ hx)) (λx hx=>hb x (Qas _ hx)) h2;exact⟨by rw[h1,e1],e2⟩
theorem Vi:∀{ps qs:List (List Nat)},ps≠[]->qs≠[]->(∀p∈ps,∀c∈p,c≠10)->(∀p∈qs,∀c∈p,c≠10)->jn ps=jn qs->ps=qs
 | [a],[b],_,_,_,_,h=>by rw[show a=b from h]
 | [a],b::d::r,_,_,hp,_,h=>by
  have h:a=b++10::jn (d::r):=h;exact absurd rfl (hp a (QaB ..) 10 (by rw[h];simp))
 | a::c::r,[b],_,_,_,hq,h=>by
  have h:a++10::jn (c::r)=b:=h;exact absurd rfl (hq b (QaB ..) 10 (by rw[<-h];simp))
 | a::c::r,b::d::t,_,_,hp,hq,h=>by
  have h:a++10::jn (c::r)=b++10::jn (d::t):=h;obtain⟨e1,e2⟩:=Yl (hp a (QaB ..)) (hq b (QaB ..)) h;rw[e1,Vi (by simp) (by simp) (λp h=>hp p (Qas _ h)) (λp h=>hq p (Qas _ h)) e2]
theorem V3 (x y:Str):Txt.split x y≠[]:=by
 unfold Txt.split;split
 ·simp
 ·split
  ·simp
  ·rw[StrLaws.partsBetween_eq];cases Builtin.Str.occurrences x y 0 x.length (x.length+1) <;> simp[StrLaws.partsFrom]
theorem map_inj {ps qs:YF} (h:ps.map L=qs.map L):ps=qs:=by
 have:=congrArg (List.map S) h;rw[List.map_map,List.map_map] at this;have e:(S ∘ L)=id:=by funext s;rfl
 rw[e,List.map_id,List.map_id] at this;exact this
theorem SM {rows:List (List Nat)} (h:∀r∈rows,∀c∈r,c≠10):Txt.split (S ((rows.map λr=>r++[10]).flatten)) "\n"=(rows++[[]]).map S:=by
 rw[aD];have e1:=StrLaws.join_split (S ((rows.map λr=>r++[10]).flatten)) nlS;have e2:=StrLaws.split_free (S ((rows.map λr=>r++[10]).flatten)) 10;have e3:=congrArg L e1;rw[RP] at e3;have e4:∀rs:List (List Nat),jn (rs++[[]])=(rs.map λr=>r++[10]).flatten:=by
  intro rs
  induction rs with
  | nil=>rfl
  | cons a t ih=>
   cases t with
   | nil=>show a++10::[]=(a++[10])++[];rw[Qbk]
   | cons b t=>
    show a++10::jn ((b::t)++[[]])=(a++[10])++_;rw[ih,QaJ];rfl
 have e5:(Txt.split (S ((rows.map λr=>r++[10]).flatten)) nlS).map L=rows++[[]]:=by
  refine Vi (λz=>?_) (by simp) (λp hp c hc z=>?_) (λp hp c hc=>?_) ?_
  ·exact V3 _ _ (List.map_eq_nil_iff.mp z)
  ·obtain⟨s,hs,rfl⟩:=QbA.mp hp;exact e2 s hs (by rw[<-z];exact hc)
  ·rcases Qbb.mp hp with hp | hp
   ·exact h p hp c hc
   ·rw[QaE.mp hp] at hc;cases hc
  ·rw[e3,e4];rfl
 refine map_inj ?_;rw[e5,List.map_map];have e:(L ∘ S)=id:=by funext s;rfl
 rw[e,List.map_id]
abbrev Jj:Stmt:=top 26
abbrev Di:YF:=["text"]
theorem Ie:Bc ["text","many"] Di (Ao Jj):=by ac_rfl
abbrev Ig:Stmt:=top 27
abbrev Dn:YF:=["text","many"]
theorem Dv:Bc ["text","many","words","rest","number","word"] Dn (Ao Ig):=by ac_rfl
abbrev Hs:Stmt:=top 11
abbrev Cu:YF:=["text"]
theorem MK:Bc ["text"] Cu (Ao Hs):=by ac_rfl
abbrev Jk:Stmt:=top 28
abbrev Et:YF:=["text"]
theorem EY:Bc ["text","first","rest","words"] Et (Ao Jk):=by ac_rfl
structure Tx (K:YD) (P:Params) (mg:YB) (wA:Addr):Prop extends Tc mg where
 WORDS_BEHIND:∃u,mg "WORDS_BEHIND"=some u/\RelV (.ref wA) u
 dw:KD K P wA
 dk:∃tk,nsIn K wA "key"=some (some (.int 1 tk))
 dt:∃tk,nsIn K wA "term"=some (some (.int 1 tk))
 dh:∃tk,nsIn K wA "hours"=some (some (.int 3 tk))
 dn:∀n,1<=n->n<=9->nsIn K wA (S (num n))=some none
 WORDS_BEHIND_NUMBER:∃u,mg "WORDS_BEHIND_NUMBER"=some u/\RelV (.int 2) u
 FIGURES:∃u,mg "FIGURES"=some u/\RelV (.str "0123456789") u
def Free (w:List Nat):Prop:=∀c∈w,stop c=false
def Jh (r:List Nat):Prop:=r=[]\/∃c r',r=c::r'/\stop c=true
def jw (ws:List (List Nat)) (r:List Nat):List Nat:=match ws with
 | []=>r
 | w::t=>32::(w++jw t r)
theorem Jw {ws:List (List Nat)} {r:List Nat} (h:Jh r):Jh (jw ws r):=by
 cases ws with
 | nil=>exact h
 | cons w t=>exact .inr ⟨32,_,rfl,by decide⟩
theorem HW (r:List Nat):Jh (32::r):=.inr ⟨32,r,rfl,by decide⟩
theorem Pq (r:List Nat):Jh (41::r):=.inr ⟨41,r,rfl,by decide⟩
theorem G3 {n:Nat} (h:n < 100):Free (num n):=λc hc=>by
 have:=QaS.mp (K1 n h).2.2.2 c hc;cases e:stop c with
 | false=>rfl
 | true=>rw[e] at this;cases this
theorem M7 {z:Str} (h:okS z):Free (L z):=λc hc=>by
 have key:abc.cps.toList.all (λc=>!stop c)=true:=by trivial
 have:=QaS.mp key c (h c hc);cases e:stop c with
 | false=>rfl
 | true=>rw[e] at this;cases this
theorem Ql:Free (L "of")/\Free (L "to")/\Free (L "within")/\Free (L "key")/\Free (L "term")/\Free (L "hours")/\Free (L "and")/\Free (L "or")/\Free (L "then"):=by
 have key:∀w∈[L "of",L "to",L "within",L "key",L "term",L "hours",L "and",L "or",L "then"],w.all (λc=>!stop c)=true:=by trivial
 have f:∀w∈[L "of",L "to",L "within",L "key",L "term",L "hours",L "and",L "or",L "then"],Free w:=λw hw c hc=>by
  have:=QaS.mp (key w hw) c hc;cases e:stop c with
  | false=>rfl
  | true=>rw[e] at this;cases this
 exact⟨f _ (by simp),f _ (by simp),f _ (by simp),f _ (by simp),f _ (by simp),f _ (by simp),f _ (by simp),f _ (by simp),f _ (by simp)⟩
theorem Qk:L " of "=32::(L "of"++[32])/\L "term "=L "term"++[32]/\L "key "=L "key"++[32]/\L "hours "=L "hours"++[32]/\L " to "=32::(L "to"++[32])/\L " and "=32::(L "and"++[32])/\L " or "=32::(L "or"++[32])/\L " then "=32::(L "then"++[32])/\L " within "=32::(L "within"++[32])/\L "("=[40]/\L ")"=[41]/\L "not "=[110,111,116,32]:=by trivial
theorem Qh {n:Nat} (h:n < 100) {y:Str} (hy:3<=y.length):S (num n)≠y:=λe=>by
 have h1:=Hq h;rw[<-e,Ah] at hy;omega
def Py:Sp:=λvs H Q _=>∃(w r:List Nat),vs=[.str (S (w++r))]/\Free w/\Jh r/\(w++r).length<=9000/\∀p H',H' p=some (.tup [.str (S w),.str (S r)])->Same H H'->Q (.ref p) H'
def O6:Sp:=λvs H Q _=>∃(ws:List (List Nat)) (r:List Nat),vs=[.str (S (jw ws r)),.int ws.length]/\(∀w∈ws,Free w)/\Jh r/\(jw ws r).length<=9000/\ws.length<=9/\∀p l H',H' p=some (.tup [.ref l,.str (S r)])->H' l=some (.lst (ws.map λw=>V.str (S w)))->Same H H'->Q (.ref p) H'
def Pz:Sp:=λvs H Q _=>∃n:Nat,vs=[.str (S (num n))]/\n < 100/\∀H',Same H H'->Q (.int n) H'
theorem YQ {l:List Nat} {i c:Nat} (h:l[i]?=some c):atI (S l).cps.toList (i:Int)=some c:=Ai h
def Zq:Cd->Prop
 | .off _ _=>True
 | .term _=>True
 | .key _=>True
 | .hours _ _=>True
 | _=>False
def V4:Sp:=λvs H Q _=>∃(c:Cd) (r:List Nat),vs=[.str (S (c.txt++r))]/\Zq c/\c.ok/\Jh r/\(c.txt++r).length<=9000/\∀p t H',H' p=some (.tup [.ref t,.str (S r)])->Rep H' (.ref t) c.data->Same H H'->Q (.ref p) H'
section
variable {P:Program} {w:World} {K:YD} {mg:YB} {base:Heap} {wA:Addr}
theorem Qe (C:Code K mg "take_word" Jj Di) (T:Tx K w.params mg wA):Good P w K mg base "take_word" 1 Di Py:=by
 refine C.good Ie (λvs H Q E h=>?_) (λf cdv A outer s H vs Q E hr h=>?_)
 ·obtain⟨w,r,rfl,_⟩:=h;rfl
 obtain⟨wd,r,rfl,fw,sr,l9,q⟩:=h;refine⟨_,(Ad (Bl (i:=1) Ie.nd rfl (Or.inl rfl) Ab)
 (Ad (Wc Qbg (PW.pt (Mj (Ay KY (pv 1) (Bd Ja rfl T.len DQ (Aa (pv 0) Ac)) (Ba _)) (KJ (Ay Qc (Aw Vj (pv 0) (pv 1) (λ_ _=>rfl)) Aj (by with_unfolding_all rfl))))) (Ag (U7 (i:=1) Ie.nd rfl (Or.inl rfl) Ab Vm)))
 (Ag (Am (Bq (Aa (Ce Ez (pv 0) Dw (Cq (pv 1))) (Aa (Ce Ez (pv 0) (Cq (pv 1)) Dw) Ac))))))),?_⟩
 show let R0:TS:=_;let R1:TS:=_;let R2:TS:=Ak (Us _ R1) R0;Ak _ R2 _ _ _;intro R0 R1 R2;have ls:(S (wd++r)).length<=sizeLine:=szb (by rw[Ah];omega);refine⟨λm U HH=>∃i,m=wd.length - i/\i<=wd.length/\U=[some (.str (S (wd++r))),some (.int (i:Int))]/\HH=H,⟨_,0,rq,QbC _,rq,rq⟩,λm U HH h=>?_⟩;obtain⟨i,rfl,hi,rfl,rfl⟩:=h;refine⟨_,rq,_,rq,_,rq,ls,_,_,rq,rq,_,rq,?_⟩;rw[Ah];have fin:i=wd.length->∀p,HH p=none->Q (.ref p) (upd HH p (.tup [.str (Txt.slice (S (wd++r)) none (some (i:Int))),.str (Txt.slice (S (wd++r)) (some (i:Int)) none)])):=λe p hp=>by
  subst e;rw[Z9 (by rw[Qaz];omega),MJ (by rw[Qaz];omega),List.take_left' rfl,Qbn rfl];exact q p _ Ae (Af hp _)
 by_cases hlt:i < (wd++r).length
 ·rw[Qbo (show (i:Int) < ((wd++r).length:Nat) by omega)];obtain⟨c,hc⟩ : ∃c,(wd++r)[i]?=some c:=⟨_,Qah hlt⟩;refine Bt ⟨_,rq,_,rq,_,_,c,rq,rq,ls,YQ hc,_,_,rq,rq,_,rq,?_⟩;rw[V2];by_cases hw:i < wd.length
  ·rw[Qaf hw] at hc;rw[fw c (Qat hc)];exact Bt ⟨_,fun σ' H' h'=>h',_,rq,_,_,rq,rq,⟨wd.length - (i+1),by omega,i+1,rq,by omega,rq,rq⟩⟩
  ·have e:i=wd.length:=by omega
   have sc:stop c=true:=by
    rw[e,Qad (QbB _),Nat.sub_self] at hc;rcases sr with rfl |⟨c',r',rfl,hs⟩
    ·cases hc
    ·cases hc;exact hs
   rw[sc];exact Bx ⟨_,rq,_,rq,_,rq,_,rq,ls,_,rq,_,rq,_,rq,_,rq,ls,Ar (by show 2<=1000;decide),fin e⟩
 ·have e:i=wd.length:=by rw[Qaz] at hlt;omega
  rw[QaZ (show ¬(i:Int) < ((wd++r).length:Nat) by omega)];exact Bx (Bx ⟨_,rq,_,rq,_,rq,_,rq,ls,_,rq,_,rq,_,rq,_,rq,ls,Ar (by show 2<=1000;decide),fin e⟩)
theorem Om (C:Code K mg "take_words" Ig Dn) (T:Tx K w.params mg wA) (DW:Good P w K mg base "take_word" 1 Di Py):Good P w K mg base "take_words" 2 Dn O6:=by
 refine C.good Dv (λvs H Q E h=>?_) (λf cdv A outer s H vs Q E hr h=>?_)
 ·obtain⟨ws,r,rfl,_⟩:=h;rfl
 obtain⟨ws,r,rfl,fw,sr,l9,lw,q⟩:=h;refine⟨_,(Ad (Bl (i:=2) Dv.nd rfl (Or.inl rfl) (Dl Ac))
 (Ad (Bl (i:=3) Dv.nd rfl (Or.inl rfl) (pv 0))
 (Ad (Il Qbg rfl (Fd rfl T.range (Aa (pv 1) Ac)) (Az (i:=4) Dv.nd rfl (Or.inl rfl))
 (Ad (Dc (Aq DW hr (Aa (Ce Ez (pv 3) (Cq Ab) Dw) Ac)) (Ep rfl (Bk (Az (i:=5) Dv.nd rfl (Or.inl rfl)) (Bk (Az (i:=3) Dv.nd rfl (Or.inl rfl)) Dy))))
 (Ag (KN (FW Qan Qai Qaj Gi (pv 2) (Aa (pv 5) Ac))))))
 (Ag (Am (Bq (Aa (pv 2) (Aa (pv 3) Ac)))))))),?_⟩
 show let R0:TS:=_;let R1:TS:=_;let R2:TS:=Ak _ R1;let R3:TS:=Ak (Kd _ _ R2) R0;let R4:TS:=Ak _ R3;Ak _ R4 _ _ _;intro R0 R1 R2 R3 R4;refine⟨Ar (by show 0<=1000;decide),λl hl=>⟨_,rq,_,rq,_,rq,by omega,by omega,?_⟩⟩;rw[QaP];have jd:∀i,(jw (ws.drop i) r).length<=9000:=λi=>by
  refine Qby ?_ l9;clear q
  induction i generalizing ws with
  | zero=>exact QbB _
  | succ i ih=>
   cases ws with
   | nil=>exact QbB _
   | cons a t=>
    refine Qby (ih t (λw h=>fw w (Qas _ h)) (by have:(32::(a++jw t r)).length<=9000:=l9;rw[QaQ,Qaz] at this;omega) (by rw[QaQ] at lw;omega)) ?_;show _<=(32::(a++jw t r)).length;rw[QaQ,Qaz];omega
 let J0:YN:=λi U HH=>∃(u4 u5:Option V),U=[some (.str (S (jw ws r))),some (.int (ws.length:Int)),je l,some (.str (S (jw (ws.drop i) r))),u4,u5]/\HH l=some (.lst ((ws.take i).map λw=>V.str (S w)))/\Same H HH;refine Gm J0 ⟨none,none,rq,Ae,Af hl _⟩ (λi U HH hi h=>?_) (fun U HH h=>?_)
 ·obtain⟨u4,u5,rfl,e1,s1⟩:=h;have hg:ws[i]?=some ws[i]:=Qah hi;have ed:ws.drop i=ws[i]::ws.drop (i+1):=List.drop_eq_getElem_cons hi;have jl:=jd i;rw[ed] at jl ⊢;have jl:(32::(ws[i]++jw (ws.drop (i+1)) r)).length<=9000:=jl;rw[QaQ] at jl;refine Zu ⟨_,rq,_,rq,_,rq,szb (by show (S (32::(ws[i]++jw (ws.drop (i+1)) r))).length<=100000;rw[Ah,QaQ];omega),ws[i],jw (ws.drop (i+1)) r,?_,fw _ (List.getElem_mem hi),Jw sr,by omega,λp H1 hp s2=>?_⟩
  ·show [V.str (Txt.slice (S (32::(ws[i]++jw (ws.drop (i+1)) r))) (some 1) none)]=_;rw[Ib]
  have e1':=s2 _ _ e1;have s12:=s1.trans s2;refine⟨p,_,rq,SqT.of hp,rq,_,_,rq,_,_,rq,rq,?_⟩;refine⟨_,rq,.inl ⟨rq,_,SqL.of e1'⟩,_,rq,l,_,_,rq,rq,e1',BJ (by rw[QaX,QaT];omega),?_⟩;refine⟨_,_,rq,?_,s12.Gq Al.upd hl⟩;rw[Ae,QbH hg,QaY];rfl
 ·obtain⟨u4,u5,rfl,e1,s1⟩:=h;rw[QaU] at e1;rw[List.drop_length];refine⟨_,rq,_,rq,Ar (by show 2<=1000;decide),λp hp=>?_⟩;have s2:=Af hp (.tup [.ref l,.str (S (jw [] r))]);exact q p l _ Ae (s2 _ _ e1) (s1.trans s2)
theorem M4 (C:Code K mg "read_number" Hs Cu) (T:Tx K w.params mg wA):Good P w K mg base "read_number" 1 Cu Pz:=by
 refine C.good MK (λvs H Q E h=>?_) (λf cdv A outer s H vs Q E hr h=>?_)
 ·obtain⟨n,rfl,_⟩:=h;rfl
 obtain⟨n,rfl,hn,q⟩:=h;refine⟨_,(Ad (Bh (PW.pt (JK (Fb (Wb Hy Hy Ab (Bd Ja rfl T.len DQ (Aa (pv 0) Ac)) Ab)) (Ju (Fb (Dk (Bd (JR rfl) rfl T.all Mx (Aa (Fx (N':=["sign"]) rfl (BX.plain rfl (by trivial) (by trivial) (by trivial)) (Qa (pv 0)) (λ_ _ _ _=>(Az (i:=0) (show List.Nodup (["sign"]:YF) by trivial) rfl (Or.inl rfl))) (λ_ _ _ _=>Gu) (λ_ _ _ _=>(CG NQ (pv 0) (Ip rfl T.FIGURES) (by with_unfolding_all rfl)))) Ac))))))) (Ag (Am Zc)) Ax)
 (Ag (Am (Cr VF rfl T.int Jx (Aa (pv 0) Ac))))),?_⟩
 show let R0:TS:=_;Ak _ R0 _ _ _;intro R0;obtain⟨na,n1,n2,_⟩:=K1 n hn;have ls:(S (num n)).length<=sizeLine:=szb (by rw[Ah];omega);refine⟨_,rq,_,rq,ls,_,_,rq,rq,_,rq,?_⟩;rw[Ah,Qbo (show (1:Int)<=((num n).length:Nat) by omega)];refine Bt ⟨_,_,rq,rq,_,rq,?_⟩;rw[Qbo (show (((num n).length:Nat):Int)<=2 by omega)];refine Bx ⟨_,rq,_,rq,λl hl=>?_⟩;refine Lw (z:=S (num n)) (λi U HH=>∃u,U=[u]/\HH l=some (.lst ((((num n).take i).map WL).map V.bl))/\Same H HH) ⟨_,rq,Ae,Af hl _⟩ (λi c U HH hc h=>?_) (fun U HH h=>?_)
 ·obtain⟨u,rfl,e1,e2⟩:=h;have hcl:(S (num n)).cps.toList[i]?=some c:=by rw[Qar];exact hc
  have hcl:(num n)[i]?=some c:=hcl;have hi:=(Qae.mp hcl).1;refine Zu (Bt ⟨_,rq,_,_,rq,rq,_,e1,BJ (by simp;omega),_,rq,?_,e2.Gq Al.upd hl⟩);rw[Ae,QbH hcl,QaY,QaY];rfl
 obtain⟨u,rfl,e1,s1⟩:=h;have sz:(S (num n)).cps.size=(num n).length:=(Ah _);rw[sz,QaU] at e1;refine⟨l,_,rq,SqL.of e1,_,rq,?_⟩;rw[all_map,na];exact Bx ⟨_,rq,_,_,rq,Yb hn,by rw[Ah];omega,q _ s1⟩
theorem Qf (C:Code K mg "read_leaf" Jk Et) (T:Tx K w.params mg wA) (DW:Good P w K mg base "take_word" 1 Di Py) (Fp:Good P w K mg base "take_words" 2 Dn O6) (BL:Good P w K mg base "read_number" 1 Cu Pz):Good P w K mg base "read_leaf" 3 Et V4:=by
 refine C.good EY (λvs H Q E h=>?_) (λf cdv A outer s H vs Q E hr h=>?_)
 ·obtain⟨c,r,rfl,_⟩:=h;rfl
 obtain⟨c,r,rfl,lf,ok,sr,l9,q⟩:=h;refine⟨_,(@Ad _ _ _ _ _ (Dc (Aq DW hr (Aa (pv 0) Ac)) (Ep rfl (Bk (Az (i:=1) EY.nd rfl (Or.inl rfl)) (Bk (Az (i:=2) EY.nd rfl (Or.inl rfl)) Dy))))
 (@Ad _ _ _ _ _ (Dc (Aq Fp hr (Aa (pv 2) (Aa (Vb (K:=K) rfl rfl (Ip rfl T.WORDS_BEHIND) (pv 1) (Ip rfl T.WORDS_BEHIND_NUMBER) ⟨rq,rq,rq,rq⟩) Ac))) (Ep rfl (Bk (Az (i:=3) EY.nd rfl (Or.inl rfl)) (Bk (Az (i:=2) EY.nd rfl (Or.inl rfl)) Dy))))
 (@Ad _ _ _ _ _ (Bh (Ay BR (pv 1) Aj (Ba _)) (@Ag _ _ _ (@Am _ _ _ _ (Bq (Aa (Bq (Aa Aj (Aa (Aq BL hr (Aa (@Aw _ _ _ _ _ _ _ Bm (pv 3) Ab (λ_ _=>rfl)) Ac)) Ac))) (Aa (pv 2) Ac))))) Ax)
 (@Ad _ _ _ _ _ (Bh (Ay BR (pv 1) Aj (Ba _)) (@Ag _ _ _ (@Am _ _ _ _ (Bq (Aa (Bq (Aa Aj (Aa (@Aw _ _ _ _ _ _ _ Bm (pv 3) Ab (λ_ _=>rfl)) Ac))) (Aa (pv 2) Ac))))) Ax)
 (@Ad _ _ _ _ _ (Bh (Ay BR (pv 1) Aj (Ba _)) (@Ag _ _ _ (@Am _ _ _ _ (Bq (Aa (Bq (Aa Aj (Aa (Aq BL hr (Aa (@Aw _ _ _ _ _ _ _ Bm (pv 3) Ab (λ_ _=>rfl)) Ac)) (Aa (Aq BL hr (Aa (@Aw _ _ _ _ _ _ _ Bm (pv 3) Ab (λ_ _=>rfl)) Ac)) Ac)))) (Aa (pv 2) Ac))))) Ax)
 (@Ag _ _ _ (@Am _ _ _ _ (Bq (Aa (Bq (Aa Aj (Aa (Aq BL hr (Aa (pv 1) Ac)) (Aa (@Aw _ _ _ _ _ _ _ Bm (pv 3) Ab (λ_ _=>rfl)) Ac)))) (Aa (pv 2) Ac)))))))))),?_⟩
 show let R0:TS:=_;let R1:TS:=_;let R2:TS:=Ak (Bu _ R1 _) R0;let R3:TS:=_;let R4:TS:=Ak (Bu _ R3 _) R2;let R5:TS:=_;let R6:TS:=Ak (Bu _ R5 _) R4;let R7:TS:=Ak _ R6;Ak _ R7 _ _ _;intro R0 R1 R2 R3 R4 R5 R6 R7;obtain⟨f1,f2,f3,f4,f5,f6,f7,f8,f9⟩:=Ql;obtain⟨i1,i2,i3,i4,i5,i6,i7,i8,i9,i10,i11,i12⟩:=Qk;have go:∀(w0:List Nat) (ws:List (List Nat)),c.txt++r=w0++jw ws r->Free w0->(∀x∈ws,Free x)->(w0++jw ws r).length<=9000:=λw0 ws e _ _=>by rw[<-e];exact l9
 have two:∀{a b:List Nat},Free a->Free b->∀x∈[a,b],Free x:=λha hb x hx=>by
  simp only[Qbs,List.not_mem_nil,or_false] at hx;rcases hx with rfl | rfl
  ·exact ha
  ·exact hb
 cases c with
 | off n z=>
  have hn:n < 100:=by have:=ok.2.1;omega
  have e:Cd.txt (.off n z)++r=num n++jw [L "of",L z] r:=by
   show (num n++(L " of "++L z))++r=num n++(32::(L "of"++(32::(L z++r))));rw[i1];simp[QaJ]
  have l9':=go _ _ e (G3 hn) (two f1 (M7 ok.2.2.2.2));refine⟨_,rq,num n,jw [L "of",L z] r,congrArg (λl=>[V.str (S l)]) e,G3 hn,Jw sr,l9',λp H1 hp s1=>⟨p,_,rq,SqT.of hp,rq,_,_,rq,_,_,rq,rq,?_⟩⟩;refine⟨_,rq,wA,rq,T.dw,_,rq,S (num n),none,.int 2,rq,T.dn n ok.1 ok.2.1,.inl ⟨rq,rq⟩,[L "of",L z],r,rq,two f1 (M7 ok.2.2.2.2),sr,by rw[Qaz] at l9';omega,by show 2<=9;decide,λp2 l H2 hp2 hl2 s2=>⟨p2,_,rq,SqT.of hp2,rq,_,_,rq,_,_,rq,rq,?_⟩⟩;refine⟨_,rq,rq,_,rq,ifS (λz=>absurd z (Qh hn (by trivial))) (λ_=>?_)⟩;refine⟨_,rq,rq,_,rq,ifS (λz=>absurd z (Qh hn (by trivial))) (λ_=>?_)⟩;refine⟨_,rq,rq,_,rq,ifS (λz=>absurd z (Qh hn (by trivial))) (λ_=>?_)⟩;refine⟨_,rq,n,rq,hn,λH3 s3=>⟨_,rq,l,_,_,_,rq,rq,SqL.of (s3 _ _ hl2),Ai (j:=1) rfl,Ar (by show 3<=1000;decide),λt ht=>?_⟩⟩;have s4:=Af ht (.tup [.str "of",.int n,.str (S (L z))]);have c4:upd H3 t (.tup [.str "of",.int n,.str (S (L z))]) t=some (.tup [.str "of",.int n,.str (S (L z))]):=Ae;generalize upd H3 t (.tup [.str "of",.int n,.str (S (L z))])=H4 at *;refine⟨_,rq,Ar (by show 2<=1000;decide),λp5 hp5=>?_⟩;have s5:=Af hp5 (.tup [.ref t,.str (S r)]);exact q p5 t _ Ae (.tup (s5 _ _ c4) (.cons (.str _) (.cons (.int _) (.cons (.str _) .nil)))) (s1.trans (s2.trans (s3.trans (s4.trans s5))))
 | term z=>
  have e:Cd.txt (.term z)++r=L "term"++jw [L z] r:=by
   show (L "term "++L z)++r=L "term"++(32::(L z++r));rw[i2];simp[QaJ]
  have fz:∀x∈[L z],Free x:=λx hx=>by rw[QaE.mp hx];exact M7 ok.2.2
  have l9':=go _ _ e f5 fz;obtain⟨tk,dt⟩:=T.dt;refine⟨_,rq,L "term",jw [L z] r,congrArg (λl=>[V.str (S l)]) e,f5,Jw sr,l9',λp H1 hp s1=>⟨p,_,rq,SqT.of hp,rq,_,_,rq,_,_,rq,rq,?_⟩⟩;refine⟨_,rq,wA,rq,T.dw,_,rq,"term",_,.int 1,rq,dt,.inr ⟨_,rq,_,rq⟩,[L z],r,rq,fz,sr,by rw[Qaz] at l9';omega,by show 1<=9;decide,λp2 l H2 hp2 hl2 s2=>⟨p2,_,rq,SqT.of hp2,rq,_,_,rq,_,_,rq,rq,?_⟩⟩;refine⟨_,rq,rq,_,rq,ifS (λz=>absurd z (by trivial)) (λ_=>?_)⟩;refine⟨_,rq,rq,_,rq,ifS (λ_=>?_) (λz=>absurd rfl z)⟩;refine⟨_,rq,l,_,_,_,rq,rq,SqL.of hl2,Ai (j:=0) rfl,Ar (by show 2<=1000;decide),λt ht=>?_⟩;have s4:=Af ht (.tup [.str "term",.str (S (L z))]);have c4:upd H2 t (.tup [.str "term",.str (S (L z))]) t=some (.tup [.str "term",.str (S (L z))]):=Ae;generalize upd H2 t (.tup [.str "term",.str (S (L z))])=H4 at *;refine⟨_,rq,Ar (by show 2<=1000;decide),λp5 hp5=>?_⟩;have s5:=Af hp5 (.tup [.ref t,.str (S r)]);exact q p5 t _ Ae (.tup (s5 _ _ c4) (.cons (.str _) (.cons (.str _) .nil))) (s1.trans (s2.trans (s4.trans s5)))
 | key k=>
  have hk:k < 100:=by have:k<=9:=ok;omega
  have e:Cd.txt (.key k)++r=L "key"++jw [num k] r:=by
   show (L "key "++num k)++r=L "key"++(32::(num k++r));rw[i3];simp[QaJ]
  have fz:∀x∈[num k],Free x:=λx hx=>by rw[QaE.mp hx];exact G3 hk
  have l9':=go _ _ e f4 fz;obtain⟨tk,dt⟩:=T.dk;refine⟨_,rq,L "key",jw [num k] r,congrArg (λl=>[V.str (S l)]) e,f4,Jw sr,l9',λp H1 hp s1=>⟨p,_,rq,SqT.of hp,rq,_,_,rq,_,_,rq,rq,?_⟩⟩;refine⟨_,rq,wA,rq,T.dw,_,rq,"key",_,.int 1,rq,dt,.inr ⟨_,rq,_,rq⟩,[num k],r,rq,fz,sr,by rw[Qaz] at l9';omega,by show 1<=9;decide,λp2 l H2 hp2 hl2 s2=>⟨p2,_,rq,SqT.of hp2,rq,_,_,rq,_,_,rq,rq,?_⟩⟩;refine⟨_,rq,rq,_,rq,ifS (λ_=>?_) (λz=>absurd rfl z)⟩;refine⟨_,rq,l,_,_,_,rq,rq,SqL.of hl2,Ai (j:=0) rfl,k,rq,hk,λH3 s3=>⟨Ar (by show 2<=1000;decide),λt ht=>?_⟩⟩;have s4:=Af ht (.tup [.str "key",.int k]);have c4:upd H3 t (.tup [.str "key",.int k]) t=some (.tup [.str "key",.int k]):=Ae;generalize upd H3 t (.tup [.str "key",.int k])=H4 at *;refine⟨_,rq,Ar (by show 2<=1000;decide),λp5 hp5=>?_⟩;have s5:=Af hp5 (.tup [.ref t,.str (S r)]);exact q p5 t _ Ae (.tup (s5 _ _ c4) (.cons (.str _) (.cons (.int _) .nil))) (s1.trans (s2.trans (s3.trans (s4.trans s5))))
 | hours a b=>
  have hab:a<=23/\b<=23:=ok;have ha:a < 100:=by omega
  have hb:b < 100:=by omega
  have e:Cd.txt (.hours a b)++r=L "hours"++jw [num a,L "to",num b] r:=by
   show (L "hours "++(num a++(L " to "++num b)))++r=L "hours"++(32::(num a++(32::(L "to"++(32::(num b++r))))));rw[i4,i5];simp[QaJ]
  have fz:∀x∈[num a,L "to",num b],Free x:=λx hx=>by
   simp only[Qbs,List.not_mem_nil,or_false] at hx;rcases hx with rfl | rfl | rfl
   ·exact G3 ha
   ·exact f2
   ·exact G3 hb
  have l9':=go _ _ e f6 fz;obtain⟨tk,dt⟩:=T.dh;refine⟨_,rq,L "hours",jw [num a,L "to",num b] r,congrArg (λl=>[V.str (S l)]) e,f6,Jw sr,l9',λp H1 hp s1=>⟨p,_,rq,SqT.of hp,rq,_,_,rq,_,_,rq,rq,?_⟩⟩;refine⟨_,rq,wA,rq,T.dw,_,rq,"hours",_,.int 3,rq,dt,.inr ⟨_,rq,_,rq⟩,[num a,L "to",num b],r,rq,fz,sr,by rw[Qaz] at l9';omega,by show 3<=9;decide,λp2 l H2 hp2 hl2 s2=>⟨p2,_,rq,SqT.of hp2,rq,_,_,rq,_,_,rq,rq,?_⟩⟩;refine⟨_,rq,rq,_,rq,ifS (λz=>absurd z (by trivial)) (λ_=>?_)⟩;refine⟨_,rq,rq,_,rq,ifS (λz=>absurd z (by trivial)) (λ_=>?_)⟩;refine⟨_,rq,rq,_,rq,ifS (λ_=>?_) (λz=>absurd rfl z)⟩;refine⟨_,rq,l,_,_,_,rq,rq,SqL.of hl2,Ai (j:=0) rfl,a,rq,ha,λH3 s3=>⟨_,rq,l,_,_,_,rq,rq,SqL.of (s3 _ _ hl2),Ai (j:=2) rfl,b,rq,hb,λH3' s3'=>⟨Ar (by show 3<=1000;decide),λt ht=>?_⟩⟩⟩;have s4:=Af ht (.tup [.str "hours",.int a,.int b]);have c4:upd H3' t (.tup [.str "hours",.int a,.int b]) t=some (.tup [.str "hours",.int a,.int b]):=Ae;generalize upd H3' t (.tup [.str "hours",.int a,.int b])=H4 at *;refine⟨_,rq,Ar (by show 2<=1000;decide),λp5 hp5=>?_⟩;have s5:=Af hp5 (.tup [.ref t,.str (S r)]);exact q p5 t _ Ae (.tup (s5 _ _ c4) (.cons (.str _) (.cons (.int _) (.cons (.int _) .nil)))) (s1.trans (s2.trans (s3.trans (s3'.trans (s4.trans s5)))))
 | _=>exact lf.elim
end
abbrev G6:Stmt:=top 29
abbrev Es:YF:=["text","deep"]
theorem Ca:Bc ["text","deep","one","rest","word","other","words"] Es (Ao G6):=by ac_rfl
abbrev Ej:Stmt:=top 30
abbrev Bw:YF:=["text","deep"]
theorem DX:Bc ["text","deep","inner","rest"] Bw (Ao Ej):=by ac_rfl
def Pb:Cd->Prop
 | .both _ _=>True
 | .any _ _=>True
 | .thn _ _ _=>True
 | _=>False
def Cd.body:Cd->List Nat
 | .both c d=>c.txt++(L " and "++(d.txt++L ")"))
 | .any c d=>c.txt++(L " or "++(d.txt++L ")"))
 | .thn c d n=>c.txt++(L " then "++(d.txt++(L " within "++(num n++L ")"))))
 | _=>[]
theorem Yo {c:Cd} (h:Pb c):c.txt=40::c.body:=by
 have e:L "("=[40]:=by trivial
 cases c with
 | both c d=>show L "("++_=_;rw[e];rfl
 | any c d=>show L "("++_=_;rw[e];rfl
 | thn c d n=>show L "("++_=_;rw[e];rfl
 | _=>exact h.elim
def PB (D:Nat):Sp:=λvs H Q _=>∃(c:Cd) (r:List Nat) (d:Nat),vs=[.str (S (c.txt++r)),.int (d:Int)]/\c.ok/\c.deep<=d/\d<=D/\Jh r/\(c.txt++r).length<=9000/\∀p t H',H' p=some (.tup [.ref t,.str (S r)])->Rep H' (.ref t) c.data->Same H H'->Q (.ref p) H'
def YX (D:Nat):Sp:=λvs H Q _=>∃(c:Cd) (r:List Nat) (d:Nat),vs=[.str (S (c.body++r)),.int (d:Int)]/\Pb c/\c.ok/\c.deep<=d+1/\d<=D/\(c.body++r).length<=9000/\∀p t H',H' p=some (.tup [.ref t,.str (S r)])->Rep H' (.ref t) c.data->Same H H'->Q (.ref p) H'
theorem slS {l:List Nat} (h:l.length<=9000):(S l).length<=sizeLine:=szb (by rw[Ah];omega)
section
variable {P:Program} {w:World} {K:YD} {mg:YB} {base:Heap} {wA:Addr}
theorem X4 {D k:Nat} (hk:3<=k) (C:Code K mg "read_pair" G6 Es) (T:Tx K w.params mg wA) (DW:Good P w K mg base "take_word" 1 Di Py) (Fp:Good P w K mg base "take_words" 2 Dn O6) (BL:Good P w K mg base "read_number" 1 Cu Pz) (CJ:Good P w K mg base "read_condition" k Bw (PB D)):Good P w K mg base "read_pair" (k+1) Es (YX D):=by
 refine C.good Ca (λvs H Q E h=>?_) (λf cdv A outer s H vs Q E hr h=>?_)
 ·obtain⟨c,r,d,rfl,_⟩:=h;rfl
 obtain⟨c,r,d,rfl,bi,ok,dp,dD,l9,q⟩:=h;have hk1:1<=k:=by omega
 have hk2:2<=k:=by omega
 refine⟨_,(@Ad _ _ _ _ _ (Dc (Aq (hk:=(QbB _)) CJ hr (Aa (pv 0) (Aa (pv 1) Ac))) (Ep rfl (Bk (Az (i:=2) Ca.nd rfl (Or.inl rfl)) (Bk (Az (i:=3) Ca.nd rfl (Or.inl rfl)) Dy))))
 (@Ad _ _ _ _ _ (Dc (Aq (hk:=hk1) DW hr (Aa (Ce Ez (pv 3) (Cq Ab) Dw) Ac)) (Ep rfl (Bk (Az (i:=4) Ca.nd rfl (Or.inl rfl)) (Bk (Az (i:=3) Ca.nd rfl (Or.inl rfl)) Dy))))
 (@Ad _ _ _ _ _ (Dc (Aq (hk:=(QbB _)) CJ hr (Aa (Ce Ez (pv 3) (Cq Ab) Dw) (Aa (pv 1) Ac))) (Ep rfl (Bk (Az (i:=5) Ca.nd rfl (Or.inl rfl)) (Bk (Az (i:=3) Ca.nd rfl (Or.inl rfl)) Dy))))
 (@Ad _ _ _ _ _ (Bh (Ay Pa (pv 4) Aj (Ba _)) (@Ag _ _ _ (@Am _ _ _ _ (Bq (Aa (Bq (Aa (pv 4) (Aa (pv 2) (Aa (pv 5) Ac)))) (Aa (Ce Ez (pv 3) (Cq Ab) Dw) Ac))))) Ax)
 (@Ad _ _ _ _ _ (Dc (Aq (hk:=hk2) Fp hr (Aa (pv 3) (Aa Ab Ac))) (Ep rfl (Bk (Az (i:=6) Ca.nd rfl (Or.inl rfl)) (Bk (Az (i:=3) Ca.nd rfl (Or.inl rfl)) Dy))))
 (@Ag _ _ _ (@Am _ _ _ _ (Bq (Aa (Bq (Aa (pv 4) (Aa (pv 2) (Aa (pv 5) (Aa (Aq (hk:=hk1) BL hr (Aa (@Aw _ _ _ _ _ _ _ Bm (pv 6) Ab (λ_ _=>rfl)) Ac)) Ac))))) (Aa (Ce Ez (pv 3) (Cq Ab) Dw) Ac)))))))))),?_⟩
 show let R0:TS:=_;let R1:TS:=Ak _ R0;let R2:TS:=_;let R3:TS:=Ak (Bu _ R2 _) R1;let R4:TS:=Ak _ R3;let R5:TS:=Ak _ R4;Ak _ R5 _ _ _;intro R0 R1 R2 R3 R4 R5;obtain⟨f1,f2,f3,f4,f5,f6,f7,f8,f9⟩:=Ql;obtain⟨i1,i2,i3,i4,i5,i6,i7,i8,i9,i10,i11,i12⟩:=Qk;cases c with
 | both a b=>
  have dp:max a.deep b.deep+1<=d+1:=dp;have da:a.deep<=d:=by omega
  have db:b.deep<=d:=by omega
  have e:Cd.body (.both a b)++r=a.txt++(32::(L "and"++(32::(b.txt++(41::r))))):=by
   show (a.txt++(L " and "++(b.txt++L ")")))++r=_;rw[i6,i11];simp[QaJ]
  rw[e] at l9;have ll:=l9;simp only[Qaz,QaQ] at ll;refine⟨_,rq,_,rq,a,_,d,congrArg (λl=>[V.str (S l),V.int (d:Int)]) e,ok.1,da,dD,HW _,l9,λp1 t1 H1 hp1 r1 s1=>⟨p1,_,rq,SqT.of hp1,rq,_,_,rq,_,_,rq,rq,?_⟩⟩;refine⟨_,rq,_,rq,_,rq,slS (by simp only[Qaz,QaQ];omega),L "and",32::(b.txt++(41::r)),?_,f7,HW _,by simp only[Qaz,QaQ];omega,λp2 H2 hp2 s2=>⟨p2,_,rq,SqT.of hp2,rq,_,_,rq,_,_,rq,rq,?_⟩⟩
  ·show [V.str (Txt.slice (S (32::(L "and"++(32::(b.txt++(41::r)))))) (some 1) none)]=_;rw[Ib]
  refine⟨_,rq,_,rq,_,rq,slS (by simp only[Qaz,QaQ];omega),_,rq,b,(41::r),d,?_,ok.2,db,dD,Pq _,by simp only[Qaz,QaQ];omega,λp3 t3 H3 hp3 r3 s3=>⟨p3,_,rq,SqT.of hp3,rq,_,_,rq,_,_,rq,rq,?_⟩⟩
  ·show [V.str (Txt.slice (S (32::(b.txt++(41::r)))) (some 1) none),V.int (d:Int)]=_;rw[Ib]
  refine⟨_,rq,rq,_,rq,IV (by trivial) ⟨_,rq,_,rq,_,rq,Ar (by show 3<=1000;decide),λt4 ht4=>?_⟩⟩;have s4:=Af ht4 (.tup [.str (S (L "and")),.ref t1,.ref t3]);have c4:upd H3 t4 (.tup [.str (S (L "and")),.ref t1,.ref t3]) t4=some (.tup [.str (S (L "and")),.ref t1,.ref t3]):=Ae;generalize upd H3 t4 (.tup [.str (S (L "and")),.ref t1,.ref t3])=H4 at *;refine⟨_,rq,_,rq,_,rq,slS (by rw[QaQ];omega),Ar (by show 2<=1000;decide),λp5 hp5=>?_⟩;rw[Ib];have s5:=Af hp5 (.tup [.ref t4,.str (S r)]);exact q p5 t4 _ Ae (.tup (s5 _ _ c4) (.cons (.str _) (.cons (Rep.same (s2.trans (s3.trans (s4.trans s5))) r1) (.cons (Rep.same (s4.trans s5) r3) .nil)))) (s1.trans (s2.trans (s3.trans (s4.trans s5))))
 | any a b=>
  have dp:max a.deep b.deep+1<=d+1:=dp;have da:a.deep<=d:=by omega
  have db:b.deep<=d:=by omega
  have e:Cd.body (.any a b)++r=a.txt++(32::(L "or"++(32::(b.txt++(41::r))))):=by
   show (a.txt++(L " or "++(b.txt++L ")")))++r=_;rw[i7,i11];simp[QaJ]
  rw[e] at l9;have ll:=l9;simp only[Qaz,QaQ] at ll;refine⟨_,rq,_,rq,a,_,d,congrArg (λl=>[V.str (S l),V.int (d:Int)]) e,ok.1,da,dD,HW _,l9,λp1 t1 H1 hp1 r1 s1=>⟨p1,_,rq,SqT.of hp1,rq,_,_,rq,_,_,rq,rq,?_⟩⟩;refine⟨_,rq,_,rq,_,rq,slS (by simp only[Qaz,QaQ];omega),L "or",32::(b.txt++(41::r)),?_,f8,HW _,by simp only[Qaz,QaQ];omega,λp2 H2 hp2 s2=>⟨p2,_,rq,SqT.of hp2,rq,_,_,rq,_,_,rq,rq,?_⟩⟩
  ·show [V.str (Txt.slice (S (32::(L "or"++(32::(b.txt++(41::r)))))) (some 1) none)]=_;rw[Ib]
  refine⟨_,rq,_,rq,_,rq,slS (by simp only[Qaz,QaQ];omega),_,rq,b,(41::r),d,?_,ok.2,db,dD,Pq _,by simp only[Qaz,QaQ];omega,λp3 t3 H3 hp3 r3 s3=>⟨p3,_,rq,SqT.of hp3,rq,_,_,rq,_,_,rq,rq,?_⟩⟩
  ·show [V.str (Txt.slice (S (32::(b.txt++(41::r)))) (some 1) none),V.int (d:Int)]=_;rw[Ib]
  refine⟨_,rq,rq,_,rq,IV (by trivial) ⟨_,rq,_,rq,_,rq,Ar (by show 3<=1000;decide),λt4 ht4=>?_⟩⟩;have s4:=Af ht4 (.tup [.str (S (L "or")),.ref t1,.ref t3]);have c4:upd H3 t4 (.tup [.str (S (L "or")),.ref t1,.ref t3]) t4=some (.tup [.str (S (L "or")),.ref t1,.ref t3]):=Ae;generalize upd H3 t4 (.tup [.str (S (L "or")),.ref t1,.ref t3])=H4 at *;refine⟨_,rq,_,rq,_,rq,slS (by rw[QaQ];omega),Ar (by show 2<=1000;decide),λp5 hp5=>?_⟩;rw[Ib];have s5:=Af hp5 (.tup [.ref t4,.str (S r)]);exact q p5 t4 _ Ae (.tup (s5 _ _ c4) (.cons (.str _) (.cons (Rep.same (s2.trans (s3.trans (s4.trans s5))) r1) (.cons (Rep.same (s4.trans s5) r3) .nil)))) (s1.trans (s2.trans (s3.trans (s4.trans s5))))
 | thn a b n=>
  have dp:max a.deep b.deep+1<=d+1:=dp;have da:a.deep<=d:=by omega
  have db:b.deep<=d:=by omega
  have e:Cd.body (.thn a b n)++r=a.txt++(32::(L "then"++(32::(b.txt++(32::(L "within"++(32::(num n++(41::r))))))))):=by
   show (a.txt++(L " then "++(b.txt++(L " within "++(num n++L ")")))))++r=_;rw[i8,i9,i11];simp[QaJ]
  rw[e] at l9;have ll:=l9;simp only[Qaz,QaQ] at ll;refine⟨_,rq,_,rq,a,_,d,congrArg (λl=>[V.str (S l),V.int (d:Int)]) e,ok.1,da,dD,HW _,l9,λp1 t1 H1 hp1 r1 s1=>⟨p1,_,rq,SqT.of hp1,rq,_,_,rq,_,_,rq,rq,?_⟩⟩;refine⟨_,rq,_,rq,_,rq,slS (by simp only[Qaz,QaQ];omega),L "then",32::(b.txt++(32::(L "within"++(32::(num n++(41::r)))))),?_,f9,HW _,by simp only[Qaz,QaQ];omega,λp2 H2 hp2 s2=>⟨p2,_,rq,SqT.of hp2,rq,_,_,rq,_,_,rq,rq,?_⟩⟩
  ·show [V.str (Txt.slice (S (32::(L "then"++(32::(b.txt++(32::(L "within"++(32::(num n++(41::r)))))))))) (some 1) none)]=_;rw[Ib]
  refine⟨_,rq,_,rq,_,rq,slS (by simp only[Qaz,QaQ];omega),_,rq,b,(32::(L "within"++(32::(num n++(41::r))))),d,?_,ok.2.1,db,dD,HW _,by simp only[Qaz,QaQ];omega,λp3 t3 H3 hp3 r3 s3=>⟨p3,_,rq,SqT.of hp3,rq,_,_,rq,_,_,rq,rq,?_⟩⟩
  ·show [V.str (Txt.slice (S (32::(b.txt++(32::(L "within"++(32::(num n++(41::r)))))))) (some 1) none),V.int (d:Int)]=_;rw[Ib]
  have hn:n < 100:=by have:=ok.2.2.2;omega
  refine⟨_,rq,rq,_,rq,Ci (by trivial) ?_⟩;have two:∀x∈[L "within",num n],Free x:=λx hx=>by
   simp only[Qbs,List.not_mem_nil,or_false] at hx;rcases hx with rfl | rfl
   ·exact f3
   ·exact G3 hn
  refine⟨_,rq,[L "within",num n],41::r,rq,two,Pq _,by show (32::(L "within"++(32::(num n++(41::r))))).length<=9000;simp only[Qaz,QaQ];omega,by show 2<=9;decide,λp6 l6 H6 hp6 hl6 s6=>⟨p6,_,rq,SqT.of hp6,rq,_,_,rq,_,_,rq,rq,?_⟩⟩;refine⟨_,rq,_,rq,_,rq,_,rq,l6,_,_,_,rq,rq,SqL.of hl6,Ai (j:=1) rfl,n,rq,hn,λH7 s7=>⟨Ar (by show 4<=1000;decide),λt4 ht4=>?_⟩⟩;have s4:=Af ht4 (.tup [.str (S (L "then")),.ref t1,.ref t3,.int n]);have c4:upd H7 t4 (.tup [.str (S (L "then")),.ref t1,.ref t3,.int n]) t4=some (.tup [.str (S (L "then")),.ref t1,.ref t3,.int n]):=Ae;generalize upd H7 t4 (.tup [.str (S (L "then")),.ref t1,.ref t3,.int n])=H4 at *;refine⟨_,rq,_,rq,_,rq,slS (by rw[QaQ];omega),Ar (by show 2<=1000;decide),λp5 hp5=>?_⟩;rw[Ib];have s5:=Af hp5 (.tup [.ref t4,.str (S r)]);have s35:=s6.trans (s7.trans (s4.trans s5));exact q p5 t4 _ Ae (.tup (s5 _ _ c4) (.cons (.str _) (.cons (Rep.same (s2.trans (s3.trans s35)) r1) (.cons (Rep.same s35 r3) (.cons (.int _) .nil))))) (s1.trans (s2.trans (s3.trans s35)))
 | _=>exact bi.elim
theorem S9 {D k:Nat} (hk:3<=k) (C:Code K mg "read_condition" Ej Bw) (T:Tx K w.params mg wA) (Jm:Good P w K mg base "read_leaf" 3 Et V4) (CJ:Good P w K mg base "read_condition" k Bw (PB D)) (Rg:Good P w K mg base "read_pair" (k+1) Es (YX D)):Good P w K mg base "read_condition" (k+2) Bw (PB (D+1)):=by
 refine C.good DX (λvs H Q E h=>?_) (λf cdv A outer s H vs Q E hr h=>?_)
 ·obtain⟨c,r,d,rfl,_⟩:=h;rfl
 obtain⟨c,r,d,rfl,ok,dp,dD,sr,l9,q⟩:=h;have hk3:3<=k+1:=by omega
 have hk4:k<=k+1:=by omega
 refine⟨_,(@Ad _ _ _ _ _ (Bh (Ay BR (pv 1) Ab (Ba _)) (@Ag _ _ _ Li) Ax)
 (@Ad _ _ _ _ _ (Bh (Dk (FW Qap PySem.F.slot_str_startswith PySem.F.type_str_startswith JZ (pv 0) (Aa Aj Ac))) (@Ag _ _ _ (@Am _ _ _ _ (Aq (hk:=(QbB _)) Rg hr (Aa (Ce Ez (pv 0) (Cq Ab) Dw) (Aa (@Av _ _ _ _ _ _ _ _ Hl (pv 1) Ab) Ac))))) Ax)
 (@Ad _ _ _ _ _ (Bh (Dk (FW Qap PySem.F.slot_str_startswith PySem.F.type_str_startswith JZ (pv 0) (Aa Aj Ac))) (@Ad _ _ _ _ _ (Dc (Aq (hk:=hk4) CJ hr (Aa (Ce Ez (pv 0) (Cq Ab) Dw) (Aa (@Av _ _ _ _ _ _ _ _ Hl (pv 1) Ab) Ac))) (Ep rfl (Bk (Az (i:=2) DX.nd rfl (Or.inl rfl)) (Bk (Az (i:=3) DX.nd rfl (Or.inl rfl)) Dy))))
 (@Ag _ _ _ (@Am _ _ _ _ (Bq (Aa (Bq (Aa Aj (Aa (pv 2) Ac))) (Aa (pv 3) Ac)))))) Ax)
 (@Ag _ _ _ (@Am _ _ _ _ (Aq (hk:=hk3) Jm hr (Aa (pv 0) Ac))))))),?_⟩
 show let R0:TS:=_;let R1:TS:=_;let R2:TS:=Ak _ R1;let R3:TS:=Ak (Bu _ R2 _) R0;let R4:TS:=_;let R5:TS:=Ak (Bu _ R4 _) R3;Ak _ R5 _ _ _;intro R0 R1 R2 R3 R4 R5;have d1:=c.Jg;obtain⟨i1,i2,i3,i4,i5,i6,i7,i8,i9,i10,i11,i12⟩:=Qk;refine⟨_,rq,rq,_,rq,ifN (λe=>by omega) (λ_=>?_)⟩;have e1:((d:Int) - 1)=((d - 1:Nat):Int):=by omega
 have ls:=slS l9;have pair:Pb c->∀(l:List Nat),l=c.txt++r->l=40::(c.body++r):=λbi l e=>by rw[e,Yo bi];rfl
 by_cases bi:Pb c
 ·have e:=pair bi _ rfl;refine⟨_,rq,rq,_,_,rq,rq,_,rq,IV (Pu (r:=c.body++r) (by rw[e,i10];rfl)) ?_⟩;refine⟨_,rq,_,rq,_,rq,ls,_,rq,_,_,rq,rq,c,r,d - 1,?_,bi,ok,by omega,by omega,by rw[e,QaQ] at l9;omega,q⟩;show [V.str (Txt.slice (S (c.txt++r)) (some 1) none),V.int ((d:Int) - 1)]=_;rw[e,Ib,e1]
 cases c with
 | off n z=>
  obtain⟨c0,t0,e,n1,n2⟩ : ∃c0 t0,Cd.txt (.off n z)++r=c0::t0/\c0≠40/\c0≠110:=by
   have hn:n < 100:=by have:=ok.2.1;omega
   have h1:=(K1 n hn).2.1;have key:∀n,n < 100->∀c∈num n,c≠40/\c≠110:=by trivial
   cases e:num n with
   | nil=>rw[e] at h1;exact absurd h1 (by decide)
   | cons c0 t0=>
    have:=key n hn c0 (by rw[e];exact QaB ..);exact⟨c0,t0++((L " of "++L z)++r),by show (num n++(L " of "++L z))++r=_;rw[e];simp[QaJ],this.1,this.2⟩
  refine⟨_,rq,rq,_,_,rq,rq,_,rq,Ci (by rw[e];exact Ei i10 n1) ⟨_,rq,rq,_,_,rq,rq,_,rq,Ci (by rw[e];exact Ei i12 n2) ⟨_,rq,.off n z,r,rq,True.intro,ok,sr,l9,q⟩⟩⟩
 | term z=>
  obtain⟨c0,t0,e,n1,n2⟩ : ∃c0 t0,Cd.txt (.term z)++r=c0::t0/\c0≠40/\c0≠110:=⟨116,_,by show (L "term "++L z)++r=_;rw[show L "term "=[116,101,114,109,32] by trivial];rfl,by decide,by decide⟩;refine⟨_,rq,rq,_,_,rq,rq,_,rq,Ci (by rw[e];exact Ei i10 n1) ⟨_,rq,rq,_,_,rq,rq,_,rq,Ci (by rw[e];exact Ei i12 n2) ⟨_,rq,.term z,r,rq,True.intro,ok,sr,l9,q⟩⟩⟩
 | key k=>
  obtain⟨c0,t0,e,n1,n2⟩ : ∃c0 t0,Cd.txt (.key k)++r=c0::t0/\c0≠40/\c0≠110:=⟨107,_,by show (L "key "++num k)++r=_;rw[show L "key "=[107,101,121,32] by trivial];rfl,by decide,by decide⟩;refine⟨_,rq,rq,_,_,rq,rq,_,rq,Ci (by rw[e];exact Ei i10 n1) ⟨_,rq,rq,_,_,rq,rq,_,rq,Ci (by rw[e];exact Ei i12 n2) ⟨_,rq,.key k,r,rq,True.intro,ok,sr,l9,q⟩⟩⟩
 | hours a b=>
  obtain⟨c0,t0,e,n1,n2⟩ : ∃c0 t0,Cd.txt (.hours a b)++r=c0::t0/\c0≠40/\c0≠110:=⟨104,_,by show (L "hours "++(num a++(L " to "++num b)))++r=_;rw[show L "hours "=[104,111,117,114,115,32] by trivial];rfl,by decide,by decide⟩;refine⟨_,rq,rq,_,_,rq,rq,_,rq,Ci (by rw[e];exact Ei i10 n1) ⟨_,rq,rq,_,_,rq,rq,_,rq,Ci (by rw[e];exact Ei i12 n2) ⟨_,rq,.hours a b,r,rq,True.intro,ok,sr,l9,q⟩⟩⟩
 | neg c=>
  have e:Cd.txt (.neg c)++r=110::111::116::32::(c.txt++r):=by show (L "not "++c.txt)++r=_;rw[i12];rfl
  have dp:c.deep+1<=d:=dp;have l9':=l9;rw[e] at l9';simp only[QaQ] at l9';refine⟨_,rq,rq,_,_,rq,rq,_,rq,Ci (by rw[e];exact Ei i10 (by decide)) ⟨_,rq,rq,_,_,rq,rq,_,rq,IV (Pu (r:=c.txt++r) (by rw[e,i12];rfl)) ?_⟩⟩;refine⟨_,rq,_,rq,_,rq,ls,_,rq,_,_,rq,rq,c,r,d - 1,?_,ok,by omega,by omega,sr,by omega,λp1 t1 H1 hp1 r1 s1=>⟨p1,_,rq,SqT.of hp1,rq,_,_,rq,_,_,rq,rq,?_⟩⟩
  ·show [V.str (Txt.slice (S (Cd.txt (.neg c)++r)) (some 4) none),V.int ((d:Int) - 1)]=_;have e4:=MJ (l:=110::111::116::32::(c.txt++r)) (k:=4) (by simp only[QaQ];omega);have e4:Txt.slice (S (110::111::116::32::(c.txt++r))) (some 4) none=S (c.txt++r):=e4;rw[e,e4,e1]
  refine⟨_,rq,Ar (by show 2<=1000;decide),λt4 ht4=>?_⟩;have s4:=Af ht4 (.tup [.str "not",.ref t1]);have c4:upd H1 t4 (.tup [.str "not",.ref t1]) t4=some (.tup [.str "not",.ref t1]):=Ae;generalize upd H1 t4 (.tup [.str "not",.ref t1])=H4 at *;refine⟨_,rq,Ar (by show 2<=1000;decide),λp5 hp5=>?_⟩;have s5:=Af hp5 (.tup [.ref t4,.str (S r)]);exact q p5 t4 _ Ae (.tup (s5 _ _ c4) (.cons (.str _) (.cons (Rep.same (s4.trans s5) r1) .nil))) (s1.trans (s4.trans s5))
 | both a b=>exact absurd True.intro bi
 | any a b=>exact absurd True.intro bi
 | thn a b n=>exact absurd True.intro bi
theorem aB (C:Code K mg "read_condition" Ej Bw) (C':Code K mg "read_pair" G6 Es) (T:Tx K w.params mg wA) (DW:Good P w K mg base "take_word" 1 Di Py) (Fp:Good P w K mg base "take_words" 2 Dn O6) (BL:Good P w K mg base "read_number" 1 Cu Pz) (Jm:Good P w K mg base "read_leaf" 3 Et V4):∀D,Good P w K mg base "read_condition" (4+2*D) Bw (PB D):=by
 intro D
 induction D with
 | zero=>
  refine C.good DX (λvs H Q E h=>?_) (λf cdv A outer s H vs Q E hr h=>?_)
  ·obtain⟨c,r,d,_,_,h1,h2,_⟩:=h;have:=c.Jg;omega
  ·obtain⟨c,r,d,_,_,h1,h2,_⟩:=h;have:=c.Jg;omega
 | succ D ih=>
  exact S9 (show 3<=4+2*D by omega) C T Jm ih (X4 (show 3<=4+2*D by omega) C' T DW Fp BL ih)
end
abbrev JB:Stmt:=top 31
abbrev Gv:YF:=["row"]
theorem CK:Bc ["row","head","sign","body","word","blank","call","condition","rest"] Gv (Ao JB):=by ac_rfl
abbrev Ii:Stmt:=top 32
abbrev Fe:YF:=Gw
theorem JX:Bc ["thing","rules"] Fe (Ao Ii):=by ac_rfl
theorem RJ (H:Hp):Same (onl H) H:=λa o e=>by
 obtain⟨xs,rfl,h⟩:=RK e;exact h
theorem ZJ:∀{c:Cd} {H:Hp} {v:V},Rep H v c.data->Rep (onl H) v c.data:=by
 intro c
 induction c with
 | off n z=>intro H v h;cases h with
  | tup ht rs=>cases rs with
   | cons r1 rs=>cases rs with
    | cons r2 rs=>cases rs with
     | cons r3 rs=>cases rs;cases r1;cases r2;cases r3;exact .tup (BP ht) (.cons (.str _) (.cons (.int _) (.cons (.str _) .nil)))
 | term z=>intro H v h;cases h with
  | tup ht rs=>cases rs with
   | cons r1 rs=>cases rs with
    | cons r2 rs=>cases rs;cases r1;cases r2;exact .tup (BP ht) (.cons (.str _) (.cons (.str _) .nil))
 | key z=>intro H v h;cases h with
  | tup ht rs=>cases rs with
   | cons r1 rs=>cases rs with
    | cons r2 rs=>cases rs;cases r1;cases r2;exact .tup (BP ht) (.cons (.str _) (.cons (.int _) .nil))
 | hours a b=>intro H v h;cases h with
  | tup ht rs=>cases rs with
   | cons r1 rs=>cases rs with
    | cons r2 rs=>cases rs with
     | cons r3 rs=>cases rs;cases r1;cases r2;cases r3;exact .tup (BP ht) (.cons (.str _) (.cons (.int _) (.cons (.int _) .nil)))
 | neg c ih=>intro H v h;cases h with
  | tup ht rs=>cases rs with
   | cons r1 rs=>cases rs with
    | cons r2 rs=>cases rs;cases r1;exact .tup (BP ht) (.cons (.str _) (.cons (ih r2) .nil))
 | both c d ih1 ih2=>intro H v h;cases h with
  | tup ht rs=>cases rs with
   | cons r1 rs=>cases rs with
    | cons r2 rs=>cases rs with
     | cons r3 rs=>cases rs;cases r1;exact .tup (BP ht) (.cons (.str _) (.cons (ih1 r2) (.cons (ih2 r3) .nil)))
 | any c d ih1 ih2=>intro H v h;cases h with
  | tup ht rs=>cases rs with
   | cons r1 rs=>cases rs with
    | cons r2 rs=>cases rs with
     | cons r3 rs=>cases rs;cases r1;exact .tup (BP ht) (.cons (.str _) (.cons (ih1 r2) (.cons (ih2 r3) .nil)))
 | thn c d n ih1 ih2=>intro H v h;cases h with
  | tup ht rs=>cases rs with
   | cons r1 rs=>cases rs with
    | cons r2 rs=>cases rs with
     | cons r3 rs=>cases rs with
      | cons r4 rs=>cases rs;cases r1;cases r4;exact .tup (BP ht) (.cons (.str _) (.cons (ih1 r2) (.cons (ih2 r3) (.cons (.int _) .nil))))
def Ru.kw:Ru->Str
 | .term _ _=>"term"
 | .sound _ _=>"sound"
def Ru.cs:Ru->List Nat
 | .term z _=>L z
 | .sound n _=>num n
def Ru.yv:Ru->V
 | .term z _=>.str z
 | .sound n _=>.int n
def Ru.ys:Ru->Str
 | .term z _=>z
 | .sound n _=>Str.ofString (toString (n:Int))
theorem HJ (u:Ru):u.head=L u.kw++(L " "++u.cs):=by
 obtain⟨k1,k2,k3,k4,k5⟩:=kw1;cases u with
 | term z c=>show L "term "++L z=_;rw[<-k1,QaJ];rfl
 | sound n c=>show L "sound "++num n=_;rw[<-k5,QaJ];rfl
theorem Js {u:Ru} (h:u.ok):u.c.ok/\u.c.deep<=6/\u.c.many<=20:=by cases u <;> exact h.2
theorem Xg {u:Ru} (h:u.ok):Xo u.yv u.ys/\L u.ys=u.cs:=by
 cases u with
 | term z c=>exact⟨.inl rfl,rfl⟩
 | sound n c=>have h1:1<=n/\n<=99:=h.1;exact⟨.inr ⟨_,rfl,Dz (by omega),rfl⟩,rfl⟩
theorem P0 {u:Ru} {H:Hp} {v:V} (h:Rep H v u.data):∃t x,v=.ref t/\H t=some (.tup [.str u.kw,u.yv,x])/\Rep H x u.c.data:=by
 cases u with
 | term z c=>cases h with
  | tup ht rs=>cases rs with
   | cons r1 rs=>cases rs with
    | cons r2 rs=>cases rs with
     | cons r3 rs=>cases rs;cases r1;cases r2;exact⟨_,_,rfl,ht,r3⟩
 | sound n c=>cases h with
  | tup ht rs=>cases rs with
   | cons r1 rs=>cases rs with
    | cons r2 rs=>cases rs with
     | cons r3 rs=>cases rs;cases r1;cases r2;exact⟨_,_,rfl,ht,r3⟩
theorem O9 {u:Ru} {H:Hp} {t:Addr} {x:V} (h:H t=some (.tup [.str u.kw,u.yv,x])) (r:Rep H x u.c.data):Rep H (.ref t) u.data:=by
 cases u with
 | term z c=>exact .tup h (.cons (.str _) (.cons (.str _) (.cons r .nil)))
 | sound n c=>exact .tup h (.cons (.str _) (.cons (.int _) (.cons r .nil)))
theorem Y8 {u:Ru} {H:Hp} {v:V} (h:Rep H v u.data):Rep (onl H) v u.data:=by
 obtain⟨t,x,rfl,ht,r⟩:=P0 h;exact O9 (BP ht) (ZJ r)
theorem QC {u:Ru} (h:u.ok):u.cs.length<=8/\u.kw.length<=5:=by
 cases u with
 | term z c=>have:=h.1.2.1;rw[Hz] at this;exact⟨this,by show (Str.ofString "term").length<=5;decide +kernel⟩
 | sound n c=>have h1:1<=n/\n<=99:=h.1;have:=Hq (n:=n) (by omega);exact⟨by show (num n).length<=8;omega,by show (Str.ofString "sound").length<=5;decide +kernel⟩
theorem Wu:(L " = ").length=3/\(L " ").length=1/\(L "\n")=[10]:=by trivial
theorem RB {u:Ru} (h:u.ok):u.row.length<=420:=by
 obtain⟨l1,l2,l3⟩:=Wu;have a:=QC h;have b:=Js h;have c:=BW b.1;rw[Hz] at a;show (u.head++(L " = "++u.c.txt)).length<=420;rw[HJ];simp only[Qaz,l1,l2];omega
def okc (c:Nat):Bool:=decide (c≠10)
def okh (c:Nat):Bool:=decide (c≠10/\c≠61/\c≠32)
theorem KZ {n:Nat} (h:n < 100):(num n).all okh=true:=by
 have key:∀n,n < 100->(num n).all okh=true:=by trivial
 exact key n h
theorem Wq {z:Str} (h:okS z):(L z).all okh=true:=by
 have key:abc.cps.toList.all okh=true:=by trivial
 exact QaS.mpr λc hc=>QaS.mp key c (h c hc)
theorem h_c {l:List Nat} (h:l.all okh=true):l.all okc=true:=QaS.mpr λc hc=>Qbo (QaL (QaS.mp h c hc)).1
theorem Tn:(L " of ").all okc=true/\(L "term ").all okc=true/\(L "key ").all okc=true/\(L "hours ").all okc=true/\(L " to ").all okc=true/\(L "not ").all okc=true/\(L "(").all okc=true/\(L " and ").all okc=true/\(L ")").all okc=true/\(L " or ").all okc=true/\(L " then ").all okc=true/\(L " within ").all okc=true/\(L " = ").all okc=true/\(L " ").all okc=true/\(L "term").all okh=true/\(L "sound").all okh=true:=by trivial
theorem Z1:∀{c:Cd},c.ok->c.txt.all okc=true:=by
 obtain⟨a1,a2,a3,a4,a5,a6,a7,a8,a9,a10,a11,a12,_⟩:=Tn;intro c
 induction c with
 | off n z=>intro h;have h1:=h.2.1;simp only[Cd.txt,Qbf,a1,h_c (KZ (n:=n) (by omega)),h_c (Wq h.2.2.2.2),Qbp]
 | term z=>intro h;simp only[Cd.txt,Qbf,a2,h_c (Wq h.2.2),Qbp]
 | key k=>intro h;have h:k<=9:=h;simp only[Cd.txt,Qbf,a3,h_c (KZ (n:=k) (by omega)),Qbp]
 | hours a b=>intro h;have h:a<=23/\b<=23:=h;simp only[Cd.txt,Qbf,a4,a5,h_c (KZ (n:=a) (by omega)),h_c (KZ (n:=b) (by omega)),Qbp]
 | neg c ih=>intro h;simp only[Cd.txt,Qbf,a6,ih h,Qbp]
 | both c d ih1 ih2=>intro h;simp only[Cd.txt,Qbf,a7,a8,a9,ih1 h.1,ih2 h.2,Qbp]
 | any c d ih1 ih2=>intro h;simp only[Cd.txt,Qbf,a7,a10,a9,ih1 h.1,ih2 h.2,Qbp]
 | thn c d n ih1 ih2=>intro h;have h1:=h.2.2.2;simp only[Cd.txt,Qbf,a7,a11,a12,a9,ih1 h.1,ih2 h.2.1,h_c (KZ (n:=n) (by omega)),Qbp]
theorem WQ {u:Ru} (h:u.ok):u.cs.all okh=true/\(L u.kw).all okh=true:=by
 obtain⟨_,_,_,_,_,_,_,_,_,_,_,_,_,_,a15,a16⟩:=Tn;cases u with
 | term z c=>exact⟨Wq h.1.2.2,a15⟩
 | sound n c=>have h1:1<=n/\n<=99:=h.1;exact⟨KZ (by omega),a16⟩
theorem Yi {u:Ru} (h:u.ok):∀c∈u.head,c≠61:=by
 have e:L " "=[32]:=by trivial
 rw[HJ,e];have k:=WQ h;intro c hc;simp only[Qbb,QaE] at hc;rcases hc with hc | hc | hc
 ·exact (QaL (QaS.mp k.2 c hc)).2.1
 ·rw[hc];decide
 ·exact (QaL (QaS.mp k.1 c hc)).2.1
theorem aF {u:Ru} (h:u.ok):∀c∈L u.kw,c≠32:=λc hc=>(QaL (QaS.mp (WQ h).2 c hc)).2.2
theorem Y9 {u:Ru} (h:u.ok):∀c∈u.row,c≠10:=by
 obtain⟨_,_,_,_,_,_,_,_,_,_,_,_,a13,a14,_,_⟩:=Tn;have k:=WQ h;have:u.row.all okc=true:=by
  show (u.head++(L " = "++u.c.txt)).all okc=true;rw[HJ];simp only[Qbf,a13,a14,h_c k.1,h_c k.2,Z1 (Js h).1,Qbp]
 exact λc hc=>QaL (QaS.mp this c hc)
theorem WM {xs:YG} {x:V}:FP (xs++[x]) none (some (-1))=xs:=by
 unfold FP;have e:HT.sIx (xs++[x]).length (xs++[x]).length (some (-1))=xs.length:=by
  show (if (-1:Int) < 0 then ((-1:Int)+((xs++[x]).length:Int)).toNat else min (-1:Int).toNat (xs++[x]).length)=_
  rw[if_pos (by decide),Qaz,List.length_singleton];omega
 rw[HT.V7,e,List.drop_zero,Nat.sub_zero];exact List.take_left' rfl
theorem K7:∀ys:YF,L (Str.join (Str.ofString "") ys)=(ys.map L).flatten
 | []=>by trivial
 | [a]=>by show L a=L a++[];rw[Qbk]
 | a::b::r=>by
  have e:L (Str.ofString "")=[]:=by trivial
  show L ((a++(Str.ofString ""))++Str.join (Str.ofString "") (b::r))=L a++((b::r).map L).flatten;rw[Cp,Cp,K7 (b::r),e,Qbk]
theorem Tq (ys:YF):L (Txt.join (Str.ofString "") ys)=(ys.map L).flatten:=by
 show L (Builtin.Str.glued _ ys)=_;rw[StrLaws.glued_eq_join];exact K7 ys
theorem KH {rs:List Ru} (ok:∀r∈rs,r.ok):(rs.map Ru.txt).flatten.length<=421*rs.length:=by
 induction rs with
 | nil=>exact QbB _
 | cons u t ih=>
  have h1:=RB (ok u (QaB ..));have h2:=ih λr hr=>ok r (Qas _ hr);rw[Qbr,List.flatten_cons,Qaz,QaQ];have:u.txt.length=u.row.length+1:=by show (u.row++L "\n").length=_;rw[Wu.2.2,Qaz];rfl
  omega
section
variable {P:Program} {w:World} {K:YD} {mg:YB} {base:Heap} {wA:Addr}
def Jp:Sp:=λvs H Q _=>∃(v:V) (rs:List Ru),vs=[v]/\Rep H v (.tuple (rs.map Ru.data))/\(∀r∈rs,r.ok)/\rs.length<=16/\∀H',Same H H'->Q (.str (S (rs.map Ru.txt).flatten)) H'
abbrev xa:YF:=["word","call","condition"]
theorem Oo (C:Code K mg "show_rules" Ih Ec) (En:Good P w K mg base "show_condition" 7 Dp (Ux 6)):Good P w K mg base "show_rules" 8 Ec Jp:=by
 refine C.good Oi (λvs H Q E h=>?_) (λf cdv A outer s H vs Q E hr h=>?_)
 ·obtain⟨v,c,rfl,_⟩:=h;rfl
 obtain⟨v,rs,rfl,rd,ok,l,q⟩:=h;refine⟨_,(Ag (Am (FW Qap PySem.F.slot_str_join PySem.F.type_str_join RM Aj (Aa (Fx (N':=xa) rfl (BX.plain rfl (by trivial) (by trivial) (by trivial)) (Ko (pv 0)) (λ_ _ _ _=>(XH (K:=K) (n:=3) rfl rfl (Bk (Az (i:=0) (show List.Nodup (xa:YF) by trivial) rfl (Or.inl rfl)) (Bk (Az (i:=1) (show List.Nodup (xa:YF) by trivial) rfl (Or.inl rfl)) (Bk (Az (i:=2) (show List.Nodup (xa:YF) by trivial) rfl (Or.inl rfl)) Dy))))) (λ_ _ _ _=>Gu) (λ_ _ _ _=>(GX (Dd (pv 0) (Df Aj (Dd (pv 1) (Df Aj (Dd (Aq En hr (Aa (pv 2) Ac)) (Df Aj Im))))))))) Ac)))),?_⟩;obtain⟨l0,l1,l2,l3,l4,l5,l6,l7,l8,l9,l10,l11,l12,l13,l14,l15,l16⟩:=ll;cases rd with
 | @tup a xs _ ha rr=>
 have lx:=Bb.len rr;rw[QaX] at lx;refine⟨rq,_,rq,a,rq,⟨_,SqT.of ha⟩,λp hp=>?_⟩;let J0:YN:=λ(i:Nat) (U : St) (HX:Hp)=>∃(b1 b2 b3:Option V),U=[b1,b2,b3]/\HX p=some (.lst (((rs.take i).map λu=>S u.txt).map V.str))/\Same H HX;refine QD (xs:=xs) J0 ⟨none,none,none,rq,Ae,Af hp _⟩ (λi U HX _ h=>?_) (λi x U HX hx h=>?_) (fun U HX h=>?_)
 ·obtain⟨_,_,_,rfl,_,s⟩:=h;exact SqT.of (s _ _ ha)
 ·obtain⟨_,_,_,rfl,e,s⟩:=h;obtain⟨d,hd,rx⟩:=Bb.at_ rr hx;rw[QaM] at hd;cases hu:rs[i]? with
  | none=>rw[hu] at hd;cases hd
  | some u=>
  rw[hu] at hd;injection hd with hd;subst hd;have uo:=ok u (Qat hu);obtain⟨t,v,rfl,ht,rv⟩:=P0 rx;obtain⟨ty,ey⟩:=Xg uo;obtain⟨c1,c2,c3⟩:=Js uo;have cl:=QC uo;have yl:u.ys.length<=8:=by rw[Hz,ey];exact cl.1
  have tl:=BW c1;refine⟨t,_,rq,SqT.of (s _ _ ht),rq,_,_,rq,_,_,rq,_,_,rq,rq,Bt ?_⟩;refine⟨_,rq,u.kw,.inl rfl,szb (by simp only[QaI,l0];omega),_,rq,szb (by simp only[QaI,l0,l5];omega),_,rq,u.ys,ty,szb (by simp only[QaI,l0,l5];omega),_,rq,szb (by simp only[QaI,l0,l5,l15];omega),?_⟩;refine⟨_,rq,v,u.c,rq,Rep.same s rv,c1,c2,c3,λHY s'=>?_⟩;refine⟨_,.inl rfl,szb (by simp only[QaI,l0,l5,l15,Ah];omega),_,rq,szb (by simp only[QaI,l0,l5,l15,l16,Ah];omega),szb (by simp only[QaI,l0,l5,l15,l16,Ah];omega),?_⟩;refine⟨_,s' _ _ e,BJ (by rw[QaX,QaX,QaT];omega),_,_,_,rq,?_,(s.trans s').Gq Al.upd hp⟩;rw[Ae,QbH hu,QaY,QaY];congr 3;refine congrArg (λz=>[V.str z]) (HF ?_);simp only[Cp,Dh,Qba,QaJ,L_S,ey];show _=(u.head++(L " = "++u.c.txt))++L "\n";rw[HJ];simp only[QaJ]
 ·obtain⟨_,_,_,rfl,e,s⟩:=h;rw[lx,QaU] at e;have e0:(rs.map λu=>S u.txt).map L=rs.map Ru.txt:=by rw[List.map_map];rfl
  refine⟨_,p,rs.map λu=>S u.txt,rq,rq,SqL.of e,?_,?_⟩
  ·rw[show (Str.ofString "").length=0 from l0,Nat.mul_zero,List.map_map]
   have k:=KH ok;rw[List.length_flatten,List.map_map] at k;have:(rs.map ((λx=>x.length) ∘ λu=>S u.txt))=rs.map (List.length ∘ Ru.txt):=List.map_congr_left λu _=>Ah _;rw[this];omega
  ·have:Txt.join (Str.ofString "") (rs.map λu=>S u.txt)=S (rs.map Ru.txt).flatten:=HF (by rw[L_S,<-e0];exact Tq _);rw[this];exact q _ s
def Xd:Sp:=λvs H Q _=>∃(u:Ru),vs=[.str (S u.row)]/\u.ok/\∀p H',Rep H' (.ref p) u.data->Same H H'->Q (.ref p) H'
theorem Q7 (C:Code K mg "read_row" JB Gv) (T:Tx K w.params mg wA) (CJ:Good P w K mg base "read_condition" 16 Bw (PB 6)) (BL:Good P w K mg base "read_number" 1 Cu Pz):Good P w K mg base "read_row" 17 Gv Xd:=by
 refine C.good CK (λvs H Q E h=>?_) (λf cdv A outer s H vs Q E hr h=>?_)
 ·obtain⟨u,rfl,_⟩:=h;rfl
 obtain⟨u,rfl,ok,q⟩:=h;refine⟨_,(Ad (Dc (FW Qap PySem.F.slot_str_partition PySem.F.type_str_partition Ku (pv 0) (Aa Aj Ac)) (Ep rfl (Bk (Az (i:=1) CK.nd rfl (Or.inl rfl)) (Bk (Az (i:=2) CK.nd rfl (Or.inl rfl)) (Bk (Az (i:=3) CK.nd rfl (Or.inl rfl)) Dy)))))
 (Ad (Dc (FW Qap PySem.F.slot_str_partition PySem.F.type_str_partition Ku (pv 1) (Aa Aj Ac)) (Ep rfl (Bk (Az (i:=4) CK.nd rfl (Or.inl rfl)) (Bk (Az (i:=5) CK.nd rfl (Or.inl rfl)) (Bk (Az (i:=6) CK.nd rfl (Or.inl rfl)) Dy)))))
 (Ad (Dc (Aq CJ hr (Aa (pv 3) (Aa (Ip rfl T.MOST_DEEP) Ac))) (Ep rfl (Bk (Az (i:=7) CK.nd rfl (Or.inl rfl)) (Bk (Az (i:=8) CK.nd rfl (Or.inl rfl)) Dy))))
 (Ag (Am (Bq (Aa (pv 4) (Aa (Wg (Ay BR (pv 4) Aj (Ba _)) (Aq BL hr (Aa (pv 6) Ac)) (pv 6)) (Aa (pv 7) Ac))))))))),?_⟩
 show let R0:TS:=_;let R1:TS:=Ak _ R0;let R2:TS:=Ak _ R1;Ak _ R2 _ _ _;intro R0 R1 R2;have e1:Txt.partition (S u.row) " = "=(S u.head,(" = ":Str),S u.c.txt):=XR (Yi ok);have e2:Txt.partition (S u.head) " "=(S (L u.kw),(" ":Str),S u.cs):=by rw[HJ];exact Zd (aF ok)
 have rl:=RB ok;have hl:u.head.length<=420:=by
  have:u.row.length=u.head.length+(L " = "++u.c.txt).length:=Qaz;omega
 obtain⟨c1,c2,c3⟩:=Js ok;have tl:=BW c1;refine⟨_,rq,rq,S u.row," = ",rq,rq,by trivial,szb (by rw[Ah];omega),λp1 hp1=>?_⟩;rw[e1];have s1:=Af hp1 (.tup [.str (S u.head),.str " = ",.str (S u.c.txt)]);refine⟨p1,_,rq,SqT.of Ae,rq,_,_,rq,_,_,rq,_,_,rq,rq,?_⟩;refine⟨_,rq,rq,S u.head," ",rq,rq,by trivial,szb (by rw[Ah];omega),λp2 hp2=>?_⟩;rw[e2];have s2:=Af hp2 (.tup [.str (S (L u.kw)),.str " ",.str (S u.cs)]);refine⟨p2,_,rq,SqT.of Ae,rq,_,_,rq,_,_,rq,_,_,rq,rq,?_⟩;refine⟨_,rq,u.c,[],6,by show [V.str (S u.c.txt),V.int 6]=[V.str (S (u.c.txt++[])),V.int ((6:Nat):Int)];rw[Qbk];rfl,c1,c2,QbB _,.inl rfl,by rw[Qbk];omega,λp3 t H3 hp3 rt s3=>⟨p3,_,rq,SqT.of hp3,rq,_,_,rq,_,_,rq,rq,?_⟩⟩;have s03:=s1.trans (s2.trans s3);refine⟨_,rq,_,rq,rq,_,rq,?_⟩;cases u with
 | term z c=>
  refine ifS (λe=>absurd e (by show S (L "term")≠"sound";decide +kernel)) (λ_=>?_);refine⟨_,rq,_,rq,Ar (by show 3<=1000;decide),λp5 hp5=>?_⟩;have s5:=Af hp5 (.tup [.str "term",.str z,.ref t]);exact q p5 _ (O9 (u:=.term z c) Ae (Rep.same s5 rt)) (s03.trans s5)
 | sound n c=>
  have h1:1<=n/\n<=99:=ok.1;refine ifS (λ_=>?_) (λe=>absurd rfl e);refine⟨_,rq,n,rq,by omega,λH4 s4=>⟨_,rq,Ar (by show 3<=1000;decide),λp5 hp5=>?_⟩⟩;have s5:=Af hp5 (.tup [.str "sound",.int n,.ref t]);exact q p5 _ (O9 (u:=.sound n c) Ae (Rep.same (s4.trans s5) rt)) (s03.trans (s4.trans s5))
def YZ:Sp:=λvs H Q _=>∃(rs:List Ru),vs=[.str (S (rs.map Ru.txt).flatten)]/\(∀r∈rs,r.ok)/\1<=rs.length/\rs.length<=16/\∀p H',Rep H' (.ref p) (.tuple (rs.map Ru.data))->Same H H'->Q (.ref p) H'
theorem Ot (C:Code K mg "read_rules" Ii Fe) (T:Tx K w.params mg wA) (Tw:Good P w K mg base "read_row" 17 Gv Xd) (TF:Good P w K mg base "is_rules" 7 Gx (GP Jr)) (GC:Good P w K mg base "show_rules" 8 Ec Jp):Good P w K mg base "read_rules" 18 Fe YZ:=by
 refine C.good JX (λvs H Q E h=>?_) (λf cdv A outer s H vs Q E hr h=>?_)
 ·obtain⟨c,rfl,_⟩:=h;rfl
 obtain⟨rs,rfl,ok,l1,l2,q⟩:=h;refine⟨_,(Ad (Bh (PW.pt (JK (Fb (Dk (Bd Eo rfl T.isinstance BZ (Aa (pv 0) (Aa (Fy (v:=.ty "str") rfl T.str GJ rfl) Ac))))) (Ju (Fb (Dk (FW Qap PySem.F.slot_str_endswith PySem.F.type_str_endswith Ra (pv 0) (Aa Aj Ac))))))) (Ag Li) Ax)
 (Ad (Bl (i:=1) JX.nd rfl (Or.inl rfl) (Cr J3 rfl T.tuple JT (Aa (Fx (N':=["row"]) rfl (BX.plain rfl (by trivial) (by trivial) (by trivial)) (KR (Ce Xx (FW Qap PySem.F.slot_str_split PySem.F.type_str_split Ws (pv 0) (Aa Aj Ac)) Dw (Cq (Xi Uo Ab)))) (λ_ _ _ _=>(Az (i:=0) (show List.Nodup (["row"]:YF) by trivial) rfl (Or.inl rfl))) (λ_ _ _ _=>Gu) (λ_ _ _ _=>(Aq Tw hr (Aa (pv 0) Ac)))) Ac)))
 (Ad (Bh (PW.pt (JK (Fb (Dk (Aq TF hr (Aa (pv 1) Ac)))) (Ju (Ay Pa (Aq GC hr (Aa (pv 1) Ac)) (pv 0) (Ba _))))) (Ag Li) Ax)
 (Ag (Am (pv 1)))))),?_⟩
 show let R0:TS:=Ak _ _;let R1:TS:=Ak _ R0;Ak _ R1 _ _ _;intro R0 R1;have e10:=Wu.2.2;have ex:(rs.map Ru.txt).flatten=((rs.map Ru.row).map λr=>r++[10]).flatten:=by
  rw[List.map_map];congr 1
 have en:Txt.endswith (S (rs.map Ru.txt).flatten) "\n"=true:=by
  have:rs≠[]:=λz=>by rw[z] at l1;exact absurd l1 (by decide)
  have e:=List.dropLast_concat_getLast this;rw[<-e,QaY,List.flatten_append];have:([rs.getLast this].map Ru.txt).flatten=(rs.getLast this).row++L "\n":=by rw[List.map_singleton,List.flatten_singleton];rfl
  rw[this,<-QaJ];exact ZF _
 have sp:=SM (rows:=rs.map Ru.row) (λr hr=>by obtain⟨u,hu,rfl⟩:=QbA.mp hr;exact Y9 (ok u hu));have tl:=KH ok;refine⟨_,rq,Yd ⟨_,rq,Bx ⟨_,rq,rq,_,_,rq,rq,_,rq,Ci (by rw[en];rfl) ?_⟩⟩⟩;refine⟨_,rq,rq,S (rs.map Ru.txt).flatten,"\n",rq,rq,by trivial,Qby (by rw[Ah];show _<=100000;omega) Ry,λp1 hp1=>?_⟩;rw[ex,sp,QaY,QaY];refine⟨_,rq,_,rq,p1,_,rq,SqL.of Ae,λp2 hp2=>⟨p2,rq,⟨_,SqL.of Ae⟩,λl hl=>?_⟩⟩;rw[show FP (List.map V.str (List.map S (List.map Ru.row rs))++List.map V.str (List.map S [[]])) none (some (-1))=List.map V.str (List.map S (List.map Ru.row rs)) from WM] at *
 have s1:=(Af hp1 (.lst (List.map V.str (List.map S (List.map Ru.row rs))++List.map V.str (List.map S [[]])))).trans (Af hp2 (.lst (List.map V.str (List.map S (List.map Ru.row rs)))));have c2:upd (upd H p1 (.lst (List.map V.str (List.map S (List.map Ru.row rs))++List.map V.str (List.map S [[]])))) p2 (.lst (List.map V.str (List.map S (List.map Ru.row rs)))) p2=some (.lst (List.map V.str (List.map S (List.map Ru.row rs)))):=Ae;generalize upd (upd H p1 (.lst (List.map V.str (List.map S (List.map Ru.row rs))++List.map V.str (List.map S [[]])))) p2 (.lst (List.map V.str (List.map S (List.map Ru.row rs))))=H2 at *;refine Kw (xs:=List.map V.str (List.map S (List.map Ru.row rs))) (λ(i:Nat) (U : St) (HX:Hp)=>∃(b1:Option V) (ys:YG),U=[b1]/\HX l=some (.lst ys)/\Bb (onl HX) ys ((rs.take i).map Ru.data)/\Same H2 HX) ⟨none,[],rq,Ae,.nil,Af hl _⟩ (λi U HX _ h=>?_) (λi x U HX hx h=>?_) (fun U HX h=>?_)
 ·obtain⟨_,_,rfl,_,_,s⟩:=h;exact SqL.of (s _ _ c2)
 ·obtain⟨b1,ys,rfl,e,rr,s⟩:=h;rw[QaM,QaM,QaM] at hx;cases hu:rs[i]? with
  | none=>rw[hu] at hx;cases hx
  | some u=>
  rw[hu] at hx;injection hx with hx;subst hx;have uo:=ok u (Qat hu);unfold FJ;dsimp only;refine Bt ⟨_,rq,u,rq,uo,λp HY ry sy=>?_⟩;have ey:=sy _ _ e;have yl:=Bb.len rr;rw[QaX,QaT] at yl;have ts:Ck HY (upd HY l (.lst (ys++[.ref p]))):=(Al.upd (b:=l)).tup λxs z=>by rw[ey] at z;cases z
  refine⟨ys,ey,BJ (by omega),_,_,rq,Ae,?_,(s.trans sy).Gq Al.upd hl⟩;rw[QbH hu,QaY];exact Bb.app (Bb.same (Em (Ck.trans (Ck.of sy) ts)) rr) (.cons (Rep.same (Em ts) (Y8 ry)) .nil)
 ·obtain⟨b1,ys,rfl,e,rr,s⟩:=h;have yl:=Bb.len rr;rw[QaX,QaX,QaX,QaU] at rr;refine⟨l,ys,rq,.inl ⟨SqL.of e,λt ht=>?_⟩⟩;have st:=Af ht (.tup ys);have rt:Rep (upd HX t (.tup ys)) (.ref t) (.tuple (rs.map Ru.data)):=.tup Ae (Bb.same ((RJ HX).trans st) rr);generalize upd HX t (.tup ys)=H5 at *;have s5:=s1.trans (s.trans st);refine⟨_,rfl,_,_,rfl,rt,(UJ ok l2).fit (by decide) |>.mono (by decide),λH6 s6=>⟨_,rfl,Ci (by rw[U3 ok ⟨l1,l2⟩];rfl) ?_⟩⟩;refine⟨_,rq,_,rs,rq,Rep.same s6 rt,ok,l2,λH7 s7=>⟨_,rq,rq,_,rq,Ci (by rw[ex];simp) ?_⟩⟩;exact⟨_,rq,q t _ (Rep.same (s6.trans s7) rt) (s5.trans (s6.trans s7))⟩
end
abbrev Lg:Stmt:=top 38
abbrev Iu:YF:=["_law_bag_here","_law_way","_law_zones","_law_terms"]
theorem UW:Bc Iu Iu (Ao Lg):=by ac_rfl
abbrev Ht:Stmt:=top 39
abbrev CW:YF:=["_law_bag_here","_law_deep","_law_left","_law_zones","_law_terms"]
theorem Cz:Bc ["_law_bag_here","_law_deep","_law_left","_law_zones","_law_terms","_law_way","_law_one","_law_other"] CW (Ao Ht):=by ac_rfl
def Cv (H:Hp) (t:Addr) (c:Cd):Prop:=Rep (onl H) (.ref t) c.data
theorem Cv.tups {H H':Hp} {t:Addr} {c:Cd} (s:Ck H H') (h:Cv H t c):Cv H' t c:=Rep.same (Em s) h
theorem Tg {H:Hp} {l:Addr} {ys:YF} (h:Bp H l ys) {i:Nat} (hi:i < ys.length):∃y,atI (ys.map V.str) (i:Int)=some (.str y)/\M8 y:=by
 have hy:ys[i]?=some ys[i]:=Qah hi;have:=h.2.2.2 _ (Qat hy);exact⟨ys[i],Ai (by rw[QaM,hy];rfl),this.1.1,this.1.2,this.2⟩
def PL:Sp:=λvs H Q _=>∃(b zl:Addr) (m:Nat) (way:Int) (ys:YF),vs=[.ref b,.int way,.ref zl,.ref zl]/\Br H b m/\m<=9000/\b≠zl/\Bp H zl ys/\∀t c H',Cv H' t c->c.ok->c.deep=1->c.many=1->Br H' b (m+2)->Al b H H'->Q (.ref t) H'
theorem at5 {i:Int} (h0:0<=i) (h5:i < 5):∃p:Nat,atI [V.int 0,.int 0,.int 1,.int 2,.int 8] i=some (.int p)/\p<=8:=by
 have:i=0\/i=1\/i=2\/i=3\/i=4:=by omega
 rcases this with rfl | rfl | rfl | rfl | rfl
 ·exact⟨0,rq,by decide⟩
 ·exact⟨0,rq,by decide⟩
 ·exact⟨1,rq,by decide⟩
 ·exact⟨2,rq,by decide⟩
 ·exact⟨8,rq,by decide⟩
section
variable {P:Program} {w:World} {K:YD} {mg:YB} {base:Heap}
theorem X6 (c:Code K mg "_law_leaf" Lg Iu) (T:Tc mg) (Bo:Good P w K mg base "_law_take" 1 Fg Ke):Good P w K mg base "_law_leaf" 2 Iu PL:=by
 refine c.good UW (λvs H Q E h=>?_) (λf cdv A outer s H vs Q E hr h=>?_)
 ·obtain⟨b,zl,m,way,ys,rfl,_⟩:=h;rfl
 obtain⟨b,zl,m,way,ys,rfl,hb,hm,nb,hz,q⟩:=h;refine⟨_,(@Ad _ _ _ _ _ (Bh (PW.pt (Mj (Ay BR (pv 1) Ab (Ba _)) (KJ (Ay (Qd hr.units) (pv 2) (Dl Ac) (Ba _))))) (@Ag _ _ _ (@Am _ _ _ _ (Bq (Aa Aj (Aa (@Av _ _ _ _ _ _ _ _ Dg Ab (@Aw _ _ _ _ _ _ _ Bm (@Dl _ _ _ _ (@Aa _ _ _ _ _ (@Ab _ _ _ _) (@Aa _ _ _ _ _ (@Ab _ _ _ _) (@Aa _ _ _ _ _ (@Ab _ _ _ _) (@Aa _ _ _ _ _ (@Ab _ _ _ _) (@Aa _ _ _ _ _ (@Ab _ _ _ _) (@Ac _) Cy) Cy) Cy) Cy) Cy)) (Aq Bo hr (Aa (pv 0) (Aa Ab Ac))) (λ_ _=>rfl))) (Aa (@Aw _ _ _ _ _ _ _ Bm (pv 2) (Aq Bo hr (Aa (pv 0) (Aa (Bd BK rfl T.len DQ (Aa (pv 2) Ac)) Ac))) (λ_ _=>rfl)) Ac)))))) Ax)
 (@Ad _ _ _ _ _ (Bh (PW.pt (Mj (Ay BR (pv 1) Ab (Ba _)) (KJ (Ay (Qd hr.units) (pv 3) (Dl Ac) (Ba _))))) (@Ag _ _ _ (@Am _ _ _ _ (Bq (Aa Aj (Aa (@Aw _ _ _ _ _ _ _ Bm (pv 3) (Aq Bo hr (Aa (pv 0) (Aa (Bd BK rfl T.len DQ (Aa (pv 3) Ac)) Ac))) (λ_ _=>rfl)) Ac))))) Ax)
 (@Ad _ _ _ _ _ (Bh (Ay BR (pv 1) Ab (Ba _)) (@Ag _ _ _ (@Am _ _ _ _ (Bq (Aa Aj (Aa (Aq Bo hr (Aa (pv 0) (Aa Ab Ac))) (Aa (Aq Bo hr (Aa (pv 0) (Aa Ab Ac))) Ac)))))) Ax)
 (@Ag _ _ _ (@Am _ _ _ _ (Bq (Aa Aj (Aa (Aq Bo hr (Aa (pv 0) (Aa Ab Ac))) Ac)))))))),?_⟩
 show let R0:TS:=_;let R1:TS:=_;let R2:TS:=Ak (Bu _ R1 _) R0;let R3:TS:=_;let R4:TS:=Ak (Bu _ R3 _) R2;let R5:TS:=_;Ak (Bu _ R5 _) R4 _ _ _;intro R0 R1 R2 R3 R4 R5;have ny:=hz.2.1;have ny9:=hz.2.2.1;have lz:(((ys.map V.str).length:Nat):Int)=(ys.length:Int):=by rw[QaX]
 refine⟨_,rq,rq,_,rq,ifN (λe=>?_) (λe=>?_)⟩
 ·refine⟨_,rq,Ar (by show 0<=1000;decide),λle hle=>?_⟩;have se:=Af hle (.lst []);have ce:upd H le (.lst []) le=some (.lst []):=Ae;generalize upd H le (.lst [])=H1 at *;have hz1:Bp H1 zl ys:=⟨se _ _ hz.1,hz.2⟩;refine⟨_,_,hz1.rep,.lst ce .nil,hz1.shp,by rfl,_,rq,?_⟩;rw[hz.ne];refine Bt ⟨Ar (by show 5<=1000;decide),λl5 hl5=>?_⟩;have s5:=Af hl5 (.lst [.int 0,.int 0,.int 1,.int 2,.int 8]);have c5:upd H1 l5 (.lst [.int 0,.int 0,.int 1,.int 2,.int 8]) l5=some (.lst [.int 0,.int 0,.int 1,.int 2,.int 8]):=Ae;have hb2:=(hb.same se).same s5;have nb5:b≠l5:=(hb.same se).nb hl5;generalize upd H1 l5 (.lst [.int 0,.int 0,.int 1,.int 2,.int 8])=H2 at *;have s02:=se.trans s5;refine⟨_,rq,b,m,5,rq,hb2,by omega,by decide,by decide,λr H3 r0 r1 hb3 sb3=>?_⟩;obtain⟨p,hp,p8⟩:=at5 r0 r1;have hz3:Bp H3 zl ys:=Bp.Dr ⟨s5 _ _ hz1.1,hz.2⟩ sb3 nb.symm;refine⟨l5,_,_,_,rq,rq,SqL.of (sb3 _ _ c5 nb5.symm),hp,_,_,rq,rq,_,rq,_,rq,_,rq,zl,_,rq,.inl (SqL.of hz3.1),b,_,_,rq,hb3,by omega,by rw[lz];omega,by rw[lz];omega,λr2 H4 r20 r21 hb4 sb4=>?_⟩;rw[lz] at r21;obtain⟨rn,rfl⟩:=Qak r20;have hz4:=hz3.Dr sb4 nb.symm;obtain⟨y,hy,ny⟩:=Tg hz4 (i:=rn) (by omega);refine⟨zl,_,_,_,rq,rq,SqL.of hz4.1,hy,Ar (by show 3<=1000;decide),λt ht=>?_⟩;dsimp only;rw[show (1:Int)+(p:Int)=((1+p:Nat):Int) by omega];exact q t (.off (1+p) y) _ (.tup (BP Ae) (.cons (.str _) (.cons (.int _) (.cons (.str _) .nil)))) ⟨by omega,by omega,ny⟩ rfl rfl ((hb4.same (Af ht _)).mono (by omega)) (((Al.of s02).trans (sb3.trans sb4)).trans (Al.of (Af ht _)))
 refine⟨_,rq,rq,_,rq,ifN (λe1=>?_) (λe1=>?_)⟩
 ·refine⟨_,rq,Ar (by show 0<=1000;decide),λle hle=>?_⟩;have se:=Af hle (.lst []);have ce:upd H le (.lst []) le=some (.lst []):=Ae;generalize upd H le (.lst [])=H1 at *;have hz1:Bp H1 zl ys:=⟨se _ _ hz.1,hz.2⟩;refine⟨_,_,hz1.rep,.lst ce .nil,hz1.shp,by rfl,_,rq,?_⟩;rw[hz.ne];refine Bt ⟨_,rq,_,rq,_,rq,zl,_,rq,.inl (SqL.of hz1.1),b,_,_,rq,hb.same se,by omega,by rw[lz];omega,by rw[lz];omega,λr2 H4 r20 r21 hb4 sb4=>?_⟩;rw[lz] at r21;obtain⟨rn,rfl⟩:=Qak r20;have hz4:=hz1.Dr sb4 nb.symm;obtain⟨y,hy,ny⟩:=Tg hz4 (i:=rn) (by omega);refine⟨zl,_,_,_,rq,rq,SqL.of hz4.1,hy,Ar (by show 2<=1000;decide),λt ht=>?_⟩;exact q t (.term y) _ (.tup (BP Ae) (.cons (.str _) (.cons (.str _) .nil))) ny rfl rfl ((hb4.same (Af ht _)).mono (by omega)) (((Al.of se).trans sb4).trans (Al.of (Af ht _)))
 refine⟨_,rq,rq,_,rq,ifN (λe2=>?_) (λe2=>?_)⟩
 ·refine⟨_,rq,b,m,24,rq,hb,by omega,by decide,by decide,λr H1 r0 r1 hb1 sb1=>⟨_,rq,b,_,24,rq,hb1,by omega,by decide,by decide,λr2 H2 r20 r21 hb2 sb2=>⟨Ar (by show 3<=1000;decide),λt ht=>?_⟩⟩⟩;obtain⟨n1,rfl⟩:=Qak r0;obtain⟨n2,rfl⟩:=Qak r20;exact q t (.hours n1 n2) _ (.tup (BP Ae) (.cons (.str _) (.cons (.int _) (.cons (.int _) .nil)))) ⟨by omega,by omega⟩ rfl rfl ((hb2.same (Af ht _)).mono (by omega)) ((sb1.trans sb2).trans (Al.of (Af ht _)))
 ·refine⟨_,rq,b,m,10,rq,hb,by omega,by decide,by decide,λr H1 r0 r1 hb1 sb1=>⟨Ar (by show 2<=1000;decide),λt ht=>?_⟩⟩;obtain⟨n1,rfl⟩:=Qak r0;exact q t (.key n1) _ (.tup (BP Ae) (.cons (.str _) (.cons (.int _) .nil))) (show n1<=9 by omega) rfl rfl ((hb1.same (Af ht _)).mono (by omega)) (sb1.trans (Al.of (Af ht _)))
end
def S2 (b l:Addr) (H H':Hp):Prop:=∀c o,H c=some o->c≠b->c≠l->H' c=some o
theorem S2.refl (b l:Addr) (H:Hp):S2 b l H H:=λ_ _ e _ _=>e
theorem S2.trans {b l:Addr} {H H' H'':Hp} (s:S2 b l H H') (t:S2 b l H' H''):S2 b l H H'':=λc o e n1 n2=>t _ _ (s _ _ e n1 n2) n1 n2
theorem S2.l {b l:Addr} {H H':Hp} (s:Al b H H'):S2 b l H H':=λc o e n1 _=>s _ _ e n1
theorem S2.r {b l:Addr} {H H':Hp} (s:Al l H H'):S2 b l H H':=λc o e _ n2=>s _ _ e n2
theorem S2.of {b l:Addr} {H H':Hp} (s:Same H H'):S2 b l H H':=λc o e _ _=>s _ _ e
theorem S2.tup {b l:Addr} {H H':Hp} (s:S2 b l H H') (h1:∀xs,H b≠some (.tup xs)) (h2:∀xs,H l≠some (.tup xs)):Ck H H':=λc xs e=>s _ _ e (λz=>h1 xs (by rw[<-z];exact e)) (λz=>h2 xs (by rw[<-z];exact e))
theorem Bp.s2 {H H':Hp} {l b z:Addr} {ys:YF} (h:Bp H z ys) (s:S2 b l H H') (n1:z≠b) (n2:z≠l):Bp H' z ys:=⟨s _ _ h.1 n1 n2,h.2⟩
def Uy (d:Nat):Sp:=λvs H Q _=>∃(b lf zl:Addr) (m:Nat) (x:Int) (ys:YF),vs=[.ref b,.int ((d+1:Nat):Int),.ref lf,.ref zl,.ref zl]/\Br H b m/\(m:Int)+3*x<=8000/\1<=x/\b≠lf/\b≠zl/\lf≠zl/\Bp H zl ys/\H lf=some (.lst [.int x])/\∀t c x' H',Cv H' t c->c.ok->c.deep<=d+1->x'=x - (c.many:Int)->0<=x'->Br H' b (m+3*c.many)->H' lf=some (.lst [.int x'])->S2 b lf H H'->Q (.ref t) H'
def O8 (D:Nat):Sp:=λvs H Q E=>∃d,d<=D/\Uy d vs H Q E
theorem fY {i:Int} (h0:0<=i) (h4:i < 4):∃p:Int,atI [V.int 1,.int 2,.int 4,.int 20] i=some (.int p)/\1<=p/\p<=20:=by
 have:i=0\/i=1\/i=2\/i=3:=by omega
 rcases this with rfl | rfl | rfl | rfl
 ·exact⟨1,rq,by decide,by decide⟩
 ·exact⟨2,rq,by decide,by decide⟩
 ·exact⟨4,rq,by decide,by decide⟩
 ·exact⟨20,rq,by decide,by decide⟩
theorem Tj {H:Hp} {l:Addr} {ys:YG} (h:H l=some (.lst ys)):∀xs,H l≠some (.tup xs):=λxs z=>by rw[h] at z;cases z
section
variable {P:Program} {w:World} {K:YD} {mg:YB} {base:Heap}
theorem X7 (c:Code K mg "_law_condition" Ht CW) (T:Tc mg) (Bo:Good P w K mg base "_law_take" 1 Fg Ke) (Qw:Good P w K mg base "_law_leaf" 2 Iu PL):∀k,Good P w K mg base "_law_condition" (3+k) CW (O8 k):=by
 have step:∀(D k':Nat) (sp':Sp),(∀e,e+1<=D->∀vs H Q E,Uy e vs H Q E->sp' vs H Q E)->Good P w K mg base "_law_condition" k' CW sp'->1<=k'->2<=k'->Good P w K mg base "_law_condition" (k'+1) CW (O8 D):=λD k' sp' hsp Er hk1 hk2=>by
  have sc:=Cz;refine c.good Cz (λvs H Q E h=>?_) (λf cdv A outer s H vs Q E hr h=>?_)
  ·obtain⟨d,hd,b,lf,zl,m,x,ys,rfl,_⟩:=h;rfl
  obtain⟨d,hd,b,lf,zl,m,x,ys,rfl,hb,hm,hx,nbl,nbz,nlz,hz,hlf,q⟩:=h;refine⟨_,(@Ad _ _ _ _ _ (Dc (@Av _ _ _ _ _ _ _ _ Hl (@Aw _ _ _ _ _ _ _ Bm (pv 2) Ab (λ_ _=>rfl)) Ab) (Kp (pv 2) Ab set_list))
 (@Ad _ _ _ _ _ (@Bl _ _ 5 _ _ _ _ Cz.nd rfl (Or.inl rfl) (Aq (hk:=hk1) Bo hr (Aa (pv 0) (Aa Ab Ac))) (by rfl) (by first | exact .inl rfl | exact .inr rfl))
 (@Ad _ _ _ _ _ (Bh (PW.pt (JK (Ay KY (pv 1) Ab (Ba _)) (Ju (Ay KY (@Aw _ _ _ _ _ _ _ Bm (pv 2) Ab (λ_ _=>rfl)) Ab (Ba _))))) (@Ag _ _ _ (@Am _ _ _ _ (Aq (hk:=hk2) Qw hr (Aa (pv 0) (Aa (@Av _ _ _ _ _ _ _ _ FT (pv 5) Ab) (Aa (pv 3) (Aa (pv 4) Ac))))))) Ax)
 (@Ad _ _ _ _ _ (Bh (PW.pt (Mj (Ay Xk (pv 5) Ab (Ba _)) (KJ (Ay KY (@Aw _ _ _ _ _ _ _ Bm (pv 2) Ab (λ_ _=>rfl)) Ab (Ba _))))) (@Ag _ _ _ (@Bl _ _ 5 _ _ _ _ Cz.nd rfl (Or.inl rfl) Ab (by rfl) (by first | exact .inl rfl | exact .inr rfl))) Ax)
 (@Ad _ _ _ _ _ (Bh (Ay KY (pv 5) Ab (Ba _)) (@Ag _ _ _ (@Am _ _ _ _ (Aq (hk:=hk2) Qw hr (Aa (pv 0) (Aa (pv 5) (Aa (pv 3) (Aa (pv 4) Ac))))))) Ax)
 (@Ad _ _ _ _ _ (Bh (Ay BR (pv 5) Ab (Ba _)) (@Ag _ _ _ (@Am _ _ _ _ (Bq (Aa Aj (Aa (Aq (hk:=(QbB _)) Er hr (@Aa _ _ _ _ _ (pv 0) (@Aa _ _ _ _ _ (@Av _ _ _ _ _ _ _ _ Hl (pv 1) Ab) (@Aa _ _ _ _ _ (pv 2) (@Aa _ _ _ _ _ (pv 3) (@Aa _ _ _ _ _ (pv 4) (@Ac _) Cw) Cw) Cw) Px) Cw)) Ac))))) Ax)
 (@Ad _ _ _ _ _ (Dc (@Av _ _ _ _ _ _ _ _ Hl (@Aw _ _ _ _ _ _ _ Bm (pv 2) Ab (λ_ _=>rfl)) Ab) (Kp (pv 2) Ab set_list))
 (@Ad _ _ _ _ _ (@Bl _ _ 6 _ _ _ _ Cz.nd rfl (Or.inl rfl) (Aq (hk:=(QbB _)) Er hr (@Aa _ _ _ _ _ (pv 0) (@Aa _ _ _ _ _ (@Av _ _ _ _ _ _ _ _ Hl (pv 1) Ab) (@Aa _ _ _ _ _ (pv 2) (@Aa _ _ _ _ _ (pv 3) (@Aa _ _ _ _ _ (pv 4) (@Ac _) Cw) Cw) Cw) Px) Cw)) (by rfl) (by first | exact .inl rfl | exact .inr rfl))
 (@Ad _ _ _ _ _ (Dc (@Av _ _ _ _ _ _ _ _ Dg (@Aw _ _ _ _ _ _ _ Bm (pv 2) Ab (λ_ _=>rfl)) Ab) (Kp (pv 2) Ab set_list))
 (@Ad _ _ _ _ _ (@Bl _ _ 7 _ _ _ _ Cz.nd rfl (Or.inl rfl) (Aq (hk:=(QbB _)) Er hr (@Aa _ _ _ _ _ (pv 0) (@Aa _ _ _ _ _ (@Av _ _ _ _ _ _ _ _ Hl (pv 1) Ab) (@Aa _ _ _ _ _ (pv 2) (@Aa _ _ _ _ _ (pv 3) (@Aa _ _ _ _ _ (pv 4) (@Ac _) Cw) Cw) Cw) Px) Cw)) (by rfl) (by first | exact .inl rfl | exact .inr rfl))
 (@Ad _ _ _ _ _ (Bh (Ay BR (pv 5) Ab (Ba _)) (@Ag _ _ _ (@Am _ _ _ _ (Bq (Aa Aj (Aa (pv 6) (Aa (pv 7) (Aa (@Av _ _ _ _ _ _ _ _ Dg Ab (Aq (hk:=hk1) Bo hr (Aa (pv 0) (Aa (@Aw _ _ _ _ _ _ _ Bm (Dl (Aa Ab (Aa Ab (Aa Ab (Aa Ab Ac))))) (Aq (hk:=hk1) Bo hr (Aa (pv 0) (Aa Ab Ac))) (λ_ _=>rfl)) Ac)))) Ac))))))) Ax)
 (@Ag _ _ _ (@Am _ _ _ _ (Bq (Aa (@Aw _ _ _ _ _ _ _ Bm (Dl (Aa Aj (Aa Aj Ac))) (@Av _ _ _ _ _ _ _ _ Hl (pv 5) Ab) (λ_ _=>rfl)) (Aa (pv 6) (Aa (pv 7) Ac))))))))))))))))),?_⟩
  show let R0:TS:=_;let R1:TS:=_;let R2:TS:=Ak (Bu _ R1 _) R0;let R3:TS:=Ak _ R2;let R4:TS:=Ak _ R3;let R5:TS:=Ak _ R4;let R6:TS:=Ak _ R5;let R7:TS:=_;let R8:TS:=Ak (Bu _ R7 _) R6;let R9:TS:=_;let R10:TS:=Ak (Bu _ R9 _) R8;let R11:TS:=_;let R12:TS:=Ak (Bu _ R11 _) R10;let R13:TS:=_;let R14:TS:=Ak (Bu _ R13 _) R12;let R15:TS:=Ak _ R14;Ak _ R15 _ _ _;intro R0 R1 R2 R3 R4 R5 R6 R7 R8 R9 R10 R11 R12 R13 R14 R15;refine⟨_,rq,lf,_,_,_,rq,rq,SqL.of hlf,rq,_,_,rq,rq,_,rq,lf,_,_,_,rq,rq,hlf,rq,?_⟩;have s1:S2 b lf H (upd H lf (.lst [.int (x - 1)])):=S2.r Al.upd;have c1:upd H lf (.lst [.int (x - 1)]) lf=some (.lst [.int (x - 1)]):=Ae;have hb1:Br (upd H lf (.lst [.int (x - 1)])) b m:=hb.Dr Al.upd nbl;show Ak _ _ _ _ (upd H lf (.lst [.int (x - 1)]));generalize upd H lf (.lst [.int (x - 1)])=H1 at *;refine⟨_,rq,b,m,8,rq,hb1,by omega,by decide,by decide,λway H2 w0 w1 hb2 sb2=>?_⟩;have s2:=s1.trans (S2.l (l:=lf) sb2);have c2:=sb2 _ _ c1 nbl.symm;have hz2:=hz.s2 s2 nbz.symm nlz.symm;have leaf:∀{V1:Int} {H2:Hp},Br H2 b (m+1)->Bp H2 zl ys->H2 lf=some (.lst [.int (x - 1)])->S2 b lf H H2->∀E,PL [.ref b,.int V1,.ref zl,.ref zl] H2 Q E:=λ{V1 H2} hb2 hz2 c2 s2 E=>by
   refine⟨b,zl,m+1,V1,ys,rq,hb2,by omega,nbz,hz2,λt c H3 tv ok d1 m1 hb3 sb3=>q t c _ H3 tv ok (by omega) (by rw[m1];rfl) (by omega) (hb3.mono (by omega)) (sb3 _ _ c2 nbl.symm) (s2.trans (S2.l sb3))⟩
  refine⟨_,rq,_,_,rq,rq,_,rq,Qt (λh2=>?_) (λh2=>?_)⟩
  ·exact⟨_,rq,_,rq,_,_,rq,rq,(by show (0:Int) < 4;decide),_,rq,_,rq,leaf hb2 hz2 c2 s2 E0⟩
  have h2:¬((d+1:Nat):Int) < 2:=QaH h2;obtain⟨e,rfl⟩ : ∃e,d=e+1:=⟨d - 1,by omega⟩;refine⟨_,rq,lf,_,_,_,rq,rq,SqL.of c2,rq,_,_,rq,rq,_,rq,Qt (λh3=>?_) (λh3=>?_)⟩
  ·exact⟨_,rq,_,rq,_,_,rq,rq,(by show (0:Int) < 4;decide),_,rq,_,rq,leaf hb2 hz2 c2 s2 E0⟩
  have h3:¬(x - 1 < 1):=QaH h3;unfold Xa;dsimp only;show Ak (Bu _ _ _) _ _ _ _;refine V6 (fun σ' H'=>∃wy:Int,0<=wy/\wy < 8/\(4 < wy->2<=x - 1)/\σ'=[je b,some (.int ((e+1+1:Nat):Int)),je lf,je zl,je zl,some (.int wy),none,none]/\H'=H2) (fun σ' H3 hP=>?_) (λhR=>?_)
  ·obtain⟨wy,wy0,wy1,wx,rfl,rfl⟩:=hP;refine⟨_,rq,_,_,rq,rq,_,rq,Qt (λh4=>?_) (λh4=>?_)⟩
   ·exact⟨_,rq,_,rq,_,rq,_,rq,leaf hb2 hz2 c2 s2 E0⟩
   have h4:¬wy < 4:=QaH h4;refine⟨_,rq,rq,_,rq,ifN (λh5=>?_) (λh5=>?_)⟩
   ·refine⟨_,rq,_,rq,_,_,rq,rq,_,rq,_,rq,_,rq,hsp e (by omega) _ _ _ _ ⟨b,lf,zl,m+1,x - 1,ys,?_,hb2,by omega,by omega,nbl,nbz,nlz,hz2,c2,λt cd x' H4 tv ok dp ex x0 hb4 c4 s4=>⟨Ar (by show 2<=1000;decide),λt2 ht2=>?_⟩⟩⟩
    ·show [V.ref b,V.int (((e+1+1:Nat):Int) - 1),_,_,_]=_;rw[show (((e+1+1:Nat):Int) - 1)=((e+1:Nat):Int) by omega]
    have sn:=Af ht2 (.tup [.str "not",.ref t]);have em:(Cd.neg cd).many=cd.many+1:=rfl;exact q t2 (.neg cd) x' _ (.tup (BP Ae) (.cons (.str _) (.cons (tv.tups (Ck.of sn)) .nil))) ok (QaV dp) (by omega) x0 ((hb4.same sn).mono (by omega)) (sn _ _ c4) (s2.trans (s4.trans (S2.of sn)))
   have wx:=wx (by omega);refine⟨_,rq,lf,_,_,_,rq,rq,SqL.of c2,rq,_,_,rq,rq,_,rq,lf,_,_,_,rq,rq,c2,rq,?_⟩;have s3:S2 b lf H (upd H3 lf (.lst [.int (x - 1 - 1)])):=s2.trans (S2.r Al.upd);have c3:upd H3 lf (.lst [.int (x - 1 - 1)]) lf=some (.lst [.int (x - 1 - 1)]):=Ae;have hb3:Br (upd H3 lf (.lst [.int (x - 1 - 1)])) b (m+1):=hb2.Dr Al.upd nbl;have hz3:Bp (upd H3 lf (.lst [.int (x - 1 - 1)])) zl ys:=hz.s2 s3 nbz.symm nlz.symm;show Ak _ _ _ _ (upd H3 lf (.lst [.int (x - 1 - 1)]));generalize upd H3 lf (.lst [.int (x - 1 - 1)])=H4 at *;refine⟨_,rq,_,rq,_,_,rq,rq,_,rq,_,rq,_,rq,hsp e (by omega) _ _ _ _ ⟨b,lf,zl,m+1,_,ys,?_,hb3,by omega,by omega,nbl,nbz,nlz,hz3,c3,λt1 cd1 x1 H5 tv1 ok1 dp1 ex1 x10 hb5 c5 s5=>?_⟩⟩
   ·show [V.ref b,V.int (((e+1+1:Nat):Int) - 1),_,_,_]=_;rw[show (((e+1+1:Nat):Int) - 1)=((e+1:Nat):Int) by omega]
   have s05:=s3.trans s5;refine⟨_,rq,lf,_,_,_,rq,rq,SqL.of c5,rq,_,_,rq,rq,_,rq,lf,_,_,_,rq,rq,c5,rq,?_⟩;have s6:S2 b lf H (upd H5 lf (.lst [.int (x1+1)])):=s05.trans (S2.r Al.upd);have c6:upd H5 lf (.lst [.int (x1+1)]) lf=some (.lst [.int (x1+1)]):=Ae;have hb6:Br (upd H5 lf (.lst [.int (x1+1)])) b (m+1+3*cd1.many):=hb5.Dr Al.upd nbl;have hz6:Bp (upd H5 lf (.lst [.int (x1+1)])) zl ys:=hz.s2 s6 nbz.symm nlz.symm;have tv6:Cv (upd H5 lf (.lst [.int (x1+1)])) t1 cd1:=tv1.tups (Ck.upd (Tj c5));show Ak _ _ _ _ (upd H5 lf (.lst [.int (x1+1)]));generalize upd H5 lf (.lst [.int (x1+1)])=H6 at *;refine⟨_,rq,_,rq,_,_,rq,rq,_,rq,_,rq,_,rq,hsp e (by omega) _ _ _ _ ⟨b,lf,zl,m+1+3*cd1.many,_,ys,?_,hb6,by omega,by omega,nbl,nbz,nlz,hz6,c6,λt2 cd2 x2 H7 tv2 ok2 dp2 ex2 x20 hb7 c7 s7=>?_⟩⟩
   ·show [V.ref b,V.int (((e+1+1:Nat):Int) - 1),_,_,_]=_;rw[show (((e+1+1:Nat):Int) - 1)=((e+1:Nat):Int) by omega]
   have s07:=s6.trans s7;have Yv:=tv6.tups (s7.tup hb6.Lk (Tj c6));have eV:max cd1.deep cd2.deep+1<=e+1+1:=by omega
   refine⟨_,rq,rq,_,rq,ifN (λh7=>?_) (λh7=>?_)⟩
   ·refine⟨_,rq,_,rq,_,rq,Ar (by show 4<=1000;decide),λl4 hl4=>?_⟩;have s4:=Af hl4 (.lst [.int 1,.int 2,.int 4,.int 20]);have c4:upd H7 l4 (.lst [.int 1,.int 2,.int 4,.int 20]) l4=some (.lst [.int 1,.int 2,.int 4,.int 20]):=Ae;have hb8:=hb7.same s4;have nb4:b≠l4:=hb7.nb hl4;generalize upd H7 l4 (.lst [.int 1,.int 2,.int 4,.int 20])=H8 at *;refine⟨_,rq,b,_,4,rq,hb8,by omega,by decide,by decide,λr H9 r0 r1 hb9 sb9=>?_⟩;obtain⟨p,hp,p1,p20⟩:=fY r0 r1;refine⟨l4,_,_,_,rq,rq,SqL.of (sb9 _ _ c4 nb4.symm),hp,b,_,_,rq,hb9,by omega,by omega,by omega,λr2 Ha r20 r21 hba sba=>⟨_,_,rq,rq,Ar (by show 4<=1000;decide),λt ht=>?_⟩⟩;obtain⟨rn,rfl⟩:=Qak r20;dsimp only;rw[show (1:Int)+(rn:Int)=((1+rn:Nat):Int) by omega];have sn:=Af ht (.tup [.str "then",.ref t1,.ref t2,.int ((1+rn:Nat):Int)]);have sB:Al b H7 Ha:=(Al.of s4).trans (sb9.trans sba);have tU:Ck H7 (upd Ha t (.tup [.str "then",.ref t1,.ref t2,.int ((1+rn:Nat):Int)])):=(sB.tup hb7.Lk).trans (Ck.of sn);have em:(Cd.thn cd1 cd2 (1+rn)).many=cd1.many+cd2.many+1:=rfl;exact q t (.thn cd1 cd2 (1+rn)) x2 _ (.tup (BP Ae) (.cons (.str _) (.cons (Yv.tups tU) (.cons (tv2.tups tU) (.cons (.int _) .nil))))) ⟨ok1,ok2,by omega,by omega⟩ eV (by omega) x20 ((hba.same sn).mono (by omega)) (sn _ _ (sB _ _ c7 nbl.symm)) (s07.trans ((S2.l sB).trans (S2.of sn)))
   ·refine⟨Ar (by show 2<=1000;decide),λl2 hl2=>?_⟩;have s4:=Af hl2 (.lst [.str "and",.str "or"]);have c4:upd H7 l2 (.lst [.str "and",.str "or"]) l2=some (.lst [.str "and",.str "or"]):=Ae;have hb8:=hb7.same s4;have c8:=s4 _ _ c7;generalize upd H7 l2 (.lst [.str "and",.str "or"])=H8 at *;have hw:wy=5\/wy=6:=by omega
    obtain⟨wd,cc,hwd,ec,eo,ed,em⟩ : ∃(wd:Str) (cc:Cd),atI [V.str "and",.str "or"] (wy - 5)=some (.str wd)/\cc.data=.tuple [.str wd,cd1.data,cd2.data]/\cc.ok/\cc.deep=max cd1.deep cd2.deep+1/\cc.many=cd1.many+cd2.many+1:=by
     rcases hw with rfl | rfl
     ·exact⟨"and",.both cd1 cd2,rq,rq,⟨ok1,ok2⟩,rq,rq⟩
     ·exact⟨"or",.any cd1 cd2,rq,rq,⟨ok1,ok2⟩,rq,rq⟩
    refine⟨_,rq,_,_,rq,rq,l2,_,_,_,rq,rq,SqL.of c4,hwd,_,rq,_,rq,Ar (by show 3<=1000;decide),λt ht=>?_⟩;have sn:=s4.trans (Af ht (.tup [.str wd,.ref t1,.ref t2]));refine q t cc x2 _ ?_ eo (by omega) (by omega) x20 ((hb7.same sn).mono (by omega)) (sn _ _ c7) (s07.trans (S2.of sn));unfold Cv;rw[ec];exact .tup (BP Ae) (.cons (.str _) (.cons (Yv.tups (Ck.of sn)) (.cons (tv2.tups (Ck.of sn)) .nil)))
  ·refine⟨_,rq,_,_,rq,rq,_,rq,Qt (λh4=>?_) (λh4=>hR _ _ ⟨way,w0,w1,λz=>absurd (show (4:Int) < way from z) (QaH h4),rq,rq⟩)⟩
   refine⟨_,rq,lf,_,_,_,rq,rq,SqL.of c2,rq,_,_,rq,rq,_,rq,Qt (λh5=>hR _ _ ⟨4,by decide,by decide,λz=>absurd z (by decide),rq,rq⟩) (λh5=>hR _ _ ⟨way,w0,w1,λ_=>?_,rq,rq⟩)⟩;have h5:¬(x - 1 < 2):=QaH h5;omega
 intro k
 induction k with
 | zero=>exact step 0 2 (λ_ _ _ _=>False) (λe he=>absurd he (by omega)) (c.good Cz (λvs H Q E h=>h.elim) (λf cdv A outer s H vs Q E hr h=>h.elim)) (by decide) (by decide)
 | succ e ih=>exact step (e+1) (3+e) (O8 e) (λd hd vs H Q E h=>⟨d,by omega,h⟩) ih (by omega) (by omega)
end
abbrev Kg:Stmt:=top 40
abbrev Hg:YF:=["_law_bag_here"]
theorem Fw:Bc ["_law_bag_here","_law_rows","_law_names_here","_law_turn","_law_condition_here","_law_name_here"] Hg (Ao Kg):=by ac_rfl
def Rv (H:Hp) (v:V) (u:Ru):Prop:=Rep (onl H) v u.data
theorem Rv.tups {H H':Hp} {v:V} {u:Ru} (s:Ck H H') (h:Rv H v u):Rv H' v u:=Rep.same (Em s) h
def Rr:Sp:=λvs H Q _=>∃(b:Addr) (m:Nat),vs=[.ref b]/\Br H b m/\m<=4000/\∀(t:Addr) (rs:List Ru) (H':Hp),Rep (onl H') (.ref t) (.tuple (rs.map Ru.data))->(∀r∈rs,r.ok)->1<=rs.length->rs.length<=16->Br H' b (m+1500)->Al b H H'->Q (.ref t) H'
theorem fZ {r i:Int} (r0:0<=r) (r6:r < 4):∃n:Nat,atI [V.int (1+r),.int 16] (if decide (V.int i=V.int 0)=true then 1 else 0)=some (.int n)/\1<=n/\n<=16:=by
 split
 ·exact⟨16,rq,by decide,by decide⟩
 ·exact⟨(1+r).toNat,(by rw[Int.toNat_of_nonneg (by omega)];rfl),by omega,by omega⟩
theorem at2 {a b:V} {i:Int} (h0:0<=i) (h2:i < 2):∃v,atI [a,b] i=some v/\(v=a\/v=b):=by
 have:i=0\/i=1:=by omega
 rcases this with rfl | rfl
 ·exact⟨a,rq,.inl rfl⟩
 ·exact⟨b,rq,.inr rfl⟩
theorem S2.fresh {b l:Addr} {H H':Hp} (s:S2 b l H H') (f:H l=none):Al b H H':=λc o e n=>s _ _ e n (λz=>by rw[z,f] at e;cases e)
def RI (b lr ln:Addr) (m:Nat) (ys:YF) (H:Hp):YN:=λi U HH=>∃(u3 u4 u5:Option V) (xs:YG) (us:List Ru),U=[je b,je lr,je ln,u3,u4,u5]/\HH lr=some (.lst xs)/\Bb (onl HH) xs (us.map Ru.data)/\us.length=i/\(∀u∈us,u.ok)/\Br HH b (m+40+80*i)/\Bp HH ln ys/\Al b H HH
section
variable {P:Program} {w:World} {K:YD} {mg:YB} {base:Heap}
theorem Wh (c:Code K mg "_law_rules" Kg Hg) (T:Tc mg) (Bo:Good P w K mg base "_law_take" 1 Fg Ke) (Lp:Good P w K mg base "_law_name" 2 GZ PK) (Vq:Good P w K mg base "_law_names" 3 Hh Rw) (Er:Good P w K mg base "_law_condition" 8 CW (O8 5)):Good P w K mg base "_law_rules" 9 Hg Rr:=by
 refine c.good Fw (λvs H Q E h=>?_) (λf cdv A outer s H vs Q E hr h=>?_)
 ·obtain⟨b,m,rfl,_⟩:=h;rfl
 obtain⟨b,m,rfl,hb,hm,q⟩:=h;refine⟨_,(@Ad _ _ _ _ _ (@Bl _ _ 1 _ _ _ _ Fw.nd rfl (Or.inl rfl) (Dl Ac) (by rfl) (by first | exact .inl rfl | exact .inr rfl))
 (@Ad _ _ _ _ _ (@Bl _ _ 2 _ _ _ _ Fw.nd rfl (Or.inl rfl) (Aq Vq hr (Aa (pv 0) (Aa Ab Ac))) (by rfl) (by first | exact .inl rfl | exact .inr rfl))
 (@Ad _ _ _ _ _ (Il Qbg rfl (Fd rfl T.range (Aa (@Aw _ _ _ _ _ _ _ Bm (Dl (Aa (@Av _ _ _ _ _ _ _ _ Dg Ab (Aq Bo hr (Aa (pv 0) (Aa Ab Ac)))) (Aa Ab Ac))) (Cr Kz rfl T.int Jx (Aa (CG BR (Aq Bo hr (Aa (pv 0) (Aa Ab Ac))) Ab (Ba _)) Ac)) (λ_ _=>rfl)) Ac)) (Az (i:=3) Fw.nd rfl (Or.inl rfl))
 (@Ad _ _ _ _ _ (@Bl _ _ 4 _ _ _ _ Fw.nd rfl (Or.inl rfl) (Aq Er hr (@Aa _ _ _ _ _ (pv 0) (@Aa _ _ _ _ _ (@Ab _ _ _ _) (@Aa _ _ _ _ _ (Dl (Aa (@Av _ _ _ _ _ _ _ _ Dg Ab (Aq Bo hr (Aa (pv 0) (Aa Ab Ac)))) Ac)) (@Aa _ _ _ _ _ (pv 2) (@Aa _ _ _ _ _ (pv 2) (@Ac _) Cw) Cw) YT) Cy) Cw)) (by rfl) (by first | exact .inl rfl | exact .inr rfl))
 (@Ag _ _ _ (Bh (Ay BR (Aq Bo hr (Aa (pv 0) (Aa Ab Ac))) Ab (Ba _)) (@Ad _ _ _ _ _ (@Bl _ _ 5 _ _ _ _ Fw.nd rfl (Or.inl rfl) (@Aw _ _ _ _ _ _ _ Bm (Dl (Aa (Aq Lp hr (Aa (pv 0) Ac)) (Aa (@Aw _ _ _ _ _ _ _ Bm (pv 2) (Aq Bo hr (Aa (pv 0) (Aa Ab Ac))) (λ_ _=>rfl)) Ac))) (Aq Bo hr (Aa (pv 0) (Aa Ab Ac))) (λ_ _=>rfl)) (by rfl) (by first | exact .inl rfl | exact .inr rfl))
 (@Ag _ _ _ (KN (FW Qan Qai Qaj Gi (pv 1) (Aa (Bq (Aa Aj (Aa (pv 5) (Aa (pv 4) Ac)))) Ac))))) (@Ag _ _ _ (KN (FW Qan Qai Qaj Gi (pv 1) (Aa (Bq (Aa Aj (Aa (@Av _ _ _ _ _ _ _ _ Dg Ab (Aq Bo hr (Aa (pv 0) (Aa Ab Ac)))) (Aa (pv 4) Ac)))) Ac))))))))
 (@Ag _ _ _ (@Am _ _ _ _ (Cr J3 rfl T.tuple JT (Aa (pv 1) Ac))))))),?_⟩
 show let R0:TS:=_;let R1:TS:=_;let R2:TS:=Ak _ R1;let R3:TS:=_;let R4:TS:=Bu _ R2 R3;let R5:TS:=Ak _ R4;let R6:TS:=Ak (Kd _ _ R5) R0;let R7:TS:=Ak _ R6;Ak _ R7 _ _ _;intro R0 R1 R2 R3 R4 R5 R6 R7;refine⟨Ar (by show 0<=1000;decide),λlr hlr=>?_⟩;have sr:=Af hlr (.lst []);have cr:upd H lr (.lst []) lr=some (.lst []):=Ae;have nbr:b≠lr:=hb.nb hlr;have hb1:=hb.same sr;have sb1:Al b H (upd H lr (.lst [])):=Al.of sr;generalize upd H lr (.lst [])=H1 at *;refine⟨_,rq,b,m,4,rq,hb1,by omega,by omega,λln ys H2 fln hys hyo hyn hln hb2 sb2=>?_⟩;have nbn:b≠ln:=hb1.nb fln;have nnr:ln≠lr:=λz=>by rw[z,cr] at fln;cases fln
 have cr2:=sb2 _ _ cr nbr.symm;have hz2:Bp H2 ln ys:=⟨hln,by omega,by omega,hyo⟩;refine⟨_,rq,b,_,4,rq,hb2,by omega,by decide,by decide,λr H3 r0 r1 hb3 sb3=>⟨_,_,rq,rq,Ar (by show 2<=1000;decide),λl3 hl3=>?_⟩⟩;have s4:=Af hl3 (.lst [.int (1+r),.int 16]);have c4:upd H3 l3 (.lst [.int (1+r),.int 16]) l3=some (.lst [.int (1+r),.int 16]):=Ae;have nb3:b≠l3:=hb3.nb hl3;have hb4:=hb3.same s4;have s24:Al b H2 (upd H3 l3 (.lst [.int (1+r),.int 16])):=sb3.trans (Al.of s4);show tCB _ _ _ (upd H3 l3 (.lst [.int (1+r),.int 16])) _;generalize upd H3 l3 (.lst [.int (1+r),.int 16])=H4 at *;refine⟨_,rq,b,_,4,rq,hb4,by omega,by decide,by decide,λr2 H5 r20 r21 hb5 sb5=>?_⟩;obtain⟨n,hn,n1,n16⟩:=fZ (i:=r2) r0 r1;refine⟨rq,.inr ⟨_,rq,l3,_,_,_,rq,rq,SqL.of (sb5 _ _ c4 nb3.symm),hn,_,rq,by omega,by omega,?_⟩⟩;rw[QaP];have s25:=s24.trans sb5;have hcr:∀{HX:Hp},Al b H2 HX->HX lr=some (.lst []):=λsx=>sx _ _ cr2 nbr.symm;refine Gm (RI b lr ln m ys H) ⟨none,none,none,[],[],rq,hcr s25,.nil,rq,(λx hx=>by cases hx),hb5.mono (by omega),hz2.Dr s25 nbn.symm,sb1.trans (sb2.trans s25)⟩ (λi U HH hi h=>?_) (fun U HH h=>?_)
 ·obtain⟨u3,u4,u5,xs,us,rfl,e1,e2,e3,e3o,e4,e5,e6⟩:=h;have lx:=Bb.len e2;rw[QaX] at lx;refine⟨_,rq,_,rq,b,_,20,rq,e4,by omega,by decide,by decide,λr3 H6 r30 r31 hb6 sb6=>⟨_,_,rq,rq,Ar (by show 1<=1000;decide),λlf hlf=>?_⟩⟩;have s7:=Af hlf (.lst [.int (1+r3)]);have c7:upd H6 lf (.lst [.int (1+r3)]) lf=some (.lst [.int (1+r3)]):=Ae;have nbf:b≠lf:=hb6.nb hlf;have s67:Al b HH (upd H6 lf (.lst [.int (1+r3)])):=sb6.trans (Al.of s7);have ff:HH lf=none:=sb6.free hb6.ex hlf;have nfn:lf≠ln:=λz=>by rw[z,e5.1] at ff;cases ff
  have nfr:lf≠lr:=λz=>by rw[z,e1] at ff;cases ff
  have hb7:=hb6.same s7;have hz7:Bp (upd H6 lf (.lst [.int (1+r3)])) ln ys:=e5.Dr s67 nbn.symm;generalize upd H6 lf (.lst [.int (1+r3)])=H7 at *;refine⟨_,rq,_,rq,5,by decide,b,lf,ln,_,_,ys,rq,hb7,by omega,by omega,nbf,nbn,nfn,hz7,c7,λt cd x' H8 tv ok dp ex x0 hb8 c8 s8=>?_⟩;have mm:cd.many<=20:=by omega
  have s08:Al b HH H8:=λc o e n=>s8 _ _ (s67 _ _ e n) n (λz=>by rw[z,ff] at e;cases e);refine⟨_,rq,b,_,2,rq,hb8,by omega,by decide,by decide,λr4 H9 r40 r41 hb9 sb9=>⟨rq,_,rq,?_⟩⟩;have fin:∀(HA:Hp) (k:Nat) (u:Ru) (s3 s4 s5:Option V),Br HA b (m+40+80*i+k)->k<=80->Al b H8 HA->u.ok->u.c=cd->∀ta,HA ta=none->RI b lr ln m ys H (i+1) [je b,je lr,je ln,s3,s4,s5] (upd (upd HA ta (.tup [.str u.kw,u.yv,.ref t])) lr (.lst (xs++[.ref ta]))):=λHA k u s3 s4 s5 hbA hk sA uo uc ta hta=>by
   have sn:=Af hta (.tup [.str u.kw,u.yv,.ref t]);have s0A:=s08.trans (sA.trans (Al.of sn));have cA:=s0A _ _ e1 nbr.symm;have tu:=Ck.upd (H:=upd HA ta (.tup [.str u.kw,u.yv,.ref t])) (b:=lr) (o:=.lst (xs++[.ref ta])) (Tj cA);refine⟨_,_,_,xs++[.ref ta],us++[u],rq,Ae,?_,by rw[Qaz,e3];rfl,λv hv=>?_,((hbA.same sn).Dr Al.upd nbr).mono (by omega),Bp.Dr (e5.Dr s0A nbn.symm) Al.upd nnr,Al.Xc (e6.trans s0A) Al.upd hlr⟩
   ·rw[QaY];refine Bb.app (Bb.same (Em ((s0A.tup e4.Lk).trans tu)) e2) (.cons ?_ .nil);refine O9 (BP (tu _ _ Ae)) ?_;rw[uc];exact tv.tups ((sA.tup hb8.Lk).trans ((Ck.of sn).trans tu))
   ·rcases Qbb.mp hv with hv | hv
    ·exact e3o v hv
    ·rw[QaE.mp hv];exact uo
  have hz8:=hz7.s2 s8 nbn.symm nfn.symm;have hz9:=hz8.Dr sb9 nbn.symm;have g1:=(s08.trans sb9) _ _ e1 nbr.symm;refine ifN (λ_=>?_) (λ_=>?_)
  ·refine⟨_,rq,b,_,rq,hb9,by omega,λz HA z1 z8 zo hbA sA=>?_⟩;have hzA:=hz9.Dr sA nbn.symm;refine⟨_,rq,_,rq,b,_,4,rq,hbA,by omega,by decide,by decide,λr5 HB r50 r51 hbB sB=>?_⟩;obtain⟨rn,rfl⟩:=Qak r50;have hzB:=hzA.Dr sB nbn.symm;obtain⟨y,hy,ny⟩:=Tg hzB (i:=rn) (by omega);refine⟨ln,_,_,_,rq,rq,SqL.of hzB.1,hy,Ar (by show 2<=1000;decide),λl2 hl2=>?_⟩;have sn2:=Af hl2 (.lst [.str z,.str y]);have c2:upd HB l2 (.lst [.str z,.str y]) l2=some (.lst [.str z,.str y]):=Ae;have nb2:b≠l2:=hbB.nb hl2;have dH:=hbB.same sn2;generalize upd HB l2 (.lst [.str z,.str y])=HB2 at *;refine⟨_,rq,b,_,2,rq,dH,by omega,by decide,by decide,λr6 HC r60 r61 hbC sC=>?_⟩;obtain⟨v,hv,vv⟩:=at2 (a:=.str z) (b:=.str y) r60 r61;obtain⟨zz,rfl,nz⟩ : ∃zz,v=.str zz/\M8 zz:=by
    rcases vv with rfl | rfl
    ·exact⟨z,rq,z1,z8,zo⟩
    ·exact⟨y,rq,ny⟩
   have sAC:Al b H9 HC:=sA.trans (sB.trans ((Al.of sn2).trans sC));have gC:=sAC _ _ g1 nbr.symm;refine⟨l2,_,_,_,rq,rq,SqL.of (sC _ _ c2 nb2.symm),hv,?_⟩;refine⟨_,rq,.inl ⟨rq,_,SqL.of gC⟩,_,rq,_,rq,Ar (by show 3<=1000;decide),λta hta=>?_⟩;exact⟨lr,_,_,rq,rq,Af hta _ _ _ gC,BJ (by omega),fin HC (1+3*cd.many+1+9+1+1) (.term zz cd) _ _ _ (hbC.mono (by omega)) (by omega) (sb9.trans sAC) ⟨nz,ok,dp,mm⟩ rfl ta hta⟩
  ·refine⟨_,rq,.inl ⟨rq,_,SqL.of g1⟩,_,rq,b,_,99,rq,hb9,by omega,by decide,by decide,λr5 HA r50 r51 hbA sA=>⟨_,_,rq,rq,_,rq,Ar (by show 3<=1000;decide),λta hta=>?_⟩⟩;obtain⟨rn,rfl⟩:=Qak r50;have e1n:(1:Int)+(rn:Int)=((1+rn:Nat):Int):=by omega
   refine⟨lr,_,_,rq,rq,Af hta _ _ _ (sA _ _ g1 nbr.symm),BJ (by omega),?_⟩;dsimp only;rw[e1n];exact fin HA (1+3*cd.many+1+1) (.sound (1+rn) cd) _ _ _ (hbA.mono (by omega)) (by omega) (sb9.trans sA) ⟨⟨by omega,by omega⟩,ok,dp,mm⟩ rfl ta hta
 ·obtain⟨u3,u4,u5,xs,us,rfl,e1,e2,e3,e3o,e4,e5,e6⟩:=h;refine⟨_,rq,lr,_,rq,.inl ⟨SqL.of e1,λt ht=>?_⟩⟩;have st:=Af ht (.tup xs);exact q t us _ (.tup (BP Ae) (Bb.same (Em (Ck.of st)) e2)) e3o (by omega) (by omega) ((e4.same st).mono (by omega)) (e6.trans (Al.of st))
end
abbrev Le:Stmt:=top 41
abbrev Ir:YF:=["_law_condition_here"]
theorem Gf:Bc ["_law_condition_here","_law_word","_law_ending","_law_one","_law_other"] Ir (Ao Le):=by ac_rfl
theorem wsz:∀w∈[("of":Str),"term","key","hours","not","and","or","then"],w.cps.size<=5:=by trivial
theorem Ka {n:Nat} (h:n < 100):(PyData.int (n:Int)).weight<=7/\(PyData.int (n:Int)).shown.length<=13/\(n:Int).natAbs.log2 < 1920:=by
 have key:∀n,n < 100->(PyData.int ((n:Nat):Int)).weight<=7/\(PyData.int ((n:Nat):Int)).shown.length<=13:=by trivial
 exact⟨(key n h).1,(key n h).2,Dz h⟩
theorem Uk (z:Str):(PyData.str z).weight=z.length:=by simp only[PyData.weight];rfl
theorem Z0:∀{c:Cd},c.ok->c.data.weight<=40*c.many/\c.data.intsShort 13=true/\c.data.showable=true:=by
 have w1:(PyData.str "of").weight<=5:=wsz _ (by simp);have w2:(PyData.str "term").weight<=5:=wsz _ (by simp);have w3:(PyData.str "key").weight<=5:=wsz _ (by simp);have w4:(PyData.str "hours").weight<=5:=wsz _ (by simp);have w5:(PyData.str "not").weight<=5:=wsz _ (by simp);have w6:(PyData.str "and").weight<=5:=wsz _ (by simp);have w7:(PyData.str "or").weight<=5:=wsz _ (by simp);have w8:(PyData.str "then").weight<=5:=wsz _ (by simp);intro c
 induction c with
 | off n z=>
  intro h;have k0:=Ka (n:=n) (by have:=h.2.1;omega);have k1:=Uk z;have k2:=h.2.2.2.1;refine⟨?_,?_,?_⟩
  ·have e:(PyData.tuple [.str "of",.int n,.str z]).weight=(PyData.str "of").weight+1+((PyData.int (n:Int)).weight+1+((PyData.str z).weight+1+0)):=by simp only[PyData.weight,PyData.weightAll]
   show (PyData.tuple [.str "of",.int n,.str z]).weight<=40*1;rw[e];omega
  ·simp only[Cd.data,PyData.intsShort,PyData.intsShortAll,k0.2.1,Qbp,QbD]
  ·simp only[Cd.data,PyData.showable,PyData.showableAll,k0.2.2,QbD,Qbp]
 | term z=>
  intro h;have k1:=Uk z;have k2:=h.2.1;refine⟨?_,?_,?_⟩
  ·have e:(PyData.tuple [.str "term",.str z]).weight=(PyData.str "term").weight+1+((PyData.str z).weight+1+0):=by simp only[PyData.weight,PyData.weightAll]
   show (PyData.tuple [.str "term",.str z]).weight<=40*1;rw[e];omega
  ·simp only[Cd.data,PyData.intsShort,PyData.intsShortAll,Qbq,Qbp,QbD]
  ·simp only[Cd.data,PyData.showable,PyData.showableAll,Qbq,QbD,Qbp]
 | key k=>
  intro h;have k0:=Ka (n:=k) (by have h:k<=9:=h;omega);refine⟨?_,?_,?_⟩
  ·have e:(PyData.tuple [.str "key",.int k]).weight=(PyData.str "key").weight+1+((PyData.int (k:Int)).weight+1+0):=by simp only[PyData.weight,PyData.weightAll]
   show (PyData.tuple [.str "key",.int k]).weight<=40*1;rw[e];omega
  ·simp only[Cd.data,PyData.intsShort,PyData.intsShortAll,k0.2.1,Qbp,QbD]
  ·simp only[Cd.data,PyData.showable,PyData.showableAll,k0.2.2,QbD,Qbp]
 | hours a b=>
  intro h;have h:a<=23/\b<=23:=h;have k0:=Ka (n:=a) (by omega);have k1:=Ka (n:=b) (by omega);refine⟨?_,?_,?_⟩
  ·have e:(PyData.tuple [.str "hours",.int a,.int b]).weight=(PyData.str "hours").weight+1+((PyData.int (a:Int)).weight+1+((PyData.int (b:Int)).weight+1+0)):=by simp only[PyData.weight,PyData.weightAll]
   show (PyData.tuple [.str "hours",.int a,.int b]).weight<=40*1;rw[e];omega
  ·simp only[Cd.data,PyData.intsShort,PyData.intsShortAll,k0.2.1,k1.2.1,Qbp,QbD]
  ·simp only[Cd.data,PyData.showable,PyData.showableAll,k0.2.2,k1.2.2,QbD,Qbp]
 | neg c ih=>
  intro h;have k0:=ih h;refine⟨?_,?_,?_⟩
  ·have e:(PyData.tuple [.str "not",Cd.data c]).weight=(PyData.str "not").weight+1+((Cd.data c).weight+1+0):=by simp only[PyData.weight,PyData.weightAll]
   show (PyData.tuple [.str "not",Cd.data c]).weight<=40*(c.many+1);rw[e];omega
  ·simp only[Cd.data,PyData.intsShort,PyData.intsShortAll,k0.2.1,Qbp,QbD]
  ·simp only[Cd.data,PyData.showable,PyData.showableAll,k0.2.2,QbD,Qbp]
 | both c d ih1 ih2=>
  intro h;have k0:=ih1 h.1;have k1:=ih2 h.2;refine⟨?_,?_,?_⟩
  ·have e:(PyData.tuple [.str "and",Cd.data c,Cd.data d]).weight=(PyData.str "and").weight+1+((Cd.data c).weight+1+((Cd.data d).weight+1+0)):=by simp only[PyData.weight,PyData.weightAll]
   show (PyData.tuple [.str "and",Cd.data c,Cd.data d]).weight<=40*(c.many+d.many+1);rw[e];omega
  ·simp only[Cd.data,PyData.intsShort,PyData.intsShortAll,k0.2.1,k1.2.1,Qbp,QbD]
  ·simp only[Cd.data,PyData.showable,PyData.showableAll,k0.2.2,k1.2.2,QbD,Qbp]
 | any c d ih1 ih2=>
  intro h;have k0:=ih1 h.1;have k1:=ih2 h.2;refine⟨?_,?_,?_⟩
  ·have e:(PyData.tuple [.str "or",Cd.data c,Cd.data d]).weight=(PyData.str "or").weight+1+((Cd.data c).weight+1+((Cd.data d).weight+1+0)):=by simp only[PyData.weight,PyData.weightAll]
   show (PyData.tuple [.str "or",Cd.data c,Cd.data d]).weight<=40*(c.many+d.many+1);rw[e];omega
  ·simp only[Cd.data,PyData.intsShort,PyData.intsShortAll,k0.2.1,k1.2.1,Qbp,QbD]
  ·simp only[Cd.data,PyData.showable,PyData.showableAll,k0.2.2,k1.2.2,QbD,Qbp]
 | thn c d n ih1 ih2=>
  intro h;have k0:=ih1 h.1;have k1:=ih2 h.2.1;have k2:=Ka (n:=n) (by have:=h.2.2.2;omega);refine⟨?_,?_,?_⟩
  ·have e:(PyData.tuple [.str "then",Cd.data c,Cd.data d,.int n]).weight=(PyData.str "then").weight+1+((Cd.data c).weight+1+((Cd.data d).weight+1+((PyData.int (n:Int)).weight+1+0))):=by simp only[PyData.weight,PyData.weightAll]
   show (PyData.tuple [.str "then",Cd.data c,Cd.data d,.int n]).weight<=40*(c.many+d.many+1);rw[e];omega
  ·simp only[Cd.data,PyData.intsShort,PyData.intsShortAll,k0.2.1,k1.2.1,k2.2.1,Qbp,QbD]
  ·simp only[Cd.data,PyData.showable,PyData.showableAll,k0.2.2,k1.2.2,k2.2.2,QbD,Qbp]
theorem KC {k:Nat} {A:Around} (r:CP k A):A.units+128 < cLine:=by have:=r.un;omega
theorem QK {c:Cd} (h:c.ok) (hd:c.deep<=6) (hm:c.many<=20):c.data.showable=true/\c.data.hasDict=false/\c.data.depth<=64/\c.data.shown.length<=20000:=by
 obtain⟨k1,k2,k3⟩:=Z0 h;have s:=SN h;refine⟨k3,PyData.hasDict_of_canLay _ s.lay,Qby s.dep (by omega),?_⟩;have:=PyData.shown_le 13 (by decide) c.data (PyData.leavesShort_of_canLay0 13 _ s.lay k2);omega
theorem Vy {c:Cd} {H:Hp} {v:V} (h:Rep H v c.data):∃a,v=.ref a:=by
 cases c <;> (cases h;exact⟨_,rq⟩)
theorem kw2:L (Str.ofString " ")++(L (Str.ofString "then")++L (Str.ofString " "))=L " then ":=by trivial
theorem ZP {w:Str} {a b:V} (h:w≠"then"):atI [a,b] (if decide (V.str w=V.str "then")=true then 1 else 0)=some a:=by
 rw[if_neg (by rw[QaZ (λz=>h (by injection z))];decide)];rfl
theorem fX {a b:V}:atI [a,b] (if decide (V.str (Str.ofString "then")=V.str "then")=true then 1 else 0)=some b:=by
 rw[if_pos (by rw[Qbo rfl])];rfl
def Uw (D:Nat):Sp:=λvs H Q _=>∃(v:V) (c:Cd),vs=[v]/\Rep H v c.data/\c.ok/\c.deep<=D/\c.deep<=6/\c.many<=20/\∀H',Same H H'->Q (.str (S c.txt)) H'
section
variable {P:Program} {w:World} {K:YD} {mg:YB} {base:Heap}
theorem XS (C:Code K mg "_law_text" Le Ir) (T:Tc mg):∀D,Good P w K mg base "_law_text" (1+D) Ir (Uw D):=by
 intro D
 induction D with
 | zero=>
  refine C.good Gf (λvs H Q E h=>?_) (λf cdv A outer s H vs Q E hr h=>?_)
  ·obtain⟨v,c,_,_,_,h0,_⟩:=h;have:=c.Jg;omega
  ·obtain⟨v,c,_,_,_,h0,_⟩:=h;have:=c.Jg;omega
 | succ D IW=>
 refine C.good Gf (λvs H Q E h=>?_) (λf cdv A outer s H vs Q E hr h=>?_)
 ·obtain⟨v,c,rfl,_⟩:=h;rfl
 obtain⟨v,c,rfl,rd,ok,hd,h6,hm,q⟩:=h;have sc:=Gf;refine⟨_,(@Ad _ _ _ _ _ (@Bl _ _ 1 _ _ _ _ Gf.nd rfl (Or.inl rfl) (@Aw _ _ _ _ _ _ _ Bf (pv 0) Ab (λ_ _=>rfl)) (by rfl) (by first | exact .inl rfl | exact .inr rfl))
 (@Ad _ _ _ _ _ (Bh (Ay BR (pv 1) Aj (Ba _)) (@Ag _ _ _ (@Am _ _ _ _ (@Av _ _ _ _ _ _ _ _ Bg (@Av _ _ _ _ _ _ _ _ Bg (Cr (FN hr.gd (KC hr)) rfl T.str GJ (Aa (@Aw _ _ _ _ _ _ _ Bf (pv 0) Ab (λ_ _=>rfl)) Ac)) Aj) (@Aw _ _ _ _ _ _ _ Bf (pv 0) Ab (λ_ _=>rfl))))) Ax)
 (@Ad _ _ _ _ _ (Bh (Ay Kr (pv 1) (Bq (Aa Aj (Aa Aj Ac))) (by with_unfolding_all rfl)) (@Ag _ _ _ (@Am _ _ _ _ (@Av _ _ _ _ _ _ _ _ Bg (@Av _ _ _ _ _ _ _ _ Bg (pv 1) Aj) (Cr (FN hr.gd (KC hr)) rfl T.str GJ (Aa (@Aw _ _ _ _ _ _ _ Bf (pv 0) Ab (λ_ _=>rfl)) Ac))))) Ax)
 (@Ad _ _ _ _ _ (Bh (Ay BR (pv 1) Aj (Ba _)) (@Ag _ _ _ (@Am _ _ _ _ (@Av _ _ _ _ _ _ _ _ Bg (@Av _ _ _ _ _ _ _ _ Bg (@Av _ _ _ _ _ _ _ _ Bg Aj (Cr (FN hr.gd (KC hr)) rfl T.str GJ (Aa (@Aw _ _ _ _ _ _ _ Bf (pv 0) Ab (λ_ _=>rfl)) Ac))) Aj) (Cr (FN hr.gd (KC hr)) rfl T.str GJ (Aa (@Aw _ _ _ _ _ _ _ Bf (pv 0) Ab (λ_ _=>rfl)) Ac))))) Ax)
 (@Ad _ _ _ _ _ (Bh (Ay BR (pv 1) Aj (Ba _)) (@Ag _ _ _ (@Am _ _ _ _ (@Av _ _ _ _ _ _ _ _ Bg Aj (Aq (hk:=(QbB _)) IW hr (Aa (@Aw _ _ _ _ _ _ _ Bf (pv 0) Ab (λ_ _=>rfl)) Ac))))) Ax)
 (@Ad _ _ _ _ _ (@Bl _ _ 2 _ _ _ _ Gf.nd rfl (Or.inl rfl) (@Aw _ _ _ _ _ _ _ Bm (Dl (Aa Aj (Aa (@Av _ _ _ _ _ _ _ _ Bg (@Av _ _ _ _ _ _ _ _ Bg Aj (Cr (FN hr.gd (KC hr)) rfl T.str GJ (Aa (@Aw _ _ _ _ _ _ _ Bf (pv 0) (Xi Uo Ab) (λ_ _=>rfl)) Ac))) Aj) Ac))) (Cr Kz rfl T.int Jx (Aa (CG BR (pv 1) Aj (Ba _)) Ac)) (λ_ _=>rfl)) (by rfl) (by first | exact .inl rfl | exact .inr rfl))
 (@Ad _ _ _ _ _ (U6 (i:=3) (j:=4) rfl Gf.nd rfl rfl (by decide) rfl rfl (Aa (Aq (hk:=(QbB _)) IW hr (Aa (@Aw _ _ _ _ _ _ _ Bf (pv 0) Ab (λ_ _=>rfl)) Ac)) (Aa (Aq (hk:=(QbB _)) IW hr (Aa (@Aw _ _ _ _ _ _ _ Bf (pv 0) Ab (λ_ _=>rfl)) Ac)) Ac)) rfl)
 (@Ag _ _ _ (@Am _ _ _ _ (@Av _ _ _ _ _ _ _ _ Bg (@Av _ _ _ _ _ _ _ _ Bg (@Av _ _ _ _ _ _ _ _ Bg (@Av _ _ _ _ _ _ _ _ Bg (@Av _ _ _ _ _ _ _ _ Bg (@Av _ _ _ _ _ _ _ _ Bg Aj (pv 3)) Aj) (pv 1)) Aj) (pv 4)) (pv 2))))))))))),?_⟩
 show let R0:TS:=_;let R1:TS:=Ak _ R0;let R2:TS:=Ak _ R1;let R3:TS:=_;let R4:TS:=Ak (Bu _ R3 _) R2;let R5:TS:=_;let R6:TS:=Ak (Bu _ R5 _) R4;let R7:TS:=_;let R8:TS:=Ak (Bu _ R7 _) R6;let R9:TS:=_;let R10:TS:=Ak (Bu _ R9 _) R8;Ak _ R10 _ _ _;intro R0 R1 R2 R3 R4 R5 R6 R7 R8 R9 R10;have fin:∀(y:Str) (H':Hp),Same H H'->L y=c.txt->Q (.str y) H':=λy H' s e=>by
  rw[show y=S c.txt from HF e]
  exact q H' s
 obtain⟨l0,l1,l2,l3,l4,l5,l6,l7,l8,l9,l10,l11,l12,l13,_⟩:=ll;obtain⟨kt,kk,ka,ko,_⟩:=kw1;have kn:=kw2;have l17:(Str.ofString "then").length=4:=by trivial
 cases c with
 | off n z=>
  cases rd with
  | @tup t xs _ ht rs=>
  cases rs with
  | cons r1 rs=>
  cases rs with
  | cons r2 rs=>
  cases rs with
  | cons r3 rs=>
  cases rs;cases r1;cases r2;cases r3;obtain⟨h1,h2,h3,h4,h5⟩:=ok;have hn:=Eu (n:=n) (by omega);refine⟨_,rq,t,_,_,_,rq,rq,SqT.of ht,Ai (j:=0) rfl,?_⟩;refine⟨_,rq,rq,_,rq,ifS (λ_=>?_) (λz=>absurd rfl z)⟩;exact⟨_,rq,t,_,_,_,rq,rq,SqT.of ht,Ai (j:=1) rfl,.inl ⟨_,rq,Dz (by omega),_,_,rq,rq,szb (by simp only[QaI,l0,l1,l2,l3,l4,l5,l6,l7,l8,l9,l10,l11,l12,l13,l17,Ah];omega),_,rq,t,_,_,_,rq,rq,SqT.of ht,Ai (j:=2) rfl,_,_,rq,rq,szb (by simp only[QaI,l0,l1,l2,l3,l4,l5,l6,l7,l8,l9,l10,l11,l12,l13,l17,Ah];omega),fin _ _ (Same.refl _) (by simp only[Cp,Dh,Qba,QaJ,L_S];rfl)⟩⟩
 | term z=>
  cases rd with
  | @tup t xs _ ht rs=>
  cases rs with
  | cons r1 rs=>
  cases rs with
  | cons r2 rs=>
  cases rs;cases r1;cases r2;obtain⟨h3,h4,h5⟩:=ok;refine⟨_,rq,t,_,_,_,rq,rq,SqT.of ht,Ai (j:=0) rfl,?_⟩;refine⟨_,rq,rq,_,rq,ifS (λz=>absurd z (by trivial)) (λ_=>?_)⟩;refine⟨_,rq,Ar (by show 2<=1000;decide),λp hp=>?_⟩;have sp:=Af hp (.tup [.str "key",.str "term"]);have cp:upd H p (.tup [.str "key",.str "term"]) p=some (.tup [.str "key",.str "term"]):=Ae;have ht:=sp _ _ ht;generalize upd H p (.tup [.str "key",.str "term"])=H1 at *;refine⟨p,_,rq,.inr (SqT.of cp),rq,rq,_,rq,IV (show (if false=true then !inV (.str "term") [.str "key",.str "term"] else inV (.str "term") [.str "key",.str "term"])=true by trivial) ?_⟩
  exact⟨_,rq,_,_,rq,rq,szb (by simp only[QaI,l0,l1,l2,l3,l4,l5,l6,l7,l8,l9,l10,l11,l12,l13,l17,Ah];omega),_,rq,t,_,_,_,rq,rq,SqT.of ht,Ai (j:=1) rfl,.inr (.inl ⟨_,rq,_,_,rq,rq,szb (by simp only[QaI,l0,l1,l2,l3,l4,l5,l6,l7,l8,l9,l10,l11,l12,l13,l17,Ah];omega),fin _ _ sp (by simp only[Cp,Dh,Qba];rw[kt];rfl)⟩)⟩
 | key k=>
  cases rd with
  | @tup t xs _ ht rs=>
  cases rs with
  | cons r1 rs=>
  cases rs with
  | cons r2 rs=>
  cases rs;cases r1;cases r2;have h3:k<=9:=ok;have hn:=Eu (n:=k) (by omega);refine⟨_,rq,t,_,_,_,rq,rq,SqT.of ht,Ai (j:=0) rfl,?_⟩;refine⟨_,rq,rq,_,rq,ifS (λz=>absurd z (by trivial)) (λ_=>?_)⟩;refine⟨_,rq,Ar (by show 2<=1000;decide),λp hp=>?_⟩;have sp:=Af hp (.tup [.str "key",.str "term"]);have cp:upd H p (.tup [.str "key",.str "term"]) p=some (.tup [.str "key",.str "term"]):=Ae;have ht:=sp _ _ ht;generalize upd H p (.tup [.str "key",.str "term"])=H1 at *;refine⟨p,_,rq,.inr (SqT.of cp),rq,rq,_,rq,IV (show (if false=true then !inV (.str "key") [.str "key",.str "term"] else inV (.str "key") [.str "key",.str "term"])=true by trivial) ?_⟩
  exact⟨_,rq,_,_,rq,rq,szb (by simp only[QaI,l0,l1,l2,l3,l4,l5,l6,l7,l8,l9,l10,l11,l12,l13,l17,Ah];omega),_,rq,t,_,_,_,rq,rq,SqT.of ht,Ai (j:=1) rfl,.inl ⟨_,rq,Dz (by omega),_,_,rq,rq,szb (by simp only[QaI,l0,l1,l2,l3,l4,l5,l6,l7,l8,l9,l10,l11,l12,l13,l17,Ah];omega),fin _ _ sp (by simp only[Cp,Dh,Qba];rw[kk];rfl)⟩⟩
 | hours a b=>
  cases rd with
  | @tup t xs _ ht rs=>
  cases rs with
  | cons r1 rs=>
  cases rs with
  | cons r2 rs=>
  cases rs with
  | cons r3 rs=>
  cases rs;cases r1;cases r2;cases r3;have h3:a<=23/\b<=23:=ok;have hn:=Eu (n:=a) (by omega);have hn':=Eu (n:=b) (by omega);refine⟨_,rq,t,_,_,_,rq,rq,SqT.of ht,Ai (j:=0) rfl,?_⟩;refine⟨_,rq,rq,_,rq,ifS (λz=>absurd z (by trivial)) (λ_=>?_)⟩;refine⟨_,rq,Ar (by show 2<=1000;decide),λp hp=>?_⟩;have sp:=Af hp (.tup [.str "key",.str "term"]);have cp:upd H p (.tup [.str "key",.str "term"]) p=some (.tup [.str "key",.str "term"]):=Ae;have ht:=sp _ _ ht;generalize upd H p (.tup [.str "key",.str "term"])=H1 at *;refine⟨p,_,rq,.inr (SqT.of cp),rq,rq,_,rq,Ci (show (if false=true then !inV (.str "hours") [.str "key",.str "term"] else inV (.str "hours") [.str "key",.str "term"])=false by trivial) ?_⟩
  refine⟨_,rq,rq,_,rq,ifS (λ_=>?_) (λz=>absurd rfl z)⟩;exact⟨_,rq,t,_,_,_,rq,rq,SqT.of ht,Ai (j:=1) rfl,.inl ⟨_,rq,Dz (by omega),_,_,rq,rq,szb (by simp only[QaI,l0,l1,l2,l3,l4,l5,l6,l7,l8,l9,l10,l11,l12,l13,l17,Ah];omega),_,_,rq,rq,szb (by simp only[QaI,l0,l1,l2,l3,l4,l5,l6,l7,l8,l9,l10,l11,l12,l13,l17,Ah];omega),_,rq,t,_,_,_,rq,rq,SqT.of ht,Ai (j:=2) rfl,.inl ⟨_,rq,Dz (by omega),_,_,rq,rq,szb (by simp only[QaI,l0,l1,l2,l3,l4,l5,l6,l7,l8,l9,l10,l11,l12,l13,l17,Ah];omega),fin _ _ sp (by simp only[Cp,Dh,Qba,QaJ,L_S];rfl)⟩⟩⟩
 | neg c=>
  cases rd with
  | @tup t xs _ ht rs=>
  cases rs with
  | cons r1 rs=>
  cases rs with
  | cons r2 rs=>
  cases rs;cases r1;have hd:c.deep+1<=D+1:=hd;have h6:c.deep+1<=6:=h6;have hm:c.many+1<=20:=hm;have hc:=BW (c:=c) ok;refine⟨_,rq,t,_,_,_,rq,rq,SqT.of ht,Ai (j:=0) rfl,?_⟩;refine⟨_,rq,rq,_,rq,ifS (λz=>absurd z (by trivial)) (λ_=>?_)⟩;refine⟨_,rq,Ar (by show 2<=1000;decide),λp hp=>?_⟩;have sp:=Af hp (.tup [.str "key",.str "term"]);have cp:upd H p (.tup [.str "key",.str "term"]) p=some (.tup [.str "key",.str "term"]):=Ae;have ht:=sp _ _ ht;generalize upd H p (.tup [.str "key",.str "term"])=H1 at *;refine⟨p,_,rq,.inr (SqT.of cp),rq,rq,_,rq,Ci (show (if false=true then !inV (.str "not") [.str "key",.str "term"] else inV (.str "not") [.str "key",.str "term"])=false by trivial) ?_⟩
  refine⟨_,rq,rq,_,rq,ifS (λz=>absurd z (by trivial)) (λ_=>?_)⟩;refine⟨_,rq,rq,_,rq,ifS (λ_=>?_) (λz=>absurd rfl z)⟩;refine⟨_,rq,t,_,_,_,rq,rq,SqT.of ht,Ai (j:=1) rfl,_,c,rq,Rep.same sp r2,ok,by omega,by omega,by omega,λH2 s2=>?_⟩;exact⟨_,_,rq,rq,szb (by simp only[QaI,l0,l1,l2,l3,l4,l5,l6,l7,l8,l9,l10,l11,l12,l13,l17,Ah];omega),fin _ _ (sp.trans s2) (by simp only[Cp,Dh,Qba,QaJ,L_S];rfl)⟩
 | both c d=>
  cases rd with
  | @tup t xs _ ht rs=>
  cases rs with
  | cons r1 rs=>
  cases rs with
  | cons r2 rs=>
  cases rs with
  | cons r3 rs=>
  cases rs;cases r1;have hd:max c.deep d.deep+1<=D+1:=hd;have h6:max c.deep d.deep+1<=6:=h6;have hm:c.many+d.many+1<=20:=hm;have hc:=BW (c:=c) ok.1;have hc2:=BW (c:=d) ok.2;obtain⟨a3,rfl⟩:=Vy r3;obtain⟨q1,q2,q3,q4⟩:=QK (c:=d) ok.2 (by omega) (by omega);refine⟨_,rq,t,_,_,_,rq,rq,SqT.of ht,Ai (j:=0) rfl,?_⟩;refine⟨_,rq,rq,_,rq,ifS (λz=>absurd z (by trivial)) (λ_=>?_)⟩;refine⟨_,rq,Ar (by show 2<=1000;decide),λp hp=>?_⟩;have sp:=Af hp (.tup [.str "key",.str "term"]);have cp:upd H p (.tup [.str "key",.str "term"]) p=some (.tup [.str "key",.str "term"]):=Ae;have ht:=sp _ _ ht;generalize upd H p (.tup [.str "key",.str "term"])=H1 at *;refine⟨p,_,rq,.inr (SqT.of cp),rq,rq,_,rq,Ci (show (if false=true then !inV (.str "and") [.str "key",.str "term"] else inV (.str "and") [.str "key",.str "term"])=false by trivial) ?_⟩
  refine⟨_,rq,rq,_,rq,ifS (λz=>absurd z (by trivial)) (λ_=>?_)⟩;refine⟨_,rq,rq,_,rq,ifS (λz=>absurd z (by trivial)) (λ_=>?_)⟩;refine⟨_,rq,_,rq,t,_,_,_,rq,rq,SqT.of ht,rq,.inr (.inr ⟨a3,d.data,rq,Rep.same sp r3,q1,q2,q3,szb (by omega),_,_,rq,rq,szb (by simp only[QaI,l0,l1,l2,l3,l4,l5,l6,l7,l8,l9,l10,l11,l12,l13,l17,Ah];omega),_,_,rq,rq,szb (by simp only[QaI,l0,l1,l2,l3,l4,l5,l6,l7,l8,l9,l10,l11,l12,l13,l17,Ah];omega),Ar (by show 2<=1000;decide),λle hle=>?_⟩)⟩;have se:=Af hle (.lst [.str ")",.str ((Str.ofString " within "++d.data.shown)++")")]);have ce:upd H1 le (.lst [.str ")",.str ((Str.ofString " within "++d.data.shown)++")")]) le=some (.lst [.str ")",.str ((Str.ofString " within "++d.data.shown)++")")]):=Ae;have s2:=sp.trans se;have ht2:=se _ _ ht;show tCB _ _ _ (upd H1 le (.lst [.str ")",.str ((Str.ofString " within "++d.data.shown)++")")])) _;generalize upd H1 le (.lst [.str ")",.str ((Str.ofString " within "++d.data.shown)++")")])=H2 at *;refine⟨_,rq,rq,.inr ⟨_,rq,le,_,_,_,rq,rq,SqL.of ce,ZP (by trivial),?_⟩⟩;refine⟨_,rq,t,_,_,_,rq,rq,SqT.of ht2,Ai (j:=1) rfl,_,c,rq,Rep.same s2 r2,ok.1,by omega,by omega,by omega,λH3 s3=>?_⟩;refine⟨_,rq,t,_,_,_,rq,rq,SqT.of (s3 _ _ ht2),Ai (j:=2) rfl,_,d,rq,Rep.same (s2.trans s3) r3,ok.2,by omega,by omega,by omega,λH4 s4=>⟨_,_,rq,?_⟩⟩;refine⟨_,rq,_,_,rq,rq,szb (by simp only[QaI,l0,l1,l2,l3,l4,l5,l6,l7,l8,l9,l10,l11,l12,l13,l17,Ah];omega),_,_,rq,rq,szb (by simp only[QaI,l0,l1,l2,l3,l4,l5,l6,l7,l8,l9,l10,l11,l12,l13,l17,Ah];omega),_,rq,_,_,rq,rq,szb (by simp only[QaI,l0,l1,l2,l3,l4,l5,l6,l7,l8,l9,l10,l11,l12,l13,l17,Ah];omega),_,_,rq,rq,szb (by simp only[QaI,l0,l1,l2,l3,l4,l5,l6,l7,l8,l9,l10,l11,l12,l13,l17,Ah];omega),_,rq,_,_,rq,rq,szb (by simp only[QaI,l0,l1,l2,l3,l4,l5,l6,l7,l8,l9,l10,l11,l12,l13,l17,Ah];omega),_,rq,_,_,rq,rq,szb (by simp only[QaI,l0,l1,l2,l3,l4,l5,l6,l7,l8,l9,l10,l11,l12,l13,l17,Ah];omega),fin _ _ (s2.trans (s3.trans s4)) ?_⟩;simp only[Cp,Dh,Qba,QaJ,L_S];show _=L "("++(c.txt++(L " and "++(d.txt++L ")")));rw[<-ka];simp only[QaJ]
 | any c d=>
  cases rd with
  | @tup t xs _ ht rs=>
  cases rs with
  | cons r1 rs=>
  cases rs with
  | cons r2 rs=>
  cases rs with
  | cons r3 rs=>
  cases rs;cases r1;have hd:max c.deep d.deep+1<=D+1:=hd;have h6:max c.deep d.deep+1<=6:=h6;have hm:c.many+d.many+1<=20:=hm;have hc:=BW (c:=c) ok.1;have hc2:=BW (c:=d) ok.2;obtain⟨a3,rfl⟩:=Vy r3;obtain⟨q1,q2,q3,q4⟩:=QK (c:=d) ok.2 (by omega) (by omega);refine⟨_,rq,t,_,_,_,rq,rq,SqT.of ht,Ai (j:=0) rfl,?_⟩;refine⟨_,rq,rq,_,rq,ifS (λz=>absurd z (by trivial)) (λ_=>?_)⟩;refine⟨_,rq,Ar (by show 2<=1000;decide),λp hp=>?_⟩;have sp:=Af hp (.tup [.str "key",.str "term"]);have cp:upd H p (.tup [.str "key",.str "term"]) p=some (.tup [.str "key",.str "term"]):=Ae;have ht:=sp _ _ ht;generalize upd H p (.tup [.str "key",.str "term"])=H1 at *;refine⟨p,_,rq,.inr (SqT.of cp),rq,rq,_,rq,Ci (show (if false=true then !inV (.str "or") [.str "key",.str "term"] else inV (.str "or") [.str "key",.str "term"])=false by trivial) ?_⟩
  refine⟨_,rq,rq,_,rq,ifS (λz=>absurd z (by trivial)) (λ_=>?_)⟩;refine⟨_,rq,rq,_,rq,ifS (λz=>absurd z (by trivial)) (λ_=>?_)⟩;refine⟨_,rq,_,rq,t,_,_,_,rq,rq,SqT.of ht,rq,.inr (.inr ⟨a3,d.data,rq,Rep.same sp r3,q1,q2,q3,szb (by omega),_,_,rq,rq,szb (by simp only[QaI,l0,l1,l2,l3,l4,l5,l6,l7,l8,l9,l10,l11,l12,l13,l17,Ah];omega),_,_,rq,rq,szb (by simp only[QaI,l0,l1,l2,l3,l4,l5,l6,l7,l8,l9,l10,l11,l12,l13,l17,Ah];omega),Ar (by show 2<=1000;decide),λle hle=>?_⟩)⟩;have se:=Af hle (.lst [.str ")",.str ((Str.ofString " within "++d.data.shown)++")")]);have ce:upd H1 le (.lst [.str ")",.str ((Str.ofString " within "++d.data.shown)++")")]) le=some (.lst [.str ")",.str ((Str.ofString " within "++d.data.shown)++")")]):=Ae;have s2:=sp.trans se;have ht2:=se _ _ ht;show tCB _ _ _ (upd H1 le (.lst [.str ")",.str ((Str.ofString " within "++d.data.shown)++")")])) _;generalize upd H1 le (.lst [.str ")",.str ((Str.ofString " within "++d.data.shown)++")")])=H2 at *;refine⟨_,rq,rq,.inr ⟨_,rq,le,_,_,_,rq,rq,SqL.of ce,ZP (by trivial),?_⟩⟩;refine⟨_,rq,t,_,_,_,rq,rq,SqT.of ht2,Ai (j:=1) rfl,_,c,rq,Rep.same s2 r2,ok.1,by omega,by omega,by omega,λH3 s3=>?_⟩;refine⟨_,rq,t,_,_,_,rq,rq,SqT.of (s3 _ _ ht2),Ai (j:=2) rfl,_,d,rq,Rep.same (s2.trans s3) r3,ok.2,by omega,by omega,by omega,λH4 s4=>⟨_,_,rq,?_⟩⟩;refine⟨_,rq,_,_,rq,rq,szb (by simp only[QaI,l0,l1,l2,l3,l4,l5,l6,l7,l8,l9,l10,l11,l12,l13,l17,Ah];omega),_,_,rq,rq,szb (by simp only[QaI,l0,l1,l2,l3,l4,l5,l6,l7,l8,l9,l10,l11,l12,l13,l17,Ah];omega),_,rq,_,_,rq,rq,szb (by simp only[QaI,l0,l1,l2,l3,l4,l5,l6,l7,l8,l9,l10,l11,l12,l13,l17,Ah];omega),_,_,rq,rq,szb (by simp only[QaI,l0,l1,l2,l3,l4,l5,l6,l7,l8,l9,l10,l11,l12,l13,l17,Ah];omega),_,rq,_,_,rq,rq,szb (by simp only[QaI,l0,l1,l2,l3,l4,l5,l6,l7,l8,l9,l10,l11,l12,l13,l17,Ah];omega),_,rq,_,_,rq,rq,szb (by simp only[QaI,l0,l1,l2,l3,l4,l5,l6,l7,l8,l9,l10,l11,l12,l13,l17,Ah];omega),fin _ _ (s2.trans (s3.trans s4)) ?_⟩;simp only[Cp,Dh,Qba,QaJ,L_S];show _=L "("++(c.txt++(L " or "++(d.txt++L ")")));rw[<-ko];simp only[QaJ]
 | thn c d n=>
  cases rd with
  | @tup t xs _ ht rs=>
  cases rs with
  | cons r1 rs=>
  cases rs with
  | cons r2 rs=>
  cases rs with
  | cons r3 rs=>
  cases rs with
  | cons r4 rs=>
  cases rs;cases r1;cases r4;have hn:=Eu (n:=n) (by have:=ok.2.2.2;omega);have h20:=ok.2.2.2;have hd:max c.deep d.deep+1<=D+1:=hd;have h6:max c.deep d.deep+1<=6:=h6;have hm:c.many+d.many+1<=20:=hm;have hc:=BW (c:=c) ok.1;have hc2:=BW (c:=d) ok.2.1;refine⟨_,rq,t,_,_,_,rq,rq,SqT.of ht,Ai (j:=0) rfl,?_⟩;refine⟨_,rq,rq,_,rq,ifS (λz=>absurd z (by trivial)) (λ_=>?_)⟩;refine⟨_,rq,Ar (by show 2<=1000;decide),λp hp=>?_⟩;have sp:=Af hp (.tup [.str "key",.str "term"]);have cp:upd H p (.tup [.str "key",.str "term"]) p=some (.tup [.str "key",.str "term"]):=Ae;have ht:=sp _ _ ht;generalize upd H p (.tup [.str "key",.str "term"])=H1 at *;refine⟨p,_,rq,.inr (SqT.of cp),rq,rq,_,rq,Ci (show (if false=true then !inV (.str "then") [.str "key",.str "term"] else inV (.str "then") [.str "key",.str "term"])=false by trivial) ?_⟩
  refine⟨_,rq,rq,_,rq,ifS (λz=>absurd z (by trivial)) (λ_=>?_)⟩;refine⟨_,rq,rq,_,rq,ifS (λz=>absurd z (by trivial)) (λ_=>?_)⟩;refine⟨_,rq,_,rq,t,_,_,_,rq,rq,SqT.of ht,rq,.inl ⟨_,rq,Dz (by omega),_,_,rq,rq,szb (by simp only[QaI,l0,l1,l2,l3,l4,l5,l6,l7,l8,l9,l10,l11,l12,l13,l17,Ah];omega),_,_,rq,rq,szb (by simp only[QaI,l0,l1,l2,l3,l4,l5,l6,l7,l8,l9,l10,l11,l12,l13,l17,Ah];omega),Ar (by show 2<=1000;decide),λle hle=>?_⟩⟩;have se:=Af hle (.lst [.str ")",.str ((Str.ofString " within "++Str.ofString (toString (n:Int)))++")")]);have ce:upd H1 le (.lst [.str ")",.str ((Str.ofString " within "++Str.ofString (toString (n:Int)))++")")]) le=some (.lst [.str ")",.str ((Str.ofString " within "++Str.ofString (toString (n:Int)))++")")]):=Ae;have s2:=sp.trans se;have ht2:=se _ _ ht;show tCB _ _ _ (upd H1 le (.lst [.str ")",.str ((Str.ofString " within "++Str.ofString (toString (n:Int)))++")")])) _;generalize upd H1 le (.lst [.str ")",.str ((Str.ofString " within "++Str.ofString (toString (n:Int)))++")")])=H2 at *;refine⟨_,rq,rq,.inr ⟨_,rq,le,_,_,_,rq,rq,SqL.of ce,fX,?_⟩⟩;refine⟨_,rq,t,_,_,_,rq,rq,SqT.of ht2,Ai (j:=1) rfl,_,c,rq,Rep.same s2 r2,ok.1,by omega,by omega,by omega,λH3 s3=>?_⟩;refine⟨_,rq,t,_,_,_,rq,rq,SqT.of (s3 _ _ ht2),Ai (j:=2) rfl,_,d,rq,Rep.same (s2.trans s3) r3,ok.2.1,by omega,by omega,by omega,λH4 s4=>⟨_,_,rq,?_⟩⟩;refine⟨_,rq,_,_,rq,rq,szb (by simp only[QaI,l0,l1,l2,l3,l4,l5,l6,l7,l8,l9,l10,l11,l12,l13,l17,Ah];omega),_,_,rq,rq,szb (by simp only[QaI,l0,l1,l2,l3,l4,l5,l6,l7,l8,l9,l10,l11,l12,l13,l17,Ah];omega),_,rq,_,_,rq,rq,szb (by simp only[QaI,l0,l1,l2,l3,l4,l5,l6,l7,l8,l9,l10,l11,l12,l13,l17,Ah];omega),_,_,rq,rq,szb (by simp only[QaI,l0,l1,l2,l3,l4,l5,l6,l7,l8,l9,l10,l11,l12,l13,l17,Ah];omega),_,rq,_,_,rq,rq,szb (by simp only[QaI,l0,l1,l2,l3,l4,l5,l6,l7,l8,l9,l10,l11,l12,l13,l17,Ah];omega),_,rq,_,_,rq,rq,szb (by simp only[QaI,l0,l1,l2,l3,l4,l5,l6,l7,l8,l9,l10,l11,l12,l13,l17,Ah];omega),fin _ _ (s2.trans (s3.trans s4)) ?_⟩;simp only[Cp,Dh,Qba,QaJ,L_S];show _=L "("++(c.txt++(L " then "++(d.txt++(L " within "++(num n++L ")")))));rw[<-kn];simp only[QaJ];rfl
end
abbrev GQ:Stmt:=top 42
abbrev Ed:YF:=["_law_rules_here"]
theorem DN:Bc ["_law_rules_here","_law_text_here","_law_row"] Ed (Ao GQ):=by ac_rfl
abbrev JC:Stmt:=top 43
abbrev El:YF:=["_law_thing"]
theorem K6:Bc ["_law_thing"] El (Ao JC):=by ac_rfl
theorem V8 {rs:List Ru} {i:Nat} {u:Ru} (h:rs[i]?=some u):((rs.take (i+1)).map Ru.txt).flatten=((rs.take i).map Ru.txt).flatten++u.txt:=by
 rw[QbH h,QaY,List.flatten_append,List.map_singleton,List.flatten_singleton]
section
variable {P:Program} {w:World} {K:YD} {mg:YB} {base:Heap}
theorem Oq (C:Code K mg "_law_rules_text" GQ Ed) (T:Tc mg) (IW:Good P w K mg base "_law_text" 7 Ir (Uw 6)):Good P w K mg base "_law_rules_text" 8 Ed Jp:=by
 refine C.good DN (λvs H Q E h=>?_) (λf cdv A outer s H vs Q E hr h=>?_)
 ·obtain⟨v,rs,rfl,_⟩:=h;rfl
 obtain⟨v,rs,rfl,rd,ok,l,q⟩:=h;have sc:=DN;refine⟨_,(Ad (Bl (i:=1) DN.nd rfl (Or.inl rfl) Aj)
 (Ad (Il Qbg rfl (Ko (pv 0)) (Az (i:=2) DN.nd rfl (Or.inl rfl))
 (Ag (Bl (i:=1) DN.nd rfl (Or.inl rfl) (Av Bg (Av Bg (Av Bg (Av Bg (Av Bg (Av Bg (pv 1) (Aw Bf (pv 2) Ab (λ_ _=>rfl))) Aj) (Cr (FN hr.gd (KC hr)) rfl T.str GJ (Aa (Aw Bf (pv 2) Ab (λ_ _=>rfl)) Ac))) Aj) (Aq IW hr (Aa (Aw Bf (pv 2) Ab (λ_ _=>rfl)) Ac))) Aj))))
 (Ag (Am (pv 1))))),?_⟩
 show let R0:TS:=_;let R1:TS:=Ak (Kd _ _ R0) _;Ak _ R1 _ _ _;intro R0 R1;obtain⟨l0,l1,l2,l3,l4,l5,l6,l7,l8,l9,l10,l11,l12,l13,l14,l15,l16⟩:=ll;have tot:=KH ok;cases rd with
 | @tup a xs _ ha rr=>
 have lx:=Bb.len rr;rw[QaX] at lx;refine⟨_,rq,a,rq,⟨_,SqT.of ha⟩,?_⟩;let J0:YN:=λ(i:Nat) (U : St) (HX:Hp)=>∃(b1:Option V),U=[je a,some (.str (S ((rs.take i).map Ru.txt).flatten)),b1]/\Same H HX;refine Yj (xs:=xs) J0 ⟨none,rq,Same.refl _⟩ (λi U HX _ h=>?_) (λi x U HX hx h=>?_) (fun U HX h=>?_)
 ·obtain⟨_,rfl,s⟩:=h;exact SqT.of (s _ _ ha)
 ·obtain⟨_,rfl,s⟩:=h;obtain⟨d,hd,rx⟩:=Bb.at_ rr hx;rw[QaM] at hd;cases hu:rs[i]? with
  | none=>rw[hu] at hd;cases hd
  | some u=>
  rw[hu] at hd;injection hd with hd;subst hd;have uo:=ok u (Qat hu);obtain⟨t,v,rfl,ht,rv⟩:=P0 rx;obtain⟨ty,ey⟩:=Xg uo;obtain⟨c1,c2,c3⟩:=Js uo;have cl:=QC uo;have yl:u.ys.length<=8:=by rw[Hz,ey];exact cl.1
  have tl:=BW c1;have ht1:=s _ _ ht;have hi:=(Qae.mp hu).1;have al:((rs.take i).map Ru.txt).flatten.length<=421*rs.length:=by
   have:=KH (rs:=rs.take i) (λr hr=>ok r (List.mem_of_mem_take hr));rw[QaT] at this;omega
  have fin:∀(y:Str) (HY:Hp),Same HX HY->L y=((rs.take i).map Ru.txt).flatten++(L u.kw++(L " "++(L u.ys++(L " = "++(u.c.txt++L "\n")))))->∃(b1:Option V),[je a,some (.str y),je t]=[je a,some (.str (S ((rs.take (i+1)).map Ru.txt).flatten)),b1]/\Same H HY:=λy HY sy e=>by
   refine⟨some (.ref t),?_,s.trans sy⟩;have e2:y=S ((rs.take (i+1)).map Ru.txt).flatten:=by
    refine HF ?_;rw[e,V8 hu,L_S];congr 1;show _=(u.head++(L " = "++u.c.txt))++L "\n";rw[HJ,ey];simp only[QaJ]
   rw[e2]
  refine⟨_,rq,_,rq,t,_,_,_,rq,rq,SqT.of ht1,Ai (j:=0) rfl,_,_,rq,rq,szb (by simp only[QaI,l0,l4,l15,l16,Ah];omega),_,_,rq,rq,szb (by simp only[QaI,l0,l4,l15,l16,Ah];omega),_,rq,t,_,_,_,rq,rq,SqT.of ht1,Ai (j:=1) rfl,?_⟩;rcases ty with e |⟨j,e,lj,e'⟩
  ·refine .inr (.inl ⟨_,congrArg (λv=>[v]) e,_,_,rq,rq,szb (by simp only[QaI,l0,l4,l15,l16,Ah];omega),_,_,rq,rq,szb (by simp only[QaI,l0,l4,l15,l16,Ah];omega),_,rq,t,_,_,_,rq,rq,SqT.of ht1,Ai (j:=2) rfl,v,u.c,rq,Rep.same s rv,c1,c2,c2,c3,λHY sy=>⟨_,_,rq,rq,szb (by simp only[QaI,l0,l4,l15,l16,Ah];omega),_,_,rq,rq,szb (by simp only[QaI,l0,l4,l15,l16,Ah];omega),fin _ _ sy (by simp only[Cp,Dh,Qba,QaJ,L_S])⟩⟩)
  ·rw[e'] at yl fin;refine .inl ⟨j,congrArg (λv=>[v]) e,lj,_,_,rq,rq,szb (by simp only[QaI,l0,l4,l15,l16,Ah];omega),_,_,rq,rq,szb (by simp only[QaI,l0,l4,l15,l16,Ah];omega),_,rq,t,_,_,_,rq,rq,SqT.of ht1,Ai (j:=2) rfl,v,u.c,rq,Rep.same s rv,c1,c2,c2,c3,λHY sy=>⟨_,_,rq,rq,szb (by simp only[QaI,l0,l4,l15,l16,Ah];omega),_,_,rq,rq,szb (by simp only[QaI,l0,l4,l15,l16,Ah];omega),fin _ _ sy (by simp only[Cp,Dh,Qba,QaJ,L_S])⟩⟩
 ·obtain⟨_,rfl,s⟩:=h;rw[lx,QaU];exact⟨_,rq,q _ s⟩
end
def Tpl:Nat->PyData->Prop
 | 0,d=>(∃z,d=.str z)\/∃i,d=.int i
 | n+1,d=>(∃z,d=.str z)\/(∃i,d=.int i)\/∃ds,d=.tuple ds/\ds.length<=900/\∀x∈ds,Tpl n x
theorem Tpl.s (n:Nat) (z:Str):Tpl n (.str z):=by cases n <;> exact .inl ⟨z,rfl⟩
theorem Tpl.i (n:Nat) (i:Int):Tpl n (.int i):=by
 cases n with
 | zero=>exact .inr ⟨i,rfl⟩
 | succ n=>exact .inr (.inl ⟨i,rfl⟩)
theorem Tpl.t {n:Nat} {ds:List PyData} (l:ds.length<=900) (h:∀x∈ds,Tpl n x):Tpl (n+1) (.tuple ds):=.inr (.inr ⟨ds,rfl,l,h⟩)
theorem Tpl.up:∀{n m:Nat} {d:PyData},Tpl n d->n<=m->Tpl m d
 | 0,m,d,h,_=>by
  rcases h with⟨z,rfl⟩|⟨i,rfl⟩
  ·exact Tpl.s _ _
  ·exact Tpl.i _ _
 | n+1,0,d,_,h=>absurd h (by omega)
 | n+1,m+1,d,h,l=>by
  rcases h with⟨z,rfl⟩|⟨i,rfl⟩|⟨ds,rfl,l9,h⟩
  ·exact Tpl.s _ _
  ·exact Tpl.i _ _
  ·exact Tpl.t l9 λx hx=>Tpl.up (h x hx) (by omega)
theorem Yy:∀{c:Cd},Tpl c.deep c.data:=by
 intro c
 induction c with
 | off n z=>exact Tpl.t (n:=0) (by show 3<=900;decide) (Bj (Tpl.s _ _) (Bj (Tpl.i _ _) (Bj (Tpl.s _ _) (Qav _))))
 | term z=>exact Tpl.t (n:=0) (by show 2<=900;decide) (Bj (Tpl.s _ _) (Bj (Tpl.s _ _) (Qav _)))
 | key k=>exact Tpl.t (n:=0) (by show 2<=900;decide) (Bj (Tpl.s _ _) (Bj (Tpl.i _ _) (Qav _)))
 | hours a b=>exact Tpl.t (n:=0) (by show 3<=900;decide) (Bj (Tpl.s _ _) (Bj (Tpl.i _ _) (Bj (Tpl.i _ _) (Qav _))))
 | neg c ih=>exact Tpl.t (by show 2<=900;decide) (Bj (Tpl.s _ _) (Bj ih (Qav _)))
 | both c d ih1 ih2=>exact Tpl.t (by show 3<=900;decide) (Bj (Tpl.s _ _) (Bj (ih1.up (Qbe ..)) (Bj (ih2.up (QaW ..)) (Qav _))))
 | any c d ih1 ih2=>exact Tpl.t (by show 3<=900;decide) (Bj (Tpl.s _ _) (Bj (ih1.up (Qbe ..)) (Bj (ih2.up (QaW ..)) (Qav _))))
 | thn c d n ih1 ih2=>exact Tpl.t (by show 4<=900;decide) (Bj (Tpl.s _ _) (Bj (ih1.up (Qbe ..)) (Bj (ih2.up (QaW ..)) (Bj (Tpl.i _ _) (Qav _)))))
theorem Yx {u:Ru} (h:u.ok):Tpl 7 u.data:=by
 have c:=(Yy (c:=u.c)).up (Js h).2.1;cases u with
 | term z c'=>exact Tpl.t (by show 3<=900;decide) (Bj (Tpl.s _ _) (Bj (Tpl.s _ _) (Bj c (Qav _))))
 | sound n c'=>exact Tpl.t (by show 3<=900;decide) (Bj (Tpl.s _ _) (Bj (Tpl.i _ _) (Bj c (Qav _))))
theorem Xu {rs:List Ru} (h:∀r∈rs,r.ok) (l:rs.length<=16):Tpl 8 (.tuple (rs.map Ru.data)):=Tpl.t (by rw[QaX];omega) λx hx=>by
 obtain⟨r,hr,rfl⟩:=QbA.mp hx;exact Yx (h r hr)
theorem Kc:∀(ds:List PyData),((ds.map λ_=>true).map V.bl).all G8=true/\inV (.bl false) ((ds.map λ_=>true).map V.bl)=false
 | []=>⟨rfl,rfl⟩
 | d::r=>⟨by rw[Qbr,Qbr,List.all_cons,(Kc r).1];rfl,by
   have h:=(Kc r).2;unfold inV at h ⊢;rw[Qbr,Qbr,Qbv,h];rfl⟩
def Mf (n:Nat):Sp:=λvs H Q _=>∃(v:V) (d:PyData),vs=[v]/\Rep H v d/\Tpl n d/\∀H',Same H H'->Q (.bl true) H'
section
variable {P:Program} {w:World} {K:YD} {mg:YB} {base:Heap}
theorem Vd (C:Code K mg "_law_tuples" JC El) (T:Tc mg):∀n,Good P w K mg base "_law_tuples" (3+n) El (Mf n):=by
 have step:∀(n k':Nat) (sp':Sp),(∀m,n=m+1->∀vs H Q E,Mf m vs H Q E->sp' vs H Q E)->Good P w K mg base "_law_tuples" k' El sp'->Good P w K mg base "_law_tuples" (k'+1) El (Mf n):=λn k' sp' hsp JQ=>by
  refine C.good K6 (λvs H Q E h=>?_) (λf cdv A outer s H vs Q E hr h=>?_)
  ·obtain⟨v,d,rfl,_⟩:=h;rfl
  obtain⟨v,d,rfl,rd,tp,q⟩:=h;refine⟨_,(@Ad _ _ _ _ _ (Bh (Dk (Bd Eo rfl T.isinstance BZ (Aa (pv 0) (Aa (Fy (v:=.ty "tuple") rfl T.tuple JT rfl) Ac)))) (@Ag _ _ _ (@Am _ _ _ _ (CG Kq Hx (Fx (N':=["_law_one"]) rfl (BX.plain rfl (by trivial) (by trivial) (by trivial)) (Ko (pv 0)) (λ_ _ _ _=>(Az (i:=0) (show List.Nodup (["_law_one"]:YF) by trivial) rfl (Or.inl rfl))) (λ_ _ _ _=>Gu) (λ_ _ _ _=>(Aq (hk:=(QbB _)) JQ hr (Aa (pv 0) Ac)))) (by with_unfolding_all rfl)))) Ax)
 (@Ag _ _ _ (@Am _ _ _ _ (aq (Bd Eo rfl T.isinstance BZ (Aa (pv 0) (Aa (Fy (v:=.ty "str") rfl T.str GJ rfl) Ac))) (DP (Dm (Bd Eo rfl T.isinstance BZ (Aa (pv 0) (Aa (Fy (v:=.ty "int") rfl T.int Jx rfl) Ac))) (DP (Va (Bd Eo rfl T.isinstance BZ (Aa (pv 0) (Aa (Fy (v:=.ty "bool") rfl T.bool Sh rfl) Ac))))))))))),?_⟩
  show let R0:TS:=_;let R1:TS:=_;Ak (Bu _ R1 _) R0 _ _ _;intro R0 R1;have both:(∃z,d=.str z)\/(∃i,d=.int i)\/∃m ds,n=m+1/\d=.tuple ds/\ds.length<=900/\∀x∈ds,Tpl m x:=by
   cases n with
   | zero=>exact tp.elim .inl λh=>.inr (.inl h)
   | succ m=>
    rcases tp with h | h |⟨ds,h1,h2,h3⟩
    ·exact .inl h
    ·exact .inr (.inl h)
    ·exact .inr (.inr ⟨m,ds,rq,h1,h2,h3⟩)
  rcases both with⟨z,rfl⟩|⟨i,rfl⟩|⟨m,ds,en,rfl,l9,tq⟩
  ·cases rd;exact⟨_,rq,Je True.intro ⟨_,rq,Ci rfl ⟨_,rq,Ln True.intro ⟨_,rq,IV rfl (q _ (Same.refl _))⟩⟩⟩⟩
  ·cases rd;exact⟨_,rq,Je True.intro ⟨_,rq,Ci rfl ⟨_,rq,Ln True.intro ⟨_,rq,Ci rfl ⟨_,rq,RT True.intro ⟨_,rq,IV rfl ⟨_,rq,Qu rfl ⟨_,rq,q _ (Same.refl _)⟩⟩⟩⟩⟩⟩⟩⟩
  ·cases rd with
   | @tup t xs _ ht rs=>
   refine⟨_,rq,Je (.inr ⟨_,ht⟩) ⟨_,rq,IV (by rw[Lb ht];rfl) ?_⟩⟩;refine⟨_,rq,t,rq,⟨_,SqT.of ht⟩,λl hl=>?_⟩;have ta:=Kc ds;refine Oa (fb:=λ_=>true) hl ht rs l9 (λx dx HH hdx rx sx R hR=>⟨_,rq,hsp m en _ _ _ _ ⟨x,dx,rq,rx,tq dx hdx,hR⟩⟩) (λH2 hc s2=>?_);refine⟨l,_,rq,.inl (SqL.of hc),rq,ta.1,?_⟩;have e:(if true=true then !inV (.bl false) ((ds.map λ_=>true).map V.bl) else inV (.bl false) ((ds.map λ_=>true).map V.bl))=true:=by rw[ta.2];rfl
   rw[e];exact q _ s2
 intro n
 induction n with
 | zero=>exact step 0 2 (λ_ _ _ _=>False) (λm e=>absurd e (by omega)) (C.good K6 (λvs H Q E h=>h.elim) (λf cdv A outer s H vs Q E hr h=>h.elim))
 | succ n ih=>exact step (n+1) (3+n) (Mf n) (λm e vs H Q E h=>by injection e with e;subst e;exact h) ih
end
abbrev Hw:Stmt:=top 44
abbrev Xj:YF:=["_law_script"]
theorem Hf:Bc ["_law_script","_law_k","_law_bag_here","_law_some","_law_texts","_law_turn","_law_rules_here","_law_text_here","_law_found"] Xj (Ao Hw):=by ac_rfl
def tx (rs:List Ru):V:=.str (S (rs.map Ru.txt).flatten)
def Jb (H:Hp) (t:Addr) (rs:List Ru):Prop:=Rep (onl H) (.ref t) (.tuple (rs.map Ru.data))/\(∀r∈rs,r.ok)/\1<=rs.length/\rs.length<=16
theorem Jb.same {H H':Hp} {t:Addr} {rs:List Ru} (h:Jb H t rs) (s:Same H H'):Jb H' t rs:=⟨Rep.same (Em (Ck.of s)) h.1,h.2⟩
theorem Jb.rep {H:Hp} {t:Addr} {rs:List Ru} (h:Jb H t rs):Rep H (.ref t) (.tuple (rs.map Ru.data)):=Rep.same (RJ H) h.1
theorem pick {H:Hp} {t1 t2:Addr} {rs1 rs2:List Ru} (h1:Jb H t1 rs1) (h2:Jb H t2 rs2):∀(j:Nat),j < 4->∃t rs,atI [V.ref t1,.ref t2] ((0+(j:Int)) % 2)=some (.ref t)/\atI [tx rs1,tx rs2] ((0+(j:Int)) % 2)=some (tx rs)/\Jb H t rs:=λj hj=>by
 have:j=0\/j=1\/j=2\/j=3:=by omega
 rcases this with rfl | rfl | rfl | rfl
 ·exact⟨t1,rs1,rq,rq,h1⟩
 ·exact⟨t2,rs2,rq,rq,h2⟩
 ·exact⟨t1,rs1,rq,rq,h1⟩
 ·exact⟨t2,rs2,rq,rq,h2⟩
section
variable {P:Program} {w:World} {K:YD} {mg:YB} {base:Heap} {wA:Addr}
theorem Zf {f:Addr} {fd:FuncData} (F:Fun K "law" "law" Hw f fd) (T:Tx K w.params mg wA) (Nk:Good P w K mg base "_law_bag" 1 Jv (Xf K)) (N7:Good P w K mg base "_law_rules" 9 Hg Rr) (Nj:Good P w K mg base "_law_rules_text" 8 Ed Jp) (GC:Good P w K mg base "show_rules" 8 Ec Jp) (Qv:Good P w K mg base "read_rules" 18 Fe YZ) (JQ:Good P w K mg base "_law_tuples" 11 El (Mf 8)):Fv P w K mg base CX0 19 f fd Xj (O7 K):=by
 refine F.ok Hf (λvs H Q E h=>?_) (λcdv A outer s H vs Q E hr h=>?_)
 ·obtain⟨a,ns,rfl,_⟩:=h;rfl
 obtain⟨a,ns,rfl,hS,h63,q⟩:=h;refine⟨_,(@Ad _ _ _ _ _ (Il Qbg rfl (Fd rfl T.range (Aa (Bd (VD rfl) rfl T.max ZM (Aa Ab (Aa (Bd (VB rfl) rfl T.min ZL (Aa Ab (Aa (Bd BK rfl T.len DQ (Aa (pv 0) Ac)) Ac))) Ac))) Ac)) (Az (i:=1) Hf.nd rfl (Or.inl rfl))
 (@Ad _ _ _ _ _ (@Bl _ _ 2 _ _ _ _ Hf.nd rfl (Or.inl rfl) (Aq Nk hr (Aa (pv 0) (Aa (pv 1) Ac))) (by rfl) (by first | exact .inl rfl | exact .inr rfl))
 (@Ad _ _ _ _ _ (@Bl _ _ 3 _ _ _ _ Hf.nd rfl (Or.inl rfl) (Dl (Aa (Aq N7 hr (Aa (pv 2) Ac)) (Aa (Aq N7 hr (Aa (pv 2) Ac)) Ac))) (by rfl) (by first | exact .inl rfl | exact .inr rfl))
 (@Ad _ _ _ _ _ (XD (i:=4) Hf.nd rfl (Or.inl rfl) (N':=Ed) rfl (BX.plain rfl (by trivial) (by trivial) (by trivial)) (KR (pv 3)) (λ_ _ _ _=>(Az (i:=0) (show List.Nodup (Ed:YF) by trivial) rfl (Or.inl rfl))) (λ_ _ _ _=>Gu) (λ_ _ _ _=>(Aq Nj hr (Aa (pv 0) Ac))))
 (@Ag _ _ _ (Il Qbg rfl (Fd rfl T.range (Aa Ab Ac)) (Az (i:=5) Hf.nd rfl (Or.inl rfl))
 (@Ad _ _ _ _ _ (U6 (i:=6) (j:=7) rfl Hf.nd rfl rfl (by decide) rfl rfl (Aa (@Aw _ _ _ _ _ _ _ Bm (pv 3) (@Av _ _ _ _ _ _ _ _ FT (pv 5) Ab) (λ_ _=>rfl)) (Aa (@Aw _ _ _ _ _ _ _ Bm (pv 4) (@Av _ _ _ _ _ _ _ _ FT (pv 5) Ab) (λ_ _=>rfl)) Ac)) rfl)
 (@Ad _ _ _ _ _ (Bh (Ay Pa (Aq GC hr (Aa (pv 6) Ac)) (pv 7) (Ba _)) (@Ag _ _ _ (@Am _ _ _ _ Hx)) Ax)
 (@Ad _ _ _ _ _ (@Bl _ _ 8 _ _ _ _ Hf.nd rfl (Or.inl rfl) (Aq Qv hr (Aa (pv 7) Ac)) (by rfl) (by first | exact .inl rfl | exact .inr rfl))
 (@Ag _ _ _ (Bh (PW.pt (JK (Ay (Qd hr.units) (pv 8) (pv 6) (Ba _)) (JK (Fb (Dk (Aq JQ hr (Aa (pv 8) Ac)))) (Ju (Ay Pa (Aq GC hr (Aa (pv 8) Ac)) (pv 7) (Ba _)))))) (@Ag _ _ _ (@Am _ _ _ _ Hx)) Ax)))))))))))
 (@Ag _ _ _ (@Am _ _ _ _ Hx))),?_⟩
 show let R0:TS:=_;let R1:TS:=Ak _ R0;let R2:TS:=Ak _ R1;let R3:TS:=Ak _ R2;let R4:TS:=Kd _ _ R3;let R5:TS:=Ak _ R4;let R6:TS:=Ak _ R5;let R7:TS:=Ak _ R6;Ak (Kd _ _ R7) _ _ _ _;intro R0 R1 R2 R3 R4 R5 R6 R7;have hl:(ns.map V.int).length=ns.length:=QaX _;refine⟨_,rq,a,_,rq,.inl hS,_,_,rq,_,_,rq,_,rq,?_,?_,?_⟩
 ·rw[hl];split <;> split <;> omega
 ·rw[hl];split <;> split <;> omega
 let J0:YN:=λi U H'=>Same H H'/\∃u1 u2 u3 u4 u5 u6 u7 u8,U=[je a,u1,u2,u3,u4,u5,u6,u7,u8];refine Gm J0 ⟨Same.refl H,_,_,_,_,_,_,_,_,rq⟩ (λi U H' hi h=>?_) (fun U H' h=>?_)
 ·obtain⟨sm,u1,u2,u3,u4,u5,u6,u7,u8,rfl⟩:=h;rw[hl] at hi;have hi':(i:Int)<=100:=by
   revert hi;split <;> split <;> omega
  refine⟨_,rq,_,rq,a,ns,_,rq,sm.seq hS,h63,by omega,by omega,λb o hb0 Zt=>?_⟩;have s1:Same H (upd H' b o):=sm.trans (Af hb0 o);have fb:H b=none:=sm.free hb0;generalize upd H' b o=H1 at s1 Zt ⊢;refine⟨_,rq,b,0,rq,Zt,by omega,λt1 rs1 H2 r1 o1 m1 n1 hb2 sb2=>⟨_,rq,b,_,rq,hb2,by omega,λt2 rs2 H3 r2 o2 m2 n2 hb3 sb3=>⟨Ar (by show 2<=1000;decide),λls hls=>?_⟩⟩⟩;have s3:=(s1.Gq sb2 fb).Gq sb3 fb;have A1:Jb H3 t1 rs1:=⟨Rep.same (Em (sb3.tup hb2.Lk)) r1,o1,m1,n1⟩;have A2:Jb H3 t2 rs2:=⟨r2,o2,m2,n2⟩;have s4:=Af hls (.lst [.ref t1,.ref t2]);have c4:upd H3 ls (.lst [.ref t1,.ref t2]) ls=some (.lst [.ref t1,.ref t2]):=Ae;have B1:=A1.same s4;have B2:=A2.same s4;have s04:=s3.trans s4;generalize upd H3 ls (.lst [.ref t1,.ref t2])=H4 at *;refine⟨_,rq,ls,rq,⟨_,SqL.of c4⟩,λlt hlt=>?_⟩;let J1:YN:=λ(k:Nat) (U : St) (HX:Hp)=>∃(b1:Option V),U=[b1]/\HX lt=some (.lst ([tx rs1,tx rs2].take k))/\Same H4 HX;refine Kw (xs:=[.ref t1,.ref t2]) J1 ⟨none,rq,Ae,Af hlt _⟩ (λk U HX _ h=>?_) (λk x U HX hx h=>?_) (fun U HX h=>?_)
  ·obtain⟨_,rfl,_,s⟩:=h;exact SqL.of (s _ _ c4)
  ·obtain⟨_,rfl,e,s⟩:=h;have two:∃t rs,x=.ref t/\[tx rs1,tx rs2][k]?=some (tx rs)/\Jb H4 t rs:=by
    rcases k with _ | _ | k
    ·injection hx with hx;exact⟨t1,rs1,hx.symm,rq,B1⟩
    ·injection hx with hx;exact⟨t2,rs2,hx.symm,rq,B2⟩
    ·cases hx
   obtain⟨t,rs,rfl,ek,Rt⟩:=two;unfold FJ;dsimp only;refine Bt ⟨_,rq,_,rs,rq,(Rt.same s).rep,Rt.2.1,Rt.2.2.2,λHY sY=>⟨_,sY _ _ e,BJ (by rw[QaT];show min k 2<=1000;omega),_,rq,?_,(s.trans sY).Gq Al.upd hlt⟩⟩;rw[Ae,QbH ek];rfl
  obtain⟨_,rfl,c5,s5⟩:=h;have c5:HX lt=some (.lst [tx rs1,tx rs2]):=c5;have D1:=B1.same s5;have D2:=B2.same s5;have c4':=s5 _ _ c4;have s05:=s04.trans s5;refine⟨_,rq,by decide,by decide,?_⟩;let J2:YN:=λj U HH=>∃v5 v6 v7 v8,U=[je a,some (.int (0+(i:Int))),je b,je ls,je lt,v5,v6,v7,v8]/\Same HX HH;refine Gm (n:=4) J2 ⟨_,_,_,_,rq,Same.refl _⟩ (λj U HH hj h=>?_) (fun U HH h=>?_)
  ·obtain⟨v5,v6,v7,v8,rfl,sj⟩:=h;obtain⟨t,rs,e1,e2,Rt⟩:=pick D1 D2 j hj;have Rj:=Rt.same sj;have shp:SeqAt.shaped (.tuple (rs.map Ru.data))=true:=((UJ Rt.2.1 Rt.2.2.2).fit (by decide)).shaped (by decide);refine⟨_,rq,_,rq,_,_,rq,rq,(by show (0:Int) < 2;decide),ls,_,_,_,rq,rq,SqL.of (sj _ _ c4'),e1,_,rq,_,rq,_,_,rq,rq,(by show (0:Int) < 2;decide),lt,_,_,_,rq,rq,SqL.of (sj _ _ c5),e2,_,_,rq,?_⟩;refine⟨_,rq,_,rs,rq,Rj.rep,Rj.2.1,Rj.2.2.2,λHA sA=>⟨_,rq,rq,_,rq,Ci (by show (!decide (tx rs=tx rs))=false;rw[Qbo rfl];rfl) ?_⟩⟩;refine⟨_,rq,rs,rq,Rj.2.1,Rj.2.2.1,Rj.2.2.2,λp HB rB sB=>?_⟩;refine⟨_,rq,_,rq,_,_,rB,(Rj.same (sA.trans sB)).rep,shp,shp,_,rq,Ci (by rw[SeqAt.eqv_refl _ (SeqAt.canLay_of_shaped shp)];rfl) ?_⟩;refine⟨_,rq,_,_,rq,rB,Xu Rj.2.1 Rj.2.2.2,λHC sC=>⟨_,rq,Ci rfl ?_⟩⟩;refine⟨_,rq,_,rs,rq,Rep.same sC rB,Rj.2.1,Rj.2.2.2,λHD sD=>⟨_,rq,rq,_,rq,Ci (by show (!decide (tx rs=tx rs))=false;rw[Qbo rfl];rfl) ?_⟩⟩;exact⟨_,_,_,_,rq,sj.trans (sA.trans (sB.trans (sC.trans sD)))⟩
  ·obtain⟨v5,v6,v7,v8,rfl,sj⟩:=h;exact⟨s05.trans sj,_,_,_,_,_,_,_,_,rq⟩
 ·obtain⟨sm,u1,u2,u3,u4,u5,u6,u7,u8,rfl⟩:=h;exact q _
end
theorem Wm:S (num 1)="1"/\S (num 2)="2"/\S (num 3)="3"/\S (num 4)="4"/\S (num 5)="5"/\S (num 6)="6"/\S (num 7)="7"/\S (num 8)="8"/\S (num 9)="9":=by trivial
theorem aL {K:YD} {wA:Addr} (y1:nsIn K wA "1"=some none) (y2:nsIn K wA "2"=some none) (y3:nsIn K wA "3"=some none) (y4:nsIn K wA "4"=some none) (y5:nsIn K wA "5"=some none) (y6:nsIn K wA "6"=some none) (y7:nsIn K wA "7"=some none) (y8:nsIn K wA "8"=some none) (y9:nsIn K wA "9"=some none):∀n,1<=n->n<=9->nsIn K wA (S (num n))=some none:=λn h1 h9=>by
 obtain⟨e1,e2,e3,e4,e5,e6,e7,e8,e9⟩:=Wm;have:n=1\/n=2\/n=3\/n=4\/n=5\/n=6\/n=7\/n=8\/n=9:=by omega
 rcases this with rfl | rfl | rfl | rfl | rfl | rfl | rfl | rfl | rfl
 ·rw[e1];exact y1
 ·rw[e2];exact y2
 ·rw[e3];exact y3
 ·rw[e4];exact y4
 ·rw[e5];exact y5
 ·rw[e6];exact y6
 ·rw[e7];exact y7
 ·rw[e8];exact y8
 ·rw[e9];exact y9
structure FnI (K:YD) (x:Str) (st:Stmt):Prop where
 ex:∃(f:Addr) (oc:Value) (od an:Option Addr) (sl:YI) (kV dc pm cd ct:Value),nsIn K mainGlobals x=some (some (.ref f))/\K.lookup f=some ⟨oc,od,.func (fnOf x x (Eh st) (CV st) (Ao st) .none kV dc pm an cd ct),sl⟩/\codeIn K cd x=true/\keepIn K (.ref f)=true
theorem FnI.of {K:YD} {x:Str} {st:Stmt} {f:Addr} {oc:Value} {od an:Option Addr} {sl:YI} {kV dc pm cd ct:Value} (a:nsIn K mainGlobals x=some (some (.ref f))) (l:K.lookup f=some ⟨oc,od,.func (fnOf x x (Eh st) (CV st) (Ao st) .none kV dc pm an cd ct),sl⟩) (c:codeIn K cd x=true) (k:keepIn K (.ref f)=true):FnI K x st:=⟨f,oc,od,an,sl,kV,dc,pm,cd,ct,a,l,c,k⟩
theorem FnI.code {K:YD} {mg:YB} {h:Heap} {x:Str} {st:Stmt} {ps:YF} (I:FnI K x st) (X:K.In h) (G:h.Ns mainGlobals mg) (hb:∀(kV doc pm:Value) (an:Option Addr) (cdv ct:Value) (us:YE),us.length=ps.length->bindArgs (fnOf x x (Eh st) (CV st) (Ao st) .none kV doc pm an cdv ct) ⟨us,[]⟩=pure (ps.zip us)):Code K mg x st ps:=by
 obtain⟨f,oc,od,an,sl,kV,dc,pm,cd,ct,a,l,c,k⟩:=I.ex;exact Code.of X G a l c k hb
def WW:YF->(YE->Prop)->Prop
 | [],P=>P []
 | _::r,P=>∀a,WW r λt=>P (a::t)
theorem Ss:∀(ps:YF) {P:YE->Prop},WW ps P->∀us:YE,us.length=ps.length->P us
 | [],_,h,[],_=>h
 | _::r,_,h,a::t,e=>Ss r (h a) t (Nat.succ.inj e)
theorem fnA {F:Value->Value->Value->Option Addr->Value->Value->FuncData} {ps:YF} (h:∀kV dc pm an cd ct,WW ps λus=>bindArgs (F kV dc pm an cd ct) ⟨us,[]⟩=pure (ps.zip us)) (kV dc pm:Value) (an:Option Addr) (cd ct:Value) (us:YE) (hu:us.length=ps.length):bindArgs (F kV dc pm an cd ct) ⟨us,[]⟩=pure (ps.zip us):=Ss ps (h kV dc pm an cd ct) us hu
theorem all_mk {l:PySem.W.OpenLaw} {w:World} {K:YD} {h:Heap} {mg:YB} {fa fl:Addr} (X:K.In h) (G:h.Ns mainGlobals mg) (hfa:mg "law"=some (.ref fa))
  {odl anl:Option Addr} {sll:YI} {ocl kVl dcl pml cdl ctl:Value}
  (i0:FnI K "is_whole" JF)
  (i1:FnI K "is_within" Jl)
  (i2:FnI K "is_row" Lh)
  (i3:FnI K "is_name" Kl)
  (i4:FnI K "is_plain" JH)
  (i5:FnI K "is_form" Km)
  (i6:FnI K "inner_ones" Ij)
  (i7:FnI K "is_condition" GR)
  (i8:FnI K "is_rule" Kh)
  (i9:FnI K "is_rules" JG)
  (i10:FnI K "take_word" Jj)
  (i11:FnI K "take_words" Ig)
  (i12:FnI K "read_number" Hs)
  (i13:FnI K "show_condition" Gb)
  (i14:FnI K "show_rules" Ih)
  (i15:FnI K "read_leaf" Jk)
  (i16:FnI K "read_pair" G6)
  (i17:FnI K "read_condition" Ej)
  (i18:FnI K "read_row" JB)
  (i19:FnI K "read_rules" Ii)
  (i20:FnI K "_law_bag" MN)
  (i21:FnI K "_law_take" Lf)
  (i22:FnI K "_law_name" JD)
  (i23:FnI K "_law_names" Jd)
  (i24:FnI K "_law_leaf" Lg)
  (i25:FnI K "_law_condition" Ht)
  (i26:FnI K "_law_rules" Kg)
  (i27:FnI K "_law_text" Le)
  (i28:FnI K "_law_rules_text" GQ)
  (i29:FnI K "_law_tuples" JC)
  (al:nsIn K mainGlobals "law"=some (some (.ref fl))) (ll:K.lookup fl=some ⟨ocl,odl,.func (fnOf "law" "law" (Eh Hw) (CV Hw) (Ao Hw) .none kVl dcl pml anl cdl ctl),sll⟩) (cl:codeIn K cdl "law"=true) (kl:keepIn K (.ref fl)=true)
  (z0:nsIn K mainGlobals "isinstance"=some none)
  (z1:nsIn K mainGlobals "int"=some none)
  (z2:nsIn K mainGlobals "bool"=some none)
  (z3:nsIn K mainGlobals "tuple"=some none)
  (z4:nsIn K mainGlobals "list"=some none)
  (z5:nsIn K mainGlobals "str"=some none)
  (z6:nsIn K mainGlobals "len"=some none)
  (z7:nsIn K mainGlobals "all"=some none)
  (z8:nsIn K mainGlobals "abs"=some none)
  (z9:nsIn K mainGlobals "max"=some none)
  (z10:nsIn K mainGlobals "min"=some none)
  (z11:nsIn K mainGlobals "range"=some none)
  (z12:nsIn K mainGlobals "sorted"=some none)
  (z13:nsIn K mainGlobals "any"=some none)
  (z14:nsIn K mainGlobals "sum"=some none)
  (z15:nsIn K mainGlobals "enumerate"=some none)
  (z16:nsIn K mainGlobals "zip"=some none)
  (z17:nsIn K mainGlobals "reversed"=some none)
  (z18:nsIn K mainGlobals "dict"=some none)
  (z19:nsIn K mainGlobals "ord"=some none)
  (z20:nsIn K mainGlobals "set"=some none)
  {aO tkD tkC:Tok} {wA:Addr} {esW:Array DictEntry} {nW:Nat} {tkK tkT tkH tkN tkF:Tok}
  (aSL:nsIn K mainGlobals "SMALL_LETTERS"=some (some (.str "abcdefghijklmnopqrstuvwxyz" aO)))
  (aMD:nsIn K mainGlobals "MOST_DEEP"=some (some (.int 6 tkD)))
  (aMC:nsIn K mainGlobals "MOST_CONDITIONS"=some (some (.int 20 tkC)))
  (yw:nsIn K mainGlobals "WORDS_BEHIND"=some (some (.ref wA)))
  (ylw:K.lookup wA=some ⟨.type "dict",none,.dict esW nW,#[]⟩)
  (ykw:PySem.W.KeysLit w.params esW.toList)
  (yow:(wA == sysModules)=false)
  (yk1:nsIn K wA "key"=some (some (.int 1 tkK)))
  (yt1:nsIn K wA "term"=some (some (.int 1 tkT)))
  (yh3:nsIn K wA "hours"=some (some (.int 3 tkH)))
  (yd1:nsIn K wA "1"=some none)
  (yd2:nsIn K wA "2"=some none)
  (yd3:nsIn K wA "3"=some none)
  (yd4:nsIn K wA "4"=some none)
  (yd5:nsIn K wA "5"=some none)
  (yd6:nsIn K wA "6"=some none)
  (yd7:nsIn K wA "7"=some none)
  (yd8:nsIn K wA "8"=some none)
  (yd9:nsIn K wA "9"=some none)
  (yn2:nsIn K mainGlobals "WORDS_BEHIND_NUMBER"=some (some (.int 2 tkN)))
  (yfg:nsIn K mainGlobals "FIGURES"=some (some (.str "0123456789" tkF)))
  : ∃fd:FuncData,(∀(s:Shared) (v:Value),BindsTo s fd ⟨[v],[]⟩ [("_law_script",v)])/\∀base:Heap,K.In base->base.Ns mainGlobals mg->Fv l.prog w K mg base CX0 19 fa fd Xj (O7 K):=by
 have e:=hfa.symm.trans (mg_of X G al);cases e;have TN:Nm mg:=⟨mg_none_of X G z0,mg_none_of X G z1,mg_none_of X G z2,mg_none_of X G z3,mg_none_of X G z4,mg_none_of X G z5,mg_none_of X G z6,mg_none_of X G z7,mg_none_of X G z8,mg_none_of X G z9,mg_none_of X G z10,mg_none_of X G z11,mg_none_of X G z12,mg_none_of X G z13,mg_none_of X G z14,mg_none_of X G z15,mg_none_of X G z16,mg_none_of X G z17,mg_none_of X G z18,mg_none_of X G z19,mg_none_of X G z20⟩;have TC:Tc mg:={ toNm:=TN,SMALL_LETTERS:=⟨_,mg_of X G aSL,⟨_,rq⟩⟩,MOST_DEEP:=⟨_,mg_of X G aMD,⟨_,rq⟩⟩,MOST_CONDITIONS:=⟨_,mg_of X G aMC,⟨_,rq⟩⟩ };have TX:Tx K w.params mg wA:={ toTc:=TC,WORDS_BEHIND:=⟨_,mg_of X G yw,rq⟩,dw:=⟨⟨_,_,ylw,ykw⟩,yow⟩,dk:=⟨_,yk1⟩,dt:=⟨_,yt1⟩,dh:=⟨_,yh3⟩,dn:=aL yd1 yd2 yd3 yd4 yd5 yd6 yd7 yd8 yd9,WORDS_BEHIND_NUMBER:=⟨_,mg_of X G yn2,⟨_,rq⟩⟩,FIGURES:=⟨_,mg_of X G yfg,⟨_,rq⟩⟩ };have Ug:=i0.code (ps:=Gw) X G (fnA λ_ _ _ _ _ _ _=>rfl);have Ro:=i1.code (ps:=DR) X G (fnA λ_ _ _ _ _ _ _ _ _=>rfl);have W7:=i2.code (ps:=Fi) X G (fnA λ_ _ _ _ _ _ _ _ _=>rfl);have VR:=i3.code (ps:=Gh) X G (fnA λ_ _ _ _ _ _ _=>rfl);have Ui:=i4.code (ps:=Gy) X G (fnA λ_ _ _ _ _ _ _=>rfl);have V0:=i5.code (ps:=Hj) X G (fnA λ_ _ _ _ _ _ _=>rfl);have QZ:=i6.code (ps:=Fj) X G (fnA λ_ _ _ _ _ _ _=>rfl);have Nv:=i7.code (ps:=Ef) X G (fnA λ_ _ _ _ _ _ _=>rfl);have VP:=i8.code (ps:=Hi) X G (fnA λ_ _ _ _ _ _ _=>rfl);have Uh:=i9.code (ps:=Gx) X G (fnA λ_ _ _ _ _ _ _=>rfl);have Rk:=i10.code (ps:=Di) X G (fnA λ_ _ _ _ _ _ _=>rfl);have QV:=i11.code (ps:=Dn) X G (fnA λ_ _ _ _ _ _ _ _=>rfl);have O2:=i12.code (ps:=Cu) X G (fnA λ_ _ _ _ _ _ _=>rfl);have LK:=i13.code (ps:=Dp) X G (fnA λ_ _ _ _ _ _ _=>rfl);have QW:=i14.code (ps:=Ec) X G (fnA λ_ _ _ _ _ _ _=>rfl);have Rn:=i15.code (ps:=Et) X G (fnA λ_ _ _ _ _ _ _=>rfl);have Rm:=i16.code (ps:=Es) X G (fnA λ_ _ _ _ _ _ _ _=>rfl);have LQ:=i17.code (ps:=Bw) X G (fnA λ_ _ _ _ _ _ _ _=>rfl);have Ud:=i18.code (ps:=Gv) X G (fnA λ_ _ _ _ _ _ _=>rfl);have QX:=i19.code (ps:=Fe) X G (fnA λ_ _ _ _ _ _ _=>rfl);have Yt:=i20.code (ps:=Jv) X G (fnA λ_ _ _ _ _ _ _ _=>rfl);have W4:=i21.code (ps:=Fg) X G (fnA λ_ _ _ _ _ _ _ _=>rfl);have W5:=i22.code (ps:=GZ) X G (fnA λ_ _ _ _ _ _ _=>rfl);have VN:=i23.code (ps:=Hh) X G (fnA λ_ _ _ _ _ _ _ _=>rfl);have W6:=i24.code (ps:=Iu) X G (fnA λ_ _ _ _ _ _ _ _ _ _=>rfl);have O4:=i25.code (ps:=CW) X G (fnA λ_ _ _ _ _ _ _ _ _ _ _=>rfl);have VL:=i26.code (ps:=Hg) X G (fnA λ_ _ _ _ _ _ _=>rfl);have W3:=i27.code (ps:=Ir) X G (fnA λ_ _ _ _ _ _ _=>rfl);have Nu:=i28.code (ps:=Ed) X G (fnA λ_ _ _ _ _ _ _=>rfl);have Ue:=i29.code (ps:=El) X G (fnA λ_ _ _ _ _ _ _=>rfl);have aN:=Vt (st:=Hw) ll cl kl;refine⟨fnOf "law" "law" (Eh Hw) (CV Hw) (Ao Hw) .none kVl dcl pml anl cdl ctl,λs v=>.of_eq rfl,λbase _ _=>?_⟩;have Nk:=Wj (P:=l.prog) (w:=w) (base:=base) Yt TN;have Bo:=Ve (P:=l.prog) (w:=w) (base:=base) W4 TN;have g_w:=Qg (P:=l.prog) (w:=w) (base:=base) Ug TN;have g_r:=Vf (P:=l.prog) (w:=w) (base:=base) W7 TN;have Wy:=Ou (P:=l.prog) (w:=w) (base:=base) Ro TN g_w;have Zx:=Te (P:=l.prog) (w:=w) (base:=base) VR TC;have dZ:=Q9 (P:=l.prog) (w:=w) (base:=base) Ui TC g_r Wy;have eF:=Tf (P:=l.prog) (w:=w) (base:=base) V0 TC g_r Wy Zx dZ;have eE:=Ov (P:=l.prog) (w:=w) (base:=base) QZ TC;have eG:=Mp (P:=l.prog) (w:=w) (base:=base) Nv TC eF eE;have dN:=Td (P:=l.prog) (w:=w) (base:=base) VP TC g_r Wy Zx eG;have dR:=Q8 (P:=l.prog) (w:=w) (base:=base) Uh TC g_r dN;have Zy:=X5 (P:=l.prog) (w:=w) (base:=base) W5 TN Bo;have d7:=Wi (P:=l.prog) (w:=w) (base:=base) VN TN Zy;have dM:=X3 (P:=l.prog) (w:=w) (base:=base) LK TC 6;have Zw:=Oo (P:=l.prog) (w:=w) (base:=base) QW dM;have Wz:=Qe (P:=l.prog) (w:=w) (base:=base) Rk TX;have Zv:=Om (P:=l.prog) (w:=w) (base:=base) QV TX Wz;have WD:=M4 (P:=l.prog) (w:=w) (base:=base) O2 TX;have dW:=Qf (P:=l.prog) (w:=w) (base:=base) Rn TX Wz Zv WD;have dY:=aB (P:=l.prog) (w:=w) (base:=base) LQ Rm TX Wz Zv WD dW 6;have dU:=Q7 (P:=l.prog) (w:=w) (base:=base) Ud TX dY WD;have dX:=Ot (P:=l.prog) (w:=w) (base:=base) QX TX dU dR Zw;have d9:=X6 (P:=l.prog) (w:=w) (base:=base) W6 TC Bo;have eH:=X7 (P:=l.prog) (w:=w) (base:=base) O4 TC Bo d9 5;have d8:=Wh (P:=l.prog) (w:=w) (base:=base) VL TC Bo Zy d7 eH;have dI:=XS (P:=l.prog) (w:=w) (base:=base) W3 TC 6;have dO:=Oq (P:=l.prog) (w:=w) (base:=base) Nu TC dI;have dJ:=Vd (P:=l.prog) (w:=w) (base:=base) Ue TC 8;exact Zf aN TX Nk d8 dO Zw dX dJ
theorem walk {l:PySem.W.OpenLaw} {q:Program} {loose:YF} {XP:(YB)->Heap->Prop} {YP:World->Heap->Prop} {d:DefRec} {K:Params->YD} (hn:l.most=some 63) (hdf:d.params.defaults=[])
  (hY:∀(w:World) (h:Heap),YP w h->(K w.params).In h)
  (F:∀(w:World) (mg:YB) (fa:Addr) (h:Heap),(K w.params).In h->h.Ns mainGlobals mg->mg d.name=some (.ref fa) ->
   ∃fd:FuncData,(∀(s:Shared) (u:Value),BindsTo s fd ⟨[u],[]⟩ [("_law_script",u)])/\∀base:Heap,(K w.params).In base->base.Ns mainGlobals mg->Fv l.prog w (K w.params) mg base CX0 19 fa fd Xj (O7 (K w.params))) :
  PySem.W.WalkO q loose XP YP l.row.toRowW d [] (λf vs=>PySem.call f vs):=
 L2.Xq (n:=63) (k:=19) (x:="_law_script") (CX:=λ_=>CX0) (sp:=λw=>O7 (K w.params)) hn (by decide) hdf ⟨rq,by decide,by decide,rq⟩ hY F (λ_ _ a ns hl _ hS=>⟨a,ns,rq,hS,hl,λ_=>rfl⟩) λ_ _ _ _ _ z=>z
end K28
/-! names that stay free of quick twins: the head comes through without them, and the compiled text is much smaller -/
namespace PySem.W.Fast
def tw10934213185592439795:=0
def tw1805355367125385533:=0
def tw13663781394739565070:=0
def tw15903063100894330945:=0
def tw15267249473649504593:=0
def tw5059922046714191439:=0
def tw790132513113733670:=0
def tw13247858852852050513:=0
def tw17024781142008320012:=0
def tw822060033475886527:=0
def tw11009986137342297873:=0
def tw2155282654864916586:=0
def tw14683498234910432995:=0
def tw367629041586958511:=0
def tw4991208691765927767:=0
def tw10295344469047873399:=0
def tw1684906245378650698:=0
def tw6452843216775652684:=0
def tw5130887933595819193:=0
def tw13156810551238085854:=0
def tw3652938669862888442:=0
def tw12846103267840717746:=0
def tw11057931405201890398:=0
def tw11936595610811754485:=0
def tw9455332085431474896:=0
def tw11912964548797545418:=0
def tw7804265904930630204:=0
def tw7002000605986069707:=0
def tw2211620368078762743:=0
def tw10539899873196489013:=0
def tw10371991606249823571:=0
def tw1185903306942763520:=0
def tw14828200086239794595:=0
def tw11056029501881433683:=0
def tw7428516731443244415:=0
def tw4665344942009820456:=0
def tw7242525104849085274:=0
def tw7279452419034029676:=0
def tw13319416523561242037:=0
def tw5373772751967269974:=0
def tw6525626015710334301:=0
def tw9610569254861394544:=0
def tw2506254224349116452:=0
def tw8010338183295910596:=0
def tw992005289305387451:=0
def tw16581301093844208809:=0
def tw9883075308718458688:=0
def tw14512929750671080272:=0
def tw6241780026792103535:=0
def tw13272313597390773883:=0
def tw862239627505122156:=0
def tw15847775746186728638:=0
def tw4651728745521126691:=0
def tw10162878671917520161:=0
def tw6117801772826129690:=0
def tw14402103374006554348:=0
def tw8361772768609893932:=0
def tw11604826598417319756:=0
def tw18091192002559303305:=0
def tw15233152641186837031:=0
def tw14724780436024112324:=0
def tw18029732269122715739:=0
def tw10936786551384646990:=0
def tw14369816893372605815:=0
def tw15567513465440048539:=0
def tw8227299334159833292:=0
def tw3860927267191675435:=0
def tw5240367598725605475:=0
def tw2955779275088554955:=0
def tw17914124516772175276:=0
def tw18185138334376228975:=0
def tw579319076505565763:=0
def tw14693123036193064214:=0
def tw14716588266661809480:=0
def tw577407271256207614:=0
def tw9611151408485786133:=0
def tw12358697233805785946:=0
end PySem.W.Fast
open PySem PySem.W PyProof.Rows
set_option maxRecDepth 100000 in
set_option maxHeartbeats 0 in
theorem PySem.Challenge.cw_warnloop_k28_rules_written_holds : PySem.Challenge.rw_warnloop_k28_rules_written.Holds := by
 w_on;o_law;k_head;(case hw=>w_witness2)
 k_fill
 refine K28.walk (l:=PySem.Challenge.rw_warnloop_k28_rules_written) rfl rfl (λw h Y=>PySem.W.kIn_of Y) ?F
 case F=>
  intro w mg fa h KX G hmg
  refine' K28.all_mk KX G hmg (.of ?ai0 ?li0 ?ci0 ?ki0) (.of ?ai1 ?li1 ?ci1 ?ki1) (.of ?ai2 ?li2 ?ci2 ?ki2) (.of ?ai3 ?li3 ?ci3 ?ki3) (.of ?ai4 ?li4 ?ci4 ?ki4) (.of ?ai5 ?li5 ?ci5 ?ki5) (.of ?ai6 ?li6 ?ci6 ?ki6) (.of ?ai7 ?li7 ?ci7 ?ki7) (.of ?ai8 ?li8 ?ci8 ?ki8) (.of ?ai9 ?li9 ?ci9 ?ki9) (.of ?gW ?cB ?fW ?cY) (.of ?gU ?cu ?fV ?cX) (.of ?gR ?cj ?fU ?cW) (.of ?gQ ?cg ?fQ ?cV) (.of ?gP ?bZ ?fP ?cU) (.of ?gO ?bY ?fO ?cT) (.of ?gM ?bW ?fM ?cR) (.of ?gK ?bV ?fL ?cQ) (.of ?gJ ?bU ?fK ?cP) (.of ?gH ?bT ?fJ ?cO) (.of ?gG ?bR ?fH ?cN) (.of ?gF ?bQ ?fG ?cM) (.of ?gD ?bO ?fD ?cL) (.of ?gB ?bN ?fC ?cJ) (.of ?gA ?bM ?fB ?cI) (.of ?gw ?bL ?fu ?cH) (.of ?gq ?bK ?fj ?cG) (.of ?gk ?bJ ?eZ ?cF) (.of ?gj ?bI ?eY ?cD) (.of ?gb ?bH ?eX ?cC) ?al ?ll ?cl ?kl ?z0 ?z1 ?z2 ?z3 ?z4 ?z5 ?z6 ?z7 ?z8 ?z9 ?z10 ?z11 ?z12 ?z13 ?z14 ?z15 ?z16 ?z17 ?z18 ?z19 ?z20 ?aSL ?aMD ?aMC ?yw ?ylw ?ykw ?yow ?yk1 ?yt1 ?yh3 ?yd1 ?yd2 ?yd3 ?yd4 ?yd5 ?yd6 ?yd7 ?yd8 ?yd9 ?yn2 ?yfg
  (case ai0 | li0 | ci0 | ki0 | ai1 | li1 | ci1 | ki1 | ai2 | li2 | ci2 | ki2 | ai3 | li3 | ci3 | ki3 | ai4 | li4 | ci4 | ki4 | ai5 | li5 | ci5 | ki5 | ai6 | li6 | ci6 | ki6 | ai7 | li7 | ci7 | ki7 | ai8 | li8 | ci8 | ki8 | ai9 | li9 | ci9 | ki9 | gW | cB | fW | cY | gU | cu | fV | cX | gR | cj | fU | cW | gQ | cg | fQ | cV | gP | bZ | fP | cU | gO | bY | fO | cT | gM | bW | fM | cR | gK | bV | fL | cQ | gJ | bU | fK | cP | gH | bT | fJ | cO | gG | bR | fH | cN | gF | bQ | fG | cM | gD | bO | fD | cL | gB | bN | fC | cJ | gA | bM | fB | cI | gw | bL | fu | cH | gq | bK | fj | cG | gk | bJ | eZ | cF | gj | bI | eY | cD | gb | bH | eX | cC=>k_is)
  (case al | ll | cl | kl | z0 | z1 | z2 | z3 | z4 | z5 | z6 | z7 | z8 | z9 | z10 | z11 | z12 | z13 | z14 | z15 | z16 | z17 | z18 | z19 | z20 | aSL | aMD | aMC | yw | ylw=>k_is)
  (case ykw=>(dsimp only [PySem.W.KeysLit];exact⟨⟨_,_,rq,rq⟩,⟨_,_,rq,rq⟩,⟨_,_,rq,rq⟩,True.intro⟩))
  (case yow=>rfl)
  (case yk1 | yt1 | yh3 | yd1 | yd2 | yd3 | yd4 | yd5 | yd6 | yd7 | yd8 | yd9 | yn2 | yfg=>k_is)
