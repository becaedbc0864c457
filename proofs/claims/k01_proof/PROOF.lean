import PyProof.Rows.All
import Wide.All
import OpenK.AllK
import Wide.FinOn
import Lean
import PyProof.EqAt
import PyProof.EqKinds
import PyProof.TupleCall
import PySem.Challenge.RW_warnloop_k01_plans_told
set_option linter.all false
set_option Elab.async false
set_option maxRecDepth 100000
set_option maxHeartbeats 4000000
abbrev YA:=PySem.Value→PySem.Shared→Prop
abbrev YH:=Unit→PySem.Shared→Prop
abbrev YB:=PySem.Str→Option PySem.Value
abbrev YC:=List (PySem.Addr×PySem.Obj)
abbrev YD:=PySem.W.Frag
abbrev YI:=Array (Option PySem.Value)
abbrev YE:=List PySem.Value
abbrev YF:=List PySem.Str
abbrev YJ:=List PySem.Expr
theorem rj{α:Sort _}{a:α}:a=a:=rfl
local macro_rules|`(tactic|trivial)=>`(tactic|decide +kernel)
local macro_rules | `(tactic|ac_rfl) => `(tactic|exact ⟨rfl,rfl,rfl,by decide +kernel,rfl,by decide +kernel,by decide +kernel⟩)
open PySem.W (instObj hideAll hideAll_get findIn keepIn emptyDict kitOne kia_one fnOf codeIn nsIn mg_of mg_none_of)
abbrev Qaa:=@PyProof.Rows.slot_tupleiter_next
abbrev Qab:=@PyProof.Rows.slot_tuple_getitem
abbrev Qac:=@PyProof.Rows.callWith_type1
abbrev Qad:=@Array.getElem?_eq_some_iff
abbrev Qae:=@List.getD_eq_getElem?_getD
abbrev Qaf:=@List.getElem?_eq_some_iff
abbrev Qag:=@List.pairwise_iff_getElem
abbrev Qah:=@List.drop_eq_getElem_cons
abbrev Qai:=@List.getElem?_eq_getElem
abbrev Qaj:=@PySem.F.slot_list_append
abbrev Qak:=@PySem.F.type_list_append
abbrev Qal:=@PySem.F.plainAttrs_list
abbrev Qam:=@PySem.wpAny_callSpecial?_slot
abbrev Qan:=@PySem.wpAny_getItem_str_slice
abbrev Qao:=@Int.eq_ofNat_of_zero_le
abbrev Qap:=@PySem.Heap.get?_push_of_some
abbrev Qaq:=@Option.map_eq_some_iff
abbrev Qar:=@List.mem_append_right
abbrev Qas:=@Array.getElem?_toList
abbrev Qat:=@List.length_singleton
abbrev Qau:=@List.mem_of_getElem?
abbrev Qav:=@List.mem_cons_of_mem
abbrev Qaw:=@List.mem_append_left
abbrev Qax:=@List.getElem?_of_mem
abbrev Qay:=@List.mem_of_mem_take
abbrev Qaz:=@PySem.Heap.get?_push_size
abbrev QaA:=@List.forall_mem_nil
abbrev QaB:=@Array.length_toList
abbrev QaC:=@List.flatMap_append
abbrev QaD:=@PySem.mem_of_lookup
abbrev QaE:=@List.filterMap_cons
abbrev QaF:=@List.length_append
abbrev QaG:=@Bool.false_ne_true
abbrev QaH:=@List.mem_cons_self
abbrev QaI:=@List.set_cons_zero
abbrev QaJ:=@List.set_cons_succ
abbrev QaL:=@Nat.lt_of_lt_of_le
abbrev QaM:=@List.mem_singleton
abbrev QaN:=@PySem.wpAny_pyIter_tuple
abbrev QaO:=@Int.emod_lt_of_pos
abbrev QaP:=@PySem.wpAny_setField_rec
abbrev QaQ:=@decide_eq_true_iff
abbrev QaR:=@List.map_singleton
abbrev QaS:=@List.size_toArray
abbrev QaT:=@List.getElem?_map
abbrev QaU:=@of_decide_eq_true
abbrev QaV:=@PySem.wpAny_newObj_type
abbrev QaW:=@PySem.wpAny_truthy_bool
abbrev QaX:=@List.flatMap_cons
abbrev QaY:=@Int.toNat_natCast
abbrev QaZ:=@List.append_assoc
abbrev Qba:=@List.nodup_append
abbrev Qbb:=@PySem.wpAny_pyIter_list
abbrev Qbc:=@Bool.and_eq_true
abbrev Qbd:=@List.length_take
abbrev Qbe:=@List.length_cons
abbrev Qbf:=@List.take_length
abbrev Qbg:=@List.not_mem_nil
abbrev Qbh:=@List.length_drop
abbrev Qbi:=@PySem.wpAny_call_entry
abbrev Qbj:=@List.all_eq_true
abbrev Qbk:=@List.length_map
abbrev Qbl:=@decide_eq_false
abbrev Qbm:=@List.mem_append
abbrev Qbn:=@List.map_append
abbrev Qbo:=@PySem.PassesOwn.never
abbrev Qbp:=@Option.some.inj
abbrev Qbr:=@List.nodup_cons
abbrev Qbs:=@List.append_nil
abbrev Qbu:=@PySem.wpAny_passesOwn
abbrev Qbv:=@Bool.eq_iff_iff
abbrev Qbw:=@Int.emod_nonneg
abbrev Qbx:=@List.find?_cons
abbrev Qby:=@decide_eq_true
abbrev Qbz:=@Bool.and_false
abbrev QbA:=@PySem.Heap.size_push
abbrev QbB:=@Bool.false_and
abbrev QbC:=@PySem.wpAny_seqItems
abbrev QbD:=@List.mem_cons
abbrev QbE:=@Bool.true_and
abbrev QbF:=@PySem.Paired.length
abbrev QbG:=@List.map_cons
abbrev QbH:=@Nat.lt_irrefl
abbrev QbI:=@PySem.wpAny_holding
abbrev QbJ:=@List.all_cons
abbrev QbK:=@List.any_cons
abbrev QbL:=@PySem.wpAny_standAt
abbrev QbM:=@PySem.Heap.lt_size
abbrev QbN:=@Nat.ne_of_lt
abbrev QbO:=@Nat.le_trans
abbrev QbP:=@List.mem_map
abbrev QbQ:=@Nat.ne_of_gt
abbrev QbR:=@Nat.le_refl
abbrev QbS:=@Nat.zero_le
abbrev QbT:=@PySem.wpAny_field
abbrev QbU:=@PySem.Paired.snoc
abbrev QbV:=@PySem.sizeLine_eq
abbrev QbW:=@PySem.wpAny_bind
abbrev QbX:=@PySem.wpAny_pure
abbrev QbY:=@PySem.wpAny_mono
abbrev QbZ:=@PyProof.Rows.take_snoc
abbrev Qca:=@LawfulBEq.eq_of_beq
abbrev Qcb:=@or_false
namespace L2
open PySem PySem.Spec PyProof.Rows
abbrev Key:=Sum Int Str
def Lp:Key->Value->Bool
 | .inl k,v=>Value.isInt k v
 | .inr x,v=>Value.isStrOf x v
def jK (w:World):Key->Int
 | .inl k=>hashInt k
 | .inr x=>hashStr w x
theorem Dh:∀{k:Key} {v:Value},Lp k v=true->(∃i t,k=Sum.inl i/\v=Value.int i t)\/(∃x t,k=Sum.inr x/\v=Value.str x t)
 | .inl i,v,h=>by
  obtain⟨t,e⟩:=Value.isInt_shape (k:=i) (v:=v) h;exact .inl ⟨i,t,rj,e⟩
 | .inr x,v,h=>by
  obtain⟨t,e⟩:=Value.isStrOf_shape (x:=x) (v:=v) h;exact .inr ⟨x,t,rj,e⟩
theorem W4 (i:Int) (t:Tok):Lp (.inl i) (.int i t)=true:=by simp[Lp,Value.isInt]
theorem W3 (x:Str) (t:Tok):Lp (.inr x) (.str x t)=true:=by simp[Lp,Value.isStrOf]
theorem cX (a b:Int):decide ((Sum.inl a:Key)=Sum.inl b)=(a == b):=by
 by_cases e:a=b
 ·subst e;simp
 ·have h:¬(Sum.inl a:Key)=Sum.inl b:=λq=>e (Sum.inl.inj q);rw[Qbl h];exact (beq_eq_false_iff_ne.mpr e).symm
theorem cU (a b:Str):decide ((Sum.inr a:Key)=Sum.inr b)=decide (a=b):=by
 by_cases e:a=b
 ·subst e;simp
 ·have h:¬(Sum.inr a:Key)=Sum.inr b:=λq=>e (Sum.inr.inj q);rw[Qbl h,Qbl e]
theorem cW (a:Int) (b:Str):decide ((Sum.inl a:Key)=Sum.inr b)=false:=Qbl (λq=>nomatch q)
theorem cV (a:Str) (b:Int):decide ((Sum.inr a:Key)=Sum.inl b)=false:=Qbl (λq=>nomatch q)
def GK (prog:Program) (w:World):PySem.KeyKind prog w Key where
 is:=Lp
 hash:=jK w
 inj:=λv a b ha hb=>by
  rcases Dh ha with⟨i,t,rfl,rfl⟩|⟨x,t,rfl,rfl⟩
  ·rcases Dh hb with⟨j,u,rfl,e⟩|⟨y,u,rfl,e⟩
   ·injection e with e1 _;rw[e1]
   ·exact nomatch e
  ·rcases Dh hb with⟨j,u,rfl,e⟩|⟨y,u,rfl,e⟩
   ·exact nomatch e
   ·injection e with e1 _;rw[e1]
 byValue:=λk v h=>by
  rcases Dh h with⟨i,t,rfl,rfl⟩|⟨x,t,rfl,rfl⟩ <;> rfl
 pyHash:=λhv h=>by
  rcases Dh hv with⟨i,t,rfl,rfl⟩|⟨x,t,rfl,rfl⟩
  ·exact wpAny_pyHash_int h
  ·exact wpAny_pyHash_str h
 eqBool:=λhu hv h=>by
  rcases Dh hu with⟨i,t,rfl,rfl⟩|⟨x,t,rfl,rfl⟩
  ·rcases Dh hv with⟨j,u,rfl,rfl⟩|⟨y,u,rfl,rfl⟩
   ·rw[cX] at h;exact wpAny_eqBool_int h
   ·rw[cW] at h;exact SeqAt.EqAt.int_str i t y u _ _ _ _ h
  ·rcases Dh hv with⟨j,u,rfl,rfl⟩|⟨y,u,rfl,rfl⟩
   ·rw[cV] at h;exact SeqAt.EqAt.str_int x t j u _ _ _ _ h
   ·rw[cU] at h;exact wpAny_eqBool_str h
 «strs»:=λk x t v h=>by
  rcases Dh h with⟨i,u,rfl,e⟩|⟨y,u,rfl,e⟩
  ·exact nomatch e
  ·injection e with e1 _;subst e1;cases v <;> rfl
theorem S7 (prog:Program) (w:World) (i:Int) (t:Tok):(GK prog w).is (.inl i) (.int i t)=true:=W4 i t
theorem S6 (prog:Program) (w:World) (x:Str) (t:Tok):(GK prog w).is (.inr x) (.str x t)=true:=W3 x t
inductive V where
 | non | bl (b:Bool) | int (i:Int) | str (x:Str) | byt (b:Array UInt8) | flt (b:UInt64) | ref (a:Addr) | ty (n:String)
 deriving DecidableEq
def RelV:V->Value->Prop
 | .non,u=>u=Value.none
 | .bl b,u=>u=Value.bool b
 | .int i,u=>∃t,u=Value.int i t
 | .str x,u=>∃t,u=Value.str x t
 | .byt b,u=>∃t,u=Value.bytes b t
 | .flt b,u=>∃t,u=Value.float b t
 | .ref a,u=>u=Value.ref a
 | .ty n,u=>u=Value.type n
abbrev YG:=List V
abbrev Vals:YG->YE->Prop:=Paired RelV
theorem Vals.length {xs:YG} {us:YE} (r:Vals xs us):xs.length=us.length:=QbF r
theorem Vals.get:∀{xs:YG} {us:YE} {i:Nat} {x:V},Vals xs us->xs[i]?=some x->∃u,us[i]?=some u/\RelV x u
 | _,_,_,_,.nil,e=>by simp at e
 | _,_,0,_,.cons r _,e=>by simp at e;subst e;exact⟨_,rfl,r⟩
 | _,_,i+1,x,.cons _ t,e=>by
  obtain⟨u,h1,h2⟩:=Vals.get (i:=i) (x:=x) t (by simpa using e);exact⟨u,by simpa using h1,h2⟩
theorem Vals.set {x:V} {u:Value} (r:RelV x u):∀{xs:YG} {us:YE} (i:Nat),Vals xs us->Vals (xs.set i x) (us.set i u)
 | _,_,_,.nil=>.nil
 | _,_,0,.cons _ t=>.cons r t
 | _,_,i+1,.cons q t=>.cons q (Vals.set r i t)
theorem Vals.append:∀{xs ys:YG} {us ws:YE},Vals xs us->Vals ys ws->Vals (xs++ys) (us++ws)
 | _,_,_,_,.nil,s=>s
 | _,_,_,_,.cons r t,s=>.cons r (Vals.append t s)
theorem Vals.take:∀{xs:YG} {us:YE} (n:Nat),Vals xs us->Vals (xs.take n) (us.take n)
 | _,_,0,_=>.nil
 | _,_,_+1,.nil=>.nil
 | _,_,n+1,.cons r t=>.cons r (Vals.take n t)
theorem Vals.drop:∀{xs:YG} {us:YE} (n:Nat),Vals xs us->Vals (xs.drop n) (us.drop n)
 | _,_,0,r=>r
 | _,_,_+1,.nil=>.nil
 | _,_,n+1,.cons _ t=>Vals.drop n t
def Ks:Option V->Option Value->Prop
 | some v,some u=>RelV v u
 | none,none=>True
 | _,_=>False
def KV {κ : Type}:List (κ×V)->List (κ×Value)->Prop:=Paired λ(p:κ×V) (q:κ×Value)=>p.1=q.1/\RelV p.2 q.2
def kV:Key->V
 | .inl i=>.int i
 | .inr x=>.str x
inductive HO where
 | lst (xs:YG)
 | tup (xs:YG)
 | dK (kvs:List (Key×V)) | dT (kvs:List (List Key×V))
 | set (S:Int->Bool) (n:Nat)
 | ins (C dx:Addr) (fs:List (Str×V))
 | own (x:Addr)
 | xd (fs:List (Str×V))
 | met (f x:Addr)
 | rng (lo hi:Int)
 | frz (o:Obj) (u:HO)
 | tbl (ps:Array Value)
 | ext (φ : Heap->Prop)
abbrev Hp:=Addr->Option HO
def upd (H:Hp) (a:Addr) (o:HO):Hp:=λb=>if b=a then some o else H b
theorem Ad {H:Hp} {a:Addr} {o:HO}:upd H a o a=some o:=by unfold upd;rw[if_pos rfl]
theorem Bd {H:Hp} {a b:Addr} {o:HO} (h:b≠a):upd H a o b=H b:=by unfold upd;rw[if_neg h]
theorem TY {H:Hp} {a:Addr} {o u:HO}:upd (upd H a o) a u=upd H a u:=by
 funext b;unfold upd;split <;> rfl
theorem Aw {H:Hp} {a b:Addr} {o:HO} (h:H a=some o) (h':H b=none):a≠b:=by
 intro e;subst e;rw[h] at h';cases h'
section
variable (P:Program) (w:World)
def BZ (H:Hp) (h:Heap) (a:Addr):HO->Prop
 | .lst xs=>xs.length<=sizeLine/\∃(its:YE) (n:Nat),Vals xs its/\h.get? a=some { cls:=.type "list",data:=.seq its.toArray n }
 | .tup xs=>xs.length<=sizeLine/\∃its:YE,Vals xs its/\IsTup h a its.toArray
 | .dK kvs=>kvs.length<=sizeLine/\(a == sysModules)=false/\∃vs,KV kvs vs/\h.DictOf (GK P w) a vs
 | .dT kvs=>kvs.length<=sizeLine/\(a == sysModules)=false/\∃xs:List (List Key×Addr×Value),
   Paired (λ(p:List Key×V) (q:List Key×Addr×Value)=>p.1=q.1/\H q.2.1=some (.tup (p.1.map kV))/\RelV p.2 q.2.2) kvs xs /\
   ∃o es ep,h.get? a=some o/\o.ExactDict/\o.data=.dict es ep/\es.toList=xs.map (entryOfKey (tupleKind (GK P w)))/\(xs.map (·.1)).Nodup
 | .set S n=>h.SetOf (intKind P w) a S n
 | .ins C dx fs=>H dx=some (.own a)/\fs.length<=1000/\dx≠a/\h.get? a=some (instObj C dx) /\
   ∃mA,h.Ns1 dx mA/\(∀f,Ks (fs.lookup f) (mA f))/\PySem.Within mA (fs.map (·.1))
 | .own _=>∃o,h.get? a=some o
 | .xd fs=>∃mA,h.Ns1 a mA/\∀f,Ks (fs.lookup f) (mA f)
 | .rng lo hi=>∃t u v,h.get? a=some { cls:=.type "range",data:=.fields #[.int lo t,.int hi u,.int 1 v] }
 | .frz o u=>h.get? a=some o/\BZ H h a u
 | .tbl ps=>h.get? a=some { cls:=.none,data:=.fields ps }
 | .met f x=>h.get? a=some (PySem.W.methodObj (.ref f) (.ref x))
 | .ext φ=>φ h/\(∃o,h.get? a=some o)/\∀h1 h2:Heap,φ h1->(∀o,h1.get? a=some o->h2.get? a=some o)->φ h2
def HOk (H:Hp) (h:Heap):Prop:=∀a o,H a=some o->BZ P w H h a o
end
section
variable {P:Program} {w:World} {H H':Hp} {h h':Heap} {a:Addr} {o:HO}
theorem BZ.lt (x:BZ P w H h a o):a < h.objs.size:=by
 cases o with
 | lst xs=>obtain⟨_,_,_,_,e⟩:=x;exact QbM e
 | tup xs=>obtain⟨_,_,_,p⟩:=x;exact p.lt
 | dK kvs=>obtain⟨_,_,_,_,o,_,_,e,_⟩:=x;exact QbM e
 | dT kvs=>obtain⟨_,_,_,_,o,_,_,e,_⟩:=x;exact QbM e
 | set S n=>obtain⟨o,_,_,_,e,_⟩:=x;exact QbM e
 | ins C dx fs=>obtain⟨_,_,_,e,_⟩:=x;exact QbM e
 | own y=>obtain⟨_,e⟩:=x;exact QbM e
 | xd fs=>obtain⟨_,⟨_,_,_,e,_⟩,_⟩:=x;exact QbM e
 | rng lo hi=>obtain⟨_,_,_,e⟩:=x;exact QbM e
 | frz ob u=>obtain⟨e,_⟩:=x;exact QbM e
 | tbl ps=>exact QbM (show h.get? a=some _ from x)
 | met f y=>exact QbM (show h.get? a=some _ from x)
 | ext φ=>obtain⟨_,⟨_,e⟩,_⟩:=x;exact QbM e
theorem Paired.Df {α β : Type} {F G:α->β->Prop}:∀{l₁ : List α} {l₂ : List β},Paired F l₁ l₂->(∀a b,F a b->G a b)->Paired G l₁ l₂
 | _,_,.nil,_=>.nil
 | _,_,.cons r t,f=>.cons (f _ _ r) (Paired.Df t f)
theorem BZ.stay (x:BZ P w H h a o) (k:∀b u,(b=a\/H b=some (.own a))->h.get? b=some u->h'.get? b=some u)
  (ho:∀b,H b=some (.own a)->H' b=some (.own a)) (ht:∀b xs,H b=some (.tup xs)->H' b=some (.tup xs)):BZ P w H' h' a o:=by
 induction o with
 | lst xs=>obtain⟨z,its,n,r,e⟩:=x;exact⟨z,its,n,r,k _ _ (.inl rfl) e⟩
 | tup xs=>obtain⟨z,its,r,ob,e,c⟩:=x;exact⟨z,its,r,ob,k _ _ (.inl rfl) e,c⟩
 | dK kvs=>obtain⟨z,y,vs,r,ob,es,ep,e,c⟩:=x;exact⟨z,y,vs,r,ob,es,ep,k _ _ (.inl rfl) e,c⟩
 | dT kvs=>
  obtain⟨z,y,xs,r,ob,es,ep,e,c⟩:=x;exact⟨z,y,xs,Paired.Df r λp q z=>⟨z.1,ht _ _ z.2.1,z.2.2⟩,ob,es,ep,k _ _ (.inl rfl) e,c⟩
 | set S n=>obtain⟨ob,es,ep,t,e,c⟩:=x;exact⟨ob,es,ep,t,k _ _ (.inl rfl) e,c⟩
 | ins C dx fs=>
  obtain⟨d,z,ne,e,mA,⟨od,es,ep,e2,c⟩,r⟩:=x;exact⟨ho _ d,z,ne,k _ _ (.inl rfl) e,mA,⟨od,es,ep,k _ _ (.inr d) e2,c⟩,r⟩
 | own y=>obtain⟨ob,e⟩:=x;exact⟨ob,k _ _ (.inl rfl) e⟩
 | xd fs=>obtain⟨mA,⟨od,es,ep,e,c⟩,r⟩:=x;exact⟨mA,⟨od,es,ep,k _ _ (.inl rfl) e,c⟩,r⟩
 | rng lo hi=>obtain⟨t,u,v,e⟩:=x;exact⟨t,u,v,k _ _ (.inl rfl) e⟩
 | frz ob u ih=>obtain⟨e,q⟩:=x;exact⟨k _ _ (.inl rfl) e,ih q⟩
 | tbl ps=>
  have e:h.get? a=some { cls:=.none,data:=.fields ps }:=x;show h'.get? a=some { cls:=.none,data:=.fields ps };exact k a _ (.inl rfl) e
 | met f y=>
  have e:h.get? a=some (PySem.W.methodObj (.ref f) (.ref y)):=x;show h'.get? a=some (PySem.W.methodObj (.ref f) (.ref y));exact k a _ (.inl rfl) e
 | ext φ=>obtain⟨p,⟨o,e⟩,st⟩:=x;exact⟨st _ _ p λo q=>k _ _ (.inl rfl) q,⟨o,k _ _ (.inl rfl) e⟩,st⟩
theorem HOk.lt (x:HOk P w H h) (e:H a=some o):a < h.objs.size:=(x a o e).lt
theorem HOk.fresh (x:HOk P w H h) (e:h.objs.size<=a):H a=none:=by
 cases q:H a with
 | none=>rfl
 | some u=>exact absurd (QaL (x.lt q) e) (QbH _)
theorem HOk.kept (x:HOk P w H h) (k:∀b u,h.get? b=some u->h'.get? b=some u):HOk P w H h':=λa o e=>
 (x a o e).stay (λb u _ q=>k b u q) (λ_ q=>q) λ_ _ q=>q
theorem HOk.laid (x:HOk P w H h) (k:∀b u,h.get? b=some u->h'.get? b=some u) (hp:h.objs.size<=a) (new:BZ P w (upd H a o) h' a o):HOk P w (upd H a o) h':=λb u e=>by
 have hn:=x.fresh hp;by_cases hb:b=a
 ·subst hb;rw[Ad] at e;cases e;exact new
 ·rw[Bd hb] at e;exact (x b u e).stay (λc v _ q=>k c v q) (λc q=>by rw[Bd (Aw q hn)];exact q) λc xs q=>by rw[Bd (Aw q hn)];exact q
end
def Rd (H:Hp) (a:Addr) (u:HO):Prop:=H a=some u\/∃o,H a=some (.frz o u)
theorem Rd.of {H:Hp} {a:Addr} {u:HO} (h:H a=some u):Rd H a u:=.inl h
theorem Rd.ok {P:Program} {w:World} {H:Hp} {h:Heap} {a:Addr} {u:HO} (r:Rd H a u) (x:HOk P w H h):BZ P w H h a u:=by
 rcases r with r |⟨o,r⟩
 ·exact x a u r
 ·obtain⟨_,q⟩:=x a _ r;exact q
def Mut:Option HO->Prop
 | some (.lst _)=>True
 | some (.dK _)=>True
 | some (.dT _)=>True
 | some (.set _ _)=>True
 | some (.ins _ _ _)=>True
 | some (.ext _)=>True
 | _=>False
section
variable {P:Program} {w:World} {H:Hp} {h h':Heap} {x e:Addr} {o':HO}
theorem HOk.write (ok:HOk P w H h) (mu:Mut (H x)) (he:e=x\/H e=some (.own x)) (k:∀b u,b≠e->h.get? b=some u->h'.get? b=some u) (heo:∃u,h'.get? e=some u)
  (new:BZ P w (upd H x o') h' x o'):HOk P w (upd H x o') h':=λb u q=>by
 have cM:∀c y,H c=some (.own y)->c≠x:=λc y r z=>by subst z;rw[r] at mu;exact mu
 have DW:∀c xs,H c=some (.tup xs)->c≠x:=λc xs r z=>by subst z;rw[r] at mu;exact mu
 by_cases hb:b=x
 ·subst hb;rw[Ad] at q;cases q;exact new
 ·rw[Bd hb] at q;by_cases hbe:b=e
  ·have q':H b=some (.own x):=by
    rcases he with z | z
    ·exact absurd (hbe.trans z) hb
    ·rw[hbe];exact z
   rw[q] at q';cases q';obtain⟨v,hv⟩:=heo;exact⟨v,by rw[hbe];exact hv⟩
  ·refine (ok b u q).stay (λc v hc r=>k c v ?_ r) (λc r=>by rw[Bd (cM c b r)];exact r) λc xs r=>by rw[Bd (DW c xs r)];exact r
   rcases hc with rfl | hc
   ·exact hbe
   ·rintro rfl;rcases he with z | z
    ·exact cM c b hc z
    ·rw[hc] at z;cases z;exact hb rfl
end
structure Un (fs ex:List Addr) (H H':Hp) (h h':Heap):Prop where
 keep:∀b o,h.get? b=some o->H b=none->b∉fs->b∉ex->h'.get? b=some o
 slot:∀b o,h.get? b=some o->H b=none->b∈fs->b∉ex->∃sl,h'.get? b=some { o with slots:=sl }
 free:∀b o,h.get? b=some o->H b=none->b∉ex->H' b=none
 there:∀b o,h.get? b=some o->b∉ex->∃o',h'.get? b=some o'
 tups:∀b xs,H b=some (.tup xs)->H' b=some (.tup xs)
 Gy:∀b o u,H b=some (.frz o u)->H' b=some (.frz o u)
 GR:∀b ps,H b=some (.tbl ps)->∃more,H' b=some (.tbl (ps++more))
section
variable {fs fs' ex ex':List Addr} {H H1 H2:Hp} {h h1 h2 h':Heap} {a x e:Addr} {o:HO}
theorem Un.any (u:Un fs ex H H1 h h1) {b:Addr} {ob:Obj} (q:h.get? b=some ob) (n:H b=none) (hx:b∉ex):∃sl,h1.get? b=some { ob with slots:=sl }:=by
 by_cases hb:b∈fs
 ·exact u.slot b ob q n hb hx
 ·exact⟨ob.slots,u.keep b ob q n hb hx⟩
theorem Un.trans (a:Un fs ex H H1 h h1) (b:Un fs ex H1 H2 h1 h2):Un fs ex H H2 h h2 where
 keep:=λc ob q n hc hx=>b.keep c ob (a.keep c ob q n hc hx) (a.free c ob q n hx) hc hx
 slot:=λc ob q n hc hx=>by
  obtain⟨sl,e1⟩:=a.slot c ob q n hc hx;obtain⟨sl',e2⟩:=b.slot c _ e1 (a.free c ob q n hx) hc hx;exact⟨sl',e2⟩
 free:=λc ob q n hx=>by
  obtain⟨o',e1⟩:=a.there c ob q hx;exact b.free c o' e1 (a.free c ob q n hx) hx
 there:=λc ob q hx=>by
  obtain⟨o',e1⟩:=a.there c ob q hx;exact b.there c o' e1 hx
 tups:=λc xs q=>b.tups c xs (a.tups c xs q)
 Gy:=λc ob xs q=>b.Gy c ob xs (a.Gy c ob xs q)
 GR:=λc ps q=>by
  obtain⟨m1,e1⟩:=a.GR c ps q;obtain⟨m2,e2⟩:=b.GR c _ e1;exact⟨m1++m2,by rw[e2,Array.append_assoc]⟩
theorem Un.kept (k:∀b u,h.get? b=some u->h'.get? b=some u):Un fs ex H H h h':=
 ⟨λb ob q _ _ _=>k b ob q,λb ob q _ _ _=>⟨ob.slots,k b ob q⟩,λ_ _ _ n _=>n,λb ob q _=>⟨ob,k b ob q⟩,λ_ _ q=>q,λ_ _ _ q=>q,λ_ ps q=>⟨#[],by rw[q];simp⟩⟩
theorem Un.refl:Un fs ex H H h h:=Un.kept λ_ _ q=>q
theorem Un.laid (k:∀b u,h.get? b=some u->h'.get? b=some u) (hp:h.objs.size<=a) (hn:H a=none):Un fs ex H (upd H a o) h h' where
 keep:=λb u q _ _ _=>k b u q
 slot:=λb u q _ _ _=>⟨u.slots,k b u q⟩
 free:=λb u q n _=>by rw[Bd (QbN (QaL (QbM q) hp))];exact n
 there:=λb u q _=>⟨u,k b u q⟩
 tups:=λb xs q=>by rw[Bd (Aw q hn)];exact q
 Gy:=λb u xs q=>by rw[Bd (Aw q hn)];exact q
 GR:=λb ps q=>⟨#[],by rw[Bd (Aw q hn),q];simp⟩
theorem Un.write (mu:Mut (H x)) (he:e=x\/H e=some (.own x)) (k:∀b u,b≠e->h.get? b=some u->h'.get? b=some u) (heo:∃u,h'.get? e=some u):Un fs ex H (upd H x o) h h':=by
 have hx:∀b,H b=none->b≠x:=λb n z=>by subst z;rw[n] at mu;exact mu
 have hb:∀b,H b=none->b≠e:=λb n z=>by
  subst z;rcases he with r | r
  ·exact hx b n r
  ·rw[n] at r;cases r
 have hm:∀b u,H b=some u->¬Mut (some u)->b≠x:=λb u q nm z=>by subst z;rw[q] at mu;exact nm mu
 refine⟨λb u q n _ _=>k b u (hb b n) q,λb u q n _ _=>⟨u.slots,k b u (hb b n) q⟩,λb u q n _=>by rw[Bd (hx b n)];exact n,λb u q _=>?_,
  λb xs q=>by rw[Bd (hm b _ q λz=>z)];exact q,λb u xs q=>by rw[Bd (hm b _ q λz=>z)];exact q,λb ps q=>⟨#[],by rw[Bd (hm b _ q λz=>z),q];simp⟩⟩
 by_cases hbe:b=e
 ·subst hbe;exact heo
 ·exact⟨u,k b u hbe q⟩
theorem Un.mono (u:Un fs ex H H1 h h1) (hs:∀b∈fs,b∈fs') (hx:∀b∈ex,b∈ex'):Un fs' ex' H H1 h h1:=
 ⟨λb ob q n hb he=>u.keep b ob q n (λz=>hb (hs b z)) λz=>he (hx b z),λ_ _ q n _ he=>u.any q n λz=>he (hx _ z),λb ob q n he=>u.free b ob q n λz=>he (hx b z),λb ob q he=>u.there b ob q λz=>he (hx b z),u.tups,u.Gy,u.GR⟩
end
def trk (h:Heap) (H:Hp):List Addr:=(List.range h.objs.size).filter λa=>(H a).isSome
def Kl (h:Heap) (H:Hp):Heap:=hideAll h (trk h H)
theorem Xe (h:Heap) (H:Hp):(Kl h H).objs.size=h.objs.size:=PySem.W.hideAll_size _ _
theorem Y6 {h:Heap} {H:Hp} {b:Addr} {o:Obj} (e:h.get? b=some o) (n:H b=none):(Kl h H).get? b=some o:=
 hideAll_get _ e λhm=>by
  have q:(H b).isSome=true:=(List.mem_filter.mp hm).2;rw[n] at q;simp at q
theorem aJ {h:Heap} {H:Hp} {b:Addr} {o:Obj} (e:(Kl h H).get? b=some o):h.get? b=some o/\H b=none:=by
 have e':h.get? b=some o:=PySem.W.of_hideAll (trk h H) e;refine⟨e',?_⟩;cases q:H b with
 | none=>rfl
 | some x=>
  have hm:b∈trk h H:=List.mem_filter.mpr ⟨List.mem_range.mpr (QbM e'),by simp[q]⟩;have z:(Kl h H).get? b=none:=PySem.W.hideAll_none (trk h H) hm;rw[z] at e;cases e
def bh (g h:Heap) (L:Addr):YC:=(List.range h.objs.size).filterMap λa=>if a=L\/(g.get? a).isSome=true then none else (h.get? a).map λo=>(a,o)
def rest (g h:Heap) (L d:Addr):YC:=(bh g h L).filter λp=>decide (p.1≠d)
structure Mod (K:YD) (mg:YB) (base:Heap):Prop where
 kin:K.In base
 glob:base.Ns mainGlobals mg
 blt:∃mb,base.Ns builtinsNs mb/\∀x:Str,x≠"__name__"->mb x=bootBuiltins x
 nolimit:base.NoLimit
structure Cx where
 prog:Program
 w:World
 K:YD
 mg:YB
 base:Heap
 A:Around
 N:YF
 s₀ : Shared
 H₀ : Hp
 env:Env
 outer:List Env
 stack:List Env
 ex:List Addr
 fn:Str->Bool
 calm:Bool
 pn:YC
 xe:YA
def frs (l:List Env):List Addr:=l.filterMap (·.frame)
abbrev Cx.fs (X:Cx):List Addr:=frs X.outer
def Vis (sc:Scope) (x:Str):Prop:=sc.names.lookup x=some .local\/sc.names.lookup x=some .cell\/sc.names.lookup x=some .free
def Loc (sc:Scope) (x:Str):Prop:=sc.names.lookup x=some .local\/sc.names.lookup x=some .cell
def Look (env:Env) (h:Heap) (m:YB) (x:Str) (u:Value):Prop:=
 (env.kindOf x=some .local/\m x=some u)\/((env.kindOf x=some .cell\/env.kindOf x=some .free)/\∃c,env.cells.lookup x=some c/\h.IsCell c (some u))
structure Cx.Ok (X:Cx):Prop where
 mod:Mod X.K X.mg X.base
 kind:X.env.scope.kind=.function
 glob:X.env.globals=mainGlobals
 blt:X.env.builtins=builtinsNs
 above:X.s₀.heap.objs.size<=X.env.locals
 inj:∀x y c,X.env.cells.lookup x=some c->X.env.cells.lookup y=some c->x=y
 has:∀x,(X.env.kindOf x=some .cell\/X.env.kindOf x=some .free)->∃c,X.env.cells.lookup x=some c
 cab:∀x c,X.fn x=true->X.env.cells.lookup x=some c->X.s₀.heap.objs.size<=c
 hd:X.calm=true->X.A.handled=none
 frames:X.A.frames=some X.stack
 stk:X.stack=X.outer\/(X.stack=X.env::X.outer/\X.env.frame=some X.env.locals)
 exf:∀b∈X.ex,b≠X.env.locals/\∀x c,X.env.cells.lookup x=some c->c≠b
 bs:∀b o,X.base.get? b=some o->X.s₀.heap.get? b=some o/\X.H₀ b=none
 bsz:X.base.objs.size<=X.s₀.heap.objs.size
 Ow:∀b o,X.base.get? b=some o->b∉X.ex
 M6:∀b∈X.ex,b∉X.fs
 Hr:X.s₀.heap.FunFrames X.base X.outer
 frf:∀b∈X.fs,X.H₀ b=none
structure Inv (X:Cx) (jb:YC) (U : List (Option V)) (H:Hp) (s:Shared):Prop where
 ok:X.Ok
 os:s.os=X.s₀.os
 bare:AllBare s.gens
 base:Un X.fs X.ex X.H₀ H X.s₀.heap s.heap
 loc:∃m,s.heap.Ns X.env.locals m/\∀(i:Nat) (x:Str) (v:V),X.N[i]?=some x->U[i]?=some (some v)->Vis X.env.scope x->∃u,RelV v u/\Look X.env s.heap m x u
 cell:∀x c,X.env.cells.lookup x=some c->∃v,s.heap.IsCell c v
 free:H X.env.locals=none
 Gv:∀x c,X.env.cells.lookup x=some c->H c=none
 pin:∀p∈X.pn++jb,s.heap.get? p.1=some p.2/\H p.1=none/\p.1≠X.env.locals/\p.1∉X.fs/\∀v,p.2.data≠.cell v
 hok:HOk X.prog X.w H s.heap
 len:U.length=X.N.length
section
variable {X:Cx} {jb:YC} {U : List (Option V)} {H H':Hp} {s:Shared} {h':Heap}
theorem Cx.Ok.iB (ok:X.Ok) {b:Addr} {o:Obj} (e:X.base.get? b=some o):b∉X.fs:=λhb=>by
 have:=(ok.Hr.mem hb).1;rw[e] at this;cases this
theorem Inv.bs (I:Inv X jb U H s):∀b o,X.base.get? b=some o->s.heap.get? b=some o/\H b=none:=λb o e=>
 ⟨I.base.keep b o (I.ok.bs b o e).1 (I.ok.bs b o e).2 (I.ok.iB e) (I.ok.Ow b o e),I.base.free b o (I.ok.bs b o e).1 (I.ok.bs b o e).2 (I.ok.Ow b o e)⟩
theorem Inv.bk (I:Inv X jb U H s):∀b o,X.base.get? b=some o->s.heap.get? b=some o:=λb o e=>(I.bs b o e).1
theorem Inv.mod (I:Inv X jb U H s):Mod X.K X.mg X.base:=I.ok.mod
theorem Inv.kIn (I:Inv X jb U H s):X.K.In s.heap:=I.ok.mod.kin.keeps I.bk
theorem Inv.nolimit (I:Inv X jb U H s):s.heap.NoLimit:=I.ok.mod.nolimit.keeps I.bk
theorem Inv.fr (I:Inv X jb U H s):∃m,Fr X.base X.env.locals s.heap m:=
 let ⟨m,hn,_⟩:=I.loc
 ⟨m,hn,I.bk,QbO I.ok.bsz I.ok.above⟩
theorem Inv.lt (I:Inv X jb U H s):X.env.locals < s.heap.objs.size:=let ⟨_,hn,_⟩:=I.loc;hn.lt
theorem Inv.sz (I:Inv X jb U H s):X.s₀.heap.objs.size<=s.heap.objs.size:=QbO I.ok.above (Nat.le_of_lt I.lt)
theorem Inv.cN (I:Inv X jb U H s) {a:Addr} (h:s.heap.objs.size<=a):a∉X.fs:=λhb=>by
 obtain⟨_,o,ho,_⟩:=I.ok.Hr.mem hb;exact absurd (QaL (QbM ho) (QbO I.sz h)) (QbH _)
theorem Inv.cne (I:Inv X jb U H s):∀x c,X.env.cells.lookup x=some c->c≠X.env.locals:=λx c e z=>by
 obtain⟨v,o,ho,hd⟩:=I.cell x c e;obtain⟨m,⟨o',es,ep,ho',hd',_⟩,_⟩:=I.loc;rw[z,ho'] at ho;cases ho;rw[hd'] at hd;cases hd
theorem Inv.Hr (I:Inv X jb U H s):s.heap.FunFrames X.base X.outer:=by
 have all:∀(l:List Env),(∀b∈frs l,b∈X.fs)->X.s₀.heap.FunFrames X.base l->s.heap.FunFrames X.base l:=by
  intro l
  induction l with
  | nil=>intro _ _;trivial
  | cons env r ih=>
   intro hs hl;obtain⟨hk,⟨L,o,hf,hn,ho,hd⟩,hr⟩:=hl;have hL:L∈X.fs:=hs L (by unfold frs;rw[QaE,hf];exact QaH);obtain⟨sl,e⟩:=I.base.slot L o ho (I.ok.frf L hL) hL λz=>I.ok.M6 L z hL;exact⟨hk,⟨L,_,hf,hn,e,hd⟩,ih (λb hb=>hs b (by unfold frs;rw[QaE,hf];exact Qav _ hb)) hr⟩
 exact all X.outer (λ_ hb=>hb) I.ok.Hr
theorem Inv.stack (I:Inv X jb U H s):s.heap.FunFrames X.base X.stack:=by
 rcases I.ok.stk with e |⟨e,hf⟩
 ·rw[e];exact I.Hr
 ·rw[e];obtain⟨m,hn,_⟩:=I.loc;refine .cons (by rw[I.ok.kind];decide) hf hn ?_ I.Hr;exact Heap.get?_none_of_le (QbO I.ok.bsz I.ok.above)
theorem Inv.QK (I:Inv X jb U H s):∀b∈frs X.stack,b∈X.env.locals::X.fs:=λb hb=>by
 rcases I.ok.stk with e |⟨e,hf⟩
 ·rw[e] at hb;exact Qav _ hb
 ·rw[e] at hb;unfold frs at hb;rw[QaE,hf] at hb;exact hb
theorem Inv.Oc (I:Inv X jb U H s):∀b∈frs X.stack,H b=none:=λb hb=>by
 rcases QbD.mp (I.QK b hb) with e | hb
 ·rw[e];exact I.free
 ·obtain⟨_,o,ho,_⟩:=I.ok.Hr.mem hb;exact I.base.free b o ho (I.ok.frf b hb) λz=>I.ok.M6 b z hb
theorem Inv.step {g':Array GenState} {t':Nat} {d':Drawn} {ch:List Addr} (I:Inv X jb U H s)
  (hch:∀b∈ch,(b∈X.ex\/X.s₀.heap.objs.size<=b)/\b≠X.env.locals/\(∀x c,X.env.cells.lookup x=some c->c≠b)/\∀p∈X.pn++jb,p.1≠b)
  (keep:∀b o,b≠X.env.locals->b∉X.fs->b∉ch->s.heap.get? b=some o->H b=none->h'.get? b=some o)
  (slot:∀b o,b≠X.env.locals->b∈X.fs->b∉ch->s.heap.get? b=some o->H b=none->∃sl,h'.get? b=some { o with slots:=sl }) (free:∀b o,b∉ch->s.heap.get? b=some o->H b=none->H' b=none)
  (there:∀b o,b∉ch->s.heap.get? b=some o->∃o',h'.get? b=some o')
  (tups:∀b xs,H b=some (.tup xs)->H' b=some (.tup xs)) (Gy:∀b o u,H b=some (.frz o u)->H' b=some (.frz o u)) (GR:∀b ps,H b=some (.tbl ps)->∃more,H' b=some (.tbl (ps++more)))
  (ns:∀m,s.heap.Ns X.env.locals m->h'.Ns X.env.locals m) (hok:HOk X.prog X.w H' h') (hg:AllBare g') :
  Inv X jb U H' { s with heap:=h',gens:=g',drawn:=d',toks:=t' }:=by
 have neL:∀b o,X.s₀.heap.get? b=some o->b≠X.env.locals:=λb o e=>QbN (QaL (QbM e) I.ok.above);have neC:∀b o,X.s₀.heap.get? b=some o->b∉X.ex->b∉ch:=λb o e hx hb=>by
  rcases (hch b hb).1 with z | z
  ·exact hx z
  ·exact absurd (QaL (QbM e) z) (QbH _)
 have cellK:∀x c,X.env.cells.lookup x=some c->∀v,s.heap.IsCell c v->h'.IsCell c v:=λx c e v ⟨o,ho,hd⟩=>by
  have nch:c∉ch:=λz=>(hch c z).2.2.1 x c e rfl;by_cases hc:c∈X.fs
  ·obtain⟨sl,q⟩:=slot c o (I.cne x c e) hc nch ho (I.Gv x c e);exact⟨_,q,hd⟩
  ·exact⟨o,keep c o (I.cne x c e) hc nch ho (I.Gv x c e),hd⟩
 refine⟨I.ok,I.os,hg,⟨λb o e n hb hx=>?_,λb o e n hb hx=>?_,λb o e n hx=>?_,λb o e hx=>?_,λb xs e=>tups b xs (I.base.tups b xs e),λb o xs e=>Gy b o xs (I.base.Gy b o xs e),λb ps e=>?_⟩,?_,λx c e=>?_,?_,λx c e=>?_,λp hp=>?_,hok,I.len⟩
 ·exact keep b o (neL b o e) hb (neC b o e hx) (I.base.keep b o e n hb hx) (I.base.free b o e n hx)
 ·obtain⟨sl,e1⟩:=I.base.slot b o e n hb hx;obtain⟨sl',e2⟩:=slot b _ (neL b o e) hb (neC b o e hx) e1 (I.base.free b o e n hx);exact⟨sl',e2⟩
 ·obtain⟨o',e1⟩:=I.base.there b o e hx;exact free b o' (neC b o e hx) e1 (I.base.free b o e n hx)
 ·obtain⟨o',e1⟩:=I.base.there b o e hx;exact there b o' (neC b o e hx) e1
 ·obtain⟨m1,e1⟩:=I.base.GR b ps e;obtain⟨m2,e2⟩:=GR b _ e1;exact⟨m1++m2,by rw[e2,Array.append_assoc]⟩
 ·obtain⟨m,hn,hl⟩:=I.loc;refine⟨m,ns m hn,λi x v e1 e2 e3=>?_⟩;obtain⟨u,r,l⟩:=hl i x v e1 e2 e3;refine⟨u,r,?_⟩;rcases l with l |⟨k,c,e,z⟩
  ·exact .inl l
  ·exact .inr ⟨k,c,e,cellK x c e _ z⟩
 ·obtain⟨v,z⟩:=I.cell x c e;exact⟨v,cellK x c e v z⟩
 ·obtain⟨m,⟨o,_,_,ho,_⟩,_⟩:=I.loc;exact free _ o (λz=>(hch _ z).2.1 rfl) ho I.free
 ·obtain⟨v,o,ho,hd⟩:=I.cell x c e;exact free c o (λz=>(hch c z).2.2.1 x c e rfl) ho (I.Gv x c e)
 ·obtain⟨e,n,ne,nf,d⟩:=I.pin p hp;have nch:p.1∉ch:=λz=>(hch p.1 z).2.2.2 p hp rfl;exact⟨keep p.1 p.2 ne nf nch e n,free p.1 p.2 nch e n,ne,nf,d⟩
theorem Inv.un {t':Nat} (I:Inv X jb U H s) (u:Un X.fs [] H H' s.heap h') (hok:HOk X.prog X.w H' h'):Inv X jb U H' { s with heap:=h',toks:=t' }:=by
 obtain⟨m,⟨o,es,ep,ho,r⟩,_⟩:=id I.loc;obtain⟨sl,hL⟩:=u.any ho I.free (by simp);exact I.step (g':=s.gens) (d':=s.drawn) (ch:=[]) (λ_ z=>nomatch z) (λb o _ hb _ e n=>u.keep b o e n hb (by simp)) (λb o _ hb _ e n=>u.slot b o e n hb (by simp)) (λb o _ e n=>u.free b o e n (by simp)) (λb o _ e=>u.there b o e (by simp)) u.tups u.Gy u.GR (λm' hm=>by
  obtain⟨o',es',ep',ho',r'⟩:=hm;rw[ho] at ho';cases ho';exact⟨_,es',ep',hL,r'⟩) hok I.bare
theorem Inv.call {g':Array GenState} {t':Nat} {d':Drawn} {ch:List Addr} (I:Inv X jb U H s) (u:Un (frs X.stack) ch H H' s.heap h') (hok:HOk X.prog X.w H' h') (hg:AllBare g')
  (hch:∀b∈ch,(b∈X.ex\/X.s₀.heap.objs.size<=b)/\b≠X.env.locals/\(∀x c,X.env.cells.lookup x=some c->c≠b)/\∀p∈X.pn++jb,p.1≠b) :
  Inv X jb U H' { s with heap:=h',gens:=g',drawn:=d',toks:=t' }:=by
 obtain⟨m,⟨o,es,ep,ho,r⟩,_⟩:=id I.loc;obtain⟨sl,hL⟩:=u.any ho I.free λz=>(hch _ z).2.1 rfl;exact I.step (ch:=ch) hch (λb o hL hb hc e n=>u.keep b o e n (λz=>(QbD.mp (I.QK b z)).elim hL hb) hc) (λb o _ _ hc e n=>u.any e n hc) (λb o hc e n=>u.free b o e n hc) (λb o hc e=>u.there b o e hc) u.tups u.Gy u.GR (λm' hm=>by
  obtain⟨o',es',ep',ho',r'⟩:=hm;rw[ho] at ho';cases ho';exact⟨_,es',ep',hL,r'⟩) hok hg
theorem Inv.turned {t':Nat} {it:Addr} (I:Inv X jb U H s) (k:∀b o,b≠it->s.heap.get? b=some o->h'.get? b=some o) (hn:H it=none) (hL:it≠X.env.locals)
  (h1:it∈X.ex\/X.s₀.heap.objs.size<=it) (h2:∀x c,X.env.cells.lookup x=some c->c≠it) (h3:∀p∈X.pn++jb,p.1≠it):Inv X jb U H { s with heap:=h',toks:=t' }:=by
 have nit:∀b u,H b=some u->b≠it:=λb u e z=>by rw[z,hn] at e;cases e
 refine I.step (g':=s.gens) (d':=s.drawn) (ch:=[it]) (λb hb=>?_) (λb o _ _ hc e _=>k b o (λz=>hc (by simp[z])) e) (λb o _ _ hc e _=>⟨o.slots,k b o (λz=>hc (by simp[z])) e⟩) (λ_ _ _ _ n=>n)
  (λb o hc e=>⟨o,k b o (λz=>hc (by simp[z])) e⟩) (λ_ _ e=>e) (λ_ _ _ e=>e) (λb ps e=>⟨#[],by rw[e];simp⟩) (λm hm=>?_) (λb u e=>?_) I.bare
 ·have e:b=it:=by simpa using hb
  subst e;exact⟨h1,hL,h2,h3⟩
 ·obtain⟨o,es,ep,ho,r⟩:=hm;exact⟨o,es,ep,k _ o (Ne.symm hL) ho,r⟩
 ·refine (I.hok b u e).stay (λc v hc q=>k c v ?_ q) (λ_ q=>q) λ_ _ q=>q;rcases hc with z | z
  ·rw[z];exact nit b u e
  ·exact nit c _ z
theorem Inv.tok (I:Inv X jb U H s) (t:Nat):Inv X jb U H { s with toks:=t }:=I.un (h':=s.heap) (t':=t) Un.refl I.hok
theorem Inv.kept {t':Nat} (I:Inv X jb U H s) (k:∀b u,s.heap.get? b=some u->h'.get? b=some u):Inv X jb U H { s with heap:=h',toks:=t' }:=I.un (Un.kept k) (I.hok.kept k)
theorem Inv.laid {a:Addr} {o:HO} {t':Nat} (I:Inv X jb U H s) (k:∀b u,s.heap.get? b=some u->h'.get? b=some u) (hp:s.heap.objs.size<=a) (new:BZ X.prog X.w (upd H a o) h' a o) :
  Inv X jb U (upd H a o) { s with heap:=h',toks:=t' }:=I.un (Un.laid k hp (I.hok.fresh hp)) (I.hok.laid k hp new)
theorem Inv.write {x e:Addr} {o:HO} {t':Nat} (I:Inv X jb U H s) (mu:Mut (H x)) (he:e=x\/H e=some (.own x)) (k:∀b u,b≠e->s.heap.get? b=some u->h'.get? b=some u) (heo:∃u,h'.get? e=some u)
  (new:BZ X.prog X.w (upd H x o) h' x o):Inv X jb U (upd H x o) { s with heap:=h',toks:=t' }:=I.un (Un.write mu he k heo) (I.hok.write mu he k heo new)
theorem Inv.weak {σ':List (Option V)} (I:Inv X jb U H s) (hl:σ'.length=U.length) (w:∀(i:Nat) v,σ'[i]?=some (some v)->U[i]?=some (some v)):Inv X jb σ' H s:=
 ⟨I.ok,I.os,I.bare,I.base,let ⟨m,hn,hl'⟩:=I.loc;⟨m,hn,λi x v e1 e2 e3=>hl' i x v e1 (w i v e2) e3⟩,I.cell,I.free,I.Gv,I.pin,I.hok,hl.trans I.len⟩
theorem Inv.Om {Vi:YC} (I:Inv X jb U H s) (h:∀p∈Vi,s.heap.get? p.1=some p.2/\H p.1=none/\p.1≠X.env.locals/\p.1∉X.fs/\∀v,p.2.data≠.cell v):Inv X Vi U H s:=
 ⟨I.ok,I.os,I.bare,I.base,I.loc,I.cell,I.free,I.Gv,λp hp=>(Qbm.mp hp).elim (λz=>I.pin p (Qaw _ z)) (h p),I.hok,I.len⟩
theorem Rw {N:YF} (hN:N.Nodup) {i j:Nat} {x:Str} (a:N[i]?=some x) (b:N[j]?=some x):i=j:=by
 obtain⟨h1,e1⟩:=Qaf.mp a;obtain⟨h2,e2⟩:=Qaf.mp b;exact (List.getElem_inj hN).mp (e1.trans e2.symm)
theorem Wi {M:Model} {A:Around} {E:YA} {i:Nat} {x:Str} {v:V} {u:Value} {Q:YH} (I:Inv X jb U H s) (hN:X.N.Nodup) (hi:X.N[i]?=some x) (hx:Loc X.env.scope x) (r:RelV v u)
  (h:∀s',Inv X jb (U.set i (some v)) H s'->(∃a,Heap.SameBut a s.heap s'.heap/\(a=X.env.locals\/X.env.cells.lookup x=some a))->Q () s') (hf:X.fn x=true\/X.env.scope.names.lookup x=some .local:=by first | exact .inl rfl | exact .inr rfl | assumption):wpAny M A (storeName X.env x u) Q E s:=by
 obtain⟨m,hn,hl⟩:=id I.loc;have hcls:(X.env.scope.kind == .class || (X.env.scope.kind == .module&&X.env.locals != X.env.globals))=false:=by rw[I.ok.kind];rfl
 have hiσ : i < U.length:=by rw[I.len];exact (Qaf.mp hi).1
 have cne:=I.cne;have tracked:∀{a:Addr} {h':Heap},(∃o,s.heap.get? a=some o/\H a=none)->Heap.SameBut a s.heap h'->HOk X.prog X.w H h':=λ{a h'} ha hs b ob e=>by
  obtain⟨_,_,hfree⟩:=ha;refine (I.hok b ob e).stay (λc w' hc q=>(hs.2 c ?_).trans q) (λ_ q=>q) λ_ _ q=>q;rintro rfl;rcases hc with rfl | hc
  ·rw[hfree] at e;cases e
  ·rw[hfree] at hc;cases hc
 rcases hx with hk | hk
 ·refine wpAny_storeName_local hk hn (λh' hn' hs=>?_) hcls;obtain⟨oL,_,_,hoL,_⟩:=id hn;refine h _ ⟨I.ok,I.os,I.bare,⟨λb o e n hb hx=>?_,λb o e n hb hx=>?_,I.base.free,λb o e hx=>?_,I.base.tups,I.base.Gy,I.base.GR⟩,⟨_,hn',λj y v' e1 e2 e3=>?_⟩,λy c e=>?_,I.free,I.Gv,λp hp=>?_,tracked ⟨oL,hoL,I.free⟩ hs,by simpa using I.len⟩ ⟨_,hs,.inl rfl⟩
  ·exact (hs.2 b (QbN (QaL (QbM e) I.ok.above))).trans (I.base.keep b o e n hb hx)
  ·obtain⟨sl,e1⟩:=I.base.slot b o e n hb hx;exact⟨sl,(hs.2 b (QbN (QaL (QbM e) I.ok.above))).trans e1⟩
  ·obtain⟨o',e1⟩:=I.base.there b o e hx;exact⟨o',(hs.2 b (QbN (QaL (QbM e) I.ok.above))).trans e1⟩
  ·by_cases hj:j=i
   ·subst hj;rw[hi] at e1;cases e1;rw[List.getElem?_set_self hiσ] at e2;cases e2;exact⟨u,r,.inl ⟨hk,by simp⟩⟩
   ·rw[List.getElem?_set_ne (Ne.symm hj)] at e2;obtain⟨u',r',q⟩:=hl j y v' e1 e2 e3;refine⟨u',r',?_⟩;rcases q with⟨k,e⟩|⟨k,c,e,z⟩
    ·refine .inl ⟨k,?_⟩;have:y≠x:=λe=>hj (Rw hN e1 (e ▸ hi));simp[this,e]
    ·exact .inr ⟨k,c,e,z.sameBut hs (cne y c e)⟩
  ·obtain⟨w',z⟩:=I.cell y c e;exact⟨w',z.sameBut hs (cne y c e)⟩
  ·obtain⟨e,n,ne,nf,d⟩:=I.pin p hp;exact⟨(hs.2 p.1 ne).trans e,n,ne,nf,d⟩
 ·have hfn:X.fn x=true:=by
   rcases hf with z | z
   ·exact z
   ·rw[z] at hk;cases hk
  obtain⟨c,hc⟩:=I.ok.has x (.inl hk);obtain⟨w',z⟩:=I.cell x c hc;refine wpAny_storeName_cell I.ok.kind hk hc z (λh' hc' hs=>?_);obtain⟨oc,hoc,jW⟩:=id z;refine h { s with heap:=h' } ⟨I.ok,I.os,I.bare,⟨λb o e n hb hx=>?_,λb o e n hb hx=>?_,I.base.free,λb o e hx=>?_,I.base.tups,I.base.Gy,I.base.GR⟩,⟨m,hn.sameBut hs (Ne.symm (cne x c hc)),λj y v' e1 e2 e3=>?_⟩,λy c' e=>?_,I.free,I.Gv,λp hp=>?_,tracked ⟨oc,hoc,I.Gv x c hc⟩ hs,by simpa using I.len⟩ ⟨c,hs,.inr hc⟩
  ·exact (hs.2 b (QbN (QaL (QbM e) (I.ok.cab x c hfn hc)))).trans (I.base.keep b o e n hb hx)
  ·obtain⟨sl,e1⟩:=I.base.slot b o e n hb hx;exact⟨sl,(hs.2 b (QbN (QaL (QbM e) (I.ok.cab x c hfn hc)))).trans e1⟩
  ·obtain⟨o',e1⟩:=I.base.there b o e hx;exact⟨o',(hs.2 b (QbN (QaL (QbM e) (I.ok.cab x c hfn hc)))).trans e1⟩
  ·by_cases hj:j=i
   ·subst hj;rw[hi] at e1;cases e1;rw[List.getElem?_set_self hiσ] at e2;cases e2;exact⟨u,r,.inr ⟨.inl hk,c,hc,hc'⟩⟩
   ·rw[List.getElem?_set_ne (Ne.symm hj)] at e2;obtain⟨u',r',q⟩:=hl j y v' e1 e2 e3;refine⟨u',r',?_⟩;rcases q with q |⟨k,c',e,z'⟩
    ·exact .inl q
    ·refine .inr ⟨k,c',e,z'.sameBut hs ?_⟩;rintro rfl;exact hj (Rw hN e1 (I.ok.inj _ _ _ e hc ▸ hi))
  ·by_cases hcc:c'=c
   ·subst hcc;exact⟨_,hc'⟩
   ·obtain⟨w2,z2⟩:=I.cell y c' e;exact⟨w2,z2.sameBut hs hcc⟩
  ·obtain⟨e,n,ne,nf,d⟩:=I.pin p hp;refine⟨(hs.2 p.1 ?_).trans e,n,ne,nf,d⟩;intro q;rw[q,hoc] at e;have q':oc=p.2:=Qbp e;exact d w' (by rw[<-q'];exact jW)
theorem Mj {M:Model} {A:Around} {E:YA} {i:Nat} {x:Str} {v:V} {u:Value} {Q:YH} (I:Inv X jb U H s) (hN:X.N.Nodup) (hi:X.N[i]?=some x) (hx:Loc X.env.scope x) (r:RelV v u)
  (h:∀s',Inv X jb (U.set i (some v)) H s'->Q () s') (hf:X.fn x=true\/X.env.scope.names.lookup x=some .local:=by first | exact .inl rfl | exact .inr rfl | assumption):wpAny M A (storeName X.env x u) Q E s:=
 Wi I hN hi hx r (λs' I' _=>h s' I') hf
theorem Inv.call' {s':Shared} {ch:List Addr} (I:Inv X jb U H s) (ho:s'.os=s.os) (u:Un (frs X.stack) ch H H' s.heap s'.heap) (hok:HOk X.prog X.w H' s'.heap) (hg:AllBare s'.gens)
  (hch:∀b∈ch,(b∈X.ex\/X.s₀.heap.objs.size<=b)/\b≠X.env.locals/\(∀x c,X.env.cells.lookup x=some c->c≠b)/\∀p∈X.pn++jb,p.1≠b):Inv X jb U H' s':=by
 obtain⟨h',g',d',t',o'⟩:=s';have e:o'=s.os:=ho;subst e;exact I.call (g':=g') (t':=t') (d':=d') u hok hg hch
end
abbrev XK:=Value->Option Addr->Hp->Prop
abbrev St:=List (Option V)
abbrev VK:=V->Hp->Prop
abbrev TE:=St->Hp->VK->Prop
abbrev TT:=St->Hp->(Bool->Hp->Prop)->Prop
abbrev TA:=St->Hp->(YG->Hp->Prop)->Prop
structure Ends where
 nx:St->Hp->Prop
 rt:VK
 bk:St->Hp->Prop:=λ_ _=>False
 ct:St->Hp->Prop:=λ_ _=>False
abbrev YO:=St->Hp->Prop
abbrev TS:=Ends->YO
def EP (X:Cx) (jb:YC) (U : St) (Q:VK) (u:Value) (s':Shared):Prop:=∃v H',Inv X jb U H' s'/\RelV v u/\Q v H'
def TP (X:Cx) (jb:YC) (U : St) (Q:Bool->Hp->Prop) (b:Bool) (s':Shared):Prop:=∃H',Inv X jb U H' s'/\Q b H'
def AP (X:Cx) (jb:YC) (U : St) (Q:YG->Hp->Prop) (us:YE) (s':Shared):Prop:=∃vs H',Inv X jb U H' s'/\Vals vs us/\Q vs H'
def SP (X:Cx) (jb:YC) (D:Ends) (f:Flow) (s':Shared):Prop:=
 match f with
 | .next=>∃ σ' H',Inv X jb σ' H' s'/\D.nx σ' H'
 | .brk=>∃ σ' H',Inv X jb σ' H' s'/\D.bk σ' H'
 | .cont=>∃ σ' H',Inv X jb σ' H' s'/\D.ct σ' H'
 | .ret u=>∃v σ' H',Inv X jb σ' H' s'/\RelV v u/\D.rt v H'
def PE (X:Cx) (e:Expr) (t:TE):Prop:=
 ∀(jb:YC) (s:Shared) (U : St) (H:Hp) (Q:VK),Inv X jb U H s->t U H Q->wpAny (model X.prog X.w) X.A (eval e X.env) (EP X jb U Q) X.xe s
def PT (X:Cx) (e:Expr) (t:TT):Prop:=
 ∀(jb:YC) (s:Shared) (U : St) (H:Hp) (Q:Bool->Hp->Prop),Inv X jb U H s->t U H Q->wpAny (model X.prog X.w) X.A (isTrue e X.env (eval e X.env)) (TP X jb U Q) X.xe s
def PW (X:Cx) (e:Expr) (t:TT):Prop:=
 ∀(whole:Sem Value) (jb:YC) (s:Shared) (U : St) (H:Hp) (Q:Bool->Hp->Prop),Inv X jb U H s->t U H Q->wpAny (model X.prog X.w) X.A (isTrue e X.env whole) (TP X jb U Q) X.xe s
theorem PW.pt {X:Cx} {e:Expr} {t:TT} (h:PW X e t):PT X e t:=h _
def PA (X:Cx) (es:YJ) (t:TA):Prop:=
 ∀(pos:Pos) (jb:YC) (s:Shared) (U : St) (H:Hp) (Q:YG->Hp->Prop),Inv X jb U H s->t U H Q->wpAny (model X.prog X.w) X.A (spliced (backTo pos (starEach es X.env))) (AP X jb U Q) X.xe s
def PS (X:Cx) (st:Stmt) (t:TS):Prop:=
 ∀(jb:YC) (s:Shared) (U : St) (H:Hp) (D:Ends),Inv X jb U H s->t D U H->wpAny (model X.prog X.w) X.A (exec st X.env) (SP X jb D) X.xe s
def PSs (X:Cx) (st:List Stmt) (t:TS):Prop:=
 ∀(jb:YC) (s:Shared) (U : St) (H:Hp) (D:Ends),Inv X jb U H s->t D U H->wpAny (model X.prog X.w) X.A (execs st X.env) (SP X jb D) X.xe s
theorem thn {α : Type} {t:Sem α} {Q Q':α->Shared->Prop} {M:Model} {A:Around} {E:YA} {s:Shared} (h:wpAny M A t Q E s) (hQ:∀a s,Q a s->Q' a s):wpAny M A t Q' E s:=QbY h hQ λ_ _ x=>x
section
variable {X:Cx}
theorem bin {a b:Expr} {ta tb:TE} (ha:PE X a ta) (hb:PE X b tb) {jb:YC} {s:Shared} {U : St} {H:Hp} {R:V->V->Hp->Prop} (I:Inv X jb U H s) (h:ta U H λx H1=>tb U H1 λy H2=>R x y H2)
  {α : Type} {Q:α->Shared->Prop} {f:Value->Value->Sem α}
  (hf:∀v u s2 x y H2,Inv X jb U H2 s2->RelV x v->RelV y u->R x y H2->wpAny (model X.prog X.w) X.A (f v u) Q X.xe s2) :
  wpAny (model X.prog X.w) X.A (eval a X.env) (λv s₁=>wpAny (model X.prog X.w) X.A (eval b X.env) (λu s₂=>wpAny (model X.prog X.w) X.A (f v u) Q X.xe s₂) X.xe s₁) X.xe s:=by
 refine thn (ha jb s U H _ I h) λv s1 zz=>?_;obtain⟨x,H1,I1,r1,q1⟩:=zz;refine thn (hb jb s1 U H1 _ I1 q1) λu s2 zz=>?_;obtain⟨y,H2,I2,r2,q2⟩:=zz;exact hf v u s2 x y H2 I2 r1 r2 q2
def bJ (i:Nat):TE:=fun U H Q=>∃v,U[i]?=some (some v)/\Q v H
def tC (v:V):TE:=λ_ H Q=>Q v H
theorem cC {i:Nat} {x:Str} {pos:Pos} (hN:X.N[i]?=some x) (hv:Vis X.env.scope x) (hd:(x == ("__debug__":Str))=false:=by decide) (hcd:(x == ("__classdict__":Str))=false:=by decide):PE X (.Name x pos) (bJ i):=by
 intro jb s U H Q I h;obtain⟨v,e,h⟩:=h;obtain⟨m,hn,hl⟩:=I.loc;obtain⟨u,r,l⟩:=hl i x v hN e hv;have fin:EP X jb U Q u s:=⟨v,H,I,r,h⟩;rcases l with⟨hk,hm⟩|⟨hk,c,hc,hcell⟩
 ·exact wpAny_Name (wpAny_loadName_local I.ok.kind hk hn hm fin) hd
 ·rcases hk with hk | hk
  ·exact wpAny_Name (wpAny_loadName_cell I.ok.kind hk hc hcell fin) hd
  ·exact wpAny_Name (wpAny_loadName_free I.ok.kind hk hc hcell fin hcd) hd
theorem Ac {i j pos}:PE X (.Constant (.int i) j pos) (tC (.int i)):=λ_ _ _ H _ I h=>wpAny_Constant_int ⟨.int i,H,I.tok _,⟨_,rfl⟩,h⟩
theorem CJ {b j pos}:PE X (.Constant (.bool b) j pos) (tC (.bl b)):=λ_ _ _ H _ I h=>Constant_bool ⟨.bl b,H,I,rfl,h⟩
theorem cD {j pos}:PE X (.Constant .none j pos) (tC .non):=λ_ _ _ H _ I h=>Constant_none ⟨.non,H,I,rfl,h⟩
theorem Bp {x j pos}:PE X (.Constant (.str x) j pos) (tC (.str x)):=λ_ _ _ H _ I h=>Calls.Constant_str ⟨.str x,H,I.tok _,⟨_,rfl⟩,h⟩
def Gl (X:Cx) (x:Str):Prop:=X.env.kindOf x=some .globalImplicit
theorem Uk {E:YA} {jb:YC} {s:Shared} {U : St} {H:Hp} {x:Str} {u:Value} {pos:Pos} {Q:YA} (I:Inv X jb U H s) (hg:Gl X x) (hm:X.mg x=some u) (h:Q u s)
  (hd:(x == ("__debug__":Str))=false:=by decide):wpAny (model X.prog X.w) X.A (eval (.Name x pos) X.env) Q E s:=
 Calls.Name_function_global I.ok.kind hg (Calls.loadGlobal_global (by rw[I.ok.glob];exact I.mod.glob.keeps I.bk) hm h) hd
theorem Jl {E:YA} {jb:YC} {s:Shared} {U : St} {H:Hp} {x:Str} {u:Value} {pos:Pos} {Q:YA} (I:Inv X jb U H s) (hg:Gl X x) (hm:X.mg x=none) (hv:bootBuiltins x=some u) (h:Q u s)
  (hn:x≠"__name__":=by decide) (hd:(x == ("__debug__":Str))=false:=by decide):wpAny (model X.prog X.w) X.A (eval (.Name x pos) X.env) Q E s:=by
 obtain⟨mb,h1,h2⟩:=I.mod.blt;exact Calls.Name_function_global I.ok.kind hg (Calls.loadGlobal_builtin (by rw[I.ok.glob];exact I.mod.glob.keeps I.bk) hm (by rw[I.ok.blt];exact h1.keeps I.bk) ((h2 x hn).trans hv) h) hd
theorem ao {x:Str} {v:V} {u:Value} {pos:Pos} (hg:Gl X x) (hm:X.mg x=some u) (r:RelV v u) (hd:(x == ("__debug__":Str))=false:=by decide):PE X (.Name x pos) (tC v):=
 λ_ _ _ H _ I h=>Uk I hg hm ⟨v,H,I,r,h⟩ hd
theorem Ce {x:Str} {v:V} {u:Value} {pos:Pos} (hg:Gl X x) (hm:X.mg x=none) (hv:bootBuiltins x=some u) (r:RelV v u) (hn:x≠"__name__":=by decide) (hd:(x == ("__debug__":Str))=false:=by decide):PE X (.Name x pos) (tC v):=
 λ_ _ _ H _ I h=>Jl I hg hm hv ⟨v,H,I,r,h⟩ hn hd
variable {a b:Expr} {ta tb:TE} {pos:Pos}
def PC (X:Cx) (op:CmpOp) (a b:Expr) (t:TE):Prop:=
 ∀(jb:YC) (s:Shared) (U : St) (H:Hp) (Q:VK),Inv X jb U H s->t U H Q ->
  wpAny (model X.prog X.w) X.A (eval a X.env) (λv s₁=>wpAny (model X.prog X.w) X.A (eval b X.env) (λu s₂=>wpAny (model X.prog X.w) X.A (compareOp op v u) (EP X jb U Q) X.xe s₂) X.xe s₁) X.xe s
theorem YQ (b:Expr) {op:CmpOp} (h:op≠.In) (h2:op≠.NotIn):behindInMarks op b=false:=by
 have e1:(op == CmpOp.In)=false:=by cases op <;> first | rfl | exact absurd rfl h
 have e2:(op == CmpOp.NotIn)=false:=by cases op <;> first | rfl | exact absurd rfl h2
 cases b <;> simp[behindInMarks,e1,e2]
def tB (t:TE):TT:=fun U H Q=>t U H λx H1=>∃c,x=.bl c/\Q c H1
theorem ou {op:CmpOp} {t:TE} (h:PC X op a b t) (h1:behindInMarks op b=false:=by first | exact YQ _ (by decide) (by decide) | rfl):PT X (.Compare a [op] [b] pos) (tB t):=by
 intro jb s U H Q I hw;refine wpAny_isTrue_Compare1 (thn (h jb s U H _ I hw) λv s1 h1=>thn h1 λu s2 h2=>thn h2 λc s3 zz=>?_) h1;obtain⟨x,H1,I1,r1,q1⟩:=zz;obtain⟨d,rfl,q⟩:=q1;cases r1;exact QaW ⟨H1,I1,q⟩
theorem BJ {e:Expr} {t:TE} (h:PE X e t) (he:∀whole,isTrue e X.env whole=(do let v <-whole;standAt e.pos;holding [v] (truthy v)):=by intro _;rfl):PT X e (tB t):=by
 intro jb s U H Q I hw;refine isTrue_plain (thn (h jb s U H _ I hw) λv s1 zz=>?_) (he _);obtain⟨x,H1,I1,r1,q1⟩:=zz;obtain⟨d,rfl,q⟩:=q1;cases r1;exact QaW ⟨H1,I1,q⟩
variable {tA tB':TT} {rest:YJ}
def gW (t u:TT):TT:=fun U H Q=>t U H λc H1=>if c=true then u U H1 Q else Q false H1
def tOr (t u:TT):TT:=fun U H Q=>t U H λc H1=>if c=true then Q true H1 else u U H1 Q
def gR (t:TT):TT:=fun U H Q=>t U H λc H1=>Q (!c) H1
theorem Oj (ha:PT X a tA):PW X (.BoolOp .And [a] pos) tA:=by
 intro wh jb s U H Q I h;refine isTrue_and (thn (ha jb s U H Q I h) λc s1 e=>?_);cases c with
 | true=>exact isTrue_and_nil e
 | false=>exact e
theorem Fy (ha:PT X a tA):PW X (.BoolOp .Or [a] pos) tA:=by
 intro wh jb s U H Q I h;refine isTrue_or (thn (ha jb s U H Q I h) λc s1 e=>?_);cases c with
 | false=>exact isTrue_or_nil e
 | true=>exact e
theorem Nu (ha:PT X a tA) (hb:PW X (.BoolOp .And (b::rest) pos) tB'):PW X (.BoolOp .And (a::b::rest) pos) (gW tA tB'):=by
 intro wh jb s U H Q I h;refine isTrue_and (thn (ha jb s U H _ I h) λc s1 zz=>?_);obtain⟨H1,I1,q1⟩:=zz;cases c with
 | true=>exact hb wh jb s1 U H1 Q I1 q1
 | false=>exact⟨H1,I1,q1⟩
theorem Dm (ha:PT X a tA) (hb:PW X (.BoolOp .Or (b::rest) pos) tB'):PW X (.BoolOp .Or (a::b::rest) pos) (tOr tA tB'):=by
 intro wh jb s U H Q I h;refine isTrue_or (thn (ha jb s U H _ I h) λc s1 zz=>?_);obtain⟨H1,I1,q1⟩:=zz;cases c with
 | true=>exact⟨H1,I1,q1⟩
 | false=>exact hb wh jb s1 U H1 Q I1 q1
theorem BK (ha:PT X a tA):PT X (.UnaryOp .Not a pos) (gR tA):=by
 intro jb s U H Q I h;exact isTrue_not (ha jb s U H (λc H1=>Q (!c) H1) I h)
def fC (ta tb:TE):TE:=fun U H Q=>ta U H λx H1=>∃c,x=.bl c/\if c=true then tb U H1 Q else Q (.bl false) H1
def eZ (ta:TE):TE:=fun U H Q=>ta U H λx H1=>∃c,x=.bl c/\Q (.bl (!c)) H1
theorem CW {op} {t:TE} (h:PE X a t):PE X (.BoolOp op [a] pos) t:=λjb s U H Q I hw=>BoolOp_one (h jb s U H Q I hw)
theorem Cq (ha:PE X a ta) (hb:PE X (.BoolOp .And (b::rest) pos) tb):PE X (.BoolOp .And (a::b::rest) pos) (fC ta tb):=by
 intro jb s U H Q I h;refine BoolOp_and (thn (ha jb s U H _ I h) λv s1 zz=>?_);obtain⟨x,H1,I1,r1,q1⟩:=zz;obtain⟨c,rfl,q1⟩:=q1;cases r1;refine QaW ?_;cases c with
 | true=>exact hb jb s1 U H1 Q I1 q1
 | false=>exact⟨.bl false,H1,I1,rfl,q1⟩
theorem WD (ha:PE X a ta):PE X (.UnaryOp .Not a pos) (eZ ta):=by
 intro jb s U H Q I h;refine UnaryOp_ (thn (ha jb s U H _ I h) λv s1 zz=>?_);obtain⟨x,H1,I1,r1,q1⟩:=zz;obtain⟨c,rfl,q1⟩:=q1;cases r1;exact not_of (QaW ⟨.bl (!c),H1,I1,rj,q1⟩)
end
def SqL (K:YD) (H:Hp) (a:Addr) (xs:YG):Prop:=
 Rd H a (.lst xs) \/
  ∃(o:Obj) (its:Array Value) (n:Nat),K.lookup a=some o/\o.cls=.type "list"/\o.dict=none/\o.data=.seq its n/\its.size<=sizeLine/\Vals xs its.toList
def SqT (K:YD) (H:Hp) (a:Addr) (xs:YG):Prop:=
 Rd H a (.tup xs) \/
  ∃(o:Obj) (its:Array Value) (n:Nat),K.lookup a=some o/\o.cls=.type "tuple"/\o.data=.seq its n/\its.size<=sizeLine/\Vals xs its.toList
def nW:Value->Option V
 | .none=>some .non
 | .bool b=>some (.bl b)
 | .int i _=>some (.int i)
 | .str x _=>some (.str x)
 | .bytes b _=>some (.byt b)
 | .float b _=>some (.flt b)
 | .ref a=>some (.ref a)
 | .type n=>some (.ty n)
 | _=>none
theorem RelV.abs {x:V} {u:Value} (r:RelV x u):nW u=some x:=by
 cases x with
 | non=>cases r;rfl
 | bl _=>cases r;rfl
 | int _=>obtain⟨t,rfl⟩:=r;rfl
 | str _=>obtain⟨t,rfl⟩:=r;rfl
 | byt _=>obtain⟨t,rfl⟩:=r;rfl
 | flt _=>obtain⟨t,rfl⟩:=r;rfl
 | ref _=>cases r;rfl
 | ty _=>cases r;rfl
theorem RelV.inj {x y:V} {u:Value} (r:RelV x u) (q:RelV y u):x=y:=Qbp (r.abs.symm.trans q.abs)
theorem Vals.inj:∀{xs ys:YG} {us:YE},Vals xs us->Vals ys us->xs=ys
 | _,_,_,.nil,.nil=>rfl
 | _,_,_,.cons r t,.cons r' t'=>by rw[r.inj r',Vals.inj t t']
section
variable {X:Cx} {jb:YC} {U : St} {H:Hp} {s:Shared} {a:Addr} {xs ys:YG}
theorem SqL.of {K:YD} (h:H a=some (.lst xs)):SqL K H a xs:=.inl (.inl h)
theorem SqT.of {K:YD} (h:H a=some (.tup xs)):SqT K H a xs:=.inl (.inl h)
theorem Inv.list (I:Inv X jb U H s) (h:SqL X.K H a xs):∃its:YE,Vals xs its/\PlainL s.heap a its.toArray/\xs.length<=sizeLine:=by
 rcases h with h |⟨o,its,n,hk,hc,hd,hs,hz,r⟩
 ·obtain⟨z,its,n,r,e⟩:=h.ok I.hok;exact⟨its,r,⟨_,n,e,rj,rj,rj⟩,z⟩
 ·refine⟨its.toList,r,⟨o,n,I.kIn a o hk,hc,hd,by simpa using hs⟩,?_⟩;have e:=r.length;simp only[QaB] at e;omega
theorem Inv.tuple (I:Inv X jb U H s) (h:SqT X.K H a xs):∃its:YE,Vals xs its/\IsTup s.heap a its.toArray/\xs.length<=sizeLine:=by
 rcases h with h |⟨o,its,n,hk,hc,hs,hz,r⟩
 ·obtain⟨z,its,r,p⟩:=h.ok I.hok;exact⟨its,r,p,z⟩
 ·refine⟨its.toList,r,⟨o,I.kIn a o hk,hc,n,by simpa using hs⟩,?_⟩;have e:=r.length;simp only[QaB] at e;omega
theorem Inv.YZ (I:Inv X jb U H s) (h:SqL X.K H a xs) (h':SqL X.K H a ys):xs=ys:=by
 obtain⟨its,r,⟨o,n,e,_,_,d⟩,_⟩:=I.list h;obtain⟨its',r',⟨o',n',e',_,_,d'⟩,_⟩:=I.list h';rw[e] at e';cases e';rw[d] at d';injection d' with d1 _;have:its=its':=by simpa using congrArg Array.toList d1
 subst this;exact r.inj r'
theorem Inv.Pb (I:Inv X jb U H s) (h:SqT X.K H a xs) (h':SqT X.K H a ys):xs=ys:=by
 obtain⟨its,r,⟨o,e,_,n,d⟩,_⟩:=I.tuple h;obtain⟨its',r',⟨o',e',_,n',d'⟩,_⟩:=I.tuple h';rw[e] at e';cases e';rw[d] at d';injection d' with d1 _;have:its=its':=by simpa using congrArg Array.toList d1
 subst this;exact r.inj r'
end
abbrev Cx.wish (X:Cx) (E:YA):Cx:={ X with xe:=E }
abbrev Cx.nox (X:Cx):Cx:=X.wish λ_ _=>False
theorem Cx.Ok.wish {X:Cx} (ok:X.Ok) (E:YA):(X.wish E).Ok:=
 ⟨ok.mod,ok.kind,ok.glob,ok.blt,ok.above,ok.inj,ok.has,ok.cab,ok.hd,ok.frames,ok.stk,ok.exf,ok.bs,ok.bsz,ok.Ow,ok.M6,ok.Hr,ok.frf⟩
theorem Cx.Ok.Fx {X:Cx} {E:YA} (ok:(X.wish E).Ok):X.Ok:=
 ⟨ok.mod,ok.kind,ok.glob,ok.blt,ok.above,ok.inj,ok.has,ok.cab,ok.hd,ok.frames,ok.stk,ok.exf,ok.bs,ok.bsz,ok.Ow,ok.M6,ok.Hr,ok.frf⟩
section
variable {X:Cx} {jb:YC} {U : St} {H:Hp} {s:Shared} {E:YA}
theorem Inv.wish (I:Inv X jb U H s) (E:YA):Inv (X.wish E) jb U H s:=⟨I.ok.wish E,I.os,I.bare,I.base,I.loc,I.cell,I.free,I.Gv,I.pin,I.hok,I.len⟩
theorem Inv.Fx (I:Inv (X.wish E) jb U H s):Inv X jb U H s:=⟨I.ok.Fx,I.os,I.bare,I.base,I.loc,I.cell,I.free,I.Gv,I.pin,I.hok,I.len⟩
theorem SP.Fx {D:Ends} {f:Flow} {s':Shared} (h:SP (X.wish E) jb D f s'):SP X jb D f s':=by
 cases f with
 | next=>obtain⟨σ',H',I,q⟩:=h;exact⟨σ',H',I.Fx,q⟩
 | brk=>obtain⟨σ',H',I,q⟩:=h;exact⟨σ',H',I.Fx,q⟩
 | cont=>obtain⟨σ',H',I,q⟩:=h;exact⟨σ',H',I.Fx,q⟩
 | ret u=>obtain⟨v,σ',H',I,r,q⟩:=h;exact⟨v,σ',H',I.Fx,r,q⟩
theorem PE.nox {e:Expr} {t:TE} (h:PE X.nox e t):PE X e t:=λjb s U H Q I hw=>
 QbY (h jb s U H Q (I.wish _) hw) (λ_ _ ⟨v,H',I',r,q⟩=>⟨v,H',I'.Fx,r,q⟩) λ_ _ z=>False.elim z
theorem PT.nox {e:Expr} {t:TT} (h:PT X.nox e t):PT X e t:=λjb s U H Q I hw=>
 QbY (h jb s U H Q (I.wish _) hw) (λ_ _ ⟨H',I',q⟩=>⟨H',I'.Fx,q⟩) λ_ _ z=>False.elim z
theorem PSs.nox {st:List Stmt} {t:TS} (h:PSs X.nox st t):PSs X st t:=λjb s U H D I hw=>
 QbY (h jb s U H D (I.wish _) hw) (λ_ _ q=>q.Fx) λ_ _ z=>False.elim z
end
section
variable {X:Cx} {st:Stmt} {rest:List Stmt} {t u:TS} {e:Expr} {te:TE} {pos:Pos}
def fj:TS:=λD U H=>D.nx U H
def Aq (t u:TS):TS:=λD U H=>t { D with nx:=u D } U H
theorem Bs:PSs X [] fj:=λ_ _ U H _ I h=>wpAny_execs_nil ⟨U,H,I,h⟩
theorem Ag (h1:PS X st t) (h2:PSs X rest u):PSs X (st::rest) (Aq t u):=by
 intro jb s U H D I h;refine wpAny_execs_cons (thn (h1 jb s U H { D with nx:=u D } I h) λf s1 q=>?_);cases f with
 | next=>
  obtain⟨σ',H',I',q⟩:=q;exact h2 jb s1 σ' H' D I' q
 | ret v=>exact q
 | brk=>exact q
 | cont=>exact q
theorem Ah (h1:PS X st t):PSs X [st] t:=by
 intro jb s U H D I h;refine wpAny_execs_cons (thn (h1 jb s U H D I h) λf s1 q=>?_);cases f with
 | next=>exact wpAny_execs_nil q
 | ret v=>exact q
 | brk=>exact q
 | cont=>exact q
theorem Inv.quiet {jb:YC} {U : St} {H:Hp} {s:Shared} (I:Inv X jb U H s):interactive X.env=false:=by simp[interactive,I.ok.kind]
def fB (te:TE):TS:=λD U H=>te U H λ_ H1=>D.nx U H1
theorem Ec (he:PE X e te) (hs:swapsWith e none pos.line X.env=pure false:=by rfl):PS X (.Expr e pos) (fB te):=by
 intro jb s U H D I h;refine wpAny_Expr_any (thn (he jb s U H _ I h) λv s1 zz=>?_) I.quiet hs;obtain⟨x,H1,I1,r1,q1⟩:=zz;exact⟨U,H1,I1,q1⟩
def gP (te:TE):TS:=λD U H=>te U H D.rt
theorem Ax (he:PE X e te):PS X (.Return (some e) pos) (gP te):=by
 intro jb s U H D I h;refine wpAny_Return_some (thn (he jb s U H _ I h) λv s1 zz=>?_);obtain⟨x,H1,I1,r1,q1⟩:=zz;exact⟨x,U,H1,I1,r1,q1⟩
def GX (c:TT) (t u:TS):TS:=λD U H=>c U H λb H1=>if b=true then t D U H1 else u D U H1
theorem BX {c:Expr} {a b:List Stmt} {tc:TT} (hc:PT X c tc) (ha:PSs X a t) (hb:PSs X b u):PS X (.If c a b pos) (GX tc t u):=by
 intro jb s U H D I h;refine wpAny_If (thn (hc jb s U H _ I h) λd s1 zz=>?_);obtain⟨H1,I1,q1⟩:=zz;cases d with
 | true=>exact ha jb s1 U H1 D I1 q1
 | false=>exact hb jb s1 U H1 D I1 q1
end
abbrev TG:=V->St->Hp->(YO)->Prop
abbrev TGs:=YG->St->Hp->(YO)->Prop
def PG (X:Cx) (target:Expr) (t:TG):Prop:=
 ∀(jb:YC) (s:Shared) (U : St) (H:Hp) (v:V) (u:Value) (Q:YO),Inv X jb U H s->RelV v u->t v U H Q ->
  wpAny (model X.prog X.w) X.A (assign target X.env u) (λ_ s'=>∃ σ' H',Inv X jb σ' H' s'/\Q σ' H') X.xe s
def PGs (X:Cx) (ts:YJ) (t:TGs):Prop:=
 ∀(jb:YC) (s:Shared) (U : St) (H:Hp) (vs:YG) (us:YE) (Q:YO),Inv X jb U H s->Vals vs us->t vs U H Q ->
  wpAny (model X.prog X.w) X.A (assignInOrder ((assignEach ts X.env).map (·.2)) us) (λ_ s'=>∃ σ' H',Inv X jb σ' H' s'/\Q σ' H') X.xe s
abbrev Zi:=V->V->V->Hp->(Hp->Prop)->Prop
def eN (X:Cx) (t:Zi):Prop:=
 ∀(jb:YC) (s:Shared) (U : St) (H:Hp) (o i v:V) (ov iv u:Value) (Q:Hp->Prop),Inv X jb U H s->RelV o ov->RelV i iv->RelV v u->t o i v H Q ->
  wpAny (model X.prog X.w) X.A (setItem ov iv u) (λ_ s'=>∃H',Inv X jb U H' s'/\Q H') X.xe s
section
variable {X:Cx} {pos:Pos}
def Gu (i:Nat):TG:=λv U H Q=>Q (U.set i (some v)) H
theorem Ak {i:Nat} {x:Str} (hN:X.N.Nodup) (hi:X.N[i]?=some x) (hx:Loc X.env.scope x) (hf:X.fn x=true\/X.env.scope.names.lookup x=some .local:=by first | exact .inl rfl | exact .inr rfl | assumption):PG X (.Name x pos) (Gu i):=by
 intro jb s U H v u Q I r h;exact wpAny_assign_Name (Mj I hN hi hx r (λs' I'=>⟨_,H,I',h⟩) hf)
def lN:TGs:=λvs U H Q=>vs=[]/\Q U H
def gk (t:TG) (u:TGs):TGs:=λvs U H Q=>∃v r,vs=v::r/\t v U H fun σ' H'=>u r σ' H' Q
theorem DK:PGs X [] lN:=by
 intro jb s U H vs us Q I r h;obtain⟨e,h⟩:=h;subst e;cases r;exact assignInOrder_nil ⟨U,H,I,h⟩
theorem Bl {e:Expr} {es:YJ} {t:TG} {u:TGs} (h1:PG X e t) (h2:PGs X es u)
  (hs:(assignEach (e::es) X.env).map (·.2)=assign e X.env::(assignEach es X.env).map (·.2):=by rfl):PGs X (e::es) (gk t u):=by
 intro jb s U H vs us Q I r h;obtain⟨v,vr,e1,h⟩:=h;subst e1;cases r with
 | cons r rr=>
  rw[hs];refine assignInOrder_cons (thn (h1 jb s U H _ _ _ I r h) λ_ s1 zz=>?_);obtain⟨σ1,H1,I1,q1⟩:=zz;exact h2 jb s1 σ1 H1 _ _ Q I1 rr q1
def dW (K:YD) (n:Nat) (t:TGs):TG:=λv U H Q=>∃a xs,v=.ref a/\SqT K H a xs/\xs.length=n/\t xs U H Q
theorem Fz {es:YJ} {k:Nat} {t:TGs} {n:Nat} (hc:X.calm=true) (h:PGs X es t)
  (hn:(assignEach es X.env).length=n:=by rfl) (hst:(assignEach es X.env).findIdx? (·.1)=none:=by rfl):PG X (.Tuple es k pos) (dW X.K n t):=by
 intro jb s U H v u Q I r hw;obtain⟨a,xs,e1,hq,hl,hw⟩:=hw;subst e1;cases r;obtain⟨its,rv,ht,hz⟩:=I.tuple hq;refine assign_Tuple_tuple (I.ok.hd hc) ht (by simp[hn,<-hl,rv.length]) hst λh' hx=>?_;have I1:Inv X jb U H { s with heap:=h' }:=I.kept (t':=s.toks) λb o e=>hx b o (QbN (QbM e)) e;exact h jb _ U H xs _ Q I1 (by simpa using rv) hw
def lM (to ti:TE) (t:Zi):TG:=λv U H Q=>to U H λo H1=>ti U H1 λi H2=>t o i v H2 λH3=>Q U H3
theorem Ri {o i:Expr} {to ti:TE} {t:Zi} (ho:PE X o to) (hi:PE X i ti) (hs:eN X t)
  (ha:∀v,assign (.Subscript o i pos) X.env v=(do
   let ov <-holding [v] (eval o X.env);let iv <-holding [v,ov] (eval i X.env)
   standAt pos
   holding [v,ov,iv] (setItem ov iv v)
   release [v,ov,iv] []):=by intro _;rfl):PG X (.Subscript o i pos) (lM to ti t):=by
 intro jb s U H v u Q I r h;rw[ha];refine QbW (QbI (thn (ho jb s U H _ I h) λov s1 zz=>?_));obtain⟨x,H1,I1,r1,q1⟩:=zz;refine QbW (QbI (thn (hi jb s1 U H1 _ I1 q1) λiv s2 zz=>?_));obtain⟨y,H2,I2,r2,q2⟩:=zz;refine QbW (QbL (QbW (QbI (thn (hs jb s2 U H2 x y v ov iv u _ I2 r1 r2 r q2) λ_ s3 zz=>?_))));obtain⟨H3,I3,q3⟩:=zz;exact wpAny_release ⟨U,H3,I3,q3⟩
def Yb (te:TE) (g:TG):TS:=λD U H=>te U H λx H1=>g x U H1 D.nx
theorem Jc {tg e:Expr} {te:TE} {g:TG} (he:PE X e te) (hg:PG X tg g) (hs:swapsWithSole [tg] e pos.line X.env=pure false:=by rfl) (hw:swappedStores [tg] e X.env=pure none:=by rfl)
  (h1:(assignEach [tg] X.env).map (·.2)=[assign tg X.env]:=by rfl):PS X (.Assign [tg] e pos) (Yb te g):=by
 intro jb s U H D I h;refine wpAny_Assign_stores (thn (he jb s U H _ I h) λv s1 zz=>?_) hs hw;obtain⟨x,H1,I1,r1,q1⟩:=zz;rw[h1];exact thn (hg jb s1 U H1 x v _ I1 r1 q1) λ_ s2 q=>q
theorem Bj {i:Nat} {x:Str} {e:Expr} {te:TE} {pos':Pos} (hN:X.N.Nodup) (hi:X.N[i]?=some x) (hx:Loc X.env.scope x) (he:PE X e te) (hs:swapsWith e (some (.Name x pos')) pos.line X.env=pure false:=by rfl) (hf:X.fn x=true\/X.env.scope.names.lookup x=some .local:=by first | exact .inl rfl | exact .inr rfl | assumption) :
  PS X (.Assign [.Name x pos'] e pos) (Yb te (Gu i)):=by
 intro jb s U H D I h;refine wpAny_Assign_Name (thn (he jb s U H _ I h) λv s1 zz=>?_) hs;obtain⟨y,H1,I1,r1,q1⟩:=zz;exact Mj I1 hN hi hx r1 (λs2 I2=>⟨_,H1,I2,q1⟩) hf
end
section
variable {X:Cx} {pos:Pos}
abbrev YN:=Nat->YO
def Wd (c:TT) (tb:TS):TS:=λD U H=>∃W:YN,(∃m,W m U H)/\∀m U H,W m U H ->
 c U H λb H1=>if b=true then ∃N:YO,(∀ σ' H',N σ' H'->∃m',m' < m/\W m' σ' H')/\tb { D with nx:=N,ct:=N,bk:=D.nx } U H1 else D.nx U H1
theorem Yk {c:Expr} {body:List Stmt} {tc:TT} {tb:TS} (hp:PassesOwn (model X.prog X.w) X.A X.env X.xe) (hc:PT X c tc) (hb:PSs X body tb):PS X (.While c body [] pos) (Wd tc tb):=by
 intro jb s U H D I h;obtain⟨W,⟨m0,w0⟩,turn⟩:=h;refine wpAny_While (codeAny_whileLoop (λn s'=>∃ σ' H',Inv X jb σ' H' s'/\W n σ' H') ?_ m0 ⟨U,H,I,w0⟩);rintro n s1 ⟨σ1,H1,I1,w1⟩;refine Qbu hp (thn (hc jb s1 σ1 H1 _ I1 (turn n σ1 H1 w1)) λb s2 zz=>?_);obtain⟨H2,I2,q2⟩:=zz;cases b with
 | true=>
  obtain⟨N,hN,q2⟩:=q2;rw[if_pos rfl];refine Qbu hp (thn (hb jb s2 σ1 H2 _ I2 q2) λf s3 q3=>?_);cases f with
  | next=>
   obtain⟨σ3,H3,I3,n3⟩:=q3;obtain⟨m',hm,w3⟩:=hN σ3 H3 n3;exact⟨m',hm,σ3,H3,I3,w3⟩
  | cont=>
   obtain⟨σ3,H3,I3,n3⟩:=q3;obtain⟨m',hm,w3⟩:=hN σ3 H3 n3;exact⟨m',hm,σ3,H3,I3,w3⟩
  | brk=>exact q3
  | ret v=>exact q3
 | false=>
  rw[if_neg QaG];exact wpAny_execs_nil ⟨σ1,H2,I2,q2⟩
end
structure It where
 go:Nat->Hp->Prop
 yld:Nat->Hp->V->Hp->Prop
 stop:Nat->Hp->Prop
def FW (X:Cx) (jb:YC) (H:Hp) (b:Addr):Prop:=
 H b=none/\b≠X.env.locals/\b∉X.fs/\(b∈X.ex\/X.s₀.heap.objs.size<=b)/\(∀x c,X.env.cells.lookup x=some c->c≠b)/\∀p∈X.pn++jb,p.1≠b
theorem Inv.O5 {X:Cx} {jb:YC} {U : St} {H H':Hp} {s:Shared} {b:Addr} (I:Inv X jb U H s) (hb:s.heap.objs.size<=b) (hn:H' b=none):FW X jb H' b:=by
 refine⟨hn,QbQ (QaL I.lt hb),I.cN hb,.inr (QbO I.sz hb),λx c e z=>?_,λp hp z=>?_⟩
 ·obtain⟨v,q⟩:=I.cell x c e;exact absurd (QaL q.lt (by rw[z];exact hb)) (QbH _)
 ·exact absurd (QaL (QbM (I.pin p hp).1) (by rw[z];exact hb)) (QbH _)
structure Turn (P:Program) (w:World) (K:YD) (tg:Expr) (J:It) (fp:List Addr) (it:Addr) (tn:Nat->Heap->Prop):Prop where
 mem:it∈fp
 obj:∀i h,tn i h->∀b∈fp,∃o,h.get? b=some o/\∀v,o.data≠.cell v
 keep:∀i h h',tn i h->(∀b∈fp,∀o,h.get? b=some o->h'.get? b=some o)->tn i h'
 item:∀(X:Cx),X.prog=P->X.w=w->X.K=K->X.calm=true->∀(i:Nat) (jb:YC) (s:Shared) (U : St) (H:Hp) (E:YA),Inv X jb U H s->(∀b∈fp,FW X jb H b)->tn i s.heap->J.go i H ->
  wpAny (model P w) X.A (pyNext (.ref it)) (λr s1=>∃u,r=some u /\
   wpAny (model P w) X.A (letOwnedTupleGo tg (.ref it) u) (λ_ s2=>∃x H',Inv X jb U H' s2/\RelV x u/\J.yld i H x H'/\tn (i+1) s2.heap/\∀b∈fp,H' b=none) E s1) E s
 done:∀(X:Cx),X.prog=P->X.w=w->X.K=K->X.calm=true->∀(i:Nat) (jb:YC) (s:Shared) (U : St) (H:Hp) (E:YA),Inv X jb U H s->(∀b∈fp,FW X jb H b)->tn i s.heap->J.stop i H ->
  wpAny (model P w) X.A (pyNext (.ref it)) (λr s1=>r=none/\Inv X jb U H s1) E s
 self:∀(A:Around) (i:Nat) (s:Shared) (Q:YA) (E:YA),tn i s.heap->Q (.ref it) s->wpAny (model P w) A (pyIter (.ref it)) Q E s
abbrev TI:=St->Hp->(It->Hp->Prop)->Prop
def PIE (X:Cx) (jb:YC) (U : St) (tg:Expr) (R:It->Hp->Prop) (itv:Value) (s2:Shared):Prop:=
 ∃(it:Addr) (fp:List Addr) (tn:Nat->Heap->Prop) (J:It) (H':Hp),itv=.ref it/\Inv X jb U H' s2/\Turn X.prog X.w X.K tg J fp it tn/\tn 0 s2.heap/\(∀b∈fp,FW X jb H' b)/\R J H'
def PI (X:Cx) (tg iter:Expr) (wi:TI):Prop:=
 ∀(jb:YC) (s:Shared) (U : St) (H:Hp) (R:It->Hp->Prop),Inv X jb U H s->wi U H R ->
  wpAny (model X.prog X.w) X.A (eval iter X.env) (λv s1=>wpAny (model X.prog X.w) X.A (pyIter v) (PIE X jb U tg R) X.xe s1) X.xe s
theorem QB {M:Model} {A:Around} {E:YA} {s:Shared} {tg:Expr} {it:Addr} {u:Value} {o:Obj} {n:String} {vs:Array Value} {Q:YH} (ho:s.heap.get? it=some o) (hc:o.cls=.type n) (hd:o.data=.fields vs)
    (hn:["enumerate","zip","dict_itemiterator","dict_reverseitemiterator","odict_iterator","itertools.zip_longest","itertools.pairwise"].contains n=false) (hQ:Q () s):wpAny M A (letOwnedTupleGo tg (.ref it) u) Q E s:=by
  unfold letOwnedTupleGo;cases tg <;> first
    | exact QbX hQ
    | (cases u <;> first
        | exact QbX hQ
        | (refine QbW (wpAny_load ho ?_)
           rw[hc,hd];show wpAny M A (if (["enumerate","zip","dict_itemiterator","dict_reverseitemiterator","odict_iterator","itertools.zip_longest","itertools.pairwise"].contains n&&vs[0]? == some (rawInt _))=true then _ else _) Q E s
           rw[if_neg (by intro h;rw[hn,QbB] at h;cases h)];exact QbX hQ))
def Itl (K:YD) (a:Addr):It:=
 ⟨λi H=>∃xs x,SqL K H a xs/\xs[i]?=some x,λi H x H'=>H'=H/\∀xs,SqL K H a xs->xs[i]?=some x,λi H=>∃xs,SqL K H a xs/\xs.length<=i⟩
def Itt (K:YD) (a:Addr):It:=
 ⟨λi H=>∃xs x,SqT K H a xs/\xs[i]?=some x,λi H x H'=>H'=H/\∀xs,SqT K H a xs->xs[i]?=some x,λi H=>∃xs,SqT K H a xs/\xs.length<=i⟩
def Itr (lo:Int) (n:Nat):It:=⟨λi _=>i < n,λi H x H'=>H'=H/\x=.int (lo+i),λi _=>n<=i⟩
theorem Wc {P:Program} {w:World} {K:YD} {tg:Expr} (a it:Addr):Turn P w K tg (Itl K a) [it] it (λi h=>h.IsListIter it a i) where
 mem:=by simp
 obj:=λi h st b hb=>by
  have e:b=it:=by simpa using hb
  subst e;obtain⟨o,e,c,d⟩:=st;exact⟨o,e,λv z=>by rw[d] at z;cases z⟩
 keep:=λi h h' st k=>st.at λo e=>k it (by simp) o e
 item:=by
  intro X hP hw hK hc i jb s U H E I hf st hg;subst hP hw hK;obtain⟨xs,x,hq,hx⟩:=hg;obtain⟨its,rv,p,hz⟩:=I.list hq;obtain⟨u,hu,ru⟩:=rv.get hx;obtain⟨f0,f1,f2,f3,f4,f5⟩:=hf it (by simp);refine wpAny_pyNext_list_item st p.isList (x:=u) (by simpa using hu) λh' st' sb=>?_;have I1:Inv X jb U H { s with heap:=h' }:=I.turned (t':=s.toks) (λb o hb e=>(sb.2 b hb).trans e) f0 f1 f3 f4 f5;obtain⟨o,e,c,d⟩:=id st';exact⟨u,rj,QB (s:={ s with heap:=h' }) e c d (by decide) ⟨x,H,I1,ru,⟨rj,λys hy=>by rw[I.YZ hy hq];exact hx⟩,st',λb hb=>(hf b hb).1⟩⟩
 done:=by
  intro X hP hw hK hc i jb s U H E I hf st hg;subst hP hw hK;obtain⟨xs,hq,hx⟩:=hg;obtain⟨its,rv,p,hz⟩:=I.list hq;obtain⟨f0,f1,f2,f3,f4,f5⟩:=hf it (by simp);have hl:=rv.length;exact wpAny_pyNext_list_end (I.ok.hd hc) st p.isList (by simp;omega) λh' eb=>⟨rj,I.turned (t':=s.toks) (λb o hb e=>eb b o hb e) f0 f1 f3 f4 f5⟩
 self:=λ_ _ _ _ _ st h=>wpAny_pyIter_listiter st h
theorem U3 {P:Program} {w:World} {K:YD} {tg:Expr} (a it:Addr):Turn P w K tg (Itt K a) [it] it (λi h=>h.IsTupleIter it a i) where
 mem:=by simp
 obj:=λi h st b hb=>by
  have e:b=it:=by simpa using hb
  subst e;obtain⟨o,e,c,d⟩:=st;exact⟨o,e,λv z=>by rw[d] at z;cases z⟩
 keep:=λi h h' st k=>st.at λo e=>k it (by simp) o e
 item:=by
  intro X hP hw hK hc i jb s U H E I hf st hg;subst hP hw hK;obtain⟨xs,x,hq,hx⟩:=hg;obtain⟨its,rv,p,hz⟩:=I.tuple hq;obtain⟨u,hu,ru⟩:=rv.get hx;obtain⟨f0,f1,f2,f3,f4,f5⟩:=hf it (by simp);refine wpAny_pyNext_tuple_item st (show s.heap.IsTuple a its.toArray from p) (x:=u) (by simpa using hu) λh' st' sb=>?_
  have I1:Inv X jb U H { s with heap:=h' }:=I.turned (t':=s.toks) (λb o hb e=>(sb.2 b hb).trans e) f0 f1 f3 f4 f5;obtain⟨o,e,c,d⟩:=id st';exact⟨u,rj,QB (s:={ s with heap:=h' }) e c d (by decide) ⟨x,H,I1,ru,⟨rj,λys hy=>by rw[I.Pb hy hq];exact hx⟩,st',λb hb=>(hf b hb).1⟩⟩
 done:=by
  intro X hP hw hK hc i jb s U H E I hf st hg;subst hP hw hK;obtain⟨xs,hq,hx⟩:=hg;obtain⟨its,rv,p,hz⟩:=I.tuple hq;obtain⟨f0,f1,f2,f3,f4,f5⟩:=hf it (by simp);have hl:=rv.length;exact wpAny_pyNext_tuple_end (I.ok.hd hc) st (show s.heap.IsTuple a its.toArray from p) (by simp;omega) λh' eb=>⟨rj,I.turned (t':=s.toks) (λb o hb e=>eb b o hb e) f0 f1 f3 f4 f5⟩
 self:=λ_ _ _ _ _ st h=>wpAny_pyIter_tupleiter st h
theorem U4 {P:Program} {w:World} {K:YD} {tg:Expr} (it:Addr) (lo:Int) (n:Nat):Turn P w K tg (Itr lo n) [it] it (λi h=>IsRangeIter h it (lo+(i:Nat)*1) ((n:Int) - (i:Nat)) 1) where
 mem:=by simp
 obj:=λi h st b hb=>by
  have e:b=it:=by simpa using hb
  subst e;exact⟨_,st,λv z=>by
   have z':Data.fields _=Data.cell v:=z;cases z'⟩
 keep:=λi h h' st k=>k it (by simp) _ st
 item:=by
  intro X hP hw hK hc i jb s U H E I hf st hg;subst hP hw hK;obtain⟨f0,f1,f2,f3,f4,f5⟩:=hf it (by simp);have W:=Walks.range (prog:=X.prog) (w:=X.w) (I.ok.hd hc) it lo 1 n;refine W.item i s _ _ hg st λv h' tk hv st' kk=>?_;obtain⟨t,rfl⟩:=hv;have I1:Inv X jb U H { s with heap:=h',toks:=tk }:=I.turned (λb o hb e=>kk b o (by simpa using hb) e) f0 f1 f3 f4 f5;refine⟨_,rj,QB (s:={ s with heap:=h',toks:=tk }) (n:="range_iterator") st' rfl rfl (by decide) ⟨.int (lo+i),H,I1,⟨t,?_⟩,⟨rj,rj⟩,st',λb hb=>(hf b hb).1⟩⟩;rw[Int.mul_one]
 done:=by
  intro X hP hw hK hc i jb s U H E I hf st hg;subst hP hw hK;obtain⟨f0,f1,f2,f3,f4,f5⟩:=hf it (by simp);exact wpAny_pyNext_range_end (I.ok.hd hc) st (by have:n<=i:=hg;omega) λh' eb=>⟨rj,I.turned (t':=s.toks) (λb o hb e=>eb b o hb e) f0 f1 f3 f4 f5⟩
 self:=λ_ _ _ _ _ st h=>wpAny_pyIter_rangeiter st h
section
variable {X:Cx} {tg:Expr}
def fZ (K:YD) (tl:TE):TI:=fun U H R=>tl U H λx H1=>∃a,x=.ref a/\(∃xs,SqL K H1 a xs)/\R (Itl K a) H1
def jM (K:YD) (tl:TE):TI:=fun U H R=>tl U H λx H1=>∃a,x=.ref a/\(∃xs,SqT K H1 a xs)/\R (Itt K a) H1
theorem GF {l:Expr} {tl:TE} (hl:PE X l tl):PI X tg l (fZ X.K tl):=by
 intro jb s U H R I h;refine thn (hl jb s U H _ I h) λv s1 zz=>?_;obtain⟨x,H1,I1,r1,q1⟩:=zz;obtain⟨a,e,⟨xs,hq⟩,q⟩:=q1;subst e;cases r1;obtain⟨its,rv,p,hz⟩:=I1.list hq;refine Qbb p.isList ?_;refine⟨s1.heap.objs.size,[s1.heap.objs.size],_,_,H1,rj,I1.kept (t':=s1.toks) λb o e=>Qap _ e,Wc a _,⟨_,Qaz _ rfl,rj,rj⟩,λb hb=>?_,q⟩;have e:b=s1.heap.objs.size:=by simpa using hb
 subst e;exact I1.O5 (QbR _) (I1.hok.fresh (QbR _))
theorem DQ {l:Expr} {tl:TE} (hl:PE X l tl):PI X tg l (jM X.K tl):=by
 intro jb s U H R I h;refine thn (hl jb s U H _ I h) λv s1 zz=>?_;obtain⟨x,H1,I1,r1,q1⟩:=zz;obtain⟨a,e,⟨xs,hq⟩,q⟩:=q1;subst e;cases r1;obtain⟨its,rv,p,hz⟩:=I1.tuple hq;refine QaN (show s1.heap.IsTuple a its.toArray from p) ?_
 refine⟨s1.heap.objs.size,[s1.heap.objs.size],_,_,H1,rj,I1.kept (t':=s1.toks) λb o e=>Qap _ e,U3 a _,⟨_,Qaz _ rfl,rj,rj⟩,λb hb=>?_,q⟩;have e:b=s1.heap.objs.size:=by simpa using hb
 subst e;exact I1.O5 (QbR _) (I1.hok.fresh (QbR _))
theorem Yh {jb:YC} {U : St} {H:Hp} {s:Shared} {R:It->Hp->Prop} {E:YA} {lo hi:Int} {t u v:Tok} {tk:Nat} (I:Inv X jb U H s) (h1:-(2 ^ 62)<=lo) (h2:lo < 2 ^ 62) (h3:-(2 ^ 62)<=hi) (h4:hi < 2 ^ 62)
  (q:R (Itr lo (hi - lo).toNat) H):wpAny (model X.prog X.w) X.A (pyIter (.ref s.heap.objs.size)) (PIE X jb U tg R) E { s with heap:=s.heap.push { cls:=.type "range",data:=.fields #[.int lo t,.int hi u,.int 1 v] },toks:=tk }:=by
 refine wpAny_pyIter_range (IsRange.new ..) (small_one h1 h2 h3 h4) ?_;have I1:Inv X jb U H { s with heap:=s.heap.push { cls:=.type "range",data:=.fields #[.int lo t,.int hi u,.int 1 v] },toks:=tk }:=I.kept λb o e=>Qap _ e;refine⟨(s.heap.push { cls:=.type "range",data:=.fields #[.int lo t,.int hi u,.int 1 v] }).objs.size,[(s.heap.push { cls:=.type "range",data:=.fields #[.int lo t,.int hi u,.int 1 v] }).objs.size],_,_,H,rj,
  I1.kept (t':=tk) λb o e=>Qap _ e,U4 _ lo (hi - lo).toNat,?_,λb hb=>?_,q⟩
 ·have e1:lo+((0:Nat):Int)*1=lo:=by simp
  have e2:(((hi - lo).toNat:Nat):Int) - ((0:Nat):Int)=Builtin.Range.rangeSize lo hi 1:=by rw[rangeSize_one];split <;> omega
  show IsRangeIter _ _ (lo+((0:Nat):Int)*1) ((((hi - lo).toNat:Nat):Int) - ((0:Nat):Int)) 1;rw[e1,e2];exact Qaz _ rfl
 ·have e:b=(s.heap.push { cls:=.type "range",data:=.fields #[.int lo t,.int hi u,.int 1 v] }).objs.size:=by simpa using hb
  subst e;exact I1.O5 (QbR _) (I1.hok.fresh (QbR _))
def fY (ta:TA):TI:=fun U H R=>ta U H λvs H1=>∃j:Int,vs=[.int j]/\-(2 ^ 62)<=j/\j < 2 ^ 62/\R (Itr 0 j.toNat) H1
theorem Dw {a:Expr} {ta:TA} {p pos:Pos} (hg:Gl X "range") (hm:X.mg "range"=none) (ha:PA X [a] ta) (hs:starEach [a] X.env=[(false,eval a X.env)]:=by rfl):PI X tg (.Call (.Name "range" p) [a] [] pos) (fY ta):=by
 intro jb s U H R I h;refine Call_ (Jl I hg hm boot_range (Qac (thn (ha pos jb s U H _ I h) λus s1 zz=>?_) hs rfl));obtain⟨vs,H1,I1,r1,q1⟩:=zz;obtain⟨j,e,q1,q2,q⟩:=q1;subst e;cases r1 with
 | cons r rr=>
  cases rr;obtain⟨t,rfl⟩:=r;exact call_range_1 (Yh I1 (by omega) (by omega) q1 q2 (by simpa using q))
def Ft (wi:TI) (g:TG) (tb:TS):TS:=λD U H=>wi U H λJ H1=>∃W:Nat->YN,(∃m,W 0 m U H1)/\∀i m U H,W i m U H ->
 (J.stop i H/\D.nx U H)\/(J.go i H/\∃N:YO,(∀ σ' H',N σ' H'->∃m',m' < m/\W (i+1) m' σ' H')/\∀x H',J.yld i H x H'->g x U H' fun σ2 H2=>tb { D with nx:=N,ct:=N,bk:=D.nx } σ2 H2)
def JL (fp:List Addr) (h:Heap):YC:=fp.filterMap λb=>(h.get? b).map λo=>(b,o)
theorem Ip {fp:List Addr} {h:Heap} {b:Addr} {o:Obj} (hb:b∈fp) (e:h.get? b=some o):(b,o)∈JL fp h:=List.mem_filterMap.mpr ⟨b,hb,by rw[e];rfl⟩
theorem WW {fp:List Addr} {h:Heap} {p:Addr×Obj} (hp:p∈JL fp h):p.1∈fp/\h.get? p.1=some p.2:=by
 obtain⟨b,hb,e⟩:=List.mem_filterMap.mp hp;cases q:h.get? b with
 | none=>rw[q] at e;cases e
 | some o=>
  rw[q] at e;have e':(b,o)=p:=Qbp e;subst e';exact⟨hb,q⟩
theorem Inv.pinned {jb:YC} {U : St} {H:Hp} {s:Shared} {fp:List Addr} (I:Inv X jb U H s) (hf:∀b∈fp,FW X jb H b) (ho:∀b∈fp,∃o,s.heap.get? b=some o/\∀v,o.data≠.cell v):Inv X (jb++JL fp s.heap) U H s:=
 I.Om λp hp=>(Qbm.mp hp).elim (λz=>I.pin p (Qar _ z)) λz=>by
  obtain⟨hb,e⟩:=WW z;obtain⟨f0,f1,f2,_⟩:=hf p.1 hb;obtain⟨o,e',d⟩:=ho p.1 hb;rw[e] at e';cases e';exact⟨e,f0,f1,f2,d⟩
theorem Inv.Hh {jb pl:YC} {U : St} {H:Hp} {s:Shared} (I:Inv X (jb++pl) U H s):Inv X jb U H s:=I.Om λp hp=>I.pin p (Qar _ (Qaw _ hp))
theorem Dk {iter:Expr} {body:List Stmt} {wi:TI} {g:TG} {tb:TS} {pos:Pos} (hp:PassesOwn (model X.prog X.w) X.A X.env X.xe) (hc:X.calm=true) (hi:PI X tg iter wi) (hg:PG X tg g) (hb:PSs X body tb)
  (hs:∀x,foldedSetIterable iter X.env x=pure x:=by intro _;rfl):PS X (.For tg iter body [] pos) (Ft wi g tb):=by
 intro jb s U H D I h;refine wpAny_For (thn (hi jb s U H _ I h) λv s1 h1=>thn h1 λitv s2 h2=>?_) hs;obtain⟨it,fp,tn,J,H2,e,I2,T,st2,f2,W,⟨m0,w0⟩,turn⟩:=h2;subst e;have stat:∀{H':Hp},(∀b∈fp,H' b=none)->∀b∈fp,FW X jb H' b:=λhn b hb=>⟨hn b hb,(f2 b hb).2⟩;refine codeAny_forLoop_any (λn s'=>∃i σ' H',Inv X jb σ' H' s'/\tn i s'.heap/\(∀b∈fp,H' b=none)/\W i n σ' H') ?_ m0 ⟨0,U,H2,I2,st2,λb hb=>(f2 b hb).1,w0⟩;rintro n s3 ⟨i,σ3,H3,I3,st3,fr3,w3⟩;rcases turn i n σ3 H3 w3 with⟨stop,qn⟩|⟨go,N,hN,step⟩
 ·refine Qbu hp (thn (T.done X rfl rfl rfl hc i jb s3 σ3 H3 X.xe I3 (stat fr3) st3 stop) λr s4 zz=>?_);obtain⟨hr,I4⟩:=zz;subst hr;exact wpAny_execs_nil ⟨σ3,H3,I4,qn⟩
 ·refine Qbu hp (thn (T.item X rfl rfl rfl hc i jb s3 σ3 H3 X.xe I3 (stat fr3) st3 go) λr s4 zz=>?_);obtain⟨u,hr,h4⟩:=zz;subst hr;refine Qbu hp (thn h4 λ_ s5 zz=>?_);obtain⟨x,H5,I5,r5,y5,st5,fr5⟩:=zz;have I5':=I5.pinned (stat fr5) (T.obj _ _ st5);refine Qbu hp (thn (hg _ s5 σ3 H5 x u _ I5' r5 (step x H5 y5)) λ_ s6 zz=>?_);obtain⟨σ6,H6,I6,q6⟩:=zz;refine Qbu hp (thn (hb _ s6 σ6 H6 _ I6 q6) λf s7 q7=>?_);have again:∀{σ7:St} {H7:Hp},Inv X (jb++JL fp s5.heap) σ7 H7 s7->N σ7 H7->∃m,m < n/\∃i σ' H',Inv X jb σ' H' s7/\tn i s7.heap/\(∀b∈fp,H' b=none)/\W i m σ' H':=λ{σ7 H7} I7 n7=>by
   obtain⟨m',hm,w7⟩:=hN σ7 H7 n7;refine⟨m',hm,i+1,σ7,H7,I7.Hh,T.keep _ _ _ st5 λb hb o e=>(I7.pin (b,o) (Qar _ (Qar _ (Ip hb e)))).1,λb hb=>?_,w7⟩;obtain⟨o,e,d⟩:=T.obj _ _ st5 b hb;exact (I7.pin (b,o) (Qar _ (Qar _ (Ip hb e)))).2.1
  cases f with
  | next=>obtain⟨σ7,H7,I7,n7⟩:=q7;exact again I7 n7
  | cont=>obtain⟨σ7,H7,I7,n7⟩:=q7;exact again I7 n7
  | brk=>obtain⟨σ7,H7,I7,q7⟩:=q7;exact⟨σ7,H7,I7.Hh,q7⟩
  | ret v=>obtain⟨x7,σ7,H7,I7,r7,q7⟩:=q7;exact⟨x7,σ7,H7,I7.Hh,r7,q7⟩
end
theorem MP {K:YD} {a:Addr} {xs:YG} {g:TG} {tb:TS} {D:Ends} {U : St} {H:Hp} (Pv:YN) (h0:Pv 0 U H) (hl:∀i U H,i<=xs.length->Pv i U H->SqL K H a xs)
  (hs:∀i x U H,xs[i]?=some x->Pv i U H->g x U H fun σ2 H2=>tb { D with nx:=Pv (i+1),ct:=Pv (i+1),bk:=D.nx } σ2 H2) (hd:∀ U H,Pv xs.length U H->D.nx U H) :
  ∃W:Nat->YN,(∃m,W 0 m U H)/\∀i m U H,W i m U H ->
   ((Itl K a).stop i H/\D.nx U H)\/((Itl K a).go i H/\∃N:YO,(∀ σ' H',N σ' H'->∃m',m' < m/\W (i+1) m' σ' H')/\∀x H',(Itl K a).yld i H x H'->g x U H' fun σ2 H2=>tb { D with nx:=N,ct:=N,bk:=D.nx } σ2 H2):=by
 refine⟨λi m U H=>m=xs.length - i/\i<=xs.length/\Pv i U H,⟨xs.length,by simp,QbS _,h0⟩,?_⟩;rintro i m U H ⟨rfl,hi,p⟩;have q:=hl i U H hi p;by_cases hlt:i < xs.length
 ·refine .inr ⟨⟨xs,xs[i],q,by simp[hlt]⟩,Pv (i+1),fun σ' H' p'=>⟨xs.length - (i+1),by omega,rj,hlt,p'⟩,λx H' y=>?_⟩;obtain⟨e,y⟩:=y;subst e;exact hs i x U _ (y xs q) p
 ·have e:i=xs.length:=by omega
  subst e;exact .inl ⟨⟨xs,q,QbR _⟩,hd U H p⟩
theorem Lq {K:YD} {a:Addr} {xs:YG} {g:TG} {tb:TS} {D:Ends} {U : St} {H:Hp} (Pv:YN) (h0:Pv 0 U H) (hl:∀i U H,i<=xs.length->Pv i U H->SqT K H a xs)
  (hs:∀i x U H,xs[i]?=some x->Pv i U H->g x U H fun σ2 H2=>tb { D with nx:=Pv (i+1),ct:=Pv (i+1),bk:=D.nx } σ2 H2) (hd:∀ U H,Pv xs.length U H->D.nx U H) :
  ∃W:Nat->YN,(∃m,W 0 m U H)/\∀i m U H,W i m U H ->
   ((Itt K a).stop i H/\D.nx U H)\/((Itt K a).go i H/\∃N:YO,(∀ σ' H',N σ' H'->∃m',m' < m/\W (i+1) m' σ' H')/\∀x H',(Itt K a).yld i H x H'->g x U H' fun σ2 H2=>tb { D with nx:=N,ct:=N,bk:=D.nx } σ2 H2):=by
 refine⟨λi m U H=>m=xs.length - i/\i<=xs.length/\Pv i U H,⟨xs.length,by simp,QbS _,h0⟩,?_⟩;rintro i m U H ⟨rfl,hi,p⟩;have q:=hl i U H hi p;by_cases hlt:i < xs.length
 ·refine .inr ⟨⟨xs,xs[i],q,by simp[hlt]⟩,Pv (i+1),fun σ' H' p'=>⟨xs.length - (i+1),by omega,rj,hlt,p'⟩,λx H' y=>?_⟩;obtain⟨e,y⟩:=y;subst e;exact hs i x U _ (y xs q) p
 ·have e:i=xs.length:=by omega
  subst e;exact .inl ⟨⟨xs,q,QbR _⟩,hd U H p⟩
theorem FT {lo:Int} {n:Nat} {g:TG} {tb:TS} {D:Ends} {U : St} {H:Hp} (Pv:YN) (h0:Pv 0 U H)
  (hs:∀i U H,i < n->Pv i U H->g (.int (lo+i)) U H fun σ2 H2=>tb { D with nx:=Pv (i+1),ct:=Pv (i+1),bk:=D.nx } σ2 H2) (hd:∀ U H,Pv n U H->D.nx U H) :
  ∃W:Nat->YN,(∃m,W 0 m U H)/\∀i m U H,W i m U H ->
   ((Itr lo n).stop i H/\D.nx U H)\/((Itr lo n).go i H/\∃N:YO,(∀ σ' H',N σ' H'->∃m',m' < m/\W (i+1) m' σ' H')/\∀x H',(Itr lo n).yld i H x H'->g x U H' fun σ2 H2=>tb { D with nx:=N,ct:=N,bk:=D.nx } σ2 H2):=by
 refine⟨λi m U H=>m=n - i/\i<=n/\Pv i U H,⟨n,by simp,QbS _,h0⟩,?_⟩;rintro i m U H ⟨rfl,hi,p⟩;by_cases hlt:i < n
 ·refine .inr ⟨hlt,Pv (i+1),fun σ' H' p'=>⟨n - (i+1),by omega,rj,hlt,p'⟩,λx H' y=>?_⟩;obtain⟨e,y⟩:=y;subst e y;exact hs i U _ hlt p
 ·have e:i=n:=by omega
  subst e;exact .inl ⟨QbR _,hd U H p⟩
abbrev R2:=V->V->Hp->VK->Prop
def OpR (X:Cx) (f:Value->Value->Sem Value) (r:R2):Prop:=
 ∀(jb:YC) (s:Shared) (U : St) (H:Hp) (x y:V) (v u:Value) (Q:VK),Inv X jb U H s->RelV x v->RelV y u->r x y H Q ->
  wpAny (model X.prog X.w) X.A (f v u) (EP X jb U Q) X.xe s
def UnR (X:Cx) (f:Value->Sem Value) (r:V->Hp->VK->Prop):Prop:=
 ∀(jb:YC) (s:Shared) (U : St) (H:Hp) (x:V) (v:Value) (Q:VK),Inv X jb U H s->RelV x v->r x H Q ->
  wpAny (model X.prog X.w) X.A (f v) (EP X jb U Q) X.xe s
def Ea (X:Cx) (f:Value) (r:YG->Hp->VK->Prop):Prop:=
 ∀(jb:YC) (s:Shared) (U : St) (H:Hp) (xs:YG) (us:YE) (Q:VK),Inv X jb U H s->Vals xs us->r xs H Q ->
  wpAny (model X.prog X.w) X.A (call f us) (EP X jb U Q) X.xe s
def tOp (r:R2) (ta tb:TE):TE:=fun U H Q=>ta U H λx H1=>tb U H1 λy H2=>r x y H2 Q
def tUn (r:V->Hp->VK->Prop) (ta:TE):TE:=fun U H Q=>ta U H λx H1=>r x H1 Q
def rI (C:Int->Int->Prop) (g:Int->Int->V):R2:=λx y H Q=>∃i j,x=.int i/\y=.int j/\C i j/\Q (g i j) H
def rI0 (g:Int->Int->V):R2:=λx y H Q=>∃i j,x=.int i/\y=.int j/\Q (g i j) H
def rU (g:Int->V):V->Hp->VK->Prop:=λx H Q=>∃i,x=.int i/\Q (g i) H
section
variable {X:Cx} {a b c:Expr} {ta tb tc:TE} {pos:Pos}
theorem Ze (ha:PE X a ta) (hb:PE X b tb) {jb:YC} {s:Shared} {U : St} {H:Hp} {R:V->V->Hp->Prop} (I:Inv X jb U H s)
  (h:ta U H λx H1=>tb U H1 λy H2=>R x y H2) {Q:YA} {f:Value->Value->Sem Value}
  (hf:∀v u s2 x y H2,Inv X jb U H2 s2->RelV x v->RelV y u->R x y H2->wpAny (model X.prog X.w) X.A (f v u) Q X.xe s2) :
  wpAny (model X.prog X.w) X.A (eval a X.env) (λv s₁=>wpAny (model X.prog X.w) X.A (eval b X.env) (λu s₂=>wpAny (model X.prog X.w) X.A (f v u) Q X.xe s₂) X.xe s₁) X.xe s:=by
 refine thn (ha jb s U H _ I h) λv s1 zz=>?_;obtain⟨x,H1,I1,r1,q1⟩:=zz;refine thn (hb jb s1 U H1 _ I1 q1) λu s2 zz=>?_;obtain⟨y,H2,I2,r2,q2⟩:=zz;exact hf v u s2 x y H2 I2 r1 r2 q2
theorem Av {op:Operator} {r:R2} (ho:OpR X (binaryOp op) r) (ha:PE X a ta) (hb:PE X b tb):PE X (.BinOp a op b pos) (tOp r ta tb):=by
 intro jb s U H Q I h;exact wpAny_BinOp (Ze ha hb I h λv u s2 x y H2 I2 rx ry q=>ho jb s2 U H2 x y v u Q I2 rx ry q)
theorem Qx {op:UnaryOp} {r:V->Hp->VK->Prop} (ho:UnR X (unaryOp op) r) (ha:PE X a ta):PE X (.UnaryOp op a pos) (tUn r ta):=by
 intro jb s U H Q I h;refine UnaryOp_ (thn (ha jb s U H _ I h) λv s1 zz=>?_);obtain⟨x,H1,I1,r1,q1⟩:=zz;exact ho jb s1 U H1 x v Q I1 r1 q1
theorem opI {f:Value->Value->Sem Value} {C:Int->Int->Prop} {g:Int->Int->Int}
  (rule:∀(i j:Int) (t u:Tok) (s:Shared) (Q:YA) (E:YA),C i j->Q (.int (g i j) s.toks) { s with toks:=s.toks+1 }->wpAny (model X.prog X.w) X.A (f (.int i t) (.int j u)) Q E s) :
  OpR X f (rI C λi j=>.int (g i j)):=by
 intro jb s U H x y v u Q I rx ry h;obtain⟨i,j,rfl,rfl,hc,q⟩:=h;obtain⟨t,rfl⟩:=rx;obtain⟨t',rfl⟩:=ry;exact rule i j t t' s _ _ hc ⟨.int (g i j),H,I.tok _,⟨_,rj⟩,q⟩
theorem cG {f:Value->Value->Sem Value} {g:Int->Int->Int}
  (rule:∀(i j:Int) (t u:Tok) (s:Shared) (Q:YA) (E:YA),Q (.int (g i j) s.toks) { s with toks:=s.toks+1 }->wpAny (model X.prog X.w) X.A (f (.int i t) (.int j u)) Q E s) :
  OpR X f (rI0 λi j=>.int (g i j)):=by
 intro jb s U H x y v u Q I rx ry h;obtain⟨i,j,rfl,rfl,q⟩:=h;obtain⟨t,rfl⟩:=rx;obtain⟨t',rfl⟩:=ry;exact rule i j t t' s _ _ ⟨.int (g i j),H,I.tok _,⟨_,rj⟩,q⟩
theorem Vk {f:Value->Value->Sem Value} {g:Int->Int->Bool}
  (rule:∀(i j:Int) (t u:Tok) (s:Shared) (Q:YA) (E:YA),Q (.bool (g i j)) s->wpAny (model X.prog X.w) X.A (f (.int i t) (.int j u)) Q E s) :
  OpR X f (rI0 λi j=>.bl (g i j)):=by
 intro jb s U H x y v u Q I rx ry h;obtain⟨i,j,rfl,rfl,q⟩:=h;obtain⟨t,rfl⟩:=rx;obtain⟨t',rfl⟩:=ry;exact rule i j t t' s _ _ ⟨.bl (g i j),H,I,rj,q⟩
def nZ (i j:Int):Prop:=0 < j/\j < 1073741824
def nY (i j:Int):Prop:=0<=j/\j<=1000000/\i.natAbs < 2 ^ 64
def V7 (i j:Int):Prop:=(-(2 ^ 64) < i/\i < 2 ^ 64)\/(-(2 ^ 64) < j/\j < 2 ^ 64)
theorem V7.ok {i j:Int} (h:V7 i j):IntMulOk i j:=by
 rcases h with⟨h1,h2⟩|⟨h1,h2⟩
 ·exact .of_left (intBits_le_64 h1 h2)
 ·exact .of_right (intBits_le_64 h1 h2)
theorem BL:OpR X (binaryOp .Add) (rI0 λi j=>.int (i+j)):=cG λ_ _ _ _ _ _ _ q=>add_int q
theorem Nx:OpR X (binaryOp .Sub) (rI0 λi j=>.int (i - j)):=cG λ_ _ _ _ _ _ _ q=>sub_int q
theorem FN:OpR X (binaryOp .Mult) (rI V7 λi j=>.int (i*j)):=opI λ_ _ _ _ _ _ _ hc q=>mul_int q hc.ok
theorem Oq:OpR X (binaryOp .FloorDiv) (rI nZ λi j=>.int (i / j)):=opI λi j _ _ _ _ _ hc q=>by
 have h1:(0:Int) < j:=hc.1;have h2:j < 1073741824:=hc.2;exact floordiv_int (by omega) (by rw[Int.fdiv_eq_ediv_of_nonneg i (by omega)];exact q) (.inl (PyProof.noPylong_small (by omega)))
theorem G8:OpR X (binaryOp .Mod) (rI (λ_ j=>0 < j) λi j=>.int (i % j)):=opI λi j _ _ _ _ _ hc q=>by
 have h1:(0:Int) < j:=hc;exact mod_int' (by omega) (by rw[Int.fmod_eq_emod_of_nonneg i (by omega)];exact q)
theorem Rj:OpR X (binaryOp .Pow) (rI nY λi j=>.int (i ^ j.toNat)):=opI λ_ _ _ _ _ _ _ hc q=>pow_int_small hc.1 hc.2.1 hc.2.2 q
theorem unI {f:Value->Sem Value} {g:Int->Int}
  (rule:∀(i:Int) (t:Tok) (s:Shared) (Q:YA) (E:YA),Q (.int (g i) s.toks) { s with toks:=s.toks+1 }->wpAny (model X.prog X.w) X.A (f (.int i t)) Q E s) :
  UnR X f (rU λi=>.int (g i)):=by
 intro jb s U H x v Q I rx h;obtain⟨i,rfl,q⟩:=h;obtain⟨t,rfl⟩:=rx;exact rule i t s _ _ ⟨.int (g i),H,I.tok _,⟨_,rj⟩,q⟩
theorem Nk:UnR X (unaryOp .USub) (rU λi=>.int (-i)):=unI λ_ _ _ _ _ q=>neg_int q
end
def bY:V->V->Bool
 | .non,.non=>true | .non,.int _=>true | .int _,.non=>true | .non,.bl _=>true | .bl _,.non=>true | .non,.str _=>true | .str _,.non=>true
 | .int _,.int _=>true | .bl _,.bl _=>true | .str _,.str _=>true | .byt _,.byt _=>true
 | .int _,.str _=>true | .str _,.int _=>true | .bl _,.str _=>true | .str _,.bl _=>true
 | _,_=>false
def rEq:R2:=λx y H Q=>bY x y=true/\Q (.bl (decide (x=y))) H
def rNe:R2:=λx y H Q=>bY x y=true/\Q (.bl (!decide (x=y))) H
theorem Uv {i j:Int}:decide (V.int i=V.int j)=(i == j):=by
 rw[Qbv];simp
theorem Xq {i j:Bool}:decide (V.bl i=V.bl j)=(i == j):=by
 rw[Qbv];simp
theorem Uu {i j:Str}:decide (V.str i=V.str j)=(i == j):=by
 rw[Qbv];simp
theorem Uw {i j:Array UInt8}:decide (V.byt i=V.byt j)=(i.toList == j.toList):=by
 rw[Qbv];cases i;cases j;simp
section
variable {X:Cx} {a b c:Expr} {ta tb tc:TE} {pos:Pos}
theorem Bw {jb:YC} {U : St} {H:Hp} {s:Shared} {Q:VK} {k k':Bool} (I:Inv X jb U H s) (q:Q (.bl k) H) (e:k=k'):EP X jb U Q (.bool k') s:=by
 subst e;exact⟨.bl k,H,I,rj,q⟩
theorem Ju:OpR X (compareOp .Eq) rEq:=by
 intro jb s U H x y v u Q I rx ry h;obtain⟨hs,q⟩:=h;cases x with
 | non=>
  cases rx;cases y with
  | non=>cases ry;exact PySem.EqNone.eq_none_none (Bw I q (by simp))
  | bl j=>cases ry;exact PySem.EqNone.eq_none_bool (Bw I q (by simp))
  | int j=>obtain⟨t',rfl⟩:=ry;exact PySem.EqNone.eq_none_int (Bw I q (by simp))
  | str j=>obtain⟨t',rfl⟩:=ry;exact PySem.EqNone.eq_none_str (Bw I q (by simp))
  | _=>exact absurd (show false=true from hs) QaG
 | bl i=>
  cases rx;cases y with
  | non=>cases ry;exact PySem.EqNone.eq_bool_none (Bw I q (by simp))
  | bl j=>cases ry;exact eq_bool (Bw I q Xq)
  | str j=>obtain⟨t',rfl⟩:=ry;exact PySem.EqMixed.eq_bool_str (Bw I q (by simp))
  | _=>exact absurd (show false=true from hs) QaG
 | int i=>
  obtain⟨t,rfl⟩:=rx;cases y with
  | non=>cases ry;exact PySem.EqNone.eq_int_none (Bw I q (by simp))
  | int j=>obtain⟨t',rfl⟩:=ry;exact eq_int (Bw I q Uv)
  | str j=>obtain⟨t',rfl⟩:=ry;exact PySem.EqMixed.eq_int_str (Bw I q (by simp))
  | _=>exact absurd (show false=true from hs) QaG
 | str i=>
  obtain⟨t,rfl⟩:=rx;cases y with
  | non=>cases ry;exact PySem.EqNone.eq_str_none (Bw I q (by simp))
  | bl j=>cases ry;exact PySem.EqMixed.eq_str_bool (Bw I q (by simp))
  | int j=>obtain⟨t',rfl⟩:=ry;exact PySem.EqMixed.eq_str_int (Bw I q (by simp))
  | str j=>obtain⟨t',rfl⟩:=ry;exact eq_str (Bw I q Uu)
  | _=>exact absurd (show false=true from hs) QaG
 | byt i=>
  obtain⟨t,rfl⟩:=rx;cases y with
  | byt j=>obtain⟨t',rfl⟩:=ry;exact PySem.W.eq_bytes (Bw I q Uw)
  | _=>exact absurd (show false=true from hs) QaG
 | _=>cases y <;> exact absurd (show false=true from hs) QaG
theorem Lk:OpR X (compareOp .NotEq) rNe:=by
 intro jb s U H x y v u Q I rx ry h;obtain⟨hs,q⟩:=h;cases x with
 | non=>
  cases rx;cases y with
  | non=>cases ry;exact PySem.EqNone.ne_none_none (Bw I q (by simp))
  | bl j=>cases ry;exact PySem.EqNone.ne_none_bool (Bw I q (by simp))
  | int j=>obtain⟨t',rfl⟩:=ry;exact PySem.EqNone.ne_none_int (Bw I q (by simp))
  | str j=>obtain⟨t',rfl⟩:=ry;exact PySem.EqNone.ne_none_str (Bw I q (by simp))
  | _=>exact absurd (show false=true from hs) QaG
 | bl i=>
  cases rx;cases y with
  | non=>cases ry;exact PySem.EqNone.ne_bool_none (Bw I q (by simp))
  | bl j=>cases ry;exact ne_bool (Bw I q (congrArg not Xq))
  | str j=>obtain⟨t',rfl⟩:=ry;exact PySem.EqMixed.ne_bool_str (Bw I q (by simp))
  | _=>exact absurd (show false=true from hs) QaG
 | int i=>
  obtain⟨t,rfl⟩:=rx;cases y with
  | non=>cases ry;exact PySem.EqNone.ne_int_none (Bw I q (by simp))
  | int j=>obtain⟨t',rfl⟩:=ry;exact ne_int (Bw I q (congrArg not Uv))
  | str j=>obtain⟨t',rfl⟩:=ry;exact PySem.EqMixed.ne_int_str (Bw I q (by simp))
  | _=>exact absurd (show false=true from hs) QaG
 | str i=>
  obtain⟨t,rfl⟩:=rx;cases y with
  | non=>cases ry;exact PySem.EqNone.ne_str_none (Bw I q (by simp))
  | bl j=>cases ry;exact PySem.EqMixed.ne_str_bool (Bw I q (by simp))
  | int j=>obtain⟨t',rfl⟩:=ry;exact PySem.EqMixed.ne_str_int (Bw I q (by simp))
  | str j=>obtain⟨t',rfl⟩:=ry;exact ne_str (Bw I q (congrArg not Uu))
  | _=>exact absurd (show false=true from hs) QaG
 | byt i=>
  obtain⟨t,rfl⟩:=rx;cases y with
  | byt j=>obtain⟨t',rfl⟩:=ry;exact PySem.W.ne_bytes (Bw I q (congrArg not Uw))
  | _=>exact absurd (show false=true from hs) QaG
 | _=>cases y <;> exact absurd (show false=true from hs) QaG
theorem Kf:OpR X (compareOp .Lt) (rI0 λi j=>.bl (decide (i < j))):=Vk λ_ _ _ _ _ _ _ q=>lt_int q
theorem DY:OpR X (compareOp .LtE) (rI0 λi j=>.bl (decide (i<=j))):=Vk λ_ _ _ _ _ _ _ q=>le_int q
theorem Io:OpR X (compareOp .Gt) (rI0 λi j=>.bl (decide (j < i))):=Vk λ_ _ _ _ _ _ _ q=>gt_int q
theorem fU:OpR X (compareOp .GtE) (rI0 λi j=>.bl (decide (j<=i))):=Vk λ_ _ _ _ _ _ _ q=>ge_int q
theorem WL:OpR X (compareOp .In) (λx y H Q=>∃i j,x=.str i/\y=.str j/\Q (.bl (!(Builtin.Str.occurrences j i 0 j.length 1).isEmpty)) H):=by
 intro jb s U H x y v u Q I rx ry h;obtain⟨i,j,rfl,rfl,q⟩:=h;obtain⟨t,rfl⟩:=rx;obtain⟨t',rfl⟩:=ry;exact in_str (Bw I q rfl)
theorem Bq (b:Expr) {op:CmpOp} (h:op≠.In:=by decide) (h2:op≠.NotIn:=by decide):behindInMarks op b=false:=by
 have e1:(op == CmpOp.In)=false:=by cases op <;> first | rfl | exact absurd rfl h
 have e2:(op == CmpOp.NotIn)=false:=by cases op <;> first | rfl | exact absurd rfl h2
 cases b <;> simp[behindInMarks,e1,e2]
theorem Dn {op:CmpOp} {r:R2} (ho:OpR X (compareOp op) r) (ha:PE X a ta) (hb:PE X b tb) (hm:behindInMarks op b=false):PE X (.Compare a [op] [b] pos) (tOp r ta tb):=by
 intro jb s U H Q I h;exact wpAny_Compare1 (Ze ha hb I h λv u s2 x y H2 I2 rx ry q=>ho jb s2 U H2 x y v u Q I2 rx ry q) hm
def Zy (t:TE):TT:=fun U H Q=>t U H λx H'=>∃k,x=.bl k/\Q k H'
theorem Br {op:CmpOp} {r:R2} (ho:OpR X (compareOp op) r) (ha:PE X a ta) (hb:PE X b tb) (hm:behindInMarks op b=false):PT X (.Compare a [op] [b] pos) (Zy (tOp r ta tb)):=by
 intro jb s U H Q I h;refine wpAny_isTrue_Compare1 (thn (ha jb s U H _ I h) λv s1 ⟨x,H1,I1,r1,q1⟩=>thn (hb jb s1 U H1 _ I1 q1) λu s2 ⟨y,H2,I2,r2,q2⟩=>
  thn (ho jb s2 U H2 x y v u _ I2 r1 r2 q2) λc s3 ⟨z,H3,I3,r3,k,e,q3⟩=>?_) hm
 subst e;cases r3;exact QaW ⟨H3,I3,q3⟩
def Wg (r r':R2) (ta tb tc:TE):TE:=fun U H Q=>ta U H λx H1=>tb U H1 λy H2=>r x y H2 λz H3=>∃k,z=.bl k /\
 (if k=true then tc U H3 λw' H4=>r' y w' H4 Q else Q (.bl false) H3)
theorem Jd {op op':CmpOp} {r r':R2} (ho:OpR X (compareOp op) r) (ho':OpR X (compareOp op') r') (ha:PE X a ta) (hb:PE X b tb) (hc:PE X c tc)
  (hm:lastMarks [op,op'] [b,c]=false:=by with_unfolding_all rfl):PE X (.Compare a [op,op'] [b,c] pos) (Wg r r' ta tb tc):=by
 intro jb s U H Q I h;refine Compare_chain (thn (ha jb s U H _ I h) λv s1 ⟨x,H1,I1,r1,q1⟩=>chain_link (thn (hb jb s1 U H1 _ I1 q1) λu s2 ⟨y,H2,I2,r2,q2⟩=>
  thn (ho jb s2 U H2 x y v u _ I2 r1 r2 q2) λd s3 ⟨z,H3,I3,r3,k,e,q3⟩=>?_)) hm
 subst e;cases r3;refine QaW ?_;cases k with
 | false=>exact ite_ff ⟨.bl false,H3,I3,rfl,q3⟩
 | true=>exact ite_tt (chain_last (thn (hc jb s3 U H3 _ I3 q3) λw' s4 ⟨z',H4,I4,r4,q4⟩=>ho' jb s4 U H4 y z' u w' Q I4 r2 r4 q4))
theorem Mu {op op':CmpOp} {r r':R2} (ho:OpR X (compareOp op) r) (ho':OpR X (compareOp op') r') (ha:PE X a ta) (hb:PE X b tb) (hc:PE X c tc)
  (hm:lastMarks [op,op'] [b,c]=false:=by with_unfolding_all rfl):PT X (.Compare a [op,op'] [b,c] pos) (Zy (Wg r r' ta tb tc)):=by
 intro jb s U H Q I h;refine isTrue_chain (thn (ha jb s U H _ I h) λv s1 ⟨x,H1,I1,r1,q1⟩=>test_link (thn (hb jb s1 U H1 _ I1 q1) λu s2 ⟨y,H2,I2,r2,q2⟩=>
  thn (ho jb s2 U H2 x y v u _ I2 r1 r2 q2) λd s3 ⟨z,H3,I3,r3,k,e,q3⟩=>?_)) hm
 subst e;cases r3;refine QaW ?_;cases k with
 | false=>
  obtain⟨k',e',q'⟩:=q3;cases e';exact ite_ff ⟨H3,I3,q'⟩
 | true=>
  refine ite_tt (test_last (thn (hc jb s3 U H3 _ I3 q3) λw' s4 zz=>?_));obtain⟨z',H4,I4,r4,q4⟩:=zz;refine thn (ho' jb s4 U H4 y z' u w' _ I4 r2 r4 q4) λd' s5 zz=>?_;obtain⟨z2,H5,I5,r5,k2,e2,q5⟩:=zz;subst e2;cases r5;exact QaW ⟨H5,I5,q5⟩
theorem JN:(sizeLine:Nat) < 2 ^ 63:=by rw[QbV];decide
theorem Ny:OpR X (binaryOp .Add) (λx y H Q=>∃i j,x=.str i/\y=.str j/\i.length+j.length<=sizeLine/\Q (.str (i++j)) H):=by
 intro jb s U H x y v u Q I rx ry h;obtain⟨i,j,rfl,rfl,hz,q⟩:=h;obtain⟨t,rfl⟩:=rx;obtain⟨t',rfl⟩:=ry;exact add_str (λt' tk=>⟨.str (i++j),H,I.tok _,⟨_,rj⟩,q⟩) hz
theorem vals1 {x:V} {us:YE} (r:Vals [x] us):∃u,us=[u]/\RelV x u:=by
 cases r with
 | cons r1 r2=>cases r2;exact⟨_,rfl,r1⟩
theorem vals2 {x y:V} {us:YE} (r:Vals [x,y] us):∃u w',us=[u,w']/\RelV x u/\RelV y w':=by
 cases r with
 | cons r1 r2=>
  cases r2 with
  | cons r3 r4=>cases r4;exact⟨_,_,rfl,r1,r3⟩
theorem Sx:Ea X (.builtin "abs") (λxs H Q=>∃i,xs=[.int i]/\Q (.int (if i < 0 then -i else i)) H):=by
 intro jb s U H xs us Q I r h;obtain⟨i,rfl,q⟩:=h;obtain⟨u,rfl,t,rfl⟩:=vals1 r;exact call_abs_int λu tk=>⟨.int (if i < 0 then -i else i),H,I.tok _,⟨_,rj⟩,q⟩
theorem P0 (hc:X.calm=true):Ea X (.builtin "max") (λxs H Q=>∃i j,xs=[.int i,.int j]/\Q (.int (if j > i then j else i)) H):=by
 intro jb s U H xs us Q I r h;obtain⟨i,j,rfl,q⟩:=h;obtain⟨u,w',rfl,⟨t,rfl⟩,⟨t',rfl⟩⟩:=vals2 r;refine max_two_ints (I.ok.hd hc) λh' tk k=>⟨_,H,I.kept k,?_,q⟩;by_cases hj:j > i
 ·rw[if_pos hj,if_pos hj];exact⟨_,rj⟩
 ·rw[if_neg hj,if_neg hj];exact⟨_,rj⟩
theorem Lf (hc:X.calm=true):Ea X (.builtin "min") (λxs H Q=>∃i j,xs=[.int i,.int j]/\Q (.int (if j < i then j else i)) H):=by
 intro jb s U H xs us Q I r h;obtain⟨i,j,rfl,q⟩:=h;obtain⟨u,w',rfl,⟨t,rfl⟩,⟨t',rfl⟩⟩:=vals2 r;refine min_two_ints (I.ok.hd hc) λh' tk k=>⟨_,H,I.kept k,?_,q⟩;by_cases hj:j < i
 ·rw[if_pos hj,if_pos hj];exact⟨_,rj⟩
 ·rw[if_neg hj,if_neg hj];exact⟨_,rj⟩
theorem Qc:Ea X (.type "int") (λxs H Q=>(∃i,xs=[.int i]/\Q (.int i) H)\/∃k,xs=[.bl k]/\Q (.int (if k then 1 else 0)) H):=by
 intro jb s U H xs us Q I r h;rcases h with⟨i,rfl,q⟩|⟨k,rfl,q⟩
 ·obtain⟨u,rfl,t,rfl⟩:=vals1 r;exact call_int_int ⟨.int i,H,I,⟨_,rj⟩,q⟩
 ·obtain⟨u,rfl,r1⟩:=vals1 r;cases r1;exact call_int_bool ⟨.int (if k then 1 else 0),H,I.tok _,⟨_,rj⟩,q⟩
end
structure Zm (h:Heap) (x dx C:Addr) (mA:YB):Prop where
 obj:h.get? x=some (instObj C dx)
 ns:h.Ns1 dx mA
 ne:dx≠x
theorem W0 {h:Heap} {dx:Addr} {mA:YB} (n:h.Ns1 dx mA):∃od,h.get? dx=some od/\∀name,PySem.W.lookIn name od=some (mA name):=by
 obtain⟨o,es,ep,ho,hd,hk,_,hm⟩:=n;refine⟨o,ho,λname=>?_⟩;have e:=hm name;unfold nsFind findBy at e;rw[<-Array.find?_toList] at e;unfold PySem.W.lookIn;rw[hd];dsimp only;split
 ·rename_i y q;rw[q] at e;exact congrArg some e
 ·rename_i q;rw[q] at e;have a:es.toList.any (·.refKey)=false:=by
   rw[List.any_eq_false];intro y hy;obtain⟨z,t,hkey⟩:=hk y (Array.mem_toList_iff.mp hy);simp[DictEntry.refKey,hkey]
  have a':¬es.toList.any (·.refKey)=true:=by rw[a];exact QaG
  rw[if_neg a'];exact congrArg some e
theorem Zm.look {h:Heap} {x dx C:Addr} {mA:YB} (I:Zm h x dx C mA):∃od,PySem.W.InstAt h x (instObj C dx) C (some od)/\∀name,PySem.W.lookIn name od=some (mA name):=
 let ⟨od,ho,hl⟩:=W0 I.ns
 ⟨od,⟨I.obj,rj,rj,ho⟩,hl⟩
section
variable {prog:Program} {w:World} {A:Around} {E:YA} {s:Shared} {K:YD} {x dx C f:Addr} {mA:YB} {name:Str} {v:Value}
end
section
variable {P:Program} {w:World} {H H':Hp} {h h':Heap} {a C dx:Addr} {fs fs':List (Str×V)}
theorem aX (hok:HOk P w H h) (e:H a=some (.ins C dx fs)):∃mA,Zm h a dx C mA/\(∀f,Ks (fs.lookup f) (mA f))/\PySem.Within mA (fs.map (·.1))/\fs.length<=1000/\H dx=some (.own a):=by
 obtain⟨d,z,ne,ob,mA,n,r,q⟩:=(show BZ P w H h a (.ins C dx fs) from hok a _ e)
 exact⟨mA,⟨ob,n,ne⟩,r,q,z,d⟩
end
structure Cls (K:YD) (C:Addr):Prop where
 pg:PySem.W.plainGet K C Str.empty=true
 hd:PySem.W.hasDictIn K C=true
 po:PySem.W.plainOver K C=true
 sa:findIn K (.ref C) "__setattr__"=some (some (.builtin "object.__setattr__"))
theorem Cls.get {K:YD} {C:Addr} (c:Cls K C) (f:Str):PySem.W.plainGet K C f=true:=c.pg
structure Meth (K:YD) (C:Addr) (m:Str) (f:Addr):Prop where
 at_:findIn K (.ref C) m=some (some (.ref f))
 fn:PySem.W.isFn K (.ref f)=true
 kp:keepIn K (.ref f)=true
section
variable {X:Cx} {jb:YC} {U : St} {H:Hp} {s:Shared} {a C dx:Addr} {fs:List (Str×V)} {f:Str} {v:V} {A:Around} {E:YA}
theorem Inv.made (I:Inv X jb U H s):Inv X jb U (upd (upd H s.heap.objs.size (.own (s.heap.objs.size+1))) (s.heap.objs.size+1) (.ins C s.heap.objs.size []))
  { s with heap:=(s.heap.push emptyDict).push (instObj C s.heap.objs.size) }:=by
 have e1:(s.heap.push emptyDict).get? s.heap.objs.size=some emptyDict:=Qaz s.heap rfl;have e2:((s.heap.push emptyDict).push (instObj C s.heap.objs.size)).get? (s.heap.objs.size+1)=some (instObj C s.heap.objs.size):=by
  have:=Qaz (s.heap.push emptyDict) (o:=instObj C s.heap.objs.size) rfl
  rwa [QbA] at this
 have e3:(s.heap.push emptyDict).Ns s.heap.objs.size (λ_=>none):=⟨emptyDict,#[],_,e1,rj,(λe he=>absurd he (by simp)),λ_=>rfl⟩;have I1:=I.laid (a:=s.heap.objs.size) (o:=.own (s.heap.objs.size+1)) (h':=s.heap.push emptyDict) (t':=s.toks) (λb u q=>Qap _ q) (QbR _) ⟨_,e1⟩;refine I1.laid (a:=s.heap.objs.size+1) (o:=.ins C s.heap.objs.size []) (t':=s.toks) (λb u q=>Qap _ q) (Nat.le_of_eq (QbA _ _)) ?_;have ne:s.heap.objs.size≠s.heap.objs.size+1:=QbN (Nat.lt_succ_self _);refine⟨by rw[Bd ne,Ad],QbS _,ne,e2,λ_=>none,(Heap.Ns1.of_empty e3).at λo q=>Qap _ q,λ_=>True.intro,λy hy=>absurd rfl hy⟩
end
section
variable {X:Cx} {o e value:Expr} {f:Str} {pos pos' tpos:Pos} {ta tv:TE}
end
section
variable {X:Cx} {jb:YC} {U : St} {H:Hp} {s:Shared} {A:Around} {E:YA} {Q:YA} {c:Value} {b:Bool}
inductive Hs (K:YD) (H:Hp):V->Value->Prop where
 | non:Hs K H .non (.type "NoneType")
 | bl (x:Bool):Hs K H (.bl x) (.type "bool")
 | int (i:Int):Hs K H (.int i) (.type "int")
 | str (x:Str):Hs K H (.str x) (.type "str")
 | flt (x:UInt64):Hs K H (.flt x) (.type "float")
 | lst {a:Addr} {xs:YG} (e:H a=some (.lst xs)):Hs K H (.ref a) (.type "list")
 | frz {a:Addr} {o:Obj} {xs:YG} (e:H a=some (.frz o (.lst xs))):Hs K H (.ref a) (.type "list")
 | tup {a:Addr} {xs:YG} (e:H a=some (.tup xs)):Hs K H (.ref a) (.type "tuple")
 | dK {a:Addr} {kvs:List (Key×V)} (e:H a=some (.dK kvs)):Hs K H (.ref a) (.type "dict")
 | dT {a:Addr} {kvs:List (List Key×V)} (e:H a=some (.dT kvs)):Hs K H (.ref a) (.type "dict")
 | ins {a C dx:Addr} {fs:List (Str×V)} (e:H a=some (.ins C dx fs)) (cl:Cls K C) (ha:findIn K (.ref C) "__class__"=some (some (.builtin "object.__class__")))
   (hn:PySem.W.specialIn K (.builtin "object.__class__") "__get__"=some (some (.builtin "getset_descriptor.__get__"))) (htk:PySem.W.takesIn K (.builtin "object.__class__")=some true)
   (hm:PySem.W.mroIn K C (.type "object")=some true):Hs K H (.ref a) (.ref C)
theorem W7 {x:V} {u t:Value} (I:Inv X jb U H s) (rx:RelV x u) (ty:Hs X.K H x t) (e:kitOne X.K t c=some b) (h:∀tk,Q (.bool b) { s with toks:=tk }) :
  wpAny (model X.prog X.w) A (call (.builtin "isinstance") [u,c]) Q E s:=by
 cases ty with
 | non=>cases (show u=Value.none from rx);exact kia_one PySem.W.kitx_none I.kIn True.intro e (λz=>nomatch z) h
 | bl y=>cases (show u=Value.bool y from rx);exact kia_one PySem.W.kitx_bool I.kIn True.intro e (λz=>nomatch z) h
 | int i=>obtain⟨t,q⟩:=(show ∃t,u=Value.int i t from rx);cases q;exact kia_one PySem.W.kitx_int I.kIn True.intro e (λz=>nomatch z) h
 | str y=>obtain⟨t,q⟩:=(show ∃t,u=Value.str y t from rx);cases q;exact kia_one PySem.W.kitx_str I.kIn True.intro e (λz=>nomatch z) h
 | flt y=>obtain⟨t,q⟩:=(show ∃t,u=Value.float y t from rx);cases q;exact kia_one PySem.W.kitx_float I.kIn True.intro e (λz=>nomatch z) h
 | @lst a xs ea=>
  cases (show u=Value.ref a from rx)
  obtain⟨_,_,n,_,h1⟩:=(show BZ X.prog X.w H s.heap a (.lst xs) from I.hok a _ ea)
  exact kia_one PySem.W.kitx_list I.kIn ⟨_,h1,rj⟩ e (λz=>nomatch z) h
 | @frz a ob xs ea=>
  cases (show u=Value.ref a from rx)
  obtain⟨_,_,_,n,_,h1⟩:=(show BZ X.prog X.w H s.heap a (.frz ob (.lst xs)) from I.hok a _ ea)
  exact kia_one PySem.W.kitx_list I.kIn ⟨_,h1,rj⟩ e (λz=>nomatch z) h
 | @tup a xs ea=>
  cases (show u=Value.ref a from rx)
  obtain⟨_,_,_,p⟩:=(show BZ X.prog X.w H s.heap a (.tup xs) from I.hok a _ ea)
  obtain⟨o,h1,h2,_⟩:=p;exact kia_one PySem.W.kitx_tuple I.kIn ⟨o,h1,h2⟩ e (λz=>nomatch z) h
 | @dK a kvs ea=>
  cases (show u=Value.ref a from rx)
  obtain⟨_,_,vs,_,p⟩:=(show BZ X.prog X.w H s.heap a (.dK kvs) from I.hok a _ ea)
  obtain⟨o,es,ep,h1,h2,_⟩:=p;exact kia_one PySem.W.kitx_dict I.kIn ⟨o,h1,h2.1⟩ e (λz=>nomatch z) h
 | @dT a kvs ea=>
  cases (show u=Value.ref a from rx)
  obtain⟨_,_,xs,_,o,es,ep,h1,h2,_⟩:=(show BZ X.prog X.w H s.heap a (.dT kvs) from I.hok a _ ea)
  exact kia_one PySem.W.kitx_dict I.kIn ⟨o,h1,h2.1⟩ e (λz=>nomatch z) h
 | @ins a C dx fs ea cl ha hn htk hm=>
  cases (show u=Value.ref a from rx)
  obtain⟨mA,O,_⟩:=aX I.hok ea;obtain⟨od,J,_⟩:=O.look;exact kia_one (PySem.W.kitx_own (cl.get _) cl.hd ha hn htk hm) I.kIn J e (λz=>nomatch z) h
end
structure Ds (k:Nat) (A:Around):Prop where
 hd:A.handled=none
 dp:A.depth+3*k+5 < recursionLimit
 un:A.units+16*k+200 < cLine
theorem Ds.mono {j k:Nat} {A:Around} (r:Ds k A) (h:j<=k):Ds j A:=⟨r.hd,by have:=r.dp;omega,by have:=r.un;omega⟩
theorem Ds.deeper {k:Nat} {A:Around} (r:Ds (k+1) A) (env:Env):Ds k (A.deeper env):=
 ⟨r.hd,by have:=r.dp;show A.depth+1+3*k+5 < _;omega,by have:=r.un;show A.units+3+16*k+200 < _;omega⟩
theorem Ds.in1 {k:Nat} {A:Around} (r:Ds (k+1) A):Ds k A.in1:=
 ⟨r.hd,by have:=r.dp;show A.depth+3*k+5 < _;omega,by have:=r.un;show A.units+1+16*k+200 < _;omega⟩
theorem Ds.depth {k:Nat} {A:Around} (r:Ds k A):A.depth < recursionLimit:=by have:=r.dp;omega
theorem Ds.units {k:Nat} {A:Around} (r:Ds k A):A.units+64 < cLine:=by have:=r.un;omega
def bK:TA:=λ_ H Q=>Q [] H
def Zz (ta:TE) (tr:TA):TA:=fun U H Q=>ta U H λx H1=>tr U H1 λxs H2=>Q (x::xs) H2
section
variable {X:Cx} {e:Expr} {es:YJ} {te:TE} {t:TA} {pos:Pos}
theorem Ab:PA X [] bK:=λ_ _ _ _ H Q I h=>Calls.spliced_nil ⟨[],H,I,.nil,h⟩
theorem Aa (ha:PE X e te) (hr:PA X es t) (hs:starEach (e::es) X.env=(false,eval e X.env)::starEach es X.env:=by rfl):PA X (e::es) (Zz te t):=by
 intro pos jb s U H Q I h;rw[hs];show wpAny _ _ (spliced ((false,eval e X.env)::backTo pos (starEach es X.env))) _ _ s;refine Calls.spliced_cons (thn (ha jb s U H _ I h) λu s1 zz=>?_);obtain⟨x,H1,I1,r1,q1⟩:=zz;refine thn (hr pos jb s1 U H1 _ I1 q1) λus s2 zz=>?_;obtain⟨xs,H2,I2,r2,q2⟩:=zz;exact⟨x::xs,H2,I2,.cons r1 r2,q2⟩
def gO (t:TA):TE:=fun U H Q=>t U H λxs H1=>xs.length<=sizeLine/\∀p,H1 p=none->Q (.ref p) (upd H1 p (.tup xs))
def gU (t:TA):TE:=fun U H Q=>t U H λxs H1=>xs.length<=sizeLine/\∀p,H1 p=none->Q (.ref p) (upd H1 p (.lst xs))
theorem Bo {x1} (h:PA X es t):PE X (.Tuple es x1 pos) (gO t):=by
 intro jb s U H Q I hq;refine wpAny_Tuple_spliced (thn (h pos jb s U H _ I hq) λus s1 zz=>?_);obtain⟨xs,H1,I1,r,z,q⟩:=zz;refine⟨by rw[<-r.length];exact z,?_⟩;have hf:H1 s1.heap.objs.size=none:=I1.hok.fresh (QbR _);refine⟨.ref s1.heap.objs.size,upd H1 s1.heap.objs.size (.tup xs),I1.laid (t':=s1.toks) (λb u e=>Qap _ e) (QbR _) ?_,rj,q _ hf⟩;exact⟨z,us,r,⟨_,Qaz _ rfl,rj,_,rj⟩⟩
theorem Ca (h:PA X es t):PE X (.List es pos) (gU t):=by
 intro jb s U H Q I hq;refine wpAny_List_spliced (thn (h pos jb s U H _ I hq) λus s1 zz=>?_);obtain⟨xs,H1,I1,r,z,q⟩:=zz;refine⟨by rw[<-r.length];exact z,?_⟩;have hf:H1 s1.heap.objs.size=none:=I1.hok.fresh (QbR _);refine⟨.ref s1.heap.objs.size,upd H1 s1.heap.objs.size (.lst xs),I1.laid (t':=s1.toks) (λb u e=>Qap _ e) (QbR _) ?_,rj,q _ hf⟩;exact⟨z,us,0,r,Qaz _ rfl⟩
end
abbrev Sp:=YG->Hp->VK->XK->Prop
abbrev CXT:=List Env->Hp->Shared->XK->YA
structure Nh (P:Program) (w:World) (K:YD) (mg:YB) (base:Heap) (A:Around) (outer:List Env) (s:Shared) (H:Hp):Prop where
 frames:A.frames=some outer
 mod:Mod K mg base
 bs:∀b o,base.get? b=some o->s.heap.get? b=some o/\H b=none
 bsz:base.objs.size<=s.heap.objs.size
 Hr:s.heap.FunFrames base outer
 frf:∀b∈frs outer,H b=none
 hok:HOk P w H s.heap
 bare:AllBare s.gens
def CE (outer:List Env) (P:Program) (w:World) (H:Hp) (s:Shared) (Q:VK) (u:Value) (s':Shared):Prop:=
 ∃v H',s'.os=s.os/\AllBare s'.gens/\Un (frs outer) [] H H' s.heap s'.heap/\HOk P w H' s'.heap/\RelV v u/\Q v H'
def CR (CX:CXT) (outer:List Env) (P:Program) (w:World) (H:Hp) (s:Shared) (Q:VK) (E:XK) (r:Result) (s':Shared):Prop:=
 match r with
 | .ok (.ret u)=>CE outer P w H s Q u s'
 | .ok _=>False
 | .error e=>CX outer H s E e s'
structure FZ (P:Program) (w:World) (K:YD) (mg:YB) (base:Heap) (CX:CXT) (k:Nat) (f:Addr) (fd:FuncData) (ps:YF) (sp:Sp):Prop where
 len:∀vs H Q E,sp vs H Q E->vs.length=ps.length
 run:∀(A:Around) (outer:List Env) (s:Shared) (H:Hp) (args:Args) (us:YE) (vs:YG) (Q:VK) (E:XK),Ds k A->Nh P w K mg base A outer s H->BindsTo s fd args (ps.zip us)->Vals vs us->sp vs H Q E ->
  codeAny (model P w) A (.call (.ref f) args) (CR CX outer P w H s Q E) s
theorem FZ.mono {P:Program} {w:World} {K:YD} {mg:YB} {base:Heap} {CX:CXT} {j k:Nat} {f:Addr} {fd:FuncData} {ps:YF} {sp:Sp} (F:FZ P w K mg base CX j f fd ps sp) (h:j<=k) :
  FZ P w K mg base CX k f fd ps sp:=⟨F.len,λA outer s H args us vs Q E hr=>F.run A outer s H args us vs Q E (hr.mono h)⟩
theorem FZ.imp {P:Program} {w:World} {K:YD} {mg:YB} {base:Heap} {CX:CXT} {k:Nat} {f:Addr} {fd:FuncData} {ps:YF} {sp sp':Sp} (F:FZ P w K mg base CX k f fd ps sp)
  (h:∀vs H Q E,sp' vs H Q E->sp vs H Q E):FZ P w K mg base CX k f fd ps sp':=
 ⟨λvs H Q E q=>F.len vs H Q E (h _ _ _ _ q),λA outer s H args us vs Q E hr he hb hv hs=>F.run A outer s H args us vs Q E hr he hb hv (h _ _ _ _ hs)⟩
theorem Nh.in1 {P:Program} {w:World} {K:YD} {mg:YB} {base:Heap} {A:Around} {outer:List Env} {s:Shared} {H:Hp} (e:Nh P w K mg base A outer s H) :
  Nh P w K mg base A.in1 outer s H:=⟨e.frames,e.mod,e.bs,e.bsz,e.Hr,e.frf,e.hok,e.bare⟩
section
variable {X:Cx} {jb:YC} {U : St} {H:Hp} {s s':Shared}
theorem Inv.env0 (I:Inv X jb U H s):Nh X.prog X.w X.K X.mg X.base X.A X.stack s H:=
 ⟨I.ok.frames,I.ok.mod,I.bs,QbO I.ok.bsz I.sz,I.stack,I.Oc,I.hok,I.bare⟩
theorem Inv.after {Q:VK} {u:Value} (I:Inv X jb U H s) (h:CE X.stack X.prog X.w H s Q u s'):EP X jb U Q u s':=by
 obtain⟨v,H',os,bare,un,hok,r,q⟩:=h;obtain⟨hh,g,d,t,os'⟩:=s';obtain rfl:os'=s.os:=os;exact⟨v,H',I.call (h':=hh) (g':=g) (d':=d) (t':=t) (ch:=[]) un hok bare (λb z=>absurd z (by simp)),r,q⟩
end
def ZC (sp:Sp) (dvs:YG) (E:XK) (t:TA):TE:=fun U H Q=>t U H λvs H1=>sp (vs++dvs) H1 Q E
def Binds (K:YD) (fd:FuncData) (ps:YF) (ds:YE):Prop:=
 ∀(s:Shared) (us:YE),K.In s.heap->(us++ds).length=ps.length->BindsTo s fd ⟨us,[]⟩ (ps.zip (us++ds))
theorem Binds.all {K:YD} {fd:FuncData} {ps:YF} (h:∀us:YE,us.length=ps.length->bindArgs fd ⟨us,[]⟩=pure (ps.zip us)):Binds K fd ps []:=λs us _ hl=>by
 rw[Qbs] at hl ⊢;exact .of_eq (h us hl)
def Passes (CX:CXT) (X:Cx) (E:XK):Prop:=∀(jb:YC) (U : St) (H:Hp) (s:Shared) (e:Value) (s':Shared),Inv X jb U H s->CX X.stack H s E e s'->X.xe e s'
section
variable {X:Cx} {CX:CXT} {k:Nat} {f C:Addr} {fd:FuncData} {ps:YF} {sp:Sp} {dvs:YG} {ds:YE} {E:XK} {x m:Str} {p pos apos:Pos} {e o:Expr} {es:YJ} {ta:TE} {t:TA}
theorem cg {jb:YC} {U : St} {H:Hp} {s:Shared} {Q:VK} {us:YE} {vs:YG} (F:FZ X.prog X.w X.K X.mg X.base CX k f fd ps sp) (hr:Ds k X.A) (hb:Binds X.K fd ps ds) (hd:Vals dvs ds) (hx:Passes CX X E)
  (I:Inv X jb U H s) (r:Vals vs us) (h:sp (vs++dvs) H Q E):wpAny (model X.prog X.w) X.A (call (.ref f) us) (EP X jb U Q) X.xe s:=by
 have r2:Vals (vs++dvs) (us++ds):=r.append hd;have hl:(us++ds).length=ps.length:=by rw[<-r2.length];exact F.len _ _ _ _ h
 refine wpAny_call (codeAny_mono (F.run X.A X.stack s H ⟨us,[]⟩ (us++ds) (vs++dvs) Q E hr I.env0 (hb s us I.kIn hl) r2 h) λr s' hq=>?_);cases r with
 | error e=>exact hx jb U H s e s' I hq
 | ok fl=>
  cases fl with
  | ret u=>exact I.after hq
  | next=>exact False.elim hq
  | brk=>exact False.elim hq
  | cont=>exact False.elim hq
theorem aq (F:FZ X.prog X.w X.K X.mg X.base CX k f fd ps sp) (hr:Ds k X.A) (hg:Gl X x) (hm:X.mg x=some (.ref f)) (hk:keepIn X.K (.ref f)=true) (hb:Binds X.K fd ps ds) (hd:Vals dvs ds) (hx:Passes CX X E)
  (ha:PA X (e::es) t) (hdb:(x == ("__debug__":Str))=false:=by decide) (he:starEach (e::es) X.env=(false,eval e X.env)::starEach es X.env:=by rfl) (hpl:(backTo pos (starEach es X.env)).any (·.1)=false:=by rfl) :
  PE X (.Call (.Name x p) (e::es) [] pos) (ZC sp dvs E t):=by
 intro jb s U H Q I h;refine wpAny_Call_Name_kw (Uk I hg hm ?_ hdb);refine PySem.W.callWith_K (h₀:=X.base) I.ok.mod.kin hk (thn (ha pos jb s U H _ I h) λus s1 zz=>?_) he hpl;obtain⟨vs,H1,I1,r,q⟩:=zz;refine⟨I1.kIn,?_⟩;exact cg F hr hb hd hx I1 r q
end
def PK (X:Cx) (kws:List Keyword) (t:TA):Prop:=
 ∀(pos:Pos) (jb:YC) (s:Shared) (U : St) (H:Hp) (Q:YG->Hp->Prop),Inv X jb U H s->t U H Q->wpAny (model X.prog X.w) X.A (evalAll ((backToKw pos (keywordEach kws X.env)).map (·.2))) (AP X jb U Q) X.xe s
section
variable {X:Cx} {CX:CXT} {k:Nat} {f C:Addr} {fd:FuncData} {ps ks:YF} {sp:Sp} {E:XK} {x m:Str} {p pos apos kpos:Pos} {e o:Expr} {es:YJ} {kws:List Keyword} {te ta:TE} {t tk:TA} {nm:Option Str}
theorem cB:PK X [] bK:=λ_ _ _ _ H Q I h=>wpAny_evalAll_nil ⟨[],H,I,.nil,h⟩
theorem ak (ha:PE X e te) (hr:PK X kws t):PK X (⟨nm,e,kpos⟩::kws) (Zz te t):=by
 intro pos jb s U H Q I h;show wpAny _ _ (evalAll ((do let v <-eval e X.env;standAt pos;pure v)::(backToKw pos (keywordEach kws X.env)).map (·.2))) _ _ s
 refine wpAny_evalAll_cons (QbW (thn (ha jb s U H _ I h) λu s1 zz=>?_));obtain⟨x,H1,I1,r1,q1⟩:=zz;refine QbW (QbL (QbX ?_));refine thn (hr pos jb s1 U H1 _ I1 q1) λus s2 zz=>?_;obtain⟨xs,H2,I2,r2,q2⟩:=zz;exact⟨x::xs,H2,I2,.cons r1 r2,q2⟩
variable {g:YE->YE->YE} {gV:YG->YG->YG}
end
structure Bk (N P:YF) (sc:Scope):Prop where
 kind:sc.kind=.function
 co:sc.isCoroutine=false
 gen:sc.isGenerator=false
 nd:N.Nodup
 pre:N.take P.length=P
 par:∀x∈P,sc.names.lookup x=some .local\/sc.names.lookup x=some .cell
 Rv:∀y∈sc.names,y.2≠.free
theorem Qd {kindOf:Str->Option NameKind} {x:Str}:∀{binds:List (Str×Value)} {m:YB},(∀v,(x,v)∉binds)->bindL kindOf binds m x=m x
 | [],_,_=>rfl
 | (n,v)::r,m,h=>by
  unfold bindL;rw[Qd λw hw=>h w (Qav _ hw)];split
  ·have:x≠n:=by rintro rfl;exact h v QaH
   simp[this]
  ·rfl
theorem Qf {kindOf:Str->Option NameKind} {x:Str}:∀{binds:List (Str×Value)} {m:YB},(∀v,(x,v)∉binds)->bindC kindOf binds m x=m x
 | [],_,_=>rfl
 | (n,v)::r,m,h=>by
  unfold bindC;rw[Qf λw hw=>h w (Qav _ hw)];split
  ·rfl
  ·have:x≠n:=by rintro rfl;exact h v QaH
   simp[this]
theorem Qe {kindOf:Str->Option NameKind} {x:Str} {v:Value}:∀{P:YF} {vs:YE} {i:Nat} {m:YB},P.Nodup->P[i]?=some x->vs[i]?=some v->kindOf x=some .local ->
  bindL kindOf (P.zip vs) m x=some v
 | [],_,_,_,_,h,_,_=>by simp at h
 | _::_,[],_,_,_,_,h,_=>by simp at h
 | p::P,w::vs,0,m,nd,h1,h2,hk=>by
  simp at h1 h2;subst h1;subst h2;show bindL kindOf ((p,w)::P.zip vs) m p=_;unfold bindL;rw[Qd λv hv=>(Qbr.mp nd).1 (List.of_mem_zip hv).1,if_pos hk];simp
 | p::P,w::vs,i+1,m,nd,h1,h2,hk=>by
  show bindL kindOf ((p,w)::P.zip vs) m x=_;unfold bindL;exact Qe (i:=i) (Qbr.mp nd).2 (by simpa using h1) (by simpa using h2) hk
theorem Qg {kindOf:Str->Option NameKind} {x:Str} {v:Value}:∀{P:YF} {vs:YE} {i:Nat} {m:YB},P.Nodup->P[i]?=some x->vs[i]?=some v->kindOf x≠some .local ->
  bindC kindOf (P.zip vs) m x=some v
 | [],_,_,_,_,h,_,_=>by simp at h
 | _::_,[],_,_,_,_,h,_=>by simp at h
 | p::P,w::vs,0,m,nd,h1,h2,hk=>by
  simp at h1 h2;subst h1;subst h2;show bindC kindOf ((p,w)::P.zip vs) m p=_;unfold bindC;rw[Qf λv hv=>(Qbr.mp nd).1 (List.of_mem_zip hv).1,if_neg hk];simp
 | p::P,w::vs,i+1,m,nd,h1,h2,hk=>by
  show bindC kindOf ((p,w)::P.zip vs) m x=_;unfold bindC;exact Qg (i:=i) (Qbr.mp nd).2 (by simpa using h1) (by simpa using h2) hk
def start (N:YF) (vs:YG):St:=vs.map some++List.replicate (N.length - vs.length) none
def La (CX:CXT) (P:Program) (w:World) (K:YD) (mg:YB) (base:Heap) (N:YF) (qual:Str) (scope:Scope) (f:Addr) (cd:Value) (A:Around) (outer:List Env) (s:Shared) (H:Hp) (E:XK):Cx where
 prog:=P
 w:=w
 K:=K
 mg:=mg
 base:=base
 A:=A.deeper (envOfC qual scope s.heap.objs.size f cd)
 N:=N
 s₀:=s
 H₀:=H
 env:=envOfC qual scope s.heap.objs.size f cd
 outer:=outer
 stack:=envOfC qual scope s.heap.objs.size f cd::outer
 ex:=[]
 calm:=true
 fn:=λ_=>true
 pn:=[]
 xe:=λe s'=>wpAny (model P w) (A.deeper (envOfC qual scope s.heap.objs.size f cd)) (leaving (envOfC qual scope s.heap.objs.size f cd) e) (λ_ s''=>CX outer H s E e s'') (λe' s''=>CX outer H s E e' s'') s'
theorem Ss {sc:Scope} {n:Nat} {x:Str} (h:sc.names.lookup x=some .cell):∃c,(cellsFrom n sc.names []).lookup x=some c:=by
 have q:=PySem.W.cellsFrom_some sc.names n [] (.inl h);exact Option.isSome_iff_exists.mp q
theorem W9 {CX:CXT} {P:Program} {w:World} {K:YD} {mg:YB} {base:Heap} {N ps:YF} {qual:Str} {scope:Scope} {f:Addr} {cd:Value} {A:Around} {outer:List Env} {s s1:Shared} {H:Hp} {E:XK} {us:YE} {vs:YG}
  (S:Bk N ps scope) (hd:A.handled=none) (e0:Nh P w K mg base A outer s H) (hl:vs.length=ps.length) (r:Vals vs us)
  (x:InCallC s s.heap.objs.size (bindL (envOfC qual scope s.heap.objs.size f cd).kindOf (ps.zip us) λ_=>none) (cellsFrom (s.heap.objs.size+1) scope.names []) (bindC (envOfC qual scope s.heap.objs.size f cd).kindOf (ps.zip us) λ_=>none) s1) :
  Inv (La CX P w K mg base N qual scope f cd A outer s H E) [] (start N vs) H s1:=by
 have hpl:ps.length<=N.length:=by have:=congrArg List.length S.pre;rw[Qbd] at this;omega
 obtain⟨h1,tk,rfl,hk⟩:=x.done;have noA:∀b:Addr,b∉(La CX P w K mg base N qual scope f cd A outer s H E).ex:=λb z=>absurd (show b∈([]:List Addr) from z) (by simp)
 refine⟨⟨e0.mod,S.kind,rj,rj,QbR _,λy z c h1 h2=>?_,λy hy=>?_,λy c _ h=>?_,λ_=>hd,Around.frames_deeper e0.frames,.inr ⟨rj,rj⟩,λb z=>absurd z (noA b),e0.bs,e0.bsz,λb _ _=>noA b,λb z=>absurd z (noA b),e0.Hr,e0.frf⟩,
  rfl,e0.bare,Un.kept hk,⟨_,x.toInCall.ns,λi y v h1 h2 h3=>?_⟩,λy c h=>⟨_,x.cell y c h⟩,e0.hok.fresh (QbR _),λy c h=>?_,λp hp=>absurd (show p∈([]:YC) from hp) (by simp),e0.hok.kept hk,?_⟩
 ·exact name_of_addr x.apart (QaD h1) (QaD h2)
 ·have hy:scope.names.lookup y=some .cell\/scope.names.lookup y=some .free:=hy;rcases hy with hy | hy
  ·exact Ss hy
  ·exact absurd rfl (S.Rv _ (QaD hy))
 ·exact Nat.le_of_lt (x.above y c (QaD h))
 ·have hi:i < vs.length:=by
   unfold start at h2;by_cases hi:i < vs.length
   ·exact hi
   ·rw[List.getElem?_append_right (by simpa using hi)] at h2;rw[List.getElem?_replicate] at h2;split at h2 <;> cases h2
  have ha:vs[i]?=some v:=by
   unfold start at h2;rw[List.getElem?_append_left (by simpa using hi),QaT] at h2;cases e:vs[i]? with
   | none=>rw[e] at h2;cases h2
   | some a=>rw[e] at h2;cases h2;rfl
  obtain⟨u,hu,rv⟩:=r.get ha;have hp:ps[i]?=some y:=by
   rw[<-S.pre,List.getElem?_take_of_lt (by omega)];exact h1
  have ndP:ps.Nodup:=by rw[<-S.pre];exact S.nd.sublist (List.take_sublist _ _)
  refine⟨u,rv,?_⟩;rcases S.par y (Qau hp) with k | k
  ·exact .inl ⟨k,Qe ndP hp hu k⟩
  ·obtain⟨c,e⟩:=Ss (n:=s.heap.objs.size+1) k;refine .inr ⟨.inl k,c,e,?_⟩;have q:=x.cell y c e;rw[Qg ndP hp hu (by show scope.names.lookup y≠_;rw[k];decide)] at q;exact q
 ·exact e0.hok.fresh (Nat.le_of_lt (x.above y c (QaD h)))
 ·unfold start;show _=N.length;rw[QaF,Qbk,List.length_replicate];omega
theorem gq {CX:CXT} {P:Program} {w:World} {K:YD} {mg:YB} {base:Heap} {k:Nat} {f:Addr} {name qual:Str} {params:Arguments} {body:List Stmt} {scope:Scope} {dV kV doc pm cdv ct oc:Value} {an od:Option Addr}
  {osl:YI} {N ps:YF} {sp:Sp} (lk:K.lookup f=some ⟨oc,od,.func (fnOf name qual params body scope dV kV doc pm an cdv ct),osl⟩) (hcd:codeIn K cdv qual=true) (S:Bk N ps scope)
  (len:∀vs H Q E,sp vs H Q E->vs.length=ps.length)
  (hbody:∀(A:Around) (outer:List Env) (s:Shared) (H:Hp) (vs:YG) (Q:VK) (E:XK),Ds k (A.deeper (envOfC qual scope s.heap.objs.size f cdv))->sp vs H Q E ->
   ∃t,PSs (La CX P w K mg base N qual scope f cdv A outer s H E) body t/\t { nx:=λ_ H'=>Q .non H',rt:=Q } (start N vs) H) :
  FZ P w K mg base CX (k+1) f (fnOf name qual params body scope dV kV doc pm an cdv ct) ps sp:=by
 refine⟨len,λA outer s H args us vs Q E hr e0 hb r hsp=>?_⟩;have hl:=len _ _ _ _ hsp;have KX:K.In s.heap:=e0.mod.kin.keeps λb o e=>(e0.bs b o e).1;have lim:s.heap.NoLimit:=e0.mod.nolimit.keeps λb o e=>(e0.bs b o e).1;have hkind:∀y∈ps.zip us,scope.names.lookup y.1=some .local\/(scope.names.lookup y.1=some .cell/\((cellsFrom (s.heap.objs.size+1) scope.names []).lookup y.1).isSome=true):=λ⟨n,v⟩ hy=>by
  rcases S.par n (List.of_mem_zip hy).1 with q | q
  ·exact .inl q
  ·exact .inr ⟨q,PySem.W.cellsFrom_some _ _ _ (.inl q)⟩
 refine codeAny_call_function hr.depth (KX _ _ lk) rfl S.co S.gen rfl (PySem.W.codeRec_of KX hcd) (hb _ _ _ _ ?_);refine wpAny_newFunctionEnv_cells S.kind hkind λenv he s1 x=>?_;subst he;refine⟨lim.keeps x.toInCall.keep,codeAny_func ?_⟩;obtain⟨t,ht,hq⟩:=hbody A outer s H vs Q E (hr.deeper _) hsp;have I:Inv (La CX P w K mg base N qual scope f cdv A outer s H E) [] (start N vs) H s1:=W9 S hr.hd e0 hl r x;refine QbY (ht [] s1 (start N vs) H _ I hq) (λfl s' hs=>?_) λe s' hs=>hs;have fin:∀{σ':St} {H':Hp} {v:V} {u:Value},Inv (La CX P w K mg base N qual scope f cdv A outer s H E) [] σ' H' s'->RelV v u->Q v H'->CE outer P w H s Q u s':=
  λ{σ' H' v u} J rv q=>⟨v,H',J.os,J.bare,J.base,J.hok,rv,q⟩
 cases fl with
 | ret u=>
  obtain⟨v,σ',H',J,rv,q⟩:=hs;exact fin J rv q
 | next=>
  obtain⟨σ',H',J,q⟩:=hs;exact fin (v:=V.non) (u:=Value.none) J rfl q
 | brk=>
  obtain⟨_,_,_,q⟩:=hs;exact False.elim q
 | cont=>
  obtain⟨_,_,_,q⟩:=hs;exact False.elim q
section
variable {X:Cx} {x:Str} {p pos:Pos} {e:Expr} {es:YJ} {t:TA} {id T:String} {r:YG->Hp->VK->Prop}
def tCB (r:YG->Hp->VK->Prop) (t:TA):TE:=fun U H Q=>t U H λvs H1=>r vs H1 Q
theorem Ai (hc:Ea X (.builtin id) r) (hg:Gl X x) (hm:X.mg x=none) (hv:bootBuiltins x=some (.builtin id)) (ha:PA X (e::es) t) (hn:x≠"__name__":=by decide) (hdb:(x == ("__debug__":Str))=false:=by decide)
  (he:starEach (e::es) X.env=(false,eval e X.env)::starEach es X.env:=by rfl) (hpl:(backTo pos (starEach es X.env)).any (·.1)=false:=by rfl):PE X (.Call (.Name x p) (e::es) [] pos) (tCB r t):=by
 intro jb s U H Q I h;refine wpAny_Call_Name_kw (Jl I hg hm hv ?_ hn hdb);refine PyProof.Rows.callWith_builtin1 (thn (ha pos jb s U H _ I h) λus s1 zz=>?_) he hpl;obtain⟨vs,H1,I1,r1,q1⟩:=zz;exact hc jb s1 U H1 vs us Q I1 r1 q1
theorem CQ (hc:Ea X (.type T) r) (hg:Gl X x) (hm:X.mg x=none) (hv:bootBuiltins x=some (.type T)) (ha:PA X (e::es) t) (hn:x≠"__name__":=by decide) (hdb:(x == ("__debug__":Str))=false:=by decide)
  (he:starEach (e::es) X.env=(false,eval e X.env)::starEach es X.env:=by rfl) (hpl:(backTo pos (starEach es X.env)).any (·.1)=false:=by rfl):PE X (.Call (.Name x p) (e::es) [] pos) (tCB r t):=by
 intro jb s U H Q I h;refine wpAny_Call_Name_kw (Jl I hg hm hv ?_ hn hdb);refine Qac (thn (ha pos jb s U H _ I h) λus s1 zz=>?_) he hpl;obtain⟨vs,H1,I1,r1,q1⟩:=zz;exact hc jb s1 U H1 vs us Q I1 r1 q1
end
end L2
namespace HT
open PySem PyProof.Rows
section
open PySem.SeqAt
open PySem.AutoSeq1 (wpAny_loadPart')
open PySem.MeetsSeq PySem.MeetsSeq2 PySem.MeetsSeq3
end
section
variable {prog:Program} {w:World} {A:Around} {E:YA} {s:Shared}
theorem aZ {t b:Addr} {vs ws:YE} {Q:YA} (ht:IsTup s.heap t vs.toArray) (hb:IsTup s.heap b ws.toArray) (hv:vs≠[])
  (h1:ws=[]->Q (.ref t) s) (h2:ws≠[]->Q (.ref s.heap.objs.size) { s with heap:=s.heap.push { cls:=.type "tuple",data:=.seq (vs++ws).toArray } })
  (hsz:vs.length+ws.length<=sizeLine):wpAny (model prog w) A (binaryOp .Add (.ref t) (.ref b)) Q E s:=by
 obtain⟨⟨cls,dd,data,sl⟩,ho,hc,n,hd⟩:=id ht;obtain⟨⟨cls2,dd2,data2,sl2⟩,ho2,hc2,n2,hd2⟩:=id hb;simp only at hc hd hc2 hd2;subst hc hd hc2 hd2;have e:vs.toArray++ws.toArray=(vs++ws).toArray:=by simp
 by_cases hw:ws=[]
 ·exact concat_meets ⟨_,ho,rj⟩ ⟨_,ho2,rj⟩ noFill_tuple_add seq_tuple_add PySem.F.slot_tuple_add PySem.F.entry_tuple_add (PySem.F.args_tuple_add_2 _ _)
   (tuple_addW1 t b vs.toArray ws.toArray n n2 dd dd2 sl sl2 (by simpa using hv) (by simp[hw])) ⟨ho,ho2,h1 hw⟩
 ·refine concat_meets ⟨_,ho,rj⟩ ⟨_,ho2,rj⟩ noFill_tuple_add seq_tuple_add PySem.F.slot_tuple_add PySem.F.entry_tuple_add (PySem.F.args_tuple_add_2 _ _)
   (tuple_addW2 t b vs.toArray ws.toArray n n2 dd dd2 sl sl2 (by simpa using hv) (by simpa using hw) (by rw[QaS,QaS];exact hsz)) ⟨ho,ho2,?_⟩
  rw[e];exact h2 hw
def sIx (n d:Nat):Option Int->Nat
 | none=>d
 | some v=>if v < 0 then (v+(n:Int)).toNat else min v.toNat n
theorem Ke (n d:Nat):sIx n d none=d:=rfl
theorem Li (n d k:Nat):sIx n d (some (k:Int))=min k n:=by
 show (if (k:Int) < 0 then ((k:Int)+(n:Int)).toNat else min (k:Int).toNat n)=min k n
 rw[if_neg (by omega),QaY]
theorem bZ (n d:Nat) (hd:d<=n) (o:Option Int):sIx n d o<=n:=by
 cases o with
 | none=>exact hd
 | some v=>
  show (if v < 0 then (v+(n:Int)).toNat else min v.toNat n)<=n
  by_cases hv:v < 0
  ·rw[if_pos hv];omega
  ·rw[if_neg hv];exact Nat.min_le_right _ _
theorem Ux (v:Int) (n d:Nat):(if v < 0 then max (v+(n:Int)) 0 else min v (n:Int))=((sIx n d (some v):Nat):Int):=by
 show (if v < 0 then max (v+(n:Int)) 0 else min v (n:Int))=(((if v < 0 then (v+(n:Int)).toNat else min v.toNat n):Nat):Int)
 by_cases hv:v < 0
 ·simp only[if_pos hv];omega
 ·simp only[if_neg hv];omega
theorem VR (lo hi:Option Int) (n:Nat):Builtin.Slice.sliceAdjust lo hi 1 (n:Int)=(((sIx n 0 lo:Nat):Int),((sIx n n hi:Nat):Int)):=by
 have h1:¬((1:Int) < 0):=by omega
 unfold Builtin.Slice.sliceAdjust;simp only[h1,if_false];refine Prod.ext ?_ ?_
 ·cases lo with
  | none=>rfl
  | some v=>exact Ux v n 0
 ·cases hi with
  | none=>rfl
  | some v=>exact Ux v n n
theorem Vg (i j:Nat):Builtin.Slice.slicePlaces (i:Int) (j:Int) 1=j - i:=by
 unfold Builtin.Slice.slicePlaces;have h1:(1:Int) > 0:=by omega
 simp only[h1,if_true,Int.ediv_one];split <;> omega
theorem JV {v:Value} {o:Option Int} {Q:Option Int->Shared->Prop} (p:IsPart v o) (h:Q o s):wpAny (model prog w) A (Builtin.Slice.slicePartIndex v) Q E s:=by
 cases p with
 | none=>exact slicePart_none h
 | int i t=>exact slicePart_int h
theorem IW {sl:Addr} {vl vu:Value} {lo hi:Option Int} {n:Nat} {Q:Int×Int×Nat->Shared->Prop} (hs:s.heap.IsSliceOf sl vl vu .none) (pl:IsPart vl lo) (pu:IsPart vu hi)
  (h:Q (((sIx n 0 lo:Nat):Int),1,sIx n n hi - sIx n 0 lo) s):wpAny (model prog w) A (Builtin.Slice.sliceApplied (.ref sl) (pure (n:Int))) Q E s:=by
 obtain⟨os,hos,hcs,hds⟩:=id hs;unfold Builtin.Slice.sliceApplied Builtin.Slice.sliceFields;refine QbW (QbW (QbT hos hds (x:=vl) rfl (QbW (QbT hos hds (x:=vu) rfl (QbW (QbT hos hds (x:=.none) rfl (QbX ?_)))))));refine QbW (slicePart_none ?_);show wpAny _ _ (if ((1:Int) == 0)=true then _ else _) _ _ s
 rw[if_neg (by decide)];refine QbW (JV pl (QbW (JV pu (QbW (QbX ?_)))));show wpAny _ _ (match Builtin.Slice.sliceAdjust lo hi 1 (n:Int) with | (lo,hi)=>pure (lo,(1:Int),Builtin.Slice.slicePlaces lo hi 1)) _ _ s
 rw[VR lo hi n];show wpAny _ _ (pure (((sIx n 0 lo:Nat):Int),(1:Int),Builtin.Slice.slicePlaces ((sIx n 0 lo:Nat):Int) ((sIx n n hi:Nat):Int) 1)) _ _ s;rw[Vg];exact QbX h
theorem Yo (xs:Array Value) (i k:Nat):((List.range k).filterMap λ(m:Nat)=>xs[((i:Int)+(m:Int)*1).toNat]?).toArray=((xs.toList.drop i).take k).toArray:=by
 have e:(λ(m:Nat)=>xs[((i:Int)+(m:Int)*1).toNat]?)=λm=>xs[i+m]?:=by
  funext m
  have:((i:Int)+(m:Int)*1).toNat=i+m:=by omega
  rw[this]
 rw[e];have:=pick_run xs i k;rw[List.filterMap_map] at this;have e2:((λx=>xs[x]?) ∘ λx=>i+x)=λm=>xs[i+m]?:=rfl;rw[e2] at this;rw[this]
theorem LC {t sl:Addr} {items:Array Value} {vl vu:Value} {lo hi:Option Int} {Q:YA} (ht:IsTup s.heap t items) (hs:s.heap.IsSliceOf sl vl vu .none) (pl:IsPart vl lo) (pu:IsPart vu hi)
  (hw:¬(sIx items.size 0 lo=0/\sIx items.size items.size hi=items.size))
  (h:Q (.ref s.heap.objs.size) { s with heap:=s.heap.push { cls:=.type "tuple",data:=.seq ((items.toList.drop (sIx items.size 0 lo)).take (sIx items.size items.size hi - sIx items.size 0 lo)).toArray } })
  (hsz:items.size<=sizeLine):wpAny (model prog w) A (getItem (.ref t) (.ref sl)) Q E s:=by
 have Ir:sizeOk (.seq ((items.toList.drop (sIx items.size 0 lo)).take (sIx items.size items.size hi - sIx items.size 0 lo)).toArray):=by
  show ((items.toList.drop (sIx items.size 0 lo)).take (sIx items.size items.size hi - sIx items.size 0 lo)).toArray.size<=sizeLine;rw[QaS,Qbd,Qbh,QaB];omega
 have hj:sIx items.size items.size hi<=items.size:=bZ _ _ (QbR _) hi;obtain⟨os,hos,hcs,hds⟩:=id hs;have hTs:s.TypeIs (.ref sl) "slice":=⟨os,hos,hcs⟩;unfold getItem
 try with_reducible refine QbI ?_
 first | refine QbW (QbX ?_) | skip
 refine QbW (wpAny_sequenceKey ht.typeIs (by decide) ?_);refine QbW (Qam (name:=Str.ofString "__getitem__") ht.typeIs Qab
  (Qbi Qab ht.typeIs entry_tuple_getitem ?_ (args_tuple_getitem _ _)))
 show wpAny _ _ (Builtin.Tuple.tupleItemsOf (.ref t) >>= _) _ _ s;refine QbW (tupleItemsOf_ ht ?_);refine QbW (wpAny_typeOf hTs ?_);rw[if_pos (by decide)];refine QbW (IW hs pl pu ?_);have hno:¬((((sIx items.size 0 lo:Nat):Int) == 0&&(1:Int) == 1&&(sIx items.size items.size hi - sIx items.size 0 lo) == items.size)=true):=by
  intro q;rw[Qbc,Qbc] at q;have q1:((sIx items.size 0 lo:Nat):Int)=0:=Qca q.1.1;have q2:sIx items.size items.size hi - sIx items.size 0 lo=items.size:=Qca q.2;exact hw ⟨by omega,by omega⟩
 show wpAny _ _ (if (((sIx items.size 0 lo:Nat):Int) == 0&&(1:Int) == 1&&(sIx items.size items.size hi - sIx items.size 0 lo) == items.size)=true then _ else _) _ _ s
 rw[if_neg hno,Yo]
 first
  | exact QbW (m:=Builtin.Tuple.tupleExact _) (QaV (QbX ⟨_,rfl,QbX h⟩) Ir)
  | exact QbW (m:=Builtin.Tuple.tupleExact _) (QaV (QbW (QbX (QbX ⟨_,rfl,QbX h⟩))) Ir)
  | exact QbW (QbW (m:=Builtin.Tuple.tupleExact _) (QaV (QbX (QbX ⟨_,rfl,QbX h⟩)) Ir))
  | exact QbW (QbW (m:=Builtin.Tuple.tupleExact _) (QaV (QbX ⟨_,rfl,QbX h⟩) Ir))
end
end HT
namespace L2
open PySem PySem.Spec PyProof.Rows
abbrev TO:=St->Hp->(Option Int->Hp->Prop)->Prop
def PO (X:Cx) (e:Option Expr) (t:TO):Prop:=
 ∀(jb:YC) (s:Shared) (U : St) (H:Hp) (Q:Option Int->Hp->Prop),Inv X jb U H s->t U H Q ->
  wpAny (model X.prog X.w) X.A (evalPart e X.env) (λu s'=>∃o H',Inv X jb U H' s'/\IsPart u o/\Q o H') X.xe s
def Z5:TO:=λ_ H Q=>Q none H
def eY (t:TE):TO:=fun U H Q=>t U H λx H1=>∃i,x=.int i/\Q (some i) H1
theorem intsAre_of {ns:List Int}:∀{us:YE},Vals (ns.map V.int) us->IntsAre us ns:=by
 induction ns with
 | nil=>intro us r;rw[List.map_nil] at r;cases r;exact .nil
 | cons n ns ih=>
  intro us r;rw[QbG] at r;cases r with
  | cons r1 r2=>
   obtain⟨t,e⟩:=r1;subst e;exact .cons n t (ih r2)
section
variable {X:Cx} {e:Expr} {te:TE} {lo hi:Option Expr} {tl th:TO} {pos p2:Pos}
theorem Dc:PO X none Z5:=by
 intro jb s U H Q I h;rw[evalPart_none];exact QbX ⟨none,H,I,.none,h⟩
theorem CN (h:PE X e te):PO X (some e) (eY te):=by
 intro jb s U H Q I hw;rw[evalPart_some];refine thn (h jb s U H _ I hw) λu s1 zz=>?_;obtain⟨x,H1,I1,r1,q1⟩:=zz;obtain⟨i,rfl,q⟩:=q1;obtain⟨t,rfl⟩:=r1;exact⟨some i,H1,I1,.int i t,q⟩
def SlR (X:Cx) (r:V->Option Int->Option Int->Hp->VK->Prop):Prop:=
 ∀(jb:YC) (s:Shared) (U : St) (H:Hp) (x:V) (v vl vu:Value) (lo hi:Option Int) (sl:Addr) (Q:VK),Inv X jb U H s->RelV x v->s.heap.IsSliceOf sl vl vu .none->IsPart vl lo->IsPart vu hi->r x lo hi H Q ->
  ∃T id,typeLookup (.type T) "__getitem__"=pure (some (.builtin id))/\s.TypeIs v T/\wpAny (model X.prog X.w) X.A (getItem v (.ref sl)) (EP X jb U Q) X.xe s
def tSl (r:V->Option Int->Option Int->Hp->VK->Prop) (te:TE) (tl th:TO):TE:=fun U H Q=>te U H λx H1=>tl U H1 λl H2=>th U H2 λu H3=>r x l u H3 Q
theorem Cy {r:V->Option Int->Option Int->Hp->VK->Prop} (hr:SlR X r) (he:PE X e te) (hl:PO X lo tl) (hu:PO X hi th):PE X (.Subscript e (.Slice lo hi none p2) pos) (tSl r te tl th):=by
 intro jb s U H Q I h;refine Subscript_ (thn (he jb s U H _ I h) λv s1 zz=>?_);obtain⟨x,H1,I1,r1,q1⟩:=zz;refine wpAny_Slice (thn (hl jb s1 U H1 _ I1 q1) λvl s2 zz=>?_);obtain⟨l,H2,I2,pl,q2⟩:=zz;refine thn (hu jb s2 U H2 _ I2 q2) λvu s3 zz=>?_;obtain⟨u,H3,I3,pu,q3⟩:=zz;rw[evalPart_none];refine QbX ?_;have I4:Inv X jb U H3 { s3 with heap:=s3.heap.push { cls:=.type "slice",data:=.fields #[vl,vu,.none] } }:=I3.kept (t':=s3.toks) λb ob q=>Qap _ q;obtain⟨T,id,hT,ht,hg⟩:=hr jb { s3 with heap:=s3.heap.push { cls:=.type "slice",data:=.fields #[vl,vu,.none] } } U H3 x v vl vu l u s3.heap.objs.size Q I4 r1 (Heap.IsSliceOf.new ..) pl pu q3;show wpAny (model X.prog X.w) X.A (subscriptTail e (.Slice lo hi none p2) v (.ref s3.heap.objs.size)) (EP X jb U Q) X.xe { s3 with heap:=s3.heap.push { cls:=.type "slice",data:=.fields #[vl,vu,.none] } };exact tail_any (ops:=[.ref s3.heap.objs.size,v]) ht hT hg (by with_unfolding_all rfl)
def Eo (xs:YG) (lo hi:Option Int):YG:=(xs.drop (HT.sIx xs.length 0 lo)).take (HT.sIx xs.length xs.length hi - HT.sIx xs.length 0 lo)
theorem Mf (xs:YG) (lo hi:Option Int):(Eo xs lo hi).length<=xs.length:=by
 unfold Eo;rw[Qbd,Qbh];omega
def gZ (K:YD):V->Option Int->Option Int->Hp->VK->Prop:=λx lo hi H Q=>∃a xs,x=.ref a/\SqT K H a xs /\
 ¬(HT.sIx xs.length 0 lo=0/\HT.sIx xs.length xs.length hi=xs.length)/\∀p,H p=none->Q (.ref p) (upd H p (.tup (Eo xs lo hi)))
theorem bU:SlR X (gZ X.K):=by
 intro jb s U H x v vl vu lo hi sl Q I rx hs pl pu h;obtain⟨a,xs,rfl,hx,hw,q⟩:=h;cases rx;obtain⟨its,r,ht,hz⟩:=I.tuple hx;have hlen:its.toArray.size=xs.length:=by rw[QaS];exact r.length.symm
 refine⟨"tuple",_,Qab.lookup,ht.typeIs,?_⟩;refine HT.LC ht hs pl pu (by rw[hlen];exact hw) ?_ (by rw[hlen];exact hz);rw[hlen];refine⟨.ref s.heap.objs.size,_,I.laid (t':=s.toks) (o:=.tup (Eo xs lo hi)) (λb ob q=>Qap _ q) (QbR _) ?_,rj,q _ (I.hok.fresh (QbR _))⟩;exact⟨QbO (Mf xs lo hi) hz,_,(r.drop (HT.sIx xs.length 0 lo)).take (HT.sIx xs.length xs.length hi - HT.sIx xs.length 0 lo),IsTup.new _ _⟩
def fK (K:YD):R2:=λx y H Q=>∃a b xs ys,x=.ref a/\y=.ref b/\SqT K H a xs/\SqT K H b ys/\xs≠[]/\xs.length+ys.length<=sizeLine /\
 (ys=[]->Q (.ref a) H)/\(ys≠[]->∀p,H p=none->Q (.ref p) (upd H p (.tup (xs++ys))))
theorem Vals.Ox {xs:YG} {us:YE} (r:Vals xs us):us=[] ↔ xs=[]:=by
 cases r with
 | nil=>simp
 | cons _ _=>simp
theorem aB:OpR X (binaryOp .Add) (fK X.K):=by
 intro jb s U H x y v u Q I rx ry h;obtain⟨a,b,xs,ys,rfl,rfl,ha,hb,hx,hz,q1,q2⟩:=h;cases rx;cases ry;obtain⟨its,r1,p1,_⟩:=I.tuple ha;obtain⟨its2,r2,p2,_⟩:=I.tuple hb;refine HT.aZ p1 p2 (λz=>hx (r1.Ox.mp z)) (λz=>⟨.ref a,H,I,rj,q1 (r2.Ox.mp z)⟩) (λz=>?_) (by rw[<-r1.length,<-r2.length];exact hz);refine⟨.ref s.heap.objs.size,_,I.laid (t':=s.toks) (o:=.tup (xs++ys)) (λb ob q=>Qap _ q) (QbR _) ?_,rj,q2 (λw=>z (r2.Ox.mpr w)) _ (I.hok.fresh (QbR _))⟩;exact⟨by rw[QaF];exact hz,_,r1.append r2,IsTup.new _ _⟩
end
def ixN (n:Nat) (i:Int):Option Nat:=if 0<=i then (if i < n then some i.toNat else none) else if -(n:Int)<=i then some (i+n).toNat else none
def atI {α : Type} (xs:List α) (i:Int):Option α:=(ixN xs.length i).bind λj=>xs[j]?
theorem Um {n:Nat} {i:Int} {j:Nat} (h:ixN n i=some j):seqIndex? i n=some j/\j < n/\-(n:Int)<=i/\i < n:=by
 unfold ixN at h;by_cases h0:0<=i
 ·rw[if_pos h0] at h;by_cases h1:i < n
  ·rw[if_pos h1] at h;have e:i.toNat=j:=Qbp h;exact⟨by rw[seqIndex_of h0 h1,e],by omega,by omega,h1⟩
  ·rw[if_neg h1] at h;cases h
 ·rw[if_neg h0] at h;by_cases h1:-(n:Int)<=i
  ·rw[if_pos h1] at h;have e:(i+n).toNat=j:=Qbp h;exact⟨by rw[seqIndex_neg (by omega) h1,e],by omega,h1,by omega⟩
  ·rw[if_neg h1] at h;cases h
theorem O9 {α : Type} {xs:List α} {i:Int} {v:α} (h:atI xs i=some v):∃j,seqIndex? i xs.length=some j/\xs[j]?=some v/\j < xs.length/\-(xs.length:Int)<=i/\i < xs.length:=by
 unfold atI at h;cases e:ixN xs.length i with
 | none=>rw[e] at h;cases h
 | some j=>
  rw[e] at h;obtain⟨h1,h2,h3,h4⟩:=Um e;exact⟨j,h1,h,h2,h3,h4⟩
theorem Fq {α : Type} {xs:List α} {j:Nat} {v:α} (h:xs[j]?=some v):atI xs (j:Int)=some v:=by
 have hj:j < xs.length:=(Qaf.mp h).1;have e:ixN xs.length (j:Int)=some j:=by
  unfold ixN;rw[if_pos (by omega),if_pos (by omega)];simp
 unfold atI;rw[e];exact h
def bC (b:Expr):Prop:=∀o i,subscripted b false o i=operate [o,i] (getItem o i)
def IxR (X:Cx) (r:R2):Prop:=
 ∀(value slice:Expr) (jb:YC) (s:Shared) (U : St) (H:Hp) (x y:V) (v u:Value) (Q:VK),Inv X jb U H s->RelV x v->RelV y u->r x y H Q ->
  subscripted slice false v u=operate [v,u] (getItem v u)->wpAny (model X.prog X.w) X.A (subscriptTail value slice v u) (EP X jb U Q) X.xe s
def MtR (X:Cx) (id:String) (r:V->YG->Hp->VK->Prop):Prop:=
 ∀(jb:YC) (s:Shared) (U : St) (H:Hp) (x:V) (xs:YG) (v:Value) (us:YE) (Q:VK),Inv X jb U H s->RelV x v->Vals xs us->r x xs H Q ->
  wpAny (model X.prog X.w) X.A (call (.builtin id) (v::us)) (EP X jb U Q) X.xe s
section
variable {X:Cx} {a b:Expr} {ta tb:TE} {pos:Pos}
theorem Bg {r:R2} (hr:IxR X r) (ha:PE X a ta) (hb:PE X b tb) (hs:bC b):PE X (.Subscript a b pos) (tOp r ta tb):=by
 intro jb s U H Q I h;exact Subscript_ (Ze ha hb I h λv u s2 x y H2 I2 rx ry q=>hr a b jb s2 U H2 x y v u Q I2 rx ry q (hs _ _))
def iw (K:YD):R2:=λx y H Q=>∃p xs i v,x=.ref p/\y=.int i/\SqL K H p xs/\atI xs i=some v/\Q v H
def cu (K:YD):R2:=λx y H Q=>∃p xs i v,x=.ref p/\y=.int i/\SqT K H p xs/\atI xs i=some v/\Q v H
def iu:R2:=λx y H Q=>∃z i c,x=.str z/\y=.int i/\z.length<=sizeLine/\atI z.cps.toList i=some c/\Q (.str ⟨#[c]⟩) H
theorem Cj:IxR X (iw X.K):=by
 intro value slice jb s U H x y v u Q I rx ry h hs;obtain⟨p,xs,i,z,rfl,rfl,hq,he,q⟩:=h;cases rx;obtain⟨t,rfl⟩:=ry;obtain⟨its,r,pl,hz⟩:=I.list hq;obtain⟨j,h1,h2,h3,h4,h5⟩:=O9 he;obtain⟨w,ew,rw'⟩:=r.get h2;have hl:=r.length;have hn:=JN;have fin:EP X jb U Q w s:=⟨z,H,I,rw',q⟩;by_cases h0:0<=i
 ·have hj:i.toNat=j:=by
   rw[seqIndex_of h0 h5] at h1;exact Qbp h1
  exact item_listR pl.isList h0 (by omega) (by rw[hj];simpa using ew) fin hs
 ·have hj:(i+(its.toArray.size:Int)).toNat=j:=by
   rw[seqIndex_neg (by omega) h4] at h1;rw[QaS,<-hl];exact Qbp h1
  exact subscriptTail_builtinR (x:=w) pl.isList.typeIs slot_list_getitem.lookup
   (wpAny_getItem_list_neg (Q:=λr s'=>r=w/\EP X jb U Q r s') pl.isList (by omega) (by rw[QaS] <;> omega) (by omega) (by rw[hj];simpa using ew) ⟨rj,fin⟩) hs
theorem Bv:IxR X (cu X.K):=by
 intro value slice jb s U H x y v u Q I rx ry h hs;obtain⟨p,xs,i,z,rfl,rfl,hq,he,q⟩:=h;cases rx;obtain⟨t,rfl⟩:=ry;obtain⟨its,r,pl,hz⟩:=I.tuple hq;obtain⟨j,h1,h2,h3,h4,h5⟩:=O9 he;obtain⟨w,ew,rw'⟩:=r.get h2;have hl:=r.length;have hn:=JN;have fin:EP X jb U Q w s:=⟨z,H,I,rw',q⟩;exact subscriptTail_builtinR (x:=w) pl.typeIs slot_tuple_getitem.lookup
  (getItem_tuple (j:=j) (Q:=λr s'=>r=w/\EP X jb U Q r s') pl (by omega) (by omega) (by rw[QaS,<-hl];exact h1) (by simpa using ew) ⟨rj,fin⟩) hs
theorem cZ:IxR X iu:=by
 intro value slice jb s U H x y v u Q I rx ry h hs;obtain⟨z,i,c,rfl,rfl,hz,he,q⟩:=h;obtain⟨t,rfl⟩:=rx;obtain⟨t',rfl⟩:=ry;obtain⟨j,h1,h2,h3,h4,h5⟩:=O9 he;have hl:z.cps.toList.length=z.length:=by simp[Str.length]
 rw[hl] at h1 h4 h5;have hn:=JN;exact tail_any (typeIs_str s z t) slot_str_getitem.lookup (getItem_str (c:=c) (by
  have e1:decide (i < -(2 ^ 63:Int))=false:=Qbl (by omega);have e2:decide (i ≥ 2 ^ 63)=false:=Qbl (by omega);rw[e1,e2,Bool.or_false]) (by rw[h1];simpa using h2) ⟨.str ⟨#[c]⟩,H,I.tok _,⟨_,rj⟩,q⟩) hs
theorem Vt (its:YE) (n j:Nat) (u:Value):Obj.mapSeq (·.setIfInBounds j u) { cls:=.type "list",data:=.seq its.toArray n }={ cls:=.type "list",data:=.seq (its.set j u).toArray n }:=by
 simp[Obj.mapSeq]
theorem Inv.lst {jb:YC} {U : St} {H:Hp} {s:Shared} {p:Addr} {xs:YG} (I:Inv X jb U H s) (h:H p=some (.lst xs)) :
  ∃(its:YE) (n:Nat),Vals xs its/\s.heap.get? p=some { cls:=.type "list",data:=.seq its.toArray n }/\xs.length<=sizeLine:=by
 obtain⟨z,its,n,r,e⟩:=I.hok p _ h;exact⟨its,n,r,e,z⟩
theorem Inv.cT {jb:YC} {U : St} {H:Hp} {s:Shared} {p:Addr} {xs ys:YG} {its its':YE} {n n':Nat} {f:Obj->Obj} (I:Inv X jb U H s) (h:H p=some (.lst xs))
  (ho:s.heap.get? p=some { cls:=.type "list",data:=.seq its.toArray n }) (hf:f { cls:=.type "list",data:=.seq its.toArray n }={ cls:=.type "list",data:=.seq its'.toArray n' }) (r:Vals ys its') (hz:ys.length<=sizeLine) (t:Nat) :
  Inv X jb U (upd H p (.lst ys)) { s with heap:=s.heap.update p f,toks:=t }:=by
 have e:(s.heap.update p f).get? p=some { cls:=.type "list",data:=.seq its'.toArray n' }:=by
  rw[Heap.get?_update_self f ho (by rw[hf] <;> rfl),hf]
 refine I.write (x:=p) (e:=p) (by rw[h];trivial) (.inl rfl) (λb u hb q=>(Heap.get?_update_other _ _ (Ne.symm hb)).trans q) ⟨_,e⟩ ?_;exact⟨hz,its',n',r,e⟩
def fJ:V->V->V->Hp->(Hp->Prop)->Prop:=λo i v H Q=>∃p xs k j,o=.ref p/\i=.int k/\H p=some (.lst xs)/\ixN xs.length k=some j/\Q (upd H p (.lst (xs.set j v)))
theorem set_list:eN X fJ:=by
 intro jb s U H o i v ov iv u Q I ro ri rv h;obtain⟨p,xs,k,j,rfl,rfl,hp,hj,q⟩:=h;cases ro;obtain⟨t,rfl⟩:=ri;obtain⟨its,n,r,ho,hz⟩:=I.lst hp;obtain⟨h1,h2,h3,h4⟩:=Um hj;have hl:=r.length;have hn:=JN;have I':Inv X jb U (upd H p (.lst (xs.set j v))) { s with heap:=s.heap.update p (Obj.mapSeq (·.setIfInBounds j u)) }:=
  I.cT hp ho (Vt its n j u) (r.set rv j) (by rw[List.length_set];exact hz) s.toks
 by_cases h0:0<=k
 ·have hk:k.toNat=j:=by
   rw[seqIndex_of h0 h4] at h1;exact Qbp h1
  exact PySem.W.ki_setAt ho h0 (by omega) (by rw[QaS,<-hl];exact h4) (by rw[hk];exact⟨_,I',q⟩)
 ·have hk:(k+(its.toArray.size:Int)).toNat=j:=by
   rw[seqIndex_neg (by omega) h3] at h1;rw[QaS,<-hl];exact Qbp h1
  exact PySem.W.ki_setBack ho (by omega) (by rw[QaS,<-hl];exact h3) (by omega) (by rw[hk];exact⟨_,I',q⟩)
theorem QT (lo hi:Option Int) (n:Nat):(sliceBounds lo hi none n).1=((HT.sIx n 0 lo:Nat):Int)/\(sliceBounds lo hi none n).2.1=((HT.sIx n n hi:Nat):Int)/\(sliceBounds lo hi none n).2.2=1:=by
 refine⟨?_,?_,rj⟩
 ·cases lo with
  | none=>simp[sliceBounds,HT.sIx]
  | some i=>
   simp only[sliceBounds,HT.sIx,Option.getD_none,show (1:Int) > 0 by decide,if_true];by_cases h:i < 0
   ·simp only[h,if_true] <;> omega
   ·simp only[h,if_false] <;> omega
 ·cases hi with
  | none=>simp[sliceBounds,HT.sIx]
  | some i=>
   simp only[sliceBounds,HT.sIx,Option.getD_none,show (1:Int) > 0 by decide,if_true];by_cases h:i < 0
   ·simp only[h,if_true] <;> omega
   ·simp only[h,if_false] <;> omega
theorem Qk (its:YE) (lo hi:Option Int):slicePick its.toArray lo hi none=((its.drop (HT.sIx its.length 0 lo)).take (HT.sIx its.length its.length hi - HT.sIx its.length 0 lo)).toArray:=by
 obtain⟨h1,h2,h3⟩:=QT lo hi its.toArray.size;unfold slicePick;rw[h1,h2,h3];simp only[sliceRange_one,pick_run,QaS] <;> rfl
def ig (K:YD):V->Option Int->Option Int->Hp->VK->Prop:=λx lo hi H Q=>∃a xs,x=.ref a/\SqL K H a xs/\∀p,H p=none->Q (.ref p) (upd H p (.lst (Eo xs lo hi)))
theorem T8:SlR X (ig X.K):=by
 intro jb s U H x v vl vu lo hi sl Q I rx hs pl pu h;obtain⟨a,xs,rfl,hx,q⟩:=h;cases rx;obtain⟨its,r,ht,hz⟩:=I.list hx;have hlen:=r.length;refine⟨"list",_,slot_list_getitem.lookup,ht.isList.typeIs,?_⟩;refine wpAny_getItem_list_slice ht.isList hs pl pu .none (by simp) ?_ (by rw[QaS] <;> omega);rw[Qk,<-hlen];refine⟨.ref s.heap.objs.size,_,I.laid (t':=s.toks) (o:=.lst (Eo xs lo hi)) (λb ob q=>Qap _ q) (QbR _) ?_,rj,q _ (I.hok.fresh (QbR _))⟩;exact⟨QbO (Mf xs lo hi) hz,_,0,(r.drop (HT.sIx xs.length 0 lo)).take (HT.sIx xs.length xs.length hi - HT.sIx xs.length 0 lo),Qaz _ rfl⟩
def Hw:V->Bool
 | .non=>true
 | .bl _=>true
 | .int _=>true
 | .str _=>true
 | _=>false
def eqV:V->V->Bool
 | .non,.non=>true
 | .bl a,.bl b=>a == b
 | .bl a,.int b=>(if a then 1 else 0) == b
 | .int a,.bl b=>a == (if b then 1 else 0)
 | .int a,.int b=>a == b
 | .str a,.str b=>a == b
 | _,_=>false
theorem dX {A:Around} {s:Shared} {y x:V} {u v:Value} (ry:RelV y u) (rx:RelV x v) (fy:Hw y=true) (fx:Hw x=true):SeqAt.EqAt A s u v (eqV y x):=by
 cases y with
 | non=>
  cases ry;cases x with
  | non=>cases rx;exact SeqAt.EqAt.same _
  | bl b=>cases rx;exact SeqAt.EqAt.none_bool b
  | int b=>obtain⟨t,rfl⟩:=rx;exact SeqAt.EqAt.none_int b t
  | str b=>obtain⟨t,rfl⟩:=rx;exact SeqAt.EqAt.none_str b t
  | _=>exact absurd (show false=true from fx) QaG
 | bl a=>
  cases ry;cases x with
  | non=>cases rx;exact SeqAt.EqAt.bool_none a
  | bl b=>cases rx;exact SeqAt.EqAt.bool_bool a b
  | int b=>obtain⟨t,rfl⟩:=rx;exact SeqAt.EqAt.bool_int a b t
  | str b=>obtain⟨t,rfl⟩:=rx;exact SeqAt.EqAt.bool_str a b t
  | _=>exact absurd (show false=true from fx) QaG
 | int a=>
  obtain⟨t',rfl⟩:=ry;cases x with
  | non=>cases rx;exact SeqAt.EqAt.int_none a t'
  | bl b=>cases rx;exact SeqAt.EqAt.int_bool a t' b
  | int b=>obtain⟨t,rfl⟩:=rx;exact SeqAt.EqAt.int_int a t' b t
  | str b=>obtain⟨t,rfl⟩:=rx;exact SeqAt.EqAt.int_str a t' b t
  | _=>exact absurd (show false=true from fx) QaG
 | str a=>
  obtain⟨t',rfl⟩:=ry;cases x with
  | non=>cases rx;exact SeqAt.EqAt.str_none a t'
  | bl b=>cases rx;exact SeqAt.EqAt.str_bool a t' b
  | int b=>obtain⟨t,rfl⟩:=rx;exact SeqAt.EqAt.str_int a t' b t
  | str b=>obtain⟨t,rfl⟩:=rx;exact SeqAt.EqAt.str_str a t' b t
  | _=>exact absurd (show false=true from fx) QaG
 | _=>exact absurd (show false=true from fy) QaG
def eqU (x:V) (u:Value):Bool:=match u with
 | .none=>eqV .non x
 | .bool b=>eqV (.bl b) x
 | .int i _=>eqV (.int i) x
 | .str z _=>eqV (.str z) x
 | _=>false
theorem Xo {x y:V} {u:Value} (r:RelV y u) (f:Hw y=true):eqU x u=eqV y x:=by
 cases y with
 | non=>cases r;rfl
 | bl b=>cases r;rfl
 | int i=>obtain⟨t,rfl⟩:=r;rfl
 | str z=>obtain⟨t,rfl⟩:=r;rfl
 | _=>exact absurd (show false=true from f) QaG
theorem JR {x:V}:∀{xs:YG} {us:YE},Vals xs us->xs.all Hw=true->us.any (eqU x)=xs.any λy=>eqV y x
 | _,_,.nil,_=>rfl
 | y::xs,u::us,.cons r t,f=>by
  rw[QbJ,Qbc] at f;rw[QbK,QbK,Xo r f.1,JR t f.2]
theorem Jk {A:Around} {s:Shared} {x:V} {v:Value} (rx:RelV x v) (fx:Hw x=true):∀{xs:YG} {us:YE},Vals xs us->xs.all Hw=true->∀u∈us,SeqAt.EqAt A s u v (eqU x u)
 | _,_,.nil,_=>λu hu=>by cases hu
 | y::xs,u::us,.cons r t,f=>λu' hu=>by
  rw[QbJ,Qbc] at f;rcases QbD.mp hu with rfl | hu
  ·rw[Xo r f.1];exact dX r rx f.1 fx
  ·exact Jk rx fx t f.2 u' hu
def inV (x:V) (xs:YG):Bool:=xs.any λy=>eqV y x
def rIn (K:YD) (neg:Bool):R2:=λx y H Q=>∃p xs,y=.ref p/\(SqL K H p xs\/SqT K H p xs)/\Hw x=true/\xs.all Hw=true/\Q (.bl (if neg then !inV x xs else inV x xs)) H
theorem Jt:OpR X (compareOp .In) (rIn X.K false):=by
 intro jb s U H x y v u Q I rx ry h;obtain⟨p,xs,rfl,hq,fx,fs,q⟩:=h;cases ry;rcases hq with hq | hq
 ·obtain⟨its,r,pl,hz⟩:=I.list hq;refine SeqAt.in_listAt (eqU x) pl.isList (λw hw=>Jk rx fx r fs w (by simpa using hw)) ⟨.bl _,H,I,rj,?_⟩;rw[show its.toArray.any (eqU x)=its.any (eqU x) by simp,JR r fs];exact q
 ·obtain⟨its,r,pl,hz⟩:=I.tuple hq;refine SeqAt.in_tupleAt (eqU x) pl (λw hw=>Jk rx fx r fs w (by simpa using hw)) ⟨.bl _,H,I,rj,?_⟩;rw[show its.toArray.any (eqU x)=its.any (eqU x) by simp,JR r fs];exact q
theorem Rk:OpR X (compareOp .NotIn) (rIn X.K true):=by
 intro jb s U H x y v u Q I rx ry h;obtain⟨p,xs,rfl,hq,fx,fs,q⟩:=h;cases ry;rcases hq with hq | hq
 ·obtain⟨its,r,pl,hz⟩:=I.list hq;refine SeqAt.notIn_listAt (eqU x) pl.isList (λw hw=>Jk rx fx r fs w (by simpa using hw)) ⟨.bl _,H,I,rj,?_⟩;rw[show its.toArray.any (eqU x)=its.any (eqU x) by simp,JR r fs];exact q
 ·obtain⟨its,r,pl,hz⟩:=I.tuple hq;refine SeqAt.notIn_tupleAt (eqU x) pl (λw hw=>Jk rx fx r fs w (by simpa using hw)) ⟨.bl _,H,I,rj,?_⟩;rw[show its.toArray.any (eqU x)=its.any (eqU x) by simp,JR r fs];exact q
theorem Ay:Ea X (.builtin "len") (λxs H Q=>∃p ys,xs=[.ref p]/\(SqL X.K H p ys\/SqT X.K H p ys)/\Q (.int ys.length) H):=by
 intro jb s U H xs us Q I r h;obtain⟨p,ys,rfl,hq,q⟩:=h;obtain⟨u,rfl,rx⟩:=vals1 r;cases rx;have hn:=JN;rcases hq with hq | hq
 ·obtain⟨its,r',pl,hz⟩:=I.list hq;have hlen:=r'.length;exact Calls.call_len_list pl.isList (by simp only[QaS] <;> omega) ⟨.int ys.length,H,I.tok _,⟨s.toks+1,by rw[QaS,hlen]⟩,q⟩
 ·obtain⟨its,r',pl,hz⟩:=I.tuple hq;have hlen:=r'.length;exact len_tuple pl (by simp only[QaS] <;> omega) ⟨.int ys.length,H,I.tok _,⟨s.toks+1,by rw[QaS,hlen]⟩,q⟩
theorem Jo:Ea X (.builtin "len") (λxs H Q=>∃z,xs=[.str z]/\z.length<=sizeLine/\Q (.int z.length) H):=by
 intro jb s U H xs us Q I r h;obtain⟨z,rfl,hz,q⟩:=h;obtain⟨u,rfl,t,rfl⟩:=vals1 r;have hn:=JN;exact len_str (by omega) ⟨.int z.length,H,I.tok _,⟨_,rj⟩,q⟩
theorem Sw:Ea X (.type "list") (λxs H Q=>∃p ys,xs=[.ref p]/\(SqL X.K H p ys\/SqT X.K H p ys)/\∀l,H l=none->Q (.ref l) (upd H l (.lst ys))):=by
 intro jb s U H xs us Q I r h;obtain⟨p,ys,rfl,hq,q⟩:=h;obtain⟨u,rfl,rx⟩:=vals1 r;cases rx;have fin:∀(its:YE),Vals ys its->ys.length<=sizeLine->∀(h':Heap) (c':Nat),(∀b o',s.heap.get? b=some o'->h'.get? b=some o') ->
   h'.get? s.heap.objs.size=some { cls:=.type "list",dict:=none,data:=.seq its.toArray c',slots:=#[] }->EP X jb U Q (.ref s.heap.objs.size) { s with heap:=h' }:=λits r' hz h' c' kp e=>
  ⟨.ref s.heap.objs.size,_,I.laid (t':=s.toks) kp (QbR _) (show BZ X.prog X.w _ h' _ (.lst ys) from⟨hz,its,c',r',e⟩),rj,q _ (I.hok.fresh (QbR _))⟩
 rcases hq with hq | hq
 ·obtain⟨its,r',pl,hz⟩:=I.list hq;have hlen:=r'.length;obtain⟨o,ho,hc,n,hd⟩:=pl.isList;exact call_list_seq p (.inl rfl) ho hc hd (λh' c' kp e=>fin its r' hz h' c' kp e) (by simp only[QaS] <;> omega)
 ·obtain⟨its,r',pl,hz⟩:=I.tuple hq;have hlen:=r'.length;obtain⟨o,ho,hc,n,hd⟩:=pl;exact call_list_seq p (.inr rfl) ho hc hd (λh' c' kp e=>fin its r' hz h' c' kp e) (by simp only[QaS] <;> omega)
theorem Cv:Ea X (.type "tuple") (λxs H Q=>∃p ys,xs=[.ref p]/\((SqL X.K H p ys/\∀l,H l=none->Q (.ref l) (upd H l (.tup ys)))\/(SqT X.K H p ys/\Q (.ref p) H))):=by
 intro jb s U H xs us Q I r h;obtain⟨p,ys,rfl,h⟩:=h;obtain⟨u,rfl,rx⟩:=vals1 r;cases rx;rcases h with⟨hq,q⟩|⟨hq,q⟩
 ·obtain⟨its,r',pl,hz⟩:=I.list hq;have hlen:=r'.length;refine call_tuple_list pl.isList (λh' kp=>?_) (by simp only[QaS] <;> omega);have I1:Inv X jb U H { s with heap:=h' }:=I.kept (t':=s.toks) kp;have I2:Inv X jb U (upd H h'.objs.size (.tup ys)) { s with heap:=h'.push { cls:=.type "tuple",data:=.seq its.toArray } }:=
   I1.laid (t':=s.toks) (λb o e=>Qap _ e) (QbR _) (show BZ X.prog X.w _ _ _ (.tup ys) from⟨hz,its,r',IsTup.new _ _⟩)
  exact⟨.ref h'.objs.size,_,I2,rj,q _ (I1.hok.fresh (QbR _))⟩
 ·obtain⟨its,r',pl,hz⟩:=I.tuple hq;exact call_tuple_same pl ⟨.ref p,H,I,rj,q⟩
def tyV (K:YD) (T:String) (x:V) (H:Hp):Prop:=match x with
 | .str _=>T="str"
 | .int _=>T="int"
 | .ref p=>(T="list"/\∃xs,SqL K H p xs)\/(T="tuple"/\∃o,K.lookup p=some o/\o.cls=.type "tuple"/\o.dict=none) \/
   (T="dict"/\((∃kvs,H p=some (.dK kvs))\/∃kvs,H p=some (.dT kvs)))\/(T="set"/\∃S n,H p=some (.set S n))
 | _=>False
theorem bH {jb:YC} {U : St} {H:Hp} {s:Shared} {T:String} {x:V} {v:Value} (I:Inv X jb U H s) (r:RelV x v) (ty:tyV X.K T x H) :
  s.TypeIs v T/\∀a,v=.ref a->∃ob,s.heap.get? a=some ob/\ob.dict=none:=by
 cases x with
 | str z=>
  obtain⟨t,rfl⟩:=r;cases (show T="str" from ty)
  exact⟨typeIs_str s z t,λ_ e=>nomatch e⟩
 | int i=>
  obtain⟨t,rfl⟩:=r;cases (show T="int" from ty)
  exact⟨typeIs_int s i t,λ_ e=>nomatch e⟩
 | ref p=>
  cases r;rcases ty with⟨rfl,xs,hq⟩|⟨rfl,o,hk,hc,hd⟩|⟨rfl,hk⟩|⟨rfl,S,n,hk⟩
  ·obtain⟨its,_,pl,_⟩:=I.list hq;refine⟨pl.isList.typeIs,λa e=>?_⟩;cases e;obtain⟨o,n,e,c,hd,_⟩:=pl;exact⟨o,e,hd⟩
  ·refine⟨⟨o,I.kIn p o hk,hc⟩,λa e=>?_⟩;cases e;exact⟨o,I.kIn _ o hk,hd⟩
  ·have z:∃o,s.heap.get? p=some o/\o.ExactDict:=by
    rcases hk with⟨kvs,hk⟩|⟨kvs,hk⟩
    ·obtain⟨_,_,_,_,o,_,_,e,ex,_⟩:=I.hok p _ hk;exact⟨o,e,ex⟩
    ·obtain⟨_,_,_,_,o,_,_,e,ex,_⟩:=I.hok p _ hk;exact⟨o,e,ex⟩
   obtain⟨o,e,ex⟩:=z;refine⟨⟨o,e,ex.1⟩,λa e2=>?_⟩;cases e2;exact⟨o,e,ex.2.1⟩
  ·obtain⟨o,_,_,_,e,ex,_⟩:=I.hok p _ hk;refine⟨⟨o,e,ex.1⟩,λa e2=>?_⟩;cases e2;exact⟨o,e,ex.2.1⟩
 | _=>exact False.elim ty
def tBM (K:YD) (T:String) (r:V->YG->Hp->VK->Prop) (to:TE) (t:TA):TE:=fun U H Q=>to U H λx H1=>tyV K T x H1/\t U H1 λxs H2=>r x xs H2 Q
variable {o e:Expr} {es:YJ} {to:TE} {t:TA} {name:Str} {apos cpos:Pos} {T id:String} {r:V->YG->Hp->VK->Prop}
theorem Fb (pa:PlainAttrs T) (slot:Slot T name id) (hty:typeOf (.builtin id)=pure (.type "method_descriptor")) (hm:MtR X id r) (ho:PE X o to) (ha:PA X (e::es) t)
  (hbase:attributeBase o name X.env (eval o X.env)=eval o X.env:=by rfl)
  (hfew:((backTo cpos (starEach (e::es) X.env)).all (λx=>!x.1)&&(backToKw cpos (keywordEach [] X.env)).all (λx=>x.1.isSome)
  &&decide ((e::es).length+([]:List Keyword).length+(if ([]:List Keyword).isEmpty then 0 else 1) < 30))=true:=by rfl)
  (hline:(apos.endLine == cpos.line)=true:=by rfl) (hs:starEach (e::es) X.env=(false,eval e X.env)::starEach es X.env:=by rfl) (hplain:(backTo cpos (starEach es X.env)).any (·.1)=false:=by rfl) :
  PE X (.Call (.Attribute o name apos) (e::es) [] cpos) (tBM X.K T r to t):=by
 intro jb s U H Q I h;refine wpAny_Call_method_late hbase hfew hline rfl (thn (ho jb s U H _ I h) λv s1 zz=>?_);obtain⟨x,H1,I1,r1,ty,q1⟩:=zz;obtain⟨h1,h2⟩:=bH I1 r1 ty;refine⟨T,id,pa,slot,hty,h1,h2,?_⟩;have hA:=ha cpos jb s1 U H1 _ I1 q1;rw[hs] at hA ⊢;refine Calls.callWith_builtin (by show (false || (backTo cpos (starEach es X.env)).any (·.1))=false;rw[hplain] <;> rfl) (Calls.evalArgs_plain ?_);refine thn hA λus s2 zz=>?_;obtain⟨vs,H2,I2,r2,q2⟩:=zz;exact hm jb s2 U H2 x vs v us Q I2 r1 r2 q2
end
def MtM (X:Cx) (id:String) (r:V->YG->Hp->VK->Prop):Prop:=
 ∀(jb:YC) (s:Shared) (U : St) (H:Hp) (x:V) (xs:YG) (v:Value) (us:YE) (Q:VK),Inv X jb U H s->RelV x v->Vals xs us->r x xs H Q ->
  wpAny (model X.prog X.w) X.A (call (.builtin id) (v::us)) (EP X jb U Q) X.xe s
theorem Vals.one:∀{x:V} {us:YE},Vals [x] us->∃u,us=[u]/\RelV x u
 | _,_,.cons r .nil=>⟨_,rfl,r⟩
theorem Vals.two:∀{x y:V} {us:YE},Vals [x,y] us->∃u v,us=[u,v]/\RelV x u/\RelV y v
 | _,_,_,.cons r (.cons q .nil)=>⟨_,_,rfl,r,q⟩
theorem Vals.zero:∀{us:YE},Vals [] us->us=[]
 | _,.nil=>rfl
theorem Vals.eraseIdx:∀{xs:YG} {us:YE} (i:Nat),Vals xs us->Vals (xs.eraseIdx i) (us.eraseIdx i)
 | _,_,_,.nil=>.nil
 | _,_,0,.cons _ t=>t
 | _,_,i+1,.cons r t=>.cons r (Vals.eraseIdx i t)
theorem Vals.reverse {xs:YG} {us:YE} (h:Vals xs us):Vals xs.reverse us.reverse:=by
 induction h with
 | nil=>exact .nil
 | cons r t ih=>rw[List.reverse_cons,List.reverse_cons];exact Vals.append ih (.cons r .nil)
theorem PB {α : Type}:∀(l:List α) (i:Nat),(l.eraseIdx i).length<=l.length
 | [],_=>QbR _
 | _::_,0=>Nat.le_succ _
 | _::r,i+1=>Nat.succ_le_succ (PB r i)
section
variable {X:Cx} {jb:YC} {U : St} {H:Hp} {s:Shared} {l b:Addr} {xs ys zs:YG}
theorem Inv.YT {its its':YE} {n:Nat} {f:Array Value->Array Value} {t':Nat} (I:Inv X jb U H s) (hH:H l=some (.lst xs))
  (e:s.heap.get? l=some { cls:=.type "list",data:=.seq its.toArray n }) (hf:f its.toArray=its'.toArray) (hv:Vals ys its') (hz:ys.length<=sizeLine) :
  Inv X jb U (upd H l (.lst ys)) { s with heap:=s.heap.update l (Obj.mapSeq f),toks:=t' }:=by
 have q:=PySem.IsL.update e f;rw[hf] at q;refine I.write (x:=l) (e:=l) (by rw[hH];exact trivial) (.inl rfl) (λb' u hb hu=>(Heap.get?_update_other s.heap (Obj.mapSeq f) (Ne.symm hb)).trans hu) ⟨_,q⟩ ?_;exact⟨hz,its',_,hv,q⟩
theorem Inv.fresh (I:Inv X jb U H s):H s.heap.objs.size=none:=I.hok.fresh (QbR _)
theorem Inv.Vu (I:Inv X jb U H s) (hH:H l=some (.lst xs)):xs.length<=sizeLine/\∃(its:YE) (n:Nat),Vals xs its/\xs.length=its.length/\s.heap.get? l=some { cls:=.type "list",data:=.seq its.toArray n }:=by
 obtain⟨z,its,n,r,e⟩:=I.hok l _ hH;exact⟨z,its,n,r,r.length,e⟩
theorem YK {n:Nat} (h:n<=sizeLine):Builtin.List.listTooLong n=false:=by
 unfold Builtin.List.listTooLong;exact Qbl (by omega)
end
section
variable {X:Cx}
def aj:V->YG->Hp->VK->Prop:=λx vs H Q=>∃l xs y,x=.ref l/\vs=[y]/\H l=some (.lst xs)/\xs.length < sizeLine/\Q .non (upd H l (.lst (xs++[y])))
theorem Dl:MtM X "list.append" aj:=by
 intro jb s U H x vs v us Q I rx rv h;obtain⟨l,xs,y,rfl,rfl,hH,hz,q⟩:=h;cases rx;obtain⟨u,rfl,ru⟩:=rv.one;obtain⟨z,its,n,r,hl,e⟩:=I.Vu hH;refine call_meets F.slot_list_append ⟨_,e,rj⟩ F.entry_list_append (F.args_list_append_2 _ _) (PySem.list_append l its.toArray n u (by rw[QaS];omega)) ⟨e,?_⟩;refine⟨.non,_,I.YT (its':=its++[u]) hH e (by simp) (r.append (.cons ru .nil)) ?_,rj,q⟩;rw[QaF,Qat];omega
def Z9:V->YG->Hp->VK->Prop:=λx vs H Q=>∃l b xs zs,x=.ref l/\vs=[.ref b]/\H l=some (.lst xs)/\H b=some (.lst zs)/\xs.length+zs.length<=sizeLine/\Q .non (upd H l (.lst (xs++zs)))
theorem Pz:MtM X "list.extend" Z9:=by
 intro jb s U H x vs v us Q I rx rv h;obtain⟨l,b,xs,zs,rfl,rfl,hH,hB,hz,q⟩:=h;cases rx;obtain⟨u,rfl,ru⟩:=rv.one;cases ru;obtain⟨z,its,n,r,hl,e⟩:=I.Vu hH;obtain⟨z2,its2,n2,r2,hl2,e2⟩:=I.Vu hB;have hsz:its.toArray.size+its2.toArray.size<=sizeLine:=by rw[QaS,QaS];omega
 have gj:¬(!its.toArray.isEmpty&&Builtin.List.listTooLong (its.toArray.size+its2.toArray.size))=true:=by
  rw[YK hsz,Qbz];exact QaG
 refine call_meets F.slot_list_extend ⟨_,e,rj⟩ F.entry_list_extend (F.args_list_extend_2 _ _)
  (AutoSeq1.list_extend_list_list_0 l its.toArray n b its2.toArray n2 gj (by rw[QaS];omega) (by omega)) ⟨e,e2,?_⟩
 refine⟨.non,_,I.YT (its':=its++its2) hH e (by simp) (r.append r2) ?_,rj,q⟩;rw[QaF];omega
def cj:V->YG->Hp->VK->Prop:=λx vs H Q=>∃l xs i k y,x=.ref l/\vs=[.int i]/\H l=some (.lst xs)/\-(2 ^ 63)<=i/\i < 2 ^ 63/\seqIndex? i xs.length=some k/\xs[k]?=some y/\Q y (upd H l (.lst (xs.eraseIdx k)))
theorem Rx:MtM X "list.pop" cj:=by
 intro jb s U H x vs v us Q I rx rv h;obtain⟨l,xs,i,k,y,rfl,rfl,hH,h1,h2,hk,hy,q⟩:=h;cases rx;obtain⟨u,rfl,ru⟩:=rv.one;obtain⟨t,rfl⟩:=ru;obtain⟨z,its,n,r,hl,e⟩:=I.Vu hH;obtain⟨w,hw,rw'⟩:=r.get hy;refine call_meets F.slot_list_pop ⟨_,e,rj⟩ F.entry_list_pop (F.args_list_pop_2 _ _)
  (MeetsSeq.list_pop_at l its.toArray n i t k w (fitsIndex_both h1 h2) (by rw[QaS,<-hl];exact hk) (by rw[<-Qas];exact hw) (by rw[QaS];omega)) ⟨e,?_⟩
 refine⟨y,_,I.YT (its':=its.eraseIdx k) hH e ?_ (r.eraseIdx k) ?_,rw',q⟩
 ·show its.toArray.eraseIdxIfInBounds k=(its.eraseIdx k).toArray;rw[List.eraseIdxIfInBounds_toArray]
 ·have:=PB xs k;omega
end
section
variable {prog:Program} {w:World} {A:Around} {E:YA} {s:Shared}
set_option maxRecDepth 100000 in
end
section
variable {X:Cx}
end
end L2
namespace Att
open PySem PySem.W PySem.Calls PyProof.Rows
theorem NT {P:Params} {h:Heap}:∀(ns:List Int) (vs:YE),WellAll P h vs (ns.map WData.int)->IntsAre vs ns:=by
 intro ns
 induction ns with
 | nil=>
  intro vs w;rw[List.map_nil] at w;cases w;exact .nil
 | cons n ns ih=>
  intro vs w;rw[QbG] at w;cases w with
  | cons a b=>
   cases a;exact .cons _ _ (ih _ b)
theorem Wt {l:OpenLaw} {n:Nat} (hn:l.most=some n) {P:Params} {h:Heap} {args:List WData} {vals:YE}
  (hpre:l.row.toRowW.claim.pre args=true) (hwl:WellAll P h vals args) :
  ∃a vs ns,vals=[Value.ref a]/\args=[WData.list (ns.map WData.int)]/\h.get? a=some { cls:=.type "list",data:=.seq vs.toArray }/\IntsAre vs ns/\ns.length<=n:=by
 have hsh:WShape.hasAll [] args [.list .int]=true:=(pre_splitW hpre).1;have hc:l.pre.holds [] { args:=args }=true:=(pre_splitW hpre).2;obtain⟨d,r,rfl,h1,h2⟩:=hasAllW_cons hsh;obtain rfl:=hasAllW_nil h2;obtain⟨xs,rfl,h3⟩:=hasW_list h1;obtain⟨ns,rfl⟩:=items_int h3;have hlen:ns.length<=n:=by
  unfold OpenLaw.pre at hc;have h4:(WTm.not (.lt (.lit (.int (n:Int))) (.len (.arg 0)))).holds [] { args:=[.list (ns.map .int)] }=true:=by
   have h4:=(holds_andW hc).1;rw[hn] at h4;exact h4
  have h5:=condW_of h4 (w_not (w_lt w_lit (w_len_list (w_arg rfl))));rw[Qbk] at h5;refine Nat.le_of_not_lt λq=>?_;have q':(n:Int) < ((ns.length:Nat):Int):=by omega
  first
   | (rw[Qby q'] at h5;exact absurd h5 (by decide))
   | (simp at h5;omega)
 cases hwl with
 | cons w1 w2=>
  cases w2;cases w1 with
  | list ho hall=>exact⟨_,_,ns,rfl,rfl,ho,NT ns _ hall,hlen⟩
theorem Wx (l:OpenLaw) (args:List WData):l.row.toRowW.claim.post args (.bool true) args=true:=
 postW_of (r:=l.row.toRowW) (X:=(true == true))
  (show WShape.has [] (.bool true) .bool=true by first | rfl | decide | simp[WShape.has,WShape.arms,WShape.armsAll])
  (show (WTm.eq .res (.lit (.bool true))).value [] { args:=args,res:=some (.bool true),after:=args }=some (.bool (true == true)) from w_eq_bool (w_res rfl) w_lit) rfl
theorem Tn {l:OpenLaw} {n:Nat} {q:Program} {loose:YF} {XP:(YB)->Heap->Prop} {YP:World->Heap->Prop} {d:DefRec}
  (hn:l.most=some n) (hdf:d.params.defaults=[])
  (call:∀(w:World) (s₀ s₁ : Shared) (mg mb:YB) (fa:Addr) (o:Obj) (pm cd doc:Value) (a:Addr) (vs:YE) (ns:List Int),
   Ground q loose [] XP w s₀ mg mb s₁.heap->YP w s₁.heap ->
   s₁.heap.get? fa=some o->o.data=.func (docDef d.name d.params d.body d.scope pm cd doc)->s₁.heap.CodeRec cd d.name->mg d.name=some (.ref fa) ->
   s₁.heap.get? a=some { cls:=.type "list",data:=.seq vs.toArray }->IntsAre vs ns->ns.length<=n->s₁.gens=#[] ->
   codeAny (model l.prog w) callerA (.call (.ref fa) ⟨[.ref a],[]⟩) (λr s'=>r=.ok (.ret (.bool true))/\OldK s₁.heap s'.heap/\s'.os=s₁.os/\AllBare s'.gens) s₁) :
  WalkO q loose XP YP l.row.toRowW d [] (λf vs=>PySem.call f vs):=by
 intro w s₀ s₁ mg mb G Y fa o pm cd doc dV kV ho hd hcd hD hmg hg args vals as hpre hlay hrd hwl hlo;obtain rfl:dV=.none:=Dflts.none hD hdf;obtain rfl:kV=.none:=Dflts.noKw hD;obtain⟨a,vs,ns,rfl,rfl,hobj,hints,hlen⟩:=Wt hn hpre hwl;refine enter_call (codeAny_mono (call w s₀ s₁ mg mb fa o pm cd doc a vs ns G Y ho (fd_plain hd) hcd hmg hobj hints hlen hg) λr s' hq=>?_);obtain⟨rfl,h2,h3,h4⟩:=hq;exact⟨.inl ⟨.bool true,.bool true,[],rj,λ_=>rfl,.bool true,Wx l _,λ_=>⟨List.Pairwise.nil,λ_ hm=>(nomatch hm)⟩⟩,h2,h3,h4⟩
section
variable {prog:Program} {w:World} {A:Around} {E:YA} {s:Shared} {K:Frag}
end
end Att
namespace L2
open PySem PySem.Spec PyProof.Rows
theorem KD:∀{vs:YE} {ns:List Int},IntsAre vs ns->Vals (ns.map V.int) vs
 | _,_,.nil=>.nil
 | _,_,.cons n t h=>.cons ⟨t,rfl⟩ (KD h)
def Only (H:Hp):Prop:=∀b,H b=none\/∃o xs,H b=some (.frz o (.lst xs))
theorem Y0 {P:Program} {w:World} {K:YD} {mg mb:YB} {CX:CXT} {k:Nat} {fa a:Addr} {fd:FuncData} {x:Str} {sp:Sp} {s₁ : Shared} {vs:YE} {ns:List Int}
  (KX:K.In s₁.heap) (hns:s₁.heap.Ns mainGlobals mg) (hb:s₁.heap.Ns builtinsNs mb) (hbb:∀x:Str,x≠"__name__"->mb x=bootBuiltins x) (hlim:s₁.heap.NoLimit) (hg:s₁.gens=#[])
  (ha:s₁.heap.get? a=some { cls:=.type "list",data:=.seq vs.toArray }) (hi:IntsAre vs ns) (hl:ns.length<=sizeLine) (hr:Ds k callerA)
  (F:∀base:Heap,K.In base->base.Ns mainGlobals mg->FZ P w K mg base CX k fa fd [x] sp) (hbind:∀(s:Shared) (u:Value),BindsTo s fd ⟨[u],[]⟩ [(x,u)])
  (hsp:∀H:Hp,Only H->SqL K H a (ns.map V.int)->sp [.ref a] H (λv _=>v=.bl true) λ_ _ _=>False)
  (hCX:∀H e s',CX [] H s₁ (λ_ _ _=>False) e s'->False) :
  codeAny (model P w) callerA (.call (.ref fa) ⟨[.ref a],[]⟩) (λr s'=>r=.ok (.ret (.bool true))/\OldK s₁.heap s'.heap/\s'.os=s₁.os/\AllBare s'.gens) s₁:=by
 have rv:=KD hi;have lenV:=hi.length;have core:∀H:Hp,Only H->SqL K H a (ns.map V.int)->HOk P w H s₁.heap->(∀b,H b≠none->b=a)->(H a≠none->K.lookup a=none) ->
   codeAny (model P w) callerA (.call (.ref fa) ⟨[.ref a],[]⟩) (λr s'=>r=.ok (.ret (.bool true))/\OldK s₁.heap s'.heap/\s'.os=s₁.os/\AllBare s'.gens) s₁:=by
  intro H hO hS hok hA hK;have Uy:∀{b:Addr} {o:Obj},s₁.heap.get? b=some o->H b=none->(Kl s₁.heap H).get? b=some o:=λe n=>Y6 e n;have noA:∀{b:Addr} {o:Obj} {es:Array DictEntry} {ep:Nat},s₁.heap.get? b=some o->o.data=.dict es ep->H b=none:=λ{b o es ep} e d=>by
   cases q:H b with
   | none=>rfl
   | some u=>
    have e':b=a:=hA b (by rw[q];simp);subst e';rw[ha] at e;cases e;have d':Data.seq vs.toArray _=Data.dict es ep:=d;cases d'
  have nsK:∀{b:Addr} {m:YB},s₁.heap.Ns b m->(Kl s₁.heap H).Ns b m:=λ{b m} ⟨o,es,ep,e,d,r⟩=>⟨o,es,ep,Uy e (noA e d),d,r⟩;have hKb:K.In (Kl s₁.heap H):=λb o e=>Uy (KX b o e) (by
   cases q:H b with
   | none=>rfl
   | some u=>
    have e':b=a:=hA b (by rw[q];simp);subst e';rw[hK (by rw[q];simp)] at e;cases e)
  have hM:Mod K mg (Kl s₁.heap H):=⟨hKb,nsK hns,⟨mb,nsK hb,hbb⟩,let ⟨mc,h1,h2⟩:=hlim;⟨mc,nsK h1,h2⟩⟩;have e0:Nh P w K mg (Kl s₁.heap H) callerA [] s₁ H:=⟨rj,hM,λb o e=>aJ e,Nat.le_of_eq (Xe _ _),trivial,λb hb=>absurd (show b∈([]:List Addr) from hb) (by simp),hok,.of_eq hg⟩
  refine codeAny_mono ((F _ hKb (nsK hns)).run callerA [] s₁ H ⟨[.ref a],[]⟩ [.ref a] [.ref a] _ _ hr e0 (hbind s₁ (.ref a)) (.cons rfl .nil) (hsp H hO hS)) λr s' h=>?_;cases r with
  | error e=>exact (hCX H e s' h).elim
  | ok fl=>
   cases fl with
   | next=>exact False.elim h
   | brk=>exact False.elim h
   | cont=>exact False.elim h
   | ret u=>
    obtain⟨v,H',os,bare,un,hok',r',q⟩:=h;have q':v=.bl true:=q;subst q';obtain rfl:u=Value.bool true:=r';refine⟨rj,OldK.of_keep λb o e=>?_,os,bare⟩;cases q:H b with
    | none=>exact un.keep b o e q (by intro z;exact absurd (show b∈([]:List Addr) from z) (by simp)) (by simp)
    | some u=>
     rcases hO b with z |⟨ob,xs,z⟩
     ·rw[q] at z;cases z
     ·have z2:=un.Gy b ob _ z;obtain⟨e1,_⟩:=hok b _ z;obtain⟨e2,_⟩:=hok' b _ z2;rw[e] at e1;cases e1;exact e2
 cases hk:K.lookup a with
 | some o=>
  have e:=KX a o hk;rw[ha] at e;cases e;refine core (λ_=>none) (λ_=>.inl rfl) (.inr ⟨_,vs.toArray,_,hk,rj,rj,rj,by rw[QaS,lenV];exact hl,by simpa using rv⟩) (λb u z=>by have z':(none:Option HO)=some u:=z;cases z') (λb z=>absurd rfl z) λz=>absurd rfl z
 | none=>
  refine core (λb=>if b=a then some (.frz { cls:=.type "list",data:=.seq vs.toArray } (.lst (ns.map V.int))) else none) (λb=>?_) (.inl (.inr ⟨{ cls:=.type "list",data:=.seq vs.toArray },if_pos rfl⟩)) (λb u z=>?_) (λb z=>?_) λ_=>hk
  ·by_cases hb:b=a
   ·exact .inr ⟨_,_,if_pos hb⟩
   ·exact .inl (if_neg hb)
  ·by_cases hb:b=a
   ·have z':=(if_pos hb).symm.trans z;cases z';subst hb;exact⟨ha,by rw[Qbk];exact hl,vs,_,rv,ha⟩
   ·have z':=(if_neg hb).symm.trans z;cases z'
  ·by_cases hb:b=a
   ·exact hb
   ·exact absurd (if_neg hb) z
theorem Z2 {l:PySem.W.OpenLaw} {n k:Nat} {q:Program} {loose:YF} {XP:(YB)->Heap->Prop} {YP:World->Heap->Prop} {d:DefRec} {K:Params->YD} {CX:World->CXT} {sp:World->Sp} {x:Str}
  (hn:l.most=some n) (hn2:n<=sizeLine) (hdf:d.params.defaults=[]) (hr:Ds k callerA)
  (hY:∀(w:World) (h:Heap),YP w h->(K w.params).In h)
  (F:∀(w:World) (mg:YB) (fa:Addr) (h:Heap),(K w.params).In h->h.Ns mainGlobals mg->mg d.name=some (.ref fa) ->
   ∃fd:FuncData,(∀(s:Shared) (u:Value),BindsTo s fd ⟨[u],[]⟩ [(x,u)]) /\
    ∀base:Heap,(K w.params).In base->base.Ns mainGlobals mg->FZ l.prog w (K w.params) mg base (CX w) k fa fd [x] (sp w))
  (hsp:∀(w:World) (H:Hp) (a:Addr) (ns:List Int),ns.length<=n->Only H->SqL (K w.params) H a (ns.map V.int)->sp w [.ref a] H (λv _=>v=.bl true) λ_ _ _=>False)
  (hCX:∀(w:World) (H:Hp) (s:Shared) (e:Value) (s':Shared),CX w [] H s (λ_ _ _=>False) e s'->False) :
  PySem.W.WalkO q loose XP YP l.row.toRowW d [] (λf vs=>PySem.call f vs):=by
 refine Att.Tn hn hdf λw s₀ s₁ mg mb fa o pm cd doc a vs ns G Y ho hd hcd hmg hobj hints hlen hg=>?_;have KX:=hY w _ Y;obtain⟨fd,hb,hF⟩:=F w mg fa _ KX G.T.g hmg;exact Y0 KX G.T.g G.T.b G.T.builtins G.T.nolimit hg hobj hints (QbO hlen hn2) hr hF hb (λH hO hS=>hsp w H a ns hlen hO hS) λH e s'=>hCX w H s₁ e s'
def Ew (s:Stmt):Arguments:=match s with
 | .FunctionDef _ a _ _ _ _ _ _ _ _=>a
 | _=>{ posonlyargs:=[],args:=[],vararg:=none,kwonlyargs:=[],kw_defaults:=[],kwarg:=none,defaults:=[] }
def Dp (s:Stmt):List Stmt:=match s with
 | .FunctionDef _ _ b _ _ _ _ _ _ _=>b
 | _=>[]
def Aj (s:Stmt):Scope:=match s with
 | .FunctionDef _ _ _ _ _ _ sc _ _ _=>sc
 | _=>{ kind:=.function,names:=[],isGenerator:=false,isCoroutine:=false }
abbrev CX0:CXT:=λ_ _ _ _ _ _=>False
abbrev E0:XK:=λ_ _ _=>False
theorem fM {X:Cx}:Passes CX0 X E0:=λ_ _ _ _ _ _ _ h=>h.elim
structure Fun (K:YD) (x qual:Str) (st:Stmt) (f:Addr) (fd:FuncData):Prop where
 ex:∃(oc:Value) (od:Option Addr) (kV doc pm:Value) (an:Option Addr) (cdv ct:Value) (osl:YI),
  fd=fnOf x qual (Ew st) (Dp st) (Aj st) .none kV doc pm an cdv ct/\K.lookup f=some ⟨oc,od,.func fd,osl⟩/\codeIn K cdv qual=true
 kp:keepIn K (.ref f)=true
section
variable {P:Program} {w:World} {K:YD} {mg:YB} {base:Heap}
theorem Fun.ok {x qual:Str} {st:Stmt} {f:Addr} {fd:FuncData} {N ps:YF} {k:Nat} {sp:Sp} (F:Fun K x qual st f fd) (S:Bk N ps (Aj st)) (len:∀vs H Q E,sp vs H Q E->vs.length=ps.length)
  (hbody:∀(cdv:Value) (A:Around) (outer:List Env) (s:Shared) (H:Hp) (vs:YG) (Q:VK) (E:XK),Ds k (A.deeper (envOfC qual (Aj st) s.heap.objs.size f cdv))->sp vs H Q E ->
   ∃t,PSs (La CX0 P w K mg base N qual (Aj st) f cdv A outer s H E).nox (Dp st) t/\t { nx:=λ_ H'=>Q .non H',rt:=Q } (start N vs) H):FZ P w K mg base CX0 (k+1) f fd ps sp:=by
 obtain⟨oc,od,kV,doc,pm,an,cdv,ct,osl,rfl,lk,hcd⟩:=F.ex;refine gq lk hcd S len λA outer s H vs Q E hr hsp=>?_;obtain⟨t,h,q⟩:=hbody cdv A outer s H vs Q E hr hsp;exact⟨t,h.nox,q⟩
theorem Fun.binds {x qual:Str} {st:Stmt} {f:Addr} {fd:FuncData} {ps:YF} (F:Fun K x qual st f fd)
  (h:∀(kV doc pm:Value) (an:Option Addr) (cdv ct:Value) (us:YE),us.length=ps.length->bindArgs (fnOf x qual (Ew st) (Dp st) (Aj st) .none kV doc pm an cdv ct) ⟨us,[]⟩=pure (ps.zip us)):Binds K fd ps []:=by
 obtain⟨oc,od,kV,doc,pm,an,cdv,ct,osl,rfl,lk,hcd⟩:=F.ex;exact .all (h kV doc pm an cdv ct)
theorem Xm {x qual:Str} {st:Stmt} {f:Addr} {oc:Value} {od an:Option Addr} {osl:YI} {kV doc pm cdv ct:Value} (l:K.lookup f=some ⟨oc,od,.func (fnOf x qual (Ew st) (Dp st) (Aj st) .none kV doc pm an cdv ct),osl⟩)
  (c:codeIn K cdv qual=true) (k:keepIn K (.ref f)=true):Fun K x qual st f (fnOf x qual (Ew st) (Dp st) (Aj st) .none kV doc pm an cdv ct):=⟨⟨oc,od,kV,doc,pm,an,cdv,ct,osl,rj,l,c⟩,k⟩
end
theorem Bc {n:Nat} (h:n<=1000):n < sizeLine:=Nat.lt_of_le_of_lt h (by decide)
section
variable {X:Cx}
theorem pv (i:Nat) {x:Str} {pos:Pos} (hN:X.N[i]?=some x:=by rfl) (hv:Vis X.env.scope x:=by first | exact Or.inl rfl | exact Or.inr (Or.inl rfl) | exact Or.inr (Or.inr rfl)) (hd:(x == ("__debug__":Str))=false:=by decide)
  (hcd:(x == ("__classdict__":Str))=false:=by decide):PE X (.Name x pos) (bJ i):=cC hN hv hd hcd
end
theorem Ba {A B:Prop} (h:B):if false=true then A else B:=by
 rw[if_neg QaG];exact h
theorem Ar {A B:Prop} (h:A):if true=true then A else B:=by
 rw[if_pos rfl];exact h
theorem Hq {c A B:Prop} [Decidable c] (h1:c->A) (h2:¬c->B):if c then A else B:=by
 by_cases h:c
 ·rw[if_pos h];exact h1 h
 ·rw[if_neg h];exact h2 h
theorem fX {c A B:Prop} [Decidable c] (hc:c) (h:B):if (!decide c)=true then A else B:=by
 rw[Qby hc];exact Ba h
def Same (H H':Hp):Prop:=∀b o,H b=some o->H' b=some o
theorem Same.refl (H:Hp):Same H H:=λ_ _ h=>h
theorem Same.trans {H H1 H2:Hp} (a:Same H H1) (b:Same H1 H2):Same H H2:=λc o h=>b c o (a c o h)
theorem Same.free {H H':Hp} (e:Same H H') {l:Addr} (h:H' l=Option.none):H l=Option.none:=by
 cases q:H l with
 | none=>rfl
 | some o=>
  rw[e l o q] at h;cases h
theorem Same.seq {K:YD} {H H':Hp} {a:Addr} {xs:YG} (e:Same H H') (h:SqL K H a xs):SqL K H' a xs:=by
 rcases h with (h |⟨o,h⟩) | h
 ·exact .inl (.inl (e _ _ h))
 ·exact .inl (.inr ⟨o,e _ _ h⟩)
 ·exact .inr h
def Eb (env:Env):List (Str×NameKind)->List (Str×Addr)->List (Str×Addr)
 | [],cs=>cs
 | (n,k)::r,cs=>Eb env r (if (k == .free)=true then (match env.cells.lookup n with | some c=>(n,c)::cs | none=>cs) else cs)
theorem Sq {env:Env}:∀(names:List (Str×NameKind)) (cs:List (Str×Addr)),(∀p∈names,p.2=.free->∃c,env.cells.lookup p.1=some c) ->
  (forIn names cs λ(p:Str×NameKind) (r:List (Str×Addr))=>(if (p.2 == .free)=true then do
    let c <-cellOf env p.1
    pure (ForInStep.yield ((p.1,c)::r))
   else pure (ForInStep.yield r):Sem (ForInStep (List (Str×Addr)))))=pure (Eb env names cs)
 | [],cs,_=>rfl
 | (n,k)::rest,cs,h=>by
  have ih:=λcs'=>Sq rest cs' λp hp=>h p (Qav _ hp);rw[List.forIn_cons];cases hk:(k == NameKind.free) with
  | true=>
   obtain⟨c,hc⟩:=h (n,k) QaH (Qca hk);have e1:cellOf env n=pure c:=by unfold cellOf;rw[hc]
   have e2:Eb env ((n,k)::rest) cs=Eb env rest ((n,c)::cs):=by simp only[Eb,hk,if_true,hc]
   rw[e2,<-ih];simp only[hk,if_true,e1,pure_bind]
  | false=>
   have e2:Eb env ((n,k)::rest) cs=Eb env rest cs:=by simp only[Eb,hk,Bool.false_eq_true,if_false]
   rw[e2,<-ih];simp only[hk,Bool.false_eq_true,if_false,pure_bind]
theorem N5 {env:Env} {scope:Scope} (h:∀p∈scope.names,p.2=.free->∃c,env.cells.lookup p.1=some c):closureFor scope env=pure (Eb env scope.names []):=by
 have e:=Sq (env:=env) scope.names [] h;unfold closureFor;simp only[bind_pure];exact e
theorem Sh {env:Env}:∀(names:List (Str×NameKind)) (cs:List (Str×Addr)),(∀x c,cs.lookup x=some c->env.cells.lookup x=some c) ->
  ∀x c,(Eb env names cs).lookup x=some c->env.cells.lookup x=some c
 | [],cs,h,x,c,e=>h x c e
 | (n,k)::rest,cs,h,x,c,e=>by
  refine Sh rest _ (λy d z=>?_) x c e;split at z
  ·split at z
   ·rename_i c' hc';rw[List.lookup_cons] at z;cases q:y == n with
    | true=>rw[q] at z;cases z;rw[Qca q];exact hc'
    | false=>rw[q] at z;exact h y d z
   ·exact h y d z
  ·exact h y d z
theorem M9 {env:Env}:∀(names:List (Str×NameKind)) (cs:List (Str×Addr)) (x:Str),((cs.lookup x).isSome=true\/((x,NameKind.free)∈names/\∃c,env.cells.lookup x=some c)) ->
  ∃c,(Eb env names cs).lookup x=some c
 | [],cs,x,h=>by
  rcases h with h |⟨h,_⟩
  ·exact Option.isSome_iff_exists.mp h
  ·cases h
 | (n,k)::rest,cs,x,h=>by
  refine M9 rest _ x ?_;have grow:(cs.lookup x).isSome=true->(List.lookup x (if (k == .free)=true then (match env.cells.lookup n with | some c=>(n,c)::cs | none=>cs) else cs)).isSome=true:=λz=>by
   split
   ·split
    ·rw[List.lookup_cons];cases x == n with
     | true=>rfl
     | false=>exact z
    ·exact z
   ·exact z
  rcases h with h |⟨h,c,hc⟩
  ·exact .inl (grow h)
  ·rcases QbD.mp h with z | z
   ·cases z;refine .inl ?_;simp[hc,List.lookup_cons]
   ·exact .inr ⟨z,c,hc⟩
def Jb (env:Env) (n:Str) (k:NameKind):NameKind:=if (k == .free&&env.scope.kind == .function&&env.kindOf n == some .cell)=true then .cell else k
theorem NK (env:Env):∀(l:List (Str×NameKind)) (x:Str),
  (l.map λ(n,k)=>if (k == NameKind.free&&env.scope.kind == .function&&env.kindOf n == some .cell) then (n,NameKind.cell) else (n,k)).lookup x=(l.lookup x).map (Jb env x)
 | [],_=>rfl
 | (n,k)::r,x=>by
  have ih:=NK env r x;have e:(if (k == NameKind.free&&env.scope.kind == .function&&env.kindOf n == some .cell)=true then (n,NameKind.cell) else (n,k))=(n,Jb env n k):=by
   unfold Jb;split <;> rfl
  rw[QbG];show List.lookup x ((if (k == NameKind.free&&env.scope.kind == .function&&env.kindOf n == some .cell)=true then (n,NameKind.cell) else (n,k))::_)=_
  rw[e,List.lookup_cons,List.lookup_cons];cases q:x == n with
  | true=>rw[Qca q];rfl
  | false=>exact ih
theorem Yg {env:Env} {n:Str} {k:NameKind} (h:Jb env n k=.cell\/Jb env n k=.free):k=.cell\/k=.free:=by
 unfold Jb at h;split at h
 ·rename_i q;simp only[Qbc] at q;exact .inr (Qca q.1.1)
 ·exact h
theorem Xv {prog:Program} {w:World} {A:Around} {R:Result->Shared->Prop} {s:Shared} {elt target iter:Expr} {ifs:YJ} {scope:Scope} {pos:Pos} {it acc:Value} {env:Env} (J:Nat->Shared->Prop)
  (turn:∀n s,J n s->wpAny (model prog w) A (pyNext it) (λr s1=>match r with
   | none=>R (.ok .next) s1
   | some v=>wpAny (model prog w) A (letOwnedTupleGo target it v) (λ_ s2=>wpAny (model prog w) A (assign target env v) (λ_ s3=>
     wpAny (model prog w) A (forIn ifs true λc r=>if r=true then do let ok <-isTrue c env (eval c env);pure (ForInStep.yield ok) else pure (ForInStep.yield r)) (λok s4=>
      if ok=true then wpAny (model prog w) A (eval elt env) (λx s5=>wpAny (model prog w) A (call (.builtin "list.append") [acc,x]) (λ_ s6=>∃m,m < n/\J m s6) (λ_ _=>False) s5) (λ_ _=>False) s4
      else ∃m,m < n/\J m s4) (λ_ _=>False) s3) (λ_ _=>False) s2) (λ_ _=>False) s1) (λ_ _=>False) s)
  (n:Nat) (h:J n s):codeAny (model prog w) A (.compLoop (.ListComp elt [⟨target,iter,ifs,0⟩] scope pos) 0 it acc env) R s:=by
 refine codeAny_loop rfl J (λk s' hk=>?_) n h;show wpAny _ A (Sem.onRaise (compTurn (.ListComp elt [⟨target,iter,ifs,0⟩] scope pos) 0 it acc env) (λx=>do noteFrame x env;theTreesLotGoes x)) _ _ s'
 refine wpAny_noted ?_;rw[compTurn_list];refine QbW (QbL (QbW (QbY (turn k s' hk) (λr s1 q1=>?_) λ_ _ f=>f.elim)));cases r with
 | none=>exact QbX q1
 | some v=>
  refine QbW (QbY q1 (λ_ s2 q2=>QbW (QbY q2 (λ_ s3 q3=>QbW (QbY q3 (λok s4 q4=>?_) λ_ _ f=>f.elim)) λ_ _ f=>f.elim)) λ_ _ f=>f.elim);cases ok with
  | false=>exact QbX ⟨rfl,q4⟩
  | true=>exact QbW (QbW (QbY q4 (λx s5 q5=>QbW (QbY q5 (λ_ s6 q6=>QbX (QbX ⟨rfl,q6⟩)) λ_ _ f=>f.elim)) λ_ _ f=>f.elim))
def cxC (X:Cx) (N':YF) (scope:Scope) (s3:Shared) (H3:Hp) (fp:List Addr) (pn:YC):Cx where
 prog:=X.prog
 w:=X.w
 K:=X.K
 mg:=X.mg
 base:=X.base
 A:=X.A
 N:=N'
 s₀:=s3
 H₀:=H3
 env:=compEnvC scope (Eb X.env scope.names []) s3.heap.objs.size X.env
 outer:=X.stack
 stack:=X.stack
 ex:=fp
 fn:=λ_=>false
 calm:=X.calm
 pn:=pn
 xe:=λ_ _=>False
structure Bt (X:Cx) (N':YF) (src:List (Option Nat)) (sc:Scope):Prop where
 kind:sc.kind=.function
 G9:∀y∈sc.names,y.2≠.cell
 loc:∀y∈sc.names,y.2=.local->sc.names.lookup y.1=some .local
 fv:∀y∈sc.names,y.2=.free->X.env.kindOf y.1=some .cell\/X.env.kindOf y.1=some .free
 len:src.length=N'.length
 src:∀(i:Nat) (x:Str) (j:Nat),N'[i]?=some x->src[i]?=some (some j)->X.N[j]?=some x/\sc.names.lookup x=some .free
def Ik (src:List (Option Nat)) (U : St):St:=src.map λo=>match o with | none=>none | some j=>(U[j]?).join
def PF (X:Cx) (ifs:YJ) (t:TT):Prop:=
 ∀(jb:YC) (s:Shared) (U : St) (H:Hp) (Q:Bool->Hp->Prop),Inv X jb U H s->t U H Q ->
  wpAny (model X.prog X.w) X.A (forIn ifs true λc r=>if r=true then do let ok <-isTrue c X.env (eval c X.env);pure (ForInStep.yield ok) else pure (ForInStep.yield r)) (TP X jb U Q) X.xe s
theorem CV {X:Cx}:PF X [] (λ_ H Q=>Q true H):=λ_ _ _ H _ I h=>wpAny_tests_nil ⟨H,I,h⟩
theorem K5 {X:Cx} {c:Expr} {t:TT} (hc:PT X c t):PF X [c] t:=λjb s U H Q I h=>wpAny_tests_one (hc jb s U H Q I h)
theorem Un.ahead {fs ex:List Addr} {H H':Hp} {h h1 h':Heap} (u:Un fs ex H H' h h1) (k:∀b o,b < h.objs.size->h1.get? b=some o->h'.get? b=some o):Un fs ex H H' h h' where
 keep:=λb o e n hb hx=>k b o (QbM e) (u.keep b o e n hb hx)
 slot:=λb o e n hb hx=>by
  obtain⟨sl,q⟩:=u.slot b o e n hb hx;exact⟨sl,k b _ (QbM e) q⟩
 free:=u.free
 there:=λb o e hx=>by
  obtain⟨o',q⟩:=u.there b o e hx;exact⟨o',k b _ (QbM e) q⟩
 tups:=u.tups
 Gy:=u.Gy
 GR:=u.GR
section
variable {X:Cx} {N':YF} {src:List (Option Nat)} {sc:Scope} {jb:YC} {U : St} {H:Hp} {s3:Shared} {fp:List Addr} {h1:Heap} {tk:Nat}
theorem RZ (S:Bt X N' src sc) (I:Inv X jb U H s3) (hf:∀b∈fp,FW X jb H b) (ht:∀b∈fp,b < s3.heap.objs.size)
  (ns:h1.Ns s3.heap.objs.size λ_=>none) (kp:∀b o,s3.heap.get? b=some o->h1.get? b=some o) :
  Inv (cxC X N' sc s3 H fp (X.pn++jb)) [] (Ik src U) H { s3 with heap:=h1,toks:=tk }:=by
 have hcl:∀x c,(Eb X.env sc.names []).lookup x=some c->X.env.cells.lookup x=some c:=Sh sc.names [] λx c e=>by cases e
 have old:∀x c,(Eb X.env sc.names []).lookup x=some c->∃o,s3.heap.get? c=some o:=λx c e=>by
  obtain⟨v,o,ho,_⟩:=I.cell x c (hcl x c e);exact⟨o,ho⟩
 have fvh:∀x,(x,NameKind.free)∈sc.names->∃c,X.env.cells.lookup x=some c:=λx hx=>I.ok.has x (S.fv _ hx rfl);have bN:∀b,b≠X.env.locals->b∉X.fs->b∉frs X.stack:=λb h1 h2 hb=>(QbD.mp (I.QK b hb)).elim h1 h2;have kindOf_eq:∀x,(compEnvC sc (Eb X.env sc.names []) s3.heap.objs.size X.env).kindOf x=(sc.names.lookup x).map (Jb X.env x):=λx=>NK X.env sc.names x;refine⟨⟨I.ok.mod,S.kind,I.ok.glob,I.ok.blt,QbR _,λx y c e1 e2=>I.ok.inj x y c (hcl x c e1) (hcl y c e2),λx hx=>?_,λx c hf=>absurd hf QaG,I.ok.hd,I.ok.frames,.inl rfl,λb hb=>?_,I.bs,QbO I.ok.bsz I.sz,
  λb o e hb=>?_,λb hb=>?_,I.stack,I.Oc⟩,rj,I.bare,Un.kept kp,⟨_,ns,λi x v e1 e2 e3=>?_⟩,λx c e=>?_,I.hok.fresh (QbR _),λx c e=>I.Gv x c (hcl x c e),λp hp=>?_,I.hok.kept kp,?_⟩
 ·
  have hx':(sc.names.lookup x).map (Jb X.env x)=some .cell\/(sc.names.lookup x).map (Jb X.env x)=some .free:=by
   rw[<-kindOf_eq x];exact hx
  cases q:sc.names.lookup x with
  | none=>rw[q] at hx';rcases hx' with z | z <;> cases z
  | some k=>
   rw[q] at hx';have hk:k=.cell\/k=.free:=Yg (env:=X.env) (n:=x) (hx'.imp (λz=>Qbp z) λz=>Qbp z);have hm:=QaD q;rcases hk with rfl | rfl
   ·exact absurd rfl (S.G9 _ hm)
   ·exact M9 sc.names [] x (.inr ⟨hm,fvh x hm⟩)
 ·
  obtain⟨f0,f1,f2,f3,f4,f5⟩:=hf b hb;exact⟨QbN (ht b hb),λx c e=>f4 x c (hcl x c e)⟩
 ·
  obtain⟨f0,f1,f2,f3,f4,f5⟩:=hf b hb;rcases f3 with z | z
  ·exact I.ok.Ow b o e z
  ·exact absurd (QaL (QbM e) (QbO I.ok.bsz z)) (QbH _)
 ·
  obtain⟨f0,f1,f2,f3,f4,f5⟩:=hf b hb;exact bN b f1 f2
 ·
  have e2':(Ik src U)[i]?=some (some v):=e2;unfold Ik at e2';rw[QaT] at e2';cases q:src[i]? with
  | none=>rw[q] at e2';cases e2'
  | some oj=>
   rw[q] at e2';cases oj with
   | none=>cases e2'
   | some j=>
    have e4:(U[j]?).join=some v:=Qbp e2';have e5:U[j]?=some (some v):=by
     cases r:U[j]? with
     | none=>rw[r] at e4;cases e4
     | some z=>rw[r] at e4;cases z with
      | none=>cases e4
      | some y=>cases e4;rfl
    obtain⟨hN,hfr⟩:=S.src i x j e1 q;have hm:=QaD hfr;have kx:=S.fv _ hm rfl;obtain⟨m,hn,hl⟩:=I.loc;obtain⟨u,r,l⟩:=hl j x v hN e5 (.inr kx);refine⟨u,r,?_⟩;rcases l with⟨k1,_⟩|⟨_,c,hc,hcell⟩
    ·rcases kx with z | z <;> (rw[z] at k1;cases k1)
    ·obtain⟨c',hc'⟩:=M9 (env:=X.env) sc.names [] x (.inr ⟨hm,c,hc⟩);have e6:c'=c:=by
      have:=hcl x c' hc';rw[hc] at this;exact (Qbp this).symm
     subst e6;refine .inr ⟨?_,c',hc',?_⟩
     ·have:(compEnvC sc (Eb X.env sc.names []) s3.heap.objs.size X.env).kindOf x=some (Jb X.env x .free):=by rw[kindOf_eq x,hfr];rfl
      show (compEnvC sc (Eb X.env sc.names []) s3.heap.objs.size X.env).kindOf x=some .cell\/(compEnvC sc (Eb X.env sc.names []) s3.heap.objs.size X.env).kindOf x=some .free;rw[this];unfold Jb;split
      ·exact .inl rfl
      ·exact .inr rfl
     ·obtain⟨o,ho,hd⟩:=hcell;exact⟨o,kp _ o ho,hd⟩
 ·
  obtain⟨v,o,ho,hd⟩:=I.cell x c (hcl x c e);exact⟨v,o,kp _ o ho,hd⟩
 ·
  have hp':p∈X.pn++jb:=(Qbm.mp hp).elim id λz=>by cases z
  obtain⟨a1,a2,a3,a4,a5⟩:=I.pin p hp';exact⟨kp _ _ a1,a2,QbN (QbM a1),bN p.1 a3 a4,a5⟩
 ·show (Ik src U).length=N'.length;unfold Ik;rw[Qbk];exact S.len
theorem Sg {s1:Shared} {σ':St} {H':Hp} {h':Heap} (I:Inv X jb U H s3) (hf:∀b∈fp,FW X jb H b) (I':Inv (cxC X N' sc s3 H fp (X.pn++jb)) [] σ' H' s1)
  (sb:Heap.SameBut s3.heap.objs.size s1.heap h'):Inv X jb U H' { s1 with heap:=h' }:=by
 have fr:H' s3.heap.objs.size=none:=I'.free;refine I.call' (s':={ s1 with heap:=h' }) (ch:=fp) I'.os ?_ ?_ I'.bare λb hb=>?_
 ·exact Un.ahead (h:=s3.heap) (h1:=s1.heap) I'.base λb o hb e=>sb.extBut b o (QbN hb) e
 ·exact λb u e=>(I'.hok b u e).stay (λc v hc q=>sb.extBut c v (by
   intro z;rcases hc with y | y
   ·rw[<-y,z,fr] at e;cases e
   ·rw[z,fr] at y;cases y) q) (λ_ q=>q) λ_ _ q=>q
 ·obtain⟨f0,f1,f2,f3,f4,f5⟩:=hf b hb;exact⟨f3,f1,f4,λp hp=>f5 p hp⟩
end
@[irreducible] def Gb (J:It) (g:TG) (tt:TT) (te:TE) (Q:VK) (σ0:St) (H0:Hp) (l:Addr):Prop:=∃W:Nat->YN,(∃m,W 0 m σ0 H0) /\
 ∀i m σ' H',W i m σ' H'->(J.stop i H'/\Q (.ref l) H')\/(J.go i H'/\∃N:YO,(∀ σ3 H3,N σ3 H3->∃m',m' < m/\W (i+1) m' σ3 H3)/\∀x H2,J.yld i H' x H2->g x σ' H2 fun σ3 H3=>tt σ3 H3 λb H4=>
  if b=true then te σ3 H4 λy H5=>∃xs,H5 l=some (.lst xs)/\xs.length < sizeLine/\N σ3 (upd H5 l (.lst (xs++[y]))) else N σ3 H4)
def U7 (wi:TI) (src:List (Option Nat)) (g:TG) (tt:TT) (te:TE):TE:=fun U H Q=>wi U H λJ H1=>∀l,H1 l=none->Gb J g tt te Q (Ik src U) (upd H1 l (.lst [])) l
theorem PX {X:Cx} {N':YF} {src:List (Option Nat)} {sc:Scope} {elt tg iter:Expr} {ifs:YJ} {pos pos':Pos} {wi:TI} {g:TG} {tt:TT} {te:TE} {use:Option (Value->Sem Unit)} {R:YA} (hc:X.calm=true) (S:Bt X N' src sc)
  (hi:PI X tg iter wi) (hg:∀s3 H3 fp pn,PG (cxC X N' sc s3 H3 fp pn) tg g) (ht:∀s3 H3 fp pn,PF (cxC X N' sc s3 H3 fp pn) ifs tt) (he:∀s3 H3 fp pn,PE (cxC X N' sc s3 H3 fp pn) elt te)
  (hs:∀x,foldedSetIterable iter X.env x=pure x) {jb:YC} {s:Shared} {U : St} {H:Hp} {Q:VK} (I:Inv X jb U H s) (h:U7 wi src g tt te U H Q)
  (fin:∀s3 H3 fp σ4 H4 s5 l,Inv X jb U H3 s3->(∀b∈fp,FW X jb H3 b)->Inv (cxC X N' sc s3 H3 fp (X.pn++jb)) [] σ4 H4 s5->Q (.ref l) H4 ->
   compPost (model X.prog X.w) X.A X.xe use R (.ref l) s3.heap.objs.size (.ok .next) s5) :
  wpAny (model X.prog X.w) X.A (comprehension (.ListComp elt [⟨tg,iter,ifs,0⟩] sc pos) sc X.env pos' (newList []) false (eval iter X.env) use) R X.xe s:=by
 refine wpAny_comprehension_free (use:=use) (cl:=Eb X.env sc.names []) rfl hs (N5 λp hp e=>I.ok.has p.1 (S.fv p hp e)) S.kind S.loc ?_;refine thn (hi jb s U H _ I h) λv s1 h1=>thn h1 λitv s2 h2=>?_;obtain⟨it,fp,tn,J,H2,rfl,I2,T,st2,f2,q⟩:=h2;have q':=q s2.heap.objs.size (I2.hok.fresh (QbR _));unfold Gb at q';obtain⟨W,⟨m0,w0⟩,turn⟩:=q';refine QaV (wpAny_newFunctionEnv S.G9 (by intro y hy;simp at hy) (λha hns hsb=>?_) S.kind);have I3:Inv X jb U (upd H2 s2.heap.objs.size (.lst [])) { s2 with heap:=s2.heap.push { cls:=.type "list",dict:=none,data:=.seq ([]:YE).toArray } }:=
  I2.laid (t':=s2.toks) (λb u e=>Qap _ e) (QbR _) ⟨QbS _,[],0,.nil,Qaz _ rfl⟩
 have hfl:∀b∈fp,b < s2.heap.objs.size:=λb hb=>by
  obtain⟨o,e,_⟩:=T.obj 0 _ st2 b hb;exact QbM e
 have f3:∀b∈fp,FW X jb (upd H2 s2.heap.objs.size (.lst [])) b:=λb hb=>⟨by rw[Bd (QbN (hfl b hb))];exact (f2 b hb).1,(f2 b hb).2⟩;generalize hs3:({ s2 with heap:=s2.heap.push { cls:=.type "list",dict:=none,data:=.seq ([]:YE).toArray } }:Shared)=s3 at *;have hsz:s2.heap.objs.size < s3.heap.objs.size:=by rw[<-hs3];show s2.heap.objs.size < (s2.heap.push _).objs.size;rw[QbA];exact Nat.lt_succ_self _
 have kp:∀b o,s3.heap.get? b=some o->ha.get? b=some o:=λb o e=>hsb.extBut b o (QbN (QbM e)) (Qap _ e);have st3:tn 0 ha:=T.keep 0 _ _ st2 λb hb o e=>kp b o (by rw[<-hs3];exact Qap _ e);have I4:Inv (cxC X N' sc s3 (upd H2 s2.heap.objs.size (.lst [])) fp (X.pn++jb)) [] (Ik src U) (upd H2 s2.heap.objs.size (.lst [])) { s3 with heap:=ha,toks:=s3.toks+([]:List (Str×Value)).length }:=
  RZ S I3 f3 (λb hb=>Nat.lt_trans (hfl b hb) hsz) hns kp
 have loop:codeAny (model X.prog X.w) X.A (.compLoop (.ListComp elt [⟨tg,iter,ifs,0⟩] sc pos) 0 (.ref it) (.ref s2.heap.objs.size) (compEnvC sc (Eb X.env sc.names []) s3.heap.objs.size X.env))
   (compPost (model X.prog X.w) X.A X.xe use R (.ref s2.heap.objs.size) s3.heap.objs.size) { s3 with heap:=ha,toks:=s3.toks+([]:List (Str×Value)).length }:=by
  refine Xv (λn s'=>∃i σ' H',Inv (cxC X N' sc s3 (upd H2 s2.heap.objs.size (.lst [])) fp (X.pn++jb)) [] σ' H' s'/\tn i s'.heap/\(∀b∈fp,H' b=none)/\W i n σ' H') ?_ m0 ⟨0,_,_,I4,st3,λb hb=>(f3 b hb).1,w0⟩;rintro n s4 ⟨i,σ4,H4,J4,st4,fr4,w4⟩;have stat:∀{H':Hp},(∀b∈fp,H' b=none)->∀b∈fp,FW (cxC X N' sc s3 (upd H2 s2.heap.objs.size (.lst [])) fp (X.pn++jb)) [] H' b:=λhn b hb=>
   ⟨hn b hb,(I4.ok.exf b hb).1,I4.ok.M6 b hb,.inl hb,λx c e=>(I4.ok.exf b hb).2 x c e,λp hp=>(f3 b hb).2.2.2.2.2 p ((Qbm.mp hp).elim id λz=>by cases z)⟩
  rcases turn i n σ4 H4 w4 with⟨stop,qn⟩|⟨go,N,hN,step⟩
  ·refine thn (T.done (cxC X N' sc s3 (upd H2 s2.heap.objs.size (.lst [])) fp (X.pn++jb)) rfl rfl rfl hc i [] s4 σ4 H4 _ J4 (stat fr4) st4 stop) λr s5 zz=>?_;obtain⟨hr,J5⟩:=zz;subst hr;exact fin s3 _ fp σ4 H4 s5 _ I3 f3 J5 qn
  ·refine thn (T.item (cxC X N' sc s3 (upd H2 s2.heap.objs.size (.lst [])) fp (X.pn++jb)) rfl rfl rfl hc i [] s4 σ4 H4 _ J4 (stat fr4) st4 go) λr s5 zz=>?_;obtain⟨u,hr,h5⟩:=zz;subst hr;refine thn h5 λ_ s6 zz=>?_;obtain⟨x,H6,J6,r6,y6,st6,fr6⟩:=zz;have J6':=J6.pinned (stat fr6) (T.obj _ _ st6);have back:∀{pl:YC} {σ7:St} {H7:Hp} {s7:Shared},Inv (cxC X N' sc s3 (upd H2 s2.heap.objs.size (.lst [])) fp (X.pn++jb)) ([]++JL fp s6.heap) σ7 H7 s7->N σ7 H7 ->
     ∃m',m' < n/\∃i σ' H',Inv (cxC X N' sc s3 (upd H2 s2.heap.objs.size (.lst [])) fp (X.pn++jb)) [] σ' H' s7/\tn i s7.heap/\(∀b∈fp,H' b=none)/\W i m' σ' H':=λ{pl σ7 H7 s7} J7 w7=>by
    obtain⟨m',hm,w7⟩:=hN _ _ w7;have pinned:∀b∈fp,∀o,s6.heap.get? b=some o->s7.heap.get? b=some o/\H7 b=none:=λb hb o e=>by
     have:=J7.pin (b,o) (Qar _ (Qar _ (Ip hb e)));exact⟨this.1,this.2.1⟩
    refine⟨m',hm,i+1,σ7,H7,J7.Hh,T.keep _ _ _ st6 λb hb o e=>(pinned b hb o e).1,λb hb=>?_,w7⟩;obtain⟨o,e,_⟩:=T.obj _ _ st6 b hb;exact (pinned b hb o e).2
   refine thn (hg s3 _ fp _ _ s6 σ4 H6 x u _ J6' r6 (step x H6 y6)) λ_ s7 zz=>?_;obtain⟨σ7,H7,J7,q7⟩:=zz;refine thn (ht s3 _ fp _ _ s7 σ7 H7 _ J7 q7) λok s8 zz=>?_;obtain⟨H8,J8,q8⟩:=zz;cases ok with
   | false=>
    rw[if_neg QaG] at q8 ⊢;exact back (pl:=[]) J8 q8
   | true=>
    rw[if_pos rfl] at q8 ⊢;refine thn (he s3 _ fp _ _ s8 σ7 H8 _ J8 q8) λy s9 zz=>?_;obtain⟨yv,H9,J9,r9,xs,hl9,hz9,q9⟩:=zz;refine thn (Dl _ s9 σ7 H9 (.ref s2.heap.objs.size) [yv] (.ref s2.heap.objs.size) [y] (λ_ H'=>N σ7 H') J9 rfl (.cons r9 .nil) ⟨_,xs,yv,rj,rj,hl9,hz9,q9⟩) λ_ s10 zz=>?_;obtain⟨_,H10,J10,_,q10⟩:=zz;exact back (pl:=[]) J10 q10
 exact codeAny_compStart_list loop (T.self X.A 0 _ _ _ st3 loop)
theorem Cp {X:Cx} {N':YF} {src:List (Option Nat)} {sc:Scope} {elt tg iter:Expr} {ifs:YJ} {pos:Pos} {wi:TI} {g:TG} {tt:TT} {te:TE} (hc:X.calm=true) (S:Bt X N' src sc)
  (hi:PI X tg iter wi) (hg:∀s3 H3 fp pn,PG (cxC X N' sc s3 H3 fp pn) tg g) (ht:∀s3 H3 fp pn,PF (cxC X N' sc s3 H3 fp pn) ifs tt) (he:∀s3 H3 fp pn,PE (cxC X N' sc s3 H3 fp pn) elt te)
  (hs:∀x,foldedSetIterable iter X.env x=pure x:=by intro _;rfl):PE X (.ListComp elt [⟨tg,iter,ifs,0⟩] sc pos) (U7 wi src g tt te):=by
 intro jb s U H Q I h;rw[eval_ListComp];refine PX (use:=none) hc S hi hg ht he hs I h λs3 H3 fp σ4 H4 s5 l I3 f3 J5 q=>?_;obtain⟨m,hn,_⟩:=J5.loc;exact⟨m,hn,λh' sb=>⟨.ref l,H4,Sg I3 f3 J5 sb,rj,q⟩⟩
theorem Ol {X:Cx} {N':YF} {src:List (Option Nat)} {sc:Scope} {elt tg iter:Expr} {ifs:YJ} {pos spos px:Pos} {wi:TI} {g:TG} {tt:TT} {te:TE} {i:Nat} {x:Str} (hN:X.N.Nodup) (hi0:X.N[i]?=some x) (hx:Loc X.env.scope x) (hc:X.calm=true) (S:Bt X N' src sc)
  (hi:PI X tg iter wi) (hg:∀s3 H3 fp pn,PG (cxC X N' sc s3 H3 fp pn) tg g) (ht:∀s3 H3 fp pn,PF (cxC X N' sc s3 H3 fp pn) ifs tt) (he:∀s3 H3 fp pn,PE (cxC X N' sc s3 H3 fp pn) elt te)
  (hsw:swapsWith (.ListComp elt [⟨tg,iter,ifs,0⟩] sc pos) (some (.Name x px)) spos.line X.env=pure true:=by rfl) (hs:∀x,foldedSetIterable iter X.env x=pure x:=by intro _;rfl)
  (hf:X.fn x=true\/X.env.scope.names.lookup x=some .local:=by first | exact .inl rfl | exact .inr rfl | assumption) :
  PS X (.Assign [.Name x px] (.ListComp elt [⟨tg,iter,ifs,0⟩] sc pos) spos) (Yb (U7 wi src g tt te) (Gu i)):=by
 intro jb s U H D I h;rw[exec_Assign_Name_used _ _ _ _ hsw];refine QbW (QbL (QbW ?_));show wpAny _ X.A (do let _ <-comprehension (.ListComp elt [⟨tg,iter,ifs,0⟩] sc pos) sc X.env _ (newList []) false (eval iter X.env) (some (assign (.Name x px) X.env))) _ _ s
 refine QbW (thn (PX (R:=λ_ s'=>SP X jb D .next s') hc S hi hg ht he hs I h λs3 H3 fp σ4 H4 s5 l I3 f3 J5 q=>?_) λ_ s' hq=>QbX (QbX hq));obtain⟨m,⟨oC,es,ep,hoC,r⟩,_⟩:=J5.loc;have I6:Inv X jb U H4 { s5 with heap:=s5.heap }:=Sg I3 f3 J5 (Heap.SameBut.refl _ _);have hCn:H4 s3.heap.objs.size=none:=J5.free;have neL:s3.heap.objs.size≠X.env.locals:=QbQ I3.lt;have iD:∀v,oC.data≠.cell v:=λv z=>by rw[r.1] at z;cases z
 have I7:Inv X (jb++[(s3.heap.objs.size,oC)]) U H4 s5:=I6.Om λp hp=>(Qbm.mp hp).elim (λz=>I6.pin p (Qar _ z)) λz=>by
  cases QaM.mp z;exact⟨hoC,hCn,neL,I3.cN (QbR _),iD⟩
 show wpAny _ X.A (assign (.Name x px) X.env (.ref l)) _ _ s5;refine wpAny_assign_Name (Mj (v:=.ref l) I7 hN hi0 hx rfl (λs6 I8=>?_) hf);have k8:=(I8.pin (s3.heap.objs.size,oC) (Qar _ (Qar _ (QaM.mpr rfl)))).1;refine⟨m,⟨oC,es,ep,k8,r⟩,λh' sb=>⟨_,H4,?_,q⟩⟩;have I9:=I8.Hh;refine I9.turned (t':=s6.toks) (λb o hb e=>sb.extBut b o hb e) hCn neL (.inr I3.sz) (λy c e z=>?_) (λp hp z=>?_)
 ·obtain⟨v,o,ho,_⟩:=I3.cell y c e;exact absurd (QbM ho) (by rw[z];exact QbH _)
 ·have:=(I3.pin p hp).1;exact absurd (QbM this) (by rw[z];exact QbH _)
theorem Bt.of {X:Cx} {N':YF} {src:List (Option Nat)} {sc:Scope} (fsc:Scope) (N:YF) (hX:X.env.scope=fsc) (hN:X.N=N) (kind:sc.kind=.function) (G9:∀y∈sc.names,y.2≠.cell) (loc:∀y∈sc.names,y.2=.local->sc.names.lookup y.1=some .local)
  (fv:∀y∈sc.names,y.2=.free->fsc.names.lookup y.1=some .cell) (len:src.length=N'.length)
  (sr:((N'.zip src).all λp=>match p.2 with | none=>true | some j=>decide (N[j]?=some p.1)&&decide (sc.names.lookup p.1=some .free))=true):Bt X N' src sc where
 kind:=kind
 G9:=G9
 loc:=loc
 fv:=λy hy e=>.inl (by show X.env.scope.names.lookup y.1=some .cell;rw[hX];exact fv y hy e)
 len:=len
 src:=λi x j e1 e2=>by
  rw[Qbj] at sr;have hm:(x,some j)∈N'.zip src:=by
   refine Qau (i:=i) ?_;rw[List.getElem?_zip_eq_some];exact⟨e1,e2⟩
  have:=sr _ hm;simp only[Qbc,decide_eq_true_eq] at this;rw[hN];exact this
section
variable {X:Cx}
@[irreducible] def JF (K:YD):YG->Hp->VK->Prop:=λxs H Q=>∃x T t b,xs=[x,.ty T]/\Hs K H x t/\kitOne K t (.type T)=some b/\Q (.bl b) H
theorem BP:Ea X (.builtin "isinstance") (JF X.K):=by
 intro jb s U H xs us Q I r h;unfold JF at h;obtain⟨x,T,t,b,rfl,ty,e,q⟩:=h;obtain⟨u,w',rfl,rx,rt⟩:=vals2 r;cases rt;exact W7 I rx ty e λtk=>⟨.bl b,H,I.tok tk,rj,q⟩
theorem Tc {K:YD}:kitOne K (.type "int") (.type "int")=some true:=by rfl
theorem RG {K:YD}:kitOne K (.type "int") (.type "bool")=some false:=by rfl
theorem RJ {K:YD}:kitOne K (.type "bool") (.type "int")=some true:=by rfl
theorem Qs {K:YD}:kitOne K (.type "bool") (.type "bool")=some true:=by rfl
theorem RB {K:YD}:kitOne K (.type "NoneType") (.type "int")=some false:=by rfl
theorem S9 {K:YD}:kitOne K (.type "str") (.type "int")=some false:=by rfl
theorem RD {K:YD}:kitOne K (.type "list") (.type "int")=some false:=by rfl
theorem Qo {K:YD}:kitOne K (.type "tuple") (.type "int")=some false:=by rfl
theorem OJ {K:YD}:kitOne K (.type "NoneType") (.type "tuple")=some false:=by rfl
theorem O2 {K:YD}:kitOne K (.type "bool") (.type "tuple")=some false:=by rfl
theorem Qq {K:YD}:kitOne K (.type "int") (.type "tuple")=some false:=by rfl
theorem Qp {K:YD}:kitOne K (.type "str") (.type "tuple")=some false:=by rfl
theorem O1 {K:YD}:kitOne K (.type "list") (.type "tuple")=some false:=by rfl
theorem NP {K:YD}:kitOne K (.type "tuple") (.type "tuple")=some true:=by rfl
def Kn (H:Hp):V->Prop
 | .non=>True
 | .bl _=>True
 | .int _=>True
 | .str _=>True
 | .ref a=>(∃xs,H a=some (.lst xs))\/∃xs,H a=some (.tup xs)
 | _=>False
def isI:V->Bool
 | .int _=>true
 | .bl _=>true
 | _=>false
def isB:V->Bool
 | .bl _=>true
 | _=>false
def isW:V->Bool
 | .int _=>true
 | _=>false
def GQ (H:Hp):V->Option (YG)
 | .ref a=>match H a with
  | some (.tup xs)=>some xs
  | _=>none
 | _=>none
theorem Ej {H:Hp} {a:Addr} {xs:YG} (h:H a=some (.tup xs)):GQ H (.ref a)=some xs:=by
 show (match H a with | some (.tup xs)=>some xs | _=>none)=some xs
 rw[h]
theorem Dv {H:Hp} {a:Addr} {xs:YG} (h:H a=some (.lst xs)):GQ H (.ref a)=none:=by
 show (match H a with | some (.tup xs)=>some xs | _=>none)=none
 rw[h]
theorem Yy {H:Hp} {v:V} {xs:YG} (h:GQ H v=some xs):∃a,v=.ref a/\H a=some (.tup xs):=by
 cases v with
 | ref a=>
  refine⟨a,rj,?_⟩;have h':(match H a with | some (.tup xs)=>some xs | _=>none)=some xs:=h
  split at h'
  ·rename_i e;cases h';exact e
  ·cases h'
 | _=>cases h
theorem Kn.same {H H':Hp} {v:V} (s:Same H H') (k:Kn H v):Kn H' v:=by
 cases v with
 | ref a=>exact k.imp (λ⟨xs,e⟩=>⟨xs,s _ _ e⟩) λ⟨xs,e⟩=>⟨xs,s _ _ e⟩
 | _=>exact k
theorem Uo {K:YD} {H:Hp} {x:V} {Q:VK} (k:Kn H x) (q:Q (.bl (isI x)) H):JF K [x,.ty "int"] H Q:=by
 unfold JF;cases x with
 | non=>exact⟨_,_,_,_,rfl,.non,RB,q⟩
 | bl b=>exact⟨_,_,_,_,rfl,.bl b,RJ,q⟩
 | int i=>exact⟨_,_,_,_,rfl,.int i,Tc,q⟩
 | str z=>exact⟨_,_,_,_,rfl,.str z,S9,q⟩
 | ref a=>
  rcases k with⟨xs,e⟩|⟨xs,e⟩
  ·exact⟨_,_,_,_,rj,.lst e,RD,q⟩
  ·exact⟨_,_,_,_,rj,.tup e,Qo,q⟩
 | _=>exact k.elim
theorem Mz {K:YD} {H:Hp} {x:V} {Q:VK} (k:isI x=true) (q:Q (.bl (isB x)) H):JF K [x,.ty "bool"] H Q:=by
 unfold JF;cases x with
 | bl b=>exact⟨_,_,_,_,rfl,.bl b,Qs,q⟩
 | int i=>exact⟨_,_,_,_,rfl,.int i,RG,q⟩
 | _=>cases k
theorem CT {K:YD} {H:Hp} {x:V} {Q:VK} (k:Kn H x) (q:Q (.bl (GQ H x).isSome) H):JF K [x,.ty "tuple"] H Q:=by
 unfold JF;cases x with
 | non=>exact⟨_,_,_,_,rfl,.non,OJ,q⟩
 | bl b=>exact⟨_,_,_,_,rfl,.bl b,O2,q⟩
 | int i=>exact⟨_,_,_,_,rfl,.int i,Qq,q⟩
 | str z=>exact⟨_,_,_,_,rfl,.str z,Qp,q⟩
 | ref a=>
  rcases k with⟨xs,e⟩|⟨xs,e⟩
  ·rw[Dv e] at q;exact⟨_,_,_,_,rj,.lst e,O1,q⟩
  ·rw[Ej e] at q;exact⟨_,_,_,_,rj,.tup e,NP,q⟩
 | _=>exact k.elim
theorem SJ:∀{bs:List Bool} {us:YE},Vals (bs.map V.bl) us->LSm.BoolsAre us bs
 | [],_,.nil=>.nil
 | b::r,_,.cons h t=>by
  cases (show _=Value.bool b from h)
  exact .cons b (SJ t)
theorem Dq (hc:X.calm=true):Ea X (.builtin "all") (λxs H Q=>∃(p:Addr) (bs:List Bool),xs=[.ref p]/\SqL X.K H p (bs.map V.bl)/\Q (.bl (bs.all id)) H):=by
 intro jb s U H xs us Q I r h;obtain⟨p,bs,rfl,hq,q⟩:=h;obtain⟨u,rfl,rx⟩:=vals1 r;cases rx;obtain⟨its,rv,pl,hz⟩:=I.list hq;have hb:=SJ rv;have hl:=pl.isList;have hlt:p < s.heap.objs.size:=by obtain⟨_,e,_⟩:=hl;exact QbM e
 refine call_all_walk (Qbb hl ?_);refine⟨s.heap.objs.size,[s.heap.objs.size,p],[s.heap.objs.size],its.toArray.size,_,_,λi=>(bs[i]?).getD true,rj,Walks.list (A:=X.A.in1) (I.ok.hd hc) _ p (QbN hlt) its.toArray,
  ⟨⟨_,Qaz _ rfl,rj,rj⟩,hl.push _⟩,λi v s' Q' E' hP hQ=>?_,λh' tk hk=>?_⟩
 ·obtain⟨b,e,rfl⟩:=hb.get i v (by simpa using hP);simp only[e,Option.getD_some] at hQ;exact QaW hQ
 ·have e:((List.range its.toArray.size).all λi=>(bs[i]?).getD true)=bs.all id:=by
   rw[QaS,hb.length];exact LSm.range_all bs
  rw[e];exact⟨.bl (bs.all id),H,I.kept (LSm.kept_iter hk),rj,q⟩
def cA (K:YD):R2:=λx y H Q=>∃a b ys,x=.ref a/\y=.ref b/\SqT K H a []/\SqT K H b ys/\Q (.ref b) H
theorem Yu:OpR X (binaryOp .Add) (cA X.K):=by
 intro jb s U H x y v u Q I rx ry h;obtain⟨a,b,ys,rfl,rfl,ha,hb,q⟩:=h;cases rx;cases ry;obtain⟨its,r1,p1,_⟩:=I.tuple ha;obtain⟨its2,r2,p2,_⟩:=I.tuple hb;cases r1;obtain⟨⟨cls,dd,data,sl⟩,ho,hc,n,hd⟩:=id p1;obtain⟨⟨cls2,dd2,data2,sl2⟩,ho2,hc2,n2,hd2⟩:=id p2;simp only at hc hd hc2 hd2;subst hc hd hc2 hd2;exact concat_meets ⟨_,ho,rj⟩ ⟨_,ho2,rj⟩ noFill_tuple_add seq_tuple_add PySem.F.slot_tuple_add PySem.F.entry_tuple_add (PySem.F.args_tuple_add_2 _ _)
  (tuple_addW0 a b #[] its2.toArray n n2 dd dd2 sl sl2 rfl) ⟨ho,ho2,⟨.ref b,H,I,rj,q⟩⟩
theorem Em:OpR X (binaryOp .Add) (λx y H Q=>∃a b xs ys,x=.ref a/\y=.ref b/\H a=some (.tup xs)/\H b=some (.tup ys)/\xs.length+ys.length<=sizeLine /\
  ∀p H',H' p=some (.tup (xs++ys))->Same H H'->Q (.ref p) H'):=by
 intro jb s U H x y v u Q I rx ry h;obtain⟨a,b,xs,ys,rfl,rfl,ha,hb,hz,q⟩:=h;cases xs with
 | nil=>exact Yu jb s U H _ _ v u Q I rx ry ⟨a,b,ys,rfl,rfl,SqT.of ha,SqT.of hb,q b H hb (Same.refl H)⟩
 | cons x0 xr=>
  refine aB jb s U H _ _ v u Q I rx ry ⟨a,b,x0::xr,ys,rj,rj,SqT.of ha,SqT.of hb,(λz=>by cases z),hz,λz=>?_,λz p hp=>?_⟩
  ·subst z;exact q a H (by rw[Qbs];exact ha) (Same.refl H)
  ·refine q p _ Ad λc o e=>?_;rw[Bd (Aw e hp)];exact e
mutual
inductive Rep (H:Hp):V->PyData->Prop
 | non:Rep H .non .none
 | bl (b:Bool):Rep H (.bl b) (.bool b)
 | int (i:Int):Rep H (.int i) (.int i)
 | str (x:Str):Rep H (.str x) (.str x)
 | tup {a:Addr} {xs:YG} {ds:List PyData}:H a=some (.tup xs)->Bb H xs ds->Rep H (.ref a) (.tuple ds)
 | lst {a:Addr} {xs:YG} {ds:List PyData}:H a=some (.lst xs)->Bb H xs ds->Rep H (.ref a) (.list ds)
inductive Bb (H:Hp):YG->List PyData->Prop
 | nil:Bb H [] []
 | cons {x:V} {d:PyData} {xs:YG} {ds:List PyData}:Rep H x d->Bb H xs ds->Bb H (x::xs) (d::ds)
end
mutual
theorem Rep.reads {P:Program} {w:World} {H:Hp} {h:Heap} (ok:HOk P w H h):∀{v:V} {d:PyData} {u:Value},Rep H v d->RelV v u->∃as,Reads h u d as
 | _,_,_,.non,r=>by cases (show _=Value.none from r);exact⟨_,.none⟩
 | _,_,_,.bl b,r=>by cases (show _=Value.bool b from r);exact⟨_,.bool b⟩
 | _,_,_,.int i,r=>by obtain⟨t,rfl⟩:=(show ∃t,_=Value.int i t from r);exact⟨_,.int i t⟩
 | _,_,_,.str x,r=>by obtain⟨t,rfl⟩:=(show ∃t,_=Value.str x t from r);exact⟨_,.str x t⟩
 | _,_,_,.tup (a:=a) (xs:=xs) e q,r=>by
  cases (show _=Value.ref a from r)
  obtain⟨_,its,rv,o,ho,hc,n,hd⟩:=(show BZ P w H h a (.tup xs) from ok a _ e)
  obtain⟨as,z⟩:=Bb.reads ok q rv;exact⟨_,.tuple ho hc hd (by simpa using z)⟩
 | _,_,_,.lst (a:=a) (xs:=xs) e q,r=>by
  cases (show _=Value.ref a from r)
  obtain⟨_,its,n,rv,ho⟩:=(show BZ P w H h a (.lst xs) from ok a _ e)
  obtain⟨as,z⟩:=Bb.reads ok q rv;exact⟨_,.list ho rfl rfl (by simpa using z)⟩
theorem Bb.reads {P:Program} {w:World} {H:Hp} {h:Heap} (ok:HOk P w H h):∀{xs:YG} {ds:List PyData} {us:YE},Bb H xs ds->Vals xs us->∃as,ReadsAll h us ds as
 | _,_,_,.nil,.nil=>⟨_,.nil⟩
 | _,_,_,.cons p q,.cons r t=>by
  obtain⟨as,a1⟩:=Rep.reads ok p r;obtain⟨bs,b1⟩:=Bb.reads ok q t;exact⟨_,.cons a1 b1⟩
end
theorem cF (hu:X.A.units+64 < cLine):OpR X (compareOp .Eq) (λx y H Q=>∃d e,Rep H x d/\Rep H y e/\SeqAt.shaped d=true/\SeqAt.shaped e=true/\Q (.bl (PyData.eqv d e)) H):=by
 intro jb s U H x y v u Q I rx ry h;obtain⟨d,e,p,p',sd,se,q⟩:=h;obtain⟨as,r1⟩:=p.reads I.hok rx;obtain⟨bs,r2⟩:=p'.reads I.hok ry;exact eq_dataH r1 r2 sd se hu ⟨.bl (PyData.eqv d e),H,I,rj,q⟩
end
structure Code (K:YD) (mg:YB) (x:Str) (st:Stmt) (ps:YF):Prop where
 ex:∃(f:Addr) (fd:FuncData),Fun K x x st f fd/\mg x=some (.ref f)/\Binds K fd ps []
structure Good (P:Program) (w:World) (K:YD) (mg:YB) (base:Heap) (x:Str) (k:Nat) (ps:YF) (sp:Sp):Prop where
 ex:∃(f:Addr) (fd:FuncData),mg x=some (.ref f)/\keepIn K (.ref f)=true/\Binds K fd ps []/\FZ P w K mg base CX0 k f fd ps sp
theorem Code.good {P:Program} {w:World} {K:YD} {mg:YB} {base:Heap} {x:Str} {st:Stmt} {ps N:YF} {k:Nat} {sp:Sp} (C:Code K mg x st ps) (S:Bk N ps (Aj st)) (len:∀vs H Q E,sp vs H Q E->vs.length=ps.length)
  (hbody:∀(f:Addr) (cdv:Value) (A:Around) (outer:List Env) (s:Shared) (H:Hp) (vs:YG) (Q:VK) (E:XK),Ds k (A.deeper (envOfC x (Aj st) s.heap.objs.size f cdv))->sp vs H Q E ->
   ∃t,PSs (La CX0 P w K mg base N x (Aj st) f cdv A outer s H E).nox (Dp st) t/\t { nx:=λ_ H'=>Q .non H',rt:=Q } (start N vs) H):Good P w K mg base x (k+1) ps sp:=by
 obtain⟨f,fd,F,m,b⟩:=C.ex;exact⟨f,fd,m,F.kp,b,F.ok S len λcdv A outer s H vs Q E hr h=>hbody f cdv A outer s H vs Q E hr h⟩
theorem Ao {X:Cx} {k k':Nat} {ps:YF} {sp:Sp} {x:Str} {p pos:Pos} {e:Expr} {es:YJ} {t:TA} (g:Good X.prog X.w X.K X.mg X.base x k ps sp) (hr:Ds k' X.A) (ha:PA X (e::es) t) (hk:k<=k':=by decide) (hg:Gl X x:=by rfl)
  (hdb:(x == ("__debug__":Str))=false:=by decide) (he:starEach (e::es) X.env=(false,eval e X.env)::starEach es X.env:=by rfl) (hpl:(backTo pos (starEach es X.env)).any (·.1)=false:=by rfl) :
  PE X (.Call (.Name x p) (e::es) [] pos) (ZC sp [] E0 t):=by
 intro jb s U H Q I h;obtain⟨f,fd,m,kp,b,F⟩:=g.ex;exact aq F (hr.mono hk) hg m kp b .nil fM ha hdb he hpl jb s U H Q I h
theorem Code.of {K:YD} {mg:YB} {h:Heap} {x:Str} {st:Stmt} {ps:YF} {f:Addr} {oc:Value} {od an:Option Addr} {osl:YI} {kV doc pm cdv ct:Value} (X:K.In h) (G:h.Ns mainGlobals mg)
  (a:nsIn K mainGlobals x=some (some (.ref f))) (l:K.lookup f=some ⟨oc,od,.func (fnOf x x (Ew st) (Dp st) (Aj st) .none kV doc pm an cdv ct),osl⟩) (c:codeIn K cdv x=true) (k:keepIn K (.ref f)=true)
  (hb:∀(kV doc pm:Value) (an:Option Addr) (cdv ct:Value) (us:YE),us.length=ps.length->bindArgs (fnOf x x (Ew st) (Dp st) (Aj st) .none kV doc pm an cdv ct) ⟨us,[]⟩=pure (ps.zip us)):Code K mg x st ps:=by
 have F:=Xm (st:=st) l c k;exact⟨f,_,F,mg_of X G a,F.binds hb⟩
theorem Ae {H:Hp} {p:Addr} (h:H p=none) (o:HO):Same H (upd H p o):=λb u q=>by rw[Bd (Aw q h)];exact q
theorem Bt.plain {X:Cx} {N':YF} {sc:Scope} (kind:sc.kind=.function) (G9:∀y∈sc.names,y.2≠.cell) (loc:∀y∈sc.names,y.2=.local->sc.names.lookup y.1=some .local) (Rv:∀y∈sc.names,y.2≠.free) :
  Bt X N' (N'.map λ_=>none) sc where
 kind:=kind
 G9:=G9
 loc:=loc
 fv:=λy hy e=>absurd e (Rv y hy)
 len:=by simp
 src:=λi x j _ e=>by
  rw[QaT] at e;cases q:N'[i]? with
  | none=>rw[q] at e;cases e
  | some z=>rw[q] at e;cases e
theorem Ko {K:YD} {a l:Addr} {xs:YG} {g:TG} {tt:TT} {te:TE} {Q:VK} {σ0:St} {H0:Hp} (Pv:YN)
  (h0:Pv 0 σ0 H0) (hl:∀i U H',i<=xs.length->Pv i U H'->SqT K H' a xs)
  (hs:∀i x U H',xs[i]?=some x->Pv i U H'->g x U H' fun σ3 H3=>tt σ3 H3 λb H4=>if b=true then te σ3 H4 λy H5=>∃ys,H5 l=some (.lst ys)/\ys.length < sizeLine/\Pv (i+1) σ3 (upd H5 l (.lst (ys++[y]))) else Pv (i+1) σ3 H4)
  (hd:∀ U H',Pv xs.length U H'->Q (.ref l) H'):Gb (Itt K a) g tt te Q σ0 H0 l:=by
 unfold Gb;refine⟨λi m U H'=>m=xs.length - i/\i<=xs.length/\Pv i U H',⟨xs.length,by simp,QbS _,h0⟩,?_⟩;rintro i m U H' ⟨rfl,hi,p⟩;have q:=hl i U H' hi p;by_cases hlt:i < xs.length
 ·refine .inr ⟨⟨xs,xs[i],q,by simp[hlt]⟩,Pv (i+1),fun σ3 H3 p'=>⟨xs.length - (i+1),by omega,rj,hlt,p'⟩,λx H2 y=>?_⟩;obtain⟨e,y⟩:=y;subst e;exact hs i x U _ (y xs q) p
 ·have e:i=xs.length:=by omega
  subst e;exact .inl ⟨⟨xs,q,QbR _⟩,hd U H' p⟩
theorem Ig {K:YD} {a l:Addr} {xs:YG} {g:TG} {tt:TT} {te:TE} {Q:VK} {σ0:St} {H0:Hp} (Pv:YN)
  (h0:Pv 0 σ0 H0) (hl:∀i U H',i<=xs.length->Pv i U H'->SqL K H' a xs)
  (hs:∀i x U H',xs[i]?=some x->Pv i U H'->g x U H' fun σ3 H3=>tt σ3 H3 λb H4=>if b=true then te σ3 H4 λy H5=>∃ys,H5 l=some (.lst ys)/\ys.length < sizeLine/\Pv (i+1) σ3 (upd H5 l (.lst (ys++[y]))) else Pv (i+1) σ3 H4)
  (hd:∀ U H',Pv xs.length U H'->Q (.ref l) H'):Gb (Itl K a) g tt te Q σ0 H0 l:=by
 unfold Gb;refine⟨λi m U H'=>m=xs.length - i/\i<=xs.length/\Pv i U H',⟨xs.length,by simp,QbS _,h0⟩,?_⟩;rintro i m U H' ⟨rfl,hi,p⟩;have q:=hl i U H' hi p;by_cases hlt:i < xs.length
 ·refine .inr ⟨⟨xs,xs[i],q,by simp[hlt]⟩,Pv (i+1),fun σ3 H3 p'=>⟨xs.length - (i+1),by omega,rj,hlt,p'⟩,λx H2 y=>?_⟩;obtain⟨e,y⟩:=y;subst e;exact hs i x U _ (y xs q) p
 ·have e:i=xs.length:=by omega
  subst e;exact .inl ⟨⟨xs,q,QbR _⟩,hd U H' p⟩
theorem Kp {lo:Int} {n:Nat} {l:Addr} {g:TG} {tt:TT} {te:TE} {Q:VK} {σ0:St} {H0:Hp} (Pv:YN) (h0:Pv 0 σ0 H0)
  (hs:∀i U H',i < n->Pv i U H'->g (.int (lo+i)) U H' fun σ3 H3=>tt σ3 H3 λb H4=>if b=true then te σ3 H4 λy H5=>∃ys,H5 l=some (.lst ys)/\ys.length < sizeLine/\Pv (i+1) σ3 (upd H5 l (.lst (ys++[y]))) else Pv (i+1) σ3 H4)
  (hd:∀ U H',Pv n U H'->Q (.ref l) H'):Gb (Itr lo n) g tt te Q σ0 H0 l:=by
 unfold Gb;refine⟨λi m U H'=>m=n - i/\i<=n/\Pv i U H',⟨n,by simp,QbS _,h0⟩,?_⟩;rintro i m U H' ⟨rfl,hi,p⟩;by_cases hlt:i < n
 ·refine .inr ⟨hlt,Pv (i+1),fun σ3 H3 p'=>⟨n - (i+1),by omega,rj,hlt,p'⟩,λx H2 y=>?_⟩;obtain⟨e,y⟩:=y;subst e y;exact hs i U _ hlt p
 ·have e:i=n:=by omega
  subst e;exact .inl ⟨QbR _,hd U H' p⟩
section
variable {X:Cx}
theorem Qa (hc:X.calm=true):Ea X (.builtin "max") (λxs H Q=>∃(p:Addr) (ns:List Int),xs=[.ref p]/\SqL X.K H p (ns.map V.int)/\0 < ns.length/\∀M,M∈ns->(∀a,a∈ns->a<=M)->Q (.int M) H):=by
 intro jb s U H xs us Q I r h;obtain⟨p,ns,rfl,hq,hne,q⟩:=h;obtain⟨u,rfl,rx⟩:=vals1 r;cases rx;obtain⟨its,rv,pl,hz⟩:=I.list hq;have hi:IntsAre its ns:=intsAre_of rv;obtain⟨zs,e⟩:=hi.allInts.items;have hl:=pl.isList;rw[e] at hl;have hns:ns=zs.toList.map (·.1):=by rw[<-hi.numsOf,<-nums_intItems,<-e]
 have hsz:0 < zs.size:=by
  have h3:=hne;rw[hns,Qbk,QaB] at h3;exact h3
 refine max_intList (I.ok.hd hc) hl hsz λv h' tk hv hk=>?_;obtain⟨t,rfl⟩:=intItems_at hv;obtain⟨_,h2⟩:=argBest_gt (numAt zs) (zs.size - 1);refine⟨.int _,H,I.kept hk,⟨t,rj⟩,q _ ?_ λa ha=>?_⟩
 ·rw[hns,numAt_eq];exact getD_mem (by rw[Qbk,QaB];have:=(argBest_gt (numAt zs) (zs.size - 1)).1;omega)
 ·rw[hns] at ha;obtain⟨j,hj,rfl⟩:=mem_getD ha;rw[Qbk,QaB] at hj;rw[<-numAt_eq];exact h2 j (by omega)
theorem Xa:∀{us:YE} {ns:List Int},IntsAre us ns->Vals (ns.map V.int) us:=λh=>KD h
theorem Sv:Ea X (.builtin "sorted") (λxs H Q=>∃(p:Addr) (ns:List Int),xs=[.ref p]/\SqL X.K H p (ns.map V.int)/\ns.length < 64 /\
  ∀(ms:List Int) l,ms.Perm ns->ms.Pairwise (·<=·)->H l=none->Q (.ref l) (upd H l (.lst (ms.map V.int)))):=by
 intro jb s U H xs us Q I r h;obtain⟨p,ns,rfl,hq,h64,q⟩:=h;obtain⟨u,rfl,rx⟩:=vals1 r;cases rx;obtain⟨its,rv,pl,hz⟩:=I.list hq;have hi:IntsAre its ns:=intsAre_of rv;have hlen:=hi.length;refine sorted_ints pl.isList hi (by omega) λout ms a1 a2 a3=>?_;obtain⟨e,he⟩:=sortedAll_at s.heap its out;have hml:=a2.length_eq;refine⟨.ref (s.heap.objs.size+1),_,I.laid (t':=s.toks) (o:=.lst (ms.map V.int)) (λb o q=>sortedAll_old q) (Nat.le_succ _) ?_,rj,q ms _ a2 a3 (I.hok.fresh (Nat.le_succ _))⟩;exact⟨by rw[Qbk];exact Nat.le_of_lt (Bc (by omega)),out.toList,e,Xa a1,he⟩
theorem T6:∀{ys:YF} {us:YE},Vals (ys.map V.str) us->StrsAre us ys
 | [],_,.nil=>.nil
 | y::r,_,.cons h t=>by
  obtain⟨t',e⟩:=(show ∃t,_=Value.str y t from h)
  cases e;exact .cons y t' (T6 t)
def rJoin (K:YD):V->YG->Hp->VK->Prop:=λx vs H Q=>∃(z:Str) (p:Addr) (ys:YF),x=.str z/\vs=[.ref p]/\SqL K H p (ys.map V.str)/\(ys.map (·.length)).sum+ys.length*z.length<=16777216/\Q (.str (Txt.join z ys)) H
theorem aP:MtR X "str.join" (rJoin X.K):=by
 intro jb s U H x vs v us Q I rx rv h;obtain⟨z,p,ys,rfl,rfl,hq,hz,q⟩:=h;obtain⟨t,rfl⟩:=rx;obtain⟨u,rfl,ru⟩:=rv.one;cases ru;obtain⟨its,r',pl,_⟩:=I.list hq;exact join_list pl.isList (T6 r') hz λt' k=>⟨.str (Txt.join z ys),H,I.tok k,⟨t',rj⟩,q⟩
def Its (z:Str):It:=⟨λi _=>i < z.cps.size,λi H x H'=>H'=H/\∃c,z.cps[i]?=some c/\x=.str ⟨#[c]⟩,λi _=>i=z.cps.size⟩
def jN (tl:TE):TI:=fun U H R=>tl U H λx H1=>∃z,x=.str z/\R (Its z) H1
end
section
variable {X:Cx} {tg:Expr}
theorem QH {P:Program} {w:World} {K:YD} {tg:Expr} (z:Str) (t:Tok) (it:Addr) (ty:String) (hty:["enumerate","zip","dict_itemiterator","dict_reverseitemiterator","odict_iterator","itertools.zip_longest","itertools.pairwise"].contains ty=false)
  (W:∀A':Around,A'.handled=none->Walks P w A' it [it] [it] z.cps.size (SignAt z) (λi h=>h.IsStrIter it ty z t i))
  (hself:∀(A:Around) (i:Nat) (s:Shared) (Q:YA) (E:YA),s.heap.IsStrIter it ty z t i->Q (.ref it) s->wpAny (model P w) A (pyIter (.ref it)) Q E s) :
  Turn P w K tg (Its z) [it] it (λi h=>h.IsStrIter it ty z t i) where
 mem:=QaM.mpr rfl
 obj:=λi h st b hb=>by
  cases QaM.mp hb;obtain⟨o,e,c,d⟩:=st;exact⟨o,e,λv z'=>by rw[d] at z';cases z'⟩
 keep:=λi h h' st k=>by
  obtain⟨o,e,r⟩:=st;exact⟨o,k it (QaM.mpr rfl) o e,r⟩
 item:=by
  intro X hP hw hK hc i jb s U H E I hf st hg;subst hP hw hK;obtain⟨f0,f1,f2,f3,f4,f5⟩:=hf it (QaM.mpr rfl);refine (W X.A (I.ok.hd hc)).item i s _ _ hg st λv h' tk hv st' kk=>?_;obtain⟨c,u,hcu,rfl⟩:=hv;have I1:Inv X jb U H { s with heap:=h',toks:=tk }:=I.turned (λb o hb e=>kk b o (λhm=>hb (QaM.mp hm)) e) f0 f1 f3 f4 f5;obtain⟨o,e,cl,d⟩:=id st';exact⟨_,rj,QB (s:={ s with heap:=h',toks:=tk }) e cl d hty ⟨.str ⟨#[c]⟩,H,I1,⟨u,rj⟩,⟨rj,c,hcu,rj⟩,st',λb hb=>(hf b hb).1⟩⟩
 done:=by
  intro X hP hw hK hc i jb s U H E I hf st hg;subst hP hw hK;obtain⟨f0,f1,f2,f3,f4,f5⟩:=hf it (QaM.mpr rfl);cases (show i=z.cps.size from hg)
  exact (W X.A (I.ok.hd hc)).done s _ _ st λh' tk kk=>⟨rj,I.turned (λb o hb e=>kk b o (λhm=>hb (QaM.mp hm)) e) f0 f1 f3 f4 f5⟩
 self:=λA i s Q E st h=>hself A i s Q E st h
theorem Rg {l:Expr} {tl:TE} (hl:PE X l tl):PI X tg l (jN tl):=by
 intro jb s U H R I h;refine thn (hl jb s U H _ I h) λv s1 zz=>?_;obtain⟨x,H1,I1,r1,z,e,q⟩:=zz;subst e;obtain⟨t,rfl⟩:=r1;have fp:∀o:Obj,∀b∈[s1.heap.objs.size],FW X jb H1 b:=λo b hb=>by
  cases QaM.mp hb;exact I1.O5 (QbR _) (I1.hok.fresh (QbR _))
 cases ha:z.cps.all (· < 128) with
 | true=>
  refine wpAny_pyIter_ascii ha ?_;exact⟨s1.heap.objs.size,[s1.heap.objs.size],_,_,H1,rj,I1.kept (t':=s1.toks) λb o e=>Qap _ e,QH z t _ "str_ascii_iterator" (by decide) (λA' hA=>Walks.strAscii hA _ z t) (λ_ _ _ _ _ st h=>wpAny_pyIter_striter_ascii st h),
   ⟨_,Qaz _ rfl,rj,rj⟩,fp { cls:=.none,data:=.fields #[] },q⟩
 | false=>
  refine wpAny_pyIter_wide ha ?_;exact⟨s1.heap.objs.size,[s1.heap.objs.size],_,_,H1,rj,I1.kept (t':=s1.toks) λb o e=>Qap _ e,QH z t _ "str_iterator" (by decide) (λA' hA=>Walks.strWide hA _ z t) (λ_ _ _ _ _ st h=>wpAny_pyIter_striter_wide st h),
   ⟨_,Qaz _ rfl,rj,rj⟩,fp { cls:=.none,data:=.fields #[] },q⟩
theorem M8 {z:Str} {l:Addr} {g:TG} {tt:TT} {te:TE} {Q:VK} {σ0:St} {H0:Hp} (Pv:YN) (h0:Pv 0 σ0 H0)
  (hs:∀i c U H',z.cps[i]?=some c->Pv i U H'->g (.str ⟨#[c]⟩) U H' fun σ3 H3=>tt σ3 H3 λb H4=>if b=true then te σ3 H4 λy H5=>∃ys,H5 l=some (.lst ys)/\ys.length < sizeLine/\Pv (i+1) σ3 (upd H5 l (.lst (ys++[y]))) else Pv (i+1) σ3 H4)
  (hd:∀ U H',Pv z.cps.size U H'->Q (.ref l) H'):Gb (Its z) g tt te Q σ0 H0 l:=by
 unfold Gb;refine⟨λi m U H'=>m=z.cps.size - i/\i<=z.cps.size/\Pv i U H',⟨z.cps.size,by simp,QbS _,h0⟩,?_⟩;rintro i m U H' ⟨rfl,hi,p⟩;by_cases hlt:i < z.cps.size
 ·refine .inr ⟨hlt,Pv (i+1),fun σ3 H3 p'=>⟨z.cps.size - (i+1),by omega,rj,hlt,p'⟩,λx H2 y=>?_⟩;obtain⟨e,c,hc,rfl⟩:=y;subst e;exact hs i c U _ hc p
 ·have e:i=z.cps.size:=by omega
  subst e;exact .inl ⟨rj,hd U H' p⟩
end
end L2
namespace HT
open PySem PyProof.Rows
section
variable {prog:Program} {w:World} {A:Around} {E:YA} {s:Shared}
theorem LK {t sl:Addr} {items:Array Value} {vl vu:Value} {lo hi:Option Int} {Q:YA} (ht:IsTup s.heap t items) (hs:s.heap.IsSliceOf sl vl vu .none) (pl:IsPart vl lo) (pu:IsPart vu hi)
  (hw:sIx items.size 0 lo=0/\sIx items.size items.size hi=items.size) (h:Q (.ref t) s):wpAny (model prog w) A (getItem (.ref t) (.ref sl)) Q E s:=by
 obtain⟨os,hos,hcs,hds⟩:=id hs;have hTs:s.TypeIs (.ref sl) "slice":=⟨os,hos,hcs⟩;unfold getItem
 try with_reducible refine QbI ?_
 first | refine QbW (QbX ?_) | skip
 refine QbW (wpAny_sequenceKey ht.typeIs (by decide) ?_);refine QbW (Qam (name:=Str.ofString "__getitem__") ht.typeIs Qab (Qbi Qab ht.typeIs entry_tuple_getitem ?_ (args_tuple_getitem _ _)));show wpAny _ _ (Builtin.Tuple.tupleItemsOf (.ref t) >>= _) _ _ s;refine QbW (tupleItemsOf_ ht ?_);refine QbW (wpAny_typeOf hTs ?_);rw[if_pos (by decide)];refine QbW (IW hs pl pu ?_);rw[hw.1,hw.2];show wpAny _ _ (if (((0:Nat):Int) == 0&&(1:Int) == 1&&(items.size - 0) == items.size)=true then _ else _) _ _ s
 rw[if_pos (by simp)];refine QbW ?_;unfold Builtin.Tuple.tupleIsExact;refine QbW (wpAny_typeOf ht.typeIs (QbX ?_));rw[if_pos (by decide)];exact QbW (wpAny_rule (QbX ⟨_,rj,QbX h⟩))
end
end HT
namespace L2
open PySem PySem.Spec PyProof.Rows
section
variable {X:Cx}
theorem Es:SlR X (λx lo hi H Q=>∃a xs,x=.ref a/\H a=some (.tup xs)/\∀p H',H' p=some (.tup (Eo xs lo hi))->Same H H'->Q (.ref p) H'):=by
 intro jb s U H x v vl vu lo hi sl Q I rx hs pl pu h;obtain⟨a,xs,rfl,hx,q⟩:=h;by_cases hw:HT.sIx xs.length 0 lo=0/\HT.sIx xs.length xs.length hi=xs.length
 ·cases rx;obtain⟨its,r,ht,hz⟩:=I.tuple (SqT.of hx);have hlen:its.toArray.size=xs.length:=by rw[QaS];exact r.length.symm
  refine⟨"tuple",_,Qab.lookup,ht.typeIs,?_⟩;refine HT.LK ht hs pl pu (by rw[hlen];exact hw) ⟨.ref a,H,I,rj,q a H ?_ (Same.refl H)⟩;have e:Eo xs lo hi=xs:=by unfold Eo;rw[hw.1,hw.2];simp
  rw[e];exact hx
 ·exact bU jb s U H _ v vl vu lo hi sl Q I rx hs pl pu ⟨a,xs,rj,SqT.of hx,hw,λp hp=>q p _ Ad (λc o e=>by rw[Bd (Aw e hp)];exact e)⟩
theorem KH:SlR X (λx lo hi H Q=>∃z,x=.str z/\z.length<=sizeLine/\Q (.str (Txt.slice z lo hi)) H):=by
 intro jb s U H x v vl vu lo hi sl Q I rx hs pl pu h;obtain⟨z,rfl,hz,q⟩:=h;obtain⟨t,rfl⟩:=rx;refine⟨"str",_,F.slot_str_getitem.lookup,typeIs_str _ _ _,?_⟩;have fin:∀t' k,EP X jb U Q (.str (Txt.slice z lo hi) t') { s with toks:=k }:=λt' k=>⟨.str (Txt.slice z lo hi),H,I.tok k,⟨t',rj⟩,q⟩;cases pl with
 | none=>
  cases pu with
  | none=>exact Qan (l:=none) (u:=none) (st:=none) hs rfl (post_val_or_str ⟨QbO (Txt.slice_le z _ _) hz,fin⟩)
  | int j tj=>exact Qan (l:=none) (u:=some (j,tj)) (st:=none) hs rfl (post_val_or_str ⟨QbO (Txt.slice_le z _ _) hz,fin⟩)
 | int i ti=>
  cases pu with
  | none=>exact Qan (l:=some (i,ti)) (u:=none) (st:=none) hs rfl (post_val_or_str ⟨QbO (Txt.slice_le z _ _) hz,fin⟩)
  | int j tj=>exact Qan (l:=some (i,ti)) (u:=some (j,tj)) (st:=none) hs rfl (post_val_or_str ⟨QbO (Txt.slice_le z _ _) hz,fin⟩)
end
structure Z0 (K:YD) (C:Addr) (m qn:Str) (st:Stmt) (ps:YF):Prop where
 ex:∃(f:Addr) (fd:FuncData),Fun K m qn st f fd/\Meth K C m f/\Binds K fd ps []
structure gC (P:Program) (w:World) (K:YD) (mg:YB) (base:Heap) (C:Addr) (m:Str) (k:Nat) (ps:YF) (sp:Sp):Prop where
 ex:∃(f:Addr) (fd:FuncData),Meth K C m f/\Binds K fd ps []/\FZ P w K mg base CX0 k f fd ps sp
theorem Z0.good {P:Program} {w:World} {K:YD} {mg:YB} {base:Heap} {C:Addr} {m qn:Str} {st:Stmt} {ps N:YF} {k:Nat} {sp:Sp} (c:Z0 K C m qn st ps) (S:Bk N ps (Aj st)) (len:∀vs H Q E,sp vs H Q E->vs.length=ps.length)
  (hbody:∀(f:Addr) (cdv:Value) (A:Around) (outer:List Env) (s:Shared) (H:Hp) (vs:YG) (Q:VK) (E:XK),Ds k (A.deeper (envOfC qn (Aj st) s.heap.objs.size f cdv))->sp vs H Q E ->
   ∃t,PSs (La CX0 P w K mg base N qn (Aj st) f cdv A outer s H E).nox (Dp st) t/\t { nx:=λ_ H'=>Q .non H',rt:=Q } (start N vs) H):gC P w K mg base C m (k+1) ps sp:=by
 obtain⟨f,fd,F,M,b⟩:=c.ex;exact⟨f,fd,M,b,F.ok S len λcdv A outer s H vs Q E hr h=>hbody f cdv A outer s H vs Q E hr h⟩
theorem WK {X:Cx} {x:Str} {v:V} {pos:Pos} (hg:Gl X x) (hm:∃u,X.mg x=some u/\RelV v u) (hd:(x == ("__debug__":Str))=false:=by decide):PE X (.Name x pos) (tC v):=by
 obtain⟨u,h,r⟩:=hm;exact ao hg h r hd
def Bf (H H':Hp):Prop:=∀c xs,H c=some (.tup xs)->H' c=some (.tup xs)
theorem Bf.refl (H:Hp):Bf H H:=λ_ _ e=>e
theorem Bf.trans {H H1 H2:Hp} (a:Bf H H1) (b:Bf H1 H2):Bf H H2:=λc xs e=>b c xs (a c xs e)
theorem Bf.of {H H1:Hp} (s:Same H H1):Bf H H1:=λc xs e=>s c _ e
theorem Bf.upd {H:Hp} {b:Addr} {o:HO} (h:∀xs,H b≠some (.tup xs)):Bf H (upd H b o):=λc xs e=>by
 have n:c≠b:=λz=>h xs (z ▸ e);rw[Bd n];exact e
def Af (b:Addr) (H H':Hp):Prop:=∀c o,H c=some o->c≠b->H' c=some o
theorem Af.trans {b:Addr} {H H1 H2:Hp} (x:Af b H H1) (y:Af b H1 H2):Af b H H2:=λc o e n=>y c o (x c o e n) n
theorem Af.of {b:Addr} {H H1:Hp} (x:Same H H1):Af b H H1:=λc o e _=>x c o e
theorem Af.refl (b:Addr) (H:Hp):Af b H H:=λ_ _ e _=>e
theorem Af.upd {b:Addr} {H:Hp} {o:HO}:Af b H (upd H b o):=λc u e n=>by rw[Bd n];exact e
theorem Af.tup {b:Addr} {H H':Hp} (x:Af b H H') (h:∀xs,H b≠some (.tup xs)):Bf H H':=λc xs e=>x c _ e λz=>h xs (z ▸ e)
theorem Af.free {b:Addr} {H H':Hp} (x:Af b H H') (hb:∃o,H' b=some o) {l:Addr} (h:H' l=none):H l=none:=by
 cases e:H l with
 | none=>rfl
 | some o=>
  by_cases n:l=b
  ·obtain⟨o',e'⟩:=hb;rw[n,e'] at h;cases h
  ·rw[x l o e n] at h;cases h
section
variable {X:Cx} {o e value:Expr} {f:Str} {pos pos' tpos:Pos} {ta tv:TE}
theorem PE.weak {ta ta':TE} (h:PE X e ta) (i:∀ U H Q,ta' U H Q->ta U H Q):PE X e ta':=λjb s U H Q I q=>h jb s U H Q I (i U H Q q)
end
theorem PS.weak {X:Cx} {s:Stmt} {t t':TS} (h:PS X s t) (i:∀D U H,t' D U H->t D U H):PS X s t':=λjb sh U H D I q=>h jb sh U H D I (i D U H q)
section
variable {X:Cx} {K:YD}
theorem JQ (h:X.K=K):IxR X (cu K):=h ▸ Bv
theorem Vj (h:X.K=K):OpR X (compareOp .In) (rIn K false):=h ▸ Jt
theorem Ku (h:X.K=K):OpR X (compareOp .NotIn) (rIn K true):=h ▸ Rk
end
end L2
namespace PySem
open Sem (wp)
section
variable {prog:Program} {w:World} {A:Around} {E:YA} {s:Shared}
end
end PySem
namespace L2
open PySem PySem.Spec PyProof.Rows
section
variable {X:Cx} {pos:Pos}
end
theorem Px {α : Type}:∀{l:List α} {i:Nat} {a:α},l.Nodup->a∉l->(l.set i a).Nodup
 | [],_,_,h,_=>by simpa using h
 | x::r,0,a,h,n=>by
  rw[Qbr] at h;rw[QaI,Qbr];exact⟨λz=>n (Qav _ z),h.2⟩
 | x::r,i+1,a,h,n=>by
  rw[Qbr] at h;rw[QaJ,Qbr];refine⟨λz=>?_,Px h.2 λz=>n (Qav _ z)⟩;rcases List.mem_or_eq_of_mem_set z with z | z
  ·exact h.1 z
  ·exact n (z ▸ QaH)
structure Has (H:Hp) (l:List (Addr×HO)):Prop where
 nd:(l.map (·.1)).Nodup
 at_:∀x∈l,H x.1=some x.2
theorem Has.get {H:Hp} {l:List (Addr×HO)} (h:Has H l) {i:Nat} {a:Addr} {o:HO} (e:l[i]?=some (a,o)):H a=some o:=h.at_ (a,o) (Qau e)
theorem Has.same {H H':Hp} {l:List (Addr×HO)} (h:Has H l) (s:Same H H'):Has H' l:=⟨h.nd,λx hx=>s _ _ (h.at_ x hx)⟩
theorem Has.Fv {H H':Hp} {l:List (Addr×HO)} {b:Addr} (h:Has H l) (s:Af b H H') (n:b∉l.map (·.1)):Has H' l:=⟨h.nd,λx hx=>s _ _ (h.at_ x hx) λz=>n (z ▸ QbP.mpr ⟨x,hx,rfl⟩)⟩
theorem Has.fV {H:Hp} {l:List (Addr×HO)} {a:Addr} (h:Has H l) (e:H a=none):a∉l.map (·.1):=λz=>by
 obtain⟨x,hx,rfl⟩:=QbP.mp z;rw[h.at_ x hx] at e;cases e
theorem map_set {l:List (Addr×HO)} {i:Nat} {a:Addr} {o:HO}:(l.set i (a,o)).map (·.1)=(l.map (·.1)).set i a:=by rw[List.map_set]
theorem Has.set {H H':Hp} {l:List (Addr×HO)} (h:Has H l) (i:Nat) {a:Addr} {o o':HO} (e:l[i]?=some (a,o)) (s:Af a H H') (e':H' a=some o'):Has H' (l.set i (a,o')):=by
 have em:(l.map (·.1))[i]?=some a:=by rw[QaT,e];rfl
 have hi:=(Qaf.mp e).1;refine⟨?_,λx hx=>?_⟩
 ·rw[map_set];have:(l.map (·.1)).set i a=l.map (·.1):=by
   obtain⟨h1,h2⟩:=Qaf.mp em;rw[<-h2];exact List.set_getElem_self h1
  rw[this];exact h.nd
 ·obtain⟨j,hj,ex⟩:=List.mem_iff_getElem.mp hx;rw[List.getElem_set] at ex;by_cases q:i=j
  ·rw[if_pos q] at ex;subst ex;exact e'
  ·rw[if_neg q] at ex;have hj':j < l.length:=by simpa using hj
   have hm:x∈l:=ex ▸ List.getElem_mem hj';refine s _ _ (h.at_ x hm) λz=>q ?_;have ej:(l.map (·.1))[j]?=some a:=by rw[QaT,Qai hj'];rw[<-z,<-ex];rfl
   obtain⟨h1,h2⟩:=Qaf.mp em;obtain⟨h3,h4⟩:=Qaf.mp ej;exact (List.getElem_inj h.nd).mp (h2.trans h4.symm)
theorem Has.put {H:Hp} {l:List (Addr×HO)} (h:Has H l) (i:Nat) {a:Addr} {o:HO} (n:a∉l.map (·.1)) (e:H a=some o):Has H (l.set i (a,o)):=by
 refine⟨by rw[map_set];exact Px h.nd n,λx hx=>?_⟩;rcases List.mem_or_eq_of_mem_set hx with z | z
 ·exact h.at_ x z
 ·rw[z];exact e
theorem Has.new {H H':Hp} {l:List (Addr×HO)} {a:Addr} {o:HO} (h:Has H l) (n:H a=none) (s:Same H H') (e:H' a=some o):Has H' (l++[(a,o)]):=by
 refine⟨?_,λx hx=>?_⟩
 ·rw[Qbn,Qba];refine⟨h.nd,by simp,λx hx y hy z=>?_⟩;have:y=a:=by simpa using hy
  subst this;exact h.fV n (z ▸ hx)
 ·rcases Qbm.mp hx with z | z
  ·exact s _ _ (h.at_ x z)
  ·have:x=(a,o):=by simpa using z
   subst this;exact e
theorem Has.nil (H:Hp):Has H []:=⟨List.nodup_nil,λx hx=>by cases hx⟩
theorem Has.ne {H:Hp} {l:List (Addr×HO)} (h:Has H l) {i j:Nat} {a b:Addr} {o p:HO} (e:l[i]?=some (a,o)) (e':l[j]?=some (b,p)) (n:i≠j):a≠b:=λz=>by
 have ea:(l.map (·.1))[i]?=some a:=by rw[QaT,e];rfl
 have eb:(l.map (·.1))[j]?=some a:=by rw[QaT,e',z];rfl
 obtain⟨h1,h2⟩:=Qaf.mp ea;obtain⟨h3,h4⟩:=Qaf.mp eb;exact n ((List.getElem_inj h.nd).mp (h2.trans h4.symm))
theorem Same.CG {H0 H H':Hp} {a:Addr} (s:Same H0 H) (b:Af a H H') (f:H0 a=none):Same H0 H':=λc o e=>b _ _ (s _ _ e) λz=>by rw[z,f] at e;cases e
section
variable {κ : Type} [DecidableEq κ]
def GP (kvs:List (κ×V)) (k:κ):Option V:=(kvs.find? λkv=>decide (kv.1=k)).map (·.2)
def putK (kvs:List (κ×V)) (k:κ) (v:V):List (κ×V):=
 if (kvs.any λkv=>decide (kv.1=k))=true then kvs.map (λkv=>if kv.1=k then (kv.1,v) else kv) else kvs++[(k,v)]
def ZS (kvs:List (κ×V)) (k:κ):List (κ×V):=kvs.filter λkv=>decide (kv.1≠k)
theorem Mh {p:κ×V} {r:List (κ×V)} {k:κ} (e:p.1=k):GP (p::r) k=some p.2:=by simp[GP,Qbx,e]
theorem JT {p:κ×V} {r:List (κ×V)} {k:κ} (e:¬p.1=k):GP (p::r) k=GP r k:=by simp[GP,Qbx,e]
theorem Mi (k:κ):∀kvs:List (κ×V),(kvs.any λkv=>decide (kv.1=k))=(GP kvs k).isSome
 | []=>rfl
 | p::r=>by
  rw[QbK];by_cases e:p.1=k
  ·simp only[Mh e,Qby e,Bool.true_or,Option.isSome_some]
  ·rw[JT e,Qbl e,Bool.false_or];exact Mi k r
theorem S8 (kvs:List (κ×V)) (k:κ) (v:V):(putK kvs k v).length<=kvs.length+1:=by
 unfold putK;split
 ·rw[Qbk];omega
 ·rw[QaF,Qbe,List.length_nil];omega
theorem Yi {kvs:List (κ×V)} {k:κ} (v:V) (h:GP kvs k=none):putK kvs k v=kvs++[(k,v)]:=by
 unfold putK;rw[Mi,h];exact if_neg (by decide)
theorem Ks.W8 {o:Option V} {u:Option Value} (r:Ks o u):o.isSome=u.isSome:=by
 cases o with
 | none=>cases u with
  | none=>rfl
  | some _=>exact (show False from r).elim
 | some _=>cases u with
  | none=>exact (show False from r).elim
  | some _=>rfl
theorem Ks.getD {o:Option V} {u:Option Value} {d:V} {d':Value} (r:Ks o u) (rd:RelV d d'):RelV (o.getD d) (u.getD d'):=by
 cases o with
 | none=>cases u with
  | none=>exact rd
  | some _=>exact (show False from r).elim
 | some _=>cases u with
  | none=>exact (show False from r).elim
  | some _=>exact r
theorem KV.val {kvs:List (κ×V)} {vs:List (κ×Value)} (r:KV kvs vs) (k:κ):Ks (GP kvs k) (valueAt vs k):=by
 unfold KV at r
 induction r with
 | nil=>exact True.intro
 | @cons p q ps qs h t ih=>
  obtain⟨h1,h2⟩:=h;by_cases e:p.1=k
  ·have e':q.1=k:=h1.symm.trans e;have b:valueAt (q::qs) k=some q.2:=by simp[valueAt,Qbx,e']
   rw[Mh e,b];exact h2
  ·have e':¬q.1=k:=λz=>e (h1.trans z);have b:valueAt (q::qs) k=valueAt qs k:=by simp[valueAt,Qbx,e']
   rw[JT e,b];exact ih
theorem KV.any {kvs:List (κ×V)} {vs:List (κ×Value)} (r:KV kvs vs) (k:κ):(kvs.any λkv=>decide (kv.1=k))=vs.any λkv=>decide (kv.1=k):=by
 unfold KV at r
 induction r with
 | nil=>rfl
 | cons h t ih=>rw[QbK,QbK,ih,h.1]
theorem KV.repl {kvs:List (κ×V)} {vs:List (κ×Value)} (r:KV kvs vs) (k:κ) {y:V} {u:Value} (ry:RelV y u) :
  KV (kvs.map λkv=>if kv.1=k then (kv.1,y) else kv) (vs.map λkv=>if kv.1=k then (kv.1,u) else kv):=by
 unfold KV at r ⊢
 induction r with
 | nil=>exact .nil
 | @cons p q ps qs h t ih=>
  rw[QbG,QbG];refine .cons ?_ ih;obtain⟨h1,h2⟩:=h;by_cases e:p.1=k
  ·rw[if_pos e,if_pos (h1.symm.trans e)];exact⟨h1,ry⟩
  ·rw[if_neg e,if_neg (λz=>e (h1.trans z))];exact⟨h1,h2⟩
theorem KV.put {kvs:List (κ×V)} {vs:List (κ×Value)} (r:KV kvs vs) (k:κ) {y:V} {u:Value} (ry:RelV y u):KV (putK kvs k y) (stored vs k u):=by
 unfold putK stored;rw[r.any k];by_cases e:(vs.any λkv=>decide (kv.1=k))=true
 ·rw[if_pos e,if_pos e];exact r.repl k ry
 ·rw[if_neg e,if_neg e];exact QbU r ⟨rj,ry⟩
theorem KV.drop {kvs:List (κ×V)} {vs:List (κ×Value)} (r:KV kvs vs) (k:κ):KV (ZS kvs k) (without vs k):=by
 unfold KV at r ⊢;unfold ZS without
 induction r with
 | nil=>exact .nil
 | @cons p q ps qs h t ih=>
  obtain⟨h1,h2⟩:=h;rw[List.filter_cons,List.filter_cons];by_cases e:p.1=k
  ·have a:¬decide (p.1≠k)=true:=by simp[e]
   have b:¬decide (q.1≠k)=true:=by simp[h1.symm.trans e]
   rw[if_neg a,if_neg b];exact ih
  ·have e':¬q.1=k:=λz=>e (h1.trans z);have a:decide (p.1≠k)=true:=by simp[e]
   have b:decide (q.1≠k)=true:=by simp[e']
   rw[if_pos a,if_pos b];exact .cons ⟨h1,h2⟩ ih
theorem KV.length {kvs:List (κ×V)} {vs:List (κ×Value)} (r:KV kvs vs):kvs.length=vs.length:=QbF r
end
theorem fW {P:Program} {w:World} {k:Key} {u:Value} (r:RelV (kV k) u):(GK P w).is k u=true:=by
 cases k with
 | inl i=>obtain⟨t,e⟩:=(show ∃t,u=Value.int i t from r);subst e;exact S7 P w i t
 | inr x=>obtain⟨t,e⟩:=(show ∃t,u=Value.str x t from r);subst e;exact S6 P w x t
abbrev YL:=List (List Key×V)
abbrev KT (H:Hp):YL->List (List Key×Addr×Value)->Prop:=Paired λp q=>p.1=q.1/\H q.2.1=some (.tup (p.1.map kV))/\RelV p.2 q.2.2
theorem KT.val {H:Hp} {kvs:YL} {xs:List (List Key×Addr×Value)} (r:KT H kvs xs) (k:List Key):Ks (GP kvs k) ((atKey xs k).map (·.2)):=by
 induction r with
 | nil=>exact True.intro
 | @cons p q ps qs h t ih=>
  obtain⟨h1,_,h2⟩:=h;by_cases e:p.1=k
  ·have e':q.1=k:=h1.symm.trans e;have b:atKey (q::qs) k=some q.2:=by simp[atKey,Qbx,e']
   rw[Mh e,b];exact h2
  ·have e':¬q.1=k:=λz=>e (h1.trans z);have b:atKey (q::qs) k=atKey qs k:=by simp[atKey,Qbx,e']
   rw[JT e,b];exact ih
theorem KT.repl {H:Hp} {kvs:YL} {xs:List (List Key×Addr×Value)} (r:KT H kvs xs) (k:List Key) {y:V} {u:Value} (ry:RelV y u) :
  KT H (kvs.map λkv=>if kv.1=k then (kv.1,y) else kv) (xs.map (putAt k u)):=by
 induction r with
 | nil=>exact .nil
 | @cons p q ps qs h t ih=>
  rw[QbG,QbG];refine .cons ?_ ih;obtain⟨h1,h2,h3⟩:=h;unfold putAt;by_cases e:p.1=k
  ·rw[if_pos e,if_pos (h1.symm.trans e)];exact⟨h1,h2,ry⟩
  ·rw[if_neg e,if_neg (λz=>e (h1.trans z))];exact⟨h1,h2,h3⟩
theorem KT.put {H:Hp} {kvs:YL} {xs:List (List Key×Addr×Value)} (r:KT H kvs xs) (k:List Key) {b:Addr} {y:V} {u:Value} (hb:H b=some (.tup (k.map kV))) (ry:RelV y u) :
  KT H (putK kvs k y) (storedH xs k b u):=by
 have e:(kvs.any λkv=>decide (kv.1=k))=(atKey xs k).isSome:=by
  rw[Mi,(r.val k).W8,Option.isSome_map]
 unfold putK storedH;rw[e];by_cases q:(atKey xs k).isSome=true
 ·rw[if_pos q,if_pos q];exact r.repl k ry
 ·rw[if_neg q,if_neg q];exact QbU r ⟨rj,hb,ry⟩
theorem KT.keeps {H H':Hp} {kvs:YL} {xs:List (List Key×Addr×Value)} (r:KT H kvs xs) (ht:∀b ys,H b=some (.tup ys)->H' b=some (.tup ys)):KT H' kvs xs:=
 Paired.Df r λ_ _ z=>⟨z.1,ht _ _ z.2.1,z.2.2⟩
section
variable {P:Program} {w:World} {H:Hp} {h:Heap} {a:Addr}
theorem fH {u:HO} (ok:HOk P w H h) (e:Rd H a u):BZ P w H h a u:=e.ok ok
abbrev YM:=List (Key×V)
theorem ZV {kvs:YM} (ok:HOk P w H h) (e:Rd H a (.dK kvs)):kvs.length<=sizeLine/\(a == sysModules)=false/\∃vs,KV kvs vs/\h.DictOf (GK P w) a vs:=
 show BZ P w H h a (.dK kvs) from fH ok e
theorem gw {kvs:YM} (ok:HOk P w H h) (e:H a=some (.dK kvs)):kvs.length<=sizeLine/\(a == sysModules)=false/\∃vs,KV kvs vs/\h.DictOf (GK P w) a vs:=ZV ok (.inl e)
end
def V3 (H:Hp) (a:Addr) (y:V) (r:Option V):Prop:=
 (∃kvs k,Rd H a (.dK kvs)/\y=kV k/\r=GP kvs k)\/∃kvs k b,Rd H a (.dT kvs)/\y=.ref b/\H b=some (.tup (k.map kV))/\r=GP kvs k
def V2 (H:Hp) (a:Addr) (y v:V) (H':Hp):Prop:=
 (∃kvs k,H a=some (.dK kvs)/\y=kV k/\kvs.length < sizeLine/\H'=upd H a (.dK (putK kvs k v))) \/
 ∃kvs k b,H a=some (.dT kvs)/\y=.ref b/\H b=some (.tup (k.map kV))/\kvs.length < sizeLine/\H'=upd H a (.dT (putK kvs k v))
theorem V3.k {H:Hp} {a:Addr} {kvs:YM} {k:Key} (e:H a=some (.dK kvs)):V3 H a (kV k) (GP kvs k):=.inl ⟨kvs,k,.inl e,rfl,rfl⟩
theorem V3.t {H:Hp} {a b:Addr} {kvs:YL} {k:List Key} (e:H a=some (.dT kvs)) (eb:H b=some (.tup (k.map kV))):V3 H a (.ref b) (GP kvs k):=.inr ⟨kvs,k,b,.inl e,rfl,eb,rfl⟩
theorem V2.k {H:Hp} {a:Addr} {kvs:YM} {k:Key} {v:V} (e:H a=some (.dK kvs)) (hl:kvs.length < sizeLine):V2 H a (kV k) v (upd H a (.dK (putK kvs k v))):=.inl ⟨kvs,k,e,rfl,hl,rfl⟩
theorem V2.t {H:Hp} {a b:Addr} {kvs:YL} {k:List Key} {v:V} (e:H a=some (.dT kvs)) (eb:H b=some (.tup (k.map kV))) (hl:kvs.length < sizeLine) :
  V2 H a (.ref b) v (upd H a (.dT (putK kvs k v))):=.inr ⟨kvs,k,b,e,rj,eb,hl,rj⟩
section
variable {X:Cx} {jb:YC} {U : St} {H:Hp} {s:Shared} {a:Addr} {y v:V} {u r:Value} {o:Option V} {A:Around} {E:YA}
theorem Inv.big (I:Inv X jb U H s):sysModules < s.heap.objs.size:=by
 have h:mainGlobals < s.heap.objs.size:=(I.mod.glob.keeps I.bk).lt;exact Nat.lt_trans (by decide) h
theorem aY {h':Heap} {t':Nat} {ob:HO} (I:Inv X jb U H s) (mu:Mut (H a)) (hs:Heap.SameBut a s.heap h') (he:∃q,h'.get? a=some q) (new:BZ X.prog X.w (upd H a ob) h' a ob) :
  Inv X jb U (upd H a ob) { s with heap:=h',toks:=t' }:=
 I.write (x:=a) (e:=a) mu (.inl rfl) (λb q hb z=>(hs.2 b hb).trans z) he new
theorem dY {P:Program} {w:World} {H':Hp} {h':Heap} {kvs:YM} {vs:List (Key×Value)} (z:kvs.length<=sizeLine) (hd:(a == sysModules)=false) (rel:KV kvs vs) (dd:h'.DictOf (GK P w) a vs) :
  BZ P w H' h' a (.dK kvs):=⟨z,hd,vs,rel,dd⟩
end
section
variable {X:Cx} {jb:YC} {U : St} {H:Hp} {s:Shared} {a:Addr} {kvs:YM} {k:Key} {u:Value} {A:Around} {E:YA}
theorem gA {Q:YA} (I:Inv X jb U H s) (e:Rd H a (.dK kvs)) (h:∀t s',Inv X jb U H s'->Q (.int kvs.length t) s'):wpAny (model X.prog X.w) A (call (.builtin "len") [.ref a]) Q E s:=by
 obtain⟨z,hd,vs,rel,dd⟩:=ZV I.hok e;refine call_len_dict hd dd (by rw[<-rel.length];rw[QbV] at z;omega) ?_;rw[<-rel.length];exact h _ _ (I.tok _)
end
section
variable {X:Cx} {o i e value:Expr} {pos pos' tpos:Pos} {td ty tv:TE}
end
theorem Zc {P:Program} {w:World} {H:Hp} (h:Heap) (hb:sysModules < h.objs.size):BZ P w H (h.push { cls:=.type "dict",data:=.dict #[] }) h.objs.size (.dK []):=
 ⟨QbS _,beq_eq_false_iff_ne.mpr (Ne.symm (QbN hb)),[],.nil,Heap.DictOf.new h⟩
section
variable {X:Cx} {pos:Pos}
end
structure M1 (X:Cx) (o:Expr) (m:Str) (apos:Pos) (e:Expr) (cpos:Pos):Prop where
 base:attributeBase o m X.env (eval o X.env)=eval o X.env
 few:((backTo cpos (starEach [e] X.env)).all (λx=>!x.1)&&(backToKw cpos (keywordEach [] X.env)).all (λx=>x.1.isSome)
 &&decide (([e]:YJ).length+([]:List Keyword).length+(if ([]:List Keyword).isEmpty then 0 else 1) < 30))=true
 line:(apos.endLine == cpos.line)=true
 trees:backTo cpos (starEach [e] X.env)=[(false,eval e X.env)]
section
variable {X:Cx} {jb:YC} {U : St} {H:Hp} {s:Shared} {a:Addr} {y d:V} {u r:Value} {o:Option V} {A:Around} {E:YA}
end
section
variable {X:Cx} {o e f:Expr} {apos cpos:Pos} {td ty tx:TE}
end
section
variable {X:Cx} {jb:YC} {U : St} {H:Hp} {s:Shared} {a:Addr} {kvs:YM} {A:Around} {E:YA}
end
section
variable {X:Cx} {jb:YC} {U : St} {H:Hp} {s:Shared} {a:Addr} {y:V} {u:Value} {A:Around} {E:YA}
end
section
variable {X:Cx}
theorem Xx:Ea X (.builtin "len") (λxs H Q=>∃a kvs,xs=[V.ref a]/\H a=some (.dK kvs)/\Q (.int kvs.length) H):=by
 intro jb s U H xs us Q I r h;obtain⟨a,kvs,rfl,ha,q⟩:=h;obtain⟨u,rfl,ru⟩:=vals1 r;cases ru;exact gA I (.inl ha) λt s' I'=>⟨.int kvs.length,H,I',⟨t,rj⟩,q⟩
end
section
variable {κ : Type} [DecidableEq κ]
theorem Uj:∀{l:List κ} {k:κ},l.Nodup->¬k∈l->(l++[k]).Nodup
 | [],k,_,_=>by simp
 | a::r,k,h,hk=>by
  obtain⟨h1,h2⟩:=Qbr.mp h;show (a::(r++[k])).Nodup;refine Qbr.mpr ⟨λm=>?_,Uj h2 λm=>hk (QbD.mpr (Or.inr m))⟩;rcases Qbm.mp m with q | q
  ·exact h1 q
  ·exact hk (QbD.mpr (Or.inl (QaM.mp q).symm))
end
theorem VF {prog:Program} {w:World} {A:Around} {R:Result->Shared->Prop} {s:Shared} {kx vx target iter:Expr} {ifs:YJ} {scope:Scope} {pos:Pos} {it:Value} {D:Addr} {env:Env} (J:Nat->Shared->Prop)
  (turn:∀n s,J n s->wpAny (model prog w) A (pyNext it) (λr s1=>match r with
   | none=>R (.ok .next) s1
   | some v=>wpAny (model prog w) A (letOwnedTupleGo target it v) (λ_ s2=>wpAny (model prog w) A (assign target env v) (λ_ s3=>
     wpAny (model prog w) A (forIn ifs true λc r=>if r=true then do let ok <-isTrue c env (eval c env);pure (ForInStep.yield ok) else pure (ForInStep.yield r)) (λok s4=>
      if ok=true then wpAny (model prog w) A (eval kx env) (λkv s5=>wpAny (model prog w) A (eval vx env) (λvv s6=>wpAny (model prog w) A (dictSet D kv vv) (λ_ s7=>∃m,m < n/\J m s7) (λ_ _=>False) s6) (λ_ _=>False) s5) (λ_ _=>False) s4
      else ∃m,m < n/\J m s4) (λ_ _=>False) s3) (λ_ _=>False) s2) (λ_ _=>False) s1) (λ_ _=>False) s)
  (n:Nat) (h:J n s):codeAny (model prog w) A (.compLoop (.DictComp kx vx [⟨target,iter,ifs,0⟩] scope pos) 0 it (.ref D) env) R s:=by
 refine codeAny_loop rfl J (λk s' hk=>?_) n h;show wpAny _ A (Sem.onRaise (compTurn (.DictComp kx vx [⟨target,iter,ifs,0⟩] scope pos) 0 it (.ref D) env) (λx=>do noteFrame x env;theTreesLotGoes x)) _ _ s'
 refine wpAny_noted ?_;rw[compTurn_dict];refine QbW (QbL (QbW (QbY (turn k s' hk) (λr s1 q1=>?_) λ_ _ f=>f.elim)));cases r with
 | none=>exact QbX q1
 | some v=>
  refine QbW (QbY q1 (λ_ s2 q2=>QbW (QbY q2 (λ_ s3 q3=>QbW (QbY q3 (λok s4 q4=>?_) λ_ _ f=>f.elim)) λ_ _ f=>f.elim)) λ_ _ f=>f.elim);cases ok with
  | false=>exact QbX ⟨rfl,q4⟩
  | true=>exact QbW (QbW (QbY q4 (λkv s5 q5=>QbW (QbI (QbY q5 (λvv s6 q6=>QbW (QbL (QbI (QbY q6 (λ_ s7 q7=>QbX ⟨rfl,q7⟩) λ_ _ f=>f.elim)))) λ_ _ f=>f.elim))) λ_ _ f=>f.elim))
theorem Xu {X:Cx} {jb:YC} {U : St} {H:Hp} {s:Shared} {A:Around} {E:YA} {a:Addr} {kvs:YM} {k:Key} {v:V} {u r:Value} {Q:YH} (I:Inv X jb U H s) (e:H a=some (.dK kvs)) (l:kvs.length < sizeLine) (ry:RelV (kV k) u) (rv:RelV v r)
  (h:∀s',Inv X jb U (upd H a (.dK (putK kvs k v))) s'->Q () s'):wpAny (model X.prog X.w) A (dictSet a u r) Q E s:=by
 obtain⟨z,hd,vs,rel,dd⟩:=gw I.hok e;have hz:vs.length<=sizeLine:=by rw[<-rel.length];exact z
 have hl:(putK kvs k v).length<=sizeLine:=by have:=S8 kvs k v;omega
 refine wpAny_dictSet_pairs (hsz:=hz) (fW ry) dd λh' dd' hs=>h _ ?_;have he:∃q,h'.get? a=some q:=let ⟨q,_,_,hq,_⟩:=dd';⟨q,hq⟩;exact aY I (by rw[e];exact True.intro) hs he (dY hl hd (rel.put k rv) dd')
@[irreducible] def QC (J:It) (g:TG) (tt:TT) (tk tv:TE) (Q:VK) (σ0:St) (H0:Hp) (l:Addr):Prop:=∃W:Nat->YN,(∃m,W 0 m σ0 H0) /\
 ∀i m σ' H',W i m σ' H'->(J.stop i H'/\Q (.ref l) H')\/(J.go i H'/\∃N:YO,(∀ σ3 H3,N σ3 H3->∃m',m' < m/\W (i+1) m' σ3 H3)/\∀x H2,J.yld i H' x H2->g x σ' H2 fun σ3 H3=>tt σ3 H3 λb H4=>
  if b=true then tk σ3 H4 λy H5=>tv σ3 H5 λz H6=>∃(kvs:YM) (k:Key),H6 l=some (.dK kvs)/\y=kV k/\kvs.length < sizeLine/\N σ3 (upd H6 l (.dK (putK kvs k z))) else N σ3 H4)
def Wf (wi:TI) (src:List (Option Nat)) (g:TG) (tt:TT) (tk tv:TE):TE:=fun U H Q=>wi U H λJ H1=>∀l,H1 l=none->QC J g tt tk tv Q (Ik src U) (upd H1 l (.dK [])) l
theorem VG {X:Cx} {N':YF} {src:List (Option Nat)} {sc:Scope} {kx vx tg iter:Expr} {ifs:YJ} {pos pos':Pos} {wi:TI} {g:TG} {tt:TT} {tk tv:TE} {use:Option (Value->Sem Unit)} {R:YA} (hc:X.calm=true) (S:Bt X N' src sc)
  (hi:PI X tg iter wi) (hg:∀s3 H3 fp pn,PG (cxC X N' sc s3 H3 fp pn) tg g) (ht:∀s3 H3 fp pn,PF (cxC X N' sc s3 H3 fp pn) ifs tt) (hk:∀s3 H3 fp pn,PE (cxC X N' sc s3 H3 fp pn) kx tk) (hv:∀s3 H3 fp pn,PE (cxC X N' sc s3 H3 fp pn) vx tv)
  (hs:∀x,foldedSetIterable iter X.env x=pure x) {jb:YC} {s:Shared} {U : St} {H:Hp} {Q:VK} (I:Inv X jb U H s) (h:Wf wi src g tt tk tv U H Q)
  (fin:∀s3 H3 fp σ4 H4 s5 l,Inv X jb U H3 s3->(∀b∈fp,FW X jb H3 b)->Inv (cxC X N' sc s3 H3 fp (X.pn++jb)) [] σ4 H4 s5->Q (.ref l) H4 ->
   compPost (model X.prog X.w) X.A X.xe use R (.ref l) s3.heap.objs.size (.ok .next) s5) :
  wpAny (model X.prog X.w) X.A (comprehension (.DictComp kx vx [⟨tg,iter,ifs,0⟩] sc pos) sc X.env pos' newDict false (eval iter X.env) use) R X.xe s:=by
 refine wpAny_comprehension_free (use:=use) (cl:=Eb X.env sc.names []) rfl hs (N5 λp hp e=>I.ok.has p.1 (S.fv p hp e)) S.kind S.loc ?_;refine thn (hi jb s U H _ I h) λv s1 h1=>thn h1 λitv s2 h2=>?_;obtain⟨it,fp,tn,J,H2,rfl,I2,T,st2,f2,q⟩:=h2;have q':=q s2.heap.objs.size (I2.hok.fresh (QbR _));unfold QC at q';obtain⟨W,⟨m0,w0⟩,turn⟩:=q';refine QaV (wpAny_newFunctionEnv S.G9 (by intro y hy;simp at hy) (λha hns hsb=>?_) S.kind);have I3:Inv X jb U (upd H2 s2.heap.objs.size (.dK [])) { s2 with heap:=s2.heap.push { cls:=.type "dict",data:=.dict #[] } }:=
  I2.laid (t':=s2.toks) (λb u e=>Qap _ e) (QbR _) (Zc s2.heap I2.big)
 have hfl:∀b∈fp,b < s2.heap.objs.size:=λb hb=>by
  obtain⟨o,e,_⟩:=T.obj 0 _ st2 b hb;exact QbM e
 have f3:∀b∈fp,FW X jb (upd H2 s2.heap.objs.size (.dK [])) b:=λb hb=>⟨by rw[Bd (QbN (hfl b hb))];exact (f2 b hb).1,(f2 b hb).2⟩;generalize hs3:({ s2 with heap:=s2.heap.push { cls:=.type "dict",data:=.dict #[] } }:Shared)=s3 at *;have hsz:s2.heap.objs.size < s3.heap.objs.size:=by rw[<-hs3];show s2.heap.objs.size < (s2.heap.push _).objs.size;rw[QbA];exact Nat.lt_succ_self _
 have kp:∀b o,s3.heap.get? b=some o->ha.get? b=some o:=λb o e=>hsb.extBut b o (QbN (QbM e)) (Qap _ e);have st3:tn 0 ha:=T.keep 0 _ _ st2 λb hb o e=>kp b o (by rw[<-hs3];exact Qap _ e);have I4:Inv (cxC X N' sc s3 (upd H2 s2.heap.objs.size (.dK [])) fp (X.pn++jb)) [] (Ik src U) (upd H2 s2.heap.objs.size (.dK [])) { s3 with heap:=ha,toks:=s3.toks+([]:List (Str×Value)).length }:=
  RZ S I3 f3 (λb hb=>Nat.lt_trans (hfl b hb) hsz) hns kp
 have loop:codeAny (model X.prog X.w) X.A (.compLoop (.DictComp kx vx [⟨tg,iter,ifs,0⟩] sc pos) 0 (.ref it) (.ref s2.heap.objs.size) (compEnvC sc (Eb X.env sc.names []) s3.heap.objs.size X.env))
   (compPost (model X.prog X.w) X.A X.xe use R (.ref s2.heap.objs.size) s3.heap.objs.size) { s3 with heap:=ha,toks:=s3.toks+([]:List (Str×Value)).length }:=by
  refine VF (λn s'=>∃i σ' H',Inv (cxC X N' sc s3 (upd H2 s2.heap.objs.size (.dK [])) fp (X.pn++jb)) [] σ' H' s'/\tn i s'.heap/\(∀b∈fp,H' b=none)/\W i n σ' H') ?_ m0 ⟨0,_,_,I4,st3,λb hb=>(f3 b hb).1,w0⟩;rintro n s4 ⟨i,σ4,H4,J4,st4,fr4,w4⟩;have stat:∀{H':Hp},(∀b∈fp,H' b=none)->∀b∈fp,FW (cxC X N' sc s3 (upd H2 s2.heap.objs.size (.dK [])) fp (X.pn++jb)) [] H' b:=λhn b hb=>
   ⟨hn b hb,(I4.ok.exf b hb).1,I4.ok.M6 b hb,.inl hb,λx c e=>(I4.ok.exf b hb).2 x c e,λp hp=>(f3 b hb).2.2.2.2.2 p ((Qbm.mp hp).elim id λz=>by cases z)⟩
  rcases turn i n σ4 H4 w4 with⟨stop,qn⟩|⟨go,N,hN,step⟩
  ·refine thn (T.done (cxC X N' sc s3 (upd H2 s2.heap.objs.size (.dK [])) fp (X.pn++jb)) rfl rfl rfl hc i [] s4 σ4 H4 _ J4 (stat fr4) st4 stop) λr s5 zz=>?_;obtain⟨hr,J5⟩:=zz;subst hr;exact fin s3 _ fp σ4 H4 s5 _ I3 f3 J5 qn
  ·refine thn (T.item (cxC X N' sc s3 (upd H2 s2.heap.objs.size (.dK [])) fp (X.pn++jb)) rfl rfl rfl hc i [] s4 σ4 H4 _ J4 (stat fr4) st4 go) λr s5 zz=>?_;obtain⟨u,hr,h5⟩:=zz;subst hr;refine thn h5 λ_ s6 zz=>?_;obtain⟨x,H6,J6,r6,y6,st6,fr6⟩:=zz;have J6':=J6.pinned (stat fr6) (T.obj _ _ st6);have back:∀{pl:YC} {σ7:St} {H7:Hp} {s7:Shared},Inv (cxC X N' sc s3 (upd H2 s2.heap.objs.size (.dK [])) fp (X.pn++jb)) ([]++JL fp s6.heap) σ7 H7 s7->N σ7 H7 ->
     ∃m',m' < n/\∃i σ' H',Inv (cxC X N' sc s3 (upd H2 s2.heap.objs.size (.dK [])) fp (X.pn++jb)) [] σ' H' s7/\tn i s7.heap/\(∀b∈fp,H' b=none)/\W i m' σ' H':=λ{pl σ7 H7 s7} J7 w7=>by
    obtain⟨m',hm,w7⟩:=hN _ _ w7;have pinned:∀b∈fp,∀o,s6.heap.get? b=some o->s7.heap.get? b=some o/\H7 b=none:=λb hb o e=>by
     have:=J7.pin (b,o) (Qar _ (Qar _ (Ip hb e)));exact⟨this.1,this.2.1⟩
    refine⟨m',hm,i+1,σ7,H7,J7.Hh,T.keep _ _ _ st6 λb hb o e=>(pinned b hb o e).1,λb hb=>?_,w7⟩;obtain⟨o,e,_⟩:=T.obj _ _ st6 b hb;exact (pinned b hb o e).2
   refine thn (hg s3 _ fp _ _ s6 σ4 H6 x u _ J6' r6 (step x H6 y6)) λ_ s7 zz=>?_;obtain⟨σ7,H7,J7,q7⟩:=zz;refine thn (ht s3 _ fp _ _ s7 σ7 H7 _ J7 q7) λok s8 zz=>?_;obtain⟨H8,J8,q8⟩:=zz;cases ok with
   | false=>
    rw[if_neg QaG] at q8 ⊢;exact back (pl:=[]) J8 q8
   | true=>
    rw[if_pos rfl] at q8 ⊢;refine thn (hk s3 _ fp _ _ s8 σ7 H8 _ J8 q8) λy s9 zz=>?_;obtain⟨yv,H9,J9,r9,q9⟩:=zz;refine thn (hv s3 _ fp _ _ s9 σ7 H9 _ J9 q9) λz s10 zz=>?_;obtain⟨zv,H10,J10,r10,kvs,k,hl,ey,hz,q10⟩:=zz;subst ey;refine Xu (X:=cxC X N' sc s3 (upd H2 s2.heap.objs.size (.dK [])) fp (X.pn++jb)) J10 hl hz r9 r10 λs11 J11=>?_;exact back (pl:=[]) J11 q10
 exact codeAny_compStart_dict loop (T.self X.A 0 _ _ _ st3 loop)
theorem Yr {X:Cx} {N':YF} {src:List (Option Nat)} {sc:Scope} {kx vx tg iter:Expr} {ifs:YJ} {pos:Pos} {wi:TI} {g:TG} {tt:TT} {tk tv:TE} (hc:X.calm=true) (S:Bt X N' src sc)
  (hi:PI X tg iter wi) (hg:∀s3 H3 fp pn,PG (cxC X N' sc s3 H3 fp pn) tg g) (ht:∀s3 H3 fp pn,PF (cxC X N' sc s3 H3 fp pn) ifs tt) (hk:∀s3 H3 fp pn,PE (cxC X N' sc s3 H3 fp pn) kx tk) (hv:∀s3 H3 fp pn,PE (cxC X N' sc s3 H3 fp pn) vx tv)
  (hs:∀x,foldedSetIterable iter X.env x=pure x:=by intro _;rfl):PE X (.DictComp kx vx [⟨tg,iter,ifs,0⟩] sc pos) (Wf wi src g tt tk tv):=by
 intro jb s U H Q I h;rw[arm_eval_DictComp];refine VG (use:=none) hc S hi hg ht hk hv hs I h λs3 H3 fp σ4 H4 s5 l I3 f3 J5 q=>?_;obtain⟨m,hn,_⟩:=J5.loc;exact⟨m,hn,λh' sb=>⟨.ref l,H4,Sg I3 f3 J5 sb,rj,q⟩⟩
end L2
namespace PySem
open Sem (wp)
section
variable {prog:Program} {w:World} {A:Around} {E:YA} {s:Shared}
theorem Jv {it l:Addr} {i:Nat} {items:Array Value} {x:Value} {Q:YA} (hit:s.heap.IsTupleIter it l i) (hl:s.heap.IsTuple l items) (hx:items[i]?=some x)
  (hQ:∀h',h'.IsTupleIter it l (i+1)->Heap.SameBut it s.heap h'->Q x { s with heap:=h' }):wpAny (model prog w) A (Builtin.SmallTypes.nextOf (.ref it)) Q E s:=by
 obtain⟨o,ho,hc,hd⟩:=id hit;obtain⟨ol,hol,_,nl,hdl⟩:=hl;unfold Builtin.SmallTypes.nextOf;refine QbW (Qam (name:=Str.ofString "__next__") hit.typeIs Qaa (Qbi Qaa hit.typeIs PyProof.Rows.entry_tupleiter_next ?_ (PyProof.Rows.args_tupleiter_next _)));show wpAny _ _ (field (.ref it) 0 >>= _) _ _ s;refine QbW (QbT ho hd (x:=.ref l) rfl ?_);show wpAny _ _ (if (Value.ref l == Value.none)=true then _ else _) _ _ s
 rw[if_neg (show ¬((Value.ref l == Value.none)=true) from QaG)]
 show wpAny _ _ (field (.ref it) 1 >>= _) _ _ s;refine QbW (QbT ho hd (x:=.int i 0) rfl ?_);show wpAny _ _ (seqItems? (.ref l) >>= _) _ _ s;refine QbW (QbC hol hdl ?_);simp only[QaY,hx];refine QbW (wpAny_setField ho hd (by simp) (QbX ⟨x,rj,QbX (hQ _ ?_ (Heap.SameBut.update ..))⟩));exact⟨_,Heap.get?_update_self _ ho (Obj.isFreed_of_fields (Obj.data_mapFields hd _)),(Obj.cls_mapFields ..).trans hc,by rw[Obj.data_mapFields hd];simp[rawInt]⟩
theorem Hl {it l:Addr} {i:Nat} {items:Array Value} {Q:YA} (hh:A.handled=none) (hit:s.heap.IsTupleIter it l i) (hl:s.heap.IsTuple l items) (hx:items[i]?=none)
  (hE:∀h' e,Heap.ExtBut it s.heap h'->(∃o,h'.get? e=some o/\o.cls=.type "StopIteration")->E (.ref e) { s with heap:=h' }):wpAny (model prog w) A (Builtin.SmallTypes.nextOf (.ref it)) Q E s:=by
 obtain⟨o,ho,hc,hd⟩:=id hit;obtain⟨ol,hol,_,nl,hdl⟩:=hl;unfold Builtin.SmallTypes.nextOf;refine QbW (Qam (name:=Str.ofString "__next__") hit.typeIs Qaa (Qbi Qaa hit.typeIs PyProof.Rows.entry_tupleiter_next ?_ (PyProof.Rows.args_tupleiter_next _)));show wpAny _ _ (field (.ref it) 0 >>= _) _ _ s;refine QbW (QbT ho hd (x:=.ref l) rfl ?_);show wpAny _ _ (if (Value.ref l == Value.none)=true then _ else _) _ _ s
 rw[if_neg (show ¬((Value.ref l == Value.none)=true) from QaG)]
 show wpAny _ _ (field (.ref it) 1 >>= _) _ _ s;refine QbW (QbT ho hd (x:=.int i 0) rfl ?_);show wpAny _ _ (seqItems? (.ref l) >>= _) _ _ s;refine QbW (QbC hol hdl ?_);simp only[QaY,hx];refine QbW (wpAny_rule (QbW (wpAny_setField ho hd (by simp) ?_)));show wpAny _ _ (newExc (.type "StopIteration") [] >>= _) _ _ _;refine QbW ?_;simp only[newExc,newTuple];refine QbW (QaV ?_ (by size_fits));refine QbW (m:=firstArgMember _ _) (wpAny_of_eq (a:=Value.none) (by first | rfl | (simp only[firstArgMember];rfl)) ?_)
 refine QaV ?_ (by size_fits);simp only[raiseNew];refine QbW (wpAny_handled ?_)
 first | rw[show A.in1.handled=none from hh] | rw[hh]
 refine QbW (QbX (wpAny_throw ?_));exact hE _ _ (((Heap.SameBut.update ..).extBut.push _).push _) ⟨_,Qaz _ rfl,rj⟩
theorem RW {e it l:Addr} {i:Nat} {j:Int} {items:Array Value} {old:Value} {Q:Option Value->Shared->Prop} (hh:A.handled=none) (he:IsEnum s.heap e it j old) (hit:s.heap.IsTupleIter it l i) (hl:s.heap.IsTuple l items) (hx:items[i]?=none)
  (hQ:∀h',Heap.ExtBut it s.heap h'->Q none { s with heap:=h' }):wpAny (model prog w) A (pyNext (.ref e)) Q E s:=by
 have hT:s.TypeIs (.ref e) "enumerate":=⟨_,he,rj⟩;unfold pyNext;refine QbW (wpAny_attempt (Qam (name:=Str.ofString "__next__") hT F.slot_enumerate_next (Qbi F.slot_enumerate_next hT F.entry_enumerate_next ?_ (F.args_enumerate_next_1 _))));show wpAny _ _ (field (.ref e) 2 >>= _) _ _ _;refine QbW (QbT he rfl (x:=.ref it) rfl (QbW (Hl hh hit hl hx λh' x he' hx'=>?_)));obtain⟨o,ho,hc⟩:=hx';exact QbW (wpAny_isInstance (T:="StopIteration") (b:=true) ⟨o,ho,hc⟩ isSubtype_stop (QbX (hQ _ he')))
end
theorem Draws.tup {prog:Program} {w:World} {A:Around} (hh:A.handled=none) (it l:Addr) (hne:l≠it) (items:Array Value) :
  Draws prog w A it [it,l] items.size (λi v=>items[i]?=some v) (λi h=>h.IsTupleIter it l i/\h.IsTuple l items) where
 live:=λ_ _ st=>let ⟨o,ho,_⟩:=st.1;⟨o,ho⟩
 frame:=λ_ _ _ st hk=>⟨st.1.at λo e=>hk it (by simp) o e,let ⟨o,e,r⟩:=st.2;⟨o,hk l (by simp) o e,r⟩⟩
 item:=λi s Q E hi st hQ=>Jv st.1 st.2 (x:=items[i]) (by simp[hi]) λh' hit' hs'=>hQ _ h' s.toks (by simp[hi]) ⟨hit',let ⟨o,e,r⟩:=st.2;⟨o,hs'.extBut _ _ hne e,r⟩⟩ hs'
 done:=λs Q E st hE=>Hl hh st.1 st.2 (by simp) hE
theorem Draws.from {prog:Program} {w:World} {A:Around} {it:Addr} {fp:List Addr} {n:Nat} {P:Nat->Value->Prop} {St:Nat->Heap->Prop} (D:Draws prog w A it fp n P St) (k:Nat) :
  Draws prog w A it fp (k+n) (λj v=>∃i,j=k+i/\P i v) (λj h=>∃i,j=k+i/\i<=n/\St i h) where
 live:=λ_ _ ⟨i,_,_,st⟩=>D.live i _ st
 frame:=λ_ _ _ ⟨i,e,hi,st⟩ hk=>⟨i,e,hi,D.frame i _ _ st hk⟩
 item:=λj s Q E hj ⟨i,e,hi,st⟩ hQ=>D.item i s Q E (by omega) st λx h' tk p st' sb=>hQ x h' tk ⟨i,e,p⟩ ⟨i+1,by omega,by omega,st'⟩ sb
 done:=λs Q E ⟨i,e,hi,st⟩ hE=>by
  have:i=n:=by omega
  subst this;exact D.done s Q E st hE
end PySem
namespace L2
open PySem PySem.Spec PyProof.Rows
section
variable {X:Cx} {jb:YC} {U : St} {H:Hp} {s:Shared} {h':Heap}
theorem Inv.Pa {t':Nat} {fp:List Addr} {t:Addr} {o:HO} (I:Inv X jb U H s) (ht:s.heap.objs.size<=t) (k:∀b u,b∉fp->s.heap.get? b=some u->h'.get? b=some u) (hf:∀b∈fp,FW X jb H b) (new:BZ X.prog X.w (upd H t o) h' t o) :
  Inv X jb U (upd H t o) { s with heap:=h',toks:=t' }:=by
 have nt:=I.hok.fresh ht;have old:∀b u,s.heap.get? b=some u->b≠t:=λb u e z=>absurd (QaL (QbM e) ht) (by rw[z];exact QbH _);have nf:∀b u,H b=some u->b∉fp:=λb u e z=>by rw[(hf b z).1] at e;cases e
 have tr:∀b u,H b=some u->(upd H t o) b=some u:=λb u e=>by rw[Bd (Aw e nt)];exact e
 refine I.step (g':=s.gens) (d':=s.drawn) (ch:=fp) (λb hb=>?_) (λb u _ _ hc e _=>k b u hc e) (λb u _ _ hc e _=>⟨u.slots,k b u hc e⟩) (λb u hc e n=>by rw[Bd (old b u e)];exact n)
  (λb u hc e=>⟨u,k b u hc e⟩) (λ_ _ e=>tr _ _ e) (λ_ _ _ e=>tr _ _ e) (λb ps e=>⟨#[],by rw[tr _ _ e];simp⟩) (λm hm=>?_) (λb u e=>?_) I.bare
 ·obtain⟨_,f1,_,f3,f4,f5⟩:=hf b hb;exact⟨f3,f1,f4,f5⟩
 ·obtain⟨u,es,ep,hu,r⟩:=hm;exact⟨u,es,ep,k _ u (λz=>(hf _ z).2.1 rfl) hu,r⟩
 ·by_cases hb:b=t
  ·subst hb;rw[Ad] at e;cases e;exact new
  ·rw[Bd hb] at e;refine (I.hok b u e).stay (λc v hc q=>k c v ?_ q) (λc q=>tr _ _ q) λc xs q=>tr _ _ q;rcases hc with z | z
   ·rw[z];exact nf b u e
   ·exact nf c _ z
theorem Inv.T4 {t':Nat} {fp:List Addr} (I:Inv X jb U H s) (k:∀b u,b∉fp->s.heap.get? b=some u->h'.get? b=some u) (hf:∀b∈fp,FW X jb H b):Inv X jb U H { s with heap:=h',toks:=t' }:=by
 have nf:∀b u,H b=some u->b∉fp:=λb u e z=>by rw[(hf b z).1] at e;cases e
 refine I.step (g':=s.gens) (d':=s.drawn) (ch:=fp) (λb hb=>?_) (λb u _ _ hc e _=>k b u hc e) (λb u _ _ hc e _=>⟨u.slots,k b u hc e⟩) (λb u hc e n=>n)
  (λb u hc e=>⟨u,k b u hc e⟩) (λ_ _ e=>e) (λ_ _ _ e=>e) (λb ps e=>⟨#[],by rw[e];simp⟩) (λm hm=>?_) (λb u e=>?_) I.bare
 ·obtain⟨_,f1,_,f3,f4,f5⟩:=hf b hb;exact⟨f3,f1,f4,f5⟩
 ·obtain⟨u,es,ep,hu,r⟩:=hm;exact⟨u,es,ep,k _ u (λz=>(hf _ z).2.1 rfl) hu,r⟩
 ·refine (I.hok b u e).stay (λc v hc q=>k c v ?_ q) (λ_ q=>q) λ_ _ q=>q;rcases hc with z | z
  ·rw[z];exact nf b u e
  ·exact nf c _ z
end
def JK (K:YD) (a:Addr) (lo:Nat):It:=
 ⟨λi H=>∃xs x,SqT K H a xs/\xs[i]?=some x,λi H v H'=>∃p x,H p=none/\v=.ref p/\H'=upd H p (.tup [.int ((lo+i:Nat):Int),x])/\∀xs,SqT K H a xs->xs[i]?=some x,λi H=>∃xs,SqT K H a xs/\xs.length<=i⟩
theorem U5 {P:Program} {w:World} {K:YD} {elts:YJ} {k:Nat} {pos:Pos} (a e it:Addr) (lo:Nat) (nei:e≠it):Turn P w K (.Tuple elts k pos) (JK K a lo) [e,it] e (λi h=>(∃old,IsEnum h e it ((lo+i:Nat):Int) old)/\h.IsTupleIter it a i) where
 mem:=by simp
 obj:=λi h st b hb=>by
  obtain⟨⟨old,he⟩,o,ho,hc,hd⟩:=st;rcases QbD.mp hb with rfl | hb
  ·exact⟨_,he,λv z=>by cases (show Data.fields _=Data.cell v from z)⟩
  ·have:b=it:=by simpa using hb
   subst this;exact⟨o,ho,λv z=>by rw[hd] at z;cases z⟩
 keep:=λi h h' st k=>by
  obtain⟨⟨old,he⟩,hi⟩:=st;exact⟨⟨old,k e (by simp) _ he⟩,hi.at λo q=>k it (by simp) o q⟩
 item:=by
  intro X hP hw hK hc i jb s U H E I hf st hg;subst hP hw hK;obtain⟨xs,x,hq,hx⟩:=hg;obtain⟨its,rv,p,hz⟩:=I.tuple hq;obtain⟨u,hu,ru⟩:=rv.get hx;obtain⟨⟨old,he⟩,hit⟩:=st;have hts:s.heap.IsTuple a its.toArray:=p;have ane:a≠e:=λz=>by
   obtain⟨o,ho,hcl,_⟩:=hts;rw[z,he] at ho;cases ho;injection hcl with q;exact absurd q (by decide)
  have ani:a≠it:=λz=>by
   obtain⟨o,ho,hcl,_⟩:=hts;obtain⟨o',ho',hcl',_⟩:=hit;rw[z,ho'] at ho;cases ho;rw[hcl'] at hcl;injection hcl with q;exact absurd q (by decide)
  have hlt:i < its.toArray.size:=by
   have:=(Qaf.mp hu).1;simpa using this
  have D:=(Draws.tup (prog:=X.prog) (w:=X.w) (A:=X.A.in1) (I.ok.hd hc) it a ani its.toArray).from lo;refine wpAny_pyNext_enum_itemD D he ⟨i,rj,Nat.le_of_lt hlt,hit,hts⟩ (by omega) nei (by simp[nei,ane.symm]) λy h1 tk hP ho hst hT hsz hk=>?_;obtain⟨i',ei,hy⟩:=hP;have:i'=i:=by omega
  subst this;have ey:y=u:=by
   have h2:its.toArray[i']?=some u:=by simpa using hu
   rw[h2] at hy;exact (Qbp hy).symm
  subst ey;refine⟨_,rj,wpAny_letOwnedTupleGo_enum ho λh2 he2 hs2=>?_⟩;have hlt2:s.heap.objs.size≠e:=QbQ (QbM he);have hT2:h2.get? s.heap.objs.size=some { cls:=.type "tuple",data:=.seq #[.int ((lo+i':Nat):Int) tk,y] }:=(hs2.2 _ hlt2).trans hT;have new:BZ X.prog X.w (upd H s.heap.objs.size (.tup [.int ((lo+i':Nat):Int),x])) h2 s.heap.objs.size (.tup [.int ((lo+i':Nat):Int),x]):=
   ⟨by show 2<=sizeLine;decide,[.int ((lo+i':Nat):Int) tk,y],.cons ⟨tk,rj⟩ (.cons ru .nil),_,hT2,rj,0,rj⟩
  have I1:=I.Pa (h':=h2) (t':=tk+1) (QbR _) (λb q hb z=>(hs2.2 b (λw=>hb (by simp[w]))).trans (hk b q (λw=>hb (by simp[w])) (λw=>hb (by simp[w])) z)) hf new;refine⟨.ref s.heap.objs.size,_,I1,rj,⟨s.heap.objs.size,x,I.hok.fresh (QbR _),rj,rj,λys hy'=>by rw[I.Pb hy' hq];exact hx⟩,⟨⟨y,?_⟩,?_⟩,λb hb=>?_⟩
  ·have:=he2;rw[show ((lo+(i'+1):Nat):Int)=((lo+i':Nat):Int)+1 by omega];exact this
  ·obtain⟨i2,e2,_,st2,_⟩:=hst;have:i2=i'+1:=by omega
   subst this;exact st2.at λo q=>(hs2.2 it (Ne.symm nei)).trans q
  ·have hb':b < s.heap.objs.size:=by
    rcases QbD.mp hb with rfl | hb
    ·exact QbM he
    ·have:b=it:=by simpa using hb
     subst this;obtain⟨o,ho',_⟩:=hit;exact QbM ho'
   rw[Bd (QbN hb')];exact (hf b hb).1
 done:=by
  intro X hP hw hK hc i jb s U H E I hf st hg;subst hP hw hK;obtain⟨xs,hq,hx⟩:=hg;obtain⟨its,rv,p,hz⟩:=I.tuple hq;obtain⟨⟨old,he⟩,hit⟩:=st;have hl:=rv.length;exact RW (I.ok.hd hc) he hit (show s.heap.IsTuple a its.toArray from p) (by simp;omega) λh' eb=>⟨rj,I.T4 (t':=s.toks) (λb o hb q=>eb b o (λz=>hb (by simp[z])) q) hf⟩
 self:=λ_ _ _ _ _ st h=>let ⟨⟨_,he⟩,_⟩:=st;wpAny_pyIter_enum he h
end L2
namespace PySem
open Sem (wp)
open AutoSeq1 (wpAny_loadPart')
theorem Oz (l:Addr) (items:Array Value) (n:Nat) (dct:Option Addr) (sl:YI) :
  Meets (Builtin.«enumerate.__new__» ⟨[.type "enumerate",.ref l],[]⟩) (λ_ R s=>s.heap.get? l=some { cls:=.type "tuple",dict:=dct,data:=.seq items n,slots:=sl } /\
   R (.ok (.ret (.ref (s.heap.push { cls:=.type "tuple_iterator",data:=.fields #[.ref l,.int 0 0] }).objs.size)))
    { s with heap:=(s.heap.push { cls:=.type "tuple_iterator",data:=.fields #[.ref l,.int 0 0] }).push { cls:=.type "enumerate",data:=.fields #[.none,.bool false,.ref s.heap.objs.size,rawInt 0,.none,.none] } }):=
 .of_wp λprog w A R s h=>by
  obtain⟨hp,g,d,tk,os⟩:=s;obtain⟨hl,h⟩:=h;have hsub:=sub_enumerate;have hL:Heap.IsTuple (Shared.heap ⟨hp,g,d,tk,os⟩) l items:=⟨_,hl,rj,n,rj⟩
  wp_walk using wpAny_loadPart' hl
  refine wpAny_stack_any λst=>QbX ?_;split
  ·rename_i c _ _ _ _ _;cases (c == Value.type "enumerate")
   ·wp_walk using wpAny_loadPart' hl,QaN hL
    exact⟨_,rj,h⟩
   ·wp_walk using wpAny_loadPart' hl,QaN hL
    exact⟨_,rj,h⟩
  ·wp_walk using wpAny_loadPart' hl,QaN hL
   exact⟨_,rj,h⟩
theorem Nz (l:Addr) (items:Array Value) (n:Nat) (dct:Option Addr) (sl:YI) (t:Tok) :
  Meets (Builtin.«enumerate.__new__» ⟨[.type "enumerate",.ref l],[("start",.int 1 t)]⟩) (λ_ R s=>s.heap.get? l=some { cls:=.type "tuple",dict:=dct,data:=.seq items n,slots:=sl } /\
   R (.ok (.ret (.ref (s.heap.push { cls:=.type "tuple_iterator",data:=.fields #[.ref l,.int 0 0] }).objs.size)))
    { s with heap:=(s.heap.push { cls:=.type "tuple_iterator",data:=.fields #[.ref l,.int 0 0] }).push { cls:=.type "enumerate",data:=.fields #[.none,.bool false,.ref s.heap.objs.size,rawInt 1,.none,.none] } }):=
 .of_wp λprog w A R s h=>by
  obtain⟨hp,g,d,tk,os⟩:=s;obtain⟨hl,h⟩:=h;have hsub:=sub_enumerate;have hL:Heap.IsTuple (Shared.heap ⟨hp,g,d,tk,os⟩) l items:=⟨_,hl,rj,n,rj⟩
  wp_walk using wpAny_loadPart' hl
  refine wpAny_stack_any λst=>QbX ?_;split
  ·rename_i c _ _ _ _ _;cases (c == Value.type "enumerate")
   ·wp_walk using wpAny_loadPart' hl,QaN hL
    exact⟨_,rj,h⟩
   ·wp_walk using wpAny_loadPart' hl,QaN hL
    exact⟨_,rj,h⟩
  ·wp_walk using wpAny_loadPart' hl,QaN hL
   exact⟨_,rj,h⟩
end PySem
namespace PySem
open Sem (wp)
section
variable {prog:Program} {w:World} {A:Around} {E:YA} {s:Shared}
theorem Ou {T newId:String} {self:Value} {rest:YE} {kw:List (Str×Value)} (hl:typeLookup (.type T) "__init__"=pure (some (.builtin "object.__init__")))
  (hm:Bind.madeBy (.type T)=pure (some newId)) (hne:(some newId != some "object.__new__")=true) :
  Meets (Builtin.«object.__init__» ⟨self::rest,kw⟩) (λ_ R s=>s.TypeIs self T/\R (.ok (.ret .none)) s):=by
 refine Meets.of_wp λprog w A R s hs=>?_;obtain⟨hT,hq⟩:=hs;cases rest with
 | nil=>
  cases kw with
  | nil=>exact QbX ⟨_,rfl,hq⟩
  | cons k kw=>
   repeat (any_goals (first | assumption | wp_step))
   exact⟨_,rj,hq⟩
 | cons a rest=>
  repeat (any_goals (first | assumption | wp_step))
  exact⟨_,rj,hq⟩
theorem Xy {T newId:String} {Bn:Builtin} {args:YE} {kw:List (Str×Value)} {S:Spec} {Q:YA} (ft:TypeCalled T newId "object.__init__") (hne:(some newId != some "object.__new__")=true)
  (hct:checkTypeCall T ⟨args,kw⟩=pure ()) (hcn:checkBuiltinCall newId ⟨.type T::args,kw⟩=pure ()) (hok:∀obj,argsOk "object.__init__" ⟨obj::args,kw⟩)
  (entryN:entryFor table newId=some Bn) (g:Meets (Bn ⟨.type T::args,kw⟩) S) (h:S A.in1 (wants (λobj s₁=>s₁.TypeIs obj T/\Q obj s₁) E) s) :
  wpAny (model prog w) A (call (.type T) args kw) Q E s:=by
 obtain⟨c,tl,hmro⟩:=ft.mro;have hmade:=ft.made;have hsub:=ft.sub;refine wpAny_call (codeAny_of_tree ?_);show wpAny _ _ (callAny (.type T) _) _ _ _;refine QbX ⟨Code.quiet_builtin _ (by trivial),codeAny_builtin F.entry_type_call ?_⟩;rw[Around.under_plain (weight_type_call_type T args kw) (units_type_call_type T args kw)];have h1:=ft.notType;have h2:=ft.canCreate
 repeat (any_goals (first | assumption | wp_step))
 refine codeAny_mono (codeAny_call_builtin ft.plain entryN (wpAny_of_eq hcn (g prog w A.in1 _ s h))) λr s₁ hr=>?_;cases r with
 | error e=>exact hr
 | ok fl=>
  cases fl with
  | ret obj=>
   obtain⟨hT,hq⟩:=hr;have hli:=ft.init.lookup;have hbi:=ft.init.bind obj
   repeat (any_goals (first | assumption | wp_step))
   refine codeAny_mono (codeAny_call_builtin ft.init.plain F.entry_object_init (ft.init.check _ _ _ _ _ _ _ _ hT (hok obj) (Ou ft.init.lookup ft.made hne prog w A.in1 (wants (λr s₂=>r=.none/\Q obj s₂) E) s₁ ⟨hT,rj,hq⟩))) λr₂ s₂ hr₂=>?_;cases r₂ with
   | error e=>exact hr₂
   | ok fl₂=>
    cases fl₂ with
    | ret r=>
     obtain⟨rfl,hq2⟩:=hr₂
     repeat (any_goals (first | assumption | wp_step))
    | _=>exact hr₂.elim
  | _=>exact hr.elim
end
end PySem
namespace PyProof.Rows
open PySem
section
variable {M:Model} {A:Around} {E:YA} {s:Shared} {env:Env}
theorem N6 {pos:Pos} {T:String} {e:Expr} {rest:YJ} {kws:List Keyword} {Q:YA}
  (h:wpAny M A (spliced (backTo pos (starEach (e::rest) env))) (λvs s₁=>wpAny M A (evalAll ((backToKw pos (keywordEach kws env)).map (·.2))) (λkvs s₂=>wpAny M A (call (.type T) vs (((backToKw pos (keywordEach kws env)).filterMap (·.1)).zip kvs)) Q E s₂) E s₁) E s)
  (he:backTo pos (starEach (e::rest) env)=(false,eval e env)::backTo pos (starEach rest env):=by rfl) (hplain:(backTo pos (starEach (e::rest) env)).any (·.1)=false:=by rfl)
  (hall:(backToKw pos (keywordEach kws env)).all (·.1.isSome)=true:=by rfl) (hkw:(backToKw pos (keywordEach kws env)).any (·.1.isNone)=false:=by rfl) :
  wpAny M A (callWith pos (.type T) [] (backTo pos (starEach (e::rest) env)) (backToKw pos (keywordEach kws env))) Q E s:=by
 have h2:wpAny M A (evalArgs (.type T) true (backTo pos (starEach (e::rest) env)) (backToKw pos (keywordEach kws env))) (λa s₁=>wpAny M A (call (.type T) ([]++a.pos) a.kw) Q E s₁) E s:=by
  rw[he] at h ⊢;exact evalArgs_kwB hall h
 unfold callWith;refine QbW (QbI (QbY h2 (λa s₁ h₁=>QbW (QbL ?_)) λ_ _ x=>x));simp only[hplain,hkw,Bool.or_false];exact QbW (QbX (QbW (QbY h₁ (λr s₂ hr=>QbW (QbI (wpAny_point (QbX hr)))) λ_ _ x=>x)))
end
end PyProof.Rows
namespace L2
open PySem PySem.Spec PyProof.Rows
section
variable {X:Cx}
theorem Us {jb:YC} {U : St} {H:Hp} {s:Shared} {R:It->Hp->Prop} {E:YA} {elts:YJ} {k:Nat} {pos:Pos} {a:Addr} {lo:Nat} {tk:Nat} (I:Inv X jb U H s) (q:R (JK X.K a lo) H) :
  wpAny (model X.prog X.w) X.A (pyIter (.ref (s.heap.objs.size+1))) (PIE X jb U (.Tuple elts k pos) R) E
   { s with heap:=(s.heap.push { cls:=.type "tuple_iterator",data:=.fields #[.ref a,.int 0 0] }).push { cls:=.type "enumerate",data:=.fields #[.none,.bool false,.ref s.heap.objs.size,rawInt (lo:Int),.none,.none] },toks:=tk }:=by
 have hz:(s.heap.push { cls:=.type "tuple_iterator",data:=.fields #[.ref a,.int 0 0] }).objs.size=s.heap.objs.size+1:=QbA ..;have he:IsEnum ((s.heap.push { cls:=.type "tuple_iterator",data:=.fields #[.ref a,.int 0 0] }).push { cls:=.type "enumerate",data:=.fields #[.none,.bool false,.ref s.heap.objs.size,rawInt (lo:Int),.none,.none] }) (s.heap.objs.size+1) s.heap.objs.size (lo:Int) .none:=by
  have:=Qaz (s.heap.push { cls:=.type "tuple_iterator",data:=.fields #[.ref a,.int 0 0] }) (o:={ cls:=.type "enumerate",data:=.fields #[.none,.bool false,.ref s.heap.objs.size,rawInt (lo:Int),.none,.none] }) rfl;rw[hz] at this;exact this
 refine wpAny_pyIter_enum he ⟨s.heap.objs.size+1,[s.heap.objs.size+1,s.heap.objs.size],_,_,H,rj,I.kept (t':=tk) λb o e=>Qap _ (Qap _ e),U5 a (s.heap.objs.size+1) s.heap.objs.size lo (Nat.succ_ne_self _),⟨⟨.none,he⟩,⟨_,Qap _ (Qaz _ rfl),rj,rj⟩⟩,λb hb=>?_,q⟩;have hb':s.heap.objs.size<=b:=by
  simp only[QbD,Qbg,Qcb] at hb;rcases hb with rfl | rfl
  ·exact Nat.le_succ _
  ·exact QbR _
 exact I.O5 hb' (I.hok.fresh hb')
end
section
variable {X:Cx}
def ZR (K:YD) (lo:Nat) (tl:TE):TI:=fun U H R=>tl U H λx H1=>∃a,x=.ref a/\(∃xs,SqT K H1 a xs)/\R (JK K a lo) H1
theorem VN {jb:YC} {U : St} {H:Hp} {s:Shared} {R:It->Hp->Prop} {elts:YJ} {k:Nat} {pos:Pos} {a:Addr} {xs:YG} (I:Inv X jb U H s) (hq:SqT X.K H a xs) (q:R (JK X.K a 0) H) :
  wpAny (model X.prog X.w) X.A (call (.type "enumerate") [.ref a]) (λv s1=>wpAny (model X.prog X.w) X.A (pyIter v) (PIE X jb U (.Tuple elts k pos) R) X.xe s1) X.xe s:=by
 obtain⟨its,rv,p,hz⟩:=I.tuple hq;obtain⟨⟨c,dct,dt,sl⟩,hl,hc,n,hd⟩:=id p;replace hc:c=.type "tuple":=hc;replace hd:dt=.seq its.toArray n:=hd;subst hc hd;refine callType_new F.called_enumerate (by decide) (F.typeCall_enumerate_1 _) (F.newCall_enumerate_1 _) (λobj=>F.args_object_init_2 obj _) F.entry_enumerate_new (Oz a its.toArray n dct sl) ⟨hl,?_⟩;have hz:(s.heap.push { cls:=.type "tuple_iterator",data:=.fields #[.ref a,.int 0 0] }).objs.size=s.heap.objs.size+1:=QbA ..;show _/\_;refine⟨⟨_,Qaz _ rfl,rj⟩,?_⟩;rw[hz];exact Us (lo:=0) (tk:=s.toks) I q
end
section
variable {X:Cx}
theorem Yq {x:Expr} {tx:TE} {p pos tp:Pos} {elts:YJ} {k:Nat} (hg:Gl X "enumerate") (hm:X.mg "enumerate"=none) (hl:PE X x tx) (hs:starEach [x] X.env=[(false,eval x X.env)]:=by rfl):PI X (.Tuple elts k tp) (.Call (.Name "enumerate" p) [x] [] pos) (ZR X.K 0 tx):=by
 intro jb s U H R I h;refine Call_ (Jl I hg hm boot_enumerate (Qac (thn ((Aa hl Ab (by rw[hs];rfl)) pos jb s U H (λvs H1=>match vs with | [v]=>∃a,v=.ref a/\(∃xs,SqT X.K H1 a xs)/\R (JK X.K a 0) H1 | _=>False) I h) λus s1 ⟨vs,H1,I1,r1,q1⟩=>?_) hs rfl))
 cases r1 with
 | nil=>exact False.elim q1
 | cons r rr=>
  cases rr with
  | nil=>
   obtain⟨a,e,⟨xs,hq⟩,q⟩:=q1;subst e;cases r;exact VN I1 hq q
  | cons _ _=>exact False.elim q1
theorem VL {jb:YC} {U : St} {H:Hp} {s:Shared} {R:It->Hp->Prop} {elts:YJ} {k:Nat} {pos:Pos} {a:Addr} {xs:YG} {t:Tok} (I:Inv X jb U H s) (hq:SqT X.K H a xs) (q:R (JK X.K a 1) H) :
  wpAny (model X.prog X.w) X.A (call (.type "enumerate") [.ref a] [("start",.int 1 t)]) (λv s1=>wpAny (model X.prog X.w) X.A (pyIter v) (PIE X jb U (.Tuple elts k pos) R) X.xe s1) X.xe s:=by
 obtain⟨its,rv,p,hz⟩:=I.tuple hq;obtain⟨⟨c,dct,dt,sl⟩,hl,hc,n,hd⟩:=id p;replace hc:c=.type "tuple":=hc;replace hd:dt=.seq its.toArray n:=hd;subst hc hd;refine Xy F.called_enumerate (by decide) (by kernel_rfl) (by kernel_rfl) (λobj=>?ok) F.entry_enumerate_new (Nz a its.toArray n dct sl t) ⟨hl,?_⟩
 case ok=>
  unfold argsOk;rw[signature?_of (id:="object.__init__") (n:=['_','_','t','i','n','i','_','_']) (o:=['t','c','e','j','b','o']) (by kernel_rfl) F.owner_object]
  kernel_rfl
 have hz:(s.heap.push { cls:=.type "tuple_iterator",data:=.fields #[.ref a,.int 0 0] }).objs.size=s.heap.objs.size+1:=QbA ..;show _/\_;refine⟨⟨_,Qaz _ rfl,rj⟩,?_⟩;rw[hz];exact Us (lo:=1) (tk:=s.toks) I q
theorem Rh {x one:Expr} {tx:TE} {p pos tp kp:Pos} {elts:YJ} {k:Nat} (hg:Gl X "enumerate") (hm:X.mg "enumerate"=none) (hl:PE X x tx) (h1:PE X one (tC (.int 1))) (hs:starEach [x] X.env=[(false,eval x X.env)]:=by rfl)
  (hall:(backToKw pos (keywordEach [⟨some "start",one,kp⟩] X.env)).all (·.1.isSome)=true:=by rfl) (hkw:(backToKw pos (keywordEach [⟨some "start",one,kp⟩] X.env)).any (·.1.isNone)=false:=by rfl)
  (hks:(backToKw pos (keywordEach [⟨some "start",one,kp⟩] X.env)).filterMap (·.1)=(["start"]:YF):=by rfl) :
  PI X (.Tuple elts k tp) (.Call (.Name "enumerate" p) [x] [⟨some "start",one,kp⟩] pos) (ZR X.K 1 tx):=by
 intro jb s U H R I h;refine wpAny_Call_Name_kw (Jl I hg hm boot_enumerate (PyProof.Rows.N6 (thn ((Aa hl Ab (by rw[hs];rfl)) pos jb s U H (λvs H1=>match vs with | [v]=>∃a,v=.ref a/\(∃xs,SqT X.K H1 a xs)/\R (JK X.K a 1) H1 | _=>False) I h) λus s1 ⟨vs,H1,I1,r1,q1⟩=>?_) (by rw[hs];rfl) (by rw[hs];rfl) hall hkw))
 refine thn ((ak h1 cB) pos jb s1 U H1 (λks H2=>H2=H1/\ks=[.int 1]) I1 ⟨rj,rj⟩) λws s2 zz=>?_;obtain⟨zs,H2,I2,rz,e2,ez⟩:=zz;subst e2 ez;cases rz with
 | cons rz1 rz2=>
  cases rz2;obtain⟨t,rfl⟩:=rz1;rw[hks];cases r1 with
  | nil=>exact False.elim q1
  | cons r rr=>
   cases rr with
   | nil=>
    obtain⟨a,e,⟨xs,hq⟩,q⟩:=q1;subst e;cases r;exact VL I2 hq q
   | cons _ _=>exact False.elim q1
theorem M4 {K:YD} {a:Addr} {lo:Nat} {xs:YG} {g:TG} {tb:TS} {D:Ends} {U : St} {H:Hp} (Pv:YN) (h0:Pv 0 U H) (hl:∀i U H',i<=xs.length->Pv i U H'->SqT K H' a xs)
  (hs:∀i x p U H',xs[i]?=some x->Pv i U H'->H' p=none->g (.ref p) U (upd H' p (.tup [.int ((lo+i:Nat):Int),x])) fun σ2 H2=>tb { D with nx:=Pv (i+1),ct:=Pv (i+1),bk:=D.nx } σ2 H2) (hd:∀ U H',Pv xs.length U H'->D.nx U H') :
  ∃W:Nat->YN,(∃m,W 0 m U H)/\∀i m U H,W i m U H ->
   ((JK K a lo).stop i H/\D.nx U H)\/((JK K a lo).go i H/\∃N:YO,(∀ σ' H',N σ' H'->∃m',m' < m/\W (i+1) m' σ' H')/\∀x H',(JK K a lo).yld i H x H'->g x U H' fun σ2 H2=>tb { D with nx:=N,ct:=N,bk:=D.nx } σ2 H2):=by
 refine⟨λi m U H=>m=xs.length - i/\i<=xs.length/\Pv i U H,⟨xs.length,by simp,QbS _,h0⟩,?_⟩;rintro i m U H ⟨rfl,hi,p⟩;have q:=hl i U H hi p;by_cases hlt:i < xs.length
 ·refine .inr ⟨⟨xs,xs[i],q,by simp[hlt]⟩,Pv (i+1),fun σ3 H3 p'=>⟨xs.length - (i+1),by omega,rj,hlt,p'⟩,λv H2 y=>?_⟩;obtain⟨pa,x,hn,rfl,rfl,hx⟩:=y;exact hs i x pa U _ (hx xs q) p hn
 ·have e:i=xs.length:=by omega
  subst e;exact .inl ⟨⟨xs,q,QbR _⟩,hd U H p⟩
end
section
variable {X:Cx}
def eV (i j:Int):Prop:=i.natAbs < 2 ^ 8000/\j.natAbs < 2 ^ 8000
theorem SM {k:Int} (h:k.natAbs < 2 ^ 8000):Builtin.Int.intBits k<=8000:=by
 unfold Builtin.Int.intBits;split
 ·exact QbS _
 ·rcases Nat.eq_zero_or_pos k.natAbs with h0 | hp
  ·rw[h0];decide
  ·have:=(Nat.log2_lt (QbQ hp)).mpr h;omega
theorem eV.ok {i j:Int} (h:eV i j):IntMulOk i j:=by
 have h1:=SM h.1;have h2:=SM h.2;unfold IntMulOk;have e:Builtin.Int.intTooBig (Builtin.Int.intBits i+Builtin.Int.intBits j)=false:=by
  unfold Builtin.Int.intTooBig;rw[bitsLine_eq];exact Qbl (by omega)
 rw[e,Qbz];exact QaG
end
end L2
namespace PySem.ZZ
open PySem
section
variable {prog:Program} {w:World} {A:Around} {E:YA} {s:Shared}
theorem M5 {M:Model} {α β : Type} {Q:β->Shared->Prop} {body:α->β->Sem (ForInStep β)} (J:List α->β->Shared->Prop) (hnil:∀b s,J [] b s->Q b s)
  (hstep:∀x r b s,J (x::r) b s->wpAny M A (body x b) (λst s'=>match st with | .yield b'=>J r b' s' | .done b'=>Q b' s') E s):∀(l:List α) (b:β) (s:Shared),J l b s->wpAny M A (forIn l b body) Q E s
 | [],b,s,h=>by
  rw[List.forIn_nil];exact QbX (hnil b s h)
 | x::r,b,s,h=>by
  rw[List.forIn_cons];refine QbW (QbY (hstep x r b s h) (λst s' q=>?_) λ_ _ e=>e);cases st with
  | yield b'=>exact M5 J hnil hstep r b' s' q
  | done b'=>exact QbX q
structure Src where
 it:Addr
 a:Addr
 items:Array Value
def SrcAt (h:Heap) (x:Src) (i:Nat):Prop:=(h.IsListIter x.it x.a i/\h.IsList x.a x.items)\/(h.IsTupleIter x.it x.a i/\h.IsTuple x.a x.items)
theorem SrcAt.keep {h h':Heap} {x:Src} {i:Nat} (q:SrcAt h x i) (k1:∀o,h.get? x.it=some o->h'.get? x.it=some o) (k2:∀o,h.get? x.a=some o->h'.get? x.a=some o):SrcAt h' x i:=by
 rcases q with⟨q1,q2⟩|⟨q1,o,e,r⟩
 ·exact .inl ⟨q1.at k1,q2.at k2⟩
 ·exact .inr ⟨q1.at k1,o,k2 o e,r⟩
theorem SrcAt.ne {h:Heap} {x:Src} {i:Nat} (q:SrcAt h x i):x.a≠x.it:=λz=>by
 rcases q with⟨⟨o,e,c,_⟩,⟨o',e',c',_⟩⟩|⟨⟨o,e,c,_⟩,⟨o',e',c',_⟩⟩
 ·rw[z,e] at e';cases e';rw[c] at c';injection c' with y;exact absurd y (by decide)
 ·rw[z,e] at e';cases e';rw[c] at c';injection c' with y;exact absurd y (by decide)
theorem SrcAt.ex {h:Heap} {x:Src} {i:Nat} (q:SrcAt h x i):(∃o,h.get? x.it=some o)/\∃o,h.get? x.a=some o:=by
 rcases q with⟨⟨o,e,_⟩,⟨o',e',_⟩⟩|⟨⟨o,e,_⟩,⟨o',e',_⟩⟩
 ·exact⟨⟨o,e⟩,o',e'⟩
 ·exact⟨⟨o,e⟩,o',e'⟩
theorem QL {x:Src} {i:Nat} {v:Value} {Q:YA} (q:SrcAt s.heap x i) (hx:x.items[i]?=some v) (hQ:∀h',SrcAt h' x (i+1)->Heap.SameBut x.it s.heap h'->Q v { s with heap:=h' }) :
  wpAny (model prog w) A (Builtin.SmallTypes.nextOf (.ref x.it)) Q E s:=by
 have ne:=q.ne;rcases q with⟨q1,q2⟩|⟨q1,q2⟩
 ·exact wpAny_nextOf_list_item q1 q2 hx λh' i1 sb=>hQ h' (.inl ⟨i1,q2.at λo e=>sb.extBut _ _ ne e⟩) sb
 ·exact Jv q1 q2 hx λh' i1 sb=>hQ h' (.inr ⟨i1,let ⟨o,e,r⟩:=q2;⟨o,sb.extBut _ _ ne e,r⟩⟩) sb
theorem Z7 {x:Src} {i:Nat} {Q:YA} (hh:A.handled=none) (q:SrcAt s.heap x i) (hx:x.items[i]?=none)
  (hE:∀h' e,Heap.ExtBut x.it s.heap h'->(∃o,h'.get? e=some o/\o.cls=.type "StopIteration")->E (.ref e) { s with heap:=h' }):wpAny (model prog w) A (Builtin.SmallTypes.nextOf (.ref x.it)) Q E s:=by
 rcases q with⟨q1,q2⟩|⟨q1,q2⟩
 ·exact wpAny_nextOf_list_end hh q1 q2 hx hE
 ·exact Hl hh q1 q2 hx hE
abbrev IsZ (h:Heap) (z TI TO:Addr) (f0 f1:Value):Prop:=h.get? z=some { cls:=.type "zip",dict:=none,data:=.fields #[f0,f1,.bool false,.ref TI,.ref TO],slots:=#[] }
abbrev Cz (h:Heap) (T:Addr) (xs:YE):Prop:=h.get? T=some { cls:=.type "tuple",data:=.seq xs.toArray }
structure Apart (z TI TO:Addr) (ls:List Src):Prop where
 TIz:TI≠z
 TOz:TO≠z
 TITO:TI≠TO
 it:∀x∈ls,x.it≠z/\x.it≠TI/\x.it≠TO
 a:∀x∈ls,x.a≠z/\x.a≠TO
 ai:∀x∈ls,∀y∈ls,x.a≠y.it
 nd:(ls.map (·.it)).Nodup
def Rest (z TO:Addr) (ls:List Src) (h h':Heap):Prop:=∀c o,c≠z->c≠TO->c∉ls.map (·.it)->h.get? c=some o->h'.get? c=some o
theorem Z8 {xs olds:YE} {k:Nat} {v:Value} (hk:k < olds.length) (hx:xs.length=olds.length) (e:xs[k]?=some v):(xs.take k++olds.drop k).toArray.setIfInBounds k v=(xs.take (k+1)++olds.drop (k+1)).toArray:=by
 rw[List.setIfInBounds_toArray];congr 1;have hl:(xs.take k).length=k:=by rw[Qbd];omega
 rw[List.set_append_right _ _ (by omega),hl,Nat.sub_self,Qah hk,QaI,List.take_add_one,e];simp
structure Mid (z TI TO:Addr) (ls:List Src) (xs olds:YE) (i:Nat) (f0 f1:Value) (h:Heap) (k:Nat) (h':Heap):Prop where
 hz:IsZ h' z TI TO f0 f1
 hTI:Cz h' TI (ls.map λx=>.ref x.it)
 done:∀j x,ls[j]?=some x->SrcAt h' x (if j < k then i+1 else i)
 rest:Rest z TO ls h h'
 size:h'.objs.size=h.objs.size
theorem Mid.draw {z TI TO:Addr} {ls:List Src} {xs olds:YE} {i:Nat} {f0 f1:Value} {h h1 h2:Heap} {k:Nat} {x:Src} (D:Apart z TI TO ls) (m:Mid z TI TO ls xs olds i f0 f1 h k h1) (hx:ls[k]?=some x) (q:SrcAt h2 x (i+1)) (sb:Heap.SameBut x.it h1 h2) :
  Mid z TI TO ls xs olds i f0 f1 h (k+1) h2:=by
 have hm:=Qau hx;have hi:=D.it x hm;refine⟨sb.extBut _ _ hi.1.symm m.hz,sb.extBut _ _ hi.2.1.symm m.hTI,λj y hy=>?_,λc o c1 c2 c3 e=>sb.extBut _ _ (λz=>c3 (z ▸ QbP.mpr ⟨x,hm,rj⟩)) (m.rest c o c1 c2 c3 e),by rw[sb.1,m.size]⟩;by_cases hj:j=k
 ·subst hj;rw[hx] at hy;cases hy;rw[if_pos (Nat.lt_succ_self _)];exact q
 ·have h1:=m.done j y hy;have hne:y.it≠x.it:=λz=>hj (by
   have e1:(ls.map (·.it))[j]?=some y.it:=by rw[QaT,hy];rfl
   have e2:(ls.map (·.it))[k]?=some x.it:=by rw[QaT,hx];rfl
   rw[z] at e1;have l1:=(Qaf.mp e1);have l2:=(Qaf.mp e2);exact (List.getElem_inj D.nd).mp (l1.2.trans l2.2.symm))
  have hc:(if j < k+1 then i+1 else i)=(if j < k then i+1 else i):=by
   by_cases c:j < k
   ·rw[if_pos c,if_pos (by omega)]
   ·rw[if_neg c,if_neg (by omega)]
  rw[hc];exact h1.keep (λo e=>sb.extBut _ _ hne e) (λo e=>sb.extBut _ _ (D.ai y (Qau hy) x hm) e)
theorem Mid.other {z TI TO:Addr} {ls:List Src} {xs olds:YE} {i:Nat} {f0 f1:Value} {h h1 h2:Heap} {k:Nat} (D:Apart z TI TO ls) (m:Mid z TI TO ls xs olds i f0 f1 h k h1) (sb:Heap.SameBut TO h1 h2):Mid z TI TO ls xs olds i f0 f1 h k h2:=by
 refine⟨sb.extBut _ _ D.TOz.symm m.hz,sb.extBut _ _ D.TITO m.hTI,λj y hy=>?_,λc o c1 c2 c3 e=>sb.extBut _ _ c2 (m.rest c o c1 c2 c3 e),by rw[sb.1,m.size]⟩;have hm:=Qau hy;exact (m.done j y hy).keep (λo e=>sb.extBut _ _ (D.it y hm).2.2 e) (λo e=>sb.extBut _ _ (D.a y hm).2 e)
theorem Qj {z TI TO:Addr} {ls:List Src} {xs olds:YE} {i:Nat} {f1:Value} {Q:YA} (D:Apart z TI TO ls) (hz:IsZ s.heap z TI TO .none f1) (hTI:Cz s.heap TI (ls.map λx=>.ref x.it)) (hTO:Cz s.heap TO olds)
  (hat:∀x∈ls,SrcAt s.heap x i) (hne:ls≠[]) (hl1:xs.length=ls.length) (hl2:olds.length=ls.length) (hx:∀(j:Nat) (x:Src),ls[j]?=some x->∃v,xs[j]?=some v/\x.items[i]?=some v) (hsz:ls.length<=100)
  (hQ:∀h',IsZ h' z TI TO (rawInt s.heap.objs.size) (.bool false)->Cz h' TI (ls.map λx=>.ref x.it)->Cz h' TO xs->(∀x∈ls,SrcAt h' x (i+1))->Cz h' s.heap.objs.size xs->h'.objs.size=s.heap.objs.size+1->Rest z TO ls s.heap h'->Q (.ref s.heap.objs.size) { s with heap:=h' }) :
  wpAny (model prog w) A (Builtin.«zip.__next__» ⟨[.ref z],[]⟩) (λfin s'=>∃v,fin=.done (.ret v)/\Q v s') E s:=by
 show wpAny _ _ (field (.ref z) 2 >>= _) _ _ _;refine QbW (QbT hz rfl (x:=.bool false) rfl ?_);show wpAny _ _ (field (.ref z) 3 >>= _) _ _ _;refine QbW (QbT hz rfl (x:=.ref TI) rfl ?_);refine QbW (QbC hTI rfl ?_);dsimp only;rw[if_neg (by cases ls with | nil=>exact absurd rfl hne | cons a r=>simp)];show wpAny _ _ (Builtin.SmallTypes.ownedTupleIsFree (.ref z) >>= _) _ _ _;refine QbW ?_;unfold Builtin.SmallTypes.ownedTupleIsFree;refine QbW (QbT hz rfl (x:=.none) rfl (QbX ?_));simp only[if_true];refine QbW (wpAny_rule ?_);refine QbW (QbT hz rfl (x:=.ref TO) rfl ?_);refine QbW (QaP hz (by simp) λh₁ hz₁ hs₁=>?_);replace hz₁ : IsZ h₁ z TI TO .ellipsis f1:=hz₁;refine QbW ?_;have m0:Mid z TI TO ls xs olds i .ellipsis f1 s.heap 0 h₁:=by
  refine⟨hz₁,hs₁.extBut _ _ D.TIz hTI,λj x hj=>?_,λc o c1 _ _ e=>hs₁.extBut _ _ c1 e,hs₁.1⟩;have hm:=Qau hj;rw[if_neg (Nat.not_lt_zero _)];exact (hat x hm).keep (λo e=>hs₁.extBut _ _ (D.it x hm).1 e) (λo e=>hs₁.extBut _ _ (D.a x hm).1 e)
 have RP : Cz h₁ TO (xs.take 0++olds.drop 0):=hs₁.extBut _ _ D.TOz hTO;refine M5 (λl b s'=>∃k h',k<=ls.length/\l=((ls.map λx=>Value.ref x.it).drop k).zipIdx k/\b=⟨none,⟨⟩⟩/\s'={ s with heap:=h' }/\Mid z TI TO ls xs olds i .ellipsis f1 s.heap k h'/\Cz h' TO (xs.take k++olds.drop k)) (λb s' h=>?_) (λx r b s' h=>?_) _ _ _ ⟨0,h₁,QbS _,rj,rj,rj,m0,RP⟩
 ·obtain⟨k,h',hk,e1,rfl,rfl,m,hT⟩:=h;have hkl:k=ls.length:=by
   have:=congrArg List.length e1;rw[List.length_nil,List.length_zipIdx,Qbh,Qbk] at this;omega
  subst hkl;rw[<-hl1,Qbf,hl1,<-hl2,List.drop_length,Qbs] at hT;dsimp only;refine QbW (QbC hT rfl ?_);refine QbW (wpAny_newTuple ?_ (by show xs.length<=sizeLine;rw[QbV];omega));have hkl:∀j x,ls[j]?=some x->SrcAt h' x (i+1):=λj x hj=>by
   have:=m.done j x hj;rw[if_pos (Qaf.mp hj).1] at this;exact this
  have hzlt:z < h'.objs.size:=QbM m.hz;have hTOlt:TO < h'.objs.size:=QbM hT;show wpAny _ _ (Builtin.SmallTypes.ownedTupleHandOut (.ref z) (.ref h'.objs.size) >>= _) _ _ _;refine QbW ?_;unfold Builtin.SmallTypes.ownedTupleHandOut;have hz₆ : IsZ (h'.push { cls:=.type "tuple",data:=.seq xs.toArray }) z TI TO .ellipsis f1:=Qap _ m.hz;refine QbW (QaP hz₆ (by simp) λh₇ hz₇ hs₇=>?_);replace hz₇ : IsZ h₇ z TI TO (rawInt h'.objs.size) f1:=hz₇;refine QaP hz₇ (by simp) λh₈ hz₈ hs₈=>?_;replace hz₈ : IsZ h₈ z TI TO (rawInt h'.objs.size) (.bool false):=hz₈;have up:∀c o,c≠z->h'.get? c=some o->h₈.get? c=some o:=λc o c1 e=>hs₈.extBut _ _ c1 (hs₇.extBut _ _ c1 (Qap _ e));have hT₈ : Cz h₈ h'.objs.size xs:=hs₈.extBut _ _ (QbQ hzlt) (hs₇.extBut _ _ (QbQ hzlt) (Qaz _ rfl));have hz8:h₈.objs.size=h'.objs.size+1:=by rw[hs₈.1,hs₇.1,QbA]
  have hsz':=m.size;rw[hsz'] at hz₈ hT₈ hz8;refine QbX ⟨_,rj,?_⟩;show Q (.ref h'.objs.size) _;rw[hsz'];refine hQ h₈ hz₈ (up _ _ D.TIz m.hTI) (up _ _ D.TOz hT) (λx hm=>?_) hT₈ hz8 λc o c1 c2 c3 e=>up c o c1 (m.rest c o c1 c2 c3 e);obtain⟨j,hj⟩:=Qax hm;exact (hkl j x hj).keep (λo e=>up _ o (D.it x hm).1 e) (λo e=>up _ o (D.a x hm).1 e)
 ·obtain⟨k,h',hk,e1,rfl,rfl,m,hT⟩:=h;have hkl:k < ls.length:=by
   have:=congrArg List.length e1;rw[Qbe,List.length_zipIdx,Qbh,Qbk] at this;omega
  obtain⟨y,hy⟩ : ∃y,ls[k]?=some y:=⟨_,Qai hkl⟩;have hm:=Qau hy;rw[Qah (by rw[Qbk];exact hkl),List.zipIdx_cons,List.getElem_map] at e1;have ey:ls[k]=y:=(Qaf.mp hy).2;rw[ey] at e1;injection e1 with e1 e2;subst e1 e2;obtain⟨v,hv1,hv2⟩:=hx k y hy;refine QbW (wpAny_onRaise ?_);show wpAny _ _ (Builtin.SmallTypes.nextOf (.ref y.it) >>= _) _ _ _;have q0:=m.done k y hy;rw[if_neg (QbH _)] at q0;refine QbW (QL q0 hv2 λh2 q2 sb2=>QbX ?_);have m2:=m.draw D hy q2 sb2;have hT2:Cz h2 TO (xs.take k++olds.drop k):=sb2.extBut _ _ (D.it y hm).2.2.symm hT;have hln:(xs.take k++olds.drop k).length<=100:=by rw[QaF,Qbd,Qbh];omega
  have hsm:=Z8 (xs:=xs) (olds:=olds) (k:=k) (v:=v) (by omega) (by omega) hv1;refine QbW (QbC hT2 rfl ?_);refine QbW (wpAny_updateSeq hT2 rfl ?_ (by rw[QaS,QbV];omega) (by rw[hsm,QaS,QbV,QaF,Qbd,Qbh];omega));have sb3:Heap.SameBut TO h2 (h2.update TO (Obj.mapSeq λx=>x.setIfInBounds k v)):=Heap.SameBut.update ..;have hT3:Cz (h2.update TO (Obj.mapSeq λx=>x.setIfInBounds k v)) TO (xs.take (k+1)++olds.drop (k+1)):=by
   show (h2.update TO _).get? TO=_;rw[Heap.get?_update_self _ hT2 rfl,<-hsm];simp[Obj.mapSeq]
  refine QbW (wpAny_letGo (QbX ?_));exact⟨k+1,_,hkl,rj,rj,rj,m2.other D sb3,hT3⟩
theorem QD {z TI TO:Addr} {ls:List Src} {olds:YE} {i:Nat} {f1:Value} {Q:Fin->Shared->Prop} (hh:A.handled=none) (D:Apart z TI TO ls) (hz:IsZ s.heap z TI TO .none f1) (hTI:Cz s.heap TI (ls.map λx=>.ref x.it)) (hTO:Cz s.heap TO olds)
  (hat:∀x∈ls,SrcAt s.heap x i) (hne:ls≠[]) (hl2:olds.length=ls.length) (hsz:ls.length<=100) (hend:∃x∈ls,x.items[i]?=none)
  (hE:∀h' e,Rest z TO ls s.heap h'->(∃o,h'.get? e=some o/\o.cls=.type "StopIteration")->E (.ref e) { s with heap:=h' }) :
  wpAny (model prog w) A (Builtin.«zip.__next__» ⟨[.ref z],[]⟩) Q E s:=by
 show wpAny _ _ (field (.ref z) 2 >>= _) _ _ _;refine QbW (QbT hz rfl (x:=.bool false) rfl ?_);show wpAny _ _ (field (.ref z) 3 >>= _) _ _ _;refine QbW (QbT hz rfl (x:=.ref TI) rfl ?_);refine QbW (QbC hTI rfl ?_);dsimp only;rw[if_neg (by cases ls with | nil=>exact absurd rfl hne | cons a r=>simp)];show wpAny _ _ (Builtin.SmallTypes.ownedTupleIsFree (.ref z) >>= _) _ _ _;refine QbW ?_;unfold Builtin.SmallTypes.ownedTupleIsFree;refine QbW (QbT hz rfl (x:=.none) rfl (QbX ?_));simp only[if_true];refine QbW (wpAny_rule ?_);refine QbW (QbT hz rfl (x:=.ref TO) rfl ?_);refine QbW (QaP hz (by simp) λh₁ hz₁ hs₁=>?_);replace hz₁ : IsZ h₁ z TI TO .ellipsis f1:=hz₁;refine QbW ?_;have m0:Mid z TI TO ls [] olds i .ellipsis f1 s.heap 0 h₁:=by
  refine⟨hz₁,hs₁.extBut _ _ D.TIz hTI,λj x hj=>?_,λc o c1 _ _ e=>hs₁.extBut _ _ c1 e,hs₁.1⟩;have hm:=Qau hj;rw[if_neg (Nat.not_lt_zero _)];exact (hat x hm).keep (λo e=>hs₁.extBut _ _ (D.it x hm).1 e) (λo e=>hs₁.extBut _ _ (D.a x hm).1 e)
 have RP : Cz h₁ TO olds:=hs₁.extBut _ _ D.TOz hTO;refine M5 (λl b s'=>∃k h' ys,k<=ls.length/\l=((ls.map λx=>Value.ref x.it).drop k).zipIdx k/\b=⟨none,⟨⟩⟩/\s'={ s with heap:=h' }/\Mid z TI TO ls [] olds i .ellipsis f1 s.heap k h'/\Cz h' TO ys/\ys.length=ls.length/\∃x∈ls.drop k,x.items[i]?=none) (λb s' h=>?_) (λx r b s' h=>?_) _ _ _ ⟨0,h₁,olds,QbS _,rj,rj,rj,m0,RP,hl2,hend⟩
 ·obtain⟨k,h',ys,hk,e1,rfl,rfl,m,hT,hy,x,hx,_⟩:=h;have:k=ls.length:=by
   have:=congrArg List.length e1;rw[List.length_nil,List.length_zipIdx,Qbh,Qbk] at this;omega
  subst this;rw[List.drop_length] at hx;cases hx
 ·obtain⟨k,h',ys,hk,e1,rfl,rfl,m,hT,hys,xe,hxe,hxn⟩:=h;have hkl:k < ls.length:=by
   have:=congrArg List.length e1;rw[Qbe,List.length_zipIdx,Qbh,Qbk] at this;omega
  obtain⟨y,hy⟩ : ∃y,ls[k]?=some y:=⟨_,Qai hkl⟩;have hm:=Qau hy;rw[Qah (by rw[Qbk];exact hkl),List.zipIdx_cons,List.getElem_map] at e1;have ey:ls[k]=y:=(Qaf.mp hy).2;rw[ey] at e1;injection e1 with e1 e2;subst e1 e2;refine QbW (wpAny_onRaise ?_);show wpAny _ _ (Builtin.SmallTypes.nextOf (.ref y.it) >>= _) _ _ _;have q0:=m.done k y hy;rw[if_neg (QbH _)] at q0;cases hv:y.items[i]? with
  | none=>
   refine QbW (Z7 hh q0 hv λh₂ e hs₂ he=>?_);obtain⟨oe,hoe,hce⟩:=he;have hz₂ : IsZ h₂ z TI TO .ellipsis f1:=hs₂ _ _ (D.it y hm).1.symm m.hz;have hez:e≠z:=λx=>by subst x;rw[hz₂] at hoe;cases hoe;simp at hce
   refine QaP hz₂ (by simp) λh₃ _ hs₃=>hE h₃ e (λc o c1 c2 c3 x=>hs₃.extBut _ _ c1 (hs₂ _ _ (λq=>c3 (q ▸ QbP.mpr ⟨y,hm,rj⟩)) (m.rest c o c1 c2 c3 x))) ⟨oe,hs₃.extBut _ _ hez hoe,hce⟩
  | some v=>
   refine QbW (QL q0 hv λh2 q2 sb2=>QbX ?_);have m2:=m.draw D hy q2 sb2;have hT2:Cz h2 TO ys:=sb2.extBut _ _ (D.it y hm).2.2.symm hT;refine QbW (QbC hT2 rfl ?_);refine QbW (wpAny_updateSeq hT2 rfl ?_ (by rw[QaS,QbV];omega) (by rw[Array.size_setIfInBounds,QaS,QbV];omega));have sb3:Heap.SameBut TO h2 (h2.update TO (Obj.mapSeq λx=>x.setIfInBounds k v)):=Heap.SameBut.update ..;have hT3:Cz (h2.update TO (Obj.mapSeq λx=>x.setIfInBounds k v)) TO (ys.set k v):=by
    show (h2.update TO _).get? TO=_;rw[Heap.get?_update_self _ hT2 rfl,<-List.setIfInBounds_toArray];simp[Obj.mapSeq]
   refine QbW (wpAny_letGo (QbX ?_));refine⟨k+1,_,ys.set k v,hkl,rj,rj,rj,m2.other D sb3,hT3,by rw[List.length_set];exact hys,xe,?_,hxn⟩;rw[Qah hkl,ey] at hxe;rcases QbD.mp hxe with z | z
   ·subst z;rw[hv] at hxn;cases hxn
   ·exact z
theorem Ve {z TI TO:Addr} {f0 f1:Value} {Q:Option Value->Shared->Prop} (hz:IsZ s.heap z TI TO f0 f1) {Qi:YA} (h:wpAny (model prog w) A.in1 (Builtin.«zip.__next__» ⟨[.ref z],[]⟩) (λfin s'=>∃v,fin=.done (.ret v)/\Qi v s') (λ_ _=>False) s) (hQ:∀v s',Qi v s'->Q (some v) s') :
  wpAny (model prog w) A (pyNext (.ref z)) Q E s:=by
 have hT:s.TypeIs (.ref z) "zip":=⟨_,hz,rj⟩;unfold pyNext;refine QbW (wpAny_attempt (Qam (name:=Str.ofString "__next__") hT F.slot_zip_next (Qbi F.slot_zip_next hT F.entry_zip_next (QbY h (λfin s' q=>?_) λ_ _ f=>f.elim) (F.args_zip_next_1 _))));obtain⟨v,e,q⟩:=q;exact⟨v,e,QbX (hQ v s' q)⟩
theorem Oi {z TI TO:Addr} {f0 f1:Value} {Q:Option Value->Shared->Prop} {R:Heap->Prop} (hz:IsZ s.heap z TI TO f0 f1)
  (h:wpAny (model prog w) A.in1 (Builtin.«zip.__next__» ⟨[.ref z],[]⟩) (λ_ _=>False) (λv s'=>∃h' e,v=.ref e/\s'={ s with heap:=h' }/\R h'/\∃o,h'.get? e=some o/\o.cls=.type "StopIteration") s) (hQ:∀h',R h'->Q none { s with heap:=h' }) :
  wpAny (model prog w) A (pyNext (.ref z)) Q E s:=by
 have hT:s.TypeIs (.ref z) "zip":=⟨_,hz,rj⟩;unfold pyNext;refine QbW (wpAny_attempt (Qam (name:=Str.ofString "__next__") hT F.slot_zip_next (Qbi F.slot_zip_next hT F.entry_zip_next (QbY h (λ_ _ f=>f.elim) λv s' q=>?_) (F.args_zip_next_1 _))));obtain⟨h',e,rfl,rfl,r,o,ho,hc⟩:=q;exact QbW (wpAny_isInstance (T:="StopIteration") (b:=true) ⟨o,ho,hc⟩ isSubtype_stop (QbX (hQ _ r)))
theorem Nt {z TI TO:Addr} {f0 f1:Value} {Q:YA} (hz:IsZ s.heap z TI TO f0 f1) (h:Q (.ref z) s):wpAny (model prog w) A (pyIter (.ref z)) Q E s:=by
 have hT:s.TypeIs (.ref z) "zip":=⟨_,hz,rj⟩;refine wpAny_pyIter_slot hT F.slot_zip_iter (Qbi F.slot_zip_iter hT F.entry_zip_iter ?_ (F.args_zip_iter_1 _));show wpAny _ _ (ret (.ref z)) _ _ s;exact QbX ⟨_,rj,"zip",_,hT,F.slot_zip_next.lookup,h⟩
theorem W2 {elts:YJ} {x1} {pos:Pos} {z TI TO T:Addr} {f1:Value} {Q:YH} (hz:IsZ s.heap z TI TO (rawInt T) f1)
  (hQ:∀h',IsZ h' z TI TO .none f1->Heap.SameBut z s.heap h'->Q () { s with heap:=h' }):wpAny (model prog w) A (letOwnedTupleGo (.Tuple elts x1 pos) (.ref z) (.ref T)) Q E s:=by
 unfold letOwnedTupleGo;refine QbW (wpAny_load hz ?_);show wpAny _ _ (if (["enumerate","zip","dict_itemiterator","dict_reverseitemiterator","odict_iterator","itertools.zip_longest","itertools.pairwise"].contains "zip" &&
   (#[rawInt T,f1,.bool false,.ref TI,.ref TO]:Array Value)[0]? == some (rawInt T))=true then _ else _) Q E s
 rw[if_pos (by simp)];refine QbW (wpAny_rule ?_);show wpAny _ _ (setField (.ref z) 0 .none) Q E s;exact QaP hz (by simp) λh' hz' hs'=>hQ h' hz' hs'
end
end PySem.ZZ
namespace PySem
namespace F
end F
end PySem
namespace PySem.ZZ
open PySem
def Lg (h:Heap) (a:Addr) (xs:Array Value) (c:String):Prop:=(c="list_iterator"/\h.IsList a xs)\/(c="tuple_iterator"/\h.IsTuple a xs)
theorem Lg.src {h h':Heap} {a it:Addr} {xs:Array Value} {c:String} (q:Lg h a xs c) (k:∀o,h.get? a=some o->h'.get? a=some o) (e:h'.get? it=some { cls:=.type c,data:=.fields #[.ref a,.int 0 0] }):SrcAt h' ⟨it,a,xs⟩ 0:=by
 rcases q with⟨rfl,q⟩|⟨rfl,o,ho,r⟩
 ·exact .inl ⟨⟨_,e,rj,rj⟩,q.at k⟩
 ·exact .inr ⟨⟨_,e,rj,rj⟩,o,k o ho,r⟩
theorem Lg.lt {h:Heap} {a:Addr} {xs:Array Value} {c:String} (q:Lg h a xs c):a < h.objs.size:=by
 rcases q with⟨rfl,o,e,_⟩|⟨rfl,o,e,_⟩
 ·exact QbM e
 ·exact QbM e
abbrev itO (c:String) (l:Addr):Obj:={ cls:=.type c,data:=.fields #[.ref l,.int 0 0] }
abbrev tuO (xs:Array Value):Obj:={ cls:=.type "tuple",data:=.seq xs }
abbrev z2a (h:Heap) (c1 c2:String) (l1 l2:Addr):Heap:=((((h.push (itO c1 l1)).push (itO c2 l2)).push (tuO #[.ref h.objs.size,.ref (h.push (itO c1 l1)).objs.size])).push (tuO #[.none,.none]))
abbrev z2 (h:Heap) (c1 c2:String) (l1 l2:Addr):Heap:=(z2a h c1 c2 l1 l2).push
 { cls:=.type "zip",data:=.fields #[.none,.bool false,.bool false,.ref ((h.push (itO c1 l1)).push (itO c2 l2)).objs.size,.ref (((h.push (itO c1 l1)).push (itO c2 l2)).push (tuO #[.ref h.objs.size,.ref (h.push (itO c1 l1)).objs.size])).objs.size] }
theorem Vs (l1 l2:Addr) (xs ys:Array Value) (c1 c2:String):Meets (Builtin.«zip.__new__» ⟨[.type "zip",.ref l1,.ref l2],[]⟩) (λ_ R s=>Lg s.heap l1 xs c1/\Lg s.heap l2 ys c2/\R (.ok (.ret (.ref (z2a s.heap c1 c2 l1 l2).objs.size))) { s with heap:=z2 s.heap c1 c2 l1 l2 }):=
 .of_wp λprog w A R s h=>by
  obtain⟨hp,g,d,tk,os⟩:=s;obtain⟨hl1,hl2,h⟩:=h;have hsub:=sub_zip;rcases hl1 with⟨rfl,hl1⟩|⟨rfl,hl1⟩
  ·have hL1:Heap.IsList (Shared.heap ⟨hp,g,d,tk,os⟩) l1 xs:=hl1;rcases hl2 with⟨rfl,hl2⟩|⟨rfl,hl2⟩
   ·have hL2:Heap.IsList (Shared.heap ⟨hp.push (itO "list_iterator" l1),g,d,tk,os⟩) l2 ys:=Heap.IsList.push hl2 _
    wp_walk using Qbb hL1,Qbb hL2
    exact⟨_,rj,h⟩
   ·have hL2:Heap.IsTuple (Shared.heap ⟨hp.push (itO "list_iterator" l1),g,d,tk,os⟩) l2 ys:=Heap.IsTuple.push hl2 _
    wp_walk using Qbb hL1,QaN hL2
    exact⟨_,rj,h⟩
  ·have hL1:Heap.IsTuple (Shared.heap ⟨hp,g,d,tk,os⟩) l1 xs:=hl1;rcases hl2 with⟨rfl,hl2⟩|⟨rfl,hl2⟩
   ·have hL2:Heap.IsList (Shared.heap ⟨hp.push (itO "tuple_iterator" l1),g,d,tk,os⟩) l2 ys:=Heap.IsList.push hl2 _
    wp_walk using QaN hL1,Qbb hL2
    exact⟨_,rj,h⟩
   ·have hL2:Heap.IsTuple (Shared.heap ⟨hp.push (itO "tuple_iterator" l1),g,d,tk,os⟩) l2 ys:=Heap.IsTuple.push hl2 _
    wp_walk using QaN hL1,QaN hL2
    exact⟨_,rj,h⟩
abbrev z3a (h:Heap) (c1 c2 c3:String) (l1 l2 l3:Addr):Heap:=(((((h.push (itO c1 l1)).push (itO c2 l2)).push (itO c3 l3)).push (tuO #[.ref h.objs.size,.ref (h.push (itO c1 l1)).objs.size,.ref ((h.push (itO c1 l1)).push (itO c2 l2)).objs.size])).push (tuO #[.none,.none,.none]))
abbrev z3 (h:Heap) (c1 c2 c3:String) (l1 l2 l3:Addr):Heap:=(z3a h c1 c2 c3 l1 l2 l3).push
 { cls:=.type "zip",data:=.fields #[.none,.bool false,.bool false,.ref (((h.push (itO c1 l1)).push (itO c2 l2)).push (itO c3 l3)).objs.size,.ref ((((h.push (itO c1 l1)).push (itO c2 l2)).push (itO c3 l3)).push (tuO #[.ref h.objs.size,.ref (h.push (itO c1 l1)).objs.size,.ref ((h.push (itO c1 l1)).push (itO c2 l2)).objs.size])).objs.size] }
structure gD (h:Heap) (z TI TO:Addr) (ls:List Src) (h':Heap):Prop where
 hz:IsZ h' z TI TO .none (.bool false)
 hTI:Cz h' TI (ls.map λx=>.ref x.it)
 hTO:Cz h' TO (ls.map λ_=>.none)
 at_:∀x∈ls,SrcAt h' x 0
 ap:Apart z TI TO ls
 new:h.objs.size<=z/\h.objs.size<=TI/\h.objs.size<=TO/\∀x∈ls,h.objs.size<=x.it
 keep:∀c o,h.get? c=some o->h'.get? c=some o
theorem na {a b:Nat} (h:a≠b):@Ne Addr a b:=h
theorem apart2 {n l1 l2:Nat} {xs ys:Array Value} (a1:l1 < n) (a2:l2 < n):Apart (n+1+1+1+1:Nat) (n+1+1:Nat) (n+1+1+1:Nat) [⟨n,l1,xs⟩,⟨(n+1:Nat),l2,ys⟩]:=by
 refine⟨na (by omega),na (by omega),na (by omega),λx hx=>?_,λx hx=>?_,λx hx y hy=>?_,?_⟩
 ·rcases QbD.mp hx with rfl | hx
  ·exact⟨na (by dsimp only;omega),na (by dsimp only;omega),na (by dsimp only;omega)⟩
  ·cases QaM.mp hx;exact⟨na (by dsimp only;omega),na (by dsimp only;omega),na (by dsimp only;omega)⟩
 ·rcases QbD.mp hx with rfl | hx
  ·exact⟨na (by dsimp only;omega),na (by dsimp only;omega)⟩
  ·cases QaM.mp hx;exact⟨na (by dsimp only;omega),na (by dsimp only;omega)⟩
 ·rcases QbD.mp hx with rfl | hx
  ·rcases QbD.mp hy with rfl | hy
   ·exact na (by dsimp only;omega)
   ·cases QaM.mp hy;exact na (by dsimp only;omega)
  ·cases QaM.mp hx;rcases QbD.mp hy with rfl | hy
   ·exact na (by dsimp only;omega)
   ·cases QaM.mp hy;exact na (by dsimp only;omega)
 ·show List.Nodup ([n,n+1]:List Nat);simp
section
variable {prog:Program} {w:World} {A:Around} {E:YA} {s:Shared}
theorem Xw {l1 l2:Addr} {xs ys:Array Value} {c1 c2:String} {Q:YA} (hl1:Lg s.heap l1 xs c1) (hl2:Lg s.heap l2 ys c2)
  (h:∀h' z TI TO i1 i2,gD s.heap z TI TO [⟨i1,l1,xs⟩,⟨i2,l2,ys⟩] h'->Q (.ref z) { s with heap:=h' }):wpAny (model prog w) A (call (.type "zip") [.ref l1,.ref l2]) Q E s:=by
 refine callType_new F.called_zip (by decide) (F.typeCall_zip_2 _ _) (F.newCall_zip_2 _ _) (λobj=>F.args_object_init_3 obj _ _) F.entry_zip_new (Vs l1 l2 xs ys c1 c2) ⟨hl1,hl2,?_⟩;have g5:(z2 s.heap c1 c2 l1 l2).get? (z2a s.heap c1 c2 l1 l2).objs.size=some _:=Qaz _ rfl;have g4:(z2 s.heap c1 c2 l1 l2).get? (((s.heap.push (itO c1 l1)).push (itO c2 l2)).push (tuO #[.ref s.heap.objs.size,.ref (s.heap.push (itO c1 l1)).objs.size])).objs.size=some (tuO #[.none,.none]):=Qap _ (Qaz _ rfl);have g3:(z2 s.heap c1 c2 l1 l2).get? ((s.heap.push (itO c1 l1)).push (itO c2 l2)).objs.size=some (tuO #[.ref s.heap.objs.size,.ref (s.heap.push (itO c1 l1)).objs.size]):=Qap _ (Qap _ (Qaz _ rfl));have g2:(z2 s.heap c1 c2 l1 l2).get? (s.heap.push (itO c1 l1)).objs.size=some (itO c2 l2):=Qap _ (Qap _ (Qap _ (Qaz _ rfl)));have g1:(z2 s.heap c1 c2 l1 l2).get? s.heap.objs.size=some (itO c1 l1):=Qap _ (Qap _ (Qap _ (Qap _ (Qaz _ rfl))));have kp:∀c o,s.heap.get? c=some o->(z2 s.heap c1 c2 l1 l2).get? c=some o:=λc o x=>Qap _ (Qap _ (Qap _ (Qap _ (Qap _ x))));have a1:=hl1.lt;have a2:=hl2.lt;refine⟨⟨_,g5,rj⟩,h _ _ _ _ s.heap.objs.size (s.heap.push (itO c1 l1)).objs.size ⟨g5,g3,g4,?_,?_,?_,kp⟩⟩
 ·intro x hx;rcases QbD.mp hx with rfl | hx
  ·exact hl1.src (λo e=>kp _ _ e) g1
  ·rcases QbD.mp hx with rfl | hx
   ·exact hl2.src (λo e=>kp _ _ e) g2
   ·cases hx
 ·simp only[QbA];exact apart2 a1 a2
 ·simp only[QbA,QbD,Qbg,Qcb,forall_eq_or_imp,forall_eq];omega
end
end PySem.ZZ
namespace PySem
namespace F
end F
end PySem
namespace PySem.ZZ
open PySem
section
variable {prog:Program} {w:World} {A:Around} {E:YA} {s:Shared}
structure Run (hb:Heap) (z TI TO:Addr) (ls:List Src) (rows:Nat->YE) (S:Addr) (ts:List Addr) (h:Heap):Prop where
 inc:ts.Pairwise (· < ·)
 lo:∀t∈ts,S < t/\t < h.objs.size
 at_:∀j t,ts[j]?=some t->Cz h t (rows j)
 keep:∀c o,hb.get? c=some o->h.get? c=some o
 hTI:Cz h TI (ls.map λx=>.ref x.it)
 hTO:∃olds,Cz h TO olds/\olds.length=ls.length
 src:∀x∈ls,SrcAt h x ts.length
 hz:(ts=[]/\IsZ h z TI TO .none (.bool false))\/∃(T:Addr) (f1:Value),ts[0]?=some T/\IsZ h z TI TO (rawInt T) f1
structure Below (hb:Heap) (z TI TO:Addr) (ls:List Src) (S:Addr):Prop where
 ap:Apart z TI TO ls
 old:hb.objs.size<=z/\hb.objs.size<=TI/\hb.objs.size<=TO/\∀x∈ls,hb.objs.size<=x.it
 lz:z < S
 lTI:TI < S
 lTO:TO < S
 it:∀x∈ls,x.it < S/\x.a < S
 base:hb.objs.size<=S
theorem Run.frame {hb:Heap} {z TI TO:Addr} {ls:List Src} {rows:Nat->YE} {S:Addr} {ts:List Addr} {h h':Heap} (B:Below hb z TI TO ls S) (r:Run hb z TI TO ls rows S ts h) (hs:h'.objs.size=h.objs.size) (k:∀c o,c≠S->h.get? c=some o->h'.get? c=some o):Run hb z TI TO ls rows S ts h':=by
 obtain⟨olds,o1,o2⟩:=r.hTO;refine⟨r.inc,λt ht=>by rw[hs];exact r.lo t ht,λj t e=>k _ _ (QbQ (r.lo t (Qau e)).1) (r.at_ j t e),λc o e=>k _ _ (QbN (QaL (QbM e) B.base)) (r.keep c o e),k _ _ (QbN B.lTI) r.hTI,⟨olds,k _ _ (QbN B.lTO) o1,o2⟩,λx hx=>?_,?_⟩
 ·exact (r.src x hx).keep (λo e=>k _ _ (QbN (B.it x hx).1) e) (λo e=>k _ _ (QbN (B.it x hx).2) e)
 ·rcases r.hz with⟨e,q⟩|⟨T,f1,e,q⟩
  ·exact .inl ⟨e,k _ _ (QbN B.lz) q⟩
  ·exact .inr ⟨T,f1,e,k _ _ (QbN B.lz) q⟩
theorem Run.more {hb:Heap} {z TI TO:Addr} {ls:List Src} {rows:Nat->YE} {S:Addr} {ts:List Addr} {h h':Heap} (B:Below hb z TI TO ls S) (r:Run hb z TI TO ls rows S ts h) (hS:S < h.objs.size) (hs:h'.objs.size=h.objs.size+1) (hr:Rest z TO ls h h')
  (hTI:Cz h' TI (ls.map λx=>.ref x.it)) (hTO:∃olds,Cz h' TO olds/\olds.length=ls.length) (src:∀x∈ls,SrcAt h' x (ts.length+1)) (new:Cz h' h.objs.size (rows ts.length)) (hz:∃(T:Addr) (f1:Value),(ts++[h.objs.size])[0]?=some T/\IsZ h' z TI TO (rawInt T) f1):Run hb z TI TO ls rows S (ts++[h.objs.size]) h':=by
 have fr:∀t,S < t->t≠z/\t≠TO/\t∉ls.map (·.it):=λt ht=>⟨λe=>by rw[e] at ht;exact Nat.lt_asymm ht B.lz,λe=>by rw[e] at ht;exact Nat.lt_asymm ht B.lTO,λe=>by
  obtain⟨x,hx,e'⟩:=QbP.mp e;rw[<-e'] at ht;exact Nat.lt_asymm ht (B.it x hx).1⟩
 refine⟨?_,λt ht=>?_,λj t e=>?_,λc o e=>?_,hTI,hTO,λx hx=>by rw[QaF];exact src x hx,.inr hz⟩
 ·exact List.pairwise_append.mpr ⟨r.inc,List.pairwise_singleton _ _,λa ha b hb'=>by
   have:b=h.objs.size:=by simpa using hb'
   rw[this];exact (r.lo a ha).2⟩
 ·rw[hs];rcases Qbm.mp ht with ht | ht
  ·have:=r.lo t ht;exact⟨this.1,Nat.lt_succ_of_lt this.2⟩
  ·have:t=h.objs.size:=by simpa using ht
   rw[this];exact⟨hS,Nat.lt_succ_self _⟩
 ·by_cases c:j < ts.length
  ·rw[List.getElem?_append_left c] at e;have hlo:=r.lo t (Qau e);obtain⟨f1,f2,f3⟩:=fr t hlo.1;exact hr t _ f1 f2 f3 (r.at_ j t e)
  ·rw[List.getElem?_append_right (Nat.le_of_not_lt c)] at e;have hj:j - ts.length=0:=by
    have:=(Qaf.mp e).1;rw[Qat] at this;omega
   rw[hj] at e;cases e;have:j=ts.length:=by omega
   rw[this];exact new
 ·have hlt:=QbM e;refine hr c o (λq=>?_) (λq=>?_) (λq=>?_) (r.keep c o e)
  ·rw[q] at hlt;exact absurd hlt (Nat.not_lt.mpr B.old.1)
  ·rw[q] at hlt;exact absurd hlt (Nat.not_lt.mpr B.old.2.2.1)
  ·obtain⟨x,hx,e'⟩:=QbP.mp q;rw[<-e'] at hlt;exact absurd hlt (Nat.not_lt.mpr (B.old.2.2.2 x hx))
end
end PySem.ZZ
namespace PySem.ZZ
open PySem
section
variable {prog:Program} {w:World} {A:Around} {E:YA} {s:Shared}
structure Rows (ls:List Src) (n:Nat) (rows:Nat->YE):Prop where
 row:∀j,j < n->(rows j).length=ls.length/\∀(k:Nat) (x:Src),ls[k]?=some x->∃v,(rows j)[k]?=some v/\x.items[j]?=some v
 stop:∃x∈ls,x.items[n]?=none
 ne:ls≠[]
 few:ls.length<=100
 most:n<=1000
end
end PySem.ZZ
namespace L2
open PySem PySem.Spec PyProof.Rows
section
variable {X:Cx} {jb:YC} {U : St} {H:Hp} {s:Shared} {h':Heap}
end
section
variable {X:Cx}
end
section
variable {X:Cx}
end
section
variable {X:Cx} {tg:Expr}
end
theorem KC:∀{xs:YG} {us:YE},Vals xs us->Vals xs.reverse us.reverse
 | _,_,.nil=>.nil
 | _,_,.cons (l₁:=l) (l₂:=m) h t=>by
  rw[List.reverse_cons,List.reverse_cons];exact (KC t).append (.cons h .nil)
section
variable {X:Cx} {e:Expr} {k:Expr} {te:TE} {tk:TO} {p2 pos:Pos}
end
theorem Fg {h:Heap} {p q:Addr} {o o':Obj} (e:h.get? p=some o) (e':h.get? q=some o') (n:o.cls≠o'.cls):p≠q:=λz=>by
 rw[z,e'] at e;cases e;exact n rfl
theorem Ho {h:Heap} {a:Addr} {xs ys:Array Value} (h1:h.IsList a xs) (h2:h.IsTuple a ys):False:=by
 obtain⟨o,e,c,_⟩:=h1;obtain⟨o',e',c',_⟩:=h2;rw[e'] at e;cases e;rw[c'] at c;injection c with q;exact absurd q (by decide)
section
variable {X:Cx}
end
mutual
inductive Kr (K:YD) (H:Hp):V->PyData->Prop
 | non:Kr K H .non .none
 | bl (b:Bool):Kr K H (.bl b) (.bool b)
 | int (i:Int):Kr K H (.int i) (.int i)
 | str (x:Str):Kr K H (.str x) (.str x)
 | tup {a:Addr} {xs:YG} {ds:List PyData}:SqT K H a xs->Hg K H xs ds->Kr K H (.ref a) (.tuple ds)
inductive Hg (K:YD) (H:Hp):YG->List PyData->Prop
 | nil:Hg K H [] []
 | cons {x:V} {d:PyData} {xs:YG} {ds:List PyData}:Kr K H x d->Hg K H xs ds->Hg K H (x::xs) (d::ds)
end
section
variable {X:Cx} {jb:YC} {U : St} {H:Hp} {s:Shared}
mutual
theorem Kr.reads (I:Inv X jb U H s):∀{v:V} {d:PyData} {u:Value},Kr X.K H v d->RelV v u->∃as,Reads s.heap u d as
 | _,_,_,.non,r=>by cases (show _=Value.none from r);exact⟨_,.none⟩
 | _,_,_,.bl b,r=>by cases (show _=Value.bool b from r);exact⟨_,.bool b⟩
 | _,_,_,.int i,r=>by obtain⟨t,rfl⟩:=(show ∃t,_=Value.int i t from r);exact⟨_,.int i t⟩
 | _,_,_,.str x,r=>by obtain⟨t,rfl⟩:=(show ∃t,_=Value.str x t from r);exact⟨_,.str x t⟩
 | _,_,_,.tup (a:=a) (xs:=xs) e q,r=>by
  cases (show _=Value.ref a from r)
  obtain⟨its,rv,⟨o,ho,hc,n,hd⟩,_⟩:=I.tuple e;obtain⟨as,z⟩:=Hg.reads I q rv;exact⟨_,.tuple ho hc hd (by simpa using z)⟩
theorem Hg.reads (I:Inv X jb U H s):∀{xs:YG} {ds:List PyData} {us:YE},Hg X.K H xs ds->Vals xs us->∃as,ReadsAll s.heap us ds as
 | _,_,_,.nil,.nil=>⟨_,.nil⟩
 | _,_,_,.cons p q,.cons r t=>by
  obtain⟨as,a1⟩:=Kr.reads I p r;obtain⟨bs,b1⟩:=Hg.reads I q t;exact⟨_,.cons a1 b1⟩
end
end
section
variable {X:Cx} {K:YD}
theorem Oo {es:YJ} {k:Nat} {pos:Pos} {t:TGs} {n:Nat} (hK:X.K=K) (hc:X.calm=true) (h:PGs X es t)
  (hn:(assignEach es X.env).length=n:=by rfl) (hst:(assignEach es X.env).findIdx? (·.1)=none:=by rfl):PG X (.Tuple es k pos) (dW K n t):=hK ▸ Fz hc h hn hst
end
end L2
namespace L2
open PySem PySem.Spec PyProof.Rows
abbrev Zx:YE:=[.type "ValueError",.type "Exception",.type "BaseException",.type "object"]
structure XCl (K:YD) (C:Addr):Prop where
 ex:PySem.W.excIn K C Zx "ValueError.__new__"=true
 ga:findIn K (.ref C) "__getattribute__"=some (some (.builtin "BaseException.__getattribute__"))
 gn:findIn K (.ref C) "__getattr__"=some none
 ca:findIn K (.ref C) "__class__"=some (some (.builtin "object.__class__"))
 mo:PySem.W.subIn K (.ref C) (.type "object")=some true
 mb:PySem.W.subIn K (.ref C) (.type "BaseException")=some true
 kp:keepIn K (.ref C)=true
section
variable {K:YD} {C:Addr}
theorem XCl.look (T:XCl K C):∃dd cd sl,K.lookup C=some ⟨.type "type",dd,.cls cd,sl⟩:=by
 have q:=T.ex;unfold PySem.W.excIn at q;split at q
 ·rename_i dd cd sl ho;exact⟨dd,cd,sl,ho⟩
 ·cases q
theorem XCl.obj (T:XCl K C) {h:Heap} (X:K.In h):∃bm N nm q bs hdct sn sub ab col dd k0 k1 k2 k3 k5 mN,h.get? C=some (excClassObj nm q C N bs bm hdct sn sub ab col dd k0 k1 k2 k3 k5 "ValueError.__new__")/\h.Ns N mN/\mN "__init__"=none/\OwnTail h Zx bm:=by
 have q:=T.ex;unfold PySem.W.excIn at q;split at q
 ·rename_i dd cd sl ho;split at q
  ·rename_i C' bm k0 k1 k2 k3 n k5 hm hs;simp only[Qbc,beq_iff_eq,Bool.not_eq_true'] at q;obtain⟨⟨⟨⟨⟨rfl,rfl⟩,hdel⟩,ht⟩,hok⟩,hni⟩:=q;obtain⟨nm,bs,mro,ns,qn,hd,sn,sub,ab,col,del⟩:=cd;dsimp only at hm hdel hok hni;subst hm hdel;have hsl:sl=#[k0,k1,k2,k3,some (.builtin "ValueError.__new__"),k5]:=by
    obtain⟨l⟩:=sl;simp only at hs;rw[hs]
   subst hsl;exact⟨bm,ns,nm,qn,bs,hd,sn,sub,ab,col,dd,k0,k1,k2,k3,k5,_,X _ _ ho,.of_isNs (PySem.W.isNs_of_in X hok),PySem.W.nsMap_none_of_in X hok hni,PySem.W.tail_of_in X ht⟩
  ·cases q
 ·cases q
end
def XAt (a C:Addr) (h:Heap):Prop:=∃o vs,h.get? a=some o/\o.cls=.ref C/\o.data=.fields vs/\vs[2]?=some .none
section
variable {prog:Program} {w:World} {A:Around} {E:YA} {h:Heap} {g:Array GenState} {d:Drawn} {t:Nat} {os:OsState} {K:YD} {a C:Addr} {o:Obj}
end
section
variable {X:Cx} {jb:YC} {U : St} {H:Hp} {s:Shared}
end
def XT (B:Heap) (e C:Addr) (fl:Option Value) (h:Heap):Prop:=
 ∃oe vs,h.get? e=some oe/\oe.cls=.ref C/\oe.data=.fields vs/\vs[2]?=some .none /\
  match fl with
  | none=>vs[1]?=some .none
  | some f=>∃T oT ts,vs[1]?=some (.ref T)/\B.get? T=none/\T≠e/\h.get? T=some oT/\oT.data=.fields ts/\ts[3]?=some f
structure Fl (B:Heap) (l:List Env) (e C:Addr) (fl:Option Value) (h:Heap):Prop where
 stays:B.StaysIn h
 new:B.get? e=none
 fr:h.FunFrames B l
 tr:XT B e C fl h
theorem XT.at {B h:Heap} {e C:Addr} {fl:Option Value} (x:XT B e C fl h):XAt e C h:=by
 obtain⟨oe,vs,h1,h2,h3,h4,_⟩:=x;exact⟨oe,vs,h1,h2,h3,h4⟩
section
variable {M:Model} {A:Around} {E:YA} {s:Shared} {B:Heap} {env:Env} {outer l:List Env} {L e C:Addr} {Q:YH}
end
theorem BZ.there {P:Program} {w:World} {H:Hp} {h:Heap} {a:Addr} {o:HO} (x:BZ P w H h a o):∃u,h.get? a=some u:=by
 cases o with
 | lst xs=>obtain⟨_,its,n,_,q⟩:=x;exact⟨_,q⟩
 | tup xs=>obtain⟨_,its,_,ob,q,_⟩:=x;exact⟨_,q⟩
 | dK kvs=>obtain⟨_,_,vs,_,ob,es,ep,q,_⟩:=x;exact⟨_,q⟩
 | dT kvs=>obtain⟨_,_,xs,_,ob,es,ep,q,_⟩:=x;exact⟨_,q⟩
 | set S n=>obtain⟨ob,es,ep,t,q,_⟩:=x;exact⟨_,q⟩
 | ins C dx fs=>obtain⟨_,_,_,q,_⟩:=x;exact⟨_,q⟩
 | own y=>exact x
 | xd fs=>obtain⟨mA,⟨od,es,ep,q,_⟩,_⟩:=x;exact⟨_,q⟩
 | rng lo hi=>obtain⟨t,u,v,q⟩:=x;exact⟨_,q⟩
 | frz ob u=>exact⟨_,x.1⟩
 | tbl ps=>exact⟨_,x⟩
 | met f y=>exact⟨_,x⟩
 | ext φ=>exact x.2.1
structure Exc (P:Program) (w:World) (outer:List Env) (H:Hp) (s:Shared) (e C:Addr) (B:Heap) (H':Hp) (s':Shared):Prop where
 os:s'.os=s.os
 bare:AllBare s'.gens
 fl:∃fl,(fl=none\/fl=some .none)/\Fl B outer e C fl s'.heap
 un:Un (frs outer) [] H H' s.heap s'.heap
 hok:HOk P w H' s'.heap
 tin:∀b o,s'.heap.get? b=some o->H' b≠none->B.get? b=some o
 old:∀b o,s.heap.get? b=some o->H b=none->b∉frs outer->B.get? b=some o
 ex:∀b o,s.heap.get? b=some o->b∉frs outer->∃o',B.get? b=some o'
section
variable {P:Program} {w:World} {outer:List Env} {H H':Hp} {s s':Shared} {e C:Addr} {B h2:Heap} {fl:Option Value}
theorem Exc.free (x:Exc P w outer H s e C B H' s'):H' e=none:=by
 cases hq:H' e with
 | none=>rfl
 | some v=>
  obtain⟨o1,q1⟩:=(x.hok e v hq).there;have q2:=x.tin e o1 q1 (by rw[hq];exact λz=>nomatch z);obtain⟨_,_,g⟩:=x.fl;rw[g.new] at q2;cases q2
theorem Exc.fresh (x:Exc P w outer H s e C B H' s'):s.heap.get? e=none:=by
 cases hq:s.heap.get? e with
 | none=>rfl
 | some o=>
  obtain⟨_,_,g⟩:=x.fl;by_cases hb:e∈frs outer
  ·obtain⟨_,o1,q1,nf⟩:=g.fr.mem hb;obtain⟨oe,vs,q2,_,q3,_⟩:=g.tr;rw[q1] at q2;cases q2;exact absurd q3 (nf vs)
  ·obtain⟨o1,q1⟩:=x.ex e o hq hb;rw[g.new] at q1;cases q1
end
section
variable {X:Cx} {jb:YC} {U : St} {H H':Hp} {s s':Shared} {e C:Addr} {B h2:Heap} {fl:Option Value}
theorem Exc.made {args:YE} {h':Heap} (I:Inv X jb U H s) (hx:Heap.MadeExcOf s.heap h' e (.ref C) args):Exc X.prog X.w X.stack H s e C (hideAll s.heap (frs X.stack)) H { s with heap:=h' }:=by
 have st:(hideAll s.heap (frs X.stack)).StaysIn s.heap:=λb o q=>PySem.W.of_hideAll _ q;refine⟨rj,I.bare,⟨none,.inl rfl,⟨λb o q=>hx.keeps b o (st b o q),?_,?_,?_⟩⟩,Un.kept hx.keeps,I.hok.kept hx.keeps,λb o q hb=>?_,λb o q n hb=>hideAll_get _ q hb,λb o q hb=>⟨o,hideAll_get _ q hb⟩⟩
 ·cases hq:(hideAll s.heap (frs X.stack)).get? e with
  | none=>rfl
  | some o=>
   have q:=st e o hq;rw[hx.new] at q;cases q
 ·have f0:s.heap.FunFrames (hideAll s.heap (frs X.stack)) X.stack:=PySem.W.funFrames_hide I.stack λenv he a ha=>List.mem_filterMap.mpr ⟨env,he,ha⟩;exact f0.of_keeps λb o q _=>⟨o,hx.keeps b o q,rj⟩
 ·obtain⟨t,q,_⟩:=hx.there;exact⟨_,_,q,rj,rj,rj,rj⟩
 ·cases hq:H b with
  | none=>exact absurd hq hb
  | some v=>
   obtain⟨o1,q1⟩:=(I.hok b v hq).there;have q2:=hx.keeps b o1 q1;have q':h'.get? b=some o:=q;rw[q'] at q2;cases q2;refine hideAll_get _ q1 λhm=>?_;rw[I.Oc b hm] at hq;cases hq
end
theorem PS.nox {X:Cx} {st:Stmt} {t:TS} (h:PS X.nox st t):PS X st t:=λjb s U H D I hw=>
 QbY (h jb s U H D (I.wish _) hw) (λ_ _ q=>q.Fx) λ_ _ z=>False.elim z
section
variable {M:Model} {A:Around} {E:YA} {h:Heap} {g:Array GenState} {d:Drawn} {t:Nat} {os:OsState} {K:YD} {e C HC:Addr}
end
abbrev Cx.by (X:Cx) (pn:YC) (E:YA):Cx:={ X with pn:=pn,xe:=E }
section
variable {X:Cx} {jb Vi pn:YC} {U : St} {H:Hp} {s:Shared} {E:YA} {ev:Value}
theorem Inv.by (I:Inv X jb U H s) (E:YA):Inv (X.by (X.pn++jb) E) [] U H s:=
 ⟨⟨I.ok.mod,I.ok.kind,I.ok.glob,I.ok.blt,I.ok.above,I.ok.inj,I.ok.has,I.ok.cab,I.ok.hd,I.ok.frames,I.ok.stk,I.ok.exf,I.ok.bs,I.ok.bsz,I.ok.Ow,I.ok.M6,I.ok.Hr,I.ok.frf⟩,I.os,I.bare,I.base,I.loc,I.cell,I.free,I.Gv,
  λp hp=>I.pin p (by simpa using hp),I.hok,I.len⟩
end
def Ends.drop (D:Ends) (i:Nat):Ends where
 nx:=fun U H=>D.nx (U.set i none) H
 rt:=D.rt
 bk:=fun U H=>D.bk (U.set i none) H
 ct:=fun U H=>D.ct (U.set i none) H
structure Jw (k:Nat) (A:Around):Prop where
 dp:A.depth+3*k+5 < recursionLimit
 un:A.units+16*k+200 < cLine
theorem Jw.deeper {k:Nat} {A:Around} (r:Jw (k+1) A) (env:Env):Jw k (A.deeper env):=
 ⟨by have:=r.dp;show A.depth+1+3*k+5 < _;omega,by have:=r.un;show A.units+3+16*k+200 < _;omega⟩
theorem Jw.mono {j k:Nat} {A:Around} (r:Jw k A) (h:j<=k):Jw j A:=⟨by have:=r.dp;omega,by have:=r.un;omega⟩
theorem Jw.units {k:Nat} {A:Around} (r:Jw k A):A.units+64 < cLine:=by have:=r.un;omega
end L2
namespace L2
open PySem PySem.Spec PyProof.Rows PySem.SeqAt
theorem Am {c:Const} {k:Nat} {p:Pos} {es:YJ} {env:Env}:starEach (.Constant c k p::es) env=(false,eval (.Constant c k p) env)::starEach es env:=by rfl
theorem Z6 {f:Expr} {as:YJ} {ks:List Keyword} {p:Pos} {es:YJ} {env:Env}:starEach (.Call f as ks p::es) env=(false,eval (.Call f as ks p) env)::starEach es env:=by rfl
theorem IK {as:YJ} {k:Nat} {p:Pos} {es:YJ} {env:Env}:starEach (.Tuple as k p::es) env=(false,eval (.Tuple as k p) env)::starEach es env:=by rfl
section
variable {X:Cx}
end
section
variable {prog:Program} {w:World} {A:Around} {E:YA} {s:Shared}
end
end L2
namespace L2
open PySem PySem.Spec PyProof.Rows
section
variable {X:Cx} {jb:YC} {U : St} {H:Hp} {s:Shared} {a:Addr} {kvs:YM} {o:Obj}
end
section
variable {a l:Addr} {o:Obj} {kvs:YM} {g:TG} {tb:TS} {D:Ends} {U : St} {H:Hp} {tt:TT} {te tk tv:TE} {Q:VK}
theorem Xr {K:YD} {xs:YG} {σ0:St} {H0:Hp} (Pv:YN) (h0:Pv 0 σ0 H0) (hl:∀i U H',i<=xs.length->Pv i U H'->SqT K H' a xs)
  (hs:∀i x U H',xs[i]?=some x->Pv i U H'->g x U H' fun σ3 H3=>tt σ3 H3 λb H4=>if b=true then tk σ3 H4 λy H5=>tv σ3 H5 λz H6=>∃(kvs:YM) (k:Key),H6 l=some (.dK kvs)/\y=kV k/\kvs.length < sizeLine/\Pv (i+1) σ3 (upd H6 l (.dK (putK kvs k z))) else Pv (i+1) σ3 H4)
  (hd:∀ U H',Pv xs.length U H'->Q (.ref l) H'):QC (Itt K a) g tt tk tv Q σ0 H0 l:=by
 unfold QC;refine⟨λi m U H'=>m=xs.length - i/\i<=xs.length/\Pv i U H',⟨xs.length,by simp,QbS _,h0⟩,?_⟩;rintro i m U H' ⟨rfl,hi,p⟩;have q:=hl i U H' hi p;by_cases hlt:i < xs.length
 ·refine .inr ⟨⟨xs,xs[i],q,by simp[hlt]⟩,Pv (i+1),fun σ3 H3 p'=>⟨xs.length - (i+1),by omega,rj,hlt,p'⟩,λx H2 y=>?_⟩;obtain⟨e,y⟩:=y;subst e;exact hs i x U _ (y xs q) p
 ·have e:i=xs.length:=by omega
  subst e;exact .inl ⟨⟨xs,q,QbR _⟩,hd U H' p⟩
end
open PySem.W (KasT kas_asc kas_desc kas_rev kas_tail3 kas_descPart kas_count kas_place kas_bin kas_sort)
def Pm (n:Nat) (p:Array Nat):Prop:=p.toList.Perm (List.range n)
theorem Pm.lt {n:Nat} {p:Array Nat} (h:Pm n p) (n0:0 < n) (i:Nat):p.getD i 0 < n:=by
 by_cases hi:i < p.size
 ·have e:p.getD i 0=p[i]:=by simp[hi]
  rw[e];have hm:p[i]∈p.toList:=by simp
  exact List.mem_range.mp (h.mem_iff.mp hm)
 ·have e:p.getD i 0=0:=by simp[hi]
  rw[e];exact n0
section
variable {n:Nat} (n0:0 < n)
include n0
end
section
variable {prog:Program} {w:World} {A:Around} {E:YA} {s:Shared}
end
end L2
namespace L2
open PySem PySem.Spec PyProof.Rows
section
variable {M:Model} {A:Around} {E:YA} {s:Shared}
end
section
variable {prog:Program} {w:World} {A:Around} {E:YA} {s:Shared}
end
section
variable {prog:Program} {w:World} {A:Around} {E:YA} {h:Heap} {g:Array GenState} {d:Drawn} {t:Nat} {os:OsState} {a:Addr} {xs:Array Value} {c:Nat}
end
section
variable {prog:Program} {w:World} {κ : Type} [DecidableEq κ] {knd:KeyKind prog w κ} {A:Around} {E:YA} {s:Shared} {R:Result->Shared->Prop}
end
section
variable {prog:Program} {w:World} {κ : Type} [DecidableEq κ] {knd:KeyKind prog w κ} {A:Around} {E:YA} {s:Shared}
end
section
variable {prog:Program} {w:World} {A:Around} {E:YA} {h:Heap} {g:Array GenState} {d:Drawn} {t:Nat} {os:OsState} {a:Addr} {xs:Array Value} {c:Nat} {ob:Obj}
end
section
variable {prog:Program} {w:World} {κ : Type} [DecidableEq κ] {knd:KeyKind prog w κ} {A:Around} {E:YA} {s:Shared} {R:Result->Shared->Prop}
end
open PySem.W (KasT kas_asc kas_desc kas_rev kas_tail3 kas_descPart kas_count kas_place kas_bin kas_sort)
section
variable {n:Nat} {ky:Nat->Int}
def Gk (ky:Nat->Int) (p:Array Nat) (i:Nat):Int:=ky (p.getD i 0)
def Inj (n:Nat) (ky:Nat->Int):Prop:=∀i j,i < n->j < n->ky i=ky j->i=j
def eG (ky:Nat->Int) (p:Array Nat) (m:Nat):Prop:=∀i,i+1 < m->Gk ky p i < Gk ky p (i+1)
def V0 (ky:Nat->Int) (p:Array Nat) (m:Nat):Prop:=∀i j,i < j->j < m->Gk ky p i < Gk ky p j
theorem eG.all {p:Array Nat} {m:Nat} (h:eG ky p m):V0 ky p m:=λi j hij hj=>by
 induction j with
 | zero=>omega
 | succ j ih=>
  have h1:=h j hj;by_cases e:i=j
  ·rw[e];exact h1
  ·exact Int.lt_trans (ih (by omega) (by omega)) h1
theorem cQ {α : Type} {l:List α} (nd:l.Nodup) {i j:Nat} (hi:i < l.length) (hj:j < l.length) (e:l[i]=l[j]):i=j:=by
 rcases Nat.lt_trichotomy i j with h | h | h
 ·exact absurd e (Qag.mp nd i j hi hj h)
 ·exact h
 ·exact absurd e.symm (Qag.mp nd j i hj hi h)
theorem Pm.size {p:Array Nat} (h:Pm n p):p.size=n:=by
 have:=List.Perm.length_eq h;simpa using this
theorem Pm.ne (hi:Inj n ky) {p:Array Nat} (h:Pm n p) {i j:Nat} (a:i < n) (b:j < n) (ne:i≠j):Gk ky p i≠Gk ky p j:=λe=>by
 have n0:0 < n:=by omega
 have hs:=h.size;have e:=hi _ _ (h.lt n0 i) (h.lt n0 j) e;have nd:p.toList.Nodup:=(List.Perm.nodup_iff h).mpr List.nodup_range;have e1:p.getD i 0=p.toList[i]'(by simp[hs,a]):=by simp[hs,a]
 have e2:p.getD j 0=p.toList[j]'(by simp[hs,b]):=by simp[hs,b]
 rw[e1,e2] at e;exact ne (cQ nd _ _ e)
theorem V0.list {p:Array Nat} (h:Pm n p) (R:V0 ky p n):(p.toList.map ky).Pairwise (· < ·):=by
 have hs:=h.size;rw[Qag];intro i j hi hj hij;have hi':i < n:=by simpa [hs] using hi
 have hj':j < n:=by simpa [hs] using hj
 have:=R i j hij hj';unfold Gk at this;have e1:p.getD i 0=p[i]'(by omega):=by simp[hs,hi']
 have e2:p.getD j 0=p[j]'(by omega):=by simp[hs,hj']
 rw[e1,e2] at this;simpa using this
end
section
variable {prog:Program} {w:World} {A:Around} {s:Shared}
end
end L2
namespace L2
open PySem PySem.Spec PyProof.Rows
theorem Ds.bG {k:Nat} {A:Around} (r:Ds k A):A.units+66 < cLine:=by have:=r.un;omega
section
variable {X:Cx} {K:YD}
end
end L2
namespace L2
open PySem
theorem Np {a b:Expr} {op:Operator} {p:Pos} {es:YJ} {env:Env}:starEach (.BinOp a op b p::es) env=(false,eval (.BinOp a op b p) env)::starEach es env:=by rfl
theorem fD {a:Expr} {op:UnaryOp} {p:Pos} {es:YJ} {env:Env}:starEach (.UnaryOp op a p::es) env=(false,eval (.UnaryOp op a p) env)::starEach es env:=by rfl
theorem bO {as:YJ} {p:Pos} {es:YJ} {env:Env}:starEach (.List as p::es) env=(false,eval (.List as p) env)::starEach es env:=by rfl
theorem Wj {a b:Expr} {p:Pos} {es:YJ} {env:Env}:starEach (.Subscript a b p::es) env=(false,eval (.Subscript a b p) env)::starEach es env:=by rfl
end L2
namespace L2
open PySem PySem.Spec PyProof.Rows
def V1 (K:YD) (a b:Addr):It:=
  ⟨λi H=>∃xs ys x y,H a=some (.tup xs)/\H b=some (.tup ys)/\xs[i]?=some x/\ys[i]?=some y,
   λi H v H'=>∃p x y,H p=none/\v=.ref p/\H'=upd H p (.tup [x,y])/\(∀xs,H a=some (.tup xs)->xs[i]?=some x)/\∀ys,H b=some (.tup ys)->ys[i]?=some y,
   λi H=>∃xs ys,H a=some (.tup xs)/\H b=some (.tup ys)/\(xs.length<=i\/ys.length<=i)⟩
theorem U0 {P:Program} {w:World} {K:YD} {elts:YJ} {k:Nat} {pos:Pos} (a b z TI TO i1 i2:Addr) (nd:[z,TI,TO,i1,i2].Nodup) :
  Turn P w K (.Tuple elts k pos) (V1 K a b) [z,TI,TO,i1,i2] z (λi h=>(∃f1,ZZ.IsZ h z TI TO .none f1)/\ZZ.Cz h TI [.ref i1,.ref i2]/\(∃olds:YE,ZZ.Cz h TO olds/\olds.length=2)/\h.IsTupleIter i1 a i/\h.IsTupleIter i2 b i) where
 mem:=by simp
 obj:=λi h st c hc=>by
  obtain⟨⟨f1,hz⟩,hTI,⟨olds,hTO,_⟩,⟨o1,e1,_,d1⟩,o2,e2,_,d2⟩:=st;simp only[QbD,Qbg,Qcb] at hc;rcases hc with rfl | rfl | rfl | rfl | rfl
  ·exact⟨_,hz,λv q=>by cases (show Data.fields _=Data.cell v from q)⟩
  ·exact⟨_,hTI,λv q=>by cases (show Data.seq _ _=Data.cell v from q)⟩
  ·exact⟨_,hTO,λv q=>by cases (show Data.seq _ _=Data.cell v from q)⟩
  ·exact⟨o1,e1,λv q=>by rw[d1] at q;cases q⟩
  ·exact⟨o2,e2,λv q=>by rw[d2] at q;cases q⟩
 keep:=λi h h' st k=>by
  obtain⟨⟨f1,hz⟩,hTI,⟨olds,hTO,l⟩,h1,h2⟩:=st;exact⟨⟨f1,k z (by simp) _ hz⟩,k TI (by simp) _ hTI,⟨olds,k TO (by simp) _ hTO,l⟩,h1.at λo e=>k i1 (by simp) o e,h2.at λo e=>k i2 (by simp) o e⟩
 item:=by
  intro X hP hw hK hc i jb s U H E I hf st hg;subst hP hw hK;obtain⟨xs,ys,x,y,hq1,hq2,hx,hy⟩:=hg;obtain⟨us,ru,p1,z1⟩:=I.tuple (SqT.of hq1);obtain⟨ws,rw',p2,z2⟩:=I.tuple (SqT.of hq2);obtain⟨u,hu,ru'⟩:=ru.get hx;obtain⟨v,hv,rv'⟩:=rw'.get hy;obtain⟨⟨f1,hz⟩,hTI,⟨olds,hTO,lo⟩,hi1,hi2⟩:=st;simp only[Qbr,QbD,Qbg,Qcb,not_or,List.nodup_nil,not_false_eq_true,and_true] at nd;obtain⟨⟨n1,n2,n3,n4⟩,⟨n5,n6,n7⟩,⟨n8,n9⟩,n10⟩:=nd;have D:ZZ.Apart z TI TO [⟨i1,a,us.toArray⟩,⟨i2,b,ws.toArray⟩]:=by
   obtain⟨oa,ea,ca,_⟩:=id p1;obtain⟨ob,eb,cb,_⟩:=id p2;obtain⟨o1,e1,c1,_⟩:=id hi1;obtain⟨o2,e2,c2,_⟩:=id hi2;have aTO:a≠TO:=λq=>by
    have:=(hf TO (by simp)).1;rw[<-q,hq1] at this;cases this
   have bTO:b≠TO:=λq=>by
    have:=(hf TO (by simp)).1;rw[<-q,hq2] at this;cases this
   have t1:Value.type "tuple"≠Value.type "zip":=λq=>absurd (by injection q) (show ¬("tuple"="zip") by decide);have t2:Value.type "tuple"≠Value.type "tuple_iterator":=λq=>absurd (by injection q) (show ¬("tuple"="tuple_iterator") by decide);refine⟨Ne.symm n1,Ne.symm n2,n5,λq hq=>?_,λq hq=>?_,λq hq r hr=>?_,?_⟩
   ·simp only[QbD,Qbg,Qcb] at hq;rcases hq with rfl | rfl
    ·exact⟨Ne.symm n3,Ne.symm n6,Ne.symm n8⟩
    ·exact⟨Ne.symm n4,Ne.symm n7,Ne.symm n9⟩
   ·simp only[QbD,Qbg,Qcb] at hq;rcases hq with rfl | rfl
    ·exact⟨Fg ea hz (by rw[ca];exact t1),aTO⟩
    ·exact⟨Fg eb hz (by rw[cb];exact t1),bTO⟩
   ·simp only[QbD,Qbg,Qcb] at hq hr;rcases hq with rfl | rfl <;> rcases hr with rfl | rfl
    ·exact Fg ea e1 (by rw[ca,c1];exact t2)
    ·exact Fg ea e2 (by rw[ca,c2];exact t2)
    ·exact Fg eb e1 (by rw[cb,c1];exact t2)
    ·exact Fg eb e2 (by rw[cb,c2];exact t2)
   ·simp[n10]
  have hat:∀q∈([⟨i1,a,us.toArray⟩,⟨i2,b,ws.toArray⟩]:List ZZ.Src),ZZ.SrcAt s.heap q i:=λq hq=>by
   simp only[QbD,Qbg,Qcb] at hq;rcases hq with rfl | rfl
   ·exact .inr ⟨hi1,p1⟩
   ·exact .inr ⟨hi2,p2⟩
  refine ZZ.Ve hz (Qi:=λr s'=>∃h',r=.ref s.heap.objs.size/\s'={ s with heap:=h' }/\ZZ.IsZ h' z TI TO (rawInt s.heap.objs.size) (.bool false)/\ZZ.Cz h' TI [.ref i1,.ref i2]/\ZZ.Cz h' TO [u,v]/\(∀q∈([⟨i1,a,us.toArray⟩,⟨i2,b,ws.toArray⟩]:List ZZ.Src),ZZ.SrcAt h' q (i+1))/\ZZ.Cz h' s.heap.objs.size [u,v]/\ZZ.Rest z TO [⟨i1,a,us.toArray⟩,⟨i2,b,ws.toArray⟩] s.heap h')
   (ZZ.Qj (xs:=[u,v]) D hz hTI hTO hat (by simp) rfl lo (λj q hj=>?_) (by show 2<=100;decide) λh' a1 a2 a3 a4 a5 a6 a7=>⟨h',rj,rj,a1,a2,a3,a4,a5,a7⟩) λr s' hQ=>?_
  ·match j,hj with
   | 0,hj=>cases hj;exact⟨u,rfl,by simpa using hu⟩
   | 1,hj=>cases hj;exact⟨v,rfl,by simpa using hv⟩
  obtain⟨h',rfl,rfl,a1,a2,a3,a4,a5,a7⟩:=hQ;refine⟨_,rj,ZZ.W2 (s:={ s with heap:=h' }) a1 λh2 hz2 sb=>?_⟩;have hlt2:s.heap.objs.size≠z:=QbQ (QbM hz);have hT2:ZZ.Cz h2 s.heap.objs.size [u,v]:=(sb.2 _ hlt2).trans a5;have new:BZ X.prog X.w (upd H s.heap.objs.size (.tup [x,y])) h2 s.heap.objs.size (.tup [x,y]):=
   ⟨by show 2<=sizeLine;decide,[u,v],.cons ru' (.cons rv' .nil),_,hT2,rj,0,rj⟩
  have I1:=I.Pa (h':=h2) (t':=s.toks) (QbR _) (λc q hc e=>(sb.2 c (λw=>hc (by simp[w]))).trans (a7 c q (λw=>hc (by simp[w])) (λw=>hc (by simp[w])) (λw=>hc (by simp only[QbG,List.map_nil,QbD,Qbg,Qcb] at w;rcases w with w | w <;> simp[w])) e)) hf new;have ZW:∀{it l:Addr} {items:Array Value},l≠z->l≠TO->l≠i1->l≠i2->it≠z->s.heap.IsTuple l items->ZZ.SrcAt h' ⟨it,l,items⟩ (i+1)->h2.IsTupleIter it l (i+1):=λm1 m2 m3 m4 m5 hl q=>by
   rcases q with⟨_,q2⟩|⟨q1,_⟩
   ·obtain⟨o,e,r⟩:=hl;exact (Ho q2 ⟨o,a7 _ o m1 m2 (by simp[m3,m4]) e,r⟩).elim
   ·exact q1.at λo e=>(sb.2 _ m5).trans e
  refine⟨.ref s.heap.objs.size,_,I1,rj,⟨s.heap.objs.size,x,y,I.hok.fresh (QbR _),rj,rj,λys' hy'=>by (rw[hq1] at hy';cases hy';exact hx),λys' hy'=>by (rw[hq2] at hy';cases hy';exact hy)⟩,⟨⟨_,hz2⟩,(sb.2 _ (Ne.symm n1)).trans a2,⟨[u,v],(sb.2 _ (Ne.symm n2)).trans a3,rj⟩,?_,?_⟩,λc hc=>?_⟩
  ·exact ZW (D.a ⟨i1,a,us.toArray⟩ (by simp)).1 (D.a ⟨i1,a,us.toArray⟩ (by simp)).2 (D.ai ⟨i1,a,us.toArray⟩ (by simp) ⟨i1,a,us.toArray⟩ (by simp)) (D.ai ⟨i1,a,us.toArray⟩ (by simp) ⟨i2,b,ws.toArray⟩ (by simp)) (Ne.symm n3) p1 (a4 _ (by simp))
  ·exact ZW (D.a ⟨i2,b,ws.toArray⟩ (by simp)).1 (D.a ⟨i2,b,ws.toArray⟩ (by simp)).2 (D.ai ⟨i2,b,ws.toArray⟩ (by simp) ⟨i1,a,us.toArray⟩ (by simp)) (D.ai ⟨i2,b,ws.toArray⟩ (by simp) ⟨i2,b,ws.toArray⟩ (by simp)) (Ne.symm n4) p2 (a4 _ (by simp))
  ·have hlc:c≠s.heap.objs.size:=by
    have hmem:∃o,s.heap.get? c=some o:=by
     simp only[QbD,Qbg,Qcb] at hc;rcases hc with rfl | rfl | rfl | rfl | rfl
     ·exact⟨_,hz⟩
     ·exact⟨_,hTI⟩
     ·exact⟨_,hTO⟩
     ·obtain⟨o,e,_⟩:=hi1;exact⟨o,e⟩
     ·obtain⟨o,e,_⟩:=hi2;exact⟨o,e⟩
    obtain⟨o,e⟩:=hmem;exact QbN (QbM e)
   rw[Bd hlc];exact (hf c hc).1
 done:=by
  intro X hP hw hK hc i jb s U H E I hf st hg;subst hP hw hK;obtain⟨xs,ys,hq1,hq2,hend⟩:=hg;obtain⟨us,ru,p1,z1⟩:=I.tuple (SqT.of hq1);obtain⟨ws,rw',p2,z2⟩:=I.tuple (SqT.of hq2);obtain⟨⟨f1,hz⟩,hTI,⟨olds,hTO,lo⟩,hi1,hi2⟩:=st;simp only[Qbr,QbD,Qbg,Qcb,not_or,List.nodup_nil,not_false_eq_true,and_true] at nd;obtain⟨⟨n1,n2,n3,n4⟩,⟨n5,n6,n7⟩,⟨n8,n9⟩,n10⟩:=nd;have D:ZZ.Apart z TI TO [⟨i1,a,us.toArray⟩,⟨i2,b,ws.toArray⟩]:=by
   obtain⟨oa,ea,ca,_⟩:=id p1;obtain⟨ob,eb,cb,_⟩:=id p2;obtain⟨o1,e1,c1,_⟩:=id hi1;obtain⟨o2,e2,c2,_⟩:=id hi2;have aTO:a≠TO:=λq=>by
    have:=(hf TO (by simp)).1;rw[<-q,hq1] at this;cases this
   have bTO:b≠TO:=λq=>by
    have:=(hf TO (by simp)).1;rw[<-q,hq2] at this;cases this
   have t1:Value.type "tuple"≠Value.type "zip":=λq=>absurd (by injection q) (show ¬("tuple"="zip") by decide);have t2:Value.type "tuple"≠Value.type "tuple_iterator":=λq=>absurd (by injection q) (show ¬("tuple"="tuple_iterator") by decide);refine⟨Ne.symm n1,Ne.symm n2,n5,λq hq=>?_,λq hq=>?_,λq hq r hr=>?_,?_⟩
   ·simp only[QbD,Qbg,Qcb] at hq;rcases hq with rfl | rfl
    ·exact⟨Ne.symm n3,Ne.symm n6,Ne.symm n8⟩
    ·exact⟨Ne.symm n4,Ne.symm n7,Ne.symm n9⟩
   ·simp only[QbD,Qbg,Qcb] at hq;rcases hq with rfl | rfl
    ·exact⟨Fg ea hz (by rw[ca];exact t1),aTO⟩
    ·exact⟨Fg eb hz (by rw[cb];exact t1),bTO⟩
   ·simp only[QbD,Qbg,Qcb] at hq hr;rcases hq with rfl | rfl <;> rcases hr with rfl | rfl
    ·exact Fg ea e1 (by rw[ca,c1];exact t2)
    ·exact Fg ea e2 (by rw[ca,c2];exact t2)
    ·exact Fg eb e1 (by rw[cb,c1];exact t2)
    ·exact Fg eb e2 (by rw[cb,c2];exact t2)
   ·simp[n10]
  have hat:∀q∈([⟨i1,a,us.toArray⟩,⟨i2,b,ws.toArray⟩]:List ZZ.Src),ZZ.SrcAt s.heap q i:=λq hq=>by
   simp only[QbD,Qbg,Qcb] at hq;rcases hq with rfl | rfl
   ·exact .inr ⟨hi1,p1⟩
   ·exact .inr ⟨hi2,p2⟩
  have l1:=ru.length;have l2:=rw'.length;refine ZZ.Oi hz (R:=λh'=>ZZ.Rest z TO [⟨i1,a,us.toArray⟩,⟨i2,b,ws.toArray⟩] s.heap h') (ZZ.QD (I.ok.hd hc) D hz hTI hTO hat (by simp) lo (by show 2<=100;decide) ?_ λh' e r st=>⟨h',e,rfl,rfl,r,st⟩) λh' r=>⟨rfl,I.T4 (h':=h') (t':=s.toks) (λc q hc e=>r c q (λw=>hc (by simp[w])) (λw=>hc (by simp[w])) (λw=>hc (by simp only[QbG,List.map_nil,QbD,Qbg,Qcb] at w;rcases w with w | w <;> simp[w])) e) hf⟩;rcases hend with h | h
  ·exact⟨_,QaH ..,by simp;omega⟩
  ·exact⟨_,Qav _ (QaH ..),by simp;omega⟩
 self:=λ_ _ _ _ _ st h=>ZZ.Nt st.1.choose_spec h
def dh (K:YD) (ta:TA):TI:=fun U H R=>ta U H λvs H1=>∃a b,vs=[.ref a,.ref b]/\(∃xs,H1 a=some (.tup xs))/\(∃ys,H1 b=some (.tup ys))/\R (V1 K a b) H1
section
variable {X:Cx}
theorem Yp {a b:Expr} {ta:TA} {p pos tp:Pos} {elts:YJ} {k:Nat} (hg:Gl X "zip") (hm:X.mg "zip"=none) (ha:PA X [a,b] ta)
  (hs:starEach [a,b] X.env=[(false,eval a X.env),(false,eval b X.env)]:=by rfl) (hs2:starEach [b] X.env=[(false,eval b X.env)]:=by rfl):PI X (.Tuple elts k tp) (.Call (.Name "zip" p) [a,b] [] pos) (dh X.K ta):=by
 intro jb s U H R I h;refine Call_ (Jl I hg hm (u:=.type "zip") (by trivial) (Qac (thn (ha pos jb s U H _ I h) λus s1 ⟨vs,H1,I1,r1,q1⟩=>?_) (by rw[hs,hs2]) (by rw[hs2];rfl)));obtain⟨a,b,e,⟨xs,hx⟩,⟨ys,hy⟩,q⟩:=q1;subst e;cases r1 with
 | cons r rr=>
  cases rr with
  | cons r' rr=>
   cases rr;cases r;cases r';obtain⟨us,ru,k1,z1⟩:=I1.tuple (SqT.of hx);obtain⟨ws,rw',k2,z2⟩:=I1.tuple (SqT.of hy);refine ZZ.Xw (c1:="tuple_iterator") (c2:="tuple_iterator") (.inr ⟨rj,k1⟩) (.inr ⟨rj,k2⟩) λh' z TI TO i1 i2 f=>?_;refine ZZ.Nt (s:={ s1 with heap:=h' }) f.hz ?_;have nd:[z,TI,TO,i1,i2].Nodup:=by
    have a1:=f.ap.it ⟨i1,a,us.toArray⟩ (by simp);have a2:=f.ap.it ⟨i2,b,ws.toArray⟩ (by simp);have a3:i1≠i2:=by
     have:=f.ap.nd;simpa using this
    simp only[Qbr,QbD,Qbg,Qcb,not_or,List.nodup_nil,not_false_eq_true,and_true];exact⟨⟨Ne.symm f.ap.TIz,Ne.symm f.ap.TOz,Ne.symm a1.1,Ne.symm a2.1⟩,⟨f.ap.TITO,Ne.symm a1.2.1,Ne.symm a2.2.1⟩,⟨Ne.symm a1.2.2,Ne.symm a2.2.2⟩,a3⟩
   have at1:h'.IsTupleIter i1 a 0:=by
    rcases f.at_ ⟨i1,a,us.toArray⟩ (by simp) with⟨_,x2⟩|⟨x1,_⟩
    ·obtain⟨o,e,r⟩:=id k1;exact (Ho x2 ⟨o,f.keep _ o e,r⟩).elim
    ·exact x1
   have at2:h'.IsTupleIter i2 b 0:=by
    rcases f.at_ ⟨i2,b,ws.toArray⟩ (by simp) with⟨_,x2⟩|⟨x1,_⟩
    ·obtain⟨o,e,r⟩:=id k2;exact (Ho x2 ⟨o,f.keep _ o e,r⟩).elim
    ·exact x1
   refine⟨z,[z,TI,TO,i1,i2],_,_,H1,rj,I1.kept (t':=s1.toks) λc o e=>f.keep c o e,U0 a b z TI TO i1 i2 nd,⟨⟨_,f.hz⟩,f.hTI,⟨_,f.hTO,rj⟩,at1,at2⟩,λc hc=>?_,q⟩;have hn:=f.new;have hcs:s1.heap.objs.size<=c:=by
    simp only[QbD,Qbg,Qcb] at hc;rcases hc with rfl | rfl | rfl | rfl | rfl
    ·exact hn.1
    ·exact hn.2.1
    ·exact hn.2.2.1
    ·exact hn.2.2.2 ⟨c,a,us.toArray⟩ (by simp)
    ·exact hn.2.2.2 ⟨c,b,ws.toArray⟩ (by simp)
   exact I1.O5 hcs (I1.hok.fresh hcs)
end
theorem VH {K:YD} {a b l:Addr} {xs ys:YG} {g:TG} {tt:TT} {te:TE} {Q:VK} {σ0:St} {H0:Hp} (n:Nat) (hx:n<=xs.length) (hy:n<=ys.length) (hn:xs.length<=n\/ys.length<=n) (Pv:YN)
  (h0:Pv 0 σ0 H0) (hl:∀i U H',i<=n->Pv i U H'->H' a=some (.tup xs)/\H' b=some (.tup ys))
  (hs:∀i x y p U H',xs[i]?=some x->ys[i]?=some y->Pv i U H'->H' p=none->g (.ref p) U (upd H' p (.tup [x,y])) fun σ3 H3=>tt σ3 H3 λb H4=>if b=true then te σ3 H4 λy H5=>∃ys,H5 l=some (.lst ys)/\ys.length < sizeLine/\Pv (i+1) σ3 (upd H5 l (.lst (ys++[y]))) else Pv (i+1) σ3 H4)
  (hd:∀ U H',Pv n U H'->Q (.ref l) H'):Gb (V1 K a b) g tt te Q σ0 H0 l:=by
 unfold Gb;refine⟨λi m U H'=>m=n - i/\i<=n/\Pv i U H',⟨n,by simp,QbS _,h0⟩,?_⟩;rintro i m U H' ⟨rfl,hi,p⟩;obtain⟨q1,q2⟩:=hl i U H' hi p;by_cases hlt:i < n
 ·have hlt1:i < xs.length:=by omega
  have hlt2:i < ys.length:=by omega
  refine .inr ⟨⟨xs,ys,xs[i],ys[i],q1,q2,Qai hlt1,Qai hlt2⟩,Pv (i+1),fun σ3 H3 p'=>⟨n - (i+1),by omega,rj,hlt,p'⟩,λv H2 y=>?_⟩;obtain⟨pp,x',y',hp,rfl,rfl,e1,e2⟩:=y;exact hs i x' y' pp U _ (e1 xs q1) (e2 ys q2) p hp
 ·exact .inl ⟨⟨xs,ys,q1,q2,by omega⟩,by
   have:i=n:=by omega
   subst this;exact hd _ _ p⟩
theorem Nb (xs:Array Nat) (j:Nat) (up:xs.toList.Pairwise (· < ·)):∀(f lo hi:Nat),hi - lo<=f->lo<=hi->hi<=xs.size->(∀i v,xs[i]?=some v->i < lo->v < j)->(∀i v,xs[i]?=some v->hi<=i->j<=v) ->
  ∃r,SetTable.below.go xs j f lo hi=r/\r<=xs.size/\(∀i v,xs[i]?=some v->i < r->v < j)/\(∀i v,xs[i]?=some v->r<=i->j<=v)
 | 0,lo,hi,h1,h2,h3,h4,h5=>⟨lo,rfl,by omega,h4,λi v e h=>h5 i v e (by omega)⟩
 | f+1,lo,hi,h1,h2,h3,h4,h5=>by
  unfold SetTable.below.go;by_cases c:lo < hi
  ·rw[if_pos c];dsimp only;have hm:(lo+hi) / 2 < xs.size:=by omega
   have em:xs[(lo+hi) / 2]?=some xs[(lo+hi) / 2]:=Array.getElem?_eq_getElem hm;have eg:xs.getD ((lo+hi) / 2) j=xs[(lo+hi) / 2]:=by simp[Array.getD,hm]
   have mono:∀(a b:Nat) (u v:Nat),xs[a]?=some u->xs[b]?=some v->a < b->u < v:=λa b u v ea eb l=>by
    rw[<-Qas] at ea eb;obtain⟨ha,rfl⟩:=Qaf.mp ea;obtain⟨hb,rfl⟩:=Qaf.mp eb;exact Qag.mp up a b ha hb l
   rw[eg];by_cases d:xs[(lo+hi) / 2] < j
   ·rw[if_pos d];refine Nb xs j up f _ hi (by omega) (by omega) h3 (λi v e l=>?_) h5;by_cases q:i=(lo+hi) / 2
    ·subst q;rw[em] at e;cases e;exact d
    ·exact Nat.lt_trans (mono i _ v _ e em (by omega)) d
   ·rw[if_neg d];refine Nb xs j up f lo _ (by omega) (by omega) (by omega) h4 (λi v e l=>?_);by_cases q:i=(lo+hi) / 2
    ·subst q;rw[em] at e;cases e;exact Nat.le_of_not_lt d
    ·exact QbO (Nat.le_of_not_lt d) (Nat.le_of_lt (mono _ i _ v em e (by omega)))
  ·rw[if_neg c];exact⟨lo,rj,by omega,h4,λi v e h=>h5 i v e (by omega)⟩
theorem below_at {xs:Array Nat} {j:Nat} (up:xs.toList.Pairwise (· < ·)):SetTable.below xs j<=xs.size/\(∀i v,xs[i]?=some v->i < SetTable.below xs j->v < j)/\(∀i v,xs[i]?=some v->SetTable.below xs j<=i->j<=v):=by
 obtain⟨r,e,h⟩:=Nb xs j up xs.size 0 xs.size (by omega) (by omega) (QbR _) (λi v _ h=>absurd h (Nat.not_lt_zero _)) (λi v e h=>absurd (Qad.mp e).1 (by omega));have e':SetTable.below xs j=r:=e;rw[e'];exact h
def TOk (b:Bool) (t:SetTable):Prop:=t.led=b/\t.dummies=#[]/\(t.plain=true->t.place.toList.Pairwise (· < ·))
theorem TOk.stand {b:Bool} {t:SetTable} (h:TOk b t) (n:Nat):TOk b (t.standIn n):=⟨h.1,rfl,λz=>by cases z⟩
theorem Nv {t:SetTable} {b:Bool} (h:TOk b t) (ha:Nat->Int) (x:Int):∀(f:Nat) (p:SetTable.Probe),p.dummy=none->∀j d,SetTable.probe.go t ha x f p=some (.empty j d)->d=none/\t.slot j=.empty
 | 0,p,_,j,d,e=>by simp[SetTable.probe.go] at e
 | f+1,p,pd,j,d,e=>by
  unfold SetTable.probe.go at e;have adv:∀q:SetTable.Probe,q.dummy=none->(t.advance q).dummy=none:=λq hq=>by unfold SetTable.advance;split <;> exact hq
  split at e
  ·rename_i hs;cases e;exact⟨pd,hs⟩
  ·rename_i hs;exfalso;unfold SetTable.slot at hs;dsimp only at hs;rw[h.2.1] at hs;split at hs
   ·cases hs
   ·split at hs
    ·rename_i hh;simp[SetTable.has] at hh
    ·cases hs
  ·split at e
   ·cases e
   ·exact Nv h ha x f _ (adv p pd) j d e
theorem Xb {xs:Array Nat} {j:Nat} (up:xs.toList.Pairwise (· < ·)) (ne:xs[SetTable.below xs j]?≠some j):(SetTable.insertAt xs (SetTable.below xs j) j).toList.Pairwise (· < ·):=by
 obtain⟨h1,h2,h3⟩:=below_at (j:=j) up;rw[SetTable.toList_insertAt];refine List.pairwise_append.mpr ⟨up.sublist (List.take_sublist _ _),List.pairwise_cons.mpr ⟨λv hv=>?_,up.sublist (List.drop_sublist _ _)⟩,λu hu v hv=>?_⟩
 ·obtain⟨i,hi⟩:=Qax hv;rw[List.getElem?_drop,Qas] at hi;have q:=h3 _ v hi (Nat.le_add_right _ _);by_cases c:j=v
  ·subst c;by_cases z:i=0
   ·subst z;exact absurd hi ne
   ·exfalso;have hl:SetTable.below xs j < xs.size:=by have:=(Qad.mp hi).1;omega
    have e0:xs[SetTable.below xs j]?=some xs[SetTable.below xs j]:=Array.getElem?_eq_getElem hl;have q0:=h3 _ _ e0 (QbR _);rw[<-Qas] at e0 hi;obtain⟨a1,a2⟩:=Qaf.mp e0;obtain⟨b1,b2⟩:=Qaf.mp hi;have:=Qag.mp up _ _ a1 b1 (by omega);omega
  ·omega
 ·obtain⟨i,hi⟩:=Qax hu;have hil:i < SetTable.below xs j:=by
   have:=(Qaf.mp hi).1;rw[Qbd] at this;omega
  rw[List.getElem?_take_of_lt hil,Qas] at hi;have uj:=h2 i u hi hil;rcases QbD.mp hv with rfl | hv
  ·exact uj
  ·obtain⟨k,hk⟩:=Qax hv;rw[List.getElem?_drop,Qas] at hk;exact QaL uj (h3 _ v hk (Nat.le_add_right _ _))
theorem TOk.Wv {b:Bool} {t:SetTable} (h:TOk b t) {j:Nat} (e:t.slot j=.empty):TOk b (t.put j).1:=by
 refine⟨h.1,?_,λpl=>?_⟩
 ·show (if SetTable.has t.dummies j=true then SetTable.eraseAt t.dummies (SetTable.below t.dummies j) else t.dummies)=#[]
  rw[h.2.1];have:SetTable.has (#[]:Array Nat) j=false:=by simp[SetTable.has]
  rw[this];rfl
 ·refine Xb (h.2.2 pl) λz=>?_;unfold SetTable.slot at e;dsimp only at e;rw[z] at e;simp at e
theorem TOk.lay {b:Bool} {t:SetTable} (h:TOk b t) (es:Array (Int×Value)) (k:Int) (x:Value):TOk b (layNew t es k x).2.1:=by
 unfold layNew;split
 ·rename_i slot wd hf;dsimp only;have key:t.slot slot=.empty:=by
   unfold SetTable.freeSlot at hf;split at hf
   ·rename_i j d hp;obtain⟨rfl,hs⟩:=Nv h _ _ _ _ rfl j d hp;cases hf;exact hs
   ·cases hf
  unfold SetTable.orStandIn;split
  ·exact h.Wv key
  ·exact (h.Wv key).stand _
 ·exact h.stand _
section
variable {prog:Program} {w:World} {KT:Type} [DecidableEq KT] (kn:KeyKind prog w KT)
def SetT (b:Bool) (h:Heap) (a:Addr) (S:KT->Bool) (n:Nat):Prop:=
 ∃ob es ep t,(h.get? a=some ob/\ob.ExactSet/\ob.data=.set es ep t)/\(ElemsOf kn es.toList/\∀k,S k=true ↔ ∃e∈es.toList,kn.is k e.2=true)/\(es.size < scanBound/\t.fits es.size=true/\es.size=n)/\TOk b t
variable {kn}
variable {A:Around} {E:YA} {s:Shared}
theorem SetT.at {b:Bool} {h h':Heap} {a:Addr} {S:KT->Bool} {n:Nat} (z:SetT kn b h a S n) (k:∀o,h.get? a=some o->h'.get? a=some o):SetT kn b h' a S n:=
 let ⟨ob,es,ep,t,⟨g1,g2⟩,g3⟩:=z
 ⟨ob,es,ep,t,⟨k _ g1,g2⟩,g3⟩
theorem SetT.stored {b:Bool} {h:Heap} {a:Addr} {ob:Obj} {es:Array (Int×Value)} {ep:Nat} {t:SetTable} (g1:h.get? a=some ob) (g2:ob.ExactSet) (g3:ob.data=.set es ep t)
  {es':Array (Int×Value)} {t':SetTable} {S':KT->Bool} (k1:ElemsOf kn es'.toList) (k2:∀k,S' k=true ↔ ∃e∈es'.toList,kn.is k e.2=true) (k3:es'.size < scanBound) (k4:t'.fits es'.size=true) (k5:TOk b t') :
  (h.update a (Obj.putSet es' t')).get? a=some { ob with data:=.set es' (ep+1) t' }/\SetT kn b (h.update a (Obj.putSet es' t')) a S' es'.size:=by
 obtain⟨q,_⟩:=SetOf_store (knd:=kn) g1 g2 g3 k1 k2 k3 k4;exact⟨q,_,es',ep+1,t',⟨q,g2,rj⟩,⟨k1,k2⟩,⟨k3,k4,rj⟩,k5⟩
end
section
variable {prog:Program} {w:World} {A:Around} {E:YA} {s:Shared}
def Zk (b:Bool) (h:Heap) (a:Addr) (es:Array (Int×Value)) (ep:Nat) (t:SetTable):Prop:=∃ob,h.get? a=some ob/\ob.ExactSet/\ob.data=.set es ep t/\t.fits es.size=true/\TOk b t
theorem Zk.at {b:Bool} {h h':Heap} {a:Addr} {es:Array (Int×Value)} {ep:Nat} {t:SetTable} (z:Zk b h a es ep t) (k:∀o,h.get? a=some o->h'.get? a=some o):Zk b h' a es ep t:=let ⟨ob,g1,g2⟩:=z;⟨ob,k _ g1,g2⟩
def Zn (h:Heap) (it a:Addr) (first:Value) (i n ep:Nat):Prop:=∃o,h.get? it=some o/\o.cls=.type "set_iterator"/\o.data=.fields #[first,rawInt i,.ref a,rawInt n,rawInt ep]
end
section
variable {prog:Program} {w:World} {A:Around} {E:YA} {s:Shared}
theorem Zn.at {h h':Heap} {it a:Addr} {first:Value} {i n ep:Nat} (x:Zn h it a first i n ep) (e:∀o,h.get? it=some o->h'.get? it=some o):Zn h' it a first i n ep:=let ⟨o,ho,r⟩:=x;⟨o,e _ ho,r⟩
end
section
variable {X:Cx} {K:YD}
theorem aA (h:X.K=K) (hu:X.A.units+66 < cLine):OpR X (compareOp .In) (λx y H Q=>∃l xs d ds,y=.ref l/\SqT K H l xs/\Hg K H xs ds/\Rep H x d/\SeqAt.shaped d=true/\PyData.canLayAll0 ds=true/\Q (.bl (ds.any λz=>PyData.eqv z d)) H):=by
 subst h;intro jb s U H x y v u Q I rx ry hh;obtain⟨l,xs,d,ds,rfl,hq,hr,hx,sd,hc,q⟩:=hh;cases ry;obtain⟨its,rv,⟨o,ho,hcl,n,hd⟩,_⟩:=I.tuple hq;obtain⟨as,r1⟩:=Hg.reads I hr rv;obtain⟨bs,r2⟩:=hx.reads I.hok rx;refine SeqAt.in_tuple_reads (xs:=ds) (d:=d) (.tuple ho hcl hd (by simpa using r1)) r2 hc (SeqAt.canLay_of_shaped sd) (room_in_shaped sd (by omega)) ⟨.bl _,H,I,rj,q⟩
end
theorem Rep.kn {H:Hp} {v:V} {d:PyData} (r:Rep H v d):Kn H v:=by
 cases r with
 | non=>exact True.intro
 | bl b=>exact True.intro
 | int i=>exact True.intro
 | str x=>exact True.intro
 | tup e _=>exact .inr ⟨_,e⟩
 | lst e _=>exact .inl ⟨_,e⟩
end L2
namespace HT
open PySem PySem.Spec PyProof.Rows
section
variable {prog:Program} {w:World} {A:Around} {E:YA} {s:Shared}
theorem VP (n:Nat):Builtin.Slice.sliceAdjust none none (-1) (n:Int)=((n:Int) - 1,-1):=by
 unfold Builtin.Slice.sliceAdjust
 first
  | rfl
  | simp
theorem Vf (n:Nat):Builtin.Slice.slicePlaces ((n:Int) - 1) (-1) (-1)=n:=by
 unfold Builtin.Slice.slicePlaces;have h1:¬((-1:Int) > 0):=by decide
 by_cases h:(n:Int) - 1 > -1
 ·have e:((n:Int) - 1 - -1 - 1) / (- -1)+1=(n:Int):=by
   rw[show (- -1:Int)=1 by decide,Int.ediv_one];omega
  simp only[h1,if_false,h,if_true,e,QaY]
 ·have e:n=0:=by omega
  subst e;simp
theorem RV {α β : Type} {f g:α->Option β}:∀{l:List α},(∀x∈l,f x=g x)->l.filterMap f=l.filterMap g
 | [],_=>rfl
 | x::r,h=>by rw[QaE,QaE,h x (QaH ..),RV λy hy=>h y (Qav _ hy)]
theorem Yn (xs:Array Value):((List.range xs.size).filterMap λ(m:Nat)=>xs[(((xs.size:Int) - 1)+(m:Int)*(-1)).toNat]?).toArray=xs.toList.reverse.toArray:=by
 have e:(List.range xs.size).filterMap (λ(m:Nat)=>xs[(((xs.size:Int) - 1)+(m:Int)*(-1)).toNat]?)=((List.range xs.size).map λk=>xs.size - 1 - k).filterMap (xs[·]?):=by
  rw[List.filterMap_map];refine RV λk hk=>?_;have:=List.mem_range.mp hk;show xs[_]?=xs[xs.size - 1 - k]?;congr 1;omega
 rw[e,PySem.W.krv_range,List.filterMap_reverse,PySem.W.krv_all]
theorem Ml {sl:Addr} {vk:Value} {n:Nat} {Q:Int×Int×Nat->Shared->Prop} (hs:s.heap.IsSliceOf sl .none .none vk) (pk:IsPart vk (some (-1)))
  (h:Q ((n:Int) - 1,-1,n) s):wpAny (model prog w) A (Builtin.Slice.sliceApplied (.ref sl) (pure (n:Int))) Q E s:=by
 obtain⟨os,hos,hcs,hds⟩:=id hs;unfold Builtin.Slice.sliceApplied Builtin.Slice.sliceFields;refine QbW (QbW (QbT hos hds (x:=.none) rfl (QbW (QbT hos hds (x:=.none) rfl (QbW (QbT hos hds (x:=vk) rfl (QbX ?_)))))));refine QbW (JV pk ?_);show wpAny _ _ (if ((-1:Int) == 0)=true then _ else _) _ _ s
 rw[if_neg (by decide)];refine QbW (slicePart_none (QbW (slicePart_none (QbW (QbX ?_)))));show wpAny _ _ (match Builtin.Slice.sliceAdjust none none (-1) (n:Int) with | (lo,hi)=>pure (lo,(-1:Int),Builtin.Slice.slicePlaces lo hi (-1))) _ _ s
 rw[VP n];show wpAny _ _ (pure ((n:Int) - 1,(-1:Int),Builtin.Slice.slicePlaces ((n:Int) - 1) (-1) (-1))) _ _ s;rw[Vf];exact QbX h
theorem Lz {t sl:Addr} {items:Array Value} {vk:Value} {Q:YA} (ht:IsTup s.heap t items) (hs:s.heap.IsSliceOf sl .none .none vk) (pk:IsPart vk (some (-1)))
  (h:Q (.ref s.heap.objs.size) { s with heap:=s.heap.push { cls:=.type "tuple",data:=.seq items.toList.reverse.toArray } })
  (hsz:items.size<=sizeLine):wpAny (model prog w) A (getItem (.ref t) (.ref sl)) Q E s:=by
 have Ir:sizeOk (.seq items.toList.reverse.toArray):=by
  show items.toList.reverse.toArray.size<=sizeLine;rw[QaS,List.length_reverse,QaB];exact hsz
 obtain⟨os,hos,hcs,hds⟩:=id hs;have hTs:s.TypeIs (.ref sl) "slice":=⟨os,hos,hcs⟩;unfold getItem
 try with_reducible refine QbI ?_
 first | refine QbW (QbX ?_) | skip
 refine QbW (wpAny_sequenceKey ht.typeIs (by decide) ?_);refine QbW (Qam (name:=Str.ofString "__getitem__") ht.typeIs Qab
  (Qbi Qab ht.typeIs entry_tuple_getitem ?_ (args_tuple_getitem _ _)))
 show wpAny _ _ (Builtin.Tuple.tupleItemsOf (.ref t) >>= _) _ _ s;refine QbW (tupleItemsOf_ ht ?_);refine QbW (wpAny_typeOf hTs ?_);rw[if_pos (by decide)];refine QbW (Ml hs pk ?_);show wpAny _ _ (if (((items.size:Int) - 1) == 0&&(-1:Int) == 1&&items.size == items.size)=true then _ else _) _ _ s
 rw[if_neg (by simp),Yn]
 first
  | exact QbW (m:=Builtin.Tuple.tupleExact _) (QaV (QbX ⟨_,rfl,QbX h⟩) Ir)
  | exact QbW (m:=Builtin.Tuple.tupleExact _) (QaV (QbW (QbX (QbX ⟨_,rfl,QbX h⟩))) Ir)
  | exact QbW (QbW (m:=Builtin.Tuple.tupleExact _) (QaV (QbX (QbX ⟨_,rfl,QbX h⟩)) Ir))
  | exact QbW (QbW (m:=Builtin.Tuple.tupleExact _) (QaV (QbX ⟨_,rfl,QbX h⟩) Ir))
end
end HT
namespace L2
open PySem PySem.Spec PyProof.Rows
def Z4 (K:YD) (te:TE) (tk:TO):TE:=fun U H Q=>te U H λx H1=>tk U H1 λk H2=>k=some (-1)/\∃a xs,x=.ref a/\SqT K H2 a xs/\∀p,H2 p=none->Q (.ref p) (upd H2 p (.tup xs.reverse))
section
variable {X:Cx} {e:Expr} {k:Expr} {te:TE} {tk:TO} {p2 pos:Pos}
theorem Wz {ops:Addr->Addr->YE} (he:PE X e te) (hk:PO X (some k) tk) (hsub:∀a b,subscripted (.Slice none none (some k) p2) false (.ref a) (.ref b)=operate (ops a b) (getItem (.ref a) (.ref b)):=by intro _ _;with_unfolding_all rfl):PE X (.Subscript e (.Slice none none (some k) p2) pos) (Z4 X.K te tk):=by
 intro jb s U H Q I h;refine Subscript_ (thn (he jb s U H _ I h) λv s1 zz=>?_);obtain⟨x,H1,I1,r1,q1⟩:=zz;refine wpAny_Slice ?_;rw[evalPart_none];refine QbX (QbX (thn (hk jb s1 U H1 _ I1 q1) λvk s2 zz=>?_));obtain⟨kk,H2,I2,pk,ek,q2⟩:=zz;subst ek;obtain⟨a,xs,rfl,hx,q⟩:=q2;cases r1;have I4:Inv X jb U H2 { s2 with heap:=s2.heap.push { cls:=.type "slice",data:=.fields #[.none,.none,vk] } }:=I2.kept (t':=s2.toks) λb ob q=>Qap _ q;obtain⟨its,r,ht,hz⟩:=I4.tuple hx;have hlen:=r.length;show wpAny (model X.prog X.w) X.A (subscriptTail e (.Slice none none (some k) p2) (.ref a) (.ref s2.heap.objs.size)) (EP X jb U Q) X.xe { s2 with heap:=s2.heap.push { cls:=.type "slice",data:=.fields #[.none,.none,vk] } };refine tail_any (ops:=ops a s2.heap.objs.size) ht.typeIs Qab.lookup ?_ (hsub _ _);refine HT.Lz ht (Heap.IsSliceOf.new ..) pk ?_ (by rw[QaS] <;> omega);refine⟨.ref (s2.heap.push { cls:=.type "slice",data:=.fields #[.none,.none,vk] }).objs.size,_,I4.laid (t':=s2.toks) (o:=.tup xs.reverse) (λb ob q=>Qap _ q) (QbR _) ?_,rj,q _ (I4.hok.fresh (QbR _))⟩;exact⟨by rw[List.length_reverse];exact hz,its.reverse,KC r,_,Qaz _ rfl,rj,0,rj⟩
theorem Pr:OpR X (compareOp .LtE) (λx y H Q=>∃i j,x=.str i/\y=.str j/\Q (.bl (!decide (j.cps.toList < i.cps.toList))) H):=by
 intro jb s U H x y v u Q I rx ry h;obtain⟨i,j,rfl,rfl,q⟩:=h;obtain⟨t,rfl⟩:=rx;obtain⟨t',rfl⟩:=ry;exact PySem.P.le_str (Bw I q rfl)
end
end L2
namespace K01
open PySem L2
def top (i:Nat):Stmt:=PySem.Challenge.pw_warnloop_k01_plans_told.main.body.getD i (.Pass ⟨0,0,0,0⟩)
theorem Bh:bootBuiltins "isinstance"=some (.builtin "isinstance"):=by trivial
theorem Oa:bootBuiltins "int"=some (.type "int"):=by trivial
theorem O8:bootBuiltins "bool"=some (.type "bool"):=by trivial
theorem BR:bootBuiltins "tuple"=some (.type "tuple"):=by trivial
theorem bf:bootBuiltins "list"=some (.type "list"):=by trivial
theorem N7:bootBuiltins "str"=some (.type "str"):=by trivial
theorem Bx:bootBuiltins "len"=some (.builtin "len"):=by trivial
theorem Fi:bootBuiltins "all"=some (.builtin "all"):=by trivial
theorem XC:bootBuiltins "abs"=some (.builtin "abs"):=by trivial
theorem N8:bootBuiltins "max"=some (.builtin "max"):=by trivial
theorem Xz:bootBuiltins "sorted"=some (.builtin "sorted"):=by trivial
theorem Sy:bootBuiltins "min"=some (.builtin "min"):=by trivial
structure Nm (mg:YB):Prop where
 isinstance:mg "isinstance"=none
 int:mg "int"=none
 bool:mg "bool"=none
 tuple:mg "tuple"=none
 list:mg "list"=none
 str:mg "str"=none
 len:mg "len"=none
 all:mg "all"=none
 abs:mg "abs"=none
 max:mg "max"=none
 min:mg "min"=none
 range:mg "range"=none
 sorted:mg "sorted"=none
 any:mg "any"=none
 sum:mg "sum"=none
 enumerate:mg "enumerate"=none
 zip:mg "zip"=none
 reversed:mg "reversed"=none
 dict:mg "dict"=none
 ord:mg "ord"=none
 set:mg "set"=none
abbrev Og:Stmt:=top 22
abbrev JM:YF:=["_law_script","_law_k"]
theorem Mq:Bk ["_law_script","_law_k","_law_cell"] JM (Aj Og):=by ac_rfl
abbrev Mr:Stmt:=top 23
abbrev El:YF:=["_law_bag_here","_law_many"]
theorem GC:Bk ["_law_bag_here","_law_many","_law_digit","_law_primes","_law_step","_law_base","_law_found"] El (Aj Mr):=by ac_rfl
theorem dg (v:V):isW v=(isI v&&!isB v):=by cases v <;> rfl
def Bm (H:Hp) (b:Addr) (n:Nat):Prop:=∃x y z:Int,H b=some (.lst [.int x,.int y,.int z])/\0<=x/\0<=y/\y<=4294967296/\0<=z/\z<=n
theorem Bm.same {H H':Hp} {b:Addr} {n:Nat} (h:Bm H b n) (s:Same H H'):Bm H' b n:=by
 obtain⟨x,y,z,e,r⟩:=h;exact⟨x,y,z,s _ _ e,r⟩
theorem Bm.mono {H:Hp} {b:Addr} {n m:Nat} (h:Bm H b n) (l:n<=m):Bm H b m:=by
 obtain⟨x,y,z,e,h1,h2,h3,h4,h5⟩:=h;exact⟨x,y,z,e,h1,h2,h3,h4,by omega⟩
theorem Bm.nb {H:Hp} {b p:Addr} {n:Nat} (h:Bm H b n) (hp:H p=none):b≠p:=by obtain⟨_,_,_,e,_⟩:=h;exact Aw e hp
theorem Bm.DW {H:Hp} {b:Addr} {n:Nat} (h:Bm H b n):∀xs,H b≠some (.tup xs):=λxs z=>by obtain⟨_,_,_,e,_⟩:=h;rw[e] at z;cases z
theorem Bm.ex {H:Hp} {b:Addr} {n:Nat} (h:Bm H b n):∃o,H b=some o:=by obtain⟨_,_,_,e,_⟩:=h;exact⟨_,e⟩
theorem Bm.Fv {H H':Hp} {a b:Addr} {n:Nat} (h:Bm H b n) (s:Af a H H') (ne:b≠a):Bm H' b n:=by
 obtain⟨x,y,z,e,r⟩:=h;exact⟨x,y,z,s _ _ e ne,r⟩
theorem Al {n:Nat} (h:n<=1000):n<=sizeLine:=Nat.le_of_lt (Bc h)
def ZJ (K:YD):Sp:=λvs H Q _=>∃(a:Addr) (ns:List Int) (k:Int),vs=[.ref a,.int k]/\SqL K H a (ns.map V.int)/\ns.length<=63/\0<=k/\k<=100/\∀p o,H p=none->Bm (upd H p o) p 0->Q (.ref p) (upd H p o)
def IV:Sp:=λvs H Q _=>∃(b:Addr) (n:Nat) (m:Int),vs=[.ref b,.int m]/\Bm H b n/\n<=10000/\0 < m/\m < 1073741824/\∀r H',0<=r->r < m->Bm H' b (n+1)->Af b H H'->Q (.int r) H'
def Qw (K:YD):Sp:=λvs H Q _=>∃(a:Addr) (ns:List Int),vs=[.ref a]/\SqL K H a (ns.map V.int)/\ns.length<=63/\∀H',Q (.bl true) H'
theorem at7 {i:Int} (h0:0<=i) (h7:i < 7) {a b c d e f g:Int} (P:Int->Prop) (ha:P a) (hb:P b) (hc:P c) (hd:P d) (he:P e) (hf:P f) (hg:P g):∃p,atI [V.int a,.int b,.int c,.int d,.int e,.int f,.int g] i=some (.int p)/\P p:=by
 have:i=0\/i=1\/i=2\/i=3\/i=4\/i=5\/i=6:=by omega
 rcases this with rfl | rfl | rfl | rfl | rfl | rfl | rfl
 ·exact⟨_,rj,ha⟩
 ·exact⟨_,rj,hb⟩
 ·exact⟨_,rj,hc⟩
 ·exact⟨_,rj,hd⟩
 ·exact⟨_,rj,he⟩
 ·exact⟨_,rj,hf⟩
 ·exact⟨_,rj,hg⟩
theorem d8 {x:Int} {b:Bool}:V7 x (if b=true then 1 else 0):=.inr (by cases b <;> exact⟨by decide,by decide⟩)
section
variable {P:Program} {w:World} {K:YD} {mg:YB} {base:Heap}
theorem Yx (C:Code K mg "_law_bag" Og JM) (T:Nm mg):Good P w K mg base "_law_bag" 1 JM (ZJ K):=by
 refine C.good Mq (λvs H Q E h=>?_) (λf cdv A outer s H vs Q E hr h=>?_)
 ·obtain⟨a,ns,k,rfl,_⟩:=h;rfl
 obtain⟨a,ns,k,rfl,hS,h63,h0,h1,q⟩:=h;refine⟨_,(Ag (Bj (i:=2) Mq.nd rfl (Or.inl rfl) (Av BL (Av BL (Av FN (Av FN Ac (pv 1)) (pv 1)) (Av FN Ac (pv 1))) Ac))
 (Ag (BX (Br Kf (pv 1) (Ai Ay rfl T.len Bx (Aa (pv 0) Ab)) (Bq _)) (Ah (Bj (i:=2) Mq.nd rfl (Or.inl rfl) (Bg Cj (pv 0) (pv 1) (λ_ _=>rfl)))) Bs)
 (Ah (Ax (Ca (Aa (Av FN (Ai Sx rfl T.abs XC (Aa (pv 2) Ab)) (CQ Qc rfl T.int Oa (Aa (Dn fU (Ai Sx rfl T.abs XC (Aa (pv 2) Ab)) (Av Rj Ac Ac) (Bq _)) Ab))) (Aa (Av BL (Av G8 (pv 2) Ac) (Av FN Ac (pv 1))) (Aa Ac Ab)))))))),?_⟩
 show let R0:TS:=_;let R1:TS:=_;let R2:TS:=Aq (GX _ R1 _) R0;Aq _ R2 _ _ _;intro R0 R1 R2;refine⟨_,rj,_,_,rj,rj,.inl ⟨by decide,by decide⟩,_,rj,_,_,rj,rj,.inr ⟨by omega,by omega⟩,_,rj,_,_,rj,rj,.inl ⟨by decide,by decide⟩,_,_,rj,rj,_,_,rj,rj,?_⟩;refine⟨_,rj,_,rj,a,_,rj,.inl hS,_,_,rj,rj,_,rj,?_⟩;have hl:(ns.map V.int).length=ns.length:=Qbk _;have fin:∀(c:Int) (p:Addr),H p=none->Q (.ref p) (upd H p (.lst [.int ((if c < 0 then -c else c)*(if decide ((10:Int) ^ (18:Int).toNat<=(if c < 0 then -c else c))=true then 1 else 0)),.int (c % 2147483647+37*k),.int 0])):=λc p hp=>by
  refine q p _ hp ⟨_,_,_,Ad,?_,?_,?_,by omega,by omega⟩
  ·refine Int.mul_nonneg ?_ ?_
   ·split <;> omega
   ·split <;> omega
  ·have:=Qbw c (show (2147483647:Int)≠0 by decide);omega
  ·have:=QaO c (show (0:Int) < 2147483647 by decide);omega
 refine Hq (λc1=>?_) (λc1=>?_)
 ·have c':k < (((ns.map V.int).length:Nat):Int):=QaU c1;rw[hl] at c';have hk:k.toNat < ns.length:=by omega
  have hat:atI (ns.map V.int) ((k.toNat:Nat):Int)=some (.int ns[k.toNat]):=Fq (by rw[QaT];simp[hk]);rw[Int.toNat_of_nonneg h0] at hat;refine⟨_,rj,_,rj,a,_,_,_,rj,rj,hS,hat,?_⟩;exact⟨_,rj,_,rj,_,rj,_,rj,_,_,rj,rj,⟨by decide,by decide,by decide⟩,_,_,rj,rj,.inr ⟨_,rj,_,_,rj,rj,d8,_,rj,_,_,rj,rj,(by show (0:Int) < 2147483647;decide),_,rj,_,_,rj,rj,.inl ⟨by decide,by decide⟩,_,_,rj,rj,
   (by show 3<=sizeLine;decide),λl hl'=>fin _ l hl'⟩⟩
 ·exact⟨_,rj,_,rj,_,rj,_,rj,_,_,rj,rj,⟨by decide,by decide,by decide⟩,_,_,rj,rj,.inr ⟨_,rj,_,_,rj,rj,d8,_,rj,_,_,rj,rj,(by show (0:Int) < 2147483647;decide),_,rj,_,_,rj,rj,.inl ⟨by decide,by decide⟩,_,_,rj,rj,
   (by show 3<=sizeLine;decide),λl hl'=>fin _ l hl'⟩⟩
theorem WR (C:Code K mg "_law_take" Mr El) (T:Nm mg):Good P w K mg base "_law_take" 1 El IV:=by
 refine C.good GC (λvs H Q E h=>?_) (λf cdv A outer s H vs Q E hr h=>?_)
 ·obtain⟨b,n,m,rfl,_⟩:=h;rfl
 obtain⟨b,n,m,rfl,⟨x,y,z,hb,x0,y0,y1,z0,z1⟩,hn,m0,m1,q⟩:=h;refine⟨_,(Ag (BX (Br Io (Bg Cj (pv 0) Ac (λ_ _=>rfl)) Ac (Bq _)) (Ag (Bj (i:=2) GC.nd rfl (Or.inl rfl) (Av G8 (Bg Cj (pv 0) Ac (λ_ _=>rfl)) (pv 1)))
 (Ag (Jc (Av Oq (Bg Cj (pv 0) Ac (λ_ _=>rfl)) (pv 1)) (Ri (pv 0) Ac set_list))
 (Ah (Ax (pv 2))))) Bs)
 (Ag (Bj (i:=3) GC.nd rfl (Or.inl rfl) (@Bo _ _ _ _ _ (@Aa _ _ _ _ _ (@Ac _ _ _ _) (@Aa _ _ _ _ _ (@Ac _ _ _ _) (@Aa _ _ _ _ _ (@Ac _ _ _ _) (@Aa _ _ _ _ _ (@Ac _ _ _ _) (@Aa _ _ _ _ _ (@Ac _ _ _ _) (@Aa _ _ _ _ _ (@Ac _ _ _ _) (@Aa _ _ _ _ _ (@Ac _ _ _ _) (@Ab _) Am) Am) Am) Am) Am) Am) Am)))
 (Ag (Jc (Av BL (Bg Cj (pv 0) Ac (λ_ _=>rfl)) Ac) (Ri (pv 0) Ac set_list))
 (Ag (Bj (i:=4) GC.nd rfl (Or.inl rfl) (Bg Cj (pv 0) Ac (λ_ _=>rfl)))
 (Ag (Bj (i:=5) GC.nd rfl (Or.inl rfl) (Av BL (Av BL (Av FN (Bg Cj (pv 0) Ac (λ_ _=>rfl)) (Av BL (Av FN Ac (pv 4)) Ac)) (Av FN (Av FN Ac (pv 4)) (pv 4))) Ac))
 (Ag (Bj (i:=6) GC.nd rfl (Or.inl rfl) (Av G8 (Av Rj (pv 5) Ac) (Bg Bv (pv 3) (Av G8 (pv 4) Ac) (λ_ _=>rfl))))
 (Ah (Ax (Av G8 (Av Oq (Av G8 (Av FN (pv 6) (Av BL (Av Oq (pv 6) Ac) Ac)) (Bg Bv (pv 3) (Av G8 (Av BL (pv 4) Ac) Ac) (λ_ _=>rfl))) Ac) (pv 1)))))))))),?_⟩
 show let R0:TS:=_;let R1:TS:=Aq _ R0;let R2:TS:=Aq _ R1;let R3:TS:=Aq _ R2;let R4:TS:=Aq _ R3;let R5:TS:=Aq _ R4;let R6:TS:=Aq _ _;let R7:TS:=Aq _ R6;Aq (GX _ R7 _) R5 _ _ _;intro R0 R1 R2 R3 R4 R5 R6 R7;refine⟨_,rj,b,_,_,_,rj,rj,SqL.of hb,rj,_,_,rj,rj,_,rj,?_⟩;refine Hq (λc1=>?_) (λc1=>?_)
 ·have c':0 < x:=QaU c1;refine⟨_,rj,b,_,_,_,rj,rj,SqL.of hb,rj,_,rj,_,_,rj,rj,m0,?_⟩;refine⟨_,rj,b,_,_,_,rj,rj,SqL.of hb,rj,_,rj,_,_,rj,rj,⟨m0,m1⟩,_,rj,b,_,_,_,rj,rj,hb,rj,?_⟩;exact⟨_,rj,q _ _ (Qbw x (by omega)) (QaO x m0) ⟨x / m,y,z,Ad,Int.ediv_nonneg x0 (by omega),y0,y1,z0,by omega⟩ Af.upd⟩
 ·refine⟨(by show 7<=sizeLine;decide),λtp htp=>?_⟩;have nbt:b≠tp:=Aw hb htp;have hb1:∀o,(upd H tp o) b=some (.lst [.int x,.int y,.int z]):=λo=>by rw[Bd nbt];exact hb
  have ht1:∀o u,(upd (upd H tp o) b u) tp=some o:=λo u=>by rw[Bd nbt.symm,Ad]
  refine⟨_,rj,b,_,_,_,rj,rj,SqL.of (hb1 _),rj,_,_,rj,rj,_,rj,b,_,_,_,rj,rj,hb1 _,rj,?_⟩;refine⟨_,rj,b,_,_,_,rj,rj,SqL.of Ad,rj,?_⟩;have s0:0<=z+1:=by omega
  have s1:z+1<=10001:=by omega
  refine⟨_,rj,b,_,_,_,rj,rj,SqL.of Ad,rj,_,rj,_,_,rj,rj,.inl ⟨by decide,by decide⟩,_,_,rj,rj,_,_,rj,rj,.inl ⟨by omega,by omega⟩,_,rj,_,_,rj,rj,.inl ⟨by decide,by decide⟩,_,rj,_,_,rj,rj,.inr ⟨by omega,by omega⟩,
   _,_,rj,rj,_,_,rj,rj,?_⟩
  have hbase:(y*(2*(z+1)+1)+6007*(z+1)*(z+1)+29).natAbs < 2 ^ 64:=by
   have h1:0<=y*(2*(z+1)+1):=Int.mul_nonneg y0 (by omega);have h2:y*(2*(z+1)+1)<=4294967296*20003:=Int.mul_le_mul y1 (by omega) (by omega) (by omega);have h3:0<=6007*(z+1)*(z+1):=Int.mul_nonneg (by omega) s0;have h4:6007*(z+1)*(z+1)<=(6007*10001)*10001:=Int.mul_le_mul (by omega) s1 s0 (by omega);omega
  obtain⟨p1,e1,p10,p11⟩:=at7 (i:=(z+1) % 7) (Qbw _ (by decide)) (QaO _ (by decide)) (a:=2147483629) (b:=2147483587) (c:=2147483579) (d:=2147483563) (e:=2147483549) (f:=2147483543) (g:=2147483497)
   (λp=>0 < p/\p < 2147483648) (by decide) (by decide) (by decide) (by decide) (by decide) (by decide) (by decide)
  obtain⟨p2,e2,p20,p21⟩:=at7 (i:=(z+1+3) % 7) (Qbw _ (by decide)) (QaO _ (by decide)) (a:=2147483629) (b:=2147483587) (c:=2147483579) (d:=2147483563) (e:=2147483549) (f:=2147483543) (g:=2147483497)
   (λp=>0 < p/\p < 2147483648) (by decide) (by decide) (by decide) (by decide) (by decide) (by decide) (by decide)
  refine⟨_,rj,_,_,rj,rj,⟨by decide,by decide,hbase⟩,_,rj,_,rj,_,_,rj,rj,(by show (0:Int) < 7;decide),tp,_,_,_,rj,rj,SqT.of (ht1 _ _),e1,_,_,rj,rj,p10,?_⟩;generalize hF:(y*(2*(z+1)+1)+6007*(z+1)*(z+1)+29) ^ (3:Int).toNat % p1=F;have F0:0<=F:=by rw[<-hF];exact Qbw _ (by omega)
  have F1:F < p1:=by rw[<-hF];exact QaO _ p10
  refine⟨_,rj,_,rj,_,_,rj,rj,⟨by decide,by decide⟩,_,_,rj,rj,_,_,rj,rj,.inl ⟨by omega,by omega⟩,_,rj,_,rj,_,_,rj,rj,_,_,rj,rj,(by show (0:Int) < 7;decide),tp,_,_,_,rj,rj,SqT.of (ht1 _ _),e2,_,_,rj,rj,p20,
   _,_,rj,rj,⟨by decide,by decide⟩,_,rj,_,_,rj,rj,m0,?_⟩
  refine q _ _ (Qbw _ (by omega)) (QaO _ m0) ⟨x,y,z+1,Ad,x0,y0,y1,s0,by omega⟩ λc o e nc=>?_;rw[Bd nc,Bd (Aw e htp)];exact e
end
abbrev JZ:Stmt:=top 24
abbrev Jf:YF:=["_law_bag_here"]
abbrev xk:YF:=["_law_bag_here","_law_letters"]
theorem Ph:Bk xk Jf (Aj JZ):=by ac_rfl
abbrev Jr:Stmt:=top 25
abbrev GJ:YF:=["_law_bag_here","_law_many"]
abbrev xm:YF:=["_law_bag_here","_law_many","_law_found","_law_place","_law_name_here"]
theorem G3:Bk xm GJ (Aj Jr):=by ac_rfl
def abc:Str:="abcdefghijklmnopqrstuvwxyz"
def okS (z:Str):Prop:=∀c∈z.cps.toList,c∈abc.cps.toList
theorem okS.ok {z:Str} (h:okS z):PyData.strOk z=true:=by
 have ha:abc.cps.toList.all (λc=>decide (c < 0x110000))=true:=by trivial
 unfold PyData.strOk;rw[Array.all_eq_true'];exact λc hc=>Qbj.mp ha c (h c (Array.mem_toList_iff.mpr hc))
theorem okS.append {x y:Str} (h:okS x) (h':okS y):okS (x++y):=by
 intro c hc;have:c∈x.cps.toList++y.cps.toList:=by
  have e:(x++y).cps=x.cps++y.cps:=rfl;rw[e,Array.toList_append] at hc;exact hc
 rcases Qbm.mp this with z | z
 ·exact h c z
 ·exact h' c z
theorem okS.slice {x:Str} (h:okS x) (l u:Option Int):okS (Txt.slice x l u):=by
 unfold Txt.slice;split
 ·exact h
 ·intro c hc;have hc':c∈(Builtin.Str.strSliceIndices l u 1 x.length).filterMap (x.cps[·]?):=by simpa using hc
  obtain⟨i,_,e⟩:=List.mem_filterMap.mp hc';exact h c (Array.mem_toList_iff.mpr (Array.mem_of_getElem? e))
theorem okS.join {sep:Str} (hs:okS sep):∀{ts:YF},(∀t∈ts,okS t)->okS (Str.join sep ts)
 | [],_=>λc hc=>by cases hc
 | [x],h=>h x (QaH ..)
 | x::y::r,h=>((h x (QaH ..)).append hs).append (okS.join hs (ts:=y::r) λt ht=>h t (Qav _ ht))
theorem Lw:abc.cps.toList.length=26:=by trivial
theorem eE:abc.cps.toList.Nodup:=by trivial
theorem XH:okS abc:=λc hc=>hc
theorem RL:∀ts:YF,(Str.join "" ts).length=(ts.map (·.length)).sum
 | []=>rfl
 | [x]=>by show x.length=_;simp
 | x::y::r=>by
  show ((x++"")++Str.join "" (y::r)).length=_;rw[Str.length_append,Str.length_append,RL (y::r),QbG (a:=x),List.sum_cons];have:(Str.ofString "").length=0:=by trivial
  rw[this];omega
theorem jL (n:Nat):(Builtin.Str.strSliceIndices (some 1) none 1 n).length<=n - 1:=by
 unfold Builtin.Str.strSliceIndices sliceRange;simp only[show (1:Int) > 0 by decide,if_true,Qbk,List.length_range,show ¬((1:Int) < 0) by decide,if_false];split
 ·rw[Int.ediv_one];omega
 ·exact QbS _
theorem Wr (z:Str):(Txt.slice z (some 1) none).length<=z.length - 1:=by
 have h:=jL z.length;unfold Txt.slice;split
 ·rename_i hc;rw[Qbc] at hc;have:=Qca hc.2;omega
 ·show (List.filterMap _ _).toArray.size<=_;rw[QaS];exact QbO (List.length_filterMap_le _ _) h
theorem eF {r:Int} (h0:0<=r) (h1:r < 26):∃c,atI abc.cps.toList r=some c/\okS ⟨#[c]⟩:=by
 have hl:r.toNat < abc.cps.toList.length:=by rw[Lw];omega
 refine⟨abc.cps.toList[r.toNat],?_,λc hc=>?_⟩
 ·have:=Fq (xs:=abc.cps.toList) (j:=r.toNat) (Qai hl);rw[Int.toNat_of_nonneg h0] at this;exact this
 ·have:c=abc.cps.toList[r.toNat]:=by simpa using hc
  rw[this];exact XH _ (List.getElem_mem hl)
theorem QJ:∀{ys:YF},(∀y∈ys,y.length=1)->(ys.map (·.length)).sum=ys.length
 | [],_=>rfl
 | y::r,h=>by
  rw[QbG,List.sum_cons,h y (QaH ..),QJ (ys:=r) λt ht=>h t (Qav _ ht),Qbe];omega
theorem K9 (ys:YF):(ys.map V.str).all Hw=true:=by
 rw[List.all_map,Qbj];intro _ _;rfl
theorem Jm (z:Str):∀ys:YF,inV (.str z) (ys.map V.str)=true ↔ z∈ys
 | []=>by constructor <;> intro h <;> cases h
 | y::r=>by
  have ih:=Jm z r;unfold inV at ih ⊢;rw[QbG,QbK,Bool.or_eq_true,ih,QbD];have:eqV (.str y) (.str z)=true ↔ z=y:=by
   show (y == z)=true ↔ z=y;rw[beq_iff_eq];exact⟨λh=>h.symm,λh=>h.symm⟩
  rw[this]
theorem Pu:∀{l m:YF},l.Nodup->(∀x∈l,x∈m)->l.length<=m.length
 | [],_,_,_=>QbS _
 | a::r,m,nd,h=>by
  have ha:=h a (QaH ..);obtain⟨n1,n2⟩:=Qbr.mp nd;have:=Pu (l:=r) (m:=m.erase a) n2 λx hx=>(List.mem_erase_of_ne (λe=>n1 (by rw[<-e];exact hx))).mpr (h x (Qav _ hx));rw[List.length_erase_of_mem ha] at this;have hp:=List.length_pos_of_mem ha;rw[Qbe];omega
theorem Tj (rest:Str) {ys:YF} (h:ys.length < 26):∃(i c:Nat),abc.cps[i]?=some c/\((⟨#[c]⟩ : Str)++rest)∉ys:=by
 refine Classical.byContradiction λhn=>?_;have hall:∀x∈abc.cps.toList.map (λc=>(⟨#[c]⟩ : Str)++rest),x∈ys:=λx hx=>by
  obtain⟨c,hc,rfl⟩:=QbP.mp hx;obtain⟨i,hi⟩:=Qax hc;refine Classical.byContradiction λhm=>hn ⟨i,c,by simpa using hi,hm⟩
 have nd:(abc.cps.toList.map (λc=>(⟨#[c]⟩ : Str)++rest)).Nodup:=by
  refine List.pairwise_map.mpr (eE.imp λ{c d} hne e=>hne ?_);have e1:(#[c]++rest.cps:Array Nat)=#[d]++rest.cps:=congrArg Str.cps e;have e2:=congrArg Array.toList e1;rw[Array.toList_append,Array.toList_append] at e2;injection e2
 have:=Pu nd hall;rw[Qbk,Lw] at this;omega
theorem QbZ {α : Type} {l:List α} {i:Nat} {x:α} (h:l[i]?=some x):l.take (i+1)=l.take i++[x]:=by rw[List.take_add_one,h];rfl
theorem VJ {X:Cx} {K:YD} (h:X.K=K) (hc:X.calm=true):Ea X (.builtin "max") (λxs H Q=>∃(p:Addr) (ns:List Int),xs=[.ref p]/\SqL K H p (ns.map V.int)/\0 < ns.length/\∀M,M∈ns->(∀a,a∈ns->a<=M)->Q (.int M) H):=h ▸ Qa hc
theorem Af.Ht {a b:Addr} {H HH H':Hp} (s:Af b H HH) (t:Af a HH H') (f:H a=none):Af b H H':=λc o e n=>t _ _ (s _ _ e n) λz=>by rw[z,f] at e;cases e
theorem mZ {i:Int} (h0:0<=i) (h6:i < 6) {a b c d e f:Int} (P:Int->Prop) (ha:P a) (hb:P b) (hc:P c) (hd:P d) (he:P e) (hf:P f):∃p,atI [V.int a,.int b,.int c,.int d,.int e,.int f] i=some (.int p)/\P p:=by
 have:i=0\/i=1\/i=2\/i=3\/i=4\/i=5:=by omega
 rcases this with rfl | rfl | rfl | rfl | rfl | rfl
 ·exact⟨_,rj,ha⟩
 ·exact⟨_,rj,hb⟩
 ·exact⟨_,rj,hc⟩
 ·exact⟨_,rj,hd⟩
 ·exact⟨_,rj,he⟩
 ·exact⟨_,rj,hf⟩
def Wn:Sp:=λvs H Q _=>∃(b:Addr) (n:Nat),vs=[.ref b]/\Bm H b n/\n<=9000/\∀z H',1<=z.length->z.length<=8->okS z->Bm H' b (n+9)->Af b H H'->Q (.str z) H'
def Od:Sp:=λvs H Q _=>∃(b:Addr) (n many:Nat),vs=[.ref b,.int many]/\Bm H b n/\n<=8000/\many<=20 /\
 ∀l (ys:YF) H',H l=none->ys.length=many->(∀y∈ys,(1<=y.length/\y.length<=8)/\okS y)->ys.Nodup->H' l=some (.lst (ys.map V.str))->Bm H' b (n+9*many)->Af b H H'->Q (.ref l) H'
section
variable {P:Program} {w:World} {K:YD} {mg:YB} {base:Heap}
abbrev jp(a:PySem.Addr):Option L2.V:=some (.ref a)
abbrev xn:YF:=["_law_place","_law_letters","_law_bag_here"]
theorem aF (C:Code K mg "_law_name" JZ Jf) (T:Nm mg) (Az:Good P w K mg base "_law_take" 1 El IV):Good P w K mg base "_law_name" 2 Jf Wn:=by
 refine C.good Ph (λvs H Q E h=>?_) (λf cdv A outer s H vs Q E hr h=>?_)
 ·obtain⟨b,n,rfl,_⟩:=h;rfl
 obtain⟨b,n,rfl,hb,hn,q⟩:=h;refine⟨_,(Ag (Bj (i:=1) Ph.nd rfl (Or.inr rfl) Bp)
 (Ah (Ax (Fb PySem.F.plainAttrs_str PySem.F.slot_str_join PySem.F.type_str_join aP Bp (Aa (Cp (N':=xn) rfl (Bt.of (src:=[none,some 1,some 0]) (Aj JZ) xk rfl rfl rfl (by trivial) (by trivial) (by trivial) rfl (by trivial)) (Dw rfl T.range (Aa (Av BL Ac (Ao Az hr (Aa (pv 0) (Aa Ac Ab)))) Ab)) (λ_ _ _ _=>(Ak (i:=0) (show List.Nodup (xn:YF) by trivial) rfl (Or.inl rfl))) (λ_ _ _ _=>CV) (λ_ _ _ _=>(Bg cZ (pv 1) (Ao Az hr (Aa (pv 2) (Aa Ac Ab))) (λ_ _=>rfl)))) Ab))))),?_⟩
 show let R0:TS:=_;Aq _ R0 _ _ _;intro R0;refine⟨rj,_,rj,b,n,8,rj,hb,by omega,by decide,by decide,λr H1 r0 r1 hb1 sb1=>⟨_,_,rj,rj,_,rj,by omega,by omega,λl hl=>?_⟩⟩;have nbl:b≠l:=hb1.nb hl;have fl:H l=none:=sb1.free hb1.ex hl;let J0:YN:=λi U HH=>∃(u:Option V) (ys:YF),U=[u,some (.str abc),jp b]/\HH l=some (.lst (ys.map V.str))/\ys.length=i/\(∀y∈ys,y.length=1/\okS y)/\Bm HH b (n+1+i)/\Af b H HH;refine Kp J0
  ⟨none,[],rj,Ad,rj,(λy hy=>by cases hy),hb1.same (Ae hl _),sb1.trans (Af.of (Ae hl _))⟩ (λi U HH hi h=>?_) (fun U HH h=>?_)
 ·obtain⟨u,ys,rfl,e1,e2,e3,e4,e5⟩:=h;refine⟨_,rj,_,rj,b,_,26,rj,e4,by omega,by decide,by decide,λr' HA r0' r1' hbA sA=>?_⟩;obtain⟨c,ec,oc⟩:=eF r0' r1';have eA:=sA _ _ e1 nbl.symm;refine⟨_,_,c,rj,rj,Al (by show abc.cps.size<=1000;rw[<-QaB,Lw];decide),ec,_,eA,Bc (by rw[Qbk];omega),_,ys++[⟨#[c]⟩],rj,?_,?_,λy hy=>?_,hbA.Fv Af.upd nbl,?_⟩
  ·rw[Ad,Qbn];rfl
  ·rw[QaF,e2];rfl
  ·rcases Qbm.mp hy with h | h
   ·exact e3 y h
   ·have:y=⟨#[c]⟩:=by simpa using h
    rw[this];exact⟨rj,oc⟩
  ·exact λc o e ne=>Af.upd _ _ (sA _ _ (e5 _ _ e ne) ne) λz=>by rw[z,fl] at e;cases e
 obtain⟨u,ys,rfl,e1,e2,e3,e4,e5⟩:=h;have hs:=QJ λy hy=>(e3 y hy).1;refine⟨_,l,ys,rj,rj,SqL.of e1,?_,?_⟩
 ·rw[hs];have:(Str.ofString "").length=0:=by trivial
  rw[this];omega
 ·have hj:=RL ys;rw[hs] at hj;refine q _ HH ?_ ?_ ?_ (e4.mono (by omega)) e5
  ·show 1<=(Builtin.Str.glued _ ys).length;rw[StrLaws.glued_eq_join];show 1<=(Str.join "" ys).length;omega
  ·show (Builtin.Str.glued _ ys).length<=8;rw[StrLaws.glued_eq_join];show (Str.join "" ys).length<=8;omega
  ·show okS (Builtin.Str.glued _ ys);rw[StrLaws.glued_eq_join];exact okS.join (λc hc=>by cases hc) λy hy=>(e3 y hy).2
abbrev xo:YF:=["_law_one","_law_name_here","_law_found"]
theorem Yw (C:Code K mg "_law_names" Jr GJ) (T:Nm mg) (Y9:Good P w K mg base "_law_name" 2 Jf Wn):Good P w K mg base "_law_names" 3 GJ Od:=by
 refine C.good G3 (λvs H Q E h=>?_) (λf cdv A outer s H vs Q E hr h=>?_)
 ·obtain⟨b,n,many,rfl,_⟩:=h;rfl
 obtain⟨b,n,many,rfl,hb,hn,hm,q⟩:=h;refine⟨_,(Ag (Bj (i:=2) G3.nd rfl (Or.inr rfl) (Ca Ab))
 (Ag (Dk Qbo rfl (Dw rfl T.range (Aa (pv 1) Ab)) (Ak (i:=3) G3.nd rfl (Or.inl rfl))
 (Ag (Bj (i:=4) G3.nd rfl (Or.inr rfl) (Ao Y9 hr (Aa (pv 0) Ab)))
 (Ag (BX (Br Jt (pv 4) (pv 2) (by with_unfolding_all rfl)) (Ah (Bj (i:=4) G3.nd rfl (Or.inr rfl) (Bg Cj (Cp (N':=xo) rfl (Bt.of (src:=[none,some 4,some 2]) (Aj Jr) xm rfl rfl rfl (by trivial) (by trivial) (by trivial) rfl (by trivial)) (Rg Bp) (λ_ _ _ _=>(Ak (i:=0) (show List.Nodup (xo:YF) by trivial) rfl (Or.inl rfl))) (λ_ _ _ _=>(K5 (Br (Ku (K:=K) rfl) (Av Ny (pv 0) (Cy KH (pv 1) (CN Ac) Dc)) (pv 2) (by with_unfolding_all rfl)))) (λ_ _ _ _=>(Av Ny (pv 0) (Cy KH (pv 1) (CN Ac) Dc)))) Ac (λ_ _=>rfl)))) Bs)
 (Ah (Ec (Fb Qal Qaj Qak Dl (pv 2) (Aa (pv 4) Ab)))))))
 (Ah (Ax (pv 2))))),?_⟩
 show let R0:TS:=_;let R1:TS:=_;let R2:TS:=Aq (GX _ R1 _) R0;let R3:TS:=Aq _ R2;let R4:TS:=Aq (Ft _ _ R3) _;Aq _ R4 _ _ _;intro R0 R1 R2 R3 R4;refine⟨Al (by show 0<=1000;decide),λlf hlf=>?_⟩;have s1:=Ae hlf (.lst []);have nbf:b≠lf:=hb.nb hlf;refine⟨_,rj,_,rj,by omega,by omega,?_⟩;rw[QaY];let J1:YN:=λi U HH=>∃(u3 u4:Option V) (ys:YF),U=[jp b,some (.int many),jp lf,u3,u4]/\HH lf=some (.lst (ys.map V.str))/\ys.length=i/\(∀y∈ys,(1<=y.length/\y.length<=8)/\okS y)/\Bm HH b (n+9*i)/\Af b H HH/\ys.Nodup;refine FT J1
  ⟨_,_,[],rj,Ad,rj,(λy hy=>by cases hy),hb.same s1,Af.of s1,List.nodup_nil⟩ (λi U HH hi h=>?_) (fun U HH h=>?_)
 ·obtain⟨u3,u4,ys,rfl,e1,e2,e3,e4,e5,e6⟩:=h;refine⟨_,rj,b,_,rj,e4,by omega,λz HA hz1 hz oz hbA sA=>?_⟩;have eA:=sA _ _ e1 nbf.symm;have s5:Af b H HA:=e5.trans sA;have fin:∀(y:Str) (HB:Hp),(1<=y.length/\y.length<=8)->okS y->y∉ys->HB lf=some (.lst (ys.map V.str))->Bm HB b (n+9*i+9)->Af b H HB->∃(u3 u4:Option V) (ys':YF),[some (V.ref b),some (.int many),jp lf,some (.int (0+(i:Int))),some (.str y)]=[jp b,some (.int many),jp lf,u3,u4] /\
    upd HB lf (.lst (ys.map V.str++[.str y])) lf=some (.lst (ys'.map V.str))/\ys'.length=i+1/\(∀y∈ys',(1<=y.length/\y.length<=8)/\okS y)/\Bm (upd HB lf (.lst (ys.map V.str++[.str y]))) b (n+9*(i+1))/\Af b H (upd HB lf (.lst (ys.map V.str++[.str y])))/\ys'.Nodup:=λy HB hy oy hny hB bB sB=>by
   refine⟨_,_,ys++[y],rj,?_,?_,λx hx=>?_,(bB.Fv Af.upd nbf).mono (by omega),Af.Ht sB Af.upd hlf,Uj e6 hny⟩
   ·rw[Ad,Qbn];rfl
   ·rw[QaF,e2];rfl
   ·rcases Qbm.mp hx with h | h
    ·exact e3 x h
    ·have:x=y:=by simpa using h
     rw[this];exact⟨hy,oy⟩
  refine⟨_,rj,_,rj,lf,_,rj,.inl (SqL.of eA),rj,K9 ys,_,rj,Hq (λ_=>?_) (λhnz=>?_)⟩
  ·refine⟨_,rj,λl2 hl2=>?_⟩;have nfl:lf≠l2:=Aw eA hl2;have hsl:(Txt.slice z (some 1) none).length<=7:=QbO (Wr z) (by omega);have osl:=oz.slice (some 1) none;let J2:YN:=λi U HH=>∃(u:Option V) (ws:YF),U=[u,some (.str z),jp lf]/\HH=upd HA l2 (.lst (ws.map V.str))/\ws.length<=i/\(∀y∈ws,((1<=y.length/\y.length<=8)/\okS y)/\y∉ys)/\((∃j c,j < i/\abc.cps[j]?=some c/\((⟨#[c]⟩ : Str)++Txt.slice z (some 1) none)∉ys)->ws≠[]);refine M8 J2
    ⟨none,[],rfl,rfl,QbR _,(λy hy=>by cases hy),λ⟨j,c,hj,_⟩=>absurd hj (Nat.not_lt_zero _)⟩ (λj c U HH hc h=>?_) (fun U HH h=>?_)
   ·obtain⟨u,ws,rfl,rfl,l1,l2',l3⟩:=h;have hj:j < 26:=by
     have:=(Qad.mp hc).1;rw[<-QaB] at this;have e:=Lw;unfold abc at e;omega
    have oc:okS ⟨#[c]⟩:=λd hd=>by
     have:d=c:=by simpa using hd
     rw[this];exact XH c (Array.mem_toList_iff.mpr (Array.mem_of_getElem? hc))
    have hlen:(⟨#[c]⟩ : Str).length+(Txt.slice z (some 1) none).length<=sizeLine:=by
     show 1+_<=sizeLine;rw[QbV];omega
    have hzl:z.length<=sizeLine:=by rw[QbV];omega
    have eB:upd HA l2 (.lst (ws.map V.str)) lf=some (.lst (ys.map V.str)):=by rw[Bd nfl];exact eA
    refine⟨_,rj,_,rj,_,rj,_,rj,hzl,_,_,rj,rj,hlen,_,rj,lf,_,rj,.inl (SqL.of eB),rj,K9 ys,_,rj,Hq (λt=>?_) (λt=>?_)⟩
    ·refine⟨_,rj,_,rj,_,rj,_,rj,hzl,_,_,rj,rj,hlen,_,Ad,Bc (by rw[Qbk];omega),_,ws++[(⟨#[c]⟩ : Str)++Txt.slice z (some 1) none],rj,?_,?_,λy hy=>?_,λ_ e=>?_⟩
     ·rw[TY,Qbn];rfl
     ·rw[QaF];show _+1<=_;omega
     ·rcases Qbm.mp hy with h | h
      ·exact l2' y h
      ·have e:y=(⟨#[c]⟩ : Str)++Txt.slice z (some 1) none:=by simpa using h
       rw[e];refine⟨⟨⟨by rw[Str.length_append];show 1<=1+_;omega,by rw[Str.length_append];show 1+_<=8;omega⟩,oc.append osl⟩,λhin=>?_⟩;have t:(!inV (.str ((⟨#[c]⟩ : Str)++Txt.slice z (some 1) none)) (ys.map V.str))=true:=t;rw[(Jm _ ys).mpr hin] at t;cases t
     ·have:=congrArg List.length e;rw[QaF] at this;simp at this
    ·refine⟨_,ws,rfl,rfl,by omega,l2',λ⟨j',c',hj',hc',hn'⟩=>?_⟩;by_cases ej:j'=j
     ·subst ej;have ec:c'=c:=by
       have e1:abc.cps[j']?=some c:=hc;rw[hc'] at e1;exact Qbp e1
      subst ec;exfalso;apply t;show (!inV (.str ((⟨#[c']⟩ : Str)++Txt.slice z (some 1) none)) (ys.map V.str))=true;cases e:inV (.str ((⟨#[c']⟩ : Str)++Txt.slice z (some 1) none)) (ys.map V.str) with
      | false=>rfl
      | true=>exact absurd ((Jm _ ys).mp e) hn'
     ·exact l3 ⟨j',c',by omega,hc',hn'⟩
   ·obtain⟨u,ws,rfl,rfl,l1,l2',l3⟩:=h;obtain⟨j,c,hc,hnot⟩:=Tj (Txt.slice z (some 1) none) (ys:=ys) (by omega);have hws:=l3 ⟨j,c,(Qad.mp hc).1,hc,hnot⟩;cases ws with
    | nil=>exact absurd rfl hws
    | cons w0 wr=>
     obtain⟨⟨y1,y2⟩,y3⟩:=l2' w0 (QaH ..);have s2:=Ae hl2 (.lst ((w0::wr).map V.str));have eB:=s2 _ _ eA;refine⟨l2,_,_,_,rj,rj,SqL.of Ad,Fq (xs:=(w0::wr).map V.str) (j:=0) rfl,?_⟩;refine⟨_,rj,.inl ⟨rj,_,SqL.of eB⟩,_,rj,lf,_,_,rj,rj,eB,Bc (by rw[Qbk];omega),?_⟩;exact fin w0 _ y1 y2 y3 eB (hbA.same s2) (s5.trans (Af.of s2))
  ·refine⟨_,rj,.inl ⟨rj,_,SqL.of eA⟩,_,rj,lf,_,_,rj,rj,eA,Bc (by rw[Qbk];omega),?_⟩;exact fin z HA ⟨hz1,hz⟩ oz (λhin=>hnz ((Jm _ ys).mpr hin)) eA hbA s5
 ·obtain⟨u3,u4,ys,rfl,e1,e2,e3,e4,e5,e6⟩:=h;exact⟨_,rj,q lf ys HH hlf e2 e3 e6 e1 e4 e5⟩
end
structure Dev where
 kind:Str
 addr:Int
structure Place where
 kind:Str
 addr:Int
 spur:List Dev
def Iv (H:Hp) (v:V) (d:Dev):Prop:=∃t,v=.ref t/\H t=some (.tup [.str d.kind,.int d.addr])
def Dg (H:Hp) (v:V) (p:Place):Prop:=∃t u vs,v=.ref t/\H t=some (.tup [.str p.kind,.int p.addr,.ref u])/\H u=some (.tup vs)/\Paired (Iv H) vs p.spur
def LoopAt (H:Hp) (v:V) (ps:List Place):Prop:=∃t vs,v=.ref t/\H t=some (.tup vs)/\Paired (Dg H) vs ps
theorem Iv.tups {H H':Hp} (s:Bf H H') {v:V} {d:Dev} (h:Iv H v d):Iv H' v d:=by
 obtain⟨t,e,q⟩:=h;exact⟨t,e,s _ _ q⟩
theorem Dg.tups {H H':Hp} (s:Bf H H') {v:V} {d:Place} (h:Dg H v d):Dg H' v d:=by
 obtain⟨t,u,vs,e,q1,q2,q3⟩:=h;exact⟨t,u,vs,e,s _ _ q1,s _ _ q2,Paired.Df q3 λ_ _ z=>z.tups s⟩
theorem LoopAt.tups {H H':Hp} (s:Bf H H') {v:V} {d:List Place} (h:LoopAt H v d):LoopAt H' v d:=by
 obtain⟨t,vs,e,q1,q2⟩:=h;exact⟨t,vs,e,s _ _ q1,Paired.Df q2 λ_ _ z=>z.tups s⟩
theorem Paired.Km {α β : Type} {F:α->β->Prop}:∀{l₁ : List α} {l₂ : List β} {i:Nat} {x:α},Paired F l₁ l₂->l₁[i]?=some x->∃y,l₂[i]?=some y/\F x y
 | _,_,_,_,.nil,h=>by simp at h
 | _,_,0,_,.cons a _,h=>by simp at h;subst h;exact⟨_,rfl,a⟩
 | _,_,i+1,x,.cons _ t,h=>by
  obtain⟨y,h1,h2⟩:=Paired.Km (i:=i) (x:=x) t (by simpa using h);exact⟨y,by simpa using h1,h2⟩
theorem QbU {α β : Type} {F:α->β->Prop} {a:α} {b:β} (h:F a b):∀{l₁ : List α} {l₂ : List β},Paired F l₁ l₂->Paired F (l₁++[a]) (l₂++[b])
 | _,_,.nil=>.cons h .nil
 | _,_,.cons x t=>.cons x (QbU h t)
def Et (k:Str):Prop:=k="seeker"\/k="knob"\/k="bell"\/k="door"
structure OkP (p:Place):Prop where
 spur:p.spur.length<=3
 kinds:∀d∈p.spur,Et d.kind
 form:(p.kind="opener"/\p.addr=0/\p.spur=[])\/Et p.kind
structure Zone where
 name:Str
 adr:List Int
def Hf (H:Hp) (v:V) (z:Zone):Prop:=∃t u,v=.ref t/\H t=some (.tup [.str z.name,.ref u])/\H u=some (.tup (z.adr.map V.int))
theorem Hf.tups {H H':Hp} (s:Bf H H') {v:V} {z:Zone} (h:Hf H v z):Hf H' v z:=by
 obtain⟨t,u,e,q1,q2⟩:=h;exact⟨t,u,e,s _ _ q1,s _ _ q2⟩
def MF (k:Str):Bool:=inV (.str k) [.str "seeker",.str "knob"]
def Fw (p:Place):List Dev:=⟨p.kind,p.addr⟩::p.spur
def Gd (ds:List Dev):List Int:=(ds.filter λd=>MF d.kind).map (·.addr)
def Gw (ps:List Place):List Int:=ps.flatMap λp=>Gd (Fw p)
abbrev YU:=List (List Place)
def Ep (ls:YU):List Int:=ls.flatMap Gw
theorem Wb (ds:List Dev) (d:Dev):Gd (ds++[d])=Gd ds++(if MF d.kind=true then [d.addr] else []):=by
 unfold Gd;rw[List.filter_append,Qbn];congr 1;by_cases h:MF d.kind=true
 ·rw[if_pos h];simp[List.filter,h]
 ·rw[if_neg h];simp[List.filter,h]
theorem Wa (ps:List Place) (p:Place):Gw (ps++[p])=Gw ps++Gd (Fw p):=by unfold Gw;rw[QaC];simp
theorem UW (ls:YU) (ps:List Place):Ep (ls++[ps])=Ep ls++Gw ps:=by unfold Ep;rw[QaC];simp
def ptS (a:List Int×Int) (p:Place):List Int×Int:=if V.str p.kind=V.str "opener" then (a.1++[a.2],0) else (a.1,a.2+1+(p.spur.length:Int))
def pst (ps:List Place):List Int×Int:=ps.foldl ptS ([],0)
def Gq (ps:List Place):List Int:=(pst ps).1++[(pst ps).2]
theorem Yj (ps:List Place) (p:Place):pst (ps++[p])=ptS (pst ps) p:=by unfold pst;rw[List.foldl_append];rfl
abbrev Ms:Stmt:=top 26
abbrev Jg:YF:=["_law_bag_here","_law_numbers","_law_most_places"]
theorem GD:Bk ["_law_bag_here","_law_numbers","_law_most_places","_law_places","_law_at","_law_many","_law_some","_law_way"] Jg (Aj Ms):=by ac_rfl
abbrev KN:Stmt:=top 27
abbrev Hz:YF:=["_law_places"]
theorem GZ:Bk ["_law_places","_law_found","_law_kind","_law_address","_law_spur"] Hz (Aj KN):=by ac_rfl
def Cw (a b:Addr) (H H':Hp):Prop:=∀c o,H c=some o->c≠a->c≠b->H' c=some o
theorem Cw.trans {a b:Addr} {H H1 H2:Hp} (x:Cw a b H H1) (y:Cw a b H1 H2):Cw a b H H2:=λc o e n m=>y _ _ (x _ _ e n m) n m
theorem Cw.l {a b:Addr} {H H1:Hp} (x:Af a H H1):Cw a b H H1:=λc o e n _=>x _ _ e n
theorem Cw.r {a b:Addr} {H H1:Hp} (x:Af b H H1):Cw a b H H1:=λc o e _ m=>x _ _ e m
theorem Cw.of {a b:Addr} {H H1:Hp} (x:Same H H1):Cw a b H H1:=λc o e _ _=>x _ _ e
theorem Cw.Ht {a b p:Addr} {H HH H':Hp} (s:Cw a b H HH) (t:Af p HH H') (f:H p=none):Cw a b H H':=λc o e n m=>t _ _ (s _ _ e n m) λz=>by rw[z,f] at e;cases e
def adP (p:Place):List Int:=if V.str p.kind=V.str "opener" then [] else p.addr::p.spur.map (·.addr)
def adL (ps:List Place):List Int:=ps.flatMap adP
theorem Ng (ps:List Place) (p:Place):adL (ps++[p])=adL ps++adP p:=by unfold adL;rw[QaC];simp
def opP:Place:=⟨"opener",0,[]⟩
theorem fQ:OkP opP:=⟨by show 0<=3;decide,(λd hd=>by cases hd),.inl ⟨rfl,rfl,rfl⟩⟩
theorem d9:adP opP=[]:=if_pos rfl
theorem NQ {k:Str} (h:Et k):¬V.str k=V.str "opener":=by
 rcases h with rfl | rfl | rfl | rfl <;> decide +kernel
theorem Uz {i:Int} (h0:0<=i) (h4:i < 4):∃k,atI [V.str "seeker",.str "knob",.str "bell",.str "door"] i=some (.str k)/\Et k:=by
 have:i=0\/i=1\/i=2\/i=3:=by omega
 rcases this with rfl | rfl | rfl | rfl
 ·exact⟨_,rj,.inl rfl⟩
 ·exact⟨_,rj,.inr (.inl rfl)⟩
 ·exact⟨_,rj,.inr (.inr (.inl rfl))⟩
 ·exact⟨_,rj,.inr (.inr (.inr rfl))⟩
theorem M7 {xs:YG} {k:Nat} (h:k<=xs.length):Eo xs (some (k:Int)) none=xs.drop k:=by
 unfold Eo;rw[HT.Ke,HT.Li,Nat.min_eq_left h];exact List.take_of_length_le (by rw[Qbh];omega)
theorem Ws {n:Nat} (h:0 < n):seqIndex? 0 n=some 0:=by
 unfold seqIndex?;simp only[if_neg (show ¬(0:Int) < 0 by decide)];rw[if_pos (by simp;omega)];rfl
def Wo:Sp:=λvs H Q _=>∃(b nb:Addr) (n mp:Nat) (ns:List Int),vs=[.ref b,.ref nb,.int mp]/\Bm H b n/\n<=5000/\b≠nb/\H nb=some (.lst (ns.map V.int))/\1<=mp/\mp<=12/\ns.length<=100 /\
 ∀t ps ns' H',LoopAt H' (.ref t) ps->(∀p∈ps,OkP p)->1<=ps.length->ps.length<=mp->ns=adL ps++ns'->H' nb=some (.lst (ns'.map V.int))->Bm H' b (n+100)->Cw b nb H H'->Q (.ref t) H'
def QM:Sp:=λvs H Q _=>∃(t:Addr) (ps:List Place),vs=[.ref t]/\LoopAt H (.ref t) ps/\(∀p∈ps,OkP p)/\ps.length<=100/\∀l H',H' l=some (.lst ((Gq ps).map V.int))->Same H H'->Q (.ref l) H'
def ZX (b nb lp:Addr) (mp:Int) (H:Hp) (n:Nat) (ns:List Int) (i:Nat) (U : St) (HH:Hp):Prop:=
 ∃u4 u5 u6 u7 vs ps ns',U=[jp b,jp nb,some (.int mp),jp lp,u4,u5,u6,u7]/\HH lp=some (.lst vs)/\Paired (Dg HH) vs ps/\ps.length=i/\(∀p∈ps,OkP p)/\ns=adL ps++ns'/\HH nb=some (.lst (ns'.map V.int))/\Bm HH b (n+1+7*i)/\Cw b nb H HH
section
variable {P:Program} {w:World} {K:YD} {mg:YB} {base:Heap}
theorem aG (C:Code K mg "_law_loop" Ms Jg) (T:Nm mg) (Az:Good P w K mg base "_law_take" 1 El IV):Good P w K mg base "_law_loop" 2 Jg Wo:=by
 refine C.good GD (λvs H Q E h=>?_) (λf cdv A outer s H vs Q E hr h=>?_)
 ·obtain⟨b,nb,n,mp,ns,rfl,_⟩:=h;rfl
 obtain⟨b,nb,n,mp,ns,rfl,hb,hn,nbn,hnb,oE,hmp,hns,q⟩:=h;refine⟨_,(Ag (Bj (i:=3) GD.nd rfl (Or.inl rfl) (Ca Ab))
 (Ag (Dk Qbo rfl (Dw rfl T.range (Aa (Av BL Ac (Ao Az hr (Aa (pv 0) (Aa (pv 2) Ab)))) Ab)) (Ak (i:=4) GD.nd rfl (Or.inl rfl))
 (Ag (Bj (i:=5) GD.nd rfl (Or.inl rfl) (Av BL Ac (Bg Cj (@Ca _ _ _ _ (@Aa _ _ _ _ _ (@Ac _ _ _ _) (@Aa _ _ _ _ _ (@Ac _ _ _ _) (@Aa _ _ _ _ _ (@Ac _ _ _ _) (@Aa _ _ _ _ _ (@Ac _ _ _ _) (@Aa _ _ _ _ _ (@Ac _ _ _ _) (@Aa _ _ _ _ _ (@Ac _ _ _ _) (@Ab _) Am) Am) Am) Am) Am) Am)) (Ao Az hr (Aa (pv 0) (Aa Ac Ab))) (λ_ _=>rfl))))
 (Ah (BX (PW.pt (Dm (Br Ju (Ao Az hr (Aa (pv 0) (Aa Ac Ab))) Ac (Bq _)) (Fy (Br Kf (Ai Ay rfl T.len Bx (Aa (pv 1) Ab)) (pv 5) (Bq _))))) (Ah (Ec (Fb Qal Qaj Qak Dl (pv 3) (Aa (Bo (Aa Bp (Aa Ac (Aa (Bo Ab) Ab)))) Ab)))) (Ag (Bj (i:=6) GD.nd rfl (Or.inl rfl) (Ca Ab))
 (Ag (Dk Qbo rfl (Dw rfl T.range (Aa (pv 5) Ab)) (Ak (i:=7) GD.nd rfl (Or.inl rfl))
 (Ah (Ec (Fb Qal Qaj Qak Dl (pv 6) (Aa (Bo (Aa (Bg Cj (Ca (Aa Bp (Aa Bp (Aa Bp (Aa Bp Ab))))) (Ao Az hr (Aa (pv 0) (Aa Ac Ab))) (λ_ _=>rfl)) (Aa (Fb Qal PySem.F.slot_list_pop PySem.F.type_list_pop Rx (pv 1) (Aa Ac Ab)) Ab))) Ab)))))
 (Ah (Ec (Fb Qal Qaj Qak Dl (pv 3) (Aa (Av Em (Bg Cj (pv 6) Ac (λ_ _=>rfl)) (Bo (Aa (CQ Cv rfl T.tuple BR (Aa (Cy T8 (pv 6) (CN Ac) Dc) Ab)) Ab))) Ab))))))))))
 (Ah (Ax (CQ Cv rfl T.tuple BR (Aa (pv 3) Ab)))))),?_⟩
 show let R0:TS:=_;let R1:TS:=_;let R2:TS:=_;let R3:TS:=_;let R4:TS:=Aq (Ft _ _ R3) R2;let R5:TS:=Aq _ R4;let R6:TS:=GX _ R1 R5;let R7:TS:=Aq _ R6;let R8:TS:=Aq (Ft _ _ R7) R0;Aq _ R8 _ _ _;intro R0 R1 R2 R3 R4 R5 R6 R7 R8;refine⟨Al (by show 0<=1000;decide),λlp hlp=>?_⟩;have s0:=Ae hlp (.lst []);have nlb:b≠lp:=hb.nb hlp;have nln:nb≠lp:=Aw hnb hlp;refine⟨_,rj,_,rj,b,n,_,rj,hb.same s0,by omega,by omega,by omega,λr H1 r0 r1 hb1 sb1=>⟨_,_,rj,rj,_,rj,by omega,by omega,?_⟩⟩;obtain⟨rn,hrn⟩ : ∃rn:Nat,r=rn:=⟨r.toNat,by omega⟩;subst hrn;rw[show ((1:Int)+(rn:Int)).toNat=rn+1 by omega];have oh:∀{H2 H3:Hp},H2 lp=some (.lst [])->True:=λ_=>True.intro;refine FT (ZX b nb lp mp H n ns) ⟨_,_,_,_,[],[],ns,rj,sb1 _ _ Ad nlb.symm,.nil,rj,(λp hp=>by cases hp),rj,sb1 _ _ (s0 _ _ hnb) nbn.symm,hb1,(Cw.of s0).trans (Cw.l sb1)⟩ (λi U HH hi h=>?_) (fun U HH h=>?_)
 ·obtain⟨u4,u5,u6,u7,vs,ps,ns',rfl,e1,e2,e3,e4,e5,e6,e7,e8⟩:=h;have oJ:i < 12:=by omega
  have hlv:=QbF e2;refine⟨Al (by show 6<=1000;decide),λl6 hl6=>?_⟩;have s6:=Ae hl6 (.lst [.int 0,.int 0,.int 0,.int 1,.int 2,.int 3]);refine⟨_,rj,b,_,6,rj,e7.same s6,by omega,by decide,by decide,λr2 HA r20 r21 hbA sA=>?_⟩;obtain⟨m,em,m0,m3⟩:=mZ r20 r21 (a:=0) (b:=0) (c:=0) (d:=1) (e:=2) (f:=3) (λp=>0<=p/\p<=3) (by decide) (by decide) (by decide) (by decide) (by decide) (by decide);obtain⟨mn,hmn⟩ : ∃mn:Nat,m=mn:=⟨m.toNat,by omega⟩;subst hmn;refine⟨l6,_,_,_,rj,rj,SqL.of (sA _ _ Ad (e7.nb hl6).symm),em,_,_,rj,rj,?_⟩;refine⟨_,rj,b,_,4,rj,hbA,by omega,by decide,by decide,λr3 HB r30 r31 hbB sB=>⟨rj,_,rj,?_⟩⟩;have sHB:Af b HH HB:=((Af.of s6).trans sA).trans sB;have tHB:Bf HH HB:=sHB.tup e7.DW;have f1:=sHB _ _ e1 nlb.symm;have f2:Paired (Dg HB) vs ps:=Paired.Df e2 λ_ _ z=>z.tups tHB;have f6:=sHB _ _ e6 nbn.symm;have f8:Cw b nb H HB:=e8.trans (Cw.l sHB);have opn:∀eo,HB eo=none->∀t,upd HB eo (.tup []) t=none->ZX b nb lp mp H n ns (i+1) [jp b,jp nb,some (.int mp),jp lp,some (.int (0+(i:Int))),some (.int (1+(mn:Int))),u6,u7] (upd (upd (upd HB eo (.tup [])) t (.tup [.str "opener",.int 0,.ref eo])) lp (.lst (vs++[.ref t]))):=λeo heo t ht=>by
   have t1:=Ae heo (.tup []);have t2:=Ae ht (.tup [.str "opener",.int 0,.ref eo]);have f1':=t2 _ _ (t1 _ _ f1);have nt:∀zs,(upd (upd HB eo (.tup [])) t (.tup [.str "opener",.int 0,.ref eo])) lp≠some (.tup zs):=λzs z=>by rw[f1'] at z;cases z
   have tu:=Bf.upd (o:=.lst (vs++[.ref t])) nt;refine⟨_,_,_,_,vs++[.ref t],ps++[opP],ns',rj,Ad,?_,by rw[QaF,e3];rfl,λp hp=>?_,?_,?_,?_,?_⟩
   ·refine QbU ⟨t,eo,[],rj,tu _ _ Ad,tu _ _ (t2 _ _ Ad),.nil⟩ (Paired.Df f2 λ_ _ z=>(z.tups (Bf.of (t1.trans t2))).tups tu)
   ·rcases Qbm.mp hp with z | z
    ·exact e4 p z
    ·have:p=opP:=by simpa using z
     rw[this];exact fQ
   ·rw[Ng,d9,Qbs];exact e5
   ·rw[Bd nln];exact t2 _ _ (t1 _ _ f6)
   ·exact (((hbB.same t1).same t2).Fv Af.upd nlb).mono (by omega)
   ·exact (f8.trans (Cw.of (t1.trans t2))).Ht Af.upd hlp
  refine Hq (λ_=>?_) (λ_=>?_)
  ·refine⟨_,rj,.inl ⟨rj,_,SqL.of f1⟩,Al (by show 0<=1000;decide),λeo heo=>⟨Al (by show 3<=1000;decide),λt ht=>⟨lp,_,_,rj,rj,Ae ht _ _ _ (Ae heo _ _ _ f1),Bc (by omega),opn eo heo t ht⟩⟩⟩
  ·refine⟨_,rj,nb,_,rj,.inl (SqL.of f6),_,rj,_,_,rj,rj,_,rj,Hq (λ_=>?_) (λcc=>?_)⟩
   ·refine⟨_,rj,.inl ⟨rj,_,SqL.of f1⟩,Al (by show 0<=1000;decide),λeo heo=>⟨Al (by show 3<=1000;decide),λt ht=>⟨lp,_,_,rj,rj,Ae ht _ _ _ (Ae heo _ _ _ f1),Bc (by omega),opn eo heo t ht⟩⟩⟩
   ·have cc:¬(((ns'.map V.int).length:Nat):Int) < 1+(mn:Int):=λz=>cc (Qby z);rw[Qbk] at cc;refine⟨Al (by show 0<=1000;decide),λls hls=>?_⟩;have sl:=Ae hls (.lst []);have iC:lp≠ls:=Aw f1 hls;have cO:nb≠ls:=Aw f6 hls;have cP:b≠ls:=hbB.nb hls;refine⟨_,rj,_,rj,by omega,by omega,?_⟩;rw[show ((1:Int)+(mn:Int)).toNat=mn+1 by omega];have oG:H ls=none->True:=λ_=>True.intro;let J0:YN:=λj U HC=>∃u7 xs ds ns2,U=[jp b,jp nb,some (.int mp),jp lp,some (.int (0+(i:Int))),some (.int (1+(mn:Int))),jp ls,u7]/\HC ls=some (.lst xs)/\Paired (Iv HC) xs ds/\ds.length=j/\(∀d∈ds,Et d.kind)/\ns'=ds.map (·.addr)++ns2/\HC nb=some (.lst (ns2.map V.int))/\Bm HC b (n+1+7*i+1+1+j)/\HC lp=some (.lst vs)/\Paired (Dg HC) vs ps/\(∀c o,HB c=some o->c≠b->c≠nb->HC c=some o);refine FT J0
     ⟨_,[],[],ns',rj,Ad,.nil,rj,(λd hd=>by cases hd),rj,sl _ _ f6,hbB.same sl,sl _ _ f1,Paired.Df f2 λ_ _ z=>z.tups (Bf.of sl),λc o e _ _=>sl _ _ e⟩ (λj U HC hj h=>?_) (fun U HC h=>?_)
    ·obtain⟨u7,xs,ds,ns2,rfl,g1,g2,g3,g4,g5,g6,g7,g8,g9,g10⟩:=h;refine⟨_,rj,.inl ⟨rj,_,SqL.of g1⟩,Al (by show 4<=1000;decide),λl4 hl4=>?_⟩;have s4:=Ae hl4 (.lst [.str "seeker",.str "knob",.str "bell",.str "door"]);refine⟨_,rj,b,_,4,rj,g7.same s4,by omega,by decide,by decide,λr4 HD r40 r41 hbD sD=>?_⟩;obtain⟨k,ek,hk⟩:=Uz r40 r41;have sCD:Af b HC HD:=(Af.of s4).trans sD;have tCD:Bf HC HD:=sCD.tup g7.DW;have g6':=sCD _ _ g6 nbn.symm;cases ns2 with
     | nil=>
      rw[Qbs] at g5;have:=congrArg List.length g5;rw[Qbk,g3] at this;omega
     | cons a0 ns3=>
      refine⟨l4,_,_,_,rj,rj,SqL.of (sD _ _ Ad (g7.nb hl4).symm),ek,_,rj,.inl ⟨rj,_,SqL.of g6'⟩,nb,_,0,0,.int a0,rj,rj,g6',by decide,by decide,Ws (by rw[Qbk];show 0 < _+1;omega),rj,Al (by show 2<=1000;decide),λt ht=>?_⟩;have tn:Bf HD (upd HD nb (.lst (((a0::ns3).map V.int).eraseIdx 0))):=Bf.upd λzs z=>by rw[g6'] at z;cases z
      have tt:=Ae ht (.tup [.str k,.int a0]);have gls:upd HD nb (.lst (((a0::ns3).map V.int).eraseIdx 0)) ls=some (.lst xs):=by rw[Bd cO.symm];exact sCD _ _ g1 cP.symm
      refine⟨ls,_,_,rj,rj,tt _ _ gls,Bc (by rw[QbF g2];omega),?_⟩;have nt:∀zs,(upd (upd HD nb (.lst (((a0::ns3).map V.int).eraseIdx 0))) t (.tup [.str k,.int a0])) ls≠some (.tup zs):=λzs z=>by rw[tt _ _ gls] at z;cases z
      have tu:=Bf.upd (o:=.lst (xs++[.ref t])) nt;have bI:Bf HC (upd (upd (upd HD nb (.lst (((a0::ns3).map V.int).eraseIdx 0))) t (.tup [.str k,.int a0])) ls (.lst (xs++[.ref t]))):=(tCD.trans tn).trans ((Bf.of tt).trans tu);refine⟨_,xs++[.ref t],ds++[⟨k,a0⟩],ns3,rj,Ad,QbU ⟨t,rj,tu _ _ Ad⟩ (Paired.Df g2 λ_ _ z=>z.tups bI),by rw[QaF,g3];rfl,λd hd=>?_,?_,?_,?_,?_,Paired.Df g9 λ_ _ z=>z.tups bI,λc o e n1 n2=>?_⟩
      ·rcases Qbm.mp hd with z | z
       ·exact g4 d z
       ·have:d=⟨k,a0⟩:=by simpa using z
        rw[this];exact hk
      ·rw[g5,Qbn,QaZ];rfl
      ·rw[Bd cO,tt _ _ Ad];rfl
      ·exact ((hbD.Fv Af.upd nbn).same tt).Fv Af.upd cP
      ·rw[Bd iC,tt _ _ (by rw[Bd nln.symm];exact sCD _ _ g8 nlb.symm)]
      ·have e':=sCD _ _ (g10 _ _ e n1 n2) n1;rw[Bd (λz=>by rw[z,hls] at e;cases e),tt _ _ (by rw[Bd n2];exact e')]
    ·obtain⟨u7,xs,ds,ns2,rfl,g1,g2,g3,g4,g5,g6,g7,g8,g9,g10⟩:=h;cases ds with
     | nil=>cases g3
     | cons d0 dr=>
      cases g2 with
      | @cons x0 _ xr _ hd0 hdr=>
       obtain⟨t0,rfl,ht0⟩:=hd0;have lxr:=QbF hdr;have ldr:dr.length=mn:=by simpa using g3
       refine⟨_,rj,.inl ⟨rj,_,SqL.of g8⟩,_,rj,ls,_,_,_,rj,rj,SqL.of g1,Fq (xs:=.ref t0::xr) (j:=0) rfl,_,rj,_,rj,ls,_,rj,SqL.of g1,λp1 hp1=>?_⟩;have ec:Eo (.ref t0::xr) (some 1) none=xr:=M7 (xs:=.ref t0::xr) (k:=1) (by simp);rw[ec] at *;have sp1:=Ae hp1 (.lst xr);refine⟨p1,_,rj,.inl ⟨SqL.of Ad,λtu htu=>⟨Al (by show 1<=1000;decide),λt1 ht1=>?_⟩⟩⟩;have sp2:=Ae htu (.tup xr);have sp3:=Ae ht1 (.tup [.ref tu]);have sp:=(sp1.trans sp2).trans sp3;refine⟨t0,t1,_,_,rj,rj,sp _ _ ht0,Ad,Al (by show 2+1<=1000;decide),λtp HE hE sE=>?_⟩;have spE:=sp.trans sE;have g8':=spE _ _ g8;refine⟨lp,_,_,rj,rj,g8',Bc (by omega),?_⟩;have nt:∀zs,HE lp≠some (.tup zs):=λzs z=>by rw[g8'] at z;cases z
       have tv:=Bf.upd (o:=.lst (vs++[.ref tp])) nt;have okp:OkP ⟨d0.kind,d0.addr,dr⟩:=⟨by show dr.length<=3;omega,λd hd=>g4 d (Qav _ hd),.inr (g4 d0 (QaH ..))⟩;refine⟨_,_,_,_,vs++[.ref tp],ps++[⟨d0.kind,d0.addr,dr⟩],ns2,rj,Ad,?_,by rw[QaF,e3];rfl,λp hp=>?_,?_,?_,?_,?_⟩
       ·refine QbU ⟨tp,tu,xr,rj,tv _ _ hE,tv _ _ (sE _ _ (sp3 _ _ Ad)),Paired.Df hdr λ_ _ z=>(z.tups (Bf.of spE)).tups tv⟩ (Paired.Df g9 λ_ _ z=>(z.tups (Bf.of spE)).tups tv)
       ·rcases Qbm.mp hp with z | z
        ·exact e4 p z
        ·have:p=⟨d0.kind,d0.addr,dr⟩:=by simpa using z
         rw[this];exact okp
       ·rw[Ng,e5,g5,QaZ];congr 1;have:adP ⟨d0.kind,d0.addr,dr⟩=d0.addr::dr.map (·.addr):=if_neg (NQ (g4 d0 (QaH ..)));rw[this];rfl
       ·rw[Bd nln];exact spE _ _ g6
       ·exact ((g7.same spE).Fv Af.upd nlb).mono (by omega)
       ·refine Cw.Ht (λc o e n1 n2=>spE _ _ (g10 _ _ (f8 _ _ e n1 n2) n1 n2)) Af.upd hlp
 ·obtain⟨u4,u5,u6,u7,vs,ps,ns',rfl,e1,e2,e3,e4,e5,e6,e7,e8⟩:=h;refine⟨_,rj,lp,_,rj,.inl ⟨SqL.of e1,λt ht=>?_⟩⟩;have st:=Ae ht (.tup vs);exact q t ps ns' _ ⟨t,vs,rj,Ad,Paired.Df e2 λ_ _ z=>z.tups (Bf.of st)⟩ e4 (by omega) (by omega) e5 (st _ _ e6) ((e7.same st).mono (by omega)) (e8.trans (Cw.of st))
end
abbrev Hj:Stmt:=top 28
abbrev Je:YF:=["_law_bag_here","_law_most_loops","_law_most_places"]
abbrev xc:YF:=["_law_bag_here","_law_most_loops","_law_most_places","_law_start","_law_stride","_law_numbers","_law_own","_law_first","_law_at","_law_loops","_law_loop_here","_law_most","_law_told","_law_places","_law_kind","_law_address","_law_spur","_law_zones","_law_names_here","_law_name_here","_law_some"]
theorem Bu:Bk xc Je (Aj Hj):=by ac_rfl
theorem Zf (xs:YG) (y:V):atI (xs++[y]) (-1)=some y:=by
 unfold atI ixN;rw[if_neg (by decide),QaF,Qat,if_pos (by omega),show (-1+((xs.length+1:Nat):Int)).toNat=xs.length by omega];show (xs++[y])[xs.length]?=some y;rw[List.getElem?_append_right (QbR _),Nat.sub_self];rfl
theorem Y4 (xs:YG) (y:V):ixN (xs++[y]).length (-1)=some xs.length:=by
 unfold ixN;rw[if_neg (by decide),QaF,Qat,if_pos (by omega),show (-1+((xs.length+1:Nat):Int)).toNat=xs.length by omega]
theorem Ye (xs:YG) (y z:V):(xs++[y]).set xs.length z=xs++[z]:=by
 rw[List.set_append_right _ _ (QbR _),Nat.sub_self];rfl
theorem mY {i:Int} (h0:0<=i) (h9:i < 9) {a b c d e f g h k:Int} (P:Int->Prop) (ha:P a) (hb:P b) (hc:P c) (hd:P d) (he:P e) (hf:P f) (hg:P g) (hh:P h) (hk:P k):∃p,atI [V.int a,.int b,.int c,.int d,.int e,.int f,.int g,.int h,.int k] i=some (.int p)/\P p:=by
 have:i=0\/i=1\/i=2\/i=3\/i=4\/i=5\/i=6\/i=7\/i=8:=by omega
 rcases this with rfl | rfl | rfl | rfl | rfl | rfl | rfl | rfl | rfl
 ·exact⟨_,rj,ha⟩
 ·exact⟨_,rj,hb⟩
 ·exact⟨_,rj,hc⟩
 ·exact⟨_,rj,hd⟩
 ·exact⟨_,rj,he⟩
 ·exact⟨_,rj,hf⟩
 ·exact⟨_,rj,hg⟩
 ·exact⟨_,rj,hh⟩
 ·exact⟨_,rj,hk⟩
theorem Xn (ns:List Int):(ns.map V.int).all Hw=true:=by
 rw[List.all_map,Qbj];intro _ _;rfl
theorem Lb {xs:YG} {m:Nat} (h:m<=xs.length):Eo xs none (some (m:Int))=xs.take m:=by
 unfold Eo;rw[HT.Ke,HT.Li,Nat.min_eq_left h];rfl
theorem Paired.U6 {α β : Type} {F:α->β->Prop}:∀{l:List α} {r:List β} (n:Nat),Paired F l r->Paired F (l.take n) (r.take n)
 | _,_,0,_=>.nil
 | _,_,_+1,.nil=>.nil
 | _,_,n+1,.cons h t=>.cons h (Paired.U6 n t)
theorem Paired.VD {α β : Type} {F:α->β->Prop}:∀{l:List α} {r:List β} (n:Nat),Paired F l r->Paired F (l.drop n) (r.drop n)
 | _,_,0,h=>h
 | _,_,_+1,.nil=>.nil
 | _,_,n+1,.cons h t=>Paired.VD n t
theorem Paired.app {α β : Type} {F:α->β->Prop}:∀{a₁ b₁ : List α} {a₂ b₂ : List β},Paired F a₁ a₂->Paired F b₁ b₂->Paired F (a₁++b₁) (a₂++b₂)
 | _,_,_,_,.nil,t=>t
 | _,_,_,_,.cons r s,t=>.cons r (Paired.app s t)
theorem Ud:∀(ps:List Place) (a:List Int×Int),(ps.foldl ptS a).1.sum+(ps.foldl ptS a).2=a.1.sum+a.2+((adL ps).length:Int)
 | [],a=>by show _=_+_+((0:Nat):Int);simp
 | p::r,a=>by
  rw[List.foldl_cons,Ud r];have e:adL (p::r)=adP p++adL r:=by unfold adL;rw[QaX]
  rw[e,QaF];unfold ptS adP;by_cases h:V.str p.kind=V.str "opener"
  ·rw[if_pos h,if_pos h,List.sum_append];simp
  ·rw[if_neg h,if_neg h,Qbe,Qbk];simp only;omega
theorem Ww:∀(ps:List Place) (a:List Int×Int),(∀m∈a.1,0<=m)->0<=a.2->(∀m∈(ps.foldl ptS a).1,0<=m)/\0<=(ps.foldl ptS a).2
 | [],a,h1,h2=>⟨h1,h2⟩
 | p::r,a,h1,h2=>by
  rw[List.foldl_cons];refine Ww r _ ?_ ?_
  ·unfold ptS;split
   ·intro m hm;rcases Qbm.mp hm with z | z
    ·exact h1 m z
    ·have:m=a.2:=by simpa using z
     rw[this];exact h2
   ·exact h1
  ·unfold ptS;split
   ·exact Int.le_refl _
   ·show 0<=a.2+1+(p.spur.length:Int);omega
theorem Wh:∀{l:List Int},(∀m∈l,0<=m)->0<=l.sum/\∀m∈l,m<=l.sum
 | [],_=>⟨Int.le_refl _,λm h=>by cases h⟩
 | x::r,h=>by
  obtain⟨h1,h2⟩:=Wh (l:=r) λm hm=>h m (Qav _ hm);have h0:=h x (QaH ..);rw[List.sum_cons];refine⟨by omega,λm hm=>?_⟩;rcases QbD.mp hm with rfl | hm
  ·omega
  ·have:=h2 m hm;omega
theorem Ys (ps:List Place):∀m∈Gq ps,0<=m:=by
 have h:=Ww ps ([],0) (λm hm=>by cases hm) (Int.le_refl _);intro m hm;rcases Qbm.mp hm with z | z
 ·exact h.1 m z
 ·have:m=(pst ps).2:=by simpa using z
  rw[this];exact h.2
theorem Pq (ps:List Place):(Gq ps).sum=((adL ps).length:Int):=by
 have h:=Ud ps ([],0);unfold Gq;rw[List.sum_append];have:(pst ps).1.sum+(pst ps).2=((adL ps).length:Int):=by
  have e:(pst ps).1.sum+(pst ps).2=([]:List Int).sum+0+((adL ps).length:Int):=h;rw[e];simp
 simp;omega
theorem Yt (ps:List Place):∀m∈Gq ps,m<=((adL ps).length:Int):=λm hm=>by
 have:=(Wh (Ys ps)).2 m hm;rw[Pq] at this;exact this
theorem T5:∀{l:List Int},1<=l.sum->∃m∈l,1<=m
 | [],h=>by simp at h
 | x::r,h=>by
  rw[List.sum_cons] at h;by_cases hx:1<=x
  ·exact⟨x,QaH ..,hx⟩
  ·obtain⟨m,h1,h2⟩:=T5 (l:=r) (by omega);exact⟨m,Qav _ h1,h2⟩
structure OkL (ps:List Place):Prop where
 lo:1<=ps.length
 hi:ps.length<=12
 ok:∀p∈ps,OkP p
def Cd (ls:YU):List Int:=ls.flatMap adL
structure SN (most:Int) (ja:YU) (jn:List Zone):Prop where
 nd:(Cd ja).Nodup
 bd:∀x∈Cd ja,1<=x/\x<=99
 cnt:1<=(Cd ja).length/\(Cd ja).length<=30
 mo:1<=most/\most<=30
 few:∀ps∈ja,∀m∈Gq ps,m<=most
 zin:∀z∈jn,∀x∈z.adr,x∈Ep ja
 znd:(jn.flatMap (·.adr)).Nodup
 zup:∀z∈jn,z.adr.Pairwise (· < ·)/\1<=z.adr.length/\z.adr.length<=30
 gH:jn.length<=8
 znm:∀z∈jn,(1<=z.name.length/\z.name.length<=8)/\okS z.name
 zdi:(jn.map (·.name)).Nodup
def Wm:Sp:=λvs H Q _=>∃(b:Addr) (n ml mp:Nat),vs=[.ref b,.int ml,.int mp]/\Bm H b n/\n<=1000/\1<=ml/\ml<=3/\2<=mp/\mp<=12 /\
 ∀t Ls zs vs zvs ja jn most H',H' t=some (.tup [.int most,.ref Ls,.ref zs])->H' Ls=some (.tup vs)->Paired (LoopAt H') vs ja->(∀ps∈ja,OkL ps)->1<=ja.length->ja.length<=3->H' zs=some (.tup zvs)->Paired (Hf H') zvs jn->SN most ja jn->Bm H' b (n+3000)->Af b H H'->Q (.ref t) H'
def bM:TS:=λD U H=>∃(b nb f0:Addr) (n mp:Nat) (ns:List Int),U[0]?=some (some (.ref b))/\U[5]?=some (some (.ref nb))/\U[2]?=some (some (.int mp))/\U[7]?=some (some (.ref f0))/\H f0=some (.tup [])/\Bm H b n/\n<=4000/\b≠nb/\H nb=some (.lst (ns.map V.int))/\2<=mp/\mp<=12/\ns.length<=100 /\
 ∀t vs ps ns' H',H' t=some (.tup vs)->Paired (Dg H') vs ps->(∀p∈ps,OkP p)->ps.length+1<=mp->ns=adL ps++ns'->H' nb=some (.lst (ns'.map V.int))->Bm H' b (n+101)->Cw b nb H H'->D.nx (U.set 7 (some (.ref t))) H'
section
variable {P:Program} {w:World} {K:YD} {mg:YB} {base:Heap}
theorem WQ (C:Code K mg "_law_parts" KN Hz) (T:Nm mg):Good P w K mg base "_law_parts" 1 Hz QM:=by
 refine C.good GZ (λvs H Q E h=>?_) (λf cdv A outer s H vs Q E hr h=>?_)
 ·obtain⟨t,ps,rfl,_⟩:=h;rfl
 obtain⟨t,ps,rfl,⟨t',vs,et,ht,hps⟩,hok,h100,q⟩:=h;cases et;refine⟨_,(Ag (Bj (i:=1) GZ.nd rfl (Or.inl rfl) (Ca (Aa Ac Ab)))
 (Ag (Dk Qbo rfl (DQ (pv 0)) (Fz rfl (Bl (Ak (i:=2) GZ.nd rfl (Or.inl rfl)) (Bl (Ak (i:=3) GZ.nd rfl (Or.inl rfl)) (Bl (Ak (i:=4) GZ.nd rfl (Or.inl rfl)) DK))))
 (Ah (BX (Br Ju (pv 2) Bp (Bq _)) (Ah (Ec (Fb Qal Qaj Qak Dl (pv 1) (Aa Ac Ab)))) (Ah (Jc (Av BL (Av BL (Bg Cj (pv 1) (Qx Nk Ac) (λ_ _=>rfl)) Ac) (Ai Ay rfl T.len Bx (Aa (pv 4) Ab))) (Ri (pv 1) (Qx Nk Ac) set_list))))))
 (Ah (Ax (pv 1))))),?_⟩
 show let R0:TS:=_;let R1:TS:=_;let R2:TS:=GX _ R0 R1;let R3:TS:=Aq (Ft _ _ R2) _;Aq _ R3 _ _ _;intro R0 R1 R2 R3;refine⟨Al (by show 1<=1000;decide),λlf hlf=>?_⟩;have s1:=Ae hlf (.lst [.int 0]);have lvs:=QbF hps;refine⟨_,rj,t,rj,⟨_,SqT.of (s1 _ _ ht)⟩,?_⟩;let J0:YN:=λi U HH=>∃(u2 u3 u4:Option V),U=[jp t,jp lf,u2,u3,u4]/\HH lf=some (.lst ((pst (ps.take i)).1.map V.int++[.int (pst (ps.take i)).2]))/\(pst (ps.take i)).1.length<=i/\Same H HH;refine Lq (xs:=vs) J0 ⟨_,_,_,rj,Ad,QbR _,s1⟩ (λi U HH _ h=>?_) (λi x U HH hx h=>?_) (fun U HH h=>?_)
 ·obtain⟨u2,u3,u4,rfl,e1,e2,e3⟩:=h;exact SqT.of (e3 _ _ ht)
 ·obtain⟨u2,u3,u4,rfl,e1,e2,e3⟩:=h;obtain⟨p,hp,tp,up,ws,rfl,h1,h2,h3⟩:=Paired.Km hps hx;have hi:=(Qaf.mp hx).1;have et:pst (ps.take (i+1))=ptS (pst (ps.take i)) p:=by rw[QbZ hp,Yj]
  have lws:=QbF h3;generalize pst (ps.take i)=a at *;refine⟨tp,_,rj,SqT.of (e3 _ _ h1),rj,_,_,rj,_,_,rj,_,_,rj,rj,?_⟩;refine⟨_,rj,rj,_,rj,Hq (λhc=>?_) (λhc=>?_)⟩
  ·have hc:V.str p.kind=V.str "opener":=QaU hc;have et:pst (ps.take (i+1))=(a.1++[a.2],0):=by rw[et];exact if_pos hc
   refine⟨_,rj,.inl ⟨rj,_,SqL.of e1⟩,lf,_,_,rj,rj,e1,Bc (by rw[QaF,Qbk];show _+1<=_;omega),_,_,_,rj,?_,?_,e3.CG Af.upd hlf⟩
   ·rw[Ad,et,Qbn];rfl
   ·rw[et,QaF];show _+1<=_;omega
  ·have hc:¬V.str p.kind=V.str "opener":=λz=>hc (Qby z);have et:pst (ps.take (i+1))=(a.1,a.2+1+(p.spur.length:Int)):=by rw[et];exact if_neg hc
   refine⟨_,rj,_,rj,lf,_,_,_,rj,rj,SqL.of e1,Zf _ _,_,_,rj,rj,_,rj,up,_,rj,.inr (SqT.of (e3 _ _ h2)),_,_,rj,rj,_,rj,_,rj,lf,_,_,_,rj,rj,e1,Y4 _ _,_,_,_,rj,?_,by rw[et];show a.1.length<=_;omega,e3.CG Af.upd hlf⟩;rw[Ad,Ye,et,<-lws]
 ·obtain⟨u2,u3,u4,rfl,e1,e2,e3⟩:=h;rw[lvs,Qbf] at e1;refine⟨_,rj,q lf HH (by unfold Gq;rw[Qbn];exact e1) e3⟩
end
theorem bW {α : Type} {l:List α} {i:Nat} {x:α} (h:l[i]?=some x):l.set i x=l:=by
 obtain⟨hi,e⟩:=Qaf.mp h;subst e;exact List.set_getElem_self hi
theorem Ln.tups {H H':Hp} {vs:YG} {ls:YU} (s:Bf H H') (h:Paired (LoopAt H) vs ls):Paired (LoopAt H') vs ls:=Paired.Df h λ_ _ z=>z.tups s
theorem Pn.tups {H H':Hp} {vs:YG} {ls:List Place} (s:Bf H H') (h:Paired (Dg H) vs ls):Paired (Dg H') vs ls:=Paired.Df h λ_ _ z=>z.tups s
theorem Iz (a b:List Place):adL (a++b)=adL a++adL b:=by unfold adL;rw[QaC]
theorem Qh (ls:YU) (ps:List Place):Cd (ls++[ps])=Cd ls++adL ps:=by unfold Cd;rw[QaC];simp
def wr (ds:List Dev):Nat:=(ds.filter λd=>!decide (V.str d.kind=V.str "opener")).length
theorem MJ (w:Int):∀ws:List Int,inV (.int w) (ws.map V.int)=decide (w∈ws)
 | []=>rfl
 | x::r=>by
  have ih:=MJ w r;unfold inV at ih ⊢;rw[QbG,QbK,ih];have h2:eqV (.int x) (.int w)=decide (w=x):=by
   show (x == w)=decide (w=x);rw[Qbv,beq_iff_eq,QaQ];exact⟨λh=>h.symm,λh=>h.symm⟩
  rw[h2,Qbv,Bool.or_eq_true,QaQ,QaQ,QaQ,QbD]
def Dr (p:Int):Prop:=p=1\/p=2\/p=4\/p=5\/p=7\/p=8\/p=10\/p=13\/p=98
def JG (r sd:Int) (n:Nat):List Int:=(List.range n).map λk:Nat=>(r+sd*(0+(k:Int))) % 99+1
theorem WX (r sd:Int) (n:Nat):JG r sd (n+1)=JG r sd n++[(r+sd*(0+(n:Int))) % 99+1]:=by
 unfold JG;rw[List.range_succ,Qbn];rfl
theorem aM (r sd:Int) (n:Nat):∀x∈JG r sd n,1<=x/\x<=99:=λx hx=>by
 obtain⟨k,_,rfl⟩:=QbP.mp hx;have h1:=Qbw (r+sd*(0+(k:Int))) (show (99:Int)≠0 by decide);have h2:=QaO (r+sd*(0+(k:Int))) (show (0:Int) < 99 by decide);omega
theorem aL {r sd:Int} (h:Dr sd):(JG r sd 30).Nodup:=by
 unfold JG;refine List.pairwise_map.mpr ?_;refine List.Pairwise.imp_of_mem (λ{i j} hi hj hlt=>?_) (List.pairwise_lt_range (n:=30));have hi:=List.mem_range.mp hi;have hj:=List.mem_range.mp hj;intro e;unfold Dr at h;rcases h with rfl | rfl | rfl | rfl | rfl | rfl | rfl | rfl | rfl <;> omega
theorem TV:∀{ds:List Dev},(Gd ds).Sublist (ds.map (·.addr))
 | ds=>by unfold Gd;exact List.Sublist.map _ (List.filter_sublist ..)
theorem QF {p:Place} (h:OkP p):(Gd (Fw p)).Sublist (adP p):=by
 rcases h.form with⟨f1,f2,f3⟩| f1
 ·have e:adP p=[]:=if_pos (by rw[f1]);have e2:Gd (Fw p)=[]:=by
   unfold Fw Gd;rw[f3,f1];have:MF "opener"=false:=by trivial
   rw[List.filter_cons_of_neg (by rw[this];decide)];rfl
  rw[e,e2];exact .slnil
 ·have e:adP p=(Fw p).map (·.addr):=if_neg (NQ f1);rw[e];exact TV
theorem Mg:∀{ps:List Place},(∀p∈ps,OkP p)->(Gw ps).Sublist (adL ps)
 | [],_=>.slnil
 | p::r,h=>by
  have e1:Gw (p::r)=Gd (Fw p)++Gw r:=by unfold Gw;rw[QaX]
  have e2:adL (p::r)=adP p++adL r:=by unfold adL;rw[QaX]
  rw[e1,e2];exact (QF (h p (QaH ..))).append (Mg λq hq=>h q (Qav _ hq))
theorem Kz:∀{ls:YU},(∀ps∈ls,OkL ps)->(Ep ls).Sublist (Cd ls)
 | [],_=>.slnil
 | ps::r,h=>by
  have e1:Ep (ps::r)=Gw ps++Ep r:=by unfold Ep;rw[QaX]
  have e2:Cd (ps::r)=adL ps++Cd r:=by unfold Cd;rw[QaX]
  rw[e1,e2];exact (Mg (h ps (QaH ..)).ok).append (Kz λq hq=>h q (Qav _ hq))
theorem Ur {ps:List Place}:∀(ja:YU),ps∈ja->(adL ps).length<=(Cd ja).length
 | [],h=>by cases h
 | a::r,h=>by
  have e:Cd (a::r)=adL a++Cd r:=by unfold Cd;rw[QaX]
  rw[e,QaF];rcases QbD.mp h with rfl | h
  ·omega
  ·have:=Ur r h;omega
structure Kq (ws:List Int) (ts:List Int) (jn:List Zone) (ys:YF):Prop where
 nd:(jn.flatMap (·.adr)++ts).Nodup
 sub:∀x∈jn.flatMap (·.adr)++ts,x∈ws
 up:∀z∈jn,z.adr.Pairwise (· < ·)/\1<=z.adr.length/\z.adr.length<=30
 nm:(jn.map (·.name)).Sublist ys
theorem Kq.next {ws ts ms ss:List Int} {jn:List Zone} {ys:YF} {y:Str} (h:Kq ws ts jn ys) (hp:ms.Perm ss) (hsub:ss.Sublist ts) (hr:ms.Pairwise (·<=·)) (h30:ms.length<=30) (y1:1<=ms.length):Kq ws (ts.filter λx=>!decide (x∈ms)) (jn++[⟨y,ms⟩]) (ys++[y]):=by
 obtain⟨n1,n2,n3⟩:=Qba.mp h.nd;have nms:ms.Nodup:=hp.nodup_iff.mpr (hsub.nodup n2);have hin:∀x∈ms,x∈ts:=λx hx=>hsub.subset (hp.mem_iff.mp hx);have e:(jn++[(⟨y,ms⟩ : Zone)]).flatMap (·.adr)=jn.flatMap (·.adr)++ms:=by rw[QaC];simp
 refine⟨?_,λx hx=>?_,λz hz=>?_,?_⟩
 ·rw[e,Qba];refine⟨Qba.mpr ⟨n1,nms,λa ha b hb=>n3 a ha b (hin b hb)⟩,n2.filter _,λa ha b hb=>?_⟩;obtain⟨hb1,hb2⟩:=List.mem_filter.mp hb;rcases Qbm.mp ha with ha | ha
  ·exact n3 a ha b hb1
  ·rintro rfl;rw[Qby ha] at hb2;cases hb2
 ·rw[e] at hx;rcases Qbm.mp hx with hx | hx
  ·rcases Qbm.mp hx with hx | hx
   ·exact h.sub x (Qaw _ hx)
   ·exact h.sub x (Qar _ (hin x hx))
  ·exact h.sub x (Qar _ (List.mem_filter.mp hx).1)
 ·rcases Qbm.mp hz with hz | hz
  ·exact h.up z hz
  ·have:z=⟨y,ms⟩:=by simpa using hz
   rw[this];refine⟨?_,y1,h30⟩;refine List.Pairwise.imp₂ (S:=λa b:Int=>a≠b) (λa b h1 h2=>by omega) hr nms
 ·rw[Qbn];exact h.nm.append (List.Sublist.refl _)
theorem Kq.none {ws ts:List Int} {jn:List Zone} {ys:YF} {y:Str} {g:Int->Bool} (h:Kq ws ts jn ys):Kq ws (ts.filter g) jn (ys++[y]):=by
 obtain⟨n1,n2,n3⟩:=Qba.mp h.nd;refine⟨Qba.mpr ⟨n1,n2.filter _,λa ha b hb=>n3 a ha b (List.mem_filter.mp hb).1⟩,λx hx=>?_,h.up,h.nm.trans (List.sublist_append_left ..)⟩;rcases Qbm.mp hx with hx | hx
 ·exact h.sub x (Qaw _ hx)
 ·exact h.sub x (Qar _ (List.mem_filter.mp hx).1)
section
variable {P:Program} {w:World} {K:YD} {mg:YB} {base:Heap}
abbrev xh:YF:=["_law_other","_law_number"]
abbrev xt:YF:=["_law_k","_law_start","_law_stride"]
abbrev xv:YF:=["_law_number","_law_bag_here"]
theorem aD (C:Code K mg "_law_plan" Hj Je) (T:Nm mg) (Az:Good P w K mg base "_law_take" 1 El IV) (RQ:Good P w K mg base "_law_loop" 2 Jg Wo) (Xf:Good P w K mg base "_law_parts" 1 Hz QM) (K8:Good P w K mg base "_law_names" 3 GJ Od) :
  Good P w K mg base "_law_plan" 4 Je Wm:=by
 refine C.good Bu (λvs H Q E h=>?_) (λf cdv A outer s H vs Q E hr h=>?_)
 ·obtain⟨b,n,ml,mp,rfl,_⟩:=h;rfl
 obtain⟨b,n,ml,mp,rfl,hb,hn,oF,hml,j4,hmp,q⟩:=h;refine⟨_,(Ag (Bj (i:=3) Bu.nd rfl (Or.inr rfl) (Ao Az hr (Aa (pv 0) (Aa Ac Ab))))
 (Ag (Bj (i:=4) Bu.nd rfl (Or.inr rfl) (Bg Cj (@Ca _ _ _ _ (@Aa _ _ _ _ _ (@Ac _ _ _ _) (@Aa _ _ _ _ _ (@Ac _ _ _ _) (@Aa _ _ _ _ _ (@Ac _ _ _ _) (@Aa _ _ _ _ _ (@Ac _ _ _ _) (@Aa _ _ _ _ _ (@Ac _ _ _ _) (@Aa _ _ _ _ _ (@Ac _ _ _ _) (@Aa _ _ _ _ _ (@Ac _ _ _ _) (@Aa _ _ _ _ _ (@Ac _ _ _ _) (@Aa _ _ _ _ _ (@Ac _ _ _ _) (@Ab _) Am) Am) Am) Am) Am) Am) Am) Am) Am)) (Ao Az hr (Aa (pv 0) (Aa Ac Ab))) (λ_ _=>rfl)))
 (Ag (Ol (i:=5) Bu.nd rfl (Or.inl rfl) (N':=xt) rfl (Bt.of (src:=[none,some 3,some 4]) (Aj Hj) xc rfl rfl rfl (by trivial) (by trivial) (by trivial) rfl (by trivial)) (Dw rfl T.range (Aa Ac Ab)) (λ_ _ _ _=>(Ak (i:=0) (show List.Nodup (xt:YF) by trivial) rfl (Or.inl rfl))) (λ_ _ _ _=>CV) (λ_ _ _ _=>(Av BL (Av G8 (Av BL (pv 1) (Av FN (pv 2) (pv 0))) Ac) Ac)))
 (Ag (Bj (i:=6) Bu.nd rfl (Or.inl rfl) (Fb Qal PySem.F.slot_list_pop PySem.F.type_list_pop Rx (pv 5) (Aa Ac Ab)))
 (Ag (Bj (i:=7) Bu.nd rfl (Or.inl rfl) (Bo Ab))
 (Ag (PS.weak (t':=bM) (BX (Br Io (Ao Az hr (Aa (pv 0) (Aa Ac Ab))) Ac (Bq _)) (Ah (Bj (i:=7) Bu.nd rfl (Or.inl rfl) (Ao RQ hr (Aa (pv 0) (Aa (pv 5) (Aa (Av Nx (pv 2) Ac) Ab)))))) Bs) (λD U H h=>by
    obtain⟨b,nb,f0,n,mp,ns,e0,e5,e2,e7,hf0,hb,hn,nbn,hnb,hmp,oA,hns,q⟩:=h;refine⟨_,e0,b,n,8,rj,hb,by omega,by decide,by decide,λr H1 r0 r1 hb1 sb1=>⟨_,_,rj,rj,_,rj,Hq (λ_=>?_) (λ_=>?_)⟩⟩
    ·refine⟨_,e0,_,e5,_,e2,_,_,rj,rj,b,nb,n+1,mp - 1,ns,?_,hb1,by omega,nbn,sb1 _ _ hnb nbn.symm,by omega,by omega,hns,λt ps ns' H2 ⟨t',vs,et,ht,hp⟩ hok h1 h2 hns' hnb' hb2 s2=>?_⟩
     ·show [V.ref b,.ref nb,.int ((mp:Int) - 1)]++[]=_;rw[show ((mp:Int) - 1)=((mp - 1:Nat):Int) by omega];rfl
     ·cases et;exact q t vs ps ns' H2 ht hp hok (by omega) hns' hnb' (hb2.mono (by omega)) ((Cw.l sb1).trans s2)
    ·have q:=q f0 [] [] ns H1 (sb1.tup hb.DW _ _ hf0) .nil (λp hp=>by cases hp) (by show 0+1<=mp;omega) rfl (sb1 _ _ hnb nbn.symm) (hb1.mono (by omega)) (Cw.l sb1);rw[bW e7] at q;exact q))
 (Ag (Bj (i:=8) Bu.nd rfl (Or.inl rfl) (Ao Az hr (Aa (pv 0) (Aa (Av BL (Ai Ay rfl T.len Bx (Aa (pv 7) Ab)) Ac) Ab))))
 (Ag (Bj (i:=9) Bu.nd rfl (Or.inl rfl) (Ca (Aa (Av Em (Av Em (Cy Es (pv 7) Dc (CN (pv 8))) (Bo (Aa (Bo (Aa Bp (Aa (pv 6) (Aa (Bo Ab) Ab)))) Ab))) (Cy Es (pv 7) (CN (pv 8)) Dc)) Ab)))
 (Ag (Dk Qbo rfl (Dw rfl T.range (Aa (Ao Az hr (Aa (pv 0) (Aa (pv 1) Ab))) Ab)) (Ak (i:=10) Bu.nd rfl (Or.inl rfl))
 (Ah (Ec (Fb Qal Qaj Qak Dl (pv 9) (Aa (Ao RQ hr (Aa (pv 0) (Aa (pv 5) (Aa (pv 2) Ab)))) Ab)))))
 (Ag (Bj (i:=11) Bu.nd rfl (Or.inl rfl) (Ai (Qa rfl) rfl T.max N8 (Aa (Cp (N':=Hz) rfl (Bt.plain rfl (by trivial) (by trivial) (by trivial)) (GF (pv 9)) (λ_ _ _ _=>(Ak (i:=0) (show List.Nodup (Hz:YF) by trivial) rfl (Or.inl rfl))) (λ_ _ _ _=>CV) (λ_ _ _ _=>(Ai (VJ (K:=K) rfl rfl) rfl T.max N8 (Aa (Ao Xf hr (Aa (pv 0) Ab)) Ab)))) Ab)))
 (Ag (Bj (i:=12) Bu.nd rfl (Or.inl rfl) (Ca Ab))
 (Ag (Dk Qbo rfl (GF (pv 9)) (Ak (i:=13) Bu.nd rfl (Or.inl rfl))
 (Ah (Dk Qbo rfl (DQ (pv 13)) (Fz rfl (Bl (Ak (i:=14) Bu.nd rfl (Or.inl rfl)) (Bl (Ak (i:=15) Bu.nd rfl (Or.inl rfl)) (Bl (Ak (i:=16) Bu.nd rfl (Or.inl rfl)) DK))))
 (Ah (Ec (Fb Qal PySem.F.slot_list_extend PySem.F.type_list_extend Pz (pv 12) (Aa (Cp (N':=xh) rfl (Bt.plain rfl (by trivial) (by trivial) (by trivial)) (DQ (Av Em (Bo (Aa (Bo (Aa (pv 14) (Aa (pv 15) Ab))) Ab)) (pv 16))) (λ_ _ _ _=>(Oo (K:=K) (n:=2) rfl rfl (Bl (Ak (i:=0) (show List.Nodup (xh:YF) by trivial) rfl (Or.inl rfl)) (Bl (Ak (i:=1) (show List.Nodup (xh:YF) by trivial) rfl (Or.inl rfl)) DK)))) (λ_ _ _ _=>(K5 (Br (Vj (K:=K) rfl) (pv 0) (Bo (Aa Bp (Aa Bp Ab))) (by with_unfolding_all rfl)))) (λ_ _ _ _=>(pv 1))) Ab)))))))
 (Ag (Bj (i:=17) Bu.nd rfl (Or.inl rfl) (Ca Ab))
 (Ag (Bj (i:=18) Bu.nd rfl (Or.inl rfl) (Ao K8 hr (Aa (pv 0) (Aa (Ao Az hr (Aa (pv 0) (Aa Ac Ab))) Ab))))
 (Ag (Dk Qbo rfl (GF (pv 18)) (Ak (i:=19) Bu.nd rfl (Or.inl rfl))
 (Ag (Bj (i:=20) Bu.nd rfl (Or.inr rfl) (Ai Sv rfl T.sorted Xz (Aa (Cp (N':=xv) rfl (Bt.of (src:=[none,some 0]) (Aj Hj) xc rfl rfl rfl (by trivial) (by trivial) (by trivial) rfl (by trivial)) (GF (pv 12)) (λ_ _ _ _=>(Ak (i:=0) (show List.Nodup (xv:YF) by trivial) rfl (Or.inl rfl))) (λ_ _ _ _=>(K5 (Br Ju (Ao Az hr (Aa (pv 1) (Aa Ac Ab))) Ac (Bq _)))) (λ_ _ _ _=>(pv 0))) Ab)))
 (Ag (Ol (i:=12) Bu.nd rfl (Or.inl rfl) (N':=["_law_number","_law_some"]) rfl (Bt.of (src:=[none,some 20]) (Aj Hj) xc rfl rfl rfl (by trivial) (by trivial) (by trivial) rfl (by trivial)) (GF (pv 12)) (λ_ _ _ _=>(Ak (i:=0) (show List.Nodup (["_law_number","_law_some"]:YF) by trivial) rfl (Or.inl rfl))) (λ_ _ _ _=>(K5 (Br (Ku (K:=K) rfl) (pv 0) (pv 1) (by with_unfolding_all rfl)))) (λ_ _ _ _=>(pv 0)))
 (Ah (BX (Br Io (Ai Ay rfl T.len Bx (Aa (pv 20) Ab)) Ac (Bq _)) (Ah (Ec (Fb Qal Qaj Qak Dl (pv 17) (Aa (Bo (Aa (pv 19) (Aa (CQ Cv rfl T.tuple BR (Aa (pv 20) Ab)) Ab))) Ab)))) Bs)))))
 (Ah (Ax (Bo (Aa (Ai (Lf rfl) rfl T.min Sy (Aa Ac (Aa (Av BL (pv 11) (Ao Az hr (Aa (pv 0) (Aa Ac Ab)))) Ab))) (Aa (CQ Cv rfl T.tuple BR (Aa (pv 9) Ab)) (Aa (CQ Cv rfl T.tuple BR (Aa (pv 17) Ab)) Ab))))))))))))))))))))),?_⟩
 show let R0:TS:=_;let R1:TS:=_;let R2:TS:=GX _ R1 _;let R3:TS:=Aq _ R2;let R4:TS:=Aq _ R3;let R5:TS:=Aq (Ft _ _ R4) R0;let R6:TS:=Aq _ R5;let R7:TS:=Aq _ R6;let R8:TS:=_;let R9:TS:=Ft _ _ R8;let R10:TS:=Aq (Ft _ _ R9) R7;let R11:TS:=Aq _ R10;let R12:TS:=Aq _ R11;let R13:TS:=_;let R14:TS:=Aq (Ft _ _ R13) R12;let R15:TS:=Aq _ R14;let R16:TS:=Aq _ R15;let R17:TS:=Aq _ R16;let R18:TS:=Aq _ R17;let R19:TS:=Aq _ R18;let R20:TS:=Aq _ R19;let R21:TS:=Aq _ R20;Aq _ R21 _ _ _;intro R0 R1 R2 R3 R4 R5 R6 R7 R8 R9 R10 R11 R12 R13 R14 R15 R16 R17 R18 R19 R20 R21;generalize hst:L2.start _ _=σ0;have e0:σ0=[jp b,some (.int ml),some (.int mp),none,none,none,none,none,none,none,none,none,none,none,none,none,none,none,none,none,none]:=hst.symm;clear hst;subst e0;refine⟨_,rj,b,n,99,rj,hb,by omega,by decide,by decide,λr1 H1 r10 r11 hb1 sb1=>?_⟩;simp only[QaJ,QaI];refine⟨Al (by show 9<=1000;decide),λl9 hl9=>?_⟩;have s9:=Ae hl9 (.lst [.int 1,.int 2,.int 4,.int 5,.int 7,.int 8,.int 10,.int 13,.int 98]);refine⟨_,rj,b,_,9,rj,hb1.same s9,by omega,by decide,by decide,λr2 H2 r20 r21 hb2 sb2=>?_⟩;obtain⟨sd,esd,⟨sd0,sd1⟩,sdk⟩:=mY r20 r21 (a:=1) (b:=2) (c:=4) (d:=5) (e:=7) (f:=8) (g:=10) (h:=13) (k:=98) (λp=>(0<=p/\p<=98)/\Dr p) (by unfold Dr;decide) (by unfold Dr;decide) (by unfold Dr;decide) (by unfold Dr;decide) (by unfold Dr;decide) (by unfold Dr;decide) (by unfold Dr;decide) (by unfold Dr;decide) (by unfold Dr;decide);refine⟨l9,_,_,_,rj,rj,SqL.of (sb2 _ _ Ad (hb1.nb hl9).symm),esd,?_⟩;simp only[QaJ,QaI];have sB2:Af b H H2:=(sb1.trans (Af.of s9)).trans sb2;refine⟨_,rj,by decide,by decide,λnb Y5=>?_⟩;have nbn:b≠nb:=hb2.nb Y5;have fnb:H nb=none:=sB2.free hb2.ex Y5;let J0:YN:=λi U HH=>∃(u:Option V) (ns:List Int),U=[u,some (.int r1),some (.int sd)]/\HH=upd H2 nb (.lst (ns.map V.int))/\ns=JG r1 sd i;refine Kp J0 ⟨none,[],rj,rj,rj⟩ (λi U HH hi h=>?_) (fun U HH h=>?_)
 ·obtain⟨u,ns,rfl,rfl,e1⟩:=h;have hi:i < 30:=hi;have e1l:ns.length=i:=by rw[e1];unfold JG;rw[Qbk,List.length_range]
  refine⟨_,rj,_,rj,_,rj,_,_,rj,rj,.inl ⟨by omega,by omega⟩,_,_,rj,rj,_,_,rj,rj,(by show (0:Int) < 99;decide),_,_,rj,rj,_,Ad,Bc (by rw[Qbk];omega),_,ns++[(r1+sd*(0+(i:Int))) % 99+1],rj,?_,by rw[WX,e1]⟩;rw[TY,Qbn];rfl
 obtain⟨u,Yz,rfl,rfl,e30⟩:=h;have Zb:Yz=JG r1 sd 30:=e30;have e30:Yz.length=30:=by rw[Zb];unfold JG;rw[Qbk,List.length_range]
 simp only[QaJ,QaI];cases Yz with
 | nil=>cases e30
 | cons own Ge=>
 have e29:Ge.length=29:=by simpa using e30
 have fO:(own::Ge).Nodup:=by rw[Zb];exact aL sdk
 have fP:∀x∈own::Ge,1<=x/\x<=99:=by rw[Zb];exact aM r1 sd 30
 have sN:=Ae Y5 (.lst ((own::Ge).map V.int));refine⟨_,rj,.inl ⟨rj,_,SqL.of Ad⟩,nb,_,0,0,.int own,rj,rj,Ad,by decide,by decide,Ws (by rw[Qbk];show 0 < _+1;omega),rj,?_⟩;simp only[QaJ,QaI];have dH:upd (upd H2 nb (.lst ((own::Ge).map V.int))) nb (.lst (((own::Ge).map V.int).eraseIdx 0)) nb=some (.lst (Ge.map V.int)):=by rw[Ad];rfl
 have hb4:Bm (upd (upd H2 nb (.lst ((own::Ge).map V.int))) nb (.lst (((own::Ge).map V.int).eraseIdx 0))) b (n+1+1):=(hb2.same sN).Fv Af.upd nbn;have sB4:Af b H (upd (upd H2 nb (.lst ((own::Ge).map V.int))) nb (.lst (((own::Ge).map V.int).eraseIdx 0))):=Af.Ht (sB2.trans (Af.of sN)) Af.upd fnb;generalize upd (upd H2 nb (.lst ((own::Ge).map V.int))) nb (.lst (((own::Ge).map V.int).eraseIdx 0))=H4 at dH hb4 sB4;refine⟨Al (by show 0<=1000;decide),λf0 hf0=>?_⟩;simp only[QaJ,QaI];have s5:=Ae hf0 (.tup []);refine⟨b,nb,f0,_,mp,Ge,rj,rj,rj,rj,Ad,hb4.same s5,by omega,nbn,s5 _ _ dH,j4,hmp,by omega,λft fv fp ns1 H5 hft hfp dN hfl jX jY hb5 s45=>?_⟩;simp only[QaJ,QaI];have sB5:Af b H H5:=λc o e nc=>s45 _ _ (s5 _ _ (sB4 _ _ e nc)) nc (λz=>by rw[z,fnb] at e;cases e);have lfv:=QbF hfp;refine⟨_,rj,_,rj,ft,_,rj,.inr (SqT.of hft),_,_,rj,rj,b,_,_,rj,hb5,by omega,by omega,by omega,λr4 H6 r40 r41 hb6 sb6=>?_⟩;simp only[QaJ,QaI];obtain⟨an,han⟩ : ∃an:Nat,r4=an:=⟨r4.toNat,by omega⟩;subst han;have dJ:=(sb6.tup hb5.DW) _ _ hft;have dM:=Pn.tups (sb6.tup hb5.DW) hfp;have dG:=sb6 _ _ jY nbn.symm;have sB6:=sB5.trans sb6;refine⟨_,rj,_,rj,_,rj,ft,fv,rj,dJ,λp1 H7 hp1 s7=>?_⟩;rw[Lb (by omega)] at hp1;refine⟨_,rj,Al (by show 0<=1000;decide),λe0 he0=>⟨Al (by show 3<=1000;decide),λt3 ht3=>⟨Al (by show 1<=1000;decide),λt1 ht1=>?_⟩⟩⟩;have q1:=Ae he0 (.tup []);have q2:=Ae ht3 (.tup [.str "seeker",.int own,.ref e0]);have q3:=Ae ht1 (.tup [.ref t3]);have q13:=(q1.trans q2).trans q3;have hown:Dg (upd (upd (upd H7 e0 (.tup [])) t3 (.tup [.str "seeker",.int own,.ref e0])) t1 (.tup [.ref t3])) (.ref t3) ⟨"seeker",own,[]⟩:=⟨t3,e0,[],rj,q3 _ _ Ad,q3 _ _ (q2 _ _ Ad),.nil⟩;refine⟨p1,t1,_,_,rj,rj,q13 _ _ hp1,Ad,Al (by rw[Qbd];show _+1<=1000;omega),λp2 H8 hp2 s8=>?_⟩;have s68:=(s7.trans q13).trans s8;refine⟨_,rj,_,rj,_,rj,ft,fv,rj,s68 _ _ dJ,λp3 H9 hp3 s9'=>?_⟩;rw[M7 (by omega)] at hp3;refine⟨p2,p3,_,_,rj,rj,s9' _ _ hp2,hp3,Al (by rw[QaF,Qbd,Qbh];show _+1+_<=1000;omega),λp4 H10 hp4 s10=>⟨Al (by show 1<=1000;decide),λll hll=>?_⟩⟩;simp only[QaJ,QaI];have Q7:=(s68.trans s9').trans s10;have s11:=Ae hll (.lst [.ref p4]);have Q6:=Q7.trans s11;have hL0:LoopAt (upd H10 ll (.lst [.ref p4])) (.ref p4) ((fp.take an++[⟨"seeker",own,[]⟩])++fp.drop an):=by
  refine⟨p4,_,rj,s11 _ _ hp4,Paired.app (Paired.app (Pn.tups (Bf.of Q6) (Paired.U6 an dM)) (.cons ?_ .nil)) (Pn.tups (Bf.of Q6) (Paired.VD an dM))⟩;exact hown.tups (Bf.of (((s8.trans s9').trans s10).trans s11))
 have cI:OkL ((fp.take an++[⟨"seeker",own,[]⟩])++fp.drop an):=by
  refine⟨?_,?_,λp hp=>?_⟩
  ·rw[QaF,QaF];show 1<=_+1+_;omega
  ·rw[QaF,QaF,Qbd,Qbh];show _+1+_<=12;omega
  ·rcases Qbm.mp hp with z | z
   ·rcases Qbm.mp z with z | z
    ·exact dN p (Qay z)
    ·have:p=⟨"seeker",own,[]⟩:=by simpa using z
     rw[this];exact⟨by show 0<=3;decide,(λd hd=>by cases hd),.inr (.inl rfl)⟩
   ·exact dN p (List.mem_of_mem_drop z)
 have pm0:(adL ((fp.take an++[⟨"seeker",own,[]⟩])++fp.drop an)++ns1).Perm (own::Ge):=by
  have h2:adL fp=adL (fp.take an)++adL (fp.drop an):=by rw[<-Iz,List.take_append_drop]
  have h3:adL [(⟨"seeker",own,[]⟩ : Place)]=[own]:=by
   have:adP ⟨"seeker",own,[]⟩=[own]:=if_neg (NQ (.inl rfl));show [(⟨"seeker",own,[]⟩ : Place)].flatMap adP=[own];simp[this]
  rw[Iz,Iz,h3,jX,h2,QaZ,QaZ,QaZ];exact (List.perm_middle (l₁:=adL (fp.take an)) (a:=own) (l₂:=adL (fp.drop an)++ns1))
 have gB:1<=(adL ((fp.take an++[⟨"seeker",own,[]⟩])++fp.drop an)).length:=by
  have h3:adL [(⟨"seeker",own,[]⟩ : Place)]=[own]:=by
   have:adP ⟨"seeker",own,[]⟩=[own]:=if_neg (NQ (.inl rfl));show [(⟨"seeker",own,[]⟩ : Place)].flatMap adP=[own];simp[this]
  rw[Iz,Iz,h3,QaF,QaF];show 1<=_+1+_;omega
 generalize oK:(fp.take an++[⟨"seeker",own,[]⟩])++fp.drop an=L0 at hL0 cI pm0 gB;have hbL:Bm (upd H10 ll (.lst [.ref p4])) b (n+1+1+101+1):=hb6.same Q6;have dF:=Q6 _ _ dG;have sBL:Af b H (upd H10 ll (.lst [.ref p4])):=sB6.trans (Af.of Q6);have dI:upd H10 ll (.lst [.ref p4]) ll=some (.lst [.ref p4]):=Ad;have fll:H ll=none:=(sB6.trans (Af.of Q7)).free (hb6.same Q7).ex hll;have nbl:b≠ll:=(hb6.same Q7).nb hll;have nnl:nb≠ll:=Aw (Q7 _ _ dG) hll;generalize upd H10 ll (.lst [.ref p4])=HL at hL0 hbL dF sBL dI;refine⟨_,rj,_,rj,b,_,_,rj,hbL,by omega,by omega,by omega,λr5 HM r50 r51 hbM sbM=>⟨_,rj,by omega,by omega,?_⟩⟩;obtain⟨lnn,j6⟩ : ∃lnn:Nat,r5=lnn:=⟨r5.toNat,by omega⟩;subst j6;rw[QaY];have tM:=sbM.tup hbL.DW;have iy:∀ps∈[L0],OkL ps:=λps hps=>by
  have:ps=L0:=by simpa using hps
  rw[this];exact cI
 let J1:YN:=λi U HH=>∃(u10:Option V) (vs:YG) (ja:YU) (ns':List Int),U=[jp b,some (.int ml),some (.int mp),some (.int r1),some (.int sd),jp nb,some (.int own),jp ft,some (.int (an:Int)),jp ll,u10,none,none,none,none,none,none,none,none,none,none]/\HH ll=some (.lst vs)/\Paired (LoopAt HH) vs ja/\ja.length=1+i/\(∀ps∈ja,OkL ps)/\((Cd ja++ns').Perm (own::Ge)/\∃L,ja=L0::L)/\HH nb=some (.lst (ns'.map V.int))/\Bm HH b (n+105+101*i)/\Af b H HH;refine FT J1
  ⟨_,[.ref p4],[L0],ns1,rj,sbM _ _ dI nbl.symm,.cons (hL0.tups tM) .nil,rj,iy,⟨(by show ([L0].flatMap adL++_).Perm _;simpa using pm0),[],rj⟩,sbM _ _ dF nbn.symm,hbM.mono (by omega),sBL.trans sbM⟩ (λi U HH hi h=>?_) (fun U HH h=>?_)
 ·obtain⟨u10,vs,ja,ns',rfl,e1,e2,e3,e4,⟨e5p,Lr,hLr⟩,e6,e7,e8⟩:=h;have e5:(Cd ja).length+ns'.length=30:=by
   have:=e5p.length_eq;rw[QaF,Qbe,e29] at this;exact this
  simp only[QaJ,QaI];refine⟨_,rj,.inl ⟨rj,_,SqL.of e1⟩,_,rj,_,rj,_,rj,b,nb,_,mp,ns',rj,e7,by omega,nbn,e6,by omega,by omega,by omega,λt ps iz H' hL hok h1 h2 hns hnb' hb' s2=>?_⟩;have e1':=s2 _ _ e1 nbl.symm nnl.symm;have t2:Bf HH H':=λc xs e=>s2 _ _ e (λz=>e7.DW _ (z ▸ e)) (λz=>by rw[z,e6] at e;cases e);refine⟨ll,_,_,rj,rj,e1',Bc (by rw[QbF e2];omega),?_⟩;have tv0:∀zs,H' ll≠some (.tup zs):=λzs z=>by rw[e1'] at z;cases z
  have tv:=Bf.upd (o:=.lst (vs++[.ref t])) tv0;refine⟨_,vs++[.ref t],ja++[ps],iz,rj,Ad,QbU (hL.tups tv) (Ln.tups tv (Ln.tups t2 e2)),by rw[QaF,e3];show _+1=_;omega,λp hp=>?_,?_,by rw[Bd nnl];exact hnb',(hb'.Fv Af.upd nbl).mono (by omega),λc o e nc=>?_⟩
  ·rcases Qbm.mp hp with z | z
   ·exact e4 p z
   ·have:p=ps:=by simpa using z
    rw[this];exact⟨h1,by omega,hok⟩
  ·refine⟨?_,Lr++[ps],by rw[hLr];rfl⟩;rw[Qh,QaZ,<-hns];exact e5p
  ·rw[Bd (λz=>by rw[z,fll] at e;cases e)];exact s2 _ _ (e8 _ _ e nc) nc (λz=>by rw[z,fnb] at e;cases e)
 obtain⟨u10,vs,ja,ns',rfl,e1,e2,e3,e4,⟨e5p,Xc⟩,e6,e7,e8⟩:=h;have e5:(Cd ja).length+ns'.length=30:=by
  have:=e5p.length_eq;rw[QaF,Qbe,e29] at this;exact this
 have lvs:=QbF e2;have ndA:(Cd ja).Nodup:=(Qba.mp (e5p.nodup_iff.mpr fO)).1;have bdA:∀x∈Cd ja,1<=x/\x<=99:=λx hx=>fP x (e5p.mem_iff.mp (Qaw _ hx));have bF:=Kz e4;refine⟨_,rj,ll,rj,⟨_,SqL.of e1⟩,λlm hlm=>?_⟩;have nlm:ll≠lm:=Aw e1 hlm;let J2:YN:=λi U H'=>∃(u:Option V) (ms:List Int),U=[u]/\H' lm=some (.lst (ms.map V.int))/\ms.length=i/\Same HH H'/\∀ps∈ja.take i,∀m∈Gq ps,∃M∈ms,m<=M;refine Ig (xs:=vs) J2 ⟨none,[],rj,Ad,rj,Ae hlm _,(λps hps=>by cases hps)⟩ (λi U H' _ h=>?_) (λi x U H' hx h=>?_) (fun U H' h=>?_)
 ·obtain⟨u,ms,rfl,m1,m2,m3,m4⟩:=h;exact SqL.of (m3 _ _ e1)
 ·obtain⟨u,ms,rfl,m1,m2,m3,m4⟩:=h;obtain⟨ps,hps,hL⟩:=Paired.Km e2 hx;obtain⟨tx,wx,rfl,hx1,hx2⟩:=id hL;have okl:=e4 ps (Qau hps);refine⟨_,rj,tx,ps,rj,hL.tups (Bf.of m3),okl.ok,by have:=okl.hi;omega,λlq H'' hq s'=>⟨lq,Gq ps,rj,SqL.of hq,(by unfold Gq;rw[QaF];show 0 < _+1;omega),λM hMi hMm=>?_⟩⟩;have hi:=(Qaf.mp hx).1;refine⟨_,s' _ _ m1,Bc (by rw[Qbk];omega),_,ms++[M],rj,by rw[Ad,Qbn];rfl,by rw[QaF,m2];rfl,(m3.trans s').CG Af.upd hlm,λqs hqs m hm=>?_⟩;rw[QbZ hps] at hqs;rcases Qbm.mp hqs with hqs | hqs
  ·obtain⟨M',h1,h2⟩:=m4 qs hqs m hm;exact⟨M',Qaw _ h1,h2⟩
  ·have:qs=ps:=by simpa using hqs
   rw[this] at hm;exact⟨M,Qar _ (QaH ..),hMm m hm⟩
 obtain⟨u,ms,rfl,m1,m2,m3,m4⟩:=h;refine⟨lm,ms,rj,SqL.of m1,by omega,λM hMi hMm=>?_⟩;have cR:∀ps∈ja,∀m∈Gq ps,m<=M:=λps hps m hm=>by
  obtain⟨M',h1,h2⟩:=m4 ps (by rw[lvs,Qbf];exact hps) m hm;have:=hMm M' h1;omega
 simp only[QaJ,QaI];have e1:=m3 _ _ e1;have e2:=Ln.tups (Bf.of m3) e2;have e7:=e7.same m3;have e8:=e8.trans (Af.of m3);clear m1 m2;refine⟨Al (by show 0<=1000;decide),λlt hlt=>?_⟩;simp only[QaJ,QaI];have sT:=Ae hlt (.lst []);have nbt:b≠lt:=e7.nb hlt;refine⟨_,rj,ll,rj,⟨_,SqL.of (sT _ _ e1)⟩,?_⟩;let J3:YN:=λi U HT=>∃(u13 u14 u15 u16:Option V) (ts:List Int),U=[jp b,some (.int ml),some (.int mp),some (.int r1),some (.int sd),jp nb,some (.int own),jp ft,some (.int (an:Int)),jp ll,u10,some (.int M),jp lt,u13,u14,u15,u16,none,none,none,none]/\HT lt=some (.lst (ts.map V.int))/\ts=Ep (ja.take i)/\Same H' HT;refine MP (xs:=vs) J3 ⟨_,_,_,_,[],rj,Ad,rj,sT⟩ (λi U HT _ h=>?_) (λi x U HT hx h=>?_) (fun U HT h=>?_)
 ·obtain⟨u13,u14,u15,u16,ts,rfl,t1,t2,t3⟩:=h;exact SqL.of (t3 _ _ e1)
 ·obtain⟨u13,u14,u15,u16,ts,rfl,t1,t2,t3⟩:=h;simp only[QaJ,QaI];obtain⟨ps,hps,hL⟩:=Paired.Km e2 hx;obtain⟨tx,wx,rfl,hx1,hx2⟩:=id hL;have okl:=e4 ps (Qau hps);have lwx:=QbF hx2;have etk:Cd (ja.take (i+1))=Cd (ja.take i)++adL ps:=by rw[QbZ hps,Qh]
  have tot:(Cd (ja.take (i+1))).length<=30:=by
   have:Cd ja=Cd (ja.take (i+1))++Cd (ja.drop (i+1)):=by unfold Cd;rw[<-QaC,List.take_append_drop]
   have h2:=congrArg List.length this;rw[QaF] at h2;omega
  rw[etk,QaF] at tot;have wle:(Ep (ja.take i)).length<=(Cd (ja.take i)).length:=(Kz λqs hqs=>e4 qs (Qay hqs)).length_le;have wtk:Ep (ja.take (i+1))=Ep (ja.take i)++Gw ps:=by rw[QbZ hps,UW]
  refine⟨_,rj,tx,rj,⟨_,SqT.of (t3 _ _ hx1)⟩,?_⟩;let J4:YN:=λj U HT=>∃(u14 u15 u16:Option V) (ts:List Int),U=[jp b,some (.int ml),some (.int mp),some (.int r1),some (.int sd),jp nb,some (.int own),jp ft,some (.int (an:Int)),jp ll,u10,some (.int M),jp lt,jp tx,u14,u15,u16,none,none,none,none]/\HT lt=some (.lst (ts.map V.int))/\ts=Ep (ja.take i)++Gw (ps.take j)/\Same H' HT;refine Lq (xs:=wx) J4 ⟨_,_,_,ts,rj,t1,(by rw[t2];show _=_++[];rw[Qbs]),t3⟩ (λj U HT _ h=>?_) (λj y U HT hy h=>?_) (fun U HT h=>?_)
  ·obtain⟨u14,u15,u16,ts,rfl,t1,t2,t3⟩:=h;exact SqT.of (t3 _ _ hx1)
  ·obtain⟨u14,u15,u16,ts,rfl,t1,t2,t3⟩:=h;obtain⟨p,hp,hP⟩:=Paired.Km hx2 hy;obtain⟨tp,up,wp',rfl,hp1,hp2,hp3⟩:=hP.tups (Bf.of t3);have okp:=okl.ok p (Qau hp);have etj:adL (ps.take (j+1))=adL (ps.take j)++adP p:=by rw[QbZ hp,Ng]
   have tj:(adL (ps.take (j+1))).length<=(adL ps).length:=by
    have:adL ps=adL (ps.take (j+1))++adL (ps.drop (j+1)):=by rw[<-Iz,List.take_append_drop]
    have h2:=congrArg List.length this;rw[QaF] at h2;omega
   rw[etj,QaF] at tj;have wlj:(Gw (ps.take j)).length<=(adL (ps.take j)).length:=(Mg λqs hqs=>okl.ok qs (Qay hqs)).length_le;have wtj:Gw (ps.take (j+1))=Gw (ps.take j)++Gd (Fw p):=by rw[QbZ hp,Wa]
   have t2l:ts.length<=(Cd (ja.take i)).length+(adL (ps.take j)).length:=by rw[t2,QaF];omega
   refine⟨tp,_,rj,SqT.of hp1,rj,_,_,rj,_,_,rj,_,_,rj,rj,?_⟩;simp only[QaJ,QaI];refine⟨_,rj,.inl ⟨rj,_,SqL.of t1⟩,_,rj,_,rj,Al (by show 2<=1000;decide),λta hta=>⟨Al (by show 1<=1000;decide),λtb htb=>?_⟩⟩;have v1:=Ae hta (.tup [.str p.kind,.int p.addr]);have v2:=Ae htb (.tup [.ref ta]);have v12:=v1.trans v2;refine⟨_,rj,tb,up,_,_,rj,rj,Ad,v12 _ _ hp2,Al (by have:=okp.spur;show 1+_<=1000;rw[QbF hp3];omega),λtc HC hC sC=>⟨tc,rj,⟨_,SqT.of hC⟩,λl hl=>?_⟩⟩;have vC:=v12.trans sC;have hds:Paired (Iv HC) ([.ref ta]++wp') (⟨p.kind,p.addr⟩::p.spur):=.cons ⟨ta,rj,sC _ _ (v2 _ _ Ad)⟩ (Paired.Df hp3 λ_ _ z=>z.tups (Bf.of vC));have lds:=QbF hds;let J5:YN:=λk U H5=>∃(u v:Option V) (ys:List Int),U=[u,v]/\H5 l=some (.lst (ys.map V.int))/\ys=Gd ((Fw p).take k)/\Same HC H5;refine Ko (xs:=[.ref ta]++wp') J5 ⟨none,none,[],rj,Ad,rj,Ae hl _⟩ (λk U H5 _ h=>?_) (λk x U H5 hk h=>?_) (fun U H5 h=>?_)
   ·obtain⟨u,v,ys,rfl,y1,y2,y3⟩:=h;exact SqT.of (y3 _ _ hC)
   ·obtain⟨u,v,ys,rfl,y1,y2,y3⟩:=h;obtain⟨d,hd,td,rfl,htd⟩:=Paired.Km hds hk;have hkl:=(Qaf.mp hd).1;have hsp:=okp.spur;have hkk:k < 4:=by rw[Qbe] at hkl;omega
    have hdv:(Fw p)[k]?=some d:=hd;have hws:Gd ((Fw p).take (k+1))=Gd ((Fw p).take k)++(if MF d.kind=true then [d.addr] else []):=by rw[QbZ hdv,Wb]
    have y2l:ys.length<=k:=by
     rw[y2];have:=(TV (ds:=(Fw p).take k)).length_le;rw[Qbk,Qbd] at this;omega
    refine⟨td,_,rj,SqT.of (y3 _ _ htd),rj,_,_,rj,_,_,rj,rj,?_⟩;refine⟨_,rj,Al (by show 2<=1000;decide),λtq htq=>?_⟩;have vq:=Ae htq (.tup [.str "seeker",.str "knob"]);refine⟨tq,_,rj,.inr (SqT.of Ad),rj,rj,_,rj,Hq (λcc=>?_) (λcc=>?_)⟩
    ·have cc:MF d.kind=true:=cc;rw[if_pos cc] at hws;refine⟨_,rj,_,vq _ _ y1,Bc (by rw[Qbk];omega),_,_,ys++[d.addr],rj,by rw[Ad,Qbn];rfl,by rw[hws,y2],(y3.trans vq).CG Af.upd hl⟩
    ·have cc:¬MF d.kind=true:=cc;rw[if_neg cc,Qbs] at hws;refine⟨_,_,ys,rj,vq _ _ y1,by rw[hws];exact y2,y3.trans vq⟩
   obtain⟨u,v,ys,rfl,y1,y2,y3⟩:=h;have y2':ys=Gd (Fw p):=by
    rw[y2,lds];congr 1;exact Qbf ..
   have y2l:ys.length<=(adP p).length:=by rw[y2'];exact (QF okp).length_le
   have t1':=y3 _ _ (vC _ _ t1);refine⟨lt,l,_,_,rj,rj,t1',y1,Al (by rw[Qbk,Qbk];omega),?_⟩;refine⟨_,_,_,ts++ys,rj,by rw[Ad,Qbn],?_,((t3.trans vC).trans y3).CG Af.upd hlt⟩;rw[wtj,t2,y2',QaZ]
  ·obtain⟨u14,u15,u16,ts,rfl,t1,t2,t3⟩:=h;rw[lwx,Qbf] at t2;exact⟨_,_,_,_,ts,rj,t1,by rw[wtk];exact t2,t3⟩
 obtain⟨u13,u14,u15,u16,ts,rfl,t1,t2,t3⟩:=h;rw[lvs,Qbf] at t2;have X8:ts.length<=30:=by rw[t2];have:=bF.length_le;omega
 have zk0:Kq (Ep ja) ts [] []:=by
  rw[t2];exact⟨bF.nodup ndA,(λx hx=>hx),(λz hz=>by cases hz),List.Sublist.refl _⟩
 have e1:=t3 _ _ e1;have e2:=Ln.tups (Bf.of t3) e2;have e7:=e7.same t3;have e8:=e8.trans (Af.of t3);refine⟨Al (by show 0<=1000;decide),λlz hlz=>?_⟩;simp only[QaJ,QaI];have sZ:=Ae hlz (.lst []);have nzl:ll≠lz:=Aw e1 hlz;have nzt:lt≠lz:=Aw t1 hlz;have nzb:b≠lz:=e7.nb hlz;have flz:H lz=none:=e8.free e7.ex hlz;refine⟨_,rj,_,rj,b,_,5,rj,e7.same sZ,by omega,by decide,by decide,λr6 HU r60 r61 hbU sU=>?_⟩;obtain⟨rn,hrn⟩ : ∃rn:Nat,r6=rn:=⟨r6.toNat,by omega⟩;subst hrn;refine⟨b,_,rn,rj,hbU,by omega,by omega,λln ys HV hln ly hys gJ Vv hbV sV=>?_⟩;simp only[QaJ,QaI];have sUV:Af b _ HV:=((Af.of sZ).trans sU).trans sV;have nzn:ln≠lz:=λz=>by rw[z,sU _ _ Ad nzb.symm] at hln;cases hln
 have e1:=sUV _ _ e1 nbl.symm;have e2:=Ln.tups (sUV.tup e7.DW) e2;have e8:=e8.trans sUV;have hzV:HV lz=some (.lst []):=sV _ _ (sU _ _ Ad nzb.symm) nzb.symm;have t1:=sUV _ _ t1 nbt.symm;have hbV:=hbV.mono (show _<=n+500 by omega);have tl3:ja.length<=3:=by omega
 have nln:b≠ln:=hbU.nb hln;refine⟨_,rj,ln,rj,⟨_,SqL.of Vv⟩,?_⟩;let J6:YN:=λi U HH=>∃(lt:Addr) (u19 u20:Option V) (ts:List Int) (zs:YG),U=[jp b,some (.int ml),some (.int mp),some (.int r1),some (.int sd),jp nb,some (.int own),jp ft,some (.int (an:Int)),jp ll,u10,some (.int M),jp lt,u13,u14,u15,u16,jp lz,jp ln,u19,u20]/\HH lt=some (.lst (ts.map V.int))/\ts.length<=30/\b≠lt/\lt≠lz/\HH lz=some (.lst zs)/\(∃jn,Paired (Hf HH) zs jn/\Kq (Ep ja) ts jn (ys.take i))/\HH ln=some (.lst (ys.map V.str))/\HH ll=some (.lst vs)/\Paired (LoopAt HH) vs ja/\Bm HH b (n+500+30*i)/\Af b H HH;refine MP (xs:=ys.map V.str) J6
  ⟨lt,_,_,ts,[],rj,t1,X8,nbt,nzt,hzV,⟨[],.nil,zk0⟩,Vv,e1,e2,hbV,e8⟩ (λi U HH _ h=>?_) (λi x U HH hx h=>?_) (fun U HH h=>?_)
 ·obtain⟨lt,u19,u20,ts,zs,rfl,z1,z2,z3,z4,z5,z6,z7,z8,z9,z10,z11⟩:=h;exact SqL.of z7
 ·clear t1 t2 t3 X8 nbt nzt hzV Vv e1 e2 hbV e8;obtain⟨lt,u19,u20,ts,zs,rfl,z1,z2,z3,z4,z5,z6,z7,z8,z9,z10,z11⟩:=h;obtain⟨jn,zp,zk⟩:=z6;have gG:zs.length<=5:=by
   have h1:=QbF zp;have h2:=zk.nm.length_le;rw[Qbk,Qbd] at h2;omega
  obtain⟨yi,hyi,rfl⟩ : ∃yi,ys[i]?=some yi/\x=.str yi:=by
   rw[QaT] at hx;obtain⟨yi,h1,h2⟩:=Qaq.mp hx;exact⟨yi,h1,h2.symm⟩
  have ytk:ys.take (i+1)=ys.take i++[yi]:=QbZ hyi;have hil:i < 5:=by
   have:=(Qaf.mp hx).1;rw[Qbk] at this;omega
  simp only[QaJ,QaI];refine⟨_,rj,lt,rj,⟨_,SqL.of z1⟩,λlc hlc=>?_⟩;have nbc:b≠lc:=z10.nb hlc;have ntc:lt≠lc:=Aw z1 hlc;have sC:=Ae hlc (.lst []);let J7:YN:=λk U HC=>∃(u:Option V) (ss:List Int),U=[u,jp b]/\HC lc=some (.lst (ss.map V.int))/\ss.Sublist (ts.take k)/\Bm HC b (n+500+30*i+k)/\Af b HH HC;refine Ig (xs:=ts.map V.int) J7 ⟨none,[],rj,Ad,List.Sublist.refl _,z10.same sC,Af.of sC⟩ (λk U HC _ h=>?_) (λk x U HC hk h=>?_) (fun U HC h=>?_)
  ·obtain⟨u,ss,rfl,c1,c2,c3,c4⟩:=h;exact SqL.of (c4 _ _ z1 z3.symm)
  ·obtain⟨u,ss,rfl,c1,c2,c3,c4⟩:=h;have hkl:k < 30:=by
    have:=(Qaf.mp hk).1;rw[Qbk] at this;omega
   refine⟨_,rj,b,_,3,rj,c3,by omega,by decide,by decide,λr HD _ _ hbD sD=>⟨rj,_,rj,?_⟩⟩;have c1':=sD _ _ c1 nbc.symm;rw[QaT] at hk;obtain⟨a,hka,rfl⟩:=Qaq.mp hk;have tka:ts.take (k+1)=ts.take k++[a]:=QbZ hka;have ssl:ss.length<=k:=QbO c2.length_le (by rw[Qbd];omega);refine Hq (λcc=>?_) (λcc=>?_)
   ·refine⟨_,rj,_,c1',Bc (by rw[Qbk];omega),_,ss++[a],rj,by rw[Ad,Qbn];rfl,by rw[tka];exact c2.append (List.Sublist.refl _),hbD.Fv Af.upd nbc,Af.Ht (c4.trans sD) Af.upd hlc⟩
   ·exact⟨_,ss,rj,c1',by rw[tka];exact c2.trans (List.sublist_append_left ..),hbD,c4.trans sD⟩
  obtain⟨u,ss,rfl,c1,c2,c3,c4⟩:=h;rw[Qbk] at c2 c3;rw[Qbf] at c2;have ssl:ss.length<=30:=QbO c2.length_le z2;refine⟨lc,ss,rj,SqL.of c1,by omega,λms ls hperm gb hls=>?_⟩;simp only[QaJ,QaI];have sS:=Ae hls (.lst (ms.map V.int));have c5:Af b HH (upd HC ls (.lst (ms.map V.int))):=c4.trans (Af.of sS);have c6:=c3.same sS;have c7:(upd HC ls (.lst (ms.map V.int))) ls=some (.lst (ms.map V.int)):=Ad;generalize upd HC ls (.lst (ms.map V.int))=HS at c5 c6 c7;have lms:ms.length<=30:=by have:=hperm.length_eq;omega
  have z1:=c5 _ _ z1 z3.symm;refine⟨_,rj,lt,rj,⟨_,SqL.of z1⟩,λlw hlw=>?_⟩;have nbw:b≠lw:=c6.nb hlw;have nsw:ls≠lw:=Aw c7 hlw;have nzw:lw≠lz:=(Aw (c5 _ _ z5 nzb.symm) hlw).symm;let J8:YN:=λk U HC=>∃(u:Option V) (ss:List Int),U=[u,jp ls]/\HC lw=some (.lst (ss.map V.int))/\ss=(ts.take k).filter (λx=>!decide (x∈ms))/\Same HS HC;refine Ig (xs:=ts.map V.int) J8 ⟨none,[],rj,Ad,rj,Ae hlw _⟩ (λk U HC _ h=>?_) (λk x U HC hk h=>?_) (fun U HC h=>?_)
  ·obtain⟨u,ss,rfl,d1,d2,d3⟩:=h;exact SqL.of (d3 _ _ z1)
  ·obtain⟨u,ss,rfl,d1,d2,d3⟩:=h;have hkl:k < 30:=by
    have:=(Qaf.mp hk).1;rw[Qbk] at this;omega
   rw[QaT] at hk;obtain⟨a,hka,rfl⟩:=Qaq.mp hk;have tka:(ts.take (k+1)).filter (λx=>!decide (x∈ms))=(ts.take k).filter (λx=>!decide (x∈ms))++[a].filter (λx=>!decide (x∈ms)):=by rw[QbZ hka,List.filter_append]
   have ssl:ss.length<=30:=by
    rw[d2];have h1:=List.length_filter_le (λx=>!decide (x∈ms)) (ts.take k);rw[Qbd] at h1;omega
   refine⟨_,rj,_,rj,ls,_,rj,.inl (SqL.of (d3 _ _ c7)),rj,Xn ms,_,rj,Hq (λcc=>?_) (λcc=>?_)⟩
   ·have cc:(!inV (.int a) (ms.map V.int))=true:=cc;rw[MJ] at cc;rw[show List.filter (λx=>!decide (x∈ms)) [a]=[a] from List.filter_cons_of_pos (p:=λx=>!decide (x∈ms)) cc] at tka
    refine⟨_,rj,_,d1,Bc (by rw[Qbk];omega),_,ss++[a],rj,by rw[Ad,Qbn];rfl,by rw[tka,d2],d3.CG Af.upd hlw⟩
   ·have cc:¬(!inV (.int a) (ms.map V.int))=true:=cc;rw[MJ] at cc;rw[show List.filter (λx=>!decide (x∈ms)) [a]=[] from List.filter_cons_of_neg (p:=λx=>!decide (x∈ms)) cc] at tka
    exact⟨_,ss,rj,d1,by rw[tka,d2];exact (Qbs _).symm,d3⟩
  obtain⟨u,ws,rfl,d1,d2,d3⟩:=h;rw[Qbk,Qbf] at d2;have wsl:ws.length<=30:=by rw[d2];exact QbO (List.length_filter_le _ _) z2
  simp only[QaJ,QaI];have c8:=c5.trans (Af.of d3);have z5:=c8 _ _ z5 nzb.symm;have z7:=c8 _ _ z7 nln.symm;have z8:=c8 _ _ z8 nbl.symm;have z9:=Ln.tups (c8.tup z10.DW) z9;have zp:Paired (Hf HC) zs jn:=Paired.Df zp λ_ _ z=>z.tups (c8.tup z10.DW);have z10:=(c6.same d3).mono (show _<=n+500+30*(i+1) by omega);have z11:=z11.trans c8;have c7:=d3 _ _ c7;have zkn:(ms.map V.int).length=ms.length:=Qbk _;refine⟨_,rj,ls,_,rj,.inl (SqL.of c7),_,_,rj,rj,_,rj,Hq (λcc=>?_) (λcc=>?_)⟩
  ·refine⟨_,rj,.inl ⟨rj,_,SqL.of z5⟩,_,rj,_,rj,ls,_,rj,.inl ⟨SqL.of c7,λtt htt=>⟨Al (by show 2<=1000;decide),λta hta=>?_⟩⟩⟩;have f1:=Ae htt (.tup (ms.map V.int));have f2:=Ae hta (.tup [.str yi,.ref tt]);have f12:=f1.trans f2;have z5:=f12 _ _ z5;refine⟨lz,_,_,rj,rj,z5,Bc (by omega),?_⟩;have tz0:∀zs',(upd (upd HC tt (.tup (ms.map V.int))) ta (.tup [.str yi,.ref tt])) lz≠some (.tup zs'):=λzs' z=>by rw[z5] at z;cases z
   have tz:=Bf.upd (o:=.lst (zs++[.ref ta])) tz0;have jZ:1<=ms.length:=by
    have cc:=QaU cc;rw[zkn] at cc;omega
   have zp':Paired (Hf (upd (upd (upd HC tt (.tup (ms.map V.int))) ta (.tup [.str yi,.ref tt])) lz (.lst (zs++[.ref ta])))) (zs++[.ref ta]) (jn++[⟨yi,ms⟩]):=QbU ⟨ta,tt,rj,tz _ _ Ad,tz _ _ (f2 _ _ Ad)⟩ (Paired.Df zp λ_ _ z=>(z.tups (Bf.of f12)).tups tz);have zk':Kq (Ep ja) ws (jn++[⟨yi,ms⟩]) (ys.take (i+1)):=by rw[d2,ytk];exact zk.next hperm c2 gb lms jZ
   exact⟨lw,_,_,ws,zs++[.ref ta],rj,by rw[Bd nzw];exact f12 _ _ d1,by omega,nbw,nzw,Ad,⟨_,zp',zk'⟩,by rw[Bd nzn];exact f12 _ _ z7,by rw[Bd nzl];exact f12 _ _ z8,Ln.tups tz (Ln.tups (Bf.of f12) z9),(z10.same f12).Fv Af.upd nzb,Af.Ht (z11.trans (Af.of f12)) Af.upd flz⟩
  ·exact⟨lw,_,_,ws,zs,rj,d1,by omega,nbw,nzw,z5,⟨jn,zp,by rw[d2,ytk];exact zk.none⟩,z7,z8,z9,z10,z11⟩
 clear t1 t2 t3 X8 nbt nzt hzV Vv e1 e2 hbV e8;obtain⟨lt,u19,u20,ts,zs,rfl,z1,z2,z3,z4,z5,z6,z7,z8,z9,z10,z11⟩:=h;rw[Qbk] at z10;obtain⟨jn,zp,zk⟩:=z6;rw[Qbk,Qbf] at zk;have gG:zs.length<=5:=by
  have h1:=QbF zp;have h2:=zk.nm.length_le;rw[Qbk] at h2;omega
 refine⟨_,rj,_,rj,b,_,3,rj,z10,by omega,by decide,by decide,λr7 HX _ _ hbX sX=>⟨_,_,rj,rj,_,_,rj,_,rj,ll,_,rj,.inl ⟨SqL.of (sX _ _ z8 nbl.symm),λtl htl=>?_⟩⟩⟩;have g1:=Ae htl (.tup vs);refine⟨_,rj,lz,_,rj,.inl ⟨SqL.of (g1 _ _ (sX _ _ z5 nzb.symm)),λtz htz=>⟨Al (by show 3<=1000;decide),λt ht=>?_⟩⟩⟩;have g2:=Ae htz (.tup zs);have g3:=Ae ht (.tup [.int (if M+r7 < 30 then M+r7 else 30),.ref tl,.ref tz])
 have VB:=(g1.trans g2).trans g3;have cnt:1<=(Cd ja).length:=by
  obtain⟨L,hL⟩ : ∃L,ja=L0::L:=Xc;rw[hL];have:Cd (L0::L)=adL L0++Cd L:=by unfold Cd;rw[QaX]
  rw[this,QaF];omega
 have M1:1<=M:=by
  obtain⟨L,hL⟩ : ∃L,ja=L0::L:=Xc;obtain⟨m,h1,h2⟩:=T5 (l:=Gq L0) (by rw[Pq];omega);have:=cR L0 (by rw[hL];exact QaH ..) m h1;omega
 have pok:SN (if M+r7 < 30 then M+r7 else 30) ja jn:=by
  refine⟨ndA,bdA,⟨cnt,by omega⟩,⟨by split <;> omega,by split <;> omega⟩,λps hps m hm=>?_,λz hz x hx=>?_,(Qba.mp zk.nd).1,zk.up,?_,λz hz=>?_,zk.nm.nodup gJ⟩
  ·have h1:=cR ps hps m hm;have h2:=Yt ps m hm;have h3:(adL ps).length<=(Cd ja).length:=by
    exact Ur ja hps
   split <;> omega
  ·exact zk.sub x (Qaw _ (List.mem_flatMap.mpr ⟨z,hz,hx⟩))
  ·have h1:=QbF zp;omega
  ·exact hys z.name (zk.nm.subset (QbP.mpr ⟨z,hz,rj⟩))
 exact q t tl tz vs zs ja jn _ _ Ad (g3 _ _ (g2 _ _ Ad)) (Ln.tups (Bf.of VB) (Ln.tups (sX.tup z10.DW) z9)) e4 (by omega) tl3 (g3 _ _ Ad) (Paired.Df zp λ_ _ z=>(z.tups (sX.tup z10.DW)).tups (Bf.of VB)) pok ((hbX.same VB).mono (by omega)) ((z11.trans sX).trans (Af.of VB))
end
abbrev G5:Stmt:=top 19
abbrev Eh:YF:=["loop","at","place"]
theorem Ck:Bk ["loop","at","place","kind","address","spur","told","number","spur_kind","spur_address"] Eh (Aj G5):=by ac_rfl
structure Sd where
 lp:Int
 at_:Int
 n:Int
 kind:Str
 addr:Int
def Jq (H:Hp) (v:V) (d:Sd):Prop:=∃t u,v=.ref t/\H t=some (.tup [.ref u,.str d.kind,.int d.addr])/\H u=some (.tup [.int d.lp,.int d.at_,.int d.n])
theorem Jq.tups {H H':Hp} (s:Bf H H') {v:V} {d:Sd} (h:Jq H v d):Jq H' v d:=by
 obtain⟨t,u,e,q1,q2⟩:=h;exact⟨t,u,e,s _ _ q1,s _ _ q2⟩
def DN (lp at_:Int):Nat->List Dev->List Sd
 | _,[]=>[]
 | n,d::r=>⟨lp,at_,n,d.kind,d.addr⟩::DN lp at_ (n+1) r
def Fo (lp at_:Int) (p:Place):List Sd:=if V.str p.kind=V.str "opener" then [] else ⟨lp,at_,0,p.kind,p.addr⟩::DN lp at_ 1 p.spur
theorem LQ (lp at_:Int):∀(n:Nat) (ds:List Dev) (i:Nat) (d:Dev),ds[i]?=some d->DN lp at_ n (ds.take (i+1))=DN lp at_ n (ds.take i)++[⟨lp,at_,(n+i:Nat),d.kind,d.addr⟩]
 | n,[],i,d,h=>by simp at h
 | n,x::r,0,d,h=>by
  simp at h;subst h;simp[DN]
 | n,x::r,i+1,d,h=>by
  have h':r[i]?=some d:=by simpa using h
  have ih:=LQ lp at_ (n+1) r i d h';rw[List.take_succ_cons,List.take_succ_cons];show _::DN lp at_ (n+1) (r.take (i+1))=(_::DN lp at_ (n+1) (r.take i))++_;rw[ih,show n+1+i=n+(i+1) by omega];rfl
structure Tx (K:YD) (mg:YB) (op oe:Addr):Prop extends Nm mg
def bR:Sp:=λvs H Q _=>∃(lp at_:Int) (v:V) (p:Place),vs=[.int lp,.int at_,v]/\Dg H v p/\p.spur.length<=3/\∀l xs H',H l=none->H' l=some (.lst xs)->Paired (Jq H') xs (Fo lp at_ p)->Same H H'->Q (.ref l) H'
section
variable {P:Program} {w:World} {K:YD} {mg:YB} {base:Heap} {op oe:Addr}
theorem Mw (c:Code K mg "place_devices" G5 Eh) (T:Tx K mg op oe):Good P w K mg base "place_devices" 1 Eh bR:=by
 refine c.good Ck (λvs H Q E h=>?_) (λf cdv A outer s H vs Q E hr h=>?_)
 ·obtain⟨lp,at_,v,p,rfl,_⟩:=h;rfl
 obtain⟨lp,at_,v,p,rfl,⟨t,u,vs,rfl,ht,hu,hd⟩,h3,q⟩:=h;refine⟨_,(Ag (Jc (pv 2) (Fz rfl (Bl (Ak (i:=3) Ck.nd rfl (Or.inl rfl)) (Bl (Ak (i:=4) Ck.nd rfl (Or.inl rfl)) (Bl (Ak (i:=5) Ck.nd rfl (Or.inl rfl)) DK)))))
 (Ag (BX (Br Ju (pv 3) Bp (Bq _)) (Ah (Ax (Ca Ab))) Bs)
 (Ag (Bj (i:=6) Ck.nd rfl (Or.inl rfl) (Ca (Aa (Bo (Aa (Bo (Aa (pv 0) (Aa (pv 1) (Aa Ac Ab)))) (Aa (pv 3) (Aa (pv 4) Ab)))) Ab)))
 (Ag (Dk Qbo rfl (Rh rfl T.enumerate (pv 5) Ac) (Fz rfl (Bl (Ak (i:=7) Ck.nd rfl (Or.inl rfl)) (Bl (Fz rfl (Bl (Ak (i:=8) Ck.nd rfl (Or.inl rfl)) (Bl (Ak (i:=9) Ck.nd rfl (Or.inl rfl)) DK))) DK)))
 (Ah (Ec (Fb Qal Qaj Qak Dl (pv 6) (Aa (Bo (Aa (Bo (Aa (pv 0) (Aa (pv 1) (Aa (pv 7) Ab)))) (Aa (pv 8) (Aa (pv 9) Ab)))) Ab)))))
 (Ah (Ax (pv 6))))))),?_⟩
 show let R0:TS:=_;let R1:TS:=Aq (Ft _ _ R0) _;let R2:TS:=Aq _ R1;let R3:TS:=Aq _ R2;Aq _ R3 _ _ _;intro R0 R1 R2 R3;generalize hst:L2.start _ _=σ0;have e0:σ0=[some (.int lp),some (.int at_),jp t,none,none,none,none,none,none,none]:=hst.symm;clear hst;subst e0;refine⟨_,rj,t,_,rj,SqT.of ht,rj,_,_,rj,_,_,rj,_,_,rj,rj,?_⟩;simp only[QaJ,QaI];refine⟨_,rj,rj,_,rj,?_⟩;by_cases ck:V.str p.kind=V.str "opener"
 ·rw[Qby ck];have e:Fo lp at_ p=[]:=if_pos ck;rw[e] at q;exact Ar ⟨(by show 0<=sizeLine;decide),λl hl=>q l [] _ hl Ad .nil (Ae hl _)⟩
 ·rw[Qbl ck];have e:Fo lp at_ p=⟨lp,at_,0,p.kind,p.addr⟩::DN lp at_ 1 p.spur:=if_neg ck;rw[e] at q;refine Ba ⟨_,rj,_,rj,(by show 3<=sizeLine;decide),λus hus=>⟨_,rj,_,rj,(by show 3<=sizeLine;decide),λts hts=>⟨(by show 1<=sizeLine;decide),λl hl=>?_⟩⟩⟩;have s1:=Ae hus (.tup [.int lp,.int at_,.int 0]);have s2:=Ae hts (.tup [.ref us,.str p.kind,.int p.addr]);have s3:=Ae hl (.lst [.ref ts]);have sm:=s1.trans (s2.trans s3);have hl0:=s1.free (s2.free hl);have el:_=some (HO.lst [.ref ts]):=Ad (H:=upd (upd H us (.tup [.int lp,.int at_,.int 0])) ts (.tup [.ref us,.str p.kind,.int p.addr])) (a:=l) (o:=.lst [.ref ts]);have es:Jq _ (.ref ts) ⟨lp,at_,0,p.kind,p.addr⟩:=⟨ts,us,rj,s3 _ _ Ad,s3 _ _ (s2 _ _ Ad)⟩;generalize hX:upd (upd (upd H us (.tup [.int lp,.int at_,.int 0])) ts (.tup [.ref us,.str p.kind,.int p.addr])) l (.lst [.ref ts])=H1 at sm el es;simp only[QaJ,QaI];have hu1:=sm _ _ hu;have sd0:Paired (Jq H1) [.ref ts] (⟨lp,at_,0,p.kind,p.addr⟩::DN lp at_ 1 (p.spur.take 0)):=.cons es .nil;have jj:vs.length=p.spur.length:=QbF hd;refine⟨_,rj,u,rj,⟨vs,SqT.of hu1⟩,M4 (xs:=vs) (lo:=1) (λi U HH=>∃ys u7 u8 u9,U=[some (.int lp),some (.int at_),jp t,some (.str p.kind),some (.int p.addr),jp u,jp l,u7,u8,u9]/\Af l H1 HH/\HH l=some (.lst ys)/\Paired (Jq HH) ys (⟨lp,at_,0,p.kind,p.addr⟩::DN lp at_ 1 (p.spur.take i))/\ys.length<=i+1)
   ⟨[.ref ts],_,_,_,rj,Af.refl l H1,el,sd0,QbR _⟩ (λi U HH _ h=>?_) (λi x pt U HH hx h hpt=>?_) (fun U HH h=>?_)⟩
  ·obtain⟨ys,_,_,_,_,sb,_⟩:=h;exact SqT.of (sb _ _ hu1 (λz=>by rw[z,el] at hu1;cases hu1))
  ·obtain⟨ys,u7,u8,u9,rfl,sb,hy,pd,ly⟩:=h;obtain⟨d,hdi,td,rfl,htd⟩:=Paired.Km hd hx;have nl:∀zs,H1 l≠some (.tup zs):=λzs z=>by rw[el] at z;cases z
   have nl2:∀zs,HH l≠some (.tup zs):=λzs z=>by rw[hy] at z;cases z
   have jR:=(sb.tup nl) _ _ (sm _ _ htd);have t0:=Ae hpt (.tup [.int ((1+i:Nat):Int),.ref td]);refine⟨pt,_,rj,SqT.of Ad,rj,_,_,rj,_,_,rj,td,_,rj,SqT.of (t0 _ _ jR),rj,_,_,rj,_,_,rj,rj,rj,?_⟩;simp only[QaJ,QaI];have hy0:=t0 _ _ hy;refine⟨_,rj,.inl ⟨rj,_,SqL.of hy0⟩,_,rj,_,rj,_,rj,(by show 3<=sizeLine;decide),λus2 jO=>⟨_,rj,_,rj,(by show 3<=sizeLine;decide),λts2 jQ=>?_⟩⟩;have t1:=Ae jO (.tup [.int lp,.int at_,.int ((1+i:Nat):Int)]);have t2:=Ae jQ (.tup [.ref us2,.str d.kind,.int d.addr]);have hy2:=t2 _ _ (t1 _ _ hy0);have il:=(Qaf.mp hx).1;refine⟨l,_,_,rj,rj,hy2,Bc (by omega),?_⟩;refine⟨ys++[.ref ts2],_,_,_,rj,sb.trans ((Af.of (t0.trans (t1.trans t2))).trans Af.upd),Ad,?_,by rw[QaF];simp only[Qat];omega⟩;rw[LQ lp at_ 1 p.spur i d hdi];have nlx:∀zs,(upd (upd (upd HH pt (.tup [.int ((1+i:Nat):Int),.ref td])) us2 (.tup [.int lp,.int at_,.int ((1+i:Nat):Int)])) ts2 (.tup [.ref us2,.str d.kind,.int d.addr])) l≠some (.tup zs):=λzs z=>by rw[hy2] at z;cases z
   have tt:=Bf.upd (o:=.lst (ys++[.ref ts2])) nlx;exact QbU (l₂:=_::DN lp at_ 1 (p.spur.take i)) ⟨ts2,us2,rj,tt _ _ Ad,tt _ _ (t2 _ _ Ad)⟩ (Paired.Df pd λ_ _ z=>(z.tups (Bf.of (t0.trans (t1.trans t2)))).tups tt)
  ·obtain⟨ys,u7,u8,u9,rfl,sb,hy,pd,ly⟩:=h;rw[jj,Qbf] at pd;exact⟨_,rj,q l ys HH hl0 hy pd λc o e=>sb _ _ (sm _ _ e) (Aw e hl0)⟩
end
structure Sp3 where
 lp:Int
 at_:Int
 n:Int
def Zj (H:Hp) (v:V) (d:Sp3):Prop:=∃u,v=.ref u/\H u=some (.tup [.int d.lp,.int d.at_,.int d.n])
theorem Zj.tups {H H':Hp} (s:Bf H H') {v:V} {d:Sp3} (h:Zj H v d):Zj H' v d:=by
 obtain⟨u,e,q⟩:=h;exact⟨u,e,s _ _ q⟩
theorem Ul {k:Str} (h:Et k):¬V.str k=V.str "opener":=by
 rcases h with rfl | rfl | rfl | rfl <;> decide +kernel
theorem Nq (lp at_:Int):∀(n:Nat) (ds:List Dev),(DN lp at_ n ds).length=ds.length
 | _,[]=>rfl
 | n,d::r=>by show (DN lp at_ (n+1) r).length+1=r.length+1;rw[Nq]
abbrev K3:Stmt:=top 20
abbrev Ie:YF:=["plan"]
theorem Ga:Bk ["plan","told","loop","places","at","place"] Ie (Aj K3):=by ac_rfl
def up {α : Type} (f:Nat->List α) (i:Nat):List α:=(List.range i).flatMap f
theorem Lh {α : Type} (f:Nat->List α) (i:Nat):up f (i+1)=up f i++f i:=by
 unfold up;rw[List.range_succ,QaC];simp
theorem T3 {α : Type} (f:Nat->List α):up f 0=[]:=rfl
theorem Nj {α : Type} {f:Nat->List α} {c:Nat} (h:∀i,(f i).length<=c):∀i,(up f i).length<=c*i
 | 0=>QbR _
 | i+1=>by
  have:=Nj h i;have:=h i;rw[Lh,QaF,Nat.mul_succ];omega
def ifs {α β : Type} (o:Option α) (g:α->List β):List β:=match o with | none=>[] | some x=>g x
theorem MK {α β : Type} {o:Option α} {g:α->List β} {x:α} (h:o=some x):ifs o g=g x:=by rw[h];rfl
structure Gt where
 lp:Int
 at_:Int
def Zo (H:Hp) (v:V) (d:Gt):Prop:=∃u,v=.ref u/\H u=some (.tup [.int d.lp,.int d.at_])
theorem Zo.tups {H H':Hp} (s:Bf H H') {v:V} {d:Gt} (h:Zo H v d):Zo H' v d:=by
 obtain⟨u,e,q⟩:=h;exact⟨u,e,s _ _ q⟩
def pd1 (lp:Int) (ps:List Place) (i:Nat):List Sd:=ifs ps[i]? λp=>Fo lp ((1+i:Nat):Int) p
def pdL (ja:YU) (k:Nat):List Sd:=ifs ja[k]? λps=>up (pd1 k ps) ps.length
def st1 (lp:Int) (ps:List Place) (i:Nat):List Sp3:=ifs ps[i]? λp=>(List.range (p.spur.length+1)).map λn:Nat=>⟨lp,((1+i:Nat):Int),(n:Int)⟩
structure eO (ja:YU):Prop where
 ok:∀ps∈ja,OkL ps
 hi:ja.length<=3
theorem Ma {lp a:Int} {p:Place} (h:OkP p):(Fo lp a p).length<=4:=by
 unfold Fo;have:=h.spur;split
 ·exact QbS _
 ·rw[Qbe,Nq];omega
theorem Ug {lp:Int} {ps:List Place} (h:∀p∈ps,OkP p) (i:Nat):(pd1 lp ps i).length<=4:=by
 unfold pd1;cases e:ps[i]? with
 | none=>exact QbS _
 | some p=>exact Ma (h p (Qau e))
theorem au {ja:YU} (h:eO ja) (k:Nat):(pdL ja k).length<=48:=by
 unfold pdL;cases e:ja[k]? with
 | none=>exact QbS _
 | some ps=>
  have o:=h.ok ps (Qau e);have:=Nj (Ug (lp:=k) o.ok) ps.length;have:=o.hi;show (up _ _).length<=48;omega
def eH (H:Hp) (pl:Addr) (ja:YU):Prop:=∃v0 v2 Ls vs,H pl=some (.tup [v0,.ref Ls,v2])/\H Ls=some (.tup vs)/\Paired (LoopAt H) vs ja
def ZG:Sp:=λvs H Q _=>∃(pl:Addr) (ja:YU),vs=[.ref pl]/\eH H pl ja/\eO ja/\∀l xs H',H l=none->H' l=some (.lst xs)->Paired (Jq H') xs (up (pdL ja) ja.length)->Same H H'->Q (.ref l) H'
section
variable {P:Program} {w:World} {K:YD} {mg:YB} {base:Heap} {op oe:Addr}
theorem Vr (c:Code K mg "devices" K3 Ie) (T:Tx K mg op oe) (NZ:Good P w K mg base "place_devices" 1 Eh bR):Good P w K mg base "devices" 2 Ie ZG:=by
 refine c.good Ga (λvs H Q E h=>?_) (λf cdv A outer s H vs Q E hr h=>?_)
 ·obtain⟨pl,ja,rfl,_⟩:=h;rfl
 obtain⟨pl,ja,rfl,⟨v0,v2,Ls,vs,hpl,hLs,hlo⟩,ok,q⟩:=h;refine⟨_,(Ag (Bj (i:=1) Ga.nd rfl (Or.inl rfl) (Ca Ab))
 (Ag (Dk Qbo rfl (Yq rfl T.enumerate (Bg Bv (pv 0) Ac (λ_ _=>rfl))) (Fz rfl (Bl (Ak (i:=2) Ga.nd rfl (Or.inl rfl)) (Bl (Ak (i:=3) Ga.nd rfl (Or.inl rfl)) DK)))
 (Ah (Dk Qbo rfl (Rh rfl T.enumerate (pv 3) Ac) (Fz rfl (Bl (Ak (i:=4) Ga.nd rfl (Or.inl rfl)) (Bl (Ak (i:=5) Ga.nd rfl (Or.inl rfl)) DK)))
 (Ah (Ec (Fb Qal PySem.F.slot_list_extend PySem.F.type_list_extend Pz (pv 1) (Aa (Ao NZ hr (Aa (pv 2) (Aa (pv 4) (Aa (pv 5) Ab)))) Ab)))))))
 (Ah (Ax (pv 1))))),?_⟩
 show let R0:TS:=_;let R1:TS:=Ft _ _ R0;let R2:TS:=Aq (Ft _ _ R1) _;Aq _ R2 _ _ _;intro R0 R1 R2;generalize hst:L2.start _ _=σ0;have e0:σ0=[jp pl,none,none,none,none,none]:=hst.symm;clear hst;subst e0;refine⟨Al (by show 0<=1000;decide),λl fl=>?_⟩;simp only[QaJ,QaI];have s1:=Ae fl (.lst []);have lvs:=QbF hlo;refine⟨_,rj,pl,_,_,_,rj,rj,SqT.of (s1 _ _ hpl),rj,Ls,rj,⟨vs,SqT.of (s1 _ _ hLs)⟩,?_⟩;let J0:YN:=λi U HH=>∃(ys:YG) (u2 u3 u4 u5:Option V),U=[jp pl,jp l,u2,u3,u4,u5]/\Same H HH/\HH l=some (.lst ys)/\Paired (Jq HH) ys (up (pdL ja) i);refine M4 (xs:=vs) (lo:=0) J0 ⟨[],_,_,_,_,rj,s1,Ad,.nil⟩ (λi U HH _ h=>?_) (λi x pt U HH hx h hpt=>?_) (fun U HH h=>?_)
 ·obtain⟨ys,_,_,_,_,_,sm,_⟩:=h;exact SqT.of (sm _ _ hLs)
 ·obtain⟨ys,u2,u3,u4,u5,rfl,sm,hy,py⟩:=h;obtain⟨ps,hps,hL⟩:=Paired.Km hlo hx;obtain⟨t,ws,rfl,ht,hws⟩:=id hL;have okl:=ok.ok ps (Qau hps);have ek:pdL ja i=up (pd1 i ps) ps.length:=MK hps;have lws:=QbF hws;have t0:=Ae hpt (.tup [.int ((0+i:Nat):Int),.ref t]);refine⟨pt,_,rj,SqT.of Ad,rj,_,_,rj,_,_,rj,rj,?_⟩;have sm0:=sm.trans t0;have hy0:=t0 _ _ hy;have py0:=Paired.Df py λ_ _ (z:Jq HH _ _)=>z.tups (Bf.of t0);generalize upd HH pt (.tup [.int ((0+i:Nat):Int),.ref t])=HA at sm0 hy0 py0;simp only[QaJ,QaI,Nat.zero_add];have hil:=(Qaf.mp hps).1;have lu:=Nj (au ok) i;have hhi:=ok.hi;refine⟨_,rj,t,rj,⟨ws,SqT.of (sm0 _ _ ht)⟩,?_⟩;let J1:YN:=λj U HJ=>∃(ys:YG) (u4 u5:Option V),U=[jp pl,jp l,some (.int (i:Int)),jp t,u4,u5]/\Same H HJ/\HJ l=some (.lst ys)/\Paired (Jq HJ) ys (up (pdL ja) i++up (pd1 i ps) j);refine M4 (xs:=ws) (lo:=1) J1 ⟨ys,_,_,rj,sm0,hy0,by rw[T3,Qbs];exact py0⟩ (λj U HJ _ h=>?_) (λj x pt U HJ hx h hpt=>?_) (fun U HJ h=>?_)
  ·obtain⟨ys,_,_,_,sj,_⟩:=h;exact SqT.of (sj _ _ ht)
  ·obtain⟨ys,u4,u5,rfl,sj,hyj,pj⟩:=h;obtain⟨p,hp,hP⟩:=Paired.Km hws hx;have okp:=okl.ok p (Qau hp);have ej:pd1 i ps j=Fo i ((1+j:Nat):Int) p:=MK hp;have t1:=Ae hpt (.tup [.int ((1+j:Nat):Int),x]);refine⟨pt,_,rj,SqT.of Ad,rj,_,_,rj,_,_,rj,rj,?_⟩;simp only[QaJ,QaI];have hjl:=(Qaf.mp hp).1;have lj:=Nj (Ug (lp:=i) okl.ok) j;have lys:=QbF pj;rw[QaF] at lys;have h12:=okl.hi;refine⟨_,rj,.inl ⟨rj,_,SqL.of (t1 _ _ hyj)⟩,_,rj,_,rj,_,rj,(i:Int),((1+j:Nat):Int),x,p,rj,hP.tups (Bf.of (sj.trans t1)),okp.spur,λld xs' HB fld hld pdd sB=>?_⟩;have t2:=t1.trans sB;have hyB:=t2 _ _ hyj;have lx:=QbF pdd;have lpl:=Ma (lp:=i) (a:=((1+j:Nat):Int)) okp;refine⟨l,ld,_,_,rj,rj,hyB,hld,Al (by omega),?_⟩;have n0:∀zs,HB l≠some (.tup zs):=λzs z=>by rw[hyB] at z;cases z
   have tt:=Bf.upd (o:=.lst (ys++xs')) n0;refine⟨ys++xs',_,_,rj,(sj.trans t2).CG Af.upd fl,Ad,?_⟩;rw[Lh,ej,<-QaZ];exact Paired.app (Paired.Df pj λ_ _ z=>(z.tups (Bf.of t2)).tups tt) (Paired.Df pdd λ_ _ z=>z.tups tt)
  ·obtain⟨ys,u4,u5,rfl,sj,hyj,pj⟩:=h;exact⟨ys,_,_,_,_,rj,sj,hyj,by rw[Lh,ek,<-lws];exact pj⟩
 ·obtain⟨ys,u2,u3,u4,u5,rfl,sm,hy,py⟩:=h;rw[lvs] at py;exact⟨_,rj,q l ys HH fl hy py sm⟩
end
abbrev Kc:Stmt:=top 2
abbrev G6:YF:=["thing"]
theorem SX:Bk G6 G6 (Aj Kc):=by ac_rfl
abbrev Jy:Stmt:=top 3
abbrev Dy:YF:=["thing","low","high"]
theorem QW:Bk ["thing","low","high"] Dy (Aj Jy):=by ac_rfl
abbrev Mt:Stmt:=top 4
abbrev Dd:YF:=["thing","least","most"]
theorem Wu:Bk ["thing","least","most"] Dd (Aj Mt):=by ac_rfl
abbrev Jz:Stmt:=top 5
abbrev Gm:YF:=["row"]
theorem QX:Bk ["row"] Gm (Aj Jz):=by ac_rfl
abbrev DX:Stmt:=top 6
abbrev CZ:YF:=["thing","least","most","low","high"]
theorem JW:Bk CZ CZ (Aj DX):=by ac_rfl
theorem Y7 {i:Nat} {v:V} {U : St} {H:Hp} {Q:YO} (h:Q (U.set i (some v)) H):Gu i v U H Q:=h
def bQ:Sp:=λvs H Q _=>∃v,vs=[v]/\Kn H v/\Q (.bl (isW v)) H
def Vd (o:Option (YG)) (a b:Int):Bool:=match o with
 | some xs=>decide (a<=xs.length)&&decide ((xs.length:Int)<=b)
 | none=>false
def Gg:Sp:=λvs H Q _=>∃v a b,vs=[v,.int a,.int b]/\Kn H v/\Q (.bl (Vd (GQ H v) a b)) H
theorem aW {v:V} (h:isW v=true):∃i,v=.int i:=by
 cases v with
 | int i=>exact⟨i,rfl⟩
 | _=>cases h
def wiB (v:V) (lo hi:Int):Bool:=match v with
 | .int i=>decide (lo<=i)&&decide (i<=hi)
 | _=>false
def Nr:Sp:=λvs H Q _=>∃v lo hi,vs=[v,.int lo,.int hi]/\Kn H v/\Q (.bl (wiB v lo hi)) H
def adj {α : Type} (l:List α):List (α×α):=l.zip l.tail
theorem UJ {α : Type} (l:List α):(adj l).length=l.length - 1:=by unfold adj;rw[List.length_zip,List.length_tail];omega
theorem XF {α : Type} {l:List α} {i:Nat} {x y:α} (hx:l[i]?=some x) (hy:l[i+1]?=some y):(adj l)[i]?=some (x,y):=by
 unfold adj;rw[List.getElem?_zip_eq_some];exact⟨hx,by rw[List.getElem?_tail];exact hy⟩
def Ra (gs:List Int):Bool:=(adj gs).all λp=>decide (p.1 < p.2)
def ZF:Sp:=λvs H Q _=>∃t gs,vs=[.ref t]/\H t=some (.tup (gs.map V.int))/\gs.length<=1000/\∀H',Same H H'->Q (.bl (Ra gs)) H'
theorem ZP {α β : Type} {F:α->β->Prop}:∀{l:List α} {m:List β} {i:Nat} {x:α},Paired F l m->l[i]?=some x->∃y,m[i]?=some y/\F x y
 | _,_,_,_,.nil,h=>by cases h
 | _,_,0,_,.cons a r,h=>by cases h;exact⟨_,rfl,a⟩
 | _,_,i+1,_,.cons a r,h=>ZP (i:=i) r h
theorem all_map {α : Type} (f:α->Bool) (l:List α):(l.map f).all id=l.all f:=by rw[List.all_map];rfl
theorem lU {α : Type} (xs:YG):Eo xs (some 1) none=xs.tail:=by
 unfold Eo;cases xs with
 | nil=>simp
 | cons x r=>
  rw[HT.Ke,show (some (1:Int))=some ((1:Nat):Int) from rfl,HT.Li,Nat.min_eq_left (by rw[Qbe];omega)]
  rw[show (x::r).drop 1=r from rfl]
  exact List.take_of_length_le (by rw[Qbe];omega)
mutual
def wide:PyData->Bool
 | .tuple ds=>decide (ds.length<=900)&&Dz ds
 | .list ds=>decide (ds.length<=900)&&Dz ds
 | .str z=>decide (z.length<=900)&&z.cps.toList.all λc=>decide (c < 128)
 | _=>true
def Dz:List PyData->Bool
 | []=>true
 | x::r=>wide x&&Dz r
end
structure Fit (n:Nat) (d:PyData):Prop where
 lay:d.canLay0=true
 dep:d.depth<=n
 wd:wide d=true
theorem OD:∀{ds:List PyData},PyData.canLayAll0 ds=true->∀x∈ds,x.canLay0=true
 | [],_,_,h=>by cases h
 | a::r,h,x,hx=>by
  have h:(a.canLay0&&PyData.canLayAll0 r)=true:=h;rw[Qbc] at h;rcases QbD.mp hx with rfl | hx
  ·exact h.1
  ·exact OD h.2 x hx
theorem O6:∀{ds:List PyData} {n:Nat},PyData.depthAll ds<=n->∀x∈ds,x.depth<=n
 | [],_,_,_,h=>by cases h
 | a::r,n,h,x,hx=>by
  have h:max a.depth (PyData.depthAll r)<=n:=h;rcases QbD.mp hx with rfl | hx
  ·omega
  ·exact O6 (by omega) x hx
theorem V9:∀{ds:List PyData},Dz ds=true->∀x∈ds,wide x=true
 | [],_,_,h=>by cases h
 | a::r,h,x,hx=>by
  have h:(wide a&&Dz r)=true:=by simpa only [Dz] using h
  rw[Qbc] at h;rcases QbD.mp hx with rfl | hx
  ·exact h.1
  ·exact V9 h.2 x hx
theorem Fit.len {n:Nat} {ds:List PyData} (h:Fit n (.tuple ds)):ds.length<=900:=by
 have h:(decide (ds.length<=900)&&Dz ds)=true:=by simpa only [wide] using h.wd
 rw[Qbc] at h;exact QaU h.1
theorem Fit.item {n:Nat} {ds:List PyData} (h:Fit (n+1) (.tuple ds)) {x:PyData} (hx:x∈ds):Fit n x:=by
 have h1:PyData.canLayAll0 ds=true:=h.lay;have h2:PyData.depthAll ds+1<=n+1:=h.dep;have h3:(decide (ds.length<=900)&&Dz ds)=true:=by simpa only [wide] using h.wd
 rw[Qbc] at h3;exact⟨OD h1 x hx,O6 (by omega) x hx,V9 h3.2 x hx⟩
theorem Fit.mono {n m:Nat} {d:PyData} (h:Fit n d) (l:n<=m):Fit m d:=⟨h.lay,QbO h.dep l,h.wd⟩
theorem Fit.shaped {n:Nat} {d:PyData} (h:Fit n d) (l:n<=64):SeqAt.shaped d=true:=by
 show (d.canLay0&&decide (d.depth<=64))=true;rw[h.lay,Qby (QbO h.dep l)];rfl
theorem Bb.pair {H:Hp}:∀{xs:YG} {ds:List PyData},Bb H xs ds->Paired (Rep H) xs ds
 | _,_,.nil=>.nil
 | _,_,.cons a r=>.cons a (Bb.pair r)
mutual
theorem Rep.same {H H':Hp} (s:Same H H'):∀{v:V} {d:PyData},Rep H v d->Rep H' v d
 | _,_,.non=>.non
 | _,_,.bl b=>.bl b
 | _,_,.int i=>.int i
 | _,_,.str x=>.str x
 | _,_,.tup e r=>.tup (s _ _ e) (Bb.same s r)
 | _,_,.lst e r=>.lst (s _ _ e) (Bb.same s r)
theorem Bb.same {H H':Hp} (s:Same H H'):∀{vs:YG} {ds:List PyData},Bb H vs ds->Bb H' vs ds
 | _,_,.nil=>.nil
 | _,_,.cons a r=>.cons (Rep.same s a) (Bb.same s r)
end
theorem Bb.len {H:Hp} {xs:YG} {ds:List PyData} (h:Bb H xs ds):xs.length=ds.length:=QbF (Bb.pair h)
theorem Bb.at_ {H:Hp} {xs:YG} {ds:List PyData} (h:Bb H xs ds) {i:Nat} {x:V} (hx:xs[i]?=some x):∃d,ds[i]?=some d/\Rep H x d:=ZP (Bb.pair h) hx
def wiP (d:PyData) (lo hi:Int):Bool:=match d with
 | .int i=>decide (lo<=i)&&decide (i<=hi)
 | _=>false
def Cg (d:PyData) (a b:Int):Bool:=match d with
 | .tuple ds=>decide (a<=ds.length)&&decide ((ds.length:Int)<=b)
 | _=>false
theorem Hx {H:Hp} {v:V} {d:PyData} (r:Rep H v d) (lo hi:Int):wiB v lo hi=wiP d lo hi:=by
 cases r <;> rfl
theorem Fj {H:Hp} {v:V} {d:PyData} (r:Rep H v d) (a b:Int):Vd (GQ H v) a b=Cg d a b:=by
 cases r with
 | tup e r=>
  rw[Ej e];show (decide (a<=_)&&decide (_<=b))=_;rw[Bb.len r];rfl
 | lst e r=>rw[Dv e];rfl
 | _=>rfl
theorem DG {H:Hp} {v:V} {d:PyData} (r:Rep H v d) {a b:Int} (h:Cg d a b=true):∃t xs ds,v=.ref t/\d=.tuple ds/\H t=some (.tup xs)/\Bb H xs ds/\a<=ds.length/\(ds.length:Int)<=b:=by
 cases r with
 | tup e r=>
  have h:(decide _&&decide _)=true:=h;rw[Qbc] at h;exact⟨_,_,_,rj,rj,e,r,QaU h.1,QaU h.2⟩
 | _=>cases h
def Q9 (ds:List PyData):Bool:=(adj ds).all λp=>match p with
 | (.int a,.int b)=>decide (a < b)
 | _=>false
def rwP (d:PyData) (a b lo hi:Int):Bool:=match d with
 | .tuple ds=>Cg (.tuple ds) a b&&((ds.all λx=>wiP x lo hi)&&Q9 ds)
 | _=>false
theorem ints_of:∀{ds:List PyData} {lo hi:Int},(ds.all λx=>wiP x lo hi)=true->∃gs:List Int,ds=gs.map PyData.int
 | [],_,_,_=>⟨[],rfl⟩
 | x::r,lo,hi,h=>by
  rw[QbJ,Qbc] at h;obtain⟨gs,e⟩:=ints_of h.2;cases x with
  | int i=>exact⟨i::gs,by rw[e];rfl⟩
  | _=>cases h.1
theorem K4 {H:Hp}:∀{xs:YG} {gs:List Int},Bb H xs (gs.map PyData.int)->xs=gs.map V.int
 | _,[],.nil=>rfl
 | _,g::r,.cons (.int _) t=>by rw[K4 t];rfl
theorem Q8 (gs:List Int):Q9 (gs.map PyData.int)=Ra gs:=by
 unfold Q9 Ra adj;rw[<-List.map_tail,List.zip_map,List.all_map];rfl
def Wk:Sp:=λvs H Q _=>∃v a b lo hi d n,vs=[v,.int a,.int b,.int lo,.int hi]/\Rep H v d/\Fit n d/\∀H',Same H H'->Q (.bl (rwP d a b lo hi)) H'
section
variable {P:Program} {w:World} {K:YD} {mg:YB} {base:Heap}
theorem Ro (c:Code K mg "is_whole" Kc G6) (T:Nm mg):Good P w K mg base "is_whole" 1 G6 bQ:=by
 refine c.good SX (λvs H Q E h=>?_) (λf cdv A outer s H vs Q E hr h=>?_)
 ·obtain⟨v,rfl,_⟩:=h;rfl
 obtain⟨v,rfl,k,q⟩:=h;refine⟨_,(Ah (Ax (Cq (Ai BP rfl T.isinstance Bh (Aa (pv 0) (Aa (Ce (v:=.ty "int") rfl T.int Oa rfl) Ab))) (CW (WD (Ai BP rfl T.isinstance Bh (Aa (pv 0) (Aa (Ce (v:=.ty "bool") rfl T.bool O8 rfl) Ab)))))))),?_⟩;refine⟨_,rj,Uo k ⟨_,rj,?_⟩⟩;rw[dg] at q;cases e:isI v with
 | false=>rw[e] at q;exact Ba q
 | true=>rw[e] at q;exact Ar ⟨_,rfl,Mz e ⟨_,rfl,q⟩⟩
theorem WT (c:Code K mg "is_row" Mt Dd) (T:Nm mg):Good P w K mg base "is_row" 1 Dd Gg:=by
 refine c.good Wu (λvs H Q E h=>?_) (λf cdv A outer s H vs Q E hr h=>?_)
 ·obtain⟨v,a,b,rfl,_⟩:=h;rfl
 obtain⟨v,a,b,rfl,k,q⟩:=h;refine⟨_,(Ah (Ax (Cq (Ai BP rfl T.isinstance Bh (Aa (pv 0) (Aa (Ce (v:=.ty "tuple") rfl T.tuple BR rfl) Ab))) (CW (Jd DY DY (pv 1) (Ai Ay rfl T.len Bx (Aa (pv 0) Ab)) (pv 2)))))),?_⟩;refine⟨_,rj,CT k ⟨_,rj,?_⟩⟩;cases e:GQ H v with
 | none=>rw[e] at q;exact Ba q
 | some xs=>
  rw[e] at q;obtain⟨p,rfl,hp⟩:=Yy e;refine Ar ⟨_,rj,_,rj,p,xs,rj,.inr (SqT.of hp),_,_,rj,rj,_,rj,?_⟩;by_cases h1:a<=(xs.length:Int)
  ·rw[Qby h1];refine Ar ⟨_,rj,_,_,rj,rj,?_⟩;simpa [Vd,h1] using q
  ·rw[Qbl h1];refine Ba ?_;simpa [Vd,h1] using q
theorem Qn (c:Code K mg "is_within" Jy Dy) (T:Nm mg) (Vy:Good P w K mg base "is_whole" 1 G6 bQ):Good P w K mg base "is_within" 2 Dy Nr:=by
 refine c.good QW (λvs H Q E h=>?_) (λf cdv A outer s H vs Q E hr h=>?_)
 ·obtain⟨v,lo,hi,rfl,_⟩:=h;rfl
 obtain⟨v,lo,hi,rfl,k,q⟩:=h;refine⟨_,(Ah (Ax (Cq (Ao Vy hr (Aa (pv 0) Ab)) (CW (Jd DY DY (pv 1) (pv 0) (pv 2)))))),?_⟩;refine⟨_,rj,v,rj,k,_,rj,?_⟩;cases ew:isW v with
 | false=>
  have:wiB v lo hi=false:=by cases v <;> first | rfl | cases ew
  rw[this] at q;exact Ba q
 | true=>
 obtain⟨x,rfl⟩:=aW ew;have q:Q (.bl (decide (lo<=x)&&decide (x<=hi))) H:=q;refine Ar ⟨_,rj,_,rj,_,_,rj,rj,_,rj,?_⟩;by_cases h1:lo<=x
 ·rw[Qby h1];rw[Qby h1,QbE] at q;exact Ar ⟨_,rj,_,_,rj,rj,q⟩
 ·rw[Qbl h1];rw[Qbl h1,QbB] at q;exact Ba q
abbrev xi:YF:=["one","other"]
theorem Rp (c:Code K mg "is_rising" Jz Gm) (T:Nm mg):Good P w K mg base "is_rising" 1 Gm ZF:=by
 refine c.good QX (λvs H Q E h=>?_) (λf cdv A outer s H vs Q E hr h=>?_)
 ·obtain⟨t,gs,rfl,_⟩:=h;rfl
 obtain⟨t,gs,rfl,ht,few,q⟩:=h;refine⟨_,(Ah (Ax (Ai (Dq rfl) rfl T.all Fi (Aa (Cp (N':=xi) rfl (Bt.plain rfl (by trivial) (by trivial) (by trivial)) (Yp rfl T.zip (Aa (pv 0) (Aa (Cy Es (pv 0) (CN Ac) Dc) Ab))) (λ_ _ _ _=>(Oo (K:=K) (n:=2) rfl rfl (Bl (Ak (i:=0) (show List.Nodup (xi:YF) by trivial) rfl (Or.inl rfl)) (Bl (Ak (i:=1) (show List.Nodup (xi:YF) by trivial) rfl (Or.inl rfl)) DK)))) (λ_ _ _ _=>CV) (λ_ _ _ _=>(Dn Kf (pv 0) (pv 1) (Bq _)))) Ab)))),?_⟩;refine⟨_,rj,_,rj,_,rj,t,_,rj,ht,λu H1 hu s1=>?_⟩;rw[lU (α:=Unit),<-List.map_tail] at hu;have ht1:=s1 _ _ ht;refine⟨t,u,rj,⟨_,ht1⟩,⟨_,hu⟩,λl hl=>?_⟩;have q:∀H',Same H H'->Q (.bl ((adj gs).all λp=>decide (p.1 < p.2))) H':=q;have al:=UJ gs;refine VH (xs:=gs.map V.int) (ys:=gs.tail.map V.int) (gs.length - 1) (by rw[Qbk];omega) (by rw[Qbk,List.length_tail];exact QbR _) (.inr (by rw[Qbk,List.length_tail];exact QbR _)) (λ(i:Nat) (U : St) (HH:Hp)=>∃(u v:Option V),U=[u,v]/\HH l=some (.lst ((((adj gs).take i).map λp=>decide (p.1 < p.2)).map V.bl))/\Same H1 HH) ⟨_,_,rj,Ad,Ae hl _⟩ (λi U HH _ h=>?_) (λi x y p U HH hx hy h hp=>?_) (fun U HH h=>?_)
 ·obtain⟨u,v,rfl,e1,e2⟩:=h;exact⟨e2 _ _ ht1,e2 _ _ hu⟩
 ·obtain⟨u',v',rfl,e1,e2⟩:=h;rw[QaT] at hx hy;obtain⟨a,ha,rfl⟩:=Qaq.mp hx;obtain⟨b,hb,rfl⟩:=Qaq.mp hy;rw[List.getElem?_tail] at hb;have pr:=XF ha hb;have hi:i < (adj gs).length:=(Qaf.mp pr).1;have s3:=Ae hp (.tup [.int a,.int b]);have h3:(upd HH p (.tup [.int a,.int b])) p=some (.tup [.int a,.int b]):=Ad;have e1':=s3 _ _ e1;have e2':=e2.trans s3;generalize upd HH p (.tup [.int a,.int b])=H3 at *;refine⟨p,_,rj,SqT.of h3,rj,_,_,rj,_,_,rj,rj,Ar ⟨_,rj,_,rj,_,_,rj,rj,_,e1',Bc (by rw[Qbk,Qbk,Qbd];omega),_,_,rj,?_,e2'.CG Af.upd hl⟩⟩;rw[Ad,QbZ pr,Qbn,Qbn];rfl
 ·obtain⟨u',v',rfl,e1,e2⟩:=h;rw[<-al,Qbf] at e1;refine⟨l,_,rj,SqL.of e1,?_⟩;rw[all_map];exact q _ (s1.trans e2)
theorem Mv (c:Code K mg "are_rising_within" DX CZ) (T:Nm mg) (Ci:Good P w K mg base "is_row" 1 Dd Gg) (En:Good P w K mg base "is_within" 2 Dy Nr) (Tf:Good P w K mg base "is_rising" 1 Gm ZF):Good P w K mg base "are_rising_within" 3 CZ Wk:=by
 refine c.good JW (λvs H Q E h=>?_) (λf cdv A outer s H vs Q E hr h=>?_)
 ·obtain⟨v,a,b,lo,hi,d,n,rfl,_⟩:=h;rfl
 obtain⟨v,a,b,lo,hi,d,n,rfl,rd,fit,q⟩:=h;refine⟨_,(Ag (BX (BK (BJ (Ao Ci hr (Aa (pv 0) (Aa (pv 1) (Aa (pv 2) Ab)))))) (Ah (Ax CJ)) Bs)
 (Ah (Ax (Cq (Ai (Dq rfl) rfl T.all Fi (Aa (Cp (N':=["part","low","high"]) rfl (Bt.of (src:=[none,some 3,some 4]) (Aj DX) CZ rfl rfl rfl (by trivial) (by trivial) (by trivial) rfl (by trivial)) (DQ (pv 0)) (λ_ _ _ _=>(Ak (i:=0) (show List.Nodup (["part","low","high"]:YF) by trivial) rfl (Or.inl rfl))) (λ_ _ _ _=>CV) (λ_ _ _ _=>(Ao En hr (Aa (pv 0) (Aa (pv 1) (Aa (pv 2) Ab)))))) Ab)) (CW (Ao Tf hr (Aa (pv 0) Ab))))))),?_⟩
 show let R0:TS:=_;Aq _ R0 _ _ _;intro R0;refine⟨_,rj,_,rj,_,rj,v,a,b,rj,rd.kn,_,rj,?_⟩;rw[Fj rd];cases eb:Cg d a b with
 | false=>
  have:rwP d a b lo hi=false:=by
   unfold rwP;split
   ·rw[eb];rfl
   ·rfl
  rw[this] at q;exact Ar (q _ (Same.refl _))
 | true=>
  obtain⟨t,xs,ds,rfl,rfl,ht,rs,_,_⟩:=DG rd eb;have lx:=Bb.len rs;have fl:=fit.len;have q:∀H',Same H H'->Q (.bl (Cg (.tuple ds) a b&&((ds.all λx=>wiP x lo hi)&&Q9 ds))) H':=q;rw[eb,QbE] at q;refine Ba ⟨_,rj,t,rj,⟨_,SqT.of ht⟩,λl hl=>?_⟩;let J0:YN:=λ(i:Nat) (U : St) (HH:Hp)=>∃(u:Option V),U=[u,some (.int lo),some (.int hi)]/\HH l=some (.lst (((ds.take i).map λg=>wiP g lo hi).map V.bl))/\Same H HH;refine Ko (xs:=xs) J0 ⟨_,rj,Ad,Ae hl _⟩ (λi U HH _ h=>?_) (λi x U HH hx h=>?_) (fun U HH h=>?_)
  ·obtain⟨u,rfl,e1,e2⟩:=h;exact SqT.of (e2 _ _ ht)
  ·obtain⟨u,rfl,e1,e2⟩:=h;obtain⟨g,hg,rg⟩:=Bb.at_ rs hx;have hi':i < ds.length:=(Qaf.mp hg).1;refine Y7 (Ar ⟨_,rj,_,rj,_,rj,x,_,_,rj,(Rep.same e2 rg).kn,_,e1,Bc (by rw[Qbk,Qbk,Qbd];omega),_,rj,?_,e2.CG Af.upd hl⟩);rw[Ad,QbZ hg,Qbn,Qbn,Hx rg];rfl
  obtain⟨u,rfl,e1,e2⟩:=h;rw[lx,Qbf] at e1;refine⟨l,_,rj,SqL.of e1,_,rj,?_⟩;rw[all_map];cases ea:ds.all λg=>wiP g lo hi with
  | false=>rw[ea] at q;exact Ba (q _ e2)
  | true=>
   obtain⟨gs,eg⟩:=ints_of ea;rw[ea,QbE] at q;subst eg;have ex:=K4 rs;subst ex;rw[Q8] at q;rw[Qbk] at fl;exact Ar ⟨_,rj,t,gs,rj,e2 _ _ ht,by omega,λH' s'=>q _ (e2.trans s')⟩
end
abbrev KZ:Stmt:=top 7
abbrev Ia:YF:=G6
theorem Vb:Bk G6 Ia (Aj KZ):=by ac_rfl
abbrev JB:Stmt:=top 10
abbrev Fp:YF:=["kind","address"]
theorem QZ:Bk ["kind","address"] Fp (Aj JB):=by ac_rfl
abbrev Gx:Stmt:=top 11
abbrev DR:YF:=G6
theorem Lx:Bk G6 DR (Aj Gx):=by ac_rfl
abbrev KR:Stmt:=top 12
abbrev HW:YF:=G6
theorem Va:Bk G6 HW (Aj KR):=by ac_rfl
abbrev Kd:Stmt:=top 13
abbrev G7:YF:=G6
theorem Gh:Bk ["thing","kind","address","spur"] G7 (Aj Kd):=by ac_rfl
abbrev K1:Stmt:=top 14
abbrev Ib:YF:=G6
theorem Vc:Bk G6 Ib (Aj K1):=by ac_rfl
abbrev KQ:Stmt:=top 15
abbrev HN:YF:=G6
theorem U9:Bk G6 HN (Aj KQ):=by ac_rfl
abbrev JD:Stmt:=top 16
abbrev Gp:YF:=G6
theorem Q5:Bk G6 Gp (Aj JD):=by ac_rfl
structure Tp (K:YD) (mg:YB) (kd:Addr):Prop extends Nm mg where
 KINDS:∃u,mg "KINDS"=some u/\RelV (.ref kd) u
 kdT:∀H,SqT K H kd [.str "seeker",.str "knob",.str "bell",.str "door"]
 SMALL_LETTERS:∃u,mg "SMALL_LETTERS"=some u/\RelV (.str abc) u
theorem Fit.item' {n:Nat} {ds:List PyData} (h:Fit n (.tuple ds)) {x:PyData} (hx:x∈ds):Fit n x:=by
 have hd:PyData.depthAll ds+1<=n:=h.dep;obtain⟨k,rfl⟩ : ∃k,n=k+1:=⟨n - 1,by omega⟩;exact (h.item hx).mono (Nat.le_succ _)
theorem Fit.bT {n:Nat} {z:Str} (h:Fit n (.str z)):z.length<=900:=by
 have h:(decide (z.length<=900)&&z.cps.toList.all λc=>decide (c < 128))=true:=by simpa only [wide] using h.wd
 rw[Qbc] at h;exact QaU h.1
theorem Fit.asc {n:Nat} {z:Str} (h:Fit n (.str z)):∀c∈z.cps.toList,c < 128:=by
 have h:(decide (z.length<=900)&&z.cps.toList.all λc=>decide (c < 128))=true:=by simpa only [wide] using h.wd
 rw[Qbc] at h;exact λc hc=>QaU (Qbj.mp h.2 c hc)
def isS:V->Bool
 | .str _=>true
 | _=>false
theorem Kh {K:YD} {H:Hp} {x:V} {Q:VK} (k:Kn H x) (q:Q (.bl (isS x)) H):JF K [x,.ty "str"] H Q:=by
 unfold JF;cases x with
 | non=>exact⟨_,_,_,_,rfl,.non,by rfl,q⟩
 | bl b=>exact⟨_,_,_,_,rfl,.bl b,by rfl,q⟩
 | int i=>exact⟨_,_,_,_,rfl,.int i,by rfl,q⟩
 | str z=>exact⟨_,_,_,_,rfl,.str z,by rfl,q⟩
 | ref a=>
  rcases k with⟨xs,e⟩|⟨xs,e⟩
  ·exact⟨_,_,_,_,rj,.lst e,by rfl,q⟩
  ·exact⟨_,_,_,_,rj,.tup e,by rfl,q⟩
 | _=>exact k.elim
def Jp (c:Nat):Bool:=!(Builtin.Str.occurrences abc ⟨#[c]⟩ 0 abc.length 1).isEmpty
def nameP (d:PyData):Bool:=match d with
 | .str z=>(decide ((1:Int)<=z.length)&&decide ((z.length:Int)<=8))&&z.cps.toList.all Jp
 | _=>false
def kdL:List PyData:=[.str "seeker",.str "knob",.str "bell",.str "door"]
def Kg (d:PyData):Bool:=kdL.any λz=>PyData.eqv z d
def Gz (k a:PyData):Bool:=Kg k&&wiP a 1 99
def Dj (d:PyData):Bool:=match d with
 | .tuple [k,a]=>Gz k a
 | _=>false
def Il (d:PyData):Bool:=match d with
 | .tuple ds=>Cg (.tuple ds) 0 3&&ds.all Dj
 | _=>false
def Cm (d:PyData):Bool:=match d with
 | .tuple [k,a,s]=>if PyData.eqv k (.str "opener")=true then wiP a 0 0&&Cg s 0 0 else Gz k a&&Il s
 | _=>false
def Ei (d:PyData):Bool:=match d with
 | .tuple ds=>Cg (.tuple ds) 1 12&&ds.all Cm
 | _=>false
def FP (d:PyData):Bool:=match d with
 | .tuple ds=>Cg (.tuple ds) 1 3&&ds.all Ei
 | _=>false
def Ef (d:PyData):Bool:=match d with
 | .tuple [n,a]=>nameP n&&rwP a 1 30 1 99
 | _=>false
theorem Qz {α : Type} {l:List α} (h:(2:Int)<=l.length) (h':(l.length:Int)<=2):∃a b,l=[a,b]:=by
 match l,h,h' with
 | [a,b],_,_=>exact⟨a,b,rfl⟩
 | [],h,_=>simp at h
 | [_],h,_=>simp at h
 | _::_::_::_,_,h=>simp at h;omega
theorem Qy {α : Type} {l:List α} (h:(3:Int)<=l.length) (h':(l.length:Int)<=3):∃a b c,l=[a,b,c]:=by
 match l,h,h' with
 | [a,b,c],_,_=>exact⟨a,b,c,rfl⟩
 | [],h,_=>simp at h
 | [_],h,_=>simp at h
 | [_,_],h,_=>simp at h
 | _::_::_::_::_,_,h=>simp at h;omega
theorem Ub {d:PyData} (h:Cg d 2 2=false):∀a b,d≠.tuple [a,b]:=λa b e=>by
 rw[e] at h;have h:(decide ((2:Int)<=2)&&decide ((2:Int)<=2))=false:=h;exact absurd h (by decide)
theorem Ua {d:PyData} (h:Cg d 3 3=false):∀a b c,d≠.tuple [a,b,c]:=λa b c e=>by
 rw[e] at h;have h:(decide ((3:Int)<=3)&&decide ((3:Int)<=3))=false:=h;exact absurd h (by decide)
theorem EY {K:YD} {a l:Addr} {xs:YG} {ds:List PyData} {fb:PyData->Bool} {te:TE} {Q:VK} {r:St} {H:Hp} (hl:H l=none) (ha:H a=some (.tup xs)) (rs:Bb H xs ds) (h9:ds.length<=900)
  (hs:∀(x:V) (d:PyData) (HH:Hp),d∈ds->Rep HH x d->Same H HH->∀R:VK,(∀H',Same HH H'->R (.bl (fb d)) H')->te (some x::r) HH R)
  (hq:∀H',H' l=some (.lst ((ds.map fb).map V.bl))->Same H H'->Q (.ref l) H'):Gb (Itt K a) (Gu 0) (λ_ H Q=>Q true H) te Q (none::r) (upd H l (.lst [])) l:=by
 have lx:=Bb.len rs;let J0:YN:=λi U HH=>∃u,U=u::r/\HH l=some (.lst (((ds.take i).map fb).map V.bl))/\Same H HH;refine Ko (xs:=xs) J0 ⟨_,rj,Ad,Ae hl _⟩ (λi U HH _ h=>?_) (λi x U HH hx h=>?_) (fun U HH h=>?_)
 ·obtain⟨u,rfl,_,s⟩:=h;exact SqT.of (s _ _ ha)
 ·obtain⟨u,rfl,e,s⟩:=h;obtain⟨d,hd,rd⟩:=Bb.at_ rs hx;have hi:=(Qaf.mp hd).1;unfold Gu;dsimp only;refine Ar (hs x d HH (Qau hd) (Rep.same s rd) s _ λH' s'=>⟨_,s' _ _ e,Bc (by rw[Qbk,Qbk,Qbd];omega),_,rj,?_,(s.trans s').CG Af.upd hl⟩);rw[Ad,QbZ hd,Qbn,Qbn];rfl
 ·obtain⟨u,rfl,e,s⟩:=h;rw[lx,Qbf] at e;exact hq _ e s
def Di (fb:PyData->Bool):Sp:=λvs H Q _=>∃v d,vs=[v]/\Rep H v d/\Fit 64 d/\∀H',Same H H'->Q (.bl (fb d)) H'
def Yd:Sp:=λvs H Q _=>∃k a dk da,vs=[k,a]/\Rep H k dk/\Rep H a da/\Fit 64 dk/\Q (.bl (Gz dk da)) H
theorem aV {K:YD} {H:Hp}:Hg K H [.str "seeker",.str "knob",.str "bell",.str "door"] kdL:=.cons (.str _) (.cons (.str _) (.cons (.str _) (.cons (.str _) .nil)))
theorem cY:PyData.canLayAll0 kdL=true:=by trivial
section
variable {P:Program} {w:World} {K:YD} {mg:YB} {base:Heap} {kd:Addr}
theorem Vp (C:Code K mg "is_name" KZ Ia) (T:Tp K mg kd):Good P w K mg base "is_name" 1 Ia (Di nameP):=by
 refine C.good Vb (λvs H Q E h=>?_) (λf cdv A outer s H vs Q E hr h=>?_)
 ·obtain⟨v,d,rfl,_⟩:=h;rfl
 obtain⟨v,d,rfl,rd,fit,q⟩:=h;refine⟨_,(Ag (BX (BK (BJ (Ai BP rfl T.isinstance Bh (Aa (pv 0) (Aa (Ce (v:=.ty "str") rfl T.str N7 rfl) Ab))))) (Ah (Ax CJ)) Bs)
 (Ah (Ax (Cq (Jd DY DY Ac (Ai Jo rfl T.len Bx (Aa (pv 0) Ab)) Ac) (CW (Ai (Dq rfl) rfl T.all Fi (Aa (Cp (N':=["sign"]) rfl (Bt.plain rfl (by trivial) (by trivial) (by trivial)) (Rg (pv 0)) (λ_ _ _ _=>(Ak (i:=0) (show List.Nodup (["sign"]:YF) by trivial) rfl (Or.inl rfl))) (λ_ _ _ _=>CV) (λ_ _ _ _=>(Dn WL (pv 0) (WK rfl T.SMALL_LETTERS) (by with_unfolding_all rfl)))) Ab))))))),?_⟩
 show let R0:TS:=_;Aq _ R0 _ _ _;intro R0;refine⟨_,rj,Kh rd.kn ⟨_,rj,?_⟩⟩;cases rd with
 | str z=>
  have q:∀H',Same H H'->Q (.bl ((decide ((1:Int)<=z.length)&&decide ((z.length:Int)<=8))&&z.cps.toList.all Jp)) H':=q;have z9:z.length<=900:=fit.bT;refine Ba ⟨_,rj,z,rj,Al (by show z.length<=1000;omega),_,_,rj,rj,_,rj,?_⟩;by_cases g1:(1:Int)<=(z.length:Int)
  ·rw[Qby g1];rw[Qby g1,QbE] at q;refine Ar ⟨_,_,rj,rj,_,rj,?_⟩;by_cases g2:(z.length:Int)<=8
   ·rw[Qby g2];rw[Qby g2,QbE] at q;refine Ar ⟨_,rj,z,rj,λl hl'=>?_⟩;let J1:YN:=λi U HH=>∃u,U=[u]/\HH l=some (.lst (((z.cps.toList.take i).map Jp).map V.bl))/\Same H HH;refine M8 J1 ⟨_,rj,Ad,Ae hl' _⟩ (λi c U HH hc h=>?_) (fun U HH h=>?_)
    ·obtain⟨u,rfl,e1,e2⟩:=h;have hi:i < z.cps.size:=(Qad.mp hc).1;have hz:z.cps.size<=900:=z9;have hcl:z.cps.toList[i]?=some c:=by rw[Qas];exact hc
     unfold Gu;dsimp only;refine Ar ⟨_,rj,_,_,rj,rj,_,e1,Bc (by simp;omega),_,rj,?_,e2.CG Af.upd hl'⟩;rw[Ad,QbZ hcl,Qbn,Qbn];rfl
    ·obtain⟨u,rfl,e1,e2⟩:=h;have el:z.cps.size=z.cps.toList.length:=QaB.symm;rw[el,Qbf] at e1;refine⟨l,_,rj,SqL.of e1,?_⟩;rw[all_map];exact q _ e2
   ·rw[Qbl g2];rw[Qbl g2] at q;exact Ba (q _ (Same.refl _))
  ·rw[Qbl g1];rw[Qbl g1] at q;exact Ba ⟨_,rj,Ba (q _ (Same.refl _))⟩
 | _=>exact Ar (q _ (Same.refl _))
theorem Rq (C:Code K mg "is_device" JB Fp) (T:Tp K mg kd) (En:Good P w K mg base "is_within" 2 Dy Nr):Good P w K mg base "is_device" 3 Fp Yd:=by
 refine C.good QZ (λvs H Q E h=>?_) (λf cdv A outer s H vs Q E hr h=>?_)
 ·obtain⟨k,a,dk,da,rfl,_⟩:=h;rfl
 obtain⟨k,a,dk,da,rfl,rk,ra,fit,q⟩:=h;refine⟨_,(Ah (Ax (Cq (Dn (aA (K:=K) rfl hr.bG) (pv 0) (WK rfl T.KINDS) (by with_unfolding_all rfl)) (CW (Ao En hr (Aa (pv 1) (Aa Ac (Aa Ac Ab)))))))),?_⟩;refine⟨_,rj,kd,_,dk,kdL,rj,T.kdT H,aV,rk,fit.shaped (QbR _),cY,_,rj,?_⟩;show if Kg dk=true then _ else _
 unfold Gz at q;cases e:Kg dk with
 | false=>rw[e] at q;exact Ba q
 | true=>
  rw[e,QbE] at q;refine Ar ⟨_,rj,a,1,99,rj,ra.kn,?_⟩;rw[Hx ra];exact q
theorem Ly (C:Code K mg "is_spur_device" Gx DR) (T:Tp K mg kd) (Ci:Good P w K mg base "is_row" 1 Dd Gg) (JH:Good P w K mg base "is_device" 3 Fp Yd):Good P w K mg base "is_spur_device" 4 DR (Di Dj):=by
 refine C.good Lx (λvs H Q E h=>?_) (λf cdv A outer s H vs Q E hr h=>?_)
 ·obtain⟨v,d,rfl,_⟩:=h;rfl
 obtain⟨v,d,rfl,rd,fit,q⟩:=h;refine⟨_,(Ah (Ax (Cq (Ao Ci hr (Aa (pv 0) (Aa Ac (Aa Ac Ab)))) (CW (Ao JH hr (Aa (Bg Bv (pv 0) Ac (λ_ _=>rfl)) (Aa (Bg Bv (pv 0) Ac (λ_ _=>rfl)) Ab))))))),?_⟩;refine⟨_,rj,v,2,2,rj,rd.kn,_,rj,?_⟩;rw[Fj rd];cases e:Cg d 2 2 with
 | false=>
  have:Dj d=false:=by
   unfold Dj;split
   ·exact absurd rfl (Ub e _ _)
   ·rfl
  rw[this] at q;exact Ba (q _ (Same.refl _))
 | true=>
  obtain⟨t,xs,ds,rfl,rfl,ht,rs,h1,h2⟩:=DG rd e;obtain⟨k,a,rfl⟩:=Qz h1 h2;cases rs with
  | cons rk rs=>
  cases rs with
  | cons ra rs=>
  cases rs;exact Ar ⟨_,rj,t,_,_,_,rj,rj,SqT.of ht,rj,_,rj,t,_,_,_,rj,rj,SqT.of ht,rj,_,_,k,a,rj,rk,ra,fit.item' (QaH ..),q _ (Same.refl _)⟩
abbrev xb:YF:=["part"]
theorem Vn (C:Code K mg "is_spur" KR HW) (T:Tp K mg kd) (Ci:Good P w K mg base "is_row" 1 Dd Gg) (MN:Good P w K mg base "is_spur_device" 4 DR (Di Dj)):Good P w K mg base "is_spur" 5 HW (Di Il):=by
 refine C.good Va (λvs H Q E h=>?_) (λf cdv A outer s H vs Q E hr h=>?_)
 ·obtain⟨v,d,rfl,_⟩:=h;rfl
 obtain⟨v,d,rfl,rd,fit,q⟩:=h;refine⟨_,(Ah (Ax (Cq (Ao Ci hr (Aa (pv 0) (Aa Ac (Aa Ac Ab)))) (CW (Ai (Dq rfl) rfl T.all Fi (Aa (Cp (N':=xb) rfl (Bt.plain rfl (by trivial) (by trivial) (by trivial)) (DQ (pv 0)) (λ_ _ _ _=>(Ak (i:=0) (show List.Nodup (xb:YF) by trivial) rfl (Or.inl rfl))) (λ_ _ _ _=>CV) (λ_ _ _ _=>(Ao MN hr (Aa (pv 0) Ab)))) Ab)))))),?_⟩;refine⟨_,rj,v,0,3,rj,rd.kn,_,rj,?_⟩;rw[Fj rd];cases eb:Cg d 0 3 with
 | false=>
  have:Il d=false:=by
   unfold Il;split
   ·rw[eb];rfl
   ·rfl
  rw[this] at q;exact Ba (q _ (Same.refl _))
 | true=>
  obtain⟨t,xs,ds,rfl,rfl,ht,rs,_,_⟩:=DG rd eb;have q:∀H',Same H H'->Q (.bl (Cg (.tuple ds) 0 3&&ds.all Dj)) H':=q;rw[eb,QbE] at q;refine Ar ⟨_,rj,t,rj,⟨_,SqT.of ht⟩,λl hl=>?_⟩;refine EY (r:=[]) (fb:=Dj) hl ht rs fit.len (λx d HH hd rx s1 R hR=>⟨_,rj,x,d,rj,rx,fit.item' hd,hR⟩) λH' e s1=>?_;refine⟨l,_,rj,SqL.of e,?_⟩;rw[all_map];exact q _ s1
theorem S5 (C:Code K mg "is_place" Kd G7) (T:Tp K mg kd) (Ci:Good P w K mg base "is_row" 1 Dd Gg) (En:Good P w K mg base "is_within" 2 Dy Nr) (JH:Good P w K mg base "is_device" 3 Fp Yd) (Xh:Good P w K mg base "is_spur" 5 HW (Di Il)):Good P w K mg base "is_place" 6 G7 (Di Cm):=by
 have sc:=Gh;refine C.good Gh (λvs H Q E h=>?_) (λf cdv A outer s H vs Q E hr h=>?_)
 ·obtain⟨v,d,rfl,_⟩:=h;rfl
 obtain⟨v,d,rfl,rd,fit,q⟩:=h;refine⟨_,(Ag (BX (BK (BJ (Ao Ci hr (Aa (pv 0) (Aa Ac (Aa Ac Ab)))))) (Ah (Ax CJ)) Bs)
 (Ag (Jc (pv 0) (Fz rfl (Bl (Ak (i:=1) Gh.nd rfl (Or.inl rfl)) (Bl (Ak (i:=2) Gh.nd rfl (Or.inl rfl)) (Bl (Ak (i:=3) Gh.nd rfl (Or.inl rfl)) DK)))))
 (Ag (BX (Br (cF hr.units) (pv 1) Bp (Bq _)) (Ah (Ax (Cq (Ao En hr (Aa (pv 2) (Aa Ac (Aa Ac Ab)))) (CW (Ao Ci hr (Aa (pv 3) (Aa Ac (Aa Ac Ab)))))))) Bs)
 (Ah (Ax (Cq (Ao JH hr (Aa (pv 1) (Aa (pv 2) Ab))) (CW (Ao Xh hr (Aa (pv 3) Ab))))))))),?_⟩
 show let R0:TS:=_;let R1:TS:=_;let R2:TS:=Aq (GX _ R1 _) R0;let R3:TS:=Aq _ R2;Aq _ R3 _ _ _;intro R0 R1 R2 R3;refine⟨_,rj,v,3,3,rj,rd.kn,_,rj,?_⟩;rw[Fj rd];cases e:Cg d 3 3 with
 | false=>
  have:Cm d=false:=by
   unfold Cm;split
   ·exact absurd rfl (Ua e _ _ _)
   ·rfl
  rw[this] at q;exact Ar (q _ (Same.refl _))
 | true=>
  obtain⟨t,xs,ds,rfl,rfl,ht,rs,h1,h2⟩:=DG rd e;obtain⟨k,a,s_,rfl⟩:=Qy h1 h2;cases rs with
  | cons rk rs=>
  cases rs with
  | cons ra rs=>
  cases rs with
  | cons rp rs=>
  cases rs;have fk:Fit 64 k:=fit.item' (QaH ..);have fs:Fit 64 s_:=fit.item' (by simp);have q:∀H',Same H H'->Q (.bl (if PyData.eqv k (.str "opener")=true then wiP a 0 0&&Cg s_ 0 0 else Gz k a&&Il s_)) H':=q
  refine Ba ⟨_,rj,t,_,rj,SqT.of ht,rj,_,_,rj,_,_,rj,_,_,rj,rj,?_⟩;refine⟨_,rj,k,.str "opener",rk,.str _,fk.shaped (QbR _),(by trivial),_,rj,?_⟩;cases eo:PyData.eqv k (.str "opener") with
  | true=>
   rw[eo,if_pos rfl] at q;refine Ar ⟨_,rj,_,0,0,rj,ra.kn,_,rj,?_⟩;rw[Hx ra];cases ew:wiP a 0 0 with
   | false=>rw[ew] at q;exact Ba (q _ (Same.refl _))
   | true=>
    rw[ew,QbE] at q;refine Ar ⟨_,rj,_,0,0,rj,rp.kn,?_⟩;rw[Fj rp];exact q _ (Same.refl _)
  | false=>
   rw[eo,if_neg QaG] at q;refine Ba ⟨_,rj,_,rj,_,_,k,a,rj,rk,ra,fk,_,rj,?_⟩;cases ed:Gz k a with
   | false=>rw[ed] at q;exact Ba (q _ (Same.refl _))
   | true=>
    rw[ed,QbE] at q;exact Ar ⟨_,rj,_,s_,rj,rp,fs,q⟩
theorem Vq (C:Code K mg "is_loop" K1 Ib) (T:Tp K mg kd) (Ci:Good P w K mg base "is_row" 1 Dd Gg) (Vz:Good P w K mg base "is_place" 6 G7 (Di Cm)):Good P w K mg base "is_loop" 7 Ib (Di Ei):=by
 refine C.good Vc (λvs H Q E h=>?_) (λf cdv A outer s H vs Q E hr h=>?_)
 ·obtain⟨v,d,rfl,_⟩:=h;rfl
 obtain⟨v,d,rfl,rd,fit,q⟩:=h;refine⟨_,(Ah (Ax (Cq (Ao Ci hr (Aa (pv 0) (Aa Ac (Aa Ac Ab)))) (CW (Ai (Dq rfl) rfl T.all Fi (Aa (Cp (N':=xb) rfl (Bt.plain rfl (by trivial) (by trivial) (by trivial)) (DQ (pv 0)) (λ_ _ _ _=>(Ak (i:=0) (show List.Nodup (xb:YF) by trivial) rfl (Or.inl rfl))) (λ_ _ _ _=>CV) (λ_ _ _ _=>(Ao Vz hr (Aa (pv 0) Ab)))) Ab)))))),?_⟩;refine⟨_,rj,v,1,12,rj,rd.kn,_,rj,?_⟩;rw[Fj rd];cases eb:Cg d 1 12 with
 | false=>
  have:Ei d=false:=by
   unfold Ei;split
   ·rw[eb];rfl
   ·rfl
  rw[this] at q;exact Ba (q _ (Same.refl _))
 | true=>
  obtain⟨t,xs,ds,rfl,rfl,ht,rs,_,_⟩:=DG rd eb;have q:∀H',Same H H'->Q (.bl (Cg (.tuple ds) 1 12&&ds.all Cm)) H':=q;rw[eb,QbE] at q;refine Ar ⟨_,rj,t,rj,⟨_,SqT.of ht⟩,λl hl=>?_⟩;refine EY (r:=[]) (fb:=Cm) hl ht rs fit.len (λx d HH hd rx s1 R hR=>⟨_,rj,x,d,rj,rx,fit.item' hd,hR⟩) λH' e s1=>?_;refine⟨l,_,rj,SqL.of e,?_⟩;rw[all_map];exact q _ s1
theorem Rt (C:Code K mg "are_loops" JD Gp) (T:Tp K mg kd) (Ci:Good P w K mg base "is_row" 1 Dd Gg) (Xk:Good P w K mg base "is_loop" 7 Ib (Di Ei)):Good P w K mg base "are_loops" 8 Gp (Di FP):=by
 refine C.good Q5 (λvs H Q E h=>?_) (λf cdv A outer s H vs Q E hr h=>?_)
 ·obtain⟨v,d,rfl,_⟩:=h;rfl
 obtain⟨v,d,rfl,rd,fit,q⟩:=h;refine⟨_,(Ah (Ax (Cq (Ao Ci hr (Aa (pv 0) (Aa Ac (Aa Ac Ab)))) (CW (Ai (Dq rfl) rfl T.all Fi (Aa (Cp (N':=xb) rfl (Bt.plain rfl (by trivial) (by trivial) (by trivial)) (DQ (pv 0)) (λ_ _ _ _=>(Ak (i:=0) (show List.Nodup (xb:YF) by trivial) rfl (Or.inl rfl))) (λ_ _ _ _=>CV) (λ_ _ _ _=>(Ao Xk hr (Aa (pv 0) Ab)))) Ab)))))),?_⟩;refine⟨_,rj,v,1,3,rj,rd.kn,_,rj,?_⟩;rw[Fj rd];cases eb:Cg d 1 3 with
 | false=>
  have:FP d=false:=by
   unfold FP;split
   ·rw[eb];rfl
   ·rfl
  rw[this] at q;exact Ba (q _ (Same.refl _))
 | true=>
  obtain⟨t,xs,ds,rfl,rfl,ht,rs,_,_⟩:=DG rd eb;have q:∀H',Same H H'->Q (.bl (Cg (.tuple ds) 1 3&&ds.all Ei)) H':=q;rw[eb,QbE] at q;refine Ar ⟨_,rj,t,rj,⟨_,SqT.of ht⟩,λl hl=>?_⟩;refine EY (r:=[]) (fb:=Ei) hl ht rs fit.len (λx d HH hd rx s1 R hR=>⟨_,rj,x,d,rj,rx,fit.item' hd,hR⟩) λH' e s1=>?_;refine⟨l,_,rj,SqL.of e,?_⟩;rw[all_map];exact q _ s1
theorem Vm (C:Code K mg "is_zone" KQ HN) (T:Tp K mg kd) (Ci:Good P w K mg base "is_row" 1 Dd Gg) (Xj:Good P w K mg base "is_name" 1 Ia (Di nameP)) (Kw:Good P w K mg base "are_rising_within" 3 CZ Wk):Good P w K mg base "is_zone" 4 HN (Di Ef):=by
 refine C.good U9 (λvs H Q E h=>?_) (λf cdv A outer s H vs Q E hr h=>?_)
 ·obtain⟨v,d,rfl,_⟩:=h;rfl
 obtain⟨v,d,rfl,rd,fit,q⟩:=h;refine⟨_,(Ah (Ax (Cq (Ao Ci hr (Aa (pv 0) (Aa Ac (Aa Ac Ab)))) (Cq (Ao Xj hr (Aa (Bg Bv (pv 0) Ac (λ_ _=>rfl)) Ab)) (CW (Ao Kw hr (@Aa _ _ _ _ _ (Bg Bv (pv 0) Ac (λ_ _=>rfl)) (@Aa _ _ _ _ _ (@Ac _ _ _ _) (@Aa _ _ _ _ _ (@Ac _ _ _ _) (@Aa _ _ _ _ _ (@Ac _ _ _ _) (@Aa _ _ _ _ _ (@Ac _ _ _ _) (@Ab _) Am) Am) Am) Am) Wj))))))),?_⟩;refine⟨_,rj,v,2,2,rj,rd.kn,_,rj,?_⟩;rw[Fj rd];cases e:Cg d 2 2 with
 | false=>
  have:Ef d=false:=by
   unfold Ef;split
   ·exact absurd rfl (Ub e _ _)
   ·rfl
  rw[this] at q;exact Ba (q _ (Same.refl _))
 | true=>
  obtain⟨t,xs,ds,rfl,rfl,ht,rs,h1,h2⟩:=DG rd e;obtain⟨k,a,rfl⟩:=Qz h1 h2;cases rs with
  | cons rk rs=>
  cases rs with
  | cons ra rs=>
  cases rs;have q:∀H',Same H H'->Q (.bl (nameP k&&rwP a 1 30 1 99)) H':=q;refine Ar ⟨_,rj,t,_,_,_,rj,rj,SqT.of ht,rj,_,k,rj,rk,fit.item' (QaH ..),λH1 s1=>⟨_,rj,?_⟩⟩;cases en:nameP k with
  | false=>rw[en] at q;exact Ba (q _ s1)
  | true=>
   rw[en,QbE] at q;exact Ar ⟨_,rj,t,_,_,_,rj,rj,SqT.of (s1 _ _ ht),rj,_,1,30,1,99,a,64,rj,Rep.same s1 ra,fit.item' (by simp),λH2 s2=>q _ (s1.trans s2)⟩
end
abbrev KJ:Stmt:=top 31
abbrev Ez:YF:=["_law_thing","_law_least","_law_most"]
theorem U8:Bk Ez Ez (Aj KJ):=by ac_rfl
abbrev Ih:Stmt:=top 32
abbrev Fe:YF:=["_law_thing"]
theorem Oe:Bk Fe Fe (Aj Ih):=by ac_rfl
abbrev Ja:Stmt:=top 33
abbrev FJ:YF:=Fe
theorem Ql:Bk Fe FJ (Aj Ja):=by ac_rfl
theorem aU (z:Str):Kg (.str z)=inV (.str z) [.str "seeker",.str "knob",.str "bell",.str "door"]:=by
 unfold Kg kdL inV;simp only[QbK,List.any_nil];rfl
theorem K6 {d:PyData}:PyData.eqv d (.str "opener")=true ↔ d=.str "opener":=by
 cases d with
 | str z=>
  show (z == "opener")=true ↔ _;constructor
  ·intro h;rw[Qca h]
  ·intro h;cases h;exact beq_self_eq_true _
 | _=>exact⟨(λh=>by cases h),(λh=>by cases h)⟩
def QS:Sp:=λvs H Q _=>∃v lo hi,vs=[v,.int lo,.int hi]/\Kn H v/\Q (.bl (wiB v lo hi)) H
section
variable {P:Program} {w:World} {K:YD} {mg:YB} {base:Heap} {kd:Addr}
theorem Vl (c:Code K mg "_law_whole" KJ Ez) (T:Nm mg):Good P w K mg base "_law_whole" 1 Ez QS:=by
 refine c.good U8 (λvs H Q E h=>?_) (λf cdv A outer s H vs Q E hr h=>?_)
 ·obtain⟨v,lo,hi,rfl,_⟩:=h;rfl
 obtain⟨v,lo,hi,rfl,k,q⟩:=h;refine⟨_,(Ah (Ax (Cq (Ai BP rfl T.isinstance Bh (Aa (pv 0) (Aa (Ce (v:=.ty "int") rfl T.int Oa rfl) Ab))) (Cq (WD (Ai BP rfl T.isinstance Bh (Aa (pv 0) (Aa (Ce (v:=.ty "bool") rfl T.bool O8 rfl) Ab)))) (Cq (Dn DY (pv 1) (pv 0) (Bq _)) (CW (Dn DY (pv 0) (pv 2) (Bq _)))))))),?_⟩;refine⟨_,rj,Uo k ⟨_,rj,?_⟩⟩;cases e:isI v with
 | false=>
  have:wiB v lo hi=false:=by cases v <;> first | rfl | cases e
  rw[this] at q;exact Ba q
 | true=>
  refine Ar ⟨_,rj,Mz e ⟨_,rj,_,rj,?_⟩⟩;cases v with
  | bl b=>exact Ba q
  | int x=>
   have q:Q (.bl (decide (lo<=x)&&decide (x<=hi))) H:=q;refine Ar ⟨_,rj,_,rj,_,_,rj,rj,_,rj,?_⟩;by_cases h1:lo<=x
   ·rw[Qby h1];rw[Qby h1,QbE] at q;exact Ar ⟨_,rj,_,rj,_,_,rj,rj,q⟩
   ·rw[Qbl h1];rw[Qbl h1,QbB] at q;exact Ba q
  | _=>cases e
theorem Ot (c:Code K mg "_law_is_device" Ih Fe) (T:Nm mg) (FQ:Good P w K mg base "_law_whole" 1 Ez QS):Good P w K mg base "_law_is_device" 2 Fe (Di Dj):=by
 refine c.good Oe (λvs H Q E h=>?_) (λf cdv A outer s H vs Q E hr h=>?_)
 ·obtain⟨v,d,rfl,_⟩:=h;rfl
 obtain⟨v,d,rfl,rd,fit,q⟩:=h;refine⟨_,(Ag (BX (PW.pt (Dm (BK (BJ (Ai BP rfl T.isinstance Bh (Aa (pv 0) (Aa (Ce (v:=.ty "tuple") rfl T.tuple BR rfl) Ab))))) (Dm (Br Lk (Ai Ay rfl T.len Bx (Aa (pv 0) Ab)) Ac (Bq _)) (Fy (BK (BJ (Ai BP rfl T.isinstance Bh (Aa (Bg Bv (pv 0) Ac (λ_ _=>rfl)) (Aa (Ce (v:=.ty "str") rfl T.str N7 rfl) Ab))))))))) (Ah (Ax CJ)) Bs)
 (Ah (Ax (Cq (Dn Jt (Bg Bv (pv 0) Ac (λ_ _=>rfl)) (Bo (Aa Bp (Aa Bp (Aa Bp (Aa Bp Ab))))) (by with_unfolding_all rfl)) (CW (Ao FQ hr (Aa (Bg Bv (pv 0) Ac (λ_ _=>rfl)) (Aa Ac (Aa Ac Ab))))))))),?_⟩
 show let R0:TS:=_;Aq _ R0 _ _ _;intro R0;refine⟨_,rj,CT rd.kn ⟨_,rj,?_⟩⟩;cases rd with
 | @tup t xs ds ht rs=>
  rw[Ej ht];have lx:=Bb.len rs;refine Ba ⟨_,rj,t,_,rj,.inr (SqT.of ht),rj,_,rj,?_⟩;by_cases h2:ds.length=2
  ·rw[show (!decide (V.int (xs.length:Int)=V.int 2))=false by rw[lx,h2];rfl];obtain⟨k,a,rfl⟩:=Qz (l:=ds) (by omega) (by omega);cases rs with
   | cons rk rs=>
   cases rs with
   | cons ra rs=>
   cases rs;refine Ba ⟨_,rj,t,_,_,_,rj,rj,SqT.of ht,rj,Kh rk.kn ⟨_,rj,?_⟩⟩;have q:∀H',Same H H'->Q (.bl (Kg k&&wiP a 1 99)) H':=q;cases rk with
   | str z=>
    refine Ba ⟨_,rj,t,_,_,_,rj,rj,SqT.of ht,rj,(by show 4<=sizeLine;decide),λu hu=>?_⟩;have s1:=Ae hu (.tup [.str "seeker",.str "knob",.str "bell",.str "door"]);refine⟨u,_,rj,.inr (SqT.of Ad),rj,rj,_,rj,?_⟩;rw[if_neg QaG,<-aU];cases ek:Kg (.str z) with
    | false=>rw[ek] at q;exact Ba (q _ s1)
    | true=>
     rw[ek,QbE] at q;refine Ar ⟨_,rj,t,_,_,_,rj,rj,SqT.of (s1 _ _ ht),rj,_,1,99,rj,(Rep.same s1 ra).kn,?_⟩;rw[Hx ra];exact q _ s1
   | _=>exact Ar (q _ (Same.refl _))
  ·rw[show (!decide (V.int (xs.length:Int)=V.int 2))=true by rw[Qbl];rfl;intro z;injection z with z;omega];have:Dj (.tuple ds)=false:=by
    unfold Dj;split
    ·rename_i e;injection e with e;exact absurd (by rw[e];rfl) h2
    ·rfl
   rw[this] at q;exact Ar (q _ (Same.refl _))
 | lst ht rs=>rw[Dv ht];exact Ar (q _ (Same.refl _))
 | _=>exact Ar (q _ (Same.refl _))
end
abbrev Hu:Stmt:=top 34
abbrev Gi:YF:=Fe
theorem QV:Bk Fe Gi (Aj Hu):=by ac_rfl
theorem Fit.two {n:Nat} {k a s:PyData} (h:Fit n (.tuple [k,a,s])):Fit n (.tuple [k,a]):=by
 obtain⟨h1,h2,h3⟩:=h;have h1:(k.canLay0&&(a.canLay0&&(s.canLay0&&true)))=true:=h1;have h2:max k.depth (max a.depth (max s.depth 0))+1<=n:=h2;have h3:(decide ((3:Nat)<=900)&&(wide k&&(wide a&&(wide s&&true))))=true:=by simpa only [wide,Dz,List.length] using h3
 simp only[Qbc] at h1 h3;refine⟨?_,?_,?_⟩
 ·show (k.canLay0&&(a.canLay0&&true))=true;rw[h1.1,h1.2.1];rfl
 ·show max k.depth (max a.depth 0)+1<=n;omega
 ·simp only[wide,Dz,List.length];rw[h3.2.1,h3.2.2.1];rfl
theorem d7 (x y z:V):Eo [x,y,z] none (some 2)=[x,y]:=by rfl
theorem Rb {k a s:PyData} (h:∀ds,s≠.tuple ds):Cm (.tuple [k,a,s])=false:=by
 have h1:Cg s 0 0=false:=by
  cases s with
  | tuple ds=>exact absurd rfl (h ds)
  | _=>rfl
 have h2:Il s=false:=by
  cases s with
  | tuple ds=>exact absurd rfl (h ds)
  | _=>rfl
 show (if PyData.eqv k (.str "opener")=true then wiP a 0 0&&Cg s 0 0 else Gz k a&&Il s)=false
 rw[h1,h2,Qbz,Qbz];split <;> rfl
theorem ZM (ds:List PyData):decide ((ds.length:Int) < 4)=Cg (.tuple ds) 0 3:=by
 show _=(decide ((0:Int)<=ds.length)&&decide ((ds.length:Int)<=3));rw[Qby (show (0:Int)<=ds.length by omega),QbE];exact decide_eq_decide.mpr ⟨by omega,by omega⟩
theorem fG (ds:List PyData):decide (V.int (ds.length:Int)=V.int 0)=Cg (.tuple ds) 0 0:=by
 show _=(decide ((0:Int)<=ds.length)&&decide ((ds.length:Int)<=0));rw[Qby (show (0:Int)<=ds.length by omega),QbE];exact decide_eq_decide.mpr ⟨(λh=>by injection h with h;omega),(λh=>by rw[show (ds.length:Int)=0 by omega])⟩
theorem bw:∀c < 128,((!decide ([c] < "a".toList.map Char.toNat))&&(!decide ("z".toList.map Char.toNat < [c])))=Jp c:=by
 have h:(List.range 128).all (λc=>((!decide ([c] < "a".toList.map Char.toNat))&&(!decide ("z".toList.map Char.toNat < [c]))) == Jp c)=true:=by trivial
 intro c hc;exact Qca (Qbj.mp h c (List.mem_range.mpr hc))
theorem Uc {H:Hp} {v:V} {d:PyData} (r:Rep H v d) (h:isS v=true):∃z,v=.str z/\d=.str z:=by
 cases r with
 | str z=>exact⟨z,rfl,rfl⟩
 | _=>cases h
theorem Pj {H:Hp} {v:V} {d:PyData} (r:Rep H v d) (h:isS v=false):∀z,d≠.str z:=λz e=>by
 subst e;cases r;cases h
section
variable {P:Program} {w:World} {K:YD} {mg:YB} {base:Heap} {kd:Addr}
abbrev xf:YF:=["_law_one"]
theorem Qm (c:Code K mg "_law_is_place" Ja FJ) (T:Nm mg) (FQ:Good P w K mg base "_law_whole" 1 Ez QS) (Kv:Good P w K mg base "_law_is_device" 2 Fe (Di Dj)):Good P w K mg base "_law_is_place" 3 FJ (Di Cm):=by
 refine c.good Ql (λvs H Q E h=>?_) (λf cdv A outer s H vs Q E hr h=>?_)
 ·obtain⟨v,d,rfl,_⟩:=h;rfl
 obtain⟨v,d,rfl,rd,fit,q⟩:=h;refine⟨_,(Ag (BX (PW.pt (Dm (BK (BJ (Ai BP rfl T.isinstance Bh (Aa (pv 0) (Aa (Ce (v:=.ty "tuple") rfl T.tuple BR rfl) Ab))))) (Dm (Br Lk (Ai Ay rfl T.len Bx (Aa (pv 0) Ab)) Ac (Bq _)) (Fy (BK (BJ (Ai BP rfl T.isinstance Bh (Aa (Bg Bv (pv 0) Ac (λ_ _=>rfl)) (Aa (Ce (v:=.ty "tuple") rfl T.tuple BR rfl) Ab))))))))) (Ah (Ax CJ)) Bs)
 (Ag (BX (PW.pt (Nu (BJ (Ai BP rfl T.isinstance Bh (Aa (Bg Bv (pv 0) Ac (λ_ _=>rfl)) (Aa (Ce (v:=.ty "str") rfl T.str N7 rfl) Ab)))) (Oj (Br Ju (Bg Bv (pv 0) Ac (λ_ _=>rfl)) Bp (Bq _))))) (Ah (Ax (Cq (Ao FQ hr (Aa (Bg Bv (pv 0) Ac (λ_ _=>rfl)) (Aa Ac (Aa Ac Ab)))) (CW (Dn Ju (Ai Ay rfl T.len Bx (Aa (Bg Bv (pv 0) Ac (λ_ _=>rfl)) Ab)) Ac (Bq _)))))) Bs)
 (Ah (Ax (Cq (Ao Kv hr (Aa (Cy Es (pv 0) Dc (CN Ac)) Ab)) (Cq (Dn Kf (Ai Ay rfl T.len Bx (Aa (Bg Bv (pv 0) Ac (λ_ _=>rfl)) Ab)) Ac (Bq _)) (CW (Ai (Dq rfl) rfl T.all Fi (Aa (Cp (N':=xf) rfl (Bt.plain rfl (by trivial) (by trivial) (by trivial)) (DQ (Bg Bv (pv 0) Ac (λ_ _=>rfl))) (λ_ _ _ _=>(Ak (i:=0) (show List.Nodup (xf:YF) by trivial) rfl (Or.inl rfl))) (λ_ _ _ _=>CV) (λ_ _ _ _=>(Ao Kv hr (Aa (pv 0) Ab)))) Ab))))))))),?_⟩
 show let R0:TS:=_;let R1:TS:=_;let R2:TS:=Aq (GX _ R1 _) R0;Aq _ R2 _ _ _;intro R0 R1 R2;refine⟨_,rj,CT rd.kn ⟨_,rj,?_⟩⟩;cases rd with
 | @tup t xs ds ht rs=>
  rw[Ej ht];have lx:=Bb.len rs;refine Ba ⟨_,rj,t,_,rj,.inr (SqT.of ht),rj,_,rj,?_⟩;by_cases h3:ds.length=3
  ·rw[show (!decide (V.int (xs.length:Int)=V.int 3))=false by rw[lx,h3];rfl];obtain⟨k,a,s_,rfl⟩:=Qy (l:=ds) (by omega) (by omega);cases rs with
   | cons rk rs=>
   cases rs with
   | cons ra rs=>
   cases rs with
   | cons rp rs=>
   cases rs;refine Ba ⟨_,rj,t,_,_,_,rj,rj,SqT.of ht,rj,CT rp.kn ⟨_,rj,?_⟩⟩;cases rp with
   | @tup tp xp dp hp rps=>
    rw[Ej hp];have lp:=Bb.len rps;have fs:Fit 64 (.tuple dp):=fit.item' (by simp);have q:∀H',Same H H'->Q (.bl (if PyData.eqv k (.str "opener")=true then wiP a 0 0&&Cg (.tuple dp) 0 0 else Gz k a&&(Cg (.tuple dp) 0 3&&dp.all Dj))) H':=q
    refine Ba ⟨_,rj,t,_,_,_,rj,rj,SqT.of ht,rj,Kh rk.kn ⟨_,rj,?_⟩⟩;cases es:isS _ with
    | true=>
     obtain⟨z,rfl,rfl⟩:=Uc rk es;refine Ar ⟨_,rj,t,_,_,_,rj,rj,SqT.of ht,rj,rj,_,rj,?_⟩;by_cases hz:z="opener"
     ·rw[show decide (V.str z=V.str "opener")=true by rw[hz];rfl];rw[show PyData.eqv (.str z) (.str "opener")=true from K6.mpr (by rw[hz]),if_pos rfl] at q
      refine Ar ⟨_,rj,t,_,_,_,rj,rj,SqT.of ht,rj,_,0,0,rj,ra.kn,_,rj,?_⟩;rw[Hx ra];cases ew:wiP a 0 0 with
      | false=>rw[ew] at q;exact Ba (q _ (Same.refl _))
      | true=>
       rw[ew,QbE] at q;refine Ar ⟨_,rj,t,_,_,_,rj,rj,SqT.of ht,rj,tp,_,rj,.inr (SqT.of hp),rj,?_⟩;rw[lp,fG];exact q _ (Same.refl _)
     ·rw[show decide (V.str z=V.str "opener")=false from Qbl λe=>hz (by injection e)]
      have eo:PyData.eqv (.str z) (.str "opener")=false:=by
       cases e:PyData.eqv (.str z) (.str "opener") with
       | false=>rfl
       | true=>exact absurd (by have:=K6.mp e;injection this) hz
      rw[eo,if_neg QaG] at q;refine Ba ?_;refine⟨_,rj,_,rj,t,_,rj,ht,λp1 H1 hp1 s1=>?_⟩;rw[d7] at hp1;refine⟨.ref p1,.tuple [.str z,a],rj,.tup hp1 (.cons (Rep.same s1 rk) (.cons (Rep.same s1 ra) .nil)),fit.two,λH2 s2=>⟨_,rj,?_⟩⟩;have s12:=s1.trans s2;show if Gz (.str z) a=true then _ else _
      cases ed:Gz (.str z) a with
      | false=>rw[ed] at q;exact Ba (q _ s12)
      | true=>
       rw[ed,QbE] at q;refine Ar ⟨_,rj,t,_,_,_,rj,rj,SqT.of (s12 _ _ ht),rj,tp,_,rj,.inr (SqT.of (s12 _ _ hp)),_,_,rj,rj,_,rj,?_⟩;rw[lp,ZM];cases er:Cg (.tuple dp) 0 3 with
       | false=>rw[er] at q;exact Ba (q _ s12)
       | true=>
        rw[er,QbE] at q;refine Ar ⟨_,rj,t,_,_,_,rj,rj,SqT.of (s12 _ _ ht),rj,tp,rj,⟨_,SqT.of (s12 _ _ hp)⟩,λl hl=>?_⟩;refine EY (r:=[]) (fb:=Dj) hl (s12 _ _ hp) (Bb.same s12 rps) fs.len (λx d HH hd rx s3 R hR=>⟨_,rj,x,d,rj,rx,fs.item' hd,hR⟩) λH' e s3=>?_;refine⟨l,_,rj,SqL.of e,?_⟩;rw[all_map];exact q _ (s12.trans s3)
    | false=>
     have eo:PyData.eqv k (.str "opener")=false:=by
      cases e:PyData.eqv k (.str "opener") with
      | false=>rfl
      | true=>exact absurd (K6.mp e) (Pj rk es _)
     rw[eo,if_neg QaG] at q;refine Ba ?_;refine⟨_,rj,_,rj,t,_,rj,ht,λp1 H1 hp1 s1=>?_⟩;rw[d7] at hp1;refine⟨.ref p1,.tuple [k,a],rj,.tup hp1 (.cons (Rep.same s1 rk) (.cons (Rep.same s1 ra) .nil)),fit.two,λH2 s2=>⟨_,rj,?_⟩⟩;have s12:=s1.trans s2;show if Gz k a=true then _ else _
     cases ed:Gz k a with
     | false=>rw[ed] at q;exact Ba (q _ s12)
     | true=>
      rw[ed,QbE] at q;refine Ar ⟨_,rj,t,_,_,_,rj,rj,SqT.of (s12 _ _ ht),rj,tp,_,rj,.inr (SqT.of (s12 _ _ hp)),_,_,rj,rj,_,rj,?_⟩;rw[lp,ZM];cases er:Cg (.tuple dp) 0 3 with
      | false=>rw[er] at q;exact Ba (q _ s12)
      | true=>
       rw[er,QbE] at q;refine Ar ⟨_,rj,t,_,_,_,rj,rj,SqT.of (s12 _ _ ht),rj,tp,rj,⟨_,SqT.of (s12 _ _ hp)⟩,λl hl=>?_⟩;refine EY (r:=[]) (fb:=Dj) hl (s12 _ _ hp) (Bb.same s12 rps) fs.len (λx d HH hd rx s3 R hR=>⟨_,rj,x,d,rj,rx,fs.item' hd,hR⟩) λH' e s3=>?_;refine⟨l,_,rj,SqL.of e,?_⟩;rw[all_map];exact q _ (s12.trans s3)
   | lst hp rps=>
    rw[Dv hp];rw[Rb (λds e=>by cases e)] at q;exact Ar (q _ (Same.refl _))
   | _=>
    rw[Rb (λds e=>by cases e)] at q;exact Ar (q _ (Same.refl _))
  ·rw[show (!decide (V.int (xs.length:Int)=V.int 3))=true by rw[Qbl];rfl;intro z;injection z with z;omega];have:Cm (.tuple ds)=false:=by
    unfold Cm;split
    ·rename_i e;injection e with e;exact absurd (by rw[e];rfl) h3
    ·rfl
   rw[this] at q;exact Ar (q _ (Same.refl _))
 | lst ht rs=>rw[Dv ht];exact Ar (q _ (Same.refl _))
 | _=>exact Ar (q _ (Same.refl _))
end
theorem Z1 {d:PyData} (h:∀n a,d≠.tuple [n,a]):Ef d=false:=by
 unfold Ef;split
 ·exact absurd rfl (h _ _)
 ·rfl
theorem aO {d:PyData} (h:∀z,d≠.str z):nameP d=false:=by
 cases d with
 | str z=>exact absurd rfl (h z)
 | _=>rfl
theorem XD (gs:List Int):((List.range (gs.length - 1)).map λk=>decide (gs.getD k 0 < gs.getD (k+1) 0)).all id=Ra gs:=by
 unfold Ra;rw[<-all_map (λp:Int×Int=>decide (p.1 < p.2)) (adj gs)];congr 1;refine List.ext_getElem? λi=>?_;rw[QaT,QaT];by_cases h:i < gs.length - 1
 ·rw[List.getElem?_range h,XF (l:=gs) (i:=i) (x:=gs[i]) (y:=gs[i+1]) (Qai (by omega)) (Qai (by omega))];show some (decide (gs.getD i 0 < gs.getD (i+1) 0))=some (decide (gs[i] < gs[i+1]));rw[Qae,Qae,Qai (show i < gs.length by omega),Qai (show i+1 < gs.length by omega)];rfl
 ·rw[List.getElem?_eq_none (by rw[List.length_range];omega),List.getElem?_eq_none (by rw[UJ];omega)];rfl
section
variable {P:Program} {w:World} {K:YD} {mg:YB} {base:Heap} {kd:Addr}
theorem Rm (c:Code K mg "_law_is_zone" Hu Gi) (T:Nm mg) (FQ:Good P w K mg base "_law_whole" 1 Ez QS):Good P w K mg base "_law_is_zone" 2 Gi (Di Ef):=by
 refine c.good QV (λvs H Q E h=>?_) (λf cdv A outer s H vs Q E hr h=>?_)
 ·obtain⟨v,d,rfl,_⟩:=h;rfl
 obtain⟨v,d,rfl,rd,fit,q⟩:=h;refine⟨_,(Ag (BX (PW.pt (Dm (BK (BJ (Ai BP rfl T.isinstance Bh (Aa (pv 0) (Aa (Ce (v:=.ty "tuple") rfl T.tuple BR rfl) Ab))))) (Dm (Br Lk (Ai Ay rfl T.len Bx (Aa (pv 0) Ab)) Ac (Bq _)) (Fy (BK (BJ (Ai BP rfl T.isinstance Bh (Aa (Bg Bv (pv 0) Ac (λ_ _=>rfl)) (Aa (Ce (v:=.ty "str") rfl T.str N7 rfl) Ab))))))))) (Ah (Ax CJ)) Bs)
 (Ag (BX (PW.pt (Dm (Br Kf (Ai Jo rfl T.len Bx (Aa (Bg Bv (pv 0) Ac (λ_ _=>rfl)) Ab)) Ac (Bq _)) (Dm (Br Io (Ai Jo rfl T.len Bx (Aa (Bg Bv (pv 0) Ac (λ_ _=>rfl)) Ab)) Ac (Bq _)) (Dm (BK (BJ (Ai BP rfl T.isinstance Bh (Aa (Bg Bv (pv 0) Ac (λ_ _=>rfl)) (Aa (Ce (v:=.ty "tuple") rfl T.tuple BR rfl) Ab))))) (Fy (BK (Mu DY DY Ac (Ai Ay rfl T.len Bx (Aa (Bg Bv (pv 0) Ac (λ_ _=>rfl)) Ab)) Ac))))))) (Ah (Ax CJ)) Bs)
 (Ag (BX (BK (BJ (Ai (Dq rfl) rfl T.all Fi (Aa (Cp (N':=["_law_sign"]) rfl (Bt.plain rfl (by trivial) (by trivial) (by trivial)) (Rg (Bg Bv (pv 0) Ac (λ_ _=>rfl))) (λ_ _ _ _=>(Ak (i:=0) (show List.Nodup (["_law_sign"]:YF) by trivial) rfl (Or.inl rfl))) (λ_ _ _ _=>CV) (λ_ _ _ _=>(Cq (Dn Pr Bp (pv 0) (Bq _)) (CW (Dn Pr (pv 0) Bp (Bq _)))))) Ab)))) (Ah (Ax CJ)) Bs)
 (Ag (BX (BK (BJ (Ai (Dq rfl) rfl T.all Fi (Aa (Cp (N':=xf) rfl (Bt.plain rfl (by trivial) (by trivial) (by trivial)) (DQ (Bg Bv (pv 0) Ac (λ_ _=>rfl))) (λ_ _ _ _=>(Ak (i:=0) (show List.Nodup (xf:YF) by trivial) rfl (Or.inl rfl))) (λ_ _ _ _=>CV) (λ_ _ _ _=>(Ao FQ hr (Aa (pv 0) (Aa Ac (Aa Ac Ab)))))) Ab)))) (Ah (Ax CJ)) Bs)
 (Ah (Ax (Ai (Dq rfl) rfl T.all Fi (Aa (Cp (N':=["_law_k","_law_thing"]) rfl (Bt.of (src:=[none,some 0]) (Aj Hu) Fe rfl rfl rfl (by trivial) (by trivial) (by trivial) rfl (by trivial)) (Dw rfl T.range (Aa (Av Nx (Ai Ay rfl T.len Bx (Aa (Bg Bv (pv 0) Ac (λ_ _=>rfl)) Ab)) Ac) Ab)) (λ_ _ _ _=>(Ak (i:=0) (show List.Nodup (["_law_k","_law_thing"]:YF) by trivial) rfl (Or.inl rfl))) (λ_ _ _ _=>CV) (λ_ _ _ _=>(Dn Kf (Bg (JQ (K:=K) rfl) (Bg (JQ (K:=K) rfl) (pv 1) Ac (λ_ _=>rfl)) (pv 0) (λ_ _=>rfl)) (Bg (JQ (K:=K) rfl) (Bg (JQ (K:=K) rfl) (pv 1) Ac (λ_ _=>rfl)) (Av BL (pv 0) Ac) (λ_ _=>rfl)) (Bq _)))) Ab)))))))),?_⟩
 show let R0:TS:=_;let R1:TS:=Aq _ R0;let R2:TS:=Aq _ R1;let R3:TS:=Aq _ R2;Aq _ R3 _ _ _;intro R0 R1 R2 R3;refine⟨_,rj,CT rd.kn ⟨_,rj,?_⟩⟩;cases rd with
 | @tup t xs ds ht rs=>
  rw[Ej ht];have lx:=Bb.len rs;refine Ba ⟨_,rj,t,_,rj,.inr (SqT.of ht),rj,_,rj,?_⟩;by_cases h2:ds.length=2
  ·rw[show (!decide (V.int (xs.length:Int)=V.int 2))=false by rw[lx,h2];rfl];obtain⟨k,a,rfl⟩:=Qz (l:=ds) (by omega) (by omega);cases rs with
   | cons rk rs=>
   cases rs with
   | cons ra rs=>
   cases rs;have q:∀H',Same H H'->Q (.bl (nameP k&&rwP a 1 30 1 99)) H':=q;refine Ba ⟨_,rj,t,_,_,_,rj,rj,SqT.of ht,rj,Kh rk.kn ⟨_,rj,?_⟩⟩;cases es:isS _ with
   | false=>
    rw[aO (Pj rk es)] at q;exact Ar (q _ (Same.refl _))
   | true=>
    obtain⟨z,rfl,rfl⟩:=Uc rk es;have fk:Fit 64 (.str z):=fit.item' (QaH ..);have z9:=fk.bT;have q:∀H',Same H H'->Q (.bl (((decide ((1:Int)<=z.length)&&decide ((z.length:Int)<=8))&&z.cps.toList.all Jp)&&rwP a 1 30 1 99)) H':=q;refine Ba ⟨_,rj,t,_,_,_,rj,rj,SqT.of ht,rj,z,rj,Al (by show z.length<=1000;omega),_,_,rj,rj,_,rj,?_⟩;by_cases g1:(1:Int)<=(z.length:Int)
    ·rw[Qby g1] at q;rw[show decide ((z.length:Int) < 1)=false from Qbl (by omega)]
     refine Ba ⟨_,rj,t,_,_,_,rj,rj,SqT.of ht,rj,z,rj,Al (by show z.length<=1000;omega),_,_,rj,rj,_,rj,?_⟩;by_cases g2:(z.length:Int)<=8
     ·rw[Qby g2] at q;rw[show decide ((8:Int) < (z.length:Int))=false from Qbl (by omega)]
      refine Ba ⟨_,rj,t,_,_,_,rj,rj,SqT.of ht,rj,CT ra.kn ⟨_,rj,?_⟩⟩;cases ra with
      | @tup ta xa da ha ras=>
       rw[Ej ha];have la:=Bb.len ras;have fa:Fit 64 (.tuple da):=fit.item' (by simp);have l9:=fa.len;have q:∀H',Same H H'->Q (.bl (((true&&true)&&z.cps.toList.all Jp)&&((decide ((1:Int)<=da.length)&&decide ((da.length:Int)<=30))&&((da.all λx=>wiP x 1 99)&&Q9 da)))) H':=q;refine Ba ⟨_,rj,t,_,_,_,rj,rj,SqT.of ht,rj,ta,_,rj,.inr (SqT.of ha),_,_,rj,rj,_,rj,?_⟩;rw[la];by_cases e1:(1:Int)<=(da.length:Int)
       ·rw[Qby e1] at q ⊢;refine Ar ⟨_,_,rj,rj,_,rj,?_⟩;by_cases e2:(da.length:Int)<=30
        ·rw[Qby e2] at q ⊢;simp only[QbE] at q;have e1':=e1;have e2':=e2;refine Ba ⟨_,rj,t,_,_,_,rj,rj,SqT.of ht,rj,z,rj,λl hl'=>?_⟩;let J0:YN:=λi U HH=>∃u,U=[u]/\HH l=some (.lst (((z.cps.toList.take i).map Jp).map V.bl))/\Same H HH;refine M8 J0 ⟨_,rj,Ad,Ae hl' _⟩ (λi c U HH hc h=>?_) (fun U HH h=>?_)
         ·obtain⟨u,rfl,e1,e2⟩:=h;have hi:i < z.cps.size:=(Qad.mp hc).1;have hz:z.cps.size<=900:=z9;have hcl:z.cps.toList[i]?=some c:=by rw[Qas];exact hc
          have mW:=fk.asc c (Qau hcl);have ab:=bw c mW;unfold Gu;dsimp only;refine Ar ⟨_,rj,_,_,rj,rj,_,rj,?_⟩;have a1:decide (([c]:List Nat) < "a".toList.map Char.toNat)=decide (((⟨#[c]⟩ : Str).cps.toList) < ("a":Str).cps.toList):=by rfl
          have a2:decide ("z".toList.map Char.toNat < ([c]:List Nat))=decide (("z":Str).cps.toList < ((⟨#[c]⟩ : Str).cps.toList)):=by rfl
          rw[a1,a2] at ab;cases ec:decide (((⟨#[c]⟩ : Str).cps.toList) < ("a":Str).cps.toList) with
          | true=>
           rw[ec] at ab;refine Ba ⟨_,e1,Bc (by simp;omega),_,rj,?_,e2.CG Af.upd hl'⟩;rw[Ad,QbZ hcl,Qbn,Qbn,QaR,QaR,<-ab];rfl
          | false=>
           rw[ec] at ab;refine Ar ⟨_,rj,_,_,rj,rj,_,e1,Bc (by simp;omega),_,rj,?_,e2.CG Af.upd hl'⟩;rw[Ad,QbZ hcl,Qbn,Qbn,QaR,QaR,<-ab];rfl
         ·obtain⟨u,rfl,e1,e2⟩:=h;have el:z.cps.size=z.cps.toList.length:=QaB.symm;rw[el,Qbf] at e1;refine⟨l,_,rj,SqL.of e1,_,rj,?_⟩;rw[all_map];have ht1:=e2 _ _ ht;have ha1:=e2 _ _ ha;cases en:z.cps.toList.all Jp with
          | false=>rw[en] at q;exact Ar (q _ e2)
          | true=>
           rw[en,QbE] at q;refine Ba ⟨_,rj,t,_,_,_,rj,rj,SqT.of ht1,rj,ta,rj,⟨_,SqT.of ha1⟩,λl2 hl2=>?_⟩;refine EY (r:=[]) (fb:=λx=>wiP x 1 99) hl2 ha1 (Bb.same e2 ras) l9 (λx d HX hd rx s3 R hR=>⟨_,rj,x,1,99,rj,rx.kn,by rw[Hx rx];exact hR _ (Same.refl _)⟩) λH' ee s3=>?_;refine⟨l2,_,rj,SqL.of ee,_,rj,?_⟩;rw[all_map];have e23:=e2.trans s3;cases ea:da.all λx=>wiP x 1 99 with
           | false=>rw[ea] at q;exact Ar (q _ e23)
           | true=>
            obtain⟨gs,eg⟩:=ints_of ea;rw[ea,QbE] at q;subst eg;have ex:=K4 ras;subst ex;rw[Q8,<-XD] at q;have ht2:=e23 _ _ ht;have ha2:=e23 _ _ ha;rw[Qbk] at l9;rw[Qbk] at e1' e2';refine Ba ⟨_,rj,t,_,_,_,rj,rj,SqT.of ht2,rj,ta,_,rj,.inr (SqT.of ha2),_,_,rj,rj,_,rj,by rw[Qbk];omega,by rw[Qbk];omega,λl3 hl3=>?_⟩;rw[Qbk,show (((gs.length:Nat):Int) - 1).toNat=gs.length - 1 by omega];let J1:YN:=λn U HC=>∃(u:Option V),U=[u,jp t]/\HC l3=some (.lst (((List.range n).map λk=>decide (gs.getD k 0 < gs.getD (k+1) 0)).map V.bl))/\Same H' HC;refine Kp J1 ⟨_,rj,Ad,Ae hl3 _⟩ (λn U HC hn h=>?_) (fun U HC h=>?_)
            ·obtain⟨u,rfl,m1,m2⟩:=h;have g0:(gs.map V.int)[n]?=some (.int (gs.getD n 0)):=by rw[QaT,Qae,Qai (show n < gs.length by omega)];rfl
             have g1:(gs.map V.int)[n+1]?=some (.int (gs.getD (n+1) 0)):=by rw[QaT,Qae,Qai (show n+1 < gs.length by omega)];rfl
             unfold Gu;dsimp only;refine Ar ⟨_,rj,t,_,_,_,rj,rj,SqT.of (m2 _ _ ht2),rj,_,rj,ta,_,_,_,rj,rj,SqT.of (m2 _ _ ha2),(by rw[Int.zero_add];exact Fq g0),_,rj,t,_,_,_,rj,rj,SqT.of (m2 _ _ ht2),rj,_,rj,_,_,rj,rj,ta,_,_,_,rj,rj,SqT.of (m2 _ _ ha2),(by rw[Int.zero_add,show (n:Int)+1=((n+1:Nat):Int) by omega];exact Fq g1),_,_,rj,rj,_,m1,Bc (by simp;omega),_,rj,?_,m2.CG Af.upd hl3⟩;rw[Ad,List.range_succ,Qbn,Qbn];rfl
            ·obtain⟨u,rfl,m1,m2⟩:=h;exact⟨l3,_,rj,SqL.of m1,q _ (e23.trans m2)⟩
        ·rw[Qbl e2] at q ⊢;simp only[Qbz,QbB] at q;exact Ar (q _ (Same.refl _))
       ·rw[Qbl e1] at q ⊢;simp only[Qbz,QbB] at q;exact Ba ⟨_,rj,Ar (q _ (Same.refl _))⟩
      | lst ha ras=>
       have q:∀H',Same H H'->Q (.bl (((true&&true)&&z.cps.toList.all Jp)&&false)) H':=q;rw[Qbz] at q;rw[Dv ha];exact Ar (q _ (Same.refl _))
      | _=>
       have q:∀H',Same H H'->Q (.bl (((true&&true)&&z.cps.toList.all Jp)&&false)) H':=q;rw[Qbz] at q;exact Ar (q _ (Same.refl _))
     ·rw[Qbl g2] at q;rw[show decide ((8:Int) < (z.length:Int))=true from Qby (by omega)]
      exact Ar (q _ (Same.refl _))
    ·rw[Qbl g1] at q;rw[show decide ((z.length:Int) < 1)=true from Qby (by omega)]
     exact Ar (q _ (Same.refl _))
  ·rw[show (!decide (V.int (xs.length:Int)=V.int 2))=true by rw[Qbl];rfl;intro z;injection z with z;omega];rw[Z1 (λn a e=>h2 (by injection e with e;rw[e];rfl))] at q;exact Ar (q _ (Same.refl _))
 | lst ht rs=>rw[Dv ht];exact Ar (q _ (Same.refl _))
 | _=>exact Ar (q _ (Same.refl _))
end
abbrev JC:Stmt:=top 17
abbrev Gn:YF:=G6
theorem Q0:Bk G6 Gn (Aj JC):=by ac_rfl
def Gs {α : Type} (f:α->Key) (xs:List α):YM:=xs.map λx=>(f x,V.bl true)
theorem PJ {α : Type} {f:α->Key} {k:Key}:∀{xs:List α},(∀x∈xs,f x≠k)->GP (Gs f xs) k=none
 | [],_=>rfl
 | x::r,h=>by
  have:Gs f (x::r)=(f x,V.bl true)::Gs f r:=rfl;rw[this,JT (p:=(f x,V.bl true)) (h x (QaH ..))];exact PJ λy hy=>h y (Qav _ hy)
theorem PL {α : Type} (f:α->Key) (xs:List α):(Gs f xs).length=xs.length:=Qbk ..
theorem W5 {α : Type} {f:α->Key} {xs:List α} {x:α} (h:∀y∈xs,f y≠f x):putK (Gs f xs) (f x) (.bl true)=Gs f (xs++[x]):=by
 rw[Yi _ (PJ h)];unfold Gs;rw[Qbn];rfl
theorem W6 {α : Type} {f:α->Key} {xs:List α} {x:α} (h:x∈xs):putK (Gs f xs) (f x) (.bl true)=Gs f xs:=by
 unfold putK;have ha:((Gs f xs).any λkv=>decide (kv.1=f x))=true:=List.any_eq_true.mpr ⟨(f x,.bl true),QbP.mpr ⟨x,h,rj⟩,Qby rfl⟩;rw[if_pos ha];unfold Gs;rw[List.map_map];refine List.map_congr_left λy _=>?_;show (if f y=f x then (f y,V.bl true) else (f y,V.bl true))=(f y,V.bl true)
 split <;> rfl
def Ii (l:YF):YF:=l.foldl (λacc x=>if x∈acc then acc else acc++[x]) []
theorem Ru (l:YF) (x:Str):Ii (l++[x])=if x∈Ii l then Ii l else Ii l++[x]:=by
 unfold Ii;rw[List.foldl_append];rfl
theorem Ov (l:YF):∀i,i<=l.length->(∀x,x∈Ii (l.take i) ↔ x∈l.take i)/\(Ii (l.take i)).length<=i/\((Ii (l.take i)).length=i ↔ (l.take i).Nodup)
 | 0,_=>⟨λx=>by rw[List.take_zero];exact Iff.rfl,QbR _,by rw[List.take_zero];exact⟨λ_=>List.Pairwise.nil,λ_=>rfl⟩⟩
 | i+1,h=>by
  obtain⟨h1,h2,h3⟩:=Ov l i (by omega);have hi:l[i]?=some l[i]:=Qai (by omega);rw[QbZ hi,Ru];by_cases hm:l[i]∈Ii (l.take i)
  ·rw[if_pos hm];refine⟨λx=>⟨λhx=>Qaw _ ((h1 x).mp hx),λhx=>?_⟩,by omega,⟨λe=>by omega,λnd=>?_⟩⟩
   ·rcases Qbm.mp hx with z | z
    ·exact (h1 x).mpr z
    ·rw[show x=l[i] by simpa using z];exact hm
   ·obtain⟨_,_,n3⟩:=Qba.mp nd;exact absurd rfl (n3 _ ((h1 _).mp hm) _ (QaM.mpr rfl))
  ·rw[if_neg hm];refine⟨λx=>?_,by rw[QaF];show _+1<=_;omega,?_⟩
   ·rw[Qbm,Qbm,h1 x]
   ·rw[QaF];show _+1=i+1 ↔ _;rw[Qba];constructor
    ·intro e;refine⟨h3.mp (by omega),Qbr.mpr ⟨(λh=>by cases h),List.Pairwise.nil⟩,λa ha b hb e=>hm ?_⟩;rw[<-show b=l[i] by simpa using hb,<-e];exact (h1 a).mpr ha
    ·intro e;have:=h3.mpr e.1;omega
theorem aN (l:YF):decide (V.int ((Ii l).length:Int)=V.int (l.length:Int))=decide l.Nodup:=by
 obtain⟨_,_,h3⟩:=Ov l l.length (QbR _);rw[Qbf] at h3;exact decide_eq_decide.mpr ⟨(λh=>by injection h with h;exact h3.mp (by omega)),(λh=>by rw[h3.mpr h])⟩
def Dt (d:PyData):Str:=match d with
 | .tuple [.str z,_]=>z
 | _=>""
def Gf (d:PyData):Bool:=match d with
 | .tuple ds=>Cg (.tuple ds) 0 8&&(ds.all Ef&&decide (ds.map Dt).Nodup)
 | _=>false
theorem TQ {d:PyData} (h:Ef d=true):∃z a,d=.tuple [.str z,a]:=by
 unfold Ef at h;split at h
 ·rename_i n a;rw[Qbc] at h;cases n with
  | str z=>exact⟨z,a,rfl⟩
  | _=>cases h.1
 ·cases h
section
variable {P:Program} {w:World} {K:YD} {mg:YB} {base:Heap} {kd:Addr}
abbrev xj:YF:=["name","addresses"]
theorem Rr (C:Code K mg "are_zones" JC Gn) (T:Tp K mg kd) (Ci:Good P w K mg base "is_row" 1 Dd Gg) (Xg:Good P w K mg base "is_zone" 4 HN (Di Ef)):Good P w K mg base "are_zones" 5 Gn (Di Gf):=by
 refine C.good Q0 (λvs H Q E h=>?_) (λf cdv A outer s H vs Q E hr h=>?_)
 ·obtain⟨v,d,rfl,_⟩:=h;rfl
 obtain⟨v,d,rfl,rd,fit,q⟩:=h;refine⟨_,(Ag (BX (PW.pt (Dm (BK (BJ (Ao Ci hr (Aa (pv 0) (Aa Ac (Aa Ac Ab)))))) (Fy (BK (BJ (Ai (Dq rfl) rfl T.all Fi (Aa (Cp (N':=xb) rfl (Bt.plain rfl (by trivial) (by trivial) (by trivial)) (DQ (pv 0)) (λ_ _ _ _=>(Ak (i:=0) (show List.Nodup (xb:YF) by trivial) rfl (Or.inl rfl))) (λ_ _ _ _=>CV) (λ_ _ _ _=>(Ao Xg hr (Aa (pv 0) Ab)))) Ab))))))) (Ah (Ax CJ)) Bs)
 (Ah (Ax (Dn Ju (Ai Xx rfl T.len Bx (Aa (Yr (N':=xj) rfl (Bt.plain rfl (by trivial) (by trivial) (by trivial)) (DQ (pv 0)) (λ_ _ _ _=>(Oo (K:=K) (n:=2) rfl rfl (Bl (Ak (i:=0) (show List.Nodup (xj:YF) by trivial) rfl (Or.inl rfl)) (Bl (Ak (i:=1) (show List.Nodup (xj:YF) by trivial) rfl (Or.inl rfl)) DK)))) (λ_ _ _ _=>CV) (λ_ _ _ _=>(pv 0)) (λ_ _ _ _=>CJ)) Ab)) (Ai Ay rfl T.len Bx (Aa (pv 0) Ab)) (Bq _))))),?_⟩
 show let R0:TS:=_;Aq _ R0 _ _ _;intro R0;refine⟨_,rj,v,0,8,rj,rd.kn,_,rj,?_⟩;rw[Fj rd];cases eb:Cg d 0 8 with
 | false=>
  have:Gf d=false:=by
   unfold Gf;split
   ·rw[eb];rfl
   ·rfl
  rw[this] at q;exact Ar (q _ (Same.refl _))
 | true=>
  obtain⟨t,xs,ds,rfl,rfl,ht,rs,_,h8⟩:=DG rd eb;have lx:=Bb.len rs;have q:∀H',Same H H'->Q (.bl (Cg (.tuple ds) 0 8&&(ds.all Ef&&decide (ds.map Dt).Nodup))) H':=q;rw[eb,QbE] at q;refine Ba ⟨_,rj,t,rj,⟨_,SqT.of ht⟩,λl2 hl2=>?_⟩;refine EY (r:=[]) (fb:=Ef) hl2 ht rs fit.len (λx d HH hd rx s1 R hR=>⟨_,rj,x,d,rj,rx,fit.item' hd,hR⟩) λH' e s1=>?_;refine⟨l2,_,rj,SqL.of e,_,rj,?_⟩;rw[all_map];cases ea:ds.all Ef with
  | false=>rw[ea] at q;exact Ar (q _ s1)
  | true=>
   rw[ea,QbE] at q;have hz:=Qbj.mp ea;have ht1:=s1 _ _ ht;have rs1:=Bb.same s1 rs;refine Ba ⟨_,rj,t,rj,⟨_,SqT.of ht1⟩,λl hl=>?_⟩;let J0:YN:=λi U HH=>∃u1 u2,U=[u1,u2]/\HH l=some (.dK (Gs Sum.inr (Ii ((ds.map Dt).take i))))/\Same H' HH;refine Xr (xs:=xs) J0 ⟨_,_,rj,Ad,Ae hl _⟩ (λi U HH _ h=>?_) (λi x U HH hx h=>?_) (fun U HH h=>?_)
   ·obtain⟨u1,u2,rfl,e1,e2⟩:=h;exact SqT.of (e2 _ _ ht1)
   ·obtain⟨u1,u2,rfl,e1,e2⟩:=h;obtain⟨d,hd,rx⟩:=Bb.at_ rs1 hx;have hi:=(Qaf.mp hd).1;obtain⟨z,a,rfl⟩:=TQ (hz d (Qau hd));have hnm:(ds.map Dt)[i]?=some z:=by rw[QaT,hd];rfl
    cases rx with
    | @tup tz xz _ hz1 rz=>
    cases rz with
    | cons r1 rz=>
    cases r1;cases rz with
    | cons r2 rz=>
    cases rz;obtain⟨_,nl,_⟩:=Ov (ds.map Dt) i (by rw[Qbk];omega);refine⟨tz,_,rj,SqT.of (e2 _ _ hz1),rj,_,_,rj,_,_,rj,rj,?_⟩;refine Ar ⟨_,rj,_,Sum.inr z,e1,rj,Bc (by rw[PL];omega),_,_,rj,?_,e2.CG Af.upd hl⟩;rw[Ad,QbZ hnm,Ru];by_cases hm:z∈Ii ((ds.map Dt).take i)
    ·rw[if_pos hm,W6 (f:=Sum.inr) hm]
    ·rw[if_neg hm,W5 (f:=Sum.inr) (x:=z) λy hy e=>hm (by rw[<-Sum.inr.inj e];exact hy)]
   ·obtain⟨u1,u2,rfl,e1,e2⟩:=h;have el:xs.length=(ds.map Dt).length:=by rw[Qbk,lx]
    rw[el,Qbf] at e1;refine⟨l,_,rj,e1,_,rj,t,_,rj,.inr (SqT.of (e2 _ _ ht1)),rj,?_⟩;rw[PL,el,aN];exact q _ (s1.trans e2)
end
abbrev KY:Stmt:=top 18
abbrev HY:YF:=G6
theorem G4:Bk ["thing","most","loops","zones"] HY (Aj KY):=by ac_rfl
def Le (d:PyData):Int:=match d with
 | .tuple [k,_,.tuple ds]=>(if PyData.eqv k (.str "opener")=true then 0 else 1)+(ds.length:Int)
 | _=>0
def Er (d:PyData):Int:=match d with
 | .tuple ps=>(ps.map Le).sum
 | _=>0
def plN (d:PyData):Int:=match d with
 | .tuple ls=>(ls.map Er).sum
 | _=>0
def Js (d:PyData):Bool:=match d with
 | .tuple [m,ls,zs]=>wiP m 1 30&&(FP ls&&(Gf zs&&(decide (1<=plN ls)&&decide (plN ls<=30))))
 | _=>false
theorem RK {d:PyData} (h:Kg d=true):∃z,d=.str z/\Et z:=by
 unfold Kg kdL at h;cases d with
 | str z=>
  refine⟨z,rj,?_⟩;have h:(("seeker" == z) || (("knob" == z) || (("bell" == z) || (("door" == z) || false))))=true:=h;simp only[Bool.or_eq_true,Bool.or_false] at h;rcases h with h | h | h | h
  ·exact .inl (Qca h).symm
  ·exact .inr (.inl (Qca h).symm)
  ·exact .inr (.inr (.inl (Qca h).symm))
  ·exact .inr (.inr (.inr (Qca h).symm))
 | _=>cases h
theorem UL {d:PyData} {lo hi:Int} (h:wiP d lo hi=true):∃i,d=.int i/\lo<=i/\i<=hi:=by
 cases d with
 | int i=>
  have h:(decide (lo<=i)&&decide (i<=hi))=true:=h;rw[Qbc] at h;exact⟨i,rj,QaU h.1,QaU h.2⟩
 | _=>cases h
theorem dZ {H:Hp} {v:V} {d:PyData} (r:Rep H v d) (h:Dj d=true):∃p:Dev,Iv H v p/\Et p.kind:=by
 unfold Dj at h;split at h
 ·rename_i k a;unfold Gz at h;rw[Qbc] at h;obtain⟨z,rfl,hz⟩:=RK h.1;obtain⟨i,rfl,_⟩:=UL h.2;cases r with
  | tup ht rs=>
  cases rs with
  | cons r1 rs=>
  cases r1;cases rs with
  | cons r2 rs=>
  cases r2;cases rs;exact⟨⟨z,i⟩,⟨_,rj,ht⟩,hz⟩
 ·cases h
theorem Ut {H:Hp}:∀{xs:YG} {ds:List PyData},Bb H xs ds->(ds.all Dj)=true->∃ps:List Dev,Paired (Iv H) xs ps/\(∀p∈ps,Et p.kind)/\ps.length=ds.length
 | _,_,.nil,_=>⟨[],.nil,(λp h=>by cases h),rfl⟩
 | _,_,.cons r rs,h=>by
  rw[QbJ,Qbc] at h;obtain⟨p,h1,h2⟩:=dZ r h.1;obtain⟨ps,h3,h4,h5⟩:=Ut rs h.2;refine⟨p::ps,.cons h1 h3,λq hq=>?_,by rw[Qbe,Qbe,h5]⟩;rcases QbD.mp hq with rfl | hq
  ·exact h2
  ·exact h4 q hq
theorem Yl {H:Hp} {v:V} {d:PyData} (r:Rep H v d) (h:Cm d=true):∃p:Place,Dg H v p/\OkP p/\((adP p).length:Int)=Le d:=by
 unfold Cm at h;split at h
 ·rename_i k a s;cases r with
  | @tup t xs _ ht rs=>
  cases rs with
  | cons r1 rs=>
  cases rs with
  | cons r2 rs=>
  cases rs with
  | cons r3 rs=>
  cases rs;by_cases eo:PyData.eqv k (.str "opener")=true
  ·rw[if_pos eo,Qbc] at h;have ek:=K6.mp eo;subst ek;cases r1;obtain⟨i,rfl,i1,i2⟩:=UL h.1;cases r2;obtain⟨u,xu,du,rfl,rfl,hu,rsu,_,hl⟩:=DG r3 h.2;have lu:=Bb.len rsu;have e0:xu=[]:=List.length_eq_zero_iff.mp (by omega);subst e0;have ei:i=0:=by omega
   subst ei;refine⟨⟨"opener",0,[]⟩,⟨t,u,[],rj,ht,hu,.nil⟩,⟨QbS _,(λd hd=>by cases hd),.inl ⟨rj,rj,rj⟩⟩,?_⟩;have e1:adP ⟨"opener",0,[]⟩=[]:=if_pos rfl;rw[e1];show (0:Int)=(if PyData.eqv (.str "opener") (.str "opener")=true then 0 else 1)+(du.length:Int)
   rw[if_pos eo];show (0:Int)=0+(du.length:Int);rw[<-lu];rfl
  ·rw[if_neg eo,Qbc] at h;unfold Gz at h;rw[Qbc] at h;obtain⟨⟨hk,ha⟩,hs⟩:=h;obtain⟨z,rfl,hz⟩:=RK hk;obtain⟨i,rfl,_⟩:=UL ha;cases r1;cases r2;unfold Il at hs;split at hs
   ·rename_i du;rw[Qbc] at hs;obtain⟨u,xu,du',rfl,e,hu,rsu,_,hl⟩:=DG r3 hs.1;cases e;obtain⟨ps,p1,p2,p3⟩:=Ut rsu hs.2;refine⟨⟨z,i,ps⟩,⟨t,u,xu,rj,ht,hu,p1⟩,⟨by show ps.length<=3;omega,p2,.inr hz⟩,?_⟩;have e1:adP ⟨z,i,ps⟩=i::ps.map (·.addr):=if_neg (Ul hz);rw[e1];show (((i::ps.map (·.addr)).length:Nat):Int)=(if PyData.eqv (.str z) (.str "opener")=true then 0 else 1)+(du.length:Int)
    rw[if_neg eo,Qbe,Qbk,p3];omega
   ·cases hs
 ·cases h
theorem Pk {H:Hp}:∀{xs:YG} {ds:List PyData},Bb H xs ds->(ds.all Cm)=true->∃ps:List Place,Paired (Dg H) xs ps/\(∀p∈ps,OkP p)/\ps.length=ds.length/\((adL ps).length:Int)=(ds.map Le).sum
 | _,_,.nil,_=>⟨[],.nil,(λp h=>by cases h),rfl,rfl⟩
 | _,_,.cons r rs,h=>by
  rw[QbJ,Qbc] at h;obtain⟨p,h1,h2,h2'⟩:=Yl r h.1;obtain⟨ps,h3,h4,h5,h6⟩:=Pk rs h.2;refine⟨p::ps,.cons h1 h3,λq hq=>?_,by rw[Qbe,Qbe,h5],?_⟩
  ·rcases QbD.mp hq with rfl | hq
   ·exact h2
   ·exact h4 q hq
  ·unfold adL at h6 ⊢;rw[QaX,QaF,QbG,List.sum_cons,<-h6,<-h2'];push_cast;rfl
theorem aQ {H:Hp} {v:V} {d:PyData} (r:Rep H v d) (h:Ei d=true):∃ps:List Place,LoopAt H v ps/\OkL ps/\((adL ps).length:Int)=Er d:=by
 unfold Ei at h;split at h
 ·rename_i ds;rw[Qbc] at h;obtain⟨t,xs,ds',rfl,e,ht,rs,h1,h2⟩:=DG r h.1;cases e;obtain⟨ps,p1,p2,p3,p4⟩:=Pk rs h.2;exact⟨ps,⟨t,xs,rj,ht,p1⟩,⟨by omega,by omega,p2⟩,p4⟩
 ·cases h
theorem Ry {H:Hp}:∀{xs:YG} {ds:List PyData},Bb H xs ds->(ds.all Ei)=true->∃ps:YU,Paired (LoopAt H) xs ps/\(∀p∈ps,OkL p)/\ps.length=ds.length/\((Cd ps).length:Int)=(ds.map Er).sum
 | _,_,.nil,_=>⟨[],.nil,(λp h=>by cases h),rfl,rfl⟩
 | _,_,.cons r rs,h=>by
  rw[QbJ,Qbc] at h;obtain⟨p,h1,h2,h2'⟩:=aQ r h.1;obtain⟨ps,h3,h4,h5,h6⟩:=Ry rs h.2;refine⟨p::ps,.cons h1 h3,λq hq=>?_,by rw[Qbe,Qbe,h5],?_⟩
  ·rcases QbD.mp hq with rfl | hq
   ·exact h2
   ·exact h4 q hq
  ·unfold Cd at h6 ⊢;rw[QaX,QaF,QbG,List.sum_cons,<-h6,<-h2'];push_cast;rfl
theorem YX {d:PyData} (h:FP d=true):∃dl,d=.tuple dl/\Cg (.tuple dl) 1 3=true/\(dl.all Ei)=true:=by
 unfold FP at h;split at h
 ·rename_i dl;rw[Qbc] at h;exact⟨dl,rj,h⟩
 ·cases h
theorem QG {α β γ : Type} {h:α->List β} {φ : γ->β} {g:Nat->α->List γ} (l:List α) (hg:∀i x,l[i]?=some x->(g i x).map φ=h x):∀n,n<=l.length->(up (λi=>ifs l[i]? (g i)) n).map φ=(l.take n).flatMap h
 | 0,_=>by rw[T3];simp
 | n+1,hn=>by
  have hi:l[n]?=some l[n]:=Qai (by omega);rw[Lh,Qbn,QG l hg n (by omega),QbZ hi,QaC,MK hi,hg n _ hi];simp
theorem LR (lp a:Int):∀(n:Nat) (ds:List Dev),(DN lp a n ds).map (·.addr)=ds.map (·.addr)
 | _,[]=>rfl
 | n,d::r=>by
  show d.addr::(DN lp a (n+1) r).map (·.addr)=d.addr::r.map (·.addr);rw[LR]
theorem Rf (lp a:Int) (p:Place):(Fo lp a p).map (·.addr)=adP p:=by
 unfold Fo adP;split
 ·rfl
 ·rw[QbG,LR]
theorem Xp (ja:YU):(up (pdL ja) ja.length).map (·.addr)=Cd ja:=by
 have:=QG (φ:=Sd.addr) (h:=adL) (g:=λk ps=>up (pd1 (k:Int) ps) ps.length) ja (λk ps _=>by
  have:=QG (φ:=Sd.addr) (h:=adP) (g:=λi p=>Fo (k:Int) ((1+i:Nat):Int) p) ps (λi p _=>Rf _ _ p) ps.length (QbR _);rw[Qbf] at this;exact this) ja.length (QbR _)
 rw[Qbf] at this;exact this
section
variable {P:Program} {w:World} {K:YD} {mg:YB} {base:Heap} {kd:Addr}
theorem Vo (C:Code K mg "is_plan" KY HY) (T:Tp K mg kd) (Ci:Good P w K mg base "is_row" 1 Dd Gg) (En:Good P w K mg base "is_within" 2 Dy Nr) (Ti:Good P w K mg base "are_loops" 8 Gp (Di FP)) (Tg:Good P w K mg base "are_zones" 5 Gn (Di Gf)) (Xl:Good P w K mg base "devices" 2 Ie ZG):Good P w K mg base "is_plan" 9 HY (Di Js):=by
 have sc:=G4;refine C.good G4 (λvs H Q E h=>?_) (λf cdv A outer s H vs Q E hr h=>?_)
 ·obtain⟨v,d,rfl,_⟩:=h;rfl
 obtain⟨v,d,rfl,rd,fit,q⟩:=h;refine⟨_,(Ag (BX (BK (BJ (Ao Ci hr (Aa (pv 0) (Aa Ac (Aa Ac Ab)))))) (Ah (Ax CJ)) Bs)
 (Ag (Jc (pv 0) (Fz rfl (Bl (Ak (i:=1) G4.nd rfl (Or.inl rfl)) (Bl (Ak (i:=2) G4.nd rfl (Or.inl rfl)) (Bl (Ak (i:=3) G4.nd rfl (Or.inl rfl)) DK)))))
 (Ag (BX (PW.pt (Dm (BK (BJ (Ao En hr (Aa (pv 1) (Aa Ac (Aa Ac Ab)))))) (Dm (BK (BJ (Ao Ti hr (Aa (pv 2) Ab)))) (Fy (BK (BJ (Ao Tg hr (Aa (pv 3) Ab)))))))) (Ah (Ax CJ)) Bs)
 (Ah (Ax (Jd DY DY Ac (Ai Ay rfl T.len Bx (Aa (Ao Xl hr (Aa (pv 0) Ab)) Ab)) Ac)))))),?_⟩
 show let R0:TS:=_;let R1:TS:=Aq _ R0;let R2:TS:=Aq _ R1;Aq _ R2 _ _ _;intro R0 R1 R2;refine⟨_,rj,v,3,3,rj,rd.kn,_,rj,?_⟩;rw[Fj rd];cases e:Cg d 3 3 with
 | false=>
  have:Js d=false:=by
   unfold Js;split
   ·exact absurd rfl (Ua e _ _ _)
   ·rfl
  rw[this] at q;exact Ar (q _ (Same.refl _))
 | true=>
  obtain⟨t,xs,ds,rfl,rfl,ht,rs,h1,h2⟩:=DG rd e;obtain⟨m,ls,zs,rfl⟩:=Qy h1 h2;cases rs with
  | cons rm rs=>
  cases rs with
  | cons rl rs=>
  cases rs with
  | cons rz rs=>
  cases rs;have q:∀H',Same H H'->Q (.bl (wiP m 1 30&&(FP ls&&(Gf zs&&(decide (1<=plN ls)&&decide (plN ls<=30)))))) H':=q;refine Ba ⟨_,rj,t,_,rj,SqT.of ht,rj,_,_,rj,_,_,rj,_,_,rj,rj,?_⟩;refine⟨_,rj,_,1,30,rj,rm.kn,_,rj,?_⟩;rw[Hx rm];cases em:wiP m 1 30 with
  | false=>rw[em] at q;exact Ar (q _ (Same.refl _))
  | true=>
   rw[em,QbE] at q;refine Ba ⟨_,rj,_,ls,rj,rl,fit.item' (by simp),λH1 s1=>⟨_,rj,?_⟩⟩;cases el:FP ls with
   | false=>rw[el] at q;exact Ar (q _ s1)
   | true=>
    rw[el,QbE] at q;refine Ba ⟨_,rj,_,zs,rj,Rep.same s1 rz,fit.item' (by simp),λH2 s2=>⟨_,rj,?_⟩⟩;have s12:=s1.trans s2;cases ez:Gf zs with
    | false=>rw[ez] at q;exact Ar (q _ s12)
    | true=>
     rw[ez,QbE] at q;obtain⟨dl,edl,el1,el2⟩:=YX el;subst edl
     ·obtain⟨Ls,xl,dl',rfl,e',hl,rls,l1,l2⟩:=DG (Rep.same s12 rl) el1;cases e';obtain⟨ja,p1,p2,p3,p4⟩:=Ry rls el2;refine Ba ⟨_,rj,t,ja,rj,⟨_,_,Ls,xl,s12 _ _ ht,hl,p1⟩,⟨p2,by omega⟩,λl xs H3 fl hx hp s3=>?_⟩;have lxs:=QbF hp;have la:(up (pdL ja) ja.length).length=(Cd ja).length:=by rw[<-Xp ja,Qbk]
      have q:∀H',Same H H'->Q (.bl (decide (1<=(dl.map Er).sum)&&decide ((dl.map Er).sum<=30))) H':=q;rw[<-p4,<-la,<-lxs] at q;refine⟨l,_,rj,.inl (SqL.of hx),_,_,rj,rj,_,rj,?_⟩;by_cases g1:(1:Int)<=(xs.length:Int)
      ·rw[Qby g1] at q ⊢;rw[QbE] at q;exact Ar ⟨_,_,rj,rj,q _ (s12.trans s3)⟩
      ·rw[Qbl g1] at q ⊢;exact Ba (q _ (s12.trans s3))
end
abbrev Jx:Stmt:=top 35
abbrev Gj:YF:=Fe
theorem Cu:Bk ["_law_thing","_law_most","_law_loops","_law_zones","_law_many","_law_places","_law_place","_law_k"] Gj (Aj Jx):=by ac_rfl
theorem Ue {d:PyData} (h:∀a b c,d≠.tuple [a,b,c]):Js d=false:=by
 unfold Js;split
 ·exact absurd rfl (h _ _ _)
 ·rfl
theorem YW {d:PyData} (h:∀ds,d≠.tuple ds):FP d=false:=by
 cases d with
 | tuple ds=>exact absurd rfl (h ds)
 | _=>rfl
theorem aR {d:PyData} (h:∀ds,d≠.tuple ds):Ei d=false:=by
 cases d with
 | tuple ds=>exact absurd rfl (h ds)
 | _=>rfl
theorem X7 {d:PyData} (h:∀ds,d≠.tuple ds):Gf d=false:=by
 cases d with
 | tuple ds=>exact absurd rfl (h ds)
 | _=>rfl
theorem Iw {H:Hp} {v:V} {d:PyData} (r:Rep H v d):(∃t xs ds,v=.ref t/\d=.tuple ds/\H t=some (.tup xs)/\Bb H xs ds/\GQ H v=some xs)\/(GQ H v=none/\∀ds,d≠.tuple ds):=by
 cases r with
 | tup e r=>exact .inl ⟨_,_,_,rfl,rfl,e,r,Ej e⟩
 | lst e r=>exact .inr ⟨Dv e,λds e=>by cases e⟩
 | _=>exact .inr ⟨rfl,λds e=>by cases e⟩
theorem Ym {d:PyData} (h:Cm d=true):∃z a ds,d=.tuple [.str z,a,.tuple ds]/\Le d=(if (!decide (V.str z=V.str "opener"))=true then 1 else 0)+(ds.length:Int):=by
 unfold Cm at h;split at h
 ·rename_i k a s;by_cases eo:PyData.eqv k (.str "opener")=true
  ·rw[if_pos eo,Qbc] at h;have ek:=K6.mp eo;subst ek;cases s with
   | tuple ds=>
    refine⟨_,_,_,rj,?_⟩;show (if PyData.eqv (.str "opener") (.str "opener")=true then 0 else 1)+(ds.length:Int)=_
    rw[if_pos eo];rfl
   | _=>cases h.2
  ·rw[if_neg eo,Qbc] at h;unfold Gz at h;rw[Qbc] at h;obtain⟨z,rfl,hz⟩:=RK h.1.1;cases s with
   | tuple ds=>
    refine⟨_,_,_,rj,?_⟩;show (if PyData.eqv (.str z) (.str "opener")=true then 0 else 1)+(ds.length:Int)=_
    rw[if_neg eo,Qbl (Ul hz)];rfl
   | _=>cases h.2
 ·cases h
theorem Yc (l:List Int) (x:Int):(l++[x]).sum=l.sum+x:=by simp
theorem Pg {α : Type} (f:α->Int) {l:List α} {i:Nat} {x:α} (h:l[i]?=some x):((l.take (i+1)).map f).sum=((l.take i).map f).sum+f x:=by
 rw[QbZ h,Qbn,QaR,Yc]
theorem Nf {α : Type} {f:α->Bool} {l:List α} {x:α} (h:x∈l) (e:f x=false):l.all f=false:=by
 cases ea:l.all f with
 | false=>rfl
 | true=>rw[Qbj.mp ea x h] at e;cases e
theorem YS {α : Type} {l:List α} (h:l.Nodup) {i:Nat} {x:α} (hx:l[i]?=some x):∀y∈l.take i,y≠x:=λy hy e=>by
 subst e;obtain⟨j,hj⟩:=Qax hy;rw[List.getElem?_take] at hj;split at hj
 ·rename_i hji;obtain⟨h1,e1⟩:=Qaf.mp hj;obtain⟨h2,e2⟩:=Qaf.mp hx;have:=Qag.mp h j i h1 h2 hji;exact this (by rw[e1,e2])
 ·cases hj
section
variable {P:Program} {w:World} {K:YD} {mg:YB} {base:Heap} {kd:Addr}
abbrev xg:YF:=["_law_zone"]
theorem Rn (c:Code K mg "_law_is_plan" Jx Gj) (T:Nm mg) (FQ:Good P w K mg base "_law_whole" 1 Ez QS) (RT:Good P w K mg base "_law_is_place" 3 FJ (Di Cm)) (Td:Good P w K mg base "_law_is_zone" 2 Gi (Di Ef)):Good P w K mg base "_law_is_plan" 4 Gj (Di Js):=by
 have sc:=Cu;refine c.good Cu (λvs H Q E h=>?_) (λf cdv A outer s H vs Q E hr h=>?_)
 ·obtain⟨v,d,rfl,_⟩:=h;rfl
 obtain⟨v,d,rfl,rd,fit,q⟩:=h;refine⟨_,(Ag (BX (PW.pt (Dm (BK (BJ (Ai BP rfl T.isinstance Bh (Aa (pv 0) (Aa (Ce (v:=.ty "tuple") rfl T.tuple BR rfl) Ab))))) (Dm (Br Lk (Ai Ay rfl T.len Bx (Aa (pv 0) Ab)) Ac (Bq _)) (Fy (BK (BJ (Ao FQ hr (Aa (Bg Bv (pv 0) Ac (λ_ _=>rfl)) (Aa Ac (Aa Ac Ab)))))))))) (Ah (Ax CJ)) Bs)
 (Ag (Jc (pv 0) (Fz rfl (Bl (Ak (i:=1) Cu.nd rfl (Or.inl rfl)) (Bl (Ak (i:=2) Cu.nd rfl (Or.inl rfl)) (Bl (Ak (i:=3) Cu.nd rfl (Or.inl rfl)) DK)))))
 (Ag (BX (PW.pt (Dm (BK (BJ (Ai BP rfl T.isinstance Bh (Aa (pv 2) (Aa (Ce (v:=.ty "tuple") rfl T.tuple BR rfl) Ab))))) (Dm (BK (Mu DY DY Ac (Ai Ay rfl T.len Bx (Aa (pv 2) Ab)) Ac)) (Dm (BK (BJ (Ai BP rfl T.isinstance Bh (Aa (pv 3) (Aa (Ce (v:=.ty "tuple") rfl T.tuple BR rfl) Ab))))) (Fy (Br Io (Ai Ay rfl T.len Bx (Aa (pv 3) Ab)) Ac (Bq _))))))) (Ah (Ax CJ)) Bs)
 (Ag (Bj (i:=4) Cu.nd rfl (Or.inl rfl) Ac)
 (Ag (Dk Qbo rfl (DQ (pv 2)) (Ak (i:=5) Cu.nd rfl (Or.inl rfl))
 (Ag (BX (PW.pt (Dm (BK (BJ (Ai BP rfl T.isinstance Bh (Aa (pv 5) (Aa (Ce (v:=.ty "tuple") rfl T.tuple BR rfl) Ab))))) (Fy (BK (Mu DY DY Ac (Ai Ay rfl T.len Bx (Aa (pv 5) Ab)) Ac))))) (Ah (Ax CJ)) Bs)
 (Ah (Dk Qbo rfl (DQ (pv 5)) (Ak (i:=6) Cu.nd rfl (Or.inl rfl))
 (Ag (BX (BK (BJ (Ao RT hr (Aa (pv 6) Ab)))) (Ah (Ax CJ)) Bs)
 (Ah (Bj (i:=4) Cu.nd rfl (Or.inl rfl) (Av BL (Av BL (pv 4) (CQ Qc rfl T.int Oa (Aa (Dn Lk (Bg Bv (pv 6) Ac (λ_ _=>rfl)) Bp (Bq _)) Ab))) (Ai Ay rfl T.len Bx (Aa (Bg Bv (pv 6) Ac (λ_ _=>rfl)) Ab))))))))))
 (Ag (BX (BK (BJ (Ai (Dq rfl) rfl T.all Fi (Aa (Cp (N':=xg) rfl (Bt.plain rfl (by trivial) (by trivial) (by trivial)) (DQ (pv 3)) (λ_ _ _ _=>(Ak (i:=0) (show List.Nodup (xg:YF) by trivial) rfl (Or.inl rfl))) (λ_ _ _ _=>CV) (λ_ _ _ _=>(Ao Td hr (Aa (pv 0) Ab)))) Ab)))) (Ah (Ax CJ)) Bs)
 (Ag (Dk Qbo rfl (Dw rfl T.range (Aa (Ai Ay rfl T.len Bx (Aa (pv 3) Ab)) Ab)) (Ak (i:=7) Cu.nd rfl (Or.inl rfl))
 (Ah (BX (Br Jt (Bg Bv (Bg Bv (pv 3) (pv 7) (λ_ _=>rfl)) Ac (λ_ _=>rfl)) (Cp (N':=xg) rfl (Bt.plain rfl (by trivial) (by trivial) (by trivial)) (DQ (Cy Es (pv 3) Dc (CN (pv 7)))) (λ_ _ _ _=>(Ak (i:=0) (show List.Nodup (xg:YF) by trivial) rfl (Or.inl rfl))) (λ_ _ _ _=>CV) (λ_ _ _ _=>(Bg (JQ (K:=K) rfl) (pv 0) Ac (λ_ _=>rfl)))) (by with_unfolding_all rfl)) (Ah (Ax CJ)) Bs)))
 (Ah (Ax (Jd DY DY Ac (pv 4) Ac)))))))))),?_⟩
 show let R0:TS:=_;let R1:TS:=_;let R2:TS:=Aq (Ft _ _ R1) R0;let R3:TS:=Aq _ R2;let R4:TS:=_;let R5:TS:=Aq _ R4;let R6:TS:=Ft _ _ R5;let R7:TS:=Aq _ R6;let R8:TS:=Aq (Ft _ _ R7) R3;let R9:TS:=Aq _ R8;let R10:TS:=Aq _ R9;let R11:TS:=Aq _ R10;Aq _ R11 _ _ _;intro R0 R1 R2 R3 R4 R5 R6 R7 R8 R9 R10 R11;refine⟨_,rj,CT rd.kn ⟨_,rj,?_⟩⟩;rcases Iw rd with⟨t,xs,ds,rfl,rfl,ht,rs,et⟩|⟨et,hn⟩
 ·rw[et];have lx:=Bb.len rs;refine Ba ⟨_,rj,t,_,rj,.inr (SqT.of ht),rj,_,rj,?_⟩;by_cases h3:ds.length=3
  ·rw[show (!decide (V.int (xs.length:Int)=V.int 3))=false by rw[lx,h3];rfl];obtain⟨m,ls,zs,rfl⟩:=Qy (l:=ds) (by omega) (by omega);cases rs with
   | cons rm rs=>
   cases rs with
   | cons rl rs=>
   cases rs with
   | cons rz rs=>
   cases rs;have q:∀H',Same H H'->Q (.bl (wiP m 1 30&&(FP ls&&(Gf zs&&(decide (1<=plN ls)&&decide (plN ls<=30)))))) H':=q;refine Ba ⟨_,rj,t,_,_,_,rj,rj,SqT.of ht,rj,_,1,30,rj,rm.kn,_,rj,?_⟩;rw[Hx rm];cases em:wiP m 1 30 with
   | false=>rw[em] at q;exact Ar (q _ (Same.refl _))
   | true=>
    rw[em,QbE] at q;refine Ba ⟨_,rj,t,_,rj,SqT.of ht,rj,_,_,rj,_,_,rj,_,_,rj,rj,?_⟩;refine⟨_,rj,CT rl.kn ⟨_,rj,?_⟩⟩;rcases Iw rl with⟨Ls,xl,dl,rfl,rfl,hl,rls,el⟩|⟨el,hn⟩
    ·rw[el];have ll:=Bb.len rls;have fl:Fit 64 (.tuple dl):=fit.item' (by simp);have q:∀H',Same H H'->Q (.bl (((decide ((1:Int)<=dl.length)&&decide ((dl.length:Int)<=3))&&dl.all Ei)&&(Gf zs&&(decide (1<=(dl.map Er).sum)&&decide ((dl.map Er).sum<=30))))) H':=q;refine Ba ⟨_,rj,Ls,_,rj,.inr (SqT.of hl),_,_,rj,rj,_,rj,?_⟩;rw[ll];by_cases g1:(1:Int)<=(dl.length:Int)
     ·rw[Qby g1] at q ⊢;refine Ar ⟨_,_,rj,rj,_,rj,?_⟩;by_cases g2:(dl.length:Int)<=3
      ·rw[Qby g2] at q ⊢;refine Ba ⟨_,rj,CT rz.kn ⟨_,rj,?_⟩⟩;rcases Iw rz with⟨Zs,xz,dz,rfl,rfl,hz,rzs,ez⟩|⟨ez,hn⟩
       ·rw[ez];have lz:=Bb.len rzs;have fz:Fit 64 (.tuple dz):=fit.item' (by simp);have q:∀H',Same H H'->Q (.bl (dl.all Ei&&((decide ((0:Int)<=dz.length)&&decide ((dz.length:Int)<=8))&&(dz.all Ef&&decide (dz.map Dt).Nodup)&&(decide (1<=(dl.map Er).sum)&&decide ((dl.map Er).sum<=30))))) H':=q;rw[Qby (show (0:Int)<=dz.length by omega),QbE] at q;refine Ba ⟨_,rj,Zs,_,rj,.inr (SqT.of hz),_,_,rj,rj,_,rj,?_⟩;rw[lz];by_cases g3:(dz.length:Int)<=8
        ·rw[Qby g3,QbE] at q;rw[show decide ((8:Int) < (dz.length:Int))=false from Qbl (by omega)]
         refine Ba ?_;refine⟨_,rj,Ls,rj,⟨_,SqT.of hl⟩,?_⟩;let J0:YN:=λi U HH=>∃u1 u5 u6,U=[jp t,u1,jp Ls,jp Zs,some (.int ((dl.take i).map Er).sum),u5,u6,none]/\Same H HH/\((dl.take i).all Ei)=true;refine Lq (xs:=xl) J0 ⟨_,_,_,rj,Same.refl H,rj⟩ (λi U HH _ h=>?_) (λi x U HH hx h=>?_) (fun U HH h=>?_)
         ·obtain⟨u1,u5,u6,rfl,sm,_⟩:=h;exact SqT.of (sm _ _ hl)
         ·obtain⟨u1,u5,u6,rfl,sm,ha⟩:=h;obtain⟨d,hd,rx0⟩:=Bb.at_ rls hx;have rx:=Rep.same sm rx0;have hdm:=Qau hd;have fd:=fl.item' hdm;refine⟨_,rj,CT rx.kn ⟨_,rj,?_⟩⟩;rcases Iw rx with⟨tp,xp,dp,rfl,rfl,hp,rps,ep⟩|⟨ep,hn⟩
          ·rw[ep];have lp:=Bb.len rps;have miss:Ei (.tuple dp)=false->∀H',Same H H'->Q (.bl false) H':=λe H' s'=>by
            have:=q H' s';rw[Nf hdm e] at this;exact this
           refine Ba ⟨_,rj,tp,_,rj,.inr (SqT.of hp),_,_,rj,rj,_,rj,?_⟩;rw[lp];by_cases k1:(1:Int)<=(dp.length:Int)
           ·rw[Qby k1];refine Ar ⟨_,_,rj,rj,_,rj,?_⟩;by_cases k2:(dp.length:Int)<=12
            ·rw[Qby k2];have row:Cg (.tuple dp) 1 12=true:=by
              show (decide ((1:Int)<=dp.length)&&decide ((dp.length:Int)<=12))=true;rw[Qby k1,Qby k2];rfl
             refine Ba ?_;refine⟨_,rj,tp,rj,⟨_,SqT.of hp⟩,?_⟩;let J1:YN:=λj U HJ=>∃u1 u6,U=[jp t,u1,jp Ls,jp Zs,some (.int (((dl.take i).map Er).sum+((dp.take j).map Le).sum)),jp tp,u6,none]/\Same HH HJ/\((dp.take j).all Cm)=true;refine Lq (xs:=xp) J1 ⟨_,_,by rw[List.take_zero,List.map_nil,List.sum_nil,Int.add_zero];rfl,Same.refl HH,rj⟩ (λj U HJ _ h=>?_) (λj y U HJ hy h=>?_) (fun U HJ h=>?_)
             ·obtain⟨u1,u6,rfl,sj,_⟩:=h;exact SqT.of (sj _ _ hp)
             ·obtain⟨u1,u6,rfl,sj,hb⟩:=h;obtain⟨e,he,ry0⟩:=Bb.at_ rps hy;have ry:=Rep.same sj ry0;have hem:=Qau he;refine⟨_,rj,y,e,rj,ry,fd.item' hem,λH1 s1=>⟨_,rj,?_⟩⟩;cases ee:Cm e with
              | false=>
               refine Ar (miss ?_ _ (sm.trans (sj.trans s1)));show (Cg (.tuple dp) 1 12&&dp.all Cm)=false;rw[Nf hem ee,Qbz]
              | true=>
               obtain⟨z,a,dsp,rfl,ec⟩:=Ym ee;cases Rep.same s1 ry with
               | @tup tq xq _ hq rq=>
               cases rq with
               | cons q1 rq=>
               cases q1;cases rq with
               | cons q2 rq=>
               cases rq with
               | cons q3 rq=>
               cases rq;cases q3 with
               | @tup ts xs' _ hs rs'=>
               have ls':=Bb.len rs';refine Ba ⟨_,rj,_,rj,tq,_,_,_,rj,rj,SqT.of hq,rj,rj,.inr ⟨_,rj,_,_,rj,rj,_,rj,tq,_,_,_,rj,rj,SqT.of hq,rj,ts,_,rj,.inr (SqT.of hs),_,_,rj,rj,u1,jp tq,?_,sj.trans s1,?_⟩⟩
               ·have ea:(((dl.take i).map Er).sum+((dp.take j).map Le).sum+(if (!decide (V.str z=V.str "opener"))=true then 1 else 0))+(xs'.length:Int)=((dl.take i).map Er).sum+((dp.take (j+1)).map Le).sum:=by
                 rw[Pg Le he,ec,ls',Int.add_assoc,Int.add_assoc]
                rw[<-ea];rfl
               ·rw[QbZ he,List.all_append,hb,QbE,QbJ,ee];rfl
             ·obtain⟨u1,u6,rfl,sj,hb⟩:=h;rw[lp,Qbf] at hb;rw[lp,Qbf];refine⟨u1,jp tp,u6,?_,sm.trans sj,?_⟩
              ·rw[Pg Er hd];rfl
              ·rw[QbZ hd,List.all_append,ha,QbE,QbJ];show (Ei (.tuple dp)&&true)=true;rw[Bool.and_true];show (Cg (.tuple dp) 1 12&&dp.all Cm)=true;rw[row,hb];rfl
            ·rw[Qbl k2];refine Ar (miss ?_ _ sm);show ((decide ((1:Int)<=dp.length)&&decide ((dp.length:Int)<=12))&&dp.all Cm)=false;rw[Qbl k2,Qbz];rfl
           ·rw[Qbl k1];refine Ba ⟨_,rj,Ar (miss ?_ _ sm)⟩;show ((decide ((1:Int)<=dp.length)&&decide ((dp.length:Int)<=12))&&dp.all Cm)=false;rw[Qbl k1];rfl
          ·rw[ep];have:=q _ sm;rw[Nf hdm (aR hn)] at this;exact Ar this
         obtain⟨u1,u5,u6,rfl,sm,ha⟩:=h;rw[ll,Qbf] at ha ⊢;rw[ha,QbE] at q;have hz1:=sm _ _ hz;refine⟨_,rj,Zs,rj,⟨_,SqT.of hz1⟩,λl2 hl2=>?_⟩;refine EY (r:=[]) (fb:=Ef) hl2 hz1 (Bb.same sm rzs) fz.len (λx d HX hd rx s1 R hR=>⟨_,rj,x,d,rj,rx,fz.item' hd,hR⟩) λH' e s1=>?_;refine⟨l2,_,rj,SqL.of e,_,rj,?_⟩;rw[all_map];have sm1:=sm.trans s1;cases ezz:dz.all Ef with
         | false=>
          rw[ezz] at q;exact Ar (q _ sm1)
         | true=>
          rw[ezz,QbE] at q;have hzz:=Qbj.mp ezz;have hz2:=sm1 _ _ hz;have rz2:=Bb.same sm1 rzs;have lnm:(dz.map Dt).length=xz.length:=by rw[Qbk,lz]
          have zn:∀(x:V) (d:PyData) (HX:Hp),d∈dz->Rep HX x d->∃tz y,x=.ref tz/\HX tz=some (.tup [.str (Dt d),y]):=λx d HX hd rx=>by
           obtain⟨z,a,rfl⟩:=TQ (hzz d hd);cases rx with
           | tup h r=>
           cases r with
           | cons r1 r=>
           cases r1;cases r with
           | cons r2 r=>
           cases r;exact⟨_,_,rj,h⟩
          refine Ba ⟨_,rj,Zs,_,rj,.inr (SqT.of hz2),_,rj,by omega,by omega,?_⟩;rw[QaY];let J2:YN:=λi U HI=>∃u7,U=[jp t,u1,jp Ls,jp Zs,some (.int (dl.map Er).sum),u5,u6,u7]/\Same H' HI/\((dz.map Dt).take i).Nodup;refine FT J2 ⟨_,rj,Same.refl H',by rw[List.take_zero];exact List.Pairwise.nil⟩ (λi U HI hi h=>?_) (fun U HI h=>?_)
          ·obtain⟨u7,rfl,si,ndi⟩:=h;have hxi:xz[i]?=some xz[i]:=Qai hi;obtain⟨d,hd,rx⟩:=Bb.at_ (Bb.same si rz2) hxi;obtain⟨tz,y,ex,htz⟩:=zn _ d HI (Qau hd) rx;rw[ex] at hxi;have hnm:(dz.map Dt)[i]?=some (Dt d):=by rw[QaT,hd];rfl
           have ec:Eo xz none (some (0+(i:Int)))=xz.take i:=by rw[Int.zero_add];exact Lb (by omega)
           refine⟨_,rj,_,rj,Zs,_,_,_,rj,rj,SqT.of (si _ _ hz2),(by rw[Int.zero_add];exact Fq hxi),tz,_,_,_,rj,rj,SqT.of htz,rj,?_⟩;refine⟨_,rj,_,rj,_,rj,Zs,_,rj,si _ _ hz2,λp Hp' hp' sp=>?_⟩;rw[ec] at hp';refine⟨p,rj,⟨_,SqT.of hp'⟩,λl3 hl3=>?_⟩;have lti:(xz.take i).length=i:=by rw[Qbd];omega
           let J3:YN:=λj U HC=>∃u,U=[u]/\HC l3=some (.lst (((dz.map Dt).take j).map V.str))/\Same Hp' HC;refine Ko (xs:=xz.take i) J3 ⟨_,rj,Ad,Ae hl3 _⟩ (λj U HC _ h=>?_) (λj y' U HC hy h=>?_) (fun U HC h=>?_)
           ·obtain⟨u,rfl,m1,m2⟩:=h;exact SqT.of (m2 _ _ hp')
           ·obtain⟨u,rfl,m1,m2⟩:=h;have hj:j < i:=by have:=(Qaf.mp hy).1;omega
            rw[List.getElem?_take,if_pos hj] at hy;obtain⟨d',hd',rx'⟩:=Bb.at_ (Bb.same (si.trans (sp.trans m2)) rz2) hy;obtain⟨tz',y2,rfl,jP⟩:=zn _ d' HC (Qau hd') rx';have hnm':(dz.map Dt)[j]?=some (Dt d'):=by rw[QaT,hd'];rfl
            unfold Gu;dsimp only;refine Ar ⟨_,rj,tz',_,_,_,rj,rj,SqT.of jP,rj,_,m1,Bc (by simp;omega),_,rj,?_,m2.CG Af.upd hl3⟩;rw[Ad,QbZ hnm',Qbn];rfl
           ·obtain⟨u,rfl,m1,m2⟩:=h;rw[lti] at m1;have s3:=si.trans (sp.trans m2);refine⟨l3,_,rj,.inl (SqL.of m1),rj,K9 _,_,rj,?_⟩;have ein:inV (V.str (Dt d)) (((dz.map Dt).take i).map V.str)=decide (Dt d∈(dz.map Dt).take i):=by rw[Qbv,Jm,QaQ]
            rw[if_neg QaG,ein];by_cases hin:Dt d∈(dz.map Dt).take i
            ·rw[Qby hin];have:decide (dz.map Dt).Nodup=false:=Qbl λnd=>YS nd hnm _ hin rfl;rw[this] at q;exact Ar (q _ (sm1.trans s3))
            ·rw[Qbl hin];refine Ba ⟨_,rj,s3,?_⟩;rw[QbZ hnm,Qba];exact⟨ndi,Qbr.mpr ⟨(λh=>by cases h),List.Pairwise.nil⟩,λa ha b hb e=>hin (by rw[<-show b=Dt d by simpa using hb,<-e];exact ha)⟩
          ·obtain⟨u7,rfl,si,ndi⟩:=h;rw[<-lnm,Qbf] at ndi;rw[Qby ndi,QbE] at q;refine⟨_,rj,_,_,rj,rj,_,rj,?_⟩;by_cases g4:(1:Int)<=(dl.map Er).sum
           ·rw[Qby g4] at q ⊢;rw[QbE] at q;exact Ar ⟨_,_,rj,rj,q _ (sm1.trans si)⟩
           ·rw[Qbl g4] at q ⊢;exact Ba (q _ (sm1.trans si))
        ·rw[Qbl g3] at q;simp only[QbB,Qbz] at q;rw[show decide ((8:Int) < (dz.length:Int))=true from Qby (by omega)]
         exact Ar (q _ (Same.refl _))
       ·rw[X7 hn] at q;simp only[QbB,Qbz] at q;rw[ez];exact Ar (q _ (Same.refl _))
      ·rw[Qbl g2] at q ⊢;simp only[QbB,Qbz] at q;exact Ar (q _ (Same.refl _))
     ·rw[Qbl g1] at q ⊢;simp only[QbB,Qbz] at q;exact Ba ⟨_,rj,Ar (q _ (Same.refl _))⟩
    ·rw[YW hn] at q;rw[el];exact Ar (q _ (Same.refl _))
  ·rw[show (!decide (V.int (xs.length:Int)=V.int 3))=true by rw[Qbl];rfl;intro z;injection z with z;omega];rw[Ue (λa b c e=>h3 (by injection e with e;rw[e];rfl))] at q;exact Ar (q _ (Same.refl _))
 ·rw[Ue (λa b c e=>hn _ e)] at q;rw[et];exact Ar (q _ (Same.refl _))
end
def hid (b:Addr) (H:Hp):Hp:=λa=>if a=b then none else H a
theorem Xd {b a:Addr} {H:Hp} (n:a≠b):hid b H a=H a:=if_neg n
theorem Uq {b a:Addr} {H:Hp} {o:HO} (h:hid b H a=some o):a≠b/\H a=some o:=by
 unfold hid at h;by_cases e:a=b
 ·rw[if_pos e] at h;cases h
 ·rw[if_neg e] at h;exact⟨e,h⟩
theorem CK {b:Addr} {H H':Hp} (s:Af b H H'):Same (hid b H) (hid b H'):=λa o e=>by
 obtain⟨n,h⟩:=Uq e;rw[Xd n];exact s _ _ h n
theorem Eu {b:Addr} {H:Hp}:Same (hid b H) H:=λa o e=>(Uq e).2
theorem CP {b a:Addr} {H:Hp} {o:HO} (n:a≠b) (h:H a=some o):hid b H a=some o:=by rw[Xd n];exact h
mutual
def Du (w:Nat):PyData->Bool
 | .tuple ds=>decide (ds.length<=w)&&Ed w ds
 | .list ds=>decide (ds.length<=w)&&Ed w ds
 | .str z=>decide (z.length<=w)&&z.cps.toList.all λc=>decide (c < 128)
 | _=>true
def Ed (w:Nat):List PyData->Bool
 | []=>true
 | x::r=>Du w x&&Ed w r
end
theorem Hv (w:Nat):∀ds:List PyData,Ed w ds=true ↔ ∀x∈ds,Du w x=true
 | []=>⟨(λ_ x h=>by cases h),λ_=>by simp only[Ed]⟩
 | a::r=>by
  simp only[Ed];rw[Qbc,Hv w r];exact⟨λh x hx=>by
   rcases QbD.mp hx with rfl | hx
   ·exact h.1
   ·exact h.2 x hx,λh=>⟨h a (QaH ..),λx hx=>h x (Qav _ hx)⟩⟩
mutual
theorem K7 {w w':Nat} (l:w<=w'):∀d:PyData,Du w d=true->Du w' d=true
 | .tuple ds,h=>by
  simp only[Du,Qbc] at h ⊢;exact⟨Qby (QbO (QaU h.1) l),Jj l ds h.2⟩
 | .list ds,h=>by
  simp only[Du,Qbc] at h ⊢;exact⟨Qby (QbO (QaU h.1) l),Jj l ds h.2⟩
 | .str z,h=>by
  simp only[Du,Qbc] at h ⊢;exact⟨Qby (QbO (QaU h.1) l),h.2⟩
 | .none,_=>by simp only[Du]
 | .bool _,_=>by simp only[Du]
 | .int _,_=>by simp only[Du]
 | .dict _,_=>by simp only[Du]
theorem Jj {w w':Nat} (l:w<=w'):∀ds:List PyData,Ed w ds=true->Ed w' ds=true
 | [],_=>by simp only[Ed]
 | x::r,h=>by
  simp only[Ed,Qbc] at h ⊢;exact⟨K7 l x h.1,Jj l r h.2⟩
end
mutual
theorem Py:∀d:PyData,Du 900 d=true->wide d=true
 | .tuple ds,h=>by
  simp only[Du,wide,Qbc] at h ⊢;exact⟨h.1,Ji ds h.2⟩
 | .list ds,h=>by
  simp only[Du,wide,Qbc] at h ⊢;exact⟨h.1,Ji ds h.2⟩
 | .str z,h=>by
  simp only[Du,wide] at h ⊢;exact h
 | .none,_=>by simp only[wide]
 | .bool _,_=>by simp only[wide]
 | .int _,_=>by simp only[wide]
 | .dict _,_=>by simp only[wide]
theorem Ji:∀ds:List PyData,Ed 900 ds=true->Dz ds=true
 | [],_=>by simp only[Dz]
 | x::r,h=>by
  simp only[Ed,Dz,Qbc] at h ⊢;exact⟨Py x h.1,Ji r h.2⟩
end
structure Sl (w k:Nat) (d:PyData):Prop where
 lay:d.canLay0=true
 dep:d.depth<=k
 nar:Du w d=true
theorem Sl.fit {w k:Nat} {d:PyData} (h:Sl w k d) (hw:w<=900):Fit k d:=⟨h.lay,h.dep,Py d (K7 hw d h.nar)⟩
theorem Sl.mono {w w' k k':Nat} {d:PyData} (h:Sl w k d) (hw:w<=w') (hk:k<=k'):Sl w' k' d:=⟨h.lay,QbO h.dep hk,K7 hw d h.nar⟩
theorem Rz:∀{ds:List PyData},(∀x∈ds,x.canLay0=true)->PyData.canLayAll0 ds=true
 | [],_=>rfl
 | a::r,h=>by
  show (a.canLay0&&PyData.canLayAll0 r)=true;rw[h a (QaH ..),Rz λx hx=>h x (Qav _ hx)];rfl
theorem RX:∀{ds:List PyData} {n:Nat},(∀x∈ds,x.depth<=n)->PyData.depthAll ds<=n
 | [],_,_=>QbS _
 | a::r,n,h=>by
  show max a.depth (PyData.depthAll r)<=n;exact Nat.max_le.mpr ⟨h a (QaH ..),RX λx hx=>h x (Qav _ hx)⟩
theorem Sl.tup {w k:Nat} {ds:List PyData} (h:∀x∈ds,Sl w k x) (l:ds.length<=w):Sl w (k+1) (.tuple ds):=by
 refine⟨Rz λx hx=>(h x hx).lay,Nat.succ_le_succ (RX λx hx=>(h x hx).dep),?_⟩;simp only[Du,Qbc];exact⟨Qby l,(Hv w ds).mpr λx hx=>(h x hx).nar⟩
theorem Sl.lst {w k:Nat} {ds:List PyData} (h:∀x∈ds,Sl w k x) (l:ds.length<=w):Sl w (k+1) (.list ds):=by
 refine⟨Rz λx hx=>(h x hx).lay,Nat.succ_le_succ (RX λx hx=>(h x hx).dep),?_⟩;simp only[Du,Qbc];exact⟨Qby l,(Hv w ds).mpr λx hx=>(h x hx).nar⟩
theorem Sl.item {w k:Nat} {ds:List PyData} (h:Sl w (k+1) (.tuple ds)) {x:PyData} (hx:x∈ds):Sl w k x:=by
 have h1:PyData.canLayAll0 ds=true:=h.lay;have h2:PyData.depthAll ds+1<=k+1:=h.dep;have h3:=h.nar;simp only[Du,Qbc] at h3;exact⟨OD h1 x hx,O6 (by omega) x hx,(Hv w ds).mp h3.2 x hx⟩
theorem Sl.len {w k:Nat} {ds:List PyData} (h:Sl w k (.tuple ds)):ds.length<=w:=by
 have h3:=h.nar;simp only[Du,Qbc] at h3;exact QaU h3.1
theorem Bb.mk {H:Hp}:∀{xs:YG} {ds:List PyData},Paired (Rep H) xs ds->Bb H xs ds
 | _,_,.nil=>.nil
 | _,_,.cons a r=>.cons a (Bb.mk r)
theorem RN {b:Addr} {H:Hp} {n:Nat} (hb:Bm H b n):Bf H (hid b H):=λa xs h=>CP (λe=>hb.DW xs (by rw[<-e];exact h)) h
theorem Cr (w k:Nat) (i:Int):Sl w k (.int i):=⟨rfl,QbS _,by simp only[Du]⟩
theorem KH {w k:Nat} {z:Str} (h1:PyData.strOk z=true) (h2:z.length<=w) (h3:∀c∈z.cps.toList,c < 128):Sl w k (.str z):=by
 refine⟨h1,QbS _,?_⟩;simp only[Du,Qbc];exact⟨Qby h2,Qbj.mpr λc hc=>Qby (h3 c hc)⟩
def Zg (z:Str):Bool:=PyData.strOk z&&(decide (z.length<=30)&&z.cps.toList.all λc=>decide (c < 128))
theorem DP {k:Nat} {z:Str} (h:Zg z=true):Sl 30 k (.str z):=by
 unfold Zg at h;simp only[Qbc] at h;exact KH h.1 (QaU h.2.1) λc hc=>QaU (Qbj.mp h.2.2 c hc)
theorem Mx {z:Str} (h:Et z):Zg z=true:=by
 rcases h with rfl | rfl | rfl | rfl <;> decide +kernel
theorem bx:∀c∈abc.cps.toList,c < 128:=by
 have h:abc.cps.toList.all (λc=>decide (c < 128))=true:=by trivial
 exact λc hc=>QaU (Qbj.mp h c hc)
theorem T7 {k:Nat} {z:Str} (h:okS z) (l:z.length<=8):Sl 30 k (.str z):=KH h.ok (by omega) λc hc=>bx c (h c hc)
theorem T9 {α : Type} {H:Hp} {F:V->α->Prop} {w k:Nat} (f:∀v a,F v a->∃d,Rep H v d/\Sl w k d):∀{xs:YG} {as:List α},Paired F xs as->∃ds,Bb H xs ds/\(∀x∈ds,Sl w k x)/\ds.length=as.length
 | _,_,.nil=>⟨[],.nil,(λx h=>by cases h),rfl⟩
 | _,_,.cons a r=>by
  obtain⟨d,h1,h2⟩:=f _ _ a;obtain⟨ds,h3,h4,h5⟩:=T9 f r;refine⟨d::ds,.cons h1 h3,λx hx=>?_,by rw[Qbe,Qbe,h5]⟩;rcases QbD.mp hx with rfl | hx
  ·exact h2
  ·exact h4 x hx
theorem Lj {α : Type} {H:Hp} {F:V->α->Prop} {w k:Nat} {xs:YG} {as:List α} (p:Paired F xs as) (f:∀v a,a∈as->F v a->∃d,Rep H v d/\Sl w k d):∃ds,Bb H xs ds/\(∀x∈ds,Sl w k x)/\ds.length=as.length:=by
 have p':Paired (λv a=>a∈as/\F v a) xs as:=by
  have:∀{ys:YG} {bs:List α},Paired F ys bs->(∀b∈bs,b∈as)->Paired (λv a=>a∈as/\F v a) ys bs:=by
   intro ys bs q
   induction q with
   | nil=>exact λ_=>.nil
   | cons a r ih=>exact λh=>.cons ⟨h _ (QaH ..),a⟩ (ih λb hb=>h b (Qav _ hb))
  exact this p λb hb=>hb
 exact T9 (λv a h=>f v a h.1 h.2) p'
theorem Zd {H:Hp} {v:V} {d:Dev} (h:Iv H v d) (k:Et d.kind):∃e,Rep H v e/\Sl 30 1 e:=by
 obtain⟨t,rfl,ht⟩:=h;refine⟨_,.tup ht (.cons (.str _) (.cons (.int _) .nil)),Sl.tup (k:=0) (λx hx=>?_) (by show 2<=30;decide)⟩;simp only[QbD,Qbg,Qcb] at hx;rcases hx with rfl | rfl
 ·exact DP (Mx k)
 ·exact Cr _ _ _
theorem Vh {H:Hp} {v:V} {p:Place} (h:Dg H v p) (ok:OkP p):∃e,Rep H v e/\Sl 30 3 e:=by
 obtain⟨t,u,vs,rfl,ht,hu,hd⟩:=h;obtain⟨ds,r1,r2,r3⟩:=Lj hd λv a ha h=>Zd h (ok.kinds a ha);have l3:=ok.spur;have sk:Sl 30 2 (.str p.kind):=by
  rcases ok.form with⟨e,_⟩| hk
  ·rw[e];exact DP (by trivial)
  ·exact DP (Mx hk)
 refine⟨_,.tup ht (.cons (.str _) (.cons (.int _) (.cons (.tup hu r1) .nil))),Sl.tup (k:=2) (λx hx=>?_) (by show 3<=30;decide)⟩;simp only[QbD,Qbg,Qcb] at hx;rcases hx with rfl | rfl | rfl
 ·exact sk
 ·exact Cr _ _ _
 ·exact Sl.tup r2 (by omega)
theorem WY {H:Hp} {v:V} {ps:List Place} (h:LoopAt H v ps) (ok:OkL ps):∃e,Rep H v e/\Sl 30 4 e:=by
 obtain⟨t,vs,rfl,ht,hp⟩:=h;obtain⟨ds,r1,r2,r3⟩:=Lj hp λv a ha h=>Vh h (ok.ok a ha);have:=ok.hi;exact⟨_,.tup ht r1,Sl.tup r2 (by omega)⟩
theorem PN {H:Hp}:∀zs:List Int,Bb H (zs.map V.int) (zs.map PyData.int)
 | []=>.nil
 | z::r=>.cons (.int z) (PN r)
theorem V8 {H:Hp} {v:V} {z:Zone} (h:Hf H v z) (h1:okS z.name) (h2:z.name.length<=8) (h3:z.adr.length<=30):∃e,Rep H v e/\Sl 30 2 e:=by
 obtain⟨t,u,rfl,ht,hu⟩:=h;refine⟨_,.tup ht (.cons (.str _) (.cons (.tup hu (PN _)) .nil)),Sl.tup (k:=1) (λx hx=>?_) (by show 2<=30;decide)⟩;simp only[QbD,Qbg,Qcb] at hx;rcases hx with rfl | rfl
 ·exact T7 h1 h2
 ·refine Sl.tup (k:=0) (λx hx=>?_) (by rw[Qbk];exact h3);obtain⟨i,_,rfl⟩:=QbP.mp hx;exact Cr _ _ _
theorem Wy {H:Hp} {b:Addr} {n:Nat} {pl Ls zs:Addr} {vs zvs:YG} {most:Int} {ja:YU} {jn:List Zone} (hb:Bm H b n) (h1:H pl=some (.tup [.int most,.ref Ls,.ref zs])) (h2:H Ls=some (.tup vs)) (h3:Paired (LoopAt H) vs ja) (h4:∀ps∈ja,OkL ps) (h5:ja.length<=3) (h6:H zs=some (.tup zvs)) (h7:Paired (Hf H) zvs jn) (ok:SN most ja jn):∃d,Rep (hid b H) (.ref pl) d/\Sl 30 6 d:=by
 have tt:=RN hb;obtain⟨ds,r1,r2,r3⟩:=Lj (Paired.Df h3 λ_ _ z=>z.tups tt) λv a ha h=>WY h (h4 a ha);obtain⟨es,q1,q2,q3⟩:=Lj (Paired.Df h7 λ_ _ z=>z.tups tt) λv a ha h=>V8 h (ok.znm a ha).2 (ok.znm a ha).1.2 (ok.zup a ha).2.2;have z8:=ok.gH;refine⟨_,.tup (tt _ _ h1) (.cons (.int _) (.cons (.tup (tt _ _ h2) r1) (.cons (.tup (tt _ _ h6) q1) .nil))),Sl.tup (k:=5) (λx hx=>?_) (by show 3<=30;decide)⟩;simp only[QbD,Qbg,Qcb] at hx;rcases hx with rfl | rfl | rfl
 ·exact Cr _ _ _
 ·exact Sl.tup r2 (by omega)
 ·exact (Sl.tup q2 (by omega)).mono (QbR _) (by decide)
abbrev JX:Stmt:=top 30
abbrev Fd:YF:=["_law_bag_here","_law_thing"]
theorem Ek:Bk ["_law_bag_here","_law_thing","_law_at","_law_way","_law_odd"] Fd (Aj JX):=by ac_rfl
theorem Mp {I R:TS} {D:Ends} {U : St} {H:Hp} (P:YO) (hR:∀ σ' H',P σ' H'->R D σ' H') (hI:(∀ σ' H',P σ' H'->R D σ' H')->I { D with nx:=fun U H=>R D U H } U H):Aq I R D U H:=hI hR
theorem RM {b:Bool} {A B:Prop} (h1:b=true->A) (h2:b=false->B):if b=true then A else B:=by
 cases b with
 | true=>exact Ar (h1 rfl)
 | false=>exact Ba (h2 rfl)
theorem Ld {xs:YG} {k:Nat}:Eo xs (some (k:Int)) none=xs.drop k:=by
 unfold Eo;rw[HT.Ke,HT.Li];rw[List.take_of_length_le (by rw[Qbh];omega)];by_cases h:k<=xs.length
 ·rw[Nat.min_eq_left h]
 ·rw[Nat.min_eq_right (by omega),List.drop_of_length_le (by omega),List.drop_of_length_le (by omega)]
theorem BW {α : Type} {P:α->Prop} {a:α} {r:List α} (h:P a) (t:∀x∈r,P x):∀x∈a::r,P x:=List.forall_mem_cons.mpr ⟨h,t⟩
theorem bV (w k:Nat):Sl w k .none:=⟨rfl,QbS _,by simp only[Du]⟩
theorem ZK (w k:Nat) (b:Bool):Sl w k (.bool b):=⟨rfl,QbS _,by simp only[Du]⟩
theorem Ij {b p:Addr} {H Hi:Hp} (hb:H b≠none) (s:Same H Hi) (f:Hi p=none):p≠b:=λe=>by
 subst e;cases z:H p with
 | none=>exact hb z
 | some o=>rw[s _ _ z] at f;cases f
theorem ZL {H H':Hp} {p:Addr} (s:Same H H') (f:H' p=none):H p=none:=by
 cases z:H p with
 | none=>rfl
 | some o=>rw[s _ _ z] at f;cases f
def cJ:List PyData:=[.none,.bool true,.bool false,.int 0,.int 1,.int 30,.int 31,.int 99,.int 100,.int (-1),.int (10 ^ (20:Int).toNat),.str "",.str "seeker",.str "opener",.str "abcdefgh",.str "abcdefghi",.str "A",.tuple [],.list [],.tuple [.str "seeker",.int 5],.tuple [.str "opener",.int 0,.tuple []],.tuple [.str "bell",.int 7,.tuple []],.tuple [.int 1],.tuple [.str "a",.tuple [.int 1,.int 2]],.tuple [.str "zone",.tuple [.int 3,.int 2]]]
theorem aK:∀d∈cJ,Sl 30 3 d:=(BW (bV _ _) (BW (ZK _ _ _) (BW (ZK _ _ _) (BW (Cr _ _ _) (BW (Cr _ _ _) (BW (Cr _ _ _) (BW (Cr _ _ _) (BW (Cr _ _ _) (BW (Cr _ _ _) (BW (Cr _ _ _) (BW (Cr _ _ _) (BW (DP (by trivial)) (BW (DP (by trivial)) (BW (DP (by trivial)) (BW (DP (by trivial)) (BW (DP (by trivial)) (BW (DP (by trivial)) (BW (Sl.tup (k:=2) (QaA _) (by decide)) (BW (Sl.lst (k:=2) (QaA _) (by decide)) (BW (Sl.tup (k:=2) (BW (DP (by trivial)) (BW (Cr _ _ _) (QaA _))) (by decide)) (BW (Sl.tup (k:=2) (BW (DP (by trivial)) (BW (Cr _ _ _) (BW (Sl.tup (k:=1) (QaA _) (by decide)) (QaA _)))) (by decide)) (BW (Sl.tup (k:=2) (BW (DP (by trivial)) (BW (Cr _ _ _) (BW (Sl.tup (k:=1) (QaA _) (by decide)) (QaA _)))) (by decide)) (BW (Sl.tup (k:=2) (BW (Cr _ _ _) (QaA _)) (by decide)) (BW (Sl.tup (k:=2) (BW (DP (by trivial)) (BW (Sl.tup (k:=1) (BW (Cr _ _ _) (BW (Cr _ _ _) (QaA _))) (by decide)) (QaA _))) (by decide)) (BW (Sl.tup (k:=2) (BW (DP (by trivial)) (BW (Sl.tup (k:=1) (BW (Cr _ _ _) (BW (Cr _ _ _) (QaA _))) (by decide)) (QaA _))) (by decide)) (QaA _))))))))))))))))))))))))))
def gQ:TE:=λ_ H Q=>∀l xs ds H',H' l=some (.lst xs)->H l=none->Same H H'->(∀b,H b≠none->Bb (hid b H') xs ds)->xs.length=25->(∀d∈ds,Sl 30 3 d)->Q (.ref l) H'
def fu:TE:=fun U H Q=>∃(t:Addr) (xs:YG) (a way:Nat),U[1]?=some (some (.ref t))/\U[2]?=some (some (.int a))/\U[3]?=some (some (.int way))/\H t=some (.tup xs)/\a<=xs.length/\way < 5/\xs.length<=900/\∀p ys H',(H' p=some (.tup ys)\/(H' p=some (.lst ys)/\H p=none))->(∀y∈ys,y∈xs\/y=.ref t)->ys.length<=xs.length+1->Same H H'->Q (.ref p) H'
theorem Oh {H:Hp} {w k:Nat}:∀{ys:YG},(∀y∈ys,∃d,Rep H y d/\Sl w k d)->∃ds,Bb H ys ds/\(∀x∈ds,Sl w k x)/\ds.length=ys.length
 | [],_=>⟨[],.nil,QaA _,rfl⟩
 | y::r,h=>by
  obtain⟨d,h1,h2⟩:=h y (QaH ..);obtain⟨ds,h3,h4,h5⟩:=Oh λz hz=>h z (Qav _ hz);exact⟨d::ds,.cons h1 h3,BW h2 h4,by rw[Qbe,Qbe,h5]⟩
def ZD (k:Nat):Sp:=λvs H Q _=>∃(b:Addr) (v:V) (m w:Nat) (d:PyData),vs=[.ref b,v]/\Bm H b m/\m+3*k<=7000/\Rep (hid b H) v d/\Sl w k d/\30<=w/\w<=800/\k<=20/\∀v' d' H',Rep (hid b H') v' d'->Sl (w+1) (k+3) d'->Bm H' b (m+3*k+6)->Af b H H'->Q v' H'
def Qv (D:Nat):Sp:=λvs H Q E=>∃k,k<=D/\ZD k vs H Q E
section
variable {P:Program} {w:World} {K:YD} {mg:YB} {base:Heap} {kd:Addr}
theorem WM (c:Code K mg "_law_spoilt" JX Fd) (T:Nm mg) (Az:Good P w K mg base "_law_take" 1 El IV):∀k,Good P w K mg base "_law_spoilt" (2+k) Fd (Qv k):=by
 have step:∀(D k':Nat) (sp':Sp),(∀e,e+1<=D->∀vs H Q E,ZD e vs H Q E->sp' vs H Q E)->Good P w K mg base "_law_spoilt" k' Fd sp'->1<=k'->Good P w K mg base "_law_spoilt" (k'+1) Fd (Qv D):=λD k' sp' hsp Iu hk1=>by
  have sc:=Ek;refine c.good Ek (λvs H Q E h=>?_) (λf cdv A outer s H vs Q E hr h=>?_)
  ·obtain⟨k,hkD,b,v,m,w,d,rfl,_⟩:=h;rfl
  obtain⟨k,hkD,b,v,m,w,d,rfl,hb,hm,rd,sl,w30,gK,k20,q⟩:=h;refine⟨_,(@Ag _ _ _ _ _ (BX (PW.pt (Nu (BJ (Ai BP rfl T.isinstance Bh (Aa (pv 1) (Aa (Ce (v:=.ty "tuple") rfl T.tuple BR rfl) Ab)))) (Nu (Br Io (Ai Ay rfl T.len Bx (Aa (pv 1) Ab)) Ac (Bq _)) (Oj (Br Io (Ao (hk:=hk1) Az hr (Aa (pv 0) (Aa Ac Ab))) Ac (Bq _)))))) (@Ag _ _ _ _ _ (@Bj _ _ 2 _ _ _ _ Ek.nd rfl (Or.inl rfl) (Ao (hk:=hk1) Az hr (Aa (pv 0) (Aa (Ai Ay rfl T.len Bx (Aa (pv 1) Ab)) Ab))) (by rfl) (by first | exact .inl rfl | exact .inr rfl))
 (@Ah _ _ _ (Ax (@Av _ _ _ _ _ _ _ _ Em (@Av _ _ _ _ _ _ _ _ Em (Cy Es (pv 1) Dc (CN (pv 2))) (Bo (Aa (Ao (hk:=(QbR _)) Iu hr (Aa (pv 0) (Aa (Bg Bv (pv 1) (pv 2) (λ_ _=>rfl)) Ab))) Ab))) (Cy Es (pv 1) (CN (@Av _ _ _ _ _ _ _ _ BL (pv 2) Ac)) Dc))))) Bs)
 (@Ag _ _ _ _ _ (@Bj _ _ 3 _ _ _ _ Ek.nd rfl (Or.inl rfl) (Ao (hk:=hk1) Az hr (Aa (pv 0) (Aa Ac Ab))) (by rfl) (by first | exact .inl rfl | exact .inr rfl))
 (@Ag _ _ _ _ _ (BX (PW.pt (Nu (BJ (Ai BP rfl T.isinstance Bh (Aa (pv 1) (Aa (Ce (v:=.ty "tuple") rfl T.tuple BR rfl) Ab)))) (Oj (Br Kf (pv 3) Ac (Bq _))))) (@Ag _ _ _ _ _ (@Bj _ _ 2 _ _ _ _ Ek.nd rfl (Or.inl rfl) (Ao (hk:=hk1) Az hr (Aa (pv 0) (Aa (@Av _ _ _ _ _ _ _ _ BL (Ai Ay rfl T.len Bx (Aa (pv 1) Ab)) Ac) Ab))) (by rfl) (by first | exact .inl rfl | exact .inr rfl))
 (@Ah _ _ _ (Ax (PE.weak (ta':=fu) (Bg Cj (@Ca _ _ _ _ (@Aa _ _ _ _ _ (@Av _ _ _ _ _ _ _ _ Em (Cy Es (pv 1) Dc (CN (pv 2))) (Cy Es (pv 1) (CN (@Av _ _ _ _ _ _ _ _ BL (pv 2) Ac)) Dc)) (@Aa _ _ _ _ _ (@Av _ _ _ _ _ _ _ _ Em (Cy Es (pv 1) Dc (CN (pv 2))) (Cy Es (pv 1) (CN (Ai (P0 rfl) rfl T.max N8 (Aa Ac (Aa (@Av _ _ _ _ _ _ _ _ Nx (pv 2) Ac) Ab)))) Dc)) (@Aa _ _ _ _ _ (CQ Sw rfl T.list bf (Aa (pv 1) Ab)) (@Aa _ _ _ _ _ (Wz (pv 1) (CN (Qx Nk Ac))) (@Aa _ _ _ _ _ (@Av _ _ _ _ _ _ _ _ Em (pv 1) (Bo (Aa (pv 1) Ab))) (@Ab _) Np) Wj) Z6) Np) Np)) (pv 3) (λ_ _=>rfl)) (fun U H Q h=>by
    obtain⟨t,xs,a,way,e1,e2,e3,ht,ha,hw,hx,q⟩:=h;refine⟨_,e1,_,e2,_,rj,t,_,rj,ht,λp1 H1 c1 s1=>⟨_,e1,_,e2,_,_,rj,rj,_,rj,t,_,rj,s1 _ _ ht,λp2 H2 c2 s2=>?_⟩⟩;rw[Lb (by omega)] at c1;rw[show ((a:Int)+1)=((a+1:Nat):Int) by omega,Ld] at c2;have z2:=s1.trans s2;refine⟨p1,p2,_,_,rj,rj,s2 _ _ c1,c2,Al (by rw[Qbd,Qbh];show _+_<=1000;omega),λp3 H3 c3 s3=>?_⟩;have z3:=z2.trans s3;refine⟨_,e1,_,e2,_,rj,t,_,rj,z3 _ _ ht,λp4 H4 c4 s4=>⟨_,e1,_,e2,_,_,rj,rj,_,_,rj,_,rj,t,_,rj,s4 _ _ (z3 _ _ ht),λp5 H5 c5 s5=>?_⟩⟩;rw[Lb (by omega)] at c4;rw[show (if (a:Int) - 1 > 0 then (a:Int) - 1 else 0)=((a - 1:Nat):Int) by split <;> omega,Ld] at c5
    have s35:=s4.trans s5;refine⟨p4,p5,_,_,rj,rj,s5 _ _ c4,c5,Al (by rw[Qbd,Qbh];show _+_<=1000;omega),λp6 H6 c6 s6=>?_⟩;have s36:=s35.trans s6;have z6:=z3.trans s36;refine⟨_,e1,t,_,rj,.inr (SqT.of (z6 _ _ ht)),λl7 f7=>?_⟩;have s7:=Ae f7 (.lst xs);have c7:(upd H6 l7 (.lst xs)) l7=some (.lst xs):=Ad;generalize upd H6 l7 (.lst xs)=H7 at *;have z7:=z6.trans s7;refine⟨_,e1,_,rj,_,rj,rj,t,_,rj,SqT.of (z7 _ _ ht),λp8 f8=>?_⟩;have s8:=Ae f8 (.tup xs.reverse);have c8:(upd H7 p8 (.tup xs.reverse)) p8=some (.tup xs.reverse):=Ad;generalize upd H7 p8 (.tup xs.reverse)=H8 at *;have z8:=z7.trans s8;refine⟨_,e1,_,e1,Al (by show 1<=1000;decide),λp9 f9=>?_⟩;have s9:=Ae f9 (.tup [.ref t]);have c9:(upd H8 p9 (.tup [.ref t])) p9=some (.tup [.ref t]):=Ad;generalize upd H8 p9 (.tup [.ref t])=H9 at *;have z9:=z8.trans s9;refine⟨t,p9,_,_,rj,rj,z9 _ _ ht,c9,Al (by show _+1<=1000;omega),λp10 H10 c10 s10=>?_⟩;have z10:=z9.trans s10;refine⟨Al (by show 5<=1000;decide),λl f=>?_⟩;have s11:=Ae f (.lst [.ref p3,.ref p6,.ref l7,.ref p8,.ref p10]);have c11:(upd H10 l (.lst [.ref p3,.ref p6,.ref l7,.ref p8,.ref p10])) l=some (.lst [.ref p3,.ref p6,.ref l7,.ref p8,.ref p10]):=Ad;generalize upd H10 l (.lst [.ref p3,.ref p6,.ref l7,.ref p8,.ref p10])=H11 at *;have z11:=z10.trans s11;have key:∃v,atI [V.ref p3,.ref p6,.ref l7,.ref p8,.ref p10] (way:Int)=some v/\Q v H11:=by
     have:way=0\/way=1\/way=2\/way=3\/way=4:=by omega
     rcases this with rfl | rfl | rfl | rfl | rfl
     ·exact⟨_,rj,q p3 _ H11 (.inl (s11 _ _ (s10 _ _ (s9 _ _ (s8 _ _ (s7 _ _ (s36 _ _ c3))))))) (λy hy=>.inl ((Qbm.mp hy).elim Qay List.mem_of_mem_drop)) (by rw[QaF,Qbd,Qbh];omega) z11⟩
     ·exact⟨_,rj,q p6 _ H11 (.inl (s11 _ _ (s10 _ _ (s9 _ _ (s8 _ _ (s7 _ _ c6)))))) (λy hy=>.inl ((Qbm.mp hy).elim Qay List.mem_of_mem_drop)) (by rw[QaF,Qbd,Qbh];omega) z11⟩
     ·exact⟨_,rj,q l7 _ H11 (.inr ⟨s11 _ _ (s10 _ _ (s9 _ _ (s8 _ _ c7))),ZL z6 f7⟩) (λy hy=>.inl hy) (by omega) z11⟩
     ·exact⟨_,rj,q p8 _ H11 (.inl (s11 _ _ (s10 _ _ (s9 _ _ c8)))) (λy hy=>.inl (List.mem_reverse.mp hy)) (by rw[List.length_reverse];omega) z11⟩
     ·exact⟨_,rj,q p10 _ H11 (.inl (s11 _ _ c10)) (λy hy=>(Qbm.mp hy).elim .inl (λz=>.inr (by simpa using z))) (by rw[QaF];exact QbR _) z11⟩
    obtain⟨v,hv,qv⟩:=key;exact⟨_,e3,l,_,_,_,rj,rj,SqL.of c11,hv,qv⟩))))) Bs)
 (@Ag _ _ _ _ _ (@Bj _ _ 4 _ _ _ _ Ek.nd rfl (Or.inl rfl) (PE.weak (ta':=gQ) (@Ca _ _ _ _ (@Aa _ _ _ _ _ cD (@Aa _ _ _ _ _ CJ (@Aa _ _ _ _ _ CJ (@Aa _ _ _ _ _ (@Ac _ _ _ _) (@Aa _ _ _ _ _ (@Ac _ _ _ _) (@Aa _ _ _ _ _ (@Ac _ _ _ _) (@Aa _ _ _ _ _ (@Ac _ _ _ _) (@Aa _ _ _ _ _ (@Ac _ _ _ _) (@Aa _ _ _ _ _ (@Ac _ _ _ _) (@Aa _ _ _ _ _ (Qx Nk Ac) (@Aa _ _ _ _ _ (@Av _ _ _ _ _ _ _ _ Rj Ac Ac) (@Aa _ _ _ _ _ (@Bp _ _ _ _) (@Aa _ _ _ _ _ (@Bp _ _ _ _) (@Aa _ _ _ _ _ (@Bp _ _ _ _) (@Aa _ _ _ _ _ (@Bp _ _ _ _) (@Aa _ _ _ _ _ (@Bp _ _ _ _) (@Aa _ _ _ _ _ (@Bp _ _ _ _) (@Aa _ _ _ _ _ (Bo Ab) (@Aa _ _ _ _ _ (Ca Ab) (@Aa _ _ _ _ _ (Bo (Aa Bp (Aa Ac Ab))) (@Aa _ _ _ _ _ (Bo (Aa Bp (Aa Ac (Aa (Bo Ab) Ab)))) (@Aa _ _ _ _ _ (Bo (Aa Bp (Aa Ac (Aa (Bo Ab) Ab)))) (@Aa _ _ _ _ _ (Bo (Aa Ac Ab)) (@Aa _ _ _ _ _ (Bo (Aa Bp (Aa (Bo (Aa Ac (Aa Ac Ab))) Ab))) (@Aa _ _ _ _ _ (Bo (Aa Bp (Aa (Bo (Aa Ac (Aa Ac Ab))) Ab))) (@Ab _) IK) IK) IK) IK) IK) IK) bO) IK) Am) Am) Am) Am) Am) Am) Np) fD) Am) Am) Am) Am) Am) Am) Am) Am) Am)) (fun U H Q h=>by
    have z0:Same H H:=Same.refl _;refine⟨_,rj,_,_,rj,rj,⟨by decide,by decide,by decide⟩,?_⟩;refine⟨Al (by show 0<=1000;decide),λp1 hp1=>?_⟩;have s1:=Ae hp1 (.tup []);have fp1:(upd H p1 (.tup [])) p1=some (.tup []):=Ad;generalize upd H p1 (.tup [])=H1 at *;have z1:Same H H1:=z0.trans s1;refine⟨Al (by show 0<=1000;decide),λp2 hp2=>?_⟩;have s2:=Ae hp2 (.lst []);have fp2:(upd H1 p2 (.lst [])) p2=some (.lst []):=Ad;generalize upd H1 p2 (.lst [])=H2 at *;have z2:Same H H2:=z1.trans s2;refine⟨Al (by show 2<=1000;decide),λp3 hp3=>?_⟩;have s3:=Ae hp3 (.tup [.str "seeker",.int 5]);have fp3:(upd H2 p3 (.tup [.str "seeker",.int 5])) p3=some (.tup [.str "seeker",.int 5]):=Ad;generalize upd H2 p3 (.tup [.str "seeker",.int 5])=H3 at *;have z3:Same H H3:=z2.trans s3;refine⟨Al (by show 0<=1000;decide),λp4 hp4=>?_⟩;have s4:=Ae hp4 (.tup []);have fp4:(upd H3 p4 (.tup [])) p4=some (.tup []):=Ad;generalize upd H3 p4 (.tup [])=H4 at *;have z4:Same H H4:=z3.trans s4;refine⟨Al (by show 3<=1000;decide),λp5 hp5=>?_⟩;have s5:=Ae hp5 (.tup [.str "opener",.int 0,.ref p4]);have fp5:(upd H4 p5 (.tup [.str "opener",.int 0,.ref p4])) p5=some (.tup [.str "opener",.int 0,.ref p4]):=Ad;generalize upd H4 p5 (.tup [.str "opener",.int 0,.ref p4])=H5 at *;have z5:Same H H5:=z4.trans s5;refine⟨Al (by show 0<=1000;decide),λp6 hp6=>?_⟩;have s6:=Ae hp6 (.tup []);have fp6:(upd H5 p6 (.tup [])) p6=some (.tup []):=Ad;generalize upd H5 p6 (.tup [])=H6 at *;have z6:Same H H6:=z5.trans s6;refine⟨Al (by show 3<=1000;decide),λp7 hp7=>?_⟩;have s7:=Ae hp7 (.tup [.str "bell",.int 7,.ref p6]);have fp7:(upd H6 p7 (.tup [.str "bell",.int 7,.ref p6])) p7=some (.tup [.str "bell",.int 7,.ref p6]):=Ad;generalize upd H6 p7 (.tup [.str "bell",.int 7,.ref p6])=H7 at *;have z7:Same H H7:=z6.trans s7;refine⟨Al (by show 1<=1000;decide),λp8 hp8=>?_⟩;have s8:=Ae hp8 (.tup [.int 1]);have fp8:(upd H7 p8 (.tup [.int 1])) p8=some (.tup [.int 1]):=Ad;generalize upd H7 p8 (.tup [.int 1])=H8 at *;have z8:Same H H8:=z7.trans s8;refine⟨Al (by show 2<=1000;decide),λp9 hp9=>?_⟩;have s9:=Ae hp9 (.tup [.int 1,.int 2]);have fp9:(upd H8 p9 (.tup [.int 1,.int 2])) p9=some (.tup [.int 1,.int 2]):=Ad;generalize upd H8 p9 (.tup [.int 1,.int 2])=H9 at *;have z9:Same H H9:=z8.trans s9;refine⟨Al (by show 2<=1000;decide),λp10 dD=>?_⟩;have s10:=Ae dD (.tup [.str "a",.ref p9]);have lR:(upd H9 p10 (.tup [.str "a",.ref p9])) p10=some (.tup [.str "a",.ref p9]):=Ad;generalize upd H9 p10 (.tup [.str "a",.ref p9])=H10 at *;have z10:Same H H10:=z9.trans s10;refine⟨Al (by show 2<=1000;decide),λp11 dB=>?_⟩;have s11:=Ae dB (.tup [.int 3,.int 2]);have lQ:(upd H10 p11 (.tup [.int 3,.int 2])) p11=some (.tup [.int 3,.int 2]):=Ad;generalize upd H10 p11 (.tup [.int 3,.int 2])=H11 at *;have z11:Same H H11:=z10.trans s11;refine⟨Al (by show 2<=1000;decide),λp12 dw=>?_⟩;have s12:=Ae dw (.tup [.str "zone",.ref p11]);have lO:(upd H11 p12 (.tup [.str "zone",.ref p11])) p12=some (.tup [.str "zone",.ref p11]):=Ad;generalize upd H11 p12 (.tup [.str "zone",.ref p11])=H12 at *;have z12:Same H H12:=z11.trans s12;refine⟨Al (by show 25<=1000;decide),λl hl=>?_⟩;have s13:=Ae hl (.lst [.non,.bl true,.bl false,.int 0,.int 1,.int 30,.int 31,.int 99,.int 100,.int (-1),.int (10 ^ (20:Int).toNat),.str "",.str "seeker",.str "opener",.str "abcdefgh",.str "abcdefghi",.str "A",.ref p1,.ref p2,.ref p3,.ref p5,.ref p7,.ref p8,.ref p10,.ref p12]);have fl:(upd H12 l (.lst [.non,.bl true,.bl false,.int 0,.int 1,.int 30,.int 31,.int 99,.int 100,.int (-1),.int (10 ^ (20:Int).toNat),.str "",.str "seeker",.str "opener",.str "abcdefgh",.str "abcdefghi",.str "A",.ref p1,.ref p2,.ref p3,.ref p5,.ref p7,.ref p8,.ref p10,.ref p12])) l=some (.lst [.non,.bl true,.bl false,.int 0,.int 1,.int 30,.int 31,.int 99,.int 100,.int (-1),.int (10 ^ (20:Int).toNat),.str "",.str "seeker",.str "opener",.str "abcdefgh",.str "abcdefghi",.str "A",.ref p1,.ref p2,.ref p3,.ref p5,.ref p7,.ref p8,.ref p10,.ref p12]):=Ad;generalize upd H12 l (.lst [.non,.bl true,.bl false,.int 0,.int 1,.int 30,.int 31,.int 99,.int 100,.int (-1),.int (10 ^ (20:Int).toNat),.str "",.str "seeker",.str "opener",.str "abcdefgh",.str "abcdefghi",.str "A",.ref p1,.ref p2,.ref p3,.ref p5,.ref p7,.ref p8,.ref p10,.ref p12])=H13 at *;have z13:Same H H13:=z12.trans s13;exact h l _ cJ _ fl (ZL z12 hl) z13 (λb hB=>(.cons .non (.cons (.bl _) (.cons (.bl _) (.cons (.int _) (.cons (.int _) (.cons (.int _) (.cons (.int _) (.cons (.int _) (.cons (.int _) (.cons (.int _) (.cons (.int _) (.cons (.str _) (.cons (.str _) (.cons (.str _) (.cons (.str _) (.cons (.str _) (.cons (.str _) (.cons (.tup (CP (Ij hB z0 hp1) (s13 _ _ (s12 _ _ (s11 _ _ (s10 _ _ (s9 _ _ (s8 _ _ (s7 _ _ (s6 _ _ (s5 _ _ (s4 _ _ (s3 _ _ (s2 _ _ fp1))))))))))))) .nil) (.cons (.lst (CP (Ij hB z1 hp2) (s13 _ _ (s12 _ _ (s11 _ _ (s10 _ _ (s9 _ _ (s8 _ _ (s7 _ _ (s6 _ _ (s5 _ _ (s4 _ _ (s3 _ _ fp2)))))))))))) .nil) (.cons (.tup (CP (Ij hB z2 hp3) (s13 _ _ (s12 _ _ (s11 _ _ (s10 _ _ (s9 _ _ (s8 _ _ (s7 _ _ (s6 _ _ (s5 _ _ (s4 _ _ fp3))))))))))) (.cons (.str _) (.cons (.int _) .nil))) (.cons (.tup (CP (Ij hB z4 hp5) (s13 _ _ (s12 _ _ (s11 _ _ (s10 _ _ (s9 _ _ (s8 _ _ (s7 _ _ (s6 _ _ fp5))))))))) (.cons (.str _) (.cons (.int _) (.cons (.tup (CP (Ij hB z3 hp4) (s13 _ _ (s12 _ _ (s11 _ _ (s10 _ _ (s9 _ _ (s8 _ _ (s7 _ _ (s6 _ _ (s5 _ _ fp4)))))))))) .nil) .nil)))) (.cons (.tup (CP (Ij hB z6 hp7) (s13 _ _ (s12 _ _ (s11 _ _ (s10 _ _ (s9 _ _ (s8 _ _ fp7))))))) (.cons (.str _) (.cons (.int _) (.cons (.tup (CP (Ij hB z5 hp6) (s13 _ _ (s12 _ _ (s11 _ _ (s10 _ _ (s9 _ _ (s8 _ _ (s7 _ _ fp6)))))))) .nil) .nil)))) (.cons (.tup (CP (Ij hB z7 hp8) (s13 _ _ (s12 _ _ (s11 _ _ (s10 _ _ (s9 _ _ fp8)))))) (.cons (.int _) .nil)) (.cons (.tup (CP (Ij hB z9 dD) (s13 _ _ (s12 _ _ (s11 _ _ lR)))) (.cons (.str _) (.cons (.tup (CP (Ij hB z8 hp9) (s13 _ _ (s12 _ _ (s11 _ _ (s10 _ _ fp9))))) (.cons (.int _) (.cons (.int _) .nil))) .nil))) (.cons (.tup (CP (Ij hB z11 dw) (s13 _ _ lO)) (.cons (.str _) (.cons (.tup (CP (Ij hB z10 dB) (s13 _ _ (s12 _ _ lQ))) (.cons (.int _) (.cons (.int _) .nil))) .nil))) .nil)))))))))))))))))))))))))) rfl aK)) (by rfl) (by first | exact .inl rfl | exact .inr rfl))
 (@Ah _ _ _ (Ax (Bg Cj (pv 4) (Ao (hk:=hk1) Az hr (Aa (pv 0) (Aa Ac Ab))) (λ_ _=>rfl)))))))),?_⟩
  show let R0:TS:=_;let R1:TS:=Aq _ R0;let R2:TS:=_;let R3:TS:=Aq _ R2;let R4:TS:=Aq (GX _ R3 _) R1;let R5:TS:=Aq _ R4;let R6:TS:=_;let R7:TS:=Aq _ R6;Aq (GX _ R7 _) R5 _ _ _;intro R0 R1 R2 R3 R4 R5 R6 R7;refine Mp (fun σ' H'=>σ'=[jp b,some v,none,none,none]/\Af b H H'/\Bm H' b (m+1)) (fun σ' H1 hP=>?_) (λhR=>?_)
  ·obtain⟨rfl,sb1,hb1⟩:=hP;refine⟨_,rj,b,_,8,rj,hb1,by omega,by decide,by decide,λway H2 w0 w1 hb2 sb2=>?_⟩;have s02:=sb1.trans sb2;obtain⟨wn,rfl⟩:=Qao w0;have rd2:Rep (hid b H2) v d:=Rep.same (CK s02) rd;refine Y7 ?_;dsimp only;show Aq (GX _ _ _) _ _ _ _;refine Mp (fun σ' H'=>σ'=[jp b,some v,none,some (.int (wn:Int)),none]/\H'=H2) (fun σ' H3 hP=>?_) (λhR=>?_)
   ·obtain⟨rfl,rfl⟩:=hP;refine λl xs ds H4 hl fl s4 rr lx hs=>?_;have hbe:H3 b≠none:=by obtain⟨o,e⟩:=hb2.ex;rw[e];exact λz=>by cases z
    have hb4:=hb2.same s4;refine⟨_,rj,_,rj,b,_,25,rj,hb4,by omega,by decide,by decide,λr H5 r0 r1 hb5 sb5=>?_⟩;obtain⟨rn,rfl⟩:=Qao r0;have hxa:xs[rn]?=some xs[rn]:=Qai (by omega);obtain⟨dx,hdx,rx⟩:=Bb.at_ (rr b hbe) hxa;have nl:l≠b:=(hb2.nb fl).symm;refine⟨l,_,_,_,rj,rj,SqL.of (sb5 _ _ hl nl),Fq hxa,?_⟩;exact q _ dx H5 (Rep.same (CK sb5) rx) ((hs dx (Qau hdx)).mono (by omega) (by omega)) (hb5.mono (by omega)) (s02.trans ((Af.of s4).trans sb5))
   ·have rH:=Rep.same Eu rd2;refine⟨_,rj,CT rH.kn ⟨_,rj,?_⟩⟩;rcases Iw rd2 with⟨t,xs,ds,rfl,rfl,ht,rs,et⟩|⟨et,hn⟩
    ·have htH:=Eu _ _ ht;rw[Ej htH];have lx:=Bb.len rs;have lw:=sl.len;refine Ar ⟨_,rj,_,_,rj,rj,_,rj,RM (λh5=>?_) (λ_=>hR _ _ ⟨rj,rj⟩)⟩;have h5:(wn:Int) < 5:=QaU h5;refine⟨_,rj,_,rj,t,_,rj,.inr (SqT.of htH),_,_,rj,rj,b,_,_,rj,hb2,by omega,by omega,by omega,λr H3 r0 r1 hb3 sb3=>?_⟩;obtain⟨rn,rfl⟩:=Qao r0;have s03:=s02.trans sb3;have ht3:=CK sb3 _ _ ht;refine⟨t,xs,rn,wn,rj,rj,rj,Eu _ _ ht3,by omega,by omega,by omega,λp ys H4 hp hy ly s4=>?_⟩;have s04:=s03.trans (Af.of s4);have s24:=sb3.trans (Af.of s4);have hb4:=hb3.same s4;have np:p≠b:=by
      rcases hp with hp |⟨_,hp⟩
      ·exact λe=>hb4.DW _ (by rw[<-e];exact hp)
      ·exact (hb3.nb hp).symm
     obtain⟨es,re,se,le⟩:=Oh (H:=hid b H4) (w:=w) (k:=k) (ys:=ys) (λy hy'=>by
      rcases hy y hy' with z | z
      ·obtain⟨i,hi,ei⟩:=List.getElem_of_mem z;obtain⟨dx,hdx,rx⟩:=Bb.at_ rs (i:=i) (x:=y) (by rw[Qai hi,ei]);obtain⟨e,rfl⟩ : ∃e,k=e+1:=⟨k - 1,by have:=sl.dep;have:PyData.depthAll ds+1<=k:=this;omega⟩;exact⟨dx,Rep.same (CK s24) rx,(sl.item (Qau hdx)).mono (by omega) (by omega)⟩
      ·subst z;exact⟨_,Rep.same (CK s24) rd2,sl⟩)
     rcases hp with hp |⟨hp,_⟩
     ·exact q _ (.tuple es) H4 (.tup (CP np hp) re) ((Sl.tup (k:=k) (w:=w+1) (λx hx=>(se x hx).mono (by omega) (by omega)) (by omega)).mono (by omega) (by omega)) (hb4.mono (by omega)) s04
     ·exact q _ (.list es) H4 (.lst (CP np hp) re) ((Sl.lst (k:=k) (w:=w+1) (λx hx=>(se x hx).mono (by omega) (by omega)) (by omega)).mono (by omega) (by omega)) (hb4.mono (by omega)) s04
    ·have et':GQ H2 v=none:=by
      cases rd2 with
      | tup e _=>exact absurd rfl (hn _)
      | lst e _=>exact Dv (Eu _ _ e)
      | _=>rfl
     rw[et'];exact Ba (hR _ _ ⟨rj,rj⟩)
  ·have rH:=Rep.same Eu rd;refine⟨_,rj,CT rH.kn ⟨_,rj,?_⟩⟩;rcases Iw rd with⟨t,xs,ds,rfl,rfl,ht,rs,et⟩|⟨et,hn⟩
   ·have htH:=Eu _ _ ht;rw[Ej htH];have lx:=Bb.len rs;refine Ar ⟨_,rj,t,_,rj,.inr (SqT.of htH),_,_,rj,rj,_,rj,RM (λh0=>?_) (λh0=>?_)⟩
    ·have h0:(0:Int) < (xs.length:Int):=QaU h0;have lw:=sl.len;refine⟨_,rj,b,m,5,rj,hb,by omega,by decide,by decide,λr H1 r0 r1 hb1 sb1=>⟨_,_,rj,rj,_,rj,RM (λ_=>?_) (λ_=>?_)⟩⟩
     ·obtain⟨e,rfl⟩ : ∃e,k=e+1:=⟨k - 1,by have:=sl.dep;have:PyData.depthAll ds+1<=k:=this;omega⟩;have ht1:=CK sb1 _ _ ht;have jU:=Eu _ _ ht1;refine⟨_,rj,_,rj,t,_,rj,.inr (SqT.of jU),b,_,_,rj,hb1,by omega,h0,by omega,λr2 H2 r20 r21 hb2 sb2=>?_⟩;obtain⟨a2,ea⟩ : ∃j:Nat,r2=j:=⟨r2.toNat,by omega⟩;subst ea;have s02:=sb1.trans sb2;have ht2:=CK s02 _ _ ht;have dj:=Eu _ _ ht2;have hxa:xs[a2]?=some xs[a2]:=Qai (by omega);obtain⟨dx,hdx,rx⟩:=Bb.at_ rs hxa;refine⟨_,rj,_,rj,_,rj,t,_,rj,dj,λp3 H3 hp3 s3=>?_⟩;rw[Lb (by omega)] at hp3;have s03:=s02.trans (Af.of s3);refine⟨_,rj,_,rj,_,rj,t,_,_,_,rj,rj,SqT.of (s3 _ _ dj),Fq hxa,hsp e hkD _ _ _ _ ⟨b,xs[a2],_,w,dx,rj,hb2.same s3,by omega,Rep.same (CK s03) rx,sl.item (Qau hdx),w30,gK,by omega,λv' d' H4 rv' sl' hb4 sb4=>?_⟩⟩;have s34:=s03.trans sb4;have jV:H4 p3=some (.tup (xs.take a2)):=(sb4.tup (hb2.same s3).DW) _ _ hp3;refine⟨(by show 1<=sizeLine;decide),λp5 hp5=>?_⟩;have k5:=Ae hp5 (.tup [v']);refine⟨p3,p5,_,_,rj,rj,k5 _ _ jV,Ad,Al (by rw[Qbd];show _+1<=1000;omega),λp6 H6 hp6 k6=>?_⟩;have k56:=k5.trans k6;have s36:=s34.trans (Af.of k56);have jT:=Eu _ _ (CK s36 _ _ ht);refine⟨_,rj,_,rj,_,_,rj,rj,_,rj,t,_,rj,jT,λp7 H7 hp7 k7=>?_⟩;rw[show ((a2:Int)+1)=((a2+1:Nat):Int) by omega,Ld] at hp7;refine⟨p6,p7,_,_,rj,rj,k7 _ _ hp6,hp7,Al (by rw[QaF,Qbd,Qbh];show _+1+_<=1000;omega),λp8 H8 hp8 k8=>?_⟩;have k58:=k56.trans (k7.trans k8);have s08:=s34.trans (Af.of k58);have hb8:=hb4.same k58;have np:p8≠b:=λe=>hb8.DW _ (by rw[<-e];exact hp8);have pr:Paired (Rep (hid b H8)) (xs.take a2++[v']++xs.drop (a2+1)) (ds.take a2++[d']++ds.drop (a2+1)):=
       Paired.app (Paired.app (Paired.U6 a2 (Paired.Df (Bb.pair rs) λ_ _ z=>Rep.same (CK s08) z)) (.cons (Rep.same (CK (Af.of k58)) rv') .nil)) (Paired.VD (a2+1) (Paired.Df (Bb.pair rs) λ_ _ z=>Rep.same (CK s08) z))
      refine q _ (.tuple (ds.take a2++[d']++ds.drop (a2+1))) _ (.tup (CP np hp8) (Bb.mk pr)) (Sl.tup (k:=e+3) (λx hx=>?_) ?_) (hb8.mono (by omega)) s08
      ·rcases Qbm.mp hx with z | z
       ·rcases Qbm.mp z with z | z
        ·exact (sl.item (Qay z)).mono (by omega) (by omega)
        ·rw[show x=d' by simpa using z];exact sl'.mono (by omega) (by omega)
       ·exact (sl.item (List.mem_of_mem_drop z)).mono (by omega) (by omega)
      ·rw[QaF,QaF,Qbd,Qbh];show _+1+_<=w+1;omega
     ·exact hR _ _ ⟨rj,sb1,hb1⟩
    ·exact hR _ _ ⟨rj,Af.refl b H,hb.mono (by omega)⟩
   ·have et':GQ H v=none:=by
     cases rd with
     | tup e _=>exact absurd rfl (hn _)
     | lst e _=>exact Dv (Eu _ _ e)
     | _=>rfl
    rw[et'];exact Ba (hR _ _ ⟨rj,Af.refl b H,hb.mono (by omega)⟩)
 intro k
 induction k with
 | zero=>exact step 0 1 (λ_ _ _ _=>False) (λe he=>absurd he (by omega)) (c.good Ek (λvs H Q E h=>h.elim) (λf cdv A outer s H vs Q E hr h=>h.elim)) (QbR _)
 | succ e ih=>exact step (e+1) (2+e) (Qv e) (λd hd vs H Q E h=>⟨d,by omega,h⟩) ih (by omega)
end
abbrev Ka:Stmt:=top 29
abbrev Jh:YF:=["_law_bag_here"]
abbrev xw:YF:=["_law_bag_here","_law_many","_law_loops","_law_size","_law_some","_law_way","_law_zones"]
theorem Ey:Bk xw Jh (Aj Ka):=by ac_rfl
theorem Qt {X:Cx} {K:YD} (h:X.K=K):Ea X (.builtin "len") (λxs H Q=>∃p ys,xs=[.ref p]/\(SqL K H p ys\/SqT K H p ys)/\Q (.int ys.length) H):=h ▸ Ay
theorem O7 {X:Cx} {K:YD} (h:X.K=K):Ea X (.type "tuple") (λxs H Q=>∃p ys,xs=[.ref p]/\((SqL K H p ys/\∀l,H l=none->Q (.ref l) (upd H l (.tup ys)))\/(SqT K H p ys/\Q (.ref p) H))):=h ▸ Cv
def onl (H:Hp):Hp:=λa=>match H a with
 | some (.tup xs)=>some (.tup xs)
 | _=>none
theorem Uh {H:Hp} {a:Addr} {xs:YG} (h:H a=some (.tup xs)):onl H a=some (.tup xs):=by unfold onl;rw[h]
theorem Ui {H:Hp} {a:Addr} {o:HO} (h:onl H a=some o):∃xs,o=.tup xs/\H a=some (.tup xs):=by
 unfold onl at h;split at h
 ·rename_i xs e;cases h;exact⟨xs,rj,e⟩
 ·cases h
theorem Yv {H H':Hp} (s:Bf H H'):Same (onl H) (onl H'):=λa o e=>by
 obtain⟨xs,rfl,h⟩:=Ui e;exact Uh (s _ _ h)
theorem aC {H:Hp} {b:Addr} {n:Nat} (hb:Bm H b n):Same (onl H) (hid b H):=λa o e=>by
 obtain⟨xs,rfl,h⟩:=Ui e;exact RN hb _ _ h
def Tv (H:Hp) (k:Nat) (v:V):Prop:=∃d,Rep (onl H) v d/\Sl 40 k d
theorem Tv.tups {H H':Hp} {k:Nat} {v:V} (s:Bf H H') (h:Tv H k v):Tv H' k v:=by
 obtain⟨d,h1,h2⟩:=h;exact⟨d,Rep.same (Yv s) h1,h2⟩
theorem Tv.mk {H:Hp} {k:Nat} {t:Addr} {xs:YG} (h:H t=some (.tup xs)) (hx:∀x∈xs,Tv H k x) (l:xs.length<=40):Tv H (k+1) (.ref t):=by
 obtain⟨ds,r,s,e⟩:=Oh hx;exact⟨.tuple ds,.tup (Uh h) r,Sl.tup s (by omega)⟩
theorem Tv.int (H:Hp) (k:Nat) (i:Int):Tv H k (.int i):=⟨_,.int i,Cr _ _ _⟩
theorem Tv.kind {H:Hp} {k:Nat} {z:Str} (h:Et z):Tv H k (.str z):=⟨_,.str z,(DP (Mx h)).mono (by decide) (QbR _)⟩
theorem Tv.name {H:Hp} {k:Nat} {z:Str} (h:okS z) (l:z.length<=8):Tv H k (.str z):=⟨_,.str z,(T7 h l).mono (by decide) (QbR _)⟩
theorem Tv.up {H:Hp} {k k':Nat} {v:V} (h:Tv H k v) (l:k<=k'):Tv H k' v:=by
 obtain⟨d,h1,h2⟩:=h;exact⟨d,h1,h2.mono (QbR _) l⟩
def Wq:Sp:=λvs H Q _=>∃(b:Addr) (n:Nat),vs=[.ref b]/\Bm H b n/\n<=1000/\∀t d H',Rep (hid b H') (.ref t) d->Sl 40 6 d->Bm H' b (n+3000)->Af b H H'->Q (.ref t) H'
def eU (b L:Addr) (A:Nat->Addr) (H:Hp) (n m:Nat) (U : St) (HH:Hp):Prop:=∃(u3 u4 u5:Option V) (X:Nat->YG),U=[jp b,some (.int (m:Int)),jp L,u3,u4,u5,none]/\HH L=some (.lst [.ref (A 0),.ref (A 1),.ref (A 2)])/\(∀i,i < 3->HH (A i)=some (.lst (X i))/\∀x∈X i,Tv HH 3 x)/\(X 0).length+(X 1).length+(X 2).length+m<=32/\Bm HH b (n+1+3*(32 - m))/\Af b H HH
theorem at8 {i:Int} (h0:0<=i) (h8:i < 8):∃p:Nat,atI [V.int 0,.int 1,.int 2,.int 3,.int 3,.int 3,.int 3,.int 4] i=some (.int p)/\p<=4:=by
 have:i=0\/i=1\/i=2\/i=3\/i=4\/i=5\/i=6\/i=7:=by omega
 rcases this with rfl | rfl | rfl | rfl | rfl | rfl | rfl | rfl
 ·exact⟨0,rj,by decide⟩
 ·exact⟨1,rj,by decide⟩
 ·exact⟨2,rj,by decide⟩
 ·exact⟨3,rj,by decide⟩
 ·exact⟨3,rj,by decide⟩
 ·exact⟨3,rj,by decide⟩
 ·exact⟨3,rj,by decide⟩
 ·exact⟨4,rj,by decide⟩
theorem m6 {i:Int} (h0:0<=i) (h4:i < 4):∃p:Nat,atI [V.int 0,.int 7,.int 8,.int 9] i=some (.int p)/\p<=9:=by
 have:i=0\/i=1\/i=2\/i=3:=by omega
 rcases this with rfl | rfl | rfl | rfl
 ·exact⟨0,rj,by decide⟩
 ·exact⟨7,rj,by decide⟩
 ·exact⟨8,rj,by decide⟩
 ·exact⟨9,rj,by decide⟩
theorem at3 (A:Nat->Addr) {i:Nat} (h:i < 3):atI [V.ref (A 0),.ref (A 1),.ref (A 2)] (i:Int)=some (.ref (A i)):=by
 have:i=0\/i=1\/i=2:=by omega
 rcases this with rfl | rfl | rfl <;> rfl
theorem gY {X:Nat->YG} {j:Nat} (hj:j < 3) (v:V):let Y:=λi=>if i=j then X i++[v] else X i
  (Y 0).length+(Y 1).length+(Y 2).length=(X 0).length+(X 1).length+(X 2).length+1:=by
 have:j=0\/j=1\/j=2:=by omega
 rcases this with rfl | rfl | rfl <;> simp <;> omega
section
variable {P:Program} {w:World} {K:YD} {mg:YB} {base:Heap}
abbrev xx:YF:=["_law_name_here","_law_bag_here"]
theorem aH (c:Code K mg "_law_full" Ka Jh) (T:Nm mg) (Az:Good P w K mg base "_law_take" 1 El IV) (K8:Good P w K mg base "_law_names" 3 GJ Od):Good P w K mg base "_law_full" 4 Jh Wq:=by
 refine c.good Ey (λvs H Q E h=>?_) (λf cdv A outer s H vs Q E hr h=>?_)
 ·obtain⟨b,n,rfl,_⟩:=h;rfl
 obtain⟨b,n,rfl,hb,hn,q⟩:=h;refine⟨_,(Ag (Bj (i:=1) Ey.nd rfl (Or.inl rfl) (Av BL Ac (Ao Az hr (Aa (pv 0) (Aa Ac Ab)))))
 (Ag (Bj (i:=2) Ey.nd rfl (Or.inl rfl) (Ca (Aa (Ca Ab) (Aa (Ca Ab) (Aa (Ca Ab) Ab)))))
 (Ag (Yk Qbo (Br Io (pv 1) Ac (Bq _)) (Ag (Bj (i:=3) Ey.nd rfl (Or.inl rfl) (Ai (Lf rfl) rfl T.min Sy (Aa (pv 1) (Aa (Av BL Ac (Bg Cj (@Ca _ _ _ _ (@Aa _ _ _ _ _ (@Ac _ _ _ _) (@Aa _ _ _ _ _ (@Ac _ _ _ _) (@Aa _ _ _ _ _ (@Ac _ _ _ _) (@Aa _ _ _ _ _ (@Ac _ _ _ _) (@Aa _ _ _ _ _ (@Ac _ _ _ _) (@Aa _ _ _ _ _ (@Ac _ _ _ _) (@Aa _ _ _ _ _ (@Ac _ _ _ _) (@Aa _ _ _ _ _ (@Ac _ _ _ _) (@Ab _) Am) Am) Am) Am) Am) Am) Am) Am)) (Ao Az hr (Aa (pv 0) (Aa Ac Ab))) (λ_ _=>rfl))) Ab))))
 (Ag (Bj (i:=4) Ey.nd rfl (Or.inl rfl) (Ca Ab))
 (Ag (Dk Qbo rfl (Dw rfl T.range (Aa (pv 3) Ab)) (Ak (i:=5) Ey.nd rfl (Or.inl rfl))
 (Ah (Ec (Fb Qal Qaj Qak Dl (pv 4) (Aa (Bo (Aa (Bg Cj (Ca (Aa Bp (Aa Bp (Aa Bp (Aa Bp Ab))))) (Ao Az hr (Aa (pv 0) (Aa Ac Ab))) (λ_ _=>rfl)) (Aa (Av BL Ac (Ao Az hr (Aa (pv 0) (Aa Ac Ab)))) Ab))) Ab)))))
 (Ag (Ec (Fb Qal Qaj Qak Dl (Bg Cj (pv 2) (Av G8 (pv 1) Ac) (λ_ _=>rfl)) (Aa (Av Em (Bg Cj (pv 4) Ac (λ_ _=>rfl)) (Bo (Aa (CQ Cv rfl T.tuple BR (Aa (Cy T8 (pv 4) (CN Ac) Dc) Ab)) Ab))) Ab)))
 (Ah (Bj (i:=1) Ey.nd rfl (Or.inl rfl) (Av Nx (pv 1) (pv 3)))))))))
 (Ag (Ol (i:=6) Ey.nd rfl (Or.inl rfl) (N':=xx) rfl (Bt.of (src:=[none,some 0]) (Aj Ka) xw rfl rfl rfl (by trivial) (by trivial) (by trivial) rfl (by trivial)) (GF (Ao K8 hr (Aa (pv 0) (Aa (Bg Cj (Ca (Aa Ac (Aa Ac (Aa Ac (Aa Ac Ab))))) (Ao Az hr (Aa (pv 0) (Aa Ac Ab))) (λ_ _=>rfl)) Ab)))) (λ_ _ _ _=>(Ak (i:=0) (show List.Nodup (xx:YF) by trivial) rfl (Or.inl rfl))) (λ_ _ _ _=>CV) (λ_ _ _ _=>(Bo (Aa (pv 0) (Aa (Bo (Aa (Av BL Ac (Ao Az hr (Aa (pv 1) (Aa Ac Ab)))) Ab)) Ab)))))
 (Ah (Ax (Bo (Aa (Av BL Ac (Ao Az hr (Aa (pv 0) (Aa Ac Ab)))) (Aa (CQ Cv rfl T.tuple BR (Aa (Cp (N':=Hz) rfl (Bt.plain rfl (by trivial) (by trivial) (by trivial)) (GF (pv 2)) (λ_ _ _ _=>(Ak (i:=0) (show List.Nodup (Hz:YF) by trivial) rfl (Or.inl rfl))) (λ_ _ _ _=>(K5 (Br Io (Ai (Qt (K:=K) rfl) rfl T.len Bx (Aa (pv 0) Ab)) Ac (Bq _)))) (λ_ _ _ _=>(CQ (O7 (K:=K) rfl) rfl T.tuple BR (Aa (pv 0) Ab)))) Ab)) (Aa (CQ Cv rfl T.tuple BR (Aa (pv 6) Ab)) Ab)))))))))),?_⟩
 show let R0:TS:=_;let R1:TS:=Aq _ R0;let R2:TS:=_;let R3:TS:=Aq _ R2;let R4:TS:=_;let R5:TS:=Aq (Ft _ _ R4) R3;let R6:TS:=Aq _ R5;let R7:TS:=Aq _ R6;let R8:TS:=Aq (Wd _ R7) R1;let R9:TS:=Aq _ R8;Aq _ R9 _ _ _;intro R0 R1 R2 R3 R4 R5 R6 R7 R8 R9;refine⟨_,rj,b,n,6,rj,hb,by omega,by decide,by decide,λr H1 r0 r1 hb1 sb1=>⟨_,_,rj,rj,?_⟩⟩;obtain⟨rn,rfl⟩:=Qao r0;show Gu 1 (V.int (27+(rn:Int))) [jp b,none,none,none,none,none,none] _ _;rw[show (27+(rn:Int))=((27+rn:Nat):Int) by omega];refine⟨Al (by show 0<=1000;decide),λl0 h0=>⟨Al (by show 0<=1000;decide),λl1 h1=>⟨Al (by show 0<=1000;decide),λl2 h2=>⟨Al (by show 3<=1000;decide),λL hL=>?_⟩⟩⟩⟩;have s0:=Ae h0 (.lst []);have s1:=Ae h1 (.lst []);have s2:=Ae h2 (.lst []);have s3:=Ae hL (.lst [.ref l0,.ref l1,.ref l2]);have c0:=s3 _ _ (s2 _ _ (s1 _ _ (Ad (H:=H1) (a:=l0) (o:=.lst []))));have c1:=s3 _ _ (s2 _ _ (Ad (H:=upd H1 l0 (.lst [])) (a:=l1) (o:=.lst [])));have c2:=s3 _ _ (Ad (H:=upd (upd H1 l0 (.lst [])) l1 (.lst [])) (a:=l2) (o:=.lst []));have cL:=Ad (H:=upd (upd (upd H1 l0 (.lst [])) l1 (.lst [])) l2 (.lst [])) (a:=L) (o:=.lst [.ref l0,.ref l1,.ref l2]);have s03:=s0.trans (s1.trans (s2.trans s3));have n01:l0≠l1:=Aw Ad h1;have n02:l0≠l2:=Aw (s1 _ _ Ad) h2;have n12:l1≠l2:=Aw Ad h2;have nL0:l0≠L:=Aw (s2 _ _ (s1 _ _ Ad)) hL;have nL1:l1≠L:=Aw (s2 _ _ Ad) hL;have nL2:l2≠L:=Aw Ad hL;have f0:H l0=none:=sb1.free hb1.ex h0;have f1:H l1=none:=sb1.free hb1.ex (s0.free h1);have f2:H l2=none:=sb1.free hb1.ex (s0.free (s1.free h2));have fL:H L=none:=sb1.free hb1.ex (s0.free (s1.free (s2.free hL)));have b0:b≠l0:=hb.nb f0;have b1:b≠l1:=hb.nb f1;have b2:b≠l2:=hb.nb f2;have bL:b≠L:=hb.nb fL;have hb3:=hb1.same s03;have sb3:=sb1.trans (Af.of s03);generalize upd (upd (upd (upd H1 l0 (.lst [])) l1 (.lst [])) l2 (.lst [])) L (.lst [.ref l0,.ref l1,.ref l2])=H3 at *;obtain⟨A,eA0,eA1,eA2⟩ : ∃A:Nat->Addr,A 0=l0/\A 1=l1/\A 2=l2:=⟨λi=>if i=0 then l0 else if i=1 then l1 else l2,rfl,rfl,rfl⟩
 have lt3:∀{i:Nat},i < 3->i=0\/i=1\/i=2:=λh=>by omega
 have bA:∀i,i < 3->b≠A i/\A i≠L/\H (A i)=none:=λi hi=>by
  rcases lt3 hi with rfl | rfl | rfl
  ·rw[eA0];exact⟨b0,nL0,f0⟩
  ·rw[eA1];exact⟨b1,nL1,f1⟩
  ·rw[eA2];exact⟨b2,nL2,f2⟩
 have inj:∀i j,i < 3->j < 3->i≠j->A i≠A j:=λi j hi hj ne=>by
  rcases lt3 hi with rfl | rfl | rfl <;> rcases lt3 hj with rfl | rfl | rfl <;> simp only[eA0,eA1,eA2] <;> first | exact absurd rfl ne | assumption | exact Ne.symm (by assumption)
 refine⟨λm U HH=>eU b L A H n m U HH,⟨27+rn,none,none,none,λ_=>[],rfl,by rw[eA0,eA1,eA2];exact cL,(λi hi=>⟨by rcases lt3 hi with rfl | rfl | rfl <;> simp only[eA0,eA1,eA2] <;> assumption,λx hx=>by cases hx⟩),(by show 0+0+0+_<=32;omega),hb3.mono (by omega),sb3⟩,λm U HH h=>?_⟩;obtain⟨u3,u4,u5,X,rfl,e1,e2,e3,e4,e5⟩:=h;refine⟨_,rj,_,_,rj,rj,_,rj,RM (λhp=>?_) (λhz=>?_)⟩
 ·have hp:(0:Int) < (m:Int):=QaU hp;refine⟨fun σ' H'=>∃m',m' < m/\eU b L A H n m' σ' H',fun σ' H' z=>z,?_⟩;refine⟨_,rj,Al (by show 8<=1000;decide),λl8 hl8=>?_⟩;have s8:=Ae hl8 (.lst [.int 0,.int 1,.int 2,.int 3,.int 3,.int 3,.int 3,.int 4]);refine⟨_,rj,b,_,8,rj,e4.same s8,by omega,by decide,by decide,λr8 HA r80 r81 hbA sA=>?_⟩;obtain⟨p,hp8,p4⟩:=at8 r80 r81;refine⟨l8,_,_,_,rj,rj,SqL.of (sA _ _ Ad (e4.nb hl8).symm),hp8,_,_,rj,rj,_,_,rj,?_⟩;obtain⟨z,hz,z1,zm,z5⟩ : ∃z:Nat,(if (1+(p:Int)) < (m:Int) then 1+(p:Int) else (m:Int))=(z:Int)/\1<=z/\z<=m/\z<=5:=by
   by_cases h:(1+(p:Int)) < (m:Int)
   ·rw[if_pos h];exact⟨1+p,by omega,by omega,by omega,by omega⟩
   ·rw[if_neg h];exact⟨m,rj,by omega,by omega,by omega⟩
  rw[hz];have sHA:Af b HH HA:=(Af.of s8).trans sA;refine⟨Al (by show 0<=1000;decide),λls hls=>?_⟩;have sl:=Ae hls (.lst []);have nbs:b≠ls:=hbA.nb hls;have fls:HH ls=none:=sHA.free hbA.ex hls;have hbB:=hbA.same sl;have sHB:Af b HH (upd HA ls (.lst [])):=sHA.trans (Af.of sl);have cl:upd HA ls (.lst []) ls=some (.lst []):=Ad;generalize upd HA ls (.lst [])=HB at *;refine⟨_,rj,_,rj,by omega,by omega,?_⟩;rw[QaY];let J0:YN:=λj U HC=>∃u5 xs,U=[jp b,some (.int (m:Int)),jp L,some (.int (z:Int)),jp ls,u5,none]/\HC ls=some (.lst xs)/\xs.length=j/\(∀x∈xs,∃(t:Addr) (k:Str) (a:Int),x=.ref t/\HC t=some (.tup [.str k,.int a])/\Et k)/\Bm HC b (n+1+3*(32 - m)+1+2*j)/\Af b HH HC;refine FT J0 ⟨_,[],rj,cl,rj,(λx hx=>by cases hx),hbB,sHB⟩ (λj U HC hj h=>?_) (fun U HC h=>?_)
  ·obtain⟨u5,xs,rfl,g1,g2,g3,g4,g5⟩:=h;refine⟨_,rj,.inl ⟨rj,_,SqL.of g1⟩,Al (by show 4<=1000;decide),λl4 hl4=>?_⟩;have s4:=Ae hl4 (.lst [.str "seeker",.str "knob",.str "bell",.str "door"]);refine⟨_,rj,b,_,4,rj,g4.same s4,by omega,by decide,by decide,λr4 HD r40 r41 hbD sD=>?_⟩;obtain⟨k,ek,hk⟩:=Uz r40 r41;refine⟨l4,_,_,_,rj,rj,SqL.of (sD _ _ Ad (g4.nb hl4).symm),ek,_,rj,b,_,99,rj,hbD,by omega,by decide,by decide,λr5 HE r50 r51 hbE sE=>⟨_,_,rj,rj,Al (by show 2<=1000;decide),λt ht=>?_⟩⟩;have st:=Ae ht (.tup [.str k,.int (1+r5)]);have sCE:Af b HC HE:=(Af.of s4).trans (sD.trans sE);have hbF:=hbE.same st;have sCF:Af b HC (upd HE t (.tup [.str k,.int (1+r5)])):=sCE.trans (Af.of st);have ct:upd HE t (.tup [.str k,.int (1+r5)]) t=some (.tup [.str k,.int (1+r5)]):=Ad;generalize upd HE t (.tup [.str k,.int (1+r5)])=HF at *;have gls:=sCF _ _ g1 nbs.symm;refine⟨ls,_,_,rj,rj,gls,Bc (by omega),?_⟩;have tu:=Bf.upd (H:=HF) (b:=ls) (o:=.lst (xs++[.ref t])) (λzs zz=>by rw[gls] at zz;cases zz);refine⟨_,xs++[.ref t],rj,Ad,by rw[QaF,g2];rfl,λx hx=>?_,(hbF.Fv Af.upd nbs).mono (by omega),Af.Ht (g5.trans sCF) Af.upd fls⟩;rcases Qbm.mp hx with hx | hx
   ·obtain⟨t',k',a',rfl,h1,h2⟩:=g3 x hx;exact⟨t',k',a',rj,tu _ _ ((sCF.tup g4.DW) _ _ h1),h2⟩
   ·have:x=.ref t:=by simpa using hx
    rw[this];exact⟨t,k,1+r5,rj,tu _ _ ct,hk⟩
  obtain⟨u5',xs,rfl,g1,g2,g3,g4,g5⟩:=h;have eL:=g5 _ _ e1 bL.symm;have m3:m % 3 < 3:=Nat.mod_lt _ (by decide);obtain⟨bA3,ALn,fA3⟩:=bA _ m3;have eX:=g5 _ _ (e2 _ m3).1 bA3.symm;cases xs with
  | nil=>rw[<-g2] at z1;exact absurd z1 (by decide)
  | cons x0 xr=>
  obtain⟨t0,k0,a0,rfl,ht0,hk0⟩:=g3 x0 (QaH ..);have lxr:xr.length+1=z:=g2;refine⟨_,rj,_,rj,_,_,rj,rj,(by show (0:Int) < 3;decide),L,_,_,V.ref (A (m % 3)),rj,rj,SqL.of eL,(by rw[show ((m:Int) % 3)=((m % 3:Nat):Int) by omega];exact at3 A m3),.inl ⟨rj,_,SqL.of eX⟩,?_⟩;refine⟨_,rj,ls,_,_,_,rj,rj,SqL.of g1,Fq (xs:=.ref t0::xr) (j:=0) rfl,_,rj,_,rj,ls,_,rj,SqL.of g1,λp1 hp1=>?_⟩;have ec:Eo (.ref t0::xr) (some 1) none=xr:=M7 (xs:=.ref t0::xr) (k:=1) (by simp);rw[ec] at *;have sp1:=Ae hp1 (.lst xr);refine⟨p1,_,rj,.inl ⟨SqL.of Ad,λtu htu=>⟨Al (by show 1<=1000;decide),λt1 ht1=>?_⟩⟩⟩;have sp2:=Ae htu (.tup xr);have sp3:=Ae ht1 (.tup [.ref tu]);have sp:=(sp1.trans sp2).trans sp3;refine⟨t0,t1,_,_,rj,rj,sp _ _ ht0,Ad,Al (by show 2+1<=1000;decide),λtp HE hE sE=>?_⟩;have spE:=sp.trans sE;have eX':=spE _ _ eX;have X32:(X (m % 3)).length<=32:=by rcases lt3 m3 with e | e | e <;> rw[e] <;> omega
  refine⟨A (m % 3),_,_,rj,rj,eX',Bc (by omega),?_⟩;have tv:=Bf.upd (H:=HE) (b:=A (m % 3)) (o:=.lst (X (m % 3)++[.ref tp])) (λzs zz=>by rw[eX'] at zz;cases zz);have tHE:Bf HH HE:=(g5.tup e4.DW).trans (Bf.of spE);have tHU:=tHE.trans tv;have hu:=tv _ _ (sE _ _ (sp3 _ _ (Ad (H:=upd HC p1 (.lst xr)) (a:=tu) (o:=.tup xr))));have hT:=tv _ _ hE;have newT:Tv (upd HE (A (m % 3)) (.lst (X (m % 3)++[.ref tp]))) 3 (.ref tp):=by
   refine Tv.mk (k:=2) hT (λx hx=>?_) (by show 3<=40;decide);have hx:x=.str k0\/x=.int a0\/x=.ref tu:=by simpa using hx
   rcases hx with rfl | rfl | rfl
   ·exact Tv.kind hk0
   ·exact Tv.int _ _ _
   ·refine Tv.mk (k:=1) hu (λy hy=>?_) (by omega);obtain⟨t',k',a',rfl,h1,h2⟩:=g3 y (Qav _ hy);refine Tv.mk (k:=0) (((Bf.of spE).trans tv) _ _ h1) (λy hy=>?_) (by show 2<=40;decide);have hy:y=.str k'\/y=.int a':=by simpa using hy
    rcases hy with rfl | rfl
    ·exact Tv.kind h2
    ·exact Tv.int _ _ _
  refine⟨_,rj,_,rj,_,_,rj,rj,m - z,by omega,some (.int (z:Int)),jp ls,u5',λi=>if i=m % 3 then X i++[.ref tp] else X i,?_,?_,λi hi=>?_,?_,?_,?_⟩
  ·show [_,some (V.int ((m:Int) - (z:Int))),_,_,_,_,_]=_;rw[show ((m:Int) - (z:Int))=((m - z:Nat):Int) by omega]
  ·rw[Bd ALn.symm];exact spE _ _ eL
  ·by_cases e:i=m % 3
   ·subst e;dsimp only;rw[if_pos rfl];refine⟨Ad,λx hx=>?_⟩;rcases Qbm.mp hx with hx | hx
    ·exact ((e2 _ m3).2 x hx).tups tHU
    ·have:x=.ref tp:=by simpa using hx
     rw[this];exact newT
   ·dsimp only;rw[if_neg e];refine⟨?_,λx hx=>((e2 _ hi).2 x hx).tups tHU⟩;rw[Bd (inj _ _ hi m3 e)];exact spE _ _ (g5 _ _ (e2 _ hi).1 (bA _ hi).1.symm)
  ·have:=gY (X:=X) m3 (.ref tp);dsimp only at this ⊢;omega
  ·exact ((g4.same spE).Fv Af.upd bA3).mono (by omega)
  ·exact Af.Ht (e5.trans (g5.trans (Af.of spE))) Af.upd fA3
 have hz:¬(0:Int) < (m:Int):=of_decide_eq_false hz;have mX:n+1+3*(32 - m)<=n+97:=by omega
 have e4:=e4.mono mX;refine⟨_,rj,Al (by show 4<=1000;decide),λl4 hl4=>?_⟩;have s4:=Ae hl4 (.lst [.int 0,.int 7,.int 8,.int 9]);refine⟨_,rj,b,_,4,rj,e4.same s4,by omega,by decide,by decide,λr4 HA r40 r41 hbA sA=>?_⟩;obtain⟨p,hp4,p9⟩:=m6 r40 r41;have sHA:Af b HH HA:=(Af.of s4).trans sA;refine⟨l4,_,_,_,rj,rj,SqL.of (sA _ _ Ad (e4.nb hl4).symm),hp4,b,_,p,rj,hbA,by omega,by omega,λln ys HB fln hys hyo hyn hln hbB sB=>?_⟩;have sHB:=sHA.trans sB;have nbn:b≠ln:=hbA.nb fln;refine⟨ln,rj,⟨_,SqL.of hln⟩,λlz hlz=>?_⟩;have nbz:b≠lz:=hbB.nb hlz;have fz:HH lz=none:=sHB.free hbB.ex hlz;have nlz:ln≠lz:=Aw hln hlz;have sz:=Ae hlz (.lst []);let J1:YN:=λk U HC=>∃(u:Option V) (zs:YG),U=[u,jp b]/\HC lz=some (.lst zs)/\zs.length=k/\(∀z∈zs,Tv HC 2 z)/\HC ln=some (.lst (ys.map V.str))/\Bm HC b (n+98+9*p+k)/\Af b HH HC;refine Ig (xs:=ys.map V.str) J1 ⟨none,[],rj,Ad,rj,(λx hx=>by cases hx),sz _ _ hln,hbB.same sz,sHB.trans (Af.of sz)⟩ (λk U HC _ h=>?_) (λk x U HC hk h=>?_) (fun U HC h=>?_)
 ·obtain⟨u,zs,rfl,c1,c2,c3,c4,c5,c6⟩:=h;exact SqL.of c4
 ·obtain⟨u,zs,rfl,c1,c2,c3,c4,c5,c6⟩:=h;have hk9:k < ys.length:=by
   have:=(Qaf.mp hk).1;rw[Qbk] at this;exact this
  rw[QaT] at hk;obtain⟨nm,hka,rfl⟩:=Qaq.mp hk;obtain⟨⟨_,nm8⟩,nmo⟩:=hyo nm (Qau hka);unfold Gu;refine Ar ⟨_,rj,_,rj,b,_,99,rj,c5,by omega,by decide,by decide,λr HD r0 r1 hbD sD=>⟨_,_,rj,rj,Al (by show 1<=1000;decide),λt1 ht1=>⟨Al (by show 2<=1000;decide),λt2 ht2=>?_⟩⟩⟩;have st1:=Ae ht1 (.tup [.int (1+r)]);have st2:=Ae ht2 (.tup [.str nm,.ref t1]);have st:=st1.trans st2;have sCF:=sD.trans (Af.of st);have hbF:=hbD.same st;have d1:=st2 _ _ (Ad (H:=HD) (a:=t1) (o:=.tup [.int (1+r)]));have d2:=Ad (H:=upd HD t1 (.tup [.int (1+r)])) (a:=t2) (o:=.tup [.str nm,.ref t1]);generalize upd (upd HD t1 (.tup [.int (1+r)])) t2 (.tup [.str nm,.ref t1])=HF at *;have c1':=sCF _ _ c1 nbz.symm;have tu:=Bf.upd (H:=HF) (b:=lz) (o:=.lst (zs++[.ref t2])) (λzs zz=>by rw[c1'] at zz;cases zz);refine⟨zs,c1',Bc (by omega),_,zs++[.ref t2],rj,Ad,by rw[QaF,c2];rfl,λx hx=>?_,?_,(hbF.Fv Af.upd nbz).mono (by omega),Af.Ht (c6.trans sCF) Af.upd fz⟩
  ·rcases Qbm.mp hx with hx | hx
   ·exact (c3 x hx).tups ((sCF.tup c5.DW).trans tu)
   ·have:x=.ref t2:=by simpa using hx
    rw[this];refine Tv.mk (k:=1) (tu _ _ d2) (λy hy=>?_) (by show 2<=40;decide);have hy:y=.str nm\/y=.ref t1:=by simpa using hy
    rcases hy with rfl | rfl
    ·exact Tv.name nmo nm8
    ·refine Tv.mk (k:=0) (tu _ _ d1) (λy hy=>?_) (by show 1<=40;decide);have hy:y=.int (1+r):=by simpa using hy
     rw[hy];exact Tv.int _ _ _
  ·rw[Bd nlz];exact sCF _ _ c4 nbn.symm
 obtain⟨u,zs,rfl,c1,c2,c3,c4,c5,c6⟩:=h;rw[Qbk] at c2;have c2:zs.length<=9:=by omega
 have c5:=c5.mono (show n+98+9*p+_<=n+300 by rw[Qbk];omega);refine⟨_,rj,b,_,30,rj,c5,by omega,by decide,by decide,λr HD r0 r1 hbD sD=>⟨_,_,rj,rj,?_⟩⟩;have s6:=c6.trans sD;have eL:=s6 _ _ e1 bL.symm;refine⟨_,rj,L,rj,⟨_,SqL.of eL⟩,λlq hlq=>?_⟩;have nbq:b≠lq:=hbD.nb hlq;have sq:=Ae hlq (.lst []);have fq:HH lq=none:=s6.free hbD.ex hlq;have nLq:L≠lq:=Aw eL hlq;have hAq:∀i,i < 3->A i≠lq:=λi hi=>Aw (s6 _ _ (e2 i hi).1 (bA i hi).1.symm) hlq;have zD:=sD _ _ c1 nbz.symm;have nzq:lz≠lq:=Aw zD hlq;refine Ig (xs:=[.ref (A 0),.ref (A 1),.ref (A 2)]) (λk U HC=>∃(u:Option V) (qs:YG),U=[u]/\HC lq=some (.lst qs)/\qs.length<=k/\(∀z∈qs,Tv HC 4 z)/\Same HD HC) ⟨none,[],rj,Ad,QbR _,(λx hx=>by cases hx),sq⟩ (λk U HC _ h=>?_) (λk x U HC hk h=>?_) (fun U HC h=>?_)
 ·obtain⟨u,qs,rfl,d1,d2,d3,d4⟩:=h;exact SqL.of (d4 _ _ eL)
 ·obtain⟨u,qs,rfl,d1,d2,d3,d4⟩:=h;have hk3:k < 3:=(Qaf.mp hk).1;obtain rfl:x=.ref (A k):=by
   have:[V.ref (A 0),.ref (A 1),.ref (A 2)][k]?=some (.ref (A k)):=by rcases lt3 hk3 with rfl | rfl | rfl <;> rfl
   rw[this] at hk;cases hk;rfl
  obtain⟨hX,hXt⟩:=e2 k hk3;have hX:=d4 _ _ (s6 _ _ hX (bA k hk3).1.symm);have tHC:Bf HH HC:=(s6.tup e4.DW).trans (Bf.of d4);have X32:(X k).length<=32:=by rcases lt3 hk3 with rfl | rfl | rfl <;> omega
  refine⟨_,rj,A k,_,rj,.inl (SqL.of hX),_,_,rj,rj,_,rj,RM (λ_=>?_) (λ_=>?_)⟩
  ·refine⟨_,rj,A k,_,rj,.inl ⟨SqL.of hX,λt ht=>?_⟩⟩;have st:=Ae ht (.tup (X k));have d1':=st _ _ d1;have ct:=Ad (H:=HC) (a:=t) (o:=.tup (X k));generalize upd HC t (.tup (X k))=HF at *;have tu:=Bf.upd (H:=HF) (b:=lq) (o:=.lst (qs++[.ref t])) (λzs zz=>by rw[d1'] at zz;cases zz);refine⟨qs,d1',Bc (by omega),_,qs++[.ref t],rj,Ad,by rw[QaF];show _+1<=_;omega,λx hx=>?_,(d4.trans st).CG Af.upd hlq⟩;rcases Qbm.mp hx with hx | hx
   ·exact (d3 x hx).tups ((Bf.of st).trans tu)
   ·have:x=.ref t:=by simpa using hx
    rw[this];exact Tv.mk (k:=3) (tu _ _ ct) (λy hy=>(hXt y hy).tups (tHC.trans ((Bf.of st).trans tu))) (by omega)
  ·exact⟨_,qs,rj,d1,by omega,d3,d4⟩
 obtain⟨u,qs,rfl,d1,d2,d3,d4⟩:=h;refine⟨lq,_,rj,.inl ⟨SqL.of d1,λtq htq=>?_⟩⟩;have sq1:=Ae htq (.tup qs);have zE:=sq1 _ _ (d4 _ _ zD);refine⟨_,rj,lz,_,rj,.inl ⟨SqL.of zE,λtz htz=>⟨Al (by show 3<=1000;decide),λt ht=>?_⟩⟩⟩;have sq2:=Ae htz (.tup zs);have sq3:=Ae ht (.tup [.int (1+r),.ref tq,.ref tz]);have sD4:=d4.trans (sq1.trans (sq2.trans sq3));have k1:=sq3 _ _ (sq2 _ _ (Ad (H:=HC) (a:=tq) (o:=.tup qs)));have k2:=sq3 _ _ (Ad (H:=upd HC tq (.tup qs)) (a:=tz) (o:=.tup zs));have k3:=Ad (H:=upd (upd HC tq (.tup qs)) tz (.tup zs)) (a:=t) (o:=.tup [.int (1+r),.ref tq,.ref tz]);have sC3:=sq1.trans (sq2.trans sq3);generalize upd (upd (upd HC tq (.tup qs)) tz (.tup zs)) t (.tup [.int (1+r),.ref tq,.ref tz])=HZ at *;have hbZ:=hbD.same sD4;have tz2:Bf _ HZ:=(sD.tup c5.DW).trans (Bf.of sD4);have tv:Tv HZ 6 (.ref t):=by
  refine Tv.mk (k:=5) k3 (λx hx=>?_) (by show 3<=40;decide);have hx:x=.int (1+r)\/x=.ref tq\/x=.ref tz:=by simpa using hx
  rcases hx with rfl | rfl | rfl
  ·exact Tv.int _ _ _
  ·exact Tv.mk (k:=4) k1 (λy hy=>(d3 y hy).tups (Bf.of sC3)) (by have:([V.ref (A 0),.ref (A 1),.ref (A 2)]:YG).length=3:=rfl;omega)
  ·exact (Tv.mk (k:=2) k2 (λy hy=>(c3 y hy).tups tz2) (by omega)).up (by decide)
 obtain⟨d,rd,sd⟩:=tv;exact q t d HZ (Rep.same (aC hbZ) rd) sd (hbZ.mono (by omega)) ((e5.trans s6).trans (Af.of sD4))
end
abbrev Im:Stmt:=top 36
abbrev ZQ:YF:=["_law_script"]
theorem Hy:Bk ["_law_script","_law_k","_law_bag_here","_law_plan_here","_law_once","_law_thing","_law_told"] ZQ (Aj Im):=by ac_rfl
section
variable {P:Program} {w:World} {K:YD} {mg:YB} {base:Heap} {kd:Addr}
theorem cH {f:Addr} {fd:FuncData} (F:Fun K "law" "law" Im f fd) (T:Nm mg) (O4:Good P w K mg base "_law_bag" 1 JM (ZJ K)) (Az:Good P w K mg base "_law_take" 1 El IV) (Y8:Good P w K mg base "_law_plan" 4 Je Wm) (Za:Good P w K mg base "_law_full" 4 Jh Wq)
  (Iu:Good P w K mg base "_law_spoilt" 11 Fd (Qv 9)) (Xi:Good P w K mg base "is_plan" 9 HY (Di Js)) (Te:Good P w K mg base "_law_is_plan" 4 Gj (Di Js)):FZ P w K mg base CX0 12 f fd ZQ (Qw K):=by
 refine F.ok Hy (λvs H Q E h=>?_) (λcdv A outer s H vs Q E hr h=>?_)
 ·obtain⟨a,ns,rfl,_⟩:=h;rfl
 obtain⟨a,ns,rfl,hS,h63,q⟩:=h;refine⟨_,(Ag (Dk Qbo rfl (Dw rfl T.range (Aa (Ai (P0 rfl) rfl T.max N8 (Aa Ac (Aa (Ai (Lf rfl) rfl T.min Sy (Aa Ac (Aa (Ai Ay rfl T.len Bx (Aa (pv 0) Ab)) Ab))) Ab))) Ab)) (Ak (i:=1) Hy.nd rfl (Or.inl rfl))
 (Ag (Bj (i:=2) Hy.nd rfl (Or.inl rfl) (Ao O4 hr (Aa (pv 0) (Aa (pv 1) Ab))))
 (Ag (BX (Br Ju (Ao Az hr (Aa (pv 2) (Aa Ac Ab))) Ac (Bq _)) (Ah (Bj (i:=3) Hy.nd rfl (Or.inl rfl) (Ao Za hr (Aa (pv 2) Ab)))) (Ah (Bj (i:=3) Hy.nd rfl (Or.inl rfl) (Ao Y8 hr (Aa (pv 2) (Aa Ac (Aa Ac Ab)))))))
 (Ag (Bj (i:=4) Hy.nd rfl (Or.inl rfl) (Ao Iu hr (Aa (pv 2) (Aa (pv 3) Ab))))
 (Ah (Dk Qbo rfl (GF (Ca (Aa (pv 3) (Aa (pv 4) (Aa (Ao Iu hr (Aa (pv 2) (Aa (pv 4) Ab))) Ab))))) (Ak (i:=5) Hy.nd rfl (Or.inl rfl))
 (Ag (Bj (i:=6) Hy.nd rfl (Or.inl rfl) (Ao Xi hr (Aa (pv 5) Ab)))
 (Ah (BX (PW.pt (Dm (BK (BJ (Ai BP rfl T.isinstance Bh (Aa (pv 6) (Aa (Ce (v:=.ty "bool") rfl T.bool O8 rfl) Ab))))) (Fy (Br Lk (pv 6) (Ao Te hr (Aa (pv 5) Ab)) (Bq _))))) (Ah (Ax CJ)) Bs)))))))))
 (Ah (Ax CJ))),?_⟩
 show let R0:TS:=_;let R1:TS:=Aq _ R0;let R2:TS:=Ft _ _ R1;let R3:TS:=Aq _ R2;let R4:TS:=_;let R5:TS:=_;let R6:TS:=Aq (GX _ R4 R5) R3;let R7:TS:=Aq _ R6;Aq (Ft _ _ R7) _ _ _ _;intro R0 R1 R2 R3 R4 R5 R6 R7;have hl:(ns.map V.int).length=ns.length:=Qbk _;refine⟨_,rj,a,_,rj,.inl hS,_,_,rj,_,_,rj,_,rj,?_,?_,?_⟩
 ·rw[hl];split <;> split <;> omega
 ·rw[hl];split <;> split <;> omega
 let J0:YN:=λi U H'=>Same H H'/\∃u1 u2 u3 u4 u5 u6,U=[jp a,u1,u2,u3,u4,u5,u6];refine FT J0 ⟨Same.refl H,_,_,_,_,_,_,rj⟩ (λi U H' hi h=>?_) (fun U H' h=>?_)
 ·obtain⟨sm,u1,u2,u3,u4,u5,u6,rfl⟩:=h;rw[hl] at hi;have hi':(i:Int)<=100:=by
   revert hi;split <;> split <;> omega
  refine⟨_,rj,_,rj,a,ns,_,rj,sm.seq hS,h63,by omega,by omega,λb o hb0 dO=>?_⟩;have s1:Same H (upd H' b o):=sm.trans (Ae hb0 o);have fb:H b=none:=sm.free hb0;generalize upd H' b o=H1 at s1 dO ⊢;refine Y7 ?_;dsimp only;show Aq (GX _ _ _) _ _ _ _;refine Mp (fun σ' H'=>∃(pl:Addr) (d:PyData),σ'=[jp a,some (.int (0+(i:Int))),jp b,jp pl,u4,u5,u6]/\Rep (hid b H') (.ref pl) d/\Sl 40 6 d/\Bm H' b 3001/\Same H H') (fun σ' H2 hP=>?_) (λhR=>?_)
  ·obtain⟨pl,d,rfl,rd,sd,hb2,s2⟩:=hP;refine⟨_,rj,_,rj,6,by decide,b,.ref pl,3001,40,d,rj,hb2,by decide,rd,sd,by decide,by decide,by decide,λv1 d1 H4 rd1 sd1 hb4 sb4=>?_⟩;refine⟨_,rj,_,rj,_,rj,_,rj,9,by decide,b,v1,_,41,d1,rj,hb4,by decide,rd1,sd1,by decide,by decide,by decide,λv2 d2 H5 rd2 sd2 hb5 sb5=>⟨Al (by show 3<=1000;decide),λll hll=>?_⟩⟩;have s5:Same H H5:=(s2.CG sb4 fb).CG sb5 fb;have sL:=Ae hll (.lst [.ref pl,v1,v2]);have cL:upd H5 ll (.lst [.ref pl,v1,v2]) ll=some (.lst [.ref pl,v1,v2]):=Ad;have items:∀(i:Nat) x,[V.ref pl,v1,v2][i]?=some x->∃d,Rep (upd H5 ll (.lst [.ref pl,v1,v2])) x d/\Fit 64 d:=by
    have k5:Same (hid b H5) (upd H5 ll (.lst [.ref pl,v1,v2])):=Same.trans Eu sL;have a0:∃d,Rep (upd H5 ll (.lst [.ref pl,v1,v2])) (.ref pl) d/\Fit 64 d:=⟨d,Rep.same k5 (Rep.same (CK (sb4.trans sb5)) rd),(sd.fit (by decide)).mono (by decide)⟩;have a1:∃d,Rep (upd H5 ll (.lst [.ref pl,v1,v2])) v1 d/\Fit 64 d:=⟨d1,Rep.same k5 (Rep.same (CK sb5) rd1),(sd1.fit (by decide)).mono (by decide)⟩;have a2:∃d,Rep (upd H5 ll (.lst [.ref pl,v1,v2])) v2 d/\Fit 64 d:=⟨d2,Rep.same k5 rd2,(sd2.fit (by decide)).mono (by decide)⟩;intro i x hx
    match i,hx with
    | 0,hx=>cases hx;exact a0
    | 1,hx=>cases hx;exact a1
    | 2,hx=>cases hx;exact a2
    | n+3,hx=>cases hx
   have sHL:=s5.trans sL;generalize upd H5 ll (.lst [.ref pl,v1,v2])=HL at *;refine⟨ll,rj,⟨_,SqL.of cL⟩,?_⟩;let J1:YN:=λj U HH=>Same HL HH/\∃w5 w6,U=[jp a,some (.int (0+(i:Int))),jp b,jp pl,some v1,w5,w6];refine MP (xs:=[.ref pl,v1,v2]) J1 ⟨Same.refl _,_,_,rj⟩ (λj U HH _ h=>SqL.of (h.1 _ _ cL)) (λj x U HH hx h=>?_) (fun U HH h=>?_)
   ·obtain⟨sj,w5,w6,rfl⟩:=h;obtain⟨dx,rx,fx⟩:=items j x hx;refine⟨_,rj,x,dx,rj,Rep.same sj rx,fx,λH6 s6=>?_⟩;refine⟨_,rj,Mz rfl ⟨_,rj,Ba ⟨_,rj,_,rj,x,dx,rj,Rep.same (sj.trans s6) rx,fx,λH7 s7=>⟨rj,_,rj,fX rfl ?_⟩⟩⟩⟩;exact⟨sj.trans (s6.trans s7),_,_,rj⟩
   ·obtain⟨sj,w5,w6,rfl⟩:=h;exact⟨sHL.trans sj,_,_,_,_,_,_,rj⟩
  ·refine⟨_,rj,b,0,4,rj,dO,by omega,by decide,by decide,λr H2 r0 r1 hb2 sb2=>⟨rj,_,rj,Hq (λ_=>?_) (λ_=>?_)⟩⟩
   ·exact⟨_,rj,b,1,rj,hb2,by decide,λt d H3 rd sd hb3 sb3=>hR _ _ ⟨t,d,rj,rd,sd,hb3.mono (by decide),(s1.CG sb2 fb).CG sb3 fb⟩⟩
   ·refine⟨_,rj,b,1,3,12,rj,hb2,by omega,by omega,by omega,by omega,by omega,λpl Ls zs vs zvs ja jn most H3 hpl hLs hlo hok oH j5 hzs hzv pok hb3 sb3=>?_⟩;obtain⟨d,rd,sd⟩:=Wy hb3 hpl hLs hlo hok j5 hzs hzv pok;exact hR _ _ ⟨pl,d,rj,rd,sd.mono (by decide) (by decide),hb3.mono (by decide),(s1.CG sb2 fb).CG sb3 fb⟩
 ·obtain⟨sm,u1,u2,u3,u4,u5,u6,rfl⟩:=h;exact q _
end
structure FnI (K:YD) (x:Str) (st:Stmt):Prop where
 ex:∃(f:Addr) (oc:Value) (od an:Option Addr) (sl:YI) (kV dc pm cd ct:Value),nsIn K mainGlobals x=some (some (.ref f))/\K.lookup f=some ⟨oc,od,.func (fnOf x x (Ew st) (Dp st) (Aj st) .none kV dc pm an cd ct),sl⟩/\codeIn K cd x=true/\keepIn K (.ref f)=true
theorem FnI.of {K:YD} {x:Str} {st:Stmt} {f:Addr} {oc:Value} {od an:Option Addr} {sl:YI} {kV dc pm cd ct:Value} (a:nsIn K mainGlobals x=some (some (.ref f))) (l:K.lookup f=some ⟨oc,od,.func (fnOf x x (Ew st) (Dp st) (Aj st) .none kV dc pm an cd ct),sl⟩) (c:codeIn K cd x=true) (k:keepIn K (.ref f)=true):FnI K x st:=⟨f,oc,od,an,sl,kV,dc,pm,cd,ct,a,l,c,k⟩
theorem FnI.code {K:YD} {mg:YB} {h:Heap} {x:Str} {st:Stmt} {ps:YF} (I:FnI K x st) (X:K.In h) (G:h.Ns mainGlobals mg) (hb:∀(kV doc pm:Value) (an:Option Addr) (cdv ct:Value) (us:YE),us.length=ps.length->bindArgs (fnOf x x (Ew st) (Dp st) (Aj st) .none kV doc pm an cdv ct) ⟨us,[]⟩=pure (ps.zip us)):Code K mg x st ps:=by
 obtain⟨f,oc,od,an,sl,kV,dc,pm,cd,ct,a,l,c,k⟩:=I.ex;exact Code.of X G a l c k hb
def Zh:YF->(YE->Prop)->Prop
 | [],P=>P []
 | _::r,P=>∀a,Zh r λt=>P (a::t)
theorem UG:∀(ps:YF) {P:YE->Prop},Zh ps P->∀us:YE,us.length=ps.length->P us
 | [],_,h,[],_=>h
 | _::r,_,h,a::t,e=>UG r (h a) t (Nat.succ.inj e)
theorem fnA {F:Value->Value->Value->Option Addr->Value->Value->FuncData} {ps:YF} (h:∀kV dc pm an cd ct,Zh ps λus=>bindArgs (F kV dc pm an cd ct) ⟨us,[]⟩=pure (ps.zip us)) (kV dc pm:Value) (an:Option Addr) (cd ct:Value) (us:YE) (hu:us.length=ps.length):bindArgs (F kV dc pm an cd ct) ⟨us,[]⟩=pure (ps.zip us):=UG ps (h kV dc pm an cd ct) us hu
theorem all_mk {l:PySem.W.OpenLaw} {w:World} {K:YD} {h:Heap} {mg:YB} {fa fl:Addr} (X:K.In h) (G:h.Ns mainGlobals mg) (hfa:mg "law"=some (.ref fa))
  {odl anl:Option Addr} {sll:YI} {ocl kVl dcl pml cdl ctl:Value}
  (i0:FnI K "is_whole" Kc)
  (i1:FnI K "is_within" Jy)
  (i2:FnI K "is_row" Mt)
  (i3:FnI K "is_rising" Jz)
  (i4:FnI K "are_rising_within" DX)
  (i5:FnI K "is_name" KZ)
  (i6:FnI K "is_device" JB)
  (i7:FnI K "is_spur_device" Gx)
  (i8:FnI K "is_spur" KR)
  (i9:FnI K "is_place" Kd)
  (i10:FnI K "is_loop" K1)
  (i11:FnI K "is_zone" KQ)
  (i12:FnI K "are_loops" JD)
  (i13:FnI K "are_zones" JC)
  (i14:FnI K "is_plan" KY)
  (i15:FnI K "place_devices" G5)
  (i16:FnI K "devices" K3)
  (i17:FnI K "_law_bag" Og)
  (i18:FnI K "_law_take" Mr)
  (i19:FnI K "_law_name" JZ)
  (i20:FnI K "_law_names" Jr)
  (i21:FnI K "_law_loop" Ms)
  (i22:FnI K "_law_parts" KN)
  (i23:FnI K "_law_plan" Hj)
  (i24:FnI K "_law_full" Ka)
  (i25:FnI K "_law_spoilt" JX)
  (i26:FnI K "_law_whole" KJ)
  (i27:FnI K "_law_is_device" Ih)
  (i28:FnI K "_law_is_place" Ja)
  (i29:FnI K "_law_is_zone" Hu)
  (i30:FnI K "_law_is_plan" Jx)
  (al:nsIn K mainGlobals "law"=some (some (.ref fl))) (ll:K.lookup fl=some ⟨ocl,odl,.func (fnOf "law" "law" (Ew Im) (Dp Im) (Aj Im) .none kVl dcl pml anl cdl ctl),sll⟩) (cl:codeIn K cdl "law"=true) (kl:keepIn K (.ref fl)=true)
  (z0:nsIn K mainGlobals "isinstance"=some none)
  (z1:nsIn K mainGlobals "int"=some none)
  (z2:nsIn K mainGlobals "bool"=some none)
  (z3:nsIn K mainGlobals "tuple"=some none)
  (z4:nsIn K mainGlobals "list"=some none)
  (z5:nsIn K mainGlobals "str"=some none)
  (z6:nsIn K mainGlobals "len"=some none)
  (z7:nsIn K mainGlobals "all"=some none)
  (z8:nsIn K mainGlobals "abs"=some none)
  (z9:nsIn K mainGlobals "max"=some none)
  (z10:nsIn K mainGlobals "min"=some none)
  (z11:nsIn K mainGlobals "range"=some none)
  (z12:nsIn K mainGlobals "sorted"=some none)
  (z13:nsIn K mainGlobals "any"=some none)
  (z14:nsIn K mainGlobals "sum"=some none)
  (z15:nsIn K mainGlobals "enumerate"=some none)
  (z16:nsIn K mainGlobals "zip"=some none)
  (z17:nsIn K mainGlobals "reversed"=some none)
  (z18:nsIn K mainGlobals "dict"=some none)
  (z19:nsIn K mainGlobals "ord"=some none)
  (z20:nsIn K mainGlobals "set"=some none)
  {kd:Addr} {odk:Option Addr} {nk:Nat} {slk:YI} {tq1 tq2 tq3 tq4 gM:Tok}
  (aKd:nsIn K mainGlobals "KINDS"=some (some (.ref kd)))
  (lKd:K.lookup kd=some ⟨.type "tuple",odk,.seq #[.str "seeker" tq1,.str "knob" tq2,.str "bell" tq3,.str "door" tq4] nk,slk⟩)
  (aSL:nsIn K mainGlobals "SMALL_LETTERS"=some (some (.str "abcdefghijklmnopqrstuvwxyz" gM)))
  : ∃fd:FuncData,(∀(s:Shared) (v:Value),BindsTo s fd ⟨[v],[]⟩ [("_law_script",v)])/\∀base:Heap,K.In base->base.Ns mainGlobals mg->FZ l.prog w K mg base CX0 12 fa fd ZQ (Qw K):=by
 have e:=hfa.symm.trans (mg_of X G al);cases e;have TN:Nm mg:=⟨mg_none_of X G z0,mg_none_of X G z1,mg_none_of X G z2,mg_none_of X G z3,mg_none_of X G z4,mg_none_of X G z5,mg_none_of X G z6,mg_none_of X G z7,mg_none_of X G z8,mg_none_of X G z9,mg_none_of X G z10,mg_none_of X G z11,mg_none_of X G z12,mg_none_of X G z13,mg_none_of X G z14,mg_none_of X G z15,mg_none_of X G z16,mg_none_of X G z17,mg_none_of X G z18,mg_none_of X G z19,mg_none_of X G z20⟩;have TX:∀op oe,Tx K mg op oe:=λ_ _=>⟨TN⟩;have TP:Tp K mg kd:={ toNm:=TN,KINDS:=⟨_,mg_of X G aKd,rj⟩,kdT:=λH=>.inr ⟨_,_,_,lKd,rj,rj,(by show 4<=sizeLine;decide),.cons ⟨_,rj⟩ (.cons ⟨_,rj⟩ (.cons ⟨_,rj⟩ (.cons ⟨_,rj⟩ .nil)))⟩,SMALL_LETTERS:=⟨_,mg_of X G aSL,⟨_,rj⟩⟩ };have V5:=i0.code (ps:=G6) X G (fnA λ_ _ _ _ _ _ _=>rfl);have Tt:=i1.code (ps:=Dy) X G (fnA λ_ _ _ _ _ _ _ _ _=>rfl);have Zw:=i2.code (ps:=Dd) X G (fnA λ_ _ _ _ _ _ _ _ _=>rfl);have Tw:=i3.code (ps:=Gm) X G (fnA λ_ _ _ _ _ _ _=>rfl);have Ky:=i4.code (ps:=CZ) X G (fnA λ_ _ _ _ _ _ _ _ _ _ _=>rfl);have X4:=i5.code (ps:=Ia) X G (fnA λ_ _ _ _ _ _ _=>rfl);have Tz:=i6.code (ps:=Fp) X G (fnA λ_ _ _ _ _ _ _ _=>rfl);have Ni:=i7.code (ps:=DR) X G (fnA λ_ _ _ _ _ _ _=>rfl);have XS:=i8.code (ps:=HW) X G (fnA λ_ _ _ _ _ _ _=>rfl);have V6:=i9.code (ps:=G7) X G (fnA λ_ _ _ _ _ _ _=>rfl);have X5:=i10.code (ps:=Ib) X G (fnA λ_ _ _ _ _ _ _=>rfl);have XR:=i11.code (ps:=HN) X G (fnA λ_ _ _ _ _ _ _=>rfl);have TJ:=i12.code (ps:=Gp) X G (fnA λ_ _ _ _ _ _ _=>rfl);have TF:=i13.code (ps:=Gn) X G (fnA λ_ _ _ _ _ _ _=>rfl);have X3:=i14.code (ps:=HY) X G (fnA λ_ _ _ _ _ _ _=>rfl);have Ob:=i15.code (ps:=Eh) X G (fnA λ_ _ _ _ _ _ _ _ _=>rfl);have X6:=i16.code (ps:=Ie) X G (fnA λ_ _ _ _ _ _ _=>rfl);have bD:=i17.code (ps:=JM) X G (fnA λ_ _ _ _ _ _ _ _=>rfl);have Zq:=i18.code (ps:=El) X G (fnA λ_ _ _ _ _ _ _ _=>rfl);have Zt:=i19.code (ps:=Jf) X G (fnA λ_ _ _ _ _ _ _=>rfl);have XQ:=i20.code (ps:=GJ) X G (fnA λ_ _ _ _ _ _ _ _=>rfl);have Zu:=i21.code (ps:=Jg) X G (fnA λ_ _ _ _ _ _ _ _ _=>rfl);have XM:=i22.code (ps:=Hz) X G (fnA λ_ _ _ _ _ _ _=>rfl);have Zr:=i23.code (ps:=Je) X G (fnA λ_ _ _ _ _ _ _ _ _=>rfl);have Zv:=i24.code (ps:=Jh) X G (fnA λ_ _ _ _ _ _ _=>rfl);have V4:=i25.code (ps:=Fd) X G (fnA λ_ _ _ _ _ _ _ _=>rfl);have XJ:=i26.code (ps:=Ez) X G (fnA λ_ _ _ _ _ _ _ _ _=>rfl);have Qu:=i27.code (ps:=Fe) X G (fnA λ_ _ _ _ _ _ _=>rfl);have SQ:=i28.code (ps:=FJ) X G (fnA λ_ _ _ _ _ _ _=>rfl);have Tq:=i29.code (ps:=Gi) X G (fnA λ_ _ _ _ _ _ _=>rfl);have Tr:=i30.code (ps:=Gj) X G (fnA λ_ _ _ _ _ _ _=>rfl);have gF:=Xm (st:=Im) ll cl kl;refine⟨fnOf "law" "law" (Ew Im) (Dp Im) (Aj Im) .none kVl dcl pml anl cdl ctl,λs v=>.of_eq rfl,λbase _ _=>?_⟩;have O4:=Yx (P:=l.prog) (w:=w) (base:=base) bD TN;have Az:=WR (P:=l.prog) (w:=w) (base:=base) Zq TN;have g_w:=Ro (P:=l.prog) (w:=w) (base:=base) V5 TN;have g_r:=WT (P:=l.prog) (w:=w) (base:=base) Zw TN;have Vw:=Qn (P:=l.prog) (w:=w) (base:=base) Tt TN g_w;have kI:=Rp (P:=l.prog) (w:=w) (base:=base) Tw TN;have kE:=Mv (P:=l.prog) (w:=w) (base:=base) Ky TN g_r Vw kI;have kZ:=Vp (P:=l.prog) (w:=w) (base:=base) X4 TP;have dU:=Rq (P:=l.prog) (w:=w) (base:=base) Tz TP Vw;have kj:=Ly (P:=l.prog) (w:=w) (base:=base) Ni TP g_r dU;have j9:=Vn (P:=l.prog) (w:=w) (base:=base) XS TP g_r kj;have kW:=S5 (P:=l.prog) (w:=w) (base:=base) V6 TP g_r Vw dU j9;have lD:=Vq (P:=l.prog) (w:=w) (base:=base) X5 TP g_r kW;have lB:=Rt (P:=l.prog) (w:=w) (base:=base) TJ TP g_r lD;have j8:=Vm (P:=l.prog) (w:=w) (base:=base) XR TP g_r kZ kE;have j7:=Rr (P:=l.prog) (w:=w) (base:=base) TF TP g_r j8;have kY:=Mw (P:=l.prog) (w:=w) (base:=base) Ob (TX kd kd);have lK:=Vr (P:=l.prog) (w:=w) (base:=base) X6 (TX kd kd) kY;have lH:=Vo (P:=l.prog) (w:=w) (base:=base) X3 TP g_r Vw lB j7 lK;have lg:=aF (P:=l.prog) (w:=w) (base:=base) Zt TN Az;have dR:=Yw (P:=l.prog) (w:=w) (base:=base) XQ TN lg;have lE:=aG (P:=l.prog) (w:=w) (base:=base) Zu TN Az;have kJ:=WQ (P:=l.prog) (w:=w) (base:=base) XM TN;have kO:=aD (P:=l.prog) (w:=w) (base:=base) Zr TN Az lE kJ dR;have lJ:=aH (P:=l.prog) (w:=w) (base:=base) Zv TN Az dR;have kh:=WM (P:=l.prog) (w:=w) (base:=base) V4 TN Az 9;have Vx:=Vl (P:=l.prog) (w:=w) (base:=base) XJ TN;have lG:=Ot (P:=l.prog) (w:=w) (base:=base) Qu TN Vx;have lC:=Qm (P:=l.prog) (w:=w) (base:=base) SQ TN Vx lG;have lA:=Rm (P:=l.prog) (w:=w) (base:=base) Tq TN Vx;have lF:=Rn (P:=l.prog) (w:=w) (base:=base) Tr TN Vx lC lA;exact cH gF TN O4 Az kO lJ kh lH lF
theorem walk {l:PySem.W.OpenLaw} {q:Program} {loose:YF} {XP:(YB)->Heap->Prop} {YP:World->Heap->Prop} {d:DefRec} {K:Params->YD} (hn:l.most=some 63) (hdf:d.params.defaults=[])
  (hY:∀(w:World) (h:Heap),YP w h->(K w.params).In h)
  (F:∀(w:World) (mg:YB) (fa:Addr) (h:Heap),(K w.params).In h->h.Ns mainGlobals mg->mg d.name=some (.ref fa) ->
   ∃fd:FuncData,(∀(s:Shared) (u:Value),BindsTo s fd ⟨[u],[]⟩ [("_law_script",u)])/\∀base:Heap,(K w.params).In base->base.Ns mainGlobals mg->FZ l.prog w (K w.params) mg base CX0 12 fa fd ZQ (Qw (K w.params))) :
  PySem.W.WalkO q loose XP YP l.row.toRowW d [] (λf vs=>PySem.call f vs):=
 L2.Z2 (n:=63) (k:=12) (x:="_law_script") (CX:=λ_=>CX0) (sp:=λw=>Qw (K w.params)) hn (by decide) hdf ⟨rj,by decide,by decide⟩ hY F (λ_ _ a ns hl _ hS=>⟨a,ns,rj,hS,hl,λ_=>rfl⟩) λ_ _ _ _ _ z=>z
end K01
/-! names that stay free of quick twins: the head comes through without them, and the compiled text is much smaller -/
namespace PySem.W.Fast
def tw13970483059016719651:=0
def tw11642360028508106206:=0
def tw3474286924063687375:=0
def tw17810646222171803930:=0
def tw6267631082742915566:=0
def tw2922170740328254428:=0
def tw5428481485399276271:=0
def tw2365282999729883809:=0
def tw3284317336270961382:=0
def tw12128402107253849146:=0
def tw2037295938154704939:=0
def tw8122248683062285850:=0
def tw9232807930788655133:=0
def tw8924281929259767535:=0
def tw10248898961980694168:=0
def tw18093254167968260049:=0
def tw18291732124293996540:=0
def tw3746552271834980749:=0
def tw11128620452550379692:=0
def tw6567069998992625536:=0
def tw1753067828012471856:=0
def tw5181712348593137223:=0
def tw17060827044967126266:=0
def tw12928595512074766574:=0
def tw10068586236878259081:=0
def tw2551812344214501866:=0
def tw16041909837223492095:=0
def tw13983284086015073965:=0
def tw11483466143158915550:=0
def tw3808877998685855743:=0
def tw17084275650275765777:=0
def tw5379870973095566267:=0
def tw11528263529192128049:=0
def tw816213588028374861:=0
def tw16621216062841614418:=0
def tw5423908473894321536:=0
def tw12267842566631128561:=0
def tw6937287231963886181:=0
def tw18409562391358370588:=0
def tw14037343581385665683:=0
def tw14998352247662273743:=0
def tw9398501697667444211:=0
def tw8348351972865856725:=0
def tw7090092963303559539:=0
def tw13903412981388459723:=0
def tw4210527155531199572:=0
def tw916921651416887456:=0
def tw12380567981210205637:=0
def tw12988627834104313103:=0
def tw12781632412520206726:=0
def tw2648237875575048880:=0
def tw6610314249899368777:=0
def tw943686422987005195:=0
def tw3603787669023128771:=0
def tw343285199528134549:=0
def tw1040449146455074026:=0
def tw8741505726009595926:=0
def tw7517736853152624723:=0
def tw2562419845942413707:=0
def tw15640682770016075987:=0
def tw4996384487428724550:=0
def tw16649159462867847822:=0
def tw11700488819323400433:=0
def tw3081157623957180316:=0
def tw8327362119760484974:=0
def tw8098668874474980732:=0
def tw9706942635172291483:=0
def tw8412835601187698877:=0
def tw17840584960568583350:=0
def tw6297432238694925312:=0
def tw15136024957885144870:=0
def tw5900874515302133872:=0
def tw12936794535248299277:=0
end PySem.W.Fast
open PySem PySem.W PyProof.Rows
set_option maxRecDepth 100000 in
set_option maxHeartbeats 0 in
theorem PySem.Challenge.cw_warnloop_k01_plans_told_holds : PySem.Challenge.rw_warnloop_k01_plans_told.Holds := by
 w_on;o_law;k_head;(case hw=>w_witness2)
 k_fill
 refine K01.walk (l:=PySem.Challenge.rw_warnloop_k01_plans_told) rfl rfl (λw h Y=>PySem.W.kIn_of Y) ?F
 case F=>
  intro w mg fa h KX G hmg
  refine' K01.all_mk KX G hmg (.of ?ai0 ?li0 ?ci0 ?ki0) (.of ?ai1 ?li1 ?ci1 ?ki1) (.of ?ai2 ?li2 ?ci2 ?ki2) (.of ?ai3 ?li3 ?ci3 ?ki3) (.of ?ai4 ?li4 ?ci4 ?ki4) (.of ?ai5 ?li5 ?ci5 ?ki5) (.of ?ai6 ?li6 ?ci6 ?ki6) (.of ?ai7 ?li7 ?ci7 ?ki7) (.of ?ai8 ?li8 ?ci8 ?ki8) (.of ?ai9 ?li9 ?ci9 ?ki9) (.of ?nU ?ji ?mV ?jJ) (.of ?nT ?jh ?mU ?jH) (.of ?nR ?jg ?mR ?jG) (.of ?nQ ?jf ?mQ ?jF) (.of ?nP ?je ?mO ?jE) (.of ?nO ?jd ?mL ?jD) (.of ?nM ?jc ?mK ?jC) (.of ?nJ ?iZ ?mJ ?jB) (.of ?nH ?iY ?mH ?jA) (.of ?nG ?iW ?mG ?jz) (.of ?nF ?iV ?mF ?jy) (.of ?nD ?iU ?mD ?jx) (.of ?nC ?iT ?mC ?jw) (.of ?nA ?iR ?mz ?ju) (.of ?nu ?iQ ?mq ?jt) (.of ?nq ?iM ?mj ?jr) (.of ?nj ?iK ?lZ ?jq) (.of ?ni ?iJ ?lY ?jo) (.of ?m9 ?iI ?lX ?jm) (.of ?m8 ?iH ?lW ?jl) (.of ?m7 ?iG ?lV ?jk) ?al ?ll ?cl ?kl ?z0 ?z1 ?z2 ?z3 ?z4 ?z5 ?z6 ?z7 ?z8 ?z9 ?z10 ?z11 ?z12 ?z13 ?z14 ?z15 ?z16 ?z17 ?z18 ?z19 ?z20 ?aKd ?lKd ?aSL
  (case ai0 | li0 | ci0 | ki0 | ai1 | li1 | ci1 | ki1 | ai2 | li2 | ci2 | ki2 | ai3 | li3 | ci3 | ki3 | ai4 | li4 | ci4 | ki4 | ai5 | li5 | ci5 | ki5 | ai6 | li6 | ci6 | ki6 | ai7 | li7 | ci7 | ki7 | ai8 | li8 | ci8 | ki8 | ai9 | li9 | ci9 | ki9 | nU | ji | mV | jJ | nT | jh | mU | jH | nR | jg | mR | jG | nQ | jf | mQ | jF | nP | je | mO | jE | nO | jd | mL | jD | nM | jc | mK | jC | nJ | iZ | mJ | jB | nH | iY | mH | jA | nG | iW | mG | jz | nF | iV | mF | jy | nD | iU | mD | jx | nC | iT | mC | jw | nA | iR | mz | ju | nu | iQ | mq | jt | nq | iM | mj | jr | nj | iK | lZ | jq | ni | iJ | lY | jo | m9 | iI | lX | jm | m8 | iH | lW | jl | m7 | iG | lV | jk=>k_is)
  (case al | ll | cl | kl | z0 | z1 | z2 | z3 | z4 | z5 | z6 | z7 | z8 | z9 | z10 | z11 | z12 | z13 | z14 | z15 | z16 | z17 | z18 | z19 | z20 | aKd | lKd | aSL=>k_is)
