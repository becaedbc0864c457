import PyProof.Rows.All
import Wide.All
import OpenK.AllK
import Wide.FinOn
import Lean
import PyProof.EqAt
import PyProof.EqKinds
import PyProof.TupleCall
import PySem.Challenge.RW_warnloop_k24_rings
set_option linter.all false
set_option Elab.async false
set_option maxRecDepth 100000
set_option maxHeartbeats 4000000
abbrev YA:=PySem.Value→PySem.Shared→Prop
abbrev YH:=Unit→PySem.Shared→Prop
abbrev YB:=PySem.Str→Option PySem.Value
abbrev YC:=List (PySem.Addr×PySem.Obj)
abbrev YD:=PySem.W.Frag
abbrev YI:=Array (Option PySem.Value)
abbrev YE:=List PySem.Value
abbrev YF:=List PySem.Str
abbrev YJ:=List PySem.Expr
abbrev YK:=Array PySem.DictEntry
theorem rq{α:Sort _}{a:α}:a=a:=rfl
local macro_rules|`(tactic|trivial)=>`(tactic|decide +kernel)
local macro_rules | `(tactic|ac_rfl) => `(tactic|exact ⟨rfl,rfl,rfl,by decide +kernel,rfl,by decide +kernel,by decide +kernel⟩)
open PySem.W (instObj hideAll hideAll_get findIn keepIn emptyDict kia_one fnOf codeIn nsIn mg_none_of)
abbrev Qaa:=@PyProof.Rows.slot_tupleiter_next
abbrev Qab:=@PyProof.Rows.slot_tuple_getitem
abbrev Qac:=@PyProof.Rows.callWith_type1
abbrev Qad:=@List.findSome?_eq_none_iff
abbrev Qae:=@List.getElem?_append_right
abbrev Qaf:=@Array.getElem?_eq_some_iff
abbrev Qag:=@List.getElem?_eq_some_iff
abbrev Qah:=@Array.getElem?_eq_getElem
abbrev Qai:=@List.pairwise_iff_getElem
abbrev Qaj:=@List.getElem?_append_left
abbrev Qak:=@Classical.byContradiction
abbrev Qal:=@List.getElem?_eq_getElem
abbrev Qam:=@PySem.F.slot_list_append
abbrev Qan:=@PySem.F.type_list_append
abbrev Qao:=@PySem.wpAny_callSpecial?_slot
abbrev Qap:=@PySem.F.plainAttrs_list
abbrev Qaq:=@PySem.wpAny_getItem_str_slice
abbrev Qar:=@Int.eq_ofNat_of_zero_le
abbrev Qas:=@PySem.Heap.get?_push_of_some
abbrev Qat:=@Option.map_eq_some_iff
abbrev Qau:=@PySem.Heap.get?_update_other
abbrev Qav:=@List.mem_append_right
abbrev Qaw:=@Array.getElem?_toList
abbrev Qax:=@List.filterMap_append
abbrev Qay:=@PySem.Heap.get?_update_self
abbrev Qaz:=@List.take_append_drop
abbrev QaA:=@List.length_singleton
abbrev QaB:=@List.mem_of_getElem?
abbrev QaC:=@List.mem_cons_of_mem
abbrev QaD:=@PySem.Around.under_plainId
abbrev QaE:=@List.getElem?_of_mem
abbrev QaF:=@List.mem_append_left
abbrev QaG:=@PySem.Heap.get?_push_size
abbrev QaH:=@Array.length_toList
abbrev QaI:=@List.flatMap_append
abbrev QaJ:=@PySem.Heap.SameBut.update
abbrev QaK:=@PySem.mem_of_lookup
abbrev QaL:=@beq_eq_false_iff_ne
abbrev QaM:=@List.length_append
abbrev QaN:=@Bool.false_ne_true
abbrev QaO:=@List.mem_cons_self
abbrev QaP:=@List.mem_singleton
abbrev QaR:=@Nat.lt_of_lt_of_le
abbrev QaS:=@Bool.false_eq_true
abbrev QaT:=@decide_eq_true_iff
abbrev QaU:=@PySem.wpAny_pyIter_tuple
abbrev QaV:=@PySem.wpAny_Call_Name_kw
abbrev QaW:=@List.set_cons_zero
abbrev QaX:=@List.set_cons_succ
abbrev QaY:=@Int.emod_lt_of_pos
abbrev QaZ:=@PySem.Calls.spliced_cons
abbrev Qba:=@PySem.tupleKind_room_in1
abbrev Qbb:=@List.getElem?_drop
abbrev Qbc:=@List.size_toArray
abbrev Qbd:=@List.getElem?_map
abbrev Qbe:=@PySem.wpAny_newObj_type
abbrev Qbf:=@Int.toNat_natCast
abbrev Qbg:=@Nat.lt_succ_of_lt
abbrev Qbh:=@PySem.wpAny_setState_of
abbrev Qbi:=@List.length_range
abbrev Qbj:=@bne_self_eq_false
abbrev Qbk:=@List.take_length
abbrev Qbl:=@List.length_take
abbrev Qbm:=@List.length_cons
abbrev Qbn:=@PySem.wpAny_call_entry
abbrev Qbo:=@Bool.and_eq_true
abbrev Qbp:=@Nat.lt_succ_self
abbrev Qbq:=@List.getElem_mem
abbrev Qbr:=@List.length_drop
abbrev Qbs:=@PySem.wpAny_askSetting
abbrev Qbt:=@List.not_mem_nil
abbrev Qbu:=@List.length_map
abbrev Qbv:=@List.mem_append
abbrev Qbw:=@decide_eq_false
abbrev Qbx:=@List.map_append
abbrev Qby:=@Option.some.inj
abbrev Qbz:=@PySem.PassesOwn.never
abbrev QbA:=@List.append_nil
abbrev QbB:=@List.nodup_cons
abbrev QbD:=@PySem.codeAny_builtin
abbrev QbF:=@PySem.wpAny_passesOwn
abbrev QbG:=@Bool.eq_iff_iff
abbrev QbH:=@Nat.not_lt_zero
abbrev QbI:=@List.find?_cons
abbrev QbJ:=@Int.emod_nonneg
abbrev QbK:=@decide_eq_true
abbrev QbL:=@PySem.Heap.size_push
abbrev QbM:=@PySem.isSubtype_type
abbrev QbN:=@List.nodup_nil
abbrev QbO:=@PySem.Paired.length
abbrev QbP:=@List.mem_cons
abbrev QbQ:=@List.map_cons
abbrev QbR:=@PySem.wpAny_holding
abbrev QbS:=@PySem.wpAny_standAt
abbrev QbT:=@Nat.lt_irrefl
abbrev QbU:=@PySem.wpAny_attempt
abbrev QbV:=@PySem.plainId_quiet
abbrev QbW:=@PySem.Heap.lt_size
abbrev QbX:=@Nat.ne_of_lt
abbrev QbY:=@Nat.le_trans
abbrev QbZ:=@List.mem_map
abbrev Qca:=@Nat.le_of_lt
abbrev Qcb:=@Nat.ne_of_gt
abbrev Qcc:=@PySem.codeAny_mono
abbrev Qcd:=@PySem.wpAny_typeOf
abbrev Qce:=@Nat.le_refl
abbrev Qcf:=@Nat.zero_le
abbrev Qcg:=@Sum.inr.inj
abbrev Qch:=@PySem.wpAny_field
abbrev Qci:=@PySem.wpAny_bind
abbrev Qcj:=@PySem.wpAny_pure
abbrev Qck:=@PySem.wpAny_mono
abbrev Qcl:=@PySem.wpAny_rule
abbrev Qcm:=@PyProof.Rows.take_snoc
abbrev Qcn:=@if_false
namespace L2
open PySem PySem.Spec PyProof.Rows
abbrev Key:=Sum Int Str
def JG:Key->Value->Bool
 | .inl k,v=>Value.isInt k v
 | .inr x,v=>Value.isStrOf x v
def gW (w:World):Key->Int
 | .inl k=>hashInt k
 | .inr x=>hashStr w x
theorem BR:∀{k:Key} {v:Value},JG k v=true->(∃i t,k=Sum.inl i/\v=Value.int i t)\/(∃x t,k=Sum.inr x/\v=Value.str x t)
 | .inl i,v,h=>by
  obtain⟨t,e⟩:=Value.isInt_shape (k:=i) (v:=v) h;exact .inl ⟨i,t,rq,e⟩
 | .inr x,v,h=>by
  obtain⟨t,e⟩:=Value.isStrOf_shape (x:=x) (v:=v) h;exact .inr ⟨x,t,rq,e⟩
theorem Wf (i:Int) (t:Tok):JG (.inl i) (.int i t)=true:=by simp[JG,Value.isInt]
theorem Wd (x:Str) (t:Tok):JG (.inr x) (.str x t)=true:=by simp[JG,Value.isStrOf]
theorem bQ (a b:Int):decide ((Sum.inl a:Key)=Sum.inl b)=(a == b):=by
 by_cases e:a=b
 ·subst e;simp
 ·have h:¬(Sum.inl a:Key)=Sum.inl b:=λq=>e (Sum.inl.inj q);rw[Qbw h];exact (QaL.mpr e).symm
theorem bL (a b:Str):decide ((Sum.inr a:Key)=Sum.inr b)=decide (a=b):=by
 by_cases e:a=b
 ·subst e;simp
 ·have h:¬(Sum.inr a:Key)=Sum.inr b:=λq=>e (Qcg q);rw[Qbw h,Qbw e]
theorem bO (a:Int) (b:Str):decide ((Sum.inl a:Key)=Sum.inr b)=false:=Qbw (λq=>nomatch q)
theorem bM (a:Str) (b:Int):decide ((Sum.inr a:Key)=Sum.inl b)=false:=Qbw (λq=>nomatch q)
def Bj (prog:Program) (w:World):PySem.KeyKind prog w Key where
 is:=JG
 hash:=gW w
 inj:=λv a b ha hb=>by
  rcases BR ha with⟨i,t,rfl,rfl⟩|⟨x,t,rfl,rfl⟩
  ·rcases BR hb with⟨j,u,rfl,e⟩|⟨y,u,rfl,e⟩
   ·injection e with e1 _;rw[e1]
   ·exact nomatch e
  ·rcases BR hb with⟨j,u,rfl,e⟩|⟨y,u,rfl,e⟩
   ·exact nomatch e
   ·injection e with e1 _;rw[e1]
 byValue:=λk v h=>by
  rcases BR h with⟨i,t,rfl,rfl⟩|⟨x,t,rfl,rfl⟩ <;> rfl
 pyHash:=λhv h=>by
  rcases BR hv with⟨i,t,rfl,rfl⟩|⟨x,t,rfl,rfl⟩
  ·exact wpAny_pyHash_int h
  ·exact wpAny_pyHash_str h
 eqBool:=λhu hv h=>by
  rcases BR hu with⟨i,t,rfl,rfl⟩|⟨x,t,rfl,rfl⟩
  ·rcases BR hv with⟨j,u,rfl,rfl⟩|⟨y,u,rfl,rfl⟩
   ·rw[bQ] at h;exact wpAny_eqBool_int h
   ·rw[bO] at h;exact SeqAt.EqAt.int_str i t y u _ _ _ _ h
  ·rcases BR hv with⟨j,u,rfl,rfl⟩|⟨y,u,rfl,rfl⟩
   ·rw[bM] at h;exact SeqAt.EqAt.str_int x t j u _ _ _ _ h
   ·rw[bL] at h;exact wpAny_eqBool_str h
 «strs»:=λk x t v h=>by
  rcases BR h with⟨i,u,rfl,e⟩|⟨y,u,rfl,e⟩
  ·exact nomatch e
  ·injection e with e1 _;subst e1;cases v <;> rfl
theorem Sh (prog:Program) (w:World) (i:Int) (t:Tok):(Bj prog w).is (.inl i) (.int i t)=true:=Wf i t
theorem Sg (prog:Program) (w:World) (x:Str) (t:Tok):(Bj prog w).is (.inr x) (.str x t)=true:=Wd x t
inductive V where
 | non | bl (b:Bool) | int (i:Int) | str (x:Str) | byt (b:Array UInt8) | flt (b:UInt64) | ref (a:Addr) | ty (n:String)
 deriving DecidableEq
def RelV:V->Value->Prop
 | .non,u=>u=Value.none
 | .bl b,u=>u=Value.bool b
 | .int i,u=>∃t,u=Value.int i t
 | .str x,u=>∃t,u=Value.str x t
 | .byt b,u=>∃t,u=Value.bytes b t
 | .flt b,u=>∃t,u=Value.float b t
 | .ref a,u=>u=Value.ref a
 | .ty n,u=>u=Value.type n
abbrev YG:=List V
abbrev Vals:YG->YE->Prop:=Paired RelV
theorem Vals.length {xs:YG} {us:YE} (r:Vals xs us):xs.length=us.length:=QbO r
theorem Vals.get:∀{xs:YG} {us:YE} {i:Nat} {x:V},Vals xs us->xs[i]?=some x->∃u,us[i]?=some u/\RelV x u
 | _,_,_,_,.nil,e=>by simp at e
 | _,_,0,_,.cons r _,e=>by simp at e;subst e;exact⟨_,rfl,r⟩
 | _,_,i+1,x,.cons _ t,e=>by
  obtain⟨u,h1,h2⟩:=Vals.get (i:=i) (x:=x) t (by simpa using e);exact⟨u,by simpa using h1,h2⟩
theorem Vals.set {x:V} {u:Value} (r:RelV x u):∀{xs:YG} {us:YE} (i:Nat),Vals xs us->Vals (xs.set i x) (us.set i u)
 | _,_,_,.nil=>.nil
 | _,_,0,.cons _ t=>.cons r t
 | _,_,i+1,.cons q t=>.cons q (Vals.set r i t)
theorem Vals.append:∀{xs ys:YG} {us ws:YE},Vals xs us->Vals ys ws->Vals (xs++ys) (us++ws)
 | _,_,_,_,.nil,s=>s
 | _,_,_,_,.cons r t,s=>.cons r (Vals.append t s)
theorem Vals.take:∀{xs:YG} {us:YE} (n:Nat),Vals xs us->Vals (xs.take n) (us.take n)
 | _,_,0,_=>.nil
 | _,_,_+1,.nil=>.nil
 | _,_,n+1,.cons r t=>.cons r (Vals.take n t)
theorem Vals.drop:∀{xs:YG} {us:YE} (n:Nat),Vals xs us->Vals (xs.drop n) (us.drop n)
 | _,_,0,r=>r
 | _,_,_+1,.nil=>.nil
 | _,_,n+1,.cons _ t=>Vals.drop n t
def Gs:Option V->Option Value->Prop
 | some v,some u=>RelV v u
 | none,none=>True
 | _,_=>False
def KV {κ : Type}:List (κ×V)->List (κ×Value)->Prop:=Paired λ(p:κ×V) (q:κ×Value)=>p.1=q.1/\RelV p.2 q.2
def kV:Key->V
 | .inl i=>.int i
 | .inr x=>.str x
inductive HO where
 | lst (xs:YG)
 | tup (xs:YG)
 | dK (kvs:List (Key×V)) | dT (kvs:List (List Key×V))
 | set (S:Int->Bool) (n:Nat)
 | ins (C dx:Addr) (fs:List (Str×V))
 | own (x:Addr)
 | xd (fs:List (Str×V))
 | met (f x:Addr)
 | rng (lo hi:Int)
 | frz (o:Obj) (u:HO)
 | tbl (ps:Array Value)
 | ext (φ : Heap->Prop)
abbrev Hp:=Addr->Option HO
def upd (H:Hp) (a:Addr) (o:HO):Hp:=λb=>if b=a then some o else H b
theorem Ab {H:Hp} {a:Addr} {o:HO}:upd H a o a=some o:=by unfold upd;rw[if_pos rfl]
theorem Aj {H:Hp} {a b:Addr} {o:HO} (h:b≠a):upd H a o b=H b:=by unfold upd;rw[if_neg h]
theorem Zh {H:Hp} {a:Addr} {o u:HO}:upd (upd H a o) a u=upd H a u:=by
 funext b;unfold upd;split <;> rfl
theorem dJ {H:Hp} {a b:Addr} {o u:HO} (h:H a=some o) (h':H b=some u) (d:o≠u):a≠b:=by
 intro e;subst e;rw[h] at h';exact d (Qby h')
theorem Ar {H:Hp} {a b:Addr} {o:HO} (h:H a=some o) (h':H b=none):a≠b:=by
 intro e;subst e;rw[h] at h';cases h'
section
variable (P:Program) (w:World)
def Az (H:Hp) (h:Heap) (a:Addr):HO->Prop
 | .lst xs=>xs.length<=sizeLine/\∃(its:YE) (n:Nat),Vals xs its/\h.get? a=some { cls:=.type "list",data:=.seq its.toArray n }
 | .tup xs=>xs.length<=sizeLine/\∃its:YE,Vals xs its/\IsTup h a its.toArray
 | .dK kvs=>kvs.length<=sizeLine/\(a == sysModules)=false/\∃vs,KV kvs vs/\h.DictOf (Bj P w) a vs
 | .dT kvs=>kvs.length<=sizeLine/\(a == sysModules)=false/\∃xs:List (List Key×Addr×Value),
   Paired (λ(p:List Key×V) (q:List Key×Addr×Value)=>p.1=q.1/\H q.2.1=some (.tup (p.1.map kV))/\RelV p.2 q.2.2) kvs xs /\
   ∃o es ep,h.get? a=some o/\o.ExactDict/\o.data=.dict es ep/\es.toList=xs.map (entryOfKey (tupleKind (Bj P w)))/\(xs.map (·.1)).Nodup
 | .set S n=>h.SetOf (intKind P w) a S n
 | .ins C dx fs=>H dx=some (.own a)/\fs.length<=1000/\dx≠a/\h.get? a=some (instObj C dx) /\
   ∃mA,h.Ns1 dx mA/\(∀f,Gs (fs.lookup f) (mA f))/\PySem.Within mA (fs.map (·.1))
 | .own _=>∃o,h.get? a=some o
 | .xd fs=>∃mA,h.Ns1 a mA/\∀f,Gs (fs.lookup f) (mA f)
 | .rng lo hi=>∃t u v,h.get? a=some { cls:=.type "range",data:=.fields #[.int lo t,.int hi u,.int 1 v] }
 | .frz o u=>h.get? a=some o/\Az H h a u
 | .tbl ps=>h.get? a=some { cls:=.none,data:=.fields ps }
 | .met f x=>h.get? a=some (PySem.W.methodObj (.ref f) (.ref x))
 | .ext φ=>φ h/\(∃o,h.get? a=some o)/\∀h1 h2:Heap,φ h1->(∀o,h1.get? a=some o->h2.get? a=some o)->φ h2
def HOk (H:Hp) (h:Heap):Prop:=∀a o,H a=some o->Az P w H h a o
end
section
variable {P:Program} {w:World} {H H':Hp} {h h':Heap} {a:Addr} {o:HO}
theorem Az.lt (x:Az P w H h a o):a < h.objs.size:=by
 cases o with
 | lst xs=>obtain⟨_,_,_,_,e⟩:=x;exact QbW e
 | tup xs=>obtain⟨_,_,_,p⟩:=x;exact p.lt
 | dK kvs=>obtain⟨_,_,_,_,o,_,_,e,_⟩:=x;exact QbW e
 | dT kvs=>obtain⟨_,_,_,_,o,_,_,e,_⟩:=x;exact QbW e
 | set S n=>obtain⟨o,_,_,_,e,_⟩:=x;exact QbW e
 | ins C dx fs=>obtain⟨_,_,_,e,_⟩:=x;exact QbW e
 | own y=>obtain⟨_,e⟩:=x;exact QbW e
 | xd fs=>obtain⟨_,⟨_,_,_,e,_⟩,_⟩:=x;exact QbW e
 | rng lo hi=>obtain⟨_,_,_,e⟩:=x;exact QbW e
 | frz ob u=>obtain⟨e,_⟩:=x;exact QbW e
 | tbl ps=>exact QbW (show h.get? a=some _ from x)
 | met f y=>exact QbW (show h.get? a=some _ from x)
 | ext φ=>obtain⟨_,⟨_,e⟩,_⟩:=x;exact QbW e
theorem Paired.Bt {α β : Type} {F G:α->β->Prop}:∀{l₁ : List α} {l₂ : List β},Paired F l₁ l₂->(∀a b,F a b->G a b)->Paired G l₁ l₂
 | _,_,.nil,_=>.nil
 | _,_,.cons r t,f=>.cons (f _ _ r) (Paired.Bt t f)
theorem Az.stay (x:Az P w H h a o) (k:∀b u,(b=a\/H b=some (.own a))->h.get? b=some u->h'.get? b=some u)
  (ho:∀b,H b=some (.own a)->H' b=some (.own a)) (ht:∀b xs,H b=some (.tup xs)->H' b=some (.tup xs)):Az P w H' h' a o:=by
 induction o with
 | lst xs=>obtain⟨z,its,n,r,e⟩:=x;exact⟨z,its,n,r,k _ _ (.inl rfl) e⟩
 | tup xs=>obtain⟨z,its,r,ob,e,c⟩:=x;exact⟨z,its,r,ob,k _ _ (.inl rfl) e,c⟩
 | dK kvs=>obtain⟨z,y,vs,r,ob,es,ep,e,c⟩:=x;exact⟨z,y,vs,r,ob,es,ep,k _ _ (.inl rfl) e,c⟩
 | dT kvs=>
  obtain⟨z,y,xs,r,ob,es,ep,e,c⟩:=x;exact⟨z,y,xs,Paired.Bt r λp q z=>⟨z.1,ht _ _ z.2.1,z.2.2⟩,ob,es,ep,k _ _ (.inl rfl) e,c⟩
 | set S n=>obtain⟨ob,es,ep,t,e,c⟩:=x;exact⟨ob,es,ep,t,k _ _ (.inl rfl) e,c⟩
 | ins C dx fs=>
  obtain⟨d,z,ne,e,mA,⟨od,es,ep,e2,c⟩,r⟩:=x;exact⟨ho _ d,z,ne,k _ _ (.inl rfl) e,mA,⟨od,es,ep,k _ _ (.inr d) e2,c⟩,r⟩
 | own y=>obtain⟨ob,e⟩:=x;exact⟨ob,k _ _ (.inl rfl) e⟩
 | xd fs=>obtain⟨mA,⟨od,es,ep,e,c⟩,r⟩:=x;exact⟨mA,⟨od,es,ep,k _ _ (.inl rfl) e,c⟩,r⟩
 | rng lo hi=>obtain⟨t,u,v,e⟩:=x;exact⟨t,u,v,k _ _ (.inl rfl) e⟩
 | frz ob u ih=>obtain⟨e,q⟩:=x;exact⟨k _ _ (.inl rfl) e,ih q⟩
 | tbl ps=>
  have e:h.get? a=some { cls:=.none,data:=.fields ps }:=x;show h'.get? a=some { cls:=.none,data:=.fields ps };exact k a _ (.inl rfl) e
 | met f y=>
  have e:h.get? a=some (PySem.W.methodObj (.ref f) (.ref y)):=x;show h'.get? a=some (PySem.W.methodObj (.ref f) (.ref y));exact k a _ (.inl rfl) e
 | ext φ=>obtain⟨p,⟨o,e⟩,st⟩:=x;exact⟨st _ _ p λo q=>k _ _ (.inl rfl) q,⟨o,k _ _ (.inl rfl) e⟩,st⟩
theorem HOk.lt (x:HOk P w H h) (e:H a=some o):a < h.objs.size:=(x a o e).lt
theorem HOk.fresh (x:HOk P w H h) (e:h.objs.size<=a):H a=none:=by
 cases q:H a with
 | none=>rfl
 | some u=>exact absurd (QaR (x.lt q) e) (QbT _)
theorem HOk.kept (x:HOk P w H h) (k:∀b u,h.get? b=some u->h'.get? b=some u):HOk P w H h':=λa o e=>
 (x a o e).stay (λb u _ q=>k b u q) (λ_ q=>q) λ_ _ q=>q
theorem HOk.laid (x:HOk P w H h) (k:∀b u,h.get? b=some u->h'.get? b=some u) (hp:h.objs.size<=a) (new:Az P w (upd H a o) h' a o):HOk P w (upd H a o) h':=λb u e=>by
 have hn:=x.fresh hp;by_cases hb:b=a
 ·subst hb;rw[Ab] at e;cases e;exact new
 ·rw[Aj hb] at e;exact (x b u e).stay (λc v _ q=>k c v q) (λc q=>by rw[Aj (Ar q hn)];exact q) λc xs q=>by rw[Aj (Ar q hn)];exact q
end
def Rd (H:Hp) (a:Addr) (u:HO):Prop:=H a=some u\/∃o,H a=some (.frz o u)
theorem Rd.of {H:Hp} {a:Addr} {u:HO} (h:H a=some u):Rd H a u:=.inl h
theorem Rd.ok {P:Program} {w:World} {H:Hp} {h:Heap} {a:Addr} {u:HO} (r:Rd H a u) (x:HOk P w H h):Az P w H h a u:=by
 rcases r with r |⟨o,r⟩
 ·exact x a u r
 ·obtain⟨_,q⟩:=x a _ r;exact q
def Mut:Option HO->Prop
 | some (.lst _)=>True
 | some (.dK _)=>True
 | some (.dT _)=>True
 | some (.set _ _)=>True
 | some (.ins _ _ _)=>True
 | some (.ext _)=>True
 | _=>False
section
variable {P:Program} {w:World} {H:Hp} {h h':Heap} {x e:Addr} {o':HO}
theorem HOk.write (ok:HOk P w H h) (mu:Mut (H x)) (he:e=x\/H e=some (.own x)) (k:∀b u,b≠e->h.get? b=some u->h'.get? b=some u) (heo:∃u,h'.get? e=some u)
  (new:Az P w (upd H x o') h' x o'):HOk P w (upd H x o') h':=λb u q=>by
 have bC:∀c y,H c=some (.own y)->c≠x:=λc y r z=>by subst z;rw[r] at mu;exact mu
 have GQ:∀c xs,H c=some (.tup xs)->c≠x:=λc xs r z=>by subst z;rw[r] at mu;exact mu
 by_cases hb:b=x
 ·subst hb;rw[Ab] at q;cases q;exact new
 ·rw[Aj hb] at q;by_cases hbe:b=e
  ·have q':H b=some (.own x):=by
    rcases he with z | z
    ·exact absurd (hbe.trans z) hb
    ·rw[hbe];exact z
   rw[q] at q';cases q';obtain⟨v,hv⟩:=heo;exact⟨v,by rw[hbe];exact hv⟩
  ·refine (ok b u q).stay (λc v hc r=>k c v ?_ r) (λc r=>by rw[Aj (bC c b r)];exact r) λc xs r=>by rw[Aj (GQ c xs r)];exact r
   rcases hc with rfl | hc
   ·exact hbe
   ·rintro rfl;rcases he with z | z
    ·exact bC c b hc z
    ·rw[hc] at z;cases z;exact hb rfl
end
structure Un (fs ex:List Addr) (H H':Hp) (h h':Heap):Prop where
 keep:∀b o,h.get? b=some o->H b=none->b∉fs->b∉ex->h'.get? b=some o
 slot:∀b o,h.get? b=some o->H b=none->b∈fs->b∉ex->∃sl,h'.get? b=some { o with slots:=sl }
 free:∀b o,h.get? b=some o->H b=none->b∉ex->H' b=none
 there:∀b o,h.get? b=some o->b∉ex->∃o',h'.get? b=some o'
 tups:∀b xs,H b=some (.tup xs)->H' b=some (.tup xs)
 Es:∀b o u,H b=some (.frz o u)->H' b=some (.frz o u)
 Fe:∀b ps,H b=some (.tbl ps)->∃more,H' b=some (.tbl (ps++more))
section
variable {fs fs' ex ex':List Addr} {H H1 H2:Hp} {h h1 h2 h':Heap} {a x e:Addr} {o:HO}
theorem Un.any (u:Un fs ex H H1 h h1) {b:Addr} {ob:Obj} (q:h.get? b=some ob) (n:H b=none) (hx:b∉ex):∃sl,h1.get? b=some { ob with slots:=sl }:=by
 by_cases hb:b∈fs
 ·exact u.slot b ob q n hb hx
 ·exact⟨ob.slots,u.keep b ob q n hb hx⟩
theorem Un.trans (a:Un fs ex H H1 h h1) (b:Un fs ex H1 H2 h1 h2):Un fs ex H H2 h h2 where
 keep:=λc ob q n hc hx=>b.keep c ob (a.keep c ob q n hc hx) (a.free c ob q n hx) hc hx
 slot:=λc ob q n hc hx=>by
  obtain⟨sl,e1⟩:=a.slot c ob q n hc hx;obtain⟨sl',e2⟩:=b.slot c _ e1 (a.free c ob q n hx) hc hx;exact⟨sl',e2⟩
 free:=λc ob q n hx=>by
  obtain⟨o',e1⟩:=a.there c ob q hx;exact b.free c o' e1 (a.free c ob q n hx) hx
 there:=λc ob q hx=>by
  obtain⟨o',e1⟩:=a.there c ob q hx;exact b.there c o' e1 hx
 tups:=λc xs q=>b.tups c xs (a.tups c xs q)
 Es:=λc ob xs q=>b.Es c ob xs (a.Es c ob xs q)
 Fe:=λc ps q=>by
  obtain⟨m1,e1⟩:=a.Fe c ps q;obtain⟨m2,e2⟩:=b.Fe c _ e1;exact⟨m1++m2,by rw[e2,Array.append_assoc]⟩
theorem Un.kept (k:∀b u,h.get? b=some u->h'.get? b=some u):Un fs ex H H h h':=
 ⟨λb ob q _ _ _=>k b ob q,λb ob q _ _ _=>⟨ob.slots,k b ob q⟩,λ_ _ _ n _=>n,λb ob q _=>⟨ob,k b ob q⟩,λ_ _ q=>q,λ_ _ _ q=>q,λ_ ps q=>⟨#[],by rw[q];simp⟩⟩
theorem Un.refl:Un fs ex H H h h:=Un.kept λ_ _ q=>q
theorem Un.laid (k:∀b u,h.get? b=some u->h'.get? b=some u) (hp:h.objs.size<=a) (hn:H a=none):Un fs ex H (upd H a o) h h' where
 keep:=λb u q _ _ _=>k b u q
 slot:=λb u q _ _ _=>⟨u.slots,k b u q⟩
 free:=λb u q n _=>by rw[Aj (QbX (QaR (QbW q) hp))];exact n
 there:=λb u q _=>⟨u,k b u q⟩
 tups:=λb xs q=>by rw[Aj (Ar q hn)];exact q
 Es:=λb u xs q=>by rw[Aj (Ar q hn)];exact q
 Fe:=λb ps q=>⟨#[],by rw[Aj (Ar q hn),q];simp⟩
theorem Un.write (mu:Mut (H x)) (he:e=x\/H e=some (.own x)) (k:∀b u,b≠e->h.get? b=some u->h'.get? b=some u) (heo:∃u,h'.get? e=some u):Un fs ex H (upd H x o) h h':=by
 have hx:∀b,H b=none->b≠x:=λb n z=>by subst z;rw[n] at mu;exact mu
 have hb:∀b,H b=none->b≠e:=λb n z=>by
  subst z;rcases he with r | r
  ·exact hx b n r
  ·rw[n] at r;cases r
 have hm:∀b u,H b=some u->¬Mut (some u)->b≠x:=λb u q nm z=>by subst z;rw[q] at mu;exact nm mu
 refine⟨λb u q n _ _=>k b u (hb b n) q,λb u q n _ _=>⟨u.slots,k b u (hb b n) q⟩,λb u q n _=>by rw[Aj (hx b n)];exact n,λb u q _=>?_,
  λb xs q=>by rw[Aj (hm b _ q λz=>z)];exact q,λb u xs q=>by rw[Aj (hm b _ q λz=>z)];exact q,λb ps q=>⟨#[],by rw[Aj (hm b _ q λz=>z),q];simp⟩⟩
 by_cases hbe:b=e
 ·subst hbe;exact heo
 ·exact⟨u,k b u hbe q⟩
theorem Un.mono (u:Un fs ex H H1 h h1) (hs:∀b∈fs,b∈fs') (hx:∀b∈ex,b∈ex'):Un fs' ex' H H1 h h1:=
 ⟨λb ob q n hb he=>u.keep b ob q n (λz=>hb (hs b z)) λz=>he (hx b z),λ_ _ q n _ he=>u.any q n λz=>he (hx _ z),λb ob q n he=>u.free b ob q n λz=>he (hx b z),λb ob q he=>u.there b ob q λz=>he (hx b z),u.tups,u.Es,u.Fe⟩
end
def trk (h:Heap) (H:Hp):List Addr:=(List.range h.objs.size).filter λa=>(H a).isSome
def JK (h:Heap) (H:Hp):Heap:=hideAll h (trk h H)
theorem Ws (h:Heap) (H:Hp):(JK h H).objs.size=h.objs.size:=PySem.W.hideAll_size _ _
theorem X8 {h:Heap} {H:Hp} {b:Addr} {o:Obj} (e:h.get? b=some o) (n:H b=none):(JK h H).get? b=some o:=
 hideAll_get _ e λhm=>by
  have q:(H b).isSome=true:=(List.mem_filter.mp hm).2;rw[n] at q;simp at q
theorem ZD {h:Heap} {H:Hp} {b:Addr} {o:Obj} (e:(JK h H).get? b=some o):h.get? b=some o/\H b=none:=by
 have e':h.get? b=some o:=PySem.W.of_hideAll (trk h H) e;refine⟨e',?_⟩;cases q:H b with
 | none=>rfl
 | some x=>
  have hm:b∈trk h H:=List.mem_filter.mpr ⟨List.mem_range.mpr (QbW e'),by simp[q]⟩;have z:(JK h H).get? b=none:=PySem.W.hideAll_none (trk h H) hm;rw[z] at e;cases e
def Z7 (g h:Heap) (L:Addr):YC:=(List.range h.objs.size).filterMap λa=>if a=L\/(g.get? a).isSome=true then none else (h.get? a).map λo=>(a,o)
def rest (g h:Heap) (L d:Addr):YC:=(Z7 g h L).filter λp=>decide (p.1≠d)
structure Mod (K:YD) (mg:YB) (base:Heap):Prop where
 kin:K.In base
 glob:base.Ns mainGlobals mg
 blt:∃mb,base.Ns builtinsNs mb/\∀x:Str,x≠"__name__"->mb x=bootBuiltins x
 nolimit:base.NoLimit
structure Cx where
 prog:Program
 w:World
 K:YD
 mg:YB
 base:Heap
 A:Around
 N:YF
 s₀ : Shared
 H₀ : Hp
 env:Env
 outer:List Env
 stack:List Env
 ex:List Addr
 fn:Str->Bool
 calm:Bool
 pn:YC
 xe:YA
def frs (l:List Env):List Addr:=l.filterMap (·.frame)
abbrev Cx.fs (X:Cx):List Addr:=frs X.outer
def Vis (sc:Scope) (x:Str):Prop:=sc.names.lookup x=some .local\/sc.names.lookup x=some .cell\/sc.names.lookup x=some .free
def Loc (sc:Scope) (x:Str):Prop:=sc.names.lookup x=some .local\/sc.names.lookup x=some .cell
def Look (env:Env) (h:Heap) (m:YB) (x:Str) (u:Value):Prop:=
 (env.kindOf x=some .local/\m x=some u)\/((env.kindOf x=some .cell\/env.kindOf x=some .free)/\∃c,env.cells.lookup x=some c/\h.IsCell c (some u))
structure Cx.Ok (X:Cx):Prop where
 mod:Mod X.K X.mg X.base
 kind:X.env.scope.kind=.function
 glob:X.env.globals=mainGlobals
 blt:X.env.builtins=builtinsNs
 above:X.s₀.heap.objs.size<=X.env.locals
 inj:∀x y c,X.env.cells.lookup x=some c->X.env.cells.lookup y=some c->x=y
 has:∀x,(X.env.kindOf x=some .cell\/X.env.kindOf x=some .free)->∃c,X.env.cells.lookup x=some c
 cab:∀x c,X.fn x=true->X.env.cells.lookup x=some c->X.s₀.heap.objs.size<=c
 hd:X.calm=true->X.A.handled=none
 frames:X.A.frames=some X.stack
 stk:X.stack=X.outer\/(X.stack=X.env::X.outer/\X.env.frame=some X.env.locals)
 exf:∀b∈X.ex,b≠X.env.locals/\∀x c,X.env.cells.lookup x=some c->c≠b
 bs:∀b o,X.base.get? b=some o->X.s₀.heap.get? b=some o/\X.H₀ b=none
 bsz:X.base.objs.size<=X.s₀.heap.objs.size
 Og:∀b o,X.base.get? b=some o->b∉X.ex
 Kw:∀b∈X.ex,b∉X.fs
 Gm:X.s₀.heap.FunFrames X.base X.outer
 frf:∀b∈X.fs,X.H₀ b=none
structure Inv (X:Cx) (jb:YC) (U : List (Option V)) (H:Hp) (s:Shared):Prop where
 ok:X.Ok
 os:s.os=X.s₀.os
 bare:AllBare s.gens
 base:Un X.fs X.ex X.H₀ H X.s₀.heap s.heap
 loc:∃m,s.heap.Ns X.env.locals m/\∀(i:Nat) (x:Str) (v:V),X.N[i]?=some x->U[i]?=some (some v)->Vis X.env.scope x->∃u,RelV v u/\Look X.env s.heap m x u
 cell:∀x c,X.env.cells.lookup x=some c->∃v,s.heap.IsCell c v
 free:H X.env.locals=none
 DW:∀x c,X.env.cells.lookup x=some c->H c=none
 pin:∀p∈X.pn++jb,s.heap.get? p.1=some p.2/\H p.1=none/\p.1≠X.env.locals/\p.1∉X.fs/\∀v,p.2.data≠.cell v
 hok:HOk X.prog X.w H s.heap
 len:U.length=X.N.length
section
variable {X:Cx} {jb:YC} {U : List (Option V)} {H H':Hp} {s:Shared} {h':Heap}
theorem Cx.Ok.fL (ok:X.Ok) {b:Addr} {o:Obj} (e:X.base.get? b=some o):b∉X.fs:=λhb=>by
 have:=(ok.Gm.mem hb).1;rw[e] at this;cases this
theorem Inv.bs (I:Inv X jb U H s):∀b o,X.base.get? b=some o->s.heap.get? b=some o/\H b=none:=λb o e=>
 ⟨I.base.keep b o (I.ok.bs b o e).1 (I.ok.bs b o e).2 (I.ok.fL e) (I.ok.Og b o e),I.base.free b o (I.ok.bs b o e).1 (I.ok.bs b o e).2 (I.ok.Og b o e)⟩
theorem Inv.bk (I:Inv X jb U H s):∀b o,X.base.get? b=some o->s.heap.get? b=some o:=λb o e=>(I.bs b o e).1
theorem Inv.mod (I:Inv X jb U H s):Mod X.K X.mg X.base:=I.ok.mod
theorem Inv.kIn (I:Inv X jb U H s):X.K.In s.heap:=I.ok.mod.kin.keeps I.bk
theorem Inv.nolimit (I:Inv X jb U H s):s.heap.NoLimit:=I.ok.mod.nolimit.keeps I.bk
theorem Inv.fr (I:Inv X jb U H s):∃m,Fr X.base X.env.locals s.heap m:=
 let ⟨m,hn,_⟩:=I.loc
 ⟨m,hn,I.bk,QbY I.ok.bsz I.ok.above⟩
theorem Inv.lt (I:Inv X jb U H s):X.env.locals < s.heap.objs.size:=let ⟨_,hn,_⟩:=I.loc;hn.lt
theorem Inv.sz (I:Inv X jb U H s):X.s₀.heap.objs.size<=s.heap.objs.size:=QbY I.ok.above (Qca I.lt)
theorem Inv.bD (I:Inv X jb U H s) {a:Addr} (h:s.heap.objs.size<=a):a∉X.fs:=λhb=>by
 obtain⟨_,o,ho,_⟩:=I.ok.Gm.mem hb;exact absurd (QaR (QbW ho) (QbY I.sz h)) (QbT _)
theorem Inv.cne (I:Inv X jb U H s):∀x c,X.env.cells.lookup x=some c->c≠X.env.locals:=λx c e z=>by
 obtain⟨v,o,ho,hd⟩:=I.cell x c e;obtain⟨m,⟨o',es,ep,ho',hd',_⟩,_⟩:=I.loc;rw[z,ho'] at ho;cases ho;rw[hd'] at hd;cases hd
theorem Inv.Gm (I:Inv X jb U H s):s.heap.FunFrames X.base X.outer:=by
 have all:∀(l:List Env),(∀b∈frs l,b∈X.fs)->X.s₀.heap.FunFrames X.base l->s.heap.FunFrames X.base l:=by
  intro l
  induction l with
  | nil=>intro _ _;trivial
  | cons env r ih=>
   intro hs hl;obtain⟨hk,⟨L,o,hf,hn,ho,hd⟩,hr⟩:=hl;have hL:L∈X.fs:=hs L (by unfold frs;rw[List.filterMap_cons,hf];exact QaO);obtain⟨sl,e⟩:=I.base.slot L o ho (I.ok.frf L hL) hL λz=>I.ok.Kw L z hL;exact⟨hk,⟨L,_,hf,hn,e,hd⟩,ih (λb hb=>hs b (by unfold frs;rw[List.filterMap_cons,hf];exact QaC _ hb)) hr⟩
 exact all X.outer (λ_ hb=>hb) I.ok.Gm
theorem Inv.stack (I:Inv X jb U H s):s.heap.FunFrames X.base X.stack:=by
 rcases I.ok.stk with e |⟨e,hf⟩
 ·rw[e];exact I.Gm
 ·rw[e];obtain⟨m,hn,_⟩:=I.loc;refine .cons (by rw[I.ok.kind];decide) hf hn ?_ I.Gm;exact Heap.get?_none_of_le (QbY I.ok.bsz I.ok.above)
theorem Inv.Qu (I:Inv X jb U H s):∀b∈frs X.stack,b∈X.env.locals::X.fs:=λb hb=>by
 rcases I.ok.stk with e |⟨e,hf⟩
 ·rw[e] at hb;exact QaC _ hb
 ·rw[e] at hb;unfold frs at hb;rw[List.filterMap_cons,hf] at hb;exact hb
theorem Inv.NP (I:Inv X jb U H s):∀b∈frs X.stack,H b=none:=λb hb=>by
 rcases QbP.mp (I.Qu b hb) with e | hb
 ·rw[e];exact I.free
 ·obtain⟨_,o,ho,_⟩:=I.ok.Gm.mem hb;exact I.base.free b o ho (I.ok.frf b hb) λz=>I.ok.Kw b z hb
theorem Inv.step {g':Array GenState} {t':Nat} {d':Drawn} {ch:List Addr} (I:Inv X jb U H s)
  (hch:∀b∈ch,(b∈X.ex\/X.s₀.heap.objs.size<=b)/\b≠X.env.locals/\(∀x c,X.env.cells.lookup x=some c->c≠b)/\∀p∈X.pn++jb,p.1≠b)
  (keep:∀b o,b≠X.env.locals->b∉X.fs->b∉ch->s.heap.get? b=some o->H b=none->h'.get? b=some o)
  (slot:∀b o,b≠X.env.locals->b∈X.fs->b∉ch->s.heap.get? b=some o->H b=none->∃sl,h'.get? b=some { o with slots:=sl }) (free:∀b o,b∉ch->s.heap.get? b=some o->H b=none->H' b=none)
  (there:∀b o,b∉ch->s.heap.get? b=some o->∃o',h'.get? b=some o')
  (tups:∀b xs,H b=some (.tup xs)->H' b=some (.tup xs)) (Es:∀b o u,H b=some (.frz o u)->H' b=some (.frz o u)) (Fe:∀b ps,H b=some (.tbl ps)->∃more,H' b=some (.tbl (ps++more)))
  (ns:∀m,s.heap.Ns X.env.locals m->h'.Ns X.env.locals m) (hok:HOk X.prog X.w H' h') (hg:AllBare g') :
  Inv X jb U H' { s with heap:=h',gens:=g',drawn:=d',toks:=t' }:=by
 have neL:∀b o,X.s₀.heap.get? b=some o->b≠X.env.locals:=λb o e=>QbX (QaR (QbW e) I.ok.above);have neC:∀b o,X.s₀.heap.get? b=some o->b∉X.ex->b∉ch:=λb o e hx hb=>by
  rcases (hch b hb).1 with z | z
  ·exact hx z
  ·exact absurd (QaR (QbW e) z) (QbT _)
 have cellK:∀x c,X.env.cells.lookup x=some c->∀v,s.heap.IsCell c v->h'.IsCell c v:=λx c e v ⟨o,ho,hd⟩=>by
  have nch:c∉ch:=λz=>(hch c z).2.2.1 x c e rfl;by_cases hc:c∈X.fs
  ·obtain⟨sl,q⟩:=slot c o (I.cne x c e) hc nch ho (I.DW x c e);exact⟨_,q,hd⟩
  ·exact⟨o,keep c o (I.cne x c e) hc nch ho (I.DW x c e),hd⟩
 refine⟨I.ok,I.os,hg,⟨λb o e n hb hx=>?_,λb o e n hb hx=>?_,λb o e n hx=>?_,λb o e hx=>?_,λb xs e=>tups b xs (I.base.tups b xs e),λb o xs e=>Es b o xs (I.base.Es b o xs e),λb ps e=>?_⟩,?_,λx c e=>?_,?_,λx c e=>?_,λp hp=>?_,hok,I.len⟩
 ·exact keep b o (neL b o e) hb (neC b o e hx) (I.base.keep b o e n hb hx) (I.base.free b o e n hx)
 ·obtain⟨sl,e1⟩:=I.base.slot b o e n hb hx;obtain⟨sl',e2⟩:=slot b _ (neL b o e) hb (neC b o e hx) e1 (I.base.free b o e n hx);exact⟨sl',e2⟩
 ·obtain⟨o',e1⟩:=I.base.there b o e hx;exact free b o' (neC b o e hx) e1 (I.base.free b o e n hx)
 ·obtain⟨o',e1⟩:=I.base.there b o e hx;exact there b o' (neC b o e hx) e1
 ·obtain⟨m1,e1⟩:=I.base.Fe b ps e;obtain⟨m2,e2⟩:=Fe b _ e1;exact⟨m1++m2,by rw[e2,Array.append_assoc]⟩
 ·obtain⟨m,hn,hl⟩:=I.loc;refine⟨m,ns m hn,λi x v e1 e2 e3=>?_⟩;obtain⟨u,r,l⟩:=hl i x v e1 e2 e3;refine⟨u,r,?_⟩;rcases l with l |⟨k,c,e,z⟩
  ·exact .inl l
  ·exact .inr ⟨k,c,e,cellK x c e _ z⟩
 ·obtain⟨v,z⟩:=I.cell x c e;exact⟨v,cellK x c e v z⟩
 ·obtain⟨m,⟨o,_,_,ho,_⟩,_⟩:=I.loc;exact free _ o (λz=>(hch _ z).2.1 rfl) ho I.free
 ·obtain⟨v,o,ho,hd⟩:=I.cell x c e;exact free c o (λz=>(hch c z).2.2.1 x c e rfl) ho (I.DW x c e)
 ·obtain⟨e,n,ne,nf,d⟩:=I.pin p hp;have nch:p.1∉ch:=λz=>(hch p.1 z).2.2.2 p hp rfl;exact⟨keep p.1 p.2 ne nf nch e n,free p.1 p.2 nch e n,ne,nf,d⟩
theorem Inv.un {t':Nat} (I:Inv X jb U H s) (u:Un X.fs [] H H' s.heap h') (hok:HOk X.prog X.w H' h'):Inv X jb U H' { s with heap:=h',toks:=t' }:=by
 obtain⟨m,⟨o,es,ep,ho,r⟩,_⟩:=id I.loc;obtain⟨sl,hL⟩:=u.any ho I.free (by simp);exact I.step (g':=s.gens) (d':=s.drawn) (ch:=[]) (λ_ z=>nomatch z) (λb o _ hb _ e n=>u.keep b o e n hb (by simp)) (λb o _ hb _ e n=>u.slot b o e n hb (by simp)) (λb o _ e n=>u.free b o e n (by simp)) (λb o _ e=>u.there b o e (by simp)) u.tups u.Es u.Fe (λm' hm=>by
  obtain⟨o',es',ep',ho',r'⟩:=hm;rw[ho] at ho';cases ho';exact⟨_,es',ep',hL,r'⟩) hok I.bare
theorem Inv.call {g':Array GenState} {t':Nat} {d':Drawn} {ch:List Addr} (I:Inv X jb U H s) (u:Un (frs X.stack) ch H H' s.heap h') (hok:HOk X.prog X.w H' h') (hg:AllBare g')
  (hch:∀b∈ch,(b∈X.ex\/X.s₀.heap.objs.size<=b)/\b≠X.env.locals/\(∀x c,X.env.cells.lookup x=some c->c≠b)/\∀p∈X.pn++jb,p.1≠b) :
  Inv X jb U H' { s with heap:=h',gens:=g',drawn:=d',toks:=t' }:=by
 obtain⟨m,⟨o,es,ep,ho,r⟩,_⟩:=id I.loc;obtain⟨sl,hL⟩:=u.any ho I.free λz=>(hch _ z).2.1 rfl;exact I.step (ch:=ch) hch (λb o hL hb hc e n=>u.keep b o e n (λz=>(QbP.mp (I.Qu b z)).elim hL hb) hc) (λb o _ _ hc e n=>u.any e n hc) (λb o hc e n=>u.free b o e n hc) (λb o hc e=>u.there b o e hc) u.tups u.Es u.Fe (λm' hm=>by
  obtain⟨o',es',ep',ho',r'⟩:=hm;rw[ho] at ho';cases ho';exact⟨_,es',ep',hL,r'⟩) hok hg
theorem Inv.turned {t':Nat} {it:Addr} (I:Inv X jb U H s) (k:∀b o,b≠it->s.heap.get? b=some o->h'.get? b=some o) (hn:H it=none) (hL:it≠X.env.locals)
  (h1:it∈X.ex\/X.s₀.heap.objs.size<=it) (h2:∀x c,X.env.cells.lookup x=some c->c≠it) (h3:∀p∈X.pn++jb,p.1≠it):Inv X jb U H { s with heap:=h',toks:=t' }:=by
 have nit:∀b u,H b=some u->b≠it:=λb u e z=>by rw[z,hn] at e;cases e
 refine I.step (g':=s.gens) (d':=s.drawn) (ch:=[it]) (λb hb=>?_) (λb o _ _ hc e _=>k b o (λz=>hc (by simp[z])) e) (λb o _ _ hc e _=>⟨o.slots,k b o (λz=>hc (by simp[z])) e⟩) (λ_ _ _ _ n=>n)
  (λb o hc e=>⟨o,k b o (λz=>hc (by simp[z])) e⟩) (λ_ _ e=>e) (λ_ _ _ e=>e) (λb ps e=>⟨#[],by rw[e];simp⟩) (λm hm=>?_) (λb u e=>?_) I.bare
 ·have e:b=it:=by simpa using hb
  subst e;exact⟨h1,hL,h2,h3⟩
 ·obtain⟨o,es,ep,ho,r⟩:=hm;exact⟨o,es,ep,k _ o (Ne.symm hL) ho,r⟩
 ·refine (I.hok b u e).stay (λc v hc q=>k c v ?_ q) (λ_ q=>q) λ_ _ q=>q;rcases hc with z | z
  ·rw[z];exact nit b u e
  ·exact nit c _ z
theorem Inv.tok (I:Inv X jb U H s) (t:Nat):Inv X jb U H { s with toks:=t }:=I.un (h':=s.heap) (t':=t) Un.refl I.hok
theorem Inv.kept {t':Nat} (I:Inv X jb U H s) (k:∀b u,s.heap.get? b=some u->h'.get? b=some u):Inv X jb U H { s with heap:=h',toks:=t' }:=I.un (Un.kept k) (I.hok.kept k)
theorem Inv.laid {a:Addr} {o:HO} {t':Nat} (I:Inv X jb U H s) (k:∀b u,s.heap.get? b=some u->h'.get? b=some u) (hp:s.heap.objs.size<=a) (new:Az X.prog X.w (upd H a o) h' a o) :
  Inv X jb U (upd H a o) { s with heap:=h',toks:=t' }:=I.un (Un.laid k hp (I.hok.fresh hp)) (I.hok.laid k hp new)
theorem Inv.write {x e:Addr} {o:HO} {t':Nat} (I:Inv X jb U H s) (mu:Mut (H x)) (he:e=x\/H e=some (.own x)) (k:∀b u,b≠e->s.heap.get? b=some u->h'.get? b=some u) (heo:∃u,h'.get? e=some u)
  (new:Az X.prog X.w (upd H x o) h' x o):Inv X jb U (upd H x o) { s with heap:=h',toks:=t' }:=I.un (Un.write mu he k heo) (I.hok.write mu he k heo new)
theorem Inv.N8 {Um:YC} (I:Inv X jb U H s) (h:∀p∈Um,s.heap.get? p.1=some p.2/\H p.1=none/\p.1≠X.env.locals/\p.1∉X.fs/\∀v,p.2.data≠.cell v):Inv X Um U H s:=
 ⟨I.ok,I.os,I.bare,I.base,I.loc,I.cell,I.free,I.DW,λp hp=>(Qbv.mp hp).elim (λz=>I.pin p (QaF _ z)) (h p),I.hok,I.len⟩
theorem QX {N:YF} (hN:N.Nodup) {i j:Nat} {x:Str} (a:N[i]?=some x) (b:N[j]?=some x):i=j:=by
 obtain⟨h1,e1⟩:=Qag.mp a;obtain⟨h2,e2⟩:=Qag.mp b;exact (List.getElem_inj hN).mp (e1.trans e2.symm)
theorem Vw {M:Model} {A:Around} {E:YA} {i:Nat} {x:Str} {v:V} {u:Value} {Q:YH} (I:Inv X jb U H s) (hN:X.N.Nodup) (hi:X.N[i]?=some x) (hx:Loc X.env.scope x) (r:RelV v u)
  (h:∀s',Inv X jb (U.set i (some v)) H s'->(∃a,Heap.SameBut a s.heap s'.heap/\(a=X.env.locals\/X.env.cells.lookup x=some a))->Q () s') (hf:X.fn x=true\/X.env.scope.names.lookup x=some .local:=by first | exact .inl rfl | exact .inr rfl | assumption):wpAny M A (storeName X.env x u) Q E s:=by
 obtain⟨m,hn,hl⟩:=id I.loc;have hcls:(X.env.scope.kind == .class || (X.env.scope.kind == .module&&X.env.locals != X.env.globals))=false:=by rw[I.ok.kind];rfl
 have hiσ : i < U.length:=by rw[I.len];exact (Qag.mp hi).1
 have cne:=I.cne;have tracked:∀{a:Addr} {h':Heap},(∃o,s.heap.get? a=some o/\H a=none)->Heap.SameBut a s.heap h'->HOk X.prog X.w H h':=λ{a h'} ha hs b ob e=>by
  obtain⟨_,_,hfree⟩:=ha;refine (I.hok b ob e).stay (λc w' hc q=>(hs.2 c ?_).trans q) (λ_ q=>q) λ_ _ q=>q;rintro rfl;rcases hc with rfl | hc
  ·rw[hfree] at e;cases e
  ·rw[hfree] at hc;cases hc
 rcases hx with hk | hk
 ·refine wpAny_storeName_local hk hn (λh' hn' hs=>?_) hcls;obtain⟨oL,_,_,hoL,_⟩:=id hn;refine h _ ⟨I.ok,I.os,I.bare,⟨λb o e n hb hx=>?_,λb o e n hb hx=>?_,I.base.free,λb o e hx=>?_,I.base.tups,I.base.Es,I.base.Fe⟩,⟨_,hn',λj y v' e1 e2 e3=>?_⟩,λy c e=>?_,I.free,I.DW,λp hp=>?_,tracked ⟨oL,hoL,I.free⟩ hs,by simpa using I.len⟩ ⟨_,hs,.inl rfl⟩
  ·exact (hs.2 b (QbX (QaR (QbW e) I.ok.above))).trans (I.base.keep b o e n hb hx)
  ·obtain⟨sl,e1⟩:=I.base.slot b o e n hb hx;exact⟨sl,(hs.2 b (QbX (QaR (QbW e) I.ok.above))).trans e1⟩
  ·obtain⟨o',e1⟩:=I.base.there b o e hx;exact⟨o',(hs.2 b (QbX (QaR (QbW e) I.ok.above))).trans e1⟩
  ·by_cases hj:j=i
   ·subst hj;rw[hi] at e1;cases e1;rw[List.getElem?_set_self hiσ] at e2;cases e2;exact⟨u,r,.inl ⟨hk,by simp⟩⟩
   ·rw[List.getElem?_set_ne (Ne.symm hj)] at e2;obtain⟨u',r',q⟩:=hl j y v' e1 e2 e3;refine⟨u',r',?_⟩;rcases q with⟨k,e⟩|⟨k,c,e,z⟩
    ·refine .inl ⟨k,?_⟩;have:y≠x:=λe=>hj (QX hN e1 (e ▸ hi));simp[this,e]
    ·exact .inr ⟨k,c,e,z.sameBut hs (cne y c e)⟩
  ·obtain⟨w',z⟩:=I.cell y c e;exact⟨w',z.sameBut hs (cne y c e)⟩
  ·obtain⟨e,n,ne,nf,d⟩:=I.pin p hp;exact⟨(hs.2 p.1 ne).trans e,n,ne,nf,d⟩
 ·have hfn:X.fn x=true:=by
   rcases hf with z | z
   ·exact z
   ·rw[z] at hk;cases hk
  obtain⟨c,hc⟩:=I.ok.has x (.inl hk);obtain⟨w',z⟩:=I.cell x c hc;refine wpAny_storeName_cell I.ok.kind hk hc z (λh' hc' hs=>?_);obtain⟨oc,hoc,iB⟩:=id z;refine h { s with heap:=h' } ⟨I.ok,I.os,I.bare,⟨λb o e n hb hx=>?_,λb o e n hb hx=>?_,I.base.free,λb o e hx=>?_,I.base.tups,I.base.Es,I.base.Fe⟩,⟨m,hn.sameBut hs (Ne.symm (cne x c hc)),λj y v' e1 e2 e3=>?_⟩,λy c' e=>?_,I.free,I.DW,λp hp=>?_,tracked ⟨oc,hoc,I.DW x c hc⟩ hs,by simpa using I.len⟩ ⟨c,hs,.inr hc⟩
  ·exact (hs.2 b (QbX (QaR (QbW e) (I.ok.cab x c hfn hc)))).trans (I.base.keep b o e n hb hx)
  ·obtain⟨sl,e1⟩:=I.base.slot b o e n hb hx;exact⟨sl,(hs.2 b (QbX (QaR (QbW e) (I.ok.cab x c hfn hc)))).trans e1⟩
  ·obtain⟨o',e1⟩:=I.base.there b o e hx;exact⟨o',(hs.2 b (QbX (QaR (QbW e) (I.ok.cab x c hfn hc)))).trans e1⟩
  ·by_cases hj:j=i
   ·subst hj;rw[hi] at e1;cases e1;rw[List.getElem?_set_self hiσ] at e2;cases e2;exact⟨u,r,.inr ⟨.inl hk,c,hc,hc'⟩⟩
   ·rw[List.getElem?_set_ne (Ne.symm hj)] at e2;obtain⟨u',r',q⟩:=hl j y v' e1 e2 e3;refine⟨u',r',?_⟩;rcases q with q |⟨k,c',e,z'⟩
    ·exact .inl q
    ·refine .inr ⟨k,c',e,z'.sameBut hs ?_⟩;rintro rfl;exact hj (QX hN e1 (I.ok.inj _ _ _ e hc ▸ hi))
  ·by_cases hcc:c'=c
   ·subst hcc;exact⟨_,hc'⟩
   ·obtain⟨w2,z2⟩:=I.cell y c' e;exact⟨w2,z2.sameBut hs hcc⟩
  ·obtain⟨e,n,ne,nf,d⟩:=I.pin p hp;refine⟨(hs.2 p.1 ?_).trans e,n,ne,nf,d⟩;intro q;rw[q,hoc] at e;have q':oc=p.2:=Qby e;exact d w' (by rw[<-q'];exact iB)
theorem Lq {M:Model} {A:Around} {E:YA} {i:Nat} {x:Str} {v:V} {u:Value} {Q:YH} (I:Inv X jb U H s) (hN:X.N.Nodup) (hi:X.N[i]?=some x) (hx:Loc X.env.scope x) (r:RelV v u)
  (h:∀s',Inv X jb (U.set i (some v)) H s'->Q () s') (hf:X.fn x=true\/X.env.scope.names.lookup x=some .local:=by first | exact .inl rfl | exact .inr rfl | assumption):wpAny M A (storeName X.env x u) Q E s:=
 Vw I hN hi hx r (λs' I' _=>h s' I') hf
theorem Inv.call' {s':Shared} {ch:List Addr} (I:Inv X jb U H s) (ho:s'.os=s.os) (u:Un (frs X.stack) ch H H' s.heap s'.heap) (hok:HOk X.prog X.w H' s'.heap) (hg:AllBare s'.gens)
  (hch:∀b∈ch,(b∈X.ex\/X.s₀.heap.objs.size<=b)/\b≠X.env.locals/\(∀x c,X.env.cells.lookup x=some c->c≠b)/\∀p∈X.pn++jb,p.1≠b):Inv X jb U H' s':=by
 obtain⟨h',g',d',t',o'⟩:=s';have e:o'=s.os:=ho;subst e;exact I.call (g':=g') (t':=t') (d':=d') u hok hg hch
end
abbrev XK:=Value->Option Addr->Hp->Prop
abbrev St:=List (Option V)
abbrev VK:=V->Hp->Prop
abbrev TE:=St->Hp->VK->Prop
abbrev TT:=St->Hp->(Bool->Hp->Prop)->Prop
abbrev TA:=St->Hp->(YG->Hp->Prop)->Prop
structure Ends where
 nx:St->Hp->Prop
 rt:VK
 bk:St->Hp->Prop:=λ_ _=>False
 ct:St->Hp->Prop:=λ_ _=>False
abbrev YO:=St->Hp->Prop
abbrev TS:=Ends->YO
def EP (X:Cx) (jb:YC) (U : St) (Q:VK) (u:Value) (s':Shared):Prop:=∃v H',Inv X jb U H' s'/\RelV v u/\Q v H'
def TP (X:Cx) (jb:YC) (U : St) (Q:Bool->Hp->Prop) (b:Bool) (s':Shared):Prop:=∃H',Inv X jb U H' s'/\Q b H'
def AP (X:Cx) (jb:YC) (U : St) (Q:YG->Hp->Prop) (us:YE) (s':Shared):Prop:=∃vs H',Inv X jb U H' s'/\Vals vs us/\Q vs H'
def SP (X:Cx) (jb:YC) (D:Ends) (f:Flow) (s':Shared):Prop:=
 match f with
 | .next=>∃ σ' H',Inv X jb σ' H' s'/\D.nx σ' H'
 | .brk=>∃ σ' H',Inv X jb σ' H' s'/\D.bk σ' H'
 | .cont=>∃ σ' H',Inv X jb σ' H' s'/\D.ct σ' H'
 | .ret u=>∃v σ' H',Inv X jb σ' H' s'/\RelV v u/\D.rt v H'
def PE (X:Cx) (e:Expr) (t:TE):Prop:=
 ∀(jb:YC) (s:Shared) (U : St) (H:Hp) (Q:VK),Inv X jb U H s->t U H Q->wpAny (model X.prog X.w) X.A (eval e X.env) (EP X jb U Q) X.xe s
def PT (X:Cx) (e:Expr) (t:TT):Prop:=
 ∀(jb:YC) (s:Shared) (U : St) (H:Hp) (Q:Bool->Hp->Prop),Inv X jb U H s->t U H Q->wpAny (model X.prog X.w) X.A (isTrue e X.env (eval e X.env)) (TP X jb U Q) X.xe s
def PW (X:Cx) (e:Expr) (t:TT):Prop:=
 ∀(whole:Sem Value) (jb:YC) (s:Shared) (U : St) (H:Hp) (Q:Bool->Hp->Prop),Inv X jb U H s->t U H Q->wpAny (model X.prog X.w) X.A (isTrue e X.env whole) (TP X jb U Q) X.xe s
theorem PW.pt {X:Cx} {e:Expr} {t:TT} (h:PW X e t):PT X e t:=h _
def PA (X:Cx) (es:YJ) (t:TA):Prop:=
 ∀(pos:Pos) (jb:YC) (s:Shared) (U : St) (H:Hp) (Q:YG->Hp->Prop),Inv X jb U H s->t U H Q->wpAny (model X.prog X.w) X.A (spliced (backTo pos (starEach es X.env))) (AP X jb U Q) X.xe s
def PS (X:Cx) (st:Stmt) (t:TS):Prop:=
 ∀(jb:YC) (s:Shared) (U : St) (H:Hp) (D:Ends),Inv X jb U H s->t D U H->wpAny (model X.prog X.w) X.A (exec st X.env) (SP X jb D) X.xe s
def PSs (X:Cx) (st:List Stmt) (t:TS):Prop:=
 ∀(jb:YC) (s:Shared) (U : St) (H:Hp) (D:Ends),Inv X jb U H s->t D U H->wpAny (model X.prog X.w) X.A (execs st X.env) (SP X jb D) X.xe s
theorem thn {α : Type} {t:Sem α} {Q Q':α->Shared->Prop} {M:Model} {A:Around} {E:YA} {s:Shared} (h:wpAny M A t Q E s) (hQ:∀a s,Q a s->Q' a s):wpAny M A t Q' E s:=Qck h hQ λ_ _ x=>x
section
variable {X:Cx}
theorem bin {a b:Expr} {ta tb:TE} (ha:PE X a ta) (hb:PE X b tb) {jb:YC} {s:Shared} {U : St} {H:Hp} {R:V->V->Hp->Prop} (I:Inv X jb U H s) (h:ta U H λx H1=>tb U H1 λy H2=>R x y H2)
  {α : Type} {Q:α->Shared->Prop} {f:Value->Value->Sem α}
  (hf:∀v u s2 x y H2,Inv X jb U H2 s2->RelV x v->RelV y u->R x y H2->wpAny (model X.prog X.w) X.A (f v u) Q X.xe s2) :
  wpAny (model X.prog X.w) X.A (eval a X.env) (λv s₁=>wpAny (model X.prog X.w) X.A (eval b X.env) (λu s₂=>wpAny (model X.prog X.w) X.A (f v u) Q X.xe s₂) X.xe s₁) X.xe s:=by
 refine thn (ha jb s U H _ I h) λv s1 zz=>?_;obtain⟨x,H1,I1,r1,q1⟩:=zz;refine thn (hb jb s1 U H1 _ I1 q1) λu s2 zz=>?_;obtain⟨y,H2,I2,r2,q2⟩:=zz;exact hf v u s2 x y H2 I2 r1 r2 q2
def aq (i:Nat):TE:=fun U H Q=>∃v,U[i]?=some (some v)/\Q v H
def tC (v:V):TE:=λ_ H Q=>Q v H
theorem aX {i:Nat} {x:Str} {pos:Pos} (hN:X.N[i]?=some x) (hv:Vis X.env.scope x) (hd:(x == ("__debug__":Str))=false:=by decide) (hcd:(x == ("__classdict__":Str))=false:=by decide):PE X (.Name x pos) (aq i):=by
 intro jb s U H Q I h;obtain⟨v,e,h⟩:=h;obtain⟨m,hn,hl⟩:=I.loc;obtain⟨u,r,l⟩:=hl i x v hN e hv;have fin:EP X jb U Q u s:=⟨v,H,I,r,h⟩;rcases l with⟨hk,hm⟩|⟨hk,c,hc,hcell⟩
 ·exact wpAny_Name (wpAny_loadName_local I.ok.kind hk hn hm fin) hd
 ·rcases hk with hk | hk
  ·exact wpAny_Name (wpAny_loadName_cell I.ok.kind hk hc hcell fin) hd
  ·exact wpAny_Name (wpAny_loadName_free I.ok.kind hk hc hcell fin hcd) hd
theorem Ag {i j pos}:PE X (.Constant (.int i) j pos) (tC (.int i)):=λ_ _ _ H _ I h=>wpAny_Constant_int ⟨.int i,H,I.tok _,⟨_,rfl⟩,h⟩
theorem Ep {b j pos}:PE X (.Constant (.bool b) j pos) (tC (.bl b)):=λ_ _ _ H _ I h=>Constant_bool ⟨.bl b,H,I,rfl,h⟩
theorem Jc {j pos}:PE X (.Constant .none j pos) (tC .non):=λ_ _ _ H _ I h=>Constant_none ⟨.non,H,I,rfl,h⟩
theorem Ax {x j pos}:PE X (.Constant (.str x) j pos) (tC (.str x)):=λ_ _ _ H _ I h=>Calls.Constant_str ⟨.str x,H,I.tok _,⟨_,rfl⟩,h⟩
def Gl (X:Cx) (x:Str):Prop:=X.env.kindOf x=some .globalImplicit
theorem Tv {E:YA} {jb:YC} {s:Shared} {U : St} {H:Hp} {x:Str} {u:Value} {pos:Pos} {Q:YA} (I:Inv X jb U H s) (hg:Gl X x) (hm:X.mg x=some u) (h:Q u s)
  (hd:(x == ("__debug__":Str))=false:=by decide):wpAny (model X.prog X.w) X.A (eval (.Name x pos) X.env) Q E s:=
 Calls.Name_function_global I.ok.kind hg (Calls.loadGlobal_global (by rw[I.ok.glob];exact I.mod.glob.keeps I.bk) hm h) hd
theorem Ey {E:YA} {jb:YC} {s:Shared} {U : St} {H:Hp} {x:Str} {u:Value} {pos:Pos} {Q:YA} (I:Inv X jb U H s) (hg:Gl X x) (hm:X.mg x=none) (hv:bootBuiltins x=some u) (h:Q u s)
  (hn:x≠"__name__":=by decide) (hd:(x == ("__debug__":Str))=false:=by decide):wpAny (model X.prog X.w) X.A (eval (.Name x pos) X.env) Q E s:=by
 obtain⟨mb,h1,h2⟩:=I.mod.blt;exact Calls.Name_function_global I.ok.kind hg (Calls.loadGlobal_builtin (by rw[I.ok.glob];exact I.mod.glob.keeps I.bk) hm (by rw[I.ok.blt];exact h1.keeps I.bk) ((h2 x hn).trans hv) h) hd
theorem Zx {x:Str} {v:V} {u:Value} {pos:Pos} (hg:Gl X x) (hm:X.mg x=some u) (r:RelV v u) (hd:(x == ("__debug__":Str))=false:=by decide):PE X (.Name x pos) (tC v):=
 λ_ _ _ H _ I h=>Tv I hg hm ⟨v,H,I,r,h⟩ hd
theorem Oa {x:Str} {v:V} {u:Value} {pos:Pos} (hg:Gl X x) (hm:X.mg x=none) (hv:bootBuiltins x=some u) (r:RelV v u) (hn:x≠"__name__":=by decide) (hd:(x == ("__debug__":Str))=false:=by decide):PE X (.Name x pos) (tC v):=
 λ_ _ _ H _ I h=>Ey I hg hm hv ⟨v,H,I,r,h⟩ hn hd
variable {a b:Expr} {ta tb:TE} {pos:Pos}
def PC (X:Cx) (op:CmpOp) (a b:Expr) (t:TE):Prop:=
 ∀(jb:YC) (s:Shared) (U : St) (H:Hp) (Q:VK),Inv X jb U H s->t U H Q ->
  wpAny (model X.prog X.w) X.A (eval a X.env) (λv s₁=>wpAny (model X.prog X.w) X.A (eval b X.env) (λu s₂=>wpAny (model X.prog X.w) X.A (compareOp op v u) (EP X jb U Q) X.xe s₂) X.xe s₁) X.xe s
theorem QZ (b:Expr) {op:CmpOp} (h:op≠.In) (h2:op≠.NotIn):behindInMarks op b=false:=by
 have e1:(op == CmpOp.In)=false:=by cases op <;> first | rfl | exact absurd rfl h
 have e2:(op == CmpOp.NotIn)=false:=by cases op <;> first | rfl | exact absurd rfl h2
 cases b <;> simp[behindInMarks,e1,e2]
def tB (t:TE):TT:=fun U H Q=>t U H λx H1=>∃c,x=.bl c/\Q c H1
theorem V1 {op:CmpOp} {t:TE} (h:PC X op a b t) (h1:behindInMarks op b=false:=by first | exact QZ _ (by decide) (by decide) | rfl):PE X (.Compare a [op] [b] pos) t:=λjb s U H Q I hw=>wpAny_Compare1 (h jb s U H Q I hw) h1
theorem MF {op:CmpOp} {t:TE} (h:PC X op a b t) (h1:behindInMarks op b=false:=by first | exact QZ _ (by decide) (by decide) | rfl):PT X (.Compare a [op] [b] pos) (tB t):=by
 intro jb s U H Q I hw;refine wpAny_isTrue_Compare1 (thn (h jb s U H _ I hw) λv s1 h1=>thn h1 λu s2 h2=>thn h2 λc s3 zz=>?_) h1;obtain⟨x,H1,I1,r1,q1⟩:=zz;obtain⟨d,rfl,q⟩:=q1;cases r1;exact wpAny_truthy_bool ⟨H1,I1,q⟩
theorem Hq {e:Expr} {t:TE} (h:PE X e t) (he:∀whole,isTrue e X.env whole=(do let v <-whole;standAt e.pos;holding [v] (truthy v)):=by intro _;rfl):PT X e (tB t):=by
 intro jb s U H Q I hw;refine isTrue_plain (thn (h jb s U H _ I hw) λv s1 zz=>?_) (he _);obtain⟨x,H1,I1,r1,q1⟩:=zz;obtain⟨d,rfl,q⟩:=q1;cases r1;exact wpAny_truthy_bool ⟨H1,I1,q⟩
variable {tA tB':TT} {rest:YJ}
def eZ (t u:TT):TT:=fun U H Q=>t U H λc H1=>if c=true then u U H1 Q else Q false H1
def tOr (t u:TT):TT:=fun U H Q=>t U H λc H1=>if c=true then Q true H1 else u U H1 Q
def eN (t:TT):TT:=fun U H Q=>t U H λc H1=>Q (!c) H1
theorem S9 (ha:PT X a tA):PW X (.BoolOp .And [a] pos) tA:=by
 intro wh jb s U H Q I h;refine isTrue_and (thn (ha jb s U H Q I h) λc s1 e=>?_);cases c with
 | true=>exact isTrue_and_nil e
 | false=>exact e
theorem QG (ha:PT X a tA):PW X (.BoolOp .Or [a] pos) tA:=by
 intro wh jb s U H Q I h;refine isTrue_or (thn (ha jb s U H Q I h) λc s1 e=>?_);cases c with
 | false=>exact isTrue_or_nil e
 | true=>exact e
theorem VP (ha:PT X a tA) (hb:PW X (.BoolOp .And (b::rest) pos) tB'):PW X (.BoolOp .And (a::b::rest) pos) (eZ tA tB'):=by
 intro wh jb s U H Q I h;refine isTrue_and (thn (ha jb s U H _ I h) λc s1 zz=>?_);obtain⟨H1,I1,q1⟩:=zz;cases c with
 | true=>exact hb wh jb s1 U H1 Q I1 q1
 | false=>exact⟨H1,I1,q1⟩
theorem K1 (ha:PT X a tA) (hb:PW X (.BoolOp .Or (b::rest) pos) tB'):PW X (.BoolOp .Or (a::b::rest) pos) (tOr tA tB'):=by
 intro wh jb s U H Q I h;refine isTrue_or (thn (ha jb s U H _ I h) λc s1 zz=>?_);obtain⟨H1,I1,q1⟩:=zz;cases c with
 | true=>exact⟨H1,I1,q1⟩
 | false=>exact hb wh jb s1 U H1 Q I1 q1
theorem Jb (ha:PT X a tA):PT X (.UnaryOp .Not a pos) (eN tA):=by
 intro jb s U H Q I h;exact isTrue_not (ha jb s U H (λc H1=>Q (!c) H1) I h)
theorem aY {op} {t:TE} (h:PE X a t):PE X (.BoolOp op [a] pos) t:=λjb s U H Q I hw=>BoolOp_one (h jb s U H Q I hw)
def tIf (t:TT) (ta tb:TE):TE:=fun U H Q=>t U H λc H1=>if c=true then ta U H1 Q else tb U H1 Q
theorem Xk {c:Expr} (hc:PT X c tA) (ha:PE X a ta) (hb:PE X b tb):PE X (.IfExp c a b pos) (tIf tA ta tb):=by
 intro jb s U H Q I h;refine wpAny_IfExp (thn (hc jb s U H _ I h) λd s1 zz=>?_);obtain⟨H1,I1,q1⟩:=zz;cases d with
 | true=>exact ha jb s1 U H1 Q I1 q1
 | false=>exact hb jb s1 U H1 Q I1 q1
end
def SqL (K:YD) (H:Hp) (a:Addr) (xs:YG):Prop:=
 Rd H a (.lst xs) \/
  ∃(o:Obj) (its:Array Value) (n:Nat),K.lookup a=some o/\o.cls=.type "list"/\o.dict=none/\o.data=.seq its n/\its.size<=sizeLine/\Vals xs its.toList
def SqT (K:YD) (H:Hp) (a:Addr) (xs:YG):Prop:=
 Rd H a (.tup xs) \/
  ∃(o:Obj) (its:Array Value) (n:Nat),K.lookup a=some o/\o.cls=.type "tuple"/\o.data=.seq its n/\its.size<=sizeLine/\Vals xs its.toList
def jU:Value->Option V
 | .none=>some .non
 | .bool b=>some (.bl b)
 | .int i _=>some (.int i)
 | .str x _=>some (.str x)
 | .bytes b _=>some (.byt b)
 | .float b _=>some (.flt b)
 | .ref a=>some (.ref a)
 | .type n=>some (.ty n)
 | _=>none
theorem RelV.abs {x:V} {u:Value} (r:RelV x u):jU u=some x:=by
 cases x with
 | non=>cases r;rfl
 | bl _=>cases r;rfl
 | int _=>obtain⟨t,rfl⟩:=r;rfl
 | str _=>obtain⟨t,rfl⟩:=r;rfl
 | byt _=>obtain⟨t,rfl⟩:=r;rfl
 | flt _=>obtain⟨t,rfl⟩:=r;rfl
 | ref _=>cases r;rfl
 | ty _=>cases r;rfl
theorem RelV.inj {x y:V} {u:Value} (r:RelV x u) (q:RelV y u):x=y:=Qby (r.abs.symm.trans q.abs)
theorem Vals.inj:∀{xs ys:YG} {us:YE},Vals xs us->Vals ys us->xs=ys
 | _,_,_,.nil,.nil=>rfl
 | _,_,_,.cons r t,.cons r' t'=>by rw[r.inj r',Vals.inj t t']
section
variable {X:Cx} {jb:YC} {U : St} {H:Hp} {s:Shared} {a:Addr} {xs ys:YG}
theorem SqL.of {K:YD} (h:H a=some (.lst xs)):SqL K H a xs:=.inl (.inl h)
theorem SqT.of {K:YD} (h:H a=some (.tup xs)):SqT K H a xs:=.inl (.inl h)
theorem Inv.list (I:Inv X jb U H s) (h:SqL X.K H a xs):∃its:YE,Vals xs its/\PlainL s.heap a its.toArray/\xs.length<=sizeLine:=by
 rcases h with h |⟨o,its,n,hk,hc,hd,hs,hz,r⟩
 ·obtain⟨z,its,n,r,e⟩:=h.ok I.hok;exact⟨its,r,⟨_,n,e,rq,rq,rq⟩,z⟩
 ·refine⟨its.toList,r,⟨o,n,I.kIn a o hk,hc,hd,by simpa using hs⟩,?_⟩;have e:=r.length;simp only[QaH] at e;omega
theorem Inv.tuple (I:Inv X jb U H s) (h:SqT X.K H a xs):∃its:YE,Vals xs its/\IsTup s.heap a its.toArray/\xs.length<=sizeLine:=by
 rcases h with h |⟨o,its,n,hk,hc,hs,hz,r⟩
 ·obtain⟨z,its,r,p⟩:=h.ok I.hok;exact⟨its,r,p,z⟩
 ·refine⟨its.toList,r,⟨o,I.kIn a o hk,hc,n,by simpa using hs⟩,?_⟩;have e:=r.length;simp only[QaH] at e;omega
theorem Inv.Ra (I:Inv X jb U H s) (h:SqL X.K H a xs) (h':SqL X.K H a ys):xs=ys:=by
 obtain⟨its,r,⟨o,n,e,_,_,d⟩,_⟩:=I.list h;obtain⟨its',r',⟨o',n',e',_,_,d'⟩,_⟩:=I.list h';rw[e] at e';cases e';rw[d] at d';injection d' with d1 _;have:its=its':=by simpa using congrArg Array.toList d1
 subst this;exact r.inj r'
theorem Inv.O5 (I:Inv X jb U H s) (h:SqT X.K H a xs) (h':SqT X.K H a ys):xs=ys:=by
 obtain⟨its,r,⟨o,e,_,n,d⟩,_⟩:=I.tuple h;obtain⟨its',r',⟨o',e',_,n',d'⟩,_⟩:=I.tuple h';rw[e] at e';cases e';rw[d] at d';injection d' with d1 _;have:its=its':=by simpa using congrArg Array.toList d1
 subst this;exact r.inj r'
end
abbrev Cx.wish (X:Cx) (E:YA):Cx:={ X with xe:=E }
abbrev Cx.nox (X:Cx):Cx:=X.wish λ_ _=>False
theorem Cx.Ok.wish {X:Cx} (ok:X.Ok) (E:YA):(X.wish E).Ok:=
 ⟨ok.mod,ok.kind,ok.glob,ok.blt,ok.above,ok.inj,ok.has,ok.cab,ok.hd,ok.frames,ok.stk,ok.exf,ok.bs,ok.bsz,ok.Og,ok.Kw,ok.Gm,ok.frf⟩
theorem Cx.Ok.DX {X:Cx} {E:YA} (ok:(X.wish E).Ok):X.Ok:=
 ⟨ok.mod,ok.kind,ok.glob,ok.blt,ok.above,ok.inj,ok.has,ok.cab,ok.hd,ok.frames,ok.stk,ok.exf,ok.bs,ok.bsz,ok.Og,ok.Kw,ok.Gm,ok.frf⟩
section
variable {X:Cx} {jb:YC} {U : St} {H:Hp} {s:Shared} {E:YA}
theorem Inv.wish (I:Inv X jb U H s) (E:YA):Inv (X.wish E) jb U H s:=⟨I.ok.wish E,I.os,I.bare,I.base,I.loc,I.cell,I.free,I.DW,I.pin,I.hok,I.len⟩
theorem Inv.DX (I:Inv (X.wish E) jb U H s):Inv X jb U H s:=⟨I.ok.DX,I.os,I.bare,I.base,I.loc,I.cell,I.free,I.DW,I.pin,I.hok,I.len⟩
theorem SP.DX {D:Ends} {f:Flow} {s':Shared} (h:SP (X.wish E) jb D f s'):SP X jb D f s':=by
 cases f with
 | next=>obtain⟨σ',H',I,q⟩:=h;exact⟨σ',H',I.DX,q⟩
 | brk=>obtain⟨σ',H',I,q⟩:=h;exact⟨σ',H',I.DX,q⟩
 | cont=>obtain⟨σ',H',I,q⟩:=h;exact⟨σ',H',I.DX,q⟩
 | ret u=>obtain⟨v,σ',H',I,r,q⟩:=h;exact⟨v,σ',H',I.DX,r,q⟩
theorem PE.nox {e:Expr} {t:TE} (h:PE X.nox e t):PE X e t:=λjb s U H Q I hw=>
 Qck (h jb s U H Q (I.wish _) hw) (λ_ _ ⟨v,H',I',r,q⟩=>⟨v,H',I'.DX,r,q⟩) λ_ _ z=>False.elim z
theorem PT.nox {e:Expr} {t:TT} (h:PT X.nox e t):PT X e t:=λjb s U H Q I hw=>
 Qck (h jb s U H Q (I.wish _) hw) (λ_ _ ⟨H',I',q⟩=>⟨H',I'.DX,q⟩) λ_ _ z=>False.elim z
theorem PSs.nox {st:List Stmt} {t:TS} (h:PSs X.nox st t):PSs X st t:=λjb s U H D I hw=>
 Qck (h jb s U H D (I.wish _) hw) (λ_ _ q=>q.DX) λ_ _ z=>False.elim z
end
section
variable {X:Cx} {st:Stmt} {rest:List Stmt} {t u:TS} {e:Expr} {te:TE} {pos:Pos}
def cZ:TS:=λD U H=>D.nx U H
def eE (t u:TS):TS:=λD U H=>t { D with nx:=u D } U H
theorem Bk:PSs X [] cZ:=λ_ _ U H _ I h=>wpAny_execs_nil ⟨U,H,I,h⟩
theorem Ae (h1:PS X st t) (h2:PSs X rest u):PSs X (st::rest) (eE t u):=by
 intro jb s U H D I h;refine wpAny_execs_cons (thn (h1 jb s U H { D with nx:=u D } I h) λf s1 q=>?_);cases f with
 | next=>
  obtain⟨σ',H',I',q⟩:=q;exact h2 jb s1 σ' H' D I' q
 | ret v=>exact q
 | brk=>exact q
 | cont=>exact q
theorem Ai (h1:PS X st t):PSs X [st] t:=by
 intro jb s U H D I h;refine wpAny_execs_cons (thn (h1 jb s U H D I h) λf s1 q=>?_);cases f with
 | next=>exact wpAny_execs_nil q
 | ret v=>exact q
 | brk=>exact q
 | cont=>exact q
theorem Inv.quiet {jb:YC} {U : St} {H:Hp} {s:Shared} (I:Inv X jb U H s):interactive X.env=false:=by simp[interactive,I.ok.kind]
def dg (te:TE):TS:=λD U H=>te U H λ_ H1=>D.nx U H1
theorem Gg (he:PE X e te) (hs:swapsWith e none pos.line X.env=pure false:=by rfl):PS X (.Expr e pos) (dg te):=by
 intro jb s U H D I h;refine wpAny_Expr_any (thn (he jb s U H _ I h) λv s1 zz=>?_) I.quiet hs;obtain⟨x,H1,I1,r1,q1⟩:=zz;exact⟨U,H1,I1,q1⟩
def eF (te:TE):TS:=λD U H=>te U H D.rt
theorem Ay (he:PE X e te):PS X (.Return (some e) pos) (eF te):=by
 intro jb s U H D I h;refine wpAny_Return_some (thn (he jb s U H _ I h) λv s1 zz=>?_);obtain⟨x,H1,I1,r1,q1⟩:=zz;exact⟨x,U,H1,I1,r1,q1⟩
def eU (c:TT) (t u:TS):TS:=λD U H=>c U H λb H1=>if b=true then t D U H1 else u D U H1
theorem BX {c:Expr} {a b:List Stmt} {tc:TT} (hc:PT X c tc) (ha:PSs X a t) (hb:PSs X b u):PS X (.If c a b pos) (eU tc t u):=by
 intro jb s U H D I h;refine wpAny_If (thn (hc jb s U H _ I h) λd s1 zz=>?_);obtain⟨H1,I1,q1⟩:=zz;cases d with
 | true=>exact ha jb s1 U H1 D I1 q1
 | false=>exact hb jb s1 U H1 D I1 q1
end
abbrev TG:=V->St->Hp->(YO)->Prop
abbrev TGs:=YG->St->Hp->(YO)->Prop
def PG (X:Cx) (target:Expr) (t:TG):Prop:=
 ∀(jb:YC) (s:Shared) (U : St) (H:Hp) (v:V) (u:Value) (Q:YO),Inv X jb U H s->RelV v u->t v U H Q ->
  wpAny (model X.prog X.w) X.A (assign target X.env u) (λ_ s'=>∃ σ' H',Inv X jb σ' H' s'/\Q σ' H') X.xe s
def PGs (X:Cx) (ts:YJ) (t:TGs):Prop:=
 ∀(jb:YC) (s:Shared) (U : St) (H:Hp) (vs:YG) (us:YE) (Q:YO),Inv X jb U H s->Vals vs us->t vs U H Q ->
  wpAny (model X.prog X.w) X.A (assignInOrder ((assignEach ts X.env).map (·.2)) us) (λ_ s'=>∃ σ' H',Inv X jb σ' H' s'/\Q σ' H') X.xe s
abbrev Yr:=V->V->V->Hp->(Hp->Prop)->Prop
def cP (X:Cx) (t:Yr):Prop:=
 ∀(jb:YC) (s:Shared) (U : St) (H:Hp) (o i v:V) (ov iv u:Value) (Q:Hp->Prop),Inv X jb U H s->RelV o ov->RelV i iv->RelV v u->t o i v H Q ->
  wpAny (model X.prog X.w) X.A (setItem ov iv u) (λ_ s'=>∃H',Inv X jb U H' s'/\Q H') X.xe s
section
variable {X:Cx} {pos:Pos}
def Qi (i:Nat):TG:=λv U H Q=>Q (U.set i (some v)) H
theorem Ak {i:Nat} {x:Str} (hN:X.N.Nodup) (hi:X.N[i]?=some x) (hx:Loc X.env.scope x) (hf:X.fn x=true\/X.env.scope.names.lookup x=some .local:=by first | exact .inl rfl | exact .inr rfl | assumption):PG X (.Name x pos) (Qi i):=by
 intro jb s U H v u Q I r h;exact wpAny_assign_Name (Lq I hN hi hx r (λs' I'=>⟨_,H,I',h⟩) hf)
def je:TGs:=λvs U H Q=>vs=[]/\Q U H
def dU (t:TG) (u:TGs):TGs:=λvs U H Q=>∃v r,vs=v::r/\t v U H fun σ' H'=>u r σ' H' Q
theorem BK:PGs X [] je:=by
 intro jb s U H vs us Q I r h;obtain⟨e,h⟩:=h;subst e;cases r;exact assignInOrder_nil ⟨U,H,I,h⟩
theorem Am {e:Expr} {es:YJ} {t:TG} {u:TGs} (h1:PG X e t) (h2:PGs X es u)
  (hs:(assignEach (e::es) X.env).map (·.2)=assign e X.env::(assignEach es X.env).map (·.2):=by rfl):PGs X (e::es) (dU t u):=by
 intro jb s U H vs us Q I r h;obtain⟨v,vr,e1,h⟩:=h;subst e1;cases r with
 | cons r rr=>
  rw[hs];refine assignInOrder_cons (thn (h1 jb s U H _ _ _ I r h) λ_ s1 zz=>?_);obtain⟨σ1,H1,I1,q1⟩:=zz;exact h2 jb s1 σ1 H1 _ _ Q I1 rr q1
def cu (K:YD) (n:Nat) (t:TGs):TG:=λv U H Q=>∃a xs,v=.ref a/\SqT K H a xs/\xs.length=n/\t xs U H Q
theorem CG {es:YJ} {k:Nat} {t:TGs} {n:Nat} (hc:X.calm=true) (h:PGs X es t)
  (hn:(assignEach es X.env).length=n:=by rfl) (hst:(assignEach es X.env).findIdx? (·.1)=none:=by rfl):PG X (.Tuple es k pos) (cu X.K n t):=by
 intro jb s U H v u Q I r hw;obtain⟨a,xs,e1,hq,hl,hw⟩:=hw;subst e1;cases r;obtain⟨its,rv,ht,hz⟩:=I.tuple hq;refine assign_Tuple_tuple (I.ok.hd hc) ht (by simp[hn,<-hl,rv.length]) hst λh' hx=>?_;have I1:Inv X jb U H { s with heap:=h' }:=I.kept (t':=s.toks) λb o e=>hx b o (QbX (QbW e)) e;exact h jb _ U H xs _ Q I1 (by simpa using rv) hw
def jd (to ti:TE) (t:Yr):TG:=λv U H Q=>to U H λo H1=>ti U H1 λi H2=>t o i v H2 λH3=>Q U H3
theorem QL {o i:Expr} {to ti:TE} {t:Yr} (ho:PE X o to) (hi:PE X i ti) (hs:cP X t)
  (ha:∀v,assign (.Subscript o i pos) X.env v=(do
   let ov <-holding [v] (eval o X.env);let iv <-holding [v,ov] (eval i X.env)
   standAt pos
   holding [v,ov,iv] (setItem ov iv v)
   release [v,ov,iv] []):=by intro _;rfl):PG X (.Subscript o i pos) (jd to ti t):=by
 intro jb s U H v u Q I r h;rw[ha];refine Qci (QbR (thn (ho jb s U H _ I h) λov s1 zz=>?_));obtain⟨x,H1,I1,r1,q1⟩:=zz;refine Qci (QbR (thn (hi jb s1 U H1 _ I1 q1) λiv s2 zz=>?_));obtain⟨y,H2,I2,r2,q2⟩:=zz;refine Qci (QbS (Qci (QbR (thn (hs jb s2 U H2 x y v ov iv u _ I2 r1 r2 r q2) λ_ s3 zz=>?_))));obtain⟨H3,I3,q3⟩:=zz;exact wpAny_release ⟨U,H3,I3,q3⟩
def W7 (te:TE) (g:TG):TS:=λD U H=>te U H λx H1=>g x U H1 D.nx
theorem MJ {tg e:Expr} {te:TE} {g:TG} (he:PE X e te) (hg:PG X tg g) (hs:swapsWithSole [tg] e pos.line X.env=pure false:=by rfl) (hw:swappedStores [tg] e X.env=pure none:=by rfl)
  (h1:(assignEach [tg] X.env).map (·.2)=[assign tg X.env]:=by rfl):PS X (.Assign [tg] e pos) (W7 te g):=by
 intro jb s U H D I h;refine wpAny_Assign_stores (thn (he jb s U H _ I h) λv s1 zz=>?_) hs hw;obtain⟨x,H1,I1,r1,q1⟩:=zz;rw[h1];exact thn (hg jb s1 U H1 x v _ I1 r1 q1) λ_ s2 q=>q
theorem Aw {i:Nat} {x:Str} {e:Expr} {te:TE} {pos':Pos} (hN:X.N.Nodup) (hi:X.N[i]?=some x) (hx:Loc X.env.scope x) (he:PE X e te) (hs:swapsWith e (some (.Name x pos')) pos.line X.env=pure false:=by rfl) (hf:X.fn x=true\/X.env.scope.names.lookup x=some .local:=by first | exact .inl rfl | exact .inr rfl | assumption) :
  PS X (.Assign [.Name x pos'] e pos) (W7 te (Qi i)):=by
 intro jb s U H D I h;refine wpAny_Assign_Name (thn (he jb s U H _ I h) λv s1 zz=>?_) hs;obtain⟨y,H1,I1,r1,q1⟩:=zz;exact Lq I1 hN hi hx r1 (λs2 I2=>⟨_,H1,I2,q1⟩) hf
end
section
variable {X:Cx} {pos:Pos}
abbrev YN:=Nat->YO
def ao (c:TT) (tb:TS):TS:=λD U H=>∃W:YN,(∃m,W m U H)/\∀m U H,W m U H ->
 c U H λb H1=>if b=true then ∃N:YO,(∀ σ' H',N σ' H'->∃m',m' < m/\W m' σ' H')/\tb { D with nx:=N,ct:=N,bk:=D.nx } U H1 else D.nx U H1
theorem Xg {c:Expr} {body:List Stmt} {tc:TT} {tb:TS} (hp:PassesOwn (model X.prog X.w) X.A X.env X.xe) (hc:PT X c tc) (hb:PSs X body tb):PS X (.While c body [] pos) (ao tc tb):=by
 intro jb s U H D I h;obtain⟨W,⟨m0,w0⟩,turn⟩:=h;refine wpAny_While (codeAny_whileLoop (λn s'=>∃ σ' H',Inv X jb σ' H' s'/\W n σ' H') ?_ m0 ⟨U,H,I,w0⟩);rintro n s1 ⟨σ1,H1,I1,w1⟩;refine QbF hp (thn (hc jb s1 σ1 H1 _ I1 (turn n σ1 H1 w1)) λb s2 zz=>?_);obtain⟨H2,I2,q2⟩:=zz;cases b with
 | true=>
  obtain⟨N,hN,q2⟩:=q2;rw[if_pos rfl];refine QbF hp (thn (hb jb s2 σ1 H2 _ I2 q2) λf s3 q3=>?_);cases f with
  | next=>
   obtain⟨σ3,H3,I3,n3⟩:=q3;obtain⟨m',hm,w3⟩:=hN σ3 H3 n3;exact⟨m',hm,σ3,H3,I3,w3⟩
  | cont=>
   obtain⟨σ3,H3,I3,n3⟩:=q3;obtain⟨m',hm,w3⟩:=hN σ3 H3 n3;exact⟨m',hm,σ3,H3,I3,w3⟩
  | brk=>exact q3
  | ret v=>exact q3
 | false=>
  rw[if_neg QaN];exact wpAny_execs_nil ⟨σ1,H2,I2,q2⟩
end
structure It where
 go:Nat->Hp->Prop
 yld:Nat->Hp->V->Hp->Prop
 stop:Nat->Hp->Prop
def CQ (X:Cx) (jb:YC) (H:Hp) (b:Addr):Prop:=
 H b=none/\b≠X.env.locals/\b∉X.fs/\(b∈X.ex\/X.s₀.heap.objs.size<=b)/\(∀x c,X.env.cells.lookup x=some c->c≠b)/\∀p∈X.pn++jb,p.1≠b
theorem Inv.Kv {X:Cx} {jb:YC} {U : St} {H H':Hp} {s:Shared} {b:Addr} (I:Inv X jb U H s) (hb:s.heap.objs.size<=b) (hn:H' b=none):CQ X jb H' b:=by
 refine⟨hn,Qcb (QaR I.lt hb),I.bD hb,.inr (QbY I.sz hb),λx c e z=>?_,λp hp z=>?_⟩
 ·obtain⟨v,q⟩:=I.cell x c e;exact absurd (QaR q.lt (by rw[z];exact hb)) (QbT _)
 ·exact absurd (QaR (QbW (I.pin p hp).1) (by rw[z];exact hb)) (QbT _)
structure Turn (P:Program) (w:World) (K:YD) (tg:Expr) (J:It) (fp:List Addr) (it:Addr) (tn:Nat->Heap->Prop):Prop where
 mem:it∈fp
 obj:∀i h,tn i h->∀b∈fp,∃o,h.get? b=some o/\∀v,o.data≠.cell v
 keep:∀i h h',tn i h->(∀b∈fp,∀o,h.get? b=some o->h'.get? b=some o)->tn i h'
 item:∀(X:Cx),X.prog=P->X.w=w->X.K=K->X.calm=true->∀(i:Nat) (jb:YC) (s:Shared) (U : St) (H:Hp) (E:YA),Inv X jb U H s->(∀b∈fp,CQ X jb H b)->tn i s.heap->J.go i H ->
  wpAny (model P w) X.A (pyNext (.ref it)) (λr s1=>∃u,r=some u /\
   wpAny (model P w) X.A (letOwnedTupleGo tg (.ref it) u) (λ_ s2=>∃x H',Inv X jb U H' s2/\RelV x u/\J.yld i H x H'/\tn (i+1) s2.heap/\∀b∈fp,H' b=none) E s1) E s
 done:∀(X:Cx),X.prog=P->X.w=w->X.K=K->X.calm=true->∀(i:Nat) (jb:YC) (s:Shared) (U : St) (H:Hp) (E:YA),Inv X jb U H s->(∀b∈fp,CQ X jb H b)->tn i s.heap->J.stop i H ->
  wpAny (model P w) X.A (pyNext (.ref it)) (λr s1=>r=none/\Inv X jb U H s1) E s
 self:∀(A:Around) (i:Nat) (s:Shared) (Q:YA) (E:YA),tn i s.heap->Q (.ref it) s->wpAny (model P w) A (pyIter (.ref it)) Q E s
abbrev TI:=St->Hp->(It->Hp->Prop)->Prop
def PIE (X:Cx) (jb:YC) (U : St) (tg:Expr) (R:It->Hp->Prop) (itv:Value) (s2:Shared):Prop:=
 ∃(it:Addr) (fp:List Addr) (tn:Nat->Heap->Prop) (J:It) (H':Hp),itv=.ref it/\Inv X jb U H' s2/\Turn X.prog X.w X.K tg J fp it tn/\tn 0 s2.heap/\(∀b∈fp,CQ X jb H' b)/\R J H'
def PI (X:Cx) (tg iter:Expr) (wi:TI):Prop:=
 ∀(jb:YC) (s:Shared) (U : St) (H:Hp) (R:It->Hp->Prop),Inv X jb U H s->wi U H R ->
  wpAny (model X.prog X.w) X.A (eval iter X.env) (λv s1=>wpAny (model X.prog X.w) X.A (pyIter v) (PIE X jb U tg R) X.xe s1) X.xe s
theorem Nj {M:Model} {A:Around} {E:YA} {s:Shared} {tg:Expr} {it:Addr} {u:Value} {o:Obj} {n:String} {vs:Array Value} {Q:YH} (ho:s.heap.get? it=some o) (hc:o.cls=.type n) (hd:o.data=.fields vs)
    (hn:["enumerate","zip","dict_itemiterator","dict_reverseitemiterator","odict_iterator","itertools.zip_longest","itertools.pairwise"].contains n=false) (hQ:Q () s):wpAny M A (letOwnedTupleGo tg (.ref it) u) Q E s:=by
  unfold letOwnedTupleGo;cases tg <;> first
    | exact Qcj hQ
    | (cases u <;> first
        | exact Qcj hQ
        | (refine Qci (wpAny_load ho ?_)
           rw[hc,hd];show wpAny M A (if (["enumerate","zip","dict_itemiterator","dict_reverseitemiterator","odict_iterator","itertools.zip_longest","itertools.pairwise"].contains n&&vs[0]? == some (rawInt _))=true then _ else _) Q E s
           rw[if_neg (by intro h;rw[hn,Bool.false_and] at h;cases h)];exact Qcj hQ))
def Itl (K:YD) (a:Addr):It:=
 ⟨λi H=>∃xs x,SqL K H a xs/\xs[i]?=some x,λi H x H'=>H'=H/\∀xs,SqL K H a xs->xs[i]?=some x,λi H=>∃xs,SqL K H a xs/\xs.length<=i⟩
def Itt (K:YD) (a:Addr):It:=
 ⟨λi H=>∃xs x,SqT K H a xs/\xs[i]?=some x,λi H x H'=>H'=H/\∀xs,SqT K H a xs->xs[i]?=some x,λi H=>∃xs,SqT K H a xs/\xs.length<=i⟩
def Itr (lo:Int) (n:Nat):It:=⟨λi _=>i < n,λi H x H'=>H'=H/\x=.int (lo+i),λi _=>n<=i⟩
theorem Vp {P:Program} {w:World} {K:YD} {tg:Expr} (a it:Addr):Turn P w K tg (Itl K a) [it] it (λi h=>h.IsListIter it a i) where
 mem:=by simp
 obj:=λi h st b hb=>by
  have e:b=it:=by simpa using hb
  subst e;obtain⟨o,e,c,d⟩:=st;exact⟨o,e,λv z=>by rw[d] at z;cases z⟩
 keep:=λi h h' st k=>st.at λo e=>k it (by simp) o e
 item:=by
  intro X hP hw hK hc i jb s U H E I hf st hg;subst hP hw hK;obtain⟨xs,x,hq,hx⟩:=hg;obtain⟨its,rv,p,hz⟩:=I.list hq;obtain⟨u,hu,ru⟩:=rv.get hx;obtain⟨f0,f1,f2,f3,f4,f5⟩:=hf it (by simp);refine wpAny_pyNext_list_item st p.isList (x:=u) (by simpa using hu) λh' st' sb=>?_;have I1:Inv X jb U H { s with heap:=h' }:=I.turned (t':=s.toks) (λb o hb e=>(sb.2 b hb).trans e) f0 f1 f3 f4 f5;obtain⟨o,e,c,d⟩:=id st';exact⟨u,rq,Nj (s:={ s with heap:=h' }) e c d (by decide) ⟨x,H,I1,ru,⟨rq,λys hy=>by rw[I.Ra hy hq];exact hx⟩,st',λb hb=>(hf b hb).1⟩⟩
 done:=by
  intro X hP hw hK hc i jb s U H E I hf st hg;subst hP hw hK;obtain⟨xs,hq,hx⟩:=hg;obtain⟨its,rv,p,hz⟩:=I.list hq;obtain⟨f0,f1,f2,f3,f4,f5⟩:=hf it (by simp);have hl:=rv.length;exact wpAny_pyNext_list_end (I.ok.hd hc) st p.isList (by simp;omega) λh' eb=>⟨rq,I.turned (t':=s.toks) (λb o hb e=>eb b o hb e) f0 f1 f3 f4 f5⟩
 self:=λ_ _ _ _ _ st h=>wpAny_pyIter_listiter st h
theorem Ub {P:Program} {w:World} {K:YD} {tg:Expr} (a it:Addr):Turn P w K tg (Itt K a) [it] it (λi h=>h.IsTupleIter it a i) where
 mem:=by simp
 obj:=λi h st b hb=>by
  have e:b=it:=by simpa using hb
  subst e;obtain⟨o,e,c,d⟩:=st;exact⟨o,e,λv z=>by rw[d] at z;cases z⟩
 keep:=λi h h' st k=>st.at λo e=>k it (by simp) o e
 item:=by
  intro X hP hw hK hc i jb s U H E I hf st hg;subst hP hw hK;obtain⟨xs,x,hq,hx⟩:=hg;obtain⟨its,rv,p,hz⟩:=I.tuple hq;obtain⟨u,hu,ru⟩:=rv.get hx;obtain⟨f0,f1,f2,f3,f4,f5⟩:=hf it (by simp);refine wpAny_pyNext_tuple_item st (show s.heap.IsTuple a its.toArray from p) (x:=u) (by simpa using hu) λh' st' sb=>?_
  have I1:Inv X jb U H { s with heap:=h' }:=I.turned (t':=s.toks) (λb o hb e=>(sb.2 b hb).trans e) f0 f1 f3 f4 f5;obtain⟨o,e,c,d⟩:=id st';exact⟨u,rq,Nj (s:={ s with heap:=h' }) e c d (by decide) ⟨x,H,I1,ru,⟨rq,λys hy=>by rw[I.O5 hy hq];exact hx⟩,st',λb hb=>(hf b hb).1⟩⟩
 done:=by
  intro X hP hw hK hc i jb s U H E I hf st hg;subst hP hw hK;obtain⟨xs,hq,hx⟩:=hg;obtain⟨its,rv,p,hz⟩:=I.tuple hq;obtain⟨f0,f1,f2,f3,f4,f5⟩:=hf it (by simp);have hl:=rv.length;exact wpAny_pyNext_tuple_end (I.ok.hd hc) st (show s.heap.IsTuple a its.toArray from p) (by simp;omega) λh' eb=>⟨rq,I.turned (t':=s.toks) (λb o hb e=>eb b o hb e) f0 f1 f3 f4 f5⟩
 self:=λ_ _ _ _ _ st h=>wpAny_pyIter_tupleiter st h
theorem Uc {P:Program} {w:World} {K:YD} {tg:Expr} (it:Addr) (lo:Int) (n:Nat):Turn P w K tg (Itr lo n) [it] it (λi h=>IsRangeIter h it (lo+(i:Nat)*1) ((n:Int) - (i:Nat)) 1) where
 mem:=by simp
 obj:=λi h st b hb=>by
  have e:b=it:=by simpa using hb
  subst e;exact⟨_,st,λv z=>by
   have z':Data.fields _=Data.cell v:=z;cases z'⟩
 keep:=λi h h' st k=>k it (by simp) _ st
 item:=by
  intro X hP hw hK hc i jb s U H E I hf st hg;subst hP hw hK;obtain⟨f0,f1,f2,f3,f4,f5⟩:=hf it (by simp);have W:=Walks.range (prog:=X.prog) (w:=X.w) (I.ok.hd hc) it lo 1 n;refine W.item i s _ _ hg st λv h' tk hv st' kk=>?_;obtain⟨t,rfl⟩:=hv;have I1:Inv X jb U H { s with heap:=h',toks:=tk }:=I.turned (λb o hb e=>kk b o (by simpa using hb) e) f0 f1 f3 f4 f5;refine⟨_,rq,Nj (s:={ s with heap:=h',toks:=tk }) (n:="range_iterator") st' rfl rfl (by decide) ⟨.int (lo+i),H,I1,⟨t,?_⟩,⟨rq,rq⟩,st',λb hb=>(hf b hb).1⟩⟩;rw[Int.mul_one]
 done:=by
  intro X hP hw hK hc i jb s U H E I hf st hg;subst hP hw hK;obtain⟨f0,f1,f2,f3,f4,f5⟩:=hf it (by simp);exact wpAny_pyNext_range_end (I.ok.hd hc) st (by have:n<=i:=hg;omega) λh' eb=>⟨rq,I.turned (t':=s.toks) (λb o hb e=>eb b o hb e) f0 f1 f3 f4 f5⟩
 self:=λ_ _ _ _ _ st h=>wpAny_pyIter_rangeiter st h
section
variable {X:Cx} {tg:Expr}
def Y9 (K:YD) (tl:TE):TI:=fun U H R=>tl U H λx H1=>∃a,x=.ref a/\(∃xs,SqL K H1 a xs)/\R (Itl K a) H1
def g8 (K:YD) (tl:TE):TI:=fun U H R=>tl U H λx H1=>∃a,x=.ref a/\(∃xs,SqT K H1 a xs)/\R (Itt K a) H1
theorem CV {l:Expr} {tl:TE} (hl:PE X l tl):PI X tg l (Y9 X.K tl):=by
 intro jb s U H R I h;refine thn (hl jb s U H _ I h) λv s1 zz=>?_;obtain⟨x,H1,I1,r1,q1⟩:=zz;obtain⟨a,e,⟨xs,hq⟩,q⟩:=q1;subst e;cases r1;obtain⟨its,rv,p,hz⟩:=I1.list hq;refine wpAny_pyIter_list p.isList ?_;refine⟨s1.heap.objs.size,[s1.heap.objs.size],_,_,H1,rq,I1.kept (t':=s1.toks) λb o e=>Qas _ e,Vp a _,⟨_,QaG _ rfl,rq,rq⟩,λb hb=>?_,q⟩;have e:b=s1.heap.objs.size:=by simpa using hb
 subst e;exact I1.Kv (Qce _) (I1.hok.fresh (Qce _))
theorem Kf {l:Expr} {tl:TE} (hl:PE X l tl):PI X tg l (g8 X.K tl):=by
 intro jb s U H R I h;refine thn (hl jb s U H _ I h) λv s1 zz=>?_;obtain⟨x,H1,I1,r1,q1⟩:=zz;obtain⟨a,e,⟨xs,hq⟩,q⟩:=q1;subst e;cases r1;obtain⟨its,rv,p,hz⟩:=I1.tuple hq;refine QaU (show s1.heap.IsTuple a its.toArray from p) ?_
 refine⟨s1.heap.objs.size,[s1.heap.objs.size],_,_,H1,rq,I1.kept (t':=s1.toks) λb o e=>Qas _ e,Ub a _,⟨_,QaG _ rfl,rq,rq⟩,λb hb=>?_,q⟩;have e:b=s1.heap.objs.size:=by simpa using hb
 subst e;exact I1.Kv (Qce _) (I1.hok.fresh (Qce _))
theorem Xd {jb:YC} {U : St} {H:Hp} {s:Shared} {R:It->Hp->Prop} {E:YA} {lo hi:Int} {t u v:Tok} {tk:Nat} (I:Inv X jb U H s) (h1:-(2 ^ 62)<=lo) (h2:lo < 2 ^ 62) (h3:-(2 ^ 62)<=hi) (h4:hi < 2 ^ 62)
  (q:R (Itr lo (hi - lo).toNat) H):wpAny (model X.prog X.w) X.A (pyIter (.ref s.heap.objs.size)) (PIE X jb U tg R) E { s with heap:=s.heap.push { cls:=.type "range",data:=.fields #[.int lo t,.int hi u,.int 1 v] },toks:=tk }:=by
 refine wpAny_pyIter_range (IsRange.new ..) (small_one h1 h2 h3 h4) ?_;have I1:Inv X jb U H { s with heap:=s.heap.push { cls:=.type "range",data:=.fields #[.int lo t,.int hi u,.int 1 v] },toks:=tk }:=I.kept λb o e=>Qas _ e;refine⟨(s.heap.push { cls:=.type "range",data:=.fields #[.int lo t,.int hi u,.int 1 v] }).objs.size,[(s.heap.push { cls:=.type "range",data:=.fields #[.int lo t,.int hi u,.int 1 v] }).objs.size],_,_,H,rq,
  I1.kept (t':=tk) λb o e=>Qas _ e,Uc _ lo (hi - lo).toNat,?_,λb hb=>?_,q⟩
 ·have e1:lo+((0:Nat):Int)*1=lo:=by simp
  have e2:(((hi - lo).toNat:Nat):Int) - ((0:Nat):Int)=Builtin.Range.rangeSize lo hi 1:=by rw[rangeSize_one];split <;> omega
  show IsRangeIter _ _ (lo+((0:Nat):Int)*1) ((((hi - lo).toNat:Nat):Int) - ((0:Nat):Int)) 1;rw[e1,e2];exact QaG _ rfl
 ·have e:b=(s.heap.push { cls:=.type "range",data:=.fields #[.int lo t,.int hi u,.int 1 v] }).objs.size:=by simpa using hb
  subst e;exact I1.Kv (Qce _) (I1.hok.fresh (Qce _))
def dM (ta:TA):TI:=fun U H R=>ta U H λvs H1=>∃j:Int,vs=[.int j]/\-(2 ^ 62)<=j/\j < 2 ^ 62/\R (Itr 0 j.toNat) H1
theorem Fx {a:Expr} {ta:TA} {p pos:Pos} (hg:Gl X "range") (hm:X.mg "range"=none) (ha:PA X [a] ta) (hs:starEach [a] X.env=[(false,eval a X.env)]:=by rfl):PI X tg (.Call (.Name "range" p) [a] [] pos) (dM ta):=by
 intro jb s U H R I h;refine Call_ (Ey I hg hm boot_range (Qac (thn (ha pos jb s U H _ I h) λus s1 zz=>?_) hs rfl));obtain⟨vs,H1,I1,r1,q1⟩:=zz;obtain⟨j,e,q1,q2,q⟩:=q1;subst e;cases r1 with
 | cons r rr=>
  cases rr;obtain⟨t,rfl⟩:=r;exact call_range_1 (Xd I1 (by omega) (by omega) q1 q2 (by simpa using q))
def eV (wi:TI) (g:TG) (tb:TS):TS:=λD U H=>wi U H λJ H1=>∃W:Nat->YN,(∃m,W 0 m U H1)/\∀i m U H,W i m U H ->
 (J.stop i H/\D.nx U H)\/(J.go i H/\∃N:YO,(∀ σ' H',N σ' H'->∃m',m' < m/\W (i+1) m' σ' H')/\∀x H',J.yld i H x H'->g x U H' fun σ2 H2=>tb { D with nx:=N,ct:=N,bk:=D.nx } σ2 H2)
def Gv (fp:List Addr) (h:Heap):YC:=fp.filterMap λb=>(h.get? b).map λo=>(b,o)
theorem DK {fp:List Addr} {h:Heap} {b:Addr} {o:Obj} (hb:b∈fp) (e:h.get? b=some o):(b,o)∈Gv fp h:=List.mem_filterMap.mpr ⟨b,hb,by rw[e];rfl⟩
theorem V9 {fp:List Addr} {h:Heap} {p:Addr×Obj} (hp:p∈Gv fp h):p.1∈fp/\h.get? p.1=some p.2:=by
 obtain⟨b,hb,e⟩:=List.mem_filterMap.mp hp;cases q:h.get? b with
 | none=>rw[q] at e;cases e
 | some o=>
  rw[q] at e;have e':(b,o)=p:=Qby e;subst e';exact⟨hb,q⟩
theorem Inv.pinned {jb:YC} {U : St} {H:Hp} {s:Shared} {fp:List Addr} (I:Inv X jb U H s) (hf:∀b∈fp,CQ X jb H b) (ho:∀b∈fp,∃o,s.heap.get? b=some o/\∀v,o.data≠.cell v):Inv X (jb++Gv fp s.heap) U H s:=
 I.N8 λp hp=>(Qbv.mp hp).elim (λz=>I.pin p (Qav _ z)) λz=>by
  obtain⟨hb,e⟩:=V9 z;obtain⟨f0,f1,f2,_⟩:=hf p.1 hb;obtain⟨o,e',d⟩:=ho p.1 hb;rw[e] at e';cases e';exact⟨e,f0,f1,f2,d⟩
theorem Inv.DY {jb pl:YC} {U : St} {H:Hp} {s:Shared} (I:Inv X (jb++pl) U H s):Inv X jb U H s:=I.N8 λp hp=>I.pin p (Qav _ (QaF _ hp))
theorem BL {iter:Expr} {body:List Stmt} {wi:TI} {g:TG} {tb:TS} {pos:Pos} (hp:PassesOwn (model X.prog X.w) X.A X.env X.xe) (hc:X.calm=true) (hi:PI X tg iter wi) (hg:PG X tg g) (hb:PSs X body tb)
  (hs:∀x,foldedSetIterable iter X.env x=pure x:=by intro _;rfl):PS X (.For tg iter body [] pos) (eV wi g tb):=by
 intro jb s U H D I h;refine wpAny_For (thn (hi jb s U H _ I h) λv s1 h1=>thn h1 λitv s2 h2=>?_) hs;obtain⟨it,fp,tn,J,H2,e,I2,T,st2,f2,W,⟨m0,w0⟩,turn⟩:=h2;subst e;have stat:∀{H':Hp},(∀b∈fp,H' b=none)->∀b∈fp,CQ X jb H' b:=λhn b hb=>⟨hn b hb,(f2 b hb).2⟩;refine codeAny_forLoop_any (λn s'=>∃i σ' H',Inv X jb σ' H' s'/\tn i s'.heap/\(∀b∈fp,H' b=none)/\W i n σ' H') ?_ m0 ⟨0,U,H2,I2,st2,λb hb=>(f2 b hb).1,w0⟩;rintro n s3 ⟨i,σ3,H3,I3,st3,fr3,w3⟩;rcases turn i n σ3 H3 w3 with⟨stop,qn⟩|⟨go,N,hN,step⟩
 ·refine QbF hp (thn (T.done X rfl rfl rfl hc i jb s3 σ3 H3 X.xe I3 (stat fr3) st3 stop) λr s4 zz=>?_);obtain⟨hr,I4⟩:=zz;subst hr;exact wpAny_execs_nil ⟨σ3,H3,I4,qn⟩
 ·refine QbF hp (thn (T.item X rfl rfl rfl hc i jb s3 σ3 H3 X.xe I3 (stat fr3) st3 go) λr s4 zz=>?_);obtain⟨u,hr,h4⟩:=zz;subst hr;refine QbF hp (thn h4 λ_ s5 zz=>?_);obtain⟨x,H5,I5,r5,y5,st5,fr5⟩:=zz;have I5':=I5.pinned (stat fr5) (T.obj _ _ st5);refine QbF hp (thn (hg _ s5 σ3 H5 x u _ I5' r5 (step x H5 y5)) λ_ s6 zz=>?_);obtain⟨σ6,H6,I6,q6⟩:=zz;refine QbF hp (thn (hb _ s6 σ6 H6 _ I6 q6) λf s7 q7=>?_);have again:∀{σ7:St} {H7:Hp},Inv X (jb++Gv fp s5.heap) σ7 H7 s7->N σ7 H7->∃m,m < n/\∃i σ' H',Inv X jb σ' H' s7/\tn i s7.heap/\(∀b∈fp,H' b=none)/\W i m σ' H':=λ{σ7 H7} I7 n7=>by
   obtain⟨m',hm,w7⟩:=hN σ7 H7 n7;refine⟨m',hm,i+1,σ7,H7,I7.DY,T.keep _ _ _ st5 λb hb o e=>(I7.pin (b,o) (Qav _ (Qav _ (DK hb e)))).1,λb hb=>?_,w7⟩;obtain⟨o,e,d⟩:=T.obj _ _ st5 b hb;exact (I7.pin (b,o) (Qav _ (Qav _ (DK hb e)))).2.1
  cases f with
  | next=>obtain⟨σ7,H7,I7,n7⟩:=q7;exact again I7 n7
  | cont=>obtain⟨σ7,H7,I7,n7⟩:=q7;exact again I7 n7
  | brk=>obtain⟨σ7,H7,I7,q7⟩:=q7;exact⟨σ7,H7,I7.DY,q7⟩
  | ret v=>obtain⟨x7,σ7,H7,I7,r7,q7⟩:=q7;exact⟨x7,σ7,H7,I7.DY,r7,q7⟩
end
theorem Hv {K:YD} {a:Addr} {xs:YG} {g:TG} {tb:TS} {D:Ends} {U : St} {H:Hp} (Pv:YN) (h0:Pv 0 U H) (hl:∀i U H,i<=xs.length->Pv i U H->SqL K H a xs)
  (hs:∀i x U H,xs[i]?=some x->Pv i U H->g x U H fun σ2 H2=>tb { D with nx:=Pv (i+1),ct:=Pv (i+1),bk:=D.nx } σ2 H2) (hd:∀ U H,Pv xs.length U H->D.nx U H) :
  ∃W:Nat->YN,(∃m,W 0 m U H)/\∀i m U H,W i m U H ->
   ((Itl K a).stop i H/\D.nx U H)\/((Itl K a).go i H/\∃N:YO,(∀ σ' H',N σ' H'->∃m',m' < m/\W (i+1) m' σ' H')/\∀x H',(Itl K a).yld i H x H'->g x U H' fun σ2 H2=>tb { D with nx:=N,ct:=N,bk:=D.nx } σ2 H2):=by
 refine⟨λi m U H=>m=xs.length - i/\i<=xs.length/\Pv i U H,⟨xs.length,by simp,Qcf _,h0⟩,?_⟩;rintro i m U H ⟨rfl,hi,p⟩;have q:=hl i U H hi p;by_cases hlt:i < xs.length
 ·refine .inr ⟨⟨xs,xs[i],q,by simp[hlt]⟩,Pv (i+1),fun σ' H' p'=>⟨xs.length - (i+1),by omega,rq,hlt,p'⟩,λx H' y=>?_⟩;obtain⟨e,y⟩:=y;subst e;exact hs i x U _ (y xs q) p
 ·have e:i=xs.length:=by omega
  subst e;exact .inl ⟨⟨xs,q,Qce _⟩,hd U H p⟩
theorem ZW {K:YD} {a:Addr} {xs:YG} {g:TG} {tb:TS} {D:Ends} {U : St} {H:Hp} (Pv:YN) (h0:Pv 0 U H) (hl:∀i U H,i<=xs.length->Pv i U H->SqT K H a xs)
  (hs:∀i x U H,xs[i]?=some x->Pv i U H->g x U H fun σ2 H2=>tb { D with nx:=Pv (i+1),ct:=Pv (i+1),bk:=D.nx } σ2 H2) (hd:∀ U H,Pv xs.length U H->D.nx U H) :
  ∃W:Nat->YN,(∃m,W 0 m U H)/\∀i m U H,W i m U H ->
   ((Itt K a).stop i H/\D.nx U H)\/((Itt K a).go i H/\∃N:YO,(∀ σ' H',N σ' H'->∃m',m' < m/\W (i+1) m' σ' H')/\∀x H',(Itt K a).yld i H x H'->g x U H' fun σ2 H2=>tb { D with nx:=N,ct:=N,bk:=D.nx } σ2 H2):=by
 refine⟨λi m U H=>m=xs.length - i/\i<=xs.length/\Pv i U H,⟨xs.length,by simp,Qcf _,h0⟩,?_⟩;rintro i m U H ⟨rfl,hi,p⟩;have q:=hl i U H hi p;by_cases hlt:i < xs.length
 ·refine .inr ⟨⟨xs,xs[i],q,by simp[hlt]⟩,Pv (i+1),fun σ' H' p'=>⟨xs.length - (i+1),by omega,rq,hlt,p'⟩,λx H' y=>?_⟩;obtain⟨e,y⟩:=y;subst e;exact hs i x U _ (y xs q) p
 ·have e:i=xs.length:=by omega
  subst e;exact .inl ⟨⟨xs,q,Qce _⟩,hd U H p⟩
theorem GJ {lo:Int} {n:Nat} {g:TG} {tb:TS} {D:Ends} {U : St} {H:Hp} (Pv:YN) (h0:Pv 0 U H)
  (hs:∀i U H,i < n->Pv i U H->g (.int (lo+i)) U H fun σ2 H2=>tb { D with nx:=Pv (i+1),ct:=Pv (i+1),bk:=D.nx } σ2 H2) (hd:∀ U H,Pv n U H->D.nx U H) :
  ∃W:Nat->YN,(∃m,W 0 m U H)/\∀i m U H,W i m U H ->
   ((Itr lo n).stop i H/\D.nx U H)\/((Itr lo n).go i H/\∃N:YO,(∀ σ' H',N σ' H'->∃m',m' < m/\W (i+1) m' σ' H')/\∀x H',(Itr lo n).yld i H x H'->g x U H' fun σ2 H2=>tb { D with nx:=N,ct:=N,bk:=D.nx } σ2 H2):=by
 refine⟨λi m U H=>m=n - i/\i<=n/\Pv i U H,⟨n,by simp,Qcf _,h0⟩,?_⟩;rintro i m U H ⟨rfl,hi,p⟩;by_cases hlt:i < n
 ·refine .inr ⟨hlt,Pv (i+1),fun σ' H' p'=>⟨n - (i+1),by omega,rq,hlt,p'⟩,λx H' y=>?_⟩;obtain⟨e,y⟩:=y;subst e y;exact hs i U _ hlt p
 ·have e:i=n:=by omega
  subst e;exact .inl ⟨Qce _,hd U H p⟩
abbrev R2:=V->V->Hp->VK->Prop
def OpR (X:Cx) (f:Value->Value->Sem Value) (r:R2):Prop:=
 ∀(jb:YC) (s:Shared) (U : St) (H:Hp) (x y:V) (v u:Value) (Q:VK),Inv X jb U H s->RelV x v->RelV y u->r x y H Q ->
  wpAny (model X.prog X.w) X.A (f v u) (EP X jb U Q) X.xe s
def UnR (X:Cx) (f:Value->Sem Value) (r:V->Hp->VK->Prop):Prop:=
 ∀(jb:YC) (s:Shared) (U : St) (H:Hp) (x:V) (v:Value) (Q:VK),Inv X jb U H s->RelV x v->r x H Q ->
  wpAny (model X.prog X.w) X.A (f v) (EP X jb U Q) X.xe s
def CN (X:Cx) (f:Value) (r:YG->Hp->VK->Prop):Prop:=
 ∀(jb:YC) (s:Shared) (U : St) (H:Hp) (xs:YG) (us:YE) (Q:VK),Inv X jb U H s->Vals xs us->r xs H Q ->
  wpAny (model X.prog X.w) X.A (call f us) (EP X jb U Q) X.xe s
def jV (X:Cx) (r:V->Hp->(Bool->Hp->Prop)->Prop):Prop:=
 ∀(jb:YC) (s:Shared) (U : St) (H:Hp) (x:V) (v:Value) (Q:Bool->Hp->Prop),Inv X jb U H s->RelV x v->r x H Q ->
  wpAny (model X.prog X.w) X.A (truthy v) (TP X jb U Q) X.xe s
def tOp (r:R2) (ta tb:TE):TE:=fun U H Q=>ta U H λx H1=>tb U H1 λy H2=>r x y H2 Q
def tUn (r:V->Hp->VK->Prop) (ta:TE):TE:=fun U H Q=>ta U H λx H1=>r x H1 Q
def rI (C:Int->Int->Prop) (g:Int->Int->V):R2:=λx y H Q=>∃i j,x=.int i/\y=.int j/\C i j/\Q (g i j) H
def rI0 (g:Int->Int->V):R2:=λx y H Q=>∃i j,x=.int i/\y=.int j/\Q (g i j) H
def rU (g:Int->V):V->Hp->VK->Prop:=λx H Q=>∃i,x=.int i/\Q (g i) H
section
variable {X:Cx} {a b c:Expr} {ta tb tc:TE} {pos:Pos}
theorem Yp (ha:PE X a ta) (hb:PE X b tb) {jb:YC} {s:Shared} {U : St} {H:Hp} {R:V->V->Hp->Prop} (I:Inv X jb U H s)
  (h:ta U H λx H1=>tb U H1 λy H2=>R x y H2) {Q:YA} {f:Value->Value->Sem Value}
  (hf:∀v u s2 x y H2,Inv X jb U H2 s2->RelV x v->RelV y u->R x y H2->wpAny (model X.prog X.w) X.A (f v u) Q X.xe s2) :
  wpAny (model X.prog X.w) X.A (eval a X.env) (λv s₁=>wpAny (model X.prog X.w) X.A (eval b X.env) (λu s₂=>wpAny (model X.prog X.w) X.A (f v u) Q X.xe s₂) X.xe s₁) X.xe s:=by
 refine thn (ha jb s U H _ I h) λv s1 zz=>?_;obtain⟨x,H1,I1,r1,q1⟩:=zz;refine thn (hb jb s1 U H1 _ I1 q1) λu s2 zz=>?_;obtain⟨y,H2,I2,r2,q2⟩:=zz;exact hf v u s2 x y H2 I2 r1 r2 q2
theorem Bb {op:Operator} {r:R2} (ho:OpR X (binaryOp op) r) (ha:PE X a ta) (hb:PE X b tb):PE X (.BinOp a op b pos) (tOp r ta tb):=by
 intro jb s U H Q I h;exact wpAny_BinOp (Yp ha hb I h λv u s2 x y H2 I2 rx ry q=>ho jb s2 U H2 x y v u Q I2 rx ry q)
theorem Y7 {op:UnaryOp} {r:V->Hp->VK->Prop} (ho:UnR X (unaryOp op) r) (ha:PE X a ta):PE X (.UnaryOp op a pos) (tUn r ta):=by
 intro jb s U H Q I h;refine UnaryOp_ (thn (ha jb s U H _ I h) λv s1 zz=>?_);obtain⟨x,H1,I1,r1,q1⟩:=zz;exact ho jb s1 U H1 x v Q I1 r1 q1
theorem opI {f:Value->Value->Sem Value} {C:Int->Int->Prop} {g:Int->Int->Int}
  (rule:∀(i j:Int) (t u:Tok) (s:Shared) (Q:YA) (E:YA),C i j->Q (.int (g i j) s.toks) { s with toks:=s.toks+1 }->wpAny (model X.prog X.w) X.A (f (.int i t) (.int j u)) Q E s) :
  OpR X f (rI C λi j=>.int (g i j)):=by
 intro jb s U H x y v u Q I rx ry h;obtain⟨i,j,rfl,rfl,hc,q⟩:=h;obtain⟨t,rfl⟩:=rx;obtain⟨t',rfl⟩:=ry;exact rule i j t t' s _ _ hc ⟨.int (g i j),H,I.tok _,⟨_,rq⟩,q⟩
theorem fJ {f:Value->Value->Sem Value} {g:Int->Int->Int}
  (rule:∀(i j:Int) (t u:Tok) (s:Shared) (Q:YA) (E:YA),Q (.int (g i j) s.toks) { s with toks:=s.toks+1 }->wpAny (model X.prog X.w) X.A (f (.int i t) (.int j u)) Q E s) :
  OpR X f (rI0 λi j=>.int (g i j)):=by
 intro jb s U H x y v u Q I rx ry h;obtain⟨i,j,rfl,rfl,q⟩:=h;obtain⟨t,rfl⟩:=rx;obtain⟨t',rfl⟩:=ry;exact rule i j t t' s _ _ ⟨.int (g i j),H,I.tok _,⟨_,rq⟩,q⟩
theorem Xq {f:Value->Value->Sem Value} {g:Int->Int->Bool}
  (rule:∀(i j:Int) (t u:Tok) (s:Shared) (Q:YA) (E:YA),Q (.bool (g i j)) s->wpAny (model X.prog X.w) X.A (f (.int i t) (.int j u)) Q E s) :
  OpR X f (rI0 λi j=>.bl (g i j)):=by
 intro jb s U H x y v u Q I rx ry h;obtain⟨i,j,rfl,rfl,q⟩:=h;obtain⟨t,rfl⟩:=rx;obtain⟨t',rfl⟩:=ry;exact rule i j t t' s _ _ ⟨.bl (g i j),H,I,rq,q⟩
def jX (i j:Int):Prop:=0 < j/\j < 1073741824
def jW (i j:Int):Prop:=0<=j/\j<=1000000/\i.natAbs < 2 ^ 64
def Vj (i j:Int):Prop:=(-(2 ^ 64) < i/\i < 2 ^ 64)\/(-(2 ^ 64) < j/\j < 2 ^ 64)
theorem Vj.ok {i j:Int} (h:Vj i j):IntMulOk i j:=by
 rcases h with⟨h1,h2⟩|⟨h1,h2⟩
 ·exact .of_left (intBits_le_64 h1 h2)
 ·exact .of_right (intBits_le_64 h1 h2)
theorem Dd:OpR X (binaryOp .Add) (rI0 λi j=>.int (i+j)):=fJ λ_ _ _ _ _ _ _ q=>add_int q
theorem Eu:OpR X (binaryOp .Mult) (rI Vj λi j=>.int (i*j)):=opI λ_ _ _ _ _ _ _ hc q=>mul_int q hc.ok
theorem Oc:OpR X (binaryOp .FloorDiv) (rI jX λi j=>.int (i / j)):=opI λi j _ _ _ _ _ hc q=>by
 have h1:(0:Int) < j:=hc.1;have h2:j < 1073741824:=hc.2;exact floordiv_int (by omega) (by rw[Int.fdiv_eq_ediv_of_nonneg i (by omega)];exact q) (.inl (PyProof.noPylong_small (by omega)))
theorem Gz:OpR X (binaryOp .Mod) (rI (λ_ j=>0 < j) λi j=>.int (i % j)):=opI λi j _ _ _ _ _ hc q=>by
 have h1:(0:Int) < j:=hc;exact mod_int' (by omega) (by rw[Int.fmod_eq_emod_of_nonneg i (by omega)];exact q)
theorem V3:OpR X (binaryOp .Pow) (rI jW λi j=>.int (i ^ j.toNat)):=opI λ_ _ _ _ _ _ _ hc q=>pow_int_small hc.1 hc.2.1 hc.2.2 q
theorem unI {f:Value->Sem Value} {g:Int->Int}
  (rule:∀(i:Int) (t:Tok) (s:Shared) (Q:YA) (E:YA),Q (.int (g i) s.toks) { s with toks:=s.toks+1 }->wpAny (model X.prog X.w) X.A (f (.int i t)) Q E s) :
  UnR X f (rU λi=>.int (g i)):=by
 intro jb s U H x v Q I rx h;obtain⟨i,rfl,q⟩:=h;obtain⟨t,rfl⟩:=rx;exact rule i t s _ _ ⟨.int (g i),H,I.tok _,⟨_,rq⟩,q⟩
theorem Vo:UnR X (unaryOp .USub) (rU λi=>.int (-i)):=unI λ_ _ _ _ _ q=>neg_int q
end
def aN:V->V->Bool
 | .non,.non=>true | .non,.int _=>true | .int _,.non=>true | .non,.bl _=>true | .bl _,.non=>true | .non,.str _=>true | .str _,.non=>true
 | .int _,.int _=>true | .bl _,.bl _=>true | .str _,.str _=>true | .byt _,.byt _=>true
 | .int _,.str _=>true | .str _,.int _=>true | .bl _,.str _=>true | .str _,.bl _=>true
 | _,_=>false
def rEq:R2:=λx y H Q=>aN x y=true/\Q (.bl (decide (x=y))) H
def rNe:R2:=λx y H Q=>aN x y=true/\Q (.bl (!decide (x=y))) H
theorem TY {i j:Int}:decide (V.int i=V.int j)=(i == j):=by
 rw[QbG];simp
theorem Ww {i j:Bool}:decide (V.bl i=V.bl j)=(i == j):=by
 rw[QbG];simp
theorem TV {i j:Str}:decide (V.str i=V.str j)=(i == j):=by
 rw[QbG];simp
theorem T3 {i j:Array UInt8}:decide (V.byt i=V.byt j)=(i.toList == j.toList):=by
 rw[QbG];cases i;cases j;simp
section
variable {X:Cx} {a b c:Expr} {ta tb tc:TE} {pos:Pos}
theorem Bh {jb:YC} {U : St} {H:Hp} {s:Shared} {Q:VK} {k k':Bool} (I:Inv X jb U H s) (q:Q (.bl k) H) (e:k=k'):EP X jb U Q (.bool k') s:=by
 subst e;exact⟨.bl k,H,I,rq,q⟩
theorem FW:OpR X (compareOp .Eq) rEq:=by
 intro jb s U H x y v u Q I rx ry h;obtain⟨hs,q⟩:=h;cases x with
 | non=>
  cases rx;cases y with
  | non=>cases ry;exact PySem.EqNone.eq_none_none (Bh I q (by simp))
  | bl j=>cases ry;exact PySem.EqNone.eq_none_bool (Bh I q (by simp))
  | int j=>obtain⟨t',rfl⟩:=ry;exact PySem.EqNone.eq_none_int (Bh I q (by simp))
  | str j=>obtain⟨t',rfl⟩:=ry;exact PySem.EqNone.eq_none_str (Bh I q (by simp))
  | _=>exact absurd (show false=true from hs) QaN
 | bl i=>
  cases rx;cases y with
  | non=>cases ry;exact PySem.EqNone.eq_bool_none (Bh I q (by simp))
  | bl j=>cases ry;exact eq_bool (Bh I q Ww)
  | str j=>obtain⟨t',rfl⟩:=ry;exact PySem.EqMixed.eq_bool_str (Bh I q (by simp))
  | _=>exact absurd (show false=true from hs) QaN
 | int i=>
  obtain⟨t,rfl⟩:=rx;cases y with
  | non=>cases ry;exact PySem.EqNone.eq_int_none (Bh I q (by simp))
  | int j=>obtain⟨t',rfl⟩:=ry;exact eq_int (Bh I q TY)
  | str j=>obtain⟨t',rfl⟩:=ry;exact PySem.EqMixed.eq_int_str (Bh I q (by simp))
  | _=>exact absurd (show false=true from hs) QaN
 | str i=>
  obtain⟨t,rfl⟩:=rx;cases y with
  | non=>cases ry;exact PySem.EqNone.eq_str_none (Bh I q (by simp))
  | bl j=>cases ry;exact PySem.EqMixed.eq_str_bool (Bh I q (by simp))
  | int j=>obtain⟨t',rfl⟩:=ry;exact PySem.EqMixed.eq_str_int (Bh I q (by simp))
  | str j=>obtain⟨t',rfl⟩:=ry;exact eq_str (Bh I q TV)
  | _=>exact absurd (show false=true from hs) QaN
 | byt i=>
  obtain⟨t,rfl⟩:=rx;cases y with
  | byt j=>obtain⟨t',rfl⟩:=ry;exact PySem.W.eq_bytes (Bh I q T3)
  | _=>exact absurd (show false=true from hs) QaN
 | _=>cases y <;> exact absurd (show false=true from hs) QaN
theorem Uq:OpR X (compareOp .NotEq) rNe:=by
 intro jb s U H x y v u Q I rx ry h;obtain⟨hs,q⟩:=h;cases x with
 | non=>
  cases rx;cases y with
  | non=>cases ry;exact PySem.EqNone.ne_none_none (Bh I q (by simp))
  | bl j=>cases ry;exact PySem.EqNone.ne_none_bool (Bh I q (by simp))
  | int j=>obtain⟨t',rfl⟩:=ry;exact PySem.EqNone.ne_none_int (Bh I q (by simp))
  | str j=>obtain⟨t',rfl⟩:=ry;exact PySem.EqNone.ne_none_str (Bh I q (by simp))
  | _=>exact absurd (show false=true from hs) QaN
 | bl i=>
  cases rx;cases y with
  | non=>cases ry;exact PySem.EqNone.ne_bool_none (Bh I q (by simp))
  | bl j=>cases ry;exact ne_bool (Bh I q (congrArg not Ww))
  | str j=>obtain⟨t',rfl⟩:=ry;exact PySem.EqMixed.ne_bool_str (Bh I q (by simp))
  | _=>exact absurd (show false=true from hs) QaN
 | int i=>
  obtain⟨t,rfl⟩:=rx;cases y with
  | non=>cases ry;exact PySem.EqNone.ne_int_none (Bh I q (by simp))
  | int j=>obtain⟨t',rfl⟩:=ry;exact ne_int (Bh I q (congrArg not TY))
  | str j=>obtain⟨t',rfl⟩:=ry;exact PySem.EqMixed.ne_int_str (Bh I q (by simp))
  | _=>exact absurd (show false=true from hs) QaN
 | str i=>
  obtain⟨t,rfl⟩:=rx;cases y with
  | non=>cases ry;exact PySem.EqNone.ne_str_none (Bh I q (by simp))
  | bl j=>cases ry;exact PySem.EqMixed.ne_str_bool (Bh I q (by simp))
  | int j=>obtain⟨t',rfl⟩:=ry;exact PySem.EqMixed.ne_str_int (Bh I q (by simp))
  | str j=>obtain⟨t',rfl⟩:=ry;exact ne_str (Bh I q (congrArg not TV))
  | _=>exact absurd (show false=true from hs) QaN
 | byt i=>
  obtain⟨t,rfl⟩:=rx;cases y with
  | byt j=>obtain⟨t',rfl⟩:=ry;exact PySem.W.ne_bytes (Bh I q (congrArg not T3))
  | _=>exact absurd (show false=true from hs) QaN
 | _=>cases y <;> exact absurd (show false=true from hs) QaN
theorem dD:OpR X (compareOp .Lt) (rI0 λi j=>.bl (decide (i < j))):=Xq λ_ _ _ _ _ _ _ q=>lt_int q
theorem dF:OpR X (compareOp .Gt) (rI0 λi j=>.bl (decide (j < i))):=Xq λ_ _ _ _ _ _ _ q=>gt_int q
theorem dG:OpR X (compareOp .GtE) (rI0 λi j=>.bl (decide (j<=i))):=Xq λ_ _ _ _ _ _ _ q=>ge_int q
theorem bf:OpR X (compareOp .Is) (λx y H Q=>y=.non/\Q (.bl (decide (x=.non))) H):=by
 intro jb s U H x y v u Q I rx ry h;obtain⟨rfl,q⟩:=h;cases ry;refine is_none_gen (Bh I q ?_);cases x <;> first
  | (cases rx;rfl)
  | (obtain⟨t,rfl⟩:=rx;rfl)
theorem OpR.or {f:Value->Value->Sem Value} {r r':R2} (h:OpR X f r) (h':OpR X f r'):OpR X f (λx y H Q=>r x y H Q\/r' x y H Q):=by
 intro jb s U H x y v u Q I rx ry q;rcases q with q | q
 ·exact h jb s U H x y v u Q I rx ry q
 ·exact h' jb s U H x y v u Q I rx ry q
theorem Bw (b:Expr) {op:CmpOp} (h:op≠.In:=by decide) (h2:op≠.NotIn:=by decide):behindInMarks op b=false:=by
 have e1:(op == CmpOp.In)=false:=by cases op <;> first | rfl | exact absurd rfl h
 have e2:(op == CmpOp.NotIn)=false:=by cases op <;> first | rfl | exact absurd rfl h2
 cases b <;> simp[behindInMarks,e1,e2]
theorem K5 {op:CmpOp} {r:R2} (ho:OpR X (compareOp op) r) (ha:PE X a ta) (hb:PE X b tb) (hm:behindInMarks op b=false):PE X (.Compare a [op] [b] pos) (tOp r ta tb):=by
 intro jb s U H Q I h;exact wpAny_Compare1 (Yp ha hb I h λv u s2 x y H2 I2 rx ry q=>ho jb s2 U H2 x y v u Q I2 rx ry q) hm
def cX (t:TE):TT:=fun U H Q=>t U H λx H'=>∃k,x=.bl k/\Q k H'
theorem Bd {op:CmpOp} {r:R2} (ho:OpR X (compareOp op) r) (ha:PE X a ta) (hb:PE X b tb) (hm:behindInMarks op b=false):PT X (.Compare a [op] [b] pos) (cX (tOp r ta tb)):=by
 intro jb s U H Q I h;refine wpAny_isTrue_Compare1 (thn (ha jb s U H _ I h) λv s1 ⟨x,H1,I1,r1,q1⟩=>thn (hb jb s1 U H1 _ I1 q1) λu s2 ⟨y,H2,I2,r2,q2⟩=>
  thn (ho jb s2 U H2 x y v u _ I2 r1 r2 q2) λc s3 ⟨z,H3,I3,r3,k,e,q3⟩=>?_) hm
 subst e;cases r3;exact wpAny_truthy_bool ⟨H3,I3,q3⟩
def Oz (K:YD) (x:V) (H:Hp) (k:Bool):Prop:=
 match x with
 | .non=>k=false
 | .bl b=>k=b
 | .int i=>k=(i != 0)
 | .str y=>y.length<=sizeLine/\k=((y.length:Int) != 0)
 | .byt y=>y.size<=sizeLine/\k=((y.size:Int) != 0)
 | .ref p=>(∃xs,SqL K H p xs/\k=!xs.isEmpty)\/(∃xs,SqT K H p xs/\k=!xs.isEmpty)\/∃kvs,H p=some (.dK kvs)/\k=!kvs.isEmpty
 | _=>False
theorem UG {κ : Type} {kvs:List (κ×V)} {vs:List (κ×Value)} (r:KV kvs vs):(!vs.isEmpty)=!kvs.isEmpty:=by
 cases r <;> rfl
theorem Nh {xs:YG} {its:YE} (r:Vals xs its):(!its.toArray.isEmpty)=!xs.isEmpty:=by
 cases r <;> simp
theorem Jh:(sizeLine:Nat) < 2 ^ 63:=by rw[sizeLine_eq];decide
theorem Vq:jV X (λx H Q=>∃k,Oz X.K x H k/\Q k H):=by
 intro jb s U H x v Q I rx h;obtain⟨k,e,q⟩:=h;have hl:=Jh;have hs:sizeLine=16777216:=sizeLine_eq;cases x with
 | non=>
  cases rx;have e':k=false:=e;subst e';exact truthy_none ⟨H,I,q⟩
 | bl b=>
  cases rx;have e':k=b:=e;subst e';exact wpAny_truthy_bool ⟨H,I,q⟩
 | int i=>
  obtain⟨t,rfl⟩:=rx;have e':k=(i != 0):=e;subst e';exact PySem.P.truthy_int ⟨H,I,q⟩
 | str y=>
  obtain⟨t,rfl⟩:=rx;obtain⟨hy,e'⟩ : y.length<=sizeLine/\k=((y.length:Int) != 0):=e;subst e';exact PySem.P.truthy_str (by omega) ⟨H,I.tok _,q⟩
 | byt y=>
  obtain⟨t,rfl⟩:=rx;obtain⟨hy,e'⟩ : y.size<=sizeLine/\k=((y.size:Int) != 0):=e;subst e';exact PySem.W.truthy_bytes (by omega) ⟨H,I.tok _,q⟩
 | ref p=>
  cases rx;have e':(∃xs,SqL X.K H p xs/\k=!xs.isEmpty)\/(∃xs,SqT X.K H p xs/\k=!xs.isEmpty)\/∃kvs,H p=some (.dK kvs)/\k=!kvs.isEmpty:=e;rcases e' with⟨xs,hx,e'⟩|⟨xs,hx,e'⟩|⟨kvs,hx,e'⟩
  ·subst e';obtain⟨its,r,pl,hz⟩:=I.list hx;have hlen:=r.length;exact wpAny_truthy_list pl.isList (by simp only[Qbc];omega) ⟨H,I.tok _,by rw[Nh r];exact q⟩
  ·subst e';obtain⟨its,r,pl,hz⟩:=I.tuple hx;have hlen:=r.length;exact truthy_tuple pl (by simp only[Qbc];omega) ⟨H,I.tok _,by rw[Nh r];exact q⟩
  ·subst e';obtain⟨hz,hS,vs,r,m⟩ : kvs.length<=sizeLine/\(p == sysModules)=false/\∃vs,KV kvs vs/\s.heap.DictOf (Bj X.prog X.w) p vs:=I.hok p _ hx;have hlen:kvs.length=vs.length:=QbO r;exact wpAny_truthy_dict hS m (by omega) ⟨H,I.tok _,by rw[UG r];exact q⟩
 | _=>exact (show False from e).elim
theorem QJ (ha:PE X a ta) (he:∀whole,isTrue a X.env whole=(do let v <-whole;standAt a.pos;holding [v] (truthy v))) :
  PT X a (fun U H Q=>ta U H λx H'=>∃k,Oz X.K x H' k/\Q k H'):=by
 intro jb s U H Q I h;refine isTrue_plain (thn (ha jb s U H _ I h) λv s1 zz=>?_) (he _);obtain⟨x,H1,I1,r1,q1⟩:=zz;exact Vq jb s1 U H1 x v Q I1 r1 q1
theorem MN:OpR X (binaryOp .Add) (λx y H Q=>∃i j,x=.str i/\y=.str j/\i.length+j.length<=sizeLine/\Q (.str (i++j)) H):=by
 intro jb s U H x y v u Q I rx ry h;obtain⟨i,j,rfl,rfl,hz,q⟩:=h;obtain⟨t,rfl⟩:=rx;obtain⟨t',rfl⟩:=ry;exact add_str (λt' tk=>⟨.str (i++j),H,I.tok _,⟨_,rq⟩,q⟩) hz
theorem vals1 {x:V} {us:YE} (r:Vals [x] us):∃u,us=[u]/\RelV x u:=by
 cases r with
 | cons r1 r2=>cases r2;exact⟨_,rfl,r1⟩
theorem vals2 {x y:V} {us:YE} (r:Vals [x,y] us):∃u w',us=[u,w']/\RelV x u/\RelV y w':=by
 cases r with
 | cons r1 r2=>
  cases r2 with
  | cons r3 r4=>cases r4;exact⟨_,_,rfl,r1,r3⟩
theorem RG:CN X (.builtin "abs") (λxs H Q=>∃i,xs=[.int i]/\Q (.int (if i < 0 then -i else i)) H):=by
 intro jb s U H xs us Q I r h;obtain⟨i,rfl,q⟩:=h;obtain⟨u,rfl,t,rfl⟩:=vals1 r;exact call_abs_int λu tk=>⟨.int (if i < 0 then -i else i),H,I.tok _,⟨_,rq⟩,q⟩
theorem WQ (hc:X.calm=true):CN X (.builtin "max") (λxs H Q=>∃i j,xs=[.int i,.int j]/\Q (.int (if j > i then j else i)) H):=by
 intro jb s U H xs us Q I r h;obtain⟨i,j,rfl,q⟩:=h;obtain⟨u,w',rfl,⟨t,rfl⟩,⟨t',rfl⟩⟩:=vals2 r;refine max_two_ints (I.ok.hd hc) λh' tk k=>⟨_,H,I.kept k,?_,q⟩;by_cases hj:j > i
 ·rw[if_pos hj,if_pos hj];exact⟨_,rq⟩
 ·rw[if_neg hj,if_neg hj];exact⟨_,rq⟩
theorem WM (hc:X.calm=true):CN X (.builtin "min") (λxs H Q=>∃i j,xs=[.int i,.int j]/\Q (.int (if j < i then j else i)) H):=by
 intro jb s U H xs us Q I r h;obtain⟨i,j,rfl,q⟩:=h;obtain⟨u,w',rfl,⟨t,rfl⟩,⟨t',rfl⟩⟩:=vals2 r;refine min_two_ints (I.ok.hd hc) λh' tk k=>⟨_,H,I.kept k,?_,q⟩;by_cases hj:j < i
 ·rw[if_pos hj,if_pos hj];exact⟨_,rq⟩
 ·rw[if_neg hj,if_neg hj];exact⟨_,rq⟩
theorem Pq:CN X (.type "int") (λxs H Q=>(∃i,xs=[.int i]/\Q (.int i) H)\/∃k,xs=[.bl k]/\Q (.int (if k then 1 else 0)) H):=by
 intro jb s U H xs us Q I r h;rcases h with⟨i,rfl,q⟩|⟨k,rfl,q⟩
 ·obtain⟨u,rfl,t,rfl⟩:=vals1 r;exact call_int_int ⟨.int i,H,I,⟨_,rq⟩,q⟩
 ·obtain⟨u,rfl,r1⟩:=vals1 r;cases r1;exact call_int_bool ⟨.int (if k then 1 else 0),H,I.tok _,⟨_,rq⟩,q⟩
end
structure Yu (h:Heap) (x dx C:Addr) (mA:YB):Prop where
 obj:h.get? x=some (instObj C dx)
 ns:h.Ns1 dx mA
 ne:dx≠x
theorem Wb {h:Heap} {dx:Addr} {mA:YB} (n:h.Ns1 dx mA):∃od,h.get? dx=some od/\∀name,PySem.W.lookIn name od=some (mA name):=by
 obtain⟨o,es,ep,ho,hd,hk,_,hm⟩:=n;refine⟨o,ho,λname=>?_⟩;have e:=hm name;unfold nsFind findBy at e;rw[<-Array.find?_toList] at e;unfold PySem.W.lookIn;rw[hd];dsimp only;split
 ·rename_i y q;rw[q] at e;exact congrArg some e
 ·rename_i q;rw[q] at e;have a:es.toList.any (·.refKey)=false:=by
   rw[List.any_eq_false];intro y hy;obtain⟨z,t,hkey⟩:=hk y (Array.mem_toList_iff.mp hy);simp[DictEntry.refKey,hkey]
  have a':¬es.toList.any (·.refKey)=true:=by rw[a];exact QaN
  rw[if_neg a'];exact congrArg some e
theorem Yu.look {h:Heap} {x dx C:Addr} {mA:YB} (I:Yu h x dx C mA):∃od,PySem.W.InstAt h x (instObj C dx) C (some od)/\∀name,PySem.W.lookIn name od=some (mA name):=
 let ⟨od,ho,hl⟩:=Wb I.ns
 ⟨od,⟨I.obj,rq,rq,ho⟩,hl⟩
section
variable {prog:Program} {w:World} {A:Around} {E:YA} {s:Shared} {K:YD} {x dx C f:Addr} {mA:YB} {name:Str} {v:Value}
end
theorem Gs.some_of {v:V} {o:Option Value} (r:Gs (some v) o):∃u,o=some u/\RelV v u:=by
 cases o with
 | none=>exact (show False from r).elim
 | some u=>exact⟨u,rfl,r⟩
section
variable {P:Program} {w:World} {H H':Hp} {h h':Heap} {a C dx:Addr} {fs fs':List (Str×V)}
theorem ZS (hok:HOk P w H h) (e:H a=some (.ins C dx fs)):∃mA,Yu h a dx C mA/\(∀f,Gs (fs.lookup f) (mA f))/\PySem.Within mA (fs.map (·.1))/\fs.length<=1000/\H dx=some (.own a):=by
 obtain⟨d,z,ne,ob,mA,n,r,q⟩:=(show Az P w H h a (.ins C dx fs) from hok a _ e)
 exact⟨mA,⟨ob,n,ne⟩,r,q,z,d⟩
end
structure Cls (K:YD) (C:Addr):Prop where
 pg:PySem.W.plainGet K C Str.empty=true
 hd:PySem.W.hasDictIn K C=true
 po:PySem.W.plainOver K C=true
 sa:findIn K (.ref C) "__setattr__"=some (some (.builtin "object.__setattr__"))
theorem Cls.get {K:YD} {C:Addr} (c:Cls K C) (f:Str):PySem.W.plainGet K C f=true:=c.pg
structure Meth (K:YD) (C:Addr) (m:Str) (f:Addr):Prop where
 at_:findIn K (.ref C) m=some (some (.ref f))
 fn:PySem.W.isFn K (.ref f)=true
 kp:keepIn K (.ref f)=true
section
variable {X:Cx} {jb:YC} {U : St} {H:Hp} {s:Shared} {a C dx:Addr} {fs:List (Str×V)} {f:Str} {v:V} {A:Around} {E:YA}
theorem Inv.made (I:Inv X jb U H s):Inv X jb U (upd (upd H s.heap.objs.size (.own (s.heap.objs.size+1))) (s.heap.objs.size+1) (.ins C s.heap.objs.size []))
  { s with heap:=(s.heap.push emptyDict).push (instObj C s.heap.objs.size) }:=by
 have e1:(s.heap.push emptyDict).get? s.heap.objs.size=some emptyDict:=QaG s.heap rfl;have e2:((s.heap.push emptyDict).push (instObj C s.heap.objs.size)).get? (s.heap.objs.size+1)=some (instObj C s.heap.objs.size):=by
  have:=QaG (s.heap.push emptyDict) (o:=instObj C s.heap.objs.size) rfl
  rwa [QbL] at this
 have e3:(s.heap.push emptyDict).Ns s.heap.objs.size (λ_=>none):=⟨emptyDict,#[],_,e1,rq,(λe he=>absurd he (by simp)),λ_=>rfl⟩;have I1:=I.laid (a:=s.heap.objs.size) (o:=.own (s.heap.objs.size+1)) (h':=s.heap.push emptyDict) (t':=s.toks) (λb u q=>Qas _ q) (Qce _) ⟨_,e1⟩;refine I1.laid (a:=s.heap.objs.size+1) (o:=.ins C s.heap.objs.size []) (t':=s.toks) (λb u q=>Qas _ q) (Nat.le_of_eq (QbL _ _)) ?_;have ne:s.heap.objs.size≠s.heap.objs.size+1:=QbX (Qbp _);refine⟨by rw[Aj ne,Ab],Qcf _,ne,e2,λ_=>none,(Heap.Ns1.of_empty e3).at λo q=>Qas _ q,λ_=>True.intro,λy hy=>absurd rfl hy⟩
end
section
variable {X:Cx} {o e value:Expr} {f:Str} {pos pos' tpos:Pos} {ta tv:TE}
end
section
variable {X:Cx} {jb:YC} {U : St} {H:Hp} {s:Shared} {A:Around} {E:YA} {Q:YA} {c:Value} {b:Bool}
inductive Ga (K:YD) (H:Hp):V->Value->Prop where
 | non:Ga K H .non (.type "NoneType")
 | bl (x:Bool):Ga K H (.bl x) (.type "bool")
 | int (i:Int):Ga K H (.int i) (.type "int")
 | str (x:Str):Ga K H (.str x) (.type "str")
 | flt (x:UInt64):Ga K H (.flt x) (.type "float")
 | lst {a:Addr} {xs:YG} (e:H a=some (.lst xs)):Ga K H (.ref a) (.type "list")
 | frz {a:Addr} {o:Obj} {xs:YG} (e:H a=some (.frz o (.lst xs))):Ga K H (.ref a) (.type "list")
 | tup {a:Addr} {xs:YG} (e:H a=some (.tup xs)):Ga K H (.ref a) (.type "tuple")
 | dK {a:Addr} {kvs:List (Key×V)} (e:H a=some (.dK kvs)):Ga K H (.ref a) (.type "dict")
 | dT {a:Addr} {kvs:List (List Key×V)} (e:H a=some (.dT kvs)):Ga K H (.ref a) (.type "dict")
 | ins {a C dx:Addr} {fs:List (Str×V)} (e:H a=some (.ins C dx fs)) (cl:Cls K C) (ha:findIn K (.ref C) "__class__"=some (some (.builtin "object.__class__")))
   (hn:PySem.W.specialIn K (.builtin "object.__class__") "__get__"=some (some (.builtin "getset_descriptor.__get__"))) (htk:PySem.W.takesIn K (.builtin "object.__class__")=some true)
   (hm:PySem.W.mroIn K C (.type "object")=some true):Ga K H (.ref a) (.ref C)
theorem Wj {x:V} {u t:Value} (I:Inv X jb U H s) (rx:RelV x u) (ty:Ga X.K H x t) (e:PySem.W.kitOne X.K t c=some b) (h:∀tk,Q (.bool b) { s with toks:=tk }) :
  wpAny (model X.prog X.w) A (call (.builtin "isinstance") [u,c]) Q E s:=by
 cases ty with
 | non=>cases (show u=Value.none from rx);exact kia_one PySem.W.kitx_none I.kIn True.intro e (λz=>nomatch z) h
 | bl y=>cases (show u=Value.bool y from rx);exact kia_one PySem.W.kitx_bool I.kIn True.intro e (λz=>nomatch z) h
 | int i=>obtain⟨t,q⟩:=(show ∃t,u=Value.int i t from rx);cases q;exact kia_one PySem.W.kitx_int I.kIn True.intro e (λz=>nomatch z) h
 | str y=>obtain⟨t,q⟩:=(show ∃t,u=Value.str y t from rx);cases q;exact kia_one PySem.W.kitx_str I.kIn True.intro e (λz=>nomatch z) h
 | flt y=>obtain⟨t,q⟩:=(show ∃t,u=Value.float y t from rx);cases q;exact kia_one PySem.W.kitx_float I.kIn True.intro e (λz=>nomatch z) h
 | @lst a xs ea=>
  cases (show u=Value.ref a from rx)
  obtain⟨_,_,n,_,h1⟩:=(show Az X.prog X.w H s.heap a (.lst xs) from I.hok a _ ea)
  exact kia_one PySem.W.kitx_list I.kIn ⟨_,h1,rq⟩ e (λz=>nomatch z) h
 | @frz a ob xs ea=>
  cases (show u=Value.ref a from rx)
  obtain⟨_,_,_,n,_,h1⟩:=(show Az X.prog X.w H s.heap a (.frz ob (.lst xs)) from I.hok a _ ea)
  exact kia_one PySem.W.kitx_list I.kIn ⟨_,h1,rq⟩ e (λz=>nomatch z) h
 | @tup a xs ea=>
  cases (show u=Value.ref a from rx)
  obtain⟨_,_,_,p⟩:=(show Az X.prog X.w H s.heap a (.tup xs) from I.hok a _ ea)
  obtain⟨o,h1,h2,_⟩:=p;exact kia_one PySem.W.kitx_tuple I.kIn ⟨o,h1,h2⟩ e (λz=>nomatch z) h
 | @dK a kvs ea=>
  cases (show u=Value.ref a from rx)
  obtain⟨_,_,vs,_,p⟩:=(show Az X.prog X.w H s.heap a (.dK kvs) from I.hok a _ ea)
  obtain⟨o,es,ep,h1,h2,_⟩:=p;exact kia_one PySem.W.kitx_dict I.kIn ⟨o,h1,h2.1⟩ e (λz=>nomatch z) h
 | @dT a kvs ea=>
  cases (show u=Value.ref a from rx)
  obtain⟨_,_,xs,_,o,es,ep,h1,h2,_⟩:=(show Az X.prog X.w H s.heap a (.dT kvs) from I.hok a _ ea)
  exact kia_one PySem.W.kitx_dict I.kIn ⟨o,h1,h2.1⟩ e (λz=>nomatch z) h
 | @ins a C dx fs ea cl ha hn htk hm=>
  cases (show u=Value.ref a from rx)
  obtain⟨mA,O,_⟩:=ZS I.hok ea;obtain⟨od,J,_⟩:=O.look;exact kia_one (PySem.W.kitx_own (cl.get _) cl.hd ha hn htk hm) I.kIn J e (λz=>nomatch z) h
end
structure Cz (k:Nat) (A:Around):Prop where
 hd:A.handled=none
 dp:A.depth+3*k+5 < recursionLimit
 un:A.units+16*k+200 < cLine
theorem Cz.mono {j k:Nat} {A:Around} (r:Cz k A) (h:j<=k):Cz j A:=⟨r.hd,by have:=r.dp;omega,by have:=r.un;omega⟩
theorem Cz.deeper {k:Nat} {A:Around} (r:Cz (k+1) A) (env:Env):Cz k (A.deeper env):=
 ⟨r.hd,by have:=r.dp;show A.depth+1+3*k+5 < _;omega,by have:=r.un;show A.units+3+16*k+200 < _;omega⟩
theorem Cz.in1 {k:Nat} {A:Around} (r:Cz (k+1) A):Cz k A.in1:=
 ⟨r.hd,by have:=r.dp;show A.depth+3*k+5 < _;omega,by have:=r.un;show A.units+1+16*k+200 < _;omega⟩
theorem Cz.depth {k:Nat} {A:Around} (r:Cz k A):A.depth < recursionLimit:=by have:=r.dp;omega
theorem Cz.units {k:Nat} {A:Around} (r:Cz k A):A.units+64 < cLine:=by have:=r.un;omega
def aA:TA:=λ_ H Q=>Q [] H
def YQ (ta:TE) (tr:TA):TA:=fun U H Q=>ta U H λx H1=>tr U H1 λxs H2=>Q (x::xs) H2
section
variable {X:Cx} {e:Expr} {es:YJ} {te:TE} {t:TA} {pos:Pos}
theorem Ac:PA X [] aA:=λ_ _ _ _ H Q I h=>Calls.spliced_nil ⟨[],H,I,.nil,h⟩
theorem Aa (ha:PE X e te) (hr:PA X es t) (hs:starEach (e::es) X.env=(false,eval e X.env)::starEach es X.env:=by rfl):PA X (e::es) (YQ te t):=by
 intro pos jb s U H Q I h;rw[hs];show wpAny _ _ (spliced ((false,eval e X.env)::backTo pos (starEach es X.env))) _ _ s;refine QaZ (thn (ha jb s U H _ I h) λu s1 zz=>?_);obtain⟨x,H1,I1,r1,q1⟩:=zz;refine thn (hr pos jb s1 U H1 _ I1 q1) λus s2 zz=>?_;obtain⟨xs,H2,I2,r2,q2⟩:=zz;exact⟨x::xs,H2,I2,.cons r1 r2,q2⟩
def d9 (t:TA):TE:=fun U H Q=>t U H λxs H1=>xs.length<=sizeLine/\∀p,H1 p=none->Q (.ref p) (upd H1 p (.tup xs))
def eO (t:TA):TE:=fun U H Q=>t U H λxs H1=>xs.length<=sizeLine/\∀p,H1 p=none->Q (.ref p) (upd H1 p (.lst xs))
theorem Bc {x1} (h:PA X es t):PE X (.Tuple es x1 pos) (d9 t):=by
 intro jb s U H Q I hq;refine wpAny_Tuple_spliced (thn (h pos jb s U H _ I hq) λus s1 zz=>?_);obtain⟨xs,H1,I1,r,z,q⟩:=zz;refine⟨by rw[<-r.length];exact z,?_⟩;have hf:H1 s1.heap.objs.size=none:=I1.hok.fresh (Qce _);refine⟨.ref s1.heap.objs.size,upd H1 s1.heap.objs.size (.tup xs),I1.laid (t':=s1.toks) (λb u e=>Qas _ e) (Qce _) ?_,rq,q _ hf⟩;exact⟨z,us,r,⟨_,QaG _ rfl,rq,_,rq⟩⟩
theorem Cg (h:PA X es t):PE X (.List es pos) (eO t):=by
 intro jb s U H Q I hq;refine wpAny_List_spliced (thn (h pos jb s U H _ I hq) λus s1 zz=>?_);obtain⟨xs,H1,I1,r,z,q⟩:=zz;refine⟨by rw[<-r.length];exact z,?_⟩;have hf:H1 s1.heap.objs.size=none:=I1.hok.fresh (Qce _);refine⟨.ref s1.heap.objs.size,upd H1 s1.heap.objs.size (.lst xs),I1.laid (t':=s1.toks) (λb u e=>Qas _ e) (Qce _) ?_,rq,q _ hf⟩;exact⟨z,us,0,r,QaG _ rfl⟩
end
abbrev Sp:=YG->Hp->VK->XK->Prop
abbrev CXT:=List Env->Hp->Shared->XK->YA
structure Mr (P:Program) (w:World) (K:YD) (mg:YB) (base:Heap) (A:Around) (outer:List Env) (s:Shared) (H:Hp):Prop where
 frames:A.frames=some outer
 mod:Mod K mg base
 bs:∀b o,base.get? b=some o->s.heap.get? b=some o/\H b=none
 bsz:base.objs.size<=s.heap.objs.size
 Gm:s.heap.FunFrames base outer
 frf:∀b∈frs outer,H b=none
 hok:HOk P w H s.heap
 bare:AllBare s.gens
def CE (outer:List Env) (P:Program) (w:World) (H:Hp) (s:Shared) (Q:VK) (u:Value) (s':Shared):Prop:=
 ∃v H',s'.os=s.os/\AllBare s'.gens/\Un (frs outer) [] H H' s.heap s'.heap/\HOk P w H' s'.heap/\RelV v u/\Q v H'
def CR (CX:CXT) (outer:List Env) (P:Program) (w:World) (H:Hp) (s:Shared) (Q:VK) (E:XK) (r:Result) (s':Shared):Prop:=
 match r with
 | .ok (.ret u)=>CE outer P w H s Q u s'
 | .ok _=>False
 | .error e=>CX outer H s E e s'
structure Ej (P:Program) (w:World) (K:YD) (mg:YB) (base:Heap) (CX:CXT) (k:Nat) (f:Addr) (fd:FuncData) (ps:YF) (sp:Sp):Prop where
 len:∀vs H Q E,sp vs H Q E->vs.length=ps.length
 run:∀(A:Around) (outer:List Env) (s:Shared) (H:Hp) (args:Args) (us:YE) (vs:YG) (Q:VK) (E:XK),Cz k A->Mr P w K mg base A outer s H->BindsTo s fd args (ps.zip us)->Vals vs us->sp vs H Q E ->
  codeAny (model P w) A (.call (.ref f) args) (CR CX outer P w H s Q E) s
theorem Ej.mono {P:Program} {w:World} {K:YD} {mg:YB} {base:Heap} {CX:CXT} {j k:Nat} {f:Addr} {fd:FuncData} {ps:YF} {sp:Sp} (F:Ej P w K mg base CX j f fd ps sp) (h:j<=k) :
  Ej P w K mg base CX k f fd ps sp:=⟨F.len,λA outer s H args us vs Q E hr=>F.run A outer s H args us vs Q E (hr.mono h)⟩
theorem Ej.imp {P:Program} {w:World} {K:YD} {mg:YB} {base:Heap} {CX:CXT} {k:Nat} {f:Addr} {fd:FuncData} {ps:YF} {sp sp':Sp} (F:Ej P w K mg base CX k f fd ps sp)
  (h:∀vs H Q E,sp' vs H Q E->sp vs H Q E):Ej P w K mg base CX k f fd ps sp':=
 ⟨λvs H Q E q=>F.len vs H Q E (h _ _ _ _ q),λA outer s H args us vs Q E hr he hb hv hs=>F.run A outer s H args us vs Q E hr he hb hv (h _ _ _ _ hs)⟩
theorem Mr.in1 {P:Program} {w:World} {K:YD} {mg:YB} {base:Heap} {A:Around} {outer:List Env} {s:Shared} {H:Hp} (e:Mr P w K mg base A outer s H) :
  Mr P w K mg base A.in1 outer s H:=⟨e.frames,e.mod,e.bs,e.bsz,e.Gm,e.frf,e.hok,e.bare⟩
section
variable {X:Cx} {jb:YC} {U : St} {H:Hp} {s s':Shared}
theorem Inv.env0 (I:Inv X jb U H s):Mr X.prog X.w X.K X.mg X.base X.A X.stack s H:=
 ⟨I.ok.frames,I.ok.mod,I.bs,QbY I.ok.bsz I.sz,I.stack,I.NP,I.hok,I.bare⟩
theorem Inv.after {Q:VK} {u:Value} (I:Inv X jb U H s) (h:CE X.stack X.prog X.w H s Q u s'):EP X jb U Q u s':=by
 obtain⟨v,H',os,bare,un,hok,r,q⟩:=h;obtain⟨hh,g,d,t,os'⟩:=s';obtain rfl:os'=s.os:=os;exact⟨v,H',I.call (h':=hh) (g':=g) (d':=d) (t':=t) (ch:=[]) un hok bare (λb z=>absurd z (by simp)),r,q⟩
end
def YT (sp:Sp) (dvs:YG) (E:XK) (t:TA):TE:=fun U H Q=>t U H λvs H1=>sp (vs++dvs) H1 Q E
def Binds (K:YD) (fd:FuncData) (ps:YF) (ds:YE):Prop:=
 ∀(s:Shared) (us:YE),K.In s.heap->(us++ds).length=ps.length->BindsTo s fd ⟨us,[]⟩ (ps.zip (us++ds))
theorem Binds.all {K:YD} {fd:FuncData} {ps:YF} (h:∀us:YE,us.length=ps.length->bindArgs fd ⟨us,[]⟩=pure (ps.zip us)):Binds K fd ps []:=λs us _ hl=>by
 rw[QbA] at hl ⊢;exact .of_eq (h us hl)
def Passes (CX:CXT) (X:Cx) (E:XK):Prop:=∀(jb:YC) (U : St) (H:Hp) (s:Shared) (e:Value) (s':Shared),Inv X jb U H s->CX X.stack H s E e s'->X.xe e s'
section
variable {X:Cx} {CX:CXT} {k:Nat} {f C:Addr} {fd:FuncData} {ps:YF} {sp:Sp} {dvs:YG} {ds:YE} {E:XK} {x m:Str} {p pos apos:Pos} {e o:Expr} {es:YJ} {ta:TE} {t:TA}
theorem aP {jb:YC} {U : St} {H:Hp} {s:Shared} {Q:VK} {us:YE} {vs:YG} (F:Ej X.prog X.w X.K X.mg X.base CX k f fd ps sp) (hr:Cz k X.A) (hb:Binds X.K fd ps ds) (hd:Vals dvs ds) (hx:Passes CX X E)
  (I:Inv X jb U H s) (r:Vals vs us) (h:sp (vs++dvs) H Q E):wpAny (model X.prog X.w) X.A (call (.ref f) us) (EP X jb U Q) X.xe s:=by
 have r2:Vals (vs++dvs) (us++ds):=r.append hd;have hl:(us++ds).length=ps.length:=by rw[<-r2.length];exact F.len _ _ _ _ h
 refine wpAny_call (Qcc (F.run X.A X.stack s H ⟨us,[]⟩ (us++ds) (vs++dvs) Q E hr I.env0 (hb s us I.kIn hl) r2 h) λr s' hq=>?_);cases r with
 | error e=>exact hx jb U H s e s' I hq
 | ok fl=>
  cases fl with
  | ret u=>exact I.after hq
  | next=>exact False.elim hq
  | brk=>exact False.elim hq
  | cont=>exact False.elim hq
theorem Zy (F:Ej X.prog X.w X.K X.mg X.base CX k f fd ps sp) (hr:Cz k X.A) (hg:Gl X x) (hm:X.mg x=some (.ref f)) (hk:keepIn X.K (.ref f)=true) (hb:Binds X.K fd ps ds) (hd:Vals dvs ds) (hx:Passes CX X E)
  (ha:PA X (e::es) t) (hdb:(x == ("__debug__":Str))=false:=by decide) (he:starEach (e::es) X.env=(false,eval e X.env)::starEach es X.env:=by rfl) (hpl:(backTo pos (starEach es X.env)).any (·.1)=false:=by rfl) :
  PE X (.Call (.Name x p) (e::es) [] pos) (YT sp dvs E t):=by
 intro jb s U H Q I h;refine QaV (Tv I hg hm ?_ hdb);refine PySem.W.callWith_K (h₀:=X.base) I.ok.mod.kin hk (thn (ha pos jb s U H _ I h) λus s1 zz=>?_) he hpl;obtain⟨vs,H1,I1,r,q⟩:=zz;refine⟨I1.kIn,?_⟩;exact aP F hr hb hd hx I1 r q
end
def PK (X:Cx) (kws:List Keyword) (t:TA):Prop:=
 ∀(pos:Pos) (jb:YC) (s:Shared) (U : St) (H:Hp) (Q:YG->Hp->Prop),Inv X jb U H s->t U H Q->wpAny (model X.prog X.w) X.A (evalAll ((backToKw pos (keywordEach kws X.env)).map (·.2))) (AP X jb U Q) X.xe s
section
variable {X:Cx} {CX:CXT} {k:Nat} {f C:Addr} {fd:FuncData} {ps ks:YF} {sp:Sp} {E:XK} {x m:Str} {p pos apos kpos:Pos} {e o:Expr} {es:YJ} {kws:List Keyword} {te ta:TE} {t tk:TA} {nm:Option Str}
theorem aV:PK X [] aA:=λ_ _ _ _ H Q I h=>wpAny_evalAll_nil ⟨[],H,I,.nil,h⟩
theorem Zw (ha:PE X e te) (hr:PK X kws t):PK X (⟨nm,e,kpos⟩::kws) (YQ te t):=by
 intro pos jb s U H Q I h;show wpAny _ _ (evalAll ((do let v <-eval e X.env;standAt pos;pure v)::(backToKw pos (keywordEach kws X.env)).map (·.2))) _ _ s
 refine wpAny_evalAll_cons (Qci (thn (ha jb s U H _ I h) λu s1 zz=>?_));obtain⟨x,H1,I1,r1,q1⟩:=zz;refine Qci (QbS (Qcj ?_));refine thn (hr pos jb s1 U H1 _ I1 q1) λus s2 zz=>?_;obtain⟨xs,H2,I2,r2,q2⟩:=zz;exact⟨x::xs,H2,I2,.cons r1 r2,q2⟩
variable {g:YE->YE->YE} {gV:YG->YG->YG}
end
structure Bf (N P:YF) (sc:Scope):Prop where
 kind:sc.kind=.function
 co:sc.isCoroutine=false
 gen:sc.isGenerator=false
 nd:N.Nodup
 pre:N.take P.length=P
 par:∀x∈P,sc.names.lookup x=some .local\/sc.names.lookup x=some .cell
 QW:∀y∈sc.names,y.2≠.free
theorem Pr {kindOf:Str->Option NameKind} {x:Str}:∀{binds:List (Str×Value)} {m:YB},(∀v,(x,v)∉binds)->bindL kindOf binds m x=m x
 | [],_,_=>rfl
 | (n,v)::r,m,h=>by
  unfold bindL;rw[Pr λw hw=>h w (QaC _ hw)];split
  ·have:x≠n:=by rintro rfl;exact h v QaO
   simp[this]
  ·rfl
theorem Px {kindOf:Str->Option NameKind} {x:Str}:∀{binds:List (Str×Value)} {m:YB},(∀v,(x,v)∉binds)->bindC kindOf binds m x=m x
 | [],_,_=>rfl
 | (n,v)::r,m,h=>by
  unfold bindC;rw[Px λw hw=>h w (QaC _ hw)];split
  ·rfl
  ·have:x≠n:=by rintro rfl;exact h v QaO
   simp[this]
theorem Pu {kindOf:Str->Option NameKind} {x:Str} {v:Value}:∀{P:YF} {vs:YE} {i:Nat} {m:YB},P.Nodup->P[i]?=some x->vs[i]?=some v->kindOf x=some .local ->
  bindL kindOf (P.zip vs) m x=some v
 | [],_,_,_,_,h,_,_=>by simp at h
 | _::_,[],_,_,_,_,h,_=>by simp at h
 | p::P,w::vs,0,m,nd,h1,h2,hk=>by
  simp at h1 h2;subst h1;subst h2;show bindL kindOf ((p,w)::P.zip vs) m p=_;unfold bindL;rw[Pr λv hv=>(QbB.mp nd).1 (List.of_mem_zip hv).1,if_pos hk];simp
 | p::P,w::vs,i+1,m,nd,h1,h2,hk=>by
  show bindL kindOf ((p,w)::P.zip vs) m x=_;unfold bindL;exact Pu (i:=i) (QbB.mp nd).2 (by simpa using h1) (by simpa using h2) hk
theorem Py {kindOf:Str->Option NameKind} {x:Str} {v:Value}:∀{P:YF} {vs:YE} {i:Nat} {m:YB},P.Nodup->P[i]?=some x->vs[i]?=some v->kindOf x≠some .local ->
  bindC kindOf (P.zip vs) m x=some v
 | [],_,_,_,_,h,_,_=>by simp at h
 | _::_,[],_,_,_,_,h,_=>by simp at h
 | p::P,w::vs,0,m,nd,h1,h2,hk=>by
  simp at h1 h2;subst h1;subst h2;show bindC kindOf ((p,w)::P.zip vs) m p=_;unfold bindC;rw[Px λv hv=>(QbB.mp nd).1 (List.of_mem_zip hv).1,if_neg hk];simp
 | p::P,w::vs,i+1,m,nd,h1,h2,hk=>by
  show bindC kindOf ((p,w)::P.zip vs) m x=_;unfold bindC;exact Py (i:=i) (QbB.mp nd).2 (by simpa using h1) (by simpa using h2) hk
def start (N:YF) (vs:YG):St:=vs.map some++List.replicate (N.length - vs.length) none
def Kz (CX:CXT) (P:Program) (w:World) (K:YD) (mg:YB) (base:Heap) (N:YF) (qual:Str) (scope:Scope) (f:Addr) (cd:Value) (A:Around) (outer:List Env) (s:Shared) (H:Hp) (E:XK):Cx where
 prog:=P
 w:=w
 K:=K
 mg:=mg
 base:=base
 A:=A.deeper (envOfC qual scope s.heap.objs.size f cd)
 N:=N
 s₀:=s
 H₀:=H
 env:=envOfC qual scope s.heap.objs.size f cd
 outer:=outer
 stack:=envOfC qual scope s.heap.objs.size f cd::outer
 ex:=[]
 calm:=true
 fn:=λ_=>true
 pn:=[]
 xe:=λe s'=>wpAny (model P w) (A.deeper (envOfC qual scope s.heap.objs.size f cd)) (leaving (envOfC qual scope s.heap.objs.size f cd) e) (λ_ s''=>CX outer H s E e s'') (λe' s''=>CX outer H s E e' s'') s'
theorem RD {sc:Scope} {n:Nat} {x:Str} (h:sc.names.lookup x=some .cell):∃c,(cellsFrom n sc.names []).lookup x=some c:=by
 have q:=PySem.W.cellsFrom_some sc.names n [] (.inl h);exact Option.isSome_iff_exists.mp q
theorem Wo {CX:CXT} {P:Program} {w:World} {K:YD} {mg:YB} {base:Heap} {N ps:YF} {qual:Str} {scope:Scope} {f:Addr} {cd:Value} {A:Around} {outer:List Env} {s s1:Shared} {H:Hp} {E:XK} {us:YE} {vs:YG}
  (S:Bf N ps scope) (hd:A.handled=none) (e0:Mr P w K mg base A outer s H) (hl:vs.length=ps.length) (r:Vals vs us)
  (x:InCallC s s.heap.objs.size (bindL (envOfC qual scope s.heap.objs.size f cd).kindOf (ps.zip us) λ_=>none) (cellsFrom (s.heap.objs.size+1) scope.names []) (bindC (envOfC qual scope s.heap.objs.size f cd).kindOf (ps.zip us) λ_=>none) s1) :
  Inv (Kz CX P w K mg base N qual scope f cd A outer s H E) [] (start N vs) H s1:=by
 have hpl:ps.length<=N.length:=by have:=congrArg List.length S.pre;rw[Qbl] at this;omega
 obtain⟨h1,tk,rfl,hk⟩:=x.done;have noA:∀b:Addr,b∉(Kz CX P w K mg base N qual scope f cd A outer s H E).ex:=λb z=>absurd (show b∈([]:List Addr) from z) (by simp)
 refine⟨⟨e0.mod,S.kind,rq,rq,Qce _,λy z c h1 h2=>?_,λy hy=>?_,λy c _ h=>?_,λ_=>hd,Around.frames_deeper e0.frames,.inr ⟨rq,rq⟩,λb z=>absurd z (noA b),e0.bs,e0.bsz,λb _ _=>noA b,λb z=>absurd z (noA b),e0.Gm,e0.frf⟩,
  rfl,e0.bare,Un.kept hk,⟨_,x.toInCall.ns,λi y v h1 h2 h3=>?_⟩,λy c h=>⟨_,x.cell y c h⟩,e0.hok.fresh (Qce _),λy c h=>?_,λp hp=>absurd (show p∈([]:YC) from hp) (by simp),e0.hok.kept hk,?_⟩
 ·exact name_of_addr x.apart (QaK h1) (QaK h2)
 ·have hy:scope.names.lookup y=some .cell\/scope.names.lookup y=some .free:=hy;rcases hy with hy | hy
  ·exact RD hy
  ·exact absurd rfl (S.QW _ (QaK hy))
 ·exact Qca (x.above y c (QaK h))
 ·have hi:i < vs.length:=by
   unfold start at h2;by_cases hi:i < vs.length
   ·exact hi
   ·rw[Qae (by simpa using hi)] at h2;rw[List.getElem?_replicate] at h2;split at h2 <;> cases h2
  have ha:vs[i]?=some v:=by
   unfold start at h2;rw[Qaj (by simpa using hi),Qbd] at h2;cases e:vs[i]? with
   | none=>rw[e] at h2;cases h2
   | some a=>rw[e] at h2;cases h2;rfl
  obtain⟨u,hu,rv⟩:=r.get ha;have hp:ps[i]?=some y:=by
   rw[<-S.pre,List.getElem?_take_of_lt (by omega)];exact h1
  have ndP:ps.Nodup:=by rw[<-S.pre];exact S.nd.sublist (List.take_sublist _ _)
  refine⟨u,rv,?_⟩;rcases S.par y (QaB hp) with k | k
  ·exact .inl ⟨k,Pu ndP hp hu k⟩
  ·obtain⟨c,e⟩:=RD (n:=s.heap.objs.size+1) k;refine .inr ⟨.inl k,c,e,?_⟩;have q:=x.cell y c e;rw[Py ndP hp hu (by show scope.names.lookup y≠_;rw[k];decide)] at q;exact q
 ·exact e0.hok.fresh (Qca (x.above y c (QaK h)))
 ·unfold start;show _=N.length;rw[QaM,Qbu,List.length_replicate];omega
theorem dW {CX:CXT} {P:Program} {w:World} {K:YD} {mg:YB} {base:Heap} {k:Nat} {f:Addr} {name qual:Str} {params:Arguments} {body:List Stmt} {scope:Scope} {dV kV doc pm cdv ct oc:Value} {an od:Option Addr}
  {osl:YI} {N ps:YF} {sp:Sp} (lk:K.lookup f=some ⟨oc,od,.func (fnOf name qual params body scope dV kV doc pm an cdv ct),osl⟩) (hcd:codeIn K cdv qual=true) (S:Bf N ps scope)
  (len:∀vs H Q E,sp vs H Q E->vs.length=ps.length)
  (hbody:∀(A:Around) (outer:List Env) (s:Shared) (H:Hp) (vs:YG) (Q:VK) (E:XK),Cz k (A.deeper (envOfC qual scope s.heap.objs.size f cdv))->sp vs H Q E ->
   ∃t,PSs (Kz CX P w K mg base N qual scope f cdv A outer s H E) body t/\t { nx:=λ_ H'=>Q .non H',rt:=Q } (start N vs) H) :
  Ej P w K mg base CX (k+1) f (fnOf name qual params body scope dV kV doc pm an cdv ct) ps sp:=by
 refine⟨len,λA outer s H args us vs Q E hr e0 hb r hsp=>?_⟩;have hl:=len _ _ _ _ hsp;have KX:K.In s.heap:=e0.mod.kin.keeps λb o e=>(e0.bs b o e).1;have lim:s.heap.NoLimit:=e0.mod.nolimit.keeps λb o e=>(e0.bs b o e).1;have hkind:∀y∈ps.zip us,scope.names.lookup y.1=some .local\/(scope.names.lookup y.1=some .cell/\((cellsFrom (s.heap.objs.size+1) scope.names []).lookup y.1).isSome=true):=λ⟨n,v⟩ hy=>by
  rcases S.par n (List.of_mem_zip hy).1 with q | q
  ·exact .inl q
  ·exact .inr ⟨q,PySem.W.cellsFrom_some _ _ _ (.inl q)⟩
 refine codeAny_call_function hr.depth (KX _ _ lk) rfl S.co S.gen rfl (PySem.W.codeRec_of KX hcd) (hb _ _ _ _ ?_);refine wpAny_newFunctionEnv_cells S.kind hkind λenv he s1 x=>?_;subst he;refine⟨lim.keeps x.toInCall.keep,codeAny_func ?_⟩;obtain⟨t,ht,hq⟩:=hbody A outer s H vs Q E (hr.deeper _) hsp;have I:Inv (Kz CX P w K mg base N qual scope f cdv A outer s H E) [] (start N vs) H s1:=Wo S hr.hd e0 hl r x;refine Qck (ht [] s1 (start N vs) H _ I hq) (λfl s' hs=>?_) λe s' hs=>hs;have fin:∀{σ':St} {H':Hp} {v:V} {u:Value},Inv (Kz CX P w K mg base N qual scope f cdv A outer s H E) [] σ' H' s'->RelV v u->Q v H'->CE outer P w H s Q u s':=
  λ{σ' H' v u} J rv q=>⟨v,H',J.os,J.bare,J.base,J.hok,rv,q⟩
 cases fl with
 | ret u=>
  obtain⟨v,σ',H',J,rv,q⟩:=hs;exact fin J rv q
 | next=>
  obtain⟨σ',H',J,q⟩:=hs;exact fin (v:=V.non) (u:=Value.none) J rfl q
 | brk=>
  obtain⟨_,_,_,q⟩:=hs;exact False.elim q
 | cont=>
  obtain⟨_,_,_,q⟩:=hs;exact False.elim q
section
variable {X:Cx} {x:Str} {p pos:Pos} {e:Expr} {es:YJ} {t:TA} {id T:String} {r:YG->Hp->VK->Prop}
def tCB (r:YG->Hp->VK->Prop) (t:TA):TE:=fun U H Q=>t U H λvs H1=>r vs H1 Q
theorem Bs (hc:CN X (.builtin id) r) (hg:Gl X x) (hm:X.mg x=none) (hv:bootBuiltins x=some (.builtin id)) (ha:PA X (e::es) t) (hn:x≠"__name__":=by decide) (hdb:(x == ("__debug__":Str))=false:=by decide)
  (he:starEach (e::es) X.env=(false,eval e X.env)::starEach es X.env:=by rfl) (hpl:(backTo pos (starEach es X.env)).any (·.1)=false:=by rfl):PE X (.Call (.Name x p) (e::es) [] pos) (tCB r t):=by
 intro jb s U H Q I h;refine QaV (Ey I hg hm hv ?_ hn hdb);refine PyProof.Rows.callWith_builtin1 (thn (ha pos jb s U H _ I h) λus s1 zz=>?_) he hpl;obtain⟨vs,H1,I1,r1,q1⟩:=zz;exact hc jb s1 U H1 vs us Q I1 r1 q1
theorem Ca (hc:CN X (.type T) r) (hg:Gl X x) (hm:X.mg x=none) (hv:bootBuiltins x=some (.type T)) (ha:PA X (e::es) t) (hn:x≠"__name__":=by decide) (hdb:(x == ("__debug__":Str))=false:=by decide)
  (he:starEach (e::es) X.env=(false,eval e X.env)::starEach es X.env:=by rfl) (hpl:(backTo pos (starEach es X.env)).any (·.1)=false:=by rfl):PE X (.Call (.Name x p) (e::es) [] pos) (tCB r t):=by
 intro jb s U H Q I h;refine QaV (Ey I hg hm hv ?_ hn hdb);refine Qac (thn (ha pos jb s U H _ I h) λus s1 zz=>?_) he hpl;obtain⟨vs,H1,I1,r1,q1⟩:=zz;exact hc jb s1 U H1 vs us Q I1 r1 q1
end
end L2
namespace HT
open PySem PyProof.Rows
section
open PySem.SeqAt
open PySem.AutoSeq1 (wpAny_loadPart')
open PySem.MeetsSeq PySem.MeetsSeq2 PySem.MeetsSeq3
end
section
variable {prog:Program} {w:World} {A:Around} {E:YA} {s:Shared}
def sIx (n d:Nat):Option Int->Nat
 | none=>d
 | some v=>if v < 0 then (v+(n:Int)).toNat else min v.toNat n
theorem Ly (n d:Nat):sIx n d none=d:=rfl
theorem NZ (n d k:Nat):sIx n d (some (k:Int))=min k n:=by
 show (if (k:Int) < 0 then ((k:Int)+(n:Int)).toNat else min (k:Int).toNat n)=min k n
 rw[if_neg (by omega),Qbf]
theorem aO (n d:Nat) (hd:d<=n) (o:Option Int):sIx n d o<=n:=by
 cases o with
 | none=>exact hd
 | some v=>
  show (if v < 0 then (v+(n:Int)).toNat else min v.toNat n)<=n
  by_cases hv:v < 0
  ·rw[if_pos hv];omega
  ·rw[if_neg hv];exact Nat.min_le_right _ _
theorem T6 (v:Int) (n d:Nat):(if v < 0 then max (v+(n:Int)) 0 else min v (n:Int))=((sIx n d (some v):Nat):Int):=by
 show (if v < 0 then max (v+(n:Int)) 0 else min v (n:Int))=(((if v < 0 then (v+(n:Int)).toNat else min v.toNat n):Nat):Int)
 by_cases hv:v < 0
 ·simp only[if_pos hv];omega
 ·simp only[if_neg hv];omega
theorem Vc (lo hi:Option Int) (n:Nat):Builtin.Slice.sliceAdjust lo hi 1 (n:Int)=(((sIx n 0 lo:Nat):Int),((sIx n n hi:Nat):Int)):=by
 have h1:¬((1:Int) < 0):=by omega
 unfold Builtin.Slice.sliceAdjust;simp only[h1,Qcn];refine Prod.ext ?_ ?_
 ·cases lo with
  | none=>rfl
  | some v=>exact T6 v n 0
 ·cases hi with
  | none=>rfl
  | some v=>exact T6 v n n
theorem Ul (i j:Nat):Builtin.Slice.slicePlaces (i:Int) (j:Int) 1=j - i:=by
 unfold Builtin.Slice.slicePlaces;have h1:(1:Int) > 0:=by omega
 simp only[h1,if_true,Int.ediv_one];split <;> omega
theorem Mw {v:Value} {o:Option Int} {Q:Option Int->Shared->Prop} (p:IsPart v o) (h:Q o s):wpAny (model prog w) A (Builtin.Slice.slicePartIndex v) Q E s:=by
 cases p with
 | none=>exact slicePart_none h
 | int i t=>exact slicePart_int h
theorem Hh {sl:Addr} {vl vu:Value} {lo hi:Option Int} {n:Nat} {Q:Int×Int×Nat->Shared->Prop} (hs:s.heap.IsSliceOf sl vl vu .none) (pl:IsPart vl lo) (pu:IsPart vu hi)
  (h:Q (((sIx n 0 lo:Nat):Int),1,sIx n n hi - sIx n 0 lo) s):wpAny (model prog w) A (Builtin.Slice.sliceApplied (.ref sl) (pure (n:Int))) Q E s:=by
 obtain⟨os,hos,hcs,hds⟩:=id hs;unfold Builtin.Slice.sliceApplied Builtin.Slice.sliceFields;refine Qci (Qci (Qch hos hds (x:=vl) rfl (Qci (Qch hos hds (x:=vu) rfl (Qci (Qch hos hds (x:=.none) rfl (Qcj ?_)))))));refine Qci (slicePart_none ?_);show wpAny _ _ (if ((1:Int) == 0)=true then _ else _) _ _ s
 rw[if_neg (by decide)];refine Qci (Mw pl (Qci (Mw pu (Qci (Qcj ?_)))));show wpAny _ _ (match Builtin.Slice.sliceAdjust lo hi 1 (n:Int) with | (lo,hi)=>pure (lo,(1:Int),Builtin.Slice.slicePlaces lo hi 1)) _ _ s
 rw[Vc lo hi n];show wpAny _ _ (pure (((sIx n 0 lo:Nat):Int),(1:Int),Builtin.Slice.slicePlaces ((sIx n 0 lo:Nat):Int) ((sIx n n hi:Nat):Int) 1)) _ _ s;rw[Ul];exact Qcj h
theorem Xh (xs:Array Value) (i k:Nat):((List.range k).filterMap λ(m:Nat)=>xs[((i:Int)+(m:Int)*1).toNat]?).toArray=((xs.toList.drop i).take k).toArray:=by
 have e:(λ(m:Nat)=>xs[((i:Int)+(m:Int)*1).toNat]?)=λm=>xs[i+m]?:=by
  funext m
  have:((i:Int)+(m:Int)*1).toNat=i+m:=by omega
  rw[this]
 rw[e];have:=pick_run xs i k;rw[List.filterMap_map] at this;have e2:((λx=>xs[x]?) ∘ λx=>i+x)=λm=>xs[i+m]?:=rfl;rw[e2] at this;rw[this]
theorem Lf {t sl:Addr} {items:Array Value} {vl vu:Value} {lo hi:Option Int} {Q:YA} (ht:IsTup s.heap t items) (hs:s.heap.IsSliceOf sl vl vu .none) (pl:IsPart vl lo) (pu:IsPart vu hi)
  (hw:¬(sIx items.size 0 lo=0/\sIx items.size items.size hi=items.size))
  (h:Q (.ref s.heap.objs.size) { s with heap:=s.heap.push { cls:=.type "tuple",data:=.seq ((items.toList.drop (sIx items.size 0 lo)).take (sIx items.size items.size hi - sIx items.size 0 lo)).toArray } })
  (hsz:items.size<=sizeLine):wpAny (model prog w) A (getItem (.ref t) (.ref sl)) Q E s:=by
 have Qh:sizeOk (.seq ((items.toList.drop (sIx items.size 0 lo)).take (sIx items.size items.size hi - sIx items.size 0 lo)).toArray):=by
  show ((items.toList.drop (sIx items.size 0 lo)).take (sIx items.size items.size hi - sIx items.size 0 lo)).toArray.size<=sizeLine;rw[Qbc,Qbl,Qbr,QaH];omega
 have hj:sIx items.size items.size hi<=items.size:=aO _ _ (Qce _) hi;obtain⟨os,hos,hcs,hds⟩:=id hs;have hTs:s.TypeIs (.ref sl) "slice":=⟨os,hos,hcs⟩;unfold getItem
 try with_reducible refine QbR ?_
 first | refine Qci (Qcj ?_) | skip
 refine Qci (wpAny_sequenceKey ht.typeIs (by decide) ?_);refine Qci (Qao (name:=Str.ofString "__getitem__") ht.typeIs Qab
  (Qbn Qab ht.typeIs entry_tuple_getitem ?_ (args_tuple_getitem _ _)))
 show wpAny _ _ (Builtin.Tuple.tupleItemsOf (.ref t) >>= _) _ _ s;refine Qci (tupleItemsOf_ ht ?_);refine Qci (Qcd hTs ?_);rw[if_pos (by decide)];refine Qci (Hh hs pl pu ?_);have hno:¬((((sIx items.size 0 lo:Nat):Int) == 0&&(1:Int) == 1&&(sIx items.size items.size hi - sIx items.size 0 lo) == items.size)=true):=by
  intro q;rw[Qbo,Qbo] at q;have q1:((sIx items.size 0 lo:Nat):Int)=0:=eq_of_beq q.1.1;have q2:sIx items.size items.size hi - sIx items.size 0 lo=items.size:=eq_of_beq q.2;exact hw ⟨by omega,by omega⟩
 show wpAny _ _ (if (((sIx items.size 0 lo:Nat):Int) == 0&&(1:Int) == 1&&(sIx items.size items.size hi - sIx items.size 0 lo) == items.size)=true then _ else _) _ _ s
 rw[if_neg hno,Xh]
 first
  | exact Qci (m:=Builtin.Tuple.tupleExact _) (Qbe (Qcj ⟨_,rfl,Qcj h⟩) Qh)
  | exact Qci (m:=Builtin.Tuple.tupleExact _) (Qbe (Qci (Qcj (Qcj ⟨_,rfl,Qcj h⟩))) Qh)
  | exact Qci (Qci (m:=Builtin.Tuple.tupleExact _) (Qbe (Qcj (Qcj ⟨_,rfl,Qcj h⟩)) Qh))
  | exact Qci (Qci (m:=Builtin.Tuple.tupleExact _) (Qbe (Qcj ⟨_,rfl,Qcj h⟩) Qh))
end
end HT
namespace L2
open PySem PySem.Spec PyProof.Rows
abbrev TO:=St->Hp->(Option Int->Hp->Prop)->Prop
def PO (X:Cx) (e:Option Expr) (t:TO):Prop:=
 ∀(jb:YC) (s:Shared) (U : St) (H:Hp) (Q:Option Int->Hp->Prop),Inv X jb U H s->t U H Q ->
  wpAny (model X.prog X.w) X.A (evalPart e X.env) (λu s'=>∃o H',Inv X jb U H' s'/\IsPart u o/\Q o H') X.xe s
def Zk:TO:=λ_ H Q=>Q none H
def cY (t:TE):TO:=fun U H Q=>t U H λx H1=>∃i,x=.int i/\Q (some i) H1
section
variable {X:Cx} {e:Expr} {te:TE} {lo hi:Option Expr} {tl th:TO} {pos p2:Pos}
theorem Gh:PO X none Zk:=by
 intro jb s U H Q I h;rw[evalPart_none];exact Qcj ⟨none,H,I,.none,h⟩
theorem Dm (h:PE X e te):PO X (some e) (cY te):=by
 intro jb s U H Q I hw;rw[evalPart_some];refine thn (h jb s U H _ I hw) λu s1 zz=>?_;obtain⟨x,H1,I1,r1,q1⟩:=zz;obtain⟨i,rfl,q⟩:=q1;obtain⟨t,rfl⟩:=r1;exact⟨some i,H1,I1,.int i t,q⟩
def SlR (X:Cx) (r:V->Option Int->Option Int->Hp->VK->Prop):Prop:=
 ∀(jb:YC) (s:Shared) (U : St) (H:Hp) (x:V) (v vl vu:Value) (lo hi:Option Int) (sl:Addr) (Q:VK),Inv X jb U H s->RelV x v->s.heap.IsSliceOf sl vl vu .none->IsPart vl lo->IsPart vu hi->r x lo hi H Q ->
  ∃T id,typeLookup (.type T) "__getitem__"=pure (some (.builtin id))/\s.TypeIs v T/\wpAny (model X.prog X.w) X.A (getItem v (.ref sl)) (EP X jb U Q) X.xe s
theorem SlR.or {r r':V->Option Int->Option Int->Hp->VK->Prop} (h:SlR X r) (h':SlR X r'):SlR X (λx lo hi H Q=>r x lo hi H Q\/r' x lo hi H Q):=by
 intro jb s U H x v vl vu lo hi sl Q I rx hs pl pu q;rcases q with q | q
 ·exact h jb s U H x v vl vu lo hi sl Q I rx hs pl pu q
 ·exact h' jb s U H x v vl vu lo hi sl Q I rx hs pl pu q
def tSl (r:V->Option Int->Option Int->Hp->VK->Prop) (te:TE) (tl th:TO):TE:=fun U H Q=>te U H λx H1=>tl U H1 λl H2=>th U H2 λu H3=>r x l u H3 Q
theorem Dy {r:V->Option Int->Option Int->Hp->VK->Prop} (hr:SlR X r) (he:PE X e te) (hl:PO X lo tl) (hu:PO X hi th):PE X (.Subscript e (.Slice lo hi none p2) pos) (tSl r te tl th):=by
 intro jb s U H Q I h;refine Subscript_ (thn (he jb s U H _ I h) λv s1 zz=>?_);obtain⟨x,H1,I1,r1,q1⟩:=zz;refine wpAny_Slice (thn (hl jb s1 U H1 _ I1 q1) λvl s2 zz=>?_);obtain⟨l,H2,I2,pl,q2⟩:=zz;refine thn (hu jb s2 U H2 _ I2 q2) λvu s3 zz=>?_;obtain⟨u,H3,I3,pu,q3⟩:=zz;rw[evalPart_none];refine Qcj ?_;have I4:Inv X jb U H3 { s3 with heap:=s3.heap.push { cls:=.type "slice",data:=.fields #[vl,vu,.none] } }:=I3.kept (t':=s3.toks) λb ob q=>Qas _ q;obtain⟨T,id,hT,ht,hg⟩:=hr jb { s3 with heap:=s3.heap.push { cls:=.type "slice",data:=.fields #[vl,vu,.none] } } U H3 x v vl vu l u s3.heap.objs.size Q I4 r1 (Heap.IsSliceOf.new ..) pl pu q3;show wpAny (model X.prog X.w) X.A (subscriptTail e (.Slice lo hi none p2) v (.ref s3.heap.objs.size)) (EP X jb U Q) X.xe { s3 with heap:=s3.heap.push { cls:=.type "slice",data:=.fields #[vl,vu,.none] } };exact tail_any (ops:=[.ref s3.heap.objs.size,v]) ht hT hg (by with_unfolding_all rfl)
def Cr (xs:YG) (lo hi:Option Int):YG:=(xs.drop (HT.sIx xs.length 0 lo)).take (HT.sIx xs.length xs.length hi - HT.sIx xs.length 0 lo)
theorem Lk (xs:YG) (lo hi:Option Int):(Cr xs lo hi).length<=xs.length:=by
 unfold Cr;rw[Qbl,Qbr];omega
def fB (K:YD):V->Option Int->Option Int->Hp->VK->Prop:=λx lo hi H Q=>∃a xs,x=.ref a/\SqT K H a xs /\
 ¬(HT.sIx xs.length 0 lo=0/\HT.sIx xs.length xs.length hi=xs.length)/\∀p,H p=none->Q (.ref p) (upd H p (.tup (Cr xs lo hi)))
theorem aM:SlR X (fB X.K):=by
 intro jb s U H x v vl vu lo hi sl Q I rx hs pl pu h;obtain⟨a,xs,rfl,hx,hw,q⟩:=h;cases rx;obtain⟨its,r,ht,hz⟩:=I.tuple hx;have hlen:its.toArray.size=xs.length:=by rw[Qbc];exact r.length.symm
 refine⟨"tuple",_,Qab.lookup,ht.typeIs,?_⟩;refine HT.Lf ht hs pl pu (by rw[hlen];exact hw) ?_ (by rw[hlen];exact hz);rw[hlen];refine⟨.ref s.heap.objs.size,_,I.laid (t':=s.toks) (o:=.tup (Cr xs lo hi)) (λb ob q=>Qas _ q) (Qce _) ?_,rq,q _ (I.hok.fresh (Qce _))⟩;exact⟨QbY (Lk xs lo hi) hz,_,(r.drop (HT.sIx xs.length 0 lo)).take (HT.sIx xs.length xs.length hi - HT.sIx xs.length 0 lo),IsTup.new _ _⟩
end
def ixN (n:Nat) (i:Int):Option Nat:=if 0<=i then (if i < n then some i.toNat else none) else if -(n:Int)<=i then some (i+n).toNat else none
def atI {α : Type} (xs:List α) (i:Int):Option α:=(ixN xs.length i).bind λj=>xs[j]?
theorem Tz {n:Nat} {i:Int} {j:Nat} (h:ixN n i=some j):seqIndex? i n=some j/\j < n/\-(n:Int)<=i/\i < n:=by
 unfold ixN at h;by_cases h0:0<=i
 ·rw[if_pos h0] at h;by_cases h1:i < n
  ·rw[if_pos h1] at h;have e:i.toNat=j:=Qby h;exact⟨by rw[seqIndex_of h0 h1,e],by omega,by omega,h1⟩
  ·rw[if_neg h1] at h;cases h
 ·rw[if_neg h0] at h;by_cases h1:-(n:Int)<=i
  ·rw[if_pos h1] at h;have e:(i+n).toNat=j:=Qby h;exact⟨by rw[seqIndex_neg (by omega) h1,e],by omega,h1,by omega⟩
  ·rw[if_neg h1] at h;cases h
theorem Ow {α : Type} {xs:List α} {i:Int} {v:α} (h:atI xs i=some v):∃j,seqIndex? i xs.length=some j/\xs[j]?=some v/\j < xs.length/\-(xs.length:Int)<=i/\i < xs.length:=by
 unfold atI at h;cases e:ixN xs.length i with
 | none=>rw[e] at h;cases h
 | some j=>
  rw[e] at h;obtain⟨h1,h2,h3,h4⟩:=Tz e;exact⟨j,h1,h,h2,h3,h4⟩
theorem Bm {α : Type} {xs:List α} {j:Nat} {v:α} (h:xs[j]?=some v):atI xs (j:Int)=some v:=by
 have hj:j < xs.length:=(Qag.mp h).1;have e:ixN xs.length (j:Int)=some j:=by
  unfold ixN;rw[if_pos (by omega),if_pos (by omega)];simp
 unfold atI;rw[e];exact h
def Z8 (b:Expr):Prop:=∀o i,subscripted b false o i=operate [o,i] (getItem o i)
def IxR (X:Cx) (r:R2):Prop:=
 ∀(value slice:Expr) (jb:YC) (s:Shared) (U : St) (H:Hp) (x y:V) (v u:Value) (Q:VK),Inv X jb U H s->RelV x v->RelV y u->r x y H Q ->
  subscripted slice false v u=operate [v,u] (getItem v u)->wpAny (model X.prog X.w) X.A (subscriptTail value slice v u) (EP X jb U Q) X.xe s
def MtR (X:Cx) (id:String) (r:V->YG->Hp->VK->Prop):Prop:=
 ∀(jb:YC) (s:Shared) (U : St) (H:Hp) (x:V) (xs:YG) (v:Value) (us:YE) (Q:VK),Inv X jb U H s->RelV x v->Vals xs us->r x xs H Q ->
  wpAny (model X.prog X.w) X.A (call (.builtin id) (v::us)) (EP X jb U Q) X.xe s
section
variable {X:Cx} {a b:Expr} {ta tb:TE} {pos:Pos}
theorem IxR.or {r r':R2} (h:IxR X r) (h':IxR X r'):IxR X (λx y H Q=>r x y H Q\/r' x y H Q):=by
 intro value slice jb s U H x y v u Q I rx ry q hs;rcases q with q | q
 ·exact h value slice jb s U H x y v u Q I rx ry q hs
 ·exact h' value slice jb s U H x y v u Q I rx ry q hs
theorem MtR.or {id:String} {r r':V->YG->Hp->VK->Prop} (h:MtR X id r) (h':MtR X id r'):MtR X id (λx xs H Q=>r x xs H Q\/r' x xs H Q):=by
 intro jb s U H x xs v us Q I rx rs q;rcases q with q | q
 ·exact h jb s U H x xs v us Q I rx rs q
 ·exact h' jb s U H x xs v us Q I rx rs q
theorem Bg {r:R2} (hr:IxR X r) (ha:PE X a ta) (hb:PE X b tb) (hs:Z8 b):PE X (.Subscript a b pos) (tOp r ta tb):=by
 intro jb s U H Q I h;exact Subscript_ (Yp ha hb I h λv u s2 x y H2 I2 rx ry q=>hr a b jb s2 U H2 x y v u Q I2 rx ry q (hs _ _))
def fG (K:YD):R2:=λx y H Q=>∃p xs i v,x=.ref p/\y=.int i/\SqL K H p xs/\atI xs i=some v/\Q v H
def aR (K:YD):R2:=λx y H Q=>∃p xs i v,x=.ref p/\y=.int i/\SqT K H p xs/\atI xs i=some v/\Q v H
def fD:R2:=λx y H Q=>∃z i c,x=.str z/\y=.int i/\z.length<=sizeLine/\atI z.cps.toList i=some c/\Q (.str ⟨#[c]⟩) H
theorem BP:IxR X (fG X.K):=by
 intro value slice jb s U H x y v u Q I rx ry h hs;obtain⟨p,xs,i,z,rfl,rfl,hq,he,q⟩:=h;cases rx;obtain⟨t,rfl⟩:=ry;obtain⟨its,r,pl,hz⟩:=I.list hq;obtain⟨j,h1,h2,h3,h4,h5⟩:=Ow he;obtain⟨w,ew,rw'⟩:=r.get h2;have hl:=r.length;have hn:=Jh;have fin:EP X jb U Q w s:=⟨z,H,I,rw',q⟩;by_cases h0:0<=i
 ·have hj:i.toNat=j:=by
   rw[seqIndex_of h0 h5] at h1;exact Qby h1
  exact item_listR pl.isList h0 (by omega) (by rw[hj];simpa using ew) fin hs
 ·have hj:(i+(its.toArray.size:Int)).toNat=j:=by
   rw[seqIndex_neg (by omega) h4] at h1;rw[Qbc,<-hl];exact Qby h1
  exact subscriptTail_builtinR (x:=w) pl.isList.typeIs slot_list_getitem.lookup
   (wpAny_getItem_list_neg (Q:=λr s'=>r=w/\EP X jb U Q r s') pl.isList (by omega) (by rw[Qbc] <;> omega) (by omega) (by rw[hj];simpa using ew) ⟨rq,fin⟩) hs
theorem Ck:IxR X (aR X.K):=by
 intro value slice jb s U H x y v u Q I rx ry h hs;obtain⟨p,xs,i,z,rfl,rfl,hq,he,q⟩:=h;cases rx;obtain⟨t,rfl⟩:=ry;obtain⟨its,r,pl,hz⟩:=I.tuple hq;obtain⟨j,h1,h2,h3,h4,h5⟩:=Ow he;obtain⟨w,ew,rw'⟩:=r.get h2;have hl:=r.length;have hn:=Jh;have fin:EP X jb U Q w s:=⟨z,H,I,rw',q⟩;exact subscriptTail_builtinR (x:=w) pl.typeIs slot_tuple_getitem.lookup
  (getItem_tuple (j:=j) (Q:=λr s'=>r=w/\EP X jb U Q r s') pl (by omega) (by omega) (by rw[Qbc,<-hl];exact h1) (by simpa using ew) ⟨rq,fin⟩) hs
theorem bR:IxR X fD:=by
 intro value slice jb s U H x y v u Q I rx ry h hs;obtain⟨z,i,c,rfl,rfl,hz,he,q⟩:=h;obtain⟨t,rfl⟩:=rx;obtain⟨t',rfl⟩:=ry;obtain⟨j,h1,h2,h3,h4,h5⟩:=Ow he;have hl:z.cps.toList.length=z.length:=by simp[Str.length]
 rw[hl] at h1 h4 h5;have hn:=Jh;exact tail_any (typeIs_str s z t) slot_str_getitem.lookup (getItem_str (c:=c) (by
  have e1:decide (i < -(2 ^ 63:Int))=false:=Qbw (by omega);have e2:decide (i ≥ 2 ^ 63)=false:=Qbw (by omega);rw[e1,e2,Bool.or_false]) (by rw[h1];simpa using h2) ⟨.str ⟨#[c]⟩,H,I.tok _,⟨_,rq⟩,q⟩) hs
theorem Ut (its:YE) (n j:Nat) (u:Value):Obj.mapSeq (·.setIfInBounds j u) { cls:=.type "list",data:=.seq its.toArray n }={ cls:=.type "list",data:=.seq (its.set j u).toArray n }:=by
 simp[Obj.mapSeq]
theorem Inv.lst {jb:YC} {U : St} {H:Hp} {s:Shared} {p:Addr} {xs:YG} (I:Inv X jb U H s) (h:H p=some (.lst xs)) :
  ∃(its:YE) (n:Nat),Vals xs its/\s.heap.get? p=some { cls:=.type "list",data:=.seq its.toArray n }/\xs.length<=sizeLine:=by
 obtain⟨z,its,n,r,e⟩:=I.hok p _ h;exact⟨its,n,r,e,z⟩
theorem Inv.bI {jb:YC} {U : St} {H:Hp} {s:Shared} {p:Addr} {xs ys:YG} {its its':YE} {n n':Nat} {f:Obj->Obj} (I:Inv X jb U H s) (h:H p=some (.lst xs))
  (ho:s.heap.get? p=some { cls:=.type "list",data:=.seq its.toArray n }) (hf:f { cls:=.type "list",data:=.seq its.toArray n }={ cls:=.type "list",data:=.seq its'.toArray n' }) (r:Vals ys its') (hz:ys.length<=sizeLine) (t:Nat) :
  Inv X jb U (upd H p (.lst ys)) { s with heap:=s.heap.update p f,toks:=t }:=by
 have e:(s.heap.update p f).get? p=some { cls:=.type "list",data:=.seq its'.toArray n' }:=by
  rw[Qay f ho (by rw[hf] <;> rfl),hf]
 refine I.write (x:=p) (e:=p) (by rw[h];trivial) (.inl rfl) (λb u hb q=>(Qau _ _ (Ne.symm hb)).trans q) ⟨_,e⟩ ?_;exact⟨hz,its',n',r,e⟩
def dz:V->V->V->Hp->(Hp->Prop)->Prop:=λo i v H Q=>∃p xs k j,o=.ref p/\i=.int k/\H p=some (.lst xs)/\ixN xs.length k=some j/\Q (upd H p (.lst (xs.set j v)))
theorem set_list:cP X dz:=by
 intro jb s U H o i v ov iv u Q I ro ri rv h;obtain⟨p,xs,k,j,rfl,rfl,hp,hj,q⟩:=h;cases ro;obtain⟨t,rfl⟩:=ri;obtain⟨its,n,r,ho,hz⟩:=I.lst hp;obtain⟨h1,h2,h3,h4⟩:=Tz hj;have hl:=r.length;have hn:=Jh;have I':Inv X jb U (upd H p (.lst (xs.set j v))) { s with heap:=s.heap.update p (Obj.mapSeq (·.setIfInBounds j u)) }:=
  I.bI hp ho (Ut its n j u) (r.set rv j) (by rw[List.length_set];exact hz) s.toks
 by_cases h0:0<=k
 ·have hk:k.toNat=j:=by
   rw[seqIndex_of h0 h4] at h1;exact Qby h1
  exact PySem.W.ki_setAt ho h0 (by omega) (by rw[Qbc,<-hl];exact h4) (by rw[hk];exact⟨_,I',q⟩)
 ·have hk:(k+(its.toArray.size:Int)).toNat=j:=by
   rw[seqIndex_neg (by omega) h3] at h1;rw[Qbc,<-hl];exact Qby h1
  exact PySem.W.ki_setBack ho (by omega) (by rw[Qbc,<-hl];exact h3) (by omega) (by rw[hk];exact⟨_,I',q⟩)
theorem Qy (lo hi:Option Int) (n:Nat):(sliceBounds lo hi none n).1=((HT.sIx n 0 lo:Nat):Int)/\(sliceBounds lo hi none n).2.1=((HT.sIx n n hi:Nat):Int)/\(sliceBounds lo hi none n).2.2=1:=by
 refine⟨?_,?_,rq⟩
 ·cases lo with
  | none=>simp[sliceBounds,HT.sIx]
  | some i=>
   simp only[sliceBounds,HT.sIx,Option.getD_none,show (1:Int) > 0 by decide,if_true];by_cases h:i < 0
   ·simp only[h,if_true] <;> omega
   ·simp only[h,Qcn] <;> omega
 ·cases hi with
  | none=>simp[sliceBounds,HT.sIx]
  | some i=>
   simp only[sliceBounds,HT.sIx,Option.getD_none,show (1:Int) > 0 by decide,if_true];by_cases h:i < 0
   ·simp only[h,if_true] <;> omega
   ·simp only[h,Qcn] <;> omega
theorem PJ (its:YE) (lo hi:Option Int):slicePick its.toArray lo hi none=((its.drop (HT.sIx its.length 0 lo)).take (HT.sIx its.length its.length hi - HT.sIx its.length 0 lo)).toArray:=by
 obtain⟨h1,h2,h3⟩:=Qy lo hi its.toArray.size;unfold slicePick;rw[h1,h2,h3];simp only[sliceRange_one,pick_run,Qbc] <;> rfl
def fC (K:YD):V->Option Int->Option Int->Hp->VK->Prop:=λx lo hi H Q=>∃a xs,x=.ref a/\SqL K H a xs/\∀p,H p=none->Q (.ref p) (upd H p (.lst (Cr xs lo hi)))
theorem KR:SlR X (fC X.K):=by
 intro jb s U H x v vl vu lo hi sl Q I rx hs pl pu h;obtain⟨a,xs,rfl,hx,q⟩:=h;cases rx;obtain⟨its,r,ht,hz⟩:=I.list hx;have hlen:=r.length;refine⟨"list",_,slot_list_getitem.lookup,ht.isList.typeIs,?_⟩;refine wpAny_getItem_list_slice ht.isList hs pl pu .none (by simp) ?_ (by rw[Qbc] <;> omega);rw[PJ,<-hlen];refine⟨.ref s.heap.objs.size,_,I.laid (t':=s.toks) (o:=.lst (Cr xs lo hi)) (λb ob q=>Qas _ q) (Qce _) ?_,rq,q _ (I.hok.fresh (Qce _))⟩;exact⟨QbY (Lk xs lo hi) hz,_,0,(r.drop (HT.sIx xs.length 0 lo)).take (HT.sIx xs.length xs.length hi - HT.sIx xs.length 0 lo),QaG _ rfl⟩
def Gu:V->Bool
 | .non=>true
 | .bl _=>true
 | .int _=>true
 | .str _=>true
 | _=>false
def eqV:V->V->Bool
 | .non,.non=>true
 | .bl a,.bl b=>a == b
 | .bl a,.int b=>(if a then 1 else 0) == b
 | .int a,.bl b=>a == (if b then 1 else 0)
 | .int a,.int b=>a == b
 | .str a,.str b=>a == b
 | _,_=>false
theorem cB {A:Around} {s:Shared} {y x:V} {u v:Value} (ry:RelV y u) (rx:RelV x v) (fy:Gu y=true) (fx:Gu x=true):SeqAt.EqAt A s u v (eqV y x):=by
 cases y with
 | non=>
  cases ry;cases x with
  | non=>cases rx;exact SeqAt.EqAt.same _
  | bl b=>cases rx;exact SeqAt.EqAt.none_bool b
  | int b=>obtain⟨t,rfl⟩:=rx;exact SeqAt.EqAt.none_int b t
  | str b=>obtain⟨t,rfl⟩:=rx;exact SeqAt.EqAt.none_str b t
  | _=>exact absurd (show false=true from fx) QaN
 | bl a=>
  cases ry;cases x with
  | non=>cases rx;exact SeqAt.EqAt.bool_none a
  | bl b=>cases rx;exact SeqAt.EqAt.bool_bool a b
  | int b=>obtain⟨t,rfl⟩:=rx;exact SeqAt.EqAt.bool_int a b t
  | str b=>obtain⟨t,rfl⟩:=rx;exact SeqAt.EqAt.bool_str a b t
  | _=>exact absurd (show false=true from fx) QaN
 | int a=>
  obtain⟨t',rfl⟩:=ry;cases x with
  | non=>cases rx;exact SeqAt.EqAt.int_none a t'
  | bl b=>cases rx;exact SeqAt.EqAt.int_bool a t' b
  | int b=>obtain⟨t,rfl⟩:=rx;exact SeqAt.EqAt.int_int a t' b t
  | str b=>obtain⟨t,rfl⟩:=rx;exact SeqAt.EqAt.int_str a t' b t
  | _=>exact absurd (show false=true from fx) QaN
 | str a=>
  obtain⟨t',rfl⟩:=ry;cases x with
  | non=>cases rx;exact SeqAt.EqAt.str_none a t'
  | bl b=>cases rx;exact SeqAt.EqAt.str_bool a t' b
  | int b=>obtain⟨t,rfl⟩:=rx;exact SeqAt.EqAt.str_int a t' b t
  | str b=>obtain⟨t,rfl⟩:=rx;exact SeqAt.EqAt.str_str a t' b t
  | _=>exact absurd (show false=true from fx) QaN
 | _=>exact absurd (show false=true from fy) QaN
def eqU (x:V) (u:Value):Bool:=match u with
 | .none=>eqV .non x
 | .bool b=>eqV (.bl b) x
 | .int i _=>eqV (.int i) x
 | .str z _=>eqV (.str z) x
 | _=>false
theorem Wv {x y:V} {u:Value} (r:RelV y u) (f:Gu y=true):eqU x u=eqV y x:=by
 cases y with
 | non=>cases r;rfl
 | bl b=>cases r;rfl
 | int i=>obtain⟨t,rfl⟩:=r;rfl
 | str z=>obtain⟨t,rfl⟩:=r;rfl
 | _=>exact absurd (show false=true from f) QaN
theorem Jp {x:V}:∀{xs:YG} {us:YE},Vals xs us->xs.all Gu=true->us.any (eqU x)=xs.any λy=>eqV y x
 | _,_,.nil,_=>rfl
 | y::xs,u::us,.cons r t,f=>by
  rw[List.all_cons,Qbo] at f;rw[List.any_cons,List.any_cons,Wv r f.1,Jp t f.2]
theorem Hu {A:Around} {s:Shared} {x:V} {v:Value} (rx:RelV x v) (fx:Gu x=true):∀{xs:YG} {us:YE},Vals xs us->xs.all Gu=true->∀u∈us,SeqAt.EqAt A s u v (eqU x u)
 | _,_,.nil,_=>λu hu=>by cases hu
 | y::xs,u::us,.cons r t,f=>λu' hu=>by
  rw[List.all_cons,Qbo] at f;rcases QbP.mp hu with rfl | hu
  ·rw[Wv r f.1];exact cB r rx f.1 fx
  ·exact Hu rx fx t f.2 u' hu
def inV (x:V) (xs:YG):Bool:=xs.any λy=>eqV y x
def rIn (K:YD) (neg:Bool):R2:=λx y H Q=>∃p xs,y=.ref p/\(SqL K H p xs\/SqT K H p xs)/\Gu x=true/\xs.all Gu=true/\Q (.bl (if neg then !inV x xs else inV x xs)) H
theorem Ib:OpR X (compareOp .In) (rIn X.K false):=by
 intro jb s U H x y v u Q I rx ry h;obtain⟨p,xs,rfl,hq,fx,fs,q⟩:=h;cases ry;rcases hq with hq | hq
 ·obtain⟨its,r,pl,hz⟩:=I.list hq;refine SeqAt.in_listAt (eqU x) pl.isList (λw hw=>Hu rx fx r fs w (by simpa using hw)) ⟨.bl _,H,I,rq,?_⟩;rw[show its.toArray.any (eqU x)=its.any (eqU x) by simp,Jp r fs];exact q
 ·obtain⟨its,r,pl,hz⟩:=I.tuple hq;refine SeqAt.in_tupleAt (eqU x) pl (λw hw=>Hu rx fx r fs w (by simpa using hw)) ⟨.bl _,H,I,rq,?_⟩;rw[show its.toArray.any (eqU x)=its.any (eqU x) by simp,Jp r fs];exact q
theorem Hs:OpR X (compareOp .NotIn) (rIn X.K true):=by
 intro jb s U H x y v u Q I rx ry h;obtain⟨p,xs,rfl,hq,fx,fs,q⟩:=h;cases ry;rcases hq with hq | hq
 ·obtain⟨its,r,pl,hz⟩:=I.list hq;refine SeqAt.notIn_listAt (eqU x) pl.isList (λw hw=>Hu rx fx r fs w (by simpa using hw)) ⟨.bl _,H,I,rq,?_⟩;rw[show its.toArray.any (eqU x)=its.any (eqU x) by simp,Jp r fs];exact q
 ·obtain⟨its,r,pl,hz⟩:=I.tuple hq;refine SeqAt.notIn_tupleAt (eqU x) pl (λw hw=>Hu rx fx r fs w (by simpa using hw)) ⟨.bl _,H,I,rq,?_⟩;rw[show its.toArray.any (eqU x)=its.any (eqU x) by simp,Jp r fs];exact q
theorem BZ:CN X (.builtin "len") (λxs H Q=>∃p ys,xs=[.ref p]/\(SqL X.K H p ys\/SqT X.K H p ys)/\Q (.int ys.length) H):=by
 intro jb s U H xs us Q I r h;obtain⟨p,ys,rfl,hq,q⟩:=h;obtain⟨u,rfl,rx⟩:=vals1 r;cases rx;have hn:=Jh;rcases hq with hq | hq
 ·obtain⟨its,r',pl,hz⟩:=I.list hq;have hlen:=r'.length;exact Calls.call_len_list pl.isList (by simp only[Qbc] <;> omega) ⟨.int ys.length,H,I.tok _,⟨s.toks+1,by rw[Qbc,hlen]⟩,q⟩
 ·obtain⟨its,r',pl,hz⟩:=I.tuple hq;have hlen:=r'.length;exact len_tuple pl (by simp only[Qbc] <;> omega) ⟨.int ys.length,H,I.tok _,⟨s.toks+1,by rw[Qbc,hlen]⟩,q⟩
theorem CN.or {f:Value} {r r':YG->Hp->VK->Prop} (h:CN X f r) (h':CN X f r'):CN X f (λxs H Q=>r xs H Q\/r' xs H Q):=by
 intro jb s U H xs us Q I rs q;rcases q with q | q
 ·exact h jb s U H xs us Q I rs q
 ·exact h' jb s U H xs us Q I rs q
theorem Hw:CN X (.type "list") (λxs H Q=>∃p ys,xs=[.ref p]/\(SqL X.K H p ys\/SqT X.K H p ys)/\∀l,H l=none->Q (.ref l) (upd H l (.lst ys))):=by
 intro jb s U H xs us Q I r h;obtain⟨p,ys,rfl,hq,q⟩:=h;obtain⟨u,rfl,rx⟩:=vals1 r;cases rx;have fin:∀(its:YE),Vals ys its->ys.length<=sizeLine->∀(h':Heap) (c':Nat),(∀b o',s.heap.get? b=some o'->h'.get? b=some o') ->
   h'.get? s.heap.objs.size=some { cls:=.type "list",dict:=none,data:=.seq its.toArray c',slots:=#[] }->EP X jb U Q (.ref s.heap.objs.size) { s with heap:=h' }:=λits r' hz h' c' kp e=>
  ⟨.ref s.heap.objs.size,_,I.laid (t':=s.toks) kp (Qce _) (show Az X.prog X.w _ h' _ (.lst ys) from⟨hz,its,c',r',e⟩),rq,q _ (I.hok.fresh (Qce _))⟩
 rcases hq with hq | hq
 ·obtain⟨its,r',pl,hz⟩:=I.list hq;have hlen:=r'.length;obtain⟨o,ho,hc,n,hd⟩:=pl.isList;exact call_list_seq p (.inl rfl) ho hc hd (λh' c' kp e=>fin its r' hz h' c' kp e) (by simp only[Qbc] <;> omega)
 ·obtain⟨its,r',pl,hz⟩:=I.tuple hq;have hlen:=r'.length;obtain⟨o,ho,hc,n,hd⟩:=pl;exact call_list_seq p (.inr rfl) ho hc hd (λh' c' kp e=>fin its r' hz h' c' kp e) (by simp only[Qbc] <;> omega)
theorem Fb:CN X (.type "tuple") (λxs H Q=>∃p ys,xs=[.ref p]/\((SqL X.K H p ys/\∀l,H l=none->Q (.ref l) (upd H l (.tup ys)))\/(SqT X.K H p ys/\Q (.ref p) H))):=by
 intro jb s U H xs us Q I r h;obtain⟨p,ys,rfl,h⟩:=h;obtain⟨u,rfl,rx⟩:=vals1 r;cases rx;rcases h with⟨hq,q⟩|⟨hq,q⟩
 ·obtain⟨its,r',pl,hz⟩:=I.list hq;have hlen:=r'.length;refine call_tuple_list pl.isList (λh' kp=>?_) (by simp only[Qbc] <;> omega);have I1:Inv X jb U H { s with heap:=h' }:=I.kept (t':=s.toks) kp;have I2:Inv X jb U (upd H h'.objs.size (.tup ys)) { s with heap:=h'.push { cls:=.type "tuple",data:=.seq its.toArray } }:=
   I1.laid (t':=s.toks) (λb o e=>Qas _ e) (Qce _) (show Az X.prog X.w _ _ _ (.tup ys) from⟨hz,its,r',IsTup.new _ _⟩)
  exact⟨.ref h'.objs.size,_,I2,rq,q _ (I1.hok.fresh (Qce _))⟩
 ·obtain⟨its,r',pl,hz⟩:=I.tuple hq;exact call_tuple_same pl ⟨.ref p,H,I,rq,q⟩
def tyV (K:YD) (T:String) (x:V) (H:Hp):Prop:=match x with
 | .str _=>T="str"
 | .int _=>T="int"
 | .ref p=>(T="list"/\∃xs,SqL K H p xs)\/(T="tuple"/\∃o,K.lookup p=some o/\o.cls=.type "tuple"/\o.dict=none) \/
   (T="dict"/\((∃kvs,H p=some (.dK kvs))\/∃kvs,H p=some (.dT kvs)))\/(T="set"/\∃S n,H p=some (.set S n))
 | _=>False
theorem aj {jb:YC} {U : St} {H:Hp} {s:Shared} {T:String} {x:V} {v:Value} (I:Inv X jb U H s) (r:RelV x v) (ty:tyV X.K T x H) :
  s.TypeIs v T/\∀a,v=.ref a->∃ob,s.heap.get? a=some ob/\ob.dict=none:=by
 cases x with
 | str z=>
  obtain⟨t,rfl⟩:=r;cases (show T="str" from ty)
  exact⟨typeIs_str s z t,λ_ e=>nomatch e⟩
 | int i=>
  obtain⟨t,rfl⟩:=r;cases (show T="int" from ty)
  exact⟨typeIs_int s i t,λ_ e=>nomatch e⟩
 | ref p=>
  cases r;rcases ty with⟨rfl,xs,hq⟩|⟨rfl,o,hk,hc,hd⟩|⟨rfl,hk⟩|⟨rfl,S,n,hk⟩
  ·obtain⟨its,_,pl,_⟩:=I.list hq;refine⟨pl.isList.typeIs,λa e=>?_⟩;cases e;obtain⟨o,n,e,c,hd,_⟩:=pl;exact⟨o,e,hd⟩
  ·refine⟨⟨o,I.kIn p o hk,hc⟩,λa e=>?_⟩;cases e;exact⟨o,I.kIn _ o hk,hd⟩
  ·have z:∃o,s.heap.get? p=some o/\o.ExactDict:=by
    rcases hk with⟨kvs,hk⟩|⟨kvs,hk⟩
    ·obtain⟨_,_,_,_,o,_,_,e,ex,_⟩:=I.hok p _ hk;exact⟨o,e,ex⟩
    ·obtain⟨_,_,_,_,o,_,_,e,ex,_⟩:=I.hok p _ hk;exact⟨o,e,ex⟩
   obtain⟨o,e,ex⟩:=z;refine⟨⟨o,e,ex.1⟩,λa e2=>?_⟩;cases e2;exact⟨o,e,ex.2.1⟩
  ·obtain⟨o,_,_,_,e,ex,_⟩:=I.hok p _ hk;refine⟨⟨o,e,ex.1⟩,λa e2=>?_⟩;cases e2;exact⟨o,e,ex.2.1⟩
 | _=>exact False.elim ty
def tBM (K:YD) (T:String) (r:V->YG->Hp->VK->Prop) (to:TE) (t:TA):TE:=fun U H Q=>to U H λx H1=>tyV K T x H1/\t U H1 λxs H2=>r x xs H2 Q
variable {o e:Expr} {es:YJ} {to:TE} {t:TA} {name:Str} {apos cpos:Pos} {T id:String} {r:V->YG->Hp->VK->Prop}
theorem G5 (pa:PlainAttrs T) (slot:Slot T name id) (hty:typeOf (.builtin id)=pure (.type "method_descriptor")) (hm:MtR X id r) (ho:PE X o to) (ha:PA X (e::es) t)
  (hbase:attributeBase o name X.env (eval o X.env)=eval o X.env:=by rfl)
  (hfew:((backTo cpos (starEach (e::es) X.env)).all (λx=>!x.1)&&(backToKw cpos (keywordEach [] X.env)).all (λx=>x.1.isSome)
  &&decide ((e::es).length+([]:List Keyword).length+(if ([]:List Keyword).isEmpty then 0 else 1) < 30))=true:=by rfl)
  (hline:(apos.endLine == cpos.line)=true:=by rfl) (hs:starEach (e::es) X.env=(false,eval e X.env)::starEach es X.env:=by rfl) (hplain:(backTo cpos (starEach es X.env)).any (·.1)=false:=by rfl) :
  PE X (.Call (.Attribute o name apos) (e::es) [] cpos) (tBM X.K T r to t):=by
 intro jb s U H Q I h;refine wpAny_Call_method_late hbase hfew hline rfl (thn (ho jb s U H _ I h) λv s1 zz=>?_);obtain⟨x,H1,I1,r1,ty,q1⟩:=zz;obtain⟨h1,h2⟩:=aj I1 r1 ty;refine⟨T,id,pa,slot,hty,h1,h2,?_⟩;have hA:=ha cpos jb s1 U H1 _ I1 q1;rw[hs] at hA ⊢;refine Calls.callWith_builtin (by show (false || (backTo cpos (starEach es X.env)).any (·.1))=false;rw[hplain] <;> rfl) (Calls.evalArgs_plain ?_);refine thn hA λus s2 zz=>?_;obtain⟨vs,H2,I2,r2,q2⟩:=zz;exact hm jb s2 U H2 x vs v us Q I2 r1 r2 q2
end
def MtM (X:Cx) (id:String) (r:V->YG->Hp->VK->Prop):Prop:=
 ∀(jb:YC) (s:Shared) (U : St) (H:Hp) (x:V) (xs:YG) (v:Value) (us:YE) (Q:VK),Inv X jb U H s->RelV x v->Vals xs us->r x xs H Q ->
  wpAny (model X.prog X.w) X.A (call (.builtin id) (v::us)) (EP X jb U Q) X.xe s
theorem Vals.one:∀{x:V} {us:YE},Vals [x] us->∃u,us=[u]/\RelV x u
 | _,_,.cons r .nil=>⟨_,rfl,r⟩
theorem Vals.zero:∀{us:YE},Vals [] us->us=[]
 | _,.nil=>rfl
theorem Vals.eraseIdx:∀{xs:YG} {us:YE} (i:Nat),Vals xs us->Vals (xs.eraseIdx i) (us.eraseIdx i)
 | _,_,_,.nil=>.nil
 | _,_,0,.cons _ t=>t
 | _,_,i+1,.cons r t=>.cons r (Vals.eraseIdx i t)
theorem Vals.reverse {xs:YG} {us:YE} (h:Vals xs us):Vals xs.reverse us.reverse:=by
 induction h with
 | nil=>exact .nil
 | cons r t ih=>rw[List.reverse_cons,List.reverse_cons];exact Vals.append ih (.cons r .nil)
section
variable {X:Cx} {jb:YC} {U : St} {H:Hp} {s:Shared} {l b:Addr} {xs ys zs:YG}
theorem Inv.bJ {its its':YE} {n:Nat} {f:Array Value->Array Value} {t':Nat} (I:Inv X jb U H s) (hH:H l=some (.lst xs))
  (e:s.heap.get? l=some { cls:=.type "list",data:=.seq its.toArray n }) (hf:f its.toArray=its'.toArray) (hv:Vals ys its') (hz:ys.length<=sizeLine) :
  Inv X jb U (upd H l (.lst ys)) { s with heap:=s.heap.update l (Obj.mapSeq f),toks:=t' }:=by
 have q:=PySem.IsL.update e f;rw[hf] at q;refine I.write (x:=l) (e:=l) (by rw[hH];exact trivial) (.inl rfl) (λb' u hb hu=>(Qau s.heap (Obj.mapSeq f) (Ne.symm hb)).trans hu) ⟨_,q⟩ ?_;exact⟨hz,its',_,hv,q⟩
theorem Inv.fV {its:YE} {t':Nat} (I:Inv X jb U H s) (hv:Vals ys its) (hz:ys.length<=sizeLine) :
  Inv X jb U (upd H s.heap.objs.size (.lst ys)) { s with heap:=s.heap.push { cls:=.type "list",data:=.seq its.toArray },toks:=t' }:=
 I.laid (λ_ _ q=>Qas _ q) (Qce _) ⟨hz,its,0,hv,QaG _ rfl⟩
theorem Inv.fresh (I:Inv X jb U H s):H s.heap.objs.size=none:=I.hok.fresh (Qce _)
theorem Inv.Oj (I:Inv X jb U H s) (hH:H l=some (.lst xs)):xs.length<=sizeLine/\∃(its:YE) (n:Nat),Vals xs its/\xs.length=its.length/\s.heap.get? l=some { cls:=.type "list",data:=.seq its.toArray n }:=by
 obtain⟨z,its,n,r,e⟩:=I.hok l _ hH;exact⟨z,its,n,r,r.length,e⟩
theorem Xy {n:Nat} (h:n<=sizeLine):Builtin.List.listTooLong n=false:=by
 unfold Builtin.List.listTooLong;exact Qbw (by omega)
end
section
variable {X:Cx}
def Zu:V->YG->Hp->VK->Prop:=λx vs H Q=>∃l xs y,x=.ref l/\vs=[y]/\H l=some (.lst xs)/\xs.length < sizeLine/\Q .non (upd H l (.lst (xs++[y])))
theorem FJ:MtM X "list.append" Zu:=by
 intro jb s U H x vs v us Q I rx rv h;obtain⟨l,xs,y,rfl,rfl,hH,hz,q⟩:=h;cases rx;obtain⟨u,rfl,ru⟩:=rv.one;obtain⟨z,its,n,r,hl,e⟩:=I.Oj hH;refine call_meets F.slot_list_append ⟨_,e,rq⟩ F.entry_list_append (F.args_list_append_2 _ _) (PySem.list_append l its.toArray n u (by rw[Qbc];omega)) ⟨e,?_⟩;refine⟨.non,_,I.bJ (its':=its++[u]) hH e (by simp) (r.append (.cons ru .nil)) ?_,rq,q⟩;rw[QaM,QaA];omega
def Zt:V->YG->Hp->VK->Prop:=λx vs H Q=>∃l b xs zs,x=.ref l/\vs=[.ref b]/\H l=some (.lst xs)/\H b=some (.lst zs)/\xs.length+zs.length<=sizeLine/\Q .non (upd H l (.lst (xs++zs)))
theorem Km:MtM X "list.extend" Zt:=by
 intro jb s U H x vs v us Q I rx rv h;obtain⟨l,b,xs,zs,rfl,rfl,hH,hB,hz,q⟩:=h;cases rx;obtain⟨u,rfl,ru⟩:=rv.one;cases ru;obtain⟨z,its,n,r,hl,e⟩:=I.Oj hH;obtain⟨z2,its2,n2,r2,hl2,e2⟩:=I.Oj hB;have hsz:its.toArray.size+its2.toArray.size<=sizeLine:=by rw[Qbc,Qbc];omega
 have dR:¬(!its.toArray.isEmpty&&Builtin.List.listTooLong (its.toArray.size+its2.toArray.size))=true:=by
  rw[Xy hsz,Bool.and_false];exact QaN
 refine call_meets F.slot_list_extend ⟨_,e,rq⟩ F.entry_list_extend (F.args_list_extend_2 _ _)
  (AutoSeq1.list_extend_list_list_0 l its.toArray n b its2.toArray n2 dR (by rw[Qbc];omega) (by omega)) ⟨e,e2,?_⟩
 refine⟨.non,_,I.bJ (its':=its++its2) hH e (by simp) (r.append r2) ?_,rq,q⟩;rw[QaM];omega
def fH:R2:=λx y H Q=>∃l b xs zs,x=.ref l/\y=.ref b/\H l=some (.lst xs)/\H b=some (.lst zs)/\xs.length+zs.length<=sizeLine/\∀p,H p=none->Q (.ref p) (upd H p (.lst (xs++zs)))
theorem V6:OpR X (binaryOp .Add) fH:=by
 intro jb s U H x y v u Q I rx ry h;obtain⟨l,b,xs,zs,rfl,rfl,hH,hB,hz,q⟩:=h;cases rx;cases ry;obtain⟨z,its,n,r,hl,e⟩:=I.Oj hH;obtain⟨z2,its2,n2,r2,hl2,e2⟩:=I.Oj hB;refine PySem.P.add_list e e2 ?_ (by rw[Qbc,Qbc];omega);have ea:its.toArray++its2.toArray=(its++its2).toArray:=by simp
 rw[ea];exact⟨.ref _,_,I.fV (t':=s.toks) (r.append r2) (by rw[QaM];omega),rq,q _ I.fresh⟩
end
section
variable {prog:Program} {w:World} {A:Around} {E:YA} {s:Shared}
set_option maxRecDepth 100000 in
end
section
variable {X:Cx}
end
end L2
namespace Att
open PySem PySem.W PySem.Calls PyProof.Rows
theorem Ni {P:Params} {h:Heap}:∀(ns:List Int) (vs:YE),WellAll P h vs (ns.map WData.int)->IntsAre vs ns:=by
 intro ns
 induction ns with
 | nil=>
  intro vs w;rw[List.map_nil] at w;cases w;exact .nil
 | cons n ns ih=>
  intro vs w;rw[QbQ] at w;cases w with
  | cons a b=>
   cases a;exact .cons _ _ (ih _ b)
theorem VL {l:OpenLaw} {n:Nat} (hn:l.most=some n) {P:Params} {h:Heap} {args:List WData} {vals:YE}
  (hpre:l.row.toRowW.claim.pre args=true) (hwl:WellAll P h vals args) :
  ∃a vs ns,vals=[Value.ref a]/\args=[WData.list (ns.map WData.int)]/\h.get? a=some { cls:=.type "list",data:=.seq vs.toArray }/\IntsAre vs ns/\ns.length<=n:=by
 have hsh:WShape.hasAll [] args [.list .int]=true:=(pre_splitW hpre).1;have hc:l.pre.holds [] { args:=args }=true:=(pre_splitW hpre).2;obtain⟨d,r,rfl,h1,h2⟩:=hasAllW_cons hsh;obtain rfl:=hasAllW_nil h2;obtain⟨xs,rfl,h3⟩:=hasW_list h1;obtain⟨ns,rfl⟩:=items_int h3;have hlen:ns.length<=n:=by
  unfold OpenLaw.pre at hc;have h4:(WTm.not (.lt (.lit (.int (n:Int))) (.len (.arg 0)))).holds [] { args:=[.list (ns.map .int)] }=true:=by
   have h4:=(holds_andW hc).1;rw[hn] at h4;exact h4
  have h5:=condW_of h4 (w_not (w_lt w_lit (w_len_list (w_arg rfl))));rw[Qbu] at h5;refine Nat.le_of_not_lt λq=>?_;have q':(n:Int) < ((ns.length:Nat):Int):=by omega
  first
   | (rw[QbK q'] at h5;exact absurd h5 (by decide))
   | (simp at h5;omega)
 cases hwl with
 | cons w1 w2=>
  cases w2;cases w1 with
  | list ho hall=>exact⟨_,_,ns,rfl,rfl,ho,Ni ns _ hall,hlen⟩
theorem V0 (l:OpenLaw) (args:List WData):l.row.toRowW.claim.post args (.bool true) args=true:=
 postW_of (r:=l.row.toRowW) (X:=(true == true))
  (show WShape.has [] (.bool true) .bool=true by first | rfl | decide | simp[WShape.has,WShape.arms,WShape.armsAll])
  (show (WTm.eq .res (.lit (.bool true))).value [] { args:=args,res:=some (.bool true),after:=args }=some (.bool (true == true)) from w_eq_bool (w_res rfl) w_lit) rfl
theorem Sy {l:OpenLaw} {n:Nat} {q:Program} {loose:YF} {XP:(YB)->Heap->Prop} {YP:World->Heap->Prop} {d:DefRec}
  (hn:l.most=some n) (hdf:d.params.defaults=[])
  (call:∀(w:World) (s₀ s₁ : Shared) (mg mb:YB) (fa:Addr) (o:Obj) (pm cd doc:Value) (a:Addr) (vs:YE) (ns:List Int),
   Ground q loose [] XP w s₀ mg mb s₁.heap->YP w s₁.heap ->
   s₁.heap.get? fa=some o->o.data=.func (docDef d.name d.params d.body d.scope pm cd doc)->s₁.heap.CodeRec cd d.name->mg d.name=some (.ref fa) ->
   s₁.heap.get? a=some { cls:=.type "list",data:=.seq vs.toArray }->IntsAre vs ns->ns.length<=n->s₁.gens=#[] ->
   codeAny (model l.prog w) callerA (.call (.ref fa) ⟨[.ref a],[]⟩) (λr s'=>r=.ok (.ret (.bool true))/\OldK s₁.heap s'.heap/\s'.os=s₁.os/\AllBare s'.gens) s₁) :
  WalkO q loose XP YP l.row.toRowW d [] (λf vs=>PySem.call f vs):=by
 intro w s₀ s₁ mg mb G Y fa o pm cd doc dV kV ho hd hcd hD hmg hg args vals as hpre hlay hrd hwl hlo;obtain rfl:dV=.none:=Dflts.none hD hdf;obtain rfl:kV=.none:=Dflts.noKw hD;obtain⟨a,vs,ns,rfl,rfl,hobj,hints,hlen⟩:=VL hn hpre hwl;refine enter_call (Qcc (call w s₀ s₁ mg mb fa o pm cd doc a vs ns G Y ho (fd_plain hd) hcd hmg hobj hints hlen hg) λr s' hq=>?_);obtain⟨rfl,h2,h3,h4⟩:=hq;exact⟨.inl ⟨.bool true,.bool true,[],rq,λ_=>rfl,.bool true,V0 l _,λ_=>⟨List.Pairwise.nil,λ_ hm=>(nomatch hm)⟩⟩,h2,h3,h4⟩
section
variable {prog:Program} {w:World} {A:Around} {E:YA} {s:Shared} {K:Frag}
end
end Att
namespace L2
open PySem PySem.Spec PyProof.Rows
theorem O4:∀{vs:YE} {ns:List Int},IntsAre vs ns->Vals (ns.map V.int) vs
 | _,_,.nil=>.nil
 | _,_,.cons n t h=>.cons ⟨t,rfl⟩ (O4 h)
def Only (H:Hp):Prop:=∀b,H b=none\/∃o xs,H b=some (.frz o (.lst xs))
theorem XR {P:Program} {w:World} {K:YD} {mg mb:YB} {CX:CXT} {k:Nat} {fa a:Addr} {fd:FuncData} {x:Str} {sp:Sp} {s₁ : Shared} {vs:YE} {ns:List Int}
  (KX:K.In s₁.heap) (hns:s₁.heap.Ns mainGlobals mg) (hb:s₁.heap.Ns builtinsNs mb) (hbb:∀x:Str,x≠"__name__"->mb x=bootBuiltins x) (hlim:s₁.heap.NoLimit) (hg:s₁.gens=#[])
  (ha:s₁.heap.get? a=some { cls:=.type "list",data:=.seq vs.toArray }) (hi:IntsAre vs ns) (hl:ns.length<=sizeLine) (hr:Cz k callerA)
  (F:∀base:Heap,K.In base->base.Ns mainGlobals mg->Ej P w K mg base CX k fa fd [x] sp) (hbind:∀(s:Shared) (u:Value),BindsTo s fd ⟨[u],[]⟩ [(x,u)])
  (hsp:∀H:Hp,Only H->SqL K H a (ns.map V.int)->sp [.ref a] H (λv _=>v=.bl true) λ_ _ _=>False)
  (hCX:∀H e s',CX [] H s₁ (λ_ _ _=>False) e s'->False) :
  codeAny (model P w) callerA (.call (.ref fa) ⟨[.ref a],[]⟩) (λr s'=>r=.ok (.ret (.bool true))/\OldK s₁.heap s'.heap/\s'.os=s₁.os/\AllBare s'.gens) s₁:=by
 have rv:=O4 hi;have lenV:=hi.length;have core:∀H:Hp,Only H->SqL K H a (ns.map V.int)->HOk P w H s₁.heap->(∀b,H b≠none->b=a)->(H a≠none->K.lookup a=none) ->
   codeAny (model P w) callerA (.call (.ref fa) ⟨[.ref a],[]⟩) (λr s'=>r=.ok (.ret (.bool true))/\OldK s₁.heap s'.heap/\s'.os=s₁.os/\AllBare s'.gens) s₁:=by
  intro H hO hS hok hA hK;have T7:∀{b:Addr} {o:Obj},s₁.heap.get? b=some o->H b=none->(JK s₁.heap H).get? b=some o:=λe n=>X8 e n;have noA:∀{b:Addr} {o:Obj} {es:YK} {ep:Nat},s₁.heap.get? b=some o->o.data=.dict es ep->H b=none:=λ{b o es ep} e d=>by
   cases q:H b with
   | none=>rfl
   | some u=>
    have e':b=a:=hA b (by rw[q];simp);subst e';rw[ha] at e;cases e;have d':Data.seq vs.toArray _=Data.dict es ep:=d;cases d'
  have nsK:∀{b:Addr} {m:YB},s₁.heap.Ns b m->(JK s₁.heap H).Ns b m:=λ{b m} ⟨o,es,ep,e,d,r⟩=>⟨o,es,ep,T7 e (noA e d),d,r⟩;have hKb:K.In (JK s₁.heap H):=λb o e=>T7 (KX b o e) (by
   cases q:H b with
   | none=>rfl
   | some u=>
    have e':b=a:=hA b (by rw[q];simp);subst e';rw[hK (by rw[q];simp)] at e;cases e)
  have hM:Mod K mg (JK s₁.heap H):=⟨hKb,nsK hns,⟨mb,nsK hb,hbb⟩,let ⟨mc,h1,h2⟩:=hlim;⟨mc,nsK h1,h2⟩⟩;have e0:Mr P w K mg (JK s₁.heap H) callerA [] s₁ H:=⟨rq,hM,λb o e=>ZD e,Nat.le_of_eq (Ws _ _),trivial,λb hb=>absurd (show b∈([]:List Addr) from hb) (by simp),hok,.of_eq hg⟩
  refine Qcc ((F _ hKb (nsK hns)).run callerA [] s₁ H ⟨[.ref a],[]⟩ [.ref a] [.ref a] _ _ hr e0 (hbind s₁ (.ref a)) (.cons rfl .nil) (hsp H hO hS)) λr s' h=>?_;cases r with
  | error e=>exact (hCX H e s' h).elim
  | ok fl=>
   cases fl with
   | next=>exact False.elim h
   | brk=>exact False.elim h
   | cont=>exact False.elim h
   | ret u=>
    obtain⟨v,H',os,bare,un,hok',r',q⟩:=h;have q':v=.bl true:=q;subst q';obtain rfl:u=Value.bool true:=r';refine⟨rq,OldK.of_keep λb o e=>?_,os,bare⟩;cases q:H b with
    | none=>exact un.keep b o e q (by intro z;exact absurd (show b∈([]:List Addr) from z) (by simp)) (by simp)
    | some u=>
     rcases hO b with z |⟨ob,xs,z⟩
     ·rw[q] at z;cases z
     ·have z2:=un.Es b ob _ z;obtain⟨e1,_⟩:=hok b _ z;obtain⟨e2,_⟩:=hok' b _ z2;rw[e] at e1;cases e1;exact e2
 cases hk:K.lookup a with
 | some o=>
  have e:=KX a o hk;rw[ha] at e;cases e;refine core (λ_=>none) (λ_=>.inl rfl) (.inr ⟨_,vs.toArray,_,hk,rq,rq,rq,by rw[Qbc,lenV];exact hl,by simpa using rv⟩) (λb u z=>by have z':(none:Option HO)=some u:=z;cases z') (λb z=>absurd rfl z) λz=>absurd rfl z
 | none=>
  refine core (λb=>if b=a then some (.frz { cls:=.type "list",data:=.seq vs.toArray } (.lst (ns.map V.int))) else none) (λb=>?_) (.inl (.inr ⟨{ cls:=.type "list",data:=.seq vs.toArray },if_pos rfl⟩)) (λb u z=>?_) (λb z=>?_) λ_=>hk
  ·by_cases hb:b=a
   ·exact .inr ⟨_,_,if_pos hb⟩
   ·exact .inl (if_neg hb)
  ·by_cases hb:b=a
   ·have z':=(if_pos hb).symm.trans z;cases z';subst hb;exact⟨ha,by rw[Qbu];exact hl,vs,_,rv,ha⟩
   ·have z':=(if_neg hb).symm.trans z;cases z'
  ·by_cases hb:b=a
   ·exact hb
   ·exact absurd (if_neg hb) z
theorem Zg {l:PySem.W.OpenLaw} {n k:Nat} {q:Program} {loose:YF} {XP:(YB)->Heap->Prop} {YP:World->Heap->Prop} {d:DefRec} {K:Params->YD} {CX:World->CXT} {sp:World->Sp} {x:Str}
  (hn:l.most=some n) (hn2:n<=sizeLine) (hdf:d.params.defaults=[]) (hr:Cz k callerA)
  (hY:∀(w:World) (h:Heap),YP w h->(K w.params).In h)
  (F:∀(w:World) (mg:YB) (fa:Addr) (h:Heap),(K w.params).In h->h.Ns mainGlobals mg->mg d.name=some (.ref fa) ->
   ∃fd:FuncData,(∀(s:Shared) (u:Value),BindsTo s fd ⟨[u],[]⟩ [(x,u)]) /\
    ∀base:Heap,(K w.params).In base->base.Ns mainGlobals mg->Ej l.prog w (K w.params) mg base (CX w) k fa fd [x] (sp w))
  (hsp:∀(w:World) (H:Hp) (a:Addr) (ns:List Int),ns.length<=n->Only H->SqL (K w.params) H a (ns.map V.int)->sp w [.ref a] H (λv _=>v=.bl true) λ_ _ _=>False)
  (hCX:∀(w:World) (H:Hp) (s:Shared) (e:Value) (s':Shared),CX w [] H s (λ_ _ _=>False) e s'->False) :
  PySem.W.WalkO q loose XP YP l.row.toRowW d [] (λf vs=>PySem.call f vs):=by
 refine Att.Sy hn hdf λw s₀ s₁ mg mb fa o pm cd doc a vs ns G Y ho hd hcd hmg hobj hints hlen hg=>?_;have KX:=hY w _ Y;obtain⟨fd,hb,hF⟩:=F w mg fa _ KX G.T.g hmg;exact XR KX G.T.g G.T.b G.T.builtins G.T.nolimit hg hobj hints (QbY hlen hn2) hr hF hb (λH hO hS=>hsp w H a ns hlen hO hS) λH e s'=>hCX w H s₁ e s'
def Ds (s:Stmt):Arguments:=match s with
 | .FunctionDef _ a _ _ _ _ _ _ _ _=>a
 | _=>{ posonlyargs:=[],args:=[],vararg:=none,kwonlyargs:=[],kw_defaults:=[],kwarg:=none,defaults:=[] }
def Cp (s:Stmt):List Stmt:=match s with
 | .FunctionDef _ _ b _ _ _ _ _ _ _=>b
 | _=>[]
def Al (s:Stmt):Scope:=match s with
 | .FunctionDef _ _ _ _ _ _ sc _ _ _=>sc
 | _=>{ kind:=.function,names:=[],isGenerator:=false,isCoroutine:=false }
abbrev CX0:CXT:=λ_ _ _ _ _ _=>False
abbrev E0:XK:=λ_ _ _=>False
theorem dB {X:Cx}:Passes CX0 X E0:=λ_ _ _ _ _ _ _ h=>h.elim
structure Fun (K:YD) (x qual:Str) (st:Stmt) (f:Addr) (fd:FuncData):Prop where
 ex:∃(oc:Value) (od:Option Addr) (kV doc pm:Value) (an:Option Addr) (cdv ct:Value) (osl:YI),
  fd=fnOf x qual (Ds st) (Cp st) (Al st) .none kV doc pm an cdv ct/\K.lookup f=some ⟨oc,od,.func fd,osl⟩/\codeIn K cdv qual=true
 kp:keepIn K (.ref f)=true
section
variable {P:Program} {w:World} {K:YD} {mg:YB} {base:Heap}
theorem Fun.ok {x qual:Str} {st:Stmt} {f:Addr} {fd:FuncData} {N ps:YF} {k:Nat} {sp:Sp} (F:Fun K x qual st f fd) (S:Bf N ps (Al st)) (len:∀vs H Q E,sp vs H Q E->vs.length=ps.length)
  (hbody:∀(cdv:Value) (A:Around) (outer:List Env) (s:Shared) (H:Hp) (vs:YG) (Q:VK) (E:XK),Cz k (A.deeper (envOfC qual (Al st) s.heap.objs.size f cdv))->sp vs H Q E ->
   ∃t,PSs (Kz CX0 P w K mg base N qual (Al st) f cdv A outer s H E).nox (Cp st) t/\t { nx:=λ_ H'=>Q .non H',rt:=Q } (start N vs) H):Ej P w K mg base CX0 (k+1) f fd ps sp:=by
 obtain⟨oc,od,kV,doc,pm,an,cdv,ct,osl,rfl,lk,hcd⟩:=F.ex;refine dW lk hcd S len λA outer s H vs Q E hr hsp=>?_;obtain⟨t,h,q⟩:=hbody cdv A outer s H vs Q E hr hsp;exact⟨t,h.nox,q⟩
theorem Fun.binds {x qual:Str} {st:Stmt} {f:Addr} {fd:FuncData} {ps:YF} (F:Fun K x qual st f fd)
  (h:∀(kV doc pm:Value) (an:Option Addr) (cdv ct:Value) (us:YE),us.length=ps.length->bindArgs (fnOf x qual (Ds st) (Cp st) (Al st) .none kV doc pm an cdv ct) ⟨us,[]⟩=pure (ps.zip us)):Binds K fd ps []:=by
 obtain⟨oc,od,kV,doc,pm,an,cdv,ct,osl,rfl,lk,hcd⟩:=F.ex;exact .all (h kV doc pm an cdv ct)
theorem Wu {x qual:Str} {st:Stmt} {f:Addr} {oc:Value} {od an:Option Addr} {osl:YI} {kV doc pm cdv ct:Value} (l:K.lookup f=some ⟨oc,od,.func (fnOf x qual (Ds st) (Cp st) (Al st) .none kV doc pm an cdv ct),osl⟩)
  (c:codeIn K cdv qual=true) (k:keepIn K (.ref f)=true):Fun K x qual st f (fnOf x qual (Ds st) (Cp st) (Al st) .none kV doc pm an cdv ct):=⟨⟨oc,od,kV,doc,pm,an,cdv,ct,osl,rq,l,c⟩,k⟩
end
theorem Dh {A:Around} {k:Nat} (hr:Cz k A):A.units+1 < cLine:=Nat.lt_of_le_of_lt (Nat.add_le_add_left (by decide:1<=64) _) hr.units
theorem Av {n:Nat} (h:n<=1000):n < sizeLine:=Nat.lt_of_le_of_lt h (by decide)
section
variable {X:Cx}
theorem pv (i:Nat) {x:Str} {pos:Pos} (hN:X.N[i]?=some x:=by rfl) (hv:Vis X.env.scope x:=by first | exact Or.inl rfl | exact Or.inr (Or.inl rfl) | exact Or.inr (Or.inr rfl)) (hd:(x == ("__debug__":Str))=false:=by decide)
  (hcd:(x == ("__classdict__":Str))=false:=by decide):PE X (.Name x pos) (aq i):=aX hN hv hd hcd
end
theorem Bx {A B:Prop} (h:B):if false=true then A else B:=by
 rw[if_neg QaN];exact h
theorem CP {A B:Prop} (h:A):if true=true then A else B:=by
 rw[if_pos rfl];exact h
theorem Uy {c A B:Prop} [Decidable c] (h1:c->A) (h2:¬c->B):if c then A else B:=by
 by_cases h:c
 ·rw[if_pos h];exact h1 h
 ·rw[if_neg h];exact h2 h
def Same (H H':Hp):Prop:=∀b o,H b=some o->H' b=some o
theorem Same.refl (H:Hp):Same H H:=λ_ _ h=>h
theorem Same.trans {H H1 H2:Hp} (a:Same H H1) (b:Same H1 H2):Same H H2:=λc o h=>b c o (a c o h)
theorem Same.free {H H':Hp} (e:Same H H') {l:Addr} (h:H' l=Option.none):H l=Option.none:=by
 cases q:H l with
 | none=>rfl
 | some o=>
  rw[e l o q] at h;cases h
theorem Same.seq {K:YD} {H H':Hp} {a:Addr} {xs:YG} (e:Same H H') (h:SqL K H a xs):SqL K H' a xs:=by
 rcases h with (h |⟨o,h⟩) | h
 ·exact .inl (.inl (e _ _ h))
 ·exact .inl (.inr ⟨o,e _ _ h⟩)
 ·exact .inr h
def Cy (env:Env):List (Str×NameKind)->List (Str×Addr)->List (Str×Addr)
 | [],cs=>cs
 | (n,k)::r,cs=>Cy env r (if (k == .free)=true then (match env.cells.lookup n with | some c=>(n,c)::cs | none=>cs) else cs)
theorem RB {env:Env}:∀(names:List (Str×NameKind)) (cs:List (Str×Addr)),(∀p∈names,p.2=.free->∃c,env.cells.lookup p.1=some c) ->
  (forIn names cs λ(p:Str×NameKind) (r:List (Str×Addr))=>(if (p.2 == .free)=true then do
    let c <-cellOf env p.1
    pure (ForInStep.yield ((p.1,c)::r))
   else pure (ForInStep.yield r):Sem (ForInStep (List (Str×Addr)))))=pure (Cy env names cs)
 | [],cs,_=>rfl
 | (n,k)::rest,cs,h=>by
  have ih:=λcs'=>RB rest cs' λp hp=>h p (QaC _ hp);rw[List.forIn_cons];cases hk:(k == NameKind.free) with
  | true=>
   obtain⟨c,hc⟩:=h (n,k) QaO (eq_of_beq hk);have e1:cellOf env n=pure c:=by unfold cellOf;rw[hc]
   have e2:Cy env ((n,k)::rest) cs=Cy env rest ((n,c)::cs):=by simp only[Cy,hk,if_true,hc]
   rw[e2,<-ih];simp only[hk,if_true,e1,pure_bind]
  | false=>
   have e2:Cy env ((n,k)::rest) cs=Cy env rest cs:=by simp only[Cy,hk,QaS,Qcn]
   rw[e2,<-ih];simp only[hk,QaS,Qcn,pure_bind]
theorem JR {env:Env} {scope:Scope} (h:∀p∈scope.names,p.2=.free->∃c,env.cells.lookup p.1=some c):closureFor scope env=pure (Cy env scope.names []):=by
 have e:=RB (env:=env) scope.names [] h;unfold closureFor;simp only[bind_pure];exact e
theorem Rz {env:Env}:∀(names:List (Str×NameKind)) (cs:List (Str×Addr)),(∀x c,cs.lookup x=some c->env.cells.lookup x=some c) ->
  ∀x c,(Cy env names cs).lookup x=some c->env.cells.lookup x=some c
 | [],cs,h,x,c,e=>h x c e
 | (n,k)::rest,cs,h,x,c,e=>by
  refine Rz rest _ (λy d z=>?_) x c e;split at z
  ·split at z
   ·rename_i c' hc';rw[List.lookup_cons] at z;cases q:y == n with
    | true=>rw[q] at z;cases z;rw[eq_of_beq q];exact hc'
    | false=>rw[q] at z;exact h y d z
   ·exact h y d z
  ·exact h y d z
theorem Mh {env:Env}:∀(names:List (Str×NameKind)) (cs:List (Str×Addr)) (x:Str),((cs.lookup x).isSome=true\/((x,NameKind.free)∈names/\∃c,env.cells.lookup x=some c)) ->
  ∃c,(Cy env names cs).lookup x=some c
 | [],cs,x,h=>by
  rcases h with h |⟨h,_⟩
  ·exact Option.isSome_iff_exists.mp h
  ·cases h
 | (n,k)::rest,cs,x,h=>by
  refine Mh rest _ x ?_;have grow:(cs.lookup x).isSome=true->(List.lookup x (if (k == .free)=true then (match env.cells.lookup n with | some c=>(n,c)::cs | none=>cs) else cs)).isSome=true:=λz=>by
   split
   ·split
    ·rw[List.lookup_cons];cases x == n with
     | true=>rfl
     | false=>exact z
    ·exact z
   ·exact z
  rcases h with h |⟨h,c,hc⟩
  ·exact .inl (grow h)
  ·rcases QbP.mp h with z | z
   ·cases z;refine .inl ?_;simp[hc,List.lookup_cons]
   ·exact .inr ⟨z,c,hc⟩
def Ho (env:Env) (n:Str) (k:NameKind):NameKind:=if (k == .free&&env.scope.kind == .function&&env.kindOf n == some .cell)=true then .cell else k
theorem Ng (env:Env):∀(l:List (Str×NameKind)) (x:Str),
  (l.map λ(n,k)=>if (k == NameKind.free&&env.scope.kind == .function&&env.kindOf n == some .cell) then (n,NameKind.cell) else (n,k)).lookup x=(l.lookup x).map (Ho env x)
 | [],_=>rfl
 | (n,k)::r,x=>by
  have ih:=Ng env r x;have e:(if (k == NameKind.free&&env.scope.kind == .function&&env.kindOf n == some .cell)=true then (n,NameKind.cell) else (n,k))=(n,Ho env n k):=by
   unfold Ho;split <;> rfl
  rw[QbQ];show List.lookup x ((if (k == NameKind.free&&env.scope.kind == .function&&env.kindOf n == some .cell)=true then (n,NameKind.cell) else (n,k))::_)=_
  rw[e,List.lookup_cons,List.lookup_cons];cases q:x == n with
  | true=>rw[eq_of_beq q];rfl
  | false=>exact ih
theorem Xc {env:Env} {n:Str} {k:NameKind} (h:Ho env n k=.cell\/Ho env n k=.free):k=.cell\/k=.free:=by
 unfold Ho at h;split at h
 ·rename_i q;simp only[Qbo] at q;exact .inr (eq_of_beq q.1.1)
 ·exact h
theorem WD {prog:Program} {w:World} {A:Around} {R:Result->Shared->Prop} {s:Shared} {elt target iter:Expr} {ifs:YJ} {scope:Scope} {pos:Pos} {it acc:Value} {env:Env} (J:Nat->Shared->Prop)
  (turn:∀n s,J n s->wpAny (model prog w) A (pyNext it) (λr s1=>match r with
   | none=>R (.ok .next) s1
   | some v=>wpAny (model prog w) A (letOwnedTupleGo target it v) (λ_ s2=>wpAny (model prog w) A (assign target env v) (λ_ s3=>
     wpAny (model prog w) A (forIn ifs true λc r=>if r=true then do let ok <-isTrue c env (eval c env);pure (ForInStep.yield ok) else pure (ForInStep.yield r)) (λok s4=>
      if ok=true then wpAny (model prog w) A (eval elt env) (λx s5=>wpAny (model prog w) A (call (.builtin "list.append") [acc,x]) (λ_ s6=>∃m,m < n/\J m s6) (λ_ _=>False) s5) (λ_ _=>False) s4
      else ∃m,m < n/\J m s4) (λ_ _=>False) s3) (λ_ _=>False) s2) (λ_ _=>False) s1) (λ_ _=>False) s)
  (n:Nat) (h:J n s):codeAny (model prog w) A (.compLoop (.ListComp elt [⟨target,iter,ifs,0⟩] scope pos) 0 it acc env) R s:=by
 refine codeAny_loop rfl J (λk s' hk=>?_) n h;show wpAny _ A (Sem.onRaise (compTurn (.ListComp elt [⟨target,iter,ifs,0⟩] scope pos) 0 it acc env) (λx=>do noteFrame x env;theTreesLotGoes x)) _ _ s'
 refine wpAny_noted ?_;rw[compTurn_list];refine Qci (QbS (Qci (Qck (turn k s' hk) (λr s1 q1=>?_) λ_ _ f=>f.elim)));cases r with
 | none=>exact Qcj q1
 | some v=>
  refine Qci (Qck q1 (λ_ s2 q2=>Qci (Qck q2 (λ_ s3 q3=>Qci (Qck q3 (λok s4 q4=>?_) λ_ _ f=>f.elim)) λ_ _ f=>f.elim)) λ_ _ f=>f.elim);cases ok with
  | false=>exact Qcj ⟨rfl,q4⟩
  | true=>exact Qci (Qci (Qck q4 (λx s5 q5=>Qci (Qck q5 (λ_ s6 q6=>Qcj (Qcj ⟨rfl,q6⟩)) λ_ _ f=>f.elim)) λ_ _ f=>f.elim))
def cxC (X:Cx) (N':YF) (scope:Scope) (s3:Shared) (H3:Hp) (fp:List Addr) (pn:YC):Cx where
 prog:=X.prog
 w:=X.w
 K:=X.K
 mg:=X.mg
 base:=X.base
 A:=X.A
 N:=N'
 s₀:=s3
 H₀:=H3
 env:=compEnvC scope (Cy X.env scope.names []) s3.heap.objs.size X.env
 outer:=X.stack
 stack:=X.stack
 ex:=fp
 fn:=λ_=>false
 calm:=X.calm
 pn:=pn
 xe:=λ_ _=>False
structure Bo (X:Cx) (N':YF) (src:List (Option Nat)) (sc:Scope):Prop where
 kind:sc.kind=.function
 Ew:∀y∈sc.names,y.2≠.cell
 loc:∀y∈sc.names,y.2=.local->sc.names.lookup y.1=some .local
 fv:∀y∈sc.names,y.2=.free->X.env.kindOf y.1=some .cell\/X.env.kindOf y.1=some .free
 len:src.length=N'.length
 src:∀(i:Nat) (x:Str) (j:Nat),N'[i]?=some x->src[i]?=some (some j)->X.N[j]?=some x/\sc.names.lookup x=some .free
def FN (src:List (Option Nat)) (U : St):St:=src.map λo=>match o with | none=>none | some j=>(U[j]?).join
def PF (X:Cx) (ifs:YJ) (t:TT):Prop:=
 ∀(jb:YC) (s:Shared) (U : St) (H:Hp) (Q:Bool->Hp->Prop),Inv X jb U H s->t U H Q ->
  wpAny (model X.prog X.w) X.A (forIn ifs true λc r=>if r=true then do let ok <-isTrue c X.env (eval c X.env);pure (ForInStep.yield ok) else pure (ForInStep.yield r)) (TP X jb U Q) X.xe s
theorem Kg {X:Cx}:PF X [] (λ_ H Q=>Q true H):=λ_ _ _ H _ I h=>wpAny_tests_nil ⟨H,I,h⟩
theorem Gx {X:Cx} {c:Expr} {t:TT} (hc:PT X c t):PF X [c] t:=λjb s U H Q I h=>wpAny_tests_one (hc jb s U H Q I h)
theorem Un.ahead {fs ex:List Addr} {H H':Hp} {h h1 h':Heap} (u:Un fs ex H H' h h1) (k:∀b o,b < h.objs.size->h1.get? b=some o->h'.get? b=some o):Un fs ex H H' h h' where
 keep:=λb o e n hb hx=>k b o (QbW e) (u.keep b o e n hb hx)
 slot:=λb o e n hb hx=>by
  obtain⟨sl,q⟩:=u.slot b o e n hb hx;exact⟨sl,k b _ (QbW e) q⟩
 free:=u.free
 there:=λb o e hx=>by
  obtain⟨o',q⟩:=u.there b o e hx;exact⟨o',k b _ (QbW e) q⟩
 tups:=u.tups
 Es:=u.Es
 Fe:=u.Fe
section
variable {X:Cx} {N':YF} {src:List (Option Nat)} {sc:Scope} {jb:YC} {U : St} {H:Hp} {s3:Shared} {fp:List Addr} {h1:Heap} {tk:Nat}
theorem Mg (S:Bo X N' src sc) (I:Inv X jb U H s3) (hf:∀b∈fp,CQ X jb H b) (ht:∀b∈fp,b < s3.heap.objs.size)
  (ns:h1.Ns s3.heap.objs.size λ_=>none) (kp:∀b o,s3.heap.get? b=some o->h1.get? b=some o) :
  Inv (cxC X N' sc s3 H fp (X.pn++jb)) [] (FN src U) H { s3 with heap:=h1,toks:=tk }:=by
 have hcl:∀x c,(Cy X.env sc.names []).lookup x=some c->X.env.cells.lookup x=some c:=Rz sc.names [] λx c e=>by cases e
 have old:∀x c,(Cy X.env sc.names []).lookup x=some c->∃o,s3.heap.get? c=some o:=λx c e=>by
  obtain⟨v,o,ho,_⟩:=I.cell x c (hcl x c e);exact⟨o,ho⟩
 have fvh:∀x,(x,NameKind.free)∈sc.names->∃c,X.env.cells.lookup x=some c:=λx hx=>I.ok.has x (S.fv _ hx rfl);have aF:∀b,b≠X.env.locals->b∉X.fs->b∉frs X.stack:=λb h1 h2 hb=>(QbP.mp (I.Qu b hb)).elim h1 h2;have kindOf_eq:∀x,(compEnvC sc (Cy X.env sc.names []) s3.heap.objs.size X.env).kindOf x=(sc.names.lookup x).map (Ho X.env x):=λx=>Ng X.env sc.names x;refine⟨⟨I.ok.mod,S.kind,I.ok.glob,I.ok.blt,Qce _,λx y c e1 e2=>I.ok.inj x y c (hcl x c e1) (hcl y c e2),λx hx=>?_,λx c hf=>absurd hf QaN,I.ok.hd,I.ok.frames,.inl rfl,λb hb=>?_,I.bs,QbY I.ok.bsz I.sz,
  λb o e hb=>?_,λb hb=>?_,I.stack,I.NP⟩,rq,I.bare,Un.kept kp,⟨_,ns,λi x v e1 e2 e3=>?_⟩,λx c e=>?_,I.hok.fresh (Qce _),λx c e=>I.DW x c (hcl x c e),λp hp=>?_,I.hok.kept kp,?_⟩
 ·
  have hx':(sc.names.lookup x).map (Ho X.env x)=some .cell\/(sc.names.lookup x).map (Ho X.env x)=some .free:=by
   rw[<-kindOf_eq x];exact hx
  cases q:sc.names.lookup x with
  | none=>rw[q] at hx';rcases hx' with z | z <;> cases z
  | some k=>
   rw[q] at hx';have hk:k=.cell\/k=.free:=Xc (env:=X.env) (n:=x) (hx'.imp (λz=>Qby z) λz=>Qby z);have hm:=QaK q;rcases hk with rfl | rfl
   ·exact absurd rfl (S.Ew _ hm)
   ·exact Mh sc.names [] x (.inr ⟨hm,fvh x hm⟩)
 ·
  obtain⟨f0,f1,f2,f3,f4,f5⟩:=hf b hb;exact⟨QbX (ht b hb),λx c e=>f4 x c (hcl x c e)⟩
 ·
  obtain⟨f0,f1,f2,f3,f4,f5⟩:=hf b hb;rcases f3 with z | z
  ·exact I.ok.Og b o e z
  ·exact absurd (QaR (QbW e) (QbY I.ok.bsz z)) (QbT _)
 ·
  obtain⟨f0,f1,f2,f3,f4,f5⟩:=hf b hb;exact aF b f1 f2
 ·
  have e2':(FN src U)[i]?=some (some v):=e2;unfold FN at e2';rw[Qbd] at e2';cases q:src[i]? with
  | none=>rw[q] at e2';cases e2'
  | some oj=>
   rw[q] at e2';cases oj with
   | none=>cases e2'
   | some j=>
    have e4:(U[j]?).join=some v:=Qby e2';have e5:U[j]?=some (some v):=by
     cases r:U[j]? with
     | none=>rw[r] at e4;cases e4
     | some z=>rw[r] at e4;cases z with
      | none=>cases e4
      | some y=>cases e4;rfl
    obtain⟨hN,hfr⟩:=S.src i x j e1 q;have hm:=QaK hfr;have kx:=S.fv _ hm rfl;obtain⟨m,hn,hl⟩:=I.loc;obtain⟨u,r,l⟩:=hl j x v hN e5 (.inr kx);refine⟨u,r,?_⟩;rcases l with⟨k1,_⟩|⟨_,c,hc,hcell⟩
    ·rcases kx with z | z <;> (rw[z] at k1;cases k1)
    ·obtain⟨c',hc'⟩:=Mh (env:=X.env) sc.names [] x (.inr ⟨hm,c,hc⟩);have e6:c'=c:=by
      have:=hcl x c' hc';rw[hc] at this;exact (Qby this).symm
     subst e6;refine .inr ⟨?_,c',hc',?_⟩
     ·have:(compEnvC sc (Cy X.env sc.names []) s3.heap.objs.size X.env).kindOf x=some (Ho X.env x .free):=by rw[kindOf_eq x,hfr];rfl
      show (compEnvC sc (Cy X.env sc.names []) s3.heap.objs.size X.env).kindOf x=some .cell\/(compEnvC sc (Cy X.env sc.names []) s3.heap.objs.size X.env).kindOf x=some .free;rw[this];unfold Ho;split
      ·exact .inl rfl
      ·exact .inr rfl
     ·obtain⟨o,ho,hd⟩:=hcell;exact⟨o,kp _ o ho,hd⟩
 ·
  obtain⟨v,o,ho,hd⟩:=I.cell x c (hcl x c e);exact⟨v,o,kp _ o ho,hd⟩
 ·
  have hp':p∈X.pn++jb:=(Qbv.mp hp).elim id λz=>by cases z
  obtain⟨a1,a2,a3,a4,a5⟩:=I.pin p hp';exact⟨kp _ _ a1,a2,QbX (QbW a1),aF p.1 a3 a4,a5⟩
 ·show (FN src U).length=N'.length;unfold FN;rw[Qbu];exact S.len
theorem Nq {s1:Shared} {σ':St} {H':Hp} {h':Heap} (I:Inv X jb U H s3) (hf:∀b∈fp,CQ X jb H b) (I':Inv (cxC X N' sc s3 H fp (X.pn++jb)) [] σ' H' s1)
  (sb:Heap.SameBut s3.heap.objs.size s1.heap h'):Inv X jb U H' { s1 with heap:=h' }:=by
 have fr:H' s3.heap.objs.size=none:=I'.free;refine I.call' (s':={ s1 with heap:=h' }) (ch:=fp) I'.os ?_ ?_ I'.bare λb hb=>?_
 ·exact Un.ahead (h:=s3.heap) (h1:=s1.heap) I'.base λb o hb e=>sb.extBut b o (QbX hb) e
 ·exact λb u e=>(I'.hok b u e).stay (λc v hc q=>sb.extBut c v (by
   intro z;rcases hc with y | y
   ·rw[<-y,z,fr] at e;cases e
   ·rw[z,fr] at y;cases y) q) (λ_ q=>q) λ_ _ q=>q
 ·obtain⟨f0,f1,f2,f3,f4,f5⟩:=hf b hb;exact⟨f3,f1,f4,λp hp=>f5 p hp⟩
end
@[irreducible] def Fd (J:It) (g:TG) (tt:TT) (te:TE) (Q:VK) (σ0:St) (H0:Hp) (l:Addr):Prop:=∃W:Nat->YN,(∃m,W 0 m σ0 H0) /\
 ∀i m σ' H',W i m σ' H'->(J.stop i H'/\Q (.ref l) H')\/(J.go i H'/\∃N:YO,(∀ σ3 H3,N σ3 H3->∃m',m' < m/\W (i+1) m' σ3 H3)/\∀x H2,J.yld i H' x H2->g x σ' H2 fun σ3 H3=>tt σ3 H3 λb H4=>
  if b=true then te σ3 H4 λy H5=>∃xs,H5 l=some (.lst xs)/\xs.length < sizeLine/\N σ3 (upd H5 l (.lst (xs++[y]))) else N σ3 H4)
def YS (wi:TI) (src:List (Option Nat)) (g:TG) (tt:TT) (te:TE):TE:=fun U H Q=>wi U H λJ H1=>∀l,H1 l=none->Fd J g tt te Q (FN src U) (upd H1 l (.lst [])) l
theorem WK {X:Cx} {N':YF} {src:List (Option Nat)} {sc:Scope} {elt tg iter:Expr} {ifs:YJ} {pos pos':Pos} {wi:TI} {g:TG} {tt:TT} {te:TE} {use:Option (Value->Sem Unit)} {R:YA} (hc:X.calm=true) (S:Bo X N' src sc)
  (hi:PI X tg iter wi) (hg:∀s3 H3 fp pn,PG (cxC X N' sc s3 H3 fp pn) tg g) (ht:∀s3 H3 fp pn,PF (cxC X N' sc s3 H3 fp pn) ifs tt) (he:∀s3 H3 fp pn,PE (cxC X N' sc s3 H3 fp pn) elt te)
  (hs:∀x,foldedSetIterable iter X.env x=pure x) {jb:YC} {s:Shared} {U : St} {H:Hp} {Q:VK} (I:Inv X jb U H s) (h:YS wi src g tt te U H Q)
  (fin:∀s3 H3 fp σ4 H4 s5 l,Inv X jb U H3 s3->(∀b∈fp,CQ X jb H3 b)->Inv (cxC X N' sc s3 H3 fp (X.pn++jb)) [] σ4 H4 s5->Q (.ref l) H4 ->
   compPost (model X.prog X.w) X.A X.xe use R (.ref l) s3.heap.objs.size (.ok .next) s5) :
  wpAny (model X.prog X.w) X.A (comprehension (.ListComp elt [⟨tg,iter,ifs,0⟩] sc pos) sc X.env pos' (newList []) false (eval iter X.env) use) R X.xe s:=by
 refine wpAny_comprehension_free (use:=use) (cl:=Cy X.env sc.names []) rfl hs (JR λp hp e=>I.ok.has p.1 (S.fv p hp e)) S.kind S.loc ?_;refine thn (hi jb s U H _ I h) λv s1 h1=>thn h1 λitv s2 h2=>?_;obtain⟨it,fp,tn,J,H2,rfl,I2,T,st2,f2,q⟩:=h2;have q':=q s2.heap.objs.size (I2.hok.fresh (Qce _));unfold Fd at q';obtain⟨W,⟨m0,w0⟩,turn⟩:=q';refine Qbe (wpAny_newFunctionEnv S.Ew (by intro y hy;simp at hy) (λha hns hsb=>?_) S.kind);have I3:Inv X jb U (upd H2 s2.heap.objs.size (.lst [])) { s2 with heap:=s2.heap.push { cls:=.type "list",dict:=none,data:=.seq ([]:YE).toArray } }:=
  I2.laid (t':=s2.toks) (λb u e=>Qas _ e) (Qce _) ⟨Qcf _,[],0,.nil,QaG _ rfl⟩
 have hfl:∀b∈fp,b < s2.heap.objs.size:=λb hb=>by
  obtain⟨o,e,_⟩:=T.obj 0 _ st2 b hb;exact QbW e
 have f3:∀b∈fp,CQ X jb (upd H2 s2.heap.objs.size (.lst [])) b:=λb hb=>⟨by rw[Aj (QbX (hfl b hb))];exact (f2 b hb).1,(f2 b hb).2⟩;generalize hs3:({ s2 with heap:=s2.heap.push { cls:=.type "list",dict:=none,data:=.seq ([]:YE).toArray } }:Shared)=s3 at *;have hsz:s2.heap.objs.size < s3.heap.objs.size:=by rw[<-hs3];show s2.heap.objs.size < (s2.heap.push _).objs.size;rw[QbL];exact Qbp _
 have kp:∀b o,s3.heap.get? b=some o->ha.get? b=some o:=λb o e=>hsb.extBut b o (QbX (QbW e)) (Qas _ e);have st3:tn 0 ha:=T.keep 0 _ _ st2 λb hb o e=>kp b o (by rw[<-hs3];exact Qas _ e);have I4:Inv (cxC X N' sc s3 (upd H2 s2.heap.objs.size (.lst [])) fp (X.pn++jb)) [] (FN src U) (upd H2 s2.heap.objs.size (.lst [])) { s3 with heap:=ha,toks:=s3.toks+([]:List (Str×Value)).length }:=
  Mg S I3 f3 (λb hb=>Nat.lt_trans (hfl b hb) hsz) hns kp
 have loop:codeAny (model X.prog X.w) X.A (.compLoop (.ListComp elt [⟨tg,iter,ifs,0⟩] sc pos) 0 (.ref it) (.ref s2.heap.objs.size) (compEnvC sc (Cy X.env sc.names []) s3.heap.objs.size X.env))
   (compPost (model X.prog X.w) X.A X.xe use R (.ref s2.heap.objs.size) s3.heap.objs.size) { s3 with heap:=ha,toks:=s3.toks+([]:List (Str×Value)).length }:=by
  refine WD (λn s'=>∃i σ' H',Inv (cxC X N' sc s3 (upd H2 s2.heap.objs.size (.lst [])) fp (X.pn++jb)) [] σ' H' s'/\tn i s'.heap/\(∀b∈fp,H' b=none)/\W i n σ' H') ?_ m0 ⟨0,_,_,I4,st3,λb hb=>(f3 b hb).1,w0⟩;rintro n s4 ⟨i,σ4,H4,J4,st4,fr4,w4⟩;have stat:∀{H':Hp},(∀b∈fp,H' b=none)->∀b∈fp,CQ (cxC X N' sc s3 (upd H2 s2.heap.objs.size (.lst [])) fp (X.pn++jb)) [] H' b:=λhn b hb=>
   ⟨hn b hb,(I4.ok.exf b hb).1,I4.ok.Kw b hb,.inl hb,λx c e=>(I4.ok.exf b hb).2 x c e,λp hp=>(f3 b hb).2.2.2.2.2 p ((Qbv.mp hp).elim id λz=>by cases z)⟩
  rcases turn i n σ4 H4 w4 with⟨stop,qn⟩|⟨go,N,hN,step⟩
  ·refine thn (T.done (cxC X N' sc s3 (upd H2 s2.heap.objs.size (.lst [])) fp (X.pn++jb)) rfl rfl rfl hc i [] s4 σ4 H4 _ J4 (stat fr4) st4 stop) λr s5 zz=>?_;obtain⟨hr,J5⟩:=zz;subst hr;exact fin s3 _ fp σ4 H4 s5 _ I3 f3 J5 qn
  ·refine thn (T.item (cxC X N' sc s3 (upd H2 s2.heap.objs.size (.lst [])) fp (X.pn++jb)) rfl rfl rfl hc i [] s4 σ4 H4 _ J4 (stat fr4) st4 go) λr s5 zz=>?_;obtain⟨u,hr,h5⟩:=zz;subst hr;refine thn h5 λ_ s6 zz=>?_;obtain⟨x,H6,J6,r6,y6,st6,fr6⟩:=zz;have J6':=J6.pinned (stat fr6) (T.obj _ _ st6);have back:∀{pl:YC} {σ7:St} {H7:Hp} {s7:Shared},Inv (cxC X N' sc s3 (upd H2 s2.heap.objs.size (.lst [])) fp (X.pn++jb)) ([]++Gv fp s6.heap) σ7 H7 s7->N σ7 H7 ->
     ∃m',m' < n/\∃i σ' H',Inv (cxC X N' sc s3 (upd H2 s2.heap.objs.size (.lst [])) fp (X.pn++jb)) [] σ' H' s7/\tn i s7.heap/\(∀b∈fp,H' b=none)/\W i m' σ' H':=λ{pl σ7 H7 s7} J7 w7=>by
    obtain⟨m',hm,w7⟩:=hN _ _ w7;have pinned:∀b∈fp,∀o,s6.heap.get? b=some o->s7.heap.get? b=some o/\H7 b=none:=λb hb o e=>by
     have:=J7.pin (b,o) (Qav _ (Qav _ (DK hb e)));exact⟨this.1,this.2.1⟩
    refine⟨m',hm,i+1,σ7,H7,J7.DY,T.keep _ _ _ st6 λb hb o e=>(pinned b hb o e).1,λb hb=>?_,w7⟩;obtain⟨o,e,_⟩:=T.obj _ _ st6 b hb;exact (pinned b hb o e).2
   refine thn (hg s3 _ fp _ _ s6 σ4 H6 x u _ J6' r6 (step x H6 y6)) λ_ s7 zz=>?_;obtain⟨σ7,H7,J7,q7⟩:=zz;refine thn (ht s3 _ fp _ _ s7 σ7 H7 _ J7 q7) λok s8 zz=>?_;obtain⟨H8,J8,q8⟩:=zz;cases ok with
   | false=>
    rw[if_neg QaN] at q8 ⊢;exact back (pl:=[]) J8 q8
   | true=>
    rw[if_pos rfl] at q8 ⊢;refine thn (he s3 _ fp _ _ s8 σ7 H8 _ J8 q8) λy s9 zz=>?_;obtain⟨yv,H9,J9,r9,xs,hl9,hz9,q9⟩:=zz;refine thn (FJ _ s9 σ7 H9 (.ref s2.heap.objs.size) [yv] (.ref s2.heap.objs.size) [y] (λ_ H'=>N σ7 H') J9 rfl (.cons r9 .nil) ⟨_,xs,yv,rq,rq,hl9,hz9,q9⟩) λ_ s10 zz=>?_;obtain⟨_,H10,J10,_,q10⟩:=zz;exact back (pl:=[]) J10 q10
 exact codeAny_compStart_list loop (T.self X.A 0 _ _ _ st3 loop)
theorem Eo {X:Cx} {N':YF} {src:List (Option Nat)} {sc:Scope} {elt tg iter:Expr} {ifs:YJ} {pos:Pos} {wi:TI} {g:TG} {tt:TT} {te:TE} (hc:X.calm=true) (S:Bo X N' src sc)
  (hi:PI X tg iter wi) (hg:∀s3 H3 fp pn,PG (cxC X N' sc s3 H3 fp pn) tg g) (ht:∀s3 H3 fp pn,PF (cxC X N' sc s3 H3 fp pn) ifs tt) (he:∀s3 H3 fp pn,PE (cxC X N' sc s3 H3 fp pn) elt te)
  (hs:∀x,foldedSetIterable iter X.env x=pure x:=by intro _;rfl):PE X (.ListComp elt [⟨tg,iter,ifs,0⟩] sc pos) (YS wi src g tt te):=by
 intro jb s U H Q I h;rw[eval_ListComp];refine WK (use:=none) hc S hi hg ht he hs I h λs3 H3 fp σ4 H4 s5 l I3 f3 J5 q=>?_;obtain⟨m,hn,_⟩:=J5.loc;exact⟨m,hn,λh' sb=>⟨.ref l,H4,Nq I3 f3 J5 sb,rq,q⟩⟩
theorem Bo.of {X:Cx} {N':YF} {src:List (Option Nat)} {sc:Scope} (fsc:Scope) (N:YF) (hX:X.env.scope=fsc) (hN:X.N=N) (kind:sc.kind=.function) (Ew:∀y∈sc.names,y.2≠.cell) (loc:∀y∈sc.names,y.2=.local->sc.names.lookup y.1=some .local)
  (fv:∀y∈sc.names,y.2=.free->fsc.names.lookup y.1=some .cell) (len:src.length=N'.length)
  (sr:((N'.zip src).all λp=>match p.2 with | none=>true | some j=>decide (N[j]?=some p.1)&&decide (sc.names.lookup p.1=some .free))=true):Bo X N' src sc where
 kind:=kind
 Ew:=Ew
 loc:=loc
 fv:=λy hy e=>.inl (by show X.env.scope.names.lookup y.1=some .cell;rw[hX];exact fv y hy e)
 len:=len
 src:=λi x j e1 e2=>by
  rw[List.all_eq_true] at sr;have hm:(x,some j)∈N'.zip src:=by
   refine QaB (i:=i) ?_;rw[List.getElem?_zip_eq_some];exact⟨e1,e2⟩
  have:=sr _ hm;simp only[Qbo,decide_eq_true_eq] at this;rw[hN];exact this
section
variable {X:Cx}
@[irreducible] def N7 (K:YD):YG->Hp->VK->Prop:=λxs H Q=>∃x T t b,xs=[x,.ty T]/\Ga K H x t/\PySem.W.kitOne K t (.type T)=some b/\Q (.bl b) H
theorem Mi:CN X (.builtin "isinstance") (N7 X.K):=by
 intro jb s U H xs us Q I r h;unfold N7 at h;obtain⟨x,T,t,b,rfl,ty,e,q⟩:=h;obtain⟨u,w',rfl,rx,rt⟩:=vals2 r;cases rt;exact Wj I rx ty e λtk=>⟨.bl b,H,I.tok tk,rq,q⟩
def Kn (H:Hp):V->Prop
 | .non=>True
 | .bl _=>True
 | .int _=>True
 | .str _=>True
 | .ref a=>(∃xs,H a=some (.lst xs))\/∃xs,H a=some (.tup xs)
 | _=>False
theorem Kn.same {H H':Hp} {v:V} (s:Same H H') (k:Kn H v):Kn H' v:=by
 cases v with
 | ref a=>exact k.imp (λ⟨xs,e⟩=>⟨xs,s _ _ e⟩) λ⟨xs,e⟩=>⟨xs,s _ _ e⟩
 | _=>exact k
theorem RJ:∀{bs:List Bool} {us:YE},Vals (bs.map V.bl) us->LSm.BoolsAre us bs
 | [],_,.nil=>.nil
 | b::r,_,.cons h t=>by
  cases (show _=Value.bool b from h)
  exact .cons b (RJ t)
theorem Yo (hc:X.calm=true):CN X (.builtin "all") (λxs H Q=>∃(p:Addr) (bs:List Bool),xs=[.ref p]/\SqL X.K H p (bs.map V.bl)/\Q (.bl (bs.all id)) H):=by
 intro jb s U H xs us Q I r h;obtain⟨p,bs,rfl,hq,q⟩:=h;obtain⟨u,rfl,rx⟩:=vals1 r;cases rx;obtain⟨its,rv,pl,hz⟩:=I.list hq;have hb:=RJ rv;have hl:=pl.isList;have hlt:p < s.heap.objs.size:=by obtain⟨_,e,_⟩:=hl;exact QbW e
 refine call_all_walk (wpAny_pyIter_list hl ?_);refine⟨s.heap.objs.size,[s.heap.objs.size,p],[s.heap.objs.size],its.toArray.size,_,_,λi=>(bs[i]?).getD true,rq,Walks.list (A:=X.A.in1) (I.ok.hd hc) _ p (QbX hlt) its.toArray,
  ⟨⟨_,QaG _ rfl,rq,rq⟩,hl.push _⟩,λi v s' Q' E' hP hQ=>?_,λh' tk hk=>?_⟩
 ·obtain⟨b,e,rfl⟩:=hb.get i v (by simpa using hP);simp only[e,Option.getD_some] at hQ;exact wpAny_truthy_bool hQ
 ·have e:((List.range its.toArray.size).all λi=>(bs[i]?).getD true)=bs.all id:=by
   rw[Qbc,hb.length];exact LSm.range_all bs
  rw[e];exact⟨.bl (bs.all id),H,I.kept (LSm.kept_iter hk),rq,q⟩
mutual
inductive Rep (H:Hp):V->PyData->Prop
 | non:Rep H .non .none
 | bl (b:Bool):Rep H (.bl b) (.bool b)
 | int (i:Int):Rep H (.int i) (.int i)
 | str (x:Str):Rep H (.str x) (.str x)
 | tup {a:Addr} {xs:YG} {ds:List PyData}:H a=some (.tup xs)->Bv H xs ds->Rep H (.ref a) (.tuple ds)
 | lst {a:Addr} {xs:YG} {ds:List PyData}:H a=some (.lst xs)->Bv H xs ds->Rep H (.ref a) (.list ds)
inductive Bv (H:Hp):YG->List PyData->Prop
 | nil:Bv H [] []
 | cons {x:V} {d:PyData} {xs:YG} {ds:List PyData}:Rep H x d->Bv H xs ds->Bv H (x::xs) (d::ds)
end
mutual
theorem Rep.reads {P:Program} {w:World} {H:Hp} {h:Heap} (ok:HOk P w H h):∀{v:V} {d:PyData} {u:Value},Rep H v d->RelV v u->∃as,Reads h u d as
 | _,_,_,.non,r=>by cases (show _=Value.none from r);exact⟨_,.none⟩
 | _,_,_,.bl b,r=>by cases (show _=Value.bool b from r);exact⟨_,.bool b⟩
 | _,_,_,.int i,r=>by obtain⟨t,rfl⟩:=(show ∃t,_=Value.int i t from r);exact⟨_,.int i t⟩
 | _,_,_,.str x,r=>by obtain⟨t,rfl⟩:=(show ∃t,_=Value.str x t from r);exact⟨_,.str x t⟩
 | _,_,_,.tup (a:=a) (xs:=xs) e q,r=>by
  cases (show _=Value.ref a from r)
  obtain⟨_,its,rv,o,ho,hc,n,hd⟩:=(show Az P w H h a (.tup xs) from ok a _ e)
  obtain⟨as,z⟩:=Bv.reads ok q rv;exact⟨_,.tuple ho hc hd (by simpa using z)⟩
 | _,_,_,.lst (a:=a) (xs:=xs) e q,r=>by
  cases (show _=Value.ref a from r)
  obtain⟨_,its,n,rv,ho⟩:=(show Az P w H h a (.lst xs) from ok a _ e)
  obtain⟨as,z⟩:=Bv.reads ok q rv;exact⟨_,.list ho rfl rfl (by simpa using z)⟩
theorem Bv.reads {P:Program} {w:World} {H:Hp} {h:Heap} (ok:HOk P w H h):∀{xs:YG} {ds:List PyData} {us:YE},Bv H xs ds->Vals xs us->∃as,ReadsAll h us ds as
 | _,_,_,.nil,.nil=>⟨_,.nil⟩
 | _,_,_,.cons p q,.cons r t=>by
  obtain⟨as,a1⟩:=Rep.reads ok p r;obtain⟨bs,b1⟩:=Bv.reads ok q t;exact⟨_,.cons a1 b1⟩
end
theorem V5 (hu:X.A.units+64 < cLine):OpR X (compareOp .Eq) (λx y H Q=>∃d e,Rep H x d/\Rep H y e/\SeqAt.shaped d=true/\SeqAt.shaped e=true/\Q (.bl (PyData.eqv d e)) H):=by
 intro jb s U H x y v u Q I rx ry h;obtain⟨d,e,p,p',sd,se,q⟩:=h;obtain⟨as,r1⟩:=p.reads I.hok rx;obtain⟨bs,r2⟩:=p'.reads I.hok ry;exact eq_dataH r1 r2 sd se hu ⟨.bl (PyData.eqv d e),H,I,rq,q⟩
theorem V4 (hu:X.A.units+64 < cLine):OpR X (compareOp .NotEq) (λx y H Q=>∃d e,Rep H x d/\Rep H y e/\SeqAt.shaped d=true/\SeqAt.shaped e=true/\Q (.bl (!PyData.eqv d e)) H):=by
 intro jb s U H x y v u Q I rx ry h;obtain⟨d,e,p,p',sd,se,q⟩:=h;obtain⟨as,r1⟩:=p.reads I.hok rx;obtain⟨bs,r2⟩:=p'.reads I.hok ry;exact ne_dataH r1 r2 sd se hu ⟨.bl (!PyData.eqv d e),H,I,rq,q⟩
end
structure Code (K:YD) (mg:YB) (x:Str) (st:Stmt) (ps:YF):Prop where
 ex:∃(f:Addr) (fd:FuncData),Fun K x x st f fd/\mg x=some (.ref f)/\Binds K fd ps []
structure Good (P:Program) (w:World) (K:YD) (mg:YB) (base:Heap) (x:Str) (k:Nat) (ps:YF) (sp:Sp):Prop where
 ex:∃(f:Addr) (fd:FuncData),mg x=some (.ref f)/\keepIn K (.ref f)=true/\Binds K fd ps []/\Ej P w K mg base CX0 k f fd ps sp
theorem Code.good {P:Program} {w:World} {K:YD} {mg:YB} {base:Heap} {x:Str} {st:Stmt} {ps N:YF} {k:Nat} {sp:Sp} (C:Code K mg x st ps) (S:Bf N ps (Al st)) (len:∀vs H Q E,sp vs H Q E->vs.length=ps.length)
  (hbody:∀(f:Addr) (cdv:Value) (A:Around) (outer:List Env) (s:Shared) (H:Hp) (vs:YG) (Q:VK) (E:XK),Cz k (A.deeper (envOfC x (Al st) s.heap.objs.size f cdv))->sp vs H Q E ->
   ∃t,PSs (Kz CX0 P w K mg base N x (Al st) f cdv A outer s H E).nox (Cp st) t/\t { nx:=λ_ H'=>Q .non H',rt:=Q } (start N vs) H):Good P w K mg base x (k+1) ps sp:=by
 obtain⟨f,fd,F,m,b⟩:=C.ex;exact⟨f,fd,m,F.kp,b,F.ok S len λcdv A outer s H vs Q E hr h=>hbody f cdv A outer s H vs Q E hr h⟩
theorem Ba {X:Cx} {k k':Nat} {ps:YF} {sp:Sp} {x:Str} {p pos:Pos} {e:Expr} {es:YJ} {t:TA} (g:Good X.prog X.w X.K X.mg X.base x k ps sp) (hr:Cz k' X.A) (ha:PA X (e::es) t) (hk:k<=k':=by decide) (hg:Gl X x:=by rfl)
  (hdb:(x == ("__debug__":Str))=false:=by decide) (he:starEach (e::es) X.env=(false,eval e X.env)::starEach es X.env:=by rfl) (hpl:(backTo pos (starEach es X.env)).any (·.1)=false:=by rfl) :
  PE X (.Call (.Name x p) (e::es) [] pos) (YT sp [] E0 t):=by
 intro jb s U H Q I h;obtain⟨f,fd,m,kp,b,F⟩:=g.ex;exact Zy F (hr.mono hk) hg m kp b .nil dB ha hdb he hpl jb s U H Q I h
theorem Code.of {K:YD} {mg:YB} {h:Heap} {x:Str} {st:Stmt} {ps:YF} {f:Addr} {oc:Value} {od an:Option Addr} {osl:YI} {kV doc pm cdv ct:Value} (X:K.In h) (G:h.Ns mainGlobals mg)
  (a:nsIn K mainGlobals x=some (some (.ref f))) (l:K.lookup f=some ⟨oc,od,.func (fnOf x x (Ds st) (Cp st) (Al st) .none kV doc pm an cdv ct),osl⟩) (c:codeIn K cdv x=true) (k:keepIn K (.ref f)=true)
  (hb:∀(kV doc pm:Value) (an:Option Addr) (cdv ct:Value) (us:YE),us.length=ps.length->bindArgs (fnOf x x (Ds st) (Cp st) (Al st) .none kV doc pm an cdv ct) ⟨us,[]⟩=pure (ps.zip us)):Code K mg x st ps:=by
 have F:=Wu (st:=st) l c k;exact⟨f,_,F,PySem.W.mg_of X G a,F.binds hb⟩
theorem Ad {H:Hp} {p:Addr} (h:H p=none) (o:HO):Same H (upd H p o):=λb u q=>by rw[Aj (Ar q h)];exact q
theorem Bo.plain {X:Cx} {N':YF} {sc:Scope} (kind:sc.kind=.function) (Ew:∀y∈sc.names,y.2≠.cell) (loc:∀y∈sc.names,y.2=.local->sc.names.lookup y.1=some .local) (QW:∀y∈sc.names,y.2≠.free) :
  Bo X N' (N'.map λ_=>none) sc where
 kind:=kind
 Ew:=Ew
 loc:=loc
 fv:=λy hy e=>absurd e (QW y hy)
 len:=by simp
 src:=λi x j _ e=>by
  rw[Qbd] at e;cases q:N'[i]? with
  | none=>rw[q] at e;cases e
  | some z=>rw[q] at e;cases e
theorem jm {K:YD} {a l:Addr} {xs:YG} {g:TG} {tt:TT} {te:TE} {Q:VK} {σ0:St} {H0:Hp} (Pv:YN)
  (h0:Pv 0 σ0 H0) (hl:∀i U H',i<=xs.length->Pv i U H'->SqT K H' a xs)
  (hs:∀i x U H',xs[i]?=some x->Pv i U H'->g x U H' fun σ3 H3=>tt σ3 H3 λb H4=>if b=true then te σ3 H4 λy H5=>∃ys,H5 l=some (.lst ys)/\ys.length < sizeLine/\Pv (i+1) σ3 (upd H5 l (.lst (ys++[y]))) else Pv (i+1) σ3 H4)
  (hd:∀ U H',Pv xs.length U H'->Q (.ref l) H'):Fd (Itt K a) g tt te Q σ0 H0 l:=by
 unfold Fd;refine⟨λi m U H'=>m=xs.length - i/\i<=xs.length/\Pv i U H',⟨xs.length,by simp,Qcf _,h0⟩,?_⟩;rintro i m U H' ⟨rfl,hi,p⟩;have q:=hl i U H' hi p;by_cases hlt:i < xs.length
 ·refine .inr ⟨⟨xs,xs[i],q,by simp[hlt]⟩,Pv (i+1),fun σ3 H3 p'=>⟨xs.length - (i+1),by omega,rq,hlt,p'⟩,λx H2 y=>?_⟩;obtain⟨e,y⟩:=y;subst e;exact hs i x U _ (y xs q) p
 ·have e:i=xs.length:=by omega
  subst e;exact .inl ⟨⟨xs,q,Qce _⟩,hd U H' p⟩
theorem GK {K:YD} {a l:Addr} {xs:YG} {g:TG} {tt:TT} {te:TE} {Q:VK} {σ0:St} {H0:Hp} (Pv:YN)
  (h0:Pv 0 σ0 H0) (hl:∀i U H',i<=xs.length->Pv i U H'->SqL K H' a xs)
  (hs:∀i x U H',xs[i]?=some x->Pv i U H'->g x U H' fun σ3 H3=>tt σ3 H3 λb H4=>if b=true then te σ3 H4 λy H5=>∃ys,H5 l=some (.lst ys)/\ys.length < sizeLine/\Pv (i+1) σ3 (upd H5 l (.lst (ys++[y]))) else Pv (i+1) σ3 H4)
  (hd:∀ U H',Pv xs.length U H'->Q (.ref l) H'):Fd (Itl K a) g tt te Q σ0 H0 l:=by
 unfold Fd;refine⟨λi m U H'=>m=xs.length - i/\i<=xs.length/\Pv i U H',⟨xs.length,by simp,Qcf _,h0⟩,?_⟩;rintro i m U H' ⟨rfl,hi,p⟩;have q:=hl i U H' hi p;by_cases hlt:i < xs.length
 ·refine .inr ⟨⟨xs,xs[i],q,by simp[hlt]⟩,Pv (i+1),fun σ3 H3 p'=>⟨xs.length - (i+1),by omega,rq,hlt,p'⟩,λx H2 y=>?_⟩;obtain⟨e,y⟩:=y;subst e;exact hs i x U _ (y xs q) p
 ·have e:i=xs.length:=by omega
  subst e;exact .inl ⟨⟨xs,q,Qce _⟩,hd U H' p⟩
theorem U6 {lo:Int} {n:Nat} {l:Addr} {g:TG} {tt:TT} {te:TE} {Q:VK} {σ0:St} {H0:Hp} (Pv:YN) (h0:Pv 0 σ0 H0)
  (hs:∀i U H',i < n->Pv i U H'->g (.int (lo+i)) U H' fun σ3 H3=>tt σ3 H3 λb H4=>if b=true then te σ3 H4 λy H5=>∃ys,H5 l=some (.lst ys)/\ys.length < sizeLine/\Pv (i+1) σ3 (upd H5 l (.lst (ys++[y]))) else Pv (i+1) σ3 H4)
  (hd:∀ U H',Pv n U H'->Q (.ref l) H'):Fd (Itr lo n) g tt te Q σ0 H0 l:=by
 unfold Fd;refine⟨λi m U H'=>m=n - i/\i<=n/\Pv i U H',⟨n,by simp,Qcf _,h0⟩,?_⟩;rintro i m U H' ⟨rfl,hi,p⟩;by_cases hlt:i < n
 ·refine .inr ⟨hlt,Pv (i+1),fun σ3 H3 p'=>⟨n - (i+1),by omega,rq,hlt,p'⟩,λx H2 y=>?_⟩;obtain⟨e,y⟩:=y;subst e y;exact hs i U _ hlt p
 ·have e:i=n:=by omega
  subst e;exact .inl ⟨Qce _,hd U H' p⟩
section
variable {X:Cx}
theorem IK:∀{ys:YF} {us:YE},Vals (ys.map V.str) us->StrsAre us ys
 | [],_,.nil=>.nil
 | y::r,_,.cons h t=>by
  obtain⟨t',e⟩:=(show ∃t,_=Value.str y t from h)
  cases e;exact .cons y t' (IK t)
def rJoin (K:YD):V->YG->Hp->VK->Prop:=λx vs H Q=>∃(z:Str) (p:Addr) (ys:YF),x=.str z/\vs=[.ref p]/\SqL K H p (ys.map V.str)/\(ys.map (·.length)).sum+ys.length*z.length<=16777216/\Q (.str (Txt.join z ys)) H
theorem ZM:MtR X "str.join" (rJoin X.K):=by
 intro jb s U H x vs v us Q I rx rv h;obtain⟨z,p,ys,rfl,rfl,hq,hz,q⟩:=h;obtain⟨t,rfl⟩:=rx;obtain⟨u,rfl,ru⟩:=rv.one;cases ru;obtain⟨its,r',pl,_⟩:=I.list hq;exact join_list pl.isList (IK r') hz λt' k=>⟨.str (Txt.join z ys),H,I.tok k,⟨t',rq⟩,q⟩
def Its (z:Str):It:=⟨λi _=>i < z.cps.size,λi H x H'=>H'=H/\∃c,z.cps[i]?=some c/\x=.str ⟨#[c]⟩,λi _=>i=z.cps.size⟩
def ig (tl:TE):TI:=fun U H R=>tl U H λx H1=>∃z,x=.str z/\R (Its z) H1
end
section
variable {X:Cx} {tg:Expr}
theorem Qp {P:Program} {w:World} {K:YD} {tg:Expr} (z:Str) (t:Tok) (it:Addr) (ty:String) (hty:["enumerate","zip","dict_itemiterator","dict_reverseitemiterator","odict_iterator","itertools.zip_longest","itertools.pairwise"].contains ty=false)
  (W:∀A':Around,A'.handled=none->Walks P w A' it [it] [it] z.cps.size (SignAt z) (λi h=>h.IsStrIter it ty z t i))
  (hself:∀(A:Around) (i:Nat) (s:Shared) (Q:YA) (E:YA),s.heap.IsStrIter it ty z t i->Q (.ref it) s->wpAny (model P w) A (pyIter (.ref it)) Q E s) :
  Turn P w K tg (Its z) [it] it (λi h=>h.IsStrIter it ty z t i) where
 mem:=QaP.mpr rfl
 obj:=λi h st b hb=>by
  cases QaP.mp hb;obtain⟨o,e,c,d⟩:=st;exact⟨o,e,λv z'=>by rw[d] at z';cases z'⟩
 keep:=λi h h' st k=>by
  obtain⟨o,e,r⟩:=st;exact⟨o,k it (QaP.mpr rfl) o e,r⟩
 item:=by
  intro X hP hw hK hc i jb s U H E I hf st hg;subst hP hw hK;obtain⟨f0,f1,f2,f3,f4,f5⟩:=hf it (QaP.mpr rfl);refine (W X.A (I.ok.hd hc)).item i s _ _ hg st λv h' tk hv st' kk=>?_;obtain⟨c,u,hcu,rfl⟩:=hv;have I1:Inv X jb U H { s with heap:=h',toks:=tk }:=I.turned (λb o hb e=>kk b o (λhm=>hb (QaP.mp hm)) e) f0 f1 f3 f4 f5;obtain⟨o,e,cl,d⟩:=id st';exact⟨_,rq,Nj (s:={ s with heap:=h',toks:=tk }) e cl d hty ⟨.str ⟨#[c]⟩,H,I1,⟨u,rq⟩,⟨rq,c,hcu,rq⟩,st',λb hb=>(hf b hb).1⟩⟩
 done:=by
  intro X hP hw hK hc i jb s U H E I hf st hg;subst hP hw hK;obtain⟨f0,f1,f2,f3,f4,f5⟩:=hf it (QaP.mpr rfl);cases (show i=z.cps.size from hg)
  exact (W X.A (I.ok.hd hc)).done s _ _ st λh' tk kk=>⟨rq,I.turned (λb o hb e=>kk b o (λhm=>hb (QaP.mp hm)) e) f0 f1 f3 f4 f5⟩
 self:=λA i s Q E st h=>hself A i s Q E st h
theorem aW {l:Expr} {tl:TE} (hl:PE X l tl):PI X tg l (ig tl):=by
 intro jb s U H R I h;refine thn (hl jb s U H _ I h) λv s1 zz=>?_;obtain⟨x,H1,I1,r1,z,e,q⟩:=zz;subst e;obtain⟨t,rfl⟩:=r1;have fp:∀o:Obj,∀b∈[s1.heap.objs.size],CQ X jb H1 b:=λo b hb=>by
  cases QaP.mp hb;exact I1.Kv (Qce _) (I1.hok.fresh (Qce _))
 cases ha:z.cps.all (· < 128) with
 | true=>
  refine wpAny_pyIter_ascii ha ?_;exact⟨s1.heap.objs.size,[s1.heap.objs.size],_,_,H1,rq,I1.kept (t':=s1.toks) λb o e=>Qas _ e,Qp z t _ "str_ascii_iterator" (by decide) (λA' hA=>Walks.strAscii hA _ z t) (λ_ _ _ _ _ st h=>wpAny_pyIter_striter_ascii st h),
   ⟨_,QaG _ rfl,rq,rq⟩,fp { cls:=.none,data:=.fields #[] },q⟩
 | false=>
  refine wpAny_pyIter_wide ha ?_;exact⟨s1.heap.objs.size,[s1.heap.objs.size],_,_,H1,rq,I1.kept (t':=s1.toks) λb o e=>Qas _ e,Qp z t _ "str_iterator" (by decide) (λA' hA=>Walks.strWide hA _ z t) (λ_ _ _ _ _ st h=>wpAny_pyIter_striter_wide st h),
   ⟨_,QaG _ rfl,rq,rq⟩,fp { cls:=.none,data:=.fields #[] },q⟩
theorem Yl {z:Str} {l:Addr} {g:TG} {tt:TT} {te:TE} {Q:VK} {σ0:St} {H0:Hp} (Pv:YN) (h0:Pv 0 σ0 H0)
  (hs:∀i c U H',z.cps[i]?=some c->Pv i U H'->g (.str ⟨#[c]⟩) U H' fun σ3 H3=>tt σ3 H3 λb H4=>if b=true then te σ3 H4 λy H5=>∃ys,H5 l=some (.lst ys)/\ys.length < sizeLine/\Pv (i+1) σ3 (upd H5 l (.lst (ys++[y]))) else Pv (i+1) σ3 H4)
  (hd:∀ U H',Pv z.cps.size U H'->Q (.ref l) H'):Fd (Its z) g tt te Q σ0 H0 l:=by
 unfold Fd;refine⟨λi m U H'=>m=z.cps.size - i/\i<=z.cps.size/\Pv i U H',⟨z.cps.size,by simp,Qcf _,h0⟩,?_⟩;rintro i m U H' ⟨rfl,hi,p⟩;by_cases hlt:i < z.cps.size
 ·refine .inr ⟨hlt,Pv (i+1),fun σ3 H3 p'=>⟨z.cps.size - (i+1),by omega,rq,hlt,p'⟩,λx H2 y=>?_⟩;obtain⟨e,c,hc,rfl⟩:=y;subst e;exact hs i c U _ hc p
 ·have e:i=z.cps.size:=by omega
  subst e;exact .inl ⟨rq,hd U H' p⟩
end
end L2
namespace HT
open PySem PyProof.Rows
section
variable {prog:Program} {w:World} {A:Around} {E:YA} {s:Shared}
theorem Lg {t sl:Addr} {items:Array Value} {vl vu:Value} {lo hi:Option Int} {Q:YA} (ht:IsTup s.heap t items) (hs:s.heap.IsSliceOf sl vl vu .none) (pl:IsPart vl lo) (pu:IsPart vu hi)
  (hw:sIx items.size 0 lo=0/\sIx items.size items.size hi=items.size) (h:Q (.ref t) s):wpAny (model prog w) A (getItem (.ref t) (.ref sl)) Q E s:=by
 obtain⟨os,hos,hcs,hds⟩:=id hs;have hTs:s.TypeIs (.ref sl) "slice":=⟨os,hos,hcs⟩;unfold getItem
 try with_reducible refine QbR ?_
 first | refine Qci (Qcj ?_) | skip
 refine Qci (wpAny_sequenceKey ht.typeIs (by decide) ?_);refine Qci (Qao (name:=Str.ofString "__getitem__") ht.typeIs Qab (Qbn Qab ht.typeIs entry_tuple_getitem ?_ (args_tuple_getitem _ _)));show wpAny _ _ (Builtin.Tuple.tupleItemsOf (.ref t) >>= _) _ _ s;refine Qci (tupleItemsOf_ ht ?_);refine Qci (Qcd hTs ?_);rw[if_pos (by decide)];refine Qci (Hh hs pl pu ?_);rw[hw.1,hw.2];show wpAny _ _ (if (((0:Nat):Int) == 0&&(1:Int) == 1&&(items.size - 0) == items.size)=true then _ else _) _ _ s
 rw[if_pos (by simp)];refine Qci ?_;unfold Builtin.Tuple.tupleIsExact;refine Qci (Qcd ht.typeIs (Qcj ?_));rw[if_pos (by decide)];exact Qci (Qcl (Qcj ⟨_,rq,Qcj h⟩))
end
end HT
namespace L2
open PySem PySem.Spec PyProof.Rows
section
variable {X:Cx}
theorem NQ:SlR X (λx lo hi H Q=>∃a xs,x=.ref a/\H a=some (.tup xs)/\∀p H',H' p=some (.tup (Cr xs lo hi))->Same H H'->Q (.ref p) H'):=by
 intro jb s U H x v vl vu lo hi sl Q I rx hs pl pu h;obtain⟨a,xs,rfl,hx,q⟩:=h;by_cases hw:HT.sIx xs.length 0 lo=0/\HT.sIx xs.length xs.length hi=xs.length
 ·cases rx;obtain⟨its,r,ht,hz⟩:=I.tuple (SqT.of hx);have hlen:its.toArray.size=xs.length:=by rw[Qbc];exact r.length.symm
  refine⟨"tuple",_,Qab.lookup,ht.typeIs,?_⟩;refine HT.Lg ht hs pl pu (by rw[hlen];exact hw) ⟨.ref a,H,I,rq,q a H ?_ (Same.refl H)⟩;have e:Cr xs lo hi=xs:=by unfold Cr;rw[hw.1,hw.2];simp
  rw[e];exact hx
 ·exact aM jb s U H _ v vl vu lo hi sl Q I rx hs pl pu ⟨a,xs,rq,SqT.of hx,hw,λp hp=>q p _ Ab (λc o e=>by rw[Aj (Ar e hp)];exact e)⟩
theorem VD:SlR X (λx lo hi H Q=>∃z,x=.str z/\z.length<=sizeLine/\Q (.str (Txt.slice z lo hi)) H):=by
 intro jb s U H x v vl vu lo hi sl Q I rx hs pl pu h;obtain⟨z,rfl,hz,q⟩:=h;obtain⟨t,rfl⟩:=rx;refine⟨"str",_,F.slot_str_getitem.lookup,typeIs_str _ _ _,?_⟩;have fin:∀t' k,EP X jb U Q (.str (Txt.slice z lo hi) t') { s with toks:=k }:=λt' k=>⟨.str (Txt.slice z lo hi),H,I.tok k,⟨t',rq⟩,q⟩;cases pl with
 | none=>
  cases pu with
  | none=>exact Qaq (l:=none) (u:=none) (st:=none) hs rfl (post_val_or_str ⟨QbY (Txt.slice_le z _ _) hz,fin⟩)
  | int j tj=>exact Qaq (l:=none) (u:=some (j,tj)) (st:=none) hs rfl (post_val_or_str ⟨QbY (Txt.slice_le z _ _) hz,fin⟩)
 | int i ti=>
  cases pu with
  | none=>exact Qaq (l:=some (i,ti)) (u:=none) (st:=none) hs rfl (post_val_or_str ⟨QbY (Txt.slice_le z _ _) hz,fin⟩)
  | int j tj=>exact Qaq (l:=some (i,ti)) (u:=some (j,tj)) (st:=none) hs rfl (post_val_or_str ⟨QbY (Txt.slice_le z _ _) hz,fin⟩)
end
structure Zf (K:YD) (C:Addr) (m qn:Str) (st:Stmt) (ps:YF):Prop where
 ex:∃(f:Addr) (fd:FuncData),Fun K m qn st f fd/\Meth K C m f/\Binds K fd ps []
structure dZ (P:Program) (w:World) (K:YD) (mg:YB) (base:Heap) (C:Addr) (m:Str) (k:Nat) (ps:YF) (sp:Sp):Prop where
 ex:∃(f:Addr) (fd:FuncData),Meth K C m f/\Binds K fd ps []/\Ej P w K mg base CX0 k f fd ps sp
theorem Zf.good {P:Program} {w:World} {K:YD} {mg:YB} {base:Heap} {C:Addr} {m qn:Str} {st:Stmt} {ps N:YF} {k:Nat} {sp:Sp} (c:Zf K C m qn st ps) (S:Bf N ps (Al st)) (len:∀vs H Q E,sp vs H Q E->vs.length=ps.length)
  (hbody:∀(f:Addr) (cdv:Value) (A:Around) (outer:List Env) (s:Shared) (H:Hp) (vs:YG) (Q:VK) (E:XK),Cz k (A.deeper (envOfC qn (Al st) s.heap.objs.size f cdv))->sp vs H Q E ->
   ∃t,PSs (Kz CX0 P w K mg base N qn (Al st) f cdv A outer s H E).nox (Cp st) t/\t { nx:=λ_ H'=>Q .non H',rt:=Q } (start N vs) H):dZ P w K mg base C m (k+1) ps sp:=by
 obtain⟨f,fd,F,M,b⟩:=c.ex;exact⟨f,fd,M,b,F.ok S len λcdv A outer s H vs Q E hr h=>hbody f cdv A outer s H vs Q E hr h⟩
theorem aZ {X:Cx} {x:Str} {v:V} {pos:Pos} (hg:Gl X x) (hm:∃u,X.mg x=some u/\RelV v u) (hd:(x == ("__debug__":Str))=false:=by decide):PE X (.Name x pos) (tC v):=by
 obtain⟨u,h,r⟩:=hm;exact Zx hg h r hd
def Aq (H H':Hp):Prop:=∀c xs,H c=some (.tup xs)->H' c=some (.tup xs)
theorem Aq.refl (H:Hp):Aq H H:=λ_ _ e=>e
theorem Aq.trans {H H1 H2:Hp} (a:Aq H H1) (b:Aq H1 H2):Aq H H2:=λc xs e=>b c xs (a c xs e)
theorem Aq.of {H H1:Hp} (s:Same H H1):Aq H H1:=λc xs e=>s c _ e
theorem Aq.upd {H:Hp} {b:Addr} {o:HO} (h:∀xs,H b≠some (.tup xs)):Aq H (upd H b o):=λc xs e=>by
 have n:c≠b:=λz=>h xs (z ▸ e);rw[Aj n];exact e
def Af (b:Addr) (H H':Hp):Prop:=∀c o,H c=some o->c≠b->H' c=some o
theorem Af.trans {b:Addr} {H H1 H2:Hp} (x:Af b H H1) (y:Af b H1 H2):Af b H H2:=λc o e n=>y c o (x c o e n) n
theorem Af.of {b:Addr} {H H1:Hp} (x:Same H H1):Af b H H1:=λc o e _=>x c o e
theorem Af.refl (b:Addr) (H:Hp):Af b H H:=λ_ _ e _=>e
theorem Af.upd {b:Addr} {H:Hp} {o:HO}:Af b H (upd H b o):=λc u e n=>by rw[Aj n];exact e
theorem Af.tup {b:Addr} {H H':Hp} (x:Af b H H') (h:∀xs,H b≠some (.tup xs)):Aq H H':=λc xs e=>x c _ e λz=>h xs (z ▸ e)
theorem Af.free {b:Addr} {H H':Hp} (x:Af b H H') (hb:∃o,H' b=some o) {l:Addr} (h:H' l=none):H l=none:=by
 cases e:H l with
 | none=>rfl
 | some o=>
  by_cases n:l=b
  ·obtain⟨o',e'⟩:=hb;rw[n,e'] at h;cases h
  ·rw[x l o e n] at h;cases h
section
variable {X:Cx} {o e value:Expr} {f:Str} {pos pos' tpos:Pos} {ta tv:TE}
end
section
variable {X:Cx} {K:YD}
theorem K9 (h:X.K=K):IxR X (aR K):=h ▸ Ck
theorem JC (h:X.K=K):OpR X (compareOp .In) (rIn K false):=h ▸ Ib
theorem JV (h:X.K=K):OpR X (compareOp .NotIn) (rIn K true):=h ▸ Hs
end
end L2
namespace PySem
open Sem (wp)
section
variable {prog:Program} {w:World} {A:Around} {E:YA} {s:Shared}
end
end PySem
namespace L2
open PySem PySem.Spec PyProof.Rows
section
variable {X:Cx} {pos:Pos}
end
theorem Pg {α : Type}:∀{l:List α} {i:Nat} {a:α},l.Nodup->a∉l->(l.set i a).Nodup
 | [],_,_,h,_=>by simpa using h
 | x::r,0,a,h,n=>by
  rw[QbB] at h;rw[QaW,QbB];exact⟨λz=>n (QaC _ z),h.2⟩
 | x::r,i+1,a,h,n=>by
  rw[QbB] at h;rw[QaX,QbB];refine⟨λz=>?_,Pg h.2 λz=>n (QaC _ z)⟩;rcases List.mem_or_eq_of_mem_set z with z | z
  ·exact h.1 z
  ·exact n (z ▸ QaO)
structure Has (H:Hp) (l:List (Addr×HO)):Prop where
 nd:(l.map (·.1)).Nodup
 at_:∀x∈l,H x.1=some x.2
theorem Has.get {H:Hp} {l:List (Addr×HO)} (h:Has H l) {i:Nat} {a:Addr} {o:HO} (e:l[i]?=some (a,o)):H a=some o:=h.at_ (a,o) (QaB e)
theorem Has.same {H H':Hp} {l:List (Addr×HO)} (h:Has H l) (s:Same H H'):Has H' l:=⟨h.nd,λx hx=>s _ _ (h.at_ x hx)⟩
theorem Has.Mx {H H':Hp} {l:List (Addr×HO)} {b:Addr} (h:Has H l) (s:Af b H H') (n:b∉l.map (·.1)):Has H' l:=⟨h.nd,λx hx=>s _ _ (h.at_ x hx) λz=>n (z ▸ QbZ.mpr ⟨x,hx,rfl⟩)⟩
theorem Has.dH {H:Hp} {l:List (Addr×HO)} {a:Addr} (h:Has H l) (e:H a=none):a∉l.map (·.1):=λz=>by
 obtain⟨x,hx,rfl⟩:=QbZ.mp z;rw[h.at_ x hx] at e;cases e
theorem map_set {l:List (Addr×HO)} {i:Nat} {a:Addr} {o:HO}:(l.set i (a,o)).map (·.1)=(l.map (·.1)).set i a:=by rw[List.map_set]
theorem Has.set {H H':Hp} {l:List (Addr×HO)} (h:Has H l) (i:Nat) {a:Addr} {o o':HO} (e:l[i]?=some (a,o)) (s:Af a H H') (e':H' a=some o'):Has H' (l.set i (a,o')):=by
 have em:(l.map (·.1))[i]?=some a:=by rw[Qbd,e];rfl
 have hi:=(Qag.mp e).1;refine⟨?_,λx hx=>?_⟩
 ·rw[map_set];have:(l.map (·.1)).set i a=l.map (·.1):=by
   obtain⟨h1,h2⟩:=Qag.mp em;rw[<-h2];exact List.set_getElem_self h1
  rw[this];exact h.nd
 ·obtain⟨j,hj,ex⟩:=List.mem_iff_getElem.mp hx;rw[List.getElem_set] at ex;by_cases q:i=j
  ·rw[if_pos q] at ex;subst ex;exact e'
  ·rw[if_neg q] at ex;have hj':j < l.length:=by simpa using hj
   have hm:x∈l:=ex ▸ Qbq hj';refine s _ _ (h.at_ x hm) λz=>q ?_;have ej:(l.map (·.1))[j]?=some a:=by rw[Qbd,Qal hj'];rw[<-z,<-ex];rfl
   obtain⟨h1,h2⟩:=Qag.mp em;obtain⟨h3,h4⟩:=Qag.mp ej;exact (List.getElem_inj h.nd).mp (h2.trans h4.symm)
theorem Has.put {H:Hp} {l:List (Addr×HO)} (h:Has H l) (i:Nat) {a:Addr} {o:HO} (n:a∉l.map (·.1)) (e:H a=some o):Has H (l.set i (a,o)):=by
 refine⟨by rw[map_set];exact Pg h.nd n,λx hx=>?_⟩;rcases List.mem_or_eq_of_mem_set hx with z | z
 ·exact h.at_ x z
 ·rw[z];exact e
theorem Has.new {H H':Hp} {l:List (Addr×HO)} {a:Addr} {o:HO} (h:Has H l) (n:H a=none) (s:Same H H') (e:H' a=some o):Has H' (l++[(a,o)]):=by
 refine⟨?_,λx hx=>?_⟩
 ·rw[Qbx,List.nodup_append];refine⟨h.nd,by simp,λx hx y hy z=>?_⟩;have:y=a:=by simpa using hy
  subst this;exact h.dH n (z ▸ hx)
 ·rcases Qbv.mp hx with z | z
  ·exact s _ _ (h.at_ x z)
  ·have:x=(a,o):=by simpa using z
   subst this;exact e
theorem Has.nil (H:Hp):Has H []:=⟨QbN,λx hx=>by cases hx⟩
theorem Has.ne {H:Hp} {l:List (Addr×HO)} (h:Has H l) {i j:Nat} {a b:Addr} {o p:HO} (e:l[i]?=some (a,o)) (e':l[j]?=some (b,p)) (n:i≠j):a≠b:=λz=>by
 have ea:(l.map (·.1))[i]?=some a:=by rw[Qbd,e];rfl
 have eb:(l.map (·.1))[j]?=some a:=by rw[Qbd,e',z];rfl
 obtain⟨h1,h2⟩:=Qag.mp ea;obtain⟨h3,h4⟩:=Qag.mp eb;exact n ((List.getElem_inj h.nd).mp (h2.trans h4.symm))
theorem Same.CW {H0 H H':Hp} {a:Addr} (s:Same H0 H) (b:Af a H H') (f:H0 a=none):Same H0 H':=λc o e=>b _ _ (s _ _ e) λz=>by rw[z,f] at e;cases e
section
variable {κ : Type} [DecidableEq κ]
def BW (kvs:List (κ×V)) (k:κ):Option V:=(kvs.find? λkv=>decide (kv.1=k)).map (·.2)
def putK (kvs:List (κ×V)) (k:κ) (v:V):List (κ×V):=
 if (kvs.any λkv=>decide (kv.1=k))=true then kvs.map (λkv=>if kv.1=k then (kv.1,v) else kv) else kvs++[(k,v)]
def Zc (kvs:List (κ×V)) (k:κ):List (κ×V):=kvs.filter λkv=>decide (kv.1≠k)
theorem Gb {p:κ×V} {r:List (κ×V)} {k:κ} (e:p.1=k):BW (p::r) k=some p.2:=by simp[BW,QbI,e]
theorem Dv {p:κ×V} {r:List (κ×V)} {k:κ} (e:¬p.1=k):BW (p::r) k=BW r k:=by simp[BW,QbI,e]
theorem Gd (k:κ):∀kvs:List (κ×V),(kvs.any λkv=>decide (kv.1=k))=(BW kvs k).isSome
 | []=>rfl
 | p::r=>by
  rw[List.any_cons];by_cases e:p.1=k
  ·simp only[Gb e,QbK e,Bool.true_or,Option.isSome_some]
  ·rw[Dv e,Qbw e,Bool.false_or];exact Gd k r
theorem Il (kvs:List (κ×V)) (k:κ) (v:V):(putK kvs k v).length<=kvs.length+1:=by
 unfold putK;split
 ·rw[Qbu];omega
 ·rw[QaM,Qbm,List.length_nil];omega
theorem Jz {kvs:List (κ×V)} {k:κ} (v:V) (h:BW kvs k=none):putK kvs k v=kvs++[(k,v)]:=by
 unfold putK;rw[Gd,h];exact if_neg (by decide)
theorem Gs.GD {o:Option V} {u:Option Value} (r:Gs o u):o.isSome=u.isSome:=by
 cases o with
 | none=>cases u with
  | none=>rfl
  | some _=>exact (show False from r).elim
 | some _=>cases u with
  | none=>exact (show False from r).elim
  | some _=>rfl
theorem Gs.getD {o:Option V} {u:Option Value} {d:V} {d':Value} (r:Gs o u) (rd:RelV d d'):RelV (o.getD d) (u.getD d'):=by
 cases o with
 | none=>cases u with
  | none=>exact rd
  | some _=>exact (show False from r).elim
 | some _=>cases u with
  | none=>exact (show False from r).elim
  | some _=>exact r
theorem KV.val {kvs:List (κ×V)} {vs:List (κ×Value)} (r:KV kvs vs) (k:κ):Gs (BW kvs k) (valueAt vs k):=by
 unfold KV at r
 induction r with
 | nil=>exact True.intro
 | @cons p q ps qs h t ih=>
  obtain⟨h1,h2⟩:=h;by_cases e:p.1=k
  ·have e':q.1=k:=h1.symm.trans e;have b:valueAt (q::qs) k=some q.2:=by simp[valueAt,QbI,e']
   rw[Gb e,b];exact h2
  ·have e':¬q.1=k:=λz=>e (h1.trans z);have b:valueAt (q::qs) k=valueAt qs k:=by simp[valueAt,QbI,e']
   rw[Dv e,b];exact ih
theorem KV.any {kvs:List (κ×V)} {vs:List (κ×Value)} (r:KV kvs vs) (k:κ):(kvs.any λkv=>decide (kv.1=k))=vs.any λkv=>decide (kv.1=k):=by
 unfold KV at r
 induction r with
 | nil=>rfl
 | cons h t ih=>rw[List.any_cons,List.any_cons,ih,h.1]
theorem KV.repl {kvs:List (κ×V)} {vs:List (κ×Value)} (r:KV kvs vs) (k:κ) {y:V} {u:Value} (ry:RelV y u) :
  KV (kvs.map λkv=>if kv.1=k then (kv.1,y) else kv) (vs.map λkv=>if kv.1=k then (kv.1,u) else kv):=by
 unfold KV at r ⊢
 induction r with
 | nil=>exact .nil
 | @cons p q ps qs h t ih=>
  rw[QbQ,QbQ];refine .cons ?_ ih;obtain⟨h1,h2⟩:=h;by_cases e:p.1=k
  ·rw[if_pos e,if_pos (h1.symm.trans e)];exact⟨h1,ry⟩
  ·rw[if_neg e,if_neg (λz=>e (h1.trans z))];exact⟨h1,h2⟩
theorem KV.put {kvs:List (κ×V)} {vs:List (κ×Value)} (r:KV kvs vs) (k:κ) {y:V} {u:Value} (ry:RelV y u):KV (putK kvs k y) (stored vs k u):=by
 unfold putK stored;rw[r.any k];by_cases e:(vs.any λkv=>decide (kv.1=k))=true
 ·rw[if_pos e,if_pos e];exact r.repl k ry
 ·rw[if_neg e,if_neg e];exact Paired.snoc r ⟨rq,ry⟩
theorem KV.drop {kvs:List (κ×V)} {vs:List (κ×Value)} (r:KV kvs vs) (k:κ):KV (Zc kvs k) (without vs k):=by
 unfold KV at r ⊢;unfold Zc without
 induction r with
 | nil=>exact .nil
 | @cons p q ps qs h t ih=>
  obtain⟨h1,h2⟩:=h;rw[List.filter_cons,List.filter_cons];by_cases e:p.1=k
  ·have a:¬decide (p.1≠k)=true:=by simp[e]
   have b:¬decide (q.1≠k)=true:=by simp[h1.symm.trans e]
   rw[if_neg a,if_neg b];exact ih
  ·have e':¬q.1=k:=λz=>e (h1.trans z);have a:decide (p.1≠k)=true:=by simp[e]
   have b:decide (q.1≠k)=true:=by simp[e']
   rw[if_pos a,if_pos b];exact .cons ⟨h1,h2⟩ ih
theorem KV.keys {kvs:List (κ×V)} {vs:List (κ×Value)} (r:KV kvs vs):kvs.map (·.1)=vs.map (·.1):=by
 unfold KV at r
 induction r with
 | nil=>rfl
 | cons h t ih=>rw[QbQ,QbQ,ih,h.1]
theorem KV.length {kvs:List (κ×V)} {vs:List (κ×Value)} (r:KV kvs vs):kvs.length=vs.length:=QbO r
end
theorem Ig {P:Program} {w:World} {k:Key} {u:Value} (r:RelV (kV k) u):(Bj P w).is k u=true:=by
 cases k with
 | inl i=>obtain⟨t,e⟩:=(show ∃t,u=Value.int i t from r);subst e;exact Sh P w i t
 | inr x=>obtain⟨t,e⟩:=(show ∃t,u=Value.str x t from r);subst e;exact Sg P w x t
theorem Pk {P:Program} {w:World}:∀{ks:List Key} {us:YE},Vals (ks.map kV) us->ItemsAre (Bj P w) ks us
 | [],_,r=>by rw[List.map_nil] at r;cases r;exact .nil
 | k::ks,_,r=>by
  rw[QbQ] at r;cases r with
  | cons h t=>exact .cons (Ig h) (Pk t)
abbrev YL:=List (List Key×V)
abbrev KT (H:Hp):YL->List (List Key×Addr×Value)->Prop:=Paired λp q=>p.1=q.1/\H q.2.1=some (.tup (p.1.map kV))/\RelV p.2 q.2.2
theorem KT.val {H:Hp} {kvs:YL} {xs:List (List Key×Addr×Value)} (r:KT H kvs xs) (k:List Key):Gs (BW kvs k) ((atKey xs k).map (·.2)):=by
 induction r with
 | nil=>exact True.intro
 | @cons p q ps qs h t ih=>
  obtain⟨h1,_,h2⟩:=h;by_cases e:p.1=k
  ·have e':q.1=k:=h1.symm.trans e;have b:atKey (q::qs) k=some q.2:=by simp[atKey,QbI,e']
   rw[Gb e,b];exact h2
  ·have e':¬q.1=k:=λz=>e (h1.trans z);have b:atKey (q::qs) k=atKey qs k:=by simp[atKey,QbI,e']
   rw[Dv e,b];exact ih
theorem KT.repl {H:Hp} {kvs:YL} {xs:List (List Key×Addr×Value)} (r:KT H kvs xs) (k:List Key) {y:V} {u:Value} (ry:RelV y u) :
  KT H (kvs.map λkv=>if kv.1=k then (kv.1,y) else kv) (xs.map (putAt k u)):=by
 induction r with
 | nil=>exact .nil
 | @cons p q ps qs h t ih=>
  rw[QbQ,QbQ];refine .cons ?_ ih;obtain⟨h1,h2,h3⟩:=h;unfold putAt;by_cases e:p.1=k
  ·rw[if_pos e,if_pos (h1.symm.trans e)];exact⟨h1,h2,ry⟩
  ·rw[if_neg e,if_neg (λz=>e (h1.trans z))];exact⟨h1,h2,h3⟩
theorem KT.put {H:Hp} {kvs:YL} {xs:List (List Key×Addr×Value)} (r:KT H kvs xs) (k:List Key) {b:Addr} {y:V} {u:Value} (hb:H b=some (.tup (k.map kV))) (ry:RelV y u) :
  KT H (putK kvs k y) (storedH xs k b u):=by
 have e:(kvs.any λkv=>decide (kv.1=k))=(atKey xs k).isSome:=by
  rw[Gd,(r.val k).GD,Option.isSome_map]
 unfold putK storedH;rw[e];by_cases q:(atKey xs k).isSome=true
 ·rw[if_pos q,if_pos q];exact r.repl k ry
 ·rw[if_neg q,if_neg q];exact Paired.snoc r ⟨rq,hb,ry⟩
theorem KT.keeps {H H':Hp} {kvs:YL} {xs:List (List Key×Addr×Value)} (r:KT H kvs xs) (ht:∀b ys,H b=some (.tup ys)->H' b=some (.tup ys)):KT H' kvs xs:=
 Paired.Bt r λ_ _ z=>⟨z.1,ht _ _ z.2.1,z.2.2⟩
section
variable {P:Program} {w:World} {H:Hp} {h:Heap} {a:Addr}
theorem Y6 {u:HO} (ok:HOk P w H h) (e:Rd H a u):Az P w H h a u:=e.ok ok
abbrev YM:=List (Key×V)
theorem Ih {kvs:YM} (ok:HOk P w H h) (e:Rd H a (.dK kvs)):kvs.length<=sizeLine/\(a == sysModules)=false/\∃vs,KV kvs vs/\h.DictOf (Bj P w) a vs:=
 show Az P w H h a (.dK kvs) from Y6 ok e
theorem U4 {kvs:YM} (ok:HOk P w H h) (e:H a=some (.dK kvs)):kvs.length<=sizeLine/\(a == sysModules)=false/\∃vs,KV kvs vs/\h.DictOf (Bj P w) a vs:=Ih ok (.inl e)
theorem Ji {ks:List Key} (ok:HOk P w H h) (e:H a=some (.tup (ks.map kV))):(tupleKind (Bj P w)).is h ks a:=by
 obtain⟨_,its,r,o,h1,h2,n,h3⟩:=(show Az P w H h a (.tup (ks.map kV)) from ok a _ e)
 exact⟨o,its.toArray,n,h1,h2,h3,by simpa using Pk r⟩
theorem JQ {kvs:YL} (ok:HOk P w H h) (e:Rd H a (.dT kvs)):kvs.length<=sizeLine/\(a == sysModules)=false /\
  ∃xs,KT H kvs xs/\h.DictOfH (tupleKind (Bj P w)) a xs:=by
 obtain⟨z,y,xs,r,o,es,ep,h1,h2,h3,h4,h5⟩:=(show Az P w H h a (.dT kvs) from Y6 ok e)
 refine⟨z,y,xs,r,o,es,ep,h1,h2,h3,h4,λx hx=>?_,h5⟩;have all:∀{l:YL} {m:List (List Key×Addr×Value)},KT H l m->∀x∈m,(tupleKind (Bj P w)).is h x.1 x.2.1:=by
  intro l m q
  induction q with
  | nil=>intro x hx;exact nomatch hx
  | @cons p q ps qs hq t ih=>
   intro x hx;rcases QbP.mp hx with e | hx
   ·subst e;exact Ji ok (by rw[<-hq.1];exact hq.2.1)
   ·exact ih x hx
 exact all r x hx
theorem dX {kvs:YL} (ok:HOk P w H h) (e:H a=some (.dT kvs)):kvs.length<=sizeLine/\(a == sysModules)=false /\
  ∃xs,KT H kvs xs/\h.DictOfH (tupleKind (Bj P w)) a xs:=JQ ok (.inl e)
end
def Ce (H:Hp) (a:Addr) (y:V) (r:Option V):Prop:=
 (∃kvs k,Rd H a (.dK kvs)/\y=kV k/\r=BW kvs k)\/∃kvs k b,Rd H a (.dT kvs)/\y=.ref b/\H b=some (.tup (k.map kV))/\r=BW kvs k
def Ip (H:Hp) (a:Addr) (y v:V) (H':Hp):Prop:=
 (∃kvs k,H a=some (.dK kvs)/\y=kV k/\kvs.length < sizeLine/\H'=upd H a (.dK (putK kvs k v))) \/
 ∃kvs k b,H a=some (.dT kvs)/\y=.ref b/\H b=some (.tup (k.map kV))/\kvs.length < sizeLine/\H'=upd H a (.dT (putK kvs k v))
theorem Ce.k {H:Hp} {a:Addr} {kvs:YM} {k:Key} (e:H a=some (.dK kvs)):Ce H a (kV k) (BW kvs k):=.inl ⟨kvs,k,.inl e,rfl,rfl⟩
theorem Ce.t {H:Hp} {a b:Addr} {kvs:YL} {k:List Key} (e:H a=some (.dT kvs)) (eb:H b=some (.tup (k.map kV))):Ce H a (.ref b) (BW kvs k):=.inr ⟨kvs,k,b,.inl e,rfl,eb,rfl⟩
theorem Ip.k {H:Hp} {a:Addr} {kvs:YM} {k:Key} {v:V} (e:H a=some (.dK kvs)) (hl:kvs.length < sizeLine):Ip H a (kV k) v (upd H a (.dK (putK kvs k v))):=.inl ⟨kvs,k,e,rfl,hl,rfl⟩
theorem Ip.t {H:Hp} {a b:Addr} {kvs:YL} {k:List Key} {v:V} (e:H a=some (.dT kvs)) (eb:H b=some (.tup (k.map kV))) (hl:kvs.length < sizeLine) :
  Ip H a (.ref b) v (upd H a (.dT (putK kvs k v))):=.inr ⟨kvs,k,b,e,rq,eb,hl,rq⟩
section
variable {X:Cx} {jb:YC} {U : St} {H:Hp} {s:Shared} {a:Addr} {y v:V} {u r:Value} {o:Option V} {A:Around} {E:YA}
theorem Inv.big (I:Inv X jb U H s):sysModules < s.heap.objs.size:=by
 have h:mainGlobals < s.heap.objs.size:=(I.mod.glob.keeps I.bk).lt;exact Nat.lt_trans (by decide) h
theorem Wy {Q:YA} (hu:A.units+1 < cLine) (I:Inv X jb U H s) (g:Ce H a y (some v)) (ry:RelV y u) (h:∀w' s',Inv X jb U H s'->RelV v w'->Q w' s') :
  wpAny (model X.prog X.w) A (getItem (.ref a) u) Q E s:=by
 rcases g with⟨kvs,k,e,ey,l⟩|⟨kvs,k,b,e,ey,eb,l⟩
 ·subst ey;obtain⟨z,hd,vs,rel,dd⟩:=Ih I.hok e;obtain⟨w',hw,rw'⟩:=Gs.some_of (v:=v) (o:=valueAt vs k) (by rw[l];exact rel.val k);exact wpAny_getItem_of (Ig ry) dd.mapOf hw (h w' _ (I.tok _) rw')
 ·subst ey;cases (show u=Value.ref b from ry)
  obtain⟨z,hd,xs,rel,dd⟩:=JQ I.hok e;obtain⟨w',hw,rw'⟩:=Gs.some_of (v:=v) (o:=(atKey xs k).map (·.2)) (by rw[l];exact rel.val k);obtain⟨p,hp,hp2⟩:=Qat.mp hw;refine wpAny_getItem_heap (Qba hu) (Ji I.hok eb) dd hp ?_;rw[hp2];exact h w' _ (I.tok _) rw'
theorem ji {Q:YA} (hu:A.units+1 < cLine) (I:Inv X jb U H s) (g:Ce H a y o) (ry:RelV y u) (h:∀s',Inv X jb U H s'->Q (.bool o.isSome) s') :
  wpAny (model X.prog X.w) A (compareOp .In u (.ref a)) Q E s:=by
 rcases g with⟨kvs,k,e,ey,l⟩|⟨kvs,k,b,e,ey,eb,l⟩
 ·subst ey;obtain⟨z,hd,vs,rel,dd⟩:=Ih I.hok e;refine wpAny_in_of (Ig ry) hd dd.mapOf ?_;rw[<-(rel.val k).GD,<-l];exact h _ (I.tok _)
 ·subst ey;cases (show u=Value.ref b from ry)
  obtain⟨z,hd,xs,rel,dd⟩:=JQ I.hok e;refine wpAny_in_heap (Qba hu) (Ji I.hok eb) hd dd ?_;have q:=(rel.val k).GD;rw[Option.isSome_map] at q;rw[<-q,<-l];exact h _ (I.tok _)
theorem Z2 {Q:YA} (hu:A.units+1 < cLine) (I:Inv X jb U H s) (g:Ce H a y o) (ry:RelV y u) (h:∀s',Inv X jb U H s'->Q (.bool (!o.isSome)) s') :
  wpAny (model X.prog X.w) A (compareOp .NotIn u (.ref a)) Q E s:=by
 rcases g with⟨kvs,k,e,ey,l⟩|⟨kvs,k,b,e,ey,eb,l⟩
 ·subst ey;obtain⟨z,hd,vs,rel,dd⟩:=Ih I.hok e;refine wpAny_notIn_of (Ig ry) hd dd.mapOf ?_;rw[<-(rel.val k).GD,<-l];exact h _ (I.tok _)
 ·subst ey;cases (show u=Value.ref b from ry)
  obtain⟨z,hd,xs,rel,dd⟩:=JQ I.hok e;refine wpAny_notIn_heap (Qba hu) (Ji I.hok eb) hd dd ?_;have q:=(rel.val k).GD;rw[Option.isSome_map] at q;rw[<-q,<-l];exact h _ (I.tok _)
theorem Ov {h':Heap} {t':Nat} {ob:HO} (I:Inv X jb U H s) (mu:Mut (H a)) (hs:Heap.SameBut a s.heap h') (he:∃q,h'.get? a=some q) (new:Az X.prog X.w (upd H a ob) h' a ob) :
  Inv X jb U (upd H a ob) { s with heap:=h',toks:=t' }:=
 I.write (x:=a) (e:=a) mu (.inl rfl) (λb q hb z=>(hs.2 b hb).trans z) he new
theorem Rv {P:Program} {w:World} {H':Hp} {h':Heap} {kvs:YM} {vs:List (Key×Value)} (z:kvs.length<=sizeLine) (hd:(a == sysModules)=false) (rel:KV kvs vs) (dd:h'.DictOf (Bj P w) a vs) :
  Az P w H' h' a (.dK kvs):=⟨z,hd,vs,rel,dd⟩
theorem Wx {H':Hp} {Q:YH} (hu:A.units+1 < cLine) (I:Inv X jb U H s) (g:Ip H a y v H') (ry:RelV y u) (rv:RelV v r) (h:∀s',Inv X jb U H' s'->Q () s') :
  wpAny (model X.prog X.w) A (setItem (.ref a) u r) Q E s:=by
 rcases g with⟨kvs,k,e,ey,l,eH⟩|⟨kvs,k,b,e,ey,eb,l,eH⟩
 ·subst ey eH;obtain⟨z,hd,vs,rel,dd⟩:=U4 I.hok e;have hz:vs.length<=sizeLine:=by rw[<-rel.length];exact z
  have hl:(putK kvs k v).length<=sizeLine:=by have:=Il kvs k v;omega
  refine wpAny_setItem_pairs (hsz:=hz) (Ig ry) dd λh' dd' hs=>h _ ?_;have he:∃q,h'.get? a=some q:=let ⟨q,_,_,hq,_⟩:=dd';⟨q,hq⟩;exact Ov I (by rw[e];exact True.intro) hs he (Rv hl hd (rel.put k rv) dd')
 ·subst ey eH;cases (show u=Value.ref b from ry)
  obtain⟨z,hd,xs,rel,dd⟩:=dX I.hok e;have hz:xs.length<=sizeLine:=by rw[<-QbO rel];exact z
  have hl:(putK kvs k v).length<=sizeLine:=by have:=Il kvs k v;omega
  refine wpAny_setItem_heap (hsz:=hz) (Qba hu) (Ji I.hok eb) dd λh' dd' hs=>h _ ?_;obtain⟨q,es,ep,hq,h2,h3,h4,_,h5⟩:=dd';refine Ov I (by rw[e];exact True.intro) hs ⟨q,hq⟩ ⟨hl,hd,_,(rel.put k eb rv).keeps λc ys ec=>?_,q,es,ep,hq,h2,h3,h4,h5⟩;rw[Aj (dJ ec e (λz=>nomatch z))];exact ec
end
section
variable {X:Cx} {jb:YC} {U : St} {H:Hp} {s:Shared} {a:Addr} {kvs:YM} {k:Key} {u:Value} {A:Around} {E:YA}
theorem dY {Q:YA} (I:Inv X jb U H s) (e:Rd H a (.dK kvs)) (h:∀t s',Inv X jb U H s'->Q (.int kvs.length t) s'):wpAny (model X.prog X.w) A (call (.builtin "len") [.ref a]) Q E s:=by
 obtain⟨z,hd,vs,rel,dd⟩:=Ih I.hok e;refine call_len_dict hd dd (by rw[<-rel.length];rw[sizeLine_eq] at z;omega) ?_;rw[<-rel.length];exact h _ _ (I.tok _)
end
def cQ (i:Expr):Prop:=∀ov iv,subscripted i false ov iv=operate [ov,iv] (getItem ov iv)
theorem Zn {prog:Program} {w:World} {A:Around} {E:YA} {s:Shared} {env:Env} {value slice:Expr} {pos:Pos} {T id:String} {Q:YA}
  (hl:typeLookup (.type T) "__getitem__"=pure (some (.builtin id))) (hs:cQ slice)
  (h:wpAny (model prog w) A (eval value env) (λo s₁=>wpAny (model prog w) A (eval slice env) (λi s₂=>s₂.TypeIs o T/\wpAny (model prog w) A (getItem o i) Q E s₂) E s₁) E s) :
  wpAny (model prog w) A (eval (.Subscript value slice pos) env) Q E s:=by
 refine Subscript_ (Qck h (λo s₁ h₁=>Qck h₁ (λi s₂ h₂=>?_) λ_ _ x=>x) λ_ _ x=>x);obtain⟨hT,h₂⟩:=h₂;unfold subscriptTail;refine Qci ?_;rw[getitemInPython_of_ne hT.not_modules];refine Qci (wpAny_specialOf hT hl ?_);have fin:wpAny (model prog w) A (subscripted slice false o i) (λr s₃=>wpAny (model prog w) A (letTemporaryGo value o r >>= λ_=>pure r) Q E s₃) E s₂:=by
  rw[hs o i];exact wpAny_operating (Qck h₂ (λr s₃ h₃=>Qci (wpAny_letTemporaryGo (Qcj h₃))) λ_ _ x=>x)
 first
  | exact Qcj (Qci fin)
  | exact Qci (Qcj (Qci fin))
  | exact Qci fin
theorem Sv {X:Cx} {jb:YC} {U : St} {H:Hp} {s:Shared} {a:Addr} {y:V} {o:Option V} (I:Inv X jb U H s) (g:Ce H a y o):s.TypeIs (.ref a) "dict":=by
 rcases g with⟨kvs,k,e,_,_⟩|⟨kvs,k,b,e,_,_,_⟩
 ·obtain⟨_,_,vs,_,dd⟩:=Ih I.hok e;exact dd.typeIs
 ·obtain⟨_,_,xs,_,dd⟩:=JQ I.hok e;exact dd.typeIs
def dh (td ty:TE):TE:=fun U H Q=>td U H λx H1=>ty U H1 λy H2=>∃a v,x=.ref a/\Ce H2 a y (some v)/\Q v H2
def eX (ty td:TE):TE:=fun U H Q=>ty U H λy H1=>td U H1 λx H2=>∃a o,x=.ref a/\Ce H2 a y o/\Q (.bl o.isSome) H2
def Zm (ty td:TE):TE:=fun U H Q=>ty U H λy H1=>td U H1 λx H2=>∃a o,x=.ref a/\Ce H2 a y o/\Q (.bl (!o.isSome)) H2
def dj (td ty tv:TE):TS:=λD U H=>tv U H λv H1=>td U H1 λx H2=>ty U H2 λy H3=>∃a H4,x=.ref a/\Ip H3 a y v H4/\D.nx U H4
section
variable {X:Cx} {o i e value:Expr} {pos pos' tpos:Pos} {td ty tv:TE}
theorem Jd (hu:X.A.units+1 < cLine) (ho:PE X o td) (hi:PE X i ty) (hs:cQ i):PE X (.Subscript o i pos) (dh td ty):=by
 intro jb s U H Q I h;refine Zn PySem.F.slot_dict_getitem.lookup hs (thn (ho jb s U H _ I h) λu s1 zz=>?_);obtain⟨x,H1,I1,rx,q1⟩:=zz;refine thn (hi jb s1 U H1 _ I1 q1) λiv s2 zz=>?_;obtain⟨y,H2,I2,ry,a,v,ex,g,q2⟩:=zz;subst ex;obtain rfl:u=Value.ref a:=rx;exact⟨Sv I2 g,Wy hu I2 g ry λw' s3 I3 rw'=>⟨v,H2,I3,rw',q2⟩⟩
theorem QS (hu:X.A.units+1 < cLine) (hi:PE X i ty) (ho:PE X o td):PC X .In i o (eX ty td):=by
 intro jb s U H Q I h;refine thn (hi jb s U H _ I h) λiv s1 zz=>?_;obtain⟨y,H1,I1,ry,q1⟩:=zz;refine thn (ho jb s1 U H1 _ I1 q1) λu s2 zz=>?_;obtain⟨x,H2,I2,rx,a,ov,ex,g,q2⟩:=zz;subst ex;obtain rfl:u=Value.ref a:=rx;exact ji hu I2 g ry λs3 I3=>⟨.bl ov.isSome,H2,I3,rq,q2⟩
theorem Kl (hu:X.A.units+1 < cLine) (hi:PE X i ty) (ho:PE X o td):PC X .NotIn i o (Zm ty td):=by
 intro jb s U H Q I h;refine thn (hi jb s U H _ I h) λiv s1 zz=>?_;obtain⟨y,H1,I1,ry,q1⟩:=zz;refine thn (ho jb s1 U H1 _ I1 q1) λu s2 zz=>?_;obtain⟨x,H2,I2,rx,a,ov,ex,g,q2⟩:=zz;subst ex;obtain rfl:u=Value.ref a:=rx;exact Z2 hu I2 g ry λs3 I3=>⟨.bl (!ov.isSome),H2,I3,rq,q2⟩
theorem K3 (hu:X.A.units+1 < cLine) (ho:PE X o td) (hi:PE X i ty) (hv:PE X value tv) (hs:swapsWith value (some (.Subscript o i pos')) pos.line X.env=pure false) :
  PS X (.Assign [.Subscript o i pos'] value pos) (dj td ty tv):=by
 intro jb s U H D I h;refine wpAny_Assign_Subscript (thn (hv jb s U H _ I h) λr s1 zz=>?_) hs;obtain⟨v,H1,I1,rv,q1⟩:=zz;refine thn (ho jb s1 U H1 _ I1 q1) λu s2 zz=>?_;obtain⟨x,H2,I2,rx,q2⟩:=zz;refine thn (hi jb s2 U H2 _ I2 q2) λiv s3 zz=>?_;obtain⟨y,H3,I3,ry,a,H4,ex,g,q3⟩:=zz;subst ex;obtain rfl:u=Value.ref a:=rx;exact Wx hu I3 g ry rv λs4 I4=>⟨U,H4,I4,q3⟩
end
theorem Rw {P:Program} {w:World} {H:Hp} (h:Heap) (hb:sysModules < h.objs.size):Az P w H (h.push { cls:=.type "dict",data:=.dict #[] }) h.objs.size (.dK []):=
 ⟨Qcf _,QaL.mpr (Ne.symm (QbX hb)),[],.nil,Heap.DictOf.new h⟩
theorem Yj {P:Program} {w:World} {H:Hp} (h:Heap) (hb:sysModules < h.objs.size):Az P w H (h.push { cls:=.type "dict",data:=.dict #[] }) h.objs.size (.dT []):=
 ⟨Qcf _,QaL.mpr (Ne.symm (QbX hb)),[],.nil,_,#[],0,QaG _ rfl,⟨rq,rq,rq⟩,rq,rq,QbN⟩
def aC:TE:=λ_ H Q=>∀p,H p=none->Q (.ref p) (upd H p (.dK []))
def aB:TE:=λ_ H Q=>∀p,H p=none->Q (.ref p) (upd H p (.dT []))
section
variable {X:Cx} {pos:Pos}
theorem QM:PE X (.Dict [] [] pos) aC:=λjb s U H Q I h=>
 wpAny_Dict_empty ⟨.ref s.heap.objs.size,_,I.laid (a:=s.heap.objs.size) (o:=.dK []) (t':=s.toks) (λ_ _ q=>Qas _ q) (Qce _) (Rw s.heap I.big),rq,h _ (I.hok.fresh (Qce _))⟩
theorem Xl:PE X (.Dict [] [] pos) aB:=λjb s U H Q I h=>
 wpAny_Dict_empty ⟨.ref s.heap.objs.size,_,I.laid (a:=s.heap.objs.size) (o:=.dT []) (t':=s.toks) (λ_ _ q=>Qas _ q) (Qce _) (Yj s.heap I.big),rq,h _ (I.hok.fresh (Qce _))⟩
end
structure M2 (X:Cx) (o:Expr) (m:Str) (apos:Pos) (e f:Expr) (cpos:Pos):Prop where
 base:attributeBase o m X.env (eval o X.env)=eval o X.env
 few:((backTo cpos (starEach [e,f] X.env)).all (λx=>!x.1)&&(backToKw cpos (keywordEach [] X.env)).all (λx=>x.1.isSome)
 &&decide (([e,f]:YJ).length+([]:List Keyword).length+(if ([]:List Keyword).isEmpty then 0 else 1) < 30))=true
 line:(apos.endLine == cpos.line)=true
 trees:backTo cpos (starEach [e,f] X.env)=[(false,eval e X.env),(false,eval f X.env)]
def IsD (H:Hp) (a:Addr):Prop:=(∃kvs,Rd H a (.dK kvs))\/∃kvs,Rd H a (.dT kvs)
theorem Wn {X:Cx} {jb:YC} {U : St} {H:Hp} {s:Shared} {a:Addr} (I:Inv X jb U H s) (d:IsD H a) :
  s.TypeIs (.ref a) "dict"/\(∀b,Value.ref a=.ref b->∃ob,s.heap.get? b=some ob/\ob.dict=none)/\(a == sysModules)=false:=by
 rcases d with⟨kvs,e⟩|⟨kvs,e⟩
 ·obtain⟨_,hd,vs,_,dd⟩:=Ih I.hok e;refine⟨dd.typeIs,λb q=>?_,hd⟩;cases q;obtain⟨ob,_,_,h1,h2,_⟩:=dd;exact⟨ob,h1,h2.2.1⟩
 ·obtain⟨_,hd,xs,_,dd⟩:=JQ I.hok e;refine⟨dd.typeIs,λb q=>?_,hd⟩;cases q;obtain⟨ob,_,_,h1,h2,_⟩:=dd;exact⟨ob,h1,h2.2.1⟩
section
variable {X:Cx} {jb:YC} {U : St} {H:Hp} {s:Shared} {a:Addr} {y d:V} {u r:Value} {o:Option V} {A:Around} {E:YA}
theorem cC {Q:YA} (hu:A.units+1 < cLine) (I:Inv X jb U H s) (g:Ce H a y o) (ry:RelV y u) (rd:RelV d r) (h:∀w' s',Inv X jb U H s'->RelV (o.getD d) w'->Q w' s') :
  wpAny (model X.prog X.w) A (call (.builtin "dict.get") [.ref a,u,r]) Q E s:=by
 rcases g with⟨kvs,k,e,ey,l⟩|⟨kvs,k,b,e,ey,eb,l⟩
 ·subst ey;obtain⟨z,hd,vs,rel,dd⟩:=Ih I.hok e;refine call_meetsIn PySem.F.slot_dict_get dd.typeIs PySem.F.entry_dict_get (PySem.F.args_dict_get_3 _ _ _) (meets_dict_get_default (Bj X.prog X.w) a (Ig ry) hd r) ⟨_,dd.mapOf,h _ _ (I.tok _) ?_⟩;rw[l];exact (rel.val k).getD rd
 ·subst ey;cases (show u=Value.ref b from ry)
  obtain⟨z,hd,xs,rel,dd⟩:=JQ I.hok e;refine call_meetsIn PySem.F.slot_dict_get dd.typeIs PySem.F.entry_dict_get (PySem.F.args_dict_get_3 _ _ _) (meetsH_dict_get_default (tupleKind (Bj X.prog X.w)) a b hd r) ⟨Qba hu,k,xs,Ji I.hok eb,dd,h _ _ (I.tok _) ?_⟩;rw[l];exact (rel.val k).getD rd
end
def aD (td ty tx:TE):TE:=fun U H Q=>td U H λx H1=>∃a,x=.ref a/\IsD H1 a/\ty U H1 λy H2=>tx U H2 λz H3=>∃o,Ce H3 a y o/\Q (o.getD z) H3
section
variable {X:Cx} {o e f:Expr} {apos cpos:Pos} {td ty tx:TE}
theorem Xm (hu:X.A.units+1 < cLine) (ho:PE X o td) (he:PE X e ty) (hf:PE X f tx) (m:M2 X o "get" apos e f cpos):PE X (.Call (.Attribute o "get" apos) [e,f] [] cpos) (aD td ty tx):=by
 intro jb s U H Q I h;refine wpAny_Call_method m.base m.few m.line PySem.F.plainAttrs_dict PySem.F.slot_dict_get PySem.F.type_dict_get (thn (ho jb s U H _ I h) λu s1 zz=>?_);obtain⟨x,H1,I1,rx,a,ex,d,q1⟩:=zz;subst ex;obtain rfl:u=Value.ref a:=rx;obtain⟨t1,t2,_⟩:=Wn I1 d;refine⟨t1,t2,?_⟩;rw[m.trees];refine Calls.callWith_builtin rfl (Calls.evalArgs_plain (QaZ (thn (he jb s1 U H1 _ I1 q1) λiv s2 ⟨y,H2,I2,ry,q2⟩=>
  QaZ (thn (hf jb s2 U H2 _ I2 q2) λfv s3 ⟨z,H3,I3,rz,ov,g,q3⟩=>Calls.spliced_nil ?_))))
 exact cC hu I3 g ry rz λw' s4 I4 rw'=>⟨_,H3,I4,rw',q3⟩
end
section
variable {X:Cx} {jb:YC} {U : St} {H:Hp} {s:Shared} {a:Addr} {kvs:YM} {A:Around} {E:YA}
end
section
variable {X:Cx} {jb:YC} {U : St} {H:Hp} {s:Shared} {a:Addr} {y:V} {u:Value} {A:Around} {E:YA}
end
section
variable {X:Cx}
theorem WR:CN X (.builtin "len") (λxs H Q=>∃a kvs,xs=[V.ref a]/\H a=some (.dK kvs)/\Q (.int kvs.length) H):=by
 intro jb s U H xs us Q I r h;obtain⟨a,kvs,rfl,ha,q⟩:=h;obtain⟨u,rfl,ru⟩:=vals1 r;cases ru;exact dY I (.inl ha) λt s' I'=>⟨.int kvs.length,H,I',⟨t,rq⟩,q⟩
end
section
variable {κ : Type} [DecidableEq κ]
theorem Jg:∀{l:List κ} {k:κ},l.Nodup->¬k∈l->(l++[k]).Nodup
 | [],k,_,_=>by simp
 | a::r,k,h,hk=>by
  obtain⟨h1,h2⟩:=QbB.mp h;show (a::(r++[k])).Nodup;refine QbB.mpr ⟨λm=>?_,Jg h2 λm=>hk (QbP.mpr (Or.inr m))⟩;rcases Qbv.mp m with q | q
  ·exact h1 q
  ·exact hk (QbP.mpr (Or.inl (QaP.mp q).symm))
end
theorem U5 {prog:Program} {w:World} {A:Around} {R:Result->Shared->Prop} {s:Shared} {kx vx target iter:Expr} {ifs:YJ} {scope:Scope} {pos:Pos} {it:Value} {D:Addr} {env:Env} (J:Nat->Shared->Prop)
  (turn:∀n s,J n s->wpAny (model prog w) A (pyNext it) (λr s1=>match r with
   | none=>R (.ok .next) s1
   | some v=>wpAny (model prog w) A (letOwnedTupleGo target it v) (λ_ s2=>wpAny (model prog w) A (assign target env v) (λ_ s3=>
     wpAny (model prog w) A (forIn ifs true λc r=>if r=true then do let ok <-isTrue c env (eval c env);pure (ForInStep.yield ok) else pure (ForInStep.yield r)) (λok s4=>
      if ok=true then wpAny (model prog w) A (eval kx env) (λkv s5=>wpAny (model prog w) A (eval vx env) (λvv s6=>wpAny (model prog w) A (dictSet D kv vv) (λ_ s7=>∃m,m < n/\J m s7) (λ_ _=>False) s6) (λ_ _=>False) s5) (λ_ _=>False) s4
      else ∃m,m < n/\J m s4) (λ_ _=>False) s3) (λ_ _=>False) s2) (λ_ _=>False) s1) (λ_ _=>False) s)
  (n:Nat) (h:J n s):codeAny (model prog w) A (.compLoop (.DictComp kx vx [⟨target,iter,ifs,0⟩] scope pos) 0 it (.ref D) env) R s:=by
 refine codeAny_loop rfl J (λk s' hk=>?_) n h;show wpAny _ A (Sem.onRaise (compTurn (.DictComp kx vx [⟨target,iter,ifs,0⟩] scope pos) 0 it (.ref D) env) (λx=>do noteFrame x env;theTreesLotGoes x)) _ _ s'
 refine wpAny_noted ?_;rw[compTurn_dict];refine Qci (QbS (Qci (Qck (turn k s' hk) (λr s1 q1=>?_) λ_ _ f=>f.elim)));cases r with
 | none=>exact Qcj q1
 | some v=>
  refine Qci (Qck q1 (λ_ s2 q2=>Qci (Qck q2 (λ_ s3 q3=>Qci (Qck q3 (λok s4 q4=>?_) λ_ _ f=>f.elim)) λ_ _ f=>f.elim)) λ_ _ f=>f.elim);cases ok with
  | false=>exact Qcj ⟨rfl,q4⟩
  | true=>exact Qci (Qci (Qck q4 (λkv s5 q5=>Qci (QbR (Qck q5 (λvv s6 q6=>Qci (QbS (QbR (Qck q6 (λ_ s7 q7=>Qcj ⟨rfl,q7⟩) λ_ _ f=>f.elim)))) λ_ _ f=>f.elim))) λ_ _ f=>f.elim))
theorem Wz {X:Cx} {jb:YC} {U : St} {H:Hp} {s:Shared} {A:Around} {E:YA} {a:Addr} {kvs:YM} {k:Key} {v:V} {u r:Value} {Q:YH} (I:Inv X jb U H s) (e:H a=some (.dK kvs)) (l:kvs.length < sizeLine) (ry:RelV (kV k) u) (rv:RelV v r)
  (h:∀s',Inv X jb U (upd H a (.dK (putK kvs k v))) s'->Q () s'):wpAny (model X.prog X.w) A (dictSet a u r) Q E s:=by
 obtain⟨z,hd,vs,rel,dd⟩:=U4 I.hok e;have hz:vs.length<=sizeLine:=by rw[<-rel.length];exact z
 have hl:(putK kvs k v).length<=sizeLine:=by have:=Il kvs k v;omega
 refine wpAny_dictSet_pairs (hsz:=hz) (Ig ry) dd λh' dd' hs=>h _ ?_;have he:∃q,h'.get? a=some q:=let ⟨q,_,_,hq,_⟩:=dd';⟨q,hq⟩;exact Ov I (by rw[e];exact True.intro) hs he (Rv hl hd (rel.put k rv) dd')
@[irreducible] def Lb (J:It) (g:TG) (tt:TT) (tk tv:TE) (Q:VK) (σ0:St) (H0:Hp) (l:Addr):Prop:=∃W:Nat->YN,(∃m,W 0 m σ0 H0) /\
 ∀i m σ' H',W i m σ' H'->(J.stop i H'/\Q (.ref l) H')\/(J.go i H'/\∃N:YO,(∀ σ3 H3,N σ3 H3->∃m',m' < m/\W (i+1) m' σ3 H3)/\∀x H2,J.yld i H' x H2->g x σ' H2 fun σ3 H3=>tt σ3 H3 λb H4=>
  if b=true then tk σ3 H4 λy H5=>tv σ3 H5 λz H6=>∃(kvs:YM) (k:Key),H6 l=some (.dK kvs)/\y=kV k/\kvs.length < sizeLine/\N σ3 (upd H6 l (.dK (putK kvs k z))) else N σ3 H4)
def Qq (wi:TI) (src:List (Option Nat)) (g:TG) (tt:TT) (tk tv:TE):TE:=fun U H Q=>wi U H λJ H1=>∀l,H1 l=none->Lb J g tt tk tv Q (FN src U) (upd H1 l (.dK [])) l
theorem Nr {X:Cx} {N':YF} {src:List (Option Nat)} {sc:Scope} {kx vx tg iter:Expr} {ifs:YJ} {pos pos':Pos} {wi:TI} {g:TG} {tt:TT} {tk tv:TE} {use:Option (Value->Sem Unit)} {R:YA} (hc:X.calm=true) (S:Bo X N' src sc)
  (hi:PI X tg iter wi) (hg:∀s3 H3 fp pn,PG (cxC X N' sc s3 H3 fp pn) tg g) (ht:∀s3 H3 fp pn,PF (cxC X N' sc s3 H3 fp pn) ifs tt) (hk:∀s3 H3 fp pn,PE (cxC X N' sc s3 H3 fp pn) kx tk) (hv:∀s3 H3 fp pn,PE (cxC X N' sc s3 H3 fp pn) vx tv)
  (hs:∀x,foldedSetIterable iter X.env x=pure x) {jb:YC} {s:Shared} {U : St} {H:Hp} {Q:VK} (I:Inv X jb U H s) (h:Qq wi src g tt tk tv U H Q)
  (fin:∀s3 H3 fp σ4 H4 s5 l,Inv X jb U H3 s3->(∀b∈fp,CQ X jb H3 b)->Inv (cxC X N' sc s3 H3 fp (X.pn++jb)) [] σ4 H4 s5->Q (.ref l) H4 ->
   compPost (model X.prog X.w) X.A X.xe use R (.ref l) s3.heap.objs.size (.ok .next) s5) :
  wpAny (model X.prog X.w) X.A (comprehension (.DictComp kx vx [⟨tg,iter,ifs,0⟩] sc pos) sc X.env pos' newDict false (eval iter X.env) use) R X.xe s:=by
 refine wpAny_comprehension_free (use:=use) (cl:=Cy X.env sc.names []) rfl hs (JR λp hp e=>I.ok.has p.1 (S.fv p hp e)) S.kind S.loc ?_;refine thn (hi jb s U H _ I h) λv s1 h1=>thn h1 λitv s2 h2=>?_;obtain⟨it,fp,tn,J,H2,rfl,I2,T,st2,f2,q⟩:=h2;have q':=q s2.heap.objs.size (I2.hok.fresh (Qce _));unfold Lb at q';obtain⟨W,⟨m0,w0⟩,turn⟩:=q';refine Qbe (wpAny_newFunctionEnv S.Ew (by intro y hy;simp at hy) (λha hns hsb=>?_) S.kind);have I3:Inv X jb U (upd H2 s2.heap.objs.size (.dK [])) { s2 with heap:=s2.heap.push { cls:=.type "dict",data:=.dict #[] } }:=
  I2.laid (t':=s2.toks) (λb u e=>Qas _ e) (Qce _) (Rw s2.heap I2.big)
 have hfl:∀b∈fp,b < s2.heap.objs.size:=λb hb=>by
  obtain⟨o,e,_⟩:=T.obj 0 _ st2 b hb;exact QbW e
 have f3:∀b∈fp,CQ X jb (upd H2 s2.heap.objs.size (.dK [])) b:=λb hb=>⟨by rw[Aj (QbX (hfl b hb))];exact (f2 b hb).1,(f2 b hb).2⟩;generalize hs3:({ s2 with heap:=s2.heap.push { cls:=.type "dict",data:=.dict #[] } }:Shared)=s3 at *;have hsz:s2.heap.objs.size < s3.heap.objs.size:=by rw[<-hs3];show s2.heap.objs.size < (s2.heap.push _).objs.size;rw[QbL];exact Qbp _
 have kp:∀b o,s3.heap.get? b=some o->ha.get? b=some o:=λb o e=>hsb.extBut b o (QbX (QbW e)) (Qas _ e);have st3:tn 0 ha:=T.keep 0 _ _ st2 λb hb o e=>kp b o (by rw[<-hs3];exact Qas _ e);have I4:Inv (cxC X N' sc s3 (upd H2 s2.heap.objs.size (.dK [])) fp (X.pn++jb)) [] (FN src U) (upd H2 s2.heap.objs.size (.dK [])) { s3 with heap:=ha,toks:=s3.toks+([]:List (Str×Value)).length }:=
  Mg S I3 f3 (λb hb=>Nat.lt_trans (hfl b hb) hsz) hns kp
 have loop:codeAny (model X.prog X.w) X.A (.compLoop (.DictComp kx vx [⟨tg,iter,ifs,0⟩] sc pos) 0 (.ref it) (.ref s2.heap.objs.size) (compEnvC sc (Cy X.env sc.names []) s3.heap.objs.size X.env))
   (compPost (model X.prog X.w) X.A X.xe use R (.ref s2.heap.objs.size) s3.heap.objs.size) { s3 with heap:=ha,toks:=s3.toks+([]:List (Str×Value)).length }:=by
  refine U5 (λn s'=>∃i σ' H',Inv (cxC X N' sc s3 (upd H2 s2.heap.objs.size (.dK [])) fp (X.pn++jb)) [] σ' H' s'/\tn i s'.heap/\(∀b∈fp,H' b=none)/\W i n σ' H') ?_ m0 ⟨0,_,_,I4,st3,λb hb=>(f3 b hb).1,w0⟩;rintro n s4 ⟨i,σ4,H4,J4,st4,fr4,w4⟩;have stat:∀{H':Hp},(∀b∈fp,H' b=none)->∀b∈fp,CQ (cxC X N' sc s3 (upd H2 s2.heap.objs.size (.dK [])) fp (X.pn++jb)) [] H' b:=λhn b hb=>
   ⟨hn b hb,(I4.ok.exf b hb).1,I4.ok.Kw b hb,.inl hb,λx c e=>(I4.ok.exf b hb).2 x c e,λp hp=>(f3 b hb).2.2.2.2.2 p ((Qbv.mp hp).elim id λz=>by cases z)⟩
  rcases turn i n σ4 H4 w4 with⟨stop,qn⟩|⟨go,N,hN,step⟩
  ·refine thn (T.done (cxC X N' sc s3 (upd H2 s2.heap.objs.size (.dK [])) fp (X.pn++jb)) rfl rfl rfl hc i [] s4 σ4 H4 _ J4 (stat fr4) st4 stop) λr s5 zz=>?_;obtain⟨hr,J5⟩:=zz;subst hr;exact fin s3 _ fp σ4 H4 s5 _ I3 f3 J5 qn
  ·refine thn (T.item (cxC X N' sc s3 (upd H2 s2.heap.objs.size (.dK [])) fp (X.pn++jb)) rfl rfl rfl hc i [] s4 σ4 H4 _ J4 (stat fr4) st4 go) λr s5 zz=>?_;obtain⟨u,hr,h5⟩:=zz;subst hr;refine thn h5 λ_ s6 zz=>?_;obtain⟨x,H6,J6,r6,y6,st6,fr6⟩:=zz;have J6':=J6.pinned (stat fr6) (T.obj _ _ st6);have back:∀{pl:YC} {σ7:St} {H7:Hp} {s7:Shared},Inv (cxC X N' sc s3 (upd H2 s2.heap.objs.size (.dK [])) fp (X.pn++jb)) ([]++Gv fp s6.heap) σ7 H7 s7->N σ7 H7 ->
     ∃m',m' < n/\∃i σ' H',Inv (cxC X N' sc s3 (upd H2 s2.heap.objs.size (.dK [])) fp (X.pn++jb)) [] σ' H' s7/\tn i s7.heap/\(∀b∈fp,H' b=none)/\W i m' σ' H':=λ{pl σ7 H7 s7} J7 w7=>by
    obtain⟨m',hm,w7⟩:=hN _ _ w7;have pinned:∀b∈fp,∀o,s6.heap.get? b=some o->s7.heap.get? b=some o/\H7 b=none:=λb hb o e=>by
     have:=J7.pin (b,o) (Qav _ (Qav _ (DK hb e)));exact⟨this.1,this.2.1⟩
    refine⟨m',hm,i+1,σ7,H7,J7.DY,T.keep _ _ _ st6 λb hb o e=>(pinned b hb o e).1,λb hb=>?_,w7⟩;obtain⟨o,e,_⟩:=T.obj _ _ st6 b hb;exact (pinned b hb o e).2
   refine thn (hg s3 _ fp _ _ s6 σ4 H6 x u _ J6' r6 (step x H6 y6)) λ_ s7 zz=>?_;obtain⟨σ7,H7,J7,q7⟩:=zz;refine thn (ht s3 _ fp _ _ s7 σ7 H7 _ J7 q7) λok s8 zz=>?_;obtain⟨H8,J8,q8⟩:=zz;cases ok with
   | false=>
    rw[if_neg QaN] at q8 ⊢;exact back (pl:=[]) J8 q8
   | true=>
    rw[if_pos rfl] at q8 ⊢;refine thn (hk s3 _ fp _ _ s8 σ7 H8 _ J8 q8) λy s9 zz=>?_;obtain⟨yv,H9,J9,r9,q9⟩:=zz;refine thn (hv s3 _ fp _ _ s9 σ7 H9 _ J9 q9) λz s10 zz=>?_;obtain⟨zv,H10,J10,r10,kvs,k,hl,ey,hz,q10⟩:=zz;subst ey;refine Wz (X:=cxC X N' sc s3 (upd H2 s2.heap.objs.size (.dK [])) fp (X.pn++jb)) J10 hl hz r9 r10 λs11 J11=>?_;exact back (pl:=[]) J11 q10
 exact codeAny_compStart_dict loop (T.self X.A 0 _ _ _ st3 loop)
theorem Xn {X:Cx} {N':YF} {src:List (Option Nat)} {sc:Scope} {kx vx tg iter:Expr} {ifs:YJ} {pos:Pos} {wi:TI} {g:TG} {tt:TT} {tk tv:TE} (hc:X.calm=true) (S:Bo X N' src sc)
  (hi:PI X tg iter wi) (hg:∀s3 H3 fp pn,PG (cxC X N' sc s3 H3 fp pn) tg g) (ht:∀s3 H3 fp pn,PF (cxC X N' sc s3 H3 fp pn) ifs tt) (hk:∀s3 H3 fp pn,PE (cxC X N' sc s3 H3 fp pn) kx tk) (hv:∀s3 H3 fp pn,PE (cxC X N' sc s3 H3 fp pn) vx tv)
  (hs:∀x,foldedSetIterable iter X.env x=pure x:=by intro _;rfl):PE X (.DictComp kx vx [⟨tg,iter,ifs,0⟩] sc pos) (Qq wi src g tt tk tv):=by
 intro jb s U H Q I h;rw[arm_eval_DictComp];refine Nr (use:=none) hc S hi hg ht hk hv hs I h λs3 H3 fp σ4 H4 s5 l I3 f3 J5 q=>?_;obtain⟨m,hn,_⟩:=J5.loc;exact⟨m,hn,λh' sb=>⟨.ref l,H4,Nq I3 f3 J5 sb,rq,q⟩⟩
end L2
namespace PySem
open Sem (wp)
section
variable {prog:Program} {w:World} {A:Around} {E:YA} {s:Shared}
theorem M8 {it l:Addr} {i:Nat} {items:Array Value} {x:Value} {Q:YA} (hit:s.heap.IsTupleIter it l i) (hl:s.heap.IsTuple l items) (hx:items[i]?=some x)
  (hQ:∀h',h'.IsTupleIter it l (i+1)->Heap.SameBut it s.heap h'->Q x { s with heap:=h' }):wpAny (model prog w) A (Builtin.SmallTypes.nextOf (.ref it)) Q E s:=by
 obtain⟨o,ho,hc,hd⟩:=id hit;obtain⟨ol,hol,_,nl,hdl⟩:=hl;unfold Builtin.SmallTypes.nextOf;refine Qci (Qao (name:=Str.ofString "__next__") hit.typeIs Qaa (Qbn Qaa hit.typeIs PyProof.Rows.entry_tupleiter_next ?_ (PyProof.Rows.args_tupleiter_next _)));show wpAny _ _ (field (.ref it) 0 >>= _) _ _ s;refine Qci (Qch ho hd (x:=.ref l) rfl ?_);show wpAny _ _ (if (Value.ref l == Value.none)=true then _ else _) _ _ s
 rw[if_neg (show ¬((Value.ref l == Value.none)=true) from QaN)]
 show wpAny _ _ (field (.ref it) 1 >>= _) _ _ s;refine Qci (Qch ho hd (x:=.int i 0) rfl ?_);show wpAny _ _ (seqItems? (.ref l) >>= _) _ _ s;refine Qci (wpAny_seqItems hol hdl ?_);simp only[Qbf,hx];refine Qci (wpAny_setField ho hd (by simp) (Qcj ⟨x,rq,Qcj (hQ _ ?_ (QaJ ..))⟩));exact⟨_,Qay _ ho (Obj.isFreed_of_fields (Obj.data_mapFields hd _)),(Obj.cls_mapFields ..).trans hc,by rw[Obj.data_mapFields hd];simp[rawInt]⟩
theorem Jf {it l:Addr} {i:Nat} {items:Array Value} {Q:YA} (hh:A.handled=none) (hit:s.heap.IsTupleIter it l i) (hl:s.heap.IsTuple l items) (hx:items[i]?=none)
  (hE:∀h' e,Heap.ExtBut it s.heap h'->(∃o,h'.get? e=some o/\o.cls=.type "StopIteration")->E (.ref e) { s with heap:=h' }):wpAny (model prog w) A (Builtin.SmallTypes.nextOf (.ref it)) Q E s:=by
 obtain⟨o,ho,hc,hd⟩:=id hit;obtain⟨ol,hol,_,nl,hdl⟩:=hl;unfold Builtin.SmallTypes.nextOf;refine Qci (Qao (name:=Str.ofString "__next__") hit.typeIs Qaa (Qbn Qaa hit.typeIs PyProof.Rows.entry_tupleiter_next ?_ (PyProof.Rows.args_tupleiter_next _)));show wpAny _ _ (field (.ref it) 0 >>= _) _ _ s;refine Qci (Qch ho hd (x:=.ref l) rfl ?_);show wpAny _ _ (if (Value.ref l == Value.none)=true then _ else _) _ _ s
 rw[if_neg (show ¬((Value.ref l == Value.none)=true) from QaN)]
 show wpAny _ _ (field (.ref it) 1 >>= _) _ _ s;refine Qci (Qch ho hd (x:=.int i 0) rfl ?_);show wpAny _ _ (seqItems? (.ref l) >>= _) _ _ s;refine Qci (wpAny_seqItems hol hdl ?_);simp only[Qbf,hx];refine Qci (Qcl (Qci (wpAny_setField ho hd (by simp) ?_)));show wpAny _ _ (newExc (.type "StopIteration") [] >>= _) _ _ _;refine Qci ?_;simp only[newExc,newTuple];refine Qci (Qbe ?_ (by size_fits));refine Qci (m:=firstArgMember _ _) (wpAny_of_eq (a:=Value.none) (by first | rfl | (simp only[firstArgMember];rfl)) ?_)
 refine Qbe ?_ (by size_fits);simp only[raiseNew];refine Qci (wpAny_handled ?_)
 first | rw[show A.in1.handled=none from hh] | rw[hh]
 refine Qci (Qcj (wpAny_throw ?_));exact hE _ _ (((QaJ ..).extBut.push _).push _) ⟨_,QaG _ rfl,rq⟩
theorem Rt {e it l:Addr} {i:Nat} {j:Int} {items:Array Value} {old:Value} {Q:Option Value->Shared->Prop} (hh:A.handled=none) (he:IsEnum s.heap e it j old) (hit:s.heap.IsTupleIter it l i) (hl:s.heap.IsTuple l items) (hx:items[i]?=none)
  (hQ:∀h',Heap.ExtBut it s.heap h'->Q none { s with heap:=h' }):wpAny (model prog w) A (pyNext (.ref e)) Q E s:=by
 have hT:s.TypeIs (.ref e) "enumerate":=⟨_,he,rq⟩;unfold pyNext;refine Qci (QbU (Qao (name:=Str.ofString "__next__") hT F.slot_enumerate_next (Qbn F.slot_enumerate_next hT F.entry_enumerate_next ?_ (F.args_enumerate_next_1 _))));show wpAny _ _ (field (.ref e) 2 >>= _) _ _ _;refine Qci (Qch he rfl (x:=.ref it) rfl (Qci (Jf hh hit hl hx λh' x he' hx'=>?_)));obtain⟨o,ho,hc⟩:=hx';exact Qci (wpAny_isInstance (T:="StopIteration") (b:=true) ⟨o,ho,hc⟩ isSubtype_stop (Qcj (hQ _ he')))
end
theorem Draws.tup {prog:Program} {w:World} {A:Around} (hh:A.handled=none) (it l:Addr) (hne:l≠it) (items:Array Value) :
  Draws prog w A it [it,l] items.size (λi v=>items[i]?=some v) (λi h=>h.IsTupleIter it l i/\h.IsTuple l items) where
 live:=λ_ _ st=>let ⟨o,ho,_⟩:=st.1;⟨o,ho⟩
 frame:=λ_ _ _ st hk=>⟨st.1.at λo e=>hk it (by simp) o e,let ⟨o,e,r⟩:=st.2;⟨o,hk l (by simp) o e,r⟩⟩
 item:=λi s Q E hi st hQ=>M8 st.1 st.2 (x:=items[i]) (by simp[hi]) λh' hit' hs'=>hQ _ h' s.toks (by simp[hi]) ⟨hit',let ⟨o,e,r⟩:=st.2;⟨o,hs'.extBut _ _ hne e,r⟩⟩ hs'
 done:=λs Q E st hE=>Jf hh st.1 st.2 (by simp) hE
theorem Draws.from {prog:Program} {w:World} {A:Around} {it:Addr} {fp:List Addr} {n:Nat} {P:Nat->Value->Prop} {St:Nat->Heap->Prop} (D:Draws prog w A it fp n P St) (k:Nat) :
  Draws prog w A it fp (k+n) (λj v=>∃i,j=k+i/\P i v) (λj h=>∃i,j=k+i/\i<=n/\St i h) where
 live:=λ_ _ ⟨i,_,_,st⟩=>D.live i _ st
 frame:=λ_ _ _ ⟨i,e,hi,st⟩ hk=>⟨i,e,hi,D.frame i _ _ st hk⟩
 item:=λj s Q E hj ⟨i,e,hi,st⟩ hQ=>D.item i s Q E (by omega) st λx h' tk p st' sb=>hQ x h' tk ⟨i,e,p⟩ ⟨i+1,by omega,by omega,st'⟩ sb
 done:=λs Q E ⟨i,e,hi,st⟩ hE=>by
  have:i=n:=by omega
  subst this;exact D.done s Q E st hE
end PySem
namespace L2
open PySem PySem.Spec PyProof.Rows
section
variable {X:Cx} {jb:YC} {U : St} {H:Hp} {s:Shared} {h':Heap}
theorem Inv.J3 {t':Nat} {fp:List Addr} {t:Addr} {o:HO} (I:Inv X jb U H s) (ht:s.heap.objs.size<=t) (k:∀b u,b∉fp->s.heap.get? b=some u->h'.get? b=some u) (hf:∀b∈fp,CQ X jb H b) (new:Az X.prog X.w (upd H t o) h' t o) :
  Inv X jb U (upd H t o) { s with heap:=h',toks:=t' }:=by
 have nt:=I.hok.fresh ht;have old:∀b u,s.heap.get? b=some u->b≠t:=λb u e z=>absurd (QaR (QbW e) ht) (by rw[z];exact QbT _);have nf:∀b u,H b=some u->b∉fp:=λb u e z=>by rw[(hf b z).1] at e;cases e
 have tr:∀b u,H b=some u->(upd H t o) b=some u:=λb u e=>by rw[Aj (Ar e nt)];exact e
 refine I.step (g':=s.gens) (d':=s.drawn) (ch:=fp) (λb hb=>?_) (λb u _ _ hc e _=>k b u hc e) (λb u _ _ hc e _=>⟨u.slots,k b u hc e⟩) (λb u hc e n=>by rw[Aj (old b u e)];exact n)
  (λb u hc e=>⟨u,k b u hc e⟩) (λ_ _ e=>tr _ _ e) (λ_ _ _ e=>tr _ _ e) (λb ps e=>⟨#[],by rw[tr _ _ e];simp⟩) (λm hm=>?_) (λb u e=>?_) I.bare
 ·obtain⟨_,f1,_,f3,f4,f5⟩:=hf b hb;exact⟨f3,f1,f4,f5⟩
 ·obtain⟨u,es,ep,hu,r⟩:=hm;exact⟨u,es,ep,k _ u (λz=>(hf _ z).2.1 rfl) hu,r⟩
 ·by_cases hb:b=t
  ·subst hb;rw[Ab] at e;cases e;exact new
  ·rw[Aj hb] at e;refine (I.hok b u e).stay (λc v hc q=>k c v ?_ q) (λc q=>tr _ _ q) λc xs q=>tr _ _ q;rcases hc with z | z
   ·rw[z];exact nf b u e
   ·exact nf c _ z
theorem Inv.Iv {t':Nat} {fp:List Addr} (I:Inv X jb U H s) (k:∀b u,b∉fp->s.heap.get? b=some u->h'.get? b=some u) (hf:∀b∈fp,CQ X jb H b):Inv X jb U H { s with heap:=h',toks:=t' }:=by
 have nf:∀b u,H b=some u->b∉fp:=λb u e z=>by rw[(hf b z).1] at e;cases e
 refine I.step (g':=s.gens) (d':=s.drawn) (ch:=fp) (λb hb=>?_) (λb u _ _ hc e _=>k b u hc e) (λb u _ _ hc e _=>⟨u.slots,k b u hc e⟩) (λb u hc e n=>n)
  (λb u hc e=>⟨u,k b u hc e⟩) (λ_ _ e=>e) (λ_ _ _ e=>e) (λb ps e=>⟨#[],by rw[e];simp⟩) (λm hm=>?_) (λb u e=>?_) I.bare
 ·obtain⟨_,f1,_,f3,f4,f5⟩:=hf b hb;exact⟨f3,f1,f4,f5⟩
 ·obtain⟨u,es,ep,hu,r⟩:=hm;exact⟨u,es,ep,k _ u (λz=>(hf _ z).2.1 rfl) hu,r⟩
 ·refine (I.hok b u e).stay (λc v hc q=>k c v ?_ q) (λ_ q=>q) λ_ _ q=>q;rcases hc with z | z
  ·rw[z];exact nf b u e
  ·exact nf c _ z
end
def Io (K:YD) (a:Addr) (lo:Nat):It:=
 ⟨λi H=>∃xs x,SqT K H a xs/\xs[i]?=some x,λi H v H'=>∃p x,H p=none/\v=.ref p/\H'=upd H p (.tup [.int ((lo+i:Nat):Int),x])/\∀xs,SqT K H a xs->xs[i]?=some x,λi H=>∃xs,SqT K H a xs/\xs.length<=i⟩
theorem Ud {P:Program} {w:World} {K:YD} {elts:YJ} {k:Nat} {pos:Pos} (a e it:Addr) (lo:Nat) (nei:e≠it):Turn P w K (.Tuple elts k pos) (Io K a lo) [e,it] e (λi h=>(∃old,IsEnum h e it ((lo+i:Nat):Int) old)/\h.IsTupleIter it a i) where
 mem:=by simp
 obj:=λi h st b hb=>by
  obtain⟨⟨old,he⟩,o,ho,hc,hd⟩:=st;rcases QbP.mp hb with rfl | hb
  ·exact⟨_,he,λv z=>by cases (show Data.fields _=Data.cell v from z)⟩
  ·have:b=it:=by simpa using hb
   subst this;exact⟨o,ho,λv z=>by rw[hd] at z;cases z⟩
 keep:=λi h h' st k=>by
  obtain⟨⟨old,he⟩,hi⟩:=st;exact⟨⟨old,k e (by simp) _ he⟩,hi.at λo q=>k it (by simp) o q⟩
 item:=by
  intro X hP hw hK hc i jb s U H E I hf st hg;subst hP hw hK;obtain⟨xs,x,hq,hx⟩:=hg;obtain⟨its,rv,p,hz⟩:=I.tuple hq;obtain⟨u,hu,ru⟩:=rv.get hx;obtain⟨⟨old,he⟩,hit⟩:=st;have hts:s.heap.IsTuple a its.toArray:=p;have ane:a≠e:=λz=>by
   obtain⟨o,ho,hcl,_⟩:=hts;rw[z,he] at ho;cases ho;injection hcl with q;exact absurd q (by decide)
  have ani:a≠it:=λz=>by
   obtain⟨o,ho,hcl,_⟩:=hts;obtain⟨o',ho',hcl',_⟩:=hit;rw[z,ho'] at ho;cases ho;rw[hcl'] at hcl;injection hcl with q;exact absurd q (by decide)
  have hlt:i < its.toArray.size:=by
   have:=(Qag.mp hu).1;simpa using this
  have D:=(Draws.tup (prog:=X.prog) (w:=X.w) (A:=X.A.in1) (I.ok.hd hc) it a ani its.toArray).from lo;refine wpAny_pyNext_enum_itemD D he ⟨i,rq,Qca hlt,hit,hts⟩ (by omega) nei (by simp[nei,ane.symm]) λy h1 tk hP ho hst hT hsz hk=>?_;obtain⟨i',ei,hy⟩:=hP;have:i'=i:=by omega
  subst this;have ey:y=u:=by
   have h2:its.toArray[i']?=some u:=by simpa using hu
   rw[h2] at hy;exact (Qby hy).symm
  subst ey;refine⟨_,rq,wpAny_letOwnedTupleGo_enum ho λh2 he2 hs2=>?_⟩;have hlt2:s.heap.objs.size≠e:=Qcb (QbW he);have hT2:h2.get? s.heap.objs.size=some { cls:=.type "tuple",data:=.seq #[.int ((lo+i':Nat):Int) tk,y] }:=(hs2.2 _ hlt2).trans hT;have new:Az X.prog X.w (upd H s.heap.objs.size (.tup [.int ((lo+i':Nat):Int),x])) h2 s.heap.objs.size (.tup [.int ((lo+i':Nat):Int),x]):=
   ⟨by show 2<=sizeLine;decide,[.int ((lo+i':Nat):Int) tk,y],.cons ⟨tk,rq⟩ (.cons ru .nil),_,hT2,rq,0,rq⟩
  have I1:=I.J3 (h':=h2) (t':=tk+1) (Qce _) (λb q hb z=>(hs2.2 b (λw=>hb (by simp[w]))).trans (hk b q (λw=>hb (by simp[w])) (λw=>hb (by simp[w])) z)) hf new;refine⟨.ref s.heap.objs.size,_,I1,rq,⟨s.heap.objs.size,x,I.hok.fresh (Qce _),rq,rq,λys hy'=>by rw[I.O5 hy' hq];exact hx⟩,⟨⟨y,?_⟩,?_⟩,λb hb=>?_⟩
  ·have:=he2;rw[show ((lo+(i'+1):Nat):Int)=((lo+i':Nat):Int)+1 by omega];exact this
  ·obtain⟨i2,e2,_,st2,_⟩:=hst;have:i2=i'+1:=by omega
   subst this;exact st2.at λo q=>(hs2.2 it (Ne.symm nei)).trans q
  ·have hb':b < s.heap.objs.size:=by
    rcases QbP.mp hb with rfl | hb
    ·exact QbW he
    ·have:b=it:=by simpa using hb
     subst this;obtain⟨o,ho',_⟩:=hit;exact QbW ho'
   rw[Aj (QbX hb')];exact (hf b hb).1
 done:=by
  intro X hP hw hK hc i jb s U H E I hf st hg;subst hP hw hK;obtain⟨xs,hq,hx⟩:=hg;obtain⟨its,rv,p,hz⟩:=I.tuple hq;obtain⟨⟨old,he⟩,hit⟩:=st;have hl:=rv.length;exact Rt (I.ok.hd hc) he hit (show s.heap.IsTuple a its.toArray from p) (by simp;omega) λh' eb=>⟨rq,I.Iv (t':=s.toks) (λb o hb q=>eb b o (λz=>hb (by simp[z])) q) hf⟩
 self:=λ_ _ _ _ _ st h=>let ⟨⟨_,he⟩,_⟩:=st;wpAny_pyIter_enum he h
end L2
namespace PySem
open Sem (wp)
open AutoSeq1 (wpAny_loadPart')
theorem Oi (l:Addr) (items:Array Value) (n:Nat) (dct:Option Addr) (sl:YI) :
  Meets (Builtin.«enumerate.__new__» ⟨[.type "enumerate",.ref l],[]⟩) (λ_ R s=>s.heap.get? l=some { cls:=.type "tuple",dict:=dct,data:=.seq items n,slots:=sl } /\
   R (.ok (.ret (.ref (s.heap.push { cls:=.type "tuple_iterator",data:=.fields #[.ref l,.int 0 0] }).objs.size)))
    { s with heap:=(s.heap.push { cls:=.type "tuple_iterator",data:=.fields #[.ref l,.int 0 0] }).push { cls:=.type "enumerate",data:=.fields #[.none,.bool false,.ref s.heap.objs.size,rawInt 0,.none,.none] } }):=
 .of_wp λprog w A R s h=>by
  obtain⟨hp,g,d,tk,os⟩:=s;obtain⟨hl,h⟩:=h;have hsub:=sub_enumerate;have hL:Heap.IsTuple (Shared.heap ⟨hp,g,d,tk,os⟩) l items:=⟨_,hl,rq,n,rq⟩
  wp_walk using wpAny_loadPart' hl
  refine wpAny_stack_any λst=>Qcj ?_;split
  ·rename_i c _ _ _ _ _;cases (c == Value.type "enumerate")
   ·wp_walk using wpAny_loadPart' hl,QaU hL
    exact⟨_,rq,h⟩
   ·wp_walk using wpAny_loadPart' hl,QaU hL
    exact⟨_,rq,h⟩
  ·wp_walk using wpAny_loadPart' hl,QaU hL
   exact⟨_,rq,h⟩
theorem Nf (l:Addr) (items:Array Value) (n:Nat) (dct:Option Addr) (sl:YI) (t:Tok) :
  Meets (Builtin.«enumerate.__new__» ⟨[.type "enumerate",.ref l],[("start",.int 1 t)]⟩) (λ_ R s=>s.heap.get? l=some { cls:=.type "tuple",dict:=dct,data:=.seq items n,slots:=sl } /\
   R (.ok (.ret (.ref (s.heap.push { cls:=.type "tuple_iterator",data:=.fields #[.ref l,.int 0 0] }).objs.size)))
    { s with heap:=(s.heap.push { cls:=.type "tuple_iterator",data:=.fields #[.ref l,.int 0 0] }).push { cls:=.type "enumerate",data:=.fields #[.none,.bool false,.ref s.heap.objs.size,rawInt 1,.none,.none] } }):=
 .of_wp λprog w A R s h=>by
  obtain⟨hp,g,d,tk,os⟩:=s;obtain⟨hl,h⟩:=h;have hsub:=sub_enumerate;have hL:Heap.IsTuple (Shared.heap ⟨hp,g,d,tk,os⟩) l items:=⟨_,hl,rq,n,rq⟩
  wp_walk using wpAny_loadPart' hl
  refine wpAny_stack_any λst=>Qcj ?_;split
  ·rename_i c _ _ _ _ _;cases (c == Value.type "enumerate")
   ·wp_walk using wpAny_loadPart' hl,QaU hL
    exact⟨_,rq,h⟩
   ·wp_walk using wpAny_loadPart' hl,QaU hL
    exact⟨_,rq,h⟩
  ·wp_walk using wpAny_loadPart' hl,QaU hL
   exact⟨_,rq,h⟩
end PySem
namespace PySem
open Sem (wp)
section
variable {prog:Program} {w:World} {A:Around} {E:YA} {s:Shared}
theorem Oe {T newId:String} {self:Value} {rest:YE} {kw:List (Str×Value)} (hl:typeLookup (.type T) "__init__"=pure (some (.builtin "object.__init__")))
  (hm:Bind.madeBy (.type T)=pure (some newId)) (hne:(some newId != some "object.__new__")=true) :
  Meets (Builtin.«object.__init__» ⟨self::rest,kw⟩) (λ_ R s=>s.TypeIs self T/\R (.ok (.ret .none)) s):=by
 refine Meets.of_wp λprog w A R s hs=>?_;obtain⟨hT,hq⟩:=hs;cases rest with
 | nil=>
  cases kw with
  | nil=>exact Qcj ⟨_,rfl,hq⟩
  | cons k kw=>
   repeat (any_goals (first | assumption | wp_step))
   exact⟨_,rq,hq⟩
 | cons a rest=>
  repeat (any_goals (first | assumption | wp_step))
  exact⟨_,rq,hq⟩
theorem WT {T newId:String} {Bn:Builtin} {args:YE} {kw:List (Str×Value)} {S:Spec} {Q:YA} (ft:TypeCalled T newId "object.__init__") (hne:(some newId != some "object.__new__")=true)
  (hct:checkTypeCall T ⟨args,kw⟩=pure ()) (hcn:checkBuiltinCall newId ⟨.type T::args,kw⟩=pure ()) (hok:∀obj,argsOk "object.__init__" ⟨obj::args,kw⟩)
  (entryN:entryFor table newId=some Bn) (g:Meets (Bn ⟨.type T::args,kw⟩) S) (h:S A.in1 (wants (λobj s₁=>s₁.TypeIs obj T/\Q obj s₁) E) s) :
  wpAny (model prog w) A (call (.type T) args kw) Q E s:=by
 obtain⟨c,tl,hmro⟩:=ft.mro;have hmade:=ft.made;have hsub:=ft.sub;refine wpAny_call (codeAny_of_tree ?_);show wpAny _ _ (callAny (.type T) _) _ _ _;refine Qcj ⟨Code.quiet_builtin _ (by trivial),QbD F.entry_type_call ?_⟩;rw[Around.under_plain (weight_type_call_type T args kw) (units_type_call_type T args kw)];have h1:=ft.notType;have h2:=ft.canCreate
 repeat (any_goals (first | assumption | wp_step))
 refine Qcc (codeAny_call_builtin ft.plain entryN (wpAny_of_eq hcn (g prog w A.in1 _ s h))) λr s₁ hr=>?_;cases r with
 | error e=>exact hr
 | ok fl=>
  cases fl with
  | ret obj=>
   obtain⟨hT,hq⟩:=hr;have hli:=ft.init.lookup;have hbi:=ft.init.bind obj
   repeat (any_goals (first | assumption | wp_step))
   refine Qcc (codeAny_call_builtin ft.init.plain F.entry_object_init (ft.init.check _ _ _ _ _ _ _ _ hT (hok obj) (Oe ft.init.lookup ft.made hne prog w A.in1 (wants (λr s₂=>r=.none/\Q obj s₂) E) s₁ ⟨hT,rq,hq⟩))) λr₂ s₂ hr₂=>?_;cases r₂ with
   | error e=>exact hr₂
   | ok fl₂=>
    cases fl₂ with
    | ret r=>
     obtain⟨rfl,hq2⟩:=hr₂
     repeat (any_goals (first | assumption | wp_step))
    | _=>exact hr₂.elim
  | _=>exact hr.elim
end
end PySem
namespace PyProof.Rows
open PySem
section
variable {M:Model} {A:Around} {E:YA} {s:Shared} {env:Env}
theorem Nu {pos:Pos} {T:String} {e:Expr} {rest:YJ} {kws:List Keyword} {Q:YA}
  (h:wpAny M A (spliced (backTo pos (starEach (e::rest) env))) (λvs s₁=>wpAny M A (evalAll ((backToKw pos (keywordEach kws env)).map (·.2))) (λkvs s₂=>wpAny M A (call (.type T) vs (((backToKw pos (keywordEach kws env)).filterMap (·.1)).zip kvs)) Q E s₂) E s₁) E s)
  (he:backTo pos (starEach (e::rest) env)=(false,eval e env)::backTo pos (starEach rest env):=by rfl) (hplain:(backTo pos (starEach (e::rest) env)).any (·.1)=false:=by rfl)
  (hall:(backToKw pos (keywordEach kws env)).all (·.1.isSome)=true:=by rfl) (hkw:(backToKw pos (keywordEach kws env)).any (·.1.isNone)=false:=by rfl) :
  wpAny M A (callWith pos (.type T) [] (backTo pos (starEach (e::rest) env)) (backToKw pos (keywordEach kws env))) Q E s:=by
 have h2:wpAny M A (evalArgs (.type T) true (backTo pos (starEach (e::rest) env)) (backToKw pos (keywordEach kws env))) (λa s₁=>wpAny M A (call (.type T) ([]++a.pos) a.kw) Q E s₁) E s:=by
  rw[he] at h ⊢;exact evalArgs_kwB hall h
 unfold callWith;refine Qci (QbR (Qck h2 (λa s₁ h₁=>Qci (QbS ?_)) λ_ _ x=>x));simp only[hplain,hkw,Bool.or_false];exact Qci (Qcj (Qci (Qck h₁ (λr s₂ hr=>Qci (QbR (wpAny_point (Qcj hr)))) λ_ _ x=>x)))
end
end PyProof.Rows
namespace L2
open PySem PySem.Spec PyProof.Rows
section
variable {X:Cx}
theorem TJ {jb:YC} {U : St} {H:Hp} {s:Shared} {R:It->Hp->Prop} {E:YA} {elts:YJ} {k:Nat} {pos:Pos} {a:Addr} {lo:Nat} {tk:Nat} (I:Inv X jb U H s) (q:R (Io X.K a lo) H) :
  wpAny (model X.prog X.w) X.A (pyIter (.ref (s.heap.objs.size+1))) (PIE X jb U (.Tuple elts k pos) R) E
   { s with heap:=(s.heap.push { cls:=.type "tuple_iterator",data:=.fields #[.ref a,.int 0 0] }).push { cls:=.type "enumerate",data:=.fields #[.none,.bool false,.ref s.heap.objs.size,rawInt (lo:Int),.none,.none] },toks:=tk }:=by
 have hz:(s.heap.push { cls:=.type "tuple_iterator",data:=.fields #[.ref a,.int 0 0] }).objs.size=s.heap.objs.size+1:=QbL ..;have he:IsEnum ((s.heap.push { cls:=.type "tuple_iterator",data:=.fields #[.ref a,.int 0 0] }).push { cls:=.type "enumerate",data:=.fields #[.none,.bool false,.ref s.heap.objs.size,rawInt (lo:Int),.none,.none] }) (s.heap.objs.size+1) s.heap.objs.size (lo:Int) .none:=by
  have:=QaG (s.heap.push { cls:=.type "tuple_iterator",data:=.fields #[.ref a,.int 0 0] }) (o:={ cls:=.type "enumerate",data:=.fields #[.none,.bool false,.ref s.heap.objs.size,rawInt (lo:Int),.none,.none] }) rfl;rw[hz] at this;exact this
 refine wpAny_pyIter_enum he ⟨s.heap.objs.size+1,[s.heap.objs.size+1,s.heap.objs.size],_,_,H,rq,I.kept (t':=tk) λb o e=>Qas _ (Qas _ e),Ud a (s.heap.objs.size+1) s.heap.objs.size lo (Nat.succ_ne_self _),⟨⟨.none,he⟩,⟨_,Qas _ (QaG _ rfl),rq,rq⟩⟩,λb hb=>?_,q⟩;have hb':s.heap.objs.size<=b:=by
  simp only[QbP,Qbt,or_false] at hb;rcases hb with rfl | rfl
  ·exact Nat.le_succ _
  ·exact Qce _
 exact I.Kv hb' (I.hok.fresh hb')
end
section
variable {X:Cx}
def Za (K:YD) (lo:Nat) (tl:TE):TI:=fun U H R=>tl U H λx H1=>∃a,x=.ref a/\(∃xs,SqT K H1 a xs)/\R (Io K a lo) H1
theorem Va {jb:YC} {U : St} {H:Hp} {s:Shared} {R:It->Hp->Prop} {elts:YJ} {k:Nat} {pos:Pos} {a:Addr} {xs:YG} (I:Inv X jb U H s) (hq:SqT X.K H a xs) (q:R (Io X.K a 0) H) :
  wpAny (model X.prog X.w) X.A (call (.type "enumerate") [.ref a]) (λv s1=>wpAny (model X.prog X.w) X.A (pyIter v) (PIE X jb U (.Tuple elts k pos) R) X.xe s1) X.xe s:=by
 obtain⟨its,rv,p,hz⟩:=I.tuple hq;obtain⟨⟨c,dct,dt,sl⟩,hl,hc,n,hd⟩:=id p;replace hc:c=.type "tuple":=hc;replace hd:dt=.seq its.toArray n:=hd;subst hc hd;refine callType_new F.called_enumerate (by decide) (F.typeCall_enumerate_1 _) (F.newCall_enumerate_1 _) (λobj=>F.args_object_init_2 obj _) F.entry_enumerate_new (Oi a its.toArray n dct sl) ⟨hl,?_⟩;have hz:(s.heap.push { cls:=.type "tuple_iterator",data:=.fields #[.ref a,.int 0 0] }).objs.size=s.heap.objs.size+1:=QbL ..;show _/\_;refine⟨⟨_,QaG _ rfl,rq⟩,?_⟩;rw[hz];exact TJ (lo:=0) (tk:=s.toks) I q
end
section
variable {X:Cx}
theorem JB {x:Expr} {tx:TE} {p pos tp:Pos} {elts:YJ} {k:Nat} (hg:Gl X "enumerate") (hm:X.mg "enumerate"=none) (hl:PE X x tx) (hs:starEach [x] X.env=[(false,eval x X.env)]:=by rfl):PI X (.Tuple elts k tp) (.Call (.Name "enumerate" p) [x] [] pos) (Za X.K 0 tx):=by
 intro jb s U H R I h;refine Call_ (Ey I hg hm boot_enumerate (Qac (thn ((Aa hl Ac (by rw[hs];rfl)) pos jb s U H (λvs H1=>match vs with | [v]=>∃a,v=.ref a/\(∃xs,SqT X.K H1 a xs)/\R (Io X.K a 0) H1 | _=>False) I h) λus s1 ⟨vs,H1,I1,r1,q1⟩=>?_) hs rfl))
 cases r1 with
 | nil=>exact False.elim q1
 | cons r rr=>
  cases rr with
  | nil=>
   obtain⟨a,e,⟨xs,hq⟩,q⟩:=q1;subst e;cases r;exact Va I1 hq q
  | cons _ _=>exact False.elim q1
theorem U9 {jb:YC} {U : St} {H:Hp} {s:Shared} {R:It->Hp->Prop} {elts:YJ} {k:Nat} {pos:Pos} {a:Addr} {xs:YG} {t:Tok} (I:Inv X jb U H s) (hq:SqT X.K H a xs) (q:R (Io X.K a 1) H) :
  wpAny (model X.prog X.w) X.A (call (.type "enumerate") [.ref a] [("start",.int 1 t)]) (λv s1=>wpAny (model X.prog X.w) X.A (pyIter v) (PIE X jb U (.Tuple elts k pos) R) X.xe s1) X.xe s:=by
 obtain⟨its,rv,p,hz⟩:=I.tuple hq;obtain⟨⟨c,dct,dt,sl⟩,hl,hc,n,hd⟩:=id p;replace hc:c=.type "tuple":=hc;replace hd:dt=.seq its.toArray n:=hd;subst hc hd;refine WT F.called_enumerate (by decide) (by kernel_rfl) (by kernel_rfl) (λobj=>?ok) F.entry_enumerate_new (Nf a its.toArray n dct sl t) ⟨hl,?_⟩
 case ok=>
  unfold argsOk;rw[signature?_of (id:="object.__init__") (n:=['_','_','t','i','n','i','_','_']) (o:=['t','c','e','j','b','o']) (by kernel_rfl) F.owner_object]
  kernel_rfl
 have hz:(s.heap.push { cls:=.type "tuple_iterator",data:=.fields #[.ref a,.int 0 0] }).objs.size=s.heap.objs.size+1:=QbL ..;show _/\_;refine⟨⟨_,QaG _ rfl,rq⟩,?_⟩;rw[hz];exact TJ (lo:=1) (tk:=s.toks) I q
theorem QK {x one:Expr} {tx:TE} {p pos tp kp:Pos} {elts:YJ} {k:Nat} (hg:Gl X "enumerate") (hm:X.mg "enumerate"=none) (hl:PE X x tx) (h1:PE X one (tC (.int 1))) (hs:starEach [x] X.env=[(false,eval x X.env)]:=by rfl)
  (hall:(backToKw pos (keywordEach [⟨some "start",one,kp⟩] X.env)).all (·.1.isSome)=true:=by rfl) (hkw:(backToKw pos (keywordEach [⟨some "start",one,kp⟩] X.env)).any (·.1.isNone)=false:=by rfl)
  (hks:(backToKw pos (keywordEach [⟨some "start",one,kp⟩] X.env)).filterMap (·.1)=(["start"]:YF):=by rfl) :
  PI X (.Tuple elts k tp) (.Call (.Name "enumerate" p) [x] [⟨some "start",one,kp⟩] pos) (Za X.K 1 tx):=by
 intro jb s U H R I h;refine QaV (Ey I hg hm boot_enumerate (PyProof.Rows.Nu (thn ((Aa hl Ac (by rw[hs];rfl)) pos jb s U H (λvs H1=>match vs with | [v]=>∃a,v=.ref a/\(∃xs,SqT X.K H1 a xs)/\R (Io X.K a 1) H1 | _=>False) I h) λus s1 ⟨vs,H1,I1,r1,q1⟩=>?_) (by rw[hs];rfl) (by rw[hs];rfl) hall hkw))
 refine thn ((Zw h1 aV) pos jb s1 U H1 (λks H2=>H2=H1/\ks=[.int 1]) I1 ⟨rq,rq⟩) λws s2 zz=>?_;obtain⟨zs,H2,I2,rz,e2,ez⟩:=zz;subst e2 ez;cases rz with
 | cons rz1 rz2=>
  cases rz2;obtain⟨t,rfl⟩:=rz1;rw[hks];cases r1 with
  | nil=>exact False.elim q1
  | cons r rr=>
   cases rr with
   | nil=>
    obtain⟨a,e,⟨xs,hq⟩,q⟩:=q1;subst e;cases r;exact U9 I2 hq q
   | cons _ _=>exact False.elim q1
theorem Gp {K:YD} {a:Addr} {lo:Nat} {xs:YG} {g:TG} {tb:TS} {D:Ends} {U : St} {H:Hp} (Pv:YN) (h0:Pv 0 U H) (hl:∀i U H',i<=xs.length->Pv i U H'->SqT K H' a xs)
  (hs:∀i x p U H',xs[i]?=some x->Pv i U H'->H' p=none->g (.ref p) U (upd H' p (.tup [.int ((lo+i:Nat):Int),x])) fun σ2 H2=>tb { D with nx:=Pv (i+1),ct:=Pv (i+1),bk:=D.nx } σ2 H2) (hd:∀ U H',Pv xs.length U H'->D.nx U H') :
  ∃W:Nat->YN,(∃m,W 0 m U H)/\∀i m U H,W i m U H ->
   ((Io K a lo).stop i H/\D.nx U H)\/((Io K a lo).go i H/\∃N:YO,(∀ σ' H',N σ' H'->∃m',m' < m/\W (i+1) m' σ' H')/\∀x H',(Io K a lo).yld i H x H'->g x U H' fun σ2 H2=>tb { D with nx:=N,ct:=N,bk:=D.nx } σ2 H2):=by
 refine⟨λi m U H=>m=xs.length - i/\i<=xs.length/\Pv i U H,⟨xs.length,by simp,Qcf _,h0⟩,?_⟩;rintro i m U H ⟨rfl,hi,p⟩;have q:=hl i U H hi p;by_cases hlt:i < xs.length
 ·refine .inr ⟨⟨xs,xs[i],q,by simp[hlt]⟩,Pv (i+1),fun σ3 H3 p'=>⟨xs.length - (i+1),by omega,rq,hlt,p'⟩,λv H2 y=>?_⟩;obtain⟨pa,x,hn,rfl,rfl,hx⟩:=y;exact hs i x pa U _ (hx xs q) p hn
 ·have e:i=xs.length:=by omega
  subst e;exact .inl ⟨⟨xs,q,Qce _⟩,hd U H p⟩
end
section
variable {X:Cx}
def cT (i j:Int):Prop:=i.natAbs < 2 ^ 8000/\j.natAbs < 2 ^ 8000
theorem RK {k:Int} (h:k.natAbs < 2 ^ 8000):Builtin.Int.intBits k<=8000:=by
 unfold Builtin.Int.intBits;split
 ·exact Qcf _
 ·rcases Nat.eq_zero_or_pos k.natAbs with h0 | hp
  ·rw[h0];decide
  ·have:=(Nat.log2_lt (Qcb hp)).mpr h;omega
theorem cT.ok {i j:Int} (h:cT i j):IntMulOk i j:=by
 have h1:=RK h.1;have h2:=RK h.2;unfold IntMulOk;have e:Builtin.Int.intTooBig (Builtin.Int.intBits i+Builtin.Int.intBits j)=false:=by
  unfold Builtin.Int.intTooBig;rw[bitsLine_eq];exact Qbw (by omega)
 rw[e,Bool.and_false];exact QaN
end
end L2
namespace PySem.ZZ
open PySem
section
variable {prog:Program} {w:World} {A:Around} {E:YA} {s:Shared}
structure Src where
 it:Addr
 a:Addr
 items:Array Value
def SrcAt (h:Heap) (x:Src) (i:Nat):Prop:=(h.IsListIter x.it x.a i/\h.IsList x.a x.items)\/(h.IsTupleIter x.it x.a i/\h.IsTuple x.a x.items)
theorem SrcAt.keep {h h':Heap} {x:Src} {i:Nat} (q:SrcAt h x i) (k1:∀o,h.get? x.it=some o->h'.get? x.it=some o) (k2:∀o,h.get? x.a=some o->h'.get? x.a=some o):SrcAt h' x i:=by
 rcases q with⟨q1,q2⟩|⟨q1,o,e,r⟩
 ·exact .inl ⟨q1.at k1,q2.at k2⟩
 ·exact .inr ⟨q1.at k1,o,k2 o e,r⟩
theorem SrcAt.ne {h:Heap} {x:Src} {i:Nat} (q:SrcAt h x i):x.a≠x.it:=λz=>by
 rcases q with⟨⟨o,e,c,_⟩,⟨o',e',c',_⟩⟩|⟨⟨o,e,c,_⟩,⟨o',e',c',_⟩⟩
 ·rw[z,e] at e';cases e';rw[c] at c';injection c' with y;exact absurd y (by decide)
 ·rw[z,e] at e';cases e';rw[c] at c';injection c' with y;exact absurd y (by decide)
theorem SrcAt.ex {h:Heap} {x:Src} {i:Nat} (q:SrcAt h x i):(∃o,h.get? x.it=some o)/\∃o,h.get? x.a=some o:=by
 rcases q with⟨⟨o,e,_⟩,⟨o',e',_⟩⟩|⟨⟨o,e,_⟩,⟨o',e',_⟩⟩
 ·exact⟨⟨o,e⟩,o',e'⟩
 ·exact⟨⟨o,e⟩,o',e'⟩
abbrev IsZ (h:Heap) (z TI TO:Addr) (f0 f1:Value):Prop:=h.get? z=some { cls:=.type "zip",dict:=none,data:=.fields #[f0,f1,.bool false,.ref TI,.ref TO],slots:=#[] }
abbrev Mq (h:Heap) (T:Addr) (xs:YE):Prop:=h.get? T=some { cls:=.type "tuple",data:=.seq xs.toArray }
structure Apart (z TI TO:Addr) (ls:List Src):Prop where
 TIz:TI≠z
 TOz:TO≠z
 TITO:TI≠TO
 it:∀x∈ls,x.it≠z/\x.it≠TI/\x.it≠TO
 a:∀x∈ls,x.a≠z/\x.a≠TO
 ai:∀x∈ls,∀y∈ls,x.a≠y.it
 nd:(ls.map (·.it)).Nodup
def Rest (z TO:Addr) (ls:List Src) (h h':Heap):Prop:=∀c o,c≠z->c≠TO->c∉ls.map (·.it)->h.get? c=some o->h'.get? c=some o
structure Mid (z TI TO:Addr) (ls:List Src) (xs olds:YE) (i:Nat) (f0 f1:Value) (h:Heap) (k:Nat) (h':Heap):Prop where
 hz:IsZ h' z TI TO f0 f1
 hTI:Mq h' TI (ls.map λx=>.ref x.it)
 done:∀j x,ls[j]?=some x->SrcAt h' x (if j < k then i+1 else i)
 rest:Rest z TO ls h h'
 size:h'.objs.size=h.objs.size
theorem Mid.other {z TI TO:Addr} {ls:List Src} {xs olds:YE} {i:Nat} {f0 f1:Value} {h h1 h2:Heap} {k:Nat} (D:Apart z TI TO ls) (m:Mid z TI TO ls xs olds i f0 f1 h k h1) (sb:Heap.SameBut TO h1 h2):Mid z TI TO ls xs olds i f0 f1 h k h2:=by
 refine⟨sb.extBut _ _ D.TOz.symm m.hz,sb.extBut _ _ D.TITO m.hTI,λj y hy=>?_,λc o c1 c2 c3 e=>sb.extBut _ _ c2 (m.rest c o c1 c2 c3 e),by rw[sb.1,m.size]⟩;have hm:=QaB hy;exact (m.done j y hy).keep (λo e=>sb.extBut _ _ (D.it y hm).2.2 e) (λo e=>sb.extBut _ _ (D.a y hm).2 e)
end
end PySem.ZZ
namespace PySem
namespace F
end F
end PySem
namespace PySem.ZZ
open PySem
def Ve (h:Heap) (a:Addr) (xs:Array Value) (c:String):Prop:=(c="list_iterator"/\h.IsList a xs)\/(c="tuple_iterator"/\h.IsTuple a xs)
theorem Ve.src {h h':Heap} {a it:Addr} {xs:Array Value} {c:String} (q:Ve h a xs c) (k:∀o,h.get? a=some o->h'.get? a=some o) (e:h'.get? it=some { cls:=.type c,data:=.fields #[.ref a,.int 0 0] }):SrcAt h' ⟨it,a,xs⟩ 0:=by
 rcases q with⟨rfl,q⟩|⟨rfl,o,ho,r⟩
 ·exact .inl ⟨⟨_,e,rq,rq⟩,q.at k⟩
 ·exact .inr ⟨⟨_,e,rq,rq⟩,o,k o ho,r⟩
theorem Ve.lt {h:Heap} {a:Addr} {xs:Array Value} {c:String} (q:Ve h a xs c):a < h.objs.size:=by
 rcases q with⟨rfl,o,e,_⟩|⟨rfl,o,e,_⟩
 ·exact QbW e
 ·exact QbW e
abbrev itO (c:String) (l:Addr):Obj:={ cls:=.type c,data:=.fields #[.ref l,.int 0 0] }
abbrev tuO (xs:Array Value):Obj:={ cls:=.type "tuple",data:=.seq xs }
abbrev z2a (h:Heap) (c1 c2:String) (l1 l2:Addr):Heap:=((((h.push (itO c1 l1)).push (itO c2 l2)).push (tuO #[.ref h.objs.size,.ref (h.push (itO c1 l1)).objs.size])).push (tuO #[.none,.none]))
abbrev z2 (h:Heap) (c1 c2:String) (l1 l2:Addr):Heap:=(z2a h c1 c2 l1 l2).push
 { cls:=.type "zip",data:=.fields #[.none,.bool false,.bool false,.ref ((h.push (itO c1 l1)).push (itO c2 l2)).objs.size,.ref (((h.push (itO c1 l1)).push (itO c2 l2)).push (tuO #[.ref h.objs.size,.ref (h.push (itO c1 l1)).objs.size])).objs.size] }
abbrev z3a (h:Heap) (c1 c2 c3:String) (l1 l2 l3:Addr):Heap:=(((((h.push (itO c1 l1)).push (itO c2 l2)).push (itO c3 l3)).push (tuO #[.ref h.objs.size,.ref (h.push (itO c1 l1)).objs.size,.ref ((h.push (itO c1 l1)).push (itO c2 l2)).objs.size])).push (tuO #[.none,.none,.none]))
abbrev z3 (h:Heap) (c1 c2 c3:String) (l1 l2 l3:Addr):Heap:=(z3a h c1 c2 c3 l1 l2 l3).push
 { cls:=.type "zip",data:=.fields #[.none,.bool false,.bool false,.ref (((h.push (itO c1 l1)).push (itO c2 l2)).push (itO c3 l3)).objs.size,.ref ((((h.push (itO c1 l1)).push (itO c2 l2)).push (itO c3 l3)).push (tuO #[.ref h.objs.size,.ref (h.push (itO c1 l1)).objs.size,.ref ((h.push (itO c1 l1)).push (itO c2 l2)).objs.size])).objs.size] }
section
variable {prog:Program} {w:World} {A:Around} {E:YA} {s:Shared}
end
end PySem.ZZ
namespace PySem
namespace F
end F
end PySem
namespace PySem.ZZ
open PySem
section
variable {prog:Program} {w:World} {A:Around} {E:YA} {s:Shared}
structure Run (hb:Heap) (z TI TO:Addr) (ls:List Src) (rows:Nat->YE) (S:Addr) (ts:List Addr) (h:Heap):Prop where
 inc:ts.Pairwise (· < ·)
 lo:∀t∈ts,S < t/\t < h.objs.size
 at_:∀j t,ts[j]?=some t->Mq h t (rows j)
 keep:∀c o,hb.get? c=some o->h.get? c=some o
 hTI:Mq h TI (ls.map λx=>.ref x.it)
 hTO:∃olds,Mq h TO olds/\olds.length=ls.length
 src:∀x∈ls,SrcAt h x ts.length
 hz:(ts=[]/\IsZ h z TI TO .none (.bool false))\/∃(T:Addr) (f1:Value),ts[0]?=some T/\IsZ h z TI TO (rawInt T) f1
structure Below (hb:Heap) (z TI TO:Addr) (ls:List Src) (S:Addr):Prop where
 ap:Apart z TI TO ls
 old:hb.objs.size<=z/\hb.objs.size<=TI/\hb.objs.size<=TO/\∀x∈ls,hb.objs.size<=x.it
 lz:z < S
 lTI:TI < S
 lTO:TO < S
 it:∀x∈ls,x.it < S/\x.a < S
 base:hb.objs.size<=S
theorem Run.frame {hb:Heap} {z TI TO:Addr} {ls:List Src} {rows:Nat->YE} {S:Addr} {ts:List Addr} {h h':Heap} (B:Below hb z TI TO ls S) (r:Run hb z TI TO ls rows S ts h) (hs:h'.objs.size=h.objs.size) (k:∀c o,c≠S->h.get? c=some o->h'.get? c=some o):Run hb z TI TO ls rows S ts h':=by
 obtain⟨olds,o1,o2⟩:=r.hTO;refine⟨r.inc,λt ht=>by rw[hs];exact r.lo t ht,λj t e=>k _ _ (Qcb (r.lo t (QaB e)).1) (r.at_ j t e),λc o e=>k _ _ (QbX (QaR (QbW e) B.base)) (r.keep c o e),k _ _ (QbX B.lTI) r.hTI,⟨olds,k _ _ (QbX B.lTO) o1,o2⟩,λx hx=>?_,?_⟩
 ·exact (r.src x hx).keep (λo e=>k _ _ (QbX (B.it x hx).1) e) (λo e=>k _ _ (QbX (B.it x hx).2) e)
 ·rcases r.hz with⟨e,q⟩|⟨T,f1,e,q⟩
  ·exact .inl ⟨e,k _ _ (QbX B.lz) q⟩
  ·exact .inr ⟨T,f1,e,k _ _ (QbX B.lz) q⟩
theorem Run.more {hb:Heap} {z TI TO:Addr} {ls:List Src} {rows:Nat->YE} {S:Addr} {ts:List Addr} {h h':Heap} (B:Below hb z TI TO ls S) (r:Run hb z TI TO ls rows S ts h) (hS:S < h.objs.size) (hs:h'.objs.size=h.objs.size+1) (hr:Rest z TO ls h h')
  (hTI:Mq h' TI (ls.map λx=>.ref x.it)) (hTO:∃olds,Mq h' TO olds/\olds.length=ls.length) (src:∀x∈ls,SrcAt h' x (ts.length+1)) (new:Mq h' h.objs.size (rows ts.length)) (hz:∃(T:Addr) (f1:Value),(ts++[h.objs.size])[0]?=some T/\IsZ h' z TI TO (rawInt T) f1):Run hb z TI TO ls rows S (ts++[h.objs.size]) h':=by
 have fr:∀t,S < t->t≠z/\t≠TO/\t∉ls.map (·.it):=λt ht=>⟨λe=>by rw[e] at ht;exact Nat.lt_asymm ht B.lz,λe=>by rw[e] at ht;exact Nat.lt_asymm ht B.lTO,λe=>by
  obtain⟨x,hx,e'⟩:=QbZ.mp e;rw[<-e'] at ht;exact Nat.lt_asymm ht (B.it x hx).1⟩
 refine⟨?_,λt ht=>?_,λj t e=>?_,λc o e=>?_,hTI,hTO,λx hx=>by rw[QaM];exact src x hx,.inr hz⟩
 ·exact List.pairwise_append.mpr ⟨r.inc,List.pairwise_singleton _ _,λa ha b hb'=>by
   have:b=h.objs.size:=by simpa using hb'
   rw[this];exact (r.lo a ha).2⟩
 ·rw[hs];rcases Qbv.mp ht with ht | ht
  ·have:=r.lo t ht;exact⟨this.1,Qbg this.2⟩
  ·have:t=h.objs.size:=by simpa using ht
   rw[this];exact⟨hS,Qbp _⟩
 ·by_cases c:j < ts.length
  ·rw[Qaj c] at e;have hlo:=r.lo t (QaB e);obtain⟨f1,f2,f3⟩:=fr t hlo.1;exact hr t _ f1 f2 f3 (r.at_ j t e)
  ·rw[Qae (Nat.le_of_not_lt c)] at e;have hj:j - ts.length=0:=by
    have:=(Qag.mp e).1;rw[QaA] at this;omega
   rw[hj] at e;cases e;have:j=ts.length:=by omega
   rw[this];exact new
 ·have hlt:=QbW e;refine hr c o (λq=>?_) (λq=>?_) (λq=>?_) (r.keep c o e)
  ·rw[q] at hlt;exact absurd hlt (Nat.not_lt.mpr B.old.1)
  ·rw[q] at hlt;exact absurd hlt (Nat.not_lt.mpr B.old.2.2.1)
  ·obtain⟨x,hx,e'⟩:=QbZ.mp q;rw[<-e'] at hlt;exact absurd hlt (Nat.not_lt.mpr (B.old.2.2.2 x hx))
end
end PySem.ZZ
namespace PySem.ZZ
open PySem
section
variable {prog:Program} {w:World} {A:Around} {E:YA} {s:Shared}
structure Rows (ls:List Src) (n:Nat) (rows:Nat->YE):Prop where
 row:∀j,j < n->(rows j).length=ls.length/\∀(k:Nat) (x:Src),ls[k]?=some x->∃v,(rows j)[k]?=some v/\x.items[j]?=some v
 stop:∃x∈ls,x.items[n]?=none
 ne:ls≠[]
 few:ls.length<=100
 most:n<=1000
end
end PySem.ZZ
namespace L2
open PySem PySem.Spec PyProof.Rows
section
variable {X:Cx} {jb:YC} {U : St} {H:Hp} {s:Shared} {h':Heap}
theorem Inv.grown {H':Hp} {t':Nat} (I:Inv X jb U H s) (k:∀b u,s.heap.get? b=some u->h'.get? b=some u) (old:∀b,b < s.heap.objs.size->H' b=H b)
  (new:∀b o,s.heap.objs.size<=b->H' b=some o->Az X.prog X.w H' h' b o):Inv X jb U H' { s with heap:=h',toks:=t' }:=by
 have tr:∀b u,H b=some u->H' b=some u:=λb u e=>by rw[old b (I.hok.lt e)];exact e
 refine I.step (g':=s.gens) (d':=s.drawn) (ch:=[]) (λb hb=>by cases hb) (λb u _ _ _ e _=>k b u e) (λb u _ _ _ e _=>⟨u.slots,k b u e⟩) (λb u _ e n=>by rw[old b (QbW e)];exact n)
  (λb u _ e=>⟨u,k b u e⟩) (λ_ _ e=>tr _ _ e) (λ_ _ _ e=>tr _ _ e) (λb ps e=>⟨#[],by rw[tr _ _ e];simp⟩) (λm hm=>?_) (λb u e=>?_) I.bare
 ·obtain⟨u,es,ep,hu,r⟩:=hm;exact⟨u,es,ep,k _ u hu,r⟩
 ·by_cases hb:b < s.heap.objs.size
  ·rw[old b hb] at e;exact (I.hok b u e).stay (λc v _ q=>k c v q) (λc q=>tr _ _ q) λc xs q=>tr _ _ q
  ·exact new b u (Nat.le_of_not_lt hb) e
end
section
variable {X:Cx}
end
mutual
inductive JT (K:YD) (H:Hp):V->PyData->Prop
 | non:JT K H .non .none
 | bl (b:Bool):JT K H (.bl b) (.bool b)
 | int (i:Int):JT K H (.int i) (.int i)
 | str (x:Str):JT K H (.str x) (.str x)
 | tup {a:Addr} {xs:YG} {ds:List PyData}:SqT K H a xs->Ij K H xs ds->JT K H (.ref a) (.tuple ds)
inductive Ij (K:YD) (H:Hp):YG->List PyData->Prop
 | nil:Ij K H [] []
 | cons {x:V} {d:PyData} {xs:YG} {ds:List PyData}:JT K H x d->Ij K H xs ds->Ij K H (x::xs) (d::ds)
end
section
variable {X:Cx} {jb:YC} {U : St} {H:Hp} {s:Shared}
mutual
theorem JT.reads (I:Inv X jb U H s):∀{v:V} {d:PyData} {u:Value},JT X.K H v d->RelV v u->∃as,Reads s.heap u d as
 | _,_,_,.non,r=>by cases (show _=Value.none from r);exact⟨_,.none⟩
 | _,_,_,.bl b,r=>by cases (show _=Value.bool b from r);exact⟨_,.bool b⟩
 | _,_,_,.int i,r=>by obtain⟨t,rfl⟩:=(show ∃t,_=Value.int i t from r);exact⟨_,.int i t⟩
 | _,_,_,.str x,r=>by obtain⟨t,rfl⟩:=(show ∃t,_=Value.str x t from r);exact⟨_,.str x t⟩
 | _,_,_,.tup (a:=a) (xs:=xs) e q,r=>by
  cases (show _=Value.ref a from r)
  obtain⟨its,rv,⟨o,ho,hc,n,hd⟩,_⟩:=I.tuple e;obtain⟨as,z⟩:=Ij.reads I q rv;exact⟨_,.tuple ho hc hd (by simpa using z)⟩
theorem Ij.reads (I:Inv X jb U H s):∀{xs:YG} {ds:List PyData} {us:YE},Ij X.K H xs ds->Vals xs us->∃as,ReadsAll s.heap us ds as
 | _,_,_,.nil,.nil=>⟨_,.nil⟩
 | _,_,_,.cons p q,.cons r t=>by
  obtain⟨as,a1⟩:=JT.reads I p r;obtain⟨bs,b1⟩:=Ij.reads I q t;exact⟨_,.cons a1 b1⟩
end
end
section
variable {X:Cx} {K:YD}
theorem K4 {es:YJ} {k:Nat} {pos:Pos} {t:TGs} {n:Nat} (hK:X.K=K) (hc:X.calm=true) (h:PGs X es t)
  (hn:(assignEach es X.env).length=n:=by rfl) (hst:(assignEach es X.env).findIdx? (·.1)=none:=by rfl):PG X (.Tuple es k pos) (cu K n t):=hK ▸ CG hc h hn hst
end
end L2
namespace L2
open PySem PySem.Spec PyProof.Rows
abbrev Yz:YE:=[.type "ValueError",.type "Exception",.type "BaseException",.type "object"]
structure XCl (K:YD) (C:Addr):Prop where
 ex:PySem.W.excIn K C Yz "ValueError.__new__"=true
 ga:findIn K (.ref C) "__getattribute__"=some (some (.builtin "BaseException.__getattribute__"))
 gn:findIn K (.ref C) "__getattr__"=some none
 ca:findIn K (.ref C) "__class__"=some (some (.builtin "object.__class__"))
 mo:PySem.W.subIn K (.ref C) (.type "object")=some true
 mb:PySem.W.subIn K (.ref C) (.type "BaseException")=some true
 kp:keepIn K (.ref C)=true
section
variable {K:YD} {C:Addr}
theorem XCl.look (T:XCl K C):∃dd cd sl,K.lookup C=some ⟨.type "type",dd,.cls cd,sl⟩:=by
 have q:=T.ex;unfold PySem.W.excIn at q;split at q
 ·rename_i dd cd sl ho;exact⟨dd,cd,sl,ho⟩
 ·cases q
theorem XCl.obj (T:XCl K C) {h:Heap} (X:K.In h):∃bm N nm q bs hdct sn sub ab col dd k0 k1 k2 k3 k5 mN,h.get? C=some (excClassObj nm q C N bs bm hdct sn sub ab col dd k0 k1 k2 k3 k5 "ValueError.__new__")/\h.Ns N mN/\mN "__init__"=none/\OwnTail h Yz bm:=by
 have q:=T.ex;unfold PySem.W.excIn at q;split at q
 ·rename_i dd cd sl ho;split at q
  ·rename_i C' bm k0 k1 k2 k3 n k5 hm hs;simp only[Qbo,beq_iff_eq,Bool.not_eq_true'] at q;obtain⟨⟨⟨⟨⟨rfl,rfl⟩,hdel⟩,ht⟩,hok⟩,hni⟩:=q;obtain⟨nm,bs,mro,ns,qn,hd,sn,sub,ab,col,del⟩:=cd;dsimp only at hm hdel hok hni;subst hm hdel;have hsl:sl=#[k0,k1,k2,k3,some (.builtin "ValueError.__new__"),k5]:=by
    obtain⟨l⟩:=sl;simp only at hs;rw[hs]
   subst hsl;exact⟨bm,ns,nm,qn,bs,hd,sn,sub,ab,col,dd,k0,k1,k2,k3,k5,_,X _ _ ho,.of_isNs (PySem.W.isNs_of_in X hok),PySem.W.nsMap_none_of_in X hok hni,PySem.W.tail_of_in X ht⟩
  ·cases q
 ·cases q
end
def XAt (a C:Addr) (h:Heap):Prop:=∃o vs,h.get? a=some o/\o.cls=.ref C/\o.data=.fields vs/\vs[2]?=some .none
section
variable {prog:Program} {w:World} {A:Around} {E:YA} {h:Heap} {g:Array GenState} {d:Drawn} {t:Nat} {os:OsState} {K:YD} {a C:Addr} {o:Obj}
end
section
variable {X:Cx} {jb:YC} {U : St} {H:Hp} {s:Shared}
end
def XT (B:Heap) (e C:Addr) (fl:Option Value) (h:Heap):Prop:=
 ∃oe vs,h.get? e=some oe/\oe.cls=.ref C/\oe.data=.fields vs/\vs[2]?=some .none /\
  match fl with
  | none=>vs[1]?=some .none
  | some f=>∃T oT ts,vs[1]?=some (.ref T)/\B.get? T=none/\T≠e/\h.get? T=some oT/\oT.data=.fields ts/\ts[3]?=some f
structure Fl (B:Heap) (l:List Env) (e C:Addr) (fl:Option Value) (h:Heap):Prop where
 stays:B.StaysIn h
 new:B.get? e=none
 fr:h.FunFrames B l
 tr:XT B e C fl h
theorem XT.at {B h:Heap} {e C:Addr} {fl:Option Value} (x:XT B e C fl h):XAt e C h:=by
 obtain⟨oe,vs,h1,h2,h3,h4,_⟩:=x;exact⟨oe,vs,h1,h2,h3,h4⟩
section
variable {M:Model} {A:Around} {E:YA} {s:Shared} {B:Heap} {env:Env} {outer l:List Env} {L e C:Addr} {Q:YH}
end
theorem Az.there {P:Program} {w:World} {H:Hp} {h:Heap} {a:Addr} {o:HO} (x:Az P w H h a o):∃u,h.get? a=some u:=by
 cases o with
 | lst xs=>obtain⟨_,its,n,_,q⟩:=x;exact⟨_,q⟩
 | tup xs=>obtain⟨_,its,_,ob,q,_⟩:=x;exact⟨_,q⟩
 | dK kvs=>obtain⟨_,_,vs,_,ob,es,ep,q,_⟩:=x;exact⟨_,q⟩
 | dT kvs=>obtain⟨_,_,xs,_,ob,es,ep,q,_⟩:=x;exact⟨_,q⟩
 | set S n=>obtain⟨ob,es,ep,t,q,_⟩:=x;exact⟨_,q⟩
 | ins C dx fs=>obtain⟨_,_,_,q,_⟩:=x;exact⟨_,q⟩
 | own y=>exact x
 | xd fs=>obtain⟨mA,⟨od,es,ep,q,_⟩,_⟩:=x;exact⟨_,q⟩
 | rng lo hi=>obtain⟨t,u,v,q⟩:=x;exact⟨_,q⟩
 | frz ob u=>exact⟨_,x.1⟩
 | tbl ps=>exact⟨_,x⟩
 | met f y=>exact⟨_,x⟩
 | ext φ=>exact x.2.1
structure Exc (P:Program) (w:World) (outer:List Env) (H:Hp) (s:Shared) (e C:Addr) (B:Heap) (H':Hp) (s':Shared):Prop where
 os:s'.os=s.os
 bare:AllBare s'.gens
 fl:∃fl,(fl=none\/fl=some .none)/\Fl B outer e C fl s'.heap
 un:Un (frs outer) [] H H' s.heap s'.heap
 hok:HOk P w H' s'.heap
 tin:∀b o,s'.heap.get? b=some o->H' b≠none->B.get? b=some o
 old:∀b o,s.heap.get? b=some o->H b=none->b∉frs outer->B.get? b=some o
 ex:∀b o,s.heap.get? b=some o->b∉frs outer->∃o',B.get? b=some o'
section
variable {P:Program} {w:World} {outer:List Env} {H H':Hp} {s s':Shared} {e C:Addr} {B h2:Heap} {fl:Option Value}
theorem Exc.free (x:Exc P w outer H s e C B H' s'):H' e=none:=by
 cases hq:H' e with
 | none=>rfl
 | some v=>
  obtain⟨o1,q1⟩:=(x.hok e v hq).there;have q2:=x.tin e o1 q1 (by rw[hq];exact λz=>nomatch z);obtain⟨_,_,g⟩:=x.fl;rw[g.new] at q2;cases q2
theorem Exc.fresh (x:Exc P w outer H s e C B H' s'):s.heap.get? e=none:=by
 cases hq:s.heap.get? e with
 | none=>rfl
 | some o=>
  obtain⟨_,_,g⟩:=x.fl;by_cases hb:e∈frs outer
  ·obtain⟨_,o1,q1,nf⟩:=g.fr.mem hb;obtain⟨oe,vs,q2,_,q3,_⟩:=g.tr;rw[q1] at q2;cases q2;exact absurd q3 (nf vs)
  ·obtain⟨o1,q1⟩:=x.ex e o hq hb;rw[g.new] at q1;cases q1
end
section
variable {X:Cx} {jb:YC} {U : St} {H H':Hp} {s s':Shared} {e C:Addr} {B h2:Heap} {fl:Option Value}
theorem Exc.made {args:YE} {h':Heap} (I:Inv X jb U H s) (hx:Heap.MadeExcOf s.heap h' e (.ref C) args):Exc X.prog X.w X.stack H s e C (hideAll s.heap (frs X.stack)) H { s with heap:=h' }:=by
 have st:(hideAll s.heap (frs X.stack)).StaysIn s.heap:=λb o q=>PySem.W.of_hideAll _ q;refine⟨rq,I.bare,⟨none,.inl rfl,⟨λb o q=>hx.keeps b o (st b o q),?_,?_,?_⟩⟩,Un.kept hx.keeps,I.hok.kept hx.keeps,λb o q hb=>?_,λb o q n hb=>hideAll_get _ q hb,λb o q hb=>⟨o,hideAll_get _ q hb⟩⟩
 ·cases hq:(hideAll s.heap (frs X.stack)).get? e with
  | none=>rfl
  | some o=>
   have q:=st e o hq;rw[hx.new] at q;cases q
 ·have f0:s.heap.FunFrames (hideAll s.heap (frs X.stack)) X.stack:=PySem.W.funFrames_hide I.stack λenv he a ha=>List.mem_filterMap.mpr ⟨env,he,ha⟩;exact f0.of_keeps λb o q _=>⟨o,hx.keeps b o q,rq⟩
 ·obtain⟨t,q,_⟩:=hx.there;exact⟨_,_,q,rq,rq,rq,rq⟩
 ·cases hq:H b with
  | none=>exact absurd hq hb
  | some v=>
   obtain⟨o1,q1⟩:=(I.hok b v hq).there;have q2:=hx.keeps b o1 q1;have q':h'.get? b=some o:=q;rw[q'] at q2;cases q2;refine hideAll_get _ q1 λhm=>?_;rw[I.NP b hm] at hq;cases hq
end
theorem PS.nox {X:Cx} {st:Stmt} {t:TS} (h:PS X.nox st t):PS X st t:=λjb s U H D I hw=>
 Qck (h jb s U H D (I.wish _) hw) (λ_ _ q=>q.DX) λ_ _ z=>False.elim z
section
variable {M:Model} {A:Around} {E:YA} {h:Heap} {g:Array GenState} {d:Drawn} {t:Nat} {os:OsState} {K:YD} {e C HC:Addr}
end
abbrev Cx.by (X:Cx) (pn:YC) (E:YA):Cx:={ X with pn:=pn,xe:=E }
section
variable {X:Cx} {jb Um pn:YC} {U : St} {H:Hp} {s:Shared} {E:YA} {ev:Value}
theorem Inv.by (I:Inv X jb U H s) (E:YA):Inv (X.by (X.pn++jb) E) [] U H s:=
 ⟨⟨I.ok.mod,I.ok.kind,I.ok.glob,I.ok.blt,I.ok.above,I.ok.inj,I.ok.has,I.ok.cab,I.ok.hd,I.ok.frames,I.ok.stk,I.ok.exf,I.ok.bs,I.ok.bsz,I.ok.Og,I.ok.Kw,I.ok.Gm,I.ok.frf⟩,I.os,I.bare,I.base,I.loc,I.cell,I.free,I.DW,
  λp hp=>I.pin p (by simpa using hp),I.hok,I.len⟩
end
def Ends.drop (D:Ends) (i:Nat):Ends where
 nx:=fun U H=>D.nx (U.set i none) H
 rt:=D.rt
 bk:=fun U H=>D.bk (U.set i none) H
 ct:=fun U H=>D.ct (U.set i none) H
structure Ii (k:Nat) (A:Around):Prop where
 dp:A.depth+3*k+5 < recursionLimit
 un:A.units+16*k+200 < cLine
theorem Ii.deeper {k:Nat} {A:Around} (r:Ii (k+1) A) (env:Env):Ii k (A.deeper env):=
 ⟨by have:=r.dp;show A.depth+1+3*k+5 < _;omega,by have:=r.un;show A.units+3+16*k+200 < _;omega⟩
theorem Ii.mono {j k:Nat} {A:Around} (r:Ii k A) (h:j<=k):Ii j A:=⟨by have:=r.dp;omega,by have:=r.un;omega⟩
theorem Ii.units {k:Nat} {A:Around} (r:Ii k A):A.units+64 < cLine:=by have:=r.un;omega
end L2
namespace L2
open PySem PySem.Spec PyProof.Rows PySem.SeqAt
theorem Fg {c:Const} {k:Nat} {p:Pos} {es:YJ} {env:Env}:starEach (.Constant c k p::es) env=(false,eval (.Constant c k p) env)::starEach es env:=by rfl
section
variable {X:Cx}
end
section
variable {prog:Program} {w:World} {A:Around} {E:YA} {s:Shared}
end
end L2
namespace L2
open PySem PySem.Spec PyProof.Rows
theorem Rf {k:Key} {u:Value} (h:JG k u=true):RelV (kV k) u:=by
 rcases BR h with⟨i,t,rfl,rfl⟩|⟨x,t,rfl,rfl⟩
 ·exact⟨t,rq⟩
 ·exact⟨t,rq⟩
section
variable {X:Cx} {jb:YC} {U : St} {H:Hp} {s:Shared} {a:Addr} {kvs:YM} {o:Obj}
theorem Inv.freeze (I:Inv X jb U H s) (e:H a=some (.dK kvs)):∃o,s.heap.get? a=some o/\Inv X jb U (upd H a (.frz o (.dK kvs))) s:=by
 obtain⟨o,ho⟩:=(I.hok a _ e).there;have n0:∀b,H b=none->b≠a:=λb n z=>by rw[z,e] at n;cases n
 have n1:∀b u,H b=some u->u≠.dK kvs->b≠a:=λb u q nu z=>by rw[z,e] at q;exact nu (Qby q).symm
 refine⟨o,ho,I.step (h':=s.heap) (g':=s.gens) (d':=s.drawn) (t':=s.toks) (ch:=[]) (λb hb=>absurd hb (by simp)) (λb u _ _ _ q _=>q) (λb u _ _ _ q _=>⟨u.slots,q⟩) (λb u _ q n=>by rw[Aj (n0 b n)];exact n)
  (λb u _ q=>⟨u,q⟩) (λb xs q=>by rw[Aj (n1 b _ q (by intro z;cases z))];exact q) (λb u v q=>by rw[Aj (n1 b _ q (by intro z;cases z))];exact q)
  (λb ps q=>⟨#[],by rw[Aj (n1 b _ q (by intro z;cases z)),q];simp⟩) (λm hm=>hm) (λb u q=>?_) I.bare⟩
 have st:∀b u,Az X.prog X.w H s.heap b u->Az X.prog X.w (upd H a (.frz o (.dK kvs))) s.heap b u:=λb u x=>
  x.stay (λ_ _ _ q=>q) (λc q=>by rw[Aj (n1 c _ q (by intro z;cases z))];exact q) λc xs q=>by rw[Aj (n1 c _ q (by intro z;cases z))];exact q
 by_cases hb:b=a
 ·subst hb;rw[Ab] at q;cases q;exact⟨ho,st _ _ (I.hok _ _ e)⟩
 ·rw[Aj hb] at q;exact st _ _ (I.hok b u q)
theorem Inv.Ln (I:Inv X jb U H s) (e:H a=some (.frz o (.dK kvs))) (h0:∀o' u,X.H₀ a≠some (.frz o' u)):Inv X jb U (upd H a (.dK kvs)) s:=by
 have n0:∀b,H b=none->b≠a:=λb n z=>by rw[z,e] at n;cases n
 have n1:∀b u,H b=some u->u≠.frz o (.dK kvs)->b≠a:=λb u q nu z=>by rw[z,e] at q;exact nu (Qby q).symm
 refine⟨I.ok,I.os,I.bare,⟨I.base.keep,I.base.slot,λb u q n hx=>?_,I.base.there,λb xs q=>?_,λb u v q=>?_,λb ps q=>?_⟩,I.loc,I.cell,?_,λx c q=>?_,λp hp=>?_,λb u q=>?_,I.len⟩
 ·rw[Aj (n0 b (I.base.free b u q n hx))];exact I.base.free b u q n hx
 ·have z:=I.base.tups b xs q;rw[Aj (n1 b _ z (by intro w;cases w))];exact z
 ·have z:=I.base.Es b u v q;have nb:b≠a:=λw=>h0 u v (by rw[<-w];exact q);rw[Aj nb];exact z
 ·obtain⟨m,z⟩:=I.base.Fe b ps q;exact⟨m,by rw[Aj (n1 b _ z (by intro w;cases w))];exact z⟩
 ·rw[Aj (n0 _ I.free)];exact I.free
 ·rw[Aj (n0 _ (I.DW x c q))];exact I.DW x c q
 ·obtain⟨p1,p2,p3⟩:=I.pin p hp;exact⟨p1,by rw[Aj (n0 _ p2)];exact p2,p3⟩
 ·have st:∀b u,Az X.prog X.w H s.heap b u->Az X.prog X.w (upd H a (.dK kvs)) s.heap b u:=λb u x=>
   x.stay (λ_ _ _ q=>q) (λc q=>by rw[Aj (n1 c _ q (by intro z;cases z))];exact q) λc xs q=>by rw[Aj (n1 c _ q (by intro z;cases z))];exact q
  by_cases hb:b=a
  ·subst hb;rw[Ab] at q;cases q;exact st _ _ (show Az X.prog X.w H s.heap b (.frz o (.dK kvs)) from I.hok _ _ e).2
  ·rw[Aj hb] at q;exact st _ _ (I.hok b u q)
end
def RN (H0 H:Hp) (P:Hp->Prop):Prop:=∃a o kvs,H a=some (.frz o (.dK kvs))/\(∀o' u,H0 a≠some (.frz o' u))/\P (upd H a (.dK kvs))
def Ends.Ln (D:Ends) (H0:Hp):Ends where
 nx:=fun U H=>RN H0 H (D.nx U)
 rt:=λv H=>RN H0 H (D.rt v)
 bk:=fun U H=>RN H0 H (D.bk U)
 ct:=fun U H=>RN H0 H (D.ct U)
def cW (H0:Hp) (t:TS):TS:=λD U H=>t (D.Ln H0) U H
def au (H0:Hp) (t:TE):TE:=fun U H Q=>t U H λv H1=>RN H0 H1 (Q v)
theorem Zv {X:Cx} {st:Stmt} {t:TS} {H0:Hp} (h0:X.H₀=H0) (h:PS X st t):PS X st (cW H0 t):=by
 subst h0;intro jb s U H D I q;refine thn (h jb s U H _ I q) λf s1 z=>?_;cases f with
 | next=>obtain⟨σ',H',I',a,o,kvs,e,n,q'⟩:=z;exact⟨σ',_,I'.Ln e n,q'⟩
 | brk=>obtain⟨σ',H',I',a,o,kvs,e,n,q'⟩:=z;exact⟨σ',_,I'.Ln e n,q'⟩
 | cont=>obtain⟨σ',H',I',a,o,kvs,e,n,q'⟩:=z;exact⟨σ',_,I'.Ln e n,q'⟩
 | ret u=>obtain⟨v,σ',H',I',r,a,o,kvs,e,n,q'⟩:=z;exact⟨v,σ',_,I'.Ln e n,r,q'⟩
theorem Te {X:Cx} {x:Expr} {t:TE} {H0:Hp} (h0:X.H₀=H0) (h:PE X x t):PE X x (au H0 t):=by
 subst h0;intro jb s U H Q I q;refine thn (h jb s U H _ I q) λu s1 zz=>?_;obtain⟨v,H',I',r,a,o,kvs,e,n,q'⟩:=zz;exact⟨v,_,I'.Ln e n,r,q'⟩
def OD (a:Addr) (o:Obj) (kvs:YM):It:=
 ⟨λi H=>i < kvs.length/\H a=some (.frz o (.dK kvs)),λi H x H'=>H'=H/\∃kv,kvs[i]?=some kv/\x=kV kv.1,λi H=>i=kvs.length/\H a=some (.frz o (.dK kvs))⟩
theorem JM {X:Cx} {jb:YC} {U : St} {H:Hp} {s:Shared} {a:Addr} {kvs:YM} {o:Obj} {es:YK} {ep:Nat} (I:Inv X jb U H s) (e:H a=some (.frz o (.dK kvs))) (ho:o.data=.dict es ep) :
  (a == sysModules)=false/\∃vs,KV kvs vs/\s.heap.DictAt (Bj X.prog X.w) a vs ep:=by
 obtain⟨h1,_,h2,vs,h3,ob,es',ep',h4,h5,h6,h7⟩:=(show Az X.prog X.w H s.heap a (.frz o (.dK kvs)) from I.hok a _ e)
 have z:=h1.symm.trans h4;cases z;rw[ho] at h6;cases h6;exact⟨h2,vs,h3,o,es,h1,h5,ho,h7⟩
theorem Uv {kvs:YM} {vs:List (Key×Value)} {i:Nat} {kv:Key×V} (r:KV kvs vs) (h:kvs[i]?=some kv):∃x,vs[i]?=some (kv.1,x)/\RelV kv.2 x:=by
 have go:∀{l:YM} {m:List (Key×Value)} {i:Nat} {p:Key×V},Paired (λ(p:Key×V) (q:Key×Value)=>p.1=q.1/\RelV p.2 q.2) l m->l[i]?=some p->∃x,m[i]?=some (p.1,x)/\RelV p.2 x:=by
  intro l m i p r
  induction r generalizing i with
  | nil=>intro h;cases h
  | cons a t ih=>
   intro h;cases i with
   | zero=>cases h;exact⟨_,by rw[a.1];rfl,a.2⟩
   | succ i=>exact ih h
 exact go r h
theorem Zi {P:Program} {w:World} {K:YD} {tg:Expr} (a it:Addr) (o:Obj) (kvs:YM) {es:YK} {ep:Nat} (ho:o.data=.dict es ep):Turn P w K tg (OD a o kvs) [it] it (λi h=>h.IsKeyIter it a i kvs.length ep) where
 mem:=by simp
 obj:=λi h st b hb=>by
  have e:b=it:=by simpa using hb
  subst e;obtain⟨oi,q,c,d⟩:=st;exact⟨oi,q,λv z=>by rw[d] at z;cases z⟩
 keep:=λi h h' st k=>st.at λob q=>k it (by simp) ob q
 item:=by
  intro X hP hw hK hc i jb s U H E I hf st hg;subst hP hw hK;obtain⟨hi,hfz⟩:=hg;obtain⟨_,vs,rel,da⟩:=JM I hfz ho;have hlen:kvs.length=vs.length:=KV.length rel;obtain⟨kv,hkv⟩ : ∃kv,kvs[i]?=some kv:=⟨kvs[i],by simp[hi]⟩;obtain⟨x,hx,rx⟩:=Uv rel hkv;rw[hlen] at st;refine wpAny_pyNext_dict_item st da hx λkey h' hkey st' sb=>?_;have I1:Inv X jb U H { s with heap:=h' }:=I.Iv (t':=s.toks) (λb ob hb q=>(sb.2 b (λz=>hb (by simp[z]))).trans q) hf;obtain⟨oi,q,c,d⟩:=id st';rw[<-hlen] at st';exact⟨key,rq,Nj (s:={ s with heap:=h' }) q c d (by decide) ⟨kV kv.1,H,I1,Rf hkey,⟨rq,kv,hkv,rq⟩,st',λb hb=>(hf b hb).1⟩⟩
 done:=by
  intro X hP hw hK hc i jb s U H E I hf st hg;subst hP hw hK;obtain⟨hi,hfz⟩:=hg;obtain⟨_,vs,rel,da⟩:=JM I hfz ho;have hlen:kvs.length=vs.length:=KV.length rel;rw[hlen] at st;exact wpAny_pyNext_dict_end (I.ok.hd hc) st da (by simp;omega) λh' ext=>⟨rq,I.Iv (t':=s.toks) (λb ob hb q=>ext b ob (λz=>hb (by simp[z])) q) hf⟩
 self:=λA i s Q E st q=>wpAny_pyIter_keyiter st q
def dN (td:TE):TI:=fun U H R=>td U H λx H1=>∃a kvs,x=.ref a/\H1 a=some (.dK kvs)/\∀o,R (OD a o kvs) (upd H1 a (.frz o (.dK kvs)))
theorem Td {X:Cx} {tg d:Expr} {td:TE} (hd:PE X d td):PI X tg d (dN td):=by
 intro jb s U H R I h;refine thn (hd jb s U H _ I h) λv s1 zz=>?_;obtain⟨x,H1,I1,r1,a,kvs,ex,e,q⟩:=zz;subst ex;cases r1;obtain⟨o,ho,I2⟩:=I1.freeze e;obtain⟨_,hsm,vs,rel,ob,es,ep,h4,h5,h6,h7⟩:=(show Az X.prog X.w H1 s1.heap a (.dK kvs) from I1.hok a _ e)
 rw[ho] at h4;cases h4;have da:s1.heap.DictAt (Bj X.prog X.w) a vs ep:=⟨o,es,ho,h5,h6,h7⟩;refine wpAny_pyIter_dict hsm da ?_;refine⟨s1.heap.objs.size,[s1.heap.objs.size],_,_,_,rq,I2.kept (t':=s1.toks) λb u q=>Qas _ q,Zi a _ o kvs h6,?_,λb hb=>?_,q o⟩
 ·rw[KV.length rel];exact⟨_,QaG _ rfl,rq,rq⟩
 ·have z:b=s1.heap.objs.size:=by simpa using hb
  subst z;exact I2.Kv (Qce _) (I2.hok.fresh (Qce _))
def RP (a:Addr) (o:Obj) (kvs:YM):It:=
 ⟨λi H=>i < kvs.length/\H a=some (.frz o (.dK kvs)),λi H x H'=>∃p kv,H p=none/\kvs[i]?=some kv/\x=.ref p/\H'=upd H p (.tup [kV kv.1,kv.2]),λi H=>i=kvs.length/\H a=some (.frz o (.dK kvs))⟩
theorem JX:entryFor table "dict_itemiterator.__iter__"=some Builtin.«dict_keyiterator.__iter__»:=entryFor_alias (id':="dict_keyiterator.__iter__") (by kernel_rfl) rfl (by trivial) (by kernel_rfl)
theorem P0 {prog:Program} {w:World} {A:Around} {E:YA} {s:Shared} {it d:Addr} {i n ep:Nat} {ok ov:Value} {Q:YA} (hit:IsItemIter s.heap it d i n ep ok ov) (h:Q (.ref it) s) :
  wpAny (model prog w) A (pyIter (.ref it)) Q E s:=by
 have hT:s.TypeIs (.ref it) "dict_itemiterator":=⟨_,hit,rq⟩;refine wpAny_pyIter_slot hT F.slot_dict_itemiterator_iter (Qbn F.slot_dict_itemiterator_iter hT JX ?_ (F.args_dict_itemiterator_iter_1 _));exact Qcj ⟨_,rq,"dict_itemiterator",_,hT,F.slot_dict_itemiterator_next.lookup,h⟩
theorem Zj {P:Program} {w:World} {K:YD} {elts:YJ} {k:Nat} {pos:Pos} (a it:Addr) (o:Obj) (kvs:YM) {es:YK} {ep:Nat} (ho:o.data=.dict es ep) :
  Turn P w K (.Tuple elts k pos) (RP a o kvs) [it] it (λi h=>∃ok ov,IsItemIter h it a i kvs.length ep ok ov) where
 mem:=by simp
 obj:=λi h st b hb=>by
  have e:b=it:=by simpa using hb
  subst e;obtain⟨ok,ov,q⟩:=st;exact⟨_,q,λv z=>by cases (show Data.fields _=Data.cell v from z)⟩
 keep:=λi h h' st k=>by
  obtain⟨ok,ov,q⟩:=st;exact⟨ok,ov,k it (by simp) _ q⟩
 item:=by
  intro X hP hw hK hc i jb s U H E I hf st hg;subst hP hw hK;obtain⟨hi,hfz⟩:=hg;obtain⟨ok,ov,st⟩:=st;obtain⟨_,vs,rel,da⟩:=JM I hfz ho;have hlen:kvs.length=vs.length:=KV.length rel;obtain⟨kv,hkv⟩ : ∃kv,kvs[i]?=some kv:=⟨kvs[i],by simp[hi]⟩;obtain⟨x,hx,rx⟩:=Uv rel hkv;rw[hlen] at st;refine wpAny_pyNext_items_item st da hx λkey h' hkey hout htup hsz hkeep=>?_;refine⟨_,rq,wpAny_letOwnedTupleGo_items hout λh2 he2 hs2=>?_⟩;have nit:s.heap.objs.size≠it:=Qcb (QbW st);have new:Az X.prog X.w (upd H s.heap.objs.size (.tup [kV kv.1,kv.2])) h2 s.heap.objs.size (.tup [kV kv.1,kv.2]):=
   ⟨by show 2<=sizeLine;decide,[key,x],.cons (Rf hkey) (.cons rx .nil),_,(hs2.2 _ nit).trans htup,rq,0,rq⟩
  have I1:=I.J3 (h':=h2) (t':=s.toks) (Qce _) (λb q hb z=>(hs2.2 b (λw=>hb (by simp[w]))).trans (hkeep b q (λw=>hb (by simp[w])) z)) hf new;refine⟨.ref s.heap.objs.size,_,I1,rq,⟨s.heap.objs.size,kv,I.hok.fresh (Qce _),hkv,rq,rq⟩,⟨key,x,?_⟩,λb hb=>?_⟩
  ·rw[hlen];exact he2
  ·have z:b=it:=by simpa using hb
   subst z;rw[Aj (Ne.symm nit)];exact (hf b hb).1
 done:=by
  intro X hP hw hK hc i jb s U H E I hf st hg;subst hP hw hK;obtain⟨hi,hfz⟩:=hg;obtain⟨ok,ov,st⟩:=st;obtain⟨_,vs,rel,da⟩:=JM I hfz ho;have hlen:kvs.length=vs.length:=KV.length rel;rw[hlen] at st;exact wpAny_pyNext_items_end (I.ok.hd hc) st da (by simp;omega) λh' ext=>⟨rq,I.Iv (t':=s.toks) (λb ob hb q=>ext b ob (λz=>hb (by simp[z])) q) hf⟩
 self:=λA i s Q E st q=>by
  obtain⟨ok,ov,st⟩:=st;exact P0 st q
def bV (td:TE):TI:=fun U H R=>td U H λx H1=>∃a kvs,x=.ref a/\H1 a=some (.dK kvs)/\∀o,R (RP a o kvs) (upd H1 a (.frz o (.dK kvs)))
theorem Xj {X:Cx} {d:Expr} {td:TE} {elts:YJ} {k:Nat} {tp apos cpos:Pos} (hd:PE X d td) (hbase:attributeBase d "items" X.env (eval d X.env)=eval d X.env:=by rfl) (hline:(apos.endLine == cpos.line)=true:=by rfl) :
  PI X (.Tuple elts k tp) (.Call (.Attribute d "items" apos) [] [] cpos) (bV td):=by
 intro jb s U H R I h;refine wpAny_Call_method0_late hbase hline (thn (hd jb s U H _ I h) λv s1 zz=>?_);obtain⟨x,H1,I1,r1,a,kvs,ex,e,q⟩:=zz;subst ex;cases r1;obtain⟨t1,t2,hsm⟩:=Wn I1 (.inl ⟨kvs,.inl e⟩);obtain⟨o,ho,I2⟩:=I1.freeze e;obtain⟨_,_,vs,rel,ob,es,ep,h4,h5,h6,h7⟩:=(show Az X.prog X.w H1 s1.heap a (.dK kvs) from I1.hok a _ e)
 rw[ho] at h4;cases h4;have da:s1.heap.DictAt (Bj X.prog X.w) a vs ep:=⟨o,es,ho,h5,h6,h7⟩;refine⟨"dict","dict.items",F.plainAttrs_dict,F.slot_dict_items,F.type_dict_items,t1,t2,Calls.callWith_builtin rfl (PySem.evalArgs_none ?_)⟩;refine call_meetsIn F.slot_dict_items t1 F.entry_dict_items (F.args_dict_items_1 _) (meets_dict_items (Bj X.prog X.w) a hsm) ⟨⟨vs,da.dictOf⟩,?_⟩;have hz:(s1.heap.push { cls:=.type "dict_items",data:=.fields #[.ref a] }).objs.size=s1.heap.objs.size+1:=QbL ..;refine wpAny_pyIter_items (knd:=Bj X.prog X.w) (d:=a) (kvs:=vs) (ep:=ep) ⟨_,QaG _ rfl,rq,rq⟩ (da.push _) ?_;refine⟨(s1.heap.push { cls:=.type "dict_items",data:=.fields #[.ref a] }).objs.size,[(s1.heap.push { cls:=.type "dict_items",data:=.fields #[.ref a] }).objs.size],_,_,_,rq,
  I2.kept (t':=s1.toks) λb u q=>Qas _ (Qas _ q),Zj a _ o kvs h6,?_,λb hb=>?_,q o⟩
 ·rw[KV.length rel];exact⟨_,_,QaG _ rfl⟩
 ·have z:b=(s1.heap.push { cls:=.type "dict_items",data:=.fields #[.ref a] }).objs.size:=by simpa using hb
  have z2:s1.heap.objs.size<=b:=by rw[z,hz];exact Nat.le_succ _
  exact I2.Kv z2 (I2.hok.fresh z2)
section
variable {a l:Addr} {o:Obj} {kvs:YM} {g:TG} {tb:TS} {D:Ends} {U : St} {H:Hp} {tt:TT} {te tk tv:TE} {Q:VK}
theorem jZ (Pv:YN) (h0:Pv 0 U H) (hl:∀i U H',i<=kvs.length->Pv i U H'->H' a=some (.frz o (.dK kvs)))
  (hs:∀i kv U H',kvs[i]?=some kv->Pv i U H'->g (kV kv.1) U H' fun σ2 H2=>tb { D with nx:=Pv (i+1),ct:=Pv (i+1),bk:=D.nx } σ2 H2) (hd:∀ U H',Pv kvs.length U H'->D.nx U H') :
  ∃W:Nat->YN,(∃m,W 0 m U H)/\∀i m U H,W i m U H ->
   ((OD a o kvs).stop i H/\D.nx U H)\/((OD a o kvs).go i H/\∃N:YO,(∀ σ' H',N σ' H'->∃m',m' < m/\W (i+1) m' σ' H')/\∀x H',(OD a o kvs).yld i H x H'->g x U H' fun σ2 H2=>tb { D with nx:=N,ct:=N,bk:=D.nx } σ2 H2):=by
 refine⟨λi m U H=>m=kvs.length - i/\i<=kvs.length/\Pv i U H,⟨kvs.length,by simp,Qcf _,h0⟩,?_⟩;rintro i m U H ⟨rfl,hi,p⟩;have q:=hl i U H hi p;by_cases hlt:i < kvs.length
 ·refine .inr ⟨⟨hlt,q⟩,Pv (i+1),fun σ' H' p'=>⟨kvs.length - (i+1),by omega,rq,hlt,p'⟩,λx H' y=>?_⟩;obtain⟨rfl,kv,hkv,rfl⟩:=y;exact hs i kv U _ hkv p
 ·have e:i=kvs.length:=by omega
  subst e;exact .inl ⟨⟨rq,q⟩,hd U H p⟩
theorem cA (Pv:YN) (h0:Pv 0 U H) (hl:∀i U H',i<=kvs.length->Pv i U H'->H' a=some (.frz o (.dK kvs)))
  (hs:∀i kv p U H',kvs[i]?=some kv->Pv i U H'->H' p=none->g (.ref p) U (upd H' p (.tup [kV kv.1,kv.2])) fun σ2 H2=>tb { D with nx:=Pv (i+1),ct:=Pv (i+1),bk:=D.nx } σ2 H2) (hd:∀ U H',Pv kvs.length U H'->D.nx U H') :
  ∃W:Nat->YN,(∃m,W 0 m U H)/\∀i m U H,W i m U H ->
   ((RP a o kvs).stop i H/\D.nx U H)\/((RP a o kvs).go i H/\∃N:YO,(∀ σ' H',N σ' H'->∃m',m' < m/\W (i+1) m' σ' H')/\∀x H',(RP a o kvs).yld i H x H'->g x U H' fun σ2 H2=>tb { D with nx:=N,ct:=N,bk:=D.nx } σ2 H2):=by
 refine⟨λi m U H=>m=kvs.length - i/\i<=kvs.length/\Pv i U H,⟨kvs.length,by simp,Qcf _,h0⟩,?_⟩;rintro i m U H ⟨rfl,hi,p⟩;have q:=hl i U H hi p;by_cases hlt:i < kvs.length
 ·refine .inr ⟨⟨hlt,q⟩,Pv (i+1),fun σ' H' p'=>⟨kvs.length - (i+1),by omega,rq,hlt,p'⟩,λx H' y=>?_⟩;obtain⟨pa,kv,hp,hkv,rfl,rfl⟩:=y;exact hs i kv pa U H hkv p hp
 ·have e:i=kvs.length:=by omega
  subst e;exact .inl ⟨⟨rq,q⟩,hd U H p⟩
theorem T5 {σ0:St} {H0:Hp} (Pv:YN) (h0:Pv 0 σ0 H0) (hl:∀i U H',i<=kvs.length->Pv i U H'->H' a=some (.frz o (.dK kvs)))
  (hs:∀i kv U H',kvs[i]?=some kv->Pv i U H'->g (kV kv.1) U H' fun σ3 H3=>tt σ3 H3 λb H4=>if b=true then te σ3 H4 λy H5=>∃ys,H5 l=some (.lst ys)/\ys.length < sizeLine/\Pv (i+1) σ3 (upd H5 l (.lst (ys++[y]))) else Pv (i+1) σ3 H4)
  (hd:∀ U H',Pv kvs.length U H'->Q (.ref l) H'):Fd (OD a o kvs) g tt te Q σ0 H0 l:=by
 unfold Fd;refine⟨λi m U H'=>m=kvs.length - i/\i<=kvs.length/\Pv i U H',⟨kvs.length,by simp,Qcf _,h0⟩,?_⟩;rintro i m U H' ⟨rfl,hi,p⟩;have q:=hl i U H' hi p;by_cases hlt:i < kvs.length
 ·refine .inr ⟨⟨hlt,q⟩,Pv (i+1),fun σ3 H3 p'=>⟨kvs.length - (i+1),by omega,rq,hlt,p'⟩,λx H2 y=>?_⟩;obtain⟨rfl,kv,hkv,rfl⟩:=y;exact hs i kv U _ hkv p
 ·have e:i=kvs.length:=by omega
  subst e;exact .inl ⟨⟨rq,q⟩,hd U H' p⟩
theorem Ky {K:YD} {xs:YG} {σ0:St} {H0:Hp} (Pv:YN) (h0:Pv 0 σ0 H0) (hl:∀i U H',i<=xs.length->Pv i U H'->SqT K H' a xs)
  (hs:∀i x U H',xs[i]?=some x->Pv i U H'->g x U H' fun σ3 H3=>tt σ3 H3 λb H4=>if b=true then tk σ3 H4 λy H5=>tv σ3 H5 λz H6=>∃(kvs:YM) (k:Key),H6 l=some (.dK kvs)/\y=kV k/\kvs.length < sizeLine/\Pv (i+1) σ3 (upd H6 l (.dK (putK kvs k z))) else Pv (i+1) σ3 H4)
  (hd:∀ U H',Pv xs.length U H'->Q (.ref l) H'):Lb (Itt K a) g tt tk tv Q σ0 H0 l:=by
 unfold Lb;refine⟨λi m U H'=>m=xs.length - i/\i<=xs.length/\Pv i U H',⟨xs.length,by simp,Qcf _,h0⟩,?_⟩;rintro i m U H' ⟨rfl,hi,p⟩;have q:=hl i U H' hi p;by_cases hlt:i < xs.length
 ·refine .inr ⟨⟨xs,xs[i],q,by simp[hlt]⟩,Pv (i+1),fun σ3 H3 p'=>⟨xs.length - (i+1),by omega,rq,hlt,p'⟩,λx H2 y=>?_⟩;obtain⟨e,y⟩:=y;subst e;exact hs i x U _ (y xs q) p
 ·have e:i=xs.length:=by omega
  subst e;exact .inl ⟨⟨xs,q,Qce _⟩,hd U H' p⟩
end
open PySem.W (KasT kas_asc kas_desc kas_rev kas_tail3 kas_descPart kas_count kas_place kas_bin kas_sort)
def Pm (n:Nat) (p:Array Nat):Prop:=p.toList.Perm (List.range n)
theorem Pm.lt {n:Nat} {p:Array Nat} (h:Pm n p) (n0:0 < n) (i:Nat):p.getD i 0 < n:=by
 by_cases hi:i < p.size
 ·have e:p.getD i 0=p[i]:=by simp[hi]
  rw[e];have hm:p[i]∈p.toList:=by simp
  exact List.mem_range.mp (h.mem_iff.mp hm)
 ·have e:p.getD i 0=0:=by simp[hi]
  rw[e];exact n0
section
variable {n:Nat} (n0:0 < n)
include n0
end
section
variable {prog:Program} {w:World} {A:Around} {E:YA} {s:Shared}
end
theorem ZF {h:Heap} {a:Addr} {m m':YB} (x:h.Ns a m) (y:h.Ns a m'):m=m':=by
 obtain⟨o,es,ep,h1,h2,_,h3⟩:=x;obtain⟨o',es',ep',g1,g2,_,g3⟩:=y;rw[h1] at g1;cases g1;rw[h2] at g2;cases g2
 funext k
 rw[<-h3,<-g3]
theorem range_getD {α : Type} (d:α) (vs:List α):(List.range vs.length).map (λi=>vs.getD i d)=vs:=by
 apply List.ext_getElem
 ·simp
 ·intro i h1 h2;simp[h2]
end L2
namespace L2
open PySem PySem.Spec PyProof.Rows
theorem Q8:typeLookup (.type "list") "keys"=pure none:=by rw[typeLookup_type,builtinLookup_eq_fast];kernel_rfl
theorem Q9:typeLookup (.type "list") "__getattr__"=pure none:=by rw[typeLookup_type,builtinLookup_eq_fast];kernel_rfl
theorem Qt:isSubtype (.type "AttributeError") (.type "AttributeError")=pure true:=by rw[QbM];kernel_rfl
section
variable {M:Model} {A:Around} {E:YA} {s:Shared}
theorem Xx {e:Addr} {o:Obj} {x nm T:Value} {Q:YH} (ho:s.heap.get? e=some o) (hc:o.cls=.type "AttributeError") (hd:o.data=.fields #[T,.none,.none,.none,.bool false,.none,unsetMember,unsetMember])
  (h:∀h',(∀b u,b≠e->s.heap.get? b=some u->h'.get? b=some u)->(∃o',h'.get? e=some o'/\o'.cls=.type "AttributeError")->Q () { s with heap:=h' }):wpAny M A (noteAttr (.ref e) x nm) Q E s:=by
 obtain⟨oc,od,oa,os⟩:=o;cases hc;cases hd;have hT:s.TypeIs (.ref e) "AttributeError":=⟨_,ho,rq⟩;unfold noteAttr;refine Qci ?_;unfold lacksNameAndObj;refine Qci (wpAny_isInstance hT Qt ?_);simp only[Bool.not_true,QaS,Qcn];refine Qci (wpAny_load ho ?_);refine Qcj ?_;rw[if_pos rfl];refine Qci (Qcl ?_);refine Qci (Qcd hT ?_);show wpAny _ _ (layMembers e 6 #[nm,x]) _ _ _;unfold layMembers;refine Qci (wpAny_load ho ?_);refine wpAny_update ho ?_;refine h _ (λb u nb q=>?_) ⟨_,Qay _ ho rfl,rq⟩;rw[Qau _ _ (Ne.symm nb)];exact q
end
section
variable {prog:Program} {w:World} {A:Around} {E:YA} {s:Shared}
theorem Xe {α : Type} {x:Value} {nm msg:Str} {Q:α->Shared->Prop} (hm:msg.length<=sizeLine) (hh:A.handled=none) (hq:∀h' tk' e o,(∀b u,s.heap.get? b=some u->h'.get? b=some u)->h'.get? e=some o->o.cls=.type "AttributeError"->E (.ref e) { s with heap:=h',toks:=tk' }) :
  wpAny (model prog w) A (raiseAttrError x nm msg:Sem α) Q E s:=by
 unfold raiseAttrError;refine Qci (wpAny_mkStr (Qci ?_) hm);unfold newExc newTuple;refine Qci (Qbe ?_);refine Qci (m:=firstArgMember _ _) (wpAny_of_eq (a:=Value.none) (by kernel_rfl) ?_);refine Qbe ?_;refine Qci (wpAny_mkText (Qci ?_));refine Xx (QaG _ rfl) rfl rfl λh' k1 ⟨o',k2,k3⟩=>?_;unfold raiseNew;refine Qci (wpAny_handled ?_);rw[hh]
 first
  | refine wpAny_throw ?_
  | refine Qci (Qcj (wpAny_throw ?_))
 exact hq _ _ _ o' (λb u q=>k1 b u (QbX (by rw[QbL];exact Qbg (QbW q))) (Qas _ (Qas _ q))) k2 k3
end
section
variable {prog:Program} {w:World} {A:Around} {E:YA} {h:Heap} {g:Array GenState} {d:Drawn} {t:Nat} {os:OsState} {a:Addr} {xs:Array Value} {c:Nat}
theorem XD {tk:Tok} {Q:Fin->Shared->Prop} (hh:A.handled=none) (hx:h.get? a=some (seqObj "list" xs c)) (hq:∀h' tk' e o,(∀b u,h.get? b=some u->h'.get? b=some u)->h'.get? e=some o->o.cls=.type "AttributeError"->E (.ref e) ⟨h',g,d,tk',os⟩) :
  wpAny (model prog w) A (Builtin.«object.__getattribute__» ⟨[.ref a,.str "keys" tk],[]⟩) Q E ⟨h,g,d,t,os⟩:=by
 have hT:(⟨h,g,d,t,os⟩ : Shared).TypeIs (.ref a) "list":=⟨_,hx,rq⟩;have f4:=Q8
 repeat (any_goals (first | assumption | wp_step))
 exact Xe (Qca (Av (by trivial))) hh λh' tk' e o k1 k2 k3=>hq h' tk' e o k1 k2 k3
theorem ZJ {tk:Tok} {R:Result->Shared->Prop} (hh:A.handled=none) (hx:h.get? a=some (seqObj "list" xs c)) (hq:∀h' tk' e o,(∀b u,h.get? b=some u->h'.get? b=some u)->h'.get? e=some o->o.cls=.type "AttributeError"->R (.error (.ref e)) ⟨h',g,d,tk',os⟩) :
  codeAny (model prog w) A (.call (.builtin "list.__getattribute__") ⟨[.ref a,.str "keys" tk],[]⟩) R ⟨h,g,d,t,os⟩:=
 codeAny_call_builtin F.slot_list_getattribute.plain F.entry_list_ga (F.slot_list_getattribute.check _ _ _ _ _ _ _ _ (show (⟨h,g,d,t,os⟩ : Shared).TypeIs (.ref a) "list" from⟨_,hx,rq⟩) (F.args_list_getattribute_2 _ _) (XD hh hx hq))
theorem dI {tk:Tok} {Q:YA} (hh:A.handled=none) (hx:h.get? a=some (seqObj "list" xs c)) (hq:∀h' tk' e o,(∀b u,h.get? b=some u->h'.get? b=some u)->h'.get? e=some o->o.cls=.type "AttributeError"->E (.ref e) ⟨h',g,d,tk',os⟩):wpAny (model prog w) A (getAttrBy (.ref a) (.str "keys" tk) false) Q E ⟨h,g,d,t,os⟩:=by
 have hT:(⟨h,g,d,t,os⟩ : Shared).TypeIs (.ref a) "list":=⟨_,hx,rq⟩;have f2:=F.slot_list_getattribute.lookup;have f3:=F.slot_list_getattribute.bind (.ref a);have f5:=Q9
 repeat (any_goals (first | assumption | wp_step))
 refine ZJ hh hx λh' tk' e o k1 k2 k3=>?_;have hT2:(⟨h',g,d,tk',os⟩ : Shared).TypeIs (.ref e) "AttributeError":=⟨_,k2,k3⟩;have f6:=Qt
 repeat (any_goals (first | assumption | wp_step))
 all_goals exact hq h' tk' e o k1 k2 k3
theorem ZK {Q:Option Value->Shared->Prop} (hh:A.handled=none) (hx:h.get? a=some (seqObj "list" xs c)) (hq:∀h' tk',(∀b u,h.get? b=some u->h'.get? b=some u)->Q none ⟨h',g,d,tk',os⟩):wpAny (model prog w) A (getAttr? (.ref a) "keys") Q E ⟨h,g,d,t,os⟩:=by
 unfold getAttr? getAttrBy?;refine Qci (wpAny_mkText (Qci (QbU ?_)));refine dI hh hx λh' tk' e o k1 k2 k3=>?_;have hT2:(⟨h',g,d,tk',os⟩ : Shared).TypeIs (.ref e) "AttributeError":=⟨_,k2,k3⟩;refine Qci (wpAny_isInstance hT2 Qt ?_);rw[if_pos rfl];exact Qcj (hq _ _ k1)
end
theorem En:plainId "dict.update.loop"=true:=by trivial
theorem Jm:entryFor table "dict.update.loop"=some Builtin.«dict.update.loop»:=entryFor_of_fast (by kernel_rfl)
section
variable {prog:Program} {w:World} {κ : Type} [DecidableEq κ] {knd:KeyKind prog w κ} {A:Around} {E:YA} {s:Shared} {R:Result->Shared->Prop}
theorem Qn {d it l:Addr} {items:YE} {res:Value} (hh:A.handled=none) (ndi:d≠it) (nld:l≠d) (nli:l≠it):∀(rs:List (Addr×κ×Value×Value)) (i:Nat) (acc:List (κ×Value)) (s:Shared),s.heap.IsListIter it l i->s.heap.IsList l items.toArray ->
  items.drop i=rs.map (λr=>Value.ref r.1)->(∀r∈rs,s.heap.IsTuple r.1 #[r.2.2.1,r.2.2.2]/\knd.is r.2.1 r.2.2.1=true/\r.1≠d/\r.1≠it)->s.heap.DictOf knd d acc->acc.length+rs.length<=sizeLine ->
  (∀h' tk,h'.DictOf knd d (rs.foldl (λa r=>stored a r.2.1 r.2.2.2) acc)->(∀b o,b≠d->b≠it->s.heap.get? b=some o->h'.get? b=some o)->R (.ok (.ret res)) { s with heap:=h',toks:=tk }) ->
  codeAny (model prog w) A (.builtin "dict.update.loop" ⟨[.ref d,.ref it,rawInt i,res],[]⟩) R s
 | [],i,acc,s,hit,hl,hd,_,hm,hz,hR=>by
  refine QbD Jm ?_;rw[QaD En _];show wpAny _ A.in1 (pyNext (.ref it) >>= _) _ _ s;have hx:items.toArray[i]?=none:=by
   have:items.length<=i:=by simpa using hd
   simp[this]
  refine Qci (wpAny_pyNext_list_end (show A.in1.handled=none from hh) hit hl hx λh' ex=>?_)
  refine Qci (Qcj ?_);refine Qcj ?_;obtain⟨o,es,ep,a1,a2⟩:=hm;exact hR h' s.toks ⟨o,es,ep,ex _ _ ndi a1,a2⟩ λb o nb nt q=>ex b o nt q
 | (t,k,key,v)::rs,i,acc,s,hit,hl,hd,hr,hm,hz,hR=>by
  refine QbD Jm ?_;rw[QaD En _];show wpAny _ A.in1 (pyNext (.ref it) >>= _) _ _ s;have hx:items.toArray[i]?=some (.ref t):=by
   have:=congrArg List.head? hd;rw[List.head?_drop] at this;simpa using this
  have hd':items.drop (i+1)=rs.map (λr=>Value.ref r.1):=by
   rw[<-List.tail_drop,hd];rfl
  obtain⟨⟨ot,ho,hc,n,hdt⟩,hk,nd,ni⟩:=hr _ (QaO ..);refine Qci (wpAny_pyNext_list_item hit hl hx λh1 hit1 sb1=>?_);have k1:∀b o,b≠it->s.heap.get? b=some o->h1.get? b=some o:=λb o nb q=>(sb1.2 b nb).trans q;refine Qci (QbR ?_);refine Qci (wpAny_tryCatch ?_);have hT:(⟨h1,s.gens,s.drawn,s.toks,s.os⟩ : Shared).TypeIs (.ref t) "tuple":=⟨ot,k1 _ _ ni ho,hc⟩;unfold Builtin.Dict.pairItems;refine Qci (Qcd hT ?_);rw[if_pos (by decide)];refine Qci (wpAny_seqItems (k1 _ _ ni ho) hdt (Qcj ?_));show wpAny _ A.in1 (holding [key,v] (dictSet d key v)) _ _ _;obtain⟨od,es,ep,a1,a2⟩:=hm;have hm1:h1.DictOf knd d acc:=⟨od,es,ep,k1 _ _ ndi a1,a2⟩;have hz0:acc.length+(rs.length+1)<=sizeLine:=hz;refine QbR (wpAny_dictSet_pairs hk hm1 (λh2 hm2 sb2=>?_) (by omega));have k2:∀b o,b≠d->h1.get? b=some o->h2.get? b=some o:=λb o nb q=>(sb2.2 b nb).trans q;refine Qcj ⟨QbV En _,?_⟩;have key:∀j:Int,rawInt (j+1)=rawInt (j+1):=λ_=>rfl;have e1:rawInt ((i:Int)+1)=rawInt ((i+1:Nat):Int):=by rw[Int.natCast_add];rfl
  show codeAny (model prog w) A (.builtin "dict.update.loop" ⟨[.ref d,.ref it,rawInt ((i:Int)+1),res],[]⟩) R _;rw[e1];obtain⟨oi,b1,b2⟩:=hit1;obtain⟨ol,c1,c2⟩:=hl;refine Qn hh ndi nld nli rs (i+1) (stored acc k v) _ ⟨oi,k2 _ _ (Ne.symm ndi) b1,b2⟩ ⟨ol,k2 _ _ nld (k1 _ _ nli c1),c2⟩ hd' (λr hrm=>?_) hm2 ?_ λh' tk x y=>hR h' tk x λb o nb nt q=>y b o nb nt (k2 _ _ nb (k1 _ _ nt q))
  ·obtain⟨⟨ob,d1,d2⟩,d3,d4,d5⟩:=hr r (QaC _ hrm);exact⟨⟨ob,k2 _ _ d4 (k1 _ _ d5 d1),d2⟩,d3,d4,d5⟩
  ·have:=stored_length_le acc k v;omega
end
section
variable {prog:Program} {w:World} {κ : Type} [DecidableEq κ] {knd:KeyKind prog w κ} {A:Around} {E:YA} {s:Shared}
theorem Rx {l:Addr} {items:YE} {c:Nat} {rs:List (Addr×κ×Value×Value)} {Q:YA} (hh:A.handled=none) (hl:s.heap.get? l=some (seqObj "list" items.toArray c)) (hi:items=rs.map (λr=>Value.ref r.1))
  (hr:∀r∈rs,s.heap.IsTuple r.1 #[r.2.2.1,r.2.2.2]/\knd.is r.2.1 r.2.2.1=true) (hz:rs.length<=sizeLine)
  (h:∀d h' tk,s.heap.objs.size<=d->h'.DictOf knd d (rs.foldl (λa r=>stored a r.2.1 r.2.2.2) [])->(∀b o,s.heap.get? b=some o->h'.get? b=some o)->Q (.ref d) { s with heap:=h',toks:=tk }) :
  wpAny (model prog w) A (call (.type "dict") [.ref l]) Q E s:=by
 refine callType_codes (Q₁:=λobj s₁=>obj=.ref s.heap.objs.size/\s₁={ s with heap:=s.heap.push { cls:=.type "dict",data:=.dict #[] } }) F.kt_called_dict (F.kt_typeCall_dict_1 _) F.entry_dict_init (kt_code_dict_new _ ⟨rq,rq⟩) ?_;rintro obj s₁ ⟨rfl,rfl⟩;have hnew:(s.heap.push { cls:=.type "dict",data:=.dict #[] }).DictOf knd s.heap.objs.size []:=Heap.DictOf.new s.heap;have k1:∀b o,s.heap.get? b=some o->b≠s.heap.objs.size/\(s.heap.push { cls:=.type "dict",data:=.dict #[] }).get? b=some o:=λb o q=>⟨QbX (QbW q),Qas _ q⟩;generalize hd:s.heap.objs.size=d at hnew k1;have ld:s.heap.objs.size<=d:=Nat.le_of_eq hd;generalize s.heap.push { cls:=.type "dict",data:=.dict #[] }=g1 at hnew k1;refine⟨hnew.typeIs,F.args_dict_init_2 _ _,?_⟩;unfold Builtin.«dict.__init__»;refine Qci ?_;unfold Builtin.Dict.selfAndRest;refine Qci (wpAny_notOrdered_dict hnew.typeIs ?_);show wpAny _ _ (pure (d,[Value.ref l])) _ _ _;refine Qcj ?_;show wpAny _ _ (Builtin.Dict.updateFrom "dict.__init__" d (.ref l) [] .none) _ _ _;unfold Builtin.Dict.updateFrom;have hl1:=(k1 _ _ hl).2;refine Qci (Qcd (show (⟨g1,s.gens,s.drawn,s.toks,s.os⟩ : Shared).TypeIs (.ref l) "list" from⟨_,hl1,rq⟩) ?_)
 rw[if_pos (by decide)];refine Qci (ZK (show A.in1.in1.handled=none from hh) hl1 λg2 tk k2=>?_)
 rw[show (none:Option Value).isNone=true from rfl,if_pos rfl]
 refine Qci (Qcl ?_);have hl2:=k2 _ _ hl1;refine Qci (wpAny_pyIter_list (items:=items.toArray) ⟨_,hl2,rq,_,rq⟩ ?_);obtain⟨od,es,ep,a1,a2⟩:=hnew;have nit:∀b o,g2.get? b=some o->b≠g2.objs.size:=λb o q=>QbX (QbW q);have k3:∀b o,g2.get? b=some o->(g2.push { cls:=.type "list_iterator",data:=.fields #[.ref l,.int 0 0] }).get? b=some o:=λb o q=>Qas _ q;refine Qcj ⟨QbV En _,?_⟩;refine Qn (knd:=knd) (items:=items) (show A.in1.handled=none from hh) (nit _ _ (k2 _ _ a1)) (k1 _ _ hl).1 (nit _ _ hl2) rs 0 [] _ ⟨_,QaG _ rfl,rq,rq⟩ ⟨_,k3 _ _ hl2,rq,_,rq⟩ (by rw[List.drop_zero];exact hi) (λr hrm=>?_) ⟨od,es,ep,k3 _ _ (k2 _ _ a1),a2⟩ (by rw[List.length_nil];omega) λh' tk' x y=>⟨rq,h d h' tk' ld x λb o q=>y b o (k1 _ _ q).1 (nit _ _ (k2 _ _ (k1 _ _ q).2)) (k3 _ _ (k2 _ _ (k1 _ _ q).2))⟩
 obtain⟨⟨ob,d1,d2⟩,d3⟩:=hr r hrm;exact⟨⟨ob,k3 _ _ (k2 _ _ (k1 _ _ d1).2),d2⟩,d3,(k1 _ _ d1).1,nit _ _ (k2 _ _ (k1 _ _ d1).2)⟩
end
theorem Rq {κ : Type} [DecidableEq κ] (rs:List (Addr×κ×Value×Value)):rs.foldl (λa r=>stored a r.2.1 r.2.2.2) []=merged [] (rs.map λr=>(r.2.1,r.2.2.2)):=by
 unfold merged;rw[List.foldl_map]
def Qk (H:Hp) (v:V) (r:Key×V):Prop:=∃t,v=.ref t/\H t=some (.tup [kV r.1,r.2])
theorem S6 {P:Program} {w:World} {H:Hp} {h:Heap} (ok:HOk P w H h):∀{vs:YG} {rows:YM} {us:YE},Paired (Qk H) vs rows->Vals vs us ->
  ∃rs:List (Addr×Key×Value×Value),us=rs.map (λr=>Value.ref r.1)/\(∀r∈rs,h.IsTuple r.1 #[r.2.2.1,r.2.2.2]/\(Bj P w).is r.2.1 r.2.2.1=true)/\KV rows (rs.map λr=>(r.2.1,r.2.2.2))/\rs.length=rows.length
 | _,_,_,.nil,.nil=>⟨[],rfl,(λ_ h=>by cases h),.nil,rfl⟩
 | _,_,_,.cons ⟨t,e,ht⟩ p,.cons r q=>by
  obtain⟨rs,h1,h2,h3,h4⟩:=S6 ok p q;subst e;cases r;obtain⟨_,its,rv,o,ho,hc,n,hd⟩:=ok t _ ht;cases rv with
  | cons a1 rv=>
   rename_i u1 us1;cases rv with
   | cons a2 rv=>
    rename_i u2 us2;cases rv;refine⟨(t,_,u1,u2)::rs,by rw[h1];rfl,λr hr=>?_,.cons ⟨rq,a2⟩ h3,by rw[Qbm,h4];rfl⟩;rcases QbP.mp hr with e | e
    ·rw[e];exact⟨⟨o,ho,hc,n,hd⟩,Ig a1⟩
    ·exact h2 r e
def aU:YG->Hp->VK->Prop:=λxs H Q=>∃l vs rows,xs=[.ref l]/\H l=some (.lst vs)/\Paired (Qk H) vs rows/\(rows.map (·.1)).Nodup/\rows.length < 1000/\∀d,H d=none->Q (.ref d) (upd H d (.dK rows))
theorem Vb {X:Cx} (hc:X.calm=true):CN X (.type "dict") aU:=by
 intro jb s U H xs us Q I r h;obtain⟨l,vs,rows,rfl,hl,pr,nd,hz,q⟩:=h;obtain⟨u,rfl,rx⟩:=vals1 r;cases rx;obtain⟨_,its,n,rv,ho⟩:=(show Az X.prog X.w H s.heap l (.lst vs) from I.hok l _ hl)
 obtain⟨rs,h1,h2,h3,h4⟩:=S6 I.hok pr rv;have zz:rows.length<=sizeLine:=Qca (Av (Qca hz));refine Rx (knd:=Bj X.prog X.w) (I.ok.hd hc) ho h1 h2 (by rw[h4];exact zz) λd h' tk ld hd kp=>?_;rw[Rq,merged_nil_of_nodup _ (by rw[<-KV.keys h3];exact nd)] at hd;have fr:=I.hok.fresh ld;refine⟨.ref d,_,I.laid (t':=tk) kp ld (Rv zz ?_ h3 hd),rq,q d fr⟩;have hb:=I.big;exact QaL.mpr (Qcb (QaR hb ld))
open PySem.W (KasT kas_asc kas_desc kas_rev kas_tail3 kas_descPart kas_count kas_place kas_bin kas_sort)
section
variable {n:Nat} {ky:Nat->Int}
def Gk (ky:Nat->Int) (p:Array Nat) (i:Nat):Int:=ky (p.getD i 0)
def Inj (n:Nat) (ky:Nat->Int):Prop:=∀i j,i < n->j < n->ky i=ky j->i=j
def cO (ky:Nat->Int) (p:Array Nat) (m:Nat):Prop:=∀i,i+1 < m->Gk ky p i < Gk ky p (i+1)
def Vf (ky:Nat->Int) (p:Array Nat) (m:Nat):Prop:=∀i j,i < j->j < m->Gk ky p i < Gk ky p j
theorem cO.all {p:Array Nat} {m:Nat} (h:cO ky p m):Vf ky p m:=λi j hij hj=>by
 induction j with
 | zero=>omega
 | succ j ih=>
  have h1:=h j hj;by_cases e:i=j
  ·rw[e];exact h1
  ·exact Int.lt_trans (ih (by omega) (by omega)) h1
theorem bG {α : Type} {l:List α} (nd:l.Nodup) {i j:Nat} (hi:i < l.length) (hj:j < l.length) (e:l[i]=l[j]):i=j:=by
 rcases Nat.lt_trichotomy i j with h | h | h
 ·exact absurd e (Qai.mp nd i j hi hj h)
 ·exact h
 ·exact absurd e.symm (Qai.mp nd j i hj hi h)
theorem Pm.size {p:Array Nat} (h:Pm n p):p.size=n:=by
 have:=List.Perm.length_eq h;simpa using this
theorem Pm.ne (hi:Inj n ky) {p:Array Nat} (h:Pm n p) {i j:Nat} (a:i < n) (b:j < n) (ne:i≠j):Gk ky p i≠Gk ky p j:=λe=>by
 have n0:0 < n:=by omega
 have hs:=h.size;have e:=hi _ _ (h.lt n0 i) (h.lt n0 j) e;have nd:p.toList.Nodup:=(List.Perm.nodup_iff h).mpr List.nodup_range;have e1:p.getD i 0=p.toList[i]'(by simp[hs,a]):=by simp[hs,a]
 have e2:p.getD j 0=p.toList[j]'(by simp[hs,b]):=by simp[hs,b]
 rw[e1,e2] at e;exact ne (bG nd _ _ e)
theorem Vf.list {p:Array Nat} (h:Pm n p) (R:Vf ky p n):(p.toList.map ky).Pairwise (· < ·):=by
 have hs:=h.size;rw[Qai];intro i j hi hj hij;have hi':i < n:=by simpa [hs] using hi
 have hj':j < n:=by simpa [hs] using hj
 have:=R i j hij hj';unfold Gk at this;have e1:p.getD i 0=p[i]'(by omega):=by simp[hs,hi']
 have e2:p.getD j 0=p[j]'(by omega):=by simp[hs,hj']
 rw[e1,e2] at this;simpa using this
end
section
variable {prog:Program} {w:World} {A:Around} {s:Shared}
end
@[irreducible] def Mz:YG->Hp->VK->Prop:=λxs H Q=>∃(a:Addr) (kvs:YM),xs=[.ref a]/\H a=some (.dK kvs)/\∀l,H l=none->Q (.ref l) (upd H l (.lst (kvs.map λkv=>kV kv.1)))
theorem Rb {a:Addr} {kvs:YM} {H:Hp} {Q:VK} (h:H a=some (.dK kvs)) (q:∀l,H l=none->Q (.ref l) (upd H l (.lst (kvs.map λkv=>kV kv.1)))):Mz [.ref a] H Q:=by
 unfold Mz;exact⟨a,kvs,rq,h,q⟩
theorem Ph:∀{kvs:YM} {us:YE},us.length=kvs.length->(∀(j:Nat) (u:Value),us[j]?=some u->∃kv:Key×V,kvs[j]?=some kv/\RelV (kV kv.1) u)->Vals (kvs.map λkv=>kV kv.1) us
 | [],[],_,_=>.nil
 | [],_::_,h,_=>by simp at h
 | _::_,[],h,_=>by simp at h
 | kv::r,u::us,h,g=>by
  refine .cons ?_ (Ph (by simpa using h) λj u hu=>?_)
  ·obtain⟨kv',e,q⟩:=g 0 u rfl;cases e;exact q
  ·obtain⟨kv',e,q⟩:=g (j+1) u (by simpa using hu);exact⟨kv',by simpa using e,q⟩
theorem Nt {X:Cx} (hc:X.calm=true):CN X (.type "list") Mz:=by
 intro jb s U H xs us Q I r h;unfold Mz at h;obtain⟨a,kvs,rfl,e,q⟩:=h;obtain⟨u,rfl,rx⟩:=vals1 r;cases rx;obtain⟨z,lo,vs,rel,dd⟩:=U4 I.hok e;obtain⟨ep,hat⟩:=dd.dictAt;have hlen:kvs.length=vs.length:=KV.length rel;refine PySem.W.kdl_call (PySem.W.kdl_dict (knd:=Bj X.prog X.w) (kvs:=vs) (ep:=ep) lo) (I.ok.hd hc) hat (by omega) λh' tk acc c' hk hS hacc=>?_;refine⟨.ref s.heap.objs.size,_,I.laid (t':=tk) (o:=.lst (kvs.map λkv=>kV kv.1)) (λb o q=>hk b o q) (Qce _) ?_,rq,q _ (I.hok.fresh (Qce _))⟩;refine⟨by rw[Qbu];exact z,acc.toList,c',Ph (by rw[QaH,hacc.1,hlen]) λj u hu=>?_,hS⟩;obtain⟨k,x,hx,hkk⟩:=hacc.2 j u (by rw[<-Qaw];exact hu);have hj:j < vs.length:=(Qag.mp hx).1;obtain⟨x',hx',_⟩:=Uv rel (i:=j) (kv:=kvs[j]'(by omega)) (by simp[show j < kvs.length by omega]);rw[hx] at hx';have ek:=congrArg Prod.fst (Qby hx');refine⟨kvs[j]'(by omega),Qal (by omega),?_⟩;have ek:k=(kvs[j]'(by omega)).1:=ek;rw[<-ek];exact Rf hkk
end L2
namespace PySem
open Sem (wp)
open AutoSeq1 (wpAny_loadPart')
section
variable {prog:Program} {w:World} {A:Around} {E:YA} {s:Shared}
theorem Ou {e it l:Addr} {i:Nat} {j:Int} {items:Array Value} {old:Value} {Q:Option Value->Shared->Prop} (hh:A.handled=none) (he:IsEnum s.heap e it j old) (hit:s.heap.IsListIter it l i) (hl:s.heap.IsList l items) (hx:items[i]?=none)
  (hQ:∀h',Heap.ExtBut it s.heap h'->Q none { s with heap:=h' }):wpAny (model prog w) A (pyNext (.ref e)) Q E s:=by
 have hT:s.TypeIs (.ref e) "enumerate":=⟨_,he,rq⟩;unfold pyNext;refine Qci (QbU (Qao (name:=Str.ofString "__next__") hT F.slot_enumerate_next (Qbn F.slot_enumerate_next hT F.entry_enumerate_next ?_ (F.args_enumerate_next_1 _))));show wpAny _ _ (field (.ref e) 2 >>= _) _ _ _;refine Qci (Qch he rfl (x:=.ref it) rfl (Qci (wpAny_nextOf_list_end hh hit hl hx λh' x he' hx'=>?_)));obtain⟨o,ho,hc⟩:=hx';exact Qci (wpAny_isInstance (T:="StopIteration") (b:=true) ⟨o,ho,hc⟩ isSubtype_stop (Qcj (hQ _ he')))
end
end PySem
namespace L2
open PySem PySem.Spec PyProof.Rows
def KJ (K:YD) (a:Addr) (lo:Nat):It:=
 ⟨λi H=>∃xs x,SqL K H a xs/\xs[i]?=some x,λi H v H'=>∃p x,H p=none/\v=.ref p/\H'=upd H p (.tup [.int ((lo+i:Nat):Int),x])/\∀xs,SqL K H a xs->xs[i]?=some x,λi H=>∃xs,SqL K H a xs/\xs.length<=i⟩
theorem Ue {P:Program} {w:World} {K:YD} {elts:YJ} {k:Nat} {pos:Pos} (a e it:Addr) (lo:Nat) (nei:e≠it):Turn P w K (.Tuple elts k pos) (KJ K a lo) [e,it] e (λi h=>(∃old,IsEnum h e it ((lo+i:Nat):Int) old)/\h.IsListIter it a i) where
 mem:=by simp
 obj:=λi h st b hb=>by
  obtain⟨⟨old,he⟩,o,ho,hc,hd⟩:=st;rcases QbP.mp hb with rfl | hb
  ·exact⟨_,he,λv z=>by cases (show Data.fields _=Data.cell v from z)⟩
  ·have:b=it:=by simpa using hb
   subst this;exact⟨o,ho,λv z=>by rw[hd] at z;cases z⟩
 keep:=λi h h' st k=>by
  obtain⟨⟨old,he⟩,hi⟩:=st;exact⟨⟨old,k e (by simp) _ he⟩,hi.at λo q=>k it (by simp) o q⟩
 item:=by
  intro X hP hw hK hc i jb s U H E I hf st hg;subst hP hw hK;obtain⟨xs,x,hq,hx⟩:=hg;obtain⟨its,rv,p,hz⟩:=I.list hq;obtain⟨u,hu,ru⟩:=rv.get hx;obtain⟨⟨old,he⟩,hit⟩:=st;have hts:s.heap.IsList a its.toArray:=p.isList;have ane:a≠e:=λz=>by
   obtain⟨o,ho,hcl,_⟩:=hts;rw[z,he] at ho;cases ho;injection hcl with q;exact absurd q (by decide)
  have ani:a≠it:=λz=>by
   obtain⟨o,ho,hcl,_⟩:=hts;obtain⟨o',ho',hcl',_⟩:=hit;rw[z,ho'] at ho;cases ho;rw[hcl'] at hcl;injection hcl with q;exact absurd q (by decide)
  have hlt:i < its.toArray.size:=by
   have:=(Qag.mp hu).1;simpa using this
  have D:=(Draws.list (prog:=X.prog) (w:=X.w) (A:=X.A.in1) (I.ok.hd hc) it a ani its.toArray).from lo;refine wpAny_pyNext_enum_itemD D he ⟨i,rq,Qca hlt,hit,hts⟩ (by omega) nei (by simp[nei,ane.symm]) λy h1 tk hP ho hst hT hsz hk=>?_;obtain⟨i',ei,hy⟩:=hP;have:i'=i:=by omega
  subst this;have ey:y=u:=by
   have h2:its.toArray[i']?=some u:=by simpa using hu
   rw[h2] at hy;exact (Qby hy).symm
  subst ey;refine⟨_,rq,wpAny_letOwnedTupleGo_enum ho λh2 he2 hs2=>?_⟩;have hlt2:s.heap.objs.size≠e:=Qcb (QbW he);have hT2:h2.get? s.heap.objs.size=some { cls:=.type "tuple",data:=.seq #[.int ((lo+i':Nat):Int) tk,y] }:=(hs2.2 _ hlt2).trans hT;have new:Az X.prog X.w (upd H s.heap.objs.size (.tup [.int ((lo+i':Nat):Int),x])) h2 s.heap.objs.size (.tup [.int ((lo+i':Nat):Int),x]):=
   ⟨by show 2<=sizeLine;decide,[.int ((lo+i':Nat):Int) tk,y],.cons ⟨tk,rq⟩ (.cons ru .nil),_,hT2,rq,0,rq⟩
  have I1:=I.J3 (h':=h2) (t':=tk+1) (Qce _) (λb q hb z=>(hs2.2 b (λw=>hb (by simp[w]))).trans (hk b q (λw=>hb (by simp[w])) (λw=>hb (by simp[w])) z)) hf new;refine⟨.ref s.heap.objs.size,_,I1,rq,⟨s.heap.objs.size,x,I.hok.fresh (Qce _),rq,rq,λys hy'=>by rw[I.Ra hy' hq];exact hx⟩,⟨⟨y,?_⟩,?_⟩,λb hb=>?_⟩
  ·have:=he2;rw[show ((lo+(i'+1):Nat):Int)=((lo+i':Nat):Int)+1 by omega];exact this
  ·obtain⟨i2,e2,_,st2,_⟩:=hst;have:i2=i'+1:=by omega
   subst this;exact st2.at λo q=>(hs2.2 it (Ne.symm nei)).trans q
  ·have hb':b < s.heap.objs.size:=by
    rcases QbP.mp hb with rfl | hb
    ·exact QbW he
    ·have:b=it:=by simpa using hb
     subst this;obtain⟨o,ho',_⟩:=hit;exact QbW ho'
   rw[Aj (QbX hb')];exact (hf b hb).1
 done:=by
  intro X hP hw hK hc i jb s U H E I hf st hg;subst hP hw hK;obtain⟨xs,hq,hx⟩:=hg;obtain⟨its,rv,p,hz⟩:=I.list hq;obtain⟨⟨old,he⟩,hit⟩:=st;have hl:=rv.length;exact Ou (I.ok.hd hc) he hit p.isList (by simp;omega) λh' eb=>⟨rq,I.Iv (t':=s.toks) (λb o hb q=>eb b o (λz=>hb (by simp[z])) q) hf⟩
 self:=λ_ _ _ _ _ st h=>let ⟨⟨_,he⟩,_⟩:=st;wpAny_pyIter_enum he h
section
variable {X:Cx}
theorem Yi {jb:YC} {U : St} {H:Hp} {s:Shared} {R:It->Hp->Prop} {E:YA} {elts:YJ} {k:Nat} {pos:Pos} {a:Addr} {lo:Nat} {tk:Nat} (I:Inv X jb U H s) (q:R (KJ X.K a lo) H) :
  wpAny (model X.prog X.w) X.A (pyIter (.ref (s.heap.objs.size+1))) (PIE X jb U (.Tuple elts k pos) R) E
   { s with heap:=(s.heap.push { cls:=.type "list_iterator",data:=.fields #[.ref a,.int 0 0] }).push { cls:=.type "enumerate",data:=.fields #[.none,.bool false,.ref s.heap.objs.size,rawInt (lo:Int),.none,.none] },toks:=tk }:=by
 have hz:(s.heap.push { cls:=.type "list_iterator",data:=.fields #[.ref a,.int 0 0] }).objs.size=s.heap.objs.size+1:=QbL ..;have he:IsEnum ((s.heap.push { cls:=.type "list_iterator",data:=.fields #[.ref a,.int 0 0] }).push { cls:=.type "enumerate",data:=.fields #[.none,.bool false,.ref s.heap.objs.size,rawInt (lo:Int),.none,.none] }) (s.heap.objs.size+1) s.heap.objs.size (lo:Int) .none:=by
  have:=QaG (s.heap.push { cls:=.type "list_iterator",data:=.fields #[.ref a,.int 0 0] }) (o:={ cls:=.type "enumerate",data:=.fields #[.none,.bool false,.ref s.heap.objs.size,rawInt (lo:Int),.none,.none] }) rfl;rw[hz] at this;exact this
 refine wpAny_pyIter_enum he ⟨s.heap.objs.size+1,[s.heap.objs.size+1,s.heap.objs.size],_,_,H,rq,I.kept (t':=tk) λb o e=>Qas _ (Qas _ e),Ue a (s.heap.objs.size+1) s.heap.objs.size lo (Nat.succ_ne_self _),⟨⟨.none,he⟩,⟨_,Qas _ (QaG _ rfl),rq,rq⟩⟩,λb hb=>?_,q⟩;have hb':s.heap.objs.size<=b:=by
  simp only[QbP,Qbt,or_false] at hb;rcases hb with rfl | rfl
  ·exact Nat.le_succ _
  ·exact Qce _
 exact I.Kv hb' (I.hok.fresh hb')
end
section
variable {X:Cx}
def bW (K:YD) (lo:Nat) (tl:TE):TI:=fun U H R=>tl U H λx H1=>∃a,x=.ref a/\(∃xs,SqL K H1 a xs)/\R (KJ K a lo) H1
theorem Sx {jb:YC} {U : St} {H:Hp} {s:Shared} {R:It->Hp->Prop} {elts:YJ} {k:Nat} {pos:Pos} {a:Addr} {xs:YG} (I:Inv X jb U H s) (hq:SqL X.K H a xs) (q:R (KJ X.K a 0) H) :
  wpAny (model X.prog X.w) X.A (call (.type "enumerate") [.ref a]) (λv s1=>wpAny (model X.prog X.w) X.A (pyIter v) (PIE X jb U (.Tuple elts k pos) R) X.xe s1) X.xe s:=by
 obtain⟨its,rv,p,hz⟩:=I.list hq;obtain⟨⟨c,dct,dt,sl⟩,hl,hc,n,hd⟩:=p.isList;replace hc:c=.type "list":=hc;replace hd:dt=.seq its.toArray n:=hd;subst hc hd;refine callType_new F.called_enumerate (by decide) (F.typeCall_enumerate_1 _) (F.newCall_enumerate_1 _) (λobj=>F.args_object_init_2 obj _) F.entry_enumerate_new (meets_enumerate_newL a its.toArray n dct sl) ⟨hl,?_⟩;have hz:(s.heap.push { cls:=.type "list_iterator",data:=.fields #[.ref a,.int 0 0] }).objs.size=s.heap.objs.size+1:=QbL ..;show _/\_;refine⟨⟨_,QaG _ rfl,rq⟩,?_⟩;rw[hz];exact Yi (lo:=0) (tk:=s.toks) I q
end
section
variable {X:Cx}
theorem Pa {x:Expr} {tx:TE} {p pos tp:Pos} {elts:YJ} {k:Nat} (hg:Gl X "enumerate") (hm:X.mg "enumerate"=none) (hl:PE X x tx) (hs:starEach [x] X.env=[(false,eval x X.env)]:=by rfl):PI X (.Tuple elts k tp) (.Call (.Name "enumerate" p) [x] [] pos) (bW X.K 0 tx):=by
 intro jb s U H R I h;refine Call_ (Ey I hg hm boot_enumerate (Qac (thn ((Aa hl Ac (by rw[hs];rfl)) pos jb s U H (λvs H1=>match vs with | [v]=>∃a,v=.ref a/\(∃xs,SqL X.K H1 a xs)/\R (KJ X.K a 0) H1 | _=>False) I h) λus s1 ⟨vs,H1,I1,r1,q1⟩=>?_) hs rfl))
 cases r1 with
 | nil=>exact False.elim q1
 | cons r rr=>
  cases rr with
  | nil=>
   obtain⟨a,e,⟨xs,hq⟩,q⟩:=q1;subst e;cases r;exact Sx I1 hq q
  | cons _ _=>exact False.elim q1
theorem Pn {K:YD} {a:Addr} {lo:Nat} {xs:YG} {g:TG} {tb:TS} {D:Ends} {U : St} {H:Hp} (Pv:YN) (h0:Pv 0 U H) (hl:∀i U H',i<=xs.length->Pv i U H'->SqL K H' a xs)
  (hs:∀i x p U H',xs[i]?=some x->Pv i U H'->H' p=none->g (.ref p) U (upd H' p (.tup [.int ((lo+i:Nat):Int),x])) fun σ2 H2=>tb { D with nx:=Pv (i+1),ct:=Pv (i+1),bk:=D.nx } σ2 H2) (hd:∀ U H',Pv xs.length U H'->D.nx U H') :
  ∃W:Nat->YN,(∃m,W 0 m U H)/\∀i m U H,W i m U H ->
   ((KJ K a lo).stop i H/\D.nx U H)\/((KJ K a lo).go i H/\∃N:YO,(∀ σ' H',N σ' H'->∃m',m' < m/\W (i+1) m' σ' H')/\∀x H',(KJ K a lo).yld i H x H'->g x U H' fun σ2 H2=>tb { D with nx:=N,ct:=N,bk:=D.nx } σ2 H2):=by
 refine⟨λi m U H=>m=xs.length - i/\i<=xs.length/\Pv i U H,⟨xs.length,by simp,Qcf _,h0⟩,?_⟩;rintro i m U H ⟨rfl,hi,p⟩;have q:=hl i U H hi p;by_cases hlt:i < xs.length
 ·refine .inr ⟨⟨xs,xs[i],q,by simp[hlt]⟩,Pv (i+1),fun σ3 H3 p'=>⟨xs.length - (i+1),by omega,rq,hlt,p'⟩,λv H2 y=>?_⟩;obtain⟨pa,x,hn,rfl,rfl,hx⟩:=y;exact hs i x pa U _ (hx xs q) p hn
 ·have e:i=xs.length:=by omega
  subst e;exact .inl ⟨⟨xs,q,Qce _⟩,hd U H p⟩
end
theorem Qa (elt t1 i1 t2 i2:Expr) (scope:Scope) (pos:Pos) (it acc:Value) (env:Env) :
  compTurn (.ListComp elt [⟨t1,i1,[],0⟩,⟨t2,i2,[],0⟩] scope pos) 0 it acc env=(do
   standAt i1.pos
   match <-pyNext it with
   | none=>pure (.done .next)
   | some v=>
    letOwnedTupleGo t1 it v
    assign t1 env v
    let x <-eval i2 env
    standAt i2.pos
    let x <-foldedSetIterable i2 env x;let _ <-runOwn (.compStart (.ListComp elt [⟨t1,i1,[],0⟩,⟨t2,i2,[],0⟩] scope pos) 1 (<-holding [x] (pyIter x)) acc env) env
    again (.compLoop (.ListComp elt [⟨t1,i1,[],0⟩,⟨t2,i2,[],0⟩] scope pos) 0 it acc env)):=by rfl
theorem Ry (elt t1 i1 t2 i2:Expr) (scope:Scope) (pos:Pos) (it acc:Value) (env:Env) :
  compTurn (.ListComp elt [⟨t1,i1,[],0⟩,⟨t2,i2,[],0⟩] scope pos) 1 it acc env=(do
   standAt i2.pos
   match <-pyNext it with
   | none=>pure (.done .next)
   | some v=>
    letOwnedTupleGo t2 it v
    assign t2 env v
    (do let _ <-call (.builtin "list.append") [acc,<-eval elt env])
    again (.compLoop (.ListComp elt [⟨t1,i1,[],0⟩,⟨t2,i2,[],0⟩] scope pos) 1 it acc env)):=by rfl
section
variable {prog:Program} {w:World} {A:Around} {R:Result->Shared->Prop} {s:Shared} {elt t1 i1 t2 i2:Expr} {scope:Scope} {pos:Pos} {it acc:Value} {env:Env}
theorem KD
  (h0:codeAny (model prog w) A (.compLoop (.ListComp elt [⟨t1,i1,[],0⟩,⟨t2,i2,[],0⟩] scope pos) 1 it acc env) R s)
  (h:wpAny (model prog w) A (pyIter it) (λit' s'=>codeAny (model prog w) A (.compLoop (.ListComp elt [⟨t1,i1,[],0⟩,⟨t2,i2,[],0⟩] scope pos) 1 it' acc env) R s')
   (notedBy (model prog w) A env λx s'=>R (.error x) s') s) :
  codeAny (model prog w) A (.compStart (.ListComp elt [⟨t1,i1,[],0⟩,⟨t2,i2,[],0⟩] scope pos) 1 it acc env) R s:=by
 refine codeAny_of_tree ?_;show wpAny _ _ ((compStart (.ListComp elt [⟨t1,i1,[],0⟩,⟨t2,i2,[],0⟩] scope pos) 1 it acc env).onRaise (λx=>do noteFrame x env;standAt theWindowsPlace)) _ _ s
 refine wpAny_notedAt ?_;unfold compStart;show wpAny _ _ (ask >>= _) _ _ s;refine Qci (Qbs (wpAny_ite ?_));split
 ·first
   | exact Qci (Qcj (Qcj (And.intro rfl h0)))
   | exact Qcj (And.intro rfl h0)
 ·first
   | exact Qci (Qcl (Qci (QbS (Qci (Qck h (λit' s' h'=>Qcj (And.intro rfl h')) λ_ _ x=>x)))))
   | (refine Qci (Qcl ?_);show wpAny _ _ (standAt i2.pos >>= _) _ _ s;exact Qci (QbS (Qci (Qck h (λit' s' h'=>Qcj (And.intro rfl h')) λ_ _ x=>x))))
theorem Qc (J:Nat->Shared->Prop)
  (turn:∀n s,J n s->wpAny (model prog w) A (pyNext it) (λr s1=>match r with
   | none=>R (.ok .next) s1
   | some v=>wpAny (model prog w) A (letOwnedTupleGo t2 it v) (λ_ s2=>wpAny (model prog w) A (assign t2 env v) (λ_ s3=>
     wpAny (model prog w) A (eval elt env) (λx s5=>wpAny (model prog w) A (call (.builtin "list.append") [acc,x]) (λ_ s6=>∃m,m < n/\J m s6) (λ_ _=>False) s5) (λ_ _=>False) s3) (λ_ _=>False) s2) (λ_ _=>False) s1) (λ_ _=>False) s)
  (n:Nat) (h:J n s):codeAny (model prog w) A (.compLoop (.ListComp elt [⟨t1,i1,[],0⟩,⟨t2,i2,[],0⟩] scope pos) 1 it acc env) R s:=by
 refine codeAny_loop rfl J (λk s' hk=>?_) n h;show wpAny _ A (Sem.onRaise (compTurn (.ListComp elt [⟨t1,i1,[],0⟩,⟨t2,i2,[],0⟩] scope pos) 1 it acc env) (λx=>do noteFrame x env;theTreesLotGoes x)) _ _ s'
 refine wpAny_noted ?_;rw[Ry];refine Qci (QbS (Qci (Qck (turn k s' hk) (λr s1 q1=>?_) λ_ _ f=>f.elim)));cases r with
 | none=>exact Qcj q1
 | some v=>
  refine Qci (Qck q1 (λ_ s2 q2=>Qci (Qck q2 (λ_ s3 q3=>?_) λ_ _ f=>f.elim)) λ_ _ f=>f.elim);exact Qci (Qci (Qck q3 (λx s5 q5=>Qci (Qck q5 (λ_ s6 q6=>Qcj (Qcj ⟨rq,q6⟩)) λ_ _ f=>f.elim)) λ_ _ f=>f.elim))
theorem U7 (hs2:∀x,foldedSetIterable i2 env x=pure x) (J:Nat->Shared->Prop)
  (turn:∀n s,J n s->wpAny (model prog w) A (pyNext it) (λr s1=>match r with
   | none=>R (.ok .next) s1
   | some v=>wpAny (model prog w) A (letOwnedTupleGo t1 it v) (λ_ s2=>wpAny (model prog w) A (assign t1 env v) (λ_ s3=>
     wpAny (model prog w) A (eval i2 env) (λx s4=>wpAny (model prog w) A (pyIter x) (λjt s5=>codeAny (model prog w) A (.compStart (.ListComp elt [⟨t1,i1,[],0⟩,⟨t2,i2,[],0⟩] scope pos) 1 jt acc env) (λr s6=>match r with | .ok _=>∃m,m < n/\J m s6 | .error _=>False) s5) (λ_ _=>False) s4) (λ_ _=>False) s3) (λ_ _=>False) s2) (λ_ _=>False) s1) (λ_ _=>False) s)
  (n:Nat) (h:J n s):codeAny (model prog w) A (.compLoop (.ListComp elt [⟨t1,i1,[],0⟩,⟨t2,i2,[],0⟩] scope pos) 0 it acc env) R s:=by
 refine codeAny_loop rfl J (λk s' hk=>?_) n h;show wpAny _ A (Sem.onRaise (compTurn (.ListComp elt [⟨t1,i1,[],0⟩,⟨t2,i2,[],0⟩] scope pos) 0 it acc env) (λx=>do noteFrame x env;theTreesLotGoes x)) _ _ s'
 refine wpAny_noted ?_;rw[Qa];refine Qci (QbS (Qci (Qck (turn k s' hk) (λr s1 q1=>?_) λ_ _ f=>f.elim)));cases r with
 | none=>exact Qcj q1
 | some v=>
  refine Qci (Qck q1 (λ_ s2 q2=>Qci (Qck q2 (λ_ s3 q3=>?_) λ_ _ f=>f.elim)) λ_ _ f=>f.elim);refine Qci (Qck q3 (λx s4 q4=>Qci (QbS (Qci (wpAny_of_eq (hs2 x) (Qci (QbR (Qck q4 (λjt s5 q5=>?_) λ_ _ f=>f.elim))))))) λ_ _ f=>f.elim);refine Qci (wpAny_runOwn (Qcc q5 λr s6 q6=>?_));cases r with
  | ok f=>exact Qcj ⟨rfl,q6⟩
  | error e=>exact q6.elim
end
def CIn (J:It) (g:TG) (te:TE) (l:Addr) (N:YO) (σ0:St) (H0:Hp):Prop:=∃W:Nat->YN,(∃m,W 0 m σ0 H0) /\
 ∀i m σ' H',W i m σ' H'->(J.stop i H'/\N σ' H')\/(J.go i H'/\∃N2:YO,(∀ σ3 H3,N2 σ3 H3->∃m',m' < m/\W (i+1) m' σ3 H3)/\∀x H2,J.yld i H' x H2->g x σ' H2 fun σ3 H3=>
  te σ3 H3 λy H5=>∃xs,H5 l=some (.lst xs)/\xs.length < sizeLine/\N2 σ3 (upd H5 l (.lst (xs++[y]))))
@[irreducible] def Ny (J:It) (g:TG) (wi2:TI) (g2:TG) (te:TE) (Q:VK) (σ0:St) (H0:Hp) (l:Addr):Prop:=∃W:Nat->YN,(∃m,W 0 m σ0 H0) /\
 ∀i m σ' H',W i m σ' H'->(J.stop i H'/\Q (.ref l) H')\/(J.go i H'/\∃N:YO,(∀ σ3 H3,N σ3 H3->∃m',m' < m/\W (i+1) m' σ3 H3)/\∀x H2,J.yld i H' x H2->g x σ' H2 fun σ3 H3=>wi2 σ3 H3 λJ2 H4=>CIn J2 g2 te l N σ3 H4)
def Vu (wi:TI) (src:List (Option Nat)) (g:TG) (wi2:TI) (g2:TG) (te:TE):TE:=fun U H Q=>wi U H λJ H1=>∀l,H1 l=none->Ny J g wi2 g2 te Q (FN src U) (upd H1 l (.lst [])) l
theorem Ym {Y:Cx} (hE:∀v s,Y.xe v s->False) (hc:Y.calm=true) {elt t1 i1 t2 i2:Expr} {sc:Scope} {pos:Pos} {l it:Addr} {fp:List Addr} {tn:Nat->Heap->Prop} {J:It} {g:TG} {te:TE} {N:YO} {jb:YC} {U : St} {H:Hp} {s:Shared}
  (T:Turn Y.prog Y.w Y.K t2 J fp it tn) (hg:PG Y t2 g) (he:PE Y elt te) (I:Inv Y jb U H s) (st:tn 0 s.heap) (f:∀b∈fp,CQ Y jb H b) (w:CIn J g te l N U H) :
  codeAny (model Y.prog Y.w) Y.A (.compStart (.ListComp elt [⟨t1,i1,[],0⟩,⟨t2,i2,[],0⟩] sc pos) 1 (.ref it) (.ref l) Y.env) (λr s'=>match r with | .ok _=>∃ σ' H',Inv Y jb σ' H' s'/\N σ' H' | .error _=>False) s:=by
 obtain⟨W,⟨m0,w0⟩,turn⟩:=w;have loop:codeAny (model Y.prog Y.w) Y.A (.compLoop (.ListComp elt [⟨t1,i1,[],0⟩,⟨t2,i2,[],0⟩] sc pos) 1 (.ref it) (.ref l) Y.env) (λr s'=>match r with | .ok _=>∃ σ' H',Inv Y jb σ' H' s'/\N σ' H' | .error _=>False) s:=by
  refine Qc (λn s'=>∃i σ' H',Inv Y jb σ' H' s'/\tn i s'.heap/\(∀b∈fp,H' b=none)/\W i n σ' H') ?_ m0 ⟨0,U,H,I,st,λb hb=>(f b hb).1,w0⟩;rintro n s3 ⟨i,σ3,H3,I3,st3,fr3,w3⟩;have stat:∀{H':Hp},(∀b∈fp,H' b=none)->∀b∈fp,CQ Y jb H' b:=λhn b hb=>⟨hn b hb,(f b hb).2⟩;rcases turn i n σ3 H3 w3 with⟨stop,qn⟩|⟨go,N2,hN,step⟩
  ·refine thn (T.done Y rfl rfl rfl hc i jb s3 σ3 H3 _ I3 (stat fr3) st3 stop) λr s4 zz=>?_;obtain⟨hr,I4⟩:=zz;subst hr;exact⟨σ3,H3,I4,qn⟩
  ·refine thn (T.item Y rfl rfl rfl hc i jb s3 σ3 H3 _ I3 (stat fr3) st3 go) λr s4 zz=>?_;obtain⟨u,hr,h4⟩:=zz;subst hr;refine thn h4 λ_ s5 zz=>?_;obtain⟨x,H5,I5,r5,y5,st5,fr5⟩:=zz;have I5':=I5.pinned (stat fr5) (T.obj _ _ st5);have again:∀{σ7:St} {H7:Hp} {s7:Shared},Inv Y (jb++Gv fp s5.heap) σ7 H7 s7->N2 σ7 H7->∃m,m < n/\∃i σ' H',Inv Y jb σ' H' s7/\tn i s7.heap/\(∀b∈fp,H' b=none)/\W i m σ' H':=λ{σ7 H7 s7} I7 n7=>by
    obtain⟨m',hm,w7⟩:=hN σ7 H7 n7;refine⟨m',hm,i+1,σ7,H7,I7.DY,T.keep _ _ _ st5 λb hb o e=>(I7.pin (b,o) (Qav _ (Qav _ (DK hb e)))).1,λb hb=>?_,w7⟩;obtain⟨o,e,d⟩:=T.obj _ _ st5 b hb;exact (I7.pin (b,o) (Qav _ (Qav _ (DK hb e)))).2.1
   refine Qck (hg _ s5 σ3 H5 x u _ I5' r5 (step x H5 y5)) (λ_ s6 zz=>?_) λv s h=>(hE v s h).elim;obtain⟨σ6,H6,I6,q6⟩:=zz;refine Qck (he _ s6 σ6 H6 _ I6 q6) (λy s9 zz=>?_) λv s h=>(hE v s h).elim;obtain⟨yv,H9,J9,r9,xs,hl9,hz9,q9⟩:=zz;refine Qck (FJ _ s9 σ6 H9 (.ref l) [yv] (.ref l) [y] (λ_ H'=>N2 σ6 H') J9 rfl (.cons r9 .nil) ⟨_,xs,yv,rq,rq,hl9,hz9,q9⟩) (λ_ s10 zz=>?_) λv s h=>(hE v s h).elim;obtain⟨_,H10,J10,_,q10⟩:=zz;exact again J10 q10
 exact KD loop (T.self Y.A 0 _ _ _ st loop)
theorem U8 {X:Cx} {N':YF} {src:List (Option Nat)} {sc:Scope} {elt tg iter t2 i2:Expr} {pos pos':Pos} {wi wi2:TI} {g g2:TG} {te:TE} {use:Option (Value->Sem Unit)} {R:YA} (hc:X.calm=true) (S:Bo X N' src sc)
  (hi:PI X tg iter wi) (hg:∀s3 H3 fp pn,PG (cxC X N' sc s3 H3 fp pn) tg g) (hi2:∀s3 H3 fp pn,PI (cxC X N' sc s3 H3 fp pn) t2 i2 wi2) (hg2:∀s3 H3 fp pn,PG (cxC X N' sc s3 H3 fp pn) t2 g2) (he:∀s3 H3 fp pn,PE (cxC X N' sc s3 H3 fp pn) elt te)
  (hs:∀x,foldedSetIterable iter X.env x=pure x) (hs2:∀s3 H3 fp pn x,foldedSetIterable i2 (cxC X N' sc s3 H3 fp pn).env x=pure x) {jb:YC} {s:Shared} {U : St} {H:Hp} {Q:VK} (I:Inv X jb U H s) (h:Vu wi src g wi2 g2 te U H Q)
  (fin:∀s3 H3 fp σ4 H4 s5 l,Inv X jb U H3 s3->(∀b∈fp,CQ X jb H3 b)->Inv (cxC X N' sc s3 H3 fp (X.pn++jb)) [] σ4 H4 s5->Q (.ref l) H4 ->
   compPost (model X.prog X.w) X.A X.xe use R (.ref l) s3.heap.objs.size (.ok .next) s5) :
  wpAny (model X.prog X.w) X.A (comprehension (.ListComp elt [⟨tg,iter,[],0⟩,⟨t2,i2,[],0⟩] sc pos) sc X.env pos' (newList []) false (eval iter X.env) use) R X.xe s:=by
 refine wpAny_comprehension_free (use:=use) (cl:=Cy X.env sc.names []) rfl hs (JR λp hp e=>I.ok.has p.1 (S.fv p hp e)) S.kind S.loc ?_;refine thn (hi jb s U H _ I h) λv s1 h1=>thn h1 λitv s2 h2=>?_;obtain⟨it,fp,tn,J,H2,rfl,I2,T,st2,f2,q⟩:=h2;have q':=q s2.heap.objs.size (I2.hok.fresh (Qce _));unfold Ny at q';obtain⟨W,⟨m0,w0⟩,turn⟩:=q';refine Qbe (wpAny_newFunctionEnv S.Ew (by intro y hy;simp at hy) (λha hns hsb=>?_) S.kind);have I3:Inv X jb U (upd H2 s2.heap.objs.size (.lst [])) { s2 with heap:=s2.heap.push { cls:=.type "list",dict:=none,data:=.seq ([]:YE).toArray } }:=
  I2.laid (t':=s2.toks) (λb u e=>Qas _ e) (Qce _) ⟨Qcf _,[],0,.nil,QaG _ rfl⟩
 have hfl:∀b∈fp,b < s2.heap.objs.size:=λb hb=>by
  obtain⟨o,e,_⟩:=T.obj 0 _ st2 b hb;exact QbW e
 have f3:∀b∈fp,CQ X jb (upd H2 s2.heap.objs.size (.lst [])) b:=λb hb=>⟨by rw[Aj (QbX (hfl b hb))];exact (f2 b hb).1,(f2 b hb).2⟩;generalize hs3:({ s2 with heap:=s2.heap.push { cls:=.type "list",dict:=none,data:=.seq ([]:YE).toArray } }:Shared)=s3 at *;have hsz:s2.heap.objs.size < s3.heap.objs.size:=by rw[<-hs3];show s2.heap.objs.size < (s2.heap.push _).objs.size;rw[QbL];exact Qbp _
 have kp:∀b o,s3.heap.get? b=some o->ha.get? b=some o:=λb o e=>hsb.extBut b o (QbX (QbW e)) (Qas _ e);have st3:tn 0 ha:=T.keep 0 _ _ st2 λb hb o e=>kp b o (by rw[<-hs3];exact Qas _ e);have I4:Inv (cxC X N' sc s3 (upd H2 s2.heap.objs.size (.lst [])) fp (X.pn++jb)) [] (FN src U) (upd H2 s2.heap.objs.size (.lst [])) { s3 with heap:=ha,toks:=s3.toks+([]:List (Str×Value)).length }:=
  Mg S I3 f3 (λb hb=>Nat.lt_trans (hfl b hb) hsz) hns kp
 have loop:codeAny (model X.prog X.w) X.A (.compLoop (.ListComp elt [⟨tg,iter,[],0⟩,⟨t2,i2,[],0⟩] sc pos) 0 (.ref it) (.ref s2.heap.objs.size) (compEnvC sc (Cy X.env sc.names []) s3.heap.objs.size X.env))
   (compPost (model X.prog X.w) X.A X.xe use R (.ref s2.heap.objs.size) s3.heap.objs.size) { s3 with heap:=ha,toks:=s3.toks+([]:List (Str×Value)).length }:=by
  refine U7 (hs2 s3 (upd H2 s2.heap.objs.size (.lst [])) fp (X.pn++jb)) (λn s'=>∃i σ' H',Inv (cxC X N' sc s3 (upd H2 s2.heap.objs.size (.lst [])) fp (X.pn++jb)) [] σ' H' s'/\tn i s'.heap/\(∀b∈fp,H' b=none)/\W i n σ' H') ?_ m0 ⟨0,_,_,I4,st3,λb hb=>(f3 b hb).1,w0⟩;rintro n s4 ⟨i,σ4,H4,J4,st4,fr4,w4⟩;have stat:∀{H':Hp},(∀b∈fp,H' b=none)->∀b∈fp,CQ (cxC X N' sc s3 (upd H2 s2.heap.objs.size (.lst [])) fp (X.pn++jb)) [] H' b:=λhn b hb=>
   ⟨hn b hb,(I4.ok.exf b hb).1,I4.ok.Kw b hb,.inl hb,λx c e=>(I4.ok.exf b hb).2 x c e,λp hp=>(f3 b hb).2.2.2.2.2 p ((Qbv.mp hp).elim id λz=>by cases z)⟩
  rcases turn i n σ4 H4 w4 with⟨stop,qn⟩|⟨go,N,hN,step⟩
  ·refine thn (T.done (cxC X N' sc s3 (upd H2 s2.heap.objs.size (.lst [])) fp (X.pn++jb)) rfl rfl rfl hc i [] s4 σ4 H4 _ J4 (stat fr4) st4 stop) λr s5 zz=>?_;obtain⟨hr,J5⟩:=zz;subst hr;exact fin s3 _ fp σ4 H4 s5 _ I3 f3 J5 qn
  ·refine thn (T.item (cxC X N' sc s3 (upd H2 s2.heap.objs.size (.lst [])) fp (X.pn++jb)) rfl rfl rfl hc i [] s4 σ4 H4 _ J4 (stat fr4) st4 go) λr s5 zz=>?_;obtain⟨u,hr,h5⟩:=zz;subst hr;refine thn h5 λ_ s6 zz=>?_;obtain⟨x,H6,J6,r6,y6,st6,fr6⟩:=zz;have J6':=J6.pinned (stat fr6) (T.obj _ _ st6);have back:∀{σ7:St} {H7:Hp} {s7:Shared},Inv (cxC X N' sc s3 (upd H2 s2.heap.objs.size (.lst [])) fp (X.pn++jb)) ([]++Gv fp s6.heap) σ7 H7 s7->N σ7 H7 ->
     ∃m',m' < n/\∃i σ' H',Inv (cxC X N' sc s3 (upd H2 s2.heap.objs.size (.lst [])) fp (X.pn++jb)) [] σ' H' s7/\tn i s7.heap/\(∀b∈fp,H' b=none)/\W i m' σ' H':=λ{σ7 H7 s7} J7 w7=>by
    obtain⟨m',hm,w7⟩:=hN _ _ w7;have pinned:∀b∈fp,∀o,s6.heap.get? b=some o->s7.heap.get? b=some o/\H7 b=none:=λb hb o e=>by
     have:=J7.pin (b,o) (Qav _ (Qav _ (DK hb e)));exact⟨this.1,this.2.1⟩
    refine⟨m',hm,i+1,σ7,H7,J7.DY,T.keep _ _ _ st6 λb hb o e=>(pinned b hb o e).1,λb hb=>?_,w7⟩;obtain⟨o,e,_⟩:=T.obj _ _ st6 b hb;exact (pinned b hb o e).2
   refine thn (hg s3 _ fp _ _ s6 σ4 H6 x u _ J6' r6 (step x H6 y6)) λ_ s7 zz=>?_;obtain⟨σ7,H7,J7,q7⟩:=zz;refine thn (hi2 s3 _ fp _ _ s7 σ7 H7 _ J7 q7) λv s8 q8=>thn q8 λjt s9 q9=>?_;obtain⟨it2,fp2,tn2,J2,H9,rfl,I9,T2,st9,f9,q9⟩:=q9;refine Qcc (Ym (Y:=cxC X N' sc s3 (upd H2 s2.heap.objs.size (.lst [])) fp (X.pn++jb)) (λ_ _ h=>h) hc T2 (hg2 s3 _ fp _) (he s3 _ fp _) I9 st9 f9 q9) λr s10 q10=>?_;cases r with
   | ok f=>obtain⟨σ',H',I',n'⟩:=q10;exact back I' n'
   | error e=>exact q10
 exact codeAny_compStart_list loop (T.self X.A 0 _ _ _ st3 loop)
theorem Xo {X:Cx} {N':YF} {src:List (Option Nat)} {sc:Scope} {elt tg iter t2 i2:Expr} {pos:Pos} {wi wi2:TI} {g g2:TG} {te:TE} (hc:X.calm=true) (S:Bo X N' src sc)
  (hi:PI X tg iter wi) (hg:∀s3 H3 fp pn,PG (cxC X N' sc s3 H3 fp pn) tg g) (hi2:∀s3 H3 fp pn,PI (cxC X N' sc s3 H3 fp pn) t2 i2 wi2) (hg2:∀s3 H3 fp pn,PG (cxC X N' sc s3 H3 fp pn) t2 g2) (he:∀s3 H3 fp pn,PE (cxC X N' sc s3 H3 fp pn) elt te)
  (hs:∀x,foldedSetIterable iter X.env x=pure x:=by intro _;rfl) (hs2:∀s3 H3 fp pn x,foldedSetIterable i2 (cxC X N' sc s3 H3 fp pn).env x=pure x:=by intros;rfl):PE X (.ListComp elt [⟨tg,iter,[],0⟩,⟨t2,i2,[],0⟩] sc pos) (Vu wi src g wi2 g2 te):=by
 intro jb s U H Q I h;rw[eval_ListComp];refine U8 (use:=none) hc S hi hg hi2 hg2 he hs hs2 I h λs3 H3 fp σ4 H4 s5 l I3 f3 J5 q=>?_;obtain⟨m,hn,_⟩:=J5.loc;exact⟨m,hn,λh' sb=>⟨.ref l,H4,Nq I3 f3 J5 sb,rq,q⟩⟩
theorem Yn {K:YD} {a l:Addr} {xs:YG} {g:TG} {te:TE} {N:YO} {σ0:St} {H0:Hp} (Pv:YN)
  (h0:Pv 0 σ0 H0) (hl:∀i U H',i<=xs.length->Pv i U H'->SqL K H' a xs)
  (hs:∀i x U H',xs[i]?=some x->Pv i U H'->g x U H' fun σ3 H3=>te σ3 H3 λy H5=>∃ys,H5 l=some (.lst ys)/\ys.length < sizeLine/\Pv (i+1) σ3 (upd H5 l (.lst (ys++[y]))))
  (hd:∀ U H',Pv xs.length U H'->N U H'):CIn (Itl K a) g te l N σ0 H0:=by
 refine⟨λi m U H'=>m=xs.length - i/\i<=xs.length/\Pv i U H',⟨xs.length,by simp,Qcf _,h0⟩,?_⟩;rintro i m U H' ⟨rfl,hi,p⟩;have q:=hl i U H' hi p;by_cases hlt:i < xs.length
 ·refine .inr ⟨⟨xs,xs[i],q,by simp[hlt]⟩,Pv (i+1),fun σ3 H3 p'=>⟨xs.length - (i+1),by omega,rq,hlt,p'⟩,λv H2 y=>?_⟩;obtain⟨rfl,hx⟩:=y;exact hs i v U _ (hx xs q) p
 ·have e:i=xs.length:=by omega
  subst e;exact .inl ⟨⟨xs,q,Qce _⟩,hd U H' p⟩
theorem Lz {X:Cx} {N':YF} {src:List (Option Nat)} {sc:Scope} {kx vx tg iter:Expr} {ifs:YJ} {pos spos px:Pos} {wi:TI} {g:TG} {tt:TT} {tk tv:TE} {i:Nat} {x:Str} (hN:X.N.Nodup) (hi0:X.N[i]?=some x) (hx:Loc X.env.scope x) (hc:X.calm=true) (S:Bo X N' src sc)
  (hi:PI X tg iter wi) (hg:∀s3 H3 fp pn,PG (cxC X N' sc s3 H3 fp pn) tg g) (ht:∀s3 H3 fp pn,PF (cxC X N' sc s3 H3 fp pn) ifs tt) (hk:∀s3 H3 fp pn,PE (cxC X N' sc s3 H3 fp pn) kx tk) (hv:∀s3 H3 fp pn,PE (cxC X N' sc s3 H3 fp pn) vx tv)
  (hsw:swapsWith (.DictComp kx vx [⟨tg,iter,ifs,0⟩] sc pos) (some (.Name x px)) spos.line X.env=pure true:=by rfl) (hs:∀x,foldedSetIterable iter X.env x=pure x:=by intro _;rfl)
  (hf:X.fn x=true\/X.env.scope.names.lookup x=some .local:=by first | exact .inl rfl | exact .inr rfl | assumption) :
  PS X (.Assign [.Name x px] (.DictComp kx vx [⟨tg,iter,ifs,0⟩] sc pos) spos) (W7 (Qq wi src g tt tk tv) (Qi i)):=by
 intro jb s U H D I h;rw[exec_Assign_Name_used _ _ _ _ hsw];refine Qci (QbS (Qci ?_));show wpAny _ X.A (do let _ <-comprehension (.DictComp kx vx [⟨tg,iter,ifs,0⟩] sc pos) sc X.env _ newDict false (eval iter X.env) (some (assign (.Name x px) X.env))) _ _ s
 refine Qci (thn (Nr (R:=λ_ s'=>SP X jb D .next s') hc S hi hg ht hk hv hs I h λs3 H3 fp σ4 H4 s5 l I3 f3 J5 q=>?_) λ_ s' hq=>Qcj (Qcj hq));obtain⟨m,⟨oC,es,ep,hoC,r⟩,_⟩:=J5.loc;have I6:Inv X jb U H4 { s5 with heap:=s5.heap }:=Nq I3 f3 J5 (Heap.SameBut.refl _ _);have hCn:H4 s3.heap.objs.size=none:=J5.free;have neL:s3.heap.objs.size≠X.env.locals:=Qcb I3.lt;have fO:∀v,oC.data≠.cell v:=λv z=>by rw[r.1] at z;cases z
 have I7:Inv X (jb++[(s3.heap.objs.size,oC)]) U H4 s5:=I6.N8 λp hp=>(Qbv.mp hp).elim (λz=>I6.pin p (Qav _ z)) λz=>by
  cases QaP.mp z;exact⟨hoC,hCn,neL,I3.bD (Qce _),fO⟩
 show wpAny _ X.A (assign (.Name x px) X.env (.ref l)) _ _ s5;refine wpAny_assign_Name (Lq (v:=.ref l) I7 hN hi0 hx rfl (λs6 I8=>?_) hf);have k8:=(I8.pin (s3.heap.objs.size,oC) (Qav _ (Qav _ (QaP.mpr rfl)))).1;refine⟨m,⟨oC,es,ep,k8,r⟩,λh' sb=>⟨_,H4,?_,q⟩⟩;have I9:=I8.DY;refine I9.turned (t':=s6.toks) (λb o hb e=>sb.extBut b o hb e) hCn neL (.inr I3.sz) (λy c e z=>?_) (λp hp z=>?_)
 ·obtain⟨v,o,ho,_⟩:=I3.cell y c e;exact absurd (QbW ho) (by rw[z];exact QbT _)
 ·have:=(I3.pin p hp).1;exact absurd (QbW this) (by rw[z];exact QbT _)
section
variable {X:Cx}
end
section
variable {a l:Addr} {g:TG} {tt:TT} {tk tv:TE} {Q:VK}
theorem Sw {K:YD} {xs:YG} {σ0:St} {H0:Hp} (Pv:YN) (h0:Pv 0 σ0 H0) (hl:∀i U H',i<=xs.length->Pv i U H'->SqL K H' a xs)
  (hs:∀i x U H',xs[i]?=some x->Pv i U H'->g x U H' fun σ3 H3=>tt σ3 H3 λb H4=>if b=true then tk σ3 H4 λy H5=>tv σ3 H5 λz H6=>∃(kvs:YM) (k:Key),H6 l=some (.dK kvs)/\y=kV k/\kvs.length < sizeLine/\Pv (i+1) σ3 (upd H6 l (.dK (putK kvs k z))) else Pv (i+1) σ3 H4)
  (hd:∀ U H',Pv xs.length U H'->Q (.ref l) H'):Lb (Itl K a) g tt tk tv Q σ0 H0 l:=by
 unfold Lb;refine⟨λi m U H'=>m=xs.length - i/\i<=xs.length/\Pv i U H',⟨xs.length,by simp,Qcf _,h0⟩,?_⟩;rintro i m U H' ⟨rfl,hi,p⟩;have q:=hl i U H' hi p;by_cases hlt:i < xs.length
 ·refine .inr ⟨⟨xs,xs[i],q,by simp[hlt]⟩,Pv (i+1),fun σ3 H3 p'=>⟨xs.length - (i+1),by omega,rq,hlt,p'⟩,λx H2 y=>?_⟩;obtain⟨rfl,y⟩:=y;exact hs i x U _ (y xs q) p
 ·exact .inl ⟨⟨xs,q,by omega⟩,by
   have:i=xs.length:=by omega
   subst this;exact hd _ _ p⟩
end
open PySem.W (KasT kas_asc kas_desc kas_rev kas_tail3 kas_descPart kas_count kas_place kas_bin kas_sort)
section
variable {prog:Program} {w:World} {A:Around} {s:Shared}
end
theorem Uk {X:Cx} {jb:YC} {U : St} {H:Hp} {s:Shared} {h2:Heap} {tk:Nat} {m:YB} {D:Addr} {c:Nat} {vs:YG} {its:YE} (I:Inv X jb U H s) (hn:s.heap.Ns X.env.locals m) (hn2:h2.Ns X.env.locals m) (kp2:∀b o,b≠X.env.locals->s.heap.get? b=some o->h2.get? b=some o) (nD:∀b o,s.heap.get? b=some o->b≠D)
  (oD:h2.get? D=some (seqObj "list" its.toArray c)) (rv:Vals vs its) (h64:vs.length < 64):H D=none/\Inv X jb U (upd H D (.lst vs)) { s with heap:=h2,toks:=tk }:=by
 have hDn:H D=none:=by
  cases e:H D with
  | none=>rfl
  | some v=>
   obtain⟨o,ho⟩:=(I.hok D v e).there;exact absurd rfl (nD D o ho)
 refine⟨hDn,?_⟩;have tr:∀(o:HO) b u,H b=some u->(upd H D o) b=some u:=λo b u e=>by rw[Aj (Ar e hDn)];exact e
 refine I.step (h':=h2) (g':=s.gens) (d':=s.drawn) (t':=tk) (ch:=[]) (λb hb=>absurd hb (by simp)) (λb u hb _ _ e _=>kp2 b u hb e) (λb u hb _ _ e _=>⟨u.slots,kp2 b u hb e⟩) (λb u _ e n=>by rw[Aj (nD b u e)];exact n)
  (λb u _ e=>?_) (λb ys e=>tr _ _ _ e) (λb u v e=>tr _ _ _ e) (λb ps e=>⟨#[],by rw[tr _ _ _ e];simp⟩) (λm' hm'=>by rw[ZF hm' hn];exact hn2) (λb u e=>?_) I.bare
 ·by_cases hb:b=X.env.locals
  ·obtain⟨o,_,_,ho,_⟩:=hn2;exact⟨o,by rw[hb];exact ho⟩
  ·exact⟨u,kp2 b u hb e⟩
 ·by_cases hb:b=D
  ·subst hb;rw[Ab] at e;cases e;exact⟨Qca (Av (by omega)),_,c,rv,oD⟩
  ·rw[Aj hb] at e;refine (I.hok b u e).stay (λx v hx e1=>kp2 x v ?_ e1) (λx e1=>tr _ _ _ e1) λx ys e1=>tr _ _ _ e1;intro z;rcases hx with hx | hx
   ·rw[<-hx,z,I.free] at e;cases e
   ·rw[z,I.free] at hx;cases hx
end L2
namespace L2
open PySem PySem.Spec PyProof.Rows
theorem Mj (xs:Array Nat) (j:Nat) (up:xs.toList.Pairwise (· < ·)):∀(f lo hi:Nat),hi - lo<=f->lo<=hi->hi<=xs.size->(∀i v,xs[i]?=some v->i < lo->v < j)->(∀i v,xs[i]?=some v->hi<=i->j<=v) ->
  ∃r,SetTable.below.go xs j f lo hi=r/\r<=xs.size/\(∀i v,xs[i]?=some v->i < r->v < j)/\(∀i v,xs[i]?=some v->r<=i->j<=v)
 | 0,lo,hi,h1,h2,h3,h4,h5=>⟨lo,rfl,by omega,h4,λi v e h=>h5 i v e (by omega)⟩
 | f+1,lo,hi,h1,h2,h3,h4,h5=>by
  unfold SetTable.below.go;by_cases c:lo < hi
  ·rw[if_pos c];dsimp only;have hm:(lo+hi) / 2 < xs.size:=by omega
   have em:xs[(lo+hi) / 2]?=some xs[(lo+hi) / 2]:=Qah hm;have eg:xs.getD ((lo+hi) / 2) j=xs[(lo+hi) / 2]:=by simp[Array.getD,hm]
   have mono:∀(a b:Nat) (u v:Nat),xs[a]?=some u->xs[b]?=some v->a < b->u < v:=λa b u v ea eb l=>by
    rw[<-Qaw] at ea eb;obtain⟨ha,rfl⟩:=Qag.mp ea;obtain⟨hb,rfl⟩:=Qag.mp eb;exact Qai.mp up a b ha hb l
   rw[eg];by_cases d:xs[(lo+hi) / 2] < j
   ·rw[if_pos d];refine Mj xs j up f _ hi (by omega) (by omega) h3 (λi v e l=>?_) h5;by_cases q:i=(lo+hi) / 2
    ·subst q;rw[em] at e;cases e;exact d
    ·exact Nat.lt_trans (mono i _ v _ e em (by omega)) d
   ·rw[if_neg d];refine Mj xs j up f lo _ (by omega) (by omega) (by omega) h4 (λi v e l=>?_);by_cases q:i=(lo+hi) / 2
    ·subst q;rw[em] at e;cases e;exact Nat.le_of_not_lt d
    ·exact QbY (Nat.le_of_not_lt d) (Qca (mono _ i _ v em e (by omega)))
  ·rw[if_neg c];exact⟨lo,rq,by omega,h4,λi v e h=>h5 i v e (by omega)⟩
theorem below_at {xs:Array Nat} {j:Nat} (up:xs.toList.Pairwise (· < ·)):SetTable.below xs j<=xs.size/\(∀i v,xs[i]?=some v->i < SetTable.below xs j->v < j)/\(∀i v,xs[i]?=some v->SetTable.below xs j<=i->j<=v):=by
 obtain⟨r,e,h⟩:=Mj xs j up xs.size 0 xs.size (by omega) (by omega) (Qce _) (λi v _ h=>absurd h (QbH _)) (λi v e h=>absurd (Qaf.mp e).1 (by omega));have e':SetTable.below xs j=r:=e;rw[e'];exact h
def TOk (b:Bool) (t:SetTable):Prop:=t.led=b/\t.dummies=#[]/\(t.plain=true->t.place.toList.Pairwise (· < ·))
theorem TOk.fresh0 (b:Bool):TOk b (.fresh 0 0 b):=⟨rfl,rfl,λ_=>List.Pairwise.nil⟩
theorem TOk.stand {b:Bool} {t:SetTable} (h:TOk b t) (n:Nat):TOk b (t.standIn n):=⟨h.1,rfl,λz=>by cases z⟩
theorem TOk.off {b:Bool} {t:SetTable} (h:TOk b t):TOk b { t with plain:=false }:=⟨h.1,h.2.1,λz=>by cases z⟩
theorem MK {t:SetTable} {b:Bool} (h:TOk b t) (ha:Nat->Int) (x:Int):∀(f:Nat) (p:SetTable.Probe),p.dummy=none->∀j d,SetTable.probe.go t ha x f p=some (.empty j d)->d=none/\t.slot j=.empty
 | 0,p,_,j,d,e=>by simp[SetTable.probe.go] at e
 | f+1,p,pd,j,d,e=>by
  unfold SetTable.probe.go at e;have adv:∀q:SetTable.Probe,q.dummy=none->(t.advance q).dummy=none:=λq hq=>by unfold SetTable.advance;split <;> exact hq
  split at e
  ·rename_i hs;cases e;exact⟨pd,hs⟩
  ·rename_i hs;exfalso;unfold SetTable.slot at hs;dsimp only at hs;rw[h.2.1] at hs;split at hs
   ·cases hs
   ·split at hs
    ·rename_i hh;simp[SetTable.has] at hh
    ·cases hs
  ·split at e
   ·cases e
   ·exact MK h ha x f _ (adv p pd) j d e
theorem Wq {xs:Array Nat} {j:Nat} (up:xs.toList.Pairwise (· < ·)) (ne:xs[SetTable.below xs j]?≠some j):(SetTable.insertAt xs (SetTable.below xs j) j).toList.Pairwise (· < ·):=by
 obtain⟨h1,h2,h3⟩:=below_at (j:=j) up;rw[SetTable.toList_insertAt];refine List.pairwise_append.mpr ⟨up.sublist (List.take_sublist _ _),List.pairwise_cons.mpr ⟨λv hv=>?_,up.sublist (List.drop_sublist _ _)⟩,λu hu v hv=>?_⟩
 ·obtain⟨i,hi⟩:=QaE hv;rw[Qbb,Qaw] at hi;have q:=h3 _ v hi (Nat.le_add_right _ _);by_cases c:j=v
  ·subst c;by_cases z:i=0
   ·subst z;exact absurd hi ne
   ·exfalso;have hl:SetTable.below xs j < xs.size:=by have:=(Qaf.mp hi).1;omega
    have e0:xs[SetTable.below xs j]?=some xs[SetTable.below xs j]:=Qah hl;have q0:=h3 _ _ e0 (Qce _);rw[<-Qaw] at e0 hi;obtain⟨a1,a2⟩:=Qag.mp e0;obtain⟨b1,b2⟩:=Qag.mp hi;have:=Qai.mp up _ _ a1 b1 (by omega);omega
  ·omega
 ·obtain⟨i,hi⟩:=QaE hu;have hil:i < SetTable.below xs j:=by
   have:=(Qag.mp hi).1;rw[Qbl] at this;omega
  rw[List.getElem?_take_of_lt hil,Qaw] at hi;have uj:=h2 i u hi hil;rcases QbP.mp hv with rfl | hv
  ·exact uj
  ·obtain⟨k,hk⟩:=QaE hv;rw[Qbb,Qaw] at hk;exact QaR uj (h3 _ v hk (Nat.le_add_right _ _))
theorem TOk.VR {b:Bool} {t:SetTable} (h:TOk b t) {j:Nat} (e:t.slot j=.empty):TOk b (t.put j).1:=by
 refine⟨h.1,?_,λpl=>?_⟩
 ·show (if SetTable.has t.dummies j=true then SetTable.eraseAt t.dummies (SetTable.below t.dummies j) else t.dummies)=#[]
  rw[h.2.1];have:SetTable.has (#[]:Array Nat) j=false:=by simp[SetTable.has]
  rw[this];rfl
 ·refine Wq (h.2.2 pl) λz=>?_;unfold SetTable.slot at e;dsimp only at e;rw[z] at e;simp at e
theorem TOk.lay {b:Bool} {t:SetTable} (h:TOk b t) (es:Array (Int×Value)) (k:Int) (x:Value):TOk b (layNew t es k x).2.1:=by
 unfold layNew;split
 ·rename_i slot wd hf;dsimp only;have key:t.slot slot=.empty:=by
   unfold SetTable.freeSlot at hf;split at hf
   ·rename_i j d hp;obtain⟨rfl,hs⟩:=MK h _ _ _ _ rfl j d hp;cases hf;exact hs
   ·cases hf
  unfold SetTable.orStandIn;split
  ·exact h.VR key
  ·exact (h.VR key).stand _
 ·exact h.stand _
theorem TOk.dw {b:Bool} {t:SetTable} (h:TOk b t) (es:Array (Int×Value)) (n:Nat):TOk b (relayAll t es n).2.1:=by
 unfold relayAll;split
 ·rename_i t' order hr;dsimp only;split
  ·dsimp only;unfold SetTable.relaid SetTable.laid at hr;rw[Option.bind_eq_bind] at hr;obtain⟨owner,_,e⟩:=Option.bind_eq_some_iff.mp hr;have e':=Qby e;cases e';refine⟨h.1,rq,λ_=>?_⟩;dsimp only;have:∀(l:List Nat) (g:Nat->Option (Nat×Nat)),(∀j p,g j=some p->p.1=j)->((l.filterMap g).map (·.1)).Sublist l:=by
    intro l g hg
    induction l with
    | nil=>exact .slnil
    | cons a l ih=>
     rw[List.filterMap_cons];split
     ·exact ih.cons _
     ·rename_i p hp;rw[QbQ,hg a p hp];exact ih.cons₂ _
   refine List.Pairwise.sublist (this _ _ λj p hp=>?_) List.pairwise_lt_range;obtain⟨v,_,rfl⟩:=Qat.mp hp;rfl
  ·exact h.stand _
 ·exact h.stand _
section
variable {prog:Program} {w:World} {KT:Type} [DecidableEq KT] (kn:KeyKind prog w KT)
def SetT (b:Bool) (h:Heap) (a:Addr) (S:KT->Bool) (n:Nat):Prop:=
 ∃ob es ep t,(h.get? a=some ob/\ob.ExactSet/\ob.data=.set es ep t)/\(ElemsOf kn es.toList/\∀k,S k=true ↔ ∃e∈es.toList,kn.is k e.2=true)/\(es.size < scanBound/\t.fits es.size=true/\es.size=n)/\TOk b t
variable {kn}
variable {A:Around} {E:YA} {s:Shared}
theorem SetT.at {b:Bool} {h h':Heap} {a:Addr} {S:KT->Bool} {n:Nat} (z:SetT kn b h a S n) (k:∀o,h.get? a=some o->h'.get? a=some o):SetT kn b h' a S n:=
 let ⟨ob,es,ep,t,⟨g1,g2⟩,g3⟩:=z
 ⟨ob,es,ep,t,⟨k _ g1,g2⟩,g3⟩
theorem SetT.stored {b:Bool} {h:Heap} {a:Addr} {ob:Obj} {es:Array (Int×Value)} {ep:Nat} {t:SetTable} (g1:h.get? a=some ob) (g2:ob.ExactSet) (g3:ob.data=.set es ep t)
  {es':Array (Int×Value)} {t':SetTable} {S':KT->Bool} (k1:ElemsOf kn es'.toList) (k2:∀k,S' k=true ↔ ∃e∈es'.toList,kn.is k e.2=true) (k3:es'.size < scanBound) (k4:t'.fits es'.size=true) (k5:TOk b t') :
  (h.update a (Obj.putSet es' t')).get? a=some { ob with data:=.set es' (ep+1) t' }/\SetT kn b (h.update a (Obj.putSet es' t')) a S' es'.size:=by
 obtain⟨q,_⟩:=SetOf_store (knd:=kn) g1 g2 g3 k1 k2 k3 k4;exact⟨q,_,es',ep+1,t',⟨q,g2,rq⟩,⟨k1,k2⟩,⟨k3,k4,rq⟩,k5⟩
theorem Pz {b:Bool} {g:Bool->Sem Unit} (hg:∀(c:Bool) (s₁ : Shared) (Z:YH),Z () s₁->wpAny (model prog w) A (g c) Z E s₁)
  {a:Addr} {ob:Obj} {es:Array (Int×Value)} {ep:Nat} {t:SetTable} (g1:s.heap.get? a=some ob) (g2:ob.ExactSet) (g3:ob.data=.set es ep t)
  {es1:Array (Int×Value)} {t1:SetTable} {S':KT->Bool} (k1:ElemsOf kn es1.toList) (k2:∀k,S' k=true ↔ ∃e∈es1.toList,kn.is k e.2=true) (k3:es1.size < scanBound) (k4:t1.fits es1.size=true) (k5:TOk b t1) {wd:Bool} {R:Option Bool->Shared->Prop}
  (h:∀h',Heap.SameBut a s.heap h'->SetT kn b h' a S' es1.size->R (some true) { s with heap:=h' }) :
  wpAny (model prog w) A (do
    storeSet a es1 t1
    if (!wd&&t1.tooFull)=true then do
      g (relayAll t1 es1 (SetTable.grown es1.size)).2.2
      storeSet a (relayAll t1 es1 (SetTable.grown es1.size)).1 (relayAll t1 es1 (SetTable.grown es1.size)).2.1
      pure (some true)
     else pure (some true)) R E s:=by
 refine Qci (wpAny_storeSet_of g1 g3 ?_ (fits_of_scanBound k3));obtain⟨o1,z1⟩:=SetT.stored g1 g2 g3 k1 k2 k3 k4 k5;have m1:=QaJ s.heap a (Obj.putSet es1 t1);split
 ·have pm:=relayAll_perm t1 es1 (SetTable.grown es1.size);have ft:=relayAll_fits t1 es1 (SetTable.grown es1.size);have tk:=k5.dw es1 (SetTable.grown es1.size);generalize relayAll t1 es1 (SetTable.grown es1.size)=RL at pm ft tk ⊢;obtain⟨es2,t2,gv⟩:=RL;dsimp only at pm ft tk ⊢;have l1:ElemsOf kn es2.toList:=k1.perm pm;have l2:∀k,S' k=true ↔ ∃e∈es2.toList,kn.is k e.2=true:=λk=>(k2 k).trans ⟨λ⟨e,he,q⟩=>⟨e,pm.mem_iff.mpr he,q⟩,λ⟨e,he,q⟩=>⟨e,pm.mem_iff.mp he,q⟩⟩;have sz:es2.size=es1.size:=by rw[<-QaH,pm.length_eq,QaH]
  have l3:es2.size < scanBound:=sz ▸ k3;refine Qci (hg gv _ _ ?_);refine Qci (wpAny_storeSet_of o1 rfl ?_ (fits_of_scanBound l3));obtain⟨_,z2⟩:=SetT.stored o1 g2 rfl l1 l2 l3 ft tk;exact Qcj (h _ (m1.trans (QaJ _ a _)) (sz ▸ z2))
 ·exact Qcj (h _ m1 z1)
theorem jT {b:Bool} {a:Addr} {S:KT->Bool} {n:Nat} {k:KT} {x:Value} {Q:Bool->Shared->Prop} (kx:kn.is k x=true) (sx:x.scannable=true) (z:SetT kn b s.heap a S n) (room:n+1 < scanBound)
  (h:∀h',Heap.SameBut a s.heap h'->SetT kn b h' a (λk'=>S k' || decide (k'=k)) (if S k then n else n+1)->Q (!S k) { s with heap:=h' }) :
  wpAny (model prog w) A (setAddHashed a x (kn.hash k)) Q E s:=by
 obtain⟨ob,es,ep,t,⟨g1,g2,g3⟩,⟨c1,c2⟩,⟨c3,c4,rfl⟩,c5⟩:=z;unfold setAddHashed setAddHashedIn;refine QbR (Qci (Qbh g1 g3 c4 ?_));dsimp only;rw[byScan_of sx c3 c1];simp only[↓reduceIte];unfold setAddByScan;refine Qci (Qci (Qcl (Qci (wpAny_setScan_of kx g1 g3 c4 c1 ?_))));cases fnd:es.toList.findIdx? (λe=>kn.is k e.2) with
 | some i=>
  dsimp only;obtain⟨hi,pi,_⟩:=List.findIdx?_eq_some_iff_getElem.mp fnd;have Sk:S k=true:=(c2 k).mpr ⟨es.toList[i],Qbq hi,pi⟩;refine Qcj (Qcj ?_);have u:=h s.heap (Heap.SameBut.refl a s.heap) ⟨ob,es,ep,t,⟨g1,g2,g3⟩,⟨c1,λk'=>by
   rw[Bool.or_eq_true,decide_eq_true_eq,<-c2 k'];exact⟨λq=>q.elim id λe=>e ▸ Sk,.inl⟩⟩,⟨c3,c4,by rw[Sk];rfl⟩,c5⟩
  rw[Sk] at u;obtain⟨_,_,_,_,_⟩:=s;exact u
 | none=>
  dsimp only;have Sk:S k=false:=Bool.eq_false_iff.mpr λq=>by
   obtain⟨e,he,p⟩:=(c2 k).mp q;have:=List.findIdx?_eq_none_iff.mp fnd e he;rw[p] at this;cases this
  have gw:∀(c:Bool) {s₁ : Shared} {Z:YH},Z () s₁->wpAny (model prog w) A (match c with | true=>rule "set.scan.the-table-gave-way" | false=>pure ()) Z E s₁:=λc s₁ Z q=>by cases c <;> first | exact Qcj q | exact Qcl q
  have pm:=layNew_perm t es (kn.hash k) x;have ft:=layNew_fits t es (kn.hash k) x;have tk:=c5.lay es (kn.hash k) x;generalize layNew t es (kn.hash k) x=LN at pm ft tk ⊢;obtain⟨es1,t1,wd,gv⟩:=LN;dsimp only at pm ft tk ⊢;rw[Array.toList_push] at pm;have d1:ElemsOf kn es1.toList:=(c1.push kx sx).perm pm;have d2:∀k',(S k' || decide (k'=k))=true ↔ ∃e∈es1.toList,kn.is k' e.2=true:=mem_push_iff kx c2 pm;have sz:es1.size=es.size+1:=by rw[<-QaH,pm.length_eq,QaM,QaH];rfl
  have d3:es1.size < scanBound:=by rw[sz];exact room
  have fin:∀h',Heap.SameBut a s.heap h'->SetT kn b h' a (λk'=>S k' || decide (k'=k)) es1.size->Q true { s with heap:=h' }:=λh' m z=>by
   have u:=h h' m;rw[Sk] at u;exact u (sz ▸ z)
  refine Qci (gw gv ?_);split
  ·refine Qci ?_;rw[hashByValue_scannable 8 sx];refine Qcj ?_;refine Pz ?_ g1 g2 g3 d1 d2 d3 ?_ (b:=b) ?_ ?_
   ·intro c s₁ Z q;cases c <;> first | exact Qcj q | exact Qcl q
   ·split
    ·exact ft
    ·exact SetTable.fits_plain_off ft
   ·split
    ·exact tk
    ·exact tk.off
   ·intro h' m z;dsimp only;exact Qcj (fin h' m z)
  ·refine Qci (Qcj ?_);simp only[↓reduceIte];refine Pz ?_ g1 g2 g3 d1 d2 d3 ft tk ?_
   ·intro c s₁ Z q;cases c <;> first | exact Qcj q | exact Qcl q
   ·intro h' m z;dsimp only;exact Qcj (fin h' m z)
end
def met {KT:Type} [DecidableEq KT] (val:Nat->KT):Nat->List KT
 | 0=>[]
 | i+1=>if val i∈met val i then met val i else met val i++[val i]
section
variable {KT:Type} [DecidableEq KT]
theorem XJ (val:Nat->KT) (i:Nat):met val (i+1)=if val i∈met val i then met val i else met val i++[val i]:=rfl
theorem K8 (val:Nat->KT):∀i,(met val i).length<=i
 | 0=>Qce _
 | i+1=>by
  have ih:=K8 val i;unfold met;split
  ·omega
  ·rw[QaM];exact Nat.succ_le_succ ih
theorem Ko (val:Nat->KT):∀i,(met val i).Nodup
 | 0=>List.Pairwise.nil
 | i+1=>by
  unfold met;split
  ·exact Ko val i
  ·rename_i h;exact List.nodup_append.mpr ⟨Ko val i,by simp,λx hx y hy z=>by rw[QaP.mp hy] at z;exact h (z ▸ hx)⟩
theorem Oh (val:Nat->KT) (k:KT):∀i,k∈met val i ↔ ∃j,j < i/\val j=k
 | 0=>⟨(λh=>by cases h),λ⟨j,h,_⟩=>absurd h (QbH _)⟩
 | i+1=>by
  have ih:=Oh val k i;unfold met;split
  ·rename_i h;rw[ih];constructor
   ·refine λzz=>?_;obtain⟨j,h,e⟩:=zz;exact⟨j,Qbg h,e⟩
   ·intro ⟨j,hj,e⟩;by_cases c:j=i
    ·subst c;subst e;exact (Oh val _ j).mp h
    ·exact⟨j,by omega,e⟩
  ·rw[Qbv,QaP,ih];constructor
   ·rintro (⟨j,h,e⟩| e)
    ·exact⟨j,Qbg h,e⟩
    ·exact⟨i,Qbp _,e.symm⟩
   ·intro ⟨j,hj,e⟩;by_cases c:j=i
    ·subst c;exact .inr e.symm
    ·exact .inl ⟨j,by omega,e⟩
end
section
variable {prog:Program} {w:World} {KT:Type} [DecidableEq KT] {kn:KeyKind prog w KT} {A:Around} {E:YA} {s:Shared}
theorem SetT.jk {b:Bool} {h:Heap} {a:Addr} {S S':KT->Bool} {n n':Nat} (z:SetT kn b h a S n) (e:∀k,S k=S' k) (en:n=n'):SetT kn b h a S' n':=by
 have:S=S':=funext e;rw[<-this,<-en];exact z
theorem VJ {R:Result->Shared->Prop} {I:Addr} {fp wr:List Addr} {G:Array GenState->Array GenState->Prop} {n:Nat} {P:Nat->Value->Prop} {St:Nat->Shared->Prop} (Wk:WalksS prog w A.in1 I fp wr G n P St) (b:Bool) (S:Addr) (nS:S∉fp)
  (val:Nat->KT) (hv:∀i v,P i v->kn.is (val i) v=true/\v.scannable=true) (lim:n+1 < scanBound) :
  ∀(m i:Nat) (s:Shared),n - i=m->i<=n->St i s->SetT kn b s.heap S (λk=>decide (k∈met val i)) (met val i).length ->
   (∀s',Moved (S::wr) G s s'->SetT kn b s'.heap S (λk=>decide (k∈met val n)) (met val n).length->R (.ok (.ret .none)) s') ->
   codeAny (model prog w) A (.builtin "set.update.loop" ⟨[.ref S,.ref I],[]⟩) R s:=by
 have nw:S∉wr:=λq=>nS (Wk.sub _ q);have sub:∀c∈wr,c∈S::wr:=λc hc=>.tail _ hc;intro m
 induction m with
 | zero=>
  intro i s hm hi st z fin;obtain rfl:i=n:=by omega
  refine QbD PyProof.Rows.F.entry_set_update_loop ?_;rw[QaD PyProof.Rows.F.plain_set_update_loop _];show wpAny _ A.in1 (pyNext (.ref I) >>= _) _ _ s;refine Qci (Wk.done s _ _ st λs1 mv=>?_);show wpAny _ A.in1 (ret Value.none) _ _ s1;exact Qcj (fin s1 (mv.mono sub) (z.at λo e=>mv.heap S _ nw e))
 | succ m ih=>
  intro i s hm hi st z fin;have lt:i < n:=by omega
  refine QbD PyProof.Rows.F.entry_set_update_loop ?_;rw[QaD PyProof.Rows.F.plain_set_update_loop _];show wpAny _ A.in1 (pyNext (.ref I) >>= _) _ _ s;refine Qci (Wk.item i s _ _ lt st λv s1 pv st1 mv=>?_);obtain⟨kv,sv⟩:=hv i v pv;have z1:=z.at λo e=>mv.heap S o nw e;show wpAny _ A.in1 (holding [v] (setAdd S v) >>= _) _ _ s1;refine Qci (QbR ?_);unfold setAdd;refine QbR (Qci (kn.pyHash kv ?_));have room:(met val i).length+1 < scanBound:=by have:=K8 val i;omega
  refine jT (s:={ s1 with toks:=s1.toks+1 }) kv sv z1 room λh2 sb z2=>?_;have z3:SetT kn b h2 S (λk=>decide (k∈met val (i+1))) (met val (i+1)).length:=by
   refine z2.jk (λk=>?_) ?_
   ·rw[QbG,Bool.or_eq_true,QaT,QaT,QaT];rw[XJ];split
    ·rename_i q;exact⟨λx=>x.elim id λe=>e ▸ q,.inl⟩
    ·rw[Qbv,QaP]
   ·show (if decide (val i∈met val i)=true then (met val i).length else (met val i).length+1)=(met val (i+1)).length
    by_cases q:val i∈met val i
    ·rw[if_pos (QbK q)];show _=(if val i∈met val i then met val i else met val i++[val i]).length
     rw[if_pos q]
    ·rw[if_neg (by simp[q])];show _=(if val i∈met val i then met val i else met val i++[val i]).length
     rw[if_neg q,QaM];rfl
  refine Qcj ⟨QbV PyProof.Rows.F.plain_set_update_loop _,ih (i+1) _ (by omega) lt (Wk.frame _ s1 _ _ st1 (Nat.le_succ _) λc hc o e=>?_) z3 λs2 mv2 z4=>?_⟩
  ·rw[sb.2 c λq:c=S=>nS (q ▸ hc)];exact e
  ·refine fin s2 (Moved.trans Wk.gtrans ((mv.mono sub).then_heap (Nat.le_succ _) λc o hc e=>?_) mv2) z4;rw[sb.2 c λq:c=S=>hc (q ▸ .head _)];exact e
def Dj (w:World):Obj:={ cls:=.type "set",dict:=none,data:=.set #[] 0 (.fresh 0 0 (!w.params.followText "set-order")) }
theorem R3 (a:Value) {Z:YA} (h:Z (.ref s.heap.objs.size) { s with heap:=s.heap.push (Dj w) }) :
  codeAny (model prog w) A (.call (.builtin "set.__new__") ⟨[.type "set",a],[]⟩) (wants Z E) s:=by
 refine codeAny_of_tree ?_;show wpAny _ A.in1 (checkBuiltinCall "set.__new__" ⟨[.type "set",a],[]⟩ >>= λ_=>again (.builtin "set.__new__" ⟨[.type "set",a],[]⟩)) _ _ s;refine Qci (wpAny_of_eq (PySem.F.newCall_set_1 a) (Qcj ⟨QbV PySem.F.plain_set_new _,QbD PySem.F.entry_set_new ?_⟩));rw[QaD PySem.F.plain_set_new _];unfold Builtin.«set.__new__»;unfold Builtin.Frozenset.newClass;have sf:=sub_set_self;obtain⟨hp,g,d,tk,os⟩:=s;dsimp only
 wp_walk
 refine Qbs (Qcj ?_);dsimp only;simp only[newObj];exact Qci (wpAny_alloc (Qcj (Qcj h)))
theorem RW:isSubtype (.type "tuple") (.type "set")=pure false:=by rw[QbM];kernel_rfl
theorem Ug:isSubtype (.type "tuple") (.type "frozenset")=pure false:=by rw[QbM];kernel_rfl
theorem O8 {T:String} {l:Addr} {n:Nat} {Q:YA} {P:Nat->Value->Prop} (hh:A.handled=none) (val:Nat->KT) (hv:∀i v,P i v->kn.is (val i) v=true/\v.scannable=true) (lim:n+1 < scanBound)
  (hT:s.TypeIs (.ref l) T) (t1:isSubtype (.type T) (.type "set")=pure false) (t2:isSubtype (.type T) (.type "frozenset")=pure false) (t3:(Value.type T == Value.type "dict")=false)
  (it:∀(s1:Shared),(∀o,s.heap.get? l=some o->s1.heap.get? l=some o)->∃(oI:Obj) (St:Nat->Heap->Prop),(∀(A:Around) (E:YA) (Q:YA),Q (.ref s1.heap.objs.size) { s1 with heap:=s1.heap.push oI }->wpAny (model prog w) A (pyIter (.ref l)) Q E s1) /\
   (∀A:Around,A.handled=none->l≠s1.heap.objs.size->Walks prog w A s1.heap.objs.size [s1.heap.objs.size,l] [s1.heap.objs.size] n P St)/\St 0 (s1.heap.push oI))
  (h:∀(h':Heap) (tk:Nat),SetT kn (!w.params.followText "set-order") h' s.heap.objs.size (λk=>decide (k∈met val n)) (met val n).length->(∀b o,b < s.heap.objs.size->s.heap.get? b=some o->h'.get? b=some o)->Q (.ref s.heap.objs.size) { s with heap:=h',toks:=tk }) :
  wpAny (model prog w) A (call (.type "set") [.ref l]) Q E s:=by
 obtain⟨ol,hol,hcl⟩:=hT;obtain⟨c,tl,hmro⟩:=PySem.F.called_set.mro;have hmade:=PySem.F.called_set.made;have hsub:=PySem.F.called_set.sub;refine wpAny_call (codeAny_of_tree ?_);show wpAny _ _ (callAny (.type "set") _) _ _ _;refine Qcj ⟨Code.quiet_builtin _ (by trivial),QbD PySem.F.entry_type_call ?_⟩;rw[Around.under_plain (weight_type_call_type "set" [.ref l] []) rfl];have f1:=PySem.F.called_set.notType;have f2:=PySem.F.called_set.canCreate;have f3:=PySem.F.typeCall_set_1 (.ref l)
 repeat (any_goals (first | assumption | wp_step))
 refine Qcc (R3 (.ref l) (E:=E) (Z:=λv s1=>v=.ref s.heap.objs.size/\s1={ s with heap:=s.heap.push (Dj w) }) ⟨rq,rq⟩) λr s1 hr=>?_;cases r with
 | error e=>exact hr
 | ok fl=>
  cases fl with
  | ret v=>
   obtain⟨rfl,rfl⟩:=hr;have hS:(s.heap.push (Dj w)).get? s.heap.objs.size=some (Dj w):=QaG _ rfl;have hTs:Shared.TypeIs { s with heap:=s.heap.push (Dj w) } (.ref s.heap.objs.size) "set":=⟨_,hS,rq⟩;have f4:=PySem.F.called_set.init.lookup;have f5:=PySem.F.called_set.init.bind (.ref s.heap.objs.size)
   repeat (any_goals (first | assumption | wp_step))
   refine Qcc (codeAny_call_builtin (R:=wants (λr s2=>r=.none/\∃h' tk,s2={ s with heap:=h',toks:=tk }/\SetT kn (!w.params.followText "set-order") h' s.heap.objs.size (λk=>decide (k∈met val n)) (met val n).length/\(∀b o,b < s.heap.objs.size->s.heap.get? b=some o->h'.get? b=some o)) E) PySem.F.called_set.init.plain PySem.F.entry_set_init (check_set_init_1 hTs ?_)) λr2 s2 hr2=>?_
   ·obtain⟨ocls,odict,odata,oslots⟩:=ol;have hcl:ocls=.type T:=hcl;subst hcl;have ho1:(s.heap.push (Dj w)).get? l=some { cls:=.type T,dict:=odict,data:=odata,slots:=oslots }:=Qas _ hol;have hlS:l < s.heap.objs.size:=QbW hol;unfold Dj at hS;unfold Builtin.«set.__init__»;unfold noKeywords;unfold Builtin.Frozenset.updateFrom;generalize ePI:pyIter=PI
    wp_walk
    subst ePI;have hh3:A.in1.in1.in1.handled=none:=by simp[hh]
    obtain⟨oI,St,hit,Wk,st⟩:=it { s with heap:=s.heap.push (Dj w) } λo e=>Qas _ e;have nI:l≠(s.heap.push (Dj w)).objs.size:=by rw[QbL];exact QbX (Qbg hlS)
    have W3:=Wk A.in1.in1.in1 hh3 nI;refine hit _ _ _ ?_;refine Qci (wpAny_runValue ?_);have nS:s.heap.objs.size∉[(s.heap.push (Dj w)).objs.size,l]:=by
     rw[QbL];simp only[QbP,Qbt,or_false,not_or];exact⟨QbX (Qbp _),Qcb hlS⟩
    have hS2:((s.heap.push (Dj w)).push oI).get? s.heap.objs.size=some (Dj w):=Qas _ (QaG _ rfl);refine VJ W3.toS (!w.params.followText "set-order") s.heap.objs.size nS val hv lim (n - 0) 0 _ rfl (Qcf _) st ?_ ?_
    ·exact⟨_,#[],0,_,⟨hS2,⟨rq,rq,rq⟩,rq⟩,⟨λe he=>by simp at he,λk=>by simp[met]⟩,⟨by unfold scanBound;decide,by rfl,rq⟩,TOk.fresh0 _⟩
    ·intro s2 mv z;obtain⟨h',g',d',tk',os'⟩:=s2;have e1:g'=s.gens:=mv.gens;have e2:d'=s.drawn:=mv.drawn;have e3:os'=s.os:=mv.os;subst e1 e2 e3;show wpAny _ _ _ _ _ _;refine Qcj ?_;show wpAny _ _ (ret Value.none) _ _ _;refine Qcj ⟨rq,h',tk',rq,z,λb o hb e=>?_⟩;have n1:b≠s.heap.objs.size:=QbX hb;have n2:b≠(s.heap.push (Dj w)).objs.size:=by rw[QbL];exact QbX (Qbg hb)
     exact mv.heap b o (by simp only[QbP,Qbt,or_false,not_or];exact⟨n1,n2⟩) (Qas _ (Qas _ e))
   ·cases r2 with
    | error e=>exact hr2
    | ok fl2=>
     cases fl2 with
     | ret r=>
      obtain⟨rfl,h',tk,rfl,z,kp⟩:=hr2
      repeat (any_goals (first | assumption | wp_step))
      exact h _ _ z kp
     | _=>exact hr2.elim
  | _=>exact hr.elim
end
theorem DP:Slot "set_iterator" "__next__" "set_iterator.__next__":=.of (owner:="set_iterator") (n:="__next__") (by rw[typeLookup_type,builtinLookup_eq_fast];kernel_rfl) (by trivial) (by trivial) (by trivial) (by first | exact .inl (by trivial) | exact .inr (by trivial)) (by rw[QbM];kernel_rfl)
theorem Jv:entryFor table "set_iterator.__next__"=some Builtin.«set_iterator.__next__»:=entryFor_of_tree (by kernel_rfl)
theorem VF:Manifest.owners.lookup (String.ofList ("set_iterator".toList.reverse).reverse)=some Manifest.sig_set_iterator:=by kernel_rfl
theorem KY (a:Value):argsOk "set_iterator.__next__" ⟨[a],[]⟩:=by
 unfold argsOk;rw[signature?_of (id:="set_iterator.__next__") (n:=("__next__".toList.reverse)) (o:=("set_iterator".toList.reverse)) (by kernel_rfl) VF]
 kernel_rfl
theorem W8:entryFor table "set.__iter__"=some Builtin.«frozenset.__iter__»:=entryFor_alias (id':="frozenset.__iter__") (by kernel_rfl) rfl (by trivial) (by kernel_rfl)
theorem JN {α : Type}:∀{xs:List α} {i:Nat} (h:i < xs.length),(xs[i]::xs.eraseIdx i).Perm xs
 | x::xs,0,_=>List.Perm.refl _
 | x::xs,i+1,h=>(List.Perm.swap _ _ _).trans (List.Perm.cons _ (JN (xs:=xs) (i:=i) (Nat.lt_of_succ_lt_succ h)))
section
variable {prog:Program} {w:World} {A:Around} {E:YA} {s:Shared}
theorem Vk {src:Source} {n:Nat} {Q:Nat->Shared->Prop} (hn:n≠0) (h:∀i,i < n->Q i { s with drawn:=s.drawn.bump src }):wpAny (model prog w) A (choose src n) Q E s:=fun Γ p hΓ=>by
 show n≠0/\_;exact⟨hn,h _ (Nat.mod_lt _ (Nat.pos_of_ne_zero hn))⟩
theorem JZ {α : Type}:∀(n:Nat) (xs:List α) (s:Shared) {Q:List α->Shared->Prop},xs.length=n->(∀ys d',ys.Perm xs->Q ys { s with drawn:=d' })->wpAny (model prog w) A (drawOrder n xs) Q E s
 | 0,[],s,Q,_,h=>Qcj (by
   have:=h [] s.drawn (List.Perm.refl _);obtain⟨_,_,_,_,_⟩:=s;exact this)
 | 0,_::_,s,Q,e,h=>by cases e
 | n+1,[],s,Q,e,h=>by cases e
 | n+1,x::xs,s,Q,e,h=>by
  unfold drawOrder;refine Qci (Vk (by simp) λi hi=>?_);rw[Qal hi];dsimp only;refine Qci (JZ n ((x::xs).eraseIdx i) _ (by rw[List.length_eraseIdx_of_lt hi];simpa using e) λys d' pm=>Qcj ?_);exact h _ d' (((List.Perm.cons _ pm)).trans (JN hi))
theorem Gw {α : Type} (nx:Nat->Nat):∀(f k:Nat) (xs:List α) (out:Array α),xs.length=f->(pickOrder.go nx f k xs out).toList.Perm (out.toList++xs)
 | 0,k,[],out,_=>by
  show out.toList.Perm _;rw[QbA]
 | 0,k,_::_,out,e=>by cases e
 | f+1,k,[],out,e=>by cases e
 | f+1,k,x::xs,out,e=>by
  have hi:nx k % (x::xs).length < (x::xs).length:=Nat.mod_lt _ (by simp);unfold pickOrder.go;rw[Qal hi];dsimp only;refine (Gw nx f (k+1) _ _ (by rw[List.length_eraseIdx_of_lt hi];simpa using e)).trans ?_;rw[Array.toList_push,List.append_assoc];exact List.Perm.append_left _ (JN hi)
def Ei (b:Bool) (h:Heap) (a:Addr) (es:Array (Int×Value)) (ep:Nat) (t:SetTable):Prop:=∃ob,h.get? a=some ob/\ob.ExactSet/\ob.data=.set es ep t/\t.fits es.size=true/\TOk b t
theorem Ei.at {b:Bool} {h h':Heap} {a:Addr} {es:Array (Int×Value)} {ep:Nat} {t:SetTable} (z:Ei b h a es ep t) (k:∀o,h.get? a=some o->h'.get? a=some o):Ei b h' a es ep t:=let ⟨ob,g1,g2⟩:=z;⟨ob,k _ g1,g2⟩
def Ft (h:Heap) (it a:Addr) (first:Value) (i n ep:Nat):Prop:=∃o,h.get? it=some o/\o.cls=.type "set_iterator"/\o.data=.fields #[first,rawInt i,.ref a,rawInt n,rawInt ep]
theorem X7 {r:Addr} {Q:Bool->Shared->Prop} (hT:s.TypeIs (.ref r) "set") (h:Q false s):wpAny (model prog w) A (Builtin.List.listLengthHint (.ref r)) Q E s:=by
 unfold Builtin.List.listLengthHint;refine Qci (wpAny_specialOf hT PySem.F.slot_set_len.lookup ?_);generalize hid:("set.__len__":String)=q
 wp_delta
 rw[show splitId q=some ("set","__len__") by subst hid;decide +kernel];subst hid;refine Qci (wpAny_isInstance (T:="set") (b:=true) hT (by rw[QbM];kernel_rfl) ?_);refine wpAny_ite_split (λz=>absurd z (by decide)) λ_=>?_;exact wpAny_ite_split (λ_=>Qci (Qcd hT (Qcj h))) λz=>absurd (by trivial) z
theorem XS {b:Bool} {a:Addr} {es:Array (Int×Value)} {ep:Nat} {t:SetTable} {Q:YA} (R:Ei b s.heap a es ep t) (eb:b=!w.params.followText "set-order") (hsz:es.size < scanBound)
  (q1:(b=true->t.plain=true\/es.size<=1)->Q (.ref s.heap.objs.size) { s with heap:=s.heap.push { cls:=.type "set_iterator",data:=.fields #[rawInt 0,rawInt 0,.ref a,rawInt es.size,rawInt ep] } })
  (q2:∀(is:List Nat) d',b=true->is.Perm (List.range es.size)->Q (.ref (s.heap.objs.size+1)) { s with heap:=(s.heap.push { cls:=.type "tuple",data:=.seq (is.map λi:Nat=>rawInt (i:Int)).toArray }).push { cls:=.type "set_iterator",data:=.fields #[.ref s.heap.objs.size,rawInt 0,.ref a,rawInt es.size,rawInt ep] },drawn:=d' }):wpAny (model prog w) A (pyIter (.ref a)) Q E s:=by
 obtain⟨ob,g1,g2,g3,g4,g5⟩:=R;have T:s.TypeIs (.ref a) "set":=⟨ob,g1,g2.1⟩;refine wpAny_pyIter_slot T PySem.F.slot_set_iter (Qbn PySem.F.slot_set_iter T W8 ?_ (PySem.F.args_set_iter_1 _));have dr:setDrawn a=(do let (x,_,y) <-setState a;let c <-setsByText;return !c&&(!y.plain&&decide (x.size > 1))):=rfl
 have fin:∀(first:Value) (s1:Shared),Ei b s1.heap a es ep t->Q (.ref s1.heap.objs.size) { s1 with heap:=s1.heap.push { cls:=.type "set_iterator",data:=.fields #[first,rawInt 0,.ref a,rawInt es.size,rawInt ep] } } ->
   wpAny (model prog w) A.in1 (do let e <-setEpoch a;let v <-newFields "set_iterator" [first,rawInt 0,.ref a,rawInt (es.size:Int),rawInt (e:Int)];ret v)
    (λfin s'=>∃v,fin=Fin.done (Flow.ret v)/\∃T' r,s'.TypeIs v T'/\typeLookup (Value.type T') (Str.ofString "__next__")=pure (some r)/\Q v s') E s1:=λfirst s1 R1 hq=>by
  obtain⟨o1,k1,k2,k3,k4,k5⟩:=R1;refine Qci (wpAny_setEpoch_of k1 k3 k4 ?_);unfold newFields
  wp_walk
  exact⟨_,rq,"set_iterator",_,⟨_,QaG _ rfl,rq⟩,DP.lookup,hq⟩
 show wpAny _ _ (Builtin.Frozenset.slot0 "__iter__" _ >>= _) _ _ _;have sl:Builtin.Frozenset.slot0 "__iter__" { pos:=[Value.ref a] }=pure a:=by
  unfold Builtin.Frozenset.slot0;rfl
 rw[sl];refine Qci (Qcj ?_);dsimp only;unfold Builtin.Frozenset.sizeOf;refine Qci (Qci (wpAny_setEntries_of g1 g3 g4 (Qcj ?_)));rw[dr];refine Qci (Qci (Qbh g1 g3 g4 ?_));dsimp only;unfold setsByText;refine Qci (Qci (Qbs (Qcj ?_)));refine Qcj ?_;have em:(model prog w).w.params.followText "set-order"=!b:=by rw[eb,Bool.not_not];rfl
 show wpAny _ _ (if (!(model prog w).w.params.followText "set-order"&&(!t.plain&&decide (es.size > 1)))=true then _ else _) _ _ _
 rw[em,Bool.not_not];by_cases c:(b&&(!t.plain&&decide (es.size > 1)))=true
 ·rw[if_pos c];rw[Qbo] at c;refine Qci (JZ _ _ _ (Qbi) λis d' pm=>?_);refine Qci (wpAny_newTuple ?_ ?_)
  ·refine fin _ _ ⟨ob,Qas _ g1,g2,g3,g4,g5⟩ ?_;have:=q2 is d' c.1 pm;rw[show (s.heap.push { cls:=.type "tuple",data:=.seq (is.map λi:Nat=>rawInt (i:Int)).toArray }).objs.size=s.heap.objs.size+1 from QbL ..]
   exact this
  ·first | (simp only[Qbu,pm.length_eq,Qbi];exact fits_of_scanBound hsz) | trace_state
 ·rw[if_neg c];refine Qci (Qcj (fin _ _ ⟨ob,g1,g2,g3,g4,g5⟩ (q1 λhb=>?_)));rw[hb,Bool.true_and,Qbo,Bool.not_eq_true',QaT] at c;cases hp:t.plain with
  | true=>exact .inl rfl
  | false=>exact .inr (by by_cases z:es.size > 1;exact absurd ⟨hp,z⟩ c;omega)
theorem Q6 {it a:Addr} {b:Bool} {es:Array (Int×Value)} {i ep:Nat} {sl:Nat} {t:SetTable} {Q:Option Value->Shared->Prop} {x:Value} {nx:Nat} (K:Ft s.heap it a (rawInt sl) i es.size ep) (R:Ei b s.heap a es ep t)
  (hx:∀(A:Around) (E:YA) (Z:Option (Value×Nat)->Shared->Prop),Z (some (x,nx)) s->wpAny (model prog w) A (setNext a sl i ep) Z E s)
  (q:∀h',Ft h' it a (rawInt nx) (i+1) es.size ep->Heap.SameBut it s.heap h'->Q (some x) { s with heap:=h' }):wpAny (model prog w) A (pyNext (.ref it)) Q E s:=by
 obtain⟨oi,hoi,ci,di⟩:=K;obtain⟨ob,g1,g2,g3,g4,g5⟩:=R;have T:s.TypeIs (.ref it) "set_iterator":=⟨_,hoi,ci⟩;obtain⟨X6,UJ,UL,Ri⟩:=oi;dsimp only at ci di;subst ci di;unfold pyNext;refine Qci (QbU (Qao (name:=Str.ofString "__next__") T DP (Qbn DP T Jv ?_ (KY _))));have e1:typeName (.type "set_iterator")=pure "set_iterator":=by unfold typeName;rw[find?_eq_fast];kernel_rfl
 unfold Builtin.«set_iterator.__next__»;generalize eSE:setEntries=SE;generalize eSN:setNext=SN at hx ⊢
 wp_walk
 subst eSE;refine Qci (Qbh g1 g3 g4 ?_);refine Qcj ?_;dsimp only [rawInt];simp only[Qbj,QaS,Qcn,Qbf];refine Qci (hx _ _ _ ?_)
 wp_walk
 have h1:=Qay (Obj.mapFields λx=>x.setIfInBounds 0 (Value.int (nx:Int) 0)) hoi rfl;have h2:=Qay (Obj.mapFields λx=>x.setIfInBounds 1 (Value.int ((i:Int)+1) 0)) h1 rfl;exact⟨_,rq,Qcj (q _ ⟨_,h2,rq,rq⟩ ((QaJ ..).trans (QaJ ..)))⟩
theorem TQ {it a:Addr} {b:Bool} {es:Array (Int×Value)} {i ep:Nat} {sl:Nat} {t:SetTable} {Q:Option Value->Shared->Prop} (hh:A.handled=none) (K:Ft s.heap it a (rawInt sl) i es.size ep) (R:Ei b s.heap a es ep t)
  (hx:∀(A:Around) (E:YA) (Z:Option (Value×Nat)->Shared->Prop),Z none s->wpAny (model prog w) A (setNext a sl i ep) Z E s)
  (q:∀h',Heap.ExtBut it s.heap h'->Q none { s with heap:=h' }):wpAny (model prog w) A (pyNext (.ref it)) Q E s:=by
 obtain⟨oi,hoi,ci,di⟩:=K;obtain⟨ob,g1,g2,g3,g4,g5⟩:=R;have T:s.TypeIs (.ref it) "set_iterator":=⟨_,hoi,ci⟩;obtain⟨X6,UJ,UL,Ri⟩:=oi;dsimp only at ci di;subst ci di;unfold pyNext;refine Qci (QbU (Qao (name:=Str.ofString "__next__") T DP (Qbn DP T Jv ?_ (KY _))));have e1:typeName (.type "set_iterator")=pure "set_iterator":=by unfold typeName;rw[find?_eq_fast];kernel_rfl
 have hh1:A.in1.handled=none:=hh;unfold Builtin.«set_iterator.__next__»;generalize eSE:setEntries=SE;generalize eSN:setNext=SN at hx ⊢
 wp_walk
 subst eSE;refine Qci (Qbh g1 g3 g4 ?_);refine Qcj ?_;dsimp only [rawInt];simp only[Qbj,QaS,Qcn,Qbf];refine Qci (hx _ _ _ ?_)
 wp_walk
 unfold raiseNew
 wp_walk
 refine wpAny_of_eq isSubtype_stop ?_
 wp_walk
 exact q _ (((QaJ ..).extBut.push _).push _)
theorem XF {it a tp:Addr} {b:Bool} {es:Array (Int×Value)} {i ep:Nat} {t:SetTable} {Q:Option Value->Shared->Prop} {is:List Nat} {pl:Nat} {e:Int×Value} (K:Ft s.heap it a (.ref tp) i es.size ep) (ht:s.heap.IsTuple tp (is.map λi:Nat=>rawInt (i:Int)).toArray) (R:Ei b s.heap a es ep t) (hi:is[i]?=some pl) (he:es[pl]?=some e)
  (q:∀h',Ft h' it a (.ref tp) (i+1) es.size ep->Heap.SameBut it s.heap h'->Q (some e.2) { s with heap:=h' }):wpAny (model prog w) A (pyNext (.ref it)) Q E s:=by
 obtain⟨oi,hoi,ci,di⟩:=K;obtain⟨ob,g1,g2,g3,g4,g5⟩:=R;have T:s.TypeIs (.ref it) "set_iterator":=⟨_,hoi,ci⟩;obtain⟨X6,UJ,UL,Ri⟩:=oi;dsimp only at ci di;subst ci di;obtain⟨ot,hot,cot,nt,dot⟩:=ht;obtain⟨d8,cU,cV,ak⟩:=ot;dsimp only at cot dot;subst cot dot;unfold pyNext;refine Qci (QbU (Qao (name:=Str.ofString "__next__") T DP (Qbn DP T Jv ?_ (KY _))));have e1:typeName (.type "set_iterator")=pure "set_iterator":=by unfold typeName;rw[find?_eq_fast];kernel_rfl
 unfold Builtin.«set_iterator.__next__»;generalize eSE:setEntries=SE;generalize eSN:setNextDrawn=SN
 wp_walk
 subst eSE;refine Qci (Qbh g1 g3 g4 ?_);refine Qcj ?_;dsimp only [rawInt];simp only[Qbj,QaS,Qcn,Qbf];have hpl:((is.map λi:Nat=>rawInt (i:Int)).toArray)[i]?=some (.int (pl:Int) 0):=by
  rw[List.getElem?_toArray,Qbd,hi];rfl
 wp_walk
 simp only[hpl];subst eSN;unfold setNextDrawn;refine Qci (Qci (Qbh g1 g3 g4 ?_));dsimp only;simp only[Qbj,QaS,Qcn,Qbf,he]
 wp_walk
 have h1:=Qay (Obj.mapFields λx=>x.setIfInBounds 1 (Value.int ((i:Int)+1) 0)) hoi rfl;exact⟨_,rq,Qcj (q _ ⟨_,h1,rq,rq⟩ (QaJ ..))⟩
theorem Z0 {it a tp:Addr} {b:Bool} {es:Array (Int×Value)} {i ep:Nat} {t:SetTable} {Q:Option Value->Shared->Prop} {is:List Nat} (hh:A.handled=none) (K:Ft s.heap it a (.ref tp) i es.size ep) (ht:s.heap.IsTuple tp (is.map λi:Nat=>rawInt (i:Int)).toArray) (R:Ei b s.heap a es ep t) (hi:is[i]?=none)
  (q:∀h',Heap.ExtBut it s.heap h'->Q none { s with heap:=h' }):wpAny (model prog w) A (pyNext (.ref it)) Q E s:=by
 obtain⟨oi,hoi,ci,di⟩:=K;obtain⟨ob,g1,g2,g3,g4,g5⟩:=R;have T:s.TypeIs (.ref it) "set_iterator":=⟨_,hoi,ci⟩;obtain⟨X6,UJ,UL,Ri⟩:=oi;dsimp only at ci di;subst ci di;obtain⟨ot,hot,cot,nt,dot⟩:=ht;obtain⟨d8,cU,cV,ak⟩:=ot;dsimp only at cot dot;subst cot dot;unfold pyNext;refine Qci (QbU (Qao (name:=Str.ofString "__next__") T DP (Qbn DP T Jv ?_ (KY _))));have e1:typeName (.type "set_iterator")=pure "set_iterator":=by unfold typeName;rw[find?_eq_fast];kernel_rfl
 have hh1:A.in1.handled=none:=hh;unfold Builtin.«set_iterator.__next__»;generalize eSE:setEntries=SE;generalize eSN:setNextDrawn=SN
 wp_walk
 subst eSE;refine Qci (Qbh g1 g3 g4 ?_);refine Qcj ?_;dsimp only [rawInt];simp only[Qbj,QaS,Qcn,Qbf];have hpl:((is.map λi:Nat=>rawInt (i:Int)).toArray)[i]?=none:=by
  rw[List.getElem?_toArray,Qbd,hi];rfl
 wp_walk
 simp only[hpl]
 wp_walk
 unfold raiseNew
 wp_walk
 refine wpAny_of_eq isSubtype_stop ?_
 wp_walk
 exact q _ ((((QaJ ..).trans (QaJ ..)).extBut.push _).push _)
end
theorem Qz:Slot "set_iterator" "__iter__" "set_iterator.__iter__":=.of (owner:="set_iterator") (n:="__iter__") (by rw[typeLookup_type,builtinLookup_eq_fast];kernel_rfl) (by trivial) (by trivial) (by trivial) (by first | exact .inl (by trivial) | exact .inr (by trivial)) (by rw[QbM];kernel_rfl)
theorem VG:entryFor table "set_iterator.__iter__"=some Builtin.«dict_keyiterator.__iter__»:=entryFor_alias (id':="dict_keyiterator.__iter__") (by kernel_rfl) rfl (by trivial) (by kernel_rfl)
theorem W9 (a:Value):argsOk "set_iterator.__iter__" ⟨[a],[]⟩:=by
 unfold argsOk;rw[signature?_of (id:="set_iterator.__iter__") (n:=("__iter__".toList.reverse)) (o:=("set_iterator".toList.reverse)) (by kernel_rfl) VF]
 kernel_rfl
section
variable {prog:Program} {w:World} {A:Around} {E:YA} {s:Shared}
theorem S5 {a:Addr} {es:Array (Int×Value)} {i ep sl:Nat} {t:SetTable} {Z:Option (Value×Nat)->Shared->Prop} (R:Ei false s.heap a es ep t) (eb:w.params.followText "set-order"=true)
  (h:Z (((pickOrder (w.params.setOrder a ep) es)[i]?).map λe=>(e.2,sl)) s):wpAny (model prog w) A (setNext a sl i ep) Z E s:=by
 obtain⟨ob,g1,g2,g3,g4,g5⟩:=R;unfold setNext;refine Qci (Qbh g1 g3 g4 ?_);dsimp only;unfold setsByText;refine Qci (Qci (Qbs (Qcj ?_)));show wpAny _ _ (if w.params.followText "set-order"=true then _ else _) _ _ _
 rw[if_pos eb];simp only[Qbj,QaS,Qcn];unfold setWalk;refine Qci (Qci (Qbh g1 g3 g4 ?_));dsimp only;unfold setsByText;refine Qci (Qci (Qbs (Qcj ?_)));show wpAny _ _ (if w.params.followText "set-order"=true then _ else _) _ _ _
 rw[if_pos eb];refine Qci (Qbs (Qcj ?_));exact Qcj h
theorem Qx {a:Addr} {es:Array (Int×Value)} {i ep sl:Nat} {t:SetTable} {Z:Option (Value×Nat)->Shared->Prop} (R:Ei true s.heap a es ep t) (eb:w.params.followText "set-order"=false) (pl:t.plain=true\/es.size<=1)
  (h:Z (match es[SetTable.below t.place sl]?,t.place[SetTable.below t.place sl]? with | some (_,x),some j=>some (x,j+1) | _,_=>none) s):wpAny (model prog w) A (setNext a sl i ep) Z E s:=by
 obtain⟨ob,g1,g2,g3,g4,g5⟩:=R;unfold setNext;refine Qci (Qbh g1 g3 g4 ?_);dsimp only;unfold setsByText;refine Qci (Qci (Qbs (Qcj ?_)));show wpAny _ _ (if w.params.followText "set-order"=true then _ else _) _ _ _
 rw[if_neg (by rw[eb];decide)];split
 ·rename_i hd;have hd:(!t.plain&&decide (es.size > 1))=true:=hd;rw[Qbo,Bool.not_eq_true',QaT] at hd;rcases pl with q | q
  ·rw[q] at hd;cases hd.1
  ·omega
 ·show wpAny _ _ ((if (!t.led&&!es.isEmpty)=true then unsupported _ else pure ()) >>= _) _ _ _
  rw[g5.1];simp only[Bool.not_true,Bool.false_and,QaS,Qcn];refine Qci (Qcj ?_);exact Qcj h
theorem up_place {t:SetTable} {es:Array (Int×Value)} (g4:t.fits es.size=true) (g5:TOk true t) (pl:t.plain=true\/es.size<=1):t.place.size=es.size/\t.place.toList.Pairwise (· < ·):=by
 simp only[SetTable.fits,Qbo,beq_iff_eq,decide_eq_true_eq] at g4;refine⟨g4.1,?_⟩;rcases pl with q | q
 ·exact g5.2.2 q
 ·have:t.place.toList.length<=1:=by rw[QaH];omega
  match h:t.place.toList,this with
  | [],_=>exact .nil
  | [x],_=>exact List.pairwise_singleton _ _
def Ja (t:SetTable):Nat->Nat
 | 0=>0
 | i+1=>t.place.getD i 0+1
theorem Nv {t:SetTable} (up:t.place.toList.Pairwise (· < ·)) {i:Nat} (hi:i<=t.place.size):SetTable.below t.place (Ja t i)=i:=by
 obtain⟨h1,h2,h3⟩:=below_at (j:=Ja t i) up;have lt:∀(x y:Nat) (u v:Nat),t.place[x]?=some u->t.place[y]?=some v->x < y->u < v:=λx y u v ex ey l=>by
  rw[<-Qaw] at ex ey;obtain⟨a1,a2⟩:=Qag.mp ex;obtain⟨b1,b2⟩:=Qag.mp ey;rw[<-a2,<-b2];exact Qai.mp up x y a1 b1 l
 generalize hr:SetTable.below t.place (Ja t i)=r at *
 match i,hi with
 | 0,_=>
  by_cases c:r=0
  ·exact c
  ·have l0:0 < t.place.size:=by omega
   have:=h2 0 _ (Qah l0) (by omega);exact absurd this (QbH _)
 | i+1,hi=>
  have li:i < t.place.size:=by omega
  have ei:t.place[i]?=some t.place[i]:=Qah li;have eg:t.place.getD i 0=t.place[i]:=by simp[Array.getD,li]
  have es:Ja t (i+1)=t.place[i]+1:=by show t.place.getD i 0+1=_;rw[eg]
  rw[es] at h2 h3;by_cases c1:r<=i
  ·have:=h3 i _ ei c1;omega
  ·by_cases c2:i+1 < r
   ·have l2:i+1 < t.place.size:=by omega
    have e2:t.place[i+1]?=some t.place[i+1]:=Qah l2;have a:=h2 (i+1) _ e2 c2;have b:=lt i (i+1) _ _ ei e2 (Qbp _);omega
   ·omega
theorem Ka {it a:Addr} {first:Value} {i n ep:Nat} {Q:YA} (K:Ft s.heap it a first i n ep) (q:Q (.ref it) s):wpAny (model prog w) A (pyIter (.ref it)) Q E s:=by
 obtain⟨oi,hoi,ci,di⟩:=K;have T:s.TypeIs (.ref it) "set_iterator":=⟨_,hoi,ci⟩;refine wpAny_pyIter_slot T Qz (Qbn Qz T VG ?_ (W9 _));show wpAny _ _ (ret (.ref it)) _ _ s;exact Qcj ⟨_,rq,"set_iterator",_,T,DP.lookup,q⟩
theorem Ft.at {h h':Heap} {it a:Addr} {first:Value} {i n ep:Nat} (x:Ft h it a first i n ep) (e:∀o,h.get? it=some o->h'.get? it=some o):Ft h' it a first i n ep:=let ⟨o,ho,r⟩:=x;⟨o,e _ ho,r⟩
theorem Vm (hh:A.handled=none) (it a:Addr) (ne:a≠it) (es:Array (Int×Value)) (ep:Nat) (t:SetTable) (eb:w.params.followText "set-order"=true) :
  Walks prog w A it [it,a] [it] es.size (λi v=>∃e,(pickOrder (w.params.setOrder a ep) es)[i]?=some e/\v=e.2) (λi h=>Ft h it a (rawInt (0:Nat)) i es.size ep/\Ei false h a es ep t) where
 sub:=λb hb=>by simp at hb;simp[hb]
 frame:=λ_ _ _ st hk=>⟨st.1.at λo e=>hk it (by simp) o e,st.2.at λo e=>hk a (by simp) o e⟩
 item:=λi s Q E hi st hQ=>by
  have sz:(pickOrder (w.params.setOrder a ep) es).size=es.size:=by
   have:=(Gw (w.params.setOrder a ep) es.size 0 es.toList #[] (QaH ..)).length_eq;rw[QaH] at this;exact this.trans (by simp)
  have hx:(pickOrder (w.params.setOrder a ep) es)[i]?=some ((pickOrder (w.params.setOrder a ep) es)[i]'(by omega)):=Qah (by omega);refine Q6 (nx:=0) (x:=((pickOrder (w.params.setOrder a ep) es)[i]'(by omega)).2) st.1 st.2 (λA E Z hz=>S5 st.2 eb (by rw[hx];exact hz)) λh' k sb=>?_;exact hQ _ h' s.toks ⟨_,hx,rq⟩ ⟨k,st.2.at λo e=>by rw[sb.2 a ne];exact e⟩ λc o hc e=>by rw[sb.2 c (λz=>hc (by simp[z]))];exact e
 done:=λs Q E st hQ=>by
  have sz:(pickOrder (w.params.setOrder a ep) es).size=es.size:=by
   have:=(Gw (w.params.setOrder a ep) es.size 0 es.toList #[] (QaH ..)).length_eq;rw[QaH] at this;exact this.trans (by simp)
  have hx:(pickOrder (w.params.setOrder a ep) es)[es.size]?=none:=Array.getElem?_eq_none (by omega);exact TQ hh st.1 st.2 (λA E Z hz=>S5 st.2 eb (by rw[hx];exact hz)) λh' x=>hQ h' s.toks λc o hc e=>x c o (λz=>hc (by simp[z])) e
 self:=λ_ _ _ _ st hQ=>Ka st.1 hQ
theorem T9 (hh:A.handled=none) (it a:Addr) (ne:a≠it) (es:Array (Int×Value)) (ep:Nat) (t:SetTable) (eb:w.params.followText "set-order"=false) (pl:t.plain=true\/es.size<=1) (ft:t.fits es.size=true) (tk:TOk true t) :
  Walks prog w A it [it,a] [it] es.size (λi v=>∃e,es[i]?=some e/\v=e.2) (λi h=>Ft h it a (rawInt (Ja t i:Nat)) i es.size ep/\Ei true h a es ep t) where
 sub:=λb hb=>by simp at hb;simp[hb]
 frame:=λ_ _ _ st hk=>⟨st.1.at λo e=>hk it (by simp) o e,st.2.at λo e=>hk a (by simp) o e⟩
 item:=λi s Q E hi st hQ=>by
  obtain⟨sz,up⟩:=up_place ft tk pl;have hx:es[i]?=some es[i]:=Qah hi;have li:i < t.place.size:=by omega
  have hp:t.place[i]?=some (t.place.getD i 0):=by rw[Qah li];simp[Array.getD,li]
  refine Q6 (nx:=Ja t (i+1)) (x:=es[i].2) st.1 st.2 (λA E Z hz=>Qx st.2 eb pl (by rw[Nv up (by omega),hx,hp];exact hz)) λh' k sb=>?_;exact hQ _ h' s.toks ⟨_,hx,rq⟩ ⟨k,st.2.at λo e=>by rw[sb.2 a ne];exact e⟩ λc o hc e=>by rw[sb.2 c (λz=>hc (by simp[z]))];exact e
 done:=λs Q E st hQ=>by
  obtain⟨sz,up⟩:=up_place ft tk pl;have hx:es[es.size]?=none:=Array.getElem?_eq_none (Qce _);exact TQ hh st.1 st.2 (λA E Z hz=>Qx st.2 eb pl (by rw[Nv up (by omega),hx];exact hz)) λh' x=>hQ h' s.toks λc o hc e=>x c o (λz=>hc (by simp[z])) e
 self:=λ_ _ _ _ st hQ=>Ka st.1 hQ
theorem Ua (hh:A.handled=none) (it a tp:Addr) (ne:a≠it) (nt:tp≠it) (es:Array (Int×Value)) (ep:Nat) (t:SetTable) (is:List Nat) (pm:is.Perm (List.range es.size)) :
  Walks prog w A it [it,a,tp] [it] es.size (λi v=>∃pl e,is[i]?=some pl/\es[pl]?=some e/\v=e.2) (λi h=>Ft h it a (.ref tp) i es.size ep/\Ei true h a es ep t/\h.IsTuple tp (is.map λi:Nat=>rawInt (i:Int)).toArray) where
 sub:=λb hb=>by simp at hb;simp[hb]
 frame:=λ_ _ _ st hk=>⟨st.1.at λo e=>hk it (by simp) o e,st.2.1.at λo e=>hk a (by simp) o e,let ⟨o,ho,r⟩:=st.2.2;⟨o,hk tp (by simp) o ho,r⟩⟩
 item:=λi s Q E hi st hQ=>by
  have hl:is.length=es.size:=by rw[pm.length_eq,Qbi]
  have li:i < is.length:=by omega
  have hp:is[i]?=some is[i]:=Qal li;have lp:is[i] < es.size:=List.mem_range.mp (pm.mem_iff.mp (Qbq li));have hx:es[is[i]]?=some es[is[i]]:=Qah lp;refine XF st.1 st.2.2 st.2.1 hp hx λh' k sb=>?_;have kp:∀c o,c≠it->s.heap.get? c=some o->h'.get? c=some o:=λc o n e=>by rw[sb.2 c n];exact e
  exact hQ _ h' s.toks ⟨_,_,hp,hx,rq⟩ ⟨k,st.2.1.at λo e=>kp a o ne e,let ⟨o,ho,r⟩:=st.2.2;⟨o,kp tp o nt ho,r⟩⟩ λc o hc e=>kp c o (λz=>hc (by simp[z])) e
 done:=λs Q E st hQ=>by
  have hl:is.length=es.size:=by rw[pm.length_eq,Qbi]
  exact Z0 hh st.1 st.2.2 st.2.1 (List.getElem?_eq_none (by omega)) λh' x=>hQ h' s.toks λc o hc e=>x c o (λz=>hc (by simp[z])) e
 self:=λ_ _ _ _ st hQ=>Ka st.1 hQ
end
section
variable {prog:Program} {w:World} {A:Around} {E:YA} {s:Shared}
theorem take_all {R:Result->Shared->Prop} {S a I:Addr} {fp:List Addr} {n c0:Nat} {P:Nat->Value->Prop} {St:Nat->Heap->Prop} {res:Value} {tt:Bool} (hT:s.TypeIs (.ref a) "set") (hS:s.heap.get? S=some { cls:=.type "list",data:=.seq #[] c0 }) (nS:S∉fp) (Wk:Walks prog w A.in1 I fp [I] n P St) (st:St 0 s.heap) (hn:n<=sizeLine)
  (fin:∀h' tk us c,(∀b o,b≠S->b≠I->s.heap.get? b=some o->h'.get? b=some o)->h'.get? S=some { cls:=.type "list",dict:=none,data:=.seq us c,slots:=#[] }->ItemsOf P us n->R (.ok (.ret res)) { s with heap:=h',toks:=tk }) :
  wpAny (model prog w) A.in1 (do
    let room <-holding [.ref I] (Builtin.List.listLengthHint (.ref a))
    if (room || tt)=true then do
     rule "list.extend.makes-room"
     Builtin.List.listTouch (.ref S)
     again (.builtin "list.extend.loop" ⟨[.ref S,.ref I,res],[]⟩)
    else again (.builtin "list.extend.loop" ⟨[.ref S,.ref I,res],[]⟩))
   (λfin s'=>match fin with | .done f=>R (.ok f) s' | .again c'=>c'.quiet=true/\codeAny (model prog w) A c' R s') (λe s'=>R (.error e) s') s:=by
 have key:∀(h:Heap) (c1:Nat),St 0 h->(∀b o,b≠S->s.heap.get? b=some o->h.get? b=some o)->h.get? S=some { cls:=.type "list",data:=.seq #[] c1 } ->
   codeAny (model prog w) A (.builtin "list.extend.loop" ⟨[.ref S,.ref I,res],[]⟩) R { s with heap:=h }:=λh c1 st1 kp hS1=>by
  refine codeAny_extend_loopS Wk.toS hn S nS res n 0 _ #[] c1 rfl (Qcf _) st1 hS1 (ItemsOf.nil _) λs2 us c mv hS2 itm=>?_;rw[Moved.eq_with mv];exact fin s2.heap s2.toks us c (λb o nb nI e=>mv.heap b o (by simp[nb,nI]) (kp b o nb e)) hS2 itm
 refine Qci (QbR (X7 hT ?_));refine wpAny_ite_split (λ_=>?_) (λ_=>Qcj ⟨QbV PySem.F.plain_extend_loop _,key s.heap c0 st (λ_ _ _ e=>e) hS⟩);refine Qci (Qcl ?_);refine Qci ?_;show wpAny _ _ (updateSeq S (·.push .none) >>= λ_=>updateSeq S (·.pop)) _ _ _;refine Qci (wpAny_updateSeq hS rfl ?_);have hS2:=Qay (Obj.mapSeq (·.push Value.none)) hS rfl;refine wpAny_updateSeq (hz:=by seq_fits) hS2 rfl ?_;have hS3:=Qay (Obj.mapSeq (·.pop)) hS2 rfl;have kp:∀b o,b≠S->s.heap.get? b=some o->((s.heap.update S (Obj.mapSeq (·.push Value.none))).update S (Obj.mapSeq (·.pop))).get? b=some o:=λb o nb e=>
  (Qau _ _ (Ne.symm nb)).trans ((Qau _ _ (Ne.symm nb)).trans e)
 exact Qcj ⟨QbV PySem.F.plain_extend_loop _,key _ _ (Wk.frame 0 _ _ st λb hb o e=>kp b o (λz=>nS (z ▸ hb)) e) kp hS3⟩
theorem G6 {α : Type} {f:α->Value}:∀{us:YE} {es:List α},us.length=es.length->(∀(j:Nat) (v:Value),us[j]?=some v->∃e,es[j]?=some e/\v=f e)->us=es.map f
 | [],[],_,_=>rfl
 | [],_::_,h,_=>by cases h
 | _::_,[],h,_=>by cases h
 | u::us,e::es,h,g=>by
  obtain⟨e',h1,h2⟩:=g 0 u rfl;cases h1;rw[QbQ,h2,G6 (us:=us) (es:=es) (by simpa using h) λj v hj=>by simpa using g (j+1) v (by simpa using hj)]
theorem ZX {R:Result->Shared->Prop} {b:Bool} {S a:Addr} {es:Array (Int×Value)} {ep c0:Nat} {t:SetTable} {res:Value} (hh:A.handled=none) (RS:Ei b s.heap a es ep t) (eb:b=!w.params.followText "set-order") (hsz:es.size < scanBound) (hS:s.heap.get? S=some { cls:=.type "list",data:=.seq #[] c0 }) (nSa:S≠a)
  (fin:∀h' tk d' us c,(∀b o,b≠S->s.heap.get? b=some o->h'.get? b=some o)->h'.get? S=some { cls:=.type "list",dict:=none,data:=.seq us c,slots:=#[] }->us.toList.Perm (es.toList.map (·.2))->R (.ok (.ret res)) { s with heap:=h',toks:=tk,drawn:=d' }) :
  wpAny (model prog w) A.in1 (Builtin.List.listExtendWith (.ref S) (.ref a) res) (λfin s'=>match fin with | .done f=>R (.ok f) s' | .again c'=>c'.quiet=true/\codeAny (model prog w) A c' R s') (λe s'=>R (.error e) s') s:=by
 have T0:s.TypeIs (.ref a) "set":=let ⟨ob,g1,g2,_⟩:=RS;⟨ob,g1,g2.1⟩;have la:a < s.heap.objs.size:=let ⟨_,g,_⟩:=RS;QbW g;have lS:S < s.heap.objs.size:=QbW hS;have hn:es.size<=sizeLine:=fits_of_scanBound hsz;unfold Builtin.List.listExtendWith;refine Qci (Qcd (T:="set") T0 ?_);have n1:Builtin.List.listSameRef (.ref S) (.ref a)=false:=by simp[Builtin.List.listSameRef,nSa]
 have n2:(Value.type "set" == Value.type "list")=false:=by decide
 have n3:(Value.type "set" == Value.type "tuple")=false:=by decide
 simp only[n1,n2,n3,Bool.or_false,QaS,Qcn];refine Qci (XS RS eb hsz (λpl=>?_) λis d' hb pm=>?_)
 ·generalize eo:({ cls:=.type "set_iterator",data:=.fields #[rawInt 0,rawInt 0,.ref a,rawInt es.size,rawInt ep] }:Obj)=oI;have hI:(s.heap.push oI).get? s.heap.objs.size=some oI:=QaG _ (by rw[<-eo];rfl);have kp:∀c o,s.heap.get? c=some o->(s.heap.push oI).get? c=some o:=λc o e=>Qas _ e;have T1:Shared.TypeIs { s with heap:=s.heap.push oI } (.ref a) "set":=let ⟨ob,g1,g2⟩:=T0;⟨ob,kp _ _ g1,g2⟩;have R1:=RS.at λo e=>kp a o e;have nI:a≠s.heap.objs.size:=QbX la;have nS:S∉[s.heap.objs.size,a]:=by
   simp only[QbP,Qbt,or_false,not_or];exact⟨QbX lS,nSa⟩
  have si:∀k:Nat,k=0->Ft (s.heap.push oI) s.heap.objs.size a (rawInt (k:Nat)) 0 es.size ep:=λk hk=>⟨oI,hI,by rw[<-eo],by rw[<-eo,hk];rfl⟩;cases eb2:w.params.followText "set-order" with
  | true=>
   rw[eb2] at eb;subst eb;refine take_all T1 (kp _ _ hS) nS (Vm (A:=A.in1) (by simp[hh]) _ a nI es ep t eb2) ⟨si 0 rfl,R1⟩ hn λh' tk us c kk hS' itm=>?_;refine fin h' tk s.drawn us c (λc o nc e=>kk c o nc (QbX (QbW e)) (kp _ _ e)) hS' ?_;have e1:us.toList=(pickOrder (w.params.setOrder a ep) es).toList.map (·.2):=by
    have sz:=(Gw (w.params.setOrder a ep) es.size 0 es.toList #[] (QaH ..)).length_eq;refine G6 (by rw[QaH,itm.1];exact (sz.trans (by simp)).symm) λj v hj=>?_;rw[Qaw] at hj;obtain⟨e,h1,h2⟩:=itm.2 j v hj;exact⟨e,by rw[Qaw];exact h1,h2⟩
   rw[e1];exact ((Gw (w.params.setOrder a ep) es.size 0 es.toList #[] (QaH ..)).trans (by simp)).map _
  | false=>
   rw[eb2] at eb;subst eb;obtain⟨ob,g1,g2,g3,g4,g5⟩:=id RS;refine take_all T1 (kp _ _ hS) nS (T9 (A:=A.in1) (by simp[hh]) _ a nI es ep t eb2 (pl rfl) g4 g5) ⟨si _ rfl,R1⟩ hn λh' tk us c kk hS' itm=>?_;refine fin h' tk s.drawn us c (λc o nc e=>kk c o nc (QbX (QbW e)) (kp _ _ e)) hS' ?_;have e1:us.toList=es.toList.map (·.2):=by
    refine G6 (by rw[QaH,QaH,itm.1]) λj v hj=>?_;rw[Qaw] at hj;obtain⟨e,h1,h2⟩:=itm.2 j v hj;exact⟨e,by rw[Qaw];exact h1,h2⟩
   rw[e1]
 ·subst hb;generalize eo1:({ cls:=.type "tuple",data:=.seq (is.map λi:Nat=>rawInt (i:Int)).toArray }:Obj)=oT;generalize eo:({ cls:=.type "set_iterator",data:=.fields #[.ref s.heap.objs.size,rawInt 0,.ref a,rawInt es.size,rawInt ep] }:Obj)=oI;have z1:(s.heap.push oT).objs.size=s.heap.objs.size+1:=QbL ..;have hT:(s.heap.push oT).get? s.heap.objs.size=some oT:=QaG _ (by rw[<-eo1];rfl);have hI:((s.heap.push oT).push oI).get? (s.heap.objs.size+1)=some oI:=by rw[<-z1];exact QaG _ (by rw[<-eo];rfl)
  have kp:∀c o,s.heap.get? c=some o->((s.heap.push oT).push oI).get? c=some o:=λc o e=>Qas _ (Qas _ e);have T1:Shared.TypeIs { s with heap:=(s.heap.push oT).push oI,drawn:=d' } (.ref a) "set":=let ⟨ob,g1,g2⟩:=T0;⟨ob,kp _ _ g1,g2⟩;have R1:=RS.at λo e=>kp a o e;have nI:a≠s.heap.objs.size+1:=QbX (Qbg la);have nS:S∉[s.heap.objs.size+1,a,s.heap.objs.size]:=by
   simp only[QbP,Qbt,or_false,not_or];exact⟨QbX (Qbg lS),nSa,QbX lS⟩
  have tup:((s.heap.push oT).push oI).IsTuple s.heap.objs.size (is.map λi:Nat=>rawInt (i:Int)).toArray:=⟨oT,Qas _ hT,by rw[<-eo1],0,by rw[<-eo1]⟩;have si:Ft ((s.heap.push oT).push oI) (s.heap.objs.size+1) a (.ref s.heap.objs.size) 0 es.size ep:=⟨oI,hI,by rw[<-eo],by rw[<-eo];rfl⟩;refine take_all (s:={ s with heap:=(s.heap.push oT).push oI,drawn:=d' }) T1 (kp _ _ hS) nS (Ua (A:=A.in1) (by simp[hh]) _ a _ nI (QbX (Qbp _)) es ep t is pm) ⟨si,R1,tup⟩ hn λh' tk us c kk hS' itm=>?_;refine fin h' tk d' us c (λc o nc e=>kk c o nc (QbX (Qbg (QbW e))) (kp _ _ e)) hS' ?_;have hl:is.length=es.size:=by rw[pm.length_eq,Qbi]
  have e1:us.toList=is.map λi=>(es.toList.map (·.2)).getD i .none:=by
   refine G6 (by rw[QaH,itm.1,hl]) λj v hj=>?_;rw[Qaw] at hj;obtain⟨p,e,h1,h2,h3⟩:=itm.2 j v hj;refine⟨p,h1,?_⟩;rw[h3,List.getD_eq_getElem?_getD,Qbd,Qaw,h2];rfl
  rw[e1];have:=(pm.map λi=>(es.toList.map (·.2)).getD i Value.none);rw[show es.size=(es.toList.map (·.2)).length by rw[Qbu,QaH],range_getD] at this;exact this
theorem Z5 {b:Bool} {a:Addr} {es:Array (Int×Value)} {ep:Nat} {t:SetTable} {Rr:YE->Shared->Prop} (hh:A.handled=none) (RS:Ei b s.heap a es ep t) (eb:b=!w.params.followText "set-order") (hsz:es.size < scanBound)
  (h:∀h' tk d' (us:YE),(∀c o,s.heap.get? c=some o->h'.get? c=some o)->us.Perm (es.toList.map (·.2))->Rr us { s with heap:=h',toks:=tk,drawn:=d' }):wpAny (model prog w) A (collect (.ref a)) Rr E s:=by
 have hlt:a < s.heap.objs.size:=let ⟨_,g,_⟩:=RS;QbW g;unfold collect;refine Qci (wpAny_runValue (QbD entry_proto_collect' ?_));rw[QaD PySem.F.plain_proto_collect _];show wpAny _ A.in1 (newList [] >>= λl=>again (.builtin "list.__iadd__" ⟨[l,.ref a],[]⟩)) _ _ s;refine Qci (Qbe ?_);refine Qcj ⟨QbV PySem.F.plain_list_iadd _,QbD entry_list_iadd' ?_⟩;rw[QaD PySem.F.plain_list_iadd _];have k0:∀c o,s.heap.get? c=some o->(s.heap.push { cls:=.type "list",data:=.seq ([]:YE).toArray }).get? c=some o:=λc o e=>Qas _ e;have hS0:(s.heap.push { cls:=.type "list",data:=.seq ([]:YE).toArray }).get? s.heap.objs.size=some { cls:=.type "list",data:=.seq #[] }:=QaG _ rfl;show wpAny _ A.in1 (Builtin.List.listExtendWith (.ref s.heap.objs.size) (.ref a) (.ref s.heap.objs.size)) _ _ _;have key:=ZX (prog:=prog) (A:=A) (s:={ s with heap:=s.heap.push { cls:=.type "list",data:=.seq ([]:YE).toArray } }) (res:=.ref s.heap.objs.size)
  (R:=λ(r:Result) (s':Shared)=>∃h' tk d' us c,r=.ok (.ret (.ref s.heap.objs.size))/\s'={ s with heap:=h',toks:=tk,drawn:=d' }/\(∀c o,s.heap.get? c=some o->h'.get? c=some o)/\h'.get? s.heap.objs.size=some { cls:=.type "list",dict:=none,data:=.seq us c,slots:=#[] }/\us.toList.Perm (es.toList.map (·.2)))
  hh (RS.at λo e=>k0 a o e) eb hsz hS0 (Qcb hlt) λh' tk d' us c kk hS' pm=>⟨h',tk,d',us,c,rq,rq,λc o e=>kk c o (QbX (QbW e)) (k0 _ _ e),hS',pm⟩
 refine Qck key (λfin s' x=>?_) λe s' x=>?_
 ·cases fin with
  | done f=>
   obtain⟨h',tk,d',us,c,e,rfl,kk,hS',pm⟩:=x;cases e;show wpAny _ A (load s.heap.objs.size >>= _) _ _ _;exact Qci (wpAny_load hS' (Qcj (h h' tk d' us.toList kk pm)))
  | again c1=>
   refine⟨x.1,Qcc x.2 λq s2 y=>?_⟩;obtain⟨h',tk,d',us,c,rfl,rfl,kk,hS',pm⟩:=y;show wpAny _ A (load s.heap.objs.size >>= _) _ _ _;exact Qci (wpAny_load hS' (Qcj (h h' tk d' us.toList kk pm)))
 ·obtain⟨_,_,_,_,_,e',_⟩:=x;cases e'
end
open PySem.Calls (spliced_cons spliced_nil)
theorem JF {α : Type} [DecidableEq α]:∀{l m:List α},l.Nodup->(∀x∈l,x∈m)->l.length<=m.length
 | [],m,_,_=>Qcf _
 | a::l,m,h,c=>by
  obtain⟨h1,h2⟩:=QbB.mp h;have ha:=c a (.head _);have:=JF (l:=l) (m:=m.erase a) h2 λx hx=>(List.mem_erase_of_ne (λz:x=a=>h1 (by rw[<-z];exact hx))).mpr (c x (.tail _ hx));rw[List.length_erase_of_mem ha] at this;have:0 < m.length:=List.length_pos_of_mem ha;simp only[Qbm];omega
theorem LK {α : Type} [DecidableEq α]:∀{m l:List α},l.Nodup->(∀x∈l,x∈m)->m.length<=l.length->m.Nodup
 | [],_,_,_,_=>List.Pairwise.nil
 | a::m,l,h,c,e=>by
  by_cases q:a∈m
  ·have:=JF (m:=m) h λx hx=>by
    rcases QbP.mp (c x hx) with z | z
    ·exact z ▸ q
    ·exact z
   simp only[Qbm] at e;omega
  ·refine QbB.mpr ⟨q,LK (l:=l.erase a) (h.erase a) (λx hx=>?_) ?_⟩
   ·have x1:=(h.mem_erase_iff).mp hx;rcases QbP.mp (c x x1.2) with z | z
    ·exact absurd z x1.1
    ·exact z
   ·rw[List.length_erase];simp only[Qbm] at e;split <;> omega
section
variable {prog:Program} {w:World} {A:Around} {E:YA} {s:Shared}
end
theorem Inv.Zr {X:Cx} {jb:YC} {U : St} {H:Hp} {s:Shared} (I:Inv X jb U H s) (d':Drawn):Inv X jb U H { s with drawn:=d' }:=⟨I.ok,I.os,I.bare,I.base,I.loc,I.cell,I.free,I.DW,I.pin,I.hok,I.len⟩
end L2
namespace L2
open PySem PySem.Spec PyProof.Rows
theorem RX:isSubtype (.type "list") (.type "set")=pure false:=by rw[QbM];kernel_rfl
theorem Uh:isSubtype (.type "list") (.type "frozenset")=pure false:=by rw[QbM];kernel_rfl
section
variable {X:Cx}
def eG (K:YD) (ta tb:TE):TE:=fun U H Q=>ta U H λx H1=>∃k,Oz K x H1 k/\if k=true then Q x H1 else tb U H1 Q
theorem Kh {K:YD} {a b:Expr} {rest:YJ} {pos:Pos} {ta tb:TE} (hK:X.K=K) (ha:PE X a ta) (hb:PE X (.BoolOp .Or (b::rest) pos) tb):PE X (.BoolOp .Or (a::b::rest) pos) (eG K ta tb):=by
 subst hK;intro jb s U H Q I h;refine BoolOp_or (thn (ha jb s U H _ I h) λv s1 zz=>?_);obtain⟨x,H1,I1,r1,k,e,q1⟩:=zz;refine thn (Vq jb s1 U H1 x v (λb H2=>b=k/\if k=true then Q x H2 else tb U H2 Q) I1 r1 ⟨k,e,rq,q1⟩) λb s2 h2=>?_
 obtain⟨H2,I2,rfl,q2⟩:=h2;cases b with
 | false=>exact hb jb s2 U H2 Q I2 (by simpa using q2)
 | true=>exact⟨x,H2,I2,r1,by simpa using q2⟩
end
section
variable {X:Cx} {K:YD}
end
theorem Rep.kn {H:Hp} {v:V} {d:PyData} (r:Rep H v d):Kn H v:=by
 cases r with
 | non=>exact True.intro
 | bl b=>exact True.intro
 | int i=>exact True.intro
 | str x=>exact True.intro
 | tup e _=>exact .inr ⟨_,e⟩
 | lst e _=>exact .inl ⟨_,e⟩
end L2
namespace PySem.ZZ
open PySem
section
variable {prog:Program} {w:World} {A:Around} {E:YA} {s:Shared}
abbrev itS (x:Str) (t:Tok):Obj:={ cls:=.type "str_ascii_iterator",data:=.fields #[.str x t,.int 0 0] }
abbrev zsa (h:Heap) (x:Str) (t:Tok) (l2:Addr):Heap:=((((h.push (itS x t)).push (itO "tuple_iterator" l2)).push (tuO #[.ref h.objs.size,.ref (h.push (itS x t)).objs.size])).push (tuO #[.none,.none]))
abbrev zs (h:Heap) (x:Str) (t:Tok) (l2:Addr):Heap:=(zsa h x t l2).push
 { cls:=.type "zip",data:=.fields #[.none,.bool false,.bool false,.ref ((h.push (itS x t)).push (itO "tuple_iterator" l2)).objs.size,.ref (((h.push (itS x t)).push (itO "tuple_iterator" l2)).push (tuO #[.ref h.objs.size,.ref (h.push (itS x t)).objs.size])).objs.size] }
end
end PySem.ZZ
namespace L2
open PySem PySem.Spec PyProof.Rows
section
variable {X:Cx}
end
open PySem.Calls (spliced_cons spliced_nil)
theorem Vv {vs us:YE} (p:us.Perm vs):∀{ns:YF},StrsAre vs ns->∃ms,StrsAre us ms/\ms.Perm ns:=by
 induction p with
 | nil=>intro ns h;cases h;exact⟨[],.nil,List.Perm.refl _⟩
 | cons x _ ih=>
  intro ns h;cases h with
  | cons n t r=>
   obtain⟨ms,h1,h2⟩:=ih r;exact⟨n::ms,.cons n t h1,h2.cons _⟩
 | swap x y l=>
  intro ns h;cases h with
  | cons n t r=>
   cases r with
   | cons n2 t2 r2=>exact⟨_,.cons n2 t2 (.cons n t r2),List.Perm.swap _ _ _⟩
 | trans _ _ ih1 ih2=>
  intro ns h;obtain⟨ms,h1,h2⟩:=ih2 h;obtain⟨ks,h3,h4⟩:=ih1 h1;exact⟨ks,h3,h4.trans h2⟩
theorem StrsAre.len:∀{vs:YE} {ns:YF},StrsAre vs ns->vs.length=ns.length
 | _,_,.nil=>rfl
 | _,_,.cons _ _ r=>by rw[Qbm,Qbm,StrsAre.len r]
theorem StrsAre.at_:∀{vs:YE} {ns:YF},StrsAre vs ns->∀(i:Nat) (v:Value),vs[i]?=some v->∃t,v=.str (ns.getD i Str.empty) t
 | _,_,.nil,i,v,e=>by simp at e
 | _,_,.cons x t r,0,v,e=>by
  simp at e;exact⟨t,by rw[<-e];rfl⟩
 | _,_,.cons x t r,i+1,v,e=>by
  simp at e;obtain⟨t',h⟩:=StrsAre.at_ r i v e;exact⟨t',by rw[h];rfl⟩
theorem O6:∀{us:YE} {ns:YF},StrsAre us ns->Vals (ns.map V.str) us
 | _,_,.nil=>.nil
 | _,_,.cons x t r=>.cons ⟨t,rfl⟩ (O6 r)
section
variable {prog:Program} {w:World} {A:Around} {E:YA} {s:Shared}
theorem R0 {b:Bool} {a:Addr} {es:Array (Int×Value)} {ep:Nat} {t:SetTable} {ns:YF} {Q:YA} (hh:A.handled=none) (RS:Ei b s.heap a es ep t) (eb:b=!w.params.followText "set-order") (h64:es.size < 64) (hi:StrsAre (es.toList.map (·.2)) ns)
  (h:∀h' tk d' D (out:Array Value) ms e,(∀c o,s.heap.get? c=some o->h'.get? c=some o)->(∀c o,s.heap.get? c=some o->c≠D)->h'.get? D=some (seqObj "list" out e)->StrsAre out.toList ms->ms.Perm ns->Q (.ref D) { s with heap:=h',toks:=tk,drawn:=d' }) :
  wpAny (model prog w) A (call (.builtin "sorted") [.ref a]) Q E s:=by
 refine Calls.call_function_entry kind_sorted plain_sorted entry_sorted (args_sorted1 _) ?_;unfold Builtin.«sorted»;refine Qci (m:=checkCount "sorted" 1 1 _) (Qcj ?_);have hsz:es.size < scanBound:=by unfold scanBound;omega
 refine Qci (Z5 (A:=A.in1) hh RS eb hsz λh1 tk d' us kk pm=>?_);obtain⟨ms,i1,i2⟩:=Vv pm hi;have ul:us.length=es.size:=by rw[pm.length_eq,Qbu,QaH]
 refine Qci (wpAny_newList ?_ (by rw[ul];exact fits_of_scanBound hsz));have hD:(h1.push (seqObj "list" us.toArray 0)).get? h1.objs.size=some (seqObj "list" us.toArray 0):=QaG _ rfl;refine Qci (QbR (Qbn slot_list_sort ⟨_,hD,rq⟩ entry_list_sort (list_sort_treeK strKind_oneLt (s:={ s with heap:=h1.push (seqObj "list" us.toArray 0),toks:=tk,drawn:=d' }) hD i1.keysOf (λv₁ v₂ rest e=>keyKind_strs (by rw[<-e];exact i1)) (by omega) λst' hp hs=>?_) (args_list_sort _)));obtain⟨ks,a1,a2,a3⟩:=sorted_out_str i1 hp hs;refine⟨_,rq,?_⟩;obtain⟨e,he⟩:=sortedHeap_at (out:=(arrOf st').map (·.2)) hD;refine Qcj ⟨_,rq,h _ tk d' _ _ ks e (λc o ec=>?_) (λc o ec=>QbX (QbW (kk c o ec))) he a1 (a2.trans i2)⟩;have e1:=kk c o ec;have lt:=QbW e1;rw[sortedHeap_old (QbX lt) (by rw[QbL];exact Qbg lt)];exact Qas _ e1
end
def Vt (K:YD) (t:TA):TE:=fun U H Q=>t U H λvs H1=>∃(p:Addr) (ns:YF),vs=[.ref p]/\(SqL K H1 p (ns.map V.str)\/SqT K H1 p (ns.map V.str))/\ns.length < 900/\(∃us:YF,us.length < 64/\∀x∈ns,x∈us) /\
 ∀(ms:YF) l,ms.Nodup->(∀k,k∈ms ↔ k∈ns)->H1 l=none->Q (.ref l) (upd H1 l (.lst (ms.map V.str)))
def W6 (K:YD) (t:TA):TE:=fun U H Q=>t U H λvs H1=>∃(p:Addr) (ns:YF),vs=[.ref p]/\(SqL K H1 p (ns.map V.str)\/SqT K H1 p (ns.map V.str))/\ns.length < 900 /\
 ∀n:Nat,(n=ns.length ↔ ns.Nodup)->n<=ns.length->Q (.int n) H1
theorem Np {prog:Program} {w:World}:∀{es:List (Int×Value)},ElemsOf (PySem.strKind prog w) es->∃ns,StrsAre (es.map (·.2)) ns/\∀k,k∈ns ↔ ∃e∈es,(PySem.strKind prog w).is k e.2=true
 | [],_=>⟨[],.nil,λk=>⟨(λh=>by cases h),λ⟨e,he,_⟩=>by cases he⟩⟩
 | e::es,h=>by
  obtain⟨⟨k,hk,_⟩,_⟩:=h.head;obtain⟨ns,h1,h2⟩:=Np (es:=es) h.tail;obtain⟨t,et⟩:=Value.isStrOf_shape hk;refine⟨k::ns,by rw[QbQ,et];exact .cons k t h1,λj=>?_⟩;rw[QbP,h2];constructor
  ·rintro (rfl |⟨e',he,q⟩)
   ·exact⟨e,.head _,hk⟩
   ·exact⟨e',.tail _ he,q⟩
  ·rintro ⟨e',he,q⟩;rcases QbP.mp he with rfl | he
   ·exact .inl ((PySem.strKind prog w).inj _ _ _ q hk)
   ·exact .inr ⟨e',he,q⟩
theorem Nb {ns:YF} {val:Nat->Str} {n:Nat} (hn:n=ns.length) (hval:∀j,j < n->ns[j]?=some (val j)) (k:Str):k∈met val n ↔ k∈ns:=by
 rw[Oh];constructor
 ·intro ⟨j,hj,e⟩;exact QaB (e ▸ hval j hj)
 ·intro hk;obtain⟨j,hj⟩:=QaE hk;have lj:j < n:=by rw[hn];exact (Qag.mp hj).1
  refine⟨j,lj,?_⟩;rw[hval j lj] at hj;exact Qby hj
theorem PB {X:Cx} {jb:YC} {U : St} {H:Hp} {s:Shared} {h1:Heap} {tk n:Nat} {a:Addr} {val:Nat->Str} {ns:YF} {Q:VK} (hc:X.calm=true) (I:Inv X jb U H s) (z:SetT (PySem.strKind X.prog X.w) (!X.w.params.followText "set-order") h1 a (λk=>decide (k∈met val n)) (met val n).length)
  (kp:∀b o,s.heap.get? b=some o->h1.get? b=some o) (hn:n=ns.length) (h64:ns.length < 900) (hus:∃us:YF,us.length < 64/\∀x∈ns,x∈us) (hval:∀j,j < n->ns[j]?=some (val j))
  (q:∀(ms:YF) l,ms.Nodup->(∀k,k∈ms ↔ k∈ns)->H l=none->Q (.ref l) (upd H l (.lst (ms.map V.str)))) :
  wpAny (model X.prog X.w) X.A (call (.builtin "sorted") [.ref a]) (EP X jb U Q) X.xe { s with heap:=h1,toks:=tk }:=by
 obtain⟨ob,es,ep,t,⟨g1,g2,g3⟩,⟨c1,c2⟩,⟨c3,c4,c5⟩,c6⟩:=z;obtain⟨ks,k1,k2⟩:=Np c1;have ml:=K8 val n;have kl:ks.length=(met val n).length:=by
  have:=StrsAre.len k1;rw[Qbu,QaH,c5] at this;exact this.symm
 have mem:∀k,k∈ks ↔ k∈met val n:=λk=>by rw[k2,<-c2,QaT]
 have nd:ks.Nodup:=LK (Ko val n) (λx hx=>(mem x).mpr hx) (by omega);have fQ:∀k,k∈ks ↔ k∈ns:=λk=>(mem k).trans (Nb hn hval k);obtain⟨us,hu1,hu2⟩:=hus;have mlu:=JF (Ko val n) λx hx=>hu2 x ((Nb hn hval x).mp hx);refine R0 (I.ok.hd hc) ⟨ob,g1,g2,g3,c4,c6⟩ rfl (by omega) k1 λh2 tk2 d' D out ms e kk nD oD a1 a2=>?_;obtain⟨m,hns,_⟩:=id I.loc;have k02:∀b o,s.heap.get? b=some o->h2.get? b=some o:=λb o e=>kk b o (kp b o e);have hn2:h2.Ns X.env.locals m:=by
  obtain⟨o,es',ep',q1,q2⟩:=hns;exact⟨o,es',ep',k02 _ _ q1,q2⟩
 have rv:Vals (ms.map V.str) out.toList:=O6 a1;obtain⟨hDn,I2⟩:=Uk (tk:=tk2) I hns hn2 (λb o _ e=>k02 b o e) (λb o e=>nD b o (kp b o e)) (by rw[Array.toArray_toList];exact oD) rv (by rw[Qbu,a2.length_eq,kl];omega);exact⟨.ref D,_,I2.Zr d',rq,q ms D (a2.nodup_iff.mpr nd) (λk=>(a2.mem_iff).trans (fQ k)) hDn⟩
theorem Uu {X:Cx} {jb:YC} {U : St} {H:Hp} {s:Shared} {h1:Heap} {tk n:Nat} {a:Addr} {val:Nat->Str} {ns:YF} {Q:VK} (I:Inv X jb U H s) (z:SetT (PySem.strKind X.prog X.w) (!X.w.params.followText "set-order") h1 a (λk=>decide (k∈met val n)) (met val n).length)
  (kp:∀b o,s.heap.get? b=some o->h1.get? b=some o) (hn:n=ns.length) (h64:ns.length < 900) (hval:∀j,j < n->ns[j]?=some (val j))
  (q:∀n:Nat,(n=ns.length ↔ ns.Nodup)->n<=ns.length->Q (.int n) H) :
  wpAny (model X.prog X.w) X.A (call (.builtin "len") [.ref a]) (EP X jb U Q) X.xe { s with heap:=h1,toks:=tk }:=by
 obtain⟨ob,es,ep,t,⟨g1,g2,g3⟩,⟨c1,c2⟩,⟨c3,c4,c5⟩,c6⟩:=z;have ml:=K8 val n;refine call_len_set g1 g2 g3 c4 (by unfold scanBound at c3;omega) ?_;have I2:=I.grown (t':=tk+1+1) kp (λ_ _=>rfl) (λb o hb e=>absurd (I.hok.lt e) (Nat.not_lt.mpr hb));refine⟨.int (es.size:Int),H,I2,⟨_,rq⟩,?_⟩;rw[c5];refine q _ ⟨λe=>?_,λnd=>?_⟩ (by omega)
 ·exact LK (Ko val n) (λx hx=>(Nb hn hval x).mp hx) (by omega)
 ·have:=JF nd λx hx=>(Nb hn hval x).mpr hx;omega
theorem VH {X:Cx} {jb:YC} {U : St} {H:Hp} {s:Shared} {p:Addr} {ns:YF} {Q:YA} (hc:X.calm=true) (I:Inv X jb U H s) (hq:SqL X.K H p (ns.map V.str)\/SqT X.K H p (ns.map V.str)) (h64:ns.length < 900)
  (h:∀(h1:Heap) (tk:Nat),SetT (PySem.strKind X.prog X.w) (!X.w.params.followText "set-order") h1 s.heap.objs.size (λk=>decide (k∈met (λi=>ns.getD i Str.empty) ns.length)) (met (λi=>ns.getD i Str.empty) ns.length).length->(∀b o,s.heap.get? b=some o->h1.get? b=some o)->Q (.ref s.heap.objs.size) { s with heap:=h1,toks:=tk }) :
  wpAny (model X.prog X.w) X.A (call (.type "set") [.ref p]) Q X.xe s:=by
 have vOk:∀{its:YE},StrsAre its ns->∀(i:Nat) (v:Value),its.toArray[i]?=some v->(PySem.strKind X.prog X.w).is (ns.getD i Str.empty) v=true/\v.scannable=true:=λhi i v e=>by
  obtain⟨t,rfl⟩:=StrsAre.at_ hi i v (by rw[<-List.getElem?_toArray];exact e);exact⟨PySem.strKind_is _ _ _ _,rq⟩
 have lim:ns.length+1 < scanBound:=by unfold scanBound;omega
 rcases hq with hq | hq
 ·obtain⟨its,rv,pl,hz⟩:=I.list hq;have hi:StrsAre its ns:=IK rv;have hl:its.toArray.size=ns.length:=by rw[Qbc,StrsAre.len hi]
  have il:=pl.isList;obtain⟨o,ho,cl,x⟩:=id il;refine O8 (T:="list") (n:=ns.length) (P:=λi v=>its.toArray[i]?=some v) (I.ok.hd hc) (λi=>ns.getD i Str.empty) (vOk hi) lim ⟨o,ho,cl⟩ RX Uh (by decide) (λs1 kk=>?_) λh1 tk z kp=>h h1 tk z λb o e=>kp b o (QbW e) e;have l1:s1.heap.IsList p its.toArray:=⟨o,kk o ho,cl,x⟩;refine⟨_,λi h=>h.IsListIter s1.heap.objs.size p i/\h.IsList p its.toArray,λA E Q hQ=>wpAny_pyIter_list l1 hQ,λA hA ne=>?_,⟨⟨_,QaG _ rfl,rq,rq⟩,l1.push _⟩⟩;rw[<-hl];exact Walks.list hA _ p ne its.toArray
 ·obtain⟨its,rv,il,hz⟩:=I.tuple hq;have hi:StrsAre its ns:=IK rv;have hl:its.toArray.size=ns.length:=by rw[Qbc,StrsAre.len hi]
  have il':s.heap.IsTuple p its.toArray:=il;obtain⟨o,ho,cl,x⟩:=id il';refine O8 (T:="tuple") (n:=ns.length) (P:=λi v=>its.toArray[i]?=some v) (I.ok.hd hc) (λi=>ns.getD i Str.empty) (vOk hi) lim ⟨o,ho,cl⟩ RW Ug (by decide) (λs1 kk=>?_) λh1 tk z kp=>h h1 tk z λb o e=>kp b o (QbW e) e;have l1:s1.heap.IsTuple p its.toArray:=⟨o,kk o ho,cl,x⟩;refine⟨_,λi h=>h.IsTupleIter s1.heap.objs.size p i/\h.IsTuple p its.toArray,λA E Q hQ=>QaU l1 hQ,λA hA ne=>?_,⟨⟨_,QaG _ rfl,rq,rq⟩,let ⟨o,e,r⟩:=l1;⟨o,Qas _ e,r⟩⟩⟩;rw[<-hl];exact Walks.tuple hA _ p ne its.toArray
theorem O7 {X:Cx} {e:Expr} {t:TA} {q2 cpos:Pos} {jb:YC} {U : St} {H:Hp} {s:Shared} (hc:X.calm=true) (hg2:Gl X "set") (hm2:X.mg "set"=none) (ha:PA X [e] t)
  (he:starEach [e] X.env=(false,eval e X.env)::starEach [] X.env) (hpl:(backTo cpos (starEach [] X.env)).any (·.1)=false) {R:Addr->YF->Hp->Prop} (I:Inv X jb U H s)
  (h:t U H λvs H1=>∃(p:Addr) (ns:YF),vs=[.ref p]/\(SqL X.K H1 p (ns.map V.str)\/SqT X.K H1 p (ns.map V.str))/\ns.length < 900/\R p ns H1) :
  wpAny (model X.prog X.w) X.A (eval (.Call (.Name "set" q2) [e] [] cpos) X.env) (λv s1=>∃(s0:Shared) (H1:Hp) (h1:Heap) (tk:Nat) (p:Addr) (ns:YF),v=.ref s0.heap.objs.size/\s1={ s0 with heap:=h1,toks:=tk }/\Inv X jb U H1 s0/\ns.length < 900 /\
   SetT (PySem.strKind X.prog X.w) (!X.w.params.followText "set-order") h1 s0.heap.objs.size (λk=>decide (k∈met (λi=>ns.getD i Str.empty) ns.length)) (met (λi=>ns.getD i Str.empty) ns.length).length/\(∀b o,s0.heap.get? b=some o->h1.get? b=some o)/\R p ns H1) X.xe s:=by
 refine QaV (Ey I hg2 hm2 (u:=.type "set") (by trivial) ?_);refine Qac (thn (ha cpos jb s U H _ I h) λus s1 zz=>?_) he hpl;obtain⟨vs,H1,I1,r1,p,ns,ev,hq,h64,q⟩:=zz;subst ev;obtain⟨u,rfl,rx⟩:=vals1 r1;cases rx;exact VH hc I1 hq h64 λh1 tk z kp=>⟨s1,H1,h1,tk,p,ns,rq,rq,I1,h64,z,kp,q⟩
theorem R6 {X:Cx} {e:Expr} {t:TA} {q1 q2 cpos pos2:Pos} (hc:X.calm=true) (hg:Gl X "sorted") (hm:X.mg "sorted"=none) (hg2:Gl X "set") (hm2:X.mg "set"=none) (ha:PA X [e] t)
  (he:starEach [e] X.env=(false,eval e X.env)::starEach [] X.env:=by rfl) (hpl:(backTo cpos (starEach [] X.env)).any (·.1)=false:=by rfl)
  (hs0:starEach [.Call (.Name "set" q2) [e] [] cpos] X.env=[(false,eval (.Call (.Name "set" q2) [e] [] cpos) X.env)]:=by rfl) :
  PE X (.Call (.Name "sorted" q1) [.Call (.Name "set" q2) [e] [] cpos] [] pos2) (Vt X.K t):=by
 intro jb s U H Q I h;refine QaV (Ey I hg hm (u:=.builtin "sorted") (by trivial) ?_);refine PyProof.Rows.callWith_builtin1 (Q:=EP X jb U Q) ?_ hs0 rfl;rw[hs0];show wpAny _ _ (spliced ((false,eval (.Call (.Name "set" q2) [e] [] cpos) X.env)::backTo pos2 [])) _ _ s;refine QaZ (thn (O7 hc hg2 hm2 ha he hpl (R:=λp ns H1=>(∃us:YF,us.length < 64/\∀x∈ns,x∈us)/\∀(ms:YF) l,ms.Nodup->(∀k,k∈ms ↔ k∈ns)->H1 l=none->Q (.ref l) (upd H1 l (.lst (ms.map V.str)))) I h) λv s1 zz=>?_);obtain⟨s0,H1,h1,tk,p,ns,ev,es,I1,h64,z,kp,q⟩:=zz;subst ev es;refine Calls.spliced_nil ?_;exact PB hc I1 z kp rfl h64 q.1 (λj hj=>by rw[Qal hj];simp[hj]) q.2
theorem Uo {X:Cx} {e:Expr} {t:TA} {q1 q2 cpos pos2:Pos} (hc:X.calm=true) (hg:Gl X "len") (hm:X.mg "len"=none) (hg2:Gl X "set") (hm2:X.mg "set"=none) (ha:PA X [e] t)
  (he:starEach [e] X.env=(false,eval e X.env)::starEach [] X.env:=by rfl) (hpl:(backTo cpos (starEach [] X.env)).any (·.1)=false:=by rfl)
  (hs0:starEach [.Call (.Name "set" q2) [e] [] cpos] X.env=[(false,eval (.Call (.Name "set" q2) [e] [] cpos) X.env)]:=by rfl) :
  PE X (.Call (.Name "len" q1) [.Call (.Name "set" q2) [e] [] cpos] [] pos2) (W6 X.K t):=by
 intro jb s U H Q I h;refine QaV (Ey I hg hm (u:=.builtin "len") (by trivial) ?_);refine PyProof.Rows.callWith_builtin1 (Q:=EP X jb U Q) ?_ hs0 rfl;rw[hs0];show wpAny _ _ (spliced ((false,eval (.Call (.Name "set" q2) [e] [] cpos) X.env)::backTo pos2 [])) _ _ s;refine QaZ (thn (O7 hc hg2 hm2 ha he hpl (R:=λp ns H1=>∀n:Nat,(n=ns.length ↔ ns.Nodup)->n<=ns.length->Q (.int n) H1) I h) λv s1 zz=>?_);obtain⟨s0,H1,h1,tk,p,ns,ev,es,I1,h64,z,kp,q⟩:=zz;subst ev es;refine Calls.spliced_nil ?_;exact Uu I1 z kp rfl h64 (λj hj=>by rw[Qal hj];simp[hj]) q
theorem WL {K:YD} {a l:Addr} {xs:YG} {g:TG} {wi2:TI} {g2:TG} {te:TE} {Q:VK} {σ0:St} {H0:Hp} (Pv:YN)
  (h0:Pv 0 σ0 H0) (hl:∀i U H',i<=xs.length->Pv i U H'->SqT K H' a xs)
  (hs:∀i x U H',xs[i]?=some x->Pv i U H'->g x U H' fun σ3 H3=>wi2 σ3 H3 λJ2 H4=>CIn J2 g2 te l (Pv (i+1)) σ3 H4)
  (hd:∀ U H',Pv xs.length U H'->Q (.ref l) H'):Ny (Itt K a) g wi2 g2 te Q σ0 H0 l:=by
 unfold Ny;refine⟨λi m U H'=>m=xs.length - i/\i<=xs.length/\Pv i U H',⟨xs.length,by simp,Qcf _,h0⟩,?_⟩;rintro i m U H' ⟨rfl,hi,p⟩;have q:=hl i U H' hi p;by_cases hlt:i < xs.length
 ·refine .inr ⟨⟨xs,xs[i],q,by simp[hlt]⟩,Pv (i+1),fun σ3 H3 p'=>⟨xs.length - (i+1),by omega,rq,hlt,p'⟩,λv H2 y=>?_⟩;obtain⟨rfl,hx⟩:=y;exact hs i v U _ (hx xs q) p
 ·have e:i=xs.length:=by omega
  subst e;exact .inl ⟨⟨xs,q,Qce _⟩,hd U H' p⟩
def Uz (z:Str):Value->Bool
 | .str y _=>y == z
 | _=>false
section
variable {X:Cx}
@[irreducible] def KZ:V->YG->Hp->VK->Prop:=λx xs H Q=>∃(l:Addr) (ys:YF) (z:Str) (j:Nat),x=.ref l/\xs=[.str z]/\H l=some (.lst (ys.map V.str))/\j<=1000/\ys[j]?=some z/\(∀m,m < j->ys[m]?≠some z)/\Q (.int (j:Int)) H
theorem Wr {l:Addr} {ys:YF} {z:Str} {j:Nat} {H:Hp} {Q:VK} (h:H l=some (.lst (ys.map V.str))) (h1:j<=1000) (h2:ys[j]?=some z) (h3:∀m,m < j->ys[m]?≠some z) (q:Q (.int (j:Int)) H):KZ (.ref l) [.str z] H Q:=by
 unfold KZ;exact⟨l,ys,z,j,rq,rq,h,h1,h2,h3,q⟩
theorem Wa:MtM X "list.index" KZ:=by
 intro jb s U H x vs v us Q I rx rv h;unfold KZ at h;obtain⟨l,ys,z0,j,rfl,rfl,hH,hj1,hj,hno,q⟩:=h;cases rx;obtain⟨u,rfl,ru⟩:=rv.one;obtain⟨tz,rfl⟩:=(show ∃t,u=.str z0 t from ru)
 obtain⟨z,its,n,r,hl,e⟩:=I.Oj hH;have hS:StrsAre its ys:=IK r;have hjl:j < ys.length:=(Qag.mp hj).1;have hlen:=StrsAre.len hS;have hj2:j < its.toArray.size:=by rw[Qbc];omega
 have at_:∀m (hm:m < its.toArray.size),∃t,its.toArray[m]=.str (ys.getD m Str.empty) t:=λm hm=>StrsAre.at_ hS m _ (by simp at hm;simp[hm]);have hit:Uz z0 (its.toArray[j]'hj2)=true:=by
  obtain⟨t,e1⟩:=at_ j hj2;rw[e1];show (ys.getD j Str.empty == z0)=true;rw[List.getD_eq_getElem?_getD,hj];simp
 have hn:∀m (hm:m < its.toArray.size),m < j->Uz z0 its.toArray[m]=false:=λm hm hmj=>by
  obtain⟨t,e1⟩:=at_ m hm;rw[e1];show (ys.getD m Str.empty == z0)=false;have hml:m < ys.length:=by omega
  have h1:=hno m hmj;rw[Qal hml] at h1;rw[List.getD_eq_getElem?_getD,Qal hml];exact QaL.mpr λe2=>h1 (by rw[show ys[m]=z0 from e2])
 have eqS:∀(A:Around) (s:Shared) (y:Value),y∈its.toArray->SeqAt.EqAt A s y (.str z0 tz) (Uz z0 y):=λA s y hy=>by
  obtain⟨x,t,rfl⟩:=hS.all y (by simpa using hy);exact SeqAt.EqAt.str_str (A:=A) (s:=s) x t z0 tz
 refine call_meets F.slot_list_index ⟨_,e,rq⟩ F.entry_list_index (F.args_list_index_2 _ _) (SeqAt.list_indexAt l its.toArray n none #[] (.str z0 tz) (Uz z0) j hj2 (Int.lt_of_le_of_lt (b:=1000) (by omega) (by trivial)) hit hn) ⟨e,eqS _ _,?_⟩;exact⟨.int (j:Int),H,I.tok _,⟨_,rq⟩,q⟩
end
end L2
namespace K24
open PySem L2
def top (i:Nat):Stmt:=PySem.Challenge.pw_warnloop_k24_rings.main.body.getD i (.Pass ⟨0,0,0,0⟩)
theorem GX:bootBuiltins "isinstance"=some (.builtin "isinstance"):=by trivial
theorem WW:bootBuiltins "int"=some (.type "int"):=by trivial
theorem Fp:bootBuiltins "tuple"=some (.type "tuple"):=by trivial
theorem Jo:bootBuiltins "list"=some (.type "list"):=by trivial
theorem Ez:bootBuiltins "len"=some (.builtin "len"):=by trivial
theorem cJ:bootBuiltins "all"=some (.builtin "all"):=by trivial
theorem WX:bootBuiltins "abs"=some (.builtin "abs"):=by trivial
theorem cI:bootBuiltins "max"=some (.builtin "max"):=by trivial
theorem cH:bootBuiltins "min"=some (.builtin "min"):=by trivial
theorem Z6:bootBuiltins "dict"=some (.type "dict"):=by trivial
structure Nm (mg:YB):Prop where
 isinstance:mg "isinstance"=none
 int:mg "int"=none
 bool:mg "bool"=none
 tuple:mg "tuple"=none
 list:mg "list"=none
 str:mg "str"=none
 len:mg "len"=none
 all:mg "all"=none
 abs:mg "abs"=none
 max:mg "max"=none
 min:mg "min"=none
 range:mg "range"=none
 sorted:mg "sorted"=none
 any:mg "any"=none
 sum:mg "sum"=none
 enumerate:mg "enumerate"=none
 zip:mg "zip"=none
 reversed:mg "reversed"=none
 dict:mg "dict"=none
 ord:mg "ord"=none
 set:mg "set"=none
abbrev NT:Stmt:=top 17
abbrev Je:YF:=["_law_script","_law_k"]
theorem Lr:Bf ["_law_script","_law_k","_law_cell"] Je (Al NT):=by ac_rfl
abbrev Lx:Stmt:=top 18
abbrev Fo:YF:=["_law_bag_here","_law_many"]
theorem Fw:Bf ["_law_bag_here","_law_many","_law_digit","_law_primes","_law_step","_law_base","_law_found"] Fo (Al Lx):=by ac_rfl
def Bp (H:Hp) (b:Addr) (n:Nat):Prop:=∃x y z:Int,H b=some (.lst [.int x,.int y,.int z])/\0<=x/\0<=y/\y<=4294967296/\0<=z/\z<=n
theorem Bp.same {H H':Hp} {b:Addr} {n:Nat} (h:Bp H b n) (s:Same H H'):Bp H' b n:=by
 obtain⟨x,y,z,e,r⟩:=h;exact⟨x,y,z,s _ _ e,r⟩
theorem Bp.mono {H:Hp} {b:Addr} {n m:Nat} (h:Bp H b n) (l:n<=m):Bp H b m:=by
 obtain⟨x,y,z,e,h1,h2,h3,h4,h5⟩:=h;exact⟨x,y,z,e,h1,h2,h3,h4,by omega⟩
theorem Bp.nb {H:Hp} {b p:Addr} {n:Nat} (h:Bp H b n) (hp:H p=none):b≠p:=by obtain⟨_,_,_,e,_⟩:=h;exact Ar e hp
theorem Bp.GQ {H:Hp} {b:Addr} {n:Nat} (h:Bp H b n):∀xs,H b≠some (.tup xs):=λxs z=>by obtain⟨_,_,_,e,_⟩:=h;rw[e] at z;cases z
theorem Bp.ex {H:Hp} {b:Addr} {n:Nat} (h:Bp H b n):∃o,H b=some o:=by obtain⟨_,_,_,e,_⟩:=h;exact⟨_,e⟩
theorem Bp.Mx {H H':Hp} {a b:Addr} {n:Nat} (h:Bp H b n) (s:Af a H H') (ne:b≠a):Bp H' b n:=by
 obtain⟨x,y,z,e,r⟩:=h;exact⟨x,y,z,s _ _ e ne,r⟩
theorem Ao {n:Nat} (h:n<=1000):n<=sizeLine:=Qca (Av h)
def Y5 (K:YD):Sp:=λvs H Q _=>∃(a:Addr) (ns:List Int) (k:Int),vs=[.ref a,.int k]/\SqL K H a (ns.map V.int)/\ns.length<=63/\0<=k/\k<=100/\∀p o,H p=none->Bp (upd H p o) p 0->Q (.ref p) (upd H p o)
def Mv:Sp:=λvs H Q _=>∃(b:Addr) (n:Nat) (m:Int),vs=[.ref b,.int m]/\Bp H b n/\n<=10000/\0 < m/\m < 1073741824/\∀r H',0<=r->r < m->Bp H' b (n+1)->Af b H H'->Q (.int r) H'
def Qg (K:YD):Sp:=λvs H Q _=>∃(a:Addr) (ns:List Int),vs=[.ref a]/\SqL K H a (ns.map V.int)/\ns.length<=63/\∀H',Q (.bl true) H'
theorem at7 {i:Int} (h0:0<=i) (h7:i < 7) {a b c d e f g:Int} (P:Int->Prop) (ha:P a) (hb:P b) (hc:P c) (hd:P d) (he:P e) (hf:P f) (hg:P g):∃p,atI [V.int a,.int b,.int c,.int d,.int e,.int f,.int g] i=some (.int p)/\P p:=by
 have:i=0\/i=1\/i=2\/i=3\/i=4\/i=5\/i=6:=by omega
 rcases this with rfl | rfl | rfl | rfl | rfl | rfl | rfl
 ·exact⟨_,rq,ha⟩
 ·exact⟨_,rq,hb⟩
 ·exact⟨_,rq,hc⟩
 ·exact⟨_,rq,hd⟩
 ·exact⟨_,rq,he⟩
 ·exact⟨_,rq,hf⟩
 ·exact⟨_,rq,hg⟩
theorem cD {x:Int} {b:Bool}:Vj x (if b=true then 1 else 0):=.inr (by cases b <;> exact⟨by decide,by decide⟩)
section
variable {P:Program} {w:World} {K:YD} {mg:YB} {base:Heap}
theorem Xv (C:Code K mg "_law_bag" NT Je) (T:Nm mg):Good P w K mg base "_law_bag" 1 Je (Y5 K):=by
 refine C.good Lr (λvs H Q E h=>?_) (λf cdv A outer s H vs Q E hr h=>?_)
 ·obtain⟨a,ns,k,rfl,_⟩:=h;rfl
 obtain⟨a,ns,k,rfl,hS,h63,h0,h1,q⟩:=h;refine⟨_,(Ae (Aw (i:=2) Lr.nd rfl (Or.inl rfl) (Bb Dd (Bb Dd (Bb Eu (Bb Eu Ag (pv 1)) (pv 1)) (Bb Eu Ag (pv 1))) Ag))
 (Ae (BX (Bd dD (pv 1) (Bs BZ rfl T.len Ez (Aa (pv 0) Ac)) (Bw _)) (Ai (Aw (i:=2) Lr.nd rfl (Or.inl rfl) (Bg BP (pv 0) (pv 1) (λ_ _=>rfl)))) Bk)
 (Ai (Ay (Cg (Aa (Bb Eu (Bs RG rfl T.abs WX (Aa (pv 2) Ac)) (Ca Pq rfl T.int WW (Aa (K5 dG (Bs RG rfl T.abs WX (Aa (pv 2) Ac)) (Bb V3 Ag Ag) (Bw _)) Ac))) (Aa (Bb Dd (Bb Gz (pv 2) Ag) (Bb Eu Ag (pv 1))) (Aa Ag Ac)))))))),?_⟩
 refine⟨_,rq,_,_,rq,rq,.inl ⟨by decide,by decide⟩,_,rq,_,_,rq,rq,.inr ⟨by omega,by omega⟩,_,rq,_,_,rq,rq,.inl ⟨by decide,by decide⟩,_,_,rq,rq,_,_,rq,rq,?_⟩;refine⟨_,rq,_,rq,a,_,rq,.inl hS,_,_,rq,rq,_,rq,?_⟩;have hl:(ns.map V.int).length=ns.length:=Qbu _;have fin:∀(c:Int) (p:Addr),H p=none->Q (.ref p) (upd H p (.lst [.int ((if c < 0 then -c else c)*(if decide ((10:Int) ^ (18:Int).toNat<=(if c < 0 then -c else c))=true then 1 else 0)),.int (c % 2147483647+37*k),.int 0])):=λc p hp=>by
  refine q p _ hp ⟨_,_,_,Ab,?_,?_,?_,by omega,by omega⟩
  ·refine Int.mul_nonneg ?_ ?_
   ·split <;> omega
   ·split <;> omega
  ·have:=QbJ c (show (2147483647:Int)≠0 by decide);omega
  ·have:=QaY c (show (0:Int) < 2147483647 by decide);omega
 refine Uy (λc1=>?_) (λc1=>?_)
 ·have c':k < (((ns.map V.int).length:Nat):Int):=of_decide_eq_true c1;rw[hl] at c';have hk:k.toNat < ns.length:=by omega
  have hat:atI (ns.map V.int) ((k.toNat:Nat):Int)=some (.int ns[k.toNat]):=Bm (by rw[Qbd];simp[hk]);rw[Int.toNat_of_nonneg h0] at hat;refine⟨_,rq,_,rq,a,_,_,_,rq,rq,hS,hat,?_⟩;exact⟨_,rq,_,rq,_,rq,_,rq,_,_,rq,rq,⟨by decide,by decide,by decide⟩,_,_,rq,rq,.inr ⟨_,rq,_,_,rq,rq,cD,_,rq,_,_,rq,rq,(by show (0:Int) < 2147483647;decide),_,rq,_,_,rq,rq,.inl ⟨by decide,by decide⟩,_,_,rq,rq,
   (by show 3<=sizeLine;decide),λl hl'=>fin _ l hl'⟩⟩
 ·exact⟨_,rq,_,rq,_,rq,_,rq,_,_,rq,rq,⟨by decide,by decide,by decide⟩,_,_,rq,rq,.inr ⟨_,rq,_,_,rq,rq,cD,_,rq,_,_,rq,rq,(by show (0:Int) < 2147483647;decide),_,rq,_,_,rq,rq,.inl ⟨by decide,by decide⟩,_,_,rq,rq,
   (by show 3<=sizeLine;decide),λl hl'=>fin _ l hl'⟩⟩
theorem V8 (C:Code K mg "_law_take" Lx Fo) (T:Nm mg):Good P w K mg base "_law_take" 1 Fo Mv:=by
 refine C.good Fw (λvs H Q E h=>?_) (λf cdv A outer s H vs Q E hr h=>?_)
 ·obtain⟨b,n,m,rfl,_⟩:=h;rfl
 obtain⟨b,n,m,rfl,⟨x,y,z,hb,x0,y0,y1,z0,z1⟩,hn,m0,m1,q⟩:=h;refine⟨_,(Ae (BX (Bd dF (Bg BP (pv 0) Ag (λ_ _=>rfl)) Ag (Bw _)) (Ae (Aw (i:=2) Fw.nd rfl (Or.inl rfl) (Bb Gz (Bg BP (pv 0) Ag (λ_ _=>rfl)) (pv 1)))
 (Ae (MJ (Bb Oc (Bg BP (pv 0) Ag (λ_ _=>rfl)) (pv 1)) (QL (pv 0) Ag set_list))
 (Ai (Ay (pv 2))))) Bk)
 (Ae (Aw (i:=3) Fw.nd rfl (Or.inl rfl) (@Bc _ _ _ _ _ (@Aa _ _ _ _ _ (@Ag _ _ _ _) (@Aa _ _ _ _ _ (@Ag _ _ _ _) (@Aa _ _ _ _ _ (@Ag _ _ _ _) (@Aa _ _ _ _ _ (@Ag _ _ _ _) (@Aa _ _ _ _ _ (@Ag _ _ _ _) (@Aa _ _ _ _ _ (@Ag _ _ _ _) (@Aa _ _ _ _ _ (@Ag _ _ _ _) (@Ac _) Fg) Fg) Fg) Fg) Fg) Fg) Fg)))
 (Ae (MJ (Bb Dd (Bg BP (pv 0) Ag (λ_ _=>rfl)) Ag) (QL (pv 0) Ag set_list))
 (Ae (Aw (i:=4) Fw.nd rfl (Or.inl rfl) (Bg BP (pv 0) Ag (λ_ _=>rfl)))
 (Ae (Aw (i:=5) Fw.nd rfl (Or.inl rfl) (Bb Dd (Bb Dd (Bb Eu (Bg BP (pv 0) Ag (λ_ _=>rfl)) (Bb Dd (Bb Eu Ag (pv 4)) Ag)) (Bb Eu (Bb Eu Ag (pv 4)) (pv 4))) Ag))
 (Ae (Aw (i:=6) Fw.nd rfl (Or.inl rfl) (Bb Gz (Bb V3 (pv 5) Ag) (Bg Ck (pv 3) (Bb Gz (pv 4) Ag) (λ_ _=>rfl))))
 (Ai (Ay (Bb Gz (Bb Oc (Bb Gz (Bb Eu (pv 6) (Bb Dd (Bb Oc (pv 6) Ag) Ag)) (Bg Ck (pv 3) (Bb Gz (Bb Dd (pv 4) Ag) Ag) (λ_ _=>rfl))) Ag) (pv 1)))))))))),?_⟩
 refine⟨_,rq,b,_,_,_,rq,rq,SqL.of hb,rq,_,_,rq,rq,_,rq,?_⟩;refine Uy (λc1=>?_) (λc1=>?_)
 ·have c':0 < x:=of_decide_eq_true c1;refine⟨_,rq,b,_,_,_,rq,rq,SqL.of hb,rq,_,rq,_,_,rq,rq,m0,?_⟩;refine⟨_,rq,b,_,_,_,rq,rq,SqL.of hb,rq,_,rq,_,_,rq,rq,⟨m0,m1⟩,_,rq,b,_,_,_,rq,rq,hb,rq,?_⟩;exact⟨_,rq,q _ _ (QbJ x (by omega)) (QaY x m0) ⟨x / m,y,z,Ab,Int.ediv_nonneg x0 (by omega),y0,y1,z0,by omega⟩ Af.upd⟩
 ·refine⟨(by show 7<=sizeLine;decide),λtp htp=>?_⟩;have nbt:b≠tp:=Ar hb htp;have hb1:∀o,(upd H tp o) b=some (.lst [.int x,.int y,.int z]):=λo=>by rw[Aj nbt];exact hb
  have ht1:∀o u,(upd (upd H tp o) b u) tp=some o:=λo u=>by rw[Aj nbt.symm,Ab]
  refine⟨_,rq,b,_,_,_,rq,rq,SqL.of (hb1 _),rq,_,_,rq,rq,_,rq,b,_,_,_,rq,rq,hb1 _,rq,?_⟩;refine⟨_,rq,b,_,_,_,rq,rq,SqL.of Ab,rq,?_⟩;have s0:0<=z+1:=by omega
  have s1:z+1<=10001:=by omega
  refine⟨_,rq,b,_,_,_,rq,rq,SqL.of Ab,rq,_,rq,_,_,rq,rq,.inl ⟨by decide,by decide⟩,_,_,rq,rq,_,_,rq,rq,.inl ⟨by omega,by omega⟩,_,rq,_,_,rq,rq,.inl ⟨by decide,by decide⟩,_,rq,_,_,rq,rq,.inr ⟨by omega,by omega⟩,
   _,_,rq,rq,_,_,rq,rq,?_⟩
  have hbase:(y*(2*(z+1)+1)+6007*(z+1)*(z+1)+29).natAbs < 2 ^ 64:=by
   have h1:0<=y*(2*(z+1)+1):=Int.mul_nonneg y0 (by omega);have h2:y*(2*(z+1)+1)<=4294967296*20003:=Int.mul_le_mul y1 (by omega) (by omega) (by omega);have h3:0<=6007*(z+1)*(z+1):=Int.mul_nonneg (by omega) s0;have h4:6007*(z+1)*(z+1)<=(6007*10001)*10001:=Int.mul_le_mul (by omega) s1 s0 (by omega);omega
  obtain⟨p1,e1,p10,p11⟩:=at7 (i:=(z+1) % 7) (QbJ _ (by decide)) (QaY _ (by decide)) (a:=2147483629) (b:=2147483587) (c:=2147483579) (d:=2147483563) (e:=2147483549) (f:=2147483543) (g:=2147483497)
   (λp=>0 < p/\p < 2147483648) (by decide) (by decide) (by decide) (by decide) (by decide) (by decide) (by decide)
  obtain⟨p2,e2,p20,p21⟩:=at7 (i:=(z+1+3) % 7) (QbJ _ (by decide)) (QaY _ (by decide)) (a:=2147483629) (b:=2147483587) (c:=2147483579) (d:=2147483563) (e:=2147483549) (f:=2147483543) (g:=2147483497)
   (λp=>0 < p/\p < 2147483648) (by decide) (by decide) (by decide) (by decide) (by decide) (by decide) (by decide)
  refine⟨_,rq,_,_,rq,rq,⟨by decide,by decide,hbase⟩,_,rq,_,rq,_,_,rq,rq,(by show (0:Int) < 7;decide),tp,_,_,_,rq,rq,SqT.of (ht1 _ _),e1,_,_,rq,rq,p10,?_⟩;generalize hF:(y*(2*(z+1)+1)+6007*(z+1)*(z+1)+29) ^ (3:Int).toNat % p1=F;have F0:0<=F:=by rw[<-hF];exact QbJ _ (by omega)
  have F1:F < p1:=by rw[<-hF];exact QaY _ p10
  refine⟨_,rq,_,rq,_,_,rq,rq,⟨by decide,by decide⟩,_,_,rq,rq,_,_,rq,rq,.inl ⟨by omega,by omega⟩,_,rq,_,rq,_,_,rq,rq,_,_,rq,rq,(by show (0:Int) < 7;decide),tp,_,_,_,rq,rq,SqT.of (ht1 _ _),e2,_,_,rq,rq,p20,
   _,_,rq,rq,⟨by decide,by decide⟩,_,rq,_,_,rq,rq,m0,?_⟩
  refine q _ _ (QbJ _ (by omega)) (QaY _ m0) ⟨x,y,z+1,Ab,x0,y0,y1,s0,by omega⟩ λc o e nc=>?_;rw[Aj nc,Aj (Ar e htp)];exact e
end
abbrev Jy:Stmt:=top 19
abbrev Hr:YF:=["_law_bag_here"]
abbrev xi:YF:=["_law_bag_here","_law_letters"]
theorem O9:Bf xi Hr (Al Jy):=by ac_rfl
abbrev Ia:Stmt:=top 20
abbrev Gy:YF:=["_law_bag_here","_law_many"]
abbrev xj:YF:=["_law_bag_here","_law_many","_law_found","_law_place","_law_name_here"]
theorem FP:Bf xj Gy (Al Ia):=by ac_rfl
def abc:Str:="abcdefghijklmnopqrstuvwxyz"
def okS (z:Str):Prop:=∀c∈z.cps.toList,c∈abc.cps.toList
theorem okS.ok {z:Str} (h:okS z):PyData.strOk z=true:=by
 have ha:abc.cps.toList.all (λc=>decide (c < 0x110000))=true:=by trivial
 unfold PyData.strOk;rw[Array.all_eq_true'];exact λc hc=>List.all_eq_true.mp ha c (h c (Array.mem_toList_iff.mpr hc))
theorem okS.append {x y:Str} (h:okS x) (h':okS y):okS (x++y):=by
 intro c hc;have:c∈x.cps.toList++y.cps.toList:=by
  have e:(x++y).cps=x.cps++y.cps:=rfl;rw[e,Array.toList_append] at hc;exact hc
 rcases Qbv.mp this with z | z
 ·exact h c z
 ·exact h' c z
theorem okS.slice {x:Str} (h:okS x) (l u:Option Int):okS (Txt.slice x l u):=by
 unfold Txt.slice;split
 ·exact h
 ·intro c hc;have hc':c∈(Builtin.Str.strSliceIndices l u 1 x.length).filterMap (x.cps[·]?):=by simpa using hc
  obtain⟨i,_,e⟩:=List.mem_filterMap.mp hc';exact h c (Array.mem_toList_iff.mpr (Array.mem_of_getElem? e))
theorem okS.join {sep:Str} (hs:okS sep):∀{ts:YF},(∀t∈ts,okS t)->okS (Str.join sep ts)
 | [],_=>λc hc=>by cases hc
 | [x],h=>h x (QaO ..)
 | x::y::r,h=>((h x (QaO ..)).append hs).append (okS.join hs (ts:=y::r) λt ht=>h t (QaC _ ht))
theorem La:abc.cps.toList.length=26:=by trivial
theorem cL:abc.cps.toList.Nodup:=by trivial
theorem WY:okS abc:=λc hc=>hc
theorem Rh:∀ts:YF,(Str.join "" ts).length=(ts.map (·.length)).sum
 | []=>rfl
 | [x]=>by show x.length=_;simp
 | x::y::r=>by
  show ((x++"")++Str.join "" (y::r)).length=_;rw[Str.length_append,Str.length_append,Rh (y::r),QbQ (a:=x),List.sum_cons];have:(Str.ofString "").length=0:=by trivial
  rw[this];omega
theorem gZ (n:Nat):(Builtin.Str.strSliceIndices (some 1) none 1 n).length<=n - 1:=by
 unfold Builtin.Str.strSliceIndices sliceRange;simp only[show (1:Int) > 0 by decide,if_true,Qbu,Qbi,show ¬((1:Int) < 0) by decide,Qcn];split
 ·rw[Int.ediv_one];omega
 ·exact Qcf _
theorem VB (z:Str):(Txt.slice z (some 1) none).length<=z.length - 1:=by
 have h:=gZ z.length;unfold Txt.slice;split
 ·rename_i hc;rw[Qbo] at hc;have:=eq_of_beq hc.2;omega
 ·show (List.filterMap _ _).toArray.size<=_;rw[Qbc];exact QbY (List.length_filterMap_le _ _) h
theorem cM {r:Int} (h0:0<=r) (h1:r < 26):∃c,atI abc.cps.toList r=some c/\okS ⟨#[c]⟩:=by
 have hl:r.toNat < abc.cps.toList.length:=by rw[La];omega
 refine⟨abc.cps.toList[r.toNat],?_,λc hc=>?_⟩
 ·have:=Bm (xs:=abc.cps.toList) (j:=r.toNat) (Qal hl);rw[Int.toNat_of_nonneg h0] at this;exact this
 ·have:c=abc.cps.toList[r.toNat]:=by simpa using hc
  rw[this];exact WY _ (Qbq hl)
theorem Qs:∀{ys:YF},(∀y∈ys,y.length=1)->(ys.map (·.length)).sum=ys.length
 | [],_=>rfl
 | y::r,h=>by
  rw[QbQ,List.sum_cons,h y (QaO ..),Qs (ys:=r) λt ht=>h t (QaC _ ht),Qbm];omega
theorem Eh (ys:YF):(ys.map V.str).all Gu=true:=by
 rw[List.all_map,List.all_eq_true];intro _ _;rfl
theorem Ci (z:Str):∀ys:YF,inV (.str z) (ys.map V.str)=true ↔ z∈ys
 | []=>by constructor <;> intro h <;> cases h
 | y::r=>by
  have ih:=Ci z r;unfold inV at ih ⊢;rw[QbQ,List.any_cons,Bool.or_eq_true,ih,QbP];have:eqV (.str y) (.str z)=true ↔ z=y:=by
   show (y == z)=true ↔ z=y;rw[beq_iff_eq];exact⟨λh=>h.symm,λh=>h.symm⟩
  rw[this]
theorem Du:∀{l m:YF},l.Nodup->(∀x∈l,x∈m)->l.length<=m.length
 | [],_,_,_=>Qcf _
 | a::r,m,nd,h=>by
  have ha:=h a (QaO ..);obtain⟨n1,n2⟩:=QbB.mp nd;have:=Du (l:=r) (m:=m.erase a) n2 λx hx=>(List.mem_erase_of_ne (λe=>n1 (by rw[<-e];exact hx))).mpr (h x (QaC _ hx));rw[List.length_erase_of_mem ha] at this;have hp:=List.length_pos_of_mem ha;rw[Qbm];omega
theorem Ss (rest:Str) {ys:YF} (h:ys.length < 26):∃(i c:Nat),abc.cps[i]?=some c/\((⟨#[c]⟩ : Str)++rest)∉ys:=by
 refine Qak λhn=>?_;have hall:∀x∈abc.cps.toList.map (λc=>(⟨#[c]⟩ : Str)++rest),x∈ys:=λx hx=>by
  obtain⟨c,hc,rfl⟩:=QbZ.mp hx;obtain⟨i,hi⟩:=QaE hc;refine Qak λhm=>hn ⟨i,c,by simpa using hi,hm⟩
 have nd:(abc.cps.toList.map (λc=>(⟨#[c]⟩ : Str)++rest)).Nodup:=by
  refine List.pairwise_map.mpr (cL.imp λ{c d} hne e=>hne ?_);have e1:(#[c]++rest.cps:Array Nat)=#[d]++rest.cps:=congrArg Str.cps e;have e2:=congrArg Array.toList e1;rw[Array.toList_append,Array.toList_append] at e2;injection e2
 have:=Du nd hall;rw[Qbu,La] at this;omega
theorem Qcm {α : Type} {l:List α} {i:Nat} {x:α} (h:l[i]?=some x):l.take (i+1)=l.take i++[x]:=by rw[List.take_add_one,h];rfl
theorem Af.YW {a b:Addr} {H HH H':Hp} (s:Af b H HH) (t:Af a HH H') (f:H a=none):Af b H H':=λc o e n=>t _ _ (s _ _ e n) λz=>by rw[z,f] at e;cases e
def Vy:Sp:=λvs H Q _=>∃(b:Addr) (n:Nat),vs=[.ref b]/\Bp H b n/\n<=9000/\∀z H',1<=z.length->z.length<=8->okS z->Bp H' b (n+9)->Af b H H'->Q (.str z) H'
def SQ:Sp:=λvs H Q _=>∃(b:Addr) (n many:Nat),vs=[.ref b,.int many]/\Bp H b n/\n<=8000/\many<=20 /\
 ∀l (ys:YF) H',H l=none->ys.length=many->(∀y∈ys,(1<=y.length/\y.length<=8)/\okS y)->ys.Nodup->H' l=some (.lst (ys.map V.str))->Bp H' b (n+9*many)->Af b H H'->Q (.ref l) H'
section
variable {P:Program} {w:World} {K:YD} {mg:YB} {base:Heap}
abbrev jp(a:PySem.Addr):Option L2.V:=some (.ref a)
abbrev xk:YF:=["_law_place","_law_letters","_law_bag_here"]
theorem ZC (C:Code K mg "_law_name" Jy Hr) (T:Nm mg) (Bl:Good P w K mg base "_law_take" 1 Fo Mv):Good P w K mg base "_law_name" 2 Hr Vy:=by
 refine C.good O9 (λvs H Q E h=>?_) (λf cdv A outer s H vs Q E hr h=>?_)
 ·obtain⟨b,n,rfl,_⟩:=h;rfl
 obtain⟨b,n,rfl,hb,hn,q⟩:=h;refine⟨_,(Ae (Aw (i:=1) O9.nd rfl (Or.inr rfl) Ax)
 (Ai (Ay (G5 PySem.F.plainAttrs_str PySem.F.slot_str_join PySem.F.type_str_join ZM Ax (Aa (Eo (N':=xk) rfl (Bo.of (src:=[none,some 1,some 0]) (Al Jy) xi rfl rfl rfl (by trivial) (by trivial) (by trivial) rfl (by trivial)) (Fx rfl T.range (Aa (Bb Dd Ag (Ba Bl hr (Aa (pv 0) (Aa Ag Ac)))) Ac)) (λ_ _ _ _=>(Ak (i:=0) (show List.Nodup (xk:YF) by trivial) rfl (Or.inl rfl))) (λ_ _ _ _=>Kg) (λ_ _ _ _=>(Bg bR (pv 1) (Ba Bl hr (Aa (pv 2) (Aa Ag Ac))) (λ_ _=>rfl)))) Ac))))),?_⟩
 refine⟨rq,_,rq,b,n,8,rq,hb,by omega,by decide,by decide,λr H1 r0 r1 hb1 sb1=>⟨_,_,rq,rq,_,rq,by omega,by omega,λl hl=>?_⟩⟩;have nbl:b≠l:=hb1.nb hl;have fl:H l=none:=sb1.free hb1.ex hl;refine U6 (λi U HH=>∃(u:Option V) (ys:YF),U=[u,some (.str abc),jp b]/\HH l=some (.lst (ys.map V.str))/\ys.length=i/\(∀y∈ys,y.length=1/\okS y)/\Bp HH b (n+1+i)/\Af b H HH)
  ⟨none,[],rq,Ab,rq,(λy hy=>by cases hy),hb1.same (Ad hl _),sb1.trans (Af.of (Ad hl _))⟩ (λi U HH hi h=>?_) (fun U HH h=>?_)
 ·obtain⟨u,ys,rfl,e1,e2,e3,e4,e5⟩:=h;refine⟨_,rq,_,rq,b,_,26,rq,e4,by omega,by decide,by decide,λr' HA r0' r1' hbA sA=>?_⟩;obtain⟨c,ec,oc⟩:=cM r0' r1';have eA:=sA _ _ e1 nbl.symm;refine⟨_,_,c,rq,rq,Ao (by show abc.cps.size<=1000;rw[<-QaH,La];decide),ec,_,eA,Av (by rw[Qbu];omega),_,ys++[⟨#[c]⟩],rq,?_,?_,λy hy=>?_,hbA.Mx Af.upd nbl,?_⟩
  ·rw[Ab,Qbx];rfl
  ·rw[QaM,e2];rfl
  ·rcases Qbv.mp hy with h | h
   ·exact e3 y h
   ·have:y=⟨#[c]⟩:=by simpa using h
    rw[this];exact⟨rq,oc⟩
  ·exact λc o e ne=>Af.upd _ _ (sA _ _ (e5 _ _ e ne) ne) λz=>by rw[z,fl] at e;cases e
 obtain⟨u,ys,rfl,e1,e2,e3,e4,e5⟩:=h;have hs:=Qs λy hy=>(e3 y hy).1;refine⟨_,l,ys,rq,rq,SqL.of e1,?_,?_⟩
 ·rw[hs];have:(Str.ofString "").length=0:=by trivial
  rw[this];omega
 ·have hj:=Rh ys;rw[hs] at hj;refine q _ HH ?_ ?_ ?_ (e4.mono (by omega)) e5
  ·show 1<=(Builtin.Str.glued _ ys).length;rw[StrLaws.glued_eq_join];show 1<=(Str.join "" ys).length;omega
  ·show (Builtin.Str.glued _ ys).length<=8;rw[StrLaws.glued_eq_join];show (Str.join "" ys).length<=8;omega
  ·show okS (Builtin.Str.glued _ ys);rw[StrLaws.glued_eq_join];exact okS.join (λc hc=>by cases hc) λy hy=>(e3 y hy).2
abbrev xl:YF:=["_law_one","_law_name_here","_law_found"]
theorem Xu (C:Code K mg "_law_names" Ia Gy) (T:Nm mg) (Ye:Good P w K mg base "_law_name" 2 Hr Vy):Good P w K mg base "_law_names" 3 Gy SQ:=by
 refine C.good FP (λvs H Q E h=>?_) (λf cdv A outer s H vs Q E hr h=>?_)
 ·obtain⟨b,n,many,rfl,_⟩:=h;rfl
 obtain⟨b,n,many,rfl,hb,hn,hm,q⟩:=h;refine⟨_,(Ae (Aw (i:=2) FP.nd rfl (Or.inr rfl) (Cg Ac))
 (Ae (BL Qbz rfl (Fx rfl T.range (Aa (pv 1) Ac)) (Ak (i:=3) FP.nd rfl (Or.inl rfl))
 (Ae (Aw (i:=4) FP.nd rfl (Or.inr rfl) (Ba Ye hr (Aa (pv 0) Ac)))
 (Ae (BX (Bd Ib (pv 4) (pv 2) (by with_unfolding_all rfl)) (Ai (Aw (i:=4) FP.nd rfl (Or.inr rfl) (Bg BP (Eo (N':=xl) rfl (Bo.of (src:=[none,some 4,some 2]) (Al Ia) xj rfl rfl rfl (by trivial) (by trivial) (by trivial) rfl (by trivial)) (aW Ax) (λ_ _ _ _=>(Ak (i:=0) (show List.Nodup (xl:YF) by trivial) rfl (Or.inl rfl))) (λ_ _ _ _=>(Gx (Bd (JV (K:=K) rfl) (Bb MN (pv 0) (Dy VD (pv 1) (Dm Ag) Gh)) (pv 2) (by with_unfolding_all rfl)))) (λ_ _ _ _=>(Bb MN (pv 0) (Dy VD (pv 1) (Dm Ag) Gh)))) Ag (λ_ _=>rfl)))) Bk)
 (Ai (Gg (G5 Qap Qam Qan FJ (pv 2) (Aa (pv 4) Ac)))))))
 (Ai (Ay (pv 2))))),?_⟩
 refine⟨Ao (by show 0<=1000;decide),λlf hlf=>?_⟩;have s1:=Ad hlf (.lst []);have nbf:b≠lf:=hb.nb hlf;refine⟨_,rq,_,rq,by omega,by omega,?_⟩;rw[Qbf];refine GJ (λi U HH=>∃(u3 u4:Option V) (ys:YF),U=[jp b,some (.int many),jp lf,u3,u4]/\HH lf=some (.lst (ys.map V.str))/\ys.length=i/\(∀y∈ys,(1<=y.length/\y.length<=8)/\okS y)/\Bp HH b (n+9*i)/\Af b H HH/\ys.Nodup)
  ⟨_,_,[],rq,Ab,rq,(λy hy=>by cases hy),hb.same s1,Af.of s1,QbN⟩ (λi U HH hi h=>?_) (fun U HH h=>?_)
 ·obtain⟨u3,u4,ys,rfl,e1,e2,e3,e4,e5,e6⟩:=h;refine⟨_,rq,b,_,rq,e4,by omega,λz HA hz1 hz oz hbA sA=>?_⟩;have eA:=sA _ _ e1 nbf.symm;have s5:Af b H HA:=e5.trans sA;have fin:∀(y:Str) (HB:Hp),(1<=y.length/\y.length<=8)->okS y->y∉ys->HB lf=some (.lst (ys.map V.str))->Bp HB b (n+9*i+9)->Af b H HB->∃(u3 u4:Option V) (ys':YF),[some (V.ref b),some (.int many),jp lf,some (.int (0+(i:Int))),some (.str y)]=[jp b,some (.int many),jp lf,u3,u4] /\
    upd HB lf (.lst (ys.map V.str++[.str y])) lf=some (.lst (ys'.map V.str))/\ys'.length=i+1/\(∀y∈ys',(1<=y.length/\y.length<=8)/\okS y)/\Bp (upd HB lf (.lst (ys.map V.str++[.str y]))) b (n+9*(i+1))/\Af b H (upd HB lf (.lst (ys.map V.str++[.str y])))/\ys'.Nodup:=λy HB hy oy hny hB bB sB=>by
   refine⟨_,_,ys++[y],rq,?_,?_,λx hx=>?_,(bB.Mx Af.upd nbf).mono (by omega),Af.YW sB Af.upd hlf,Jg e6 hny⟩
   ·rw[Ab,Qbx];rfl
   ·rw[QaM,e2];rfl
   ·rcases Qbv.mp hx with h | h
    ·exact e3 x h
    ·have:x=y:=by simpa using h
     rw[this];exact⟨hy,oy⟩
  refine⟨_,rq,_,rq,lf,_,rq,.inl (SqL.of eA),rq,Eh ys,_,rq,Uy (λ_=>?_) (λhnz=>?_)⟩
  ·refine⟨_,rq,λl2 hl2=>?_⟩;have nfl:lf≠l2:=Ar eA hl2;have hsl:(Txt.slice z (some 1) none).length<=7:=QbY (VB z) (by omega);have osl:=oz.slice (some 1) none;refine Yl (λi U HH=>∃(u:Option V) (ws:YF),U=[u,some (.str z),jp lf]/\HH=upd HA l2 (.lst (ws.map V.str))/\ws.length<=i/\(∀y∈ws,((1<=y.length/\y.length<=8)/\okS y)/\y∉ys)/\((∃j c,j < i/\abc.cps[j]?=some c/\((⟨#[c]⟩ : Str)++Txt.slice z (some 1) none)∉ys)->ws≠[]))
    ⟨none,[],rfl,rfl,Qce _,(λy hy=>by cases hy),λ⟨j,c,hj,_⟩=>absurd hj (QbH _)⟩ (λj c U HH hc h=>?_) (fun U HH h=>?_)
   ·obtain⟨u,ws,rfl,rfl,l1,l2',l3⟩:=h;have hj:j < 26:=by
     have:=(Qaf.mp hc).1;rw[<-QaH] at this;have e:=La;unfold abc at e;omega
    have oc:okS ⟨#[c]⟩:=λd hd=>by
     have:d=c:=by simpa using hd
     rw[this];exact WY c (Array.mem_toList_iff.mpr (Array.mem_of_getElem? hc))
    have hlen:(⟨#[c]⟩ : Str).length+(Txt.slice z (some 1) none).length<=sizeLine:=by
     show 1+_<=sizeLine;rw[sizeLine_eq];omega
    have hzl:z.length<=sizeLine:=by rw[sizeLine_eq];omega
    have eB:upd HA l2 (.lst (ws.map V.str)) lf=some (.lst (ys.map V.str)):=by rw[Aj nfl];exact eA
    refine⟨_,rq,_,rq,_,rq,_,rq,hzl,_,_,rq,rq,hlen,_,rq,lf,_,rq,.inl (SqL.of eB),rq,Eh ys,_,rq,Uy (λt=>?_) (λt=>?_)⟩
    ·refine⟨_,rq,_,rq,_,rq,_,rq,hzl,_,_,rq,rq,hlen,_,Ab,Av (by rw[Qbu];omega),_,ws++[(⟨#[c]⟩ : Str)++Txt.slice z (some 1) none],rq,?_,?_,λy hy=>?_,λ_ e=>?_⟩
     ·rw[Zh,Qbx];rfl
     ·rw[QaM];show _+1<=_;omega
     ·rcases Qbv.mp hy with h | h
      ·exact l2' y h
      ·have e:y=(⟨#[c]⟩ : Str)++Txt.slice z (some 1) none:=by simpa using h
       rw[e];refine⟨⟨⟨by rw[Str.length_append];show 1<=1+_;omega,by rw[Str.length_append];show 1+_<=8;omega⟩,oc.append osl⟩,λhin=>?_⟩;have t:(!inV (.str ((⟨#[c]⟩ : Str)++Txt.slice z (some 1) none)) (ys.map V.str))=true:=t;rw[(Ci _ ys).mpr hin] at t;cases t
     ·have:=congrArg List.length e;rw[QaM] at this;simp at this
    ·refine⟨_,ws,rfl,rfl,by omega,l2',λ⟨j',c',hj',hc',hn'⟩=>?_⟩;by_cases ej:j'=j
     ·subst ej;have ec:c'=c:=by
       have e1:abc.cps[j']?=some c:=hc;rw[hc'] at e1;exact Qby e1
      subst ec;exfalso;apply t;show (!inV (.str ((⟨#[c']⟩ : Str)++Txt.slice z (some 1) none)) (ys.map V.str))=true;cases e:inV (.str ((⟨#[c']⟩ : Str)++Txt.slice z (some 1) none)) (ys.map V.str) with
      | false=>rfl
      | true=>exact absurd ((Ci _ ys).mp e) hn'
     ·exact l3 ⟨j',c',by omega,hc',hn'⟩
   ·obtain⟨u,ws,rfl,rfl,l1,l2',l3⟩:=h;obtain⟨j,c,hc,hnot⟩:=Ss (Txt.slice z (some 1) none) (ys:=ys) (by omega);have hws:=l3 ⟨j,c,(Qaf.mp hc).1,hc,hnot⟩;cases ws with
    | nil=>exact absurd rfl hws
    | cons w0 wr=>
     obtain⟨⟨y1,y2⟩,y3⟩:=l2' w0 (QaO ..);have s2:=Ad hl2 (.lst ((w0::wr).map V.str));have eB:=s2 _ _ eA;refine⟨l2,_,_,_,rq,rq,SqL.of Ab,Bm (xs:=(w0::wr).map V.str) (j:=0) rfl,?_⟩;refine⟨_,rq,.inl ⟨rq,_,SqL.of eB⟩,_,rq,lf,_,_,rq,rq,eB,Av (by rw[Qbu];omega),?_⟩;exact fin w0 _ y1 y2 y3 eB (hbA.same s2) (s5.trans (Af.of s2))
  ·refine⟨_,rq,.inl ⟨rq,_,SqL.of eA⟩,_,rq,lf,_,_,rq,rq,eA,Av (by rw[Qbu];omega),?_⟩;exact fin z HA ⟨hz1,hz⟩ oz (λhin=>hnz ((Ci _ ys).mpr hin)) eA hbA s5
 ·obtain⟨u3,u4,ys,rfl,e1,e2,e3,e4,e5,e6⟩:=h;exact⟨_,rq,q lf ys HH hlf e2 e3 e6 e1 e4 e5⟩
end
structure Dev where
 kind:Str
 addr:Int
structure Place where
 kind:Str
 addr:Int
 spur:List Dev
def Qm (H:Hp) (v:V) (d:Dev):Prop:=∃t,v=.ref t/\H t=some (.tup [.str d.kind,.int d.addr])
def Jq (H:Hp) (v:V) (p:Place):Prop:=∃t u vs,v=.ref t/\H t=some (.tup [.str p.kind,.int p.addr,.ref u])/\H u=some (.tup vs)/\Paired (Qm H) vs p.spur
def LoopAt (H:Hp) (v:V) (ps:List Place):Prop:=∃t vs,v=.ref t/\H t=some (.tup vs)/\Paired (Jq H) vs ps
theorem Qm.tups {H H':Hp} (s:Aq H H') {v:V} {d:Dev} (h:Qm H v d):Qm H' v d:=by
 obtain⟨t,e,q⟩:=h;exact⟨t,e,s _ _ q⟩
theorem Jq.tups {H H':Hp} (s:Aq H H') {v:V} {d:Place} (h:Jq H v d):Jq H' v d:=by
 obtain⟨t,u,vs,e,q1,q2,q3⟩:=h;exact⟨t,u,vs,e,s _ _ q1,s _ _ q2,Paired.Bt q3 λ_ _ z=>z.tups s⟩
theorem LoopAt.tups {H H':Hp} (s:Aq H H') {v:V} {d:List Place} (h:LoopAt H v d):LoopAt H' v d:=by
 obtain⟨t,vs,e,q1,q2⟩:=h;exact⟨t,vs,e,s _ _ q1,Paired.Bt q2 λ_ _ z=>z.tups s⟩
theorem Paired.UW {α β : Type} {F:α->β->Prop}:∀{l₁ : List α} {l₂ : List β} {i:Nat} {x:α},Paired F l₁ l₂->l₁[i]?=some x->∃y,l₂[i]?=some y/\F x y
 | _,_,_,_,.nil,h=>by simp at h
 | _,_,0,_,.cons a _,h=>by simp at h;subst h;exact⟨_,rfl,a⟩
 | _,_,i+1,x,.cons _ t,h=>by
  obtain⟨y,h1,h2⟩:=Paired.UW (i:=i) (x:=x) t (by simpa using h);exact⟨y,by simpa using h1,h2⟩
theorem Paired.snoc {α β : Type} {F:α->β->Prop} {a:α} {b:β} (h:F a b):∀{l₁ : List α} {l₂ : List β},Paired F l₁ l₂->Paired F (l₁++[a]) (l₂++[b])
 | _,_,.nil=>.cons h .nil
 | _,_,.cons x t=>.cons x (Paired.snoc h t)
def GC (k:Str):Prop:=k="seeker"\/k="knob"\/k="bell"\/k="door"
structure OkP (p:Place):Prop where
 spur:p.spur.length<=3
 kinds:∀d∈p.spur,GC d.kind
 form:(p.kind="opener"/\p.addr=0/\p.spur=[])\/GC p.kind
structure Zone where
 name:Str
 adr:List Int
def RM (H:Hp) (v:V) (z:Zone):Prop:=∃t u,v=.ref t/\H t=some (.tup [.str z.name,.ref u])/\H u=some (.tup (z.adr.map V.int))
theorem RM.tups {H H':Hp} (s:Aq H H') {v:V} {z:Zone} (h:RM H v z):RM H' v z:=by
 obtain⟨t,u,e,q1,q2⟩:=h;exact⟨t,u,e,s _ _ q1,s _ _ q2⟩
theorem Paired.app {α β : Type} {F:α->β->Prop}:∀{l:List α} {m:List β} {l':List α} {m':List β},Paired F l m->Paired F l' m'->Paired F (l++l') (m++m')
 | _,_,_,_,.nil,t=>t
 | _,_,_,_,.cons a r,t=>.cons a (Paired.app r t)
structure OkL (ps:List Place):Prop where
 lo:1<=ps.length
 hi:ps.length<=12
 ok:∀p∈ps,OkP p
abbrev FQ:Stmt:=top 1
abbrev Dc:YF:=["loop","at","place"]
theorem Bu:Bf ["loop","at","place","kind","address","spur","told","number","spur_kind","spur_address"] Dc (Al FQ):=by ac_rfl
structure Sd where
 lp:Int
 at_:Int
 n:Int
 kind:Str
 addr:Int
def Gq (H:Hp) (v:V) (d:Sd):Prop:=∃t u,v=.ref t/\H t=some (.tup [.ref u,.str d.kind,.int d.addr])/\H u=some (.tup [.int d.lp,.int d.at_,.int d.n])
theorem Gq.tups {H H':Hp} (s:Aq H H') {v:V} {d:Sd} (h:Gq H v d):Gq H' v d:=by
 obtain⟨t,u,e,q1,q2⟩:=h;exact⟨t,u,e,s _ _ q1,s _ _ q2⟩
def Di (lp at_:Int):Nat->List Dev->List Sd
 | _,[]=>[]
 | n,d::r=>⟨lp,at_,n,d.kind,d.addr⟩::Di lp at_ (n+1) r
def DQ (lp at_:Int) (p:Place):List Sd:=if V.str p.kind=V.str "opener" then [] else ⟨lp,at_,0,p.kind,p.addr⟩::Di lp at_ 1 p.spur
theorem Li (lp at_:Int):∀(n:Nat) (ds:List Dev) (i:Nat) (d:Dev),ds[i]?=some d->Di lp at_ n (ds.take (i+1))=Di lp at_ n (ds.take i)++[⟨lp,at_,(n+i:Nat),d.kind,d.addr⟩]
 | n,[],i,d,h=>by simp at h
 | n,x::r,0,d,h=>by
  simp at h;subst h;simp[Di]
 | n,x::r,i+1,d,h=>by
  have h':r[i]?=some d:=by simpa using h
  have ih:=Li lp at_ (n+1) r i d h';rw[List.take_succ_cons,List.take_succ_cons];show _::Di lp at_ (n+1) (r.take (i+1))=(_::Di lp at_ (n+1) (r.take i))++_;rw[ih,show n+1+i=n+(i+1) by omega];rfl
structure Tx (K:YD) (mg:YB) (op oe:Addr):Prop extends Nm mg
def aJ:Sp:=λvs H Q _=>∃(lp at_:Int) (v:V) (p:Place),vs=[.int lp,.int at_,v]/\Jq H v p/\p.spur.length<=3/\∀l xs H',H l=none->H' l=some (.lst xs)->Paired (Gq H') xs (DQ lp at_ p)->Same H H'->Q (.ref l) H'
section
variable {P:Program} {w:World} {K:YD} {mg:YB} {base:Heap} {op oe:Addr}
theorem LC (c:Code K mg "place_devices" FQ Dc) (T:Tx K mg op oe):Good P w K mg base "place_devices" 1 Dc aJ:=by
 refine c.good Bu (λvs H Q E h=>?_) (λf cdv A outer s H vs Q E hr h=>?_)
 ·obtain⟨lp,at_,v,p,rfl,_⟩:=h;rfl
 obtain⟨lp,at_,v,p,rfl,⟨t,u,vs,rfl,ht,hu,hd⟩,h3,q⟩:=h;refine⟨_,(Ae (MJ (pv 2) (CG rfl (Am (Ak (i:=3) Bu.nd rfl (Or.inl rfl)) (Am (Ak (i:=4) Bu.nd rfl (Or.inl rfl)) (Am (Ak (i:=5) Bu.nd rfl (Or.inl rfl)) BK)))))
 (Ae (BX (Bd FW (pv 3) Ax (Bw _)) (Ai (Ay (Cg Ac))) Bk)
 (Ae (Aw (i:=6) Bu.nd rfl (Or.inl rfl) (Cg (Aa (Bc (Aa (Bc (Aa (pv 0) (Aa (pv 1) (Aa Ag Ac)))) (Aa (pv 3) (Aa (pv 4) Ac)))) Ac)))
 (Ae (BL Qbz rfl (QK rfl T.enumerate (pv 5) Ag) (CG rfl (Am (Ak (i:=7) Bu.nd rfl (Or.inl rfl)) (Am (CG rfl (Am (Ak (i:=8) Bu.nd rfl (Or.inl rfl)) (Am (Ak (i:=9) Bu.nd rfl (Or.inl rfl)) BK))) BK)))
 (Ai (Gg (G5 Qap Qam Qan FJ (pv 6) (Aa (Bc (Aa (Bc (Aa (pv 0) (Aa (pv 1) (Aa (pv 7) Ac)))) (Aa (pv 8) (Aa (pv 9) Ac)))) Ac)))))
 (Ai (Ay (pv 6))))))),?_⟩
 generalize hst:L2.start _ _=σ0;have e0:σ0=[some (.int lp),some (.int at_),jp t,none,none,none,none,none,none,none]:=hst.symm;clear hst;subst e0;refine⟨_,rq,t,_,rq,SqT.of ht,rq,_,_,rq,_,_,rq,_,_,rq,rq,?_⟩;simp only[QaX,QaW];refine⟨_,rq,rq,_,rq,?_⟩;by_cases ck:V.str p.kind=V.str "opener"
 ·rw[QbK ck];have e:DQ lp at_ p=[]:=if_pos ck;rw[e] at q;exact CP ⟨(by show 0<=sizeLine;decide),λl hl=>q l [] _ hl Ab .nil (Ad hl _)⟩
 ·rw[Qbw ck];have e:DQ lp at_ p=⟨lp,at_,0,p.kind,p.addr⟩::Di lp at_ 1 p.spur:=if_neg ck;rw[e] at q;refine Bx ⟨_,rq,_,rq,(by show 3<=sizeLine;decide),λus hus=>⟨_,rq,_,rq,(by show 3<=sizeLine;decide),λts hts=>⟨(by show 1<=sizeLine;decide),λl hl=>?_⟩⟩⟩;have s1:=Ad hus (.tup [.int lp,.int at_,.int 0]);have s2:=Ad hts (.tup [.ref us,.str p.kind,.int p.addr]);have s3:=Ad hl (.lst [.ref ts]);have sm:=s1.trans (s2.trans s3);have hl0:=s1.free (s2.free hl);have el:_=some (HO.lst [.ref ts]):=Ab (H:=upd (upd H us (.tup [.int lp,.int at_,.int 0])) ts (.tup [.ref us,.str p.kind,.int p.addr])) (a:=l) (o:=.lst [.ref ts]);have es:Gq _ (.ref ts) ⟨lp,at_,0,p.kind,p.addr⟩:=⟨ts,us,rq,s3 _ _ Ab,s3 _ _ (s2 _ _ Ab)⟩;generalize hX:upd (upd (upd H us (.tup [.int lp,.int at_,.int 0])) ts (.tup [.ref us,.str p.kind,.int p.addr])) l (.lst [.ref ts])=H1 at sm el es;simp only[QaX,QaW];have hu1:=sm _ _ hu;have sd0:Paired (Gq H1) [.ref ts] (⟨lp,at_,0,p.kind,p.addr⟩::Di lp at_ 1 (p.spur.take 0)):=.cons es .nil;have gD:vs.length=p.spur.length:=QbO hd;refine⟨_,rq,u,rq,⟨vs,SqT.of hu1⟩,Gp (xs:=vs) (lo:=1) (λi U HH=>∃ys u7 u8 u9,U=[some (.int lp),some (.int at_),jp t,some (.str p.kind),some (.int p.addr),jp u,jp l,u7,u8,u9]/\Af l H1 HH/\HH l=some (.lst ys)/\Paired (Gq HH) ys (⟨lp,at_,0,p.kind,p.addr⟩::Di lp at_ 1 (p.spur.take i))/\ys.length<=i+1)
   ⟨[.ref ts],_,_,_,rq,Af.refl l H1,el,sd0,Qce _⟩ (λi U HH _ h=>?_) (λi x pt U HH hx h hpt=>?_) (fun U HH h=>?_)⟩
  ·obtain⟨ys,_,_,_,_,sb,_⟩:=h;exact SqT.of (sb _ _ hu1 (λz=>by rw[z,el] at hu1;cases hu1))
  ·obtain⟨ys,u7,u8,u9,rfl,sb,hy,pd,ly⟩:=h;obtain⟨d,hdi,td,rfl,htd⟩:=Paired.UW hd hx;have nl:∀zs,H1 l≠some (.tup zs):=λzs z=>by rw[el] at z;cases z
   have nl2:∀zs,HH l≠some (.tup zs):=λzs z=>by rw[hy] at z;cases z
   have iz:=(sb.tup nl) _ _ (sm _ _ htd);have t0:=Ad hpt (.tup [.int ((1+i:Nat):Int),.ref td]);refine⟨pt,_,rq,SqT.of Ab,rq,_,_,rq,_,_,rq,td,_,rq,SqT.of (t0 _ _ iz),rq,_,_,rq,_,_,rq,rq,rq,?_⟩;simp only[QaX,QaW];have hy0:=t0 _ _ hy;refine⟨_,rq,.inl ⟨rq,_,SqL.of hy0⟩,_,rq,_,rq,_,rq,(by show 3<=sizeLine;decide),λus2 iu=>⟨_,rq,_,rq,(by show 3<=sizeLine;decide),λts2 iw=>?_⟩⟩;have t1:=Ad iu (.tup [.int lp,.int at_,.int ((1+i:Nat):Int)]);have t2:=Ad iw (.tup [.ref us2,.str d.kind,.int d.addr]);have hy2:=t2 _ _ (t1 _ _ hy0);have il:=(Qag.mp hx).1;refine⟨l,_,_,rq,rq,hy2,Av (by omega),?_⟩;refine⟨ys++[.ref ts2],_,_,_,rq,sb.trans ((Af.of (t0.trans (t1.trans t2))).trans Af.upd),Ab,?_,by rw[QaM];simp only[QaA];omega⟩;rw[Li lp at_ 1 p.spur i d hdi];have nlx:∀zs,(upd (upd (upd HH pt (.tup [.int ((1+i:Nat):Int),.ref td])) us2 (.tup [.int lp,.int at_,.int ((1+i:Nat):Int)])) ts2 (.tup [.ref us2,.str d.kind,.int d.addr])) l≠some (.tup zs):=λzs z=>by rw[hy2] at z;cases z
   have tt:=Aq.upd (o:=.lst (ys++[.ref ts2])) nlx;exact Paired.snoc (l₂:=_::Di lp at_ 1 (p.spur.take i)) ⟨ts2,us2,rq,tt _ _ Ab,tt _ _ (t2 _ _ Ab)⟩ (Paired.Bt pd λ_ _ z=>(z.tups (Aq.of (t0.trans (t1.trans t2)))).tups tt)
  ·obtain⟨ys,u7,u8,u9,rfl,sb,hy,pd,ly⟩:=h;rw[gD,Qbk] at pd;exact⟨_,rq,q l ys HH hl0 hy pd λc o e=>sb _ _ (sm _ _ e) (Ar e hl0)⟩
end
structure Sp3 where
 lp:Int
 at_:Int
 n:Int
def Sd.spot (d:Sd):Sp3:=⟨d.lp,d.at_,d.n⟩
def Ys (H:Hp) (v:V) (d:Sp3):Prop:=∃u,v=.ref u/\H u=some (.tup [.int d.lp,.int d.at_,.int d.n])
theorem Ys.tups {H H':Hp} (s:Aq H H') {v:V} {d:Sp3} (h:Ys H v d):Ys H' v d:=by
 obtain⟨u,e,q⟩:=h;exact⟨u,e,s _ _ q⟩
theorem ZQ {k:Str} (h:GC k):¬V.str k=V.str "opener":=by
 rcases h with rfl | rfl | rfl | rfl <;> decide +kernel
theorem Mu (lp at_:Int):∀(n:Nat) (ds:List Dev),(Di lp at_ n ds).length=ds.length
 | _,[]=>rfl
 | n,d::r=>by show (Di lp at_ (n+1) r).length+1=r.length+1;rw[Mu]
abbrev Ke:Stmt:=top 2
abbrev Fy:YF:=["plan"]
theorem Ek:Bf ["plan","told","loop","places","at","place"] Fy (Al Ke):=by ac_rfl
def up {α : Type} (f:Nat->List α) (i:Nat):List α:=(List.range i).flatMap f
theorem Iu {α : Type} (f:Nat->List α) (i:Nat):up f (i+1)=up f i++f i:=by
 unfold up;rw[List.range_succ,QaI];simp
theorem Nz {α : Type} (f:Nat->List α):up f 0=[]:=rfl
theorem J1 {α : Type} {f:Nat->List α} {c:Nat} (h:∀i,(f i).length<=c):∀i,(up f i).length<=c*i
 | 0=>Qce _
 | i+1=>by
  have:=J1 h i;have:=h i;rw[Iu,QaM,Nat.mul_succ];omega
def ifs {α β : Type} (o:Option α) (g:α->List β):List β:=match o with | none=>[] | some x=>g x
theorem Rk {α β : Type} {o:Option α} {g:α->List β} {x:α} (h:o=some x):ifs o g=g x:=by rw[h];rfl
structure Gt where
 lp:Int
 at_:Int
def Yv (H:Hp) (v:V) (d:Gt):Prop:=∃u,v=.ref u/\H u=some (.tup [.int d.lp,.int d.at_])
theorem Yv.tups {H H':Hp} (s:Aq H H') {v:V} {d:Gt} (h:Yv H v d):Yv H' v d:=by
 obtain⟨u,e,q⟩:=h;exact⟨u,e,s _ _ q⟩
def pd1 (lp:Int) (ps:List Place) (i:Nat):List Sd:=ifs ps[i]? λp=>DQ lp ((1+i:Nat):Int) p
abbrev YU:=List (List Place)
def pdL (ja:YU) (k:Nat):List Sd:=ifs ja[k]? λps=>up (pd1 k ps) ps.length
def st1 (lp:Int) (ps:List Place) (i:Nat):List Sp3:=ifs ps[i]? λp=>(List.range (p.spur.length+1)).map λn:Nat=>⟨lp,((1+i:Nat):Int),(n:Int)⟩
structure Mp (ja:YU):Prop where
 ok:∀ps∈ja,OkL ps
 hi:ja.length<=3
theorem Lj {lp a:Int} {p:Place} (h:OkP p):(DQ lp a p).length<=4:=by
 unfold DQ;have:=h.spur;split
 ·exact Qcf _
 ·rw[Qbm,Mu];omega
theorem Tg {lp:Int} {ps:List Place} (h:∀p∈ps,OkP p) (i:Nat):(pd1 lp ps i).length<=4:=by
 unfold pd1;cases e:ps[i]? with
 | none=>exact Qcf _
 | some p=>exact Lj (h p (QaB e))
theorem Tf {ja:YU} (h:Mp ja) (k:Nat):(pdL ja k).length<=48:=by
 unfold pdL;cases e:ja[k]? with
 | none=>exact Qcf _
 | some ps=>
  have o:=h.ok ps (QaB e);have:=J1 (Tg (lp:=k) o.ok) ps.length;have:=o.hi;show (up _ _).length<=48;omega
def EY (H:Hp) (pl:Addr) (ja:YU):Prop:=∃v0 v2 Ls vs,H pl=some (.tup [v0,.ref Ls,v2])/\H Ls=some (.tup vs)/\Paired (LoopAt H) vs ja
def Uj:Sp:=λvs H Q _=>∃(pl:Addr) (ja:YU),vs=[.ref pl]/\EY H pl ja/\Mp ja/\∀l xs H',H l=none->H' l=some (.lst xs)->Paired (Gq H') xs (up (pdL ja) ja.length)->Same H H'->Q (.ref l) H'
section
variable {P:Program} {w:World} {K:YD} {mg:YB} {base:Heap} {op oe:Addr}
theorem Us (c:Code K mg "devices" Ke Fy) (T:Tx K mg op oe) (Nk:Good P w K mg base "place_devices" 1 Dc aJ):Good P w K mg base "devices" 2 Fy Uj:=by
 refine c.good Ek (λvs H Q E h=>?_) (λf cdv A outer s H vs Q E hr h=>?_)
 ·obtain⟨pl,ja,rfl,_⟩:=h;rfl
 obtain⟨pl,ja,rfl,⟨v0,v2,Ls,vs,hpl,hLs,hlo⟩,ok,q⟩:=h;refine⟨_,(Ae (Aw (i:=1) Ek.nd rfl (Or.inl rfl) (Cg Ac))
 (Ae (BL Qbz rfl (JB rfl T.enumerate (Bg Ck (pv 0) Ag (λ_ _=>rfl))) (CG rfl (Am (Ak (i:=2) Ek.nd rfl (Or.inl rfl)) (Am (Ak (i:=3) Ek.nd rfl (Or.inl rfl)) BK)))
 (Ai (BL Qbz rfl (QK rfl T.enumerate (pv 3) Ag) (CG rfl (Am (Ak (i:=4) Ek.nd rfl (Or.inl rfl)) (Am (Ak (i:=5) Ek.nd rfl (Or.inl rfl)) BK)))
 (Ai (Gg (G5 Qap PySem.F.slot_list_extend PySem.F.type_list_extend Km (pv 1) (Aa (Ba Nk hr (Aa (pv 2) (Aa (pv 4) (Aa (pv 5) Ac)))) Ac)))))))
 (Ai (Ay (pv 1))))),?_⟩
 generalize hst:L2.start _ _=σ0;have e0:σ0=[jp pl,none,none,none,none,none]:=hst.symm;clear hst;subst e0;refine⟨Ao (by show 0<=1000;decide),λl fl=>?_⟩;simp only[QaX,QaW];have s1:=Ad fl (.lst []);have lvs:=QbO hlo;refine⟨_,rq,pl,_,_,_,rq,rq,SqT.of (s1 _ _ hpl),rq,Ls,rq,⟨vs,SqT.of (s1 _ _ hLs)⟩,?_⟩;refine Gp (xs:=vs) (lo:=0) (λi U HH=>∃(ys:YG) (u2 u3 u4 u5:Option V),U=[jp pl,jp l,u2,u3,u4,u5]/\Same H HH/\HH l=some (.lst ys)/\Paired (Gq HH) ys (up (pdL ja) i)) ⟨[],_,_,_,_,rq,s1,Ab,.nil⟩ (λi U HH _ h=>?_) (λi x pt U HH hx h hpt=>?_) (fun U HH h=>?_)
 ·obtain⟨ys,_,_,_,_,_,sm,_⟩:=h;exact SqT.of (sm _ _ hLs)
 ·obtain⟨ys,u2,u3,u4,u5,rfl,sm,hy,py⟩:=h;obtain⟨ps,hps,hL⟩:=Paired.UW hlo hx;obtain⟨t,ws,rfl,ht,hws⟩:=id hL;have okl:=ok.ok ps (QaB hps);have ek:pdL ja i=up (pd1 i ps) ps.length:=Rk hps;have lws:=QbO hws;have t0:=Ad hpt (.tup [.int ((0+i:Nat):Int),.ref t]);refine⟨pt,_,rq,SqT.of Ab,rq,_,_,rq,_,_,rq,rq,?_⟩;have sm0:=sm.trans t0;have hy0:=t0 _ _ hy;have py0:=Paired.Bt py λ_ _ (z:Gq HH _ _)=>z.tups (Aq.of t0);generalize upd HH pt (.tup [.int ((0+i:Nat):Int),.ref t])=HA at sm0 hy0 py0;simp only[QaX,QaW,Nat.zero_add];have hil:=(Qag.mp hps).1;have lu:=J1 (Tf ok) i;have hhi:=ok.hi;refine⟨_,rq,t,rq,⟨ws,SqT.of (sm0 _ _ ht)⟩,?_⟩;refine Gp (xs:=ws) (lo:=1) (λj U HJ=>∃(ys:YG) (u4 u5:Option V),U=[jp pl,jp l,some (.int (i:Int)),jp t,u4,u5]/\Same H HJ/\HJ l=some (.lst ys)/\Paired (Gq HJ) ys (up (pdL ja) i++up (pd1 i ps) j)) ⟨ys,_,_,rq,sm0,hy0,by rw[Nz,QbA];exact py0⟩ (λj U HJ _ h=>?_) (λj x pt U HJ hx h hpt=>?_) (fun U HJ h=>?_)
  ·obtain⟨ys,_,_,_,sj,_⟩:=h;exact SqT.of (sj _ _ ht)
  ·obtain⟨ys,u4,u5,rfl,sj,hyj,pj⟩:=h;obtain⟨p,hp,hP⟩:=Paired.UW hws hx;have okp:=okl.ok p (QaB hp);have ej:pd1 i ps j=DQ i ((1+j:Nat):Int) p:=Rk hp;have t1:=Ad hpt (.tup [.int ((1+j:Nat):Int),x]);refine⟨pt,_,rq,SqT.of Ab,rq,_,_,rq,_,_,rq,rq,?_⟩;simp only[QaX,QaW];have hjl:=(Qag.mp hp).1;have lj:=J1 (Tg (lp:=i) okl.ok) j;have lys:=QbO pj;rw[QaM] at lys;have h12:=okl.hi;refine⟨_,rq,.inl ⟨rq,_,SqL.of (t1 _ _ hyj)⟩,_,rq,_,rq,_,rq,(i:Int),((1+j:Nat):Int),x,p,rq,hP.tups (Aq.of (sj.trans t1)),okp.spur,λld xs' HB fld hld pdd sB=>?_⟩;have t2:=t1.trans sB;have hyB:=t2 _ _ hyj;have lx:=QbO pdd;have lpl:=Lj (lp:=i) (a:=((1+j:Nat):Int)) okp;refine⟨l,ld,_,_,rq,rq,hyB,hld,Ao (by omega),?_⟩;have n0:∀zs,HB l≠some (.tup zs):=λzs z=>by rw[hyB] at z;cases z
   have tt:=Aq.upd (o:=.lst (ys++xs')) n0;refine⟨ys++xs',_,_,rq,(sj.trans t2).CW Af.upd fl,Ab,?_⟩;rw[Iu,ej,<-List.append_assoc];exact Paired.app (Paired.Bt pj λ_ _ z=>(z.tups (Aq.of t2)).tups tt) (Paired.Bt pdd λ_ _ z=>z.tups tt)
  ·obtain⟨ys,u4,u5,rfl,sj,hyj,pj⟩:=h;exact⟨ys,_,_,_,_,rq,sj,hyj,by rw[Iu,ek,<-lws];exact pj⟩
 ·obtain⟨ys,u2,u3,u4,u5,rfl,sm,hy,py⟩:=h;rw[lvs] at py;exact⟨_,rq,q l ys HH fl hy py sm⟩
end
theorem Rm {i:Nat} {v:V} {U : St} {H:Hp} {Q:YO} (h:Q (U.set i (some v)) H):Qi i v U H Q:=h
theorem Cw {α β : Type} {F:α->β->Prop}:∀{l:List α} {m:List β} {i:Nat} {x:α},Paired F l m->l[i]?=some x->∃y,m[i]?=some y/\F x y
 | _,_,_,_,.nil,h=>by cases h
 | _,_,0,_,.cons a r,h=>by cases h;exact⟨_,rfl,a⟩
 | _,_,i+1,_,.cons a r,h=>Cw (i:=i) r h
theorem Bv.pair {H:Hp}:∀{xs:YG} {ds:List PyData},Bv H xs ds->Paired (Rep H) xs ds
 | _,_,.nil=>.nil
 | _,_,.cons a r=>.cons a (Bv.pair r)
mutual
theorem Rep.same {H H':Hp} (s:Same H H'):∀{v:V} {d:PyData},Rep H v d->Rep H' v d
 | _,_,.non=>.non
 | _,_,.bl b=>.bl b
 | _,_,.int i=>.int i
 | _,_,.str x=>.str x
 | _,_,.tup e r=>.tup (s _ _ e) (Bv.same s r)
 | _,_,.lst e r=>.lst (s _ _ e) (Bv.same s r)
theorem Bv.same {H H':Hp} (s:Same H H'):∀{vs:YG} {ds:List PyData},Bv H vs ds->Bv H' vs ds
 | _,_,.nil=>.nil
 | _,_,.cons a r=>.cons (Rep.same s a) (Bv.same s r)
end
theorem Bv.len {H:Hp} {xs:YG} {ds:List PyData} (h:Bv H xs ds):xs.length=ds.length:=QbO (Bv.pair h)
theorem Bv.at_ {H:Hp} {xs:YG} {ds:List PyData} (h:Bv H xs ds) {i:Nat} {x:V} (hx:xs[i]?=some x):∃d,ds[i]?=some d/\Rep H x d:=Cw (Bv.pair h) hx
theorem Om {b:Bool} {A B:Prop} (h1:b=true->A) (h2:b=false->B):if b=true then A else B:=by
 cases b with
 | true=>exact CP (h1 rfl)
 | false=>exact Bx (h2 rfl)
theorem ifS {a b:Str} {A B:Prop} (h1:a=b->A) (h2:a≠b->B):if decide (V.str a=V.str b)=true then A else B:=by
 by_cases h:a=b
 ·subst h;rw[QbK rfl];exact CP (h1 rfl)
 ·rw[Qbw (λz=>h (by injection z))];exact Bx (h2 h)
theorem Bv.app {H:Hp}:∀{xs ys:YG} {ds es:List PyData},Bv H xs ds->Bv H ys es->Bv H (xs++ys) (ds++es)
 | _,_,_,_,.nil,t=>t
 | _,_,_,_,.cons a r,t=>.cons a (Bv.app r t)
theorem Bv.mk {H:Hp}:∀{xs:YG} {ds:List PyData},Paired (Rep H) xs ds->Bv H xs ds
 | _,_,.nil=>.nil
 | _,_,.cons a r=>.cons a (Bv.mk r)
def onl (H:Hp):Hp:=λa=>match H a with
 | some (.tup xs)=>some (.tup xs)
 | _=>none
theorem Dr {H:Hp} {a:Addr} {xs:YG} (h:H a=some (.tup xs)):onl H a=some (.tup xs):=by unfold onl;rw[h]
theorem Ti {H:Hp} {a:Addr} {o:HO} (h:onl H a=some o):∃xs,o=.tup xs/\H a=some (.tup xs):=by
 unfold onl at h;split at h
 ·rename_i xs e;cases h;exact⟨xs,rq,e⟩
 ·cases h
theorem Xr {H H':Hp} (s:Aq H H'):Same (onl H) (onl H'):=λa o e=>by
 obtain⟨xs,rfl,h⟩:=Ti e;exact Dr (s _ _ h)
theorem Fv {H:Hp}:∀ys:YF,Bv H (ys.map V.str) (ys.map PyData.str)
 | []=>.nil
 | y::r=>.cons (.str y) (Fv r)
def S2 (b l:Addr) (H H':Hp):Prop:=∀c o,H c=some o->c≠b->c≠l->H' c=some o
theorem S2.refl (b l:Addr) (H:Hp):S2 b l H H:=λ_ _ e _ _=>e
theorem S2.trans {b l:Addr} {H H' H'':Hp} (s:S2 b l H H') (t:S2 b l H' H''):S2 b l H H'':=λc o e n1 n2=>t _ _ (s _ _ e n1 n2) n1 n2
theorem S2.l {b l:Addr} {H H':Hp} (s:Af b H H'):S2 b l H H':=λc o e n1 _=>s _ _ e n1
theorem S2.r {b l:Addr} {H H':Hp} (s:Af l H H'):S2 b l H H':=λc o e _ n2=>s _ _ e n2
theorem S2.of {b l:Addr} {H H':Hp} (s:Same H H'):S2 b l H H':=λc o e _ _=>s _ _ e
theorem S2.tup {b l:Addr} {H H':Hp} (s:S2 b l H H') (h1:∀xs,H b≠some (.tup xs)) (h2:∀xs,H l≠some (.tup xs)):Aq H H':=λc xs e=>s _ _ e (λz=>h1 xs (by rw[<-z];exact e)) (λz=>h2 xs (by rw[<-z];exact e))
theorem Ie {H:Hp} {l:Addr} {ys:YG} (h:H l=some (.lst ys)):∀xs,H l≠some (.tup xs):=λxs z=>by rw[h] at z;cases z
theorem Xi {X:Cx} {K:YD} {tg l:Expr} {tl:TE} (h:X.K=K) (hl:PE X l tl):PI X tg l (Y9 K tl):=h ▸ CV hl
theorem jj {α : Type} (xs:YG):Cr xs (some 1) none=xs.tail:=by
 unfold Cr;cases xs with
 | nil=>simp
 | cons x r=>
  rw[HT.Ly,show (some (1:Int))=some ((1:Nat):Int) from rfl,HT.NZ,Nat.min_eq_left (by rw[Qbm];omega)]
  rw[show (x::r).drop 1=r from rfl]
  exact List.take_of_length_le (by rw[Qbm];omega)
theorem Wm {K:YD} {H:Hp} {x:V} {T:String} {t:Value} {Q:VK} (ty:Ga K H x t) (k:PySem.W.kitOne K t (.type T)=some false) (q:Q (.bl false) H):N7 K [x,.ty T] H Q:=by
 unfold N7;exact⟨_,_,_,_,rq,ty,k,q⟩
theorem Oo {K:YD} {H:Hp} {a:Addr} {xs:YG} {Q:VK} (h:H a=some (.tup xs)) (q:Q (.bl true) H):N7 K [.ref a,.ty "tuple"] H Q:=by
 unfold N7;exact⟨_,_,_,_,rq,.tup h,by rfl,q⟩
def Dg {α : Type} (f:α->Key) (xs:List α):YM:=xs.map λx=>(f x,V.bl true)
theorem Kq {α : Type} {f:α->Key} {k:Key}:∀{xs:List α},(∀x∈xs,f x≠k)->BW (Dg f xs) k=none
 | [],_=>rfl
 | x::r,h=>by
  have:Dg f (x::r)=(f x,V.bl true)::Dg f r:=rfl;rw[this,Dv (p:=(f x,V.bl true)) (h x (QaO ..))];exact Kq λy hy=>h y (QaC _ hy)
theorem Uw {α : Type} {f:α->Key} {k:Key} {xs:List α} {x:α} (hx:x∈xs) (e:f x=k):(BW (Dg f xs) k).isSome=true:=by
 rw[<-Gd,List.any_eq_true];exact⟨_,QbZ.mpr ⟨x,hx,rq⟩,QbK e⟩
theorem Wh {α : Type} (f:α->Key) (xs:List α):(Dg f xs).length=xs.length:=Qbu ..
theorem Wg {α : Type} {f:α->Key} {xs:List α} {x:α} (h:∀y∈xs,f y≠f x):putK (Dg f xs) (f x) (.bl true)=Dg f (xs++[x]):=by
 rw[Jz _ (Kq h)];unfold Dg;rw[Qbx];rfl
theorem Gn {α β : Type} {f:α->Option β} {l:List α} {i:Nat} {x:α} (hx:l[i]?=some x) (h0:(l.take i).findSome? f=none) (hn:f x=none):(l.take (i+1)).findSome? f=none:=by
 rw[Qcm hx,List.findSome?_append,h0];simp[hn]
theorem Ku {α β : Type} {f:α->Option β} {l:List α} {i:Nat} {x:α} {r:β} (hx:l[i]?=some x) (h0:(l.take i).findSome? f=none) (hf:f x=some r):l.findSome? f=some r:=by
 have e:l=l.take (i+1)++l.drop (i+1):=(Qaz ..).symm;rw[e,List.findSome?_append,Qcm hx,List.findSome?_append,h0];simp[hf]
theorem Fi {n i:Nat} (h:i < n):(List.range n)[i]?=some i:=List.getElem?_range h
theorem G9 {α β : Type} {f:α->Option β} {l:List α} {n:Nat} (e:l.length=n) (h:(l.take n).findSome? f=none):l.findSome? f=none:=by
 rw[<-e,Qbk] at h;exact h
def Hy (H:Hp) (v:V):Option (YG)->Prop
 | none=>v=.non
 | some xs=>∃a,v=.ref a/\H a=some (.tup xs)/\xs≠[]
theorem Hy.same {H H':Hp} {v:V} {o:Option (YG)} (h:Hy H v o) (s:Same H H'):Hy H' v o:=by
 cases o with
 | none=>exact h
 | some xs=>
  obtain⟨a,e,h1,h2⟩:=h;exact⟨a,e,s _ _ h1,h2⟩
def orO (a b:Option (YG)):Option (YG):=match a with | some x=>some x | none=>b
theorem Jr {K:YD} {H:Hp} {v:V} {xs:YG} (h:Hy H v (some xs)):Oz K v H true:=by
 obtain⟨a,rfl,ha,n⟩:=h;refine .inr (.inl ⟨xs,SqT.of ha,?_⟩);cases xs with
 | nil=>exact absurd rfl n
 | cons x r=>rfl
theorem Js {K:YD} {H:Hp} {v:V} (h:Hy H v none):Oz K v H false:=by
 cases (show v=.non from h)
 exact rfl
inductive Cd where
 | off (n:Nat) (z:Str)
 | term (z:Str)
 | key (k:Nat)
 | hours (a b:Nat)
 | neg (c:Cd)
 | both (c d:Cd)
 | any (c d:Cd)
 | thn (c d:Cd) (n:Nat)
def Cd.data:Cd->PyData
 | .off n z=>.tuple [.str "of",.int n,.str z]
 | .term z=>.tuple [.str "term",.str z]
 | .key k=>.tuple [.str "key",.int k]
 | .hours a b=>.tuple [.str "hours",.int a,.int b]
 | .neg c=>.tuple [.str "not",c.data]
 | .both c d=>.tuple [.str "and",c.data,d.data]
 | .any c d=>.tuple [.str "or",c.data,d.data]
 | .thn c d n=>.tuple [.str "then",c.data,d.data,.int n]
def Cd.deep:Cd->Nat
 | .neg c=>c.deep+1
 | .both c d=>max c.deep d.deep+1
 | .any c d=>max c.deep d.deep+1
 | .thn c d _=>max c.deep d.deep+1
 | _=>1
def Cd.many:Cd->Nat
 | .neg c=>c.many+1
 | .both c d=>c.many+d.many+1
 | .any c d=>c.many+d.many+1
 | .thn c d _=>c.many+d.many+1
 | _=>1
def Cd.inn:Cd->List Cd
 | .neg c=>[c]
 | .both c d=>[c,d]
 | .any c d=>[c,d]
 | .thn c d _=>[c,d]
 | _=>[]
def Cd.lvs:Cd->List Cd
 | .neg c=>c.lvs
 | .both c d=>c.lvs++d.lvs
 | .any c d=>c.lvs++d.lvs
 | .thn c d _=>c.lvs++d.lvs
 | c=>[c]
def Cd.nam (w:Str):Cd->YF
 | .off _ z=>if w="of" then [z] else []
 | .term z=>if w="term" then [z] else []
 | .neg c=>c.nam w
 | .both c d=>c.nam w++d.nam w
 | .any c d=>c.nam w++d.nam w
 | .thn c d _=>c.nam w++d.nam w
 | _=>[]
theorem Cd.Zd (c:Cd):1<=c.deep:=by cases c <;> simp[Cd.deep]
theorem Cd.ZV (c:Cd):c.inn≠[]->c.lvs=c.inn.flatMap Cd.lvs:=by cases c <;> intro h <;> first | exact absurd rfl h | simp[Cd.inn,Cd.lvs]
theorem Cd.bF (c:Cd):c.inn=[]->c.lvs=[c]:=by cases c <;> intro h <;> first | rfl | cases h
theorem Cd.X5 {c d:Cd} (h:d∈c.inn):d.deep < c.deep:=by
 cases c <;> simp[Cd.inn] at h <;> simp only[Cd.deep] <;> first | (rcases h with rfl | rfl <;> omega) | (subst h;omega)
theorem Cd.Tq:∀c:Cd,c.lvs.length<=c.many:=by
 intro c
 induction c <;> simp only[Cd.lvs,Cd.many,QaM,QaA] <;> omega
theorem Cd.K7 (w:Str):∀c:Cd,(c.nam w).length<=c.many:=by
 intro c
 induction c <;> simp only[Cd.nam,Cd.many,QaM,List.length_nil] <;> first | omega | (split <;> simp)
theorem Cd.X4 {c:Cd}:(c.inn.map Cd.many).sum<=c.many:=by
 cases c <;> simp[Cd.inn,Cd.many] <;> omega
def Cd.nm1 (w:Str):Cd->YF
 | .off _ z=>if w="of" then [z] else []
 | .term z=>if w="term" then [z] else []
 | _=>[]
theorem Cd.Tp (w:Str):∀c:Cd,c.nam w=c.lvs.flatMap (Cd.nm1 w):=by
 intro c
 induction c with
 | off n z=>simp[Cd.nam,Cd.lvs,Cd.nm1]
 | term z=>simp[Cd.nam,Cd.lvs,Cd.nm1]
 | key k=>simp[Cd.nam,Cd.lvs,Cd.nm1]
 | hours a b=>simp[Cd.nam,Cd.lvs,Cd.nm1]
 | neg c ih=>exact ih
 | both c d ih1 ih2=>simp only[Cd.nam,Cd.lvs,QaI];rw[ih1,ih2]
 | any c d ih1 ih2=>simp only[Cd.nam,Cd.lvs,QaI];rw[ih1,ih2]
 | thn c d n ih1 ih2=>simp only[Cd.nam,Cd.lvs,QaI];rw[ih1,ih2]
def Cv (H:Hp) (t:Addr) (c:Cd):Prop:=Rep (onl H) (.ref t) c.data
theorem Cv.tups {H H':Hp} {t:Addr} {c:Cd} (s:Aq H H') (h:Cv H t c):Cv H' t c:=Rep.same (Xr s) h
theorem Cv.same {H H':Hp} {t:Addr} {c:Cd} (h:Cv H t c) (s:Same H H'):Cv H' t c:=h.tups (Aq.of s)
def CvV (H:Hp) (v:V) (c:Cd):Prop:=∃t,v=.ref t/\Cv H t c
theorem CvV.same {H H':Hp} {v:V} {c:Cd} (h:CvV H v c) (s:Same H H'):CvV H' v c:=by
 obtain⟨t,e,q⟩:=h;exact⟨t,e,q.same s⟩
theorem Fz {H:Hp} {a:Addr} {xs:YG} (h:onl H a=some (.tup xs)):H a=some (.tup xs):=by
 obtain⟨ys,e,q⟩:=Ti h;cases e;exact q
theorem cG (c:Cd):∃ds,c.data=.tuple ds:=by cases c <;> exact⟨_,rfl⟩
theorem Hl {H:Hp} {v:V} {c:Cd} (h:Rep (onl H) v c.data):CvV H v c:=by
 obtain⟨ds,e⟩:=cG c;have h':=h;rw[e] at h';cases h';exact⟨_,rq,h⟩
theorem Qj {H:Hp} {t:Addr} {c:Cd} (h:Cv H t c):∃(z:Str) (xr:YG),H t=some (.tup (.str z::xr)) /\
    ((z="not"/\∃a c1,c=.neg c1/\xr=[.ref a]/\Cv H a c1) \/
     (∃a b c1 c2 r,(z="and"/\c=.both c1 c2/\r=[]\/z="or"/\c=.any c1 c2/\r=[]\/z="then"/\∃n:Nat,c=.thn c1 c2 n/\r=[.int n])/\xr=.ref a::.ref b::r/\Cv H a c1/\Cv H b c2) \/
     (∃n:Nat,∃y:Str,z="of"/\c=.off n y/\xr=[.int n,.str y])\/(∃y:Str,z="term"/\c=.term y/\xr=[.str y]) \/
     (∃n:Nat,z="key"/\c=.key n/\xr=[.int n])\/(∃a b:Nat,z="hours"/\c=.hours a b/\xr=[.int a,.int b])):=by
  unfold Cv at h;cases c with
  | off n y=>
    cases h with
    | tup e r=>
    cases r with
    | cons r1 r=>
    cases r1;cases r with
    | cons r2 r=>
    cases r2;cases r with
    | cons r3 r=>
    cases r3;cases r;exact⟨_,_,Fz e,.inr (.inr (.inl ⟨n,y,rq,rq,rq⟩))⟩
  | term y=>
    cases h with
    | tup e r=>
    cases r with
    | cons r1 r=>
    cases r1;cases r with
    | cons r2 r=>
    cases r2;cases r;exact⟨_,_,Fz e,.inr (.inr (.inr (.inl ⟨y,rq,rq,rq⟩)))⟩
  | key n=>
    cases h with
    | tup e r=>
    cases r with
    | cons r1 r=>
    cases r1;cases r with
    | cons r2 r=>
    cases r2;cases r;exact⟨_,_,Fz e,.inr (.inr (.inr (.inr (.inl ⟨n,rq,rq,rq⟩))))⟩
  | hours n m=>
    cases h with
    | tup e r=>
    cases r with
    | cons r1 r=>
    cases r1;cases r with
    | cons r2 r=>
    cases r2;cases r with
    | cons r3 r=>
    cases r3;cases r;exact⟨_,_,Fz e,.inr (.inr (.inr (.inr (.inr ⟨n,m,rq,rq,rq⟩))))⟩
  | neg c1=>
    cases h with
    | tup e r=>
    cases r with
    | cons r1 r=>
    cases r1;cases r with
    | cons r2 r=>
    obtain⟨a,rfl,ca⟩:=Hl r2;cases r;exact⟨_,_,Fz e,.inl ⟨rq,a,c1,rq,rq,ca⟩⟩
  | both c1 c2=>
    cases h with
    | tup e r=>
    cases r with
    | cons r1 r=>
    cases r1;cases r with
    | cons r2 r=>
    obtain⟨a,rfl,ca⟩:=Hl r2;cases r with
    | cons r3 r=>
    obtain⟨b,rfl,cb⟩:=Hl r3;cases r;exact⟨_,_,Fz e,.inr (.inl ⟨a,b,c1,c2,[],.inl ⟨rq,rq,rq⟩,rq,ca,cb⟩)⟩
  | any c1 c2=>
    cases h with
    | tup e r=>
    cases r with
    | cons r1 r=>
    cases r1;cases r with
    | cons r2 r=>
    obtain⟨a,rfl,ca⟩:=Hl r2;cases r with
    | cons r3 r=>
    obtain⟨b,rfl,cb⟩:=Hl r3;cases r;exact⟨_,_,Fz e,.inr (.inl ⟨a,b,c1,c2,[],.inr (.inl ⟨rq,rq,rq⟩),rq,ca,cb⟩)⟩
  | thn c1 c2 n=>
    cases h with
    | tup e r=>
    cases r with
    | cons r1 r=>
    cases r1;cases r with
    | cons r2 r=>
    obtain⟨a,rfl,ca⟩:=Hl r2;cases r with
    | cons r3 r=>
    obtain⟨b,rfl,cb⟩:=Hl r3;cases r with
    | cons r4 r=>
    cases r4;cases r;exact⟨_,_,Fz e,.inr (.inl ⟨a,b,c1,c2,[.int n],.inr (.inr ⟨rq,n,rq,rq⟩),rq,ca,cb⟩)⟩
abbrev Hi:Stmt:=top 5
abbrev Ed:YF:=["condition"]
theorem PL:Bf ["condition"] Ed (Al Hi):=by ac_rfl
abbrev Lw:Stmt:=top 6
abbrev Fj:YF:=["condition"]
theorem Kc:Bf ["condition","inner"] Fj (Al Lw):=by ac_rfl
def Vz:Sp:=λvs H Q _=>∃t c,vs=[.ref t]/\Cv H t c/\∀p xs H',H' p=some (.tup xs)->Paired (CvV H') xs c.inn->Same H H'->Q (.ref p) H'
def Qf (D:Nat):Sp:=λvs H Q E=>∃t c,c.deep<=D/\vs=[.ref t]/\Cv H t c/\c.many<=400/\∀l xs H',H l=none->H' l=some (.lst xs)->Paired (CvV H') xs c.lvs->Same H H'->Q (.ref l) H'
theorem Paired.same {H H':Hp} (s:Same H H') {xs:YG} {cs:List Cd} (h:Paired (CvV H) xs cs):Paired (CvV H') xs cs:=Paired.Bt h λ_ _ z=>z.same s
theorem ZP {H:Hp} {t:Addr} {c:Cd} (h:Cv H t c) (hl:c.inn=[]) (w:Str) (hw:w="of"\/w="term"):∃(z:Str) (xr:YG),H t=some (.tup (.str z::xr))/\((z=w/\∃y,c.nm1 w=[y]/\atI (V.str z::xr) (-1)=some (.str y))\/(z≠w/\c.nm1 w=[])):=by
 obtain⟨z,xr,ht,h1⟩:=Qj h;refine⟨z,xr,ht,?_⟩;have d1:("of":Str)≠"term":=by trivial
 have d2:("key":Str)≠"of"/\("key":Str)≠"term"/\("hours":Str)≠"of"/\("hours":Str)≠"term":=by trivial
 rcases h1 with⟨rfl,a,c1,rfl,_⟩|⟨a,b,c1,c2,r,hc,_⟩|⟨n,y,rfl,rfl,rfl⟩|⟨y,rfl,rfl,rfl⟩|⟨n,rfl,rfl,rfl⟩|⟨a,b,rfl,rfl,rfl⟩
 ·cases hl
 ·rcases hc with⟨_,rfl,_⟩|⟨_,rfl,_⟩|⟨_,n,rfl,_⟩ <;> cases hl
 ·rcases hw with rfl | rfl
  ·exact .inl ⟨rq,y,rq,rq⟩
  ·exact .inr ⟨d1,rq⟩
 ·rcases hw with rfl | rfl
  ·exact .inr ⟨d1.symm,rq⟩
  ·exact .inl ⟨rq,y,rq,rq⟩
 ·rcases hw with rfl | rfl
  ·exact .inr ⟨d2.1,rq⟩
  ·exact .inr ⟨d2.2.1,rq⟩
 ·rcases hw with rfl | rfl
  ·exact .inr ⟨d2.2.2.1,rq⟩
  ·exact .inr ⟨d2.2.2.2,rq⟩
theorem XM:∀(c d:Cd),d∈c.lvs->d.inn=[]:=by
 intro c
 induction c <;> intro d h <;> simp only[Cd.lvs,Qbv,QaP] at h
 all_goals first
  | (subst h;rfl)
  | (rename_i ih;exact ih d h)
  | (rename_i ih1 ih2;exact h.elim (ih1 d) (ih2 d))
section
variable {P:Program} {w:World} {K:YD} {mg:YB} {base:Heap}
theorem Xw (c:Code K mg "inner_ones" Hi Ed) (T:Nm mg):Good P w K mg base "inner_ones" 1 Ed Vz:=by
 refine c.good PL (λvs H Q E h=>?_) (λf cdv A outer s H vs Q E hr h=>?_)
 ·obtain⟨t,c,rfl,_⟩:=h;rfl
 obtain⟨t,c,rfl,hc,q⟩:=h;refine⟨_,(Ae (BX (Bd FW (Bg Ck (pv 0) Ag (λ_ _=>rfl)) Ax (Bw _)) (Ai (Ay (Dy NQ (pv 0) (Dm Ag) (Dm Ag)))) Bk)
 (Ae (BX (Bd Ib (Bg Ck (pv 0) Ag (λ_ _=>rfl)) (Bc (Aa Ax (Aa Ax (Aa Ax Ac)))) (by with_unfolding_all rfl)) (Ai (Ay (Dy NQ (pv 0) (Dm Ag) (Dm Ag)))) Bk)
 (Ai (Ay (Bc Ac))))),?_⟩
 obtain⟨z,xr,ht,h1⟩:=Qj hc;have dn:("and":Str)≠"not"/\("or":Str)≠"not"/\("then":Str)≠"not":=by trivial
 refine⟨_,rq,t,_,_,_,rq,rq,SqT.of ht,Bm (j:=0) rfl,rq,_,rq,ifS (λe=>?_) (λe=>?_)⟩
 ·subst e;rcases h1 with⟨_,a,c1,rfl,rfl,ca⟩|⟨a,b,c1,c2,r,hc',_⟩|⟨n,y,e,_⟩|⟨y,e,_⟩|⟨n,e,_⟩|⟨a,b,e,_⟩
  ·refine⟨_,rq,_,rq,_,rq,t,_,rq,ht,λp H1 hp s1=>q p _ H1 hp ?_ s1⟩;exact .cons ⟨a,rq,ca.same s1⟩ .nil
  ·exfalso;rcases hc' with⟨e,_⟩|⟨e,_⟩|⟨e,_⟩
   ·exact dn.1 e.symm
   ·exact dn.2.1 e.symm
   ·exact dn.2.2 e.symm
  ·exact absurd e (by trivial)
  ·exact absurd e (by trivial)
  ·exact absurd e (by trivial)
  ·exact absurd e (by trivial)
 ·refine⟨_,rq,t,_,_,_,rq,rq,SqT.of ht,Bm (j:=0) rfl,Ao (by show 3<=1000;decide),λp hp=>?_⟩;have sp:=Ad hp (.tup [.str "and",.str "or",.str "then"]);have cp:upd H p (.tup [.str "and",.str "or",.str "then"]) p=some (.tup [.str "and",.str "or",.str "then"]):=Ab;generalize upd H p (.tup [.str "and",.str "or",.str "then"])=H1 at *;have ht1:=sp _ _ ht;refine⟨p,_,rq,.inr (SqT.of cp),rq,rq,_,rq,?_⟩;rcases h1 with⟨rfl,_⟩|⟨a,b,c1,c2,r,hc',rfl,ca,cb⟩|⟨n,y,rfl,rfl,rfl⟩|⟨y,rfl,rfl,rfl⟩|⟨n,rfl,rfl,rfl⟩|⟨a,b,rfl,rfl,rfl⟩
  ·exact absurd rfl e
  ·have ei:c.inn=[c1,c2]:=by rcases hc' with⟨_,rfl,_⟩|⟨_,rfl,_⟩|⟨_,n,rfl,_⟩ <;> rfl
   have hin:inV (V.str z) [.str "and",.str "or",.str "then"]=true:=by
    rcases hc' with⟨rfl,_⟩|⟨rfl,_⟩|⟨rfl,_⟩ <;> decide +kernel
   show if inV (V.str z) [.str "and",.str "or",.str "then"]=true then _ else _
   rw[hin];refine CP ⟨_,rq,_,rq,_,rq,t,_,rq,ht1,λp2 H2 hp2 s2=>q p2 [.ref a,.ref b] H2 ?_ ?_ (sp.trans s2)⟩
   ·rw[hp2];rfl
   ·rw[ei];exact .cons ⟨a,rq,(ca.same sp).same s2⟩ (.cons ⟨b,rq,(cb.same sp).same s2⟩ .nil)
  ·show if inV (V.str "of") [.str "and",.str "or",.str "then"]=true then _ else _
   rw[show inV (V.str "of") [.str "and",.str "or",.str "then"]=false by trivial];exact Bx ⟨Ao (by show 0<=1000;decide),λp2 hp2=>q p2 [] _ Ab .nil (sp.trans (Ad hp2 _))⟩
  ·show if inV (V.str "term") [.str "and",.str "or",.str "then"]=true then _ else _
   rw[show inV (V.str "term") [.str "and",.str "or",.str "then"]=false by trivial];exact Bx ⟨Ao (by show 0<=1000;decide),λp2 hp2=>q p2 [] _ Ab .nil (sp.trans (Ad hp2 _))⟩
  ·show if inV (V.str "key") [.str "and",.str "or",.str "then"]=true then _ else _
   rw[show inV (V.str "key") [.str "and",.str "or",.str "then"]=false by trivial];exact Bx ⟨Ao (by show 0<=1000;decide),λp2 hp2=>q p2 [] _ Ab .nil (sp.trans (Ad hp2 _))⟩
  ·show if inV (V.str "hours") [.str "and",.str "or",.str "then"]=true then _ else _
   rw[show inV (V.str "hours") [.str "and",.str "or",.str "then"]=false by trivial];exact Bx ⟨Ao (by show 0<=1000;decide),λp2 hp2=>q p2 [] _ Ab .nil (sp.trans (Ad hp2 _))⟩
abbrev xf:YF:=["part","leaf"]
theorem V7 (c:Code K mg "leaves" Lw Fj) (T:Nm mg) (Ro:Good P w K mg base "inner_ones" 1 Ed Vz):∀k,Good P w K mg base "leaves" (2+k) Fj (Qf k):=by
 have step:∀(D k':Nat) (sp':Sp),(∀t c H Q E,c.deep < D->Cv H t c->c.many<=400->(∀l xs H',H l=none->H' l=some (.lst xs)->Paired (CvV H') xs c.lvs->Same H H'->Q (.ref l) H')->sp' [.ref t] H Q E)->Good P w K mg base "leaves" k' Fj sp'->1<=k'->Good P w K mg base "leaves" (k'+1) Fj (Qf D):=λD k' sp' hsp Mf hk1=>by
  refine c.good Kc (λvs H Q E h=>?_) (λf cdv A outer s H vs Q E hr h=>?_)
  ·obtain⟨t,c,_,rfl,_⟩:=h;rfl
  obtain⟨t,c,hd,rfl,hc,h4,q⟩:=h;refine⟨_,(Ae (Aw (i:=1) Kc.nd rfl (Or.inl rfl) (Ba (hk:=hk1) Ro hr (Aa (pv 0) Ac)))
 (Ae (BX (Jb (QJ (pv 1) (λ_=>rfl))) (Ai (Ay (Cg (Aa (pv 0) Ac)))) Bk)
 (Ai (Ay (Xo (N':=xf) rfl (Bo.plain rfl (by trivial) (by trivial) (by trivial)) (Kf (pv 1)) (λ_ _ _ _=>(Ak (i:=0) (show List.Nodup (xf:YF) by trivial) rfl (Or.inl rfl))) (λ_ _ _ _=>(Xi (K:=K) rfl (Ba (hk:=Qce _) Mf hr (Aa (pv 0) Ac)))) (λ_ _ _ _=>(Ak (i:=1) (show List.Nodup (xf:YF) by trivial) rfl (Or.inl rfl))) (λ_ _ _ _=>(pv 1))))))),?_⟩
  refine⟨_,rq,t,c,rq,hc,λp xs H1 hp hx s1=>?_⟩;have lx:=QbO hx;refine⟨_,rq,_,.inr (.inl ⟨xs,SqT.of hp,rq⟩),?_⟩;by_cases hn:c.inn=[]
  ·have:xs=[]:=by
    rw[hn] at lx;exact List.length_eq_zero_iff.mp lx
   subst this;refine CP ⟨_,rq,Ao (by show 1<=1000;decide),λl hl=>q l [.ref t] _ (s1.free hl) Ab ?_ (s1.trans (Ad hl _))⟩;rw[Cd.bF c hn];exact .cons ⟨t,rq,(hc.same s1).same (Ad hl _)⟩ .nil
  ·have hne:xs.isEmpty=false:=by
    cases xs with
    | nil=>exact absurd (List.length_eq_zero_iff.mp lx.symm) hn
    | cons _ _=>rfl
   rw[hne];refine Bx ⟨_,rq,p,rq,⟨_,SqT.of hp⟩,λln hln=>?_⟩;have sn:=Ad hln (.lst []);have ll:=Cd.Tq c;rw[Cd.ZV c hn] at q ll;have lim:∀j,((c.inn.take j).flatMap Cd.lvs).length<=400:=λj=>by
    have e:c.inn=c.inn.take j++c.inn.drop j:=(Qaz ..).symm;have:(c.inn.flatMap Cd.lvs).length=((c.inn.take j).flatMap Cd.lvs).length+((c.inn.drop j).flatMap Cd.lvs).length:=by
     conv=>lhs;rw[e]
     rw[QaI,QaM]
    omega
   refine WL (xs:=xs) (λj U HX=>∃(u1 u2:Option V) (ys:YG),U=[u1,u2]/\HX ln=some (.lst ys)/\Paired (CvV HX) ys ((c.inn.take j).flatMap Cd.lvs)/\Same H1 HX) ⟨_,_,[],rq,Ab,.nil,sn⟩ (λj U HX _ h=>?_) (λj x U HX hx' h=>?_) (fun U HX h=>?_)
   ·obtain⟨u1,u2,ys,rfl,f1,f2,f3⟩:=h;exact SqT.of (f3 _ _ hp)
   ·obtain⟨u1,u2,ys,rfl,f1,f2,f3⟩:=h;obtain⟨d,hdi,a,rfl,ca⟩:=Cw hx hx';have md:=QaB hdi;have dd:=Cd.X5 md;have dm:d.many<=400:=by
     have:=Cd.X4 (c:=c);have h2:d.many<=(c.inn.map Cd.many).sum:=by
      have:∀(l:List Cd),d∈l->d.many<=(l.map Cd.many).sum:=by
       intro l
       induction l with
       | nil=>intro h;cases h
       | cons x r ih=>
        intro h;rw[QbQ,List.sum_cons];rcases QbP.mp h with rfl | h
        ·omega
        ·have:=ih h;omega
      exact this _ md
     omega
    refine⟨_,rq,hsp a d HX _ _ (by omega) (ca.same f3) dm λl ts H3 hl ht hts s3=>?_⟩;have j8:=QbO hts;have fne:l≠ln:=λz=>by rw[z,f1] at hl;cases hl
    have lt:=lim (j+1);have et:(c.inn.take (j+1)).flatMap Cd.lvs=(c.inn.take j).flatMap Cd.lvs++d.lvs:=by
     rw[Qcm hdi,QaI];simp
    rw[et,QaM] at lt;have ly:=QbO f2;refine⟨l,rq,⟨_,SqL.of ht⟩,?_⟩;refine Yn (xs:=ts) (λk U HZ=>∃(u2:Option V),U=[jp a,u2]/\HZ ln=some (.lst (ys++ts.take k))/\Af ln H3 HZ) ⟨_,rq,?_,Af.refl _ _⟩ (λk U HZ _ h=>?_) (λk y U HZ hy h=>?_) (fun U HZ h=>?_)
    ·rw[List.take_zero,QbA];exact s3 _ _ f1
    ·obtain⟨u2,rfl,g1,g2⟩:=h;exact SqL.of (g2 _ _ ht fne)
    ·obtain⟨u2,rfl,g1,g2⟩:=h;have hk:=(Qag.mp hy).1;refine⟨_,rq,_,g1,Av (by rw[QaM,Qbl];omega),_,rq,?_,g2.trans Af.upd⟩;rw[Ab,Qcm hy,List.append_assoc]
    ·obtain⟨u2,rfl,g1,g2⟩:=h;rw[Qbk] at g1;have fl0:H1 ln=none:=hln;have sz:Same H1 HZ:=λb o e=>g2 _ _ (s3 _ _ (f3 _ _ e)) (Ar e fl0);have tz:Aq H3 HZ:=g2.tup λzs z=>by rw[s3 _ _ f1] at z;cases z
     refine⟨_,_,ys++ts,rq,g1,?_,sz⟩;rw[et];refine Paired.app (Paired.Bt f2 λ_ _ zz=>?_) (Paired.Bt hts λ_ _ ⟨b,e,z⟩=>⟨b,e,z.tups tz⟩);obtain⟨b,e,z⟩:=zz;exact⟨b,e,(z.same s3).tups tz⟩
   ·obtain⟨u1,u2,ys,rfl,f1,f2,f3⟩:=h;rw[lx,Qbk] at f2;exact q ln ys HX (s1.free hln) f1 f2 (s1.trans f3)
 intro k
 induction k with
 | zero=>
  refine c.good Kc (λvs H Q E h=>?_) (λf cdv A outer s H vs Q E hr h=>?_)
  ·obtain⟨t,c,_,rfl,_⟩:=h;rfl
  ·obtain⟨t,c,hd,_⟩:=h;exact absurd (Cd.Zd c) (by omega)
 | succ k ih=>
  exact step (k+1) (2+k) (Qf k) (λt c H Q E hd hc hm q=>⟨t,c,by omega,rq,hc,hm,q⟩) ih (by omega)
end
end K24
namespace K24
open PySem L2
abbrev G3:Stmt:=top 7
abbrev Dz:YF:=["condition","word"]
theorem R5:Bf Dz Dz (Al G3):=by ac_rfl
def Qe:Sp:=λvs H Q _=>∃t c z,vs=[.ref t,.str z]/\(z="of"\/z="term")/\Cv H t c/\c.deep<=6/\c.many<=400/\∀l H',H l=none->H' l=some (.lst ((c.nam z).map V.str))->Same H H'->Q (.ref l) H'
section
variable {P:Program} {w:World} {K:YD} {mg:YB} {base:Heap}
theorem R8 (c:Code K mg "names_in" G3 Dz) (T:Nm mg) (Mf:Good P w K mg base "leaves" 8 Fj (Qf 6)):Good P w K mg base "names_in" 9 Dz Qe:=by
 refine c.good R5 (λvs H Q E h=>?_) (λf cdv A outer s H vs Q E hr h=>?_)
 ·obtain⟨t,c,z,rfl,_⟩:=h;rfl
 obtain⟨t,c,z,rfl,hz,hc,hd,hm,q⟩:=h;refine⟨_,(Ai (Ay (Eo (N':=["leaf","word"]) rfl (Bo.of (src:=[none,some 1]) (Al G3) Dz rfl rfl rfl (by trivial) (by trivial) (by trivial) rfl (by trivial)) (CV (Ba Mf hr (Aa (pv 0) Ac))) (λ_ _ _ _=>(Ak (i:=0) (show List.Nodup (["leaf","word"]:YF) by trivial) rfl (Or.inl rfl))) (λ_ _ _ _=>(Gx (Bd FW (Bg (K9 (K:=K) rfl) (pv 0) Ag (λ_ _=>rfl)) (pv 1) (Bw _)))) (λ_ _ _ _=>(Bg (K9 (K:=K) rfl) (pv 0) (Y7 Vo Ag) (λ_ _=>rfl)))))),?_⟩;refine⟨_,rq,t,c,hd,rq,hc,hm,λl xs H1 hl hx hp s1=>⟨l,rq,⟨_,SqL.of hx⟩,λl2 hl2=>?_⟩⟩;have lx:=QbO hp;have ll:=Cd.Tq c;have ln:∀i,((c.lvs.take i).flatMap (Cd.nm1 z)).length<=400:=λi=>by
  have e:c.lvs=c.lvs.take i++c.lvs.drop i:=(Qaz ..).symm;have h1:=Cd.K7 z c;rw[Cd.Tp,e,QaI,QaM] at h1;omega
 refine GK (xs:=xs) (λi U HX=>∃u,U=[u,some (.str z)]/\HX l2=some (.lst (((c.lvs.take i).flatMap (Cd.nm1 z)).map V.str))/\Same H1 HX) ⟨_,rq,Ab,Ad hl2 _⟩ (λi U HX _ h=>?_) (λi x U HX hx' h=>?_) (fun U HX h=>?_)
 ·obtain⟨u,rfl,f1,f2⟩:=h;exact SqL.of (f2 _ _ hx)
 ·obtain⟨u,rfl,f1,f2⟩:=h;obtain⟨d,hdi,a,rfl,ca⟩:=Cw hp hx';obtain⟨y,xr,ht,h1⟩:=ZP (ca.same f2) (XM c d (QaB hdi)) z hz;have et:(c.lvs.take (i+1)).flatMap (Cd.nm1 z)=(c.lvs.take i).flatMap (Cd.nm1 z)++Cd.nm1 z d:=by
   rw[Qcm hdi,QaI];simp
  refine⟨_,rq,a,_,_,_,rq,rq,SqT.of ht,Bm (j:=0) rfl,_,rq,rq,_,rq,ifS (λe=>?_) (λe=>?_)⟩
  ·rcases h1 with⟨_,y2,e2,e3⟩|⟨e2,_⟩
   ·refine⟨_,rq,_,rq,a,_,_,_,rq,rq,SqT.of ht,e3,_,f1,Av (by rw[Qbu];have:=ln i;omega),_,rq,?_,f2.CW Af.upd hl2⟩;rw[Ab,et,e2,Qbx];rfl
   ·exact absurd e e2
  ·rcases h1 with⟨e2,_⟩|⟨_,e2⟩
   ·exact absurd e2 e
   ·refine⟨_,rq,?_,f2⟩;rw[et,e2,QbA];exact f1
 ·obtain⟨u,rfl,f1,f2⟩:=h;rw[lx,Qbk,<-Cd.Tp] at f1;exact q l2 HX (s1.free hl2) f1 (s1.trans f2)
end
abbrev Kd:Stmt:=top 21
abbrev Dt:YF:=["_law_condition","_law_word"]
theorem GZ:Bf ["_law_condition","_law_word","_law_found","_law_part"] Dt (Al Kd):=by ac_rfl
def IW (D:Nat):Sp:=λvs H Q E=>∃t c z,c.deep<=D/\vs=[.ref t,.str z]/\(z="of"\/z="term")/\Cv H t c/\c.many<=400/\∀l H',H l=none->H' l=some (.lst ((c.nam z).map V.str))->Same H H'->Q (.ref l) H'
def KH (H:Hp) (v:V):Option Cd->Prop
 | some c=>CvV H v c
 | none=>(∃i,v=.int i)\/∃y,v=.str y
def Gi (z:Str):Option Cd->YF
 | some c=>c.nam z
 | none=>[]
theorem KH.same {H H':Hp} (s:Same H H') {v:V} {o:Option Cd} (h:KH H v o):KH H' v o:=by
 cases o with
 | none=>exact h
 | some c=>exact CvV.same h s
theorem Yk {H:Hp} {t:Addr} {c:Cd} (h:Cv H t c) (w:Str) (hw:w="of"\/w="term"):∃(z:Str) (xr:YG),H t=some (.tup (.str z::xr))/\(z=w->∃y,c.nam w=[y]/\atI (V.str z::xr) (-1)=some (.str y)) /\
  (z≠w->∃ps,Paired (KH H) xr ps/\c.nam w=ps.flatMap (Gi w)/\∀d,some d∈ps->d.deep < c.deep/\d.many<=c.many):=by
 obtain⟨z,xr,ht,h1⟩:=Qj h;refine⟨z,xr,ht,?_⟩;have no:("not":Str)≠"of"/\("not":Str)≠"term"/\("and":Str)≠"of"/\("and":Str)≠"term"/\("or":Str)≠"of"/\("or":Str)≠"term"/\("then":Str)≠"of"/\("then":Str)≠"term":=by trivial
 have d2:("key":Str)≠"of"/\("key":Str)≠"term"/\("hours":Str)≠"of"/\("hours":Str)≠"term":=by trivial
 have NE:∀a:Str,a≠"of"->a≠"term"->a≠w:=λa h1 h2=>by rcases hw with rfl | rfl <;> assumption
 rcases h1 with⟨rfl,a,c1,rfl,rfl,ca⟩|⟨a,b,c1,c2,r,hc,rfl,ca,cb⟩|⟨n,y,rfl,rfl,rfl⟩|⟨y,rfl,rfl,rfl⟩|⟨n,rfl,rfl,rfl⟩|⟨a,b,rfl,rfl,rfl⟩
 ·refine⟨λe=>absurd e (NE _ no.1 no.2.1),λ_=>⟨[some c1],.cons ⟨a,rq,ca⟩ .nil,by simp[Cd.nam,Gi],λd hd=>?_⟩⟩;have:d=c1:=by simpa using hd
  subst this;exact⟨by simp[Cd.deep],by simp[Cd.many]⟩
 ·have key:z≠w/\∃rs,Paired (KH H) r rs/\rs.flatMap (Gi w)=[]/\(∀d,some d∉rs)/\c.nam w=c1.nam w++c2.nam w/\(c1.deep < c.deep/\c1.many<=c.many)/\(c2.deep < c.deep/\c2.many<=c.many):=by
   rcases hc with⟨rfl,rfl,rfl⟩|⟨rfl,rfl,rfl⟩|⟨rfl,n,rfl,rfl⟩
   ·exact⟨NE _ no.2.2.1 no.2.2.2.1,[],.nil,rq,(λd h=>by cases h),rq,⟨by simp only[Cd.deep];omega,by simp only[Cd.many];omega⟩,⟨by simp only[Cd.deep];omega,by simp only[Cd.many];omega⟩⟩
   ·exact⟨NE _ no.2.2.2.2.1 no.2.2.2.2.2.1,[],.nil,rq,(λd h=>by cases h),rq,⟨by simp only[Cd.deep];omega,by simp only[Cd.many];omega⟩,⟨by simp only[Cd.deep];omega,by simp only[Cd.many];omega⟩⟩
   ·exact⟨NE _ no.2.2.2.2.2.2.1 no.2.2.2.2.2.2.2,[none],.cons (.inl ⟨_,rq⟩) .nil,rq,(λd h=>by simp at h),rq,⟨by simp only[Cd.deep];omega,by simp only[Cd.many];omega⟩,⟨by simp only[Cd.deep];omega,by simp only[Cd.many];omega⟩⟩
  obtain⟨k1,rs,k2,k3,k4,k5,k6,k7⟩:=key;refine⟨λe=>absurd e k1,λ_=>⟨some c1::some c2::rs,.cons ⟨a,rq,ca⟩ (.cons ⟨b,rq,cb⟩ k2),?_,λd hd=>?_⟩⟩
  ·rw[List.flatMap_cons,List.flatMap_cons,k3,QbA,k5];rfl
  ·rcases QbP.mp hd with e | hd
   ·cases e;exact k6
   ·rcases QbP.mp hd with e | hd
    ·cases e;exact k7
    ·exact absurd hd (k4 d)
 ·refine⟨λe=>⟨y,if_pos e.symm,rq⟩,λe=>⟨[none,none],.cons (.inl ⟨_,rq⟩) (.cons (.inr ⟨_,rq⟩) .nil),if_neg (λz=>e z.symm),λd hd=>by simp at hd⟩⟩
 ·refine⟨λe=>⟨y,if_pos e.symm,rq⟩,λe=>⟨[none],.cons (.inr ⟨_,rq⟩) .nil,if_neg (λz=>e z.symm),λd hd=>by simp at hd⟩⟩
 ·exact⟨λe=>absurd e (NE _ d2.1 d2.2.1),λ_=>⟨[none],.cons (.inl ⟨_,rq⟩) .nil,rq,λd hd=>by simp at hd⟩⟩
 ·exact⟨λe=>absurd e (NE _ d2.2.2.1 d2.2.2.2),λ_=>⟨[none,none],.cons (.inl ⟨_,rq⟩) (.cons (.inl ⟨_,rq⟩) .nil),rq,λd hd=>by simp at hd⟩⟩
section
variable {P:Program} {w:World} {K:YD} {mg:YB} {base:Heap}
theorem Ur (c:Code K mg "_law_named" Kd Dt) (T:Nm mg):∀k,Good P w K mg base "_law_named" (1+k) Dt (IW k):=by
 have step:∀(D k':Nat) (sp':Sp),(∀(t:Addr) (c:Cd) (z:Str) (H:Hp) (Q:VK) (E:XK),c.deep < D->(z="of"\/z="term")->Cv H t c->c.many<=400->(∀l H',H l=none->H' l=some (.lst ((c.nam z).map V.str))->Same H H'->Q (.ref l) H')->sp' [.ref t,.str z] H Q E)->Good P w K mg base "_law_named" k' Dt sp'->Good P w K mg base "_law_named" (k'+1) Dt (IW D):=λD k' sp' hsp GF=>by
  refine c.good GZ (λvs H Q E h=>?_) (λf cdv A outer s H vs Q E hr h=>?_)
  ·obtain⟨t,c,z,_,rfl,_⟩:=h;rfl
  obtain⟨t,c,z,hd,rfl,hz,hc,h4,q⟩:=h;refine⟨_,(Ae (BX (Bd FW (Bg Ck (pv 0) Ag (λ_ _=>rfl)) (pv 1) (Bw _)) (Ai (Ay (Cg (Aa (Bg Ck (pv 0) (Y7 Vo Ag) (λ_ _=>rfl)) Ac)))) Bk)
 (Ae (Aw (i:=2) GZ.nd rfl (Or.inl rfl) (Cg Ac))
 (Ae (BL Qbz rfl (Kf (Dy NQ (pv 0) (Dm Ag) Gh)) (Ak (i:=3) GZ.nd rfl (Or.inl rfl))
 (Ai (BX (Hq (Bs Mi rfl T.isinstance GX (Aa (pv 3) (Aa (Oa (v:=.ty "tuple") rfl T.tuple Fp rfl) Ac)))) (Ai (Gg (G5 Qap PySem.F.slot_list_extend PySem.F.type_list_extend Km (pv 2) (Aa (Ba (hk:=Qce _) GF hr (Aa (pv 3) (Aa (pv 1) Ac))) Ac)))) Bk)))
 (Ai (Ay (pv 2)))))),?_⟩
  obtain⟨y,xr,ht,h1,h2⟩:=Yk hc z hz;refine⟨_,rq,t,_,_,_,rq,rq,SqT.of ht,Bm (j:=0) rfl,_,rq,rq,_,rq,ifS (λe=>?_) (λe=>?_)⟩
  ·obtain⟨y2,e1,e2⟩:=h1 e;exact⟨_,rq,_,rq,t,_,_,_,rq,rq,SqT.of ht,e2,Ao (by show 1<=1000;decide),λl hl=>q l _ hl (by rw[e1];exact Ab) (Ad hl _)⟩
  obtain⟨ps,hp,e1,e2⟩:=h2 e;have lp:=QbO hp;have nl:=Cd.K7 z c;rw[e1] at q nl;have lim:∀j,((ps.take j).flatMap (Gi z)).length<=400:=λj=>by
   have e:ps=ps.take j++ps.drop j:=(Qaz ..).symm;have:(ps.flatMap (Gi z)).length=((ps.take j).flatMap (Gi z)).length+((ps.drop j).flatMap (Gi z)).length:=by
    conv=>lhs;rw[e]
    rw[QaI,QaM]
   omega
  refine⟨Ao (by show 0<=1000;decide),λlf hlf=>?_⟩;have sf:=Ad hlf (.lst []);have cf:upd H lf (.lst []) lf=some (.lst []):=Ab;generalize upd H lf (.lst [])=H1 at *;refine⟨_,rq,_,rq,t,_,rq,sf _ _ ht,λp H2 hp2 s2=>⟨p,rq,⟨_,SqT.of hp2⟩,?_⟩⟩;rw[jj (α:=Unit)] at hp2;have hp2:H2 p=some (.tup xr):=hp2;have s02:=sf.trans s2;refine ZW (xs:=xr) (λi U HX=>∃u,U=[jp t,some (.str z),jp lf,u]/\HX lf=some (.lst (((ps.take i).flatMap (Gi z)).map V.str))/\Af lf H2 HX) ⟨_,rq,s2 _ _ cf,Af.refl _ _⟩ (λi U HX _ h=>?_) (λi x U HX hx' h=>?_) (fun U HX h=>?_)
  ·obtain⟨u,rfl,f1,f2⟩:=h;exact SqT.of (f2 _ _ hp2 (λe=>by rw[e,s2 _ _ cf] at hp2;cases hp2))
  ·obtain⟨u,rfl,f1,f2⟩:=h;obtain⟨o,ho,hv⟩:=Cw hp hx';have et:(ps.take (i+1)).flatMap (Gi z)=(ps.take i).flatMap (Gi z)++Gi z o:=by
    rw[Qcm ho,QaI];simp
   have tX:Aq H2 HX:=f2.tup λzs zz=>by rw[s2 _ _ cf] at zz;cases zz
   cases o with
   | none=>
    have e0:Gi z none=[]:=rfl;rw[e0,QbA] at et;rcases hv with⟨n,rfl⟩|⟨n,rfl⟩
    ·exact⟨_,rq,Wm (.int n) (by rfl) ⟨_,rq,Bx ⟨_,rq,by rw[et];exact f1,f2⟩⟩⟩
    ·exact⟨_,rq,Wm (.str n) (by rfl) ⟨_,rq,Bx ⟨_,rq,by rw[et];exact f1,f2⟩⟩⟩
   | some d=>
    obtain⟨a,rfl,ca⟩:=hv;obtain⟨dd,dm⟩:=e2 d (QaB ho);have ca2:Cv HX a d:=(ca.same s02).tups tX;obtain⟨as,ha⟩ : ∃xs,HX a=some (.tup xs):=by
     obtain⟨_,_,ha,_⟩:=Qj ca2;exact⟨_,ha⟩
    refine⟨_,rq,Oo ha ⟨_,rq,CP ?_⟩⟩;refine⟨_,rq,.inl ⟨rq,_,SqL.of f1⟩,_,rq,_,rq,hsp a d z HX _ _ (by omega) hz ca2 (by omega) λl H3 hl hll s3=>?_⟩;have ne:lf≠l:=Ar f1 hl;have lt:=lim (i+1);rw[et,QaM] at lt;refine⟨lf,l,_,_,rq,rq,s3 _ _ f1,hll,(by rw[Qbu,Qbu];exact Ao (by have:(Gi z (some d)).length=(d.nam z).length:=rfl;omega)),?_⟩;refine⟨_,rq,?_,(f2.trans (Af.of s3)).trans Af.upd⟩;rw[Ab,et,Qbx];rfl
  ·obtain⟨u,rfl,f1,f2⟩:=h;rw[lp,Qbk] at f1;exact⟨_,rq,q lf HX hlf f1 λb o eb=>f2 _ _ (s02 _ _ eb) (Ar eb hlf)⟩
 intro k
 induction k with
 | zero=>
  refine c.good GZ (λvs H Q E h=>?_) (λf cdv A outer s H vs Q E hr h=>?_)
  ·obtain⟨t,c,z,_,rfl,_⟩:=h;rfl
  ·obtain⟨t,c,z,hd,_⟩:=h;exact absurd (Cd.Zd c) (by omega)
 | succ k ih=>
  exact step (k+1) (1+k) (IW k) (λt c z H Q E hd hz hc hm q=>⟨t,c,z,by omega,rq,hz,hc,hm,q⟩) ih
end
abbrev Jw:Stmt:=top 8
abbrev Er:YF:=["rules"]
theorem R4:Bf ["rules"] Er (Al Jw):=by ac_rfl
inductive Ru where
 | term (z:Str) (c:Cd)
 | sound (n:Nat) (c:Cd)
def Ru.data:Ru->PyData
 | .term z c=>.tuple [.str "term",.str z,c.data]
 | .sound n c=>.tuple [.str "sound",.int n,c.data]
def Ru.c:Ru->Cd
 | .term _ c=>c
 | .sound _ c=>c
def Ru.word:Ru->Str
 | .term _ _=>"term"
 | .sound _ _=>"sound"
def Ru.call:Ru->Key
 | .term z _=>.inr z
 | .sound n _=>.inl n
def trm (rs:List Ru):List (Str×Cd):=rs.filterMap λr=>match r with | .term z c=>some (z,c) | .sound _ _=>none
def RuV (H:Hp) (v:V) (r:Ru):Prop:=∃t a,v=.ref t/\H t=some (.tup [.str r.word,kV r.call,.ref a])/\Cv H a r.c
theorem RuV.tups {H H':Hp} {v:V} {r:Ru} (s:Aq H H') (h:RuV H v r):RuV H' v r:=by
 obtain⟨t,a,e,h1,h2⟩:=h;exact⟨t,a,e,s _ _ h1,h2.tups s⟩
theorem RuV.same {H H':Hp} {v:V} {r:Ru} (h:RuV H v r) (s:Same H H'):RuV H' v r:=h.tups (Aq.of s)
def Fq (H:Hp) (t:Addr) (rs:List Ru):Prop:=∃xs,H t=some (.tup xs)/\Paired (RuV H) xs rs
theorem Fq.tups {H H':Hp} {t:Addr} {rs:List Ru} (s:Aq H H') (h:Fq H t rs):Fq H' t rs:=by
 obtain⟨xs,h1,h2⟩:=h;exact⟨xs,s _ _ h1,Paired.Bt h2 λ_ _ z=>z.tups s⟩
theorem Fq.same {H H':Hp} {t:Addr} {rs:List Ru} (h:Fq H t rs) (s:Same H H'):Fq H' t rs:=h.tups (Aq.of s)
def Hz (rs:List Ru):Prop:=rs.length<=16/\∀r∈rs,r.c.deep<=6/\r.c.many<=400
def TmV (H:Hp) (kv:Key×V) (p:Str×Cd):Prop:=kv.1=.inr p.1/\CvV H kv.2 p.2
theorem TmV.tups {H H':Hp} {kv:Key×V} {p:Str×Cd} (s:Aq H H') (h:TmV H kv p):TmV H' kv p:=by
 obtain⟨e,a,e2,h2⟩:=h;exact⟨e,a,e2,h2.tups s⟩
theorem SM {H:Hp}:∀{kvs:YM} {ts:List (Str×Cd)},Paired (TmV H) kvs ts->kvs.map (·.1)=ts.map λp=>.inr p.1
 | _,_,.nil=>rfl
 | _,_,.cons a r=>by rw[QbQ,QbQ,a.1,SM r]
theorem tm_val {H:Hp} {z:Str}:∀{kvs:YM} {ts:List (Str×Cd)},Paired (TmV H) kvs ts->(∀p∈ts,p.1≠z)->BW kvs (.inr z)=none
 | _,_,.nil,_=>rfl
 | _,_,.cons (a:=kv) (b:=p) a r,h=>by
  rw[Dv (λe=>h p (QaO ..) (by rw[a.1] at e;exact Qcg e))];exact tm_val r λq hq=>h q (QaC _ hq)
theorem G8 {rs:List Ru} {i:Nat} {r:Ru} (h:rs[i]?=some r):trm (rs.take (i+1))=trm (rs.take i)++trm [r]:=by
 unfold trm;rw[Qcm h,Qax]
theorem Iw {rs:List Ru} {p:Str×Cd} (h:p∈trm rs):Ru.term p.1 p.2∈rs:=by
 unfold trm at h;obtain⟨r,hr,e⟩:=List.mem_filterMap.mp h;cases r with
 | term z c=>cases e;exact hr
 | sound n c=>cases e
def Ui:Sp:=λvs H Q _=>∃t rs,vs=[.ref t]/\Fq H t rs/\Hz rs/\((trm rs).map (·.1)).Nodup/\∀d kvs H',H d=none->H' d=some (.dK kvs)->Paired (TmV H') kvs (trm rs)->Same H H'->Q (.ref d) H'
section
variable {P:Program} {w:World} {K:YD} {mg:YB} {base:Heap}
abbrev xa:YF:=["word","name","condition"]
theorem R7 (c:Code K mg "terms_of" Jw Er) (T:Nm mg):Good P w K mg base "terms_of" 1 Er Ui:=by
 refine c.good R4 (λvs H Q E h=>?_) (λf cdv A outer s H vs Q E hr h=>?_)
 ·obtain⟨t,rs,rfl,_⟩:=h;rfl
 obtain⟨t,rs,rfl,⟨xs,ht,hp⟩,⟨h16,_⟩,nd,q⟩:=h;refine⟨_,(Ai (Ay (Xn (N':=xa) rfl (Bo.plain rfl (by trivial) (by trivial) (by trivial)) (Kf (pv 0)) (λ_ _ _ _=>(K4 (K:=K) (n:=3) rfl rfl (Am (Ak (i:=0) (show List.Nodup (xa:YF) by trivial) rfl (Or.inl rfl)) (Am (Ak (i:=1) (show List.Nodup (xa:YF) by trivial) rfl (Or.inl rfl)) (Am (Ak (i:=2) (show List.Nodup (xa:YF) by trivial) rfl (Or.inl rfl)) BK))))) (λ_ _ _ _=>(Gx (Bd FW (pv 0) Ax (Bw _)))) (λ_ _ _ _=>(pv 1)) (λ_ _ _ _=>(pv 2))))),?_⟩;have lx:=QbO hp;refine⟨_,rq,t,rq,⟨_,SqT.of ht⟩,λd hd=>?_⟩;have ndt:∀i r,rs[i]?=some r->∀z c,r=.term z c->∀p∈trm (rs.take i),p.1≠z:=λi r hi z c hr p hp' e=>by
  subst hr;have e1:trm rs=trm (rs.take (i+1))++trm (rs.drop (i+1)):=by
   unfold trm;rw[<-Qax,Qaz]
  rw[e1,G8 hi,Qbx,Qbx] at nd;have:=(List.nodup_append.mp (List.nodup_append.mp nd).1).2.2 p.1 (QbZ.mpr ⟨p,hp',rq⟩) z (by simp[trm]);exact this e
 refine Ky (xs:=xs) (λi U HH=>∃u1 u2 u3 kvs,U=[u1,u2,u3]/\HH d=some (.dK kvs)/\Paired (TmV H) kvs (trm (rs.take i))/\Same H HH) ⟨_,_,_,[],rq,Ab,.nil,Ad hd _⟩ (λi U HH _ h=>?_) (λi x U HH hx h=>?_) (fun U HH h=>?_)
 ·obtain⟨u1,u2,u3,kvs,rfl,e1,e2,e3⟩:=h;exact SqT.of (e3 _ _ ht)
 ·obtain⟨u1,u2,u3,kvs,rfl,e1,e2,e3⟩:=h;obtain⟨r,hri,tr,a,rfl,h1,h2⟩:=Cw hp hx;have lk:=QbO e2;have l16:(trm (rs.take i)).length<=16:=by
   have:=List.length_filterMap_le (λr:Ru=>match r with | .term z c=>some (z,c) | .sound _ _=>none) (rs.take i)
   rw[Qbl] at this;unfold trm;omega
  refine⟨tr,_,rq,SqT.of (e3 _ _ h1),rq,_,_,rq,_,_,rq,_,_,rq,rq,?_⟩;refine⟨_,rq,rq,_,rq,?_⟩;cases r with
  | term z c=>
   refine ifS (λ_=>?_) (λe=>absurd rfl e);have nv:=tm_val e2 (ndt i _ hri z c rfl);refine⟨_,rq,_,rq,kvs,Sum.inr z,e1,rq,Av (by omega),_,_,_,_,rq,Ab,?_,e3.CW Af.upd hd⟩;rw[Jz _ nv,G8 hri];exact Paired.app e2 (.cons ⟨rq,a,rq,h2⟩ .nil)
  | sound n c=>
   refine ifS (λe=>absurd e (by show ¬(("sound":Str)="term");decide +kernel)) (λ_=>?_);refine⟨_,_,_,kvs,rq,e1,?_,e3⟩;rw[G8 hri];have:trm [Ru.sound n c]=[]:=rfl;rw[this,QbA];exact e2
 ·obtain⟨u1,u2,u3,kvs,rfl,e1,e2,e3⟩:=h;rw[lx,Qbk] at e2;exact q d kvs HH hd e1 (Paired.Bt e2 λ_ _ z=>z.tups (Aq.of e3)) e3
end
abbrev Dw:Stmt:=top 9
abbrev CJ:YF:=["terms"]
abbrev xm:YF:=["terms","known","step","name","condition"]
theorem Cu:Bf xm CJ (Al Dw):=by ac_rfl
def kS (z:Str):Key:=.inr z
theorem Pj {z:Str} {kn:YF}:(BW (Dg kS kn) (.inr z)).isSome=decide (z∈kn):=by
 by_cases h:z∈kn
 ·rw[QbK h];exact Uw h rfl
 ·rw[Qbw h,Kq λy hy e=>h (by rw[<-Qcg e];exact hy)];rfl
theorem QH {kvs:YM} {k:Key} {v:V} (h:∀kv∈kvs,kv.2=v) (hk:(BW kvs k).isSome=true):putK kvs k v=kvs:=by
 unfold putK;rw[Gd,hk,if_pos rfl];have:∀kv∈kvs,(if kv.1=k then (kv.1,v) else kv)=kv:=λkv hkv=>by
  split
  ·rw[<-h kv hkv]
  ·rfl
 rw[List.map_congr_left this,List.map_id']
def Gj (kn:YF) (z:Str):YF:=if z∈kn then kn else kn++[z]
theorem Wi {kn:YF} {z:Str}:putK (Dg kS kn) (.inr z) (.bl true)=Dg kS (Gj kn z):=by
 unfold Gj;by_cases h:z∈kn
 ·rw[if_pos h];refine QH (λkv hkv=>?_) (by rw[Pj,QbK h]);unfold Dg at hkv;obtain⟨y,_,rfl⟩:=QbZ.mp hkv;rfl
 ·rw[if_neg h];exact Wg (f:=kS) λy hy e=>h (by rw[<-(Qcg e:y=z)];exact hy)
def Dl (kn:YF) (p:Str×Cd):YF:=if (p.2.nam "term").all (λo=>decide (o∈kn))=true then Gj kn p.1 else kn
def rnd (ts:List (Str×Cd)) (kn:YF):YF:=ts.foldl Dl kn
def CK (ts:List (Str×Cd)):Nat->YF
 | 0=>[]
 | n+1=>rnd ts (CK ts n)
def DG (ts:List (Str×Cd)):YF:=CK ts ts.length
theorem Xa {ts:List (Str×Cd)} {i:Nat} {p:Str×Cd} (kn:YF) (h:ts[i]?=some p):rnd (ts.take (i+1)) kn=Dl (rnd (ts.take i) kn) p:=by
 unfold rnd;rw[Qcm h,List.foldl_append];rfl
theorem bT {kn:YF} {z:Str} (h:kn.Nodup):(Gj kn z).Nodup:=by
 unfold Gj;split
 ·exact h
 ·rename_i n;exact Jg h n
theorem TF {kn:YF} {z x:Str} (h:x∈Gj kn z):x∈kn\/x=z:=by
 unfold Gj at h;split at h
 ·exact .inl h
 ·rcases Qbv.mp h with h | h
  ·exact .inl h
  ·exact .inr (by simpa using h)
theorem Zo {kn:YF} {p:Str×Cd} (h:kn.Nodup):(Dl kn p).Nodup:=by
 unfold Dl;split
 ·exact bT h
 ·exact h
theorem Xb {kn:YF} {p:Str×Cd} {x:Str} (h:x∈Dl kn p):x∈kn\/x=p.1:=by
 unfold Dl at h;split at h
 ·exact TF h
 ·exact .inl h
def Knw (ns:YF) (kn:YF):Prop:=kn.Nodup/\∀x∈kn,x∈ns
theorem Knw.step {ns kn:YF} {p:Str×Cd} (h:Knw ns kn) (hp:p.1∈ns):Knw ns (Dl kn p):=⟨Zo h.1,λx hx=>(Xb hx).elim (h.2 x) λe=>e ▸ hp⟩
theorem Knw.len {ns kn:YF} (h:Knw ns kn):kn.length<=ns.length:=Du h.1 h.2
theorem Ux (kn:YF):(Dg kS kn).map (λkv=>kV kv.1)=kn.map V.str:=by
 unfold Dg;rw[List.map_map];rfl
def Y0:Sp:=λvs H Q _=>∃d kvs ts,vs=[.ref d]/\H d=some (.dK kvs)/\Paired (TmV H) kvs ts/\ts.length<=16/\(∀p∈ts,p.2.deep<=6/\p.2.many<=400)/\∀l H',H l=none->H' l=some (.lst ((DG ts).map V.str))->Same H H'->Q (.ref l) H'
section
variable {P:Program} {w:World} {K:YD} {mg:YB} {base:Heap}
theorem Le (c:Code K mg "terms_in_order" Dw CJ) (T:Nm mg) (FZ:Good P w K mg base "names_in" 9 Dz Qe):Good P w K mg base "terms_in_order" 10 CJ Y0:=by
 refine c.good Cu (λvs H Q E h=>?_) (λf cdv A outer s H vs Q E hr h=>?_)
 ·obtain⟨d,kvs,ts,rfl,_⟩:=h;rfl
 obtain⟨d,kvs,ts,rfl,hd,hp,l16,ok,q⟩:=h;refine⟨_,(Ae (Aw (i:=1) Cu.nd rfl (Or.inr rfl) QM)
 (Ae (BL Qbz rfl (Fx rfl T.range (Aa (Bs WR rfl T.len Ez (Aa (pv 0) Ac)) Ac)) (Ak (i:=2) Cu.nd rfl (Or.inl rfl))
 (Ai (Zv rfl (BL Qbz rfl (Xj (pv 0)) (CG rfl (Am (Ak (i:=3) Cu.nd rfl (Or.inl rfl)) (Am (Ak (i:=4) Cu.nd rfl (Or.inl rfl)) BK)))
 (Ai (BX (Hq (Bs (Yo rfl) rfl T.all cJ (Aa (Eo (N':=["other","known"]) rfl (Bo.of (src:=[none,some 1]) (Al Dw) xm rfl rfl rfl (by trivial) (by trivial) (by trivial) rfl (by trivial)) (CV (Ba FZ hr (Aa (pv 4) (Aa Ax Ac)))) (λ_ _ _ _=>(Ak (i:=0) (show List.Nodup (["other","known"]:YF) by trivial) rfl (Or.inl rfl))) (λ_ _ _ _=>Kg) (λ_ _ _ _=>(V1 (QS (Dh hr) (pv 0) (pv 1))))) Ac))) (Ai (K3 (Dh hr) (pv 1) (pv 3) Ep rfl)) Bk))))))
 (Ai (Ay (Ca (Nt rfl) rfl T.list Jo (Aa (pv 1) Ac)))))),?_⟩
 have lp:=QbO hp;generalize hns:ts.map (·.1)=ns;have lns:ns.length=ts.length:=by rw[<-hns,Qbu]
 refine λdk hdk=>?_;have sk:=Ad hdk (.dK []);have ck:upd H dk (.dK []) dk=some (.dK []):=Ab;generalize upd H dk (.dK [])=H1 at *;refine Rm ?_;have nkd:d≠dk:=Ar hd hdk;have ndt:∀xs,H d≠some (.tup xs):=λxs e=>by rw[hd] at e;cases e
 refine⟨_,rq,d,kvs,rq,sk _ _ hd,_,rq,by omega,by omega,?_⟩;rw[Qbf,lp];refine GJ (λn U HH=>∃u2 u3 u4,U=[jp d,jp dk,u2,u3,u4]/\HH dk=some (.dK (Dg kS (CK ts n)))/\Knw ns (CK ts n)/\Same H HH) ⟨_,_,_,rq,ck,⟨QbN,λx h=>by cases h⟩,sk⟩ (λn U HH hn h=>?_) (fun U HH h=>?_)
 ·obtain⟨u2,u3,u4,rfl,e1,e2,e3⟩:=h;refine⟨_,rq,d,kvs,rq,e3 _ _ hd,λo=>?_⟩;refine cA (λi U HX=>∃u3 u4,U=[jp d,jp dk,some (.int (0+(n:Int))),u3,u4]/\HX d=some (.frz o (.dK kvs))/\HX dk=some (.dK (Dg kS (rnd (ts.take i) (CK ts n))))/\Knw ns (rnd (ts.take i) (CK ts n))/\Af d H HX) ⟨_,_,rq,Ab,by rw[Aj nkd.symm];exact e1,e2,(Af.of e3).trans Af.upd⟩ (λi U HX _ h=>?_) (λi kv pt U HX hkv h hpt=>?_) (fun U HX h=>?_)
  ·obtain⟨u3,u4,rfl,f1,_⟩:=h;exact f1
  ·obtain⟨u3,u4,rfl,f1,f2,f3,f4⟩:=h;obtain⟨p,hpi,ek,a,ea,ca⟩:=Cw hp hkv;have s1:=Ad hpt (.tup [kV kv.1,kv.2]);have c1:upd HX pt (.tup [kV kv.1,kv.2]) pt=some (.tup [kV kv.1,kv.2]):=Ab;have f1:=s1 _ _ f1;have f2:=s1 _ _ f2;have f4:=f4.trans (Af.of s1);generalize upd HX pt (.tup [kV kv.1,kv.2])=H2 at *;rw[ek,ea] at c1;have ca2:Cv H2 a p.2:=ca.tups (f4.tup ndt);obtain⟨o1,o2⟩:=ok p (QaB hpi);refine⟨pt,_,rq,SqT.of c1,rq,_,_,rq,_,_,rq,rq,?_⟩;refine⟨_,rq,a,p.2,"term",rq,.inr rfl,ca2,o1,o2,λl H3 hl hll s3=>⟨l,rq,⟨_,SqL.of hll⟩,λl2 hl2=>?_⟩⟩;have g1:=s3 _ _ f2;have lnm:=Cd.K7 "term" p.2;refine GK (xs:=(p.2.nam "term").map V.str) (λj U HY=>∃u,U=[u,jp dk]/\HY l2=some (.lst ((((p.2.nam "term").take j).map λo=>decide (o∈rnd (ts.take i) (CK ts n))).map V.bl))/\Same H3 HY) ⟨_,rq,Ab,Ad hl2 _⟩ (λj U HY _ h=>?_) (λj x U HY hx h=>?_) (fun U HY h=>?_)
   ·obtain⟨u,rfl,g2,g3⟩:=h;exact SqL.of (g3 _ _ hll)
   ·obtain⟨u,rfl,g2,g3⟩:=h;rw[Qbd] at hx;obtain⟨y,hy,rfl⟩:=Qat.mp hx;refine⟨_,rq,_,rq,dk,_,rq,Ce.k (k:=Sum.inr y) (g3 _ _ g1),_,g2,Av (by rw[Qbu,Qbu,Qbl];omega),_,rq,?_,g3.CW Af.upd hl2⟩;rw[Ab,Pj,Qcm hy,Qbx,Qbx];rfl
   ·obtain⟨u,rfl,g2,g3⟩:=h;rw[Qbu,Qbk] at g2;have g1:=g3 _ _ g1;have s2Y:=s3.trans g3;refine⟨l2,_,rq,SqL.of g2,_,rq,?_⟩;have ea:((((p.2.nam "term").map λo=>decide (o∈rnd (ts.take i) (CK ts n)))).all id)=(p.2.nam "term").all λo=>decide (o∈rnd (ts.take i) (CK ts n)):=by rw[List.all_map];rfl
    rw[ea];have mp:p.1∈ns:=by rw[<-hns];exact QbZ.mpr ⟨p,QaB hpi,rq⟩
    have f3':=f3.step (p:=p) mp;have es:=Xa (CK ts n) hpi;refine Om (λh=>?_) (λh=>?_)
    ·have e5:Dl (rnd (ts.take i) (CK ts n)) p=Gj (rnd (ts.take i) (CK ts n)) p.1:=if_pos h;have:=f3.len;refine⟨_,rq,_,rq,dk,_,rq,Ip.k (k:=Sum.inr p.1) g1 (Av (by rw[Wh];omega)),?_⟩;rw[Wi,<-e5,<-es];rw[<-es] at f3';exact⟨_,_,rq,by rw[Aj nkd];exact s2Y _ _ f1,Ab,f3',Af.YW (f4.trans (Af.of s2Y)) Af.upd hdk⟩
    ·have e5:Dl (rnd (ts.take i) (CK ts n)) p=rnd (ts.take i) (CK ts n):=if_neg (by rw[h];decide);refine⟨_,_,rq,s2Y _ _ f1,?_,?_,f4.trans (Af.of s2Y)⟩
     ·rw[es,e5];exact g1
     ·rw[es];exact f3'
  ·obtain⟨u3,u4,rfl,f1,f2,f3,f4⟩:=h;rw[lp,Qbk] at f2 f3;refine⟨d,o,kvs,f1,(λo' u e=>by have e:H d=some (.frz o' u):=e;rw[hd] at e;cases e),?_⟩;refine⟨_,_,_,rq,by rw[Aj nkd.symm];exact f2,f3,λb ob eb=>?_⟩;by_cases hb:b=d
   ·subst hb;rw[Ab,<-eb,hd]
   ·rw[Aj hb];exact f4 _ _ eb hb
 ·obtain⟨u2,u3,u4,rfl,e1,e2,e3⟩:=h;refine⟨_,rq,Rb e1 λl hl=>q l _ (e3.free hl) ?_ (e3.trans (Ad hl _))⟩;rw[Ux];exact Ab
end
abbrev Ik:Stmt:=top 10
abbrev Et:YF:=["rules"]
theorem Dk:Bf ["rules","seen","at","word","call","condition"] Et (Al Ik):=by ac_rfl
abbrev Gf:Stmt:=top 11
abbrev Dn:YF:=["rules","word","told","known"]
theorem DR:Bf ["rules","word","told","known","at","row","name"] Dn (Al Gf):=by ac_rfl
abbrev T4 {κ : Type} [DecidableEq κ] (a:κ) (l:List κ):Decidable (a∈l):=inferInstance
instance jh (a:Key) (l:List Key):Decidable (a∈l):=T4 a l
instance jY (a:List Key) (l:List (List Key)):Decidable (a∈l):=T4 a l
def Ru.key (r:Ru):List Key:=[.inr r.word,r.call]
def kTr {α κ : Type} (f:α->κ) (xs:List α):List (κ×V):=xs.map λx=>(f x,V.bl true)
theorem Jj {α κ : Type} [DecidableEq κ] {f:α->κ} {k:κ}:∀{xs:List α},(BW (kTr f xs) k).isSome=decide (k∈xs.map f)
 | []=>by simp[kTr,BW]
 | x::r=>by
  have e:kTr f (x::r)=(f x,V.bl true)::kTr f r:=rfl;rw[e];by_cases h:f x=k
  ·rw[Gb (p:=(f x,V.bl true)) h];rw[QbK (by rw[QbQ,h];exact QaO ..)];rfl
  ·rw[Dv (p:=(f x,V.bl true)) h,Jj,QbG,QaT,QaT,QbQ,QbP];exact⟨.inr,λz=>z.elim (λz=>absurd z.symm h) id⟩
theorem Tw {α κ : Type} [DecidableEq κ] {f:α->κ} {xs:List α} {x:α} (h:f x∉xs.map f):putK (kTr f xs) (f x) (.bl true)=kTr f (xs++[x]):=by
 have n:BW (kTr f xs) (f x)=none:=by
  have:=Jj (f:=f) (k:=f x) (xs:=xs);rw[Qbw h] at this;cases e:BW (kTr f xs) (f x) with
  | none=>rfl
  | some v=>rw[e] at this;cases this
 rw[Jz _ n];unfold kTr;rw[Qbx];rfl
def N6 (rs:List Ru) (i:Nat):Option (YG):=match rs[i]? with
 | none=>none
 | some r=>if r.key∈(rs.take i).map Ru.key then some [.str "twice",.int (i:Int)] else none
def rTw (rs:List Ru):Option (YG):=(List.range rs.length).findSome? (N6 rs)
theorem QF {rs:List Ru} {i:Nat} {r:Ru} (h:rs[i]?=some r) (m:r.key∈(rs.take i).map Ru.key):N6 rs i=some [.str "twice",.int (i:Int)]:=by
 unfold N6;rw[h];exact if_pos m
theorem QD {rs:List Ru} {i:Nat} {r:Ru} (h:rs[i]?=some r) (m:¬r.key∈(rs.take i).map Ru.key):N6 rs i=none:=by
 unfold N6;rw[h];exact if_neg m
def YZ:Sp:=λvs H Q _=>∃t rs,vs=[.ref t]/\Fq H t rs/\Hz rs/\∀v H',Hy H' v (rTw rs)->Same H H'->Q v H'
def nmR (w tl:Str) (ns:YF) (i:Nat) (z:Str):Option (YG):=if z∈ns then none else some [.str tl,.int (i:Int),.str z]
def nmF (rs:List Ru) (w tl:Str) (ns:YF) (i:Nat):Option (YG):=match rs[i]? with
 | none=>none
 | some r=>(r.c.nam w).findSome? (nmR w tl ns i)
def nmM (rs:List Ru) (w tl:Str) (ns:YF):Option (YG):=(List.range rs.length).findSome? (nmF rs w tl ns)
theorem M7 {rs:List Ru} {w tl:Str} {ns:YF} {i:Nat} {r:Ru} (h:rs[i]?=some r):nmF rs w tl ns i=(r.c.nam w).findSome? (nmR w tl ns i):=by
 unfold nmF;rw[h]
def Y4:Sp:=λvs H Q _=>∃t w tl d kvs rs ns,vs=[.ref t,.str w,.str tl,.ref d]/\(w="of"\/w="term")/\Fq H t rs/\Hz rs/\H d=some (.dK kvs)/\(∀z:Str,(BW kvs (.inr z)).isSome=decide (z∈ns))/\∀v H',Hy H' v (nmM rs w tl ns)->Same H H'->Q v H'
section
variable {P:Program} {w:World} {K:YD} {mg:YB} {base:Heap}
theorem QV (c:Code K mg "row_twice" Ik Et) (T:Nm mg):Good P w K mg base "row_twice" 1 Et YZ:=by
 refine c.good Dk (λvs H Q E h=>?_) (λf cdv A outer s H vs Q E hr h=>?_)
 ·obtain⟨t,rs,rfl,_⟩:=h;rfl
 obtain⟨t,rs,rfl,⟨xs,ht,hp⟩,⟨l16,_⟩,q⟩:=h;refine⟨_,(Ae (Aw (i:=1) Dk.nd rfl (Or.inl rfl) Xl)
 (Ae (BL Qbz rfl (JB rfl T.enumerate (pv 0)) (CG rfl (Am (Ak (i:=2) Dk.nd rfl (Or.inl rfl)) (Am (CG rfl (Am (Ak (i:=3) Dk.nd rfl (Or.inl rfl)) (Am (Ak (i:=4) Dk.nd rfl (Or.inl rfl)) (Am (Ak (i:=5) Dk.nd rfl (Or.inl rfl)) BK)))) BK)))
 (Ae (BX (MF (QS (Dh hr) (Bc (Aa (pv 3) (Aa (pv 4) Ac))) (pv 1))) (Ai (Ay (Bc (Aa Ax (Aa (pv 2) Ac))))) Bk)
 (Ai (K3 (Dh hr) (pv 1) (Bc (Aa (pv 3) (Aa (pv 4) Ac))) Ep rfl))))
 (Ai (Ay Jc)))),?_⟩
 have lx:=QbO hp;refine λds hds=>?_;have sk:=Ad hds (.dT []);have ck:upd H ds (.dT []) ds=some (.dT []):=Ab;generalize upd H ds (.dT [])=H1 at *;refine Rm ?_;refine⟨_,rq,t,rq,⟨xs,SqT.of (sk _ _ ht)⟩,?_⟩;refine Gp (xs:=xs) (lo:=0) (λi U HH=>∃u2 u3 u4 u5,U=[jp t,jp ds,u2,u3,u4,u5]/\HH ds=some (.dT (kTr Ru.key (rs.take i)))/\Same H HH/\((List.range rs.length).take i).findSome? (N6 rs)=none) ⟨_,_,_,_,rq,ck,sk,rq⟩ (λi U HH _ h=>?_) (λi x pt U HH hx h hpt=>?_) (fun U HH h=>?_)
 ·obtain⟨u2,u3,u4,u5,rfl,e1,e2,e3⟩:=h;exact SqT.of (e2 _ _ ht)
 ·obtain⟨u2,u3,u4,u5,rfl,e1,e2,e3⟩:=h;obtain⟨r,hri,tr,a,rfl,h1,h2⟩:=Cw hp hx;have hi:i < rs.length:=(Qag.mp hri).1;have s1:=Ad hpt (.tup [.int ((0+i:Nat):Int),.ref tr]);have c1:upd HH pt (.tup [.int ((0+i:Nat):Int),.ref tr]) pt=some (.tup [.int ((0+i:Nat):Int),.ref tr]):=Ab;generalize upd HH pt (.tup [.int ((0+i:Nat):Int),.ref tr])=H2 at *;have e1:=s1 _ _ e1;have e2:=e2.trans s1;rw[Nat.zero_add] at c1;refine⟨pt,_,rq,SqT.of c1,rq,_,_,rq,_,_,rq,tr,_,rq,SqT.of (e2 _ _ h1),rq,_,_,rq,_,_,rq,_,_,rq,rq,rq,?_⟩;refine⟨_,rq,_,rq,Ao (by show 2<=1000;decide),λp1 hp1=>?_⟩;have s2:=Ad hp1 (.tup [.str r.word,kV r.call]);have c2:upd H2 p1 (.tup [.str r.word,kV r.call]) p1=some (.tup [.str r.word,kV r.call]):=Ab;generalize upd H2 p1 (.tup [.str r.word,kV r.call])=H3 at *;have e1:=s2 _ _ e1;have e2:=e2.trans s2;refine⟨_,rq,ds,_,rq,Ce.t (k:=r.key) e1 c2,_,rq,?_⟩;rw[Jj];by_cases hm:r.key∈(rs.take i).map Ru.key
  ·rw[QbK hm];refine CP ⟨_,rq,Ao (by show 2<=1000;decide),λp2 hp2=>q _ _ ?_ (e2.trans (Ad hp2 _))⟩;have:rTw rs=some [.str "twice",.int (i:Int)]:=Ku (Fi hi) e3 (QF hri hm);rw[this];exact⟨p2,rq,Ab,by simp⟩
  ·rw[Qbw hm];refine Bx ⟨_,rq,_,rq,_,rq,Ao (by show 2<=1000;decide),λp2 hp2=>?_⟩;have s3:=Ad hp2 (.tup [.str r.word,kV r.call]);have c3:upd H3 p2 (.tup [.str r.word,kV r.call]) p2=some (.tup [.str r.word,kV r.call]):=Ab;generalize upd H3 p2 (.tup [.str r.word,kV r.call])=H4 at *;have e1:=s3 _ _ e1;have e2:=e2.trans s3;refine⟨ds,_,rq,Ip.t (k:=r.key) e1 c3 (Av (by unfold kTr;rw[Qbu,Qbl];omega)),?_⟩;refine⟨_,_,_,_,rq,?_,e2.CW Af.upd hds,Gn (Fi hi) e3 (QD hri hm)⟩;rw[Ab,Tw hm,Qcm hri]
 ·obtain⟨u2,u3,u4,u5,rfl,e1,e2,e3⟩:=h;rw[lx] at e3;refine q _ _ ?_ e2;have:rTw rs=none:=G9 Qbi e3;rw[this];rfl
theorem MP (c:Code K mg "name_missing" Gf Dn) (T:Nm mg) (FZ:Good P w K mg base "names_in" 9 Dz Qe):Good P w K mg base "name_missing" 10 Dn Y4:=by
 refine c.good DR (λvs H Q E h=>?_) (λf cdv A outer s H vs Q E hr h=>?_)
 ·obtain⟨t,w1,tl,d,kvs,rs,ns,rfl,_⟩:=h;rfl
 obtain⟨t,w1,tl,d,kvs,rs,ns,rfl,hw,⟨xs,ht,hp⟩,⟨l16,ok⟩,hd,hns,q⟩:=h;refine⟨_,(Ae (BL Qbz rfl (JB rfl T.enumerate (pv 0)) (CG rfl (Am (Ak (i:=4) DR.nd rfl (Or.inl rfl)) (Am (Ak (i:=5) DR.nd rfl (Or.inl rfl)) BK)))
 (Ai (BL Qbz rfl (CV (Ba FZ hr (Aa (Bg Ck (pv 5) Ag (λ_ _=>rfl)) (Aa (pv 1) Ac)))) (Ak (i:=6) DR.nd rfl (Or.inl rfl))
 (Ai (BX (MF (Kl (Dh hr) (pv 6) (pv 3))) (Ai (Ay (Bc (Aa (pv 2) (Aa (pv 4) (Aa (pv 6) Ac)))))) Bk)))))
 (Ai (Ay Jc))),?_⟩
 have lx:=QbO hp;refine⟨_,rq,t,rq,⟨xs,SqT.of ht⟩,?_⟩;refine Gp (xs:=xs) (lo:=0) (λi U HH=>∃u4 u5 u6,U=[jp t,some (.str w1),some (.str tl),jp d,u4,u5,u6]/\Same H HH/\((List.range rs.length).take i).findSome? (nmF rs w1 tl ns)=none) ⟨_,_,_,rq,Same.refl _,rq⟩ (λi U HH _ h=>?_) (λi x pt U HH hx h hpt=>?_) (fun U HH h=>?_)
 ·obtain⟨u4,u5,u6,rfl,e2,e3⟩:=h;exact SqT.of (e2 _ _ ht)
 ·obtain⟨u4,u5,u6,rfl,e2,e3⟩:=h;obtain⟨r,hri,tr,a,rfl,h1,h2⟩:=Cw hp hx;have hi:i < rs.length:=(Qag.mp hri).1;obtain⟨o1,o2⟩:=ok r (QaB hri);have s1:=Ad hpt (.tup [.int ((0+i:Nat):Int),.ref tr]);have c1:upd HH pt (.tup [.int ((0+i:Nat):Int),.ref tr]) pt=some (.tup [.int ((0+i:Nat):Int),.ref tr]):=Ab;generalize upd HH pt (.tup [.int ((0+i:Nat):Int),.ref tr])=H2 at *;have e2:=e2.trans s1;rw[Nat.zero_add] at c1;refine⟨pt,_,rq,SqT.of c1,rq,_,_,rq,_,_,rq,rq,?_⟩;refine⟨_,rq,tr,_,_,_,rq,rq,SqT.of (e2 _ _ h1),Bm (j:=2) rfl,_,rq,a,r.c,w1,rq,hw,h2.same e2,o1,o2,λl H3 hl hll s3=>⟨l,rq,⟨_,SqL.of hll⟩,?_⟩⟩;have e2:=e2.trans s3;refine Hv (xs:=(r.c.nam w1).map V.str) (λj U HX=>∃u6,U=[jp t,some (.str w1),some (.str tl),jp d,some (.int (i:Int)),jp tr,u6]/\HX=H3/\((r.c.nam w1).take j).findSome? (nmR w1 tl ns i)=none) ⟨_,rq,rq,rq⟩ (λj U HX _ h=>?_) (λj x U HX hx h=>?_) (fun U HX h=>?_)
  ·obtain⟨u6,rfl,rfl,_⟩:=h;exact SqL.of hll
  ·obtain⟨u6,rfl,rfl,f3⟩:=h;rw[Qbd] at hx;obtain⟨y,hy,rfl⟩:=Qat.mp hx;refine⟨_,rq,_,rq,d,_,rq,Ce.k (k:=Sum.inr y) (e2 _ _ hd),_,rq,?_⟩;rw[hns];by_cases hm:y∈ns
   ·rw[QbK hm];exact Bx ⟨_,rq,rq,Gn hy f3 (if_pos hm)⟩
   ·rw[Qbw hm];refine CP ⟨_,rq,_,rq,_,rq,Ao (by show 3<=1000;decide),λp2 hp2=>q _ _ ?_ (e2.trans (Ad hp2 _))⟩;have h3:(r.c.nam w1).findSome? (nmR w1 tl ns i)=some [.str tl,.int (i:Int),.str y]:=Ku hy f3 (if_neg hm);have:nmM rs w1 tl ns=some [.str tl,.int (i:Int),.str y]:=Ku (Fi hi) e3 (by rw[M7 hri];exact h3);rw[this];exact⟨p2,rq,Ab,by simp⟩
  ·obtain⟨u6,rfl,rfl,f3⟩:=h;exact⟨_,_,_,rq,e2,Gn (Fi hi) e3 (by rw[M7 hri];exact G9 (by rw[Qbu]) f3)⟩
 ·obtain⟨u4,u5,u6,rfl,e2,e3⟩:=h;rw[lx] at e3;refine q _ _ ?_ e2;have:nmM rs w1 tl ns=none:=G9 Qbi e3;rw[this];rfl
end
def nmT (ts:List (Str×Cd)) (z:Str):YF:=match ts.find? λp=>decide (p.1=z) with
 | some p=>p.2.nam "term"
 | none=>[]
theorem M6 {ts:List (Str×Cd)} {p:Str×Cd}:(ts.map (·.1)).Nodup->p∈ts->nmT ts p.1=p.2.nam "term":=by
 intro nd h;unfold nmT;have:ts.find? (λq=>decide (q.1=p.1))=some p:=by
  induction ts with
  | nil=>cases h
  | cons a r ih=>
   rw[QbQ,QbB] at nd;rcases QbP.mp h with rfl | h
   ·rw[List.find?_cons_of_pos];simp
   ·have ne:a.1≠p.1:=λe=>nd.1 (by rw[e];exact QbZ.mpr ⟨p,h,rq⟩);rw[List.find?_cons_of_neg (by simp[ne])];exact ih nd.2 h
 rw[this]
def Ah (ts:List (Str×Cd)):YF:=ts.map (·.1)
def Ir (ts:List (Str×Cd)):Prop:=∀p∈ts,∀o∈p.2.nam "term",o∈Ah ts
theorem Tn {ts:List (Str×Cd)} (h:Ir ts) {z y:Str} (hy:y∈nmT ts z):y∈Ah ts:=by
 unfold nmT at hy;split at hy
 ·rename_i p e;exact h p (List.mem_of_find?_eq_some e) y hy
 ·cases hy
inductive Fr (ts:List (Str×Cd)):Str->Prop
 | mk (x:Str):(∀y∈nmT ts x,Fr ts y)->Fr ts x
inductive Path (ts:List (Str×Cd)):Nat->Str->Str->Prop
 | one {x y:Str}:y∈nmT ts x->Path ts 1 x y
 | more {x y z:Str} {n:Nat}:y∈nmT ts x->Path ts n y z->Path ts (n+1) x z
theorem Path.pos {ts:List (Str×Cd)} {n:Nat} {x y:Str} (h:Path ts n x y):1<=n:=by cases h <;> omega
theorem Path.snoc {ts:List (Str×Cd)} {n:Nat} {x y z:Str} (h:Path ts n x y) (e:z∈nmT ts y):Path ts (n+1) x z:=by
 induction h with
 | one h=>exact .more h (.one e)
 | more h _ ih=>exact .more h (ih e)
theorem Path.trans {ts:List (Str×Cd)} {n m:Nat} {x y z:Str} (h:Path ts n x y) (g:Path ts m y z):∃k,Path ts k x z:=by
 induction h with
 | one h=>exact⟨_,.more h g⟩
 | more h _ ih=>
  obtain⟨k,hk⟩:=ih g;exact⟨_,.more h hk⟩
theorem Path.inv {ts:List (Str×Cd)} {n:Nat} {x z:Str} (h:Path ts n x z):(n=1/\z∈nmT ts x)\/∃m y,n=m+1/\y∈nmT ts x/\Path ts m y z:=by
 cases h with
 | one h=>exact .inl ⟨rfl,h⟩
 | more h p=>exact .inr ⟨_,_,rfl,h,p⟩
theorem Path.split {ts:List (Str×Cd)}:∀{a b:Nat} {x z:Str},1<=a->1<=b->Path ts (a+b) x z->∃y,Path ts a x y/\Path ts b y z
 | 0,b,x,z,h,_,_=>absurd h (by decide)
 | 1,b,x,z,_,hb,p=>by
  rcases p.inv with⟨e,_⟩|⟨m,y,e,h,p2⟩
  ·omega
  ·obtain rfl:m=b:=by omega
   exact⟨y,.one h,p2⟩
 | a+2,b,x,z,_,hb,p=>by
  rcases p.inv with⟨e,_⟩|⟨m,y,e,h,p3⟩
  ·omega
  ·obtain rfl:m=a+1+b:=by omega
   obtain⟨u,p1,p2⟩:=Path.split (a:=a+1) (b:=b) (by omega) hb p3;exact⟨u,.more h p1,p2⟩
theorem Path.end_ {ts:List (Str×Cd)} (c:Ir ts) {n:Nat} {x y:Str} (h:Path ts n x y):y∈Ah ts:=by
 induction h with
 | one h=>exact Tn c h
 | more _ _ ih=>exact ih
theorem Fr.ZG {ts:List (Str×Cd)} {x:Str} (h:Fr ts x):∀n,¬Path ts n x x:=by
 induction h with
 | mk x _ ih=>
  intro n p;cases p with
  | one h=>exact ih x h 1 (.one h)
  | more h p=>exact ih _ h _ (p.snoc h)
theorem ZR {kn:YF} {z x:Str} (h:x∈kn):x∈Gj kn z:=by
 unfold Gj;split
 ·exact h
 ·exact QaF _ h
theorem X3 (kn:YF) (z:Str):z∈Gj kn z:=by
 unfold Gj;split
 ·rename_i h;exact h
 ·exact Qav _ (by simp)
theorem QC {kn:YF} {p:Str×Cd} {x:Str} (h:x∈kn):x∈Dl kn p:=by
 unfold Dl;split
 ·exact ZR h
 ·exact h
theorem N5:∀{ts:List (Str×Cd)} {kn:YF} {x:Str},x∈kn->x∈rnd ts kn
 | [],_,_,h=>h
 | p::r,kn,x,h=>by
  show x∈rnd r (Dl kn p);exact N5 (QC h)
theorem Ox {kn:YF} {p:Str×Cd}:((p.2.nam "term").all λo=>decide (o∈kn))=true ↔ ∀o∈p.2.nam "term",o∈kn:=by
 rw[List.all_eq_true];exact⟨λh o ho=>of_decide_eq_true (h o ho),λh o ho=>QbK (h o ho)⟩
theorem S7:∀{ts:List (Str×Cd)} {kn:YF} {p:Str×Cd},p∈ts->(∀o∈p.2.nam "term",o∈kn)->p.1∈rnd ts kn
 | [],_,_,h,_=>by cases h
 | a::r,kn,p,h,ho=>by
  show p.1∈rnd r (Dl kn a);rcases QbP.mp h with rfl | h
  ·refine N5 ?_;unfold Dl;rw[if_pos (Ox.mpr ho)];exact X3 _ _
  ·exact S7 h λo h1=>QC (ho o h1)
def Vd (ts:List (Str×Cd)) (kn:YF):Prop:=∀p∈ts,(∀o∈p.2.nam "term",o∈kn)->p.1∈kn
theorem QB:∀{l:List (Str×Cd)} {kn:YF},(∀p∈l,(∀o∈p.2.nam "term",o∈kn)->p.1∈kn)->rnd l kn=kn
 | [],_,_=>rfl
 | p::r,kn,h=>by
  have e:Dl kn p=kn:=by
   unfold Dl;split
   ·rename_i h1;unfold Gj;rw[if_pos (h p (QaO ..) (Ox.mp h1))]
   ·rfl
  show rnd r (Dl kn p)=kn;rw[e];exact QB λq hq=>h q (QaC _ hq)
theorem S8 {ns:YF}:∀{l:List (Str×Cd)} {kn:YF},Knw ns kn->(∀p∈l,p.1∈ns)->Knw ns (rnd l kn)
 | [],_,h,_=>h
 | p::r,kn,h,hp=>by
  show Knw ns (rnd r (Dl kn p));exact S8 (h.step (hp p (QaO ..))) λq hq=>hp q (QaC _ hq)
theorem Q7 {ts:List (Str×Cd)} {p:Str×Cd} (h:p∈ts):p.1∈Ah ts:=QbZ.mpr ⟨p,h,rfl⟩
theorem Ob (ts:List (Str×Cd)):∀n,Knw (Ah ts) (CK ts n)
 | 0=>⟨QbN,λx h=>by cases h⟩
 | n+1=>S8 (Ob ts n) λp hp=>Q7 hp
theorem Pb (ts:List (Str×Cd)):∀n,Vd ts (CK ts n)\/n<=(CK ts n).length
 | 0=>.inr (Qce _)
 | n+1=>by
  have k:=Ob ts n;by_cases s:Vd ts (CK ts n)
  ·left
   show Vd ts (rnd ts (CK ts n));rw[QB s];exact s
  ·rcases Pb ts n with h | h
   ·exact absurd h s
   ·right
    obtain⟨p,hp⟩:=Classical.not_forall.mp s;obtain⟨h1,h2⟩:=Classical.not_imp.mp hp;obtain⟨h2,h3⟩:=Classical.not_imp.mp h2;have h4:=S7 h1 h2;have:=Du (l:=p.1::CK ts n) (m:=rnd ts (CK ts n)) (QbB.mpr ⟨h3,k.1⟩) λx hx=>by
     rcases QbP.mp hx with rfl | hx
     ·exact h4
     ·exact N5 hx
    rw[Qbm] at this;show n+1<=(rnd ts (CK ts n)).length;omega
theorem ZL {ns kn:YF} (k:Knw ns kn) (h:ns.length<=kn.length) (nd:ns.Nodup):∀x∈ns,x∈kn:=λx hx=>by
 refine Qak λn=>?_;have:=Du (l:=x::kn) (m:=ns) (QbB.mpr ⟨n,k.1⟩) λy hy=>by
  rcases QbP.mp hy with rfl | hy
  ·exact hx
  ·exact k.2 y hy
 rw[Qbm] at this;omega
theorem Xp {ts:List (Str×Cd)} (nd:(Ah ts).Nodup):Vd ts (DG ts):=by
 rcases Pb ts ts.length with h | h
 ·exact h
 ·exact λp hp _=>ZL (Ob ts ts.length) (by unfold Ah;rw[Qbu];exact h) nd p.1 (Q7 hp)
theorem VN {ts:List (Str×Cd)} (nd:(Ah ts).Nodup):∀{l:List (Str×Cd)} {kn:YF},(∀p∈l,p∈ts)->(∀x∈kn,Fr ts x)->∀x∈rnd l kn,Fr ts x
 | [],_,_,h=>h
 | p::r,kn,hl,h=>by
  show ∀x∈rnd r (Dl kn p),Fr ts x;refine VN nd (λq hq=>hl q (QaC _ hq)) λx hx=>?_;unfold Dl at hx;split at hx
  ·rename_i h1;rcases TF hx with hx | rfl
   ·exact h x hx
   ·refine .mk _ λy hy=>?_;rw[M6 nd (hl p (QaO ..))] at hy;exact h y (Ox.mp h1 y hy)
  ·exact h x hx
theorem V2 {ts:List (Str×Cd)} (nd:(Ah ts).Nodup):∀n,∀x∈CK ts n,Fr ts x
 | 0=>λx h=>by cases h
 | n+1=>VN nd (λp h=>h) (V2 nd n)
def Bq (ts:List (Str×Cd)):YF:=(Ah ts).filter λz=>!decide (z∈DG ts)
theorem IV {ts:List (Str×Cd)} {z:Str}:z∈Bq ts ↔ z∈Ah ts/\z∉DG ts:=by
 unfold Bq;rw[List.mem_filter];simp
def JD (ts:List (Str×Cd)) (z:Str):YF:=(nmT ts z).filter λo=>decide (o∈Bq ts)
theorem Tj {ts:List (Str×Cd)} {z o:Str}:o∈JD ts z ↔ o∈nmT ts z/\o∈Bq ts:=by
 unfold JD;rw[List.mem_filter];simp
theorem bA {ts:List (Str×Cd)} (nd:(Ah ts).Nodup) (c:Ir ts) {z:Str} (h:z∈Bq ts):∃o r,JD ts z=o::r:=by
 cases e:JD ts z with
 | cons o r=>exact⟨o,r,rfl⟩
 | nil=>
  exfalso;obtain⟨h1,h2⟩:=IV.mp h;obtain⟨p,hp,rfl⟩:=QbZ.mp h1;refine h2 (Xp nd p hp λo ho=>Qak λn=>?_);have:o∈JD ts p.1:=Tj.mpr ⟨by rw[M6 nd hp];exact ho,IV.mpr ⟨c p hp o ho,n⟩⟩;rw[e] at this;cases this
structure G7 (ts:List (Str×Cd)) (ys:YF):Prop where
 ne:ys≠[]
 nd:ys.Nodup
 sub:∀y∈ys,y∈Ah ts
 nx:∀(i:Nat) (x y:Str),ys[i]?=some x->ys[(i+1) % ys.length]?=some y->y∈nmT ts x
structure Way (ts:List (Str×Cd)) (way:YF) (z:Str):Prop where
 nd:way.Nodup
 sub:∀y∈way,y∈Bq ts
 stk:z∈Bq ts
 nx:∀(i:Nat) (x y:Str),way[i]?=some x->(way++[z])[i+1]?=some y->y∈nmT ts x
theorem Way.go {ts:List (Str×Cd)} {way:YF} {z o:Str} (h:Way ts way z) (n:z∉way) (ho:o∈JD ts z):Way ts (way++[z]) o:=by
 obtain⟨h1,h2⟩:=Tj.mp ho;refine⟨Jg h.nd n,λy hy=>?_,h2,λi x y hx hy=>?_⟩
 ·rcases Qbv.mp hy with hy | hy
  ·exact h.sub y hy
  ·have:y=z:=by simpa using hy
   rw[this];exact h.stk
 ·by_cases hi:i < way.length
  ·refine h.nx i x y (by rw[Qaj hi] at hx;exact hx) ?_;rw[Qaj (by rw[QaM];simp;omega)] at hy;exact hy
  ·have il:i=way.length:=by
    have:=(Qag.mp hx).1;rw[QaM] at this;simp at this;omega
   subst il;have ex:x=z:=by
    rw[Qae (Qce _)] at hx;simpa using hx.symm
   have ey:y=o:=by
    rw[Qae (by rw[QaM];simp)] at hy;simp at hy;exact hy.symm
   rw[ex,ey];exact h1
theorem Way.ring {ts:List (Str×Cd)} {way:YF} {z:Str} {j:Nat} (h:Way ts way z) (hj:way[j]?=some z):G7 ts (way.drop j):=by
 have jl:=(Qag.mp hj).1;refine⟨λe=>?_,h.nd.sublist (List.drop_sublist _ _),λy hy=>(IV.mp (h.sub y (List.mem_of_mem_drop hy))).1,λi x y hx hy=>?_⟩
 ·have:=congrArg List.length e;rw[Qbr] at this;simp at this;omega
 ·rw[Qbb] at hx;have il:=(Qag.mp hx).1;rw[Qbr] at hy;refine h.nx (j+i) x y hx ?_;by_cases c:j+i+1 < way.length
  ·rw[Nat.mod_eq_of_lt (by omega),Qbb] at hy;rw[Qaj c];exact hy
  ·have e1:i+1=way.length - j:=by omega
   rw[e1,Nat.mod_self,Qbb,Nat.add_zero,hj] at hy;rw[Qae (by omega),show j+i+1 - way.length=0 by omega];exact hy
theorem G7.path {ts:List (Str×Cd)} {ys:YF} (h:G7 ts ys):∀(k:Nat) (x y:Str),1<=k->k < ys.length->ys[0]?=some x->ys[k]?=some y->Path ts k x y
 | 0,_,_,h,_,_,_=>absurd h (by decide)
 | 1,x,y,_,hk,hx,hy=>.one (h.nx 0 x y hx (by rw[Nat.mod_eq_of_lt hk];exact hy))
 | k+2,x,y,_,hk,hx,hy=>by
  have h1:ys[k+1]?=some ys[k+1]:=Qal (by omega);exact (G7.path h (k+1) x ys[k+1] (by omega) (by omega) hx h1).snoc (h.nx (k+1) _ y h1 (by rw[Nat.mod_eq_of_lt hk];exact hy))
theorem G7.loop {ts:List (Str×Cd)} {ys:YF} (h:G7 ts ys):∃x,x∈Ah ts/\Path ts ys.length x x:=by
 have hl:=List.length_pos_iff.mpr h.ne;have hx:ys[0]?=some ys[0]:=Qal hl;refine⟨ys[0],h.sub _ (Qbq _),?_⟩;have he:ys[(ys.length - 1+1) % ys.length]?=some ys[0]:=by rw[show ys.length - 1+1=ys.length by omega,Nat.mod_self];exact hx
 have hL:ys[ys.length - 1]?=some ys[ys.length - 1]:=Qal (by omega);have e1:=h.nx (ys.length - 1) _ _ hL he;by_cases c:ys.length=1
 ·have e0:ys[ys.length - 1]=ys[0]:=by congr 1;omega
  rw[e0] at e1;rw[c];exact .one e1
 ·have p:=h.path (ys.length - 1) _ _ (by omega) (by omega) hx hL;have:=p.snoc e1;rw[show ys.length - 1+1=ys.length by omega] at this;exact this
theorem G7.len {ts:List (Str×Cd)} {ys:YF} (h:G7 ts ys):ys.length<=ts.length:=by
 have:=Du h.nd h.sub;unfold Ah at this;rw[Qbu] at this;exact this
theorem RZ {ts:List (Str×Cd)} (nd:(Ah ts).Nodup) {n:Nat} {x:Str} (h:x∈Ah ts) (p:Path ts n x x):Bq ts≠[]:=λe=>by
 have:x∈Bq ts:=IV.mpr ⟨h,λz=>(V2 nd _ x z).ZG n p⟩;rw[e] at this;cases this
def hdS:YF->Str
 | []=>Str.empty
 | z::_=>z
def wk (ts:List (Str×Cd)):Nat->YF×Str
 | 0=>([],hdS (Bq ts))
 | k+1=>((wk ts k).1++[(wk ts k).2],hdS (JD ts (wk ts k).2))
theorem Vl (ts:List (Str×Cd)) (k:Nat):∀d,(wk ts k).1 <+: (wk ts (k+d)).1
 | 0=>List.prefix_refl _
 | d+1=>(Vl ts k d).trans (List.prefix_append _ _)
def Ql (ts:List (Str×Cd)) (ys:YF):Prop:=∃k j:Nat,(wk ts k).1.Nodup/\(wk ts k).1[j]?=some (wk ts k).2/\(∀m:Nat,m < j->(wk ts k).1[m]?≠some (wk ts k).2)/\ys=(wk ts k).1.drop j
theorem Ql.uniq {ts:List (Str×Cd)} {ys zs:YF} (h:Ql ts ys) (g:Ql ts zs):ys=zs:=by
 obtain⟨k,j,h1,h2,h3,rfl⟩:=h;obtain⟨k',j',g1,g2,g3,rfl⟩:=g;have no:∀k k' j:Nat,k < k'->(wk ts k).1[j]?=some (wk ts k).2->¬(wk ts k').1.Nodup:=λk k' j hk e nd=>by
  obtain⟨d,rfl⟩ : ∃d,k'=k+1+d:=⟨k' - (k+1),by omega⟩;have:=nd.sublist (Vl ts (k+1) d).sublist;have e1:(wk ts (k+1)).1=(wk ts k).1++[(wk ts k).2]:=rfl;rw[e1,List.nodup_append] at this;exact this.2.2 _ (QaB e) _ (QaP.mpr rfl) rfl
 have ek:k=k':=by
  rcases Nat.lt_trichotomy k k' with c | c | c
  ·exact absurd g1 (no k k' j c h2)
  ·exact c
  ·exact absurd h1 (no k' k j' c g2)
 subst ek;have ej:j=j':=by
  rcases Nat.lt_trichotomy j j' with c | c | c
  ·exact absurd h2 (g3 j c)
  ·exact c
  ·exact absurd g2 (h3 j' c)
 rw[ej]
abbrev Ea:Stmt:=top 13
abbrev Ec:YF:=["rules"]
abbrev xg:YF:=["rules","terms","free","stuck","way","name"]
theorem Cq:Bf xg Ec (Al Ea):=by ac_rfl
theorem K6 {H:Hp} {z:Str}:∀{kvs:YM} {ts:List (Str×Cd)},Paired (TmV H) kvs ts->z∈Ah ts->∃a c,BW kvs (.inr z)=some (.ref a)/\Cv H a c/\nmT ts z=c.nam "term"/\(z,c)∈ts
 | _,_,.nil,h=>by cases h
 | _,_,.cons (a:=kv) (b:=p) (l₁:=r) (l₂:=ts) x y,h=>by
  obtain⟨e1,a,e2,ca⟩:=x;by_cases e:p.1=z
  ·subst e;refine⟨a,p.2,by rw[Gb e1,e2],ca,?_,QaO ..⟩;unfold nmT;rw[List.find?_cons_of_pos (by simp)]
  ·have h':z∈Ah ts:=by
    rcases QbP.mp h with h | h
    ·exact absurd h.symm e
    ·exact h
   obtain⟨b,c,f1,f2,f3,f4⟩:=K6 y h';refine⟨b,c,?_,f2,?_,QaC _ f4⟩
   ·rw[Dv (λq=>e (by rw[e1] at q;exact Qcg q))];exact f1
   ·rw[<-f3];unfold nmT;rw[List.find?_cons_of_neg (by simp[e])]
def Im (H:Hp) (ts:List (Str×Cd)) (v:V):Prop:=(Bq ts=[]/\v=.non)\/(Bq ts≠[]/\∃a b ys,v=.ref a/\H a=some (.tup [.str "ring",.ref b])/\H b=some (.tup (ys.map V.str))/\G7 ts ys/\Ql ts ys)
def Vx:Sp:=λvs H Q _=>∃t rs,vs=[.ref t]/\Fq H t rs/\Hz rs/\(Ah (trm rs)).Nodup/\Ir (trm rs)/\∀v H',Im H' (trm rs) v->Same H H'->Q v H'
theorem Iz (rs:List Ru):(trm rs).length<=rs.length:=List.length_filterMap_le _ _
theorem Vr {rs:List Ru} (h:Hz rs):∀p∈trm rs,p.2.deep<=6/\p.2.many<=400:=λp hp=>h.2 _ (Iw hp)
theorem KC {xs:YG} {k:Nat}:Cr xs (some (k:Int)) none=xs.drop k:=by
 unfold Cr;rw[HT.Ly,HT.NZ];rw[List.take_of_length_le (by rw[Qbr];omega)];by_cases h:k<=xs.length
 ·rw[Nat.min_eq_left h]
 ·rw[Nat.min_eq_right (by omega),List.drop_of_length_le (by omega),List.drop_of_length_le (by omega)]
theorem Yh {l:YF} {z:Str} (h:z∈l):∃j:Nat,l[j]?=some z/\∀m:Nat,m < j->l[m]?≠some z:=by
 induction l with
 | nil=>cases h
 | cons a r ih=>
  by_cases e:a=z
  ·exact⟨0,by rw[<-e];rfl,λm hm=>absurd hm (QbH _)⟩
  ·obtain⟨j,h1,h2⟩:=ih (by rcases QbP.mp h with h | h;exact absurd h.symm e;exact h);refine⟨j+1,h1,λm hm=>?_⟩;cases m with
   | zero=>exact λq=>e (by simpa using q)
   | succ m=>exact h2 m (by omega)
section
variable {P:Program} {w:World} {K:YD} {mg:YB} {base:Heap}
theorem PN (c:Code K mg "terms_ring" Ea Ec) (T:Nm mg) (JL:Good P w K mg base "terms_of" 1 Er Ui) (Ma:Good P w K mg base "terms_in_order" 10 CJ Y0) (FZ:Good P w K mg base "names_in" 9 Dz Qe):Good P w K mg base "terms_ring" 11 Ec Vx:=by
 refine c.good Cq (λvs H Q E h=>?_) (λf cdv A outer s H vs Q E hr h=>?_)
 ·obtain⟨t,rs,rfl,_⟩:=h;rfl
 obtain⟨t,rs,rfl,hru,ok,nd,cl,q⟩:=h;refine⟨_,(Ae (Aw (i:=1) Cq.nd rfl (Or.inl rfl) (Ba JL hr (Aa (pv 0) Ac)))
 (Ae (Aw (i:=2) Cq.nd rfl (Or.inr rfl) (Ba Ma hr (Aa (pv 1) Ac)))
 (Ae (Aw (i:=3) Cq.nd rfl (Or.inr rfl) (Te rfl (Eo (N':=["name","free"]) rfl (Bo.of (src:=[none,some 2]) (Al Ea) xg rfl rfl rfl (by trivial) (by trivial) (by trivial) rfl (by trivial)) (Td (pv 1)) (λ_ _ _ _=>(Ak (i:=0) (show List.Nodup (["name","free"]:YF) by trivial) rfl (Or.inl rfl))) (λ_ _ _ _=>(Gx (Bd (JV (K:=K) rfl) (pv 0) (pv 1) (by with_unfolding_all rfl)))) (λ_ _ _ _=>(pv 0)))))
 (Ae (BX (Jb (QJ (pv 3) (λ_=>rfl))) (Ai (Ay Jc)) Bk)
 (Ae (Aw (i:=4) Cq.nd rfl (Or.inl rfl) (Cg Ac))
 (Ae (Aw (i:=5) Cq.nd rfl (Or.inl rfl) (Bg BP (pv 3) Ag (λ_ _=>rfl)))
 (Ae (Xg Qbz (Bd Hs (pv 5) (pv 4) (by with_unfolding_all rfl)) (Ae (Gg (G5 Qap Qam Qan FJ (pv 4) (Aa (pv 5) Ac)))
 (Ai (Aw (i:=5) Cq.nd rfl (Or.inl rfl) (Bg BP (Eo (N':=["other","stuck"]) rfl (Bo.of (src:=[none,some 3]) (Al Ea) xg rfl rfl rfl (by trivial) (by trivial) (by trivial) rfl (by trivial)) (CV (Ba FZ hr (Aa (Jd (Dh hr) (pv 1) (pv 5) (λ_ _=>rfl)) (Aa Ax Ac)))) (λ_ _ _ _=>(Ak (i:=0) (show List.Nodup (["other","stuck"]:YF) by trivial) rfl (Or.inl rfl))) (λ_ _ _ _=>(Gx (Bd (JC (K:=K) rfl) (pv 0) (pv 1) (by with_unfolding_all rfl)))) (λ_ _ _ _=>(pv 0))) Ag (λ_ _=>rfl))))))
 (Ai (Ay (Bc (Aa Ax (Aa (Ca Fb rfl T.tuple Fp (Aa (Dy KR (pv 4) (Dm (G5 Qap PySem.F.slot_list_index PySem.F.type_list_index Wa (pv 4) (Aa (pv 5) Ac))) Gh) Ac)) Ac)))))))))))),?_⟩
 have l16:(trm rs).length<=16:=QbY (Iz rs) ok.1;have okt:=Vr ok;generalize hts:trm rs=ts at *;refine⟨_,rq,t,rs,rq,hru,ok,by rw[hts];exact nd,λd kvs H1 hd hk hp s1=>?_⟩;rw[hts] at hp;have lp:=QbO hp;refine⟨_,rq,d,kvs,ts,rq,hk,hp,l16,okt,λlf H2 hlf hfl s2=>?_⟩;have hk2:=s2 _ _ hk;refine⟨_,rq,d,kvs,rq,hk2,λo ls hls=>?_⟩;have nlf:lf≠d:=λe=>by rw[e] at hlf;rw[hk] at hlf;cases hlf
 have nld:ls≠d:=λe=>by rw[e,Ab] at hls;cases hls
 have hls2:H2 ls=none:=by rw[Aj nld] at hls;exact hls
 refine T5 (λi U HX=>∃u,U=[u,jp lf]/\HX d=some (.frz o (.dK kvs))/\HX ls=some (.lst ((((Ah ts).take i).filter λz=>!decide (z∈DG ts)).map V.str))/\Af d H2 HX) ⟨_,rq,by rw[Aj nld.symm,Ab],Ab,Af.upd.trans (Af.of (Ad hls _))⟩ (λi U HX _ h=>?_) (λi kv U HX hkv h=>?_) (fun U HX h=>?_)
 ·obtain⟨u,rfl,f1,_⟩:=h;exact f1
 ·obtain⟨u,rfl,f1,f2,f3⟩:=h;obtain⟨p,hpi,ek,_⟩:=Cw hp hkv;rw[ek];have hz:(Ah ts)[i]?=some p.1:=by unfold Ah;rw[Qbd,hpi];rfl
  have ll:(((Ah ts).take i).filter λz=>!decide (z∈DG ts)).length<=16:=by
   have:=List.length_filter_le (λz=>!decide (z∈DG ts)) ((Ah ts).take i);have l2:(Ah ts).length=ts.length:=Qbu _;rw[Qbl] at this;omega
  have et:((Ah ts).take (i+1)).filter (λz=>!decide (z∈DG ts))=((Ah ts).take i).filter (λz=>!decide (z∈DG ts))++[p.1].filter (λz=>!decide (z∈DG ts)):=by rw[Qcm hz,List.filter_append]
  refine⟨_,rq,_,rq,lf,_,rq,.inl (SqL.of (f3 _ _ hfl nlf)),rq,Eh _,_,rq,Om (λhh=>?_) (λhh=>?_)⟩
  ·have hh:(!inV (V.str p.1) ((DG ts).map V.str))=true:=hh;have hm:p.1∉DG ts:=λz=>by rw[(Ci _ _).mpr z] at hh;cases hh
   refine⟨_,rq,_,f2,Av (by rw[Qbu];omega),_,rq,by rw[Aj nld.symm];exact f1,?_,λb ob eb nb=>?_⟩
   ·rw[Ab,et,Qbx];rw[show [p.1].filter (λz=>!decide (z∈DG ts))=[p.1] from by simp[hm]]
    rfl
   ·rw[Aj (λe=>by rw[e,hls2] at eb;cases eb)];exact f3 _ _ eb nb
  ·have hh:(!inV (V.str p.1) ((DG ts).map V.str))=false:=hh;have hm:p.1∈DG ts:=Qak λz=>by
    have:inV (V.str p.1) ((DG ts).map V.str)=false:=by
     cases e:inV (V.str p.1) ((DG ts).map V.str) with
     | false=>rfl
     | true=>exact absurd ((Ci _ _).mp e) z
    rw[this] at hh;cases hh
   refine⟨_,rq,f1,?_,f3⟩;rw[et,show [p.1].filter (λz=>!decide (z∈DG ts))=[] from by simp[hm],QbA]
   exact f2
 obtain⟨u,rfl,f1,f2,f3⟩:=h;have lns:kvs.length=(Ah ts).length:=by unfold Ah;rw[Qbu,lp]
 rw[lns,Qbk] at f2;have f2:HX ls=some (.lst ((Bq ts).map V.str)):=f2;have fd:H d=none:=hd;refine⟨d,o,kvs,f1,(λo' u e=>by have e:H d=some (.frz o' u):=e;rw[fd] at e;cases e),?_⟩;have g1:upd HX d (.dK kvs) d=some (.dK kvs):=Ab;have g2:upd HX d (.dK kvs) ls=some (.lst ((Bq ts).map V.str)):=by rw[Aj nld];exact f2
 have g3:Same H2 (upd HX d (.dK kvs)):=λb ob eb=>by
  by_cases hb:b=d
  ·subst hb;rw[Ab,<-eb,hk2]
  ·rw[Aj hb];exact f3 _ _ eb hb
 generalize upd HX d (.dK kvs)=H3 at *;have s03:=(s1.trans s2).trans g3;refine Rm ?_;refine⟨_,rq,_,.inl ⟨_,SqL.of g2,rq⟩,?_⟩;cases hs:Bq ts with
 | nil=>
  exact CP (q _ _ (.inl ⟨hs,rq⟩) s03)
 | cons z0 zr=>
 rw[hs] at g2;refine Bx ⟨Ao (by show 0<=1000;decide),λlw hlw=>?_⟩;have s4:=Ad hlw (.lst []);have c4:upd H3 lw (.lst []) lw=some (.lst []):=Ab;generalize upd H3 lw (.lst [])=H4 at *;have g1:=s4 _ _ g1;have g2:=s4 _ _ g2;have s04:=s03.trans s4;have flw:H lw=none:=s03.free hlw;refine⟨_,rq,ls,_,_,_,rq,rq,SqL.of g2,Bm (j:=0) rfl,?_⟩;have hp4:∀HX,Af lw H4 HX->Paired (TmV HX) kvs ts:=λHX hX=>Paired.Bt hp λ_ _ z=>z.tups (((Aq.of s2).trans (Aq.of g3)).trans ((Aq.of s4).trans (hX.tup (Ie c4))));have sn:Ah ts=ts.map (·.1):=rfl;have lsk:(Bq ts).length<=16:=by
  have:=List.length_filter_le (λz=>!decide (z∈DG ts)) (Ah ts);have l2:(Ah ts).length=ts.length:=Qbu _;have l3:(Bq ts).length<=(Ah ts).length:=this;omega
 have z0m:z0∈Bq ts:=by rw[hs];exact QaO ..
 rw[<-hs] at g2;have nls:ls≠lw:=λe=>by rw[e,c4,hs] at g2;cases g2
 refine⟨λm U HX=>∃(way:YF) (z:Str),m=17 - way.length/\way.length<=16/\U=[jp t,jp d,jp lf,jp ls,jp lw,some (.str z)]/\Way ts way z/\(way=(wk ts way.length).1/\z=(wk ts way.length).2)/\HX lw=some (.lst (way.map V.str))/\Af lw H4 HX,
  ⟨17,[],z0,rq,by decide,rq,⟨QbN,(λy h=>by cases h),z0m,λi x y hx=>by cases hx⟩,⟨rq,by show z0=hdS (Bq ts);rw[hs];rfl⟩,c4,Af.refl _ _⟩,λm U HX h=>?_⟩
 obtain⟨way,z,rfl,j5,rfl,hw,hwk,e1,e2⟩:=h;refine⟨_,rq,_,rq,lw,_,rq,.inl (SqL.of e1),rq,Eh _,_,rq,?_⟩;by_cases hin:z∈way
 ·have e0:(!inV (V.str z) (way.map V.str))=false:=by rw[(Ci _ _).mpr hin];rfl
  show if (!inV (V.str z) (way.map V.str))=true then _ else _
  rw[e0];obtain⟨j,hj,hno⟩:=Yh hin;have jl:=(Qag.mp hj).1;refine Bx ⟨_,rq,_,rq,.inl ⟨rq,_,SqL.of e1⟩,_,rq,Wr e1 (by omega) hj hno ⟨_,rq,lw,_,rq,SqL.of e1,λl2 hl2=>?_⟩⟩;have ec:Cr (way.map V.str) (some (j:Int)) none=(way.drop j).map V.str:=by rw[KC,List.map_drop]
  rw[ec] at *;have s6:=Ad hl2 (.lst ((way.drop j).map V.str));have c6:upd HX l2 (.lst ((way.drop j).map V.str)) l2=some (.lst ((way.drop j).map V.str)):=Ab;generalize upd HX l2 (.lst ((way.drop j).map V.str))=H6 at *;refine⟨l2,_,rq,.inl ⟨SqL.of c6,λl3 hl3=>?_⟩⟩;have s7:=Ad hl3 (.tup ((way.drop j).map V.str));have c7:upd H6 l3 (.tup ((way.drop j).map V.str)) l3=some (.tup ((way.drop j).map V.str)):=Ab;generalize upd H6 l3 (.tup ((way.drop j).map V.str))=H7 at *;refine⟨Ao (by show 2<=1000;decide),λl4 hl4=>?_⟩;have s8:=Ad hl4 (.tup [.str "ring",.ref l3]);have sN:Same HX (upd H7 l4 (.tup [.str "ring",.ref l3])):=(s6.trans s7).trans s8;refine q _ _ (.inr ⟨by rw[hs];simp,l4,l3,_,rq,Ab,s8 _ _ c7,hw.ring hj,way.length,j,by rw[<-hwk.1];exact hw.nd,by rw[<-hwk.1,<-hwk.2];exact hj,by rw[<-hwk.1,<-hwk.2];exact hno,by rw[<-hwk.1]⟩) λb ob eb=>sN _ _ (e2 _ _ (s04 _ _ eb) (Ar eb flw))
 ·have e0:(!inV (V.str z) (way.map V.str))=true:=by
   cases e:inV (V.str z) (way.map V.str) with
   | true=>exact absurd ((Ci _ _).mp e) hin
   | false=>rfl
  show if (!inV (V.str z) (way.map V.str))=true then _ else _
  rw[e0];have hzn:z∈Ah ts:=(IV.mp hw.stk).1;have w2:(way++[z]).length<=16:=QbY (Du (Jg hw.nd hin) λy hy=>by
   rcases Qbv.mp hy with hy | hy
   ·exact hw.sub y hy
   ·rw[show y=z by simpa using hy];exact hw.stk) lsk
  rw[QaM,QaA] at w2;refine CP ⟨fun σ' H'=>∃(J0:YF) (z':Str),J0.length=way.length+1/\σ'=[jp t,jp d,jp lf,jp ls,jp lw,some (.str z')]/\Way ts J0 z'/\(J0=(wk ts J0.length).1/\z'=(wk ts J0.length).2)/\H' lw=some (.lst (J0.map V.str))/\Af lw H4 H',fun σ' H' ⟨J0,z',h1,h2,h3⟩=>⟨17 - (way.length+1),by omega,J0,z',by omega,by omega,h2,h3⟩,?_⟩;refine⟨_,rq,.inl ⟨rq,_,SqL.of e1⟩,_,rq,lw,_,_,rq,rq,e1,Av (by rw[Qbu];omega),?_⟩;have s5:Af lw H4 (upd HX lw (.lst (way.map V.str++[.str z]))):=e2.trans Af.upd;have c5:upd HX lw (.lst (way.map V.str++[.str z])) lw=some (.lst ((way++[z]).map V.str)):=by rw[Ab,Qbx];rfl
  generalize upd HX lw (.lst (way.map V.str++[.str z]))=H5 at *;obtain⟨a,cd,v1,ca,v3,v4⟩:=K6 (hp4 H5 s5) hzn;obtain⟨o1,o2⟩:=okt _ v4;have o2:cd.many<=400:=o2;have fM:d≠lw:=λe=>by rw[e,c4] at g1;cases g1
  have g15:=s5 _ _ g1 fM;have g25:=s5 _ _ g2 nls;have hg:Ce H5 d (V.str z) (some (.ref a)):=by rw[<-v1];exact Ce.k (k:=Sum.inr z) g15
  have lnm:=Cd.K7 "term" cd;refine⟨_,rq,_,rq,d,_,rq,hg,a,cd,"term",rq,.inr rfl,ca,o1,o2,λl H6 hl hll s6=>⟨l,rq,⟨_,SqL.of hll⟩,λl2 hl2=>?_⟩⟩;rw[<-v3] at hll lnm;refine GK (xs:=(nmT ts z).map V.str) (λj U HY=>∃u,U=[u,jp ls]/\HY l2=some (.lst ((((nmT ts z).take j).filter λo=>decide (o∈Bq ts)).map V.str))/\Same H6 HY) ⟨_,rq,Ab,Ad hl2 _⟩ (λj U HY _ h=>?_) (λj x U HY hx h=>?_) (fun U HY h=>?_)
  ·obtain⟨u,rfl,k2,k3⟩:=h;exact SqL.of (k3 _ _ hll)
  ·obtain⟨u,rfl,k2,k3⟩:=h;rw[Qbd] at hx;obtain⟨y,hy,rfl⟩:=Qat.mp hx;have ll:(((nmT ts z).take j).filter λo=>decide (o∈Bq ts)).length<=400:=by
    have:=List.length_filter_le (λo=>decide (o∈Bq ts)) ((nmT ts z).take j);rw[Qbl] at this;omega
   have et:((nmT ts z).take (j+1)).filter (λo=>decide (o∈Bq ts))=((nmT ts z).take j).filter (λo=>decide (o∈Bq ts))++[y].filter (λo=>decide (o∈Bq ts)):=by rw[Qcm hy,List.filter_append]
   refine⟨_,rq,_,rq,ls,_,rq,.inl (SqL.of (k3 _ _ (s6 _ _ g25))),rq,Eh _,_,rq,Om (λhh=>?_) (λhh=>?_)⟩
   ·have hh:inV (V.str y) ((Bq ts).map V.str)=true:=hh;have hm:y∈Bq ts:=(Ci _ _).mp hh;refine⟨_,rq,_,k2,Av (by rw[Qbu];omega),_,rq,?_,k3.CW Af.upd hl2⟩;rw[Ab,et,Qbx,show [y].filter (λo=>decide (o∈Bq ts))=[y] from by simp[hm]]
    rfl
   ·have hh:inV (V.str y) ((Bq ts).map V.str)=false:=hh;have hm:y∉Bq ts:=λz=>by rw[(Ci _ _).mpr z] at hh;cases hh
    refine⟨_,rq,?_,k3⟩;rw[et,show [y].filter (λo=>decide (o∈Bq ts))=[] from by simp[hm],QbA]
    exact k2
  ·obtain⟨u,rfl,k2,k3⟩:=h;rw[Qbu,Qbk] at k2;obtain⟨o,r,hor⟩:=bA nd cl hw.stk;have k2:HY l2=some (.lst ((JD ts z).map V.str)):=k2;rw[hor] at k2;have s56:=s6.trans k3;refine⟨l2,_,_,_,rq,rq,SqL.of k2,Bm (j:=0) rfl,?_⟩;exact⟨way++[z],o,by rw[QaM];rfl,rq,hw.go hin (by rw[hor];exact QaO ..),⟨by rw[QaM];show way++[z]=(wk ts way.length).1++[(wk ts way.length).2];rw[<-hwk.1,<-hwk.2],by rw[QaM];show o=hdS (JD ts (wk ts way.length).2);rw[<-hwk.2,hor];rfl⟩,s56 _ _ c5,s5.trans (Af.of s56)⟩
end
abbrev Eb:Stmt:=top 12
abbrev Cj:YF:=["plan","rules"]
theorem Br:Bf ["plan","rules","sounding","at","word","call","condition"] Cj (Al Eb):=by ac_rfl
abbrev Hj:Stmt:=top 14
abbrev Ef:YF:=Cj
theorem CT:Bf ["plan","rules","sounded","spot","kind","address"] Ef (Al Hj):=by ac_rfl
structure Tc (K:YD) (mg:YB) (sk:Addr):Prop extends Nm mg where
 SOUNDING_KINDS:∃u,mg "SOUNDING_KINDS"=some u/\RelV (.ref sk) u
 skT:∀H,SqT K H sk [.str "bell",.str "door"]
def Rj (k:Str):Bool:=inV (.str k) [.str "bell",.str "door"]
def JH {κ : Type} [DecidableEq κ] (ks:List κ) (k:κ):List κ:=if k∈ks then ks else ks++[k]
theorem LQ {κ : Type} [DecidableEq κ] {ks:List κ} {k x:κ}:x∈JH ks k ↔ x∈ks\/x=k:=by
 unfold JH;split
 ·rename_i h;exact⟨.inl,λz=>z.elim id λe=>e ▸ h⟩
 ·rw[Qbv,QaP]
theorem LR {κ : Type} [DecidableEq κ] {ks:List κ} {k:κ}:(JH ks k).length<=ks.length+1:=by
 unfold JH;split
 ·omega
 ·rw[QaM];exact Qce _
theorem Ol {ks:List Key} {k:Key}:putK (kTr id ks) k (.bl true)=kTr id (JH ks k):=by
 unfold JH;by_cases h:k∈ks
 ·rw[if_pos h];refine QH (λkv hkv=>?_) (by rw[Jj,List.map_id];exact QbK h);unfold kTr at hkv;obtain⟨y,_,rfl⟩:=QbZ.mp hkv;rfl
 ·rw[if_neg h];exact Tw (f:=id) (by rw[List.map_id];exact h)
theorem Rg {ks:List Key} {k:Key}:(BW (kTr id ks) k).isSome=decide (k∈ks):=by
 rw[Jj];simp
def dvs (ja:YU):List Sd:=up (pdL ja) ja.length
def sdA (ds:List Sd):List Int:=(ds.filter λd=>Rj d.kind).map (·.addr)
def nbR (as:List Int) (i:Nat):Ru->Option (YG)
 | .term _ _=>none
 | .sound n _=>if (n:Int)∈as then none else some [.str "bell",.int (i:Int)]
def nbF (rs:List Ru) (as:List Int) (i:Nat):Option (YG):=match rs[i]? with
 | none=>none
 | some r=>nbR as i r
def nbM (rs:List Ru) (as:List Int):Option (YG):=(List.range rs.length).findSome? (nbF rs as)
theorem M9 {rs:List Ru} {as:List Int} {i:Nat} {r:Ru} (h:rs[i]?=some r):nbF rs as i=nbR as i r:=by
 unfold nbF;rw[h]
def Ju (rs:List Ru):List Int:=rs.filterMap λr=>match r with | .term _ _=>none | .sound n _=>some (n:Int)
def bsR (rs:List Ru) (d:Sd):Option (YG):=if d.kind="bell"/\d.addr∉Ju rs then some [.str "still",.int d.addr] else none
def bsM (rs:List Ru) (ds:List Sd):Option (YG):=ds.findSome? (bsR rs)
theorem Z1 {ja:YU} (ok:Mp ja):(dvs ja).length<=144:=by
 have:=J1 (Tf ok) ja.length;have:=ok.hi;unfold dvs;omega
def aK:Sp:=λvs H Q _=>∃pl t ja rs,vs=[.ref pl,.ref t]/\EY H pl ja/\Mp ja/\Fq H t rs/\Hz rs/\∀v H',Hy H' v (nbM rs (sdA (dvs ja)))->Same H H'->Q v H'
def aL:Sp:=λvs H Q _=>∃pl t ja rs,vs=[.ref pl,.ref t]/\EY H pl ja/\Mp ja/\Fq H t rs/\Hz rs/\∀v H',Hy H' v (bsM rs (dvs ja))->Same H H'->Q v H'
theorem U3:("sound":Str)≠"term"/\("term":Str)≠"sound":=by trivial
section
variable {P:Program} {w:World} {K:YD} {mg:YB} {base:Heap} {sk:Addr}
abbrev xb:YF:=["spot","kind","address"]
theorem JW (c:Code K mg "row_without_bell" Eb Cj) (T:Tc K mg sk) (Ks:Good P w K mg base "devices" 2 Fy Uj):Good P w K mg base "row_without_bell" 3 Cj aK:=by
 have sc:=Br;refine c.good Br (λvs H Q E h=>?_) (λf cdv A outer s H vs Q E hr h=>?_)
 ·obtain⟨pl,t,ja,rs,rfl,_⟩:=h;rfl
 obtain⟨pl,t,ja,rs,rfl,pa,okl,⟨xs,ht,hp⟩,⟨l16,_⟩,q⟩:=h;refine⟨_,(Ae (Lz (i:=2) Br.nd rfl (Or.inl rfl) (N':=xb) rfl (Bo.plain rfl (by trivial) (by trivial) (by trivial)) (CV (Ba Ks hr (Aa (pv 0) Ac))) (λ_ _ _ _=>(K4 (K:=K) (n:=3) rfl rfl (Am (Ak (i:=0) (show List.Nodup (xb:YF) by trivial) rfl (Or.inl rfl)) (Am (Ak (i:=1) (show List.Nodup (xb:YF) by trivial) rfl (Or.inl rfl)) (Am (Ak (i:=2) (show List.Nodup (xb:YF) by trivial) rfl (Or.inl rfl)) BK))))) (λ_ _ _ _=>(Gx (Bd (JC (K:=K) rfl) (pv 1) (aZ rfl T.SOUNDING_KINDS) (by with_unfolding_all rfl)))) (λ_ _ _ _=>(pv 2)) (λ_ _ _ _=>Ep))
 (Ae (BL Qbz rfl (JB rfl T.enumerate (pv 1)) (CG rfl (Am (Ak (i:=3) Br.nd rfl (Or.inl rfl)) (Am (CG rfl (Am (Ak (i:=4) Br.nd rfl (Or.inl rfl)) (Am (Ak (i:=5) Br.nd rfl (Or.inl rfl)) (Am (Ak (i:=6) Br.nd rfl (Or.inl rfl)) BK)))) BK)))
 (Ai (BX (PW.pt (VP (Bd FW (pv 4) Ax (Bw _)) (S9 (MF (Kl (Dh hr) (pv 5) (pv 2)))))) (Ai (Ay (Bc (Aa Ax (Aa (pv 3) Ac))))) Bk)))
 (Ai (Ay Jc)))),?_⟩
 have lx:=QbO hp;refine⟨_,rq,pl,ja,rq,pa,okl,λl ys H1 hl hy hpy s1=>⟨l,rq,⟨_,SqL.of hy⟩,λd hd=>?_⟩⟩;have j7:=Z1 okl;have ly:=QbO hpy;have hpy:Paired (Gq H1) ys (dvs ja):=hpy;have ly:ys.length=(dvs ja).length:=ly;generalize dvs ja=ds at *;refine Sw (xs:=ys) (λi U HH=>∃u2 u3 u4 ks,U=[u2,u3,u4]/\HH d=some (.dK (kTr id ks))/\ks.length<=i/\(∀k:Key,k∈ks ↔ ∃a∈sdA (ds.take i),k=.inl a)/\Same H1 HH) ⟨_,_,_,[],rfl,Ab,Qce _,(λk=>⟨(λh=>by cases h),(λ⟨a,h,_⟩=>by cases h)⟩),Ad hd _⟩ (λi U HH _ h=>?_) (λi x U HH hx' h=>?_) (fun U HH h=>?_)
 ·obtain⟨u2,u3,u4,ks,rfl,e1,e2,e3,e4⟩:=h;exact SqL.of (e4 _ _ hy)
 ·obtain⟨u2,u3,u4,ks,rfl,e1,e2,e3,e4⟩:=h;obtain⟨z,hzi,tz,uz,rfl,h1,h2⟩:=Cw hpy hx';have il:=(Qag.mp hzi).1;have et:sdA (ds.take (i+1))=sdA (ds.take i)++(if Rj z.kind=true then [z.addr] else []):=by
   unfold sdA;rw[Qcm hzi,List.filter_append,Qbx];congr 1;by_cases h:Rj z.kind=true
   ·rw[if_pos h];simp[h]
   ·rw[if_neg h];simp[h]
  refine⟨tz,_,rq,SqT.of (e4 _ _ h1),rq,_,_,rq,_,_,rq,_,_,rq,rq,?_⟩;refine⟨_,rq,sk,_,rq,.inr (T.skT HH),rq,rq,_,rq,?_⟩;rw[if_neg QaN];refine Om (λhc=>?_) (λhc=>?_)
  ·have hc:Rj z.kind=true:=hc;rw[if_pos hc] at et;refine⟨_,rq,_,Sum.inl z.addr,e1,rq,Av (by unfold kTr;rw[Qbu];omega),_,_,_,JH ks (.inl z.addr),rq,?_,QbY LR (by omega),λk=>?_,e4.CW Af.upd hd⟩
   ·rw[Ab,Ol]
   ·rw[LQ,e3,et];constructor
    ·rintro (⟨a,ha,rfl⟩| rfl)
     ·exact⟨a,QaF _ ha,rq⟩
     ·exact⟨_,Qav _ (by simp),rq⟩
    ·rintro ⟨a,ha,rfl⟩;rcases Qbv.mp ha with ha | ha
     ·exact .inl ⟨a,ha,rq⟩
     ·exact .inr (by rw[QaP.mp ha])
  ·have hc:Rj z.kind=false:=hc;rw[if_neg (by rw[hc];decide),QbA] at et;refine⟨_,_,_,ks,rq,e1,by omega,?_,e4⟩;rw[et];exact e3
 obtain⟨u2,u3,u4,ks,rfl,e1,e2,e3,e4⟩:=h;rw[ly,Qbk] at e3;have s2:=s1.trans e4;refine⟨_,rq,t,rq,⟨xs,SqT.of (s2 _ _ ht)⟩,?_⟩;refine Gp (xs:=xs) (lo:=0) (λi U HX=>∃u3 u4 u5 u6,U=[jp pl,jp t,jp d,u3,u4,u5,u6]/\Same HH HX/\((List.range rs.length).take i).findSome? (nbF rs (sdA ds))=none) ⟨_,_,_,_,rq,Same.refl _,rq⟩ (λi U HX _ h=>?_) (λi x pt U HX hx h hpt=>?_) (fun U HX h=>?_)
 ·obtain⟨u3,u4,u5,u6,rfl,f1,f2⟩:=h;exact SqT.of (f1 _ _ (s2 _ _ ht))
 ·obtain⟨u3,u4,u5,u6,rfl,f1,f2⟩:=h;obtain⟨r,hri,tr,a,rfl,h1,h2⟩:=Cw hp hx;have hi:i < rs.length:=(Qag.mp hri).1;have s3:=Ad hpt (.tup [.int ((0+i:Nat):Int),.ref tr]);have c1:upd HX pt (.tup [.int ((0+i:Nat):Int),.ref tr]) pt=some (.tup [.int ((0+i:Nat):Int),.ref tr]):=Ab;generalize upd HX pt (.tup [.int ((0+i:Nat):Int),.ref tr])=H2 at *;have f1:=f1.trans s3;have s02:=s2.trans f1;rw[Nat.zero_add] at c1;refine⟨pt,_,rq,SqT.of c1,rq,_,_,rq,_,_,rq,tr,_,rq,SqT.of (s02 _ _ h1),rq,_,_,rq,_,_,rq,_,_,rq,rq,rq,?_⟩;refine⟨_,rq,rq,_,rq,?_⟩;cases r with
  | term z c=>
   refine ifS (λe=>absurd e U3.2) (λ_=>?_);refine⟨_,_,_,_,rq,f1,Gn (Fi hi) f2 (by rw[M9 hri];rfl)⟩
  | sound n c=>
   refine ifS (λ_=>?_) (λe=>absurd rfl e);refine⟨_,rq,_,rq,d,_,rq,Ce.k (k:=Sum.inl (n:Int)) (f1 _ _ e1),_,rq,?_⟩;rw[Rg];by_cases hm:(n:Int)∈sdA ds
   ·rw[QbK ((e3 _).mpr ⟨_,hm,rq⟩)];exact Bx ⟨_,_,_,_,rq,f1,Gn (Fi hi) f2 (by rw[M9 hri];exact if_pos hm)⟩
   ·rw[Qbw (λz=>by
     obtain⟨b,hb,eb⟩:=(e3 _).mp z;cases eb;exact hm hb)]
    refine CP ⟨_,rq,Ao (by show 2<=1000;decide),λp2 hp2=>q _ _ ?_ (s02.trans (Ad hp2 _))⟩;have:nbM rs (sdA ds)=some [.str "bell",.int (i:Int)]:=Ku (Fi hi) f2 (by rw[M9 hri];exact if_neg hm);rw[this];exact⟨p2,rq,Ab,by simp⟩
 ·obtain⟨u3,u4,u5,u6,rfl,f1,f2⟩:=h;rw[lx] at f2;refine q _ _ ?_ (s2.trans f1);have:nbM rs (sdA ds)=none:=G9 Qbi f2;rw[this];rfl
abbrev xc:YF:=["word","call","condition"]
theorem PX (c:Code K mg "bell_still" Hj Ef) (T:Tc K mg sk) (Ks:Good P w K mg base "devices" 2 Fy Uj):Good P w K mg base "bell_still" 3 Ef aL:=by
 have sc:=CT;refine c.good CT (λvs H Q E h=>?_) (λf cdv A outer s H vs Q E hr h=>?_)
 ·obtain⟨pl,t,ja,rs,rfl,_⟩:=h;rfl
 obtain⟨pl,t,ja,rs,rfl,pa,okl,⟨xs,ht,hp⟩,⟨l16,_⟩,q⟩:=h;refine⟨_,(Ae (Lz (i:=2) CT.nd rfl (Or.inl rfl) (N':=xc) rfl (Bo.plain rfl (by trivial) (by trivial) (by trivial)) (Kf (pv 1)) (λ_ _ _ _=>(K4 (K:=K) (n:=3) rfl rfl (Am (Ak (i:=0) (show List.Nodup (xc:YF) by trivial) rfl (Or.inl rfl)) (Am (Ak (i:=1) (show List.Nodup (xc:YF) by trivial) rfl (Or.inl rfl)) (Am (Ak (i:=2) (show List.Nodup (xc:YF) by trivial) rfl (Or.inl rfl)) BK))))) (λ_ _ _ _=>(Gx (Bd FW (pv 0) Ax (Bw _)))) (λ_ _ _ _=>(pv 1)) (λ_ _ _ _=>Ep))
 (Ae (BL Qbz rfl (CV (Ba Ks hr (Aa (pv 0) Ac))) (CG rfl (Am (Ak (i:=3) CT.nd rfl (Or.inl rfl)) (Am (Ak (i:=4) CT.nd rfl (Or.inl rfl)) (Am (Ak (i:=5) CT.nd rfl (Or.inl rfl)) BK))))
 (Ai (BX (PW.pt (VP (Bd FW (pv 4) Ax (Bw _)) (S9 (MF (Kl (Dh hr) (pv 5) (pv 2)))))) (Ai (Ay (Bc (Aa Ax (Aa (pv 5) Ac))))) Bk)))
 (Ai (Ay Jc)))),?_⟩
 have lx:=QbO hp;refine⟨_,rq,t,rq,⟨_,SqT.of ht⟩,λd hd=>?_⟩;refine Ky (xs:=xs) (λi U HH=>∃u2 u3 u4 ks,U=[u2,u3,u4]/\HH d=some (.dK (kTr id ks))/\ks.length<=i/\(∀k:Key,k∈ks ↔ ∃a∈Ju (rs.take i),k=.inl a)/\Same H HH) ⟨_,_,_,[],rfl,Ab,Qce _,(λk=>⟨(λh=>by cases h),(λ⟨a,h,_⟩=>by cases h)⟩),Ad hd _⟩ (λi U HH _ h=>?_) (λi x U HH hx h=>?_) (fun U HH h=>?_)
 ·obtain⟨u2,u3,u4,ks,rfl,e1,e2,e3,e4⟩:=h;exact SqT.of (e4 _ _ ht)
 ·obtain⟨u2,u3,u4,ks,rfl,e1,e2,e3,e4⟩:=h;obtain⟨r,hri,tr,a,rfl,h1,h2⟩:=Cw hp hx;have il:=(Qag.mp hri).1;refine⟨tr,_,rq,SqT.of (e4 _ _ h1),rq,_,_,rq,_,_,rq,_,_,rq,rq,?_⟩;refine⟨_,rq,rq,_,rq,?_⟩;have et:Ju (rs.take (i+1))=Ju (rs.take i)++Ju [r]:=by
   unfold Ju;rw[Qcm hri,Qax]
  cases r with
  | term z c=>
   refine ifS (λe=>absurd e U3.2) (λ_=>?_);have:Ju [Ru.term z c]=[]:=rfl;rw[this,QbA] at et;refine⟨_,_,_,ks,rq,e1,by omega,?_,e4⟩;rw[et];exact e3
  | sound n c=>
   refine ifS (λ_=>?_) (λe=>absurd rfl e);have:Ju [Ru.sound n c]=[(n:Int)]:=rfl;rw[this] at et;refine⟨_,rq,_,Sum.inl (n:Int),e1,rq,Av (by unfold kTr;rw[Qbu];omega),_,_,_,JH ks (.inl (n:Int)),rq,?_,QbY LR (by omega),λk=>?_,e4.CW Af.upd hd⟩
   ·rw[Ab,Ol]
   ·rw[LQ,e3,et];constructor
    ·rintro (⟨a,ha,rfl⟩| rfl)
     ·exact⟨a,QaF _ ha,rq⟩
     ·exact⟨_,Qav _ (by simp),rq⟩
    ·rintro ⟨a,ha,rfl⟩;rcases Qbv.mp ha with ha | ha
     ·exact .inl ⟨a,ha,rq⟩
     ·exact .inr (by rw[QaP.mp ha])
 obtain⟨u2,u3,u4,ks,rfl,e1,e2,e3,e4⟩:=h;rw[lx,Qbk] at e3;obtain⟨v0,v2,Ls,vs,hpl,hLs,hlo⟩:=pa;have paH:EY HH pl ja:=⟨v0,v2,Ls,vs,e4 _ _ hpl,e4 _ _ hLs,Paired.Bt hlo λ_ _ z=>z.tups (Aq.of e4)⟩;refine⟨_,rq,pl,ja,rq,paH,okl,λl ys H1 hl hy hpy s1=>⟨l,rq,⟨_,SqL.of hy⟩,?_⟩⟩;have ly:=QbO hpy;have hpy:Paired (Gq H1) ys (dvs ja):=hpy;have ly:ys.length=(dvs ja).length:=ly;generalize dvs ja=ds at *;have s01:=e4.trans s1;refine Hv (xs:=ys) (λi U HX=>∃u3 u4 u5,U=[jp pl,jp t,jp d,u3,u4,u5]/\HX=H1/\(ds.take i).findSome? (bsR rs)=none) ⟨_,_,_,rq,rq,rq⟩ (λi U HX _ h=>?_) (λi x U HX hx h=>?_) (fun U HX h=>?_)
 ·obtain⟨u3,u4,u5,rfl,rfl,f2⟩:=h;exact SqL.of hy
 ·obtain⟨u3,u4,u5,rfl,rfl,f2⟩:=h;obtain⟨z,hzi,tz,uz,rfl,h1,h2⟩:=Cw hpy hx;refine⟨tz,_,rq,SqT.of h1,rq,_,_,rq,_,_,rq,_,_,rq,rq,?_⟩;refine⟨_,rq,rq,_,rq,ifS (λe=>?_) (λe=>?_)⟩
  ·refine⟨_,rq,_,rq,d,_,rq,Ce.k (k:=Sum.inl z.addr) (s1 _ _ e1),_,rq,?_⟩;rw[Rg];by_cases hm:z.addr∈Ju rs
   ·rw[QbK ((e3 _).mpr ⟨_,hm,rq⟩)];exact Bx ⟨_,_,_,rq,rq,Gn hzi f2 (if_neg λh=>h.2 hm)⟩
   ·rw[Qbw (λq=>by
     obtain⟨b,hb,eb⟩:=(e3 _).mp q;cases eb;exact hm hb)]
    refine CP ⟨_,rq,Ao (by show 2<=1000;decide),λp2 hp2=>q _ _ ?_ (s01.trans (Ad hp2 _))⟩;have:bsM rs ds=some [.str "still",.int z.addr]:=Ku hzi f2 (if_pos ⟨e,hm⟩);rw[this];exact⟨p2,rq,Ab,by simp⟩
  ·exact⟨_,_,_,rq,rq,Gn hzi f2 (if_neg λh=>e h.1)⟩
 ·obtain⟨u3,u4,u5,rfl,rfl,f2⟩:=h;refine q _ _ ?_ s01;have:bsM rs ds=none:=G9 ly.symm f2;rw[this];rfl
end
abbrev GP:Stmt:=top 15
abbrev DN:YF:=Cj
theorem Ge:Bf ["plan","rules","zones"] DN (Al GP):=by ac_rfl
def ZnV (H:Hp) (v:V) (z:Str):Prop:=∃t a,v=.ref t/\H t=some (.tup [.str z,a])
def PlZ (H:Hp) (pl:Addr) (zn:YF):Prop:=∃x y zs zvs,H pl=some (.tup [x,y,.ref zs])/\H zs=some (.tup zvs)/\Paired (ZnV H) zvs zn
theorem PlZ.tups {H H':Hp} {pl:Addr} {zn:YF} (s:Aq H H') (h:PlZ H pl zn):PlZ H' pl zn:=by
 obtain⟨x,y,zs,zvs,h1,h2,h3⟩:=h;refine⟨x,y,zs,zvs,s _ _ h1,s _ _ h2,Paired.Bt h3 λ_ _ zz=>?_⟩;obtain⟨t,a,e,q⟩:=zz;exact⟨t,a,e,s _ _ q⟩
theorem EY.tups {H H':Hp} {pl:Addr} {ja:YU} (s:Aq H H') (h:EY H pl ja):EY H' pl ja:=by
 obtain⟨v0,v2,Ls,vs,hpl,hLs,hlo⟩:=h;exact⟨v0,v2,Ls,vs,s _ _ hpl,s _ _ hLs,Paired.Bt hlo λ_ _ z=>z.tups s⟩
theorem aQ {rs:List Ru} (h:rTw rs=none):(rs.map Ru.key).Nodup:=by
 unfold rTw at h;rw[Qad] at h;refine Qai.mpr λi j hi hj hij e=>?_;rw[Qbu] at hj;have:=h j (List.mem_range.mpr hj);rw[QF (Qal hj) (by
  rw[List.getElem_map,List.getElem_map] at e;rw[<-e,<-List.getElem_map Ru.key (h:=by rw[Qbu];omega),List.map_take];exact List.mem_take_iff_getElem.mpr ⟨i,by rw[Qbu];omega,rq⟩)] at this
 cases this
theorem Q0:∀{rs:List Ru},(rs.map Ru.key).Nodup->(Ah (trm rs)).Nodup
 | [],_=>QbN
 | .sound n c::r,h=>by
  rw[QbQ,QbB] at h;have ih:=Q0 h.2;exact ih
 | .term z c::r,h=>by
  rw[QbQ,QbB] at h;have ih:=Q0 h.2;show (z::Ah (trm r)).Nodup;refine QbB.mpr ⟨λhz=>h.1 ?_,ih⟩;obtain⟨p,hp,rfl⟩:=QbZ.mp hz;exact QbZ.mpr ⟨_,Iw hp,rq⟩
theorem cF {rs:List Ru} {tl:Str} (h:nmM rs "term" tl (Ah (trm rs))=none):Ir (trm rs):=by
 unfold nmM at h;rw[Qad] at h;intro p hp o ho;obtain⟨i,hi⟩:=QaE (Iw hp);have:=h i (List.mem_range.mpr (Qag.mp hi).1);rw[M7 hi,Qad] at this;have:=this o ho;unfold nmR at this;by_cases c:o∈Ah (trm rs)
 ·exact c
 ·rw[if_neg c] at this;cases this
theorem Vs {H:Hp} {kvs:YM} {ts:List (Str×Cd)} (h:Paired (TmV H) kvs ts) (z:Str):(BW kvs (.inr z)).isSome=decide (z∈Ah ts):=by
 by_cases c:z∈Ah ts
 ·obtain⟨a,cd,e,_⟩:=K6 h c;rw[e,QbK c];rfl
 ·rw[Qbw c,tm_val h λp hp e=>c (by rw[<-e];exact Q7 hp)];rfl
def w4 (ja:YU) (zn:YF) (rs:List Ru):Option (YG):=orO (rTw rs) (orO (nmM rs "of" "zone" zn) (orO (nmM rs "term" "term" (Ah (trm rs))) (nbM rs (sdA (dvs ja)))))
def cN (H:Hp) (ja:YU) (zn:YF) (rs:List Ru) (v:V):Prop:=
 (w4 ja zn rs≠none/\Hy H v (w4 ja zn rs))\/(w4 ja zn rs=none/\Bq (trm rs)≠[]/\Im H (trm rs) v)\/(w4 ja zn rs=none/\Bq (trm rs)=[]/\Hy H v (bsM rs (dvs ja)))
def aG:Sp:=λvs H Q _=>∃pl t ja zn rs,vs=[.ref pl,.ref t]/\EY H pl ja/\Mp ja/\PlZ H pl zn/\zn.length<=8/\Fq H t rs/\Hz rs/\∀v H',cN H' ja zn rs v->Same H H'->Q v H'
theorem W5 {K:YD} {H:Hp} {ts:List (Str×Cd)} {v:V} (h:Im H ts v) (n:Bq ts≠[]):Oz K v H true:=by
 rcases h with⟨e,_⟩|⟨_,a,b,ys,rfl,h1,_⟩
 ·exact absurd e n
 ·exact .inr (.inl ⟨_,SqT.of h1,rq⟩)
section
variable {P:Program} {w:World} {K:YD} {mg:YB} {base:Heap} {sk:Addr}
abbrev xh:YF:=["name","addresses"]
theorem Od (c:Code K mg "rules_wrong" GP DN) (T:Tc K mg sk) (Sq:Good P w K mg base "row_twice" 1 Et YZ) (Jk:Good P w K mg base "name_missing" 10 Dn Y4) (JL:Good P w K mg base "terms_of" 1 Er Ui) (Kr:Good P w K mg base "row_without_bell" 3 Cj aK) (Rn:Good P w K mg base "terms_ring" 11 Ec Vx) (Rp:Good P w K mg base "bell_still" 3 Ef aL):Good P w K mg base "rules_wrong" 12 DN aG:=by
 have sc:=Ge;refine c.good Ge (λvs H Q E h=>?_) (λf cdv A outer s H vs Q E hr h=>?_)
 ·obtain⟨pl,t,ja,zn,rs,rfl,_⟩:=h;rfl
 obtain⟨pl,t,ja,zn,rs,rfl,pa,okl,⟨x0,y0,zs,zvs,z1,z2,z3⟩,z8,ru,ok,q⟩:=h;refine⟨_,(Ae (Lz (i:=2) Ge.nd rfl (Or.inl rfl) (N':=xh) rfl (Bo.plain rfl (by trivial) (by trivial) (by trivial)) (Kf (Bg Ck (pv 0) Ag (λ_ _=>rfl))) (λ_ _ _ _=>(K4 (K:=K) (n:=2) rfl rfl (Am (Ak (i:=0) (show List.Nodup (xh:YF) by trivial) rfl (Or.inl rfl)) (Am (Ak (i:=1) (show List.Nodup (xh:YF) by trivial) rfl (Or.inl rfl)) BK)))) (λ_ _ _ _=>Kg) (λ_ _ _ _=>(pv 0)) (λ_ _ _ _=>Ep))
 (Ai (Ay (Kh (K:=K) rfl (Ba Sq hr (Aa (pv 1) Ac)) (Kh (K:=K) rfl (Ba Jk hr (Aa (pv 1) (Aa Ax (Aa Ax (Aa (pv 2) Ac))))) (Kh (K:=K) rfl (Ba Jk hr (Aa (pv 1) (Aa Ax (Aa Ax (Aa (Ba JL hr (Aa (pv 1) Ac)) Ac))))) (Kh (K:=K) rfl (Ba Kr hr (Aa (pv 0) (Aa (pv 1) Ac))) (Kh (K:=K) rfl (Ba Rn hr (Aa (pv 1) Ac)) (aY (Ba Rp hr (Aa (pv 0) (Aa (pv 1) Ac)))))))))))),?_⟩
 have lz:=QbO z3;refine⟨_,rq,pl,_,_,_,rq,rq,SqT.of z1,Bm (j:=2) rfl,zs,rq,⟨_,SqT.of z2⟩,λd hd=>?_⟩;refine Ky (xs:=zvs) (λi U HH=>∃u2 u3 ks,U=[u2,u3]/\HH d=some (.dK (kTr id ks))/\ks.length<=i/\(∀k:Key,k∈ks ↔ ∃a∈zn.take i,k=.inr a)/\Same H HH) ⟨_,_,[],rfl,Ab,Qce _,(λk=>⟨(λh=>by cases h),(λ⟨a,h,_⟩=>by cases h)⟩),Ad hd _⟩ (λi U HH _ h=>?_) (λi x U HH hx h=>?_) (fun U HH h=>?_)
 ·obtain⟨u2,u3,ks,rfl,e1,e2,e3,e4⟩:=h;exact SqT.of (e4 _ _ z2)
 ·obtain⟨u2,u3,ks,rfl,e1,e2,e3,e4⟩:=h;obtain⟨z,hzi,tz,az,rfl,h1⟩:=Cw z3 hx;have il:=(Qag.mp hzi).1;refine⟨tz,_,rq,SqT.of (e4 _ _ h1),rq,_,_,rq,_,_,rq,rq,?_⟩;refine CP ⟨_,rq,_,Sum.inr z,e1,rq,Av (by unfold kTr;rw[Qbu];omega),_,_,JH ks (.inr z),rq,?_,QbY LR (by omega),λk=>?_,e4.CW Af.upd hd⟩
  ·rw[Ab,Ol]
  ·rw[LQ,e3,Qcm hzi];constructor
   ·rintro (⟨a,ha,rfl⟩| rfl)
    ·exact⟨a,QaF _ ha,rq⟩
    ·exact⟨_,Qav _ (by simp),rq⟩
   ·rintro ⟨a,ha,rfl⟩;rcases Qbv.mp ha with ha | ha
    ·exact .inl ⟨a,ha,rq⟩
    ·exact .inr (by rw[QaP.mp ha])
 obtain⟨u2,u3,ks,rfl,e1,e2,e3,e4⟩:=h;rw[lz,Qbk] at e3;have hzn:∀z:Str,(BW (kTr id ks) (.inr z)).isSome=decide (z∈zn):=λz=>by
  rw[Rg,QbG,QaT,QaT,e3];constructor
  ·rintro ⟨a,ha,e⟩;rw[Qcg e];exact ha
  ·exact λh=>⟨z,h,rq⟩
 refine⟨_,rq,t,rs,rq,ru.same e4,ok,λv1 H1 w1 s1=>?_⟩;cases c1:rTw rs with
 | some x1=>
  rw[c1] at w1;refine⟨true,Jr w1,CP (q _ _ (.inl ⟨?_,?_⟩) (e4.trans s1))⟩
  ·unfold w4;rw[c1];simp[orO]
  ·unfold w4;rw[c1];exact w1
 | none=>
 have nd:=Q0 (aQ c1);rw[c1] at w1;have s01:=e4.trans s1;refine⟨false,Js w1,Bx ⟨_,rq,_,rq,t,"of","zone",d,_,rs,zn,rq,.inl rfl,ru.same s01,ok,s1 _ _ e1,hzn,λv2 H2 w2 s2=>?_⟩⟩;have s02:=s01.trans s2;cases c2:nmM rs "of" "zone" zn with
 | some x2=>
  rw[c2] at w2;refine⟨true,Jr w2,CP (q _ _ (.inl ⟨?_,?_⟩) s02)⟩
  ·unfold w4;rw[c1,c2];simp[orO]
  ·unfold w4;rw[c1,c2];exact w2
 | none=>
 rw[c2] at w2;refine⟨false,Js w2,Bx ⟨_,rq,_,rq,t,rs,rq,ru.same s02,ok,nd,λd2 kvs H3 hd2 hk2 hp2 s3=>?_⟩⟩;have s03:=s02.trans s3;refine⟨t,"term","term",d2,kvs,rs,Ah (trm rs),rq,.inr rfl,ru.same s03,ok,hk2,Vs hp2,λv4 H4 w4' s4=>?_⟩;have s04:=s03.trans s4;cases c3:nmM rs "term" "term" (Ah (trm rs)) with
 | some x3=>
  rw[c3] at w4';refine⟨true,Jr w4',CP (q _ _ (.inl ⟨?_,?_⟩) s04)⟩
  ·unfold w4;rw[c1,c2,c3];simp[orO]
  ·unfold w4;rw[c1,c2,c3];exact w4'
 | none=>
 have cl:=cF c3;rw[c3] at w4';refine⟨false,Js w4',Bx ⟨_,rq,_,rq,pl,t,ja,rs,rq,pa.tups (Aq.of s04),okl,ru.same s04,ok,λv5 H5 w5 s5=>?_⟩⟩;have s05:=s04.trans s5;cases c4:nbM rs (sdA (dvs ja)) with
 | some x4=>
  rw[c4] at w5;refine⟨true,Jr w5,CP (q _ _ (.inl ⟨?_,?_⟩) s05)⟩
  ·unfold w4;rw[c1,c2,c3,c4];simp[orO]
  ·unfold w4;rw[c1,c2,c3,c4];exact w5
 | none=>
 have e4n:w4 ja zn rs=none:=by unfold w4;rw[c1,c2,c3,c4];rfl
 rw[c4] at w5;refine⟨false,Js w5,Bx ⟨_,rq,t,rs,rq,ru.same s05,ok,nd,cl,λv6 H6 w6 s6=>?_⟩⟩;have s06:=s05.trans s6;by_cases cs:Bq (trm rs)=[]
 ·rcases w6 with⟨_,rfl⟩|⟨n,_⟩
  ·refine⟨false,rq,Bx ⟨_,rq,_,rq,pl,t,ja,rs,rq,pa.tups (Aq.of s06),okl,ru.same s06,ok,λv7 H7 w7 s7=>?_⟩⟩;exact q _ _ (.inr (.inr ⟨e4n,cs,w7⟩)) (s06.trans s7)
  ·exact absurd cs n
 ·exact⟨true,W5 w6 cs,CP (q _ _ (.inr (.inl ⟨e4n,cs,w6⟩)) s06)⟩
end
abbrev El:Stmt:=top 22
abbrev Dp:YF:=["_law_rows"]
abbrev xn:YF:=["_law_rows","_law_leads","_law_row","_law_turn","_law_name_here","_law_more","_law_other"]
theorem BJ:Bf xn Dp (Al El):=by ac_rfl
def LdV (H:Hp) (lf:Str->YF) (kv:Key×V) (z:Str):Prop:=kv.1=.inr z/\∃a,kv.2=.ref a/\H a=some (.lst ((lf z).map V.str))
theorem Kp {H:Hp} {lf:Str->YF} {z:Str}:∀{kvs:YM} {ns:YF},Paired (LdV H lf) kvs ns->z∈ns->∃a,BW kvs (.inr z)=some (.ref a)/\H a=some (.lst ((lf z).map V.str))
 | _,_,.nil,h=>by cases h
 | _,_,.cons (a:=kv) (b:=y) x r,h=>by
  obtain⟨e1,a,e2,ha⟩:=x;by_cases e:y=z
  ·subst e;exact⟨a,by rw[Gb e1,e2],ha⟩
  ·obtain⟨b,f1,f2⟩:=Kp r (by rcases QbP.mp h with h | h;exact absurd h.symm e;exact h);exact⟨b,by rw[Dv (λq=>e (by rw[e1] at q;exact Qcg q))];exact f1,f2⟩
theorem Tr {H:Hp} {lf:Str->YF} {z:Str}:∀{kvs:YM} {ns:YF},Paired (LdV H lf) kvs ns->z∉ns->BW kvs (.inr z)=none
 | _,_,.nil,_=>rfl
 | _,_,.cons (a:=kv) (b:=y) x r,h=>by
  rw[Dv (λq=>h (by rw[x.1] at q;rw[<-(Qcg q:y=z)];exact QaO ..))];exact Tr r λq=>h (QaC _ q)
def upS (lf:Str->YF) (z:Str) (ms:YF):Str->YF:=λx=>if x=z then ms else lf x
theorem Qo (lf:Str->YF) (z:Str) (ms:YF):upS lf z ms z=ms:=if_pos rfl
theorem Vn {lf:Str->YF} {z x:Str} {ms:YF} (n:x≠z):upS lf z ms x=lf x:=if_neg n
theorem Tt {H:Hp} {lf:Str->YF}:∀{kvs:YM} {ns:YF},Paired (LdV H lf) kvs ns->kvs.map (λkv=>kV kv.1)=ns.map V.str
 | _,_,.nil=>rfl
 | _,_,.cons x r=>by rw[QbQ,QbQ,x.1,Tt r];rfl
theorem Wc {H:Hp} {lf:Str->YF} {z:Str} {ms:YF} {l:Addr} (hl:H l=some (.lst (ms.map V.str))):∀{kvs:YM} {ns:YF},Paired (LdV H lf) kvs ns->Paired (LdV H (upS lf z ms)) (kvs.map λkv=>if kv.1=.inr z then (kv.1,.ref l) else kv) ns
 | _,_,.nil=>.nil
 | _,_,.cons (a:=kv) (b:=y) x r=>by
  obtain⟨e1,a,e2,ha⟩:=x;refine .cons ?_ (Wc hl r);dsimp only;by_cases e:y=z
  ·subst e;rw[if_pos e1];exact⟨e1,l,rq,by rw[Qo];exact hl⟩
  ·rw[if_neg (λq=>e (by rw[e1] at q;exact Qcg q))];exact⟨e1,a,e2,by rw[Vn e];exact ha⟩
theorem bK {H:Hp} {lf:Str->YF} {z:Str} {ms:YF} {l:Addr} {kvs:YM} {ns:YF} (h:Paired (LdV H lf) kvs ns) (hz:z∈ns) (hl:H l=some (.lst (ms.map V.str))):Paired (LdV H (upS lf z ms)) (putK kvs (.inr z) (.ref l)) ns:=by
 obtain⟨a,e,_⟩:=Kp h hz;unfold putK;have e1:(kvs.any λkv=>decide (kv.1=.inr z))=true:=by rw[Gd,e];rfl
 rw[if_pos e1];exact Wc hl h
theorem LdV.same {H H':Hp} {lf:Str->YF} {kv:Key×V} {z:Str} (h:LdV H lf kv z) (s:∀a xs,H a=some (.lst xs)->H' a=some (.lst xs)):LdV H' lf kv z:=by
 obtain⟨e1,a,e2,ha⟩:=h;exact⟨e1,a,e2,s _ _ ha⟩
structure Ld (ts:List (Str×Cd)) (lf:Str->YF) (t i:Nat):Prop where
 KQ:∀z∈Ah ts,∀y∈lf z,∃n,Path ts n z y
 few:∀z∈Ah ts,(lf z).length<=20
 sub:∀z∈Ah ts,∀y∈lf z,y∈Ah ts
 all1:∀z∈Ah ts,∀n y,n<=2 ^ t->Path ts n z y->y∈lf z
 all2:∀(j:Nat) (z:Str),j < i->(Ah ts)[j]?=some z->∀n y,n<=2 ^ (t+1)->Path ts n z y->y∈lf z
theorem Ld.turn {ts:List (Str×Cd)} {lf:Str->YF} {t:Nat} (h:Ld ts lf t (Ah ts).length):Ld ts lf (t+1) 0:=⟨h.KQ,h.few,h.sub,λz hz n y hn p=>by
 obtain⟨j,hj⟩:=QaE hz;exact h.all2 j z (Qag.mp hj).1 hj n y hn p,λj z hj=>absurd hj (QbH _)⟩
theorem Ld.step {ts:List (Str×Cd)} {lf:Str->YF} {t i:Nat} {z:Str} {ms:YF} (l16:ts.length<=16) (cl:Ir ts) (h:Ld ts lf t i) (nd:(Ah ts).Nodup) (hz:(Ah ts)[i]?=some z) (hn:ms.Nodup) (hm:∀k,k∈ms ↔ k∈lf z++(lf z).flatMap lf):Ld ts (upS lf z ms) t (i+1):=by
 have zm:=QaB hz;have tr:∀y∈ms,∃n,Path ts n z y:=λy hy=>by
  rcases Qbv.mp ((hm y).mp hy) with h1 | h1
  ·exact h.KQ z zm y h1
  ·obtain⟨o,ho,hy⟩:=List.mem_flatMap.mp h1;obtain⟨n,p1⟩:=h.KQ z zm o ho;obtain⟨m,p2⟩:=h.KQ o (h.sub z zm o ho) y hy;exact p1.trans p2
 have sb:∀y∈ms,y∈Ah ts:=λy hy=>by
  obtain⟨n,p⟩:=tr y hy;exact p.end_ cl
 have Zb:∀n y,n<=2 ^ (t+1)->Path ts n z y->y∈ms:=λn y hn' p=>by
  rw[hm,Qbv];by_cases c:n<=2 ^ t
  ·exact .inl (h.all1 z zm n y c p)
  ·rw[Nat.pow_succ] at hn';have e:n=2 ^ t+(n - 2 ^ t):=by omega
   rw[e] at p;obtain⟨o,p1,p2⟩:=Path.split Nat.one_le_two_pow (by omega) p;have ho:=h.all1 z zm _ o (Qce _) p1;exact .inr (List.mem_flatMap.mpr ⟨o,ho,h.all1 o (h.sub z zm o ho) _ y (by omega) p2⟩)
 have jf:ms.length<=20:=by
  have:=Du hn sb;have e:(Ah ts).length=ts.length:=Qbu _;omega
 have pick:∀{R:Str->YF->Prop} (x:Str),(x=z->R x ms)->(x≠z->R x (lf x))->R x (upS lf z ms x):=λx h1 h2=>by
  by_cases c:x=z
  ·subst c;rw[Qo];exact h1 rfl
  ·rw[Vn c];exact h2 c
 refine⟨λx hx=>pick (R:=λx l=>∀y∈l,∃n,Path ts n x y) x (λe=>e ▸ tr) λ_=>h.KQ x hx,λx hx=>pick (R:=λ_ l=>l.length<=20) x (λ_=>jf) λ_=>h.few x hx,λx hx=>pick (R:=λ_ l=>∀y∈l,y∈Ah ts) x (λ_=>sb) λ_=>h.sub x hx,
  λx hx=>pick (R:=λx l=>∀n y,n<=2 ^ t->Path ts n x y->y∈l) x (λe n y hn p=>Zb n y (by rw[Nat.pow_succ];omega) (e ▸ p)) λ_=>h.all1 x hx,λj x hj hx=>pick (R:=λx l=>∀n y,n<=2 ^ (t+1)->Path ts n x y->y∈l) x (λe n y hn p=>Zb n y hn (e ▸ p)) λne=>?_⟩
 have:j≠i:=λe=>by
  subst e;rw[hx] at hz;exact ne (Qby hz)
 exact h.all2 j x (by omega) hx
theorem Ld.first {ts:List (Str×Cd)} (cl:Ir ts) (f20:∀p∈ts,(p.2.nam "term").length<=20) (nd:(Ah ts).Nodup):Ld ts (nmT ts) 0 0:=⟨λz _ y hy=>⟨1,.one hy⟩,λz hz=>by
 obtain⟨p,hp,rfl⟩:=QbZ.mp hz;rw[M6 nd hp];exact f20 p hp,λz _ y hy=>Tn cl hy,λz _ n y hn p=>by
 rcases p.inv with⟨_,h⟩|⟨m,u,e,_,p2⟩
 ·exact h
 ·have:=p2.pos;have e2:(2:Nat) ^ 0=1:=rfl;omega,λj z hj=>absurd hj (QbH _)⟩
def YX:Sp:=λvs H Q _=>∃la xs rs,vs=[.ref la]/\H la=some (.lst xs)/\Paired (RuV H) xs rs/\Hz rs/\(∀r∈rs,(r.c.nam "term").length<=20)/\(Ah (trm rs)).Nodup/\Ir (trm rs) /\
 ∀(l:Addr) (ws:YF) (H':Hp),H l=none->H' l=some (.lst (ws.map V.str))->(∀z∈ws,z∈Ah (trm rs)/\∃n,Path (trm rs) n z z)->(∀z∈Ah (trm rs),∀n,n<=32->Path (trm rs) n z z->z∈ws)->Same H H'->Q (.ref l) H'
section
variable {P:Program} {w:World} {K:YD} {mg:YB} {base:Heap}
abbrev xo:YF:=["_law_name_here","_law_leads"]
theorem M4 (c:Code K mg "_law_ring_terms" El Dp) (T:Nm mg) (GF:Good P w K mg base "_law_named" 7 Dt (IW 6)):Good P w K mg base "_law_ring_terms" 8 Dp YX:=by
 have sc:=BJ;refine c.good BJ (λvs H Q E h=>?_) (λf cdv A outer s H vs Q E hr h=>?_)
 ·obtain⟨la,xs,rs,rfl,_⟩:=h;rfl
 obtain⟨la,xs,rs,rfl,hla,hp,ok,f20,nd,cl,q⟩:=h;refine⟨_,(Ae (Aw (i:=1) BJ.nd rfl (Or.inr rfl) QM)
 (Ae (BL Qbz rfl (CV (pv 0)) (Ak (i:=2) BJ.nd rfl (Or.inl rfl))
 (Ai (BX (Bd FW (Bg Ck (pv 2) Ag (λ_ _=>rfl)) Ax (Bw _)) (Ai (K3 (Dh hr) (pv 1) (Bg Ck (pv 2) Ag (λ_ _=>rfl)) (Ba GF hr (Aa (Bg Ck (pv 2) Ag (λ_ _=>rfl)) (Aa Ax Ac))) rfl)) Bk)))
 (Ae (BL Qbz rfl (Fx rfl T.range (Aa Ag Ac)) (Ak (i:=3) BJ.nd rfl (Or.inl rfl))
 (Ai (BL Qbz rfl (CV (Ca (Nt rfl) rfl T.list Jo (Aa (pv 1) Ac))) (Ak (i:=4) BJ.nd rfl (Or.inl rfl))
 (Ae (Aw (i:=5) BJ.nd rfl (Or.inl rfl) (Ca Hw rfl T.list Jo (Aa (Jd (Dh hr) (pv 1) (pv 4) (λ_ _=>rfl)) Ac)))
 (Ae (BL Qbz rfl (CV (Jd (Dh hr) (pv 1) (pv 4) (λ_ _=>rfl))) (Ak (i:=6) BJ.nd rfl (Or.inl rfl))
 (Ai (Gg (G5 Qap PySem.F.slot_list_extend PySem.F.type_list_extend Km (pv 5) (Aa (Xm (Dh hr) (pv 1) (pv 6) (Cg Ac) ⟨rq,rq,rq,rq⟩) Ac)))))
 (Ai (K3 (Dh hr) (pv 1) (pv 4) (R6 rfl rfl T.sorted rfl T.set (Aa (pv 5) Ac)) rfl)))))))
 (Ai (Ay (Te rfl (Eo (N':=xo) rfl (Bo.of (src:=[none,some 1]) (Al El) xn rfl rfl rfl (by trivial) (by trivial) (by trivial) rfl (by trivial)) (Td (pv 1)) (λ_ _ _ _=>(Ak (i:=0) (show List.Nodup (xo:YF) by trivial) rfl (Or.inl rfl))) (λ_ _ _ _=>(Gx (Bd (JC (K:=K) rfl) (pv 0) (Jd (Dh hr) (pv 1) (pv 0) (λ_ _=>rfl)) (by with_unfolding_all rfl)))) (λ_ _ _ _=>(pv 0))))))))),?_⟩
 have lx:=QbO hp;have l16:(trm rs).length<=16:=QbY (Iz rs) ok.1;have jg:∀p∈trm rs,(p.2.nam "term").length<=20:=λp hp=>f20 _ (Iw hp);have lns:(Ah (trm rs)).length=(trm rs).length:=Qbu _;refine λd hd=>?_;have sd:=Ad hd (.dK []);have cd:upd H d (.dK []) d=some (.dK []):=Ab;generalize upd H d (.dK [])=H1 at *;refine Rm ?_;refine⟨_,rq,la,rq,⟨xs,SqL.of (sd _ _ hla)⟩,?_⟩;have XC:∀i r,rs[i]?=some r->Ah (trm (rs.take (i+1)))=Ah (trm (rs.take i))++Ah (trm [r]):=λi r hr=>by
  unfold Ah;rw[G8 hr,Qbx]
 refine Hv (xs:=xs) (λi U HH=>∃u2 u3 u4 u5 u6 kvs,U=[jp la,jp d,u2,u3,u4,u5,u6]/\HH d=some (.dK kvs)/\Paired (LdV HH (nmT (trm rs))) kvs (Ah (trm (rs.take i)))/\Same H HH) ⟨_,_,_,_,_,[],rq,cd,.nil,sd⟩ (λi U HH _ h=>?_) (λi x U HH hx h=>?_) (fun U HH h=>?_)
 ·obtain⟨u2,u3,u4,u5,u6,kvs,rfl,e1,e2,e3⟩:=h;exact SqL.of (e3 _ _ hla)
 ·obtain⟨u2,u3,u4,u5,u6,kvs,rfl,e1,e2,e3⟩:=h;obtain⟨r,hri,tr,a,rfl,h1,h2⟩:=Cw hp hx;have et:=XC i r hri;have lk:=QbO e2;have j6:(Ah (trm (rs.take i))).length<=16:=by
   have e:(Ah (trm (rs.take i))).length=(trm (rs.take i)).length:=Qbu _;have tl:=Iz (rs.take i);have:=ok.1;rw[Qbl] at tl;omega
  refine⟨_,rq,tr,_,_,_,rq,rq,SqT.of (e3 _ _ h1),Bm (j:=0) rfl,rq,_,rq,?_⟩;obtain⟨o1,o2⟩:=ok.2 r (QaB hri);cases r with
  | sound n c=>
   refine ifS (λe=>absurd e U3.1) (λ_=>?_);have:Ah (trm [Ru.sound n c])=[]:=rfl;rw[this,QbA] at et;exact⟨_,_,_,_,_,kvs,rq,e1,by rw[et];exact e2,e3⟩
  | term z c=>
   refine ifS (λ_=>?_) (λe=>absurd rfl e);have:Ah (trm [Ru.term z c])=[z]:=rfl;rw[this] at et;have zn:z∉Ah (trm (rs.take i)):=λhz=>by
    have e1:Ah (trm rs)=Ah (trm (rs.take (i+1)))++Ah (trm (rs.drop (i+1))):=by
     unfold Ah trm;rw[<-Qbx,<-Qax,Qaz]
    rw[e1,et] at nd;exact (List.nodup_append.mp (List.nodup_append.mp nd).1).2.2 z hz z (by simp) rfl
   have hzt:nmT (trm rs) z=c.nam "term":=by
    have:(z,c)∈trm rs:=List.mem_filterMap.mpr ⟨_,QaB hri,rq⟩;exact M6 nd this
   refine⟨_,rq,tr,_,_,_,rq,rq,SqT.of (e3 _ _ h1),Bm (j:=2) rfl,a,c,"term",o1,rq,.inr rfl,h2.same e3,o2,λl H2 hl hll s2=>?_⟩;have hd2:=s2 _ _ e1;refine⟨_,rq,_,rq,tr,_,_,_,rq,rq,SqT.of (s2 _ _ (e3 _ _ h1)),Bm (j:=1) rfl,d,_,rq,Ip.k (k:=Sum.inr z) hd2 (Av (by omega)),?_⟩;have nld:l≠d:=λe=>by rw[e,e1] at hl;cases hl
   refine⟨_,_,_,_,_,_,rq,Ab,?_,(e3.trans s2).CW Af.upd hd⟩;rw[et,Jz _ (Tr e2 zn)];have kp:∀a xs,H2 a=some (.lst xs)->upd H2 d (.dK (kvs++[(Sum.inr z,V.ref l)])) a=some (.lst xs):=λa xs ha=>by
    rw[Aj (λe=>by rw[e,hd2] at ha;cases ha)];exact ha
   refine Paired.app (Paired.Bt e2 λ_ _ q=>(q.same λa xs ha=>s2 _ _ ha).same kp) (.cons ⟨rq,l,rq,?_⟩ .nil);rw[hzt];exact kp _ _ hll
 ·obtain⟨u2,u3,u4,u5,u6,kvs,rfl,e1,e2,e3⟩:=h;rw[lx,Qbk] at e2;generalize trm rs=ts at *;refine⟨_,rq,by decide,by decide,?_⟩;refine GJ (n:=5) (λt U HX=>∃u2 u3 u4 u5 u6 kvs lf,U=[jp la,jp d,u2,u3,u4,u5,u6]/\HX d=some (.dK kvs)/\Paired (LdV HX lf) kvs (Ah ts)/\Ld ts lf t 0/\Same H HX) ⟨_,_,_,_,_,kvs,_,rq,e1,e2,Ld.first cl jg nd,e3⟩ (λt U HX ht h=>?_) (fun U HX h=>?_)
  ·obtain⟨u2,u3,u4,u5,u6,kvs,lf,rfl,f1,f2,f3,f4⟩:=h;refine⟨_,rq,Rb f1 λll hll=>⟨ll,rq,⟨_,SqL.of Ab⟩,?_⟩⟩;rw[Tt f2];have s5:=Ad hll (.lst ((Ah ts).map V.str));have c5:upd HX ll (.lst ((Ah ts).map V.str)) ll=some (.lst ((Ah ts).map V.str)):=Ab;generalize upd HX ll (.lst ((Ah ts).map V.str))=H5 at *;have ndl:ll≠d:=λe=>by rw[e,f1] at hll;cases hll
   refine Hv (xs:=(Ah ts).map V.str) (λi U HY=>∃u4 u5 u6 kvs lf,U=[jp la,jp d,u2,some (.int (0+(t:Int))),u4,u5,u6]/\HY d=some (.dK kvs)/\HY ll=some (.lst ((Ah ts).map V.str))/\Paired (LdV HY lf) kvs (Ah ts)/\Ld ts lf t i/\Same H HY) ⟨_,_,_,kvs,lf,rq,s5 _ _ f1,c5,Paired.Bt f2 λ_ _ q=>q.same λa xs ha=>s5 _ _ ha,f3,f4.trans s5⟩ (λi U HY _ h=>?_) (λi x U HY hx h=>?_) (fun U HY h=>?_)
   ·obtain⟨u4,u5,u6,kvs,lf,rfl,g1,g2,_⟩:=h;exact SqL.of g2
   ·obtain⟨u4,u5,u6,kvs,lf,rfl,g1,g2,g3,g4,g5⟩:=h;rw[Qbd] at hx;obtain⟨z,hz,rfl⟩:=Qat.mp hx;have zm:=QaB hz;obtain⟨a,v1,v2⟩:=Kp g3 zm;have hg:∀G:Hp,G d=some (.dK kvs)->Ce G d (V.str z) (some (.ref a)):=λG e=>by rw[<-v1];exact Ce.k (k:=Sum.inr z) e
    have few:=g4.few z zm;refine⟨_,rq,_,rq,d,_,rq,hg _ g1,a,_,rq,.inl (SqL.of v2),λlm hlm=>?_⟩;have s6:=Ad hlm (.lst ((lf z).map V.str));have c6:upd HY lm (.lst ((lf z).map V.str)) lm=some (.lst ((lf z).map V.str)):=Ab;generalize upd HY lm (.lst ((lf z).map V.str))=H6 at *;have nmd:lm≠d:=λe=>by rw[e,g1] at hlm;cases hlm
    have k1:=s6 _ _ g1;have kv2:=s6 _ _ v2;refine⟨_,rq,_,rq,d,_,rq,hg _ k1,a,rq,⟨_,SqL.of kv2⟩,?_⟩;have nma:a≠lm:=Ar v2 hlm;have flm:∀j,((lf z).take j).length<=20:=λj=>by rw[Qbl];omega
    have fm:∀j,(((lf z).take j).flatMap lf).length<=400:=λj=>by
     have:∀(l:YF),(∀y∈l,y∈lf z)->(l.flatMap lf).length<=20*l.length:=by
      intro l
      induction l with
      | nil=>intro _;exact Qce _
      | cons y r ih=>
       intro h;have:=ih λx hx=>h x (QaC _ hx);have:=g4.few y (g4.sub z zm y (h y (QaO ..)));rw[List.flatMap_cons,QaM,Qbm];omega
     have:=this ((lf z).take j) λy hy=>List.mem_of_mem_take hy;have:=flm j;omega
    refine Hv (xs:=(lf z).map V.str) (λj U HZ=>∃u6,U=[jp la,jp d,u2,some (.int (0+(t:Int))),some (.str z),jp lm,u6]/\HZ lm=some (.lst ((lf z++((lf z).take j).flatMap lf).map V.str))/\Af lm H6 HZ) ⟨_,rq,by rw[List.take_zero,List.flatMap_nil,QbA];exact c6,Af.refl _ _⟩ (λj U HZ _ h=>?_) (λj x U HZ hx h=>?_) (fun U HZ h=>?_)
    ·obtain⟨u6,rfl,m1,m2⟩:=h;exact SqL.of (m2 _ _ kv2 nma)
    ·obtain⟨u6,rfl,m1,m2⟩:=h;rw[Qbd] at hx;obtain⟨o,ho,rfl⟩:=Qat.mp hx;have om:=g4.sub z zm o (QaB ho);obtain⟨b,w1,w2⟩:=Kp g3 om;have md:=m2 _ _ k1 nmd.symm;have et:lf z++((lf z).take (j+1)).flatMap lf=lf z++((lf z).take j).flatMap lf++lf o:=by
      have e1:[o].flatMap lf=lf o:=by simp
      rw[Qcm ho,QaI,e1,List.append_assoc]
     refine⟨_,rq,.inl ⟨rq,_,SqL.of m1⟩,_,rq,d,rq,.inl ⟨_,.inl md⟩,_,rq,Ao (by show 0<=1000;decide),λle hle=>?_⟩;have s7:=Ad hle (.lst []);generalize upd HZ le (.lst [])=H7 at *;have hgo:Ce H7 d (V.str o) (some (.ref b)):=by rw[<-w1];exact Ce.k (k:=Sum.inr o) (s7 _ _ md)
     have nmb:b≠lm:=Ar w2 hlm;have hb7:=s7 _ _ (m2 _ _ (s6 _ _ w2) nmb);have hm7:=s7 _ _ m1;refine⟨_,hgo,lm,b,_,_,rq,rq,hm7,hb7,?_,?_⟩
     ·rw[Qbu,Qbu,QaM];have:=fm j;have:=g4.few o om;exact Ao (by omega)
     ·refine⟨_,rq,?_,(m2.trans (Af.of s7)).trans Af.upd⟩;rw[Ab,et,Qbx (l₂:=lf o)]
    ·obtain⟨u6,rfl,m1,m2⟩:=h;rw[Qbu,Qbk] at m1;have fmA:=fm (lf z).length;rw[Qbk] at fmA;refine⟨_,rq,lm,_,rq,.inl (SqL.of m1),by rw[QaM];omega,⟨Ah ts,by omega,λy hy=>?_⟩,λms l hnd hmem hl=>?_⟩
     ·rcases Qbv.mp hy with hy | hy
      ·exact g4.sub z zm y hy
      ·obtain⟨o,ho,hy⟩:=List.mem_flatMap.mp hy;exact g4.sub o (g4.sub z zm o ho) y hy
     ·have s8:=Ad hl (.lst (ms.map V.str));have c8:upd HZ l (.lst (ms.map V.str)) l=some (.lst (ms.map V.str)):=Ab;generalize upd HZ l (.lst (ms.map V.str))=H8 at *;have md:=s8 _ _ (m2 _ _ k1 nmd.symm);have nld:l≠d:=λe=>by rw[e,m2 _ _ k1 nmd.symm] at hl;cases hl
      have lk:=QbO g3;have g5':Same H H8:=λc o e=>s8 _ _ (m2 _ _ (s6 _ _ (g5 _ _ e)) (Ar (g5 _ _ e) hlm));have kp:∀a xs,HY a=some (.lst xs)->upd H8 d (.dK (putK kvs (Sum.inr z) (.ref l))) a=some (.lst xs):=λa xs ha=>by
       rw[Aj (λe=>by rw[e,g1] at ha;cases ha)];exact s8 _ _ (m2 _ _ (s6 _ _ ha) (Ar ha hlm))
      refine⟨_,rq,_,rq,d,_,rq,Ip.k (k:=Sum.inr z) md (Av (by omega)),?_⟩;refine⟨_,_,_,_,upS lf z ms,rq,Ab,kp _ _ g2,?_,g4.step l16 cl nd hz hnd hmem,g5'.CW Af.upd hd⟩;exact bK (Paired.Bt g3 λ_ _ q=>q.same kp) zm (by rw[Aj nld];exact c8)
   ·obtain⟨u4,u5,u6,kvs,lf,rfl,g1,g2,g3,g4,g5⟩:=h;rw[Qbu] at g4;exact⟨_,_,_,_,_,kvs,lf,rq,g1,g3,g4.turn,g5⟩
  ·obtain⟨u2,u3,u4,u5,u6,kvs,lf,rfl,f1,f2,f3,f4⟩:=h;refine⟨_,rq,d,kvs,rq,f1,λo l hl=>?_⟩;have nld:l≠d:=λe=>by rw[e,Ab] at hl;cases hl
   have hl1:HX l=none:=by rw[Aj nld] at hl;exact hl
   have lk:=QbO f2;refine T5 (λi U HY=>∃u,U=[u,jp d]/\HY d=some (.frz o (.dK kvs))/\HY l=some (.lst ((((Ah ts).take i).filter λz=>decide (z∈lf z)).map V.str))/\Af d HX HY) ⟨_,rq,by rw[Aj nld.symm,Ab],Ab,Af.upd.trans (Af.of (Ad hl _))⟩ (λi U HY _ h=>?_) (λi kv U HY hkv h=>?_) (fun U HY h=>?_)
   ·obtain⟨u,rfl,g1,_⟩:=h;exact g1
   ·obtain⟨u,rfl,g1,g2,g3⟩:=h;obtain⟨z,hz,ek,a0,ea,_⟩:=Cw f2 hkv;rw[ek];have zm:=QaB hz;obtain⟨a,v1,v2⟩:=Kp f2 zm;have hg:Ce HY d (kV (Sum.inr z)) (some (.ref a)):=by rw[<-v1];exact .inl ⟨kvs,Sum.inr z,.inr ⟨o,g1⟩,rq,rq⟩
    have nad:a≠d:=λe=>by rw[e,f1] at v2;cases v2
    have ll:(((Ah ts).take i).filter λz=>decide (z∈lf z)).length<=16:=by
     have:=List.length_filter_le (λz=>decide (z∈lf z)) ((Ah ts).take i);rw[Qbl] at this;omega
    have et:((Ah ts).take (i+1)).filter (λz=>decide (z∈lf z))=((Ah ts).take i).filter (λz=>decide (z∈lf z))++[z].filter (λz=>decide (z∈lf z)):=by rw[Qcm hz,List.filter_append]
    refine⟨_,rq,_,rq,_,rq,d,_,rq,hg,a,_,rq,.inl (SqL.of (g3 _ _ v2 nad)),rq,Eh _,_,rq,Om (λhh=>?_) (λhh=>?_)⟩
    ·have hh:inV (V.str z) ((lf z).map V.str)=true:=hh;have hm:z∈lf z:=(Ci _ _).mp hh;refine⟨_,rq,_,g2,Av (by rw[Qbu];omega),_,rq,by rw[Aj nld.symm];exact g1,?_,λb ob eb nb=>?_⟩
     ·rw[Ab,et,Qbx,show [z].filter (λz=>decide (z∈lf z))=[z] from by simp[hm]]
      rfl
     ·rw[Aj (λe=>by rw[e,hl1] at eb;cases eb)];exact g3 _ _ eb nb
    ·have hh:inV (V.str z) ((lf z).map V.str)=false:=hh;have hm:z∉lf z:=λq=>by rw[(Ci _ _).mpr q] at hh;cases hh
     refine⟨_,rq,g1,?_,g3⟩;rw[et,show [z].filter (λz=>decide (z∈lf z))=[] from by simp[hm],QbA]
     exact g2
   ·obtain⟨u,rfl,g1,g2,g3⟩:=h;rw[lk,Qbk] at g2;refine⟨d,o,kvs,g1,(λo' u e=>by have e:H d=some (.frz o' u):=e;rw[hd] at e;cases e),?_⟩;refine q l _ _ (f4.free hl1) (by rw[Aj nld];exact g2) (λz hz=>?_) (λz hz n hn p=>?_) (λb ob eb=>?_)
    ·obtain⟨h1,h2⟩:=List.mem_filter.mp hz;exact⟨h1,f3.KQ z h1 z (of_decide_eq_true h2)⟩
    ·exact List.mem_filter.mpr ⟨hz,QbK (f3.all1 z hz n z hn p)⟩
    ·have nb:b≠d:=Ar eb hd;rw[Aj nb];exact g3 _ _ (f4 _ _ eb) nb
end
abbrev Jx:Stmt:=top 23
abbrev FT:YF:=["_law_bag_here","_law_names_here"]
theorem Df:Bf ["_law_bag_here","_law_names_here","_law_condition","_law_turn","_law_one","_law_some"] FT (Al Jx):=by ac_rfl
theorem Jt {ys:YF} (h:∀y∈ys,okS y):SeqAt.shaped (.list (ys.map PyData.str))=true:=by
 have e1:∀ys:YF,(∀y∈ys,okS y)->PyData.canLayAll0 (ys.map PyData.str)=true:=by
  intro ys
  induction ys with
  | nil=>intro _;rfl
  | cons y r ih=>
   intro h;show (PyData.strOk y&&PyData.canLayAll0 (r.map PyData.str))=true;rw[(h y (QaO ..)).ok,ih λz hz=>h z (QaC _ hz)];rfl
 have e2:∀ys:YF,PyData.depthAll (ys.map PyData.str)=0:=by
  intro ys
  induction ys with
  | nil=>rfl
  | cons y r ih=>
   show max 0 (PyData.depthAll (r.map PyData.str))=0;rw[ih];rfl
 show (PyData.canLayAll0 (ys.map PyData.str)&&decide (PyData.depthAll (ys.map PyData.str)+1<=64))=true;rw[e1 ys h,e2 ys]
 decide
theorem Lp (ys:YF):PyData.eqv (.list (ys.map PyData.str)) (.list [])=decide (ys=[]):=by
 cases ys with
 | nil=>rfl
 | cons y r=>rfl
def NmL (H:Hp) (l:Addr) (ys:YF):Prop:=H l=some (.lst (ys.map V.str))/\ys.length<=16/\∀y∈ys,okS y
def Qv:Sp:=λvs H Q _=>∃b la m ys,vs=[.ref b,.ref la]/\Bp H b m/\m<=9000/\b≠la/\NmL H la ys /\
 ∀t c H',Cv H' t c->c.deep<=5->c.many<=20->(c.nam "term").length<=3->(∀n∈c.nam "term",n∈ys)->c.nam "of"=[]->Bp H' b (m+8)->Af b H H'->Q (.ref t) H'
structure cR (ys:YF) (i:Nat) (c:Cd):Prop where
 deep:c.deep<=i+2
 many:c.many<=1+3*i
 few:(c.nam "term").length<=i
 sub:∀n∈c.nam "term",n∈ys
 of:c.nam "of"=[]
theorem jD {i:Int} {v0 v1 v2 v3 v4:V} (h0:0<=i) (h5:i < 5):∃v,atI [v0,v1,v2,v3,v4] i=some v/\(v=v0\/v=v1\/v=v2\/v=v3\/v=v4):=by
 have:i=0\/i=1\/i=2\/i=3\/i=4:=by omega
 rcases this with rfl | rfl | rfl | rfl | rfl
 ·exact⟨v0,rq,.inl rfl⟩
 ·exact⟨v1,rq,.inr (.inl rfl)⟩
 ·exact⟨v2,rq,.inr (.inr (.inl rfl))⟩
 ·exact⟨v3,rq,.inr (.inr (.inr (.inl rfl)))⟩
 ·exact⟨v4,rq,.inr (.inr (.inr (.inr rfl)))⟩
theorem Ze {ys:YF} {r:Int} (h0:0<=r) (h1:r < (ys.length:Int)):∃y,atI (ys.map V.str) r=some (.str y)/\y∈ys:=by
 obtain⟨n,rfl⟩:=Qar h0;have hn:n < ys.length:=by omega
 exact⟨ys[n],Bm (by rw[Qbd,Qal hn];rfl),Qbq hn⟩
section
variable {P:Program} {w:World} {K:YD} {mg:YB} {base:Heap}
theorem R9 (c:Code K mg "_law_naming" Jx FT) (T:Nm mg) (Bl:Good P w K mg base "_law_take" 1 Fo Mv):Good P w K mg base "_law_naming" 2 FT Qv:=by
 refine c.good Df (λvs H Q E h=>?_) (λf cdv A outer s H vs Q E hr h=>?_)
 ·obtain⟨b,la,m,ys,rfl,_⟩:=h;rfl
 obtain⟨b,la,m,ys,rfl,hb,hm,nb,⟨hla,l16,oky⟩,q⟩:=h;refine⟨_,(Ae (Aw (i:=2) Df.nd rfl (Or.inl rfl) (Bc (Aa Ax (Aa (Ba Bl hr (Aa (pv 0) (Aa Ag Ac))) Ac))))
 (Ae (BL Qbz rfl (Fx rfl T.range (Aa (Ba Bl hr (Aa (pv 0) (Aa Ag Ac))) Ac)) (Ak (i:=3) Df.nd rfl (Or.inl rfl))
 (Ai (BX (Bd (V4 hr.units) (pv 1) (Cg Ac) (Bw _)) (Ae (Aw (i:=4) Df.nd rfl (Or.inl rfl) (Bc (Aa Ax (Aa (Bg BP (pv 1) (Ba Bl hr (Aa (pv 0) (Aa (Bs BZ rfl T.len Ez (Aa (pv 1) Ac)) Ac))) (λ_ _=>rfl)) Ac))))
 (Ae (Aw (i:=5) Df.nd rfl (Or.inl rfl) (Cg (Aa (Bc (Aa Ax (Aa (pv 4) (Aa (pv 2) Ac)))) (Aa (Bc (Aa Ax (Aa (pv 2) (Aa (pv 4) Ac)))) (Aa (Bc (Aa Ax (Aa (pv 4) (Aa (pv 2) (Aa Ag Ac))))) Ac)))))
 (Ae (Aw (i:=5) Df.nd rfl (Or.inl rfl) (Bb V6 (pv 5) (Cg (Aa (Bc (Aa Ax (Aa (pv 2) (Aa (pv 4) (Aa Ag Ac))))) (Aa (Bc (Aa Ax (Aa (Bc (Aa Ax (Aa (pv 4) Ac))) (Aa (pv 2) Ac)))) Ac)))))
 (Ai (Aw (i:=2) Df.nd rfl (Or.inl rfl) (Bg BP (pv 5) (Ba Bl hr (Aa (pv 0) (Aa Ag Ac))) (λ_ _=>rfl))))))) Bk)))
 (Ai (Ay (pv 2))))),?_⟩
 refine⟨_,rq,b,m,10,rq,hb,by omega,by decide,by decide,λr H1 r0 r1 hb1 sb1=>⟨Ao (by show 2<=1000;decide),λt0 ht0=>?_⟩⟩;obtain⟨n1,rfl⟩:=Qar r0;have s0:=Ad ht0 (.tup [.str "key",.int (n1:Int)]);have c0:Cv (upd H1 t0 (.tup [.str "key",.int (n1:Int)])) t0 (.key n1):=.tup (Dr Ab) (.cons (.str _) (.cons (.int _) .nil));have fu:Af b H (upd H1 t0 (.tup [.str "key",.int (n1:Int)])):=sb1.trans (Af.of s0);have hb1':=hb1.same s0;generalize upd H1 t0 (.tup [.str "key",.int (n1:Int)])=H2 at *;refine⟨_,rq,b,_,4,rq,hb1',by omega,by decide,by decide,λr H3 r0 r1 hb3 sb3=>⟨_,rq,by omega,by omega,?_⟩⟩;refine GJ (n:=r.toNat) (λi U HX=>∃t c u3 u4 u5,U=[jp b,jp la,jp t,u3,u4,u5]/\Cv HX t c/\cR ys i c/\Bp HX b (m+2+2*i)/\Af b H HX) ⟨t0,.key n1,_,_,_,rq,c0.tups (sb3.tup hb1'.GQ),⟨by show 1<=_;omega,by show 1<=_;omega,Qce _,(λn h=>by cases h),rq⟩,hb3,fu.trans sb3⟩ (λi U HX hi h=>?_) (fun U HX h=>?_)
 ·obtain⟨t,c,u3,u4,u5,rfl,e1,e2,e3,e4⟩:=h;have i3:i < 3:=by omega
  have hlX:HX la=some (.lst (ys.map V.str)):=e4 _ _ hla nb.symm;refine⟨_,rq,Ao (by show 0<=1000;decide),λle hle=>?_⟩;have se:=Ad hle (.lst []);have ce:upd HX le (.lst []) le=some (.lst []):=Ab;have e1':=e1.same se;have e3':=e3.same se;have e4':=e4.trans (Af.of se);generalize upd HX le (.lst [])=H4 at *;have hl4:=se _ _ hlX;refine⟨_,_,.lst hl4 (Fv ys),.lst ce .nil,Jt oky,by rfl,_,rq,?_⟩;rw[Lp];by_cases hy:ys=[]
  ·rw[QbK hy];exact Bx ⟨t,c,_,_,_,rq,e1',⟨by have:=e2.deep;omega,by have:=e2.many;omega,by have:=e2.few;omega,e2.sub,e2.of⟩,e3'.mono (by omega),e4'⟩
  ·rw[Qbw hy];have ly:((ys.map V.str).length:Int)=(ys.length:Int):=by rw[Qbu]
   have ly0:0 < ys.length:=List.length_pos_iff.mpr hy;refine CP ⟨_,rq,_,rq,_,rq,la,_,rq,.inl (SqL.of hl4),b,_,_,rq,e3',by omega,by rw[ly];omega,by rw[ly];omega,λr2 H5 r20 r21 hb5 sb5=>?_⟩;rw[ly] at r21;obtain⟨y,hy,ym⟩:=Ze r20 r21;have hl5:=sb5 _ _ hl4 nb.symm;have e15:=e1'.tups (sb5.tup e3'.GQ);have e45:=e4'.trans sb5;refine⟨la,_,_,_,rq,rq,SqL.of hl5,hy,Ao (by show 2<=1000;decide),λt1 ht1=>?_⟩;have s1:=Ad ht1 (.tup [.str "term",.str y]);have c1:Cv (upd H5 t1 (.tup [.str "term",.str y])) t1 (.term y):=.tup (Dr Ab) (.cons (.str _) (.cons (.str _) .nil));have e16:=e15.same s1;have hb6:=hb5.same s1;have e46:=e45.trans (Af.of s1);generalize upd H5 t1 (.tup [.str "term",.str y])=H6 at *;refine⟨_,rq,_,rq,Ao (by show 3<=1000;decide),λt2 ht2=>?_⟩;have s2:=Ad ht2 (.tup [.str "or",.ref t1,.ref t]);have c2:Cv (upd H6 t2 (.tup [.str "or",.ref t1,.ref t])) t2 (.any (.term y) c):=.tup (Dr Ab) (.cons (.str _) (.cons (c1.same s2) (.cons (e16.same s2) .nil)));generalize upd H6 t2 (.tup [.str "or",.ref t1,.ref t])=H7 at *;refine⟨_,rq,_,rq,Ao (by show 3<=1000;decide),λt3 ht3=>?_⟩;have s3:=Ad ht3 (.tup [.str "and",.ref t,.ref t1]);have c3:Cv (upd H7 t3 (.tup [.str "and",.ref t,.ref t1])) t3 (.both c (.term y)):=.tup (Dr Ab) (.cons (.str _) (.cons ((e16.same s2).same s3) (.cons ((c1.same s2).same s3) .nil)));generalize upd H7 t3 (.tup [.str "and",.ref t,.ref t1])=H8 at *;refine⟨_,rq,_,rq,Ao (by show 4<=1000;decide),λt4 ht4=>?_⟩;have s4:=Ad ht4 (.tup [.str "then",.ref t1,.ref t,.int 3]);have s24:=(s2.trans s3).trans s4;have c4:Cv (upd H8 t4 (.tup [.str "then",.ref t1,.ref t,.int 3])) t4 (.thn (.term y) c 3):=.tup (Dr Ab) (.cons (.str _) (.cons (c1.same s24) (.cons (e16.same s24) (.cons (.int _) .nil))));generalize upd H8 t4 (.tup [.str "then",.ref t1,.ref t,.int 3])=H9 at *;refine⟨Ao (by show 3<=1000;decide),λl1 hl1=>?_⟩;have s5:=Ad hl1 (.lst [.ref t2,.ref t3,.ref t4]);have cl1:upd H9 l1 (.lst [.ref t2,.ref t3,.ref t4]) l1=some (.lst [.ref t2,.ref t3,.ref t4]):=Ab;generalize upd H9 l1 (.lst [.ref t2,.ref t3,.ref t4])=Ha at *;have s25:=s24.trans s5;refine⟨_,rq,_,rq,_,rq,Ao (by show 4<=1000;decide),λt5 ht5=>?_⟩;have s6:=Ad ht5 (.tup [.str "then",.ref t,.ref t1,.int 20]);have s26:=s25.trans s6;have c5:Cv (upd Ha t5 (.tup [.str "then",.ref t,.ref t1,.int 20])) t5 (.thn c (.term y) 20):=.tup (Dr Ab) (.cons (.str _) (.cons (e16.same s26) (.cons (c1.same s26) (.cons (.int _) .nil))));generalize upd Ha t5 (.tup [.str "then",.ref t,.ref t1,.int 20])=Hb at *;refine⟨_,rq,Ao (by show 2<=1000;decide),λt6 ht6=>?_⟩;have s7:=Ad ht6 (.tup [.str "not",.ref t1]);have s27:=s26.trans s7;have c6:Cv (upd Hb t6 (.tup [.str "not",.ref t1])) t6 (.neg (.term y)):=.tup (Dr Ab) (.cons (.str _) (.cons (c1.same s27) .nil));generalize upd Hb t6 (.tup [.str "not",.ref t1])=Hc at *;refine⟨_,rq,Ao (by show 3<=1000;decide),λt7 ht7=>?_⟩;have s8:=Ad ht7 (.tup [.str "and",.ref t6,.ref t]);have s28:=s27.trans s8;have c7:Cv (upd Hc t7 (.tup [.str "and",.ref t6,.ref t])) t7 (.both (.neg (.term y)) c):=.tup (Dr Ab) (.cons (.str _) (.cons (c6.same s8) (.cons (e16.same s28) .nil)));generalize upd Hc t7 (.tup [.str "and",.ref t6,.ref t])=Hd at *;refine⟨Ao (by show 2<=1000;decide),λl2 hl2=>?_⟩;have s9:=Ad hl2 (.lst [.ref t5,.ref t7]);have cl2:upd Hd l2 (.lst [.ref t5,.ref t7]) l2=some (.lst [.ref t5,.ref t7]):=Ab;generalize upd Hd l2 (.lst [.ref t5,.ref t7])=He at *;have cl1:=s9 _ _ (s8 _ _ (s7 _ _ (s6 _ _ cl1)));have s69:=((s6.trans s7).trans s8).trans s9;refine⟨l1,l2,_,_,rq,rq,cl1,cl2,Ao (by show 5<=1000;decide),λl3 hl3=>?_⟩;have sa:=Ad hl3 (.lst ([.ref t2,.ref t3,.ref t4]++[.ref t5,.ref t7]));have cl3:upd He l3 (.lst ([.ref t2,.ref t3,.ref t4]++[.ref t5,.ref t7])) l3=some (.lst [.ref t2,.ref t3,.ref t4,.ref t5,.ref t7]):=Ab;generalize upd He l3 (.lst ([.ref t2,.ref t3,.ref t4]++[.ref t5,.ref t7]))=Hf at *;have s2a:=(s28.trans s9).trans sa;have hbf:=hb6.same s2a;have e4f:=e46.trans (Af.of s2a);refine⟨_,rq,_,rq,b,_,5,rq,hbf,by omega,by decide,by decide,λr3 Hg r30 r31 hbg sbg=>?_⟩;obtain⟨v,hv,hw⟩:=jD (v0:=.ref t2) (v1:=.ref t3) (v2:=.ref t4) (v3:=.ref t5) (v4:=.ref t7) r30 r31;have nl3:l3≠b:=(hb6.same (s28.trans s9)).nb hl3 |>.symm;refine⟨l3,_,_,_,rq,rq,SqL.of (sbg _ _ cl3 nl3),hv,?_⟩;have tg:Aq Hf Hg:=sbg.tup hbf.GQ;have key:∃t c',v=.ref t/\Cv Hg t c'/\cR ys (i+1) c':=by
    obtain⟨d1,d2,d3,d4,d5⟩:=e2;have nm1:∀n∈[y]++c.nam "term",n∈ys:=λn hn=>by
     rcases Qbv.mp hn with hn | hn
     ·rw[QaP.mp hn];exact ym
     ·exact d4 n hn
    have nm2:∀n∈c.nam "term"++[y],n∈ys:=λn hn=>by
     rcases Qbv.mp hn with hn | hn
     ·exact d4 n hn
     ·rw[QaP.mp hn];exact ym
    have z1:(Cd.term y).nam "of"=[]:=if_neg (by trivial);have z2:(Cd.term y).nam "term"=[y]:=if_pos rfl;rcases hw with rfl | rfl | rfl | rfl | rfl
    ·refine⟨t2,_,rq,(c2.same ((((s3.trans s4).trans s5).trans s69).trans sa)).tups tg,?_,?_,?_,?_,?_⟩
     ·show max 1 c.deep+1<=_;omega
     ·show 1+c.many+1<=_;omega
     ·show ((Cd.term y).nam "term"++c.nam "term").length<=_;rw[z2,QaM];show 1+_<=_;omega
     ·show ∀n∈(Cd.term y).nam "term"++c.nam "term",n∈ys;rw[z2];exact nm1
     ·show (Cd.term y).nam "of"++c.nam "of"=[];rw[z1,d5];rfl
    ·refine⟨t3,_,rq,(c3.same (((s4.trans s5).trans s69).trans sa)).tups tg,?_,?_,?_,?_,?_⟩
     ·show max c.deep 1+1<=_;omega
     ·show c.many+1+1<=_;omega
     ·show (c.nam "term"++(Cd.term y).nam "term").length<=_;rw[z2,QaM];show _+1<=_;omega
     ·show ∀n∈c.nam "term"++(Cd.term y).nam "term",n∈ys;rw[z2];exact nm2
     ·show c.nam "of"++(Cd.term y).nam "of"=[];rw[z1,d5];rfl
    ·refine⟨t4,_,rq,(c4.same ((s5.trans s69).trans sa)).tups tg,?_,?_,?_,?_,?_⟩
     ·show max 1 c.deep+1<=_;omega
     ·show 1+c.many+1<=_;omega
     ·show ((Cd.term y).nam "term"++c.nam "term").length<=_;rw[z2,QaM];show 1+_<=_;omega
     ·show ∀n∈(Cd.term y).nam "term"++c.nam "term",n∈ys;rw[z2];exact nm1
     ·show (Cd.term y).nam "of"++c.nam "of"=[];rw[z1,d5];rfl
    ·refine⟨t5,_,rq,(c5.same (((s7.trans s8).trans s9).trans sa)).tups tg,?_,?_,?_,?_,?_⟩
     ·show max c.deep 1+1<=_;omega
     ·show c.many+1+1<=_;omega
     ·show (c.nam "term"++(Cd.term y).nam "term").length<=_;rw[z2,QaM];show _+1<=_;omega
     ·show ∀n∈c.nam "term"++(Cd.term y).nam "term",n∈ys;rw[z2];exact nm2
     ·show c.nam "of"++(Cd.term y).nam "of"=[];rw[z1,d5];rfl
    ·refine⟨t7,_,rq,(c7.same (s9.trans sa)).tups tg,?_,?_,?_,?_,?_⟩
     ·show max (1+1) c.deep+1<=_;omega
     ·show (1+1)+c.many+1<=_;omega
     ·show ((Cd.term y).nam "term"++c.nam "term").length<=_;rw[z2,QaM];show 1+_<=_;omega
     ·show ∀n∈(Cd.term y).nam "term"++c.nam "term",n∈ys;rw[z2];exact nm1
     ·show (Cd.term y).nam "of"++c.nam "of"=[];rw[z1,d5];rfl
   obtain⟨t',c',rfl,k1,k2⟩:=key;exact⟨t',c',_,_,_,rq,k1,k2,hbg.mono (by omega),e4f.trans sbg⟩
 ·obtain⟨t,c,u3,u4,u5,rfl,e1,e2,e3,e4⟩:=h;obtain⟨d1,d2,d3,d4,d5⟩:=e2;exact⟨_,rq,q t c HX e1 (by omega) (by omega) (by omega) d4 d5 (e3.mono (by omega)) e4⟩
end
abbrev Em:Stmt:=top 24
abbrev Dq:YF:=["_law_rows","_law_found"]
abbrev xp:YF:=["_law_rows","_law_found","_law_names_here","_law_terms","_law_k","_law_name_here"]
theorem Cm:Bf xp Dq (Al Em):=by ac_rfl
theorem gY {a b:Str} {A B:Prop} (h1:a≠b->A) (h2:a=b->B):if (!decide (V.str a=V.str b))=true then A else B:=by
 by_cases h:a=b
 ·subst h;rw[QbK rfl];exact Bx (h2 rfl)
 ·rw[Qbw (λz=>h (by injection z))];exact CP (h1 h)
theorem bU {a b:Int} {A B:Prop} (h1:a≠b->A) (h2:a=b->B):if (!decide (V.int a=V.int b))=true then A else B:=by
 by_cases h:a=b
 ·subst h;rw[QbK rfl];exact Bx (h2 rfl)
 ·rw[Qbw (λz=>h (by injection z))];exact CP (h1 h)
def Mt (rs:List Ru):Prop:=∀r∈rs,∃z c,r=.term z c
theorem NK:∀{rs:List Ru},Mt rs->rs=(trm rs).map λp=>.term p.1 p.2
 | [],_=>rfl
 | r::l,h=>by
  obtain⟨z,c,rfl⟩:=h r (QaO ..);show Ru.term z c::l=Ru.term z c::(trm l).map _;rw[<-NK λx hx=>h x (QaC _ hx)]
def aH:Sp:=λvs H Q _=>∃la xs rs v,vs=[.ref la,v]/\H la=some (.lst xs)/\Paired (RuV H) xs rs/\Mt rs/\Hz rs/\(∀r∈rs,(r.c.nam "term").length<=20)/\(Ah (trm rs)).Nodup/\Ir (trm rs)/\(∀z∈Ah (trm rs),okS z)/\Im H (trm rs) v/\∀H',Same H H'->Q (.bl true) H'
theorem Xz {bs:List Bool} (h:∀b∈bs,b=true):inV (V.bl false) (bs.map V.bl)=false:=by
 induction bs with
 | nil=>rfl
 | cons b r ih=>
  have e:=h b (QaO ..);subst e;show (eqV (V.bl true) (V.bl false) || inV (V.bl false) (r.map V.bl))=false;rw[ih λx hx=>h x (QaC _ hx)];rfl
theorem Yg (bs:List Bool):(bs.map V.bl).all Gu=true:=by
 rw[List.all_map,List.all_eq_true];intro _ _;rfl
section
variable {P:Program} {w:World} {K:YD} {mg:YB} {base:Heap}
abbrev xq:YF:=["_law_name_here","_law_terms"]
theorem M5 (c:Code K mg "_law_ring_right" Em Dq) (T:Nm mg) (Oq:Good P w K mg base "_law_ring_terms" 8 Dp YX) (GF:Good P w K mg base "_law_named" 7 Dt (IW 6)):Good P w K mg base "_law_ring_right" 9 Dq aH:=by
 have sc:=Cm;refine c.good Cm (λvs H Q E h=>?_) (λf cdv A outer s H vs Q E hr h=>?_)
 ·obtain⟨la,xs,rs,v,rfl,_⟩:=h;rfl
 obtain⟨la,xs,rs,v,rfl,hla,hp,Ml,ok,f20,nd,cl,okn,rg,q⟩:=h;refine⟨_,(Ae (BX (Bd (V5 hr.units) (Ba Oq hr (Aa (pv 0) Ac)) (Cg Ac) (Bw _)) (Ai (Ay (K5 bf (pv 1) Jc (Bw _)))) Bk)
 (Ae (BX (PW.pt (K1 (Jb (Hq (Bs Mi rfl T.isinstance GX (Aa (pv 1) (Aa (Oa (v:=.ty "tuple") rfl T.tuple Fp rfl) Ac))))) (K1 (Bd Uq (Bs BZ rfl T.len Ez (Aa (pv 1) Ac)) Ag (Bw _)) (K1 (Bd Uq (Bg Ck (pv 1) Ag (λ_ _=>rfl)) Ax (Bw _)) (QG (Jb (Hq (Bs Mi rfl T.isinstance GX (Aa (Bg Ck (pv 1) Ag (λ_ _=>rfl)) (Aa (Oa (v:=.ty "tuple") rfl T.tuple Fp rfl) Ac)))))))))) (Ai (Ay Ep)) Bk)
 (Ae (Aw (i:=2) Cm.nd rfl (Or.inl rfl) (Ca Hw rfl T.list Jo (Aa (Bg Ck (pv 1) Ag (λ_ _=>rfl)) Ac)))
 (Ae (Aw (i:=3) Cm.nd rfl (Or.inr rfl) (Ca (Vb rfl) rfl T.dict Z6 (Aa (Eo (N':=["_law_row"]) rfl (Bo.plain rfl (by trivial) (by trivial) (by trivial)) (CV (pv 0)) (λ_ _ _ _=>(Ak (i:=0) (show List.Nodup (["_law_row"]:YF) by trivial) rfl (Or.inl rfl))) (λ_ _ _ _=>Kg) (λ_ _ _ _=>(Bc (Aa (Bg (K9 (K:=K) rfl) (pv 0) Ag (λ_ _=>rfl)) (Aa (Bg (K9 (K:=K) rfl) (pv 0) Ag (λ_ _=>rfl)) Ac))))) Ac)))
 (Ae (BX (PW.pt (K1 (Bd (V5 hr.units) (pv 2) (Cg Ac) (Bw _)) (K1 (Bd Uq (Uo rfl rfl T.len rfl T.set (Aa (pv 2) Ac)) (Bs BZ rfl T.len Ez (Aa (pv 2) Ac)) (Bw _)) (QG (Bd Ib Ep (Eo (N':=xq) rfl (Bo.of (src:=[none,some 3]) (Al Em) xp rfl rfl rfl (by trivial) (by trivial) (by trivial) rfl (by trivial)) (CV (pv 2)) (λ_ _ _ _=>(Ak (i:=0) (show List.Nodup (xq:YF) by trivial) rfl (Or.inl rfl))) (λ_ _ _ _=>Kg) (λ_ _ _ _=>(V1 (QS (Dh hr) (pv 0) (pv 1))))) (by with_unfolding_all rfl)))))) (Ai (Ay Ep)) Bk)
 (Ae (BL Qbz rfl (Pa rfl T.enumerate (pv 2)) (CG rfl (Am (Ak (i:=4) Cm.nd rfl (Or.inl rfl)) (Am (Ak (i:=5) Cm.nd rfl (Or.inl rfl)) BK)))
 (Ai (BX (Bd Hs (Bg BP (pv 2) (Bb Gz (Bb Dd (pv 4) Ag) (Bs BZ rfl T.len Ez (Aa (pv 2) Ac))) (λ_ _=>rfl)) (Ba GF hr (Aa (Jd (Dh hr) (pv 3) (pv 5) (λ_ _=>rfl)) (Aa Ax Ac))) (by with_unfolding_all rfl)) (Ai (Ay Ep)) Bk)))
 (Ai (Ay Ep)))))))),?_⟩
 have lx:=QbO hp;have l16:(trm rs).length<=16:=QbY (Iz rs) ok.1;have lns:(Ah (trm rs)).length=(trm rs).length:=Qbu _;refine⟨_,rq,la,xs,rs,rq,hla,hp,ok,f20,nd,cl,λl ws H1 hl hw h1 h2 s1=>?_⟩;refine⟨Ao (by show 0<=1000;decide),λle hle=>?_⟩;have se:=Ad hle (.lst []);have ce:upd H1 le (.lst []) le=some (.lst []):=Ab;have s2:=s1.trans se;have hw2:=se _ _ hw;generalize upd H1 le (.lst [])=H2 at *;refine⟨_,_,.lst hw2 (Fv ws),.lst ce .nil,Jt (λy hy=>okn y (h1 y hy).1),by rfl,_,rq,?_⟩;rw[Lp];by_cases hws:ws=[]
 ·rw[QbK hws];have:Bq (trm rs)=[]:=by
   rcases rg with⟨e,_⟩|⟨_,a,b,ys,_,_,_,rp,_⟩
   ·exact e
   ·obtain⟨x,hx,px⟩:=rp.loop;have:=h2 x hx _ (by have:=rp.len;omega) px;rw[hws] at this;cases this
  rcases rg with⟨_,rfl⟩|⟨n,_⟩
  ·exact CP ⟨_,rq,rq,q _ s2⟩
  ·exact absurd this n
 rw[Qbw hws];have hs:Bq (trm rs)≠[]:=by
  cases ws with
  | nil=>exact absurd rfl hws
  | cons z r=>
   obtain⟨hz,n,p⟩:=h1 z (QaO ..);exact RZ nd hz p
 rcases rg with⟨e,_⟩|⟨_,a,b,ys,rfl,ha,hb,rp,_⟩
 ·exact absurd e hs
 have j4:ys.length<=16:=by have:=rp.len;omega
 refine Bx ?_;have ha2:=s2 _ _ ha;have hb2:=s2 _ _ hb;refine⟨_,rq,Oo ha2 ⟨_,rq,?_⟩⟩;refine Bx ⟨_,rq,a,_,rq,.inr (SqT.of ha2),rq,_,rq,bU (λn=>absurd rfl n) (λ_=>?_)⟩;refine⟨_,rq,a,_,_,_,rq,rq,SqT.of ha2,Bm (j:=0) rfl,rq,_,rq,gY (λn=>absurd rfl n) (λ_=>?_)⟩;refine⟨_,rq,a,_,_,_,rq,rq,SqT.of ha2,Bm (j:=1) rfl,Oo hb2 ⟨_,rq,?_⟩⟩;refine Bx ⟨_,rq,a,_,_,_,rq,rq,SqT.of ha2,Bm (j:=1) rfl,b,_,rq,.inr (SqT.of hb2),λln hln=>?_⟩;have s3:=Ad hln (.lst (ys.map V.str));have c3:upd H2 ln (.lst (ys.map V.str)) ln=some (.lst (ys.map V.str)):=Ab;have s03:=s2.trans s3;generalize upd H2 ln (.lst (ys.map V.str))=H3 at *;refine⟨_,rq,la,rq,⟨_,SqL.of (s03 _ _ hla)⟩,λlc hlc=>?_⟩;refine GK (xs:=xs) (λi U HX=>∃u vs,U=[u]/\HX lc=some (.lst vs)/\(∃rows:YM,Paired (Qk HX) vs rows/\Paired (TmV HX) rows (trm (rs.take i)))/\Same H3 HX) ⟨_,[],rq,Ab,⟨[],.nil,.nil⟩,Ad hlc _⟩ (λi U HX _ h=>?_) (λi x U HX hx h=>?_) (fun U HX h=>?_)
 ·obtain⟨u,vs,rfl,e1,e2,e3⟩:=h;exact SqL.of (e3 _ _ (s03 _ _ hla))
 ·obtain⟨u,vs,rfl,e1,⟨rows,e2,e2'⟩,e3⟩:=h;obtain⟨r,hri,tr,ar,rfl,g1,g2⟩:=Cw hp hx;obtain⟨z,c,rfl⟩:=Ml r (QaB hri);have g1':=e3 _ _ (s03 _ _ g1);have lv:=QbO e2;have lt:=QbO e2';have ltk:(trm (rs.take i)).length<=16:=by
   have tl:=Iz (rs.take i);have:=ok.1;rw[Qbl] at tl;omega
  refine⟨_,rq,tr,_,_,_,rq,rq,SqT.of g1',Bm (j:=1) rfl,_,rq,tr,_,_,_,rq,rq,SqT.of g1',Bm (j:=2) rfl,Ao (by show 2<=1000;decide),λt2 ht2=>?_⟩;have s4:=Ad ht2 (.tup [kV (Ru.term z c).call,.ref ar]);have c4:upd HX t2 (.tup [kV (Ru.term z c).call,.ref ar]) t2=some (.tup [kV (Ru.term z c).call,.ref ar]):=Ab;refine⟨vs,s4 _ _ e1,Av (by omega),?_⟩;have e1':=s4 _ _ e1;have e3':=e3.trans s4;have g2':=(g2.same s03).same e3';have e2s:Paired (Qk (upd HX t2 (.tup [kV (Ru.term z c).call,.ref ar]))) vs rows:=Paired.Bt e2 λ_ _ ⟨t,e,q⟩=>⟨t,e,s4 _ _ q⟩;have e2t:Paired (TmV (upd HX t2 (.tup [kV (Ru.term z c).call,.ref ar]))) rows (trm (rs.take i)):=Paired.Bt e2' λ_ _ q=>q.tups (Aq.of s4);generalize upd HX t2 (.tup [kV (Ru.term z c).call,.ref ar])=H5 at *;have nlt:lc≠t2:=λe=>by rw[e,c4] at e1';cases e1'
  have tu:Aq H5 (upd H5 lc (.lst (vs++[.ref t2]))):=Aq.upd (Ie e1');refine⟨_,vs++[.ref t2],rq,Ab,⟨rows++[(Sum.inr z,.ref ar)],?_,?_⟩,e3'.CW Af.upd hlc⟩
  ·refine Paired.app (Paired.Bt e2s λ_ _ zz=>?_) (.cons ⟨t2,rq,tu _ _ c4⟩ .nil);obtain⟨t,e,q⟩:=zz;exact⟨t,e,tu _ _ q⟩
  ·rw[G8 hri];exact Paired.app (Paired.Bt e2t λ_ _ q=>q.tups tu) (.cons ⟨rq,ar,rq,g2'.tups tu⟩ .nil)
 obtain⟨u,vs,rfl,e1,⟨rows,e2,e2'⟩,e3⟩:=h;rw[lx,Qbk] at e2';have lt:=QbO e2';have kn:(rows.map (·.1)).Nodup:=by
  rw[SM e2'];have:(trm rs).map (λp=>(Sum.inr p.1:Key))=(Ah (trm rs)).map Sum.inr:=by unfold Ah;rw[List.map_map];rfl
  rw[this];exact List.pairwise_map.mpr (nd.imp λh e=>h (Qcg e))
 refine⟨lc,vs,rows,rq,e1,e2,kn,by omega,λd hd=>?_⟩;have s5:=Ad hd (.dK rows);have c5:upd HX d (.dK rows) d=some (.dK rows):=Ab;have s35:=e3.trans s5;have tm5:Paired (TmV (upd HX d (.dK rows))) rows (trm rs):=Paired.Bt e2' λ_ _ q=>q.tups (Aq.of s5);generalize upd HX d (.dK rows)=H5 at *;refine Rm ?_;have hn5:=s35 _ _ c3;refine⟨_,rq,Ao (by show 0<=1000;decide),λle2 iC=>?_⟩;have s6:=Ad iC (.lst []);have c6:upd H5 le2 (.lst []) le2=some (.lst []):=Ab;generalize upd H5 le2 (.lst [])=H6 at *;have hn6:=s6 _ _ hn5;refine⟨_,_,.lst hn6 (Fv ys),.lst c6 .nil,Jt (λy hy=>okn y (rp.sub y hy)),by rfl,_,rq,?_⟩;rw[Lp,Qbw rp.ne];refine Bx ⟨_,rq,ln,ys,rq,.inl (SqL.of hn6),by omega,λn hn hle'=>?_⟩;have en:n=ys.length:=hn.mpr rp.nd;subst en;refine⟨_,rq,ln,_,rq,.inl (SqL.of hn6),rq,_,rq,?_⟩;rw[Qbu];refine bU (λn=>absurd rfl n) (λ_=>?_);refine⟨_,rq,ln,rq,⟨_,SqL.of hn6⟩,λlq hlq=>?_⟩;have h56:=s6 _ _ c5;refine GK (xs:=ys.map V.str) (λi U HY=>∃u,U=[u,jp d]/\HY lq=some (.lst (((ys.take i).map λ_=>true).map V.bl))/\Same H6 HY) ⟨_,rq,Ab,Ad hlq _⟩ (λi U HY _ h=>?_) (λi x U HY hx h=>?_) (fun U HY h=>?_)
 ·obtain⟨u,rfl,f1,f2⟩:=h;exact SqL.of (f2 _ _ hn6)
 ·obtain⟨u,rfl,f1,f2⟩:=h;rw[Qbd] at hx;obtain⟨y,hy,rfl⟩:=Qat.mp hx;have hyi:=(Qag.mp hy).1;refine⟨_,rq,_,rq,d,_,rq,Ce.k (k:=Sum.inr y) (f2 _ _ h56),_,f1,Av (by rw[Qbu,Qbu,Qbl];omega),_,rq,?_,f2.CW Af.upd hlq⟩;rw[Ab,Vs tm5,QbK (rp.sub y (QaB hy)),Qcm hy,Qbx,Qbx];rfl
 obtain⟨u,rfl,f1,f2⟩:=h;rw[Qbu,Qbk] at f1;refine⟨lq,_,rq,.inl (SqL.of f1),rq,Yg _,_,rq,?_⟩;show if inV (V.bl false) ((ys.map λ_=>true).map V.bl)=true then _ else _
 rw[Xz (bs:=ys.map λ_=>true) (λb hb=>by obtain⟨_,_,e⟩:=QbZ.mp hb;exact e.symm)];have s5Y:=s6.trans f2;refine Bx ⟨_,rq,ln,rq,⟨_,SqL.of (f2 _ _ hn6)⟩,?_⟩;have tmY:Paired (TmV HY) rows (trm rs):=Paired.Bt tm5 λ_ _ q=>q.tups (Aq.of s5Y);have s0Y:Same H HY:=(s03.trans s35).trans s5Y;refine Pn (xs:=ys.map V.str) (lo:=0) (λi U HZ=>∃u4 u5,U=[jp la,jp a,jp ln,jp d,u4,u5]/\Same HY HZ) ⟨_,_,rq,Same.refl _⟩ (λi U HZ _ h=>?_) (λi x pt U HZ hx h hpt=>?_) (fun U HZ h=>?_)
 ·obtain⟨u4,u5,rfl,k1⟩:=h;exact SqL.of (k1 _ _ (f2 _ _ hn6))
 ·obtain⟨u4,u5,rfl,k1⟩:=h;rw[Qbd] at hx;obtain⟨y,hy,rfl⟩:=Qat.mp hx;have hyi:=(Qag.mp hy).1;have s7:=Ad hpt (.tup [.int ((0+i:Nat):Int),.str y]);have c7:upd HZ pt (.tup [.int ((0+i:Nat):Int),.str y]) pt=some (.tup [.int ((0+i:Nat):Int),.str y]):=Ab;generalize upd HZ pt (.tup [.int ((0+i:Nat):Int),.str y])=HW at *;have k2:=k1.trans s7;have hnW:=k2 _ _ (f2 _ _ hn6);have hdW:=k2 _ _ (f2 _ _ h56);rw[Nat.zero_add] at c7;refine⟨pt,_,rq,SqT.of c7,rq,_,_,rq,_,_,rq,rq,?_⟩;have lm:(i+1) % ys.length < ys.length:=Nat.mod_lt _ (by omega);have hm:ys[(i+1) % ys.length]?=some ys[(i+1) % ys.length]:=Qal lm;have hat:atI (ys.map V.str) (((i:Int)+1) % ((ys.map V.str).length:Int))=some (.str ys[(i+1) % ys.length]):=by
   rw[Qbu,show ((i:Int)+1) % (ys.length:Int)=(((i+1) % ys.length:Nat):Int) by push_cast;rfl];exact Bm (by rw[Qbd,hm];rfl)
  have edge:=rp.nx i y _ hy hm;obtain⟨ar,cd,v1,ca,v3,v4⟩:=K6 tmY (rp.sub y (QaB hy));have hg:Ce HW d (V.str y) (some (.ref ar)):=by rw[<-v1];exact Ce.k (k:=Sum.inr y) hdW
  obtain⟨o1,o2⟩:=Vr ok _ v4;refine⟨_,rq,_,rq,_,_,rq,rq,_,rq,ln,_,rq,.inl (SqL.of hnW),_,_,rq,rq,by rw[Qbu];show (0:Int) < (ys.length:Int);omega,ln,_,_,_,rq,rq,SqL.of hnW,hat,?_⟩;refine⟨_,rq,_,rq,d,_,rq,hg,ar,cd,"term",o1,rq,.inr rfl,ca.same k2,o2,λl3 H9 hl3 hll s9=>?_⟩;refine⟨l3,_,rq,.inl (SqL.of hll),rq,Eh _,_,rq,?_⟩;show if (!inV (V.str ys[(i+1) % ys.length]) ((cd.nam "term").map V.str))=true then _ else _
  rw[(Ci _ _).mpr (by rw[<-v3];exact edge)];exact Bx ⟨_,_,rq,k2.trans s9⟩
 ·obtain⟨u4,u5,rfl,k1⟩:=h;exact q _ (s0Y.trans k1)
end
def Yt (ys:YF) (r:Ru):Prop:=∃z c,r=.term z c/\c.deep<=5/\c.many<=20/\(c.nam "term").length<=3/\(∀n∈c.nam "term",n∈ys)/\c.nam "of"=[]
structure GdR (ys:YF) (rs:List Ru):Prop where
 row:∀r∈rs,Yt ys r
 perm:(Ah (trm rs)).Perm ys
theorem GdR.Ml {ys:YF} {rs:List Ru} (h:GdR ys rs):Mt rs:=λr hr=>by
 obtain⟨z,c,e,_⟩:=h.row r hr;exact⟨z,c,e⟩
theorem Lh {rs:List Ru} (h:Mt rs):(trm rs).length=rs.length:=by
 conv=>rhs;rw[NK h]
 rw[Qbu]
theorem GdR.len {ys:YF} {rs:List Ru} (h:GdR ys rs):rs.length=ys.length:=by
 have:=h.perm.length_eq;unfold Ah at this;rw[Qbu,Lh h.Ml] at this;exact this
theorem GdR.ok {ys:YF} {rs:List Ru} (h:GdR ys rs) (l:ys.length<=16):Hz rs:=⟨by rw[h.len];exact l,λr hr=>by
 obtain⟨z,c,rfl,h1,h2,_⟩:=h.row r hr;exact⟨by show c.deep<=6;omega,by show c.many<=400;omega⟩⟩
theorem GdR.f20 {ys:YF} {rs:List Ru} (h:GdR ys rs):∀r∈rs,(r.c.nam "term").length<=20:=λr hr=>by
 obtain⟨z,c,rfl,h1,h2,h3,_⟩:=h.row r hr;show (c.nam "term").length<=20;omega
theorem GdR.nd {ys:YF} {rs:List Ru} (h:GdR ys rs) (n:ys.Nodup):(Ah (trm rs)).Nodup:=h.perm.nodup_iff.mpr n
theorem GdR.cl {ys:YF} {rs:List Ru} (h:GdR ys rs):Ir (trm rs):=λp hp o ho=>by
 obtain⟨z,c,e,h1,h2,h3,h4,_⟩:=h.row _ (Iw hp);cases e;exact h.perm.mem_iff.mpr (h4 o ho)
theorem bN {rs:List Ru} (a:Mt rs) (h:(Ah (trm rs)).Nodup):(rs.map Ru.key).Nodup:=by
 have e:rs.map Ru.key=(Ah (trm rs)).map λz=>([Sum.inr ("term":Str),Sum.inr z]:List Key):=by
  conv=>lhs;rw[NK a]
  unfold Ah;rw[List.map_map,List.map_map];rfl
 rw[e];exact List.pairwise_map.mpr (h.imp λ{x y} n e=>n (by injection e with _ e;injection e with e _;exact Qcg e))
theorem Xf {rs:List Ru} (h:(rs.map Ru.key).Nodup):rTw rs=none:=by
 unfold rTw;rw[Qad];intro i hi;have hi:=List.mem_range.mp hi;refine QD (Qal hi) λm=>?_;rw[List.map_take] at m;obtain⟨j,hj,e⟩:=List.mem_take_iff_getElem.mp m;rw[Qbu] at hj;have:=Qai.mp h j i (by rw[Qbu];omega) (by rw[Qbu];exact hi) (by omega);exact this (e.trans (List.getElem_map ..).symm)
theorem Q5 {rs:List Ru} {w tl:Str} {ns:YF} (h:∀r∈rs,∀z∈r.c.nam w,z∈ns):nmM rs w tl ns=none:=by
 unfold nmM;rw[Qad];intro i hi;have hi:=List.mem_range.mp hi;rw[M7 (Qal hi),Qad];exact λz hz=>if_pos (h _ (Qbq hi) z hz)
theorem XH {rs:List Ru} {as:List Int} (a:Mt rs):nbM rs as=none:=by
 unfold nbM;rw[Qad];intro i hi;have hi:=List.mem_range.mp hi;rw[M9 (Qal hi)];obtain⟨z,c,e⟩:=a _ (Qbq hi);rw[e];rfl
theorem GdR.w4n {ys:YF} {rs:List Ru} (h:GdR ys rs) (n:ys.Nodup) (ja:YU):w4 ja [] rs=none:=by
 unfold w4;have n1:nmM rs "of" "zone" []=none:=Q5 λr hr z hz=>by
  obtain⟨y,c,rfl,_,_,_,_,e⟩:=h.row r hr;have hz:z∈c.nam "of":=hz;rw[e] at hz;cases hz
 have n2:nmM rs "term" "term" (Ah (trm rs))=none:=Q5 λr hr z hz=>by
  obtain⟨y,c,rfl,_,_,_,e,_⟩:=h.row r hr;exact h.perm.mem_iff.mpr (e z hz)
 ·rw[Xf (bN h.Ml (h.nd n)),n1,n2,XH h.Ml];rfl
def Ht (k:Str) (a:Int):YU:=[[⟨k,a,[]⟩]]
theorem QT {k:Str} {a:Int} (h:GC k):Mp (Ht k a):=by
 refine⟨λps hps=>?_,by show 1<=3;decide⟩;rw[QaP.mp hps];exact⟨Qce _,by show 1<=12;decide,λp hp=>by
  rw[QaP.mp hp];exact⟨Qcf _,(λd hd=>by cases hd),.inr h⟩⟩
theorem Zz {k:Str} {a:Int} (h:GC k):∀d∈dvs (Ht k a),d.kind=k:=by
 have e:dvs (Ht k a)=[⟨0,1,0,k,a⟩]:=by
  have e1:DQ 0 1 ⟨k,a,[]⟩=[⟨0,1,0,k,a⟩]:=by
   unfold DQ;rw[if_neg (ZQ h)];rfl
  show up (pdL (Ht k a)) 1=_;rw[Iu,Nz];show []++up (pd1 ((0:Nat):Int) [⟨k,a,[]⟩]) 1=_;rw[Iu,Nz];show []++([]++DQ ((0:Nat):Int) ((1+0:Nat):Int) ⟨k,a,[]⟩)=_;rw[List.nil_append,List.nil_append];exact e1
 intro d hd;rw[e] at hd;rw[QaP.mp hd]
theorem bh {rs:List Ru} {k:Str} {a:Int} (h:GC k) (n:k≠"bell"):bsM rs (dvs (Ht k a))=none:=by
 unfold bsM;rw[Qad];intro d hd;exact if_neg λz=>n (by rw[<-Zz h d hd];exact z.1)
theorem GdR.rg {ys:YF} {rs:List Ru} {H:Hp} {v:V} {k:Str} {a:Int} (h:GdR ys rs) (n:ys.Nodup) (hk:GC k) (nk:k≠"bell") (r:cN H (Ht k a) [] rs v):Im H (trm rs) v:=by
 rcases r with⟨z,_⟩|⟨_,_,r⟩|⟨_,e,r⟩
 ·exact absurd (h.w4n n _) z
 ·exact r
 ·rw[bh hk nk] at r;exact .inl ⟨e,r⟩
theorem Zq {H:Hp} {ts:List (Str×Cd)} {v u:V} (oky:∀z∈Ah ts,okS z) (h:Im H ts v) (g:Im H ts u):∃d,Rep H v d/\Rep H u d/\SeqAt.shaped d=true/\PyData.eqv d d=true:=by
 rcases h with⟨e,rfl⟩|⟨n,a,b,ys,rfl,h1,h2,h3,h4⟩
 ·rcases g with⟨_,rfl⟩|⟨n,_⟩
  ·exact⟨.none,.non,.non,rq,rq⟩
  ·exact absurd e n
 ·rcases g with⟨e,_⟩|⟨_,a',b',ys',rfl,g1,g2,g3,g4⟩
  ·exact absurd e n
  ·have:=h4.uniq g4;subst this;have sh:SeqAt.shaped (.tuple [.str "ring",.tuple (ys.map PyData.str)])=true:=by
    have e0:=Jt (ys:=ys) λy hy=>oky y (h3.sub y hy);have e0:(PyData.canLayAll0 (ys.map PyData.str)&&decide (PyData.depthAll (ys.map PyData.str)+1<=64))=true:=e0;rw[Qbo] at e0;have e2:∀ys:YF,PyData.depthAll (ys.map PyData.str)=0:=by
     intro ys
     induction ys with
     | nil=>rfl
     | cons y r ih=>
      show max 0 (PyData.depthAll (r.map PyData.str))=0;rw[ih];rfl
    show ((PyData.strOk "ring"&&(PyData.canLayAll0 (ys.map PyData.str)&&true))&&decide (max 0 (max (PyData.depthAll (ys.map PyData.str)+1) 0)+1<=64))=true;rw[e0.1,e2 ys]
    decide +kernel
   exact⟨_,.tup h1 (.cons (.str _) (.cons (.tup h2 (Fv ys)) .nil)),.tup g1 (.cons (.str _) (.cons (.tup g2 (Fv ys)) .nil)),sh,SeqAt.eqv_refl _ (SeqAt.canLay_of_shaped sh)⟩
theorem Im.same {H H':Hp} {ts:List (Str×Cd)} {v:V} (h:Im H ts v) (s:Same H H'):Im H' ts v:=by
 rcases h with h |⟨n,a,b,ys,e,h1,h2,h3,h4⟩
 ·exact .inl h
 ·exact .inr ⟨n,a,b,ys,e,s _ _ h1,s _ _ h2,h3,h4⟩
theorem GdR.turn {ys:YF} {rs:List Ru} (h:GdR ys rs) (t:Nat):GdR ys (rs.drop t++rs.take t):=by
 refine⟨λr hr=>?_,?_⟩
 ·rcases Qbv.mp hr with hr | hr
  ·exact h.row r (List.mem_of_mem_drop hr)
  ·exact h.row r (List.mem_of_mem_take hr)
 ·have e:Ah (trm (rs.drop t++rs.take t))=Ah (trm (rs.drop t))++Ah (trm (rs.take t)):=by
   unfold Ah trm;rw[Qax,Qbx]
  have e2:Ah (trm rs)=Ah (trm (rs.take t))++Ah (trm (rs.drop t)):=by
   unfold Ah trm;rw[<-Qbx,<-Qax,Qaz]
  rw[e];refine (List.perm_append_comm).trans ?_;rw[<-e2];exact h.perm
theorem GdR.put {ys:YF} {rs:List Ru} (h:GdR ys rs) {i:Nat} {z:Str} {c c':Cd} (hi:rs[i]?=some (.term z c)) (hk:Yt ys (.term z c')):GdR ys (rs.set i (.term z c')):=by
 have il:=(Qag.mp hi).1;refine⟨λr hr=>?_,?_⟩
 ·rcases List.mem_or_eq_of_mem_set hr with hr | rfl
  ·exact h.row r hr
  ·exact hk
 ·have e:Ah (trm (rs.set i (.term z c')))=Ah (trm rs):=by
   have e1:∀(l:List Ru),Ah (trm l)=l.filterMap λr=>match r with | .term z _=>some z | .sound _ _=>none:=by
    intro l
    induction l with
    | nil=>rfl
    | cons r l ih=>
     cases r with
     | term z c=>show z::Ah (trm l)=_;rw[ih];rfl
     | sound n c=>show Ah (trm l)=_;rw[ih];rfl
   rw[e1,e1];have e2:rs=rs.take i++(.term z c::rs.drop (i+1)):=by
    have e3:Ru.term z c::rs.drop (i+1)=rs.drop i:=by
     rw[<-List.getElem_cons_drop il,(Qag.mp hi).2]
    rw[e3];exact (Qaz i rs).symm
   rw[List.set_eq_take_append_cons_drop,if_pos il]
   conv=>rhs;rw[e2]
   rw[Qax,Qax];rfl
  rw[e];exact h.perm
abbrev G4:Stmt:=top 25
abbrev Y8:YF:=["_law_script"]
theorem CZ:Bf ["_law_script","_law_k","_law_bag_here","_law_place","_law_plan","_law_names_here","_law_straight","_law_rows","_law_at","_law_name_here","_law_turn","_law_found"] Y8 (Al G4):=by ac_rfl
theorem Z4 (xs:YG) (n:Nat):Cr xs none (some (n:Int))=xs.take n:=by
 unfold Cr;rw[HT.Ly,HT.NZ];simp
theorem jF {r i:Int} (r0:0<=r) (r1:r < 5):∃n:Nat,atI [V.int (1+r),.int 16] (if decide (V.int i=V.int 0)=true then 1 else 0)=some (.int n)/\1<=n/\n<=16:=by
 by_cases h:i=0
 ·subst h;exact⟨16,rq,by decide,by decide⟩
 ·rw[if_neg (by rw[Qbw (λz=>h (by injection z))];decide)];refine⟨(1+r).toNat,?_,by omega,by omega⟩;rw[Int.toNat_of_nonneg (by omega)];rfl
theorem jE {r:Int} (r0:0<=r) (r1:r < 3):∃k:Str,atI [V.str "seeker",.str "door",.str "knob"] r=some (.str k)/\GC k/\k≠"bell":=by
 have:r=0\/r=1\/r=2:=by omega
 rcases this with rfl | rfl | rfl
 ·exact⟨"seeker",rq,.inl rfl,by trivial⟩
 ·exact⟨"door",rq,.inr (.inr (.inr rfl)),by trivial⟩
 ·exact⟨"knob",rq,.inr (.inl rfl),by trivial⟩
theorem Qw {rs:List Ru} {z:Str} {c:Cd}:Ah (trm (rs++[.term z c]))=Ah (trm rs)++[z]:=by
 unfold Ah trm;rw[Qax,Qbx];rfl
section
variable {P:Program} {w:World} {K:YD} {mg:YB} {base:Heap} {sk:Addr}
theorem bx {f:Addr} {fd:FuncData} (F:Fun K "law" "law" G4 f fd) (T:Tc K mg sk) (Ot:Good P w K mg base "_law_bag" 1 Je (Y5 K)) (Bl:Good P w K mg base "_law_take" 1 Fo Mv) (Wt:Good P w K mg base "_law_names" 3 Gy SQ) (U0:Good P w K mg base "_law_naming" 2 FT Qv) (GR:Good P w K mg base "rules_wrong" 12 DN aG) (Jl:Good P w K mg base "_law_ring_right" 9 Dq aH):Ej P w K mg base CX0 13 f fd Y8 (Qg K):=by
 refine F.ok CZ (λvs H Q E h=>?_) (λcdv A outer s H vs Q E hr h=>?_)
 ·obtain⟨a,ns,rfl,_⟩:=h;rfl
 obtain⟨a,ns,rfl,hS,h63,q⟩:=h;refine⟨_,(Ae (BL Qbz rfl (Fx rfl T.range (Aa (Bs (WQ rfl) rfl T.max cI (Aa Ag (Aa (Bs (WM rfl) rfl T.min cH (Aa Ag (Aa (Bs BZ rfl T.len Ez (Aa (pv 0) Ac)) Ac))) Ac))) Ac)) (Ak (i:=1) CZ.nd rfl (Or.inl rfl))
 (Ae (Aw (i:=2) CZ.nd rfl (Or.inl rfl) (Ba Ot hr (Aa (pv 0) (Aa (pv 1) Ac))))
 (Ae (Aw (i:=3) CZ.nd rfl (Or.inl rfl) (Bc (Aa (Bg BP (Cg (Aa Ax (Aa Ax (Aa Ax Ac)))) (Ba Bl hr (Aa (pv 2) (Aa Ag Ac))) (λ_ _=>rfl)) (Aa (Bb Dd Ag (Ba Bl hr (Aa (pv 2) (Aa Ag Ac)))) (Aa (Bc Ac) Ac)))))
 (Ae (Aw (i:=4) CZ.nd rfl (Or.inl rfl) (Bc (Aa Ag (Aa (Bc (Aa (Bc (Aa (pv 3) Ac)) Ac)) (Aa (Bc Ac) Ac)))))
 (Ae (Aw (i:=5) CZ.nd rfl (Or.inl rfl) (Ba Wt hr (Aa (pv 2) (Aa (Bg BP (Cg (Aa (Bb Dd Ag (Ba Bl hr (Aa (pv 2) (Aa Ag Ac)))) (Aa Ag Ac))) (Ca Pq rfl T.int WW (Aa (K5 FW (Ba Bl hr (Aa (pv 2) (Aa Ag Ac))) Ag (Bw _)) Ac)) (λ_ _=>rfl)) Ac))))
 (Ae (Aw (i:=6) CZ.nd rfl (Or.inl rfl) (K5 FW (Ba Bl hr (Aa (pv 2) (Aa Ag Ac))) Ag (Bw _)))
 (Ae (Aw (i:=7) CZ.nd rfl (Or.inl rfl) (Cg Ac))
 (Ae (BL Qbz rfl (Pa rfl T.enumerate (pv 5)) (CG rfl (Am (Ak (i:=8) CZ.nd rfl (Or.inl rfl)) (Am (Ak (i:=9) CZ.nd rfl (Or.inl rfl)) BK)))
 (Ai (Gg (G5 Qap Qam Qan FJ (pv 7) (Aa (Bc (Aa Ax (Aa (pv 9) (Aa (Ba U0 hr (Aa (pv 2) (Aa (Xk (Hq (pv 6)) (Dy KR (pv 5) (Dm (Bb Dd (pv 8) Ag)) Gh) (pv 5)) Ac))) Ac)))) Ac)))))
 (Ae (Aw (i:=10) CZ.nd rfl (Or.inl rfl) (Ba Bl hr (Aa (pv 2) (Aa (Bs BZ rfl T.len Ez (Aa (pv 7) Ac)) Ac))))
 (Ae (Aw (i:=7) CZ.nd rfl (Or.inl rfl) (Bb V6 (Dy KR (pv 7) (Dm (pv 10)) Gh) (Dy KR (pv 7) Gh (Dm (pv 10)))))
 (Ae (Aw (i:=11) CZ.nd rfl (Or.inl rfl) (Ba GR hr (Aa (pv 4) (Aa (Ca Fb rfl T.tuple Fp (Aa (pv 7) Ac)) Ac))))
 (Ae (BX (PW.pt (K1 (Jb (Hq (Ba Jl hr (Aa (pv 7) (Aa (pv 11) Ac))))) (QG (Bd (V4 hr.units) (Ba GR hr (Aa (pv 4) (Aa (Ca Fb rfl T.tuple Fp (Aa (Ca Hw rfl T.list Jo (Aa (pv 7) Ac)) Ac)) Ac))) (pv 11) (Bw _))))) (Ai (Ay Ep)) Bk)
 (Ae (Aw (i:=8) CZ.nd rfl (Or.inl rfl) (Ba Bl hr (Aa (pv 2) (Aa (Bs BZ rfl T.len Ez (Aa (pv 7) Ac)) Ac))))
 (Ae (MJ (Bc (Aa Ax (Aa (Bg Ck (Bg BP (pv 7) (pv 8) (λ_ _=>rfl)) Ag (λ_ _=>rfl)) (Aa (Bc (Aa Ax (Aa (Bc (Aa Ax (Aa (Bg BP (pv 5) (Ba Bl hr (Aa (pv 2) (Aa (Bs BZ rfl T.len Ez (Aa (pv 5) Ac)) Ac))) (λ_ _=>rfl)) Ac))) Ac))) Ac)))) (QL (pv 7) (pv 8) set_list))
 (Ai (BX (Jb (Hq (Ba Jl hr (Aa (pv 7) (Aa (Ba GR hr (Aa (pv 4) (Aa (Ca Fb rfl T.tuple Fp (Aa (pv 7) Ac)) Ac))) Ac))))) (Ai (Ay Ep)) Bk))))))))))))))))
 (Ai (Ay Ep))),?_⟩
 have hl:(ns.map V.int).length=ns.length:=Qbu _;refine⟨_,rq,a,_,rq,.inl hS,_,_,rq,_,_,rq,_,rq,?_,?_,?_⟩
 ·rw[hl];split <;> split <;> omega
 ·rw[hl];split <;> split <;> omega
 refine GJ (λ(i:Nat) (U : St) (H':Hp)=>Same H H'/\∃(u1 u2 u3 u4 u5 u6 u7 u8 u9 u10 u11:Option V),U=[jp a,u1,u2,u3,u4,u5,u6,u7,u8,u9,u10,u11]) ⟨Same.refl H,_,_,_,_,_,_,_,_,_,_,_,rq⟩ (λi U H' hi h=>?_) (fun U H' h=>?_)
 ·obtain⟨sm,u1,u2,u3,u4,u5,u6,u7,u8,u9,u10,u11,rfl⟩:=h;rw[hl] at hi;have hi':(i:Int)<=100:=by
   revert hi;split <;> split <;> omega
  refine⟨_,rq,_,rq,a,ns,_,rq,sm.seq hS,h63,by omega,by omega,λb o hb0 Yb=>?_⟩;have s1:Same H (upd H' b o):=sm.trans (Ad hb0 o);have fb:H b=none:=sm.free hb0;generalize upd H' b o=H1 at s1 Yb ⊢;refine⟨Ao (by show 3<=1000;decide),λl3 hl3=>?_⟩;have t2:=Ad hl3 (.lst [.str "seeker",.str "door",.str "knob"]);have c2:upd H1 l3 (.lst [.str "seeker",.str "door",.str "knob"]) l3=some (.lst [.str "seeker",.str "door",.str "knob"]):=Ab;have nb3:b≠l3:=Yb.nb hl3;have hb2:=Yb.same t2;have s2:=s1.trans t2;generalize upd H1 l3 (.lst [.str "seeker",.str "door",.str "knob"])=H2 at *;refine⟨_,rq,b,0,3,rq,hb2,by omega,by decide,by decide,λr3 H3 r30 r31 hb3 sb3=>?_⟩;obtain⟨k,hk,ok,nk⟩:=jE r30 r31;refine⟨l3,_,_,_,rq,rq,SqL.of (sb3 _ _ c2 nb3.symm),hk,_,rq,b,_,99,rq,hb3,by omega,by decide,by decide,λr4 H4 r40 r41 hb4 sb4=>⟨_,_,rq,rq,Ao (by show 0<=1000;decide),λte hte=>?_⟩⟩;have s4:=(s2.CW sb3 fb).CW sb4 fb;have t5:=Ad hte (.tup []);have c5:upd H4 te (.tup []) te=some (.tup []):=Ab;have hb5:=hb4.same t5;have s5:=s4.trans t5;generalize upd H4 te (.tup [])=H5 at *;refine⟨Ao (by show 3<=1000;decide),λtp htp=>?_⟩;have t6:=Ad htp (.tup [.str k,.int (1+r4),.ref te]);have c6:upd H5 tp (.tup [.str k,.int (1+r4),.ref te]) tp=some (.tup [.str k,.int (1+r4),.ref te]):=Ab;have hb6:=hb5.same t6;have s6:=s5.trans t6;have c56:=t6 _ _ c5;generalize upd H5 tp (.tup [.str k,.int (1+r4),.ref te])=H6 at *;refine⟨_,rq,Ao (by show 1<=1000;decide),λta hta=>?_⟩;have t7:=Ad hta (.tup [.ref tp]);have c7:upd H6 ta (.tup [.ref tp]) ta=some (.tup [.ref tp]):=Ab;generalize upd H6 ta (.tup [.ref tp])=H7 at *;refine⟨Ao (by show 1<=1000;decide),λtb htb=>?_⟩;have t8:=Ad htb (.tup [.ref ta]);have c8:upd H7 tb (.tup [.ref ta]) tb=some (.tup [.ref ta]):=Ab;generalize upd H7 tb (.tup [.ref ta])=H8 at *;refine⟨Ao (by show 0<=1000;decide),λtz htz=>?_⟩;have t9:=Ad htz (.tup []);have c9:upd H8 tz (.tup []) tz=some (.tup []):=Ab;generalize upd H8 tz (.tup [])=H9 at *;refine⟨Ao (by show 3<=1000;decide),λpl hpl=>?_⟩;have ta':=Ad hpl (.tup [.int 1,.ref tb,.ref tz]);have ca:upd H9 pl (.tup [.int 1,.ref tb,.ref tz]) pl=some (.tup [.int 1,.ref tb,.ref tz]):=Ab;generalize upd H9 pl (.tup [.int 1,.ref tb,.ref tz])=Ha at *;have s9a:=t9.trans ta';have s8a:=t8.trans s9a;have s7a:=t7.trans s8a;have pa:EY Ha pl (Ht k (1+r4)):=⟨_,_,tb,_,ca,s9a _ _ c8,.cons ⟨ta,_,rq,s8a _ _ c7,.cons ⟨tp,te,[],rq,s7a _ _ c6,s7a _ _ c56,.nil⟩ .nil⟩ .nil⟩;have pz:PlZ Ha pl []:=⟨_,_,tz,[],ca,ta' _ _ c9,.nil⟩;have hba:=hb6.same s7a;have sa:=s6.trans s7a;refine⟨_,rq,_,rq,b,_,5,rq,hba,by omega,by decide,by decide,λr5 Hb r50 r51 hbb sbb=>⟨_,_,rq,rq,Ao (by show 2<=1000;decide),λl2 hl2=>?_⟩⟩;have tb2:=Ad hl2 (.lst [.int (1+r5),.int 16]);have cb2:upd Hb l2 (.lst [.int (1+r5),.int 16]) l2=some (.lst [.int (1+r5),.int 16]):=Ab;have nb2:b≠l2:=hbb.nb hl2;have iD:=hbb.same tb2;have sab:Af b Ha (upd Hb l2 (.lst [.int (1+r5),.int 16])):=sbb.trans (Af.of tb2);generalize upd Hb l2 (.lst [.int (1+r5),.int 16])=Hc at *;refine⟨_,rq,b,_,4,rq,iD,by omega,by decide,by decide,λr6 Hd r60 r61 hbd sbd=>?_⟩;obtain⟨many,dO,m1,m16⟩:=jF (i:=r6) r50 r51;refine⟨rq,.inr ⟨_,rq,l2,_,_,_,rq,rq,SqL.of (sbd _ _ cb2 nb2.symm),dO,b,_,many,rq,hbd,by omega,by omega,λln ys He hln ly hys nd bY hbe sbe=>?_⟩⟩;have oky:∀y∈ys,okS y:=λy hy=>(hys y hy).2;have sae:Af b Ha He:=(sab.trans sbd).trans sbe;have nbn:b≠ln:=λe=>by
   obtain⟨x,y,z,e1,_⟩:=hbd;rw[e] at e1;rw[e1] at hln;cases hln
  have npl:pl≠b:=λe=>by
   obtain⟨x,y,z,e1,_⟩:=hba;rw[e,e1] at ca;cases ca
  refine⟨_,rq,b,_,2,rq,hbe,by omega,by decide,by decide,λr7 Hf r70 r71 hbf sbf=>⟨rq,Ao (by show 0<=1000;decide),λlr hlr=>?_⟩⟩;have tf:=Ad hlr (.lst []);have cf:upd Hf lr (.lst []) lr=some (.lst []):=Ab;have nbr:b≠lr:=hbf.nb hlr;have hbg:=hbf.same tf;have sag:Af b Ha (upd Hf lr (.lst [])):=(sae.trans sbf).trans (Af.of tf);have lng:=tf _ _ (sbf _ _ bY nbn.symm);have nlr:ln≠lr:=Ar (sbf _ _ bY nbn.symm) hlr;have tag:Aq Ha (upd Hf lr (.lst [])):=sag.tup hba.GQ;have sg:Af b H (upd Hf lr (.lst [])):=(Af.of sa).trans sag;have flr:H lr=none:=(((sa.CW sae fb).CW sbf fb)).free hlr;generalize upd Hf lr (.lst [])=Hg at *;have plg:∀Hx,Aq Hg Hx->EY Hx pl (Ht k (1+r4))/\PlZ Hx pl []:=λHx s=>⟨(pa.tups tag).tups s,(pz.tups tag).tups s⟩;have ntg:∀xs,Hg lr≠some (.tup xs):=Ie cf;refine⟨_,rq,ln,rq,⟨_,SqL.of lng⟩,?_⟩;generalize decide (V.int r7=V.int 0)=stt;refine Pn (xs:=ys.map V.str) (lo:=0) (λj U HZ=>∃(u8 u9 u10 u11:Option V) (xs:YG) (rs:List Ru),U=[jp a,some (.int (0+(i:Int))),jp b,jp tp,jp pl,jp ln,some (.bl stt),jp lr,u8,u9,u10,u11]/\HZ lr=some (.lst xs)/\Paired (RuV HZ) xs rs/\(∀r∈rs,Yt ys r)/\Ah (trm rs)=ys.take j/\Bp HZ b (200+8*j)/\S2 b lr Hg HZ)
   ⟨_,_,_,_,[],[],rq,cf,.nil,(λr h=>by cases h),rq,hbg.mono (by omega),S2.refl _ _ _⟩ (λj U HZ _ h=>?_) (λj x pt U HZ hx h hpt=>?_) (fun U HZ h=>?_)
  ·obtain⟨u8,u9,u10,u11,xs,rs,rfl,k1,k2,k3,k4,k5,k6⟩:=h;exact SqL.of (k6 _ _ lng nbn.symm nlr)
  ·obtain⟨u8,u9,u10,u11,xs,rs,rfl,k1,k2,k3,k4,k5,k6⟩:=h;rw[Qbd] at hx;obtain⟨y,hy,rfl⟩:=Qat.mp hx;have hj:=(Qag.mp hy).1;have lxs:xs.length<=16:=by
    have e1:=QbO k2;have e2:Mt rs:=λr hr=>by
     obtain⟨z,c,e,_⟩:=k3 r hr;exact⟨z,c,e⟩
    have e3:=congrArg List.length k4;unfold Ah at e3;rw[Qbu,Lh e2,Qbl] at e3;omega
   have w1:=Ad hpt (.tup [.int ((0+j:Nat):Int),.str y]);have w2:upd HZ pt (.tup [.int ((0+j:Nat):Int),.str y]) pt=some (.tup [.int ((0+j:Nat):Int),.str y]):=Ab;have k1':=w1 _ _ k1;have k5':=k5.same w1;have k6':=k6.trans (S2.of w1);have SZ:S2 b lr HZ (upd HZ pt (.tup [.int ((0+j:Nat):Int),.str y])):=S2.of w1;generalize upd HZ pt (.tup [.int ((0+j:Nat):Int),.str y])=HX at *;have lnX:=k6' _ _ lng nbn.symm nlr;refine⟨pt,_,rq,SqT.of w2,rq,_,_,rq,_,_,rq,rq,?_⟩;rw[Nat.zero_add];refine⟨_,rq,.inl ⟨rq,_,SqL.of k1'⟩,_,rq,_,rq,_,rq,_,rq,Om (λhst=>?_) (λhst=>?_)⟩
   ·refine⟨_,rq,_,rq,_,_,rq,rq,_,rq,ln,_,rq,SqL.of lnX,λls hls=>?_⟩;have w3:=Ad hls (.lst (Cr (ys.map V.str) (some ((j:Int)+1)) none));have w4:upd HX ls (.lst (Cr (ys.map V.str) (some ((j:Int)+1)) none)) ls=some (.lst ((ys.drop (j+1)).map V.str)):=by
     rw[Ab,show ((j:Int)+1)=((j+1:Nat):Int) by push_cast;rfl,KC,List.map_drop]
    have nbs:b≠ls:=k5'.nb hls;have k1':=w3 _ _ k1';have k5':=k5'.same w3;have k6':=k6'.trans (S2.of w3);have SZ:=SZ.trans (S2.of (b:=b) (l:=lr) w3);generalize upd HX ls (.lst (Cr (ys.map V.str) (some ((j:Int)+1)) none))=HV at *;refine⟨b,ls,_,ys.drop (j+1),rq,k5',by omega,nbs,⟨w4,by rw[Qbr];omega,λz hz=>oky z (List.mem_of_mem_drop hz)⟩,λt c HY ct d1 d2 d3 d4 d5 hbY sbY=>?_⟩;have hsub:∀n∈ys.drop (j+1),n∈ys:=λn hn=>List.mem_of_mem_drop hn;have XQ:=sbY _ _ k1' nbr.symm;have eY:=k6'.trans (S2.l (l:=lr) sbY);have SX:=SZ.trans (S2.l (l:=lr) sbY);refine⟨Ao (by show 3<=1000;decide),λtt htt=>?_⟩;have q1:=Ad htt (.tup [.str "term",.str y,.ref t]);have q2:upd HY tt (.tup [.str "term",.str y,.ref t]) tt=some (.tup [.str "term",.str y,.ref t]):=Ab;have ct':=ct.same q1;have Yc:=hbY.same q1;have eY':=eY.trans (S2.of q1);have lrY:=q1 _ _ XQ;generalize upd HY tt (.tup [.str "term",.str y,.ref t])=HW at *;have tW:Aq HZ HW:=(SX.tup k5.GQ (Ie k1)).trans (Aq.of q1);have tu:Aq HW (upd HW lr (.lst (xs++[.ref tt]))):=Aq.upd (Ie lrY);refine⟨lr,_,_,rq,rq,lrY,Av (by omega),?_⟩;refine⟨_,_,_,_,xs++[.ref tt],rs++[.term y c],rq,Ab,?_,λr hr=>?_,?_,(Yc.Mx Af.upd nbr).mono (by omega),eY'.trans (S2.r Af.upd)⟩
    ·exact Paired.app (Paired.Bt k2 λ_ _ z=>(z.tups tW).tups tu) (.cons ⟨tt,t,rq,tu _ _ q2,ct'.tups tu⟩ .nil)
    ·rcases Qbv.mp hr with hr | hr
     ·exact k3 r hr
     ·rw[QaP.mp hr];exact⟨y,c,rq,d1,d2,d3,λn hn=>hsub n (d4 n hn),d5⟩
    ·rw[Qw,k4,Qcm hy]
   ·refine⟨_,rq,b,ln,_,ys,rq,k5',by omega,nbn,⟨lnX,by omega,oky⟩,λt c HY ct d1 d2 d3 d4 d5 hbY sbY=>?_⟩;have hsub:∀n∈ys,n∈ys:=λn hn=>hn;have XQ:=sbY _ _ k1' nbr.symm;have eY:=k6'.trans (S2.l (l:=lr) sbY);have SX:=SZ.trans (S2.l (l:=lr) sbY);refine⟨Ao (by show 3<=1000;decide),λtt htt=>?_⟩;have q1:=Ad htt (.tup [.str "term",.str y,.ref t]);have q2:upd HY tt (.tup [.str "term",.str y,.ref t]) tt=some (.tup [.str "term",.str y,.ref t]):=Ab;have ct':=ct.same q1;have Yc:=hbY.same q1;have eY':=eY.trans (S2.of q1);have lrY:=q1 _ _ XQ;generalize upd HY tt (.tup [.str "term",.str y,.ref t])=HW at *;have tW:Aq HZ HW:=(SX.tup k5.GQ (Ie k1)).trans (Aq.of q1);have tu:Aq HW (upd HW lr (.lst (xs++[.ref tt]))):=Aq.upd (Ie lrY);refine⟨lr,_,_,rq,rq,lrY,Av (by omega),?_⟩;refine⟨_,_,_,_,xs++[.ref tt],rs++[.term y c],rq,Ab,?_,λr hr=>?_,?_,(Yc.Mx Af.upd nbr).mono (by omega),eY'.trans (S2.r Af.upd)⟩
    ·exact Paired.app (Paired.Bt k2 λ_ _ z=>(z.tups tW).tups tu) (.cons ⟨tt,t,rq,tu _ _ q2,ct'.tups tu⟩ .nil)
    ·rcases Qbv.mp hr with hr | hr
     ·exact k3 r hr
     ·rw[QaP.mp hr];exact⟨y,c,rq,d1,d2,d3,λn hn=>hsub n (d4 n hn),d5⟩
    ·rw[Qw,k4,Qcm hy]
  ·obtain⟨u8,u9,u10,u11,xs,rs,rfl,k1,k2,k3,k4,k5,k6⟩:=h;rw[Qbu] at k4 k5;rw[Qbk] at k4;have lx:=QbO k2;have gd:GdR ys rs:=⟨k3,k4 ▸ List.Perm.refl _⟩;have lrs:=gd.len;have tgZ:Aq Hg HZ:=k6.tup hbg.GQ ntg;have lnZ:=k6 _ _ lng nbn.symm nlr;have fgZ:Af b H HZ:=λc o e nc=>k6 _ _ (sg _ _ e nc) nc (Ar e flr);have lxi:((xs.length:Nat):Int)=(ys.length:Int):=by rw[lx,lrs]
   refine⟨_,rq,_,rq,lr,_,rq,.inl (SqL.of k1),b,_,_,rq,k5,by omega,by rw[lxi];omega,by rw[lxi];omega,λr8 HA r80 r81 hbA sbA=>?_⟩;obtain⟨tn,rfl⟩:=Qar r80;have k1A:=sbA _ _ k1 nbr.symm;have tA:Aq HZ HA:=sbA.tup k5.GQ;refine⟨_,rq,_,rq,_,rq,lr,_,rq,SqL.of k1A,λp1 hp1=>?_⟩;have v1:=Ad hp1 (.lst (Cr xs (some (tn:Int)) none));have c1:upd HA p1 (.lst (Cr xs (some (tn:Int)) none)) p1=some (.lst (xs.drop tn)):=by rw[Ab,KC]
   have k1A:=v1 _ _ k1A;have hbA:=hbA.same v1;have tA:=tA.trans (Aq.of v1);have sbA:=sbA.trans (Af.of v1);generalize upd HA p1 (.lst (Cr xs (some (tn:Int)) none))=HB at *;refine⟨_,rq,_,rq,_,rq,lr,_,rq,SqL.of k1A,λp2 hp2=>?_⟩;have v2:=Ad hp2 (.lst (Cr xs none (some (tn:Int))));have c2:upd HB p2 (.lst (Cr xs none (some (tn:Int)))) p2=some (.lst (xs.take tn)):=by rw[Ab,Z4]
   have c1:=v2 _ _ c1;have hbA:=hbA.same v2;have tA:=tA.trans (Aq.of v2);have sbA:=sbA.trans (Af.of v2);generalize upd HB p2 (.lst (Cr xs none (some (tn:Int))))=HC at *;refine⟨p1,p2,_,_,rq,rq,c1,c2,Ao (by rw[Qbr,Qbl];omega),λp3 hp3=>?_⟩;have fj:=sbA;have v3:=Ad hp3 (.lst (xs.drop tn++xs.take tn));have c3:upd HC p3 (.lst (xs.drop tn++xs.take tn)) p3=some (.lst (xs.drop tn++xs.take tn)):=Ab;have nb3:b≠p3:=hbA.nb hp3;have hbA:=hbA.same v3;have tA:=tA.trans (Aq.of v3);have sbA:=sbA.trans (Af.of v3);generalize upd HC p3 (.lst (xs.drop tn++xs.take tn))=HD at *;have gd2:=gd.turn tn;have pr2:Paired (RuV HD) (xs.drop tn++xs.take tn) (rs.drop tn++rs.take tn):=by
    have h0:Paired (RuV HD) xs rs:=Paired.Bt k2 λ_ _ z=>z.tups tA;have dp:∀{α β : Type} {F:α->β->Prop} (n:Nat) {l:List α} {m:List β},Paired F l m->Paired F (l.drop n) (m.drop n)/\Paired F (l.take n) (m.take n):=by
     intro α β F n
     induction n with
     | zero=>intro l m h;exact⟨h,.nil⟩
     | succ n ih=>
      intro l m h;cases h with
      | nil=>exact⟨.nil,.nil⟩
      | cons a r=>exact⟨(ih r).1,.cons a (ih r).2⟩
    exact Paired.app (dp tn h0).1 (dp tn h0).2
   generalize xs.drop tn++xs.take tn=xs2 at *;generalize rs.drop tn++rs.take tn=rs2 at *;have lx2:=QbO pr2;have fU:=gd2.len;have tgD:Aq Hg HD:=tgZ.trans tA;obtain⟨paD,pzD⟩:=plg HD tgD;have lnD:=sbA _ _ lnZ nbn.symm;have bw:∀z∈Ah (trm rs2),okS z:=λz hz=>oky z (gd2.perm.mem_iff.mp hz);have y16:ys.length<=16:=by omega
   refine⟨_,rq,_,rq,p3,_,rq,.inl ⟨SqL.of c3,λq3 hq3=>?_⟩⟩;have v4:=Ad hq3 (.tup xs2);have ruE:Fq (upd HD q3 (.tup xs2)) q3 rs2:=⟨xs2,Ab,Paired.Bt pr2 λ_ _ z=>z.same v4⟩;have c3E:=v4 _ _ c3;generalize upd HD q3 (.tup xs2)=HE at *;refine⟨pl,q3,Ht k (1+r4),[],rs2,rq,paD.tups (Aq.of v4),QT ok,pzD.tups (Aq.of v4),by decide,ruE,gd2.ok y16,λv HF rw1 v5=>?_⟩;have rg1:=gd2.rg nd ok nk rw1;have v45:=v4.trans v5;have c3F:=v5 _ _ c3E;have prF:Paired (RuV HF) xs2 rs2:=Paired.Bt pr2 λ_ _ z=>z.same v45;refine⟨_,rq,_,rq,p3,xs2,rs2,v,rq,c3F,prF,gd2.Ml,gd2.ok y16,gd2.f20,gd2.nd nd,gd2.cl,bw,rg1,λHG v6=>⟨_,rq,Bx ?_⟩⟩;have c3G:=v6 _ _ c3F;refine⟨_,rq,_,rq,p3,_,rq,.inl (SqL.of c3G),λl4 hl4=>?_⟩;have v7:=Ad hl4 (.lst xs2);have c7:upd HG l4 (.lst xs2) l4=some (.lst xs2):=Ab;generalize upd HG l4 (.lst xs2)=HH2 at *;refine⟨l4,_,rq,.inl ⟨SqL.of c7,λl5 hl5=>?_⟩⟩;have v8:=Ad hl5 (.tup xs2);have c8:upd HH2 l5 (.tup xs2) l5=some (.tup xs2):=Ab;generalize upd HH2 l5 (.tup xs2)=HI at *;have v48:=((v45.trans v6).trans v7).trans v8;refine⟨pl,l5,Ht k (1+r4),[],rs2,rq,paD.tups (Aq.of v48),QT ok,pzD.tups (Aq.of v48),by decide,⟨xs2,c8,Paired.Bt pr2 λ_ _ z=>z.same v48⟩,gd2.ok y16,λw' HJ rw2 v9=>?_⟩;have rg2:=gd2.rg nd ok nk rw2;have v49:=v48.trans v9;obtain⟨dd,d1,d2,d3,d4⟩:=Zq bw rg2 (rg1.same (((v6.trans v7).trans v8).trans v9));refine⟨_,rq,dd,dd,d1,d2,d3,d3,_,rq,?_⟩;rw[d4];refine Bx ?_;have c3J:=v49 _ _ c3;have hbJ:=hbA.same v49;have bH:((xs2.length:Nat):Int)=(ys.length:Int):=by rw[lx2,fU]
   refine⟨_,rq,_,rq,p3,_,rq,.inl (SqL.of c3J),b,_,_,rq,hbJ,by omega,by rw[bH];omega,by rw[bH];omega,λr9 HK r90 r91 hbK sbK=>?_⟩;obtain⟨at_,rfl⟩:=Qar r90;have tK:Aq HD HK:=(Aq.of v49).trans (sbK.tup hbJ.GQ);have c3K:=sbK _ _ c3J nb3.symm;have lnK:=sbK _ _ (v49 _ _ lnD) nbn.symm;have hat:at_ < xs2.length:=by omega
   have hx2:xs2[at_]?=some xs2[at_]:=Qal hat;obtain⟨r0,hr0,tr,ar,etr,htr,hcr⟩:=Cw pr2 hx2;obtain⟨z,cz,rfl,_⟩:=gd2.row _ (QaB hr0);rw[etr] at hx2;have iy:=tK _ _ htr;refine⟨_,rq,_,rq,p3,_,_,_,rq,rq,SqL.of c3K,Bm hx2,tr,_,_,_,rq,rq,SqT.of iy,Bm (j:=1) rfl,?_⟩;have lyi:(((ys.map V.str).length:Nat):Int)=(ys.length:Int):=by rw[Qbu]
   refine⟨_,rq,_,rq,_,rq,ln,_,rq,.inl (SqL.of lnK),b,_,_,rq,hbK,by omega,by rw[lyi];omega,by rw[lyi];omega,λra HL ra0 ra1 hbL sbL=>?_⟩;rw[lyi] at ra1;obtain⟨y,hy,ym⟩:=Ze ra0 ra1;have tL:Aq HD HL:=tK.trans (sbL.tup hbK.GQ);have c3L:=sbL _ _ c3K nb3.symm;have lnL:=sbL _ _ lnK nbn.symm;refine⟨ln,_,_,_,rq,rq,SqL.of lnL,hy,Ao (by show 2<=1000;decide),λt1 ht1=>?_⟩;have x1:=Ad ht1 (.tup [.str "term",.str y]);have y1:Cv (upd HL t1 (.tup [.str "term",.str y])) t1 (.term y):=.tup (Dr Ab) (.cons (.str _) (.cons (.str _) .nil));generalize upd HL t1 (.tup [.str "term",.str y])=HM at *;refine⟨Ao (by show 2<=1000;decide),λt2' ht2=>?_⟩;have x2:=Ad ht2 (.tup [.str "not",.ref t1]);have y2:Cv (upd HM t2' (.tup [.str "not",.ref t1])) t2' (.neg (.term y)):=.tup (Dr Ab) (.cons (.str _) (.cons (y1.same x2) .nil));generalize upd HM t2' (.tup [.str "not",.ref t1])=HN at *;refine⟨Ao (by show 3<=1000;decide),λt3 ht3=>?_⟩;have x3:=Ad ht3 (.tup [.str "term",kV (Ru.term z cz).call,.ref t2']);have y3:upd HN t3 (.tup [.str "term",kV (Ru.term z cz).call,.ref t2']) t3=some (.tup [.str "term",kV (Ru.term z cz).call,.ref t2']):=Ab;generalize upd HN t3 (.tup [.str "term",kV (Ru.term z cz).call,.ref t2'])=HO at *;have x13:=(x1.trans x2).trans x3;have c3O:=x13 _ _ c3L;have hbO:=hbL.same x13;have tO:Aq HD HO:=tL.trans (Aq.of x13);refine⟨_,rq,_,rq,p3,xs2,_,at_,rq,rq,c3O,?_,?_⟩
   ·unfold ixN;rw[if_pos (by omega),if_pos (by omega),Qbf]
   have gd3:GdR ys (rs2.set at_ (.term z (.neg (.term y)))):=gd2.put hr0 ⟨z,.neg (.term y),rq,(by show 1+1<=5;decide),(by show 1+1<=20;decide),(by show ((Cd.term y).nam "term").length<=3;rw[show (Cd.term y).nam "term"=[y] from if_pos rfl];show 1<=3;decide),(λn hn=>by
    have hn:n∈(Cd.term y).nam "term":=hn;rw[show (Cd.term y).nam "term"=[y] from if_pos rfl] at hn
    rw[QaP.mp hn];exact ym),(by show (Cd.term y).nam "of"=[];exact if_neg (by trivial))⟩
   have tu:Aq HO (upd HO p3 (.lst (xs2.set at_ (.ref t3)))):=Aq.upd (Ie c3O);have pr3:Paired (RuV (upd HO p3 (.lst (xs2.set at_ (.ref t3))))) (xs2.set at_ (.ref t3)) (rs2.set at_ (.term z (.neg (.term y)))):=by
    have h0:Paired (RuV (upd HO p3 (.lst (xs2.set at_ (.ref t3))))) xs2 rs2:=Paired.Bt pr2 λ_ _ q=>(q.tups tO).tups tu;have hn:RuV (upd HO p3 (.lst (xs2.set at_ (.ref t3)))) (.ref t3) (.term z (.neg (.term y))):=⟨t3,t2',rq,tu _ _ y3,(y2.same x3).tups tu⟩;have st:∀{α β : Type} {F:α->β->Prop} {a:α} {b:β} (n:Nat) {l:List α} {m:List β},F a b->Paired F l m->Paired F (l.set n a) (m.set n b):=by
     intro α β F a b n
     induction n with
     | zero=>
      intro l m h p;cases p with
      | nil=>exact .nil
      | cons x r=>exact .cons h r
     | succ n ih=>
      intro l m h p;cases p with
      | nil=>exact .nil
      | cons x r=>exact .cons x (ih h r)
    exact st at_ hn h0
   have c3P:upd HO p3 (.lst (xs2.set at_ (.ref t3))) p3=some (.lst (xs2.set at_ (.ref t3))):=Ab;have tP:Aq Hg (upd HO p3 (.lst (xs2.set at_ (.ref t3)))):=(tgD.trans tO).trans tu;have fP:Af b H (upd HO p3 (.lst (xs2.set at_ (.ref t3)))):=by
    have f1:Af b H HO:=((fgZ.trans sbA).trans (Af.of v49)).trans ((sbK.trans sbL).trans (Af.of x13));have f3:H p3=none:=by
     cases e:H p3 with
     | none=>rfl
     | some o=>
      have:=(fgZ.trans (fj)) _ _ e nb3.symm;exact absurd this (by rw[hp3];simp)
    exact λc o e nc=>by rw[Aj (λz=>by rw[z,f3] at e;cases e)];exact f1 _ _ e nc
   generalize upd HO p3 (.lst (xs2.set at_ (.ref t3)))=HP at *;generalize xs2.set at_ (.ref t3)=xs3 at *;generalize rs2.set at_ (.term z (.neg (.term y)))=rs3 at *;obtain⟨paP,pzP⟩:=plg HP tP;have fK:∀z∈Ah (trm rs3),okS z:=λz hz=>oky z (gd3.perm.mem_iff.mp hz);refine⟨_,rq,_,rq,_,rq,p3,_,rq,.inl ⟨SqL.of c3P,λq4 hq4=>?_⟩⟩;have z4:=Ad hq4 (.tup xs3);have ruQ:Fq (upd HP q4 (.tup xs3)) q4 rs3:=⟨xs3,Ab,Paired.Bt pr3 λ_ _ q=>q.same z4⟩;generalize upd HP q4 (.tup xs3)=HQ at *;refine⟨pl,q4,Ht k (1+r4),[],rs3,rq,paP.tups (Aq.of z4),QT ok,pzP.tups (Aq.of z4),by decide,ruQ,gd3.ok y16,λv' HR rw3 z5=>?_⟩;have z45:=z4.trans z5;refine⟨p3,xs3,rs3,v',rq,z45 _ _ c3P,Paired.Bt pr3 λ_ _ q=>q.same z45,gd3.Ml,gd3.ok y16,gd3.f20,gd3.nd nd,gd3.cl,fK,gd3.rg nd ok nk rw3,λHS z6=>⟨_,rq,Bx ?_⟩⟩;refine⟨λc o e=>z6 _ _ (z45 _ _ (fP _ _ e (Ar e fb))),_,_,_,_,_,_,_,_,_,_,_,rq⟩
 ·exact q _
end
structure FnI (K:YD) (x:Str) (st:Stmt):Prop where
 ex:∃(f:Addr) (oc:Value) (od an:Option Addr) (sl:YI) (kV dc pm cd ct:Value),nsIn K mainGlobals x=some (some (.ref f))/\K.lookup f=some ⟨oc,od,.func (fnOf x x (Ds st) (Cp st) (Al st) .none kV dc pm an cd ct),sl⟩/\codeIn K cd x=true/\keepIn K (.ref f)=true
theorem FnI.of {K:YD} {x:Str} {st:Stmt} {f:Addr} {oc:Value} {od an:Option Addr} {sl:YI} {kV dc pm cd ct:Value} (a:nsIn K mainGlobals x=some (some (.ref f))) (l:K.lookup f=some ⟨oc,od,.func (fnOf x x (Ds st) (Cp st) (Al st) .none kV dc pm an cd ct),sl⟩) (c:codeIn K cd x=true) (k:keepIn K (.ref f)=true):FnI K x st:=⟨f,oc,od,an,sl,kV,dc,pm,cd,ct,a,l,c,k⟩
theorem FnI.code {K:YD} {mg:YB} {h:Heap} {x:Str} {st:Stmt} {ps:YF} (I:FnI K x st) (X:K.In h) (G:h.Ns mainGlobals mg) (hb:∀(kV doc pm:Value) (an:Option Addr) (cdv ct:Value) (us:YE),us.length=ps.length->bindArgs (fnOf x x (Ds st) (Cp st) (Al st) .none kV doc pm an cdv ct) ⟨us,[]⟩=pure (ps.zip us)):Code K mg x st ps:=by
 obtain⟨f,oc,od,an,sl,kV,dc,pm,cd,ct,a,l,c,k⟩:=I.ex;exact Code.of X G a l c k hb
def Yq:YF->(YE->Prop)->Prop
 | [],P=>P []
 | _::r,P=>∀a,Yq r λt=>P (a::t)
theorem T8:∀(ps:YF) {P:YE->Prop},Yq ps P->∀us:YE,us.length=ps.length->P us
 | [],_,h,[],_=>h
 | _::r,_,h,a::t,e=>T8 r (h a) t (Nat.succ.inj e)
theorem fnA {F:Value->Value->Value->Option Addr->Value->Value->FuncData} {ps:YF} (h:∀kV dc pm an cd ct,Yq ps λus=>bindArgs (F kV dc pm an cd ct) ⟨us,[]⟩=pure (ps.zip us)) (kV dc pm:Value) (an:Option Addr) (cd ct:Value) (us:YE) (hu:us.length=ps.length):bindArgs (F kV dc pm an cd ct) ⟨us,[]⟩=pure (ps.zip us):=T8 ps (h kV dc pm an cd ct) us hu
theorem all_mk {l:PySem.W.OpenLaw} {w:World} {K:YD} {h:Heap} {mg:YB} {fa fl:Addr} (X:K.In h) (G:h.Ns mainGlobals mg) (hfa:mg "law"=some (.ref fa))
  {odl anl:Option Addr} {sll:YI} {ocl kVl dcl pml cdl ctl:Value}
  (i0:FnI K "place_devices" FQ)
  (i1:FnI K "devices" Ke)
  (i2:FnI K "inner_ones" Hi)
  (i3:FnI K "leaves" Lw)
  (i4:FnI K "names_in" G3)
  (i5:FnI K "terms_of" Jw)
  (i6:FnI K "terms_in_order" Dw)
  (i7:FnI K "row_twice" Ik)
  (i8:FnI K "name_missing" Gf)
  (i9:FnI K "row_without_bell" Eb)
  (i10:FnI K "terms_ring" Ea)
  (i11:FnI K "bell_still" Hj)
  (i12:FnI K "rules_wrong" GP)
  (i13:FnI K "_law_bag" NT)
  (i14:FnI K "_law_take" Lx)
  (i15:FnI K "_law_name" Jy)
  (i16:FnI K "_law_names" Ia)
  (i17:FnI K "_law_named" Kd)
  (i18:FnI K "_law_ring_terms" El)
  (i19:FnI K "_law_naming" Jx)
  (i20:FnI K "_law_ring_right" Em)
  (al:nsIn K mainGlobals "law"=some (some (.ref fl))) (ll:K.lookup fl=some ⟨ocl,odl,.func (fnOf "law" "law" (Ds G4) (Cp G4) (Al G4) .none kVl dcl pml anl cdl ctl),sll⟩) (cl:codeIn K cdl "law"=true) (kl:keepIn K (.ref fl)=true)
  (z0:nsIn K mainGlobals "isinstance"=some none)
  (z1:nsIn K mainGlobals "int"=some none)
  (z2:nsIn K mainGlobals "bool"=some none)
  (z3:nsIn K mainGlobals "tuple"=some none)
  (z4:nsIn K mainGlobals "list"=some none)
  (z5:nsIn K mainGlobals "str"=some none)
  (z6:nsIn K mainGlobals "len"=some none)
  (z7:nsIn K mainGlobals "all"=some none)
  (z8:nsIn K mainGlobals "abs"=some none)
  (z9:nsIn K mainGlobals "max"=some none)
  (z10:nsIn K mainGlobals "min"=some none)
  (z11:nsIn K mainGlobals "range"=some none)
  (z12:nsIn K mainGlobals "sorted"=some none)
  (z13:nsIn K mainGlobals "any"=some none)
  (z14:nsIn K mainGlobals "sum"=some none)
  (z15:nsIn K mainGlobals "enumerate"=some none)
  (z16:nsIn K mainGlobals "zip"=some none)
  (z17:nsIn K mainGlobals "reversed"=some none)
  (z18:nsIn K mainGlobals "dict"=some none)
  (z19:nsIn K mainGlobals "ord"=some none)
  (z20:nsIn K mainGlobals "set"=some none)
  {sk:Addr} {ods:Option Addr} {ns_:Nat} {sls:YI} {tq5 tq6:Tok}
  (aSk:nsIn K mainGlobals "SOUNDING_KINDS"=some (some (.ref sk)))
  (lSk:K.lookup sk=some ⟨.type "tuple",ods,.seq #[.str "bell" tq5,.str "door" tq6] ns_,sls⟩)
  : ∃fd:FuncData,(∀(s:Shared) (v:Value),BindsTo s fd ⟨[v],[]⟩ [("_law_script",v)])/\∀base:Heap,K.In base->base.Ns mainGlobals mg->Ej l.prog w K mg base CX0 13 fa fd Y8 (Qg K):=by
 have e:=hfa.symm.trans (PySem.W.mg_of X G al);cases e;have TN:Nm mg:=⟨mg_none_of X G z0,mg_none_of X G z1,mg_none_of X G z2,mg_none_of X G z3,mg_none_of X G z4,mg_none_of X G z5,mg_none_of X G z6,mg_none_of X G z7,mg_none_of X G z8,mg_none_of X G z9,mg_none_of X G z10,mg_none_of X G z11,mg_none_of X G z12,mg_none_of X G z13,mg_none_of X G z14,mg_none_of X G z15,mg_none_of X G z16,mg_none_of X G z17,mg_none_of X G z18,mg_none_of X G z19,mg_none_of X G z20⟩;have TC:Tc K mg sk:={ toNm:=TN,SOUNDING_KINDS:=⟨_,PySem.W.mg_of X G aSk,rq⟩,skT:=λH=>.inr ⟨_,_,_,lSk,rq,rq,(by show 2<=sizeLine;decide),.cons ⟨_,rq⟩ (.cons ⟨_,rq⟩ .nil)⟩ };have TX:Tx K mg sk sk:=⟨TN⟩;have Nx:=i0.code (ps:=Dc) X G (fnA λ_ _ _ _ _ _ _ _ _=>rfl);have W4:=i1.code (ps:=Fy) X G (fnA λ_ _ _ _ _ _ _=>rfl);have RT:=i2.code (ps:=Ed) X G (fnA λ_ _ _ _ _ _ _=>rfl);have Yw:=i3.code (ps:=Fj) X G (fnA λ_ _ _ _ _ _ _=>rfl);have Vh:=i4.code (ps:=Dz) X G (fnA λ_ _ _ _ _ _ _ _=>rfl);have Vg:=i5.code (ps:=Er) X G (fnA λ_ _ _ _ _ _ _=>rfl);have Ms:=i6.code (ps:=CJ) X G (fnA λ_ _ _ _ _ _ _=>rfl);have SJ:=i7.code (ps:=Et) X G (fnA λ_ _ _ _ _ _ _=>rfl);have OJ:=i8.code (ps:=Dn) X G (fnA λ_ _ _ _ _ _ _ _ _ _=>rfl);have KN:=i9.code (ps:=Cj) X G (fnA λ_ _ _ _ _ _ _ _=>rfl);have RQ:=i10.code (ps:=Ec) X G (fnA λ_ _ _ _ _ _ _=>rfl);have RV:=i11.code (ps:=Ef) X G (fnA λ_ _ _ _ _ _ _ _=>rfl);have Qd:=i12.code (ps:=DN) X G (fnA λ_ _ _ _ _ _ _ _=>rfl);have Z9:=i13.code (ps:=Je) X G (fnA λ_ _ _ _ _ _ _ _=>rfl);have Yx:=i14.code (ps:=Fo) X G (fnA λ_ _ _ _ _ _ _ _=>rfl);have Yy:=i15.code (ps:=Hr) X G (fnA λ_ _ _ _ _ _ _=>rfl);have W0:=i16.code (ps:=Gy) X G (fnA λ_ _ _ _ _ _ _ _=>rfl);have W2:=i17.code (ps:=Dt) X G (fnA λ_ _ _ _ _ _ _ _=>rfl);have O1:=i18.code (ps:=Dp) X G (fnA λ_ _ _ _ _ _ _=>rfl);have Vi:=i19.code (ps:=FT) X G (fnA λ_ _ _ _ _ _ _ _=>rfl);have O2:=i20.code (ps:=Dq) X G (fnA λ_ _ _ _ _ _ _ _=>rfl);have d7:=Wu (st:=G4) ll cl kl;refine⟨fnOf "law" "law" (Ds G4) (Cp G4) (Al G4) .none kVl dcl pml anl cdl ctl,λs v=>.of_eq rfl,λbase _ _=>?_⟩;have Ot:=Xv (P:=l.prog) (w:=w) (base:=base) Z9 TN;have Bl:=V8 (P:=l.prog) (w:=w) (base:=base) Yx TN;have iM:=LC (P:=l.prog) (w:=w) (base:=base) Nx TX;have cj:=Us (P:=l.prog) (w:=w) (base:=base) W4 TX iM;have iZ:=Xw (P:=l.prog) (w:=w) (base:=base) RT TN;have iY:=V7 (P:=l.prog) (w:=w) (base:=base) Yw TN iZ 6;have Yd:=R8 (P:=l.prog) (w:=w) (base:=base) Vh TN iY;have bZ:=R7 (P:=l.prog) (w:=w) (base:=base) Vg TN;have iQ:=Le (P:=l.prog) (w:=w) (base:=base) Ms TN Yd;have iI:=QV (P:=l.prog) (w:=w) (base:=base) SJ TN;have iT:=MP (P:=l.prog) (w:=w) (base:=base) OJ TN Yd;have iK:=JW (P:=l.prog) (w:=w) (base:=base) KN TC cj;have iG:=PN (P:=l.prog) (w:=w) (base:=base) RQ TN bZ iQ Yd;have jc:=PX (P:=l.prog) (w:=w) (base:=base) RV TC cj;have iH:=Od (P:=l.prog) (w:=w) (base:=base) Qd TC iI iT bZ iK iG jc;have iV:=ZC (P:=l.prog) (w:=w) (base:=base) Yy TN Bl;have iR:=Xu (P:=l.prog) (w:=w) (base:=base) W0 TN iV;have cg:=Ur (P:=l.prog) (w:=w) (base:=base) W2 TN 6;have iW:=M4 (P:=l.prog) (w:=w) (base:=base) O1 TN cg;have iU:=R9 (P:=l.prog) (w:=w) (base:=base) Vi TN Bl;have iJ:=M5 (P:=l.prog) (w:=w) (base:=base) O2 TN iW cg;exact bx d7 TC Ot Bl iR iU iH iJ
theorem walk {l:PySem.W.OpenLaw} {q:Program} {loose:YF} {XP:(YB)->Heap->Prop} {YP:World->Heap->Prop} {d:DefRec} {K:Params->YD} (hn:l.most=some 63) (hdf:d.params.defaults=[])
  (hY:∀(w:World) (h:Heap),YP w h->(K w.params).In h)
  (F:∀(w:World) (mg:YB) (fa:Addr) (h:Heap),(K w.params).In h->h.Ns mainGlobals mg->mg d.name=some (.ref fa) ->
   ∃fd:FuncData,(∀(s:Shared) (u:Value),BindsTo s fd ⟨[u],[]⟩ [("_law_script",u)])/\∀base:Heap,(K w.params).In base->base.Ns mainGlobals mg->Ej l.prog w (K w.params) mg base CX0 13 fa fd Y8 (Qg (K w.params))) :
  PySem.W.WalkO q loose XP YP l.row.toRowW d [] (λf vs=>PySem.call f vs):=
 L2.Zg (n:=63) (k:=13) (x:="_law_script") (CX:=λ_=>CX0) (sp:=λw=>Qg (K w.params)) hn (by decide) hdf ⟨rq,by decide,by decide⟩ hY F (λ_ _ a ns hl _ hS=>⟨a,ns,rq,hS,hl,λ_=>rfl⟩) λ_ _ _ _ _ z=>z
end K24
/-! names that stay free of quick twins: the head comes through without them, and the compiled text is much smaller -/
namespace PySem.W.Fast
def tw11543420793639186798:=0
def tw12869621397070827498:=0
def tw7536134283793930771:=0
def tw15330861690828505668:=0
def tw15609491920104581387:=0
def tw16390972053493697967:=0
def tw8614629748871244557:=0
def tw3384501884841359039:=0
def tw6479153847613458136:=0
def tw9450136774660531399:=0
def tw3732854271678150559:=0
def tw1714890638204893001:=0
def tw647268762596504699:=0
def tw2961859755813895959:=0
def tw1841382051351239505:=0
def tw873101869262974981:=0
def tw8728676896797700581:=0
def tw10542022364902350122:=0
def tw9287361450335812529:=0
def tw1204258197730976208:=0
def tw18407457923273047692:=0
def tw11075256771555493425:=0
def tw13742751736963568656:=0
def tw2001855610601955701:=0
def tw14555511362140980763:=0
def tw6709508891492307555:=0
def tw17048127765568154954:=0
def tw4305553805363533890:=0
def tw2404662814930517894:=0
def tw14405630835527430230:=0
def tw16647659224159596043:=0
def tw6352267135185892259:=0
def tw714188533961899286:=0
def tw10185757342348699339:=0
def tw16899577603370284710:=0
def tw11597628485827728629:=0
def tw10823916390456492958:=0
def tw7908328588019151995:=0
def tw1798421139768617982:=0
def tw10187475229512062910:=0
def tw4988856540237667724:=0
def tw17703476789641185918:=0
def tw17673627024227371516:=0
def tw11341225444446805591:=0
def tw14149199674158951835:=0
def tw15946655819621414808:=0
def tw18286936270894233024:=0
def tw9065137286591602293:=0
def tw217726285936729403:=0
def tw10508508536496707045:=0
def tw3531994519418145119:=0
def tw1586674033280186273:=0
def tw8841460707792127618:=0
def tw17360924188815305487:=0
def tw14680535907682860530:=0
end PySem.W.Fast
open PySem PySem.W PyProof.Rows
set_option maxRecDepth 100000 in
set_option maxHeartbeats 0 in
theorem PySem.Challenge.cw_warnloop_k24_rings_holds : PySem.Challenge.rw_warnloop_k24_rings.Holds := by
 w_on;o_law;k_head;(case hw=>w_witness2)
 k_fill
 refine K24.walk (l:=PySem.Challenge.rw_warnloop_k24_rings) rfl rfl (λw h Y=>PySem.W.kIn_of Y) ?F
 case F=>
  intro w mg fa h KX G hmg
  refine' K24.all_mk KX G hmg (.of ?ai0 ?li0 ?ci0 ?ki0) (.of ?ai1 ?li1 ?ci1 ?ki1) (.of ?ai2 ?li2 ?ci2 ?ki2) (.of ?ai3 ?li3 ?ci3 ?ki3) (.of ?ai4 ?li4 ?ci4 ?ki4) (.of ?ai5 ?li5 ?ci5 ?ki5) (.of ?ai6 ?li6 ?ci6 ?ki6) (.of ?ai7 ?li7 ?ci7 ?ki7) (.of ?ai8 ?li8 ?ci8 ?ki8) (.of ?ai9 ?li9 ?ci9 ?ki9) (.of ?jR ?gC ?jC ?gU) (.of ?jQ ?gB ?jB ?gR) (.of ?jP ?gA ?jA ?gQ) (.of ?jO ?gq ?jz ?gP) (.of ?jN ?gk ?jy ?gO) (.of ?jM ?gj ?jx ?gM) (.of ?jL ?gb ?jw ?gK) (.of ?jK ?fZ ?ju ?gJ) (.of ?jJ ?fY ?jr ?gH) (.of ?jH ?fX ?jq ?gG) (.of ?jG ?fW ?jo ?gF) ?al ?ll ?cl ?kl ?z0 ?z1 ?z2 ?z3 ?z4 ?z5 ?z6 ?z7 ?z8 ?z9 ?z10 ?z11 ?z12 ?z13 ?z14 ?z15 ?z16 ?z17 ?z18 ?z19 ?z20 ?aSk ?lSk
  (case ai0 | li0 | ci0 | ki0 | ai1 | li1 | ci1 | ki1 | ai2 | li2 | ci2 | ki2 | ai3 | li3 | ci3 | ki3 | ai4 | li4 | ci4 | ki4 | ai5 | li5 | ci5 | ki5 | ai6 | li6 | ci6 | ki6 | ai7 | li7 | ci7 | ki7 | ai8 | li8 | ci8 | ki8 | ai9 | li9 | ci9 | ki9 | jR | gC | jC | gU | jQ | gB | jB | gR | jP | gA | jA | gQ | jO | gq | jz | gP | jN | gk | jy | gO | jM | gj | jx | gM | jL | gb | jw | gK | jK | fZ | ju | gJ | jJ | fY | jr | gH | jH | fX | jq | gG | jG | fW | jo | gF=>k_is)
  (case al | ll | cl | kl | z0 | z1 | z2 | z3 | z4 | z5 | z6 | z7 | z8 | z9 | z10 | z11 | z12 | z13 | z14 | z15 | z16 | z17 | z18 | z19 | z20 | aSk | lSk=>k_is)
