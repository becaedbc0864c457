import PyProof.Rows.All
import Wide.All
import OpenK.AllK
import Wide.FinOn
import Lean
import PyProof.EqAt
import PyProof.EqKinds
import PyProof.TupleCall
import PySem.Challenge.RW_warnloop_k04_wrong_plans
set_option linter.all false
set_option Elab.async false
set_option maxRecDepth 100000
set_option maxHeartbeats 4000000
abbrev YA:=PySem.Value→PySem.Shared→Prop
abbrev YH:=Unit→PySem.Shared→Prop
abbrev YB:=PySem.Str→Option PySem.Value
abbrev YC:=List (PySem.Addr×PySem.Obj)
abbrev YD:=PySem.W.Frag
abbrev YI:=Array (Option PySem.Value)
abbrev YE:=List PySem.Value
abbrev YF:=List PySem.Str
abbrev YJ:=List PySem.Expr
theorem rq{α:Sort _}{a:α}:a=a:=rfl
local macro_rules|`(tactic|trivial)=>`(tactic|decide +kernel)
local macro_rules | `(tactic|ac_rfl) => `(tactic|exact ⟨rfl,rfl,rfl,by decide +kernel,rfl,by decide +kernel,by decide +kernel⟩)
open PySem.W (instObj hideAll hideAll_get findIn keepIn emptyDict fnOf codeIn nsIn mg_of mg_none_of)
abbrev Qaa:=@PyProof.Rows.slot_tupleiter_next
abbrev Qab:=@PyProof.Rows.slot_tuple_getitem
abbrev Qac:=@PyProof.Rows.callWith_type1
abbrev Qad:=@List.findSome?_eq_none_iff
abbrev Qae:=@Array.getElem?_eq_some_iff
abbrev Qaf:=@List.getElem?_eq_some_iff
abbrev Qag:=@Array.getElem?_eq_getElem
abbrev Qah:=@List.pairwise_iff_getElem
abbrev Qai:=@List.getElem?_eq_getElem
abbrev Qaj:=@PySem.F.slot_list_append
abbrev Qak:=@PySem.F.type_list_append
abbrev Qal:=@PySem.F.slot_list_extend
abbrev Qam:=@PySem.F.type_list_extend
abbrev Qan:=@PySem.F.plainAttrs_list
abbrev Qao:=@PySem.wpAny_callSpecial?_slot
abbrev Qap:=@List.filter_cons_of_neg
abbrev Qaq:=@List.filter_cons_of_pos
abbrev Qar:=@PySem.wpAny_getItem_str_slice
abbrev Qas:=@PySem.Heap.get?_push_of_some
abbrev Qat:=@Option.map_eq_some_iff
abbrev Qau:=@List.length_pos_of_mem
abbrev Qav:=@List.mem_append_right
abbrev Qaw:=@Array.getElem?_toList
abbrev Qax:=@List.length_singleton
abbrev Qay:=@PySem.Heap.get?_update_self
abbrev Qaz:=@List.take_append_drop
abbrev QaA:=@List.mem_of_getElem?
abbrev QaB:=@List.mem_cons_of_mem
abbrev QaC:=@List.mem_of_mem_take
abbrev QaD:=@List.mem_append_left
abbrev QaE:=@List.getElem?_of_mem
abbrev QaF:=@PySem.Around.under_plainId
abbrev QaG:=@PySem.Heap.get?_push_size
abbrev QaH:=@Array.length_toList
abbrev QaI:=@List.flatMap_append
abbrev QaJ:=@PySem.Heap.SameBut.update
abbrev QaK:=@PySem.mem_of_lookup
abbrev QaL:=@List.length_append
abbrev QaM:=@List.mem_cons_self
abbrev QaN:=@Bool.false_ne_true
abbrev QaO:=@List.set_cons_zero
abbrev QaP:=@List.set_cons_succ
abbrev QaR:=@Nat.lt_of_lt_of_le
abbrev QaS:=@List.mem_singleton
abbrev QaT:=@Bool.false_eq_true
abbrev QaU:=@decide_eq_true_iff
abbrev QaV:=@PySem.wpAny_pyIter_tuple
abbrev QaW:=@Int.emod_lt_of_pos
abbrev QaX:=@PySem.wpAny_Call_Name_kw
abbrev QaY:=@List.filter_append
abbrev QaZ:=@List.size_toArray
abbrev Qba:=@List.getElem?_map
abbrev Qbb:=@Int.toNat_natCast
abbrev Qbc:=@List.length_range
abbrev Qbd:=@List.flatMap_cons
abbrev Qbe:=@List.append_assoc
abbrev Qbf:=@PySem.wpAny_setState_of
abbrev Qbg:=@of_decide_eq_true
abbrev Qbh:=@PySem.wpAny_newObj_type
abbrev Qbi:=@Nat.lt_succ_of_lt
abbrev Qbj:=@bne_self_eq_false
abbrev Qbk:=@List.length_take
abbrev Qbl:=@List.take_length
abbrev Qbm:=@List.length_cons
abbrev Qbn:=@List.length_drop
abbrev Qbo:=@PySem.wpAny_call_entry
abbrev Qbp:=@Bool.and_eq_true
abbrev Qbq:=@List.not_mem_nil
abbrev Qbr:=@Nat.lt_succ_self
abbrev Qbs:=@PySem.wpAny_askSetting
abbrev Qbt:=@List.length_map
abbrev Qbu:=@List.mem_append
abbrev Qbv:=@PySem.PassesOwn.never
abbrev Qbw:=@List.map_append
abbrev Qbx:=@decide_eq_false
abbrev Qby:=@Option.some.inj
abbrev Qbz:=@List.append_nil
abbrev QbA:=@List.nodup_cons
abbrev QbC:=@Bool.eq_iff_iff
abbrev QbD:=@PySem.codeAny_builtin
abbrev QbE:=@Int.emod_nonneg
abbrev QbF:=@List.mem_filter
abbrev QbG:=@List.find?_cons
abbrev QbH:=@decide_eq_true
abbrev QbI:=@PySem.Heap.size_push
abbrev QbJ:=@PySem.isSubtype_type
abbrev QbK:=@PySem.Paired.length
abbrev QbL:=@List.mem_cons
abbrev QbM:=@List.map_cons
abbrev QbN:=@PySem.wpAny_holding
abbrev QbO:=@Nat.lt_irrefl
abbrev QbP:=@PySem.wpAny_standAt
abbrev QbQ:=@List.any_cons
abbrev QbR:=@PySem.Heap.lt_size
abbrev QbS:=@Nat.ne_of_lt
abbrev QbT:=@Nat.le_trans
abbrev QbU:=@Int.zero_add
abbrev QbV:=@List.mem_map
abbrev QbW:=@Nat.le_of_lt
abbrev QbX:=@Nat.ne_of_gt
abbrev QbY:=@PySem.codeAny_mono
abbrev QbZ:=@Nat.le_refl
abbrev Qca:=@Nat.zero_le
abbrev Qcb:=@PySem.Paired.snoc
abbrev Qcc:=@PySem.wpAny_field
abbrev Qcd:=@PySem.wpAny_bind
abbrev Qce:=@PySem.wpAny_pure
abbrev Qcf:=@PySem.wpAny_mono
abbrev Qcg:=@PyProof.Rows.take_snoc
abbrev Qch:=@if_false
namespace L2
open PySem PySem.Spec PyProof.Rows
abbrev Key:=Sum Int Str
def Kf:Key->Value->Bool
 | .inl k,v=>Value.isInt k v
 | .inr x,v=>Value.isStrOf x v
def cL (w:World):Key->Int
 | .inl k=>hashInt k
 | .inr x=>hashStr w x
theorem CZ:∀{k:Key} {v:Value},Kf k v=true->(∃i t,k=Sum.inl i/\v=Value.int i t)\/(∃x t,k=Sum.inr x/\v=Value.str x t)
 | .inl i,v,h=>by
  obtain⟨t,e⟩:=Value.isInt_shape (k:=i) (v:=v) h;exact .inl ⟨i,t,rq,e⟩
 | .inr x,v,h=>by
  obtain⟨t,e⟩:=Value.isStrOf_shape (x:=x) (v:=v) h;exact .inr ⟨x,t,rq,e⟩
theorem UG (i:Int) (t:Tok):Kf (.inl i) (.int i t)=true:=by simp[Kf,Value.isInt]
theorem Uz (x:Str) (t:Tok):Kf (.inr x) (.str x t)=true:=by simp[Kf,Value.isStrOf]
theorem Zj (a b:Int):decide ((Sum.inl a:Key)=Sum.inl b)=(a == b):=by
 by_cases e:a=b
 ·subst e;simp
 ·have h:¬(Sum.inl a:Key)=Sum.inl b:=λq=>e (Sum.inl.inj q);rw[Qbx h];exact (beq_eq_false_iff_ne.mpr e).symm
theorem Zg (a b:Str):decide ((Sum.inr a:Key)=Sum.inr b)=decide (a=b):=by
 by_cases e:a=b
 ·subst e;simp
 ·have h:¬(Sum.inr a:Key)=Sum.inr b:=λq=>e (Sum.inr.inj q);rw[Qbx h,Qbx e]
theorem Zi (a:Int) (b:Str):decide ((Sum.inl a:Key)=Sum.inr b)=false:=Qbx (λq=>nomatch q)
theorem Zh (a:Str) (b:Int):decide ((Sum.inr a:Key)=Sum.inl b)=false:=Qbx (λq=>nomatch q)
def Dj (prog:Program) (w:World):PySem.KeyKind prog w Key where
 is:=Kf
 hash:=cL w
 inj:=λv a b ha hb=>by
  rcases CZ ha with⟨i,t,rfl,rfl⟩|⟨x,t,rfl,rfl⟩
  ·rcases CZ hb with⟨j,u,rfl,e⟩|⟨y,u,rfl,e⟩
   ·injection e with e1 _;rw[e1]
   ·exact nomatch e
  ·rcases CZ hb with⟨j,u,rfl,e⟩|⟨y,u,rfl,e⟩
   ·exact nomatch e
   ·injection e with e1 _;rw[e1]
 byValue:=λk v h=>by
  rcases CZ h with⟨i,t,rfl,rfl⟩|⟨x,t,rfl,rfl⟩ <;> rfl
 pyHash:=λhv h=>by
  rcases CZ hv with⟨i,t,rfl,rfl⟩|⟨x,t,rfl,rfl⟩
  ·exact wpAny_pyHash_int h
  ·exact wpAny_pyHash_str h
 eqBool:=λhu hv h=>by
  rcases CZ hu with⟨i,t,rfl,rfl⟩|⟨x,t,rfl,rfl⟩
  ·rcases CZ hv with⟨j,u,rfl,rfl⟩|⟨y,u,rfl,rfl⟩
   ·rw[Zj] at h;exact wpAny_eqBool_int h
   ·rw[Zi] at h;exact SeqAt.EqAt.int_str i t y u _ _ _ _ h
  ·rcases CZ hv with⟨j,u,rfl,rfl⟩|⟨y,u,rfl,rfl⟩
   ·rw[Zh] at h;exact SeqAt.EqAt.str_int x t j u _ _ _ _ h
   ·rw[Zg] at h;exact wpAny_eqBool_str h
 «strs»:=λk x t v h=>by
  rcases CZ h with⟨i,u,rfl,e⟩|⟨y,u,rfl,e⟩
  ·exact nomatch e
  ·injection e with e1 _;subst e1;cases v <;> rfl
theorem QH (prog:Program) (w:World) (i:Int) (t:Tok):(Dj prog w).is (.inl i) (.int i t)=true:=UG i t
theorem QG (prog:Program) (w:World) (x:Str) (t:Tok):(Dj prog w).is (.inr x) (.str x t)=true:=Uz x t
inductive V where
 | non | bl (b:Bool) | int (i:Int) | str (x:Str) | byt (b:Array UInt8) | flt (b:UInt64) | ref (a:Addr) | ty (n:String)
 deriving DecidableEq
def RelV:V->Value->Prop
 | .non,u=>u=Value.none
 | .bl b,u=>u=Value.bool b
 | .int i,u=>∃t,u=Value.int i t
 | .str x,u=>∃t,u=Value.str x t
 | .byt b,u=>∃t,u=Value.bytes b t
 | .flt b,u=>∃t,u=Value.float b t
 | .ref a,u=>u=Value.ref a
 | .ty n,u=>u=Value.type n
abbrev YG:=List V
abbrev Vals:YG->YE->Prop:=Paired RelV
theorem Vals.length {xs:YG} {us:YE} (r:Vals xs us):xs.length=us.length:=QbK r
theorem Vals.get:∀{xs:YG} {us:YE} {i:Nat} {x:V},Vals xs us->xs[i]?=some x->∃u,us[i]?=some u/\RelV x u
 | _,_,_,_,.nil,e=>by simp at e
 | _,_,0,_,.cons r _,e=>by simp at e;subst e;exact⟨_,rfl,r⟩
 | _,_,i+1,x,.cons _ t,e=>by
  obtain⟨u,h1,h2⟩:=Vals.get (i:=i) (x:=x) t (by simpa using e);exact⟨u,by simpa using h1,h2⟩
theorem Vals.set {x:V} {u:Value} (r:RelV x u):∀{xs:YG} {us:YE} (i:Nat),Vals xs us->Vals (xs.set i x) (us.set i u)
 | _,_,_,.nil=>.nil
 | _,_,0,.cons _ t=>.cons r t
 | _,_,i+1,.cons q t=>.cons q (Vals.set r i t)
theorem Vals.append:∀{xs ys:YG} {us ws:YE},Vals xs us->Vals ys ws->Vals (xs++ys) (us++ws)
 | _,_,_,_,.nil,s=>s
 | _,_,_,_,.cons r t,s=>.cons r (Vals.append t s)
theorem Vals.take:∀{xs:YG} {us:YE} (n:Nat),Vals xs us->Vals (xs.take n) (us.take n)
 | _,_,0,_=>.nil
 | _,_,_+1,.nil=>.nil
 | _,_,n+1,.cons r t=>.cons r (Vals.take n t)
theorem Vals.drop:∀{xs:YG} {us:YE} (n:Nat),Vals xs us->Vals (xs.drop n) (us.drop n)
 | _,_,0,r=>r
 | _,_,_+1,.nil=>.nil
 | _,_,n+1,.cons _ t=>Vals.drop n t
def JN:Option V->Option Value->Prop
 | some v,some u=>RelV v u
 | none,none=>True
 | _,_=>False
def KV {κ : Type}:List (κ×V)->List (κ×Value)->Prop:=Paired λ(p:κ×V) (q:κ×Value)=>p.1=q.1/\RelV p.2 q.2
def kV:Key->V
 | .inl i=>.int i
 | .inr x=>.str x
inductive HO where
 | lst (xs:YG)
 | tup (xs:YG)
 | dK (kvs:List (Key×V)) | dT (kvs:List (List Key×V))
 | set (S:Int->Bool) (n:Nat)
 | ins (C dx:Addr) (fs:List (Str×V))
 | own (x:Addr)
 | xd (fs:List (Str×V))
 | met (f x:Addr)
 | rng (lo hi:Int)
 | frz (o:Obj) (u:HO)
 | tbl (ps:Array Value)
 | ext (φ : Heap->Prop)
abbrev Hp:=Addr->Option HO
def upd (H:Hp) (a:Addr) (o:HO):Hp:=λb=>if b=a then some o else H b
theorem Ab {H:Hp} {a:Addr} {o:HO}:upd H a o a=some o:=by unfold upd;rw[if_pos rfl]
theorem Aw {H:Hp} {a b:Addr} {o:HO} (h:b≠a):upd H a o b=H b:=by unfold upd;rw[if_neg h]
theorem JW {H:Hp} {a:Addr} {o u:HO}:upd (upd H a o) a u=upd H a u:=by
 funext b;unfold upd;split <;> rfl
theorem aG {H:Hp} {a b:Addr} {o u:HO} (h:H a=some o) (h':H b=some u) (d:o≠u):a≠b:=by
 intro e;subst e;rw[h] at h';exact d (Qby h')
theorem Ay {H:Hp} {a b:Addr} {o:HO} (h:H a=some o) (h':H b=none):a≠b:=by
 intro e;subst e;rw[h] at h';cases h'
section
variable (P:Program) (w:World)
def BX (H:Hp) (h:Heap) (a:Addr):HO->Prop
 | .lst xs=>xs.length<=sizeLine/\∃(its:YE) (n:Nat),Vals xs its/\h.get? a=some { cls:=.type "list",data:=.seq its.toArray n }
 | .tup xs=>xs.length<=sizeLine/\∃its:YE,Vals xs its/\IsTup h a its.toArray
 | .dK kvs=>kvs.length<=sizeLine/\(a == sysModules)=false/\∃vs,KV kvs vs/\h.DictOf (Dj P w) a vs
 | .dT kvs=>kvs.length<=sizeLine/\(a == sysModules)=false/\∃xs:List (List Key×Addr×Value),
   Paired (λ(p:List Key×V) (q:List Key×Addr×Value)=>p.1=q.1/\H q.2.1=some (.tup (p.1.map kV))/\RelV p.2 q.2.2) kvs xs /\
   ∃o es ep,h.get? a=some o/\o.ExactDict/\o.data=.dict es ep/\es.toList=xs.map (entryOfKey (tupleKind (Dj P w)))/\(xs.map (·.1)).Nodup
 | .set S n=>h.SetOf (intKind P w) a S n
 | .ins C dx fs=>H dx=some (.own a)/\fs.length<=1000/\dx≠a/\h.get? a=some (instObj C dx) /\
   ∃mA,h.Ns1 dx mA/\(∀f,JN (fs.lookup f) (mA f))/\PySem.Within mA (fs.map (·.1))
 | .own _=>∃o,h.get? a=some o
 | .xd fs=>∃mA,h.Ns1 a mA/\∀f,JN (fs.lookup f) (mA f)
 | .rng lo hi=>∃t u v,h.get? a=some { cls:=.type "range",data:=.fields #[.int lo t,.int hi u,.int 1 v] }
 | .frz o u=>h.get? a=some o/\BX H h a u
 | .tbl ps=>h.get? a=some { cls:=.none,data:=.fields ps }
 | .met f x=>h.get? a=some (PySem.W.methodObj (.ref f) (.ref x))
 | .ext φ=>φ h/\(∃o,h.get? a=some o)/\∀h1 h2:Heap,φ h1->(∀o,h1.get? a=some o->h2.get? a=some o)->φ h2
def HOk (H:Hp) (h:Heap):Prop:=∀a o,H a=some o->BX P w H h a o
end
section
variable {P:Program} {w:World} {H H':Hp} {h h':Heap} {a:Addr} {o:HO}
theorem BX.lt (x:BX P w H h a o):a < h.objs.size:=by
 cases o with
 | lst xs=>obtain⟨_,_,_,_,e⟩:=x;exact QbR e
 | tup xs=>obtain⟨_,_,_,p⟩:=x;exact p.lt
 | dK kvs=>obtain⟨_,_,_,_,o,_,_,e,_⟩:=x;exact QbR e
 | dT kvs=>obtain⟨_,_,_,_,o,_,_,e,_⟩:=x;exact QbR e
 | set S n=>obtain⟨o,_,_,_,e,_⟩:=x;exact QbR e
 | ins C dx fs=>obtain⟨_,_,_,e,_⟩:=x;exact QbR e
 | own y=>obtain⟨_,e⟩:=x;exact QbR e
 | xd fs=>obtain⟨_,⟨_,_,_,e,_⟩,_⟩:=x;exact QbR e
 | rng lo hi=>obtain⟨_,_,_,e⟩:=x;exact QbR e
 | frz ob u=>obtain⟨e,_⟩:=x;exact QbR e
 | tbl ps=>exact QbR (show h.get? a=some _ from x)
 | met f y=>exact QbR (show h.get? a=some _ from x)
 | ext φ=>obtain⟨_,⟨_,e⟩,_⟩:=x;exact QbR e
theorem Paired.Bh {α β : Type} {F G:α->β->Prop}:∀{l₁ : List α} {l₂ : List β},Paired F l₁ l₂->(∀a b,F a b->G a b)->Paired G l₁ l₂
 | _,_,.nil,_=>.nil
 | _,_,.cons r t,f=>.cons (f _ _ r) (Paired.Bh t f)
theorem BX.stay (x:BX P w H h a o) (k:∀b u,(b=a\/H b=some (.own a))->h.get? b=some u->h'.get? b=some u)
  (ho:∀b,H b=some (.own a)->H' b=some (.own a)) (ht:∀b xs,H b=some (.tup xs)->H' b=some (.tup xs)):BX P w H' h' a o:=by
 induction o with
 | lst xs=>obtain⟨z,its,n,r,e⟩:=x;exact⟨z,its,n,r,k _ _ (.inl rfl) e⟩
 | tup xs=>obtain⟨z,its,r,ob,e,c⟩:=x;exact⟨z,its,r,ob,k _ _ (.inl rfl) e,c⟩
 | dK kvs=>obtain⟨z,y,vs,r,ob,es,ep,e,c⟩:=x;exact⟨z,y,vs,r,ob,es,ep,k _ _ (.inl rfl) e,c⟩
 | dT kvs=>
  obtain⟨z,y,xs,r,ob,es,ep,e,c⟩:=x;exact⟨z,y,xs,Paired.Bh r λp q z=>⟨z.1,ht _ _ z.2.1,z.2.2⟩,ob,es,ep,k _ _ (.inl rfl) e,c⟩
 | set S n=>obtain⟨ob,es,ep,t,e,c⟩:=x;exact⟨ob,es,ep,t,k _ _ (.inl rfl) e,c⟩
 | ins C dx fs=>
  obtain⟨d,z,ne,e,mA,⟨od,es,ep,e2,c⟩,r⟩:=x;exact⟨ho _ d,z,ne,k _ _ (.inl rfl) e,mA,⟨od,es,ep,k _ _ (.inr d) e2,c⟩,r⟩
 | own y=>obtain⟨ob,e⟩:=x;exact⟨ob,k _ _ (.inl rfl) e⟩
 | xd fs=>obtain⟨mA,⟨od,es,ep,e,c⟩,r⟩:=x;exact⟨mA,⟨od,es,ep,k _ _ (.inl rfl) e,c⟩,r⟩
 | rng lo hi=>obtain⟨t,u,v,e⟩:=x;exact⟨t,u,v,k _ _ (.inl rfl) e⟩
 | frz ob u ih=>obtain⟨e,q⟩:=x;exact⟨k _ _ (.inl rfl) e,ih q⟩
 | tbl ps=>
  have e:h.get? a=some { cls:=.none,data:=.fields ps }:=x;show h'.get? a=some { cls:=.none,data:=.fields ps };exact k a _ (.inl rfl) e
 | met f y=>
  have e:h.get? a=some (PySem.W.methodObj (.ref f) (.ref y)):=x;show h'.get? a=some (PySem.W.methodObj (.ref f) (.ref y));exact k a _ (.inl rfl) e
 | ext φ=>obtain⟨p,⟨o,e⟩,st⟩:=x;exact⟨st _ _ p λo q=>k _ _ (.inl rfl) q,⟨o,k _ _ (.inl rfl) e⟩,st⟩
theorem HOk.lt (x:HOk P w H h) (e:H a=some o):a < h.objs.size:=(x a o e).lt
theorem HOk.fresh (x:HOk P w H h) (e:h.objs.size<=a):H a=none:=by
 cases q:H a with
 | none=>rfl
 | some u=>exact absurd (QaR (x.lt q) e) (QbO _)
theorem HOk.kept (x:HOk P w H h) (k:∀b u,h.get? b=some u->h'.get? b=some u):HOk P w H h':=λa o e=>
 (x a o e).stay (λb u _ q=>k b u q) (λ_ q=>q) λ_ _ q=>q
theorem HOk.laid (x:HOk P w H h) (k:∀b u,h.get? b=some u->h'.get? b=some u) (hp:h.objs.size<=a) (new:BX P w (upd H a o) h' a o):HOk P w (upd H a o) h':=λb u e=>by
 have hn:=x.fresh hp;by_cases hb:b=a
 ·subst hb;rw[Ab] at e;cases e;exact new
 ·rw[Aw hb] at e;exact (x b u e).stay (λc v _ q=>k c v q) (λc q=>by rw[Aw (Ay q hn)];exact q) λc xs q=>by rw[Aw (Ay q hn)];exact q
end
def Rd (H:Hp) (a:Addr) (u:HO):Prop:=H a=some u\/∃o,H a=some (.frz o u)
theorem Rd.of {H:Hp} {a:Addr} {u:HO} (h:H a=some u):Rd H a u:=.inl h
theorem Rd.ok {P:Program} {w:World} {H:Hp} {h:Heap} {a:Addr} {u:HO} (r:Rd H a u) (x:HOk P w H h):BX P w H h a u:=by
 rcases r with r |⟨o,r⟩
 ·exact x a u r
 ·obtain⟨_,q⟩:=x a _ r;exact q
def Mut:Option HO->Prop
 | some (.lst _)=>True
 | some (.dK _)=>True
 | some (.dT _)=>True
 | some (.set _ _)=>True
 | some (.ins _ _ _)=>True
 | some (.ext _)=>True
 | _=>False
section
variable {P:Program} {w:World} {H:Hp} {h h':Heap} {x e:Addr} {o':HO}
theorem HOk.write (ok:HOk P w H h) (mu:Mut (H x)) (he:e=x\/H e=some (.own x)) (k:∀b u,b≠e->h.get? b=some u->h'.get? b=some u) (heo:∃u,h'.get? e=some u)
  (new:BX P w (upd H x o') h' x o'):HOk P w (upd H x o') h':=λb u q=>by
 have Za:∀c y,H c=some (.own y)->c≠x:=λc y r z=>by subst z;rw[r] at mu;exact mu
 have BZ:∀c xs,H c=some (.tup xs)->c≠x:=λc xs r z=>by subst z;rw[r] at mu;exact mu
 by_cases hb:b=x
 ·subst hb;rw[Ab] at q;cases q;exact new
 ·rw[Aw hb] at q;by_cases hbe:b=e
  ·have q':H b=some (.own x):=by
    rcases he with z | z
    ·exact absurd (hbe.trans z) hb
    ·rw[hbe];exact z
   rw[q] at q';cases q';obtain⟨v,hv⟩:=heo;exact⟨v,by rw[hbe];exact hv⟩
  ·refine (ok b u q).stay (λc v hc r=>k c v ?_ r) (λc r=>by rw[Aw (Za c b r)];exact r) λc xs r=>by rw[Aw (BZ c xs r)];exact r
   rcases hc with rfl | hc
   ·exact hbe
   ·rintro rfl;rcases he with z | z
    ·exact Za c b hc z
    ·rw[hc] at z;cases z;exact hb rfl
end
structure Un (fs ex:List Addr) (H H':Hp) (h h':Heap):Prop where
 keep:∀b o,h.get? b=some o->H b=none->b∉fs->b∉ex->h'.get? b=some o
 slot:∀b o,h.get? b=some o->H b=none->b∈fs->b∉ex->∃sl,h'.get? b=some { o with slots:=sl }
 free:∀b o,h.get? b=some o->H b=none->b∉ex->H' b=none
 there:∀b o,h.get? b=some o->b∉ex->∃o',h'.get? b=some o'
 tups:∀b xs,H b=some (.tup xs)->H' b=some (.tup xs)
 Fo:∀b o u,H b=some (.frz o u)->H' b=some (.frz o u)
 FJ:∀b ps,H b=some (.tbl ps)->∃more,H' b=some (.tbl (ps++more))
section
variable {fs fs' ex ex':List Addr} {H H1 H2:Hp} {h h1 h2 h':Heap} {a x e:Addr} {o:HO}
theorem Un.any (u:Un fs ex H H1 h h1) {b:Addr} {ob:Obj} (q:h.get? b=some ob) (n:H b=none) (hx:b∉ex):∃sl,h1.get? b=some { ob with slots:=sl }:=by
 by_cases hb:b∈fs
 ·exact u.slot b ob q n hb hx
 ·exact⟨ob.slots,u.keep b ob q n hb hx⟩
theorem Un.trans (a:Un fs ex H H1 h h1) (b:Un fs ex H1 H2 h1 h2):Un fs ex H H2 h h2 where
 keep:=λc ob q n hc hx=>b.keep c ob (a.keep c ob q n hc hx) (a.free c ob q n hx) hc hx
 slot:=λc ob q n hc hx=>by
  obtain⟨sl,e1⟩:=a.slot c ob q n hc hx;obtain⟨sl',e2⟩:=b.slot c _ e1 (a.free c ob q n hx) hc hx;exact⟨sl',e2⟩
 free:=λc ob q n hx=>by
  obtain⟨o',e1⟩:=a.there c ob q hx;exact b.free c o' e1 (a.free c ob q n hx) hx
 there:=λc ob q hx=>by
  obtain⟨o',e1⟩:=a.there c ob q hx;exact b.there c o' e1 hx
 tups:=λc xs q=>b.tups c xs (a.tups c xs q)
 Fo:=λc ob xs q=>b.Fo c ob xs (a.Fo c ob xs q)
 FJ:=λc ps q=>by
  obtain⟨m1,e1⟩:=a.FJ c ps q;obtain⟨m2,e2⟩:=b.FJ c _ e1;exact⟨m1++m2,by rw[e2,Array.append_assoc]⟩
theorem Un.kept (k:∀b u,h.get? b=some u->h'.get? b=some u):Un fs ex H H h h':=
 ⟨λb ob q _ _ _=>k b ob q,λb ob q _ _ _=>⟨ob.slots,k b ob q⟩,λ_ _ _ n _=>n,λb ob q _=>⟨ob,k b ob q⟩,λ_ _ q=>q,λ_ _ _ q=>q,λ_ ps q=>⟨#[],by rw[q];simp⟩⟩
theorem Un.refl:Un fs ex H H h h:=Un.kept λ_ _ q=>q
theorem Un.laid (k:∀b u,h.get? b=some u->h'.get? b=some u) (hp:h.objs.size<=a) (hn:H a=none):Un fs ex H (upd H a o) h h' where
 keep:=λb u q _ _ _=>k b u q
 slot:=λb u q _ _ _=>⟨u.slots,k b u q⟩
 free:=λb u q n _=>by rw[Aw (QbS (QaR (QbR q) hp))];exact n
 there:=λb u q _=>⟨u,k b u q⟩
 tups:=λb xs q=>by rw[Aw (Ay q hn)];exact q
 Fo:=λb u xs q=>by rw[Aw (Ay q hn)];exact q
 FJ:=λb ps q=>⟨#[],by rw[Aw (Ay q hn),q];simp⟩
theorem Un.write (mu:Mut (H x)) (he:e=x\/H e=some (.own x)) (k:∀b u,b≠e->h.get? b=some u->h'.get? b=some u) (heo:∃u,h'.get? e=some u):Un fs ex H (upd H x o) h h':=by
 have hx:∀b,H b=none->b≠x:=λb n z=>by subst z;rw[n] at mu;exact mu
 have hb:∀b,H b=none->b≠e:=λb n z=>by
  subst z;rcases he with r | r
  ·exact hx b n r
  ·rw[n] at r;cases r
 have hm:∀b u,H b=some u->¬Mut (some u)->b≠x:=λb u q nm z=>by subst z;rw[q] at mu;exact nm mu
 refine⟨λb u q n _ _=>k b u (hb b n) q,λb u q n _ _=>⟨u.slots,k b u (hb b n) q⟩,λb u q n _=>by rw[Aw (hx b n)];exact n,λb u q _=>?_,
  λb xs q=>by rw[Aw (hm b _ q λz=>z)];exact q,λb u xs q=>by rw[Aw (hm b _ q λz=>z)];exact q,λb ps q=>⟨#[],by rw[Aw (hm b _ q λz=>z),q];simp⟩⟩
 by_cases hbe:b=e
 ·subst hbe;exact heo
 ·exact⟨u,k b u hbe q⟩
theorem Un.mono (u:Un fs ex H H1 h h1) (hs:∀b∈fs,b∈fs') (hx:∀b∈ex,b∈ex'):Un fs' ex' H H1 h h1:=
 ⟨λb ob q n hb he=>u.keep b ob q n (λz=>hb (hs b z)) λz=>he (hx b z),λ_ _ q n _ he=>u.any q n λz=>he (hx _ z),λb ob q n he=>u.free b ob q n λz=>he (hx b z),λb ob q he=>u.there b ob q λz=>he (hx b z),u.tups,u.Fo,u.FJ⟩
end
def trk (h:Heap) (H:Hp):List Addr:=(List.range h.objs.size).filter λa=>(H a).isSome
def Ji (h:Heap) (H:Hp):Heap:=hideAll h (trk h H)
theorem U3 (h:Heap) (H:Hp):(Ji h H).objs.size=h.objs.size:=PySem.W.hideAll_size _ _
theorem Wt {h:Heap} {H:Hp} {b:Addr} {o:Obj} (e:h.get? b=some o) (n:H b=none):(Ji h H).get? b=some o:=
 hideAll_get _ e λhm=>by
  have q:(H b).isSome=true:=(QbF.mp hm).2;rw[n] at q;simp at q
theorem XD {h:Heap} {H:Hp} {b:Addr} {o:Obj} (e:(Ji h H).get? b=some o):h.get? b=some o/\H b=none:=by
 have e':h.get? b=some o:=PySem.W.of_hideAll (trk h H) e;refine⟨e',?_⟩;cases q:H b with
 | none=>rfl
 | some x=>
  have hm:b∈trk h H:=QbF.mpr ⟨List.mem_range.mpr (QbR e'),by simp[q]⟩;have z:(Ji h H).get? b=none:=PySem.W.hideAll_none (trk h H) hm;rw[z] at e;cases e
def X8 (g h:Heap) (L:Addr):YC:=(List.range h.objs.size).filterMap λa=>if a=L\/(g.get? a).isSome=true then none else (h.get? a).map λo=>(a,o)
def rest (g h:Heap) (L d:Addr):YC:=(X8 g h L).filter λp=>decide (p.1≠d)
structure Mod (K:YD) (mg:YB) (base:Heap):Prop where
 kin:K.In base
 glob:base.Ns mainGlobals mg
 blt:∃mb,base.Ns builtinsNs mb/\∀x:Str,x≠"__name__"->mb x=bootBuiltins x
 nolimit:base.NoLimit
structure Cx where
 prog:Program
 w:World
 K:YD
 mg:YB
 base:Heap
 A:Around
 N:YF
 s₀ : Shared
 H₀ : Hp
 env:Env
 outer:List Env
 stack:List Env
 ex:List Addr
 fn:Str->Bool
 calm:Bool
 pn:YC
 xe:YA
def frs (l:List Env):List Addr:=l.filterMap (·.frame)
abbrev Cx.fs (X:Cx):List Addr:=frs X.outer
def Vis (sc:Scope) (x:Str):Prop:=sc.names.lookup x=some .local\/sc.names.lookup x=some .cell\/sc.names.lookup x=some .free
def Loc (sc:Scope) (x:Str):Prop:=sc.names.lookup x=some .local\/sc.names.lookup x=some .cell
def Look (env:Env) (h:Heap) (m:YB) (x:Str) (u:Value):Prop:=
 (env.kindOf x=some .local/\m x=some u)\/((env.kindOf x=some .cell\/env.kindOf x=some .free)/\∃c,env.cells.lookup x=some c/\h.IsCell c (some u))
structure Cx.Ok (X:Cx):Prop where
 mod:Mod X.K X.mg X.base
 kind:X.env.scope.kind=.function
 glob:X.env.globals=mainGlobals
 blt:X.env.builtins=builtinsNs
 above:X.s₀.heap.objs.size<=X.env.locals
 inj:∀x y c,X.env.cells.lookup x=some c->X.env.cells.lookup y=some c->x=y
 has:∀x,(X.env.kindOf x=some .cell\/X.env.kindOf x=some .free)->∃c,X.env.cells.lookup x=some c
 cab:∀x c,X.fn x=true->X.env.cells.lookup x=some c->X.s₀.heap.objs.size<=c
 hd:X.calm=true->X.A.handled=none
 frames:X.A.frames=some X.stack
 stk:X.stack=X.outer\/(X.stack=X.env::X.outer/\X.env.frame=some X.env.locals)
 exf:∀b∈X.ex,b≠X.env.locals/\∀x c,X.env.cells.lookup x=some c->c≠b
 bs:∀b o,X.base.get? b=some o->X.s₀.heap.get? b=some o/\X.H₀ b=none
 bsz:X.base.objs.size<=X.s₀.heap.objs.size
 Nb:∀b o,X.base.get? b=some o->b∉X.ex
 Lb:∀b∈X.ex,b∉X.fs
 Gi:X.s₀.heap.FunFrames X.base X.outer
 frf:∀b∈X.fs,X.H₀ b=none
structure Inv (X:Cx) (jb:YC) (O : List (Option V)) (H:Hp) (s:Shared):Prop where
 ok:X.Ok
 os:s.os=X.s₀.os
 bare:AllBare s.gens
 base:Un X.fs X.ex X.H₀ H X.s₀.heap s.heap
 loc:∃m,s.heap.Ns X.env.locals m/\∀(i:Nat) (x:Str) (v:V),X.N[i]?=some x->O[i]?=some (some v)->Vis X.env.scope x->∃u,RelV v u/\Look X.env s.heap m x u
 cell:∀x c,X.env.cells.lookup x=some c->∃v,s.heap.IsCell c v
 free:H X.env.locals=none
 Ew:∀x c,X.env.cells.lookup x=some c->H c=none
 pin:∀p∈X.pn++jb,s.heap.get? p.1=some p.2/\H p.1=none/\p.1≠X.env.locals/\p.1∉X.fs/\∀v,p.2.data≠.cell v
 hok:HOk X.prog X.w H s.heap
 len:O.length=X.N.length
section
variable {X:Cx} {jb:YC} {O : List (Option V)} {H H':Hp} {s:Shared} {h':Heap}
theorem Cx.Ok.bL (ok:X.Ok) {b:Addr} {o:Obj} (e:X.base.get? b=some o):b∉X.fs:=λhb=>by
 have:=(ok.Gi.mem hb).1;rw[e] at this;cases this
theorem Inv.bs (I:Inv X jb O H s):∀b o,X.base.get? b=some o->s.heap.get? b=some o/\H b=none:=λb o e=>
 ⟨I.base.keep b o (I.ok.bs b o e).1 (I.ok.bs b o e).2 (I.ok.bL e) (I.ok.Nb b o e),I.base.free b o (I.ok.bs b o e).1 (I.ok.bs b o e).2 (I.ok.Nb b o e)⟩
theorem Inv.bk (I:Inv X jb O H s):∀b o,X.base.get? b=some o->s.heap.get? b=some o:=λb o e=>(I.bs b o e).1
theorem Inv.mod (I:Inv X jb O H s):Mod X.K X.mg X.base:=I.ok.mod
theorem Inv.kIn (I:Inv X jb O H s):X.K.In s.heap:=I.ok.mod.kin.keeps I.bk
theorem Inv.nolimit (I:Inv X jb O H s):s.heap.NoLimit:=I.ok.mod.nolimit.keeps I.bk
theorem Inv.fr (I:Inv X jb O H s):∃m,Fr X.base X.env.locals s.heap m:=
 let ⟨m,hn,_⟩:=I.loc
 ⟨m,hn,I.bk,QbT I.ok.bsz I.ok.above⟩
theorem Inv.lt (I:Inv X jb O H s):X.env.locals < s.heap.objs.size:=let ⟨_,hn,_⟩:=I.loc;hn.lt
theorem Inv.sz (I:Inv X jb O H s):X.s₀.heap.objs.size<=s.heap.objs.size:=QbT I.ok.above (QbW I.lt)
theorem Inv.V7 (I:Inv X jb O H s) {a:Addr} (h:s.heap.objs.size<=a):a∉X.fs:=λhb=>by
 obtain⟨_,o,ho,_⟩:=I.ok.Gi.mem hb;exact absurd (QaR (QbR ho) (QbT I.sz h)) (QbO _)
theorem Inv.cne (I:Inv X jb O H s):∀x c,X.env.cells.lookup x=some c->c≠X.env.locals:=λx c e z=>by
 obtain⟨v,o,ho,hd⟩:=I.cell x c e;obtain⟨m,⟨o',es,ep,ho',hd',_⟩,_⟩:=I.loc;rw[z,ho'] at ho;cases ho;rw[hd'] at hd;cases hd
theorem Inv.Gi (I:Inv X jb O H s):s.heap.FunFrames X.base X.outer:=by
 have all:∀(l:List Env),(∀b∈frs l,b∈X.fs)->X.s₀.heap.FunFrames X.base l->s.heap.FunFrames X.base l:=by
  intro l
  induction l with
  | nil=>intro _ _;trivial
  | cons env r ih=>
   intro hs hl;obtain⟨hk,⟨L,o,hf,hn,ho,hd⟩,hr⟩:=hl;have hL:L∈X.fs:=hs L (by unfold frs;rw[List.filterMap_cons,hf];exact QaM);obtain⟨sl,e⟩:=I.base.slot L o ho (I.ok.frf L hL) hL λz=>I.ok.Lb L z hL;exact⟨hk,⟨L,_,hf,hn,e,hd⟩,ih (λb hb=>hs b (by unfold frs;rw[List.filterMap_cons,hf];exact QaB _ hb)) hr⟩
 exact all X.outer (λ_ hb=>hb) I.ok.Gi
theorem Inv.stack (I:Inv X jb O H s):s.heap.FunFrames X.base X.stack:=by
 rcases I.ok.stk with e |⟨e,hf⟩
 ·rw[e];exact I.Gi
 ·rw[e];obtain⟨m,hn,_⟩:=I.loc;refine .cons (by rw[I.ok.kind];decide) hf hn ?_ I.Gi;exact Heap.get?_none_of_le (QbT I.ok.bsz I.ok.above)
theorem Inv.O7 (I:Inv X jb O H s):∀b∈frs X.stack,b∈X.env.locals::X.fs:=λb hb=>by
 rcases I.ok.stk with e |⟨e,hf⟩
 ·rw[e] at hb;exact QaB _ hb
 ·rw[e] at hb;unfold frs at hb;rw[List.filterMap_cons,hf] at hb;exact hb
theorem Inv.MP (I:Inv X jb O H s):∀b∈frs X.stack,H b=none:=λb hb=>by
 rcases QbL.mp (I.O7 b hb) with e | hb
 ·rw[e];exact I.free
 ·obtain⟨_,o,ho,_⟩:=I.ok.Gi.mem hb;exact I.base.free b o ho (I.ok.frf b hb) λz=>I.ok.Lb b z hb
theorem Inv.step {g':Array GenState} {t':Nat} {d':Drawn} {ch:List Addr} (I:Inv X jb O H s)
  (hch:∀b∈ch,(b∈X.ex\/X.s₀.heap.objs.size<=b)/\b≠X.env.locals/\(∀x c,X.env.cells.lookup x=some c->c≠b)/\∀p∈X.pn++jb,p.1≠b)
  (keep:∀b o,b≠X.env.locals->b∉X.fs->b∉ch->s.heap.get? b=some o->H b=none->h'.get? b=some o)
  (slot:∀b o,b≠X.env.locals->b∈X.fs->b∉ch->s.heap.get? b=some o->H b=none->∃sl,h'.get? b=some { o with slots:=sl }) (free:∀b o,b∉ch->s.heap.get? b=some o->H b=none->H' b=none)
  (there:∀b o,b∉ch->s.heap.get? b=some o->∃o',h'.get? b=some o')
  (tups:∀b xs,H b=some (.tup xs)->H' b=some (.tup xs)) (Fo:∀b o u,H b=some (.frz o u)->H' b=some (.frz o u)) (FJ:∀b ps,H b=some (.tbl ps)->∃more,H' b=some (.tbl (ps++more)))
  (ns:∀m,s.heap.Ns X.env.locals m->h'.Ns X.env.locals m) (hok:HOk X.prog X.w H' h') (hg:AllBare g') :
  Inv X jb O H' { s with heap:=h',gens:=g',drawn:=d',toks:=t' }:=by
 have neL:∀b o,X.s₀.heap.get? b=some o->b≠X.env.locals:=λb o e=>QbS (QaR (QbR e) I.ok.above);have neC:∀b o,X.s₀.heap.get? b=some o->b∉X.ex->b∉ch:=λb o e hx hb=>by
  rcases (hch b hb).1 with z | z
  ·exact hx z
  ·exact absurd (QaR (QbR e) z) (QbO _)
 have cellK:∀x c,X.env.cells.lookup x=some c->∀v,s.heap.IsCell c v->h'.IsCell c v:=λx c e v ⟨o,ho,hd⟩=>by
  have nch:c∉ch:=λz=>(hch c z).2.2.1 x c e rfl;by_cases hc:c∈X.fs
  ·obtain⟨sl,q⟩:=slot c o (I.cne x c e) hc nch ho (I.Ew x c e);exact⟨_,q,hd⟩
  ·exact⟨o,keep c o (I.cne x c e) hc nch ho (I.Ew x c e),hd⟩
 refine⟨I.ok,I.os,hg,⟨λb o e n hb hx=>?_,λb o e n hb hx=>?_,λb o e n hx=>?_,λb o e hx=>?_,λb xs e=>tups b xs (I.base.tups b xs e),λb o xs e=>Fo b o xs (I.base.Fo b o xs e),λb ps e=>?_⟩,?_,λx c e=>?_,?_,λx c e=>?_,λp hp=>?_,hok,I.len⟩
 ·exact keep b o (neL b o e) hb (neC b o e hx) (I.base.keep b o e n hb hx) (I.base.free b o e n hx)
 ·obtain⟨sl,e1⟩:=I.base.slot b o e n hb hx;obtain⟨sl',e2⟩:=slot b _ (neL b o e) hb (neC b o e hx) e1 (I.base.free b o e n hx);exact⟨sl',e2⟩
 ·obtain⟨o',e1⟩:=I.base.there b o e hx;exact free b o' (neC b o e hx) e1 (I.base.free b o e n hx)
 ·obtain⟨o',e1⟩:=I.base.there b o e hx;exact there b o' (neC b o e hx) e1
 ·obtain⟨m1,e1⟩:=I.base.FJ b ps e;obtain⟨m2,e2⟩:=FJ b _ e1;exact⟨m1++m2,by rw[e2,Array.append_assoc]⟩
 ·obtain⟨m,hn,hl⟩:=I.loc;refine⟨m,ns m hn,λi x v e1 e2 e3=>?_⟩;obtain⟨u,r,l⟩:=hl i x v e1 e2 e3;refine⟨u,r,?_⟩;rcases l with l |⟨k,c,e,z⟩
  ·exact .inl l
  ·exact .inr ⟨k,c,e,cellK x c e _ z⟩
 ·obtain⟨v,z⟩:=I.cell x c e;exact⟨v,cellK x c e v z⟩
 ·obtain⟨m,⟨o,_,_,ho,_⟩,_⟩:=I.loc;exact free _ o (λz=>(hch _ z).2.1 rfl) ho I.free
 ·obtain⟨v,o,ho,hd⟩:=I.cell x c e;exact free c o (λz=>(hch c z).2.2.1 x c e rfl) ho (I.Ew x c e)
 ·obtain⟨e,n,ne,nf,d⟩:=I.pin p hp;have nch:p.1∉ch:=λz=>(hch p.1 z).2.2.2 p hp rfl;exact⟨keep p.1 p.2 ne nf nch e n,free p.1 p.2 nch e n,ne,nf,d⟩
theorem Inv.un {t':Nat} (I:Inv X jb O H s) (u:Un X.fs [] H H' s.heap h') (hok:HOk X.prog X.w H' h'):Inv X jb O H' { s with heap:=h',toks:=t' }:=by
 obtain⟨m,⟨o,es,ep,ho,r⟩,_⟩:=id I.loc;obtain⟨sl,hL⟩:=u.any ho I.free (by simp);exact I.step (g':=s.gens) (d':=s.drawn) (ch:=[]) (λ_ z=>nomatch z) (λb o _ hb _ e n=>u.keep b o e n hb (by simp)) (λb o _ hb _ e n=>u.slot b o e n hb (by simp)) (λb o _ e n=>u.free b o e n (by simp)) (λb o _ e=>u.there b o e (by simp)) u.tups u.Fo u.FJ (λm' hm=>by
  obtain⟨o',es',ep',ho',r'⟩:=hm;rw[ho] at ho';cases ho';exact⟨_,es',ep',hL,r'⟩) hok I.bare
theorem Inv.call {g':Array GenState} {t':Nat} {d':Drawn} {ch:List Addr} (I:Inv X jb O H s) (u:Un (frs X.stack) ch H H' s.heap h') (hok:HOk X.prog X.w H' h') (hg:AllBare g')
  (hch:∀b∈ch,(b∈X.ex\/X.s₀.heap.objs.size<=b)/\b≠X.env.locals/\(∀x c,X.env.cells.lookup x=some c->c≠b)/\∀p∈X.pn++jb,p.1≠b) :
  Inv X jb O H' { s with heap:=h',gens:=g',drawn:=d',toks:=t' }:=by
 obtain⟨m,⟨o,es,ep,ho,r⟩,_⟩:=id I.loc;obtain⟨sl,hL⟩:=u.any ho I.free λz=>(hch _ z).2.1 rfl;exact I.step (ch:=ch) hch (λb o hL hb hc e n=>u.keep b o e n (λz=>(QbL.mp (I.O7 b z)).elim hL hb) hc) (λb o _ _ hc e n=>u.any e n hc) (λb o hc e n=>u.free b o e n hc) (λb o hc e=>u.there b o e hc) u.tups u.Fo u.FJ (λm' hm=>by
  obtain⟨o',es',ep',ho',r'⟩:=hm;rw[ho] at ho';cases ho';exact⟨_,es',ep',hL,r'⟩) hok hg
theorem Inv.turned {t':Nat} {it:Addr} (I:Inv X jb O H s) (k:∀b o,b≠it->s.heap.get? b=some o->h'.get? b=some o) (hn:H it=none) (hL:it≠X.env.locals)
  (h1:it∈X.ex\/X.s₀.heap.objs.size<=it) (h2:∀x c,X.env.cells.lookup x=some c->c≠it) (h3:∀p∈X.pn++jb,p.1≠it):Inv X jb O H { s with heap:=h',toks:=t' }:=by
 have nit:∀b u,H b=some u->b≠it:=λb u e z=>by rw[z,hn] at e;cases e
 refine I.step (g':=s.gens) (d':=s.drawn) (ch:=[it]) (λb hb=>?_) (λb o _ _ hc e _=>k b o (λz=>hc (by simp[z])) e) (λb o _ _ hc e _=>⟨o.slots,k b o (λz=>hc (by simp[z])) e⟩) (λ_ _ _ _ n=>n)
  (λb o hc e=>⟨o,k b o (λz=>hc (by simp[z])) e⟩) (λ_ _ e=>e) (λ_ _ _ e=>e) (λb ps e=>⟨#[],by rw[e];simp⟩) (λm hm=>?_) (λb u e=>?_) I.bare
 ·have e:b=it:=by simpa using hb
  subst e;exact⟨h1,hL,h2,h3⟩
 ·obtain⟨o,es,ep,ho,r⟩:=hm;exact⟨o,es,ep,k _ o (Ne.symm hL) ho,r⟩
 ·refine (I.hok b u e).stay (λc v hc q=>k c v ?_ q) (λ_ q=>q) λ_ _ q=>q;rcases hc with z | z
  ·rw[z];exact nit b u e
  ·exact nit c _ z
theorem Inv.tok (I:Inv X jb O H s) (t:Nat):Inv X jb O H { s with toks:=t }:=I.un (h':=s.heap) (t':=t) Un.refl I.hok
theorem Inv.kept {t':Nat} (I:Inv X jb O H s) (k:∀b u,s.heap.get? b=some u->h'.get? b=some u):Inv X jb O H { s with heap:=h',toks:=t' }:=I.un (Un.kept k) (I.hok.kept k)
theorem Inv.laid {a:Addr} {o:HO} {t':Nat} (I:Inv X jb O H s) (k:∀b u,s.heap.get? b=some u->h'.get? b=some u) (hp:s.heap.objs.size<=a) (new:BX X.prog X.w (upd H a o) h' a o) :
  Inv X jb O (upd H a o) { s with heap:=h',toks:=t' }:=I.un (Un.laid k hp (I.hok.fresh hp)) (I.hok.laid k hp new)
theorem Inv.write {x e:Addr} {o:HO} {t':Nat} (I:Inv X jb O H s) (mu:Mut (H x)) (he:e=x\/H e=some (.own x)) (k:∀b u,b≠e->s.heap.get? b=some u->h'.get? b=some u) (heo:∃u,h'.get? e=some u)
  (new:BX X.prog X.w (upd H x o) h' x o):Inv X jb O (upd H x o) { s with heap:=h',toks:=t' }:=I.un (Un.write mu he k heo) (I.hok.write mu he k heo new)
theorem Inv.weak {σ':List (Option V)} (I:Inv X jb O H s) (hl:σ'.length=O.length) (w:∀(i:Nat) v,σ'[i]?=some (some v)->O[i]?=some (some v)):Inv X jb σ' H s:=
 ⟨I.ok,I.os,I.bare,I.base,let ⟨m,hn,hl'⟩:=I.loc;⟨m,hn,λi x v e1 e2 e3=>hl' i x v e1 (w i v e2) e3⟩,I.cell,I.free,I.Ew,I.pin,I.hok,hl.trans I.len⟩
theorem Inv.Ka {Sv:YC} (I:Inv X jb O H s) (h:∀p∈Sv,s.heap.get? p.1=some p.2/\H p.1=none/\p.1≠X.env.locals/\p.1∉X.fs/\∀v,p.2.data≠.cell v):Inv X Sv O H s:=
 ⟨I.ok,I.os,I.bare,I.base,I.loc,I.cell,I.free,I.Ew,λp hp=>(Qbu.mp hp).elim (λz=>I.pin p (QaD _ z)) (h p),I.hok,I.len⟩
theorem PJ {N:YF} (hN:N.Nodup) {i j:Nat} {x:Str} (a:N[i]?=some x) (b:N[j]?=some x):i=j:=by
 obtain⟨h1,e1⟩:=Qaf.mp a;obtain⟨h2,e2⟩:=Qaf.mp b;exact (List.getElem_inj hN).mp (e1.trans e2.symm)
theorem T7 {M:Model} {A:Around} {E:YA} {i:Nat} {x:Str} {v:V} {u:Value} {Q:YH} (I:Inv X jb O H s) (hN:X.N.Nodup) (hi:X.N[i]?=some x) (hx:Loc X.env.scope x) (r:RelV v u)
  (h:∀s',Inv X jb (O.set i (some v)) H s'->(∃a,Heap.SameBut a s.heap s'.heap/\(a=X.env.locals\/X.env.cells.lookup x=some a))->Q () s') (hf:X.fn x=true\/X.env.scope.names.lookup x=some .local:=by first | exact .inl rfl | exact .inr rfl | assumption):wpAny M A (storeName X.env x u) Q E s:=by
 obtain⟨m,hn,hl⟩:=id I.loc;have hcls:(X.env.scope.kind == .class || (X.env.scope.kind == .module&&X.env.locals != X.env.globals))=false:=by rw[I.ok.kind];rfl
 have hiσ : i < O.length:=by rw[I.len];exact (Qaf.mp hi).1
 have cne:=I.cne;have tracked:∀{a:Addr} {h':Heap},(∃o,s.heap.get? a=some o/\H a=none)->Heap.SameBut a s.heap h'->HOk X.prog X.w H h':=λ{a h'} ha hs b ob e=>by
  obtain⟨_,_,hfree⟩:=ha;refine (I.hok b ob e).stay (λc w' hc q=>(hs.2 c ?_).trans q) (λ_ q=>q) λ_ _ q=>q;rintro rfl;rcases hc with rfl | hc
  ·rw[hfree] at e;cases e
  ·rw[hfree] at hc;cases hc
 rcases hx with hk | hk
 ·refine wpAny_storeName_local hk hn (λh' hn' hs=>?_) hcls;obtain⟨oL,_,_,hoL,_⟩:=id hn;refine h _ ⟨I.ok,I.os,I.bare,⟨λb o e n hb hx=>?_,λb o e n hb hx=>?_,I.base.free,λb o e hx=>?_,I.base.tups,I.base.Fo,I.base.FJ⟩,⟨_,hn',λj y v' e1 e2 e3=>?_⟩,λy c e=>?_,I.free,I.Ew,λp hp=>?_,tracked ⟨oL,hoL,I.free⟩ hs,by simpa using I.len⟩ ⟨_,hs,.inl rfl⟩
  ·exact (hs.2 b (QbS (QaR (QbR e) I.ok.above))).trans (I.base.keep b o e n hb hx)
  ·obtain⟨sl,e1⟩:=I.base.slot b o e n hb hx;exact⟨sl,(hs.2 b (QbS (QaR (QbR e) I.ok.above))).trans e1⟩
  ·obtain⟨o',e1⟩:=I.base.there b o e hx;exact⟨o',(hs.2 b (QbS (QaR (QbR e) I.ok.above))).trans e1⟩
  ·by_cases hj:j=i
   ·subst hj;rw[hi] at e1;cases e1;rw[List.getElem?_set_self hiσ] at e2;cases e2;exact⟨u,r,.inl ⟨hk,by simp⟩⟩
   ·rw[List.getElem?_set_ne (Ne.symm hj)] at e2;obtain⟨u',r',q⟩:=hl j y v' e1 e2 e3;refine⟨u',r',?_⟩;rcases q with⟨k,e⟩|⟨k,c,e,z⟩
    ·refine .inl ⟨k,?_⟩;have:y≠x:=λe=>hj (PJ hN e1 (e ▸ hi));simp[this,e]
    ·exact .inr ⟨k,c,e,z.sameBut hs (cne y c e)⟩
  ·obtain⟨w',z⟩:=I.cell y c e;exact⟨w',z.sameBut hs (cne y c e)⟩
  ·obtain⟨e,n,ne,nf,d⟩:=I.pin p hp;exact⟨(hs.2 p.1 ne).trans e,n,ne,nf,d⟩
 ·have hfn:X.fn x=true:=by
   rcases hf with z | z
   ·exact z
   ·rw[z] at hk;cases hk
  obtain⟨c,hc⟩:=I.ok.has x (.inl hk);obtain⟨w',z⟩:=I.cell x c hc;refine wpAny_storeName_cell I.ok.kind hk hc z (λh' hc' hs=>?_);obtain⟨oc,hoc,cU⟩:=id z;refine h { s with heap:=h' } ⟨I.ok,I.os,I.bare,⟨λb o e n hb hx=>?_,λb o e n hb hx=>?_,I.base.free,λb o e hx=>?_,I.base.tups,I.base.Fo,I.base.FJ⟩,⟨m,hn.sameBut hs (Ne.symm (cne x c hc)),λj y v' e1 e2 e3=>?_⟩,λy c' e=>?_,I.free,I.Ew,λp hp=>?_,tracked ⟨oc,hoc,I.Ew x c hc⟩ hs,by simpa using I.len⟩ ⟨c,hs,.inr hc⟩
  ·exact (hs.2 b (QbS (QaR (QbR e) (I.ok.cab x c hfn hc)))).trans (I.base.keep b o e n hb hx)
  ·obtain⟨sl,e1⟩:=I.base.slot b o e n hb hx;exact⟨sl,(hs.2 b (QbS (QaR (QbR e) (I.ok.cab x c hfn hc)))).trans e1⟩
  ·obtain⟨o',e1⟩:=I.base.there b o e hx;exact⟨o',(hs.2 b (QbS (QaR (QbR e) (I.ok.cab x c hfn hc)))).trans e1⟩
  ·by_cases hj:j=i
   ·subst hj;rw[hi] at e1;cases e1;rw[List.getElem?_set_self hiσ] at e2;cases e2;exact⟨u,r,.inr ⟨.inl hk,c,hc,hc'⟩⟩
   ·rw[List.getElem?_set_ne (Ne.symm hj)] at e2;obtain⟨u',r',q⟩:=hl j y v' e1 e2 e3;refine⟨u',r',?_⟩;rcases q with q |⟨k,c',e,z'⟩
    ·exact .inl q
    ·refine .inr ⟨k,c',e,z'.sameBut hs ?_⟩;rintro rfl;exact hj (PJ hN e1 (I.ok.inj _ _ _ e hc ▸ hi))
  ·by_cases hcc:c'=c
   ·subst hcc;exact⟨_,hc'⟩
   ·obtain⟨w2,z2⟩:=I.cell y c' e;exact⟨w2,z2.sameBut hs hcc⟩
  ·obtain⟨e,n,ne,nf,d⟩:=I.pin p hp;refine⟨(hs.2 p.1 ?_).trans e,n,ne,nf,d⟩;intro q;rw[q,hoc] at e;have q':oc=p.2:=Qby e;exact d w' (by rw[<-q'];exact cU)
theorem IK {M:Model} {A:Around} {E:YA} {i:Nat} {x:Str} {v:V} {u:Value} {Q:YH} (I:Inv X jb O H s) (hN:X.N.Nodup) (hi:X.N[i]?=some x) (hx:Loc X.env.scope x) (r:RelV v u)
  (h:∀s',Inv X jb (O.set i (some v)) H s'->Q () s') (hf:X.fn x=true\/X.env.scope.names.lookup x=some .local:=by first | exact .inl rfl | exact .inr rfl | assumption):wpAny M A (storeName X.env x u) Q E s:=
 T7 I hN hi hx r (λs' I' _=>h s' I') hf
theorem Inv.call' {s':Shared} {ch:List Addr} (I:Inv X jb O H s) (ho:s'.os=s.os) (u:Un (frs X.stack) ch H H' s.heap s'.heap) (hok:HOk X.prog X.w H' s'.heap) (hg:AllBare s'.gens)
  (hch:∀b∈ch,(b∈X.ex\/X.s₀.heap.objs.size<=b)/\b≠X.env.locals/\(∀x c,X.env.cells.lookup x=some c->c≠b)/\∀p∈X.pn++jb,p.1≠b):Inv X jb O H' s':=by
 obtain⟨h',g',d',t',o'⟩:=s';have e:o'=s.os:=ho;subst e;exact I.call (g':=g') (t':=t') (d':=d') u hok hg hch
end
abbrev XK:=Value->Option Addr->Hp->Prop
abbrev St:=List (Option V)
abbrev VK:=V->Hp->Prop
abbrev TE:=St->Hp->VK->Prop
abbrev TT:=St->Hp->(Bool->Hp->Prop)->Prop
abbrev TA:=St->Hp->(YG->Hp->Prop)->Prop
structure Ends where
 nx:St->Hp->Prop
 rt:VK
 bk:St->Hp->Prop:=λ_ _=>False
 ct:St->Hp->Prop:=λ_ _=>False
abbrev YO:=St->Hp->Prop
abbrev TS:=Ends->YO
def EP (X:Cx) (jb:YC) (O : St) (Q:VK) (u:Value) (s':Shared):Prop:=∃v H',Inv X jb O H' s'/\RelV v u/\Q v H'
def TP (X:Cx) (jb:YC) (O : St) (Q:Bool->Hp->Prop) (b:Bool) (s':Shared):Prop:=∃H',Inv X jb O H' s'/\Q b H'
def AP (X:Cx) (jb:YC) (O : St) (Q:YG->Hp->Prop) (us:YE) (s':Shared):Prop:=∃vs H',Inv X jb O H' s'/\Vals vs us/\Q vs H'
def SP (X:Cx) (jb:YC) (D:Ends) (f:Flow) (s':Shared):Prop:=
 match f with
 | .next=>∃ σ' H',Inv X jb σ' H' s'/\D.nx σ' H'
 | .brk=>∃ σ' H',Inv X jb σ' H' s'/\D.bk σ' H'
 | .cont=>∃ σ' H',Inv X jb σ' H' s'/\D.ct σ' H'
 | .ret u=>∃v σ' H',Inv X jb σ' H' s'/\RelV v u/\D.rt v H'
def PE (X:Cx) (e:Expr) (t:TE):Prop:=
 ∀(jb:YC) (s:Shared) (O : St) (H:Hp) (Q:VK),Inv X jb O H s->t O H Q->wpAny (model X.prog X.w) X.A (eval e X.env) (EP X jb O Q) X.xe s
def PT (X:Cx) (e:Expr) (t:TT):Prop:=
 ∀(jb:YC) (s:Shared) (O : St) (H:Hp) (Q:Bool->Hp->Prop),Inv X jb O H s->t O H Q->wpAny (model X.prog X.w) X.A (isTrue e X.env (eval e X.env)) (TP X jb O Q) X.xe s
def PW (X:Cx) (e:Expr) (t:TT):Prop:=
 ∀(whole:Sem Value) (jb:YC) (s:Shared) (O : St) (H:Hp) (Q:Bool->Hp->Prop),Inv X jb O H s->t O H Q->wpAny (model X.prog X.w) X.A (isTrue e X.env whole) (TP X jb O Q) X.xe s
theorem PW.pt {X:Cx} {e:Expr} {t:TT} (h:PW X e t):PT X e t:=h _
def PA (X:Cx) (es:YJ) (t:TA):Prop:=
 ∀(pos:Pos) (jb:YC) (s:Shared) (O : St) (H:Hp) (Q:YG->Hp->Prop),Inv X jb O H s->t O H Q->wpAny (model X.prog X.w) X.A (spliced (backTo pos (starEach es X.env))) (AP X jb O Q) X.xe s
def PS (X:Cx) (st:Stmt) (t:TS):Prop:=
 ∀(jb:YC) (s:Shared) (O : St) (H:Hp) (D:Ends),Inv X jb O H s->t D O H->wpAny (model X.prog X.w) X.A (exec st X.env) (SP X jb D) X.xe s
def PSs (X:Cx) (st:List Stmt) (t:TS):Prop:=
 ∀(jb:YC) (s:Shared) (O : St) (H:Hp) (D:Ends),Inv X jb O H s->t D O H->wpAny (model X.prog X.w) X.A (execs st X.env) (SP X jb D) X.xe s
theorem thn {α : Type} {t:Sem α} {Q Q':α->Shared->Prop} {M:Model} {A:Around} {E:YA} {s:Shared} (h:wpAny M A t Q E s) (hQ:∀a s,Q a s->Q' a s):wpAny M A t Q' E s:=Qcf h hQ λ_ _ x=>x
section
variable {X:Cx}
theorem bin {a b:Expr} {ta tb:TE} (ha:PE X a ta) (hb:PE X b tb) {jb:YC} {s:Shared} {O : St} {H:Hp} {R:V->V->Hp->Prop} (I:Inv X jb O H s) (h:ta O H λx H1=>tb O H1 λy H2=>R x y H2)
  {α : Type} {Q:α->Shared->Prop} {f:Value->Value->Sem α}
  (hf:∀v u s2 x y H2,Inv X jb O H2 s2->RelV x v->RelV y u->R x y H2->wpAny (model X.prog X.w) X.A (f v u) Q X.xe s2) :
  wpAny (model X.prog X.w) X.A (eval a X.env) (λv s₁=>wpAny (model X.prog X.w) X.A (eval b X.env) (λu s₂=>wpAny (model X.prog X.w) X.A (f v u) Q X.xe s₂) X.xe s₁) X.xe s:=by
 refine thn (ha jb s O H _ I h) λv s1 zz=>?_;obtain⟨x,H1,I1,r1,q1⟩:=zz;refine thn (hb jb s1 O H1 _ I1 q1) λu s2 zz=>?_;obtain⟨y,H2,I2,r2,q2⟩:=zz;exact hf v u s2 x y H2 I2 r1 r2 q2
def Ym (i:Nat):TE:=fun O H Q=>∃v,O[i]?=some (some v)/\Q v H
def tC (v:V):TE:=λ_ H Q=>Q v H
theorem YZ {i:Nat} {x:Str} {pos:Pos} (hN:X.N[i]?=some x) (hv:Vis X.env.scope x) (hd:(x == ("__debug__":Str))=false:=by decide) (hcd:(x == ("__classdict__":Str))=false:=by decide):PE X (.Name x pos) (Ym i):=by
 intro jb s O H Q I h;obtain⟨v,e,h⟩:=h;obtain⟨m,hn,hl⟩:=I.loc;obtain⟨u,r,l⟩:=hl i x v hN e hv;have fin:EP X jb O Q u s:=⟨v,H,I,r,h⟩;rcases l with⟨hk,hm⟩|⟨hk,c,hc,hcell⟩
 ·exact wpAny_Name (wpAny_loadName_local I.ok.kind hk hn hm fin) hd
 ·rcases hk with hk | hk
  ·exact wpAny_Name (wpAny_loadName_cell I.ok.kind hk hc hcell fin) hd
  ·exact wpAny_Name (wpAny_loadName_free I.ok.kind hk hc hcell fin hcd) hd
theorem Ae {i j pos}:PE X (.Constant (.int i) j pos) (tC (.int i)):=λ_ _ _ H _ I h=>wpAny_Constant_int ⟨.int i,H,I.tok _,⟨_,rfl⟩,h⟩
theorem Kc {b j pos}:PE X (.Constant (.bool b) j pos) (tC (.bl b)):=λ_ _ _ H _ I h=>Constant_bool ⟨.bl b,H,I,rfl,h⟩
theorem Ij {j pos}:PE X (.Constant .none j pos) (tC .non):=λ_ _ _ H _ I h=>Constant_none ⟨.non,H,I,rfl,h⟩
theorem BL {x j pos}:PE X (.Constant (.str x) j pos) (tC (.str x)):=λ_ _ _ H _ I h=>Calls.Constant_str ⟨.str x,H,I.tok _,⟨_,rfl⟩,h⟩
def Gl (X:Cx) (x:Str):Prop:=X.env.kindOf x=some .globalImplicit
theorem Ri {E:YA} {jb:YC} {s:Shared} {O : St} {H:Hp} {x:Str} {u:Value} {pos:Pos} {Q:YA} (I:Inv X jb O H s) (hg:Gl X x) (hm:X.mg x=some u) (h:Q u s)
  (hd:(x == ("__debug__":Str))=false:=by decide):wpAny (model X.prog X.w) X.A (eval (.Name x pos) X.env) Q E s:=
 Calls.Name_function_global I.ok.kind hg (Calls.loadGlobal_global (by rw[I.ok.glob];exact I.mod.glob.keeps I.bk) hm h) hd
theorem Gx {E:YA} {jb:YC} {s:Shared} {O : St} {H:Hp} {x:Str} {u:Value} {pos:Pos} {Q:YA} (I:Inv X jb O H s) (hg:Gl X x) (hm:X.mg x=none) (hv:bootBuiltins x=some u) (h:Q u s)
  (hn:x≠"__name__":=by decide) (hd:(x == ("__debug__":Str))=false:=by decide):wpAny (model X.prog X.w) X.A (eval (.Name x pos) X.env) Q E s:=by
 obtain⟨mb,h1,h2⟩:=I.mod.blt;exact Calls.Name_function_global I.ok.kind hg (Calls.loadGlobal_builtin (by rw[I.ok.glob];exact I.mod.glob.keeps I.bk) hm (by rw[I.ok.blt];exact h1.keeps I.bk) ((h2 x hn).trans hv) h) hd
theorem Xr {x:Str} {v:V} {u:Value} {pos:Pos} (hg:Gl X x) (hm:X.mg x=some u) (r:RelV v u) (hd:(x == ("__debug__":Str))=false:=by decide):PE X (.Name x pos) (tC v):=
 λ_ _ _ H _ I h=>Ri I hg hm ⟨v,H,I,r,h⟩ hd
variable {a b:Expr} {ta tb:TE} {pos:Pos}
def PC (X:Cx) (op:CmpOp) (a b:Expr) (t:TE):Prop:=
 ∀(jb:YC) (s:Shared) (O : St) (H:Hp) (Q:VK),Inv X jb O H s->t O H Q ->
  wpAny (model X.prog X.w) X.A (eval a X.env) (λv s₁=>wpAny (model X.prog X.w) X.A (eval b X.env) (λu s₂=>wpAny (model X.prog X.w) X.A (compareOp op v u) (EP X jb O Q) X.xe s₂) X.xe s₁) X.xe s
theorem V8 (b:Expr) {op:CmpOp} (h:op≠.In) (h2:op≠.NotIn):behindInMarks op b=false:=by
 have e1:(op == CmpOp.In)=false:=by cases op <;> first | rfl | exact absurd rfl h
 have e2:(op == CmpOp.NotIn)=false:=by cases op <;> first | rfl | exact absurd rfl h2
 cases b <;> simp[behindInMarks,e1,e2]
def tB (t:TE):TT:=fun O H Q=>t O H λx H1=>∃c,x=.bl c/\Q c H1
theorem Pk {op:CmpOp} {t:TE} (h:PC X op a b t) (h1:behindInMarks op b=false:=by first | exact V8 _ (by decide) (by decide) | rfl):PT X (.Compare a [op] [b] pos) (tB t):=by
 intro jb s O H Q I hw;refine wpAny_isTrue_Compare1 (thn (h jb s O H _ I hw) λv s1 h1=>thn h1 λu s2 h2=>thn h2 λc s3 zz=>?_) h1;obtain⟨x,H1,I1,r1,q1⟩:=zz;obtain⟨d,rfl,q⟩:=q1;cases r1;exact wpAny_truthy_bool ⟨H1,I1,q⟩
variable {tA tB':TT} {rest:YJ}
def tOr (t u:TT):TT:=fun O H Q=>t O H λc H1=>if c=true then Q true H1 else u O H1 Q
theorem YT (ha:PT X a tA):PW X (.BoolOp .Or [a] pos) tA:=by
 intro wh jb s O H Q I h;refine isTrue_or (thn (ha jb s O H Q I h) λc s1 e=>?_);cases c with
 | false=>exact isTrue_or_nil e
 | true=>exact e
theorem ak (ha:PT X a tA) (hb:PW X (.BoolOp .Or (b::rest) pos) tB'):PW X (.BoolOp .Or (a::b::rest) pos) (tOr tA tB'):=by
 intro wh jb s O H Q I h;refine isTrue_or (thn (ha jb s O H _ I h) λc s1 zz=>?_);obtain⟨H1,I1,q1⟩:=zz;cases c with
 | true=>exact⟨H1,I1,q1⟩
 | false=>exact hb wh jb s1 O H1 Q I1 q1
theorem Y0 {op} {t:TE} (h:PE X a t):PE X (.BoolOp op [a] pos) t:=λjb s O H Q I hw=>BoolOp_one (h jb s O H Q I hw)
end
def SqL (K:YD) (H:Hp) (a:Addr) (xs:YG):Prop:=
 Rd H a (.lst xs) \/
  ∃(o:Obj) (its:Array Value) (n:Nat),K.lookup a=some o/\o.cls=.type "list"/\o.dict=none/\o.data=.seq its n/\its.size<=sizeLine/\Vals xs its.toList
def SqT (K:YD) (H:Hp) (a:Addr) (xs:YG):Prop:=
 Rd H a (.tup xs) \/
  ∃(o:Obj) (its:Array Value) (n:Nat),K.lookup a=some o/\o.cls=.type "tuple"/\o.data=.seq its n/\its.size<=sizeLine/\Vals xs its.toList
def fD:Value->Option V
 | .none=>some .non
 | .bool b=>some (.bl b)
 | .int i _=>some (.int i)
 | .str x _=>some (.str x)
 | .bytes b _=>some (.byt b)
 | .float b _=>some (.flt b)
 | .ref a=>some (.ref a)
 | .type n=>some (.ty n)
 | _=>none
theorem RelV.abs {x:V} {u:Value} (r:RelV x u):fD u=some x:=by
 cases x with
 | non=>cases r;rfl
 | bl _=>cases r;rfl
 | int _=>obtain⟨t,rfl⟩:=r;rfl
 | str _=>obtain⟨t,rfl⟩:=r;rfl
 | byt _=>obtain⟨t,rfl⟩:=r;rfl
 | flt _=>obtain⟨t,rfl⟩:=r;rfl
 | ref _=>cases r;rfl
 | ty _=>cases r;rfl
theorem RelV.inj {x y:V} {u:Value} (r:RelV x u) (q:RelV y u):x=y:=Qby (r.abs.symm.trans q.abs)
theorem Vals.inj:∀{xs ys:YG} {us:YE},Vals xs us->Vals ys us->xs=ys
 | _,_,_,.nil,.nil=>rfl
 | _,_,_,.cons r t,.cons r' t'=>by rw[r.inj r',Vals.inj t t']
section
variable {X:Cx} {jb:YC} {O : St} {H:Hp} {s:Shared} {a:Addr} {xs ys:YG}
theorem SqL.of {K:YD} (h:H a=some (.lst xs)):SqL K H a xs:=.inl (.inl h)
theorem SqT.of {K:YD} (h:H a=some (.tup xs)):SqT K H a xs:=.inl (.inl h)
theorem Inv.list (I:Inv X jb O H s) (h:SqL X.K H a xs):∃its:YE,Vals xs its/\PlainL s.heap a its.toArray/\xs.length<=sizeLine:=by
 rcases h with h |⟨o,its,n,hk,hc,hd,hs,hz,r⟩
 ·obtain⟨z,its,n,r,e⟩:=h.ok I.hok;exact⟨its,r,⟨_,n,e,rq,rq,rq⟩,z⟩
 ·refine⟨its.toList,r,⟨o,n,I.kIn a o hk,hc,hd,by simpa using hs⟩,?_⟩;have e:=r.length;simp only[QaH] at e;omega
theorem Inv.tuple (I:Inv X jb O H s) (h:SqT X.K H a xs):∃its:YE,Vals xs its/\IsTup s.heap a its.toArray/\xs.length<=sizeLine:=by
 rcases h with h |⟨o,its,n,hk,hc,hs,hz,r⟩
 ·obtain⟨z,its,r,p⟩:=h.ok I.hok;exact⟨its,r,p,z⟩
 ·refine⟨its.toList,r,⟨o,I.kIn a o hk,hc,n,by simpa using hs⟩,?_⟩;have e:=r.length;simp only[QaH] at e;omega
theorem Inv.Qa (I:Inv X jb O H s) (h:SqL X.K H a xs) (h':SqL X.K H a ys):xs=ys:=by
 obtain⟨its,r,⟨o,n,e,_,_,d⟩,_⟩:=I.list h;obtain⟨its',r',⟨o',n',e',_,_,d'⟩,_⟩:=I.list h';rw[e] at e';cases e';rw[d] at d';injection d' with d1 _;have:its=its':=by simpa using congrArg Array.toList d1
 subst this;exact r.inj r'
theorem Inv.NP (I:Inv X jb O H s) (h:SqT X.K H a xs) (h':SqT X.K H a ys):xs=ys:=by
 obtain⟨its,r,⟨o,e,_,n,d⟩,_⟩:=I.tuple h;obtain⟨its',r',⟨o',e',_,n',d'⟩,_⟩:=I.tuple h';rw[e] at e';cases e';rw[d] at d';injection d' with d1 _;have:its=its':=by simpa using congrArg Array.toList d1
 subst this;exact r.inj r'
end
abbrev Cx.wish (X:Cx) (E:YA):Cx:={ X with xe:=E }
abbrev Cx.nox (X:Cx):Cx:=X.wish λ_ _=>False
theorem Cx.Ok.wish {X:Cx} (ok:X.Ok) (E:YA):(X.wish E).Ok:=
 ⟨ok.mod,ok.kind,ok.glob,ok.blt,ok.above,ok.inj,ok.has,ok.cab,ok.hd,ok.frames,ok.stk,ok.exf,ok.bs,ok.bsz,ok.Nb,ok.Lb,ok.Gi,ok.frf⟩
theorem Cx.Ok.Ek {X:Cx} {E:YA} (ok:(X.wish E).Ok):X.Ok:=
 ⟨ok.mod,ok.kind,ok.glob,ok.blt,ok.above,ok.inj,ok.has,ok.cab,ok.hd,ok.frames,ok.stk,ok.exf,ok.bs,ok.bsz,ok.Nb,ok.Lb,ok.Gi,ok.frf⟩
section
variable {X:Cx} {jb:YC} {O : St} {H:Hp} {s:Shared} {E:YA}
theorem Inv.wish (I:Inv X jb O H s) (E:YA):Inv (X.wish E) jb O H s:=⟨I.ok.wish E,I.os,I.bare,I.base,I.loc,I.cell,I.free,I.Ew,I.pin,I.hok,I.len⟩
theorem Inv.Ek (I:Inv (X.wish E) jb O H s):Inv X jb O H s:=⟨I.ok.Ek,I.os,I.bare,I.base,I.loc,I.cell,I.free,I.Ew,I.pin,I.hok,I.len⟩
theorem SP.Ek {D:Ends} {f:Flow} {s':Shared} (h:SP (X.wish E) jb D f s'):SP X jb D f s':=by
 cases f with
 | next=>obtain⟨σ',H',I,q⟩:=h;exact⟨σ',H',I.Ek,q⟩
 | brk=>obtain⟨σ',H',I,q⟩:=h;exact⟨σ',H',I.Ek,q⟩
 | cont=>obtain⟨σ',H',I,q⟩:=h;exact⟨σ',H',I.Ek,q⟩
 | ret u=>obtain⟨v,σ',H',I,r,q⟩:=h;exact⟨v,σ',H',I.Ek,r,q⟩
theorem PE.nox {e:Expr} {t:TE} (h:PE X.nox e t):PE X e t:=λjb s O H Q I hw=>
 Qcf (h jb s O H Q (I.wish _) hw) (λ_ _ ⟨v,H',I',r,q⟩=>⟨v,H',I'.Ek,r,q⟩) λ_ _ z=>False.elim z
theorem PT.nox {e:Expr} {t:TT} (h:PT X.nox e t):PT X e t:=λjb s O H Q I hw=>
 Qcf (h jb s O H Q (I.wish _) hw) (λ_ _ ⟨H',I',q⟩=>⟨H',I'.Ek,q⟩) λ_ _ z=>False.elim z
theorem PSs.nox {st:List Stmt} {t:TS} (h:PSs X.nox st t):PSs X st t:=λjb s O H D I hw=>
 Qcf (h jb s O H D (I.wish _) hw) (λ_ _ q=>q.Ek) λ_ _ z=>False.elim z
end
section
variable {X:Cx} {st:Stmt} {rest:List Stmt} {t u:TS} {e:Expr} {te:TE} {pos:Pos}
def Z2:TS:=λD O H=>D.nx O H
def Am (t u:TS):TS:=λD O H=>t { D with nx:=u D } O H
theorem BK:PSs X [] Z2:=λ_ _ O H _ I h=>wpAny_execs_nil ⟨O,H,I,h⟩
theorem Af (h1:PS X st t) (h2:PSs X rest u):PSs X (st::rest) (Am t u):=by
 intro jb s O H D I h;refine wpAny_execs_cons (thn (h1 jb s O H { D with nx:=u D } I h) λf s1 q=>?_);cases f with
 | next=>
  obtain⟨σ',H',I',q⟩:=q;exact h2 jb s1 σ' H' D I' q
 | ret v=>exact q
 | brk=>exact q
 | cont=>exact q
theorem Ai (h1:PS X st t):PSs X [st] t:=by
 intro jb s O H D I h;refine wpAny_execs_cons (thn (h1 jb s O H D I h) λf s1 q=>?_);cases f with
 | next=>exact wpAny_execs_nil q
 | ret v=>exact q
 | brk=>exact q
 | cont=>exact q
theorem Inv.quiet {jb:YC} {O : St} {H:Hp} {s:Shared} (I:Inv X jb O H s):interactive X.env=false:=by simp[interactive,I.ok.kind]
def Z4 (te:TE):TS:=λD O H=>te O H λ_ H1=>D.nx O H1
theorem CT (he:PE X e te) (hs:swapsWith e none pos.line X.env=pure false:=by rfl):PS X (.Expr e pos) (Z4 te):=by
 intro jb s O H D I h;refine wpAny_Expr_any (thn (he jb s O H _ I h) λv s1 zz=>?_) I.quiet hs;obtain⟨x,H1,I1,r1,q1⟩:=zz;exact⟨O,H1,I1,q1⟩
def bh (te:TE):TS:=λD O H=>te O H D.rt
theorem Bs (he:PE X e te):PS X (.Return (some e) pos) (bh te):=by
 intro jb s O H D I h;refine wpAny_Return_some (thn (he jb s O H _ I h) λv s1 zz=>?_);obtain⟨x,H1,I1,r1,q1⟩:=zz;exact⟨x,O,H1,I1,r1,q1⟩
def Dr (c:TT) (t u:TS):TS:=λD O H=>c O H λb H1=>if b=true then t D O H1 else u D O H1
theorem Cq {c:Expr} {a b:List Stmt} {tc:TT} (hc:PT X c tc) (ha:PSs X a t) (hb:PSs X b u):PS X (.If c a b pos) (Dr tc t u):=by
 intro jb s O H D I h;refine wpAny_If (thn (hc jb s O H _ I h) λd s1 zz=>?_);obtain⟨H1,I1,q1⟩:=zz;cases d with
 | true=>exact ha jb s1 O H1 D I1 q1
 | false=>exact hb jb s1 O H1 D I1 q1
end
abbrev TG:=V->St->Hp->(YO)->Prop
abbrev TGs:=YG->St->Hp->(YO)->Prop
def PG (X:Cx) (target:Expr) (t:TG):Prop:=
 ∀(jb:YC) (s:Shared) (O : St) (H:Hp) (v:V) (u:Value) (Q:YO),Inv X jb O H s->RelV v u->t v O H Q ->
  wpAny (model X.prog X.w) X.A (assign target X.env u) (λ_ s'=>∃ σ' H',Inv X jb σ' H' s'/\Q σ' H') X.xe s
def PGs (X:Cx) (ts:YJ) (t:TGs):Prop:=
 ∀(jb:YC) (s:Shared) (O : St) (H:Hp) (vs:YG) (us:YE) (Q:YO),Inv X jb O H s->Vals vs us->t vs O H Q ->
  wpAny (model X.prog X.w) X.A (assignInOrder ((assignEach ts X.env).map (·.2)) us) (λ_ s'=>∃ σ' H',Inv X jb σ' H' s'/\Q σ' H') X.xe s
abbrev WR:=V->V->V->Hp->(Hp->Prop)->Prop
def ZR (X:Cx) (t:WR):Prop:=
 ∀(jb:YC) (s:Shared) (O : St) (H:Hp) (o i v:V) (ov iv u:Value) (Q:Hp->Prop),Inv X jb O H s->RelV o ov->RelV i iv->RelV v u->t o i v H Q ->
  wpAny (model X.prog X.w) X.A (setItem ov iv u) (λ_ s'=>∃H',Inv X jb O H' s'/\Q H') X.xe s
section
variable {X:Cx} {pos:Pos}
def Oz (i:Nat):TG:=λv O H Q=>Q (O.set i (some v)) H
theorem Ah {i:Nat} {x:Str} (hN:X.N.Nodup) (hi:X.N[i]?=some x) (hx:Loc X.env.scope x) (hf:X.fn x=true\/X.env.scope.names.lookup x=some .local:=by first | exact .inl rfl | exact .inr rfl | assumption):PG X (.Name x pos) (Oz i):=by
 intro jb s O H v u Q I r h;exact wpAny_assign_Name (IK I hN hi hx r (λs' I'=>⟨_,H,I',h⟩) hf)
def dU:TGs:=λvs O H Q=>vs=[]/\Q O H
def aN (t:TG) (u:TGs):TGs:=λvs O H Q=>∃v r,vs=v::r/\t v O H fun σ' H'=>u r σ' H' Q
theorem Bu:PGs X [] dU:=by
 intro jb s O H vs us Q I r h;obtain⟨e,h⟩:=h;subst e;cases r;exact assignInOrder_nil ⟨O,H,I,h⟩
theorem Aj {e:Expr} {es:YJ} {t:TG} {u:TGs} (h1:PG X e t) (h2:PGs X es u)
  (hs:(assignEach (e::es) X.env).map (·.2)=assign e X.env::(assignEach es X.env).map (·.2):=by rfl):PGs X (e::es) (aN t u):=by
 intro jb s O H vs us Q I r h;obtain⟨v,vr,e1,h⟩:=h;subst e1;cases r with
 | cons r rr=>
  rw[hs];refine assignInOrder_cons (thn (h1 jb s O H _ _ _ I r h) λ_ s1 zz=>?_);obtain⟨σ1,H1,I1,q1⟩:=zz;exact h2 jb s1 σ1 H1 _ _ Q I1 rr q1
def ZG (K:YD) (n:Nat) (t:TGs):TG:=λv O H Q=>∃a xs,v=.ref a/\SqT K H a xs/\xs.length=n/\t xs O H Q
theorem Ck {es:YJ} {k:Nat} {t:TGs} {n:Nat} (hc:X.calm=true) (h:PGs X es t)
  (hn:(assignEach es X.env).length=n:=by rfl) (hst:(assignEach es X.env).findIdx? (·.1)=none:=by rfl):PG X (.Tuple es k pos) (ZG X.K n t):=by
 intro jb s O H v u Q I r hw;obtain⟨a,xs,e1,hq,hl,hw⟩:=hw;subst e1;cases r;obtain⟨its,rv,ht,hz⟩:=I.tuple hq;refine assign_Tuple_tuple (I.ok.hd hc) ht (by simp[hn,<-hl,rv.length]) hst λh' hx=>?_;have I1:Inv X jb O H { s with heap:=h' }:=I.kept (t':=s.toks) λb o e=>hx b o (QbS (QbR e)) e;exact h jb _ O H xs _ Q I1 (by simpa using rv) hw
def dR (to ti:TE) (t:WR):TG:=λv O H Q=>to O H λo H1=>ti O H1 λi H2=>t o i v H2 λH3=>Q O H3
theorem Px {o i:Expr} {to ti:TE} {t:WR} (ho:PE X o to) (hi:PE X i ti) (hs:ZR X t)
  (ha:∀v,assign (.Subscript o i pos) X.env v=(do
   let ov <-holding [v] (eval o X.env);let iv <-holding [v,ov] (eval i X.env)
   standAt pos
   holding [v,ov,iv] (setItem ov iv v)
   release [v,ov,iv] []):=by intro _;rfl):PG X (.Subscript o i pos) (dR to ti t):=by
 intro jb s O H v u Q I r h;rw[ha];refine Qcd (QbN (thn (ho jb s O H _ I h) λov s1 zz=>?_));obtain⟨x,H1,I1,r1,q1⟩:=zz;refine Qcd (QbN (thn (hi jb s1 O H1 _ I1 q1) λiv s2 zz=>?_));obtain⟨y,H2,I2,r2,q2⟩:=zz;refine Qcd (QbP (Qcd (QbN (thn (hs jb s2 O H2 x y v ov iv u _ I2 r1 r2 r q2) λ_ s3 zz=>?_))));obtain⟨H3,I3,q3⟩:=zz;exact wpAny_release ⟨O,H3,I3,q3⟩
def RV (te:TE) (g:TG):TS:=λD O H=>te O H λx H1=>g x O H1 D.nx
theorem Ez {tg e:Expr} {te:TE} {g:TG} (he:PE X e te) (hg:PG X tg g) (hs:swapsWithSole [tg] e pos.line X.env=pure false:=by rfl) (hw:swappedStores [tg] e X.env=pure none:=by rfl)
  (h1:(assignEach [tg] X.env).map (·.2)=[assign tg X.env]:=by rfl):PS X (.Assign [tg] e pos) (RV te g):=by
 intro jb s O H D I h;refine wpAny_Assign_stores (thn (he jb s O H _ I h) λv s1 zz=>?_) hs hw;obtain⟨x,H1,I1,r1,q1⟩:=zz;rw[h1];exact thn (hg jb s1 O H1 x v _ I1 r1 q1) λ_ s2 q=>q
theorem Av {i:Nat} {x:Str} {e:Expr} {te:TE} {pos':Pos} (hN:X.N.Nodup) (hi:X.N[i]?=some x) (hx:Loc X.env.scope x) (he:PE X e te) (hs:swapsWith e (some (.Name x pos')) pos.line X.env=pure false:=by rfl) (hf:X.fn x=true\/X.env.scope.names.lookup x=some .local:=by first | exact .inl rfl | exact .inr rfl | assumption) :
  PS X (.Assign [.Name x pos'] e pos) (RV te (Oz i)):=by
 intro jb s O H D I h;refine wpAny_Assign_Name (thn (he jb s O H _ I h) λv s1 zz=>?_) hs;obtain⟨y,H1,I1,r1,q1⟩:=zz;exact IK I1 hN hi hx r1 (λs2 I2=>⟨_,H1,I2,q1⟩) hf
end
section
variable {X:Cx} {pos:Pos}
end
structure It where
 go:Nat->Hp->Prop
 yld:Nat->Hp->V->Hp->Prop
 stop:Nat->Hp->Prop
def Er (X:Cx) (jb:YC) (H:Hp) (b:Addr):Prop:=
 H b=none/\b≠X.env.locals/\b∉X.fs/\(b∈X.ex\/X.s₀.heap.objs.size<=b)/\(∀x c,X.env.cells.lookup x=some c->c≠b)/\∀p∈X.pn++jb,p.1≠b
theorem Inv.Nq {X:Cx} {jb:YC} {O : St} {H H':Hp} {s:Shared} {b:Addr} (I:Inv X jb O H s) (hb:s.heap.objs.size<=b) (hn:H' b=none):Er X jb H' b:=by
 refine⟨hn,QbX (QaR I.lt hb),I.V7 hb,.inr (QbT I.sz hb),λx c e z=>?_,λp hp z=>?_⟩
 ·obtain⟨v,q⟩:=I.cell x c e;exact absurd (QaR q.lt (by rw[z];exact hb)) (QbO _)
 ·exact absurd (QaR (QbR (I.pin p hp).1) (by rw[z];exact hb)) (QbO _)
structure Turn (P:Program) (w:World) (K:YD) (tg:Expr) (J:It) (fp:List Addr) (it:Addr) (tn:Nat->Heap->Prop):Prop where
 mem:it∈fp
 obj:∀i h,tn i h->∀b∈fp,∃o,h.get? b=some o/\∀v,o.data≠.cell v
 keep:∀i h h',tn i h->(∀b∈fp,∀o,h.get? b=some o->h'.get? b=some o)->tn i h'
 item:∀(X:Cx),X.prog=P->X.w=w->X.K=K->X.calm=true->∀(i:Nat) (jb:YC) (s:Shared) (O : St) (H:Hp) (E:YA),Inv X jb O H s->(∀b∈fp,Er X jb H b)->tn i s.heap->J.go i H ->
  wpAny (model P w) X.A (pyNext (.ref it)) (λr s1=>∃u,r=some u /\
   wpAny (model P w) X.A (letOwnedTupleGo tg (.ref it) u) (λ_ s2=>∃x H',Inv X jb O H' s2/\RelV x u/\J.yld i H x H'/\tn (i+1) s2.heap/\∀b∈fp,H' b=none) E s1) E s
 done:∀(X:Cx),X.prog=P->X.w=w->X.K=K->X.calm=true->∀(i:Nat) (jb:YC) (s:Shared) (O : St) (H:Hp) (E:YA),Inv X jb O H s->(∀b∈fp,Er X jb H b)->tn i s.heap->J.stop i H ->
  wpAny (model P w) X.A (pyNext (.ref it)) (λr s1=>r=none/\Inv X jb O H s1) E s
 self:∀(A:Around) (i:Nat) (s:Shared) (Q:YA) (E:YA),tn i s.heap->Q (.ref it) s->wpAny (model P w) A (pyIter (.ref it)) Q E s
abbrev TI:=St->Hp->(It->Hp->Prop)->Prop
def PIE (X:Cx) (jb:YC) (O : St) (tg:Expr) (R:It->Hp->Prop) (itv:Value) (s2:Shared):Prop:=
 ∃(it:Addr) (fp:List Addr) (tn:Nat->Heap->Prop) (J:It) (H':Hp),itv=.ref it/\Inv X jb O H' s2/\Turn X.prog X.w X.K tg J fp it tn/\tn 0 s2.heap/\(∀b∈fp,Er X jb H' b)/\R J H'
def PI (X:Cx) (tg iter:Expr) (wi:TI):Prop:=
 ∀(jb:YC) (s:Shared) (O : St) (H:Hp) (R:It->Hp->Prop),Inv X jb O H s->wi O H R ->
  wpAny (model X.prog X.w) X.A (eval iter X.env) (λv s1=>wpAny (model X.prog X.w) X.A (pyIter v) (PIE X jb O tg R) X.xe s1) X.xe s
theorem Ox {M:Model} {A:Around} {E:YA} {s:Shared} {tg:Expr} {it:Addr} {u:Value} {o:Obj} {n:String} {vs:Array Value} {Q:YH} (ho:s.heap.get? it=some o) (hc:o.cls=.type n) (hd:o.data=.fields vs)
    (hn:["enumerate","zip","dict_itemiterator","dict_reverseitemiterator","odict_iterator","itertools.zip_longest","itertools.pairwise"].contains n=false) (hQ:Q () s):wpAny M A (letOwnedTupleGo tg (.ref it) u) Q E s:=by
  unfold letOwnedTupleGo;cases tg <;> first
    | exact Qce hQ
    | (cases u <;> first
        | exact Qce hQ
        | (refine Qcd (wpAny_load ho ?_)
           rw[hc,hd];show wpAny M A (if (["enumerate","zip","dict_itemiterator","dict_reverseitemiterator","odict_iterator","itertools.zip_longest","itertools.pairwise"].contains n&&vs[0]? == some (rawInt _))=true then _ else _) Q E s
           rw[if_neg (by intro h;rw[hn,Bool.false_and] at h;cases h)];exact Qce hQ))
def Itl (K:YD) (a:Addr):It:=
 ⟨λi H=>∃xs x,SqL K H a xs/\xs[i]?=some x,λi H x H'=>H'=H/\∀xs,SqL K H a xs->xs[i]?=some x,λi H=>∃xs,SqL K H a xs/\xs.length<=i⟩
def Itt (K:YD) (a:Addr):It:=
 ⟨λi H=>∃xs x,SqT K H a xs/\xs[i]?=some x,λi H x H'=>H'=H/\∀xs,SqT K H a xs->xs[i]?=some x,λi H=>∃xs,SqT K H a xs/\xs.length<=i⟩
def Itr (lo:Int) (n:Nat):It:=⟨λi _=>i < n,λi H x H'=>H'=H/\x=.int (lo+i),λi _=>n<=i⟩
theorem T4 {P:Program} {w:World} {K:YD} {tg:Expr} (a it:Addr):Turn P w K tg (Itl K a) [it] it (λi h=>h.IsListIter it a i) where
 mem:=by simp
 obj:=λi h st b hb=>by
  have e:b=it:=by simpa using hb
  subst e;obtain⟨o,e,c,d⟩:=st;exact⟨o,e,λv z=>by rw[d] at z;cases z⟩
 keep:=λi h h' st k=>st.at λo e=>k it (by simp) o e
 item:=by
  intro X hP hw hK hc i jb s O H E I hf st hg;subst hP hw hK;obtain⟨xs,x,hq,hx⟩:=hg;obtain⟨its,rv,p,hz⟩:=I.list hq;obtain⟨u,hu,ru⟩:=rv.get hx;obtain⟨f0,f1,f2,f3,f4,f5⟩:=hf it (by simp);refine wpAny_pyNext_list_item st p.isList (x:=u) (by simpa using hu) λh' st' sb=>?_;have I1:Inv X jb O H { s with heap:=h' }:=I.turned (t':=s.toks) (λb o hb e=>(sb.2 b hb).trans e) f0 f1 f3 f4 f5;obtain⟨o,e,c,d⟩:=id st';exact⟨u,rq,Ox (s:={ s with heap:=h' }) e c d (by decide) ⟨x,H,I1,ru,⟨rq,λys hy=>by rw[I.Qa hy hq];exact hx⟩,st',λb hb=>(hf b hb).1⟩⟩
 done:=by
  intro X hP hw hK hc i jb s O H E I hf st hg;subst hP hw hK;obtain⟨xs,hq,hx⟩:=hg;obtain⟨its,rv,p,hz⟩:=I.list hq;obtain⟨f0,f1,f2,f3,f4,f5⟩:=hf it (by simp);have hl:=rv.length;exact wpAny_pyNext_list_end (I.ok.hd hc) st p.isList (by simp;omega) λh' eb=>⟨rq,I.turned (t':=s.toks) (λb o hb e=>eb b o hb e) f0 f1 f3 f4 f5⟩
 self:=λ_ _ _ _ _ st h=>wpAny_pyIter_listiter st h
theorem RK {P:Program} {w:World} {K:YD} {tg:Expr} (a it:Addr):Turn P w K tg (Itt K a) [it] it (λi h=>h.IsTupleIter it a i) where
 mem:=by simp
 obj:=λi h st b hb=>by
  have e:b=it:=by simpa using hb
  subst e;obtain⟨o,e,c,d⟩:=st;exact⟨o,e,λv z=>by rw[d] at z;cases z⟩
 keep:=λi h h' st k=>st.at λo e=>k it (by simp) o e
 item:=by
  intro X hP hw hK hc i jb s O H E I hf st hg;subst hP hw hK;obtain⟨xs,x,hq,hx⟩:=hg;obtain⟨its,rv,p,hz⟩:=I.tuple hq;obtain⟨u,hu,ru⟩:=rv.get hx;obtain⟨f0,f1,f2,f3,f4,f5⟩:=hf it (by simp);refine wpAny_pyNext_tuple_item st (show s.heap.IsTuple a its.toArray from p) (x:=u) (by simpa using hu) λh' st' sb=>?_
  have I1:Inv X jb O H { s with heap:=h' }:=I.turned (t':=s.toks) (λb o hb e=>(sb.2 b hb).trans e) f0 f1 f3 f4 f5;obtain⟨o,e,c,d⟩:=id st';exact⟨u,rq,Ox (s:={ s with heap:=h' }) e c d (by decide) ⟨x,H,I1,ru,⟨rq,λys hy=>by rw[I.NP hy hq];exact hx⟩,st',λb hb=>(hf b hb).1⟩⟩
 done:=by
  intro X hP hw hK hc i jb s O H E I hf st hg;subst hP hw hK;obtain⟨xs,hq,hx⟩:=hg;obtain⟨its,rv,p,hz⟩:=I.tuple hq;obtain⟨f0,f1,f2,f3,f4,f5⟩:=hf it (by simp);have hl:=rv.length;exact wpAny_pyNext_tuple_end (I.ok.hd hc) st (show s.heap.IsTuple a its.toArray from p) (by simp;omega) λh' eb=>⟨rq,I.turned (t':=s.toks) (λb o hb e=>eb b o hb e) f0 f1 f3 f4 f5⟩
 self:=λ_ _ _ _ _ st h=>wpAny_pyIter_tupleiter st h
theorem RM {P:Program} {w:World} {K:YD} {tg:Expr} (it:Addr) (lo:Int) (n:Nat):Turn P w K tg (Itr lo n) [it] it (λi h=>IsRangeIter h it (lo+(i:Nat)*1) ((n:Int) - (i:Nat)) 1) where
 mem:=by simp
 obj:=λi h st b hb=>by
  have e:b=it:=by simpa using hb
  subst e;exact⟨_,st,λv z=>by
   have z':Data.fields _=Data.cell v:=z;cases z'⟩
 keep:=λi h h' st k=>k it (by simp) _ st
 item:=by
  intro X hP hw hK hc i jb s O H E I hf st hg;subst hP hw hK;obtain⟨f0,f1,f2,f3,f4,f5⟩:=hf it (by simp);have W:=Walks.range (prog:=X.prog) (w:=X.w) (I.ok.hd hc) it lo 1 n;refine W.item i s _ _ hg st λv h' tk hv st' kk=>?_;obtain⟨t,rfl⟩:=hv;have I1:Inv X jb O H { s with heap:=h',toks:=tk }:=I.turned (λb o hb e=>kk b o (by simpa using hb) e) f0 f1 f3 f4 f5;refine⟨_,rq,Ox (s:={ s with heap:=h',toks:=tk }) (n:="range_iterator") st' rfl rfl (by decide) ⟨.int (lo+i),H,I1,⟨t,?_⟩,⟨rq,rq⟩,st',λb hb=>(hf b hb).1⟩⟩;rw[Int.mul_one]
 done:=by
  intro X hP hw hK hc i jb s O H E I hf st hg;subst hP hw hK;obtain⟨f0,f1,f2,f3,f4,f5⟩:=hf it (by simp);exact wpAny_pyNext_range_end (I.ok.hd hc) st (by have:n<=i:=hg;omega) λh' eb=>⟨rq,I.turned (t':=s.toks) (λb o hb e=>eb b o hb e) f0 f1 f3 f4 f5⟩
 self:=λ_ _ _ _ _ st h=>wpAny_pyIter_rangeiter st h
section
variable {X:Cx} {tg:Expr}
def aK (K:YD) (tl:TE):TI:=fun O H R=>tl O H λx H1=>∃a,x=.ref a/\(∃xs,SqL K H1 a xs)/\R (Itl K a) H1
def cN (K:YD) (tl:TE):TI:=fun O H R=>tl O H λx H1=>∃a,x=.ref a/\(∃xs,SqT K H1 a xs)/\R (Itt K a) H1
theorem Eh {l:Expr} {tl:TE} (hl:PE X l tl):PI X tg l (aK X.K tl):=by
 intro jb s O H R I h;refine thn (hl jb s O H _ I h) λv s1 zz=>?_;obtain⟨x,H1,I1,r1,q1⟩:=zz;obtain⟨a,e,⟨xs,hq⟩,q⟩:=q1;subst e;cases r1;obtain⟨its,rv,p,hz⟩:=I1.list hq;refine wpAny_pyIter_list p.isList ?_;refine⟨s1.heap.objs.size,[s1.heap.objs.size],_,_,H1,rq,I1.kept (t':=s1.toks) λb o e=>Qas _ e,T4 a _,⟨_,QaG _ rfl,rq,rq⟩,λb hb=>?_,q⟩;have e:b=s1.heap.objs.size:=by simpa using hb
 subst e;exact I1.Nq (QbZ _) (I1.hok.fresh (QbZ _))
theorem DW {l:Expr} {tl:TE} (hl:PE X l tl):PI X tg l (cN X.K tl):=by
 intro jb s O H R I h;refine thn (hl jb s O H _ I h) λv s1 zz=>?_;obtain⟨x,H1,I1,r1,q1⟩:=zz;obtain⟨a,e,⟨xs,hq⟩,q⟩:=q1;subst e;cases r1;obtain⟨its,rv,p,hz⟩:=I1.tuple hq;refine QaV (show s1.heap.IsTuple a its.toArray from p) ?_
 refine⟨s1.heap.objs.size,[s1.heap.objs.size],_,_,H1,rq,I1.kept (t':=s1.toks) λb o e=>Qas _ e,RK a _,⟨_,QaG _ rfl,rq,rq⟩,λb hb=>?_,q⟩;have e:b=s1.heap.objs.size:=by simpa using hb
 subst e;exact I1.Nq (QbZ _) (I1.hok.fresh (QbZ _))
theorem VD {jb:YC} {O : St} {H:Hp} {s:Shared} {R:It->Hp->Prop} {E:YA} {lo hi:Int} {t u v:Tok} {tk:Nat} (I:Inv X jb O H s) (h1:-(2 ^ 62)<=lo) (h2:lo < 2 ^ 62) (h3:-(2 ^ 62)<=hi) (h4:hi < 2 ^ 62)
  (q:R (Itr lo (hi - lo).toNat) H):wpAny (model X.prog X.w) X.A (pyIter (.ref s.heap.objs.size)) (PIE X jb O tg R) E { s with heap:=s.heap.push { cls:=.type "range",data:=.fields #[.int lo t,.int hi u,.int 1 v] },toks:=tk }:=by
 refine wpAny_pyIter_range (IsRange.new ..) (small_one h1 h2 h3 h4) ?_;have I1:Inv X jb O H { s with heap:=s.heap.push { cls:=.type "range",data:=.fields #[.int lo t,.int hi u,.int 1 v] },toks:=tk }:=I.kept λb o e=>Qas _ e;refine⟨(s.heap.push { cls:=.type "range",data:=.fields #[.int lo t,.int hi u,.int 1 v] }).objs.size,[(s.heap.push { cls:=.type "range",data:=.fields #[.int lo t,.int hi u,.int 1 v] }).objs.size],_,_,H,rq,
  I1.kept (t':=tk) λb o e=>Qas _ e,RM _ lo (hi - lo).toNat,?_,λb hb=>?_,q⟩
 ·have e1:lo+((0:Nat):Int)*1=lo:=by simp
  have e2:(((hi - lo).toNat:Nat):Int) - ((0:Nat):Int)=Builtin.Range.rangeSize lo hi 1:=by rw[rangeSize_one];split <;> omega
  show IsRangeIter _ _ (lo+((0:Nat):Int)*1) ((((hi - lo).toNat:Nat):Int) - ((0:Nat):Int)) 1;rw[e1,e2];exact QaG _ rfl
 ·have e:b=(s.heap.push { cls:=.type "range",data:=.fields #[.int lo t,.int hi u,.int 1 v] }).objs.size:=by simpa using hb
  subst e;exact I1.Nq (QbZ _) (I1.hok.fresh (QbZ _))
def aJ (ta:TA):TI:=fun O H R=>ta O H λvs H1=>∃j:Int,vs=[.int j]/\-(2 ^ 62)<=j/\j < 2 ^ 62/\R (Itr 0 j.toNat) H1
theorem BR {a:Expr} {ta:TA} {p pos:Pos} (hg:Gl X "range") (hm:X.mg "range"=none) (ha:PA X [a] ta) (hs:starEach [a] X.env=[(false,eval a X.env)]:=by rfl):PI X tg (.Call (.Name "range" p) [a] [] pos) (aJ ta):=by
 intro jb s O H R I h;refine Call_ (Gx I hg hm boot_range (Qac (thn (ha pos jb s O H _ I h) λus s1 zz=>?_) hs rfl));obtain⟨vs,H1,I1,r1,q1⟩:=zz;obtain⟨j,e,q1,q2,q⟩:=q1;subst e;cases r1 with
 | cons r rr=>
  cases rr;obtain⟨t,rfl⟩:=r;exact call_range_1 (VD I1 (by omega) (by omega) q1 q2 (by simpa using q))
abbrev YN:=Nat->YO
def Cd (wi:TI) (g:TG) (tb:TS):TS:=λD O H=>wi O H λJ H1=>∃W:Nat->YN,(∃m,W 0 m O H1)/\∀i m O H,W i m O H ->
 (J.stop i H/\D.nx O H)\/(J.go i H/\∃N:YO,(∀ σ' H',N σ' H'->∃m',m' < m/\W (i+1) m' σ' H')/\∀x H',J.yld i H x H'->g x O H' fun σ2 H2=>tb { D with nx:=N,ct:=N,bk:=D.nx } σ2 H2)
def Ig (fp:List Addr) (h:Heap):YC:=fp.filterMap λb=>(h.get? b).map λo=>(b,o)
theorem GP {fp:List Addr} {h:Heap} {b:Addr} {o:Obj} (hb:b∈fp) (e:h.get? b=some o):(b,o)∈Ig fp h:=List.mem_filterMap.mpr ⟨b,hb,by rw[e];rfl⟩
theorem Ux {fp:List Addr} {h:Heap} {p:Addr×Obj} (hp:p∈Ig fp h):p.1∈fp/\h.get? p.1=some p.2:=by
 obtain⟨b,hb,e⟩:=List.mem_filterMap.mp hp;cases q:h.get? b with
 | none=>rw[q] at e;cases e
 | some o=>
  rw[q] at e;have e':(b,o)=p:=Qby e;subst e';exact⟨hb,q⟩
theorem Inv.pinned {jb:YC} {O : St} {H:Hp} {s:Shared} {fp:List Addr} (I:Inv X jb O H s) (hf:∀b∈fp,Er X jb H b) (ho:∀b∈fp,∃o,s.heap.get? b=some o/\∀v,o.data≠.cell v):Inv X (jb++Ig fp s.heap) O H s:=
 I.Ka λp hp=>(Qbu.mp hp).elim (λz=>I.pin p (Qav _ z)) λz=>by
  obtain⟨hb,e⟩:=Ux z;obtain⟨f0,f1,f2,_⟩:=hf p.1 hb;obtain⟨o,e',d⟩:=ho p.1 hb;rw[e] at e';cases e';exact⟨e,f0,f1,f2,d⟩
theorem Inv.Fi {jb pl:YC} {O : St} {H:Hp} {s:Shared} (I:Inv X (jb++pl) O H s):Inv X jb O H s:=I.Ka λp hp=>I.pin p (Qav _ (QaD _ hp))
theorem Bo {iter:Expr} {body:List Stmt} {wi:TI} {g:TG} {tb:TS} {pos:Pos} (hp:PassesOwn (model X.prog X.w) X.A X.env X.xe) (hc:X.calm=true) (hi:PI X tg iter wi) (hg:PG X tg g) (hb:PSs X body tb)
  (hs:∀x,foldedSetIterable iter X.env x=pure x:=by intro _;rfl):PS X (.For tg iter body [] pos) (Cd wi g tb):=by
 intro jb s O H D I h;refine wpAny_For (thn (hi jb s O H _ I h) λv s1 h1=>thn h1 λitv s2 h2=>?_) hs;obtain⟨it,fp,tn,J,H2,e,I2,T,st2,f2,W,⟨m0,w0⟩,turn⟩:=h2;subst e;have stat:∀{H':Hp},(∀b∈fp,H' b=none)->∀b∈fp,Er X jb H' b:=λhn b hb=>⟨hn b hb,(f2 b hb).2⟩;refine codeAny_forLoop_any (λn s'=>∃i σ' H',Inv X jb σ' H' s'/\tn i s'.heap/\(∀b∈fp,H' b=none)/\W i n σ' H') ?_ m0 ⟨0,O,H2,I2,st2,λb hb=>(f2 b hb).1,w0⟩;rintro n s3 ⟨i,σ3,H3,I3,st3,fr3,w3⟩;rcases turn i n σ3 H3 w3 with⟨stop,qn⟩|⟨go,N,hN,step⟩
 ·refine wpAny_passesOwn hp (thn (T.done X rfl rfl rfl hc i jb s3 σ3 H3 X.xe I3 (stat fr3) st3 stop) λr s4 zz=>?_);obtain⟨hr,I4⟩:=zz;subst hr;exact wpAny_execs_nil ⟨σ3,H3,I4,qn⟩
 ·refine wpAny_passesOwn hp (thn (T.item X rfl rfl rfl hc i jb s3 σ3 H3 X.xe I3 (stat fr3) st3 go) λr s4 zz=>?_);obtain⟨u,hr,h4⟩:=zz;subst hr;refine wpAny_passesOwn hp (thn h4 λ_ s5 zz=>?_);obtain⟨x,H5,I5,r5,y5,st5,fr5⟩:=zz;have I5':=I5.pinned (stat fr5) (T.obj _ _ st5);refine wpAny_passesOwn hp (thn (hg _ s5 σ3 H5 x u _ I5' r5 (step x H5 y5)) λ_ s6 zz=>?_);obtain⟨σ6,H6,I6,q6⟩:=zz;refine wpAny_passesOwn hp (thn (hb _ s6 σ6 H6 _ I6 q6) λf s7 q7=>?_);have again:∀{σ7:St} {H7:Hp},Inv X (jb++Ig fp s5.heap) σ7 H7 s7->N σ7 H7->∃m,m < n/\∃i σ' H',Inv X jb σ' H' s7/\tn i s7.heap/\(∀b∈fp,H' b=none)/\W i m σ' H':=λ{σ7 H7} I7 n7=>by
   obtain⟨m',hm,w7⟩:=hN σ7 H7 n7;refine⟨m',hm,i+1,σ7,H7,I7.Fi,T.keep _ _ _ st5 λb hb o e=>(I7.pin (b,o) (Qav _ (Qav _ (GP hb e)))).1,λb hb=>?_,w7⟩;obtain⟨o,e,d⟩:=T.obj _ _ st5 b hb;exact (I7.pin (b,o) (Qav _ (Qav _ (GP hb e)))).2.1
  cases f with
  | next=>obtain⟨σ7,H7,I7,n7⟩:=q7;exact again I7 n7
  | cont=>obtain⟨σ7,H7,I7,n7⟩:=q7;exact again I7 n7
  | brk=>obtain⟨σ7,H7,I7,q7⟩:=q7;exact⟨σ7,H7,I7.Fi,q7⟩
  | ret v=>obtain⟨x7,σ7,H7,I7,r7,q7⟩:=q7;exact⟨x7,σ7,H7,I7.Fi,r7,q7⟩
end
theorem La {K:YD} {a:Addr} {xs:YG} {g:TG} {tb:TS} {D:Ends} {O : St} {H:Hp} (Pv:YN) (h0:Pv 0 O H) (hl:∀i O H,i<=xs.length->Pv i O H->SqL K H a xs)
  (hs:∀i x O H,xs[i]?=some x->Pv i O H->g x O H fun σ2 H2=>tb { D with nx:=Pv (i+1),ct:=Pv (i+1),bk:=D.nx } σ2 H2) (hd:∀ O H,Pv xs.length O H->D.nx O H) :
  ∃W:Nat->YN,(∃m,W 0 m O H)/\∀i m O H,W i m O H ->
   ((Itl K a).stop i H/\D.nx O H)\/((Itl K a).go i H/\∃N:YO,(∀ σ' H',N σ' H'->∃m',m' < m/\W (i+1) m' σ' H')/\∀x H',(Itl K a).yld i H x H'->g x O H' fun σ2 H2=>tb { D with nx:=N,ct:=N,bk:=D.nx } σ2 H2):=by
 refine⟨λi m O H=>m=xs.length - i/\i<=xs.length/\Pv i O H,⟨xs.length,by simp,Qca _,h0⟩,?_⟩;rintro i m O H ⟨rfl,hi,p⟩;have q:=hl i O H hi p;by_cases hlt:i < xs.length
 ·refine .inr ⟨⟨xs,xs[i],q,by simp[hlt]⟩,Pv (i+1),fun σ' H' p'=>⟨xs.length - (i+1),by omega,rq,hlt,p'⟩,λx H' y=>?_⟩;obtain⟨e,y⟩:=y;subst e;exact hs i x O _ (y xs q) p
 ·have e:i=xs.length:=by omega
  subst e;exact .inl ⟨⟨xs,q,QbZ _⟩,hd O H p⟩
theorem Dv {K:YD} {a:Addr} {xs:YG} {g:TG} {tb:TS} {D:Ends} {O : St} {H:Hp} (Pv:YN) (h0:Pv 0 O H) (hl:∀i O H,i<=xs.length->Pv i O H->SqT K H a xs)
  (hs:∀i x O H,xs[i]?=some x->Pv i O H->g x O H fun σ2 H2=>tb { D with nx:=Pv (i+1),ct:=Pv (i+1),bk:=D.nx } σ2 H2) (hd:∀ O H,Pv xs.length O H->D.nx O H) :
  ∃W:Nat->YN,(∃m,W 0 m O H)/\∀i m O H,W i m O H ->
   ((Itt K a).stop i H/\D.nx O H)\/((Itt K a).go i H/\∃N:YO,(∀ σ' H',N σ' H'->∃m',m' < m/\W (i+1) m' σ' H')/\∀x H',(Itt K a).yld i H x H'->g x O H' fun σ2 H2=>tb { D with nx:=N,ct:=N,bk:=D.nx } σ2 H2):=by
 refine⟨λi m O H=>m=xs.length - i/\i<=xs.length/\Pv i O H,⟨xs.length,by simp,Qca _,h0⟩,?_⟩;rintro i m O H ⟨rfl,hi,p⟩;have q:=hl i O H hi p;by_cases hlt:i < xs.length
 ·refine .inr ⟨⟨xs,xs[i],q,by simp[hlt]⟩,Pv (i+1),fun σ' H' p'=>⟨xs.length - (i+1),by omega,rq,hlt,p'⟩,λx H' y=>?_⟩;obtain⟨e,y⟩:=y;subst e;exact hs i x O _ (y xs q) p
 ·have e:i=xs.length:=by omega
  subst e;exact .inl ⟨⟨xs,q,QbZ _⟩,hd O H p⟩
theorem Cj {lo:Int} {n:Nat} {g:TG} {tb:TS} {D:Ends} {O : St} {H:Hp} (Pv:YN) (h0:Pv 0 O H)
  (hs:∀i O H,i < n->Pv i O H->g (.int (lo+i)) O H fun σ2 H2=>tb { D with nx:=Pv (i+1),ct:=Pv (i+1),bk:=D.nx } σ2 H2) (hd:∀ O H,Pv n O H->D.nx O H) :
  ∃W:Nat->YN,(∃m,W 0 m O H)/\∀i m O H,W i m O H ->
   ((Itr lo n).stop i H/\D.nx O H)\/((Itr lo n).go i H/\∃N:YO,(∀ σ' H',N σ' H'->∃m',m' < m/\W (i+1) m' σ' H')/\∀x H',(Itr lo n).yld i H x H'->g x O H' fun σ2 H2=>tb { D with nx:=N,ct:=N,bk:=D.nx } σ2 H2):=by
 refine⟨λi m O H=>m=n - i/\i<=n/\Pv i O H,⟨n,by simp,Qca _,h0⟩,?_⟩;rintro i m O H ⟨rfl,hi,p⟩;by_cases hlt:i < n
 ·refine .inr ⟨hlt,Pv (i+1),fun σ' H' p'=>⟨n - (i+1),by omega,rq,hlt,p'⟩,λx H' y=>?_⟩;obtain⟨e,y⟩:=y;subst e y;exact hs i O _ hlt p
 ·have e:i=n:=by omega
  subst e;exact .inl ⟨QbZ _,hd O H p⟩
abbrev R2:=V->V->Hp->VK->Prop
def OpR (X:Cx) (f:Value->Value->Sem Value) (r:R2):Prop:=
 ∀(jb:YC) (s:Shared) (O : St) (H:Hp) (x y:V) (v u:Value) (Q:VK),Inv X jb O H s->RelV x v->RelV y u->r x y H Q ->
  wpAny (model X.prog X.w) X.A (f v u) (EP X jb O Q) X.xe s
def UnR (X:Cx) (f:Value->Sem Value) (r:V->Hp->VK->Prop):Prop:=
 ∀(jb:YC) (s:Shared) (O : St) (H:Hp) (x:V) (v:Value) (Q:VK),Inv X jb O H s->RelV x v->r x H Q ->
  wpAny (model X.prog X.w) X.A (f v) (EP X jb O Q) X.xe s
def Fe (X:Cx) (f:Value) (r:YG->Hp->VK->Prop):Prop:=
 ∀(jb:YC) (s:Shared) (O : St) (H:Hp) (xs:YG) (us:YE) (Q:VK),Inv X jb O H s->Vals xs us->r xs H Q ->
  wpAny (model X.prog X.w) X.A (call f us) (EP X jb O Q) X.xe s
def fG (X:Cx) (r:V->Hp->(Bool->Hp->Prop)->Prop):Prop:=
 ∀(jb:YC) (s:Shared) (O : St) (H:Hp) (x:V) (v:Value) (Q:Bool->Hp->Prop),Inv X jb O H s->RelV x v->r x H Q ->
  wpAny (model X.prog X.w) X.A (truthy v) (TP X jb O Q) X.xe s
def tOp (r:R2) (ta tb:TE):TE:=fun O H Q=>ta O H λx H1=>tb O H1 λy H2=>r x y H2 Q
def tUn (r:V->Hp->VK->Prop) (ta:TE):TE:=fun O H Q=>ta O H λx H1=>r x H1 Q
def rI (C:Int->Int->Prop) (g:Int->Int->V):R2:=λx y H Q=>∃i j,x=.int i/\y=.int j/\C i j/\Q (g i j) H
def rI0 (g:Int->Int->V):R2:=λx y H Q=>∃i j,x=.int i/\y=.int j/\Q (g i j) H
def rU (g:Int->V):V->Hp->VK->Prop:=λx H Q=>∃i,x=.int i/\Q (g i) H
section
variable {X:Cx} {a b c:Expr} {ta tb tc:TE} {pos:Pos}
theorem WM (ha:PE X a ta) (hb:PE X b tb) {jb:YC} {s:Shared} {O : St} {H:Hp} {R:V->V->Hp->Prop} (I:Inv X jb O H s)
  (h:ta O H λx H1=>tb O H1 λy H2=>R x y H2) {Q:YA} {f:Value->Value->Sem Value}
  (hf:∀v u s2 x y H2,Inv X jb O H2 s2->RelV x v->RelV y u->R x y H2->wpAny (model X.prog X.w) X.A (f v u) Q X.xe s2) :
  wpAny (model X.prog X.w) X.A (eval a X.env) (λv s₁=>wpAny (model X.prog X.w) X.A (eval b X.env) (λu s₂=>wpAny (model X.prog X.w) X.A (f v u) Q X.xe s₂) X.xe s₁) X.xe s:=by
 refine thn (ha jb s O H _ I h) λv s1 zz=>?_;obtain⟨x,H1,I1,r1,q1⟩:=zz;refine thn (hb jb s1 O H1 _ I1 q1) λu s2 zz=>?_;obtain⟨y,H2,I2,r2,q2⟩:=zz;exact hf v u s2 x y H2 I2 r1 r2 q2
theorem Aq {op:Operator} {r:R2} (ho:OpR X (binaryOp op) r) (ha:PE X a ta) (hb:PE X b tb):PE X (.BinOp a op b pos) (tOp r ta tb):=by
 intro jb s O H Q I h;exact wpAny_BinOp (WM ha hb I h λv u s2 x y H2 I2 rx ry q=>ho jb s2 O H2 x y v u Q I2 rx ry q)
theorem Sw {op:UnaryOp} {r:V->Hp->VK->Prop} (ho:UnR X (unaryOp op) r) (ha:PE X a ta):PE X (.UnaryOp op a pos) (tUn r ta):=by
 intro jb s O H Q I h;refine UnaryOp_ (thn (ha jb s O H _ I h) λv s1 zz=>?_);obtain⟨x,H1,I1,r1,q1⟩:=zz;exact ho jb s1 O H1 x v Q I1 r1 q1
theorem opI {f:Value->Value->Sem Value} {C:Int->Int->Prop} {g:Int->Int->Int}
  (rule:∀(i j:Int) (t u:Tok) (s:Shared) (Q:YA) (E:YA),C i j->Q (.int (g i j) s.toks) { s with toks:=s.toks+1 }->wpAny (model X.prog X.w) X.A (f (.int i t) (.int j u)) Q E s) :
  OpR X f (rI C λi j=>.int (g i j)):=by
 intro jb s O H x y v u Q I rx ry h;obtain⟨i,j,rfl,rfl,hc,q⟩:=h;obtain⟨t,rfl⟩:=rx;obtain⟨t',rfl⟩:=ry;exact rule i j t t' s _ _ hc ⟨.int (g i j),H,I.tok _,⟨_,rq⟩,q⟩
theorem Y7 {f:Value->Value->Sem Value} {g:Int->Int->Int}
  (rule:∀(i j:Int) (t u:Tok) (s:Shared) (Q:YA) (E:YA),Q (.int (g i j) s.toks) { s with toks:=s.toks+1 }->wpAny (model X.prog X.w) X.A (f (.int i t) (.int j u)) Q E s) :
  OpR X f (rI0 λi j=>.int (g i j)):=by
 intro jb s O H x y v u Q I rx ry h;obtain⟨i,j,rfl,rfl,q⟩:=h;obtain⟨t,rfl⟩:=rx;obtain⟨t',rfl⟩:=ry;exact rule i j t t' s _ _ ⟨.int (g i j),H,I.tok _,⟨_,rq⟩,q⟩
theorem VR {f:Value->Value->Sem Value} {g:Int->Int->Bool}
  (rule:∀(i j:Int) (t u:Tok) (s:Shared) (Q:YA) (E:YA),Q (.bool (g i j)) s->wpAny (model X.prog X.w) X.A (f (.int i t) (.int j u)) Q E s) :
  OpR X f (rI0 λi j=>.bl (g i j)):=by
 intro jb s O H x y v u Q I rx ry h;obtain⟨i,j,rfl,rfl,q⟩:=h;obtain⟨t,rfl⟩:=rx;obtain⟨t',rfl⟩:=ry;exact rule i j t t' s _ _ ⟨.bl (g i j),H,I,rq,q⟩
def fJ (i j:Int):Prop:=0 < j/\j < 1073741824
def fH (i j:Int):Prop:=0<=j/\j<=1000000/\i.natAbs < 2 ^ 64
def TF (i j:Int):Prop:=(-(2 ^ 64) < i/\i < 2 ^ 64)\/(-(2 ^ 64) < j/\j < 2 ^ 64)
theorem TF.ok {i j:Int} (h:TF i j):IntMulOk i j:=by
 rcases h with⟨h1,h2⟩|⟨h1,h2⟩
 ·exact .of_left (intBits_le_64 h1 h2)
 ·exact .of_right (intBits_le_64 h1 h2)
theorem BW:OpR X (binaryOp .Add) (rI0 λi j=>.int (i+j)):=Y7 λ_ _ _ _ _ _ _ q=>add_int q
theorem Ly:OpR X (binaryOp .Sub) (rI0 λi j=>.int (i - j)):=Y7 λ_ _ _ _ _ _ _ q=>sub_int q
theorem En:OpR X (binaryOp .Mult) (rI TF λi j=>.int (i*j)):=opI λ_ _ _ _ _ _ _ hc q=>mul_int q hc.ok
theorem M8:OpR X (binaryOp .FloorDiv) (rI fJ λi j=>.int (i / j)):=opI λi j _ _ _ _ _ hc q=>by
 have h1:(0:Int) < j:=hc.1;have h2:j < 1073741824:=hc.2;exact floordiv_int (by omega) (by rw[Int.fdiv_eq_ediv_of_nonneg i (by omega)];exact q) (.inl (PyProof.noPylong_small (by omega)))
theorem Gv:OpR X (binaryOp .Mod) (rI (λ_ j=>0 < j) λi j=>.int (i % j)):=opI λi j _ _ _ _ _ hc q=>by
 have h1:(0:Int) < j:=hc;exact mod_int' (by omega) (by rw[Int.fmod_eq_emod_of_nonneg i (by omega)];exact q)
theorem Uu:OpR X (binaryOp .Pow) (rI fH λi j=>.int (i ^ j.toNat)):=opI λ_ _ _ _ _ _ _ hc q=>pow_int_small hc.1 hc.2.1 hc.2.2 q
theorem unI {f:Value->Sem Value} {g:Int->Int}
  (rule:∀(i:Int) (t:Tok) (s:Shared) (Q:YA) (E:YA),Q (.int (g i) s.toks) { s with toks:=s.toks+1 }->wpAny (model X.prog X.w) X.A (f (.int i t)) Q E s) :
  UnR X f (rU λi=>.int (g i)):=by
 intro jb s O H x v Q I rx h;obtain⟨i,rfl,q⟩:=h;obtain⟨t,rfl⟩:=rx;exact rule i t s _ _ ⟨.int (g i),H,I.tok _,⟨_,rq⟩,q⟩
theorem O2:UnR X (unaryOp .USub) (rU λi=>.int (-i)):=unI λ_ _ _ _ _ q=>neg_int q
end
def Yy:V->V->Bool
 | .non,.non=>true | .non,.int _=>true | .int _,.non=>true | .non,.bl _=>true | .bl _,.non=>true | .non,.str _=>true | .str _,.non=>true
 | .int _,.int _=>true | .bl _,.bl _=>true | .str _,.str _=>true | .byt _,.byt _=>true
 | .int _,.str _=>true | .str _,.int _=>true | .bl _,.str _=>true | .str _,.bl _=>true
 | _,_=>false
def rEq:R2:=λx y H Q=>Yy x y=true/\Q (.bl (decide (x=y))) H
def rNe:R2:=λx y H Q=>Yy x y=true/\Q (.bl (!decide (x=y))) H
theorem Rq {i j:Int}:decide (V.int i=V.int j)=(i == j):=by
 rw[QbC];simp
theorem Va {i j:Bool}:decide (V.bl i=V.bl j)=(i == j):=by
 rw[QbC];simp
theorem Rp {i j:Str}:decide (V.str i=V.str j)=(i == j):=by
 rw[QbC];simp
theorem Rt {i j:Array UInt8}:decide (V.byt i=V.byt j)=(i.toList == j.toList):=by
 rw[QbC];cases i;cases j;simp
section
variable {X:Cx} {a b c:Expr} {ta tb tc:TE} {pos:Pos}
theorem Bt {jb:YC} {O : St} {H:Hp} {s:Shared} {Q:VK} {k k':Bool} (I:Inv X jb O H s) (q:Q (.bl k) H) (e:k=k'):EP X jb O Q (.bool k') s:=by
 subst e;exact⟨.bl k,H,I,rq,q⟩
theorem Ho:OpR X (compareOp .Eq) rEq:=by
 intro jb s O H x y v u Q I rx ry h;obtain⟨hs,q⟩:=h;cases x with
 | non=>
  cases rx;cases y with
  | non=>cases ry;exact PySem.EqNone.eq_none_none (Bt I q (by simp))
  | bl j=>cases ry;exact PySem.EqNone.eq_none_bool (Bt I q (by simp))
  | int j=>obtain⟨t',rfl⟩:=ry;exact PySem.EqNone.eq_none_int (Bt I q (by simp))
  | str j=>obtain⟨t',rfl⟩:=ry;exact PySem.EqNone.eq_none_str (Bt I q (by simp))
  | _=>exact absurd (show false=true from hs) QaN
 | bl i=>
  cases rx;cases y with
  | non=>cases ry;exact PySem.EqNone.eq_bool_none (Bt I q (by simp))
  | bl j=>cases ry;exact eq_bool (Bt I q Va)
  | str j=>obtain⟨t',rfl⟩:=ry;exact PySem.EqMixed.eq_bool_str (Bt I q (by simp))
  | _=>exact absurd (show false=true from hs) QaN
 | int i=>
  obtain⟨t,rfl⟩:=rx;cases y with
  | non=>cases ry;exact PySem.EqNone.eq_int_none (Bt I q (by simp))
  | int j=>obtain⟨t',rfl⟩:=ry;exact eq_int (Bt I q Rq)
  | str j=>obtain⟨t',rfl⟩:=ry;exact PySem.EqMixed.eq_int_str (Bt I q (by simp))
  | _=>exact absurd (show false=true from hs) QaN
 | str i=>
  obtain⟨t,rfl⟩:=rx;cases y with
  | non=>cases ry;exact PySem.EqNone.eq_str_none (Bt I q (by simp))
  | bl j=>cases ry;exact PySem.EqMixed.eq_str_bool (Bt I q (by simp))
  | int j=>obtain⟨t',rfl⟩:=ry;exact PySem.EqMixed.eq_str_int (Bt I q (by simp))
  | str j=>obtain⟨t',rfl⟩:=ry;exact eq_str (Bt I q Rp)
  | _=>exact absurd (show false=true from hs) QaN
 | byt i=>
  obtain⟨t,rfl⟩:=rx;cases y with
  | byt j=>obtain⟨t',rfl⟩:=ry;exact PySem.W.eq_bytes (Bt I q Rt)
  | _=>exact absurd (show false=true from hs) QaN
 | _=>cases y <;> exact absurd (show false=true from hs) QaN
theorem Xc:OpR X (compareOp .NotEq) rNe:=by
 intro jb s O H x y v u Q I rx ry h;obtain⟨hs,q⟩:=h;cases x with
 | non=>
  cases rx;cases y with
  | non=>cases ry;exact PySem.EqNone.ne_none_none (Bt I q (by simp))
  | bl j=>cases ry;exact PySem.EqNone.ne_none_bool (Bt I q (by simp))
  | int j=>obtain⟨t',rfl⟩:=ry;exact PySem.EqNone.ne_none_int (Bt I q (by simp))
  | str j=>obtain⟨t',rfl⟩:=ry;exact PySem.EqNone.ne_none_str (Bt I q (by simp))
  | _=>exact absurd (show false=true from hs) QaN
 | bl i=>
  cases rx;cases y with
  | non=>cases ry;exact PySem.EqNone.ne_bool_none (Bt I q (by simp))
  | bl j=>cases ry;exact ne_bool (Bt I q (congrArg not Va))
  | str j=>obtain⟨t',rfl⟩:=ry;exact PySem.EqMixed.ne_bool_str (Bt I q (by simp))
  | _=>exact absurd (show false=true from hs) QaN
 | int i=>
  obtain⟨t,rfl⟩:=rx;cases y with
  | non=>cases ry;exact PySem.EqNone.ne_int_none (Bt I q (by simp))
  | int j=>obtain⟨t',rfl⟩:=ry;exact ne_int (Bt I q (congrArg not Rq))
  | str j=>obtain⟨t',rfl⟩:=ry;exact PySem.EqMixed.ne_int_str (Bt I q (by simp))
  | _=>exact absurd (show false=true from hs) QaN
 | str i=>
  obtain⟨t,rfl⟩:=rx;cases y with
  | non=>cases ry;exact PySem.EqNone.ne_str_none (Bt I q (by simp))
  | bl j=>cases ry;exact PySem.EqMixed.ne_str_bool (Bt I q (by simp))
  | int j=>obtain⟨t',rfl⟩:=ry;exact PySem.EqMixed.ne_str_int (Bt I q (by simp))
  | str j=>obtain⟨t',rfl⟩:=ry;exact ne_str (Bt I q (congrArg not Rp))
  | _=>exact absurd (show false=true from hs) QaN
 | byt i=>
  obtain⟨t,rfl⟩:=rx;cases y with
  | byt j=>obtain⟨t',rfl⟩:=ry;exact PySem.W.ne_bytes (Bt I q (congrArg not Rt))
  | _=>exact absurd (show false=true from hs) QaN
 | _=>cases y <;> exact absurd (show false=true from hs) QaN
theorem SJ:OpR X (compareOp .Lt) (rI0 λi j=>.bl (decide (i < j))):=VR λ_ _ _ _ _ _ _ q=>lt_int q
theorem Kd:OpR X (compareOp .Gt) (rI0 λi j=>.bl (decide (j < i))):=VR λ_ _ _ _ _ _ _ q=>gt_int q
theorem aD:OpR X (compareOp .GtE) (rI0 λi j=>.bl (decide (j<=i))):=VR λ_ _ _ _ _ _ _ q=>ge_int q
theorem Xw:OpR X (compareOp .IsNot) (λx y H Q=>y=.non/\Q (.bl (!decide (x=.non))) H):=by
 intro jb s O H x y v u Q I rx ry h;obtain⟨rfl,q⟩:=h;cases ry;refine isnot_none_gen (Bt I q ?_);cases x <;> first
  | (cases rx;rfl)
  | (obtain⟨t,rfl⟩:=rx;rfl)
theorem Ci (b:Expr) {op:CmpOp} (h:op≠.In:=by decide) (h2:op≠.NotIn:=by decide):behindInMarks op b=false:=by
 have e1:(op == CmpOp.In)=false:=by cases op <;> first | rfl | exact absurd rfl h
 have e2:(op == CmpOp.NotIn)=false:=by cases op <;> first | rfl | exact absurd rfl h2
 cases b <;> simp[behindInMarks,e1,e2]
theorem Rf {op:CmpOp} {r:R2} (ho:OpR X (compareOp op) r) (ha:PE X a ta) (hb:PE X b tb) (hm:behindInMarks op b=false):PE X (.Compare a [op] [b] pos) (tOp r ta tb):=by
 intro jb s O H Q I h;exact wpAny_Compare1 (WM ha hb I h λv u s2 x y H2 I2 rx ry q=>ho jb s2 O H2 x y v u Q I2 rx ry q) hm
def Z0 (t:TE):TT:=fun O H Q=>t O H λx H'=>∃k,x=.bl k/\Q k H'
theorem Bl {op:CmpOp} {r:R2} (ho:OpR X (compareOp op) r) (ha:PE X a ta) (hb:PE X b tb) (hm:behindInMarks op b=false):PT X (.Compare a [op] [b] pos) (Z0 (tOp r ta tb)):=by
 intro jb s O H Q I h;refine wpAny_isTrue_Compare1 (thn (ha jb s O H _ I h) λv s1 ⟨x,H1,I1,r1,q1⟩=>thn (hb jb s1 O H1 _ I1 q1) λu s2 ⟨y,H2,I2,r2,q2⟩=>
  thn (ho jb s2 O H2 x y v u _ I2 r1 r2 q2) λc s3 ⟨z,H3,I3,r3,k,e,q3⟩=>?_) hm
 subst e;cases r3;exact wpAny_truthy_bool ⟨H3,I3,q3⟩
def Tt (K:YD) (x:V) (H:Hp) (k:Bool):Prop:=
 match x with
 | .non=>k=false
 | .bl b=>k=b
 | .int i=>k=(i != 0)
 | .str y=>y.length<=sizeLine/\k=((y.length:Int) != 0)
 | .byt y=>y.size<=sizeLine/\k=((y.size:Int) != 0)
 | .ref p=>(∃xs,SqL K H p xs/\k=!xs.isEmpty)\/(∃xs,SqT K H p xs/\k=!xs.isEmpty)\/∃kvs,H p=some (.dK kvs)/\k=!kvs.isEmpty
 | _=>False
theorem S6 {κ : Type} {kvs:List (κ×V)} {vs:List (κ×Value)} (r:KV kvs vs):(!vs.isEmpty)=!kvs.isEmpty:=by
 cases r <;> rfl
theorem Mh {xs:YG} {its:YE} (r:Vals xs its):(!its.toArray.isEmpty)=!xs.isEmpty:=by
 cases r <;> simp
theorem Ip:(sizeLine:Nat) < 2 ^ 63:=by rw[sizeLine_eq];decide
theorem Yj:fG X (λx H Q=>∃k,Tt X.K x H k/\Q k H):=by
 intro jb s O H x v Q I rx h;obtain⟨k,e,q⟩:=h;have hl:=Ip;have hs:sizeLine=16777216:=sizeLine_eq;cases x with
 | non=>
  cases rx;have e':k=false:=e;subst e';exact truthy_none ⟨H,I,q⟩
 | bl b=>
  cases rx;have e':k=b:=e;subst e';exact wpAny_truthy_bool ⟨H,I,q⟩
 | int i=>
  obtain⟨t,rfl⟩:=rx;have e':k=(i != 0):=e;subst e';exact PySem.P.truthy_int ⟨H,I,q⟩
 | str y=>
  obtain⟨t,rfl⟩:=rx;obtain⟨hy,e'⟩ : y.length<=sizeLine/\k=((y.length:Int) != 0):=e;subst e';exact PySem.P.truthy_str (by omega) ⟨H,I.tok _,q⟩
 | byt y=>
  obtain⟨t,rfl⟩:=rx;obtain⟨hy,e'⟩ : y.size<=sizeLine/\k=((y.size:Int) != 0):=e;subst e';exact PySem.W.truthy_bytes (by omega) ⟨H,I.tok _,q⟩
 | ref p=>
  cases rx;have e':(∃xs,SqL X.K H p xs/\k=!xs.isEmpty)\/(∃xs,SqT X.K H p xs/\k=!xs.isEmpty)\/∃kvs,H p=some (.dK kvs)/\k=!kvs.isEmpty:=e;rcases e' with⟨xs,hx,e'⟩|⟨xs,hx,e'⟩|⟨kvs,hx,e'⟩
  ·subst e';obtain⟨its,r,pl,hz⟩:=I.list hx;have hlen:=r.length;exact wpAny_truthy_list pl.isList (by simp only[QaZ];omega) ⟨H,I.tok _,by rw[Mh r];exact q⟩
  ·subst e';obtain⟨its,r,pl,hz⟩:=I.tuple hx;have hlen:=r.length;exact truthy_tuple pl (by simp only[QaZ];omega) ⟨H,I.tok _,by rw[Mh r];exact q⟩
  ·subst e';obtain⟨hz,hS,vs,r,m⟩ : kvs.length<=sizeLine/\(p == sysModules)=false/\∃vs,KV kvs vs/\s.heap.DictOf (Dj X.prog X.w) p vs:=I.hok p _ hx;have hlen:kvs.length=vs.length:=QbK r;exact wpAny_truthy_dict hS m (by omega) ⟨H,I.tok _,by rw[S6 r];exact q⟩
 | _=>exact (show False from e).elim
theorem Lz:OpR X (binaryOp .Add) (λx y H Q=>∃i j,x=.str i/\y=.str j/\i.length+j.length<=sizeLine/\Q (.str (i++j)) H):=by
 intro jb s O H x y v u Q I rx ry h;obtain⟨i,j,rfl,rfl,hz,q⟩:=h;obtain⟨t,rfl⟩:=rx;obtain⟨t',rfl⟩:=ry;exact add_str (λt' tk=>⟨.str (i++j),H,I.tok _,⟨_,rq⟩,q⟩) hz
theorem vals1 {x:V} {us:YE} (r:Vals [x] us):∃u,us=[u]/\RelV x u:=by
 cases r with
 | cons r1 r2=>cases r2;exact⟨_,rfl,r1⟩
theorem vals2 {x y:V} {us:YE} (r:Vals [x,y] us):∃u w',us=[u,w']/\RelV x u/\RelV y w':=by
 cases r with
 | cons r1 r2=>
  cases r2 with
  | cons r3 r4=>cases r4;exact⟨_,_,rfl,r1,r3⟩
theorem Qs:Fe X (.builtin "abs") (λxs H Q=>∃i,xs=[.int i]/\Q (.int (if i < 0 then -i else i)) H):=by
 intro jb s O H xs us Q I r h;obtain⟨i,rfl,q⟩:=h;obtain⟨u,rfl,t,rfl⟩:=vals1 r;exact call_abs_int λu tk=>⟨.int (if i < 0 then -i else i),H,I.tok _,⟨_,rq⟩,q⟩
theorem Og (hc:X.calm=true):Fe X (.builtin "max") (λxs H Q=>∃i j,xs=[.int i,.int j]/\Q (.int (if j > i then j else i)) H):=by
 intro jb s O H xs us Q I r h;obtain⟨i,j,rfl,q⟩:=h;obtain⟨u,w',rfl,⟨t,rfl⟩,⟨t',rfl⟩⟩:=vals2 r;refine max_two_ints (I.ok.hd hc) λh' tk k=>⟨_,H,I.kept k,?_,q⟩;by_cases hj:j > i
 ·rw[if_pos hj,if_pos hj];exact⟨_,rq⟩
 ·rw[if_neg hj,if_neg hj];exact⟨_,rq⟩
theorem Oe (hc:X.calm=true):Fe X (.builtin "min") (λxs H Q=>∃i j,xs=[.int i,.int j]/\Q (.int (if j < i then j else i)) H):=by
 intro jb s O H xs us Q I r h;obtain⟨i,j,rfl,q⟩:=h;obtain⟨u,w',rfl,⟨t,rfl⟩,⟨t',rfl⟩⟩:=vals2 r;refine min_two_ints (I.ok.hd hc) λh' tk k=>⟨_,H,I.kept k,?_,q⟩;by_cases hj:j < i
 ·rw[if_pos hj,if_pos hj];exact⟨_,rq⟩
 ·rw[if_neg hj,if_neg hj];exact⟨_,rq⟩
theorem Oi:Fe X (.type "int") (λxs H Q=>(∃i,xs=[.int i]/\Q (.int i) H)\/∃k,xs=[.bl k]/\Q (.int (if k then 1 else 0)) H):=by
 intro jb s O H xs us Q I r h;rcases h with⟨i,rfl,q⟩|⟨k,rfl,q⟩
 ·obtain⟨u,rfl,t,rfl⟩:=vals1 r;exact call_int_int ⟨.int i,H,I,⟨_,rq⟩,q⟩
 ·obtain⟨u,rfl,r1⟩:=vals1 r;cases r1;exact call_int_bool ⟨.int (if k then 1 else 0),H,I.tok _,⟨_,rq⟩,q⟩
end
section
variable {prog:Program} {w:World} {A:Around} {E:YA} {s:Shared} {K:YD} {x dx C f:Addr} {mA:YB} {name:Str} {v:Value}
end
section
variable {P:Program} {w:World} {H H':Hp} {h h':Heap} {a C dx:Addr} {fs fs':List (Str×V)}
end
structure Cls (K:YD) (C:Addr):Prop where
 pg:PySem.W.plainGet K C Str.empty=true
 hd:PySem.W.hasDictIn K C=true
 po:PySem.W.plainOver K C=true
 sa:findIn K (.ref C) "__setattr__"=some (some (.builtin "object.__setattr__"))
theorem Cls.get {K:YD} {C:Addr} (c:Cls K C) (f:Str):PySem.W.plainGet K C f=true:=c.pg
structure Meth (K:YD) (C:Addr) (m:Str) (f:Addr):Prop where
 at_:findIn K (.ref C) m=some (some (.ref f))
 fn:PySem.W.isFn K (.ref f)=true
 kp:keepIn K (.ref f)=true
section
variable {X:Cx} {jb:YC} {O : St} {H:Hp} {s:Shared} {a C dx:Addr} {fs:List (Str×V)} {f:Str} {v:V} {A:Around} {E:YA}
theorem Inv.made (I:Inv X jb O H s):Inv X jb O (upd (upd H s.heap.objs.size (.own (s.heap.objs.size+1))) (s.heap.objs.size+1) (.ins C s.heap.objs.size []))
  { s with heap:=(s.heap.push emptyDict).push (instObj C s.heap.objs.size) }:=by
 have e1:(s.heap.push emptyDict).get? s.heap.objs.size=some emptyDict:=QaG s.heap rfl;have e2:((s.heap.push emptyDict).push (instObj C s.heap.objs.size)).get? (s.heap.objs.size+1)=some (instObj C s.heap.objs.size):=by
  have:=QaG (s.heap.push emptyDict) (o:=instObj C s.heap.objs.size) rfl
  rwa [QbI] at this
 have e3:(s.heap.push emptyDict).Ns s.heap.objs.size (λ_=>none):=⟨emptyDict,#[],_,e1,rq,(λe he=>absurd he (by simp)),λ_=>rfl⟩;have I1:=I.laid (a:=s.heap.objs.size) (o:=.own (s.heap.objs.size+1)) (h':=s.heap.push emptyDict) (t':=s.toks) (λb u q=>Qas _ q) (QbZ _) ⟨_,e1⟩;refine I1.laid (a:=s.heap.objs.size+1) (o:=.ins C s.heap.objs.size []) (t':=s.toks) (λb u q=>Qas _ q) (Nat.le_of_eq (QbI _ _)) ?_;have ne:s.heap.objs.size≠s.heap.objs.size+1:=QbS (Qbr _);refine⟨by rw[Aw ne,Ab],Qca _,ne,e2,λ_=>none,(Heap.Ns1.of_empty e3).at λo q=>Qas _ q,λ_=>True.intro,λy hy=>absurd rfl hy⟩
end
section
variable {X:Cx} {o e value:Expr} {f:Str} {pos pos' tpos:Pos} {ta tv:TE}
end
section
variable {X:Cx} {jb:YC} {O : St} {H:Hp} {s:Shared} {A:Around} {E:YA} {Q:YA} {c:Value} {b:Bool}
end
structure Dp (k:Nat) (A:Around):Prop where
 hd:A.handled=none
 dp:A.depth+3*k+5 < recursionLimit
 un:A.units+16*k+200 < cLine
theorem Dp.mono {j k:Nat} {A:Around} (r:Dp k A) (h:j<=k):Dp j A:=⟨r.hd,by have:=r.dp;omega,by have:=r.un;omega⟩
theorem Dp.deeper {k:Nat} {A:Around} (r:Dp (k+1) A) (env:Env):Dp k (A.deeper env):=
 ⟨r.hd,by have:=r.dp;show A.depth+1+3*k+5 < _;omega,by have:=r.un;show A.units+3+16*k+200 < _;omega⟩
theorem Dp.in1 {k:Nat} {A:Around} (r:Dp (k+1) A):Dp k A.in1:=
 ⟨r.hd,by have:=r.dp;show A.depth+3*k+5 < _;omega,by have:=r.un;show A.units+1+16*k+200 < _;omega⟩
theorem Dp.depth {k:Nat} {A:Around} (r:Dp k A):A.depth < recursionLimit:=by have:=r.dp;omega
theorem Dp.units {k:Nat} {A:Around} (r:Dp k A):A.units+64 < cLine:=by have:=r.un;omega
def Yn:TA:=λ_ H Q=>Q [] H
def W6 (ta:TE) (tr:TA):TA:=fun O H Q=>ta O H λx H1=>tr O H1 λxs H2=>Q (x::xs) H2
section
variable {X:Cx} {e:Expr} {es:YJ} {te:TE} {t:TA} {pos:Pos}
theorem Ac:PA X [] Yn:=λ_ _ _ _ H Q I h=>Calls.spliced_nil ⟨[],H,I,.nil,h⟩
theorem Aa (ha:PE X e te) (hr:PA X es t) (hs:starEach (e::es) X.env=(false,eval e X.env)::starEach es X.env:=by rfl):PA X (e::es) (W6 te t):=by
 intro pos jb s O H Q I h;rw[hs];show wpAny _ _ (spliced ((false,eval e X.env)::backTo pos (starEach es X.env))) _ _ s;refine Calls.spliced_cons (thn (ha jb s O H _ I h) λu s1 zz=>?_);obtain⟨x,H1,I1,r1,q1⟩:=zz;refine thn (hr pos jb s1 O H1 _ I1 q1) λus s2 zz=>?_;obtain⟨xs,H2,I2,r2,q2⟩:=zz;exact⟨x::xs,H2,I2,.cons r1 r2,q2⟩
def bf (t:TA):TE:=fun O H Q=>t O H λxs H1=>xs.length<=sizeLine/\∀p,H1 p=none->Q (.ref p) (upd H1 p (.tup xs))
def bx (t:TA):TE:=fun O H Q=>t O H λxs H1=>xs.length<=sizeLine/\∀p,H1 p=none->Q (.ref p) (upd H1 p (.lst xs))
theorem Bd {x1} (h:PA X es t):PE X (.Tuple es x1 pos) (bf t):=by
 intro jb s O H Q I hq;refine wpAny_Tuple_spliced (thn (h pos jb s O H _ I hq) λus s1 zz=>?_);obtain⟨xs,H1,I1,r,z,q⟩:=zz;refine⟨by rw[<-r.length];exact z,?_⟩;have hf:H1 s1.heap.objs.size=none:=I1.hok.fresh (QbZ _);refine⟨.ref s1.heap.objs.size,upd H1 s1.heap.objs.size (.tup xs),I1.laid (t':=s1.toks) (λb u e=>Qas _ e) (QbZ _) ?_,rq,q _ hf⟩;exact⟨z,us,r,⟨_,QaG _ rfl,rq,_,rq⟩⟩
theorem Cg (h:PA X es t):PE X (.List es pos) (bx t):=by
 intro jb s O H Q I hq;refine wpAny_List_spliced (thn (h pos jb s O H _ I hq) λus s1 zz=>?_);obtain⟨xs,H1,I1,r,z,q⟩:=zz;refine⟨by rw[<-r.length];exact z,?_⟩;have hf:H1 s1.heap.objs.size=none:=I1.hok.fresh (QbZ _);refine⟨.ref s1.heap.objs.size,upd H1 s1.heap.objs.size (.lst xs),I1.laid (t':=s1.toks) (λb u e=>Qas _ e) (QbZ _) ?_,rq,q _ hf⟩;exact⟨z,us,0,r,QaG _ rfl⟩
end
abbrev Sp:=YG->Hp->VK->XK->Prop
abbrev CXT:=List Env->Hp->Shared->XK->YA
structure Lg (P:Program) (w:World) (K:YD) (mg:YB) (base:Heap) (A:Around) (outer:List Env) (s:Shared) (H:Hp):Prop where
 frames:A.frames=some outer
 mod:Mod K mg base
 bs:∀b o,base.get? b=some o->s.heap.get? b=some o/\H b=none
 bsz:base.objs.size<=s.heap.objs.size
 Gi:s.heap.FunFrames base outer
 frf:∀b∈frs outer,H b=none
 hok:HOk P w H s.heap
 bare:AllBare s.gens
def CE (outer:List Env) (P:Program) (w:World) (H:Hp) (s:Shared) (Q:VK) (u:Value) (s':Shared):Prop:=
 ∃v H',s'.os=s.os/\AllBare s'.gens/\Un (frs outer) [] H H' s.heap s'.heap/\HOk P w H' s'.heap/\RelV v u/\Q v H'
def CR (CX:CXT) (outer:List Env) (P:Program) (w:World) (H:Hp) (s:Shared) (Q:VK) (E:XK) (r:Result) (s':Shared):Prop:=
 match r with
 | .ok (.ret u)=>CE outer P w H s Q u s'
 | .ok _=>False
 | .error e=>CX outer H s E e s'
structure Es (P:Program) (w:World) (K:YD) (mg:YB) (base:Heap) (CX:CXT) (k:Nat) (f:Addr) (fd:FuncData) (ps:YF) (sp:Sp):Prop where
 len:∀vs H Q E,sp vs H Q E->vs.length=ps.length
 run:∀(A:Around) (outer:List Env) (s:Shared) (H:Hp) (args:Args) (us:YE) (vs:YG) (Q:VK) (E:XK),Dp k A->Lg P w K mg base A outer s H->BindsTo s fd args (ps.zip us)->Vals vs us->sp vs H Q E ->
  codeAny (model P w) A (.call (.ref f) args) (CR CX outer P w H s Q E) s
theorem Es.mono {P:Program} {w:World} {K:YD} {mg:YB} {base:Heap} {CX:CXT} {j k:Nat} {f:Addr} {fd:FuncData} {ps:YF} {sp:Sp} (F:Es P w K mg base CX j f fd ps sp) (h:j<=k) :
  Es P w K mg base CX k f fd ps sp:=⟨F.len,λA outer s H args us vs Q E hr=>F.run A outer s H args us vs Q E (hr.mono h)⟩
theorem Es.imp {P:Program} {w:World} {K:YD} {mg:YB} {base:Heap} {CX:CXT} {k:Nat} {f:Addr} {fd:FuncData} {ps:YF} {sp sp':Sp} (F:Es P w K mg base CX k f fd ps sp)
  (h:∀vs H Q E,sp' vs H Q E->sp vs H Q E):Es P w K mg base CX k f fd ps sp':=
 ⟨λvs H Q E q=>F.len vs H Q E (h _ _ _ _ q),λA outer s H args us vs Q E hr he hb hv hs=>F.run A outer s H args us vs Q E hr he hb hv (h _ _ _ _ hs)⟩
theorem Lg.in1 {P:Program} {w:World} {K:YD} {mg:YB} {base:Heap} {A:Around} {outer:List Env} {s:Shared} {H:Hp} (e:Lg P w K mg base A outer s H) :
  Lg P w K mg base A.in1 outer s H:=⟨e.frames,e.mod,e.bs,e.bsz,e.Gi,e.frf,e.hok,e.bare⟩
section
variable {X:Cx} {jb:YC} {O : St} {H:Hp} {s s':Shared}
theorem Inv.env0 (I:Inv X jb O H s):Lg X.prog X.w X.K X.mg X.base X.A X.stack s H:=
 ⟨I.ok.frames,I.ok.mod,I.bs,QbT I.ok.bsz I.sz,I.stack,I.MP,I.hok,I.bare⟩
theorem Inv.after {Q:VK} {u:Value} (I:Inv X jb O H s) (h:CE X.stack X.prog X.w H s Q u s'):EP X jb O Q u s':=by
 obtain⟨v,H',os,bare,un,hok,r,q⟩:=h;obtain⟨hh,g,d,t,os'⟩:=s';obtain rfl:os'=s.os:=os;exact⟨v,H',I.call (h':=hh) (g':=g) (d':=d) (t':=t) (ch:=[]) un hok bare (λb z=>absurd z (by simp)),r,q⟩
end
def W7 (sp:Sp) (dvs:YG) (E:XK) (t:TA):TE:=fun O H Q=>t O H λvs H1=>sp (vs++dvs) H1 Q E
def Binds (K:YD) (fd:FuncData) (ps:YF) (ds:YE):Prop:=
 ∀(s:Shared) (us:YE),K.In s.heap->(us++ds).length=ps.length->BindsTo s fd ⟨us,[]⟩ (ps.zip (us++ds))
theorem Binds.all {K:YD} {fd:FuncData} {ps:YF} (h:∀us:YE,us.length=ps.length->bindArgs fd ⟨us,[]⟩=pure (ps.zip us)):Binds K fd ps []:=λs us _ hl=>by
 rw[Qbz] at hl ⊢;exact .of_eq (h us hl)
def Passes (CX:CXT) (X:Cx) (E:XK):Prop:=∀(jb:YC) (O : St) (H:Hp) (s:Shared) (e:Value) (s':Shared),Inv X jb O H s->CX X.stack H s E e s'->X.xe e s'
section
variable {X:Cx} {CX:CXT} {k:Nat} {f C:Addr} {fd:FuncData} {ps:YF} {sp:Sp} {dvs:YG} {ds:YE} {E:XK} {x m:Str} {p pos apos:Pos} {e o:Expr} {es:YJ} {ta:TE} {t:TA}
theorem YK {jb:YC} {O : St} {H:Hp} {s:Shared} {Q:VK} {us:YE} {vs:YG} (F:Es X.prog X.w X.K X.mg X.base CX k f fd ps sp) (hr:Dp k X.A) (hb:Binds X.K fd ps ds) (hd:Vals dvs ds) (hx:Passes CX X E)
  (I:Inv X jb O H s) (r:Vals vs us) (h:sp (vs++dvs) H Q E):wpAny (model X.prog X.w) X.A (call (.ref f) us) (EP X jb O Q) X.xe s:=by
 have r2:Vals (vs++dvs) (us++ds):=r.append hd;have hl:(us++ds).length=ps.length:=by rw[<-r2.length];exact F.len _ _ _ _ h
 refine wpAny_call (QbY (F.run X.A X.stack s H ⟨us,[]⟩ (us++ds) (vs++dvs) Q E hr I.env0 (hb s us I.kIn hl) r2 h) λr s' hq=>?_);cases r with
 | error e=>exact hx jb O H s e s' I hq
 | ok fl=>
  cases fl with
  | ret u=>exact I.after hq
  | next=>exact False.elim hq
  | brk=>exact False.elim hq
  | cont=>exact False.elim hq
theorem Xu (F:Es X.prog X.w X.K X.mg X.base CX k f fd ps sp) (hr:Dp k X.A) (hg:Gl X x) (hm:X.mg x=some (.ref f)) (hk:keepIn X.K (.ref f)=true) (hb:Binds X.K fd ps ds) (hd:Vals dvs ds) (hx:Passes CX X E)
  (ha:PA X (e::es) t) (hdb:(x == ("__debug__":Str))=false:=by decide) (he:starEach (e::es) X.env=(false,eval e X.env)::starEach es X.env:=by rfl) (hpl:(backTo pos (starEach es X.env)).any (·.1)=false:=by rfl) :
  PE X (.Call (.Name x p) (e::es) [] pos) (W7 sp dvs E t):=by
 intro jb s O H Q I h;refine QaX (Ri I hg hm ?_ hdb);refine PySem.W.callWith_K (h₀:=X.base) I.ok.mod.kin hk (thn (ha pos jb s O H _ I h) λus s1 zz=>?_) he hpl;obtain⟨vs,H1,I1,r,q⟩:=zz;refine⟨I1.kIn,?_⟩;exact YK F hr hb hd hx I1 r q
end
def PK (X:Cx) (kws:List Keyword) (t:TA):Prop:=
 ∀(pos:Pos) (jb:YC) (s:Shared) (O : St) (H:Hp) (Q:YG->Hp->Prop),Inv X jb O H s->t O H Q->wpAny (model X.prog X.w) X.A (evalAll ((backToKw pos (keywordEach kws X.env)).map (·.2))) (AP X jb O Q) X.xe s
section
variable {X:Cx} {CX:CXT} {k:Nat} {f C:Addr} {fd:FuncData} {ps ks:YF} {sp:Sp} {E:XK} {x m:Str} {p pos apos kpos:Pos} {e o:Expr} {es:YJ} {kws:List Keyword} {te ta:TE} {t tk:TA} {nm:Option Str}
theorem YW:PK X [] Yn:=λ_ _ _ _ H Q I h=>wpAny_evalAll_nil ⟨[],H,I,.nil,h⟩
theorem Xq (ha:PE X e te) (hr:PK X kws t):PK X (⟨nm,e,kpos⟩::kws) (W6 te t):=by
 intro pos jb s O H Q I h;show wpAny _ _ (evalAll ((do let v <-eval e X.env;standAt pos;pure v)::(backToKw pos (keywordEach kws X.env)).map (·.2))) _ _ s
 refine wpAny_evalAll_cons (Qcd (thn (ha jb s O H _ I h) λu s1 zz=>?_));obtain⟨x,H1,I1,r1,q1⟩:=zz;refine Qcd (QbP (Qce ?_));refine thn (hr pos jb s1 O H1 _ I1 q1) λus s2 zz=>?_;obtain⟨xs,H2,I2,r2,q2⟩:=zz;exact⟨x::xs,H2,I2,.cons r1 r2,q2⟩
variable {g:YE->YE->YE} {gV:YG->YG->YG}
end
structure Bx (N P:YF) (sc:Scope):Prop where
 kind:sc.kind=.function
 co:sc.isCoroutine=false
 gen:sc.isGenerator=false
 nd:N.Nodup
 pre:N.take P.length=P
 par:∀x∈P,sc.names.lookup x=some .local\/sc.names.lookup x=some .cell
 PB:∀y∈sc.names,y.2≠.free
theorem Oj {kindOf:Str->Option NameKind} {x:Str}:∀{binds:List (Str×Value)} {m:YB},(∀v,(x,v)∉binds)->bindL kindOf binds m x=m x
 | [],_,_=>rfl
 | (n,v)::r,m,h=>by
  unfold bindL;rw[Oj λw hw=>h w (QaB _ hw)];split
  ·have:x≠n:=by rintro rfl;exact h v QaM
   simp[this]
  ·rfl
theorem Om {kindOf:Str->Option NameKind} {x:Str}:∀{binds:List (Str×Value)} {m:YB},(∀v,(x,v)∉binds)->bindC kindOf binds m x=m x
 | [],_,_=>rfl
 | (n,v)::r,m,h=>by
  unfold bindC;rw[Om λw hw=>h w (QaB _ hw)];split
  ·rfl
  ·have:x≠n:=by rintro rfl;exact h v QaM
   simp[this]
theorem Ol {kindOf:Str->Option NameKind} {x:Str} {v:Value}:∀{P:YF} {vs:YE} {i:Nat} {m:YB},P.Nodup->P[i]?=some x->vs[i]?=some v->kindOf x=some .local ->
  bindL kindOf (P.zip vs) m x=some v
 | [],_,_,_,_,h,_,_=>by simp at h
 | _::_,[],_,_,_,_,h,_=>by simp at h
 | p::P,w::vs,0,m,nd,h1,h2,hk=>by
  simp at h1 h2;subst h1;subst h2;show bindL kindOf ((p,w)::P.zip vs) m p=_;unfold bindL;rw[Oj λv hv=>(QbA.mp nd).1 (List.of_mem_zip hv).1,if_pos hk];simp
 | p::P,w::vs,i+1,m,nd,h1,h2,hk=>by
  show bindL kindOf ((p,w)::P.zip vs) m x=_;unfold bindL;exact Ol (i:=i) (QbA.mp nd).2 (by simpa using h1) (by simpa using h2) hk
theorem Oo {kindOf:Str->Option NameKind} {x:Str} {v:Value}:∀{P:YF} {vs:YE} {i:Nat} {m:YB},P.Nodup->P[i]?=some x->vs[i]?=some v->kindOf x≠some .local ->
  bindC kindOf (P.zip vs) m x=some v
 | [],_,_,_,_,h,_,_=>by simp at h
 | _::_,[],_,_,_,_,h,_=>by simp at h
 | p::P,w::vs,0,m,nd,h1,h2,hk=>by
  simp at h1 h2;subst h1;subst h2;show bindC kindOf ((p,w)::P.zip vs) m p=_;unfold bindC;rw[Om λv hv=>(QbA.mp nd).1 (List.of_mem_zip hv).1,if_neg hk];simp
 | p::P,w::vs,i+1,m,nd,h1,h2,hk=>by
  show bindC kindOf ((p,w)::P.zip vs) m x=_;unfold bindC;exact Oo (i:=i) (QbA.mp nd).2 (by simpa using h1) (by simpa using h2) hk
def start (N:YF) (vs:YG):St:=vs.map some++List.replicate (N.length - vs.length) none
def JL (CX:CXT) (P:Program) (w:World) (K:YD) (mg:YB) (base:Heap) (N:YF) (qual:Str) (scope:Scope) (f:Addr) (cd:Value) (A:Around) (outer:List Env) (s:Shared) (H:Hp) (E:XK):Cx where
 prog:=P
 w:=w
 K:=K
 mg:=mg
 base:=base
 A:=A.deeper (envOfC qual scope s.heap.objs.size f cd)
 N:=N
 s₀:=s
 H₀:=H
 env:=envOfC qual scope s.heap.objs.size f cd
 outer:=outer
 stack:=envOfC qual scope s.heap.objs.size f cd::outer
 ex:=[]
 calm:=true
 fn:=λ_=>true
 pn:=[]
 xe:=λe s'=>wpAny (model P w) (A.deeper (envOfC qual scope s.heap.objs.size f cd)) (leaving (envOfC qual scope s.heap.objs.size f cd) e) (λ_ s''=>CX outer H s E e s'') (λe' s''=>CX outer H s E e' s'') s'
theorem Qp {sc:Scope} {n:Nat} {x:Str} (h:sc.names.lookup x=some .cell):∃c,(cellsFrom n sc.names []).lookup x=some c:=by
 have q:=PySem.W.cellsFrom_some sc.names n [] (.inl h);exact Option.isSome_iff_exists.mp q
theorem UJ {CX:CXT} {P:Program} {w:World} {K:YD} {mg:YB} {base:Heap} {N ps:YF} {qual:Str} {scope:Scope} {f:Addr} {cd:Value} {A:Around} {outer:List Env} {s s1:Shared} {H:Hp} {E:XK} {us:YE} {vs:YG}
  (S:Bx N ps scope) (hd:A.handled=none) (e0:Lg P w K mg base A outer s H) (hl:vs.length=ps.length) (r:Vals vs us)
  (x:InCallC s s.heap.objs.size (bindL (envOfC qual scope s.heap.objs.size f cd).kindOf (ps.zip us) λ_=>none) (cellsFrom (s.heap.objs.size+1) scope.names []) (bindC (envOfC qual scope s.heap.objs.size f cd).kindOf (ps.zip us) λ_=>none) s1) :
  Inv (JL CX P w K mg base N qual scope f cd A outer s H E) [] (start N vs) H s1:=by
 have hpl:ps.length<=N.length:=by have:=congrArg List.length S.pre;rw[Qbk] at this;omega
 obtain⟨h1,tk,rfl,hk⟩:=x.done;have noA:∀b:Addr,b∉(JL CX P w K mg base N qual scope f cd A outer s H E).ex:=λb z=>absurd (show b∈([]:List Addr) from z) (by simp)
 refine⟨⟨e0.mod,S.kind,rq,rq,QbZ _,λy z c h1 h2=>?_,λy hy=>?_,λy c _ h=>?_,λ_=>hd,Around.frames_deeper e0.frames,.inr ⟨rq,rq⟩,λb z=>absurd z (noA b),e0.bs,e0.bsz,λb _ _=>noA b,λb z=>absurd z (noA b),e0.Gi,e0.frf⟩,
  rfl,e0.bare,Un.kept hk,⟨_,x.toInCall.ns,λi y v h1 h2 h3=>?_⟩,λy c h=>⟨_,x.cell y c h⟩,e0.hok.fresh (QbZ _),λy c h=>?_,λp hp=>absurd (show p∈([]:YC) from hp) (by simp),e0.hok.kept hk,?_⟩
 ·exact name_of_addr x.apart (QaK h1) (QaK h2)
 ·have hy:scope.names.lookup y=some .cell\/scope.names.lookup y=some .free:=hy;rcases hy with hy | hy
  ·exact Qp hy
  ·exact absurd rfl (S.PB _ (QaK hy))
 ·exact QbW (x.above y c (QaK h))
 ·have hi:i < vs.length:=by
   unfold start at h2;by_cases hi:i < vs.length
   ·exact hi
   ·rw[List.getElem?_append_right (by simpa using hi)] at h2;rw[List.getElem?_replicate] at h2;split at h2 <;> cases h2
  have ha:vs[i]?=some v:=by
   unfold start at h2;rw[List.getElem?_append_left (by simpa using hi),Qba] at h2;cases e:vs[i]? with
   | none=>rw[e] at h2;cases h2
   | some a=>rw[e] at h2;cases h2;rfl
  obtain⟨u,hu,rv⟩:=r.get ha;have hp:ps[i]?=some y:=by
   rw[<-S.pre,List.getElem?_take_of_lt (by omega)];exact h1
  have ndP:ps.Nodup:=by rw[<-S.pre];exact S.nd.sublist (List.take_sublist _ _)
  refine⟨u,rv,?_⟩;rcases S.par y (QaA hp) with k | k
  ·exact .inl ⟨k,Ol ndP hp hu k⟩
  ·obtain⟨c,e⟩:=Qp (n:=s.heap.objs.size+1) k;refine .inr ⟨.inl k,c,e,?_⟩;have q:=x.cell y c e;rw[Oo ndP hp hu (by show scope.names.lookup y≠_;rw[k];decide)] at q;exact q
 ·exact e0.hok.fresh (QbW (x.above y c (QaK h)))
 ·unfold start;show _=N.length;rw[QaL,Qbt,List.length_replicate];omega
theorem aO {CX:CXT} {P:Program} {w:World} {K:YD} {mg:YB} {base:Heap} {k:Nat} {f:Addr} {name qual:Str} {params:Arguments} {body:List Stmt} {scope:Scope} {dV kV doc pm cdv ct oc:Value} {an od:Option Addr}
  {osl:YI} {N ps:YF} {sp:Sp} (lk:K.lookup f=some ⟨oc,od,.func (fnOf name qual params body scope dV kV doc pm an cdv ct),osl⟩) (hcd:codeIn K cdv qual=true) (S:Bx N ps scope)
  (len:∀vs H Q E,sp vs H Q E->vs.length=ps.length)
  (hbody:∀(A:Around) (outer:List Env) (s:Shared) (H:Hp) (vs:YG) (Q:VK) (E:XK),Dp k (A.deeper (envOfC qual scope s.heap.objs.size f cdv))->sp vs H Q E ->
   ∃t,PSs (JL CX P w K mg base N qual scope f cdv A outer s H E) body t/\t { nx:=λ_ H'=>Q .non H',rt:=Q } (start N vs) H) :
  Es P w K mg base CX (k+1) f (fnOf name qual params body scope dV kV doc pm an cdv ct) ps sp:=by
 refine⟨len,λA outer s H args us vs Q E hr e0 hb r hsp=>?_⟩;have hl:=len _ _ _ _ hsp;have KX:K.In s.heap:=e0.mod.kin.keeps λb o e=>(e0.bs b o e).1;have lim:s.heap.NoLimit:=e0.mod.nolimit.keeps λb o e=>(e0.bs b o e).1;have hkind:∀y∈ps.zip us,scope.names.lookup y.1=some .local\/(scope.names.lookup y.1=some .cell/\((cellsFrom (s.heap.objs.size+1) scope.names []).lookup y.1).isSome=true):=λ⟨n,v⟩ hy=>by
  rcases S.par n (List.of_mem_zip hy).1 with q | q
  ·exact .inl q
  ·exact .inr ⟨q,PySem.W.cellsFrom_some _ _ _ (.inl q)⟩
 refine codeAny_call_function hr.depth (KX _ _ lk) rfl S.co S.gen rfl (PySem.W.codeRec_of KX hcd) (hb _ _ _ _ ?_);refine wpAny_newFunctionEnv_cells S.kind hkind λenv he s1 x=>?_;subst he;refine⟨lim.keeps x.toInCall.keep,codeAny_func ?_⟩;obtain⟨t,ht,hq⟩:=hbody A outer s H vs Q E (hr.deeper _) hsp;have I:Inv (JL CX P w K mg base N qual scope f cdv A outer s H E) [] (start N vs) H s1:=UJ S hr.hd e0 hl r x;refine Qcf (ht [] s1 (start N vs) H _ I hq) (λfl s' hs=>?_) λe s' hs=>hs;have fin:∀{σ':St} {H':Hp} {v:V} {u:Value},Inv (JL CX P w K mg base N qual scope f cdv A outer s H E) [] σ' H' s'->RelV v u->Q v H'->CE outer P w H s Q u s':=
  λ{σ' H' v u} J rv q=>⟨v,H',J.os,J.bare,J.base,J.hok,rv,q⟩
 cases fl with
 | ret u=>
  obtain⟨v,σ',H',J,rv,q⟩:=hs;exact fin J rv q
 | next=>
  obtain⟨σ',H',J,q⟩:=hs;exact fin (v:=V.non) (u:=Value.none) J rfl q
 | brk=>
  obtain⟨_,_,_,q⟩:=hs;exact False.elim q
 | cont=>
  obtain⟨_,_,_,q⟩:=hs;exact False.elim q
section
variable {X:Cx} {x:Str} {p pos:Pos} {e:Expr} {es:YJ} {t:TA} {id T:String} {r:YG->Hp->VK->Prop}
def tCB (r:YG->Hp->VK->Prop) (t:TA):TE:=fun O H Q=>t O H λvs H1=>r vs H1 Q
theorem Bf (hc:Fe X (.builtin id) r) (hg:Gl X x) (hm:X.mg x=none) (hv:bootBuiltins x=some (.builtin id)) (ha:PA X (e::es) t) (hn:x≠"__name__":=by decide) (hdb:(x == ("__debug__":Str))=false:=by decide)
  (he:starEach (e::es) X.env=(false,eval e X.env)::starEach es X.env:=by rfl) (hpl:(backTo pos (starEach es X.env)).any (·.1)=false:=by rfl):PE X (.Call (.Name x p) (e::es) [] pos) (tCB r t):=by
 intro jb s O H Q I h;refine QaX (Gx I hg hm hv ?_ hn hdb);refine PyProof.Rows.callWith_builtin1 (thn (ha pos jb s O H _ I h) λus s1 zz=>?_) he hpl;obtain⟨vs,H1,I1,r1,q1⟩:=zz;exact hc jb s1 O H1 vs us Q I1 r1 q1
theorem Dq (hc:Fe X (.type T) r) (hg:Gl X x) (hm:X.mg x=none) (hv:bootBuiltins x=some (.type T)) (ha:PA X (e::es) t) (hn:x≠"__name__":=by decide) (hdb:(x == ("__debug__":Str))=false:=by decide)
  (he:starEach (e::es) X.env=(false,eval e X.env)::starEach es X.env:=by rfl) (hpl:(backTo pos (starEach es X.env)).any (·.1)=false:=by rfl):PE X (.Call (.Name x p) (e::es) [] pos) (tCB r t):=by
 intro jb s O H Q I h;refine QaX (Gx I hg hm hv ?_ hn hdb);refine Qac (thn (ha pos jb s O H _ I h) λus s1 zz=>?_) he hpl;obtain⟨vs,H1,I1,r1,q1⟩:=zz;exact hc jb s1 O H1 vs us Q I1 r1 q1
end
end L2
namespace HT
open PySem PyProof.Rows
section
open PySem.SeqAt
open PySem.AutoSeq1 (wpAny_loadPart')
open PySem.MeetsSeq PySem.MeetsSeq2 PySem.MeetsSeq3
end
section
variable {prog:Program} {w:World} {A:Around} {E:YA} {s:Shared}
theorem X6 {t b:Addr} {vs ws:YE} {Q:YA} (ht:IsTup s.heap t vs.toArray) (hb:IsTup s.heap b ws.toArray) (hv:vs≠[])
  (h1:ws=[]->Q (.ref t) s) (h2:ws≠[]->Q (.ref s.heap.objs.size) { s with heap:=s.heap.push { cls:=.type "tuple",data:=.seq (vs++ws).toArray } })
  (hsz:vs.length+ws.length<=sizeLine):wpAny (model prog w) A (binaryOp .Add (.ref t) (.ref b)) Q E s:=by
 obtain⟨⟨cls,dd,data,sl⟩,ho,hc,n,hd⟩:=id ht;obtain⟨⟨cls2,dd2,data2,sl2⟩,ho2,hc2,n2,hd2⟩:=id hb;simp only at hc hd hc2 hd2;subst hc hd hc2 hd2;have e:vs.toArray++ws.toArray=(vs++ws).toArray:=by simp
 by_cases hw:ws=[]
 ·exact concat_meets ⟨_,ho,rq⟩ ⟨_,ho2,rq⟩ noFill_tuple_add seq_tuple_add PySem.F.slot_tuple_add PySem.F.entry_tuple_add (PySem.F.args_tuple_add_2 _ _)
   (tuple_addW1 t b vs.toArray ws.toArray n n2 dd dd2 sl sl2 (by simpa using hv) (by simp[hw])) ⟨ho,ho2,h1 hw⟩
 ·refine concat_meets ⟨_,ho,rq⟩ ⟨_,ho2,rq⟩ noFill_tuple_add seq_tuple_add PySem.F.slot_tuple_add PySem.F.entry_tuple_add (PySem.F.args_tuple_add_2 _ _)
   (tuple_addW2 t b vs.toArray ws.toArray n n2 dd dd2 sl sl2 (by simpa using hv) (by simpa using hw) (by rw[QaZ,QaZ];exact hsz)) ⟨ho,ho2,?_⟩
  rw[e];exact h2 hw
def sIx (n d:Nat):Option Int->Nat
 | none=>d
 | some v=>if v < 0 then (v+(n:Int)).toNat else min v.toNat n
theorem Pg (n d:Nat):sIx n d none=d:=rfl
theorem Q8 (n d k:Nat):sIx n d (some (k:Int))=min k n:=by
 show (if (k:Int) < 0 then ((k:Int)+(n:Int)).toNat else min (k:Int).toNat n)=min k n
 rw[if_neg (by omega),Qbb]
theorem Yz (n d:Nat) (hd:d<=n) (o:Option Int):sIx n d o<=n:=by
 cases o with
 | none=>exact hd
 | some v=>
  show (if v < 0 then (v+(n:Int)).toNat else min v.toNat n)<=n
  by_cases hv:v < 0
  ·rw[if_pos hv];omega
  ·rw[if_neg hv];exact Nat.min_le_right _ _
theorem Rw (v:Int) (n d:Nat):(if v < 0 then max (v+(n:Int)) 0 else min v (n:Int))=((sIx n d (some v):Nat):Int):=by
 show (if v < 0 then max (v+(n:Int)) 0 else min v (n:Int))=(((if v < 0 then (v+(n:Int)).toNat else min v.toNat n):Nat):Int)
 by_cases hv:v < 0
 ·simp only[if_pos hv];omega
 ·simp only[if_neg hv];omega
theorem Tr (lo hi:Option Int) (n:Nat):Builtin.Slice.sliceAdjust lo hi 1 (n:Int)=(((sIx n 0 lo:Nat):Int),((sIx n n hi:Nat):Int)):=by
 have h1:¬((1:Int) < 0):=by omega
 unfold Builtin.Slice.sliceAdjust;simp only[h1,Qch];refine Prod.ext ?_ ?_
 ·cases lo with
  | none=>rfl
  | some v=>exact Rw v n 0
 ·cases hi with
  | none=>rfl
  | some v=>exact Rw v n n
theorem Ss (i j:Nat):Builtin.Slice.slicePlaces (i:Int) (j:Int) 1=j - i:=by
 unfold Builtin.Slice.slicePlaces;have h1:(1:Int) > 0:=by omega
 simp only[h1,if_true,Int.ediv_one];split <;> omega
theorem Lp {v:Value} {o:Option Int} {Q:Option Int->Shared->Prop} (p:IsPart v o) (h:Q o s):wpAny (model prog w) A (Builtin.Slice.slicePartIndex v) Q E s:=by
 cases p with
 | none=>exact slicePart_none h
 | int i t=>exact slicePart_int h
theorem GZ {sl:Addr} {vl vu:Value} {lo hi:Option Int} {n:Nat} {Q:Int×Int×Nat->Shared->Prop} (hs:s.heap.IsSliceOf sl vl vu .none) (pl:IsPart vl lo) (pu:IsPart vu hi)
  (h:Q (((sIx n 0 lo:Nat):Int),1,sIx n n hi - sIx n 0 lo) s):wpAny (model prog w) A (Builtin.Slice.sliceApplied (.ref sl) (pure (n:Int))) Q E s:=by
 obtain⟨os,hos,hcs,hds⟩:=id hs;unfold Builtin.Slice.sliceApplied Builtin.Slice.sliceFields;refine Qcd (Qcd (Qcc hos hds (x:=vl) rfl (Qcd (Qcc hos hds (x:=vu) rfl (Qcd (Qcc hos hds (x:=.none) rfl (Qce ?_)))))));refine Qcd (slicePart_none ?_);show wpAny _ _ (if ((1:Int) == 0)=true then _ else _) _ _ s
 rw[if_neg (by decide)];refine Qcd (Lp pl (Qcd (Lp pu (Qcd (Qce ?_)))));show wpAny _ _ (match Builtin.Slice.sliceAdjust lo hi 1 (n:Int) with | (lo,hi)=>pure (lo,(1:Int),Builtin.Slice.slicePlaces lo hi 1)) _ _ s
 rw[Tr lo hi n];show wpAny _ _ (pure (((sIx n 0 lo:Nat):Int),(1:Int),Builtin.Slice.slicePlaces ((sIx n 0 lo:Nat):Int) ((sIx n n hi:Nat):Int) 1)) _ _ s;rw[Ss];exact Qce h
theorem VH (xs:Array Value) (i k:Nat):((List.range k).filterMap λ(m:Nat)=>xs[((i:Int)+(m:Int)*1).toNat]?).toArray=((xs.toList.drop i).take k).toArray:=by
 have e:(λ(m:Nat)=>xs[((i:Int)+(m:Int)*1).toNat]?)=λm=>xs[i+m]?:=by
  funext m
  have:((i:Int)+(m:Int)*1).toNat=i+m:=by omega
  rw[this]
 rw[e];have:=pick_run xs i k;rw[List.filterMap_map] at this;have e2:((λx=>xs[x]?) ∘ λx=>i+x)=λm=>xs[i+m]?:=rfl;rw[e2] at this;rw[this]
theorem Km {t sl:Addr} {items:Array Value} {vl vu:Value} {lo hi:Option Int} {Q:YA} (ht:IsTup s.heap t items) (hs:s.heap.IsSliceOf sl vl vu .none) (pl:IsPart vl lo) (pu:IsPart vu hi)
  (hw:¬(sIx items.size 0 lo=0/\sIx items.size items.size hi=items.size))
  (h:Q (.ref s.heap.objs.size) { s with heap:=s.heap.push { cls:=.type "tuple",data:=.seq ((items.toList.drop (sIx items.size 0 lo)).take (sIx items.size items.size hi - sIx items.size 0 lo)).toArray } })
  (hsz:items.size<=sizeLine):wpAny (model prog w) A (getItem (.ref t) (.ref sl)) Q E s:=by
 have Ow:sizeOk (.seq ((items.toList.drop (sIx items.size 0 lo)).take (sIx items.size items.size hi - sIx items.size 0 lo)).toArray):=by
  show ((items.toList.drop (sIx items.size 0 lo)).take (sIx items.size items.size hi - sIx items.size 0 lo)).toArray.size<=sizeLine;rw[QaZ,Qbk,Qbn,QaH];omega
 have hj:sIx items.size items.size hi<=items.size:=Yz _ _ (QbZ _) hi;obtain⟨os,hos,hcs,hds⟩:=id hs;have hTs:s.TypeIs (.ref sl) "slice":=⟨os,hos,hcs⟩;unfold getItem
 try with_reducible refine QbN ?_
 first | refine Qcd (Qce ?_) | skip
 refine Qcd (wpAny_sequenceKey ht.typeIs (by decide) ?_);refine Qcd (Qao (name:=Str.ofString "__getitem__") ht.typeIs Qab
  (Qbo Qab ht.typeIs entry_tuple_getitem ?_ (args_tuple_getitem _ _)))
 show wpAny _ _ (Builtin.Tuple.tupleItemsOf (.ref t) >>= _) _ _ s;refine Qcd (tupleItemsOf_ ht ?_);refine Qcd (wpAny_typeOf hTs ?_);rw[if_pos (by decide)];refine Qcd (GZ hs pl pu ?_);have hno:¬((((sIx items.size 0 lo:Nat):Int) == 0&&(1:Int) == 1&&(sIx items.size items.size hi - sIx items.size 0 lo) == items.size)=true):=by
  intro q;rw[Qbp,Qbp] at q;have q1:((sIx items.size 0 lo:Nat):Int)=0:=eq_of_beq q.1.1;have q2:sIx items.size items.size hi - sIx items.size 0 lo=items.size:=eq_of_beq q.2;exact hw ⟨by omega,by omega⟩
 show wpAny _ _ (if (((sIx items.size 0 lo:Nat):Int) == 0&&(1:Int) == 1&&(sIx items.size items.size hi - sIx items.size 0 lo) == items.size)=true then _ else _) _ _ s
 rw[if_neg hno,VH]
 first
  | exact Qcd (m:=Builtin.Tuple.tupleExact _) (Qbh (Qce ⟨_,rfl,Qce h⟩) Ow)
  | exact Qcd (m:=Builtin.Tuple.tupleExact _) (Qbh (Qcd (Qce (Qce ⟨_,rfl,Qce h⟩))) Ow)
  | exact Qcd (Qcd (m:=Builtin.Tuple.tupleExact _) (Qbh (Qce (Qce ⟨_,rfl,Qce h⟩)) Ow))
  | exact Qcd (Qcd (m:=Builtin.Tuple.tupleExact _) (Qbh (Qce ⟨_,rfl,Qce h⟩) Ow))
end
end HT
namespace L2
open PySem PySem.Spec PyProof.Rows
abbrev TO:=St->Hp->(Option Int->Hp->Prop)->Prop
def PO (X:Cx) (e:Option Expr) (t:TO):Prop:=
 ∀(jb:YC) (s:Shared) (O : St) (H:Hp) (Q:Option Int->Hp->Prop),Inv X jb O H s->t O H Q ->
  wpAny (model X.prog X.w) X.A (evalPart e X.env) (λu s'=>∃o H',Inv X jb O H' s'/\IsPart u o/\Q o H') X.xe s
def Xk:TO:=λ_ H Q=>Q none H
def Z1 (t:TE):TO:=fun O H Q=>t O H λx H1=>∃i,x=.int i/\Q (some i) H1
theorem intsAre_of {ns:List Int}:∀{us:YE},Vals (ns.map V.int) us->IntsAre us ns:=by
 induction ns with
 | nil=>intro us r;rw[List.map_nil] at r;cases r;exact .nil
 | cons n ns ih=>
  intro us r;rw[QbM] at r;cases r with
  | cons r1 r2=>
   obtain⟨t,e⟩:=r1;subst e;exact .cons n t (ih r2)
section
variable {X:Cx} {e:Expr} {te:TE} {lo hi:Option Expr} {tl th:TO} {pos p2:Pos}
theorem Dh:PO X none Xk:=by
 intro jb s O H Q I h;rw[evalPart_none];exact Qce ⟨none,H,I,.none,h⟩
theorem Dg (h:PE X e te):PO X (some e) (Z1 te):=by
 intro jb s O H Q I hw;rw[evalPart_some];refine thn (h jb s O H _ I hw) λu s1 zz=>?_;obtain⟨x,H1,I1,r1,q1⟩:=zz;obtain⟨i,rfl,q⟩:=q1;obtain⟨t,rfl⟩:=r1;exact⟨some i,H1,I1,.int i t,q⟩
def SlR (X:Cx) (r:V->Option Int->Option Int->Hp->VK->Prop):Prop:=
 ∀(jb:YC) (s:Shared) (O : St) (H:Hp) (x:V) (v vl vu:Value) (lo hi:Option Int) (sl:Addr) (Q:VK),Inv X jb O H s->RelV x v->s.heap.IsSliceOf sl vl vu .none->IsPart vl lo->IsPart vu hi->r x lo hi H Q ->
  ∃T id,typeLookup (.type T) "__getitem__"=pure (some (.builtin id))/\s.TypeIs v T/\wpAny (model X.prog X.w) X.A (getItem v (.ref sl)) (EP X jb O Q) X.xe s
def tSl (r:V->Option Int->Option Int->Hp->VK->Prop) (te:TE) (tl th:TO):TE:=fun O H Q=>te O H λx H1=>tl O H1 λl H2=>th O H2 λu H3=>r x l u H3 Q
theorem CP {r:V->Option Int->Option Int->Hp->VK->Prop} (hr:SlR X r) (he:PE X e te) (hl:PO X lo tl) (hu:PO X hi th):PE X (.Subscript e (.Slice lo hi none p2) pos) (tSl r te tl th):=by
 intro jb s O H Q I h;refine Subscript_ (thn (he jb s O H _ I h) λv s1 zz=>?_);obtain⟨x,H1,I1,r1,q1⟩:=zz;refine wpAny_Slice (thn (hl jb s1 O H1 _ I1 q1) λvl s2 zz=>?_);obtain⟨l,H2,I2,pl,q2⟩:=zz;refine thn (hu jb s2 O H2 _ I2 q2) λvu s3 zz=>?_;obtain⟨u,H3,I3,pu,q3⟩:=zz;rw[evalPart_none];refine Qce ?_;have I4:Inv X jb O H3 { s3 with heap:=s3.heap.push { cls:=.type "slice",data:=.fields #[vl,vu,.none] } }:=I3.kept (t':=s3.toks) λb ob q=>Qas _ q;obtain⟨T,id,hT,ht,hg⟩:=hr jb { s3 with heap:=s3.heap.push { cls:=.type "slice",data:=.fields #[vl,vu,.none] } } O H3 x v vl vu l u s3.heap.objs.size Q I4 r1 (Heap.IsSliceOf.new ..) pl pu q3;show wpAny (model X.prog X.w) X.A (subscriptTail e (.Slice lo hi none p2) v (.ref s3.heap.objs.size)) (EP X jb O Q) X.xe { s3 with heap:=s3.heap.push { cls:=.type "slice",data:=.fields #[vl,vu,.none] } };exact tail_any (ops:=[.ref s3.heap.objs.size,v]) ht hT hg (by with_unfolding_all rfl)
def Fp (xs:YG) (lo hi:Option Int):YG:=(xs.drop (HT.sIx xs.length 0 lo)).take (HT.sIx xs.length xs.length hi - HT.sIx xs.length 0 lo)
theorem Ks (xs:YG) (lo hi:Option Int):(Fp xs lo hi).length<=xs.length:=by
 unfold Fp;rw[Qbk,Qbn];omega
def bC (K:YD):V->Option Int->Option Int->Hp->VK->Prop:=λx lo hi H Q=>∃a xs,x=.ref a/\SqT K H a xs /\
 ¬(HT.sIx xs.length 0 lo=0/\HT.sIx xs.length xs.length hi=xs.length)/\∀p,H p=none->Q (.ref p) (upd H p (.tup (Fp xs lo hi)))
theorem Yw:SlR X (bC X.K):=by
 intro jb s O H x v vl vu lo hi sl Q I rx hs pl pu h;obtain⟨a,xs,rfl,hx,hw,q⟩:=h;cases rx;obtain⟨its,r,ht,hz⟩:=I.tuple hx;have hlen:its.toArray.size=xs.length:=by rw[QaZ];exact r.length.symm
 refine⟨"tuple",_,Qab.lookup,ht.typeIs,?_⟩;refine HT.Km ht hs pl pu (by rw[hlen];exact hw) ?_ (by rw[hlen];exact hz);rw[hlen];refine⟨.ref s.heap.objs.size,_,I.laid (t':=s.toks) (o:=.tup (Fp xs lo hi)) (λb ob q=>Qas _ q) (QbZ _) ?_,rq,q _ (I.hok.fresh (QbZ _))⟩;exact⟨QbT (Ks xs lo hi) hz,_,(r.drop (HT.sIx xs.length 0 lo)).take (HT.sIx xs.length xs.length hi - HT.sIx xs.length 0 lo),IsTup.new _ _⟩
def aj (K:YD):R2:=λx y H Q=>∃a b xs ys,x=.ref a/\y=.ref b/\SqT K H a xs/\SqT K H b ys/\xs≠[]/\xs.length+ys.length<=sizeLine /\
 (ys=[]->Q (.ref a) H)/\(ys≠[]->∀p,H p=none->Q (.ref p) (upd H p (.tup (xs++ys))))
theorem Vals.Nf {xs:YG} {us:YE} (r:Vals xs us):us=[] ↔ xs=[]:=by
 cases r with
 | nil=>simp
 | cons _ _=>simp
theorem Xx:OpR X (binaryOp .Add) (aj X.K):=by
 intro jb s O H x y v u Q I rx ry h;obtain⟨a,b,xs,ys,rfl,rfl,ha,hb,hx,hz,q1,q2⟩:=h;cases rx;cases ry;obtain⟨its,r1,p1,_⟩:=I.tuple ha;obtain⟨its2,r2,p2,_⟩:=I.tuple hb;refine HT.X6 p1 p2 (λz=>hx (r1.Nf.mp z)) (λz=>⟨.ref a,H,I,rq,q1 (r2.Nf.mp z)⟩) (λz=>?_) (by rw[<-r1.length,<-r2.length];exact hz);refine⟨.ref s.heap.objs.size,_,I.laid (t':=s.toks) (o:=.tup (xs++ys)) (λb ob q=>Qas _ q) (QbZ _) ?_,rq,q2 (λw=>z (r2.Nf.mpr w)) _ (I.hok.fresh (QbZ _))⟩;exact⟨by rw[QaL];exact hz,_,r1.append r2,IsTup.new _ _⟩
end
def ixN (n:Nat) (i:Int):Option Nat:=if 0<=i then (if i < n then some i.toNat else none) else if -(n:Int)<=i then some (i+n).toNat else none
def atI {α : Type} (xs:List α) (i:Int):Option α:=(ixN xs.length i).bind λj=>xs[j]?
theorem Rj {n:Nat} {i:Int} {j:Nat} (h:ixN n i=some j):seqIndex? i n=some j/\j < n/\-(n:Int)<=i/\i < n:=by
 unfold ixN at h;by_cases h0:0<=i
 ·rw[if_pos h0] at h;by_cases h1:i < n
  ·rw[if_pos h1] at h;have e:i.toNat=j:=Qby h;exact⟨by rw[seqIndex_of h0 h1,e],by omega,by omega,h1⟩
  ·rw[if_neg h1] at h;cases h
 ·rw[if_neg h0] at h;by_cases h1:-(n:Int)<=i
  ·rw[if_pos h1] at h;have e:(i+n).toNat=j:=Qby h;exact⟨by rw[seqIndex_neg (by omega) h1,e],by omega,h1,by omega⟩
  ·rw[if_neg h1] at h;cases h
theorem Nv {α : Type} {xs:List α} {i:Int} {v:α} (h:atI xs i=some v):∃j,seqIndex? i xs.length=some j/\xs[j]?=some v/\j < xs.length/\-(xs.length:Int)<=i/\i < xs.length:=by
 unfold atI at h;cases e:ixN xs.length i with
 | none=>rw[e] at h;cases h
 | some j=>
  rw[e] at h;obtain⟨h1,h2,h3,h4⟩:=Rj e;exact⟨j,h1,h,h2,h3,h4⟩
theorem Az {α : Type} {xs:List α} {j:Nat} {v:α} (h:xs[j]?=some v):atI xs (j:Int)=some v:=by
 have hj:j < xs.length:=(Qaf.mp h).1;have e:ixN xs.length (j:Int)=some j:=by
  unfold ixN;rw[if_pos (by omega),if_pos (by omega)];simp
 unfold atI;rw[e];exact h
def Yb (b:Expr):Prop:=∀o i,subscripted b false o i=operate [o,i] (getItem o i)
def IxR (X:Cx) (r:R2):Prop:=
 ∀(value slice:Expr) (jb:YC) (s:Shared) (O : St) (H:Hp) (x y:V) (v u:Value) (Q:VK),Inv X jb O H s->RelV x v->RelV y u->r x y H Q ->
  subscripted slice false v u=operate [v,u] (getItem v u)->wpAny (model X.prog X.w) X.A (subscriptTail value slice v u) (EP X jb O Q) X.xe s
def MtR (X:Cx) (id:String) (r:V->YG->Hp->VK->Prop):Prop:=
 ∀(jb:YC) (s:Shared) (O : St) (H:Hp) (x:V) (xs:YG) (v:Value) (us:YE) (Q:VK),Inv X jb O H s->RelV x v->Vals xs us->r x xs H Q ->
  wpAny (model X.prog X.w) X.A (call (.builtin id) (v::us)) (EP X jb O Q) X.xe s
section
variable {X:Cx} {a b:Expr} {ta tb:TE} {pos:Pos}
theorem Bb {r:R2} (hr:IxR X r) (ha:PE X a ta) (hb:PE X b tb) (hs:Yb b):PE X (.Subscript a b pos) (tOp r ta tb):=by
 intro jb s O H Q I h;exact Subscript_ (WM ha hb I h λv u s2 x y H2 I2 rx ry q=>hr a b jb s2 O H2 x y v u Q I2 rx ry q (hs _ _))
def bI (K:YD):R2:=λx y H Q=>∃p xs i v,x=.ref p/\y=.int i/\SqL K H p xs/\atI xs i=some v/\Q v H
def bF (K:YD):R2:=λx y H Q=>∃p xs i v,x=.ref p/\y=.int i/\SqT K H p xs/\atI xs i=some v/\Q v H
def bG:R2:=λx y H Q=>∃z i c,x=.str z/\y=.int i/\z.length<=sizeLine/\atI z.cps.toList i=some c/\Q (.str ⟨#[c]⟩) H
theorem BP:IxR X (bI X.K):=by
 intro value slice jb s O H x y v u Q I rx ry h hs;obtain⟨p,xs,i,z,rfl,rfl,hq,he,q⟩:=h;cases rx;obtain⟨t,rfl⟩:=ry;obtain⟨its,r,pl,hz⟩:=I.list hq;obtain⟨j,h1,h2,h3,h4,h5⟩:=Nv he;obtain⟨w,ew,rw'⟩:=r.get h2;have hl:=r.length;have hn:=Ip;have fin:EP X jb O Q w s:=⟨z,H,I,rw',q⟩;by_cases h0:0<=i
 ·have hj:i.toNat=j:=by
   rw[seqIndex_of h0 h5] at h1;exact Qby h1
  exact item_listR pl.isList h0 (by omega) (by rw[hj];simpa using ew) fin hs
 ·have hj:(i+(its.toArray.size:Int)).toNat=j:=by
   rw[seqIndex_neg (by omega) h4] at h1;rw[QaZ,<-hl];exact Qby h1
  exact subscriptTail_builtinR (x:=w) pl.isList.typeIs slot_list_getitem.lookup
   (wpAny_getItem_list_neg (Q:=λr s'=>r=w/\EP X jb O Q r s') pl.isList (by omega) (by rw[QaZ] <;> omega) (by omega) (by rw[hj];simpa using ew) ⟨rq,fin⟩) hs
theorem Br:IxR X (bF X.K):=by
 intro value slice jb s O H x y v u Q I rx ry h hs;obtain⟨p,xs,i,z,rfl,rfl,hq,he,q⟩:=h;cases rx;obtain⟨t,rfl⟩:=ry;obtain⟨its,r,pl,hz⟩:=I.tuple hq;obtain⟨j,h1,h2,h3,h4,h5⟩:=Nv he;obtain⟨w,ew,rw'⟩:=r.get h2;have hl:=r.length;have hn:=Ip;have fin:EP X jb O Q w s:=⟨z,H,I,rw',q⟩;exact subscriptTail_builtinR (x:=w) pl.typeIs slot_tuple_getitem.lookup
  (getItem_tuple (j:=j) (Q:=λr s'=>r=w/\EP X jb O Q r s') pl (by omega) (by omega) (by rw[QaZ,<-hl];exact h1) (by simpa using ew) ⟨rq,fin⟩) hs
theorem Zk:IxR X bG:=by
 intro value slice jb s O H x y v u Q I rx ry h hs;obtain⟨z,i,c,rfl,rfl,hz,he,q⟩:=h;obtain⟨t,rfl⟩:=rx;obtain⟨t',rfl⟩:=ry;obtain⟨j,h1,h2,h3,h4,h5⟩:=Nv he;have hl:z.cps.toList.length=z.length:=by simp[Str.length]
 rw[hl] at h1 h4 h5;have hn:=Ip;exact tail_any (typeIs_str s z t) slot_str_getitem.lookup (getItem_str (c:=c) (by
  have e1:decide (i < -(2 ^ 63:Int))=false:=Qbx (by omega);have e2:decide (i ≥ 2 ^ 63)=false:=Qbx (by omega);rw[e1,e2,Bool.or_false]) (by rw[h1];simpa using h2) ⟨.str ⟨#[c]⟩,H,I.tok _,⟨_,rq⟩,q⟩) hs
theorem SX (its:YE) (n j:Nat) (u:Value):Obj.mapSeq (·.setIfInBounds j u) { cls:=.type "list",data:=.seq its.toArray n }={ cls:=.type "list",data:=.seq (its.set j u).toArray n }:=by
 simp[Obj.mapSeq]
theorem Inv.lst {jb:YC} {O : St} {H:Hp} {s:Shared} {p:Addr} {xs:YG} (I:Inv X jb O H s) (h:H p=some (.lst xs)) :
  ∃(its:YE) (n:Nat),Vals xs its/\s.heap.get? p=some { cls:=.type "list",data:=.seq its.toArray n }/\xs.length<=sizeLine:=by
 obtain⟨z,its,n,r,e⟩:=I.hok p _ h;exact⟨its,n,r,e,z⟩
theorem Inv.Zf {jb:YC} {O : St} {H:Hp} {s:Shared} {p:Addr} {xs ys:YG} {its its':YE} {n n':Nat} {f:Obj->Obj} (I:Inv X jb O H s) (h:H p=some (.lst xs))
  (ho:s.heap.get? p=some { cls:=.type "list",data:=.seq its.toArray n }) (hf:f { cls:=.type "list",data:=.seq its.toArray n }={ cls:=.type "list",data:=.seq its'.toArray n' }) (r:Vals ys its') (hz:ys.length<=sizeLine) (t:Nat) :
  Inv X jb O (upd H p (.lst ys)) { s with heap:=s.heap.update p f,toks:=t }:=by
 have e:(s.heap.update p f).get? p=some { cls:=.type "list",data:=.seq its'.toArray n' }:=by
  rw[Qay f ho (by rw[hf] <;> rfl),hf]
 refine I.write (x:=p) (e:=p) (by rw[h];trivial) (.inl rfl) (λb u hb q=>(Heap.get?_update_other _ _ (Ne.symm hb)).trans q) ⟨_,e⟩ ?_;exact⟨hz,its',n',r,e⟩
def Z9:V->V->V->Hp->(Hp->Prop)->Prop:=λo i v H Q=>∃p xs k j,o=.ref p/\i=.int k/\H p=some (.lst xs)/\ixN xs.length k=some j/\Q (upd H p (.lst (xs.set j v)))
theorem set_list:ZR X Z9:=by
 intro jb s O H o i v ov iv u Q I ro ri rv h;obtain⟨p,xs,k,j,rfl,rfl,hp,hj,q⟩:=h;cases ro;obtain⟨t,rfl⟩:=ri;obtain⟨its,n,r,ho,hz⟩:=I.lst hp;obtain⟨h1,h2,h3,h4⟩:=Rj hj;have hl:=r.length;have hn:=Ip;have I':Inv X jb O (upd H p (.lst (xs.set j v))) { s with heap:=s.heap.update p (Obj.mapSeq (·.setIfInBounds j u)) }:=
  I.Zf hp ho (SX its n j u) (r.set rv j) (by rw[List.length_set];exact hz) s.toks
 by_cases h0:0<=k
 ·have hk:k.toNat=j:=by
   rw[seqIndex_of h0 h4] at h1;exact Qby h1
  exact PySem.W.ki_setAt ho h0 (by omega) (by rw[QaZ,<-hl];exact h4) (by rw[hk];exact⟨_,I',q⟩)
 ·have hk:(k+(its.toArray.size:Int)).toNat=j:=by
   rw[seqIndex_neg (by omega) h3] at h1;rw[QaZ,<-hl];exact Qby h1
  exact PySem.W.ki_setBack ho (by omega) (by rw[QaZ,<-hl];exact h3) (by omega) (by rw[hk];exact⟨_,I',q⟩)
theorem Pa (lo hi:Option Int) (n:Nat):(sliceBounds lo hi none n).1=((HT.sIx n 0 lo:Nat):Int)/\(sliceBounds lo hi none n).2.1=((HT.sIx n n hi:Nat):Int)/\(sliceBounds lo hi none n).2.2=1:=by
 refine⟨?_,?_,rq⟩
 ·cases lo with
  | none=>simp[sliceBounds,HT.sIx]
  | some i=>
   simp only[sliceBounds,HT.sIx,Option.getD_none,show (1:Int) > 0 by decide,if_true];by_cases h:i < 0
   ·simp only[h,if_true] <;> omega
   ·simp only[h,Qch] <;> omega
 ·cases hi with
  | none=>simp[sliceBounds,HT.sIx]
  | some i=>
   simp only[sliceBounds,HT.sIx,Option.getD_none,show (1:Int) > 0 by decide,if_true];by_cases h:i < 0
   ·simp only[h,if_true] <;> omega
   ·simp only[h,Qch] <;> omega
theorem Ou (its:YE) (lo hi:Option Int):slicePick its.toArray lo hi none=((its.drop (HT.sIx its.length 0 lo)).take (HT.sIx its.length its.length hi - HT.sIx its.length 0 lo)).toArray:=by
 obtain⟨h1,h2,h3⟩:=Pa lo hi its.toArray.size;unfold slicePick;rw[h1,h2,h3];simp only[sliceRange_one,pick_run,QaZ] <;> rfl
def bD (K:YD):V->Option Int->Option Int->Hp->VK->Prop:=λx lo hi H Q=>∃a xs,x=.ref a/\SqL K H a xs/\∀p,H p=none->Q (.ref p) (upd H p (.lst (Fp xs lo hi)))
theorem Q7:SlR X (bD X.K):=by
 intro jb s O H x v vl vu lo hi sl Q I rx hs pl pu h;obtain⟨a,xs,rfl,hx,q⟩:=h;cases rx;obtain⟨its,r,ht,hz⟩:=I.list hx;have hlen:=r.length;refine⟨"list",_,slot_list_getitem.lookup,ht.isList.typeIs,?_⟩;refine wpAny_getItem_list_slice ht.isList hs pl pu .none (by simp) ?_ (by rw[QaZ] <;> omega);rw[Ou,<-hlen];refine⟨.ref s.heap.objs.size,_,I.laid (t':=s.toks) (o:=.lst (Fp xs lo hi)) (λb ob q=>Qas _ q) (QbZ _) ?_,rq,q _ (I.hok.fresh (QbZ _))⟩;exact⟨QbT (Ks xs lo hi) hz,_,0,(r.drop (HT.sIx xs.length 0 lo)).take (HT.sIx xs.length xs.length hi - HT.sIx xs.length 0 lo),QaG _ rfl⟩
def Gn:V->Bool
 | .non=>true
 | .bl _=>true
 | .int _=>true
 | .str _=>true
 | _=>false
def eqV:V->V->Bool
 | .non,.non=>true
 | .bl a,.bl b=>a == b
 | .bl a,.int b=>(if a then 1 else 0) == b
 | .int a,.bl b=>a == (if b then 1 else 0)
 | .int a,.int b=>a == b
 | .str a,.str b=>a == b
 | _,_=>false
theorem ZJ {A:Around} {s:Shared} {y x:V} {u v:Value} (ry:RelV y u) (rx:RelV x v) (fy:Gn y=true) (fx:Gn x=true):SeqAt.EqAt A s u v (eqV y x):=by
 cases y with
 | non=>
  cases ry;cases x with
  | non=>cases rx;exact SeqAt.EqAt.same _
  | bl b=>cases rx;exact SeqAt.EqAt.none_bool b
  | int b=>obtain⟨t,rfl⟩:=rx;exact SeqAt.EqAt.none_int b t
  | str b=>obtain⟨t,rfl⟩:=rx;exact SeqAt.EqAt.none_str b t
  | _=>exact absurd (show false=true from fx) QaN
 | bl a=>
  cases ry;cases x with
  | non=>cases rx;exact SeqAt.EqAt.bool_none a
  | bl b=>cases rx;exact SeqAt.EqAt.bool_bool a b
  | int b=>obtain⟨t,rfl⟩:=rx;exact SeqAt.EqAt.bool_int a b t
  | str b=>obtain⟨t,rfl⟩:=rx;exact SeqAt.EqAt.bool_str a b t
  | _=>exact absurd (show false=true from fx) QaN
 | int a=>
  obtain⟨t',rfl⟩:=ry;cases x with
  | non=>cases rx;exact SeqAt.EqAt.int_none a t'
  | bl b=>cases rx;exact SeqAt.EqAt.int_bool a t' b
  | int b=>obtain⟨t,rfl⟩:=rx;exact SeqAt.EqAt.int_int a t' b t
  | str b=>obtain⟨t,rfl⟩:=rx;exact SeqAt.EqAt.int_str a t' b t
  | _=>exact absurd (show false=true from fx) QaN
 | str a=>
  obtain⟨t',rfl⟩:=ry;cases x with
  | non=>cases rx;exact SeqAt.EqAt.str_none a t'
  | bl b=>cases rx;exact SeqAt.EqAt.str_bool a t' b
  | int b=>obtain⟨t,rfl⟩:=rx;exact SeqAt.EqAt.str_int a t' b t
  | str b=>obtain⟨t,rfl⟩:=rx;exact SeqAt.EqAt.str_str a t' b t
  | _=>exact absurd (show false=true from fx) QaN
 | _=>exact absurd (show false=true from fy) QaN
def eqU (x:V) (u:Value):Bool:=match u with
 | .none=>eqV .non x
 | .bool b=>eqV (.bl b) x
 | .int i _=>eqV (.int i) x
 | .str z _=>eqV (.str z) x
 | _=>false
theorem U8 {x y:V} {u:Value} (r:RelV y u) (f:Gn y=true):eqU x u=eqV y x:=by
 cases y with
 | non=>cases r;rfl
 | bl b=>cases r;rfl
 | int i=>obtain⟨t,rfl⟩:=r;rfl
 | str z=>obtain⟨t,rfl⟩:=r;rfl
 | _=>exact absurd (show false=true from f) QaN
theorem Ir {x:V}:∀{xs:YG} {us:YE},Vals xs us->xs.all Gn=true->us.any (eqU x)=xs.any λy=>eqV y x
 | _,_,.nil,_=>rfl
 | y::xs,u::us,.cons r t,f=>by
  rw[List.all_cons,Qbp] at f;rw[QbQ,QbQ,U8 r f.1,Ir t f.2]
theorem G7 {A:Around} {s:Shared} {x:V} {v:Value} (rx:RelV x v) (fx:Gn x=true):∀{xs:YG} {us:YE},Vals xs us->xs.all Gn=true->∀u∈us,SeqAt.EqAt A s u v (eqU x u)
 | _,_,.nil,_=>λu hu=>by cases hu
 | y::xs,u::us,.cons r t,f=>λu' hu=>by
  rw[List.all_cons,Qbp] at f;rcases QbL.mp hu with rfl | hu
  ·rw[U8 r f.1];exact ZJ r rx f.1 fx
  ·exact G7 rx fx t f.2 u' hu
def inV (x:V) (xs:YG):Bool:=xs.any λy=>eqV y x
def rIn (K:YD) (neg:Bool):R2:=λx y H Q=>∃p xs,y=.ref p/\(SqL K H p xs\/SqT K H p xs)/\Gn x=true/\xs.all Gn=true/\Q (.bl (if neg then !inV x xs else inV x xs)) H
theorem Hl:OpR X (compareOp .In) (rIn X.K false):=by
 intro jb s O H x y v u Q I rx ry h;obtain⟨p,xs,rfl,hq,fx,fs,q⟩:=h;cases ry;rcases hq with hq | hq
 ·obtain⟨its,r,pl,hz⟩:=I.list hq;refine SeqAt.in_listAt (eqU x) pl.isList (λw hw=>G7 rx fx r fs w (by simpa using hw)) ⟨.bl _,H,I,rq,?_⟩;rw[show its.toArray.any (eqU x)=its.any (eqU x) by simp,Ir r fs];exact q
 ·obtain⟨its,r,pl,hz⟩:=I.tuple hq;refine SeqAt.in_tupleAt (eqU x) pl (λw hw=>G7 rx fx r fs w (by simpa using hw)) ⟨.bl _,H,I,rq,?_⟩;rw[show its.toArray.any (eqU x)=its.any (eqU x) by simp,Ir r fs];exact q
theorem JC:OpR X (compareOp .NotIn) (rIn X.K true):=by
 intro jb s O H x y v u Q I rx ry h;obtain⟨p,xs,rfl,hq,fx,fs,q⟩:=h;cases ry;rcases hq with hq | hq
 ·obtain⟨its,r,pl,hz⟩:=I.list hq;refine SeqAt.notIn_listAt (eqU x) pl.isList (λw hw=>G7 rx fx r fs w (by simpa using hw)) ⟨.bl _,H,I,rq,?_⟩;rw[show its.toArray.any (eqU x)=its.any (eqU x) by simp,Ir r fs];exact q
 ·obtain⟨its,r,pl,hz⟩:=I.tuple hq;refine SeqAt.notIn_tupleAt (eqU x) pl (λw hw=>G7 rx fx r fs w (by simpa using hw)) ⟨.bl _,H,I,rq,?_⟩;rw[show its.toArray.any (eqU x)=its.any (eqU x) by simp,Ir r fs];exact q
theorem Ba:Fe X (.builtin "len") (λxs H Q=>∃p ys,xs=[.ref p]/\(SqL X.K H p ys\/SqT X.K H p ys)/\Q (.int ys.length) H):=by
 intro jb s O H xs us Q I r h;obtain⟨p,ys,rfl,hq,q⟩:=h;obtain⟨u,rfl,rx⟩:=vals1 r;cases rx;have hn:=Ip;rcases hq with hq | hq
 ·obtain⟨its,r',pl,hz⟩:=I.list hq;have hlen:=r'.length;exact Calls.call_len_list pl.isList (by simp only[QaZ] <;> omega) ⟨.int ys.length,H,I.tok _,⟨s.toks+1,by rw[QaZ,hlen]⟩,q⟩
 ·obtain⟨its,r',pl,hz⟩:=I.tuple hq;have hlen:=r'.length;exact len_tuple pl (by simp only[QaZ] <;> omega) ⟨.int ys.length,H,I.tok _,⟨s.toks+1,by rw[QaZ,hlen]⟩,q⟩
theorem JM:Fe X (.type "list") (λxs H Q=>∃p ys,xs=[.ref p]/\(SqL X.K H p ys\/SqT X.K H p ys)/\∀l,H l=none->Q (.ref l) (upd H l (.lst ys))):=by
 intro jb s O H xs us Q I r h;obtain⟨p,ys,rfl,hq,q⟩:=h;obtain⟨u,rfl,rx⟩:=vals1 r;cases rx;have fin:∀(its:YE),Vals ys its->ys.length<=sizeLine->∀(h':Heap) (c':Nat),(∀b o',s.heap.get? b=some o'->h'.get? b=some o') ->
   h'.get? s.heap.objs.size=some { cls:=.type "list",dict:=none,data:=.seq its.toArray c',slots:=#[] }->EP X jb O Q (.ref s.heap.objs.size) { s with heap:=h' }:=λits r' hz h' c' kp e=>
  ⟨.ref s.heap.objs.size,_,I.laid (t':=s.toks) kp (QbZ _) (show BX X.prog X.w _ h' _ (.lst ys) from⟨hz,its,c',r',e⟩),rq,q _ (I.hok.fresh (QbZ _))⟩
 rcases hq with hq | hq
 ·obtain⟨its,r',pl,hz⟩:=I.list hq;have hlen:=r'.length;obtain⟨o,ho,hc,n,hd⟩:=pl.isList;exact call_list_seq p (.inl rfl) ho hc hd (λh' c' kp e=>fin its r' hz h' c' kp e) (by simp only[QaZ] <;> omega)
 ·obtain⟨its,r',pl,hz⟩:=I.tuple hq;have hlen:=r'.length;obtain⟨o,ho,hc,n,hd⟩:=pl;exact call_list_seq p (.inr rfl) ho hc hd (λh' c' kp e=>fin its r' hz h' c' kp e) (by simp only[QaZ] <;> omega)
theorem Dw:Fe X (.type "tuple") (λxs H Q=>∃p ys,xs=[.ref p]/\((SqL X.K H p ys/\∀l,H l=none->Q (.ref l) (upd H l (.tup ys)))\/(SqT X.K H p ys/\Q (.ref p) H))):=by
 intro jb s O H xs us Q I r h;obtain⟨p,ys,rfl,h⟩:=h;obtain⟨u,rfl,rx⟩:=vals1 r;cases rx;rcases h with⟨hq,q⟩|⟨hq,q⟩
 ·obtain⟨its,r',pl,hz⟩:=I.list hq;have hlen:=r'.length;refine call_tuple_list pl.isList (λh' kp=>?_) (by simp only[QaZ] <;> omega);have I1:Inv X jb O H { s with heap:=h' }:=I.kept (t':=s.toks) kp;have I2:Inv X jb O (upd H h'.objs.size (.tup ys)) { s with heap:=h'.push { cls:=.type "tuple",data:=.seq its.toArray } }:=
   I1.laid (t':=s.toks) (λb o e=>Qas _ e) (QbZ _) (show BX X.prog X.w _ _ _ (.tup ys) from⟨hz,its,r',IsTup.new _ _⟩)
  exact⟨.ref h'.objs.size,_,I2,rq,q _ (I1.hok.fresh (QbZ _))⟩
 ·obtain⟨its,r',pl,hz⟩:=I.tuple hq;exact call_tuple_same pl ⟨.ref p,H,I,rq,q⟩
def tyV (K:YD) (T:String) (x:V) (H:Hp):Prop:=match x with
 | .str _=>T="str"
 | .int _=>T="int"
 | .ref p=>(T="list"/\∃xs,SqL K H p xs)\/(T="tuple"/\∃o,K.lookup p=some o/\o.cls=.type "tuple"/\o.dict=none) \/
   (T="dict"/\((∃kvs,H p=some (.dK kvs))\/∃kvs,H p=some (.dT kvs)))\/(T="set"/\∃S n,H p=some (.set S n))
 | _=>False
theorem Yh {jb:YC} {O : St} {H:Hp} {s:Shared} {T:String} {x:V} {v:Value} (I:Inv X jb O H s) (r:RelV x v) (ty:tyV X.K T x H) :
  s.TypeIs v T/\∀a,v=.ref a->∃ob,s.heap.get? a=some ob/\ob.dict=none:=by
 cases x with
 | str z=>
  obtain⟨t,rfl⟩:=r;cases (show T="str" from ty)
  exact⟨typeIs_str s z t,λ_ e=>nomatch e⟩
 | int i=>
  obtain⟨t,rfl⟩:=r;cases (show T="int" from ty)
  exact⟨typeIs_int s i t,λ_ e=>nomatch e⟩
 | ref p=>
  cases r;rcases ty with⟨rfl,xs,hq⟩|⟨rfl,o,hk,hc,hd⟩|⟨rfl,hk⟩|⟨rfl,S,n,hk⟩
  ·obtain⟨its,_,pl,_⟩:=I.list hq;refine⟨pl.isList.typeIs,λa e=>?_⟩;cases e;obtain⟨o,n,e,c,hd,_⟩:=pl;exact⟨o,e,hd⟩
  ·refine⟨⟨o,I.kIn p o hk,hc⟩,λa e=>?_⟩;cases e;exact⟨o,I.kIn _ o hk,hd⟩
  ·have z:∃o,s.heap.get? p=some o/\o.ExactDict:=by
    rcases hk with⟨kvs,hk⟩|⟨kvs,hk⟩
    ·obtain⟨_,_,_,_,o,_,_,e,ex,_⟩:=I.hok p _ hk;exact⟨o,e,ex⟩
    ·obtain⟨_,_,_,_,o,_,_,e,ex,_⟩:=I.hok p _ hk;exact⟨o,e,ex⟩
   obtain⟨o,e,ex⟩:=z;refine⟨⟨o,e,ex.1⟩,λa e2=>?_⟩;cases e2;exact⟨o,e,ex.2.1⟩
  ·obtain⟨o,_,_,_,e,ex,_⟩:=I.hok p _ hk;refine⟨⟨o,e,ex.1⟩,λa e2=>?_⟩;cases e2;exact⟨o,e,ex.2.1⟩
 | _=>exact False.elim ty
def tBM (K:YD) (T:String) (r:V->YG->Hp->VK->Prop) (to:TE) (t:TA):TE:=fun O H Q=>to O H λx H1=>tyV K T x H1/\t O H1 λxs H2=>r x xs H2 Q
variable {o e:Expr} {es:YJ} {to:TE} {t:TA} {name:Str} {apos cpos:Pos} {T id:String} {r:V->YG->Hp->VK->Prop}
theorem Dn (pa:PlainAttrs T) (slot:Slot T name id) (hty:typeOf (.builtin id)=pure (.type "method_descriptor")) (hm:MtR X id r) (ho:PE X o to) (ha:PA X (e::es) t)
  (hbase:attributeBase o name X.env (eval o X.env)=eval o X.env:=by rfl)
  (hfew:((backTo cpos (starEach (e::es) X.env)).all (λx=>!x.1)&&(backToKw cpos (keywordEach [] X.env)).all (λx=>x.1.isSome)
  &&decide ((e::es).length+([]:List Keyword).length+(if ([]:List Keyword).isEmpty then 0 else 1) < 30))=true:=by rfl)
  (hline:(apos.endLine == cpos.line)=true:=by rfl) (hs:starEach (e::es) X.env=(false,eval e X.env)::starEach es X.env:=by rfl) (hplain:(backTo cpos (starEach es X.env)).any (·.1)=false:=by rfl) :
  PE X (.Call (.Attribute o name apos) (e::es) [] cpos) (tBM X.K T r to t):=by
 intro jb s O H Q I h;refine wpAny_Call_method_late hbase hfew hline rfl (thn (ho jb s O H _ I h) λv s1 zz=>?_);obtain⟨x,H1,I1,r1,ty,q1⟩:=zz;obtain⟨h1,h2⟩:=Yh I1 r1 ty;refine⟨T,id,pa,slot,hty,h1,h2,?_⟩;have hA:=ha cpos jb s1 O H1 _ I1 q1;rw[hs] at hA ⊢;refine Calls.callWith_builtin (by show (false || (backTo cpos (starEach es X.env)).any (·.1))=false;rw[hplain] <;> rfl) (Calls.evalArgs_plain ?_);refine thn hA λus s2 zz=>?_;obtain⟨vs,H2,I2,r2,q2⟩:=zz;exact hm jb s2 O H2 x vs v us Q I2 r1 r2 q2
end
def MtM (X:Cx) (id:String) (r:V->YG->Hp->VK->Prop):Prop:=
 ∀(jb:YC) (s:Shared) (O : St) (H:Hp) (x:V) (xs:YG) (v:Value) (us:YE) (Q:VK),Inv X jb O H s->RelV x v->Vals xs us->r x xs H Q ->
  wpAny (model X.prog X.w) X.A (call (.builtin id) (v::us)) (EP X jb O Q) X.xe s
theorem Vals.one:∀{x:V} {us:YE},Vals [x] us->∃u,us=[u]/\RelV x u
 | _,_,.cons r .nil=>⟨_,rfl,r⟩
theorem Vals.zero:∀{us:YE},Vals [] us->us=[]
 | _,.nil=>rfl
theorem Vals.eraseIdx:∀{xs:YG} {us:YE} (i:Nat),Vals xs us->Vals (xs.eraseIdx i) (us.eraseIdx i)
 | _,_,_,.nil=>.nil
 | _,_,0,.cons _ t=>t
 | _,_,i+1,.cons r t=>.cons r (Vals.eraseIdx i t)
theorem Vals.reverse {xs:YG} {us:YE} (h:Vals xs us):Vals xs.reverse us.reverse:=by
 induction h with
 | nil=>exact .nil
 | cons r t ih=>rw[List.reverse_cons,List.reverse_cons];exact Vals.append ih (.cons r .nil)
theorem Vals.rep {xs:YG} {us:YE} (h:Vals xs us):∀k:Nat,Vals (List.replicate k xs).flatten (List.replicate k us).flatten
 | 0=>.nil
 | k+1=>by
  rw[List.replicate_succ,List.replicate_succ,List.flatten_cons,List.flatten_cons];exact Vals.append h (Vals.rep h k)
theorem N7 {α : Type}:∀(l:List α) (i:Nat),(l.eraseIdx i).length<=l.length
 | [],_=>QbZ _
 | _::_,0=>Nat.le_succ _
 | _::r,i+1=>Nat.succ_le_succ (N7 r i)
section
variable {X:Cx} {jb:YC} {O : St} {H:Hp} {s:Shared} {l b:Addr} {xs ys zs:YG}
theorem Inv.Wc {its its':YE} {n:Nat} {f:Array Value->Array Value} {t':Nat} (I:Inv X jb O H s) (hH:H l=some (.lst xs))
  (e:s.heap.get? l=some { cls:=.type "list",data:=.seq its.toArray n }) (hf:f its.toArray=its'.toArray) (hv:Vals ys its') (hz:ys.length<=sizeLine) :
  Inv X jb O (upd H l (.lst ys)) { s with heap:=s.heap.update l (Obj.mapSeq f),toks:=t' }:=by
 have q:=PySem.IsL.update e f;rw[hf] at q;refine I.write (x:=l) (e:=l) (by rw[hH];exact trivial) (.inl rfl) (λb' u hb hu=>(Heap.get?_update_other s.heap (Obj.mapSeq f) (Ne.symm hb)).trans hu) ⟨_,q⟩ ?_;exact⟨hz,its',_,hv,q⟩
theorem Inv.fresh (I:Inv X jb O H s):H s.heap.objs.size=none:=I.hok.fresh (QbZ _)
theorem Inv.S5 (I:Inv X jb O H s) (hH:H l=some (.lst xs)):xs.length<=sizeLine/\∃(its:YE) (n:Nat),Vals xs its/\xs.length=its.length/\s.heap.get? l=some { cls:=.type "list",data:=.seq its.toArray n }:=by
 obtain⟨z,its,n,r,e⟩:=I.hok l _ hH;exact⟨z,its,n,r,r.length,e⟩
theorem V6 {n:Nat} (h:n<=sizeLine):Builtin.List.listTooLong n=false:=by
 unfold Builtin.List.listTooLong;exact Qbx (by omega)
end
section
variable {X:Cx}
def Xo:V->YG->Hp->VK->Prop:=λx vs H Q=>∃l xs y,x=.ref l/\vs=[y]/\H l=some (.lst xs)/\xs.length < sizeLine/\Q .non (upd H l (.lst (xs++[y])))
theorem CV:MtM X "list.append" Xo:=by
 intro jb s O H x vs v us Q I rx rv h;obtain⟨l,xs,y,rfl,rfl,hH,hz,q⟩:=h;cases rx;obtain⟨u,rfl,ru⟩:=rv.one;obtain⟨z,its,n,r,hl,e⟩:=I.S5 hH;refine call_meets F.slot_list_append ⟨_,e,rq⟩ F.entry_list_append (F.args_list_append_2 _ _) (PySem.list_append l its.toArray n u (by rw[QaZ];omega)) ⟨e,?_⟩;refine⟨.non,_,I.Wc (its':=its++[u]) hH e (by simp) (r.append (.cons ru .nil)) ?_,rq,q⟩;rw[QaL,Qax];omega
def Xn:V->YG->Hp->VK->Prop:=λx vs H Q=>∃l b xs zs,x=.ref l/\vs=[.ref b]/\H l=some (.lst xs)/\H b=some (.lst zs)/\xs.length+zs.length<=sizeLine/\Q .non (upd H l (.lst (xs++zs)))
theorem Gw:MtM X "list.extend" Xn:=by
 intro jb s O H x vs v us Q I rx rv h;obtain⟨l,b,xs,zs,rfl,rfl,hH,hB,hz,q⟩:=h;cases rx;obtain⟨u,rfl,ru⟩:=rv.one;cases ru;obtain⟨z,its,n,r,hl,e⟩:=I.S5 hH;obtain⟨z2,its2,n2,r2,hl2,e2⟩:=I.S5 hB;have hsz:its.toArray.size+its2.toArray.size<=sizeLine:=by rw[QaZ,QaZ];omega
 have aM:¬(!its.toArray.isEmpty&&Builtin.List.listTooLong (its.toArray.size+its2.toArray.size))=true:=by
  rw[V6 hsz,Bool.and_false];exact QaN
 refine call_meets F.slot_list_extend ⟨_,e,rq⟩ F.entry_list_extend (F.args_list_extend_2 _ _)
  (AutoSeq1.list_extend_list_list_0 l its.toArray n b its2.toArray n2 aM (by rw[QaZ];omega) (by omega)) ⟨e,e2,?_⟩
 refine⟨.non,_,I.Wc (its':=its++its2) hH e (by simp) (r.append r2) ?_,rq,q⟩;rw[QaL];omega
def YQ:V->YG->Hp->VK->Prop:=λx vs H Q=>∃l xs i k y,x=.ref l/\vs=[.int i]/\H l=some (.lst xs)/\-(2 ^ 63)<=i/\i < 2 ^ 63/\seqIndex? i xs.length=some k/\xs[k]?=some y/\Q y (upd H l (.lst (xs.eraseIdx k)))
theorem PX:MtM X "list.pop" YQ:=by
 intro jb s O H x vs v us Q I rx rv h;obtain⟨l,xs,i,k,y,rfl,rfl,hH,h1,h2,hk,hy,q⟩:=h;cases rx;obtain⟨u,rfl,ru⟩:=rv.one;obtain⟨t,rfl⟩:=ru;obtain⟨z,its,n,r,hl,e⟩:=I.S5 hH;obtain⟨w,hw,rw'⟩:=r.get hy;refine call_meets F.slot_list_pop ⟨_,e,rq⟩ F.entry_list_pop (F.args_list_pop_2 _ _)
  (MeetsSeq.list_pop_at l its.toArray n i t k w (fitsIndex_both h1 h2) (by rw[QaZ,<-hl];exact hk) (by rw[<-Qaw];exact hw) (by rw[QaZ];omega)) ⟨e,?_⟩
 refine⟨y,_,I.Wc (its':=its.eraseIdx k) hH e ?_ (r.eraseIdx k) ?_,rw',q⟩
 ·show its.toArray.eraseIdxIfInBounds k=(its.eraseIdx k).toArray;rw[List.eraseIdxIfInBounds_toArray]
 ·have:=N7 xs k;omega
end
section
variable {prog:Program} {w:World} {A:Around} {E:YA} {s:Shared}
set_option maxRecDepth 100000 in
end
section
variable {X:Cx}
end
end L2
namespace Att
open PySem PySem.W PySem.Calls PyProof.Rows
theorem Mi {P:Params} {h:Heap}:∀(ns:List Int) (vs:YE),WellAll P h vs (ns.map WData.int)->IntsAre vs ns:=by
 intro ns
 induction ns with
 | nil=>
  intro vs w;rw[List.map_nil] at w;cases w;exact .nil
 | cons n ns ih=>
  intro vs w;rw[QbM] at w;cases w with
  | cons a b=>
   cases a;exact .cons _ _ (ih _ b)
theorem Ui {l:OpenLaw} {n:Nat} (hn:l.most=some n) {P:Params} {h:Heap} {args:List WData} {vals:YE}
  (hpre:l.row.toRowW.claim.pre args=true) (hwl:WellAll P h vals args) :
  ∃a vs ns,vals=[Value.ref a]/\args=[WData.list (ns.map WData.int)]/\h.get? a=some { cls:=.type "list",data:=.seq vs.toArray }/\IntsAre vs ns/\ns.length<=n:=by
 have hsh:WShape.hasAll [] args [.list .int]=true:=(pre_splitW hpre).1;have hc:l.pre.holds [] { args:=args }=true:=(pre_splitW hpre).2;obtain⟨d,r,rfl,h1,h2⟩:=hasAllW_cons hsh;obtain rfl:=hasAllW_nil h2;obtain⟨xs,rfl,h3⟩:=hasW_list h1;obtain⟨ns,rfl⟩:=items_int h3;have hlen:ns.length<=n:=by
  unfold OpenLaw.pre at hc;have h4:(WTm.not (.lt (.lit (.int (n:Int))) (.len (.arg 0)))).holds [] { args:=[.list (ns.map .int)] }=true:=by
   have h4:=(holds_andW hc).1;rw[hn] at h4;exact h4
  have h5:=condW_of h4 (w_not (w_lt w_lit (w_len_list (w_arg rfl))));rw[Qbt] at h5;refine Nat.le_of_not_lt λq=>?_;have q':(n:Int) < ((ns.length:Nat):Int):=by omega
  first
   | (rw[QbH q'] at h5;exact absurd h5 (by decide))
   | (simp at h5;omega)
 cases hwl with
 | cons w1 w2=>
  cases w2;cases w1 with
  | list ho hall=>exact⟨_,_,ns,rfl,rfl,ho,Mi ns _ hall,hlen⟩
theorem Ul (l:OpenLaw) (args:List WData):l.row.toRowW.claim.post args (.bool true) args=true:=
 postW_of (r:=l.row.toRowW) (X:=(true == true))
  (show WShape.has [] (.bool true) .bool=true by first | rfl | decide | simp[WShape.has,WShape.arms,WShape.armsAll])
  (show (WTm.eq .res (.lit (.bool true))).value [] { args:=args,res:=some (.bool true),after:=args }=some (.bool (true == true)) from w_eq_bool (w_res rfl) w_lit) rfl
theorem QM {l:OpenLaw} {n:Nat} {q:Program} {loose:YF} {XP:(YB)->Heap->Prop} {YP:World->Heap->Prop} {d:DefRec}
  (hn:l.most=some n) (hdf:d.params.defaults=[])
  (call:∀(w:World) (s₀ s₁ : Shared) (mg mb:YB) (fa:Addr) (o:Obj) (pm cd doc:Value) (a:Addr) (vs:YE) (ns:List Int),
   Ground q loose [] XP w s₀ mg mb s₁.heap->YP w s₁.heap ->
   s₁.heap.get? fa=some o->o.data=.func (docDef d.name d.params d.body d.scope pm cd doc)->s₁.heap.CodeRec cd d.name->mg d.name=some (.ref fa) ->
   s₁.heap.get? a=some { cls:=.type "list",data:=.seq vs.toArray }->IntsAre vs ns->ns.length<=n->s₁.gens=#[] ->
   codeAny (model l.prog w) callerA (.call (.ref fa) ⟨[.ref a],[]⟩) (λr s'=>r=.ok (.ret (.bool true))/\OldK s₁.heap s'.heap/\s'.os=s₁.os/\AllBare s'.gens) s₁) :
  WalkO q loose XP YP l.row.toRowW d [] (λf vs=>PySem.call f vs):=by
 intro w s₀ s₁ mg mb G Y fa o pm cd doc dV kV ho hd hcd hD hmg hg args vals as hpre hlay hrd hwl hlo;obtain rfl:dV=.none:=Dflts.none hD hdf;obtain rfl:kV=.none:=Dflts.noKw hD;obtain⟨a,vs,ns,rfl,rfl,hobj,hints,hlen⟩:=Ui hn hpre hwl;refine enter_call (QbY (call w s₀ s₁ mg mb fa o pm cd doc a vs ns G Y ho (fd_plain hd) hcd hmg hobj hints hlen hg) λr s' hq=>?_);obtain⟨rfl,h2,h3,h4⟩:=hq;exact⟨.inl ⟨.bool true,.bool true,[],rq,λ_=>rfl,.bool true,Ul l _,λ_=>⟨List.Pairwise.nil,λ_ hm=>(nomatch hm)⟩⟩,h2,h3,h4⟩
section
variable {prog:Program} {w:World} {A:Around} {E:YA} {s:Shared} {K:Frag}
end
end Att
namespace L2
open PySem PySem.Spec PyProof.Rows
theorem Ju:∀{vs:YE} {ns:List Int},IntsAre vs ns->Vals (ns.map V.int) vs
 | _,_,.nil=>.nil
 | _,_,.cons n t h=>.cons ⟨t,rfl⟩ (Ju h)
def Only (H:Hp):Prop:=∀b,H b=none\/∃o xs,H b=some (.frz o (.lst xs))
theorem Wd {P:Program} {w:World} {K:YD} {mg mb:YB} {CX:CXT} {k:Nat} {fa a:Addr} {fd:FuncData} {x:Str} {sp:Sp} {s₁ : Shared} {vs:YE} {ns:List Int}
  (KX:K.In s₁.heap) (hns:s₁.heap.Ns mainGlobals mg) (hb:s₁.heap.Ns builtinsNs mb) (hbb:∀x:Str,x≠"__name__"->mb x=bootBuiltins x) (hlim:s₁.heap.NoLimit) (hg:s₁.gens=#[])
  (ha:s₁.heap.get? a=some { cls:=.type "list",data:=.seq vs.toArray }) (hi:IntsAre vs ns) (hl:ns.length<=sizeLine) (hr:Dp k callerA)
  (F:∀base:Heap,K.In base->base.Ns mainGlobals mg->Es P w K mg base CX k fa fd [x] sp) (hbind:∀(s:Shared) (u:Value),BindsTo s fd ⟨[u],[]⟩ [(x,u)])
  (hsp:∀H:Hp,Only H->SqL K H a (ns.map V.int)->sp [.ref a] H (λv _=>v=.bl true) λ_ _ _=>False)
  (hCX:∀H e s',CX [] H s₁ (λ_ _ _=>False) e s'->False) :
  codeAny (model P w) callerA (.call (.ref fa) ⟨[.ref a],[]⟩) (λr s'=>r=.ok (.ret (.bool true))/\OldK s₁.heap s'.heap/\s'.os=s₁.os/\AllBare s'.gens) s₁:=by
 have rv:=Ju hi;have lenV:=hi.length;have core:∀H:Hp,Only H->SqL K H a (ns.map V.int)->HOk P w H s₁.heap->(∀b,H b≠none->b=a)->(H a≠none->K.lookup a=none) ->
   codeAny (model P w) callerA (.call (.ref fa) ⟨[.ref a],[]⟩) (λr s'=>r=.ok (.ret (.bool true))/\OldK s₁.heap s'.heap/\s'.os=s₁.os/\AllBare s'.gens) s₁:=by
  intro H hO hS hok hA hK;have Ry:∀{b:Addr} {o:Obj},s₁.heap.get? b=some o->H b=none->(Ji s₁.heap H).get? b=some o:=λe n=>Wt e n;have noA:∀{b:Addr} {o:Obj} {es:Array DictEntry} {ep:Nat},s₁.heap.get? b=some o->o.data=.dict es ep->H b=none:=λ{b o es ep} e d=>by
   cases q:H b with
   | none=>rfl
   | some u=>
    have e':b=a:=hA b (by rw[q];simp);subst e';rw[ha] at e;cases e;have d':Data.seq vs.toArray _=Data.dict es ep:=d;cases d'
  have nsK:∀{b:Addr} {m:YB},s₁.heap.Ns b m->(Ji s₁.heap H).Ns b m:=λ{b m} ⟨o,es,ep,e,d,r⟩=>⟨o,es,ep,Ry e (noA e d),d,r⟩;have hKb:K.In (Ji s₁.heap H):=λb o e=>Ry (KX b o e) (by
   cases q:H b with
   | none=>rfl
   | some u=>
    have e':b=a:=hA b (by rw[q];simp);subst e';rw[hK (by rw[q];simp)] at e;cases e)
  have hM:Mod K mg (Ji s₁.heap H):=⟨hKb,nsK hns,⟨mb,nsK hb,hbb⟩,let ⟨mc,h1,h2⟩:=hlim;⟨mc,nsK h1,h2⟩⟩;have e0:Lg P w K mg (Ji s₁.heap H) callerA [] s₁ H:=⟨rq,hM,λb o e=>XD e,Nat.le_of_eq (U3 _ _),trivial,λb hb=>absurd (show b∈([]:List Addr) from hb) (by simp),hok,.of_eq hg⟩
  refine QbY ((F _ hKb (nsK hns)).run callerA [] s₁ H ⟨[.ref a],[]⟩ [.ref a] [.ref a] _ _ hr e0 (hbind s₁ (.ref a)) (.cons rfl .nil) (hsp H hO hS)) λr s' h=>?_;cases r with
  | error e=>exact (hCX H e s' h).elim
  | ok fl=>
   cases fl with
   | next=>exact False.elim h
   | brk=>exact False.elim h
   | cont=>exact False.elim h
   | ret u=>
    obtain⟨v,H',os,bare,un,hok',r',q⟩:=h;have q':v=.bl true:=q;subst q';obtain rfl:u=Value.bool true:=r';refine⟨rq,OldK.of_keep λb o e=>?_,os,bare⟩;cases q:H b with
    | none=>exact un.keep b o e q (by intro z;exact absurd (show b∈([]:List Addr) from z) (by simp)) (by simp)
    | some u=>
     rcases hO b with z |⟨ob,xs,z⟩
     ·rw[q] at z;cases z
     ·have z2:=un.Fo b ob _ z;obtain⟨e1,_⟩:=hok b _ z;obtain⟨e2,_⟩:=hok' b _ z2;rw[e] at e1;cases e1;exact e2
 cases hk:K.lookup a with
 | some o=>
  have e:=KX a o hk;rw[ha] at e;cases e;refine core (λ_=>none) (λ_=>.inl rfl) (.inr ⟨_,vs.toArray,_,hk,rq,rq,rq,by rw[QaZ,lenV];exact hl,by simpa using rv⟩) (λb u z=>by have z':(none:Option HO)=some u:=z;cases z') (λb z=>absurd rfl z) λz=>absurd rfl z
 | none=>
  refine core (λb=>if b=a then some (.frz { cls:=.type "list",data:=.seq vs.toArray } (.lst (ns.map V.int))) else none) (λb=>?_) (.inl (.inr ⟨{ cls:=.type "list",data:=.seq vs.toArray },if_pos rfl⟩)) (λb u z=>?_) (λb z=>?_) λ_=>hk
  ·by_cases hb:b=a
   ·exact .inr ⟨_,_,if_pos hb⟩
   ·exact .inl (if_neg hb)
  ·by_cases hb:b=a
   ·have z':=(if_pos hb).symm.trans z;cases z';subst hb;exact⟨ha,by rw[Qbt];exact hl,vs,_,rv,ha⟩
   ·have z':=(if_neg hb).symm.trans z;cases z'
  ·by_cases hb:b=a
   ·exact hb
   ·exact absurd (if_neg hb) z
theorem Xi {l:PySem.W.OpenLaw} {n k:Nat} {q:Program} {loose:YF} {XP:(YB)->Heap->Prop} {YP:World->Heap->Prop} {d:DefRec} {K:Params->YD} {CX:World->CXT} {sp:World->Sp} {x:Str}
  (hn:l.most=some n) (hn2:n<=sizeLine) (hdf:d.params.defaults=[]) (hr:Dp k callerA)
  (hY:∀(w:World) (h:Heap),YP w h->(K w.params).In h)
  (F:∀(w:World) (mg:YB) (fa:Addr) (h:Heap),(K w.params).In h->h.Ns mainGlobals mg->mg d.name=some (.ref fa) ->
   ∃fd:FuncData,(∀(s:Shared) (u:Value),BindsTo s fd ⟨[u],[]⟩ [(x,u)]) /\
    ∀base:Heap,(K w.params).In base->base.Ns mainGlobals mg->Es l.prog w (K w.params) mg base (CX w) k fa fd [x] (sp w))
  (hsp:∀(w:World) (H:Hp) (a:Addr) (ns:List Int),ns.length<=n->Only H->SqL (K w.params) H a (ns.map V.int)->sp w [.ref a] H (λv _=>v=.bl true) λ_ _ _=>False)
  (hCX:∀(w:World) (H:Hp) (s:Shared) (e:Value) (s':Shared),CX w [] H s (λ_ _ _=>False) e s'->False) :
  PySem.W.WalkO q loose XP YP l.row.toRowW d [] (λf vs=>PySem.call f vs):=by
 refine Att.QM hn hdf λw s₀ s₁ mg mb fa o pm cd doc a vs ns G Y ho hd hcd hmg hobj hints hlen hg=>?_;have KX:=hY w _ Y;obtain⟨fd,hb,hF⟩:=F w mg fa _ KX G.T.g hmg;exact Wd KX G.T.g G.T.b G.T.builtins G.T.nolimit hg hobj hints (QbT hlen hn2) hr hF hb (λH hO hS=>hsp w H a ns hlen hO hS) λH e s'=>hCX w H s₁ e s'
def DY (s:Stmt):Arguments:=match s with
 | .FunctionDef _ a _ _ _ _ _ _ _ _=>a
 | _=>{ posonlyargs:=[],args:=[],vararg:=none,kwonlyargs:=[],kw_defaults:=[],kwarg:=none,defaults:=[] }
def Dl (s:Stmt):List Stmt:=match s with
 | .FunctionDef _ _ b _ _ _ _ _ _ _=>b
 | _=>[]
def Ao (s:Stmt):Scope:=match s with
 | .FunctionDef _ _ _ _ _ _ sc _ _ _=>sc
 | _=>{ kind:=.function,names:=[],isGenerator:=false,isCoroutine:=false }
abbrev CX0:CXT:=λ_ _ _ _ _ _=>False
abbrev E0:XK:=λ_ _ _=>False
theorem aq {X:Cx}:Passes CX0 X E0:=λ_ _ _ _ _ _ _ h=>h.elim
structure Fun (K:YD) (x qual:Str) (st:Stmt) (f:Addr) (fd:FuncData):Prop where
 ex:∃(oc:Value) (od:Option Addr) (kV doc pm:Value) (an:Option Addr) (cdv ct:Value) (osl:YI),
  fd=fnOf x qual (DY st) (Dl st) (Ao st) .none kV doc pm an cdv ct/\K.lookup f=some ⟨oc,od,.func fd,osl⟩/\codeIn K cdv qual=true
 kp:keepIn K (.ref f)=true
section
variable {P:Program} {w:World} {K:YD} {mg:YB} {base:Heap}
theorem Fun.ok {x qual:Str} {st:Stmt} {f:Addr} {fd:FuncData} {N ps:YF} {k:Nat} {sp:Sp} (F:Fun K x qual st f fd) (S:Bx N ps (Ao st)) (len:∀vs H Q E,sp vs H Q E->vs.length=ps.length)
  (hbody:∀(cdv:Value) (A:Around) (outer:List Env) (s:Shared) (H:Hp) (vs:YG) (Q:VK) (E:XK),Dp k (A.deeper (envOfC qual (Ao st) s.heap.objs.size f cdv))->sp vs H Q E ->
   ∃t,PSs (JL CX0 P w K mg base N qual (Ao st) f cdv A outer s H E).nox (Dl st) t/\t { nx:=λ_ H'=>Q .non H',rt:=Q } (start N vs) H):Es P w K mg base CX0 (k+1) f fd ps sp:=by
 obtain⟨oc,od,kV,doc,pm,an,cdv,ct,osl,rfl,lk,hcd⟩:=F.ex;refine aO lk hcd S len λA outer s H vs Q E hr hsp=>?_;obtain⟨t,h,q⟩:=hbody cdv A outer s H vs Q E hr hsp;exact⟨t,h.nox,q⟩
theorem Fun.binds {x qual:Str} {st:Stmt} {f:Addr} {fd:FuncData} {ps:YF} (F:Fun K x qual st f fd)
  (h:∀(kV doc pm:Value) (an:Option Addr) (cdv ct:Value) (us:YE),us.length=ps.length->bindArgs (fnOf x qual (DY st) (Dl st) (Ao st) .none kV doc pm an cdv ct) ⟨us,[]⟩=pure (ps.zip us)):Binds K fd ps []:=by
 obtain⟨oc,od,kV,doc,pm,an,cdv,ct,osl,rfl,lk,hcd⟩:=F.ex;exact .all (h kV doc pm an cdv ct)
theorem U6 {x qual:Str} {st:Stmt} {f:Addr} {oc:Value} {od an:Option Addr} {osl:YI} {kV doc pm cdv ct:Value} (l:K.lookup f=some ⟨oc,od,.func (fnOf x qual (DY st) (Dl st) (Ao st) .none kV doc pm an cdv ct),osl⟩)
  (c:codeIn K cdv qual=true) (k:keepIn K (.ref f)=true):Fun K x qual st f (fnOf x qual (DY st) (Dl st) (Ao st) .none kV doc pm an cdv ct):=⟨⟨oc,od,kV,doc,pm,an,cdv,ct,osl,rq,l,c⟩,k⟩
end
theorem Mj {A:Around} {k:Nat} (hr:Dp k A):A.units+1 < cLine:=Nat.lt_of_le_of_lt (Nat.add_le_add_left (by decide:1<=64) _) hr.units
theorem Bc {n:Nat} (h:n<=1000):n < sizeLine:=Nat.lt_of_le_of_lt h (by decide)
section
variable {X:Cx}
theorem pv (i:Nat) {x:Str} {pos:Pos} (hN:X.N[i]?=some x:=by rfl) (hv:Vis X.env.scope x:=by first | exact Or.inl rfl | exact Or.inr (Or.inl rfl) | exact Or.inr (Or.inr rfl)) (hd:(x == ("__debug__":Str))=false:=by decide)
  (hcd:(x == ("__classdict__":Str))=false:=by decide):PE X (.Name x pos) (Ym i):=YZ hN hv hd hcd
end
theorem Ec {A B:Prop} (h:B):if false=true then A else B:=by
 rw[if_neg QaN];exact h
theorem Ei {A B:Prop} (h:A):if true=true then A else B:=by
 rw[if_pos rfl];exact h
theorem GD {c A B:Prop} [Decidable c] (h1:c->A) (h2:¬c->B):if c then A else B:=by
 by_cases h:c
 ·rw[if_pos h];exact h1 h
 ·rw[if_neg h];exact h2 h
def Same (H H':Hp):Prop:=∀b o,H b=some o->H' b=some o
theorem Same.refl (H:Hp):Same H H:=λ_ _ h=>h
theorem Same.trans {H H1 H2:Hp} (a:Same H H1) (b:Same H1 H2):Same H H2:=λc o h=>b c o (a c o h)
theorem Same.free {H H':Hp} (e:Same H H') {l:Addr} (h:H' l=Option.none):H l=Option.none:=by
 cases q:H l with
 | none=>rfl
 | some o=>
  rw[e l o q] at h;cases h
theorem Same.seq {K:YD} {H H':Hp} {a:Addr} {xs:YG} (e:Same H H') (h:SqL K H a xs):SqL K H' a xs:=by
 rcases h with (h |⟨o,h⟩) | h
 ·exact .inl (.inl (e _ _ h))
 ·exact .inl (.inr ⟨o,e _ _ h⟩)
 ·exact .inr h
def Du (env:Env):List (Str×NameKind)->List (Str×Addr)->List (Str×Addr)
 | [],cs=>cs
 | (n,k)::r,cs=>Du env r (if (k == .free)=true then (match env.cells.lookup n with | some c=>(n,c)::cs | none=>cs) else cs)
theorem Qo {env:Env}:∀(names:List (Str×NameKind)) (cs:List (Str×Addr)),(∀p∈names,p.2=.free->∃c,env.cells.lookup p.1=some c) ->
  (forIn names cs λ(p:Str×NameKind) (r:List (Str×Addr))=>(if (p.2 == .free)=true then do
    let c <-cellOf env p.1
    pure (ForInStep.yield ((p.1,c)::r))
   else pure (ForInStep.yield r):Sem (ForInStep (List (Str×Addr)))))=pure (Du env names cs)
 | [],cs,_=>rfl
 | (n,k)::rest,cs,h=>by
  have ih:=λcs'=>Qo rest cs' λp hp=>h p (QaB _ hp);rw[List.forIn_cons];cases hk:(k == NameKind.free) with
  | true=>
   obtain⟨c,hc⟩:=h (n,k) QaM (eq_of_beq hk);have e1:cellOf env n=pure c:=by unfold cellOf;rw[hc]
   have e2:Du env ((n,k)::rest) cs=Du env rest ((n,c)::cs):=by simp only[Du,hk,if_true,hc]
   rw[e2,<-ih];simp only[hk,if_true,e1,pure_bind]
  | false=>
   have e2:Du env ((n,k)::rest) cs=Du env rest cs:=by simp only[Du,hk,QaT,Qch]
   rw[e2,<-ih];simp only[hk,QaT,Qch,pure_bind]
theorem Mt {env:Env} {scope:Scope} (h:∀p∈scope.names,p.2=.free->∃c,env.cells.lookup p.1=some c):closureFor scope env=pure (Du env scope.names []):=by
 have e:=Qo (env:=env) scope.names [] h;unfold closureFor;simp only[bind_pure];exact e
theorem Qn {env:Env}:∀(names:List (Str×NameKind)) (cs:List (Str×Addr)),(∀x c,cs.lookup x=some c->env.cells.lookup x=some c) ->
  ∀x c,(Du env names cs).lookup x=some c->env.cells.lookup x=some c
 | [],cs,h,x,c,e=>h x c e
 | (n,k)::rest,cs,h,x,c,e=>by
  refine Qn rest _ (λy d z=>?_) x c e;split at z
  ·split at z
   ·rename_i c' hc';rw[List.lookup_cons] at z;cases q:y == n with
    | true=>rw[q] at z;cases z;rw[eq_of_beq q];exact hc'
    | false=>rw[q] at z;exact h y d z
   ·exact h y d z
  ·exact h y d z
theorem Ld {env:Env}:∀(names:List (Str×NameKind)) (cs:List (Str×Addr)) (x:Str),((cs.lookup x).isSome=true\/((x,NameKind.free)∈names/\∃c,env.cells.lookup x=some c)) ->
  ∃c,(Du env names cs).lookup x=some c
 | [],cs,x,h=>by
  rcases h with h |⟨h,_⟩
  ·exact Option.isSome_iff_exists.mp h
  ·cases h
 | (n,k)::rest,cs,x,h=>by
  refine Ld rest _ x ?_;have grow:(cs.lookup x).isSome=true->(List.lookup x (if (k == .free)=true then (match env.cells.lookup n with | some c=>(n,c)::cs | none=>cs) else cs)).isSome=true:=λz=>by
   split
   ·split
    ·rw[List.lookup_cons];cases x == n with
     | true=>rfl
     | false=>exact z
    ·exact z
   ·exact z
  rcases h with h |⟨h,c,hc⟩
  ·exact .inl (grow h)
  ·rcases QbL.mp h with z | z
   ·cases z;refine .inl ?_;simp[hc,List.lookup_cons]
   ·exact .inr ⟨z,c,hc⟩
def G3 (env:Env) (n:Str) (k:NameKind):NameKind:=if (k == .free&&env.scope.kind == .function&&env.kindOf n == some .cell)=true then .cell else k
theorem LR (env:Env):∀(l:List (Str×NameKind)) (x:Str),
  (l.map λ(n,k)=>if (k == NameKind.free&&env.scope.kind == .function&&env.kindOf n == some .cell) then (n,NameKind.cell) else (n,k)).lookup x=(l.lookup x).map (G3 env x)
 | [],_=>rfl
 | (n,k)::r,x=>by
  have ih:=LR env r x;have e:(if (k == NameKind.free&&env.scope.kind == .function&&env.kindOf n == some .cell)=true then (n,NameKind.cell) else (n,k))=(n,G3 env n k):=by
   unfold G3;split <;> rfl
  rw[QbM];show List.lookup x ((if (k == NameKind.free&&env.scope.kind == .function&&env.kindOf n == some .cell)=true then (n,NameKind.cell) else (n,k))::_)=_
  rw[e,List.lookup_cons,List.lookup_cons];cases q:x == n with
  | true=>rw[eq_of_beq q];rfl
  | false=>exact ih
theorem VB {env:Env} {n:Str} {k:NameKind} (h:G3 env n k=.cell\/G3 env n k=.free):k=.cell\/k=.free:=by
 unfold G3 at h;split at h
 ·rename_i q;simp only[Qbp] at q;exact .inr (eq_of_beq q.1.1)
 ·exact h
theorem Vd {prog:Program} {w:World} {A:Around} {R:Result->Shared->Prop} {s:Shared} {elt target iter:Expr} {ifs:YJ} {scope:Scope} {pos:Pos} {it acc:Value} {env:Env} (J:Nat->Shared->Prop)
  (turn:∀n s,J n s->wpAny (model prog w) A (pyNext it) (λr s1=>match r with
   | none=>R (.ok .next) s1
   | some v=>wpAny (model prog w) A (letOwnedTupleGo target it v) (λ_ s2=>wpAny (model prog w) A (assign target env v) (λ_ s3=>
     wpAny (model prog w) A (forIn ifs true λc r=>if r=true then do let ok <-isTrue c env (eval c env);pure (ForInStep.yield ok) else pure (ForInStep.yield r)) (λok s4=>
      if ok=true then wpAny (model prog w) A (eval elt env) (λx s5=>wpAny (model prog w) A (call (.builtin "list.append") [acc,x]) (λ_ s6=>∃m,m < n/\J m s6) (λ_ _=>False) s5) (λ_ _=>False) s4
      else ∃m,m < n/\J m s4) (λ_ _=>False) s3) (λ_ _=>False) s2) (λ_ _=>False) s1) (λ_ _=>False) s)
  (n:Nat) (h:J n s):codeAny (model prog w) A (.compLoop (.ListComp elt [⟨target,iter,ifs,0⟩] scope pos) 0 it acc env) R s:=by
 refine codeAny_loop rfl J (λk s' hk=>?_) n h;show wpAny _ A (Sem.onRaise (compTurn (.ListComp elt [⟨target,iter,ifs,0⟩] scope pos) 0 it acc env) (λx=>do noteFrame x env;theTreesLotGoes x)) _ _ s'
 refine wpAny_noted ?_;rw[compTurn_list];refine Qcd (QbP (Qcd (Qcf (turn k s' hk) (λr s1 q1=>?_) λ_ _ f=>f.elim)));cases r with
 | none=>exact Qce q1
 | some v=>
  refine Qcd (Qcf q1 (λ_ s2 q2=>Qcd (Qcf q2 (λ_ s3 q3=>Qcd (Qcf q3 (λok s4 q4=>?_) λ_ _ f=>f.elim)) λ_ _ f=>f.elim)) λ_ _ f=>f.elim);cases ok with
  | false=>exact Qce ⟨rfl,q4⟩
  | true=>exact Qcd (Qcd (Qcf q4 (λx s5 q5=>Qcd (Qcf q5 (λ_ s6 q6=>Qce (Qce ⟨rfl,q6⟩)) λ_ _ f=>f.elim)) λ_ _ f=>f.elim))
def cxC (X:Cx) (N':YF) (scope:Scope) (s3:Shared) (H3:Hp) (fp:List Addr) (pn:YC):Cx where
 prog:=X.prog
 w:=X.w
 K:=X.K
 mg:=X.mg
 base:=X.base
 A:=X.A
 N:=N'
 s₀:=s3
 H₀:=H3
 env:=compEnvC scope (Du X.env scope.names []) s3.heap.objs.size X.env
 outer:=X.stack
 stack:=X.stack
 ex:=fp
 fn:=λ_=>false
 calm:=X.calm
 pn:=pn
 xe:=λ_ _=>False
structure Cu (X:Cx) (N':YF) (src:List (Option Nat)) (sc:Scope):Prop where
 kind:sc.kind=.function
 Gb:∀y∈sc.names,y.2≠.cell
 loc:∀y∈sc.names,y.2=.local->sc.names.lookup y.1=some .local
 fv:∀y∈sc.names,y.2=.free->X.env.kindOf y.1=some .cell\/X.env.kindOf y.1=some .free
 len:src.length=N'.length
 src:∀(i:Nat) (x:Str) (j:Nat),N'[i]?=some x->src[i]?=some (some j)->X.N[j]?=some x/\sc.names.lookup x=some .free
def GF (src:List (Option Nat)) (O : St):St:=src.map λo=>match o with | none=>none | some j=>(O[j]?).join
def PF (X:Cx) (ifs:YJ) (t:TT):Prop:=
 ∀(jb:YC) (s:Shared) (O : St) (H:Hp) (Q:Bool->Hp->Prop),Inv X jb O H s->t O H Q ->
  wpAny (model X.prog X.w) X.A (forIn ifs true λc r=>if r=true then do let ok <-isTrue c X.env (eval c X.env);pure (ForInStep.yield ok) else pure (ForInStep.yield r)) (TP X jb O Q) X.xe s
theorem JB {X:Cx}:PF X [] (λ_ H Q=>Q true H):=λ_ _ _ H _ I h=>wpAny_tests_nil ⟨H,I,h⟩
theorem Ii {X:Cx} {c:Expr} {t:TT} (hc:PT X c t):PF X [c] t:=λjb s O H Q I h=>wpAny_tests_one (hc jb s O H Q I h)
theorem Un.ahead {fs ex:List Addr} {H H':Hp} {h h1 h':Heap} (u:Un fs ex H H' h h1) (k:∀b o,b < h.objs.size->h1.get? b=some o->h'.get? b=some o):Un fs ex H H' h h' where
 keep:=λb o e n hb hx=>k b o (QbR e) (u.keep b o e n hb hx)
 slot:=λb o e n hb hx=>by
  obtain⟨sl,q⟩:=u.slot b o e n hb hx;exact⟨sl,k b _ (QbR e) q⟩
 free:=u.free
 there:=λb o e hx=>by
  obtain⟨o',q⟩:=u.there b o e hx;exact⟨o',k b _ (QbR e) q⟩
 tups:=u.tups
 Fo:=u.Fo
 FJ:=u.FJ
section
variable {X:Cx} {N':YF} {src:List (Option Nat)} {sc:Scope} {jb:YC} {O : St} {H:Hp} {s3:Shared} {fp:List Addr} {h1:Heap} {tk:Nat}
theorem Ql (S:Cu X N' src sc) (I:Inv X jb O H s3) (hf:∀b∈fp,Er X jb H b) (ht:∀b∈fp,b < s3.heap.objs.size)
  (ns:h1.Ns s3.heap.objs.size λ_=>none) (kp:∀b o,s3.heap.get? b=some o->h1.get? b=some o) :
  Inv (cxC X N' sc s3 H fp (X.pn++jb)) [] (GF src O) H { s3 with heap:=h1,toks:=tk }:=by
 have hcl:∀x c,(Du X.env sc.names []).lookup x=some c->X.env.cells.lookup x=some c:=Qn sc.names [] λx c e=>by cases e
 have old:∀x c,(Du X.env sc.names []).lookup x=some c->∃o,s3.heap.get? c=some o:=λx c e=>by
  obtain⟨v,o,ho,_⟩:=I.cell x c (hcl x c e);exact⟨o,ho⟩
 have fvh:∀x,(x,NameKind.free)∈sc.names->∃c,X.env.cells.lookup x=some c:=λx hx=>I.ok.has x (S.fv _ hx rfl);have Yq:∀b,b≠X.env.locals->b∉X.fs->b∉frs X.stack:=λb h1 h2 hb=>(QbL.mp (I.O7 b hb)).elim h1 h2;have kindOf_eq:∀x,(compEnvC sc (Du X.env sc.names []) s3.heap.objs.size X.env).kindOf x=(sc.names.lookup x).map (G3 X.env x):=λx=>LR X.env sc.names x;refine⟨⟨I.ok.mod,S.kind,I.ok.glob,I.ok.blt,QbZ _,λx y c e1 e2=>I.ok.inj x y c (hcl x c e1) (hcl y c e2),λx hx=>?_,λx c hf=>absurd hf QaN,I.ok.hd,I.ok.frames,.inl rfl,λb hb=>?_,I.bs,QbT I.ok.bsz I.sz,
  λb o e hb=>?_,λb hb=>?_,I.stack,I.MP⟩,rq,I.bare,Un.kept kp,⟨_,ns,λi x v e1 e2 e3=>?_⟩,λx c e=>?_,I.hok.fresh (QbZ _),λx c e=>I.Ew x c (hcl x c e),λp hp=>?_,I.hok.kept kp,?_⟩
 ·
  have hx':(sc.names.lookup x).map (G3 X.env x)=some .cell\/(sc.names.lookup x).map (G3 X.env x)=some .free:=by
   rw[<-kindOf_eq x];exact hx
  cases q:sc.names.lookup x with
  | none=>rw[q] at hx';rcases hx' with z | z <;> cases z
  | some k=>
   rw[q] at hx';have hk:k=.cell\/k=.free:=VB (env:=X.env) (n:=x) (hx'.imp (λz=>Qby z) λz=>Qby z);have hm:=QaK q;rcases hk with rfl | rfl
   ·exact absurd rfl (S.Gb _ hm)
   ·exact Ld sc.names [] x (.inr ⟨hm,fvh x hm⟩)
 ·
  obtain⟨f0,f1,f2,f3,f4,f5⟩:=hf b hb;exact⟨QbS (ht b hb),λx c e=>f4 x c (hcl x c e)⟩
 ·
  obtain⟨f0,f1,f2,f3,f4,f5⟩:=hf b hb;rcases f3 with z | z
  ·exact I.ok.Nb b o e z
  ·exact absurd (QaR (QbR e) (QbT I.ok.bsz z)) (QbO _)
 ·
  obtain⟨f0,f1,f2,f3,f4,f5⟩:=hf b hb;exact Yq b f1 f2
 ·
  have e2':(GF src O)[i]?=some (some v):=e2;unfold GF at e2';rw[Qba] at e2';cases q:src[i]? with
  | none=>rw[q] at e2';cases e2'
  | some oj=>
   rw[q] at e2';cases oj with
   | none=>cases e2'
   | some j=>
    have e4:(O[j]?).join=some v:=Qby e2';have e5:O[j]?=some (some v):=by
     cases r:O[j]? with
     | none=>rw[r] at e4;cases e4
     | some z=>rw[r] at e4;cases z with
      | none=>cases e4
      | some y=>cases e4;rfl
    obtain⟨hN,hfr⟩:=S.src i x j e1 q;have hm:=QaK hfr;have kx:=S.fv _ hm rfl;obtain⟨m,hn,hl⟩:=I.loc;obtain⟨u,r,l⟩:=hl j x v hN e5 (.inr kx);refine⟨u,r,?_⟩;rcases l with⟨k1,_⟩|⟨_,c,hc,hcell⟩
    ·rcases kx with z | z <;> (rw[z] at k1;cases k1)
    ·obtain⟨c',hc'⟩:=Ld (env:=X.env) sc.names [] x (.inr ⟨hm,c,hc⟩);have e6:c'=c:=by
      have:=hcl x c' hc';rw[hc] at this;exact (Qby this).symm
     subst e6;refine .inr ⟨?_,c',hc',?_⟩
     ·have:(compEnvC sc (Du X.env sc.names []) s3.heap.objs.size X.env).kindOf x=some (G3 X.env x .free):=by rw[kindOf_eq x,hfr];rfl
      show (compEnvC sc (Du X.env sc.names []) s3.heap.objs.size X.env).kindOf x=some .cell\/(compEnvC sc (Du X.env sc.names []) s3.heap.objs.size X.env).kindOf x=some .free;rw[this];unfold G3;split
      ·exact .inl rfl
      ·exact .inr rfl
     ·obtain⟨o,ho,hd⟩:=hcell;exact⟨o,kp _ o ho,hd⟩
 ·
  obtain⟨v,o,ho,hd⟩:=I.cell x c (hcl x c e);exact⟨v,o,kp _ o ho,hd⟩
 ·
  have hp':p∈X.pn++jb:=(Qbu.mp hp).elim id λz=>by cases z
  obtain⟨a1,a2,a3,a4,a5⟩:=I.pin p hp';exact⟨kp _ _ a1,a2,QbS (QbR a1),Yq p.1 a3 a4,a5⟩
 ·show (GF src O).length=N'.length;unfold GF;rw[Qbt];exact S.len
theorem Qm {s1:Shared} {σ':St} {H':Hp} {h':Heap} (I:Inv X jb O H s3) (hf:∀b∈fp,Er X jb H b) (I':Inv (cxC X N' sc s3 H fp (X.pn++jb)) [] σ' H' s1)
  (sb:Heap.SameBut s3.heap.objs.size s1.heap h'):Inv X jb O H' { s1 with heap:=h' }:=by
 have fr:H' s3.heap.objs.size=none:=I'.free;refine I.call' (s':={ s1 with heap:=h' }) (ch:=fp) I'.os ?_ ?_ I'.bare λb hb=>?_
 ·exact Un.ahead (h:=s3.heap) (h1:=s1.heap) I'.base λb o hb e=>sb.extBut b o (QbS hb) e
 ·exact λb u e=>(I'.hok b u e).stay (λc v hc q=>sb.extBut c v (by
   intro z;rcases hc with y | y
   ·rw[<-y,z,fr] at e;cases e
   ·rw[z,fr] at y;cases y) q) (λ_ q=>q) λ_ _ q=>q
 ·obtain⟨f0,f1,f2,f3,f4,f5⟩:=hf b hb;exact⟨f3,f1,f4,λp hp=>f5 p hp⟩
end
@[irreducible] def Gp (J:It) (g:TG) (tt:TT) (te:TE) (Q:VK) (σ0:St) (H0:Hp) (l:Addr):Prop:=∃W:Nat->YN,(∃m,W 0 m σ0 H0) /\
 ∀i m σ' H',W i m σ' H'->(J.stop i H'/\Q (.ref l) H')\/(J.go i H'/\∃N:YO,(∀ σ3 H3,N σ3 H3->∃m',m' < m/\W (i+1) m' σ3 H3)/\∀x H2,J.yld i H' x H2->g x σ' H2 fun σ3 H3=>tt σ3 H3 λb H4=>
  if b=true then te σ3 H4 λy H5=>∃xs,H5 l=some (.lst xs)/\xs.length < sizeLine/\N σ3 (upd H5 l (.lst (xs++[y]))) else N σ3 H4)
def RT (wi:TI) (src:List (Option Nat)) (g:TG) (tt:TT) (te:TE):TE:=fun O H Q=>wi O H λJ H1=>∀l,H1 l=none->Gp J g tt te Q (GF src O) (upd H1 l (.lst [])) l
theorem Od {X:Cx} {N':YF} {src:List (Option Nat)} {sc:Scope} {elt tg iter:Expr} {ifs:YJ} {pos pos':Pos} {wi:TI} {g:TG} {tt:TT} {te:TE} {use:Option (Value->Sem Unit)} {R:YA} (hc:X.calm=true) (S:Cu X N' src sc)
  (hi:PI X tg iter wi) (hg:∀s3 H3 fp pn,PG (cxC X N' sc s3 H3 fp pn) tg g) (ht:∀s3 H3 fp pn,PF (cxC X N' sc s3 H3 fp pn) ifs tt) (he:∀s3 H3 fp pn,PE (cxC X N' sc s3 H3 fp pn) elt te)
  (hs:∀x,foldedSetIterable iter X.env x=pure x) {jb:YC} {s:Shared} {O : St} {H:Hp} {Q:VK} (I:Inv X jb O H s) (h:RT wi src g tt te O H Q)
  (fin:∀s3 H3 fp σ4 H4 s5 l,Inv X jb O H3 s3->(∀b∈fp,Er X jb H3 b)->Inv (cxC X N' sc s3 H3 fp (X.pn++jb)) [] σ4 H4 s5->Q (.ref l) H4 ->
   compPost (model X.prog X.w) X.A X.xe use R (.ref l) s3.heap.objs.size (.ok .next) s5) :
  wpAny (model X.prog X.w) X.A (comprehension (.ListComp elt [⟨tg,iter,ifs,0⟩] sc pos) sc X.env pos' (newList []) false (eval iter X.env) use) R X.xe s:=by
 refine wpAny_comprehension_free (use:=use) (cl:=Du X.env sc.names []) rfl hs (Mt λp hp e=>I.ok.has p.1 (S.fv p hp e)) S.kind S.loc ?_;refine thn (hi jb s O H _ I h) λv s1 h1=>thn h1 λitv s2 h2=>?_;obtain⟨it,fp,tn,J,H2,rfl,I2,T,st2,f2,q⟩:=h2;have q':=q s2.heap.objs.size (I2.hok.fresh (QbZ _));unfold Gp at q';obtain⟨W,⟨m0,w0⟩,turn⟩:=q';refine Qbh (wpAny_newFunctionEnv S.Gb (by intro y hy;simp at hy) (λha hns hsb=>?_) S.kind);have I3:Inv X jb O (upd H2 s2.heap.objs.size (.lst [])) { s2 with heap:=s2.heap.push { cls:=.type "list",dict:=none,data:=.seq ([]:YE).toArray } }:=
  I2.laid (t':=s2.toks) (λb u e=>Qas _ e) (QbZ _) ⟨Qca _,[],0,.nil,QaG _ rfl⟩
 have hfl:∀b∈fp,b < s2.heap.objs.size:=λb hb=>by
  obtain⟨o,e,_⟩:=T.obj 0 _ st2 b hb;exact QbR e
 have f3:∀b∈fp,Er X jb (upd H2 s2.heap.objs.size (.lst [])) b:=λb hb=>⟨by rw[Aw (QbS (hfl b hb))];exact (f2 b hb).1,(f2 b hb).2⟩;generalize hs3:({ s2 with heap:=s2.heap.push { cls:=.type "list",dict:=none,data:=.seq ([]:YE).toArray } }:Shared)=s3 at *;have hsz:s2.heap.objs.size < s3.heap.objs.size:=by rw[<-hs3];show s2.heap.objs.size < (s2.heap.push _).objs.size;rw[QbI];exact Qbr _
 have kp:∀b o,s3.heap.get? b=some o->ha.get? b=some o:=λb o e=>hsb.extBut b o (QbS (QbR e)) (Qas _ e);have st3:tn 0 ha:=T.keep 0 _ _ st2 λb hb o e=>kp b o (by rw[<-hs3];exact Qas _ e);have I4:Inv (cxC X N' sc s3 (upd H2 s2.heap.objs.size (.lst [])) fp (X.pn++jb)) [] (GF src O) (upd H2 s2.heap.objs.size (.lst [])) { s3 with heap:=ha,toks:=s3.toks+([]:List (Str×Value)).length }:=
  Ql S I3 f3 (λb hb=>Nat.lt_trans (hfl b hb) hsz) hns kp
 have loop:codeAny (model X.prog X.w) X.A (.compLoop (.ListComp elt [⟨tg,iter,ifs,0⟩] sc pos) 0 (.ref it) (.ref s2.heap.objs.size) (compEnvC sc (Du X.env sc.names []) s3.heap.objs.size X.env))
   (compPost (model X.prog X.w) X.A X.xe use R (.ref s2.heap.objs.size) s3.heap.objs.size) { s3 with heap:=ha,toks:=s3.toks+([]:List (Str×Value)).length }:=by
  refine Vd (λn s'=>∃i σ' H',Inv (cxC X N' sc s3 (upd H2 s2.heap.objs.size (.lst [])) fp (X.pn++jb)) [] σ' H' s'/\tn i s'.heap/\(∀b∈fp,H' b=none)/\W i n σ' H') ?_ m0 ⟨0,_,_,I4,st3,λb hb=>(f3 b hb).1,w0⟩;rintro n s4 ⟨i,σ4,H4,J4,st4,fr4,w4⟩;have stat:∀{H':Hp},(∀b∈fp,H' b=none)->∀b∈fp,Er (cxC X N' sc s3 (upd H2 s2.heap.objs.size (.lst [])) fp (X.pn++jb)) [] H' b:=λhn b hb=>
   ⟨hn b hb,(I4.ok.exf b hb).1,I4.ok.Lb b hb,.inl hb,λx c e=>(I4.ok.exf b hb).2 x c e,λp hp=>(f3 b hb).2.2.2.2.2 p ((Qbu.mp hp).elim id λz=>by cases z)⟩
  rcases turn i n σ4 H4 w4 with⟨stop,qn⟩|⟨go,N,hN,step⟩
  ·refine thn (T.done (cxC X N' sc s3 (upd H2 s2.heap.objs.size (.lst [])) fp (X.pn++jb)) rfl rfl rfl hc i [] s4 σ4 H4 _ J4 (stat fr4) st4 stop) λr s5 zz=>?_;obtain⟨hr,J5⟩:=zz;subst hr;exact fin s3 _ fp σ4 H4 s5 _ I3 f3 J5 qn
  ·refine thn (T.item (cxC X N' sc s3 (upd H2 s2.heap.objs.size (.lst [])) fp (X.pn++jb)) rfl rfl rfl hc i [] s4 σ4 H4 _ J4 (stat fr4) st4 go) λr s5 zz=>?_;obtain⟨u,hr,h5⟩:=zz;subst hr;refine thn h5 λ_ s6 zz=>?_;obtain⟨x,H6,J6,r6,y6,st6,fr6⟩:=zz;have J6':=J6.pinned (stat fr6) (T.obj _ _ st6);have back:∀{pl:YC} {σ7:St} {H7:Hp} {s7:Shared},Inv (cxC X N' sc s3 (upd H2 s2.heap.objs.size (.lst [])) fp (X.pn++jb)) ([]++Ig fp s6.heap) σ7 H7 s7->N σ7 H7 ->
     ∃m',m' < n/\∃i σ' H',Inv (cxC X N' sc s3 (upd H2 s2.heap.objs.size (.lst [])) fp (X.pn++jb)) [] σ' H' s7/\tn i s7.heap/\(∀b∈fp,H' b=none)/\W i m' σ' H':=λ{pl σ7 H7 s7} J7 w7=>by
    obtain⟨m',hm,w7⟩:=hN _ _ w7;have pinned:∀b∈fp,∀o,s6.heap.get? b=some o->s7.heap.get? b=some o/\H7 b=none:=λb hb o e=>by
     have:=J7.pin (b,o) (Qav _ (Qav _ (GP hb e)));exact⟨this.1,this.2.1⟩
    refine⟨m',hm,i+1,σ7,H7,J7.Fi,T.keep _ _ _ st6 λb hb o e=>(pinned b hb o e).1,λb hb=>?_,w7⟩;obtain⟨o,e,_⟩:=T.obj _ _ st6 b hb;exact (pinned b hb o e).2
   refine thn (hg s3 _ fp _ _ s6 σ4 H6 x u _ J6' r6 (step x H6 y6)) λ_ s7 zz=>?_;obtain⟨σ7,H7,J7,q7⟩:=zz;refine thn (ht s3 _ fp _ _ s7 σ7 H7 _ J7 q7) λok s8 zz=>?_;obtain⟨H8,J8,q8⟩:=zz;cases ok with
   | false=>
    rw[if_neg QaN] at q8 ⊢;exact back (pl:=[]) J8 q8
   | true=>
    rw[if_pos rfl] at q8 ⊢;refine thn (he s3 _ fp _ _ s8 σ7 H8 _ J8 q8) λy s9 zz=>?_;obtain⟨yv,H9,J9,r9,xs,hl9,hz9,q9⟩:=zz;refine thn (CV _ s9 σ7 H9 (.ref s2.heap.objs.size) [yv] (.ref s2.heap.objs.size) [y] (λ_ H'=>N σ7 H') J9 rfl (.cons r9 .nil) ⟨_,xs,yv,rq,rq,hl9,hz9,q9⟩) λ_ s10 zz=>?_;obtain⟨_,H10,J10,_,q10⟩:=zz;exact back (pl:=[]) J10 q10
 exact codeAny_compStart_list loop (T.self X.A 0 _ _ _ st3 loop)
theorem Fw {X:Cx} {N':YF} {src:List (Option Nat)} {sc:Scope} {elt tg iter:Expr} {ifs:YJ} {pos:Pos} {wi:TI} {g:TG} {tt:TT} {te:TE} (hc:X.calm=true) (S:Cu X N' src sc)
  (hi:PI X tg iter wi) (hg:∀s3 H3 fp pn,PG (cxC X N' sc s3 H3 fp pn) tg g) (ht:∀s3 H3 fp pn,PF (cxC X N' sc s3 H3 fp pn) ifs tt) (he:∀s3 H3 fp pn,PE (cxC X N' sc s3 H3 fp pn) elt te)
  (hs:∀x,foldedSetIterable iter X.env x=pure x:=by intro _;rfl):PE X (.ListComp elt [⟨tg,iter,ifs,0⟩] sc pos) (RT wi src g tt te):=by
 intro jb s O H Q I h;rw[eval_ListComp];refine Od (use:=none) hc S hi hg ht he hs I h λs3 H3 fp σ4 H4 s5 l I3 f3 J5 q=>?_;obtain⟨m,hn,_⟩:=J5.loc;exact⟨m,hn,λh' sb=>⟨.ref l,H4,Qm I3 f3 J5 sb,rq,q⟩⟩
theorem Ra {X:Cx} {N':YF} {src:List (Option Nat)} {sc:Scope} {elt tg iter:Expr} {ifs:YJ} {pos spos px:Pos} {wi:TI} {g:TG} {tt:TT} {te:TE} {i:Nat} {x:Str} (hN:X.N.Nodup) (hi0:X.N[i]?=some x) (hx:Loc X.env.scope x) (hc:X.calm=true) (S:Cu X N' src sc)
  (hi:PI X tg iter wi) (hg:∀s3 H3 fp pn,PG (cxC X N' sc s3 H3 fp pn) tg g) (ht:∀s3 H3 fp pn,PF (cxC X N' sc s3 H3 fp pn) ifs tt) (he:∀s3 H3 fp pn,PE (cxC X N' sc s3 H3 fp pn) elt te)
  (hsw:swapsWith (.ListComp elt [⟨tg,iter,ifs,0⟩] sc pos) (some (.Name x px)) spos.line X.env=pure true:=by rfl) (hs:∀x,foldedSetIterable iter X.env x=pure x:=by intro _;rfl)
  (hf:X.fn x=true\/X.env.scope.names.lookup x=some .local:=by first | exact .inl rfl | exact .inr rfl | assumption) :
  PS X (.Assign [.Name x px] (.ListComp elt [⟨tg,iter,ifs,0⟩] sc pos) spos) (RV (RT wi src g tt te) (Oz i)):=by
 intro jb s O H D I h;rw[exec_Assign_Name_used _ _ _ _ hsw];refine Qcd (QbP (Qcd ?_));show wpAny _ X.A (do let _ <-comprehension (.ListComp elt [⟨tg,iter,ifs,0⟩] sc pos) sc X.env _ (newList []) false (eval iter X.env) (some (assign (.Name x px) X.env))) _ _ s
 refine Qcd (thn (Od (R:=λ_ s'=>SP X jb D .next s') hc S hi hg ht he hs I h λs3 H3 fp σ4 H4 s5 l I3 f3 J5 q=>?_) λ_ s' hq=>Qce (Qce hq));obtain⟨m,⟨oC,es,ep,hoC,r⟩,_⟩:=J5.loc;have I6:Inv X jb O H4 { s5 with heap:=s5.heap }:=Qm I3 f3 J5 (Heap.SameBut.refl _ _);have hCn:H4 s3.heap.objs.size=none:=J5.free;have neL:s3.heap.objs.size≠X.env.locals:=QbX I3.lt;have Wa:∀v,oC.data≠.cell v:=λv z=>by rw[r.1] at z;cases z
 have I7:Inv X (jb++[(s3.heap.objs.size,oC)]) O H4 s5:=I6.Ka λp hp=>(Qbu.mp hp).elim (λz=>I6.pin p (Qav _ z)) λz=>by
  cases QaS.mp z;exact⟨hoC,hCn,neL,I3.V7 (QbZ _),Wa⟩
 show wpAny _ X.A (assign (.Name x px) X.env (.ref l)) _ _ s5;refine wpAny_assign_Name (IK (v:=.ref l) I7 hN hi0 hx rfl (λs6 I8=>?_) hf);have k8:=(I8.pin (s3.heap.objs.size,oC) (Qav _ (Qav _ (QaS.mpr rfl)))).1;refine⟨m,⟨oC,es,ep,k8,r⟩,λh' sb=>⟨_,H4,?_,q⟩⟩;have I9:=I8.Fi;refine I9.turned (t':=s6.toks) (λb o hb e=>sb.extBut b o hb e) hCn neL (.inr I3.sz) (λy c e z=>?_) (λp hp z=>?_)
 ·obtain⟨v,o,ho,_⟩:=I3.cell y c e;exact absurd (QbR ho) (by rw[z];exact QbO _)
 ·have:=(I3.pin p hp).1;exact absurd (QbR this) (by rw[z];exact QbO _)
theorem Cu.of {X:Cx} {N':YF} {src:List (Option Nat)} {sc:Scope} (fsc:Scope) (N:YF) (hX:X.env.scope=fsc) (hN:X.N=N) (kind:sc.kind=.function) (Gb:∀y∈sc.names,y.2≠.cell) (loc:∀y∈sc.names,y.2=.local->sc.names.lookup y.1=some .local)
  (fv:∀y∈sc.names,y.2=.free->fsc.names.lookup y.1=some .cell) (len:src.length=N'.length)
  (sr:((N'.zip src).all λp=>match p.2 with | none=>true | some j=>decide (N[j]?=some p.1)&&decide (sc.names.lookup p.1=some .free))=true):Cu X N' src sc where
 kind:=kind
 Gb:=Gb
 loc:=loc
 fv:=λy hy e=>.inl (by show X.env.scope.names.lookup y.1=some .cell;rw[hX];exact fv y hy e)
 len:=len
 src:=λi x j e1 e2=>by
  rw[List.all_eq_true] at sr;have hm:(x,some j)∈N'.zip src:=by
   refine QaA (i:=i) ?_;rw[List.getElem?_zip_eq_some];exact⟨e1,e2⟩
  have:=sr _ hm;simp only[Qbp,decide_eq_true_eq] at this;rw[hN];exact this
section
variable {X:Cx}
def Kn (H:Hp):V->Prop
 | .non=>True
 | .bl _=>True
 | .int _=>True
 | .str _=>True
 | .ref a=>(∃xs,H a=some (.lst xs))\/∃xs,H a=some (.tup xs)
 | _=>False
theorem Kn.same {H H':Hp} {v:V} (s:Same H H') (k:Kn H v):Kn H' v:=by
 cases v with
 | ref a=>exact k.imp (λ⟨xs,e⟩=>⟨xs,s _ _ e⟩) λ⟨xs,e⟩=>⟨xs,s _ _ e⟩
 | _=>exact k
def YS (K:YD):R2:=λx y H Q=>∃a b ys,x=.ref a/\y=.ref b/\SqT K H a []/\SqT K H b ys/\Q (.ref b) H
theorem VP:OpR X (binaryOp .Add) (YS X.K):=by
 intro jb s O H x y v u Q I rx ry h;obtain⟨a,b,ys,rfl,rfl,ha,hb,q⟩:=h;cases rx;cases ry;obtain⟨its,r1,p1,_⟩:=I.tuple ha;obtain⟨its2,r2,p2,_⟩:=I.tuple hb;cases r1;obtain⟨⟨cls,dd,data,sl⟩,ho,hc,n,hd⟩:=id p1;obtain⟨⟨cls2,dd2,data2,sl2⟩,ho2,hc2,n2,hd2⟩:=id p2;simp only at hc hd hc2 hd2;subst hc hd hc2 hd2;exact concat_meets ⟨_,ho,rq⟩ ⟨_,ho2,rq⟩ noFill_tuple_add seq_tuple_add PySem.F.slot_tuple_add PySem.F.entry_tuple_add (PySem.F.args_tuple_add_2 _ _)
  (tuple_addW0 a b #[] its2.toArray n n2 dd dd2 sl sl2 rfl) ⟨ho,ho2,⟨.ref b,H,I,rq,q⟩⟩
theorem Cw:OpR X (binaryOp .Add) (λx y H Q=>∃a b xs ys,x=.ref a/\y=.ref b/\H a=some (.tup xs)/\H b=some (.tup ys)/\xs.length+ys.length<=sizeLine /\
  ∀p H',H' p=some (.tup (xs++ys))->Same H H'->Q (.ref p) H'):=by
 intro jb s O H x y v u Q I rx ry h;obtain⟨a,b,xs,ys,rfl,rfl,ha,hb,hz,q⟩:=h;cases xs with
 | nil=>exact VP jb s O H _ _ v u Q I rx ry ⟨a,b,ys,rfl,rfl,SqT.of ha,SqT.of hb,q b H hb (Same.refl H)⟩
 | cons x0 xr=>
  refine Xx jb s O H _ _ v u Q I rx ry ⟨a,b,x0::xr,ys,rq,rq,SqT.of ha,SqT.of hb,(λz=>by cases z),hz,λz=>?_,λz p hp=>?_⟩
  ·subst z;exact q a H (by rw[Qbz];exact ha) (Same.refl H)
  ·refine q p _ Ab λc o e=>?_;rw[Aw (Ay e hp)];exact e
mutual
inductive Rep (H:Hp):V->PyData->Prop
 | non:Rep H .non .none
 | bl (b:Bool):Rep H (.bl b) (.bool b)
 | int (i:Int):Rep H (.int i) (.int i)
 | str (x:Str):Rep H (.str x) (.str x)
 | tup {a:Addr} {xs:YG} {ds:List PyData}:H a=some (.tup xs)->Hh H xs ds->Rep H (.ref a) (.tuple ds)
 | lst {a:Addr} {xs:YG} {ds:List PyData}:H a=some (.lst xs)->Hh H xs ds->Rep H (.ref a) (.list ds)
inductive Hh (H:Hp):YG->List PyData->Prop
 | nil:Hh H [] []
 | cons {x:V} {d:PyData} {xs:YG} {ds:List PyData}:Rep H x d->Hh H xs ds->Hh H (x::xs) (d::ds)
end
mutual
theorem Rep.reads {P:Program} {w:World} {H:Hp} {h:Heap} (ok:HOk P w H h):∀{v:V} {d:PyData} {u:Value},Rep H v d->RelV v u->∃as,Reads h u d as
 | _,_,_,.non,r=>by cases (show _=Value.none from r);exact⟨_,.none⟩
 | _,_,_,.bl b,r=>by cases (show _=Value.bool b from r);exact⟨_,.bool b⟩
 | _,_,_,.int i,r=>by obtain⟨t,rfl⟩:=(show ∃t,_=Value.int i t from r);exact⟨_,.int i t⟩
 | _,_,_,.str x,r=>by obtain⟨t,rfl⟩:=(show ∃t,_=Value.str x t from r);exact⟨_,.str x t⟩
 | _,_,_,.tup (a:=a) (xs:=xs) e q,r=>by
  cases (show _=Value.ref a from r)
  obtain⟨_,its,rv,o,ho,hc,n,hd⟩:=(show BX P w H h a (.tup xs) from ok a _ e)
  obtain⟨as,z⟩:=Hh.reads ok q rv;exact⟨_,.tuple ho hc hd (by simpa using z)⟩
 | _,_,_,.lst (a:=a) (xs:=xs) e q,r=>by
  cases (show _=Value.ref a from r)
  obtain⟨_,its,n,rv,ho⟩:=(show BX P w H h a (.lst xs) from ok a _ e)
  obtain⟨as,z⟩:=Hh.reads ok q rv;exact⟨_,.list ho rfl rfl (by simpa using z)⟩
theorem Hh.reads {P:Program} {w:World} {H:Hp} {h:Heap} (ok:HOk P w H h):∀{xs:YG} {ds:List PyData} {us:YE},Hh H xs ds->Vals xs us->∃as,ReadsAll h us ds as
 | _,_,_,.nil,.nil=>⟨_,.nil⟩
 | _,_,_,.cons p q,.cons r t=>by
  obtain⟨as,a1⟩:=Rep.reads ok p r;obtain⟨bs,b1⟩:=Hh.reads ok q t;exact⟨_,.cons a1 b1⟩
end
theorem Y4 (hu:X.A.units+64 < cLine):OpR X (compareOp .NotEq) (λx y H Q=>∃d e,Rep H x d/\Rep H y e/\SeqAt.shaped d=true/\SeqAt.shaped e=true/\Q (.bl (!PyData.eqv d e)) H):=by
 intro jb s O H x y v u Q I rx ry h;obtain⟨d,e,p,p',sd,se,q⟩:=h;obtain⟨as,r1⟩:=p.reads I.hok rx;obtain⟨bs,r2⟩:=p'.reads I.hok ry;exact ne_dataH r1 r2 sd se hu ⟨.bl (!PyData.eqv d e),H,I,rq,q⟩
end
structure Code (K:YD) (mg:YB) (x:Str) (st:Stmt) (ps:YF):Prop where
 ex:∃(f:Addr) (fd:FuncData),Fun K x x st f fd/\mg x=some (.ref f)/\Binds K fd ps []
structure Good (P:Program) (w:World) (K:YD) (mg:YB) (base:Heap) (x:Str) (k:Nat) (ps:YF) (sp:Sp):Prop where
 ex:∃(f:Addr) (fd:FuncData),mg x=some (.ref f)/\keepIn K (.ref f)=true/\Binds K fd ps []/\Es P w K mg base CX0 k f fd ps sp
theorem Code.good {P:Program} {w:World} {K:YD} {mg:YB} {base:Heap} {x:Str} {st:Stmt} {ps N:YF} {k:Nat} {sp:Sp} (C:Code K mg x st ps) (S:Bx N ps (Ao st)) (len:∀vs H Q E,sp vs H Q E->vs.length=ps.length)
  (hbody:∀(f:Addr) (cdv:Value) (A:Around) (outer:List Env) (s:Shared) (H:Hp) (vs:YG) (Q:VK) (E:XK),Dp k (A.deeper (envOfC x (Ao st) s.heap.objs.size f cdv))->sp vs H Q E ->
   ∃t,PSs (JL CX0 P w K mg base N x (Ao st) f cdv A outer s H E).nox (Dl st) t/\t { nx:=λ_ H'=>Q .non H',rt:=Q } (start N vs) H):Good P w K mg base x (k+1) ps sp:=by
 obtain⟨f,fd,F,m,b⟩:=C.ex;exact⟨f,fd,m,F.kp,b,F.ok S len λcdv A outer s H vs Q E hr h=>hbody f cdv A outer s H vs Q E hr h⟩
theorem Bg {X:Cx} {k k':Nat} {ps:YF} {sp:Sp} {x:Str} {p pos:Pos} {e:Expr} {es:YJ} {t:TA} (g:Good X.prog X.w X.K X.mg X.base x k ps sp) (hr:Dp k' X.A) (ha:PA X (e::es) t) (hk:k<=k':=by decide) (hg:Gl X x:=by rfl)
  (hdb:(x == ("__debug__":Str))=false:=by decide) (he:starEach (e::es) X.env=(false,eval e X.env)::starEach es X.env:=by rfl) (hpl:(backTo pos (starEach es X.env)).any (·.1)=false:=by rfl) :
  PE X (.Call (.Name x p) (e::es) [] pos) (W7 sp [] E0 t):=by
 intro jb s O H Q I h;obtain⟨f,fd,m,kp,b,F⟩:=g.ex;exact Xu F (hr.mono hk) hg m kp b .nil aq ha hdb he hpl jb s O H Q I h
theorem Code.of {K:YD} {mg:YB} {h:Heap} {x:Str} {st:Stmt} {ps:YF} {f:Addr} {oc:Value} {od an:Option Addr} {osl:YI} {kV doc pm cdv ct:Value} (X:K.In h) (G:h.Ns mainGlobals mg)
  (a:nsIn K mainGlobals x=some (some (.ref f))) (l:K.lookup f=some ⟨oc,od,.func (fnOf x x (DY st) (Dl st) (Ao st) .none kV doc pm an cdv ct),osl⟩) (c:codeIn K cdv x=true) (k:keepIn K (.ref f)=true)
  (hb:∀(kV doc pm:Value) (an:Option Addr) (cdv ct:Value) (us:YE),us.length=ps.length->bindArgs (fnOf x x (DY st) (Dl st) (Ao st) .none kV doc pm an cdv ct) ⟨us,[]⟩=pure (ps.zip us)):Code K mg x st ps:=by
 have F:=U6 (st:=st) l c k;exact⟨f,_,F,mg_of X G a,F.binds hb⟩
theorem Ad {H:Hp} {p:Addr} (h:H p=none) (o:HO):Same H (upd H p o):=λb u q=>by rw[Aw (Ay q h)];exact q
theorem Cu.plain {X:Cx} {N':YF} {sc:Scope} (kind:sc.kind=.function) (Gb:∀y∈sc.names,y.2≠.cell) (loc:∀y∈sc.names,y.2=.local->sc.names.lookup y.1=some .local) (PB:∀y∈sc.names,y.2≠.free) :
  Cu X N' (N'.map λ_=>none) sc where
 kind:=kind
 Gb:=Gb
 loc:=loc
 fv:=λy hy e=>absurd e (PB y hy)
 len:=by simp
 src:=λi x j _ e=>by
  rw[Qba] at e;cases q:N'[i]? with
  | none=>rw[q] at e;cases e
  | some z=>rw[q] at e;cases e
theorem WK {K:YD} {a l:Addr} {xs:YG} {g:TG} {tt:TT} {te:TE} {Q:VK} {σ0:St} {H0:Hp} (Pv:YN)
  (h0:Pv 0 σ0 H0) (hl:∀i O H',i<=xs.length->Pv i O H'->SqT K H' a xs)
  (hs:∀i x O H',xs[i]?=some x->Pv i O H'->g x O H' fun σ3 H3=>tt σ3 H3 λb H4=>if b=true then te σ3 H4 λy H5=>∃ys,H5 l=some (.lst ys)/\ys.length < sizeLine/\Pv (i+1) σ3 (upd H5 l (.lst (ys++[y]))) else Pv (i+1) σ3 H4)
  (hd:∀ O H',Pv xs.length O H'->Q (.ref l) H'):Gp (Itt K a) g tt te Q σ0 H0 l:=by
 unfold Gp;refine⟨λi m O H'=>m=xs.length - i/\i<=xs.length/\Pv i O H',⟨xs.length,by simp,Qca _,h0⟩,?_⟩;rintro i m O H' ⟨rfl,hi,p⟩;have q:=hl i O H' hi p;by_cases hlt:i < xs.length
 ·refine .inr ⟨⟨xs,xs[i],q,by simp[hlt]⟩,Pv (i+1),fun σ3 H3 p'=>⟨xs.length - (i+1),by omega,rq,hlt,p'⟩,λx H2 y=>?_⟩;obtain⟨e,y⟩:=y;subst e;exact hs i x O _ (y xs q) p
 ·have e:i=xs.length:=by omega
  subst e;exact .inl ⟨⟨xs,q,QbZ _⟩,hd O H' p⟩
theorem Fz {K:YD} {a l:Addr} {xs:YG} {g:TG} {tt:TT} {te:TE} {Q:VK} {σ0:St} {H0:Hp} (Pv:YN)
  (h0:Pv 0 σ0 H0) (hl:∀i O H',i<=xs.length->Pv i O H'->SqL K H' a xs)
  (hs:∀i x O H',xs[i]?=some x->Pv i O H'->g x O H' fun σ3 H3=>tt σ3 H3 λb H4=>if b=true then te σ3 H4 λy H5=>∃ys,H5 l=some (.lst ys)/\ys.length < sizeLine/\Pv (i+1) σ3 (upd H5 l (.lst (ys++[y]))) else Pv (i+1) σ3 H4)
  (hd:∀ O H',Pv xs.length O H'->Q (.ref l) H'):Gp (Itl K a) g tt te Q σ0 H0 l:=by
 unfold Gp;refine⟨λi m O H'=>m=xs.length - i/\i<=xs.length/\Pv i O H',⟨xs.length,by simp,Qca _,h0⟩,?_⟩;rintro i m O H' ⟨rfl,hi,p⟩;have q:=hl i O H' hi p;by_cases hlt:i < xs.length
 ·refine .inr ⟨⟨xs,xs[i],q,by simp[hlt]⟩,Pv (i+1),fun σ3 H3 p'=>⟨xs.length - (i+1),by omega,rq,hlt,p'⟩,λx H2 y=>?_⟩;obtain⟨e,y⟩:=y;subst e;exact hs i x O _ (y xs q) p
 ·have e:i=xs.length:=by omega
  subst e;exact .inl ⟨⟨xs,q,QbZ _⟩,hd O H' p⟩
theorem Ms {lo:Int} {n:Nat} {l:Addr} {g:TG} {tt:TT} {te:TE} {Q:VK} {σ0:St} {H0:Hp} (Pv:YN) (h0:Pv 0 σ0 H0)
  (hs:∀i O H',i < n->Pv i O H'->g (.int (lo+i)) O H' fun σ3 H3=>tt σ3 H3 λb H4=>if b=true then te σ3 H4 λy H5=>∃ys,H5 l=some (.lst ys)/\ys.length < sizeLine/\Pv (i+1) σ3 (upd H5 l (.lst (ys++[y]))) else Pv (i+1) σ3 H4)
  (hd:∀ O H',Pv n O H'->Q (.ref l) H'):Gp (Itr lo n) g tt te Q σ0 H0 l:=by
 unfold Gp;refine⟨λi m O H'=>m=n - i/\i<=n/\Pv i O H',⟨n,by simp,Qca _,h0⟩,?_⟩;rintro i m O H' ⟨rfl,hi,p⟩;by_cases hlt:i < n
 ·refine .inr ⟨hlt,Pv (i+1),fun σ3 H3 p'=>⟨n - (i+1),by omega,rq,hlt,p'⟩,λx H2 y=>?_⟩;obtain⟨e,y⟩:=y;subst e y;exact hs i O _ hlt p
 ·have e:i=n:=by omega
  subst e;exact .inl ⟨QbZ _,hd O H' p⟩
section
variable {X:Cx}
theorem Oh (hc:X.calm=true):Fe X (.builtin "max") (λxs H Q=>∃(p:Addr) (ns:List Int),xs=[.ref p]/\SqL X.K H p (ns.map V.int)/\0 < ns.length/\∀M,M∈ns->(∀a,a∈ns->a<=M)->Q (.int M) H):=by
 intro jb s O H xs us Q I r h;obtain⟨p,ns,rfl,hq,hne,q⟩:=h;obtain⟨u,rfl,rx⟩:=vals1 r;cases rx;obtain⟨its,rv,pl,hz⟩:=I.list hq;have hi:IntsAre its ns:=intsAre_of rv;obtain⟨zs,e⟩:=hi.allInts.items;have hl:=pl.isList;rw[e] at hl;have hns:ns=zs.toList.map (·.1):=by rw[<-hi.numsOf,<-nums_intItems,<-e]
 have hsz:0 < zs.size:=by
  have h3:=hne;rw[hns,Qbt,QaH] at h3;exact h3
 refine max_intList (I.ok.hd hc) hl hsz λv h' tk hv hk=>?_;obtain⟨t,rfl⟩:=intItems_at hv;obtain⟨_,h2⟩:=argBest_gt (numAt zs) (zs.size - 1);refine⟨.int _,H,I.kept hk,⟨t,rq⟩,q _ ?_ λa ha=>?_⟩
 ·rw[hns,numAt_eq];exact getD_mem (by rw[Qbt,QaH];have:=(argBest_gt (numAt zs) (zs.size - 1)).1;omega)
 ·rw[hns] at ha;obtain⟨j,hj,rfl⟩:=mem_getD ha;rw[Qbt,QaH] at hj;rw[<-numAt_eq];exact h2 j (by omega)
theorem Oa:∀{us:YE} {ns:List Int},IntsAre us ns->Vals (ns.map V.int) us:=λh=>Ju h
theorem Qq:Fe X (.builtin "sorted") (λxs H Q=>∃(p:Addr) (ns:List Int),xs=[.ref p]/\SqL X.K H p (ns.map V.int)/\ns.length < 64 /\
  ∀(ms:List Int) l,ms.Perm ns->ms.Pairwise (·<=·)->H l=none->Q (.ref l) (upd H l (.lst (ms.map V.int)))):=by
 intro jb s O H xs us Q I r h;obtain⟨p,ns,rfl,hq,h64,q⟩:=h;obtain⟨u,rfl,rx⟩:=vals1 r;cases rx;obtain⟨its,rv,pl,hz⟩:=I.list hq;have hi:IntsAre its ns:=intsAre_of rv;have hlen:=hi.length;refine sorted_ints pl.isList hi (by omega) λout ms a1 a2 a3=>?_;obtain⟨e,he⟩:=sortedAll_at s.heap its out;have hml:=a2.length_eq;refine⟨.ref (s.heap.objs.size+1),_,I.laid (t':=s.toks) (o:=.lst (ms.map V.int)) (λb o q=>sortedAll_old q) (Nat.le_succ _) ?_,rq,q ms _ a2 a3 (I.hok.fresh (Nat.le_succ _))⟩;exact⟨by rw[Qbt];exact QbW (Bc (by omega)),out.toList,e,Oa a1,he⟩
theorem QX:∀{ys:YF} {us:YE},Vals (ys.map V.str) us->StrsAre us ys
 | [],_,.nil=>.nil
 | y::r,_,.cons h t=>by
  obtain⟨t',e⟩:=(show ∃t,_=Value.str y t from h)
  cases e;exact .cons y t' (QX t)
def rJoin (K:YD):V->YG->Hp->VK->Prop:=λx vs H Q=>∃(z:Str) (p:Addr) (ys:YF),x=.str z/\vs=[.ref p]/\SqL K H p (ys.map V.str)/\(ys.map (·.length)).sum+ys.length*z.length<=16777216/\Q (.str (Txt.join z ys)) H
theorem XM:MtR X "str.join" (rJoin X.K):=by
 intro jb s O H x vs v us Q I rx rv h;obtain⟨z,p,ys,rfl,rfl,hq,hz,q⟩:=h;obtain⟨t,rfl⟩:=rx;obtain⟨u,rfl,ru⟩:=rv.one;cases ru;obtain⟨its,r',pl,_⟩:=I.list hq;exact join_list pl.isList (QX r') hz λt' k=>⟨.str (Txt.join z ys),H,I.tok k,⟨t',rq⟩,q⟩
def Its (z:Str):It:=⟨λi _=>i < z.cps.size,λi H x H'=>H'=H/\∃c,z.cps[i]?=some c/\x=.str ⟨#[c]⟩,λi _=>i=z.cps.size⟩
def cO (tl:TE):TI:=fun O H R=>tl O H λx H1=>∃z,x=.str z/\R (Its z) H1
end
section
variable {X:Cx} {tg:Expr}
theorem O4 {P:Program} {w:World} {K:YD} {tg:Expr} (z:Str) (t:Tok) (it:Addr) (ty:String) (hty:["enumerate","zip","dict_itemiterator","dict_reverseitemiterator","odict_iterator","itertools.zip_longest","itertools.pairwise"].contains ty=false)
  (W:∀A':Around,A'.handled=none->Walks P w A' it [it] [it] z.cps.size (SignAt z) (λi h=>h.IsStrIter it ty z t i))
  (hself:∀(A:Around) (i:Nat) (s:Shared) (Q:YA) (E:YA),s.heap.IsStrIter it ty z t i->Q (.ref it) s->wpAny (model P w) A (pyIter (.ref it)) Q E s) :
  Turn P w K tg (Its z) [it] it (λi h=>h.IsStrIter it ty z t i) where
 mem:=QaS.mpr rfl
 obj:=λi h st b hb=>by
  cases QaS.mp hb;obtain⟨o,e,c,d⟩:=st;exact⟨o,e,λv z'=>by rw[d] at z';cases z'⟩
 keep:=λi h h' st k=>by
  obtain⟨o,e,r⟩:=st;exact⟨o,k it (QaS.mpr rfl) o e,r⟩
 item:=by
  intro X hP hw hK hc i jb s O H E I hf st hg;subst hP hw hK;obtain⟨f0,f1,f2,f3,f4,f5⟩:=hf it (QaS.mpr rfl);refine (W X.A (I.ok.hd hc)).item i s _ _ hg st λv h' tk hv st' kk=>?_;obtain⟨c,u,hcu,rfl⟩:=hv;have I1:Inv X jb O H { s with heap:=h',toks:=tk }:=I.turned (λb o hb e=>kk b o (λhm=>hb (QaS.mp hm)) e) f0 f1 f3 f4 f5;obtain⟨o,e,cl,d⟩:=id st';exact⟨_,rq,Ox (s:={ s with heap:=h',toks:=tk }) e cl d hty ⟨.str ⟨#[c]⟩,H,I1,⟨u,rq⟩,⟨rq,c,hcu,rq⟩,st',λb hb=>(hf b hb).1⟩⟩
 done:=by
  intro X hP hw hK hc i jb s O H E I hf st hg;subst hP hw hK;obtain⟨f0,f1,f2,f3,f4,f5⟩:=hf it (QaS.mpr rfl);cases (show i=z.cps.size from hg)
  exact (W X.A (I.ok.hd hc)).done s _ _ st λh' tk kk=>⟨rq,I.turned (λb o hb e=>kk b o (λhm=>hb (QaS.mp hm)) e) f0 f1 f3 f4 f5⟩
 self:=λA i s Q E st h=>hself A i s Q E st h
theorem YX {l:Expr} {tl:TE} (hl:PE X l tl):PI X tg l (cO tl):=by
 intro jb s O H R I h;refine thn (hl jb s O H _ I h) λv s1 zz=>?_;obtain⟨x,H1,I1,r1,z,e,q⟩:=zz;subst e;obtain⟨t,rfl⟩:=r1;have fp:∀o:Obj,∀b∈[s1.heap.objs.size],Er X jb H1 b:=λo b hb=>by
  cases QaS.mp hb;exact I1.Nq (QbZ _) (I1.hok.fresh (QbZ _))
 cases ha:z.cps.all (· < 128) with
 | true=>
  refine wpAny_pyIter_ascii ha ?_;exact⟨s1.heap.objs.size,[s1.heap.objs.size],_,_,H1,rq,I1.kept (t':=s1.toks) λb o e=>Qas _ e,O4 z t _ "str_ascii_iterator" (by decide) (λA' hA=>Walks.strAscii hA _ z t) (λ_ _ _ _ _ st h=>wpAny_pyIter_striter_ascii st h),
   ⟨_,QaG _ rfl,rq,rq⟩,fp { cls:=.none,data:=.fields #[] },q⟩
 | false=>
  refine wpAny_pyIter_wide ha ?_;exact⟨s1.heap.objs.size,[s1.heap.objs.size],_,_,H1,rq,I1.kept (t':=s1.toks) λb o e=>Qas _ e,O4 z t _ "str_iterator" (by decide) (λA' hA=>Walks.strWide hA _ z t) (λ_ _ _ _ _ st h=>wpAny_pyIter_striter_wide st h),
   ⟨_,QaG _ rfl,rq,rq⟩,fp { cls:=.none,data:=.fields #[] },q⟩
theorem WL {z:Str} {l:Addr} {g:TG} {tt:TT} {te:TE} {Q:VK} {σ0:St} {H0:Hp} (Pv:YN) (h0:Pv 0 σ0 H0)
  (hs:∀i c O H',z.cps[i]?=some c->Pv i O H'->g (.str ⟨#[c]⟩) O H' fun σ3 H3=>tt σ3 H3 λb H4=>if b=true then te σ3 H4 λy H5=>∃ys,H5 l=some (.lst ys)/\ys.length < sizeLine/\Pv (i+1) σ3 (upd H5 l (.lst (ys++[y]))) else Pv (i+1) σ3 H4)
  (hd:∀ O H',Pv z.cps.size O H'->Q (.ref l) H'):Gp (Its z) g tt te Q σ0 H0 l:=by
 unfold Gp;refine⟨λi m O H'=>m=z.cps.size - i/\i<=z.cps.size/\Pv i O H',⟨z.cps.size,by simp,Qca _,h0⟩,?_⟩;rintro i m O H' ⟨rfl,hi,p⟩;by_cases hlt:i < z.cps.size
 ·refine .inr ⟨hlt,Pv (i+1),fun σ3 H3 p'=>⟨z.cps.size - (i+1),by omega,rq,hlt,p'⟩,λx H2 y=>?_⟩;obtain⟨e,c,hc,rfl⟩:=y;subst e;exact hs i c O _ hc p
 ·have e:i=z.cps.size:=by omega
  subst e;exact .inl ⟨rq,hd O H' p⟩
end
end L2
namespace HT
open PySem PyProof.Rows
section
variable {prog:Program} {w:World} {A:Around} {E:YA} {s:Shared}
theorem Ko {t sl:Addr} {items:Array Value} {vl vu:Value} {lo hi:Option Int} {Q:YA} (ht:IsTup s.heap t items) (hs:s.heap.IsSliceOf sl vl vu .none) (pl:IsPart vl lo) (pu:IsPart vu hi)
  (hw:sIx items.size 0 lo=0/\sIx items.size items.size hi=items.size) (h:Q (.ref t) s):wpAny (model prog w) A (getItem (.ref t) (.ref sl)) Q E s:=by
 obtain⟨os,hos,hcs,hds⟩:=id hs;have hTs:s.TypeIs (.ref sl) "slice":=⟨os,hos,hcs⟩;unfold getItem
 try with_reducible refine QbN ?_
 first | refine Qcd (Qce ?_) | skip
 refine Qcd (wpAny_sequenceKey ht.typeIs (by decide) ?_);refine Qcd (Qao (name:=Str.ofString "__getitem__") ht.typeIs Qab (Qbo Qab ht.typeIs entry_tuple_getitem ?_ (args_tuple_getitem _ _)));show wpAny _ _ (Builtin.Tuple.tupleItemsOf (.ref t) >>= _) _ _ s;refine Qcd (tupleItemsOf_ ht ?_);refine Qcd (wpAny_typeOf hTs ?_);rw[if_pos (by decide)];refine Qcd (GZ hs pl pu ?_);rw[hw.1,hw.2];show wpAny _ _ (if (((0:Nat):Int) == 0&&(1:Int) == 1&&(items.size - 0) == items.size)=true then _ else _) _ _ s
 rw[if_pos (by simp)];refine Qcd ?_;unfold Builtin.Tuple.tupleIsExact;refine Qcd (wpAny_typeOf ht.typeIs (Qce ?_));rw[if_pos (by decide)];exact Qcd (wpAny_rule (Qce ⟨_,rq,Qce h⟩))
end
end HT
namespace L2
open PySem PySem.Spec PyProof.Rows
section
variable {X:Cx}
theorem Ed:SlR X (λx lo hi H Q=>∃a xs,x=.ref a/\H a=some (.tup xs)/\∀p H',H' p=some (.tup (Fp xs lo hi))->Same H H'->Q (.ref p) H'):=by
 intro jb s O H x v vl vu lo hi sl Q I rx hs pl pu h;obtain⟨a,xs,rfl,hx,q⟩:=h;by_cases hw:HT.sIx xs.length 0 lo=0/\HT.sIx xs.length xs.length hi=xs.length
 ·cases rx;obtain⟨its,r,ht,hz⟩:=I.tuple (SqT.of hx);have hlen:its.toArray.size=xs.length:=by rw[QaZ];exact r.length.symm
  refine⟨"tuple",_,Qab.lookup,ht.typeIs,?_⟩;refine HT.Ko ht hs pl pu (by rw[hlen];exact hw) ⟨.ref a,H,I,rq,q a H ?_ (Same.refl H)⟩;have e:Fp xs lo hi=xs:=by unfold Fp;rw[hw.1,hw.2];simp
  rw[e];exact hx
 ·exact Yw jb s O H _ v vl vu lo hi sl Q I rx hs pl pu ⟨a,xs,rq,SqT.of hx,hw,λp hp=>q p _ Ab (λc o e=>by rw[Aw (Ay e hp)];exact e)⟩
theorem Uc:SlR X (λx lo hi H Q=>∃z,x=.str z/\z.length<=sizeLine/\Q (.str (Txt.slice z lo hi)) H):=by
 intro jb s O H x v vl vu lo hi sl Q I rx hs pl pu h;obtain⟨z,rfl,hz,q⟩:=h;obtain⟨t,rfl⟩:=rx;refine⟨"str",_,F.slot_str_getitem.lookup,typeIs_str _ _ _,?_⟩;have fin:∀t' k,EP X jb O Q (.str (Txt.slice z lo hi) t') { s with toks:=k }:=λt' k=>⟨.str (Txt.slice z lo hi),H,I.tok k,⟨t',rq⟩,q⟩;cases pl with
 | none=>
  cases pu with
  | none=>exact Qar (l:=none) (u:=none) (st:=none) hs rfl (post_val_or_str ⟨QbT (Txt.slice_le z _ _) hz,fin⟩)
  | int j tj=>exact Qar (l:=none) (u:=some (j,tj)) (st:=none) hs rfl (post_val_or_str ⟨QbT (Txt.slice_le z _ _) hz,fin⟩)
 | int i ti=>
  cases pu with
  | none=>exact Qar (l:=some (i,ti)) (u:=none) (st:=none) hs rfl (post_val_or_str ⟨QbT (Txt.slice_le z _ _) hz,fin⟩)
  | int j tj=>exact Qar (l:=some (i,ti)) (u:=some (j,tj)) (st:=none) hs rfl (post_val_or_str ⟨QbT (Txt.slice_le z _ _) hz,fin⟩)
end
structure Xh (K:YD) (C:Addr) (m qn:Str) (st:Stmt) (ps:YF):Prop where
 ex:∃(f:Addr) (fd:FuncData),Fun K m qn st f fd/\Meth K C m f/\Binds K fd ps []
structure aU (P:Program) (w:World) (K:YD) (mg:YB) (base:Heap) (C:Addr) (m:Str) (k:Nat) (ps:YF) (sp:Sp):Prop where
 ex:∃(f:Addr) (fd:FuncData),Meth K C m f/\Binds K fd ps []/\Es P w K mg base CX0 k f fd ps sp
theorem Xh.good {P:Program} {w:World} {K:YD} {mg:YB} {base:Heap} {C:Addr} {m qn:Str} {st:Stmt} {ps N:YF} {k:Nat} {sp:Sp} (c:Xh K C m qn st ps) (S:Bx N ps (Ao st)) (len:∀vs H Q E,sp vs H Q E->vs.length=ps.length)
  (hbody:∀(f:Addr) (cdv:Value) (A:Around) (outer:List Env) (s:Shared) (H:Hp) (vs:YG) (Q:VK) (E:XK),Dp k (A.deeper (envOfC qn (Ao st) s.heap.objs.size f cdv))->sp vs H Q E ->
   ∃t,PSs (JL CX0 P w K mg base N qn (Ao st) f cdv A outer s H E).nox (Dl st) t/\t { nx:=λ_ H'=>Q .non H',rt:=Q } (start N vs) H):aU P w K mg base C m (k+1) ps sp:=by
 obtain⟨f,fd,F,M,b⟩:=c.ex;exact⟨f,fd,M,b,F.ok S len λcdv A outer s H vs Q E hr h=>hbody f cdv A outer s H vs Q E hr h⟩
theorem Uq {X:Cx} {x:Str} {v:V} {pos:Pos} (hg:Gl X x) (hm:∃u,X.mg x=some u/\RelV v u) (hd:(x == ("__debug__":Str))=false:=by decide):PE X (.Name x pos) (tC v):=by
 obtain⟨u,h,r⟩:=hm;exact Xr hg h r hd
def Ak (H H':Hp):Prop:=∀c xs,H c=some (.tup xs)->H' c=some (.tup xs)
theorem Ak.refl (H:Hp):Ak H H:=λ_ _ e=>e
theorem Ak.trans {H H1 H2:Hp} (a:Ak H H1) (b:Ak H1 H2):Ak H H2:=λc xs e=>b c xs (a c xs e)
theorem Ak.of {H H1:Hp} (s:Same H H1):Ak H H1:=λc xs e=>s c _ e
theorem Ak.upd {H:Hp} {b:Addr} {o:HO} (h:∀xs,H b≠some (.tup xs)):Ak H (upd H b o):=λc xs e=>by
 have n:c≠b:=λz=>h xs (z ▸ e);rw[Aw n];exact e
def Ag (b:Addr) (H H':Hp):Prop:=∀c o,H c=some o->c≠b->H' c=some o
theorem Ag.trans {b:Addr} {H H1 H2:Hp} (x:Ag b H H1) (y:Ag b H1 H2):Ag b H H2:=λc o e n=>y c o (x c o e n) n
theorem Ag.of {b:Addr} {H H1:Hp} (x:Same H H1):Ag b H H1:=λc o e _=>x c o e
theorem Ag.refl (b:Addr) (H:Hp):Ag b H H:=λ_ _ e _=>e
theorem Ag.upd {b:Addr} {H:Hp} {o:HO}:Ag b H (upd H b o):=λc u e n=>by rw[Aw n];exact e
theorem Ag.tup {b:Addr} {H H':Hp} (x:Ag b H H') (h:∀xs,H b≠some (.tup xs)):Ak H H':=λc xs e=>x c _ e λz=>h xs (z ▸ e)
theorem Ag.free {b:Addr} {H H':Hp} (x:Ag b H H') (hb:∃o,H' b=some o) {l:Addr} (h:H' l=none):H l=none:=by
 cases e:H l with
 | none=>rfl
 | some o=>
  by_cases n:l=b
  ·obtain⟨o',e'⟩:=hb;rw[n,e'] at h;cases h
  ·rw[x l o e n] at h;cases h
section
variable {X:Cx} {o e value:Expr} {f:Str} {pos pos' tpos:Pos} {ta tv:TE}
theorem PE.weak {ta ta':TE} (h:PE X e ta) (i:∀ O H Q,ta' O H Q->ta O H Q):PE X e ta':=λjb s O H Q I q=>h jb s O H Q I (i O H Q q)
end
theorem PS.weak {X:Cx} {s:Stmt} {t t':TS} (h:PS X s t) (i:∀D O H,t' D O H->t D O H):PS X s t':=λjb sh O H D I q=>h jb sh O H D I (i D O H q)
section
variable {X:Cx} {K:YD}
theorem Jd (h:X.K=K):OpR X (compareOp .In) (rIn K false):=h ▸ Hl
theorem Jo (h:X.K=K):OpR X (compareOp .NotIn) (rIn K true):=h ▸ JC
end
end L2
namespace PySem
open Sem (wp)
section
variable {prog:Program} {w:World} {A:Around} {E:YA} {s:Shared}
end
end PySem
namespace L2
open PySem PySem.Spec PyProof.Rows
section
variable {X:Cx} {pos:Pos}
end
theorem N6 {α : Type}:∀{l:List α} {i:Nat} {a:α},l.Nodup->a∉l->(l.set i a).Nodup
 | [],_,_,h,_=>by simpa using h
 | x::r,0,a,h,n=>by
  rw[QbA] at h;rw[QaO,QbA];exact⟨λz=>n (QaB _ z),h.2⟩
 | x::r,i+1,a,h,n=>by
  rw[QbA] at h;rw[QaP,QbA];refine⟨λz=>?_,N6 h.2 λz=>n (QaB _ z)⟩;rcases List.mem_or_eq_of_mem_set z with z | z
  ·exact h.1 z
  ·exact n (z ▸ QaM)
structure Has (H:Hp) (l:List (Addr×HO)):Prop where
 nd:(l.map (·.1)).Nodup
 at_:∀x∈l,H x.1=some x.2
theorem Has.get {H:Hp} {l:List (Addr×HO)} (h:Has H l) {i:Nat} {a:Addr} {o:HO} (e:l[i]?=some (a,o)):H a=some o:=h.at_ (a,o) (QaA e)
theorem Has.same {H H':Hp} {l:List (Addr×HO)} (h:Has H l) (s:Same H H'):Has H' l:=⟨h.nd,λx hx=>s _ _ (h.at_ x hx)⟩
theorem Has.FQ {H H':Hp} {l:List (Addr×HO)} {b:Addr} (h:Has H l) (s:Ag b H H') (n:b∉l.map (·.1)):Has H' l:=⟨h.nd,λx hx=>s _ _ (h.at_ x hx) λz=>n (z ▸ QbV.mpr ⟨x,hx,rfl⟩)⟩
theorem Has.aF {H:Hp} {l:List (Addr×HO)} {a:Addr} (h:Has H l) (e:H a=none):a∉l.map (·.1):=λz=>by
 obtain⟨x,hx,rfl⟩:=QbV.mp z;rw[h.at_ x hx] at e;cases e
theorem map_set {l:List (Addr×HO)} {i:Nat} {a:Addr} {o:HO}:(l.set i (a,o)).map (·.1)=(l.map (·.1)).set i a:=by rw[List.map_set]
theorem Has.set {H H':Hp} {l:List (Addr×HO)} (h:Has H l) (i:Nat) {a:Addr} {o o':HO} (e:l[i]?=some (a,o)) (s:Ag a H H') (e':H' a=some o'):Has H' (l.set i (a,o')):=by
 have em:(l.map (·.1))[i]?=some a:=by rw[Qba,e];rfl
 have hi:=(Qaf.mp e).1;refine⟨?_,λx hx=>?_⟩
 ·rw[map_set];have:(l.map (·.1)).set i a=l.map (·.1):=by
   obtain⟨h1,h2⟩:=Qaf.mp em;rw[<-h2];exact List.set_getElem_self h1
  rw[this];exact h.nd
 ·obtain⟨j,hj,ex⟩:=List.mem_iff_getElem.mp hx;rw[List.getElem_set] at ex;by_cases q:i=j
  ·rw[if_pos q] at ex;subst ex;exact e'
  ·rw[if_neg q] at ex;have hj':j < l.length:=by simpa using hj
   have hm:x∈l:=ex ▸ List.getElem_mem hj';refine s _ _ (h.at_ x hm) λz=>q ?_;have ej:(l.map (·.1))[j]?=some a:=by rw[Qba,Qai hj'];rw[<-z,<-ex];rfl
   obtain⟨h1,h2⟩:=Qaf.mp em;obtain⟨h3,h4⟩:=Qaf.mp ej;exact (List.getElem_inj h.nd).mp (h2.trans h4.symm)
theorem Has.put {H:Hp} {l:List (Addr×HO)} (h:Has H l) (i:Nat) {a:Addr} {o:HO} (n:a∉l.map (·.1)) (e:H a=some o):Has H (l.set i (a,o)):=by
 refine⟨by rw[map_set];exact N6 h.nd n,λx hx=>?_⟩;rcases List.mem_or_eq_of_mem_set hx with z | z
 ·exact h.at_ x z
 ·rw[z];exact e
theorem Has.new {H H':Hp} {l:List (Addr×HO)} {a:Addr} {o:HO} (h:Has H l) (n:H a=none) (s:Same H H') (e:H' a=some o):Has H' (l++[(a,o)]):=by
 refine⟨?_,λx hx=>?_⟩
 ·rw[Qbw,List.nodup_append];refine⟨h.nd,by simp,λx hx y hy z=>?_⟩;have:y=a:=by simpa using hy
  subst this;exact h.aF n (z ▸ hx)
 ·rcases Qbu.mp hx with z | z
  ·exact s _ _ (h.at_ x z)
  ·have:x=(a,o):=by simpa using z
   subst this;exact e
theorem Has.nil (H:Hp):Has H []:=⟨List.nodup_nil,λx hx=>by cases hx⟩
theorem Has.ne {H:Hp} {l:List (Addr×HO)} (h:Has H l) {i j:Nat} {a b:Addr} {o p:HO} (e:l[i]?=some (a,o)) (e':l[j]?=some (b,p)) (n:i≠j):a≠b:=λz=>by
 have ea:(l.map (·.1))[i]?=some a:=by rw[Qba,e];rfl
 have eb:(l.map (·.1))[j]?=some a:=by rw[Qba,e',z];rfl
 obtain⟨h1,h2⟩:=Qaf.mp ea;obtain⟨h3,h4⟩:=Qaf.mp eb;exact n ((List.getElem_inj h.nd).mp (h2.trans h4.symm))
theorem Same.Df {H0 H H':Hp} {a:Addr} (s:Same H0 H) (b:Ag a H H') (f:H0 a=none):Same H0 H':=λc o e=>b _ _ (s _ _ e) λz=>by rw[z,f] at e;cases e
section
variable {κ : Type} [DecidableEq κ]
def Fg (kvs:List (κ×V)) (k:κ):Option V:=(kvs.find? λkv=>decide (kv.1=k)).map (·.2)
def putK (kvs:List (κ×V)) (k:κ) (v:V):List (κ×V):=
 if (kvs.any λkv=>decide (kv.1=k))=true then kvs.map (λkv=>if kv.1=k then (kv.1,v) else kv) else kvs++[(k,v)]
def Xe (kvs:List (κ×V)) (k:κ):List (κ×V):=kvs.filter λkv=>decide (kv.1≠k)
theorem Kw {p:κ×V} {r:List (κ×V)} {k:κ} (e:p.1=k):Fg (p::r) k=some p.2:=by simp[Fg,QbG,e]
theorem Iv {p:κ×V} {r:List (κ×V)} {k:κ} (e:¬p.1=k):Fg (p::r) k=Fg r k:=by simp[Fg,QbG,e]
theorem Iw (k:κ):∀kvs:List (κ×V),(kvs.any λkv=>decide (kv.1=k))=(Fg kvs k).isSome
 | []=>rfl
 | p::r=>by
  rw[QbQ];by_cases e:p.1=k
  ·simp only[Kw e,QbH e,Bool.true_or,Option.isSome_some]
  ·rw[Iv e,Qbx e,Bool.false_or];exact Iw k r
theorem Hw (kvs:List (κ×V)) (k:κ) (v:V):(putK kvs k v).length<=kvs.length+1:=by
 unfold putK;split
 ·rw[Qbt];omega
 ·rw[QaL,Qbm,List.length_nil];omega
theorem VF {kvs:List (κ×V)} {k:κ} (v:V) (h:Fg kvs k=none):putK kvs k v=kvs++[(k,v)]:=by
 unfold putK;rw[Iw,h];exact if_neg (by decide)
theorem JN.Gz {o:Option V} {u:Option Value} (r:JN o u):o.isSome=u.isSome:=by
 cases o with
 | none=>cases u with
  | none=>rfl
  | some _=>exact (show False from r).elim
 | some _=>cases u with
  | none=>exact (show False from r).elim
  | some _=>rfl
theorem JN.getD {o:Option V} {u:Option Value} {d:V} {d':Value} (r:JN o u) (rd:RelV d d'):RelV (o.getD d) (u.getD d'):=by
 cases o with
 | none=>cases u with
  | none=>exact rd
  | some _=>exact (show False from r).elim
 | some _=>cases u with
  | none=>exact (show False from r).elim
  | some _=>exact r
theorem KV.val {kvs:List (κ×V)} {vs:List (κ×Value)} (r:KV kvs vs) (k:κ):JN (Fg kvs k) (valueAt vs k):=by
 unfold KV at r
 induction r with
 | nil=>exact True.intro
 | @cons p q ps qs h t ih=>
  obtain⟨h1,h2⟩:=h;by_cases e:p.1=k
  ·have e':q.1=k:=h1.symm.trans e;have b:valueAt (q::qs) k=some q.2:=by simp[valueAt,QbG,e']
   rw[Kw e,b];exact h2
  ·have e':¬q.1=k:=λz=>e (h1.trans z);have b:valueAt (q::qs) k=valueAt qs k:=by simp[valueAt,QbG,e']
   rw[Iv e,b];exact ih
theorem KV.any {kvs:List (κ×V)} {vs:List (κ×Value)} (r:KV kvs vs) (k:κ):(kvs.any λkv=>decide (kv.1=k))=vs.any λkv=>decide (kv.1=k):=by
 unfold KV at r
 induction r with
 | nil=>rfl
 | cons h t ih=>rw[QbQ,QbQ,ih,h.1]
theorem KV.repl {kvs:List (κ×V)} {vs:List (κ×Value)} (r:KV kvs vs) (k:κ) {y:V} {u:Value} (ry:RelV y u) :
  KV (kvs.map λkv=>if kv.1=k then (kv.1,y) else kv) (vs.map λkv=>if kv.1=k then (kv.1,u) else kv):=by
 unfold KV at r ⊢
 induction r with
 | nil=>exact .nil
 | @cons p q ps qs h t ih=>
  rw[QbM,QbM];refine .cons ?_ ih;obtain⟨h1,h2⟩:=h;by_cases e:p.1=k
  ·rw[if_pos e,if_pos (h1.symm.trans e)];exact⟨h1,ry⟩
  ·rw[if_neg e,if_neg (λz=>e (h1.trans z))];exact⟨h1,h2⟩
theorem KV.put {kvs:List (κ×V)} {vs:List (κ×Value)} (r:KV kvs vs) (k:κ) {y:V} {u:Value} (ry:RelV y u):KV (putK kvs k y) (stored vs k u):=by
 unfold putK stored;rw[r.any k];by_cases e:(vs.any λkv=>decide (kv.1=k))=true
 ·rw[if_pos e,if_pos e];exact r.repl k ry
 ·rw[if_neg e,if_neg e];exact Qcb r ⟨rq,ry⟩
theorem KV.drop {kvs:List (κ×V)} {vs:List (κ×Value)} (r:KV kvs vs) (k:κ):KV (Xe kvs k) (without vs k):=by
 unfold KV at r ⊢;unfold Xe without
 induction r with
 | nil=>exact .nil
 | @cons p q ps qs h t ih=>
  obtain⟨h1,h2⟩:=h;rw[List.filter_cons,List.filter_cons];by_cases e:p.1=k
  ·have a:¬decide (p.1≠k)=true:=by simp[e]
   have b:¬decide (q.1≠k)=true:=by simp[h1.symm.trans e]
   rw[if_neg a,if_neg b];exact ih
  ·have e':¬q.1=k:=λz=>e (h1.trans z);have a:decide (p.1≠k)=true:=by simp[e]
   have b:decide (q.1≠k)=true:=by simp[e']
   rw[if_pos a,if_pos b];exact .cons ⟨h1,h2⟩ ih
theorem KV.length {kvs:List (κ×V)} {vs:List (κ×Value)} (r:KV kvs vs):kvs.length=vs.length:=QbK r
end
theorem Mg {P:Program} {w:World} {k:Key} {u:Value} (r:RelV (kV k) u):(Dj P w).is k u=true:=by
 cases k with
 | inl i=>obtain⟨t,e⟩:=(show ∃t,u=Value.int i t from r);subst e;exact QH P w i t
 | inr x=>obtain⟨t,e⟩:=(show ∃t,u=Value.str x t from r);subst e;exact QG P w x t
theorem N8 {P:Program} {w:World}:∀{ks:List Key} {us:YE},Vals (ks.map kV) us->ItemsAre (Dj P w) ks us
 | [],_,r=>by rw[List.map_nil] at r;cases r;exact .nil
 | k::ks,_,r=>by
  rw[QbM] at r;cases r with
  | cons h t=>exact .cons (Mg h) (N8 t)
abbrev YL:=List (List Key×V)
abbrev KT (H:Hp):YL->List (List Key×Addr×Value)->Prop:=Paired λp q=>p.1=q.1/\H q.2.1=some (.tup (p.1.map kV))/\RelV p.2 q.2.2
theorem KT.val {H:Hp} {kvs:YL} {xs:List (List Key×Addr×Value)} (r:KT H kvs xs) (k:List Key):JN (Fg kvs k) ((atKey xs k).map (·.2)):=by
 induction r with
 | nil=>exact True.intro
 | @cons p q ps qs h t ih=>
  obtain⟨h1,_,h2⟩:=h;by_cases e:p.1=k
  ·have e':q.1=k:=h1.symm.trans e;have b:atKey (q::qs) k=some q.2:=by simp[atKey,QbG,e']
   rw[Kw e,b];exact h2
  ·have e':¬q.1=k:=λz=>e (h1.trans z);have b:atKey (q::qs) k=atKey qs k:=by simp[atKey,QbG,e']
   rw[Iv e,b];exact ih
theorem KT.repl {H:Hp} {kvs:YL} {xs:List (List Key×Addr×Value)} (r:KT H kvs xs) (k:List Key) {y:V} {u:Value} (ry:RelV y u) :
  KT H (kvs.map λkv=>if kv.1=k then (kv.1,y) else kv) (xs.map (putAt k u)):=by
 induction r with
 | nil=>exact .nil
 | @cons p q ps qs h t ih=>
  rw[QbM,QbM];refine .cons ?_ ih;obtain⟨h1,h2,h3⟩:=h;unfold putAt;by_cases e:p.1=k
  ·rw[if_pos e,if_pos (h1.symm.trans e)];exact⟨h1,h2,ry⟩
  ·rw[if_neg e,if_neg (λz=>e (h1.trans z))];exact⟨h1,h2,h3⟩
theorem KT.put {H:Hp} {kvs:YL} {xs:List (List Key×Addr×Value)} (r:KT H kvs xs) (k:List Key) {b:Addr} {y:V} {u:Value} (hb:H b=some (.tup (k.map kV))) (ry:RelV y u) :
  KT H (putK kvs k y) (storedH xs k b u):=by
 have e:(kvs.any λkv=>decide (kv.1=k))=(atKey xs k).isSome:=by
  rw[Iw,(r.val k).Gz,Option.isSome_map]
 unfold putK storedH;rw[e];by_cases q:(atKey xs k).isSome=true
 ·rw[if_pos q,if_pos q];exact r.repl k ry
 ·rw[if_neg q,if_neg q];exact Qcb r ⟨rq,hb,ry⟩
theorem KT.keeps {H H':Hp} {kvs:YL} {xs:List (List Key×Addr×Value)} (r:KT H kvs xs) (ht:∀b ys,H b=some (.tup ys)->H' b=some (.tup ys)):KT H' kvs xs:=
 Paired.Bh r λ_ _ z=>⟨z.1,ht _ _ z.2.1,z.2.2⟩
section
variable {P:Program} {w:World} {H:Hp} {h:Heap} {a:Addr}
theorem Xa {u:HO} (ok:HOk P w H h) (e:Rd H a u):BX P w H h a u:=e.ok ok
abbrev YM:=List (Key×V)
theorem Tg {kvs:YM} (ok:HOk P w H h) (e:Rd H a (.dK kvs)):kvs.length<=sizeLine/\(a == sysModules)=false/\∃vs,KV kvs vs/\h.DictOf (Dj P w) a vs:=
 show BX P w H h a (.dK kvs) from Xa ok e
theorem Xf {kvs:YM} (ok:HOk P w H h) (e:H a=some (.dK kvs)):kvs.length<=sizeLine/\(a == sysModules)=false/\∃vs,KV kvs vs/\h.DictOf (Dj P w) a vs:=Tg ok (.inl e)
theorem Mf {ks:List Key} (ok:HOk P w H h) (e:H a=some (.tup (ks.map kV))):(tupleKind (Dj P w)).is h ks a:=by
 obtain⟨_,its,r,o,h1,h2,n,h3⟩:=(show BX P w H h a (.tup (ks.map kV)) from ok a _ e)
 exact⟨o,its.toArray,n,h1,h2,h3,by simpa using N8 r⟩
theorem Te {kvs:YL} (ok:HOk P w H h) (e:Rd H a (.dT kvs)):kvs.length<=sizeLine/\(a == sysModules)=false /\
  ∃xs,KT H kvs xs/\h.DictOfH (tupleKind (Dj P w)) a xs:=by
 obtain⟨z,y,xs,r,o,es,ep,h1,h2,h3,h4,h5⟩:=(show BX P w H h a (.dT kvs) from Xa ok e)
 refine⟨z,y,xs,r,o,es,ep,h1,h2,h3,h4,λx hx=>?_,h5⟩;have all:∀{l:YL} {m:List (List Key×Addr×Value)},KT H l m->∀x∈m,(tupleKind (Dj P w)).is h x.1 x.2.1:=by
  intro l m q
  induction q with
  | nil=>intro x hx;exact nomatch hx
  | @cons p q ps qs hq t ih=>
   intro x hx;rcases QbL.mp hx with e | hx
   ·subst e;exact Mf ok (by rw[<-hq.1];exact hq.2.1)
   ·exact ih x hx
 exact all r x hx
theorem aP {kvs:YL} (ok:HOk P w H h) (e:H a=some (.dT kvs)):kvs.length<=sizeLine/\(a == sysModules)=false /\
  ∃xs,KT H kvs xs/\h.DictOfH (tupleKind (Dj P w)) a xs:=Te ok (.inl e)
end
def Hi (H:Hp) (a:Addr) (y:V) (r:Option V):Prop:=
 (∃kvs k,Rd H a (.dK kvs)/\y=kV k/\r=Fg kvs k)\/∃kvs k b,Rd H a (.dT kvs)/\y=.ref b/\H b=some (.tup (k.map kV))/\r=Fg kvs k
def JT (H:Hp) (a:Addr) (y v:V) (H':Hp):Prop:=
 (∃kvs k,H a=some (.dK kvs)/\y=kV k/\kvs.length < sizeLine/\H'=upd H a (.dK (putK kvs k v))) \/
 ∃kvs k b,H a=some (.dT kvs)/\y=.ref b/\H b=some (.tup (k.map kV))/\kvs.length < sizeLine/\H'=upd H a (.dT (putK kvs k v))
theorem Hi.k {H:Hp} {a:Addr} {kvs:YM} {k:Key} (e:H a=some (.dK kvs)):Hi H a (kV k) (Fg kvs k):=.inl ⟨kvs,k,.inl e,rfl,rfl⟩
theorem Hi.t {H:Hp} {a b:Addr} {kvs:YL} {k:List Key} (e:H a=some (.dT kvs)) (eb:H b=some (.tup (k.map kV))):Hi H a (.ref b) (Fg kvs k):=.inr ⟨kvs,k,b,.inl e,rfl,eb,rfl⟩
theorem JT.k {H:Hp} {a:Addr} {kvs:YM} {k:Key} {v:V} (e:H a=some (.dK kvs)) (hl:kvs.length < sizeLine):JT H a (kV k) v (upd H a (.dK (putK kvs k v))):=.inl ⟨kvs,k,e,rfl,hl,rfl⟩
theorem JT.t {H:Hp} {a b:Addr} {kvs:YL} {k:List Key} {v:V} (e:H a=some (.dT kvs)) (eb:H b=some (.tup (k.map kV))) (hl:kvs.length < sizeLine) :
  JT H a (.ref b) v (upd H a (.dT (putK kvs k v))):=.inr ⟨kvs,k,b,e,rq,eb,hl,rq⟩
section
variable {X:Cx} {jb:YC} {O : St} {H:Hp} {s:Shared} {a:Addr} {y v:V} {u r:Value} {o:Option V} {A:Around} {E:YA}
theorem Inv.big (I:Inv X jb O H s):sysModules < s.heap.objs.size:=by
 have h:mainGlobals < s.heap.objs.size:=(I.mod.glob.keeps I.bk).lt;exact Nat.lt_trans (by decide) h
theorem dW {Q:YA} (hu:A.units+1 < cLine) (I:Inv X jb O H s) (g:Hi H a y o) (ry:RelV y u) (h:∀s',Inv X jb O H s'->Q (.bool o.isSome) s') :
  wpAny (model X.prog X.w) A (compareOp .In u (.ref a)) Q E s:=by
 rcases g with⟨kvs,k,e,ey,l⟩|⟨kvs,k,b,e,ey,eb,l⟩
 ·subst ey;obtain⟨z,hd,vs,rel,dd⟩:=Tg I.hok e;refine wpAny_in_of (Mg ry) hd dd.mapOf ?_;rw[<-(rel.val k).Gz,<-l];exact h _ (I.tok _)
 ·subst ey;cases (show u=Value.ref b from ry)
  obtain⟨z,hd,xs,rel,dd⟩:=Te I.hok e;refine wpAny_in_heap (tupleKind_room_in1 hu) (Mf I.hok eb) hd dd ?_;have q:=(rel.val k).Gz;rw[Option.isSome_map] at q;rw[<-q,<-l];exact h _ (I.tok _)
theorem X4 {Q:YA} (hu:A.units+1 < cLine) (I:Inv X jb O H s) (g:Hi H a y o) (ry:RelV y u) (h:∀s',Inv X jb O H s'->Q (.bool (!o.isSome)) s') :
  wpAny (model X.prog X.w) A (compareOp .NotIn u (.ref a)) Q E s:=by
 rcases g with⟨kvs,k,e,ey,l⟩|⟨kvs,k,b,e,ey,eb,l⟩
 ·subst ey;obtain⟨z,hd,vs,rel,dd⟩:=Tg I.hok e;refine wpAny_notIn_of (Mg ry) hd dd.mapOf ?_;rw[<-(rel.val k).Gz,<-l];exact h _ (I.tok _)
 ·subst ey;cases (show u=Value.ref b from ry)
  obtain⟨z,hd,xs,rel,dd⟩:=Te I.hok e;refine wpAny_notIn_heap (tupleKind_room_in1 hu) (Mf I.hok eb) hd dd ?_;have q:=(rel.val k).Gz;rw[Option.isSome_map] at q;rw[<-q,<-l];exact h _ (I.tok _)
theorem Nu {h':Heap} {t':Nat} {ob:HO} (I:Inv X jb O H s) (mu:Mut (H a)) (hs:Heap.SameBut a s.heap h') (he:∃q,h'.get? a=some q) (new:BX X.prog X.w (upd H a ob) h' a ob) :
  Inv X jb O (upd H a ob) { s with heap:=h',toks:=t' }:=
 I.write (x:=a) (e:=a) mu (.inl rfl) (λb q hb z=>(hs.2 b hb).trans z) he new
theorem U9 {P:Program} {w:World} {H':Hp} {h':Heap} {kvs:YM} {vs:List (Key×Value)} (z:kvs.length<=sizeLine) (hd:(a == sysModules)=false) (rel:KV kvs vs) (dd:h'.DictOf (Dj P w) a vs) :
  BX P w H' h' a (.dK kvs):=⟨z,hd,vs,rel,dd⟩
theorem Vb {H':Hp} {Q:YH} (hu:A.units+1 < cLine) (I:Inv X jb O H s) (g:JT H a y v H') (ry:RelV y u) (rv:RelV v r) (h:∀s',Inv X jb O H' s'->Q () s') :
  wpAny (model X.prog X.w) A (setItem (.ref a) u r) Q E s:=by
 rcases g with⟨kvs,k,e,ey,l,eH⟩|⟨kvs,k,b,e,ey,eb,l,eH⟩
 ·subst ey eH;obtain⟨z,hd,vs,rel,dd⟩:=Xf I.hok e;have hz:vs.length<=sizeLine:=by rw[<-rel.length];exact z
  have hl:(putK kvs k v).length<=sizeLine:=by have:=Hw kvs k v;omega
  refine wpAny_setItem_pairs (hsz:=hz) (Mg ry) dd λh' dd' hs=>h _ ?_;have he:∃q,h'.get? a=some q:=let ⟨q,_,_,hq,_⟩:=dd';⟨q,hq⟩;exact Nu I (by rw[e];exact True.intro) hs he (U9 hl hd (rel.put k rv) dd')
 ·subst ey eH;cases (show u=Value.ref b from ry)
  obtain⟨z,hd,xs,rel,dd⟩:=aP I.hok e;have hz:xs.length<=sizeLine:=by rw[<-QbK rel];exact z
  have hl:(putK kvs k v).length<=sizeLine:=by have:=Hw kvs k v;omega
  refine wpAny_setItem_heap (hsz:=hz) (tupleKind_room_in1 hu) (Mf I.hok eb) dd λh' dd' hs=>h _ ?_;obtain⟨q,es,ep,hq,h2,h3,h4,_,h5⟩:=dd';refine Nu I (by rw[e];exact True.intro) hs ⟨q,hq⟩ ⟨hl,hd,_,(rel.put k eb rv).keeps λc ys ec=>?_,q,es,ep,hq,h2,h3,h4,h5⟩;rw[Aw (aG ec e (λz=>nomatch z))];exact ec
end
section
variable {X:Cx} {jb:YC} {O : St} {H:Hp} {s:Shared} {a:Addr} {kvs:YM} {k:Key} {u:Value} {A:Around} {E:YA}
end
def bA (ty td:TE):TE:=fun O H Q=>ty O H λy H1=>td O H1 λx H2=>∃a o,x=.ref a/\Hi H2 a y o/\Q (.bl o.isSome) H2
def Xl (ty td:TE):TE:=fun O H Q=>ty O H λy H1=>td O H1 λx H2=>∃a o,x=.ref a/\Hi H2 a y o/\Q (.bl (!o.isSome)) H2
def Z7 (td ty tv:TE):TS:=λD O H=>tv O H λv H1=>td O H1 λx H2=>ty O H2 λy H3=>∃a H4,x=.ref a/\JT H3 a y v H4/\D.nx O H4
section
variable {X:Cx} {o i e value:Expr} {pos pos' tpos:Pos} {td ty tv:TE}
theorem Us (hu:X.A.units+1 < cLine) (hi:PE X i ty) (ho:PE X o td):PC X .In i o (bA ty td):=by
 intro jb s O H Q I h;refine thn (hi jb s O H _ I h) λiv s1 zz=>?_;obtain⟨y,H1,I1,ry,q1⟩:=zz;refine thn (ho jb s1 O H1 _ I1 q1) λu s2 zz=>?_;obtain⟨x,H2,I2,rx,a,ov,ex,g,q2⟩:=zz;subst ex;obtain rfl:u=Value.ref a:=rx;exact dW hu I2 g ry λs3 I3=>⟨.bl ov.isSome,H2,I3,rq,q2⟩
theorem Ur (hu:X.A.units+1 < cLine) (hi:PE X i ty) (ho:PE X o td):PC X .NotIn i o (Xl ty td):=by
 intro jb s O H Q I h;refine thn (hi jb s O H _ I h) λiv s1 zz=>?_;obtain⟨y,H1,I1,ry,q1⟩:=zz;refine thn (ho jb s1 O H1 _ I1 q1) λu s2 zz=>?_;obtain⟨x,H2,I2,rx,a,ov,ex,g,q2⟩:=zz;subst ex;obtain rfl:u=Value.ref a:=rx;exact X4 hu I2 g ry λs3 I3=>⟨.bl (!ov.isSome),H2,I3,rq,q2⟩
theorem Rb (hu:X.A.units+1 < cLine) (ho:PE X o td) (hi:PE X i ty) (hv:PE X value tv) (hs:swapsWith value (some (.Subscript o i pos')) pos.line X.env=pure false) :
  PS X (.Assign [.Subscript o i pos'] value pos) (Z7 td ty tv):=by
 intro jb s O H D I h;refine wpAny_Assign_Subscript (thn (hv jb s O H _ I h) λr s1 zz=>?_) hs;obtain⟨v,H1,I1,rv,q1⟩:=zz;refine thn (ho jb s1 O H1 _ I1 q1) λu s2 zz=>?_;obtain⟨x,H2,I2,rx,q2⟩:=zz;refine thn (hi jb s2 O H2 _ I2 q2) λiv s3 zz=>?_;obtain⟨y,H3,I3,ry,a,H4,ex,g,q3⟩:=zz;subst ex;obtain rfl:u=Value.ref a:=rx;exact Vb hu I3 g ry rv λs4 I4=>⟨O,H4,I4,q3⟩
end
theorem Qi {P:Program} {w:World} {H:Hp} (h:Heap) (hb:sysModules < h.objs.size):BX P w H (h.push { cls:=.type "dict",data:=.dict #[] }) h.objs.size (.dK []):=
 ⟨Qca _,beq_eq_false_iff_ne.mpr (Ne.symm (QbS hb)),[],.nil,Heap.DictOf.new h⟩
def Yp:TE:=λ_ H Q=>∀p,H p=none->Q (.ref p) (upd H p (.dK []))
section
variable {X:Cx} {pos:Pos}
theorem Pz:PE X (.Dict [] [] pos) Yp:=λjb s O H Q I h=>
 wpAny_Dict_empty ⟨.ref s.heap.objs.size,_,I.laid (a:=s.heap.objs.size) (o:=.dK []) (t':=s.toks) (λ_ _ q=>Qas _ q) (QbZ _) (Qi s.heap I.big),rq,h _ (I.hok.fresh (QbZ _))⟩
end
structure M1 (X:Cx) (o:Expr) (m:Str) (apos:Pos) (e:Expr) (cpos:Pos):Prop where
 base:attributeBase o m X.env (eval o X.env)=eval o X.env
 few:((backTo cpos (starEach [e] X.env)).all (λx=>!x.1)&&(backToKw cpos (keywordEach [] X.env)).all (λx=>x.1.isSome)
 &&decide (([e]:YJ).length+([]:List Keyword).length+(if ([]:List Keyword).isEmpty then 0 else 1) < 30))=true
 line:(apos.endLine == cpos.line)=true
 trees:backTo cpos (starEach [e] X.env)=[(false,eval e X.env)]
section
variable {X:Cx} {jb:YC} {O : St} {H:Hp} {s:Shared} {a:Addr} {y d:V} {u r:Value} {o:Option V} {A:Around} {E:YA}
end
section
variable {X:Cx} {o e f:Expr} {apos cpos:Pos} {td ty tx:TE}
end
section
variable {X:Cx} {jb:YC} {O : St} {H:Hp} {s:Shared} {a:Addr} {kvs:YM} {A:Around} {E:YA}
end
section
variable {X:Cx} {jb:YC} {O : St} {H:Hp} {s:Shared} {a:Addr} {y:V} {u:Value} {A:Around} {E:YA}
end
section
variable {X:Cx}
end
section
variable {κ : Type} [DecidableEq κ]
theorem Rh:∀{l:List κ} {k:κ},l.Nodup->¬k∈l->(l++[k]).Nodup
 | [],k,_,_=>by simp
 | a::r,k,h,hk=>by
  obtain⟨h1,h2⟩:=QbA.mp h;show (a::(r++[k])).Nodup;refine QbA.mpr ⟨λm=>?_,Rh h2 λm=>hk (QbL.mpr (Or.inr m))⟩;rcases Qbu.mp m with q | q
  ·exact h1 q
  ·exact hk (QbL.mpr (Or.inl (QaS.mp q).symm))
end
theorem Ti {prog:Program} {w:World} {A:Around} {R:Result->Shared->Prop} {s:Shared} {kx vx target iter:Expr} {ifs:YJ} {scope:Scope} {pos:Pos} {it:Value} {D:Addr} {env:Env} (J:Nat->Shared->Prop)
  (turn:∀n s,J n s->wpAny (model prog w) A (pyNext it) (λr s1=>match r with
   | none=>R (.ok .next) s1
   | some v=>wpAny (model prog w) A (letOwnedTupleGo target it v) (λ_ s2=>wpAny (model prog w) A (assign target env v) (λ_ s3=>
     wpAny (model prog w) A (forIn ifs true λc r=>if r=true then do let ok <-isTrue c env (eval c env);pure (ForInStep.yield ok) else pure (ForInStep.yield r)) (λok s4=>
      if ok=true then wpAny (model prog w) A (eval kx env) (λkv s5=>wpAny (model prog w) A (eval vx env) (λvv s6=>wpAny (model prog w) A (dictSet D kv vv) (λ_ s7=>∃m,m < n/\J m s7) (λ_ _=>False) s6) (λ_ _=>False) s5) (λ_ _=>False) s4
      else ∃m,m < n/\J m s4) (λ_ _=>False) s3) (λ_ _=>False) s2) (λ_ _=>False) s1) (λ_ _=>False) s)
  (n:Nat) (h:J n s):codeAny (model prog w) A (.compLoop (.DictComp kx vx [⟨target,iter,ifs,0⟩] scope pos) 0 it (.ref D) env) R s:=by
 refine codeAny_loop rfl J (λk s' hk=>?_) n h;show wpAny _ A (Sem.onRaise (compTurn (.DictComp kx vx [⟨target,iter,ifs,0⟩] scope pos) 0 it (.ref D) env) (λx=>do noteFrame x env;theTreesLotGoes x)) _ _ s'
 refine wpAny_noted ?_;rw[compTurn_dict];refine Qcd (QbP (Qcd (Qcf (turn k s' hk) (λr s1 q1=>?_) λ_ _ f=>f.elim)));cases r with
 | none=>exact Qce q1
 | some v=>
  refine Qcd (Qcf q1 (λ_ s2 q2=>Qcd (Qcf q2 (λ_ s3 q3=>Qcd (Qcf q3 (λok s4 q4=>?_) λ_ _ f=>f.elim)) λ_ _ f=>f.elim)) λ_ _ f=>f.elim);cases ok with
  | false=>exact Qce ⟨rfl,q4⟩
  | true=>exact Qcd (Qcd (Qcf q4 (λkv s5 q5=>Qcd (QbN (Qcf q5 (λvv s6 q6=>Qcd (QbP (QbN (Qcf q6 (λ_ s7 q7=>Qce ⟨rfl,q7⟩) λ_ _ f=>f.elim)))) λ_ _ f=>f.elim))) λ_ _ f=>f.elim))
theorem Vc {X:Cx} {jb:YC} {O : St} {H:Hp} {s:Shared} {A:Around} {E:YA} {a:Addr} {kvs:YM} {k:Key} {v:V} {u r:Value} {Q:YH} (I:Inv X jb O H s) (e:H a=some (.dK kvs)) (l:kvs.length < sizeLine) (ry:RelV (kV k) u) (rv:RelV v r)
  (h:∀s',Inv X jb O (upd H a (.dK (putK kvs k v))) s'->Q () s'):wpAny (model X.prog X.w) A (dictSet a u r) Q E s:=by
 obtain⟨z,hd,vs,rel,dd⟩:=Xf I.hok e;have hz:vs.length<=sizeLine:=by rw[<-rel.length];exact z
 have hl:(putK kvs k v).length<=sizeLine:=by have:=Hw kvs k v;omega
 refine wpAny_dictSet_pairs (hsz:=hz) (Mg ry) dd λh' dd' hs=>h _ ?_;have he:∃q,h'.get? a=some q:=let ⟨q,_,_,hq,_⟩:=dd';⟨q,hq⟩;exact Nu I (by rw[e];exact True.intro) hs he (U9 hl hd (rel.put k rv) dd')
@[irreducible] def OD (J:It) (g:TG) (tt:TT) (tk tv:TE) (Q:VK) (σ0:St) (H0:Hp) (l:Addr):Prop:=∃W:Nat->YN,(∃m,W 0 m σ0 H0) /\
 ∀i m σ' H',W i m σ' H'->(J.stop i H'/\Q (.ref l) H')\/(J.go i H'/\∃N:YO,(∀ σ3 H3,N σ3 H3->∃m',m' < m/\W (i+1) m' σ3 H3)/\∀x H2,J.yld i H' x H2->g x σ' H2 fun σ3 H3=>tt σ3 H3 λb H4=>
  if b=true then tk σ3 H4 λy H5=>tv σ3 H5 λz H6=>∃(kvs:YM) (k:Key),H6 l=some (.dK kvs)/\y=kV k/\kvs.length < sizeLine/\N σ3 (upd H6 l (.dK (putK kvs k z))) else N σ3 H4)
def T5 (wi:TI) (src:List (Option Nat)) (g:TG) (tt:TT) (tk tv:TE):TE:=fun O H Q=>wi O H λJ H1=>∀l,H1 l=none->OD J g tt tk tv Q (GF src O) (upd H1 l (.dK [])) l
theorem Tj {X:Cx} {N':YF} {src:List (Option Nat)} {sc:Scope} {kx vx tg iter:Expr} {ifs:YJ} {pos pos':Pos} {wi:TI} {g:TG} {tt:TT} {tk tv:TE} {use:Option (Value->Sem Unit)} {R:YA} (hc:X.calm=true) (S:Cu X N' src sc)
  (hi:PI X tg iter wi) (hg:∀s3 H3 fp pn,PG (cxC X N' sc s3 H3 fp pn) tg g) (ht:∀s3 H3 fp pn,PF (cxC X N' sc s3 H3 fp pn) ifs tt) (hk:∀s3 H3 fp pn,PE (cxC X N' sc s3 H3 fp pn) kx tk) (hv:∀s3 H3 fp pn,PE (cxC X N' sc s3 H3 fp pn) vx tv)
  (hs:∀x,foldedSetIterable iter X.env x=pure x) {jb:YC} {s:Shared} {O : St} {H:Hp} {Q:VK} (I:Inv X jb O H s) (h:T5 wi src g tt tk tv O H Q)
  (fin:∀s3 H3 fp σ4 H4 s5 l,Inv X jb O H3 s3->(∀b∈fp,Er X jb H3 b)->Inv (cxC X N' sc s3 H3 fp (X.pn++jb)) [] σ4 H4 s5->Q (.ref l) H4 ->
   compPost (model X.prog X.w) X.A X.xe use R (.ref l) s3.heap.objs.size (.ok .next) s5) :
  wpAny (model X.prog X.w) X.A (comprehension (.DictComp kx vx [⟨tg,iter,ifs,0⟩] sc pos) sc X.env pos' newDict false (eval iter X.env) use) R X.xe s:=by
 refine wpAny_comprehension_free (use:=use) (cl:=Du X.env sc.names []) rfl hs (Mt λp hp e=>I.ok.has p.1 (S.fv p hp e)) S.kind S.loc ?_;refine thn (hi jb s O H _ I h) λv s1 h1=>thn h1 λitv s2 h2=>?_;obtain⟨it,fp,tn,J,H2,rfl,I2,T,st2,f2,q⟩:=h2;have q':=q s2.heap.objs.size (I2.hok.fresh (QbZ _));unfold OD at q';obtain⟨W,⟨m0,w0⟩,turn⟩:=q';refine Qbh (wpAny_newFunctionEnv S.Gb (by intro y hy;simp at hy) (λha hns hsb=>?_) S.kind);have I3:Inv X jb O (upd H2 s2.heap.objs.size (.dK [])) { s2 with heap:=s2.heap.push { cls:=.type "dict",data:=.dict #[] } }:=
  I2.laid (t':=s2.toks) (λb u e=>Qas _ e) (QbZ _) (Qi s2.heap I2.big)
 have hfl:∀b∈fp,b < s2.heap.objs.size:=λb hb=>by
  obtain⟨o,e,_⟩:=T.obj 0 _ st2 b hb;exact QbR e
 have f3:∀b∈fp,Er X jb (upd H2 s2.heap.objs.size (.dK [])) b:=λb hb=>⟨by rw[Aw (QbS (hfl b hb))];exact (f2 b hb).1,(f2 b hb).2⟩;generalize hs3:({ s2 with heap:=s2.heap.push { cls:=.type "dict",data:=.dict #[] } }:Shared)=s3 at *;have hsz:s2.heap.objs.size < s3.heap.objs.size:=by rw[<-hs3];show s2.heap.objs.size < (s2.heap.push _).objs.size;rw[QbI];exact Qbr _
 have kp:∀b o,s3.heap.get? b=some o->ha.get? b=some o:=λb o e=>hsb.extBut b o (QbS (QbR e)) (Qas _ e);have st3:tn 0 ha:=T.keep 0 _ _ st2 λb hb o e=>kp b o (by rw[<-hs3];exact Qas _ e);have I4:Inv (cxC X N' sc s3 (upd H2 s2.heap.objs.size (.dK [])) fp (X.pn++jb)) [] (GF src O) (upd H2 s2.heap.objs.size (.dK [])) { s3 with heap:=ha,toks:=s3.toks+([]:List (Str×Value)).length }:=
  Ql S I3 f3 (λb hb=>Nat.lt_trans (hfl b hb) hsz) hns kp
 have loop:codeAny (model X.prog X.w) X.A (.compLoop (.DictComp kx vx [⟨tg,iter,ifs,0⟩] sc pos) 0 (.ref it) (.ref s2.heap.objs.size) (compEnvC sc (Du X.env sc.names []) s3.heap.objs.size X.env))
   (compPost (model X.prog X.w) X.A X.xe use R (.ref s2.heap.objs.size) s3.heap.objs.size) { s3 with heap:=ha,toks:=s3.toks+([]:List (Str×Value)).length }:=by
  refine Ti (λn s'=>∃i σ' H',Inv (cxC X N' sc s3 (upd H2 s2.heap.objs.size (.dK [])) fp (X.pn++jb)) [] σ' H' s'/\tn i s'.heap/\(∀b∈fp,H' b=none)/\W i n σ' H') ?_ m0 ⟨0,_,_,I4,st3,λb hb=>(f3 b hb).1,w0⟩;rintro n s4 ⟨i,σ4,H4,J4,st4,fr4,w4⟩;have stat:∀{H':Hp},(∀b∈fp,H' b=none)->∀b∈fp,Er (cxC X N' sc s3 (upd H2 s2.heap.objs.size (.dK [])) fp (X.pn++jb)) [] H' b:=λhn b hb=>
   ⟨hn b hb,(I4.ok.exf b hb).1,I4.ok.Lb b hb,.inl hb,λx c e=>(I4.ok.exf b hb).2 x c e,λp hp=>(f3 b hb).2.2.2.2.2 p ((Qbu.mp hp).elim id λz=>by cases z)⟩
  rcases turn i n σ4 H4 w4 with⟨stop,qn⟩|⟨go,N,hN,step⟩
  ·refine thn (T.done (cxC X N' sc s3 (upd H2 s2.heap.objs.size (.dK [])) fp (X.pn++jb)) rfl rfl rfl hc i [] s4 σ4 H4 _ J4 (stat fr4) st4 stop) λr s5 zz=>?_;obtain⟨hr,J5⟩:=zz;subst hr;exact fin s3 _ fp σ4 H4 s5 _ I3 f3 J5 qn
  ·refine thn (T.item (cxC X N' sc s3 (upd H2 s2.heap.objs.size (.dK [])) fp (X.pn++jb)) rfl rfl rfl hc i [] s4 σ4 H4 _ J4 (stat fr4) st4 go) λr s5 zz=>?_;obtain⟨u,hr,h5⟩:=zz;subst hr;refine thn h5 λ_ s6 zz=>?_;obtain⟨x,H6,J6,r6,y6,st6,fr6⟩:=zz;have J6':=J6.pinned (stat fr6) (T.obj _ _ st6);have back:∀{pl:YC} {σ7:St} {H7:Hp} {s7:Shared},Inv (cxC X N' sc s3 (upd H2 s2.heap.objs.size (.dK [])) fp (X.pn++jb)) ([]++Ig fp s6.heap) σ7 H7 s7->N σ7 H7 ->
     ∃m',m' < n/\∃i σ' H',Inv (cxC X N' sc s3 (upd H2 s2.heap.objs.size (.dK [])) fp (X.pn++jb)) [] σ' H' s7/\tn i s7.heap/\(∀b∈fp,H' b=none)/\W i m' σ' H':=λ{pl σ7 H7 s7} J7 w7=>by
    obtain⟨m',hm,w7⟩:=hN _ _ w7;have pinned:∀b∈fp,∀o,s6.heap.get? b=some o->s7.heap.get? b=some o/\H7 b=none:=λb hb o e=>by
     have:=J7.pin (b,o) (Qav _ (Qav _ (GP hb e)));exact⟨this.1,this.2.1⟩
    refine⟨m',hm,i+1,σ7,H7,J7.Fi,T.keep _ _ _ st6 λb hb o e=>(pinned b hb o e).1,λb hb=>?_,w7⟩;obtain⟨o,e,_⟩:=T.obj _ _ st6 b hb;exact (pinned b hb o e).2
   refine thn (hg s3 _ fp _ _ s6 σ4 H6 x u _ J6' r6 (step x H6 y6)) λ_ s7 zz=>?_;obtain⟨σ7,H7,J7,q7⟩:=zz;refine thn (ht s3 _ fp _ _ s7 σ7 H7 _ J7 q7) λok s8 zz=>?_;obtain⟨H8,J8,q8⟩:=zz;cases ok with
   | false=>
    rw[if_neg QaN] at q8 ⊢;exact back (pl:=[]) J8 q8
   | true=>
    rw[if_pos rfl] at q8 ⊢;refine thn (hk s3 _ fp _ _ s8 σ7 H8 _ J8 q8) λy s9 zz=>?_;obtain⟨yv,H9,J9,r9,q9⟩:=zz;refine thn (hv s3 _ fp _ _ s9 σ7 H9 _ J9 q9) λz s10 zz=>?_;obtain⟨zv,H10,J10,r10,kvs,k,hl,ey,hz,q10⟩:=zz;subst ey;refine Vc (X:=cxC X N' sc s3 (upd H2 s2.heap.objs.size (.dK [])) fp (X.pn++jb)) J10 hl hz r9 r10 λs11 J11=>?_;exact back (pl:=[]) J11 q10
 exact codeAny_compStart_dict loop (T.self X.A 0 _ _ _ st3 loop)
end L2
namespace PySem
open Sem (wp)
section
variable {prog:Program} {w:World} {A:Around} {E:YA} {s:Shared}
theorem LK {it l:Addr} {i:Nat} {items:Array Value} {x:Value} {Q:YA} (hit:s.heap.IsTupleIter it l i) (hl:s.heap.IsTuple l items) (hx:items[i]?=some x)
  (hQ:∀h',h'.IsTupleIter it l (i+1)->Heap.SameBut it s.heap h'->Q x { s with heap:=h' }):wpAny (model prog w) A (Builtin.SmallTypes.nextOf (.ref it)) Q E s:=by
 obtain⟨o,ho,hc,hd⟩:=id hit;obtain⟨ol,hol,_,nl,hdl⟩:=hl;unfold Builtin.SmallTypes.nextOf;refine Qcd (Qao (name:=Str.ofString "__next__") hit.typeIs Qaa (Qbo Qaa hit.typeIs PyProof.Rows.entry_tupleiter_next ?_ (PyProof.Rows.args_tupleiter_next _)));show wpAny _ _ (field (.ref it) 0 >>= _) _ _ s;refine Qcd (Qcc ho hd (x:=.ref l) rfl ?_);show wpAny _ _ (if (Value.ref l == Value.none)=true then _ else _) _ _ s
 rw[if_neg (show ¬((Value.ref l == Value.none)=true) from QaN)]
 show wpAny _ _ (field (.ref it) 1 >>= _) _ _ s;refine Qcd (Qcc ho hd (x:=.int i 0) rfl ?_);show wpAny _ _ (seqItems? (.ref l) >>= _) _ _ s;refine Qcd (wpAny_seqItems hol hdl ?_);simp only[Qbb,hx];refine Qcd (wpAny_setField ho hd (by simp) (Qce ⟨x,rq,Qce (hQ _ ?_ (QaJ ..))⟩));exact⟨_,Qay _ ho (Obj.isFreed_of_fields (Obj.data_mapFields hd _)),(Obj.cls_mapFields ..).trans hc,by rw[Obj.data_mapFields hd];simp[rawInt]⟩
theorem Io {it l:Addr} {i:Nat} {items:Array Value} {Q:YA} (hh:A.handled=none) (hit:s.heap.IsTupleIter it l i) (hl:s.heap.IsTuple l items) (hx:items[i]?=none)
  (hE:∀h' e,Heap.ExtBut it s.heap h'->(∃o,h'.get? e=some o/\o.cls=.type "StopIteration")->E (.ref e) { s with heap:=h' }):wpAny (model prog w) A (Builtin.SmallTypes.nextOf (.ref it)) Q E s:=by
 obtain⟨o,ho,hc,hd⟩:=id hit;obtain⟨ol,hol,_,nl,hdl⟩:=hl;unfold Builtin.SmallTypes.nextOf;refine Qcd (Qao (name:=Str.ofString "__next__") hit.typeIs Qaa (Qbo Qaa hit.typeIs PyProof.Rows.entry_tupleiter_next ?_ (PyProof.Rows.args_tupleiter_next _)));show wpAny _ _ (field (.ref it) 0 >>= _) _ _ s;refine Qcd (Qcc ho hd (x:=.ref l) rfl ?_);show wpAny _ _ (if (Value.ref l == Value.none)=true then _ else _) _ _ s
 rw[if_neg (show ¬((Value.ref l == Value.none)=true) from QaN)]
 show wpAny _ _ (field (.ref it) 1 >>= _) _ _ s;refine Qcd (Qcc ho hd (x:=.int i 0) rfl ?_);show wpAny _ _ (seqItems? (.ref l) >>= _) _ _ s;refine Qcd (wpAny_seqItems hol hdl ?_);simp only[Qbb,hx];refine Qcd (wpAny_rule (Qcd (wpAny_setField ho hd (by simp) ?_)));show wpAny _ _ (newExc (.type "StopIteration") [] >>= _) _ _ _;refine Qcd ?_;simp only[newExc,newTuple];refine Qcd (Qbh ?_ (by size_fits));refine Qcd (m:=firstArgMember _ _) (wpAny_of_eq (a:=Value.none) (by first | rfl | (simp only[firstArgMember];rfl)) ?_)
 refine Qbh ?_ (by size_fits);simp only[raiseNew];refine Qcd (wpAny_handled ?_)
 first | rw[show A.in1.handled=none from hh] | rw[hh]
 refine Qcd (Qce (wpAny_throw ?_));exact hE _ _ (((QaJ ..).extBut.push _).push _) ⟨_,QaG _ rfl,rq⟩
theorem Qh {e it l:Addr} {i:Nat} {j:Int} {items:Array Value} {old:Value} {Q:Option Value->Shared->Prop} (hh:A.handled=none) (he:IsEnum s.heap e it j old) (hit:s.heap.IsTupleIter it l i) (hl:s.heap.IsTuple l items) (hx:items[i]?=none)
  (hQ:∀h',Heap.ExtBut it s.heap h'->Q none { s with heap:=h' }):wpAny (model prog w) A (pyNext (.ref e)) Q E s:=by
 have hT:s.TypeIs (.ref e) "enumerate":=⟨_,he,rq⟩;unfold pyNext;refine Qcd (wpAny_attempt (Qao (name:=Str.ofString "__next__") hT F.slot_enumerate_next (Qbo F.slot_enumerate_next hT F.entry_enumerate_next ?_ (F.args_enumerate_next_1 _))));show wpAny _ _ (field (.ref e) 2 >>= _) _ _ _;refine Qcd (Qcc he rfl (x:=.ref it) rfl (Qcd (Io hh hit hl hx λh' x he' hx'=>?_)));obtain⟨o,ho,hc⟩:=hx';exact Qcd (wpAny_isInstance (T:="StopIteration") (b:=true) ⟨o,ho,hc⟩ isSubtype_stop (Qce (hQ _ he')))
end
theorem Draws.tup {prog:Program} {w:World} {A:Around} (hh:A.handled=none) (it l:Addr) (hne:l≠it) (items:Array Value) :
  Draws prog w A it [it,l] items.size (λi v=>items[i]?=some v) (λi h=>h.IsTupleIter it l i/\h.IsTuple l items) where
 live:=λ_ _ st=>let ⟨o,ho,_⟩:=st.1;⟨o,ho⟩
 frame:=λ_ _ _ st hk=>⟨st.1.at λo e=>hk it (by simp) o e,let ⟨o,e,r⟩:=st.2;⟨o,hk l (by simp) o e,r⟩⟩
 item:=λi s Q E hi st hQ=>LK st.1 st.2 (x:=items[i]) (by simp[hi]) λh' hit' hs'=>hQ _ h' s.toks (by simp[hi]) ⟨hit',let ⟨o,e,r⟩:=st.2;⟨o,hs'.extBut _ _ hne e,r⟩⟩ hs'
 done:=λs Q E st hE=>Io hh st.1 st.2 (by simp) hE
theorem Draws.from {prog:Program} {w:World} {A:Around} {it:Addr} {fp:List Addr} {n:Nat} {P:Nat->Value->Prop} {St:Nat->Heap->Prop} (D:Draws prog w A it fp n P St) (k:Nat) :
  Draws prog w A it fp (k+n) (λj v=>∃i,j=k+i/\P i v) (λj h=>∃i,j=k+i/\i<=n/\St i h) where
 live:=λ_ _ ⟨i,_,_,st⟩=>D.live i _ st
 frame:=λ_ _ _ ⟨i,e,hi,st⟩ hk=>⟨i,e,hi,D.frame i _ _ st hk⟩
 item:=λj s Q E hj ⟨i,e,hi,st⟩ hQ=>D.item i s Q E (by omega) st λx h' tk p st' sb=>hQ x h' tk ⟨i,e,p⟩ ⟨i+1,by omega,by omega,st'⟩ sb
 done:=λs Q E ⟨i,e,hi,st⟩ hE=>by
  have:i=n:=by omega
  subst this;exact D.done s Q E st hE
end PySem
namespace L2
open PySem PySem.Spec PyProof.Rows
section
variable {X:Cx} {jb:YC} {O : St} {H:Hp} {s:Shared} {h':Heap}
theorem Inv.NK {t':Nat} {fp:List Addr} {t:Addr} {o:HO} (I:Inv X jb O H s) (ht:s.heap.objs.size<=t) (k:∀b u,b∉fp->s.heap.get? b=some u->h'.get? b=some u) (hf:∀b∈fp,Er X jb H b) (new:BX X.prog X.w (upd H t o) h' t o) :
  Inv X jb O (upd H t o) { s with heap:=h',toks:=t' }:=by
 have nt:=I.hok.fresh ht;have old:∀b u,s.heap.get? b=some u->b≠t:=λb u e z=>absurd (QaR (QbR e) ht) (by rw[z];exact QbO _);have nf:∀b u,H b=some u->b∉fp:=λb u e z=>by rw[(hf b z).1] at e;cases e
 have tr:∀b u,H b=some u->(upd H t o) b=some u:=λb u e=>by rw[Aw (Ay e nt)];exact e
 refine I.step (g':=s.gens) (d':=s.drawn) (ch:=fp) (λb hb=>?_) (λb u _ _ hc e _=>k b u hc e) (λb u _ _ hc e _=>⟨u.slots,k b u hc e⟩) (λb u hc e n=>by rw[Aw (old b u e)];exact n)
  (λb u hc e=>⟨u,k b u hc e⟩) (λ_ _ e=>tr _ _ e) (λ_ _ _ e=>tr _ _ e) (λb ps e=>⟨#[],by rw[tr _ _ e];simp⟩) (λm hm=>?_) (λb u e=>?_) I.bare
 ·obtain⟨_,f1,_,f3,f4,f5⟩:=hf b hb;exact⟨f3,f1,f4,f5⟩
 ·obtain⟨u,es,ep,hu,r⟩:=hm;exact⟨u,es,ep,k _ u (λz=>(hf _ z).2.1 rfl) hu,r⟩
 ·by_cases hb:b=t
  ·subst hb;rw[Ab] at e;cases e;exact new
  ·rw[Aw hb] at e;refine (I.hok b u e).stay (λc v hc q=>k c v ?_ q) (λc q=>tr _ _ q) λc xs q=>tr _ _ q;rcases hc with z | z
   ·rw[z];exact nf b u e
   ·exact nf c _ z
theorem Inv.QV {t':Nat} {fp:List Addr} (I:Inv X jb O H s) (k:∀b u,b∉fp->s.heap.get? b=some u->h'.get? b=some u) (hf:∀b∈fp,Er X jb H b):Inv X jb O H { s with heap:=h',toks:=t' }:=by
 have nf:∀b u,H b=some u->b∉fp:=λb u e z=>by rw[(hf b z).1] at e;cases e
 refine I.step (g':=s.gens) (d':=s.drawn) (ch:=fp) (λb hb=>?_) (λb u _ _ hc e _=>k b u hc e) (λb u _ _ hc e _=>⟨u.slots,k b u hc e⟩) (λb u hc e n=>n)
  (λb u hc e=>⟨u,k b u hc e⟩) (λ_ _ e=>e) (λ_ _ _ e=>e) (λb ps e=>⟨#[],by rw[e];simp⟩) (λm hm=>?_) (λb u e=>?_) I.bare
 ·obtain⟨_,f1,_,f3,f4,f5⟩:=hf b hb;exact⟨f3,f1,f4,f5⟩
 ·obtain⟨u,es,ep,hu,r⟩:=hm;exact⟨u,es,ep,k _ u (λz=>(hf _ z).2.1 rfl) hu,r⟩
 ·refine (I.hok b u e).stay (λc v hc q=>k c v ?_ q) (λ_ q=>q) λ_ _ q=>q;rcases hc with z | z
  ·rw[z];exact nf b u e
  ·exact nf c _ z
end
def Hy (K:YD) (a:Addr) (lo:Nat):It:=
 ⟨λi H=>∃xs x,SqT K H a xs/\xs[i]?=some x,λi H v H'=>∃p x,H p=none/\v=.ref p/\H'=upd H p (.tup [.int ((lo+i:Nat):Int),x])/\∀xs,SqT K H a xs->xs[i]?=some x,λi H=>∃xs,SqT K H a xs/\xs.length<=i⟩
theorem RN {P:Program} {w:World} {K:YD} {elts:YJ} {k:Nat} {pos:Pos} (a e it:Addr) (lo:Nat) (nei:e≠it):Turn P w K (.Tuple elts k pos) (Hy K a lo) [e,it] e (λi h=>(∃old,IsEnum h e it ((lo+i:Nat):Int) old)/\h.IsTupleIter it a i) where
 mem:=by simp
 obj:=λi h st b hb=>by
  obtain⟨⟨old,he⟩,o,ho,hc,hd⟩:=st;rcases QbL.mp hb with rfl | hb
  ·exact⟨_,he,λv z=>by cases (show Data.fields _=Data.cell v from z)⟩
  ·have:b=it:=by simpa using hb
   subst this;exact⟨o,ho,λv z=>by rw[hd] at z;cases z⟩
 keep:=λi h h' st k=>by
  obtain⟨⟨old,he⟩,hi⟩:=st;exact⟨⟨old,k e (by simp) _ he⟩,hi.at λo q=>k it (by simp) o q⟩
 item:=by
  intro X hP hw hK hc i jb s O H E I hf st hg;subst hP hw hK;obtain⟨xs,x,hq,hx⟩:=hg;obtain⟨its,rv,p,hz⟩:=I.tuple hq;obtain⟨u,hu,ru⟩:=rv.get hx;obtain⟨⟨old,he⟩,hit⟩:=st;have hts:s.heap.IsTuple a its.toArray:=p;have ane:a≠e:=λz=>by
   obtain⟨o,ho,hcl,_⟩:=hts;rw[z,he] at ho;cases ho;injection hcl with q;exact absurd q (by decide)
  have ani:a≠it:=λz=>by
   obtain⟨o,ho,hcl,_⟩:=hts;obtain⟨o',ho',hcl',_⟩:=hit;rw[z,ho'] at ho;cases ho;rw[hcl'] at hcl;injection hcl with q;exact absurd q (by decide)
  have hlt:i < its.toArray.size:=by
   have:=(Qaf.mp hu).1;simpa using this
  have D:=(Draws.tup (prog:=X.prog) (w:=X.w) (A:=X.A.in1) (I.ok.hd hc) it a ani its.toArray).from lo;refine wpAny_pyNext_enum_itemD D he ⟨i,rq,QbW hlt,hit,hts⟩ (by omega) nei (by simp[nei,ane.symm]) λy h1 tk hP ho hst hT hsz hk=>?_;obtain⟨i',ei,hy⟩:=hP;have:i'=i:=by omega
  subst this;have ey:y=u:=by
   have h2:its.toArray[i']?=some u:=by simpa using hu
   rw[h2] at hy;exact (Qby hy).symm
  subst ey;refine⟨_,rq,wpAny_letOwnedTupleGo_enum ho λh2 he2 hs2=>?_⟩;have hlt2:s.heap.objs.size≠e:=QbX (QbR he);have hT2:h2.get? s.heap.objs.size=some { cls:=.type "tuple",data:=.seq #[.int ((lo+i':Nat):Int) tk,y] }:=(hs2.2 _ hlt2).trans hT;have new:BX X.prog X.w (upd H s.heap.objs.size (.tup [.int ((lo+i':Nat):Int),x])) h2 s.heap.objs.size (.tup [.int ((lo+i':Nat):Int),x]):=
   ⟨by show 2<=sizeLine;decide,[.int ((lo+i':Nat):Int) tk,y],.cons ⟨tk,rq⟩ (.cons ru .nil),_,hT2,rq,0,rq⟩
  have I1:=I.NK (h':=h2) (t':=tk+1) (QbZ _) (λb q hb z=>(hs2.2 b (λw=>hb (by simp[w]))).trans (hk b q (λw=>hb (by simp[w])) (λw=>hb (by simp[w])) z)) hf new;refine⟨.ref s.heap.objs.size,_,I1,rq,⟨s.heap.objs.size,x,I.hok.fresh (QbZ _),rq,rq,λys hy'=>by rw[I.NP hy' hq];exact hx⟩,⟨⟨y,?_⟩,?_⟩,λb hb=>?_⟩
  ·have:=he2;rw[show ((lo+(i'+1):Nat):Int)=((lo+i':Nat):Int)+1 by omega];exact this
  ·obtain⟨i2,e2,_,st2,_⟩:=hst;have:i2=i'+1:=by omega
   subst this;exact st2.at λo q=>(hs2.2 it (Ne.symm nei)).trans q
  ·have hb':b < s.heap.objs.size:=by
    rcases QbL.mp hb with rfl | hb
    ·exact QbR he
    ·have:b=it:=by simpa using hb
     subst this;obtain⟨o,ho',_⟩:=hit;exact QbR ho'
   rw[Aw (QbS hb')];exact (hf b hb).1
 done:=by
  intro X hP hw hK hc i jb s O H E I hf st hg;subst hP hw hK;obtain⟨xs,hq,hx⟩:=hg;obtain⟨its,rv,p,hz⟩:=I.tuple hq;obtain⟨⟨old,he⟩,hit⟩:=st;have hl:=rv.length;exact Qh (I.ok.hd hc) he hit (show s.heap.IsTuple a its.toArray from p) (by simp;omega) λh' eb=>⟨rq,I.QV (t':=s.toks) (λb o hb q=>eb b o (λz=>hb (by simp[z])) q) hf⟩
 self:=λ_ _ _ _ _ st h=>let ⟨⟨_,he⟩,_⟩:=st;wpAny_pyIter_enum he h
end L2
namespace PySem
open Sem (wp)
open AutoSeq1 (wpAny_loadPart')
theorem Nj (l:Addr) (items:Array Value) (n:Nat) (dct:Option Addr) (sl:YI) :
  Meets (Builtin.«enumerate.__new__» ⟨[.type "enumerate",.ref l],[]⟩) (λ_ R s=>s.heap.get? l=some { cls:=.type "tuple",dict:=dct,data:=.seq items n,slots:=sl } /\
   R (.ok (.ret (.ref (s.heap.push { cls:=.type "tuple_iterator",data:=.fields #[.ref l,.int 0 0] }).objs.size)))
    { s with heap:=(s.heap.push { cls:=.type "tuple_iterator",data:=.fields #[.ref l,.int 0 0] }).push { cls:=.type "enumerate",data:=.fields #[.none,.bool false,.ref s.heap.objs.size,rawInt 0,.none,.none] } }):=
 .of_wp λprog w A R s h=>by
  obtain⟨hp,g,d,tk,os⟩:=s;obtain⟨hl,h⟩:=h;have hsub:=sub_enumerate;have hL:Heap.IsTuple (Shared.heap ⟨hp,g,d,tk,os⟩) l items:=⟨_,hl,rq,n,rq⟩
  wp_walk using wpAny_loadPart' hl
  refine wpAny_stack_any λst=>Qce ?_;split
  ·rename_i c _ _ _ _ _;cases (c == Value.type "enumerate")
   ·wp_walk using wpAny_loadPart' hl,QaV hL
    exact⟨_,rq,h⟩
   ·wp_walk using wpAny_loadPart' hl,QaV hL
    exact⟨_,rq,h⟩
  ·wp_walk using wpAny_loadPart' hl,QaV hL
   exact⟨_,rq,h⟩
theorem LQ (l:Addr) (items:Array Value) (n:Nat) (dct:Option Addr) (sl:YI) (t:Tok) :
  Meets (Builtin.«enumerate.__new__» ⟨[.type "enumerate",.ref l],[("start",.int 1 t)]⟩) (λ_ R s=>s.heap.get? l=some { cls:=.type "tuple",dict:=dct,data:=.seq items n,slots:=sl } /\
   R (.ok (.ret (.ref (s.heap.push { cls:=.type "tuple_iterator",data:=.fields #[.ref l,.int 0 0] }).objs.size)))
    { s with heap:=(s.heap.push { cls:=.type "tuple_iterator",data:=.fields #[.ref l,.int 0 0] }).push { cls:=.type "enumerate",data:=.fields #[.none,.bool false,.ref s.heap.objs.size,rawInt 1,.none,.none] } }):=
 .of_wp λprog w A R s h=>by
  obtain⟨hp,g,d,tk,os⟩:=s;obtain⟨hl,h⟩:=h;have hsub:=sub_enumerate;have hL:Heap.IsTuple (Shared.heap ⟨hp,g,d,tk,os⟩) l items:=⟨_,hl,rq,n,rq⟩
  wp_walk using wpAny_loadPart' hl
  refine wpAny_stack_any λst=>Qce ?_;split
  ·rename_i c _ _ _ _ _;cases (c == Value.type "enumerate")
   ·wp_walk using wpAny_loadPart' hl,QaV hL
    exact⟨_,rq,h⟩
   ·wp_walk using wpAny_loadPart' hl,QaV hL
    exact⟨_,rq,h⟩
  ·wp_walk using wpAny_loadPart' hl,QaV hL
   exact⟨_,rq,h⟩
end PySem
namespace PySem
open Sem (wp)
section
variable {prog:Program} {w:World} {A:Around} {E:YA} {s:Shared}
theorem M9 {T newId:String} {self:Value} {rest:YE} {kw:List (Str×Value)} (hl:typeLookup (.type T) "__init__"=pure (some (.builtin "object.__init__")))
  (hm:Bind.madeBy (.type T)=pure (some newId)) (hne:(some newId != some "object.__new__")=true) :
  Meets (Builtin.«object.__init__» ⟨self::rest,kw⟩) (λ_ R s=>s.TypeIs self T/\R (.ok (.ret .none)) s):=by
 refine Meets.of_wp λprog w A R s hs=>?_;obtain⟨hT,hq⟩:=hs;cases rest with
 | nil=>
  cases kw with
  | nil=>exact Qce ⟨_,rfl,hq⟩
  | cons k kw=>
   repeat (any_goals (first | assumption | wp_step))
   exact⟨_,rq,hq⟩
 | cons a rest=>
  repeat (any_goals (first | assumption | wp_step))
  exact⟨_,rq,hq⟩
theorem Ve {T newId:String} {Bn:Builtin} {args:YE} {kw:List (Str×Value)} {S:Spec} {Q:YA} (ft:TypeCalled T newId "object.__init__") (hne:(some newId != some "object.__new__")=true)
  (hct:checkTypeCall T ⟨args,kw⟩=pure ()) (hcn:checkBuiltinCall newId ⟨.type T::args,kw⟩=pure ()) (hok:∀obj,argsOk "object.__init__" ⟨obj::args,kw⟩)
  (entryN:entryFor table newId=some Bn) (g:Meets (Bn ⟨.type T::args,kw⟩) S) (h:S A.in1 (wants (λobj s₁=>s₁.TypeIs obj T/\Q obj s₁) E) s) :
  wpAny (model prog w) A (call (.type T) args kw) Q E s:=by
 obtain⟨c,tl,hmro⟩:=ft.mro;have hmade:=ft.made;have hsub:=ft.sub;refine wpAny_call (codeAny_of_tree ?_);show wpAny _ _ (callAny (.type T) _) _ _ _;refine Qce ⟨Code.quiet_builtin _ (by trivial),QbD F.entry_type_call ?_⟩;rw[Around.under_plain (weight_type_call_type T args kw) (units_type_call_type T args kw)];have h1:=ft.notType;have h2:=ft.canCreate
 repeat (any_goals (first | assumption | wp_step))
 refine QbY (codeAny_call_builtin ft.plain entryN (wpAny_of_eq hcn (g prog w A.in1 _ s h))) λr s₁ hr=>?_;cases r with
 | error e=>exact hr
 | ok fl=>
  cases fl with
  | ret obj=>
   obtain⟨hT,hq⟩:=hr;have hli:=ft.init.lookup;have hbi:=ft.init.bind obj
   repeat (any_goals (first | assumption | wp_step))
   refine QbY (codeAny_call_builtin ft.init.plain F.entry_object_init (ft.init.check _ _ _ _ _ _ _ _ hT (hok obj) (M9 ft.init.lookup ft.made hne prog w A.in1 (wants (λr s₂=>r=.none/\Q obj s₂) E) s₁ ⟨hT,rq,hq⟩))) λr₂ s₂ hr₂=>?_;cases r₂ with
   | error e=>exact hr₂
   | ok fl₂=>
    cases fl₂ with
    | ret r=>
     obtain⟨rfl,hq2⟩:=hr₂
     repeat (any_goals (first | assumption | wp_step))
    | _=>exact hr₂.elim
  | _=>exact hr.elim
end
end PySem
namespace PyProof.Rows
open PySem
section
variable {M:Model} {A:Around} {E:YA} {s:Shared} {env:Env}
theorem Mu {pos:Pos} {T:String} {e:Expr} {rest:YJ} {kws:List Keyword} {Q:YA}
  (h:wpAny M A (spliced (backTo pos (starEach (e::rest) env))) (λvs s₁=>wpAny M A (evalAll ((backToKw pos (keywordEach kws env)).map (·.2))) (λkvs s₂=>wpAny M A (call (.type T) vs (((backToKw pos (keywordEach kws env)).filterMap (·.1)).zip kvs)) Q E s₂) E s₁) E s)
  (he:backTo pos (starEach (e::rest) env)=(false,eval e env)::backTo pos (starEach rest env):=by rfl) (hplain:(backTo pos (starEach (e::rest) env)).any (·.1)=false:=by rfl)
  (hall:(backToKw pos (keywordEach kws env)).all (·.1.isSome)=true:=by rfl) (hkw:(backToKw pos (keywordEach kws env)).any (·.1.isNone)=false:=by rfl) :
  wpAny M A (callWith pos (.type T) [] (backTo pos (starEach (e::rest) env)) (backToKw pos (keywordEach kws env))) Q E s:=by
 have h2:wpAny M A (evalArgs (.type T) true (backTo pos (starEach (e::rest) env)) (backToKw pos (keywordEach kws env))) (λa s₁=>wpAny M A (call (.type T) ([]++a.pos) a.kw) Q E s₁) E s:=by
  rw[he] at h ⊢;exact evalArgs_kwB hall h
 unfold callWith;refine Qcd (QbN (Qcf h2 (λa s₁ h₁=>Qcd (QbP ?_)) λ_ _ x=>x));simp only[hplain,hkw,Bool.or_false];exact Qcd (Qce (Qcd (Qcf h₁ (λr s₂ hr=>Qcd (QbN (wpAny_point (Qce hr)))) λ_ _ x=>x)))
end
end PyProof.Rows
namespace L2
open PySem PySem.Spec PyProof.Rows
section
variable {X:Cx}
theorem Rn {jb:YC} {O : St} {H:Hp} {s:Shared} {R:It->Hp->Prop} {E:YA} {elts:YJ} {k:Nat} {pos:Pos} {a:Addr} {lo:Nat} {tk:Nat} (I:Inv X jb O H s) (q:R (Hy X.K a lo) H) :
  wpAny (model X.prog X.w) X.A (pyIter (.ref (s.heap.objs.size+1))) (PIE X jb O (.Tuple elts k pos) R) E
   { s with heap:=(s.heap.push { cls:=.type "tuple_iterator",data:=.fields #[.ref a,.int 0 0] }).push { cls:=.type "enumerate",data:=.fields #[.none,.bool false,.ref s.heap.objs.size,rawInt (lo:Int),.none,.none] },toks:=tk }:=by
 have hz:(s.heap.push { cls:=.type "tuple_iterator",data:=.fields #[.ref a,.int 0 0] }).objs.size=s.heap.objs.size+1:=QbI ..;have he:IsEnum ((s.heap.push { cls:=.type "tuple_iterator",data:=.fields #[.ref a,.int 0 0] }).push { cls:=.type "enumerate",data:=.fields #[.none,.bool false,.ref s.heap.objs.size,rawInt (lo:Int),.none,.none] }) (s.heap.objs.size+1) s.heap.objs.size (lo:Int) .none:=by
  have:=QaG (s.heap.push { cls:=.type "tuple_iterator",data:=.fields #[.ref a,.int 0 0] }) (o:={ cls:=.type "enumerate",data:=.fields #[.none,.bool false,.ref s.heap.objs.size,rawInt (lo:Int),.none,.none] }) rfl;rw[hz] at this;exact this
 refine wpAny_pyIter_enum he ⟨s.heap.objs.size+1,[s.heap.objs.size+1,s.heap.objs.size],_,_,H,rq,I.kept (t':=tk) λb o e=>Qas _ (Qas _ e),RN a (s.heap.objs.size+1) s.heap.objs.size lo (Nat.succ_ne_self _),⟨⟨.none,he⟩,⟨_,Qas _ (QaG _ rfl),rq,rq⟩⟩,λb hb=>?_,q⟩;have hb':s.heap.objs.size<=b:=by
  simp only[QbL,Qbq,or_false] at hb;rcases hb with rfl | rfl
  ·exact Nat.le_succ _
  ·exact QbZ _
 exact I.Nq hb' (I.hok.fresh hb')
end
section
variable {X:Cx}
def Xd (K:YD) (lo:Nat) (tl:TE):TI:=fun O H R=>tl O H λx H1=>∃a,x=.ref a/\(∃xs,SqT K H1 a xs)/\R (Hy K a lo) H1
theorem Tq {jb:YC} {O : St} {H:Hp} {s:Shared} {R:It->Hp->Prop} {elts:YJ} {k:Nat} {pos:Pos} {a:Addr} {xs:YG} (I:Inv X jb O H s) (hq:SqT X.K H a xs) (q:R (Hy X.K a 0) H) :
  wpAny (model X.prog X.w) X.A (call (.type "enumerate") [.ref a]) (λv s1=>wpAny (model X.prog X.w) X.A (pyIter v) (PIE X jb O (.Tuple elts k pos) R) X.xe s1) X.xe s:=by
 obtain⟨its,rv,p,hz⟩:=I.tuple hq;obtain⟨⟨c,dct,dt,sl⟩,hl,hc,n,hd⟩:=id p;replace hc:c=.type "tuple":=hc;replace hd:dt=.seq its.toArray n:=hd;subst hc hd;refine callType_new F.called_enumerate (by decide) (F.typeCall_enumerate_1 _) (F.newCall_enumerate_1 _) (λobj=>F.args_object_init_2 obj _) F.entry_enumerate_new (Nj a its.toArray n dct sl) ⟨hl,?_⟩;have hz:(s.heap.push { cls:=.type "tuple_iterator",data:=.fields #[.ref a,.int 0 0] }).objs.size=s.heap.objs.size+1:=QbI ..;show _/\_;refine⟨⟨_,QaG _ rfl,rq⟩,?_⟩;rw[hz];exact Rn (lo:=0) (tk:=s.toks) I q
end
section
variable {X:Cx}
theorem VJ {x:Expr} {tx:TE} {p pos tp:Pos} {elts:YJ} {k:Nat} (hg:Gl X "enumerate") (hm:X.mg "enumerate"=none) (hl:PE X x tx) (hs:starEach [x] X.env=[(false,eval x X.env)]:=by rfl):PI X (.Tuple elts k tp) (.Call (.Name "enumerate" p) [x] [] pos) (Xd X.K 0 tx):=by
 intro jb s O H R I h;refine Call_ (Gx I hg hm boot_enumerate (Qac (thn ((Aa hl Ac (by rw[hs];rfl)) pos jb s O H (λvs H1=>match vs with | [v]=>∃a,v=.ref a/\(∃xs,SqT X.K H1 a xs)/\R (Hy X.K a 0) H1 | _=>False) I h) λus s1 ⟨vs,H1,I1,r1,q1⟩=>?_) hs rfl))
 cases r1 with
 | nil=>exact False.elim q1
 | cons r rr=>
  cases rr with
  | nil=>
   obtain⟨a,e,⟨xs,hq⟩,q⟩:=q1;subst e;cases r;exact Tq I1 hq q
  | cons _ _=>exact False.elim q1
theorem Tp {jb:YC} {O : St} {H:Hp} {s:Shared} {R:It->Hp->Prop} {elts:YJ} {k:Nat} {pos:Pos} {a:Addr} {xs:YG} {t:Tok} (I:Inv X jb O H s) (hq:SqT X.K H a xs) (q:R (Hy X.K a 1) H) :
  wpAny (model X.prog X.w) X.A (call (.type "enumerate") [.ref a] [("start",.int 1 t)]) (λv s1=>wpAny (model X.prog X.w) X.A (pyIter v) (PIE X jb O (.Tuple elts k pos) R) X.xe s1) X.xe s:=by
 obtain⟨its,rv,p,hz⟩:=I.tuple hq;obtain⟨⟨c,dct,dt,sl⟩,hl,hc,n,hd⟩:=id p;replace hc:c=.type "tuple":=hc;replace hd:dt=.seq its.toArray n:=hd;subst hc hd;refine Ve F.called_enumerate (by decide) (by kernel_rfl) (by kernel_rfl) (λobj=>?ok) F.entry_enumerate_new (LQ a its.toArray n dct sl t) ⟨hl,?_⟩
 case ok=>
  unfold argsOk;rw[signature?_of (id:="object.__init__") (n:=['_','_','t','i','n','i','_','_']) (o:=['t','c','e','j','b','o']) (by kernel_rfl) F.owner_object]
  kernel_rfl
 have hz:(s.heap.push { cls:=.type "tuple_iterator",data:=.fields #[.ref a,.int 0 0] }).objs.size=s.heap.objs.size+1:=QbI ..;show _/\_;refine⟨⟨_,QaG _ rfl,rq⟩,?_⟩;rw[hz];exact Rn (lo:=1) (tk:=s.toks) I q
theorem KN {x one:Expr} {tx:TE} {p pos tp kp:Pos} {elts:YJ} {k:Nat} (hg:Gl X "enumerate") (hm:X.mg "enumerate"=none) (hl:PE X x tx) (h1:PE X one (tC (.int 1))) (hs:starEach [x] X.env=[(false,eval x X.env)]:=by rfl)
  (hall:(backToKw pos (keywordEach [⟨some "start",one,kp⟩] X.env)).all (·.1.isSome)=true:=by rfl) (hkw:(backToKw pos (keywordEach [⟨some "start",one,kp⟩] X.env)).any (·.1.isNone)=false:=by rfl)
  (hks:(backToKw pos (keywordEach [⟨some "start",one,kp⟩] X.env)).filterMap (·.1)=(["start"]:YF):=by rfl) :
  PI X (.Tuple elts k tp) (.Call (.Name "enumerate" p) [x] [⟨some "start",one,kp⟩] pos) (Xd X.K 1 tx):=by
 intro jb s O H R I h;refine QaX (Gx I hg hm boot_enumerate (PyProof.Rows.Mu (thn ((Aa hl Ac (by rw[hs];rfl)) pos jb s O H (λvs H1=>match vs with | [v]=>∃a,v=.ref a/\(∃xs,SqT X.K H1 a xs)/\R (Hy X.K a 1) H1 | _=>False) I h) λus s1 ⟨vs,H1,I1,r1,q1⟩=>?_) (by rw[hs];rfl) (by rw[hs];rfl) hall hkw))
 refine thn ((Xq h1 YW) pos jb s1 O H1 (λks H2=>H2=H1/\ks=[.int 1]) I1 ⟨rq,rq⟩) λws s2 zz=>?_;obtain⟨zs,H2,I2,rz,e2,ez⟩:=zz;subst e2 ez;cases rz with
 | cons rz1 rz2=>
  cases rz2;obtain⟨t,rfl⟩:=rz1;rw[hks];cases r1 with
  | nil=>exact False.elim q1
  | cons r rr=>
   cases rr with
   | nil=>
    obtain⟨a,e,⟨xs,hq⟩,q⟩:=q1;subst e;cases r;exact Tp I2 hq q
   | cons _ _=>exact False.elim q1
theorem Jj {K:YD} {a:Addr} {lo:Nat} {xs:YG} {g:TG} {tb:TS} {D:Ends} {O : St} {H:Hp} (Pv:YN) (h0:Pv 0 O H) (hl:∀i O H',i<=xs.length->Pv i O H'->SqT K H' a xs)
  (hs:∀i x p O H',xs[i]?=some x->Pv i O H'->H' p=none->g (.ref p) O (upd H' p (.tup [.int ((lo+i:Nat):Int),x])) fun σ2 H2=>tb { D with nx:=Pv (i+1),ct:=Pv (i+1),bk:=D.nx } σ2 H2) (hd:∀ O H',Pv xs.length O H'->D.nx O H') :
  ∃W:Nat->YN,(∃m,W 0 m O H)/\∀i m O H,W i m O H ->
   ((Hy K a lo).stop i H/\D.nx O H)\/((Hy K a lo).go i H/\∃N:YO,(∀ σ' H',N σ' H'->∃m',m' < m/\W (i+1) m' σ' H')/\∀x H',(Hy K a lo).yld i H x H'->g x O H' fun σ2 H2=>tb { D with nx:=N,ct:=N,bk:=D.nx } σ2 H2):=by
 refine⟨λi m O H=>m=xs.length - i/\i<=xs.length/\Pv i O H,⟨xs.length,by simp,Qca _,h0⟩,?_⟩;rintro i m O H ⟨rfl,hi,p⟩;have q:=hl i O H hi p;by_cases hlt:i < xs.length
 ·refine .inr ⟨⟨xs,xs[i],q,by simp[hlt]⟩,Pv (i+1),fun σ3 H3 p'=>⟨xs.length - (i+1),by omega,rq,hlt,p'⟩,λv H2 y=>?_⟩;obtain⟨pa,x,hn,rfl,rfl,hx⟩:=y;exact hs i x pa O _ (hx xs q) p hn
 ·have e:i=xs.length:=by omega
  subst e;exact .inl ⟨⟨xs,q,QbZ _⟩,hd O H p⟩
end
section
variable {X:Cx}
def ZS (i j:Int):Prop:=i.natAbs < 2 ^ 8000/\j.natAbs < 2 ^ 8000
theorem Qt {k:Int} (h:k.natAbs < 2 ^ 8000):Builtin.Int.intBits k<=8000:=by
 unfold Builtin.Int.intBits;split
 ·exact Qca _
 ·rcases Nat.eq_zero_or_pos k.natAbs with h0 | hp
  ·rw[h0];decide
  ·have:=(Nat.log2_lt (QbX hp)).mpr h;omega
theorem ZS.ok {i j:Int} (h:ZS i j):IntMulOk i j:=by
 have h1:=Qt h.1;have h2:=Qt h.2;unfold IntMulOk;have e:Builtin.Int.intTooBig (Builtin.Int.intBits i+Builtin.Int.intBits j)=false:=by
  unfold Builtin.Int.intTooBig;rw[bitsLine_eq];exact Qbx (by omega)
 rw[e,Bool.and_false];exact QaN
end
end L2
namespace PySem.ZZ
open PySem
section
variable {prog:Program} {w:World} {A:Around} {E:YA} {s:Shared}
structure Src where
 it:Addr
 a:Addr
 items:Array Value
def SrcAt (h:Heap) (x:Src) (i:Nat):Prop:=(h.IsListIter x.it x.a i/\h.IsList x.a x.items)\/(h.IsTupleIter x.it x.a i/\h.IsTuple x.a x.items)
theorem SrcAt.keep {h h':Heap} {x:Src} {i:Nat} (q:SrcAt h x i) (k1:∀o,h.get? x.it=some o->h'.get? x.it=some o) (k2:∀o,h.get? x.a=some o->h'.get? x.a=some o):SrcAt h' x i:=by
 rcases q with⟨q1,q2⟩|⟨q1,o,e,r⟩
 ·exact .inl ⟨q1.at k1,q2.at k2⟩
 ·exact .inr ⟨q1.at k1,o,k2 o e,r⟩
theorem SrcAt.ne {h:Heap} {x:Src} {i:Nat} (q:SrcAt h x i):x.a≠x.it:=λz=>by
 rcases q with⟨⟨o,e,c,_⟩,⟨o',e',c',_⟩⟩|⟨⟨o,e,c,_⟩,⟨o',e',c',_⟩⟩
 ·rw[z,e] at e';cases e';rw[c] at c';injection c' with y;exact absurd y (by decide)
 ·rw[z,e] at e';cases e';rw[c] at c';injection c' with y;exact absurd y (by decide)
theorem SrcAt.ex {h:Heap} {x:Src} {i:Nat} (q:SrcAt h x i):(∃o,h.get? x.it=some o)/\∃o,h.get? x.a=some o:=by
 rcases q with⟨⟨o,e,_⟩,⟨o',e',_⟩⟩|⟨⟨o,e,_⟩,⟨o',e',_⟩⟩
 ·exact⟨⟨o,e⟩,o',e'⟩
 ·exact⟨⟨o,e⟩,o',e'⟩
abbrev IsZ (h:Heap) (z TI TO:Addr) (f0 f1:Value):Prop:=h.get? z=some { cls:=.type "zip",dict:=none,data:=.fields #[f0,f1,.bool false,.ref TI,.ref TO],slots:=#[] }
abbrev Ny (h:Heap) (T:Addr) (xs:YE):Prop:=h.get? T=some { cls:=.type "tuple",data:=.seq xs.toArray }
structure Apart (z TI TO:Addr) (ls:List Src):Prop where
 TIz:TI≠z
 TOz:TO≠z
 TITO:TI≠TO
 it:∀x∈ls,x.it≠z/\x.it≠TI/\x.it≠TO
 a:∀x∈ls,x.a≠z/\x.a≠TO
 ai:∀x∈ls,∀y∈ls,x.a≠y.it
 nd:(ls.map (·.it)).Nodup
def Rest (z TO:Addr) (ls:List Src) (h h':Heap):Prop:=∀c o,c≠z->c≠TO->c∉ls.map (·.it)->h.get? c=some o->h'.get? c=some o
end
end PySem.ZZ
namespace PySem
namespace F
end F
end PySem
namespace PySem.ZZ
open PySem
def Tv (h:Heap) (a:Addr) (xs:Array Value) (c:String):Prop:=(c="list_iterator"/\h.IsList a xs)\/(c="tuple_iterator"/\h.IsTuple a xs)
theorem Tv.src {h h':Heap} {a it:Addr} {xs:Array Value} {c:String} (q:Tv h a xs c) (k:∀o,h.get? a=some o->h'.get? a=some o) (e:h'.get? it=some { cls:=.type c,data:=.fields #[.ref a,.int 0 0] }):SrcAt h' ⟨it,a,xs⟩ 0:=by
 rcases q with⟨rfl,q⟩|⟨rfl,o,ho,r⟩
 ·exact .inl ⟨⟨_,e,rq,rq⟩,q.at k⟩
 ·exact .inr ⟨⟨_,e,rq,rq⟩,o,k o ho,r⟩
theorem Tv.lt {h:Heap} {a:Addr} {xs:Array Value} {c:String} (q:Tv h a xs c):a < h.objs.size:=by
 rcases q with⟨rfl,o,e,_⟩|⟨rfl,o,e,_⟩
 ·exact QbR e
 ·exact QbR e
abbrev itO (c:String) (l:Addr):Obj:={ cls:=.type c,data:=.fields #[.ref l,.int 0 0] }
abbrev tuO (xs:Array Value):Obj:={ cls:=.type "tuple",data:=.seq xs }
abbrev z2a (h:Heap) (c1 c2:String) (l1 l2:Addr):Heap:=((((h.push (itO c1 l1)).push (itO c2 l2)).push (tuO #[.ref h.objs.size,.ref (h.push (itO c1 l1)).objs.size])).push (tuO #[.none,.none]))
abbrev z2 (h:Heap) (c1 c2:String) (l1 l2:Addr):Heap:=(z2a h c1 c2 l1 l2).push
 { cls:=.type "zip",data:=.fields #[.none,.bool false,.bool false,.ref ((h.push (itO c1 l1)).push (itO c2 l2)).objs.size,.ref (((h.push (itO c1 l1)).push (itO c2 l2)).push (tuO #[.ref h.objs.size,.ref (h.push (itO c1 l1)).objs.size])).objs.size] }
abbrev z3a (h:Heap) (c1 c2 c3:String) (l1 l2 l3:Addr):Heap:=(((((h.push (itO c1 l1)).push (itO c2 l2)).push (itO c3 l3)).push (tuO #[.ref h.objs.size,.ref (h.push (itO c1 l1)).objs.size,.ref ((h.push (itO c1 l1)).push (itO c2 l2)).objs.size])).push (tuO #[.none,.none,.none]))
abbrev z3 (h:Heap) (c1 c2 c3:String) (l1 l2 l3:Addr):Heap:=(z3a h c1 c2 c3 l1 l2 l3).push
 { cls:=.type "zip",data:=.fields #[.none,.bool false,.bool false,.ref (((h.push (itO c1 l1)).push (itO c2 l2)).push (itO c3 l3)).objs.size,.ref ((((h.push (itO c1 l1)).push (itO c2 l2)).push (itO c3 l3)).push (tuO #[.ref h.objs.size,.ref (h.push (itO c1 l1)).objs.size,.ref ((h.push (itO c1 l1)).push (itO c2 l2)).objs.size])).objs.size] }
section
variable {prog:Program} {w:World} {A:Around} {E:YA} {s:Shared}
end
end PySem.ZZ
namespace PySem
namespace F
end F
end PySem
namespace PySem.ZZ
open PySem
section
variable {prog:Program} {w:World} {A:Around} {E:YA} {s:Shared}
structure Run (hb:Heap) (z TI TO:Addr) (ls:List Src) (rows:Nat->YE) (S:Addr) (ts:List Addr) (h:Heap):Prop where
 inc:ts.Pairwise (· < ·)
 lo:∀t∈ts,S < t/\t < h.objs.size
 at_:∀j t,ts[j]?=some t->Ny h t (rows j)
 keep:∀c o,hb.get? c=some o->h.get? c=some o
 hTI:Ny h TI (ls.map λx=>.ref x.it)
 hTO:∃olds,Ny h TO olds/\olds.length=ls.length
 src:∀x∈ls,SrcAt h x ts.length
 hz:(ts=[]/\IsZ h z TI TO .none (.bool false))\/∃(T:Addr) (f1:Value),ts[0]?=some T/\IsZ h z TI TO (rawInt T) f1
structure Below (hb:Heap) (z TI TO:Addr) (ls:List Src) (S:Addr):Prop where
 ap:Apart z TI TO ls
 old:hb.objs.size<=z/\hb.objs.size<=TI/\hb.objs.size<=TO/\∀x∈ls,hb.objs.size<=x.it
 lz:z < S
 lTI:TI < S
 lTO:TO < S
 it:∀x∈ls,x.it < S/\x.a < S
 base:hb.objs.size<=S
theorem Run.frame {hb:Heap} {z TI TO:Addr} {ls:List Src} {rows:Nat->YE} {S:Addr} {ts:List Addr} {h h':Heap} (B:Below hb z TI TO ls S) (r:Run hb z TI TO ls rows S ts h) (hs:h'.objs.size=h.objs.size) (k:∀c o,c≠S->h.get? c=some o->h'.get? c=some o):Run hb z TI TO ls rows S ts h':=by
 obtain⟨olds,o1,o2⟩:=r.hTO;refine⟨r.inc,λt ht=>by rw[hs];exact r.lo t ht,λj t e=>k _ _ (QbX (r.lo t (QaA e)).1) (r.at_ j t e),λc o e=>k _ _ (QbS (QaR (QbR e) B.base)) (r.keep c o e),k _ _ (QbS B.lTI) r.hTI,⟨olds,k _ _ (QbS B.lTO) o1,o2⟩,λx hx=>?_,?_⟩
 ·exact (r.src x hx).keep (λo e=>k _ _ (QbS (B.it x hx).1) e) (λo e=>k _ _ (QbS (B.it x hx).2) e)
 ·rcases r.hz with⟨e,q⟩|⟨T,f1,e,q⟩
  ·exact .inl ⟨e,k _ _ (QbS B.lz) q⟩
  ·exact .inr ⟨T,f1,e,k _ _ (QbS B.lz) q⟩
theorem Run.more {hb:Heap} {z TI TO:Addr} {ls:List Src} {rows:Nat->YE} {S:Addr} {ts:List Addr} {h h':Heap} (B:Below hb z TI TO ls S) (r:Run hb z TI TO ls rows S ts h) (hS:S < h.objs.size) (hs:h'.objs.size=h.objs.size+1) (hr:Rest z TO ls h h')
  (hTI:Ny h' TI (ls.map λx=>.ref x.it)) (hTO:∃olds,Ny h' TO olds/\olds.length=ls.length) (src:∀x∈ls,SrcAt h' x (ts.length+1)) (new:Ny h' h.objs.size (rows ts.length)) (hz:∃(T:Addr) (f1:Value),(ts++[h.objs.size])[0]?=some T/\IsZ h' z TI TO (rawInt T) f1):Run hb z TI TO ls rows S (ts++[h.objs.size]) h':=by
 have fr:∀t,S < t->t≠z/\t≠TO/\t∉ls.map (·.it):=λt ht=>⟨λe=>by rw[e] at ht;exact Nat.lt_asymm ht B.lz,λe=>by rw[e] at ht;exact Nat.lt_asymm ht B.lTO,λe=>by
  obtain⟨x,hx,e'⟩:=QbV.mp e;rw[<-e'] at ht;exact Nat.lt_asymm ht (B.it x hx).1⟩
 refine⟨?_,λt ht=>?_,λj t e=>?_,λc o e=>?_,hTI,hTO,λx hx=>by rw[QaL];exact src x hx,.inr hz⟩
 ·exact List.pairwise_append.mpr ⟨r.inc,List.pairwise_singleton _ _,λa ha b hb'=>by
   have:b=h.objs.size:=by simpa using hb'
   rw[this];exact (r.lo a ha).2⟩
 ·rw[hs];rcases Qbu.mp ht with ht | ht
  ·have:=r.lo t ht;exact⟨this.1,Qbi this.2⟩
  ·have:t=h.objs.size:=by simpa using ht
   rw[this];exact⟨hS,Qbr _⟩
 ·by_cases c:j < ts.length
  ·rw[List.getElem?_append_left c] at e;have hlo:=r.lo t (QaA e);obtain⟨f1,f2,f3⟩:=fr t hlo.1;exact hr t _ f1 f2 f3 (r.at_ j t e)
  ·rw[List.getElem?_append_right (Nat.le_of_not_lt c)] at e;have hj:j - ts.length=0:=by
    have:=(Qaf.mp e).1;rw[Qax] at this;omega
   rw[hj] at e;cases e;have:j=ts.length:=by omega
   rw[this];exact new
 ·have hlt:=QbR e;refine hr c o (λq=>?_) (λq=>?_) (λq=>?_) (r.keep c o e)
  ·rw[q] at hlt;exact absurd hlt (Nat.not_lt.mpr B.old.1)
  ·rw[q] at hlt;exact absurd hlt (Nat.not_lt.mpr B.old.2.2.1)
  ·obtain⟨x,hx,e'⟩:=QbV.mp q;rw[<-e'] at hlt;exact absurd hlt (Nat.not_lt.mpr (B.old.2.2.2 x hx))
end
end PySem.ZZ
namespace PySem.ZZ
open PySem
section
variable {prog:Program} {w:World} {A:Around} {E:YA} {s:Shared}
structure Rows (ls:List Src) (n:Nat) (rows:Nat->YE):Prop where
 row:∀j,j < n->(rows j).length=ls.length/\∀(k:Nat) (x:Src),ls[k]?=some x->∃v,(rows j)[k]?=some v/\x.items[j]?=some v
 stop:∃x∈ls,x.items[n]?=none
 ne:ls≠[]
 few:ls.length<=100
 most:n<=1000
end
end PySem.ZZ
namespace L2
open PySem PySem.Spec PyProof.Rows
section
variable {X:Cx} {jb:YC} {O : St} {H:Hp} {s:Shared} {h':Heap}
theorem Inv.grown {H':Hp} {t':Nat} (I:Inv X jb O H s) (k:∀b u,s.heap.get? b=some u->h'.get? b=some u) (old:∀b,b < s.heap.objs.size->H' b=H b)
  (new:∀b o,s.heap.objs.size<=b->H' b=some o->BX X.prog X.w H' h' b o):Inv X jb O H' { s with heap:=h',toks:=t' }:=by
 have tr:∀b u,H b=some u->H' b=some u:=λb u e=>by rw[old b (I.hok.lt e)];exact e
 refine I.step (g':=s.gens) (d':=s.drawn) (ch:=[]) (λb hb=>by cases hb) (λb u _ _ _ e _=>k b u e) (λb u _ _ _ e _=>⟨u.slots,k b u e⟩) (λb u _ e n=>by rw[old b (QbR e)];exact n)
  (λb u _ e=>⟨u,k b u e⟩) (λ_ _ e=>tr _ _ e) (λ_ _ _ e=>tr _ _ e) (λb ps e=>⟨#[],by rw[tr _ _ e];simp⟩) (λm hm=>?_) (λb u e=>?_) I.bare
 ·obtain⟨u,es,ep,hu,r⟩:=hm;exact⟨u,es,ep,k _ u hu,r⟩
 ·by_cases hb:b < s.heap.objs.size
  ·rw[old b hb] at e;exact (I.hok b u e).stay (λc v _ q=>k c v q) (λc q=>tr _ _ q) λc xs q=>tr _ _ q
  ·exact new b u (Nat.le_of_not_lt hb) e
end
section
variable {X:Cx}
end
mutual
inductive Gm (K:YD) (H:Hp):V->PyData->Prop
 | non:Gm K H .non .none
 | bl (b:Bool):Gm K H (.bl b) (.bool b)
 | int (i:Int):Gm K H (.int i) (.int i)
 | str (x:Str):Gm K H (.str x) (.str x)
 | tup {a:Addr} {xs:YG} {ds:List PyData}:SqT K H a xs->GR K H xs ds->Gm K H (.ref a) (.tuple ds)
inductive GR (K:YD) (H:Hp):YG->List PyData->Prop
 | nil:GR K H [] []
 | cons {x:V} {d:PyData} {xs:YG} {ds:List PyData}:Gm K H x d->GR K H xs ds->GR K H (x::xs) (d::ds)
end
section
variable {X:Cx} {jb:YC} {O : St} {H:Hp} {s:Shared}
mutual
theorem Gm.reads (I:Inv X jb O H s):∀{v:V} {d:PyData} {u:Value},Gm X.K H v d->RelV v u->∃as,Reads s.heap u d as
 | _,_,_,.non,r=>by cases (show _=Value.none from r);exact⟨_,.none⟩
 | _,_,_,.bl b,r=>by cases (show _=Value.bool b from r);exact⟨_,.bool b⟩
 | _,_,_,.int i,r=>by obtain⟨t,rfl⟩:=(show ∃t,_=Value.int i t from r);exact⟨_,.int i t⟩
 | _,_,_,.str x,r=>by obtain⟨t,rfl⟩:=(show ∃t,_=Value.str x t from r);exact⟨_,.str x t⟩
 | _,_,_,.tup (a:=a) (xs:=xs) e q,r=>by
  cases (show _=Value.ref a from r)
  obtain⟨its,rv,⟨o,ho,hc,n,hd⟩,_⟩:=I.tuple e;obtain⟨as,z⟩:=GR.reads I q rv;exact⟨_,.tuple ho hc hd (by simpa using z)⟩
theorem GR.reads (I:Inv X jb O H s):∀{xs:YG} {ds:List PyData} {us:YE},GR X.K H xs ds->Vals xs us->∃as,ReadsAll s.heap us ds as
 | _,_,_,.nil,.nil=>⟨_,.nil⟩
 | _,_,_,.cons p q,.cons r t=>by
  obtain⟨as,a1⟩:=Gm.reads I p r;obtain⟨bs,b1⟩:=GR.reads I q t;exact⟨_,.cons a1 b1⟩
end
end
section
variable {X:Cx} {K:YD}
theorem Y6 (h:X.K=K) (hu:X.A.units+64 < cLine):OpR X (compareOp .Eq) (λx y H Q=>∃d e,Gm K H x d/\Gm K H y e/\SeqAt.shaped d=true/\SeqAt.shaped e=true/\Q (.bl (PyData.eqv d e)) H):=by
 subst h;intro jb s O H x y v u Q I rx ry h;obtain⟨d,e,p,p',sd,se,q⟩:=h;obtain⟨as,r1⟩:=p.reads I rx;obtain⟨bs,r2⟩:=p'.reads I ry;exact eq_dataH r1 r2 sd se hu ⟨.bl (PyData.eqv d e),H,I,rq,q⟩
theorem Ih {es:YJ} {k:Nat} {pos:Pos} {t:TGs} {n:Nat} (hK:X.K=K) (hc:X.calm=true) (h:PGs X es t)
  (hn:(assignEach es X.env).length=n:=by rfl) (hst:(assignEach es X.env).findIdx? (·.1)=none:=by rfl):PG X (.Tuple es k pos) (ZG K n t):=hK ▸ Ck hc h hn hst
end
end L2
namespace L2
open PySem PySem.Spec PyProof.Rows
abbrev W4:YE:=[.type "ValueError",.type "Exception",.type "BaseException",.type "object"]
structure XCl (K:YD) (C:Addr):Prop where
 ex:PySem.W.excIn K C W4 "ValueError.__new__"=true
 ga:findIn K (.ref C) "__getattribute__"=some (some (.builtin "BaseException.__getattribute__"))
 gn:findIn K (.ref C) "__getattr__"=some none
 ca:findIn K (.ref C) "__class__"=some (some (.builtin "object.__class__"))
 mo:PySem.W.subIn K (.ref C) (.type "object")=some true
 mb:PySem.W.subIn K (.ref C) (.type "BaseException")=some true
 kp:keepIn K (.ref C)=true
section
variable {K:YD} {C:Addr}
theorem XCl.obj (T:XCl K C) {h:Heap} (X:K.In h):∃bm N nm q bs hdct sn sub ab col dd k0 k1 k2 k3 k5 mN,h.get? C=some (excClassObj nm q C N bs bm hdct sn sub ab col dd k0 k1 k2 k3 k5 "ValueError.__new__")/\h.Ns N mN/\mN "__init__"=none/\OwnTail h W4 bm:=by
 have q:=T.ex;unfold PySem.W.excIn at q;split at q
 ·rename_i dd cd sl ho;split at q
  ·rename_i C' bm k0 k1 k2 k3 n k5 hm hs;simp only[Qbp,beq_iff_eq,Bool.not_eq_true'] at q;obtain⟨⟨⟨⟨⟨rfl,rfl⟩,hdel⟩,ht⟩,hok⟩,hni⟩:=q;obtain⟨nm,bs,mro,ns,qn,hd,sn,sub,ab,col,del⟩:=cd;dsimp only at hm hdel hok hni;subst hm hdel;have hsl:sl=#[k0,k1,k2,k3,some (.builtin "ValueError.__new__"),k5]:=by
    obtain⟨l⟩:=sl;simp only at hs;rw[hs]
   subst hsl;exact⟨bm,ns,nm,qn,bs,hd,sn,sub,ab,col,dd,k0,k1,k2,k3,k5,_,X _ _ ho,.of_isNs (PySem.W.isNs_of_in X hok),PySem.W.nsMap_none_of_in X hok hni,PySem.W.tail_of_in X ht⟩
  ·cases q
 ·cases q
end
def XAt (a C:Addr) (h:Heap):Prop:=∃o vs,h.get? a=some o/\o.cls=.ref C/\o.data=.fields vs/\vs[2]?=some .none
section
variable {prog:Program} {w:World} {A:Around} {E:YA} {h:Heap} {g:Array GenState} {d:Drawn} {t:Nat} {os:OsState} {K:YD} {a C:Addr} {o:Obj}
end
section
variable {X:Cx} {jb:YC} {O : St} {H:Hp} {s:Shared}
end
def XT (B:Heap) (e C:Addr) (fl:Option Value) (h:Heap):Prop:=
 ∃oe vs,h.get? e=some oe/\oe.cls=.ref C/\oe.data=.fields vs/\vs[2]?=some .none /\
  match fl with
  | none=>vs[1]?=some .none
  | some f=>∃T oT ts,vs[1]?=some (.ref T)/\B.get? T=none/\T≠e/\h.get? T=some oT/\oT.data=.fields ts/\ts[3]?=some f
structure Fl (B:Heap) (l:List Env) (e C:Addr) (fl:Option Value) (h:Heap):Prop where
 stays:B.StaysIn h
 new:B.get? e=none
 fr:h.FunFrames B l
 tr:XT B e C fl h
theorem XT.at {B h:Heap} {e C:Addr} {fl:Option Value} (x:XT B e C fl h):XAt e C h:=by
 obtain⟨oe,vs,h1,h2,h3,h4,_⟩:=x;exact⟨oe,vs,h1,h2,h3,h4⟩
section
variable {M:Model} {A:Around} {E:YA} {s:Shared} {B:Heap} {env:Env} {outer l:List Env} {L e C:Addr} {Q:YH}
end
theorem BX.there {P:Program} {w:World} {H:Hp} {h:Heap} {a:Addr} {o:HO} (x:BX P w H h a o):∃u,h.get? a=some u:=by
 cases o with
 | lst xs=>obtain⟨_,its,n,_,q⟩:=x;exact⟨_,q⟩
 | tup xs=>obtain⟨_,its,_,ob,q,_⟩:=x;exact⟨_,q⟩
 | dK kvs=>obtain⟨_,_,vs,_,ob,es,ep,q,_⟩:=x;exact⟨_,q⟩
 | dT kvs=>obtain⟨_,_,xs,_,ob,es,ep,q,_⟩:=x;exact⟨_,q⟩
 | set S n=>obtain⟨ob,es,ep,t,q,_⟩:=x;exact⟨_,q⟩
 | ins C dx fs=>obtain⟨_,_,_,q,_⟩:=x;exact⟨_,q⟩
 | own y=>exact x
 | xd fs=>obtain⟨mA,⟨od,es,ep,q,_⟩,_⟩:=x;exact⟨_,q⟩
 | rng lo hi=>obtain⟨t,u,v,q⟩:=x;exact⟨_,q⟩
 | frz ob u=>exact⟨_,x.1⟩
 | tbl ps=>exact⟨_,x⟩
 | met f y=>exact⟨_,x⟩
 | ext φ=>exact x.2.1
structure Exc (P:Program) (w:World) (outer:List Env) (H:Hp) (s:Shared) (e C:Addr) (B:Heap) (H':Hp) (s':Shared):Prop where
 os:s'.os=s.os
 bare:AllBare s'.gens
 fl:∃fl,(fl=none\/fl=some .none)/\Fl B outer e C fl s'.heap
 un:Un (frs outer) [] H H' s.heap s'.heap
 hok:HOk P w H' s'.heap
 tin:∀b o,s'.heap.get? b=some o->H' b≠none->B.get? b=some o
 old:∀b o,s.heap.get? b=some o->H b=none->b∉frs outer->B.get? b=some o
 ex:∀b o,s.heap.get? b=some o->b∉frs outer->∃o',B.get? b=some o'
section
variable {P:Program} {w:World} {outer:List Env} {H H':Hp} {s s':Shared} {e C:Addr} {B h2:Heap} {fl:Option Value}
theorem Exc.free (x:Exc P w outer H s e C B H' s'):H' e=none:=by
 cases hq:H' e with
 | none=>rfl
 | some v=>
  obtain⟨o1,q1⟩:=(x.hok e v hq).there;have q2:=x.tin e o1 q1 (by rw[hq];exact λz=>nomatch z);obtain⟨_,_,g⟩:=x.fl;rw[g.new] at q2;cases q2
theorem Exc.fresh (x:Exc P w outer H s e C B H' s'):s.heap.get? e=none:=by
 cases hq:s.heap.get? e with
 | none=>rfl
 | some o=>
  obtain⟨_,_,g⟩:=x.fl;by_cases hb:e∈frs outer
  ·obtain⟨_,o1,q1,nf⟩:=g.fr.mem hb;obtain⟨oe,vs,q2,_,q3,_⟩:=g.tr;rw[q1] at q2;cases q2;exact absurd q3 (nf vs)
  ·obtain⟨o1,q1⟩:=x.ex e o hq hb;rw[g.new] at q1;cases q1
end
section
variable {X:Cx} {jb:YC} {O : St} {H H':Hp} {s s':Shared} {e C:Addr} {B h2:Heap} {fl:Option Value}
theorem Exc.made {args:YE} {h':Heap} (I:Inv X jb O H s) (hx:Heap.MadeExcOf s.heap h' e (.ref C) args):Exc X.prog X.w X.stack H s e C (hideAll s.heap (frs X.stack)) H { s with heap:=h' }:=by
 have st:(hideAll s.heap (frs X.stack)).StaysIn s.heap:=λb o q=>PySem.W.of_hideAll _ q;refine⟨rq,I.bare,⟨none,.inl rfl,⟨λb o q=>hx.keeps b o (st b o q),?_,?_,?_⟩⟩,Un.kept hx.keeps,I.hok.kept hx.keeps,λb o q hb=>?_,λb o q n hb=>hideAll_get _ q hb,λb o q hb=>⟨o,hideAll_get _ q hb⟩⟩
 ·cases hq:(hideAll s.heap (frs X.stack)).get? e with
  | none=>rfl
  | some o=>
   have q:=st e o hq;rw[hx.new] at q;cases q
 ·have f0:s.heap.FunFrames (hideAll s.heap (frs X.stack)) X.stack:=PySem.W.funFrames_hide I.stack λenv he a ha=>List.mem_filterMap.mpr ⟨env,he,ha⟩;exact f0.of_keeps λb o q _=>⟨o,hx.keeps b o q,rq⟩
 ·obtain⟨t,q,_⟩:=hx.there;exact⟨_,_,q,rq,rq,rq,rq⟩
 ·cases hq:H b with
  | none=>exact absurd hq hb
  | some v=>
   obtain⟨o1,q1⟩:=(I.hok b v hq).there;have q2:=hx.keeps b o1 q1;have q':h'.get? b=some o:=q;rw[q'] at q2;cases q2;refine hideAll_get _ q1 λhm=>?_;rw[I.MP b hm] at hq;cases hq
end
theorem PS.nox {X:Cx} {st:Stmt} {t:TS} (h:PS X.nox st t):PS X st t:=λjb s O H D I hw=>
 Qcf (h jb s O H D (I.wish _) hw) (λ_ _ q=>q.Ek) λ_ _ z=>False.elim z
section
variable {M:Model} {A:Around} {E:YA} {h:Heap} {g:Array GenState} {d:Drawn} {t:Nat} {os:OsState} {K:YD} {e C HC:Addr}
end
abbrev Cx.by (X:Cx) (pn:YC) (E:YA):Cx:={ X with pn:=pn,xe:=E }
section
variable {X:Cx} {jb Sv pn:YC} {O : St} {H:Hp} {s:Shared} {E:YA} {ev:Value}
theorem Inv.by (I:Inv X jb O H s) (E:YA):Inv (X.by (X.pn++jb) E) [] O H s:=
 ⟨⟨I.ok.mod,I.ok.kind,I.ok.glob,I.ok.blt,I.ok.above,I.ok.inj,I.ok.has,I.ok.cab,I.ok.hd,I.ok.frames,I.ok.stk,I.ok.exf,I.ok.bs,I.ok.bsz,I.ok.Nb,I.ok.Lb,I.ok.Gi,I.ok.frf⟩,I.os,I.bare,I.base,I.loc,I.cell,I.free,I.Ew,
  λp hp=>I.pin p (by simpa using hp),I.hok,I.len⟩
end
def Ends.drop (D:Ends) (i:Nat):Ends where
 nx:=fun O H=>D.nx (O.set i none) H
 rt:=D.rt
 bk:=fun O H=>D.bk (O.set i none) H
 ct:=fun O H=>D.ct (O.set i none) H
structure Hs (k:Nat) (A:Around):Prop where
 dp:A.depth+3*k+5 < recursionLimit
 un:A.units+16*k+200 < cLine
theorem Hs.deeper {k:Nat} {A:Around} (r:Hs (k+1) A) (env:Env):Hs k (A.deeper env):=
 ⟨by have:=r.dp;show A.depth+1+3*k+5 < _;omega,by have:=r.un;show A.units+3+16*k+200 < _;omega⟩
theorem Hs.mono {j k:Nat} {A:Around} (r:Hs k A) (h:j<=k):Hs j A:=⟨by have:=r.dp;omega,by have:=r.un;omega⟩
theorem Hs.units {k:Nat} {A:Around} (r:Hs k A):A.units+64 < cLine:=by have:=r.un;omega
end L2
namespace L2
open PySem PySem.Spec PyProof.Rows PySem.SeqAt
theorem Bv {c:Const} {k:Nat} {p:Pos} {es:YJ} {env:Env}:starEach (.Constant c k p::es) env=(false,eval (.Constant c k p) env)::starEach es env:=by rfl
section
variable {X:Cx}
end
section
variable {prog:Program} {w:World} {A:Around} {E:YA} {s:Shared}
end
end L2
namespace L2
open PySem PySem.Spec PyProof.Rows
section
variable {X:Cx} {jb:YC} {O : St} {H:Hp} {s:Shared} {a:Addr} {kvs:YM} {o:Obj}
end
section
variable {a l:Addr} {o:Obj} {kvs:YM} {g:TG} {tb:TS} {D:Ends} {O : St} {H:Hp} {tt:TT} {te tk tv:TE} {Q:VK}
end
open PySem.W (KasT kas_asc kas_desc kas_rev kas_tail3 kas_descPart kas_count kas_place kas_bin kas_sort)
def Pm (n:Nat) (p:Array Nat):Prop:=p.toList.Perm (List.range n)
theorem Pm.lt {n:Nat} {p:Array Nat} (h:Pm n p) (n0:0 < n) (i:Nat):p.getD i 0 < n:=by
 by_cases hi:i < p.size
 ·have e:p.getD i 0=p[i]:=by simp[hi]
  rw[e];have hm:p[i]∈p.toList:=by simp
  exact List.mem_range.mp (h.mem_iff.mp hm)
 ·have e:p.getD i 0=0:=by simp[hi]
  rw[e];exact n0
section
variable {n:Nat} (n0:0 < n)
include n0
end
section
variable {prog:Program} {w:World} {A:Around} {E:YA} {s:Shared}
end
theorem XJ {h:Heap} {a:Addr} {m m':YB} (x:h.Ns a m) (y:h.Ns a m'):m=m':=by
 obtain⟨o,es,ep,h1,h2,_,h3⟩:=x;obtain⟨o',es',ep',g1,g2,_,g3⟩:=y;rw[h1] at g1;cases g1;rw[h2] at g2;cases g2
 funext k
 rw[<-h3,<-g3]
theorem range_getD {α : Type} (d:α) (vs:List α):(List.range vs.length).map (λi=>vs.getD i d)=vs:=by
 apply List.ext_getElem
 ·simp
 ·intro i h1 h2;simp[h2]
end L2
namespace L2
open PySem PySem.Spec PyProof.Rows
open PySem.W (KasT kas_asc kas_desc kas_rev kas_tail3 kas_descPart kas_count kas_place kas_bin kas_sort)
section
variable {n:Nat} {ky:Nat->Int}
def Gk (ky:Nat->Int) (p:Array Nat) (i:Nat):Int:=ky (p.getD i 0)
def Inj (n:Nat) (ky:Nat->Int):Prop:=∀i j,i < n->j < n->ky i=ky j->i=j
def ZQ (ky:Nat->Int) (p:Array Nat) (m:Nat):Prop:=∀i,i+1 < m->Gk ky p i < Gk ky p (i+1)
def Tw (ky:Nat->Int) (p:Array Nat) (m:Nat):Prop:=∀i j,i < j->j < m->Gk ky p i < Gk ky p j
theorem ZQ.all {p:Array Nat} {m:Nat} (h:ZQ ky p m):Tw ky p m:=λi j hij hj=>by
 induction j with
 | zero=>omega
 | succ j ih=>
  have h1:=h j hj;by_cases e:i=j
  ·rw[e];exact h1
  ·exact Int.lt_trans (ih (by omega) (by omega)) h1
theorem Zd {α : Type} {l:List α} (nd:l.Nodup) {i j:Nat} (hi:i < l.length) (hj:j < l.length) (e:l[i]=l[j]):i=j:=by
 rcases Nat.lt_trichotomy i j with h | h | h
 ·exact absurd e (Qah.mp nd i j hi hj h)
 ·exact h
 ·exact absurd e.symm (Qah.mp nd j i hj hi h)
theorem Pm.size {p:Array Nat} (h:Pm n p):p.size=n:=by
 have:=List.Perm.length_eq h;simpa using this
theorem Pm.ne (hi:Inj n ky) {p:Array Nat} (h:Pm n p) {i j:Nat} (a:i < n) (b:j < n) (ne:i≠j):Gk ky p i≠Gk ky p j:=λe=>by
 have n0:0 < n:=by omega
 have hs:=h.size;have e:=hi _ _ (h.lt n0 i) (h.lt n0 j) e;have nd:p.toList.Nodup:=(List.Perm.nodup_iff h).mpr List.nodup_range;have e1:p.getD i 0=p.toList[i]'(by simp[hs,a]):=by simp[hs,a]
 have e2:p.getD j 0=p.toList[j]'(by simp[hs,b]):=by simp[hs,b]
 rw[e1,e2] at e;exact ne (Zd nd _ _ e)
theorem Tw.list {p:Array Nat} (h:Pm n p) (R:Tw ky p n):(p.toList.map ky).Pairwise (· < ·):=by
 have hs:=h.size;rw[Qah];intro i j hi hj hij;have hi':i < n:=by simpa [hs] using hi
 have hj':j < n:=by simpa [hs] using hj
 have:=R i j hij hj';unfold Gk at this;have e1:p.getD i 0=p[i]'(by omega):=by simp[hs,hi']
 have e2:p.getD j 0=p[j]'(by omega):=by simp[hs,hj']
 rw[e1,e2] at this;simpa using this
end
section
variable {prog:Program} {w:World} {A:Around} {s:Shared}
end
end L2
namespace PySem
open Sem (wp)
open AutoSeq1 (wpAny_loadPart')
section
variable {prog:Program} {w:World} {A:Around} {E:YA} {s:Shared}
theorem Nt {e it l:Addr} {i:Nat} {j:Int} {items:Array Value} {old:Value} {Q:Option Value->Shared->Prop} (hh:A.handled=none) (he:IsEnum s.heap e it j old) (hit:s.heap.IsListIter it l i) (hl:s.heap.IsList l items) (hx:items[i]?=none)
  (hQ:∀h',Heap.ExtBut it s.heap h'->Q none { s with heap:=h' }):wpAny (model prog w) A (pyNext (.ref e)) Q E s:=by
 have hT:s.TypeIs (.ref e) "enumerate":=⟨_,he,rq⟩;unfold pyNext;refine Qcd (wpAny_attempt (Qao (name:=Str.ofString "__next__") hT F.slot_enumerate_next (Qbo F.slot_enumerate_next hT F.entry_enumerate_next ?_ (F.args_enumerate_next_1 _))));show wpAny _ _ (field (.ref e) 2 >>= _) _ _ _;refine Qcd (Qcc he rfl (x:=.ref it) rfl (Qcd (wpAny_nextOf_list_end hh hit hl hx λh' x he' hx'=>?_)));obtain⟨o,ho,hc⟩:=hx';exact Qcd (wpAny_isInstance (T:="StopIteration") (b:=true) ⟨o,ho,hc⟩ isSubtype_stop (Qce (hQ _ he')))
end
end PySem
namespace L2
open PySem PySem.Spec PyProof.Rows
def JR (K:YD) (a:Addr) (lo:Nat):It:=
 ⟨λi H=>∃xs x,SqL K H a xs/\xs[i]?=some x,λi H v H'=>∃p x,H p=none/\v=.ref p/\H'=upd H p (.tup [.int ((lo+i:Nat):Int),x])/\∀xs,SqL K H a xs->xs[i]?=some x,λi H=>∃xs,SqL K H a xs/\xs.length<=i⟩
theorem RP {P:Program} {w:World} {K:YD} {elts:YJ} {k:Nat} {pos:Pos} (a e it:Addr) (lo:Nat) (nei:e≠it):Turn P w K (.Tuple elts k pos) (JR K a lo) [e,it] e (λi h=>(∃old,IsEnum h e it ((lo+i:Nat):Int) old)/\h.IsListIter it a i) where
 mem:=by simp
 obj:=λi h st b hb=>by
  obtain⟨⟨old,he⟩,o,ho,hc,hd⟩:=st;rcases QbL.mp hb with rfl | hb
  ·exact⟨_,he,λv z=>by cases (show Data.fields _=Data.cell v from z)⟩
  ·have:b=it:=by simpa using hb
   subst this;exact⟨o,ho,λv z=>by rw[hd] at z;cases z⟩
 keep:=λi h h' st k=>by
  obtain⟨⟨old,he⟩,hi⟩:=st;exact⟨⟨old,k e (by simp) _ he⟩,hi.at λo q=>k it (by simp) o q⟩
 item:=by
  intro X hP hw hK hc i jb s O H E I hf st hg;subst hP hw hK;obtain⟨xs,x,hq,hx⟩:=hg;obtain⟨its,rv,p,hz⟩:=I.list hq;obtain⟨u,hu,ru⟩:=rv.get hx;obtain⟨⟨old,he⟩,hit⟩:=st;have hts:s.heap.IsList a its.toArray:=p.isList;have ane:a≠e:=λz=>by
   obtain⟨o,ho,hcl,_⟩:=hts;rw[z,he] at ho;cases ho;injection hcl with q;exact absurd q (by decide)
  have ani:a≠it:=λz=>by
   obtain⟨o,ho,hcl,_⟩:=hts;obtain⟨o',ho',hcl',_⟩:=hit;rw[z,ho'] at ho;cases ho;rw[hcl'] at hcl;injection hcl with q;exact absurd q (by decide)
  have hlt:i < its.toArray.size:=by
   have:=(Qaf.mp hu).1;simpa using this
  have D:=(Draws.list (prog:=X.prog) (w:=X.w) (A:=X.A.in1) (I.ok.hd hc) it a ani its.toArray).from lo;refine wpAny_pyNext_enum_itemD D he ⟨i,rq,QbW hlt,hit,hts⟩ (by omega) nei (by simp[nei,ane.symm]) λy h1 tk hP ho hst hT hsz hk=>?_;obtain⟨i',ei,hy⟩:=hP;have:i'=i:=by omega
  subst this;have ey:y=u:=by
   have h2:its.toArray[i']?=some u:=by simpa using hu
   rw[h2] at hy;exact (Qby hy).symm
  subst ey;refine⟨_,rq,wpAny_letOwnedTupleGo_enum ho λh2 he2 hs2=>?_⟩;have hlt2:s.heap.objs.size≠e:=QbX (QbR he);have hT2:h2.get? s.heap.objs.size=some { cls:=.type "tuple",data:=.seq #[.int ((lo+i':Nat):Int) tk,y] }:=(hs2.2 _ hlt2).trans hT;have new:BX X.prog X.w (upd H s.heap.objs.size (.tup [.int ((lo+i':Nat):Int),x])) h2 s.heap.objs.size (.tup [.int ((lo+i':Nat):Int),x]):=
   ⟨by show 2<=sizeLine;decide,[.int ((lo+i':Nat):Int) tk,y],.cons ⟨tk,rq⟩ (.cons ru .nil),_,hT2,rq,0,rq⟩
  have I1:=I.NK (h':=h2) (t':=tk+1) (QbZ _) (λb q hb z=>(hs2.2 b (λw=>hb (by simp[w]))).trans (hk b q (λw=>hb (by simp[w])) (λw=>hb (by simp[w])) z)) hf new;refine⟨.ref s.heap.objs.size,_,I1,rq,⟨s.heap.objs.size,x,I.hok.fresh (QbZ _),rq,rq,λys hy'=>by rw[I.Qa hy' hq];exact hx⟩,⟨⟨y,?_⟩,?_⟩,λb hb=>?_⟩
  ·have:=he2;rw[show ((lo+(i'+1):Nat):Int)=((lo+i':Nat):Int)+1 by omega];exact this
  ·obtain⟨i2,e2,_,st2,_⟩:=hst;have:i2=i'+1:=by omega
   subst this;exact st2.at λo q=>(hs2.2 it (Ne.symm nei)).trans q
  ·have hb':b < s.heap.objs.size:=by
    rcases QbL.mp hb with rfl | hb
    ·exact QbR he
    ·have:b=it:=by simpa using hb
     subst this;obtain⟨o,ho',_⟩:=hit;exact QbR ho'
   rw[Aw (QbS hb')];exact (hf b hb).1
 done:=by
  intro X hP hw hK hc i jb s O H E I hf st hg;subst hP hw hK;obtain⟨xs,hq,hx⟩:=hg;obtain⟨its,rv,p,hz⟩:=I.list hq;obtain⟨⟨old,he⟩,hit⟩:=st;have hl:=rv.length;exact Nt (I.ok.hd hc) he hit p.isList (by simp;omega) λh' eb=>⟨rq,I.QV (t':=s.toks) (λb o hb q=>eb b o (λz=>hb (by simp[z])) q) hf⟩
 self:=λ_ _ _ _ _ st h=>let ⟨⟨_,he⟩,_⟩:=st;wpAny_pyIter_enum he h
section
variable {X:Cx}
theorem Wy {jb:YC} {O : St} {H:Hp} {s:Shared} {R:It->Hp->Prop} {E:YA} {elts:YJ} {k:Nat} {pos:Pos} {a:Addr} {lo:Nat} {tk:Nat} (I:Inv X jb O H s) (q:R (JR X.K a lo) H) :
  wpAny (model X.prog X.w) X.A (pyIter (.ref (s.heap.objs.size+1))) (PIE X jb O (.Tuple elts k pos) R) E
   { s with heap:=(s.heap.push { cls:=.type "list_iterator",data:=.fields #[.ref a,.int 0 0] }).push { cls:=.type "enumerate",data:=.fields #[.none,.bool false,.ref s.heap.objs.size,rawInt (lo:Int),.none,.none] },toks:=tk }:=by
 have hz:(s.heap.push { cls:=.type "list_iterator",data:=.fields #[.ref a,.int 0 0] }).objs.size=s.heap.objs.size+1:=QbI ..;have he:IsEnum ((s.heap.push { cls:=.type "list_iterator",data:=.fields #[.ref a,.int 0 0] }).push { cls:=.type "enumerate",data:=.fields #[.none,.bool false,.ref s.heap.objs.size,rawInt (lo:Int),.none,.none] }) (s.heap.objs.size+1) s.heap.objs.size (lo:Int) .none:=by
  have:=QaG (s.heap.push { cls:=.type "list_iterator",data:=.fields #[.ref a,.int 0 0] }) (o:={ cls:=.type "enumerate",data:=.fields #[.none,.bool false,.ref s.heap.objs.size,rawInt (lo:Int),.none,.none] }) rfl;rw[hz] at this;exact this
 refine wpAny_pyIter_enum he ⟨s.heap.objs.size+1,[s.heap.objs.size+1,s.heap.objs.size],_,_,H,rq,I.kept (t':=tk) λb o e=>Qas _ (Qas _ e),RP a (s.heap.objs.size+1) s.heap.objs.size lo (Nat.succ_ne_self _),⟨⟨.none,he⟩,⟨_,Qas _ (QaG _ rfl),rq,rq⟩⟩,λb hb=>?_,q⟩;have hb':s.heap.objs.size<=b:=by
  simp only[QbL,Qbq,or_false] at hb;rcases hb with rfl | rfl
  ·exact Nat.le_succ _
  ·exact QbZ _
 exact I.Nq hb' (I.hok.fresh hb')
end
section
variable {X:Cx}
def Zm (K:YD) (lo:Nat) (tl:TE):TI:=fun O H R=>tl O H λx H1=>∃a,x=.ref a/\(∃xs,SqL K H1 a xs)/\R (JR K a lo) H1
theorem QL {jb:YC} {O : St} {H:Hp} {s:Shared} {R:It->Hp->Prop} {elts:YJ} {k:Nat} {pos:Pos} {a:Addr} {xs:YG} (I:Inv X jb O H s) (hq:SqL X.K H a xs) (q:R (JR X.K a 0) H) :
  wpAny (model X.prog X.w) X.A (call (.type "enumerate") [.ref a]) (λv s1=>wpAny (model X.prog X.w) X.A (pyIter v) (PIE X jb O (.Tuple elts k pos) R) X.xe s1) X.xe s:=by
 obtain⟨its,rv,p,hz⟩:=I.list hq;obtain⟨⟨c,dct,dt,sl⟩,hl,hc,n,hd⟩:=p.isList;replace hc:c=.type "list":=hc;replace hd:dt=.seq its.toArray n:=hd;subst hc hd;refine callType_new F.called_enumerate (by decide) (F.typeCall_enumerate_1 _) (F.newCall_enumerate_1 _) (λobj=>F.args_object_init_2 obj _) F.entry_enumerate_new (meets_enumerate_newL a its.toArray n dct sl) ⟨hl,?_⟩;have hz:(s.heap.push { cls:=.type "list_iterator",data:=.fields #[.ref a,.int 0 0] }).objs.size=s.heap.objs.size+1:=QbI ..;show _/\_;refine⟨⟨_,QaG _ rfl,rq⟩,?_⟩;rw[hz];exact Wy (lo:=0) (tk:=s.toks) I q
end
section
variable {X:Cx}
theorem Uo {x:Expr} {tx:TE} {p pos tp:Pos} {elts:YJ} {k:Nat} (hg:Gl X "enumerate") (hm:X.mg "enumerate"=none) (hl:PE X x tx) (hs:starEach [x] X.env=[(false,eval x X.env)]:=by rfl):PI X (.Tuple elts k tp) (.Call (.Name "enumerate" p) [x] [] pos) (Zm X.K 0 tx):=by
 intro jb s O H R I h;refine Call_ (Gx I hg hm boot_enumerate (Qac (thn ((Aa hl Ac (by rw[hs];rfl)) pos jb s O H (λvs H1=>match vs with | [v]=>∃a,v=.ref a/\(∃xs,SqL X.K H1 a xs)/\R (JR X.K a 0) H1 | _=>False) I h) λus s1 ⟨vs,H1,I1,r1,q1⟩=>?_) hs rfl))
 cases r1 with
 | nil=>exact False.elim q1
 | cons r rr=>
  cases rr with
  | nil=>
   obtain⟨a,e,⟨xs,hq⟩,q⟩:=q1;subst e;cases r;exact QL I1 hq q
  | cons _ _=>exact False.elim q1
theorem U7 {K:YD} {a:Addr} {lo:Nat} {xs:YG} {g:TG} {tb:TS} {D:Ends} {O : St} {H:Hp} (Pv:YN) (h0:Pv 0 O H) (hl:∀i O H',i<=xs.length->Pv i O H'->SqL K H' a xs)
  (hs:∀i x p O H',xs[i]?=some x->Pv i O H'->H' p=none->g (.ref p) O (upd H' p (.tup [.int ((lo+i:Nat):Int),x])) fun σ2 H2=>tb { D with nx:=Pv (i+1),ct:=Pv (i+1),bk:=D.nx } σ2 H2) (hd:∀ O H',Pv xs.length O H'->D.nx O H') :
  ∃W:Nat->YN,(∃m,W 0 m O H)/\∀i m O H,W i m O H ->
   ((JR K a lo).stop i H/\D.nx O H)\/((JR K a lo).go i H/\∃N:YO,(∀ σ' H',N σ' H'->∃m',m' < m/\W (i+1) m' σ' H')/\∀x H',(JR K a lo).yld i H x H'->g x O H' fun σ2 H2=>tb { D with nx:=N,ct:=N,bk:=D.nx } σ2 H2):=by
 refine⟨λi m O H=>m=xs.length - i/\i<=xs.length/\Pv i O H,⟨xs.length,by simp,Qca _,h0⟩,?_⟩;rintro i m O H ⟨rfl,hi,p⟩;have q:=hl i O H hi p;by_cases hlt:i < xs.length
 ·refine .inr ⟨⟨xs,xs[i],q,by simp[hlt]⟩,Pv (i+1),fun σ3 H3 p'=>⟨xs.length - (i+1),by omega,rq,hlt,p'⟩,λv H2 y=>?_⟩;obtain⟨pa,x,hn,rfl,rfl,hx⟩:=y;exact hs i x pa O _ (hx xs q) p hn
 ·have e:i=xs.length:=by omega
  subst e;exact .inl ⟨⟨xs,q,QbZ _⟩,hd O H p⟩
end
theorem VG {X:Cx} {N':YF} {src:List (Option Nat)} {sc:Scope} {kx vx tg iter:Expr} {ifs:YJ} {pos spos px:Pos} {wi:TI} {g:TG} {tt:TT} {tk tv:TE} {i:Nat} {x:Str} (hN:X.N.Nodup) (hi0:X.N[i]?=some x) (hx:Loc X.env.scope x) (hc:X.calm=true) (S:Cu X N' src sc)
  (hi:PI X tg iter wi) (hg:∀s3 H3 fp pn,PG (cxC X N' sc s3 H3 fp pn) tg g) (ht:∀s3 H3 fp pn,PF (cxC X N' sc s3 H3 fp pn) ifs tt) (hk:∀s3 H3 fp pn,PE (cxC X N' sc s3 H3 fp pn) kx tk) (hv:∀s3 H3 fp pn,PE (cxC X N' sc s3 H3 fp pn) vx tv)
  (hsw:swapsWith (.DictComp kx vx [⟨tg,iter,ifs,0⟩] sc pos) (some (.Name x px)) spos.line X.env=pure true:=by rfl) (hs:∀x,foldedSetIterable iter X.env x=pure x:=by intro _;rfl)
  (hf:X.fn x=true\/X.env.scope.names.lookup x=some .local:=by first | exact .inl rfl | exact .inr rfl | assumption) :
  PS X (.Assign [.Name x px] (.DictComp kx vx [⟨tg,iter,ifs,0⟩] sc pos) spos) (RV (T5 wi src g tt tk tv) (Oz i)):=by
 intro jb s O H D I h;rw[exec_Assign_Name_used _ _ _ _ hsw];refine Qcd (QbP (Qcd ?_));show wpAny _ X.A (do let _ <-comprehension (.DictComp kx vx [⟨tg,iter,ifs,0⟩] sc pos) sc X.env _ newDict false (eval iter X.env) (some (assign (.Name x px) X.env))) _ _ s
 refine Qcd (thn (Tj (R:=λ_ s'=>SP X jb D .next s') hc S hi hg ht hk hv hs I h λs3 H3 fp σ4 H4 s5 l I3 f3 J5 q=>?_) λ_ s' hq=>Qce (Qce hq));obtain⟨m,⟨oC,es,ep,hoC,r⟩,_⟩:=J5.loc;have I6:Inv X jb O H4 { s5 with heap:=s5.heap }:=Qm I3 f3 J5 (Heap.SameBut.refl _ _);have hCn:H4 s3.heap.objs.size=none:=J5.free;have neL:s3.heap.objs.size≠X.env.locals:=QbX I3.lt;have Wa:∀v,oC.data≠.cell v:=λv z=>by rw[r.1] at z;cases z
 have I7:Inv X (jb++[(s3.heap.objs.size,oC)]) O H4 s5:=I6.Ka λp hp=>(Qbu.mp hp).elim (λz=>I6.pin p (Qav _ z)) λz=>by
  cases QaS.mp z;exact⟨hoC,hCn,neL,I3.V7 (QbZ _),Wa⟩
 show wpAny _ X.A (assign (.Name x px) X.env (.ref l)) _ _ s5;refine wpAny_assign_Name (IK (v:=.ref l) I7 hN hi0 hx rfl (λs6 I8=>?_) hf);have k8:=(I8.pin (s3.heap.objs.size,oC) (Qav _ (Qav _ (QaS.mpr rfl)))).1;refine⟨m,⟨oC,es,ep,k8,r⟩,λh' sb=>⟨_,H4,?_,q⟩⟩;have I9:=I8.Fi;refine I9.turned (t':=s6.toks) (λb o hb e=>sb.extBut b o hb e) hCn neL (.inr I3.sz) (λy c e z=>?_) (λp hp z=>?_)
 ·obtain⟨v,o,ho,_⟩:=I3.cell y c e;exact absurd (QbR ho) (by rw[z];exact QbO _)
 ·have:=(I3.pin p hp).1;exact absurd (QbR this) (by rw[z];exact QbO _)
section
variable {X:Cx}
end
section
variable {a l:Addr} {g:TG} {tt:TT} {tk tv:TE} {Q:VK}
theorem QK {K:YD} {xs:YG} {σ0:St} {H0:Hp} (Pv:YN) (h0:Pv 0 σ0 H0) (hl:∀i O H',i<=xs.length->Pv i O H'->SqL K H' a xs)
  (hs:∀i x O H',xs[i]?=some x->Pv i O H'->g x O H' fun σ3 H3=>tt σ3 H3 λb H4=>if b=true then tk σ3 H4 λy H5=>tv σ3 H5 λz H6=>∃(kvs:YM) (k:Key),H6 l=some (.dK kvs)/\y=kV k/\kvs.length < sizeLine/\Pv (i+1) σ3 (upd H6 l (.dK (putK kvs k z))) else Pv (i+1) σ3 H4)
  (hd:∀ O H',Pv xs.length O H'->Q (.ref l) H'):OD (Itl K a) g tt tk tv Q σ0 H0 l:=by
 unfold OD;refine⟨λi m O H'=>m=xs.length - i/\i<=xs.length/\Pv i O H',⟨xs.length,by simp,Qca _,h0⟩,?_⟩;rintro i m O H' ⟨rfl,hi,p⟩;have q:=hl i O H' hi p;by_cases hlt:i < xs.length
 ·refine .inr ⟨⟨xs,xs[i],q,by simp[hlt]⟩,Pv (i+1),fun σ3 H3 p'=>⟨xs.length - (i+1),by omega,rq,hlt,p'⟩,λx H2 y=>?_⟩;obtain⟨rfl,y⟩:=y;exact hs i x O _ (y xs q) p
 ·exact .inl ⟨⟨xs,q,by omega⟩,by
   have:i=xs.length:=by omega
   subst this;exact hd _ _ p⟩
end
open PySem.W (KasT kas_asc kas_desc kas_rev kas_tail3 kas_descPart kas_count kas_place kas_bin kas_sort)
section
variable {prog:Program} {w:World} {A:Around} {s:Shared}
end
theorem Sq {X:Cx} {jb:YC} {O : St} {H:Hp} {s:Shared} {h2:Heap} {tk:Nat} {m:YB} {D:Addr} {c:Nat} {vs:YG} {its:YE} (I:Inv X jb O H s) (hn:s.heap.Ns X.env.locals m) (hn2:h2.Ns X.env.locals m) (kp2:∀b o,b≠X.env.locals->s.heap.get? b=some o->h2.get? b=some o) (nD:∀b o,s.heap.get? b=some o->b≠D)
  (oD:h2.get? D=some (seqObj "list" its.toArray c)) (rv:Vals vs its) (h64:vs.length < 64):H D=none/\Inv X jb O (upd H D (.lst vs)) { s with heap:=h2,toks:=tk }:=by
 have hDn:H D=none:=by
  cases e:H D with
  | none=>rfl
  | some v=>
   obtain⟨o,ho⟩:=(I.hok D v e).there;exact absurd rfl (nD D o ho)
 refine⟨hDn,?_⟩;have tr:∀(o:HO) b u,H b=some u->(upd H D o) b=some u:=λo b u e=>by rw[Aw (Ay e hDn)];exact e
 refine I.step (h':=h2) (g':=s.gens) (d':=s.drawn) (t':=tk) (ch:=[]) (λb hb=>absurd hb (by simp)) (λb u hb _ _ e _=>kp2 b u hb e) (λb u hb _ _ e _=>⟨u.slots,kp2 b u hb e⟩) (λb u _ e n=>by rw[Aw (nD b u e)];exact n)
  (λb u _ e=>?_) (λb ys e=>tr _ _ _ e) (λb u v e=>tr _ _ _ e) (λb ps e=>⟨#[],by rw[tr _ _ _ e];simp⟩) (λm' hm'=>by rw[XJ hm' hn];exact hn2) (λb u e=>?_) I.bare
 ·by_cases hb:b=X.env.locals
  ·obtain⟨o,_,_,ho,_⟩:=hn2;exact⟨o,by rw[hb];exact ho⟩
  ·exact⟨u,kp2 b u hb e⟩
 ·by_cases hb:b=D
  ·subst hb;rw[Ab] at e;cases e;exact⟨QbW (Bc (by omega)),_,c,rv,oD⟩
  ·rw[Aw hb] at e;refine (I.hok b u e).stay (λx v hx e1=>kp2 x v ?_ e1) (λx e1=>tr _ _ _ e1) λx ys e1=>tr _ _ _ e1;intro z;rcases hx with hx | hx
   ·rw[<-hx,z,I.free] at e;cases e
   ·rw[z,I.free] at hx;cases hx
end L2
namespace L2
open PySem PySem.Spec PyProof.Rows
theorem Le (xs:Array Nat) (j:Nat) (up:xs.toList.Pairwise (· < ·)):∀(f lo hi:Nat),hi - lo<=f->lo<=hi->hi<=xs.size->(∀i v,xs[i]?=some v->i < lo->v < j)->(∀i v,xs[i]?=some v->hi<=i->j<=v) ->
  ∃r,SetTable.below.go xs j f lo hi=r/\r<=xs.size/\(∀i v,xs[i]?=some v->i < r->v < j)/\(∀i v,xs[i]?=some v->r<=i->j<=v)
 | 0,lo,hi,h1,h2,h3,h4,h5=>⟨lo,rfl,by omega,h4,λi v e h=>h5 i v e (by omega)⟩
 | f+1,lo,hi,h1,h2,h3,h4,h5=>by
  unfold SetTable.below.go;by_cases c:lo < hi
  ·rw[if_pos c];dsimp only;have hm:(lo+hi) / 2 < xs.size:=by omega
   have em:xs[(lo+hi) / 2]?=some xs[(lo+hi) / 2]:=Qag hm;have eg:xs.getD ((lo+hi) / 2) j=xs[(lo+hi) / 2]:=by simp[Array.getD,hm]
   have mono:∀(a b:Nat) (u v:Nat),xs[a]?=some u->xs[b]?=some v->a < b->u < v:=λa b u v ea eb l=>by
    rw[<-Qaw] at ea eb;obtain⟨ha,rfl⟩:=Qaf.mp ea;obtain⟨hb,rfl⟩:=Qaf.mp eb;exact Qah.mp up a b ha hb l
   rw[eg];by_cases d:xs[(lo+hi) / 2] < j
   ·rw[if_pos d];refine Le xs j up f _ hi (by omega) (by omega) h3 (λi v e l=>?_) h5;by_cases q:i=(lo+hi) / 2
    ·subst q;rw[em] at e;cases e;exact d
    ·exact Nat.lt_trans (mono i _ v _ e em (by omega)) d
   ·rw[if_neg d];refine Le xs j up f lo _ (by omega) (by omega) (by omega) h4 (λi v e l=>?_);by_cases q:i=(lo+hi) / 2
    ·subst q;rw[em] at e;cases e;exact Nat.le_of_not_lt d
    ·exact QbT (Nat.le_of_not_lt d) (QbW (mono _ i _ v em e (by omega)))
  ·rw[if_neg c];exact⟨lo,rq,by omega,h4,λi v e h=>h5 i v e (by omega)⟩
theorem below_at {xs:Array Nat} {j:Nat} (up:xs.toList.Pairwise (· < ·)):SetTable.below xs j<=xs.size/\(∀i v,xs[i]?=some v->i < SetTable.below xs j->v < j)/\(∀i v,xs[i]?=some v->SetTable.below xs j<=i->j<=v):=by
 obtain⟨r,e,h⟩:=Le xs j up xs.size 0 xs.size (by omega) (by omega) (QbZ _) (λi v _ h=>absurd h (Nat.not_lt_zero _)) (λi v e h=>absurd (Qae.mp e).1 (by omega));have e':SetTable.below xs j=r:=e;rw[e'];exact h
def TOk (b:Bool) (t:SetTable):Prop:=t.led=b/\t.dummies=#[]/\(t.plain=true->t.place.toList.Pairwise (· < ·))
theorem TOk.fresh0 (b:Bool):TOk b (.fresh 0 0 b):=⟨rfl,rfl,λ_=>List.Pairwise.nil⟩
theorem TOk.stand {b:Bool} {t:SetTable} (h:TOk b t) (n:Nat):TOk b (t.standIn n):=⟨h.1,rfl,λz=>by cases z⟩
theorem TOk.off {b:Bool} {t:SetTable} (h:TOk b t):TOk b { t with plain:=false }:=⟨h.1,h.2.1,λz=>by cases z⟩
theorem Lw {t:SetTable} {b:Bool} (h:TOk b t) (ha:Nat->Int) (x:Int):∀(f:Nat) (p:SetTable.Probe),p.dummy=none->∀j d,SetTable.probe.go t ha x f p=some (.empty j d)->d=none/\t.slot j=.empty
 | 0,p,_,j,d,e=>by simp[SetTable.probe.go] at e
 | f+1,p,pd,j,d,e=>by
  unfold SetTable.probe.go at e;have adv:∀q:SetTable.Probe,q.dummy=none->(t.advance q).dummy=none:=λq hq=>by unfold SetTable.advance;split <;> exact hq
  split at e
  ·rename_i hs;cases e;exact⟨pd,hs⟩
  ·rename_i hs;exfalso;unfold SetTable.slot at hs;dsimp only at hs;rw[h.2.1] at hs;split at hs
   ·cases hs
   ·split at hs
    ·rename_i hh;simp[SetTable.has] at hh
    ·cases hs
  ·split at e
   ·cases e
   ·exact Lw h ha x f _ (adv p pd) j d e
theorem UW {xs:Array Nat} {j:Nat} (up:xs.toList.Pairwise (· < ·)) (ne:xs[SetTable.below xs j]?≠some j):(SetTable.insertAt xs (SetTable.below xs j) j).toList.Pairwise (· < ·):=by
 obtain⟨h1,h2,h3⟩:=below_at (j:=j) up;rw[SetTable.toList_insertAt];refine List.pairwise_append.mpr ⟨up.sublist (List.take_sublist _ _),List.pairwise_cons.mpr ⟨λv hv=>?_,up.sublist (List.drop_sublist _ _)⟩,λu hu v hv=>?_⟩
 ·obtain⟨i,hi⟩:=QaE hv;rw[List.getElem?_drop,Qaw] at hi;have q:=h3 _ v hi (Nat.le_add_right _ _);by_cases c:j=v
  ·subst c;by_cases z:i=0
   ·subst z;exact absurd hi ne
   ·exfalso;have hl:SetTable.below xs j < xs.size:=by have:=(Qae.mp hi).1;omega
    have e0:xs[SetTable.below xs j]?=some xs[SetTable.below xs j]:=Qag hl;have q0:=h3 _ _ e0 (QbZ _);rw[<-Qaw] at e0 hi;obtain⟨a1,a2⟩:=Qaf.mp e0;obtain⟨b1,b2⟩:=Qaf.mp hi;have:=Qah.mp up _ _ a1 b1 (by omega);omega
  ·omega
 ·obtain⟨i,hi⟩:=QaE hu;have hil:i < SetTable.below xs j:=by
   have:=(Qaf.mp hi).1;rw[Qbk] at this;omega
  rw[List.getElem?_take_of_lt hil,Qaw] at hi;have uj:=h2 i u hi hil;rcases QbL.mp hv with rfl | hv
  ·exact uj
  ·obtain⟨k,hk⟩:=QaE hv;rw[List.getElem?_drop,Qaw] at hk;exact QaR uj (h3 _ v hk (Nat.le_add_right _ _))
theorem TOk.Uj {b:Bool} {t:SetTable} (h:TOk b t) {j:Nat} (e:t.slot j=.empty):TOk b (t.put j).1:=by
 refine⟨h.1,?_,λpl=>?_⟩
 ·show (if SetTable.has t.dummies j=true then SetTable.eraseAt t.dummies (SetTable.below t.dummies j) else t.dummies)=#[]
  rw[h.2.1];have:SetTable.has (#[]:Array Nat) j=false:=by simp[SetTable.has]
  rw[this];rfl
 ·refine UW (h.2.2 pl) λz=>?_;unfold SetTable.slot at e;dsimp only at e;rw[z] at e;simp at e
theorem TOk.lay {b:Bool} {t:SetTable} (h:TOk b t) (es:Array (Int×Value)) (k:Int) (x:Value):TOk b (layNew t es k x).2.1:=by
 unfold layNew;split
 ·rename_i slot wd hf;dsimp only;have key:t.slot slot=.empty:=by
   unfold SetTable.freeSlot at hf;split at hf
   ·rename_i j d hp;obtain⟨rfl,hs⟩:=Lw h _ _ _ _ rfl j d hp;cases hf;exact hs
   ·cases hf
  unfold SetTable.orStandIn;split
  ·exact h.Uj key
  ·exact (h.Uj key).stand _
 ·exact h.stand _
theorem TOk.Z8 {b:Bool} {t:SetTable} (h:TOk b t) (es:Array (Int×Value)) (n:Nat):TOk b (relayAll t es n).2.1:=by
 unfold relayAll;split
 ·rename_i t' order hr;dsimp only;split
  ·dsimp only;unfold SetTable.relaid SetTable.laid at hr;rw[Option.bind_eq_bind] at hr;obtain⟨owner,_,e⟩:=Option.bind_eq_some_iff.mp hr;have e':=Qby e;cases e';refine⟨h.1,rq,λ_=>?_⟩;dsimp only;have:∀(l:List Nat) (g:Nat->Option (Nat×Nat)),(∀j p,g j=some p->p.1=j)->((l.filterMap g).map (·.1)).Sublist l:=by
    intro l g hg
    induction l with
    | nil=>exact .slnil
    | cons a l ih=>
     rw[List.filterMap_cons];split
     ·exact ih.cons _
     ·rename_i p hp;rw[QbM,hg a p hp];exact ih.cons₂ _
   refine List.Pairwise.sublist (this _ _ λj p hp=>?_) List.pairwise_lt_range;obtain⟨v,_,rfl⟩:=Qat.mp hp;rfl
  ·exact h.stand _
 ·exact h.stand _
section
variable {prog:Program} {w:World} {KT:Type} [DecidableEq KT] (kn:KeyKind prog w KT)
def SetT (b:Bool) (h:Heap) (a:Addr) (S:KT->Bool) (n:Nat):Prop:=
 ∃ob es ep t,(h.get? a=some ob/\ob.ExactSet/\ob.data=.set es ep t)/\(ElemsOf kn es.toList/\∀k,S k=true ↔ ∃e∈es.toList,kn.is k e.2=true)/\(es.size < scanBound/\t.fits es.size=true/\es.size=n)/\TOk b t
variable {kn}
variable {A:Around} {E:YA} {s:Shared}
theorem SetT.at {b:Bool} {h h':Heap} {a:Addr} {S:KT->Bool} {n:Nat} (z:SetT kn b h a S n) (k:∀o,h.get? a=some o->h'.get? a=some o):SetT kn b h' a S n:=
 let ⟨ob,es,ep,t,⟨g1,g2⟩,g3⟩:=z
 ⟨ob,es,ep,t,⟨k _ g1,g2⟩,g3⟩
theorem SetT.stored {b:Bool} {h:Heap} {a:Addr} {ob:Obj} {es:Array (Int×Value)} {ep:Nat} {t:SetTable} (g1:h.get? a=some ob) (g2:ob.ExactSet) (g3:ob.data=.set es ep t)
  {es':Array (Int×Value)} {t':SetTable} {S':KT->Bool} (k1:ElemsOf kn es'.toList) (k2:∀k,S' k=true ↔ ∃e∈es'.toList,kn.is k e.2=true) (k3:es'.size < scanBound) (k4:t'.fits es'.size=true) (k5:TOk b t') :
  (h.update a (Obj.putSet es' t')).get? a=some { ob with data:=.set es' (ep+1) t' }/\SetT kn b (h.update a (Obj.putSet es' t')) a S' es'.size:=by
 obtain⟨q,_⟩:=SetOf_store (knd:=kn) g1 g2 g3 k1 k2 k3 k4;exact⟨q,_,es',ep+1,t',⟨q,g2,rq⟩,⟨k1,k2⟩,⟨k3,k4,rq⟩,k5⟩
theorem Oq {b:Bool} {g:Bool->Sem Unit} (hg:∀(c:Bool) (s₁ : Shared) (Z:YH),Z () s₁->wpAny (model prog w) A (g c) Z E s₁)
  {a:Addr} {ob:Obj} {es:Array (Int×Value)} {ep:Nat} {t:SetTable} (g1:s.heap.get? a=some ob) (g2:ob.ExactSet) (g3:ob.data=.set es ep t)
  {es1:Array (Int×Value)} {t1:SetTable} {S':KT->Bool} (k1:ElemsOf kn es1.toList) (k2:∀k,S' k=true ↔ ∃e∈es1.toList,kn.is k e.2=true) (k3:es1.size < scanBound) (k4:t1.fits es1.size=true) (k5:TOk b t1) {wd:Bool} {R:Option Bool->Shared->Prop}
  (h:∀h',Heap.SameBut a s.heap h'->SetT kn b h' a S' es1.size->R (some true) { s with heap:=h' }) :
  wpAny (model prog w) A (do
    storeSet a es1 t1
    if (!wd&&t1.tooFull)=true then do
      g (relayAll t1 es1 (SetTable.grown es1.size)).2.2
      storeSet a (relayAll t1 es1 (SetTable.grown es1.size)).1 (relayAll t1 es1 (SetTable.grown es1.size)).2.1
      pure (some true)
     else pure (some true)) R E s:=by
 refine Qcd (wpAny_storeSet_of g1 g3 ?_ (fits_of_scanBound k3));obtain⟨o1,z1⟩:=SetT.stored g1 g2 g3 k1 k2 k3 k4 k5;have m1:=QaJ s.heap a (Obj.putSet es1 t1);split
 ·have pm:=relayAll_perm t1 es1 (SetTable.grown es1.size);have ft:=relayAll_fits t1 es1 (SetTable.grown es1.size);have tk:=k5.Z8 es1 (SetTable.grown es1.size);generalize relayAll t1 es1 (SetTable.grown es1.size)=RL at pm ft tk ⊢;obtain⟨es2,t2,gv⟩:=RL;dsimp only at pm ft tk ⊢;have l1:ElemsOf kn es2.toList:=k1.perm pm;have l2:∀k,S' k=true ↔ ∃e∈es2.toList,kn.is k e.2=true:=λk=>(k2 k).trans ⟨λ⟨e,he,q⟩=>⟨e,pm.mem_iff.mpr he,q⟩,λ⟨e,he,q⟩=>⟨e,pm.mem_iff.mp he,q⟩⟩;have sz:es2.size=es1.size:=by rw[<-QaH,pm.length_eq,QaH]
  have l3:es2.size < scanBound:=sz ▸ k3;refine Qcd (hg gv _ _ ?_);refine Qcd (wpAny_storeSet_of o1 rfl ?_ (fits_of_scanBound l3));obtain⟨_,z2⟩:=SetT.stored o1 g2 rfl l1 l2 l3 ft tk;exact Qce (h _ (m1.trans (QaJ _ a _)) (sz ▸ z2))
 ·exact Qce (h _ m1 z1)
theorem fC {b:Bool} {a:Addr} {S:KT->Bool} {n:Nat} {k:KT} {x:Value} {Q:Bool->Shared->Prop} (kx:kn.is k x=true) (sx:x.scannable=true) (z:SetT kn b s.heap a S n) (room:n+1 < scanBound)
  (h:∀h',Heap.SameBut a s.heap h'->SetT kn b h' a (λk'=>S k' || decide (k'=k)) (if S k then n else n+1)->Q (!S k) { s with heap:=h' }) :
  wpAny (model prog w) A (setAddHashed a x (kn.hash k)) Q E s:=by
 obtain⟨ob,es,ep,t,⟨g1,g2,g3⟩,⟨c1,c2⟩,⟨c3,c4,rfl⟩,c5⟩:=z;unfold setAddHashed setAddHashedIn;refine QbN (Qcd (Qbf g1 g3 c4 ?_));dsimp only;rw[byScan_of sx c3 c1];simp only[↓reduceIte];unfold setAddByScan;refine Qcd (Qcd (wpAny_rule (Qcd (wpAny_setScan_of kx g1 g3 c4 c1 ?_))));cases fnd:es.toList.findIdx? (λe=>kn.is k e.2) with
 | some i=>
  dsimp only;obtain⟨hi,pi,_⟩:=List.findIdx?_eq_some_iff_getElem.mp fnd;have Sk:S k=true:=(c2 k).mpr ⟨es.toList[i],List.getElem_mem hi,pi⟩;refine Qce (Qce ?_);have u:=h s.heap (Heap.SameBut.refl a s.heap) ⟨ob,es,ep,t,⟨g1,g2,g3⟩,⟨c1,λk'=>by
   rw[Bool.or_eq_true,decide_eq_true_eq,<-c2 k'];exact⟨λq=>q.elim id λe=>e ▸ Sk,.inl⟩⟩,⟨c3,c4,by rw[Sk];rfl⟩,c5⟩
  rw[Sk] at u;obtain⟨_,_,_,_,_⟩:=s;exact u
 | none=>
  dsimp only;have Sk:S k=false:=Bool.eq_false_iff.mpr λq=>by
   obtain⟨e,he,p⟩:=(c2 k).mp q;have:=List.findIdx?_eq_none_iff.mp fnd e he;rw[p] at this;cases this
  have gw:∀(c:Bool) {s₁ : Shared} {Z:YH},Z () s₁->wpAny (model prog w) A (match c with | true=>rule "set.scan.the-table-gave-way" | false=>pure ()) Z E s₁:=λc s₁ Z q=>by cases c <;> first | exact Qce q | exact wpAny_rule q
  have pm:=layNew_perm t es (kn.hash k) x;have ft:=layNew_fits t es (kn.hash k) x;have tk:=c5.lay es (kn.hash k) x;generalize layNew t es (kn.hash k) x=LN at pm ft tk ⊢;obtain⟨es1,t1,wd,gv⟩:=LN;dsimp only at pm ft tk ⊢;rw[Array.toList_push] at pm;have d1:ElemsOf kn es1.toList:=(c1.push kx sx).perm pm;have d2:∀k',(S k' || decide (k'=k))=true ↔ ∃e∈es1.toList,kn.is k' e.2=true:=mem_push_iff kx c2 pm;have sz:es1.size=es.size+1:=by rw[<-QaH,pm.length_eq,QaL,QaH];rfl
  have d3:es1.size < scanBound:=by rw[sz];exact room
  have fin:∀h',Heap.SameBut a s.heap h'->SetT kn b h' a (λk'=>S k' || decide (k'=k)) es1.size->Q true { s with heap:=h' }:=λh' m z=>by
   have u:=h h' m;rw[Sk] at u;exact u (sz ▸ z)
  refine Qcd (gw gv ?_);split
  ·refine Qcd ?_;rw[hashByValue_scannable 8 sx];refine Qce ?_;refine Oq ?_ g1 g2 g3 d1 d2 d3 ?_ (b:=b) ?_ ?_
   ·intro c s₁ Z q;cases c <;> first | exact Qce q | exact wpAny_rule q
   ·split
    ·exact ft
    ·exact SetTable.fits_plain_off ft
   ·split
    ·exact tk
    ·exact tk.off
   ·intro h' m z;dsimp only;exact Qce (fin h' m z)
  ·refine Qcd (Qce ?_);simp only[↓reduceIte];refine Oq ?_ g1 g2 g3 d1 d2 d3 ft tk ?_
   ·intro c s₁ Z q;cases c <;> first | exact Qce q | exact wpAny_rule q
   ·intro h' m z;dsimp only;exact Qce (fin h' m z)
end
def met {KT:Type} [DecidableEq KT] (val:Nat->KT):Nat->List KT
 | 0=>[]
 | i+1=>if val i∈met val i then met val i else met val i++[val i]
section
variable {KT:Type} [DecidableEq KT]
theorem Wb (val:Nat->KT) (i:Nat):met val (i+1)=if val i∈met val i then met val i else met val i++[val i]:=rfl
theorem Ni (val:Nat->KT):∀i,(met val i).length<=i
 | 0=>QbZ _
 | i+1=>by
  have ih:=Ni val i;unfold met;split
  ·omega
  ·rw[QaL];exact Nat.succ_le_succ ih
theorem P0 (val:Nat->KT):∀i,(met val i).Nodup
 | 0=>List.Pairwise.nil
 | i+1=>by
  unfold met;split
  ·exact P0 val i
  ·rename_i h;exact List.nodup_append.mpr ⟨P0 val i,by simp,λx hx y hy z=>by rw[QaS.mp hy] at z;exact h (z ▸ hx)⟩
theorem Nh (val:Nat->KT) (k:KT):∀i,k∈met val i ↔ ∃j,j < i/\val j=k
 | 0=>⟨(λh=>by cases h),λ⟨j,h,_⟩=>absurd h (Nat.not_lt_zero _)⟩
 | i+1=>by
  have ih:=Nh val k i;unfold met;split
  ·rename_i h;rw[ih];constructor
   ·refine λzz=>?_;obtain⟨j,h,e⟩:=zz;exact⟨j,Qbi h,e⟩
   ·intro ⟨j,hj,e⟩;by_cases c:j=i
    ·subst c;subst e;exact (Nh val _ j).mp h
    ·exact⟨j,by omega,e⟩
  ·rw[Qbu,QaS,ih];constructor
   ·rintro (⟨j,h,e⟩| e)
    ·exact⟨j,Qbi h,e⟩
    ·exact⟨i,Qbr _,e.symm⟩
   ·intro ⟨j,hj,e⟩;by_cases c:j=i
    ·subst c;exact .inr e.symm
    ·exact .inl ⟨j,by omega,e⟩
end
section
variable {prog:Program} {w:World} {KT:Type} [DecidableEq KT] {kn:KeyKind prog w KT} {A:Around} {E:YA} {s:Shared}
theorem SetT.dX {b:Bool} {h:Heap} {a:Addr} {S S':KT->Bool} {n n':Nat} (z:SetT kn b h a S n) (e:∀k,S k=S' k) (en:n=n'):SetT kn b h a S' n':=by
 have:S=S':=funext e;rw[<-this,<-en];exact z
theorem Ug {R:Result->Shared->Prop} {I:Addr} {fp wr:List Addr} {G:Array GenState->Array GenState->Prop} {n:Nat} {P:Nat->Value->Prop} {St:Nat->Shared->Prop} (Wk:WalksS prog w A.in1 I fp wr G n P St) (b:Bool) (S:Addr) (nS:S∉fp)
  (val:Nat->KT) (hv:∀i v,P i v->kn.is (val i) v=true/\v.scannable=true) (lim:n+1 < scanBound) :
  ∀(m i:Nat) (s:Shared),n - i=m->i<=n->St i s->SetT kn b s.heap S (λk=>decide (k∈met val i)) (met val i).length ->
   (∀s',Moved (S::wr) G s s'->SetT kn b s'.heap S (λk=>decide (k∈met val n)) (met val n).length->R (.ok (.ret .none)) s') ->
   codeAny (model prog w) A (.builtin "set.update.loop" ⟨[.ref S,.ref I],[]⟩) R s:=by
 have nw:S∉wr:=λq=>nS (Wk.sub _ q);have sub:∀c∈wr,c∈S::wr:=λc hc=>.tail _ hc;intro m
 induction m with
 | zero=>
  intro i s hm hi st z fin;obtain rfl:i=n:=by omega
  refine QbD PyProof.Rows.F.entry_set_update_loop ?_;rw[QaF PyProof.Rows.F.plain_set_update_loop _];show wpAny _ A.in1 (pyNext (.ref I) >>= _) _ _ s;refine Qcd (Wk.done s _ _ st λs1 mv=>?_);show wpAny _ A.in1 (ret Value.none) _ _ s1;exact Qce (fin s1 (mv.mono sub) (z.at λo e=>mv.heap S _ nw e))
 | succ m ih=>
  intro i s hm hi st z fin;have lt:i < n:=by omega
  refine QbD PyProof.Rows.F.entry_set_update_loop ?_;rw[QaF PyProof.Rows.F.plain_set_update_loop _];show wpAny _ A.in1 (pyNext (.ref I) >>= _) _ _ s;refine Qcd (Wk.item i s _ _ lt st λv s1 pv st1 mv=>?_);obtain⟨kv,sv⟩:=hv i v pv;have z1:=z.at λo e=>mv.heap S o nw e;show wpAny _ A.in1 (holding [v] (setAdd S v) >>= _) _ _ s1;refine Qcd (QbN ?_);unfold setAdd;refine QbN (Qcd (kn.pyHash kv ?_));have room:(met val i).length+1 < scanBound:=by have:=Ni val i;omega
  refine fC (s:={ s1 with toks:=s1.toks+1 }) kv sv z1 room λh2 sb z2=>?_;have z3:SetT kn b h2 S (λk=>decide (k∈met val (i+1))) (met val (i+1)).length:=by
   refine z2.dX (λk=>?_) ?_
   ·rw[QbC,Bool.or_eq_true,QaU,QaU,QaU];rw[Wb];split
    ·rename_i q;exact⟨λx=>x.elim id λe=>e ▸ q,.inl⟩
    ·rw[Qbu,QaS]
   ·show (if decide (val i∈met val i)=true then (met val i).length else (met val i).length+1)=(met val (i+1)).length
    by_cases q:val i∈met val i
    ·rw[if_pos (QbH q)];show _=(if val i∈met val i then met val i else met val i++[val i]).length
     rw[if_pos q]
    ·rw[if_neg (by simp[q])];show _=(if val i∈met val i then met val i else met val i++[val i]).length
     rw[if_neg q,QaL];rfl
  refine Qce ⟨plainId_quiet PyProof.Rows.F.plain_set_update_loop _,ih (i+1) _ (by omega) lt (Wk.frame _ s1 _ _ st1 (Nat.le_succ _) λc hc o e=>?_) z3 λs2 mv2 z4=>?_⟩
  ·rw[sb.2 c λq:c=S=>nS (q ▸ hc)];exact e
  ·refine fin s2 (Moved.trans Wk.gtrans ((mv.mono sub).then_heap (Nat.le_succ _) λc o hc e=>?_) mv2) z4;rw[sb.2 c λq:c=S=>hc (q ▸ .head _)];exact e
def DR (w:World):Obj:={ cls:=.type "set",dict:=none,data:=.set #[] 0 (.fresh 0 0 (!w.params.followText "set-order")) }
theorem QB (a:Value) {Z:YA} (h:Z (.ref s.heap.objs.size) { s with heap:=s.heap.push (DR w) }) :
  codeAny (model prog w) A (.call (.builtin "set.__new__") ⟨[.type "set",a],[]⟩) (wants Z E) s:=by
 refine codeAny_of_tree ?_;show wpAny _ A.in1 (checkBuiltinCall "set.__new__" ⟨[.type "set",a],[]⟩ >>= λ_=>again (.builtin "set.__new__" ⟨[.type "set",a],[]⟩)) _ _ s;refine Qcd (wpAny_of_eq (PySem.F.newCall_set_1 a) (Qce ⟨plainId_quiet PySem.F.plain_set_new _,QbD PySem.F.entry_set_new ?_⟩));rw[QaF PySem.F.plain_set_new _];unfold Builtin.«set.__new__»;unfold Builtin.Frozenset.newClass;have sf:=sub_set_self;obtain⟨hp,g,d,tk,os⟩:=s;dsimp only
 wp_walk
 refine Qbs (Qce ?_);dsimp only;simp only[newObj];exact Qcd (wpAny_alloc (Qce (Qce h)))
theorem Qy:isSubtype (.type "tuple") (.type "set")=pure false:=by rw[QbJ];kernel_rfl
theorem RW:isSubtype (.type "tuple") (.type "frozenset")=pure false:=by rw[QbJ];kernel_rfl
theorem NQ {T:String} {l:Addr} {n:Nat} {Q:YA} {P:Nat->Value->Prop} (hh:A.handled=none) (val:Nat->KT) (hv:∀i v,P i v->kn.is (val i) v=true/\v.scannable=true) (lim:n+1 < scanBound)
  (hT:s.TypeIs (.ref l) T) (t1:isSubtype (.type T) (.type "set")=pure false) (t2:isSubtype (.type T) (.type "frozenset")=pure false) (t3:(Value.type T == Value.type "dict")=false)
  (it:∀(s1:Shared),(∀o,s.heap.get? l=some o->s1.heap.get? l=some o)->∃(oI:Obj) (St:Nat->Heap->Prop),(∀(A:Around) (E:YA) (Q:YA),Q (.ref s1.heap.objs.size) { s1 with heap:=s1.heap.push oI }->wpAny (model prog w) A (pyIter (.ref l)) Q E s1) /\
   (∀A:Around,A.handled=none->l≠s1.heap.objs.size->Walks prog w A s1.heap.objs.size [s1.heap.objs.size,l] [s1.heap.objs.size] n P St)/\St 0 (s1.heap.push oI))
  (h:∀(h':Heap) (tk:Nat),SetT kn (!w.params.followText "set-order") h' s.heap.objs.size (λk=>decide (k∈met val n)) (met val n).length->(∀b o,b < s.heap.objs.size->s.heap.get? b=some o->h'.get? b=some o)->Q (.ref s.heap.objs.size) { s with heap:=h',toks:=tk }) :
  wpAny (model prog w) A (call (.type "set") [.ref l]) Q E s:=by
 obtain⟨ol,hol,hcl⟩:=hT;obtain⟨c,tl,hmro⟩:=PySem.F.called_set.mro;have hmade:=PySem.F.called_set.made;have hsub:=PySem.F.called_set.sub;refine wpAny_call (codeAny_of_tree ?_);show wpAny _ _ (callAny (.type "set") _) _ _ _;refine Qce ⟨Code.quiet_builtin _ (by trivial),QbD PySem.F.entry_type_call ?_⟩;rw[Around.under_plain (weight_type_call_type "set" [.ref l] []) rfl];have f1:=PySem.F.called_set.notType;have f2:=PySem.F.called_set.canCreate;have f3:=PySem.F.typeCall_set_1 (.ref l)
 repeat (any_goals (first | assumption | wp_step))
 refine QbY (QB (.ref l) (E:=E) (Z:=λv s1=>v=.ref s.heap.objs.size/\s1={ s with heap:=s.heap.push (DR w) }) ⟨rq,rq⟩) λr s1 hr=>?_;cases r with
 | error e=>exact hr
 | ok fl=>
  cases fl with
  | ret v=>
   obtain⟨rfl,rfl⟩:=hr;have hS:(s.heap.push (DR w)).get? s.heap.objs.size=some (DR w):=QaG _ rfl;have hTs:Shared.TypeIs { s with heap:=s.heap.push (DR w) } (.ref s.heap.objs.size) "set":=⟨_,hS,rq⟩;have f4:=PySem.F.called_set.init.lookup;have f5:=PySem.F.called_set.init.bind (.ref s.heap.objs.size)
   repeat (any_goals (first | assumption | wp_step))
   refine QbY (codeAny_call_builtin (R:=wants (λr s2=>r=.none/\∃h' tk,s2={ s with heap:=h',toks:=tk }/\SetT kn (!w.params.followText "set-order") h' s.heap.objs.size (λk=>decide (k∈met val n)) (met val n).length/\(∀b o,b < s.heap.objs.size->s.heap.get? b=some o->h'.get? b=some o)) E) PySem.F.called_set.init.plain PySem.F.entry_set_init (check_set_init_1 hTs ?_)) λr2 s2 hr2=>?_
   ·obtain⟨ocls,odict,odata,oslots⟩:=ol;have hcl:ocls=.type T:=hcl;subst hcl;have ho1:(s.heap.push (DR w)).get? l=some { cls:=.type T,dict:=odict,data:=odata,slots:=oslots }:=Qas _ hol;have hlS:l < s.heap.objs.size:=QbR hol;unfold DR at hS;unfold Builtin.«set.__init__»;unfold noKeywords;unfold Builtin.Frozenset.updateFrom;generalize ePI:pyIter=PI
    wp_walk
    subst ePI;have hh3:A.in1.in1.in1.handled=none:=by simp[hh]
    obtain⟨oI,St,hit,Wk,st⟩:=it { s with heap:=s.heap.push (DR w) } λo e=>Qas _ e;have nI:l≠(s.heap.push (DR w)).objs.size:=by rw[QbI];exact QbS (Qbi hlS)
    have W3:=Wk A.in1.in1.in1 hh3 nI;refine hit _ _ _ ?_;refine Qcd (wpAny_runValue ?_);have nS:s.heap.objs.size∉[(s.heap.push (DR w)).objs.size,l]:=by
     rw[QbI];simp only[QbL,Qbq,or_false,not_or];exact⟨QbS (Qbr _),QbX hlS⟩
    have hS2:((s.heap.push (DR w)).push oI).get? s.heap.objs.size=some (DR w):=Qas _ (QaG _ rfl);refine Ug W3.toS (!w.params.followText "set-order") s.heap.objs.size nS val hv lim (n - 0) 0 _ rfl (Qca _) st ?_ ?_
    ·exact⟨_,#[],0,_,⟨hS2,⟨rq,rq,rq⟩,rq⟩,⟨λe he=>by simp at he,λk=>by simp[met]⟩,⟨by unfold scanBound;decide,by rfl,rq⟩,TOk.fresh0 _⟩
    ·intro s2 mv z;obtain⟨h',g',d',tk',os'⟩:=s2;have e1:g'=s.gens:=mv.gens;have e2:d'=s.drawn:=mv.drawn;have e3:os'=s.os:=mv.os;subst e1 e2 e3;show wpAny _ _ _ _ _ _;refine Qce ?_;show wpAny _ _ (ret Value.none) _ _ _;refine Qce ⟨rq,h',tk',rq,z,λb o hb e=>?_⟩;have n1:b≠s.heap.objs.size:=QbS hb;have n2:b≠(s.heap.push (DR w)).objs.size:=by rw[QbI];exact QbS (Qbi hb)
     exact mv.heap b o (by simp only[QbL,Qbq,or_false,not_or];exact⟨n1,n2⟩) (Qas _ (Qas _ e))
   ·cases r2 with
    | error e=>exact hr2
    | ok fl2=>
     cases fl2 with
     | ret r=>
      obtain⟨rfl,h',tk,rfl,z,kp⟩:=hr2
      repeat (any_goals (first | assumption | wp_step))
      exact h _ _ z kp
     | _=>exact hr2.elim
  | _=>exact hr.elim
end
theorem Ef:Slot "set_iterator" "__next__" "set_iterator.__next__":=.of (owner:="set_iterator") (n:="__next__") (by rw[typeLookup_type,builtinLookup_eq_fast];kernel_rfl) (by trivial) (by trivial) (by trivial) (by first | exact .inl (by trivial) | exact .inr (by trivial)) (by rw[QbJ];kernel_rfl)
theorem IW:entryFor table "set_iterator.__next__"=some Builtin.«set_iterator.__next__»:=entryFor_of_tree (by kernel_rfl)
theorem Ud:Manifest.owners.lookup (String.ofList ("set_iterator".toList.reverse).reverse)=some Manifest.sig_set_iterator:=by kernel_rfl
theorem JZ (a:Value):argsOk "set_iterator.__next__" ⟨[a],[]⟩:=by
 unfold argsOk;rw[signature?_of (id:="set_iterator.__next__") (n:=("__next__".toList.reverse)) (o:=("set_iterator".toList.reverse)) (by kernel_rfl) Ud]
 kernel_rfl
theorem Vu:entryFor table "set.__iter__"=some Builtin.«frozenset.__iter__»:=entryFor_alias (id':="frozenset.__iter__") (by kernel_rfl) rfl (by trivial) (by kernel_rfl)
theorem Jk {α : Type}:∀{xs:List α} {i:Nat} (h:i < xs.length),(xs[i]::xs.eraseIdx i).Perm xs
 | x::xs,0,_=>List.Perm.refl _
 | x::xs,i+1,h=>(List.Perm.swap _ _ _).trans (List.Perm.cons _ (Jk (xs:=xs) (i:=i) (Nat.lt_of_succ_lt_succ h)))
section
variable {prog:Program} {w:World} {A:Around} {E:YA} {s:Shared}
theorem TJ {src:Source} {n:Nat} {Q:Nat->Shared->Prop} (hn:n≠0) (h:∀i,i < n->Q i { s with drawn:=s.drawn.bump src }):wpAny (model prog w) A (choose src n) Q E s:=fun Γ p hΓ=>by
 show n≠0/\_;exact⟨hn,h _ (Nat.mod_lt _ (Nat.pos_of_ne_zero hn))⟩
theorem Jq {α : Type}:∀(n:Nat) (xs:List α) (s:Shared) {Q:List α->Shared->Prop},xs.length=n->(∀ys d',ys.Perm xs->Q ys { s with drawn:=d' })->wpAny (model prog w) A (drawOrder n xs) Q E s
 | 0,[],s,Q,_,h=>Qce (by
   have:=h [] s.drawn (List.Perm.refl _);obtain⟨_,_,_,_,_⟩:=s;exact this)
 | 0,_::_,s,Q,e,h=>by cases e
 | n+1,[],s,Q,e,h=>by cases e
 | n+1,x::xs,s,Q,e,h=>by
  unfold drawOrder;refine Qcd (TJ (by simp) λi hi=>?_);rw[Qai hi];dsimp only;refine Qcd (Jq n ((x::xs).eraseIdx i) _ (by rw[List.length_eraseIdx_of_lt hi];simpa using e) λys d' pm=>Qce ?_);exact h _ d' (((List.Perm.cons _ pm)).trans (Jk hi))
theorem Gq {α : Type} (nx:Nat->Nat):∀(f k:Nat) (xs:List α) (out:Array α),xs.length=f->(pickOrder.go nx f k xs out).toList.Perm (out.toList++xs)
 | 0,k,[],out,_=>by
  show out.toList.Perm _;rw[Qbz]
 | 0,k,_::_,out,e=>by cases e
 | f+1,k,[],out,e=>by cases e
 | f+1,k,x::xs,out,e=>by
  have hi:nx k % (x::xs).length < (x::xs).length:=Nat.mod_lt _ (by simp);unfold pickOrder.go;rw[Qai hi];dsimp only;refine (Gq nx f (k+1) _ _ (by rw[List.length_eraseIdx_of_lt hi];simpa using e)).trans ?_;rw[Array.toList_push,Qbe];exact List.Perm.append_left _ (Jk hi)
def Ep (b:Bool) (h:Heap) (a:Addr) (es:Array (Int×Value)) (ep:Nat) (t:SetTable):Prop:=∃ob,h.get? a=some ob/\ob.ExactSet/\ob.data=.set es ep t/\t.fits es.size=true/\TOk b t
theorem Ep.at {b:Bool} {h h':Heap} {a:Addr} {es:Array (Int×Value)} {ep:Nat} {t:SetTable} (z:Ep b h a es ep t) (k:∀o,h.get? a=some o->h'.get? a=some o):Ep b h' a es ep t:=let ⟨ob,g1,g2⟩:=z;⟨ob,k _ g1,g2⟩
def Fq (h:Heap) (it a:Addr) (first:Value) (i n ep:Nat):Prop:=∃o,h.get? it=some o/\o.cls=.type "set_iterator"/\o.data=.fields #[first,rawInt i,.ref a,rawInt n,rawInt ep]
theorem Ws {r:Addr} {Q:Bool->Shared->Prop} (hT:s.TypeIs (.ref r) "set") (h:Q false s):wpAny (model prog w) A (Builtin.List.listLengthHint (.ref r)) Q E s:=by
 unfold Builtin.List.listLengthHint;refine Qcd (wpAny_specialOf hT PySem.F.slot_set_len.lookup ?_);generalize hid:("set.__len__":String)=q
 wp_delta
 rw[show splitId q=some ("set","__len__") by subst hid;decide +kernel];subst hid;refine Qcd (wpAny_isInstance (T:="set") (b:=true) hT (by rw[QbJ];kernel_rfl) ?_);refine wpAny_ite_split (λz=>absurd z (by decide)) λ_=>?_;exact wpAny_ite_split (λ_=>Qcd (wpAny_typeOf hT (Qce h))) λz=>absurd (by trivial) z
theorem Wi {b:Bool} {a:Addr} {es:Array (Int×Value)} {ep:Nat} {t:SetTable} {Q:YA} (R:Ep b s.heap a es ep t) (eb:b=!w.params.followText "set-order") (hsz:es.size < scanBound)
  (q1:(b=true->t.plain=true\/es.size<=1)->Q (.ref s.heap.objs.size) { s with heap:=s.heap.push { cls:=.type "set_iterator",data:=.fields #[rawInt 0,rawInt 0,.ref a,rawInt es.size,rawInt ep] } })
  (q2:∀(is:List Nat) d',b=true->is.Perm (List.range es.size)->Q (.ref (s.heap.objs.size+1)) { s with heap:=(s.heap.push { cls:=.type "tuple",data:=.seq (is.map λi:Nat=>rawInt (i:Int)).toArray }).push { cls:=.type "set_iterator",data:=.fields #[.ref s.heap.objs.size,rawInt 0,.ref a,rawInt es.size,rawInt ep] },drawn:=d' }):wpAny (model prog w) A (pyIter (.ref a)) Q E s:=by
 obtain⟨ob,g1,g2,g3,g4,g5⟩:=R;have T:s.TypeIs (.ref a) "set":=⟨ob,g1,g2.1⟩;refine wpAny_pyIter_slot T PySem.F.slot_set_iter (Qbo PySem.F.slot_set_iter T Vu ?_ (PySem.F.args_set_iter_1 _));have dr:setDrawn a=(do let (x,_,y) <-setState a;let c <-setsByText;return !c&&(!y.plain&&decide (x.size > 1))):=rfl
 have fin:∀(first:Value) (s1:Shared),Ep b s1.heap a es ep t->Q (.ref s1.heap.objs.size) { s1 with heap:=s1.heap.push { cls:=.type "set_iterator",data:=.fields #[first,rawInt 0,.ref a,rawInt es.size,rawInt ep] } } ->
   wpAny (model prog w) A.in1 (do let e <-setEpoch a;let v <-newFields "set_iterator" [first,rawInt 0,.ref a,rawInt (es.size:Int),rawInt (e:Int)];ret v)
    (λfin s'=>∃v,fin=Fin.done (Flow.ret v)/\∃T' r,s'.TypeIs v T'/\typeLookup (Value.type T') (Str.ofString "__next__")=pure (some r)/\Q v s') E s1:=λfirst s1 R1 hq=>by
  obtain⟨o1,k1,k2,k3,k4,k5⟩:=R1;refine Qcd (wpAny_setEpoch_of k1 k3 k4 ?_);unfold newFields
  wp_walk
  exact⟨_,rq,"set_iterator",_,⟨_,QaG _ rfl,rq⟩,Ef.lookup,hq⟩
 show wpAny _ _ (Builtin.Frozenset.slot0 "__iter__" _ >>= _) _ _ _;have sl:Builtin.Frozenset.slot0 "__iter__" { pos:=[Value.ref a] }=pure a:=by
  unfold Builtin.Frozenset.slot0;rfl
 rw[sl];refine Qcd (Qce ?_);dsimp only;unfold Builtin.Frozenset.sizeOf;refine Qcd (Qcd (wpAny_setEntries_of g1 g3 g4 (Qce ?_)));rw[dr];refine Qcd (Qcd (Qbf g1 g3 g4 ?_));dsimp only;unfold setsByText;refine Qcd (Qcd (Qbs (Qce ?_)));refine Qce ?_;have em:(model prog w).w.params.followText "set-order"=!b:=by rw[eb,Bool.not_not];rfl
 show wpAny _ _ (if (!(model prog w).w.params.followText "set-order"&&(!t.plain&&decide (es.size > 1)))=true then _ else _) _ _ _
 rw[em,Bool.not_not];by_cases c:(b&&(!t.plain&&decide (es.size > 1)))=true
 ·rw[if_pos c];rw[Qbp] at c;refine Qcd (Jq _ _ _ (Qbc) λis d' pm=>?_);refine Qcd (wpAny_newTuple ?_ ?_)
  ·refine fin _ _ ⟨ob,Qas _ g1,g2,g3,g4,g5⟩ ?_;have:=q2 is d' c.1 pm;rw[show (s.heap.push { cls:=.type "tuple",data:=.seq (is.map λi:Nat=>rawInt (i:Int)).toArray }).objs.size=s.heap.objs.size+1 from QbI ..]
   exact this
  ·first | (simp only[Qbt,pm.length_eq,Qbc];exact fits_of_scanBound hsz) | trace_state
 ·rw[if_neg c];refine Qcd (Qce (fin _ _ ⟨ob,g1,g2,g3,g4,g5⟩ (q1 λhb=>?_)));rw[hb,Bool.true_and,Qbp,Bool.not_eq_true',QaU] at c;cases hp:t.plain with
  | true=>exact .inl rfl
  | false=>exact .inr (by by_cases z:es.size > 1;exact absurd ⟨hp,z⟩ c;omega)
theorem PL {it a:Addr} {b:Bool} {es:Array (Int×Value)} {i ep:Nat} {sl:Nat} {t:SetTable} {Q:Option Value->Shared->Prop} {x:Value} {nx:Nat} (K:Fq s.heap it a (rawInt sl) i es.size ep) (R:Ep b s.heap a es ep t)
  (hx:∀(A:Around) (E:YA) (Z:Option (Value×Nat)->Shared->Prop),Z (some (x,nx)) s->wpAny (model prog w) A (setNext a sl i ep) Z E s)
  (q:∀h',Fq h' it a (rawInt nx) (i+1) es.size ep->Heap.SameBut it s.heap h'->Q (some x) { s with heap:=h' }):wpAny (model prog w) A (pyNext (.ref it)) Q E s:=by
 obtain⟨oi,hoi,ci,di⟩:=K;obtain⟨ob,g1,g2,g3,g4,g5⟩:=R;have T:s.TypeIs (.ref it) "set_iterator":=⟨_,hoi,ci⟩;obtain⟨Wm,S7,S8,Qe⟩:=oi;dsimp only at ci di;subst ci di;unfold pyNext;refine Qcd (wpAny_attempt (Qao (name:=Str.ofString "__next__") T Ef (Qbo Ef T IW ?_ (JZ _))));have e1:typeName (.type "set_iterator")=pure "set_iterator":=by unfold typeName;rw[find?_eq_fast];kernel_rfl
 unfold Builtin.«set_iterator.__next__»;generalize eSE:setEntries=SE;generalize eSN:setNext=SN at hx ⊢
 wp_walk
 subst eSE;refine Qcd (Qbf g1 g3 g4 ?_);refine Qce ?_;dsimp only [rawInt];simp only[Qbj,QaT,Qch,Qbb];refine Qcd (hx _ _ _ ?_)
 wp_walk
 have h1:=Qay (Obj.mapFields λx=>x.setIfInBounds 0 (Value.int (nx:Int) 0)) hoi rfl;have h2:=Qay (Obj.mapFields λx=>x.setIfInBounds 1 (Value.int ((i:Int)+1) 0)) h1 rfl;exact⟨_,rq,Qce (q _ ⟨_,h2,rq,rq⟩ ((QaJ ..).trans (QaJ ..)))⟩
theorem Ro {it a:Addr} {b:Bool} {es:Array (Int×Value)} {i ep:Nat} {sl:Nat} {t:SetTable} {Q:Option Value->Shared->Prop} (hh:A.handled=none) (K:Fq s.heap it a (rawInt sl) i es.size ep) (R:Ep b s.heap a es ep t)
  (hx:∀(A:Around) (E:YA) (Z:Option (Value×Nat)->Shared->Prop),Z none s->wpAny (model prog w) A (setNext a sl i ep) Z E s)
  (q:∀h',Heap.ExtBut it s.heap h'->Q none { s with heap:=h' }):wpAny (model prog w) A (pyNext (.ref it)) Q E s:=by
 obtain⟨oi,hoi,ci,di⟩:=K;obtain⟨ob,g1,g2,g3,g4,g5⟩:=R;have T:s.TypeIs (.ref it) "set_iterator":=⟨_,hoi,ci⟩;obtain⟨Wm,S7,S8,Qe⟩:=oi;dsimp only at ci di;subst ci di;unfold pyNext;refine Qcd (wpAny_attempt (Qao (name:=Str.ofString "__next__") T Ef (Qbo Ef T IW ?_ (JZ _))));have e1:typeName (.type "set_iterator")=pure "set_iterator":=by unfold typeName;rw[find?_eq_fast];kernel_rfl
 have hh1:A.in1.handled=none:=hh;unfold Builtin.«set_iterator.__next__»;generalize eSE:setEntries=SE;generalize eSN:setNext=SN at hx ⊢
 wp_walk
 subst eSE;refine Qcd (Qbf g1 g3 g4 ?_);refine Qce ?_;dsimp only [rawInt];simp only[Qbj,QaT,Qch,Qbb];refine Qcd (hx _ _ _ ?_)
 wp_walk
 unfold raiseNew
 wp_walk
 refine wpAny_of_eq isSubtype_stop ?_
 wp_walk
 exact q _ (((QaJ ..).extBut.push _).push _)
theorem V9 {it a tp:Addr} {b:Bool} {es:Array (Int×Value)} {i ep:Nat} {t:SetTable} {Q:Option Value->Shared->Prop} {is:List Nat} {pl:Nat} {e:Int×Value} (K:Fq s.heap it a (.ref tp) i es.size ep) (ht:s.heap.IsTuple tp (is.map λi:Nat=>rawInt (i:Int)).toArray) (R:Ep b s.heap a es ep t) (hi:is[i]?=some pl) (he:es[pl]?=some e)
  (q:∀h',Fq h' it a (.ref tp) (i+1) es.size ep->Heap.SameBut it s.heap h'->Q (some e.2) { s with heap:=h' }):wpAny (model prog w) A (pyNext (.ref it)) Q E s:=by
 obtain⟨oi,hoi,ci,di⟩:=K;obtain⟨ob,g1,g2,g3,g4,g5⟩:=R;have T:s.TypeIs (.ref it) "set_iterator":=⟨_,hoi,ci⟩;obtain⟨Wm,S7,S8,Qe⟩:=oi;dsimp only at ci di;subst ci di;obtain⟨ot,hot,cot,nt,dot⟩:=ht;obtain⟨aZ,ZW,ZX,Yi⟩:=ot;dsimp only at cot dot;subst cot dot;unfold pyNext;refine Qcd (wpAny_attempt (Qao (name:=Str.ofString "__next__") T Ef (Qbo Ef T IW ?_ (JZ _))));have e1:typeName (.type "set_iterator")=pure "set_iterator":=by unfold typeName;rw[find?_eq_fast];kernel_rfl
 unfold Builtin.«set_iterator.__next__»;generalize eSE:setEntries=SE;generalize eSN:setNextDrawn=SN
 wp_walk
 subst eSE;refine Qcd (Qbf g1 g3 g4 ?_);refine Qce ?_;dsimp only [rawInt];simp only[Qbj,QaT,Qch,Qbb];have hpl:((is.map λi:Nat=>rawInt (i:Int)).toArray)[i]?=some (.int (pl:Int) 0):=by
  rw[List.getElem?_toArray,Qba,hi];rfl
 wp_walk
 simp only[hpl];subst eSN;unfold setNextDrawn;refine Qcd (Qcd (Qbf g1 g3 g4 ?_));dsimp only;simp only[Qbj,QaT,Qch,Qbb,he]
 wp_walk
 have h1:=Qay (Obj.mapFields λx=>x.setIfInBounds 1 (Value.int ((i:Int)+1) 0)) hoi rfl;exact⟨_,rq,Qce (q _ ⟨_,h1,rq,rq⟩ (QaJ ..))⟩
theorem X3 {it a tp:Addr} {b:Bool} {es:Array (Int×Value)} {i ep:Nat} {t:SetTable} {Q:Option Value->Shared->Prop} {is:List Nat} (hh:A.handled=none) (K:Fq s.heap it a (.ref tp) i es.size ep) (ht:s.heap.IsTuple tp (is.map λi:Nat=>rawInt (i:Int)).toArray) (R:Ep b s.heap a es ep t) (hi:is[i]?=none)
  (q:∀h',Heap.ExtBut it s.heap h'->Q none { s with heap:=h' }):wpAny (model prog w) A (pyNext (.ref it)) Q E s:=by
 obtain⟨oi,hoi,ci,di⟩:=K;obtain⟨ob,g1,g2,g3,g4,g5⟩:=R;have T:s.TypeIs (.ref it) "set_iterator":=⟨_,hoi,ci⟩;obtain⟨Wm,S7,S8,Qe⟩:=oi;dsimp only at ci di;subst ci di;obtain⟨ot,hot,cot,nt,dot⟩:=ht;obtain⟨aZ,ZW,ZX,Yi⟩:=ot;dsimp only at cot dot;subst cot dot;unfold pyNext;refine Qcd (wpAny_attempt (Qao (name:=Str.ofString "__next__") T Ef (Qbo Ef T IW ?_ (JZ _))));have e1:typeName (.type "set_iterator")=pure "set_iterator":=by unfold typeName;rw[find?_eq_fast];kernel_rfl
 have hh1:A.in1.handled=none:=hh;unfold Builtin.«set_iterator.__next__»;generalize eSE:setEntries=SE;generalize eSN:setNextDrawn=SN
 wp_walk
 subst eSE;refine Qcd (Qbf g1 g3 g4 ?_);refine Qce ?_;dsimp only [rawInt];simp only[Qbj,QaT,Qch,Qbb];have hpl:((is.map λi:Nat=>rawInt (i:Int)).toArray)[i]?=none:=by
  rw[List.getElem?_toArray,Qba,hi];rfl
 wp_walk
 simp only[hpl]
 wp_walk
 unfold raiseNew
 wp_walk
 refine wpAny_of_eq isSubtype_stop ?_
 wp_walk
 exact q _ ((((QaJ ..).trans (QaJ ..)).extBut.push _).push _)
end
theorem Pb:Slot "set_iterator" "__iter__" "set_iterator.__iter__":=.of (owner:="set_iterator") (n:="__iter__") (by rw[typeLookup_type,builtinLookup_eq_fast];kernel_rfl) (by trivial) (by trivial) (by trivial) (by first | exact .inl (by trivial) | exact .inr (by trivial)) (by rw[QbJ];kernel_rfl)
theorem Ue:entryFor table "set_iterator.__iter__"=some Builtin.«dict_keyiterator.__iter__»:=entryFor_alias (id':="dict_keyiterator.__iter__") (by kernel_rfl) rfl (by trivial) (by kernel_rfl)
theorem Vw (a:Value):argsOk "set_iterator.__iter__" ⟨[a],[]⟩:=by
 unfold argsOk;rw[signature?_of (id:="set_iterator.__iter__") (n:=("__iter__".toList.reverse)) (o:=("set_iterator".toList.reverse)) (by kernel_rfl) Ud]
 kernel_rfl
section
variable {prog:Program} {w:World} {A:Around} {E:YA} {s:Shared}
theorem Q6 {a:Addr} {es:Array (Int×Value)} {i ep sl:Nat} {t:SetTable} {Z:Option (Value×Nat)->Shared->Prop} (R:Ep false s.heap a es ep t) (eb:w.params.followText "set-order"=true)
  (h:Z (((pickOrder (w.params.setOrder a ep) es)[i]?).map λe=>(e.2,sl)) s):wpAny (model prog w) A (setNext a sl i ep) Z E s:=by
 obtain⟨ob,g1,g2,g3,g4,g5⟩:=R;unfold setNext;refine Qcd (Qbf g1 g3 g4 ?_);dsimp only;unfold setsByText;refine Qcd (Qcd (Qbs (Qce ?_)));show wpAny _ _ (if w.params.followText "set-order"=true then _ else _) _ _ _
 rw[if_pos eb];simp only[Qbj,QaT,Qch];unfold setWalk;refine Qcd (Qcd (Qbf g1 g3 g4 ?_));dsimp only;unfold setsByText;refine Qcd (Qcd (Qbs (Qce ?_)));show wpAny _ _ (if w.params.followText "set-order"=true then _ else _) _ _ _
 rw[if_pos eb];refine Qcd (Qbs (Qce ?_));exact Qce h
theorem O9 {a:Addr} {es:Array (Int×Value)} {i ep sl:Nat} {t:SetTable} {Z:Option (Value×Nat)->Shared->Prop} (R:Ep true s.heap a es ep t) (eb:w.params.followText "set-order"=false) (pl:t.plain=true\/es.size<=1)
  (h:Z (match es[SetTable.below t.place sl]?,t.place[SetTable.below t.place sl]? with | some (_,x),some j=>some (x,j+1) | _,_=>none) s):wpAny (model prog w) A (setNext a sl i ep) Z E s:=by
 obtain⟨ob,g1,g2,g3,g4,g5⟩:=R;unfold setNext;refine Qcd (Qbf g1 g3 g4 ?_);dsimp only;unfold setsByText;refine Qcd (Qcd (Qbs (Qce ?_)));show wpAny _ _ (if w.params.followText "set-order"=true then _ else _) _ _ _
 rw[if_neg (by rw[eb];decide)];split
 ·rename_i hd;have hd:(!t.plain&&decide (es.size > 1))=true:=hd;rw[Qbp,Bool.not_eq_true',QaU] at hd;rcases pl with q | q
  ·rw[q] at hd;cases hd.1
  ·omega
 ·show wpAny _ _ ((if (!t.led&&!es.isEmpty)=true then unsupported _ else pure ()) >>= _) _ _ _
  rw[g5.1];simp only[Bool.not_true,Bool.false_and,QaT,Qch];refine Qcd (Qce ?_);exact Qce h
theorem up_place {t:SetTable} {es:Array (Int×Value)} (g4:t.fits es.size=true) (g5:TOk true t) (pl:t.plain=true\/es.size<=1):t.place.size=es.size/\t.place.toList.Pairwise (· < ·):=by
 simp only[SetTable.fits,Qbp,beq_iff_eq,decide_eq_true_eq] at g4;refine⟨g4.1,?_⟩;rcases pl with q | q
 ·exact g5.2.2 q
 ·have:t.place.toList.length<=1:=by rw[QaH];omega
  match h:t.place.toList,this with
  | [],_=>exact .nil
  | [x],_=>exact List.pairwise_singleton _ _
def Ib (t:SetTable):Nat->Nat
 | 0=>0
 | i+1=>t.place.getD i 0+1
theorem Mw {t:SetTable} (up:t.place.toList.Pairwise (· < ·)) {i:Nat} (hi:i<=t.place.size):SetTable.below t.place (Ib t i)=i:=by
 obtain⟨h1,h2,h3⟩:=below_at (j:=Ib t i) up;have lt:∀(x y:Nat) (u v:Nat),t.place[x]?=some u->t.place[y]?=some v->x < y->u < v:=λx y u v ex ey l=>by
  rw[<-Qaw] at ex ey;obtain⟨a1,a2⟩:=Qaf.mp ex;obtain⟨b1,b2⟩:=Qaf.mp ey;rw[<-a2,<-b2];exact Qah.mp up x y a1 b1 l
 generalize hr:SetTable.below t.place (Ib t i)=r at *
 match i,hi with
 | 0,_=>
  by_cases c:r=0
  ·exact c
  ·have l0:0 < t.place.size:=by omega
   have:=h2 0 _ (Qag l0) (by omega);exact absurd this (Nat.not_lt_zero _)
 | i+1,hi=>
  have li:i < t.place.size:=by omega
  have ei:t.place[i]?=some t.place[i]:=Qag li;have eg:t.place.getD i 0=t.place[i]:=by simp[Array.getD,li]
  have es:Ib t (i+1)=t.place[i]+1:=by show t.place.getD i 0+1=_;rw[eg]
  rw[es] at h2 h3;by_cases c1:r<=i
  ·have:=h3 i _ ei c1;omega
  ·by_cases c2:i+1 < r
   ·have l2:i+1 < t.place.size:=by omega
    have e2:t.place[i+1]?=some t.place[i+1]:=Qag l2;have a:=h2 (i+1) _ e2 c2;have b:=lt i (i+1) _ _ ei e2 (Qbr _);omega
   ·omega
theorem Jv {it a:Addr} {first:Value} {i n ep:Nat} {Q:YA} (K:Fq s.heap it a first i n ep) (q:Q (.ref it) s):wpAny (model prog w) A (pyIter (.ref it)) Q E s:=by
 obtain⟨oi,hoi,ci,di⟩:=K;have T:s.TypeIs (.ref it) "set_iterator":=⟨_,hoi,ci⟩;refine wpAny_pyIter_slot T Pb (Qbo Pb T Ue ?_ (Vw _));show wpAny _ _ (ret (.ref it)) _ _ s;exact Qce ⟨_,rq,"set_iterator",_,T,Ef.lookup,q⟩
theorem Fq.at {h h':Heap} {it a:Addr} {first:Value} {i n ep:Nat} (x:Fq h it a first i n ep) (e:∀o,h.get? it=some o->h'.get? it=some o):Fq h' it a first i n ep:=let ⟨o,ho,r⟩:=x;⟨o,e _ ho,r⟩
theorem TQ (hh:A.handled=none) (it a:Addr) (ne:a≠it) (es:Array (Int×Value)) (ep:Nat) (t:SetTable) (eb:w.params.followText "set-order"=true) :
  Walks prog w A it [it,a] [it] es.size (λi v=>∃e,(pickOrder (w.params.setOrder a ep) es)[i]?=some e/\v=e.2) (λi h=>Fq h it a (rawInt (0:Nat)) i es.size ep/\Ep false h a es ep t) where
 sub:=λb hb=>by simp at hb;simp[hb]
 frame:=λ_ _ _ st hk=>⟨st.1.at λo e=>hk it (by simp) o e,st.2.at λo e=>hk a (by simp) o e⟩
 item:=λi s Q E hi st hQ=>by
  have sz:(pickOrder (w.params.setOrder a ep) es).size=es.size:=by
   have:=(Gq (w.params.setOrder a ep) es.size 0 es.toList #[] (QaH ..)).length_eq;rw[QaH] at this;exact this.trans (by simp)
  have hx:(pickOrder (w.params.setOrder a ep) es)[i]?=some ((pickOrder (w.params.setOrder a ep) es)[i]'(by omega)):=Qag (by omega);refine PL (nx:=0) (x:=((pickOrder (w.params.setOrder a ep) es)[i]'(by omega)).2) st.1 st.2 (λA E Z hz=>Q6 st.2 eb (by rw[hx];exact hz)) λh' k sb=>?_;exact hQ _ h' s.toks ⟨_,hx,rq⟩ ⟨k,st.2.at λo e=>by rw[sb.2 a ne];exact e⟩ λc o hc e=>by rw[sb.2 c (λz=>hc (by simp[z]))];exact e
 done:=λs Q E st hQ=>by
  have sz:(pickOrder (w.params.setOrder a ep) es).size=es.size:=by
   have:=(Gq (w.params.setOrder a ep) es.size 0 es.toList #[] (QaH ..)).length_eq;rw[QaH] at this;exact this.trans (by simp)
  have hx:(pickOrder (w.params.setOrder a ep) es)[es.size]?=none:=Array.getElem?_eq_none (by omega);exact Ro hh st.1 st.2 (λA E Z hz=>Q6 st.2 eb (by rw[hx];exact hz)) λh' x=>hQ h' s.toks λc o hc e=>x c o (λz=>hc (by simp[z])) e
 self:=λ_ _ _ _ st hQ=>Jv st.1 hQ
theorem RD (hh:A.handled=none) (it a:Addr) (ne:a≠it) (es:Array (Int×Value)) (ep:Nat) (t:SetTable) (eb:w.params.followText "set-order"=false) (pl:t.plain=true\/es.size<=1) (ft:t.fits es.size=true) (tk:TOk true t) :
  Walks prog w A it [it,a] [it] es.size (λi v=>∃e,es[i]?=some e/\v=e.2) (λi h=>Fq h it a (rawInt (Ib t i:Nat)) i es.size ep/\Ep true h a es ep t) where
 sub:=λb hb=>by simp at hb;simp[hb]
 frame:=λ_ _ _ st hk=>⟨st.1.at λo e=>hk it (by simp) o e,st.2.at λo e=>hk a (by simp) o e⟩
 item:=λi s Q E hi st hQ=>by
  obtain⟨sz,up⟩:=up_place ft tk pl;have hx:es[i]?=some es[i]:=Qag hi;have li:i < t.place.size:=by omega
  have hp:t.place[i]?=some (t.place.getD i 0):=by rw[Qag li];simp[Array.getD,li]
  refine PL (nx:=Ib t (i+1)) (x:=es[i].2) st.1 st.2 (λA E Z hz=>O9 st.2 eb pl (by rw[Mw up (by omega),hx,hp];exact hz)) λh' k sb=>?_;exact hQ _ h' s.toks ⟨_,hx,rq⟩ ⟨k,st.2.at λo e=>by rw[sb.2 a ne];exact e⟩ λc o hc e=>by rw[sb.2 c (λz=>hc (by simp[z]))];exact e
 done:=λs Q E st hQ=>by
  obtain⟨sz,up⟩:=up_place ft tk pl;have hx:es[es.size]?=none:=Array.getElem?_eq_none (QbZ _);exact Ro hh st.1 st.2 (λA E Z hz=>O9 st.2 eb pl (by rw[Mw up (by omega),hx];exact hz)) λh' x=>hQ h' s.toks λc o hc e=>x c o (λz=>hc (by simp[z])) e
 self:=λ_ _ _ _ st hQ=>Jv st.1 hQ
theorem RG (hh:A.handled=none) (it a tp:Addr) (ne:a≠it) (nt:tp≠it) (es:Array (Int×Value)) (ep:Nat) (t:SetTable) (is:List Nat) (pm:is.Perm (List.range es.size)) :
  Walks prog w A it [it,a,tp] [it] es.size (λi v=>∃pl e,is[i]?=some pl/\es[pl]?=some e/\v=e.2) (λi h=>Fq h it a (.ref tp) i es.size ep/\Ep true h a es ep t/\h.IsTuple tp (is.map λi:Nat=>rawInt (i:Int)).toArray) where
 sub:=λb hb=>by simp at hb;simp[hb]
 frame:=λ_ _ _ st hk=>⟨st.1.at λo e=>hk it (by simp) o e,st.2.1.at λo e=>hk a (by simp) o e,let ⟨o,ho,r⟩:=st.2.2;⟨o,hk tp (by simp) o ho,r⟩⟩
 item:=λi s Q E hi st hQ=>by
  have hl:is.length=es.size:=by rw[pm.length_eq,Qbc]
  have li:i < is.length:=by omega
  have hp:is[i]?=some is[i]:=Qai li;have lp:is[i] < es.size:=List.mem_range.mp (pm.mem_iff.mp (List.getElem_mem li));have hx:es[is[i]]?=some es[is[i]]:=Qag lp;refine V9 st.1 st.2.2 st.2.1 hp hx λh' k sb=>?_;have kp:∀c o,c≠it->s.heap.get? c=some o->h'.get? c=some o:=λc o n e=>by rw[sb.2 c n];exact e
  exact hQ _ h' s.toks ⟨_,_,hp,hx,rq⟩ ⟨k,st.2.1.at λo e=>kp a o ne e,let ⟨o,ho,r⟩:=st.2.2;⟨o,kp tp o nt ho,r⟩⟩ λc o hc e=>kp c o (λz=>hc (by simp[z])) e
 done:=λs Q E st hQ=>by
  have hl:is.length=es.size:=by rw[pm.length_eq,Qbc]
  exact X3 hh st.1 st.2.2 st.2.1 (List.getElem?_eq_none (by omega)) λh' x=>hQ h' s.toks λc o hc e=>x c o (λz=>hc (by simp[z])) e
 self:=λ_ _ _ _ st hQ=>Jv st.1 hQ
end
section
variable {prog:Program} {w:World} {A:Around} {E:YA} {s:Shared}
theorem take_all {R:Result->Shared->Prop} {S a I:Addr} {fp:List Addr} {n c0:Nat} {P:Nat->Value->Prop} {St:Nat->Heap->Prop} {res:Value} {tt:Bool} (hT:s.TypeIs (.ref a) "set") (hS:s.heap.get? S=some { cls:=.type "list",data:=.seq #[] c0 }) (nS:S∉fp) (Wk:Walks prog w A.in1 I fp [I] n P St) (st:St 0 s.heap) (hn:n<=sizeLine)
  (fin:∀h' tk us c,(∀b o,b≠S->b≠I->s.heap.get? b=some o->h'.get? b=some o)->h'.get? S=some { cls:=.type "list",dict:=none,data:=.seq us c,slots:=#[] }->ItemsOf P us n->R (.ok (.ret res)) { s with heap:=h',toks:=tk }) :
  wpAny (model prog w) A.in1 (do
    let room <-holding [.ref I] (Builtin.List.listLengthHint (.ref a))
    if (room || tt)=true then do
     rule "list.extend.makes-room"
     Builtin.List.listTouch (.ref S)
     again (.builtin "list.extend.loop" ⟨[.ref S,.ref I,res],[]⟩)
    else again (.builtin "list.extend.loop" ⟨[.ref S,.ref I,res],[]⟩))
   (λfin s'=>match fin with | .done f=>R (.ok f) s' | .again c'=>c'.quiet=true/\codeAny (model prog w) A c' R s') (λe s'=>R (.error e) s') s:=by
 have key:∀(h:Heap) (c1:Nat),St 0 h->(∀b o,b≠S->s.heap.get? b=some o->h.get? b=some o)->h.get? S=some { cls:=.type "list",data:=.seq #[] c1 } ->
   codeAny (model prog w) A (.builtin "list.extend.loop" ⟨[.ref S,.ref I,res],[]⟩) R { s with heap:=h }:=λh c1 st1 kp hS1=>by
  refine codeAny_extend_loopS Wk.toS hn S nS res n 0 _ #[] c1 rfl (Qca _) st1 hS1 (ItemsOf.nil _) λs2 us c mv hS2 itm=>?_;rw[Moved.eq_with mv];exact fin s2.heap s2.toks us c (λb o nb nI e=>mv.heap b o (by simp[nb,nI]) (kp b o nb e)) hS2 itm
 refine Qcd (QbN (Ws hT ?_));refine wpAny_ite_split (λ_=>?_) (λ_=>Qce ⟨plainId_quiet PySem.F.plain_extend_loop _,key s.heap c0 st (λ_ _ _ e=>e) hS⟩);refine Qcd (wpAny_rule ?_);refine Qcd ?_;show wpAny _ _ (updateSeq S (·.push .none) >>= λ_=>updateSeq S (·.pop)) _ _ _;refine Qcd (wpAny_updateSeq hS rfl ?_);have hS2:=Qay (Obj.mapSeq (·.push Value.none)) hS rfl;refine wpAny_updateSeq (hz:=by seq_fits) hS2 rfl ?_;have hS3:=Qay (Obj.mapSeq (·.pop)) hS2 rfl;have kp:∀b o,b≠S->s.heap.get? b=some o->((s.heap.update S (Obj.mapSeq (·.push Value.none))).update S (Obj.mapSeq (·.pop))).get? b=some o:=λb o nb e=>
  (Heap.get?_update_other _ _ (Ne.symm nb)).trans ((Heap.get?_update_other _ _ (Ne.symm nb)).trans e)
 exact Qce ⟨plainId_quiet PySem.F.plain_extend_loop _,key _ _ (Wk.frame 0 _ _ st λb hb o e=>kp b o (λz=>nS (z ▸ hb)) e) kp hS3⟩
theorem GQ {α : Type} {f:α->Value}:∀{us:YE} {es:List α},us.length=es.length->(∀(j:Nat) (v:Value),us[j]?=some v->∃e,es[j]?=some e/\v=f e)->us=es.map f
 | [],[],_,_=>rfl
 | [],_::_,h,_=>by cases h
 | _::_,[],h,_=>by cases h
 | u::us,e::es,h,g=>by
  obtain⟨e',h1,h2⟩:=g 0 u rfl;cases h1;rw[QbM,h2,GQ (us:=us) (es:=es) (by simpa using h) λj v hj=>by simpa using g (j+1) v (by simpa using hj)]
theorem XS {R:Result->Shared->Prop} {b:Bool} {S a:Addr} {es:Array (Int×Value)} {ep c0:Nat} {t:SetTable} {res:Value} (hh:A.handled=none) (RS:Ep b s.heap a es ep t) (eb:b=!w.params.followText "set-order") (hsz:es.size < scanBound) (hS:s.heap.get? S=some { cls:=.type "list",data:=.seq #[] c0 }) (nSa:S≠a)
  (fin:∀h' tk d' us c,(∀b o,b≠S->s.heap.get? b=some o->h'.get? b=some o)->h'.get? S=some { cls:=.type "list",dict:=none,data:=.seq us c,slots:=#[] }->us.toList.Perm (es.toList.map (·.2))->R (.ok (.ret res)) { s with heap:=h',toks:=tk,drawn:=d' }) :
  wpAny (model prog w) A.in1 (Builtin.List.listExtendWith (.ref S) (.ref a) res) (λfin s'=>match fin with | .done f=>R (.ok f) s' | .again c'=>c'.quiet=true/\codeAny (model prog w) A c' R s') (λe s'=>R (.error e) s') s:=by
 have T0:s.TypeIs (.ref a) "set":=let ⟨ob,g1,g2,_⟩:=RS;⟨ob,g1,g2.1⟩;have la:a < s.heap.objs.size:=let ⟨_,g,_⟩:=RS;QbR g;have lS:S < s.heap.objs.size:=QbR hS;have hn:es.size<=sizeLine:=fits_of_scanBound hsz;unfold Builtin.List.listExtendWith;refine Qcd (wpAny_typeOf (T:="set") T0 ?_);have n1:Builtin.List.listSameRef (.ref S) (.ref a)=false:=by simp[Builtin.List.listSameRef,nSa]
 have n2:(Value.type "set" == Value.type "list")=false:=by decide
 have n3:(Value.type "set" == Value.type "tuple")=false:=by decide
 simp only[n1,n2,n3,Bool.or_false,QaT,Qch];refine Qcd (Wi RS eb hsz (λpl=>?_) λis d' hb pm=>?_)
 ·generalize eo:({ cls:=.type "set_iterator",data:=.fields #[rawInt 0,rawInt 0,.ref a,rawInt es.size,rawInt ep] }:Obj)=oI;have hI:(s.heap.push oI).get? s.heap.objs.size=some oI:=QaG _ (by rw[<-eo];rfl);have kp:∀c o,s.heap.get? c=some o->(s.heap.push oI).get? c=some o:=λc o e=>Qas _ e;have T1:Shared.TypeIs { s with heap:=s.heap.push oI } (.ref a) "set":=let ⟨ob,g1,g2⟩:=T0;⟨ob,kp _ _ g1,g2⟩;have R1:=RS.at λo e=>kp a o e;have nI:a≠s.heap.objs.size:=QbS la;have nS:S∉[s.heap.objs.size,a]:=by
   simp only[QbL,Qbq,or_false,not_or];exact⟨QbS lS,nSa⟩
  have si:∀k:Nat,k=0->Fq (s.heap.push oI) s.heap.objs.size a (rawInt (k:Nat)) 0 es.size ep:=λk hk=>⟨oI,hI,by rw[<-eo],by rw[<-eo,hk];rfl⟩;cases eb2:w.params.followText "set-order" with
  | true=>
   rw[eb2] at eb;subst eb;refine take_all T1 (kp _ _ hS) nS (TQ (A:=A.in1) (by simp[hh]) _ a nI es ep t eb2) ⟨si 0 rfl,R1⟩ hn λh' tk us c kk hS' itm=>?_;refine fin h' tk s.drawn us c (λc o nc e=>kk c o nc (QbS (QbR e)) (kp _ _ e)) hS' ?_;have e1:us.toList=(pickOrder (w.params.setOrder a ep) es).toList.map (·.2):=by
    have sz:=(Gq (w.params.setOrder a ep) es.size 0 es.toList #[] (QaH ..)).length_eq;refine GQ (by rw[QaH,itm.1];exact (sz.trans (by simp)).symm) λj v hj=>?_;rw[Qaw] at hj;obtain⟨e,h1,h2⟩:=itm.2 j v hj;exact⟨e,by rw[Qaw];exact h1,h2⟩
   rw[e1];exact ((Gq (w.params.setOrder a ep) es.size 0 es.toList #[] (QaH ..)).trans (by simp)).map _
  | false=>
   rw[eb2] at eb;subst eb;obtain⟨ob,g1,g2,g3,g4,g5⟩:=id RS;refine take_all T1 (kp _ _ hS) nS (RD (A:=A.in1) (by simp[hh]) _ a nI es ep t eb2 (pl rfl) g4 g5) ⟨si _ rfl,R1⟩ hn λh' tk us c kk hS' itm=>?_;refine fin h' tk s.drawn us c (λc o nc e=>kk c o nc (QbS (QbR e)) (kp _ _ e)) hS' ?_;have e1:us.toList=es.toList.map (·.2):=by
    refine GQ (by rw[QaH,QaH,itm.1]) λj v hj=>?_;rw[Qaw] at hj;obtain⟨e,h1,h2⟩:=itm.2 j v hj;exact⟨e,by rw[Qaw];exact h1,h2⟩
   rw[e1]
 ·subst hb;generalize eo1:({ cls:=.type "tuple",data:=.seq (is.map λi:Nat=>rawInt (i:Int)).toArray }:Obj)=oT;generalize eo:({ cls:=.type "set_iterator",data:=.fields #[.ref s.heap.objs.size,rawInt 0,.ref a,rawInt es.size,rawInt ep] }:Obj)=oI;have z1:(s.heap.push oT).objs.size=s.heap.objs.size+1:=QbI ..;have hT:(s.heap.push oT).get? s.heap.objs.size=some oT:=QaG _ (by rw[<-eo1];rfl);have hI:((s.heap.push oT).push oI).get? (s.heap.objs.size+1)=some oI:=by rw[<-z1];exact QaG _ (by rw[<-eo];rfl)
  have kp:∀c o,s.heap.get? c=some o->((s.heap.push oT).push oI).get? c=some o:=λc o e=>Qas _ (Qas _ e);have T1:Shared.TypeIs { s with heap:=(s.heap.push oT).push oI,drawn:=d' } (.ref a) "set":=let ⟨ob,g1,g2⟩:=T0;⟨ob,kp _ _ g1,g2⟩;have R1:=RS.at λo e=>kp a o e;have nI:a≠s.heap.objs.size+1:=QbS (Qbi la);have nS:S∉[s.heap.objs.size+1,a,s.heap.objs.size]:=by
   simp only[QbL,Qbq,or_false,not_or];exact⟨QbS (Qbi lS),nSa,QbS lS⟩
  have tup:((s.heap.push oT).push oI).IsTuple s.heap.objs.size (is.map λi:Nat=>rawInt (i:Int)).toArray:=⟨oT,Qas _ hT,by rw[<-eo1],0,by rw[<-eo1]⟩;have si:Fq ((s.heap.push oT).push oI) (s.heap.objs.size+1) a (.ref s.heap.objs.size) 0 es.size ep:=⟨oI,hI,by rw[<-eo],by rw[<-eo];rfl⟩;refine take_all (s:={ s with heap:=(s.heap.push oT).push oI,drawn:=d' }) T1 (kp _ _ hS) nS (RG (A:=A.in1) (by simp[hh]) _ a _ nI (QbS (Qbr _)) es ep t is pm) ⟨si,R1,tup⟩ hn λh' tk us c kk hS' itm=>?_;refine fin h' tk d' us c (λc o nc e=>kk c o nc (QbS (Qbi (QbR e))) (kp _ _ e)) hS' ?_;have hl:is.length=es.size:=by rw[pm.length_eq,Qbc]
  have e1:us.toList=is.map λi=>(es.toList.map (·.2)).getD i .none:=by
   refine GQ (by rw[QaH,itm.1,hl]) λj v hj=>?_;rw[Qaw] at hj;obtain⟨p,e,h1,h2,h3⟩:=itm.2 j v hj;refine⟨p,h1,?_⟩;rw[h3,List.getD_eq_getElem?_getD,Qba,Qaw,h2];rfl
  rw[e1];have:=(pm.map λi=>(es.toList.map (·.2)).getD i Value.none);rw[show es.size=(es.toList.map (·.2)).length by rw[Qbt,QaH],range_getD] at this;exact this
theorem X5 {b:Bool} {a:Addr} {es:Array (Int×Value)} {ep:Nat} {t:SetTable} {Rr:YE->Shared->Prop} (hh:A.handled=none) (RS:Ep b s.heap a es ep t) (eb:b=!w.params.followText "set-order") (hsz:es.size < scanBound)
  (h:∀h' tk d' (us:YE),(∀c o,s.heap.get? c=some o->h'.get? c=some o)->us.Perm (es.toList.map (·.2))->Rr us { s with heap:=h',toks:=tk,drawn:=d' }):wpAny (model prog w) A (collect (.ref a)) Rr E s:=by
 have hlt:a < s.heap.objs.size:=let ⟨_,g,_⟩:=RS;QbR g;unfold collect;refine Qcd (wpAny_runValue (QbD entry_proto_collect' ?_));rw[QaF PySem.F.plain_proto_collect _];show wpAny _ A.in1 (newList [] >>= λl=>again (.builtin "list.__iadd__" ⟨[l,.ref a],[]⟩)) _ _ s;refine Qcd (Qbh ?_);refine Qce ⟨plainId_quiet PySem.F.plain_list_iadd _,QbD entry_list_iadd' ?_⟩;rw[QaF PySem.F.plain_list_iadd _];have k0:∀c o,s.heap.get? c=some o->(s.heap.push { cls:=.type "list",data:=.seq ([]:YE).toArray }).get? c=some o:=λc o e=>Qas _ e;have hS0:(s.heap.push { cls:=.type "list",data:=.seq ([]:YE).toArray }).get? s.heap.objs.size=some { cls:=.type "list",data:=.seq #[] }:=QaG _ rfl;show wpAny _ A.in1 (Builtin.List.listExtendWith (.ref s.heap.objs.size) (.ref a) (.ref s.heap.objs.size)) _ _ _;have key:=XS (prog:=prog) (A:=A) (s:={ s with heap:=s.heap.push { cls:=.type "list",data:=.seq ([]:YE).toArray } }) (res:=.ref s.heap.objs.size)
  (R:=λ(r:Result) (s':Shared)=>∃h' tk d' us c,r=.ok (.ret (.ref s.heap.objs.size))/\s'={ s with heap:=h',toks:=tk,drawn:=d' }/\(∀c o,s.heap.get? c=some o->h'.get? c=some o)/\h'.get? s.heap.objs.size=some { cls:=.type "list",dict:=none,data:=.seq us c,slots:=#[] }/\us.toList.Perm (es.toList.map (·.2)))
  hh (RS.at λo e=>k0 a o e) eb hsz hS0 (QbX hlt) λh' tk d' us c kk hS' pm=>⟨h',tk,d',us,c,rq,rq,λc o e=>kk c o (QbS (QbR e)) (k0 _ _ e),hS',pm⟩
 refine Qcf key (λfin s' x=>?_) λe s' x=>?_
 ·cases fin with
  | done f=>
   obtain⟨h',tk,d',us,c,e,rfl,kk,hS',pm⟩:=x;cases e;show wpAny _ A (load s.heap.objs.size >>= _) _ _ _;exact Qcd (wpAny_load hS' (Qce (h h' tk d' us.toList kk pm)))
  | again c1=>
   refine⟨x.1,QbY x.2 λq s2 y=>?_⟩;obtain⟨h',tk,d',us,c,rfl,rfl,kk,hS',pm⟩:=y;show wpAny _ A (load s.heap.objs.size >>= _) _ _ _;exact Qcd (wpAny_load hS' (Qce (h h' tk d' us.toList kk pm)))
 ·obtain⟨_,_,_,_,_,e',_⟩:=x;cases e'
end
open PySem.Calls (spliced_cons spliced_nil)
theorem Gh {α : Type} [DecidableEq α]:∀{l m:List α},l.Nodup->(∀x∈l,x∈m)->l.length<=m.length
 | [],m,_,_=>Qca _
 | a::l,m,h,c=>by
  obtain⟨h1,h2⟩:=QbA.mp h;have ha:=c a (.head _);have:=Gh (l:=l) (m:=m.erase a) h2 λx hx=>(List.mem_erase_of_ne (λz:x=a=>h1 (by rw[<-z];exact hx))).mpr (c x (.tail _ hx));rw[List.length_erase_of_mem ha] at this;have:0 < m.length:=Qau ha;simp only[Qbm];omega
theorem PN {α : Type} [DecidableEq α]:∀{m l:List α},l.Nodup->(∀x∈l,x∈m)->m.length<=l.length->m.Nodup
 | [],_,_,_,_=>List.Pairwise.nil
 | a::m,l,h,c,e=>by
  by_cases q:a∈m
  ·have:=Gh (m:=m) h λx hx=>by
    rcases QbL.mp (c x hx) with z | z
    ·exact z ▸ q
    ·exact z
   simp only[Qbm] at e;omega
  ·refine QbA.mpr ⟨q,PN (l:=l.erase a) (h.erase a) (λx hx=>?_) ?_⟩
   ·have x1:=(h.mem_erase_iff).mp hx;rcases QbL.mp (c x x1.2) with z | z
    ·exact absurd z x1.1
    ·exact z
   ·rw[List.length_erase];simp only[Qbm] at e;split <;> omega
theorem UL {vs us:YE} (p:us.Perm vs):∀{ns:List Int},IntsAre vs ns->∃ms,IntsAre us ms/\ms.Perm ns:=by
 induction p with
 | nil=>intro ns h;cases h;exact⟨[],.nil,List.Perm.refl _⟩
 | cons x _ ih=>
  intro ns h;cases h with
  | cons n t r=>
   obtain⟨ms,h1,h2⟩:=ih r;exact⟨n::ms,.cons n t h1,h2.cons _⟩
 | swap x y l=>
  intro ns h;cases h with
  | cons n t r=>
   cases r with
   | cons n2 t2 r2=>exact⟨_,.cons n2 t2 (.cons n t r2),List.Perm.swap _ _ _⟩
 | trans _ _ ih1 ih2=>
  intro ns h;obtain⟨ms,h1,h2⟩:=ih2 h;obtain⟨ks,h3,h4⟩:=ih1 h1;exact⟨ks,h3,h4.trans h2⟩
section
variable {prog:Program} {w:World} {A:Around} {E:YA} {s:Shared}
theorem Sh {b:Bool} {a:Addr} {es:Array (Int×Value)} {ep:Nat} {t:SetTable} {ns:List Int} {Q:YA} (hh:A.handled=none) (RS:Ep b s.heap a es ep t) (eb:b=!w.params.followText "set-order") (h64:es.size < 64) (hi:IntsAre (es.toList.map (·.2)) ns)
  (h:∀h' tk d' D (out:Array Value) ms e,(∀c o,s.heap.get? c=some o->h'.get? c=some o)->(∀c o,s.heap.get? c=some o->c≠D)->h'.get? D=some (seqObj "list" out e)->IntsAre out.toList ms->ms.Perm ns->ms.Pairwise (·<=·)->Q (.ref D) { s with heap:=h',toks:=tk,drawn:=d' }) :
  wpAny (model prog w) A (call (.builtin "sorted") [.ref a]) Q E s:=by
 refine Calls.call_function_entry kind_sorted plain_sorted entry_sorted (args_sorted1 _) ?_;unfold Builtin.«sorted»;refine Qcd (m:=checkCount "sorted" 1 1 _) (Qce ?_);have hsz:es.size < scanBound:=by unfold scanBound;omega
 refine Qcd (X5 (A:=A.in1) hh RS eb hsz λh1 tk d' us kk pm=>?_);obtain⟨ms,i1,i2⟩:=UL pm hi;have ul:us.length=es.size:=by rw[pm.length_eq,Qbt,QaH]
 refine Qcd (wpAny_newList ?_ (by rw[ul];exact fits_of_scanBound hsz));have hD:(h1.push (seqObj "list" us.toArray 0)).get? h1.objs.size=some (seqObj "list" us.toArray 0):=QaG _ rfl;refine Qcd (QbN (Qbo slot_list_sort ⟨_,hD,rq⟩ entry_list_sort (list_sort_tree (s:={ s with heap:=h1.push (seqObj "list" us.toArray 0),toks:=tk,drawn:=d' }) hD i1 (by omega) λout ks a1 a2 a3=>⟨_,rq,?_⟩) (args_list_sort _)));obtain⟨e,he⟩:=sortedHeap_at (out:=out) hD;refine Qce ⟨_,rq,h _ tk d' _ out ks e (λc o ec=>?_) (λc o ec=>QbS (QbR (kk c o ec))) he a1 (a2.trans i2) a3⟩;have e1:=kk c o ec;have lt:=QbR e1;rw[sortedHeap_old (QbS lt) (by rw[QbI];exact Qbi lt)];exact Qas _ e1
end
theorem Inv.Xm {X:Cx} {jb:YC} {O : St} {H:Hp} {s:Shared} (I:Inv X jb O H s) (d':Drawn):Inv X jb O H { s with drawn:=d' }:=⟨I.ok,I.os,I.bare,I.base,I.loc,I.cell,I.free,I.Ew,I.pin,I.hok,I.len⟩
def Vt (K:YD) (t:TA):TE:=fun O H Q=>t O H λvs H1=>∃(p:Addr) (ns:List Int),vs=[.ref p]/\(SqL K H1 p (ns.map V.int)\/SqT K H1 p (ns.map V.int))/\ns.length < 64 /\
 ∀(ms:List Int) l,ms.Pairwise (· < ·)->(∀k,k∈ms ↔ k∈ns)->H1 l=none->Q (.ref l) (upd H1 l (.lst (ms.map V.int)))
theorem Wj {k:Int} {v:Value} (h:Value.isInt k v=true):∃t,v=.int k t:=Value.isInt_shape h
theorem Mq {prog:Program} {w:World}:∀{es:List (Int×Value)},ElemsOf (intKind prog w) es->∃ns,IntsAre (es.map (·.2)) ns/\∀k,k∈ns ↔ ∃e∈es,(intKind prog w).is k e.2=true
 | [],_=>⟨[],.nil,λk=>⟨(λh=>by cases h),λ⟨e,he,_⟩=>by cases he⟩⟩
 | e::es,h=>by
  obtain⟨⟨k,hk,_⟩,_⟩:=h.head;obtain⟨ns,h1,h2⟩:=Mq (es:=es) h.tail;obtain⟨t,et⟩:=Wj hk;refine⟨k::ns,by rw[QbM,et];exact .cons k t h1,λj=>?_⟩;rw[QbL,h2];constructor
  ·rintro (rfl |⟨e',he,q⟩)
   ·exact⟨e,.head _,hk⟩
   ·exact⟨e',.tail _ he,q⟩
  ·rintro ⟨e',he,q⟩;rcases QbL.mp he with rfl | he
   ·exact .inl ((intKind prog w).inj _ _ _ q hk)
   ·exact .inr ⟨e',he,q⟩
theorem O8 {X:Cx} {jb:YC} {O : St} {H:Hp} {s:Shared} {h1:Heap} {tk n:Nat} {a:Addr} {val:Nat->Int} {ns:List Int} {Q:VK} (hc:X.calm=true) (I:Inv X jb O H s) (z:SetT (intKind X.prog X.w) (!X.w.params.followText "set-order") h1 a (λk=>decide (k∈met val n)) (met val n).length)
  (kp:∀b o,s.heap.get? b=some o->h1.get? b=some o) (hn:n=ns.length) (h64:ns.length < 64) (hval:∀j,j < n->ns[j]?=some (val j))
  (q:∀(ms:List Int) l,ms.Pairwise (· < ·)->(∀k,k∈ms ↔ k∈ns)->H l=none->Q (.ref l) (upd H l (.lst (ms.map V.int)))) :
  wpAny (model X.prog X.w) X.A (call (.builtin "sorted") [.ref a]) (EP X jb O Q) X.xe { s with heap:=h1,toks:=tk }:=by
 obtain⟨ob,es,ep,t,⟨g1,g2,g3⟩,⟨c1,c2⟩,⟨c3,c4,c5⟩,c6⟩:=z;obtain⟨ks,k1,k2⟩:=Mq c1;have ml:=Ni val n;have kl:ks.length=(met val n).length:=by
  have:=k1.length;rw[Qbt,QaH,c5] at this;exact this.symm
 have mem:∀k,k∈ks ↔ k∈met val n:=λk=>by rw[k2,<-c2,QaU]
 have nd:ks.Nodup:=PN (P0 val n) (λx hx=>(mem x).mpr hx) (by omega);have bO:∀k,k∈ks ↔ k∈ns:=λk=>by
  rw[mem,Nh];constructor
  ·intro ⟨j,hj,e⟩;exact QaA (e ▸ hval j hj)
  ·intro hk;obtain⟨j,hj⟩:=QaE hk;have lj:j < n:=by rw[hn];exact (Qaf.mp hj).1
   refine⟨j,lj,?_⟩;rw[hval j lj] at hj;exact Qby hj
 refine Sh (I.ok.hd hc) ⟨ob,g1,g2,g3,c4,c6⟩ rfl (by omega) k1 λh2 tk2 d' D out ms e kk nD oD a1 a2 a3=>?_;obtain⟨m,hns,_⟩:=id I.loc;have k02:∀b o,s.heap.get? b=some o->h2.get? b=some o:=λb o e=>kk b o (kp b o e);have hn2:h2.Ns X.env.locals m:=by
  obtain⟨o,es',ep',q1,q2⟩:=hns;exact⟨o,es',ep',k02 _ _ q1,q2⟩
 have rv:Vals (ms.map V.int) out.toList:=Oa a1;obtain⟨hDn,I2⟩:=Sq (tk:=tk2) I hns hn2 (λb o _ e=>k02 b o e) (λb o e=>nD b o (kp b o e)) (by rw[Array.toArray_toList];exact oD) rv (by rw[Qbt,a2.length_eq,kl];omega);refine⟨.ref D,_,I2.Xm d',rq,q ms D ?_ (λk=>(a2.mem_iff).trans (bO k)) hDn⟩;have nd2:ms.Nodup:=a2.nodup_iff.mpr nd;refine (List.pairwise_and_iff.mpr ⟨a3,nd2⟩).imp λzz=>?_;obtain⟨x,y⟩:=zz;exact by omega
end L2
namespace L2
open PySem PySem.Spec PyProof.Rows
theorem Qz:isSubtype (.type "list") (.type "set")=pure false:=by rw[QbJ];kernel_rfl
theorem RX:isSubtype (.type "list") (.type "frozenset")=pure false:=by rw[QbJ];kernel_rfl
theorem Vy {X:Cx} {jb:YC} {O : St} {H:Hp} {s:Shared} {p:Addr} {ns:List Int} {Q:YA} (hc:X.calm=true) (I:Inv X jb O H s) (hq:SqL X.K H p (ns.map V.int)\/SqT X.K H p (ns.map V.int)) (h64:ns.length < 64)
  (h:∀(h1:Heap) (tk:Nat),SetT (intKind X.prog X.w) (!X.w.params.followText "set-order") h1 s.heap.objs.size (λk=>decide (k∈met (λi=>ns.getD i 0) ns.length)) (met (λi=>ns.getD i 0) ns.length).length->(∀b o,s.heap.get? b=some o->h1.get? b=some o)->Q (.ref s.heap.objs.size) { s with heap:=h1,toks:=tk }) :
  wpAny (model X.prog X.w) X.A (call (.type "set") [.ref p]) Q X.xe s:=by
 have vOk:∀{its:YE},IntsAre its ns->∀(i:Nat) (v:Value),its.toArray[i]?=some v->(intKind X.prog X.w).is (ns.getD i 0) v=true/\v.scannable=true:=λhi i v e=>by
  obtain⟨t,rfl⟩:=IntsAre.int_at hi i v (by rw[<-List.getElem?_toArray];exact e);exact⟨intKind_is _ _ _ _,rq⟩
 have lim:ns.length+1 < scanBound:=by unfold scanBound;omega
 rcases hq with hq | hq
 ·obtain⟨its,rv,pl,hz⟩:=I.list hq;have hi:IntsAre its ns:=intsAre_of rv;have hl:its.toArray.size=ns.length:=by rw[QaZ,hi.length]
  have il:=pl.isList;obtain⟨o,ho,cl,x⟩:=id il;refine NQ (T:="list") (n:=ns.length) (P:=λi v=>its.toArray[i]?=some v) (I.ok.hd hc) (λi=>ns.getD i 0) (vOk hi) lim ⟨o,ho,cl⟩ Qz RX (by decide) (λs1 kk=>?_) λh1 tk z kp=>h h1 tk z λb o e=>kp b o (QbR e) e;have l1:s1.heap.IsList p its.toArray:=⟨o,kk o ho,cl,x⟩;refine⟨_,λi h=>h.IsListIter s1.heap.objs.size p i/\h.IsList p its.toArray,λA E Q hQ=>wpAny_pyIter_list l1 hQ,λA hA ne=>?_,⟨⟨_,QaG _ rfl,rq,rq⟩,l1.push _⟩⟩;rw[<-hl];exact Walks.list hA _ p ne its.toArray
 ·obtain⟨its,rv,il,hz⟩:=I.tuple hq;have hi:IntsAre its ns:=intsAre_of rv;have hl:its.toArray.size=ns.length:=by rw[QaZ,hi.length]
  have il':s.heap.IsTuple p its.toArray:=il;obtain⟨o,ho,cl,x⟩:=id il';refine NQ (T:="tuple") (n:=ns.length) (P:=λi v=>its.toArray[i]?=some v) (I.ok.hd hc) (λi=>ns.getD i 0) (vOk hi) lim ⟨o,ho,cl⟩ Qy RW (by decide) (λs1 kk=>?_) λh1 tk z kp=>h h1 tk z λb o e=>kp b o (QbR e) e;have l1:s1.heap.IsTuple p its.toArray:=⟨o,kk o ho,cl,x⟩;refine⟨_,λi h=>h.IsTupleIter s1.heap.objs.size p i/\h.IsTuple p its.toArray,λA E Q hQ=>QaV l1 hQ,λA hA ne=>?_,⟨⟨_,QaG _ rfl,rq,rq⟩,let ⟨o,e,r⟩:=l1;⟨o,Qas _ e,r⟩⟩⟩;rw[<-hl];exact Walks.tuple hA _ p ne its.toArray
theorem Sx {X:Cx} {e:Expr} {t:TA} {q1 q2 cpos pos2:Pos} (hc:X.calm=true) (hg:Gl X "sorted") (hm:X.mg "sorted"=none) (hg2:Gl X "set") (hm2:X.mg "set"=none) (ha:PA X [e] t)
  (he:starEach [e] X.env=(false,eval e X.env)::starEach [] X.env:=by rfl) (hpl:(backTo cpos (starEach [] X.env)).any (·.1)=false:=by rfl)
  (hs0:starEach [.Call (.Name "set" q2) [e] [] cpos] X.env=[(false,eval (.Call (.Name "set" q2) [e] [] cpos) X.env)]:=by rfl) :
  PE X (.Call (.Name "sorted" q1) [.Call (.Name "set" q2) [e] [] cpos] [] pos2) (Vt X.K t):=by
 intro jb s O H Q I h;have inner:wpAny (model X.prog X.w) X.A (eval (.Call (.Name "set" q2) [e] [] cpos) X.env) (λv s1=>∃(s0:Shared) (H1:Hp) (h1:Heap) (tk:Nat) (ns:List Int),v=.ref s0.heap.objs.size/\s1={ s0 with heap:=h1,toks:=tk }/\Inv X jb O H1 s0/\ns.length < 64 /\
   SetT (intKind X.prog X.w) (!X.w.params.followText "set-order") h1 s0.heap.objs.size (λk=>decide (k∈met (λi=>ns.getD i 0) ns.length)) (met (λi=>ns.getD i 0) ns.length).length/\(∀b o,s0.heap.get? b=some o->h1.get? b=some o) /\
   ∀(ms:List Int) l,ms.Pairwise (· < ·)->(∀k,k∈ms ↔ k∈ns)->H1 l=none->Q (.ref l) (upd H1 l (.lst (ms.map V.int)))) X.xe s:=by
  refine QaX (Gx I hg2 hm2 (u:=.type "set") (by trivial) ?_);refine Qac (thn (ha cpos jb s O H _ I h) λus s1 zz=>?_) he hpl;obtain⟨vs,H1,I1,r1,p,ns,ev,hq,h64,q⟩:=zz;subst ev;obtain⟨u,rfl,rx⟩:=vals1 r1;cases rx;exact Vy hc I1 hq h64 λh1 tk z kp=>⟨s1,H1,h1,tk,ns,rq,rq,I1,h64,z,kp,q⟩
 refine QaX (Gx I hg hm (u:=.builtin "sorted") (by trivial) ?_);refine PyProof.Rows.callWith_builtin1 (Q:=EP X jb O Q) ?_ hs0 rfl;rw[hs0];show wpAny _ _ (spliced ((false,eval (.Call (.Name "set" q2) [e] [] cpos) X.env)::backTo pos2 [])) _ _ s;refine Calls.spliced_cons (thn inner λv s1 zz=>?_);obtain⟨s0,H1,h1,tk,ns,ev,es,I1,h64,z,kp,q⟩:=zz;subst ev es;refine Calls.spliced_nil ?_;exact O8 hc I1 z kp rfl h64 (λj hj=>by rw[Qai hj];simp[hj]) q
section
variable {X:Cx}
def bw (K:YD) (ta tb:TE):TE:=fun O H Q=>ta O H λx H1=>∃k,Tt K x H1 k/\if k=true then Q x H1 else tb O H1 Q
theorem Py {K:YD} {a b:Expr} {rest:YJ} {pos:Pos} {ta tb:TE} (hK:X.K=K) (ha:PE X a ta) (hb:PE X (.BoolOp .Or (b::rest) pos) tb):PE X (.BoolOp .Or (a::b::rest) pos) (bw K ta tb):=by
 subst hK;intro jb s O H Q I h;refine BoolOp_or (thn (ha jb s O H _ I h) λv s1 zz=>?_);obtain⟨x,H1,I1,r1,k,e,q1⟩:=zz;refine thn (Yj jb s1 O H1 x v (λb H2=>b=k/\if k=true then Q x H2 else tb O H2 Q) I1 r1 ⟨k,e,rq,q1⟩) λb s2 h2=>?_
 obtain⟨H2,I2,rfl,q2⟩:=h2;cases b with
 | false=>exact hb jb s2 O H2 Q I2 (by simpa using q2)
 | true=>exact⟨x,H2,I2,r1,by simpa using q2⟩
end
end L2
namespace K04
open PySem L2
def top (i:Nat):Stmt:=PySem.Challenge.pw_warnloop_k04_wrong_plans.main.body.getD i (.Pass ⟨0,0,0,0⟩)
theorem Vh:bootBuiltins "int"=some (.type "int"):=by trivial
theorem Gj:bootBuiltins "tuple"=some (.type "tuple"):=by trivial
theorem Rx:bootBuiltins "list"=some (.type "list"):=by trivial
theorem Cm:bootBuiltins "len"=some (.builtin "len"):=by trivial
theorem Vi:bootBuiltins "abs"=some (.builtin "abs"):=by trivial
theorem Mv:bootBuiltins "max"=some (.builtin "max"):=by trivial
theorem Vf:bootBuiltins "sorted"=some (.builtin "sorted"):=by trivial
theorem Vg:bootBuiltins "min"=some (.builtin "min"):=by trivial
structure Nm (mg:YB):Prop where
 isinstance:mg "isinstance"=none
 int:mg "int"=none
 bool:mg "bool"=none
 tuple:mg "tuple"=none
 list:mg "list"=none
 str:mg "str"=none
 len:mg "len"=none
 all:mg "all"=none
 abs:mg "abs"=none
 max:mg "max"=none
 min:mg "min"=none
 range:mg "range"=none
 sorted:mg "sorted"=none
 any:mg "any"=none
 sum:mg "sum"=none
 enumerate:mg "enumerate"=none
 zip:mg "zip"=none
 reversed:mg "reversed"=none
 dict:mg "dict"=none
 ord:mg "ord"=none
 set:mg "set"=none
abbrev M6:Stmt:=top 12
abbrev Im:YF:=["_law_script","_law_k"]
theorem KD:Bx ["_law_script","_law_k","_law_cell"] Im (Ao M6):=by ac_rfl
abbrev KH:Stmt:=top 13
abbrev Eb:YF:=["_law_bag_here","_law_many"]
theorem Ft:Bx ["_law_bag_here","_law_many","_law_digit","_law_primes","_law_step","_law_base","_law_found"] Eb (Ao KH):=by ac_rfl
def Bj (H:Hp) (b:Addr) (n:Nat):Prop:=∃x y z:Int,H b=some (.lst [.int x,.int y,.int z])/\0<=x/\0<=y/\y<=4294967296/\0<=z/\z<=n
theorem Bj.same {H H':Hp} {b:Addr} {n:Nat} (h:Bj H b n) (s:Same H H'):Bj H' b n:=by
 obtain⟨x,y,z,e,r⟩:=h;exact⟨x,y,z,s _ _ e,r⟩
theorem Bj.mono {H:Hp} {b:Addr} {n m:Nat} (h:Bj H b n) (l:n<=m):Bj H b m:=by
 obtain⟨x,y,z,e,h1,h2,h3,h4,h5⟩:=h;exact⟨x,y,z,e,h1,h2,h3,h4,by omega⟩
theorem Bj.nb {H:Hp} {b p:Addr} {n:Nat} (h:Bj H b n) (hp:H p=none):b≠p:=by obtain⟨_,_,_,e,_⟩:=h;exact Ay e hp
theorem Bj.BZ {H:Hp} {b:Addr} {n:Nat} (h:Bj H b n):∀xs,H b≠some (.tup xs):=λxs z=>by obtain⟨_,_,_,e,_⟩:=h;rw[e] at z;cases z
theorem Bj.ex {H:Hp} {b:Addr} {n:Nat} (h:Bj H b n):∃o,H b=some o:=by obtain⟨_,_,_,e,_⟩:=h;exact⟨_,e⟩
theorem Bj.FQ {H H':Hp} {a b:Addr} {n:Nat} (h:Bj H b n) (s:Ag a H H') (ne:b≠a):Bj H' b n:=by
 obtain⟨x,y,z,e,r⟩:=h;exact⟨x,y,z,s _ _ e ne,r⟩
theorem Al {n:Nat} (h:n<=1000):n<=sizeLine:=QbW (Bc h)
def W9 (K:YD):Sp:=λvs H Q _=>∃(a:Addr) (ns:List Int) (k:Int),vs=[.ref a,.int k]/\SqL K H a (ns.map V.int)/\ns.length<=63/\0<=k/\k<=100/\∀p o,H p=none->Bj (upd H p o) p 0->Q (.ref p) (upd H p o)
def Ia:Sp:=λvs H Q _=>∃(b:Addr) (n:Nat) (m:Int),vs=[.ref b,.int m]/\Bj H b n/\n<=10000/\0 < m/\m < 1073741824/\∀r H',0<=r->r < m->Bj H' b (n+1)->Ag b H H'->Q (.int r) H'
def Ov (K:YD):Sp:=λvs H Q _=>∃(a:Addr) (ns:List Int),vs=[.ref a]/\SqL K H a (ns.map V.int)/\ns.length<=63/\∀H',Q (.bl true) H'
theorem at7 {i:Int} (h0:0<=i) (h7:i < 7) {a b c d e f g:Int} (P:Int->Prop) (ha:P a) (hb:P b) (hc:P c) (hd:P d) (he:P e) (hf:P f) (hg:P g):∃p,atI [V.int a,.int b,.int c,.int d,.int e,.int f,.int g] i=some (.int p)/\P p:=by
 have:i=0\/i=1\/i=2\/i=3\/i=4\/i=5\/i=6:=by omega
 rcases this with rfl | rfl | rfl | rfl | rfl | rfl | rfl
 ·exact⟨_,rq,ha⟩
 ·exact⟨_,rq,hb⟩
 ·exact⟨_,rq,hc⟩
 ·exact⟨_,rq,hd⟩
 ·exact⟨_,rq,he⟩
 ·exact⟨_,rq,hf⟩
 ·exact⟨_,rq,hg⟩
theorem ZK {x:Int} {b:Bool}:TF x (if b=true then 1 else 0):=.inr (by cases b <;> exact⟨by decide,by decide⟩)
section
variable {P:Program} {w:World} {K:YD} {mg:YB} {base:Heap}
theorem V4 (C:Code K mg "_law_bag" M6 Im) (T:Nm mg):Good P w K mg base "_law_bag" 1 Im (W9 K):=by
 refine C.good KD (λvs H Q E h=>?_) (λf cdv A outer s H vs Q E hr h=>?_)
 ·obtain⟨a,ns,k,rfl,_⟩:=h;rfl
 obtain⟨a,ns,k,rfl,hS,h63,h0,h1,q⟩:=h;refine⟨_,(Af (Av (i:=2) KD.nd rfl (Or.inl rfl) (Aq BW (Aq BW (Aq En (Aq En Ae (pv 1)) (pv 1)) (Aq En Ae (pv 1))) Ae))
 (Af (Cq (Bl SJ (pv 1) (Bf Ba rfl T.len Cm (Aa (pv 0) Ac)) (Ci _)) (Ai (Av (i:=2) KD.nd rfl (Or.inl rfl) (Bb BP (pv 0) (pv 1) (λ_ _=>rfl)))) BK)
 (Ai (Bs (Cg (Aa (Aq En (Bf Qs rfl T.abs Vi (Aa (pv 2) Ac)) (Dq Oi rfl T.int Vh (Aa (Rf aD (Bf Qs rfl T.abs Vi (Aa (pv 2) Ac)) (Aq Uu Ae Ae) (Ci _)) Ac))) (Aa (Aq BW (Aq Gv (pv 2) Ae) (Aq En Ae (pv 1))) (Aa Ae Ac)))))))),?_⟩
 show let R0:TS:=_;let R1:TS:=_;let R2:TS:=Am (Dr _ R1 _) R0;Am _ R2 _ _ _;intro R0 R1 R2;refine⟨_,rq,_,_,rq,rq,.inl ⟨by decide,by decide⟩,_,rq,_,_,rq,rq,.inr ⟨by omega,by omega⟩,_,rq,_,_,rq,rq,.inl ⟨by decide,by decide⟩,_,_,rq,rq,_,_,rq,rq,?_⟩;refine⟨_,rq,_,rq,a,_,rq,.inl hS,_,_,rq,rq,_,rq,?_⟩;have hl:(ns.map V.int).length=ns.length:=Qbt _;have fin:∀(c:Int) (p:Addr),H p=none->Q (.ref p) (upd H p (.lst [.int ((if c < 0 then -c else c)*(if decide ((10:Int) ^ (18:Int).toNat<=(if c < 0 then -c else c))=true then 1 else 0)),.int (c % 2147483647+37*k),.int 0])):=λc p hp=>by
  refine q p _ hp ⟨_,_,_,Ab,?_,?_,?_,by omega,by omega⟩
  ·refine Int.mul_nonneg ?_ ?_
   ·split <;> omega
   ·split <;> omega
  ·have:=QbE c (show (2147483647:Int)≠0 by decide);omega
  ·have:=QaW c (show (0:Int) < 2147483647 by decide);omega
 refine GD (λc1=>?_) (λc1=>?_)
 ·have c':k < (((ns.map V.int).length:Nat):Int):=Qbg c1;rw[hl] at c';have hk:k.toNat < ns.length:=by omega
  have hat:atI (ns.map V.int) ((k.toNat:Nat):Int)=some (.int ns[k.toNat]):=Az (by rw[Qba];simp[hk]);rw[Int.toNat_of_nonneg h0] at hat;refine⟨_,rq,_,rq,a,_,_,_,rq,rq,hS,hat,?_⟩;exact⟨_,rq,_,rq,_,rq,_,rq,_,_,rq,rq,⟨by decide,by decide,by decide⟩,_,_,rq,rq,.inr ⟨_,rq,_,_,rq,rq,ZK,_,rq,_,_,rq,rq,(by show (0:Int) < 2147483647;decide),_,rq,_,_,rq,rq,.inl ⟨by decide,by decide⟩,_,_,rq,rq,
   (by show 3<=sizeLine;decide),λl hl'=>fin _ l hl'⟩⟩
 ·exact⟨_,rq,_,rq,_,rq,_,rq,_,_,rq,rq,⟨by decide,by decide,by decide⟩,_,_,rq,rq,.inr ⟨_,rq,_,_,rq,rq,ZK,_,rq,_,_,rq,rq,(by show (0:Int) < 2147483647;decide),_,rq,_,_,rq,rq,.inl ⟨by decide,by decide⟩,_,_,rq,rq,
   (by show 3<=sizeLine;decide),λl hl'=>fin _ l hl'⟩⟩
theorem Uw (C:Code K mg "_law_take" KH Eb) (T:Nm mg):Good P w K mg base "_law_take" 1 Eb Ia:=by
 refine C.good Ft (λvs H Q E h=>?_) (λf cdv A outer s H vs Q E hr h=>?_)
 ·obtain⟨b,n,m,rfl,_⟩:=h;rfl
 obtain⟨b,n,m,rfl,⟨x,y,z,hb,x0,y0,y1,z0,z1⟩,hn,m0,m1,q⟩:=h;refine⟨_,(Af (Cq (Bl Kd (Bb BP (pv 0) Ae (λ_ _=>rfl)) Ae (Ci _)) (Af (Av (i:=2) Ft.nd rfl (Or.inl rfl) (Aq Gv (Bb BP (pv 0) Ae (λ_ _=>rfl)) (pv 1)))
 (Af (Ez (Aq M8 (Bb BP (pv 0) Ae (λ_ _=>rfl)) (pv 1)) (Px (pv 0) Ae set_list))
 (Ai (Bs (pv 2))))) BK)
 (Af (Av (i:=3) Ft.nd rfl (Or.inl rfl) (@Bd _ _ _ _ _ (@Aa _ _ _ _ _ (@Ae _ _ _ _) (@Aa _ _ _ _ _ (@Ae _ _ _ _) (@Aa _ _ _ _ _ (@Ae _ _ _ _) (@Aa _ _ _ _ _ (@Ae _ _ _ _) (@Aa _ _ _ _ _ (@Ae _ _ _ _) (@Aa _ _ _ _ _ (@Ae _ _ _ _) (@Aa _ _ _ _ _ (@Ae _ _ _ _) (@Ac _) Bv) Bv) Bv) Bv) Bv) Bv) Bv)))
 (Af (Ez (Aq BW (Bb BP (pv 0) Ae (λ_ _=>rfl)) Ae) (Px (pv 0) Ae set_list))
 (Af (Av (i:=4) Ft.nd rfl (Or.inl rfl) (Bb BP (pv 0) Ae (λ_ _=>rfl)))
 (Af (Av (i:=5) Ft.nd rfl (Or.inl rfl) (Aq BW (Aq BW (Aq En (Bb BP (pv 0) Ae (λ_ _=>rfl)) (Aq BW (Aq En Ae (pv 4)) Ae)) (Aq En (Aq En Ae (pv 4)) (pv 4))) Ae))
 (Af (Av (i:=6) Ft.nd rfl (Or.inl rfl) (Aq Gv (Aq Uu (pv 5) Ae) (Bb Br (pv 3) (Aq Gv (pv 4) Ae) (λ_ _=>rfl))))
 (Ai (Bs (Aq Gv (Aq M8 (Aq Gv (Aq En (pv 6) (Aq BW (Aq M8 (pv 6) Ae) Ae)) (Bb Br (pv 3) (Aq Gv (Aq BW (pv 4) Ae) Ae) (λ_ _=>rfl))) Ae) (pv 1)))))))))),?_⟩
 show let R0:TS:=_;let R1:TS:=Am _ R0;let R2:TS:=Am _ R1;let R3:TS:=Am _ R2;let R4:TS:=Am _ R3;let R5:TS:=Am _ R4;let R6:TS:=Am _ _;let R7:TS:=Am _ R6;Am (Dr _ R7 _) R5 _ _ _;intro R0 R1 R2 R3 R4 R5 R6 R7;refine⟨_,rq,b,_,_,_,rq,rq,SqL.of hb,rq,_,_,rq,rq,_,rq,?_⟩;refine GD (λc1=>?_) (λc1=>?_)
 ·have c':0 < x:=Qbg c1;refine⟨_,rq,b,_,_,_,rq,rq,SqL.of hb,rq,_,rq,_,_,rq,rq,m0,?_⟩;refine⟨_,rq,b,_,_,_,rq,rq,SqL.of hb,rq,_,rq,_,_,rq,rq,⟨m0,m1⟩,_,rq,b,_,_,_,rq,rq,hb,rq,?_⟩;exact⟨_,rq,q _ _ (QbE x (by omega)) (QaW x m0) ⟨x / m,y,z,Ab,Int.ediv_nonneg x0 (by omega),y0,y1,z0,by omega⟩ Ag.upd⟩
 ·refine⟨(by show 7<=sizeLine;decide),λtp htp=>?_⟩;have nbt:b≠tp:=Ay hb htp;have hb1:∀o,(upd H tp o) b=some (.lst [.int x,.int y,.int z]):=λo=>by rw[Aw nbt];exact hb
  have ht1:∀o u,(upd (upd H tp o) b u) tp=some o:=λo u=>by rw[Aw nbt.symm,Ab]
  refine⟨_,rq,b,_,_,_,rq,rq,SqL.of (hb1 _),rq,_,_,rq,rq,_,rq,b,_,_,_,rq,rq,hb1 _,rq,?_⟩;refine⟨_,rq,b,_,_,_,rq,rq,SqL.of Ab,rq,?_⟩;have s0:0<=z+1:=by omega
  have s1:z+1<=10001:=by omega
  refine⟨_,rq,b,_,_,_,rq,rq,SqL.of Ab,rq,_,rq,_,_,rq,rq,.inl ⟨by decide,by decide⟩,_,_,rq,rq,_,_,rq,rq,.inl ⟨by omega,by omega⟩,_,rq,_,_,rq,rq,.inl ⟨by decide,by decide⟩,_,rq,_,_,rq,rq,.inr ⟨by omega,by omega⟩,
   _,_,rq,rq,_,_,rq,rq,?_⟩
  have hbase:(y*(2*(z+1)+1)+6007*(z+1)*(z+1)+29).natAbs < 2 ^ 64:=by
   have h1:0<=y*(2*(z+1)+1):=Int.mul_nonneg y0 (by omega);have h2:y*(2*(z+1)+1)<=4294967296*20003:=Int.mul_le_mul y1 (by omega) (by omega) (by omega);have h3:0<=6007*(z+1)*(z+1):=Int.mul_nonneg (by omega) s0;have h4:6007*(z+1)*(z+1)<=(6007*10001)*10001:=Int.mul_le_mul (by omega) s1 s0 (by omega);omega
  obtain⟨p1,e1,p10,p11⟩:=at7 (i:=(z+1) % 7) (QbE _ (by decide)) (QaW _ (by decide)) (a:=2147483629) (b:=2147483587) (c:=2147483579) (d:=2147483563) (e:=2147483549) (f:=2147483543) (g:=2147483497)
   (λp=>0 < p/\p < 2147483648) (by decide) (by decide) (by decide) (by decide) (by decide) (by decide) (by decide)
  obtain⟨p2,e2,p20,p21⟩:=at7 (i:=(z+1+3) % 7) (QbE _ (by decide)) (QaW _ (by decide)) (a:=2147483629) (b:=2147483587) (c:=2147483579) (d:=2147483563) (e:=2147483549) (f:=2147483543) (g:=2147483497)
   (λp=>0 < p/\p < 2147483648) (by decide) (by decide) (by decide) (by decide) (by decide) (by decide) (by decide)
  refine⟨_,rq,_,_,rq,rq,⟨by decide,by decide,hbase⟩,_,rq,_,rq,_,_,rq,rq,(by show (0:Int) < 7;decide),tp,_,_,_,rq,rq,SqT.of (ht1 _ _),e1,_,_,rq,rq,p10,?_⟩;generalize hF:(y*(2*(z+1)+1)+6007*(z+1)*(z+1)+29) ^ (3:Int).toNat % p1=F;have F0:0<=F:=by rw[<-hF];exact QbE _ (by omega)
  have F1:F < p1:=by rw[<-hF];exact QaW _ p10
  refine⟨_,rq,_,rq,_,_,rq,rq,⟨by decide,by decide⟩,_,_,rq,rq,_,_,rq,rq,.inl ⟨by omega,by omega⟩,_,rq,_,rq,_,_,rq,rq,_,_,rq,rq,(by show (0:Int) < 7;decide),tp,_,_,_,rq,rq,SqT.of (ht1 _ _),e2,_,_,rq,rq,p20,
   _,_,rq,rq,⟨by decide,by decide⟩,_,rq,_,_,rq,rq,m0,?_⟩
  refine q _ _ (QbE _ (by omega)) (QaW _ m0) ⟨x,y,z+1,Ab,x0,y0,y1,s0,by omega⟩ λc o e nc=>?_;rw[Aw nc,Aw (Ay e htp)];exact e
end
abbrev Jc:Stmt:=top 14
abbrev G5:YF:=["_law_bag_here"]
abbrev xg:YF:=["_law_bag_here","_law_letters"]
theorem NT:Bx xg G5 (Ao Jc):=by ac_rfl
abbrev Hj:Stmt:=top 15
abbrev Gu:YF:=["_law_bag_here","_law_many"]
abbrev xh:YF:=["_law_bag_here","_law_many","_law_found","_law_place","_law_name_here"]
theorem FP:Bx xh Gu (Ao Hj):=by ac_rfl
def abc:Str:="abcdefghijklmnopqrstuvwxyz"
def okS (z:Str):Prop:=∀c∈z.cps.toList,c∈abc.cps.toList
theorem okS.ok {z:Str} (h:okS z):PyData.strOk z=true:=by
 have ha:abc.cps.toList.all (λc=>decide (c < 0x110000))=true:=by trivial
 unfold PyData.strOk;rw[Array.all_eq_true'];exact λc hc=>List.all_eq_true.mp ha c (h c (Array.mem_toList_iff.mpr hc))
theorem okS.append {x y:Str} (h:okS x) (h':okS y):okS (x++y):=by
 intro c hc;have:c∈x.cps.toList++y.cps.toList:=by
  have e:(x++y).cps=x.cps++y.cps:=rfl;rw[e,Array.toList_append] at hc;exact hc
 rcases Qbu.mp this with z | z
 ·exact h c z
 ·exact h' c z
theorem okS.slice {x:Str} (h:okS x) (l u:Option Int):okS (Txt.slice x l u):=by
 unfold Txt.slice;split
 ·exact h
 ·intro c hc;have hc':c∈(Builtin.Str.strSliceIndices l u 1 x.length).filterMap (x.cps[·]?):=by simpa using hc
  obtain⟨i,_,e⟩:=List.mem_filterMap.mp hc';exact h c (Array.mem_toList_iff.mpr (Array.mem_of_getElem? e))
theorem okS.join {sep:Str} (hs:okS sep):∀{ts:YF},(∀t∈ts,okS t)->okS (Str.join sep ts)
 | [],_=>λc hc=>by cases hc
 | [x],h=>h x (QaM ..)
 | x::y::r,h=>((h x (QaM ..)).append hs).append (okS.join hs (ts:=y::r) λt ht=>h t (QaB _ ht))
theorem Kh:abc.cps.toList.length=26:=by trivial
theorem ZM:abc.cps.toList.Nodup:=by trivial
theorem Vj:okS abc:=λc hc=>hc
theorem Qd:∀ts:YF,(Str.join "" ts).length=(ts.map (·.length)).sum
 | []=>rfl
 | [x]=>by show x.length=_;simp
 | x::y::r=>by
  show ((x++"")++Str.join "" (y::r)).length=_;rw[Str.length_append,Str.length_append,Qd (y::r),QbM (a:=x),List.sum_cons];have:(Str.ofString "").length=0:=by trivial
  rw[this];omega
theorem cM (n:Nat):(Builtin.Str.strSliceIndices (some 1) none 1 n).length<=n - 1:=by
 unfold Builtin.Str.strSliceIndices sliceRange;simp only[show (1:Int) > 0 by decide,if_true,Qbt,Qbc,show ¬((1:Int) < 0) by decide,Qch];split
 ·rw[Int.ediv_one];omega
 ·exact Qca _
theorem Ub (z:Str):(Txt.slice z (some 1) none).length<=z.length - 1:=by
 have h:=cM z.length;unfold Txt.slice;split
 ·rename_i hc;rw[Qbp] at hc;have:=eq_of_beq hc.2;omega
 ·show (List.filterMap _ _).toArray.size<=_;rw[QaZ];exact QbT (List.length_filterMap_le _ _) h
theorem ZP {r:Int} (h0:0<=r) (h1:r < 26):∃c,atI abc.cps.toList r=some c/\okS ⟨#[c]⟩:=by
 have hl:r.toNat < abc.cps.toList.length:=by rw[Kh];omega
 refine⟨abc.cps.toList[r.toNat],?_,λc hc=>?_⟩
 ·have:=Az (xs:=abc.cps.toList) (j:=r.toNat) (Qai hl);rw[Int.toNat_of_nonneg h0] at this;exact this
 ·have:c=abc.cps.toList[r.toNat]:=by simpa using hc
  rw[this];exact Vj _ (List.getElem_mem hl)
theorem O6:∀{ys:YF},(∀y∈ys,y.length=1)->(ys.map (·.length)).sum=ys.length
 | [],_=>rfl
 | y::r,h=>by
  rw[QbM,List.sum_cons,h y (QaM ..),O6 (ys:=r) λt ht=>h t (QaB _ ht),Qbm];omega
theorem Ob (ys:YF):(ys.map V.str).all Gn=true:=by
 rw[List.all_map,List.all_eq_true];intro _ _;rfl
theorem Jg (z:Str):∀ys:YF,inV (.str z) (ys.map V.str)=true ↔ z∈ys
 | []=>by constructor <;> intro h <;> cases h
 | y::r=>by
  have ih:=Jg z r;unfold inV at ih ⊢;rw[QbM,QbQ,Bool.or_eq_true,ih,QbL];have:eqV (.str y) (.str z)=true ↔ z=y:=by
   show (y == z)=true ↔ z=y;rw[beq_iff_eq];exact⟨λh=>h.symm,λh=>h.symm⟩
  rw[this]
theorem N5:∀{l m:YF},l.Nodup->(∀x∈l,x∈m)->l.length<=m.length
 | [],_,_,_=>Qca _
 | a::r,m,nd,h=>by
  have ha:=h a (QaM ..);obtain⟨n1,n2⟩:=QbA.mp nd;have:=N5 (l:=r) (m:=m.erase a) n2 λx hx=>(List.mem_erase_of_ne (λe=>n1 (by rw[<-e];exact hx))).mpr (h x (QaB _ hx));rw[List.length_erase_of_mem ha] at this;have hp:=Qau ha;rw[Qbm];omega
theorem QJ (rest:Str) {ys:YF} (h:ys.length < 26):∃(i c:Nat),abc.cps[i]?=some c/\((⟨#[c]⟩ : Str)++rest)∉ys:=by
 refine Classical.byContradiction λhn=>?_;have hall:∀x∈abc.cps.toList.map (λc=>(⟨#[c]⟩ : Str)++rest),x∈ys:=λx hx=>by
  obtain⟨c,hc,rfl⟩:=QbV.mp hx;obtain⟨i,hi⟩:=QaE hc;refine Classical.byContradiction λhm=>hn ⟨i,c,by simpa using hi,hm⟩
 have nd:(abc.cps.toList.map (λc=>(⟨#[c]⟩ : Str)++rest)).Nodup:=by
  refine List.pairwise_map.mpr (ZM.imp λ{c d} hne e=>hne ?_);have e1:(#[c]++rest.cps:Array Nat)=#[d]++rest.cps:=congrArg Str.cps e;have e2:=congrArg Array.toList e1;rw[Array.toList_append,Array.toList_append] at e2;injection e2
 have:=N5 nd hall;rw[Qbt,Kh] at this;omega
theorem Qcg {α : Type} {l:List α} {i:Nat} {x:α} (h:l[i]?=some x):l.take (i+1)=l.take i++[x]:=by rw[List.take_add_one,h];rfl
theorem Tn {X:Cx} {K:YD} (h:X.K=K) (hc:X.calm=true):Fe X (.builtin "max") (λxs H Q=>∃(p:Addr) (ns:List Int),xs=[.ref p]/\SqL K H p (ns.map V.int)/\0 < ns.length/\∀M,M∈ns->(∀a,a∈ns->a<=M)->Q (.int M) H):=h ▸ Oh hc
theorem Ag.IV {a b:Addr} {H HH H':Hp} (s:Ag b H HH) (t:Ag a HH H') (f:H a=none):Ag b H H':=λc o e n=>t _ _ (s _ _ e n) λz=>by rw[z,f] at e;cases e
theorem eO {i:Int} (h0:0<=i) (h6:i < 6) {a b c d e f:Int} (P:Int->Prop) (ha:P a) (hb:P b) (hc:P c) (hd:P d) (he:P e) (hf:P f):∃p,atI [V.int a,.int b,.int c,.int d,.int e,.int f] i=some (.int p)/\P p:=by
 have:i=0\/i=1\/i=2\/i=3\/i=4\/i=5:=by omega
 rcases this with rfl | rfl | rfl | rfl | rfl | rfl
 ·exact⟨_,rq,ha⟩
 ·exact⟨_,rq,hb⟩
 ·exact⟨_,rq,hc⟩
 ·exact⟨_,rq,hd⟩
 ·exact⟨_,rq,he⟩
 ·exact⟨_,rq,hf⟩
def T9:Sp:=λvs H Q _=>∃(b:Addr) (n:Nat),vs=[.ref b]/\Bj H b n/\n<=9000/\∀z H',1<=z.length->z.length<=8->okS z->Bj H' b (n+9)->Ag b H H'->Q (.str z) H'
def Q5:Sp:=λvs H Q _=>∃(b:Addr) (n many:Nat),vs=[.ref b,.int many]/\Bj H b n/\n<=8000/\many<=20 /\
 ∀l (ys:YF) H',H l=none->ys.length=many->(∀y∈ys,(1<=y.length/\y.length<=8)/\okS y)->ys.Nodup->H' l=some (.lst (ys.map V.str))->Bj H' b (n+9*many)->Ag b H H'->Q (.ref l) H'
section
variable {P:Program} {w:World} {K:YD} {mg:YB} {base:Heap}
abbrev jd(a:PySem.Addr):Option L2.V:=some (.ref a)
abbrev xi:YF:=["_law_place","_law_letters","_law_bag_here"]
theorem Xz (C:Code K mg "_law_name" Jc G5) (T:Nm mg) (Ax:Good P w K mg base "_law_take" 1 Eb Ia):Good P w K mg base "_law_name" 2 G5 T9:=by
 refine C.good NT (λvs H Q E h=>?_) (λf cdv A outer s H vs Q E hr h=>?_)
 ·obtain⟨b,n,rfl,_⟩:=h;rfl
 obtain⟨b,n,rfl,hb,hn,q⟩:=h;refine⟨_,(Af (Av (i:=1) NT.nd rfl (Or.inr rfl) BL)
 (Ai (Bs (Dn PySem.F.plainAttrs_str PySem.F.slot_str_join PySem.F.type_str_join XM BL (Aa (Fw (N':=xi) rfl (Cu.of (src:=[none,some 1,some 0]) (Ao Jc) xg rfl rfl rfl (by trivial) (by trivial) (by trivial) rfl (by trivial)) (BR rfl T.range (Aa (Aq BW Ae (Bg Ax hr (Aa (pv 0) (Aa Ae Ac)))) Ac)) (λ_ _ _ _=>(Ah (i:=0) (show List.Nodup (xi:YF) by trivial) rfl (Or.inl rfl))) (λ_ _ _ _=>JB) (λ_ _ _ _=>(Bb Zk (pv 1) (Bg Ax hr (Aa (pv 2) (Aa Ae Ac))) (λ_ _=>rfl)))) Ac))))),?_⟩
 show let R0:TS:=_;Am _ R0 _ _ _;intro R0;refine⟨rq,_,rq,b,n,8,rq,hb,by omega,by decide,by decide,λr H1 r0 r1 hb1 sb1=>⟨_,_,rq,rq,_,rq,by omega,by omega,λl hl=>?_⟩⟩;have nbl:b≠l:=hb1.nb hl;have fl:H l=none:=sb1.free hb1.ex hl;let J0:YN:=λi O HH=>∃(u:Option V) (ys:YF),O=[u,some (.str abc),jd b]/\HH l=some (.lst (ys.map V.str))/\ys.length=i/\(∀y∈ys,y.length=1/\okS y)/\Bj HH b (n+1+i)/\Ag b H HH;refine Ms J0
  ⟨none,[],rq,Ab,rq,(λy hy=>by cases hy),hb1.same (Ad hl _),sb1.trans (Ag.of (Ad hl _))⟩ (λi O HH hi h=>?_) (fun O HH h=>?_)
 ·obtain⟨u,ys,rfl,e1,e2,e3,e4,e5⟩:=h;refine⟨_,rq,_,rq,b,_,26,rq,e4,by omega,by decide,by decide,λr' HA r0' r1' hbA sA=>?_⟩;obtain⟨c,ec,oc⟩:=ZP r0' r1';have eA:=sA _ _ e1 nbl.symm;refine⟨_,_,c,rq,rq,Al (by show abc.cps.size<=1000;rw[<-QaH,Kh];decide),ec,_,eA,Bc (by rw[Qbt];omega),_,ys++[⟨#[c]⟩],rq,?_,?_,λy hy=>?_,hbA.FQ Ag.upd nbl,?_⟩
  ·rw[Ab,Qbw];rfl
  ·rw[QaL,e2];rfl
  ·rcases Qbu.mp hy with h | h
   ·exact e3 y h
   ·have:y=⟨#[c]⟩:=by simpa using h
    rw[this];exact⟨rq,oc⟩
  ·exact λc o e ne=>Ag.upd _ _ (sA _ _ (e5 _ _ e ne) ne) λz=>by rw[z,fl] at e;cases e
 obtain⟨u,ys,rfl,e1,e2,e3,e4,e5⟩:=h;have hs:=O6 λy hy=>(e3 y hy).1;refine⟨_,l,ys,rq,rq,SqL.of e1,?_,?_⟩
 ·rw[hs];have:(Str.ofString "").length=0:=by trivial
  rw[this];omega
 ·have hj:=Qd ys;rw[hs] at hj;refine q _ HH ?_ ?_ ?_ (e4.mono (by omega)) e5
  ·show 1<=(Builtin.Str.glued _ ys).length;rw[StrLaws.glued_eq_join];show 1<=(Str.join "" ys).length;omega
  ·show (Builtin.Str.glued _ ys).length<=8;rw[StrLaws.glued_eq_join];show (Str.join "" ys).length<=8;omega
  ·show okS (Builtin.Str.glued _ ys);rw[StrLaws.glued_eq_join];exact okS.join (λc hc=>by cases hc) λy hy=>(e3 y hy).2
abbrev xj:YF:=["_law_one","_law_name_here","_law_found"]
theorem V3 (C:Code K mg "_law_names" Hj Gu) (T:Nm mg) (Ww:Good P w K mg base "_law_name" 2 G5 T9):Good P w K mg base "_law_names" 3 Gu Q5:=by
 refine C.good FP (λvs H Q E h=>?_) (λf cdv A outer s H vs Q E hr h=>?_)
 ·obtain⟨b,n,many,rfl,_⟩:=h;rfl
 obtain⟨b,n,many,rfl,hb,hn,hm,q⟩:=h;refine⟨_,(Af (Av (i:=2) FP.nd rfl (Or.inr rfl) (Cg Ac))
 (Af (Bo Qbv rfl (BR rfl T.range (Aa (pv 1) Ac)) (Ah (i:=3) FP.nd rfl (Or.inl rfl))
 (Af (Av (i:=4) FP.nd rfl (Or.inr rfl) (Bg Ww hr (Aa (pv 0) Ac)))
 (Af (Cq (Bl Hl (pv 4) (pv 2) (by with_unfolding_all rfl)) (Ai (Av (i:=4) FP.nd rfl (Or.inr rfl) (Bb BP (Fw (N':=xj) rfl (Cu.of (src:=[none,some 4,some 2]) (Ao Hj) xh rfl rfl rfl (by trivial) (by trivial) (by trivial) rfl (by trivial)) (YX BL) (λ_ _ _ _=>(Ah (i:=0) (show List.Nodup (xj:YF) by trivial) rfl (Or.inl rfl))) (λ_ _ _ _=>(Ii (Bl (Jo (K:=K) rfl) (Aq Lz (pv 0) (CP Uc (pv 1) (Dg Ae) Dh)) (pv 2) (by with_unfolding_all rfl)))) (λ_ _ _ _=>(Aq Lz (pv 0) (CP Uc (pv 1) (Dg Ae) Dh)))) Ae (λ_ _=>rfl)))) BK)
 (Ai (CT (Dn Qan Qaj Qak CV (pv 2) (Aa (pv 4) Ac)))))))
 (Ai (Bs (pv 2))))),?_⟩
 show let R0:TS:=_;let R1:TS:=_;let R2:TS:=Am (Dr _ R1 _) R0;let R3:TS:=Am _ R2;let R4:TS:=Am (Cd _ _ R3) _;Am _ R4 _ _ _;intro R0 R1 R2 R3 R4;refine⟨Al (by show 0<=1000;decide),λlf hlf=>?_⟩;have s1:=Ad hlf (.lst []);have nbf:b≠lf:=hb.nb hlf;refine⟨_,rq,_,rq,by omega,by omega,?_⟩;rw[Qbb];let J1:YN:=λi O HH=>∃(u3 u4:Option V) (ys:YF),O=[jd b,some (.int many),jd lf,u3,u4]/\HH lf=some (.lst (ys.map V.str))/\ys.length=i/\(∀y∈ys,(1<=y.length/\y.length<=8)/\okS y)/\Bj HH b (n+9*i)/\Ag b H HH/\ys.Nodup;refine Cj J1
  ⟨_,_,[],rq,Ab,rq,(λy hy=>by cases hy),hb.same s1,Ag.of s1,List.nodup_nil⟩ (λi O HH hi h=>?_) (fun O HH h=>?_)
 ·obtain⟨u3,u4,ys,rfl,e1,e2,e3,e4,e5,e6⟩:=h;refine⟨_,rq,b,_,rq,e4,by omega,λz HA hz1 hz oz hbA sA=>?_⟩;have eA:=sA _ _ e1 nbf.symm;have s5:Ag b H HA:=e5.trans sA;have fin:∀(y:Str) (HB:Hp),(1<=y.length/\y.length<=8)->okS y->y∉ys->HB lf=some (.lst (ys.map V.str))->Bj HB b (n+9*i+9)->Ag b H HB->∃(u3 u4:Option V) (ys':YF),[some (V.ref b),some (.int many),jd lf,some (.int (0+(i:Int))),some (.str y)]=[jd b,some (.int many),jd lf,u3,u4] /\
    upd HB lf (.lst (ys.map V.str++[.str y])) lf=some (.lst (ys'.map V.str))/\ys'.length=i+1/\(∀y∈ys',(1<=y.length/\y.length<=8)/\okS y)/\Bj (upd HB lf (.lst (ys.map V.str++[.str y]))) b (n+9*(i+1))/\Ag b H (upd HB lf (.lst (ys.map V.str++[.str y])))/\ys'.Nodup:=λy HB hy oy hny hB bB sB=>by
   refine⟨_,_,ys++[y],rq,?_,?_,λx hx=>?_,(bB.FQ Ag.upd nbf).mono (by omega),Ag.IV sB Ag.upd hlf,Rh e6 hny⟩
   ·rw[Ab,Qbw];rfl
   ·rw[QaL,e2];rfl
   ·rcases Qbu.mp hx with h | h
    ·exact e3 x h
    ·have:x=y:=by simpa using h
     rw[this];exact⟨hy,oy⟩
  refine⟨_,rq,_,rq,lf,_,rq,.inl (SqL.of eA),rq,Ob ys,_,rq,GD (λ_=>?_) (λhnz=>?_)⟩
  ·refine⟨_,rq,λl2 hl2=>?_⟩;have nfl:lf≠l2:=Ay eA hl2;have hsl:(Txt.slice z (some 1) none).length<=7:=QbT (Ub z) (by omega);have osl:=oz.slice (some 1) none;let J2:YN:=λi O HH=>∃(u:Option V) (ws:YF),O=[u,some (.str z),jd lf]/\HH=upd HA l2 (.lst (ws.map V.str))/\ws.length<=i/\(∀y∈ws,((1<=y.length/\y.length<=8)/\okS y)/\y∉ys)/\((∃j c,j < i/\abc.cps[j]?=some c/\((⟨#[c]⟩ : Str)++Txt.slice z (some 1) none)∉ys)->ws≠[]);refine WL J2
    ⟨none,[],rfl,rfl,QbZ _,(λy hy=>by cases hy),λ⟨j,c,hj,_⟩=>absurd hj (Nat.not_lt_zero _)⟩ (λj c O HH hc h=>?_) (fun O HH h=>?_)
   ·obtain⟨u,ws,rfl,rfl,l1,l2',l3⟩:=h;have hj:j < 26:=by
     have:=(Qae.mp hc).1;rw[<-QaH] at this;have e:=Kh;unfold abc at e;omega
    have oc:okS ⟨#[c]⟩:=λd hd=>by
     have:d=c:=by simpa using hd
     rw[this];exact Vj c (Array.mem_toList_iff.mpr (Array.mem_of_getElem? hc))
    have hlen:(⟨#[c]⟩ : Str).length+(Txt.slice z (some 1) none).length<=sizeLine:=by
     show 1+_<=sizeLine;rw[sizeLine_eq];omega
    have hzl:z.length<=sizeLine:=by rw[sizeLine_eq];omega
    have eB:upd HA l2 (.lst (ws.map V.str)) lf=some (.lst (ys.map V.str)):=by rw[Aw nfl];exact eA
    refine⟨_,rq,_,rq,_,rq,_,rq,hzl,_,_,rq,rq,hlen,_,rq,lf,_,rq,.inl (SqL.of eB),rq,Ob ys,_,rq,GD (λt=>?_) (λt=>?_)⟩
    ·refine⟨_,rq,_,rq,_,rq,_,rq,hzl,_,_,rq,rq,hlen,_,Ab,Bc (by rw[Qbt];omega),_,ws++[(⟨#[c]⟩ : Str)++Txt.slice z (some 1) none],rq,?_,?_,λy hy=>?_,λ_ e=>?_⟩
     ·rw[JW,Qbw];rfl
     ·rw[QaL];show _+1<=_;omega
     ·rcases Qbu.mp hy with h | h
      ·exact l2' y h
      ·have e:y=(⟨#[c]⟩ : Str)++Txt.slice z (some 1) none:=by simpa using h
       rw[e];refine⟨⟨⟨by rw[Str.length_append];show 1<=1+_;omega,by rw[Str.length_append];show 1+_<=8;omega⟩,oc.append osl⟩,λhin=>?_⟩;have t:(!inV (.str ((⟨#[c]⟩ : Str)++Txt.slice z (some 1) none)) (ys.map V.str))=true:=t;rw[(Jg _ ys).mpr hin] at t;cases t
     ·have:=congrArg List.length e;rw[QaL] at this;simp at this
    ·refine⟨_,ws,rfl,rfl,by omega,l2',λ⟨j',c',hj',hc',hn'⟩=>?_⟩;by_cases ej:j'=j
     ·subst ej;have ec:c'=c:=by
       have e1:abc.cps[j']?=some c:=hc;rw[hc'] at e1;exact Qby e1
      subst ec;exfalso;apply t;show (!inV (.str ((⟨#[c']⟩ : Str)++Txt.slice z (some 1) none)) (ys.map V.str))=true;cases e:inV (.str ((⟨#[c']⟩ : Str)++Txt.slice z (some 1) none)) (ys.map V.str) with
      | false=>rfl
      | true=>exact absurd ((Jg _ ys).mp e) hn'
     ·exact l3 ⟨j',c',by omega,hc',hn'⟩
   ·obtain⟨u,ws,rfl,rfl,l1,l2',l3⟩:=h;obtain⟨j,c,hc,hnot⟩:=QJ (Txt.slice z (some 1) none) (ys:=ys) (by omega);have hws:=l3 ⟨j,c,(Qae.mp hc).1,hc,hnot⟩;cases ws with
    | nil=>exact absurd rfl hws
    | cons w0 wr=>
     obtain⟨⟨y1,y2⟩,y3⟩:=l2' w0 (QaM ..);have s2:=Ad hl2 (.lst ((w0::wr).map V.str));have eB:=s2 _ _ eA;refine⟨l2,_,_,_,rq,rq,SqL.of Ab,Az (xs:=(w0::wr).map V.str) (j:=0) rfl,?_⟩;refine⟨_,rq,.inl ⟨rq,_,SqL.of eB⟩,_,rq,lf,_,_,rq,rq,eB,Bc (by rw[Qbt];omega),?_⟩;exact fin w0 _ y1 y2 y3 eB (hbA.same s2) (s5.trans (Ag.of s2))
  ·refine⟨_,rq,.inl ⟨rq,_,SqL.of eA⟩,_,rq,lf,_,_,rq,rq,eA,Bc (by rw[Qbt];omega),?_⟩;exact fin z HA ⟨hz1,hz⟩ oz (λhin=>hnz ((Jg _ ys).mpr hin)) eA hbA s5
 ·obtain⟨u3,u4,ys,rfl,e1,e2,e3,e4,e5,e6⟩:=h;exact⟨_,rq,q lf ys HH hlf e2 e3 e6 e1 e4 e5⟩
end
structure Dev where
 kind:Str
 addr:Int
structure Place where
 kind:Str
 addr:Int
 spur:List Dev
def Fd (H:Hp) (v:V) (d:Dev):Prop:=∃t,v=.ref t/\H t=some (.tup [.str d.kind,.int d.addr])
def Cz (H:Hp) (v:V) (p:Place):Prop:=∃t u vs,v=.ref t/\H t=some (.tup [.str p.kind,.int p.addr,.ref u])/\H u=some (.tup vs)/\Paired (Fd H) vs p.spur
def LoopAt (H:Hp) (v:V) (ps:List Place):Prop:=∃t vs,v=.ref t/\H t=some (.tup vs)/\Paired (Cz H) vs ps
theorem Fd.tups {H H':Hp} (s:Ak H H') {v:V} {d:Dev} (h:Fd H v d):Fd H' v d:=by
 obtain⟨t,e,q⟩:=h;exact⟨t,e,s _ _ q⟩
theorem Cz.tups {H H':Hp} (s:Ak H H') {v:V} {d:Place} (h:Cz H v d):Cz H' v d:=by
 obtain⟨t,u,vs,e,q1,q2,q3⟩:=h;exact⟨t,u,vs,e,s _ _ q1,s _ _ q2,Paired.Bh q3 λ_ _ z=>z.tups s⟩
theorem LoopAt.tups {H H':Hp} (s:Ak H H') {v:V} {d:List Place} (h:LoopAt H v d):LoopAt H' v d:=by
 obtain⟨t,vs,e,q1,q2⟩:=h;exact⟨t,vs,e,s _ _ q1,Paired.Bh q2 λ_ _ z=>z.tups s⟩
theorem Paired.Ca {α β : Type} {F:α->β->Prop}:∀{l₁ : List α} {l₂ : List β} {i:Nat} {x:α},Paired F l₁ l₂->l₁[i]?=some x->∃y,l₂[i]?=some y/\F x y
 | _,_,_,_,.nil,h=>by simp at h
 | _,_,0,_,.cons a _,h=>by simp at h;subst h;exact⟨_,rfl,a⟩
 | _,_,i+1,x,.cons _ t,h=>by
  obtain⟨y,h1,h2⟩:=Paired.Ca (i:=i) (x:=x) t (by simpa using h);exact⟨y,by simpa using h1,h2⟩
theorem Qcb {α β : Type} {F:α->β->Prop} {a:α} {b:β} (h:F a b):∀{l₁ : List α} {l₂ : List β},Paired F l₁ l₂->Paired F (l₁++[a]) (l₂++[b])
 | _,_,.nil=>.cons h .nil
 | _,_,.cons x t=>.cons x (Qcb h t)
def Gd (k:Str):Prop:=k="seeker"\/k="knob"\/k="bell"\/k="door"
structure OkP (p:Place):Prop where
 spur:p.spur.length<=3
 kinds:∀d∈p.spur,Gd d.kind
 form:(p.kind="opener"/\p.addr=0/\p.spur=[])\/Gd p.kind
structure Zone where
 name:Str
 adr:List Int
def EY (H:Hp) (v:V) (z:Zone):Prop:=∃t u,v=.ref t/\H t=some (.tup [.str z.name,.ref u])/\H u=some (.tup (z.adr.map V.int))
theorem EY.tups {H H':Hp} (s:Ak H H') {v:V} {z:Zone} (h:EY H v z):EY H' v z:=by
 obtain⟨t,u,e,q1,q2⟩:=h;exact⟨t,u,e,s _ _ q1,s _ _ q2⟩
def Cy (k:Str):Bool:=inV (.str k) [.str "seeker",.str "knob"]
def CG (p:Place):List Dev:=⟨p.kind,p.addr⟩::p.spur
def CK (ds:List Dev):List Int:=(ds.filter λd=>Cy d.kind).map (·.addr)
def Ej (ps:List Place):List Int:=ps.flatMap λp=>CK (CG p)
abbrev YU:=List (List Place)
def Cp (ls:YU):List Int:=ls.flatMap Ej
theorem Js (ds:List Dev) (d:Dev):CK (ds++[d])=CK ds++(if Cy d.kind=true then [d.addr] else []):=by
 unfold CK;rw[QaY,Qbw];congr 1;by_cases h:Cy d.kind=true
 ·rw[if_pos h];simp[List.filter,h]
 ·rw[if_neg h];simp[List.filter,h]
theorem TV (ps:List Place) (p:Place):Ej (ps++[p])=Ej ps++CK (CG p):=by unfold Ej;rw[QaI];simp
theorem RJ (ls:YU) (ps:List Place):Cp (ls++[ps])=Cp ls++Ej ps:=by unfold Cp;rw[QaI];simp
def ptS (a:List Int×Int) (p:Place):List Int×Int:=if V.str p.kind=V.str "opener" then (a.1++[a.2],0) else (a.1,a.2+1+(p.spur.length:Int))
def pst (ps:List Place):List Int×Int:=ps.foldl ptS ([],0)
def Bw (ps:List Place):List Int:=(pst ps).1++[(pst ps).2]
theorem Pq (ps:List Place) (p:Place):pst (ps++[p])=ptS (pst ps) p:=by unfold pst;rw[List.foldl_append];rfl
abbrev KJ:Stmt:=top 16
abbrev G6:YF:=["_law_bag_here","_law_numbers","_law_most_places"]
theorem Fv:Bx ["_law_bag_here","_law_numbers","_law_most_places","_law_places","_law_at","_law_many","_law_some","_law_way"] G6 (Ao KJ):=by ac_rfl
abbrev Jy:Stmt:=top 17
abbrev Fx:YF:=["_law_places"]
theorem FN:Bx ["_law_places","_law_found","_law_kind","_law_address","_law_spur"] Fx (Ao Jy):=by ac_rfl
def Cv (a b:Addr) (H H':Hp):Prop:=∀c o,H c=some o->c≠a->c≠b->H' c=some o
theorem Cv.trans {a b:Addr} {H H1 H2:Hp} (x:Cv a b H H1) (y:Cv a b H1 H2):Cv a b H H2:=λc o e n m=>y _ _ (x _ _ e n m) n m
theorem Cv.l {a b:Addr} {H H1:Hp} (x:Ag a H H1):Cv a b H H1:=λc o e n _=>x _ _ e n
theorem Cv.r {a b:Addr} {H H1:Hp} (x:Ag b H H1):Cv a b H H1:=λc o e _ m=>x _ _ e m
theorem Cv.of {a b:Addr} {H H1:Hp} (x:Same H H1):Cv a b H H1:=λc o e _ _=>x _ _ e
theorem Cv.IV {a b p:Addr} {H HH H':Hp} (s:Cv a b H HH) (t:Ag p HH H') (f:H p=none):Cv a b H H':=λc o e n m=>t _ _ (s _ _ e n m) λz=>by rw[z,f] at e;cases e
def adP (p:Place):List Int:=if V.str p.kind=V.str "opener" then [] else p.addr::p.spur.map (·.addr)
def adL (ps:List Place):List Int:=ps.flatMap adP
theorem Lf (ps:List Place) (p:Place):adL (ps++[p])=adL ps++adP p:=by unfold adL;rw[QaI];simp
def opP:Place:=⟨"opener",0,[]⟩
theorem aC:OkP opP:=⟨by show 0<=3;decide,(λd hd=>by cases hd),.inl ⟨rfl,rfl,rfl⟩⟩
theorem ZL:adP opP=[]:=if_pos rfl
theorem Ma {k:Str} (h:Gd k):¬V.str k=V.str "opener":=by
 rcases h with rfl | rfl | rfl | rfl <;> decide +kernel
theorem X7 {i:Int} (h0:0<=i) (h4:i < 4):∃k,atI [V.str "seeker",.str "knob",.str "bell",.str "door"] i=some (.str k)/\Gd k:=by
 have:i=0\/i=1\/i=2\/i=3:=by omega
 rcases this with rfl | rfl | rfl | rfl
 ·exact⟨_,rq,.inl rfl⟩
 ·exact⟨_,rq,.inr (.inl rfl)⟩
 ·exact⟨_,rq,.inr (.inr (.inl rfl))⟩
 ·exact⟨_,rq,.inr (.inr (.inr rfl))⟩
theorem Dt {xs:YG} {k:Nat} (h:k<=xs.length):Fp xs (some (k:Int)) none=xs.drop k:=by
 unfold Fp;rw[HT.Pg,HT.Q8,Nat.min_eq_left h];exact List.take_of_length_le (by rw[Qbn];omega)
theorem Uh {n:Nat} (h:0 < n):seqIndex? 0 n=some 0:=by
 unfold seqIndex?;simp only[if_neg (show ¬(0:Int) < 0 by decide)];rw[if_pos (by simp;omega)];rfl
def Ua:Sp:=λvs H Q _=>∃(b nb:Addr) (n mp:Nat) (ns:List Int),vs=[.ref b,.ref nb,.int mp]/\Bj H b n/\n<=5000/\b≠nb/\H nb=some (.lst (ns.map V.int))/\1<=mp/\mp<=12/\ns.length<=100 /\
 ∀t ps ns' H',LoopAt H' (.ref t) ps->(∀p∈ps,OkP p)->1<=ps.length->ps.length<=mp->ns=adL ps++ns'->H' nb=some (.lst (ns'.map V.int))->Bj H' b (n+100)->Cv b nb H H'->Q (.ref t) H'
def KC:Sp:=λvs H Q _=>∃(t:Addr) (ps:List Place),vs=[.ref t]/\LoopAt H (.ref t) ps/\(∀p∈ps,OkP p)/\ps.length<=100/\∀l H',H' l=some (.lst ((Bw ps).map V.int))->Same H H'->Q (.ref l) H'
def Xg (b nb lp:Addr) (mp:Int) (H:Hp) (n:Nat) (ns:List Int) (i:Nat) (O : St) (HH:Hp):Prop:=
 ∃u4 u5 u6 u7 vs ps ns',O=[jd b,jd nb,some (.int mp),jd lp,u4,u5,u6,u7]/\HH lp=some (.lst vs)/\Paired (Cz HH) vs ps/\ps.length=i/\(∀p∈ps,OkP p)/\ns=adL ps++ns'/\HH nb=some (.lst (ns'.map V.int))/\Bj HH b (n+1+7*i)/\Cv b nb H HH
section
variable {P:Program} {w:World} {K:YD} {mg:YB} {base:Heap}
theorem XC (C:Code K mg "_law_loop" KJ G6) (T:Nm mg) (Ax:Good P w K mg base "_law_take" 1 Eb Ia):Good P w K mg base "_law_loop" 2 G6 Ua:=by
 refine C.good Fv (λvs H Q E h=>?_) (λf cdv A outer s H vs Q E hr h=>?_)
 ·obtain⟨b,nb,n,mp,ns,rfl,_⟩:=h;rfl
 obtain⟨b,nb,n,mp,ns,rfl,hb,hn,nbn,hnb,fP,hmp,hns,q⟩:=h;refine⟨_,(Af (Av (i:=3) Fv.nd rfl (Or.inl rfl) (Cg Ac))
 (Af (Bo Qbv rfl (BR rfl T.range (Aa (Aq BW Ae (Bg Ax hr (Aa (pv 0) (Aa (pv 2) Ac)))) Ac)) (Ah (i:=4) Fv.nd rfl (Or.inl rfl))
 (Af (Av (i:=5) Fv.nd rfl (Or.inl rfl) (Aq BW Ae (Bb BP (@Cg _ _ _ _ (@Aa _ _ _ _ _ (@Ae _ _ _ _) (@Aa _ _ _ _ _ (@Ae _ _ _ _) (@Aa _ _ _ _ _ (@Ae _ _ _ _) (@Aa _ _ _ _ _ (@Ae _ _ _ _) (@Aa _ _ _ _ _ (@Ae _ _ _ _) (@Aa _ _ _ _ _ (@Ae _ _ _ _) (@Ac _) Bv) Bv) Bv) Bv) Bv) Bv)) (Bg Ax hr (Aa (pv 0) (Aa Ae Ac))) (λ_ _=>rfl))))
 (Ai (Cq (PW.pt (ak (Bl Ho (Bg Ax hr (Aa (pv 0) (Aa Ae Ac))) Ae (Ci _)) (YT (Bl SJ (Bf Ba rfl T.len Cm (Aa (pv 1) Ac)) (pv 5) (Ci _))))) (Ai (CT (Dn Qan Qaj Qak CV (pv 3) (Aa (Bd (Aa BL (Aa Ae (Aa (Bd Ac) Ac)))) Ac)))) (Af (Av (i:=6) Fv.nd rfl (Or.inl rfl) (Cg Ac))
 (Af (Bo Qbv rfl (BR rfl T.range (Aa (pv 5) Ac)) (Ah (i:=7) Fv.nd rfl (Or.inl rfl))
 (Ai (CT (Dn Qan Qaj Qak CV (pv 6) (Aa (Bd (Aa (Bb BP (Cg (Aa BL (Aa BL (Aa BL (Aa BL Ac))))) (Bg Ax hr (Aa (pv 0) (Aa Ae Ac))) (λ_ _=>rfl)) (Aa (Dn Qan PySem.F.slot_list_pop PySem.F.type_list_pop PX (pv 1) (Aa Ae Ac)) Ac))) Ac)))))
 (Ai (CT (Dn Qan Qaj Qak CV (pv 3) (Aa (Aq Cw (Bb BP (pv 6) Ae (λ_ _=>rfl)) (Bd (Aa (Dq Dw rfl T.tuple Gj (Aa (CP Q7 (pv 6) (Dg Ae) Dh) Ac)) Ac))) Ac))))))))))
 (Ai (Bs (Dq Dw rfl T.tuple Gj (Aa (pv 3) Ac)))))),?_⟩
 show let R0:TS:=_;let R1:TS:=_;let R2:TS:=_;let R3:TS:=_;let R4:TS:=Am (Cd _ _ R3) R2;let R5:TS:=Am _ R4;let R6:TS:=Dr _ R1 R5;let R7:TS:=Am _ R6;let R8:TS:=Am (Cd _ _ R7) R0;Am _ R8 _ _ _;intro R0 R1 R2 R3 R4 R5 R6 R7 R8;refine⟨Al (by show 0<=1000;decide),λlp hlp=>?_⟩;have s0:=Ad hlp (.lst []);have nlb:b≠lp:=hb.nb hlp;have nln:nb≠lp:=Ay hnb hlp;refine⟨_,rq,_,rq,b,n,_,rq,hb.same s0,by omega,by omega,by omega,λr H1 r0 r1 hb1 sb1=>⟨_,_,rq,rq,_,rq,by omega,by omega,?_⟩⟩;obtain⟨rn,hrn⟩ : ∃rn:Nat,r=rn:=⟨r.toNat,by omega⟩;subst hrn;rw[show ((1:Int)+(rn:Int)).toNat=rn+1 by omega];have fL:∀{H2 H3:Hp},H2 lp=some (.lst [])->True:=λ_=>True.intro;refine Cj (Xg b nb lp mp H n ns) ⟨_,_,_,_,[],[],ns,rq,sb1 _ _ Ab nlb.symm,.nil,rq,(λp hp=>by cases hp),rq,sb1 _ _ (s0 _ _ hnb) nbn.symm,hb1,(Cv.of s0).trans (Cv.l sb1)⟩ (λi O HH hi h=>?_) (fun O HH h=>?_)
 ·obtain⟨u4,u5,u6,u7,vs,ps,ns',rfl,e1,e2,e3,e4,e5,e6,e7,e8⟩:=h;have fW:i < 12:=by omega
  have hlv:=QbK e2;refine⟨Al (by show 6<=1000;decide),λl6 hl6=>?_⟩;have s6:=Ad hl6 (.lst [.int 0,.int 0,.int 0,.int 1,.int 2,.int 3]);refine⟨_,rq,b,_,6,rq,e7.same s6,by omega,by decide,by decide,λr2 HA r20 r21 hbA sA=>?_⟩;obtain⟨m,em,m0,m3⟩:=eO r20 r21 (a:=0) (b:=0) (c:=0) (d:=1) (e:=2) (f:=3) (λp=>0<=p/\p<=3) (by decide) (by decide) (by decide) (by decide) (by decide) (by decide);obtain⟨mn,hmn⟩ : ∃mn:Nat,m=mn:=⟨m.toNat,by omega⟩;subst hmn;refine⟨l6,_,_,_,rq,rq,SqL.of (sA _ _ Ab (e7.nb hl6).symm),em,_,_,rq,rq,?_⟩;refine⟨_,rq,b,_,4,rq,hbA,by omega,by decide,by decide,λr3 HB r30 r31 hbB sB=>⟨rq,_,rq,?_⟩⟩;have sHB:Ag b HH HB:=((Ag.of s6).trans sA).trans sB;have tHB:Ak HH HB:=sHB.tup e7.BZ;have f1:=sHB _ _ e1 nlb.symm;have f2:Paired (Cz HB) vs ps:=Paired.Bh e2 λ_ _ z=>z.tups tHB;have f6:=sHB _ _ e6 nbn.symm;have f8:Cv b nb H HB:=e8.trans (Cv.l sHB);have opn:∀eo,HB eo=none->∀t,upd HB eo (.tup []) t=none->Xg b nb lp mp H n ns (i+1) [jd b,jd nb,some (.int mp),jd lp,some (.int (0+(i:Int))),some (.int (1+(mn:Int))),u6,u7] (upd (upd (upd HB eo (.tup [])) t (.tup [.str "opener",.int 0,.ref eo])) lp (.lst (vs++[.ref t]))):=λeo heo t ht=>by
   have t1:=Ad heo (.tup []);have t2:=Ad ht (.tup [.str "opener",.int 0,.ref eo]);have f1':=t2 _ _ (t1 _ _ f1);have nt:∀zs,(upd (upd HB eo (.tup [])) t (.tup [.str "opener",.int 0,.ref eo])) lp≠some (.tup zs):=λzs z=>by rw[f1'] at z;cases z
   have tu:=Ak.upd (o:=.lst (vs++[.ref t])) nt;refine⟨_,_,_,_,vs++[.ref t],ps++[opP],ns',rq,Ab,?_,by rw[QaL,e3];rfl,λp hp=>?_,?_,?_,?_,?_⟩
   ·refine Qcb ⟨t,eo,[],rq,tu _ _ Ab,tu _ _ (t2 _ _ Ab),.nil⟩ (Paired.Bh f2 λ_ _ z=>(z.tups (Ak.of (t1.trans t2))).tups tu)
   ·rcases Qbu.mp hp with z | z
    ·exact e4 p z
    ·have:p=opP:=by simpa using z
     rw[this];exact aC
   ·rw[Lf,ZL,Qbz];exact e5
   ·rw[Aw nln];exact t2 _ _ (t1 _ _ f6)
   ·exact (((hbB.same t1).same t2).FQ Ag.upd nlb).mono (by omega)
   ·exact (f8.trans (Cv.of (t1.trans t2))).IV Ag.upd hlp
  refine GD (λ_=>?_) (λ_=>?_)
  ·refine⟨_,rq,.inl ⟨rq,_,SqL.of f1⟩,Al (by show 0<=1000;decide),λeo heo=>⟨Al (by show 3<=1000;decide),λt ht=>⟨lp,_,_,rq,rq,Ad ht _ _ _ (Ad heo _ _ _ f1),Bc (by omega),opn eo heo t ht⟩⟩⟩
  ·refine⟨_,rq,nb,_,rq,.inl (SqL.of f6),_,rq,_,_,rq,rq,_,rq,GD (λ_=>?_) (λcc=>?_)⟩
   ·refine⟨_,rq,.inl ⟨rq,_,SqL.of f1⟩,Al (by show 0<=1000;decide),λeo heo=>⟨Al (by show 3<=1000;decide),λt ht=>⟨lp,_,_,rq,rq,Ad ht _ _ _ (Ad heo _ _ _ f1),Bc (by omega),opn eo heo t ht⟩⟩⟩
   ·have cc:¬(((ns'.map V.int).length:Nat):Int) < 1+(mn:Int):=λz=>cc (QbH z);rw[Qbt] at cc;refine⟨Al (by show 0<=1000;decide),λls hls=>?_⟩;have sl:=Ad hls (.lst []);have bM:lp≠ls:=Ay f1 hls;have Zb:nb≠ls:=Ay f6 hls;have Zc:b≠ls:=hbB.nb hls;refine⟨_,rq,_,rq,by omega,by omega,?_⟩;rw[show ((1:Int)+(mn:Int)).toNat=mn+1 by omega];have fU:H ls=none->True:=λ_=>True.intro;let J0:YN:=λj O HC=>∃u7 xs ds ns2,O=[jd b,jd nb,some (.int mp),jd lp,some (.int (0+(i:Int))),some (.int (1+(mn:Int))),jd ls,u7]/\HC ls=some (.lst xs)/\Paired (Fd HC) xs ds/\ds.length=j/\(∀d∈ds,Gd d.kind)/\ns'=ds.map (·.addr)++ns2/\HC nb=some (.lst (ns2.map V.int))/\Bj HC b (n+1+7*i+1+1+j)/\HC lp=some (.lst vs)/\Paired (Cz HC) vs ps/\(∀c o,HB c=some o->c≠b->c≠nb->HC c=some o);refine Cj J0
     ⟨_,[],[],ns',rq,Ab,.nil,rq,(λd hd=>by cases hd),rq,sl _ _ f6,hbB.same sl,sl _ _ f1,Paired.Bh f2 λ_ _ z=>z.tups (Ak.of sl),λc o e _ _=>sl _ _ e⟩ (λj O HC hj h=>?_) (fun O HC h=>?_)
    ·obtain⟨u7,xs,ds,ns2,rfl,g1,g2,g3,g4,g5,g6,g7,g8,g9,g10⟩:=h;refine⟨_,rq,.inl ⟨rq,_,SqL.of g1⟩,Al (by show 4<=1000;decide),λl4 hl4=>?_⟩;have s4:=Ad hl4 (.lst [.str "seeker",.str "knob",.str "bell",.str "door"]);refine⟨_,rq,b,_,4,rq,g7.same s4,by omega,by decide,by decide,λr4 HD r40 r41 hbD sD=>?_⟩;obtain⟨k,ek,hk⟩:=X7 r40 r41;have sCD:Ag b HC HD:=(Ag.of s4).trans sD;have tCD:Ak HC HD:=sCD.tup g7.BZ;have g6':=sCD _ _ g6 nbn.symm;cases ns2 with
     | nil=>
      rw[Qbz] at g5;have:=congrArg List.length g5;rw[Qbt,g3] at this;omega
     | cons a0 ns3=>
      refine⟨l4,_,_,_,rq,rq,SqL.of (sD _ _ Ab (g7.nb hl4).symm),ek,_,rq,.inl ⟨rq,_,SqL.of g6'⟩,nb,_,0,0,.int a0,rq,rq,g6',by decide,by decide,Uh (by rw[Qbt];show 0 < _+1;omega),rq,Al (by show 2<=1000;decide),λt ht=>?_⟩;have tn:Ak HD (upd HD nb (.lst (((a0::ns3).map V.int).eraseIdx 0))):=Ak.upd λzs z=>by rw[g6'] at z;cases z
      have tt:=Ad ht (.tup [.str k,.int a0]);have gls:upd HD nb (.lst (((a0::ns3).map V.int).eraseIdx 0)) ls=some (.lst xs):=by rw[Aw Zb.symm];exact sCD _ _ g1 Zc.symm
      refine⟨ls,_,_,rq,rq,tt _ _ gls,Bc (by rw[QbK g2];omega),?_⟩;have nt:∀zs,(upd (upd HD nb (.lst (((a0::ns3).map V.int).eraseIdx 0))) t (.tup [.str k,.int a0])) ls≠some (.tup zs):=λzs z=>by rw[tt _ _ gls] at z;cases z
      have tu:=Ak.upd (o:=.lst (xs++[.ref t])) nt;have Yl:Ak HC (upd (upd (upd HD nb (.lst (((a0::ns3).map V.int).eraseIdx 0))) t (.tup [.str k,.int a0])) ls (.lst (xs++[.ref t]))):=(tCD.trans tn).trans ((Ak.of tt).trans tu);refine⟨_,xs++[.ref t],ds++[⟨k,a0⟩],ns3,rq,Ab,Qcb ⟨t,rq,tu _ _ Ab⟩ (Paired.Bh g2 λ_ _ z=>z.tups Yl),by rw[QaL,g3];rfl,λd hd=>?_,?_,?_,?_,?_,Paired.Bh g9 λ_ _ z=>z.tups Yl,λc o e n1 n2=>?_⟩
      ·rcases Qbu.mp hd with z | z
       ·exact g4 d z
       ·have:d=⟨k,a0⟩:=by simpa using z
        rw[this];exact hk
      ·rw[g5,Qbw,Qbe];rfl
      ·rw[Aw Zb,tt _ _ Ab];rfl
      ·exact ((hbD.FQ Ag.upd nbn).same tt).FQ Ag.upd Zc
      ·rw[Aw bM,tt _ _ (by rw[Aw nln.symm];exact sCD _ _ g8 nlb.symm)]
      ·have e':=sCD _ _ (g10 _ _ e n1 n2) n1;rw[Aw (λz=>by rw[z,hls] at e;cases e),tt _ _ (by rw[Aw n2];exact e')]
    ·obtain⟨u7,xs,ds,ns2,rfl,g1,g2,g3,g4,g5,g6,g7,g8,g9,g10⟩:=h;cases ds with
     | nil=>cases g3
     | cons d0 dr=>
      cases g2 with
      | @cons x0 _ xr _ hd0 hdr=>
       obtain⟨t0,rfl,ht0⟩:=hd0;have lxr:=QbK hdr;have ldr:dr.length=mn:=by simpa using g3
       refine⟨_,rq,.inl ⟨rq,_,SqL.of g8⟩,_,rq,ls,_,_,_,rq,rq,SqL.of g1,Az (xs:=.ref t0::xr) (j:=0) rfl,_,rq,_,rq,ls,_,rq,SqL.of g1,λp1 hp1=>?_⟩;have ec:Fp (.ref t0::xr) (some 1) none=xr:=Dt (xs:=.ref t0::xr) (k:=1) (by simp);rw[ec] at *;have sp1:=Ad hp1 (.lst xr);refine⟨p1,_,rq,.inl ⟨SqL.of Ab,λtu htu=>⟨Al (by show 1<=1000;decide),λt1 ht1=>?_⟩⟩⟩;have sp2:=Ad htu (.tup xr);have sp3:=Ad ht1 (.tup [.ref tu]);have sp:=(sp1.trans sp2).trans sp3;refine⟨t0,t1,_,_,rq,rq,sp _ _ ht0,Ab,Al (by show 2+1<=1000;decide),λtp HE hE sE=>?_⟩;have spE:=sp.trans sE;have g8':=spE _ _ g8;refine⟨lp,_,_,rq,rq,g8',Bc (by omega),?_⟩;have nt:∀zs,HE lp≠some (.tup zs):=λzs z=>by rw[g8'] at z;cases z
       have tv:=Ak.upd (o:=.lst (vs++[.ref tp])) nt;have okp:OkP ⟨d0.kind,d0.addr,dr⟩:=⟨by show dr.length<=3;omega,λd hd=>g4 d (QaB _ hd),.inr (g4 d0 (QaM ..))⟩;refine⟨_,_,_,_,vs++[.ref tp],ps++[⟨d0.kind,d0.addr,dr⟩],ns2,rq,Ab,?_,by rw[QaL,e3];rfl,λp hp=>?_,?_,?_,?_,?_⟩
       ·refine Qcb ⟨tp,tu,xr,rq,tv _ _ hE,tv _ _ (sE _ _ (sp3 _ _ Ab)),Paired.Bh hdr λ_ _ z=>(z.tups (Ak.of spE)).tups tv⟩ (Paired.Bh g9 λ_ _ z=>(z.tups (Ak.of spE)).tups tv)
       ·rcases Qbu.mp hp with z | z
        ·exact e4 p z
        ·have:p=⟨d0.kind,d0.addr,dr⟩:=by simpa using z
         rw[this];exact okp
       ·rw[Lf,e5,g5,Qbe];congr 1;have:adP ⟨d0.kind,d0.addr,dr⟩=d0.addr::dr.map (·.addr):=if_neg (Ma (g4 d0 (QaM ..)));rw[this];rfl
       ·rw[Aw nln];exact spE _ _ g6
       ·exact ((g7.same spE).FQ Ag.upd nlb).mono (by omega)
       ·refine Cv.IV (λc o e n1 n2=>spE _ _ (g10 _ _ (f8 _ _ e n1 n2) n1 n2)) Ag.upd hlp
 ·obtain⟨u4,u5,u6,u7,vs,ps,ns',rfl,e1,e2,e3,e4,e5,e6,e7,e8⟩:=h;refine⟨_,rq,lp,_,rq,.inl ⟨SqL.of e1,λt ht=>?_⟩⟩;have st:=Ad ht (.tup vs);exact q t ps ns' _ ⟨t,vs,rq,Ab,Paired.Bh e2 λ_ _ z=>z.tups (Ak.of st)⟩ e4 (by omega) (by omega) e5 (st _ _ e6) ((e7.same st).mono (by omega)) (e8.trans (Cv.of st))
end
abbrev Gg:Stmt:=top 18
abbrev G4:YF:=["_law_bag_here","_law_most_loops","_law_most_places"]
abbrev xc:YF:=["_law_bag_here","_law_most_loops","_law_most_places","_law_start","_law_stride","_law_numbers","_law_own","_law_first","_law_at","_law_loops","_law_loop_here","_law_most","_law_told","_law_places","_law_kind","_law_address","_law_spur","_law_zones","_law_names_here","_law_name_here","_law_some"]
theorem Bq:Bx xc G4 (Ao Gg):=by ac_rfl
theorem Qu (xs:YG) (y:V):atI (xs++[y]) (-1)=some y:=by
 unfold atI ixN;rw[if_neg (by decide),QaL,Qax,if_pos (by omega),show (-1+((xs.length+1:Nat):Int)).toNat=xs.length by omega];show (xs++[y])[xs.length]?=some y;rw[List.getElem?_append_right (QbZ _),Nat.sub_self];rfl
theorem Wh (xs:YG) (y:V):ixN (xs++[y]).length (-1)=some xs.length:=by
 unfold ixN;rw[if_neg (by decide),QaL,Qax,if_pos (by omega),show (-1+((xs.length+1:Nat):Int)).toNat=xs.length by omega]
theorem Vx (xs:YG) (y z:V):(xs++[y]).set xs.length z=xs++[z]:=by
 rw[List.set_append_right _ _ (QbZ _),Nat.sub_self];rfl
theorem eN {i:Int} (h0:0<=i) (h9:i < 9) {a b c d e f g h k:Int} (P:Int->Prop) (ha:P a) (hb:P b) (hc:P c) (hd:P d) (he:P e) (hf:P f) (hg:P g) (hh:P h) (hk:P k):∃p,atI [V.int a,.int b,.int c,.int d,.int e,.int f,.int g,.int h,.int k] i=some (.int p)/\P p:=by
 have:i=0\/i=1\/i=2\/i=3\/i=4\/i=5\/i=6\/i=7\/i=8:=by omega
 rcases this with rfl | rfl | rfl | rfl | rfl | rfl | rfl | rfl | rfl
 ·exact⟨_,rq,ha⟩
 ·exact⟨_,rq,hb⟩
 ·exact⟨_,rq,hc⟩
 ·exact⟨_,rq,hd⟩
 ·exact⟨_,rq,he⟩
 ·exact⟨_,rq,hf⟩
 ·exact⟨_,rq,hg⟩
 ·exact⟨_,rq,hh⟩
 ·exact⟨_,rq,hk⟩
theorem Hr (ns:List Int):(ns.map V.int).all Gn=true:=by
 rw[List.all_map,List.all_eq_true];intro _ _;rfl
theorem Eo {xs:YG} {m:Nat} (h:m<=xs.length):Fp xs none (some (m:Int))=xs.take m:=by
 unfold Fp;rw[HT.Pg,HT.Q8,Nat.min_eq_left h];rfl
theorem Paired.RQ {α β : Type} {F:α->β->Prop}:∀{l:List α} {r:List β} (n:Nat),Paired F l r->Paired F (l.take n) (r.take n)
 | _,_,0,_=>.nil
 | _,_,_+1,.nil=>.nil
 | _,_,n+1,.cons h t=>.cons h (Paired.RQ n t)
theorem Paired.Tf {α β : Type} {F:α->β->Prop}:∀{l:List α} {r:List β} (n:Nat),Paired F l r->Paired F (l.drop n) (r.drop n)
 | _,_,0,h=>h
 | _,_,_+1,.nil=>.nil
 | _,_,n+1,.cons h t=>Paired.Tf n t
theorem Paired.app {α β : Type} {F:α->β->Prop}:∀{a₁ b₁ : List α} {a₂ b₂ : List β},Paired F a₁ a₂->Paired F b₁ b₂->Paired F (a₁++b₁) (a₂++b₂)
 | _,_,_,_,.nil,t=>t
 | _,_,_,_,.cons r s,t=>.cons r (Paired.app s t)
theorem Q9:∀(ps:List Place) (a:List Int×Int),(ps.foldl ptS a).1.sum+(ps.foldl ptS a).2=a.1.sum+a.2+((adL ps).length:Int)
 | [],a=>by show _=_+_+((0:Nat):Int);simp
 | p::r,a=>by
  rw[List.foldl_cons,Q9 r];have e:adL (p::r)=adP p++adL r:=by unfold adL;rw[Qbd]
  rw[e,QaL];unfold ptS adP;by_cases h:V.str p.kind=V.str "opener"
  ·rw[if_pos h,if_pos h,List.sum_append];simp
  ·rw[if_neg h,if_neg h,Qbm,Qbt];simp only;omega
theorem Uk:∀(ps:List Place) (a:List Int×Int),(∀m∈a.1,0<=m)->0<=a.2->(∀m∈(ps.foldl ptS a).1,0<=m)/\0<=(ps.foldl ptS a).2
 | [],a,h1,h2=>⟨h1,h2⟩
 | p::r,a,h1,h2=>by
  rw[List.foldl_cons];refine Uk r _ ?_ ?_
  ·unfold ptS;split
   ·intro m hm;rcases Qbu.mp hm with z | z
    ·exact h1 m z
    ·have:m=a.2:=by simpa using z
     rw[this];exact h2
   ·exact h1
  ·unfold ptS;split
   ·exact Int.le_refl _
   ·show 0<=a.2+1+(p.spur.length:Int);omega
theorem T6:∀{l:List Int},(∀m∈l,0<=m)->0<=l.sum/\∀m∈l,m<=l.sum
 | [],_=>⟨Int.le_refl _,λm h=>by cases h⟩
 | x::r,h=>by
  obtain⟨h1,h2⟩:=T6 (l:=r) λm hm=>h m (QaB _ hm);have h0:=h x (QaM ..);rw[List.sum_cons];refine⟨by omega,λm hm=>?_⟩;rcases QbL.mp hm with rfl | hm
  ·omega
  ·have:=h2 m hm;omega
theorem VL (ps:List Place):∀m∈Bw ps,0<=m:=by
 have h:=Uk ps ([],0) (λm hm=>by cases hm) (Int.le_refl _);intro m hm;rcases Qbu.mp hm with z | z
 ·exact h.1 m z
 ·have:m=(pst ps).2:=by simpa using z
  rw[this];exact h.2
theorem NZ (ps:List Place):(Bw ps).sum=((adL ps).length:Int):=by
 have h:=Q9 ps ([],0);unfold Bw;rw[List.sum_append];have:(pst ps).1.sum+(pst ps).2=((adL ps).length:Int):=by
  have e:(pst ps).1.sum+(pst ps).2=([]:List Int).sum+0+((adL ps).length:Int):=h;rw[e];simp
 simp;omega
theorem VN (ps:List Place):∀m∈Bw ps,m<=((adL ps).length:Int):=λm hm=>by
 have:=(T6 (VL ps)).2 m hm;rw[NZ] at this;exact this
theorem QW:∀{l:List Int},1<=l.sum->∃m∈l,1<=m
 | [],h=>by simp at h
 | x::r,h=>by
  rw[List.sum_cons] at h;by_cases hx:1<=x
  ·exact⟨x,QaM ..,hx⟩
  ·obtain⟨m,h1,h2⟩:=QW (l:=r) (by omega);exact⟨m,QaB _ h1,h2⟩
structure OkL (ps:List Place):Prop where
 lo:1<=ps.length
 hi:ps.length<=12
 ok:∀p∈ps,OkP p
def Bm (ls:YU):List Int:=ls.flatMap adL
structure Qx (most:Int) (ja:YU) (jc:List Zone):Prop where
 nd:(Bm ja).Nodup
 bd:∀x∈Bm ja,1<=x/\x<=99
 cnt:1<=(Bm ja).length/\(Bm ja).length<=30
 mo:1<=most/\most<=30
 few:∀ps∈ja,∀m∈Bw ps,m<=most
 zin:∀z∈jc,∀x∈z.adr,x∈Cp ja
 znd:(jc.flatMap (·.adr)).Nodup
 zup:∀z∈jc,z.adr.Pairwise (· < ·)/\1<=z.adr.length/\z.adr.length<=30
 aX:jc.length<=8
 znm:∀z∈jc,(1<=z.name.length/\z.name.length<=8)/\okS z.name
 zdi:(jc.map (·.name)).Nodup
def T8:Sp:=λvs H Q _=>∃(b:Addr) (n ml mp:Nat),vs=[.ref b,.int ml,.int mp]/\Bj H b n/\n<=1000/\1<=ml/\ml<=3/\2<=mp/\mp<=12 /\
 ∀t Ls zs vs zvs ja jc most H',H' t=some (.tup [.int most,.ref Ls,.ref zs])->H' Ls=some (.tup vs)->Paired (LoopAt H') vs ja->(∀ps∈ja,OkL ps)->1<=ja.length->ja.length<=3->H' zs=some (.tup zvs)->Paired (EY H') zvs jc->Qx most ja jc->Bj H' b (n+3000)->Ag b H H'->Q (.ref t) H'
def Yo:TS:=λD O H=>∃(b nb f0:Addr) (n mp:Nat) (ns:List Int),O[0]?=some (some (.ref b))/\O[5]?=some (some (.ref nb))/\O[2]?=some (some (.int mp))/\O[7]?=some (some (.ref f0))/\H f0=some (.tup [])/\Bj H b n/\n<=4000/\b≠nb/\H nb=some (.lst (ns.map V.int))/\2<=mp/\mp<=12/\ns.length<=100 /\
 ∀t vs ps ns' H',H' t=some (.tup vs)->Paired (Cz H') vs ps->(∀p∈ps,OkP p)->ps.length+1<=mp->ns=adL ps++ns'->H' nb=some (.lst (ns'.map V.int))->Bj H' b (n+101)->Cv b nb H H'->D.nx (O.set 7 (some (.ref t))) H'
section
variable {P:Program} {w:World} {K:YD} {mg:YB} {base:Heap}
theorem Uv (C:Code K mg "_law_parts" Jy Fx) (T:Nm mg):Good P w K mg base "_law_parts" 1 Fx KC:=by
 refine C.good FN (λvs H Q E h=>?_) (λf cdv A outer s H vs Q E hr h=>?_)
 ·obtain⟨t,ps,rfl,_⟩:=h;rfl
 obtain⟨t,ps,rfl,⟨t',vs,et,ht,hps⟩,hok,h100,q⟩:=h;cases et;refine⟨_,(Af (Av (i:=1) FN.nd rfl (Or.inl rfl) (Cg (Aa Ae Ac)))
 (Af (Bo Qbv rfl (DW (pv 0)) (Ck rfl (Aj (Ah (i:=2) FN.nd rfl (Or.inl rfl)) (Aj (Ah (i:=3) FN.nd rfl (Or.inl rfl)) (Aj (Ah (i:=4) FN.nd rfl (Or.inl rfl)) Bu))))
 (Ai (Cq (Bl Ho (pv 2) BL (Ci _)) (Ai (CT (Dn Qan Qaj Qak CV (pv 1) (Aa Ae Ac)))) (Ai (Ez (Aq BW (Aq BW (Bb BP (pv 1) (Sw O2 Ae) (λ_ _=>rfl)) Ae) (Bf Ba rfl T.len Cm (Aa (pv 4) Ac))) (Px (pv 1) (Sw O2 Ae) set_list))))))
 (Ai (Bs (pv 1))))),?_⟩
 show let R0:TS:=_;let R1:TS:=_;let R2:TS:=Dr _ R0 R1;let R3:TS:=Am (Cd _ _ R2) _;Am _ R3 _ _ _;intro R0 R1 R2 R3;refine⟨Al (by show 1<=1000;decide),λlf hlf=>?_⟩;have s1:=Ad hlf (.lst [.int 0]);have lvs:=QbK hps;refine⟨_,rq,t,rq,⟨_,SqT.of (s1 _ _ ht)⟩,?_⟩;let J0:YN:=λi O HH=>∃(u2 u3 u4:Option V),O=[jd t,jd lf,u2,u3,u4]/\HH lf=some (.lst ((pst (ps.take i)).1.map V.int++[.int (pst (ps.take i)).2]))/\(pst (ps.take i)).1.length<=i/\Same H HH;refine Dv (xs:=vs) J0 ⟨_,_,_,rq,Ab,QbZ _,s1⟩ (λi O HH _ h=>?_) (λi x O HH hx h=>?_) (fun O HH h=>?_)
 ·obtain⟨u2,u3,u4,rfl,e1,e2,e3⟩:=h;exact SqT.of (e3 _ _ ht)
 ·obtain⟨u2,u3,u4,rfl,e1,e2,e3⟩:=h;obtain⟨p,hp,tp,up,ws,rfl,h1,h2,h3⟩:=Paired.Ca hps hx;have hi:=(Qaf.mp hx).1;have et:pst (ps.take (i+1))=ptS (pst (ps.take i)) p:=by rw[Qcg hp,Pq]
  have lws:=QbK h3;generalize pst (ps.take i)=a at *;refine⟨tp,_,rq,SqT.of (e3 _ _ h1),rq,_,_,rq,_,_,rq,_,_,rq,rq,?_⟩;refine⟨_,rq,rq,_,rq,GD (λhc=>?_) (λhc=>?_)⟩
  ·have hc:V.str p.kind=V.str "opener":=Qbg hc;have et:pst (ps.take (i+1))=(a.1++[a.2],0):=by rw[et];exact if_pos hc
   refine⟨_,rq,.inl ⟨rq,_,SqL.of e1⟩,lf,_,_,rq,rq,e1,Bc (by rw[QaL,Qbt];show _+1<=_;omega),_,_,_,rq,?_,?_,e3.Df Ag.upd hlf⟩
   ·rw[Ab,et,Qbw];rfl
   ·rw[et,QaL];show _+1<=_;omega
  ·have hc:¬V.str p.kind=V.str "opener":=λz=>hc (QbH z);have et:pst (ps.take (i+1))=(a.1,a.2+1+(p.spur.length:Int)):=by rw[et];exact if_neg hc
   refine⟨_,rq,_,rq,lf,_,_,_,rq,rq,SqL.of e1,Qu _ _,_,_,rq,rq,_,rq,up,_,rq,.inr (SqT.of (e3 _ _ h2)),_,_,rq,rq,_,rq,_,rq,lf,_,_,_,rq,rq,e1,Wh _ _,_,_,_,rq,?_,by rw[et];show a.1.length<=_;omega,e3.Df Ag.upd hlf⟩;rw[Ab,Vx,et,<-lws]
 ·obtain⟨u2,u3,u4,rfl,e1,e2,e3⟩:=h;rw[lvs,Qbl] at e1;refine⟨_,rq,q lf HH (by unfold Bw;rw[Qbw];exact e1) e3⟩
end
theorem Yx {α : Type} {l:List α} {i:Nat} {x:α} (h:l[i]?=some x):l.set i x=l:=by
 obtain⟨hi,e⟩:=Qaf.mp h;subst e;exact List.set_getElem_self hi
theorem Ln.tups {H H':Hp} {vs:YG} {ls:YU} (s:Ak H H') (h:Paired (LoopAt H) vs ls):Paired (LoopAt H') vs ls:=Paired.Bh h λ_ _ z=>z.tups s
theorem Pn.tups {H H':Hp} {vs:YG} {ls:List Place} (s:Ak H H') (h:Paired (Cz H) vs ls):Paired (Cz H') vs ls:=Paired.Bh h λ_ _ z=>z.tups s
theorem GX (a b:List Place):adL (a++b)=adL a++adL b:=by unfold adL;rw[QaI]
theorem Ot (ls:YU) (ps:List Place):Bm (ls++[ps])=Bm ls++adL ps:=by unfold Bm;rw[QaI];simp
def wr (ds:List Dev):Nat:=(ds.filter λd=>!decide (V.str d.kind=V.str "opener")).length
theorem KZ (w:Int):∀ws:List Int,inV (.int w) (ws.map V.int)=decide (w∈ws)
 | []=>rfl
 | x::r=>by
  have ih:=KZ w r;unfold inV at ih ⊢;rw[QbM,QbQ,ih];have h2:eqV (.int x) (.int w)=decide (w=x):=by
   show (x == w)=decide (w=x);rw[QbC,beq_iff_eq,QaU];exact⟨λh=>h.symm,λh=>h.symm⟩
  rw[h2,QbC,Bool.or_eq_true,QaU,QaU,QaU,QbL]
def Dm (p:Int):Prop:=p=1\/p=2\/p=4\/p=5\/p=7\/p=8\/p=10\/p=13\/p=98
def Hv (r sd:Int) (n:Nat):List Int:=(List.range n).map λk:Nat=>(r+sd*(0+(k:Int))) % 99+1
theorem Uy (r sd:Int) (n:Nat):Hv r sd (n+1)=Hv r sd n++[(r+sd*(0+(n:Int))) % 99+1]:=by
 unfold Hv;rw[List.range_succ,Qbw];rfl
theorem XH (r sd:Int) (n:Nat):∀x∈Hv r sd n,1<=x/\x<=99:=λx hx=>by
 obtain⟨k,_,rfl⟩:=QbV.mp hx;have h1:=QbE (r+sd*(0+(k:Int))) (show (99:Int)≠0 by decide);have h2:=QaW (r+sd*(0+(k:Int))) (show (0:Int) < 99 by decide);omega
theorem XF {r sd:Int} (h:Dm sd):(Hv r sd 30).Nodup:=by
 unfold Hv;refine List.pairwise_map.mpr ?_;refine List.Pairwise.imp_of_mem (λ{i j} hi hj hlt=>?_) (List.pairwise_lt_range (n:=30));have hi:=List.mem_range.mp hi;have hj:=List.mem_range.mp hj;intro e;unfold Dm at h;rcases h with rfl | rfl | rfl | rfl | rfl | rfl | rfl | rfl | rfl <;> omega
theorem QS:∀{ds:List Dev},(CK ds).Sublist (ds.map (·.addr))
 | ds=>by unfold CK;exact List.Sublist.map _ (List.filter_sublist ..)
theorem OJ {p:Place} (h:OkP p):(CK (CG p)).Sublist (adP p):=by
 rcases h.form with⟨f1,f2,f3⟩| f1
 ·have e:adP p=[]:=if_pos (by rw[f1]);have e2:CK (CG p)=[]:=by
   unfold CG CK;rw[f3,f1];have:Cy "opener"=false:=by trivial
   rw[Qap (by rw[this];decide)];rfl
  rw[e,e2];exact .slnil
 ·have e:adP p=(CG p).map (·.addr):=if_neg (Ma f1);rw[e];exact QS
theorem Ku:∀{ps:List Place},(∀p∈ps,OkP p)->(Ej ps).Sublist (adL ps)
 | [],_=>.slnil
 | p::r,h=>by
  have e1:Ej (p::r)=CK (CG p)++Ej r:=by unfold Ej;rw[Qbd]
  have e2:adL (p::r)=adP p++adL r:=by unfold adL;rw[Qbd]
  rw[e1,e2];exact (OJ (h p (QaM ..))).append (Ku λq hq=>h q (QaB _ hq))
theorem Jr:∀{ls:YU},(∀ps∈ls,OkL ps)->(Cp ls).Sublist (Bm ls)
 | [],_=>.slnil
 | ps::r,h=>by
  have e1:Cp (ps::r)=Ej ps++Cp r:=by unfold Cp;rw[Qbd]
  have e2:Bm (ps::r)=adL ps++Bm r:=by unfold Bm;rw[Qbd]
  rw[e1,e2];exact (Ku (h ps (QaM ..)).ok).append (Jr λq hq=>h q (QaB _ hq))
theorem Rm {ps:List Place}:∀(ja:YU),ps∈ja->(adL ps).length<=(Bm ja).length
 | [],h=>by cases h
 | a::r,h=>by
  have e:Bm (a::r)=adL a++Bm r:=by unfold Bm;rw[Qbd]
  rw[e,QaL];rcases QbL.mp h with rfl | h
  ·omega
  ·have:=Rm r h;omega
structure Jl (ws:List Int) (ts:List Int) (jc:List Zone) (ys:YF):Prop where
 nd:(jc.flatMap (·.adr)++ts).Nodup
 sub:∀x∈jc.flatMap (·.adr)++ts,x∈ws
 up:∀z∈jc,z.adr.Pairwise (· < ·)/\1<=z.adr.length/\z.adr.length<=30
 nm:(jc.map (·.name)).Sublist ys
theorem Jl.next {ws ts ms ss:List Int} {jc:List Zone} {ys:YF} {y:Str} (h:Jl ws ts jc ys) (hp:ms.Perm ss) (hsub:ss.Sublist ts) (hr:ms.Pairwise (·<=·)) (h30:ms.length<=30) (y1:1<=ms.length):Jl ws (ts.filter λx=>!decide (x∈ms)) (jc++[⟨y,ms⟩]) (ys++[y]):=by
 obtain⟨n1,n2,n3⟩:=List.nodup_append.mp h.nd;have nms:ms.Nodup:=hp.nodup_iff.mpr (hsub.nodup n2);have hin:∀x∈ms,x∈ts:=λx hx=>hsub.subset (hp.mem_iff.mp hx);have e:(jc++[(⟨y,ms⟩ : Zone)]).flatMap (·.adr)=jc.flatMap (·.adr)++ms:=by rw[QaI];simp
 refine⟨?_,λx hx=>?_,λz hz=>?_,?_⟩
 ·rw[e,List.nodup_append];refine⟨List.nodup_append.mpr ⟨n1,nms,λa ha b hb=>n3 a ha b (hin b hb)⟩,n2.filter _,λa ha b hb=>?_⟩;obtain⟨hb1,hb2⟩:=QbF.mp hb;rcases Qbu.mp ha with ha | ha
  ·exact n3 a ha b hb1
  ·rintro rfl;rw[QbH ha] at hb2;cases hb2
 ·rw[e] at hx;rcases Qbu.mp hx with hx | hx
  ·rcases Qbu.mp hx with hx | hx
   ·exact h.sub x (QaD _ hx)
   ·exact h.sub x (Qav _ (hin x hx))
  ·exact h.sub x (Qav _ (QbF.mp hx).1)
 ·rcases Qbu.mp hz with hz | hz
  ·exact h.up z hz
  ·have:z=⟨y,ms⟩:=by simpa using hz
   rw[this];refine⟨?_,y1,h30⟩;refine List.Pairwise.imp₂ (S:=λa b:Int=>a≠b) (λa b h1 h2=>by omega) hr nms
 ·rw[Qbw];exact h.nm.append (List.Sublist.refl _)
theorem Jl.none {ws ts:List Int} {jc:List Zone} {ys:YF} {y:Str} {g:Int->Bool} (h:Jl ws ts jc ys):Jl ws (ts.filter g) jc (ys++[y]):=by
 obtain⟨n1,n2,n3⟩:=List.nodup_append.mp h.nd;refine⟨List.nodup_append.mpr ⟨n1,n2.filter _,λa ha b hb=>n3 a ha b (QbF.mp hb).1⟩,λx hx=>?_,h.up,h.nm.trans (List.sublist_append_left ..)⟩;rcases Qbu.mp hx with hx | hx
 ·exact h.sub x (QaD _ hx)
 ·exact h.sub x (Qav _ (QbF.mp hx).1)
section
variable {P:Program} {w:World} {K:YD} {mg:YB} {base:Heap}
abbrev xf:YF:=["_law_other","_law_number"]
abbrev xk:YF:=["_law_k","_law_start","_law_stride"]
abbrev xl:YF:=["_law_number","_law_bag_here"]
theorem Xy (C:Code K mg "_law_plan" Gg G4) (T:Nm mg) (Ax:Good P w K mg base "_law_take" 1 Eb Ia) (Qf:Good P w K mg base "_law_loop" 2 G6 Ua) (JG:Good P w K mg base "_law_parts" 1 Fx KC) (U5:Good P w K mg base "_law_names" 3 Gu Q5) :
  Good P w K mg base "_law_plan" 4 G4 T8:=by
 refine C.good Bq (λvs H Q E h=>?_) (λf cdv A outer s H vs Q E hr h=>?_)
 ·obtain⟨b,n,ml,mp,rfl,_⟩:=h;rfl
 obtain⟨b,n,ml,mp,rfl,hb,hn,fQ,hml,cY,hmp,q⟩:=h;refine⟨_,(Af (Av (i:=3) Bq.nd rfl (Or.inr rfl) (Bg Ax hr (Aa (pv 0) (Aa Ae Ac))))
 (Af (Av (i:=4) Bq.nd rfl (Or.inr rfl) (Bb BP (@Cg _ _ _ _ (@Aa _ _ _ _ _ (@Ae _ _ _ _) (@Aa _ _ _ _ _ (@Ae _ _ _ _) (@Aa _ _ _ _ _ (@Ae _ _ _ _) (@Aa _ _ _ _ _ (@Ae _ _ _ _) (@Aa _ _ _ _ _ (@Ae _ _ _ _) (@Aa _ _ _ _ _ (@Ae _ _ _ _) (@Aa _ _ _ _ _ (@Ae _ _ _ _) (@Aa _ _ _ _ _ (@Ae _ _ _ _) (@Aa _ _ _ _ _ (@Ae _ _ _ _) (@Ac _) Bv) Bv) Bv) Bv) Bv) Bv) Bv) Bv) Bv)) (Bg Ax hr (Aa (pv 0) (Aa Ae Ac))) (λ_ _=>rfl)))
 (Af (Ra (i:=5) Bq.nd rfl (Or.inl rfl) (N':=xk) rfl (Cu.of (src:=[none,some 3,some 4]) (Ao Gg) xc rfl rfl rfl (by trivial) (by trivial) (by trivial) rfl (by trivial)) (BR rfl T.range (Aa Ae Ac)) (λ_ _ _ _=>(Ah (i:=0) (show List.Nodup (xk:YF) by trivial) rfl (Or.inl rfl))) (λ_ _ _ _=>JB) (λ_ _ _ _=>(Aq BW (Aq Gv (Aq BW (pv 1) (Aq En (pv 2) (pv 0))) Ae) Ae)))
 (Af (Av (i:=6) Bq.nd rfl (Or.inl rfl) (Dn Qan PySem.F.slot_list_pop PySem.F.type_list_pop PX (pv 5) (Aa Ae Ac)))
 (Af (Av (i:=7) Bq.nd rfl (Or.inl rfl) (Bd Ac))
 (Af (PS.weak (t':=Yo) (Cq (Bl Kd (Bg Ax hr (Aa (pv 0) (Aa Ae Ac))) Ae (Ci _)) (Ai (Av (i:=7) Bq.nd rfl (Or.inl rfl) (Bg Qf hr (Aa (pv 0) (Aa (pv 5) (Aa (Aq Ly (pv 2) Ae) Ac)))))) BK) (λD O H h=>by
    obtain⟨b,nb,f0,n,mp,ns,e0,e5,e2,e7,hf0,hb,hn,nbn,hnb,hmp,fO,hns,q⟩:=h;refine⟨_,e0,b,n,8,rq,hb,by omega,by decide,by decide,λr H1 r0 r1 hb1 sb1=>⟨_,_,rq,rq,_,rq,GD (λ_=>?_) (λ_=>?_)⟩⟩
    ·refine⟨_,e0,_,e5,_,e2,_,_,rq,rq,b,nb,n+1,mp - 1,ns,?_,hb1,by omega,nbn,sb1 _ _ hnb nbn.symm,by omega,by omega,hns,λt ps ns' H2 ⟨t',vs,et,ht,hp⟩ hok h1 h2 hns' hnb' hb2 s2=>?_⟩
     ·show [V.ref b,.ref nb,.int ((mp:Int) - 1)]++[]=_;rw[show ((mp:Int) - 1)=((mp - 1:Nat):Int) by omega];rfl
     ·cases et;exact q t vs ps ns' H2 ht hp hok (by omega) hns' hnb' (hb2.mono (by omega)) ((Cv.l sb1).trans s2)
    ·have q:=q f0 [] [] ns H1 (sb1.tup hb.BZ _ _ hf0) .nil (λp hp=>by cases hp) (by show 0+1<=mp;omega) rfl (sb1 _ _ hnb nbn.symm) (hb1.mono (by omega)) (Cv.l sb1);rw[Yx e7] at q;exact q))
 (Af (Av (i:=8) Bq.nd rfl (Or.inl rfl) (Bg Ax hr (Aa (pv 0) (Aa (Aq BW (Bf Ba rfl T.len Cm (Aa (pv 7) Ac)) Ae) Ac))))
 (Af (Av (i:=9) Bq.nd rfl (Or.inl rfl) (Cg (Aa (Aq Cw (Aq Cw (CP Ed (pv 7) Dh (Dg (pv 8))) (Bd (Aa (Bd (Aa BL (Aa (pv 6) (Aa (Bd Ac) Ac)))) Ac))) (CP Ed (pv 7) (Dg (pv 8)) Dh)) Ac)))
 (Af (Bo Qbv rfl (BR rfl T.range (Aa (Bg Ax hr (Aa (pv 0) (Aa (pv 1) Ac))) Ac)) (Ah (i:=10) Bq.nd rfl (Or.inl rfl))
 (Ai (CT (Dn Qan Qaj Qak CV (pv 9) (Aa (Bg Qf hr (Aa (pv 0) (Aa (pv 5) (Aa (pv 2) Ac)))) Ac)))))
 (Af (Av (i:=11) Bq.nd rfl (Or.inl rfl) (Bf (Oh rfl) rfl T.max Mv (Aa (Fw (N':=Fx) rfl (Cu.plain rfl (by trivial) (by trivial) (by trivial)) (Eh (pv 9)) (λ_ _ _ _=>(Ah (i:=0) (show List.Nodup (Fx:YF) by trivial) rfl (Or.inl rfl))) (λ_ _ _ _=>JB) (λ_ _ _ _=>(Bf (Tn (K:=K) rfl rfl) rfl T.max Mv (Aa (Bg JG hr (Aa (pv 0) Ac)) Ac)))) Ac)))
 (Af (Av (i:=12) Bq.nd rfl (Or.inl rfl) (Cg Ac))
 (Af (Bo Qbv rfl (Eh (pv 9)) (Ah (i:=13) Bq.nd rfl (Or.inl rfl))
 (Ai (Bo Qbv rfl (DW (pv 13)) (Ck rfl (Aj (Ah (i:=14) Bq.nd rfl (Or.inl rfl)) (Aj (Ah (i:=15) Bq.nd rfl (Or.inl rfl)) (Aj (Ah (i:=16) Bq.nd rfl (Or.inl rfl)) Bu))))
 (Ai (CT (Dn Qan Qal Qam Gw (pv 12) (Aa (Fw (N':=xf) rfl (Cu.plain rfl (by trivial) (by trivial) (by trivial)) (DW (Aq Cw (Bd (Aa (Bd (Aa (pv 14) (Aa (pv 15) Ac))) Ac)) (pv 16))) (λ_ _ _ _=>(Ih (K:=K) (n:=2) rfl rfl (Aj (Ah (i:=0) (show List.Nodup (xf:YF) by trivial) rfl (Or.inl rfl)) (Aj (Ah (i:=1) (show List.Nodup (xf:YF) by trivial) rfl (Or.inl rfl)) Bu)))) (λ_ _ _ _=>(Ii (Bl (Jd (K:=K) rfl) (pv 0) (Bd (Aa BL (Aa BL Ac))) (by with_unfolding_all rfl)))) (λ_ _ _ _=>(pv 1))) Ac)))))))
 (Af (Av (i:=17) Bq.nd rfl (Or.inl rfl) (Cg Ac))
 (Af (Av (i:=18) Bq.nd rfl (Or.inl rfl) (Bg U5 hr (Aa (pv 0) (Aa (Bg Ax hr (Aa (pv 0) (Aa Ae Ac))) Ac))))
 (Af (Bo Qbv rfl (Eh (pv 18)) (Ah (i:=19) Bq.nd rfl (Or.inl rfl))
 (Af (Av (i:=20) Bq.nd rfl (Or.inr rfl) (Bf Qq rfl T.sorted Vf (Aa (Fw (N':=xl) rfl (Cu.of (src:=[none,some 0]) (Ao Gg) xc rfl rfl rfl (by trivial) (by trivial) (by trivial) rfl (by trivial)) (Eh (pv 12)) (λ_ _ _ _=>(Ah (i:=0) (show List.Nodup (xl:YF) by trivial) rfl (Or.inl rfl))) (λ_ _ _ _=>(Ii (Bl Ho (Bg Ax hr (Aa (pv 1) (Aa Ae Ac))) Ae (Ci _)))) (λ_ _ _ _=>(pv 0))) Ac)))
 (Af (Ra (i:=12) Bq.nd rfl (Or.inl rfl) (N':=["_law_number","_law_some"]) rfl (Cu.of (src:=[none,some 20]) (Ao Gg) xc rfl rfl rfl (by trivial) (by trivial) (by trivial) rfl (by trivial)) (Eh (pv 12)) (λ_ _ _ _=>(Ah (i:=0) (show List.Nodup (["_law_number","_law_some"]:YF) by trivial) rfl (Or.inl rfl))) (λ_ _ _ _=>(Ii (Bl (Jo (K:=K) rfl) (pv 0) (pv 1) (by with_unfolding_all rfl)))) (λ_ _ _ _=>(pv 0)))
 (Ai (Cq (Bl Kd (Bf Ba rfl T.len Cm (Aa (pv 20) Ac)) Ae (Ci _)) (Ai (CT (Dn Qan Qaj Qak CV (pv 17) (Aa (Bd (Aa (pv 19) (Aa (Dq Dw rfl T.tuple Gj (Aa (pv 20) Ac)) Ac))) Ac)))) BK)))))
 (Ai (Bs (Bd (Aa (Bf (Oe rfl) rfl T.min Vg (Aa Ae (Aa (Aq BW (pv 11) (Bg Ax hr (Aa (pv 0) (Aa Ae Ac)))) Ac))) (Aa (Dq Dw rfl T.tuple Gj (Aa (pv 9) Ac)) (Aa (Dq Dw rfl T.tuple Gj (Aa (pv 17) Ac)) Ac))))))))))))))))))))),?_⟩
 show let R0:TS:=_;let R1:TS:=_;let R2:TS:=Dr _ R1 _;let R3:TS:=Am _ R2;let R4:TS:=Am _ R3;let R5:TS:=Am (Cd _ _ R4) R0;let R6:TS:=Am _ R5;let R7:TS:=Am _ R6;let R8:TS:=_;let R9:TS:=Cd _ _ R8;let R10:TS:=Am (Cd _ _ R9) R7;let R11:TS:=Am _ R10;let R12:TS:=Am _ R11;let R13:TS:=_;let R14:TS:=Am (Cd _ _ R13) R12;let R15:TS:=Am _ R14;let R16:TS:=Am _ R15;let R17:TS:=Am _ R16;let R18:TS:=Am _ R17;let R19:TS:=Am _ R18;let R20:TS:=Am _ R19;let R21:TS:=Am _ R20;Am _ R21 _ _ _;intro R0 R1 R2 R3 R4 R5 R6 R7 R8 R9 R10 R11 R12 R13 R14 R15 R16 R17 R18 R19 R20 R21;generalize hst:L2.start _ _=σ0;have e0:σ0=[jd b,some (.int ml),some (.int mp),none,none,none,none,none,none,none,none,none,none,none,none,none,none,none,none,none,none]:=hst.symm;clear hst;subst e0;refine⟨_,rq,b,n,99,rq,hb,by omega,by decide,by decide,λr1 H1 r10 r11 hb1 sb1=>?_⟩;simp only[QaP,QaO];refine⟨Al (by show 9<=1000;decide),λl9 hl9=>?_⟩;have s9:=Ad hl9 (.lst [.int 1,.int 2,.int 4,.int 5,.int 7,.int 8,.int 10,.int 13,.int 98]);refine⟨_,rq,b,_,9,rq,hb1.same s9,by omega,by decide,by decide,λr2 H2 r20 r21 hb2 sb2=>?_⟩;obtain⟨sd,esd,⟨sd0,sd1⟩,sdk⟩:=eN r20 r21 (a:=1) (b:=2) (c:=4) (d:=5) (e:=7) (f:=8) (g:=10) (h:=13) (k:=98) (λp=>(0<=p/\p<=98)/\Dm p) (by unfold Dm;decide) (by unfold Dm;decide) (by unfold Dm;decide) (by unfold Dm;decide) (by unfold Dm;decide) (by unfold Dm;decide) (by unfold Dm;decide) (by unfold Dm;decide) (by unfold Dm;decide);refine⟨l9,_,_,_,rq,rq,SqL.of (sb2 _ _ Ab (hb1.nb hl9).symm),esd,?_⟩;simp only[QaP,QaO];have sB2:Ag b H H2:=(sb1.trans (Ag.of s9)).trans sb2;refine⟨_,rq,by decide,by decide,λnb Wr=>?_⟩;have nbn:b≠nb:=hb2.nb Wr;have fnb:H nb=none:=sB2.free hb2.ex Wr;let J0:YN:=λi O HH=>∃(u:Option V) (ns:List Int),O=[u,some (.int r1),some (.int sd)]/\HH=upd H2 nb (.lst (ns.map V.int))/\ns=Hv r1 sd i;refine Ms J0 ⟨none,[],rq,rq,rq⟩ (λi O HH hi h=>?_) (fun O HH h=>?_)
 ·obtain⟨u,ns,rfl,rfl,e1⟩:=h;have hi:i < 30:=hi;have e1l:ns.length=i:=by rw[e1];unfold Hv;rw[Qbt,Qbc]
  refine⟨_,rq,_,rq,_,rq,_,_,rq,rq,.inl ⟨by omega,by omega⟩,_,_,rq,rq,_,_,rq,rq,(by show (0:Int) < 99;decide),_,_,rq,rq,_,Ab,Bc (by rw[Qbt];omega),_,ns++[(r1+sd*(0+(i:Int))) % 99+1],rq,?_,by rw[Uy,e1]⟩;rw[JW,Qbw];rfl
 obtain⟨u,V5,rfl,rfl,e30⟩:=h;have Wz:V5=Hv r1 sd 30:=e30;have e30:V5.length=30:=by rw[Wz];unfold Hv;rw[Qbt,Qbc]
 simp only[QaP,QaO];cases V5 with
 | nil=>cases e30
 | cons own Ey=>
 have e29:Ey.length=29:=by simpa using e30
 have au:(own::Ey).Nodup:=by rw[Wz];exact XF sdk
 have aB:∀x∈own::Ey,1<=x/\x<=99:=by rw[Wz];exact XH r1 sd 30
 have sN:=Ad Wr (.lst ((own::Ey).map V.int));refine⟨_,rq,.inl ⟨rq,_,SqL.of Ab⟩,nb,_,0,0,.int own,rq,rq,Ab,by decide,by decide,Uh (by rw[Qbt];show 0 < _+1;omega),rq,?_⟩;simp only[QaP,QaO];have Zt:upd (upd H2 nb (.lst ((own::Ey).map V.int))) nb (.lst (((own::Ey).map V.int).eraseIdx 0)) nb=some (.lst (Ey.map V.int)):=by rw[Ab];rfl
 have hb4:Bj (upd (upd H2 nb (.lst ((own::Ey).map V.int))) nb (.lst (((own::Ey).map V.int).eraseIdx 0))) b (n+1+1):=(hb2.same sN).FQ Ag.upd nbn;have sB4:Ag b H (upd (upd H2 nb (.lst ((own::Ey).map V.int))) nb (.lst (((own::Ey).map V.int).eraseIdx 0))):=Ag.IV (sB2.trans (Ag.of sN)) Ag.upd fnb;generalize upd (upd H2 nb (.lst ((own::Ey).map V.int))) nb (.lst (((own::Ey).map V.int).eraseIdx 0))=H4 at Zt hb4 sB4;refine⟨Al (by show 0<=1000;decide),λf0 hf0=>?_⟩;simp only[QaP,QaO];have s5:=Ad hf0 (.tup []);refine⟨b,nb,f0,_,mp,Ey,rq,rq,rq,rq,Ab,hb4.same s5,by omega,nbn,s5 _ _ Zt,cY,hmp,by omega,λft fv fp ns1 H5 hft hfp Zx hfl cV cW hb5 s45=>?_⟩;simp only[QaP,QaO];have sB5:Ag b H H5:=λc o e nc=>s45 _ _ (s5 _ _ (sB4 _ _ e nc)) nc (λz=>by rw[z,fnb] at e;cases e);have lfv:=QbK hfp;refine⟨_,rq,_,rq,ft,_,rq,.inr (SqT.of hft),_,_,rq,rq,b,_,_,rq,hb5,by omega,by omega,by omega,λr4 H6 r40 r41 hb6 sb6=>?_⟩;simp only[QaP,QaO];obtain⟨an,han⟩ : ∃an:Nat,r4=an:=⟨r4.toNat,by omega⟩;subst han;have Zv:=(sb6.tup hb5.BZ) _ _ hft;have Zw:=Pn.tups (sb6.tup hb5.BZ) hfp;have Zr:=sb6 _ _ cW nbn.symm;have sB6:=sB5.trans sb6;refine⟨_,rq,_,rq,_,rq,ft,fv,rq,Zv,λp1 H7 hp1 s7=>?_⟩;rw[Eo (by omega)] at hp1;refine⟨_,rq,Al (by show 0<=1000;decide),λe0 he0=>⟨Al (by show 3<=1000;decide),λt3 ht3=>⟨Al (by show 1<=1000;decide),λt1 ht1=>?_⟩⟩⟩;have q1:=Ad he0 (.tup []);have q2:=Ad ht3 (.tup [.str "seeker",.int own,.ref e0]);have q3:=Ad ht1 (.tup [.ref t3]);have q13:=(q1.trans q2).trans q3;have hown:Cz (upd (upd (upd H7 e0 (.tup [])) t3 (.tup [.str "seeker",.int own,.ref e0])) t1 (.tup [.ref t3])) (.ref t3) ⟨"seeker",own,[]⟩:=⟨t3,e0,[],rq,q3 _ _ Ab,q3 _ _ (q2 _ _ Ab),.nil⟩;refine⟨p1,t1,_,_,rq,rq,q13 _ _ hp1,Ab,Al (by rw[Qbk];show _+1<=1000;omega),λp2 H8 hp2 s8=>?_⟩;have s68:=(s7.trans q13).trans s8;refine⟨_,rq,_,rq,_,rq,ft,fv,rq,s68 _ _ Zv,λp3 H9 hp3 s9'=>?_⟩;rw[Dt (by omega)] at hp3;refine⟨p2,p3,_,_,rq,rq,s9' _ _ hp2,hp3,Al (by rw[QaL,Qbk,Qbn];show _+1+_<=1000;omega),λp4 H10 hp4 s10=>⟨Al (by show 1<=1000;decide),λll hll=>?_⟩⟩;simp only[QaP,QaO];have Pj:=(s68.trans s9').trans s10;have s11:=Ad hll (.lst [.ref p4]);have Ph:=Pj.trans s11;have hL0:LoopAt (upd H10 ll (.lst [.ref p4])) (.ref p4) ((fp.take an++[⟨"seeker",own,[]⟩])++fp.drop an):=by
  refine⟨p4,_,rq,s11 _ _ hp4,Paired.app (Paired.app (Pn.tups (Ak.of Ph) (Paired.RQ an Zw)) (.cons ?_ .nil)) (Pn.tups (Ak.of Ph) (Paired.Tf an Zw))⟩;exact hown.tups (Ak.of (((s8.trans s9').trans s10).trans s11))
 have Y9:OkL ((fp.take an++[⟨"seeker",own,[]⟩])++fp.drop an):=by
  refine⟨?_,?_,λp hp=>?_⟩
  ·rw[QaL,QaL];show 1<=_+1+_;omega
  ·rw[QaL,QaL,Qbk,Qbn];show _+1+_<=12;omega
  ·rcases Qbu.mp hp with z | z
   ·rcases Qbu.mp z with z | z
    ·exact Zx p (QaC z)
    ·have:p=⟨"seeker",own,[]⟩:=by simpa using z
     rw[this];exact⟨by show 0<=3;decide,(λd hd=>by cases hd),.inr (.inl rfl)⟩
   ·exact Zx p (List.mem_of_mem_drop z)
 have pm0:(adL ((fp.take an++[⟨"seeker",own,[]⟩])++fp.drop an)++ns1).Perm (own::Ey):=by
  have h2:adL fp=adL (fp.take an)++adL (fp.drop an):=by rw[<-GX,Qaz]
  have h3:adL [(⟨"seeker",own,[]⟩ : Place)]=[own]:=by
   have:adP ⟨"seeker",own,[]⟩=[own]:=if_neg (Ma (.inl rfl));show [(⟨"seeker",own,[]⟩ : Place)].flatMap adP=[own];simp[this]
  rw[GX,GX,h3,cV,h2,Qbe,Qbe,Qbe];exact (List.perm_middle (l₁:=adL (fp.take an)) (a:=own) (l₂:=adL (fp.drop an)++ns1))
 have aR:1<=(adL ((fp.take an++[⟨"seeker",own,[]⟩])++fp.drop an)).length:=by
  have h3:adL [(⟨"seeker",own,[]⟩ : Place)]=[own]:=by
   have:adP ⟨"seeker",own,[]⟩=[own]:=if_neg (Ma (.inl rfl));show [(⟨"seeker",own,[]⟩ : Place)].flatMap adP=[own];simp[this]
  rw[GX,GX,h3,QaL,QaL];show 1<=_+1+_;omega
 generalize fX:(fp.take an++[⟨"seeker",own,[]⟩])++fp.drop an=L0 at hL0 Y9 pm0 aR;have hbL:Bj (upd H10 ll (.lst [.ref p4])) b (n+1+1+101+1):=hb6.same Ph;have Zq:=Ph _ _ Zr;have sBL:Ag b H (upd H10 ll (.lst [.ref p4])):=sB6.trans (Ag.of Ph);have Zu:upd H10 ll (.lst [.ref p4]) ll=some (.lst [.ref p4]):=Ab;have fll:H ll=none:=(sB6.trans (Ag.of Pj)).free (hb6.same Pj).ex hll;have nbl:b≠ll:=(hb6.same Pj).nb hll;have nnl:nb≠ll:=Ay (Pj _ _ Zr) hll;generalize upd H10 ll (.lst [.ref p4])=HL at hL0 hbL Zq sBL Zu;refine⟨_,rq,_,rq,b,_,_,rq,hbL,by omega,by omega,by omega,λr5 HM r50 r51 hbM sbM=>⟨_,rq,by omega,by omega,?_⟩⟩;obtain⟨lnn,dg⟩ : ∃lnn:Nat,r5=lnn:=⟨r5.toNat,by omega⟩;subst dg;rw[Qbb];have tM:=sbM.tup hbL.BZ;have bJ:∀ps∈[L0],OkL ps:=λps hps=>by
  have:ps=L0:=by simpa using hps
  rw[this];exact Y9
 let J1:YN:=λi O HH=>∃(u10:Option V) (vs:YG) (ja:YU) (ns':List Int),O=[jd b,some (.int ml),some (.int mp),some (.int r1),some (.int sd),jd nb,some (.int own),jd ft,some (.int (an:Int)),jd ll,u10,none,none,none,none,none,none,none,none,none,none]/\HH ll=some (.lst vs)/\Paired (LoopAt HH) vs ja/\ja.length=1+i/\(∀ps∈ja,OkL ps)/\((Bm ja++ns').Perm (own::Ey)/\∃L,ja=L0::L)/\HH nb=some (.lst (ns'.map V.int))/\Bj HH b (n+105+101*i)/\Ag b H HH;refine Cj J1
  ⟨_,[.ref p4],[L0],ns1,rq,sbM _ _ Zu nbl.symm,.cons (hL0.tups tM) .nil,rq,bJ,⟨(by show ([L0].flatMap adL++_).Perm _;simpa using pm0),[],rq⟩,sbM _ _ Zq nbn.symm,hbM.mono (by omega),sBL.trans sbM⟩ (λi O HH hi h=>?_) (fun O HH h=>?_)
 ·obtain⟨u10,vs,ja,ns',rfl,e1,e2,e3,e4,⟨e5p,Lr,hLr⟩,e6,e7,e8⟩:=h;have e5:(Bm ja).length+ns'.length=30:=by
   have:=e5p.length_eq;rw[QaL,Qbm,e29] at this;exact this
  simp only[QaP,QaO];refine⟨_,rq,.inl ⟨rq,_,SqL.of e1⟩,_,rq,_,rq,_,rq,b,nb,_,mp,ns',rq,e7,by omega,nbn,e6,by omega,by omega,by omega,λt ps bK H' hL hok h1 h2 hns hnb' hb' s2=>?_⟩;have e1':=s2 _ _ e1 nbl.symm nnl.symm;have t2:Ak HH H':=λc xs e=>s2 _ _ e (λz=>e7.BZ _ (z ▸ e)) (λz=>by rw[z,e6] at e;cases e);refine⟨ll,_,_,rq,rq,e1',Bc (by rw[QbK e2];omega),?_⟩;have tv0:∀zs,H' ll≠some (.tup zs):=λzs z=>by rw[e1'] at z;cases z
  have tv:=Ak.upd (o:=.lst (vs++[.ref t])) tv0;refine⟨_,vs++[.ref t],ja++[ps],bK,rq,Ab,Qcb (hL.tups tv) (Ln.tups tv (Ln.tups t2 e2)),by rw[QaL,e3];show _+1=_;omega,λp hp=>?_,?_,by rw[Aw nnl];exact hnb',(hb'.FQ Ag.upd nbl).mono (by omega),λc o e nc=>?_⟩
  ·rcases Qbu.mp hp with z | z
   ·exact e4 p z
   ·have:p=ps:=by simpa using z
    rw[this];exact⟨h1,by omega,hok⟩
  ·refine⟨?_,Lr++[ps],by rw[hLr];rfl⟩;rw[Ot,Qbe,<-hns];exact e5p
  ·rw[Aw (λz=>by rw[z,fll] at e;cases e)];exact s2 _ _ (e8 _ _ e nc) nc (λz=>by rw[z,fnb] at e;cases e)
 obtain⟨u10,vs,ja,ns',rfl,e1,e2,e3,e4,⟨e5p,U0⟩,e6,e7,e8⟩:=h;have e5:(Bm ja).length+ns'.length=30:=by
  have:=e5p.length_eq;rw[QaL,Qbm,e29] at this;exact this
 have lvs:=QbK e2;have ndA:(Bm ja).Nodup:=(List.nodup_append.mp (e5p.nodup_iff.mpr au)).1;have bdA:∀x∈Bm ja,1<=x/\x<=99:=λx hx=>aB x (e5p.mem_iff.mp (QaD _ hx));have Yg:=Jr e4;refine⟨_,rq,ll,rq,⟨_,SqL.of e1⟩,λlm hlm=>?_⟩;have nlm:ll≠lm:=Ay e1 hlm;let J2:YN:=λi O H'=>∃(u:Option V) (ms:List Int),O=[u]/\H' lm=some (.lst (ms.map V.int))/\ms.length=i/\Same HH H'/\∀ps∈ja.take i,∀m∈Bw ps,∃M∈ms,m<=M;refine Fz (xs:=vs) J2 ⟨none,[],rq,Ab,rq,Ad hlm _,(λps hps=>by cases hps)⟩ (λi O H' _ h=>?_) (λi x O H' hx h=>?_) (fun O H' h=>?_)
 ·obtain⟨u,ms,rfl,m1,m2,m3,m4⟩:=h;exact SqL.of (m3 _ _ e1)
 ·obtain⟨u,ms,rfl,m1,m2,m3,m4⟩:=h;obtain⟨ps,hps,hL⟩:=Paired.Ca e2 hx;obtain⟨tx,wx,rfl,hx1,hx2⟩:=id hL;have okl:=e4 ps (QaA hps);refine⟨_,rq,tx,ps,rq,hL.tups (Ak.of m3),okl.ok,by have:=okl.hi;omega,λlq H'' hq s'=>⟨lq,Bw ps,rq,SqL.of hq,(by unfold Bw;rw[QaL];show 0 < _+1;omega),λM hMi hMm=>?_⟩⟩;have hi:=(Qaf.mp hx).1;refine⟨_,s' _ _ m1,Bc (by rw[Qbt];omega),_,ms++[M],rq,by rw[Ab,Qbw];rfl,by rw[QaL,m2];rfl,(m3.trans s').Df Ag.upd hlm,λqs hqs m hm=>?_⟩;rw[Qcg hps] at hqs;rcases Qbu.mp hqs with hqs | hqs
  ·obtain⟨M',h1,h2⟩:=m4 qs hqs m hm;exact⟨M',QaD _ h1,h2⟩
  ·have:qs=ps:=by simpa using hqs
   rw[this] at hm;exact⟨M,Qav _ (QaM ..),hMm m hm⟩
 obtain⟨u,ms,rfl,m1,m2,m3,m4⟩:=h;refine⟨lm,ms,rq,SqL.of m1,by omega,λM hMi hMm=>?_⟩;have Ze:∀ps∈ja,∀m∈Bw ps,m<=M:=λps hps m hm=>by
  obtain⟨M',h1,h2⟩:=m4 ps (by rw[lvs,Qbl];exact hps) m hm;have:=hMm M' h1;omega
 simp only[QaP,QaO];have e1:=m3 _ _ e1;have e2:=Ln.tups (Ak.of m3) e2;have e7:=e7.same m3;have e8:=e8.trans (Ag.of m3);clear m1 m2;refine⟨Al (by show 0<=1000;decide),λlt hlt=>?_⟩;simp only[QaP,QaO];have sT:=Ad hlt (.lst []);have nbt:b≠lt:=e7.nb hlt;refine⟨_,rq,ll,rq,⟨_,SqL.of (sT _ _ e1)⟩,?_⟩;let J3:YN:=λi O HT=>∃(u13 u14 u15 u16:Option V) (ts:List Int),O=[jd b,some (.int ml),some (.int mp),some (.int r1),some (.int sd),jd nb,some (.int own),jd ft,some (.int (an:Int)),jd ll,u10,some (.int M),jd lt,u13,u14,u15,u16,none,none,none,none]/\HT lt=some (.lst (ts.map V.int))/\ts=Cp (ja.take i)/\Same H' HT;refine La (xs:=vs) J3 ⟨_,_,_,_,[],rq,Ab,rq,sT⟩ (λi O HT _ h=>?_) (λi x O HT hx h=>?_) (fun O HT h=>?_)
 ·obtain⟨u13,u14,u15,u16,ts,rfl,t1,t2,t3⟩:=h;exact SqL.of (t3 _ _ e1)
 ·obtain⟨u13,u14,u15,u16,ts,rfl,t1,t2,t3⟩:=h;simp only[QaP,QaO];obtain⟨ps,hps,hL⟩:=Paired.Ca e2 hx;obtain⟨tx,wx,rfl,hx1,hx2⟩:=id hL;have okl:=e4 ps (QaA hps);have lwx:=QbK hx2;have etk:Bm (ja.take (i+1))=Bm (ja.take i)++adL ps:=by rw[Qcg hps,Ot]
  have tot:(Bm (ja.take (i+1))).length<=30:=by
   have:Bm ja=Bm (ja.take (i+1))++Bm (ja.drop (i+1)):=by unfold Bm;rw[<-QaI,Qaz]
   have h2:=congrArg List.length this;rw[QaL] at h2;omega
  rw[etk,QaL] at tot;have wle:(Cp (ja.take i)).length<=(Bm (ja.take i)).length:=(Jr λqs hqs=>e4 qs (QaC hqs)).length_le;have wtk:Cp (ja.take (i+1))=Cp (ja.take i)++Ej ps:=by rw[Qcg hps,RJ]
  refine⟨_,rq,tx,rq,⟨_,SqT.of (t3 _ _ hx1)⟩,?_⟩;let J4:YN:=λj O HT=>∃(u14 u15 u16:Option V) (ts:List Int),O=[jd b,some (.int ml),some (.int mp),some (.int r1),some (.int sd),jd nb,some (.int own),jd ft,some (.int (an:Int)),jd ll,u10,some (.int M),jd lt,jd tx,u14,u15,u16,none,none,none,none]/\HT lt=some (.lst (ts.map V.int))/\ts=Cp (ja.take i)++Ej (ps.take j)/\Same H' HT;refine Dv (xs:=wx) J4 ⟨_,_,_,ts,rq,t1,(by rw[t2];show _=_++[];rw[Qbz]),t3⟩ (λj O HT _ h=>?_) (λj y O HT hy h=>?_) (fun O HT h=>?_)
  ·obtain⟨u14,u15,u16,ts,rfl,t1,t2,t3⟩:=h;exact SqT.of (t3 _ _ hx1)
  ·obtain⟨u14,u15,u16,ts,rfl,t1,t2,t3⟩:=h;obtain⟨p,hp,hP⟩:=Paired.Ca hx2 hy;obtain⟨tp,up,wp',rfl,hp1,hp2,hp3⟩:=hP.tups (Ak.of t3);have okp:=okl.ok p (QaA hp);have etj:adL (ps.take (j+1))=adL (ps.take j)++adP p:=by rw[Qcg hp,Lf]
   have tj:(adL (ps.take (j+1))).length<=(adL ps).length:=by
    have:adL ps=adL (ps.take (j+1))++adL (ps.drop (j+1)):=by rw[<-GX,Qaz]
    have h2:=congrArg List.length this;rw[QaL] at h2;omega
   rw[etj,QaL] at tj;have wlj:(Ej (ps.take j)).length<=(adL (ps.take j)).length:=(Ku λqs hqs=>okl.ok qs (QaC hqs)).length_le;have wtj:Ej (ps.take (j+1))=Ej (ps.take j)++CK (CG p):=by rw[Qcg hp,TV]
   have t2l:ts.length<=(Bm (ja.take i)).length+(adL (ps.take j)).length:=by rw[t2,QaL];omega
   refine⟨tp,_,rq,SqT.of hp1,rq,_,_,rq,_,_,rq,_,_,rq,rq,?_⟩;simp only[QaP,QaO];refine⟨_,rq,.inl ⟨rq,_,SqL.of t1⟩,_,rq,_,rq,Al (by show 2<=1000;decide),λta hta=>⟨Al (by show 1<=1000;decide),λtb htb=>?_⟩⟩;have v1:=Ad hta (.tup [.str p.kind,.int p.addr]);have v2:=Ad htb (.tup [.ref ta]);have v12:=v1.trans v2;refine⟨_,rq,tb,up,_,_,rq,rq,Ab,v12 _ _ hp2,Al (by have:=okp.spur;show 1+_<=1000;rw[QbK hp3];omega),λtc HC hC sC=>⟨tc,rq,⟨_,SqT.of hC⟩,λl hl=>?_⟩⟩;have vC:=v12.trans sC;have hds:Paired (Fd HC) ([.ref ta]++wp') (⟨p.kind,p.addr⟩::p.spur):=.cons ⟨ta,rq,sC _ _ (v2 _ _ Ab)⟩ (Paired.Bh hp3 λ_ _ z=>z.tups (Ak.of vC));have lds:=QbK hds;let J5:YN:=λk O H5=>∃(u v:Option V) (ys:List Int),O=[u,v]/\H5 l=some (.lst (ys.map V.int))/\ys=CK ((CG p).take k)/\Same HC H5;refine WK (xs:=[.ref ta]++wp') J5 ⟨none,none,[],rq,Ab,rq,Ad hl _⟩ (λk O H5 _ h=>?_) (λk x O H5 hk h=>?_) (fun O H5 h=>?_)
   ·obtain⟨u,v,ys,rfl,y1,y2,y3⟩:=h;exact SqT.of (y3 _ _ hC)
   ·obtain⟨u,v,ys,rfl,y1,y2,y3⟩:=h;obtain⟨d,hd,td,rfl,htd⟩:=Paired.Ca hds hk;have hkl:=(Qaf.mp hd).1;have hsp:=okp.spur;have hkk:k < 4:=by rw[Qbm] at hkl;omega
    have hdv:(CG p)[k]?=some d:=hd;have hws:CK ((CG p).take (k+1))=CK ((CG p).take k)++(if Cy d.kind=true then [d.addr] else []):=by rw[Qcg hdv,Js]
    have y2l:ys.length<=k:=by
     rw[y2];have:=(QS (ds:=(CG p).take k)).length_le;rw[Qbt,Qbk] at this;omega
    refine⟨td,_,rq,SqT.of (y3 _ _ htd),rq,_,_,rq,_,_,rq,rq,?_⟩;refine⟨_,rq,Al (by show 2<=1000;decide),λtq htq=>?_⟩;have vq:=Ad htq (.tup [.str "seeker",.str "knob"]);refine⟨tq,_,rq,.inr (SqT.of Ab),rq,rq,_,rq,GD (λcc=>?_) (λcc=>?_)⟩
    ·have cc:Cy d.kind=true:=cc;rw[if_pos cc] at hws;refine⟨_,rq,_,vq _ _ y1,Bc (by rw[Qbt];omega),_,_,ys++[d.addr],rq,by rw[Ab,Qbw];rfl,by rw[hws,y2],(y3.trans vq).Df Ag.upd hl⟩
    ·have cc:¬Cy d.kind=true:=cc;rw[if_neg cc,Qbz] at hws;refine⟨_,_,ys,rq,vq _ _ y1,by rw[hws];exact y2,y3.trans vq⟩
   obtain⟨u,v,ys,rfl,y1,y2,y3⟩:=h;have y2':ys=CK (CG p):=by
    rw[y2,lds];congr 1;exact Qbl ..
   have y2l:ys.length<=(adP p).length:=by rw[y2'];exact (OJ okp).length_le
   have t1':=y3 _ _ (vC _ _ t1);refine⟨lt,l,_,_,rq,rq,t1',y1,Al (by rw[Qbt,Qbt];omega),?_⟩;refine⟨_,_,_,ts++ys,rq,by rw[Ab,Qbw],?_,((t3.trans vC).trans y3).Df Ag.upd hlt⟩;rw[wtj,t2,y2',Qbe]
  ·obtain⟨u14,u15,u16,ts,rfl,t1,t2,t3⟩:=h;rw[lwx,Qbl] at t2;exact⟨_,_,_,_,ts,rq,t1,by rw[wtk];exact t2,t3⟩
 obtain⟨u13,u14,u15,u16,ts,rfl,t1,t2,t3⟩:=h;rw[lvs,Qbl] at t2;have Vs:ts.length<=30:=by rw[t2];have:=Yg.length_le;omega
 have zk0:Jl (Cp ja) ts [] []:=by
  rw[t2];exact⟨Yg.nodup ndA,(λx hx=>hx),(λz hz=>by cases hz),List.Sublist.refl _⟩
 have e1:=t3 _ _ e1;have e2:=Ln.tups (Ak.of t3) e2;have e7:=e7.same t3;have e8:=e8.trans (Ag.of t3);refine⟨Al (by show 0<=1000;decide),λlz hlz=>?_⟩;simp only[QaP,QaO];have sZ:=Ad hlz (.lst []);have nzl:ll≠lz:=Ay e1 hlz;have nzt:lt≠lz:=Ay t1 hlz;have nzb:b≠lz:=e7.nb hlz;have flz:H lz=none:=e8.free e7.ex hlz;refine⟨_,rq,_,rq,b,_,5,rq,e7.same sZ,by omega,by decide,by decide,λr6 HU r60 r61 hbU sU=>?_⟩;obtain⟨rn,hrn⟩ : ∃rn:Nat,r6=rn:=⟨r6.toNat,by omega⟩;subst hrn;refine⟨b,_,rn,rq,hbU,by omega,by omega,λln ys HV hln ly hys aY S9 hbV sV=>?_⟩;simp only[QaP,QaO];have sUV:Ag b _ HV:=((Ag.of sZ).trans sU).trans sV;have nzn:ln≠lz:=λz=>by rw[z,sU _ _ Ab nzb.symm] at hln;cases hln
 have e1:=sUV _ _ e1 nbl.symm;have e2:=Ln.tups (sUV.tup e7.BZ) e2;have e8:=e8.trans sUV;have hzV:HV lz=some (.lst []):=sV _ _ (sU _ _ Ab nzb.symm) nzb.symm;have t1:=sUV _ _ t1 nbt.symm;have hbV:=hbV.mono (show _<=n+500 by omega);have tl3:ja.length<=3:=by omega
 have nln:b≠ln:=hbU.nb hln;refine⟨_,rq,ln,rq,⟨_,SqL.of S9⟩,?_⟩;let J6:YN:=λi O HH=>∃(lt:Addr) (u19 u20:Option V) (ts:List Int) (zs:YG),O=[jd b,some (.int ml),some (.int mp),some (.int r1),some (.int sd),jd nb,some (.int own),jd ft,some (.int (an:Int)),jd ll,u10,some (.int M),jd lt,u13,u14,u15,u16,jd lz,jd ln,u19,u20]/\HH lt=some (.lst (ts.map V.int))/\ts.length<=30/\b≠lt/\lt≠lz/\HH lz=some (.lst zs)/\(∃jc,Paired (EY HH) zs jc/\Jl (Cp ja) ts jc (ys.take i))/\HH ln=some (.lst (ys.map V.str))/\HH ll=some (.lst vs)/\Paired (LoopAt HH) vs ja/\Bj HH b (n+500+30*i)/\Ag b H HH;refine La (xs:=ys.map V.str) J6
  ⟨lt,_,_,ts,[],rq,t1,Vs,nbt,nzt,hzV,⟨[],.nil,zk0⟩,S9,e1,e2,hbV,e8⟩ (λi O HH _ h=>?_) (λi x O HH hx h=>?_) (fun O HH h=>?_)
 ·obtain⟨lt,u19,u20,ts,zs,rfl,z1,z2,z3,z4,z5,z6,z7,z8,z9,z10,z11⟩:=h;exact SqL.of z7
 ·clear t1 t2 t3 Vs nbt nzt hzV S9 e1 e2 hbV e8;obtain⟨lt,u19,u20,ts,zs,rfl,z1,z2,z3,z4,z5,z6,z7,z8,z9,z10,z11⟩:=h;obtain⟨jc,zp,zk⟩:=z6;have aW:zs.length<=5:=by
   have h1:=QbK zp;have h2:=zk.nm.length_le;rw[Qbt,Qbk] at h2;omega
  obtain⟨yi,hyi,rfl⟩ : ∃yi,ys[i]?=some yi/\x=.str yi:=by
   rw[Qba] at hx;obtain⟨yi,h1,h2⟩:=Qat.mp hx;exact⟨yi,h1,h2.symm⟩
  have ytk:ys.take (i+1)=ys.take i++[yi]:=Qcg hyi;have hil:i < 5:=by
   have:=(Qaf.mp hx).1;rw[Qbt] at this;omega
  simp only[QaP,QaO];refine⟨_,rq,lt,rq,⟨_,SqL.of z1⟩,λlc hlc=>?_⟩;have nbc:b≠lc:=z10.nb hlc;have ntc:lt≠lc:=Ay z1 hlc;have sC:=Ad hlc (.lst []);let J7:YN:=λk O HC=>∃(u:Option V) (ss:List Int),O=[u,jd b]/\HC lc=some (.lst (ss.map V.int))/\ss.Sublist (ts.take k)/\Bj HC b (n+500+30*i+k)/\Ag b HH HC;refine Fz (xs:=ts.map V.int) J7 ⟨none,[],rq,Ab,List.Sublist.refl _,z10.same sC,Ag.of sC⟩ (λk O HC _ h=>?_) (λk x O HC hk h=>?_) (fun O HC h=>?_)
  ·obtain⟨u,ss,rfl,c1,c2,c3,c4⟩:=h;exact SqL.of (c4 _ _ z1 z3.symm)
  ·obtain⟨u,ss,rfl,c1,c2,c3,c4⟩:=h;have hkl:k < 30:=by
    have:=(Qaf.mp hk).1;rw[Qbt] at this;omega
   refine⟨_,rq,b,_,3,rq,c3,by omega,by decide,by decide,λr HD _ _ hbD sD=>⟨rq,_,rq,?_⟩⟩;have c1':=sD _ _ c1 nbc.symm;rw[Qba] at hk;obtain⟨a,hka,rfl⟩:=Qat.mp hk;have tka:ts.take (k+1)=ts.take k++[a]:=Qcg hka;have ssl:ss.length<=k:=QbT c2.length_le (by rw[Qbk];omega);refine GD (λcc=>?_) (λcc=>?_)
   ·refine⟨_,rq,_,c1',Bc (by rw[Qbt];omega),_,ss++[a],rq,by rw[Ab,Qbw];rfl,by rw[tka];exact c2.append (List.Sublist.refl _),hbD.FQ Ag.upd nbc,Ag.IV (c4.trans sD) Ag.upd hlc⟩
   ·exact⟨_,ss,rq,c1',by rw[tka];exact c2.trans (List.sublist_append_left ..),hbD,c4.trans sD⟩
  obtain⟨u,ss,rfl,c1,c2,c3,c4⟩:=h;rw[Qbt] at c2 c3;rw[Qbl] at c2;have ssl:ss.length<=30:=QbT c2.length_le z2;refine⟨lc,ss,rq,SqL.of c1,by omega,λms ls hperm aL hls=>?_⟩;simp only[QaP,QaO];have sS:=Ad hls (.lst (ms.map V.int));have c5:Ag b HH (upd HC ls (.lst (ms.map V.int))):=c4.trans (Ag.of sS);have c6:=c3.same sS;have c7:(upd HC ls (.lst (ms.map V.int))) ls=some (.lst (ms.map V.int)):=Ab;generalize upd HC ls (.lst (ms.map V.int))=HS at c5 c6 c7;have lms:ms.length<=30:=by have:=hperm.length_eq;omega
  have z1:=c5 _ _ z1 z3.symm;refine⟨_,rq,lt,rq,⟨_,SqL.of z1⟩,λlw hlw=>?_⟩;have nbw:b≠lw:=c6.nb hlw;have nsw:ls≠lw:=Ay c7 hlw;have nzw:lw≠lz:=(Ay (c5 _ _ z5 nzb.symm) hlw).symm;let J8:YN:=λk O HC=>∃(u:Option V) (ss:List Int),O=[u,jd ls]/\HC lw=some (.lst (ss.map V.int))/\ss=(ts.take k).filter (λx=>!decide (x∈ms))/\Same HS HC;refine Fz (xs:=ts.map V.int) J8 ⟨none,[],rq,Ab,rq,Ad hlw _⟩ (λk O HC _ h=>?_) (λk x O HC hk h=>?_) (fun O HC h=>?_)
  ·obtain⟨u,ss,rfl,d1,d2,d3⟩:=h;exact SqL.of (d3 _ _ z1)
  ·obtain⟨u,ss,rfl,d1,d2,d3⟩:=h;have hkl:k < 30:=by
    have:=(Qaf.mp hk).1;rw[Qbt] at this;omega
   rw[Qba] at hk;obtain⟨a,hka,rfl⟩:=Qat.mp hk;have tka:(ts.take (k+1)).filter (λx=>!decide (x∈ms))=(ts.take k).filter (λx=>!decide (x∈ms))++[a].filter (λx=>!decide (x∈ms)):=by rw[Qcg hka,QaY]
   have ssl:ss.length<=30:=by
    rw[d2];have h1:=List.length_filter_le (λx=>!decide (x∈ms)) (ts.take k);rw[Qbk] at h1;omega
   refine⟨_,rq,_,rq,ls,_,rq,.inl (SqL.of (d3 _ _ c7)),rq,Hr ms,_,rq,GD (λcc=>?_) (λcc=>?_)⟩
   ·have cc:(!inV (.int a) (ms.map V.int))=true:=cc;rw[KZ] at cc;rw[show List.filter (λx=>!decide (x∈ms)) [a]=[a] from Qaq (p:=λx=>!decide (x∈ms)) cc] at tka
    refine⟨_,rq,_,d1,Bc (by rw[Qbt];omega),_,ss++[a],rq,by rw[Ab,Qbw];rfl,by rw[tka,d2],d3.Df Ag.upd hlw⟩
   ·have cc:¬(!inV (.int a) (ms.map V.int))=true:=cc;rw[KZ] at cc;rw[show List.filter (λx=>!decide (x∈ms)) [a]=[] from Qap (p:=λx=>!decide (x∈ms)) cc] at tka
    exact⟨_,ss,rq,d1,by rw[tka,d2];exact (Qbz _).symm,d3⟩
  obtain⟨u,ws,rfl,d1,d2,d3⟩:=h;rw[Qbt,Qbl] at d2;have wsl:ws.length<=30:=by rw[d2];exact QbT (List.length_filter_le _ _) z2
  simp only[QaP,QaO];have c8:=c5.trans (Ag.of d3);have z5:=c8 _ _ z5 nzb.symm;have z7:=c8 _ _ z7 nln.symm;have z8:=c8 _ _ z8 nbl.symm;have z9:=Ln.tups (c8.tup z10.BZ) z9;have zp:Paired (EY HC) zs jc:=Paired.Bh zp λ_ _ z=>z.tups (c8.tup z10.BZ);have z10:=(c6.same d3).mono (show _<=n+500+30*(i+1) by omega);have z11:=z11.trans c8;have c7:=d3 _ _ c7;have zkn:(ms.map V.int).length=ms.length:=Qbt _;refine⟨_,rq,ls,_,rq,.inl (SqL.of c7),_,_,rq,rq,_,rq,GD (λcc=>?_) (λcc=>?_)⟩
  ·refine⟨_,rq,.inl ⟨rq,_,SqL.of z5⟩,_,rq,_,rq,ls,_,rq,.inl ⟨SqL.of c7,λtt htt=>⟨Al (by show 2<=1000;decide),λta hta=>?_⟩⟩⟩;have f1:=Ad htt (.tup (ms.map V.int));have f2:=Ad hta (.tup [.str yi,.ref tt]);have f12:=f1.trans f2;have z5:=f12 _ _ z5;refine⟨lz,_,_,rq,rq,z5,Bc (by omega),?_⟩;have tz0:∀zs',(upd (upd HC tt (.tup (ms.map V.int))) ta (.tup [.str yi,.ref tt])) lz≠some (.tup zs'):=λzs' z=>by rw[z5] at z;cases z
   have tz:=Ak.upd (o:=.lst (zs++[.ref ta])) tz0;have cX:1<=ms.length:=by
    have cc:=Qbg cc;rw[zkn] at cc;omega
   have zp':Paired (EY (upd (upd (upd HC tt (.tup (ms.map V.int))) ta (.tup [.str yi,.ref tt])) lz (.lst (zs++[.ref ta])))) (zs++[.ref ta]) (jc++[⟨yi,ms⟩]):=Qcb ⟨ta,tt,rq,tz _ _ Ab,tz _ _ (f2 _ _ Ab)⟩ (Paired.Bh zp λ_ _ z=>(z.tups (Ak.of f12)).tups tz);have zk':Jl (Cp ja) ws (jc++[⟨yi,ms⟩]) (ys.take (i+1)):=by rw[d2,ytk];exact zk.next hperm c2 aL lms cX
   exact⟨lw,_,_,ws,zs++[.ref ta],rq,by rw[Aw nzw];exact f12 _ _ d1,by omega,nbw,nzw,Ab,⟨_,zp',zk'⟩,by rw[Aw nzn];exact f12 _ _ z7,by rw[Aw nzl];exact f12 _ _ z8,Ln.tups tz (Ln.tups (Ak.of f12) z9),(z10.same f12).FQ Ag.upd nzb,Ag.IV (z11.trans (Ag.of f12)) Ag.upd flz⟩
  ·exact⟨lw,_,_,ws,zs,rq,d1,by omega,nbw,nzw,z5,⟨jc,zp,by rw[d2,ytk];exact zk.none⟩,z7,z8,z9,z10,z11⟩
 clear t1 t2 t3 Vs nbt nzt hzV S9 e1 e2 hbV e8;obtain⟨lt,u19,u20,ts,zs,rfl,z1,z2,z3,z4,z5,z6,z7,z8,z9,z10,z11⟩:=h;rw[Qbt] at z10;obtain⟨jc,zp,zk⟩:=z6;rw[Qbt,Qbl] at zk;have aW:zs.length<=5:=by
  have h1:=QbK zp;have h2:=zk.nm.length_le;rw[Qbt] at h2;omega
 refine⟨_,rq,_,rq,b,_,3,rq,z10,by omega,by decide,by decide,λr7 HX _ _ hbX sX=>⟨_,_,rq,rq,_,_,rq,_,rq,ll,_,rq,.inl ⟨SqL.of (sX _ _ z8 nbl.symm),λtl htl=>?_⟩⟩⟩;have g1:=Ad htl (.tup vs);refine⟨_,rq,lz,_,rq,.inl ⟨SqL.of (g1 _ _ (sX _ _ z5 nzb.symm)),λtz htz=>⟨Al (by show 3<=1000;decide),λt ht=>?_⟩⟩⟩;have g2:=Ad htz (.tup zs);have g3:=Ad ht (.tup [.int (if M+r7 < 30 then M+r7 else 30),.ref tl,.ref tz])
 have Td:=(g1.trans g2).trans g3;have cnt:1<=(Bm ja).length:=by
  obtain⟨L,hL⟩ : ∃L,ja=L0::L:=U0;rw[hL];have:Bm (L0::L)=adL L0++Bm L:=by unfold Bm;rw[Qbd]
  rw[this,QaL];omega
 have M1:1<=M:=by
  obtain⟨L,hL⟩ : ∃L,ja=L0::L:=U0;obtain⟨m,h1,h2⟩:=QW (l:=Bw L0) (by rw[NZ];omega);have:=Ze L0 (by rw[hL];exact QaM ..) m h1;omega
 have pok:Qx (if M+r7 < 30 then M+r7 else 30) ja jc:=by
  refine⟨ndA,bdA,⟨cnt,by omega⟩,⟨by split <;> omega,by split <;> omega⟩,λps hps m hm=>?_,λz hz x hx=>?_,(List.nodup_append.mp zk.nd).1,zk.up,?_,λz hz=>?_,zk.nm.nodup aY⟩
  ·have h1:=Ze ps hps m hm;have h2:=VN ps m hm;have h3:(adL ps).length<=(Bm ja).length:=by
    exact Rm ja hps
   split <;> omega
  ·exact zk.sub x (QaD _ (List.mem_flatMap.mpr ⟨z,hz,hx⟩))
  ·have h1:=QbK zp;omega
  ·exact hys z.name (zk.nm.subset (QbV.mpr ⟨z,hz,rq⟩))
 exact q t tl tz vs zs ja jc _ _ Ab (g3 _ _ (g2 _ _ Ab)) (Ln.tups (Ak.of Td) (Ln.tups (sX.tup z10.BZ) z9)) e4 (by omega) tl3 (g3 _ _ Ab) (Paired.Bh zp λ_ _ z=>(z.tups (sX.tup z10.BZ)).tups (Ak.of Td)) pok ((hbX.same Td).mono (by omega)) ((z11.trans sX).trans (Ag.of Td))
end
abbrev FT:Stmt:=top 3
abbrev Di:YF:=["loop","at","place"]
theorem Ce:Bx ["loop","at","place","kind","address","spur","told","number","spur_kind","spur_address"] Di (Ao FT):=by ac_rfl
structure Sd where
 lp:Int
 at_:Int
 n:Int
 kind:Str
 addr:Int
def Hg (H:Hp) (v:V) (d:Sd):Prop:=∃t u,v=.ref t/\H t=some (.tup [.ref u,.str d.kind,.int d.addr])/\H u=some (.tup [.int d.lp,.int d.at_,.int d.n])
theorem Hg.tups {H H':Hp} (s:Ak H H') {v:V} {d:Sd} (h:Hg H v d):Hg H' v d:=by
 obtain⟨t,u,e,q1,q2⟩:=h;exact⟨t,u,e,s _ _ q1,s _ _ q2⟩
def Dc (lp at_:Int):Nat->List Dev->List Sd
 | _,[]=>[]
 | n,d::r=>⟨lp,at_,n,d.kind,d.addr⟩::Dc lp at_ (n+1) r
def BJ (lp at_:Int) (p:Place):List Sd:=if V.str p.kind=V.str "opener" then [] else ⟨lp,at_,0,p.kind,p.addr⟩::Dc lp at_ 1 p.spur
theorem Kp (lp at_:Int):∀(n:Nat) (ds:List Dev) (i:Nat) (d:Dev),ds[i]?=some d->Dc lp at_ n (ds.take (i+1))=Dc lp at_ n (ds.take i)++[⟨lp,at_,(n+i:Nat),d.kind,d.addr⟩]
 | n,[],i,d,h=>by simp at h
 | n,x::r,0,d,h=>by
  simp at h;subst h;simp[Dc]
 | n,x::r,i+1,d,h=>by
  have h':r[i]?=some d:=by simpa using h
  have ih:=Kp lp at_ (n+1) r i d h';rw[List.take_succ_cons,List.take_succ_cons];show _::Dc lp at_ (n+1) (r.take (i+1))=(_::Dc lp at_ (n+1) (r.take i))++_;rw[ih,show n+1+i=n+(i+1) by omega];rfl
structure Tx (K:YD) (mg:YB) (op oe:Addr):Prop extends Nm mg where
 OPENER:∃u,mg "OPENER"=some u/\RelV (.ref op) u
 opT:∀H,SqT K H op [.str "opener",.int 0,.ref oe]
 opE:∀H,SqT K H oe []
def Vv:Sp:=λvs H Q _=>∃(lp at_:Int) (v:V) (p:Place),vs=[.int lp,.int at_,v]/\Cz H v p/\p.spur.length<=3/\∀l xs H',H l=none->H' l=some (.lst xs)->Paired (Hg H') xs (BJ lp at_ p)->Same H H'->Q (.ref l) H'
section
variable {P:Program} {w:World} {K:YD} {mg:YB} {base:Heap} {op oe:Addr}
theorem KQ (c:Code K mg "place_devices" FT Di) (T:Tx K mg op oe):Good P w K mg base "place_devices" 1 Di Vv:=by
 refine c.good Ce (λvs H Q E h=>?_) (λf cdv A outer s H vs Q E hr h=>?_)
 ·obtain⟨lp,at_,v,p,rfl,_⟩:=h;rfl
 obtain⟨lp,at_,v,p,rfl,⟨t,u,vs,rfl,ht,hu,hd⟩,h3,q⟩:=h;refine⟨_,(Af (Ez (pv 2) (Ck rfl (Aj (Ah (i:=3) Ce.nd rfl (Or.inl rfl)) (Aj (Ah (i:=4) Ce.nd rfl (Or.inl rfl)) (Aj (Ah (i:=5) Ce.nd rfl (Or.inl rfl)) Bu)))))
 (Af (Cq (Bl Ho (pv 3) BL (Ci _)) (Ai (Bs (Cg Ac))) BK)
 (Af (Av (i:=6) Ce.nd rfl (Or.inl rfl) (Cg (Aa (Bd (Aa (Bd (Aa (pv 0) (Aa (pv 1) (Aa Ae Ac)))) (Aa (pv 3) (Aa (pv 4) Ac)))) Ac)))
 (Af (Bo Qbv rfl (KN rfl T.enumerate (pv 5) Ae) (Ck rfl (Aj (Ah (i:=7) Ce.nd rfl (Or.inl rfl)) (Aj (Ck rfl (Aj (Ah (i:=8) Ce.nd rfl (Or.inl rfl)) (Aj (Ah (i:=9) Ce.nd rfl (Or.inl rfl)) Bu))) Bu)))
 (Ai (CT (Dn Qan Qaj Qak CV (pv 6) (Aa (Bd (Aa (Bd (Aa (pv 0) (Aa (pv 1) (Aa (pv 7) Ac)))) (Aa (pv 8) (Aa (pv 9) Ac)))) Ac)))))
 (Ai (Bs (pv 6))))))),?_⟩
 show let R0:TS:=_;let R1:TS:=Am (Cd _ _ R0) _;let R2:TS:=Am _ R1;let R3:TS:=Am _ R2;Am _ R3 _ _ _;intro R0 R1 R2 R3;generalize hst:L2.start _ _=σ0;have e0:σ0=[some (.int lp),some (.int at_),jd t,none,none,none,none,none,none,none]:=hst.symm;clear hst;subst e0;refine⟨_,rq,t,_,rq,SqT.of ht,rq,_,_,rq,_,_,rq,_,_,rq,rq,?_⟩;simp only[QaP,QaO];refine⟨_,rq,rq,_,rq,?_⟩;by_cases ck:V.str p.kind=V.str "opener"
 ·rw[QbH ck];have e:BJ lp at_ p=[]:=if_pos ck;rw[e] at q;exact Ei ⟨(by show 0<=sizeLine;decide),λl hl=>q l [] _ hl Ab .nil (Ad hl _)⟩
 ·rw[Qbx ck];have e:BJ lp at_ p=⟨lp,at_,0,p.kind,p.addr⟩::Dc lp at_ 1 p.spur:=if_neg ck;rw[e] at q;refine Ec ⟨_,rq,_,rq,(by show 3<=sizeLine;decide),λus hus=>⟨_,rq,_,rq,(by show 3<=sizeLine;decide),λts hts=>⟨(by show 1<=sizeLine;decide),λl hl=>?_⟩⟩⟩;have s1:=Ad hus (.tup [.int lp,.int at_,.int 0]);have s2:=Ad hts (.tup [.ref us,.str p.kind,.int p.addr]);have s3:=Ad hl (.lst [.ref ts]);have sm:=s1.trans (s2.trans s3);have hl0:=s1.free (s2.free hl);have el:_=some (HO.lst [.ref ts]):=Ab (H:=upd (upd H us (.tup [.int lp,.int at_,.int 0])) ts (.tup [.ref us,.str p.kind,.int p.addr])) (a:=l) (o:=.lst [.ref ts]);have es:Hg _ (.ref ts) ⟨lp,at_,0,p.kind,p.addr⟩:=⟨ts,us,rq,s3 _ _ Ab,s3 _ _ (s2 _ _ Ab)⟩;generalize hX:upd (upd (upd H us (.tup [.int lp,.int at_,.int 0])) ts (.tup [.ref us,.str p.kind,.int p.addr])) l (.lst [.ref ts])=H1 at sm el es;simp only[QaP,QaO];have hu1:=sm _ _ hu;have sd0:Paired (Hg H1) [.ref ts] (⟨lp,at_,0,p.kind,p.addr⟩::Dc lp at_ 1 (p.spur.take 0)):=.cons es .nil;have cj:vs.length=p.spur.length:=QbK hd;refine⟨_,rq,u,rq,⟨vs,SqT.of hu1⟩,Jj (xs:=vs) (lo:=1) (λi O HH=>∃ys u7 u8 u9,O=[some (.int lp),some (.int at_),jd t,some (.str p.kind),some (.int p.addr),jd u,jd l,u7,u8,u9]/\Ag l H1 HH/\HH l=some (.lst ys)/\Paired (Hg HH) ys (⟨lp,at_,0,p.kind,p.addr⟩::Dc lp at_ 1 (p.spur.take i))/\ys.length<=i+1)
   ⟨[.ref ts],_,_,_,rq,Ag.refl l H1,el,sd0,QbZ _⟩ (λi O HH _ h=>?_) (λi x pt O HH hx h hpt=>?_) (fun O HH h=>?_)⟩
  ·obtain⟨ys,_,_,_,_,sb,_⟩:=h;exact SqT.of (sb _ _ hu1 (λz=>by rw[z,el] at hu1;cases hu1))
  ·obtain⟨ys,u7,u8,u9,rfl,sb,hy,pd,ly⟩:=h;obtain⟨d,hdi,td,rfl,htd⟩:=Paired.Ca hd hx;have nl:∀zs,H1 l≠some (.tup zs):=λzs z=>by rw[el] at z;cases z
   have nl2:∀zs,HH l≠some (.tup zs):=λzs z=>by rw[hy] at z;cases z
   have cR:=(sb.tup nl) _ _ (sm _ _ htd);have t0:=Ad hpt (.tup [.int ((1+i:Nat):Int),.ref td]);refine⟨pt,_,rq,SqT.of Ab,rq,_,_,rq,_,_,rq,td,_,rq,SqT.of (t0 _ _ cR),rq,_,_,rq,_,_,rq,rq,rq,?_⟩;simp only[QaP,QaO];have hy0:=t0 _ _ hy;refine⟨_,rq,.inl ⟨rq,_,SqL.of hy0⟩,_,rq,_,rq,_,rq,(by show 3<=sizeLine;decide),λus2 cP=>⟨_,rq,_,rq,(by show 3<=sizeLine;decide),λts2 cQ=>?_⟩⟩;have t1:=Ad cP (.tup [.int lp,.int at_,.int ((1+i:Nat):Int)]);have t2:=Ad cQ (.tup [.ref us2,.str d.kind,.int d.addr]);have hy2:=t2 _ _ (t1 _ _ hy0);have il:=(Qaf.mp hx).1;refine⟨l,_,_,rq,rq,hy2,Bc (by omega),?_⟩;refine⟨ys++[.ref ts2],_,_,_,rq,sb.trans ((Ag.of (t0.trans (t1.trans t2))).trans Ag.upd),Ab,?_,by rw[QaL];simp only[Qax];omega⟩;rw[Kp lp at_ 1 p.spur i d hdi];have nlx:∀zs,(upd (upd (upd HH pt (.tup [.int ((1+i:Nat):Int),.ref td])) us2 (.tup [.int lp,.int at_,.int ((1+i:Nat):Int)])) ts2 (.tup [.ref us2,.str d.kind,.int d.addr])) l≠some (.tup zs):=λzs z=>by rw[hy2] at z;cases z
   have tt:=Ak.upd (o:=.lst (ys++[.ref ts2])) nlx;exact Qcb (l₂:=_::Dc lp at_ 1 (p.spur.take i)) ⟨ts2,us2,rq,tt _ _ Ab,tt _ _ (t2 _ _ Ab)⟩ (Paired.Bh pd λ_ _ z=>(z.tups (Ak.of (t0.trans (t1.trans t2)))).tups tt)
  ·obtain⟨ys,u7,u8,u9,rfl,sb,hy,pd,ly⟩:=h;rw[cj,Qbl] at pd;exact⟨_,rq,q l ys HH hl0 hy pd λc o e=>sb _ _ (sm _ _ e) (Ay e hl0)⟩
end
structure Sp3 where
 lp:Int
 at_:Int
 n:Int
def Sd.spot (d:Sd):Sp3:=⟨d.lp,d.at_,d.n⟩
def Qw (H:Hp) (v:V) (d:Sp3):Prop:=∃u,v=.ref u/\H u=some (.tup [.int d.lp,.int d.at_,.int d.n])
theorem Qw.tups {H H':Hp} (s:Ak H H') {v:V} {d:Sp3} (h:Qw H v d):Qw H' v d:=by
 obtain⟨u,e,q⟩:=h;exact⟨u,e,s _ _ q⟩
theorem Ke {k:Str} (h:Gd k):¬V.str k=V.str "opener":=by
 rcases h with rfl | rfl | rfl | rfl <;> decide +kernel
theorem Qc {k:Str} (h:Gd k):(PyData.str k).canLay0=true:=by
 rcases h with rfl | rfl | rfl | rfl <;> decide +kernel
def Hx (d:Dev):PyData:=.tuple [.str d.kind,.int d.addr]
def Ie (p:Place):PyData:=.tuple [.str p.kind,.int p.addr,.tuple (p.spur.map Hx)]
def opD:PyData:=.tuple [.str "opener",.int 0,.tuple []]
theorem Qk:∀{ds:List Dev},(∀d∈ds,Gd d.kind)->PyData.canLayAll0 (ds.map Hx)=true/\PyData.depthAll (ds.map Hx)<=1
 | [],_=>⟨rfl,by show 0<=1;decide⟩
 | d::ds,h=>by
  have ih:=Qk (ds:=ds) λx hx=>h x (QaB _ hx);refine⟨?_,?_⟩
  ·show ((PyData.canLay0 (.str d.kind)&&(true&&true))&&PyData.canLayAll0 (ds.map Hx))=true;rw[Qc (h d QaM),ih.1];rfl
  ·show max (max 0 (max 0 0)+1) (PyData.depthAll (ds.map Hx))<=1;exact Nat.max_le.mpr ⟨by decide,ih.2⟩
theorem Y5:PyData.canLay0 (.str "opener")=true:=by trivial
theorem Pr {p:Place} (h:OkP p):SeqAt.shaped (Ie p)=true:=by
 have hk:PyData.canLay0 (.str p.kind)=true:=by
  rcases h.form with⟨e,_⟩| e
  ·rw[e];exact Y5
  ·exact Qc e
 have hd:=Qk h.kinds;show ((PyData.canLay0 (.str p.kind)&&(true&&(PyData.canLayAll0 (p.spur.map Hx)&&true)))&&decide (max 0 (max 0 (max (PyData.depthAll (p.spur.map Hx)+1) 0))+1<=64))=true;rw[hk,hd.1];have:max 0 (max 0 (max (PyData.depthAll (p.spur.map Hx)+1) 0))+1<=64:=by omega
 rw[QbH this];rfl
theorem Um {p:Place} (h:OkP p):PyData.eqv (Ie p) opD=decide (V.str p.kind=V.str "opener"):=by
 rcases h.form with⟨e1,e2,e3⟩| e
 ·rw[show Ie p=opD by unfold Ie opD;rw[e1,e2,e3];rfl,e1]
  decide +kernel
 ·rw[Qbx (Ke e)];have:(p.kind == ("opener":Str))=false:=beq_eq_false_iff_ne.mpr λz=>Ke e (by rw[z]);show (((p.kind == ("opener":Str))&&_))=false;rw[this];rfl
theorem Fd.rep {K:YD} {H:Hp} {v:V} {d:Dev} (h:Fd H v d):Gm K H v (Hx d):=by
 obtain⟨t,rfl,e⟩:=h;exact .tup (SqT.of e) (.cons (.str _) (.cons (.int _) .nil))
theorem Qj {K:YD} {H:Hp}:∀{vs:YG} {ds:List Dev},Paired (Fd H) vs ds->GR K H vs (ds.map Hx)
 | _,_,.nil=>.nil
 | _,_,.cons h t=>.cons h.rep (Qj t)
theorem Cz.rep {K:YD} {H:Hp} {v:V} {p:Place} (h:Cz H v p):Gm K H v (Ie p):=by
 obtain⟨t,u,vs,rfl,e1,e2,e3⟩:=h;exact .tup (SqT.of e1) (.cons (.str _) (.cons (.int _) (.cons (.tup (SqT.of e2) (Qj e3)) .nil)))
theorem GJ (lp at_:Int):∀(n:Nat) (ds:List Dev),(Dc lp at_ n ds).length=ds.length
 | _,[]=>rfl
 | n,d::r=>by show (Dc lp at_ (n+1) r).length+1=r.length+1;rw[GJ]
abbrev Jz:Stmt:=top 4
abbrev Fy:YF:=["plan"]
theorem Eu:Bx ["plan","told","loop","places","at","place"] Fy (Ao Jz):=by ac_rfl
def up {α : Type} (f:Nat->List α) (i:Nat):List α:=(List.range i).flatMap f
theorem HF {α : Type} (f:Nat->List α) (i:Nat):up f (i+1)=up f i++f i:=by
 unfold up;rw[List.range_succ,QaI];simp
theorem MJ {α : Type} (f:Nat->List α):up f 0=[]:=rfl
theorem HN {α : Type} {f:Nat->List α} {c:Nat} (h:∀i,(f i).length<=c):∀i,(up f i).length<=c*i
 | 0=>QbZ _
 | i+1=>by
  have:=HN h i;have:=h i;rw[HF,QaL,Nat.mul_succ];omega
def ifs {α β : Type} (o:Option α) (g:α->List β):List β:=match o with | none=>[] | some x=>g x
theorem Jh {α β : Type} {o:Option α} {g:α->List β} {x:α} (h:o=some x):ifs o g=g x:=by rw[h];rfl
structure Gt where
 lp:Int
 at_:Int
def WT (H:Hp) (v:V) (d:Gt):Prop:=∃u,v=.ref u/\H u=some (.tup [.int d.lp,.int d.at_])
theorem WT.tups {H H':Hp} (s:Ak H H') {v:V} {d:Gt} (h:WT H v d):WT H' v d:=by
 obtain⟨u,e,q⟩:=h;exact⟨u,e,s _ _ q⟩
def pd1 (lp:Int) (ps:List Place) (i:Nat):List Sd:=ifs ps[i]? λp=>BJ lp ((1+i:Nat):Int) p
def pdL (ja:YU) (k:Nat):List Sd:=ifs ja[k]? λps=>up (pd1 k ps) ps.length
def st1 (lp:Int) (ps:List Place) (i:Nat):List Sp3:=ifs ps[i]? λp=>(List.range (p.spur.length+1)).map λn:Nat=>⟨lp,((1+i:Nat):Int),(n:Int)⟩
structure JQ (ja:YU):Prop where
 ok:∀ps∈ja,OkL ps
 hi:ja.length<=3
theorem Kr {lp a:Int} {p:Place} (h:OkP p):(BJ lp a p).length<=4:=by
 unfold BJ;have:=h.spur;split
 ·exact Qca _
 ·rw[Qbm,GJ];omega
theorem Rg {lp:Int} {ps:List Place} (h:∀p∈ps,OkP p) (i:Nat):(pd1 lp ps i).length<=4:=by
 unfold pd1;cases e:ps[i]? with
 | none=>exact Qca _
 | some p=>exact Kr (h p (QaA e))
theorem M7 {ja:YU} (h:JQ ja) (k:Nat):(pdL ja k).length<=48:=by
 unfold pdL;cases e:ja[k]? with
 | none=>exact Qca _
 | some ps=>
  have o:=h.ok ps (QaA e);have:=HN (Rg (lp:=k) o.ok) ps.length;have:=o.hi;show (up _ _).length<=48;omega
def Vk (H:Hp) (pl:Addr) (ja:YU):Prop:=∃v0 v2 Ls vs,H pl=some (.tup [v0,.ref Ls,v2])/\H Ls=some (.tup vs)/\Paired (LoopAt H) vs ja
def Sg:Sp:=λvs H Q _=>∃(pl:Addr) (ja:YU),vs=[.ref pl]/\Vk H pl ja/\JQ ja/\∀l xs H',H l=none->H' l=some (.lst xs)->Paired (Hg H') xs (up (pdL ja) ja.length)->Same H H'->Q (.ref l) H'
section
variable {P:Program} {w:World} {K:YD} {mg:YB} {base:Heap} {op oe:Addr}
theorem SQ (c:Code K mg "devices" Jz Fy) (T:Tx K mg op oe) (Ge:Good P w K mg base "place_devices" 1 Di Vv):Good P w K mg base "devices" 2 Fy Sg:=by
 refine c.good Eu (λvs H Q E h=>?_) (λf cdv A outer s H vs Q E hr h=>?_)
 ·obtain⟨pl,ja,rfl,_⟩:=h;rfl
 obtain⟨pl,ja,rfl,⟨v0,v2,Ls,vs,hpl,hLs,hlo⟩,ok,q⟩:=h;refine⟨_,(Af (Av (i:=1) Eu.nd rfl (Or.inl rfl) (Cg Ac))
 (Af (Bo Qbv rfl (VJ rfl T.enumerate (Bb Br (pv 0) Ae (λ_ _=>rfl))) (Ck rfl (Aj (Ah (i:=2) Eu.nd rfl (Or.inl rfl)) (Aj (Ah (i:=3) Eu.nd rfl (Or.inl rfl)) Bu)))
 (Ai (Bo Qbv rfl (KN rfl T.enumerate (pv 3) Ae) (Ck rfl (Aj (Ah (i:=4) Eu.nd rfl (Or.inl rfl)) (Aj (Ah (i:=5) Eu.nd rfl (Or.inl rfl)) Bu)))
 (Ai (CT (Dn Qan Qal Qam Gw (pv 1) (Aa (Bg Ge hr (Aa (pv 2) (Aa (pv 4) (Aa (pv 5) Ac)))) Ac)))))))
 (Ai (Bs (pv 1))))),?_⟩
 show let R0:TS:=_;let R1:TS:=Cd _ _ R0;let R2:TS:=Am (Cd _ _ R1) _;Am _ R2 _ _ _;intro R0 R1 R2;generalize hst:L2.start _ _=σ0;have e0:σ0=[jd pl,none,none,none,none,none]:=hst.symm;clear hst;subst e0;refine⟨Al (by show 0<=1000;decide),λl fl=>?_⟩;simp only[QaP,QaO];have s1:=Ad fl (.lst []);have lvs:=QbK hlo;refine⟨_,rq,pl,_,_,_,rq,rq,SqT.of (s1 _ _ hpl),rq,Ls,rq,⟨vs,SqT.of (s1 _ _ hLs)⟩,?_⟩;let J0:YN:=λi O HH=>∃(ys:YG) (u2 u3 u4 u5:Option V),O=[jd pl,jd l,u2,u3,u4,u5]/\Same H HH/\HH l=some (.lst ys)/\Paired (Hg HH) ys (up (pdL ja) i);refine Jj (xs:=vs) (lo:=0) J0 ⟨[],_,_,_,_,rq,s1,Ab,.nil⟩ (λi O HH _ h=>?_) (λi x pt O HH hx h hpt=>?_) (fun O HH h=>?_)
 ·obtain⟨ys,_,_,_,_,_,sm,_⟩:=h;exact SqT.of (sm _ _ hLs)
 ·obtain⟨ys,u2,u3,u4,u5,rfl,sm,hy,py⟩:=h;obtain⟨ps,hps,hL⟩:=Paired.Ca hlo hx;obtain⟨t,ws,rfl,ht,hws⟩:=id hL;have okl:=ok.ok ps (QaA hps);have ek:pdL ja i=up (pd1 i ps) ps.length:=Jh hps;have lws:=QbK hws;have t0:=Ad hpt (.tup [.int ((0+i:Nat):Int),.ref t]);refine⟨pt,_,rq,SqT.of Ab,rq,_,_,rq,_,_,rq,rq,?_⟩;have sm0:=sm.trans t0;have hy0:=t0 _ _ hy;have py0:=Paired.Bh py λ_ _ (z:Hg HH _ _)=>z.tups (Ak.of t0);generalize upd HH pt (.tup [.int ((0+i:Nat):Int),.ref t])=HA at sm0 hy0 py0;simp only[QaP,QaO,Nat.zero_add];have hil:=(Qaf.mp hps).1;have lu:=HN (M7 ok) i;have hhi:=ok.hi;refine⟨_,rq,t,rq,⟨ws,SqT.of (sm0 _ _ ht)⟩,?_⟩;let J1:YN:=λj O HJ=>∃(ys:YG) (u4 u5:Option V),O=[jd pl,jd l,some (.int (i:Int)),jd t,u4,u5]/\Same H HJ/\HJ l=some (.lst ys)/\Paired (Hg HJ) ys (up (pdL ja) i++up (pd1 i ps) j);refine Jj (xs:=ws) (lo:=1) J1 ⟨ys,_,_,rq,sm0,hy0,by rw[MJ,Qbz];exact py0⟩ (λj O HJ _ h=>?_) (λj x pt O HJ hx h hpt=>?_) (fun O HJ h=>?_)
  ·obtain⟨ys,_,_,_,sj,_⟩:=h;exact SqT.of (sj _ _ ht)
  ·obtain⟨ys,u4,u5,rfl,sj,hyj,pj⟩:=h;obtain⟨p,hp,hP⟩:=Paired.Ca hws hx;have okp:=okl.ok p (QaA hp);have ej:pd1 i ps j=BJ i ((1+j:Nat):Int) p:=Jh hp;have t1:=Ad hpt (.tup [.int ((1+j:Nat):Int),x]);refine⟨pt,_,rq,SqT.of Ab,rq,_,_,rq,_,_,rq,rq,?_⟩;simp only[QaP,QaO];have hjl:=(Qaf.mp hp).1;have lj:=HN (Rg (lp:=i) okl.ok) j;have lys:=QbK pj;rw[QaL] at lys;have h12:=okl.hi;refine⟨_,rq,.inl ⟨rq,_,SqL.of (t1 _ _ hyj)⟩,_,rq,_,rq,_,rq,(i:Int),((1+j:Nat):Int),x,p,rq,hP.tups (Ak.of (sj.trans t1)),okp.spur,λld xs' HB fld hld pdd sB=>?_⟩;have t2:=t1.trans sB;have hyB:=t2 _ _ hyj;have lx:=QbK pdd;have lpl:=Kr (lp:=i) (a:=((1+j:Nat):Int)) okp;refine⟨l,ld,_,_,rq,rq,hyB,hld,Al (by omega),?_⟩;have n0:∀zs,HB l≠some (.tup zs):=λzs z=>by rw[hyB] at z;cases z
   have tt:=Ak.upd (o:=.lst (ys++xs')) n0;refine⟨ys++xs',_,_,rq,(sj.trans t2).Df Ag.upd fl,Ab,?_⟩;rw[HF,ej,<-Qbe];exact Paired.app (Paired.Bh pj λ_ _ z=>(z.tups (Ak.of t2)).tups tt) (Paired.Bh pdd λ_ _ z=>z.tups tt)
  ·obtain⟨ys,u4,u5,rfl,sj,hyj,pj⟩:=h;exact⟨ys,_,_,_,_,rq,sj,hyj,by rw[HF,ek,<-lws];exact pj⟩
 ·obtain⟨ys,u2,u3,u4,u5,rfl,sm,hy,py⟩:=h;rw[lvs] at py;exact⟨_,rq,q l ys HH fl hy py sm⟩
end
abbrev M5:Stmt:=top 5
abbrev Il:YF:=["plan","loop"]
theorem Ja:Bx ["plan","loop","told","at","place"] Il (Ao M5):=by ac_rfl
def stP (lp:Int) (ps:List Place):Nat->List (List Sp3)×List Sp3
 | 0=>([],[])
 | i+1=>match ps[i]? with
  | none=>stP lp ps i
  | some p=>if V.str p.kind=V.str "opener" then ((stP lp ps i).1++[(stP lp ps i).2],[]) else ((stP lp ps i).1,(stP lp ps i).2++(BJ lp ((1+i:Nat):Int) p).map Sd.spot)
theorem Lj {lp:Int} {ps:List Place} {i:Nat} {p:Place} (h:ps[i]?=some p) (k:V.str p.kind=V.str "opener"):stP lp ps (i+1)=((stP lp ps i).1++[(stP lp ps i).2],[]):=by
 show (match ps[i]? with | none=>stP lp ps i | some p=>if V.str p.kind=V.str "opener" then ((stP lp ps i).1++[(stP lp ps i).2],[]) else ((stP lp ps i).1,(stP lp ps i).2++(BJ lp ((1+i:Nat):Int) p).map Sd.spot))=_
 rw[h];exact if_pos k
theorem JX {lp:Int} {ps:List Place} {i:Nat} {p:Place} (h:ps[i]?=some p) (k:¬V.str p.kind=V.str "opener"):stP lp ps (i+1)=((stP lp ps i).1,(stP lp ps i).2++(BJ lp ((1+i:Nat):Int) p).map Sd.spot):=by
 show (match ps[i]? with | none=>stP lp ps i | some p=>if V.str p.kind=V.str "opener" then ((stP lp ps i).1++[(stP lp ps i).2],[]) else ((stP lp ps i).1,(stP lp ps i).2++(BJ lp ((1+i:Nat):Int) p).map Sd.spot))=_
 rw[h];exact if_neg k
theorem Hu {α β : Type} {F G:α->β->Prop}:∀{l₁ : List α} {l₂ : List β},Paired F l₁ l₂->(∀a∈l₁,∀b,F a b->G a b)->Paired G l₁ l₂
 | _,_,.nil,_=>.nil
 | _,_,.cons r t,f=>.cons (f _ QaM _ r) (Hu t λa ha b=>f a (QaB _ ha) b)
theorem Lx {α β : Type} {F:α->β->Prop}:∀{l₁ : List α} {l₂ : List β} {a:α},Paired F l₁ l₂->a∈l₁->∃b,F a b
 | _,_,_,.nil,h=>by cases h
 | _,_,_,.cons r t,h=>by
  rcases QbL.mp h with rfl | h
  ·exact⟨_,r⟩
  ·exact Lx t h
theorem Jm {α β : Type} {F:α->β->Prop}:∀{a₁ b₁ : List α} {a₂ b₂ : List β},Paired F a₁ a₂->Paired F b₁ b₂->Paired F (a₁++b₁) (a₂++b₂)
 | _,_,_,_,.nil,t=>t
 | _,_,_,_,.cons r s,t=>.cons r (Jm s t)
def GC (H:Hp) (v:V) (sp:List Sp3):Prop:=∃q ys,v=.ref q/\H q=some (.lst ys)/\Paired (Qw H) ys sp
def Q0:Sp:=λvs H Q _=>∃(pl Ls t:Addr) (v0 v2:V) (ls ws:YG) (k:Nat) (ps:List Place),vs=[.ref pl,.int (k:Int)]/\H pl=some (.tup [v0,.ref Ls,v2])/\H Ls=some (.tup ls)/\ls[k]?=some (.ref t)/\H t=some (.tup ws)/\Paired (Cz H) ws ps/\(∀p∈ps,OkP p)/\ps.length<=12 /\
 ∀l xs H',H l=none->H' l=some (.lst xs)->Paired (GC H') xs ((stP k ps ps.length).1++[(stP k ps ps.length).2])->(∀x∈xs,∃q,x=.ref q/\H q=none/\q≠l)->Same H H'->Q (.ref l) H'
section
variable {P:Program} {w:World} {K:YD} {mg:YB} {base:Heap} {op oe:Addr}
abbrev xa:YF:=["spot","kind","address"]
theorem V2 (c:Code K mg "parts" M5 Il) (T:Tx K mg op oe) (Ge:Good P w K mg base "place_devices" 1 Di Vv):Good P w K mg base "parts" 2 Il Q0:=by
 refine c.good Ja (λvs H Q E h=>?_) (λf cdv A outer s H vs Q E hr h=>?_)
 ·obtain⟨pl,Ls,t,v0,v2,ls,ws,k,ps,rfl,_⟩:=h;rfl
 obtain⟨pl,Ls,t,v0,v2,ls,ws,k,ps,rfl,hpl,hLs,hk,ht,hps,hok,h12,q⟩:=h;refine⟨_,(Af (Av (i:=2) Ja.nd rfl (Or.inl rfl) (Cg (Aa (Cg Ac) Ac)))
 (Af (Bo Qbv rfl (KN rfl T.enumerate (Bb Br (Bb Br (pv 0) Ae (λ_ _=>rfl)) (pv 1) (λ_ _=>rfl)) Ae) (Ck rfl (Aj (Ah (i:=3) Ja.nd rfl (Or.inl rfl)) (Aj (Ah (i:=4) Ja.nd rfl (Or.inl rfl)) Bu)))
 (Ai (Cq (Bl (Y6 (K:=K) rfl hr.units) (pv 4) (Uq rfl T.OPENER) (Ci _)) (Ai (CT (Dn Qan Qaj Qak CV (pv 2) (Aa (Cg Ac) Ac)))) (Ai (CT (Dn Qan Qal Qam Gw (Bb BP (pv 2) (Sw O2 Ae) (λ_ _=>rfl)) (Aa (Fw (N':=xa) rfl (Cu.plain rfl (by trivial) (by trivial) (by trivial)) (Eh (Bg Ge hr (Aa (pv 1) (Aa (pv 3) (Aa (pv 4) Ac))))) (λ_ _ _ _=>(Ih (K:=K) (n:=3) rfl rfl (Aj (Ah (i:=0) (show List.Nodup (xa:YF) by trivial) rfl (Or.inl rfl)) (Aj (Ah (i:=1) (show List.Nodup (xa:YF) by trivial) rfl (Or.inl rfl)) (Aj (Ah (i:=2) (show List.Nodup (xa:YF) by trivial) rfl (Or.inl rfl)) Bu))))) (λ_ _ _ _=>JB) (λ_ _ _ _=>(pv 0))) Ac)))))))
 (Ai (Bs (pv 2))))),?_⟩
 show let R0:TS:=_;let R1:TS:=_;let R2:TS:=Dr _ R0 R1;let R3:TS:=Am (Cd _ _ R2) _;Am _ R3 _ _ _;intro R0 R1 R2 R3;generalize hst:L2.start _ _=σ0;have e0:σ0=[jd pl,some (.int (k:Int)),none,none,none]:=hst.symm;clear hst;subst e0;refine⟨(by show 0<=sizeLine;decide),λq0 hq0=>⟨(by show 1<=sizeLine;decide),λl hl=>?_⟩⟩;have s1:=Ad hq0 (.lst []);have s2:=Ad hl (.lst [.ref q0]);have sm:=s1.trans s2;have hl0:=s1.free hl;have el:_=some (HO.lst [.ref q0]):=Ab (H:=upd H q0 (.lst [])) (a:=l) (o:=.lst [.ref q0]);have eq0:_=some (HO.lst []):=s2 _ _ (Ab (H:=H) (a:=q0) (o:=.lst []));have nq:q0≠l:=Ay (Ab (H:=H) (a:=q0) (o:=.lst [])) hl;generalize hX:upd (upd H q0 (.lst [])) l (.lst [.ref q0])=H1 at sm el eq0;simp only[QaP,QaO];have cg:ws.length=ps.length:=QbK hps;refine⟨_,rq,pl,_,_,_,rq,rq,SqT.of (sm _ _ hpl),rq,_,rq,Ls,_,_,_,rq,rq,SqT.of (sm _ _ hLs),Az hk,t,rq,⟨ws,SqT.of (sm _ _ ht)⟩,?_⟩;let J0:YN:=λi O HH=>∃qs ql u3 u4,O=[jd pl,some (.int (k:Int)),jd l,u3,u4]/\Same H HH/\HH l=some (.lst (qs++[.ref ql]))/\Paired (GC HH) qs (stP k ps i).1/\GC HH (.ref ql) (stP k ps i).2/\(∀x∈qs,∃q,x=.ref q/\H q=none/\q≠l/\q≠ql)/\H ql=none/\ql≠l/\qs.length<=i/\(stP k ps i).2.length<=4*i;refine Jj (xs:=ws) (lo:=1) J0
  ⟨[],q0,_,_,rq,sm,el,.nil,⟨q0,[],rq,eq0,.nil⟩,λx hx=>(by cases hx),hq0,nq,QbZ _,QbZ _⟩ (λi O HH _ h=>?_) (λi x pt O HH hx h hpt=>?_) (fun O HH h=>?_)
 ·obtain⟨qs,ql,_,_,_,sb,_⟩:=h;exact SqT.of (sb _ _ ht)
 ·obtain⟨qs,ql,u3,u4,rfl,sb,hy,pd,pc,fq,fl,nl,lq,lc⟩:=h;obtain⟨p,hpi,hpa⟩:=Paired.Ca hps hx;have okp:=hok p (QaA hpi);have hpa:=hpa.tups (Ak.of sb);have t0:=Ad hpt (.tup [.int ((1+i:Nat):Int),x]);have Wq:=hpa.tups (Ak.of t0);have il:i < ps.length:=(Qaf.mp hpi).1;have sb0:=sb.trans t0;have hy0:=t0 _ _ hy;have pd0:=Paired.Bh pd λ_ _ (z:GC HH _ _)=>(show GC (upd HH pt (.tup [.int ((1+i:Nat):Int),x])) _ _ from let ⟨a,ys,e1,e2,e3⟩:=z;⟨a,ys,e1,t0 _ _ e2,Paired.Bh e3 λ_ _ y=>y.tups (Ak.of t0)⟩)
  have pc0:GC (upd HH pt (.tup [.int ((1+i:Nat):Int),x])) (.ref ql) (stP k ps i).2:=let ⟨a,ys,e1,e2,e3⟩:=pc;⟨a,ys,e1,t0 _ _ e2,Paired.Bh e3 λ_ _ y=>y.tups (Ak.of t0)⟩;refine⟨pt,_,rq,SqT.of Ab,rq,_,_,rq,_,_,rq,rq,?_⟩;generalize upd HH pt (.tup [.int ((1+i:Nat):Int),x])=HA at Wq sb0 hy0 pd0 pc0;simp only[QaP,QaO];refine⟨_,rq,Ie p,opD,Wq.rep,.tup (T.opT HA) (.cons (.str _) (.cons (.int _) (.cons (.tup (T.opE HA) .nil) .nil))),Pr okp,(by trivial),_,rq,?_⟩;rw[Um okp];by_cases ck:V.str p.kind=V.str "opener"
  ·rw[QbH ck];refine Ei ⟨_,rq,.inl ⟨rq,_,SqL.of hy0⟩,(by show 0<=sizeLine;decide),λqn hqn=>?_⟩;have t1:=Ad hqn (.lst []);refine⟨l,_,_,rq,rq,t1 _ _ hy0,Bc (by rw[QaL];simp only[Qax];omega),?_⟩;have nln:l≠qn:=Ay hy0 hqn;have sS:Ag l HA (upd (upd HA qn (.lst [])) l (.lst (qs++[.ref ql]++[.ref qn]))):=(Ag.of t1).trans Ag.upd;have eqn:(upd (upd HA qn (.lst [])) l (.lst (qs++[.ref ql]++[.ref qn]))) qn=some (.lst []):=by rw[Aw nln.symm,Ab]
   have ell:(upd (upd HA qn (.lst [])) l (.lst (qs++[.ref ql]++[.ref qn]))) l=some (.lst (qs++[.ref ql]++[.ref qn])):=Ab;have nlt:∀zs,HA l≠some (.tup zs):=λzs z=>by rw[hy0] at z;cases z
   generalize upd (upd HA qn (.lst [])) l (.lst (qs++[.ref ql]++[.ref qn]))=HB at sS eqn ell;have keep:∀v sp,GC HA v sp->v≠.ref l->GC HB v sp:=λv sp z n=>by
    obtain⟨a,ys,e1,e2,e3⟩:=z;exact⟨a,ys,e1,sS _ _ e2 (λw=>n (by rw[e1,w])),Paired.Bh e3 λ_ _ y=>y.tups (sS.tup nlt)⟩
   have fqn:=sb0.free hqn;refine⟨qs++[.ref ql],qn,_,_,rq,sb0.Df sS hl0,ell,?_,⟨qn,[],rq,eqn,?_⟩,λy hy'=>?_,fqn,nln.symm,by rw[QaL];simp only[Qax];omega,?_⟩
   ·rw[Lj hpi ck];refine Qcb (keep _ _ pc0 λz=>nl (by injection z)) ?_;exact Hu pd0 λy hy' sp z=>keep _ _ z λw=>by
     obtain⟨a,e,_,n,_⟩:=fq y hy';rw[e] at w;injection w with w;exact n w
   ·rw[Lj hpi ck];exact .nil
   ·rcases Qbu.mp hy' with z | z
    ·obtain⟨a,e,f1,n1,n2⟩:=fq y z;have hm:y∈qs:=z;refine⟨a,e,f1,n1,λw=>?_⟩;obtain⟨sp,cT⟩:=Lx pd0 hm;obtain⟨a',ys,e1,e2,_⟩:=cT;rw[e] at e1;injection e1 with e1;rw[<-e1,w,hqn] at e2;cases e2
    ·have hz:y=.ref ql:=by simpa using z
     refine⟨ql,hz,fl,nl,λw=>?_⟩;obtain⟨a',ys,e1,e2,_⟩:=pc0;injection e1 with e1;rw[<-e1,w,hqn] at e2;cases e2
   ·rw[Lj hpi ck];exact Qca _
  ·rw[Qbx ck];obtain⟨a,yc,ea,eyc,pcs⟩:=id pc0;injection ea with ea;subst ea;refine Ec ⟨_,rq,_,rq,l,_,_,_,rq,rq,SqL.of hy0,Qu qs (.ref ql),.inl ⟨rq,_,SqL.of eyc⟩,?_⟩;refine⟨_,rq,_,rq,_,rq,(k:Int),((1+i:Nat):Int),x,p,rq,Wq,okp.spur,λld xs' HB fld hld pdd sB=>⟨ld,rq,⟨xs',SqL.of hld⟩,λl2 hl2=>?_⟩⟩;have lsd:(BJ k ((1+i:Nat):Int) p).length<=4:=by
    unfold BJ;rw[if_neg ck,Qbm,GJ];have:=okp.spur;omega
   have lx:xs'.length<=4:=by rw[QbK pdd];exact lsd
   let J1:YN:=λj O HH2=>∃u v w ys,O=[u,v,w]/\HH2=upd HB l2 (.lst ys)/\ys.length<=j/\Paired (Qw HB) ys (((BJ k ((1+i:Nat):Int) p).take j).map Sd.spot);refine Fz (xs:=xs') J1 ⟨none,none,none,[],rq,rq,QbZ _,.nil⟩ (λj O HH2 _ h=>?_) (λj y O HH2 hyj h=>?_) (fun O HH2 h=>?_)
   ·obtain⟨u,v,w,ys,rfl,rfl,_⟩:=h;exact SqL.of (Ad hl2 _ _ _ hld)
   ·obtain⟨u,v,w,ys,rfl,rfl,lys,pys⟩:=h;obtain⟨d,hdj,td,ud,rfl,e1,e2⟩:=Paired.Ca pdd hyj;have jl:=(Qaf.mp hyj).1;refine⟨td,_,rq,SqT.of (Ad hl2 _ _ _ e1),rq,_,_,rq,_,_,rq,_,_,rq,rq,_,rq,ys,Ab,Bc (by omega),_,_,_,ys++[.ref ud],rq,JW,by rw[QaL];simp only[Qax];omega,?_⟩;rw[List.take_succ,hdj,Qbw];exact Qcb ⟨ud,rq,e2⟩ pys
   ·obtain⟨u,v,w,ys,rfl,rfl,lys,pys⟩:=h;rw[QbK pdd,Qbl] at pys;have t2:=Ad hl2 (.lst ys);have s02:=sB.trans t2;have nq2:ql≠l2:=Ay (sB _ _ eyc) hl2;have lyc:yc.length<=4*i:=by rw[QbK pcs];exact lc
    refine⟨ql,l2,_,_,rq,rq,s02 _ _ eyc,Ab,Al (by omega),?_⟩;have sS:Ag ql HA (upd (upd HB l2 (.lst ys)) ql (.lst (yc++ys))):=(Ag.of s02).trans Ag.upd;have eql:(upd (upd HB l2 (.lst ys)) ql (.lst (yc++ys))) ql=some (.lst (yc++ys)):=Ab;have nqt:∀zs,(upd HB l2 (.lst ys)) ql≠some (.tup zs):=λzs z=>by rw[s02 _ _ eyc] at z;cases z
    have tE:Ak HB (upd (upd HB l2 (.lst ys)) ql (.lst (yc++ys))):=(Ak.of t2).trans (Ak.upd nqt);have nqa:∀zs,HA ql≠some (.tup zs):=λzs z=>by rw[eyc] at z;cases z
    generalize upd (upd HB l2 (.lst ys)) ql (.lst (yc++ys))=HC at sS eql tE;refine⟨qs,ql,_,_,rq,sb0.Df sS fl,sS _ _ hy0 nl.symm,?_,⟨ql,yc++ys,rq,eql,?_⟩,fq,fl,nl,by omega,?_⟩
    ·rw[JX hpi ck];exact Hu pd0 λy hy' sp z=>by
      obtain⟨a',ys',e1,e2,e3⟩:=z;obtain⟨b',f1,_,_,f4⟩:=fq y hy';refine⟨a',ys',e1,sS _ _ e2 (λw=>f4 ?_),Paired.Bh e3 λ_ _ y=>y.tups (sS.tup nqa)⟩;rw[e1] at f1;injection f1 with f1;rw[<-f1,w]
    ·rw[JX hpi ck];exact Jm (Paired.Bh pcs λ_ _ y=>y.tups (sS.tup nqa)) (Paired.Bh pys λ_ _ y=>y.tups tE)
    ·rw[JX hpi ck,QaL,Qbt];omega
 ·obtain⟨qs,ql,u3,u4,rfl,sb,hy,pd,pc,fq,fl,nl,_⟩:=h;rw[cg] at pd pc;refine⟨_,rq,q l _ HH hl0 hy (Qcb pc pd) (λx hx=>?_) sb⟩;rcases Qbu.mp hx with z | z
  ·obtain⟨a,e,n,m,_⟩:=fq x z;exact⟨a,e,n,m⟩
  ·have:x=.ref ql:=by simpa using z
   exact⟨ql,this,fl,nl⟩
end
abbrev FZ:Stmt:=top 6
abbrev DG:YF:=Fy
theorem CW:Bx ["plan","seen","spot","kind","address"] DG (Ao FZ):=by ac_rfl
abbrev Gf:Stmt:=top 7
abbrev DX:YF:=Fy
theorem Dy:Bx ["plan","loop","number","spots"] DX (Ao Gf):=by ac_rfl
abbrev El:Stmt:=top 8
abbrev Dd:YF:=Fy
theorem Cr:Bx ["plan","warners","name","addresses","address"] Dd (Ao El):=by ac_rfl
abbrev Fj:Stmt:=top 9
abbrev Ds:YF:=Fy
theorem CQ:Bx ["plan","seen","name","addresses","address"] Ds (Ao Fj):=by ac_rfl
abbrev M4:Stmt:=top 10
abbrev Ik:YF:=Fy
theorem Vz:Bx Fy Ik (Ao M4):=by ac_rfl
theorem G9 {b:Bool} {A B:Prop} (h1:b=true->A) (h2:b=false->B):if b=true then A else B:=by
 cases b with
 | true=>exact Ei (h1 rfl)
 | false=>exact Ec (h2 rfl)
structure Ty (K:YD) (mg:YB) (op oe wk:Addr):Prop extends Tx K mg op oe where
 WARNING_KINDS:∃u,mg "WARNING_KINDS"=some u/\RelV (.ref wk) u
 wkT:∀H,SqT K H wk [.str "seeker",.str "knob"]
structure DN (H:Hp) (pl:Addr) (most:Int) (ja:YU) (jc:List Zone):Prop where
 at_:∃Ls zs vs zvs,H pl=some (.tup [.int most,.ref Ls,.ref zs])/\H Ls=some (.tup vs)/\Paired (LoopAt H) vs ja/\H zs=some (.tup zvs)/\Paired (EY H) zvs jc
 ok:JQ ja
 z8:jc.length<=8
 zup:∀z∈jc,z.adr.Pairwise (· < ·)/\z.adr.length<=30
theorem DN.tups {H H':Hp} {pl:Addr} {most:Int} {ja:YU} {jc:List Zone} (h:DN H pl most ja jc) (s:Ak H H'):DN H' pl most ja jc:=by
 obtain⟨Ls,zs,vs,zvs,e1,e2,e3,e4,e5⟩:=h.at_;exact⟨⟨Ls,zs,vs,zvs,s _ _ e1,s _ _ e2,Paired.Bh e3 λ_ _ z=>z.tups s,s _ _ e4,Paired.Bh e5 λ_ _ z=>z.tups s⟩,h.ok,h.z8,h.zup⟩
theorem DN.same {H H':Hp} {pl:Addr} {most:Int} {ja:YU} {jc:List Zone} (h:DN H pl most ja jc) (s:Same H H'):DN H' pl most ja jc:=h.tups (Ak.of s)
theorem DN.plan {H:Hp} {pl:Addr} {most:Int} {ja:YU} {jc:List Zone} (h:DN H pl most ja jc):Vk H pl ja:=by
 obtain⟨Ls,zs,vs,zvs,e1,e2,e3,e4,e5⟩:=h.at_;exact⟨_,_,Ls,vs,e1,e2,e3⟩
def twF (ads:List Int) (i:Nat):Option (YG):=match ads[i]? with | none=>none | some a=>if a∈ads.take i then some [.str "twice",.int a] else none
def wTw (ja:YU):Option (YG):=(List.range (Bm ja).length).findSome? (twF (Bm ja))
def crF (most:Int) (ps:List Place) (k j:Nat):Option (YG):=match (Bw ps)[j]? with | none=>none | some c=>if most < c then some [.str "crowded",.int (k:Int),.int (j:Int)] else none
def crL (most:Int) (ja:YU) (k:Nat):Option (YG):=match ja[k]? with | none=>none | some ps=>(List.range (Bw ps).length).findSome? (crF most ps k)
def wCr (most:Int) (ja:YU):Option (YG):=(List.range ja.length).findSome? (crL most ja)
def stA (wa:List Int) (z:Zone) (a:Int):Option (YG):=if a∈wa then none else some [.str "stranger",.str z.name,.int a]
def stZ (wa:List Int) (z:Zone):Option (YG):=z.adr.findSome? (stA wa z)
def wSt (ja:YU) (jc:List Zone):Option (YG):=jc.findSome? (stZ (Cp ja))
def shA (ah:List Int) (z:Zone) (a:Int):Option (YG):=if a∈ah then some [.str "shared",.str z.name,.int a] else none
def shZ (jc:List Zone) (k:Nat):Option (YG):=match jc[k]? with | none=>none | some z=>z.adr.findSome? (shA ((jc.take k).flatMap (·.adr)) z)
def wSh (jc:List Zone):Option (YG):=(List.range jc.length).findSome? (shZ jc)
def orO (a b:Option (YG)):Option (YG):=match a with | some x=>some x | none=>b
def DP (most:Int) (ja:YU) (jc:List Zone):Option (YG):=orO (wTw ja) (orO (wCr most ja) (orO (wSt ja jc) (wSh jc)))
def Hf (H:Hp) (v:V):Option (YG)->Prop
 | none=>v=.non
 | some xs=>∃a,v=.ref a/\H a=some (.tup xs)/\xs≠[]
theorem Hf.same {H H':Hp} {v:V} {o:Option (YG)} (h:Hf H v o) (s:Same H H'):Hf H' v o:=by
 cases o with
 | none=>exact h
 | some xs=>
  obtain⟨a,e,h1,h2⟩:=h;exact⟨a,e,s _ _ h1,h2⟩
theorem Dk {α β : Type} {f:α->Option β} {l:List α} {i:Nat} {x:α} (hx:l[i]?=some x) (h0:(l.take i).findSome? f=none) (hn:f x=none):(l.take (i+1)).findSome? f=none:=by
 rw[Qcg hx,List.findSome?_append,h0];simp[hn]
theorem DK {α β : Type} {f:α->Option β} {l:List α} {i:Nat} {x:α} {r:β} (hx:l[i]?=some x) (h0:(l.take i).findSome? f=none) (hf:f x=some r):l.findSome? f=some r:=by
 have e:l=l.take (i+1)++l.drop (i+1):=(Qaz ..).symm;rw[e,List.findSome?_append,Qcg hx,List.findSome?_append,h0];simp[hf]
theorem Em {n i:Nat} (h:i < n):(List.range n)[i]?=some i:=List.getElem?_range h
theorem CN {α β : Type} {f:α->Option β} {l:List α} {n:Nat} (e:l.length=n) (h:(l.take n).findSome? f=none):l.findSome? f=none:=by
 rw[<-e,Qbl] at h;exact h
theorem MN {ads:List Int} {i:Nat} {a:Int} (h:ads[i]?=some a) (m:a∈ads.take i):twF ads i=some [.str "twice",.int a]:=by
 unfold twF;rw[h];exact if_pos m
theorem QT {ads:List Int} {i:Nat} {a:Int} (h:ads[i]?=some a) (m:¬a∈ads.take i):twF ads i=none:=by
 unfold twF;rw[h];exact if_neg m
theorem Rv {most:Int} {ps:List Place} {k j:Nat} {c:Int} (h:(Bw ps)[j]?=some c) (m:most < c):crF most ps k j=some [.str "crowded",.int (k:Int),.int (j:Int)]:=by
 unfold crF;rw[h];exact if_pos m
theorem Ru {most:Int} {ps:List Place} {k j:Nat} {c:Int} (h:(Bw ps)[j]?=some c) (m:¬most < c):crF most ps k j=none:=by
 unfold crF;rw[h];exact if_neg m
theorem Mr {most:Int} {ja:YU} {k:Nat} {ps:List Place} (h:ja[k]?=some ps):crL most ja k=(List.range (Bw ps).length).findSome? (crF most ps k):=by
 unfold crL;rw[h]
theorem Lq {jc:List Zone} {k:Nat} {z:Zone} (h:jc[k]?=some z):shZ jc k=z.adr.findSome? (shA ((jc.take k).flatMap (·.adr)) z):=by
 unfold shZ;rw[h]
theorem Vr {ja:YU} (h:wTw ja=none):(Bm ja).Nodup:=by
 unfold wTw at h;rw[Qad] at h;refine Qah.mpr λi j hi hj hij e=>?_;have:=h j (List.mem_range.mpr hj);rw[MN (Qai hj) (by rw[<-e];exact List.mem_take_iff_getElem.mpr ⟨i,by omega,rq⟩)] at this;cases this
def Fb {α : Type} (f:α->Key) (xs:List α):YM:=xs.map λx=>(f x,V.bl true)
theorem Gy {α : Type} {f:α->Key} {k:Key}:∀{xs:List α},(∀x∈xs,f x≠k)->Fg (Fb f xs) k=none
 | [],_=>rfl
 | x::r,h=>by
  have:Fb f (x::r)=(f x,V.bl true)::Fb f r:=rfl;rw[this,Iv (p:=(f x,V.bl true)) (h x (QaM ..))];exact Gy λy hy=>h y (QaB _ hy)
theorem Jf {α : Type} {f:α->Key} {k:Key} {xs:List α} {x:α} (hx:x∈xs) (e:f x=k):(Fg (Fb f xs) k).isSome=true:=by
 rw[<-Iw,List.any_eq_true];exact⟨_,QbV.mpr ⟨x,hx,rq⟩,QbH e⟩
theorem JF {α : Type} (f:α->Key) (xs:List α):(Fb f xs).length=xs.length:=Qbt ..
theorem JD {α : Type} {f:α->Key} {xs:List α} {x:α} (h:∀y∈xs,f y≠f x):putK (Fb f xs) (f x) (.bl true)=Fb f (xs++[x]):=by
 rw[VF _ (Gy h)];unfold Fb;rw[Qbw];rfl
theorem Ng {α : Type} {l:List α} (h:l.Nodup) {i:Nat} {x:α} (hx:l[i]?=some x):∀y∈l.take i,y≠x:=λy hy e=>by
 subst e;obtain⟨j,hj⟩:=QaE hy;rw[List.getElem?_take] at hj;split at hj
 ·rename_i hji;obtain⟨h1,e1⟩:=Qaf.mp hj;obtain⟨h2,e2⟩:=Qaf.mp hx;have:=Qah.mp h j i h1 h2 hji;exact this (by rw[e1,e2])
 ·cases hj
theorem QF {α β : Type} {f:α->β} {l:List α} (h:(l.map f).Nodup) {i:Nat} {x:α} (hx:l[i]?=some x):∀y∈l.take i,f y≠f x:=λy hy e=>by
 have:=Ng h (i:=i) (x:=f x) (by rw[Qba,hx];rfl) (f y) (by rw[<-List.map_take];exact QbV.mpr ⟨y,hy,rq⟩);exact this e
theorem QZ {lp:Int} {ps:List Place}:∀i,i<=ps.length->(stP lp ps i).1.map (λz=>(z.length:Int))=(pst (ps.take i)).1/\((stP lp ps i).2.length:Int)=(pst (ps.take i)).2
 | 0,_=>⟨rfl,rfl⟩
 | i+1,h=>by
  have hi:ps[i]?=some ps[i]:=Qai (by omega);obtain⟨h1,h2⟩:=QZ (lp:=lp) (ps:=ps) i (by omega);rw[Qcg hi,Pq];unfold ptS;by_cases k:V.str ps[i].kind=V.str "opener"
  ·rw[Lj hi k,if_pos k];refine⟨?_,rq⟩;rw[Qbw,h1,<-h2];rfl
  ·rw[JX hi k,if_neg k];refine⟨h1,?_⟩;show (((stP lp ps i).2++(BJ lp ((1+i:Nat):Int) ps[i]).map Sd.spot).length:Int)=_;rw[QaL,Qbt,<-h2];have:(BJ lp ((1+i:Nat):Int) ps[i]).length=1+ps[i].spur.length:=by
    unfold BJ;rw[if_neg k,Qbm,GJ];omega
   rw[this];push_cast;omega
theorem Xv {lp:Int} {ps:List Place}:((stP lp ps ps.length).1++[(stP lp ps ps.length).2]).map (λz=>(z.length:Int))=Bw ps:=by
 obtain⟨h1,h2⟩:=QZ (lp:=lp) (ps:=ps) ps.length (QbZ _);rw[Qbl] at h1 h2;unfold Bw;rw[Qbw,h1,<-h2];rfl
theorem Qg {jc:List Zone} (h:∀z∈jc,z.adr.length<=30):(jc.flatMap (·.adr)).length<=30*jc.length:=by
 induction jc with
 | nil=>exact QbZ _
 | cons a r ih=>
  have h1:=ih λz hz=>h z (QaB _ hz);have h2:=h a (QaM ..);rw[Qbd,QaL,Qbm];omega
theorem O1 {α β γ : Type} {h:α->List β} {φ : γ->β} {g:Nat->α->List γ} (l:List α) (hg:∀i x,l[i]?=some x->(g i x).map φ=h x):∀n,n<=l.length->(up (λi=>ifs l[i]? (g i)) n).map φ=(l.take n).flatMap h
 | 0,_=>by rw[MJ];simp
 | n+1,hn=>by
  have hi:l[n]?=some l[n]:=Qai (by omega);rw[HF,Qbw,O1 l hg n (by omega),Qcg hi,QaI,Jh hi,hg n _ hi];simp
theorem MK {α β γ : Type} {h:α->List β} {φ : γ->β} {p:γ->Bool} {g:Nat->α->List γ} (l:List α) (hg:∀i x,l[i]?=some x->((g i x).filter p).map φ=h x):∀n,n<=l.length->((up (λi=>ifs l[i]? (g i)) n).filter p).map φ=(l.take n).flatMap h
 | 0,_=>by rw[MJ];simp
 | n+1,hn=>by
  have hi:l[n]?=some l[n]:=Qai (by omega);rw[HF,QaY,Qbw,MK l hg n (by omega),Qcg hi,QaI,Jh hi,hg n _ hi];simp
theorem Kq (lp a:Int):∀(n:Nat) (ds:List Dev),(Dc lp a n ds).map (·.addr)=ds.map (·.addr)
 | _,[]=>rfl
 | n,d::r=>by
  show d.addr::(Dc lp a (n+1) r).map (·.addr)=d.addr::r.map (·.addr);rw[Kq]
theorem Pu (lp a:Int) (p:Place):(BJ lp a p).map (·.addr)=adP p:=by
 unfold BJ adP;split
 ·rfl
 ·rw[QbM,Kq]
theorem Oc (ja:YU):(up (pdL ja) ja.length).map (·.addr)=Bm ja:=by
 have:=O1 (φ:=Sd.addr) (h:=adL) (g:=λk ps=>up (pd1 (k:Int) ps) ps.length) ja (λk ps _=>by
  have:=O1 (φ:=Sd.addr) (h:=adP) (g:=λi p=>BJ (k:Int) ((1+i:Nat):Int) p) ps (λi p _=>Pu _ _ p) ps.length (QbZ _);rw[Qbl] at this;exact this) ja.length (QbZ _)
 rw[Qbl] at this;exact this
theorem Lk (lp a:Int):∀(n:Nat) (ds:List Dev),((Dc lp a n ds).filter λz=>Cy z.kind).map (·.addr)=CK ds
 | _,[]=>rfl
 | n,d::r=>by
  have ih:=Lk lp a (n+1) r;unfold CK at ih ⊢;show (List.filter _ ((⟨lp,a,n,d.kind,d.addr⟩ : Sd)::Dc lp a (n+1) r)).map _=_;by_cases h:Cy d.kind=true
  ·rw[Qaq (by exact h),Qaq (by exact h),QbM,QbM,ih]
  ·rw[Qap (by exact h),Qap (by exact h),ih]
theorem QC (lp a:Int) {p:Place} (ok:OkP p):((BJ lp a p).filter λz=>Cy z.kind).map (·.addr)=CK (CG p):=by
 unfold BJ CG;split
 ·rename_i h;rcases ok.form with⟨e1,e2,e3⟩| hk
  ·rw[e1,e3];have:Cy "opener"=false:=by trivial
   unfold CK;rw[Qap (by rw[this];decide)];rfl
  ·exact absurd h (Ke hk)
 ·have:=Lk lp a 1 p.spur;unfold CK at this ⊢;by_cases h:Cy p.kind=true
  ·rw[Qaq (by exact h),Qaq (by exact h),QbM,QbM,this]
  ·rw[Qap (by exact h),Qap (by exact h),this]
theorem WD {ja:YU} (ok:JQ ja):((up (pdL ja) ja.length).filter λz=>Cy z.kind).map (·.addr)=Cp ja:=by
 have:=MK (φ:=Sd.addr) (p:=λz=>Cy z.kind) (h:=Ej) (g:=λk ps=>up (pd1 (k:Int) ps) ps.length) ja (λk ps hk=>by
  have okl:=ok.ok ps (QaA hk);have:=MK (φ:=Sd.addr) (p:=λz=>Cy z.kind) (h:=λp=>CK (CG p)) (g:=λi p=>BJ (k:Int) ((1+i:Nat):Int) p) ps (λi p hi=>QC _ _ (okl.ok p (QaA hi))) ps.length (QbZ _);rw[Qbl] at this;exact this) ja.length (QbZ _)
 rw[Qbl] at this;exact this
def Yr:Sp:=λvs H Q _=>∃pl most ja jc,vs=[.ref pl]/\DN H pl most ja jc/\∀v H',Same H H'->Hf H' v (wTw ja)->Q v H'
def Yv:Sp:=λvs H Q _=>∃pl most ja jc,vs=[.ref pl]/\DN H pl most ja jc/\∀v H',Same H H'->Hf H' v (wCr most ja)->Q v H'
def Ys:Sp:=λvs H Q _=>∃pl most ja jc,vs=[.ref pl]/\DN H pl most ja jc/\(Bm ja).Nodup/\∀v H',Same H H'->Hf H' v (wSt ja jc)->Q v H'
def Yt:Sp:=λvs H Q _=>∃pl most ja jc,vs=[.ref pl]/\DN H pl most ja jc/\∀v H',Same H H'->Hf H' v (wSh jc)->Q v H'
def RZ:Sp:=λvs H Q _=>∃pl most ja jc,vs=[.ref pl]/\DN H pl most ja jc/\∀v H',Same H H'->Hf H' v (DP most ja jc)->Q v H'
section
variable {P:Program} {w:World} {K:YD} {mg:YB} {base:Heap} {op oe wk:Addr}
theorem KY (C:Code K mg "address_twice" FZ DG) (T:Ty K mg op oe wk) (JH:Good P w K mg base "devices" 2 Fy Sg):Good P w K mg base "address_twice" 3 DG Yr:=by
 have sc:=CW;refine C.good CW (λvs H Q E h=>?_) (λf cdv A outer s H vs Q E hr h=>?_)
 ·obtain⟨pl,most,ja,jc,rfl,_⟩:=h;rfl
 obtain⟨pl,most,ja,jc,rfl,pa,q⟩:=h;refine⟨_,(Af (Av (i:=1) CW.nd rfl (Or.inl rfl) Pz)
 (Af (Bo Qbv rfl (Eh (Bg JH hr (Aa (pv 0) Ac))) (Ck rfl (Aj (Ah (i:=2) CW.nd rfl (Or.inl rfl)) (Aj (Ah (i:=3) CW.nd rfl (Or.inl rfl)) (Aj (Ah (i:=4) CW.nd rfl (Or.inl rfl)) Bu))))
 (Af (Cq (Pk (Us (Mj hr) (pv 4) (pv 1))) (Ai (Bs (Bd (Aa BL (Aa (pv 4) Ac))))) BK)
 (Ai (Rb (Mj hr) (pv 1) (pv 4) Kc rfl))))
 (Ai (Bs Ij)))),?_⟩
 show let R0:TS:=_;let R1:TS:=Am (Dr _ R0 _) _;let R2:TS:=Am (Cd _ _ R1) _;Am _ R2 _ _ _;intro R0 R1 R2;refine λd hd=>?_;have s0:=Ad hd (.dK []);refine⟨_,rq,pl,ja,rq,(pa.same s0).plan,pa.ok,λl xs H1 hl hx hp s1=>⟨l,rq,⟨_,SqL.of hx⟩,?_⟩⟩;have lx:=QbK hp;have Wg:(up (pdL ja) ja.length).length<=144:=by
  have:=HN (M7 pa.ok) ja.length;have:=pa.ok.hi;omega
 unfold wTw at q;rw[<-Oc] at q;generalize up (pdL ja) ja.length=ds at *;have hd1:H1 d=some (.dK []):=s1 _ _ Ab;have nld:l≠d:=λz=>by rw[z,hd1] at hx;cases hx
 have nt:∀HH:Hp,(∃kvs,HH d=some (.dK kvs))->∀zs,HH d≠some (.tup zs):=λHH ⟨kvs,e⟩ zs z=>by rw[e] at z;cases z
 have el:(ds.map (·.addr)).length=ds.length:=Qbt ..;let J0:YN:=λi O HH=>∃u2 u3 u4,O=[jd pl,jd d,u2,u3,u4]/\HH d=some (.dK (Fb (λz:Sd=>Sum.inl z.addr) (ds.take i)))/\Ag d H1 HH/\((List.range (ds.map (·.addr)).length).take i).findSome? (twF (ds.map (·.addr)))=none;refine La (xs:=xs) J0 ⟨_,_,_,rq,hd1,Ag.refl d H1,rq⟩ (λi O HH _ h=>?_) (λi x O HH hx' h=>?_) (fun O HH h=>?_)
 ·obtain⟨u2,u3,u4,rfl,e1,e2,e3⟩:=h;exact SqL.of (e2 _ _ hx nld)
 ·obtain⟨u2,u3,u4,rfl,e1,e2,e3⟩:=h;obtain⟨z,hzi,tz,uz,rfl,h1,h2⟩:=Paired.Ca hp hx';have sT:=e2.tup (nt H1 ⟨_,hd1⟩);have hi:=(Qaf.mp hzi).1;have hra:=Em (n:=(ds.map (·.addr)).length) (i:=i) (by omega);have hat:(ds.map (·.addr))[i]?=some z.addr:=by rw[Qba,hzi];rfl
  refine⟨tz,_,rq,SqT.of (sT _ _ h1),rq,_,_,rq,_,_,rq,_,_,rq,rq,?_⟩;refine⟨_,rq,_,rq,d,_,rq,Hi.k (k:=Sum.inl z.addr) e1,_,rq,?_⟩;by_cases hm:z.addr∈(ds.map (·.addr)).take i
  ·have hm':=hm;rw[<-List.map_take] at hm';obtain⟨y,hy,ey⟩:=QbV.mp hm';rw[Jf (f:=λz:Sd=>Sum.inl z.addr) hy (by show (Sum.inl y.addr:Key)=_;rw[ey])];refine Ei ⟨_,rq,(by show 2<=sizeLine;decide),λt ht=>q _ _ (((s0.trans s1).Df e2 hd).trans (Ad ht _)) ?_⟩;rw[DK hra e3 (MN hat hm)];exact⟨t,rq,Ab,by simp⟩
  ·have fr:∀y∈ds.take i,(Sum.inl y.addr:Key)≠Sum.inl z.addr:=λy hy e=>hm (by rw[<-List.map_take];exact QbV.mpr ⟨y,hy,Sum.inl.inj e⟩);rw[Gy fr];refine Ec ⟨_,rq,_,rq,d,_,rq,JT.k (k:=Sum.inl z.addr) e1 (Bc (by rw[JF,Qbk];omega)),_,_,_,rq,?_,e2.trans Ag.upd,Dk hra e3 (QT hat hm)⟩;rw[Ab,JD (f:=λz:Sd=>Sum.inl z.addr) (x:=z) fr,Qcg hzi]
 ·obtain⟨u2,u3,u4,rfl,e1,e2,e3⟩:=h;refine q _ _ ((s0.trans s1).Df e2 hd) ?_;rw[CN (by rw[Qbc,el,lx]) e3];rfl
theorem Jp (C:Code K mg "address_stranger" El Dd) (T:Ty K mg op oe wk) (JH:Good P w K mg base "devices" 2 Fy Sg):Good P w K mg base "address_stranger" 3 Dd Ys:=by
 have sc:=Cr;refine C.good Cr (λvs H Q E h=>?_) (λf cdv A outer s H vs Q E hr h=>?_)
 ·obtain⟨pl,most,ja,jc,rfl,_⟩:=h;rfl
 obtain⟨pl,most,ja,jc,rfl,pa,ndA,q⟩:=h;refine⟨_,(Af (VG (i:=1) Cr.nd rfl (Or.inl rfl) (N':=xa) rfl (Cu.plain rfl (by trivial) (by trivial) (by trivial)) (Eh (Bg JH hr (Aa (pv 0) Ac))) (λ_ _ _ _=>(Ih (K:=K) (n:=3) rfl rfl (Aj (Ah (i:=0) (show List.Nodup (xa:YF) by trivial) rfl (Or.inl rfl)) (Aj (Ah (i:=1) (show List.Nodup (xa:YF) by trivial) rfl (Or.inl rfl)) (Aj (Ah (i:=2) (show List.Nodup (xa:YF) by trivial) rfl (Or.inl rfl)) Bu))))) (λ_ _ _ _=>(Ii (Bl (Jd (K:=K) rfl) (pv 1) (Uq rfl T.WARNING_KINDS) (by with_unfolding_all rfl)))) (λ_ _ _ _=>(pv 2)) (λ_ _ _ _=>Kc))
 (Af (Bo Qbv rfl (DW (Bb Br (pv 0) Ae (λ_ _=>rfl))) (Ck rfl (Aj (Ah (i:=2) Cr.nd rfl (Or.inl rfl)) (Aj (Ah (i:=3) Cr.nd rfl (Or.inl rfl)) Bu)))
 (Ai (Bo Qbv rfl (DW (pv 3)) (Ah (i:=4) Cr.nd rfl (Or.inl rfl))
 (Ai (Cq (Pk (Ur (Mj hr) (pv 4) (pv 1))) (Ai (Bs (Bd (Aa BL (Aa (pv 2) (Aa (pv 4) Ac)))))) BK)))))
 (Ai (Bs Ij)))),?_⟩
 show let R0:TS:=_;let R1:TS:=Dr _ R0 _;let R2:TS:=Cd _ _ R1;let R3:TS:=Am (Cd _ _ R2) _;Am _ R3 _ _ _;intro R0 R1 R2 R3;refine⟨_,rq,pl,ja,rq,pa.plan,pa.ok,λl xs H1 hl hx hp s1=>⟨l,rq,⟨_,SqL.of hx⟩,λd hd=>?_⟩⟩;have lx:=QbK hp;have Wg:(up (pdL ja) ja.length).length<=144:=by
  have:=HN (M7 pa.ok) ja.length;have:=pa.ok.hi;omega
 have nd:((up (pdL ja) ja.length).map (·.addr)).Nodup:=by rw[Oc];exact ndA
 have hw:=WD pa.ok;unfold wSt at q;generalize up (pdL ja) ja.length=ds at *;generalize Cp ja=wa at *;have nld:l≠d:=Ay hx hd;let J1:YN:=λi O HH=>∃u2 u3 u4,O=[u2,u3,u4]/\HH d=some (.dK (Fb (λz:Sd=>Sum.inl z.addr) ((ds.take i).filter λz=>Cy z.kind)))/\Same H1 HH;refine QK (xs:=xs) J1 ⟨_,_,_,rq,Ab,Ad hd _⟩ (λi O HH _ h=>?_) (λi x O HH hx' h=>?_) (fun O HH h=>?_)
 ·obtain⟨u2,u3,u4,rfl,e1,e2⟩:=h;exact SqL.of (e2 _ _ hx)
 ·obtain⟨u2,u3,u4,rfl,e1,e2⟩:=h;obtain⟨z,hzi,tz,uz,rfl,h1,h2⟩:=Paired.Ca hp hx';have fr:∀y∈(ds.take i).filter (λz=>Cy z.kind),(Sum.inl y.addr:Key)≠Sum.inl z.addr:=λy hy e=>QF nd hzi y (QbF.mp hy).1 (Sum.inl.inj e);have et:(ds.take (i+1)).filter (λz=>Cy z.kind)=(ds.take i).filter (λz=>Cy z.kind)++[z].filter (λz=>Cy z.kind):=by rw[Qcg hzi,QaY]
  refine⟨tz,_,rq,SqT.of (e2 _ _ h1),rq,_,_,rq,_,_,rq,_,_,rq,rq,?_⟩;refine⟨_,rq,wk,_,rq,.inr (T.wkT HH),rq,rq,_,rq,?_⟩;rw[if_neg QaN];refine G9 (λhc=>?_) (λhc=>?_)
  ·refine⟨_,rq,_,Sum.inl z.addr,e1,rq,Bc ?_,_,_,_,rq,?_,e2.Df Ag.upd hd⟩
   ·rw[JF];have:=List.length_filter_le (λz:Sd=>Cy z.kind) (ds.take i);rw[Qbk] at this;omega
   ·rw[Ab,JD (f:=λz:Sd=>Sum.inl z.addr) (x:=z) fr,et,show [z].filter (λz=>Cy z.kind)=[z] from Qaq (p:=λz:Sd=>Cy z.kind) hc]
  ·refine⟨_,_,_,rq,?_,e2⟩;rw[et,show [z].filter (λz=>Cy z.kind)=[] from Qap (p:=λz:Sd=>Cy z.kind) (by show ¬Cy z.kind=true;rw[show Cy z.kind=false from hc];decide),Qbz]
   exact e1
 obtain⟨u2,u3,u4,rfl,e1,e2⟩:=h;rw[lx,Qbl] at e1;have s2:=s1.trans e2;obtain⟨Ls,zs,ws,zvs,f1,f2,f3,f4,f5⟩:=pa.at_;have zl:=QbK f5;refine⟨_,rq,pl,_,_,_,rq,rq,SqT.of (s2 _ _ f1),rq,zs,rq,⟨_,SqT.of (s2 _ _ f4)⟩,?_⟩;let J2:YN:=λi O HX=>∃u2 u3 u4,O=[jd pl,jd d,u2,u3,u4]/\HX=HH/\(jc.take i).findSome? (stZ wa)=none;refine Dv (xs:=zvs) J2 ⟨_,_,_,rq,rq,rq⟩ (λi O HX _ h=>?_) (λi x O HX hx' h=>?_) (fun O HX h=>?_)
 ·obtain⟨u2,u3,u4,rfl,rfl,e3⟩:=h;exact SqT.of (s2 _ _ f4)
 ·obtain⟨u2,u3,u4,rfl,rfl,e3⟩:=h;obtain⟨z,hzi,tz,uz,rfl,h1,h2⟩:=Paired.Ca f5 hx';refine⟨tz,_,rq,SqT.of (s2 _ _ h1),rq,_,_,rq,_,_,rq,rq,?_⟩;refine⟨_,rq,uz,rq,⟨_,SqT.of (s2 _ _ h2)⟩,?_⟩;let J3:YN:=λj O HY=>∃u4,O=[jd pl,jd d,some (.str z.name),jd uz,u4]/\HY=HX/\(z.adr.take j).findSome? (stA wa z)=none;refine Dv (xs:=z.adr.map V.int) J3 ⟨_,rq,rq,rq⟩ (λj O HY _ h=>?_) (λj x O HY hx2 h=>?_) (fun O HY h=>?_)
  ·obtain⟨u4,rfl,rfl,e4⟩:=h;exact SqT.of (s2 _ _ h2)
  ·obtain⟨u4,rfl,rfl,e4⟩:=h;rw[Qba] at hx2;obtain⟨n1,hn1,rfl⟩:=Qat.mp hx2;refine⟨_,rq,_,rq,d,_,rq,Hi.k (k:=Sum.inl n1) e1,_,rq,?_⟩;by_cases hm:n1∈wa
   ·have hm':=hm;rw[<-hw] at hm';obtain⟨y,hy,ey⟩:=QbV.mp hm';rw[Jf (f:=λz:Sd=>Sum.inl z.addr) hy (by show (Sum.inl y.addr:Key)=_;rw[ey])];exact Ec ⟨_,rq,rq,Dk hn1 e4 (if_pos hm)⟩
   ·rw[Gy (λy hy e=>hm (by rw[<-hw];exact QbV.mpr ⟨y,hy,Sum.inl.inj e⟩))];refine Ei ⟨_,rq,_,rq,(by show 3<=sizeLine;decide),λt ht=>q _ _ (s2.trans (Ad ht _)) ?_⟩;rw[DK hzi e3 (DK hn1 e4 (if_neg hm):stZ wa z=_)];exact⟨t,rq,Ab,by simp⟩
  ·obtain⟨u4,rfl,rfl,e4⟩:=h;exact⟨_,_,_,rq,rq,Dk hzi e3 (CN (by rw[Qbt]) e4)⟩
 ·obtain⟨u2,u3,u4,rfl,rfl,e3⟩:=h;refine q _ _ s2 ?_;rw[CN zl.symm e3];rfl
theorem Kl (C:Code K mg "address_shared" Fj Ds) (T:Ty K mg op oe wk):Good P w K mg base "address_shared" 1 Ds Yt:=by
 have sc:=CQ;refine C.good CQ (λvs H Q E h=>?_) (λf cdv A outer s H vs Q E hr h=>?_)
 ·obtain⟨pl,most,ja,jc,rfl,_⟩:=h;rfl
 obtain⟨pl,most,ja,jc,rfl,pa,q⟩:=h;refine⟨_,(Af (Av (i:=1) CQ.nd rfl (Or.inl rfl) Pz)
 (Af (Bo Qbv rfl (DW (Bb Br (pv 0) Ae (λ_ _=>rfl))) (Ck rfl (Aj (Ah (i:=2) CQ.nd rfl (Or.inl rfl)) (Aj (Ah (i:=3) CQ.nd rfl (Or.inl rfl)) Bu)))
 (Ai (Bo Qbv rfl (DW (pv 3)) (Ah (i:=4) CQ.nd rfl (Or.inl rfl))
 (Af (Cq (Pk (Us (Mj hr) (pv 4) (pv 1))) (Ai (Bs (Bd (Aa BL (Aa (pv 2) (Aa (pv 4) Ac)))))) BK)
 (Ai (Rb (Mj hr) (pv 1) (pv 4) Kc rfl))))))
 (Ai (Bs Ij)))),?_⟩
 show let R0:TS:=_;let R1:TS:=Am (Dr _ R0 _) _;let R2:TS:=Cd _ _ R1;let R3:TS:=Am (Cd _ _ R2) _;Am _ R3 _ _ _;intro R0 R1 R2 R3;refine λd hd=>?_;have s0:=Ad hd (.dK []);obtain⟨Ls,zs,ws,zvs,f1,f2,f3,f4,f5⟩:=pa.at_;have zl:=QbK f5;have c8:=pa.z8;unfold wSh at q;have Wu:∀i,((jc.take i).flatMap (·.adr)).length<=30*(jc.take i).length:=λi=>Qg λz hz=>(pa.zup z (QaC hz)).2;refine⟨_,rq,pl,_,_,_,rq,rq,SqT.of (s0 _ _ f1),rq,zs,rq,⟨_,SqT.of (s0 _ _ f4)⟩,?_⟩;let J4:YN:=λi O HX=>∃u2 u3 u4,O=[jd pl,jd d,u2,u3,u4]/\HX d=some (.dK (Fb Sum.inl ((jc.take i).flatMap (·.adr))))/\Same H HX/\((List.range jc.length).take i).findSome? (shZ jc)=none;refine Dv (xs:=zvs) J4 ⟨_,_,_,rq,Ab,s0,rq⟩ (λi O HX _ h=>?_) (λi x O HX hx' h=>?_) (fun O HX h=>?_)
 ·obtain⟨u2,u3,u4,rfl,e1,e2,e3⟩:=h;exact SqT.of (e2 _ _ f4)
 ·obtain⟨u2,u3,u4,rfl,e1,e2,e3⟩:=h;obtain⟨z,hzi,tz,uz,rfl,h1,h2⟩:=Paired.Ca f5 hx';have hm:=QaA hzi;have hra:=Em (n:=jc.length) (i:=i) (Qaf.mp hzi).1;refine⟨tz,_,rq,SqT.of (e2 _ _ h1),rq,_,_,rq,_,_,rq,rq,?_⟩;refine⟨_,rq,uz,rq,⟨_,SqT.of (e2 _ _ h2)⟩,?_⟩;have dh:=(pa.zup z hm).2;have ndz:z.adr.Nodup:=(pa.zup z hm).1.imp λh=>by omega
  have hlen:(z.adr.map V.int).length=z.adr.length:=Qbt ..;have hsp:(jc.take (i+1)).flatMap (·.adr)=(jc.take i).flatMap (·.adr)++z.adr:=by rw[Qcg hzi,QaI];simp
  have hc:=Wu i;have hti:(jc.take i).length<=8:=by rw[Qbk];omega
  let J5:YN:=λj O HY=>∃u4,O=[jd pl,jd d,some (.str z.name),jd uz,u4]/\HY d=some (.dK (Fb Sum.inl ((jc.take i).flatMap (·.adr)++z.adr.take j)))/\Same H HY/\(z.adr.take j).findSome? (shA ((jc.take i).flatMap (·.adr)) z)=none;refine Dv (xs:=z.adr.map V.int) J5 ⟨_,rq,by rw[List.take_zero,Qbz];exact e1,e2,rq⟩ (λj O HY _ h=>?_) (λj x O HY hx2 h=>?_) (fun O HY h=>?_)
  ·obtain⟨u4,rfl,_,e,_⟩:=h;exact SqT.of (e _ _ h2)
  ·obtain⟨u4,rfl,g1,g2,g3⟩:=h;rw[Qba] at hx2;obtain⟨n1,hn1,rfl⟩:=Qat.mp hx2;refine⟨_,rq,_,rq,d,_,rq,Hi.k (k:=Sum.inl n1) g1,_,rq,?_⟩;by_cases hin:n1∈(jc.take i).flatMap (·.adr)
   ·rw[Jf (f:=Sum.inl) (QaD _ hin) rfl];refine Ei ⟨_,rq,_,rq,(by show 3<=sizeLine;decide),λt ht=>q _ _ (g2.trans (Ad ht _)) ?_⟩;rw[DK hra e3 ((Lq hzi).trans (DK hn1 g3 (if_pos hin)))];exact⟨t,rq,Ab,by simp⟩
   ·have fr:∀y∈(jc.take i).flatMap (·.adr)++z.adr.take j,(Sum.inl y:Key)≠Sum.inl n1:=λy hy e=>by
     have e:=Sum.inl.inj e;subst e;rcases Qbu.mp hy with h | h
     ·exact hin h
     ·exact Ng ndz hn1 y h rfl
    rw[Gy fr];refine Ec ⟨_,rq,_,rq,d,_,rq,JT.k (k:=Sum.inl n1) g1 (Bc ?_),_,rq,?_,g2.Df Ag.upd hd,Dk hn1 g3 (if_neg hin)⟩
    ·rw[JF,QaL,Qbk];omega
    ·rw[Ab,JD (f:=Sum.inl) (x:=n1) fr,Qcg hn1,Qbe]
  ·obtain⟨u4,rfl,g1,g2,g3⟩:=h;rw[hlen,Qbl,<-hsp] at g1;exact⟨_,_,_,rq,g1,g2,Dk hra e3 ((Lq hzi).trans (CN hlen.symm g3))⟩
 ·obtain⟨u2,u3,u4,rfl,e1,e2,e3⟩:=h;refine q _ _ e2 ?_;rw[CN (by rw[Qbc,zl]) e3];rfl
theorem LC (C:Code K mg "part_crowded" Gf DX) (T:Ty K mg op oe wk) (XR:Good P w K mg base "parts" 2 Il Q0):Good P w K mg base "part_crowded" 3 DX Yv:=by
 have sc:=Dy;refine C.good Dy (λvs H Q E h=>?_) (λf cdv A outer s H vs Q E hr h=>?_)
 ·obtain⟨pl,most,ja,jc,rfl,_⟩:=h;rfl
 obtain⟨pl,most,ja,jc,rfl,pa,q⟩:=h;refine⟨_,(Af (Bo Qbv rfl (BR rfl T.range (Aa (Bf Ba rfl T.len Cm (Aa (Bb Br (pv 0) Ae (λ_ _=>rfl)) Ac)) Ac)) (Ah (i:=1) Dy.nd rfl (Or.inl rfl))
 (Ai (Bo Qbv rfl (Uo rfl T.enumerate (Bg XR hr (Aa (pv 0) (Aa (pv 1) Ac)))) (Ck rfl (Aj (Ah (i:=2) Dy.nd rfl (Or.inl rfl)) (Aj (Ah (i:=3) Dy.nd rfl (Or.inl rfl)) Bu)))
 (Ai (Cq (Bl Kd (Bf Ba rfl T.len Cm (Aa (pv 3) Ac)) (Bb Br (pv 0) Ae (λ_ _=>rfl)) (Ci _)) (Ai (Bs (Bd (Aa BL (Aa (pv 1) (Aa (pv 2) Ac)))))) BK)))))
 (Ai (Bs Ij))),?_⟩
 show let R0:TS:=_;let R1:TS:=Dr _ R0 _;let R2:TS:=Cd _ _ R1;Am (Cd _ _ R2) _ _ _ _;intro R0 R1 R2;obtain⟨Ls,zs,ws,zvs,f1,f2,f3,f4,f5⟩:=pa.at_;have lw:=QbK f3;have l3:=pa.ok.hi;unfold wCr at q;refine⟨_,rq,pl,_,_,_,rq,rq,SqT.of f1,rq,Ls,_,rq,.inr (SqT.of f2),_,rq,by omega,by omega,?_⟩;rw[Qbb];let J6:YN:=λi O HX=>∃u1 u2 u3,O=[jd pl,u1,u2,u3]/\Same H HX/\((List.range ja.length).take i).findSome? (crL most ja)=none;refine Cj J6 ⟨_,_,_,rq,Same.refl H,rq⟩ (λi O HX hi h=>?_) (fun O HX h=>?_)
 ·obtain⟨u1,u2,u3,rfl,e1,e3⟩:=h;have hwi:ws[i]?=some ws[i]:=Qai hi;obtain⟨ps,hpi,t,vs',ev,ht,hps⟩:=Paired.Ca f3 hwi;have hm:=QaA hpi;have okl:=pa.ok.ok ps hm;have hra:=Em (n:=ja.length) (i:=i) (by omega);refine⟨_,rq,_,rq,pl,Ls,t,_,_,ws,vs',i,ps,?_,e1 _ _ f1,e1 _ _ f2,by rw[hwi,ev],e1 _ _ ht,Paired.Bh hps λ_ _ z=>z.tups (Ak.of e1),okl.ok,okl.hi,λl xs H1 hl hx hp hfr s1=>⟨l,rq,⟨_,SqL.of hx⟩,?_⟩⟩
  ·show [V.ref pl,.int (0+(i:Int))]++[]=_;rw[QbU];rfl
  have epl:=Xv (lp:=(i:Int)) (ps:=ps);have lxs:=QbK hp;generalize (stP (i:Int) ps ps.length).1++[(stP (i:Int) ps ps.length).2]=pp at *;have lpp:(Bw ps).length=pp.length:=by rw[<-epl,Qbt]
  let J7:YN:=λj O HY=>∃u2 u3,O=[jd pl,some (.int (0+(i:Int))),u2,u3]/\Same H1 HY/\((List.range (Bw ps).length).take j).findSome? (crF most ps i)=none;refine U7 (xs:=xs) (lo:=0) J7 ⟨_,_,rq,Same.refl H1,rq⟩ (λj O HY _ h=>?_) (λj x p O HY hx' h hp'=>?_) (fun O HY h=>?_)
  ·obtain⟨u2,u3,rfl,g1,g3⟩:=h;exact SqL.of (g1 _ _ hx)
  ·obtain⟨u2,u3,rfl,g1,g3⟩:=h;obtain⟨sps,hsi,qq,ys,rfl,hq1,hq2⟩:=Paired.Ca hp hx';have ly:=QbK hq2;have s2:=Ad hp' (.tup [.int ((0+j:Nat):Int),.ref qq]);have g2:=g1.trans s2;have hpj:(Bw ps)[j]?=some (sps.length:Int):=by rw[<-epl,Qba,hsi];rfl
   have hrj:=Em (n:=(Bw ps).length) (i:=j) (Qaf.mp hpj).1;refine⟨p,_,rq,SqT.of Ab,rq,_,_,rq,_,_,rq,rq,?_⟩;refine⟨_,rq,qq,_,rq,.inl (SqL.of (g2 _ _ hq1)),_,rq,pl,_,_,_,rq,rq,SqT.of (g2 _ _ (s1 _ _ (e1 _ _ f1))),rq,_,_,rq,rq,_,rq,?_⟩;rw[ly];by_cases hg:most < (sps.length:Int)
   ·rw[show decide (most < (sps.length:Int))=true from QbH hg]
    refine Ei ⟨_,rq,_,rq,(by show 3<=sizeLine;decide),λt ht=>q _ _ ((e1.trans (s1.trans g2)).trans (Ad ht _)) ?_⟩;rw[DK hra e3 ((Mr hpi).trans (DK hrj g3 (Rv hpj hg)))];refine⟨t,rq,?_,by simp⟩;rw[Ab,QbU,Nat.zero_add]
   ·rw[show decide (most < (sps.length:Int))=false from Qbx hg]
    exact Ec ⟨_,_,rq,g2,Dk hrj g3 (Ru hpj hg)⟩
  ·obtain⟨u2,u3,rfl,g1,g3⟩:=h;exact⟨_,_,_,rq,e1.trans (s1.trans g1),Dk hra e3 ((Mr hpi).trans (CN (by rw[Qbc,lpp,lxs]) g3))⟩
 ·obtain⟨u1,u2,u3,rfl,e1,e3⟩:=h;refine q _ _ e1 ?_;rw[CN (by rw[Qbc,lw]) e3];rfl
theorem Ky {H:Hp} {v:V} {xs:YG} (h:Hf H v (some xs)):Tt K v H true:=by
 obtain⟨a,rfl,ha,n⟩:=h;refine .inr (.inl ⟨xs,SqT.of ha,?_⟩);cases xs with
 | nil=>exact absurd rfl n
 | cons x r=>rfl
theorem Kz {H:Hp} {v:V} (h:Hf H v none):Tt K v H false:=by
 cases (show v=.non from h)
 exact rfl
theorem V1 (C:Code K mg "wrong" M4 Ik) (T:Ty K mg op oe wk) (Mp:Good P w K mg base "address_twice" 3 DG Yr) (Nk:Good P w K mg base "part_crowded" 3 DX Yv) (JK:Good P w K mg base "address_stranger" 3 Dd Ys) (K7:Good P w K mg base "address_shared" 1 Ds Yt):Good P w K mg base "wrong" 4 Ik RZ:=by
 refine C.good Vz (λvs H Q E h=>?_) (λf cdv A outer s H vs Q E hr h=>?_)
 ·obtain⟨pl,most,ja,jc,rfl,_⟩:=h;rfl
 obtain⟨pl,most,ja,jc,rfl,pa,q⟩:=h;refine⟨_,(Ai (Bs (Py (K:=K) rfl (Bg Mp hr (Aa (pv 0) Ac)) (Py (K:=K) rfl (Bg Nk hr (Aa (pv 0) Ac)) (Py (K:=K) rfl (Bg JK hr (Aa (pv 0) Ac)) (Y0 (Bg K7 hr (Aa (pv 0) Ac)))))))),?_⟩;unfold DP at q;refine⟨_,rq,pl,most,ja,jc,rq,pa,λv1 H1 s1 w1=>?_⟩;cases c1:wTw ja with
 | some x1=>
  rw[c1] at w1 q;exact⟨true,Ky w1,Ei (q _ _ s1 w1)⟩
 | none=>
  have nd:=Vr c1;rw[c1] at w1 q;refine⟨false,Kz w1,Ec ⟨_,rq,pl,most,ja,jc,rq,pa.same s1,λv2 H2 s2 w2=>?_⟩⟩;cases c2:wCr most ja with
  | some x2=>
   rw[c2] at w2 q;exact⟨true,Ky w2,Ei (q _ _ (s1.trans s2) w2)⟩
  | none=>
   rw[c2] at w2 q;refine⟨false,Kz w2,Ec ⟨_,rq,pl,most,ja,jc,rq,(pa.same s1).same s2,nd,λv3 H3 s3 w3=>?_⟩⟩;cases c3:wSt ja jc with
   | some x3=>
    rw[c3] at w3 q;exact⟨true,Ky w3,Ei (q _ _ (s1.trans (s2.trans s3)) w3)⟩
   | none=>
    rw[c3] at w3 q;exact⟨false,Kz w3,Ec ⟨_,rq,pl,most,ja,jc,rq,((pa.same s1).same s2).same s3,λv4 H4 s4 w4=>q _ _ (s1.trans (s2.trans (s3.trans s4))) w4⟩⟩
end
abbrev Jx:Stmt:=top 21
abbrev Gs:YF:=["_law_plan_here"]
theorem Bk:Bx ["_law_plan_here","_law_most","_law_loops","_law_zones","_law_told","_law_places","_law_kind","_law_address","_law_spur","_law_k","_law_loop_here","_law_many","_law_number","_law_name_here","_law_addresses","_law_ahead"] Gs (Ao Jx):=by ac_rfl
def tdP (p:Place):List Dev:=if V.str p.kind=V.str "opener" then [] else CG p
def tdL (ps:List Place):List Dev:=ps.flatMap tdP
def CJ (ja:YU):List Dev:=ja.flatMap tdL
theorem Xj (ja:YU):(CJ ja).map (·.addr)=Bm ja:=by
 unfold CJ Bm;rw[List.map_flatMap];congr 1
 funext ps
 unfold tdL adL;rw[List.map_flatMap];congr 1
 funext p
 unfold tdP adP CG;split <;> rfl
theorem Jt {α : Type} (f:α->List Dev):∀l:List α,CK (l.flatMap f)=l.flatMap λx=>CK (f x)
 | []=>rfl
 | x::r=>by
  have ih:=Jt f r;unfold CK at ih ⊢;rw[Qbd,Qbd,QaY,Qbw,ih]
theorem Nr {α β : Type} {f g:α->List β}:∀{l:List α},(∀x∈l,f x=g x)->l.flatMap f=l.flatMap g
 | [],_=>rfl
 | x::r,h=>by rw[Qbd,Qbd,h x (QaM ..),Nr λy hy=>h y (QaB _ hy)]
theorem Yk {ja:YU} (ok:JQ ja):CK (CJ ja)=Cp ja:=by
 unfold CJ Cp;rw[Jt];refine Nr λps hps=>?_;unfold tdL Ej;rw[Jt];refine Nr λp hp=>?_;unfold tdP;split
 ·rename_i h;rcases ((ok.ok ps hps).ok p hp).form with⟨e1,e2,e3⟩| hk
  ·unfold CG;rw[e1,e3];have:Cy "opener"=false:=by trivial
   unfold CK;rw[Qap (l:=[]) (by rw[this];decide)]
  ·exact absurd h (Ke hk)
 ·rfl
theorem O5 {ps:List Place} (ok:∀p∈ps,OkP p):(tdL ps).length<=4*ps.length:=by
 induction ps with
 | nil=>exact QbZ _
 | cons p r ih=>
  have h1:=ih λq hq=>ok q (QaB _ hq);have h2:=(ok p (QaM ..)).spur;have h3:(tdP p).length<=4:=by
   unfold tdP CG;split
   ·exact Qca _
   ·rw[Qbm];omega
  unfold tdL at h1 ⊢;rw[Qbd,QaL,Qbm];omega
theorem Iz {ja:YU} (ok:∀ps∈ja,OkL ps):(CJ ja).length<=48*ja.length:=by
 induction ja with
 | nil=>exact QbZ _
 | cons p r ih=>
  have h1:=ih λq hq=>ok q (QaB _ hq);have h2:=ok p (QaM ..);have h3:=O5 h2.ok;have h4:=h2.hi;unfold CJ at h1 ⊢;rw[Qbd,QaL,Qbm];omega
theorem Kg (w:Int):∀ws:List Int,inV (.int w) (ws.map V.int)=decide (w∈ws)
 | []=>by simp[inV]
 | x::r=>by
  have ih:=Kg w r;unfold inV at ih ⊢;rw[QbM,QbQ,ih];have:eqV (.int x) (.int w)=decide (x=w):=by
   first
    | rfl
    | simp[eqV]
  rw[this,<-Bool.decide_or];congr 1;rw[QbL,eq_comm (a:=w)]
theorem ww1 {most:Int} {ja:YU} {jc:List Zone} {o:YG} (h:wTw ja=some o):DP most ja jc=some o:=by
 unfold DP;rw[h];rfl
theorem ww2 {most:Int} {ja:YU} {jc:List Zone} {o:YG} (h1:wTw ja=none) (h:wCr most ja=some o):DP most ja jc=some o:=by
 unfold DP;rw[h1,h];rfl
theorem ww3 {most:Int} {ja:YU} {jc:List Zone} {o:YG} (h1:wTw ja=none) (h2:wCr most ja=none) (h:wSt ja jc=some o):DP most ja jc=some o:=by
 unfold DP;rw[h1,h2,h];rfl
theorem ww4 {most:Int} {ja:YU} {jc:List Zone} (h1:wTw ja=none) (h2:wCr most ja=none) (h:wSt ja jc=none):DP most ja jc=wSh jc:=by
 unfold DP;rw[h1,h2,h];rfl
theorem Xp (ps:List Place):∀a:List Int×Int,(ps.foldl ptS a).1.length<=a.1.length+ps.length:=by
 induction ps with
 | nil=>exact λa=>QbZ _
 | cons p r ih=>
  intro a;have h:=ih (ptS a p);have h2:(ptS a p).1.length<=a.1.length+1:=by
   unfold ptS;split
   ·rw[QaL];exact QbZ _
   ·exact Nat.le_succ _
  rw[List.foldl_cons,Qbm];omega
theorem Ut (ps:List Place):(Bw ps).length<=ps.length+1:=by
 have h:=Xp ps ([],0);unfold Bw;rw[QaL];have:(pst ps).1.length<=0+ps.length:=h;show (pst ps).1.length+1<=_;omega
section
variable {P:Program} {w:World} {K:YD} {mg:YB} {base:Heap} {op oe wk:Addr}
abbrev xb:YF:=["_law_kind","_law_number"]
theorem SM (C:Code K mg "_law_wrong" Jx Gs) (T:Ty K mg op oe wk) (JG:Good P w K mg base "_law_parts" 1 Fx KC):Good P w K mg base "_law_wrong" 2 Gs RZ:=by
 have sc:=Bk;refine C.good Bk (λvs H Q E h=>?_) (λf cdv A outer s H vs Q E hr h=>?_)
 ·obtain⟨pl,most,ja,jc,rfl,_⟩:=h;rfl
 obtain⟨pl,most,ja,jc,rfl,pa,q⟩:=h;refine⟨_,(Af (Ez (pv 0) (Ck rfl (Aj (Ah (i:=1) Bk.nd rfl (Or.inl rfl)) (Aj (Ah (i:=2) Bk.nd rfl (Or.inl rfl)) (Aj (Ah (i:=3) Bk.nd rfl (Or.inl rfl)) Bu)))))
 (Af (Av (i:=4) Bk.nd rfl (Or.inl rfl) (Cg Ac))
 (Af (Bo Qbv rfl (DW (pv 2)) (Ah (i:=5) Bk.nd rfl (Or.inl rfl))
 (Ai (Bo Qbv rfl (DW (pv 5)) (Ck rfl (Aj (Ah (i:=6) Bk.nd rfl (Or.inl rfl)) (Aj (Ah (i:=7) Bk.nd rfl (Or.inl rfl)) (Aj (Ah (i:=8) Bk.nd rfl (Or.inl rfl)) Bu))))
 (Ai (Cq (Bl Xc (pv 6) BL (Ci _)) (Ai (CT (Dn Qan Qal Qam Gw (pv 4) (Aa (Dq JM rfl T.list Rx (Aa (Aq Cw (Bd (Aa (Bd (Aa (pv 6) (Aa (pv 7) Ac))) Ac)) (pv 8)) Ac)) Ac)))) BK)))))
 (Af (Bo Qbv rfl (BR rfl T.range (Aa (Bf Ba rfl T.len Cm (Aa (pv 4) Ac)) Ac)) (Ah (i:=9) Bk.nd rfl (Or.inl rfl))
 (Ai (Cq (Bl Hl (Bb Br (Bb BP (pv 4) (pv 9) (λ_ _=>rfl)) Ae (λ_ _=>rfl)) (Fw (N':=xb) rfl (Cu.plain rfl (by trivial) (by trivial) (by trivial)) (Eh (CP Q7 (pv 4) Dh (Dg (pv 9)))) (λ_ _ _ _=>(Ih (K:=K) (n:=2) rfl rfl (Aj (Ah (i:=0) (show List.Nodup (xb:YF) by trivial) rfl (Or.inl rfl)) (Aj (Ah (i:=1) (show List.Nodup (xb:YF) by trivial) rfl (Or.inl rfl)) Bu)))) (λ_ _ _ _=>JB) (λ_ _ _ _=>(pv 1))) (by with_unfolding_all rfl)) (Ai (Bs (Bd (Aa BL (Aa (Bb Br (Bb BP (pv 4) (pv 9) (λ_ _=>rfl)) Ae (λ_ _=>rfl)) Ac))))) BK)))
 (Af (Bo Qbv rfl (BR rfl T.range (Aa (Bf Ba rfl T.len Cm (Aa (pv 2) Ac)) Ac)) (Ah (i:=10) Bk.nd rfl (Or.inl rfl))
 (Af (Av (i:=11) Bk.nd rfl (Or.inl rfl) (Bg JG hr (Aa (Bb Br (pv 2) (pv 10) (λ_ _=>rfl)) Ac)))
 (Ai (Bo Qbv rfl (BR rfl T.range (Aa (Bf Ba rfl T.len Cm (Aa (pv 11) Ac)) Ac)) (Ah (i:=12) Bk.nd rfl (Or.inl rfl))
 (Ai (Cq (Bl Kd (Bb BP (pv 11) (pv 12) (λ_ _=>rfl)) (pv 1) (Ci _)) (Ai (Bs (Bd (Aa BL (Aa (pv 10) (Aa (pv 12) Ac)))))) BK))))))
 (Af (Bo Qbv rfl (DW (pv 3)) (Ck rfl (Aj (Ah (i:=13) Bk.nd rfl (Or.inl rfl)) (Aj (Ah (i:=14) Bk.nd rfl (Or.inl rfl)) Bu)))
 (Ai (Bo Qbv rfl (DW (pv 14)) (Ah (i:=7) Bk.nd rfl (Or.inl rfl))
 (Ai (Cq (Bl JC (pv 7) (Fw (N':=xb) rfl (Cu.plain rfl (by trivial) (by trivial) (by trivial)) (Eh (pv 4)) (λ_ _ _ _=>(Ih (K:=K) (n:=2) rfl rfl (Aj (Ah (i:=0) (show List.Nodup (xb:YF) by trivial) rfl (Or.inl rfl)) (Aj (Ah (i:=1) (show List.Nodup (xb:YF) by trivial) rfl (Or.inl rfl)) Bu)))) (λ_ _ _ _=>(Ii (Bl (Jd (K:=K) rfl) (pv 0) (Bd (Aa BL (Aa BL Ac))) (by with_unfolding_all rfl)))) (λ_ _ _ _=>(pv 1))) (by with_unfolding_all rfl)) (Ai (Bs (Bd (Aa BL (Aa (pv 13) (Aa (pv 7) Ac)))))) BK)))))
 (Af (Av (i:=15) Bk.nd rfl (Or.inl rfl) (Cg Ac))
 (Af (Bo Qbv rfl (DW (pv 3)) (Ck rfl (Aj (Ah (i:=13) Bk.nd rfl (Or.inl rfl)) (Aj (Ah (i:=14) Bk.nd rfl (Or.inl rfl)) Bu)))
 (Af (Bo Qbv rfl (DW (pv 14)) (Ah (i:=7) Bk.nd rfl (Or.inl rfl))
 (Ai (Cq (Bl Hl (pv 7) (pv 15) (by with_unfolding_all rfl)) (Ai (Bs (Bd (Aa BL (Aa (pv 13) (Aa (pv 7) Ac)))))) BK)))
 (Ai (CT (Dn Qan Qal Qam Gw (pv 15) (Aa (Dq JM rfl T.list Rx (Aa (pv 14) Ac)) Ac))))))
 (Ai (Bs Ij)))))))))),?_⟩
 show let R0:TS:=_;let R1:TS:=_;let R2:TS:=Dr _ R1 _;let R3:TS:=Am (Cd _ _ R2) R0;let R4:TS:=Am (Cd _ _ R3) _;let R5:TS:=Am _ R4;let R6:TS:=_;let R7:TS:=Dr _ R6 _;let R8:TS:=Cd _ _ R7;let R9:TS:=Am (Cd _ _ R8) R5;let R10:TS:=_;let R11:TS:=Dr _ R10 _;let R12:TS:=Cd _ _ R11;let R13:TS:=Am _ R12;let R14:TS:=Am (Cd _ _ R13) R9;let R15:TS:=_;let R16:TS:=Dr _ R15 _;let R17:TS:=Am (Cd _ _ R16) R14;let R18:TS:=_;let R19:TS:=Dr _ R18 _;let R20:TS:=Cd _ _ R19;let R21:TS:=Am (Cd _ _ R20) R17;let R22:TS:=Am _ R21;Am _ R22 _ _ _;intro R0 R1 R2 R3 R4 R5 R6 R7 R8 R9 R10 R11 R12 R13 R14 R15 R16 R17 R18 R19 R20 R21 R22;obtain⟨Ls,zs,ws,zvs,f1,f2,f3,f4,f5⟩:=pa.at_;have lw:=QbK f3;have zl:=QbK f5;have l3:=pa.ok.hi;have c8:=pa.z8;refine⟨_,rq,pl,_,rq,SqT.of f1,rq,_,_,rq,_,_,rq,_,_,rq,rq,?_⟩;refine⟨Al (by show 0<=1000;decide),λl fl=>?_⟩;have s1:=Ad fl (.lst []);refine⟨_,rq,Ls,rq,⟨ws,SqT.of (s1 _ _ f2)⟩,?_⟩;let J0:YN:=λi O HH=>∃(ys:YG) (u5 u6 u7 u8:Option V),O=[jd pl,some (.int most),jd Ls,jd zs,jd l,u5,u6,u7,u8,none,none,none,none,none,none,none]/\Same H HH/\HH l=some (.lst ys)/\Paired (Fd HH) ys (CJ (ja.take i));refine Dv (xs:=ws) J0 ⟨[],_,_,_,_,rq,s1,Ab,.nil⟩ (λi O HH _ h=>?_) (λi x O HH hx h=>?_) (fun O HH h=>?_)
 ·obtain⟨ys,u5,u6,u7,u8,rfl,sm,_⟩:=h;exact SqT.of (sm _ _ f2)
 ·obtain⟨ys,u5,u6,u7,u8,rfl,sm,hy,py⟩:=h;obtain⟨ps,hps,t,vs',rfl,ht,hpl⟩:=Paired.Ca f3 hx;have okl:=pa.ok.ok ps (QaA hps);have lvs:=QbK hpl;have lti:(CJ (ja.take i)).length<=144:=by
   have h1:=Iz (ja:=ja.take i) λp hp=>pa.ok.ok p (QaC hp);have h2:=List.length_take_le i ja;have h3:(ja.take i).length<=ja.length:=by rw[Qbk];omega
   omega
  have ets:CJ (ja.take (i+1))=CJ (ja.take i)++tdL ps:=by
   unfold CJ;rw[Qcg hps,QaI];simp
  refine⟨_,rq,t,rq,⟨vs',SqT.of (sm _ _ ht)⟩,?_⟩;let J1:YN:=λj O HJ=>∃(ys:YG) (u6 u7 u8:Option V),O=[jd pl,some (.int most),jd Ls,jd zs,jd l,jd t,u6,u7,u8,none,none,none,none,none,none,none]/\Same H HJ/\HJ l=some (.lst ys)/\Paired (Fd HJ) ys (CJ (ja.take i)++tdL (ps.take j));refine Dv (xs:=vs') J1 ⟨ys,_,_,_,rq,sm,hy,by show Paired _ _ (_++[]);rw[Qbz];exact py⟩ (λj O HJ _ h=>?_) (λj x O HJ hxj h=>?_) (fun O HJ h=>?_)
  ·obtain⟨ys,u6,u7,u8,rfl,sj,_⟩:=h;exact SqT.of (sj _ _ ht)
  ·obtain⟨ys,u6,u7,u8,rfl,sj,hyj,pj⟩:=h;obtain⟨p,hpi,tp,up_,wsp,rfl,htp,hup,hsp⟩:=Paired.Ca hpl hxj;have okp:=okl.ok p (QaA hpi);have lsp:=QbK hsp;have ls3:=okp.spur;have h12:=okl.hi;have lyj:=QbK pj;have ltj:(tdL (ps.take j)).length<=48:=by
    have h1:=O5 (ps:=ps.take j) λp hp=>okl.ok p (QaC hp);have h3:(ps.take j).length<=ps.length:=by rw[Qbk];omega
    omega
   rw[QaL] at lyj;have etp:tdL (ps.take (j+1))=tdL (ps.take j)++tdP p:=by
    unfold tdL;rw[Qcg hpi,QaI];simp
   refine⟨tp,_,rq,SqT.of (sj _ _ htp),rq,_,_,rq,_,_,rq,_,_,rq,rq,?_⟩;refine⟨_,rq,rq,_,rq,?_⟩;by_cases ck:V.str p.kind=V.str "opener"
   ·have e0:tdP p=[]:=if_pos ck;rw[QbH ck];refine Ec ⟨ys,_,_,_,rq,sj,hyj,?_⟩;rw[etp,e0,Qbz];exact pj
   ·have e0:tdP p=CG p:=if_neg ck;rw[Qbx ck];refine Ei ⟨_,rq,.inl ⟨rq,_,SqL.of hyj⟩,_,rq,_,rq,(by show 2<=sizeLine;decide),λt1 ht1=>⟨(by show 1<=sizeLine;decide),λt2 ht2=>?_⟩⟩;have k1:=Ad ht1 (.tup [.str p.kind,.int p.addr]);have k2:=Ad ht2 (.tup [.ref t1]);have k12:=k1.trans k2;refine⟨_,rq,t2,up_,_,_,rq,rq,Ab,k12 _ _ (sj _ _ hup),Al (by show 1+wsp.length<=1000;omega),λp3 H3 hp3 k3=>?_⟩;have k13:=k12.trans k3;refine⟨p3,_,rq,.inr (SqT.of hp3),λl4 hl4=>?_⟩;have k4:=Ad hl4 (.lst ([V.ref t1]++wsp));have k14:=k13.trans k4;refine⟨l,l4,_,_,rq,rq,k14 _ _ hyj,Ab,Al (by rw[QaL];show ys.length+(1+wsp.length)<=1000;omega),?_⟩;have n0:∀zs,(upd H3 l4 (.lst ([V.ref t1]++wsp))) l≠some (.tup zs):=λzs z=>by rw[k14 _ _ hyj] at z;cases z
    have tt:=Ak.upd (o:=.lst (ys++([V.ref t1]++wsp))) n0;refine⟨ys++([.ref t1]++wsp),_,_,_,rq,(sj.trans k14).Df Ag.upd fl,Ab,?_⟩;rw[etp,e0,<-Qbe (CJ (ja.take i))];refine Paired.app (Paired.Bh pj λ_ _ z=>(z.tups (Ak.of k14)).tups tt) (.cons ⟨t1,rq,tt _ _ (k4 _ _ (k3 _ _ (k2 _ _ Ab)))⟩ ?_);exact Paired.Bh hsp λ_ _ z=>(z.tups (Ak.of (sj.trans k14))).tups tt
  ·obtain⟨ys,u6,u7,u8,rfl,sj,hyj,pj⟩:=h;refine⟨ys,_,_,_,_,rq,sj,hyj,?_⟩;rw[lvs,Qbl] at pj;rw[ets];exact pj
 obtain⟨ys,u5,u6,u7,u8,rfl,sA,hyA,pyA⟩:=h;rw[lw,Qbl] at pyA;have ly:=QbK pyA;have Wf:=Xj ja;have lad:(Bm ja).length=(CJ ja).length:=by rw[<-Wf,Qbt]
 have Wg:(CJ ja).length<=144:=by
  have:=Iz pa.ok.ok;omega
 refine⟨_,rq,l,_,rq,.inl (SqL.of hyA),_,rq,by omega,by omega,?_⟩;rw[Qbb];let J2:YN:=λi O HX=>∃u9,O=[jd pl,some (.int most),jd Ls,jd zs,jd l,u5,u6,u7,u8,u9,none,none,none,none,none,none]/\Same HH HX/\((List.range (Bm ja).length).take i).findSome? (twF (Bm ja))=none;refine Cj J2 ⟨_,rq,Same.refl HH,rq⟩ (λi O HX hi h=>?_) (fun O HX h=>?_)
 ·obtain⟨u9,rfl,e1,e3⟩:=h;have hyi:ys[i]?=some ys[i]:=Qai hi;obtain⟨d,hdi,td,etd,htd⟩:=Paired.Ca pyA hyi;rw[etd] at hyi;have hra:=Em (n:=(Bm ja).length) (i:=i) (by omega);have hat:(Bm ja)[i]?=some d.addr:=by rw[<-Wf,Qba,hdi];rfl
  have ec:Fp ys none (some (0+(i:Int)))=ys.take i:=by rw[QbU];exact Eo (by omega)
  refine⟨_,rq,_,rq,l,_,_,_,rq,rq,SqL.of (e1 _ _ hyA),(by rw[QbU];exact Az hyi),td,_,_,_,rq,rq,SqT.of (e1 _ _ htd),rq,?_⟩;refine⟨_,rq,_,rq,_,rq,l,_,rq,SqL.of (e1 _ _ hyA),λp hp=>?_⟩;rw[ec];have k1:=Ad hp (.lst (ys.take i));have hpy:=Ab (H:=HX) (a:=p) (o:=.lst (ys.take i));generalize upd HX p (.lst (ys.take i))=HP at k1 hpy;refine⟨p,rq,⟨_,SqL.of hpy⟩,λl2 hl2=>?_⟩;have lti:(ys.take i).length=i:=by rw[Qbk];omega
  let J3:YN:=λj O HH2=>∃u v,O=[u,v]/\HH2=upd HP l2 (.lst ((((CJ ja).take j).map (·.addr)).map V.int));refine Fz (xs:=ys.take i) J3 ⟨_,_,rq,rq⟩ (λj O HH2 _ h=>?_) (λj y O HH2 hyj h=>?_) (fun O HH2 h=>?_)
  ·obtain⟨u,v,rfl,rfl⟩:=h;exact SqL.of (Ad hl2 _ _ _ hpy)
  ·obtain⟨u,v,rfl,rfl⟩:=h;have hj:j < i:=by have:=(Qaf.mp hyj).1;omega
   rw[List.getElem?_take,if_pos hj] at hyj;obtain⟨d',hdj,td',rfl,Wn⟩:=Paired.Ca pyA hyj;refine⟨td',_,rq,SqT.of (Ad hl2 _ _ _ (k1 _ _ (e1 _ _ Wn))),rq,_,_,rq,_,_,rq,rq,?_⟩;refine Ei ⟨_,rq,_,Ab,Bc (by simp;omega),_,_,rq,?_⟩;rw[JW,Qcg hdj];simp
  ·obtain⟨u,v,rfl,rfl⟩:=h;have k2:=Ad hl2 (.lst ((((CJ ja).take (ys.take i).length).map (·.addr)).map V.int));have eL:((CJ ja).take (ys.take i).length).map (·.addr)=(Bm ja).take i:=by rw[lti,List.map_take,Wf]
   have k12:=e1.trans (k1.trans k2);refine⟨l2,_,rq,.inl (SqL.of Ab),rq,Hr _,_,rq,?_⟩;rw[if_neg QaN,Kg,eL];rw[eL] at k12;by_cases hm:d.addr∈(Bm ja).take i
   ·rw[QbH hm];refine Ei ⟨_,rq,_,rq,l,_,_,_,rq,rq,SqL.of (k12 _ _ hyA),(by rw[QbU];exact Az hyi),td,_,_,_,rq,rq,SqT.of (k12 _ _ htd),rq,(by show 2<=sizeLine;decide),λt ht=>q _ _ ((sA.trans k12).trans (Ad ht _)) ?_⟩;rw[ww1 (DK hra e3 (MN hat hm))];exact⟨t,rq,Ab,by simp⟩
   ·rw[Qbx hm];exact Ec ⟨_,rq,k12,Dk hra e3 (QT hat hm)⟩
 obtain⟨u9,rfl,eB,hB⟩:=h;have w1:wTw ja=none:=CN (by rw[Qbc,lad,ly]) hB;have sB:=sA.trans eB;clear hB;refine⟨_,rq,Ls,_,rq,.inr (SqT.of (sB _ _ f2)),_,rq,by omega,by omega,?_⟩;rw[Qbb];let J4:YN:=λi O HY=>∃u10 u11 u12,O=[jd pl,some (.int most),jd Ls,jd zs,jd l,u5,u6,u7,u8,u9,u10,u11,u12,none,none,none]/\Same HX HY/\((List.range ja.length).take i).findSome? (crL most ja)=none;refine Cj J4 ⟨_,_,_,rq,Same.refl HX,rq⟩ (λi O HY hi h=>?_) (fun O HY h=>?_)
 ·obtain⟨u10,u11,u12,rfl,e1,e3⟩:=h;have hwi:ws[i]?=some ws[i]:=Qai hi;obtain⟨ps,hpi,t,vs',ev,ht,hps⟩:=Paired.Ca f3 hwi;rw[ev] at hwi;have hm:=QaA hpi;have okl:=pa.ok.ok ps hm;have hra:=Em (n:=ja.length) (i:=i) (by omega);have s2:=sB.trans e1;have h12:=okl.hi;have lpp:=Ut ps;refine⟨_,rq,_,rq,Ls,_,_,_,rq,rq,SqT.of (s2 _ _ f2),(by rw[QbU];exact Az hwi),t,ps,rq,LoopAt.tups (Ak.of s2) ⟨t,vs',rq,ht,hps⟩,okl.ok,by omega,λl2 H2 h2 k2=>?_⟩;refine⟨_,rq,l2,_,rq,.inl (SqL.of h2),_,rq,by rw[Qbt];omega,by rw[Qbt];omega,?_⟩;rw[Qbb];have lpm:((Bw ps).map V.int).length=(Bw ps).length:=Qbt ..;let J5:YN:=λj O HZ=>∃u12,O=[jd pl,some (.int most),jd Ls,jd zs,jd l,u5,u6,u7,u8,u9,some (.int (0+(i:Int))),jd l2,u12,none,none,none]/\HZ=H2/\((List.range (Bw ps).length).take j).findSome? (crF most ps i)=none;refine Cj J5 ⟨_,rq,rq,rq⟩ (λj O HZ hj h=>?_) (fun O HZ h=>?_)
  ·obtain⟨u12,rfl,rfl,g3⟩:=h;rw[lpm] at hj;have hpj:(Bw ps)[j]?=some (Bw ps)[j]:=Qai hj;have hpv:((Bw ps).map V.int)[j]?=some (.int (Bw ps)[j]):=by rw[Qba,hpj];rfl
   have hrj:=Em (n:=(Bw ps).length) (i:=j) hj;refine⟨_,rq,_,rq,l2,_,_,_,rq,rq,SqL.of h2,(by rw[QbU];exact Az hpv),_,rq,_,_,rq,rq,_,rq,?_⟩;by_cases hg:most < (Bw ps)[j]
   ·rw[QbH hg];refine Ei ⟨_,rq,_,rq,(by show 3<=sizeLine;decide),λt ht=>q _ _ ((s2.trans k2).trans (Ad ht _)) ?_⟩;rw[ww2 w1 (DK hra e3 ((Mr hpi).trans (DK hrj g3 (Rv hpj hg))))];refine⟨t,rq,?_,by simp⟩;rw[Ab,QbU,QbU]
   ·rw[Qbx hg];exact Ec ⟨_,rq,rq,Dk hrj g3 (Ru hpj hg)⟩
  ·obtain⟨u12,rfl,rfl,g3⟩:=h;exact⟨_,_,_,rq,e1.trans k2,Dk hra e3 ((Mr hpi).trans (CN (by rw[Qbc,lpm]) g3))⟩
 obtain⟨u10,u11,u12,rfl,eC,hC⟩:=h;have w2:wCr most ja=none:=CN (by rw[Qbc,lw]) hC;have sC:=sB.trans eC;have hyC:=eC _ _ (eB _ _ hyA);have pyC:=Paired.Bh pyA λ_ _ z=>z.tups (Ak.of (eB.trans eC));have ewa:=Yk pa.ok;clear hC;refine⟨_,rq,zs,rq,⟨_,SqT.of (sC _ _ f4)⟩,?_⟩;let J6:YN:=λi O HZ=>∃u7 u13 u14,O=[jd pl,some (.int most),jd Ls,jd zs,jd l,u5,u6,u7,u8,u9,u10,u11,u12,u13,u14,none]/\Same HY HZ/\(jc.take i).findSome? (stZ (Cp ja))=none;refine Dv (xs:=zvs) J6 ⟨_,_,_,rq,Same.refl HY,rq⟩ (λi O HZ _ h=>?_) (λi x O HZ hx' h=>?_) (fun O HZ h=>?_)
 ·obtain⟨u7,u13,u14,rfl,e1,e3⟩:=h;exact SqT.of (e1 _ _ (sC _ _ f4))
 ·obtain⟨u7,u13,u14,rfl,e1,e3⟩:=h;obtain⟨z,hzi,tz,uz,rfl,h1,h2⟩:=Paired.Ca f5 hx';have h1:=e1 _ _ (sC _ _ h1);have h2:=e1 _ _ (sC _ _ h2);refine⟨tz,_,rq,SqT.of h1,rq,_,_,rq,_,_,rq,rq,?_⟩;refine⟨_,rq,uz,rq,⟨_,SqT.of h2⟩,?_⟩;let J7:YN:=λj O HW=>∃u7,O=[jd pl,some (.int most),jd Ls,jd zs,jd l,u5,u6,u7,u8,u9,u10,u11,u12,some (.str z.name),jd uz,none]/\Same HZ HW/\(z.adr.take j).findSome? (stA (Cp ja) z)=none;refine Dv (xs:=z.adr.map V.int) J7 ⟨_,rq,Same.refl HZ,rq⟩ (λj O HW _ h=>?_) (λj x O HW hx2 h=>?_) (fun O HW h=>?_)
  ·obtain⟨u7,rfl,g1,g3⟩:=h;exact SqT.of (g1 _ _ h2)
  ·obtain⟨u7,rfl,g1,g3⟩:=h;rw[Qba] at hx2;obtain⟨n1,hn1,rfl⟩:=Qat.mp hx2;have eg:=e1.trans g1;refine⟨_,rq,_,rq,l,rq,⟨_,SqL.of (eg _ _ hyC)⟩,λl2 hl2=>?_⟩;let J8:YN:=λk O HV=>∃u v,O=[u,v]/\HV l2=some (.lst ((CK ((CJ ja).take k)).map V.int))/\Same HW HV;refine Fz (xs:=ys) J8 ⟨_,_,rq,Ab,Ad hl2 _⟩ (λk O HV _ h=>?_) (λk y O HV hyk h=>?_) (fun O HV h=>?_)
   ·obtain⟨u,v,rfl,m1,m2⟩:=h;exact SqL.of (m2 _ _ (eg _ _ hyC))
   ·obtain⟨u,v,rfl,m1,m2⟩:=h;obtain⟨d',hdk,td',rfl,Wn⟩:=Paired.Ca pyC hyk;refine⟨td',_,rq,SqT.of (m2 _ _ (eg _ _ Wn)),rq,_,_,rq,_,_,rq,rq,?_⟩;refine⟨_,rq,(by show 2<=sizeLine;decide),λt ht=>⟨t,_,rq,.inr (SqT.of Ab),rq,rq,_,rq,?_⟩⟩;rw[if_neg QaN];have k1:=Ad ht (.tup [.str "seeker",.str "knob"]);refine G9 (λhc=>?_) (λhc=>?_)
    ·refine⟨_,rq,_,k1 _ _ m1,Bc ?_,_,_,rq,?_,(m2.trans k1).Df Ag.upd hl2⟩
     ·rw[Qbt];unfold CK;have:=List.length_filter_le (λd:Dev=>Cy d.kind) ((CJ ja).take k);rw[Qbk] at this;rw[Qbt];omega
     ·rw[Ab,Qcg hdk,Js,if_pos (show Cy d'.kind=true from hc),Qbw]
      rfl
    ·refine⟨_,_,rq,?_,m2.trans k1⟩;rw[Qcg hdk,Js,if_neg (by rw[show Cy d'.kind=false from hc];decide),Qbz]
     exact k1 _ _ m1
   ·obtain⟨u,v,rfl,m1,m2⟩:=h;rw[ly,Qbl,ewa] at m1;refine⟨l2,_,rq,.inl (SqL.of m1),rq,Hr _,_,rq,?_⟩;rw[if_pos rfl,Kg];by_cases hm:n1∈Cp ja
    ·rw[QbH hm];exact Ec ⟨_,rq,g1.trans m2,Dk hn1 g3 (if_pos hm)⟩
    ·rw[Qbx hm];refine Ei ⟨_,rq,_,rq,(by show 3<=sizeLine;decide),λt ht=>q _ _ ((sC.trans (eg.trans m2)).trans (Ad ht _)) ?_⟩;rw[ww3 w1 w2 (DK hzi e3 (DK hn1 g3 (if_neg hm):stZ (Cp ja) z=_))];exact⟨t,rq,Ab,by simp⟩
  ·obtain⟨u7,rfl,g1,g3⟩:=h;exact⟨_,_,_,rq,e1.trans g1,Dk hzi e3 (CN (by rw[Qbt]) g3)⟩
 obtain⟨u7,u13,u14,rfl,eD,hD⟩:=h;have w3:wSt ja jc=none:=CN zl.symm hD;have sD:=sC.trans eD;have Wu:∀i,((jc.take i).flatMap (·.adr)).length<=30*(jc.take i).length:=λi=>Qg λz hz=>(pa.zup z (QaC hz)).2;rw[ww4 w1 w2 w3] at q;unfold wSh at q;refine⟨Al (by show 0<=1000;decide),λla fla=>?_⟩;have s5:=Ad fla (.lst []);refine⟨_,rq,zs,rq,⟨_,SqT.of (s5 _ _ (sD _ _ f4))⟩,?_⟩;let J9:YN:=λi O HV=>∃u7 u13 u14,O=[jd pl,some (.int most),jd Ls,jd zs,jd l,u5,u6,u7,u8,u9,u10,u11,u12,u13,u14,jd la]/\HV la=some (.lst (((jc.take i).flatMap (·.adr)).map V.int))/\Same HZ HV/\((List.range jc.length).take i).findSome? (shZ jc)=none;refine Dv (xs:=zvs) J9 ⟨_,_,_,rq,Ab,s5,rq⟩ (λi O HV _ h=>?_) (λi x O HV hx' h=>?_) (fun O HV h=>?_)
 ·obtain⟨u7,u13,u14,rfl,_,e1,e3⟩:=h;exact SqT.of (e1 _ _ (sD _ _ f4))
 ·obtain⟨u7,u13,u14,rfl,ea,e1,e3⟩:=h;obtain⟨z,hzi,tz,uz,rfl,h1,h2⟩:=Paired.Ca f5 hx';have hm:=QaA hzi;have hra:=Em (n:=jc.length) (i:=i) (Qaf.mp hzi).1;have h1:=e1 _ _ (sD _ _ h1);have h2:=e1 _ _ (sD _ _ h2);have hlen:(z.adr.map V.int).length=z.adr.length:=Qbt ..;have dh:=(pa.zup z hm).2;have hc:=Wu i;have hti:(jc.take i).length<=8:=by rw[Qbk];omega
  refine⟨tz,_,rq,SqT.of h1,rq,_,_,rq,_,_,rq,rq,?_⟩;refine⟨_,rq,uz,rq,⟨_,SqT.of h2⟩,?_⟩;let J10:YN:=λj O HW=>∃u7,O=[jd pl,some (.int most),jd Ls,jd zs,jd l,u5,u6,u7,u8,u9,u10,u11,u12,some (.str z.name),jd uz,jd la]/\HW=HV/\(z.adr.take j).findSome? (shA ((jc.take i).flatMap (·.adr)) z)=none;refine Dv (xs:=z.adr.map V.int) J10 ⟨_,rq,rq,rq⟩ (λj O HW _ h=>?_) (λj x O HW hx2 h=>?_) (fun O HW h=>?_)
  ·obtain⟨u7,rfl,rfl,g3⟩:=h;exact SqT.of h2
  ·obtain⟨u7,rfl,rfl,g3⟩:=h;rw[Qba] at hx2;obtain⟨n1,hn1,rfl⟩:=Qat.mp hx2;refine⟨_,rq,_,rq,la,_,rq,.inl (SqL.of ea),rq,Hr _,_,rq,?_⟩;rw[if_neg QaN,Kg];by_cases hin:n1∈(jc.take i).flatMap (·.adr)
   ·rw[QbH hin];refine Ei ⟨_,rq,_,rq,(by show 3<=sizeLine;decide),λt ht=>q _ _ ((sD.trans e1).trans (Ad ht _)) ?_⟩;rw[DK hra e3 ((Lq hzi).trans (DK hn1 g3 (if_pos hin)))];exact⟨t,rq,Ab,by simp⟩
   ·rw[Qbx hin];exact Ec ⟨_,rq,rq,Dk hn1 g3 (if_neg hin)⟩
  ·obtain⟨u7,rfl,rfl,g3⟩:=h;refine⟨_,rq,.inl ⟨rq,_,SqL.of ea⟩,_,rq,uz,_,rq,.inr (SqT.of h2),λl4 hl4=>?_⟩;have k4:=Ad hl4 (.lst (z.adr.map V.int));refine⟨la,l4,_,_,rq,rq,k4 _ _ ea,Ab,Al (by rw[Qbt,hlen];omega),?_⟩;refine⟨_,_,_,rq,?_,(e1.trans k4).Df Ag.upd fla,Dk hra e3 ((Lq hzi).trans (CN hlen.symm g3))⟩;rw[Ab,Qcg hzi,QaI,Qbw];simp
 ·obtain⟨u7,u13,u14,rfl,ea,e1,e3⟩:=h;refine q _ _ (sD.trans e1) ?_;rw[CN (by rw[Qbc,zl]) e3];rfl
end
abbrev FW:Stmt:=top 19
abbrev Dz:YF:=["_law_bag_here","_law_loops"]
theorem Ar:Bx ["_law_bag_here","_law_loops","_law_spots","_law_known","_law_loop_here","_law_at","_law_kind","_law_address","_law_spur","_law_way","_law_number","_law_place","_law_places"] Dz (Ao FW):=by ac_rfl
def swp {α : Type} (l:List α) (i:Nat) (x:α):List α:=l.take i++[x]++l.drop (i+1)
theorem DQ {α : Type} {l:List α} {i:Nat} {x:α} (h:i < l.length):(swp l i x).length=l.length:=by
 unfold swp;rw[QaL,QaL,Qbk,Qbn];show min i l.length+1+_=_;omega
theorem Et {α : Type} {l:List α} {i:Nat} {x y:α} (h:y∈swp l i x):y∈l\/y=x:=by
 rcases Qbu.mp h with h | h
 ·rcases Qbu.mp h with h | h
  ·exact .inl (QaC h)
  ·exact .inr (by simpa using h)
 ·exact .inl (List.mem_of_mem_drop h)
theorem Li {α : Type} {l:List α} {i:Nat} {x:α}:x∈swp l i x:=QaD _ (Qav _ (QaS.mpr rfl))
theorem Ea {α β : Type} {F:α->β->Prop} {l:List α} {r:List β} (h:Paired F l r) (i:Nat) {x:α} {y:β} (hx:F x y):Paired F (swp l i x) (swp r i y):=
 Paired.app (Paired.app (Paired.RQ i h) (.cons hx .nil)) (Paired.Tf (i+1) h)
def Iu (ja:YU):Prop:=∃ps∈ja,∃p∈ps,¬V.str p.kind=V.str "opener"
theorem Zz {ja:YU} (h:Iu ja):1<=(CJ ja).length:=by
 obtain⟨ps,hps,p,hp,hk⟩:=h;have:(⟨p.kind,p.addr⟩ : Dev)∈CJ ja:=by
  refine List.mem_flatMap.mpr ⟨ps,hps,List.mem_flatMap.mpr ⟨p,hp,?_⟩⟩;unfold tdP;rw[if_neg hk];exact QaM ..
 have:=Qau this;omega
def Nx (H:Hp) (v:V) (d:Nat×Nat×Nat):Prop:=∃u,v=.ref u/\H u=some (.tup [.int (d.1:Int),.int (d.2.1:Int),.int (d.2.2:Int)])
theorem Nx.tups {H H':Hp} (s:Ak H H') {v:V} {d:Nat×Nat×Nat} (h:Nx H v d):Nx H' v d:=by
 obtain⟨u,e,q⟩:=h;exact⟨u,e,s _ _ q⟩
def Qv (ja:YU) (d:Nat×Nat×Nat):Prop:=∃ps p,ja[d.1]?=some ps/\ps[d.2.1]?=some p/\(¬V.str p.kind=V.str "opener")/\d.2.2<=p.spur.length
def Yu:Sp:=λvs H Q _=>∃(b Ls:Addr) (n:Nat) (ws:YG) (ja:YU),vs=[.ref b,.ref Ls]/\Bj H b n/\n<=5000/\H Ls=some (.tup ws)/\Paired (LoopAt H) ws ja/\JQ ja/\Iu ja /\
 ∀t Ls' kn ws' G8 (ns:List Int) H',H' t=some (.tup [.ref Ls',.ref kn])->H' Ls'=some (.tup ws')->Paired (LoopAt H') ws' G8->JQ G8->Iu G8->H' kn=some (.lst (ns.map V.int))->H kn=none->1<=ns.length->ns.length<=144->Bj H' b (n+4)->Ag b H H'->Q (.ref t) H'
theorem at2 (a c:Int) (k:Bool):∃v:Int,atI [V.int a,V.int c] (if k=true then 1 else 0)=some (.int v):=by
 cases k
 ·exact⟨a,rq⟩
 ·exact⟨c,rq⟩
section
variable {P:Program} {w:World} {K:YD} {mg:YB} {base:Heap} {op oe wk:Addr}
theorem KR (C:Code K mg "_law_readdressed" FW Dz) (T:Ty K mg op oe wk) (Ax:Good P w K mg base "_law_take" 1 Eb Ia):Good P w K mg base "_law_readdressed" 2 Dz Yu:=by
 have sc:=Ar;refine C.good Ar (λvs H Q E h=>?_) (λf cdv A outer s H vs Q E hr h=>?_)
 ·obtain⟨b,Ls,n,ws,ja,rfl,_⟩:=h;rfl
 obtain⟨b,Ls,n,ws,ja,rfl,hb,hn,f2,f3,ok,hd,q⟩:=h;refine⟨_,(Af (Av (i:=2) Ar.nd rfl (Or.inl rfl) (Cg Ac))
 (Af (Av (i:=3) Ar.nd rfl (Or.inl rfl) (Cg Ac))
 (Af (Bo Qbv rfl (BR rfl T.range (Aa (Bf Ba rfl T.len Cm (Aa (pv 1) Ac)) Ac)) (Ah (i:=4) Ar.nd rfl (Or.inl rfl))
 (Ai (Bo Qbv rfl (BR rfl T.range (Aa (Bf Ba rfl T.len Cm (Aa (Bb Br (pv 1) (pv 4) (λ_ _=>rfl)) Ac)) Ac)) (Ah (i:=5) Ar.nd rfl (Or.inl rfl))
 (Af (Ez (Bb Br (Bb Br (pv 1) (pv 4) (λ_ _=>rfl)) (pv 5) (λ_ _=>rfl)) (Ck rfl (Aj (Ah (i:=6) Ar.nd rfl (Or.inl rfl)) (Aj (Ah (i:=7) Ar.nd rfl (Or.inl rfl)) (Aj (Ah (i:=8) Ar.nd rfl (Or.inl rfl)) Bu)))))
 (Ai (Cq (Bl Xc (pv 6) BL (Ci _)) (Ai (Bo Qbv rfl (BR rfl T.range (Aa (Aq BW (Bf Ba rfl T.len Cm (Aa (pv 8) Ac)) Ae) Ac)) (Ah (i:=9) Ar.nd rfl (Or.inl rfl))
 (Af (CT (Dn Qan Qaj Qak CV (pv 2) (Aa (Bd (Aa (pv 4) (Aa (pv 5) (Aa (pv 9) Ac)))) Ac)))
 (Ai (CT (Dn Qan Qaj Qak CV (pv 3) (Aa (Bb Br (Bb Br (Aq Cw (Bd (Aa (Bd (Aa (pv 6) (Aa (pv 7) Ac))) Ac)) (pv 8)) (pv 9) (λ_ _=>rfl)) Ae (λ_ _=>rfl)) Ac))))))) BK))))))
 (Af (Ez (Bb BP (pv 2) (Bg Ax hr (Aa (pv 0) (Aa (Bf Ba rfl T.len Cm (Aa (pv 2) Ac)) Ac))) (λ_ _=>rfl)) (Ck rfl (Aj (Ah (i:=4) Ar.nd rfl (Or.inl rfl)) (Aj (Ah (i:=5) Ar.nd rfl (Or.inl rfl)) (Aj (Ah (i:=9) Ar.nd rfl (Or.inl rfl)) Bu)))))
 (Af (Av (i:=10) Ar.nd rfl (Or.inl rfl) (Bb BP (Cg (Aa (Bb BP (pv 3) (Bg Ax hr (Aa (pv 0) (Aa (Bf Ba rfl T.len Cm (Aa (pv 3) Ac)) Ac))) (λ_ _=>rfl)) (Aa (Aq BW Ae (Bg Ax hr (Aa (pv 0) (Aa Ae Ac)))) Ac))) (Dq Oi rfl T.int Vh (Aa (Rf Ho (Bg Ax hr (Aa (pv 0) (Aa Ae Ac))) Ae (Ci _)) Ac)) (λ_ _=>rfl)))
 (Af (Ez (Bb Br (Bb Br (pv 1) (pv 4) (λ_ _=>rfl)) (pv 5) (λ_ _=>rfl)) (Ck rfl (Aj (Ah (i:=6) Ar.nd rfl (Or.inl rfl)) (Aj (Ah (i:=7) Ar.nd rfl (Or.inl rfl)) (Aj (Ah (i:=8) Ar.nd rfl (Or.inl rfl)) Bu)))))
 (Af (Cq (Bl Ho (pv 9) Ae (Ci _)) (Ai (Av (i:=11) Ar.nd rfl (Or.inl rfl) (Bd (Aa (pv 6) (Aa (pv 10) (Aa (pv 8) Ac)))))) (Ai (Av (i:=11) Ar.nd rfl (Or.inl rfl) (Bd (Aa (pv 6) (Aa (pv 7) (Aa (Aq Cw (Aq Cw (CP Ed (pv 8) Dh (Dg (Aq Ly (pv 9) Ae))) (Bd (Aa (Bd (Aa (Bb Br (Bb Br (pv 8) (Aq Ly (pv 9) Ae) (λ_ _=>rfl)) Ae (λ_ _=>rfl)) (Aa (pv 10) Ac))) Ac))) (CP Ed (pv 8) (Dg (pv 9)) Dh)) Ac)))))))
 (Af (Av (i:=12) Ar.nd rfl (Or.inl rfl) (Aq Cw (Aq Cw (CP Ed (Bb Br (pv 1) (pv 4) (λ_ _=>rfl)) Dh (Dg (pv 5))) (Bd (Aa (pv 11) Ac))) (CP Ed (Bb Br (pv 1) (pv 4) (λ_ _=>rfl)) (Dg (Aq BW (pv 5) Ae)) Dh)))
 (Ai (Bs (Bd (Aa (Aq Cw (Aq Cw (CP Ed (pv 1) Dh (Dg (pv 4))) (Bd (Aa (pv 12) Ac))) (CP Ed (pv 1) (Dg (Aq BW (pv 4) Ae)) Dh)) (Aa (pv 3) Ac))))))))))))),?_⟩
 show let R0:TS:=_;let R1:TS:=Am _ R0;let R2:TS:=_;let R3:TS:=_;let R4:TS:=Am (Dr _ R2 R3) R1;let R5:TS:=Am _ R4;let R6:TS:=Am _ R5;let R7:TS:=Am _ R6;let R8:TS:=_;let R9:TS:=Am _ R8;let R10:TS:=Cd _ _ R9;let R11:TS:=Dr _ R10 _;let R12:TS:=Am _ R11;let R13:TS:=Cd _ _ R12;let R14:TS:=Am (Cd _ _ R13) R7;let R15:TS:=Am _ R14;Am _ R15 _ _ _;intro R0 R1 R2 R3 R4 R5 R6 R7 R8 R9 R10 R11 R12 R13 R14 R15;have lw:=QbK f3;have l3:=ok.hi;refine⟨Al (by show 0<=1000;decide),λlS fS=>?_⟩;have s1:=Ad fS (.lst []);have eS1:=Ab (H:=H) (a:=lS) (o:=.lst []);generalize upd H lS (.lst [])=H1 at s1 eS1;refine⟨Al (by show 0<=1000;decide),λlK fK1=>?_⟩;have s2:=Ad fK1 (.lst []);have nSK:lS≠lK:=Ay eS1 fK1;have fK:=s1.free fK1;have s12:=s1.trans s2;refine⟨_,rq,Ls,_,rq,.inr (SqT.of (s12 _ _ f2)),_,rq,by omega,by omega,?_⟩;rw[Qbb];let J0:YN:=λi O HH=>∃(xs:YG) (ns:List Int) (sp:List (Nat×Nat×Nat)) (u4 u5 u6 u7 u8 u9:Option V),O=[jd b,jd Ls,jd lS,jd lK,u4,u5,u6,u7,u8,u9,none,none,none]/\Same H HH/\HH lS=some (.lst xs)/\Paired (Nx HH) xs sp/\(∀d∈sp,Qv ja d)/\HH lK=some (.lst (ns.map V.int))/\ns.length=(CJ (ja.take i)).length/\xs.length=ns.length;refine Cj J0
  ⟨[],[],[],_,_,_,_,_,_,rq,s12,s2 _ _ eS1,.nil,(λd hd=>by cases hd),Ab,rq,rq⟩ (λi O HH hi h=>?_) (fun O HH h=>?_)
 ·obtain⟨xs,ns,sp,u4,u5,u6,u7,u8,u9,rfl,sm,hS,pS,oS,hK,lK1,lX1⟩:=h;have hwi:ws[i]?=some ws[i]:=Qai hi;obtain⟨ps,hpi,t,vs',ev,ht,hps⟩:=Paired.Ca f3 hwi;rw[ev] at hwi;have hm:=QaA hpi;have okl:=ok.ok ps hm;have h12:=okl.hi;have lvs:=QbK hps;have lti:(CJ (ja.take i)).length<=144:=by
   have h1:=Iz (ja:=ja.take i) λp hp=>ok.ok p (QaC hp);have h3:(ja.take i).length<=ja.length:=by rw[Qbk];omega
   omega
  have ets:CJ (ja.take (i+1))=CJ (ja.take i)++tdL ps:=by
   unfold CJ;rw[Qcg hpi,QaI];simp
  refine⟨_,rq,_,rq,Ls,_,_,_,rq,rq,SqT.of (sm _ _ f2),(by rw[QbU];exact Az hwi),t,_,rq,.inr (SqT.of (sm _ _ ht)),_,rq,by omega,by omega,?_⟩;rw[Qbb];let J1:YN:=λj O HJ=>∃(xs:YG) (ns:List Int) (sp:List (Nat×Nat×Nat)) (u5 u6 u7 u8 u9:Option V),O=[jd b,jd Ls,jd lS,jd lK,some (.int (0+(i:Int))),u5,u6,u7,u8,u9,none,none,none]/\Same H HJ/\HJ lS=some (.lst xs)/\Paired (Nx HJ) xs sp/\(∀d∈sp,Qv ja d)/\HJ lK=some (.lst (ns.map V.int))/\ns.length=(CJ (ja.take i)).length+(tdL (ps.take j)).length/\xs.length=ns.length;refine Cj J1
   ⟨xs,ns,sp,_,_,_,_,_,rq,sm,hS,pS,oS,hK,lK1,lX1⟩ (λj O HJ hj h=>?_) (fun O HJ h=>?_)
  ·obtain⟨xs,ns,sp,u5,u6,u7,u8,u9,rfl,sj,hS,pS,oS,hK,lK1,lX1⟩:=h;have hvj:vs'[j]?=some vs'[j]:=Qai hj;obtain⟨p,hpj,tp,up_,wsp,evp,htp,hup,hsp⟩:=Paired.Ca hps hvj;rw[evp] at hvj;have okp:=okl.ok p (QaA hpj);have lsp:=QbK hsp;have ls3:=okp.spur;have ltj:(tdL (ps.take j)).length<=48:=by
    have h1:=O5 (ps:=ps.take j) λp hp=>okl.ok p (QaC hp);have h3:(ps.take j).length<=ps.length:=by rw[Qbk];omega
    omega
   have etp:tdL (ps.take (j+1))=tdL (ps.take j)++tdP p:=by
    unfold tdL;rw[Qcg hpj,QaI];simp
   refine⟨_,rq,_,rq,Ls,_,_,_,rq,rq,SqT.of (sj _ _ f2),(by rw[QbU];exact Az hwi),_,rq,t,_,_,_,rq,rq,SqT.of (sj _ _ ht),(by rw[QbU];exact Az hvj),tp,_,rq,SqT.of (sj _ _ htp),rq,_,_,rq,_,_,rq,_,_,rq,rq,?_⟩;refine⟨_,rq,rq,_,rq,?_⟩;by_cases ck:V.str p.kind=V.str "opener"
   ·have e0:tdP p=[]:=if_pos ck;rw[QbH ck];refine Ec ⟨xs,ns,sp,_,_,_,_,_,rq,sj,hS,pS,oS,hK,?_,lX1⟩;rw[etp,e0,Qbz];exact lK1
   ·have e0:(tdP p).length=p.spur.length+1:=by unfold tdP CG;rw[if_neg ck,Qbm]
    rw[Qbx ck];refine Ei ⟨_,rq,up_,_,rq,.inr (SqT.of (sj _ _ hup)),_,_,rq,rq,_,rq,by omega,by omega,?_⟩;rw[show ((wsp.length:Int)+1).toNat=p.spur.length+1 by omega];let J2:YN:=λk O HW=>∃(xs:YG) (ns:List Int) (sp:List (Nat×Nat×Nat)) (u9:Option V),O=[jd b,jd Ls,jd lS,jd lK,some (.int (0+(i:Int))),some (.int (0+(j:Int))),some (.str p.kind),some (.int p.addr),jd up_,u9,none,none,none]/\Same H HW/\HW lS=some (.lst xs)/\Paired (Nx HW) xs sp/\(∀d∈sp,Qv ja d)/\HW lK=some (.lst (ns.map V.int))/\ns.length=(CJ (ja.take i)).length+(tdL (ps.take j)).length+k/\xs.length=ns.length;refine Cj J2
     ⟨xs,ns,sp,_,rq,sj,hS,pS,oS,hK,lK1,lX1⟩ (λk O HW hk h=>?_) (fun O HW h=>?_)
    ·obtain⟨xs,ns,sp,u9,rfl,sw,hS,pS,oS,hK,lK1,lX1⟩:=h;refine⟨_,rq,.inl ⟨rq,_,SqL.of hS⟩,_,rq,_,rq,_,rq,(by show 3<=sizeLine;decide),λt1 ht1=>?_⟩;have k1:=Ad ht1 (.tup [.int (0+(i:Int)),.int (0+(j:Int)),.int (0+(k:Int))]);have et1:=Ab (H:=HW) (a:=t1) (o:=.tup [.int (0+(i:Int)),.int (0+(j:Int)),.int (0+(k:Int))]);generalize upd HW t1 (.tup [.int (0+(i:Int)),.int (0+(j:Int)),.int (0+(k:Int))])=HA at k1 et1;have hSA:=k1 _ _ hS;have hKA:=k1 _ _ hK;refine⟨lS,_,_,rq,rq,hSA,Bc (by omega),?_⟩;have nSt:∀zs,HA lS≠some (.tup zs):=λzs z=>by rw[hSA] at z;cases z
     have tB:=Ak.upd (o:=.lst (xs++[.ref t1])) nSt;have eSB:=Ab (H:=HA) (a:=lS) (o:=.lst (xs++[.ref t1]));have sB:Ag lS HA (upd HA lS (.lst (xs++[.ref t1]))):=Ag.upd;generalize upd HA lS (.lst (xs++[.ref t1]))=HB at tB eSB sB;have hKB:=sB _ _ hKA nSK.symm;have swB:=(sw.trans k1).Df sB fS;refine⟨_,rq,.inl ⟨rq,_,SqL.of hKB⟩,_,rq,_,rq,(by show 2<=sizeLine;decide),λt2 ht2=>⟨(by show 1<=sizeLine;decide),λt3 ht3=>?_⟩⟩;have k2:=Ad ht2 (.tup [.str p.kind,.int p.addr]);have k3:=Ad ht3 (.tup [.ref t2]);refine⟨_,rq,t3,up_,_,_,rq,rq,Ab,k3 _ _ (k2 _ _ (swB _ _ hup)),Al (by show 1+wsp.length<=1000;omega),λp4 H4 hp4 k4=>?_⟩;have k24:=k2.trans (k3.trans k4);have pd:Paired (Fd H4) ([V.ref t2]++wsp) (CG p):=.cons ⟨t2,rq,k4 _ _ (k3 _ _ Ab)⟩ (Paired.Bh hsp λ_ _ z=>z.tups (Ak.of (swB.trans k24)));have hlt:k < ([V.ref t2]++wsp).length:=by rw[QaL];show k < 1+wsp.length;omega
     have hgk:([V.ref t2]++wsp)[k]?=some ([V.ref t2]++wsp)[k]:=Qai hlt;obtain⟨dv,_,td,etd,htd⟩:=Paired.Ca pd hgk;rw[etd] at hgk;refine⟨_,rq,p4,_,_,_,rq,rq,SqT.of hp4,(by rw[QbU];exact Az hgk),td,_,_,_,rq,rq,SqT.of htd,rq,lK,_,_,rq,rq,k24 _ _ hKB,Bc (by rw[Qbt];omega),?_⟩;have nKt:∀zs,H4 lK≠some (.tup zs):=λzs z=>by rw[k24 _ _ hKB] at z;cases z
     have tC:=Ak.upd (o:=.lst (ns.map V.int++[.int dv.addr])) nKt;refine⟨xs++[.ref t1],ns++[dv.addr],sp++[(i,j,k)],_,rq,(swB.trans k24).Df Ag.upd fK,?_,?_,λd hdm=>?_,?_,?_,?_⟩
     ·rw[Aw nSK];exact k24 _ _ eSB
     ·refine Qcb ⟨t1,rq,?_⟩ (Paired.Bh pS λ_ _ z=>((((z.tups (Ak.of k1)).tups tB).tups (Ak.of k24)).tups tC));have:=tC _ _ (k24 _ _ (tB _ _ et1));rw[QbU,QbU,QbU] at this;exact this
     ·rcases Qbu.mp hdm with z | z
      ·exact oS d z
      ·have:d=(i,j,k):=by simpa using z
       rw[this];exact⟨ps,p,hpi,hpj,ck,by show k<=_;omega⟩
     ·rw[Ab,Qbw];rfl
     ·rw[QaL];show ns.length+1=_;omega
     ·rw[QaL,QaL];show xs.length+1=ns.length+1;omega
    ·obtain⟨xs,ns,sp,u9,rfl,sw,hS,pS,oS,hK,lK1,lX1⟩:=h;refine⟨xs,ns,sp,_,_,_,_,_,rq,sw,hS,pS,oS,hK,?_,lX1⟩;rw[etp,QaL,e0];omega
  ·obtain⟨xs,ns,sp,u5,u6,u7,u8,u9,rfl,sj,hS,pS,oS,hK,lK1,lX1⟩:=h;refine⟨xs,ns,sp,_,_,_,_,_,_,rq,sj,hS,pS,oS,hK,?_,lX1⟩;rw[lvs,Qbl] at lK1;rw[ets,QaL];exact lK1
 obtain⟨xs,ns,sp,u4,u5,u6,u7,u8,u9,rfl,sm,hS,pS,oS,hK,lK1,lX1⟩:=h;rw[lw,Qbl] at lK1;have fY:=Zz hd;have Wg:(CJ ja).length<=144:=by
  have:=Iz ok.ok;omega
 have hbA:=hb.same sm;have nbS:b≠lS:=hb.nb fS;have nbK:b≠lK:=hb.nb fK;refine⟨_,rq,_,rq,_,rq,lS,_,rq,.inl (SqL.of hS),b,n,_,rq,hbA,by omega,by omega,by omega,λr1 H2 r10 r11 hb2 sb2=>?_⟩;obtain⟨a1,ha1⟩ : ∃k:Nat,r1=k:=⟨r1.toNat,by omega⟩;subst ha1;have hxa:xs[a1]?=some xs[a1]:=Qai (by omega);obtain⟨dd,hda,ut,eut,hut⟩:=Paired.Ca pS hxa;rw[eut] at hxa;obtain⟨ps,p,hpi,hpj,ck,hwy⟩:=oS dd (QaA hda);obtain⟨i,j,wy⟩:=dd;dsimp only at hpi hpj hwy hut;have nt2:=hbA.BZ;have tu2:=sb2.tup hbA.BZ;refine⟨lS,_,_,_,rq,rq,SqL.of (sb2 _ _ hS nbS.symm),Az hxa,ut,_,rq,SqT.of (tu2 _ _ hut),rq,_,_,rq,_,_,rq,_,_,rq,rq,?_⟩;have hK2:=sb2 _ _ hK nbK.symm;refine⟨_,rq,_,rq,_,rq,lK,_,rq,.inl (SqL.of hK2),b,n+1,_,rq,hb2,by omega,by rw[Qbt];omega,by rw[Qbt];omega,λr2 H3 r20 r21 hb3 sb3=>?_⟩;rw[Qbt] at r21;obtain⟨a2,ha2⟩ : ∃k:Nat,r2=k:=⟨r2.toNat,by omega⟩;subst ha2;have a2l:a2 < ns.length:=by omega
 have hka:(ns.map V.int)[a2]?=some (.int ns[a2]):=by rw[Qba,Qai a2l];rfl
 refine⟨lK,_,_,_,rq,rq,SqL.of (sb3 _ _ hK2 nbK.symm),Az hka,_,rq,b,n+2,99,rq,hb3,by omega,by decide,by decide,λr3 H4 r30 r31 hb4 sb4=>⟨_,_,rq,rq,(by show 2<=sizeLine;decide),λl5 hl5=>?_⟩⟩;have k5:=Ad hl5 (.lst [.int ns[a2],.int (1+r3)]);refine⟨_,rq,b,n+3,4,rq,hb4.same k5,by omega,by decide,by decide,λr4 H6 r40 r41 hb6 sb6=>?_⟩;obtain⟨v,hv⟩:=at2 ns[a2] (1+r3) (decide (V.int r4=V.int 0));refine⟨rq,.inr ⟨_,rq,l5,_,_,_,rq,rq,SqL.of (sb6 _ _ Ab (hb4.nb hl5).symm),hv,?_⟩⟩;have s26:Ag b HH H6:=sb2.trans (sb3.trans (sb4.trans ((Ag.of k5).trans sb6)));have t26:Ak H H6:=(Ak.of sm).trans (s26.tup hbA.BZ);clear hv;have hil:=(Qaf.mp hpi).1;have hwi:ws[i]?=some ws[i]:=Qai (by omega);obtain⟨ps0,Zo,t,vs',ev,ht,hps⟩:=Paired.Ca f3 hwi;rw[hpi] at Zo;cases Zo;rw[ev] at hwi;have okl:=ok.ok ps (QaA hpi);have h12:=okl.hi;have lvs:=QbK hps;have hjl:=(Qaf.mp hpj).1;have hvj:vs'[j]?=some vs'[j]:=Qai (by omega);obtain⟨p0,Zn,tp,up_,wsp,evp,htp,hup,hsp⟩:=Paired.Ca hps hvj;rw[hpj] at Zn;cases Zn;rw[evp] at hvj;have okp:=okl.ok p (QaA hpj);have lsp:=QbK hsp;have ls3:=okp.spur;have hkd:Gd p.kind:=by
  rcases okp.form with⟨e1,_⟩| h
  ·exact absurd (by rw[e1]) ck
  ·exact h
 refine⟨_,rq,_,rq,Ls,_,_,_,rq,rq,SqT.of (t26 _ _ f2),Az hwi,_,rq,t,_,_,_,rq,rq,SqT.of (t26 _ _ ht),Az hvj,tp,_,rq,SqT.of (t26 _ _ htp),rq,_,_,rq,_,_,rq,_,_,rq,rq,?_⟩;refine⟨_,rq,rq,_,rq,?_⟩;by_cases hw0:wy=0
 ·rw[QbH (show V.int (wy:Int)=V.int 0 by rw[hw0];rfl)];refine Ei ⟨_,rq,_,rq,_,rq,(by show 3<=sizeLine;decide),λt7 ht7=>?_⟩;have k7:=Ad ht7 (.tup [.str p.kind,.int v,.ref up_]);have tH:=t26.trans (Ak.of k7);have sH:=s26.trans (Ag.of k7);have bH:=hb6.same k7;have e7:=Ab (H:=H6) (a:=t7) (o:=.tup [.str p.kind,.int v,.ref up_]);generalize upd H6 t7 (.tup [.str p.kind,.int v,.ref up_])=Ht at k7 tH sH bH e7;obtain⟨p',ep'⟩ : ∃p':Place,p'=⟨p.kind,v,p.spur⟩:=⟨_,rfl⟩;have pl':Cz Ht (.ref t7) p':=by rw[ep'];exact⟨t7,up_,wsp,rq,e7,tH _ _ hup,Paired.Bh hsp λ_ _ z=>z.tups tH⟩
  have V0:OkP p':=by rw[ep'];exact⟨okp.spur,okp.kinds,.inr hkd⟩
  have nk':¬V.str p'.kind=V.str "opener":=by rw[ep'];exact ck
  clear ep';have f2t:=tH _ _ f2;have htt:=tH _ _ ht;have hKt:=sH _ _ hK nbK.symm;refine⟨_,rq,_,rq,Ls,_,_,_,rq,rq,SqT.of f2t,Az hwi,_,rq,_,rq,t,_,rq,htt,λp1 K1 hp1 c1=>⟨_,rq,(by show 1<=sizeLine;decide),λp2 hp2=>?_⟩⟩;have c2:=Ad hp2 (.tup [.ref t7]);rw[Eo (by omega)] at hp1;refine⟨p1,p2,_,_,rq,rq,c2 _ _ hp1,Ab,Al (by rw[Qbk];show _+1<=1000;omega),λp3 K3 hp3 c3=>?_⟩;have c13:=c1.trans (c2.trans c3);refine⟨_,rq,_,rq,Ls,_,_,_,rq,rq,SqT.of (c13 _ _ f2t),Az hwi,_,rq,_,_,rq,rq,_,rq,t,_,rq,c13 _ _ htt,λp4 K4 hp4 c4=>?_⟩;rw[show ((j:Int)+1)=((j+1:Nat):Int) by omega,Dt (by omega)] at hp4;refine⟨p3,p4,_,_,rq,rq,c4 _ _ hp3,hp4,Al (by rw[QaL,Qbk,Qbn];show _+1+_<=1000;omega),λp5 K5 hp5 c5=>?_⟩;have c15:=c13.trans (c4.trans c5);have lp':LoopAt K5 (.ref p5) (swp ps j p'):=⟨p5,_,rq,hp5,Ea (Paired.Bh hps λ_ _ z=>(z.tups tH).tups (Ak.of c15)) j (pl'.tups (Ak.of c15))⟩;refine⟨_,rq,_,rq,_,rq,Ls,_,rq,c15 _ _ f2t,λp6 K6 hp6 c6=>⟨_,rq,(by show 1<=sizeLine;decide),λp7 hp7=>?_⟩⟩;have c7:=Ad hp7 (.tup [.ref p5]);rw[Eo (by omega)] at hp6;refine⟨p6,p7,_,_,rq,rq,c7 _ _ hp6,Ab,Al (by rw[Qbk];show _+1<=1000;omega),λp8 K8 hp8 c8=>?_⟩;have c18:=c15.trans (c6.trans (c7.trans c8));refine⟨_,rq,_,rq,_,_,rq,rq,_,rq,Ls,_,rq,c18 _ _ f2t,λp9 K9 hp9 c9=>?_⟩;rw[show ((i:Int)+1)=((i+1:Nat):Int) by omega,Dt (by omega)] at hp9;refine⟨p8,p9,_,_,rq,rq,c9 _ _ hp8,hp9,Al (by rw[QaL,Qbk,Qbn];show _+1+_<=1000;omega),λpA KA hpA cA=>?_⟩;have c1A:=c18.trans (c9.trans cA);refine⟨_,rq,(by show 2<=sizeLine;decide),λt11 Wo=>?_⟩;have cB:=Ad Wo (.tup [.ref pA,.ref lK]);have c1B:=c1A.trans cB;have c6B:=((c6.trans (c7.trans c8)).trans (c9.trans cA)).trans cB;refine q t11 pA lK _ (swp ja i (swp ps j p')) ns _ Ab (cB _ _ hpA) (Ea (Paired.Bh f3 λ_ _ z=>(z.tups tH).tups (Ak.of c1B)) i (lp'.tups (Ak.of c6B))) ⟨λy hy=>?_,by rw[DQ hil];exact l3⟩ ⟨_,Li,_,Li,nk'⟩ (c1B _ _ hKt) fK (by omega) (by omega) (bH.same c1B) (((Ag.of sm).trans sH).trans (Ag.of c1B));rcases Et hy with z | z
  ·exact ok.ok y z
  ·rw[z];refine⟨by rw[DQ hjl];exact okl.lo,by rw[DQ hjl];exact okl.hi,λx hx=>?_⟩;rcases Et hx with z | z
   ·exact okl.ok x z
   ·rw[z];exact V0
 ·rw[Qbx (show ¬V.int (wy:Int)=V.int 0 from λe=>hw0 (by injection e with e;omega))]
  obtain⟨w0,rfl⟩ : ∃w0,wy=w0+1:=⟨wy - 1,by omega⟩;have ew:(((w0+1:Nat):Int) - 1)=(w0:Int):=by omega
  have hsw:wsp[w0]?=some wsp[w0]:=Qai (by omega);obtain⟨dv,hdv,td,etd,htd⟩:=Paired.Ca hsp hsw;rw[etd] at hsw;have hwl:=(Qaf.mp hdv).1;refine Ec ⟨_,rq,_,rq,_,rq,_,rq,_,_,rq,rq,_,rq,up_,_,rq,t26 _ _ hup,λq1 J1 hq1 d1=>?_⟩;rw[ew,Eo (by omega)] at hq1;refine⟨_,rq,_,rq,_,_,rq,rq,up_,_,_,_,rq,rq,SqT.of (d1 _ _ (t26 _ _ hup)),(by rw[ew];exact Az hsw),td,_,_,_,rq,rq,SqT.of (d1 _ _ (t26 _ _ htd)),rq,_,rq,(by show 2<=sizeLine;decide),λq2 hq2=>⟨(by show 1<=sizeLine;decide),λq3 hq3=>?_⟩⟩;have d2:=Ad hq2 (.tup [.str dv.kind,.int v]);have d3:=Ad hq3 (.tup [.ref q2]);refine⟨q1,q3,_,_,rq,rq,d3 _ _ (d2 _ _ hq1),Ab,Al (by rw[Qbk];show _+1<=1000;omega),λq4 J4 hq4 d4=>?_⟩;have d14:=d1.trans (d2.trans (d3.trans d4));refine⟨_,rq,_,rq,_,rq,up_,_,rq,d14 _ _ (t26 _ _ hup),λq5 J5 hq5 d5=>?_⟩;rw[Dt (by omega)] at hq5;refine⟨q4,q5,_,_,rq,rq,d5 _ _ hq4,hq5,Al (by rw[QaL,Qbk,Qbn];show _+1+_<=1000;omega),λq6 J6 hq6 d6=>⟨(by show 3<=sizeLine;decide),λt7 ht7=>?_⟩⟩;have d16:=d14.trans (d5.trans d6);have k7:=d16.trans (Ad ht7 (.tup [.str p.kind,.int p.addr,.ref q6]));have tH:=t26.trans (Ak.of k7);have sH:=s26.trans (Ag.of k7);have bH:=hb6.same k7;have e7:=Ab (H:=J6) (a:=t7) (o:=.tup [.str p.kind,.int p.addr,.ref q6]);have eq6:=Ad ht7 (.tup [.str p.kind,.int p.addr,.ref q6]) _ _ hq6;have eq2:=Ad ht7 (.tup [.str p.kind,.int p.addr,.ref q6]) _ _ (d6 _ _ (d5 _ _ (d4 _ _ (d3 _ _ (Ab (H:=J1) (a:=q2) (o:=.tup [.str dv.kind,.int v]))))));generalize upd J6 t7 (.tup [.str p.kind,.int p.addr,.ref q6])=Ht at k7 tH sH bH e7 eq6 eq2;obtain⟨p',ep'⟩ : ∃p':Place,p'=⟨p.kind,p.addr,swp p.spur w0 ⟨dv.kind,v⟩⟩:=⟨_,rfl⟩;have pl':Cz Ht (.ref t7) p':=by rw[ep'];exact⟨t7,q6,_,rq,e7,eq6,Ea (Paired.Bh hsp λ_ _ z=>z.tups tH) w0 ⟨q2,rq,eq2⟩⟩
  have V0:OkP p':=by
   rw[ep'];refine⟨by show (swp p.spur w0 _).length<=3;rw[DQ hwl];exact okp.spur,λd hd=>?_,.inr hkd⟩;rcases Et hd with z | z
   ·exact okp.kinds d z
   ·rw[z];exact okp.kinds dv (QaA hdv)
  have nk':¬V.str p'.kind=V.str "opener":=by rw[ep'];exact ck
  clear ep';have f2t:=tH _ _ f2;have htt:=tH _ _ ht;have hKt:=sH _ _ hK nbK.symm;refine⟨_,rq,_,rq,Ls,_,_,_,rq,rq,SqT.of f2t,Az hwi,_,rq,_,rq,t,_,rq,htt,λp1 K1 hp1 c1=>⟨_,rq,(by show 1<=sizeLine;decide),λp2 hp2=>?_⟩⟩;have c2:=Ad hp2 (.tup [.ref t7]);rw[Eo (by omega)] at hp1;refine⟨p1,p2,_,_,rq,rq,c2 _ _ hp1,Ab,Al (by rw[Qbk];show _+1<=1000;omega),λp3 K3 hp3 c3=>?_⟩;have c13:=c1.trans (c2.trans c3);refine⟨_,rq,_,rq,Ls,_,_,_,rq,rq,SqT.of (c13 _ _ f2t),Az hwi,_,rq,_,_,rq,rq,_,rq,t,_,rq,c13 _ _ htt,λp4 K4 hp4 c4=>?_⟩;rw[show ((j:Int)+1)=((j+1:Nat):Int) by omega,Dt (by omega)] at hp4;refine⟨p3,p4,_,_,rq,rq,c4 _ _ hp3,hp4,Al (by rw[QaL,Qbk,Qbn];show _+1+_<=1000;omega),λp5 K5 hp5 c5=>?_⟩;have c15:=c13.trans (c4.trans c5);have lp':LoopAt K5 (.ref p5) (swp ps j p'):=⟨p5,_,rq,hp5,Ea (Paired.Bh hps λ_ _ z=>(z.tups tH).tups (Ak.of c15)) j (pl'.tups (Ak.of c15))⟩;refine⟨_,rq,_,rq,_,rq,Ls,_,rq,c15 _ _ f2t,λp6 K6 hp6 c6=>⟨_,rq,(by show 1<=sizeLine;decide),λp7 hp7=>?_⟩⟩;have c7:=Ad hp7 (.tup [.ref p5]);rw[Eo (by omega)] at hp6;refine⟨p6,p7,_,_,rq,rq,c7 _ _ hp6,Ab,Al (by rw[Qbk];show _+1<=1000;omega),λp8 K8 hp8 c8=>?_⟩;have c18:=c15.trans (c6.trans (c7.trans c8));refine⟨_,rq,_,rq,_,_,rq,rq,_,rq,Ls,_,rq,c18 _ _ f2t,λp9 K9 hp9 c9=>?_⟩;rw[show ((i:Int)+1)=((i+1:Nat):Int) by omega,Dt (by omega)] at hp9;refine⟨p8,p9,_,_,rq,rq,c9 _ _ hp8,hp9,Al (by rw[QaL,Qbk,Qbn];show _+1+_<=1000;omega),λpA KA hpA cA=>?_⟩;have c1A:=c18.trans (c9.trans cA);refine⟨_,rq,(by show 2<=sizeLine;decide),λt11 Wo=>?_⟩;have cB:=Ad Wo (.tup [.ref pA,.ref lK]);have c1B:=c1A.trans cB;have c6B:=((c6.trans (c7.trans c8)).trans (c9.trans cA)).trans cB;refine q t11 pA lK _ (swp ja i (swp ps j p')) ns _ Ab (cB _ _ hpA) (Ea (Paired.Bh f3 λ_ _ z=>(z.tups tH).tups (Ak.of c1B)) i (lp'.tups (Ak.of c6B))) ⟨λy hy=>?_,by rw[DQ hil];exact l3⟩ ⟨_,Li,_,Li,nk'⟩ (c1B _ _ hKt) fK (by omega) (by omega) (bH.same c1B) (((Ag.of sm).trans sH).trans (Ag.of c1B));rcases Et hy with z | z
  ·exact ok.ok y z
  ·rw[z];refine⟨by rw[DQ hjl];exact okl.lo,by rw[DQ hjl];exact okl.hi,λx hx=>?_⟩;rcases Et hx with z | z
   ·exact okl.ok x z
   ·rw[z];exact V0
end
abbrev Jb:Stmt:=top 20
abbrev Ga:YF:=["_law_bag_here","_law_plan_here"]
theorem Bp:Bx ["_law_bag_here","_law_plan_here","_law_most","_law_loops","_law_zones","_law_known","_law_again","_law_at","_law_more","_law_other","_law_addresses"] Ga (Ao Jb):=by ac_rfl
structure ZnC (z:Zone):Prop where
 nm:(1<=z.name.length/\z.name.length<=8)/\okS z.name
 up:z.adr.Pairwise (· < ·)/\1<=z.adr.length/\z.adr.length<=30
def W8:Sp:=λvs H Q _=>∃(b pl:Addr) (n:Nat) (most:Int) (ja:YU) (jc:List Zone),vs=[.ref b,.ref pl]/\Bj H b n/\n<=4000/\DN H pl most ja jc/\Iu ja/\(∀z∈jc,ZnC z) /\
 ∀t aH G8 Hz H',DN H' t aH G8 Hz->(∀z∈Hz,ZnC z)->Bj H' b (n+100)->Ag b H H'->Q (.ref t) H'
section
variable {P:Program} {w:World} {K:YD} {mg:YB} {base:Heap} {op oe wk:Addr}
theorem QD (C:Code K mg "_law_spoilt" Jb Ga) (T:Ty K mg op oe wk) (Ax:Good P w K mg base "_law_take" 1 Eb Ia) (Ml:Good P w K mg base "_law_readdressed" 2 Dz Yu):Good P w K mg base "_law_spoilt" 3 Ga W8:=by
 have sc:=Bp;refine C.good Bp (λvs H Q E h=>?_) (λf cdv A outer s H vs Q E hr h=>?_)
 ·obtain⟨b,pl,n,most,ja,jc,rfl,_⟩:=h;rfl
 obtain⟨b,pl,n,most,ja,jc,rfl,hb,hn,pa,hd,zc,q⟩:=h;refine⟨_,(Af (Ez (pv 1) (Ck rfl (Aj (Ah (i:=2) Bp.nd rfl (Or.inl rfl)) (Aj (Ah (i:=3) Bp.nd rfl (Or.inl rfl)) (Aj (Ah (i:=4) Bp.nd rfl (Or.inl rfl)) Bu)))))
 (Af (Av (i:=5) Bp.nd rfl (Or.inl rfl) (Cg (Aa (Aq BW Ae (Bg Ax hr (Aa (pv 0) (Aa Ae Ac)))) Ac)))
 (Af (Bo Qbv rfl (BR rfl T.range (Aa (Bg Ax hr (Aa (pv 0) (Aa Ae Ac))) Ac)) (Ah (i:=6) Bp.nd rfl (Or.inl rfl))
 (Ai (Ez (Bg Ml hr (Aa (pv 0) (Aa (pv 3) Ac))) (Ck rfl (Aj (Ah (i:=3) Bp.nd rfl (Or.inl rfl)) (Aj (Ah (i:=5) Bp.nd rfl (Or.inl rfl)) Bu))))))
 (Af (Cq (Bl Ho (Bg Ax hr (Aa (pv 0) (Aa Ae Ac))) Ae (Ci _)) (Ai (Av (i:=2) Bp.nd rfl (Or.inl rfl) (Bf (Og rfl) rfl T.max Mv (Aa Ae (Aa (Aq Ly (pv 2) (Bg Ax hr (Aa (pv 0) (Aa Ae Ac)))) Ac))))) BK)
 (Af (Bo Qbv rfl (BR rfl T.range (Aa (Bg Ax hr (Aa (pv 0) (Aa Ae Ac))) Ac)) (Ah (i:=6) Bp.nd rfl (Or.inl rfl))
 (Ai (Cq (Bl Kd (Bf Ba rfl T.len Cm (Aa (pv 4) Ac)) Ae (Ci _)) (Af (Av (i:=7) Bp.nd rfl (Or.inl rfl) (Bg Ax hr (Aa (pv 0) (Aa (Bf Ba rfl T.len Cm (Aa (pv 4) Ac)) Ac))))
 (Af (Av (i:=8) Bp.nd rfl (Or.inl rfl) (Bb BP (pv 5) (Bg Ax hr (Aa (pv 0) (Aa (Bf Ba rfl T.len Cm (Aa (pv 5) Ac)) Ac))) (λ_ _=>rfl)))
 (Af (Cq (Bl Ho (Bg Ax hr (Aa (pv 0) (Aa Ae Ac))) Ae (Ci _)) (Af (Av (i:=9) Bp.nd rfl (Or.inl rfl) (Bb Br (Bb Br (pv 4) (Bg Ax hr (Aa (pv 0) (Aa (Bf Ba rfl T.len Cm (Aa (pv 4) Ac)) Ac))) (λ_ _=>rfl)) Ae (λ_ _=>rfl)))
 (Ai (Av (i:=8) Bp.nd rfl (Or.inl rfl) (Bb Br (pv 9) (Bg Ax hr (Aa (pv 0) (Aa (Bf Ba rfl T.len Cm (Aa (pv 9) Ac)) Ac))) (λ_ _=>rfl))))) BK)
 (Ai (Cq (Bl SJ (Bf Ba rfl T.len Cm (Aa (Bb Br (Bb Br (pv 4) (pv 7) (λ_ _=>rfl)) Ae (λ_ _=>rfl)) Ac)) Ae (Ci _)) (Af (Av (i:=10) Bp.nd rfl (Or.inl rfl) (Dq Dw rfl T.tuple Gj (Aa (Sx rfl rfl T.sorted rfl T.set (Aa (Aq Cw (Bb Br (Bb Br (pv 4) (pv 7) (λ_ _=>rfl)) Ae (λ_ _=>rfl)) (Bd (Aa (pv 8) Ac))) Ac)) Ac)))
 (Ai (Av (i:=4) Bp.nd rfl (Or.inl rfl) (Aq Cw (Aq Cw (CP Ed (pv 4) Dh (Dg (pv 7))) (Bd (Aa (Bd (Aa (Bb Br (Bb Br (pv 4) (pv 7) (λ_ _=>rfl)) Ae (λ_ _=>rfl)) (Aa (pv 10) Ac))) Ac))) (CP Ed (pv 4) (Dg (Aq BW (pv 7) Ae)) Dh))))) BK))))) BK)))
 (Ai (Bs (Bd (Aa (pv 2) (Aa (pv 3) (Aa (pv 4) Ac))))))))))),?_⟩
 show let R0:TS:=_;let R1:TS:=_;let R2:TS:=Am _ R1;let R3:TS:=Dr _ R2 _;let R4:TS:=_;let R5:TS:=Am _ R4;let R6:TS:=Am (Dr _ R5 _) R3;let R7:TS:=Am _ R6;let R8:TS:=Am _ R7;let R9:TS:=Dr _ R8 _;let R10:TS:=Am (Cd _ _ R9) R0;let R11:TS:=_;let R12:TS:=Am (Dr _ R11 _) R10;let R13:TS:=_;let R14:TS:=Am (Cd _ _ R13) R12;let R15:TS:=Am _ R14;Am _ R15 _ _ _;intro R0 R1 R2 R3 R4 R5 R6 R7 R8 R9 R10 R11 R12 R13 R14 R15;obtain⟨Ls,zs,ws,zvs,f1,f2,f3,f4,f5⟩:=pa.at_;have c8:=pa.z8;refine⟨_,rq,pl,_,rq,SqT.of f1,rq,_,_,rq,_,_,rq,_,_,rq,rq,?_⟩;refine⟨_,rq,b,n,99,rq,hb,by omega,by decide,by decide,λr1 H1 r10 r11 hb1 sb1=>⟨_,_,rq,rq,(by show 1<=sizeLine;decide),λlk hlk=>?_⟩⟩;have k1:=Ad hlk (.lst [.int (1+r1)]);have nbk:b≠lk:=hb1.nb hlk;refine⟨_,rq,b,n+1,3,rq,hb1.same k1,by omega,by decide,by decide,λr2 H2 r20 r21 hb2 sb2=>⟨_,rq,by omega,by omega,?_⟩⟩;have s02:Ag b H H2:=sb1.trans ((Ag.of k1).trans sb2);have t02:Ak H H2:=s02.tup hb.BZ;let J0:YN:=λi O HH=>∃(Ls:Addr) (ws:YG) (ja:YU) (kn:Addr) (ns:List Int) (u6:Option V),O=[jd b,jd pl,some (.int most),jd Ls,jd zs,jd kn,u6,none,none,none,none]/\HH Ls=some (.tup ws)/\Paired (LoopAt HH) ws ja/\JQ ja/\Iu ja/\HH kn=some (.lst (ns.map V.int))/\b≠kn/\1<=ns.length/\ns.length<=144/\Bj HH b (n+2+4*i)/\Ag b H HH;refine Cj J0
  ⟨Ls,ws,ja,lk,[1+r1],_,rq,t02 _ _ f2,Paired.Bh f3 λ_ _ z=>z.tups t02,pa.ok,hd,sb2 _ _ Ab nbk.symm,nbk,QbZ _,(by show 1<=144;decide),hb2,s02⟩ (λi O HH hi h=>?_) (fun O HH h=>?_)
 ·obtain⟨Ls,ws,ja,kn,ns,u6,rfl,g1,g2,g3,g4,g5,g6,g7,g8,g9,g10⟩:=h;have hi2:i < 3:=by omega
  refine⟨_,rq,_,rq,b,Ls,_,ws,ja,rq,g9,by omega,g1,g2,g3,g4,λt Ls' kn' ws' G8 ns' H' e1 e2 e3 e4 e5 e6 e7 e8 e9 e10 e11=>?_⟩;refine⟨t,_,rq,SqT.of e1,rq,_,_,rq,_,_,rq,rq,?_⟩;exact⟨Ls',ws',G8,kn',ns',_,rq,e2,e3,e4,e5,e6,g9.nb e7,e8,e9,e10.mono (by omega),g10.trans e11⟩
 clear f2 f3 hd;obtain⟨Ls,ws,ja,kn,ns,u6,rfl,f2,f3,okL,hd,hkn,nbn,ns1,fM,hb3,s03⟩:=h;have hb3:=hb3.mono (m:=n+20) (by omega);refine⟨_,rq,b,_,3,rq,hb3,by omega,by decide,by decide,λr3 H3 r30 r31 hb4 sb4=>⟨rq,_,rq,G9 (λ_=>?_) (λ_=>?_)⟩⟩
 ·refine⟨_,rq,_,rq,b,_,6,rq,hb4,by omega,by decide,by decide,λr4 H4 r40 r41 hb5 sb5=>⟨_,_,rq,rq,_,_,rq,?_⟩⟩;generalize (if most - r4 > 1 then most - r4 else 1)=mo
  have sX:Ag b HH H4:=sb4.trans sb5;have hbX:=hb5;have sHX:Ag b H H4:=s03.trans sX;have tHX:Ak H H4:=sHX.tup hb.BZ;have tX:Ak HH H4:=sX.tup hb3.BZ;have hkX:=sX _ _ hkn nbn.symm;refine⟨_,rq,b,_,4,rq,hbX,by omega,by decide,by decide,λr5 H5 r50 r51 hb6 sb6=>⟨_,rq,by omega,by omega,?_⟩⟩;have hb6:=hb6.mono (m:=n+24) (by omega);have tX5:Ak H4 H5:=sb6.tup hbX.BZ;have t5:=tHX.trans tX5;let J1:YN:=λi O HI=>∃(zs:Addr) (zvs:YG) (jc:List Zone) (u6 u7 u8 u9 u10:Option V),O=[jd b,jd pl,some (.int mo),jd Ls,jd zs,jd kn,u6,u7,u8,u9,u10]/\HI zs=some (.tup zvs)/\Paired (EY HI) zvs jc/\jc.length<=8/\(∀z∈jc,ZnC z)/\Bj HI b (n+24+5*i)/\Ag b H5 HI;refine Cj J1
   ⟨zs,zvs,jc,_,_,_,_,_,rq,t5 _ _ f4,Paired.Bh f5 λ_ _ z=>z.tups t5,c8,zc,hb6,Ag.refl b H5⟩ (λi O HI hi h=>?_) (fun O HI h=>?_)
  ·obtain⟨zs,zvs,jc,u6,u7,u8,u9,u10,rfl,g1,g2,g3,g4,g5,g6⟩:=h;have hi2:i < 4:=by omega
   have zl:=QbK g2;have hkI:=g6 _ _ (sb6 _ _ hkX nbn.symm) nbn.symm;refine⟨_,rq,zs,_,rq,.inr (SqT.of g1),_,_,rq,rq,_,rq,G9 (λhc=>?_) (λhc=>?_)⟩
   ·have hc:(0:Int) < (zvs.length:Int):=Qbg hc;refine⟨_,rq,_,rq,zs,_,rq,.inr (SqT.of g1),b,_,_,rq,g5,by omega,hc,by omega,λr6 I1 r60 r61 b1 v1=>?_⟩;obtain⟨at_,eat⟩ : ∃k:Nat,r6=k:=⟨r6.toNat,by omega⟩;subst eat;have atl:at_ < zvs.length:=by omega
    have hva:zvs[at_]?=some zvs[at_]:=Qai atl;obtain⟨z,hza,tz,uz,etz,h1,h2⟩:=Paired.Ca g2 hva;rw[etz] at hva;have zcz:=g4 z (QaA hza);have w1:Ak HI I1:=v1.tup g5.BZ;refine⟨_,rq,_,rq,_,rq,kn,_,rq,.inl (SqL.of (v1 _ _ hkI nbn.symm)),b,_,_,rq,b1,by omega,by rw[Qbt];omega,by rw[Qbt];omega,λr7 I2 r70 r71 b2 v2=>?_⟩;rw[Qbt] at r71;obtain⟨a7,ea7⟩ : ∃k:Nat,r7=k:=⟨r7.toNat,by omega⟩;subst ea7;have a7l:a7 < ns.length:=by omega
    have hka:(ns.map V.int)[a7]?=some (.int ns[a7]):=by rw[Qba,Qai a7l];rfl
    have v12:=v1.trans v2;refine⟨kn,_,_,_,rq,rq,SqL.of (v12 _ _ hkI nbn.symm),Az hka,?_⟩;refine⟨_,rq,b,_,2,rq,b2,by omega,by decide,by decide,λr8 I3 r80 r81 b3 v3=>⟨rq,_,rq,G9 (λ_=>?_) (λ_=>?_)⟩⟩
    ·have v13:=v12.trans v3;have w3:Ak HI I3:=v13.tup g5.BZ;refine⟨_,rq,_,rq,_,rq,zs,_,rq,.inr (SqT.of (w3 _ _ g1)),b,_,_,rq,b3,by omega,hc,by omega,λr9 I4 r90 r91 b4 v4=>?_⟩;obtain⟨a9,ea9⟩ : ∃k:Nat,r9=k:=⟨r9.toNat,by omega⟩;subst ea9;have a9l:a9 < zvs.length:=by omega
     have hv9:zvs[a9]?=some zvs[a9]:=Qai a9l;obtain⟨z9,hz9,tz9,uz9,Wx,h19,h29⟩:=Paired.Ca g2 hv9;rw[Wx] at hv9;have zc9:=g4 z9 (QaA hz9);have v14:=v13.trans v4;have w4:Ak HI I4:=v14.tup g5.BZ;refine⟨zs,_,_,_,rq,rq,SqT.of (w4 _ _ g1),Az hv9,tz9,_,_,_,rq,rq,SqT.of (w4 _ _ h19),rq,?_⟩;have z9a:=zc9.up.2.1;have z9b:=zc9.up.2.2;refine⟨_,rq,_,rq,_,rq,uz9,_,rq,.inr (SqT.of (w4 _ _ h29)),b,_,_,rq,b4,by omega,by rw[Qbt];omega,by rw[Qbt];omega,λrA I5 rA0 rA1 b5 v5=>?_⟩;rw[Qbt] at rA1;obtain⟨aA,eaA⟩ : ∃k:Nat,rA=k:=⟨rA.toNat,by omega⟩;subst eaA;have aAl:aA < z9.adr.length:=by omega
     have hkA:(z9.adr.map V.int)[aA]?=some (.int z9.adr[aA]):=by rw[Qba,Qai aAl];rfl
     have vN:=v14.trans v5;have wN:Ak HI I5:=vN.tup g5.BZ;refine⟨uz9,_,_,_,rq,rq,SqT.of (wN _ _ h29),Az hkA,?_⟩;generalize z9.adr[aA]=mv;have bN:=b5;have g1N:=wN _ _ g1;have h1N:=wN _ _ h1;have h2N:=wN _ _ h2;refine⟨_,rq,_,rq,zs,_,_,_,rq,rq,SqT.of g1N,Az hva,tz,_,_,_,rq,rq,SqT.of h1N,rq,uz,_,rq,.inr (SqT.of h2N),_,_,rq,rq,_,rq,G9 (λhl=>?_) (λhl=>?_)⟩
     ·have hl:((z.adr.map V.int).length:Int) < 30:=Qbg hl;rw[Qbt] at hl;refine⟨_,rq,_,rq,zs,_,_,_,rq,rq,SqT.of g1N,Az hva,tz,_,_,_,rq,rq,SqT.of h1N,rq,_,rq,(by show 1<=sizeLine;decide),λt1 ht1=>?_⟩;have c1:=Ad ht1 (.tup [.int mv]);refine⟨uz,t1,_,_,rq,rq,c1 _ _ h2N,Ab,Al (by rw[Qbt];show _+1<=1000;omega),λp2 J2 hp2 c2=>?_⟩;have hp2':J2 p2=some (.tup ((z.adr++[mv]).map V.int)):=by rw[hp2,Qbw];rfl
      refine⟨p2,z.adr++[mv],rq,.inr (SqT.of hp2'),by rw[QaL];show _+1 < 64;omega,λms l3 hpw hmem hl3=>?_⟩;have c3:=Ad hl3 (.lst (ms.map V.int));refine⟨l3,_,rq,.inl ⟨SqL.of Ab,λl4 hl4=>?_⟩⟩;have c4:=Ad hl4 (.tup (ms.map V.int));have e4:=Ab (H:=upd J2 l3 (.lst (ms.map V.int))) (a:=l4) (o:=.tup (ms.map V.int));have c14:=c1.trans (c2.trans (c3.trans c4));generalize upd (upd J2 l3 (.lst (ms.map V.int))) l4 (.tup (ms.map V.int))=J4 at c4 e4 c14;have Je:ms.length<=30:=by
       have:=Gh (l:=ms) (m:=z.adr++[mv]) (hpw.imp λh=>by omega) λx hx=>(hmem x).mp hx;rw[QaL] at this;have:ms.length<=z.adr.length+1:=this;omega
      have ms1:1<=ms.length:=Qau ((hmem mv).mpr (Qav _ (QaS.mpr rfl)));refine⟨_,rq,_,rq,_,rq,zs,_,rq,c14 _ _ g1N,λp5 J5 hp5 c5=>?_⟩;rw[Eo (by omega)] at hp5;have c15:=c14.trans c5;refine⟨_,rq,_,rq,zs,_,_,_,rq,rq,SqT.of (c15 _ _ g1N),Az hva,tz,_,_,_,rq,rq,SqT.of (c15 _ _ h1N),rq,_,rq,(by show 2<=sizeLine;decide),λp6 hp6=>⟨(by show 1<=sizeLine;decide),λp7 hp7=>?_⟩⟩;have c6:=Ad hp6 (.tup [.str z.name,.ref l4]);have c7:=Ad hp7 (.tup [.ref p6]);refine⟨p5,p7,_,_,rq,rq,c7 _ _ (c6 _ _ hp5),Ab,Al (by rw[Qbk];show _+1<=1000;omega),λp8 J8 hp8 c8=>?_⟩;have c18:=c15.trans (c6.trans (c7.trans c8));refine⟨_,rq,_,rq,_,_,rq,rq,_,rq,zs,_,rq,c18 _ _ g1N,λp9 J9 hp9 c9=>?_⟩;rw[show ((at_:Int)+1)=((at_+1:Nat):Int) by omega,Dt (by omega)] at hp9;refine⟨p8,p9,_,_,rq,rq,c9 _ _ hp8,hp9,Al (by rw[QaL,Qbk,Qbn];show _+1+_<=1000;omega),λpA JA hpA cA=>?_⟩;have c1A:=c18.trans (c9.trans cA);have wA:Ak HI JA:=wN.trans (Ak.of c1A);have zl2:=(Qaf.mp hza).1;refine⟨pA,_,swp jc at_ ⟨z.name,ms⟩,_,_,_,_,_,rq,hpA,Ea (Paired.Bh g2 λ_ _ z=>z.tups wA) at_ ⟨p6,l4,rq,cA _ _ (c9 _ _ (c8 _ _ (c7 _ _ Ab))),cA _ _ (c9 _ _ (c8 _ _ (c7 _ _ (c6 _ _ (c5 _ _ e4)))))⟩,by rw[DQ zl2];exact g3,λy hy=>?_,(bN.same c1A).mono (by omega),g6.trans (vN.trans (Ag.of c1A))⟩;rcases Et hy with h | h
      ·exact g4 y h
      ·rw[h];exact⟨zcz.nm,hpw,ms1,Je⟩
     ·exact⟨zs,zvs,jc,_,_,_,_,_,rq,g1N,Paired.Bh g2 λ_ _ z=>z.tups wN,g3,g4,bN.mono (by omega),g6.trans vN⟩
    ·have vN:=v12.trans v3;have wN:Ak HI I3:=vN.tup g5.BZ;generalize ns[a7]=mv;have bN:=b3.mono (m:=n+24+5*i+1+1+1+1+1) (by omega);have g1N:=wN _ _ g1;have h1N:=wN _ _ h1;have h2N:=wN _ _ h2;refine⟨_,rq,_,rq,zs,_,_,_,rq,rq,SqT.of g1N,Az hva,tz,_,_,_,rq,rq,SqT.of h1N,rq,uz,_,rq,.inr (SqT.of h2N),_,_,rq,rq,_,rq,G9 (λhl=>?_) (λhl=>?_)⟩
     ·have hl:((z.adr.map V.int).length:Int) < 30:=Qbg hl;rw[Qbt] at hl;refine⟨_,rq,_,rq,zs,_,_,_,rq,rq,SqT.of g1N,Az hva,tz,_,_,_,rq,rq,SqT.of h1N,rq,_,rq,(by show 1<=sizeLine;decide),λt1 ht1=>?_⟩;have c1:=Ad ht1 (.tup [.int mv]);refine⟨uz,t1,_,_,rq,rq,c1 _ _ h2N,Ab,Al (by rw[Qbt];show _+1<=1000;omega),λp2 J2 hp2 c2=>?_⟩;have hp2':J2 p2=some (.tup ((z.adr++[mv]).map V.int)):=by rw[hp2,Qbw];rfl
      refine⟨p2,z.adr++[mv],rq,.inr (SqT.of hp2'),by rw[QaL];show _+1 < 64;omega,λms l3 hpw hmem hl3=>?_⟩;have c3:=Ad hl3 (.lst (ms.map V.int));refine⟨l3,_,rq,.inl ⟨SqL.of Ab,λl4 hl4=>?_⟩⟩;have c4:=Ad hl4 (.tup (ms.map V.int));have e4:=Ab (H:=upd J2 l3 (.lst (ms.map V.int))) (a:=l4) (o:=.tup (ms.map V.int));have c14:=c1.trans (c2.trans (c3.trans c4));generalize upd (upd J2 l3 (.lst (ms.map V.int))) l4 (.tup (ms.map V.int))=J4 at c4 e4 c14;have Je:ms.length<=30:=by
       have:=Gh (l:=ms) (m:=z.adr++[mv]) (hpw.imp λh=>by omega) λx hx=>(hmem x).mp hx;rw[QaL] at this;have:ms.length<=z.adr.length+1:=this;omega
      have ms1:1<=ms.length:=Qau ((hmem mv).mpr (Qav _ (QaS.mpr rfl)));refine⟨_,rq,_,rq,_,rq,zs,_,rq,c14 _ _ g1N,λp5 J5 hp5 c5=>?_⟩;rw[Eo (by omega)] at hp5;have c15:=c14.trans c5;refine⟨_,rq,_,rq,zs,_,_,_,rq,rq,SqT.of (c15 _ _ g1N),Az hva,tz,_,_,_,rq,rq,SqT.of (c15 _ _ h1N),rq,_,rq,(by show 2<=sizeLine;decide),λp6 hp6=>⟨(by show 1<=sizeLine;decide),λp7 hp7=>?_⟩⟩;have c6:=Ad hp6 (.tup [.str z.name,.ref l4]);have c7:=Ad hp7 (.tup [.ref p6]);refine⟨p5,p7,_,_,rq,rq,c7 _ _ (c6 _ _ hp5),Ab,Al (by rw[Qbk];show _+1<=1000;omega),λp8 J8 hp8 c8=>?_⟩;have c18:=c15.trans (c6.trans (c7.trans c8));refine⟨_,rq,_,rq,_,_,rq,rq,_,rq,zs,_,rq,c18 _ _ g1N,λp9 J9 hp9 c9=>?_⟩;rw[show ((at_:Int)+1)=((at_+1:Nat):Int) by omega,Dt (by omega)] at hp9;refine⟨p8,p9,_,_,rq,rq,c9 _ _ hp8,hp9,Al (by rw[QaL,Qbk,Qbn];show _+1+_<=1000;omega),λpA JA hpA cA=>?_⟩;have c1A:=c18.trans (c9.trans cA);have wA:Ak HI JA:=wN.trans (Ak.of c1A);have zl2:=(Qaf.mp hza).1;refine⟨pA,_,swp jc at_ ⟨z.name,ms⟩,_,_,_,_,_,rq,hpA,Ea (Paired.Bh g2 λ_ _ z=>z.tups wA) at_ ⟨p6,l4,rq,cA _ _ (c9 _ _ (c8 _ _ (c7 _ _ Ab))),cA _ _ (c9 _ _ (c8 _ _ (c7 _ _ (c6 _ _ (c5 _ _ e4)))))⟩,by rw[DQ zl2];exact g3,λy hy=>?_,(bN.same c1A).mono (by omega),g6.trans (vN.trans (Ag.of c1A))⟩;rcases Et hy with h | h
      ·exact g4 y h
      ·rw[h];exact⟨zcz.nm,hpw,ms1,Je⟩
     ·exact⟨zs,zvs,jc,_,_,_,_,_,rq,g1N,Paired.Bh g2 λ_ _ z=>z.tups wN,g3,g4,bN.mono (by omega),g6.trans vN⟩
   ·exact⟨zs,zvs,jc,_,_,_,_,_,rq,g1,g2,g3,g4,g5.mono (by omega),g6⟩
  ·obtain⟨zs',Vp,Hz,u6,u7,u8,u9,u10,rfl,g1,g2,g3,g4,g5,g6⟩:=h;have t5I:Ak H5 HI:=g6.tup hb6.BZ;have tI:=(tX.trans tX5).trans t5I;refine⟨_,rq,_,rq,_,rq,(by show 3<=sizeLine;decide),λt ht=>?_⟩;have kt:=Ad ht (.tup [.int mo,.ref Ls,.ref zs']);exact q t mo ja Hz _ ⟨⟨Ls,zs',ws,Vp,Ab,kt _ _ (tI _ _ f2),Paired.Bh f3 λ_ _ z=>(z.tups tI).tups (Ak.of kt),kt _ _ g1,Paired.Bh g2 λ_ _ z=>z.tups (Ak.of kt)⟩,okL,g3,λz hz=>⟨(g4 z hz).up.1,(g4 z hz).up.2.2⟩⟩ g4 ((g5.same kt).mono (by omega)) ((sHX.trans (sb6.trans g6)).trans (Ag.of kt))
 ·obtain⟨mo,emo⟩ : ∃mo,mo=most:=⟨_,rfl⟩;rw[<-emo];have H4:=H3;obtain⟨H4,eH4⟩ : ∃H4,H4=H3:=⟨_,rfl⟩;rw[<-eH4];have sX:Ag b HH H4:=by rw[eH4];exact sb4
  have hbX:Bj H4 b (n+20+1+1):=by rw[eH4];exact hb4.mono (by omega)
  have sHX:Ag b H H4:=s03.trans sX;have tHX:Ak H H4:=sHX.tup hb.BZ;have tX:Ak HH H4:=sX.tup hb3.BZ;have hkX:=sX _ _ hkn nbn.symm;refine⟨_,rq,b,_,4,rq,hbX,by omega,by decide,by decide,λr5 H5 r50 r51 hb6 sb6=>⟨_,rq,by omega,by omega,?_⟩⟩;have hb6:=hb6.mono (m:=n+24) (by omega);have tX5:Ak H4 H5:=sb6.tup hbX.BZ;have t5:=tHX.trans tX5;let J2:YN:=λi O HI=>∃(zs:Addr) (zvs:YG) (jc:List Zone) (u6 u7 u8 u9 u10:Option V),O=[jd b,jd pl,some (.int mo),jd Ls,jd zs,jd kn,u6,u7,u8,u9,u10]/\HI zs=some (.tup zvs)/\Paired (EY HI) zvs jc/\jc.length<=8/\(∀z∈jc,ZnC z)/\Bj HI b (n+24+5*i)/\Ag b H5 HI;refine Cj J2
   ⟨zs,zvs,jc,_,_,_,_,_,rq,t5 _ _ f4,Paired.Bh f5 λ_ _ z=>z.tups t5,c8,zc,hb6,Ag.refl b H5⟩ (λi O HI hi h=>?_) (fun O HI h=>?_)
  ·obtain⟨zs,zvs,jc,u6,u7,u8,u9,u10,rfl,g1,g2,g3,g4,g5,g6⟩:=h;have hi2:i < 4:=by omega
   have zl:=QbK g2;have hkI:=g6 _ _ (sb6 _ _ hkX nbn.symm) nbn.symm;refine⟨_,rq,zs,_,rq,.inr (SqT.of g1),_,_,rq,rq,_,rq,G9 (λhc=>?_) (λhc=>?_)⟩
   ·have hc:(0:Int) < (zvs.length:Int):=Qbg hc;refine⟨_,rq,_,rq,zs,_,rq,.inr (SqT.of g1),b,_,_,rq,g5,by omega,hc,by omega,λr6 I1 r60 r61 b1 v1=>?_⟩;obtain⟨at_,eat⟩ : ∃k:Nat,r6=k:=⟨r6.toNat,by omega⟩;subst eat;have atl:at_ < zvs.length:=by omega
    have hva:zvs[at_]?=some zvs[at_]:=Qai atl;obtain⟨z,hza,tz,uz,etz,h1,h2⟩:=Paired.Ca g2 hva;rw[etz] at hva;have zcz:=g4 z (QaA hza);have w1:Ak HI I1:=v1.tup g5.BZ;refine⟨_,rq,_,rq,_,rq,kn,_,rq,.inl (SqL.of (v1 _ _ hkI nbn.symm)),b,_,_,rq,b1,by omega,by rw[Qbt];omega,by rw[Qbt];omega,λr7 I2 r70 r71 b2 v2=>?_⟩;rw[Qbt] at r71;obtain⟨a7,ea7⟩ : ∃k:Nat,r7=k:=⟨r7.toNat,by omega⟩;subst ea7;have a7l:a7 < ns.length:=by omega
    have hka:(ns.map V.int)[a7]?=some (.int ns[a7]):=by rw[Qba,Qai a7l];rfl
    have v12:=v1.trans v2;refine⟨kn,_,_,_,rq,rq,SqL.of (v12 _ _ hkI nbn.symm),Az hka,?_⟩;refine⟨_,rq,b,_,2,rq,b2,by omega,by decide,by decide,λr8 I3 r80 r81 b3 v3=>⟨rq,_,rq,G9 (λ_=>?_) (λ_=>?_)⟩⟩
    ·have v13:=v12.trans v3;have w3:Ak HI I3:=v13.tup g5.BZ;refine⟨_,rq,_,rq,_,rq,zs,_,rq,.inr (SqT.of (w3 _ _ g1)),b,_,_,rq,b3,by omega,hc,by omega,λr9 I4 r90 r91 b4 v4=>?_⟩;obtain⟨a9,ea9⟩ : ∃k:Nat,r9=k:=⟨r9.toNat,by omega⟩;subst ea9;have a9l:a9 < zvs.length:=by omega
     have hv9:zvs[a9]?=some zvs[a9]:=Qai a9l;obtain⟨z9,hz9,tz9,uz9,Wx,h19,h29⟩:=Paired.Ca g2 hv9;rw[Wx] at hv9;have zc9:=g4 z9 (QaA hz9);have v14:=v13.trans v4;have w4:Ak HI I4:=v14.tup g5.BZ;refine⟨zs,_,_,_,rq,rq,SqT.of (w4 _ _ g1),Az hv9,tz9,_,_,_,rq,rq,SqT.of (w4 _ _ h19),rq,?_⟩;have z9a:=zc9.up.2.1;have z9b:=zc9.up.2.2;refine⟨_,rq,_,rq,_,rq,uz9,_,rq,.inr (SqT.of (w4 _ _ h29)),b,_,_,rq,b4,by omega,by rw[Qbt];omega,by rw[Qbt];omega,λrA I5 rA0 rA1 b5 v5=>?_⟩;rw[Qbt] at rA1;obtain⟨aA,eaA⟩ : ∃k:Nat,rA=k:=⟨rA.toNat,by omega⟩;subst eaA;have aAl:aA < z9.adr.length:=by omega
     have hkA:(z9.adr.map V.int)[aA]?=some (.int z9.adr[aA]):=by rw[Qba,Qai aAl];rfl
     have vN:=v14.trans v5;have wN:Ak HI I5:=vN.tup g5.BZ;refine⟨uz9,_,_,_,rq,rq,SqT.of (wN _ _ h29),Az hkA,?_⟩;generalize z9.adr[aA]=mv;have bN:=b5;have g1N:=wN _ _ g1;have h1N:=wN _ _ h1;have h2N:=wN _ _ h2;refine⟨_,rq,_,rq,zs,_,_,_,rq,rq,SqT.of g1N,Az hva,tz,_,_,_,rq,rq,SqT.of h1N,rq,uz,_,rq,.inr (SqT.of h2N),_,_,rq,rq,_,rq,G9 (λhl=>?_) (λhl=>?_)⟩
     ·have hl:((z.adr.map V.int).length:Int) < 30:=Qbg hl;rw[Qbt] at hl;refine⟨_,rq,_,rq,zs,_,_,_,rq,rq,SqT.of g1N,Az hva,tz,_,_,_,rq,rq,SqT.of h1N,rq,_,rq,(by show 1<=sizeLine;decide),λt1 ht1=>?_⟩;have c1:=Ad ht1 (.tup [.int mv]);refine⟨uz,t1,_,_,rq,rq,c1 _ _ h2N,Ab,Al (by rw[Qbt];show _+1<=1000;omega),λp2 J2 hp2 c2=>?_⟩;have hp2':J2 p2=some (.tup ((z.adr++[mv]).map V.int)):=by rw[hp2,Qbw];rfl
      refine⟨p2,z.adr++[mv],rq,.inr (SqT.of hp2'),by rw[QaL];show _+1 < 64;omega,λms l3 hpw hmem hl3=>?_⟩;have c3:=Ad hl3 (.lst (ms.map V.int));refine⟨l3,_,rq,.inl ⟨SqL.of Ab,λl4 hl4=>?_⟩⟩;have c4:=Ad hl4 (.tup (ms.map V.int));have e4:=Ab (H:=upd J2 l3 (.lst (ms.map V.int))) (a:=l4) (o:=.tup (ms.map V.int));have c14:=c1.trans (c2.trans (c3.trans c4));generalize upd (upd J2 l3 (.lst (ms.map V.int))) l4 (.tup (ms.map V.int))=J4 at c4 e4 c14;have Je:ms.length<=30:=by
       have:=Gh (l:=ms) (m:=z.adr++[mv]) (hpw.imp λh=>by omega) λx hx=>(hmem x).mp hx;rw[QaL] at this;have:ms.length<=z.adr.length+1:=this;omega
      have ms1:1<=ms.length:=Qau ((hmem mv).mpr (Qav _ (QaS.mpr rfl)));refine⟨_,rq,_,rq,_,rq,zs,_,rq,c14 _ _ g1N,λp5 J5 hp5 c5=>?_⟩;rw[Eo (by omega)] at hp5;have c15:=c14.trans c5;refine⟨_,rq,_,rq,zs,_,_,_,rq,rq,SqT.of (c15 _ _ g1N),Az hva,tz,_,_,_,rq,rq,SqT.of (c15 _ _ h1N),rq,_,rq,(by show 2<=sizeLine;decide),λp6 hp6=>⟨(by show 1<=sizeLine;decide),λp7 hp7=>?_⟩⟩;have c6:=Ad hp6 (.tup [.str z.name,.ref l4]);have c7:=Ad hp7 (.tup [.ref p6]);refine⟨p5,p7,_,_,rq,rq,c7 _ _ (c6 _ _ hp5),Ab,Al (by rw[Qbk];show _+1<=1000;omega),λp8 J8 hp8 c8=>?_⟩;have c18:=c15.trans (c6.trans (c7.trans c8));refine⟨_,rq,_,rq,_,_,rq,rq,_,rq,zs,_,rq,c18 _ _ g1N,λp9 J9 hp9 c9=>?_⟩;rw[show ((at_:Int)+1)=((at_+1:Nat):Int) by omega,Dt (by omega)] at hp9;refine⟨p8,p9,_,_,rq,rq,c9 _ _ hp8,hp9,Al (by rw[QaL,Qbk,Qbn];show _+1+_<=1000;omega),λpA JA hpA cA=>?_⟩;have c1A:=c18.trans (c9.trans cA);have wA:Ak HI JA:=wN.trans (Ak.of c1A);have zl2:=(Qaf.mp hza).1;refine⟨pA,_,swp jc at_ ⟨z.name,ms⟩,_,_,_,_,_,rq,hpA,Ea (Paired.Bh g2 λ_ _ z=>z.tups wA) at_ ⟨p6,l4,rq,cA _ _ (c9 _ _ (c8 _ _ (c7 _ _ Ab))),cA _ _ (c9 _ _ (c8 _ _ (c7 _ _ (c6 _ _ (c5 _ _ e4)))))⟩,by rw[DQ zl2];exact g3,λy hy=>?_,(bN.same c1A).mono (by omega),g6.trans (vN.trans (Ag.of c1A))⟩;rcases Et hy with h | h
      ·exact g4 y h
      ·rw[h];exact⟨zcz.nm,hpw,ms1,Je⟩
     ·exact⟨zs,zvs,jc,_,_,_,_,_,rq,g1N,Paired.Bh g2 λ_ _ z=>z.tups wN,g3,g4,bN.mono (by omega),g6.trans vN⟩
    ·have vN:=v12.trans v3;have wN:Ak HI I3:=vN.tup g5.BZ;generalize ns[a7]=mv;have bN:=b3.mono (m:=n+24+5*i+1+1+1+1+1) (by omega);have g1N:=wN _ _ g1;have h1N:=wN _ _ h1;have h2N:=wN _ _ h2;refine⟨_,rq,_,rq,zs,_,_,_,rq,rq,SqT.of g1N,Az hva,tz,_,_,_,rq,rq,SqT.of h1N,rq,uz,_,rq,.inr (SqT.of h2N),_,_,rq,rq,_,rq,G9 (λhl=>?_) (λhl=>?_)⟩
     ·have hl:((z.adr.map V.int).length:Int) < 30:=Qbg hl;rw[Qbt] at hl;refine⟨_,rq,_,rq,zs,_,_,_,rq,rq,SqT.of g1N,Az hva,tz,_,_,_,rq,rq,SqT.of h1N,rq,_,rq,(by show 1<=sizeLine;decide),λt1 ht1=>?_⟩;have c1:=Ad ht1 (.tup [.int mv]);refine⟨uz,t1,_,_,rq,rq,c1 _ _ h2N,Ab,Al (by rw[Qbt];show _+1<=1000;omega),λp2 J2 hp2 c2=>?_⟩;have hp2':J2 p2=some (.tup ((z.adr++[mv]).map V.int)):=by rw[hp2,Qbw];rfl
      refine⟨p2,z.adr++[mv],rq,.inr (SqT.of hp2'),by rw[QaL];show _+1 < 64;omega,λms l3 hpw hmem hl3=>?_⟩;have c3:=Ad hl3 (.lst (ms.map V.int));refine⟨l3,_,rq,.inl ⟨SqL.of Ab,λl4 hl4=>?_⟩⟩;have c4:=Ad hl4 (.tup (ms.map V.int));have e4:=Ab (H:=upd J2 l3 (.lst (ms.map V.int))) (a:=l4) (o:=.tup (ms.map V.int));have c14:=c1.trans (c2.trans (c3.trans c4));generalize upd (upd J2 l3 (.lst (ms.map V.int))) l4 (.tup (ms.map V.int))=J4 at c4 e4 c14;have Je:ms.length<=30:=by
       have:=Gh (l:=ms) (m:=z.adr++[mv]) (hpw.imp λh=>by omega) λx hx=>(hmem x).mp hx;rw[QaL] at this;have:ms.length<=z.adr.length+1:=this;omega
      have ms1:1<=ms.length:=Qau ((hmem mv).mpr (Qav _ (QaS.mpr rfl)));refine⟨_,rq,_,rq,_,rq,zs,_,rq,c14 _ _ g1N,λp5 J5 hp5 c5=>?_⟩;rw[Eo (by omega)] at hp5;have c15:=c14.trans c5;refine⟨_,rq,_,rq,zs,_,_,_,rq,rq,SqT.of (c15 _ _ g1N),Az hva,tz,_,_,_,rq,rq,SqT.of (c15 _ _ h1N),rq,_,rq,(by show 2<=sizeLine;decide),λp6 hp6=>⟨(by show 1<=sizeLine;decide),λp7 hp7=>?_⟩⟩;have c6:=Ad hp6 (.tup [.str z.name,.ref l4]);have c7:=Ad hp7 (.tup [.ref p6]);refine⟨p5,p7,_,_,rq,rq,c7 _ _ (c6 _ _ hp5),Ab,Al (by rw[Qbk];show _+1<=1000;omega),λp8 J8 hp8 c8=>?_⟩;have c18:=c15.trans (c6.trans (c7.trans c8));refine⟨_,rq,_,rq,_,_,rq,rq,_,rq,zs,_,rq,c18 _ _ g1N,λp9 J9 hp9 c9=>?_⟩;rw[show ((at_:Int)+1)=((at_+1:Nat):Int) by omega,Dt (by omega)] at hp9;refine⟨p8,p9,_,_,rq,rq,c9 _ _ hp8,hp9,Al (by rw[QaL,Qbk,Qbn];show _+1+_<=1000;omega),λpA JA hpA cA=>?_⟩;have c1A:=c18.trans (c9.trans cA);have wA:Ak HI JA:=wN.trans (Ak.of c1A);have zl2:=(Qaf.mp hza).1;refine⟨pA,_,swp jc at_ ⟨z.name,ms⟩,_,_,_,_,_,rq,hpA,Ea (Paired.Bh g2 λ_ _ z=>z.tups wA) at_ ⟨p6,l4,rq,cA _ _ (c9 _ _ (c8 _ _ (c7 _ _ Ab))),cA _ _ (c9 _ _ (c8 _ _ (c7 _ _ (c6 _ _ (c5 _ _ e4)))))⟩,by rw[DQ zl2];exact g3,λy hy=>?_,(bN.same c1A).mono (by omega),g6.trans (vN.trans (Ag.of c1A))⟩;rcases Et hy with h | h
      ·exact g4 y h
      ·rw[h];exact⟨zcz.nm,hpw,ms1,Je⟩
     ·exact⟨zs,zvs,jc,_,_,_,_,_,rq,g1N,Paired.Bh g2 λ_ _ z=>z.tups wN,g3,g4,bN.mono (by omega),g6.trans vN⟩
   ·exact⟨zs,zvs,jc,_,_,_,_,_,rq,g1,g2,g3,g4,g5.mono (by omega),g6⟩
  ·obtain⟨zs',Vp,Hz,u6,u7,u8,u9,u10,rfl,g1,g2,g3,g4,g5,g6⟩:=h;have t5I:Ak H5 HI:=g6.tup hb6.BZ;have tI:=(tX.trans tX5).trans t5I;refine⟨_,rq,_,rq,_,rq,(by show 3<=sizeLine;decide),λt ht=>?_⟩;have kt:=Ad ht (.tup [.int mo,.ref Ls,.ref zs']);exact q t mo ja Hz _ ⟨⟨Ls,zs',ws,Vp,Ab,kt _ _ (tI _ _ f2),Paired.Bh f3 λ_ _ z=>(z.tups tI).tups (Ak.of kt),kt _ _ g1,Paired.Bh g2 λ_ _ z=>z.tups (Ak.of kt)⟩,okL,g3,λz hz=>⟨(g4 z hz).up.1,(g4 z hz).up.2.2⟩⟩ g4 ((g5.same kt).mono (by omega)) ((sHX.trans (sb6.trans g6)).trans (Ag.of kt))
end
abbrev GK:Stmt:=top 22
abbrev Xb:YF:=["_law_script"]
theorem Jw:Bx ["_law_script","_law_k","_law_bag_here","_law_plan_here"] Xb (Ao GK):=by ac_rfl
theorem ZV {ja:YU} (nd:(Bm ja).Nodup):wTw ja=none:=by
 unfold wTw;rw[Qad];intro i _;unfold twF;split
 ·rfl
 ·rename_i a ha;exact if_neg λhm=>Ng nd ha a hm rfl
theorem aQ {most:Int} {ja:YU} (h:∀ps∈ja,∀m∈Bw ps,m<=most):wCr most ja=none:=by
 unfold wCr;rw[Qad];intro k _;unfold crL;split
 ·rfl
 ·rename_i ps hps;rw[Qad];intro j _;unfold crF;split
  ·rfl
  ·rename_i c hc;have:=h ps (QaA hps) c (QaA hc);exact if_neg (by omega)
theorem Z5 {ja:YU} {jc:List Zone} (h:∀z∈jc,∀x∈z.adr,x∈Cp ja):wSt ja jc=none:=by
 unfold wSt;rw[Qad];intro z hz;unfold stZ;rw[Qad];exact λx hx=>if_pos (h z hz x hx)
theorem Z6 {jc:List Zone} (nd:(jc.flatMap (·.adr)).Nodup):wSh jc=none:=by
 unfold wSh;rw[Qad];intro k _;unfold shZ;split
 ·rfl
 ·rename_i z hz;rw[Qad];intro x hx;refine if_neg λhm=>?_;have e:jc=jc.take k++jc.drop k:=(Qaz ..).symm;rw[e,QaI] at nd;obtain⟨_,_,n3⟩:=List.nodup_append.mp nd;refine n3 x hm x (List.mem_flatMap.mpr ⟨z,?_,hx⟩) rfl;obtain⟨hk,ez⟩:=Qaf.mp hz;rw[<-ez];exact List.mem_drop_iff_getElem.mpr ⟨0,by omega,by simp⟩
theorem Vq {most:Int} {ja:YU} {jc:List Zone} (h:Qx most ja jc):DP most ja jc=none:=by
 rw[ww4 (ZV h.nd) (aQ h.few) (Z5 h.zin),Z6 h.znd]
theorem XQ {ja:YU} (h:1<=(Bm ja).length):Iu ja:=by
 cases e:Bm ja with
 | nil=>rw[e] at h;simp at h
 | cons x r=>
  have hx:x∈Bm ja:=by rw[e];exact QaM ..
  obtain⟨ps,hps,hx⟩:=List.mem_flatMap.mp hx;obtain⟨p,hp,hx⟩:=List.mem_flatMap.mp hx;refine⟨ps,hps,p,hp,λk=>?_⟩;unfold adP at hx;rw[if_pos k] at hx;cases hx
def vD:V->PyData
 | .int i=>.int i
 | .str x=>.str x
 | _=>.none
def wD:Option (YG)->PyData
 | none=>.none
 | some xs=>.tuple (xs.map vD)
def OkV (v:V):Prop:=(∃i,v=.int i)\/∃x,v=.str x/\PyData.strOk x=true
def OkO (o:Option (YG)):Prop:=∀xs,o=some xs->∀v∈xs,OkV v
theorem Hq {α : Type} {f:α->Option (YG)}:∀{l:List α},(∀x∈l,OkO (f x))->OkO (l.findSome? f)
 | [],_=>λxs e=>by cases e
 | x::r,h=>λxs e=>by
  rw[List.findSome?_cons] at e;split at e
  ·rename_i b hb;cases e;exact h x (QaM ..) _ hb
  ·exact Hq (λy hy=>h y (QaB _ hy)) xs e
theorem Sy {a b:Option (YG)} (h1:OkO a) (h2:OkO b):OkO (orO a b):=by
 cases a with
 | none=>exact h2
 | some x=>exact h1
theorem okI (i:Int):OkV (.int i):=.inl ⟨i,rfl⟩
theorem okT {x:Str} (h:PyData.strOk x=true):OkV (.str x):=.inr ⟨x,rfl,h⟩
theorem RB {most:Int} {ja:YU} {jc:List Zone} (zc:∀z∈jc,ZnC z):OkO (DP most ja jc):=by
 have s1:PyData.strOk "twice"=true:=by trivial
 have s2:PyData.strOk "crowded"=true:=by trivial
 have s3:PyData.strOk "stranger"=true:=by trivial
 have s4:PyData.strOk "shared"=true:=by trivial
 refine Sy (Hq λi _=>?_) (Sy (Hq λk _=>?_) (Sy (Hq λz hz=>Hq λa _=>?_) (Hq λk _=>?_)))
 ·unfold twF;split
  ·exact λxs e=>by cases e
  ·split
   ·intro xs e v hv;cases e;simp only[QbL,Qbq,or_false] at hv;rcases hv with rfl | rfl
    ·exact okT s1
    ·exact okI _
   ·exact λxs e=>by cases e
 ·unfold crL;split
  ·exact λxs e=>by cases e
  ·refine Hq λj _=>?_;unfold crF;split
   ·exact λxs e=>by cases e
   ·split
    ·intro xs e v hv;cases e;simp only[QbL,Qbq,or_false] at hv;rcases hv with rfl | rfl | rfl
     ·exact okT s2
     ·exact okI _
     ·exact okI _
    ·exact λxs e=>by cases e
 ·unfold stA;split
  ·exact λxs e=>by cases e
  ·intro xs e v hv;cases e;simp only[QbL,Qbq,or_false] at hv;rcases hv with rfl | rfl | rfl
   ·exact okT s3
   ·exact okT (zc z hz).nm.2.ok
   ·exact okI _
 ·unfold shZ;split
  ·exact λxs e=>by cases e
  ·rename_i z hz;refine Hq λa _=>?_;unfold shA;split
   ·intro xs e v hv;cases e;simp only[QbL,Qbq,or_false] at hv;rcases hv with rfl | rfl | rfl
    ·exact okT s4
    ·exact okT (zc z (QaA hz)).nm.2.ok
    ·exact okI _
   ·exact λxs e=>by cases e
theorem T3 {H:Hp}:∀{xs:YG},(∀v∈xs,OkV v)->Hh H xs (xs.map vD)
 | [],_=>.nil
 | x::r,h=>by
  refine .cons ?_ (T3 λv hv=>h v (QaB _ hv));rcases h x (QaM ..) with⟨i,rfl⟩|⟨z,rfl,_⟩
  ·exact .int i
  ·exact .str z
theorem W5:∀{xs:YG},(∀v∈xs,OkV v)->PyData.canLayAll0 (xs.map vD)=true/\PyData.depthAll (xs.map vD)<=0
 | [],_=>⟨rfl,QbZ _⟩
 | x::r,h=>by
  have ih:=W5 (xs:=r) λv hv=>h v (QaB _ hv);rcases h x (QaM ..) with⟨i,rfl⟩|⟨z,rfl,hz⟩
  ·refine⟨?_,?_⟩
   ·show (true&&PyData.canLayAll0 (r.map vD))=true;rw[ih.1];rfl
   ·show max 0 (PyData.depthAll (r.map vD))<=0;exact Nat.max_le.mpr ⟨QbZ _,ih.2⟩
  ·refine⟨?_,?_⟩
   ·show (PyData.strOk z&&PyData.canLayAll0 (r.map vD))=true;rw[ih.1,hz];rfl
   ·show max 0 (PyData.depthAll (r.map vD))<=0;exact Nat.max_le.mpr ⟨QbZ _,ih.2⟩
theorem Kv {o:Option (YG)} (h:OkO o):SeqAt.shaped (wD o)=true:=by
 cases o with
 | none=>rfl
 | some xs=>
  obtain⟨h1,h2⟩:=W5 (h xs rfl);show (PyData.canLayAll0 (xs.map vD)&&decide (PyData.depthAll (xs.map vD)+1<=64))=true;rw[h1,QbH (by omega)];rfl
theorem W2 {H:Hp} {v:V} {o:Option (YG)} (h:OkO o) (w:Hf H v o):Rep H v (wD o):=by
 cases o with
 | none=>
  cases (show v=.non from w)
  exact .non
 | some xs=>
  obtain⟨a,rfl,ha,_⟩:=w;exact .tup ha (T3 (h xs rfl))
section
variable {P:Program} {w:World} {K:YD} {mg:YB} {base:Heap} {op oe wk:Addr}
theorem Y8 {f:Addr} {fd:FuncData} (F:Fun K "law" "law" GK f fd) (T:Ty K mg op oe wk) (Np:Good P w K mg base "_law_bag" 1 Im (W9 K)) (Wv:Good P w K mg base "_law_plan" 4 G4 T8)
  (Rk:Good P w K mg base "wrong" 4 Ik RZ) (U4:Good P w K mg base "_law_wrong" 2 Gs RZ) (Tc:Good P w K mg base "_law_spoilt" 3 Ga W8):Es P w K mg base CX0 5 f fd Xb (Ov K):=by
 refine F.ok Jw (λvs H Q E h=>?_) (λcdv A outer s H vs Q E hr h=>?_)
 ·obtain⟨a,ns,rfl,_⟩:=h;rfl
 obtain⟨a,ns,rfl,hS,h63,q⟩:=h;refine⟨_,(Af (Bo Qbv rfl (BR rfl T.range (Aa (Bf (Og rfl) rfl T.max Mv (Aa Ae (Aa (Bf (Oe rfl) rfl T.min Vg (Aa Ae (Aa (Bf Ba rfl T.len Cm (Aa (pv 0) Ac)) Ac))) Ac))) Ac)) (Ah (i:=1) Jw.nd rfl (Or.inl rfl))
 (Af (Av (i:=2) Jw.nd rfl (Or.inl rfl) (Bg Np hr (Aa (pv 0) (Aa (pv 1) Ac))))
 (Af (Av (i:=3) Jw.nd rfl (Or.inl rfl) (Bg Wv hr (Aa (pv 2) (Aa Ae (Aa Ae Ac)))))
 (Af (Cq (Bl Xw (Bg Rk hr (Aa (pv 3) Ac)) Ij (Ci _)) (Ai (Bs Kc)) BK)
 (Af (Av (i:=3) Jw.nd rfl (Or.inl rfl) (Bg Tc hr (Aa (pv 2) (Aa (pv 3) Ac))))
 (Ai (Cq (Bl (Y4 hr.units) (Bg Rk hr (Aa (pv 3) Ac)) (Bg U4 hr (Aa (pv 3) Ac)) (Ci _)) (Ai (Bs Kc)) BK)))))))
 (Ai (Bs Kc))),?_⟩
 show let R0:TS:=_;let R1:TS:=Am _ R0;let R2:TS:=Am _ R1;let R3:TS:=Am _ R2;let R4:TS:=Am _ R3;Am (Cd _ _ R4) _ _ _ _;intro R0 R1 R2 R3 R4;have hl:(ns.map V.int).length=ns.length:=Qbt _;refine⟨_,rq,a,_,rq,.inl hS,_,_,rq,_,_,rq,_,rq,?_,?_,?_⟩
 ·rw[hl];split <;> split <;> omega
 ·rw[hl];split <;> split <;> omega
 refine Cj (λi O H'=>Same H H'/\∃u1 u2 u3,O=[jd a,u1,u2,u3]) ⟨Same.refl H,_,_,_,rq⟩ (λi O H' hi h=>?_) (fun O H' h=>?_)
 ·obtain⟨sm,u1,u2,u3,rfl⟩:=h;rw[hl] at hi;have hi':(i:Int)<=100:=by
   revert hi;split <;> split <;> omega
  refine⟨_,rq,_,rq,a,ns,_,rq,sm.seq hS,h63,by omega,by omega,λb o hb0 Zy=>?_⟩;have s1:Same H (upd H' b o):=sm.trans (Ad hb0 o);have fb:H b=none:=sm.free hb0;generalize upd H' b o=H1 at s1 Zy ⊢;refine⟨_,rq,b,0,3,12,rq,Zy,by omega,by omega,by omega,by omega,by omega,λpl Ls zs vs zvs ja jc most H2 hpl hLs hlo hok fV cZ hzs hzv pok hb2 sb2=>?_⟩;have s2:Same H H2:=s1.Df sb2 fb;have zc:∀z∈jc,ZnC z:=λz hz=>⟨pok.znm z hz,pok.zup z hz⟩;have pd:DN H2 pl most ja jc:=⟨⟨Ls,zs,vs,zvs,hpl,hLs,hlo,hzs,hzv⟩,⟨hok,cZ⟩,pok.aX,λz hz=>⟨(pok.zup z hz).1,(pok.zup z hz).2.2⟩⟩;refine⟨_,rq,pl,most,ja,jc,rq,pd,λv H3 s3 w3=>⟨rq,_,rq,?_⟩⟩;rw[Vq pok] at w3;cases (show v=.non from w3)
  refine Ec ⟨_,rq,_,rq,b,pl,_,most,ja,jc,rq,hb2.same s3,by omega,pd.same s3,XQ pok.cnt.1,zc,λt mo lo' zo' H4 pd4 zc4 hb4 s4=>?_⟩;have okw:OkO (DP mo lo' zo'):=RB zc4;refine⟨_,rq,t,mo,lo',zo',rq,pd4,λv1 H5 s5 w5=>⟨_,rq,t,mo,lo',zo',rq,pd4.same s5,λv2 H6 s6 w6=>?_⟩⟩;refine⟨_,_,W2 okw (w5.same s6),W2 okw w6,Kv okw,Kv okw,_,rq,?_⟩;rw[SeqAt.eqv_refl _ (SeqAt.canLay_of_shaped (Kv okw))];exact Ec ⟨((s2.trans s3).Df s4 fb).trans (s5.trans s6),_,_,_,rq⟩
 ·obtain⟨sm,u1,u2,u3,rfl⟩:=h;exact q _
end
structure FnI (K:YD) (x:Str) (st:Stmt):Prop where
 ex:∃(f:Addr) (oc:Value) (od an:Option Addr) (sl:YI) (kV dc pm cd ct:Value),nsIn K mainGlobals x=some (some (.ref f))/\K.lookup f=some ⟨oc,od,.func (fnOf x x (DY st) (Dl st) (Ao st) .none kV dc pm an cd ct),sl⟩/\codeIn K cd x=true/\keepIn K (.ref f)=true
theorem FnI.of {K:YD} {x:Str} {st:Stmt} {f:Addr} {oc:Value} {od an:Option Addr} {sl:YI} {kV dc pm cd ct:Value} (a:nsIn K mainGlobals x=some (some (.ref f))) (l:K.lookup f=some ⟨oc,od,.func (fnOf x x (DY st) (Dl st) (Ao st) .none kV dc pm an cd ct),sl⟩) (c:codeIn K cd x=true) (k:keepIn K (.ref f)=true):FnI K x st:=⟨f,oc,od,an,sl,kV,dc,pm,cd,ct,a,l,c,k⟩
theorem FnI.code {K:YD} {mg:YB} {h:Heap} {x:Str} {st:Stmt} {ps:YF} (I:FnI K x st) (X:K.In h) (G:h.Ns mainGlobals mg) (hb:∀(kV doc pm:Value) (an:Option Addr) (cdv ct:Value) (us:YE),us.length=ps.length->bindArgs (fnOf x x (DY st) (Dl st) (Ao st) .none kV doc pm an cdv ct) ⟨us,[]⟩=pure (ps.zip us)):Code K mg x st ps:=by
 obtain⟨f,oc,od,an,sl,kV,dc,pm,cd,ct,a,l,c,k⟩:=I.ex;exact Code.of X G a l c k hb
def WQ:YF->(YE->Prop)->Prop
 | [],P=>P []
 | _::r,P=>∀a,WQ r λt=>P (a::t)
theorem Rz:∀(ps:YF) {P:YE->Prop},WQ ps P->∀us:YE,us.length=ps.length->P us
 | [],_,h,[],_=>h
 | _::r,_,h,a::t,e=>Rz r (h a) t (Nat.succ.inj e)
theorem fnA {F:Value->Value->Value->Option Addr->Value->Value->FuncData} {ps:YF} (h:∀kV dc pm an cd ct,WQ ps λus=>bindArgs (F kV dc pm an cd ct) ⟨us,[]⟩=pure (ps.zip us)) (kV dc pm:Value) (an:Option Addr) (cd ct:Value) (us:YE) (hu:us.length=ps.length):bindArgs (F kV dc pm an cd ct) ⟨us,[]⟩=pure (ps.zip us):=Rz ps (h kV dc pm an cd ct) us hu
theorem all_mk {l:PySem.W.OpenLaw} {w:World} {K:YD} {h:Heap} {mg:YB} {fa fl:Addr} (X:K.In h) (G:h.Ns mainGlobals mg) (hfa:mg "law"=some (.ref fa))
  {odl anl:Option Addr} {sll:YI} {ocl kVl dcl pml cdl ctl:Value}
  (i0:FnI K "place_devices" FT)
  (i1:FnI K "devices" Jz)
  (i2:FnI K "parts" M5)
  (i3:FnI K "address_twice" FZ)
  (i4:FnI K "part_crowded" Gf)
  (i5:FnI K "address_stranger" El)
  (i6:FnI K "address_shared" Fj)
  (i7:FnI K "wrong" M4)
  (i8:FnI K "_law_bag" M6)
  (i9:FnI K "_law_take" KH)
  (i10:FnI K "_law_name" Jc)
  (i11:FnI K "_law_names" Hj)
  (i12:FnI K "_law_loop" KJ)
  (i13:FnI K "_law_parts" Jy)
  (i14:FnI K "_law_plan" Gg)
  (i15:FnI K "_law_readdressed" FW)
  (i16:FnI K "_law_spoilt" Jb)
  (i17:FnI K "_law_wrong" Jx)
  (al:nsIn K mainGlobals "law"=some (some (.ref fl))) (ll:K.lookup fl=some ⟨ocl,odl,.func (fnOf "law" "law" (DY GK) (Dl GK) (Ao GK) .none kVl dcl pml anl cdl ctl),sll⟩) (cl:codeIn K cdl "law"=true) (kl:keepIn K (.ref fl)=true)
  (z0:nsIn K mainGlobals "isinstance"=some none)
  (z1:nsIn K mainGlobals "int"=some none)
  (z2:nsIn K mainGlobals "bool"=some none)
  (z3:nsIn K mainGlobals "tuple"=some none)
  (z4:nsIn K mainGlobals "list"=some none)
  (z5:nsIn K mainGlobals "str"=some none)
  (z6:nsIn K mainGlobals "len"=some none)
  (z7:nsIn K mainGlobals "all"=some none)
  (z8:nsIn K mainGlobals "abs"=some none)
  (z9:nsIn K mainGlobals "max"=some none)
  (z10:nsIn K mainGlobals "min"=some none)
  (z11:nsIn K mainGlobals "range"=some none)
  (z12:nsIn K mainGlobals "sorted"=some none)
  (z13:nsIn K mainGlobals "any"=some none)
  (z14:nsIn K mainGlobals "sum"=some none)
  (z15:nsIn K mainGlobals "enumerate"=some none)
  (z16:nsIn K mainGlobals "zip"=some none)
  (z17:nsIn K mainGlobals "reversed"=some none)
  (z18:nsIn K mainGlobals "dict"=some none)
  (z19:nsIn K mainGlobals "ord"=some none)
  (z20:nsIn K mainGlobals "set"=some none)
  {op oe:Addr} {odo ode:Option Addr} {no ne:Nat} {slo sle:YI} {tks tko:Tok} {wk:Addr} {odw:Option Addr} {nw:Nat} {slw:YI} {tq5 tq6:Tok}
  (ao:nsIn K mainGlobals "OPENER"=some (some (.ref op)))
  (lo:K.lookup op=some ⟨.type "tuple",odo,.seq #[.str "opener" tks,.int 0 tko,.ref oe] no,slo⟩)
  (lq2:K.lookup oe=some ⟨.type "tuple",ode,.seq #[] ne,sle⟩)
  (aWk:nsIn K mainGlobals "WARNING_KINDS"=some (some (.ref wk)))
  (lWk:K.lookup wk=some ⟨.type "tuple",odw,.seq #[.str "seeker" tq5,.str "knob" tq6] nw,slw⟩)
  : ∃fd:FuncData,(∀(s:Shared) (v:Value),BindsTo s fd ⟨[v],[]⟩ [("_law_script",v)])/\∀base:Heap,K.In base->base.Ns mainGlobals mg->Es l.prog w K mg base CX0 5 fa fd Xb (Ov K):=by
 have e:=hfa.symm.trans (mg_of X G al);cases e;have TN:Nm mg:=⟨mg_none_of X G z0,mg_none_of X G z1,mg_none_of X G z2,mg_none_of X G z3,mg_none_of X G z4,mg_none_of X G z5,mg_none_of X G z6,mg_none_of X G z7,mg_none_of X G z8,mg_none_of X G z9,mg_none_of X G z10,mg_none_of X G z11,mg_none_of X G z12,mg_none_of X G z13,mg_none_of X G z14,mg_none_of X G z15,mg_none_of X G z16,mg_none_of X G z17,mg_none_of X G z18,mg_none_of X G z19,mg_none_of X G z20⟩;have TX:Tx K mg op oe:=⟨TN,⟨_,mg_of X G ao,rq⟩,λH=>.inr ⟨_,_,_,lo,rq,rq,(by show 3<=sizeLine;decide),.cons ⟨_,rq⟩ (.cons ⟨_,rq⟩ (.cons rfl .nil))⟩,λH=>.inr ⟨_,_,_,lq2,rq,rq,(by show 0<=sizeLine;decide),.nil⟩⟩;have TY:Ty K mg op oe wk:={ toTx:=TX,WARNING_KINDS:=⟨_,mg_of X G aWk,rq⟩,wkT:=λH=>.inr ⟨_,_,_,lWk,rq,rq,(by show 2<=sizeLine;decide),.cons ⟨_,rq⟩ (.cons ⟨_,rq⟩ .nil)⟩ };have Mx:=i0.code (ps:=Di) X G (fnA λ_ _ _ _ _ _ _ _ _=>rfl);have Vo:=i1.code (ps:=Fy) X G (fnA λ_ _ _ _ _ _ _=>rfl);have Yd:=i2.code (ps:=Il) X G (fnA λ_ _ _ _ _ _ _ _=>rfl);have MF:=i3.code (ps:=DG) X G (fnA λ_ _ _ _ _ _ _=>rfl);have Nz:=i4.code (ps:=DX) X G (fnA λ_ _ _ _ _ _ _=>rfl);have JV:=i5.code (ps:=Dd) X G (fnA λ_ _ _ _ _ _ _=>rfl);have Lh:=i6.code (ps:=Ds) X G (fnA λ_ _ _ _ _ _ _=>rfl);have Yc:=i7.code (ps:=Ik) X G (fnA λ_ _ _ _ _ _ _=>rfl);have Ye:=i8.code (ps:=Im) X G (fnA λ_ _ _ _ _ _ _ _=>rfl);have WW:=i9.code (ps:=Eb) X G (fnA λ_ _ _ _ _ _ _ _=>rfl);have WY:=i10.code (ps:=G5) X G (fnA λ_ _ _ _ _ _ _=>rfl);have Vn:=i11.code (ps:=Gu) X G (fnA λ_ _ _ _ _ _ _ _=>rfl);have W0:=i12.code (ps:=G6) X G (fnA λ_ _ _ _ _ _ _ _ _=>rfl);have Vm:=i13.code (ps:=Fx) X G (fnA λ_ _ _ _ _ _ _=>rfl);have WX:=i14.code (ps:=G4) X G (fnA λ_ _ _ _ _ _ _ _ _=>rfl);have Mz:=i15.code (ps:=Dz) X G (fnA λ_ _ _ _ _ _ _ _=>rfl);have Tz:=i16.code (ps:=Ga) X G (fnA λ_ _ _ _ _ _ _ _=>rfl);have Vl:=i17.code (ps:=Gs) X G (fnA λ_ _ _ _ _ _ _=>rfl);have aV:=U6 (st:=GK) ll cl kl;refine⟨fnOf "law" "law" (DY GK) (Dl GK) (Ao GK) .none kVl dcl pml anl cdl ctl,λs v=>.of_eq rfl,λbase _ _=>?_⟩;have Np:=V4 (P:=l.prog) (w:=w) (base:=base) Ye TN;have Ax:=Uw (P:=l.prog) (w:=w) (base:=base) WW TN;have ZD:=KQ (P:=l.prog) (w:=w) (base:=base) Mx TX;have ZF:=SQ (P:=l.prog) (w:=w) (base:=base) Vo TX ZD;have dD:=V2 (P:=l.prog) (w:=w) (base:=base) Yd TX ZD;have dN:=KY (P:=l.prog) (w:=w) (base:=base) MF TY ZF;have dM:=LC (P:=l.prog) (w:=w) (base:=base) Nz TY dD;have dO:=Jp (P:=l.prog) (w:=w) (base:=base) JV TY ZF;have dz:=Kl (P:=l.prog) (w:=w) (base:=base) Lh TY;have dj:=V1 (P:=l.prog) (w:=w) (base:=base) Yc TY dN dM dO dz;have dH:=Xz (P:=l.prog) (w:=w) (base:=base) WY TN Ax;have dG:=V3 (P:=l.prog) (w:=w) (base:=base) Vn TN dH;have dJ:=XC (P:=l.prog) (w:=w) (base:=base) W0 TN Ax;have ZC:=Uv (P:=l.prog) (w:=w) (base:=base) Vm TN;have dF:=Xy (P:=l.prog) (w:=w) (base:=base) WX TN Ax dJ ZC dG;have dB:=KR (P:=l.prog) (w:=w) (base:=base) Mz TY Ax;have dw:=QD (P:=l.prog) (w:=w) (base:=base) Tz TY Ax dB;have dI:=SM (P:=l.prog) (w:=w) (base:=base) Vl TY ZC;exact Y8 aV TY Np dF dj dI dw
theorem walk {l:PySem.W.OpenLaw} {q:Program} {loose:YF} {XP:(YB)->Heap->Prop} {YP:World->Heap->Prop} {d:DefRec} {K:Params->YD} (hn:l.most=some 63) (hdf:d.params.defaults=[])
  (hY:∀(w:World) (h:Heap),YP w h->(K w.params).In h)
  (F:∀(w:World) (mg:YB) (fa:Addr) (h:Heap),(K w.params).In h->h.Ns mainGlobals mg->mg d.name=some (.ref fa) ->
   ∃fd:FuncData,(∀(s:Shared) (u:Value),BindsTo s fd ⟨[u],[]⟩ [("_law_script",u)])/\∀base:Heap,(K w.params).In base->base.Ns mainGlobals mg->Es l.prog w (K w.params) mg base CX0 5 fa fd Xb (Ov (K w.params))) :
  PySem.W.WalkO q loose XP YP l.row.toRowW d [] (λf vs=>PySem.call f vs):=
 L2.Xi (n:=63) (k:=5) (x:="_law_script") (CX:=λ_=>CX0) (sp:=λw=>Ov (K w.params)) hn (by decide) hdf ⟨rq,by decide,by decide⟩ hY F (λ_ _ a ns hl _ hS=>⟨a,ns,rq,hS,hl,λ_=>rfl⟩) λ_ _ _ _ _ z=>z
end K04
/-! names that stay free of quick twins: the head comes through without them, and the compiled text is much smaller -/
namespace PySem.W.Fast
def tw1026766323593062856:=0
def tw14661816964028812081:=0
def tw7084155363330452749:=0
def tw17109832308530437768:=0
def tw4433018383221431158:=0
def tw11664266729259010737:=0
def tw3600524511871851279:=0
def tw9445547831614272509:=0
def tw7072779286837913284:=0
def tw16980643813602133679:=0
def tw4444804335001838707:=0
def tw9824800995929438729:=0
def tw12412560659013861895:=0
def tw11451967295920260550:=0
def tw1830911287755640265:=0
def tw11980389187951760699:=0
def tw4289358001149371258:=0
def tw13496381986106637565:=0
def tw77497499911425616:=0
def tw6907757691192782847:=0
def tw114801249537754948:=0
def tw7834364261616026907:=0
def tw8119208022904346604:=0
def tw1912653221911707457:=0
def tw14583000066418533247:=0
def tw3445679554082191432:=0
def tw18234173948152458135:=0
def tw10470890712204210228:=0
def tw15040523471886415366:=0
def tw1887637108700579093:=0
def tw11356781646058848171:=0
def tw17300320800139426750:=0
def tw16891848475563354885:=0
def tw15779114287043329340:=0
def tw6169362597465936092:=0
def tw15995058715591477541:=0
def tw3401211277522242040:=0
def tw15726214631218762976:=0
def tw478702038620204313:=0
def tw16990477501915406835:=0
def tw13585528324909789175:=0
def tw15917981747910870276:=0
def tw13337631216870464875:=0
def tw5584671302077294012:=0
def tw1813417572124139190:=0
def tw14478301804132941449:=0
def tw8824433573649884843:=0
def tw3464742292431711349:=0
def tw16176653771337241475:=0
def tw9139861738185485824:=0
end PySem.W.Fast
open PySem PySem.W PyProof.Rows
set_option maxRecDepth 100000 in
set_option maxHeartbeats 0 in
theorem PySem.Challenge.cw_warnloop_k04_wrong_plans_holds : PySem.Challenge.rw_warnloop_k04_wrong_plans.Holds := by
 w_on;o_law;k_head;(case hw=>w_witness2)
 k_fill
 refine K04.walk (l:=PySem.Challenge.rw_warnloop_k04_wrong_plans) rfl rfl (λw h Y=>PySem.W.kIn_of Y) ?F
 case F=>
  intro w mg fa h KX G hmg
  refine' K04.all_mk KX G hmg (.of ?ai0 ?li0 ?ci0 ?ki0) (.of ?ai1 ?li1 ?ci1 ?ki1) (.of ?ai2 ?li2 ?ci2 ?ki2) (.of ?ai3 ?li3 ?ci3 ?ki3) (.of ?ai4 ?li4 ?ci4 ?ki4) (.of ?ai5 ?li5 ?ci5 ?ki5) (.of ?ai6 ?li6 ?ci6 ?ki6) (.of ?ai7 ?li7 ?ci7 ?ki7) (.of ?ai8 ?li8 ?ci8 ?ki8) (.of ?ai9 ?li9 ?ci9 ?ki9) (.of ?fB ?bZ ?eG ?cJ) (.of ?fu ?bY ?eF ?cI) (.of ?fj ?bW ?eE ?cH) (.of ?eZ ?bV ?d9 ?cG) (.of ?eY ?bU ?d8 ?cF) (.of ?eX ?bT ?d7 ?cD) (.of ?eV ?bR ?dZ ?cC) (.of ?eU ?bQ ?dY ?cu) ?al ?ll ?cl ?kl ?z0 ?z1 ?z2 ?z3 ?z4 ?z5 ?z6 ?z7 ?z8 ?z9 ?z10 ?z11 ?z12 ?z13 ?z14 ?z15 ?z16 ?z17 ?z18 ?z19 ?z20 ?ao ?lo ?lq2 ?aWk ?lWk
  (case ai0 | li0 | ci0 | ki0 | ai1 | li1 | ci1 | ki1 | ai2 | li2 | ci2 | ki2 | ai3 | li3 | ci3 | ki3 | ai4 | li4 | ci4 | ki4 | ai5 | li5 | ci5 | ki5 | ai6 | li6 | ci6 | ki6 | ai7 | li7 | ci7 | ki7 | ai8 | li8 | ci8 | ki8 | ai9 | li9 | ci9 | ki9 | fB | bZ | eG | cJ | fu | bY | eF | cI | fj | bW | eE | cH | eZ | bV | d9 | cG | eY | bU | d8 | cF | eX | bT | d7 | cD | eV | bR | dZ | cC | eU | bQ | dY | cu=>k_is)
  (case al | ll | cl | kl | z0 | z1 | z2 | z3 | z4 | z5 | z6 | z7 | z8 | z9 | z10 | z11 | z12 | z13 | z14 | z15 | z16 | z17 | z18 | z19 | z20 | ao | lo | lq2 | aWk | lWk=>k_is)
