import PyProof.Rows.All
import Wide.All
import OpenK.AllK
import Wide.FinOn
import Lean
import PyProof.EqAt
import PyProof.EqKinds
import PyProof.TupleCall
import PySem.Challenge.RW_warnloop_k41_houses
set_option linter.all false
set_option Elab.async false
set_option maxRecDepth 100000
set_option maxHeartbeats 4000000
abbrev YA:=PySem.Value→PySem.Shared→Prop
abbrev YH:=Unit→PySem.Shared→Prop
abbrev YB:=PySem.Str→Option PySem.Value
abbrev YC:=List (PySem.Addr×PySem.Obj)
abbrev YD:=PySem.W.Frag
abbrev YI:=Array (Option PySem.Value)
abbrev YE:=List PySem.Value
abbrev YF:=List PySem.Str
abbrev YJ:=List PySem.Expr
abbrev YK:=Array PySem.DictEntry
theorem rq{α:Sort _}{a:α}:a=a:=rfl
local macro_rules|`(tactic|trivial)=>`(tactic|decide +kernel)
local macro_rules | `(tactic|ac_rfl) => `(tactic|exact ⟨rfl,rfl,rfl,by decide +kernel,rfl,by decide +kernel,by decide +kernel⟩)
open PySem.W (instObj hideAll hideAll_get lookIn plainGet hasDictIn findIn isFn emptyDict looks_findIn keepIn methodCall_KW kitOne kia_one callWith_K fnOf codeIn nsIn mg_of excIn subIn looks_subIn kat_cons kat_yes kas_ask mg_none_of)
abbrev Qaa:=@PySem.F.slot_dict_valueiterator_next
abbrev Qab:=@PyProof.Rows.callWith_type1
abbrev Qac:=@List.getD_eq_getElem?_getD
abbrev Qad:=@Array.getElem?_eq_some_iff
abbrev Qae:=@List.getElem?_eq_some_iff
abbrev Qaf:=@List.mem_or_eq_of_mem_set
abbrev Qag:=@PySem.F.slot_list_append
abbrev Qah:=@PySem.F.type_list_append
abbrev Qai:=@List.getElem?_eq_getElem
abbrev Qaj:=@PySem.F.plainAttrs_list
abbrev Qak:=@PySem.Heap.get?_push_of_some
abbrev Qal:=@PySem.Heap.get?_update_other
abbrev Qam:=@List.getElem?_set_self
abbrev Qan:=@PySem.F.plain_max_loop
abbrev Qao:=@PySem.SeqAt.canLay_of_shaped
abbrev Qap:=@List.mem_append_right
abbrev Qaq:=@List.length_replicate
abbrev Qar:=@PySem.Heap.get?_update_self
abbrev Qas:=@List.length_filter_le
abbrev Qat:=@List.mem_of_getElem?
abbrev Qau:=@List.mem_cons_of_mem
abbrev Qav:=@List.mem_append_left
abbrev Qaw:=@List.getElem?_set_ne
abbrev Qax:=@List.getElem?_of_mem
abbrev Qay:=@List.replicate_succ'
abbrev Qaz:=@PySem.Around.under_plainId
abbrev QaA:=@PySem.Heap.get?_push_size
abbrev QaB:=@beq_eq_false_iff_ne
abbrev QaC:=@PySem.mem_of_lookup
abbrev QaD:=@List.replicate_succ
abbrev QaE:=@Bool.false_ne_true
abbrev QaF:=@List.mem_singleton
abbrev QaH:=@Nat.lt_of_lt_of_le
abbrev QaI:=@List.length_append
abbrev QaJ:=@List.mem_cons_self
abbrev QaK:=@decide_eq_true_iff
abbrev QaL:=@List.filter_append
abbrev QaM:=@PySem.wpAny_Call_Name_kw
abbrev QaN:=@List.zip_cons_cons
abbrev QaO:=@Bool.false_eq_true
abbrev QaP:=@Int.emod_lt_of_pos
abbrev QaQ:=@PySem.Calls.spliced_cons
abbrev QaS:=@List.pairwise_cons
abbrev QaT:=@List.size_toArray
abbrev QaU:=@Int.toNat_natCast
abbrev QaV:=@List.getElem?_map
abbrev QaW:=@PySem.wpAny_truthy_bool
abbrev QaX:=@of_decide_eq_true
abbrev QaY:=@List.length_range
abbrev QaZ:=@PySem.wpAny_loadPart_at
abbrev Qba:=@Bool.and_eq_true
abbrev Qbb:=@List.take_length
abbrev Qbc:=@List.filter_cons
abbrev Qbd:=@PySem.wpAny_eqBool_int
abbrev Qbe:=@List.not_mem_nil
abbrev Qbf:=@List.length_cons
abbrev Qbg:=@Nat.lt_succ_self
abbrev Qbh:=@PySem.wpAny_call_entry
abbrev Qbi:=@beq_self_eq_true
abbrev Qbk:=@List.length_take
abbrev Qbl:=@List.length_map
abbrev Qbm:=@decide_eq_false
abbrev Qbn:=@List.mem_append
abbrev Qbo:=@List.map_append
abbrev Qbp:=@Option.some.inj
abbrev Qbq:=@List.append_nil
abbrev Qbt:=@List.filter_nil
abbrev Qbu:=@Bool.eq_iff_iff
abbrev Qbv:=@List.length_set
abbrev Qbw:=@PySem.PassesOwn.never
abbrev Qbx:=@List.nodup_cons
abbrev Qby:=@List.find?_cons
abbrev Qbz:=@PySem.codeAny_builtin
abbrev QbB:=@Int.emod_nonneg
abbrev QbC:=@decide_eq_true
abbrev QbD:=@PySem.Heap.size_push
abbrev QbE:=@List.mem_range
abbrev QbF:=@List.mem_cons
abbrev QbG:=@PySem.Paired.length
abbrev QbH:=@Nat.lt_irrefl
abbrev QbJ:=@List.map_cons
abbrev QbK:=@Int.lt_irrefl
abbrev QbL:=@PySem.wpAny_holding
abbrev QbM:=@PySem.wpAny_standAt
abbrev QbN:=@PySem.plainId_quiet
abbrev QbO:=@PySem.Heap.lt_size
abbrev QbP:=@Nat.ne_of_lt
abbrev QbQ:=@List.mem_map
abbrev QbR:=@Nat.le_trans
abbrev QbS:=@Nat.le_of_lt
abbrev QbT:=@PySem.codeAny_mono
abbrev QbU:=@List.map_set
abbrev QbV:=@Nat.le_refl
abbrev QbW:=@Nat.zero_le
abbrev QbX:=@PySem.wpAny_bind
abbrev QbY:=@PySem.wpAny_pure
abbrev QbZ:=@PySem.wpAny_mono
abbrev Qca:=@PyProof.Rows.take_snoc
namespace L2
open PySem PySem.Spec PyProof.Rows
abbrev Key:=Sum Int Str
def Kd:Key->Value->Bool
 | .inl k,v=>Value.isInt k v
 | .inr x,v=>Value.isStrOf x v
def kZ (w:World):Key->Int
 | .inl k=>hashInt k
 | .inr x=>hashStr w x
theorem Cd:∀{k:Key} {v:Value},Kd k v=true->(∃i t,k=Sum.inl i/\v=Value.int i t)\/(∃x t,k=Sum.inr x/\v=Value.str x t)
 | .inl i,v,h=>by
  obtain⟨t,e⟩:=Value.isInt_shape (k:=i) (v:=v) h;exact .inl ⟨i,t,rq,e⟩
 | .inr x,v,h=>by
  obtain⟨t,e⟩:=Value.isStrOf_shape (x:=x) (v:=v) h;exact .inr ⟨x,t,rq,e⟩
theorem Vl (i:Int) (t:Tok):Kd (.inl i) (.int i t)=true:=by simp[Kd,Value.isInt]
theorem Vk (x:Str) (t:Tok):Kd (.inr x) (.str x t)=true:=by simp[Kd,Value.isStrOf]
theorem cW (a b:Int):decide ((Sum.inl a:Key)=Sum.inl b)=(a == b):=by
 by_cases e:a=b
 ·subst e;simp
 ·have h:¬(Sum.inl a:Key)=Sum.inl b:=λq=>e (Sum.inl.inj q);rw[Qbm h];exact (QaB.mpr e).symm
theorem cT (a b:Str):decide ((Sum.inr a:Key)=Sum.inr b)=decide (a=b):=by
 by_cases e:a=b
 ·subst e;simp
 ·have h:¬(Sum.inr a:Key)=Sum.inr b:=λq=>e (Sum.inr.inj q);rw[Qbm h,Qbm e]
theorem cV (a:Int) (b:Str):decide ((Sum.inl a:Key)=Sum.inr b)=false:=Qbm (λq=>nomatch q)
theorem cU (a:Str) (b:Int):decide ((Sum.inr a:Key)=Sum.inl b)=false:=Qbm (λq=>nomatch q)
def Cv (prog:Program) (w:World):PySem.KeyKind prog w Key where
 is:=Kd
 hash:=kZ w
 inj:=λv a b ha hb=>by
  rcases Cd ha with⟨i,t,rfl,rfl⟩|⟨x,t,rfl,rfl⟩
  ·rcases Cd hb with⟨j,u,rfl,e⟩|⟨y,u,rfl,e⟩
   ·injection e with e1 _;rw[e1]
   ·exact nomatch e
  ·rcases Cd hb with⟨j,u,rfl,e⟩|⟨y,u,rfl,e⟩
   ·exact nomatch e
   ·injection e with e1 _;rw[e1]
 byValue:=λk v h=>by
  rcases Cd h with⟨i,t,rfl,rfl⟩|⟨x,t,rfl,rfl⟩ <;> rfl
 pyHash:=λhv h=>by
  rcases Cd hv with⟨i,t,rfl,rfl⟩|⟨x,t,rfl,rfl⟩
  ·exact wpAny_pyHash_int h
  ·exact wpAny_pyHash_str h
 eqBool:=λhu hv h=>by
  rcases Cd hu with⟨i,t,rfl,rfl⟩|⟨x,t,rfl,rfl⟩
  ·rcases Cd hv with⟨j,u,rfl,rfl⟩|⟨y,u,rfl,rfl⟩
   ·rw[cW] at h;exact Qbd h
   ·rw[cV] at h;exact SeqAt.EqAt.int_str i t y u _ _ _ _ h
  ·rcases Cd hv with⟨j,u,rfl,rfl⟩|⟨y,u,rfl,rfl⟩
   ·rw[cU] at h;exact SeqAt.EqAt.str_int x t j u _ _ _ _ h
   ·rw[cT] at h;exact wpAny_eqBool_str h
 «strs»:=λk x t v h=>by
  rcases Cd h with⟨i,u,rfl,e⟩|⟨y,u,rfl,e⟩
  ·exact nomatch e
  ·injection e with e1 _;subst e1;cases v <;> rfl
theorem QK (prog:Program) (w:World) (i:Int) (t:Tok):(Cv prog w).is (.inl i) (.int i t)=true:=Vl i t
theorem QJ (prog:Program) (w:World) (x:Str) (t:Tok):(Cv prog w).is (.inr x) (.str x t)=true:=Vk x t
inductive V where
 | non | bl (b:Bool) | int (i:Int) | str (x:Str) | byt (b:Array UInt8) | flt (b:UInt64) | ref (a:Addr) | ty (n:String)
 deriving DecidableEq
def RelV:V->Value->Prop
 | .non,u=>u=Value.none
 | .bl b,u=>u=Value.bool b
 | .int i,u=>∃t,u=Value.int i t
 | .str x,u=>∃t,u=Value.str x t
 | .byt b,u=>∃t,u=Value.bytes b t
 | .flt b,u=>∃t,u=Value.float b t
 | .ref a,u=>u=Value.ref a
 | .ty n,u=>u=Value.type n
abbrev YG:=List V
abbrev Vals:YG->YE->Prop:=Paired RelV
theorem Vals.length {xs:YG} {us:YE} (r:Vals xs us):xs.length=us.length:=QbG r
theorem Vals.get:∀{xs:YG} {us:YE} {i:Nat} {x:V},Vals xs us->xs[i]?=some x->∃u,us[i]?=some u/\RelV x u
 | _,_,_,_,.nil,e=>by simp at e
 | _,_,0,_,.cons r _,e=>by simp at e;subst e;exact⟨_,rfl,r⟩
 | _,_,i+1,x,.cons _ t,e=>by
  obtain⟨u,h1,h2⟩:=Vals.get (i:=i) (x:=x) t (by simpa using e);exact⟨u,by simpa using h1,h2⟩
theorem Vals.set {x:V} {u:Value} (r:RelV x u):∀{xs:YG} {us:YE} (i:Nat),Vals xs us->Vals (xs.set i x) (us.set i u)
 | _,_,_,.nil=>.nil
 | _,_,0,.cons _ t=>.cons r t
 | _,_,i+1,.cons q t=>.cons q (Vals.set r i t)
theorem Vals.append:∀{xs ys:YG} {us ws:YE},Vals xs us->Vals ys ws->Vals (xs++ys) (us++ws)
 | _,_,_,_,.nil,s=>s
 | _,_,_,_,.cons r t,s=>.cons r (Vals.append t s)
theorem Vals.take:∀{xs:YG} {us:YE} (n:Nat),Vals xs us->Vals (xs.take n) (us.take n)
 | _,_,0,_=>.nil
 | _,_,_+1,.nil=>.nil
 | _,_,n+1,.cons r t=>.cons r (Vals.take n t)
theorem Vals.drop:∀{xs:YG} {us:YE} (n:Nat),Vals xs us->Vals (xs.drop n) (us.drop n)
 | _,_,0,r=>r
 | _,_,_+1,.nil=>.nil
 | _,_,n+1,.cons _ t=>Vals.drop n t
def FW:Option V->Option Value->Prop
 | some v,some u=>RelV v u
 | none,none=>True
 | _,_=>False
def KV {κ : Type}:List (κ×V)->List (κ×Value)->Prop:=Paired λ(p:κ×V) (q:κ×Value)=>p.1=q.1/\RelV p.2 q.2
def kV:Key->V
 | .inl i=>.int i
 | .inr x=>.str x
inductive HO where
 | lst (xs:YG)
 | tup (xs:YG)
 | dK (kvs:List (Key×V)) | dT (kvs:List (List Key×V))
 | set (S:Int->Bool) (n:Nat)
 | ins (C dx:Addr) (fs:List (Str×V))
 | own (x:Addr)
 | xd (fs:List (Str×V))
 | met (f x:Addr)
 | rng (lo hi:Int)
 | frz (o:Obj) (u:HO)
 | tbl (ps:Array Value)
 | ext (φ : Heap->Prop)
abbrev Hp:=Addr->Option HO
def upd (H:Hp) (a:Addr) (o:HO):Hp:=λb=>if b=a then some o else H b
theorem Ab {H:Hp} {a:Addr} {o:HO}:upd H a o a=some o:=by unfold upd;rw[if_pos rfl]
theorem Aj {H:Hp} {a b:Addr} {o:HO} (h:b≠a):upd H a o b=H b:=by unfold upd;rw[if_neg h]
theorem gq {H:Hp} {a b:Addr} {o u:HO} (h:H a=some o) (h':H b=some u) (d:o≠u):a≠b:=by
 intro e;subst e;rw[h] at h';exact d (Qbp h')
theorem Aq {H:Hp} {a b:Addr} {o:HO} (h:H a=some o) (h':H b=none):a≠b:=by
 intro e;subst e;rw[h] at h';cases h'
section
variable (P:Program) (w:World)
def Bd (H:Hp) (h:Heap) (a:Addr):HO->Prop
 | .lst xs=>xs.length<=sizeLine/\∃(its:YE) (n:Nat),Vals xs its/\h.get? a=some { cls:=.type "list",data:=.seq its.toArray n }
 | .tup xs=>xs.length<=sizeLine/\∃its:YE,Vals xs its/\IsTup h a its.toArray
 | .dK kvs=>kvs.length<=sizeLine/\(a == sysModules)=false/\∃vs,KV kvs vs/\h.DictOf (Cv P w) a vs
 | .dT kvs=>kvs.length<=sizeLine/\(a == sysModules)=false/\∃xs:List (List Key×Addr×Value),
   Paired (λ(p:List Key×V) (q:List Key×Addr×Value)=>p.1=q.1/\H q.2.1=some (.tup (p.1.map kV))/\RelV p.2 q.2.2) kvs xs /\
   ∃o es ep,h.get? a=some o/\o.ExactDict/\o.data=.dict es ep/\es.toList=xs.map (entryOfKey (tupleKind (Cv P w)))/\(xs.map (·.1)).Nodup
 | .set S n=>h.SetOf (intKind P w) a S n
 | .ins C dx fs=>H dx=some (.own a)/\fs.length<=1000/\dx≠a/\h.get? a=some (instObj C dx) /\
   ∃mA,h.Ns1 dx mA/\(∀f,FW (fs.lookup f) (mA f))/\PySem.Within mA (fs.map (·.1))
 | .own _=>∃o,h.get? a=some o
 | .xd fs=>∃mA,h.Ns1 a mA/\∀f,FW (fs.lookup f) (mA f)
 | .rng lo hi=>∃t u v,h.get? a=some { cls:=.type "range",data:=.fields #[.int lo t,.int hi u,.int 1 v] }
 | .frz o u=>h.get? a=some o/\Bd H h a u
 | .tbl ps=>h.get? a=some { cls:=.none,data:=.fields ps }
 | .met f x=>h.get? a=some (PySem.W.methodObj (.ref f) (.ref x))
 | .ext φ=>φ h/\(∃o,h.get? a=some o)/\∀h1 h2:Heap,φ h1->(∀o,h1.get? a=some o->h2.get? a=some o)->φ h2
def HOk (H:Hp) (h:Heap):Prop:=∀a o,H a=some o->Bd P w H h a o
end
section
variable {P:Program} {w:World} {H H':Hp} {h h':Heap} {a:Addr} {o:HO}
theorem Bd.lt (x:Bd P w H h a o):a < h.objs.size:=by
 cases o with
 | lst xs=>obtain⟨_,_,_,_,e⟩:=x;exact QbO e
 | tup xs=>obtain⟨_,_,_,p⟩:=x;exact p.lt
 | dK kvs=>obtain⟨_,_,_,_,o,_,_,e,_⟩:=x;exact QbO e
 | dT kvs=>obtain⟨_,_,_,_,o,_,_,e,_⟩:=x;exact QbO e
 | set S n=>obtain⟨o,_,_,_,e,_⟩:=x;exact QbO e
 | ins C dx fs=>obtain⟨_,_,_,e,_⟩:=x;exact QbO e
 | own y=>obtain⟨_,e⟩:=x;exact QbO e
 | xd fs=>obtain⟨_,⟨_,_,_,e,_⟩,_⟩:=x;exact QbO e
 | rng lo hi=>obtain⟨_,_,_,e⟩:=x;exact QbO e
 | frz ob u=>obtain⟨e,_⟩:=x;exact QbO e
 | tbl ps=>exact QbO (show h.get? a=some _ from x)
 | met f y=>exact QbO (show h.get? a=some _ from x)
 | ext φ=>obtain⟨_,⟨_,e⟩,_⟩:=x;exact QbO e
theorem Paired.Ia {α β : Type} {F G:α->β->Prop}:∀{l₁ : List α} {l₂ : List β},Paired F l₁ l₂->(∀a b,F a b->G a b)->Paired G l₁ l₂
 | _,_,.nil,_=>.nil
 | _,_,.cons r t,f=>.cons (f _ _ r) (Paired.Ia t f)
theorem Bd.stay (x:Bd P w H h a o) (k:∀b u,(b=a\/H b=some (.own a))->h.get? b=some u->h'.get? b=some u)
  (ho:∀b,H b=some (.own a)->H' b=some (.own a)) (ht:∀b xs,H b=some (.tup xs)->H' b=some (.tup xs)):Bd P w H' h' a o:=by
 induction o with
 | lst xs=>obtain⟨z,its,n,r,e⟩:=x;exact⟨z,its,n,r,k _ _ (.inl rfl) e⟩
 | tup xs=>obtain⟨z,its,r,ob,e,c⟩:=x;exact⟨z,its,r,ob,k _ _ (.inl rfl) e,c⟩
 | dK kvs=>obtain⟨z,y,vs,r,ob,es,ep,e,c⟩:=x;exact⟨z,y,vs,r,ob,es,ep,k _ _ (.inl rfl) e,c⟩
 | dT kvs=>
  obtain⟨z,y,xs,r,ob,es,ep,e,c⟩:=x;exact⟨z,y,xs,Paired.Ia r λp q z=>⟨z.1,ht _ _ z.2.1,z.2.2⟩,ob,es,ep,k _ _ (.inl rfl) e,c⟩
 | set S n=>obtain⟨ob,es,ep,t,e,c⟩:=x;exact⟨ob,es,ep,t,k _ _ (.inl rfl) e,c⟩
 | ins C dx fs=>
  obtain⟨d,z,ne,e,mA,⟨od,es,ep,e2,c⟩,r⟩:=x;exact⟨ho _ d,z,ne,k _ _ (.inl rfl) e,mA,⟨od,es,ep,k _ _ (.inr d) e2,c⟩,r⟩
 | own y=>obtain⟨ob,e⟩:=x;exact⟨ob,k _ _ (.inl rfl) e⟩
 | xd fs=>obtain⟨mA,⟨od,es,ep,e,c⟩,r⟩:=x;exact⟨mA,⟨od,es,ep,k _ _ (.inl rfl) e,c⟩,r⟩
 | rng lo hi=>obtain⟨t,u,v,e⟩:=x;exact⟨t,u,v,k _ _ (.inl rfl) e⟩
 | frz ob u ih=>obtain⟨e,q⟩:=x;exact⟨k _ _ (.inl rfl) e,ih q⟩
 | tbl ps=>
  have e:h.get? a=some { cls:=.none,data:=.fields ps }:=x;show h'.get? a=some { cls:=.none,data:=.fields ps };exact k a _ (.inl rfl) e
 | met f y=>
  have e:h.get? a=some (PySem.W.methodObj (.ref f) (.ref y)):=x;show h'.get? a=some (PySem.W.methodObj (.ref f) (.ref y));exact k a _ (.inl rfl) e
 | ext φ=>obtain⟨p,⟨o,e⟩,st⟩:=x;exact⟨st _ _ p λo q=>k _ _ (.inl rfl) q,⟨o,k _ _ (.inl rfl) e⟩,st⟩
theorem HOk.lt (x:HOk P w H h) (e:H a=some o):a < h.objs.size:=(x a o e).lt
theorem HOk.fresh (x:HOk P w H h) (e:h.objs.size<=a):H a=none:=by
 cases q:H a with
 | none=>rfl
 | some u=>exact absurd (QaH (x.lt q) e) (QbH _)
theorem HOk.kept (x:HOk P w H h) (k:∀b u,h.get? b=some u->h'.get? b=some u):HOk P w H h':=λa o e=>
 (x a o e).stay (λb u _ q=>k b u q) (λ_ q=>q) λ_ _ q=>q
theorem HOk.laid (x:HOk P w H h) (k:∀b u,h.get? b=some u->h'.get? b=some u) (hp:h.objs.size<=a) (new:Bd P w (upd H a o) h' a o):HOk P w (upd H a o) h':=λb u e=>by
 have hn:=x.fresh hp;by_cases hb:b=a
 ·subst hb;rw[Ab] at e;cases e;exact new
 ·rw[Aj hb] at e;exact (x b u e).stay (λc v _ q=>k c v q) (λc q=>by rw[Aj (Aq q hn)];exact q) λc xs q=>by rw[Aj (Aq q hn)];exact q
end
def Rd (H:Hp) (a:Addr) (u:HO):Prop:=H a=some u\/∃o,H a=some (.frz o u)
theorem Rd.ok {P:Program} {w:World} {H:Hp} {h:Heap} {a:Addr} {u:HO} (r:Rd H a u) (x:HOk P w H h):Bd P w H h a u:=by
 rcases r with r |⟨o,r⟩
 ·exact x a u r
 ·obtain⟨_,q⟩:=x a _ r;exact q
def Mut:Option HO->Prop
 | some (.lst _)=>True
 | some (.dK _)=>True
 | some (.dT _)=>True
 | some (.set _ _)=>True
 | some (.ins _ _ _)=>True
 | some (.ext _)=>True
 | _=>False
section
variable {P:Program} {w:World} {H:Hp} {h h':Heap} {x e:Addr} {o':HO}
theorem HOk.write (ok:HOk P w H h) (mu:Mut (H x)) (he:e=x\/H e=some (.own x)) (k:∀b u,b≠e->h.get? b=some u->h'.get? b=some u) (heo:∃u,h'.get? e=some u)
  (new:Bd P w (upd H x o') h' x o'):HOk P w (upd H x o') h':=λb u q=>by
 have cG:∀c y,H c=some (.own y)->c≠x:=λc y r z=>by subst z;rw[r] at mu;exact mu
 have Sy:∀c xs,H c=some (.tup xs)->c≠x:=λc xs r z=>by subst z;rw[r] at mu;exact mu
 by_cases hb:b=x
 ·subst hb;rw[Ab] at q;cases q;exact new
 ·rw[Aj hb] at q;by_cases hbe:b=e
  ·have q':H b=some (.own x):=by
    rcases he with z | z
    ·exact absurd (hbe.trans z) hb
    ·rw[hbe];exact z
   rw[q] at q';cases q';obtain⟨v,hv⟩:=heo;exact⟨v,by rw[hbe];exact hv⟩
  ·refine (ok b u q).stay (λc v hc r=>k c v ?_ r) (λc r=>by rw[Aj (cG c b r)];exact r) λc xs r=>by rw[Aj (Sy c xs r)];exact r
   rcases hc with rfl | hc
   ·exact hbe
   ·rintro rfl;rcases he with z | z
    ·exact cG c b hc z
    ·rw[hc] at z;cases z;exact hb rfl
end
structure Un (fs ex:List Addr) (H H':Hp) (h h':Heap):Prop where
 keep:∀b o,h.get? b=some o->H b=none->b∉fs->b∉ex->h'.get? b=some o
 slot:∀b o,h.get? b=some o->H b=none->b∈fs->b∉ex->∃sl,h'.get? b=some { o with slots:=sl }
 free:∀b o,h.get? b=some o->H b=none->b∉ex->H' b=none
 there:∀b o,h.get? b=some o->b∉ex->∃o',h'.get? b=some o'
 tups:∀b xs,H b=some (.tup xs)->H' b=some (.tup xs)
 Em:∀b o u,H b=some (.frz o u)->H' b=some (.frz o u)
 Fg:∀b ps,H b=some (.tbl ps)->∃more,H' b=some (.tbl (ps++more))
section
variable {fs fs' ex ex':List Addr} {H H1 H2:Hp} {h h1 h2 h':Heap} {a x e:Addr} {o:HO}
theorem Un.any (u:Un fs ex H H1 h h1) {b:Addr} {ob:Obj} (q:h.get? b=some ob) (n:H b=none) (hx:b∉ex):∃sl,h1.get? b=some { ob with slots:=sl }:=by
 by_cases hb:b∈fs
 ·exact u.slot b ob q n hb hx
 ·exact⟨ob.slots,u.keep b ob q n hb hx⟩
theorem Un.kept (k:∀b u,h.get? b=some u->h'.get? b=some u):Un fs ex H H h h':=
 ⟨λb ob q _ _ _=>k b ob q,λb ob q _ _ _=>⟨ob.slots,k b ob q⟩,λ_ _ _ n _=>n,λb ob q _=>⟨ob,k b ob q⟩,λ_ _ q=>q,λ_ _ _ q=>q,λ_ ps q=>⟨#[],by rw[q];simp⟩⟩
theorem Un.refl:Un fs ex H H h h:=Un.kept λ_ _ q=>q
theorem Un.laid (k:∀b u,h.get? b=some u->h'.get? b=some u) (hp:h.objs.size<=a) (hn:H a=none):Un fs ex H (upd H a o) h h' where
 keep:=λb u q _ _ _=>k b u q
 slot:=λb u q _ _ _=>⟨u.slots,k b u q⟩
 free:=λb u q n _=>by rw[Aj (QbP (QaH (QbO q) hp))];exact n
 there:=λb u q _=>⟨u,k b u q⟩
 tups:=λb xs q=>by rw[Aj (Aq q hn)];exact q
 Em:=λb u xs q=>by rw[Aj (Aq q hn)];exact q
 Fg:=λb ps q=>⟨#[],by rw[Aj (Aq q hn),q];simp⟩
theorem Un.write (mu:Mut (H x)) (he:e=x\/H e=some (.own x)) (k:∀b u,b≠e->h.get? b=some u->h'.get? b=some u) (heo:∃u,h'.get? e=some u):Un fs ex H (upd H x o) h h':=by
 have hx:∀b,H b=none->b≠x:=λb n z=>by subst z;rw[n] at mu;exact mu
 have hb:∀b,H b=none->b≠e:=λb n z=>by
  subst z;rcases he with r | r
  ·exact hx b n r
  ·rw[n] at r;cases r
 have hm:∀b u,H b=some u->¬Mut (some u)->b≠x:=λb u q nm z=>by subst z;rw[q] at mu;exact nm mu
 refine⟨λb u q n _ _=>k b u (hb b n) q,λb u q n _ _=>⟨u.slots,k b u (hb b n) q⟩,λb u q n _=>by rw[Aj (hx b n)];exact n,λb u q _=>?_,
  λb xs q=>by rw[Aj (hm b _ q λz=>z)];exact q,λb u xs q=>by rw[Aj (hm b _ q λz=>z)];exact q,λb ps q=>⟨#[],by rw[Aj (hm b _ q λz=>z),q];simp⟩⟩
 by_cases hbe:b=e
 ·subst hbe;exact heo
 ·exact⟨u,k b u hbe q⟩
end
def trk (h:Heap) (H:Hp):List Addr:=(List.range h.objs.size).filter λa=>(H a).isSome
def Je (h:Heap) (H:Hp):Heap:=hideAll h (trk h H)
theorem Vr (h:Heap) (H:Hp):(Je h H).objs.size=h.objs.size:=PySem.W.hideAll_size _ _
theorem Yq {h:Heap} {H:Hp} {b:Addr} {o:Obj} (e:h.get? b=some o) (n:H b=none):(Je h H).get? b=some o:=
 hideAll_get _ e λhm=>by
  have q:(H b).isSome=true:=(List.mem_filter.mp hm).2;rw[n] at q;simp at q
theorem ao {h:Heap} {H:Hp} {b:Addr} {o:Obj} (e:(Je h H).get? b=some o):h.get? b=some o/\H b=none:=by
 have e':h.get? b=some o:=PySem.W.of_hideAll (trk h H) e;refine⟨e',?_⟩;cases q:H b with
 | none=>rfl
 | some x=>
  have hm:b∈trk h H:=List.mem_filter.mpr ⟨QbE.mpr (QbO e'),by simp[q]⟩;have z:(Je h H).get? b=none:=PySem.W.hideAll_none (trk h H) hm;rw[z] at e;cases e
def Kl (g h:Heap) (L:Addr):YC:=(List.range h.objs.size).filterMap λa=>if a=L\/(g.get? a).isSome=true then none else (h.get? a).map λo=>(a,o)
theorem Eb {g h:Heap} {L a:Addr} {o:Obj} (h1:a≠L) (h2:g.get? a=none) (h3:h.get? a=some o):(a,o)∈Kl g h L:=
 List.mem_filterMap.mpr ⟨a,QbE.mpr (QbO h3),by simp[h1,h2,h3]⟩
theorem Mj {g h:Heap} {L:Addr} {p:Addr×Obj} (hp:p∈Kl g h L):p.1≠L/\g.get? p.1=none/\h.get? p.1=some p.2:=by
 obtain⟨b,_,e⟩:=List.mem_filterMap.mp hp;split at e
 ·cases e
 ·rename_i hn;cases q:h.get? b with
  | none=>rw[q] at e;simp at e
  | some u=>
   rw[q] at e;simp only[Option.map_some,Option.some.injEq] at e;subst e;refine⟨λz=>hn (.inl z),?_,q⟩;show g.get? b=none;cases r:g.get? b with
   | none=>rfl
   | some v=>exact (hn (.inr (by simp[r]))).elim
def rest (g h:Heap) (L d:Addr):YC:=(Kl g h L).filter λp=>decide (p.1≠d)
theorem O6 {g h:Heap} {L:Addr}:News g L h (Kl g h L):=λp hp=>let ⟨a,b,c⟩:=Mj hp;⟨c,a,b⟩
structure Mod (K:YD) (mg:YB) (base:Heap):Prop where
 kin:K.In base
 glob:base.Ns mainGlobals mg
 blt:∃mb,base.Ns builtinsNs mb/\∀x:Str,x≠"__name__"->mb x=bootBuiltins x
 nolimit:base.NoLimit
structure Cx where
 prog:Program
 w:World
 K:YD
 mg:YB
 base:Heap
 A:Around
 N:YF
 s₀ : Shared
 H₀ : Hp
 env:Env
 outer:List Env
 stack:List Env
 ex:List Addr
 fn:Str->Bool
 calm:Bool
 pn:YC
 xe:YA
def frs (l:List Env):List Addr:=l.filterMap (·.frame)
abbrev Cx.fs (X:Cx):List Addr:=frs X.outer
def Vis (sc:Scope) (x:Str):Prop:=sc.names.lookup x=some .local\/sc.names.lookup x=some .cell\/sc.names.lookup x=some .free
def Loc (sc:Scope) (x:Str):Prop:=sc.names.lookup x=some .local\/sc.names.lookup x=some .cell
def Look (env:Env) (h:Heap) (m:YB) (x:Str) (u:Value):Prop:=
 (env.kindOf x=some .local/\m x=some u)\/((env.kindOf x=some .cell\/env.kindOf x=some .free)/\∃c,env.cells.lookup x=some c/\h.IsCell c (some u))
structure Cx.Ok (X:Cx):Prop where
 mod:Mod X.K X.mg X.base
 kind:X.env.scope.kind=.function
 glob:X.env.globals=mainGlobals
 blt:X.env.builtins=builtinsNs
 above:X.s₀.heap.objs.size<=X.env.locals
 inj:∀x y c,X.env.cells.lookup x=some c->X.env.cells.lookup y=some c->x=y
 has:∀x,(X.env.kindOf x=some .cell\/X.env.kindOf x=some .free)->∃c,X.env.cells.lookup x=some c
 cab:∀x c,X.fn x=true->X.env.cells.lookup x=some c->X.s₀.heap.objs.size<=c
 hd:X.calm=true->X.A.handled=none
 frames:X.A.frames=some X.stack
 stk:X.stack=X.outer\/(X.stack=X.env::X.outer/\X.env.frame=some X.env.locals)
 exf:∀b∈X.ex,b≠X.env.locals/\∀x c,X.env.cells.lookup x=some c->c≠b
 bs:∀b o,X.base.get? b=some o->X.s₀.heap.get? b=some o/\X.H₀ b=none
 bsz:X.base.objs.size<=X.s₀.heap.objs.size
 Hr:∀b o,X.base.get? b=some o->b∉X.ex
 GF:∀b∈X.ex,b∉X.fs
 Ds:X.s₀.heap.FunFrames X.base X.outer
 frf:∀b∈X.fs,X.H₀ b=none
structure Inv (X:Cx) (jb:YC) (Z : List (Option V)) (H:Hp) (s:Shared):Prop where
 ok:X.Ok
 os:s.os=X.s₀.os
 bare:AllBare s.gens
 base:Un X.fs X.ex X.H₀ H X.s₀.heap s.heap
 loc:∃m,s.heap.Ns X.env.locals m/\∀(i:Nat) (x:Str) (v:V),X.N[i]?=some x->Z[i]?=some (some v)->Vis X.env.scope x->∃u,RelV v u/\Look X.env s.heap m x u
 cell:∀x c,X.env.cells.lookup x=some c->∃v,s.heap.IsCell c v
 free:H X.env.locals=none
 Dg:∀x c,X.env.cells.lookup x=some c->H c=none
 pin:∀p∈X.pn++jb,s.heap.get? p.1=some p.2/\H p.1=none/\p.1≠X.env.locals/\p.1∉X.fs/\∀v,p.2.data≠.cell v
 hok:HOk X.prog X.w H s.heap
 len:Z.length=X.N.length
section
variable {X:Cx} {jb:YC} {Z : List (Option V)} {H H':Hp} {s:Shared} {h':Heap}
theorem Cx.Ok.kE (ok:X.Ok) {b:Addr} {o:Obj} (e:X.base.get? b=some o):b∉X.fs:=λhb=>by
 have:=(ok.Ds.mem hb).1;rw[e] at this;cases this
theorem Inv.bs (I:Inv X jb Z H s):∀b o,X.base.get? b=some o->s.heap.get? b=some o/\H b=none:=λb o e=>
 ⟨I.base.keep b o (I.ok.bs b o e).1 (I.ok.bs b o e).2 (I.ok.kE e) (I.ok.Hr b o e),I.base.free b o (I.ok.bs b o e).1 (I.ok.bs b o e).2 (I.ok.Hr b o e)⟩
theorem Inv.bk (I:Inv X jb Z H s):∀b o,X.base.get? b=some o->s.heap.get? b=some o:=λb o e=>(I.bs b o e).1
theorem Inv.mod (I:Inv X jb Z H s):Mod X.K X.mg X.base:=I.ok.mod
theorem Inv.kIn (I:Inv X jb Z H s):X.K.In s.heap:=I.ok.mod.kin.keeps I.bk
theorem Inv.nolimit (I:Inv X jb Z H s):s.heap.NoLimit:=I.ok.mod.nolimit.keeps I.bk
theorem Inv.lt (I:Inv X jb Z H s):X.env.locals < s.heap.objs.size:=let ⟨_,hn,_⟩:=I.loc;hn.lt
theorem Inv.sz (I:Inv X jb Z H s):X.s₀.heap.objs.size<=s.heap.objs.size:=QbR I.ok.above (QbS I.lt)
theorem Inv.cH (I:Inv X jb Z H s) {a:Addr} (h:s.heap.objs.size<=a):a∉X.fs:=λhb=>by
 obtain⟨_,o,ho,_⟩:=I.ok.Ds.mem hb;exact absurd (QaH (QbO ho) (QbR I.sz h)) (QbH _)
theorem Inv.cne (I:Inv X jb Z H s):∀x c,X.env.cells.lookup x=some c->c≠X.env.locals:=λx c e z=>by
 obtain⟨v,o,ho,hd⟩:=I.cell x c e;obtain⟨m,⟨o',es,ep,ho',hd',_⟩,_⟩:=I.loc;rw[z,ho'] at ho;cases ho;rw[hd'] at hd;cases hd
theorem Inv.Ds (I:Inv X jb Z H s):s.heap.FunFrames X.base X.outer:=by
 have all:∀(l:List Env),(∀b∈frs l,b∈X.fs)->X.s₀.heap.FunFrames X.base l->s.heap.FunFrames X.base l:=by
  intro l
  induction l with
  | nil=>intro _ _;trivial
  | cons env r ih=>
   intro hs hl;obtain⟨hk,⟨L,o,hf,hn,ho,hd⟩,hr⟩:=hl;have hL:L∈X.fs:=hs L (by unfold frs;rw[List.filterMap_cons,hf];exact QaJ);obtain⟨sl,e⟩:=I.base.slot L o ho (I.ok.frf L hL) hL λz=>I.ok.GF L z hL;exact⟨hk,⟨L,_,hf,hn,e,hd⟩,ih (λb hb=>hs b (by unfold frs;rw[List.filterMap_cons,hf];exact Qau _ hb)) hr⟩
 exact all X.outer (λ_ hb=>hb) I.ok.Ds
theorem Inv.stack (I:Inv X jb Z H s):s.heap.FunFrames X.base X.stack:=by
 rcases I.ok.stk with e |⟨e,hf⟩
 ·rw[e];exact I.Ds
 ·rw[e];obtain⟨m,hn,_⟩:=I.loc;refine .cons (by rw[I.ok.kind];decide) hf hn ?_ I.Ds;exact Heap.get?_none_of_le (QbR I.ok.bsz I.ok.above)
theorem Inv.La (I:Inv X jb Z H s):∀b∈frs X.stack,b∈X.env.locals::X.fs:=λb hb=>by
 rcases I.ok.stk with e |⟨e,hf⟩
 ·rw[e] at hb;exact Qau _ hb
 ·rw[e] at hb;unfold frs at hb;rw[List.filterMap_cons,hf] at hb;exact hb
theorem Inv.Ma (I:Inv X jb Z H s):∀b∈frs X.stack,H b=none:=λb hb=>by
 rcases QbF.mp (I.La b hb) with e | hb
 ·rw[e];exact I.free
 ·obtain⟨_,o,ho,_⟩:=I.ok.Ds.mem hb;exact I.base.free b o ho (I.ok.frf b hb) λz=>I.ok.GF b z hb
theorem Inv.step {g':Array GenState} {t':Nat} {d':Drawn} {ch:List Addr} (I:Inv X jb Z H s)
  (hch:∀b∈ch,(b∈X.ex\/X.s₀.heap.objs.size<=b)/\b≠X.env.locals/\(∀x c,X.env.cells.lookup x=some c->c≠b)/\∀p∈X.pn++jb,p.1≠b)
  (keep:∀b o,b≠X.env.locals->b∉X.fs->b∉ch->s.heap.get? b=some o->H b=none->h'.get? b=some o)
  (slot:∀b o,b≠X.env.locals->b∈X.fs->b∉ch->s.heap.get? b=some o->H b=none->∃sl,h'.get? b=some { o with slots:=sl }) (free:∀b o,b∉ch->s.heap.get? b=some o->H b=none->H' b=none)
  (there:∀b o,b∉ch->s.heap.get? b=some o->∃o',h'.get? b=some o')
  (tups:∀b xs,H b=some (.tup xs)->H' b=some (.tup xs)) (Em:∀b o u,H b=some (.frz o u)->H' b=some (.frz o u)) (Fg:∀b ps,H b=some (.tbl ps)->∃more,H' b=some (.tbl (ps++more)))
  (ns:∀m,s.heap.Ns X.env.locals m->h'.Ns X.env.locals m) (hok:HOk X.prog X.w H' h') (hg:AllBare g') :
  Inv X jb Z H' { s with heap:=h',gens:=g',drawn:=d',toks:=t' }:=by
 have neL:∀b o,X.s₀.heap.get? b=some o->b≠X.env.locals:=λb o e=>QbP (QaH (QbO e) I.ok.above);have neC:∀b o,X.s₀.heap.get? b=some o->b∉X.ex->b∉ch:=λb o e hx hb=>by
  rcases (hch b hb).1 with z | z
  ·exact hx z
  ·exact absurd (QaH (QbO e) z) (QbH _)
 have cellK:∀x c,X.env.cells.lookup x=some c->∀v,s.heap.IsCell c v->h'.IsCell c v:=λx c e v ⟨o,ho,hd⟩=>by
  have nch:c∉ch:=λz=>(hch c z).2.2.1 x c e rfl;by_cases hc:c∈X.fs
  ·obtain⟨sl,q⟩:=slot c o (I.cne x c e) hc nch ho (I.Dg x c e);exact⟨_,q,hd⟩
  ·exact⟨o,keep c o (I.cne x c e) hc nch ho (I.Dg x c e),hd⟩
 refine⟨I.ok,I.os,hg,⟨λb o e n hb hx=>?_,λb o e n hb hx=>?_,λb o e n hx=>?_,λb o e hx=>?_,λb xs e=>tups b xs (I.base.tups b xs e),λb o xs e=>Em b o xs (I.base.Em b o xs e),λb ps e=>?_⟩,?_,λx c e=>?_,?_,λx c e=>?_,λp hp=>?_,hok,I.len⟩
 ·exact keep b o (neL b o e) hb (neC b o e hx) (I.base.keep b o e n hb hx) (I.base.free b o e n hx)
 ·obtain⟨sl,e1⟩:=I.base.slot b o e n hb hx;obtain⟨sl',e2⟩:=slot b _ (neL b o e) hb (neC b o e hx) e1 (I.base.free b o e n hx);exact⟨sl',e2⟩
 ·obtain⟨o',e1⟩:=I.base.there b o e hx;exact free b o' (neC b o e hx) e1 (I.base.free b o e n hx)
 ·obtain⟨o',e1⟩:=I.base.there b o e hx;exact there b o' (neC b o e hx) e1
 ·obtain⟨m1,e1⟩:=I.base.Fg b ps e;obtain⟨m2,e2⟩:=Fg b _ e1;exact⟨m1++m2,by rw[e2,Array.append_assoc]⟩
 ·obtain⟨m,hn,hl⟩:=I.loc;refine⟨m,ns m hn,λi x v e1 e2 e3=>?_⟩;obtain⟨u,r,l⟩:=hl i x v e1 e2 e3;refine⟨u,r,?_⟩;rcases l with l |⟨k,c,e,z⟩
  ·exact .inl l
  ·exact .inr ⟨k,c,e,cellK x c e _ z⟩
 ·obtain⟨v,z⟩:=I.cell x c e;exact⟨v,cellK x c e v z⟩
 ·obtain⟨m,⟨o,_,_,ho,_⟩,_⟩:=I.loc;exact free _ o (λz=>(hch _ z).2.1 rfl) ho I.free
 ·obtain⟨v,o,ho,hd⟩:=I.cell x c e;exact free c o (λz=>(hch c z).2.2.1 x c e rfl) ho (I.Dg x c e)
 ·obtain⟨e,n,ne,nf,d⟩:=I.pin p hp;have nch:p.1∉ch:=λz=>(hch p.1 z).2.2.2 p hp rfl;exact⟨keep p.1 p.2 ne nf nch e n,free p.1 p.2 nch e n,ne,nf,d⟩
theorem Inv.un {t':Nat} (I:Inv X jb Z H s) (u:Un X.fs [] H H' s.heap h') (hok:HOk X.prog X.w H' h'):Inv X jb Z H' { s with heap:=h',toks:=t' }:=by
 obtain⟨m,⟨o,es,ep,ho,r⟩,_⟩:=id I.loc;obtain⟨sl,hL⟩:=u.any ho I.free (by simp);exact I.step (g':=s.gens) (d':=s.drawn) (ch:=[]) (λ_ z=>nomatch z) (λb o _ hb _ e n=>u.keep b o e n hb (by simp)) (λb o _ hb _ e n=>u.slot b o e n hb (by simp)) (λb o _ e n=>u.free b o e n (by simp)) (λb o _ e=>u.there b o e (by simp)) u.tups u.Em u.Fg (λm' hm=>by
  obtain⟨o',es',ep',ho',r'⟩:=hm;rw[ho] at ho';cases ho';exact⟨_,es',ep',hL,r'⟩) hok I.bare
theorem Inv.call {g':Array GenState} {t':Nat} {d':Drawn} {ch:List Addr} (I:Inv X jb Z H s) (u:Un (frs X.stack) ch H H' s.heap h') (hok:HOk X.prog X.w H' h') (hg:AllBare g')
  (hch:∀b∈ch,(b∈X.ex\/X.s₀.heap.objs.size<=b)/\b≠X.env.locals/\(∀x c,X.env.cells.lookup x=some c->c≠b)/\∀p∈X.pn++jb,p.1≠b) :
  Inv X jb Z H' { s with heap:=h',gens:=g',drawn:=d',toks:=t' }:=by
 obtain⟨m,⟨o,es,ep,ho,r⟩,_⟩:=id I.loc;obtain⟨sl,hL⟩:=u.any ho I.free λz=>(hch _ z).2.1 rfl;exact I.step (ch:=ch) hch (λb o hL hb hc e n=>u.keep b o e n (λz=>(QbF.mp (I.La b z)).elim hL hb) hc) (λb o _ _ hc e n=>u.any e n hc) (λb o hc e n=>u.free b o e n hc) (λb o hc e=>u.there b o e hc) u.tups u.Em u.Fg (λm' hm=>by
  obtain⟨o',es',ep',ho',r'⟩:=hm;rw[ho] at ho';cases ho';exact⟨_,es',ep',hL,r'⟩) hok hg
theorem Inv.turned {t':Nat} {it:Addr} (I:Inv X jb Z H s) (k:∀b o,b≠it->s.heap.get? b=some o->h'.get? b=some o) (hn:H it=none) (hL:it≠X.env.locals)
  (h1:it∈X.ex\/X.s₀.heap.objs.size<=it) (h2:∀x c,X.env.cells.lookup x=some c->c≠it) (h3:∀p∈X.pn++jb,p.1≠it):Inv X jb Z H { s with heap:=h',toks:=t' }:=by
 have nit:∀b u,H b=some u->b≠it:=λb u e z=>by rw[z,hn] at e;cases e
 refine I.step (g':=s.gens) (d':=s.drawn) (ch:=[it]) (λb hb=>?_) (λb o _ _ hc e _=>k b o (λz=>hc (by simp[z])) e) (λb o _ _ hc e _=>⟨o.slots,k b o (λz=>hc (by simp[z])) e⟩) (λ_ _ _ _ n=>n)
  (λb o hc e=>⟨o,k b o (λz=>hc (by simp[z])) e⟩) (λ_ _ e=>e) (λ_ _ _ e=>e) (λb ps e=>⟨#[],by rw[e];simp⟩) (λm hm=>?_) (λb u e=>?_) I.bare
 ·have e:b=it:=by simpa using hb
  subst e;exact⟨h1,hL,h2,h3⟩
 ·obtain⟨o,es,ep,ho,r⟩:=hm;exact⟨o,es,ep,k _ o (Ne.symm hL) ho,r⟩
 ·refine (I.hok b u e).stay (λc v hc q=>k c v ?_ q) (λ_ q=>q) λ_ _ q=>q;rcases hc with z | z
  ·rw[z];exact nit b u e
  ·exact nit c _ z
theorem Inv.tok (I:Inv X jb Z H s) (t:Nat):Inv X jb Z H { s with toks:=t }:=I.un (h':=s.heap) (t':=t) Un.refl I.hok
theorem Inv.kept {t':Nat} (I:Inv X jb Z H s) (k:∀b u,s.heap.get? b=some u->h'.get? b=some u):Inv X jb Z H { s with heap:=h',toks:=t' }:=I.un (Un.kept k) (I.hok.kept k)
theorem Inv.laid {a:Addr} {o:HO} {t':Nat} (I:Inv X jb Z H s) (k:∀b u,s.heap.get? b=some u->h'.get? b=some u) (hp:s.heap.objs.size<=a) (new:Bd X.prog X.w (upd H a o) h' a o) :
  Inv X jb Z (upd H a o) { s with heap:=h',toks:=t' }:=I.un (Un.laid k hp (I.hok.fresh hp)) (I.hok.laid k hp new)
theorem Inv.write {x e:Addr} {o:HO} {t':Nat} (I:Inv X jb Z H s) (mu:Mut (H x)) (he:e=x\/H e=some (.own x)) (k:∀b u,b≠e->s.heap.get? b=some u->h'.get? b=some u) (heo:∃u,h'.get? e=some u)
  (new:Bd X.prog X.w (upd H x o) h' x o):Inv X jb Z (upd H x o) { s with heap:=h',toks:=t' }:=I.un (Un.write mu he k heo) (I.hok.write mu he k heo new)
theorem Inv.Mh {Ef:YC} (I:Inv X jb Z H s) (h:∀p∈Ef,s.heap.get? p.1=some p.2/\H p.1=none/\p.1≠X.env.locals/\p.1∉X.fs/\∀v,p.2.data≠.cell v):Inv X Ef Z H s:=
 ⟨I.ok,I.os,I.bare,I.base,I.loc,I.cell,I.free,I.Dg,λp hp=>(Qbn.mp hp).elim (λz=>I.pin p (Qav _ z)) (h p),I.hok,I.len⟩
theorem KC {N:YF} (hN:N.Nodup) {i j:Nat} {x:Str} (a:N[i]?=some x) (b:N[j]?=some x):i=j:=by
 obtain⟨h1,e1⟩:=Qae.mp a;obtain⟨h2,e2⟩:=Qae.mp b;exact (List.getElem_inj hN).mp (e1.trans e2.symm)
theorem Uw {M:Model} {A:Around} {E:YA} {i:Nat} {x:Str} {v:V} {u:Value} {Q:YH} (I:Inv X jb Z H s) (hN:X.N.Nodup) (hi:X.N[i]?=some x) (hx:Loc X.env.scope x) (r:RelV v u)
  (h:∀s',Inv X jb (Z.set i (some v)) H s'->(∃a,Heap.SameBut a s.heap s'.heap/\(a=X.env.locals\/X.env.cells.lookup x=some a))->Q () s') (hf:X.fn x=true\/X.env.scope.names.lookup x=some .local:=by first | exact .inl rfl | exact .inr rfl | assumption):wpAny M A (storeName X.env x u) Q E s:=by
 obtain⟨m,hn,hl⟩:=id I.loc;have hcls:(X.env.scope.kind == .class || (X.env.scope.kind == .module&&X.env.locals != X.env.globals))=false:=by rw[I.ok.kind];rfl
 have hiσ : i < Z.length:=by rw[I.len];exact (Qae.mp hi).1
 have cne:=I.cne;have tracked:∀{a:Addr} {h':Heap},(∃o,s.heap.get? a=some o/\H a=none)->Heap.SameBut a s.heap h'->HOk X.prog X.w H h':=λ{a h'} ha hs b ob e=>by
  obtain⟨_,_,hfree⟩:=ha;refine (I.hok b ob e).stay (λc w' hc q=>(hs.2 c ?_).trans q) (λ_ q=>q) λ_ _ q=>q;rintro rfl;rcases hc with rfl | hc
  ·rw[hfree] at e;cases e
  ·rw[hfree] at hc;cases hc
 rcases hx with hk | hk
 ·refine wpAny_storeName_local hk hn (λh' hn' hs=>?_) hcls;obtain⟨oL,_,_,hoL,_⟩:=id hn;refine h _ ⟨I.ok,I.os,I.bare,⟨λb o e n hb hx=>?_,λb o e n hb hx=>?_,I.base.free,λb o e hx=>?_,I.base.tups,I.base.Em,I.base.Fg⟩,⟨_,hn',λj y v' e1 e2 e3=>?_⟩,λy c e=>?_,I.free,I.Dg,λp hp=>?_,tracked ⟨oL,hoL,I.free⟩ hs,by simpa using I.len⟩ ⟨_,hs,.inl rfl⟩
  ·exact (hs.2 b (QbP (QaH (QbO e) I.ok.above))).trans (I.base.keep b o e n hb hx)
  ·obtain⟨sl,e1⟩:=I.base.slot b o e n hb hx;exact⟨sl,(hs.2 b (QbP (QaH (QbO e) I.ok.above))).trans e1⟩
  ·obtain⟨o',e1⟩:=I.base.there b o e hx;exact⟨o',(hs.2 b (QbP (QaH (QbO e) I.ok.above))).trans e1⟩
  ·by_cases hj:j=i
   ·subst hj;rw[hi] at e1;cases e1;rw[Qam hiσ] at e2;cases e2;exact⟨u,r,.inl ⟨hk,by simp⟩⟩
   ·rw[Qaw (Ne.symm hj)] at e2;obtain⟨u',r',q⟩:=hl j y v' e1 e2 e3;refine⟨u',r',?_⟩;rcases q with⟨k,e⟩|⟨k,c,e,z⟩
    ·refine .inl ⟨k,?_⟩;have:y≠x:=λe=>hj (KC hN e1 (e ▸ hi));simp[this,e]
    ·exact .inr ⟨k,c,e,z.sameBut hs (cne y c e)⟩
  ·obtain⟨w',z⟩:=I.cell y c e;exact⟨w',z.sameBut hs (cne y c e)⟩
  ·obtain⟨e,n,ne,nf,d⟩:=I.pin p hp;exact⟨(hs.2 p.1 ne).trans e,n,ne,nf,d⟩
 ·have hfn:X.fn x=true:=by
   rcases hf with z | z
   ·exact z
   ·rw[z] at hk;cases hk
  obtain⟨c,hc⟩:=I.ok.has x (.inl hk);obtain⟨w',z⟩:=I.cell x c hc;refine wpAny_storeName_cell I.ok.kind hk hc z (λh' hc' hs=>?_);obtain⟨oc,hoc,lO⟩:=id z;refine h { s with heap:=h' } ⟨I.ok,I.os,I.bare,⟨λb o e n hb hx=>?_,λb o e n hb hx=>?_,I.base.free,λb o e hx=>?_,I.base.tups,I.base.Em,I.base.Fg⟩,⟨m,hn.sameBut hs (Ne.symm (cne x c hc)),λj y v' e1 e2 e3=>?_⟩,λy c' e=>?_,I.free,I.Dg,λp hp=>?_,tracked ⟨oc,hoc,I.Dg x c hc⟩ hs,by simpa using I.len⟩ ⟨c,hs,.inr hc⟩
  ·exact (hs.2 b (QbP (QaH (QbO e) (I.ok.cab x c hfn hc)))).trans (I.base.keep b o e n hb hx)
  ·obtain⟨sl,e1⟩:=I.base.slot b o e n hb hx;exact⟨sl,(hs.2 b (QbP (QaH (QbO e) (I.ok.cab x c hfn hc)))).trans e1⟩
  ·obtain⟨o',e1⟩:=I.base.there b o e hx;exact⟨o',(hs.2 b (QbP (QaH (QbO e) (I.ok.cab x c hfn hc)))).trans e1⟩
  ·by_cases hj:j=i
   ·subst hj;rw[hi] at e1;cases e1;rw[Qam hiσ] at e2;cases e2;exact⟨u,r,.inr ⟨.inl hk,c,hc,hc'⟩⟩
   ·rw[Qaw (Ne.symm hj)] at e2;obtain⟨u',r',q⟩:=hl j y v' e1 e2 e3;refine⟨u',r',?_⟩;rcases q with q |⟨k,c',e,z'⟩
    ·exact .inl q
    ·refine .inr ⟨k,c',e,z'.sameBut hs ?_⟩;rintro rfl;exact hj (KC hN e1 (I.ok.inj _ _ _ e hc ▸ hi))
  ·by_cases hcc:c'=c
   ·subst hcc;exact⟨_,hc'⟩
   ·obtain⟨w2,z2⟩:=I.cell y c' e;exact⟨w2,z2.sameBut hs hcc⟩
  ·obtain⟨e,n,ne,nf,d⟩:=I.pin p hp;refine⟨(hs.2 p.1 ?_).trans e,n,ne,nf,d⟩;intro q;rw[q,hoc] at e;have q':oc=p.2:=Qbp e;exact d w' (by rw[<-q'];exact lO)
theorem IK {M:Model} {A:Around} {E:YA} {i:Nat} {x:Str} {v:V} {u:Value} {Q:YH} (I:Inv X jb Z H s) (hN:X.N.Nodup) (hi:X.N[i]?=some x) (hx:Loc X.env.scope x) (r:RelV v u)
  (h:∀s',Inv X jb (Z.set i (some v)) H s'->Q () s') (hf:X.fn x=true\/X.env.scope.names.lookup x=some .local:=by first | exact .inl rfl | exact .inr rfl | assumption):wpAny M A (storeName X.env x u) Q E s:=
 Uw I hN hi hx r (λs' I' _=>h s' I') hf
theorem Inv.call' {s':Shared} {ch:List Addr} (I:Inv X jb Z H s) (ho:s'.os=s.os) (u:Un (frs X.stack) ch H H' s.heap s'.heap) (hok:HOk X.prog X.w H' s'.heap) (hg:AllBare s'.gens)
  (hch:∀b∈ch,(b∈X.ex\/X.s₀.heap.objs.size<=b)/\b≠X.env.locals/\(∀x c,X.env.cells.lookup x=some c->c≠b)/\∀p∈X.pn++jb,p.1≠b):Inv X jb Z H' s':=by
 obtain⟨h',g',d',t',o'⟩:=s';have e:o'=s.os:=ho;subst e;exact I.call (g':=g') (t':=t') (d':=d') u hok hg hch
end
abbrev XK:=Value->Option Addr->Hp->Prop
abbrev St:=List (Option V)
abbrev VK:=V->Hp->Prop
abbrev TE:=St->Hp->VK->Prop
abbrev TT:=St->Hp->(Bool->Hp->Prop)->Prop
abbrev TA:=St->Hp->(YG->Hp->Prop)->Prop
structure Ends where
 nx:St->Hp->Prop
 rt:VK
 bk:St->Hp->Prop:=λ_ _=>False
 ct:St->Hp->Prop:=λ_ _=>False
abbrev YO:=St->Hp->Prop
abbrev TS:=Ends->YO
def EP (X:Cx) (jb:YC) (Z : St) (Q:VK) (u:Value) (s':Shared):Prop:=∃v H',Inv X jb Z H' s'/\RelV v u/\Q v H'
def TP (X:Cx) (jb:YC) (Z : St) (Q:Bool->Hp->Prop) (b:Bool) (s':Shared):Prop:=∃H',Inv X jb Z H' s'/\Q b H'
def AP (X:Cx) (jb:YC) (Z : St) (Q:YG->Hp->Prop) (us:YE) (s':Shared):Prop:=∃vs H',Inv X jb Z H' s'/\Vals vs us/\Q vs H'
def SP (X:Cx) (jb:YC) (D:Ends) (f:Flow) (s':Shared):Prop:=
 match f with
 | .next=>∃ σ' H',Inv X jb σ' H' s'/\D.nx σ' H'
 | .brk=>∃ σ' H',Inv X jb σ' H' s'/\D.bk σ' H'
 | .cont=>∃ σ' H',Inv X jb σ' H' s'/\D.ct σ' H'
 | .ret u=>∃v σ' H',Inv X jb σ' H' s'/\RelV v u/\D.rt v H'
def PE (X:Cx) (e:Expr) (t:TE):Prop:=
 ∀(jb:YC) (s:Shared) (Z : St) (H:Hp) (Q:VK),Inv X jb Z H s->t Z H Q->wpAny (model X.prog X.w) X.A (eval e X.env) (EP X jb Z Q) X.xe s
def PT (X:Cx) (e:Expr) (t:TT):Prop:=
 ∀(jb:YC) (s:Shared) (Z : St) (H:Hp) (Q:Bool->Hp->Prop),Inv X jb Z H s->t Z H Q->wpAny (model X.prog X.w) X.A (isTrue e X.env (eval e X.env)) (TP X jb Z Q) X.xe s
def PW (X:Cx) (e:Expr) (t:TT):Prop:=
 ∀(whole:Sem Value) (jb:YC) (s:Shared) (Z : St) (H:Hp) (Q:Bool->Hp->Prop),Inv X jb Z H s->t Z H Q->wpAny (model X.prog X.w) X.A (isTrue e X.env whole) (TP X jb Z Q) X.xe s
theorem PW.pt {X:Cx} {e:Expr} {t:TT} (h:PW X e t):PT X e t:=h _
def PA (X:Cx) (es:YJ) (t:TA):Prop:=
 ∀(pos:Pos) (jb:YC) (s:Shared) (Z : St) (H:Hp) (Q:YG->Hp->Prop),Inv X jb Z H s->t Z H Q->wpAny (model X.prog X.w) X.A (spliced (backTo pos (starEach es X.env))) (AP X jb Z Q) X.xe s
def PS (X:Cx) (st:Stmt) (t:TS):Prop:=
 ∀(jb:YC) (s:Shared) (Z : St) (H:Hp) (D:Ends),Inv X jb Z H s->t D Z H->wpAny (model X.prog X.w) X.A (exec st X.env) (SP X jb D) X.xe s
def PSs (X:Cx) (st:List Stmt) (t:TS):Prop:=
 ∀(jb:YC) (s:Shared) (Z : St) (H:Hp) (D:Ends),Inv X jb Z H s->t D Z H->wpAny (model X.prog X.w) X.A (execs st X.env) (SP X jb D) X.xe s
theorem thn {α : Type} {t:Sem α} {Q Q':α->Shared->Prop} {M:Model} {A:Around} {E:YA} {s:Shared} (h:wpAny M A t Q E s) (hQ:∀a s,Q a s->Q' a s):wpAny M A t Q' E s:=QbZ h hQ λ_ _ x=>x
section
variable {X:Cx}
theorem bin {a b:Expr} {ta tb:TE} (ha:PE X a ta) (hb:PE X b tb) {jb:YC} {s:Shared} {Z : St} {H:Hp} {R:V->V->Hp->Prop} (I:Inv X jb Z H s) (h:ta Z H λx H1=>tb Z H1 λy H2=>R x y H2)
  {α : Type} {Q:α->Shared->Prop} {f:Value->Value->Sem α}
  (hf:∀v u s2 x y H2,Inv X jb Z H2 s2->RelV x v->RelV y u->R x y H2->wpAny (model X.prog X.w) X.A (f v u) Q X.xe s2) :
  wpAny (model X.prog X.w) X.A (eval a X.env) (λv s₁=>wpAny (model X.prog X.w) X.A (eval b X.env) (λu s₂=>wpAny (model X.prog X.w) X.A (f v u) Q X.xe s₂) X.xe s₁) X.xe s:=by
 refine thn (ha jb s Z H _ I h) λv s1 zz=>?_;obtain⟨x,H1,I1,r1,q1⟩:=zz;refine thn (hb jb s1 Z H1 _ I1 q1) λu s2 zz=>?_;obtain⟨y,H2,I2,r2,q2⟩:=zz;exact hf v u s2 x y H2 I2 r1 r2 q2
def Wc (i:Nat):TE:=fun Z H Q=>∃v,Z[i]?=some (some v)/\Q v H
def tC (v:V):TE:=λ_ H Q=>Q v H
theorem cg {i:Nat} {x:Str} {pos:Pos} (hN:X.N[i]?=some x) (hv:Vis X.env.scope x) (hd:(x == ("__debug__":Str))=false:=by decide) (hcd:(x == ("__classdict__":Str))=false:=by decide):PE X (.Name x pos) (Wc i):=by
 intro jb s Z H Q I h;obtain⟨v,e,h⟩:=h;obtain⟨m,hn,hl⟩:=I.loc;obtain⟨u,r,l⟩:=hl i x v hN e hv;have fin:EP X jb Z Q u s:=⟨v,H,I,r,h⟩;rcases l with⟨hk,hm⟩|⟨hk,c,hc,hcell⟩
 ·exact wpAny_Name (wpAny_loadName_local I.ok.kind hk hn hm fin) hd
 ·rcases hk with hk | hk
  ·exact wpAny_Name (wpAny_loadName_cell I.ok.kind hk hc hcell fin) hd
  ·exact wpAny_Name (wpAny_loadName_free I.ok.kind hk hc hcell fin hcd) hd
theorem Af {i j pos}:PE X (.Constant (.int i) j pos) (tC (.int i)):=λ_ _ _ H _ I h=>wpAny_Constant_int ⟨.int i,H,I.tok _,⟨_,rfl⟩,h⟩
theorem Dc {b j pos}:PE X (.Constant (.bool b) j pos) (tC (.bl b)):=λ_ _ _ H _ I h=>Constant_bool ⟨.bl b,H,I,rfl,h⟩
theorem Lj {j pos}:PE X (.Constant .none j pos) (tC .non):=λ_ _ _ H _ I h=>Constant_none ⟨.non,H,I,rfl,h⟩
theorem BJ {x j pos}:PE X (.Constant (.str x) j pos) (tC (.str x)):=λ_ _ _ H _ I h=>Calls.Constant_str ⟨.str x,H,I.tok _,⟨_,rfl⟩,h⟩
def Gl (X:Cx) (x:Str):Prop:=X.env.kindOf x=some .globalImplicit
theorem G7 {E:YA} {jb:YC} {s:Shared} {Z : St} {H:Hp} {x:Str} {u:Value} {pos:Pos} {Q:YA} (I:Inv X jb Z H s) (hg:Gl X x) (hm:X.mg x=some u) (h:Q u s)
  (hd:(x == ("__debug__":Str))=false:=by decide):wpAny (model X.prog X.w) X.A (eval (.Name x pos) X.env) Q E s:=
 Calls.Name_function_global I.ok.kind hg (Calls.loadGlobal_global (by rw[I.ok.glob];exact I.mod.glob.keeps I.bk) hm h) hd
theorem Ez {E:YA} {jb:YC} {s:Shared} {Z : St} {H:Hp} {x:Str} {u:Value} {pos:Pos} {Q:YA} (I:Inv X jb Z H s) (hg:Gl X x) (hm:X.mg x=none) (hv:bootBuiltins x=some u) (h:Q u s)
  (hn:x≠"__name__":=by decide) (hd:(x == ("__debug__":Str))=false:=by decide):wpAny (model X.prog X.w) X.A (eval (.Name x pos) X.env) Q E s:=by
 obtain⟨mb,h1,h2⟩:=I.mod.blt;exact Calls.Name_function_global I.ok.kind hg (Calls.loadGlobal_builtin (by rw[I.ok.glob];exact I.mod.glob.keeps I.bk) hm (by rw[I.ok.blt];exact h1.keeps I.bk) ((h2 x hn).trans hv) h) hd
theorem Ci {x:Str} {v:V} {u:Value} {pos:Pos} (hg:Gl X x) (hm:X.mg x=some u) (r:RelV v u) (hd:(x == ("__debug__":Str))=false:=by decide):PE X (.Name x pos) (tC v):=
 λ_ _ _ H _ I h=>G7 I hg hm ⟨v,H,I,r,h⟩ hd
theorem Fq {x:Str} {v:V} {u:Value} {pos:Pos} (hg:Gl X x) (hm:X.mg x=none) (hv:bootBuiltins x=some u) (r:RelV v u) (hn:x≠"__name__":=by decide) (hd:(x == ("__debug__":Str))=false:=by decide):PE X (.Name x pos) (tC v):=
 λ_ _ _ H _ I h=>Ez I hg hm hv ⟨v,H,I,r,h⟩ hn hd
variable {a b:Expr} {ta tb:TE} {pos:Pos}
def PC (X:Cx) (op:CmpOp) (a b:Expr) (t:TE):Prop:=
 ∀(jb:YC) (s:Shared) (Z : St) (H:Hp) (Q:VK),Inv X jb Z H s->t Z H Q ->
  wpAny (model X.prog X.w) X.A (eval a X.env) (λv s₁=>wpAny (model X.prog X.w) X.A (eval b X.env) (λu s₂=>wpAny (model X.prog X.w) X.A (compareOp op v u) (EP X jb Z Q) X.xe s₂) X.xe s₁) X.xe s
theorem WQ (b:Expr) {op:CmpOp} (h:op≠.In) (h2:op≠.NotIn):behindInMarks op b=false:=by
 have e1:(op == CmpOp.In)=false:=by cases op <;> first | rfl | exact absurd rfl h
 have e2:(op == CmpOp.NotIn)=false:=by cases op <;> first | rfl | exact absurd rfl h2
 cases b <;> simp[behindInMarks,e1,e2]
def tB (t:TE):TT:=fun Z H Q=>t Z H λx H1=>∃c,x=.bl c/\Q c H1
theorem oG {op:CmpOp} {t:TE} (h:PC X op a b t) (h1:behindInMarks op b=false:=by first | exact WQ _ (by decide) (by decide) | rfl):PT X (.Compare a [op] [b] pos) (tB t):=by
 intro jb s Z H Q I hw;refine wpAny_isTrue_Compare1 (thn (h jb s Z H _ I hw) λv s1 h1=>thn h1 λu s2 h2=>thn h2 λc s3 zz=>?_) h1;obtain⟨x,H1,I1,r1,q1⟩:=zz;obtain⟨d,rfl,q⟩:=q1;cases r1;exact QaW ⟨H1,I1,q⟩
theorem CW {e:Expr} {t:TE} (h:PE X e t) (he:∀whole,isTrue e X.env whole=(do let v <-whole;standAt e.pos;holding [v] (truthy v)):=by intro _;rfl):PT X e (tB t):=by
 intro jb s Z H Q I hw;refine isTrue_plain (thn (h jb s Z H _ I hw) λv s1 zz=>?_) (he _);obtain⟨x,H1,I1,r1,q1⟩:=zz;obtain⟨d,rfl,q⟩:=q1;cases r1;exact QaW ⟨H1,I1,q⟩
variable {tA tB':TT} {rest:YJ}
def iD (t u:TT):TT:=fun Z H Q=>t Z H λc H1=>if c=true then u Z H1 Q else Q false H1
def tOr (t u:TT):TT:=fun Z H Q=>t Z H λc H1=>if c=true then Q true H1 else u Z H1 Q
def iB (t:TT):TT:=fun Z H Q=>t Z H λc H1=>Q (!c) H1
theorem ZP (ha:PT X a tA):PW X (.BoolOp .And [a] pos) tA:=by
 intro wh jb s Z H Q I h;refine isTrue_and (thn (ha jb s Z H Q I h) λc s1 e=>?_);cases c with
 | true=>exact isTrue_and_nil e
 | false=>exact e
theorem Ie (ha:PT X a tA):PW X (.BoolOp .Or [a] pos) tA:=by
 intro wh jb s Z H Q I h;refine isTrue_or (thn (ha jb s Z H Q I h) λc s1 e=>?_);cases c with
 | false=>exact isTrue_or_nil e
 | true=>exact e
theorem bR (ha:PT X a tA) (hb:PW X (.BoolOp .And (b::rest) pos) tB'):PW X (.BoolOp .And (a::b::rest) pos) (iD tA tB'):=by
 intro wh jb s Z H Q I h;refine isTrue_and (thn (ha jb s Z H _ I h) λc s1 zz=>?_);obtain⟨H1,I1,q1⟩:=zz;cases c with
 | true=>exact hb wh jb s1 Z H1 Q I1 q1
 | false=>exact⟨H1,I1,q1⟩
theorem JX (ha:PT X a tA) (hb:PW X (.BoolOp .Or (b::rest) pos) tB'):PW X (.BoolOp .Or (a::b::rest) pos) (tOr tA tB'):=by
 intro wh jb s Z H Q I h;refine isTrue_or (thn (ha jb s Z H _ I h) λc s1 zz=>?_);obtain⟨H1,I1,q1⟩:=zz;cases c with
 | true=>exact⟨H1,I1,q1⟩
 | false=>exact hb wh jb s1 Z H1 Q I1 q1
theorem CZ (ha:PT X a tA):PT X (.UnaryOp .Not a pos) (iB tA):=by
 intro jb s Z H Q I h;exact isTrue_not (ha jb s Z H (λc H1=>Q (!c) H1) I h)
def fU (ta tb:TE):TE:=fun Z H Q=>ta Z H λx H1=>∃c,x=.bl c/\if c=true then tb Z H1 Q else Q (.bl false) H1
def fM (ta:TE):TE:=fun Z H Q=>ta Z H λx H1=>∃c,x=.bl c/\Q (.bl (!c)) H1
theorem Li {op} {t:TE} (h:PE X a t):PE X (.BoolOp op [a] pos) t:=λjb s Z H Q I hw=>BoolOp_one (h jb s Z H Q I hw)
theorem Jw (ha:PE X a ta) (hb:PE X (.BoolOp .And (b::rest) pos) tb):PE X (.BoolOp .And (a::b::rest) pos) (fU ta tb):=by
 intro jb s Z H Q I h;refine BoolOp_and (thn (ha jb s Z H _ I h) λv s1 zz=>?_);obtain⟨x,H1,I1,r1,q1⟩:=zz;obtain⟨c,rfl,q1⟩:=q1;cases r1;refine QaW ?_;cases c with
 | true=>exact hb jb s1 Z H1 Q I1 q1
 | false=>exact⟨.bl false,H1,I1,rfl,q1⟩
theorem U0 (ha:PE X a ta):PE X (.UnaryOp .Not a pos) (fM ta):=by
 intro jb s Z H Q I h;refine UnaryOp_ (thn (ha jb s Z H _ I h) λv s1 zz=>?_);obtain⟨x,H1,I1,r1,q1⟩:=zz;obtain⟨c,rfl,q1⟩:=q1;cases r1;exact not_of (QaW ⟨.bl (!c),H1,I1,rq,q1⟩)
end
def SqL (K:YD) (H:Hp) (a:Addr) (xs:YG):Prop:=
 Rd H a (.lst xs) \/
  ∃(o:Obj) (its:Array Value) (n:Nat),K.lookup a=some o/\o.cls=.type "list"/\o.dict=none/\o.data=.seq its n/\its.size<=sizeLine/\Vals xs its.toList
def SqT (K:YD) (H:Hp) (a:Addr) (xs:YG):Prop:=
 Rd H a (.tup xs) \/
  ∃(o:Obj) (its:Array Value) (n:Nat),K.lookup a=some o/\o.cls=.type "tuple"/\o.data=.seq its n/\its.size<=sizeLine/\Vals xs its.toList
def nZ:Value->Option V
 | .none=>some .non
 | .bool b=>some (.bl b)
 | .int i _=>some (.int i)
 | .str x _=>some (.str x)
 | .bytes b _=>some (.byt b)
 | .float b _=>some (.flt b)
 | .ref a=>some (.ref a)
 | .type n=>some (.ty n)
 | _=>none
theorem RelV.abs {x:V} {u:Value} (r:RelV x u):nZ u=some x:=by
 cases x with
 | non=>cases r;rfl
 | bl _=>cases r;rfl
 | int _=>obtain⟨t,rfl⟩:=r;rfl
 | str _=>obtain⟨t,rfl⟩:=r;rfl
 | byt _=>obtain⟨t,rfl⟩:=r;rfl
 | flt _=>obtain⟨t,rfl⟩:=r;rfl
 | ref _=>cases r;rfl
 | ty _=>cases r;rfl
theorem RelV.inj {x y:V} {u:Value} (r:RelV x u) (q:RelV y u):x=y:=Qbp (r.abs.symm.trans q.abs)
theorem Vals.inj:∀{xs ys:YG} {us:YE},Vals xs us->Vals ys us->xs=ys
 | _,_,_,.nil,.nil=>rfl
 | _,_,_,.cons r t,.cons r' t'=>by rw[r.inj r',Vals.inj t t']
section
variable {X:Cx} {jb:YC} {Z : St} {H:Hp} {s:Shared} {a:Addr} {xs ys:YG}
theorem SqL.of {K:YD} (h:H a=some (.lst xs)):SqL K H a xs:=.inl (.inl h)
theorem SqT.of {K:YD} (h:H a=some (.tup xs)):SqT K H a xs:=.inl (.inl h)
theorem Inv.list (I:Inv X jb Z H s) (h:SqL X.K H a xs):∃its:YE,Vals xs its/\PlainL s.heap a its.toArray/\xs.length<=sizeLine:=by
 rcases h with h |⟨o,its,n,hk,hc,hd,hs,hz,r⟩
 ·obtain⟨z,its,n,r,e⟩:=h.ok I.hok;exact⟨its,r,⟨_,n,e,rq,rq,rq⟩,z⟩
 ·refine⟨its.toList,r,⟨o,n,I.kIn a o hk,hc,hd,by simpa using hs⟩,?_⟩;have e:=r.length;simp only[Array.length_toList] at e;omega
theorem Inv.tuple (I:Inv X jb Z H s) (h:SqT X.K H a xs):∃its:YE,Vals xs its/\IsTup s.heap a its.toArray/\xs.length<=sizeLine:=by
 rcases h with h |⟨o,its,n,hk,hc,hs,hz,r⟩
 ·obtain⟨z,its,r,p⟩:=h.ok I.hok;exact⟨its,r,p,z⟩
 ·refine⟨its.toList,r,⟨o,I.kIn a o hk,hc,n,by simpa using hs⟩,?_⟩;have e:=r.length;simp only[Array.length_toList] at e;omega
theorem Inv.Pg (I:Inv X jb Z H s) (h:SqL X.K H a xs) (h':SqL X.K H a ys):xs=ys:=by
 obtain⟨its,r,⟨o,n,e,_,_,d⟩,_⟩:=I.list h;obtain⟨its',r',⟨o',n',e',_,_,d'⟩,_⟩:=I.list h';rw[e] at e';cases e';rw[d] at d';injection d' with d1 _;have:its=its':=by simpa using congrArg Array.toList d1
 subst this;exact r.inj r'
end
abbrev Cx.wish (X:Cx) (E:YA):Cx:={ X with xe:=E }
abbrev Cx.nox (X:Cx):Cx:=X.wish λ_ _=>False
theorem Cx.Ok.wish {X:Cx} (ok:X.Ok) (E:YA):(X.wish E).Ok:=
 ⟨ok.mod,ok.kind,ok.glob,ok.blt,ok.above,ok.inj,ok.has,ok.cab,ok.hd,ok.frames,ok.stk,ok.exf,ok.bs,ok.bsz,ok.Hr,ok.GF,ok.Ds,ok.frf⟩
theorem Cx.Ok.Gn {X:Cx} {E:YA} (ok:(X.wish E).Ok):X.Ok:=
 ⟨ok.mod,ok.kind,ok.glob,ok.blt,ok.above,ok.inj,ok.has,ok.cab,ok.hd,ok.frames,ok.stk,ok.exf,ok.bs,ok.bsz,ok.Hr,ok.GF,ok.Ds,ok.frf⟩
section
variable {X:Cx} {jb:YC} {Z : St} {H:Hp} {s:Shared} {E:YA}
theorem Inv.wish (I:Inv X jb Z H s) (E:YA):Inv (X.wish E) jb Z H s:=⟨I.ok.wish E,I.os,I.bare,I.base,I.loc,I.cell,I.free,I.Dg,I.pin,I.hok,I.len⟩
theorem Inv.Gn (I:Inv (X.wish E) jb Z H s):Inv X jb Z H s:=⟨I.ok.Gn,I.os,I.bare,I.base,I.loc,I.cell,I.free,I.Dg,I.pin,I.hok,I.len⟩
theorem SP.Gn {D:Ends} {f:Flow} {s':Shared} (h:SP (X.wish E) jb D f s'):SP X jb D f s':=by
 cases f with
 | next=>obtain⟨σ',H',I,q⟩:=h;exact⟨σ',H',I.Gn,q⟩
 | brk=>obtain⟨σ',H',I,q⟩:=h;exact⟨σ',H',I.Gn,q⟩
 | cont=>obtain⟨σ',H',I,q⟩:=h;exact⟨σ',H',I.Gn,q⟩
 | ret u=>obtain⟨v,σ',H',I,r,q⟩:=h;exact⟨v,σ',H',I.Gn,r,q⟩
theorem PSs.nox {st:List Stmt} {t:TS} (h:PSs X.nox st t):PSs X st t:=λjb s Z H D I hw=>
 QbZ (h jb s Z H D (I.wish _) hw) (λ_ _ q=>q.Gn) λ_ _ z=>False.elim z
end
section
variable {X:Cx} {st:Stmt} {rest:List Stmt} {t u:TS} {e:Expr} {te:TE} {pos:Pos}
def fO:TS:=λD Z H=>D.nx Z H
def Al (t u:TS):TS:=λD Z H=>t { D with nx:=u D } Z H
theorem Bp:PSs X [] fO:=λ_ _ Z H _ I h=>wpAny_execs_nil ⟨Z,H,I,h⟩
theorem Ae (h1:PS X st t) (h2:PSs X rest u):PSs X (st::rest) (Al t u):=by
 intro jb s Z H D I h;refine wpAny_execs_cons (thn (h1 jb s Z H { D with nx:=u D } I h) λf s1 q=>?_);cases f with
 | next=>
  obtain⟨σ',H',I',q⟩:=q;exact h2 jb s1 σ' H' D I' q
 | ret v=>exact q
 | brk=>exact q
 | cont=>exact q
theorem Ai (h1:PS X st t):PSs X [st] t:=by
 intro jb s Z H D I h;refine wpAny_execs_cons (thn (h1 jb s Z H D I h) λf s1 q=>?_);cases f with
 | next=>exact wpAny_execs_nil q
 | ret v=>exact q
 | brk=>exact q
 | cont=>exact q
theorem Inv.quiet {jb:YC} {Z : St} {H:Hp} {s:Shared} (I:Inv X jb Z H s):interactive X.env=false:=by simp[interactive,I.ok.kind]
def fQ (te:TE):TS:=λD Z H=>te Z H λ_ H1=>D.nx Z H1
theorem Dn (he:PE X e te) (hs:swapsWith e none pos.line X.env=pure false:=by rfl):PS X (.Expr e pos) (fQ te):=by
 intro jb s Z H D I h;refine wpAny_Expr_any (thn (he jb s Z H _ I h) λv s1 zz=>?_) I.quiet hs;obtain⟨x,H1,I1,r1,q1⟩:=zz;exact⟨Z,H1,I1,q1⟩
def iz (te:TE):TS:=λD Z H=>te Z H D.rt
theorem Bc (he:PE X e te):PS X (.Return (some e) pos) (iz te):=by
 intro jb s Z H D I h;refine wpAny_Return_some (thn (he jb s Z H _ I h) λv s1 zz=>?_);obtain⟨x,H1,I1,r1,q1⟩:=zz;exact⟨x,Z,H1,I1,r1,q1⟩
def G9 (c:TT) (t u:TS):TS:=λD Z H=>c Z H λb H1=>if b=true then t D Z H1 else u D Z H1
theorem BW {c:Expr} {a b:List Stmt} {tc:TT} (hc:PT X c tc) (ha:PSs X a t) (hb:PSs X b u):PS X (.If c a b pos) (G9 tc t u):=by
 intro jb s Z H D I h;refine wpAny_If (thn (hc jb s Z H _ I h) λd s1 zz=>?_);obtain⟨H1,I1,q1⟩:=zz;cases d with
 | true=>exact ha jb s1 Z H1 D I1 q1
 | false=>exact hb jb s1 Z H1 D I1 q1
def bF:TS:=λ_ _ _=>False
theorem Ws:PS X st bF:=λ_ _ _ _ _ _ h=>h.elim
end
abbrev TG:=V->St->Hp->(YO)->Prop
abbrev TGs:=YG->St->Hp->(YO)->Prop
def PG (X:Cx) (target:Expr) (t:TG):Prop:=
 ∀(jb:YC) (s:Shared) (Z : St) (H:Hp) (v:V) (u:Value) (Q:YO),Inv X jb Z H s->RelV v u->t v Z H Q ->
  wpAny (model X.prog X.w) X.A (assign target X.env u) (λ_ s'=>∃ σ' H',Inv X jb σ' H' s'/\Q σ' H') X.xe s
def PGs (X:Cx) (ts:YJ) (t:TGs):Prop:=
 ∀(jb:YC) (s:Shared) (Z : St) (H:Hp) (vs:YG) (us:YE) (Q:YO),Inv X jb Z H s->Vals vs us->t vs Z H Q ->
  wpAny (model X.prog X.w) X.A (assignInOrder ((assignEach ts X.env).map (·.2)) us) (λ_ s'=>∃ σ' H',Inv X jb σ' H' s'/\Q σ' H') X.xe s
abbrev Y5:=V->V->V->Hp->(Hp->Prop)->Prop
def fB (X:Cx) (t:Y5):Prop:=
 ∀(jb:YC) (s:Shared) (Z : St) (H:Hp) (o i v:V) (ov iv u:Value) (Q:Hp->Prop),Inv X jb Z H s->RelV o ov->RelV i iv->RelV v u->t o i v H Q ->
  wpAny (model X.prog X.w) X.A (setItem ov iv u) (λ_ s'=>∃H',Inv X jb Z H' s'/\Q H') X.xe s
section
variable {X:Cx} {pos:Pos}
def HS (i:Nat):TG:=λv Z H Q=>Q (Z.set i (some v)) H
theorem Aw {i:Nat} {x:Str} (hN:X.N.Nodup) (hi:X.N[i]?=some x) (hx:Loc X.env.scope x) (hf:X.fn x=true\/X.env.scope.names.lookup x=some .local:=by first | exact .inl rfl | exact .inr rfl | assumption):PG X (.Name x pos) (HS i):=by
 intro jb s Z H v u Q I r h;exact wpAny_assign_Name (IK I hN hi hx r (λs' I'=>⟨_,H,I',h⟩) hf)
def lX:TGs:=λvs Z H Q=>vs=[]/\Q Z H
def gM (t:TG) (u:TGs):TGs:=λvs Z H Q=>∃v r,vs=v::r/\t v Z H fun σ' H'=>u r σ' H' Q
theorem Ig:PGs X [] lX:=by
 intro jb s Z H vs us Q I r h;obtain⟨e,h⟩:=h;subst e;cases r;exact assignInOrder_nil ⟨Z,H,I,h⟩
theorem Cm {e:Expr} {es:YJ} {t:TG} {u:TGs} (h1:PG X e t) (h2:PGs X es u)
  (hs:(assignEach (e::es) X.env).map (·.2)=assign e X.env::(assignEach es X.env).map (·.2):=by rfl):PGs X (e::es) (gM t u):=by
 intro jb s Z H vs us Q I r h;obtain⟨v,vr,e1,h⟩:=h;subst e1;cases r with
 | cons r rr=>
  rw[hs];refine assignInOrder_cons (thn (h1 jb s Z H _ _ _ I r h) λ_ s1 zz=>?_);obtain⟨σ1,H1,I1,q1⟩:=zz;exact h2 jb s1 σ1 H1 _ _ Q I1 rr q1
def dG (K:YD) (n:Nat) (t:TGs):TG:=λv Z H Q=>∃a xs,v=.ref a/\SqT K H a xs/\xs.length=n/\t xs Z H Q
theorem Lh {es:YJ} {k:Nat} {t:TGs} {n:Nat} (hc:X.calm=true) (h:PGs X es t)
  (hn:(assignEach es X.env).length=n:=by rfl) (hst:(assignEach es X.env).findIdx? (·.1)=none:=by rfl):PG X (.Tuple es k pos) (dG X.K n t):=by
 intro jb s Z H v u Q I r hw;obtain⟨a,xs,e1,hq,hl,hw⟩:=hw;subst e1;cases r;obtain⟨its,rv,ht,hz⟩:=I.tuple hq;refine assign_Tuple_tuple (I.ok.hd hc) ht (by simp[hn,<-hl,rv.length]) hst λh' hx=>?_;have I1:Inv X jb Z H { s with heap:=h' }:=I.kept (t':=s.toks) λb o e=>hx b o (QbP (QbO e)) e;exact h jb _ Z H xs _ Q I1 (by simpa using rv) hw
def lW (to ti:TE) (t:Y5):TG:=λv Z H Q=>to Z H λo H1=>ti Z H1 λi H2=>t o i v H2 λH3=>Q Z H3
theorem Es {o i:Expr} {to ti:TE} {t:Y5} (ho:PE X o to) (hi:PE X i ti) (hs:fB X t)
  (ha:∀v,assign (.Subscript o i pos) X.env v=(do
   let ov <-holding [v] (eval o X.env);let iv <-holding [v,ov] (eval i X.env)
   standAt pos
   holding [v,ov,iv] (setItem ov iv v)
   release [v,ov,iv] []):=by intro _;rfl):PG X (.Subscript o i pos) (lW to ti t):=by
 intro jb s Z H v u Q I r h;rw[ha];refine QbX (QbL (thn (ho jb s Z H _ I h) λov s1 zz=>?_));obtain⟨x,H1,I1,r1,q1⟩:=zz;refine QbX (QbL (thn (hi jb s1 Z H1 _ I1 q1) λiv s2 zz=>?_));obtain⟨y,H2,I2,r2,q2⟩:=zz;refine QbX (QbM (QbX (QbL (thn (hs jb s2 Z H2 x y v ov iv u _ I2 r1 r2 r q2) λ_ s3 zz=>?_))));obtain⟨H3,I3,q3⟩:=zz;exact wpAny_release ⟨Z,H3,I3,q3⟩
def Wd (te:TE) (g:TG):TS:=λD Z H=>te Z H λx H1=>g x Z H1 D.nx
theorem Ej {tg e:Expr} {te:TE} {g:TG} (he:PE X e te) (hg:PG X tg g) (hs:swapsWithSole [tg] e pos.line X.env=pure false:=by rfl) (hw:swappedStores [tg] e X.env=pure none:=by rfl)
  (h1:(assignEach [tg] X.env).map (·.2)=[assign tg X.env]:=by rfl):PS X (.Assign [tg] e pos) (Wd te g):=by
 intro jb s Z H D I h;refine wpAny_Assign_stores (thn (he jb s Z H _ I h) λv s1 zz=>?_) hs hw;obtain⟨x,H1,I1,r1,q1⟩:=zz;rw[h1];exact thn (hg jb s1 Z H1 x v _ I1 r1 q1) λ_ s2 q=>q
theorem Ax {i:Nat} {x:Str} {e:Expr} {te:TE} {pos':Pos} (hN:X.N.Nodup) (hi:X.N[i]?=some x) (hx:Loc X.env.scope x) (he:PE X e te) (hs:swapsWith e (some (.Name x pos')) pos.line X.env=pure false:=by rfl) (hf:X.fn x=true\/X.env.scope.names.lookup x=some .local:=by first | exact .inl rfl | exact .inr rfl | assumption) :
  PS X (.Assign [.Name x pos'] e pos) (Wd te (HS i)):=by
 intro jb s Z H D I h;refine wpAny_Assign_Name (thn (he jb s Z H _ I h) λv s1 zz=>?_) hs;obtain⟨y,H1,I1,r1,q1⟩:=zz;exact IK I1 hN hi hx r1 (λs2 I2=>⟨_,H1,I2,q1⟩) hf
end
section
variable {X:Cx} {pos:Pos}
end
structure It where
 go:Nat->Hp->Prop
 yld:Nat->Hp->V->Hp->Prop
 stop:Nat->Hp->Prop
def DR (X:Cx) (jb:YC) (H:Hp) (b:Addr):Prop:=
 H b=none/\b≠X.env.locals/\b∉X.fs/\(b∈X.ex\/X.s₀.heap.objs.size<=b)/\(∀x c,X.env.cells.lookup x=some c->c≠b)/\∀p∈X.pn++jb,p.1≠b
theorem Inv.TX {X:Cx} {jb:YC} {Z : St} {H H':Hp} {s:Shared} {b:Addr} (I:Inv X jb Z H s) (hb:s.heap.objs.size<=b) (hn:H' b=none):DR X jb H' b:=by
 refine⟨hn,Nat.ne_of_gt (QaH I.lt hb),I.cH hb,.inr (QbR I.sz hb),λx c e z=>?_,λp hp z=>?_⟩
 ·obtain⟨v,q⟩:=I.cell x c e;exact absurd (QaH q.lt (by rw[z];exact hb)) (QbH _)
 ·exact absurd (QaH (QbO (I.pin p hp).1) (by rw[z];exact hb)) (QbH _)
structure Turn (P:Program) (w:World) (K:YD) (tg:Expr) (J:It) (fp:List Addr) (it:Addr) (tn:Nat->Heap->Prop):Prop where
 mem:it∈fp
 obj:∀i h,tn i h->∀b∈fp,∃o,h.get? b=some o/\∀v,o.data≠.cell v
 keep:∀i h h',tn i h->(∀b∈fp,∀o,h.get? b=some o->h'.get? b=some o)->tn i h'
 item:∀(X:Cx),X.prog=P->X.w=w->X.K=K->X.calm=true->∀(i:Nat) (jb:YC) (s:Shared) (Z : St) (H:Hp) (E:YA),Inv X jb Z H s->(∀b∈fp,DR X jb H b)->tn i s.heap->J.go i H ->
  wpAny (model P w) X.A (pyNext (.ref it)) (λr s1=>∃u,r=some u /\
   wpAny (model P w) X.A (letOwnedTupleGo tg (.ref it) u) (λ_ s2=>∃x H',Inv X jb Z H' s2/\RelV x u/\J.yld i H x H'/\tn (i+1) s2.heap/\∀b∈fp,H' b=none) E s1) E s
 done:∀(X:Cx),X.prog=P->X.w=w->X.K=K->X.calm=true->∀(i:Nat) (jb:YC) (s:Shared) (Z : St) (H:Hp) (E:YA),Inv X jb Z H s->(∀b∈fp,DR X jb H b)->tn i s.heap->J.stop i H ->
  wpAny (model P w) X.A (pyNext (.ref it)) (λr s1=>r=none/\Inv X jb Z H s1) E s
 self:∀(A:Around) (i:Nat) (s:Shared) (Q:YA) (E:YA),tn i s.heap->Q (.ref it) s->wpAny (model P w) A (pyIter (.ref it)) Q E s
abbrev TI:=St->Hp->(It->Hp->Prop)->Prop
def PIE (X:Cx) (jb:YC) (Z : St) (tg:Expr) (R:It->Hp->Prop) (itv:Value) (s2:Shared):Prop:=
 ∃(it:Addr) (fp:List Addr) (tn:Nat->Heap->Prop) (J:It) (H':Hp),itv=.ref it/\Inv X jb Z H' s2/\Turn X.prog X.w X.K tg J fp it tn/\tn 0 s2.heap/\(∀b∈fp,DR X jb H' b)/\R J H'
def PI (X:Cx) (tg iter:Expr) (wi:TI):Prop:=
 ∀(jb:YC) (s:Shared) (Z : St) (H:Hp) (R:It->Hp->Prop),Inv X jb Z H s->wi Z H R ->
  wpAny (model X.prog X.w) X.A (eval iter X.env) (λv s1=>wpAny (model X.prog X.w) X.A (pyIter v) (PIE X jb Z tg R) X.xe s1) X.xe s
theorem TF {M:Model} {A:Around} {E:YA} {s:Shared} {tg:Expr} {it:Addr} {u:Value} {o:Obj} {n:String} {vs:Array Value} {Q:YH} (ho:s.heap.get? it=some o) (hc:o.cls=.type n) (hd:o.data=.fields vs)
    (hn:["enumerate","zip","dict_itemiterator","dict_reverseitemiterator","odict_iterator","itertools.zip_longest","itertools.pairwise"].contains n=false) (hQ:Q () s):wpAny M A (letOwnedTupleGo tg (.ref it) u) Q E s:=by
  unfold letOwnedTupleGo;cases tg <;> first
    | exact QbY hQ
    | (cases u <;> first
        | exact QbY hQ
        | (refine QbX (wpAny_load ho ?_)
           rw[hc,hd];show wpAny M A (if (["enumerate","zip","dict_itemiterator","dict_reverseitemiterator","odict_iterator","itertools.zip_longest","itertools.pairwise"].contains n&&vs[0]? == some (rawInt _))=true then _ else _) Q E s
           rw[if_neg (by intro h;rw[hn,Bool.false_and] at h;cases h)];exact QbY hQ))
def Itl (K:YD) (a:Addr):It:=
 ⟨λi H=>∃xs x,SqL K H a xs/\xs[i]?=some x,λi H x H'=>H'=H/\∀xs,SqL K H a xs->xs[i]?=some x,λi H=>∃xs,SqL K H a xs/\xs.length<=i⟩
def Itt (K:YD) (a:Addr):It:=
 ⟨λi H=>∃xs x,SqT K H a xs/\xs[i]?=some x,λi H x H'=>H'=H/\∀xs,SqT K H a xs->xs[i]?=some x,λi H=>∃xs,SqT K H a xs/\xs.length<=i⟩
def Itr (lo:Int) (n:Nat):It:=⟨λi _=>i < n,λi H x H'=>H'=H/\x=.int (lo+i),λi _=>n<=i⟩
theorem Us {P:Program} {w:World} {K:YD} {tg:Expr} (a it:Addr):Turn P w K tg (Itl K a) [it] it (λi h=>h.IsListIter it a i) where
 mem:=by simp
 obj:=λi h st b hb=>by
  have e:b=it:=by simpa using hb
  subst e;obtain⟨o,e,c,d⟩:=st;exact⟨o,e,λv z=>by rw[d] at z;cases z⟩
 keep:=λi h h' st k=>st.at λo e=>k it (by simp) o e
 item:=by
  intro X hP hw hK hc i jb s Z H E I hf st hg;subst hP hw hK;obtain⟨xs,x,hq,hx⟩:=hg;obtain⟨its,rv,p,hz⟩:=I.list hq;obtain⟨u,hu,ru⟩:=rv.get hx;obtain⟨f0,f1,f2,f3,f4,f5⟩:=hf it (by simp);refine wpAny_pyNext_list_item st p.isList (x:=u) (by simpa using hu) λh' st' sb=>?_;have I1:Inv X jb Z H { s with heap:=h' }:=I.turned (t':=s.toks) (λb o hb e=>(sb.2 b hb).trans e) f0 f1 f3 f4 f5;obtain⟨o,e,c,d⟩:=id st';exact⟨u,rq,TF (s:={ s with heap:=h' }) e c d (by decide) ⟨x,H,I1,ru,⟨rq,λys hy=>by rw[I.Pg hy hq];exact hx⟩,st',λb hb=>(hf b hb).1⟩⟩
 done:=by
  intro X hP hw hK hc i jb s Z H E I hf st hg;subst hP hw hK;obtain⟨xs,hq,hx⟩:=hg;obtain⟨its,rv,p,hz⟩:=I.list hq;obtain⟨f0,f1,f2,f3,f4,f5⟩:=hf it (by simp);have hl:=rv.length;exact wpAny_pyNext_list_end (I.ok.hd hc) st p.isList (by simp;omega) λh' eb=>⟨rq,I.turned (t':=s.toks) (λb o hb e=>eb b o hb e) f0 f1 f3 f4 f5⟩
 self:=λ_ _ _ _ _ st h=>wpAny_pyIter_listiter st h
theorem RJ {P:Program} {w:World} {K:YD} {tg:Expr} (it:Addr) (lo:Int) (n:Nat):Turn P w K tg (Itr lo n) [it] it (λi h=>IsRangeIter h it (lo+(i:Nat)*1) ((n:Int) - (i:Nat)) 1) where
 mem:=by simp
 obj:=λi h st b hb=>by
  have e:b=it:=by simpa using hb
  subst e;exact⟨_,st,λv z=>by
   have z':Data.fields _=Data.cell v:=z;cases z'⟩
 keep:=λi h h' st k=>k it (by simp) _ st
 item:=by
  intro X hP hw hK hc i jb s Z H E I hf st hg;subst hP hw hK;obtain⟨f0,f1,f2,f3,f4,f5⟩:=hf it (by simp);have W:=Walks.range (prog:=X.prog) (w:=X.w) (I.ok.hd hc) it lo 1 n;refine W.item i s _ _ hg st λv h' tk hv st' kk=>?_;obtain⟨t,rfl⟩:=hv;have I1:Inv X jb Z H { s with heap:=h',toks:=tk }:=I.turned (λb o hb e=>kk b o (by simpa using hb) e) f0 f1 f3 f4 f5;refine⟨_,rq,TF (s:={ s with heap:=h',toks:=tk }) (n:="range_iterator") st' rfl rfl (by decide) ⟨.int (lo+i),H,I1,⟨t,?_⟩,⟨rq,rq⟩,st',λb hb=>(hf b hb).1⟩⟩;rw[Int.mul_one]
 done:=by
  intro X hP hw hK hc i jb s Z H E I hf st hg;subst hP hw hK;obtain⟨f0,f1,f2,f3,f4,f5⟩:=hf it (by simp);exact wpAny_pyNext_range_end (I.ok.hd hc) st (by have:n<=i:=hg;omega) λh' eb=>⟨rq,I.turned (t':=s.toks) (λb o hb e=>eb b o hb e) f0 f1 f3 f4 f5⟩
 self:=λ_ _ _ _ _ st h=>wpAny_pyIter_rangeiter st h
section
variable {X:Cx} {tg:Expr}
def Zt (K:YD) (tl:TE):TI:=fun Z H R=>tl Z H λx H1=>∃a,x=.ref a/\(∃xs,SqL K H1 a xs)/\R (Itl K a) H1
theorem Cu {l:Expr} {tl:TE} (hl:PE X l tl):PI X tg l (Zt X.K tl):=by
 intro jb s Z H R I h;refine thn (hl jb s Z H _ I h) λv s1 zz=>?_;obtain⟨x,H1,I1,r1,q1⟩:=zz;obtain⟨a,e,⟨xs,hq⟩,q⟩:=q1;subst e;cases r1;obtain⟨its,rv,p,hz⟩:=I1.list hq;refine wpAny_pyIter_list p.isList ?_;refine⟨s1.heap.objs.size,[s1.heap.objs.size],_,_,H1,rq,I1.kept (t':=s1.toks) λb o e=>Qak _ e,Us a _,⟨_,QaA _ rfl,rq,rq⟩,λb hb=>?_,q⟩;have e:b=s1.heap.objs.size:=by simpa using hb
 subst e;exact I1.TX (QbV _) (I1.hok.fresh (QbV _))
theorem Oo {jb:YC} {Z : St} {H:Hp} {s:Shared} {R:It->Hp->Prop} {E:YA} {lo hi:Int} {t u v:Tok} {tk:Nat} (I:Inv X jb Z H s) (h1:-(2 ^ 62)<=lo) (h2:lo < 2 ^ 62) (h3:-(2 ^ 62)<=hi) (h4:hi < 2 ^ 62)
  (q:R (Itr lo (hi - lo).toNat) H):wpAny (model X.prog X.w) X.A (pyIter (.ref s.heap.objs.size)) (PIE X jb Z tg R) E { s with heap:=s.heap.push { cls:=.type "range",data:=.fields #[.int lo t,.int hi u,.int 1 v] },toks:=tk }:=by
 refine wpAny_pyIter_range (IsRange.new ..) (small_one h1 h2 h3 h4) ?_;have I1:Inv X jb Z H { s with heap:=s.heap.push { cls:=.type "range",data:=.fields #[.int lo t,.int hi u,.int 1 v] },toks:=tk }:=I.kept λb o e=>Qak _ e;refine⟨(s.heap.push { cls:=.type "range",data:=.fields #[.int lo t,.int hi u,.int 1 v] }).objs.size,[(s.heap.push { cls:=.type "range",data:=.fields #[.int lo t,.int hi u,.int 1 v] }).objs.size],_,_,H,rq,
  I1.kept (t':=tk) λb o e=>Qak _ e,RJ _ lo (hi - lo).toNat,?_,λb hb=>?_,q⟩
 ·have e1:lo+((0:Nat):Int)*1=lo:=by simp
  have e2:(((hi - lo).toNat:Nat):Int) - ((0:Nat):Int)=Builtin.Range.rangeSize lo hi 1:=by rw[rangeSize_one];split <;> omega
  show IsRangeIter _ _ (lo+((0:Nat):Int)*1) ((((hi - lo).toNat:Nat):Int) - ((0:Nat):Int)) 1;rw[e1,e2];exact QaA _ rfl
 ·have e:b=(s.heap.push { cls:=.type "range",data:=.fields #[.int lo t,.int hi u,.int 1 v] }).objs.size:=by simpa using hb
  subst e;exact I1.TX (QbV _) (I1.hok.fresh (QbV _))
def gH (ta:TA):TI:=fun Z H R=>ta Z H λvs H1=>∃j:Int,vs=[.int j]/\-(2 ^ 62)<=j/\j < 2 ^ 62/\R (Itr 0 j.toNat) H1
def gG (ta:TA):TI:=fun Z H R=>ta Z H λvs H1=>∃i j:Int,vs=[.int i,.int j]/\(-(2 ^ 62)<=i/\i < 2 ^ 62/\-(2 ^ 62)<=j/\j < 2 ^ 62)/\R (Itr i (j - i).toNat) H1
theorem Dv {a:Expr} {ta:TA} {p pos:Pos} (hg:Gl X "range") (hm:X.mg "range"=none) (ha:PA X [a] ta) (hs:starEach [a] X.env=[(false,eval a X.env)]:=by rfl):PI X tg (.Call (.Name "range" p) [a] [] pos) (gH ta):=by
 intro jb s Z H R I h;refine Call_ (Ez I hg hm boot_range (Qab (thn (ha pos jb s Z H _ I h) λus s1 zz=>?_) hs rfl));obtain⟨vs,H1,I1,r1,q1⟩:=zz;obtain⟨j,e,q1,q2,q⟩:=q1;subst e;cases r1 with
 | cons r rr=>
  cases rr;obtain⟨t,rfl⟩:=r;exact call_range_1 (Oo I1 (by omega) (by omega) q1 q2 (by simpa using q))
theorem UL {a b:Expr} {ta:TA} {p pos:Pos} (hg:Gl X "range") (hm:X.mg "range"=none) (ha:PA X [a,b] ta) (hs:starEach [a,b] X.env=[(false,eval a X.env),(false,eval b X.env)]:=by rfl) (hs2:starEach [b] X.env=[(false,eval b X.env)]:=by rfl) :
  PI X tg (.Call (.Name "range" p) [a,b] [] pos) (gG ta):=by
 intro jb s Z H R I h;refine Call_ (Ez I hg hm boot_range (Qab (thn (ha pos jb s Z H _ I h) λus s1 zz=>?_) (by rw[hs,hs2]) (by rw[hs2];rfl)));obtain⟨vs,H1,I1,r1,q1⟩:=zz;obtain⟨i,j,e,⟨q1,q2,q3,q4⟩,q⟩:=q1;subst e;cases r1 with
 | cons r rr=>
  cases rr with
  | cons r' rr=>
   cases rr;obtain⟨t,rfl⟩:=r;obtain⟨t',rfl⟩:=r';exact call_range_2 (Oo I1 q1 q2 q3 q4 q)
abbrev YN:=Nat->YO
def Iz (wi:TI) (g:TG) (tb:TS):TS:=λD Z H=>wi Z H λJ H1=>∃W:Nat->YN,(∃m,W 0 m Z H1)/\∀i m Z H,W i m Z H ->
 (J.stop i H/\D.nx Z H)\/(J.go i H/\∃N:YO,(∀ σ' H',N σ' H'->∃m',m' < m/\W (i+1) m' σ' H')/\∀x H',J.yld i H x H'->g x Z H' fun σ2 H2=>tb { D with nx:=N,ct:=N,bk:=D.nx } σ2 H2)
def Hi (fp:List Addr) (h:Heap):YC:=fp.filterMap λb=>(h.get? b).map λo=>(b,o)
theorem Ep {fp:List Addr} {h:Heap} {b:Addr} {o:Obj} (hb:b∈fp) (e:h.get? b=some o):(b,o)∈Hi fp h:=List.mem_filterMap.mpr ⟨b,hb,by rw[e];rfl⟩
theorem Vc {fp:List Addr} {h:Heap} {p:Addr×Obj} (hp:p∈Hi fp h):p.1∈fp/\h.get? p.1=some p.2:=by
 obtain⟨b,hb,e⟩:=List.mem_filterMap.mp hp;cases q:h.get? b with
 | none=>rw[q] at e;cases e
 | some o=>
  rw[q] at e;have e':(b,o)=p:=Qbp e;subst e';exact⟨hb,q⟩
theorem Inv.pinned {jb:YC} {Z : St} {H:Hp} {s:Shared} {fp:List Addr} (I:Inv X jb Z H s) (hf:∀b∈fp,DR X jb H b) (ho:∀b∈fp,∃o,s.heap.get? b=some o/\∀v,o.data≠.cell v):Inv X (jb++Hi fp s.heap) Z H s:=
 I.Mh λp hp=>(Qbn.mp hp).elim (λz=>I.pin p (Qap _ z)) λz=>by
  obtain⟨hb,e⟩:=Vc z;obtain⟨f0,f1,f2,_⟩:=hf p.1 hb;obtain⟨o,e',d⟩:=ho p.1 hb;rw[e] at e';cases e';exact⟨e,f0,f1,f2,d⟩
theorem Inv.Fe {jb pl:YC} {Z : St} {H:Hp} {s:Shared} (I:Inv X (jb++pl) Z H s):Inv X jb Z H s:=I.Mh λp hp=>I.pin p (Qap _ (Qav _ hp))
theorem Gs {iter:Expr} {body:List Stmt} {wi:TI} {g:TG} {tb:TS} {pos:Pos} (hp:PassesOwn (model X.prog X.w) X.A X.env X.xe) (hc:X.calm=true) (hi:PI X tg iter wi) (hg:PG X tg g) (hb:PSs X body tb)
  (hs:∀x,foldedSetIterable iter X.env x=pure x:=by intro _;rfl):PS X (.For tg iter body [] pos) (Iz wi g tb):=by
 intro jb s Z H D I h;refine wpAny_For (thn (hi jb s Z H _ I h) λv s1 h1=>thn h1 λitv s2 h2=>?_) hs;obtain⟨it,fp,tn,J,H2,e,I2,T,st2,f2,W,⟨m0,w0⟩,turn⟩:=h2;subst e;have stat:∀{H':Hp},(∀b∈fp,H' b=none)->∀b∈fp,DR X jb H' b:=λhn b hb=>⟨hn b hb,(f2 b hb).2⟩;refine codeAny_forLoop_any (λn s'=>∃i σ' H',Inv X jb σ' H' s'/\tn i s'.heap/\(∀b∈fp,H' b=none)/\W i n σ' H') ?_ m0 ⟨0,Z,H2,I2,st2,λb hb=>(f2 b hb).1,w0⟩;rintro n s3 ⟨i,σ3,H3,I3,st3,fr3,w3⟩;rcases turn i n σ3 H3 w3 with⟨stop,qn⟩|⟨go,N,hN,step⟩
 ·refine wpAny_passesOwn hp (thn (T.done X rfl rfl rfl hc i jb s3 σ3 H3 X.xe I3 (stat fr3) st3 stop) λr s4 zz=>?_);obtain⟨hr,I4⟩:=zz;subst hr;exact wpAny_execs_nil ⟨σ3,H3,I4,qn⟩
 ·refine wpAny_passesOwn hp (thn (T.item X rfl rfl rfl hc i jb s3 σ3 H3 X.xe I3 (stat fr3) st3 go) λr s4 zz=>?_);obtain⟨u,hr,h4⟩:=zz;subst hr;refine wpAny_passesOwn hp (thn h4 λ_ s5 zz=>?_);obtain⟨x,H5,I5,r5,y5,st5,fr5⟩:=zz;have I5':=I5.pinned (stat fr5) (T.obj _ _ st5);refine wpAny_passesOwn hp (thn (hg _ s5 σ3 H5 x u _ I5' r5 (step x H5 y5)) λ_ s6 zz=>?_);obtain⟨σ6,H6,I6,q6⟩:=zz;refine wpAny_passesOwn hp (thn (hb _ s6 σ6 H6 _ I6 q6) λf s7 q7=>?_);have again:∀{σ7:St} {H7:Hp},Inv X (jb++Hi fp s5.heap) σ7 H7 s7->N σ7 H7->∃m,m < n/\∃i σ' H',Inv X jb σ' H' s7/\tn i s7.heap/\(∀b∈fp,H' b=none)/\W i m σ' H':=λ{σ7 H7} I7 n7=>by
   obtain⟨m',hm,w7⟩:=hN σ7 H7 n7;refine⟨m',hm,i+1,σ7,H7,I7.Fe,T.keep _ _ _ st5 λb hb o e=>(I7.pin (b,o) (Qap _ (Qap _ (Ep hb e)))).1,λb hb=>?_,w7⟩;obtain⟨o,e,d⟩:=T.obj _ _ st5 b hb;exact (I7.pin (b,o) (Qap _ (Qap _ (Ep hb e)))).2.1
  cases f with
  | next=>obtain⟨σ7,H7,I7,n7⟩:=q7;exact again I7 n7
  | cont=>obtain⟨σ7,H7,I7,n7⟩:=q7;exact again I7 n7
  | brk=>obtain⟨σ7,H7,I7,q7⟩:=q7;exact⟨σ7,H7,I7.Fe,q7⟩
  | ret v=>obtain⟨x7,σ7,H7,I7,r7,q7⟩:=q7;exact⟨x7,σ7,H7,I7.Fe,r7,q7⟩
end
theorem KZ {K:YD} {a:Addr} {xs:YG} {g:TG} {tb:TS} {D:Ends} {Z : St} {H:Hp} (Pv:YN) (h0:Pv 0 Z H) (hl:∀i Z H,i<=xs.length->Pv i Z H->SqL K H a xs)
  (hs:∀i x Z H,xs[i]?=some x->Pv i Z H->g x Z H fun σ2 H2=>tb { D with nx:=Pv (i+1),ct:=Pv (i+1),bk:=D.nx } σ2 H2) (hd:∀ Z H,Pv xs.length Z H->D.nx Z H) :
  ∃W:Nat->YN,(∃m,W 0 m Z H)/\∀i m Z H,W i m Z H ->
   ((Itl K a).stop i H/\D.nx Z H)\/((Itl K a).go i H/\∃N:YO,(∀ σ' H',N σ' H'->∃m',m' < m/\W (i+1) m' σ' H')/\∀x H',(Itl K a).yld i H x H'->g x Z H' fun σ2 H2=>tb { D with nx:=N,ct:=N,bk:=D.nx } σ2 H2):=by
 refine⟨λi m Z H=>m=xs.length - i/\i<=xs.length/\Pv i Z H,⟨xs.length,by simp,QbW _,h0⟩,?_⟩;rintro i m Z H ⟨rfl,hi,p⟩;have q:=hl i Z H hi p;by_cases hlt:i < xs.length
 ·refine .inr ⟨⟨xs,xs[i],q,by simp[hlt]⟩,Pv (i+1),fun σ' H' p'=>⟨xs.length - (i+1),by omega,rq,hlt,p'⟩,λx H' y=>?_⟩;obtain⟨e,y⟩:=y;subst e;exact hs i x Z _ (y xs q) p
 ·have e:i=xs.length:=by omega
  subst e;exact .inl ⟨⟨xs,q,QbV _⟩,hd Z H p⟩
theorem GC {lo:Int} {n:Nat} {g:TG} {tb:TS} {D:Ends} {Z : St} {H:Hp} (Pv:YN) (h0:Pv 0 Z H)
  (hs:∀i Z H,i < n->Pv i Z H->g (.int (lo+i)) Z H fun σ2 H2=>tb { D with nx:=Pv (i+1),ct:=Pv (i+1),bk:=D.nx } σ2 H2) (hd:∀ Z H,Pv n Z H->D.nx Z H) :
  ∃W:Nat->YN,(∃m,W 0 m Z H)/\∀i m Z H,W i m Z H ->
   ((Itr lo n).stop i H/\D.nx Z H)\/((Itr lo n).go i H/\∃N:YO,(∀ σ' H',N σ' H'->∃m',m' < m/\W (i+1) m' σ' H')/\∀x H',(Itr lo n).yld i H x H'->g x Z H' fun σ2 H2=>tb { D with nx:=N,ct:=N,bk:=D.nx } σ2 H2):=by
 refine⟨λi m Z H=>m=n - i/\i<=n/\Pv i Z H,⟨n,by simp,QbW _,h0⟩,?_⟩;rintro i m Z H ⟨rfl,hi,p⟩;by_cases hlt:i < n
 ·refine .inr ⟨hlt,Pv (i+1),fun σ' H' p'=>⟨n - (i+1),by omega,rq,hlt,p'⟩,λx H' y=>?_⟩;obtain⟨e,y⟩:=y;subst e y;exact hs i Z _ hlt p
 ·have e:i=n:=by omega
  subst e;exact .inl ⟨QbV _,hd Z H p⟩
abbrev R2:=V->V->Hp->VK->Prop
def OpR (X:Cx) (f:Value->Value->Sem Value) (r:R2):Prop:=
 ∀(jb:YC) (s:Shared) (Z : St) (H:Hp) (x y:V) (v u:Value) (Q:VK),Inv X jb Z H s->RelV x v->RelV y u->r x y H Q ->
  wpAny (model X.prog X.w) X.A (f v u) (EP X jb Z Q) X.xe s
def UnR (X:Cx) (f:Value->Sem Value) (r:V->Hp->VK->Prop):Prop:=
 ∀(jb:YC) (s:Shared) (Z : St) (H:Hp) (x:V) (v:Value) (Q:VK),Inv X jb Z H s->RelV x v->r x H Q ->
  wpAny (model X.prog X.w) X.A (f v) (EP X jb Z Q) X.xe s
def Cq (X:Cx) (f:Value) (r:YG->Hp->VK->Prop):Prop:=
 ∀(jb:YC) (s:Shared) (Z : St) (H:Hp) (xs:YG) (us:YE) (Q:VK),Inv X jb Z H s->Vals xs us->r xs H Q ->
  wpAny (model X.prog X.w) X.A (call f us) (EP X jb Z Q) X.xe s
def n6 (X:Cx) (r:V->Hp->(Bool->Hp->Prop)->Prop):Prop:=
 ∀(jb:YC) (s:Shared) (Z : St) (H:Hp) (x:V) (v:Value) (Q:Bool->Hp->Prop),Inv X jb Z H s->RelV x v->r x H Q ->
  wpAny (model X.prog X.w) X.A (truthy v) (TP X jb Z Q) X.xe s
def tOp (r:R2) (ta tb:TE):TE:=fun Z H Q=>ta Z H λx H1=>tb Z H1 λy H2=>r x y H2 Q
def tUn (r:V->Hp->VK->Prop) (ta:TE):TE:=fun Z H Q=>ta Z H λx H1=>r x H1 Q
def rI (C:Int->Int->Prop) (g:Int->Int->V):R2:=λx y H Q=>∃i j,x=.int i/\y=.int j/\C i j/\Q (g i j) H
def rI0 (g:Int->Int->V):R2:=λx y H Q=>∃i j,x=.int i/\y=.int j/\Q (g i j) H
def rU (g:Int->V):V->Hp->VK->Prop:=λx H Q=>∃i,x=.int i/\Q (g i) H
section
variable {X:Cx} {a b c:Expr} {ta tb tc:TE} {pos:Pos}
theorem Y4 (ha:PE X a ta) (hb:PE X b tb) {jb:YC} {s:Shared} {Z : St} {H:Hp} {R:V->V->Hp->Prop} (I:Inv X jb Z H s)
  (h:ta Z H λx H1=>tb Z H1 λy H2=>R x y H2) {Q:YA} {f:Value->Value->Sem Value}
  (hf:∀v u s2 x y H2,Inv X jb Z H2 s2->RelV x v->RelV y u->R x y H2->wpAny (model X.prog X.w) X.A (f v u) Q X.xe s2) :
  wpAny (model X.prog X.w) X.A (eval a X.env) (λv s₁=>wpAny (model X.prog X.w) X.A (eval b X.env) (λu s₂=>wpAny (model X.prog X.w) X.A (f v u) Q X.xe s₂) X.xe s₁) X.xe s:=by
 refine thn (ha jb s Z H _ I h) λv s1 zz=>?_;obtain⟨x,H1,I1,r1,q1⟩:=zz;refine thn (hb jb s1 Z H1 _ I1 q1) λu s2 zz=>?_;obtain⟨y,H2,I2,r2,q2⟩:=zz;exact hf v u s2 x y H2 I2 r1 r2 q2
theorem Ar {op:Operator} {r:R2} (ho:OpR X (binaryOp op) r) (ha:PE X a ta) (hb:PE X b tb):PE X (.BinOp a op b pos) (tOp r ta tb):=by
 intro jb s Z H Q I h;exact wpAny_BinOp (Y4 ha hb I h λv u s2 x y H2 I2 rx ry q=>ho jb s2 Z H2 x y v u Q I2 rx ry q)
theorem Zj {op:UnaryOp} {r:V->Hp->VK->Prop} (ho:UnR X (unaryOp op) r) (ha:PE X a ta):PE X (.UnaryOp op a pos) (tUn r ta):=by
 intro jb s Z H Q I h;refine UnaryOp_ (thn (ha jb s Z H _ I h) λv s1 zz=>?_);obtain⟨x,H1,I1,r1,q1⟩:=zz;exact ho jb s1 Z H1 x v Q I1 r1 q1
theorem opI {f:Value->Value->Sem Value} {C:Int->Int->Prop} {g:Int->Int->Int}
  (rule:∀(i j:Int) (t u:Tok) (s:Shared) (Q:YA) (E:YA),C i j->Q (.int (g i j) s.toks) { s with toks:=s.toks+1 }->wpAny (model X.prog X.w) X.A (f (.int i t) (.int j u)) Q E s) :
  OpR X f (rI C λi j=>.int (g i j)):=by
 intro jb s Z H x y v u Q I rx ry h;obtain⟨i,j,rfl,rfl,hc,q⟩:=h;obtain⟨t,rfl⟩:=rx;obtain⟨t',rfl⟩:=ry;exact rule i j t t' s _ _ hc ⟨.int (g i j),H,I.tok _,⟨_,rq⟩,q⟩
theorem cA {f:Value->Value->Sem Value} {g:Int->Int->Int}
  (rule:∀(i j:Int) (t u:Tok) (s:Shared) (Q:YA) (E:YA),Q (.int (g i j) s.toks) { s with toks:=s.toks+1 }->wpAny (model X.prog X.w) X.A (f (.int i t) (.int j u)) Q E s) :
  OpR X f (rI0 λi j=>.int (g i j)):=by
 intro jb s Z H x y v u Q I rx ry h;obtain⟨i,j,rfl,rfl,q⟩:=h;obtain⟨t,rfl⟩:=rx;obtain⟨t',rfl⟩:=ry;exact rule i j t t' s _ _ ⟨.int (g i j),H,I.tok _,⟨_,rq⟩,q⟩
theorem Ss {f:Value->Value->Sem Value} {g:Int->Int->Bool}
  (rule:∀(i j:Int) (t u:Tok) (s:Shared) (Q:YA) (E:YA),Q (.bool (g i j)) s->wpAny (model X.prog X.w) X.A (f (.int i t) (.int j u)) Q E s) :
  OpR X f (rI0 λi j=>.bl (g i j)):=by
 intro jb s Z H x y v u Q I rx ry h;obtain⟨i,j,rfl,rfl,q⟩:=h;obtain⟨t,rfl⟩:=rx;obtain⟨t',rfl⟩:=ry;exact rule i j t t' s _ _ ⟨.bl (g i j),H,I,rq,q⟩
def ou (i j:Int):Prop:=0 < j/\j < 1073741824
def oh (i j:Int):Prop:=0<=j/\j<=1000000/\i.natAbs < 2 ^ 64
def Uj (i j:Int):Prop:=(-(2 ^ 64) < i/\i < 2 ^ 64)\/(-(2 ^ 64) < j/\j < 2 ^ 64)
theorem Uj.ok {i j:Int} (h:Uj i j):IntMulOk i j:=by
 rcases h with⟨h1,h2⟩|⟨h1,h2⟩
 ·exact .of_left (intBits_le_64 h1 h2)
 ·exact .of_right (intBits_le_64 h1 h2)
theorem Cz:OpR X (binaryOp .Add) (rI0 λi j=>.int (i+j)):=cA λ_ _ _ _ _ _ _ q=>add_int q
theorem U5:OpR X (binaryOp .Sub) (rI0 λi j=>.int (i - j)):=cA λ_ _ _ _ _ _ _ q=>sub_int q
theorem Ew:OpR X (binaryOp .Mult) (rI Uj λi j=>.int (i*j)):=opI λ_ _ _ _ _ _ _ hc q=>mul_int q hc.ok
theorem Mi:OpR X (binaryOp .FloorDiv) (rI ou λi j=>.int (i / j)):=opI λi j _ _ _ _ _ hc q=>by
 have h1:(0:Int) < j:=hc.1;have h2:j < 1073741824:=hc.2;exact floordiv_int (by omega) (by rw[Int.fdiv_eq_ediv_of_nonneg i (by omega)];exact q) (.inl (PyProof.noPylong_small (by omega)))
theorem Ey:OpR X (binaryOp .Mod) (rI (λ_ j=>0 < j) λi j=>.int (i % j)):=opI λi j _ _ _ _ _ hc q=>by
 have h1:(0:Int) < j:=hc;exact mod_int' (by omega) (by rw[Int.fmod_eq_emod_of_nonneg i (by omega)];exact q)
theorem Ox:OpR X (binaryOp .Pow) (rI oh λi j=>.int (i ^ j.toNat)):=opI λ_ _ _ _ _ _ _ hc q=>pow_int_small hc.1 hc.2.1 hc.2.2 q
theorem unI {f:Value->Sem Value} {g:Int->Int}
  (rule:∀(i:Int) (t:Tok) (s:Shared) (Q:YA) (E:YA),Q (.int (g i) s.toks) { s with toks:=s.toks+1 }->wpAny (model X.prog X.w) X.A (f (.int i t)) Q E s) :
  UnR X f (rU λi=>.int (g i)):=by
 intro jb s Z H x v Q I rx h;obtain⟨i,rfl,q⟩:=h;obtain⟨t,rfl⟩:=rx;exact rule i t s _ _ ⟨.int (g i),H,I.tok _,⟨_,rq⟩,q⟩
theorem Uq:UnR X (unaryOp .USub) (rU λi=>.int (-i)):=unI λ_ _ _ _ _ q=>neg_int q
end
def bN:V->V->Bool
 | .non,.non=>true | .non,.int _=>true | .int _,.non=>true | .non,.bl _=>true | .bl _,.non=>true | .non,.str _=>true | .str _,.non=>true
 | .int _,.int _=>true | .bl _,.bl _=>true | .str _,.str _=>true | .byt _,.byt _=>true
 | .int _,.str _=>true | .str _,.int _=>true | .bl _,.str _=>true | .str _,.bl _=>true
 | _,_=>false
def rEq:R2:=λx y H Q=>bN x y=true/\Q (.bl (decide (x=y))) H
def rNe:R2:=λx y H Q=>bN x y=true/\Q (.bl (!decide (x=y))) H
theorem Rv {i j:Int}:decide (V.int i=V.int j)=(i == j):=by
 rw[Qbu];simp
theorem VD {i j:Bool}:decide (V.bl i=V.bl j)=(i == j):=by
 rw[Qbu];simp
theorem Ru {i j:Str}:decide (V.str i=V.str j)=(i == j):=by
 rw[Qbu];simp
theorem Rw {i j:Array UInt8}:decide (V.byt i=V.byt j)=(i.toList == j.toList):=by
 rw[Qbu];cases i;cases j;simp
section
variable {X:Cx} {a b c:Expr} {ta tb tc:TE} {pos:Pos}
theorem Bb {jb:YC} {Z : St} {H:Hp} {s:Shared} {Q:VK} {k k':Bool} (I:Inv X jb Z H s) (q:Q (.bl k) H) (e:k=k'):EP X jb Z Q (.bool k') s:=by
 subst e;exact⟨.bl k,H,I,rq,q⟩
theorem GX:OpR X (compareOp .Eq) rEq:=by
 intro jb s Z H x y v u Q I rx ry h;obtain⟨hs,q⟩:=h;cases x with
 | non=>
  cases rx;cases y with
  | non=>cases ry;exact PySem.EqNone.eq_none_none (Bb I q (by simp))
  | bl j=>cases ry;exact PySem.EqNone.eq_none_bool (Bb I q (by simp))
  | int j=>obtain⟨t',rfl⟩:=ry;exact PySem.EqNone.eq_none_int (Bb I q (by simp))
  | str j=>obtain⟨t',rfl⟩:=ry;exact PySem.EqNone.eq_none_str (Bb I q (by simp))
  | _=>exact absurd (show false=true from hs) QaE
 | bl i=>
  cases rx;cases y with
  | non=>cases ry;exact PySem.EqNone.eq_bool_none (Bb I q (by simp))
  | bl j=>cases ry;exact eq_bool (Bb I q VD)
  | str j=>obtain⟨t',rfl⟩:=ry;exact PySem.EqMixed.eq_bool_str (Bb I q (by simp))
  | _=>exact absurd (show false=true from hs) QaE
 | int i=>
  obtain⟨t,rfl⟩:=rx;cases y with
  | non=>cases ry;exact PySem.EqNone.eq_int_none (Bb I q (by simp))
  | int j=>obtain⟨t',rfl⟩:=ry;exact eq_int (Bb I q Rv)
  | str j=>obtain⟨t',rfl⟩:=ry;exact PySem.EqMixed.eq_int_str (Bb I q (by simp))
  | _=>exact absurd (show false=true from hs) QaE
 | str i=>
  obtain⟨t,rfl⟩:=rx;cases y with
  | non=>cases ry;exact PySem.EqNone.eq_str_none (Bb I q (by simp))
  | bl j=>cases ry;exact PySem.EqMixed.eq_str_bool (Bb I q (by simp))
  | int j=>obtain⟨t',rfl⟩:=ry;exact PySem.EqMixed.eq_str_int (Bb I q (by simp))
  | str j=>obtain⟨t',rfl⟩:=ry;exact eq_str (Bb I q Ru)
  | _=>exact absurd (show false=true from hs) QaE
 | byt i=>
  obtain⟨t,rfl⟩:=rx;cases y with
  | byt j=>obtain⟨t',rfl⟩:=ry;exact PySem.W.eq_bytes (Bb I q Rw)
  | _=>exact absurd (show false=true from hs) QaE
 | _=>cases y <;> exact absurd (show false=true from hs) QaE
theorem fZ:OpR X (compareOp .NotEq) rNe:=by
 intro jb s Z H x y v u Q I rx ry h;obtain⟨hs,q⟩:=h;cases x with
 | non=>
  cases rx;cases y with
  | non=>cases ry;exact PySem.EqNone.ne_none_none (Bb I q (by simp))
  | bl j=>cases ry;exact PySem.EqNone.ne_none_bool (Bb I q (by simp))
  | int j=>obtain⟨t',rfl⟩:=ry;exact PySem.EqNone.ne_none_int (Bb I q (by simp))
  | str j=>obtain⟨t',rfl⟩:=ry;exact PySem.EqNone.ne_none_str (Bb I q (by simp))
  | _=>exact absurd (show false=true from hs) QaE
 | bl i=>
  cases rx;cases y with
  | non=>cases ry;exact PySem.EqNone.ne_bool_none (Bb I q (by simp))
  | bl j=>cases ry;exact ne_bool (Bb I q (congrArg not VD))
  | str j=>obtain⟨t',rfl⟩:=ry;exact PySem.EqMixed.ne_bool_str (Bb I q (by simp))
  | _=>exact absurd (show false=true from hs) QaE
 | int i=>
  obtain⟨t,rfl⟩:=rx;cases y with
  | non=>cases ry;exact PySem.EqNone.ne_int_none (Bb I q (by simp))
  | int j=>obtain⟨t',rfl⟩:=ry;exact ne_int (Bb I q (congrArg not Rv))
  | str j=>obtain⟨t',rfl⟩:=ry;exact PySem.EqMixed.ne_int_str (Bb I q (by simp))
  | _=>exact absurd (show false=true from hs) QaE
 | str i=>
  obtain⟨t,rfl⟩:=rx;cases y with
  | non=>cases ry;exact PySem.EqNone.ne_str_none (Bb I q (by simp))
  | bl j=>cases ry;exact PySem.EqMixed.ne_str_bool (Bb I q (by simp))
  | int j=>obtain⟨t',rfl⟩:=ry;exact PySem.EqMixed.ne_str_int (Bb I q (by simp))
  | str j=>obtain⟨t',rfl⟩:=ry;exact ne_str (Bb I q (congrArg not Ru))
  | _=>exact absurd (show false=true from hs) QaE
 | byt i=>
  obtain⟨t,rfl⟩:=rx;cases y with
  | byt j=>obtain⟨t',rfl⟩:=ry;exact PySem.W.ne_bytes (Bb I q (congrArg not Rw))
  | _=>exact absurd (show false=true from hs) QaE
 | _=>cases y <;> exact absurd (show false=true from hs) QaE
theorem Sq:OpR X (compareOp .Lt) (rI0 λi j=>.bl (decide (i < j))):=Ss λ_ _ _ _ _ _ _ q=>lt_int q
theorem Nv:OpR X (compareOp .LtE) (rI0 λi j=>.bl (decide (i<=j))):=Ss λ_ _ _ _ _ _ _ q=>le_int q
theorem Zm:OpR X (compareOp .Gt) (rI0 λi j=>.bl (decide (j < i))):=Ss λ_ _ _ _ _ _ _ q=>gt_int q
theorem gb:OpR X (compareOp .GtE) (rI0 λi j=>.bl (decide (j<=i))):=Ss λ_ _ _ _ _ _ _ q=>ge_int q
theorem U7:OpR X (compareOp .In) (λx y H Q=>∃i j,x=.str i/\y=.str j/\Q (.bl (!(Builtin.Str.occurrences j i 0 j.length 1).isEmpty)) H):=by
 intro jb s Z H x y v u Q I rx ry h;obtain⟨i,j,rfl,rfl,q⟩:=h;obtain⟨t,rfl⟩:=rx;obtain⟨t',rfl⟩:=ry;exact in_str (Bb I q rfl)
theorem OD:OpR X (compareOp .Is) (λx y H Q=>y=.non/\Q (.bl (decide (x=.non))) H):=by
 intro jb s Z H x y v u Q I rx ry h;obtain⟨rfl,q⟩:=h;cases ry;refine is_none_gen (Bb I q ?_);cases x <;> first
  | (cases rx;rfl)
  | (obtain⟨t,rfl⟩:=rx;rfl)
theorem Bs (b:Expr) {op:CmpOp} (h:op≠.In:=by decide) (h2:op≠.NotIn:=by decide):behindInMarks op b=false:=by
 have e1:(op == CmpOp.In)=false:=by cases op <;> first | rfl | exact absurd rfl h
 have e2:(op == CmpOp.NotIn)=false:=by cases op <;> first | rfl | exact absurd rfl h2
 cases b <;> simp[behindInMarks,e1,e2]
theorem Dp {op:CmpOp} {r:R2} (ho:OpR X (compareOp op) r) (ha:PE X a ta) (hb:PE X b tb) (hm:behindInMarks op b=false):PE X (.Compare a [op] [b] pos) (tOp r ta tb):=by
 intro jb s Z H Q I h;exact wpAny_Compare1 (Y4 ha hb I h λv u s2 x y H2 I2 rx ry q=>ho jb s2 Z H2 x y v u Q I2 rx ry q) hm
def Zf (t:TE):TT:=fun Z H Q=>t Z H λx H'=>∃k,x=.bl k/\Q k H'
theorem Bw {op:CmpOp} {r:R2} (ho:OpR X (compareOp op) r) (ha:PE X a ta) (hb:PE X b tb) (hm:behindInMarks op b=false):PT X (.Compare a [op] [b] pos) (Zf (tOp r ta tb)):=by
 intro jb s Z H Q I h;refine wpAny_isTrue_Compare1 (thn (ha jb s Z H _ I h) λv s1 ⟨x,H1,I1,r1,q1⟩=>thn (hb jb s1 Z H1 _ I1 q1) λu s2 ⟨y,H2,I2,r2,q2⟩=>
  thn (ho jb s2 Z H2 x y v u _ I2 r1 r2 q2) λc s3 ⟨z,H3,I3,r3,k,e,q3⟩=>?_) hm
 subst e;cases r3;exact QaW ⟨H3,I3,q3⟩
def Uv (r r':R2) (ta tb tc:TE):TE:=fun Z H Q=>ta Z H λx H1=>tb Z H1 λy H2=>r x y H2 λz H3=>∃k,z=.bl k /\
 (if k=true then tc Z H3 λw' H4=>r' y w' H4 Q else Q (.bl false) H3)
theorem Wx {op op':CmpOp} {r r':R2} (ho:OpR X (compareOp op) r) (ho':OpR X (compareOp op') r') (ha:PE X a ta) (hb:PE X b tb) (hc:PE X c tc)
  (hm:lastMarks [op,op'] [b,c]=false:=by with_unfolding_all rfl):PE X (.Compare a [op,op'] [b,c] pos) (Uv r r' ta tb tc):=by
 intro jb s Z H Q I h;refine Compare_chain (thn (ha jb s Z H _ I h) λv s1 ⟨x,H1,I1,r1,q1⟩=>chain_link (thn (hb jb s1 Z H1 _ I1 q1) λu s2 ⟨y,H2,I2,r2,q2⟩=>
  thn (ho jb s2 Z H2 x y v u _ I2 r1 r2 q2) λd s3 ⟨z,H3,I3,r3,k,e,q3⟩=>?_)) hm
 subst e;cases r3;refine QaW ?_;cases k with
 | false=>exact ite_ff ⟨.bl false,H3,I3,rfl,q3⟩
 | true=>exact ite_tt (chain_last (thn (hc jb s3 Z H3 _ I3 q3) λw' s4 ⟨z',H4,I4,r4,q4⟩=>ho' jb s4 Z H4 y z' u w' Q I4 r2 r4 q4))
theorem Wr {op op':CmpOp} {r r':R2} (ho:OpR X (compareOp op) r) (ho':OpR X (compareOp op') r') (ha:PE X a ta) (hb:PE X b tb) (hc:PE X c tc)
  (hm:lastMarks [op,op'] [b,c]=false:=by with_unfolding_all rfl):PT X (.Compare a [op,op'] [b,c] pos) (Zf (Uv r r' ta tb tc)):=by
 intro jb s Z H Q I h;refine isTrue_chain (thn (ha jb s Z H _ I h) λv s1 ⟨x,H1,I1,r1,q1⟩=>test_link (thn (hb jb s1 Z H1 _ I1 q1) λu s2 ⟨y,H2,I2,r2,q2⟩=>
  thn (ho jb s2 Z H2 x y v u _ I2 r1 r2 q2) λd s3 ⟨z,H3,I3,r3,k,e,q3⟩=>?_)) hm
 subst e;cases r3;refine QaW ?_;cases k with
 | false=>
  obtain⟨k',e',q'⟩:=q3;cases e';exact ite_ff ⟨H3,I3,q'⟩
 | true=>
  refine ite_tt (test_last (thn (hc jb s3 Z H3 _ I3 q3) λw' s4 zz=>?_));obtain⟨z',H4,I4,r4,q4⟩:=zz;refine thn (ho' jb s4 Z H4 y z' u w' _ I4 r2 r4 q4) λd' s5 zz=>?_;obtain⟨z2,H5,I5,r5,k2,e2,q5⟩:=zz;subst e2;cases r5;exact QaW ⟨H5,I5,q5⟩
def eZ (K:YD) (x:V) (H:Hp) (k:Bool):Prop:=
 match x with
 | .non=>k=false
 | .bl b=>k=b
 | .int i=>k=(i != 0)
 | .str y=>y.length<=sizeLine/\k=((y.length:Int) != 0)
 | .byt y=>y.size<=sizeLine/\k=((y.size:Int) != 0)
 | .ref p=>(∃xs,SqL K H p xs/\k=!xs.isEmpty)\/(∃xs,SqT K H p xs/\k=!xs.isEmpty)\/∃kvs,H p=some (.dK kvs)/\k=!kvs.isEmpty
 | _=>False
theorem Tv {κ : Type} {kvs:List (κ×V)} {vs:List (κ×Value)} (r:KV kvs vs):(!vs.isEmpty)=!kvs.isEmpty:=by
 cases r <;> rfl
theorem Ls {xs:YG} {its:YE} (r:Vals xs its):(!its.toArray.isEmpty)=!xs.isEmpty:=by
 cases r <;> simp
theorem Im:(sizeLine:Nat) < 2 ^ 63:=by rw[sizeLine_eq];decide
theorem bB:n6 X (λx H Q=>∃k,eZ X.K x H k/\Q k H):=by
 intro jb s Z H x v Q I rx h;obtain⟨k,e,q⟩:=h;have hl:=Im;have hs:sizeLine=16777216:=sizeLine_eq;cases x with
 | non=>
  cases rx;have e':k=false:=e;subst e';exact truthy_none ⟨H,I,q⟩
 | bl b=>
  cases rx;have e':k=b:=e;subst e';exact QaW ⟨H,I,q⟩
 | int i=>
  obtain⟨t,rfl⟩:=rx;have e':k=(i != 0):=e;subst e';exact PySem.P.truthy_int ⟨H,I,q⟩
 | str y=>
  obtain⟨t,rfl⟩:=rx;obtain⟨hy,e'⟩ : y.length<=sizeLine/\k=((y.length:Int) != 0):=e;subst e';exact PySem.P.truthy_str (by omega) ⟨H,I.tok _,q⟩
 | byt y=>
  obtain⟨t,rfl⟩:=rx;obtain⟨hy,e'⟩ : y.size<=sizeLine/\k=((y.size:Int) != 0):=e;subst e';exact PySem.W.truthy_bytes (by omega) ⟨H,I.tok _,q⟩
 | ref p=>
  cases rx;have e':(∃xs,SqL X.K H p xs/\k=!xs.isEmpty)\/(∃xs,SqT X.K H p xs/\k=!xs.isEmpty)\/∃kvs,H p=some (.dK kvs)/\k=!kvs.isEmpty:=e;rcases e' with⟨xs,hx,e'⟩|⟨xs,hx,e'⟩|⟨kvs,hx,e'⟩
  ·subst e';obtain⟨its,r,pl,hz⟩:=I.list hx;have hlen:=r.length;exact wpAny_truthy_list pl.isList (by simp only[QaT];omega) ⟨H,I.tok _,by rw[Ls r];exact q⟩
  ·subst e';obtain⟨its,r,pl,hz⟩:=I.tuple hx;have hlen:=r.length;exact truthy_tuple pl (by simp only[QaT];omega) ⟨H,I.tok _,by rw[Ls r];exact q⟩
  ·subst e';obtain⟨hz,hS,vs,r,m⟩ : kvs.length<=sizeLine/\(p == sysModules)=false/\∃vs,KV kvs vs/\s.heap.DictOf (Cv X.prog X.w) p vs:=I.hok p _ hx;have hlen:kvs.length=vs.length:=QbG r;exact wpAny_truthy_dict hS m (by omega) ⟨H,I.tok _,by rw[Tv r];exact q⟩
 | _=>exact (show False from e).elim
theorem Wq (ha:PE X a ta) (he:∀whole,isTrue a X.env whole=(do let v <-whole;standAt a.pos;holding [v] (truthy v))) :
  PT X a (fun Z H Q=>ta Z H λx H'=>∃k,eZ X.K x H' k/\Q k H'):=by
 intro jb s Z H Q I h;refine isTrue_plain (thn (ha jb s Z H _ I h) λv s1 zz=>?_) (he _);obtain⟨x,H1,I1,r1,q1⟩:=zz;exact bB jb s1 Z H1 x v Q I1 r1 q1
theorem vals1 {x:V} {us:YE} (r:Vals [x] us):∃u,us=[u]/\RelV x u:=by
 cases r with
 | cons r1 r2=>cases r2;exact⟨_,rfl,r1⟩
theorem vals2 {x y:V} {us:YE} (r:Vals [x,y] us):∃u w',us=[u,w']/\RelV x u/\RelV y w':=by
 cases r with
 | cons r1 r2=>
  cases r2 with
  | cons r3 r4=>cases r4;exact⟨_,_,rfl,r1,r3⟩
theorem Qm:Cq X (.builtin "abs") (λxs H Q=>∃i,xs=[.int i]/\Q (.int (if i < 0 then -i else i)) H):=by
 intro jb s Z H xs us Q I r h;obtain⟨i,rfl,q⟩:=h;obtain⟨u,rfl,t,rfl⟩:=vals1 r;exact call_abs_int λu tk=>⟨.int (if i < 0 then -i else i),H,I.tok _,⟨_,rq⟩,q⟩
theorem VL (hc:X.calm=true):Cq X (.builtin "max") (λxs H Q=>∃i j,xs=[.int i,.int j]/\Q (.int (if j > i then j else i)) H):=by
 intro jb s Z H xs us Q I r h;obtain⟨i,j,rfl,q⟩:=h;obtain⟨u,w',rfl,⟨t,rfl⟩,⟨t',rfl⟩⟩:=vals2 r;refine max_two_ints (I.ok.hd hc) λh' tk k=>⟨_,H,I.kept k,?_,q⟩;by_cases hj:j > i
 ·rw[if_pos hj,if_pos hj];exact⟨_,rq⟩
 ·rw[if_neg hj,if_neg hj];exact⟨_,rq⟩
theorem MN (hc:X.calm=true):Cq X (.builtin "min") (λxs H Q=>∃i j,xs=[.int i,.int j]/\Q (.int (if j < i then j else i)) H):=by
 intro jb s Z H xs us Q I r h;obtain⟨i,j,rfl,q⟩:=h;obtain⟨u,w',rfl,⟨t,rfl⟩,⟨t',rfl⟩⟩:=vals2 r;refine min_two_ints (I.ok.hd hc) λh' tk k=>⟨_,H,I.kept k,?_,q⟩;by_cases hj:j < i
 ·rw[if_pos hj,if_pos hj];exact⟨_,rq⟩
 ·rw[if_neg hj,if_neg hj];exact⟨_,rq⟩
theorem VR:Cq X (.type "int") (λxs H Q=>(∃i,xs=[.int i]/\Q (.int i) H)\/∃k,xs=[.bl k]/\Q (.int (if k then 1 else 0)) H):=by
 intro jb s Z H xs us Q I r h;rcases h with⟨i,rfl,q⟩|⟨k,rfl,q⟩
 ·obtain⟨u,rfl,t,rfl⟩:=vals1 r;exact call_int_int ⟨.int i,H,I,⟨_,rq⟩,q⟩
 ·obtain⟨u,rfl,r1⟩:=vals1 r;cases r1;exact call_int_bool ⟨.int (if k then 1 else 0),H,I.tok _,⟨_,rq⟩,q⟩
theorem Qi:Cq X (.type "str") (λxs H Q=>∃i,xs=[.int i]/\i.natAbs.log2 < 1920/\Q (.str (toString i)) H):=by
 intro jb s Z H xs us Q I r h;obtain⟨i,rfl,hz,q⟩:=h;obtain⟨u,rfl,t,rfl⟩:=vals1 r;exact PySem.P.str_of_int hz ⟨.str _,H,I.tok _,⟨_,rq⟩,q⟩
end
structure K4 (h:Heap) (x dx C:Addr) (mA:YB):Prop where
 obj:h.get? x=some (instObj C dx)
 ns:h.Ns1 dx mA
 ne:dx≠x
theorem Vi {h:Heap} {dx:Addr} {mA:YB} (n:h.Ns1 dx mA):∃od,h.get? dx=some od/\∀name,lookIn name od=some (mA name):=by
 obtain⟨o,es,ep,ho,hd,hk,_,hm⟩:=n;refine⟨o,ho,λname=>?_⟩;have e:=hm name;unfold nsFind findBy at e;rw[<-Array.find?_toList] at e;unfold lookIn;rw[hd];dsimp only;split
 ·rename_i y q;rw[q] at e;exact congrArg some e
 ·rename_i q;rw[q] at e;have a:es.toList.any (·.refKey)=false:=by
   rw[List.any_eq_false];intro y hy;obtain⟨z,t,hkey⟩:=hk y (Array.mem_toList_iff.mp hy);simp[DictEntry.refKey,hkey]
  have a':¬es.toList.any (·.refKey)=true:=by rw[a];exact QaE
  rw[if_neg a'];exact congrArg some e
theorem K4.look {h:Heap} {x dx C:Addr} {mA:YB} (I:K4 h x dx C mA):∃od,PySem.W.InstAt h x (instObj C dx) C (some od)/\∀name,lookIn name od=some (mA name):=
 let ⟨od,ho,hl⟩:=Vi I.ns
 ⟨od,⟨I.obj,rq,rq,ho⟩,hl⟩
section
variable {prog:Program} {w:World} {A:Around} {E:YA} {s:Shared} {K:YD} {x dx C f:Addr} {mA:YB} {name:Str} {v:Value}
theorem get_map {expr:Bool} {Q:YA} (X:K.In s.heap) (I:K4 s.heap x dx C mA) (hg:plainGet K C name=true) (hh:hasDictIn K C=true)
  (ha:findIn K (.ref C) name=some none) (hv:mA name=some v) (hv':PySem.W.handedIn v=true) (h:Q v { s with toks:=s.toks+1 }) :
  wpAny (model prog w) A (getAttr (.ref x) name expr) Q E s:=by
 obtain⟨od,J,hl⟩:=I.look;exact PySem.W.get_value X J (PySem.W.plainGet_of hg).1 (PySem.W.findObj_own hh ha rfl (by rw[hl,hv])) hv' h
theorem Yt {pl:Sem Bool} {Q:Value×YE->Shared->Prop} (X:K.In s.heap) (I:K4 s.heap x dx C mA) (hg:plainGet K C name=true)
  (hf:findIn K (.ref C) name=some (some (.ref f))) (ht:isFn K (.ref f)=true) (hv:mA name=none) (h:Q (.ref f,[.ref x]) s) :
  wpAny (model prog w) A (getMethod (.ref x) name pl) Q E s:=by
 obtain⟨od,J,hl⟩:=I.look;exact PySem.W.method_fn X J (PySem.W.plainGet_of hg).1 (PySem.W.plainGet_of hg).2 hf (beq_iff_eq.mp ht) (by show (lookIn name od).map (·.isSome)=some false;rw[hl,hv];rfl) h
theorem ZK {ns:YF} {Q:YH} (X:K.In s.heap) (I:K4 s.heap x dx C mA)
  (hs:findIn K (.ref C) "__setattr__"=some (some (.builtin "object.__setattr__"))) (hp:PySem.W.plainOver K C=true) (ht:PySem.W.takerIn K C name=some none) (hh:hasDictIn K C=true)
  (hw:PySem.Within mA ns) (hsz:ns.length<=sizeLine)
  (h:∀h',K4 h' x dx C (λy=>if y=name then some v else mA y)->Heap.SameBut dx s.heap h'->Q () { s with heap:=h',toks:=s.toks+2 }) :
  wpAny (model prog w) A (setAttr (.ref x) name v) Q E s:=by
 obtain⟨od,J,hl⟩:=I.look;refine PySem.W.set_plain X J hs (PySem.W.osa_open (s:={ s with toks:=s.toks+1 }) (r:=none) X J hp ht λb=>?_);obtain⟨cd,hc,hd'⟩:=PySem.W.any_some hh;have hx:s.heap.get? x=some ⟨.ref C,some dx,.plain,#[]⟩:=I.obj;refine QbX (QbY (QbX (QbX (wpAny_loadPart hx (QbX (PySem.W.Looks.here (s:={ s with toks:=s.toks+1 }) (PySem.W.looks_clsIn X hc) ?_))))));rw[hd'];refine QbY (a:=some dx) (QbX (QbY (QbX ?_)));refine wpAny_nsSet1 (s:={ s with toks:=s.toks+1 }) I.ns λh' hn2 hs2=>?_;obtain⟨oD,esD,epD,hoD,hdD,hcD⟩:=hn2.count (PySem.Within.cons name v hw);refine QbX (wpAny_lookBehind hoD (by rw[hdD];exact pastItsLine_dict (QbR hcD (by rw[Qbf];omega))) ?_);exact QbY (h _ ⟨(hs2.2 _ (Ne.symm I.ne)).trans I.obj,hn2,I.ne⟩ hs2)
theorem WX {R:Result->Shared->Prop} {vs:YE} {kw:List (Str×Value)} (X:K.In s.heap) (hm:PySem.W.makesIn K C=true)
  (hi:findIn K (.ref C) "__init__"=some (some (.ref f))) (hf:PySem.W.typeIn K (.ref f)=some (.type "function"))
  (h:codeAny (model prog w) (A.under (.builtin "type.__call__" ⟨.ref C::vs,kw⟩)) (.call (.ref f) ⟨.ref (s.heap.objs.size+1)::vs,kw⟩) (PySem.W.InitBack (s.heap.objs.size+1) R)
   { s with heap:=(s.heap.push emptyDict).push (instObj C s.heap.objs.size) }) :
  codeAny (model prog w) A (.call (.ref C) ⟨vs,kw⟩) R s:=by
 obtain⟨hh,g,d,t,os⟩:=s;exact PySem.W.make_core (PySem.W.makes_of X hm) (looks_findIn X hi) (λself=>PySem.W.bind_fn X self hf) (.inl rfl) h
end
def Dl (f:Str) (v:V):List (Str×V)->List (Str×V)
 | []=>[(f,v)]
 | (g,x)::r=>if g=f then (g,v)::r else (g,x)::Dl f v r
theorem Km (f g:Str) (v:V):∀fs:List (Str×V),(Dl f v fs).lookup g=if g=f then some v else fs.lookup g
 | []=>by
  show List.lookup g [(f,v)]=_;by_cases h:g=f
  ·have hb:(g == f)=true:=beq_iff_eq.mpr h;simp only[List.lookup,hb,if_pos h]
  ·have hb:(g == f)=false:=QaB.mpr h;simp only[List.lookup,hb,if_neg h]
 | (k,x)::r=>by
  have ih:=Km f g v r;rw[show Dl f v ((k,x)::r)=(if k=f then (k,v)::r else (k,x)::Dl f v r) from rfl]
  by_cases hk:k=f
  ·rw[if_pos hk];by_cases h:g=k
   ·have hb:(g == k)=true:=beq_iff_eq.mpr h;simp only[List.lookup,hb,if_pos (h.trans hk)]
   ·have hb:(g == k)=false:=QaB.mpr h;simp only[List.lookup,hb,if_neg (λe:g=f=>h (e.trans hk.symm))]
  ·rw[if_neg hk];by_cases h:g=k
   ·have hb:(g == k)=true:=beq_iff_eq.mpr h;simp only[List.lookup,hb,if_neg (λe:g=f=>hk (h.symm.trans e))]
   ·have hb:(g == k)=false:=QaB.mpr h;simp only[List.lookup,hb];exact ih
theorem JC (f:Str) (v:V):∀fs:List (Str×V),f∈(Dl f v fs).map (·.1)/\∀g,g∈fs.map (·.1)->g∈(Dl f v fs).map (·.1)
 | []=>⟨by simp[Dl],λg h=>by simp at h⟩
 | (k,x)::r=>by
  obtain⟨i1,i2⟩:=JC f v r;rw[show Dl f v ((k,x)::r)=(if k=f then (k,v)::r else (k,x)::Dl f v r) from rfl]
  by_cases hk:k=f
  ·rw[if_pos hk];subst hk;exact⟨by simp,λg h=>by simpa using h⟩
  ·rw[if_neg hk];refine⟨?_,λg h=>?_⟩
   ·rw[QbJ];exact Qau _ i1
   ·rw[QbJ] at h ⊢;rcases QbF.mp h with e | e
    ·exact QbF.mpr (.inl e)
    ·exact Qau _ (i2 g e)
theorem Ko (f:Str) (v:V):∀fs:List (Str×V),(Dl f v fs).length<=fs.length+1
 | []=>by simp[Dl]
 | (k,x)::r=>by
  have ih:=Ko f v r;rw[show Dl f v ((k,x)::r)=(if k=f then (k,v)::r else (k,x)::Dl f v r) from rfl]
  by_cases hk:k=f
  ·rw[if_pos hk,Qbf,Qbf];omega
  ·rw[if_neg hk,Qbf,Qbf];omega
theorem FW.some_of {v:V} {o:Option Value} (r:FW (some v) o):∃u,o=some u/\RelV v u:=by
 cases o with
 | none=>exact (show False from r).elim
 | some u=>exact⟨u,rfl,r⟩
theorem FW.none_of {o:Option Value} (r:FW none o):o=none:=by
 cases o with
 | none=>rfl
 | some u=>exact (show False from r).elim
theorem Vs {v:V} {u:Value} (r:RelV v u):PySem.W.handedIn u=true:=by
 cases v with
 | non=>cases (show u=Value.none from r);rfl
 | bl b=>cases (show u=Value.bool b from r);rfl
 | int i=>obtain⟨t,e⟩:=(show ∃t,u=Value.int i t from r);cases e;rfl
 | str x=>obtain⟨t,e⟩:=(show ∃t,u=Value.str x t from r);cases e;rfl
 | byt b=>obtain⟨t,e⟩:=(show ∃t,u=Value.bytes b t from r);cases e;rfl
 | flt b=>obtain⟨t,e⟩:=(show ∃t,u=Value.float b t from r);cases e;rfl
 | ref a=>cases (show u=Value.ref a from r);rfl
 | ty n=>cases (show u=Value.type n from r);rfl
section
variable {P:Program} {w:World} {H H':Hp} {h h':Heap} {a C dx:Addr} {fs fs':List (Str×V)}
theorem Ke (hok:HOk P w H h) (e:H a=some (.ins C dx fs)):∃mA,K4 h a dx C mA/\(∀f,FW (fs.lookup f) (mA f))/\PySem.Within mA (fs.map (·.1))/\fs.length<=1000/\H dx=some (.own a):=by
 obtain⟨d,z,ne,ob,mA,n,r,q⟩:=(show Bd P w H h a (.ins C dx fs) from hok a _ e)
 exact⟨mA,⟨ob,n,ne⟩,r,q,z,d⟩
end
structure Cls (K:YD) (C:Addr):Prop where
 pg:plainGet K C Str.empty=true
 hd:hasDictIn K C=true
 po:PySem.W.plainOver K C=true
 sa:findIn K (.ref C) "__setattr__"=some (some (.builtin "object.__setattr__"))
theorem Cls.get {K:YD} {C:Addr} (c:Cls K C) (f:Str):plainGet K C f=true:=c.pg
def FZ (K:YD) (C:Addr) (f:Str):Prop:=findIn K (.ref C) f=some none
theorem FZ.taker {K:YD} {C:Addr} {f:Str} (n:FZ K C f):PySem.W.takerIn K C f=some none:=by
 unfold PySem.W.takerIn;rw[show findIn K (.ref C) f=some none from n]
 rfl
structure Meth (K:YD) (C:Addr) (m:Str) (f:Addr):Prop where
 at_:findIn K (.ref C) m=some (some (.ref f))
 fn:isFn K (.ref f)=true
 kp:keepIn K (.ref f)=true
section
variable {X:Cx} {jb:YC} {Z : St} {H:Hp} {s:Shared} {a C dx:Addr} {fs:List (Str×V)} {f:Str} {v:V} {A:Around} {E:YA}
theorem TJ {b:Bool} {Q:YA} (I:Inv X jb Z H s) (e:H a=some (.ins C dx fs)) (c:Cls X.K C) (n:FZ X.K C f) (l:fs.lookup f=some v)
  (h:∀u s',Inv X jb Z H s'->RelV v u->Q u s'):wpAny (model X.prog X.w) A (getAttr (.ref a) f b) Q E s:=by
 obtain⟨mA,O,r,_,_,_⟩:=Ke I.hok e;obtain⟨u,hu,ru⟩:=FW.some_of (v:=v) (o:=mA f) (by rw[<-l];exact r f);exact get_map I.kIn O (c.get f) c.hd n hu (Vs ru) (h u _ (I.tok _) ru)
theorem GZ {m:Str} {g:Addr} {pl:Sem Bool} {Q:Value×YE->Shared->Prop} (I:Inv X jb Z H s) (e:H a=some (.ins C dx fs)) (c:Cls X.K C) (k:Meth X.K C m g) (l:fs.lookup m=none)
  (h:Q (.ref g,[.ref a]) s):wpAny (model X.prog X.w) A (getMethod (.ref a) m pl) Q E s:=by
 obtain⟨mA,O,r,_,_,_⟩:=Ke I.hok e;have hn:mA m=none:=FW.none_of (by rw[<-l];exact r m);exact Yt I.kIn O (c.get m) k.at_ k.fn hn h
theorem RV {y:V} {u:Value} {Q:YH} (I:Inv X jb Z H s) (e:H a=some (.ins C dx fs)) (c:Cls X.K C) (n:FZ X.K C f) (hl:fs.length < 1000) (ry:RelV y u)
  (h:∀s',Inv X jb Z (upd H a (.ins C dx (Dl f y fs))) s'->Q () s'):wpAny (model X.prog X.w) A (setAttr (.ref a) f u) Q E s:=by
 obtain⟨mA,O,r,wi,_,ho⟩:=Ke I.hok e;have hz:(fs.map (·.1)).length<=sizeLine:=by rw[Qbl,sizeLine_eq];omega
 refine ZK I.kIn O c.sa c.po n.taker c.hd wi hz λh' O' sb=>h _ ?_;have hd:∃o,h'.get? dx=some o:=let ⟨o,_,_,e',_⟩:=O'.ns;⟨o,e'⟩;refine I.write (x:=a) (e:=dx) (by rw[e];exact True.intro) (.inr ho) (λb q hb z=>(sb.2 b hb).trans z) hd ?_;refine⟨by rw[Aj O.ne];exact ho,?_,O.ne,O'.obj,_,O'.ns,λg=>?_,λg hg=>?_⟩
 ·have:=Ko f y fs;omega
 ·show FW ((Dl f y fs).lookup g) (if g=f then some u else mA g)
  rw[Km];by_cases q:g=f
  ·rw[if_pos q,if_pos q];exact ry
  ·rw[if_neg q,if_neg q];exact r g
 ·by_cases q:g=f
  ·rw[q];exact (JC f y fs).1
  ·refine (JC f y fs).2 g (wi g λz=>hg ?_);show (if g=f then some u else mA g)=none
   rw[if_neg q];exact z
theorem Inv.made (I:Inv X jb Z H s):Inv X jb Z (upd (upd H s.heap.objs.size (.own (s.heap.objs.size+1))) (s.heap.objs.size+1) (.ins C s.heap.objs.size []))
  { s with heap:=(s.heap.push emptyDict).push (instObj C s.heap.objs.size) }:=by
 have e1:(s.heap.push emptyDict).get? s.heap.objs.size=some emptyDict:=QaA s.heap rfl;have e2:((s.heap.push emptyDict).push (instObj C s.heap.objs.size)).get? (s.heap.objs.size+1)=some (instObj C s.heap.objs.size):=by
  have:=QaA (s.heap.push emptyDict) (o:=instObj C s.heap.objs.size) rfl
  rwa [QbD] at this
 have e3:(s.heap.push emptyDict).Ns s.heap.objs.size (λ_=>none):=⟨emptyDict,#[],_,e1,rq,(λe he=>absurd he (by simp)),λ_=>rfl⟩;have I1:=I.laid (a:=s.heap.objs.size) (o:=.own (s.heap.objs.size+1)) (h':=s.heap.push emptyDict) (t':=s.toks) (λb u q=>Qak _ q) (QbV _) ⟨_,e1⟩;refine I1.laid (a:=s.heap.objs.size+1) (o:=.ins C s.heap.objs.size []) (t':=s.toks) (λb u q=>Qak _ q) (Nat.le_of_eq (QbD _ _)) ?_;have ne:s.heap.objs.size≠s.heap.objs.size+1:=QbP (Qbg _);refine⟨by rw[Aj ne,Ab],QbW _,ne,e2,λ_=>none,(Heap.Ns1.of_empty e3).at λo q=>Qak _ q,λ_=>True.intro,λy hy=>absurd rfl hy⟩
theorem aU {prog:Program} {w:World} {env:Env} {e:Expr} {f:Str} {pos:Pos} {s:Shared} {Q:YA} (hb:attributeBase e f env (eval e env)=eval e env)
  (h:wpAny (model prog w) A (eval e env) (λo s₁=>wpAny (model prog w) A (getAttr o f true) Q E s₁) E s):wpAny (model prog w) A (eval (.Attribute e f pos) env) Q E s:=
 Attribute_any_ h (by rw[arm_eval_Attribute,hb])
end
def bH (K:YD) (ta:TE) (f:Str):TE:=fun Z H Q=>ta Z H λx H1=>∃a C dx fs v,x=.ref a/\H1 a=some (.ins C dx fs)/\Cls K C/\FZ K C f/\fs.lookup f=some v/\Q v H1
section
variable {X:Cx} {o e value:Expr} {f:Str} {pos pos' tpos:Pos} {ta tv:TE}
theorem Ek (he:PE X e ta) (hb:attributeBase e f X.env (eval e X.env)=eval e X.env):PE X (.Attribute e f pos) (bH X.K ta f):=by
 intro jb s Z H Q I h;refine aU hb (thn (he jb s Z H _ I h) λu s1 zz=>?_);obtain⟨x,H1,I1,rx,a,C,dx,fs,v,ex,ea,c,n,l,q⟩:=zz;subst ex;obtain rfl:u=Value.ref a:=rx;exact TJ I1 ea c n l λu' s2 I2 ru=>⟨v,H1,I2,ru,q⟩
theorem fG {pl:Sem Bool} {m:Str} {apos:Pos} {args:YJ} {jb:YC} {s:Shared} {Z : St} {H:Hp} {Q:YA} {te:TE} (he:PE X e te) (I:Inv X jb Z H s)
  (h:te Z H λx H1=>∃a C dx fs g,x=.ref a/\H1 a=some (.ins C dx fs)/\Cls X.K C/\Meth X.K C m g/\fs.lookup m=none /\
   ∀s1,Inv X jb Z H1 s1->wpAny (model X.prog X.w) X.A (callWith pos (.ref g) [.ref a] (backTo pos (starEach args X.env)) (backToKw pos (keywordEach [] X.env))) Q X.xe s1)
  (ht:eval (.Call (.Attribute e m apos) args [] pos) X.env=(do
   let ov <-eval e X.env
   standAt apos.atName
   let (f,first) <-holding [ov] (getMethod ov m pl)
   callWith pos f first (backTo pos (starEach args X.env)) (backToKw pos (keywordEach [] X.env)))) :
  wpAny (model X.prog X.w) X.A (eval (.Call (.Attribute e m apos) args [] pos) X.env) Q X.xe s:=by
 refine methodCall_KW (pl:=pl) (thn (he jb s Z H _ I h) λu s1 zz=>?_) ht;obtain⟨x,H1,I1,rx,a,C,dx,fs,g,ex,ea,c,k,l,q⟩:=zz;subst ex;obtain rfl:u=Value.ref a:=rx;exact GZ I1 ea c k l (q s1 I1)
end
section
variable {X:Cx} {jb:YC} {Z : St} {H:Hp} {s:Shared} {A:Around} {E:YA} {Q:YA} {c:Value} {b:Bool}
inductive Gh (K:YD) (H:Hp):V->Value->Prop where
 | non:Gh K H .non (.type "NoneType")
 | bl (x:Bool):Gh K H (.bl x) (.type "bool")
 | int (i:Int):Gh K H (.int i) (.type "int")
 | str (x:Str):Gh K H (.str x) (.type "str")
 | flt (x:UInt64):Gh K H (.flt x) (.type "float")
 | lst {a:Addr} {xs:YG} (e:H a=some (.lst xs)):Gh K H (.ref a) (.type "list")
 | frz {a:Addr} {o:Obj} {xs:YG} (e:H a=some (.frz o (.lst xs))):Gh K H (.ref a) (.type "list")
 | tup {a:Addr} {xs:YG} (e:H a=some (.tup xs)):Gh K H (.ref a) (.type "tuple")
 | dK {a:Addr} {kvs:List (Key×V)} (e:H a=some (.dK kvs)):Gh K H (.ref a) (.type "dict")
 | dT {a:Addr} {kvs:List (List Key×V)} (e:H a=some (.dT kvs)):Gh K H (.ref a) (.type "dict")
 | ins {a C dx:Addr} {fs:List (Str×V)} (e:H a=some (.ins C dx fs)) (cl:Cls K C) (ha:findIn K (.ref C) "__class__"=some (some (.builtin "object.__class__")))
   (hn:PySem.W.specialIn K (.builtin "object.__class__") "__get__"=some (some (.builtin "getset_descriptor.__get__"))) (htk:PySem.W.takesIn K (.builtin "object.__class__")=some true)
   (hm:PySem.W.mroIn K C (.type "object")=some true):Gh K H (.ref a) (.ref C)
theorem Vm {x:V} {u t:Value} (I:Inv X jb Z H s) (rx:RelV x u) (ty:Gh X.K H x t) (e:kitOne X.K t c=some b) (h:∀tk,Q (.bool b) { s with toks:=tk }) :
  wpAny (model X.prog X.w) A (call (.builtin "isinstance") [u,c]) Q E s:=by
 cases ty with
 | non=>cases (show u=Value.none from rx);exact kia_one PySem.W.kitx_none I.kIn True.intro e (λz=>nomatch z) h
 | bl y=>cases (show u=Value.bool y from rx);exact kia_one PySem.W.kitx_bool I.kIn True.intro e (λz=>nomatch z) h
 | int i=>obtain⟨t,q⟩:=(show ∃t,u=Value.int i t from rx);cases q;exact kia_one PySem.W.kitx_int I.kIn True.intro e (λz=>nomatch z) h
 | str y=>obtain⟨t,q⟩:=(show ∃t,u=Value.str y t from rx);cases q;exact kia_one PySem.W.kitx_str I.kIn True.intro e (λz=>nomatch z) h
 | flt y=>obtain⟨t,q⟩:=(show ∃t,u=Value.float y t from rx);cases q;exact kia_one PySem.W.kitx_float I.kIn True.intro e (λz=>nomatch z) h
 | @lst a xs ea=>
  cases (show u=Value.ref a from rx)
  obtain⟨_,_,n,_,h1⟩:=(show Bd X.prog X.w H s.heap a (.lst xs) from I.hok a _ ea)
  exact kia_one PySem.W.kitx_list I.kIn ⟨_,h1,rq⟩ e (λz=>nomatch z) h
 | @frz a ob xs ea=>
  cases (show u=Value.ref a from rx)
  obtain⟨_,_,_,n,_,h1⟩:=(show Bd X.prog X.w H s.heap a (.frz ob (.lst xs)) from I.hok a _ ea)
  exact kia_one PySem.W.kitx_list I.kIn ⟨_,h1,rq⟩ e (λz=>nomatch z) h
 | @tup a xs ea=>
  cases (show u=Value.ref a from rx)
  obtain⟨_,_,_,p⟩:=(show Bd X.prog X.w H s.heap a (.tup xs) from I.hok a _ ea)
  obtain⟨o,h1,h2,_⟩:=p;exact kia_one PySem.W.kitx_tuple I.kIn ⟨o,h1,h2⟩ e (λz=>nomatch z) h
 | @dK a kvs ea=>
  cases (show u=Value.ref a from rx)
  obtain⟨_,_,vs,_,p⟩:=(show Bd X.prog X.w H s.heap a (.dK kvs) from I.hok a _ ea)
  obtain⟨o,es,ep,h1,h2,_⟩:=p;exact kia_one PySem.W.kitx_dict I.kIn ⟨o,h1,h2.1⟩ e (λz=>nomatch z) h
 | @dT a kvs ea=>
  cases (show u=Value.ref a from rx)
  obtain⟨_,_,xs,_,o,es,ep,h1,h2,_⟩:=(show Bd X.prog X.w H s.heap a (.dT kvs) from I.hok a _ ea)
  exact kia_one PySem.W.kitx_dict I.kIn ⟨o,h1,h2.1⟩ e (λz=>nomatch z) h
 | @ins a C dx fs ea cl ha hn htk hm=>
  cases (show u=Value.ref a from rx)
  obtain⟨mA,O,_⟩:=Ke I.hok ea;obtain⟨od,J,_⟩:=O.look;exact kia_one (PySem.W.kitx_own (cl.get _) cl.hd ha hn htk hm) I.kIn J e (λz=>nomatch z) h
end
structure Bh (k:Nat) (A:Around):Prop where
 hd:A.handled=none
 dp:A.depth+3*k+5 < recursionLimit
 un:A.units+16*k+200 < cLine
theorem Bh.mono {j k:Nat} {A:Around} (r:Bh k A) (h:j<=k):Bh j A:=⟨r.hd,by have:=r.dp;omega,by have:=r.un;omega⟩
theorem Bh.deeper {k:Nat} {A:Around} (r:Bh (k+1) A) (env:Env):Bh k (A.deeper env):=
 ⟨r.hd,by have:=r.dp;show A.depth+1+3*k+5 < _;omega,by have:=r.un;show A.units+3+16*k+200 < _;omega⟩
theorem Bh.in1 {k:Nat} {A:Around} (r:Bh (k+1) A):Bh k A.in1:=
 ⟨r.hd,by have:=r.dp;show A.depth+3*k+5 < _;omega,by have:=r.un;show A.units+1+16*k+200 < _;omega⟩
theorem S8 {A:Around} {C:Addr} {us:YE} {kw:List (Str×Value)}:(A.under (.builtin "type.__call__" ⟨.ref C::us,kw⟩)).depth=A.depth+1:=by
 first | rfl | simp[Around.under,Code.weight,Code.isCreation,Code.isGuard,Code.isCaller,Code.frames,Code.isFrame,guardIds]
theorem SQ {A:Around} {C:Addr} {us:YE} {kw:List (Str×Value)}:(A.under (.builtin "type.__call__" ⟨.ref C::us,kw⟩)).units=A.units+1:=by
 first | rfl | simp[Around.under,Code.cUnits,Code.frames,Code.isFrame]
theorem Bh.make {k:Nat} {A:Around} (r:Bh (k+1) A) (C:Addr) (us:YE) (kw:List (Str×Value)):Bh k (A.under (.builtin "type.__call__" ⟨.ref C::us,kw⟩)):=
 ⟨r.hd,by have:=r.dp;rw[S8];omega,by have:=r.un;rw[SQ];omega⟩
theorem Bh.depth {k:Nat} {A:Around} (r:Bh k A):A.depth < recursionLimit:=by have:=r.dp;omega
theorem Bh.units {k:Nat} {A:Around} (r:Bh k A):A.units+64 < cLine:=by have:=r.un;omega
def Kp:TA:=λ_ H Q=>Q [] H
def Hv (ta:TE) (tr:TA):TA:=fun Z H Q=>ta Z H λx H1=>tr Z H1 λxs H2=>Q (x::xs) H2
section
variable {X:Cx} {e:Expr} {es:YJ} {te:TE} {t:TA} {pos:Pos}
theorem Ac:PA X [] Kp:=λ_ _ _ _ H Q I h=>Calls.spliced_nil ⟨[],H,I,.nil,h⟩
theorem Aa (ha:PE X e te) (hr:PA X es t) (hs:starEach (e::es) X.env=(false,eval e X.env)::starEach es X.env:=by rfl):PA X (e::es) (Hv te t):=by
 intro pos jb s Z H Q I h;rw[hs];show wpAny _ _ (spliced ((false,eval e X.env)::backTo pos (starEach es X.env))) _ _ s;refine QaQ (thn (ha jb s Z H _ I h) λu s1 zz=>?_);obtain⟨x,H1,I1,r1,q1⟩:=zz;refine thn (hr pos jb s1 Z H1 _ I1 q1) λus s2 zz=>?_;obtain⟨xs,H2,I2,r2,q2⟩:=zz;exact⟨x::xs,H2,I2,.cons r1 r2,q2⟩
def iu (t:TA):TE:=fun Z H Q=>t Z H λxs H1=>xs.length<=sizeLine/\∀p,H1 p=none->Q (.ref p) (upd H1 p (.tup xs))
def iC (t:TA):TE:=fun Z H Q=>t Z H λxs H1=>xs.length<=sizeLine/\∀p,H1 p=none->Q (.ref p) (upd H1 p (.lst xs))
theorem Ih {x1} (h:PA X es t):PE X (.Tuple es x1 pos) (iu t):=by
 intro jb s Z H Q I hq;refine wpAny_Tuple_spliced (thn (h pos jb s Z H _ I hq) λus s1 zz=>?_);obtain⟨xs,H1,I1,r,z,q⟩:=zz;refine⟨by rw[<-r.length];exact z,?_⟩;have hf:H1 s1.heap.objs.size=none:=I1.hok.fresh (QbV _);refine⟨.ref s1.heap.objs.size,upd H1 s1.heap.objs.size (.tup xs),I1.laid (t':=s1.toks) (λb u e=>Qak _ e) (QbV _) ?_,rq,q _ hf⟩;exact⟨z,us,r,⟨_,QaA _ rfl,rq,_,rq⟩⟩
theorem Cw (h:PA X es t):PE X (.List es pos) (iC t):=by
 intro jb s Z H Q I hq;refine wpAny_List_spliced (thn (h pos jb s Z H _ I hq) λus s1 zz=>?_);obtain⟨xs,H1,I1,r,z,q⟩:=zz;refine⟨by rw[<-r.length];exact z,?_⟩;have hf:H1 s1.heap.objs.size=none:=I1.hok.fresh (QbV _);refine⟨.ref s1.heap.objs.size,upd H1 s1.heap.objs.size (.lst xs),I1.laid (t':=s1.toks) (λb u e=>Qak _ e) (QbV _) ?_,rq,q _ hf⟩;exact⟨z,us,0,r,QaA _ rfl⟩
end
abbrev Sp:=YG->Hp->VK->XK->Prop
abbrev CXT:=List Env->Hp->Shared->XK->YA
structure GP (P:Program) (w:World) (K:YD) (mg:YB) (base:Heap) (A:Around) (outer:List Env) (s:Shared) (H:Hp):Prop where
 frames:A.frames=some outer
 mod:Mod K mg base
 bs:∀b o,base.get? b=some o->s.heap.get? b=some o/\H b=none
 bsz:base.objs.size<=s.heap.objs.size
 Ds:s.heap.FunFrames base outer
 frf:∀b∈frs outer,H b=none
 hok:HOk P w H s.heap
 bare:AllBare s.gens
def CE (outer:List Env) (P:Program) (w:World) (H:Hp) (s:Shared) (Q:VK) (u:Value) (s':Shared):Prop:=
 ∃v H',s'.os=s.os/\AllBare s'.gens/\Un (frs outer) [] H H' s.heap s'.heap/\HOk P w H' s'.heap/\RelV v u/\Q v H'
def CR (CX:CXT) (outer:List Env) (P:Program) (w:World) (H:Hp) (s:Shared) (Q:VK) (E:XK) (r:Result) (s':Shared):Prop:=
 match r with
 | .ok (.ret u)=>CE outer P w H s Q u s'
 | .ok _=>False
 | .error e=>CX outer H s E e s'
structure Du (P:Program) (w:World) (K:YD) (mg:YB) (base:Heap) (CX:CXT) (k:Nat) (f:Addr) (fd:FuncData) (ps:YF) (sp:Sp):Prop where
 len:∀vs H Q E,sp vs H Q E->vs.length=ps.length
 run:∀(A:Around) (outer:List Env) (s:Shared) (H:Hp) (args:Args) (us:YE) (vs:YG) (Q:VK) (E:XK),Bh k A->GP P w K mg base A outer s H->BindsTo s fd args (ps.zip us)->Vals vs us->sp vs H Q E ->
  codeAny (model P w) A (.call (.ref f) args) (CR CX outer P w H s Q E) s
theorem Du.imp {P:Program} {w:World} {K:YD} {mg:YB} {base:Heap} {CX:CXT} {k:Nat} {f:Addr} {fd:FuncData} {ps:YF} {sp sp':Sp} (F:Du P w K mg base CX k f fd ps sp)
  (h:∀vs H Q E,sp' vs H Q E->sp vs H Q E):Du P w K mg base CX k f fd ps sp':=
 ⟨λvs H Q E q=>F.len vs H Q E (h _ _ _ _ q),λA outer s H args us vs Q E hr he hb hv hs=>F.run A outer s H args us vs Q E hr he hb hv (h _ _ _ _ hs)⟩
theorem GP.make {P:Program} {w:World} {K:YD} {mg:YB} {base:Heap} {A:Around} {outer:List Env} {s:Shared} {H:Hp} (e:GP P w K mg base A outer s H) (C:Addr) (us:YE) (kw:List (Str×Value)) :
  GP P w K mg base (A.under (.builtin "type.__call__" ⟨.ref C::us,kw⟩)) outer s H:=⟨by first | exact e.frames | (simpa [Around.under,Code.envs,Code.isFrame,pushEnvs] using e.frames),e.mod,e.bs,e.bsz,e.Ds,e.frf,e.hok,e.bare⟩
theorem GP.in1 {P:Program} {w:World} {K:YD} {mg:YB} {base:Heap} {A:Around} {outer:List Env} {s:Shared} {H:Hp} (e:GP P w K mg base A outer s H) :
  GP P w K mg base A.in1 outer s H:=⟨e.frames,e.mod,e.bs,e.bsz,e.Ds,e.frf,e.hok,e.bare⟩
section
variable {X:Cx} {jb:YC} {Z : St} {H:Hp} {s s':Shared}
theorem Inv.env0 (I:Inv X jb Z H s):GP X.prog X.w X.K X.mg X.base X.A X.stack s H:=
 ⟨I.ok.frames,I.ok.mod,I.bs,QbR I.ok.bsz I.sz,I.stack,I.Ma,I.hok,I.bare⟩
theorem Inv.after {Q:VK} {u:Value} (I:Inv X jb Z H s) (h:CE X.stack X.prog X.w H s Q u s'):EP X jb Z Q u s':=by
 obtain⟨v,H',os,bare,un,hok,r,q⟩:=h;obtain⟨hh,g,d,t,os'⟩:=s';obtain rfl:os'=s.os:=os;exact⟨v,H',I.call (h':=hh) (g':=g) (d':=d) (t':=t) (ch:=[]) un hok bare (λb z=>absurd z (by simp)),r,q⟩
end
def RN (sp:Sp) (dvs:YG) (E:XK) (t:TA):TE:=fun Z H Q=>t Z H λvs H1=>sp (vs++dvs) H1 Q E
def Nr (C:Addr) (m:Str) (sp:Sp) (dvs:YG) (E:XK) (ta:TE) (t:TA):TE:=fun Z H Q=>ta Z H λx H1=>∃a dx fs,x=.ref a/\H1 a=some (.ins C dx fs)/\fs.lookup m=none /\
 t Z H1 λvs H2=>sp (x::(vs++dvs)) H2 Q E
def Zg (C:Addr) (sp:Sp) (dvs:YG) (E:XK) (t:TA):TE:=fun Z H Q=>t Z H λvs H1=>∀x dx,H1 x=none->H1 dx=none->dx≠x ->
 sp (.ref x::(vs++dvs)) (upd (upd H1 dx (.own x)) x (.ins C dx [])) (λv H2=>v=.non/\Q (.ref x) H2) E
def Binds (K:YD) (fd:FuncData) (ps:YF) (ds:YE):Prop:=
 ∀(s:Shared) (us:YE),K.In s.heap->(us++ds).length=ps.length->BindsTo s fd ⟨us,[]⟩ (ps.zip (us++ds))
theorem Binds.all {K:YD} {fd:FuncData} {ps:YF} (h:∀us:YE,us.length=ps.length->bindArgs fd ⟨us,[]⟩=pure (ps.zip us)):Binds K fd ps []:=λs us _ hl=>by
 rw[Qbq] at hl ⊢;exact .of_eq (h us hl)
def Passes (CX:CXT) (X:Cx) (E:XK):Prop:=∀(jb:YC) (Z : St) (H:Hp) (s:Shared) (e:Value) (s':Shared),Inv X jb Z H s->CX X.stack H s E e s'->X.xe e s'
section
variable {X:Cx} {CX:CXT} {k:Nat} {f C:Addr} {fd:FuncData} {ps:YF} {sp:Sp} {dvs:YG} {ds:YE} {E:XK} {x m:Str} {p pos apos:Pos} {e o:Expr} {es:YJ} {ta:TE} {t:TA}
theorem Ol {jb:YC} {Z : St} {H:Hp} {s:Shared} {Q:VK} {us:YE} {vs:YG} (F:Du X.prog X.w X.K X.mg X.base CX k f fd ps sp) (hr:Bh k X.A) (hb:Binds X.K fd ps ds) (hd:Vals dvs ds) (hx:Passes CX X E)
  (I:Inv X jb Z H s) (r:Vals vs us) (h:sp (vs++dvs) H Q E):wpAny (model X.prog X.w) X.A (call (.ref f) us) (EP X jb Z Q) X.xe s:=by
 have r2:Vals (vs++dvs) (us++ds):=r.append hd;have hl:(us++ds).length=ps.length:=by rw[<-r2.length];exact F.len _ _ _ _ h
 refine wpAny_call (QbT (F.run X.A X.stack s H ⟨us,[]⟩ (us++ds) (vs++dvs) Q E hr I.env0 (hb s us I.kIn hl) r2 h) λr s' hq=>?_);cases r with
 | error e=>exact hx jb Z H s e s' I hq
 | ok fl=>
  cases fl with
  | ret u=>exact I.after hq
  | next=>exact False.elim hq
  | brk=>exact False.elim hq
  | cont=>exact False.elim hq
theorem Z2 (F:Du X.prog X.w X.K X.mg X.base CX k f fd ps sp) (hr:Bh k X.A) (hg:Gl X x) (hm:X.mg x=some (.ref f)) (hk:keepIn X.K (.ref f)=true) (hb:Binds X.K fd ps ds) (hd:Vals dvs ds) (hx:Passes CX X E)
  (ha:PA X (e::es) t) (hdb:(x == ("__debug__":Str))=false:=by decide) (he:starEach (e::es) X.env=(false,eval e X.env)::starEach es X.env:=by rfl) (hpl:(backTo pos (starEach es X.env)).any (·.1)=false:=by rfl) :
  PE X (.Call (.Name x p) (e::es) [] pos) (RN sp dvs E t):=by
 intro jb s Z H Q I h;refine QaM (G7 I hg hm ?_ hdb);refine callWith_K (h₀:=X.base) I.ok.mod.kin hk (thn (ha pos jb s Z H _ I h) λus s1 zz=>?_) he hpl;obtain⟨vs,H1,I1,r,q⟩:=zz;refine⟨I1.kIn,?_⟩;exact Ol F hr hb hd hx I1 r q
theorem ZW {pl:Sem Bool} (he:PE X o ta) (c:Cls X.K C) (hm:Meth X.K C m f) (F:Du X.prog X.w X.K X.mg X.base CX k f fd ps sp) (hr:Bh k X.A) (hb:Binds X.K fd ps ds) (hd:Vals dvs ds) (hx:Passes CX X E) (ha:PA X (e::es) t)
  (hst:starEach (e::es) X.env=(false,eval e X.env)::starEach es X.env:=by rfl) (hpl:(backTo pos (starEach es X.env)).any (·.1)=false:=by rfl)
  (ht:eval (.Call (.Attribute o m apos) (e::es) [] pos) X.env=(do
   let ov <-eval o X.env
   standAt apos.atName
   let (f,first) <-holding [ov] (getMethod ov m pl)
   callWith pos f first (backTo pos (starEach (e::es) X.env)) (backToKw pos (keywordEach [] X.env))):=by rfl) :
  PE X (.Call (.Attribute o m apos) (e::es) [] pos) (Nr C m sp dvs E ta t):=by
 intro jb s Z H Q I h;refine methodCall_KW (pl:=pl) (thn (he jb s Z H _ I h) λu s1 zz=>?_) ht;obtain⟨x,H1,I1,rx,a,dx,fs,ex,ea,l,q⟩:=zz;subst ex;obtain rfl:u=Value.ref a:=rx;refine GZ I1 ea c hm l ?_;refine callWith_K (first:=[.ref a]) (h₀:=X.base) I.ok.mod.kin hm.kp (thn (ha pos jb s1 Z H1 _ I1 q) λus s2 zz=>?_) hst hpl
 obtain⟨vs,H2,I2,r,q2⟩:=zz;refine⟨I2.kIn,?_⟩;exact Ol (us:=.ref a::us) (vs:=.ref a::vs) F hr hb hd hx I2 (.cons rfl r) q2
theorem Wu {pl:Sem Bool} (he:PE X o ta) (c:Cls X.K C) (hm:Meth X.K C m f) (F:Du X.prog X.w X.K X.mg X.base CX k f fd ps sp) (hr:Bh k X.A) (hb:Binds X.K fd ps ds) (hd:Vals dvs ds) (hx:Passes CX X E)
  (ht:eval (.Call (.Attribute o m apos) [] [] pos) X.env=(do
   let ov <-eval o X.env
   standAt apos.atName
   let (f,first) <-holding [ov] (getMethod ov m pl)
   callWith pos f first (backTo pos (starEach [] X.env)) (backToKw pos (keywordEach [] X.env))):=by rfl) :
  PE X (.Call (.Attribute o m apos) [] [] pos) (Nr C m sp dvs E ta Kp):=by
 intro jb s Z H Q I h;refine methodCall_KW (pl:=pl) (thn (he jb s Z H _ I h) λu s1 zz=>?_) ht;obtain⟨x,H1,I1,rx,a,dx,fs,ex,ea,l,q⟩:=zz;subst ex;obtain rfl:u=Value.ref a:=rx;refine GZ I1 ea c hm l ?_;exact PySem.W.callWith_K0 (first:=[.ref a]) I1.kIn hm.kp (Ol (us:=[.ref a]) (vs:=[.ref a]) F hr hb hd hx I1 (.cons rfl .nil) q)
structure Mk (K:YD) (C f:Addr):Prop where
 makes:PySem.W.makesIn K C=true
 init:findIn K (.ref C) "__init__"=some (some (.ref f))
 fn:isFn K (.ref f)=true
 kp:keepIn K (.ref C)=true
theorem Wj {jb:YC} {Z : St} {H:Hp} {s:Shared} {Q:VK} {us:YE} {vs:YG} (M:Mk X.K C f) (F:Du X.prog X.w X.K X.mg X.base CX k f fd ps sp) (hr:Bh (k+1) X.A) (hb:Binds X.K fd ps ds) (hd:Vals dvs ds)
  (hx:Passes CX X E) (I:Inv X jb Z H s) (r:Vals vs us)
  (h:∀x dx,H x=none->H dx=none->dx≠x->sp (.ref x::(vs++dvs)) (upd (upd H dx (.own x)) x (.ins C dx [])) (λv H2=>v=.non/\Q (.ref x) H2) E) :
  wpAny (model X.prog X.w) X.A (call (.ref C) us) (EP X jb Z Q) X.xe s:=by
 have hq:=h (s.heap.objs.size+1) s.heap.objs.size (I.hok.fresh (Nat.le_succ _)) (I.hok.fresh (QbV _)) (QbP (Qbg _));have I2:=Inv.made (C:=C) I;have r2:Vals (V.ref (s.heap.objs.size+1)::(vs++dvs)) (Value.ref (s.heap.objs.size+1)::(us++ds)):=.cons rfl (r.append hd);have hl:(Value.ref (s.heap.objs.size+1)::us++ds).length=ps.length:=by
  have e:=r2.length;rw[F.len _ _ _ _ hq] at e;exact e.symm
 refine wpAny_call (WX (f:=f) I.kIn M.makes M.init (beq_iff_eq.mp M.fn) (QbT (F.run _ X.stack _ _ ⟨Value.ref (s.heap.objs.size+1)::us,[]⟩ (Value.ref (s.heap.objs.size+1)::(us++ds)) _ _ E (hr.make C us [])
  (I2.env0.make C us []) (hb _ (Value.ref (s.heap.objs.size+1)::us) I2.kIn hl) r2 hq) λr s' hq'=>?_))
 cases r with
 | error e=>exact hx jb Z _ _ e s' I2 hq'
 | ok fl=>
  cases fl with
  | ret u=>
   obtain⟨v,H',I3,rv,ev,q3⟩:=I2.after hq';subst ev;exact⟨rv,⟨V.ref (s.heap.objs.size+1),H',I3,rq,q3⟩⟩
  | next=>exact False.elim hq'
  | brk=>exact False.elim hq'
  | cont=>exact False.elim hq'
theorem Z0 (M:Mk X.K C f) (F:Du X.prog X.w X.K X.mg X.base CX k f fd ps sp) (hr:Bh (k+1) X.A) (hg:Gl X x) (hm:X.mg x=some (.ref C)) (hb:Binds X.K fd ps ds) (hd:Vals dvs ds) (hx:Passes CX X E)
  (ha:PA X (e::es) t) (hdb:(x == ("__debug__":Str))=false:=by decide) (he:starEach (e::es) X.env=(false,eval e X.env)::starEach es X.env:=by rfl) (hpl:(backTo pos (starEach es X.env)).any (·.1)=false:=by rfl) :
  PE X (.Call (.Name x p) (e::es) [] pos) (Zg C sp dvs E t):=by
 intro jb s Z H Q I h;refine QaM (G7 I hg hm ?_ hdb);refine callWith_K (h₀:=X.base) I.ok.mod.kin M.kp (thn (ha pos jb s Z H _ I h) λus s1 zz=>?_) he hpl;obtain⟨vs,H1,I1,r,q⟩:=zz;refine⟨I1.kIn,?_⟩;exact Wj M F hr hb hd hx I1 r q
end
def PK (X:Cx) (kws:List Keyword) (t:TA):Prop:=
 ∀(pos:Pos) (jb:YC) (s:Shared) (Z : St) (H:Hp) (Q:YG->Hp->Prop),Inv X jb Z H s->t Z H Q->wpAny (model X.prog X.w) X.A (evalAll ((backToKw pos (keywordEach kws X.env)).map (·.2))) (AP X jb Z Q) X.xe s
section
variable {X:Cx} {CX:CXT} {k:Nat} {f C:Addr} {fd:FuncData} {ps ks:YF} {sp:Sp} {E:XK} {x m:Str} {p pos apos kpos:Pos} {e o:Expr} {es:YJ} {kws:List Keyword} {te ta:TE} {t tk:TA} {nm:Option Str}
theorem bY:PK X [] Kp:=λ_ _ _ _ H Q I h=>wpAny_evalAll_nil ⟨[],H,I,.nil,h⟩
theorem ZR (ha:PE X e te) (hr:PK X kws t):PK X (⟨nm,e,kpos⟩::kws) (Hv te t):=by
 intro pos jb s Z H Q I h;show wpAny _ _ (evalAll ((do let v <-eval e X.env;standAt pos;pure v)::(backToKw pos (keywordEach kws X.env)).map (·.2))) _ _ s
 refine wpAny_evalAll_cons (QbX (thn (ha jb s Z H _ I h) λu s1 zz=>?_));obtain⟨x,H1,I1,r1,q1⟩:=zz;refine QbX (QbM (QbY ?_));refine thn (hr pos jb s1 Z H1 _ I1 q1) λus s2 zz=>?_;obtain⟨xs,H2,I2,r2,q2⟩:=zz;exact⟨x::xs,H2,I2,.cons r1 r2,q2⟩
variable {g:YE->YE->YE} {gV:YG->YG->YG}
end
structure Az (N P:YF) (sc:Scope):Prop where
 kind:sc.kind=.function
 co:sc.isCoroutine=false
 gen:sc.isGenerator=false
 nd:N.Nodup
 pre:N.take P.length=P
 par:∀x∈P,sc.names.lookup x=some .local\/sc.names.lookup x=some .cell
 O5:∀y∈sc.names,y.2≠.free
theorem M4 {kindOf:Str->Option NameKind} {x:Str}:∀{binds:List (Str×Value)} {m:YB},(∀v,(x,v)∉binds)->bindL kindOf binds m x=m x
 | [],_,_=>rfl
 | (n,v)::r,m,h=>by
  unfold bindL;rw[M4 λw hw=>h w (Qau _ hw)];split
  ·have:x≠n:=by rintro rfl;exact h v QaJ
   simp[this]
  ·rfl
theorem M6 {kindOf:Str->Option NameKind} {x:Str}:∀{binds:List (Str×Value)} {m:YB},(∀v,(x,v)∉binds)->bindC kindOf binds m x=m x
 | [],_,_=>rfl
 | (n,v)::r,m,h=>by
  unfold bindC;rw[M6 λw hw=>h w (Qau _ hw)];split
  ·rfl
  ·have:x≠n:=by rintro rfl;exact h v QaJ
   simp[this]
theorem M5 {kindOf:Str->Option NameKind} {x:Str} {v:Value}:∀{P:YF} {vs:YE} {i:Nat} {m:YB},P.Nodup->P[i]?=some x->vs[i]?=some v->kindOf x=some .local ->
  bindL kindOf (P.zip vs) m x=some v
 | [],_,_,_,_,h,_,_=>by simp at h
 | _::_,[],_,_,_,_,h,_=>by simp at h
 | p::P,w::vs,0,m,nd,h1,h2,hk=>by
  simp at h1 h2;subst h1;subst h2;show bindL kindOf ((p,w)::P.zip vs) m p=_;unfold bindL;rw[M4 λv hv=>(Qbx.mp nd).1 (List.of_mem_zip hv).1,if_pos hk];simp
 | p::P,w::vs,i+1,m,nd,h1,h2,hk=>by
  show bindL kindOf ((p,w)::P.zip vs) m x=_;unfold bindL;exact M5 (i:=i) (Qbx.mp nd).2 (by simpa using h1) (by simpa using h2) hk
theorem M7 {kindOf:Str->Option NameKind} {x:Str} {v:Value}:∀{P:YF} {vs:YE} {i:Nat} {m:YB},P.Nodup->P[i]?=some x->vs[i]?=some v->kindOf x≠some .local ->
  bindC kindOf (P.zip vs) m x=some v
 | [],_,_,_,_,h,_,_=>by simp at h
 | _::_,[],_,_,_,_,h,_=>by simp at h
 | p::P,w::vs,0,m,nd,h1,h2,hk=>by
  simp at h1 h2;subst h1;subst h2;show bindC kindOf ((p,w)::P.zip vs) m p=_;unfold bindC;rw[M6 λv hv=>(Qbx.mp nd).1 (List.of_mem_zip hv).1,if_neg hk];simp
 | p::P,w::vs,i+1,m,nd,h1,h2,hk=>by
  show bindC kindOf ((p,w)::P.zip vs) m x=_;unfold bindC;exact M7 (i:=i) (Qbx.mp nd).2 (by simpa using h1) (by simpa using h2) hk
def start (N:YF) (vs:YG):St:=vs.map some++List.replicate (N.length - vs.length) none
def GJ (CX:CXT) (P:Program) (w:World) (K:YD) (mg:YB) (base:Heap) (N:YF) (qual:Str) (scope:Scope) (f:Addr) (cd:Value) (A:Around) (outer:List Env) (s:Shared) (H:Hp) (E:XK):Cx where
 prog:=P
 w:=w
 K:=K
 mg:=mg
 base:=base
 A:=A.deeper (envOfC qual scope s.heap.objs.size f cd)
 N:=N
 s₀:=s
 H₀:=H
 env:=envOfC qual scope s.heap.objs.size f cd
 outer:=outer
 stack:=envOfC qual scope s.heap.objs.size f cd::outer
 ex:=[]
 calm:=true
 fn:=λ_=>true
 pn:=[]
 xe:=λe s'=>wpAny (model P w) (A.deeper (envOfC qual scope s.heap.objs.size f cd)) (leaving (envOfC qual scope s.heap.objs.size f cd) e) (λ_ s''=>CX outer H s E e s'') (λe' s''=>CX outer H s E e' s'') s'
theorem Qh {sc:Scope} {n:Nat} {x:Str} (h:sc.names.lookup x=some .cell):∃c,(cellsFrom n sc.names []).lookup x=some c:=by
 have q:=PySem.W.cellsFrom_some sc.names n [] (.inl h);exact Option.isSome_iff_exists.mp q
theorem MJ {CX:CXT} {P:Program} {w:World} {K:YD} {mg:YB} {base:Heap} {N ps:YF} {qual:Str} {scope:Scope} {f:Addr} {cd:Value} {A:Around} {outer:List Env} {s s1:Shared} {H:Hp} {E:XK} {us:YE} {vs:YG}
  (S:Az N ps scope) (hd:A.handled=none) (e0:GP P w K mg base A outer s H) (hl:vs.length=ps.length) (r:Vals vs us)
  (x:InCallC s s.heap.objs.size (bindL (envOfC qual scope s.heap.objs.size f cd).kindOf (ps.zip us) λ_=>none) (cellsFrom (s.heap.objs.size+1) scope.names []) (bindC (envOfC qual scope s.heap.objs.size f cd).kindOf (ps.zip us) λ_=>none) s1) :
  Inv (GJ CX P w K mg base N qual scope f cd A outer s H E) [] (start N vs) H s1:=by
 have hpl:ps.length<=N.length:=by have:=congrArg List.length S.pre;rw[Qbk] at this;omega
 obtain⟨h1,tk,rfl,hk⟩:=x.done;have noA:∀b:Addr,b∉(GJ CX P w K mg base N qual scope f cd A outer s H E).ex:=λb z=>absurd (show b∈([]:List Addr) from z) (by simp)
 refine⟨⟨e0.mod,S.kind,rq,rq,QbV _,λy z c h1 h2=>?_,λy hy=>?_,λy c _ h=>?_,λ_=>hd,Around.frames_deeper e0.frames,.inr ⟨rq,rq⟩,λb z=>absurd z (noA b),e0.bs,e0.bsz,λb _ _=>noA b,λb z=>absurd z (noA b),e0.Ds,e0.frf⟩,
  rfl,e0.bare,Un.kept hk,⟨_,x.toInCall.ns,λi y v h1 h2 h3=>?_⟩,λy c h=>⟨_,x.cell y c h⟩,e0.hok.fresh (QbV _),λy c h=>?_,λp hp=>absurd (show p∈([]:YC) from hp) (by simp),e0.hok.kept hk,?_⟩
 ·exact name_of_addr x.apart (QaC h1) (QaC h2)
 ·have hy:scope.names.lookup y=some .cell\/scope.names.lookup y=some .free:=hy;rcases hy with hy | hy
  ·exact Qh hy
  ·exact absurd rfl (S.O5 _ (QaC hy))
 ·exact QbS (x.above y c (QaC h))
 ·have hi:i < vs.length:=by
   unfold start at h2;by_cases hi:i < vs.length
   ·exact hi
   ·rw[List.getElem?_append_right (by simpa using hi)] at h2;rw[List.getElem?_replicate] at h2;split at h2 <;> cases h2
  have ha:vs[i]?=some v:=by
   unfold start at h2;rw[List.getElem?_append_left (by simpa using hi),QaV] at h2;cases e:vs[i]? with
   | none=>rw[e] at h2;cases h2
   | some a=>rw[e] at h2;cases h2;rfl
  obtain⟨u,hu,rv⟩:=r.get ha;have hp:ps[i]?=some y:=by
   rw[<-S.pre,List.getElem?_take_of_lt (by omega)];exact h1
  have ndP:ps.Nodup:=by rw[<-S.pre];exact S.nd.sublist (List.take_sublist _ _)
  refine⟨u,rv,?_⟩;rcases S.par y (Qat hp) with k | k
  ·exact .inl ⟨k,M5 ndP hp hu k⟩
  ·obtain⟨c,e⟩:=Qh (n:=s.heap.objs.size+1) k;refine .inr ⟨.inl k,c,e,?_⟩;have q:=x.cell y c e;rw[M7 ndP hp hu (by show scope.names.lookup y≠_;rw[k];decide)] at q;exact q
 ·exact e0.hok.fresh (QbS (x.above y c (QaC h)))
 ·unfold start;show _=N.length;rw[QaI,Qbl,Qaq];omega
theorem Zx {CX:CXT} {P:Program} {w:World} {K:YD} {mg:YB} {base:Heap} {k:Nat} {f:Addr} {name qual:Str} {params:Arguments} {body:List Stmt} {scope:Scope} {dV kV doc pm cdv ct oc:Value} {an od:Option Addr}
  {osl:YI} {N ps:YF} {sp:Sp} (lk:K.lookup f=some ⟨oc,od,.func (fnOf name qual params body scope dV kV doc pm an cdv ct),osl⟩) (hcd:codeIn K cdv qual=true) (S:Az N ps scope)
  (len:∀vs H Q E,sp vs H Q E->vs.length=ps.length)
  (hbody:∀(A:Around) (outer:List Env) (s:Shared) (H:Hp) (vs:YG) (Q:VK) (E:XK),Bh k (A.deeper (envOfC qual scope s.heap.objs.size f cdv))->sp vs H Q E ->
   ∃t,PSs (GJ CX P w K mg base N qual scope f cdv A outer s H E) body t/\t { nx:=λ_ H'=>Q .non H',rt:=Q } (start N vs) H) :
  Du P w K mg base CX (k+1) f (fnOf name qual params body scope dV kV doc pm an cdv ct) ps sp:=by
 refine⟨len,λA outer s H args us vs Q E hr e0 hb r hsp=>?_⟩;have hl:=len _ _ _ _ hsp;have KX:K.In s.heap:=e0.mod.kin.keeps λb o e=>(e0.bs b o e).1;have lim:s.heap.NoLimit:=e0.mod.nolimit.keeps λb o e=>(e0.bs b o e).1;have hkind:∀y∈ps.zip us,scope.names.lookup y.1=some .local\/(scope.names.lookup y.1=some .cell/\((cellsFrom (s.heap.objs.size+1) scope.names []).lookup y.1).isSome=true):=λ⟨n,v⟩ hy=>by
  rcases S.par n (List.of_mem_zip hy).1 with q | q
  ·exact .inl q
  ·exact .inr ⟨q,PySem.W.cellsFrom_some _ _ _ (.inl q)⟩
 refine codeAny_call_function hr.depth (KX _ _ lk) rfl S.co S.gen rfl (PySem.W.codeRec_of KX hcd) (hb _ _ _ _ ?_);refine wpAny_newFunctionEnv_cells S.kind hkind λenv he s1 x=>?_;subst he;refine⟨lim.keeps x.toInCall.keep,codeAny_func ?_⟩;obtain⟨t,ht,hq⟩:=hbody A outer s H vs Q E (hr.deeper _) hsp;have I:Inv (GJ CX P w K mg base N qual scope f cdv A outer s H E) [] (start N vs) H s1:=MJ S hr.hd e0 hl r x;refine QbZ (ht [] s1 (start N vs) H _ I hq) (λfl s' hs=>?_) λe s' hs=>hs;have fin:∀{σ':St} {H':Hp} {v:V} {u:Value},Inv (GJ CX P w K mg base N qual scope f cdv A outer s H E) [] σ' H' s'->RelV v u->Q v H'->CE outer P w H s Q u s':=
  λ{σ' H' v u} J rv q=>⟨v,H',J.os,J.bare,J.base,J.hok,rv,q⟩
 cases fl with
 | ret u=>
  obtain⟨v,σ',H',J,rv,q⟩:=hs;exact fin J rv q
 | next=>
  obtain⟨σ',H',J,q⟩:=hs;exact fin (v:=V.non) (u:=Value.none) J rfl q
 | brk=>
  obtain⟨_,_,_,q⟩:=hs;exact False.elim q
 | cont=>
  obtain⟨_,_,_,q⟩:=hs;exact False.elim q
section
variable {X:Cx} {x:Str} {p pos:Pos} {e:Expr} {es:YJ} {t:TA} {id T:String} {r:YG->Hp->VK->Prop}
def tCB (r:YG->Hp->VK->Prop) (t:TA):TE:=fun Z H Q=>t Z H λvs H1=>r vs H1 Q
theorem Ak (hc:Cq X (.builtin id) r) (hg:Gl X x) (hm:X.mg x=none) (hv:bootBuiltins x=some (.builtin id)) (ha:PA X (e::es) t) (hn:x≠"__name__":=by decide) (hdb:(x == ("__debug__":Str))=false:=by decide)
  (he:starEach (e::es) X.env=(false,eval e X.env)::starEach es X.env:=by rfl) (hpl:(backTo pos (starEach es X.env)).any (·.1)=false:=by rfl):PE X (.Call (.Name x p) (e::es) [] pos) (tCB r t):=by
 intro jb s Z H Q I h;refine QaM (Ez I hg hm hv ?_ hn hdb);refine PyProof.Rows.callWith_builtin1 (thn (ha pos jb s Z H _ I h) λus s1 zz=>?_) he hpl;obtain⟨vs,H1,I1,r1,q1⟩:=zz;exact hc jb s1 Z H1 vs us Q I1 r1 q1
theorem Hz (hc:Cq X (.type T) r) (hg:Gl X x) (hm:X.mg x=none) (hv:bootBuiltins x=some (.type T)) (ha:PA X (e::es) t) (hn:x≠"__name__":=by decide) (hdb:(x == ("__debug__":Str))=false:=by decide)
  (he:starEach (e::es) X.env=(false,eval e X.env)::starEach es X.env:=by rfl) (hpl:(backTo pos (starEach es X.env)).any (·.1)=false:=by rfl):PE X (.Call (.Name x p) (e::es) [] pos) (tCB r t):=by
 intro jb s Z H Q I h;refine QaM (Ez I hg hm hv ?_ hn hdb);refine Qab (thn (ha pos jb s Z H _ I h) λus s1 zz=>?_) he hpl;obtain⟨vs,H1,I1,r1,q1⟩:=zz;exact hc jb s1 Z H1 vs us Q I1 r1 q1
end
end L2
namespace HT
open PySem PyProof.Rows
section
open PySem.SeqAt
open PySem.AutoSeq1 (wpAny_loadPart')
open PySem.MeetsSeq PySem.MeetsSeq2 PySem.MeetsSeq3
end
section
variable {prog:Program} {w:World} {A:Around} {E:YA} {s:Shared}
def sIx (n d:Nat):Option Int->Nat
 | none=>d
 | some v=>if v < 0 then (v+(n:Int)).toNat else min v.toNat n
end
end HT
namespace L2
open PySem PySem.Spec PyProof.Rows
abbrev TO:=St->Hp->(Option Int->Hp->Prop)->Prop
theorem intsAre_of {ns:List Int}:∀{us:YE},Vals (ns.map V.int) us->IntsAre us ns:=by
 induction ns with
 | nil=>intro us r;rw[List.map_nil] at r;cases r;exact .nil
 | cons n ns ih=>
  intro us r;rw[QbJ] at r;cases r with
  | cons r1 r2=>
   obtain⟨t,e⟩:=r1;subst e;exact .cons n t (ih r2)
section
variable {X:Cx} {e:Expr} {te:TE} {lo hi:Option Expr} {tl th:TO} {pos p2:Pos}
def SlR (X:Cx) (r:V->Option Int->Option Int->Hp->VK->Prop):Prop:=
 ∀(jb:YC) (s:Shared) (Z : St) (H:Hp) (x:V) (v vl vu:Value) (lo hi:Option Int) (sl:Addr) (Q:VK),Inv X jb Z H s->RelV x v->s.heap.IsSliceOf sl vl vu .none->IsPart vl lo->IsPart vu hi->r x lo hi H Q ->
  ∃T id,typeLookup (.type T) "__getitem__"=pure (some (.builtin id))/\s.TypeIs v T/\wpAny (model X.prog X.w) X.A (getItem v (.ref sl)) (EP X jb Z Q) X.xe s
def T5 (xs:YG) (lo hi:Option Int):YG:=(xs.drop (HT.sIx xs.length 0 lo)).take (HT.sIx xs.length xs.length hi - HT.sIx xs.length 0 lo)
theorem QW (xs:YG) (lo hi:Option Int):(T5 xs lo hi).length<=xs.length:=by
 unfold T5;rw[Qbk,List.length_drop];omega
end
def ixN (n:Nat) (i:Int):Option Nat:=if 0<=i then (if i < n then some i.toNat else none) else if -(n:Int)<=i then some (i+n).toNat else none
def atI {α : Type} (xs:List α) (i:Int):Option α:=(ixN xs.length i).bind λj=>xs[j]?
theorem Ri {n:Nat} {i:Int} {j:Nat} (h:ixN n i=some j):seqIndex? i n=some j/\j < n/\-(n:Int)<=i/\i < n:=by
 unfold ixN at h;by_cases h0:0<=i
 ·rw[if_pos h0] at h;by_cases h1:i < n
  ·rw[if_pos h1] at h;have e:i.toNat=j:=Qbp h;exact⟨by rw[seqIndex_of h0 h1,e],by omega,by omega,h1⟩
  ·rw[if_neg h1] at h;cases h
 ·rw[if_neg h0] at h;by_cases h1:-(n:Int)<=i
  ·rw[if_pos h1] at h;have e:(i+n).toNat=j:=Qbp h;exact⟨by rw[seqIndex_neg (by omega) h1,e],by omega,h1,by omega⟩
  ·rw[if_neg h1] at h;cases h
theorem Rz {α : Type} {xs:List α} {i:Int} {v:α} (h:atI xs i=some v):∃j,seqIndex? i xs.length=some j/\xs[j]?=some v/\j < xs.length/\-(xs.length:Int)<=i/\i < xs.length:=by
 unfold atI at h;cases e:ixN xs.length i with
 | none=>rw[e] at h;cases h
 | some j=>
  rw[e] at h;obtain⟨h1,h2,h3,h4⟩:=Ri e;exact⟨j,h1,h,h2,h3,h4⟩
theorem Fw {α : Type} {xs:List α} {j:Nat} {v:α} (h:xs[j]?=some v):atI xs (j:Int)=some v:=by
 have hj:j < xs.length:=(Qae.mp h).1;have e:ixN xs.length (j:Int)=some j:=by
  unfold ixN;rw[if_pos (by omega),if_pos (by omega)];simp
 unfold atI;rw[e];exact h
def aV (b:Expr):Prop:=∀o i,subscripted b false o i=operate [o,i] (getItem o i)
def IxR (X:Cx) (r:R2):Prop:=
 ∀(value slice:Expr) (jb:YC) (s:Shared) (Z : St) (H:Hp) (x y:V) (v u:Value) (Q:VK),Inv X jb Z H s->RelV x v->RelV y u->r x y H Q ->
  subscripted slice false v u=operate [v,u] (getItem v u)->wpAny (model X.prog X.w) X.A (subscriptTail value slice v u) (EP X jb Z Q) X.xe s
def MtR (X:Cx) (id:String) (r:V->YG->Hp->VK->Prop):Prop:=
 ∀(jb:YC) (s:Shared) (Z : St) (H:Hp) (x:V) (xs:YG) (v:Value) (us:YE) (Q:VK),Inv X jb Z H s->RelV x v->Vals xs us->r x xs H Q ->
  wpAny (model X.prog X.w) X.A (call (.builtin id) (v::us)) (EP X jb Z Q) X.xe s
section
variable {X:Cx} {a b:Expr} {ta tb:TE} {pos:Pos}
theorem Bu {r:R2} (hr:IxR X r) (ha:PE X a ta) (hb:PE X b tb) (hs:aV b):PE X (.Subscript a b pos) (tOp r ta tb):=by
 intro jb s Z H Q I h;exact Subscript_ (Y4 ha hb I h λv u s2 x y H2 I2 rx ry q=>hr a b jb s2 Z H2 x y v u Q I2 rx ry q (hs _ _))
def bQ (K:YD):R2:=λx y H Q=>∃p xs i v,x=.ref p/\y=.int i/\SqL K H p xs/\atI xs i=some v/\Q v H
def bO (K:YD):R2:=λx y H Q=>∃p xs i v,x=.ref p/\y=.int i/\SqT K H p xs/\atI xs i=some v/\Q v H
theorem Bk:IxR X (bQ X.K):=by
 intro value slice jb s Z H x y v u Q I rx ry h hs;obtain⟨p,xs,i,z,rfl,rfl,hq,he,q⟩:=h;cases rx;obtain⟨t,rfl⟩:=ry;obtain⟨its,r,pl,hz⟩:=I.list hq;obtain⟨j,h1,h2,h3,h4,h5⟩:=Rz he;obtain⟨w,ew,rw'⟩:=r.get h2;have hl:=r.length;have hn:=Im;have fin:EP X jb Z Q w s:=⟨z,H,I,rw',q⟩;by_cases h0:0<=i
 ·have hj:i.toNat=j:=by
   rw[seqIndex_of h0 h5] at h1;exact Qbp h1
  exact item_listR pl.isList h0 (by omega) (by rw[hj];simpa using ew) fin hs
 ·have hj:(i+(its.toArray.size:Int)).toNat=j:=by
   rw[seqIndex_neg (by omega) h4] at h1;rw[QaT,<-hl];exact Qbp h1
  exact subscriptTail_builtinR (x:=w) pl.isList.typeIs slot_list_getitem.lookup
   (wpAny_getItem_list_neg (Q:=λr s'=>r=w/\EP X jb Z Q r s') pl.isList (by omega) (by rw[QaT] <;> omega) (by omega) (by rw[hj];simpa using ew) ⟨rq,fin⟩) hs
theorem Lq:IxR X (bO X.K):=by
 intro value slice jb s Z H x y v u Q I rx ry h hs;obtain⟨p,xs,i,z,rfl,rfl,hq,he,q⟩:=h;cases rx;obtain⟨t,rfl⟩:=ry;obtain⟨its,r,pl,hz⟩:=I.tuple hq;obtain⟨j,h1,h2,h3,h4,h5⟩:=Rz he;obtain⟨w,ew,rw'⟩:=r.get h2;have hl:=r.length;have hn:=Im;have fin:EP X jb Z Q w s:=⟨z,H,I,rw',q⟩;exact subscriptTail_builtinR (x:=w) pl.typeIs slot_tuple_getitem.lookup
  (getItem_tuple (j:=j) (Q:=λr s'=>r=w/\EP X jb Z Q r s') pl (by omega) (by omega) (by rw[QaT,<-hl];exact h1) (by simpa using ew) ⟨rq,fin⟩) hs
theorem SN (its:YE) (n j:Nat) (u:Value):Obj.mapSeq (·.setIfInBounds j u) { cls:=.type "list",data:=.seq its.toArray n }={ cls:=.type "list",data:=.seq (its.set j u).toArray n }:=by
 simp[Obj.mapSeq]
theorem Inv.lst {jb:YC} {Z : St} {H:Hp} {s:Shared} {p:Addr} {xs:YG} (I:Inv X jb Z H s) (h:H p=some (.lst xs)) :
  ∃(its:YE) (n:Nat),Vals xs its/\s.heap.get? p=some { cls:=.type "list",data:=.seq its.toArray n }/\xs.length<=sizeLine:=by
 obtain⟨z,its,n,r,e⟩:=I.hok p _ h;exact⟨its,n,r,e,z⟩
theorem Inv.cO {jb:YC} {Z : St} {H:Hp} {s:Shared} {p:Addr} {xs ys:YG} {its its':YE} {n n':Nat} {f:Obj->Obj} (I:Inv X jb Z H s) (h:H p=some (.lst xs))
  (ho:s.heap.get? p=some { cls:=.type "list",data:=.seq its.toArray n }) (hf:f { cls:=.type "list",data:=.seq its.toArray n }={ cls:=.type "list",data:=.seq its'.toArray n' }) (r:Vals ys its') (hz:ys.length<=sizeLine) (t:Nat) :
  Inv X jb Z (upd H p (.lst ys)) { s with heap:=s.heap.update p f,toks:=t }:=by
 have e:(s.heap.update p f).get? p=some { cls:=.type "list",data:=.seq its'.toArray n' }:=by
  rw[Qar f ho (by rw[hf] <;> rfl),hf]
 refine I.write (x:=p) (e:=p) (by rw[h];trivial) (.inl rfl) (λb u hb q=>(Qal _ _ (Ne.symm hb)).trans q) ⟨_,e⟩ ?_;exact⟨hz,its',n',r,e⟩
def fY:V->V->V->Hp->(Hp->Prop)->Prop:=λo i v H Q=>∃p xs k j,o=.ref p/\i=.int k/\H p=some (.lst xs)/\ixN xs.length k=some j/\Q (upd H p (.lst (xs.set j v)))
theorem set_list:fB X fY:=by
 intro jb s Z H o i v ov iv u Q I ro ri rv h;obtain⟨p,xs,k,j,rfl,rfl,hp,hj,q⟩:=h;cases ro;obtain⟨t,rfl⟩:=ri;obtain⟨its,n,r,ho,hz⟩:=I.lst hp;obtain⟨h1,h2,h3,h4⟩:=Ri hj;have hl:=r.length;have hn:=Im;have I':Inv X jb Z (upd H p (.lst (xs.set j v))) { s with heap:=s.heap.update p (Obj.mapSeq (·.setIfInBounds j u)) }:=
  I.cO hp ho (SN its n j u) (r.set rv j) (by rw[Qbv];exact hz) s.toks
 by_cases h0:0<=k
 ·have hk:k.toNat=j:=by
   rw[seqIndex_of h0 h4] at h1;exact Qbp h1
  exact PySem.W.ki_setAt ho h0 (by omega) (by rw[QaT,<-hl];exact h4) (by rw[hk];exact⟨_,I',q⟩)
 ·have hk:(k+(its.toArray.size:Int)).toNat=j:=by
   rw[seqIndex_neg (by omega) h3] at h1;rw[QaT,<-hl];exact Qbp h1
  exact PySem.W.ki_setBack ho (by omega) (by rw[QaT,<-hl];exact h3) (by omega) (by rw[hk];exact⟨_,I',q⟩)
theorem Og (lo hi:Option Int) (n:Nat):(sliceBounds lo hi none n).1=((HT.sIx n 0 lo:Nat):Int)/\(sliceBounds lo hi none n).2.1=((HT.sIx n n hi:Nat):Int)/\(sliceBounds lo hi none n).2.2=1:=by
 refine⟨?_,?_,rq⟩
 ·cases lo with
  | none=>simp[sliceBounds,HT.sIx]
  | some i=>
   simp only[sliceBounds,HT.sIx,Option.getD_none,show (1:Int) > 0 by decide,if_true];by_cases h:i < 0
   ·simp only[h,if_true] <;> omega
   ·simp only[h,if_false] <;> omega
 ·cases hi with
  | none=>simp[sliceBounds,HT.sIx]
  | some i=>
   simp only[sliceBounds,HT.sIx,Option.getD_none,show (1:Int) > 0 by decide,if_true];by_cases h:i < 0
   ·simp only[h,if_true] <;> omega
   ·simp only[h,if_false] <;> omega
theorem M9 (its:YE) (lo hi:Option Int):slicePick its.toArray lo hi none=((its.drop (HT.sIx its.length 0 lo)).take (HT.sIx its.length its.length hi - HT.sIx its.length 0 lo)).toArray:=by
 obtain⟨h1,h2,h3⟩:=Og lo hi its.toArray.size;unfold slicePick;rw[h1,h2,h3];simp only[sliceRange_one,pick_run,QaT] <;> rfl
def jl (K:YD):V->Option Int->Option Int->Hp->VK->Prop:=λx lo hi H Q=>∃a xs,x=.ref a/\SqL K H a xs/\∀p,H p=none->Q (.ref p) (upd H p (.lst (T5 xs lo hi)))
theorem oA:SlR X (jl X.K):=by
 intro jb s Z H x v vl vu lo hi sl Q I rx hs pl pu h;obtain⟨a,xs,rfl,hx,q⟩:=h;cases rx;obtain⟨its,r,ht,hz⟩:=I.list hx;have hlen:=r.length;refine⟨"list",_,slot_list_getitem.lookup,ht.isList.typeIs,?_⟩;refine wpAny_getItem_list_slice ht.isList hs pl pu .none (by simp) ?_ (by rw[QaT] <;> omega);rw[M9,<-hlen];refine⟨.ref s.heap.objs.size,_,I.laid (t':=s.toks) (o:=.lst (T5 xs lo hi)) (λb ob q=>Qak _ q) (QbV _) ?_,rq,q _ (I.hok.fresh (QbV _))⟩;exact⟨QbR (QW xs lo hi) hz,_,0,(r.drop (HT.sIx xs.length 0 lo)).take (HT.sIx xs.length xs.length hi - HT.sIx xs.length 0 lo),QaA _ rfl⟩
def G3:V->Bool
 | .non=>true
 | .bl _=>true
 | .int _=>true
 | .str _=>true
 | _=>false
def eqV:V->V->Bool
 | .non,.non=>true
 | .bl a,.bl b=>a == b
 | .bl a,.int b=>(if a then 1 else 0) == b
 | .int a,.bl b=>a == (if b then 1 else 0)
 | .int a,.int b=>a == b
 | .str a,.str b=>a == b
 | _,_=>false
theorem dI {A:Around} {s:Shared} {y x:V} {u v:Value} (ry:RelV y u) (rx:RelV x v) (fy:G3 y=true) (fx:G3 x=true):SeqAt.EqAt A s u v (eqV y x):=by
 cases y with
 | non=>
  cases ry;cases x with
  | non=>cases rx;exact SeqAt.EqAt.same _
  | bl b=>cases rx;exact SeqAt.EqAt.none_bool b
  | int b=>obtain⟨t,rfl⟩:=rx;exact SeqAt.EqAt.none_int b t
  | str b=>obtain⟨t,rfl⟩:=rx;exact SeqAt.EqAt.none_str b t
  | _=>exact absurd (show false=true from fx) QaE
 | bl a=>
  cases ry;cases x with
  | non=>cases rx;exact SeqAt.EqAt.bool_none a
  | bl b=>cases rx;exact SeqAt.EqAt.bool_bool a b
  | int b=>obtain⟨t,rfl⟩:=rx;exact SeqAt.EqAt.bool_int a b t
  | str b=>obtain⟨t,rfl⟩:=rx;exact SeqAt.EqAt.bool_str a b t
  | _=>exact absurd (show false=true from fx) QaE
 | int a=>
  obtain⟨t',rfl⟩:=ry;cases x with
  | non=>cases rx;exact SeqAt.EqAt.int_none a t'
  | bl b=>cases rx;exact SeqAt.EqAt.int_bool a t' b
  | int b=>obtain⟨t,rfl⟩:=rx;exact SeqAt.EqAt.int_int a t' b t
  | str b=>obtain⟨t,rfl⟩:=rx;exact SeqAt.EqAt.int_str a t' b t
  | _=>exact absurd (show false=true from fx) QaE
 | str a=>
  obtain⟨t',rfl⟩:=ry;cases x with
  | non=>cases rx;exact SeqAt.EqAt.str_none a t'
  | bl b=>cases rx;exact SeqAt.EqAt.str_bool a t' b
  | int b=>obtain⟨t,rfl⟩:=rx;exact SeqAt.EqAt.str_int a t' b t
  | str b=>obtain⟨t,rfl⟩:=rx;exact SeqAt.EqAt.str_str a t' b t
  | _=>exact absurd (show false=true from fx) QaE
 | _=>exact absurd (show false=true from fy) QaE
def eqU (x:V) (u:Value):Bool:=match u with
 | .none=>eqV .non x
 | .bool b=>eqV (.bl b) x
 | .int i _=>eqV (.int i) x
 | .str z _=>eqV (.str z) x
 | _=>false
theorem Vz {x y:V} {u:Value} (r:RelV y u) (f:G3 y=true):eqU x u=eqV y x:=by
 cases y with
 | non=>cases r;rfl
 | bl b=>cases r;rfl
 | int i=>obtain⟨t,rfl⟩:=r;rfl
 | str z=>obtain⟨t,rfl⟩:=r;rfl
 | _=>exact absurd (show false=true from f) QaE
theorem Ip {x:V}:∀{xs:YG} {us:YE},Vals xs us->xs.all G3=true->us.any (eqU x)=xs.any λy=>eqV y x
 | _,_,.nil,_=>rfl
 | y::xs,u::us,.cons r t,f=>by
  rw[List.all_cons,Qba] at f;rw[List.any_cons,List.any_cons,Vz r f.1,Ip t f.2]
theorem Hs {A:Around} {s:Shared} {x:V} {v:Value} (rx:RelV x v) (fx:G3 x=true):∀{xs:YG} {us:YE},Vals xs us->xs.all G3=true->∀u∈us,SeqAt.EqAt A s u v (eqU x u)
 | _,_,.nil,_=>λu hu=>by cases hu
 | y::xs,u::us,.cons r t,f=>λu' hu=>by
  rw[List.all_cons,Qba] at f;rcases QbF.mp hu with rfl | hu
  ·rw[Vz r f.1];exact dI r rx f.1 fx
  ·exact Hs rx fx t f.2 u' hu
def inV (x:V) (xs:YG):Bool:=xs.any λy=>eqV y x
def rIn (K:YD) (neg:Bool):R2:=λx y H Q=>∃p xs,y=.ref p/\(SqL K H p xs\/SqT K H p xs)/\G3 x=true/\xs.all G3=true/\Q (.bl (if neg then !inV x xs else inV x xs)) H
theorem U8:OpR X (compareOp .In) (rIn X.K false):=by
 intro jb s Z H x y v u Q I rx ry h;obtain⟨p,xs,rfl,hq,fx,fs,q⟩:=h;cases ry;rcases hq with hq | hq
 ·obtain⟨its,r,pl,hz⟩:=I.list hq;refine SeqAt.in_listAt (eqU x) pl.isList (λw hw=>Hs rx fx r fs w (by simpa using hw)) ⟨.bl _,H,I,rq,?_⟩;rw[show its.toArray.any (eqU x)=its.any (eqU x) by simp,Ip r fs];exact q
 ·obtain⟨its,r,pl,hz⟩:=I.tuple hq;refine SeqAt.in_tupleAt (eqU x) pl (λw hw=>Hs rx fx r fs w (by simpa using hw)) ⟨.bl _,H,I,rq,?_⟩;rw[show its.toArray.any (eqU x)=its.any (eqU x) by simp,Ip r fs];exact q
theorem Oz:OpR X (compareOp .NotIn) (rIn X.K true):=by
 intro jb s Z H x y v u Q I rx ry h;obtain⟨p,xs,rfl,hq,fx,fs,q⟩:=h;cases ry;rcases hq with hq | hq
 ·obtain⟨its,r,pl,hz⟩:=I.list hq;refine SeqAt.notIn_listAt (eqU x) pl.isList (λw hw=>Hs rx fx r fs w (by simpa using hw)) ⟨.bl _,H,I,rq,?_⟩;rw[show its.toArray.any (eqU x)=its.any (eqU x) by simp,Ip r fs];exact q
 ·obtain⟨its,r,pl,hz⟩:=I.tuple hq;refine SeqAt.notIn_tupleAt (eqU x) pl (λw hw=>Hs rx fx r fs w (by simpa using hw)) ⟨.bl _,H,I,rq,?_⟩;rw[show its.toArray.any (eqU x)=its.any (eqU x) by simp,Ip r fs];exact q
theorem CK:Cq X (.builtin "len") (λxs H Q=>∃p ys,xs=[.ref p]/\(SqL X.K H p ys\/SqT X.K H p ys)/\Q (.int ys.length) H):=by
 intro jb s Z H xs us Q I r h;obtain⟨p,ys,rfl,hq,q⟩:=h;obtain⟨u,rfl,rx⟩:=vals1 r;cases rx;have hn:=Im;rcases hq with hq | hq
 ·obtain⟨its,r',pl,hz⟩:=I.list hq;have hlen:=r'.length;exact Calls.call_len_list pl.isList (by simp only[QaT] <;> omega) ⟨.int ys.length,H,I.tok _,⟨s.toks+1,by rw[QaT,hlen]⟩,q⟩
 ·obtain⟨its,r',pl,hz⟩:=I.tuple hq;have hlen:=r'.length;exact len_tuple pl (by simp only[QaT] <;> omega) ⟨.int ys.length,H,I.tok _,⟨s.toks+1,by rw[QaT,hlen]⟩,q⟩
theorem Ql:Cq X (.builtin "len") (λxs H Q=>∃z,xs=[.str z]/\z.length<=sizeLine/\Q (.int z.length) H):=by
 intro jb s Z H xs us Q I r h;obtain⟨z,rfl,hz,q⟩:=h;obtain⟨u,rfl,t,rfl⟩:=vals1 r;have hn:=Im;exact len_str (by omega) ⟨.int z.length,H,I.tok _,⟨_,rq⟩,q⟩
theorem JL:Cq X (.type "list") (λxs H Q=>∃p ys,xs=[.ref p]/\(SqL X.K H p ys\/SqT X.K H p ys)/\∀l,H l=none->Q (.ref l) (upd H l (.lst ys))):=by
 intro jb s Z H xs us Q I r h;obtain⟨p,ys,rfl,hq,q⟩:=h;obtain⟨u,rfl,rx⟩:=vals1 r;cases rx;have fin:∀(its:YE),Vals ys its->ys.length<=sizeLine->∀(h':Heap) (c':Nat),(∀b o',s.heap.get? b=some o'->h'.get? b=some o') ->
   h'.get? s.heap.objs.size=some { cls:=.type "list",dict:=none,data:=.seq its.toArray c',slots:=#[] }->EP X jb Z Q (.ref s.heap.objs.size) { s with heap:=h' }:=λits r' hz h' c' kp e=>
  ⟨.ref s.heap.objs.size,_,I.laid (t':=s.toks) kp (QbV _) (show Bd X.prog X.w _ h' _ (.lst ys) from⟨hz,its,c',r',e⟩),rq,q _ (I.hok.fresh (QbV _))⟩
 rcases hq with hq | hq
 ·obtain⟨its,r',pl,hz⟩:=I.list hq;have hlen:=r'.length;obtain⟨o,ho,hc,n,hd⟩:=pl.isList;exact call_list_seq p (.inl rfl) ho hc hd (λh' c' kp e=>fin its r' hz h' c' kp e) (by simp only[QaT] <;> omega)
 ·obtain⟨its,r',pl,hz⟩:=I.tuple hq;have hlen:=r'.length;obtain⟨o,ho,hc,n,hd⟩:=pl;exact call_list_seq p (.inr rfl) ho hc hd (λh' c' kp e=>fin its r' hz h' c' kp e) (by simp only[QaT] <;> omega)
def tyV (K:YD) (T:String) (x:V) (H:Hp):Prop:=match x with
 | .str _=>T="str"
 | .int _=>T="int"
 | .ref p=>(T="list"/\∃xs,SqL K H p xs)\/(T="tuple"/\∃o,K.lookup p=some o/\o.cls=.type "tuple"/\o.dict=none) \/
   (T="dict"/\((∃kvs,H p=some (.dK kvs))\/∃kvs,H p=some (.dT kvs)))\/(T="set"/\∃S n,H p=some (.set S n))
 | _=>False
theorem bA {jb:YC} {Z : St} {H:Hp} {s:Shared} {T:String} {x:V} {v:Value} (I:Inv X jb Z H s) (r:RelV x v) (ty:tyV X.K T x H) :
  s.TypeIs v T/\∀a,v=.ref a->∃ob,s.heap.get? a=some ob/\ob.dict=none:=by
 cases x with
 | str z=>
  obtain⟨t,rfl⟩:=r;cases (show T="str" from ty)
  exact⟨typeIs_str s z t,λ_ e=>nomatch e⟩
 | int i=>
  obtain⟨t,rfl⟩:=r;cases (show T="int" from ty)
  exact⟨typeIs_int s i t,λ_ e=>nomatch e⟩
 | ref p=>
  cases r;rcases ty with⟨rfl,xs,hq⟩|⟨rfl,o,hk,hc,hd⟩|⟨rfl,hk⟩|⟨rfl,S,n,hk⟩
  ·obtain⟨its,_,pl,_⟩:=I.list hq;refine⟨pl.isList.typeIs,λa e=>?_⟩;cases e;obtain⟨o,n,e,c,hd,_⟩:=pl;exact⟨o,e,hd⟩
  ·refine⟨⟨o,I.kIn p o hk,hc⟩,λa e=>?_⟩;cases e;exact⟨o,I.kIn _ o hk,hd⟩
  ·have z:∃o,s.heap.get? p=some o/\o.ExactDict:=by
    rcases hk with⟨kvs,hk⟩|⟨kvs,hk⟩
    ·obtain⟨_,_,_,_,o,_,_,e,ex,_⟩:=I.hok p _ hk;exact⟨o,e,ex⟩
    ·obtain⟨_,_,_,_,o,_,_,e,ex,_⟩:=I.hok p _ hk;exact⟨o,e,ex⟩
   obtain⟨o,e,ex⟩:=z;refine⟨⟨o,e,ex.1⟩,λa e2=>?_⟩;cases e2;exact⟨o,e,ex.2.1⟩
  ·obtain⟨o,_,_,_,e,ex,_⟩:=I.hok p _ hk;refine⟨⟨o,e,ex.1⟩,λa e2=>?_⟩;cases e2;exact⟨o,e,ex.2.1⟩
 | _=>exact False.elim ty
def tBM (K:YD) (T:String) (r:V->YG->Hp->VK->Prop) (to:TE) (t:TA):TE:=fun Z H Q=>to Z H λx H1=>tyV K T x H1/\t Z H1 λxs H2=>r x xs H2 Q
variable {o e:Expr} {es:YJ} {to:TE} {t:TA} {name:Str} {apos cpos:Pos} {T id:String} {r:V->YG->Hp->VK->Prop}
theorem HN (pa:PlainAttrs T) (slot:Slot T name id) (hty:typeOf (.builtin id)=pure (.type "method_descriptor")) (hm:MtR X id r) (ho:PE X o to) (ha:PA X (e::es) t)
  (hbase:attributeBase o name X.env (eval o X.env)=eval o X.env:=by rfl)
  (hfew:((backTo cpos (starEach (e::es) X.env)).all (λx=>!x.1)&&(backToKw cpos (keywordEach [] X.env)).all (λx=>x.1.isSome)
  &&decide ((e::es).length+([]:List Keyword).length+(if ([]:List Keyword).isEmpty then 0 else 1) < 30))=true:=by rfl)
  (hline:(apos.endLine == cpos.line)=true:=by rfl) (hs:starEach (e::es) X.env=(false,eval e X.env)::starEach es X.env:=by rfl) (hplain:(backTo cpos (starEach es X.env)).any (·.1)=false:=by rfl) :
  PE X (.Call (.Attribute o name apos) (e::es) [] cpos) (tBM X.K T r to t):=by
 intro jb s Z H Q I h;refine wpAny_Call_method_late hbase hfew hline rfl (thn (ho jb s Z H _ I h) λv s1 zz=>?_);obtain⟨x,H1,I1,r1,ty,q1⟩:=zz;obtain⟨h1,h2⟩:=bA I1 r1 ty;refine⟨T,id,pa,slot,hty,h1,h2,?_⟩;have hA:=ha cpos jb s1 Z H1 _ I1 q1;rw[hs] at hA ⊢;refine Calls.callWith_builtin (by show (false || (backTo cpos (starEach es X.env)).any (·.1))=false;rw[hplain] <;> rfl) (Calls.evalArgs_plain ?_);refine thn hA λus s2 zz=>?_;obtain⟨vs,H2,I2,r2,q2⟩:=zz;exact hm jb s2 Z H2 x vs v us Q I2 r1 r2 q2
end
def MtM (X:Cx) (id:String) (r:V->YG->Hp->VK->Prop):Prop:=
 ∀(jb:YC) (s:Shared) (Z : St) (H:Hp) (x:V) (xs:YG) (v:Value) (us:YE) (Q:VK),Inv X jb Z H s->RelV x v->Vals xs us->r x xs H Q ->
  wpAny (model X.prog X.w) X.A (call (.builtin id) (v::us)) (EP X jb Z Q) X.xe s
theorem Vals.one:∀{x:V} {us:YE},Vals [x] us->∃u,us=[u]/\RelV x u
 | _,_,.cons r .nil=>⟨_,rfl,r⟩
theorem Vals.two:∀{x y:V} {us:YE},Vals [x,y] us->∃u v,us=[u,v]/\RelV x u/\RelV y v
 | _,_,_,.cons r (.cons q .nil)=>⟨_,_,rfl,r,q⟩
theorem Vals.zero:∀{us:YE},Vals [] us->us=[]
 | _,.nil=>rfl
theorem Vals.dropLast {xs:YG} {us:YE} (h:Vals xs us):Vals xs.dropLast us.dropLast:=by
 induction h with
 | nil=>exact .nil
 | cons r t ih=>
  cases t with
  | nil=>exact .nil
  | cons q t'=>exact .cons r ih
theorem Vals.rep {xs:YG} {us:YE} (h:Vals xs us):∀k:Nat,Vals (List.replicate k xs).flatten (List.replicate k us).flatten
 | 0=>.nil
 | k+1=>by
  rw[QaD,QaD,List.flatten_cons,List.flatten_cons];exact Vals.append h (Vals.rep h k)
theorem foldl_rep (its:YE):∀(k:Nat) (acc:YE),
  List.foldl (λx1 x2=>x1++x2) acc.toArray (List.replicate k its.toArray)=(acc++(List.replicate k its).flatten).toArray
 | 0,acc=>by simp
 | k+1,acc=>by
  have e:acc.toArray++its.toArray=(acc++its).toArray:=by simp
  have e2:(acc++its)++(List.replicate k its).flatten=acc++(List.replicate (k+1) its).flatten:=by
   rw[QaD,List.flatten_cons,List.append_assoc]
  rw[<-e2,<-foldl_rep its k (acc++its),<-e,QaD,List.foldl_cons]
section
variable {X:Cx} {jb:YC} {Z : St} {H:Hp} {s:Shared} {l b:Addr} {xs ys zs:YG}
theorem Inv.cP {its its':YE} {n:Nat} {f:Array Value->Array Value} {t':Nat} (I:Inv X jb Z H s) (hH:H l=some (.lst xs))
  (e:s.heap.get? l=some { cls:=.type "list",data:=.seq its.toArray n }) (hf:f its.toArray=its'.toArray) (hv:Vals ys its') (hz:ys.length<=sizeLine) :
  Inv X jb Z (upd H l (.lst ys)) { s with heap:=s.heap.update l (Obj.mapSeq f),toks:=t' }:=by
 have q:=PySem.IsL.update e f;rw[hf] at q;refine I.write (x:=l) (e:=l) (by rw[hH];exact trivial) (.inl rfl) (λb' u hb hu=>(Qal s.heap (Obj.mapSeq f) (Ne.symm hb)).trans hu) ⟨_,q⟩ ?_;exact⟨hz,its',_,hv,q⟩
theorem Inv.cQ {its:YE} {t':Nat} (I:Inv X jb Z H s) (hv:Vals ys its) (hz:ys.length<=sizeLine) :
  Inv X jb Z (upd H s.heap.objs.size (.lst ys)) { s with heap:=s.heap.push { cls:=.type "list",data:=.seq its.toArray },toks:=t' }:=
 I.laid (λ_ _ q=>Qak _ q) (QbV _) ⟨hz,its,0,hv,QaA _ rfl⟩
theorem Inv.fresh (I:Inv X jb Z H s):H s.heap.objs.size=none:=I.hok.fresh (QbV _)
theorem Inv.JB (I:Inv X jb Z H s) (hH:H l=some (.lst xs)):xs.length<=sizeLine/\∃(its:YE) (n:Nat),Vals xs its/\xs.length=its.length/\s.heap.get? l=some { cls:=.type "list",data:=.seq its.toArray n }:=by
 obtain⟨z,its,n,r,e⟩:=I.hok l _ hH;exact⟨z,its,n,r,r.length,e⟩
theorem O4 {n:Nat} (h:n<=sizeLine):Builtin.List.listTooLong n=false:=by
 unfold Builtin.List.listTooLong;exact Qbm (by omega)
end
section
variable {X:Cx}
def ZM:V->YG->Hp->VK->Prop:=λx vs H Q=>∃l xs y,x=.ref l/\vs=[y]/\H l=some (.lst xs)/\xs.length < sizeLine/\Q .non (upd H l (.lst (xs++[y])))
theorem Dw:MtM X "list.append" ZM:=by
 intro jb s Z H x vs v us Q I rx rv h;obtain⟨l,xs,y,rfl,rfl,hH,hz,q⟩:=h;cases rx;obtain⟨u,rfl,ru⟩:=rv.one;obtain⟨z,its,n,r,hl,e⟩:=I.JB hH;refine call_meets F.slot_list_append ⟨_,e,rq⟩ F.entry_list_append (F.args_list_append_2 _ _) (PySem.list_append l its.toArray n u (by rw[QaT];omega)) ⟨e,?_⟩;refine⟨.non,_,I.cP (its':=its++[u]) hH e (by simp) (r.append (.cons ru .nil)) ?_,rq,q⟩;rw[QaI,List.length_singleton];omega
def ZL:V->YG->Hp->VK->Prop:=λx vs H Q=>∃l b xs zs,x=.ref l/\vs=[.ref b]/\H l=some (.lst xs)/\H b=some (.lst zs)/\xs.length+zs.length<=sizeLine/\Q .non (upd H l (.lst (xs++zs)))
theorem gZ:MtM X "list.extend" ZL:=by
 intro jb s Z H x vs v us Q I rx rv h;obtain⟨l,b,xs,zs,rfl,rfl,hH,hB,hz,q⟩:=h;cases rx;obtain⟨u,rfl,ru⟩:=rv.one;cases ru;obtain⟨z,its,n,r,hl,e⟩:=I.JB hH;obtain⟨z2,its2,n2,r2,hl2,e2⟩:=I.JB hB;have hsz:its.toArray.size+its2.toArray.size<=sizeLine:=by rw[QaT,QaT];omega
 have Tz:¬(!its.toArray.isEmpty&&Builtin.List.listTooLong (its.toArray.size+its2.toArray.size))=true:=by
  rw[O4 hsz,Bool.and_false];exact QaE
 refine call_meets F.slot_list_extend ⟨_,e,rq⟩ F.entry_list_extend (F.args_list_extend_2 _ _)
  (AutoSeq1.list_extend_list_list_0 l its.toArray n b its2.toArray n2 Tz (by rw[QaT];omega) (by omega)) ⟨e,e2,?_⟩
 refine⟨.non,_,I.cP (its':=its++its2) hH e (by simp) (r.append r2) ?_,rq,q⟩;rw[QaI];omega
def jo:R2:=λx y H Q=>∃l b xs zs,x=.ref l/\y=.ref b/\H l=some (.lst xs)/\H b=some (.lst zs)/\xs.length+zs.length<=sizeLine/\∀p,H p=none->Q (.ref p) (upd H p (.lst (xs++zs)))
theorem Jy:OpR X (binaryOp .Add) jo:=by
 intro jb s Z H x y v u Q I rx ry h;obtain⟨l,b,xs,zs,rfl,rfl,hH,hB,hz,q⟩:=h;cases rx;cases ry;obtain⟨z,its,n,r,hl,e⟩:=I.JB hH;obtain⟨z2,its2,n2,r2,hl2,e2⟩:=I.JB hB;refine PySem.P.add_list e e2 ?_ (by rw[QaT,QaT];omega);have ea:its.toArray++its2.toArray=(its++its2).toArray:=by simp
 rw[ea];exact⟨.ref _,_,I.cQ (t':=s.toks) (r.append r2) (by rw[QaI];omega),rq,q _ I.fresh⟩
def jm:R2:=λx y H Q=>∃l k xs,x=.ref l/\y=.int k/\H l=some (.lst xs)/\-(2 ^ 63)<=k/\k < 2 ^ 63/\xs.length*k.toNat<=sizeLine /\
 ∀p,H p=none->Q (.ref p) (upd H p (.lst (List.replicate k.toNat xs).flatten))
theorem len_rep {α : Type} (xs:List α) (k:Nat):(List.replicate k xs).flatten.length=k*xs.length:=by
 induction k with
 | zero=>simp
 | succ k ih=>rw[QaD,List.flatten_cons,QaI,ih,Nat.succ_mul,Nat.add_comm]
theorem cu:OpR X (binaryOp .Mult) jm:=by
 intro jb s Z H x y v u Q I rx ry h;obtain⟨l,k,xs,rfl,rfl,hH,h1,h2,hz,q⟩:=h;cases rx;obtain⟨t,rfl⟩:=ry;obtain⟨z,its,n,r,hl,e⟩:=I.JB hH;have hlen:its.toArray.size*k.toNat<=sizeLine:=by rw[QaT,<-hl];exact hz
 have hcap:¬its.toArray.size*k.toNat > (2 ^ 63 - 1) / 8:=by
  have:(sizeLine:Nat)<=(2 ^ 63 - 1) / 8:=by decide
  omega
 have hfit:¬(!Builtin.List.listFitsIndex k)=true:=by
  rw[fitsIndex_both h1 h2];exact QaE
 have Tz:¬Builtin.List.listTooLong (its.toArray.size*k.toNat)=true:=by
  rw[O4 hlen];exact QaE
 have hnew:List.foldl (λx1 x2=>x1++x2) #[] (List.replicate (if its.toArray.isEmpty=true then 0 else k.toNat) its.toArray)=(List.replicate k.toNat its).flatten.toArray:=by
  have f0:∀m:Nat,List.foldl (λx1 x2=>x1++x2) #[] (List.replicate m its.toArray)=(List.replicate m its).flatten.toArray:=λm=>by
   have:=foldl_rep its m [];rw[List.nil_append] at this;exact this
  rw[f0];cases its with
  | nil=>simp
  | cons a r'=>rw[if_neg (by simp)]
 refine wpAny_binaryOp_repeat_ref (T:="list") (U:="int") (by decide) ⟨_,e,rq⟩ (λs'=>typeIs_int s' k t) noFill_list_mul F.fills_int_mul F.slot_int_rmul repeat_list F.slot_int_index.lookup
  (call_meets F.slot_int_rmul (typeIs_int s k t) F.entry_int_rmul (F.args_int_rmul_2 _ _) (int___rmul___int_list k t l its.toArray n)
   ⟨e,rq,⟨_,e,rq⟩,call_meets F.slot_list_mul ⟨_,e,rq⟩ F.entry_list_mul (F.args_list_mul_2 _ _) (AutoListH.list___mul___list_int_3 l its.toArray n k t hfit hcap Tz) ⟨e,?_⟩⟩)
 rw[hnew];exact⟨.ref _,_,I.cQ (t':=s.toks) (r.rep k.toNat) (by rw[len_rep,Nat.mul_comm];exact hz),rq,q _ I.fresh⟩
end
section
variable {prog:Program} {w:World} {A:Around} {E:YA} {s:Shared}
set_option maxRecDepth 100000 in
end
section
variable {X:Cx}
end
end L2
namespace Att
open PySem PySem.W PySem.Calls PyProof.Rows
theorem Lw {P:Params} {h:Heap}:∀(ns:List Int) (vs:YE),WellAll P h vs (ns.map WData.int)->IntsAre vs ns:=by
 intro ns
 induction ns with
 | nil=>
  intro vs w;rw[List.map_nil] at w;cases w;exact .nil
 | cons n ns ih=>
  intro vs w;rw[QbJ] at w;cases w with
  | cons a b=>
   cases a;exact .cons _ _ (ih _ b)
theorem Uy {l:OpenLaw} {n:Nat} (hn:l.most=some n) {P:Params} {h:Heap} {args:List WData} {vals:YE}
  (hpre:l.row.toRowW.claim.pre args=true) (hwl:WellAll P h vals args) :
  ∃a vs ns,vals=[Value.ref a]/\args=[WData.list (ns.map WData.int)]/\h.get? a=some { cls:=.type "list",data:=.seq vs.toArray }/\IntsAre vs ns/\ns.length<=n:=by
 have hsh:WShape.hasAll [] args [.list .int]=true:=(pre_splitW hpre).1;have hc:l.pre.holds [] { args:=args }=true:=(pre_splitW hpre).2;obtain⟨d,r,rfl,h1,h2⟩:=hasAllW_cons hsh;obtain rfl:=hasAllW_nil h2;obtain⟨xs,rfl,h3⟩:=hasW_list h1;obtain⟨ns,rfl⟩:=items_int h3;have hlen:ns.length<=n:=by
  unfold OpenLaw.pre at hc;have h4:(WTm.not (.lt (.lit (.int (n:Int))) (.len (.arg 0)))).holds [] { args:=[.list (ns.map .int)] }=true:=by
   have h4:=(holds_andW hc).1;rw[hn] at h4;exact h4
  have h5:=condW_of h4 (w_not (w_lt w_lit (w_len_list (w_arg rfl))));rw[Qbl] at h5;refine Nat.le_of_not_lt λq=>?_;have q':(n:Int) < ((ns.length:Nat):Int):=by omega
  first
   | (rw[QbC q'] at h5;exact absurd h5 (by decide))
   | (simp at h5;omega)
 cases hwl with
 | cons w1 w2=>
  cases w2;cases w1 with
  | list ho hall=>exact⟨_,_,ns,rfl,rfl,ho,Lw ns _ hall,hlen⟩
theorem UJ (l:OpenLaw) (args:List WData):l.row.toRowW.claim.post args (.bool true) args=true:=
 postW_of (r:=l.row.toRowW) (X:=(true == true))
  (show WShape.has [] (.bool true) .bool=true by first | rfl | decide | simp[WShape.has,WShape.arms,WShape.armsAll])
  (show (WTm.eq .res (.lit (.bool true))).value [] { args:=args,res:=some (.bool true),after:=args }=some (.bool (true == true)) from w_eq_bool (w_res rfl) w_lit) rfl
theorem QZ {l:OpenLaw} {n:Nat} {q:Program} {loose:YF} {XP:(YB)->Heap->Prop} {YP:World->Heap->Prop} {d:DefRec}
  (hn:l.most=some n) (hdf:d.params.defaults=[])
  (call:∀(w:World) (s₀ s₁ : Shared) (mg mb:YB) (fa:Addr) (o:Obj) (pm cd doc:Value) (a:Addr) (vs:YE) (ns:List Int),
   Ground q loose [] XP w s₀ mg mb s₁.heap->YP w s₁.heap ->
   s₁.heap.get? fa=some o->o.data=.func (docDef d.name d.params d.body d.scope pm cd doc)->s₁.heap.CodeRec cd d.name->mg d.name=some (.ref fa) ->
   s₁.heap.get? a=some { cls:=.type "list",data:=.seq vs.toArray }->IntsAre vs ns->ns.length<=n->s₁.gens=#[] ->
   codeAny (model l.prog w) callerA (.call (.ref fa) ⟨[.ref a],[]⟩) (λr s'=>r=.ok (.ret (.bool true))/\OldK s₁.heap s'.heap/\s'.os=s₁.os/\AllBare s'.gens) s₁) :
  WalkO q loose XP YP l.row.toRowW d [] (λf vs=>PySem.call f vs):=by
 intro w s₀ s₁ mg mb G Y fa o pm cd doc dV kV ho hd hcd hD hmg hg args vals as hpre hlay hrd hwl hlo;obtain rfl:dV=.none:=Dflts.none hD hdf;obtain rfl:kV=.none:=Dflts.noKw hD;obtain⟨a,vs,ns,rfl,rfl,hobj,hints,hlen⟩:=Uy hn hpre hwl;refine enter_call (QbT (call w s₀ s₁ mg mb fa o pm cd doc a vs ns G Y ho (fd_plain hd) hcd hmg hobj hints hlen hg) λr s' hq=>?_);obtain⟨rfl,h2,h3,h4⟩:=hq;exact⟨.inl ⟨.bool true,.bool true,[],rq,λ_=>rfl,.bool true,UJ l _,λ_=>⟨List.Pairwise.nil,λ_ hm=>(nomatch hm)⟩⟩,h2,h3,h4⟩
section
variable {prog:Program} {w:World} {A:Around} {E:YA} {s:Shared} {K:Frag}
def Jz (h:Heap):Heap:={ h with objs:=#[] }
theorem DP (h:Heap) (b:Addr):(Jz h).get? b=none:=by
 cases e:(Jz h).get? b with
 | none=>rfl
 | some o=>exact absurd (QbO e) (Nat.not_lt_zero _)
theorem PL {h:Heap} {L:Addr} {m:YB} (n:h.Ns L m):Fr (Jz h) L h m:=
 ⟨n,λb o e=>(by rw[DP] at e;cases e),QbW _⟩
end
end Att
namespace L2
open PySem PySem.Spec PyProof.Rows
theorem Jp:∀{vs:YE} {ns:List Int},IntsAre vs ns->Vals (ns.map V.int) vs
 | _,_,.nil=>.nil
 | _,_,.cons n t h=>.cons ⟨t,rfl⟩ (Jp h)
def Only (H:Hp):Prop:=∀b,H b=none\/∃o xs,H b=some (.frz o (.lst xs))
theorem W0 {P:Program} {w:World} {K:YD} {mg mb:YB} {CX:CXT} {k:Nat} {fa a:Addr} {fd:FuncData} {x:Str} {sp:Sp} {s₁ : Shared} {vs:YE} {ns:List Int}
  (KX:K.In s₁.heap) (hns:s₁.heap.Ns mainGlobals mg) (hb:s₁.heap.Ns builtinsNs mb) (hbb:∀x:Str,x≠"__name__"->mb x=bootBuiltins x) (hlim:s₁.heap.NoLimit) (hg:s₁.gens=#[])
  (ha:s₁.heap.get? a=some { cls:=.type "list",data:=.seq vs.toArray }) (hi:IntsAre vs ns) (hl:ns.length<=sizeLine) (hr:Bh k callerA)
  (F:∀base:Heap,K.In base->base.Ns mainGlobals mg->Du P w K mg base CX k fa fd [x] sp) (hbind:∀(s:Shared) (u:Value),BindsTo s fd ⟨[u],[]⟩ [(x,u)])
  (hsp:∀H:Hp,Only H->SqL K H a (ns.map V.int)->sp [.ref a] H (λv _=>v=.bl true) λ_ _ _=>False)
  (hCX:∀H e s',CX [] H s₁ (λ_ _ _=>False) e s'->False) :
  codeAny (model P w) callerA (.call (.ref fa) ⟨[.ref a],[]⟩) (λr s'=>r=.ok (.ret (.bool true))/\OldK s₁.heap s'.heap/\s'.os=s₁.os/\AllBare s'.gens) s₁:=by
 have rv:=Jp hi;have lenV:=hi.length;have core:∀H:Hp,Only H->SqL K H a (ns.map V.int)->HOk P w H s₁.heap->(∀b,H b≠none->b=a)->(H a≠none->K.lookup a=none) ->
   codeAny (model P w) callerA (.call (.ref fa) ⟨[.ref a],[]⟩) (λr s'=>r=.ok (.ret (.bool true))/\OldK s₁.heap s'.heap/\s'.os=s₁.os/\AllBare s'.gens) s₁:=by
  intro H hO hS hok hA hK;have Ry:∀{b:Addr} {o:Obj},s₁.heap.get? b=some o->H b=none->(Je s₁.heap H).get? b=some o:=λe n=>Yq e n;have noA:∀{b:Addr} {o:Obj} {es:YK} {ep:Nat},s₁.heap.get? b=some o->o.data=.dict es ep->H b=none:=λ{b o es ep} e d=>by
   cases q:H b with
   | none=>rfl
   | some u=>
    have e':b=a:=hA b (by rw[q];simp);subst e';rw[ha] at e;cases e;have d':Data.seq vs.toArray _=Data.dict es ep:=d;cases d'
  have nsK:∀{b:Addr} {m:YB},s₁.heap.Ns b m->(Je s₁.heap H).Ns b m:=λ{b m} ⟨o,es,ep,e,d,r⟩=>⟨o,es,ep,Ry e (noA e d),d,r⟩;have hKb:K.In (Je s₁.heap H):=λb o e=>Ry (KX b o e) (by
   cases q:H b with
   | none=>rfl
   | some u=>
    have e':b=a:=hA b (by rw[q];simp);subst e';rw[hK (by rw[q];simp)] at e;cases e)
  have hM:Mod K mg (Je s₁.heap H):=⟨hKb,nsK hns,⟨mb,nsK hb,hbb⟩,let ⟨mc,h1,h2⟩:=hlim;⟨mc,nsK h1,h2⟩⟩;have e0:GP P w K mg (Je s₁.heap H) callerA [] s₁ H:=⟨rq,hM,λb o e=>ao e,Nat.le_of_eq (Vr _ _),trivial,λb hb=>absurd (show b∈([]:List Addr) from hb) (by simp),hok,.of_eq hg⟩
  refine QbT ((F _ hKb (nsK hns)).run callerA [] s₁ H ⟨[.ref a],[]⟩ [.ref a] [.ref a] _ _ hr e0 (hbind s₁ (.ref a)) (.cons rfl .nil) (hsp H hO hS)) λr s' h=>?_;cases r with
  | error e=>exact (hCX H e s' h).elim
  | ok fl=>
   cases fl with
   | next=>exact False.elim h
   | brk=>exact False.elim h
   | cont=>exact False.elim h
   | ret u=>
    obtain⟨v,H',os,bare,un,hok',r',q⟩:=h;have q':v=.bl true:=q;subst q';obtain rfl:u=Value.bool true:=r';refine⟨rq,OldK.of_keep λb o e=>?_,os,bare⟩;cases q:H b with
    | none=>exact un.keep b o e q (by intro z;exact absurd (show b∈([]:List Addr) from z) (by simp)) (by simp)
    | some u=>
     rcases hO b with z |⟨ob,xs,z⟩
     ·rw[q] at z;cases z
     ·have z2:=un.Em b ob _ z;obtain⟨e1,_⟩:=hok b _ z;obtain⟨e2,_⟩:=hok' b _ z2;rw[e] at e1;cases e1;exact e2
 cases hk:K.lookup a with
 | some o=>
  have e:=KX a o hk;rw[ha] at e;cases e;refine core (λ_=>none) (λ_=>.inl rfl) (.inr ⟨_,vs.toArray,_,hk,rq,rq,rq,by rw[QaT,lenV];exact hl,by simpa using rv⟩) (λb u z=>by have z':(none:Option HO)=some u:=z;cases z') (λb z=>absurd rfl z) λz=>absurd rfl z
 | none=>
  refine core (λb=>if b=a then some (.frz { cls:=.type "list",data:=.seq vs.toArray } (.lst (ns.map V.int))) else none) (λb=>?_) (.inl (.inr ⟨{ cls:=.type "list",data:=.seq vs.toArray },if_pos rfl⟩)) (λb u z=>?_) (λb z=>?_) λ_=>hk
  ·by_cases hb:b=a
   ·exact .inr ⟨_,_,if_pos hb⟩
   ·exact .inl (if_neg hb)
  ·by_cases hb:b=a
   ·have z':=(if_pos hb).symm.trans z;cases z';subst hb;exact⟨ha,by rw[Qbl];exact hl,vs,_,rv,ha⟩
   ·have z':=(if_neg hb).symm.trans z;cases z'
  ·by_cases hb:b=a
   ·exact hb
   ·exact absurd (if_neg hb) z
theorem Zz {l:PySem.W.OpenLaw} {n k:Nat} {q:Program} {loose:YF} {XP:(YB)->Heap->Prop} {YP:World->Heap->Prop} {d:DefRec} {K:Params->YD} {CX:World->CXT} {sp:World->Sp} {x:Str}
  (hn:l.most=some n) (hn2:n<=sizeLine) (hdf:d.params.defaults=[]) (hr:Bh k callerA)
  (hY:∀(w:World) (h:Heap),YP w h->(K w.params).In h)
  (F:∀(w:World) (mg:YB) (fa:Addr) (h:Heap),(K w.params).In h->h.Ns mainGlobals mg->mg d.name=some (.ref fa) ->
   ∃fd:FuncData,(∀(s:Shared) (u:Value),BindsTo s fd ⟨[u],[]⟩ [(x,u)]) /\
    ∀base:Heap,(K w.params).In base->base.Ns mainGlobals mg->Du l.prog w (K w.params) mg base (CX w) k fa fd [x] (sp w))
  (hsp:∀(w:World) (H:Hp) (a:Addr) (ns:List Int),ns.length<=n->Only H->SqL (K w.params) H a (ns.map V.int)->sp w [.ref a] H (λv _=>v=.bl true) λ_ _ _=>False)
  (hCX:∀(w:World) (H:Hp) (s:Shared) (e:Value) (s':Shared),CX w [] H s (λ_ _ _=>False) e s'->False) :
  PySem.W.WalkO q loose XP YP l.row.toRowW d [] (λf vs=>PySem.call f vs):=by
 refine Att.QZ hn hdf λw s₀ s₁ mg mb fa o pm cd doc a vs ns G Y ho hd hcd hmg hobj hints hlen hg=>?_;have KX:=hY w _ Y;obtain⟨fd,hb,hF⟩:=F w mg fa _ KX G.T.g hmg;exact W0 KX G.T.g G.T.b G.T.builtins G.T.nolimit hg hobj hints (QbR hlen hn2) hr hF hb (λH hO hS=>hsp w H a ns hlen hO hS) λH e s'=>hCX w H s₁ e s'
def inClass (s:Stmt) (j:Nat):Stmt:=match s with
 | .ClassDef _ _ _ body _ _ _ _ _ _ _=>body.getD j (.Pass ⟨0,0,0,0⟩)
 | _=>.Pass ⟨0,0,0,0⟩
def Ay (s:Stmt):Arguments:=match s with
 | .FunctionDef _ a _ _ _ _ _ _ _ _=>a
 | _=>{ posonlyargs:=[],args:=[],vararg:=none,kwonlyargs:=[],kw_defaults:=[],kwarg:=none,defaults:=[] }
def Av (s:Stmt):List Stmt:=match s with
 | .FunctionDef _ _ b _ _ _ _ _ _ _=>b
 | _=>[]
def Ad (s:Stmt):Scope:=match s with
 | .FunctionDef _ _ _ _ _ _ sc _ _ _=>sc
 | _=>{ kind:=.function,names:=[],isGenerator:=false,isCoroutine:=false }
abbrev CX0:CXT:=λ_ _ _ _ _ _=>False
abbrev E0:XK:=λ_ _ _=>False
theorem Nu {X:Cx}:Passes CX0 X E0:=λ_ _ _ _ _ _ _ h=>h.elim
structure Fun (K:YD) (x qual:Str) (st:Stmt) (f:Addr) (fd:FuncData):Prop where
 ex:∃(oc:Value) (od:Option Addr) (kV doc pm:Value) (an:Option Addr) (cdv ct:Value) (osl:YI),
  fd=fnOf x qual (Ay st) (Av st) (Ad st) .none kV doc pm an cdv ct/\K.lookup f=some ⟨oc,od,.func fd,osl⟩/\codeIn K cdv qual=true
 kp:keepIn K (.ref f)=true
section
variable {P:Program} {w:World} {K:YD} {mg:YB} {base:Heap}
theorem Fun.ok {x qual:Str} {st:Stmt} {f:Addr} {fd:FuncData} {N ps:YF} {k:Nat} {sp:Sp} (F:Fun K x qual st f fd) (S:Az N ps (Ad st)) (len:∀vs H Q E,sp vs H Q E->vs.length=ps.length)
  (hbody:∀(cdv:Value) (A:Around) (outer:List Env) (s:Shared) (H:Hp) (vs:YG) (Q:VK) (E:XK),Bh k (A.deeper (envOfC qual (Ad st) s.heap.objs.size f cdv))->sp vs H Q E ->
   ∃t,PSs (GJ CX0 P w K mg base N qual (Ad st) f cdv A outer s H E).nox (Av st) t/\t { nx:=λ_ H'=>Q .non H',rt:=Q } (start N vs) H):Du P w K mg base CX0 (k+1) f fd ps sp:=by
 obtain⟨oc,od,kV,doc,pm,an,cdv,ct,osl,rfl,lk,hcd⟩:=F.ex;refine Zx lk hcd S len λA outer s H vs Q E hr hsp=>?_;obtain⟨t,h,q⟩:=hbody cdv A outer s H vs Q E hr hsp;exact⟨t,h.nox,q⟩
theorem Fun.binds {x qual:Str} {st:Stmt} {f:Addr} {fd:FuncData} {ps:YF} (F:Fun K x qual st f fd)
  (h:∀(kV doc pm:Value) (an:Option Addr) (cdv ct:Value) (us:YE),us.length=ps.length->bindArgs (fnOf x qual (Ay st) (Av st) (Ad st) .none kV doc pm an cdv ct) ⟨us,[]⟩=pure (ps.zip us)):Binds K fd ps []:=by
 obtain⟨oc,od,kV,doc,pm,an,cdv,ct,osl,rfl,lk,hcd⟩:=F.ex;exact .all (h kV doc pm an cdv ct)
theorem El {x qual:Str} {st:Stmt} {f:Addr} {oc:Value} {od an:Option Addr} {osl:YI} {kV doc pm cdv ct:Value} (l:K.lookup f=some ⟨oc,od,.func (fnOf x qual (Ay st) (Av st) (Ad st) .none kV doc pm an cdv ct),osl⟩)
  (c:codeIn K cdv qual=true) (k:keepIn K (.ref f)=true):Fun K x qual st f (fnOf x qual (Ay st) (Av st) (Ad st) .none kV doc pm an cdv ct):=⟨⟨oc,od,kV,doc,pm,an,cdv,ct,osl,rq,l,c⟩,k⟩
end
theorem gJ {A:Around} {k:Nat} (hr:Bh k A):A.units+1 < cLine:=Nat.lt_of_le_of_lt (Nat.add_le_add_left (by decide:1<=64) _) hr.units
theorem Am {n:Nat} (h:n<=1000):n < sizeLine:=Nat.lt_of_le_of_lt h (by decide)
section
variable {X:Cx}
theorem pv (i:Nat) {x:Str} {pos:Pos} (hN:X.N[i]?=some x:=by rfl) (hv:Vis X.env.scope x:=by first | exact Or.inl rfl | exact Or.inr (Or.inl rfl) | exact Or.inr (Or.inr rfl)) (hd:(x == ("__debug__":Str))=false:=by decide)
  (hcd:(x == ("__classdict__":Str))=false:=by decide):PE X (.Name x pos) (Wc i):=cg hN hv hd hcd
end
theorem Bo {A B:Prop} (h:B):if false=true then A else B:=by
 rw[if_neg QaE];exact h
theorem Bm {A B:Prop} (h:A):if true=true then A else B:=by
 rw[if_pos rfl];exact h
theorem cY {c A B:Prop} [Decidable c] (h1:c->A) (h2:¬c->B):if c then A else B:=by
 by_cases h:c
 ·rw[if_pos h];exact h1 h
 ·rw[if_neg h];exact h2 h
theorem gC {c A B:Prop} [Decidable c] (hc:c) (h:B):if (!decide c)=true then A else B:=by
 rw[QbC hc];exact Bo h
def Same (H H':Hp):Prop:=∀b o,H b=some o->H' b=some o
theorem Same.refl (H:Hp):Same H H:=λ_ _ h=>h
theorem Same.trans {H H1 H2:Hp} (a:Same H H1) (b:Same H1 H2):Same H H2:=λc o h=>b c o (a c o h)
theorem Same.free {H H':Hp} (e:Same H H') {l:Addr} (h:H' l=Option.none):H l=Option.none:=by
 cases q:H l with
 | none=>rfl
 | some o=>
  rw[e l o q] at h;cases h
theorem Same.seq {K:YD} {H H':Hp} {a:Addr} {xs:YG} (e:Same H H') (h:SqL K H a xs):SqL K H' a xs:=by
 rcases h with (h |⟨o,h⟩) | h
 ·exact .inl (.inl (e _ _ h))
 ·exact .inl (.inr ⟨o,e _ _ h⟩)
 ·exact .inr h
def CT (env:Env):List (Str×NameKind)->List (Str×Addr)->List (Str×Addr)
 | [],cs=>cs
 | (n,k)::r,cs=>CT env r (if (k == .free)=true then (match env.cells.lookup n with | some c=>(n,c)::cs | none=>cs) else cs)
theorem Qg {env:Env}:∀(names:List (Str×NameKind)) (cs:List (Str×Addr)),(∀p∈names,p.2=.free->∃c,env.cells.lookup p.1=some c) ->
  (forIn names cs λ(p:Str×NameKind) (r:List (Str×Addr))=>(if (p.2 == .free)=true then do
    let c <-cellOf env p.1
    pure (ForInStep.yield ((p.1,c)::r))
   else pure (ForInStep.yield r):Sem (ForInStep (List (Str×Addr)))))=pure (CT env names cs)
 | [],cs,_=>rfl
 | (n,k)::rest,cs,h=>by
  have ih:=λcs'=>Qg rest cs' λp hp=>h p (Qau _ hp);rw[List.forIn_cons];cases hk:(k == NameKind.free) with
  | true=>
   obtain⟨c,hc⟩:=h (n,k) QaJ (eq_of_beq hk);have e1:cellOf env n=pure c:=by unfold cellOf;rw[hc]
   have e2:CT env ((n,k)::rest) cs=CT env rest ((n,c)::cs):=by simp only[CT,hk,if_true,hc]
   rw[e2,<-ih];simp only[hk,if_true,e1,pure_bind]
  | false=>
   have e2:CT env ((n,k)::rest) cs=CT env rest cs:=by simp only[CT,hk,QaO,if_false]
   rw[e2,<-ih];simp only[hk,QaO,if_false,pure_bind]
theorem LQ {env:Env} {scope:Scope} (h:∀p∈scope.names,p.2=.free->∃c,env.cells.lookup p.1=some c):closureFor scope env=pure (CT env scope.names []):=by
 have e:=Qg (env:=env) scope.names [] h;unfold closureFor;simp only[bind_pure];exact e
theorem Qf {env:Env}:∀(names:List (Str×NameKind)) (cs:List (Str×Addr)),(∀x c,cs.lookup x=some c->env.cells.lookup x=some c) ->
  ∀x c,(CT env names cs).lookup x=some c->env.cells.lookup x=some c
 | [],cs,h,x,c,e=>h x c e
 | (n,k)::rest,cs,h,x,c,e=>by
  refine Qf rest _ (λy d z=>?_) x c e;split at z
  ·split at z
   ·rename_i c' hc';rw[List.lookup_cons] at z;cases q:y == n with
    | true=>rw[q] at z;cases z;rw[eq_of_beq q];exact hc'
    | false=>rw[q] at z;exact h y d z
   ·exact h y d z
  ·exact h y d z
theorem K1 {env:Env}:∀(names:List (Str×NameKind)) (cs:List (Str×Addr)) (x:Str),((cs.lookup x).isSome=true\/((x,NameKind.free)∈names/\∃c,env.cells.lookup x=some c)) ->
  ∃c,(CT env names cs).lookup x=some c
 | [],cs,x,h=>by
  rcases h with h |⟨h,_⟩
  ·exact Option.isSome_iff_exists.mp h
  ·cases h
 | (n,k)::rest,cs,x,h=>by
  refine K1 rest _ x ?_;have grow:(cs.lookup x).isSome=true->(List.lookup x (if (k == .free)=true then (match env.cells.lookup n with | some c=>(n,c)::cs | none=>cs) else cs)).isSome=true:=λz=>by
   split
   ·split
    ·rw[List.lookup_cons];cases x == n with
     | true=>rfl
     | false=>exact z
    ·exact z
   ·exact z
  rcases h with h |⟨h,c,hc⟩
  ·exact .inl (grow h)
  ·rcases QbF.mp h with z | z
   ·cases z;refine .inl ?_;simp[hc,List.lookup_cons]
   ·exact .inr ⟨z,c,hc⟩
def Hg (env:Env) (n:Str) (k:NameKind):NameKind:=if (k == .free&&env.scope.kind == .function&&env.kindOf n == some .cell)=true then .cell else k
theorem Lp (env:Env):∀(l:List (Str×NameKind)) (x:Str),
  (l.map λ(n,k)=>if (k == NameKind.free&&env.scope.kind == .function&&env.kindOf n == some .cell) then (n,NameKind.cell) else (n,k)).lookup x=(l.lookup x).map (Hg env x)
 | [],_=>rfl
 | (n,k)::r,x=>by
  have ih:=Lp env r x;have e:(if (k == NameKind.free&&env.scope.kind == .function&&env.kindOf n == some .cell)=true then (n,NameKind.cell) else (n,k))=(n,Hg env n k):=by
   unfold Hg;split <;> rfl
  rw[QbJ];show List.lookup x ((if (k == NameKind.free&&env.scope.kind == .function&&env.kindOf n == some .cell)=true then (n,NameKind.cell) else (n,k))::_)=_
  rw[e,List.lookup_cons,List.lookup_cons];cases q:x == n with
  | true=>rw[eq_of_beq q];rfl
  | false=>exact ih
theorem Wm {env:Env} {n:Str} {k:NameKind} (h:Hg env n k=.cell\/Hg env n k=.free):k=.cell\/k=.free:=by
 unfold Hg at h;split at h
 ·rename_i q;simp only[Qba] at q;exact .inr (eq_of_beq q.1.1)
 ·exact h
theorem VH {prog:Program} {w:World} {A:Around} {R:Result->Shared->Prop} {s:Shared} {elt target iter:Expr} {ifs:YJ} {scope:Scope} {pos:Pos} {it acc:Value} {env:Env} (J:Nat->Shared->Prop)
  (turn:∀n s,J n s->wpAny (model prog w) A (pyNext it) (λr s1=>match r with
   | none=>R (.ok .next) s1
   | some v=>wpAny (model prog w) A (letOwnedTupleGo target it v) (λ_ s2=>wpAny (model prog w) A (assign target env v) (λ_ s3=>
     wpAny (model prog w) A (forIn ifs true λc r=>if r=true then do let ok <-isTrue c env (eval c env);pure (ForInStep.yield ok) else pure (ForInStep.yield r)) (λok s4=>
      if ok=true then wpAny (model prog w) A (eval elt env) (λx s5=>wpAny (model prog w) A (call (.builtin "list.append") [acc,x]) (λ_ s6=>∃m,m < n/\J m s6) (λ_ _=>False) s5) (λ_ _=>False) s4
      else ∃m,m < n/\J m s4) (λ_ _=>False) s3) (λ_ _=>False) s2) (λ_ _=>False) s1) (λ_ _=>False) s)
  (n:Nat) (h:J n s):codeAny (model prog w) A (.compLoop (.ListComp elt [⟨target,iter,ifs,0⟩] scope pos) 0 it acc env) R s:=by
 refine codeAny_loop rfl J (λk s' hk=>?_) n h;show wpAny _ A (Sem.onRaise (compTurn (.ListComp elt [⟨target,iter,ifs,0⟩] scope pos) 0 it acc env) (λx=>do noteFrame x env;theTreesLotGoes x)) _ _ s'
 refine wpAny_noted ?_;rw[compTurn_list];refine QbX (QbM (QbX (QbZ (turn k s' hk) (λr s1 q1=>?_) λ_ _ f=>f.elim)));cases r with
 | none=>exact QbY q1
 | some v=>
  refine QbX (QbZ q1 (λ_ s2 q2=>QbX (QbZ q2 (λ_ s3 q3=>QbX (QbZ q3 (λok s4 q4=>?_) λ_ _ f=>f.elim)) λ_ _ f=>f.elim)) λ_ _ f=>f.elim);cases ok with
  | false=>exact QbY ⟨rfl,q4⟩
  | true=>exact QbX (QbX (QbZ q4 (λx s5 q5=>QbX (QbZ q5 (λ_ s6 q6=>QbY (QbY ⟨rfl,q6⟩)) λ_ _ f=>f.elim)) λ_ _ f=>f.elim))
def cxC (X:Cx) (N':YF) (scope:Scope) (s3:Shared) (H3:Hp) (fp:List Addr) (pn:YC):Cx where
 prog:=X.prog
 w:=X.w
 K:=X.K
 mg:=X.mg
 base:=X.base
 A:=X.A
 N:=N'
 s₀:=s3
 H₀:=H3
 env:=compEnvC scope (CT X.env scope.names []) s3.heap.objs.size X.env
 outer:=X.stack
 stack:=X.stack
 ex:=fp
 fn:=λ_=>false
 calm:=X.calm
 pn:=pn
 xe:=λ_ _=>False
structure Bj (X:Cx) (N':YF) (src:List (Option Nat)) (sc:Scope):Prop where
 kind:sc.kind=.function
 FN:∀y∈sc.names,y.2≠.cell
 loc:∀y∈sc.names,y.2=.local->sc.names.lookup y.1=some .local
 fv:∀y∈sc.names,y.2=.free->X.env.kindOf y.1=some .cell\/X.env.kindOf y.1=some .free
 len:src.length=N'.length
 src:∀(i:Nat) (x:Str) (j:Nat),N'[i]?=some x->src[i]?=some (some j)->X.N[j]?=some x/\sc.names.lookup x=some .free
def GQ (src:List (Option Nat)) (Z : St):St:=src.map λo=>match o with | none=>none | some j=>(Z[j]?).join
def PF (X:Cx) (ifs:YJ) (t:TT):Prop:=
 ∀(jb:YC) (s:Shared) (Z : St) (H:Hp) (Q:Bool->Hp->Prop),Inv X jb Z H s->t Z H Q ->
  wpAny (model X.prog X.w) X.A (forIn ifs true λc r=>if r=true then do let ok <-isTrue c X.env (eval c X.env);pure (ForInStep.yield ok) else pure (ForInStep.yield r)) (TP X jb Z Q) X.xe s
theorem Et {X:Cx}:PF X [] (λ_ H Q=>Q true H):=λ_ _ _ H _ I h=>wpAny_tests_nil ⟨H,I,h⟩
theorem Ju {X:Cx} {c:Expr} {t:TT} (hc:PT X c t):PF X [c] t:=λjb s Z H Q I h=>wpAny_tests_one (hc jb s Z H Q I h)
theorem Un.ahead {fs ex:List Addr} {H H':Hp} {h h1 h':Heap} (u:Un fs ex H H' h h1) (k:∀b o,b < h.objs.size->h1.get? b=some o->h'.get? b=some o):Un fs ex H H' h h' where
 keep:=λb o e n hb hx=>k b o (QbO e) (u.keep b o e n hb hx)
 slot:=λb o e n hb hx=>by
  obtain⟨sl,q⟩:=u.slot b o e n hb hx;exact⟨sl,k b _ (QbO e) q⟩
 free:=u.free
 there:=λb o e hx=>by
  obtain⟨o',q⟩:=u.there b o e hx;exact⟨o',k b _ (QbO e) q⟩
 tups:=u.tups
 Em:=u.Em
 Fg:=u.Fg
section
variable {X:Cx} {N':YF} {src:List (Option Nat)} {sc:Scope} {jb:YC} {Z : St} {H:Hp} {s3:Shared} {fp:List Addr} {h1:Heap} {tk:Nat}
theorem Qc (S:Bj X N' src sc) (I:Inv X jb Z H s3) (hf:∀b∈fp,DR X jb H b) (ht:∀b∈fp,b < s3.heap.objs.size)
  (ns:h1.Ns s3.heap.objs.size λ_=>none) (kp:∀b o,s3.heap.get? b=some o->h1.get? b=some o) :
  Inv (cxC X N' sc s3 H fp (X.pn++jb)) [] (GQ src Z) H { s3 with heap:=h1,toks:=tk }:=by
 have hcl:∀x c,(CT X.env sc.names []).lookup x=some c->X.env.cells.lookup x=some c:=Qf sc.names [] λx c e=>by cases e
 have old:∀x c,(CT X.env sc.names []).lookup x=some c->∃o,s3.heap.get? c=some o:=λx c e=>by
  obtain⟨v,o,ho,_⟩:=I.cell x c (hcl x c e);exact⟨o,ho⟩
 have fvh:∀x,(x,NameKind.free)∈sc.names->∃c,X.env.cells.lookup x=some c:=λx hx=>I.ok.has x (S.fv _ hx rfl);have bJ:∀b,b≠X.env.locals->b∉X.fs->b∉frs X.stack:=λb h1 h2 hb=>(QbF.mp (I.La b hb)).elim h1 h2;have kindOf_eq:∀x,(compEnvC sc (CT X.env sc.names []) s3.heap.objs.size X.env).kindOf x=(sc.names.lookup x).map (Hg X.env x):=λx=>Lp X.env sc.names x;refine⟨⟨I.ok.mod,S.kind,I.ok.glob,I.ok.blt,QbV _,λx y c e1 e2=>I.ok.inj x y c (hcl x c e1) (hcl y c e2),λx hx=>?_,λx c hf=>absurd hf QaE,I.ok.hd,I.ok.frames,.inl rfl,λb hb=>?_,I.bs,QbR I.ok.bsz I.sz,
  λb o e hb=>?_,λb hb=>?_,I.stack,I.Ma⟩,rq,I.bare,Un.kept kp,⟨_,ns,λi x v e1 e2 e3=>?_⟩,λx c e=>?_,I.hok.fresh (QbV _),λx c e=>I.Dg x c (hcl x c e),λp hp=>?_,I.hok.kept kp,?_⟩
 ·
  have hx':(sc.names.lookup x).map (Hg X.env x)=some .cell\/(sc.names.lookup x).map (Hg X.env x)=some .free:=by
   rw[<-kindOf_eq x];exact hx
  cases q:sc.names.lookup x with
  | none=>rw[q] at hx';rcases hx' with z | z <;> cases z
  | some k=>
   rw[q] at hx';have hk:k=.cell\/k=.free:=Wm (env:=X.env) (n:=x) (hx'.imp (λz=>Qbp z) λz=>Qbp z);have hm:=QaC q;rcases hk with rfl | rfl
   ·exact absurd rfl (S.FN _ hm)
   ·exact K1 sc.names [] x (.inr ⟨hm,fvh x hm⟩)
 ·
  obtain⟨f0,f1,f2,f3,f4,f5⟩:=hf b hb;exact⟨QbP (ht b hb),λx c e=>f4 x c (hcl x c e)⟩
 ·
  obtain⟨f0,f1,f2,f3,f4,f5⟩:=hf b hb;rcases f3 with z | z
  ·exact I.ok.Hr b o e z
  ·exact absurd (QaH (QbO e) (QbR I.ok.bsz z)) (QbH _)
 ·
  obtain⟨f0,f1,f2,f3,f4,f5⟩:=hf b hb;exact bJ b f1 f2
 ·
  have e2':(GQ src Z)[i]?=some (some v):=e2;unfold GQ at e2';rw[QaV] at e2';cases q:src[i]? with
  | none=>rw[q] at e2';cases e2'
  | some oj=>
   rw[q] at e2';cases oj with
   | none=>cases e2'
   | some j=>
    have e4:(Z[j]?).join=some v:=Qbp e2';have e5:Z[j]?=some (some v):=by
     cases r:Z[j]? with
     | none=>rw[r] at e4;cases e4
     | some z=>rw[r] at e4;cases z with
      | none=>cases e4
      | some y=>cases e4;rfl
    obtain⟨hN,hfr⟩:=S.src i x j e1 q;have hm:=QaC hfr;have kx:=S.fv _ hm rfl;obtain⟨m,hn,hl⟩:=I.loc;obtain⟨u,r,l⟩:=hl j x v hN e5 (.inr kx);refine⟨u,r,?_⟩;rcases l with⟨k1,_⟩|⟨_,c,hc,hcell⟩
    ·rcases kx with z | z <;> (rw[z] at k1;cases k1)
    ·obtain⟨c',hc'⟩:=K1 (env:=X.env) sc.names [] x (.inr ⟨hm,c,hc⟩);have e6:c'=c:=by
      have:=hcl x c' hc';rw[hc] at this;exact (Qbp this).symm
     subst e6;refine .inr ⟨?_,c',hc',?_⟩
     ·have:(compEnvC sc (CT X.env sc.names []) s3.heap.objs.size X.env).kindOf x=some (Hg X.env x .free):=by rw[kindOf_eq x,hfr];rfl
      show (compEnvC sc (CT X.env sc.names []) s3.heap.objs.size X.env).kindOf x=some .cell\/(compEnvC sc (CT X.env sc.names []) s3.heap.objs.size X.env).kindOf x=some .free;rw[this];unfold Hg;split
      ·exact .inl rfl
      ·exact .inr rfl
     ·obtain⟨o,ho,hd⟩:=hcell;exact⟨o,kp _ o ho,hd⟩
 ·
  obtain⟨v,o,ho,hd⟩:=I.cell x c (hcl x c e);exact⟨v,o,kp _ o ho,hd⟩
 ·
  have hp':p∈X.pn++jb:=(Qbn.mp hp).elim id λz=>by cases z
  obtain⟨a1,a2,a3,a4,a5⟩:=I.pin p hp';exact⟨kp _ _ a1,a2,QbP (QbO a1),bJ p.1 a3 a4,a5⟩
 ·show (GQ src Z).length=N'.length;unfold GQ;rw[Qbl];exact S.len
theorem Qd {s1:Shared} {σ':St} {H':Hp} {h':Heap} (I:Inv X jb Z H s3) (hf:∀b∈fp,DR X jb H b) (I':Inv (cxC X N' sc s3 H fp (X.pn++jb)) [] σ' H' s1)
  (sb:Heap.SameBut s3.heap.objs.size s1.heap h'):Inv X jb Z H' { s1 with heap:=h' }:=by
 have fr:H' s3.heap.objs.size=none:=I'.free;refine I.call' (s':={ s1 with heap:=h' }) (ch:=fp) I'.os ?_ ?_ I'.bare λb hb=>?_
 ·exact Un.ahead (h:=s3.heap) (h1:=s1.heap) I'.base λb o hb e=>sb.extBut b o (QbP hb) e
 ·exact λb u e=>(I'.hok b u e).stay (λc v hc q=>sb.extBut c v (by
   intro z;rcases hc with y | y
   ·rw[<-y,z,fr] at e;cases e
   ·rw[z,fr] at y;cases y) q) (λ_ q=>q) λ_ _ q=>q
 ·obtain⟨f0,f1,f2,f3,f4,f5⟩:=hf b hb;exact⟨f3,f1,f4,λp hp=>f5 p hp⟩
end
@[irreducible] def Fd (J:It) (g:TG) (tt:TT) (te:TE) (Q:VK) (σ0:St) (H0:Hp) (l:Addr):Prop:=∃W:Nat->YN,(∃m,W 0 m σ0 H0) /\
 ∀i m σ' H',W i m σ' H'->(J.stop i H'/\Q (.ref l) H')\/(J.go i H'/\∃N:YO,(∀ σ3 H3,N σ3 H3->∃m',m' < m/\W (i+1) m' σ3 H3)/\∀x H2,J.yld i H' x H2->g x σ' H2 fun σ3 H3=>tt σ3 H3 λb H4=>
  if b=true then te σ3 H4 λy H5=>∃xs,H5 l=some (.lst xs)/\xs.length < sizeLine/\N σ3 (upd H5 l (.lst (xs++[y]))) else N σ3 H4)
def RM (wi:TI) (src:List (Option Nat)) (g:TG) (tt:TT) (te:TE):TE:=fun Z H Q=>wi Z H λJ H1=>∀l,H1 l=none->Fd J g tt te Q (GQ src Z) (upd H1 l (.lst [])) l
theorem MK {X:Cx} {N':YF} {src:List (Option Nat)} {sc:Scope} {elt tg iter:Expr} {ifs:YJ} {pos pos':Pos} {wi:TI} {g:TG} {tt:TT} {te:TE} {use:Option (Value->Sem Unit)} {R:YA} (hc:X.calm=true) (S:Bj X N' src sc)
  (hi:PI X tg iter wi) (hg:∀s3 H3 fp pn,PG (cxC X N' sc s3 H3 fp pn) tg g) (ht:∀s3 H3 fp pn,PF (cxC X N' sc s3 H3 fp pn) ifs tt) (he:∀s3 H3 fp pn,PE (cxC X N' sc s3 H3 fp pn) elt te)
  (hs:∀x,foldedSetIterable iter X.env x=pure x) {jb:YC} {s:Shared} {Z : St} {H:Hp} {Q:VK} (I:Inv X jb Z H s) (h:RM wi src g tt te Z H Q)
  (fin:∀s3 H3 fp σ4 H4 s5 l,Inv X jb Z H3 s3->(∀b∈fp,DR X jb H3 b)->Inv (cxC X N' sc s3 H3 fp (X.pn++jb)) [] σ4 H4 s5->Q (.ref l) H4 ->
   compPost (model X.prog X.w) X.A X.xe use R (.ref l) s3.heap.objs.size (.ok .next) s5) :
  wpAny (model X.prog X.w) X.A (comprehension (.ListComp elt [⟨tg,iter,ifs,0⟩] sc pos) sc X.env pos' (newList []) false (eval iter X.env) use) R X.xe s:=by
 refine wpAny_comprehension_free (use:=use) (cl:=CT X.env sc.names []) rfl hs (LQ λp hp e=>I.ok.has p.1 (S.fv p hp e)) S.kind S.loc ?_;refine thn (hi jb s Z H _ I h) λv s1 h1=>thn h1 λitv s2 h2=>?_;obtain⟨it,fp,tn,J,H2,rfl,I2,T,st2,f2,q⟩:=h2;have q':=q s2.heap.objs.size (I2.hok.fresh (QbV _));unfold Fd at q';obtain⟨W,⟨m0,w0⟩,turn⟩:=q';refine wpAny_newObj_type (wpAny_newFunctionEnv S.FN (by intro y hy;simp at hy) (λha hns hsb=>?_) S.kind);have I3:Inv X jb Z (upd H2 s2.heap.objs.size (.lst [])) { s2 with heap:=s2.heap.push { cls:=.type "list",dict:=none,data:=.seq ([]:YE).toArray } }:=
  I2.laid (t':=s2.toks) (λb u e=>Qak _ e) (QbV _) ⟨QbW _,[],0,.nil,QaA _ rfl⟩
 have hfl:∀b∈fp,b < s2.heap.objs.size:=λb hb=>by
  obtain⟨o,e,_⟩:=T.obj 0 _ st2 b hb;exact QbO e
 have f3:∀b∈fp,DR X jb (upd H2 s2.heap.objs.size (.lst [])) b:=λb hb=>⟨by rw[Aj (QbP (hfl b hb))];exact (f2 b hb).1,(f2 b hb).2⟩;generalize hs3:({ s2 with heap:=s2.heap.push { cls:=.type "list",dict:=none,data:=.seq ([]:YE).toArray } }:Shared)=s3 at *;have hsz:s2.heap.objs.size < s3.heap.objs.size:=by rw[<-hs3];show s2.heap.objs.size < (s2.heap.push _).objs.size;rw[QbD];exact Qbg _
 have kp:∀b o,s3.heap.get? b=some o->ha.get? b=some o:=λb o e=>hsb.extBut b o (QbP (QbO e)) (Qak _ e);have st3:tn 0 ha:=T.keep 0 _ _ st2 λb hb o e=>kp b o (by rw[<-hs3];exact Qak _ e);have I4:Inv (cxC X N' sc s3 (upd H2 s2.heap.objs.size (.lst [])) fp (X.pn++jb)) [] (GQ src Z) (upd H2 s2.heap.objs.size (.lst [])) { s3 with heap:=ha,toks:=s3.toks+([]:List (Str×Value)).length }:=
  Qc S I3 f3 (λb hb=>Nat.lt_trans (hfl b hb) hsz) hns kp
 have loop:codeAny (model X.prog X.w) X.A (.compLoop (.ListComp elt [⟨tg,iter,ifs,0⟩] sc pos) 0 (.ref it) (.ref s2.heap.objs.size) (compEnvC sc (CT X.env sc.names []) s3.heap.objs.size X.env))
   (compPost (model X.prog X.w) X.A X.xe use R (.ref s2.heap.objs.size) s3.heap.objs.size) { s3 with heap:=ha,toks:=s3.toks+([]:List (Str×Value)).length }:=by
  refine VH (λn s'=>∃i σ' H',Inv (cxC X N' sc s3 (upd H2 s2.heap.objs.size (.lst [])) fp (X.pn++jb)) [] σ' H' s'/\tn i s'.heap/\(∀b∈fp,H' b=none)/\W i n σ' H') ?_ m0 ⟨0,_,_,I4,st3,λb hb=>(f3 b hb).1,w0⟩;rintro n s4 ⟨i,σ4,H4,J4,st4,fr4,w4⟩;have stat:∀{H':Hp},(∀b∈fp,H' b=none)->∀b∈fp,DR (cxC X N' sc s3 (upd H2 s2.heap.objs.size (.lst [])) fp (X.pn++jb)) [] H' b:=λhn b hb=>
   ⟨hn b hb,(I4.ok.exf b hb).1,I4.ok.GF b hb,.inl hb,λx c e=>(I4.ok.exf b hb).2 x c e,λp hp=>(f3 b hb).2.2.2.2.2 p ((Qbn.mp hp).elim id λz=>by cases z)⟩
  rcases turn i n σ4 H4 w4 with⟨stop,qn⟩|⟨go,N,hN,step⟩
  ·refine thn (T.done (cxC X N' sc s3 (upd H2 s2.heap.objs.size (.lst [])) fp (X.pn++jb)) rfl rfl rfl hc i [] s4 σ4 H4 _ J4 (stat fr4) st4 stop) λr s5 zz=>?_;obtain⟨hr,J5⟩:=zz;subst hr;exact fin s3 _ fp σ4 H4 s5 _ I3 f3 J5 qn
  ·refine thn (T.item (cxC X N' sc s3 (upd H2 s2.heap.objs.size (.lst [])) fp (X.pn++jb)) rfl rfl rfl hc i [] s4 σ4 H4 _ J4 (stat fr4) st4 go) λr s5 zz=>?_;obtain⟨u,hr,h5⟩:=zz;subst hr;refine thn h5 λ_ s6 zz=>?_;obtain⟨x,H6,J6,r6,y6,st6,fr6⟩:=zz;have J6':=J6.pinned (stat fr6) (T.obj _ _ st6);have back:∀{pl:YC} {σ7:St} {H7:Hp} {s7:Shared},Inv (cxC X N' sc s3 (upd H2 s2.heap.objs.size (.lst [])) fp (X.pn++jb)) ([]++Hi fp s6.heap) σ7 H7 s7->N σ7 H7 ->
     ∃m',m' < n/\∃i σ' H',Inv (cxC X N' sc s3 (upd H2 s2.heap.objs.size (.lst [])) fp (X.pn++jb)) [] σ' H' s7/\tn i s7.heap/\(∀b∈fp,H' b=none)/\W i m' σ' H':=λ{pl σ7 H7 s7} J7 w7=>by
    obtain⟨m',hm,w7⟩:=hN _ _ w7;have pinned:∀b∈fp,∀o,s6.heap.get? b=some o->s7.heap.get? b=some o/\H7 b=none:=λb hb o e=>by
     have:=J7.pin (b,o) (Qap _ (Qap _ (Ep hb e)));exact⟨this.1,this.2.1⟩
    refine⟨m',hm,i+1,σ7,H7,J7.Fe,T.keep _ _ _ st6 λb hb o e=>(pinned b hb o e).1,λb hb=>?_,w7⟩;obtain⟨o,e,_⟩:=T.obj _ _ st6 b hb;exact (pinned b hb o e).2
   refine thn (hg s3 _ fp _ _ s6 σ4 H6 x u _ J6' r6 (step x H6 y6)) λ_ s7 zz=>?_;obtain⟨σ7,H7,J7,q7⟩:=zz;refine thn (ht s3 _ fp _ _ s7 σ7 H7 _ J7 q7) λok s8 zz=>?_;obtain⟨H8,J8,q8⟩:=zz;cases ok with
   | false=>
    rw[if_neg QaE] at q8 ⊢;exact back (pl:=[]) J8 q8
   | true=>
    rw[if_pos rfl] at q8 ⊢;refine thn (he s3 _ fp _ _ s8 σ7 H8 _ J8 q8) λy s9 zz=>?_;obtain⟨yv,H9,J9,r9,xs,hl9,hz9,q9⟩:=zz;refine thn (Dw _ s9 σ7 H9 (.ref s2.heap.objs.size) [yv] (.ref s2.heap.objs.size) [y] (λ_ H'=>N σ7 H') J9 rfl (.cons r9 .nil) ⟨_,xs,yv,rq,rq,hl9,hz9,q9⟩) λ_ s10 zz=>?_;obtain⟨_,H10,J10,_,q10⟩:=zz;exact back (pl:=[]) J10 q10
 exact codeAny_compStart_list loop (T.self X.A 0 _ _ _ st3 loop)
theorem CV {X:Cx} {N':YF} {src:List (Option Nat)} {sc:Scope} {elt tg iter:Expr} {ifs:YJ} {pos:Pos} {wi:TI} {g:TG} {tt:TT} {te:TE} (hc:X.calm=true) (S:Bj X N' src sc)
  (hi:PI X tg iter wi) (hg:∀s3 H3 fp pn,PG (cxC X N' sc s3 H3 fp pn) tg g) (ht:∀s3 H3 fp pn,PF (cxC X N' sc s3 H3 fp pn) ifs tt) (he:∀s3 H3 fp pn,PE (cxC X N' sc s3 H3 fp pn) elt te)
  (hs:∀x,foldedSetIterable iter X.env x=pure x:=by intro _;rfl):PE X (.ListComp elt [⟨tg,iter,ifs,0⟩] sc pos) (RM wi src g tt te):=by
 intro jb s Z H Q I h;rw[eval_ListComp];refine MK (use:=none) hc S hi hg ht he hs I h λs3 H3 fp σ4 H4 s5 l I3 f3 J5 q=>?_;obtain⟨m,hn,_⟩:=J5.loc;exact⟨m,hn,λh' sb=>⟨.ref l,H4,Qd I3 f3 J5 sb,rq,q⟩⟩
theorem Mg {X:Cx} {N':YF} {src:List (Option Nat)} {sc:Scope} {elt tg iter:Expr} {ifs:YJ} {pos spos px:Pos} {wi:TI} {g:TG} {tt:TT} {te:TE} {i:Nat} {x:Str} (hN:X.N.Nodup) (hi0:X.N[i]?=some x) (hx:Loc X.env.scope x) (hc:X.calm=true) (S:Bj X N' src sc)
  (hi:PI X tg iter wi) (hg:∀s3 H3 fp pn,PG (cxC X N' sc s3 H3 fp pn) tg g) (ht:∀s3 H3 fp pn,PF (cxC X N' sc s3 H3 fp pn) ifs tt) (he:∀s3 H3 fp pn,PE (cxC X N' sc s3 H3 fp pn) elt te)
  (hsw:swapsWith (.ListComp elt [⟨tg,iter,ifs,0⟩] sc pos) (some (.Name x px)) spos.line X.env=pure true:=by rfl) (hs:∀x,foldedSetIterable iter X.env x=pure x:=by intro _;rfl)
  (hf:X.fn x=true\/X.env.scope.names.lookup x=some .local:=by first | exact .inl rfl | exact .inr rfl | assumption) :
  PS X (.Assign [.Name x px] (.ListComp elt [⟨tg,iter,ifs,0⟩] sc pos) spos) (Wd (RM wi src g tt te) (HS i)):=by
 intro jb s Z H D I h;rw[exec_Assign_Name_used _ _ _ _ hsw];refine QbX (QbM (QbX ?_));show wpAny _ X.A (do let _ <-comprehension (.ListComp elt [⟨tg,iter,ifs,0⟩] sc pos) sc X.env _ (newList []) false (eval iter X.env) (some (assign (.Name x px) X.env))) _ _ s
 refine QbX (thn (MK (R:=λ_ s'=>SP X jb D .next s') hc S hi hg ht he hs I h λs3 H3 fp σ4 H4 s5 l I3 f3 J5 q=>?_) λ_ s' hq=>QbY (QbY hq));obtain⟨m,⟨oC,es,ep,hoC,r⟩,_⟩:=J5.loc;have I6:Inv X jb Z H4 { s5 with heap:=s5.heap }:=Qd I3 f3 J5 (Heap.SameBut.refl _ _);have hCn:H4 s3.heap.objs.size=none:=J5.free;have neL:s3.heap.objs.size≠X.env.locals:=Nat.ne_of_gt I3.lt;have kI:∀v,oC.data≠.cell v:=λv z=>by rw[r.1] at z;cases z
 have I7:Inv X (jb++[(s3.heap.objs.size,oC)]) Z H4 s5:=I6.Mh λp hp=>(Qbn.mp hp).elim (λz=>I6.pin p (Qap _ z)) λz=>by
  cases QaF.mp z;exact⟨hoC,hCn,neL,I3.cH (QbV _),kI⟩
 show wpAny _ X.A (assign (.Name x px) X.env (.ref l)) _ _ s5;refine wpAny_assign_Name (IK (v:=.ref l) I7 hN hi0 hx rfl (λs6 I8=>?_) hf);have k8:=(I8.pin (s3.heap.objs.size,oC) (Qap _ (Qap _ (QaF.mpr rfl)))).1;refine⟨m,⟨oC,es,ep,k8,r⟩,λh' sb=>⟨_,H4,?_,q⟩⟩;have I9:=I8.Fe;refine I9.turned (t':=s6.toks) (λb o hb e=>sb.extBut b o hb e) hCn neL (.inr I3.sz) (λy c e z=>?_) (λp hp z=>?_)
 ·obtain⟨v,o,ho,_⟩:=I3.cell y c e;exact absurd (QbO ho) (by rw[z];exact QbH _)
 ·have:=(I3.pin p hp).1;exact absurd (QbO this) (by rw[z];exact QbH _)
theorem Bj.of {X:Cx} {N':YF} {src:List (Option Nat)} {sc:Scope} (fsc:Scope) (N:YF) (hX:X.env.scope=fsc) (hN:X.N=N) (kind:sc.kind=.function) (FN:∀y∈sc.names,y.2≠.cell) (loc:∀y∈sc.names,y.2=.local->sc.names.lookup y.1=some .local)
  (fv:∀y∈sc.names,y.2=.free->fsc.names.lookup y.1=some .cell) (len:src.length=N'.length)
  (sr:((N'.zip src).all λp=>match p.2 with | none=>true | some j=>decide (N[j]?=some p.1)&&decide (sc.names.lookup p.1=some .free))=true):Bj X N' src sc where
 kind:=kind
 FN:=FN
 loc:=loc
 fv:=λy hy e=>.inl (by show X.env.scope.names.lookup y.1=some .cell;rw[hX];exact fv y hy e)
 len:=len
 src:=λi x j e1 e2=>by
  rw[List.all_eq_true] at sr;have hm:(x,some j)∈N'.zip src:=by
   refine Qat (i:=i) ?_;rw[List.getElem?_zip_eq_some];exact⟨e1,e2⟩
  have:=sr _ hm;simp only[Qba,decide_eq_true_eq] at this;rw[hN];exact this
section
variable {X:Cx}
@[irreducible] def Hh (K:YD):YG->Hp->VK->Prop:=λxs H Q=>∃x T t b,xs=[x,.ty T]/\Gh K H x t/\kitOne K t (.type T)=some b/\Q (.bl b) H
theorem Fi:Cq X (.builtin "isinstance") (Hh X.K):=by
 intro jb s Z H xs us Q I r h;unfold Hh at h;obtain⟨x,T,t,b,rfl,ty,e,q⟩:=h;obtain⟨u,w',rfl,rx,rt⟩:=vals2 r;cases rt;exact Vm I rx ty e λtk=>⟨.bl b,H,I.tok tk,rq,q⟩
theorem QS {K:YD}:kitOne K (.type "int") (.type "int")=some true:=by rfl
theorem Pk {K:YD}:kitOne K (.type "int") (.type "bool")=some false:=by rfl
theorem Pn {K:YD}:kitOne K (.type "bool") (.type "int")=some true:=by rfl
theorem Nh {K:YD}:kitOne K (.type "bool") (.type "bool")=some true:=by rfl
theorem Ph {K:YD}:kitOne K (.type "NoneType") (.type "int")=some false:=by rfl
theorem QM {K:YD}:kitOne K (.type "str") (.type "int")=some false:=by rfl
theorem Pj {K:YD}:kitOne K (.type "list") (.type "int")=some false:=by rfl
theorem Ng {K:YD}:kitOne K (.type "tuple") (.type "int")=some false:=by rfl
def Kn (H:Hp):V->Prop
 | .non=>True
 | .bl _=>True
 | .int _=>True
 | .str _=>True
 | .ref a=>(∃xs,H a=some (.lst xs))\/∃xs,H a=some (.tup xs)
 | _=>False
def isI:V->Bool
 | .int _=>true
 | .bl _=>true
 | _=>false
def isB:V->Bool
 | .bl _=>true
 | _=>false
def isW:V->Bool
 | .int _=>true
 | _=>false
theorem Rk {K:YD} {H:Hp} {x:V} {Q:VK} (k:Kn H x) (q:Q (.bl (isI x)) H):Hh K [x,.ty "int"] H Q:=by
 unfold Hh;cases x with
 | non=>exact⟨_,_,_,_,rfl,.non,Ph,q⟩
 | bl b=>exact⟨_,_,_,_,rfl,.bl b,Pn,q⟩
 | int i=>exact⟨_,_,_,_,rfl,.int i,QS,q⟩
 | str z=>exact⟨_,_,_,_,rfl,.str z,QM,q⟩
 | ref a=>
  rcases k with⟨xs,e⟩|⟨xs,e⟩
  ·exact⟨_,_,_,_,rq,.lst e,Pj,q⟩
  ·exact⟨_,_,_,_,rq,.tup e,Ng,q⟩
 | _=>exact k.elim
theorem Px {K:YD} {H:Hp} {x:V} {Q:VK} (k:isI x=true) (q:Q (.bl (isB x)) H):Hh K [x,.ty "bool"] H Q:=by
 unfold Hh;cases x with
 | bl b=>exact⟨_,_,_,_,rfl,.bl b,Nh,q⟩
 | int i=>exact⟨_,_,_,_,rfl,.int i,Pk,q⟩
 | _=>cases k
theorem Qo:∀{bs:List Bool} {us:YE},Vals (bs.map V.bl) us->LSm.BoolsAre us bs
 | [],_,.nil=>.nil
 | b::r,_,.cons h t=>by
  cases (show _=Value.bool b from h)
  exact .cons b (Qo t)
theorem Hu (hc:X.calm=true):Cq X (.builtin "all") (λxs H Q=>∃(p:Addr) (bs:List Bool),xs=[.ref p]/\SqL X.K H p (bs.map V.bl)/\Q (.bl (bs.all id)) H):=by
 intro jb s Z H xs us Q I r h;obtain⟨p,bs,rfl,hq,q⟩:=h;obtain⟨u,rfl,rx⟩:=vals1 r;cases rx;obtain⟨its,rv,pl,hz⟩:=I.list hq;have hb:=Qo rv;have hl:=pl.isList;have hlt:p < s.heap.objs.size:=by obtain⟨_,e,_⟩:=hl;exact QbO e
 refine call_all_walk (wpAny_pyIter_list hl ?_);refine⟨s.heap.objs.size,[s.heap.objs.size,p],[s.heap.objs.size],its.toArray.size,_,_,λi=>(bs[i]?).getD true,rq,Walks.list (A:=X.A.in1) (I.ok.hd hc) _ p (QbP hlt) its.toArray,
  ⟨⟨_,QaA _ rfl,rq,rq⟩,hl.push _⟩,λi v s' Q' E' hP hQ=>?_,λh' tk hk=>?_⟩
 ·obtain⟨b,e,rfl⟩:=hb.get i v (by simpa using hP);simp only[e,Option.getD_some] at hQ;exact QaW hQ
 ·have e:((List.range its.toArray.size).all λi=>(bs[i]?).getD true)=bs.all id:=by
   rw[QaT,hb.length];exact LSm.range_all bs
  rw[e];exact⟨.bl (bs.all id),H,I.kept (LSm.kept_iter hk),rq,q⟩
mutual
inductive Rep (H:Hp):V->PyData->Prop
 | non:Rep H .non .none
 | bl (b:Bool):Rep H (.bl b) (.bool b)
 | int (i:Int):Rep H (.int i) (.int i)
 | str (x:Str):Rep H (.str x) (.str x)
 | tup {a:Addr} {xs:YG} {ds:List PyData}:H a=some (.tup xs)->GK H xs ds->Rep H (.ref a) (.tuple ds)
 | lst {a:Addr} {xs:YG} {ds:List PyData}:H a=some (.lst xs)->GK H xs ds->Rep H (.ref a) (.list ds)
inductive GK (H:Hp):YG->List PyData->Prop
 | nil:GK H [] []
 | cons {x:V} {d:PyData} {xs:YG} {ds:List PyData}:Rep H x d->GK H xs ds->GK H (x::xs) (d::ds)
end
mutual
theorem Rep.reads {P:Program} {w:World} {H:Hp} {h:Heap} (ok:HOk P w H h):∀{v:V} {d:PyData} {u:Value},Rep H v d->RelV v u->∃as,Reads h u d as
 | _,_,_,.non,r=>by cases (show _=Value.none from r);exact⟨_,.none⟩
 | _,_,_,.bl b,r=>by cases (show _=Value.bool b from r);exact⟨_,.bool b⟩
 | _,_,_,.int i,r=>by obtain⟨t,rfl⟩:=(show ∃t,_=Value.int i t from r);exact⟨_,.int i t⟩
 | _,_,_,.str x,r=>by obtain⟨t,rfl⟩:=(show ∃t,_=Value.str x t from r);exact⟨_,.str x t⟩
 | _,_,_,.tup (a:=a) (xs:=xs) e q,r=>by
  cases (show _=Value.ref a from r)
  obtain⟨_,its,rv,o,ho,hc,n,hd⟩:=(show Bd P w H h a (.tup xs) from ok a _ e)
  obtain⟨as,z⟩:=GK.reads ok q rv;exact⟨_,.tuple ho hc hd (by simpa using z)⟩
 | _,_,_,.lst (a:=a) (xs:=xs) e q,r=>by
  cases (show _=Value.ref a from r)
  obtain⟨_,its,n,rv,ho⟩:=(show Bd P w H h a (.lst xs) from ok a _ e)
  obtain⟨as,z⟩:=GK.reads ok q rv;exact⟨_,.list ho rfl rfl (by simpa using z)⟩
theorem GK.reads {P:Program} {w:World} {H:Hp} {h:Heap} (ok:HOk P w H h):∀{xs:YG} {ds:List PyData} {us:YE},GK H xs ds->Vals xs us->∃as,ReadsAll h us ds as
 | _,_,_,.nil,.nil=>⟨_,.nil⟩
 | _,_,_,.cons p q,.cons r t=>by
  obtain⟨as,a1⟩:=Rep.reads ok p r;obtain⟨bs,b1⟩:=GK.reads ok q t;exact⟨_,.cons a1 b1⟩
end
theorem OJ (hu:X.A.units+64 < cLine):OpR X (compareOp .Eq) (λx y H Q=>∃d e,Rep H x d/\Rep H y e/\SeqAt.shaped d=true/\SeqAt.shaped e=true/\Q (.bl (PyData.eqv d e)) H):=by
 intro jb s Z H x y v u Q I rx ry h;obtain⟨d,e,p,p',sd,se,q⟩:=h;obtain⟨as,r1⟩:=p.reads I.hok rx;obtain⟨bs,r2⟩:=p'.reads I.hok ry;exact eq_dataH r1 r2 sd se hu ⟨.bl (PyData.eqv d e),H,I,rq,q⟩
theorem U6 (hu:X.A.units+64 < cLine):OpR X (compareOp .NotEq) (λx y H Q=>∃d e,Rep H x d/\Rep H y e/\SeqAt.shaped d=true/\SeqAt.shaped e=true/\Q (.bl (!PyData.eqv d e)) H):=by
 intro jb s Z H x y v u Q I rx ry h;obtain⟨d,e,p,p',sd,se,q⟩:=h;obtain⟨as,r1⟩:=p.reads I.hok rx;obtain⟨bs,r2⟩:=p'.reads I.hok ry;exact ne_dataH r1 r2 sd se hu ⟨.bl (!PyData.eqv d e),H,I,rq,q⟩
end
structure Code (K:YD) (mg:YB) (x:Str) (st:Stmt) (ps:YF):Prop where
 ex:∃(f:Addr) (fd:FuncData),Fun K x x st f fd/\mg x=some (.ref f)/\Binds K fd ps []
structure Good (P:Program) (w:World) (K:YD) (mg:YB) (base:Heap) (x:Str) (k:Nat) (ps:YF) (sp:Sp):Prop where
 ex:∃(f:Addr) (fd:FuncData),mg x=some (.ref f)/\keepIn K (.ref f)=true/\Binds K fd ps []/\Du P w K mg base CX0 k f fd ps sp
theorem Code.good {P:Program} {w:World} {K:YD} {mg:YB} {base:Heap} {x:Str} {st:Stmt} {ps N:YF} {k:Nat} {sp:Sp} (C:Code K mg x st ps) (S:Az N ps (Ad st)) (len:∀vs H Q E,sp vs H Q E->vs.length=ps.length)
  (hbody:∀(f:Addr) (cdv:Value) (A:Around) (outer:List Env) (s:Shared) (H:Hp) (vs:YG) (Q:VK) (E:XK),Bh k (A.deeper (envOfC x (Ad st) s.heap.objs.size f cdv))->sp vs H Q E ->
   ∃t,PSs (GJ CX0 P w K mg base N x (Ad st) f cdv A outer s H E).nox (Av st) t/\t { nx:=λ_ H'=>Q .non H',rt:=Q } (start N vs) H):Good P w K mg base x (k+1) ps sp:=by
 obtain⟨f,fd,F,m,b⟩:=C.ex;exact⟨f,fd,m,F.kp,b,F.ok S len λcdv A outer s H vs Q E hr h=>hbody f cdv A outer s H vs Q E hr h⟩
theorem Sh {X:Cx} {k k':Nat} {ps:YF} {sp:Sp} {x:Str} {p pos:Pos} {e:Expr} {es:YJ} {t:TA} (g:Good X.prog X.w X.K X.mg X.base x k ps sp) (hr:Bh k' X.A) (ha:PA X (e::es) t) (hk:k<=k':=by decide) (hg:Gl X x:=by rfl)
  (hdb:(x == ("__debug__":Str))=false:=by decide) (he:starEach (e::es) X.env=(false,eval e X.env)::starEach es X.env:=by rfl) (hpl:(backTo pos (starEach es X.env)).any (·.1)=false:=by rfl) :
  PE X (.Call (.Name x p) (e::es) [] pos) (RN sp [] E0 t):=by
 intro jb s Z H Q I h;obtain⟨f,fd,m,kp,b,F⟩:=g.ex;exact Z2 F (hr.mono hk) hg m kp b .nil Nu ha hdb he hpl jb s Z H Q I h
theorem Code.of {K:YD} {mg:YB} {h:Heap} {x:Str} {st:Stmt} {ps:YF} {f:Addr} {oc:Value} {od an:Option Addr} {osl:YI} {kV doc pm cdv ct:Value} (X:K.In h) (G:h.Ns mainGlobals mg)
  (a:nsIn K mainGlobals x=some (some (.ref f))) (l:K.lookup f=some ⟨oc,od,.func (fnOf x x (Ay st) (Av st) (Ad st) .none kV doc pm an cdv ct),osl⟩) (c:codeIn K cdv x=true) (k:keepIn K (.ref f)=true)
  (hb:∀(kV doc pm:Value) (an:Option Addr) (cdv ct:Value) (us:YE),us.length=ps.length->bindArgs (fnOf x x (Ay st) (Av st) (Ad st) .none kV doc pm an cdv ct) ⟨us,[]⟩=pure (ps.zip us)):Code K mg x st ps:=by
 have F:=El (st:=st) l c k;exact⟨f,_,F,mg_of X G a,F.binds hb⟩
theorem Ag {H:Hp} {p:Addr} (h:H p=none) (o:HO):Same H (upd H p o):=λb u q=>by rw[Aj (Aq q h)];exact q
theorem Bj.plain {X:Cx} {N':YF} {sc:Scope} (kind:sc.kind=.function) (FN:∀y∈sc.names,y.2≠.cell) (loc:∀y∈sc.names,y.2=.local->sc.names.lookup y.1=some .local) (O5:∀y∈sc.names,y.2≠.free) :
  Bj X N' (N'.map λ_=>none) sc where
 kind:=kind
 FN:=FN
 loc:=loc
 fv:=λy hy e=>absurd e (O5 y hy)
 len:=by simp
 src:=λi x j _ e=>by
  rw[QaV] at e;cases q:N'[i]? with
  | none=>rw[q] at e;cases e
  | some z=>rw[q] at e;cases e
theorem nA {K:YD} {a l:Addr} {xs:YG} {g:TG} {tt:TT} {te:TE} {Q:VK} {σ0:St} {H0:Hp} (Pv:YN)
  (h0:Pv 0 σ0 H0) (hl:∀i Z H',i<=xs.length->Pv i Z H'->SqT K H' a xs)
  (hs:∀i x Z H',xs[i]?=some x->Pv i Z H'->g x Z H' fun σ3 H3=>tt σ3 H3 λb H4=>if b=true then te σ3 H4 λy H5=>∃ys,H5 l=some (.lst ys)/\ys.length < sizeLine/\Pv (i+1) σ3 (upd H5 l (.lst (ys++[y]))) else Pv (i+1) σ3 H4)
  (hd:∀ Z H',Pv xs.length Z H'->Q (.ref l) H'):Fd (Itt K a) g tt te Q σ0 H0 l:=by
 unfold Fd;refine⟨λi m Z H'=>m=xs.length - i/\i<=xs.length/\Pv i Z H',⟨xs.length,by simp,QbW _,h0⟩,?_⟩;rintro i m Z H' ⟨rfl,hi,p⟩;have q:=hl i Z H' hi p;by_cases hlt:i < xs.length
 ·refine .inr ⟨⟨xs,xs[i],q,by simp[hlt]⟩,Pv (i+1),fun σ3 H3 p'=>⟨xs.length - (i+1),by omega,rq,hlt,p'⟩,λx H2 y=>?_⟩;obtain⟨e,y⟩:=y;subst e;exact hs i x Z _ (y xs q) p
 ·have e:i=xs.length:=by omega
  subst e;exact .inl ⟨⟨xs,q,QbV _⟩,hd Z H' p⟩
theorem Di {K:YD} {a l:Addr} {xs:YG} {g:TG} {tt:TT} {te:TE} {Q:VK} {σ0:St} {H0:Hp} (Pv:YN)
  (h0:Pv 0 σ0 H0) (hl:∀i Z H',i<=xs.length->Pv i Z H'->SqL K H' a xs)
  (hs:∀i x Z H',xs[i]?=some x->Pv i Z H'->g x Z H' fun σ3 H3=>tt σ3 H3 λb H4=>if b=true then te σ3 H4 λy H5=>∃ys,H5 l=some (.lst ys)/\ys.length < sizeLine/\Pv (i+1) σ3 (upd H5 l (.lst (ys++[y]))) else Pv (i+1) σ3 H4)
  (hd:∀ Z H',Pv xs.length Z H'->Q (.ref l) H'):Fd (Itl K a) g tt te Q σ0 H0 l:=by
 unfold Fd;refine⟨λi m Z H'=>m=xs.length - i/\i<=xs.length/\Pv i Z H',⟨xs.length,by simp,QbW _,h0⟩,?_⟩;rintro i m Z H' ⟨rfl,hi,p⟩;have q:=hl i Z H' hi p;by_cases hlt:i < xs.length
 ·refine .inr ⟨⟨xs,xs[i],q,by simp[hlt]⟩,Pv (i+1),fun σ3 H3 p'=>⟨xs.length - (i+1),by omega,rq,hlt,p'⟩,λx H2 y=>?_⟩;obtain⟨e,y⟩:=y;subst e;exact hs i x Z _ (y xs q) p
 ·have e:i=xs.length:=by omega
  subst e;exact .inl ⟨⟨xs,q,QbV _⟩,hd Z H' p⟩
theorem G4 {lo:Int} {n:Nat} {l:Addr} {g:TG} {tt:TT} {te:TE} {Q:VK} {σ0:St} {H0:Hp} (Pv:YN) (h0:Pv 0 σ0 H0)
  (hs:∀i Z H',i < n->Pv i Z H'->g (.int (lo+i)) Z H' fun σ3 H3=>tt σ3 H3 λb H4=>if b=true then te σ3 H4 λy H5=>∃ys,H5 l=some (.lst ys)/\ys.length < sizeLine/\Pv (i+1) σ3 (upd H5 l (.lst (ys++[y]))) else Pv (i+1) σ3 H4)
  (hd:∀ Z H',Pv n Z H'->Q (.ref l) H'):Fd (Itr lo n) g tt te Q σ0 H0 l:=by
 unfold Fd;refine⟨λi m Z H'=>m=n - i/\i<=n/\Pv i Z H',⟨n,by simp,QbW _,h0⟩,?_⟩;rintro i m Z H' ⟨rfl,hi,p⟩;by_cases hlt:i < n
 ·refine .inr ⟨hlt,Pv (i+1),fun σ3 H3 p'=>⟨n - (i+1),by omega,rq,hlt,p'⟩,λx H2 y=>?_⟩;obtain⟨e,y⟩:=y;subst e y;exact hs i Z _ hlt p
 ·have e:i=n:=by omega
  subst e;exact .inl ⟨QbV _,hd Z H' p⟩
section
variable {X:Cx}
theorem Vp:∀{us:YE} {ns:List Int},IntsAre us ns->Vals (ns.map V.int) us:=λh=>Jp h
theorem Qk:Cq X (.builtin "sorted") (λxs H Q=>∃(p:Addr) (ns:List Int),xs=[.ref p]/\SqL X.K H p (ns.map V.int)/\ns.length < 64 /\
  ∀(ms:List Int) l,ms.Perm ns->ms.Pairwise (·<=·)->H l=none->Q (.ref l) (upd H l (.lst (ms.map V.int)))):=by
 intro jb s Z H xs us Q I r h;obtain⟨p,ns,rfl,hq,h64,q⟩:=h;obtain⟨u,rfl,rx⟩:=vals1 r;cases rx;obtain⟨its,rv,pl,hz⟩:=I.list hq;have hi:IntsAre its ns:=intsAre_of rv;have hlen:=hi.length;refine sorted_ints pl.isList hi (by omega) λout ms a1 a2 a3=>?_;obtain⟨e,he⟩:=sortedAll_at s.heap its out;have hml:=a2.length_eq;refine⟨.ref (s.heap.objs.size+1),_,I.laid (t':=s.toks) (o:=.lst (ms.map V.int)) (λb o q=>sortedAll_old q) (Nat.le_succ _) ?_,rq,q ms _ a2 a3 (I.hok.fresh (Nat.le_succ _))⟩;exact⟨by rw[Qbl];exact QbS (Am (by omega)),out.toList,e,Vp a1,he⟩
def Its (z:Str):It:=⟨λi _=>i < z.cps.size,λi H x H'=>H'=H/\∃c,z.cps[i]?=some c/\x=.str ⟨#[c]⟩,λi _=>i=z.cps.size⟩
def lN (tl:TE):TI:=fun Z H R=>tl Z H λx H1=>∃z,x=.str z/\R (Its z) H1
end
section
variable {X:Cx} {tg:Expr}
theorem N6 {P:Program} {w:World} {K:YD} {tg:Expr} (z:Str) (t:Tok) (it:Addr) (ty:String) (hty:["enumerate","zip","dict_itemiterator","dict_reverseitemiterator","odict_iterator","itertools.zip_longest","itertools.pairwise"].contains ty=false)
  (W:∀A':Around,A'.handled=none->Walks P w A' it [it] [it] z.cps.size (SignAt z) (λi h=>h.IsStrIter it ty z t i))
  (hself:∀(A:Around) (i:Nat) (s:Shared) (Q:YA) (E:YA),s.heap.IsStrIter it ty z t i->Q (.ref it) s->wpAny (model P w) A (pyIter (.ref it)) Q E s) :
  Turn P w K tg (Its z) [it] it (λi h=>h.IsStrIter it ty z t i) where
 mem:=QaF.mpr rfl
 obj:=λi h st b hb=>by
  cases QaF.mp hb;obtain⟨o,e,c,d⟩:=st;exact⟨o,e,λv z'=>by rw[d] at z';cases z'⟩
 keep:=λi h h' st k=>by
  obtain⟨o,e,r⟩:=st;exact⟨o,k it (QaF.mpr rfl) o e,r⟩
 item:=by
  intro X hP hw hK hc i jb s Z H E I hf st hg;subst hP hw hK;obtain⟨f0,f1,f2,f3,f4,f5⟩:=hf it (QaF.mpr rfl);refine (W X.A (I.ok.hd hc)).item i s _ _ hg st λv h' tk hv st' kk=>?_;obtain⟨c,u,hcu,rfl⟩:=hv;have I1:Inv X jb Z H { s with heap:=h',toks:=tk }:=I.turned (λb o hb e=>kk b o (λhm=>hb (QaF.mp hm)) e) f0 f1 f3 f4 f5;obtain⟨o,e,cl,d⟩:=id st';exact⟨_,rq,TF (s:={ s with heap:=h',toks:=tk }) e cl d hty ⟨.str ⟨#[c]⟩,H,I1,⟨u,rq⟩,⟨rq,c,hcu,rq⟩,st',λb hb=>(hf b hb).1⟩⟩
 done:=by
  intro X hP hw hK hc i jb s Z H E I hf st hg;subst hP hw hK;obtain⟨f0,f1,f2,f3,f4,f5⟩:=hf it (QaF.mpr rfl);cases (show i=z.cps.size from hg)
  exact (W X.A (I.ok.hd hc)).done s _ _ st λh' tk kk=>⟨rq,I.turned (λb o hb e=>kk b o (λhm=>hb (QaF.mp hm)) e) f0 f1 f3 f4 f5⟩
 self:=λA i s Q E st h=>hself A i s Q E st h
theorem bZ {l:Expr} {tl:TE} (hl:PE X l tl):PI X tg l (lN tl):=by
 intro jb s Z H R I h;refine thn (hl jb s Z H _ I h) λv s1 zz=>?_;obtain⟨x,H1,I1,r1,z,e,q⟩:=zz;subst e;obtain⟨t,rfl⟩:=r1;have fp:∀o:Obj,∀b∈[s1.heap.objs.size],DR X jb H1 b:=λo b hb=>by
  cases QaF.mp hb;exact I1.TX (QbV _) (I1.hok.fresh (QbV _))
 cases ha:z.cps.all (· < 128) with
 | true=>
  refine wpAny_pyIter_ascii ha ?_;exact⟨s1.heap.objs.size,[s1.heap.objs.size],_,_,H1,rq,I1.kept (t':=s1.toks) λb o e=>Qak _ e,N6 z t _ "str_ascii_iterator" (by decide) (λA' hA=>Walks.strAscii hA _ z t) (λ_ _ _ _ _ st h=>wpAny_pyIter_striter_ascii st h),
   ⟨_,QaA _ rfl,rq,rq⟩,fp { cls:=.none,data:=.fields #[] },q⟩
 | false=>
  refine wpAny_pyIter_wide ha ?_;exact⟨s1.heap.objs.size,[s1.heap.objs.size],_,_,H1,rq,I1.kept (t':=s1.toks) λb o e=>Qak _ e,N6 z t _ "str_iterator" (by decide) (λA' hA=>Walks.strWide hA _ z t) (λ_ _ _ _ _ st h=>wpAny_pyIter_striter_wide st h),
   ⟨_,QaA _ rfl,rq,rq⟩,fp { cls:=.none,data:=.fields #[] },q⟩
theorem YW {z:Str} {l:Addr} {g:TG} {tt:TT} {te:TE} {Q:VK} {σ0:St} {H0:Hp} (Pv:YN) (h0:Pv 0 σ0 H0)
  (hs:∀i c Z H',z.cps[i]?=some c->Pv i Z H'->g (.str ⟨#[c]⟩) Z H' fun σ3 H3=>tt σ3 H3 λb H4=>if b=true then te σ3 H4 λy H5=>∃ys,H5 l=some (.lst ys)/\ys.length < sizeLine/\Pv (i+1) σ3 (upd H5 l (.lst (ys++[y]))) else Pv (i+1) σ3 H4)
  (hd:∀ Z H',Pv z.cps.size Z H'->Q (.ref l) H'):Fd (Its z) g tt te Q σ0 H0 l:=by
 unfold Fd;refine⟨λi m Z H'=>m=z.cps.size - i/\i<=z.cps.size/\Pv i Z H',⟨z.cps.size,by simp,QbW _,h0⟩,?_⟩;rintro i m Z H' ⟨rfl,hi,p⟩;by_cases hlt:i < z.cps.size
 ·refine .inr ⟨hlt,Pv (i+1),fun σ3 H3 p'=>⟨z.cps.size - (i+1),by omega,rq,hlt,p'⟩,λx H2 y=>?_⟩;obtain⟨e,c,hc,rfl⟩:=y;subst e;exact hs i c Z _ hc p
 ·have e:i=z.cps.size:=by omega
  subst e;exact .inl ⟨rq,hd Z H' p⟩
end
end L2
namespace HT
open PySem PyProof.Rows
section
variable {prog:Program} {w:World} {A:Around} {E:YA} {s:Shared}
end
end HT
namespace L2
open PySem PySem.Spec PyProof.Rows
section
variable {X:Cx}
end
structure Ck (K:YD) (C:Addr) (m qn:Str) (st:Stmt) (ps:YF):Prop where
 ex:∃(f:Addr) (fd:FuncData),Fun K m qn st f fd/\Meth K C m f/\Binds K fd ps []
structure Fb (P:Program) (w:World) (K:YD) (mg:YB) (base:Heap) (C:Addr) (m:Str) (k:Nat) (ps:YF) (sp:Sp):Prop where
 ex:∃(f:Addr) (fd:FuncData),Meth K C m f/\Binds K fd ps []/\Du P w K mg base CX0 k f fd ps sp
structure Ud (P:Program) (w:World) (K:YD) (mg:YB) (base:Heap) (C:Addr) (k:Nat) (ps:YF) (sp:Sp):Prop where
 ex:∃(f:Addr) (fd:FuncData),Mk K C f/\Binds K fd ps []/\Du P w K mg base CX0 k f fd ps sp
theorem Ck.good {P:Program} {w:World} {K:YD} {mg:YB} {base:Heap} {C:Addr} {m qn:Str} {st:Stmt} {ps N:YF} {k:Nat} {sp:Sp} (c:Ck K C m qn st ps) (S:Az N ps (Ad st)) (len:∀vs H Q E,sp vs H Q E->vs.length=ps.length)
  (hbody:∀(f:Addr) (cdv:Value) (A:Around) (outer:List Env) (s:Shared) (H:Hp) (vs:YG) (Q:VK) (E:XK),Bh k (A.deeper (envOfC qn (Ad st) s.heap.objs.size f cdv))->sp vs H Q E ->
   ∃t,PSs (GJ CX0 P w K mg base N qn (Ad st) f cdv A outer s H E).nox (Av st) t/\t { nx:=λ_ H'=>Q .non H',rt:=Q } (start N vs) H):Fb P w K mg base C m (k+1) ps sp:=by
 obtain⟨f,fd,F,M,b⟩:=c.ex;exact⟨f,fd,M,b,F.ok S len λcdv A outer s H vs Q E hr h=>hbody f cdv A outer s H vs Q E hr h⟩
theorem oK {X:Cx} {pl:Sem Bool} {k k':Nat} {C:Addr} {ps:YF} {sp:Sp} {m:Str} {apos pos:Pos} {o e:Expr} {es:YJ} {ta:TE} {t:TA} (he:PE X o ta) (c:Cls X.K C) (g:Fb X.prog X.w X.K X.mg X.base C m k ps sp) (hr:Bh k' X.A) (ha:PA X (e::es) t) (hk:k<=k':=by decide)
  (hst:starEach (e::es) X.env=(false,eval e X.env)::starEach es X.env:=by rfl) (hpl:(backTo pos (starEach es X.env)).any (·.1)=false:=by rfl)
  (ht:eval (.Call (.Attribute o m apos) (e::es) [] pos) X.env=(do
   let ov <-eval o X.env
   standAt apos.atName
   let (f,first) <-holding [ov] (getMethod ov m pl)
   callWith pos f first (backTo pos (starEach (e::es) X.env)) (backToKw pos (keywordEach [] X.env))):=by rfl) :
  PE X (.Call (.Attribute o m apos) (e::es) [] pos) (Nr C m sp [] E0 ta t):=by
 intro jb s Z H Q I h;obtain⟨f,fd,M,b,F⟩:=g.ex;exact ZW (pl:=pl) he c M F (hr.mono hk) b .nil Nu ha hst hpl ht jb s Z H Q I h
theorem bV {X:Cx} {pl:Sem Bool} {k k':Nat} {C:Addr} {ps:YF} {sp:Sp} {m:Str} {apos pos:Pos} {o:Expr} {ta:TE} (he:PE X o ta) (c:Cls X.K C) (g:Fb X.prog X.w X.K X.mg X.base C m k ps sp) (hr:Bh k' X.A) (hk:k<=k':=by decide)
  (ht:eval (.Call (.Attribute o m apos) [] [] pos) X.env=(do
   let ov <-eval o X.env
   standAt apos.atName
   let (f,first) <-holding [ov] (getMethod ov m pl)
   callWith pos f first (backTo pos (starEach [] X.env)) (backToKw pos (keywordEach [] X.env))):=by rfl) :
  PE X (.Call (.Attribute o m apos) [] [] pos) (Nr C m sp [] E0 ta Kp):=by
 intro jb s Z H Q I h;obtain⟨f,fd,M,b,F⟩:=g.ex;exact Wu (pl:=pl) he c M F (hr.mono hk) b .nil Nu ht jb s Z H Q I h
theorem Zi {X:Cx} {k k':Nat} {C:Addr} {ps:YF} {sp:Sp} {x:Str} {p pos:Pos} {e:Expr} {es:YJ} {t:TA} (g:Ud X.prog X.w X.K X.mg X.base C k ps sp) (hr:Bh k' X.A) (hm:X.mg x=some (.ref C)) (ha:PA X (e::es) t) (hk:k+1<=k':=by decide) (hg:Gl X x:=by rfl)
  (hdb:(x == ("__debug__":Str))=false:=by decide) (he:starEach (e::es) X.env=(false,eval e X.env)::starEach es X.env:=by rfl) (hpl:(backTo pos (starEach es X.env)).any (·.1)=false:=by rfl) :
  PE X (.Call (.Name x p) (e::es) [] pos) (Zg C sp [] E0 t):=by
 intro jb s Z H Q I h;obtain⟨f,fd,M,b,F⟩:=g.ex;exact Z0 M F (hr.mono hk) hg hm b .nil Nu ha hdb he hpl jb s Z H Q I h
theorem U3 {X:Cx} {x:Str} {v:V} {pos:Pos} (hg:Gl X x) (hm:∃u,X.mg x=some u/\RelV v u) (hd:(x == ("__debug__":Str))=false:=by decide):PE X (.Name x pos) (tC v):=by
 obtain⟨u,h,r⟩:=hm;exact Ci hg h r hd
theorem LK:∀{fs:List (Str×V)} {i:Nat} {f:Str} {v:V},(fs.map (·.1)).Nodup->fs[i]?=some (f,v)->fs.lookup f=some v
 | [],_,_,_,_,h=>by simp at h
 | (g,u)::fs,0,f,v,_,h=>by simp at h;obtain⟨rfl,rfl⟩:=h;simp[List.lookup]
 | (g,u)::fs,i+1,f,v,hn,h=>by
  rw[QbJ,Qbx] at hn;have h':fs[i]?=some (f,v):=by simpa using h
  have hm:f∈fs.map (·.1):=QbQ.mpr ⟨(f,v),Qat h',rq⟩;have hne:(f == g)=false:=QaB.mpr λe=>hn.1 (e ▸ hm);rw[List.lookup,hne];exact LK hn.2 h'
theorem Zy:∀{fs:List (Str×V)} {m:Str},m∉fs.map (·.1)->fs.lookup m=none
 | [],_,_=>rfl
 | (g,u)::fs,m,h=>by
  rw[QbJ,QbF] at h;have hne:(m == g)=false:=QaB.mpr λe=>h (.inl e);rw[List.lookup,hne];exact Zy λz=>h (.inr z)
theorem Vy {y:V}:∀{fs:List (Str×V)} {i:Nat} {f:Str} {v:V},(fs.map (·.1)).Nodup->fs[i]?=some (f,v)->Dl f y fs=fs.set i (f,y)
 | [],_,_,_,_,h=>by simp at h
 | (g,u)::fs,0,f,v,_,h=>by
  simp at h;obtain⟨rfl,rfl⟩:=h;show (if g=g then (g,y)::fs else (g,u)::Dl g y fs)=_
  rw[if_pos rfl];rfl
 | (g,u)::fs,i+1,f,v,hn,h=>by
  rw[QbJ,Qbx] at hn;have h':fs[i]?=some (f,v):=by simpa using h
  have hm:f∈fs.map (·.1):=QbQ.mpr ⟨(f,v),Qat h',rq⟩;have hne:¬g=f:=λe=>hn.1 (by rw[show (g,u).fst=g from rfl,e];exact hm)
  show (if g=f then (g,y)::fs else (g,u)::Dl f y fs)=_
  rw[if_neg hne,Vy hn.2 h'];rfl
theorem LC {y:V}:∀{fs:List (Str×V)} {f:Str},f∉fs.map (·.1)->Dl f y fs=fs++[(f,y)]
 | [],_,_=>rfl
 | (g,u)::fs,f,h=>by
  rw[QbJ,QbF] at h;show (if g=f then (g,y)::fs else (g,u)::Dl f y fs)=_
  rw[if_neg λe=>h (.inl e.symm),LC λz=>h (.inr z)];rfl
def Bq (H H':Hp):Prop:=∀c xs,H c=some (.tup xs)->H' c=some (.tup xs)
theorem Bq.refl (H:Hp):Bq H H:=λ_ _ e=>e
theorem Bq.trans {H H1 H2:Hp} (a:Bq H H1) (b:Bq H1 H2):Bq H H2:=λc xs e=>b c xs (a c xs e)
theorem Bq.of {H H1:Hp} (s:Same H H1):Bq H H1:=λc xs e=>s c _ e
theorem Bq.upd {H:Hp} {b:Addr} {o:HO} (h:∀xs,H b≠some (.tup xs)):Bq H (upd H b o):=λc xs e=>by
 have n:c≠b:=λz=>h xs (z ▸ e);rw[Aj n];exact e
def Ah (b:Addr) (H H':Hp):Prop:=∀c o,H c=some o->c≠b->H' c=some o
theorem Ah.trans {b:Addr} {H H1 H2:Hp} (x:Ah b H H1) (y:Ah b H1 H2):Ah b H H2:=λc o e n=>y c o (x c o e n) n
theorem Ah.of {b:Addr} {H H1:Hp} (x:Same H H1):Ah b H H1:=λc o e _=>x c o e
theorem Ah.upd {b:Addr} {H:Hp} {o:HO}:Ah b H (upd H b o):=λc u e n=>by rw[Aj n];exact e
theorem Ah.tup {b:Addr} {H H':Hp} (x:Ah b H H') (h:∀xs,H b≠some (.tup xs)):Bq H H':=λc xs e=>x c _ e λz=>h xs (z ▸ e)
theorem Ah.free {b:Addr} {H H':Hp} (x:Ah b H H') (hb:∃o,H' b=some o) {l:Addr} (h:H' l=none):H l=none:=by
 cases e:H l with
 | none=>rfl
 | some o=>
  by_cases n:l=b
  ·obtain⟨o',e'⟩:=hb;rw[n,e'] at h;cases h
  ·rw[x l o e n] at h;cases h
def fX (K:YD) (ta tv:TE) (f:Str):TS:=λD Z H=>tv Z H λy H1=>ta Z H1 λx H2=>∃a C dx fs fs',x=.ref a/\H2 a=some (.ins C dx fs)/\Cls K C/\FZ K C f/\fs.length < 1000/\Dl f y fs=fs' /\
 ∀H',H' a=some (.ins C dx fs')->Ah a H2 H'->D.nx Z H'
section
variable {X:Cx} {o e value:Expr} {f:Str} {pos pos' tpos:Pos} {ta tv:TE}
theorem JZ (ha:PE X o ta) (hv:PE X value tv) (hs:swapsWith value (some (.Attribute o f pos')) pos.line X.env=pure false):PS X (.Assign [.Attribute o f pos'] value pos) (fX X.K ta tv f):=by
 intro jb s Z H D I h;refine plainObj_wpAny_Assign_Attribute (thn (hv jb s Z H _ I h) λu s1 zz=>?_) hs;obtain⟨y,H1,I1,ry,q⟩:=zz;refine thn (ha jb s1 Z H1 _ I1 q) λov s2 zz=>?_;obtain⟨x,H2,I2,rx,a,C,dx,fs,fs',ex,ea,c,n,l,ep,q2⟩:=zz;subst ex;obtain rfl:ov=Value.ref a:=rx;refine RV I2 ea c n l ry λs3 I3=>⟨Z,_,I3,q2 _ ?_ Ah.upd⟩;rw[Ab,ep]
end
section
variable {X:Cx} {K:YD}
theorem Rh (h:X.K=K):IxR X (bO K):=h ▸ Lq
theorem Yo (h:X.K=K):IxR X (bQ K):=h ▸ Bk
theorem Lk (h:X.K=K):OpR X (compareOp .In) (rIn K false):=h ▸ U8
theorem Jm (h:X.K=K):OpR X (compareOp .NotIn) (rIn K true):=h ▸ Oz
theorem Z1 {e:Expr} {f:Str} {pos:Pos} {ta:TE} (h:X.K=K) (he:PE X e ta) (hb:attributeBase e f X.env (eval e X.env)=eval e X.env):PE X (.Attribute e f pos) (bH K ta f):=h ▸ Ek he hb
end
end L2
namespace PySem
open Sem (wp)
section
variable {prog:Program} {w:World} {A:Around} {E:YA} {s:Shared}
end
end PySem
namespace L2
open PySem PySem.Spec PyProof.Rows
section
variable {X:Cx} {pos:Pos}
theorem RG {i:Int} {n:Nat} {acc:Array Value} (h:ItemsOf (λk v=>∃t,v=.int (i+k*1) t) acc n):Vals ((List.range n).map λk:Nat=>V.int (i+k)) acc.toList:=by
 have key:∀(us:YE) (m:Nat),(∀k v,us[k]?=some v->∃t,v=Value.int (i+((m+k:Nat):Int)) t)->Vals ((List.range' m us.length).map λk:Nat=>V.int (i+k)) us:=by
  intro us
  induction us with
  | nil=>intro m _;exact .nil
  | cons u r ih=>
   intro m hu;rw[Qbf,List.range'_succ,QbJ];refine .cons (hu 0 u rfl) (ih (m+1) λk v hv=>?_);have:=hu (k+1) v (by simpa using hv);rw[show m+1+k=m+(k+1) by omega];exact this
 have e:acc.toList.length=n:=by rw[Array.length_toList];exact h.1
 rw[List.range_eq_range',<-e];refine key acc.toList 0 λk v hv=>?_;obtain⟨t,rfl⟩:=h.2 k v (by simpa using hv);exact⟨t,by rw[Int.mul_one,Nat.zero_add]⟩
end
structure Has (H:Hp) (l:List (Addr×HO)):Prop where
 nd:(l.map (·.1)).Nodup
 at_:∀x∈l,H x.1=some x.2
theorem Has.gk {H:Hp} {l:List (Addr×HO)} {a:Addr} (h:Has H l) (e:H a=none):a∉l.map (·.1):=λz=>by
 obtain⟨x,hx,rfl⟩:=QbQ.mp z;rw[h.at_ x hx] at e;cases e
theorem map_set {l:List (Addr×HO)} {i:Nat} {a:Addr} {o:HO}:(l.set i (a,o)).map (·.1)=(l.map (·.1)).set i a:=by rw[QbU]
theorem Has.new {H H':Hp} {l:List (Addr×HO)} {a:Addr} {o:HO} (h:Has H l) (n:H a=none) (s:Same H H') (e:H' a=some o):Has H' (l++[(a,o)]):=by
 refine⟨?_,λx hx=>?_⟩
 ·rw[Qbo,List.nodup_append];refine⟨h.nd,by simp,λx hx y hy z=>?_⟩;have:y=a:=by simpa using hy
  subst this;exact h.gk n (z ▸ hx)
 ·rcases Qbn.mp hx with z | z
  ·exact s _ _ (h.at_ x z)
  ·have:x=(a,o):=by simpa using z
   subst this;exact e
theorem Has.nil (H:Hp):Has H []:=⟨List.nodup_nil,λx hx=>by cases hx⟩
theorem Same.Br {H0 H H':Hp} {a:Addr} (s:Same H0 H) (b:Ah a H H') (f:H0 a=none):Same H0 H':=λc o e=>b _ _ (s _ _ e) λz=>by rw[z,f] at e;cases e
section
variable {κ : Type} [DecidableEq κ]
def G8 (kvs:List (κ×V)) (k:κ):Option V:=(kvs.find? λkv=>decide (kv.1=k)).map (·.2)
def putK (kvs:List (κ×V)) (k:κ) (v:V):List (κ×V):=
 if (kvs.any λkv=>decide (kv.1=k))=true then kvs.map (λkv=>if kv.1=k then (kv.1,v) else kv) else kvs++[(k,v)]
theorem NZ {p:κ×V} {r:List (κ×V)} {k:κ} (e:p.1=k):G8 (p::r) k=some p.2:=by simp[G8,Qby,e]
theorem N5 {p:κ×V} {r:List (κ×V)} {k:κ} (e:¬p.1=k):G8 (p::r) k=G8 r k:=by simp[G8,Qby,e]
theorem FW.getD {o:Option V} {u:Option Value} {d:V} {d':Value} (r:FW o u) (rd:RelV d d'):RelV (o.getD d) (u.getD d'):=by
 cases o with
 | none=>cases u with
  | none=>exact rd
  | some _=>exact (show False from r).elim
 | some _=>cases u with
  | none=>exact (show False from r).elim
  | some _=>exact r
theorem KV.val {kvs:List (κ×V)} {vs:List (κ×Value)} (r:KV kvs vs) (k:κ):FW (G8 kvs k) (valueAt vs k):=by
 unfold KV at r
 induction r with
 | nil=>exact True.intro
 | @cons p q ps qs h t ih=>
  obtain⟨h1,h2⟩:=h;by_cases e:p.1=k
  ·have e':q.1=k:=h1.symm.trans e;have b:valueAt (q::qs) k=some q.2:=by simp[valueAt,Qby,e']
   rw[NZ e,b];exact h2
  ·have e':¬q.1=k:=λz=>e (h1.trans z);have b:valueAt (q::qs) k=valueAt qs k:=by simp[valueAt,Qby,e']
   rw[N5 e,b];exact ih
end
theorem gB {P:Program} {w:World} {k:Key} {u:Value} (r:RelV (kV k) u):(Cv P w).is k u=true:=by
 cases k with
 | inl i=>obtain⟨t,e⟩:=(show ∃t,u=Value.int i t from r);subst e;exact QK P w i t
 | inr x=>obtain⟨t,e⟩:=(show ∃t,u=Value.str x t from r);subst e;exact QJ P w x t
theorem MF {P:Program} {w:World}:∀{ks:List Key} {us:YE},Vals (ks.map kV) us->ItemsAre (Cv P w) ks us
 | [],_,r=>by rw[List.map_nil] at r;cases r;exact .nil
 | k::ks,_,r=>by
  rw[QbJ] at r;cases r with
  | cons h t=>exact .cons (gB h) (MF t)
abbrev YL:=List (List Key×V)
abbrev KT (H:Hp):YL->List (List Key×Addr×Value)->Prop:=Paired λp q=>p.1=q.1/\H q.2.1=some (.tup (p.1.map kV))/\RelV p.2 q.2.2
theorem KT.val {H:Hp} {kvs:YL} {xs:List (List Key×Addr×Value)} (r:KT H kvs xs) (k:List Key):FW (G8 kvs k) ((atKey xs k).map (·.2)):=by
 induction r with
 | nil=>exact True.intro
 | @cons p q ps qs h t ih=>
  obtain⟨h1,_,h2⟩:=h;by_cases e:p.1=k
  ·have e':q.1=k:=h1.symm.trans e;have b:atKey (q::qs) k=some q.2:=by simp[atKey,Qby,e']
   rw[NZ e,b];exact h2
  ·have e':¬q.1=k:=λz=>e (h1.trans z);have b:atKey (q::qs) k=atKey qs k:=by simp[atKey,Qby,e']
   rw[N5 e,b];exact ih
theorem KT.keeps {H H':Hp} {kvs:YL} {xs:List (List Key×Addr×Value)} (r:KT H kvs xs) (ht:∀b ys,H b=some (.tup ys)->H' b=some (.tup ys)):KT H' kvs xs:=
 Paired.Ia r λ_ _ z=>⟨z.1,ht _ _ z.2.1,z.2.2⟩
section
variable {P:Program} {w:World} {H:Hp} {h:Heap} {a:Addr}
theorem Zh {u:HO} (ok:HOk P w H h) (e:Rd H a u):Bd P w H h a u:=e.ok ok
abbrev YM:=List (Key×V)
theorem gP {kvs:YM} (ok:HOk P w H h) (e:Rd H a (.dK kvs)):kvs.length<=sizeLine/\(a == sysModules)=false/\∃vs,KV kvs vs/\h.DictOf (Cv P w) a vs:=
 show Bd P w H h a (.dK kvs) from Zh ok e
theorem Pq {ks:List Key} (ok:HOk P w H h) (e:H a=some (.tup (ks.map kV))):(tupleKind (Cv P w)).is h ks a:=by
 obtain⟨_,its,r,o,h1,h2,n,h3⟩:=(show Bd P w H h a (.tup (ks.map kV)) from ok a _ e)
 exact⟨o,its.toArray,n,h1,h2,h3,by simpa using MF r⟩
theorem gO {kvs:YL} (ok:HOk P w H h) (e:Rd H a (.dT kvs)):kvs.length<=sizeLine/\(a == sysModules)=false /\
  ∃xs,KT H kvs xs/\h.DictOfH (tupleKind (Cv P w)) a xs:=by
 obtain⟨z,y,xs,r,o,es,ep,h1,h2,h3,h4,h5⟩:=(show Bd P w H h a (.dT kvs) from Zh ok e)
 refine⟨z,y,xs,r,o,es,ep,h1,h2,h3,h4,λx hx=>?_,h5⟩;have all:∀{l:YL} {m:List (List Key×Addr×Value)},KT H l m->∀x∈m,(tupleKind (Cv P w)).is h x.1 x.2.1:=by
  intro l m q
  induction q with
  | nil=>intro x hx;exact nomatch hx
  | @cons p q ps qs hq t ih=>
   intro x hx;rcases QbF.mp hx with e | hx
   ·subst e;exact Pq ok (by rw[<-hq.1];exact hq.2.1)
   ·exact ih x hx
 exact all r x hx
end
def Ug (H:Hp) (a:Addr) (y:V) (r:Option V):Prop:=
 (∃kvs k,Rd H a (.dK kvs)/\y=kV k/\r=G8 kvs k)\/∃kvs k b,Rd H a (.dT kvs)/\y=.ref b/\H b=some (.tup (k.map kV))/\r=G8 kvs k
def Ue (H:Hp) (a:Addr) (y v:V) (H':Hp):Prop:=
 (∃kvs k,H a=some (.dK kvs)/\y=kV k/\kvs.length < sizeLine/\H'=upd H a (.dK (putK kvs k v))) \/
 ∃kvs k b,H a=some (.dT kvs)/\y=.ref b/\H b=some (.tup (k.map kV))/\kvs.length < sizeLine/\H'=upd H a (.dT (putK kvs k v))
theorem Ug.k {H:Hp} {a:Addr} {kvs:YM} {k:Key} (e:H a=some (.dK kvs)):Ug H a (kV k) (G8 kvs k):=.inl ⟨kvs,k,.inl e,rfl,rfl⟩
theorem Ug.t {H:Hp} {a b:Addr} {kvs:YL} {k:List Key} (e:H a=some (.dT kvs)) (eb:H b=some (.tup (k.map kV))):Ug H a (.ref b) (G8 kvs k):=.inr ⟨kvs,k,b,.inl e,rfl,eb,rfl⟩
theorem Ue.k {H:Hp} {a:Addr} {kvs:YM} {k:Key} {v:V} (e:H a=some (.dK kvs)) (hl:kvs.length < sizeLine):Ue H a (kV k) v (upd H a (.dK (putK kvs k v))):=.inl ⟨kvs,k,e,rfl,hl,rfl⟩
theorem Ue.t {H:Hp} {a b:Addr} {kvs:YL} {k:List Key} {v:V} (e:H a=some (.dT kvs)) (eb:H b=some (.tup (k.map kV))) (hl:kvs.length < sizeLine) :
  Ue H a (.ref b) v (upd H a (.dT (putK kvs k v))):=.inr ⟨kvs,k,b,e,rq,eb,hl,rq⟩
section
variable {X:Cx} {jb:YC} {Z : St} {H:Hp} {s:Shared} {a:Addr} {y v:V} {u r:Value} {o:Option V} {A:Around} {E:YA}
theorem Inv.big (I:Inv X jb Z H s):sysModules < s.heap.objs.size:=by
 have h:mainGlobals < s.heap.objs.size:=(I.mod.glob.keeps I.bk).lt;exact Nat.lt_trans (by decide) h
theorem aR {h':Heap} {t':Nat} {ob:HO} (I:Inv X jb Z H s) (mu:Mut (H a)) (hs:Heap.SameBut a s.heap h') (he:∃q,h'.get? a=some q) (new:Bd X.prog X.w (upd H a ob) h' a ob) :
  Inv X jb Z (upd H a ob) { s with heap:=h',toks:=t' }:=
 I.write (x:=a) (e:=a) mu (.inl rfl) (λb q hb z=>(hs.2 b hb).trans z) he new
end
section
variable {X:Cx} {jb:YC} {Z : St} {H:Hp} {s:Shared} {a:Addr} {kvs:YM} {k:Key} {u:Value} {A:Around} {E:YA}
end
section
variable {X:Cx} {o i e value:Expr} {pos pos' tpos:Pos} {td ty tv:TE}
end
theorem Yz {P:Program} {w:World} {H:Hp} (h:Heap) (hb:sysModules < h.objs.size):Bd P w H (h.push { cls:=.type "dict",data:=.dict #[] }) h.objs.size (.dT []):=
 ⟨QbW _,QaB.mpr (Ne.symm (QbP hb)),[],.nil,_,#[],0,QaA _ rfl,⟨rq,rq,rq⟩,rq,rq,List.nodup_nil⟩
def bI:TE:=λ_ H Q=>∀p,H p=none->Q (.ref p) (upd H p (.dT []))
section
variable {X:Cx} {pos:Pos}
theorem Wv:PE X (.Dict [] [] pos) bI:=λjb s Z H Q I h=>
 wpAny_Dict_empty ⟨.ref s.heap.objs.size,_,I.laid (a:=s.heap.objs.size) (o:=.dT []) (t':=s.toks) (λ_ _ q=>Qak _ q) (QbV _) (Yz s.heap I.big),rq,h _ (I.hok.fresh (QbV _))⟩
end
structure M2 (X:Cx) (o:Expr) (m:Str) (apos:Pos) (e f:Expr) (cpos:Pos):Prop where
 base:attributeBase o m X.env (eval o X.env)=eval o X.env
 few:((backTo cpos (starEach [e,f] X.env)).all (λx=>!x.1)&&(backToKw cpos (keywordEach [] X.env)).all (λx=>x.1.isSome)
 &&decide (([e,f]:YJ).length+([]:List Keyword).length+(if ([]:List Keyword).isEmpty then 0 else 1) < 30))=true
 line:(apos.endLine == cpos.line)=true
 trees:backTo cpos (starEach [e,f] X.env)=[(false,eval e X.env),(false,eval f X.env)]
def IsD (H:Hp) (a:Addr):Prop:=(∃kvs,Rd H a (.dK kvs))\/∃kvs,Rd H a (.dT kvs)
theorem Vo {X:Cx} {jb:YC} {Z : St} {H:Hp} {s:Shared} {a:Addr} (I:Inv X jb Z H s) (d:IsD H a) :
  s.TypeIs (.ref a) "dict"/\(∀b,Value.ref a=.ref b->∃ob,s.heap.get? b=some ob/\ob.dict=none)/\(a == sysModules)=false:=by
 rcases d with⟨kvs,e⟩|⟨kvs,e⟩
 ·obtain⟨_,hd,vs,_,dd⟩:=gP I.hok e;refine⟨dd.typeIs,λb q=>?_,hd⟩;cases q;obtain⟨ob,_,_,h1,h2,_⟩:=dd;exact⟨ob,h1,h2.2.1⟩
 ·obtain⟨_,hd,xs,_,dd⟩:=gO I.hok e;refine⟨dd.typeIs,λb q=>?_,hd⟩;cases q;obtain⟨ob,_,_,h1,h2,_⟩:=dd;exact⟨ob,h1,h2.2.1⟩
section
variable {X:Cx} {jb:YC} {Z : St} {H:Hp} {s:Shared} {a:Addr} {y d:V} {u r:Value} {o:Option V} {A:Around} {E:YA}
end
section
variable {X:Cx} {o e f:Expr} {apos cpos:Pos} {td ty tx:TE}
end
section
variable {X:Cx} {jb:YC} {Z : St} {H:Hp} {s:Shared} {a:Addr} {kvs:YM} {A:Around} {E:YA}
end
section
variable {X:Cx} {jb:YC} {Z : St} {H:Hp} {s:Shared} {a:Addr} {y:V} {u:Value} {A:Around} {E:YA}
end
section
variable {X:Cx}
end
section
variable {κ : Type} [DecidableEq κ]
end
end L2
namespace PySem
open Sem (wp)
section
variable {prog:Program} {w:World} {A:Around} {E:YA} {s:Shared}
end
theorem Draws.from {prog:Program} {w:World} {A:Around} {it:Addr} {fp:List Addr} {n:Nat} {P:Nat->Value->Prop} {St:Nat->Heap->Prop} (D:Draws prog w A it fp n P St) (k:Nat) :
  Draws prog w A it fp (k+n) (λj v=>∃i,j=k+i/\P i v) (λj h=>∃i,j=k+i/\i<=n/\St i h) where
 live:=λ_ _ ⟨i,_,_,st⟩=>D.live i _ st
 frame:=λ_ _ _ ⟨i,e,hi,st⟩ hk=>⟨i,e,hi,D.frame i _ _ st hk⟩
 item:=λj s Q E hj ⟨i,e,hi,st⟩ hQ=>D.item i s Q E (by omega) st λx h' tk p st' sb=>hQ x h' tk ⟨i,e,p⟩ ⟨i+1,by omega,by omega,st'⟩ sb
 done:=λs Q E ⟨i,e,hi,st⟩ hE=>by
  have:i=n:=by omega
  subst this;exact D.done s Q E st hE
end PySem
namespace L2
open PySem PySem.Spec PyProof.Rows
section
variable {X:Cx} {jb:YC} {Z : St} {H:Hp} {s:Shared} {h':Heap}
theorem Inv.Ur {t':Nat} {fp:List Addr} {t:Addr} {o:HO} (I:Inv X jb Z H s) (ht:s.heap.objs.size<=t) (k:∀b u,b∉fp->s.heap.get? b=some u->h'.get? b=some u) (hf:∀b∈fp,DR X jb H b) (new:Bd X.prog X.w (upd H t o) h' t o) :
  Inv X jb Z (upd H t o) { s with heap:=h',toks:=t' }:=by
 have nt:=I.hok.fresh ht;have old:∀b u,s.heap.get? b=some u->b≠t:=λb u e z=>absurd (QaH (QbO e) ht) (by rw[z];exact QbH _);have nf:∀b u,H b=some u->b∉fp:=λb u e z=>by rw[(hf b z).1] at e;cases e
 have tr:∀b u,H b=some u->(upd H t o) b=some u:=λb u e=>by rw[Aj (Aq e nt)];exact e
 refine I.step (g':=s.gens) (d':=s.drawn) (ch:=fp) (λb hb=>?_) (λb u _ _ hc e _=>k b u hc e) (λb u _ _ hc e _=>⟨u.slots,k b u hc e⟩) (λb u hc e n=>by rw[Aj (old b u e)];exact n)
  (λb u hc e=>⟨u,k b u hc e⟩) (λ_ _ e=>tr _ _ e) (λ_ _ _ e=>tr _ _ e) (λb ps e=>⟨#[],by rw[tr _ _ e];simp⟩) (λm hm=>?_) (λb u e=>?_) I.bare
 ·obtain⟨_,f1,_,f3,f4,f5⟩:=hf b hb;exact⟨f3,f1,f4,f5⟩
 ·obtain⟨u,es,ep,hu,r⟩:=hm;exact⟨u,es,ep,k _ u (λz=>(hf _ z).2.1 rfl) hu,r⟩
 ·by_cases hb:b=t
  ·subst hb;rw[Ab] at e;cases e;exact new
  ·rw[Aj hb] at e;refine (I.hok b u e).stay (λc v hc q=>k c v ?_ q) (λc q=>tr _ _ q) λc xs q=>tr _ _ q;rcases hc with z | z
   ·rw[z];exact nf b u e
   ·exact nf c _ z
theorem Inv.ZC {t':Nat} {fp:List Addr} (I:Inv X jb Z H s) (k:∀b u,b∉fp->s.heap.get? b=some u->h'.get? b=some u) (hf:∀b∈fp,DR X jb H b):Inv X jb Z H { s with heap:=h',toks:=t' }:=by
 have nf:∀b u,H b=some u->b∉fp:=λb u e z=>by rw[(hf b z).1] at e;cases e
 refine I.step (g':=s.gens) (d':=s.drawn) (ch:=fp) (λb hb=>?_) (λb u _ _ hc e _=>k b u hc e) (λb u _ _ hc e _=>⟨u.slots,k b u hc e⟩) (λb u hc e n=>n)
  (λb u hc e=>⟨u,k b u hc e⟩) (λ_ _ e=>e) (λ_ _ _ e=>e) (λb ps e=>⟨#[],by rw[e];simp⟩) (λm hm=>?_) (λb u e=>?_) I.bare
 ·obtain⟨_,f1,_,f3,f4,f5⟩:=hf b hb;exact⟨f3,f1,f4,f5⟩
 ·obtain⟨u,es,ep,hu,r⟩:=hm;exact⟨u,es,ep,k _ u (λz=>(hf _ z).2.1 rfl) hu,r⟩
 ·refine (I.hok b u e).stay (λc v hc q=>k c v ?_ q) (λ_ q=>q) λ_ _ q=>q;rcases hc with z | z
  ·rw[z];exact nf b u e
  ·exact nf c _ z
end
end L2
namespace PySem
open Sem (wp)
open AutoSeq1 (wpAny_loadPart')
end PySem
namespace PySem
open Sem (wp)
section
variable {prog:Program} {w:World} {A:Around} {E:YA} {s:Shared}
end
end PySem
namespace PyProof.Rows
open PySem
section
variable {M:Model} {A:Around} {E:YA} {s:Shared} {env:Env}
end
end PyProof.Rows
namespace L2
open PySem PySem.Spec PyProof.Rows
section
variable {X:Cx}
end
section
variable {X:Cx}
end
section
variable {X:Cx}
end
section
variable {X:Cx}
end
end L2
namespace PySem.ZZ
open PySem
section
variable {prog:Program} {w:World} {A:Around} {E:YA} {s:Shared}
structure Src where
 it:Addr
 a:Addr
 items:Array Value
def SrcAt (h:Heap) (x:Src) (i:Nat):Prop:=(h.IsListIter x.it x.a i/\h.IsList x.a x.items)\/(h.IsTupleIter x.it x.a i/\h.IsTuple x.a x.items)
theorem SrcAt.keep {h h':Heap} {x:Src} {i:Nat} (q:SrcAt h x i) (k1:∀o,h.get? x.it=some o->h'.get? x.it=some o) (k2:∀o,h.get? x.a=some o->h'.get? x.a=some o):SrcAt h' x i:=by
 rcases q with⟨q1,q2⟩|⟨q1,o,e,r⟩
 ·exact .inl ⟨q1.at k1,q2.at k2⟩
 ·exact .inr ⟨q1.at k1,o,k2 o e,r⟩
abbrev IsZ (h:Heap) (z TI TO:Addr) (f0 f1:Value):Prop:=h.get? z=some { cls:=.type "zip",dict:=none,data:=.fields #[f0,f1,.bool false,.ref TI,.ref TO],slots:=#[] }
abbrev K5 (h:Heap) (T:Addr) (xs:YE):Prop:=h.get? T=some { cls:=.type "tuple",data:=.seq xs.toArray }
structure Apart (z TI TO:Addr) (ls:List Src):Prop where
 TIz:TI≠z
 TOz:TO≠z
 TITO:TI≠TO
 it:∀x∈ls,x.it≠z/\x.it≠TI/\x.it≠TO
 a:∀x∈ls,x.a≠z/\x.a≠TO
 ai:∀x∈ls,∀y∈ls,x.a≠y.it
 nd:(ls.map (·.it)).Nodup
def Rest (z TO:Addr) (ls:List Src) (h h':Heap):Prop:=∀c o,c≠z->c≠TO->c∉ls.map (·.it)->h.get? c=some o->h'.get? c=some o
structure Mid (z TI TO:Addr) (ls:List Src) (xs olds:YE) (i:Nat) (f0 f1:Value) (h:Heap) (k:Nat) (h':Heap):Prop where
 hz:IsZ h' z TI TO f0 f1
 hTI:K5 h' TI (ls.map λx=>.ref x.it)
 done:∀j x,ls[j]?=some x->SrcAt h' x (if j < k then i+1 else i)
 rest:Rest z TO ls h h'
 size:h'.objs.size=h.objs.size
theorem Mid.other {z TI TO:Addr} {ls:List Src} {xs olds:YE} {i:Nat} {f0 f1:Value} {h h1 h2:Heap} {k:Nat} (D:Apart z TI TO ls) (m:Mid z TI TO ls xs olds i f0 f1 h k h1) (sb:Heap.SameBut TO h1 h2):Mid z TI TO ls xs olds i f0 f1 h k h2:=by
 refine⟨sb.extBut _ _ D.TOz.symm m.hz,sb.extBut _ _ D.TITO m.hTI,λj y hy=>?_,λc o c1 c2 c3 e=>sb.extBut _ _ c2 (m.rest c o c1 c2 c3 e),by rw[sb.1,m.size]⟩;have hm:=Qat hy;exact (m.done j y hy).keep (λo e=>sb.extBut _ _ (D.it y hm).2.2 e) (λo e=>sb.extBut _ _ (D.a y hm).2 e)
end
end PySem.ZZ
namespace PySem
namespace F
end F
end PySem
namespace PySem.ZZ
open PySem
def fj (h:Heap) (a:Addr) (xs:Array Value) (c:String):Prop:=(c="list_iterator"/\h.IsList a xs)\/(c="tuple_iterator"/\h.IsTuple a xs)
theorem fj.src {h h':Heap} {a it:Addr} {xs:Array Value} {c:String} (q:fj h a xs c) (k:∀o,h.get? a=some o->h'.get? a=some o) (e:h'.get? it=some { cls:=.type c,data:=.fields #[.ref a,.int 0 0] }):SrcAt h' ⟨it,a,xs⟩ 0:=by
 rcases q with⟨rfl,q⟩|⟨rfl,o,ho,r⟩
 ·exact .inl ⟨⟨_,e,rq,rq⟩,q.at k⟩
 ·exact .inr ⟨⟨_,e,rq,rq⟩,o,k o ho,r⟩
abbrev itO (c:String) (l:Addr):Obj:={ cls:=.type c,data:=.fields #[.ref l,.int 0 0] }
abbrev tuO (xs:Array Value):Obj:={ cls:=.type "tuple",data:=.seq xs }
abbrev z2a (h:Heap) (c1 c2:String) (l1 l2:Addr):Heap:=((((h.push (itO c1 l1)).push (itO c2 l2)).push (tuO #[.ref h.objs.size,.ref (h.push (itO c1 l1)).objs.size])).push (tuO #[.none,.none]))
abbrev z2 (h:Heap) (c1 c2:String) (l1 l2:Addr):Heap:=(z2a h c1 c2 l1 l2).push
 { cls:=.type "zip",data:=.fields #[.none,.bool false,.bool false,.ref ((h.push (itO c1 l1)).push (itO c2 l2)).objs.size,.ref (((h.push (itO c1 l1)).push (itO c2 l2)).push (tuO #[.ref h.objs.size,.ref (h.push (itO c1 l1)).objs.size])).objs.size] }
abbrev z3a (h:Heap) (c1 c2 c3:String) (l1 l2 l3:Addr):Heap:=(((((h.push (itO c1 l1)).push (itO c2 l2)).push (itO c3 l3)).push (tuO #[.ref h.objs.size,.ref (h.push (itO c1 l1)).objs.size,.ref ((h.push (itO c1 l1)).push (itO c2 l2)).objs.size])).push (tuO #[.none,.none,.none]))
abbrev z3 (h:Heap) (c1 c2 c3:String) (l1 l2 l3:Addr):Heap:=(z3a h c1 c2 c3 l1 l2 l3).push
 { cls:=.type "zip",data:=.fields #[.none,.bool false,.bool false,.ref (((h.push (itO c1 l1)).push (itO c2 l2)).push (itO c3 l3)).objs.size,.ref ((((h.push (itO c1 l1)).push (itO c2 l2)).push (itO c3 l3)).push (tuO #[.ref h.objs.size,.ref (h.push (itO c1 l1)).objs.size,.ref ((h.push (itO c1 l1)).push (itO c2 l2)).objs.size])).objs.size] }
theorem na {a b:Nat} (h:a≠b):@Ne Addr a b:=h
section
variable {prog:Program} {w:World} {A:Around} {E:YA} {s:Shared}
end
end PySem.ZZ
namespace PySem
namespace F
end F
end PySem
namespace PySem.ZZ
open PySem
section
variable {prog:Program} {w:World} {A:Around} {E:YA} {s:Shared}
structure Run (hb:Heap) (z TI TO:Addr) (ls:List Src) (rows:Nat->YE) (S:Addr) (ts:List Addr) (h:Heap):Prop where
 inc:ts.Pairwise (· < ·)
 lo:∀t∈ts,S < t/\t < h.objs.size
 at_:∀j t,ts[j]?=some t->K5 h t (rows j)
 keep:∀c o,hb.get? c=some o->h.get? c=some o
 hTI:K5 h TI (ls.map λx=>.ref x.it)
 hTO:∃olds,K5 h TO olds/\olds.length=ls.length
 src:∀x∈ls,SrcAt h x ts.length
 hz:(ts=[]/\IsZ h z TI TO .none (.bool false))\/∃(T:Addr) (f1:Value),ts[0]?=some T/\IsZ h z TI TO (rawInt T) f1
structure Below (hb:Heap) (z TI TO:Addr) (ls:List Src) (S:Addr):Prop where
 ap:Apart z TI TO ls
 old:hb.objs.size<=z/\hb.objs.size<=TI/\hb.objs.size<=TO/\∀x∈ls,hb.objs.size<=x.it
 lz:z < S
 lTI:TI < S
 lTO:TO < S
 it:∀x∈ls,x.it < S/\x.a < S
 base:hb.objs.size<=S
theorem Run.frame {hb:Heap} {z TI TO:Addr} {ls:List Src} {rows:Nat->YE} {S:Addr} {ts:List Addr} {h h':Heap} (B:Below hb z TI TO ls S) (r:Run hb z TI TO ls rows S ts h) (hs:h'.objs.size=h.objs.size) (k:∀c o,c≠S->h.get? c=some o->h'.get? c=some o):Run hb z TI TO ls rows S ts h':=by
 obtain⟨olds,o1,o2⟩:=r.hTO;refine⟨r.inc,λt ht=>by rw[hs];exact r.lo t ht,λj t e=>k _ _ (Nat.ne_of_gt (r.lo t (Qat e)).1) (r.at_ j t e),λc o e=>k _ _ (QbP (QaH (QbO e) B.base)) (r.keep c o e),k _ _ (QbP B.lTI) r.hTI,⟨olds,k _ _ (QbP B.lTO) o1,o2⟩,λx hx=>?_,?_⟩
 ·exact (r.src x hx).keep (λo e=>k _ _ (QbP (B.it x hx).1) e) (λo e=>k _ _ (QbP (B.it x hx).2) e)
 ·rcases r.hz with⟨e,q⟩|⟨T,f1,e,q⟩
  ·exact .inl ⟨e,k _ _ (QbP B.lz) q⟩
  ·exact .inr ⟨T,f1,e,k _ _ (QbP B.lz) q⟩
theorem Run.more {hb:Heap} {z TI TO:Addr} {ls:List Src} {rows:Nat->YE} {S:Addr} {ts:List Addr} {h h':Heap} (B:Below hb z TI TO ls S) (r:Run hb z TI TO ls rows S ts h) (hS:S < h.objs.size) (hs:h'.objs.size=h.objs.size+1) (hr:Rest z TO ls h h')
  (hTI:K5 h' TI (ls.map λx=>.ref x.it)) (hTO:∃olds,K5 h' TO olds/\olds.length=ls.length) (src:∀x∈ls,SrcAt h' x (ts.length+1)) (new:K5 h' h.objs.size (rows ts.length)) (hz:∃(T:Addr) (f1:Value),(ts++[h.objs.size])[0]?=some T/\IsZ h' z TI TO (rawInt T) f1):Run hb z TI TO ls rows S (ts++[h.objs.size]) h':=by
 have fr:∀t,S < t->t≠z/\t≠TO/\t∉ls.map (·.it):=λt ht=>⟨λe=>by rw[e] at ht;exact Nat.lt_asymm ht B.lz,λe=>by rw[e] at ht;exact Nat.lt_asymm ht B.lTO,λe=>by
  obtain⟨x,hx,e'⟩:=QbQ.mp e;rw[<-e'] at ht;exact Nat.lt_asymm ht (B.it x hx).1⟩
 refine⟨?_,λt ht=>?_,λj t e=>?_,λc o e=>?_,hTI,hTO,λx hx=>by rw[QaI];exact src x hx,.inr hz⟩
 ·exact List.pairwise_append.mpr ⟨r.inc,List.pairwise_singleton _ _,λa ha b hb'=>by
   have:b=h.objs.size:=by simpa using hb'
   rw[this];exact (r.lo a ha).2⟩
 ·rw[hs];rcases Qbn.mp ht with ht | ht
  ·have:=r.lo t ht;exact⟨this.1,Nat.lt_succ_of_lt this.2⟩
  ·have:t=h.objs.size:=by simpa using ht
   rw[this];exact⟨hS,Qbg _⟩
 ·by_cases c:j < ts.length
  ·rw[List.getElem?_append_left c] at e;have hlo:=r.lo t (Qat e);obtain⟨f1,f2,f3⟩:=fr t hlo.1;exact hr t _ f1 f2 f3 (r.at_ j t e)
  ·rw[List.getElem?_append_right (Nat.le_of_not_lt c)] at e;have hj:j - ts.length=0:=by
    have:=(Qae.mp e).1;rw[List.length_singleton] at this;omega
   rw[hj] at e;cases e;have:j=ts.length:=by omega
   rw[this];exact new
 ·have hlt:=QbO e;refine hr c o (λq=>?_) (λq=>?_) (λq=>?_) (r.keep c o e)
  ·rw[q] at hlt;exact absurd hlt (Nat.not_lt.mpr B.old.1)
  ·rw[q] at hlt;exact absurd hlt (Nat.not_lt.mpr B.old.2.2.1)
  ·obtain⟨x,hx,e'⟩:=QbQ.mp q;rw[<-e'] at hlt;exact absurd hlt (Nat.not_lt.mpr (B.old.2.2.2 x hx))
end
end PySem.ZZ
namespace PySem.ZZ
open PySem
section
variable {prog:Program} {w:World} {A:Around} {E:YA} {s:Shared}
structure Rows (ls:List Src) (n:Nat) (rows:Nat->YE):Prop where
 row:∀j,j < n->(rows j).length=ls.length/\∀(k:Nat) (x:Src),ls[k]?=some x->∃v,(rows j)[k]?=some v/\x.items[j]?=some v
 stop:∃x∈ls,x.items[n]?=none
 ne:ls≠[]
 few:ls.length<=100
 most:n<=1000
end
end PySem.ZZ
namespace L2
open PySem PySem.Spec PyProof.Rows
mutual
inductive Jj (K:YD) (H:Hp):V->PyData->Prop
 | non:Jj K H .non .none
 | bl (b:Bool):Jj K H (.bl b) (.bool b)
 | int (i:Int):Jj K H (.int i) (.int i)
 | str (x:Str):Jj K H (.str x) (.str x)
 | tup {a:Addr} {xs:YG} {ds:List PyData}:SqT K H a xs->HW K H xs ds->Jj K H (.ref a) (.tuple ds)
inductive HW (K:YD) (H:Hp):YG->List PyData->Prop
 | nil:HW K H [] []
 | cons {x:V} {d:PyData} {xs:YG} {ds:List PyData}:Jj K H x d->HW K H xs ds->HW K H (x::xs) (d::ds)
end
section
variable {X:Cx} {jb:YC} {Z : St} {H:Hp} {s:Shared}
mutual
theorem Jj.reads (I:Inv X jb Z H s):∀{v:V} {d:PyData} {u:Value},Jj X.K H v d->RelV v u->∃as,Reads s.heap u d as
 | _,_,_,.non,r=>by cases (show _=Value.none from r);exact⟨_,.none⟩
 | _,_,_,.bl b,r=>by cases (show _=Value.bool b from r);exact⟨_,.bool b⟩
 | _,_,_,.int i,r=>by obtain⟨t,rfl⟩:=(show ∃t,_=Value.int i t from r);exact⟨_,.int i t⟩
 | _,_,_,.str x,r=>by obtain⟨t,rfl⟩:=(show ∃t,_=Value.str x t from r);exact⟨_,.str x t⟩
 | _,_,_,.tup (a:=a) (xs:=xs) e q,r=>by
  cases (show _=Value.ref a from r)
  obtain⟨its,rv,⟨o,ho,hc,n,hd⟩,_⟩:=I.tuple e;obtain⟨as,z⟩:=HW.reads I q rv;exact⟨_,.tuple ho hc hd (by simpa using z)⟩
theorem HW.reads (I:Inv X jb Z H s):∀{xs:YG} {ds:List PyData} {us:YE},HW X.K H xs ds->Vals xs us->∃as,ReadsAll s.heap us ds as
 | _,_,_,.nil,.nil=>⟨_,.nil⟩
 | _,_,_,.cons p q,.cons r t=>by
  obtain⟨as,a1⟩:=Jj.reads I p r;obtain⟨bs,b1⟩:=HW.reads I q t;exact⟨_,.cons a1 b1⟩
end
end
section
variable {X:Cx} {K:YD}
theorem Q9 {es:YJ} {k:Nat} {pos:Pos} {t:TGs} {n:Nat} (hK:X.K=K) (hc:X.calm=true) (h:PGs X es t)
  (hn:(assignEach es X.env).length=n:=by rfl) (hst:(assignEach es X.env).findIdx? (·.1)=none:=by rfl):PG X (.Tuple es k pos) (dG K n t):=hK ▸ Lh hc h hn hst
end
end L2
namespace L2
open PySem PySem.Spec PyProof.Rows
abbrev Zd:YE:=[.type "ValueError",.type "Exception",.type "BaseException",.type "object"]
structure XCl (K:YD) (C:Addr):Prop where
 ex:excIn K C Zd "ValueError.__new__"=true
 ga:findIn K (.ref C) "__getattribute__"=some (some (.builtin "BaseException.__getattribute__"))
 gn:findIn K (.ref C) "__getattr__"=some none
 ca:findIn K (.ref C) "__class__"=some (some (.builtin "object.__class__"))
 mo:subIn K (.ref C) (.type "object")=some true
 mb:subIn K (.ref C) (.type "BaseException")=some true
 kp:keepIn K (.ref C)=true
section
variable {K:YD} {C:Addr}
theorem XCl.look (T:XCl K C):∃dd cd sl,K.lookup C=some ⟨.type "type",dd,.cls cd,sl⟩:=by
 have q:=T.ex;unfold excIn at q;split at q
 ·rename_i dd cd sl ho;exact⟨dd,cd,sl,ho⟩
 ·cases q
theorem XCl.obj (T:XCl K C) {h:Heap} (X:K.In h):∃bm N nm q bs hdct sn sub ab col dd k0 k1 k2 k3 k5 mN,h.get? C=some (excClassObj nm q C N bs bm hdct sn sub ab col dd k0 k1 k2 k3 k5 "ValueError.__new__")/\h.Ns N mN/\mN "__init__"=none/\OwnTail h Zd bm:=by
 have q:=T.ex;unfold excIn at q;split at q
 ·rename_i dd cd sl ho;split at q
  ·rename_i C' bm k0 k1 k2 k3 n k5 hm hs;simp only[Qba,beq_iff_eq,Bool.not_eq_true'] at q;obtain⟨⟨⟨⟨⟨rfl,rfl⟩,hdel⟩,ht⟩,hok⟩,hni⟩:=q;obtain⟨nm,bs,mro,ns,qn,hd,sn,sub,ab,col,del⟩:=cd;dsimp only at hm hdel hok hni;subst hm hdel;have hsl:sl=#[k0,k1,k2,k3,some (.builtin "ValueError.__new__"),k5]:=by
    obtain⟨l⟩:=sl;simp only at hs;rw[hs]
   subst hsl;exact⟨bm,ns,nm,qn,bs,hd,sn,sub,ab,col,dd,k0,k1,k2,k3,k5,_,X _ _ ho,.of_isNs (PySem.W.isNs_of_in X hok),PySem.W.nsMap_none_of_in X hok hni,PySem.W.tail_of_in X ht⟩
  ·cases q
 ·cases q
end
def XAt (a C:Addr) (h:Heap):Prop:=∃o vs,h.get? a=some o/\o.cls=.ref C/\o.data=.fields vs/\vs[2]?=some .none
section
variable {prog:Program} {w:World} {A:Around} {E:YA} {h:Heap} {g:Array GenState} {d:Drawn} {t:Nat} {os:OsState} {K:YD} {a C:Addr} {o:Obj}
theorem RD {R:Result->Shared->Prop} (X:K.In h) (T:XCl K C) (hx:h.get? a=some o) (hc:o.cls=.ref C) (hq:R (.ok (.ret (.ref C))) ⟨h,g,d,t,os⟩) :
  codeAny (model prog w) A (.call (.builtin "getset_descriptor.__get__") ⟨[.builtin "object.__class__",.ref a,.ref C],[]⟩) R ⟨h,g,d,t,os⟩:=by
 have hT5:(⟨h,g,d,t,os⟩ : Shared).TypeIs (.builtin "object.__class__") "getset_descriptor":=F.typeOf_object_class;have f8:PySem.W.Looks (model prog w) h (isSubtype (.ref C) (.type (".".intercalate ("object.__class__".cutAt '.').dropLast))) true:=by
  rw[F.owner_object_class];exact looks_subIn X T.mo
 refine codeAny_call_builtin F.slot_gs_get.plain F.entry_gs_get (F.slot_gs_get.check _ _ _ _ _ _ _ _ hT5 (F.args_gs_get _ _ _) ?_)
 repeat (any_goals (first | assumption | (with_reducible refine QaZ hx ?_;rw[hc]) | with_reducible refine f8.at ?_ | wp_step))
 refine⟨Code.quiet_builtin _ (by trivial),Qbz F.entry_object_class ?_⟩
 repeat (any_goals (first | assumption | (with_reducible refine QaZ hx ?_;rw[hc]) | wp_step))
theorem NT {tk:Tok} {Q:Fin->Shared->Prop} (X:K.In h) (T:XCl K C) (hx:h.get? a=some o) (hc:o.cls=.ref C) (hq:Q (.done (.ret (.ref C))) ⟨h,g,d,t,os⟩) :
  wpAny (model prog w) A (Builtin.«object.__getattribute__» ⟨[.ref a,.str "__class__" tk],[]⟩) Q E ⟨h,g,d,t,os⟩:=by
 have hT5:(⟨h,g,d,t,os⟩ : Shared).TypeIs (.builtin "object.__class__") "getset_descriptor":=F.typeOf_object_class;have f4:=looks_findIn (M:=model prog w) X T.ca;have f5:=F.typeOf_object_class;have f6:=F.slot_gs_get.lookup;have f7:=F.slot_gs_set.lookup
 repeat (any_goals (first | assumption | (with_reducible refine QaZ hx ?_;rw[hc]) | with_reducible refine f4.at ?_ | wp_step))
 refine RD X T hx hc ?_
 repeat (any_goals (first | assumption | wp_step))
theorem Ul {M:Model} {nameV:Value} {Q:YH} (X:K.In h) (T:XCl K C) (hx:h.get? a=some o) (hc:o.cls=.ref C) (hq:Q () ⟨h,g,d,t,os⟩) :
  wpAny M A (checkBuiltinCall "BaseException.__getattribute__" ⟨[.ref a,nameV],[]⟩) Q E ⟨h,g,d,t,os⟩:=by
 have hk:builtinKind "BaseException.__getattribute__"=some .slot:=by trivial
 have hsplit:splitId "BaseException.__getattribute__"=some ("BaseException","__getattribute__"):=by trivial
 have f1:=looks_subIn (M:=M) X T.mb;have ha:=F.args_bexc_ga (.ref a) nameV;simp only[checkBuiltinCall,hk,hsplit];refine QbX ?_
 ·unfold isInstance
  repeat (first | (with_reducible refine QaZ hx ?_;rw[hc]) | with_reducible refine f1.at ?_ | wp_step)
  exact hq
theorem Qu {tk:Tok} {R:Result->Shared->Prop} (X:K.In h) (T:XCl K C) (hx:h.get? a=some o) (hc:o.cls=.ref C) (hq:R (.ok (.ret (.ref C))) ⟨h,g,d,t,os⟩) :
  codeAny (model prog w) A (.call (.builtin "BaseException.__getattribute__") ⟨[.ref a,.str "__class__" tk],[]⟩) R ⟨h,g,d,t,os⟩:=
 codeAny_call_builtin F.attr_ValueError.ga.plain F.entry_bexc_ga (Ul X T hx hc (NT X T hx hc hq))
theorem Uk {tk:Tok} {fill expr:Bool} {Q:YA} (X:K.In h) (T:XCl K C) (hx:h.get? a=some o) (hc:o.cls=.ref C) (hq:Q (.ref C) ⟨h,g,d,t,os⟩) :
  wpAny (model prog w) A (getAttrBy (.ref a) (.str "__class__" tk) fill expr) Q E ⟨h,g,d,t,os⟩:=by
 have f1:=looks_findIn (M:=model prog w) X T.ga;have f2:=looks_findIn (M:=model prog w) X T.gn;have f3:=F.attr_ValueError.ga.bind (.ref a);have hx0:(expr&&onTheHeap (Value.builtin "BaseException.__getattribute__"))=false:=by cases expr <;> rfl
 have hx2:(Value.builtin "BaseException.__getattribute__" == Value.builtin "object.__getattribute__")=false:=by trivial
 have hx1:(onTheHeap (Value.ref C)&&Value.builtin "BaseException.__getattribute__" == Value.builtin "object.__getattribute__")=false:=by rw[hx2];rfl
 repeat (any_goals (first | assumption | (with_reducible refine QaZ hx ?_;rw[hc]) | with_reducible refine f1.at ?_ | with_reducible refine f2.at ?_ | wp_step))
 refine Qu X T hx hc ?_
 repeat (any_goals (first | assumption | wp_step))
theorem Qv {Q:Option Value->Shared->Prop} (X:K.In h) (T:XCl K C) (hx:h.get? a=some o) (hc:o.cls=.ref C) (hq:Q (some (.ref C)) ⟨h,g,d,t+1,os⟩):wpAny (model prog w) A (getAttr? (.ref a) "__class__") Q E ⟨h,g,d,t,os⟩:=by
 unfold getAttr? getAttrBy?
 repeat (any_goals (first | assumption | with_reducible apply Uk X T hx hc | wp_step))
end
theorem W2 {K:YD} {a C:Addr} (T:XCl K C):PySem.W.KitX K (.ref a) (.ref C) (XAt a C) where
 ty:=λM h X p=>by
  obtain⟨o,vs,h1,h2,_⟩:=p;exact h2 ▸ (PySem.W.Looks.ld h1).andThen .now
 it:=λ_ _ X _=>by
  obtain⟨dd,cd,sl,ho⟩:=T.look;intro A' Q' E' s' k q;unfold isType loadHead;exact QbX (wpAny_loadPart (k _ _ (X _ _ ho)) (QbY q))
 ne:=λh tp dd its n sl X htp=>by
  obtain⟨_,cd,_,ho⟩:=T.look;refine Bool.eq_false_iff.mpr λq=>?_;have e:C=tp:=Value.ref.inj (beq_iff_eq.mp q);subst e;have z:=congrArg Obj.data (Qbp ((X _ _ ho).symm.trans htp));cases z
 ca:=λ{_ _ _ _ _ s} X p k=>by
  obtain⟨h,g,d,t,os⟩:=s;obtain⟨o,vs,h1,h2,_⟩:=p;exact Qv X T h1 h2 k
def xo (a C:Addr):HO:=.ext (XAt a C)
section
variable {X:Cx} {jb:YC} {Z : St} {H:Hp} {s:Shared}
theorem fH {a C:Addr} (I:Inv X jb Z H s) (e:H a=some (xo a C)):XAt a C s.heap:=(show Bd X.prog X.w H s.heap a (xo a C) from I.hok a _ e).1
theorem Lr {A:Around} {E:YA} {Q:YA} {a C:Addr} {c:Value} {b:Bool} (I:Inv X jb Z H s) (T:XCl X.K C) (e:H a=some (xo a C)) (k:kitOne X.K (.ref C) c=some b) (h:∀tk,Q (.bool b) { s with toks:=tk }) :
  wpAny (model X.prog X.w) A (call (.builtin "isinstance") [.ref a,c]) Q E s:=
 kia_one (W2 T) I.kIn (fH I e) k (λz=>nomatch z) h
end
def XT (B:Heap) (e C:Addr) (fl:Option Value) (h:Heap):Prop:=
 ∃oe vs,h.get? e=some oe/\oe.cls=.ref C/\oe.data=.fields vs/\vs[2]?=some .none /\
  match fl with
  | none=>vs[1]?=some .none
  | some f=>∃T oT ts,vs[1]?=some (.ref T)/\B.get? T=none/\T≠e/\h.get? T=some oT/\oT.data=.fields ts/\ts[3]?=some f
structure Fl (B:Heap) (l:List Env) (e C:Addr) (fl:Option Value) (h:Heap):Prop where
 stays:B.StaysIn h
 new:B.get? e=none
 fr:h.FunFrames B l
 tr:XT B e C fl h
theorem XT.at {B h:Heap} {e C:Addr} {fl:Option Value} (x:XT B e C fl h):XAt e C h:=by
 obtain⟨oe,vs,h1,h2,h3,h4,_⟩:=x;exact⟨oe,vs,h1,h2,h3,h4⟩
section
variable {M:Model} {A:Around} {E:YA} {s:Shared} {B:Heap} {env:Env} {outer l:List Env} {L e C:Addr} {Q:YH}
theorem PX {oe:Obj} {vs:Array Value} {head:Value} {hadNext:Bool} (hfr:A.frames=some (env::outer)) (hf:env.frame=some L) (st:B.StaysIn s.heap) (new:B.get? e=none) (fr:s.heap.FunFrames B (env::outer))
  (he:s.heap.get? e=some oe) (hc:oe.cls=.ref C) (hd:oe.data=.fields vs) (h2:vs[2]?=some .none) (hq:∀h',Fl B (env::outer) e C (some (rawInt L)) h'->s.heap.UpToSlots h'->Q () { s with heap:=h' }) :
  wpAny M A (do let fo <-frameOf env;let pl <-entryPlaceOf L hadNext;let tb <-EntryCells.newEntry head fo .none (rawInt L) .none pl;setField (.ref e) 1 tb) Q E s:=by
 have hsz:2 < vs.size:=(Qad.mp h2).1;have nf:e∉(env::outer).filterMap (·.frame):=λhm=>by
  obtain⟨_,of,hof,nof⟩:=fr.mem hm;rw[he] at hof;cases hof;exact nof vs hd
 refine QbX (wpAny_frameOf_fun hfr fr hf λhA sA=>?_);refine QbX (wpAny_entryPlaceOf λpl ipl=>?_);unfold EntryCells.newEntry newFields;refine QbX (wpAny_newObj_type ?_ (ipl.sizeOk5 _ _ _ _ _));have eA:hA.get? e=some oe:=(sA.2.1 e nf).trans he;have stA:B.StaysIn hA:=λb o q=>(sA.2.1 b λhm=>by rw[(fr.mem hm).1] at q;cases q).trans (st b o q);have key:∀(ob:Obj) (ts:Array Value),ob.data=.fields ts->ob.isFreed=false->ts[3]?=some (rawInt L)->wpAny M A (setField (.ref e) 1 (.ref hA.objs.size)) Q E { s with heap:=hA.push ob }:=λob ts dT nfr iT=>by
  have eP:=Qak (h:=hA) ob eA;refine wpAny_setField eP hd (by omega) (hq _ ?_ ?_)
  ·have hTe:hA.objs.size≠e:=Nat.ne_of_gt (QbO eA);have dN:=Obj.data_mapFields hd (·.setIfInBounds 1 (Value.ref hA.objs.size));have eN:=Qar (Obj.mapFields (·.setIfInBounds 1 (Value.ref hA.objs.size))) eP (Obj.isFreed_of_fields dN);have keep:∀b o,b≠e->hA.get? b=some o->((hA.push ob).update e (Obj.mapFields (·.setIfInBounds 1 (Value.ref hA.objs.size)))).get? b=some o:=λb o hb q=>by
    rw[Qal _ _ (Ne.symm hb)];exact Qak _ q
   refine⟨λb o q=>keep b o (λz=>by rw[z,new] at q;cases q) (stA b o q),new,fr.of_keeps λb o q nb=>?_,⟨_,_,eN,(Obj.cls_mapFields _ _).trans hc,dN,?_,hA.objs.size,ob,ts,?_,stA.fresh,hTe,?_,dT,iT⟩⟩
   ·obtain⟨sl,q'⟩:=sA.2.2 b o q;exact⟨_,keep b _ (λz=>by rw[z,he] at q;cases q;exact nb vs hd) q',rq⟩
   ·rw[Array.getElem?_setIfInBounds_ne (by decide)];exact h2
   ·simp[show 1 < vs.size by omega]
   ·rw[Qal _ _ (Ne.symm hTe)];exact QaA hA nfr
  ·intro b o q nb;obtain⟨sl,q'⟩:=sA.2.2 b o q;refine⟨sl,?_⟩;rw[Qal _ _ (λz=>by rw[<-z,he] at q;cases q;exact nb vs hd)];exact Qak _ q'
 refine key _ _ rfl rfl ?_
 first | (simp;done) | (rcases ipl with rfl |⟨_,_,_,_,_,_,_,rfl⟩ <;> simp)
theorem Rt {fl:Option Value} (hfl:fl=none\/fl=some .none) (hfr:A.frames=some (env::outer)) (hf:env.frame=some L) (x:Fl B (env::outer) e C fl s.heap)
  (hq:∀h',Fl B (env::outer) e C (some (rawInt L)) h'->s.heap.UpToSlots h'->Q () { s with heap:=h' }):wpAny M A (noteFrame (.ref e) env) Q E s:=by
 obtain⟨st,new,fr,oe,vs,he,hc,hd,h2,ht⟩:=x;unfold noteFrame;simp only[hf];rcases hfl with rfl | rfl
 ·refine QbX (wpAny_field he hd (show vs[1]?=some .none from ht) ?_)
  rw[if_neg (by decide)];exact PX hfr hf st new fr he hc hd h2 hq
 ·obtain⟨T,oT,ts,h1,nT,hTe,hT,dT,iT⟩:=ht;refine QbX (wpAny_field he hd h1 ?_);rw[if_pos (show (Value.ref T != Value.none)=true from by simp)]
  refine QbX (wpAny_field hT dT iT ?_);rw[if_neg (show ¬((Value.none == rawInt L)=true) from by simp[rawInt])]
  refine QbX (wpAny_setField hT dT (Qad.mp iT).1 ?_);have oth:∀b o,b≠T->s.heap.get? b=some o->(s.heap.update T (Obj.mapFields (·.setIfInBounds 3 Value.none))).get? b=some o:=λb o hb q=>(Qal _ _ (Ne.symm hb)).trans q;have O2:∀b o,s.heap.get? b=some o->(∀ws,o.data≠.fields ws)->b≠T:=λb o q nb z=>by rw[z,hT] at q;cases q;exact nb ts dT
  refine PX (s:={ s with heap:=s.heap.update T (Obj.mapFields (·.setIfInBounds 3 Value.none)) }) hfr hf (λb o q=>oth b o (λz=>by rw[z,nT] at q;cases q) (st b o q)) new
   (fr.of_keeps λb o q nb=>⟨o,oth b o (O2 b o q nb) q,rq⟩) (oth e oe (Ne.symm hTe) he) hc hd h2 λh' y u=>hq h' y ?_
  exact λb o q nb=>u b o (oth b o (O2 b o q nb) q) nb
theorem PN {f:Value} (x:Fl B l e C (some f) s.heap) (hq:∀h',Fl B l e C (some .none) h'->s.heap.UpToSlots h'->Q () { s with heap:=h' }):wpAny M A (setFlight (.ref e) none) Q E s:=by
 obtain⟨st,new,fr,oe,vs,he,hc,hd,h2,T,oT,ts,h1,nT,hTe,hT,dT,iT⟩:=x;have hsz:3 < ts.size:=(Qad.mp iT).1;have oth:∀b o,b≠T->s.heap.get? b=some o->(s.heap.update T (Obj.mapFields (·.setIfInBounds 3 Value.none))).get? b=some o:=λb o hb q=>(Qal _ _ (Ne.symm hb)).trans q;have O2:∀b o,s.heap.get? b=some o->(∀ws,o.data≠.fields ws)->b≠T:=λb o q nb z=>by rw[z,hT] at q;cases q;exact nb ts dT
 unfold setFlight;refine QbX (wpAny_field he hd h1 ?_);rw[if_pos (show (Value.ref T != Value.none)=true from by simp)]
 refine wpAny_setField hT dT hsz (hq (s.heap.update T (Obj.mapFields (·.setIfInBounds 3 Value.none))) ⟨λb o q=>oth b o (λz=>by rw[z,nT] at q;cases q) (st b o q),new,fr.of_keeps λb o q nb=>⟨o,oth b o (O2 b o q nb) q,rq⟩,?_⟩
  λb o q nb=>⟨o.slots,oth b o (O2 b o q nb) q⟩)
 have dN:=Obj.data_mapFields dT (·.setIfInBounds 3 Value.none);exact⟨oe,vs,oth e oe (Ne.symm hTe) he,hc,hd,h2,T,_,_,h1,nT,hTe,Qar _ hT (Obj.isFreed_of_fields dN),dN,by simp[hsz]⟩
theorem Yw {fl:Option Value} (hfl:fl=none\/fl=some .none) (hfr:A.frames=some (env::outer)) (hf:env.frame=some L) (x:Fl B (env::outer) e C fl s.heap)
  (hq:∀h',Fl B outer e C (some .none) h'->s.heap.UpToSlots h'->Q () { s with heap:=h' }):wpAny M A (leaving env (.ref e)) Q E s:=by
 unfold leaving;refine QbX (Rt hfl hfr hf x λh1 y u1=>?_);refine PN y λh2 z u2=>hq h2 ⟨z.stays,z.new,z.fr.2.2,z.tr⟩ (u1.trans u2)
end
theorem Bd.there {P:Program} {w:World} {H:Hp} {h:Heap} {a:Addr} {o:HO} (x:Bd P w H h a o):∃u,h.get? a=some u:=by
 cases o with
 | lst xs=>obtain⟨_,its,n,_,q⟩:=x;exact⟨_,q⟩
 | tup xs=>obtain⟨_,its,_,ob,q,_⟩:=x;exact⟨_,q⟩
 | dK kvs=>obtain⟨_,_,vs,_,ob,es,ep,q,_⟩:=x;exact⟨_,q⟩
 | dT kvs=>obtain⟨_,_,xs,_,ob,es,ep,q,_⟩:=x;exact⟨_,q⟩
 | set S n=>obtain⟨ob,es,ep,t,q,_⟩:=x;exact⟨_,q⟩
 | ins C dx fs=>obtain⟨_,_,_,q,_⟩:=x;exact⟨_,q⟩
 | own y=>exact x
 | xd fs=>obtain⟨mA,⟨od,es,ep,q,_⟩,_⟩:=x;exact⟨_,q⟩
 | rng lo hi=>obtain⟨t,u,v,q⟩:=x;exact⟨_,q⟩
 | frz ob u=>exact⟨_,x.1⟩
 | tbl ps=>exact⟨_,x⟩
 | met f y=>exact⟨_,x⟩
 | ext φ=>exact x.2.1
structure Exc (P:Program) (w:World) (outer:List Env) (H:Hp) (s:Shared) (e C:Addr) (B:Heap) (H':Hp) (s':Shared):Prop where
 os:s'.os=s.os
 bare:AllBare s'.gens
 fl:∃fl,(fl=none\/fl=some .none)/\Fl B outer e C fl s'.heap
 un:Un (frs outer) [] H H' s.heap s'.heap
 hok:HOk P w H' s'.heap
 tin:∀b o,s'.heap.get? b=some o->H' b≠none->B.get? b=some o
 old:∀b o,s.heap.get? b=some o->H b=none->b∉frs outer->B.get? b=some o
 ex:∀b o,s.heap.get? b=some o->b∉frs outer->∃o',B.get? b=some o'
def CX1 (P:Program) (w:World):CXT:=λouter H s E ev s'=>∃e C B H',ev=.ref e/\Exc P w outer H s e C B H' s'/\E (.ref C) none H'
section
variable {P:Program} {w:World} {outer:List Env} {H H':Hp} {s s':Shared} {e C:Addr} {B h2:Heap} {fl:Option Value}
theorem Exc.Zu (x:Exc P w outer H s e C B H' s') (st:B.StaysIn h2):HOk P w H' h2:=λa o q=>
 (x.hok a o q).stay (λb u hb hu=>st b u (x.tin b u hu (by
  rcases hb with rfl | hb
  ·rw[q];exact λz=>nomatch z
  ·rw[hb];exact λz=>nomatch z))) (λ_ z=>z) λ_ _ z=>z
theorem Exc.ig (x:Exc P w outer H s e C B H' s') (f:Fl B outer e C fl h2) (u:s'.heap.UpToSlots h2):Un (frs outer) [] H H' s.heap h2:=by
 refine⟨λb o q n hb _=>f.stays b o (x.old b o q n hb),λb o q n hb hx=>?_,x.un.free,λb o q hx=>?_,x.un.tups,x.un.Em,x.un.Fg⟩
 ·obtain⟨sl,q1⟩:=x.un.slot b o q n hb hx;obtain⟨_,_,g⟩:=x.fl;obtain⟨_,o1,q2,nf⟩:=g.fr.mem hb;rw[q1] at q2;cases q2;obtain⟨sl2,q3⟩:=u b _ q1 nf;exact⟨sl2,q3⟩
 ·by_cases hb:b∈frs outer
  ·obtain⟨_,o1,q2,_⟩:=f.fr.mem hb;exact⟨o1,q2⟩
  ·obtain⟨o1,q1⟩:=x.ex b o q hb;exact⟨o1,f.stays b o1 q1⟩
theorem Exc.fK (x:Exc P w outer H s e C B H' s') (st:B.StaysIn h2):∀b o,h2.get? b=some o->H' b≠none->B.get? b=some o:=λb o q hb=>by
 cases hq:H' b with
 | none=>exact absurd hq hb
 | some v=>
  obtain⟨o1,q1⟩:=(x.hok b v hq).there;have q2:=x.tin b o1 q1 hb;have q3:=st b o1 q2;rw[q] at q3;cases q3;exact q2
theorem Exc.free (x:Exc P w outer H s e C B H' s'):H' e=none:=by
 cases hq:H' e with
 | none=>rfl
 | some v=>
  obtain⟨o1,q1⟩:=(x.hok e v hq).there;have q2:=x.tin e o1 q1 (by rw[hq];exact λz=>nomatch z);obtain⟨_,_,g⟩:=x.fl;rw[g.new] at q2;cases q2
theorem Exc.fresh (x:Exc P w outer H s e C B H' s'):s.heap.get? e=none:=by
 cases hq:s.heap.get? e with
 | none=>rfl
 | some o=>
  obtain⟨_,_,g⟩:=x.fl;by_cases hb:e∈frs outer
  ·obtain⟨_,o1,q1,nf⟩:=g.fr.mem hb;obtain⟨oe,vs,q2,_,q3,_⟩:=g.tr;rw[q1] at q2;cases q2;exact absurd q3 (nf vs)
  ·obtain⟨o1,q1⟩:=x.ex e o hq hb;rw[g.new] at q1;cases q1
end
section
variable {X:Cx} {jb:YC} {Z : St} {H H':Hp} {s s':Shared} {e C:Addr} {B h2:Heap} {fl:Option Value}
theorem Exc.made {args:YE} {h':Heap} (I:Inv X jb Z H s) (hx:Heap.MadeExcOf s.heap h' e (.ref C) args):Exc X.prog X.w X.stack H s e C (hideAll s.heap (frs X.stack)) H { s with heap:=h' }:=by
 have st:(hideAll s.heap (frs X.stack)).StaysIn s.heap:=λb o q=>PySem.W.of_hideAll _ q;refine⟨rq,I.bare,⟨none,.inl rfl,⟨λb o q=>hx.keeps b o (st b o q),?_,?_,?_⟩⟩,Un.kept hx.keeps,I.hok.kept hx.keeps,λb o q hb=>?_,λb o q n hb=>hideAll_get _ q hb,λb o q hb=>⟨o,hideAll_get _ q hb⟩⟩
 ·cases hq:(hideAll s.heap (frs X.stack)).get? e with
  | none=>rfl
  | some o=>
   have q:=st e o hq;rw[hx.new] at q;cases q
 ·have f0:s.heap.FunFrames (hideAll s.heap (frs X.stack)) X.stack:=PySem.W.funFrames_hide I.stack λenv he a ha=>List.mem_filterMap.mpr ⟨env,he,ha⟩;exact f0.of_keeps λb o q _=>⟨o,hx.keeps b o q,rq⟩
 ·obtain⟨t,q,_⟩:=hx.there;exact⟨_,_,q,rq,rq,rq,rq⟩
 ·cases hq:H b with
  | none=>exact absurd hq hb
  | some v=>
   obtain⟨o1,q1⟩:=(I.hok b v hq).there;have q2:=hx.keeps b o1 q1;have q':h'.get? b=some o:=q;rw[q'] at q2;cases q2;refine hideAll_get _ q1 λhm=>?_;rw[I.Ma b hm] at hq;cases hq
theorem Exc.leave {M:Model} {E1:YA} {Q:YH} (I:Inv X jb Z H s) (hs:X.stack=X.env::X.outer) (hf:X.env.frame=some X.env.locals) (hx:X.ex=[]) (x:Exc X.prog X.w X.stack H s e C B H' s')
  (hq:∀h2,Exc X.prog X.w X.outer X.H₀ X.s₀ e C B H' { s' with heap:=h2 }->Q () { s' with heap:=h2 }):wpAny M X.A (leaving X.env (.ref e)) Q E1 s':=by
 obtain⟨fl,hfl,f⟩:=x.fl;have f':=f;rw[hs] at f';have nl:∀b o,X.s₀.heap.get? b=some o->b≠X.env.locals:=λb o q=>QbP (QaH (QbO q) I.ok.above);have ns:∀b o,X.s₀.heap.get? b=some o->b∉X.fs->b∉frs X.stack:=λb o q hb hm=>(QbF.mp (I.La b hm)).elim (nl b o q) hb;have dH:∀b,b∈X.fs->b∈frs X.stack:=λb hb=>by
  rw[hs];unfold frs;rw[List.filterMap_cons,hf];exact Qau _ hb
 have nx:∀b:Addr,b∉X.ex:=λb=>by rw[hx];simp
 refine Yw hfl (I.ok.frames.trans (congrArg some hs)) hf f' λh2 g u=>hq h2 ⟨x.os.trans I.os,x.bare,⟨_,.inr rfl,g⟩,?_,x.Zu g.stays,x.fK g.stays,λb o q n hb=>?_,λb o q hb=>?_⟩
 ·refine⟨λb o q n hb _=>?_,λb o q n hb _=>?_,λb o q n _=>?_,λb o q _=>?_,λb xs q=>x.un.tups b xs (I.base.tups b xs q),λb o v q=>x.un.Em b o v (I.base.Em b o v q),λb ps q=>?_⟩
  ·exact g.stays b o (x.old b o (I.base.keep b o q n hb (nx b)) (I.base.free b o q n (nx b)) (ns b o q hb))
  ·obtain⟨sl,q1⟩:=I.base.slot b o q n hb (nx b);obtain⟨sl2,q2⟩:=x.un.slot b _ q1 (I.base.free b o q n (nx b)) (dH b hb) (by simp);obtain⟨_,o1,q3,nf⟩:=f.fr.mem (dH b hb);rw[q2] at q3;cases q3;obtain⟨sl3,q4⟩:=u b _ q2 nf;exact⟨sl3,q4⟩
  ·obtain⟨o1,q1⟩:=I.base.there b o q (nx b);exact x.un.free b o1 q1 (I.base.free b o q n (nx b)) (by simp)
  ·by_cases hb:b∈X.fs
   ·obtain⟨_,o1,q1,_⟩:=g.fr.mem hb;exact⟨o1,q1⟩
   ·obtain⟨o1,q1⟩:=I.base.there b o q (nx b);obtain⟨o2,q2⟩:=x.ex b o1 q1 (ns b o q hb);exact⟨o2,g.stays b o2 q2⟩
  ·obtain⟨m1,q1⟩:=I.base.Fg b ps q;obtain⟨m2,q2⟩:=x.un.Fg b _ q1;exact⟨m1++m2,by rw[q2,Array.append_assoc]⟩
 ·exact x.old b o (I.base.keep b o q n hb (nx b)) (I.base.free b o q n (nx b)) (ns b o q hb)
 ·obtain⟨o1,q1⟩:=I.base.there b o q (nx b);exact x.ex b o1 q1 (ns b o q hb)
theorem Exc.caught (I:Inv X jb Z H s) (x:Exc X.prog X.w X.stack H s e C B H' s') (f:Fl B X.stack e C fl h2) (u:s'.heap.UpToSlots h2):Inv X jb Z (upd H' e (xo e C)) { s' with heap:=h2 }:=by
 have v:=x.ig f u;have he:=x.fresh;have hn:=x.free;have ne:∀b o,s.heap.get? b=some o->b≠e:=λb o q z=>by rw[z,he] at q;cases q
 have un:Un (frs X.stack) [] H (upd H' e (xo e C)) s.heap h2:=⟨v.keep,v.slot,λb o q n hx=>by rw[Aj (ne b o q)];exact v.free b o q n hx,v.there,λb xs q=>by rw[Aj (Aq (v.tups b xs q) hn)];exact v.tups b xs q,
  λb o w q=>by rw[Aj (Aq (v.Em b o w q) hn)];exact v.Em b o w q,λb ps q=>by
   obtain⟨m,q1⟩:=v.Fg b ps q;exact⟨m,by rw[Aj (Aq q1 hn)];exact q1⟩⟩
 have hok:HOk X.prog X.w (upd H' e (xo e C)) h2:=λb o q=>by
  by_cases hb:b=e
  ·subst hb;rw[Ab] at q;cases q;have at_:=f.tr.at;refine⟨at_,?_,λh1 h3 p k=>?_⟩
   ·obtain⟨oe,vs,q1,_⟩:=at_;exact⟨oe,q1⟩
   ·obtain⟨oe,vs,q1,q2⟩:=p;exact⟨oe,vs,k oe q1,q2⟩
  ·rw[Aj hb] at q;exact (x.Zu f.stays b o q).stay (λc w _ q1=>q1) (λc q1=>by rw[Aj (Aq q1 hn)];exact q1) λc xs q1=>by rw[Aj (Aq q1 hn)];exact q1
 exact I.call' (s':={ s' with heap:=h2 }) x.os un hok x.bare λb z=>absurd z (by simp)
end
def Jk (X:Cx) (EX:St->XK):Prop:=∀(jb:YC) (Z : St) (H:Hp) (s:Shared) (ev:Value) (s':Shared),Inv X jb Z H s->CX1 X.prog X.w X.stack H s (EX Z) ev s'->X.xe ev s'
theorem Ow {X:Cx}:Jk X (λ_=>E0):=λ_ _ _ _ _ _ _ h=>by
 obtain⟨_,_,_,_,_,_,z⟩:=h;exact z.elim
theorem Wy {P:Program} {w:World} {K:YD} {mg:YB} {base:Heap} {N:YF} {qual:Str} {scope:Scope} {f:Addr} {cd:Value} {A:Around} {outer:List Env} {s:Shared} {H:Hp} {E:XK} :
  Jk (GJ (CX1 P w) P w K mg base N qual scope f cd A outer s H E) (λ_=>E):=λjb Z H1 s1 ev s' I h=>by
 obtain⟨e,C,B,H',rfl,x,q⟩:=h;exact x.leave I rfl rfl rfl λh2 y=>⟨e,C,B,H',rq,y,q⟩
def bD (C:Addr) (EX:St->XK) (t:TA):TS:=λ_ Z H=>t Z H λvs H1=>vs.length<=sizeLine/\EX Z (.ref C) none H1
theorem Kz {X:Cx} {EX:St->XK} {C:Addr} {x:Str} {np cpos pos:Pos} {e:Expr} {es:YJ} {t:TA} (hc:X.calm=true) (T:XCl X.K C) (hg:Gl X x) (hm:X.mg x=some (.ref C)) (hx:Jk X EX) (ha:PA X (e::es) t)
  (hdb:(x == ("__debug__":Str))=false:=by decide) (he:starEach (e::es) X.env=(false,eval e X.env)::starEach es X.env:=by rfl) (hpl:(backTo cpos (starEach es X.env)).any (·.1)=false:=by rfl) :
  PS X (.Raise (some (.Call (.Name x np) (e::es) [] cpos)) none pos) (bD C EX t):=by
 intro jb s Z H D I h;obtain⟨bm,N,nm,q,bs,hdct,sn,sub,ab,col,dd,k0,k1,k2,k3,k5,mN,hC,hN,hni,TL⟩:=T.obj I.mod.kin;refine wpAny_Raise_call_subT F.excBase_ValueError (bm:=bm) (nm:=nm) (C:=C) (q:=q) (bs:=bs) (N:=N) (sn:=sn) (hdct:=hdct) (sub:=sub) (col:=col) (ab:=ab) (dd:=dd) (k5:=k5) (k3:=k3) (k2:=k2) (k1:=k1) (k0:=k0) (TL.hasType (by trivial)) (I.ok.hd hc) (by rw[he];show (false || (backTo cpos (starEach es X.env)).any (·.1))=false;rw[hpl];rfl) hni (G7 I hg hm ⟨rfl,?_⟩ hdb);have h2:=ha cpos jb s Z H _ I h;rw[he] at h2 ⊢;refine Calls.evalArgs_plain (thn h2 λus s2 zz=>?_);obtain⟨vs,H2,I2,r,hl,hE⟩:=zz;refine⟨rq,?_⟩;refine⟨by rw[<-r.length];exact hl,I2.bk _ _ hC,hN.keeps I2.bk,TL.keeps I2.bk,λh' ea mx=>?_⟩;exact hx jb Z H2 s2 (.ref ea) { s2 with heap:=h' } I2 ⟨ea,C,_,H2,rq,Exc.made I2 mx,hE⟩
section
variable {M:Model} {A:Around} {E:YA} {h:Heap} {g:Array GenState} {d:Drawn} {t:Nat} {os:OsState} {K:YD} {e C HC:Addr}
theorem bh {Q:Bool->Shared->Prop} (X:K.In h) (TH:XCl K HC) (hs:subIn K (.ref C) (.ref HC)=some true) (x:XAt e C h) (hq:Q true ⟨h,g,d,t,os⟩):wpAny M A (excMatches (.ref e) (.ref HC)) Q E ⟨h,g,d,t,os⟩:=by
 obtain⟨oe,vs,he,hc,_⟩:=x;obtain⟨dd,cd,sl,ho⟩:=TH.look;have hH:=X _ _ ho;have f1:=looks_subIn (M:=M) X TH.mb;have f2:=looks_subIn (M:=M) X hs;have f3:=tc_notTuple;unfold excMatches
 repeat (first | (with_reducible refine QaZ he ?_;rw[hc]) | with_reducible refine QaZ hH ?_ | with_reducible refine f1.at ?_ | with_reducible refine f2.at ?_ | wp_step)
 exact hq
end
abbrev Cx.by (X:Cx) (pn:YC) (E:YA):Cx:={ X with pn:=pn,xe:=E }
abbrev Cx.suite (X:Cx) (pn:YC) (ev:Value):Cx:={ X with pn:=pn,xe:=λ_ _=>False,A:=X.A.mark (some ev),calm:=false }
section
variable {X:Cx} {jb Ef pn:YC} {Z : St} {H:Hp} {s:Shared} {E:YA} {ev:Value}
theorem Inv.by (I:Inv X jb Z H s) (E:YA):Inv (X.by (X.pn++jb) E) [] Z H s:=
 ⟨⟨I.ok.mod,I.ok.kind,I.ok.glob,I.ok.blt,I.ok.above,I.ok.inj,I.ok.has,I.ok.cab,I.ok.hd,I.ok.frames,I.ok.stk,I.ok.exf,I.ok.bs,I.ok.bsz,I.ok.Hr,I.ok.GF,I.ok.Ds,I.ok.frf⟩,I.os,I.bare,I.base,I.loc,I.cell,I.free,I.Dg,
  λp hp=>I.pin p (by simpa using hp),I.hok,I.len⟩
theorem Inv.Iv (I:Inv (X.by (X.pn++jb) E) Ef Z H s):Inv X jb Z H s:=
 ⟨⟨I.ok.mod,I.ok.kind,I.ok.glob,I.ok.blt,I.ok.above,I.ok.inj,I.ok.has,I.ok.cab,I.ok.hd,I.ok.frames,I.ok.stk,I.ok.exf,I.ok.bs,I.ok.bsz,I.ok.Hr,I.ok.GF,I.ok.Ds,I.ok.frf⟩,I.os,I.bare,I.base,I.loc,I.cell,I.free,I.Dg,
  λp hp=>I.pin p (Qav _ hp),I.hok,I.len⟩
theorem Inv.suite (I:Inv (X.by pn E) Ef Z H s) (ev:Value):Inv (X.suite pn ev) Ef Z H s:=
 ⟨⟨I.ok.mod,I.ok.kind,I.ok.glob,I.ok.blt,I.ok.above,I.ok.inj,I.ok.has,I.ok.cab,(λz=>nomatch z),I.ok.frames,I.ok.stk,I.ok.exf,I.ok.bs,I.ok.bsz,I.ok.Hr,I.ok.GF,I.ok.Ds,I.ok.frf⟩,I.os,I.bare,I.base,I.loc,I.cell,I.free,I.Dg,
  I.pin,I.hok,I.len⟩
theorem Inv.JR (hd:X.calm=true->X.A.handled=none) (I:Inv (X.suite (X.pn++jb) ev) Ef Z H s):Inv X jb Z H s:=
 ⟨⟨I.ok.mod,I.ok.kind,I.ok.glob,I.ok.blt,I.ok.above,I.ok.inj,I.ok.has,I.ok.cab,hd,I.ok.frames,I.ok.stk,I.ok.exf,I.ok.bs,I.ok.bsz,I.ok.Hr,I.ok.GF,I.ok.Ds,I.ok.frf⟩,I.os,I.bare,I.base,I.loc,I.cell,I.free,I.Dg,
  λp hp=>I.pin p (Qav _ hp),I.hok,I.len⟩
theorem SP.Iv {D:Ends} {f:Flow} (h:SP (X.by (X.pn++jb) E) Ef D f s):SP X jb D f s:=by
 cases f with
 | next=>obtain⟨σ',H',I,q⟩:=h;exact⟨σ',H',I.Iv,q⟩
 | brk=>obtain⟨σ',H',I,q⟩:=h;exact⟨σ',H',I.Iv,q⟩
 | cont=>obtain⟨σ',H',I,q⟩:=h;exact⟨σ',H',I.Iv,q⟩
 | ret u=>obtain⟨v,σ',H',I,r,q⟩:=h;exact⟨v,σ',H',I.Iv,r,q⟩
theorem Kf {M:Model} {A:Around} {E1:YA} {i:Nat} {n:Str} {pos:Pos} {Q:YH} (I:Inv X jb Z H s) (hN:X.N.Nodup) (hi:X.N[i]?=some n) (hl:X.env.scope.names.lookup n=some .local)
  (hq:∀s',Inv X jb (Z.set i none) H s'->Q () s'):wpAny M A (do bindName X.env n .none;unbindBehindTheSuite X.env n pos) Q E1 s:=by
 obtain⟨m,hn,hm⟩:=id I.loc;have hcls:(X.env.scope.kind == .class || (X.env.scope.kind == .module&&X.env.locals != X.env.globals))=false:=by rw[I.ok.kind];rfl
 refine wpAny_nameGoes_keeps hl hn hcls λh' v nsv sb=>?_;have hiσ : i < Z.length:=by rw[I.len];exact (Qae.mp hi).1
 obtain⟨oL,_,_,hoL,_⟩:=id hn;have below:∀b o,X.s₀.heap.get? b=some o->b≠X.env.locals:=λb o q=>QbP (QaH (QbO q) I.ok.above);refine hq _ ⟨I.ok,I.os,I.bare,⟨λb o q nn hb hx=>?_,λb o q nn hb hx=>?_,I.base.free,λb o q hx=>?_,I.base.tups,I.base.Em,I.base.Fg⟩,⟨_,nsv,λj y w e1 e2 e3=>?_⟩,λy c q=>?_,I.free,I.Dg,λp hp=>?_,λb ob q=>?_,?_⟩
 ·exact (sb.2 b (below b o q)).trans (I.base.keep b o q nn hb hx)
 ·obtain⟨sl,q1⟩:=I.base.slot b o q nn hb hx;exact⟨sl,(sb.2 b (below b o q)).trans q1⟩
 ·obtain⟨o',q1⟩:=I.base.there b o q hx;exact⟨o',(sb.2 b (below b o q)).trans q1⟩
 ·by_cases hj:j=i
  ·subst hj;rw[Qam hiσ] at e2;cases e2
  ·rw[Qaw (Ne.symm hj)] at e2;obtain⟨u,r,q⟩:=hm j y w e1 e2 e3;refine⟨u,r,?_⟩;rcases q with⟨k,q⟩|⟨k,c,q,z⟩
   ·have ny:y≠n:=λz=>hj (KC hN e1 (z ▸ hi));exact .inl ⟨k,by simp[ny,q]⟩
   ·exact .inr ⟨k,c,q,z.sameBut sb (I.cne y c q)⟩
 ·obtain⟨u,z⟩:=I.cell y c q;exact⟨u,z.sameBut sb (I.cne y c q)⟩
 ·obtain⟨q,nn,ne,nf,dd⟩:=I.pin p hp;exact⟨(sb.2 p.1 ne).trans q,nn,ne,nf,dd⟩
 ·refine (I.hok b ob q).stay (λc u hc q1=>(sb.2 c ?_).trans q1) (λ_ z=>z) λ_ _ z=>z;rintro rfl;rcases hc with rfl | hc
  ·rw[I.free] at q;cases q
  ·rw[I.free] at hc;cases hc
 ·rw[Qbv];exact I.len
end
def Ends.drop (D:Ends) (i:Nat):Ends where
 nx:=fun Z H=>D.nx (Z.set i none) H
 rt:=D.rt
 bk:=fun Z H=>D.bk (Z.set i none) H
 ct:=fun Z H=>D.ct (Z.set i none) H
def TY (K:YD) (HC:Addr) (i:Nat) (th:Addr->TS) (D:Ends):St->XK:=fun Z cls _ H=>∃C,cls=.ref C/\XCl K C/\subIn K (.ref C) (.ref HC)=some true/\∀e,H e=none->th e (D.drop i) (Z.set i (some (.ref e))) (upd H e (xo e C))
def iw (K:YD) (HC:Addr) (i:Nat) (tb:(St->XK)->TS) (th:Addr->TS):TS:=λD Z H=>tb (TY K HC i th D) D Z H
theorem bT {X:Cx} {HC:Addr} {i:Nat} {n x:Str} {tb:(St->XK)->TS} {th:Addr->TS} {body suite:List Stmt} {b₀ : Stmt} {np hpos pos:Pos} (hN:X.N.Nodup) (hi:X.N[i]?=some n) (hl:X.env.scope.names.lookup n=some .local) (hst:X.stack=X.env::X.outer)
  (hf:X.env.frame=some X.env.locals) (hg:Gl X x) (hm:X.mg x=some (.ref HC)) (TH:XCl X.K HC)
  (h1:∀pn E1 EX,Jk (X.by pn E1) EX->PSs (X.by pn E1) body (tb EX)) (h2:∀pn (e:Addr),PSs (X.suite pn (.ref e)) (b₀::suite) (th e)) (hdb:(x == ("__debug__":Str))=false:=by decide) :
  PS X (.Try body [.ExceptHandler (some (.Name x np)) (some n) (b₀::suite) hpos] [] [] pos) (iw X.K HC i tb th):=by
 intro jb s Z H D I h;have hfr:X.A.frames=some (X.env::X.outer):=I.ok.frames.trans (congrArg some hst);let E1:YA:=λev s''=>∃(Ef:YC) (σ':St) (H':Hp) (s':Shared),Inv (X.by (X.pn++jb) λ_ _=>False) Ef σ' H' s'/\CX1 X.prog X.w X.stack H' s' (TY X.K HC i th D σ') ev s'';have hp:Jk (X.by (X.pn++jb) E1) (TY X.K HC i th D):=λEf σ' H' s' ev s'' I' c=>⟨Ef,σ',H',s',⟨⟨I'.ok.mod,I'.ok.kind,I'.ok.glob,I'.ok.blt,I'.ok.above,I'.ok.inj,I'.ok.has,I'.ok.cab,I'.ok.hd,I'.ok.frames,I'.ok.stk,I'.ok.exf,I'.ok.bs,I'.ok.bsz,I'.ok.Hr,I'.ok.GF,I'.ok.Ds,I'.ok.frf⟩,I'.os,I'.bare,I'.base,I'.loc,I'.cell,I'.free,I'.Dg,I'.pin,I'.hok,I'.len⟩,c⟩;refine wpAny_Try_except (QbZ (h1 _ E1 _ hp [] s Z H D (I.by E1) h) (λf s1 q=>?_) λev s1 q=>?_)
 ·cases f with
  | next=>exact wpAny_execs_nil q.Iv
  | brk=>exact q.Iv
  | cont=>exact q.Iv
  | ret u=>exact q.Iv
 ·obtain⟨Ef,σ',H',s',I',e,C,B,H2,rfl,x1,D1,hC,T,hs,hth⟩:=q;cases hC;obtain⟨fl,hfl,f0⟩:=x1.fl;rw[hst] at f0;refine Rt hfl hfr hf f0 λha fa ua=>?_;refine PN fa λhb fb ub=>?_;have fb':Fl B X.stack e C (some .none) hb:=by rw[hst];exact fb
  have J:=Exc.caught I' x1 fb' (ua.trans ub);have JS:=J.suite (Value.ref e);refine wpAny_handleBy_cons (codeAny_handlers_test (G7 JS hg hm ?_ hdb)) (by intro q;cases q);refine bh JS.kIn TH hs fb.tr.at (codeAny_handlers_suite_as ?_);refine PN fb λhc fc uc=>?_;have fc':Fl B X.stack e C (some .none) hc:=by rw[hst];exact fc
  have J2:=(Exc.caught I' x1 fc' ((ua.trans ub).trans uc)).suite (Value.ref e);refine IK (X:=X.suite (X.pn++jb) (.ref e)) (v:=.ref e) (i:=i) J2 hN hi (.inl hl) rfl (λs4 J4=>?_) (.inr hl);refine QbZ (h2 _ _ Ef s4 _ _ (D.drop i) J4 (hth e x1.free)) (λf s5 q=>?_) λ_ _ z=>z.elim;cases f with
  | next=>
   obtain⟨σ5,H5,I5,q5⟩:=q;exact Kf (I5.JR I.ok.hd) hN hi hl λs6 I6=>⟨_,_,I6,q5⟩
  | brk=>
   obtain⟨σ5,H5,I5,q5⟩:=q;exact Kf (I5.JR I.ok.hd) hN hi hl λs6 I6=>⟨_,_,I6,q5⟩
  | cont=>
   obtain⟨σ5,H5,I5,q5⟩:=q;exact Kf (I5.JR I.ok.hd) hN hi hl λs6 I6=>⟨_,_,I6,q5⟩
  | ret u=>
   obtain⟨v5,σ5,H5,I5,r5,q5⟩:=q;exact Kf (I5.JR I.ok.hd) hN hi hl λs6 I6=>⟨v5,_,_,I6,r5,q5⟩
structure Gm (k:Nat) (A:Around):Prop where
 dp:A.depth+3*k+5 < recursionLimit
 un:A.units+16*k+200 < cLine
theorem Bh.inH {k:Nat} {A:Around} (r:Bh k A) (h:Option Value):Gm k (A.mark h):=⟨r.dp,r.un⟩
theorem Gm.deeper {k:Nat} {A:Around} (r:Gm (k+1) A) (env:Env):Gm k (A.deeper env):=
 ⟨by have:=r.dp;show A.depth+1+3*k+5 < _;omega,by have:=r.un;show A.units+3+16*k+200 < _;omega⟩
theorem Gm.mono {j k:Nat} {A:Around} (r:Gm k A) (h:j<=k):Gm j A:=⟨by have:=r.dp;omega,by have:=r.un;omega⟩
structure NP (P:Program) (w:World) (K:YD) (mg:YB) (base:Heap) (x:Str) (k:Nat) (ps:YF) (sp:Sp):Prop where
 ex:∃(f:Addr) (fd:FuncData),mg x=some (.ref f)/\keepIn K (.ref f)=true/\Binds K fd ps []/\(∀vs H Q E,sp vs H Q E->vs.length=ps.length) /\
  ∀(A:Around) (outer:List Env) (s:Shared) (H:Hp) (args:Args) (us:YE) (vs:YG) (Q:VK),Gm k A->GP P w K mg base A outer s H->BindsTo s fd args (ps.zip us)->Vals vs us->sp vs H Q E0 ->
   codeAny (model P w) A (.call (.ref f) args) (CR CX0 outer P w H s Q E0) s
abbrev cxH (P:Program) (w:World) (K:YD) (mg:YB) (base:Heap) (N:YF) (qual:Str) (scope:Scope) (f:Addr) (cd:Value) (A:Around) (outer:List Env) (s:Shared) (H:Hp):Cx:=
 { GJ CX0 P w K mg base N qual scope f cd A outer s H E0 with calm:=false,xe:=λ_ _=>False }
theorem Code.gK {P:Program} {w:World} {K:YD} {mg:YB} {base:Heap} {x:Str} {st:Stmt} {ps N:YF} {k:Nat} {sp:Sp} (C:Code K mg x st ps) (S:Az N ps (Ad st)) (len:∀vs H Q E,sp vs H Q E->vs.length=ps.length)
  (hbody:∀(f:Addr) (cdv:Value) (A:Around) (outer:List Env) (s:Shared) (H:Hp) (vs:YG) (Q:VK),Gm k (A.deeper (envOfC x (Ad st) s.heap.objs.size f cdv))->sp vs H Q E0 ->
   ∃t,PSs (cxH P w K mg base N x (Ad st) f cdv A outer s H) (Av st) t/\t { nx:=λ_ H'=>Q .non H',rt:=Q } (start N vs) H):NP P w K mg base x (k+1) ps sp:=by
 obtain⟨f,fd,F,m,b⟩:=C.ex;refine⟨f,fd,m,F.kp,b,len,λA outer s H args us vs Q hr e0 hb r hsp=>?_⟩;obtain⟨oc,od,kV,doc,pm,an,cdv,ct,osl,rfl,lk,hcd⟩:=F.ex;have hlen:=len _ _ _ _ hsp;have KX:K.In s.heap:=e0.mod.kin.keeps λb o q=>(e0.bs b o q).1;have lim:s.heap.NoLimit:=e0.mod.nolimit.keeps λb o q=>(e0.bs b o q).1;have hkind:∀y∈ps.zip us,(Ad st).names.lookup y.1=some .local\/((Ad st).names.lookup y.1=some .cell/\((cellsFrom (s.heap.objs.size+1) (Ad st).names []).lookup y.1).isSome=true):=λ⟨n,v⟩ hy=>by
  rcases S.par n (List.of_mem_zip hy).1 with q | q
  ·exact .inl q
  ·exact .inr ⟨q,PySem.W.cellsFrom_some _ _ _ (.inl q)⟩
 refine codeAny_call_function (by have:=hr.dp;omega) (KX _ _ lk) rfl S.co S.gen rfl (PySem.W.codeRec_of KX hcd) (hb _ _ _ _ ?_);refine wpAny_newFunctionEnv_cells S.kind hkind λenv he s1 ic=>?_;subst he;refine⟨lim.keeps ic.toInCall.keep,codeAny_func ?_⟩;obtain⟨t,ht,hq⟩:=hbody f cdv A outer s H vs Q (hr.deeper _) hsp;have e1:GP P w K mg base { A with handled:=none } outer s H:=⟨e0.frames,e0.mod,e0.bs,e0.bsz,e0.Ds,e0.frf,e0.hok,e0.bare⟩;have I0:Inv (GJ CX0 P w K mg base N x (Ad st) f cdv { A with handled:=none } outer s H E0) [] (start N vs) H s1:=MJ S rfl e1 hlen r ic;have I:Inv (cxH P w K mg base N x (Ad st) f cdv A outer s H) [] (start N vs) H s1:=
  ⟨⟨I0.ok.mod,I0.ok.kind,I0.ok.glob,I0.ok.blt,I0.ok.above,I0.ok.inj,I0.ok.has,I0.ok.cab,(λz=>nomatch z),Around.frames_deeper e0.frames,I0.ok.stk,I0.ok.exf,I0.ok.bs,I0.ok.bsz,I0.ok.Hr,I0.ok.GF,I0.ok.Ds,I0.ok.frf⟩,I0.os,I0.bare,I0.base,I0.loc,I0.cell,I0.free,I0.Dg,
   I0.pin,I0.hok,I0.len⟩
 refine QbZ (ht [] s1 (start N vs) H _ I hq) (λfl s' hs=>?_) λe s' z=>z.elim;have fin:∀{σ':St} {H':Hp} {v:V} {u:Value},Inv (cxH P w K mg base N x (Ad st) f cdv A outer s H) [] σ' H' s'->RelV v u->Q v H'->CE outer P w H s Q u s':=λ{σ' H' v u} J rv q=>⟨v,H',J.os,J.bare,J.base,J.hok,rv,q⟩;cases fl with
 | ret u=>
  obtain⟨v,σ',H',J,rv,q⟩:=hs;exact fin J rv q
 | next=>
  obtain⟨σ',H',J,q⟩:=hs;exact fin (v:=V.non) (u:=Value.none) J rfl q
 | brk=>obtain⟨_,_,_,q⟩:=hs;exact False.elim q
 | cont=>obtain⟨_,_,_,q⟩:=hs;exact False.elim q
theorem cj {X:Cx} {k k':Nat} {ps:YF} {sp:Sp} {x:Str} {p pos:Pos} {e:Expr} {es:YJ} {t:TA} (g:NP X.prog X.w X.K X.mg X.base x k ps sp) (hr:Gm k' X.A) (ha:PA X (e::es) t) (hk:k<=k':=by decide)
  (hg:Gl X x:=by rfl) (hdb:(x == ("__debug__":Str))=false:=by decide) (he:starEach (e::es) X.env=(false,eval e X.env)::starEach es X.env:=by rfl) (hpl:(backTo pos (starEach es X.env)).any (·.1)=false:=by rfl) :
  PE X (.Call (.Name x p) (e::es) [] pos) (RN sp [] E0 t):=by
 intro jb s Z H Q I h;obtain⟨f,fd,m,kp,b,len,run⟩:=g.ex;refine QaM (G7 I hg m ?_ hdb);refine callWith_K (h₀:=X.base) I.ok.mod.kin kp (thn (ha pos jb s Z H _ I h) λus s1 zz=>?_) he hpl;obtain⟨vs,H1,I1,r,q⟩:=zz;refine⟨I1.kIn,?_⟩;have q:sp (vs++[]) H1 Q E0:=q;rw[Qbq] at q;have hl:us.length=ps.length:=by rw[<-r.length];exact len _ _ _ _ q
 have bd:=b s1 us I1.kIn (by rw[Qbq];exact hl);rw[Qbq] at bd;refine wpAny_call (QbT (run X.A X.stack s1 H1 ⟨us,[]⟩ us vs Q (hr.mono hk) I1.env0 bd r q) λrr s' hq=>?_);cases rr with
 | error ev=>exact False.elim hq
 | ok fl=>
  cases fl with
  | ret u=>exact I1.after hq
  | next=>exact False.elim hq
  | brk=>exact False.elim hq
  | cont=>exact False.elim hq
@[irreducible] def Sg (K:YD):YG->Hp->VK->Prop:=λxs H Q=>∃a D C b,xs=[.ref a,.ref D]/\H a=some (xo a C)/\XCl K C/\kitOne K (.ref C) (.ref D)=some b/\Q (.bl b) H
theorem BZ {X:Cx}:Cq X (.builtin "isinstance") (Sg X.K):=by
 intro jb s Z H xs us Q I r h;unfold Sg at h;obtain⟨a,D,C,b,rfl,ea,T,k,q⟩:=h;obtain⟨u,w',rfl,rx,rt⟩:=vals2 r;cases rx;cases rt;exact Lr I T ea k λtk=>⟨.bl b,H,I.tok tk,rq,q⟩
@[irreducible] def Nt (K:YD):YG->Hp->VK->Prop:=λxs H Q=>∃a T C b,xs=[.ref a,.ty T]/\H a=some (xo a C)/\XCl K C/\kitOne K (.ref C) (.type T)=some b/\Q (.bl b) H
theorem VN {X:Cx}:Cq X (.builtin "isinstance") (Nt X.K):=by
 intro jb s Z H xs us Q I r h;unfold Nt at h;obtain⟨a,T,C,b,rfl,ea,TC,k,q⟩:=h;obtain⟨u,w',rfl,rx,rt⟩:=vals2 r;cases rx;cases rt;exact Lr I TC ea k λtk=>⟨.bl b,H,I.tok tk,rq,q⟩
end L2
namespace L2
open PySem PySem.Spec PyProof.Rows PySem.SeqAt
theorem Bg {c:Const} {k:Nat} {p:Pos} {es:YJ} {env:Env}:starEach (.Constant c k p::es) env=(false,eval (.Constant c k p) env)::starEach es env:=by rfl
theorem ZG {f:Expr} {as:YJ} {ks:List Keyword} {p:Pos} {es:YJ} {env:Env}:starEach (.Call f as ks p::es) env=(false,eval (.Call f as ks p) env)::starEach es env:=by rfl
theorem bK {as:YJ} {k:Nat} {p:Pos} {es:YJ} {env:Env}:starEach (.Tuple as k p::es) env=(false,eval (.Tuple as k p) env)::starEach es env:=by rfl
def isT:Value->Bool
 | .bool b=>b
 | _=>false
theorem Qp:∀{bs:List Bool} {us:YE},Vals (bs.map V.bl) us->us=bs.map Value.bool
 | [],_,.nil=>rfl
 | b::bs,_,.cons r t=>by
  cases (show _=Value.bool b from r)
  rw[Qp t];rfl
section
variable {X:Cx}
@[irreducible] def JW:V->YG->Hp->VK->Prop:=λx xs H Q=>∃(l:Addr) (bs:List Bool),x=.ref l/\xs=[.bl true]/\H l=some (.lst (bs.map V.bl))/\Q (.int ((bs.countP id:Nat):Int)) H
theorem eqT {A:Around} {s:Shared} {bs:List Bool}:∀y,y∈(bs.map Value.bool).toArray->EqAt A s y (.bool true) (isT y):=λy hy=>by
 have hy':y∈bs.map Value.bool:=by simpa using hy
 obtain⟨b,_,rfl⟩:=QbQ.mp hy';have:=EqAt.bool_bool (A:=A) (s:=s) b true;rw[show (b == true)=isT (.bool b) by cases b <;> rfl] at this;exact this
theorem VG {l:Addr} {bs:List Bool} {H:Hp} {Q:VK} (h:H l=some (.lst (bs.map V.bl))) (q:Q (.int ((bs.countP id:Nat):Int)) H):JW (.ref l) [.bl true] H Q:=by
 unfold JW;exact⟨l,bs,rq,rq,h,q⟩
theorem Vg:MtM X "list.count" JW:=by
 intro jb s Z H x vs v us Q I rx rv h;unfold JW at h;obtain⟨l,bs,rfl,rfl,hH,q⟩:=h;cases rx;obtain⟨u,rfl,ru⟩:=rv.one;cases (show _=Value.bool true from ru)
 obtain⟨z,its,n,r,hl,e⟩:=I.JB hH;have hi:=Qp r;subst hi;refine call_meets F.slot_list_count ⟨_,e,rq⟩ F.entry_list_count (F.args_list_count_2 _ _) (list_countAt l (bs.map Value.bool).toArray n none #[] (.bool true) isT) ⟨e,eqT,?_⟩;refine⟨.int ((bs.countP id:Nat):Int),H,I.tok _,⟨s.toks,?_⟩,q⟩;have hc:(bs.map Value.bool).countP isT=bs.countP id:=by
  rw[List.countP_map];congr 1
 simp only[hc]
@[irreducible] def JV:V->YG->Hp->VK->Prop:=λx xs H Q=>∃(l:Addr) (bs:List Bool) (j:Nat),x=.ref l/\xs=[.bl true]/\H l=some (.lst (bs.map V.bl))/\j<=1000/\bs[j]?=some true/\(∀m,m < j->bs[m]?=some false)/\Q (.int (j:Int)) H
theorem Vq {l:Addr} {bs:List Bool} {j:Nat} {H:Hp} {Q:VK} (h:H l=some (.lst (bs.map V.bl))) (h1:j<=1000) (h2:bs[j]?=some true) (h3:∀m,m < j->bs[m]?=some false) (q:Q (.int (j:Int)) H):JV (.ref l) [.bl true] H Q:=by
 unfold JV;exact⟨l,bs,j,rq,rq,h,h1,h2,h3,q⟩
theorem Vf:MtM X "list.index" JV:=by
 intro jb s Z H x vs v us Q I rx rv h;unfold JV at h;obtain⟨l,bs,j,rfl,rfl,hH,hj1,hj,hno,q⟩:=h;cases rx;obtain⟨u,rfl,ru⟩:=rv.one;cases (show _=Value.bool true from ru)
 obtain⟨z,its,n,r,hl,e⟩:=I.JB hH;have hi:=Qp r;subst hi;have hjl:j < bs.length:=(Qae.mp hj).1;have hj2:j < (bs.map Value.bool).toArray.size:=by simpa using hjl
 have hit:isT ((bs.map Value.bool).toArray[j]'hj2)=true:=by
  have h1:bs[j]=true:=(Qae.mp hj).2;simp[h1,isT]
 have hn:∀m (hm:m < (bs.map Value.bool).toArray.size),m < j->isT (bs.map Value.bool).toArray[m]=false:=λm hm hmj=>by
  have h1:=(Qae.mp (hno m hmj)).2;simp[h1,isT]
 refine call_meets F.slot_list_index ⟨_,e,rq⟩ F.entry_list_index (F.args_list_index_2 _ _) (list_indexAt l (bs.map Value.bool).toArray n none #[] (.bool true) isT j hj2 (Int.lt_of_le_of_lt (b:=1000) (by omega) (by trivial)) hit hn) ⟨e,eqT,?_⟩;exact⟨.int (j:Int),H,I.tok _,⟨_,rq⟩,q⟩
end
theorem Dr {K:YD} {a D C:Addr} {b:Bool} {H:Hp} {Q:VK} (h:H a=some (xo a C)) (T:XCl K C) (k:kitOne K (.ref C) (.ref D)=some b) (q:Q (.bl b) H):Sg K [.ref a,.ref D] H Q:=by
 unfold Sg;exact⟨a,D,C,b,rq,h,T,k,q⟩
theorem aK {K:YD} {a C:Addr} {T:String} {b:Bool} {H:Hp} {Q:VK} (h:H a=some (xo a C)) (TC:XCl K C) (k:kitOne K (.ref C) (.type T)=some b) (q:Q (.bl b) H):Nt K [.ref a,.ty T] H Q:=by
 unfold Nt;exact⟨a,T,C,b,rq,h,TC,k,q⟩
section
variable {prog:Program} {w:World} {A:Around} {E:YA} {s:Shared}
end
end L2
namespace L2
open PySem PySem.Spec PyProof.Rows
section
variable {X:Cx} {jb:YC} {Z : St} {H:Hp} {s:Shared} {a:Addr} {kvs:YM} {o:Obj}
end
section
variable {a l:Addr} {o:Obj} {kvs:YM} {g:TG} {tb:TS} {D:Ends} {Z : St} {H:Hp} {tt:TT} {te tk tv:TE} {Q:VK}
end
open PySem.W (KasT kas_asc kas_desc kas_rev kas_tail3 kas_descPart kas_count kas_place kas_bin kas_sort)
def DQ {α : Type} (n:Nat) (P:α->Prop):KasT α->Prop
 | .ret a=>P a
 | .ask i j k=>i < n/\j < n/\∀b,DQ n P (k b)
theorem Fv {α β : Type} {n:Nat} {P:α->Prop} {Q:β->Prop} {f:α->KasT β}:∀t:KasT α,DQ n P t->(∀a,P a->DQ n Q (f a))->DQ n Q (t.bind f)
 | .ret a,h,q=>q a h
 | .ask i j k,h,q=>⟨h.1,h.2.1,λb=>Fv (k b) (h.2.2 b) q⟩
def Pm (n:Nat) (p:Array Nat):Prop:=p.toList.Perm (List.range n)
theorem Pm.rev {n:Nat} {p:Array Nat} (h:Pm n p) (i j:Nat):Pm n (kas_rev p i j):=(Array.perm_iff_toList_perm.mp (mirror_perm p i j ((j - i) / 2))).trans h
theorem Pm.bub {n:Nat} {p:Array Nat} (h:Pm n p) (k d:Nat):Pm n (bubble p k d):=(Array.perm_iff_toList_perm.mp (bubble_perm p k d)).trans h
theorem Pm.lt {n:Nat} {p:Array Nat} (h:Pm n p) (n0:0 < n) (i:Nat):p.getD i 0 < n:=by
 by_cases hi:i < p.size
 ·have e:p.getD i 0=p[i]:=by simp[hi]
  rw[e];have hm:p[i]∈p.toList:=by simp
  exact QbE.mp (h.mem_iff.mp hm)
 ·have e:p.getD i 0=0:=by simp[hi]
  rw[e];exact n0
section
variable {n:Nat} (n0:0 < n)
include n0
theorem Mv {p:Array Nat} (h:Pm n p):∀f k,DQ n (λ_=>True) (kas_asc p f k)
 | 0,k=>trivial
 | f+1,k=>⟨h.lt n0 _,h.lt n0 _,λb=>by
  cases b with
  | true=>exact trivial
  | false=>exact Mv h f (k+1)⟩
theorem Ji:∀f (p:Array Nat),Pm n p->∀k q,DQ n (λr:Array Nat×Nat×Nat=>Pm n r.1) (kas_desc f p k q)
 | 0,p,h,k,q=>h
 | f+1,p,h,k,q=>⟨h.lt n0 _,h.lt n0 _,λb=>by
  cases b with
  | true=>
   show DQ n _ (if q > 0 then kas_desc f (kas_rev p (k - (q+1)) k) (k+1) 0 else kas_desc f p (k+1) 0)
   split
   ·exact Ji f _ (h.rev _ _) _ _
   ·exact Ji f _ h _ _
  | false=>exact⟨h.lt n0 _,h.lt n0 _,λd=>by
    cases d with
    | true=>exact h
    | false=>exact Ji f _ h _ _⟩⟩
theorem Qq {p:Array Nat} (h:Pm n p) (a b:Nat):DQ n (λr:Nat×Array Nat=>Pm n r.2) (kas_tail3 a b p):=
 Fv _ (Mv n0 (h.rev 0 a) _ _) λm _=>h.rev 0 a
theorem JQ {p:Array Nat} (h:Pm n p) (a b:Nat):DQ n (λr:Nat×Array Nat=>Pm n r.2) (kas_descPart a b p):=
 Fv _ (Ji n0 _ p h _ _) λr hr=>by
  show DQ n _ (if r.2.2 > 0 then _ else _)
  split
  ·exact Qq n0 (Pm.rev hr _ _) _ _
  ·exact Qq n0 hr _ _
theorem M8 {p:Array Nat} (h:Pm n p) (a:Nat):DQ n (λr:Nat×Array Nat=>Pm n r.2) (kas_count a p):=
 Fv _ (Mv n0 h _ _) λm _=>by
  show DQ n _ (if (m == a)=true then _ else if m > 1 then _ else _)
  split
  ·exact h
  ·split
   ·refine⟨h.lt n0 _,h.lt n0 _,λb=>?_⟩;cases b with
    | true=>exact h
    | false=>exact JQ n0 (h.rev _ _) _ _
   ·exact JQ n0 h _ _
theorem JN {p:Array Nat} (h:Pm n p) (k:Nat):∀f l r,DQ n (λ_=>True) (kas_place p k f l r)
 | 0,_,_=>trivial
 | f+1,l,r=>by
  show DQ n _ (if l ≥ r then _ else _)
  split
  ·exact trivial
  ·refine⟨h.lt n0 _,h.lt n0 _,λb=>?_⟩;cases b with
   | true=>exact JN h k f _ _
   | false=>exact JN h k f _ _
theorem RB:∀f (p:Array Nat),Pm n p->∀k,DQ n (Pm n) (kas_bin f p k)
 | 0,p,h,_=>h
 | f+1,p,h,k=>Fv _ (JN n0 h k _ _ _) λl _=>RB f _ (h.bub _ _) _
theorem Jh:DQ n (Pm n) (kas_sort n):=
 Fv _ (M8 n0 (p:=List.toArray (List.range n)) (show Pm n _ by unfold Pm;exact List.Perm.refl _) n) λr hr=>by
  show DQ n _ (if r.1 < n then _ else _)
  split
  ·exact RB n0 _ _ hr _
  ·exact hr
end
section
variable {prog:Program} {w:World} {A:Around} {E:YA} {s:Shared}
theorem Oe {l:Addr} {vs:YE} {Q:YA} (hl:s.heap.IsList l vs.toArray) (h1:vs.length < 2)
  (h:∀D h' c,s.heap.objs.size<=D->h'.get? D=some (seqObj "list" vs.toArray c)->(∀b o,s.heap.get? b=some o->h'.get? b=some o)->Q (.ref D) { s with heap:=h' }):wpAny (model prog w) A (call (.builtin "sorted") [.ref l]) Q E s:=by
 have h2:vs.toArray.size < 2:=by rw[QaT];exact h1
 have hz:vs.length<=sizeLine:=QbS (Am (by omega));refine Calls.call_function_entry (Q:=Q) kind_sorted plain_sorted entry_sorted (args_sorted1 (.ref l)) ?_;unfold Builtin.«sorted»;refine QbX (m:=checkCount "sorted" 1 1 [Value.ref l].length) (QbY ?_);refine QbX (collect_list (vs:=vs) hl ?_ hz);have k1:∀b o,s.heap.get? b=some o->((s.heap.push (seqObj "list" #[] 0)).update s.heap.objs.size (Obj.mapSeq (·++vs.toArray))).get? b=some o:=λb o q=>by
  rw[Qal _ _ (Nat.ne_of_gt (QbO q))];exact Qak _ q
 have z1:((s.heap.push (seqObj "list" #[] 0)).update s.heap.objs.size (Obj.mapSeq (·++vs.toArray))).objs.size=s.heap.objs.size+1:=by rw[Heap.size_update,QbD]
 generalize ((s.heap.push (seqObj "list" #[] 0)).update s.heap.objs.size (Obj.mapSeq (·++vs.toArray)))=g1 at k1 z1;refine QbX (wpAny_newList ?_ hz);have oD:(g1.push (seqObj "list" vs.toArray 0)).get? g1.objs.size=some (seqObj "list" vs.toArray 0):=QaA _ rfl;have k2:∀b o,s.heap.get? b=some o->b≠g1.objs.size/\(g1.push (seqObj "list" vs.toArray 0)).get? b=some o:=λb o q=>⟨by rw[z1];exact QbP (Nat.lt_succ_of_lt (QbO q)),Qak _ (k1 b o q)⟩;refine QbX (QbL (Qbh slot_list_sort ⟨_,oD,rq⟩ entry_list_sort ?_ (args_list_sort _)));rw[list_sort_plain];have zD:s.heap.objs.size<=g1.objs.size:=by rw[z1];exact Nat.le_succ _
 generalize g1.objs.size=D at oD k2 zD;generalize hg2:g1.push (seqObj "list" vs.toArray 0)=g2 at oD k2;refine QbX (listItems_at (a:=D) oD rfl ?_);refine QbX (listUpdate_at (a:=D) oD rfl ?_ (by rw[QaT];exact hz) (QbW _));obtain⟨e1,o1⟩ : ∃e1,(g2.update D (Obj.mapSeq λ_=>(#[]:Array Value))).get? D=some (seqObj "list" #[] e1):=⟨_,get?_update_seq oD λ_=>#[]⟩;have k3:∀b o,s.heap.get? b=some o->b≠D/\(g2.update D (Obj.mapSeq λ_=>(#[]:Array Value))).get? b=some o:=λb o q=>⟨(k2 b o q).1,by rw[Qal _ _ (Ne.symm (k2 b o q).1)];exact (k2 b o q).2⟩;have zip2:(arrOf (SortSt.mk' general' (vs.toArray.zip vs.toArray) #[] 7 none)).map (·.2)=vs.toArray:=by
  show (vs.toArray.zip vs.toArray).map (·.2)=vs.toArray;apply Array.toList_inj.mp;simp[Array.toList_zip,List.map_snd_zip]
 dsimp only;generalize g2.update D (Obj.mapSeq λ_=>(#[]:Array Value))=g3 at o1 k3 ⊢;refine QbX (seqEpoch_at (a:=D) o1 rfl ?_);refine QbX (wpAny_newTuple ?_ (by simpa using hz));refine QbX (wpAny_newList (items:=[]) ?_ (QbW _));refine QbL ?_;have o5:∀x y:Obj,((g3.push x).push y).get? D=some (seqObj "list" #[] e1):=λx y=>Qak _ (Qak _ o1);have k5:∀x y:Obj,∀b o,s.heap.get? b=some o->b≠D/\((g3.push x).push y).get? b=some o:=λx y b o q=>⟨(k3 b o q).1,Qak _ (Qak _ (k3 b o q).2)⟩;dsimp only;rw[if_pos h2,if_pos h2];refine QbX (QbY ?_);rw[StateT.run_pure];refine QbX (QbY ?_);dsimp only;refine QbX (seqEpoch_at (a:=D) (o5 _ _) rfl ?_);rw[zip2];refine QbX (listUpdate_at (a:=D) (o5 _ _) rfl ?_ (QbW _) (by first | (rw[QaT];exact hz) | (rw[QaT];omega)))
 simp only[bne_self_eq_false,QaO,if_false];obtain⟨c,oF⟩ : ∃c,(((g3.push { cls:=.type "tuple",data:=.seq vs.toArray }).push { cls:=.type "list",data:=.seq #[] }).update D (Obj.mapSeq λ_=>vs.toArray)).get? D=some (seqObj "list" vs.toArray c):=⟨_,get?_update_seq (o5 _ _) λ_=>vs.toArray⟩;refine QbY ⟨_,rq,QbY ⟨_,rq,h D _ c zD oF λb o q=>?_⟩⟩;rw[Qal _ _ (Ne.symm (k3 b o q).1)];exact (k5 _ _ b o q).2
end
theorem aq {h:Heap} {a:Addr} {m m':YB} (x:h.Ns a m) (y:h.Ns a m'):m=m':=by
 obtain⟨o,es,ep,h1,h2,_,h3⟩:=x;obtain⟨o',es',ep',g1,g2,_,g3⟩:=y;rw[h1] at g1;cases g1;rw[h2] at g2;cases g2
 funext k
 rw[<-h3,<-g3]
theorem Hy {α β : Type} (d:α) (e:β):∀{vs:List α} {its:List β} {F:α->β->Prop} {is:List Nat},Paired F vs its->(∀i∈is,i < vs.length)->Paired F (is.map λi=>vs.getD i d) (is.map λi=>its.getD i e)
 | vs,its,F,[],_,_=>.nil
 | vs,its,F,i::is,r,h=>by
  refine .cons ?_ (Hy d e r λj hj=>h j (Qau _ hj));have hi:=h i (QaJ ..);have go:∀{l:List α} {m:List β} {i:Nat},Paired F l m->i < l.length->F (l.getD i d) (m.getD i e):=by
   intro l m i r
   induction r generalizing i with
   | nil=>intro h;exact absurd h (Nat.not_lt_zero _)
   | cons a t ih=>
    intro h;cases i with
    | zero=>exact a
    | succ i=>exact ih (Nat.lt_of_succ_lt_succ h)
  exact go r hi
theorem range_getD {α : Type} (d:α) (vs:List α):(List.range vs.length).map (λi=>vs.getD i d)=vs:=by
 apply List.ext_getElem
 ·simp
 ·intro i h1 h2;simp[h2]
end L2
namespace L2
open PySem PySem.Spec PyProof.Rows
structure CN (P:Program) (w:World) (K:YD) (mg:YB) (base:Heap) (C:Addr) (m:Str) (k:Nat) (ps:YF) (sp:Sp):Prop where
 ex:∃(f:Addr) (fd:FuncData),Meth K C m f/\Binds K fd ps []/\Du P w K mg base (CX1 P w) k f fd ps sp
theorem Ck.Ly {P:Program} {w:World} {K:YD} {mg:YB} {base:Heap} {C:Addr} {m qn:Str} {st:Stmt} {ps N:YF} {k:Nat} {sp:Sp} (c:Ck K C m qn st ps) (S:Az N ps (Ad st)) (len:∀vs H Q E,sp vs H Q E->vs.length=ps.length)
  (hbody:∀(X:Cx) (f:Addr) (cdv:Value) (A:Around) (outer:List Env) (s:Shared) (H:Hp) (vs:YG) (Q:VK) (E:XK),X=GJ (CX1 P w) P w K mg base N qn (Ad st) f cdv A outer s H E->Jk X (λ_=>E)->Bh k X.A->sp vs H Q E ->
   ∃t,PSs X (Av st) t/\t { nx:=λ_ H'=>Q .non H',rt:=Q } (start N vs) H):CN P w K mg base C m (k+1) ps sp:=by
 obtain⟨f,fd,F,M,b⟩:=c.ex;refine⟨f,fd,M,b,?_⟩;obtain⟨oc,od,kV,doc,pm,an,cdv,ct,osl,rfl,lk,hcd⟩:=F.ex;exact Zx lk hcd S len λA outer s H vs Q E hr hsp=>hbody _ f cdv A outer s H vs Q E rfl Wy hr hsp
def bG (C:Addr) (m:Str) (sp:Sp) (EX:St->XK) (ta:TE) (t:TA):TE:=fun Z H Q=>ta Z H λx H1=>∃a dx fs,x=.ref a/\H1 a=some (.ins C dx fs)/\fs.lookup m=none/\t Z H1 λvs H2=>sp (x::vs) H2 Q (EX Z)
theorem Gv {X:Cx} {EX:St->XK} {pl:Sem Bool} {k k':Nat} {C:Addr} {ps:YF} {sp:Sp} {m:Str} {apos pos:Pos} {o e:Expr} {es:YJ} {ta:TE} {t:TA} (he0:PE X o ta) (c:Cls X.K C) (g:CN X.prog X.w X.K X.mg X.base C m k ps sp) (hr:Bh k' X.A) (hx:Jk X EX) (ha:PA X (e::es) t) (hk:k<=k':=by decide)
  (hst:starEach (e::es) X.env=(false,eval e X.env)::starEach es X.env:=by rfl) (hpl:(backTo pos (starEach es X.env)).any (·.1)=false:=by rfl)
  (ht:eval (.Call (.Attribute o m apos) (e::es) [] pos) X.env=(do
   let ov <-eval o X.env
   standAt apos.atName
   let (f,first) <-holding [ov] (getMethod ov m pl)
   callWith pos f first (backTo pos (starEach (e::es) X.env)) (backToKw pos (keywordEach [] X.env))):=by rfl) :
  PE X (.Call (.Attribute o m apos) (e::es) [] pos) (bG C m sp EX ta t):=by
 intro jb s Z H Q I h;obtain⟨f,fd,hm,b,F⟩:=g.ex;refine methodCall_KW (pl:=pl) (thn (he0 jb s Z H _ I h) λu s1 zz=>?_) ht;obtain⟨x,H1,I1,rx,a,dx,fs,ex,ea,l,q⟩:=zz;subst ex;obtain rfl:u=Value.ref a:=rx;refine GZ I1 ea c hm l ?_;refine callWith_K (first:=[.ref a]) (h₀:=X.base) I.ok.mod.kin hm.kp (thn (ha pos jb s1 Z H1 _ I1 q) λus s2 zz=>?_) hst hpl
 obtain⟨vs,H2,I2,r,q2⟩:=zz;refine⟨I2.kIn,?_⟩;have r':Vals (.ref a::vs) (Value.ref a::us):=.cons rfl r;have hl:(Value.ref a::us).length=ps.length:=by rw[<-r'.length];exact F.len _ _ _ _ q2
 have bd:=b s2 (Value.ref a::us) I2.kIn (by rw[Qbq];exact hl);rw[Qbq] at bd;refine wpAny_call (QbT (F.run X.A X.stack s2 H2 ⟨Value.ref a::us,[]⟩ (Value.ref a::us) (.ref a::vs) Q (EX Z) (hr.mono hk) I2.env0 bd r' q2) λrr s' hq=>?_);cases rr with
 | error ev=>exact hx jb Z H2 s2 ev s' I2 hq
 | ok fl=>
  cases fl with
  | ret u=>exact I2.after hq
  | next=>exact False.elim hq
  | brk=>exact False.elim hq
  | cont=>exact False.elim hq
open PySem.W (KasT kas_asc kas_desc kas_rev kas_tail3 kas_descPart kas_count kas_place kas_bin kas_sort)
def CQ {α : Type} (lt:Nat->Nat->Bool):KasT α->α
 | .ret a=>a
 | .ask i j k=>CQ lt (k (lt i j))
theorem Ft {α β : Type} {lt:Nat->Nat->Bool} {f:α->KasT β}:∀t:KasT α,CQ lt (t.bind f)=CQ lt (f (CQ lt t))
 | .ret a=>rfl
 | .ask i j k=>Ft (k (lt i j))
theorem Jc {α : Type} {lt:Nat->Nat->Bool} {n:Nat} {P:α->Prop}:∀t:KasT α,DQ n P t->P (CQ lt t)
 | .ret a,h=>h
 | .ask i j k,h=>Jc (k (lt i j)) (h.2.2 _)
theorem Mr {α : Type} {lt:Nat->Nat->Bool} {n:Nat} {P:α->Prop} {Q:α->Shared->Prop} {s:Shared} {cmp:Nat->Nat->(Bool->Shared->Prop)->Shared->Prop} (hc:∀i j C,i < n->j < n->C (lt i j) s->cmp i j C s):∀t:KasT α,DQ n P t->Q (CQ lt t) s->t.kasWp cmp Q s
 | .ret a,h,q=>q
 | .ask i j k,h,q=>hc i j _ h.1 h.2.1 (Mr hc (k (lt i j)) (h.2.2 _) q)
section
variable {n:Nat} {ky:Nat->Int}
def Gk (ky:Nat->Int) (p:Array Nat) (i:Nat):Int:=ky (p.getD i 0)
def ltK (ky:Nat->Int) (i j:Nat):Bool:=decide (ky i < ky j)
def Inj (n:Nat) (ky:Nat->Int):Prop:=∀i j,i < n->j < n->ky i=ky j->i=j
def Mw (ky:Nat->Int) (p:Array Nat) (m:Nat):Prop:=∀i,i+1 < m->Gk ky p i < Gk ky p (i+1)
def Fall (ky:Nat->Int) (p:Array Nat) (m:Nat):Prop:=∀i,i+1 < m->Gk ky p (i+1) < Gk ky p i
def FT (ky:Nat->Int) (p:Array Nat) (m:Nat):Prop:=∀i j,i < j->j < m->Gk ky p i < Gk ky p j
theorem Mw.all {p:Array Nat} {m:Nat} (h:Mw ky p m):FT ky p m:=λi j hij hj=>by
 induction j with
 | zero=>omega
 | succ j ih=>
  have h1:=h j hj;by_cases e:i=j
  ·rw[e];exact h1
  ·exact Int.lt_trans (ih (by omega) (by omega)) h1
theorem O7 {α : Type} {l:List α} (nd:l.Nodup) {i j:Nat} (hi:i < l.length) (hj:j < l.length) (e:l[i]=l[j]):i=j:=by
 rcases Nat.lt_trichotomy i j with h | h | h
 ·exact absurd e (List.pairwise_iff_getElem.mp nd i j hi hj h)
 ·exact h
 ·exact absurd e.symm (List.pairwise_iff_getElem.mp nd j i hj hi h)
theorem Pm.size {p:Array Nat} (h:Pm n p):p.size=n:=by
 have:=List.Perm.length_eq h;simpa using this
theorem Pm.ne (hi:Inj n ky) {p:Array Nat} (h:Pm n p) {i j:Nat} (a:i < n) (b:j < n) (ne:i≠j):Gk ky p i≠Gk ky p j:=λe=>by
 have n0:0 < n:=by omega
 have hs:=h.size;have e:=hi _ _ (h.lt n0 i) (h.lt n0 j) e;have nd:p.toList.Nodup:=(List.Perm.nodup_iff h).mpr List.nodup_range;have e1:p.getD i 0=p.toList[i]'(by simp[hs,a]):=by simp[hs,a]
 have e2:p.getD j 0=p.toList[j]'(by simp[hs,b]):=by simp[hs,b]
 rw[e1,e2] at e;exact ne (O7 nd _ _ e)
theorem Mf (hi:Inj n ky) {p:Array Nat} (h:Pm n p):∀f k,1<=k->k+f<=n->Mw ky p k->∃m,CQ (ltK ky) (kas_asc p f k)=m/\k<=m/\m<=k+f/\Mw ky p m/\(m < k+f->Gk ky p m < Gk ky p (m - 1))
 | 0,k,_,_,r=>⟨k,rfl,QbV _,QbV _,r,λz=>absurd z (QbH _)⟩
 | f+1,k,h1,h2,r=>by
  show ∃m,CQ (ltK ky) (if ltK ky (p.getD k 0) (p.getD (k - 1) 0)=true then KasT.ret k else kas_asc p f (k+1))=m/\_
  by_cases c:Gk ky p k < Gk ky p (k - 1)
  ·rw[if_pos (show ltK ky _ _=true from QbC c)]
   exact⟨k,rq,QbV _,by omega,r,λ_=>c⟩
  ·rw[if_neg (show ¬ltK ky _ _=true from λz=>c (QaX z))]
   obtain⟨m,e,a,b,d,g⟩:=Mf hi h f (k+1) (by omega) (by omega) (λi hi'=>by
    by_cases e:i+1=k
    ·have:=h.ne hi (i:=i) (j:=i+1) (by omega) (by omega) (by omega);have c:¬Gk ky p (i+1) < Gk ky p i:=by rw[<-e] at c;exact c
     omega
    ·exact r i (by omega))
   exact⟨m,e,by omega,by omega,d,λz=>g (by omega)⟩
theorem Om (hi:Inj n ky) {p:Array Nat} (h:Pm n p):∀f k,1<=k->k+f<=n->Fall ky p k->∃m,CQ (ltK ky) (kas_desc f p k 0)=(p,m,0)/\k<=m/\m<=k+f/\Fall ky p m
 | 0,k,_,_,r=>⟨k,rfl,QbV _,QbV _,r⟩
 | f+1,k,h1,h2,r=>by
  show ∃m,CQ (ltK ky) (if ltK ky (p.getD k 0) (p.getD (k - 1) 0)=true then (if 0 > 0 then kas_desc f (kas_rev p (k - (0+1)) k) (k+1) 0 else kas_desc f p (k+1) 0) else KasT.ask (p.getD (k - 1) 0) (p.getD k 0) λd=>if d=true then KasT.ret (p,k,0) else kas_desc f p (k+1) (0+1))=(p,m,0)/\_
  by_cases c:Gk ky p k < Gk ky p (k - 1)
  ·rw[if_pos (show ltK ky _ _=true from QbC c),if_neg (QbH 0)]
   obtain⟨m,e,a,b,d⟩:=Om hi h f (k+1) (by omega) (by omega) (λi hi'=>by
    by_cases e:i+1=k
    ·rw[<-e] at c;exact c
    ·exact r i (by omega))
   exact⟨m,e,by omega,by omega,d⟩
  ·rw[if_neg (show ¬ltK ky _ _=true from λz=>c (QaX z))]
   have ne:=h.ne hi (i:=k) (j:=k - 1) (by omega) (by omega) (by omega);show ∃m,CQ (ltK ky) (if ltK ky (p.getD (k - 1) 0) (p.getD k 0)=true then KasT.ret (p,k,0) else kas_desc f p (k+1) (0+1))=(p,m,0)/\_
   rw[if_pos (show ltK ky _ _=true from QbC (show Gk ky p (k - 1) < Gk ky p k by omega))]
   exact⟨k,rq,QbV _,by omega,r⟩
theorem NQ {p q:Array Nat} {i j:Nat} (e:p[i]?=q[j]?):Gk ky p i=Gk ky q j:=by
 unfold Gk;rw[Array.getD_eq_getD_getElem?,Array.getD_eq_getD_getElem?,e]
theorem V5 {p:Array Nat} {m i:Nat} (hm:m<=p.size) (hi:i < m):Gk ky (kas_rev p 0 m) i=Gk ky p (m - 1 - i):=by
 apply NQ;unfold kas_rev;rw[getElem?_mirror_all hm,if_pos ⟨QbW _,hi⟩];congr 1;omega
theorem V6 {p:Array Nat} {k l i:Nat} (hk:k < p.size) (hl:l<=k):Gk ky (bubble p k (k - l)) i=if i=l then Gk ky p k else if l < i/\i<=k then Gk ky p (i - 1) else Gk ky p i:=by
 have e:=getElem?_bubble hk (k - l) (by omega) i;rw[show k - (k - l)=l by omega] at e;split at e
 ·rename_i h;rw[if_pos h];exact NQ e
 ·rename_i h;rw[if_neg h];split at e
  ·rename_i h;rw[if_pos h];exact NQ e
  ·rename_i h;rw[if_neg h];exact NQ e
def Done (n:Nat) (ky:Nat->Int) (r:Nat×Array Nat):Prop:=1<=r.1/\r.1<=n/\Mw ky r.2 r.1
theorem Wi (hi:Inj n ky) {p:Array Nat} (h:Pm n p) {m:Nat} (h1:1<=m) (h2:m<=n) (f:Fall ky p m):Done n ky (CQ (ltK ky) (kas_tail3 m n p)):=by
 have hs:=h.size;have r0:Mw ky (kas_rev p 0 m) m:=λi hi'=>by
  rw[V5 (by omega) (by omega),V5 (by omega) (by omega)];have:=f (m - 1 - (i+1)) (by omega);rw[show m - 1 - (i+1)+1=m - 1 - i by omega] at this;exact this
 obtain⟨k,e,a,b,d,_⟩:=Mf hi (h.rev 0 m) (n - m) m h1 (by omega) r0;unfold kas_tail3;rw[Ft,e];exact⟨by show 1<=k;omega,by show k<=n;omega,d⟩
theorem Uz (hi:Inj n ky) {p:Array Nat} (h:Pm n p) (n0:2<=n):Done n ky (CQ (ltK ky) (kas_count n p)):=by
 obtain⟨m,e,a,b,d,g⟩:=Mf hi h (n - 1) 1 (QbV _) (by omega) (λi hi'=>by omega);unfold kas_count;rw[Ft,e];by_cases c1:m=n
 ·rw[if_pos (by rw[c1];exact Qbi n)];exact⟨a,by show m<=n;omega,d⟩
 ·rw[if_neg (λz=>c1 (eq_of_beq z))];by_cases c2:m > 1
  ·rw[if_pos c2];show Done n ky (CQ (ltK ky) (if ltK ky (p.getD 0 0) (p.getD (m - 1) 0)=true then KasT.ret (m,p) else kas_descPart m n (kas_rev p 0 m)))
   rw[if_pos (show ltK ky _ _=true from QbC (d.all 0 (m - 1) (by omega) (by omega)))]
   exact⟨a,by show m<=n;omega,d⟩
  ·rw[if_neg c2];have m1:m=1:=by omega
   subst m1;have g:=g (by omega);obtain⟨k,e,a,b,d⟩:=Om hi h (n - (1+1)) (1+1) (by omega) (by omega) (λi hi'=>by
    have:i=0:=by omega
    subst this;exact g)
   unfold kas_descPart;rw[Ft,e];show Done n ky (CQ (ltK ky) (if 0 > 0 then _ else kas_tail3 k n p))
   rw[if_neg (QbH 0)];exact Wi hi h (by omega) (by omega) d
theorem Jt (hi:Inj n ky) {p:Array Nat} (h:Pm n p) {k:Nat} (hk:k < n) (R:FT ky p k):∀f l r,r<=l+f->l<=r->r<=k->(∀i,i < l->Gk ky p i < Gk ky p k)->(∀i,r<=i->i < k->Gk ky p k < Gk ky p i)->∃m,CQ (ltK ky) (kas_place p k f l r)=m/\m<=k/\(∀i,i < m->Gk ky p i < Gk ky p k)/\∀i,m<=i->i < k->Gk ky p k < Gk ky p i
 | 0,l,r,h1,h2,h3,h4,h5=>⟨l,rfl,by omega,h4,λi a b=>h5 i (by omega) b⟩
 | f+1,l,r,h1,h2,h3,h4,h5=>by
  unfold kas_place;by_cases c:l ≥ r
  ·rw[if_pos c];exact⟨l,rq,by omega,h4,λi a b=>h5 i (by omega) b⟩
  ·rw[if_neg c];show ∃m,CQ (ltK ky) (if ltK ky (p.getD k 0) (p.getD ((l+r) / 2) 0)=true then kas_place p k f l ((l+r) / 2) else kas_place p k f ((l+r) / 2+1) r)=m/\_
   have hm:(l+r) / 2 < r/\l<=(l+r) / 2:=by omega
   generalize (l+r) / 2=q at hm ⊢;by_cases d:Gk ky p k < Gk ky p q
   ·rw[if_pos (show ltK ky _ _=true from QbC d)]
    refine Jt hi h hk R f l q (by omega) (by omega) (by omega) h4 λi a b=>?_;by_cases e:i=q
    ·rw[e];exact d
    ·exact Int.lt_trans d (R q i (by omega) b)
   ·rw[if_neg (show ¬ltK ky _ _=true from λz=>d (QaX z))]
    refine Jt hi h hk R f (q+1) r (by omega) (by omega) (by omega) (λi a=>?_) h5;have ne:=h.ne hi (i:=q) (j:=k) (by omega) (by omega) (by omega);have lt:Gk ky p q < Gk ky p k:=by omega
    by_cases e:i=q
    ·rw[e];exact lt
    ·exact Int.lt_trans (R i q (by omega) (by omega)) lt
theorem Q7 (hi:Inj n ky):∀f (p:Array Nat),Pm n p->∀k,k+f=n->FT ky p k->FT ky (CQ (ltK ky) (kas_bin f p k)) n
 | 0,p,h,k,e,R=>by rw[<-e];exact R
 | f+1,p,h,k,e,R=>by
  have hs:=h.size;show FT ky (CQ (ltK ky) ((kas_place p k k 0 k).bind λl=>kas_bin f (bubble p k (k - l)) (k+1))) n;rw[Ft];obtain⟨l,el,a,b,c⟩:=Jt hi h (k:=k) (by omega) R k 0 k (by omega) (QbW _) (QbV _) (λi z=>absurd z (Nat.not_lt_zero _)) (λi x y=>by omega);rw[el];refine Q7 hi f _ (h.bub _ _) (k+1) (by omega) λi j hij hj=>?_;rw[V6 (by omega) a,V6 (by omega) a];by_cases ei:i=l
  ·rw[if_pos ei,if_neg (by omega),if_pos ⟨by omega,by omega⟩];exact c _ (by omega) (by omega)
  ·rw[if_neg ei];by_cases ej:j=l
   ·rw[if_neg (by omega),if_pos ej];exact b _ (by omega)
   ·rw[if_neg ej];by_cases gi:l < i
    ·rw[if_pos ⟨gi,by omega⟩,if_pos ⟨by omega,by omega⟩];exact R _ _ (by omega) (by omega)
    ·rw[if_neg (λz=>gi z.1)];by_cases gj:l < j
     ·rw[if_pos ⟨gj,by omega⟩];exact R _ _ (by omega) (by omega)
     ·rw[if_neg (λz=>gj z.1)];exact R _ _ (by omega) (by omega)
theorem Oj (hi:Inj n ky) (n0:2<=n):FT ky (CQ (ltK ky) (kas_sort n)) n:=by
 have h0:Pm n (List.toArray (List.range n)):=by unfold Pm;exact List.Perm.refl _
 obtain⟨a,b,c⟩:=Uz hi h0 n0;have hp:=Jc (lt:=ltK ky) _ (M8 (by omega) h0 n);unfold kas_sort;rw[Ft];generalize CQ (ltK ky) (kas_count n (List.toArray (List.range n)))=r at a b c hp;show FT ky (CQ (ltK ky) (if r.1 < n then kas_bin (n - max r.1 1) r.2 (max r.1 1) else KasT.ret r.2)) n
 have em:max r.1 1=r.1:=by omega
 by_cases d:r.1 < n
 ·rw[if_pos d,em];exact Q7 hi _ _ hp _ (by omega) c.all
 ·rw[if_neg d];have:r.1=n:=by omega
  rw[<-this];exact c.all
theorem FT.list {p:Array Nat} (h:Pm n p) (R:FT ky p n):(p.toList.map ky).Pairwise (· < ·):=by
 have hs:=h.size;rw[List.pairwise_iff_getElem];intro i j hi hj hij;have hi':i < n:=by simpa [hs] using hi
 have hj':j < n:=by simpa [hs] using hj
 have:=R i j hij hj';unfold Gk at this;have e1:p.getD i 0=p[i]'(by omega):=by simp[hs,hi']
 have e2:p.getD j 0=p[j]'(by omega):=by simp[hs,hj']
 rw[e1,e2] at this;simpa using this
end
theorem Gj {α β : Type} (d:α) (e:β) {F:α->β->Prop}:∀{l:List α} {m:List β} {i:Nat},Paired F l m->i < l.length->F (l.getD i d) (m.getD i e):=by
 intro l m i r
 induction r generalizing i with
 | nil=>intro h;exact absurd h (Nat.not_lt_zero _)
 | cons a t ih=>
  intro h;cases i with
  | zero=>exact a
  | succ i=>exact ih (Nat.lt_of_succ_lt_succ h)
section
variable {prog:Program} {w:World} {A:Around} {s:Shared}
end
end L2
namespace PySem
open Sem (wp)
open AutoSeq1 (wpAny_loadPart')
section
variable {prog:Program} {w:World} {A:Around} {E:YA} {s:Shared}
theorem Mu {e it l:Addr} {i:Nat} {j:Int} {items:Array Value} {old:Value} {Q:Option Value->Shared->Prop} (hh:A.handled=none) (he:IsEnum s.heap e it j old) (hit:s.heap.IsListIter it l i) (hl:s.heap.IsList l items) (hx:items[i]?=none)
  (hQ:∀h',Heap.ExtBut it s.heap h'->Q none { s with heap:=h' }):wpAny (model prog w) A (pyNext (.ref e)) Q E s:=by
 have hT:s.TypeIs (.ref e) "enumerate":=⟨_,he,rq⟩;unfold pyNext;refine QbX (wpAny_attempt (wpAny_callSpecial?_slot (name:=Str.ofString "__next__") hT F.slot_enumerate_next (Qbh F.slot_enumerate_next hT F.entry_enumerate_next ?_ (F.args_enumerate_next_1 _))));show wpAny _ _ (field (.ref e) 2 >>= _) _ _ _;refine QbX (wpAny_field he rfl (x:=.ref it) rfl (QbX (wpAny_nextOf_list_end hh hit hl hx λh' x he' hx'=>?_)));obtain⟨o,ho,hc⟩:=hx';exact QbX (wpAny_isInstance (T:="StopIteration") (b:=true) ⟨o,ho,hc⟩ isSubtype_stop (QbY (hQ _ he')))
end
end PySem
namespace L2
open PySem PySem.Spec PyProof.Rows
def Jl (K:YD) (a:Addr) (lo:Nat):It:=
 ⟨λi H=>∃xs x,SqL K H a xs/\xs[i]?=some x,λi H v H'=>∃p x,H p=none/\v=.ref p/\H'=upd H p (.tup [.int ((lo+i:Nat):Int),x])/\∀xs,SqL K H a xs->xs[i]?=some x,λi H=>∃xs,SqL K H a xs/\xs.length<=i⟩
theorem RK {P:Program} {w:World} {K:YD} {elts:YJ} {k:Nat} {pos:Pos} (a e it:Addr) (lo:Nat) (nei:e≠it):Turn P w K (.Tuple elts k pos) (Jl K a lo) [e,it] e (λi h=>(∃old,IsEnum h e it ((lo+i:Nat):Int) old)/\h.IsListIter it a i) where
 mem:=by simp
 obj:=λi h st b hb=>by
  obtain⟨⟨old,he⟩,o,ho,hc,hd⟩:=st;rcases QbF.mp hb with rfl | hb
  ·exact⟨_,he,λv z=>by cases (show Data.fields _=Data.cell v from z)⟩
  ·have:b=it:=by simpa using hb
   subst this;exact⟨o,ho,λv z=>by rw[hd] at z;cases z⟩
 keep:=λi h h' st k=>by
  obtain⟨⟨old,he⟩,hi⟩:=st;exact⟨⟨old,k e (by simp) _ he⟩,hi.at λo q=>k it (by simp) o q⟩
 item:=by
  intro X hP hw hK hc i jb s Z H E I hf st hg;subst hP hw hK;obtain⟨xs,x,hq,hx⟩:=hg;obtain⟨its,rv,p,hz⟩:=I.list hq;obtain⟨u,hu,ru⟩:=rv.get hx;obtain⟨⟨old,he⟩,hit⟩:=st;have hts:s.heap.IsList a its.toArray:=p.isList;have ane:a≠e:=λz=>by
   obtain⟨o,ho,hcl,_⟩:=hts;rw[z,he] at ho;cases ho;injection hcl with q;exact absurd q (by decide)
  have ani:a≠it:=λz=>by
   obtain⟨o,ho,hcl,_⟩:=hts;obtain⟨o',ho',hcl',_⟩:=hit;rw[z,ho'] at ho;cases ho;rw[hcl'] at hcl;injection hcl with q;exact absurd q (by decide)
  have hlt:i < its.toArray.size:=by
   have:=(Qae.mp hu).1;simpa using this
  have D:=(Draws.list (prog:=X.prog) (w:=X.w) (A:=X.A.in1) (I.ok.hd hc) it a ani its.toArray).from lo;refine wpAny_pyNext_enum_itemD D he ⟨i,rq,QbS hlt,hit,hts⟩ (by omega) nei (by simp[nei,ane.symm]) λy h1 tk hP ho hst hT hsz hk=>?_;obtain⟨i',ei,hy⟩:=hP;have:i'=i:=by omega
  subst this;have ey:y=u:=by
   have h2:its.toArray[i']?=some u:=by simpa using hu
   rw[h2] at hy;exact (Qbp hy).symm
  subst ey;refine⟨_,rq,wpAny_letOwnedTupleGo_enum ho λh2 he2 hs2=>?_⟩;have hlt2:s.heap.objs.size≠e:=Nat.ne_of_gt (QbO he);have hT2:h2.get? s.heap.objs.size=some { cls:=.type "tuple",data:=.seq #[.int ((lo+i':Nat):Int) tk,y] }:=(hs2.2 _ hlt2).trans hT;have new:Bd X.prog X.w (upd H s.heap.objs.size (.tup [.int ((lo+i':Nat):Int),x])) h2 s.heap.objs.size (.tup [.int ((lo+i':Nat):Int),x]):=
   ⟨by show 2<=sizeLine;decide,[.int ((lo+i':Nat):Int) tk,y],.cons ⟨tk,rq⟩ (.cons ru .nil),_,hT2,rq,0,rq⟩
  have I1:=I.Ur (h':=h2) (t':=tk+1) (QbV _) (λb q hb z=>(hs2.2 b (λw=>hb (by simp[w]))).trans (hk b q (λw=>hb (by simp[w])) (λw=>hb (by simp[w])) z)) hf new;refine⟨.ref s.heap.objs.size,_,I1,rq,⟨s.heap.objs.size,x,I.hok.fresh (QbV _),rq,rq,λys hy'=>by rw[I.Pg hy' hq];exact hx⟩,⟨⟨y,?_⟩,?_⟩,λb hb=>?_⟩
  ·have:=he2;rw[show ((lo+(i'+1):Nat):Int)=((lo+i':Nat):Int)+1 by omega];exact this
  ·obtain⟨i2,e2,_,st2,_⟩:=hst;have:i2=i'+1:=by omega
   subst this;exact st2.at λo q=>(hs2.2 it (Ne.symm nei)).trans q
  ·have hb':b < s.heap.objs.size:=by
    rcases QbF.mp hb with rfl | hb
    ·exact QbO he
    ·have:b=it:=by simpa using hb
     subst this;obtain⟨o,ho',_⟩:=hit;exact QbO ho'
   rw[Aj (QbP hb')];exact (hf b hb).1
 done:=by
  intro X hP hw hK hc i jb s Z H E I hf st hg;subst hP hw hK;obtain⟨xs,hq,hx⟩:=hg;obtain⟨its,rv,p,hz⟩:=I.list hq;obtain⟨⟨old,he⟩,hit⟩:=st;have hl:=rv.length;exact Mu (I.ok.hd hc) he hit p.isList (by simp;omega) λh' eb=>⟨rq,I.ZC (t':=s.toks) (λb o hb q=>eb b o (λz=>hb (by simp[z])) q) hf⟩
 self:=λ_ _ _ _ _ st h=>let ⟨⟨_,he⟩,_⟩:=st;wpAny_pyIter_enum he h
section
variable {X:Cx}
theorem Yy {jb:YC} {Z : St} {H:Hp} {s:Shared} {R:It->Hp->Prop} {E:YA} {elts:YJ} {k:Nat} {pos:Pos} {a:Addr} {lo:Nat} {tk:Nat} (I:Inv X jb Z H s) (q:R (Jl X.K a lo) H) :
  wpAny (model X.prog X.w) X.A (pyIter (.ref (s.heap.objs.size+1))) (PIE X jb Z (.Tuple elts k pos) R) E
   { s with heap:=(s.heap.push { cls:=.type "list_iterator",data:=.fields #[.ref a,.int 0 0] }).push { cls:=.type "enumerate",data:=.fields #[.none,.bool false,.ref s.heap.objs.size,rawInt (lo:Int),.none,.none] },toks:=tk }:=by
 have hz:(s.heap.push { cls:=.type "list_iterator",data:=.fields #[.ref a,.int 0 0] }).objs.size=s.heap.objs.size+1:=QbD ..;have he:IsEnum ((s.heap.push { cls:=.type "list_iterator",data:=.fields #[.ref a,.int 0 0] }).push { cls:=.type "enumerate",data:=.fields #[.none,.bool false,.ref s.heap.objs.size,rawInt (lo:Int),.none,.none] }) (s.heap.objs.size+1) s.heap.objs.size (lo:Int) .none:=by
  have:=QaA (s.heap.push { cls:=.type "list_iterator",data:=.fields #[.ref a,.int 0 0] }) (o:={ cls:=.type "enumerate",data:=.fields #[.none,.bool false,.ref s.heap.objs.size,rawInt (lo:Int),.none,.none] }) rfl;rw[hz] at this;exact this
 refine wpAny_pyIter_enum he ⟨s.heap.objs.size+1,[s.heap.objs.size+1,s.heap.objs.size],_,_,H,rq,I.kept (t':=tk) λb o e=>Qak _ (Qak _ e),RK a (s.heap.objs.size+1) s.heap.objs.size lo (Nat.succ_ne_self _),⟨⟨.none,he⟩,⟨_,Qak _ (QaA _ rfl),rq,rq⟩⟩,λb hb=>?_,q⟩;have hb':s.heap.objs.size<=b:=by
  simp only[QbF,Qbe,or_false] at hb;rcases hb with rfl | rfl
  ·exact Nat.le_succ _
  ·exact QbV _
 exact I.TX hb' (I.hok.fresh hb')
end
section
variable {X:Cx}
def dg (K:YD) (lo:Nat) (tl:TE):TI:=fun Z H R=>tl Z H λx H1=>∃a,x=.ref a/\(∃xs,SqL K H1 a xs)/\R (Jl K a lo) H1
theorem QX {jb:YC} {Z : St} {H:Hp} {s:Shared} {R:It->Hp->Prop} {elts:YJ} {k:Nat} {pos:Pos} {a:Addr} {xs:YG} (I:Inv X jb Z H s) (hq:SqL X.K H a xs) (q:R (Jl X.K a 0) H) :
  wpAny (model X.prog X.w) X.A (call (.type "enumerate") [.ref a]) (λv s1=>wpAny (model X.prog X.w) X.A (pyIter v) (PIE X jb Z (.Tuple elts k pos) R) X.xe s1) X.xe s:=by
 obtain⟨its,rv,p,hz⟩:=I.list hq;obtain⟨⟨c,dct,dt,sl⟩,hl,hc,n,hd⟩:=p.isList;replace hc:c=.type "list":=hc;replace hd:dt=.seq its.toArray n:=hd;subst hc hd;refine callType_new F.called_enumerate (by decide) (F.typeCall_enumerate_1 _) (F.newCall_enumerate_1 _) (λobj=>F.args_object_init_2 obj _) F.entry_enumerate_new (meets_enumerate_newL a its.toArray n dct sl) ⟨hl,?_⟩;have hz:(s.heap.push { cls:=.type "list_iterator",data:=.fields #[.ref a,.int 0 0] }).objs.size=s.heap.objs.size+1:=QbD ..;show _/\_;refine⟨⟨_,QaA _ rfl,rq⟩,?_⟩;rw[hz];exact Yy (lo:=0) (tk:=s.toks) I q
end
section
variable {X:Cx}
theorem UW {x:Expr} {tx:TE} {p pos tp:Pos} {elts:YJ} {k:Nat} (hg:Gl X "enumerate") (hm:X.mg "enumerate"=none) (hl:PE X x tx) (hs:starEach [x] X.env=[(false,eval x X.env)]:=by rfl):PI X (.Tuple elts k tp) (.Call (.Name "enumerate" p) [x] [] pos) (dg X.K 0 tx):=by
 intro jb s Z H R I h;refine Call_ (Ez I hg hm boot_enumerate (Qab (thn ((Aa hl Ac (by rw[hs];rfl)) pos jb s Z H (λvs H1=>match vs with | [v]=>∃a,v=.ref a/\(∃xs,SqL X.K H1 a xs)/\R (Jl X.K a 0) H1 | _=>False) I h) λus s1 ⟨vs,H1,I1,r1,q1⟩=>?_) hs rfl))
 cases r1 with
 | nil=>exact False.elim q1
 | cons r rr=>
  cases rr with
  | nil=>
   obtain⟨a,e,⟨xs,hq⟩,q⟩:=q1;subst e;cases r;exact QX I1 hq q
  | cons _ _=>exact False.elim q1
theorem g8 {K:YD} {a:Addr} {lo:Nat} {xs:YG} {g:TG} {tb:TS} {D:Ends} {Z : St} {H:Hp} (Pv:YN) (h0:Pv 0 Z H) (hl:∀i Z H',i<=xs.length->Pv i Z H'->SqL K H' a xs)
  (hs:∀i x p Z H',xs[i]?=some x->Pv i Z H'->H' p=none->g (.ref p) Z (upd H' p (.tup [.int ((lo+i:Nat):Int),x])) fun σ2 H2=>tb { D with nx:=Pv (i+1),ct:=Pv (i+1),bk:=D.nx } σ2 H2) (hd:∀ Z H',Pv xs.length Z H'->D.nx Z H') :
  ∃W:Nat->YN,(∃m,W 0 m Z H)/\∀i m Z H,W i m Z H ->
   ((Jl K a lo).stop i H/\D.nx Z H)\/((Jl K a lo).go i H/\∃N:YO,(∀ σ' H',N σ' H'->∃m',m' < m/\W (i+1) m' σ' H')/\∀x H',(Jl K a lo).yld i H x H'->g x Z H' fun σ2 H2=>tb { D with nx:=N,ct:=N,bk:=D.nx } σ2 H2):=by
 refine⟨λi m Z H=>m=xs.length - i/\i<=xs.length/\Pv i Z H,⟨xs.length,by simp,QbW _,h0⟩,?_⟩;rintro i m Z H ⟨rfl,hi,p⟩;have q:=hl i Z H hi p;by_cases hlt:i < xs.length
 ·refine .inr ⟨⟨xs,xs[i],q,by simp[hlt]⟩,Pv (i+1),fun σ3 H3 p'=>⟨xs.length - (i+1),by omega,rq,hlt,p'⟩,λv H2 y=>?_⟩;obtain⟨pa,x,hn,rfl,rfl,hx⟩:=y;exact hs i x pa Z _ (hx xs q) p hn
 ·have e:i=xs.length:=by omega
  subst e;exact .inl ⟨⟨xs,q,QbV _⟩,hd Z H p⟩
theorem T6 {K:YD} {a l:Addr} {lo:Nat} {xs:YG} {g:TG} {tt:TT} {te:TE} {Q:VK} {σ0:St} {H0:Hp} (Pv:YN)
  (h0:Pv 0 σ0 H0) (hl:∀i Z H',i<=xs.length->Pv i Z H'->SqL K H' a xs)
  (hs:∀i x p Z H',xs[i]?=some x->Pv i Z H'->H' p=none->g (.ref p) Z (upd H' p (.tup [.int ((lo+i:Nat):Int),x])) fun σ3 H3=>tt σ3 H3 λb H4=>if b=true then te σ3 H4 λy H5=>∃ys,H5 l=some (.lst ys)/\ys.length < sizeLine/\Pv (i+1) σ3 (upd H5 l (.lst (ys++[y]))) else Pv (i+1) σ3 H4)
  (hd:∀ Z H',Pv xs.length Z H'->Q (.ref l) H'):Fd (Jl K a lo) g tt te Q σ0 H0 l:=by
 unfold Fd;refine⟨λi m Z H'=>m=xs.length - i/\i<=xs.length/\Pv i Z H',⟨xs.length,by simp,QbW _,h0⟩,?_⟩;rintro i m Z H' ⟨rfl,hi,p⟩;have q:=hl i Z H' hi p;by_cases hlt:i < xs.length
 ·refine .inr ⟨⟨xs,xs[i],q,by simp[hlt]⟩,Pv (i+1),fun σ3 H3 p'=>⟨xs.length - (i+1),by omega,rq,hlt,p'⟩,λv H2 y=>?_⟩;obtain⟨pa,x,hn,rfl,rfl,hx⟩:=y;exact hs i x pa Z _ (hx xs q) p hn
 ·have e:i=xs.length:=by omega
  subst e;exact .inl ⟨⟨xs,q,QbV _⟩,hd Z H' p⟩
end
theorem Ni (elt t1 i1 t2 i2:Expr) (scope:Scope) (pos:Pos) (it acc:Value) (env:Env) :
  compTurn (.ListComp elt [⟨t1,i1,[],0⟩,⟨t2,i2,[],0⟩] scope pos) 0 it acc env=(do
   standAt i1.pos
   match <-pyNext it with
   | none=>pure (.done .next)
   | some v=>
    letOwnedTupleGo t1 it v
    assign t1 env v
    let x <-eval i2 env
    standAt i2.pos
    let x <-foldedSetIterable i2 env x;let _ <-runOwn (.compStart (.ListComp elt [⟨t1,i1,[],0⟩,⟨t2,i2,[],0⟩] scope pos) 1 (<-holding [x] (pyIter x)) acc env) env
    again (.compLoop (.ListComp elt [⟨t1,i1,[],0⟩,⟨t2,i2,[],0⟩] scope pos) 0 it acc env)):=by rfl
theorem Qe (elt t1 i1 t2 i2:Expr) (scope:Scope) (pos:Pos) (it acc:Value) (env:Env) :
  compTurn (.ListComp elt [⟨t1,i1,[],0⟩,⟨t2,i2,[],0⟩] scope pos) 1 it acc env=(do
   standAt i2.pos
   match <-pyNext it with
   | none=>pure (.done .next)
   | some v=>
    letOwnedTupleGo t2 it v
    assign t2 env v
    (do let _ <-call (.builtin "list.append") [acc,<-eval elt env])
    again (.compLoop (.ListComp elt [⟨t1,i1,[],0⟩,⟨t2,i2,[],0⟩] scope pos) 1 it acc env)):=by rfl
section
variable {prog:Program} {w:World} {A:Around} {R:Result->Shared->Prop} {s:Shared} {elt t1 i1 t2 i2:Expr} {scope:Scope} {pos:Pos} {it acc:Value} {env:Env}
theorem JK
  (h0:codeAny (model prog w) A (.compLoop (.ListComp elt [⟨t1,i1,[],0⟩,⟨t2,i2,[],0⟩] scope pos) 1 it acc env) R s)
  (h:wpAny (model prog w) A (pyIter it) (λit' s'=>codeAny (model prog w) A (.compLoop (.ListComp elt [⟨t1,i1,[],0⟩,⟨t2,i2,[],0⟩] scope pos) 1 it' acc env) R s')
   (notedBy (model prog w) A env λx s'=>R (.error x) s') s) :
  codeAny (model prog w) A (.compStart (.ListComp elt [⟨t1,i1,[],0⟩,⟨t2,i2,[],0⟩] scope pos) 1 it acc env) R s:=by
 refine codeAny_of_tree ?_;show wpAny _ _ ((compStart (.ListComp elt [⟨t1,i1,[],0⟩,⟨t2,i2,[],0⟩] scope pos) 1 it acc env).onRaise (λx=>do noteFrame x env;standAt theWindowsPlace)) _ _ s
 refine wpAny_notedAt ?_;unfold compStart;show wpAny _ _ (ask >>= _) _ _ s;refine QbX (wpAny_askSetting (wpAny_ite ?_));split
 ·first
   | exact QbX (QbY (QbY (And.intro rfl h0)))
   | exact QbY (And.intro rfl h0)
 ·first
   | exact QbX (wpAny_rule (QbX (QbM (QbX (QbZ h (λit' s' h'=>QbY (And.intro rfl h')) λ_ _ x=>x)))))
   | (refine QbX (wpAny_rule ?_);show wpAny _ _ (standAt i2.pos >>= _) _ _ s;exact QbX (QbM (QbX (QbZ h (λit' s' h'=>QbY (And.intro rfl h')) λ_ _ x=>x))))
theorem Nj (J:Nat->Shared->Prop)
  (turn:∀n s,J n s->wpAny (model prog w) A (pyNext it) (λr s1=>match r with
   | none=>R (.ok .next) s1
   | some v=>wpAny (model prog w) A (letOwnedTupleGo t2 it v) (λ_ s2=>wpAny (model prog w) A (assign t2 env v) (λ_ s3=>
     wpAny (model prog w) A (eval elt env) (λx s5=>wpAny (model prog w) A (call (.builtin "list.append") [acc,x]) (λ_ s6=>∃m,m < n/\J m s6) (λ_ _=>False) s5) (λ_ _=>False) s3) (λ_ _=>False) s2) (λ_ _=>False) s1) (λ_ _=>False) s)
  (n:Nat) (h:J n s):codeAny (model prog w) A (.compLoop (.ListComp elt [⟨t1,i1,[],0⟩,⟨t2,i2,[],0⟩] scope pos) 1 it acc env) R s:=by
 refine codeAny_loop rfl J (λk s' hk=>?_) n h;show wpAny _ A (Sem.onRaise (compTurn (.ListComp elt [⟨t1,i1,[],0⟩,⟨t2,i2,[],0⟩] scope pos) 1 it acc env) (λx=>do noteFrame x env;theTreesLotGoes x)) _ _ s'
 refine wpAny_noted ?_;rw[Qe];refine QbX (QbM (QbX (QbZ (turn k s' hk) (λr s1 q1=>?_) λ_ _ f=>f.elim)));cases r with
 | none=>exact QbY q1
 | some v=>
  refine QbX (QbZ q1 (λ_ s2 q2=>QbX (QbZ q2 (λ_ s3 q3=>?_) λ_ _ f=>f.elim)) λ_ _ f=>f.elim);exact QbX (QbX (QbZ q3 (λx s5 q5=>QbX (QbZ q5 (λ_ s6 q6=>QbY (QbY ⟨rq,q6⟩)) λ_ _ f=>f.elim)) λ_ _ f=>f.elim))
theorem T7 (hs2:∀x,foldedSetIterable i2 env x=pure x) (J:Nat->Shared->Prop)
  (turn:∀n s,J n s->wpAny (model prog w) A (pyNext it) (λr s1=>match r with
   | none=>R (.ok .next) s1
   | some v=>wpAny (model prog w) A (letOwnedTupleGo t1 it v) (λ_ s2=>wpAny (model prog w) A (assign t1 env v) (λ_ s3=>
     wpAny (model prog w) A (eval i2 env) (λx s4=>wpAny (model prog w) A (pyIter x) (λjt s5=>codeAny (model prog w) A (.compStart (.ListComp elt [⟨t1,i1,[],0⟩,⟨t2,i2,[],0⟩] scope pos) 1 jt acc env) (λr s6=>match r with | .ok _=>∃m,m < n/\J m s6 | .error _=>False) s5) (λ_ _=>False) s4) (λ_ _=>False) s3) (λ_ _=>False) s2) (λ_ _=>False) s1) (λ_ _=>False) s)
  (n:Nat) (h:J n s):codeAny (model prog w) A (.compLoop (.ListComp elt [⟨t1,i1,[],0⟩,⟨t2,i2,[],0⟩] scope pos) 0 it acc env) R s:=by
 refine codeAny_loop rfl J (λk s' hk=>?_) n h;show wpAny _ A (Sem.onRaise (compTurn (.ListComp elt [⟨t1,i1,[],0⟩,⟨t2,i2,[],0⟩] scope pos) 0 it acc env) (λx=>do noteFrame x env;theTreesLotGoes x)) _ _ s'
 refine wpAny_noted ?_;rw[Ni];refine QbX (QbM (QbX (QbZ (turn k s' hk) (λr s1 q1=>?_) λ_ _ f=>f.elim)));cases r with
 | none=>exact QbY q1
 | some v=>
  refine QbX (QbZ q1 (λ_ s2 q2=>QbX (QbZ q2 (λ_ s3 q3=>?_) λ_ _ f=>f.elim)) λ_ _ f=>f.elim);refine QbX (QbZ q3 (λx s4 q4=>QbX (QbM (QbX (wpAny_of_eq (hs2 x) (QbX (QbL (QbZ q4 (λjt s5 q5=>?_) λ_ _ f=>f.elim))))))) λ_ _ f=>f.elim);refine QbX (wpAny_runOwn (QbT q5 λr s6 q6=>?_));cases r with
  | ok f=>exact QbY ⟨rfl,q6⟩
  | error e=>exact q6.elim
end
def CIn (J:It) (g:TG) (te:TE) (l:Addr) (N:YO) (σ0:St) (H0:Hp):Prop:=∃W:Nat->YN,(∃m,W 0 m σ0 H0) /\
 ∀i m σ' H',W i m σ' H'->(J.stop i H'/\N σ' H')\/(J.go i H'/\∃N2:YO,(∀ σ3 H3,N2 σ3 H3->∃m',m' < m/\W (i+1) m' σ3 H3)/\∀x H2,J.yld i H' x H2->g x σ' H2 fun σ3 H3=>
  te σ3 H3 λy H5=>∃xs,H5 l=some (.lst xs)/\xs.length < sizeLine/\N2 σ3 (upd H5 l (.lst (xs++[y]))))
@[irreducible] def LR (J:It) (g:TG) (wi2:TI) (g2:TG) (te:TE) (Q:VK) (σ0:St) (H0:Hp) (l:Addr):Prop:=∃W:Nat->YN,(∃m,W 0 m σ0 H0) /\
 ∀i m σ' H',W i m σ' H'->(J.stop i H'/\Q (.ref l) H')\/(J.go i H'/\∃N:YO,(∀ σ3 H3,N σ3 H3->∃m',m' < m/\W (i+1) m' σ3 H3)/\∀x H2,J.yld i H' x H2->g x σ' H2 fun σ3 H3=>wi2 σ3 H3 λJ2 H4=>CIn J2 g2 te l N σ3 H4)
def Uu (wi:TI) (src:List (Option Nat)) (g:TG) (wi2:TI) (g2:TG) (te:TE):TE:=fun Z H Q=>wi Z H λJ H1=>∀l,H1 l=none->LR J g wi2 g2 te Q (GQ src Z) (upd H1 l (.lst [])) l
theorem YX {Y:Cx} (hE:∀v s,Y.xe v s->False) (hc:Y.calm=true) {elt t1 i1 t2 i2:Expr} {sc:Scope} {pos:Pos} {l it:Addr} {fp:List Addr} {tn:Nat->Heap->Prop} {J:It} {g:TG} {te:TE} {N:YO} {jb:YC} {Z : St} {H:Hp} {s:Shared}
  (T:Turn Y.prog Y.w Y.K t2 J fp it tn) (hg:PG Y t2 g) (he:PE Y elt te) (I:Inv Y jb Z H s) (st:tn 0 s.heap) (f:∀b∈fp,DR Y jb H b) (w:CIn J g te l N Z H) :
  codeAny (model Y.prog Y.w) Y.A (.compStart (.ListComp elt [⟨t1,i1,[],0⟩,⟨t2,i2,[],0⟩] sc pos) 1 (.ref it) (.ref l) Y.env) (λr s'=>match r with | .ok _=>∃ σ' H',Inv Y jb σ' H' s'/\N σ' H' | .error _=>False) s:=by
 obtain⟨W,⟨m0,w0⟩,turn⟩:=w;have loop:codeAny (model Y.prog Y.w) Y.A (.compLoop (.ListComp elt [⟨t1,i1,[],0⟩,⟨t2,i2,[],0⟩] sc pos) 1 (.ref it) (.ref l) Y.env) (λr s'=>match r with | .ok _=>∃ σ' H',Inv Y jb σ' H' s'/\N σ' H' | .error _=>False) s:=by
  refine Nj (λn s'=>∃i σ' H',Inv Y jb σ' H' s'/\tn i s'.heap/\(∀b∈fp,H' b=none)/\W i n σ' H') ?_ m0 ⟨0,Z,H,I,st,λb hb=>(f b hb).1,w0⟩;rintro n s3 ⟨i,σ3,H3,I3,st3,fr3,w3⟩;have stat:∀{H':Hp},(∀b∈fp,H' b=none)->∀b∈fp,DR Y jb H' b:=λhn b hb=>⟨hn b hb,(f b hb).2⟩;rcases turn i n σ3 H3 w3 with⟨stop,qn⟩|⟨go,N2,hN,step⟩
  ·refine thn (T.done Y rfl rfl rfl hc i jb s3 σ3 H3 _ I3 (stat fr3) st3 stop) λr s4 zz=>?_;obtain⟨hr,I4⟩:=zz;subst hr;exact⟨σ3,H3,I4,qn⟩
  ·refine thn (T.item Y rfl rfl rfl hc i jb s3 σ3 H3 _ I3 (stat fr3) st3 go) λr s4 zz=>?_;obtain⟨u,hr,h4⟩:=zz;subst hr;refine thn h4 λ_ s5 zz=>?_;obtain⟨x,H5,I5,r5,y5,st5,fr5⟩:=zz;have I5':=I5.pinned (stat fr5) (T.obj _ _ st5);have again:∀{σ7:St} {H7:Hp} {s7:Shared},Inv Y (jb++Hi fp s5.heap) σ7 H7 s7->N2 σ7 H7->∃m,m < n/\∃i σ' H',Inv Y jb σ' H' s7/\tn i s7.heap/\(∀b∈fp,H' b=none)/\W i m σ' H':=λ{σ7 H7 s7} I7 n7=>by
    obtain⟨m',hm,w7⟩:=hN σ7 H7 n7;refine⟨m',hm,i+1,σ7,H7,I7.Fe,T.keep _ _ _ st5 λb hb o e=>(I7.pin (b,o) (Qap _ (Qap _ (Ep hb e)))).1,λb hb=>?_,w7⟩;obtain⟨o,e,d⟩:=T.obj _ _ st5 b hb;exact (I7.pin (b,o) (Qap _ (Qap _ (Ep hb e)))).2.1
   refine QbZ (hg _ s5 σ3 H5 x u _ I5' r5 (step x H5 y5)) (λ_ s6 zz=>?_) λv s h=>(hE v s h).elim;obtain⟨σ6,H6,I6,q6⟩:=zz;refine QbZ (he _ s6 σ6 H6 _ I6 q6) (λy s9 zz=>?_) λv s h=>(hE v s h).elim;obtain⟨yv,H9,J9,r9,xs,hl9,hz9,q9⟩:=zz;refine QbZ (Dw _ s9 σ6 H9 (.ref l) [yv] (.ref l) [y] (λ_ H'=>N2 σ6 H') J9 rfl (.cons r9 .nil) ⟨_,xs,yv,rq,rq,hl9,hz9,q9⟩) (λ_ s10 zz=>?_) λv s h=>(hE v s h).elim;obtain⟨_,H10,J10,_,q10⟩:=zz;exact again J10 q10
 exact JK loop (T.self Y.A 0 _ _ _ st loop)
theorem T9 {X:Cx} {N':YF} {src:List (Option Nat)} {sc:Scope} {elt tg iter t2 i2:Expr} {pos pos':Pos} {wi wi2:TI} {g g2:TG} {te:TE} {use:Option (Value->Sem Unit)} {R:YA} (hc:X.calm=true) (S:Bj X N' src sc)
  (hi:PI X tg iter wi) (hg:∀s3 H3 fp pn,PG (cxC X N' sc s3 H3 fp pn) tg g) (hi2:∀s3 H3 fp pn,PI (cxC X N' sc s3 H3 fp pn) t2 i2 wi2) (hg2:∀s3 H3 fp pn,PG (cxC X N' sc s3 H3 fp pn) t2 g2) (he:∀s3 H3 fp pn,PE (cxC X N' sc s3 H3 fp pn) elt te)
  (hs:∀x,foldedSetIterable iter X.env x=pure x) (hs2:∀s3 H3 fp pn x,foldedSetIterable i2 (cxC X N' sc s3 H3 fp pn).env x=pure x) {jb:YC} {s:Shared} {Z : St} {H:Hp} {Q:VK} (I:Inv X jb Z H s) (h:Uu wi src g wi2 g2 te Z H Q)
  (fin:∀s3 H3 fp σ4 H4 s5 l,Inv X jb Z H3 s3->(∀b∈fp,DR X jb H3 b)->Inv (cxC X N' sc s3 H3 fp (X.pn++jb)) [] σ4 H4 s5->Q (.ref l) H4 ->
   compPost (model X.prog X.w) X.A X.xe use R (.ref l) s3.heap.objs.size (.ok .next) s5) :
  wpAny (model X.prog X.w) X.A (comprehension (.ListComp elt [⟨tg,iter,[],0⟩,⟨t2,i2,[],0⟩] sc pos) sc X.env pos' (newList []) false (eval iter X.env) use) R X.xe s:=by
 refine wpAny_comprehension_free (use:=use) (cl:=CT X.env sc.names []) rfl hs (LQ λp hp e=>I.ok.has p.1 (S.fv p hp e)) S.kind S.loc ?_;refine thn (hi jb s Z H _ I h) λv s1 h1=>thn h1 λitv s2 h2=>?_;obtain⟨it,fp,tn,J,H2,rfl,I2,T,st2,f2,q⟩:=h2;have q':=q s2.heap.objs.size (I2.hok.fresh (QbV _));unfold LR at q';obtain⟨W,⟨m0,w0⟩,turn⟩:=q';refine wpAny_newObj_type (wpAny_newFunctionEnv S.FN (by intro y hy;simp at hy) (λha hns hsb=>?_) S.kind);have I3:Inv X jb Z (upd H2 s2.heap.objs.size (.lst [])) { s2 with heap:=s2.heap.push { cls:=.type "list",dict:=none,data:=.seq ([]:YE).toArray } }:=
  I2.laid (t':=s2.toks) (λb u e=>Qak _ e) (QbV _) ⟨QbW _,[],0,.nil,QaA _ rfl⟩
 have hfl:∀b∈fp,b < s2.heap.objs.size:=λb hb=>by
  obtain⟨o,e,_⟩:=T.obj 0 _ st2 b hb;exact QbO e
 have f3:∀b∈fp,DR X jb (upd H2 s2.heap.objs.size (.lst [])) b:=λb hb=>⟨by rw[Aj (QbP (hfl b hb))];exact (f2 b hb).1,(f2 b hb).2⟩;generalize hs3:({ s2 with heap:=s2.heap.push { cls:=.type "list",dict:=none,data:=.seq ([]:YE).toArray } }:Shared)=s3 at *;have hsz:s2.heap.objs.size < s3.heap.objs.size:=by rw[<-hs3];show s2.heap.objs.size < (s2.heap.push _).objs.size;rw[QbD];exact Qbg _
 have kp:∀b o,s3.heap.get? b=some o->ha.get? b=some o:=λb o e=>hsb.extBut b o (QbP (QbO e)) (Qak _ e);have st3:tn 0 ha:=T.keep 0 _ _ st2 λb hb o e=>kp b o (by rw[<-hs3];exact Qak _ e);have I4:Inv (cxC X N' sc s3 (upd H2 s2.heap.objs.size (.lst [])) fp (X.pn++jb)) [] (GQ src Z) (upd H2 s2.heap.objs.size (.lst [])) { s3 with heap:=ha,toks:=s3.toks+([]:List (Str×Value)).length }:=
  Qc S I3 f3 (λb hb=>Nat.lt_trans (hfl b hb) hsz) hns kp
 have loop:codeAny (model X.prog X.w) X.A (.compLoop (.ListComp elt [⟨tg,iter,[],0⟩,⟨t2,i2,[],0⟩] sc pos) 0 (.ref it) (.ref s2.heap.objs.size) (compEnvC sc (CT X.env sc.names []) s3.heap.objs.size X.env))
   (compPost (model X.prog X.w) X.A X.xe use R (.ref s2.heap.objs.size) s3.heap.objs.size) { s3 with heap:=ha,toks:=s3.toks+([]:List (Str×Value)).length }:=by
  refine T7 (hs2 s3 (upd H2 s2.heap.objs.size (.lst [])) fp (X.pn++jb)) (λn s'=>∃i σ' H',Inv (cxC X N' sc s3 (upd H2 s2.heap.objs.size (.lst [])) fp (X.pn++jb)) [] σ' H' s'/\tn i s'.heap/\(∀b∈fp,H' b=none)/\W i n σ' H') ?_ m0 ⟨0,_,_,I4,st3,λb hb=>(f3 b hb).1,w0⟩;rintro n s4 ⟨i,σ4,H4,J4,st4,fr4,w4⟩;have stat:∀{H':Hp},(∀b∈fp,H' b=none)->∀b∈fp,DR (cxC X N' sc s3 (upd H2 s2.heap.objs.size (.lst [])) fp (X.pn++jb)) [] H' b:=λhn b hb=>
   ⟨hn b hb,(I4.ok.exf b hb).1,I4.ok.GF b hb,.inl hb,λx c e=>(I4.ok.exf b hb).2 x c e,λp hp=>(f3 b hb).2.2.2.2.2 p ((Qbn.mp hp).elim id λz=>by cases z)⟩
  rcases turn i n σ4 H4 w4 with⟨stop,qn⟩|⟨go,N,hN,step⟩
  ·refine thn (T.done (cxC X N' sc s3 (upd H2 s2.heap.objs.size (.lst [])) fp (X.pn++jb)) rfl rfl rfl hc i [] s4 σ4 H4 _ J4 (stat fr4) st4 stop) λr s5 zz=>?_;obtain⟨hr,J5⟩:=zz;subst hr;exact fin s3 _ fp σ4 H4 s5 _ I3 f3 J5 qn
  ·refine thn (T.item (cxC X N' sc s3 (upd H2 s2.heap.objs.size (.lst [])) fp (X.pn++jb)) rfl rfl rfl hc i [] s4 σ4 H4 _ J4 (stat fr4) st4 go) λr s5 zz=>?_;obtain⟨u,hr,h5⟩:=zz;subst hr;refine thn h5 λ_ s6 zz=>?_;obtain⟨x,H6,J6,r6,y6,st6,fr6⟩:=zz;have J6':=J6.pinned (stat fr6) (T.obj _ _ st6);have back:∀{σ7:St} {H7:Hp} {s7:Shared},Inv (cxC X N' sc s3 (upd H2 s2.heap.objs.size (.lst [])) fp (X.pn++jb)) ([]++Hi fp s6.heap) σ7 H7 s7->N σ7 H7 ->
     ∃m',m' < n/\∃i σ' H',Inv (cxC X N' sc s3 (upd H2 s2.heap.objs.size (.lst [])) fp (X.pn++jb)) [] σ' H' s7/\tn i s7.heap/\(∀b∈fp,H' b=none)/\W i m' σ' H':=λ{σ7 H7 s7} J7 w7=>by
    obtain⟨m',hm,w7⟩:=hN _ _ w7;have pinned:∀b∈fp,∀o,s6.heap.get? b=some o->s7.heap.get? b=some o/\H7 b=none:=λb hb o e=>by
     have:=J7.pin (b,o) (Qap _ (Qap _ (Ep hb e)));exact⟨this.1,this.2.1⟩
    refine⟨m',hm,i+1,σ7,H7,J7.Fe,T.keep _ _ _ st6 λb hb o e=>(pinned b hb o e).1,λb hb=>?_,w7⟩;obtain⟨o,e,_⟩:=T.obj _ _ st6 b hb;exact (pinned b hb o e).2
   refine thn (hg s3 _ fp _ _ s6 σ4 H6 x u _ J6' r6 (step x H6 y6)) λ_ s7 zz=>?_;obtain⟨σ7,H7,J7,q7⟩:=zz;refine thn (hi2 s3 _ fp _ _ s7 σ7 H7 _ J7 q7) λv s8 q8=>thn q8 λjt s9 q9=>?_;obtain⟨it2,fp2,tn2,J2,H9,rfl,I9,T2,st9,f9,q9⟩:=q9;refine QbT (YX (Y:=cxC X N' sc s3 (upd H2 s2.heap.objs.size (.lst [])) fp (X.pn++jb)) (λ_ _ h=>h) hc T2 (hg2 s3 _ fp _) (he s3 _ fp _) I9 st9 f9 q9) λr s10 q10=>?_;cases r with
   | ok f=>obtain⟨σ',H',I',n'⟩:=q10;exact back I' n'
   | error e=>exact q10
 exact codeAny_compStart_list loop (T.self X.A 0 _ _ _ st3 loop)
theorem Ww {X:Cx} {N':YF} {src:List (Option Nat)} {sc:Scope} {elt tg iter t2 i2:Expr} {pos:Pos} {wi wi2:TI} {g g2:TG} {te:TE} (hc:X.calm=true) (S:Bj X N' src sc)
  (hi:PI X tg iter wi) (hg:∀s3 H3 fp pn,PG (cxC X N' sc s3 H3 fp pn) tg g) (hi2:∀s3 H3 fp pn,PI (cxC X N' sc s3 H3 fp pn) t2 i2 wi2) (hg2:∀s3 H3 fp pn,PG (cxC X N' sc s3 H3 fp pn) t2 g2) (he:∀s3 H3 fp pn,PE (cxC X N' sc s3 H3 fp pn) elt te)
  (hs:∀x,foldedSetIterable iter X.env x=pure x:=by intro _;rfl) (hs2:∀s3 H3 fp pn x,foldedSetIterable i2 (cxC X N' sc s3 H3 fp pn).env x=pure x:=by intros;rfl):PE X (.ListComp elt [⟨tg,iter,[],0⟩,⟨t2,i2,[],0⟩] sc pos) (Uu wi src g wi2 g2 te):=by
 intro jb s Z H Q I h;rw[eval_ListComp];refine T9 (use:=none) hc S hi hg hi2 hg2 he hs hs2 I h λs3 H3 fp σ4 H4 s5 l I3 f3 J5 q=>?_;obtain⟨m,hn,_⟩:=J5.loc;exact⟨m,hn,λh' sb=>⟨.ref l,H4,Qd I3 f3 J5 sb,rq,q⟩⟩
theorem YZ {K:YD} {a l:Addr} {xs:YG} {g:TG} {te:TE} {N:YO} {σ0:St} {H0:Hp} (Pv:YN)
  (h0:Pv 0 σ0 H0) (hl:∀i Z H',i<=xs.length->Pv i Z H'->SqL K H' a xs)
  (hs:∀i x Z H',xs[i]?=some x->Pv i Z H'->g x Z H' fun σ3 H3=>te σ3 H3 λy H5=>∃ys,H5 l=some (.lst ys)/\ys.length < sizeLine/\Pv (i+1) σ3 (upd H5 l (.lst (ys++[y]))))
  (hd:∀ Z H',Pv xs.length Z H'->N Z H'):CIn (Itl K a) g te l N σ0 H0:=by
 refine⟨λi m Z H'=>m=xs.length - i/\i<=xs.length/\Pv i Z H',⟨xs.length,by simp,QbW _,h0⟩,?_⟩;rintro i m Z H' ⟨rfl,hi,p⟩;have q:=hl i Z H' hi p;by_cases hlt:i < xs.length
 ·refine .inr ⟨⟨xs,xs[i],q,by simp[hlt]⟩,Pv (i+1),fun σ3 H3 p'=>⟨xs.length - (i+1),by omega,rq,hlt,p'⟩,λv H2 y=>?_⟩;obtain⟨rfl,hx⟩:=y;exact hs i v Z _ (hx xs q) p
 ·have e:i=xs.length:=by omega
  subst e;exact .inl ⟨⟨xs,q,QbV _⟩,hd Z H' p⟩
end L2
namespace L2
open PySem
theorem bM {a b:Expr} {op:Operator} {p:Pos} {es:YJ} {env:Env}:starEach (.BinOp a op b p::es) env=(false,eval (.BinOp a op b p) env)::starEach es env:=by rfl
theorem fV {a:Expr} {op:UnaryOp} {p:Pos} {es:YJ} {env:Env}:starEach (.UnaryOp op a p::es) env=(false,eval (.UnaryOp op a p) env)::starEach es env:=by rfl
theorem ZF {x:Str} {p:Pos} {es:YJ} {env:Env}:starEach (.Name x p::es) env=(false,eval (.Name x p) env)::starEach es env:=by rfl
theorem bL {as:YJ} {p:Pos} {es:YJ} {env:Env}:starEach (.List as p::es) env=(false,eval (.List as p) env)::starEach es env:=by rfl
end L2
namespace L2
open PySem PySem.Spec PyProof.Rows
def KD (K:YD) (P:Params) (a:Addr):Prop:=(∃es n,K.lookup a=some ⟨.type "dict",none,.dict es n,#[]⟩/\PySem.W.KeysLit P es.toList)/\(a == sysModules)=false
section
variable {X:Cx}
end
def Mx (h:Heap) (d:Addr) (es:YK) (ep:Nat):Prop:=∃o,h.get? d=some o/\o.ExactDict/\o.data=.dict es ep
section
variable {prog:Program} {w:World} {A:Around} {E:YA} {s:Shared}
end
section
variable {X:Cx} {jb:YC} {Z : St} {H:Hp} {s:Shared} {a:Addr} {kvs:YL} {o:Obj}
end
def KTr (P:Program) (w:World) (H:Hp) (kvs:YL) (es:YK):Prop:=es.size=kvs.length/\∀(i:Nat) (kv:List Key×V),kvs[i]?=some kv->∃b en,es[i]?=some en/\en.key=.ref b/\H b=some (.tup (kv.1.map kV))/\RelV kv.2 en.val
theorem cR {P:Program} {w:World} {H:Hp} {kvs:YL} {xs:List (List Key×Addr×Value)} {es:YK} (r:Paired (λ(p:List Key×V) (q:List Key×Addr×Value)=>p.1=q.1/\H q.2.1=some (.tup (p.1.map kV))/\RelV p.2 q.2.2) kvs xs) (e:es.toList=xs.map (entryOfKey (tupleKind (Cv P w)))):KTr P w H kvs es:=by
 refine⟨by rw[size_of_entries e,QbG r],λi kv hkv=>?_⟩;have go:∀{l:YL} {m:List (List Key×Addr×Value)} {i:Nat} {p:List Key×V},Paired (λ(p:List Key×V) (q:List Key×Addr×Value)=>p.1=q.1/\H q.2.1=some (.tup (p.1.map kV))/\RelV p.2 q.2.2) l m->l[i]?=some p->∃x,m[i]?=some x/\H x.2.1=some (.tup (p.1.map kV))/\RelV p.2 x.2.2:=by
  intro l m i p r
  induction r generalizing i with
  | nil=>intro h;cases h
  | cons a t ih=>
   intro h;cases i with
   | zero=>cases h;exact⟨_,rfl,a.2⟩
   | succ i=>exact ih h
 obtain⟨x,hx,h1,h2⟩:=go r hkv;exact⟨x.2.1,_,by rw[entry_at e i,hx];rfl,rq,h1,h2⟩
theorem Z4 {H:Hp}:∀{l:YL} {m:List (List Key×Addr×Value)} {i:Nat} {p:List Key×V},Paired (λ(p:List Key×V) (q:List Key×Addr×Value)=>p.1=q.1/\H q.2.1=some (.tup (p.1.map kV))/\RelV p.2 q.2.2) l m->l[i]?=some p->∃x,m[i]?=some x/\p.1=x.1/\H x.2.1=some (.tup (p.1.map kV))/\RelV p.2 x.2.2:=by
 intro l m i p r
 induction r generalizing i with
 | nil=>intro h;cases h
 | cons a t ih=>
  intro h;cases i with
  | zero=>cases h;exact⟨_,rfl,a⟩
  | succ i=>exact ih h
theorem Mz {H:Hp}:∀{l:YL} {m:List (List Key×Addr×Value)} {i:Nat} {x:List Key×Addr×Value},Paired (λ(p:List Key×V) (q:List Key×Addr×Value)=>p.1=q.1/\H q.2.1=some (.tup (p.1.map kV))/\RelV p.2 q.2.2) l m->m[i]?=some x->∃p,l[i]?=some p/\p.1=x.1/\H x.2.1=some (.tup (p.1.map kV))/\RelV p.2 x.2.2:=by
 intro l m i x r
 induction r generalizing i with
 | nil=>intro h;cases h
 | cons a t ih=>
  intro h;cases i with
  | zero=>cases h;exact⟨_,rfl,a⟩
  | succ i=>exact ih h
section
variable {X:Cx} {o e f:Expr} {apos cpos:Pos} {td ty tx:TE}
end
def tC1 (sp:Sp) (t0:TE):TE:=fun Z H Q=>t0 Z H λv0 H0=>sp [v0] H0 Q E0
def tC2 (sp:Sp) (t0 t1:TE):TE:=fun Z H Q=>t0 Z H λv0 H0=>t1 Z H0 λv1 H1=>sp [v0,v1] H1 Q E0
def tC3 (sp:Sp) (t0 t1 t2:TE):TE:=fun Z H Q=>t0 Z H λv0 H0=>t1 Z H0 λv1 H1=>t2 Z H1 λv2 H2=>sp [v0,v1,v2] H2 Q E0
def tM0 (C:Addr) (m:Str) (sp:Sp) (ta:TE):TE:=fun Z H Q=>ta Z H λx G=>∃a dx fs,x=.ref a/\G a=some (.ins C dx fs)/\fs.lookup m=none/\sp [x] G Q E0
section
variable {X:Cx} {pl:Sem Bool} {k k':Nat} {C:Addr} {ps:YF} {sp:Sp} {x m:Str} {p apos pos:Pos} {o e0 e1 e2 e3 e4 e5:Expr} {ta t0 t1 t2 t3 t4 t5:TE}
theorem Ov (g:Good X.prog X.w X.K X.mg X.base x k ps sp) (hr:Bh k' X.A) (ha:PA X [e0] (Hv t0 Kp)) (hk:k<=k':=by decide) (hg:Gl X x:=by rfl) (hdb:(x == ("__debug__":Str))=false:=by decide) (he:starEach [e0] X.env=(false,eval e0 X.env)::starEach [] X.env:=by rfl) (hpl:(backTo pos (starEach [] X.env)).any (·.1)=false:=by rfl):PE X (.Call (.Name x p) [e0] [] pos) (tC1 sp t0):=Sh g hr ha hk hg hdb he hpl
theorem Dd (g:Good X.prog X.w X.K X.mg X.base x k ps sp) (hr:Bh k' X.A) (ha:PA X [e0,e1] (Hv t0 (Hv t1 Kp))) (hk:k<=k':=by decide) (hg:Gl X x:=by rfl) (hdb:(x == ("__debug__":Str))=false:=by decide) (he:starEach [e0,e1] X.env=(false,eval e0 X.env)::starEach [e1] X.env:=by rfl) (hpl:(backTo pos (starEach [e1] X.env)).any (·.1)=false:=by rfl):PE X (.Call (.Name x p) [e0,e1] [] pos) (tC2 sp t0 t1):=Sh g hr ha hk hg hdb he hpl
theorem Jx (g:Good X.prog X.w X.K X.mg X.base x k ps sp) (hr:Bh k' X.A) (ha:PA X [e0,e1,e2] (Hv t0 (Hv t1 (Hv t2 Kp)))) (hk:k<=k':=by decide) (hg:Gl X x:=by rfl) (hdb:(x == ("__debug__":Str))=false:=by decide) (he:starEach [e0,e1,e2] X.env=(false,eval e0 X.env)::starEach [e1,e2] X.env:=by rfl) (hpl:(backTo pos (starEach [e1,e2] X.env)).any (·.1)=false:=by rfl):PE X (.Call (.Name x p) [e0,e1,e2] [] pos) (tC3 sp t0 t1 t2):=Sh g hr ha hk hg hdb he hpl
theorem Jb (he:PE X o ta) (c:Cls X.K C) (g:Fb X.prog X.w X.K X.mg X.base C m k ps sp) (hr:Bh k' X.A) (hk:k<=k':=by decide) (ht:eval (.Call (.Attribute o m apos) [] [] pos) X.env=(do
   let ov <-eval o X.env
   standAt apos.atName
   let (f,first) <-holding [ov] (getMethod ov m pl)
   callWith pos f first (backTo pos (starEach [] X.env)) (backToKw pos (keywordEach [] X.env))):=by rfl):PE X (.Call (.Attribute o m apos) [] [] pos) (tM0 C m sp ta):=bV (pl:=pl) he c g hr hk ht
end
open PySem.W (KasT kas_asc kas_desc kas_rev kas_tail3 kas_descPart kas_count kas_place kas_bin kas_sort)
structure C4 (a b c k:Int):Prop where
 b0:0<=b
 b1:b < 10000
 c0:0<=c
 c1:c < 10000
 k:k=a*100000000+b*10000+c
def Iu (K:YD) (H:Hp) (v:V) (k:Int):Prop:=∃t a b c x,v=.ref t/\SqT K H t [.int a,.int b,.int c,.str x]/\C4 a b c k
section
variable {prog:Program} {w:World} {A:Around} {s:Shared}
theorem kY {fin:Bool} {C:Bool->Shared->Prop} {a b c k a' b' c' k':Int} {r r':YE} {t1 t2 t3 u1 u2 u3:Tok} (x:C4 a b c k) (y:C4 a' b' c' k') (ne:k≠k') (hC:C (decide (k < k')) s):PySem.W.KatLex prog w A true fin C ((Value.int a t1::Value.int b t2::Value.int c t3::r).zip (Value.int a' u1::Value.int b' u2::Value.int c' u3::r')) 0 s:=by
 have x1:=x.b0;have x2:=x.b1;have x3:=x.c0;have x4:=x.c1;have x5:=x.k;have y1:=y.b0;have y2:=y.b1;have y3:=y.c0;have y4:=y.c1;have y5:=y.k;rw[QaN];refine kat_cons (Qbd ?_);by_cases ha:a=a'
 ·rw[show (a == a')=true by rw[ha];exact Qbi a'];refine kat_yes ?_;rw[QaN];refine kat_cons (Qbd ?_);by_cases hb:b=b'
  ·rw[show (b == b')=true by rw[hb];exact Qbi b'];refine kat_yes ?_;rw[QaN];refine kat_cons (Qbd ?_);have hc:c≠c':=λz=>ne (by rw[x5,y5,ha,hb,z]);rw[show (c == c')=false from QaB.mpr hc]
   refine PySem.W.kat_no (PySem.W.kat_one _ _ (lt_int ?_));rw[show decide (c < c')=decide (k < k') by rw[Qbu,QaK,QaK];subst ha hb;constructor <;> intro h <;> omega];exact hC
  ·rw[show (b == b')=false from QaB.mpr hb]
   refine PySem.W.kat_no (PySem.W.kat_one _ _ (lt_int ?_));rw[show decide (b < b')=decide (k < k') by rw[Qbu,QaK,QaK];subst ha;constructor <;> intro h <;> omega];exact hC
 ·rw[show (a == a')=false from QaB.mpr ha]
  refine PySem.W.kat_no (oneLt_int ?_);rw[show decide (a < a')=decide (k < k') by rw[Qbu,QaK,QaK];constructor <;> intro h <;> omega];exact hC
theorem gw {fin:Bool} {C:Bool->Shared->Prop} {a b c:Int} {x:Str} {t1 t2 t3 t4:Tok} (hC:C fin s):PySem.W.KatLex prog w A true fin C ([Value.int a t1,Value.int b t2,Value.int c t3,Value.str x t4].zip [Value.int a t1,Value.int b t2,Value.int c t3,Value.str x t4]) 0 s:=by
 rw[QaN];refine kat_cons (Qbd ?_);rw[show (a == a)=true from Qbi a]
 refine kat_yes ?_;rw[QaN];refine kat_cons (Qbd ?_);rw[show (b == b)=true from Qbi b]
 refine kat_yes ?_;rw[QaN];refine kat_cons (Qbd ?_);rw[show (c == c)=true from Qbi c]
 refine kat_yes ?_;rw[QaN];refine kat_cons (wpAny_eqBool_str ?_);rw[QbC (rfl:x=x)];exact kat_yes hC
end
theorem Rr {X:Cx} {jb:YC} {Z : St} {H:Hp} {s:Shared} {h':Heap} (I:Inv X jb Z H s) (k:∀b o,H b≠none\/(∃u,X.base.get? b=some u)->s.heap.get? b=some o->h'.get? b=some o) {v:V} {u:Value} {kk:Int} (r:RelV v u) (h:Iu X.K H v kk) :
  ∃(x:Addr) (ox:Obj) (ws:Array Value) (n:Nat) (a b c:Int) (t:Str) (t1 t2 t3 t4:Tok),u=.ref x/\h'.get? x=some ox/\ox.cls=.type "tuple"/\ox.data=.seq ws n/\ws.toList=[Value.int a t1,Value.int b t2,Value.int c t3,Value.str t t4]/\C4 a b c kk:=by
 obtain⟨tp,a,b,c,x,rfl,hq,hc⟩:=h;cases r;obtain⟨ws,rw',⟨o,ho,hcl,n,hd⟩,_⟩:=I.tuple hq;have ho':h'.get? tp=some o:=by
  refine k tp o ?_ ho;rcases hq with (e |⟨_,e⟩) |⟨_,_,_,e,_⟩
  ·exact .inl (by rw[e];exact λz=>nomatch z)
  ·exact .inl (by rw[e];exact λz=>nomatch z)
  ·exact .inr ⟨_,I.mod.kin _ _ e⟩
 cases rw' with
 | cons r0 rr=>
  cases rr with
  | cons r1 rr=>
   cases rr with
   | cons r2 rr=>
    cases rr with
    | cons r3 rr=>
     cases rr;obtain⟨t0,e0⟩:=r0;obtain⟨t1,e1⟩:=r1;obtain⟨t2,e2⟩:=r2;obtain⟨t3,e3⟩:=r3;exact⟨tp,o,_,n,a,b,c,x,t0,t1,t2,t3,rq,ho',hcl,hd,by rw[e0,e1,e2,e3],hc⟩
theorem Pu {X:Cx} {jb:YC} {Z : St} {H:Hp} {s:Shared} {h':Heap} (I:Inv X jb Z H s) (k:∀b o,H b≠none\/(∃u,X.base.get? b=some u)->s.heap.get? b=some o->h'.get? b=some o):∀{vs:YG} {its:YE} {ks:List Int},Vals vs its->Paired (Iu X.K H) vs ks ->
  ∃fs,PySem.W.KatTups h' its fs/\fs.length=its.length/\∀f∈fs,∃i t,f=Value.int i t
 | _,_,_,.nil,_=>⟨[],trivial,rfl,λf h=>nomatch h⟩
 | _,_,_,.cons r t,.cons h hr=>by
  obtain⟨fs,f1,f2,f3⟩:=Pu I k t hr;obtain⟨x,ox,ws,n,a,b,c,tx,t1,t2,t3,t4,rfl,hx,hcl,hd,he,_⟩:=Rr I k r h;refine⟨Value.int a t1::fs,PySem.W.KatTups.cons hx hcl hd (by rw[<-Array.getElem?_toList,he];rfl) f1,by simp[f2],λf hf=>?_⟩;rcases QbF.mp hf with rfl | hf
  ·exact⟨_,_,rq⟩
  ·exact f3 f hf
theorem RT {X:Cx} {jb:YC} {Z : St} {H:Hp} {s s1:Shared} {A:Around} {vs:YG} {its:YE} {ks:List Int} {F:Array Nat->Shared->Prop} (I:Inv X jb Z H s) (k:∀b o,H b≠none\/(∃u,X.base.get? b=some u)->s.heap.get? b=some o->s1.heap.get? b=some o)
  (rv:Vals vs its) (hK:Paired (Iu X.K H) vs ks) (hnd:ks.Nodup) (h2:2<=its.length) (q:∀pp:Array Nat,Pm its.length pp->(pp.toList.map λi=>ks.getD i 0).Pairwise (· < ·)->F pp s1) :
  wpAny (model X.prog X.w) A (keyKind' its.toArray) (fun κ s'=>(kas_sort its.length).kasWp (kas_ask X.prog X.w A κ its) F s') (λ_ _=>False) s1:=by
 have hkl:vs.length=ks.length:=QbG hK;have hlen:vs.length=its.length:=rv.length;obtain⟨fs,f1,f2,f3⟩:=Pu (h':=s1.heap) I k rv hK;refine PySem.W.kat_kind f1 (by omega) (λv hv=>by obtain⟨i,t,rfl⟩:=f3 v hv;exact PySem.W.Looks.of_pure rfl) (T:=.type "int") (by decide) ?_;have inj:Inj its.length (λi=>ks.getD i 0):=λi j hi hj e=>by
  have e:ks.getD i 0=ks.getD j 0:=e;have e1:ks.getD i 0=ks[i]'(by omega):=by simp[show i < ks.length by omega]
  have e2:ks.getD j 0=ks[j]'(by omega):=by simp[show j < ks.length by omega]
  rw[e1,e2] at e;exact O7 hnd _ _ e
 have hp:=Jc (lt:=ltK λi=>ks.getD i 0) _ (Jh (n:=its.length) (by omega));have Jd:=FT.list hp (Oj inj h2);refine Mr (lt:=ltK λi=>ks.getD i 0) (n:=its.length) (λi j C hi hj hC=>?_) _ (Jh (by omega)) (q _ hp Jd);have Ze:∀i,i < its.length->∃(x:Addr) (ox:Obj) (ws:Array Value) (n:Nat) (a b c:Int) (t:Str) (t1 t2 t3 t4:Tok),its.getD i Value.none=.ref x/\s1.heap.get? x=some ox/\ox.cls=.type "tuple"/\ox.data=.seq ws n/\ws.toList=[Value.int a t1,Value.int b t2,Value.int c t3,Value.str t t4]/\C4 a b c (ks.getD i 0):=λi hi=>by
  have hvi:i < vs.length:=by omega
  obtain⟨u,hu,ru⟩:=rv.get (x:=vs[i]) (i:=i) (by simp[hvi]);have hk4:=Gj V.non (0:Int) hK hvi;have ev:vs.getD i V.non=vs[i]:=by simp[hvi]
  rw[ev] at hk4;have:=Rr I k ru hk4;have eu:its.getD i Value.none=u:=by rw[Qac,hu];rfl
  rw[eu];exact this
 obtain⟨x,ox,wx,nx,xa,xb,xc,xt,x1,x2,x3,x4,ex,hx,_,dx,fx,cx⟩:=Ze i hi;obtain⟨y,oy,wy,ny,ya,yb,yc,yt,y1,y2,y3,y4,ey,hy,_,dy,fy,cy⟩:=Ze j hj;unfold kas_ask;rw[ex,ey];refine PySem.W.kat_lt hx dx hy dy ?_;by_cases ne:i=j
 ·subst ne;rw[ex] at ey;cases ey;rw[hx] at hy;cases hy;rw[dx] at dy;cases dy;have e0:ltK (λi=>ks.getD i 0) i i=false:=Qbm (QbK _);rw[e0] at hC;have e1:decide (wx.size < wx.size)=false:=Qbm (QbH _);rw[e1,fx];exact gw hC
 ·rw[fx,fy];exact kY cx cy (λz=>ne (inj i j hi hj z)) hC
theorem IW {X:Cx} {jb:YC} {Z : St} {H:Hp} {s:Shared} {h2:Heap} {tk:Nat} {m:YB} {D:Addr} {c:Nat} {vs:YG} {its:YE} (I:Inv X jb Z H s) (hn:s.heap.Ns X.env.locals m) (hn2:h2.Ns X.env.locals m) (kp2:∀b o,b≠X.env.locals->s.heap.get? b=some o->h2.get? b=some o) (nD:∀b o,s.heap.get? b=some o->b≠D)
  (oD:h2.get? D=some (seqObj "list" its.toArray c)) (rv:Vals vs its) (h64:vs.length < 64):H D=none/\Inv X jb Z (upd H D (.lst vs)) { s with heap:=h2,toks:=tk }:=by
 have hDn:H D=none:=by
  cases e:H D with
  | none=>rfl
  | some v=>
   obtain⟨o,ho⟩:=(I.hok D v e).there;exact absurd rfl (nD D o ho)
 refine⟨hDn,?_⟩;have tr:∀(o:HO) b u,H b=some u->(upd H D o) b=some u:=λo b u e=>by rw[Aj (Aq e hDn)];exact e
 refine I.step (h':=h2) (g':=s.gens) (d':=s.drawn) (t':=tk) (ch:=[]) (λb hb=>absurd hb (by simp)) (λb u hb _ _ e _=>kp2 b u hb e) (λb u hb _ _ e _=>⟨u.slots,kp2 b u hb e⟩) (λb u _ e n=>by rw[Aj (nD b u e)];exact n)
  (λb u _ e=>?_) (λb ys e=>tr _ _ _ e) (λb u v e=>tr _ _ _ e) (λb ps e=>⟨#[],by rw[tr _ _ _ e];simp⟩) (λm' hm'=>by rw[aq hm' hn];exact hn2) (λb u e=>?_) I.bare
 ·by_cases hb:b=X.env.locals
  ·obtain⟨o,_,_,ho,_⟩:=hn2;exact⟨o,by rw[hb];exact ho⟩
  ·exact⟨u,kp2 b u hb e⟩
 ·by_cases hb:b=D
  ·subst hb;rw[Ab] at e;cases e;exact⟨QbS (Am (by omega)),_,c,rv,oD⟩
  ·rw[Aj hb] at e;refine (I.hok b u e).stay (λx v hx e1=>kp2 x v ?_ e1) (λx e1=>tr _ _ _ e1) λx ys e1=>tr _ _ _ e1;intro z;rcases hx with hx | hx
   ·rw[<-hx,z,I.free] at e;cases e
   ·rw[z,I.free] at hx;cases hx
theorem Zo {X:Cx} {jb:YC} {Z : St} {H:Hp} {s:Shared} (I:Inv X jb Z H s):∀b,H b≠none\/(∃u,X.base.get? b=some u)->b≠X.env.locals:=λb hb z=>by
 rcases hb with hb |⟨u,hb⟩
 ·exact hb (by rw[z];exact I.free)
 ·have:=QbO hb;rw[z] at this;exact absurd (QaH this (QbR I.ok.bsz I.ok.above)) (QbH _)
theorem Le {ks:List Int} {n:Nat} (h:n < 2) (e:n=ks.length):((List.range n).map λi=>ks.getD i 0).Pairwise (· < ·):=by
 rw[e,range_getD]
 match ks,(show ks.length < 2 by omega) with
 | [],_=>exact List.Pairwise.nil
 | [k],_=>exact List.pairwise_singleton _ _
end L2
namespace L2
open PySem PySem.Spec PyProof.Rows
theorem Qy {prog:Program} {w:World} {K:Type} [DecidableEq K] {knd:HeapKind prog w K} {A:Around} {E:YA} {s:Shared} {d a:Addr} {o:Obj} {es:YK} {ep:Nat} {xs:List (K×Addr×Value)} {k:K} {dflt:Value} {Q:YA} (hu:knd.room A) (hkey:knd.is s.heap k a)
  (ho:s.heap.get? d=some o) (hc:o.ExactDict) (hd:o.data=.dict es ep) (he:es.toList=xs.map (entryOfKey knd)) (his:∀x∈xs,knd.is s.heap x.1 x.2.1) (hn:(xs.map (·.1)).Nodup) (hz:xs.length < sizeLine)
  (hthere:∀(j:Nat) (p:Addr×Value),xs[j]?=some (k,p)->Q p.2 { s with toks:=s.toks+knd.draws k })
  (hnew:(∀(j:Nat) (p:Addr×Value),xs[j]?≠some (k,p))->∀h' o' es',h'.get? d=some o'->o'.ExactDict->o'.data=.dict es' (ep+1)->es'.toList=(xs++[(k,a,dflt)]).map (entryOfKey knd)->Heap.SameBut d s.heap h'->Q dflt { s with heap:=h',toks:=s.toks+knd.draws k }) :
  wpAny (model prog w) A (dictSetDefault d (.ref a) dflt) Q E s:=by
 unfold dictSetDefault
 try with_reducible refine QbL ?_
 have hsz:=size_of_entries he;refine QbX (knd.pyHash hu hkey (QbX (wpAny_dictFind_heap (s:={ s with toks:=s.toks+knd.draws k }) hu hkey ho hd he his hn (λhno=>?_) λj p hj=>?_)))
 ·refine QbX (wpAny_rule ?_);have hle:(es.push ⟨knd.hash k,.ref a,dflt⟩).toList=(xs++[(k,a,dflt)]).map (entryOfKey knd):=by
   rw[Array.toList_push,he,Qbo];rfl
  refine QbX (wpAny_updateDictKeys (hz:=by omega) (hf:=by rw[Array.size_push];omega) (s:={ s with toks:=s.toks+knd.draws k }) ho hd ?_);exact QbY (hnew hno _ _ _ (Qar _ ho (Obj.isFreed_of_dict (Obj.data_mapDictKeys hd _))) (hc.mapDictKeys _) (Obj.data_mapDictKeys hd _) hle (Heap.SameBut.update ..))
 ·refine QbX (wpAny_dictEntries (s:={ s with toks:=s.toks+knd.draws k }) ho hd ?_);rw[entry_at he j,hj];exact QbX (wpAny_rule (QbY (hthere j p hj)))
def Ut (td ty tx:TE):TE:=fun Z H Q=>td Z H λx H1=>∃a,x=.ref a/\IsD H1 a/\ty Z H1 λy H2=>tx Z H2 λz H3=>∃kvs k b,H3 a=some (.dT kvs)/\y=.ref b/\H3 b=some (.tup (k.map kV))/\kvs.length < sizeLine /\
 (∀(j:Nat) (v:V),kvs[j]?=some (k,v)->Q v H3)/\((∀(j:Nat) (v:V),kvs[j]?≠some (k,v))->Q z (upd H3 a (.dT (kvs++[(k,z)]))))
theorem Ca {α β : Type} {F:α->β->Prop}:∀{l l':List α} {m m':List β},Paired F l m->Paired F l' m'->Paired F (l++l') (m++m')
 | _,_,_,_,.nil,h=>h
 | _,_,_,_,.cons a t,h=>.cons a (Ca t h)
theorem VF {X:Cx} {jb:YC} {Z : St} {H:Hp} {s:Shared} {A:Around} {E:YA} {a b:Addr} {kvs:YL} {k:List Key} {z:V} {r:Value} {Q:YA} (hu:A.units+1 < cLine) (I:Inv X jb Z H s) (e:H a=some (.dT kvs)) (eb:H b=some (.tup (k.map kV))) (rz:RelV z r) (hl:kvs.length < sizeLine)
  (h1:∀(j:Nat) (v:V),kvs[j]?=some (k,v)->∀w' s',Inv X jb Z H s'->RelV v w'->Q w' s') (h2:(∀(j:Nat) (v:V),kvs[j]?≠some (k,v))->∀s',Inv X jb Z (upd H a (.dT (kvs++[(k,z)]))) s'->Q r s'):wpAny (model X.prog X.w) A (call (.builtin "dict.setdefault") [.ref a,.ref b,r]) Q E s:=by
 obtain⟨zz,lo,xs,rel,ob,es,ep,h4,h5,h6,h7,h8⟩:=(show Bd X.prog X.w H s.heap a (.dT kvs) from I.hok a _ e)
 have T:s.TypeIs (.ref a) "dict":=⟨ob,h4,h5.1⟩;refine Qbh F.slot_dict_setdefault T F.entry_dict_setdefault ?_ (F.args_dict_setdefault_3 _ _ _);unfold Builtin.«dict.setdefault»;refine QbX ?_;unfold Builtin.Dict.keyAndDefault;refine QbX (wpAny_notOrdered_dict T ?_);show wpAny _ _ (pure (a,Value.ref b,some r)) _ _ s;refine QbY ?_;dsimp only;rw[if_neg (by rw[lo];exact QaE)];have hlen:xs.length=kvs.length:=(QbG rel).symm;have hkey:=Pq I.hok eb;refine QbX (Qy (knd:=tupleKind (Cv X.prog X.w)) (tupleKind_room_in1 hu) hkey h4 h5 h6 h7 ?_ h8 (by omega) (λj p hj=>?_) λhno h' o' es' g1 g2 g3 g4 sb=>?_)
 ·intro x hx;obtain⟨i,hi⟩:=Qax hx;obtain⟨pv,_,e1,hb,_⟩:=Mz rel hi;rw[<-e1];exact Pq I.hok hb
 ·obtain⟨pv,hp,e1,_,rv⟩:=Mz rel hj;have hp:kvs[j]?=some (k,pv.2):=by
   rw[hp];have:pv.1=k:=e1;rw[<-this]
  exact QbY ⟨_,rq,h1 j pv.2 hp _ _ (I.tok _) rv⟩
 ·have nd:((xs++[(k,b,r)]).map (·.1)).Nodup:=by
   rw[Qbo];refine List.nodup_append.mpr ⟨h8,(by simp),λx hx y hy=>?_⟩;rw[QaF.mp hy];obtain⟨p,hp,rfl⟩:=QbQ.mp hx;obtain⟨i,hi⟩:=Qax hp;intro z;refine hno i p.2 ?_;rw[hi];have:p.1=k:=z;rw[<-this]
  refine QbY ⟨_,rq,h2 (λj v hj=>?_) _ ?_⟩
  ·obtain⟨q,hq,e1,_⟩:=Z4 rel hj;have e1:k=q.1:=e1;exact hno j q.2 (by rw[hq,e1])
  ·have keep:∀(o:HO) (c:Addr) (ys:YG),H c=some (.tup ys)->(upd H a o) c=some (.tup ys):=λo c ys ec=>by rw[Aj (gq ec e (λz=>nomatch z))];exact ec
   refine aR I (by rw[e];exact True.intro) sb ⟨o',g1⟩ ⟨by rw[QaI];exact hl,lo,xs++[(k,b,r)],?_,o',es',_,g1,g2,g3,g4,nd⟩;refine Ca (Paired.Ia rel λx y hxy=>⟨hxy.1,keep _ _ _ hxy.2.1,hxy.2.2⟩) (.cons ⟨rq,keep _ _ _ eb,rz⟩ .nil)
section
variable {X:Cx} {o e f:Expr} {apos cpos:Pos} {td ty tx:TE}
theorem QF (hu:X.A.units+1 < cLine) (ho:PE X o td) (he:PE X e ty) (hf:PE X f tx) (m:M2 X o "setdefault" apos e f cpos):PE X (.Call (.Attribute o "setdefault" apos) [e,f] [] cpos) (Ut td ty tx):=by
 intro jb s Z H Q I h;refine wpAny_Call_method m.base m.few m.line PySem.F.plainAttrs_dict PySem.F.slot_dict_setdefault PySem.F.type_dict_setdefault (thn (ho jb s Z H _ I h) λu s1 zz=>?_);obtain⟨x,H1,I1,rx,a,ex,d,q1⟩:=zz;subst ex;obtain rfl:u=Value.ref a:=rx;obtain⟨t1,t2,_⟩:=Vo I1 d;refine⟨t1,t2,?_⟩;rw[m.trees];refine Calls.callWith_builtin rfl (Calls.evalArgs_plain (QaQ (thn (he jb s1 Z H1 _ I1 q1) λiv s2 ⟨y,H2,I2,ry,q2⟩=>
  QaQ (thn (hf jb s2 Z H2 _ I2 q2) λfv s3 ⟨z,H3,I3,rz,kvs,k,b,ea,ey,eb,hl,q3,q4⟩=>Calls.spliced_nil ?_))))
 subst ey;obtain rfl:iv=Value.ref b:=ry;exact VF hu I3 ea eb rz hl (λj v hj w' s4 I4 rw'=>⟨v,_,I4,rw',q3 j v hj⟩) λhno s4 I4=>⟨z,_,I4,rz,q4 hno⟩
end
section
variable {prog:Program} {w:World} {A:Around} {E:YA} {s:Shared}
theorem Sd {d:Addr} {ep:Nat} {es:YK} (lo:(d == sysModules)=false) :
  MeetsIn prog w (Builtin.«dict.values» ⟨[.ref d],[]⟩) (λ_ R s=>Mx s.heap d es ep/\R (.ok (.ret (.ref s.heap.objs.size))) { s with heap:=s.heap.push { cls:=.type "dict_values",data:=.fields #[.ref d] } }):=
 .of_wp λA R s ⟨hm,h⟩=>by
  obtain⟨od,hod,xd,dd⟩:=hm;have T:s.TypeIs (.ref d) "dict":=⟨od,hod,xd.1⟩;obtain⟨YS,T3,T4,Qa⟩:=od;obtain⟨x1,x2⟩:=xd;dsimp only at dd x1;subst dd x1;unfold Builtin.«dict.values»
  wp_walk
  exact⟨_,rq,h⟩
theorem Lf {v d:Addr} {es:YK} {ep:Nat} {Q:YA} (hv:s.heap.IsValuesView v d) (R:Mx s.heap d es ep)
  (hQ:Q (.ref s.heap.objs.size) { s with heap:=s.heap.push { cls:=.type "dict_valueiterator",data:=.fields #[.ref d,.int 0 0,.int es.size 0,.int ep 0] } }):wpAny (model prog w) A (pyIter (.ref v)) Q E s:=by
 have T:=hv.typeIs;rcases hv with⟨⟨oN,oH,oJ,oE⟩,hov,hcv,hdv⟩;rcases R with⟨⟨YS,T3,T4,Qa⟩,hod,xd,dd⟩;dsimp only at hcv hdv dd;subst hcv hdv dd;refine wpAny_pyIter_slot T F.slot_dict_values_iter (Qbh F.slot_dict_values_iter T F.entry_dict_values_iter ?_ (F.args_dict_values_iter_1 _));unfold Builtin.«dict_values.__iter__»
 wp_walk
 have jF:Builtin.Dict_items.ownsTuple "dict_valueiterator"=false:=by decide
 refine⟨_,rq,"dict_valueiterator",_,⟨_,QaA _ rfl,rq⟩,Qaa.lookup,?_⟩;simpa [rawInt,jF] using hQ
theorem UG {it d:Addr} {i ep:Nat} {es:YK} {en:DictEntry} {Q:Option Value->Shared->Prop} (K:s.heap.IsValIter it d i es.size ep) (R:Mx s.heap d es ep) (hx:es[i]?=some en)
  (q:∀h',h'.IsValIter it d (i+1) es.size ep->Heap.SameBut it s.heap h'->Q (some en.val) { s with heap:=h' }):wpAny (model prog w) A (pyNext (.ref it)) Q E s:=by
 have T:=K.typeIs;obtain⟨oi,hoi,ci,di⟩:=K;obtain⟨od,hod,xd,dd⟩:=R;have hlt:i < es.size:=(Qad.mp hx).1;obtain⟨lM,gD,gF,cZ⟩:=oi;obtain⟨YS,T3,T4,Qa⟩:=od;dsimp only at ci di dd;subst ci di dd;obtain⟨hp,g,dr,tk,os⟩:=s;unfold pyNext;refine QbX (wpAny_attempt (wpAny_callSpecial?_slot (name:=Str.ofString "__next__") T Qaa (Qbh Qaa T F.entry_dict_valueiterator_next ?_ (F.args_dict_valueiterator_next_1 _))));have e1:typeName (.type "dict_valueiterator")=pure "dict_valueiterator":=by unfold typeName;rw[find?_eq_fast];kernel_rfl
 have e2:=mroOf_valiter
 wp_walk
 have hidx:(if (i:Int) < 0 then none else es[((i:Int)).toNat]?)=some en:=by rw[if_neg (by omega),QaU];exact hx
 simp only[hidx]
 wp_walk
 refine⟨_,rq,QbY (q _ ⟨_,Qar _ hoi ?_,rq,?_⟩ (Heap.SameBut.update ..))⟩
 all_goals first | rfl | trace_state
theorem Wo {it d:Addr} {i ep:Nat} {es:YK} {Q:Option Value->Shared->Prop} (hh:A.handled=none) (K:s.heap.IsValIter it d i es.size ep) (R:Mx s.heap d es ep) (hx:es[i]?=none)
  (q:∀h',Heap.ExtBut it s.heap h'->Q none { s with heap:=h' }):wpAny (model prog w) A (pyNext (.ref it)) Q E s:=by
 have T:=K.typeIs;obtain⟨oi,hoi,ci,di⟩:=K;obtain⟨od,hod,xd,dd⟩:=R;obtain⟨lM,gD,gF,cZ⟩:=oi;obtain⟨YS,T3,T4,Qa⟩:=od;dsimp only at ci di dd;subst ci di dd;obtain⟨hp,g,dr,tk,os⟩:=s;unfold pyNext;refine QbX (wpAny_attempt (wpAny_callSpecial?_slot (name:=Str.ofString "__next__") T Qaa (Qbh Qaa T F.entry_dict_valueiterator_next ?_ (F.args_dict_valueiterator_next_1 _))));have e1:typeName (.type "dict_valueiterator")=pure "dict_valueiterator":=by unfold typeName;rw[find?_eq_fast];kernel_rfl
 have e2:=mroOf_valiter;have hh1:A.in1.handled=none:=hh
 wp_walk
 have hidx:(if (i:Int) < 0 then none else es[((i:Int)).toNat]?)=none:=by rw[if_neg (by omega),QaU];exact hx
 simp only[hidx]
 wp_walk
 unfold raiseNew
 wp_walk
 refine wpAny_of_eq isSubtype_stop ?_
 wp_walk
 exact q _ (((Heap.SameBut.update ..).extBut.push _).push _)
end
theorem Wn {prog:Program} {w:World} {r d:Addr} {es:YK} {ep:Nat}:PySem.W.KdlSrc prog w "dict_values" r d es.size (λi v=>∃en,es[i]?=some en/\v=en.val) (λh=>h.IsValuesView r d/\Mx h d es ep) where
 type:=λ_ hm=>hm.1.typeIs
 there:=λ_ hm=>⟨let ⟨_,ho,_⟩:=hm.1;QbO ho,let ⟨_,ho,_⟩:=hm.2;QbO ho⟩
 keep:=λ_ _ hm hk=>⟨let ⟨o,ho,x⟩:=hm.1;⟨o,hk r (.inl rfl) o ho,x⟩,let ⟨o,ho,x⟩:=hm.2;⟨o,hk d (.inr rfl) o ho,x⟩⟩
 notList:=by decide
 notTuple:=by decide
 hint:=λ_ _ _ _ hm hq=>PySem.W.kdl_hint_values hm.1.typeIs hq
 iter:=λA s hh hm=>⟨_,λi h=>h.IsValIter s.heap.objs.size d i es.size ep/\Mx h d es ep,(λ_ _ hq=>Lf hm.1 hm.2 hq),{
   sub:=λb hb=>by simp at hb;simp[hb]
   frame:=λ_ _ _ st hk=>⟨let ⟨o,ho,x⟩:=st.1;⟨o,hk s.heap.objs.size (by simp) o ho,x⟩,let ⟨o,ho,r⟩:=st.2;⟨o,hk d (by simp) o ho,r⟩⟩
   item:=λi s' Q E hi st hQ=>by
    have hne:d≠s.heap.objs.size:=let ⟨o,ho,_⟩:=hm.2;QbP (QbO ho);have hx:es[i]?=some es[i]:=by simp[hi]
    refine UG st.1 st.2 hx λh' hit' hs'=>?_;obtain⟨o,ho,r⟩:=st.2;exact hQ es[i].val h' s'.toks ⟨es[i],hx,rq⟩ ⟨hit',o,hs'.extBut d o hne ho,r⟩ λb o hb e=>hs'.extBut b o (λh=>hb (by simp[h])) e
   done:=λs' Q E st hQ=>Wo hh st.1 st.2 (by simp) λh' he'=>hQ h' s'.toks λb o hb e=>he' b o (λh=>hb (by simp[h])) e
   self:=λ_ _ _ _ st hQ=>wpAny_pyIter_valiter st.1 hQ },⟨⟨_,QaA _ rfl,rq,rq⟩,let ⟨o,ho,r⟩:=hm.2;⟨o,Qak _ ho,r⟩⟩⟩
open PySem.W (KasT kas_asc kas_desc kas_rev kas_tail3 kas_descPart kas_count kas_place kas_bin kas_sort)
section
variable {prog:Program} {w:World} {A:Around} {E:YA} {s:Shared}
theorem QL {D:Addr} {vs:YE} {c0:Nat} {Q:YA} (oD:s.heap.get? D=some (seqObj "list" vs.toArray c0)) (h1:vs.length < 2)
  (h:∀h' c,h'.get? D=some (seqObj "list" vs.toArray c)->(∀b o,b≠D->s.heap.get? b=some o->h'.get? b=some o)->Q .none { s with heap:=h' }):wpAny (model prog w) A (call (.builtin "list.sort") [.ref D]) Q E s:=by
 have h2:vs.toArray.size < 2:=by rw[QaT];exact h1
 have hz:vs.length<=sizeLine:=QbS (Am (by omega));refine Qbh slot_list_sort ⟨_,oD,rq⟩ entry_list_sort ?_ (args_list_sort _);rw[list_sort_plain];refine QbX (listItems_at (a:=D) oD rfl ?_);refine QbX (listUpdate_at (a:=D) oD rfl ?_ (by rw[QaT];exact hz) (QbW _));obtain⟨e1,o1⟩ : ∃e1,(s.heap.update D (Obj.mapSeq λ_=>(#[]:Array Value))).get? D=some (seqObj "list" #[] e1):=⟨_,get?_update_seq oD λ_=>#[]⟩;have k3:∀b o,b≠D->s.heap.get? b=some o->(s.heap.update D (Obj.mapSeq λ_=>(#[]:Array Value))).get? b=some o:=λb o nb q=>by rw[Qal _ _ (Ne.symm nb)];exact q
 have zip2:(arrOf (SortSt.mk' general' (vs.toArray.zip vs.toArray) #[] 7 none)).map (·.2)=vs.toArray:=by
  show (vs.toArray.zip vs.toArray).map (·.2)=vs.toArray;apply Array.toList_inj.mp;simp[Array.toList_zip,List.map_snd_zip]
 dsimp only;generalize s.heap.update D (Obj.mapSeq λ_=>(#[]:Array Value))=g3 at o1 k3 ⊢;refine QbX (seqEpoch_at (a:=D) o1 rfl ?_);refine QbX (wpAny_newTuple ?_ (by simpa using hz));refine QbX (wpAny_newList (items:=[]) ?_ (QbW _));refine QbL ?_;have o5:∀x y:Obj,((g3.push x).push y).get? D=some (seqObj "list" #[] e1):=λx y=>Qak _ (Qak _ o1);have k5:∀x y:Obj,∀b o,b≠D->s.heap.get? b=some o->((g3.push x).push y).get? b=some o:=λx y b o nb q=>Qak _ (Qak _ (k3 b o nb q));dsimp only;rw[if_pos h2,if_pos h2];refine QbX (QbY ?_);rw[StateT.run_pure];refine QbX (QbY ?_);dsimp only;refine QbX (seqEpoch_at (a:=D) (o5 _ _) rfl ?_);rw[zip2];refine QbX (listUpdate_at (a:=D) (o5 _ _) rfl ?_ (QbW _) (by first | (rw[QaT];exact hz) | (rw[QaT];omega)))
 simp only[bne_self_eq_false,QaO,if_false];obtain⟨c,oF⟩ : ∃c,(((g3.push { cls:=.type "tuple",data:=.seq vs.toArray }).push { cls:=.type "list",data:=.seq #[] }).update D (Obj.mapSeq λ_=>vs.toArray)).get? D=some (seqObj "list" vs.toArray c):=⟨_,get?_update_seq (o5 _ _) λ_=>vs.toArray⟩;refine QbY ⟨_,rq,h _ c oF λb o nb q=>?_⟩;rw[Qal _ _ (Ne.symm nb)];exact k5 _ _ b o nb q
end
theorem K7 {H:Hp}:∀{kvs:YL} {us:YE},us.length=kvs.length->(∀(j:Nat) (u:Value),us[j]?=some u->∃kv:List Key×V,kvs[j]?=some kv/\RelV kv.2 u)->Vals (kvs.map (·.2)) us
 | [],[],_,_=>.nil
 | [],_::_,h,_=>by simp at h
 | _::_,[],h,_=>by simp at h
 | kv::r,u::us,h,g=>by
  obtain⟨kv',e,q⟩:=g 0 u rfl;cases e;exact .cons q (K7 (H:=H) (kvs:=r) (us:=us) (by simpa using h) λj u hu=>by
   obtain⟨kv',e,q⟩:=g (j+1) u (by simpa using hu);exact⟨kv',by simpa using e,q⟩)
def bC (K:YD) (td:TE):TE:=fun Z H Q=>td Z H λx H1=>∃(a:Addr) (kvs:YL) (ks:List Int),x=.ref a/\H1 a=some (.dT kvs)/\kvs.length < 64/\Paired (Iu K H1) (kvs.map (·.2)) ks/\ks.Nodup /\
 ∀(is:List Nat) l,is.Perm (List.range kvs.length)->(is.map λi=>ks.getD i 0).Pairwise (· < ·)->H1 l=none->Q (.ref l) (upd H1 l (.lst (is.map λi=>(kvs.map (·.2)).getD i .non)))
theorem QD {X:Cx} {d:Expr} {td:TE} {q apos cpos pos2:Pos} (hc:X.calm=true) (hg:Gl X "sorted") (hm:X.mg "sorted"=none) (hd:PE X d td) (hbase:attributeBase d "values" X.env (eval d X.env)=eval d X.env:=by rfl) (hline:(apos.endLine == cpos.line)=true:=by rfl)
  (hs0:starEach [.Call (.Attribute d "values" apos) [] [] cpos] X.env=[(false,eval (.Call (.Attribute d "values" apos) [] [] cpos) X.env)]:=by rfl) :
  PE X (.Call (.Name "sorted" q) [.Call (.Attribute d "values" apos) [] [] cpos] [] pos2) (bC X.K td):=by
 intro jb s Z H Q I h;have inner:wpAny (model X.prog X.w) X.A (eval (.Call (.Attribute d "values" apos) [] [] cpos) X.env) (λv s1=>∃(s0:Shared) (H1:Hp) (a:Addr) (kvs:YL) (ks:List Int),v=.ref s0.heap.objs.size/\s1={ s0 with heap:=s0.heap.push { cls:=.type "dict_values",data:=.fields #[.ref a] } }/\Inv X jb Z H1 s0/\H1 a=some (.dT kvs)/\kvs.length < 64/\Paired (Iu X.K H1) (kvs.map (·.2)) ks/\ks.Nodup /\
   ∀(is:List Nat) l,is.Perm (List.range kvs.length)->(is.map λi=>ks.getD i 0).Pairwise (· < ·)->H1 l=none->Q (.ref l) (upd H1 l (.lst (is.map λi=>(kvs.map (·.2)).getD i .non)))) X.xe s:=by
  refine wpAny_Call_method0_late hbase hline (thn (hd jb s Z H _ I h) λv s1 zz=>?_);obtain⟨x,H1,I1,r1,a,kvs,ks,ex,e,h64,hK,hnd,q⟩:=zz;subst ex;cases r1;obtain⟨t1,t2,hsm⟩:=Vo I1 (.inr ⟨kvs,.inl e⟩);obtain⟨_,_,xs,h3,ob,es,ep,h4,h5,h6,h7,_⟩:=(show Bd X.prog X.w H1 s1.heap a (.dT kvs) from I1.hok a _ e)
  refine⟨"dict","dict.values",F.plainAttrs_dict,F.slot_dict_values,F.type_dict_values,t1,t2,Calls.callWith_builtin rfl (PySem.evalArgs_none ?_)⟩;exact call_meetsIn F.slot_dict_values t1 F.entry_dict_values (F.args_dict_values_1 _) (Sd (es:=es) (ep:=ep) hsm) ⟨⟨ob,h4,h5,h6⟩,s1,H1,a,kvs,ks,rq,rq,I1,e,h64,hK,hnd,q⟩
 refine QaM (Ez I hg hm (u:=.builtin "sorted") (by trivial) ?_);refine PyProof.Rows.callWith_builtin1 (Q:=EP X jb Z Q) ?_ hs0 rfl;rw[hs0];show wpAny _ _ (spliced ((false,eval (.Call (.Attribute d "values" apos) [] [] cpos) X.env)::backTo pos2 [])) _ _ s;refine QaQ (thn inner λv s1 zz=>?_);obtain⟨s0,H1,a,kvs,ks,e,e1,I1,ea,h64,hK,hnd,q⟩:=zz;subst e e1;refine Calls.spliced_nil ?_;obtain⟨_,_,xs,h3,ob,es,ep,h4,h5,h6,h7,_⟩:=(show Bd X.prog X.w H1 s0.heap a (.dT kvs) from I1.hok a _ ea)
 obtain⟨hes,rel⟩:=cR h3 h7;obtain⟨m,hn,_⟩:=id I1.loc;have gA:∀b o,s0.heap.get? b=some o->(s0.heap.push { cls:=.type "dict_values",data:=.fields #[.ref a] }).get? b=some o:=λb o e=>Qak _ e;refine PySem.W.kdu_sorted (s:={ s0 with heap:=s0.heap.push { cls:=.type "dict_values",data:=.fields #[.ref a] } }) (Wn (es:=es) (ep:=ep)) (I1.ok.hd hc) ((Att.PL hn).push _) (News.push (Att.PL hn) (O6 (g:=Att.Jz s0.heap) (h:=s0.heap) (L:=X.env.locals)) _ rfl)
  ⟨⟨_,QaA _ rfl,rq,rq⟩,ob,gA _ _ h4,h5,h6⟩ (by rw[hes];exact QbS (Am (by omega))) λD h' tk us F' N' hD hl hP=>?_
 have rv:Vals (kvs.map (·.2)) us:=K7 (H:=H1) (by rw[hl,hes]) λj u hu=>by
  obtain⟨en,hen,e2⟩:=hP j u hu;have hj:j < kvs.length:=by
   have:=(Qad.mp hen).1;omega
  obtain⟨b,en',h8,_,_,h9⟩:=rel j kvs[j] (Qai hj);rw[hen] at h8;cases h8;exact⟨kvs[j],Qai hj,by rw[e2];exact h9⟩
 have hkl:(kvs.map (·.2)).length=ks.length:=QbG hK;have hlen:(kvs.map (·.2)).length=us.length:=rv.length;have hml:(kvs.map (·.2)).length=kvs.length:=Qbl _;have kp:∀b o,b≠X.env.locals->s0.heap.get? b=some o->h'.get? b=some o:=λb o hb e=>(N' (b,o) (Qau _ (Qau _ (Eb hb (Att.DP _ _) e)))).1;have nD:∀b o,s0.heap.get? b=some o->b≠D:=λb o e z=>by
  have h1:=hD _ (QaJ ..);have h2:=QbO e;rw[z] at h2;exact QbH _ (Nat.lt_trans h1 h2)
 by_cases h2:2<=us.length
 ·refine PySem.W.kat_lsort F' N' (.head λq hq=>QbP (hD q hq)) (vs:=us) (by simp) h2 (by omega) λe1 h'' F'' N''=>?_;have kp':∀b o,b≠X.env.locals->s0.heap.get? b=some o->h''.get? b=some o:=λb o hb e=>(N'' (b,o) (Qau _ (Qau _ (Eb hb (Att.DP _ _) e)))).1;refine RT I1 (λb o hb e=>kp' b o (Zo I1 b hb) e) rv hK hnd h2 λpp hp Jd=>?_;refine PySem.W.KasFin.intro F'' N'' (.head λq hq=>QbP (hD q hq)) λh2' c F2 N2=>?_;have kp2:∀b o,b≠X.env.locals->s0.heap.get? b=some o->h2'.get? b=some o:=λb o hb e=>(N2 (b,o) (Qau _ (Qau _ (Eb hb (Att.DP _ _) e)))).1;obtain⟨oD,DL,_⟩:=N2 (D,_) (QaJ ..);have hmem:∀i∈pp.toList,i < (kvs.map (·.2)).length:=λi hi=>by rw[hlen];exact QbE.mp (hp.mem_iff.mp hi)
  have rv2:Vals (pp.toList.map λi=>(kvs.map (·.2)).getD i .non) (pp.toList.map λi=>us.getD i Value.none):=Hy V.non Value.none rv hmem;have hpl:pp.toList.length=kvs.length:=by rw[hp.length_eq,QaY,<-hlen,hml]
  obtain⟨hDn,I2⟩:=IW (tk:=tk) I1 hn F2.ns kp2 nD oD rv2 (by rw[Qbl,hpl];exact h64);exact⟨.ref D,_,I2,rq,q _ D (by rw[<-hml,hlen];exact hp) Jd hDn⟩
 ·refine QL (c0:=0) (N' (D,_) (QaJ ..)).1 (by omega) λh'' c oD kk=>?_;have kp2:∀b o,b≠X.env.locals->s0.heap.get? b=some o->h''.get? b=some o:=λb o hb e=>kk b o (nD b o e) (kp b o hb e);have hn2:h''.Ns X.env.locals m:=by
   obtain⟨o,es',ep',g1,g2⟩:=F'.ns;exact⟨o,es',ep',kk _ _ (N' (D,_) (QaJ ..)).2.1.symm g1,g2⟩
  obtain⟨hDn,I2⟩:=IW (tk:=tk) I1 hn hn2 kp2 nD oD rv (by omega);refine⟨.ref D,_,I2,rq,?_⟩;have z:=q (List.range kvs.length) D (List.Perm.refl _) (Le (by omega) (by omega)) hDn;rw[<-hml,range_getD] at z;exact z
end L2
namespace L2
open PySem PySem.Spec PyProof.Rows
section
variable {prog:Program} {w:World} {A:Around} {s:Shared} {R:Result->Shared->Prop}
def bestOf:Option (Int×Tok)->Array Value
 | none=>#[]
 | some b=>#[.int b.1 b.2,.int b.1 b.2]
def Qt (xs:Array (Int×Tok)) (j:Nat):Option (Int×Tok)->Prop
 | none=>j=0
 | some b=>(∃i,i < j/\xs[i]?=some b)/\∀i c,i < j->xs[i]?=some c->c.1<=b.1
theorem aH {I:Addr} {xs:Array (Int×Tok)} {G:Array GenState->Array GenState->Prop} {wr fp:List Addr} {St:Nat->Shared->Prop} (W:WalksS prog w A.in1 I fp wr G xs.size (λi v=>(intItems xs)[i]?=some v) St) (S:Addr) (hS0:S∉fp) (d:Value)
  (fin:∀b s',Qt xs xs.size b->Moved (S::wr) G s s'->R (.ok (.ret ((b.map λb=>Value.int b.1 b.2).getD d))) s') :
  ∀(k j:Nat) (b:Option (Int×Tok)) (s1:Shared) (c:Nat),j+k=xs.size->St j s1->Qt xs j b->Moved (S::wr) G s s1->s1.heap.get? S=some (seqObj "list" (bestOf b) c)->codeAny (model prog w) A (.builtin "max.loop" ⟨[.ref I,.none,.ref S],[(Str.ofString "default",d)]⟩) R s1:=by
 have out:S∉wr:=λz=>hS0 (W.sub _ z);have more:∀b∈wr,b∈S::wr:=λb z=>.tail _ z;have far:∀{b:Addr},b∉S::wr->S≠b:=λz e=>z (by rw[e];exact .head _);have fr0:∀{b:Addr},b∈fp->S≠b:=λz e=>hS0 (by rw[e];exact z);have nm:(toString "max"++toString ".loop":String)="max.loop":=by decide
 intro k
 induction k with
 | zero=>
  intro j b s1 c hj hst hb hm0 hS;have ej:j=xs.size:=by omega
  subst ej;refine Qbz PySem.F.entry_max_loop ?_;rw[Qaz Qan _];show wpAny _ A.in1 (seqItems? (.ref S) >>= _) _ _ s1;refine QbX (wpAny_seqItems hS rfl ?_);show wpAny _ A.in1 (tryCatch (pyNext (.ref I)) _ >>= _) _ _ s1;refine QbX (wpAny_tryCatch (W.done s1 _ _ hst λs2 m2=>?_));have hS2:=m2.heap S _ out hS;cases b with
  | none=>
   refine QbX (wpAny_rule (QbY ?_));exact fin none s2 hb (Moved.trans W.gtrans hm0 (m2.mono more))
  | some b=>
   show wpAny _ A.in1 (updateSeq S (λ_=>#[]) >>= _) _ _ _;refine QbX (wpAny_updateSeq (hz:=by show 2<=sizeLine;decide) hS2 rfl (QbX (wpAny_letGo (QbY ?_))));exact fin (some b) _ hb (Moved.trans W.gtrans hm0 ((m2.mono more).then_heap (tk:=s2.toks) (QbV _) λa o hb e=>(Qal _ _ (far hb)).trans e))
 | succ k ih=>
  intro j b s1 c hj hst hb hm0 hS;have lt:j < xs.size:=by omega
  refine Qbz PySem.F.entry_max_loop ?_;rw[Qaz Qan _];show wpAny _ A.in1 (seqItems? (.ref S) >>= _) _ _ s1;refine QbX (wpAny_seqItems hS rfl ?_);show wpAny _ A.in1 (tryCatch (pyNext (.ref I)) _ >>= _) _ _ s1;refine QbX (wpAny_tryCatch (W.item j s1 _ _ lt hst λv s2 hv hst2 m2=>?_));have hS2:=m2.heap S _ out hS;have hx:xs[j]?=some xs[j]:=by simp[lt]
  have ev:v=.int xs[j].1 xs[j].2:=by
   simp only[intItems,Array.getElem?_map,hx,Option.map_some,Option.some.injEq] at hv;exact hv.symm
  subst ev;have m12:=Moved.trans W.gtrans hm0 (m2.mono more);have m13:∀f,Moved (S::wr) G s { s2 with heap:=s2.heap.update S f }:=λf=>Moved.trans W.gtrans hm0 ((m2.mono more).then_heap (tk:=s2.toks) (QbV _) λa o hb e=>(Qal _ _ (far hb)).trans e);have st3:∀f,St (j+1) { s2 with heap:=s2.heap.update S f }:=λf=>W.frame _ s2 _ s2.toks hst2 (QbV _) λa z o e=>(Qal _ _ (fr0 z)).trans e;have oS:∀x:Value,∃c',(s2.heap.update S (Obj.mapSeq λ_=>#[x,x])).get? S=some (seqObj "list" #[x,x] c'):=λx=>⟨_,get?_update_seq hS2 λ_=>#[x,x]⟩;cases b with
  | none=>
   have e0:j=0:=hb;refine QbX (QbY ?_);refine QbX (wpAny_updateSeq hS2 rfl ?_);rw[nm];obtain⟨c',o'⟩:=oS (.int xs[j].1 xs[j].2);refine QbY ⟨QbN Qan _,ih (j+1) (some xs[j]) _ c' (by omega) (st3 _) ⟨⟨j,Qbg _,hx⟩,λi q hi hq=>?_⟩ (m13 _) o'⟩;have:i=j:=by omega
   subst this;rw[hx] at hq;cases hq;exact Int.le_refl _
  | some b=>
   obtain⟨⟨i0,hi0,hx0⟩,Ua⟩:=hb;refine QbX (QbY ?_);show wpAny _ A.in1 (tryCatch (holding [_,_] (richCompare .Gt _ _ >>= _)) _ >>= _) _ _ _;refine QbX (wpAny_tryCatch (QbL (QbX (CmpOf.ints_gt (numAt xs) (λ_ _=>intItems_at) j i0 _ (Value.int b.1 b.2) _ _ _ hv (by simp[intItems,Array.getElem?_map,hx0]) ?_))));refine QbX (QbL (QaW (QbX (wpAny_letGo (QbY ?_)))));have n1:numAt xs j=xs[j].1:=by simp[numAt,hx]
   have n2:numAt xs i0=b.1:=by simp[numAt,hx0]
   show wpAny _ _ (if decide (numAt xs j > numAt xs i0)=true then _ else _) _ _ _
   rw[n1,n2];by_cases hgt:xs[j].1 > b.1
   ·rw[if_pos (QbC hgt)];refine QbX (wpAny_updateSeq (hz:=by show 2<=sizeLine;decide) hS2 rfl (QbX (wpAny_letGo ?_)));rw[nm];obtain⟨c',o'⟩:=oS (.int xs[j].1 xs[j].2);refine QbY ⟨QbN Qan _,ih (j+1) (some xs[j]) _ c' (by omega) (st3 _) ⟨⟨j,Qbg _,hx⟩,λi q hi hq=>?_⟩ (m13 _) o'⟩;by_cases e:i=j
    ·subst e;rw[hx] at hq;cases hq;exact Int.le_refl _
    ·exact Int.le_of_lt (Int.lt_of_le_of_lt (Ua i q (by omega) hq) hgt)
   ·rw[if_neg (by rw[Qbm hgt];exact QaE)];refine QbX (wpAny_letGo ?_);rw[nm];refine QbY ⟨QbN Qan _,ih (j+1) (some b) _ c (by omega) hst2 ⟨⟨i0,Nat.lt_succ_of_lt hi0,hx0⟩,λi q hi hq=>?_⟩ m12 hS2⟩;by_cases e:i=j
    ·subst e;rw[hx] at hq;cases hq;exact Int.not_lt.mp hgt
    ·exact Ua i q (by omega) hq
theorem WW (a v:Value):argsOk "max" ⟨[a],[(Str.ofString "default",v)]⟩:=by unfold argsOk;kernel_rfl
theorem Vh {E:YA} {l:Addr} {xs:Array (Int×Tok)} {d:Value} {Q:YA} (hh:A.handled=none) (hl:s.heap.IsList l (intItems xs))
  (h:∀b h' tk,Qt xs xs.size b->(∀b o,s.heap.get? b=some o->h'.get? b=some o)->Q ((b.map λb=>Value.int b.1 b.2).getD d) { s with heap:=h',toks:=tk }) :
  wpAny (model prog w) A (call (.builtin "max") [.ref l] [(Str.ofString "default",d)]) Q E s:=by
 have nm:(toString "max"++toString ".loop":String)="max.loop":=by decide
 refine PyProof.Rows.kmk_tree PySem.F.kind_max PySem.F.plain_max PySem.F.entry_max (WW _ _) ?_;refine QbX (wpAny_of_eq (show Builtin.Builtins.bindParams "max" ["key","default"] 0 ⟨[],[(Str.ofString "default",d)]⟩=pure [none,some d] from rfl) ?_)
 refine QbX (QbY ?_);refine QbX (iter_intList hl λs2 e st hfp hlI=>?_);refine QbX (wpAny_newObj_type ?_);rw[nm];have hSf:s2.heap.objs.size∉[s.heap.objs.size,l]:=λhm=>QbH _ (hfp _ hm);have hxs:(intItems xs).size=xs.size:=by simp[intItems]
 have W:=(Walks.list (prog:=prog) (w:=w) (A:=A.in1) hh s.heap.objs.size l hlI (intItems xs)).toS;rw[hxs] at W;refine QbY ⟨QbN Qan _,aH (s:={ s2 with heap:=s2.heap.push { cls:=.type "list",data:=.seq #[] } }) W s2.heap.objs.size hSf d (λb s' hb hm=>?_) xs.size 0 none _ 0 (by omega) (W.frame 0 s2 _ s2.toks st (QbV _) λb _ o e=>Qak _ e) rfl ⟨λ_ _ _ e=>e,rq,rq,rq,QbV _⟩ (QaA _ rfl)⟩;rw[Moved.eq_with hm,e];refine h b s'.heap s'.toks hb λa o ea=>hm.heap a o (λhx=>?_) (Qak _ (by rw[e];exact Qak _ ea));have l1:=QbO ea;rcases QbF.mp hx with z | hx
 ·rw[z,e] at l1;exact absurd l1 (by show ¬(s.heap.push _).objs.size < _;rw[QbD];omega)
 ·rw[QaF.mp hx] at l1;exact QbH _ l1
end
def fP (K:YD) (te td:TE):TE:=fun Z H Q=>te Z H λx H1=>td Z H1 λz H2=>∃(p:Addr) (ns:List Int) (d:Int),x=.ref p/\z=.int d/\SqL K H2 p (ns.map V.int)/\(ns=[]->Q (.int d) H2)/\∀M,M∈ns->(∀a,a∈ns->a<=M)->Q (.int M) H2
theorem ZX {X:Cx} {e de:Expr} {te td:TE} {p pos kp:Pos} (hc:X.calm=true) (hg:Gl X "max") (hm:X.mg "max"=none) (he:PE X e te) (hd:PE X de td) (hs:starEach [e] X.env=[(false,eval e X.env)]:=by rfl)
  (hall:(backToKw pos (keywordEach [⟨some "default",de,kp⟩] X.env)).all (·.1.isSome)=true:=by rfl) (hkw:(backToKw pos (keywordEach [⟨some "default",de,kp⟩] X.env)).any (·.1.isNone)=false:=by rfl)
  (hks:(backToKw pos (keywordEach [⟨some "default",de,kp⟩] X.env)).filterMap (·.1)=(["default"]:YF):=by rfl) :
  PE X (.Call (.Name "max" p) [e] [⟨some "default",de,kp⟩] pos) (fP X.K te td):=by
 intro jb s Z H Q I h;refine QaM (Ez I hg hm (u:=.builtin "max") (by trivial) (PyProof.Rows.callWith_kw (thn ((Aa he Ac (by rw[hs];rfl)) pos jb s Z H (λvs H1=>match vs with | [x]=>td Z H1 λz H2=>∃(p:Addr) (ns:List Int) (d:Int),x=.ref p/\z=.int d/\SqL X.K H2 p (ns.map V.int)/\(ns=[]->Q (.int d) H2)/\∀M,M∈ns->(∀a,a∈ns->a<=M)->Q (.int M) H2 | _=>False) I h) λus s1 ⟨vs,H1,I1,r1,q1⟩=>?_) (by rw[hs];rfl) (by rw[hs];rfl) hall hkw))
 cases r1 with
 | nil=>exact False.elim q1
 | cons r rr=>
  cases rr with
  | cons _ _=>exact False.elim q1
  | nil=>
   refine thn ((ZR hd bY) pos jb s1 Z H1 (λks H2=>match ks with | [z]=>∃(p:Addr) (ns:List Int) (d:Int),_=V.ref p/\z=.int d/\SqL X.K H2 p (ns.map V.int)/\(ns=[]->Q (.int d) H2)/\∀M,M∈ns->(∀a,a∈ns->a<=M)->Q (.int M) H2 | _=>False) I1 q1) λws s2 zz=>?_
   obtain⟨zs,H2,I2,rz,q2⟩:=zz;rw[hks];cases rz with
   | nil=>exact False.elim q2
   | cons rz1 rz2=>
    cases rz2 with
    | cons _ _=>exact False.elim q2
    | nil=>
     obtain⟨a,ns,d,ex,ez,hq,q3,q4⟩:=q2;subst ex ez;obtain⟨t,rfl⟩:=rz1;cases r;obtain⟨its,rv,pl,hz⟩:=I2.list hq;have hi:IntsAre its ns:=intsAre_of rv;obtain⟨xs,ei⟩:=hi.allInts.items;have hl:=pl.isList;rw[ei] at hl;have hns:ns=xs.toList.map (·.1):=by rw[<-hi.numsOf,<-nums_intItems,<-ei]
     refine Vh (I2.ok.hd hc) hl λb h' tk hb hk=>?_;cases b with
     | none=>
      refine⟨.int d,H2,I2.kept hk,⟨t,rq⟩,q3 ?_⟩;have:xs.size=0:=hb;rw[hns,Array.eq_empty_of_size_eq_zero this];rfl
     | some b=>
      obtain⟨⟨i,hi',hx⟩,Ua⟩:=hb;refine⟨.int b.1,H2,I2.kept hk,⟨b.2,rq⟩,q4 b.1 ?_ λc hc'=>?_⟩
      ·rw[hns];exact QbQ.mpr ⟨b,Array.mem_toList_iff.mpr (Array.mem_of_getElem? hx),rq⟩
      ·rw[hns] at hc';obtain⟨c',h1,rfl⟩:=QbQ.mp hc';obtain⟨j,hj⟩:=Qax h1;rw[Array.getElem?_toList] at hj;exact Ua j c' (Qad.mp hj).1 hj
def RL (ta:TA):TE:=fun Z H Q=>ta Z H λvs H1=>∃j:Int,vs=[.int j]/\0<=j/\j<=1000/\∀p,H1 p=none->Q (.ref p) (upd H1 p (.lst ((List.range j.toNat).map λk:Nat=>V.int (k:Int))))
theorem Jv {X:Cx} {a:Expr} {ta:TA} {p q pos pos2:Pos} (hc:X.calm=true) (hgt:Gl X "list") (hmt:X.mg "list"=none) (hg:Gl X "range") (hm:X.mg "range"=none) (ha:PA X [a] ta) (hs:starEach [a] X.env=[(false,eval a X.env)]:=by rfl)
  (hs0:starEach [.Call (.Name "range" p) [a] [] pos] X.env=[(false,eval (.Call (.Name "range" p) [a] [] pos) X.env)]:=by rfl):PE X (.Call (.Name "list" q) [.Call (.Name "range" p) [a] [] pos] [] pos2) (RL ta):=by
 intro jb s Z H Q I h;have inner:wpAny (model X.prog X.w) X.A (eval (.Call (.Name "range" p) [a] [] pos) X.env) (λv s1=>∃(H1:Hp) (j:Int) (r:Addr) (t u w:Tok),v=.ref r/\Inv X jb Z H1 s1/\IsRange s1.heap r 0 j 1 t u w/\0<=j/\j<=1000 /\
   ∀p,H1 p=none->Q (.ref p) (upd H1 p (.lst ((List.range j.toNat).map λk:Nat=>V.int (k:Int))))) X.xe s:=by
  refine Call_ (Ez I hg hm boot_range (Qab (thn (ha pos jb s Z H _ I h) λus s1 zz=>?_) hs rfl));obtain⟨vs,H1,I1,r1,q1⟩:=zz;obtain⟨j,e,j0,j1,q⟩:=q1;subst e;cases r1 with
  | cons r rr=>
   cases rr;obtain⟨t,rfl⟩:=r;exact call_range_1 ⟨H1,j,_,_,t,_,rq,I1.kept (t':=s1.toks+1+1) λb o e=>Qak _ e,IsRange.new ..,j0,j1,q⟩
 refine Call_ (Ez I hgt hmt (u:=.type "list") (by trivial) (Qab (Q:=EP X jb Z Q) ?_ hs0 rfl));rw[hs0];show wpAny _ _ (spliced ((false,eval (.Call (.Name "range" p) [a] [] pos) X.env)::backTo pos2 [])) _ _ s;refine QaQ (thn inner λv s1 zz=>?_);obtain⟨H1,j,r,t,u,w,e,I1,hr,j0,j1,q⟩:=zz;subst e;refine Calls.spliced_nil ?_;have hrs:Builtin.Range.rangeSize 0 j 1=((j.toNat:Nat):Int):=by rw[rangeSize_one];split <;> omega
 refine call_list_range (I1.ok.hd hc) hr (small_one (by omega) (by omega) (by omega) (by omega)) hrs (by omega) λh' tk acc c' hk hS hacc=>?_;have rv:=RG hacc;have e0:((List.range j.toNat).map λk:Nat=>V.int ((0:Int)+k))=(List.range j.toNat).map λk:Nat=>V.int (k:Int):=List.map_congr_left λk _=>by rw[Int.zero_add]
 rw[e0] at rv;have I3:Inv X jb Z (upd H1 s1.heap.objs.size (.lst ((List.range j.toNat).map λk:Nat=>V.int (k:Int)))) { s1 with heap:=h',toks:=tk }:=
  I1.laid (t':=tk) hk (QbV _) (show Bd X.prog X.w _ _ _ (.lst _) from⟨by rw[Qbl,QaY];exact QbS (Am (by omega)),acc.toList,c',rv,by simpa using hS⟩)
 exact⟨.ref s1.heap.objs.size,_,I3,rq,q _ (I1.hok.fresh (QbV _))⟩
open AutoSeq1 (wpAny_loadPart')
open MeetsSeq MeetsSeq2 MeetsSeq3
open PySem.W (KasT kas_asc kas_desc kas_rev kas_tail3 kas_descPart kas_count kas_place kas_bin kas_sort)
theorem Nf (l b:Addr) (items items2:Array Value) (n n2:Nat) (dd dd2:Option Addr) (sl sl2:YI) (x y:Int) (t u:Tok) (h1:items[0]?=some (.int x t)) (h2:items2[0]?=some (.int y u)) (ne:x≠y) :
  Meets (Builtin.«list.__lt__» ⟨[.ref l,.ref b],[]⟩)
   (λA R s=>s.heap.get? l=some { cls:=.type "list",dict:=dd,data:=.seq items n,slots:=sl }/\s.heap.get? b=some { cls:=.type "list",dict:=dd2,data:=.seq items2 n2,slots:=sl2 } /\
    R (.ok (.ret (.bool (decide (x < y))))) s):=by
 intro prog w A R s h;obtain⟨hp,g,d,tk,os⟩:=s;obtain⟨hl,hb,h⟩:=h;have f3:=AutoSeq1.sub_list_list
 wp_walk using wpAny_loadPart' hl,wpAny_loadPart' hb
 refine⟨QbN plain_eq_loop _,Qbz entry_eq_loop ?_⟩;rw[Qaz plain_eq_loop _]
 wp_walk using wpAny_loadPart' hl,wpAny_loadPart' hb
 have e1:items[(0:Int).toNat]?=some (.int x t):=h1;have e2:items2[(0:Int).toNat]?=some (.int y u):=h2;rw[e1,e2];refine QbX (Qbd ?_);rw[show (x == y)=false from QaB.mpr ne]
 wp_walk using wpAny_loadPart' hl,wpAny_loadPart' hb
 rw[e1,e2];dsimp only;refine QbX (show wpAny (model prog w) A.in1 (compareOp .Lt (Value.int x t) (Value.int y u)) _ _ _ from lt_int ?_)
 exact QbY h
theorem Pb (l:Addr) (items:Array Value) (n:Nat) (dd:Option Addr) (sl:YI) (hi:∀j (h:j < items.size),∃x t,items[j]=Value.int x t) (k:Nat) :
  ∀i:Nat,items.size - i=k->Meets (Builtin.«list.__eq__.loop» ⟨[.ref l,.ref l,rawInt i,rawInt 0],[]⟩)
   (λA R s=>s.heap.get? l=some { cls:=.type "list",dict:=dd,data:=.seq items n,slots:=sl }/\R (.ok (.ret (.bool false))) s):=by
 induction k with
 | zero=>
  intro i hk prog w A R s h;obtain⟨hp,g,d,tk,os⟩:=s;obtain⟨hl,h⟩:=h
  wp_walk using wpAny_loadPart' hl
  have hi1:items[((i:Nat):Int).toNat]?=none:=by simp;omega
  rw[hi1]
  wp_walk using wpAny_loadPart' hl
  show R (.ok (.ret (.bool (decide (items.size < items.size))))) _;rw[Qbm (QbH _)];exact h
 | succ k ih=>
  intro i hk prog w A R s h;obtain⟨hp,g,d,tk,os⟩:=s;obtain⟨hl,h⟩:=h
  wp_walk using wpAny_loadPart' hl
  have hlt:i < items.size:=by omega
  obtain⟨x,t,e⟩:=hi i hlt;have hi1:items[((i:Nat):Int).toNat]?=some (Value.int x t):=by rw[<-e];simp[hlt]
  have hc:((i:Int)+1)=((i+1:Nat):Int):=by push_cast;rfl
  rw[hi1];refine QbX (Qbd ?_);rw[show (x == x)=true from Qbi x]
  wp_walk
  rw[hc];exact⟨QbN plain_eq_loop _,Qbz entry_eq_loop (by
   rw[Qaz plain_eq_loop _];exact ih (i+1) (by omega) prog w A R _ ⟨hl,h⟩)⟩
theorem Pa (l:Addr) (items:Array Value) (n:Nat) (dd:Option Addr) (sl:YI) (hi:∀j (h:j < items.size),∃x t,items[j]=Value.int x t) :
  Meets (Builtin.«list.__lt__» ⟨[.ref l,.ref l],[]⟩)
   (λA R s=>s.heap.get? l=some { cls:=.type "list",dict:=dd,data:=.seq items n,slots:=sl }/\R (.ok (.ret (.bool false))) s):=by
 intro prog w A R s h;obtain⟨hp,g,d,tk,os⟩:=s;obtain⟨hl,h⟩:=h;have f3:=AutoSeq1.sub_list_list
 wp_walk using wpAny_loadPart' hl
 exact⟨QbN plain_eq_loop _,Qbz entry_eq_loop (by
  rw[Qaz plain_eq_loop _];exact Pb l items n dd sl hi _ 0 rfl prog w A R _ ⟨hl,h⟩)⟩
section
variable {prog:Program} {w:World} {A:Around} {E:YA} {s:Shared} {Q:Bool->Shared->Prop}
theorem JD {l b:Addr} {o1 o2:Obj} {r:Bool} (hu:A.units < cLine) (hl:s.heap.get? l=some o1) (c1:o1.cls=.type "list") (hb:s.heap.get? b=some o2) (c2:o2.cls=.type "list")
  (m:wpAny (model prog w) A (call (.builtin "list.__lt__") [.ref l,.ref b]) (λv s'=>v=.bool r/\s'=s) E s) (h:Q r s):wpAny (model prog w) A (keyLt' oneType' (.ref l) (.ref b)) Q E s:=by
 rw[keyLt'_oneType,oneLt'_eq];simp only[if_true];refine QbX (wpAny_cRoomFor hu ?_);refine QbX (wpAny_callSpecialIfBound?_slot (T:="list") ⟨o1,hl,c1⟩ F.slot_list_lt (QbZ m (λv s' hv=>?_) λ_ _ e=>e));obtain⟨rfl,rfl⟩:=hv;exact QaW h
def Ir (K:YD) (H:Hp) (v:V) (k:Int):Prop:=∃(t:Addr) (ns:List Int),v=.ref t/\SqL K H t ((k::ns).map V.int)
end
theorem Pr {prog:Program} {w:World} {A:Around} {E:YA} {s:Shared} {Q:Bool->Shared->Prop} {l b:Addr} {items items2:Array Value} {n n2:Nat} {dd dd2:Option Addr} {sl sl2:YI} {x y:Int} {t u:Tok} (hu:A.units < cLine) (hl:s.heap.get? l=some { cls:=.type "list",dict:=dd,data:=.seq items n,slots:=sl }) (hb:s.heap.get? b=some { cls:=.type "list",dict:=dd2,data:=.seq items2 n2,slots:=sl2 })
  (h1:items[0]?=some (.int x t)) (h2:items2[0]?=some (.int y u)) (ne:x≠y) (h:Q (decide (x < y)) s):wpAny (model prog w) A (keyLt' oneType' (.ref l) (.ref b)) Q E s:=
 JD hu hl rfl hb rfl (call_meets F.slot_list_lt ⟨_,hl,rq⟩ F.entry_list_lt (F.args_list_lt_2 _ _) (Nf l b items items2 n n2 dd dd2 sl sl2 x y t u h1 h2 ne) ⟨hl,hb,rq,rq⟩) h
theorem QT {prog:Program} {w:World} {A:Around} {E:YA} {s:Shared} {Q:Bool->Shared->Prop} {l:Addr} {items:Array Value} {n:Nat} {dd:Option Addr} {sl:YI} (hu:A.units < cLine) (hl:s.heap.get? l=some { cls:=.type "list",dict:=dd,data:=.seq items n,slots:=sl })
  (hi:∀j (h:j < items.size),∃x t,items[j]=Value.int x t) (h:Q false s):wpAny (model prog w) A (keyLt' oneType' (.ref l) (.ref l)) Q E s:=
 JD hu hl rfl hl rfl (call_meets F.slot_list_lt ⟨_,hl,rq⟩ F.entry_list_lt (F.args_list_lt_2 _ _) (Pa l items n dd sl hi) ⟨hl,rq,rq⟩) h
theorem WY {X:Cx} {jb:YC} {Z : St} {H:Hp} {s:Shared} {h':Heap} (I:Inv X jb Z H s) (k:∀b o,H b≠none\/(∃u,X.base.get? b=some u)->s.heap.get? b=some o->h'.get? b=some o) {v:V} {u:Value} {kk:Int} (r:RelV v u) (h:Ir X.K H v kk) :
  ∃(x:Addr) (its:Array Value) (n:Nat) (dd:Option Addr) (sl:YI) (t:Tok),u=.ref x/\h'.get? x=some { cls:=.type "list",dict:=dd,data:=.seq its n,slots:=sl }/\its[0]?=some (.int kk t)/\∀j (h:j < its.size),∃x t,its[j]=Value.int x t:=by
 obtain⟨a,ns,rfl,hq⟩:=h;cases r;obtain⟨its,rv,⟨o,n,e,cl,sl,d⟩,_⟩:=I.list hq;have e':h'.get? a=some o:=by
  refine k a o ?_ e;rcases hq with (z |⟨_,z⟩) |⟨_,_,_,hk,_⟩
  ·exact .inl (by rw[z];exact λz=>nomatch z)
  ·exact .inl (by rw[z];exact λz=>nomatch z)
  ·exact .inr ⟨_,I.mod.kin _ _ hk⟩
 obtain⟨oc,od,oda,osl⟩:=o;cases cl;cases d;have allI:∀{vs:YG} {us:YE} {ms:List Int},vs=ms.map V.int->Vals vs us->∀j (h:j < us.length),∃x t,us[j]=Value.int x t:=by
  intro vs us ms ev rv
  induction rv generalizing ms with
  | nil=>intro j h;exact absurd h (Nat.not_lt_zero _)
  | cons r _ ih=>
   match ms,ev with
   | m::ms,ev=>
    cases ev;obtain⟨t,e⟩:=r;intro j h
    match j with
    | 0=>exact⟨m,t,e⟩
    | j+1=>exact ih rfl j (Nat.lt_of_succ_lt_succ h)
 have all:=allI rfl rv;cases rv with
 | cons r0 rr=>
  obtain⟨t,e0⟩:=r0;refine⟨a,_,n,_,_,t,rq,e',by rw[e0];rfl,λj h=>?_⟩;obtain⟨x,t,e⟩:=all j (by simpa using h);exact⟨x,t,by simpa using e⟩
theorem RQ {X:Cx} {jb:YC} {Z : St} {H:Hp} {s s1:Shared} {A:Around} {vs:YG} {its:YE} {ks:List Int} {F:Array Nat->Shared->Prop} (hu:A.units < cLine) (I:Inv X jb Z H s) (k:∀b o,H b≠none\/(∃u,X.base.get? b=some u)->s.heap.get? b=some o->s1.heap.get? b=some o)
  (rv:Vals vs its) (hK:Paired (Ir X.K H) vs ks) (hnd:ks.Nodup) (h2:2<=its.length) (q:∀pp:Array Nat,Pm its.length pp->(pp.toList.map λi=>ks.getD i 0).Pairwise (· < ·)->F pp s1) :
  wpAny (model X.prog X.w) A (keyKind' its.toArray) (fun κ s'=>(kas_sort its.length).kasWp (kas_ask X.prog X.w A κ its) F s') (λ_ _=>False) s1:=by
 have hkl:vs.length=ks.length:=QbG hK;have hlen:vs.length=its.length:=rv.length;have Tc:∀i,i < its.length->∃(x:Addr) (ws:Array Value) (n:Nat) (dd:Option Addr) (sl:YI) (t:Tok),its.getD i Value.none=.ref x/\s1.heap.get? x=some { cls:=.type "list",dict:=dd,data:=.seq ws n,slots:=sl }/\ws[0]?=some (.int (ks.getD i 0) t)/\∀j (h:j < ws.size),∃x t,ws[j]=Value.int x t:=λi hi=>by
  have hvi:i < vs.length:=by omega
  obtain⟨u,hu,ru⟩:=rv.get (x:=vs[i]) (i:=i) (by simp[hvi]);have hk4:=Gj V.non (0:Int) hK hvi;have ev:vs.getD i V.non=vs[i]:=by simp[hvi]
  rw[ev] at hk4;have:=WY I k ru hk4;have eu:its.getD i Value.none=u:=by rw[Qac,hu];rfl
  rw[eu];exact this
 refine PySem.W.kas_kind (T:=.type "list") h2 (λv hv=>?_) (by decide) (by decide) ?_
 ·obtain⟨i,hi,rfl⟩:=List.mem_iff_getElem.mp hv;obtain⟨x,ws,n,dd,sl,t,ex,hx,_⟩:=Tc i hi;have:its.getD i Value.none=its[i]:=by simp[hi]
  rw[<-this,ex];exact show PySem.W.Looks _ s1.heap (typeOf (.ref x)) ({ cls:=.type "list",dict:=dd,data:=.seq ws n,slots:=sl }:Obj).cls from (PySem.W.Looks.ld hx).andThen .now
 have inj:Inj its.length (λi=>ks.getD i 0):=λi j hi hj e=>by
  have e:ks.getD i 0=ks.getD j 0:=e;have e1:ks.getD i 0=ks[i]'(by omega):=by simp[show i < ks.length by omega]
  have e2:ks.getD j 0=ks[j]'(by omega):=by simp[show j < ks.length by omega]
  rw[e1,e2] at e;exact O7 hnd _ _ e
 have hp:=Jc (lt:=ltK λi=>ks.getD i 0) _ (Jh (n:=its.length) (by omega));have Jd:=FT.list hp (Oj inj h2);refine Mr (lt:=ltK λi=>ks.getD i 0) (n:=its.length) (λi j C hi hj hC=>?_) _ (Jh (by omega)) (q _ hp Jd);obtain⟨x,wx,nx,dx,sx,tx,ex,hx,fx,ax⟩:=Tc i hi;obtain⟨y,wy,ny,dy,sy,ty,ey,hy,fy,ay⟩:=Tc j hj;unfold kas_ask;rw[ex,ey];by_cases ne:i=j
 ·subst ne;rw[ex] at ey;cases ey;have e0:ltK (λi=>ks.getD i 0) i i=false:=Qbm (QbK _);rw[e0] at hC;exact QT hu hx ax hC
 ·exact Pr hu hx hy fx fy (λz=>ne (inj i j hi hj z)) hC
@[irreducible] def Lg (K:YD):YG->Hp->VK->Prop:=λxs H Q=>∃(p:Addr) (vs:YG) (ks:List Int),xs=[.ref p]/\SqL K H p vs/\vs.length < 64/\Paired (Ir K H) vs ks/\ks.Nodup /\
 ∀(is:List Nat) l,is.Perm (List.range vs.length)->(is.map λi=>ks.getD i 0).Pairwise (· < ·)->H l=none->Q (.ref l) (upd H l (.lst (is.map λi=>vs.getD i .non)))
theorem Wf {K:YD} {p:Addr} {vs:YG} {ks:List Int} {H:Hp} {Q:VK} (h1:SqL K H p vs) (h2:vs.length < 64) (h3:Paired (Ir K H) vs ks) (h4:ks.Nodup)
  (q:∀(is:List Nat) l,is.Perm (List.range vs.length)->(is.map λi=>ks.getD i 0).Pairwise (· < ·)->H l=none->Q (.ref l) (upd H l (.lst (is.map λi=>vs.getD i .non)))):Lg K [.ref p] H Q:=by
 unfold Lg;exact⟨p,vs,ks,rq,h1,h2,h3,h4,q⟩
theorem Qj {X:Cx} (hu:X.A.units+64 < cLine):Cq X (.builtin "sorted") (Lg X.K):=by
 intro jb s Z H xs us Q I r h;unfold Lg at h;obtain⟨p,vs,ks,rfl,hq,h64,hK,hnd,q⟩:=h;have hkl:vs.length=ks.length:=QbG hK;obtain⟨u,rfl,rx⟩:=vals1 r;cases rx;obtain⟨its,rv,pl,hz⟩:=I.list hq;have hlen:vs.length=its.length:=rv.length;by_cases h2:2<=its.length
 ·obtain⟨m,hn,_⟩:=id I.loc;refine PySem.W.kat_sorted (Att.PL hn) (O6 (g:=Att.Jz s.heap) (h:=s.heap) (L:=X.env.locals)) pl.isList h2 (by omega) λD e1 h' F' N' hD=>?_;have kp:∀b o,b≠X.env.locals->s.heap.get? b=some o->h'.get? b=some o:=λb o hb e=>(N' (b,o) (Qau _ (Eb hb (Att.DP _ _) e))).1;refine RQ (by simp only[Around.in1_units];omega) I (λb o hb e=>kp b o (Zo I b hb) e) rv hK hnd h2 λpp hp Jd=>?_;refine PySem.W.KasFin.intro F' N' (.head λq hq=>QbP (hD q hq)) λh2' c F2 N2=>?_;have kp2:∀b o,b≠X.env.locals->s.heap.get? b=some o->h2'.get? b=some o:=λb o hb e=>(N2 (b,o) (Qau _ (Eb hb (Att.DP _ _) e))).1;obtain⟨oD,DL,_⟩:=N2 (D,_) (QaJ ..);have nD:∀b o,s.heap.get? b=some o->b≠D:=λb o e z=>by
   by_cases hb:b=X.env.locals
   ·exact DL (by rw[<-z];exact hb)
   ·have:=hD (b,o) (Eb hb (Att.DP _ _) e);rw[z] at this;exact QbH _ this
  have hmem:∀i∈pp.toList,i < vs.length:=λi hi=>by rw[hlen];exact QbE.mp (hp.mem_iff.mp hi)
  have rv2:Vals (pp.toList.map λi=>vs.getD i .non) (pp.toList.map λi=>its.getD i Value.none):=Hy V.non Value.none rv hmem;have hpl:pp.toList.length=vs.length:=by rw[hp.length_eq,QaY,hlen]
  obtain⟨hDn,I2⟩:=IW (tk:=s.toks) I hn F2.ns kp2 nD oD rv2 (by rw[Qbl,hpl];exact h64);exact⟨.ref D,_,I2,rq,q _ D (by rw[hlen];exact hp) Jd hDn⟩
 ·refine Oe pl.isList (by omega) λD h' c hD oD kp=>?_;refine⟨.ref D,_,I.laid (t':=s.toks) (o:=.lst vs) kp hD ?_,rq,?_⟩
  ·exact⟨QbS (Am (by omega)),its,c,rv,oD⟩
  ·have z:=q (List.range vs.length) D (List.Perm.refl _) (Le (by omega) hkl) (I.hok.fresh hD);rw[range_getD] at z;exact z
end L2
namespace K41
open PySem L2
def top (i:Nat):Stmt:=PySem.Challenge.pw_warnloop_k41_houses.main.body.getD i (.Pass ⟨0,0,0,0⟩)
theorem Ao:bootBuiltins "isinstance"=some (.builtin "isinstance"):=by trivial
theorem Qn:bootBuiltins "int"=some (.type "int"):=by trivial
theorem Rx:bootBuiltins "bool"=some (.type "bool"):=by trivial
theorem Kh:bootBuiltins "list"=some (.type "list"):=by trivial
theorem V1:bootBuiltins "str"=some (.type "str"):=by trivial
theorem GD:bootBuiltins "len"=some (.builtin "len"):=by trivial
theorem JM:bootBuiltins "all"=some (.builtin "all"):=by trivial
theorem V3:bootBuiltins "abs"=some (.builtin "abs"):=by trivial
theorem eO:bootBuiltins "max"=some (.builtin "max"):=by trivial
theorem MP:bootBuiltins "sorted"=some (.builtin "sorted"):=by trivial
theorem V2:bootBuiltins "min"=some (.builtin "min"):=by trivial
structure Nm (mg:YB):Prop where
 isinstance:mg "isinstance"=none
 int:mg "int"=none
 bool:mg "bool"=none
 tuple:mg "tuple"=none
 list:mg "list"=none
 str:mg "str"=none
 len:mg "len"=none
 all:mg "all"=none
 abs:mg "abs"=none
 max:mg "max"=none
 min:mg "min"=none
 range:mg "range"=none
 sorted:mg "sorted"=none
 any:mg "any"=none
 sum:mg "sum"=none
 enumerate:mg "enumerate"=none
 zip:mg "zip"=none
 reversed:mg "reversed"=none
 dict:mg "dict"=none
 ord:mg "ord"=none
abbrev G5:Stmt:=top 26
abbrev Ii:YF:=["_law_script","_law_k"]
theorem Kw:Az ["_law_script","_law_k","_law_cell"] Ii (Ad G5):=by ac_rfl
abbrev Gb:Stmt:=top 27
abbrev Gg:YF:=["_law_bag_here","_law_many"]
theorem Fj:Az ["_law_bag_here","_law_many","_law_digit","_law_primes","_law_step","_law_base","_law_found"] Gg (Ad Gb):=by ac_rfl
theorem Vn (v:V):isW v=(isI v&&!isB v):=by cases v <;> rfl
def BR (H:Hp) (b:Addr) (n:Nat):Prop:=∃x y z:Int,H b=some (.lst [.int x,.int y,.int z])/\0<=x/\0<=y/\y<=4294967296/\0<=z/\z<=n
theorem BR.same {H H':Hp} {b:Addr} {n:Nat} (h:BR H b n) (s:Same H H'):BR H' b n:=by
 obtain⟨x,y,z,e,r⟩:=h;exact⟨x,y,z,s _ _ e,r⟩
theorem BR.mono {H:Hp} {b:Addr} {n m:Nat} (h:BR H b n) (l:n<=m):BR H b m:=by
 obtain⟨x,y,z,e,h1,h2,h3,h4,h5⟩:=h;exact⟨x,y,z,e,h1,h2,h3,h4,by omega⟩
theorem BR.nb {H:Hp} {b p:Addr} {n:Nat} (h:BR H b n) (hp:H p=none):b≠p:=by obtain⟨_,_,_,e,_⟩:=h;exact Aq e hp
theorem BR.Sy {H:Hp} {b:Addr} {n:Nat} (h:BR H b n):∀xs,H b≠some (.tup xs):=λxs z=>by obtain⟨_,_,_,e,_⟩:=h;rw[e] at z;cases z
theorem BR.ex {H:Hp} {b:Addr} {n:Nat} (h:BR H b n):∃o,H b=some o:=by obtain⟨_,_,_,e,_⟩:=h;exact⟨_,e⟩
theorem BR.Bv {H H':Hp} {a b:Addr} {n:Nat} (h:BR H b n) (s:Ah a H H') (ne:b≠a):BR H' b n:=by
 obtain⟨x,y,z,e,r⟩:=h;exact⟨x,y,z,s _ _ e ne,r⟩
theorem Bf {n:Nat} (h:n<=1000):n<=sizeLine:=QbS (Am h)
inductive RP (K:YD) (vs:YG) (H:Hp) (Q:VK) (E:XK):Prop
 | mk (a:Addr) (ns:List Int) (k:Int) (_:vs=[.ref a,.int k]) (_:SqL K H a (ns.map V.int)) (_:ns.length<=63) (_:0<=k) (_:k<=100) (_:∀p o,H p=none->BR (upd H p o) p 0->Q (.ref p) (upd H p o)):RP K vs H Q E
inductive Jq (vs:YG) (H:Hp) (Q:VK) (E:XK):Prop
 | mk (b:Addr) (n:Nat) (m:Int) (_:vs=[.ref b,.int m]) (_:BR H b n) (_:n<=10000) (_:0 < m) (_:m < 1073741824) (_:∀r H',0<=r->r < m->BR H' b (n+1)->Ah b H H'->Q (.int r) H'):Jq vs H Q E
inductive Ld (K:YD) (vs:YG) (H:Hp) (Q:VK) (E:XK):Prop
 | mk (a:Addr) (ns:List Int) (_:vs=[.ref a]) (_:SqL K H a (ns.map V.int)) (_:ns.length<=63) (_:∀H',Q (.bl true) H'):Ld K vs H Q E
theorem at7 {i:Int} (h0:0<=i) (h7:i < 7) {a b c d e f g:Int} (P:Int->Prop) (ha:P a) (hb:P b) (hc:P c) (hd:P d) (he:P e) (hf:P f) (hg:P g):∃p,atI [V.int a,.int b,.int c,.int d,.int e,.int f,.int g] i=some (.int p)/\P p:=by
 have:i=0\/i=1\/i=2\/i=3\/i=4\/i=5\/i=6:=by omega
 rcases this with rfl | rfl | rfl | rfl | rfl | rfl | rfl
 ·exact⟨_,rq,ha⟩
 ·exact⟨_,rq,hb⟩
 ·exact⟨_,rq,hc⟩
 ·exact⟨_,rq,hd⟩
 ·exact⟨_,rq,he⟩
 ·exact⟨_,rq,hf⟩
 ·exact⟨_,rq,hg⟩
theorem dO {x:Int} {b:Bool}:Uj x (if b=true then 1 else 0):=.inr (by cases b <;> exact⟨by decide,by decide⟩)
section
variable {P:Program} {w:World} {K:YD} {mg:YB} {base:Heap}
theorem WL (C:Code K mg "_law_bag" G5 Ii) (T:Nm mg):Good P w K mg base "_law_bag" 1 Ii (RP K):=by
 refine C.good Kw (λvs H Q E h=>?_) (λf cdv A outer s H vs Q E hr h=>?_)
 ·obtain⟨a,ns,k,rfl,_⟩:=h;rfl
 obtain⟨a,ns,k,rfl,hS,h63,h0,h1,q⟩:=h;refine⟨_,(Ae (Ax (i:=2) Kw.nd rfl (Or.inl rfl) (Ar Cz (Ar Cz (Ar Ew (Ar Ew Af (pv 1)) (pv 1)) (Ar Ew Af (pv 1))) Af))
 (Ae (BW (Bw Sq (pv 1) (Ak CK rfl T.len GD (Aa (pv 0) Ac)) (Bs _)) (Ai (Ax (i:=2) Kw.nd rfl (Or.inl rfl) (Bu Bk (pv 0) (pv 1) (λ_ _=>rfl)))) Bp)
 (Ai (Bc (Cw (Aa (Ar Ew (Ak Qm rfl T.abs V3 (Aa (pv 2) Ac)) (Hz VR rfl T.int Qn (Aa (Dp gb (Ak Qm rfl T.abs V3 (Aa (pv 2) Ac)) (Ar Ox Af Af) (Bs _)) Ac))) (Aa (Ar Cz (Ar Ey (pv 2) Af) (Ar Ew Af (pv 1))) (Aa Af Ac)))))))),?_⟩
 show let R0:TS:=_;let R1:TS:=_;let R2:TS:=Al (G9 _ R1 _) R0;Al _ R2 _ _ _;intro R0 R1 R2;refine⟨_,rq,_,_,rq,rq,.inl ⟨by decide,by decide⟩,_,rq,_,_,rq,rq,.inr ⟨by omega,by omega⟩,_,rq,_,_,rq,rq,.inl ⟨by decide,by decide⟩,_,_,rq,rq,_,_,rq,rq,?_⟩;refine⟨_,rq,_,rq,a,_,rq,.inl hS,_,_,rq,rq,_,rq,?_⟩;have hl:(ns.map V.int).length=ns.length:=Qbl _;have fin:∀(c:Int) (p:Addr),H p=none->Q (.ref p) (upd H p (.lst [.int ((if c < 0 then -c else c)*(if decide ((10:Int) ^ (18:Int).toNat<=(if c < 0 then -c else c))=true then 1 else 0)),.int (c % 2147483647+37*k),.int 0])):=λc p hp=>by
  refine q p _ hp ⟨_,_,_,Ab,?_,?_,?_,by omega,by omega⟩
  ·refine Int.mul_nonneg ?_ ?_
   ·split <;> omega
   ·split <;> omega
  ·have:=QbB c (show (2147483647:Int)≠0 by decide);omega
  ·have:=QaP c (show (0:Int) < 2147483647 by decide);omega
 refine cY (λc1=>?_) (λc1=>?_)
 ·have c':k < (((ns.map V.int).length:Nat):Int):=QaX c1;rw[hl] at c';have hk:k.toNat < ns.length:=by omega
  have hat:atI (ns.map V.int) ((k.toNat:Nat):Int)=some (.int ns[k.toNat]):=Fw (by rw[QaV];simp[hk]);rw[Int.toNat_of_nonneg h0] at hat;refine⟨_,rq,_,rq,a,_,_,_,rq,rq,hS,hat,?_⟩;exact⟨_,rq,_,rq,_,rq,_,rq,_,_,rq,rq,⟨by decide,by decide,by decide⟩,_,_,rq,rq,.inr ⟨_,rq,_,_,rq,rq,dO,_,rq,_,_,rq,rq,(by show (0:Int) < 2147483647;decide),_,rq,_,_,rq,rq,.inl ⟨by decide,by decide⟩,_,_,rq,rq,
   (by show 3<=sizeLine;decide),λl hl'=>fin _ l hl'⟩⟩
 ·exact⟨_,rq,_,rq,_,rq,_,rq,_,_,rq,rq,⟨by decide,by decide,by decide⟩,_,_,rq,rq,.inr ⟨_,rq,_,_,rq,rq,dO,_,rq,_,_,rq,rq,(by show (0:Int) < 2147483647;decide),_,rq,_,_,rq,rq,.inl ⟨by decide,by decide⟩,_,_,rq,rq,
   (by show 3<=sizeLine;decide),λl hl'=>fin _ l hl'⟩⟩
theorem U9 (C:Code K mg "_law_take" Gb Gg) (T:Nm mg):Good P w K mg base "_law_take" 1 Gg Jq:=by
 refine C.good Fj (λvs H Q E h=>?_) (λf cdv A outer s H vs Q E hr h=>?_)
 ·obtain⟨b,n,m,rfl,_⟩:=h;rfl
 obtain⟨b,n,m,rfl,⟨x,y,z,hb,x0,y0,y1,z0,z1⟩,hn,m0,m1,q⟩:=h;refine⟨_,(Ae (BW (Bw Zm (Bu Bk (pv 0) Af (λ_ _=>rfl)) Af (Bs _)) (Ae (Ax (i:=2) Fj.nd rfl (Or.inl rfl) (Ar Ey (Bu Bk (pv 0) Af (λ_ _=>rfl)) (pv 1)))
 (Ae (Ej (Ar Mi (Bu Bk (pv 0) Af (λ_ _=>rfl)) (pv 1)) (Es (pv 0) Af set_list))
 (Ai (Bc (pv 2))))) Bp)
 (Ae (Ax (i:=3) Fj.nd rfl (Or.inl rfl) (@Ih _ _ _ _ _ (@Aa _ _ _ _ _ (@Af _ _ _ _) (@Aa _ _ _ _ _ (@Af _ _ _ _) (@Aa _ _ _ _ _ (@Af _ _ _ _) (@Aa _ _ _ _ _ (@Af _ _ _ _) (@Aa _ _ _ _ _ (@Af _ _ _ _) (@Aa _ _ _ _ _ (@Af _ _ _ _) (@Aa _ _ _ _ _ (@Af _ _ _ _) (@Ac _) Bg) Bg) Bg) Bg) Bg) Bg) Bg)))
 (Ae (Ej (Ar Cz (Bu Bk (pv 0) Af (λ_ _=>rfl)) Af) (Es (pv 0) Af set_list))
 (Ae (Ax (i:=4) Fj.nd rfl (Or.inl rfl) (Bu Bk (pv 0) Af (λ_ _=>rfl)))
 (Ae (Ax (i:=5) Fj.nd rfl (Or.inl rfl) (Ar Cz (Ar Cz (Ar Ew (Bu Bk (pv 0) Af (λ_ _=>rfl)) (Ar Cz (Ar Ew Af (pv 4)) Af)) (Ar Ew (Ar Ew Af (pv 4)) (pv 4))) Af))
 (Ae (Ax (i:=6) Fj.nd rfl (Or.inl rfl) (Ar Ey (Ar Ox (pv 5) Af) (Bu Lq (pv 3) (Ar Ey (pv 4) Af) (λ_ _=>rfl))))
 (Ai (Bc (Ar Ey (Ar Mi (Ar Ey (Ar Ew (pv 6) (Ar Cz (Ar Mi (pv 6) Af) Af)) (Bu Lq (pv 3) (Ar Ey (Ar Cz (pv 4) Af) Af) (λ_ _=>rfl))) Af) (pv 1)))))))))),?_⟩
 show let R0:TS:=_;let R1:TS:=Al _ R0;let R2:TS:=Al _ R1;let R3:TS:=Al _ R2;let R4:TS:=Al _ R3;let R5:TS:=Al _ R4;let R6:TS:=Al _ _;let R7:TS:=Al _ R6;Al (G9 _ R7 _) R5 _ _ _;intro R0 R1 R2 R3 R4 R5 R6 R7;refine⟨_,rq,b,_,_,_,rq,rq,SqL.of hb,rq,_,_,rq,rq,_,rq,?_⟩;refine cY (λc1=>?_) (λc1=>?_)
 ·have c':0 < x:=QaX c1;refine⟨_,rq,b,_,_,_,rq,rq,SqL.of hb,rq,_,rq,_,_,rq,rq,m0,?_⟩;refine⟨_,rq,b,_,_,_,rq,rq,SqL.of hb,rq,_,rq,_,_,rq,rq,⟨m0,m1⟩,_,rq,b,_,_,_,rq,rq,hb,rq,?_⟩;exact⟨_,rq,q _ _ (QbB x (by omega)) (QaP x m0) ⟨x / m,y,z,Ab,Int.ediv_nonneg x0 (by omega),y0,y1,z0,by omega⟩ Ah.upd⟩
 ·refine⟨(by show 7<=sizeLine;decide),λtp htp=>?_⟩;have nbt:b≠tp:=Aq hb htp;have hb1:∀o,(upd H tp o) b=some (.lst [.int x,.int y,.int z]):=λo=>by rw[Aj nbt];exact hb
  have ht1:∀o u,(upd (upd H tp o) b u) tp=some o:=λo u=>by rw[Aj nbt.symm,Ab]
  refine⟨_,rq,b,_,_,_,rq,rq,SqL.of (hb1 _),rq,_,_,rq,rq,_,rq,b,_,_,_,rq,rq,hb1 _,rq,?_⟩;refine⟨_,rq,b,_,_,_,rq,rq,SqL.of Ab,rq,?_⟩;have s0:0<=z+1:=by omega
  have s1:z+1<=10001:=by omega
  refine⟨_,rq,b,_,_,_,rq,rq,SqL.of Ab,rq,_,rq,_,_,rq,rq,.inl ⟨by decide,by decide⟩,_,_,rq,rq,_,_,rq,rq,.inl ⟨by omega,by omega⟩,_,rq,_,_,rq,rq,.inl ⟨by decide,by decide⟩,_,rq,_,_,rq,rq,.inr ⟨by omega,by omega⟩,
   _,_,rq,rq,_,_,rq,rq,?_⟩
  have hbase:(y*(2*(z+1)+1)+6007*(z+1)*(z+1)+29).natAbs < 2 ^ 64:=by
   have h1:0<=y*(2*(z+1)+1):=Int.mul_nonneg y0 (by omega);have h2:y*(2*(z+1)+1)<=4294967296*20003:=Int.mul_le_mul y1 (by omega) (by omega) (by omega);have h3:0<=6007*(z+1)*(z+1):=Int.mul_nonneg (by omega) s0;have h4:6007*(z+1)*(z+1)<=(6007*10001)*10001:=Int.mul_le_mul (by omega) s1 s0 (by omega);omega
  obtain⟨p1,e1,p10,p11⟩:=at7 (i:=(z+1) % 7) (QbB _ (by decide)) (QaP _ (by decide)) (a:=2147483629) (b:=2147483587) (c:=2147483579) (d:=2147483563) (e:=2147483549) (f:=2147483543) (g:=2147483497)
   (λp=>0 < p/\p < 2147483648) (by decide) (by decide) (by decide) (by decide) (by decide) (by decide) (by decide)
  obtain⟨p2,e2,p20,p21⟩:=at7 (i:=(z+1+3) % 7) (QbB _ (by decide)) (QaP _ (by decide)) (a:=2147483629) (b:=2147483587) (c:=2147483579) (d:=2147483563) (e:=2147483549) (f:=2147483543) (g:=2147483497)
   (λp=>0 < p/\p < 2147483648) (by decide) (by decide) (by decide) (by decide) (by decide) (by decide) (by decide)
  refine⟨_,rq,_,_,rq,rq,⟨by decide,by decide,hbase⟩,_,rq,_,rq,_,_,rq,rq,(by show (0:Int) < 7;decide),tp,_,_,_,rq,rq,SqT.of (ht1 _ _),e1,_,_,rq,rq,p10,?_⟩;generalize hF:(y*(2*(z+1)+1)+6007*(z+1)*(z+1)+29) ^ (3:Int).toNat % p1=F;have F0:0<=F:=by rw[<-hF];exact QbB _ (by omega)
  have F1:F < p1:=by rw[<-hF];exact QaP _ p10
  refine⟨_,rq,_,rq,_,_,rq,rq,⟨by decide,by decide⟩,_,_,rq,rq,_,_,rq,rq,.inl ⟨by omega,by omega⟩,_,rq,_,rq,_,_,rq,rq,_,_,rq,rq,(by show (0:Int) < 7;decide),tp,_,_,_,rq,rq,SqT.of (ht1 _ _),e2,_,_,rq,rq,p20,
   _,_,rq,rq,⟨by decide,by decide⟩,_,rq,_,_,rq,rq,m0,?_⟩
  refine q _ _ (QbB _ (by omega)) (QaP _ m0) ⟨x,y,z+1,Ab,x0,y0,y1,s0,by omega⟩ λc o e nc=>?_;rw[Aj nc,Aj (Aq e htp)];exact e
end
abbrev Gd:Stmt:=top 29
abbrev Hl:YF:=["_law_e"]
theorem Gp:Az ["_law_e","_law_kinds","_law_names"] Hl (Ad Gd):=by ac_rfl
structure Er (K:YD) (mg:YB) (hc c0 c1 c2 c3 c4 c5 c6 c7 c8 c9 c10 c11 c12:Addr):Prop where
 ve:mg "ValueError"=none
 QH:mg "HouseError"=some (.ref hc)
 Qw:XCl K hc
 aA:mg "NoPlan"=some (.ref c0)
 Ra:mg "NoText"=some (.ref c1)
 SJ:mg "NoStretch"=some (.ref c2)
 au:mg "NoSpot"=some (.ref c3)
 Ve:mg "NoOpener"=some (.ref c4)
 SM:mg "NoAddress"=some (.ref c5)
 WR:mg "NoRules"=some (.ref c6)
 aB:mg "NoHand"=some (.ref c7)
 O8:mg "NoPanel"=some (.ref c8)
 Rb:mg "NoLink"=some (.ref c9)
 cN:mg "NoLog"=some (.ref c10)
 aD:mg "NoDeed"=some (.ref c11)
 cM:mg "NoRow"=some (.ref c12)
structure Knd (K:YD) (hc C:Addr) (cs:List Addr) (j:Nat):Prop where
 xc:XCl K C
 sub:subIn K (.ref C) (.ref hc)=some true
 kit:∀i d,cs[i]?=some d->kitOne K (.ref C) (.ref d)=some (decide (i=j))
 kv:kitOne K (.ref C) (.type "ValueError")=some true
def Nz (j:Nat):Str:=(["plan","text","stretch","spot","opener","address","rules","hand","panel","link","log","deed","row"]:YF).getD j ""
def bsl (j:Nat):List Bool:=[decide (0=j),decide (1=j),decide (2=j),decide (3=j),decide (4=j),decide (5=j),decide (6=j),decide (7=j),decide (8=j),decide (9=j),decide (10=j),decide (11=j),decide (12=j)]
theorem V4:∀j,j < 13->(bsl j).countP id=1:=by decide
theorem eV:∀j,j < 13->(bsl j)[j]?=some true:=by decide
theorem eU:∀j,j < 13->∀m,m < j->(bsl j)[m]?=some false:=by decide
theorem wordAt:∀j,j < 13->([.str "plan",.str "text",.str "stretch",.str "spot",.str "opener",.str "address",.str "rules",.str "hand",.str "panel",.str "link",.str "log",.str "deed",.str "row"]:YG)[j]?=some (.str (Nz j))
 | 0,_=>rfl
 | 1,_=>rfl
 | 2,_=>rfl
 | 3,_=>rfl
 | 4,_=>rfl
 | 5,_=>rfl
 | 6,_=>rfl
 | 7,_=>rfl
 | 8,_=>rfl
 | 9,_=>rfl
 | 10,_=>rfl
 | 11,_=>rfl
 | 12,_=>rfl
 | n+13,h=>absurd h (by omega)
inductive Oa (K:YD) (hc:Addr) (cs:List Addr) (vs:YG) (H:Hp) (Q:VK) (E:XK):Prop
 | mk (e C:Addr) (j:Nat) (_:vs=[.ref e]) (_:H e=some (xo e C)) (_:Knd K hc C cs j) (_:j < 13) (_:∀H',Same H H'->Q (.str (Nz j)) H'):Oa K hc cs vs H Q E
section
variable {P:Program} {w:World} {K:YD} {mg:YB} {base:Heap} {hc c0 c1 c2 c3 c4 c5 c6 c7 c8 c9 c10 c11 c12:Addr}
theorem Z8 (C:Code K mg "_law_kind" Gd Hl) (T:Nm mg) (XE:Er K mg hc c0 c1 c2 c3 c4 c5 c6 c7 c8 c9 c10 c11 c12):NP P w K mg base "_law_kind" 1 Hl (Oa K hc [c0,c1,c2,c3,c4,c5,c6,c7,c8,c9,c10,c11,c12]):=by
 refine C.gK Gp (λvs H Q E h=>?_) (λf cdv A outer s H vs Q hr h=>?_)
 ·obtain⟨e,C,j,rfl,_⟩:=h;rfl
 obtain⟨e,C,j,rfl,he,k,hj,q⟩:=h;refine⟨_,(@Ae _ _ _ _ _ (@Ax _ _ 1 _ _ _ _ Gp.nd rfl (Or.inl rfl) (Cw (Aa (Ak BZ rfl T.isinstance Ao (Aa (pv 0) (Aa (Ci (v:=.ref _) rfl XE.aA rfl) Ac))) (Aa (Ak BZ rfl T.isinstance Ao (Aa (pv 0) (Aa (Ci (v:=.ref _) rfl XE.Ra rfl) Ac))) (Aa (Ak BZ rfl T.isinstance Ao (Aa (pv 0) (Aa (Ci (v:=.ref _) rfl XE.SJ rfl) Ac))) (Aa (Ak BZ rfl T.isinstance Ao (Aa (pv 0) (Aa (Ci (v:=.ref _) rfl XE.au rfl) Ac))) Ac))))) (by rfl) (by first | exact .inl rfl | exact .inr rfl))
 (@Ae _ _ _ _ _ (@Ax _ _ 1 _ _ _ _ Gp.nd rfl (Or.inl rfl) (@Ar _ _ _ _ _ _ _ _ Jy (pv 1) (Cw (Aa (Ak BZ rfl T.isinstance Ao (Aa (pv 0) (Aa (Ci (v:=.ref _) rfl XE.Ve rfl) Ac))) (Aa (Ak BZ rfl T.isinstance Ao (Aa (pv 0) (Aa (Ci (v:=.ref _) rfl XE.SM rfl) Ac))) (Aa (Ak BZ rfl T.isinstance Ao (Aa (pv 0) (Aa (Ci (v:=.ref _) rfl XE.WR rfl) Ac))) (Aa (Ak BZ rfl T.isinstance Ao (Aa (pv 0) (Aa (Ci (v:=.ref _) rfl XE.aB rfl) Ac))) Ac)))))) (by rfl) (by first | exact .inl rfl | exact .inr rfl))
 (@Ae _ _ _ _ _ (@Ax _ _ 1 _ _ _ _ Gp.nd rfl (Or.inl rfl) (@Ar _ _ _ _ _ _ _ _ Jy (pv 1) (Cw (Aa (Ak BZ rfl T.isinstance Ao (Aa (pv 0) (Aa (Ci (v:=.ref _) rfl XE.O8 rfl) Ac))) (Aa (Ak BZ rfl T.isinstance Ao (Aa (pv 0) (Aa (Ci (v:=.ref _) rfl XE.Rb rfl) Ac))) (Aa (Ak BZ rfl T.isinstance Ao (Aa (pv 0) (Aa (Ci (v:=.ref _) rfl XE.cN rfl) Ac))) (Aa (Ak BZ rfl T.isinstance Ao (Aa (pv 0) (Aa (Ci (v:=.ref _) rfl XE.aD rfl) Ac))) Ac)))))) (by rfl) (by first | exact .inl rfl | exact .inr rfl))
 (@Ae _ _ _ _ _ (Dn (HN Qaj Qag Qah Dw (pv 1) (Aa (Ak BZ rfl T.isinstance Ao (Aa (pv 0) (Aa (Ci (v:=.ref _) rfl XE.cM rfl) Ac))) Ac)))
 (@Ae _ _ _ _ _ (@Ax _ _ 2 _ _ _ _ Gp.nd rfl (Or.inl rfl) (@Cw _ _ _ _ (@Aa _ _ _ _ _ (@BJ _ _ _ _) (@Aa _ _ _ _ _ (@BJ _ _ _ _) (@Aa _ _ _ _ _ (@BJ _ _ _ _) (@Aa _ _ _ _ _ (@BJ _ _ _ _) (@Aa _ _ _ _ _ (@BJ _ _ _ _) (@Aa _ _ _ _ _ (@BJ _ _ _ _) (@Aa _ _ _ _ _ (@BJ _ _ _ _) (@Aa _ _ _ _ _ (@BJ _ _ _ _) (@Aa _ _ _ _ _ (@BJ _ _ _ _) (@Aa _ _ _ _ _ (@BJ _ _ _ _) (@Aa _ _ _ _ _ (@BJ _ _ _ _) (@Aa _ _ _ _ _ (@BJ _ _ _ _) (@Ac _) Bg) Bg) Bg) Bg) Bg) Bg) Bg) Bg) Bg) Bg) Bg) Bg)) (by rfl) (by first | exact .inl rfl | exact .inr rfl))
 (@Ae _ _ _ _ _ (Dn (HN Qaj Qag Qah Dw (pv 2) (Aa BJ Ac)))
 (@Ae _ _ _ _ _ (BW (PW.pt (JX (CZ (CW (Ak VN rfl T.isinstance Ao (Aa (pv 0) (Aa (Fq (v:=.ty "ValueError") rfl XE.ve PyProof.Rows.Boot.«ValueError» rfl) Ac))))) (Ie (Bw fZ (HN Qaj PySem.F.slot_list_count PySem.F.type_list_count Vg (pv 1) (Aa Dc Ac)) Af (Bs _))))) (@Ai _ _ _ (Bc BJ)) Bp)
 (@Ai _ _ _ (Bc (Bu Bk (pv 2) (HN Qaj PySem.F.slot_list_index PySem.F.type_list_index Vf (pv 1) (Aa Dc Ac)) (λ_ _=>rfl))))))))))),?_⟩
 show let R0:TS:=_;let R1:TS:=Al _ R0;let R2:TS:=Al _ R1;let R3:TS:=Al _ R2;let R4:TS:=Al _ R3;let R5:TS:=Al _ R4;let R6:TS:=Al _ R5;Al _ R6 _ _ _;intro R0 R1 R2 R3 R4 R5 R6;refine⟨_,rq,Dr he k.xc (k.kit 0 _ rfl) ⟨_,rq,Dr he k.xc (k.kit 1 _ rfl) ⟨_,rq,Dr he k.xc (k.kit 2 _ rfl) ⟨_,rq,Dr he k.xc (k.kit 3 _ rfl) ⟨Bf (by show 4<=1000;decide),λl1 hl1=>?_⟩⟩⟩⟩⟩;have s1:=Ag hl1 (.lst [V.bl (decide (0=j)),.bl (decide (1=j)),.bl (decide (2=j)),.bl (decide (3=j))]);have e1:upd H l1 (.lst [V.bl (decide (0=j)),.bl (decide (1=j)),.bl (decide (2=j)),.bl (decide (3=j))]) l1=some (.lst [V.bl (decide (0=j)),.bl (decide (1=j)),.bl (decide (2=j)),.bl (decide (3=j))]):=Ab;generalize upd H l1 (.lst [V.bl (decide (0=j)),.bl (decide (1=j)),.bl (decide (2=j)),.bl (decide (3=j))])=H1 at s1 e1 ⊢;have he1:=s1 _ _ he;refine⟨_,rq,⟨_,rq,Dr he1 k.xc (k.kit 4 _ rfl) ⟨_,rq,Dr he1 k.xc (k.kit 5 _ rfl) ⟨_,rq,Dr he1 k.xc (k.kit 6 _ rfl) ⟨_,rq,Dr he1 k.xc (k.kit 7 _ rfl) ⟨Bf (by show 4<=1000;decide),λla hla=>⟨l1,la,_,_,rq,rq,Ag hla _ _ _ e1,Ab,Bf (by show 8<=1000;decide),λlb hlb=>?_⟩⟩⟩⟩⟩⟩⟩;have sa:=Ag hla (.lst [V.bl (decide (4=j)),.bl (decide (5=j)),.bl (decide (6=j)),.bl (decide (7=j))]);have sb:=Ag hlb (.lst ([V.bl (decide (0=j)),.bl (decide (1=j)),.bl (decide (2=j)),.bl (decide (3=j))]++[V.bl (decide (4=j)),.bl (decide (5=j)),.bl (decide (6=j)),.bl (decide (7=j))]));have e2:upd (upd H1 la (.lst [V.bl (decide (4=j)),.bl (decide (5=j)),.bl (decide (6=j)),.bl (decide (7=j))])) lb (.lst ([V.bl (decide (0=j)),.bl (decide (1=j)),.bl (decide (2=j)),.bl (decide (3=j))]++[V.bl (decide (4=j)),.bl (decide (5=j)),.bl (decide (6=j)),.bl (decide (7=j))])) lb=some (.lst ([V.bl (decide (0=j)),.bl (decide (1=j)),.bl (decide (2=j)),.bl (decide (3=j))]++[V.bl (decide (4=j)),.bl (decide (5=j)),.bl (decide (6=j)),.bl (decide (7=j))])):=Ab;have s2:=s1.trans (sa.trans sb);generalize upd (upd H1 la (.lst [V.bl (decide (4=j)),.bl (decide (5=j)),.bl (decide (6=j)),.bl (decide (7=j))])) lb (.lst ([V.bl (decide (0=j)),.bl (decide (1=j)),.bl (decide (2=j)),.bl (decide (3=j))]++[V.bl (decide (4=j)),.bl (decide (5=j)),.bl (decide (6=j)),.bl (decide (7=j))]))=H2 at sb e2 s2 ⊢;have he2:=s2 _ _ he;refine⟨_,rq,⟨_,rq,Dr he2 k.xc (k.kit 8 _ rfl) ⟨_,rq,Dr he2 k.xc (k.kit 9 _ rfl) ⟨_,rq,Dr he2 k.xc (k.kit 10 _ rfl) ⟨_,rq,Dr he2 k.xc (k.kit 11 _ rfl) ⟨Bf (by show 4<=1000;decide),λlc hlc=>⟨lb,lc,_,_,rq,rq,Ag hlc _ _ _ e2,Ab,Bf (by show 12<=1000;decide),λld hld=>?_⟩⟩⟩⟩⟩⟩⟩;have sc:=Ag hlc (.lst [V.bl (decide (8=j)),.bl (decide (9=j)),.bl (decide (10=j)),.bl (decide (11=j))]);have sd:=Ag hld (.lst ([V.bl (decide (0=j)),.bl (decide (1=j)),.bl (decide (2=j)),.bl (decide (3=j))]++[V.bl (decide (4=j)),.bl (decide (5=j)),.bl (decide (6=j)),.bl (decide (7=j))]++[V.bl (decide (8=j)),.bl (decide (9=j)),.bl (decide (10=j)),.bl (decide (11=j))]));have e3:upd (upd H2 lc (.lst [V.bl (decide (8=j)),.bl (decide (9=j)),.bl (decide (10=j)),.bl (decide (11=j))])) ld (.lst ([V.bl (decide (0=j)),.bl (decide (1=j)),.bl (decide (2=j)),.bl (decide (3=j))]++[V.bl (decide (4=j)),.bl (decide (5=j)),.bl (decide (6=j)),.bl (decide (7=j))]++[V.bl (decide (8=j)),.bl (decide (9=j)),.bl (decide (10=j)),.bl (decide (11=j))])) ld=some (.lst ([V.bl (decide (0=j)),.bl (decide (1=j)),.bl (decide (2=j)),.bl (decide (3=j))]++[V.bl (decide (4=j)),.bl (decide (5=j)),.bl (decide (6=j)),.bl (decide (7=j))]++[V.bl (decide (8=j)),.bl (decide (9=j)),.bl (decide (10=j)),.bl (decide (11=j))])):=Ab;have s3:=s2.trans (sc.trans sd);have fd:H ld=none:=s2.free (sc.free hld);generalize upd (upd H2 lc (.lst [V.bl (decide (8=j)),.bl (decide (9=j)),.bl (decide (10=j)),.bl (decide (11=j))])) ld (.lst ([V.bl (decide (0=j)),.bl (decide (1=j)),.bl (decide (2=j)),.bl (decide (3=j))]++[V.bl (decide (4=j)),.bl (decide (5=j)),.bl (decide (6=j)),.bl (decide (7=j))]++[V.bl (decide (8=j)),.bl (decide (9=j)),.bl (decide (10=j)),.bl (decide (11=j))]))=H3 at sd e3 s3 ⊢;have he3:=s3 _ _ he;refine⟨_,rq,.inl ⟨rq,_,SqL.of e3⟩,_,rq,Dr he3 k.xc (k.kit 12 _ rfl) ⟨ld,_,_,rq,rq,e3,Am (by show 12<=1000;decide),?_⟩⟩;have e4:upd H3 ld (.lst ([V.bl (decide (0=j)),.bl (decide (1=j)),.bl (decide (2=j)),.bl (decide (3=j))]++[V.bl (decide (4=j)),.bl (decide (5=j)),.bl (decide (6=j)),.bl (decide (7=j))]++[V.bl (decide (8=j)),.bl (decide (9=j)),.bl (decide (10=j)),.bl (decide (11=j))]++[.bl (decide (12=j))])) ld=some (.lst ((bsl j).map V.bl)):=Ab;have s4:Same H (upd H3 ld (.lst ([V.bl (decide (0=j)),.bl (decide (1=j)),.bl (decide (2=j)),.bl (decide (3=j))]++[V.bl (decide (4=j)),.bl (decide (5=j)),.bl (decide (6=j)),.bl (decide (7=j))]++[V.bl (decide (8=j)),.bl (decide (9=j)),.bl (decide (10=j)),.bl (decide (11=j))]++[.bl (decide (12=j))]))):=s3.Br Ah.upd fd;generalize upd H3 ld (.lst ([V.bl (decide (0=j)),.bl (decide (1=j)),.bl (decide (2=j)),.bl (decide (3=j))]++[V.bl (decide (4=j)),.bl (decide (5=j)),.bl (decide (6=j)),.bl (decide (7=j))]++[V.bl (decide (8=j)),.bl (decide (9=j)),.bl (decide (10=j)),.bl (decide (11=j))]++[.bl (decide (12=j))]))=H4 at e4 s4 ⊢;have he4:=s4 _ _ he;refine⟨Bf (by show 12<=1000;decide),λln hln=>?_⟩;have nd:ld≠ln:=Aq e4 hln;have fn:H ln=none:=s4.free hln;have s5:=s4.trans (Ag hln (.lst [V.str "plan",.str "text",.str "stretch",.str "spot",.str "opener",.str "address",.str "rules",.str "hand",.str "panel",.str "link",.str "log",.str "deed"]));have e5:=Ag hln (.lst [V.str "plan",.str "text",.str "stretch",.str "spot",.str "opener",.str "address",.str "rules",.str "hand",.str "panel",.str "link",.str "log",.str "deed"]) _ _ e4;refine⟨_,rq,.inl ⟨rq,_,SqL.of Ab⟩,ln,_,_,rq,rq,Ab,Am (by show 12<=1000;decide),?_⟩;generalize upd H4 ln (.lst [V.str "plan",.str "text",.str "stretch",.str "spot",.str "opener",.str "address",.str "rules",.str "hand",.str "panel",.str "link",.str "log",.str "deed"])=H5 at s5 e5 ⊢;have e6:∀o,upd H5 ln o ld=some (.lst ((bsl j).map V.bl)):=λo=>by rw[Aj nd];exact e5
 have s6:∀o,Same H (upd H5 ln o):=λo=>s5.Br Ah.upd fn;refine⟨_,rq,aK (s6 _ _ _ he) k.xc k.kv ⟨_,rq,Bo ?_⟩⟩;refine⟨_,rq,.inl ⟨rq,_,SqL.of (e6 _)⟩,VG (e6 _) ⟨rq,_,rq,?_⟩⟩;rw[V4 j hj];refine gC rfl ?_;refine⟨_,rq,_,rq,.inl ⟨rq,_,SqL.of (e6 _)⟩,Vq (e6 _) (by omega) (eV j hj) (eU j hj) ⟨ln,_,_,_,rq,rq,SqL.of Ab,Fw (wordAt j hj),q _ (s6 _)⟩⟩
end
abbrev Gf:Stmt:=top 23
abbrev Hq:YF:=["one","other"]
theorem Ei:Az ["one","other","known","entry","stamp","panel","number","text"] Hq (Ad Gf):=by ac_rfl
structure En where
 st:Int
 pn:Int
 nr:Int
 tx:Str
deriving DecidableEq
def En.vs (e:En):YG:=[.int e.st,.int e.pn,.int e.nr,.str e.tx]
def En.key (e:En):List Key:=[.inl e.pn,.inl e.nr]
def En.cd (e:En):Int:=e.st*100000000+e.pn*10000+e.nr
def Ec (H:Hp) (v:V) (e:En):Prop:=∃t,v=.ref t/\H t=some (.tup e.vs)
theorem Ec.tups {H H':Hp} (s:Bq H H') {v:V} {e:En} (h:Ec H v e):Ec H' v e:=let ⟨t,h1,h2⟩:=h;⟨t,h1,s _ _ h2⟩
theorem Ens.tups {H H':Hp} (s:Bq H H') {vs:YG} {es:List En} (h:Paired (Ec H) vs es):Paired (Ec H') vs es:=Paired.Ia h λ_ _ z=>z.tups s
def BP (H:Hp) (a:Addr) (es:List En):Prop:=∃vs,H a=some (.lst vs)/\Paired (Ec H) vs es
theorem BP.same {H H':Hp} {a:Addr} {es:List En} (h:BP H a es) (s:Same H H'):BP H' a es:=let ⟨vs,h1,h2⟩:=h;⟨vs,s _ _ h1,Ens.tups (Bq.of s) h2⟩
structure WOk (W:List En):Prop where
 few:W.length < 64
 pn0:∀e∈W,0<=e.pn
 pn1:∀e∈W,e.pn < 10000
 nr0:∀e∈W,0<=e.nr
 nr1:∀e∈W,e.nr < 10000
 tx:∀e∈W,PyData.strOk e.tx=true
 inj:∀e∈W,∀f∈W,e.pn=f.pn->e.nr=f.nr->e=f
theorem WOk.c4 {W:List En} (w:WOk W) {e:En} (h:e∈W):C4 e.st e.pn e.nr e.cd:=⟨w.pn0 e h,w.pn1 e h,w.nr0 e h,w.nr1 e h,rfl⟩
theorem WOk.cdi {W:List En} (w:WOk W) {e f:En} (he:e∈W) (hf:f∈W) (h:e.cd=f.cd):e=f:=by
 have:=w.pn0 e he;have:=w.pn1 e he;have:=w.nr0 e he;have:=w.nr1 e he;have:=w.pn0 f hf;have:=w.pn1 f hf;have:=w.nr0 f hf;have:=w.nr1 f hf;unfold En.cd at h;exact w.inj e he f hf (by omega) (by omega)
def Up (zs:List En):Prop:=zs.Pairwise λe f=>e.cd < f.cd
theorem aJ {e f:En} (h:e.key=f.key):e.pn=f.pn/\e.nr=f.nr:=by
 unfold En.key at h;simp only[List.cons.injEq,Sum.inl.injEq,and_true] at h;exact h
def Dt (H:Hp) (kvs:YL) (ds:List En):Prop:=Paired (λ(kv:List Key×V) e=>kv.1=e.key/\Ec H kv.2 e) kvs ds
theorem Dt.tups {H H':Hp} (s:Bq H H') {kvs:YL} {ds:List En} (h:Dt H kvs ds):Dt H' kvs ds:=Paired.Ia h λ_ _ z=>⟨z.1,z.2.tups s⟩
theorem Dt.at {H:Hp}:∀{kvs:YL} {ds:List En},Dt H kvs ds->∀{j:Nat} {k:List Key} {v:V},kvs[j]?=some (k,v)->∃e∈ds,k=e.key/\Ec H v e
 | _,_,.nil,j,k,v,h=>by cases h
 | _,_,.cons a r,0,k,v,h=>by cases h;exact⟨_,.head _,a⟩
 | _,_,.cons a r,j+1,k,v,h=>let ⟨e,h1,h2⟩:=Dt.at r (j:=j) h;⟨e,.tail _ h1,h2⟩
theorem Dt.no {H:Hp}:∀{kvs:YL} {ds:List En},Dt H kvs ds->∀{k:List Key},(∀(j:Nat) (v:V),kvs[j]?≠some (k,v))->∀e∈ds,k≠e.key
 | _,_,.nil,k,h=>λe he=>by cases he
 | _,_,.cons (a:=a) x r,k,h=>λe he=>by
  rcases QbF.mp he with rfl | he
  ·intro z;exact h 0 a.2 (by rw[z,<-x.1];rfl)
  ·exact Dt.no r (λj v hj=>h (j+1) v (by simpa using hj)) e he
theorem Dt.vals {H:Hp}:∀{kvs:YL} {ds:List En},Dt H kvs ds->Paired (Ec H) (kvs.map (·.2)) ds
 | _,_,.nil=>.nil
 | _,_,.cons x r=>.cons x.2 (Dt.vals r)
theorem Zr {K:YD} {H:Hp} {W:List En} (w:WOk W):∀{vs:YG} {es:List En},Paired (Ec H) vs es->(∀e∈es,e∈W)->Paired (Iu K H) vs (es.map En.cd)
 | _,_,.nil,_=>.nil
 | _,_,.cons x r,h=>by
  obtain⟨t,e1,e2⟩:=x;exact .cons ⟨t,_,_,_,_,e1,SqT.of e2,w.c4 (h _ (.head _))⟩ (Zr w r λe he=>h e (.tail _ he))
theorem VJ {W:List En} (w:WOk W):∀{es:List En},es.Nodup->(∀e∈es,e∈W)->(es.map En.cd).Nodup
 | [],_,_=>List.Pairwise.nil
 | e::r,nd,h=>by
  rw[QbJ];refine Qbx.mpr ⟨λz=>?_,VJ w (Qbx.mp nd).2 λe he=>h e (.tail _ he)⟩;obtain⟨f,hf,e1⟩:=QbQ.mp z;exact (Qbx.mp nd).1 (w.cdi (h f (.tail _ hf)) (h e (.head _)) e1 ▸ hf)
theorem Ik {κ : Type} [DecidableEq κ]:∀{l m:List κ},l.Nodup->(∀x∈l,x∈m)->l.length<=m.length
 | [],_,_,_=>QbW _
 | a::r,m,nd,h=>by
  have ha:=h a (QaJ ..);obtain⟨n1,n2⟩:=Qbx.mp nd;have:=Ik (l:=r) (m:=m.erase a) n2 λx hx=>(List.mem_erase_of_ne (λe=>n1 (by rw[<-e];exact hx))).mpr (h x (Qau _ hx));rw[List.length_erase_of_mem ha] at this;have hp:=List.length_pos_of_mem ha;rw[Qbf];omega
theorem Wt {α : Type} (d:α) {is:List Nat} {xs:List α} (h:is.Perm (List.range xs.length)) (x:α):x∈(is.map λi=>xs.getD i d) ↔ x∈xs:=by
 have:=(h.map λi=>xs.getD i d);rw[range_getD] at this;exact this.mem_iff
def en0:En:=⟨0,0,0,""⟩
theorem ZS {is:List Nat} {ds:List En} (hp:is.Perm (List.range ds.length)) (h:(is.map λi=>(ds.map En.cd).getD i 0).Pairwise (· < ·)):Up (is.map λi=>ds.getD i en0):=by
 have e:(is.map λi=>(ds.map En.cd).getD i 0)=(is.map λi=>ds.getD i en0).map En.cd:=by
  rw[List.map_map];refine List.map_congr_left λi hi=>?_;have:=QbE.mp (hp.mem_iff.mp hi);simp[this]
 rw[e,List.pairwise_map] at h;exact h
theorem ZV {H:Hp} {is:List Nat} {vs:YG} {ds:List En} (hp:is.Perm (List.range ds.length)) (h:Paired (Ec H) vs ds):Paired (Ec H) (is.map λi=>vs.getD i .non) (is.map λi=>ds.getD i en0):=
 Hy V.non en0 h λi hi=>by rw[QbG h];exact QbE.mp (hp.mem_iff.mp hi)
def En.pd (e:En):PyData:=.tuple [.int e.st,.int e.pn,.int e.nr,.str e.tx]
theorem VB {H:Hp} {v:V} {e:En} (h:Ec H v e):Rep H v e.pd:=by
 obtain⟨t,rfl,h2⟩:=h;exact .tup h2 (.cons (.int _) (.cons (.int _) (.cons (.int _) (.cons (.str _) .nil))))
theorem JH {e:En} (h:PyData.strOk e.tx=true):SeqAt.shaped e.pd=true:=by
 show ((true&&(true&&(true&&(PyData.strOk e.tx&&true))))&&decide (max 0 (max 0 (max 0 (max 0 0)))+1<=64))=true;rw[h];rfl
theorem aQ {e:En} (h:PyData.strOk e.tx=true):PyData.eqv e.pd e.pd=true:=SeqAt.eqv_refl _ (Qao (JH h))
theorem Ba {i:Nat} {v:V} {Z : St} {H:Hp} {Q:YO} (h:Q (Z.set i (some v)) H):HS i v Z H Q:=h
theorem Qca {α : Type} {l:List α} {i:Nat} {x:α} (h:l[i]?=some x):l.take (i+1)=l.take i++[x]:=by rw[List.take_add_one,h];rfl
theorem Ed {α β : Type} {F:α->β->Prop}:∀{l:List α} {m:List β} {i:Nat} {x:α},Paired F l m->l[i]?=some x->∃y,m[i]?=some y/\F x y
 | _,_,_,_,.nil,h=>by cases h
 | _,_,0,_,.cons a r,h=>by cases h;exact⟨_,rfl,a⟩
 | _,_,i+1,_,.cons a r,h=>Ed (i:=i) r h
inductive Kr (vs:YG) (H:Hp) (Q:VK) (E:XK):Prop
 | mk (a b:Addr) (xs ys W:List En) (_:vs=[.ref a,.ref b]) (_:BP H a xs) (_:BP H b ys) (_:WOk W) (_:(∀e∈xs,e∈W)) (_:(∀e∈ys,e∈W)) (_:xs.length+ys.length < 500) (_:∀l H' zs,H l=none->BP H' l zs->Up zs->(∀e,e∈zs ↔ e∈xs\/e∈ys)->Same H H'->Q (.ref l) H'):Kr vs H Q E
section
variable {P:Program} {w:World} {K:YD} {mg:YB} {base:Heap}
abbrev js(a:PySem.Addr):Option L2.V:=some (.ref a)
theorem Va (c:Code K mg "joined" Gf Hq) (T:Nm mg):Good P w K mg base "joined" 1 Hq Kr:=by
 refine c.good Ei (λvs H Q E h=>?_) (λf cdv A outer s H vs Q E hr h=>?_)
 ·obtain⟨a,b,xs,ys,W,rfl,_⟩:=h;rfl
 obtain⟨a,b,xs,ys,W,rfl,⟨va,ha,pa⟩,⟨vb,hb,pb⟩,w,ix,iy,few,q⟩:=h;refine⟨_,(Ae (Ax (i:=2) Ei.nd rfl (Or.inl rfl) Wv)
 (Ae (Gs Qbw rfl (Cu (Ar Jy (pv 0) (pv 1))) (Aw (i:=3) Ei.nd rfl (Or.inl rfl))
 (Ae (Ej (pv 3) (Lh rfl (Cm (Aw (i:=4) Ei.nd rfl (Or.inl rfl)) (Cm (Aw (i:=5) Ei.nd rfl (Or.inl rfl)) (Cm (Aw (i:=6) Ei.nd rfl (Or.inl rfl)) (Cm (Aw (i:=7) Ei.nd rfl (Or.inl rfl)) Ig))))))
 (Ai (BW (Bw (U6 hr.units) (QF (gJ hr) (pv 2) (Ih (Aa (pv 5) (Aa (pv 6) Ac))) (pv 3) ⟨rq,rq,rq,rq⟩) (pv 3) (Bs _)) (Ai Ws) Bp))))
 (Ai (Bc (QD rfl rfl T.sorted (pv 2)))))),?_⟩
 show let R0:TS:=_;let R1:TS:=Al _ R0;let R2:TS:=Al (Iz _ _ R1) _;Al _ R2 _ _ _;intro R0 R1 R2;intro d hd;have s1:=Ag hd (.dT []);have h1:(upd H d (.dT [])) d=some (.dT []):=Ab;generalize upd H d (.dT [])=H1 at *;refine Ba ?_;have la:va.length=xs.length:=QbG pa;have lb:vb.length=ys.length:=QbG pb;refine⟨_,rq,_,rq,a,b,va,vb,rq,rq,s1 _ _ ha,s1 _ _ hb,Bf (by omega),λc hc=>?_⟩;have s2:=Ag hc (.lst (va++vb));have h2:(upd H1 c (.lst (va++vb))) c=some (.lst (va++vb)):=Ab;have hc0:H c=none:=s1.free hc;generalize upd H1 c (.lst (va++vb))=H2 at *;have pab:Paired (Ec H) (va++vb) (xs++ys):=Ca pa pb;have ixy:∀e∈xs++ys,e∈W:=λe he=>(Qbn.mp he).elim (ix e) (iy e);have ndc:d≠c:=λz=>by rw[z,hc] at h1;cases h1
 refine⟨c,rq,⟨_,SqL.of h2⟩,?_⟩;let J0:YN:=λi (Z : St) (HH:Hp)=>∃u1 u2 u3 u4 u5,∃(kvs:YL) (ds:List En),Z=[js a,js b,js d,u1,u2,u3,u4,u5]/\HH d=some (.dT kvs)/\HH c=some (.lst (va++vb))/\Dt HH kvs ds/\ds.Nodup/\(∀e,e∈ds ↔ e∈(xs++ys).take i)/\Same H HH;refine KZ (xs:=va++vb) J0 ⟨_,_,_,_,_,[],[],rq,s2 _ _ h1,h2,.nil,.nil,λe=>by simp,s1.trans s2⟩ (λi Z HH _ h=>?_) (λi x Z HH hx h=>?_) (fun Z HH h=>?_)
 ·obtain⟨u1,u2,u3,u4,u5,kvs,ds,rfl,e1,e2,_⟩:=h;exact SqL.of e2
 ·obtain⟨u1,u2,u3,u4,u5,kvs,ds,rfl,e1,e2,e3,e4,e5,e6⟩:=h;obtain⟨e,he,hxe⟩:=Ed pab hx;have heW:e∈W:=ixy e (Qat he);have hx':Ec HH x e:=hxe.tups (Bq.of e6);refine Ba ?_;obtain⟨t,rfl,ht⟩:=id hx';have hx2:=hx';refine⟨_,rq,t,_,rq,SqT.of ht,rq,_,_,rq,_,_,rq,_,_,rq,_,_,rq,rq,?_⟩;refine⟨_,rq,d,rq,.inr ⟨kvs,.inl e1⟩,?_⟩;refine⟨_,rq,_,rq,Bf (by show 2<=1000;decide),λk hk=>?_⟩;have s3:=Ag hk (.tup [.int e.pn,.int e.nr]);have hk3:(upd HH k (.tup [.int e.pn,.int e.nr])) k=some (.tup (e.key.map kV)):=Ab;generalize upd HH k (.tup [.int e.pn,.int e.nr])=H3 at *;have ld:kvs.length=ds.length:=QbG e3;have dW:∀e∈ds,e∈W:=λf hf=>ixy f (List.mem_of_mem_take ((e5 f).mp hf));have l1:=Ik e4 dW;have l2:=w.few;have neq:∀{HX:Hp} {v:V},Ec HX v e->Ec HX (.ref t) e->∃d1 e1:PyData,Rep HX v d1/\Rep HX (.ref t) e1/\SeqAt.shaped d1=true/\SeqAt.shaped e1=true/\(!PyData.eqv d1 e1)=false:=λz1 z2=>⟨_,_,VB z1,VB z2,JH (w.tx e heW),JH (w.tx e heW),by rw[aQ (w.tx e heW)];rfl⟩;refine⟨_,rq,kvs,e.key,k,s3 _ _ e1,rq,hk3,Am (by omega),λj v hj=>?_,λhno=>?_⟩
  ·obtain⟨f,hf,ek,hv⟩:=e3.at hj;obtain⟨z1,z2⟩:=aJ ek;have efe:f=e:=(w.inj e heW f (dW f hf) z1 z2).symm;subst efe;obtain⟨d1,d2,r1,r2,r3,r4,r5⟩:=neq (hv.tups (Bq.of s3)) (hx'.tups (Bq.of s3));refine⟨_,rq,d1,d2,r1,r2,r3,r4,_,rq,?_⟩;rw[r5];refine Bo ⟨_,_,_,_,_,kvs,ds,rq,s3 _ _ e1,s3 _ _ e2,e3.tups (Bq.of s3),e4,λg=>?_,e6.trans s3⟩;rw[Qca he,Qbn,QaF,<-e5 g];exact⟨.inl,λz=>z.elim id λz=>by rw[z];exact hf⟩
  ·have ndk:∀xs,H3 d≠some (.tup xs):=λxs z=>by rw[s3 _ _ e1] at z;cases z
   have s4:Bq H3 (upd H3 d (.dT (kvs++[(e.key,.ref t)]))):=Bq.upd ndk;have h4:(upd H3 d (.dT (kvs++[(e.key,.ref t)]))) d=some (.dT (kvs++[(e.key,.ref t)])):=Ab;have h5:(upd H3 d (.dT (kvs++[(e.key,.ref t)]))) c=some (.lst (va++vb)):=by rw[Aj ndc.symm];exact s3 _ _ e2
   have s6:Same H (upd H3 d (.dT (kvs++[(e.key,.ref t)]))):=(e6.trans s3).Br Ah.upd hd;generalize upd H3 d (.dT (kvs++[(e.key,.ref t)]))=H4 at *;have hx4:=hx'.tups ((Bq.of s3).trans s4);obtain⟨d1,d2,r1,r2,r3,r4,r5⟩:=neq hx4 hx4;refine⟨_,rq,d1,d2,r1,r2,r3,r4,_,rq,?_⟩;rw[r5];have nde:e∉ds:=λz=>e3.no hno e z rfl;refine Bo ⟨_,_,_,_,_,kvs++[(e.key,.ref t)],ds++[e],rq,h4,h5,Ca (e3.tups ((Bq.of s3).trans s4)) (.cons ⟨rq,hx4⟩ .nil),?_,λg=>?_,s6⟩
   ·exact List.nodup_append.mpr ⟨e4,by simp,λx hx y hy z=>by rw[QaF.mp hy] at z;exact nde (z ▸ hx)⟩
   ·rw[Qca he,Qbn,Qbn,e5 g]
 ·obtain⟨u1,u2,u3,u4,u5,kvs,ds,rfl,e1,e2,e3,e4,e5,e6⟩:=h;have lxy:(va++vb).length=(xs++ys).length:=QbG pab;rw[lxy,Qbb] at e5;have dW:∀e∈ds,e∈W:=λf hf=>ixy f ((e5 f).mp hf);have l1:=Ik e4 dW;have l2:=w.few;have ld:kvs.length=ds.length:=QbG e3;refine⟨_,rq,d,kvs,ds.map En.cd,rq,e1,by omega,Zr w e3.vals dW,VJ w e4 dW,λis l hp hr' hl=>?_⟩;rw[ld] at hp;have s7:=Ag hl (.lst (is.map λi=>(kvs.map (·.2)).getD i .non));refine q l _ (is.map λi=>ds.getD i en0) (e6.free hl) ⟨_,Ab,Ens.tups (Bq.of s7) (ZV hp e3.vals)⟩ (ZS hp hr') (λe=>?_) (e6.trans s7);rw[Wt en0 hp,e5,Qbn]
end
abbrev Eo:Stmt:=top 18
abbrev Fz:YF:=["thing"]
theorem Qz:Az ["thing"] Fz (Ad Eo):=by ac_rfl
abbrev DX:Stmt:=top 19
abbrev DY:YF:=["thing","low","high"]
theorem Oh:Az ["thing","low","high"] DY (Ad DX):=by ac_rfl
abbrev Fp:Stmt:=top 20
abbrev Gx:YF:=["thing","least","most"]
theorem RX:Az ["thing","least","most"] Gx (Ad Fp):=by ac_rfl
abbrev Fo:Stmt:=top 28
abbrev Gw:YF:=["_law_thing"]
theorem RW:Az ["_law_thing"] Gw (Ad Fo):=by ac_rfl
def SG:Str:=" !\"#$&'()*+,-./0123456789:;<=>?@ABCDEFGHIJKLMNOPQRSTUVWXYZ[\\]^_`abcdefghijklmnopqrstuvwxyz{|}~"
theorem Y6:∀c∈SG.cps.toList,c < 128:=by
 have h:SG.cps.toList.all (λc=>decide (c < 128))=true:=by trivial
 exact λc hc=>QaX (List.all_eq_true.mp h c hc)
def sgB (c:Nat):Bool:=!(Builtin.Str.occurrences SG ⟨#[c]⟩ 0 SG.length 1).isEmpty
theorem fu:∀c∈SG.cps.toList,sgB c=true:=by
 have h:SG.cps.toList.all (λc=>!(Builtin.Str.occurrences SG ⟨#[c]⟩ 0 SG.length 1).isEmpty)=true:=by trivial
 exact λc hc=>List.all_eq_true.mp h c hc
structure Tj (mg:YB):Prop extends Nm mg where
 SIGNS:∃u,mg "SIGNS"=some u/\RelV (.str SG) u
 MOST_SIGNS:∃u,mg "MOST_SIGNS"=some u/\RelV (.int 20) u
structure K3 (z:Str):Prop where
 l1:1<=z.cps.size
 l2:z.cps.size<=20
 sg:∀c∈z.cps.toList,c∈SG.cps.toList
theorem K3.str {z:Str} (h:K3 z):PyData.strOk z=true:=by
 unfold PyData.strOk;rw[Array.all_eq_true'];exact λc hc=>QbC (by have:=Y6 c (h.sg c (Array.mem_toList_iff.mpr hc));omega)
def isS:V->Bool
 | .str _=>true
 | _=>false
theorem Yp {K:YD} {H:Hp} {x:V} {Q:VK} (k:Kn H x) (q:Q (.bl (isS x)) H):Hh K [x,.ty "str"] H Q:=by
 unfold Hh;cases x with
 | non=>exact⟨_,_,_,_,rfl,.non,by rfl,q⟩
 | bl b=>exact⟨_,_,_,_,rfl,.bl b,by rfl,q⟩
 | int i=>exact⟨_,_,_,_,rfl,.int i,by rfl,q⟩
 | str z=>exact⟨_,_,_,_,rfl,.str z,by rfl,q⟩
 | ref a=>
  rcases k with⟨xs,e⟩|⟨xs,e⟩
  ·exact⟨_,_,_,_,rq,.lst e,by rfl,q⟩
  ·exact⟨_,_,_,_,rq,.tup e,by rfl,q⟩
 | _=>exact k.elim
theorem Rj {K:YD} {H:Hp} {a:Addr} {xs:YG} {Q:VK} (h:H a=some (.lst xs)) (q:Q (.bl true) H):Hh K [.ref a,.ty "list"] H Q:=by
 unfold Hh;exact⟨_,_,_,_,rq,.lst h,by rfl,q⟩
def wiB (v:V) (lo hi:Int):Bool:=match v with
 | .int x=>decide (lo<=x)&&decide (x<=hi)
 | _=>false
theorem aL {v:V} (h:isW v=true):∃i,v=.int i:=by
 cases v with
 | int i=>exact⟨i,rfl⟩
 | _=>cases h
inductive N7 (vs:YG) (H:Hp) (Q:VK) (E:XK):Prop
 | mk (v) (_:vs=[v]) (_:Kn H v) (_:Q (.bl (isW v)) H):N7 vs H Q E
inductive IV (vs:YG) (H:Hp) (Q:VK) (E:XK):Prop
 | mk (v lo hi) (_:vs=[v,.int lo,.int hi]) (_:Kn H v) (_:Q (.bl (wiB v lo hi)) H):IV vs H Q E
def lnB (v:V):Bool:=match v with
 | .str z=>decide (1<=z.cps.size)&&decide (z.cps.size<=20)&&z.cps.toList.all sgB
 | _=>false
theorem K3.ln {z:Str} (h:K3 z):lnB (.str z)=true:=by
 show (decide (1<=z.cps.size)&&decide (z.cps.size<=20)&&z.cps.toList.all sgB)=true;rw[QbC h.l1,QbC h.l2,Bool.true_and,Bool.true_and];exact List.all_eq_true.mpr λc hc=>fu c (h.sg c hc)
inductive Ks (vs:YG) (H:Hp) (Q:VK) (E:XK):Prop
 | mk (v) (_:vs=[v,.int 1,.int 20]) (_:Kn H v) (_:(∀z,v=.str z->z.cps.size<=1000)) (_:∀H',Same H H'->Q (.bl (lnB v)) H'):Ks vs H Q E
section
variable {P:Program} {w:World} {K:YD} {mg:YB} {base:Heap}
theorem QG (c:Code K mg "is_whole" Eo Fz) (T:Nm mg):Good P w K mg base "is_whole" 1 Fz N7:=by
 refine c.good Qz (λvs H Q E h=>?_) (λf cdv A outer s H vs Q E hr h=>?_)
 ·obtain⟨v,rfl,_⟩:=h;rfl
 obtain⟨v,rfl,k,q⟩:=h;refine⟨_,(Ai (Bc (Jw (Ak Fi rfl T.isinstance Ao (Aa (pv 0) (Aa (Fq (v:=.ty "int") rfl T.int Qn rfl) Ac))) (Li (U0 (Ak Fi rfl T.isinstance Ao (Aa (pv 0) (Aa (Fq (v:=.ty "bool") rfl T.bool Rx rfl) Ac)))))))),?_⟩;refine⟨_,rq,Rk k ⟨_,rq,?_⟩⟩;rw[Vn] at q;cases e:isI v with
 | false=>rw[e] at q;exact Bo q
 | true=>rw[e] at q;exact Bm ⟨_,rfl,Px e ⟨_,rfl,q⟩⟩
theorem O1 (c:Code K mg "is_within" DX DY) (T:Nm mg) (TV:Good P w K mg base "is_whole" 1 Fz N7):Good P w K mg base "is_within" 2 DY IV:=by
 refine c.good Oh (λvs H Q E h=>?_) (λf cdv A outer s H vs Q E hr h=>?_)
 ·obtain⟨x,lo,hi,rfl,_⟩:=h;rfl
 obtain⟨v,lo,hi,rfl,k,q⟩:=h;refine⟨_,(Ai (Bc (Jw (Ov TV hr (Aa (pv 0) Ac)) (Li (Wx Nv Nv (pv 1) (pv 0) (pv 2)))))),?_⟩;refine⟨_,rq,v,rq,k,_,rq,?_⟩;cases e:isW v with
 | false=>
  refine Bo ?_;have:wiB v lo hi=false:=by
   cases v with
   | int i=>cases e
   | _=>rfl
  rw[this] at q;exact q
 | true=>
  obtain⟨x,rfl⟩:=aL e;refine Bm ⟨_,rq,_,rq,_,_,rq,rq,_,rq,?_⟩;by_cases h1:lo<=x
  ·rw[QbC h1];refine Bm ⟨_,rq,_,_,rq,rq,?_⟩;have:wiB (.int x) lo hi=decide (x<=hi):=by show (decide (lo<=x)&&decide (x<=hi))=_;rw[QbC h1,Bool.true_and]
   rw[this] at q;exact q
  ·rw[Qbm h1];refine Bo ?_;have:wiB (.int x) lo hi=false:=by show (decide (lo<=x)&&decide (x<=hi))=_;rw[Qbm h1,Bool.false_and]
   rw[this] at q;exact q
theorem Sw (C:Code K mg "is_line" Fp Gx) (T:Tj mg):Good P w K mg base "is_line" 1 Gx Ks:=by
 refine C.good RX (λvs H Q E h=>?_) (λf cdv A outer s H vs Q E hr h=>?_)
 ·obtain⟨v,rfl,_⟩:=h;rfl
 obtain⟨v,rfl,k,hz,q⟩:=h;refine⟨_,(Ae (BW (PW.pt (JX (CZ (CW (Ak Fi rfl T.isinstance Ao (Aa (pv 0) (Aa (Fq (v:=.ty "str") rfl T.str V1 rfl) Ac))))) (Ie (CZ (Wr Nv Nv (pv 1) (Ak Ql rfl T.len GD (Aa (pv 0) Ac)) (pv 2)))))) (Ai (Bc Dc)) Bp)
 (Ai (Bc (Ak (Hu rfl) rfl T.all JM (Aa (CV (N':=["sign"]) rfl (Bj.plain rfl (by trivial) (by trivial) (by trivial)) (bZ (pv 0)) (λ_ _ _ _=>(Aw (i:=0) (show List.Nodup (["sign"]:YF) by trivial) rfl (Or.inl rfl))) (λ_ _ _ _=>Et) (λ_ _ _ _=>(Dp U7 (pv 0) (U3 rfl T.SIGNS) (by with_unfolding_all rfl)))) Ac))))),?_⟩
 show let R0:TS:=_;Al _ R0 _ _ _;intro R0;refine⟨_,rq,Yp k ⟨_,rq,?_⟩⟩;cases v with
 | str z=>
  have hl:=hz z rfl;refine Bo ⟨_,rq,_,rq,z,rq,Bf (by show z.cps.size<=1000;omega),_,_,rq,rq,_,rq,?_⟩;by_cases h1:1<=z.cps.size
  ·have d1:decide ((1:Int)<=(z.length:Int))=true:=QbC (by show (1:Int)<=(z.cps.size:Int);omega);rw[d1];refine Bm ⟨_,rq,_,_,rq,rq,_,rq,?_⟩;by_cases h2:z.cps.size<=20
   ·have d2:decide ((z.length:Int)<=20)=true:=QbC (by show (z.cps.size:Int)<=20;omega);rw[d2];refine Bo ⟨_,rq,z,rq,λl hl'=>?_⟩;let J0:YN:=λi Z HH=>∃u,Z=[u]/\HH l=some (.lst (((z.cps.toList.take i).map sgB).map V.bl))/\Same H HH;refine YW J0 ⟨_,rq,Ab,Ag hl' _⟩ (λi c Z HH hc h=>?_) (fun Z HH h=>?_)
    ·obtain⟨u,rfl,e1,e2⟩:=h;have hi:i < z.cps.size:=(Qad.mp hc).1;have hc':z.cps.toList[i]?=some c:=by rw[Array.getElem?_toList];exact hc
     unfold HS;dsimp only;refine Bm ⟨_,rq,_,_,rq,rq,_,e1,Am (by rw[Qbl,Qbl,Qbk];omega),_,rq,?_,e2.Br Ah.upd hl'⟩;rw[Ab,Qca hc',Qbo,Qbo];rfl
    ·obtain⟨u,rfl,e1,e2⟩:=h;refine⟨l,_,rq,SqL.of e1,?_⟩;have:=q _ e2;have e3:lnB (.str z)=z.cps.toList.all sgB:=by show (decide (1<=z.cps.size)&&decide (z.cps.size<=20)&&_)=_;rw[QbC h1,QbC h2,Bool.true_and,Bool.true_and]
     rw[e3] at this;rw[<-Array.length_toList,Qbb,List.all_map];exact this
   ·have d2:decide ((z.length:Int)<=20)=false:=Qbm (by show ¬(z.cps.size:Int)<=20;omega);rw[d2];have:=q _ (Same.refl H);have e3:lnB (.str z)=false:=by show (decide (1<=z.cps.size)&&decide (z.cps.size<=20)&&_)=_;rw[Qbm h2,Bool.and_false,Bool.false_and]
    rw[e3] at this;exact Bm this
  ·have d1:decide ((1:Int)<=(z.length:Int))=false:=Qbm (by show ¬(1:Int)<=(z.cps.size:Int);omega);rw[d1];have:=q _ (Same.refl H);have e3:lnB (.str z)=false:=by show (decide (1<=z.cps.size)&&decide (z.cps.size<=20)&&_)=_;rw[Qbm h1,Bool.false_and,Bool.false_and]
   rw[e3] at this;exact Bo ⟨_,rq,Bm this⟩
 | _=>exact Bm (q _ (Same.refl H))
theorem WD (c:Code K mg "_law_whole" Fo Gw) (T:Nm mg):Good P w K mg base "_law_whole" 1 Gw N7:=by
 refine c.good RW (λvs H Q E h=>?_) (λf cdv A outer s H vs Q E hr h=>?_)
 ·obtain⟨v,rfl,_⟩:=h;rfl
 obtain⟨v,rfl,k,q⟩:=h;refine⟨_,(Ai (Bc (Jw (Ak Fi rfl T.isinstance Ao (Aa (pv 0) (Aa (Fq (v:=.ty "int") rfl T.int Qn rfl) Ac))) (Li (U0 (Ak Fi rfl T.isinstance Ao (Aa (pv 0) (Aa (Fq (v:=.ty "bool") rfl T.bool Rx rfl) Ac)))))))),?_⟩;refine⟨_,rq,Rk k ⟨_,rq,?_⟩⟩;rw[Vn] at q;cases e:isI v with
 | false=>rw[e] at q;exact Bo q
 | true=>rw[e] at q;exact Bm ⟨_,rfl,Px e ⟨_,rfl,q⟩⟩
end
abbrev BL:Stmt:=(inClass (top 24) 0)
abbrev Cj:YF:=["self","many"]
theorem Ky:Az ["self","many"] Cj (Ad BL):=by ac_rfl
abbrev Bt:Stmt:=(inClass (top 24) 1)
abbrev BK:YF:=["self","panel"]
theorem Jo:Az ["self","panel"] BK (Ad Bt):=by ac_rfl
abbrev Dz:Stmt:=(inClass (top 24) 2)
abbrev DK:YF:=["self","link","whole"]
theorem QB:Az ["self","link","whole"] DK (Ad Dz):=by ac_rfl
abbrev DG:Stmt:=(inClass (top 24) 3)
abbrev DN:YF:=["self","link"]
theorem QC:Az DN DN (Ad DG):=by ac_rfl
abbrev Dj:Stmt:=(inClass (top 24) 4)
abbrev Dm:YF:=DN
theorem Oi:Az DN Dm (Ad Dj):=by ac_rfl
structure Tx (K:YD) (mg:YB) (C:Addr):Prop extends Tj mg where
 cl:Cls K C
 mgC:mg "Ring"=some (.ref C)
 Il:FZ K C "many"
 Gy:FZ K C "logs"
 Ln:FZ K C "tied"
def fr (n:Int) (L T:Addr):List (Str×V):=[("many",.int n),("logs",.ref L),("tied",.ref T)]
theorem NK (n:Int) (L T:Addr):((fr n L T).map (·.1)).Nodup:=by show (["many","logs","tied"]:YF).Nodup;decide +kernel
theorem Jf (n:Int) (L T:Addr):List.lookup ("many":Str) (fr n L T)=some (V.int n):=LK (i:=0) (NK n L T) rfl
theorem Ht (n:Int) (L T:Addr):List.lookup ("logs":Str) (fr n L T)=some (V.ref L):=LK (i:=1) (NK n L T) rfl
theorem Py (n:Int) (L T:Addr):List.lookup ("tied":Str) (fr n L T)=some (V.ref T):=LK (i:=2) (NK n L T) rfl
theorem Dh {n:Int} {L T:Addr} {f:Str} (h:f∉(["many","logs","tied"]:YF)):List.lookup f (fr n L T)=none:=Zy h
structure RAt (C:Addr) (H:Hp) (p L T:Addr) (as:List Addr) (n:Nat) (logs:List (List En)) (tied:List Bool):Prop where
 ob:∃dx,H p=some (.ins C dx (fr n L T))
 hl:H L=some (.lst (as.map V.ref))
 lg:Paired (BP H) as logs
 ht:H T=some (.lst (tied.map V.bl))
 ln:logs.length=n
 tn:tied.length=n
 LT:L≠T
 n2:2<=n
 n4:n<=4
theorem Logs.same {H H':Hp} (s:Same H H') {as:List Addr} {gs:List (List En)} (h:Paired (BP H) as gs):Paired (BP H') as gs:=Paired.Ia h λ_ _ z=>z.same s
theorem BP.Bv {H H':Hp} {x a:Addr} {es:List En} (h:BP H a es) (s:Ah x H H') (t:∀xs,H x≠some (.tup xs)) (ne:a≠x):BP H' a es:=let ⟨vs,h1,h2⟩:=h;⟨vs,s _ _ h1 ne,Ens.tups (s.tup t) h2⟩
theorem Logs.Bv {H H':Hp} {x:Addr} (s:Ah x H H') (t:∀xs,H x≠some (.tup xs)):∀{as:List Addr} {gs:List (List En)},Paired (BP H) as gs->x∉as->Paired (BP H') as gs
 | _,_,.nil,_=>.nil
 | _,_,.cons a r,h=>.cons (a.Bv s t λz=>h (by rw[z];exact .head _)) (Logs.Bv s t r λz=>h (.tail _ z))
theorem RAt.same {C:Addr} {H H':Hp} {p L T:Addr} {as:List Addr} {n:Nat} {logs:List (List En)} {tied:List Bool} (h:RAt C H p L T as n logs tied) (s:Same H H'):RAt C H' p L T as n logs tied:=
 ⟨let ⟨dx,e⟩:=h.ob;⟨dx,s _ _ e⟩,s _ _ h.hl,Logs.same s h.lg,s _ _ h.ht,h.ln,h.tn,h.LT,h.n2,h.n4⟩
theorem RAt.Bv {C:Addr} {H H':Hp} {x p L T:Addr} {as:List Addr} {n:Nat} {logs:List (List En)} {tied:List Bool} (h:RAt C H p L T as n logs tied) (s:Ah x H H') (t:∀xs,H x≠some (.tup xs)) (np:p≠x) (nL:L≠x) (nT:T≠x) (na:x∉as):RAt C H' p L T as n logs tied:=
 ⟨let ⟨dx,e⟩:=h.ob;⟨dx,s _ _ e np⟩,s _ _ h.hl nL,Logs.Bv s t h.lg na,s _ _ h.ht nT,h.ln,h.tn,h.LT,h.n2,h.n4⟩
theorem Gz {H:Hp}:∀{as:List Addr} {gs:List (List En)} {a:Addr},Paired (BP H) as gs->a∈as->∃g,BP H a g
 | _,_,_,.nil,h=>by cases h
 | _,_,_,.cons x r,h=>by
  rcases QbF.mp h with rfl | h
  ·exact⟨_,x⟩
  ·exact Gz r h
theorem RAt.np {C:Addr} {H:Hp} {p L T:Addr} {as:List Addr} {n:Nat} {logs:List (List En)} {tied:List Bool} (h:RAt C H p L T as n logs tied):p≠L/\p≠T/\p∉as:=by
 obtain⟨dx,e⟩:=h.ob;refine⟨λz=>?_,λz=>?_,λz=>?_⟩
 ·rw[z,h.hl] at e;cases e
 ·rw[z,h.ht] at e;cases e
 ·obtain⟨g,vs,e1,_⟩:=Gz h.lg z;rw[e] at e1;cases e1
theorem RAt.pt {C:Addr} {H:Hp} {p L T:Addr} {as:List Addr} {n:Nat} {logs:List (List En)} {tied:List Bool} (h:RAt C H p L T as n logs tied):∀xs,H p≠some (.tup xs):=λxs z=>by
 obtain⟨dx,e⟩:=h.ob;rw[e] at z;cases z
theorem RAt.al {C:Addr} {H:Hp} {p L T:Addr} {as:List Addr} {n:Nat} {logs:List (List En)} {tied:List Bool} (h:RAt C H p L T as n logs tied):as.length=n:=(QbG h.lg).trans h.ln
theorem RAt.bag {C:Addr} {H:Hp} {p L T:Addr} {as:List Addr} {n m:Nat} {logs:List (List En)} {tied:List Bool} {b:Addr} (h:RAt C H p L T as n logs tied) (hb:BR H b m):p≠b/\L≠b/\T≠b/\b∉as:=by
 obtain⟨x,y,z,e,_⟩:=hb;have hn:=h.n2;have ha:=h.al;have ht:=h.tn;refine⟨λw=>?_,λw=>?_,λw=>?_,λw=>?_⟩
 ·obtain⟨dx,e1⟩:=h.ob;rw[w,e] at e1;cases e1
 ·have e1:=h.hl;rw[w,e] at e1
  match as,ha with
  | a::r,_=>cases e1
  | [],ha=>rw[<-ha] at hn;cases hn
 ·have e1:=h.ht;rw[w,e] at e1
  match tied,ht with
  | a::r,_=>cases e1
  | [],ha=>rw[<-ha] at hn;cases hn
 ·obtain⟨g,vs,e1,r⟩:=Gz h.lg w;rw[e] at e1;cases e1;cases r with
  | cons q _=>obtain⟨t,e2,_⟩:=q;cases e2
inductive Ob (C:Addr) (vs:YG) (H:Hp) (Q:VK) (E:XK):Prop
 | mk (p dx:Addr) (n:Nat) (_:vs=[.ref p,.int n]) (_:H p=some (.ins C dx [])) (_:2<=n) (_:n<=4) (_:∀L T as H',H L=none->H T=none->(∀a∈as,H a=none)->RAt C H' p L T as n (List.replicate n []) (List.replicate n true)->Ah p H H'->Q .non H'):Ob C vs H Q E
inductive Kv (C c8:Addr) (vs:YG) (H:Hp) (Q:VK) (E:XK):Prop
 | mk (p L T:Addr) (as:List Addr) (n:Nat) (v:V) (logs:List (List En)) (tied:List Bool) (_:vs=[.ref p,v]) (_:RAt C H p L T as n logs tied) (_:Kn H v) (_:(wiB v 0 ((n:Int) - 1)=true->Q .non H)) (_:(wiB v 0 ((n:Int) - 1)=false->E (.ref c8) none H)):Kv C c8 vs H Q E
inductive Lb (C c9:Addr) (vs:YG) (H:Hp) (Q:VK) (E:XK):Prop
 | mk (p L T:Addr) (as:List Addr) (n:Nat) (v:V) (b:Bool) (logs:List (List En)) (tied:List Bool) (_:vs=[.ref p,v,.bl b]) (_:RAt C H p L T as n logs tied) (_:Kn H v) (_:(∀(q:Nat) H',v=.int q->q < n->RAt C H' p L T as n logs (tied.set q b)->Ah T H H'->Q .non H')) (_:(wiB v 0 ((n:Int) - 1)=false->E (.ref c9) none H)):Lb C c9 vs H Q E
inductive Hf (C c9:Addr) (b:Bool) (vs:YG) (H:Hp) (Q:VK) (E:XK):Prop
 | mk (p L T:Addr) (as:List Addr) (n:Nat) (v:V) (logs:List (List En)) (tied:List Bool) (_:vs=[.ref p,v]) (_:RAt C H p L T as n logs tied) (_:Kn H v) (_:(∀(q:Nat) H',v=.int q->q < n->RAt C H' p L T as n logs (tied.set q b)->Ah T H H'->Q .non H')) (_:(wiB v 0 ((n:Int) - 1)=false->E (.ref c9) none H)):Hf C c9 b vs H Q E
theorem fJ {v:V} {n:Nat} (h:wiB v 0 ((n:Int) - 1)=true):∃q:Nat,v=.int q/\q < n:=by
 cases v with
 | int x=>
  have h:(decide ((0:Int)<=x)&&decide (x<=(n:Int) - 1))=true:=h;rw[Qba,QaK,QaK] at h;exact⟨x.toNat,by rw[Int.toNat_of_nonneg h.1],by omega⟩
 | _=>cases h
theorem Nq {q n:Nat} (h:q < n):wiB (.int q) 0 ((n:Int) - 1)=true:=by
 show (decide ((0:Int)<=(q:Int))&&decide ((q:Int)<=(n:Int) - 1))=true;rw[QbC (by omega),QbC (by omega)];rfl
theorem Gu {α β : Type} {F:α->β->Prop}:∀{l:List α} {m:List β} {i:Nat} {y:β},Paired F l m->m[i]?=some y->∃x,l[i]?=some x/\F x y
 | _,_,_,_,.nil,h=>by cases h
 | _,_,0,_,.cons a r,h=>by cases h;exact⟨_,rfl,a⟩
 | _,_,i+1,_,.cons a r,h=>Gu (i:=i) r h
theorem ixn {n q:Nat} (h:q < n):ixN n (q:Int)=some q:=by
 unfold ixN;rw[if_pos (by omega),if_pos (by omega)];rfl
section
variable {P:Program} {w:World} {K:YD} {mg:YB} {base:Heap} {C hc c0 c1 c2 c3 c4 c5 c6 c7 c8 c9 c10 c11 c12:Addr}
theorem Z9 (F:∃f fd,Fun K "__init__" "Ring.__init__" BL f fd/\Mk K C f/\Binds K fd Cj []) (T:Tx K mg C):Ud P w K mg base C 1 Cj (Ob C):=by
 obtain⟨f,fd,F,Mk,b⟩:=F;refine⟨f,fd,Mk,b,F.ok Ky (λvs H Q E h=>?_) (λcdv A outer s H vs Q E hr h=>?_)⟩
 ·obtain⟨p,dx,n,rfl,_⟩:=h;rfl
 obtain⟨p,dx,n,rfl,hp,n2,n4,q⟩:=h;refine⟨_,(Ae (JZ (pv 0) (pv 1) rfl)
 (Ae (JZ (pv 0) (CV (N':=["panel"]) rfl (Bj.plain rfl (by trivial) (by trivial) (by trivial)) (Dv rfl T.range (Aa (pv 1) Ac)) (λ_ _ _ _=>(Aw (i:=0) (show List.Nodup (["panel"]:YF) by trivial) rfl (Or.inl rfl))) (λ_ _ _ _=>Et) (λ_ _ _ _=>(Cw Ac))) rfl)
 (Ai (JZ (pv 0) (CV (N':=["link"]) rfl (Bj.plain rfl (by trivial) (by trivial) (by trivial)) (Dv rfl T.range (Aa (pv 1) Ac)) (λ_ _ _ _=>(Aw (i:=0) (show List.Nodup (["link"]:YF) by trivial) rfl (Or.inl rfl))) (λ_ _ _ _=>Et) (λ_ _ _ _=>Dc)) rfl)))),?_⟩
 show let R0:TS:=_;let R1:TS:=Al _ R0;Al _ R1 _ _ _;intro R0 R1;refine⟨_,rq,_,rq,p,C,dx,_,_,rq,hp,T.cl,T.Il,(by show 0 < 1000;decide),LC (by show _∉([]:YF);decide +kernel),λH1 h1 s1=>?_⟩;refine⟨_,rq,_,rq,by omega,by omega,λL hL=>?_⟩;have fL:H L=none:=s1.free ⟨_,h1⟩ hL;let J0:YN:=λ(i:Nat) (Z : St) (HH:Hp)=>∃(u:Option V) (as:List Addr),Z=[u]/\HH L=some (.lst (as.map V.ref))/\Paired (BP HH) as (List.replicate i [])/\(∀a∈as,H1 a=none)/\L∉as/\Same H1 HH;refine G4 J0 ⟨_,[],rq,Ab,.nil,(λa ha=>by cases ha),(λz=>by cases z),Ag hL _⟩ (λi Z HH hi h=>?_) (fun Z HH h=>?_)
 ·obtain⟨u,as,rfl,e1,e2,e3,e4,e5⟩:=h;refine Ba (Bm ⟨Bf (by show 0<=1000;decide),λa ha=>?_⟩);have al:=QbG e2;rw[Qaq] at al;have s6:=Ag ha (.lst []);have nLa:L≠a:=Aq e1 ha;have e6:(upd HH a (.lst [])) a=some (.lst []):=Ab;have e1':=s6 _ _ e1;have e2':=Logs.same s6 e2;have ea:H1 a=none:=e5.free ha;have e5':=e5.trans s6;generalize upd HH a (.lst [])=H6 at *;have tL:∀xs,H6 L≠some (.tup xs):=λxs z=>by rw[e1'] at z;cases z
  refine⟨_,e1',Am (by rw[Qbl];omega),_,as++[a],rq,by rw[Ab,Qbo];rfl,?_,?_,?_,e5'.Br Ah.upd hL⟩
  ·rw[Qay];exact Ca (Logs.Bv Ah.upd tL e2' e4) (.cons (BP.Bv ⟨[],e6,.nil⟩ Ah.upd tL nLa.symm) .nil)
  ·intro z hz;rcases Qbn.mp hz with hz | hz
   ·exact e3 z hz
   ·rw[QaF.mp hz];exact ea
  ·intro z;rcases Qbn.mp z with z | z
   ·exact e4 z
   ·exact nLa (QaF.mp z)
 obtain⟨u,as,rfl,e1,e2,e3,e4,e5⟩:=h;rw[QaU] at e2;have hp2:=e5 _ _ h1;refine⟨_,rq,p,C,dx,_,_,rq,hp2,T.cl,T.Gy,(by show 1 < 1000;decide),LC (by show _∉(["many"]:YF);decide +kernel),λH3 h3 s3=>?_⟩;refine⟨_,rq,_,rq,by omega,by omega,λTT hT=>?_⟩;have hL3:H3 L=some (.lst (as.map V.ref)):=s3 _ _ e1 (λz=>by rw[<-z,e1] at hp2;cases hp2);have pt:∀xs,HH p≠some (.tup xs):=λxs z=>by rw[hp2] at z;cases z
 have npa:p∉as:=λz=>by have:=e3 p z;rw[h1] at this;cases this
 have lg3:=Logs.Bv s3 pt e2 npa;have ft:∀x,H3 x=none->H x=none:=λx hx=>s1.free ⟨_,h1⟩ (e5.free (s3.free ⟨_,h3⟩ hx));have fT:=ft TT hT;let J1:YN:=λ(i:Nat) (Z : St) (HX:Hp)=>∃(u:Option V),Z=[u]/\HX TT=some (.lst ((List.replicate i true).map V.bl))/\Same H3 HX;refine G4 J1 ⟨_,rq,Ab,Ag hT _⟩ (λi Z HX hi h=>?_) (fun Z HX h=>?_)
 ·obtain⟨u,rfl,g1,g2⟩:=h;refine Ba (Bm ⟨_,g1,Am (by simp;omega),_,rq,?_,g2.Br Ah.upd hT⟩);rw[Ab,Qay,Qbo];rfl
 obtain⟨u,rfl,g1,g2⟩:=h;rw[QaU] at g1;have h3X:=g2 _ _ h3;refine⟨_,rq,p,C,dx,_,_,rq,h3X,T.cl,T.Ln,(by show 2 < 1000;decide),LC (by show _∉(["many","logs"]:YF);decide +kernel),λH4 h4 s4=>?_⟩;have hLX:=g2 _ _ hL3;have npL:L≠p:=λz=>by rw[<-z,hL3] at h3;cases h3
 have npT:TT≠p:=λz=>by rw[z,h3X] at g1;cases g1
 have nLT:L≠TT:=λz=>by rw[z] at hL3;rw[hL3] at hT;cases hT
 have ptX:∀xs,HX p≠some (.tup xs):=λxs z=>by rw[h3X] at z;cases z
 refine q L TT as H4 fL fT (λa ha=>s1.free ⟨_,h1⟩ (e3 a ha)) ⟨⟨dx,h4⟩,s4 _ _ hLX npL,Logs.Bv s4 ptX (Logs.same g2 lg3) npa,s4 _ _ g1 npT,Qaq,Qaq,nLT,n2,n4⟩ ?_;exact ((s1.trans (Ah.of e5)).trans (s3.trans (Ah.of g2))).trans s4
theorem WM (c:Ck K C "check_panel" "Ring.check_panel" Bt BK) (T:Tx K mg C) (XE:Er K mg hc c0 c1 c2 c3 c4 c5 c6 c7 c8 c9 c10 c11 c12) (JF:Knd K hc c8 [c0,c1,c2,c3,c4,c5,c6,c7,c8,c9,c10,c11,c12] 8) (Ib:Good P w K mg base "is_within" 2 DY IV):CN P w K mg base C "check_panel" 3 BK (Kv C c8):=by
 refine c.Ly Jo (λvs H Q E h=>?_) (λX f cdv A outer s H vs Q E eX hx hr h=>?_)
 ·obtain⟨p,L,T,as,n,v,logs,tied,rfl,_⟩:=h;rfl
 subst eX;obtain⟨p,L,TT,as,n,v,logs,tied,rfl,R,kn,q1,q2⟩:=h;refine⟨_,(Ai (BW (CZ (CW (Jx Ib hr (Aa (pv 1) (Aa Af (Aa (Ar U5 (Ek (pv 0) rfl) Af) Ac)))))) (Ai (Kz rfl JF.xc rfl XE.O8 hx (Aa BJ Ac))) Bp)),?_⟩;obtain⟨dx,ob⟩:=R.ob;refine⟨_,rq,_,rq,p,C,dx,_,_,rq,ob,T.cl,T.Il,Jf _ _ _,_,_,rq,rq,v,0,(n:Int) - 1,rq,kn,_,rq,?_⟩;cases e:wiB v 0 ((n:Int) - 1) with
 | true=>exact Bo (q1 e)
 | false=>exact Bm ⟨Bf (by show 1<=1000;decide),q2 e⟩
theorem cB (c:Ck K C "tie" "Ring.tie" Dz DK) (T:Tx K mg C) (XE:Er K mg hc c0 c1 c2 c3 c4 c5 c6 c7 c8 c9 c10 c11 c12) (CG:Knd K hc c9 [c0,c1,c2,c3,c4,c5,c6,c7,c8,c9,c10,c11,c12] 9) (Ib:Good P w K mg base "is_within" 2 DY IV):CN P w K mg base C "tie" 3 DK (Lb C c9):=by
 refine c.Ly QB (λvs H Q E h=>?_) (λX f cdv A outer s H vs Q E eX hx hr h=>?_)
 ·obtain⟨p,L,T,as,n,v,b,logs,tied,rfl,_⟩:=h;rfl
 subst eX;obtain⟨p,L,TT,as,n,v,b,logs,tied,rfl,R,kn,q1,q2⟩:=h;refine⟨_,(Ae (BW (CZ (CW (Jx Ib hr (Aa (pv 1) (Aa Af (Aa (Ar U5 (Ek (pv 0) rfl) Af) Ac)))))) (Ai (Kz rfl CG.xc rfl XE.Rb hx (Aa BJ Ac))) Bp)
 (Ai (Ej (pv 2) (Es (Ek (pv 0) rfl) (pv 1) set_list)))),?_⟩
 obtain⟨dx,ob⟩:=R.ob;refine⟨_,rq,_,rq,p,C,dx,_,_,rq,ob,T.cl,T.Il,Jf _ _ _,_,_,rq,rq,v,0,(n:Int) - 1,rq,kn,_,rq,?_⟩;cases e:wiB v 0 ((n:Int) - 1) with
 | false=>exact Bm ⟨Bf (by show 1<=1000;decide),q2 e⟩
 | true=>
  obtain⟨q,rfl,hq⟩:=fJ e;refine Bo ?_;refine⟨_,rq,_,rq,p,C,dx,_,_,rq,ob,T.cl,T.Ln,Py _ _ _,_,rq,TT,_,_,q,rq,rq,R.ht,ixn (by rw[Qbl,R.tn];exact hq),?_⟩;have tt:∀xs,H TT≠some (.tup xs):=λxs z=>by rw[R.ht] at z;cases z
  have nta:TT∉as:=λz=>by
   obtain⟨g,vs,e1,r⟩:=Gz R.lg z;rw[R.ht] at e1;cases e1;have:=R.tn;have:=R.n2
   match tied,r with
   | [],_=>simp at *;omega
   | x::y,.cons q _=>obtain⟨t,e2,_⟩:=q;cases e2
  exact q1 q _ rfl hq ⟨⟨dx,by rw[Aj R.np.2.1];exact ob⟩,by rw[Aj R.LT];exact R.hl,Logs.Bv Ah.upd tt R.lg nta,by rw[Ab,QbU],R.ln,by rw[Qbv];exact R.tn,R.LT,R.n2,R.n4⟩ Ah.upd
theorem cD (c:Ck K C "cut" "Ring.cut" DG DN) (T:Tx K mg C) (Ms:CN P w K mg base C "tie" 3 DK (Lb C c9)):CN P w K mg base C "cut" 4 DN (Hf C c9 false):=by
 refine c.Ly QC (λvs H Q E h=>?_) (λX f cdv A outer s H vs Q E eX hx hr h=>?_)
 ·obtain⟨p,L,T,as,n,v,logs,tied,rfl,_⟩:=h;rfl
 subst eX;obtain⟨p,L,TT,as,n,v,logs,tied,rfl,R,kn,q1,q2⟩:=h;refine⟨_,(Ai (Dn (Gv (pv 0) T.cl Ms hr hx (Aa (pv 1) (Aa Dc Ac))))),?_⟩;obtain⟨dx,ob⟩:=R.ob;exact⟨_,rq,p,dx,_,rq,ob,Dh (by trivial),_,rq,p,L,TT,as,n,v,false,logs,tied,rq,R,kn,q1,q2⟩
theorem Z7 (c:Ck K C "mend" "Ring.mend" Dj Dm) (T:Tx K mg C) (Ms:CN P w K mg base C "tie" 3 DK (Lb C c9)):CN P w K mg base C "mend" 4 Dm (Hf C c9 true):=by
 refine c.Ly Oi (λvs H Q E h=>?_) (λX f cdv A outer s H vs Q E eX hx hr h=>?_)
 ·obtain⟨p,L,T,as,n,v,logs,tied,rfl,_⟩:=h;rfl
 subst eX;obtain⟨p,L,TT,as,n,v,logs,tied,rfl,R,kn,q1,q2⟩:=h;refine⟨_,(Ai (Dn (Gv (pv 0) T.cl Ms hr hx (Aa (pv 1) (Aa Dc Ac))))),?_⟩;obtain⟨dx,ob⟩:=R.ob;exact⟨_,rq,p,dx,_,rq,ob,Dh (by trivial),_,rq,p,L,TT,as,n,v,true,logs,tied,rq,R,kn,q1,q2⟩
end
abbrev Cg:Stmt:=(inClass (top 24) 5)
abbrev Cy:YF:=["self"]
theorem Nb:Az ["self"] Cy (Ad Cg):=by ac_rfl
abbrev Ce:Stmt:=(inClass (top 24) 6)
abbrev Dq:YF:=["self","panel","text"]
abbrev xm:YF:=["self","panel","text","log","stamp","entry"]
theorem EY:Az xm Dq (Ad Ce):=by ac_rfl
def Ub (H:Hp) (v:V) (d:Nat×Nat):Prop:=∃t,v=.ref t/\H t=some (.tup [.int d.1,.int d.2])
theorem Prs.tups {H H':Hp} (s:Bq H H') {vs:YG} {ds:List (Nat×Nat)} (h:Paired (Ub H) vs ds):Paired (Ub H') vs ds:=Paired.Ia h λ_ _ z=>let ⟨t,e,q⟩:=z;⟨t,e,s _ _ q⟩
def prs (n:Nat) (tied:List Bool) (i:Nat):List (Nat×Nat):=((List.range i).filter λj=>tied.getD j false).map λj=>(j,(j+1) % n)
theorem Oq (n:Nat) (tied:List Bool) (i:Nat):prs n tied (i+1)=prs n tied i++if tied.getD i false=true then [(i,(i+1) % n)] else []:=by
 unfold prs;rw[List.range_succ,QaL,Qbo];congr 1;by_cases h:tied.getD i false=true
 ·rw[if_pos h];simp only[Qbc,h,if_true,Qbt,QbJ,List.map_nil]
 ·rw[if_neg h];simp only[Qbc,h,if_false,Qbt,List.map_nil];simp[h]
theorem ZQ (n:Nat) (tied:List Bool) (i:Nat):(prs n tied i).length<=i:=by
 unfold prs;rw[Qbl];exact QbR (Qas ..) (by rw[QaY];exact QbV _)
inductive JT (C:Addr) (vs:YG) (H:Hp) (Q:VK) (E:XK):Prop
 | mk (p L T:Addr) (as:List Addr) (n:Nat) (logs:List (List En)) (tied:List Bool) (_:vs=[.ref p]) (_:RAt C H p L T as n logs tied) (_:∀l H' ws,H l=none->H' l=some (.lst ws)->Paired (Ub H') ws (prs n tied n)->Same H H'->Q (.ref l) H'):JT C vs H Q E
def Qs (g:List En) (s:Int):Prop:=(g=[]/\s=0)\/((∃e∈g,s=e.st+1)/\∀f∈g,f.st < s)
def Bl (g:List En) (q:Nat):List En:=g.filter λe=>decide (e.pn=(q:Int))
inductive Kq (C c1 c8:Addr) (vs:YG) (H:Hp) (Q:VK) (E:XK):Prop
 | mk (p L T:Addr) (as:List Addr) (n:Nat) (v u:V) (logs:List (List En)) (tied:List Bool) (_:vs=[.ref p,v,u]) (_:RAt C H p L T as n logs tied) (_:Kn H v) (_:Kn H u) (_:(∀z,u=.str z->z.cps.size<=1000)) (_:((wiB v 0 ((n:Int) - 1)=false/\E (.ref c8) none H)\/(wiB v 0 ((n:Int) - 1)=true/\lnB u=false/\∀H',Same H H'->E (.ref c1) none H')\/∃(q:Nat) (z:Str) (g:List En),v=.int q/\u=.str z/\logs[q]?=some g/\K3 z/\g.length < 64/\∀(t a:Addr) (H':Hp) (st:Int),Qs g st->H a=none->H' t=some (.tup (En.vs ⟨st,q,(Bl g q).length,z⟩))->RAt C H' p L T (as.set q a) n (logs.set q (g++[⟨st,q,(Bl g q).length,z⟩])) tied->Ah L H H'->Q (.ref t) H')):Kq C c1 c8 vs H Q E
theorem Ot {α β : Type} {F:α->β->Prop}:∀{l:List α} {m:List β} {i:Nat} {x:α} {y:β},Paired F l m->F x y->Paired F (l.set i x) (m.set i y)
 | _,_,_,_,_,.nil,_=>.nil
 | _,_,0,_,_,.cons a r,h=>.cons h r
 | _,_,i+1,_,_,.cons a r,h=>.cons a (Ot (i:=i) r h)
section
variable {P:Program} {w:World} {K:YD} {mg:YB} {base:Heap} {C hc c0 c1 c2 c3 c4 c5 c6 c7 c8 c9 c10 c11 c12:Addr}
abbrev xh:YF:=["link","whole","self"]
theorem WK (c:Ck K C "pairs" "Ring.pairs" Cg Cy) (T:Tx K mg C):Fb P w K mg base C "pairs" 1 Cy (JT C):=by
 refine c.good Nb (λvs H Q E h=>?_) (λf cdv A outer s H vs Q E hr h=>?_)
 ·obtain⟨p,L,T,as,n,logs,tied,rfl,_⟩:=h;rfl
 obtain⟨p,L,TT,as,n,logs,tied,rfl,R,q⟩:=h;refine⟨_,(Ai (Bc (CV (N':=xh) rfl (Bj.of (src:=[none,none,some 0]) (Ad Cg) ["self"] rfl rfl rfl (by trivial) (by trivial) (by trivial) rfl (by trivial)) (UW rfl T.enumerate (Ek (pv 0) rfl)) (λ_ _ _ _=>(Q9 (K:=K) (n:=2) rfl rfl (Cm (Aw (i:=0) (show List.Nodup (xh:YF) by trivial) rfl (Or.inl rfl)) (Cm (Aw (i:=1) (show List.Nodup (xh:YF) by trivial) rfl (Or.inl rfl)) Ig)))) (λ_ _ _ _=>(Ju (CW (pv 1)))) (λ_ _ _ _=>(Ih (Aa (pv 0) (Aa (Ar Ey (Ar Cz (pv 0) Af) (Z1 (K:=K) rfl (pv 2) rfl)) Ac))))))),?_⟩;obtain⟨dx,ob⟩:=R.ob;have n2:=R.n2;have n4:=R.n4;have tn:=R.tn;refine⟨_,rq,p,C,dx,_,_,rq,ob,T.cl,T.Ln,Py _ _ _,TT,rq,⟨_,SqL.of R.ht⟩,λl hl=>?_⟩;let J0:YN:=λ(i:Nat) (Z : St) (HH:Hp)=>∃(u v:Option V) (ws:YG),Z=[u,v,js p]/\HH l=some (.lst ws)/\Paired (Ub HH) ws (prs n tied i)/\Same H HH;refine T6 (xs:=tied.map V.bl) J0 ⟨_,_,[],rq,Ab,.nil,Ag hl _⟩ (λi Z HH _ h=>?_) (λi x t Z HH hx h ht=>?_) (fun Z HH h=>?_)
 ·obtain⟨u,v,ws,rfl,e1,e2,e3⟩:=h;exact SqL.of (e3 _ _ R.ht)
 ·obtain⟨u,v,ws,rfl,e1,e2,e3⟩:=h;have hi:i < tied.length:=by have:=(Qae.mp hx).1;rw[Qbl] at this;exact this
  have hx':x=.bl (tied.getD i false):=by
   rw[QaV,Qai hi] at hx;rw[Qac,Qai hi];exact (Qbp hx).symm
  subst hx';have s4:=Ag ht (.tup [.int ((0+i:Nat):Int),.bl (tied.getD i false)]);have h4:(upd HH t (.tup [.int ((0+i:Nat):Int),.bl (tied.getD i false)])) t=some (.tup [.int ((0+i:Nat):Int),.bl (tied.getD i false)]):=Ab;have e1':=s4 _ _ e1;have e2':=Prs.tups (Bq.of s4) e2;have e3':=e3.trans s4;generalize upd HH t (.tup [.int ((0+i:Nat):Int),.bl (tied.getD i false)])=H4 at *;have wl:ws.length<=i:=by rw[QbG e2];exact ZQ n tied i
  refine⟨t,_,rq,SqT.of h4,rq,_,_,rq,_,_,rq,rq,?_⟩;refine⟨_,rq,_,rq,?_⟩;cases hb:tied.getD i false with
  | false=>
   refine Bo ⟨_,_,ws,rq,e1',?_,e3'⟩;rw[Oq,hb,if_neg QaE,Qbq];exact e2'
  | true=>
   refine Bm ⟨_,rq,_,rq,_,_,rq,rq,_,rq,p,C,dx,_,_,rq,e3' _ _ ob,T.cl,T.Il,Jf _ _ _,_,_,rq,rq,(by omega),Bf (by show 2<=1000;decide),λk hk=>?_⟩;have ek:(((0+i:Nat):Int)+1) % (n:Int)=(((i+1) % n:Nat):Int):=by
    rw[Nat.zero_add];exact (Int.natCast_emod _ _).symm
   have eo:HO.tup [.int ((0+i:Nat):Int),(λi j:Int=>V.int (i % j)) (((0+i:Nat):Int)+1) (n:Int)]=HO.tup [.int (i:Int),.int (((i+1) % n:Nat):Int)]:=by
    rw[<-ek,Nat.zero_add]
   rw[eo];have s5:=Ag hk (.tup [.int (i:Int),.int (((i+1) % n:Nat):Int)]);have h5:(upd H4 k (.tup [.int (i:Int),.int (((i+1) % n:Nat):Int)])) k=some (.tup [.int (i:Int),.int (((i+1) % n:Nat):Int)]):=Ab;have P0:=s5 _ _ e1';have mq:=Prs.tups (Bq.of s5) e2';have mj:=e3'.trans s5;generalize upd H4 k (.tup [.int (i:Int),.int (((i+1) % n:Nat):Int)])=H5 at *;have tl:∀xs,H5 l≠some (.tup xs):=λxs z=>by rw[P0] at z;cases z
   refine⟨ws,P0,Am (by omega),_,_,ws++[.ref k],rq,Ab,?_,mj.Br Ah.upd hl⟩;rw[Oq,hb,if_pos rfl];exact Prs.tups (Bq.upd tl) (Ca mq (.cons ⟨k,rq,h5⟩ .nil))
 ·obtain⟨u,v,ws,rfl,e1,e2,e3⟩:=h;rw[Qbl,tn] at e2;exact q l _ ws hl e1 e2 e3
theorem Wz (c:Ck K C "write" "Ring.write" Ce Dq) (T:Tx K mg C) (XE:Er K mg hc c0 c1 c2 c3 c4 c5 c6 c7 c8 c9 c10 c11 c12) (KN:Knd K hc c1 [c0,c1,c2,c3,c4,c5,c6,c7,c8,c9,c10,c11,c12] 1) (Lz:CN P w K mg base C "check_panel" 3 BK (Kv C c8)) (Vx:Good P w K mg base "is_line" 1 Gx Ks):CN P w K mg base C "write" 4 Dq (Kq C c1 c8):=by
 refine c.Ly EY (λvs H Q E h=>?_) (λX f cdv A outer s H vs Q E eX hx hr h=>?_)
 ·obtain⟨p,L,T,as,n,v,u,logs,tied,rfl,_⟩:=h;rfl
 subst eX;obtain⟨p,L,TT,as,n,v,u,logs,tied,rfl,R,kv,ku,su,h⟩:=h;refine⟨_,(Ae (Dn (Gv (pv 0) T.cl Lz hr hx (Aa (pv 1) Ac)))
 (Ae (BW (CZ (CW (Jx Vx hr (Aa (pv 2) (Aa Af (Aa (U3 rfl T.MOST_SIGNS) Ac)))))) (Ai (Kz rfl KN.xc rfl XE.Ra hx (Aa BJ Ac))) Bp)
 (Ae (Ax (i:=3) EY.nd rfl (Or.inl rfl) (Bu Bk (Ek (pv 0) rfl) (pv 1) (λ_ _=>rfl)))
 (Ae (Ax (i:=4) EY.nd rfl (Or.inl rfl) (Ar Cz (ZX rfl rfl T.max (CV (N':=["entry"]) rfl (Bj.plain rfl (by trivial) (by trivial) (by trivial)) (Cu (pv 3)) (λ_ _ _ _=>(Aw (i:=0) (show List.Nodup (["entry"]:YF) by trivial) rfl (Or.inl rfl))) (λ_ _ _ _=>Et) (λ_ _ _ _=>(Bu (Rh (K:=K) rfl) (pv 0) Af (λ_ _=>rfl)))) (Zj Uq Af)) Af))
 (Ae (Ax (i:=5) EY.nd rfl (Or.inl rfl) (Ih (Aa (pv 4) (Aa (pv 1) (Aa (Ak CK rfl T.len GD (Aa (CV (N':=["known","panel"]) rfl (Bj.of (src:=[none,some 1]) (Ad Ce) xm rfl rfl rfl (by trivial) (by trivial) (by trivial) rfl (by trivial)) (Cu (pv 3)) (λ_ _ _ _=>(Aw (i:=0) (show List.Nodup (["known","panel"]:YF) by trivial) rfl (Or.inl rfl))) (λ_ _ _ _=>(Ju (Bw GX (Bu (Rh (K:=K) rfl) (pv 0) Af (λ_ _=>rfl)) (pv 1) (Bs _)))) (λ_ _ _ _=>(pv 0))) Ac)) (Aa (pv 2) Ac))))))
 (Ae (Ej (Ar Jy (pv 3) (Cw (Aa (pv 5) Ac))) (Es (Ek (pv 0) rfl) (pv 1) set_list))
 (Ai (Bc (pv 5))))))))),?_⟩
 show let R0:TS:=Al _ _;let R1:TS:=Al _ R0;let R2:TS:=Al _ R1;let R3:TS:=Al _ R2;let R4:TS:=_;let R5:TS:=Al (G9 _ R4 _) R3;Al _ R5 _ _ _;intro R0 R1 R2 R3 R4 R5;obtain⟨dx,ob⟩:=R.ob;rcases h with⟨e1,q8⟩|⟨e1,e2,q1⟩|⟨q,z,g,rfl,rfl,hg,hz,few,q'⟩
 ·exact⟨_,rq,p,dx,_,rq,ob,Dh (by trivial),_,rq,p,L,TT,as,n,v,logs,tied,rq,R,kv,(λe=>by rw[e1] at e;cases e),λ_=>q8⟩
 ·refine⟨_,rq,p,dx,_,rq,ob,Dh (by trivial),_,rq,p,L,TT,as,n,v,logs,tied,rq,R,kv,(λ_=>?_),(λe=>by rw[e1] at e;cases e)⟩;refine⟨_,rq,u,rq,ku,su,λH1 s1=>⟨_,rq,?_⟩⟩;rw[e2];exact Bm ⟨Bf (by show 1<=1000;decide),q1 _ s1⟩
 have hq:q < n:=by rw[<-R.ln];exact (Qae.mp hg).1
 have z20:=hz.l2;refine⟨_,rq,p,dx,_,rq,ob,Dh (by trivial),_,rq,p,L,TT,as,n,.int q,logs,tied,rq,R,kv,(λ_=>?_),(λe=>by rw[Nq hq] at e;cases e)⟩;refine⟨_,rq,.str z,rq,True.intro,(λy e=>by cases e;omega),λH1 s1=>⟨_,rq,?_⟩⟩;rw[hz.ln];refine Bo ?_;have Rg:=R.same s1;have ob1:=s1 _ _ ob;obtain⟨a,ha,vs,hvs,pvs⟩:=Gu Rg.lg hg;have hat:atI (as.map V.ref) (q:Int)=some (.ref a):=Fw (by rw[QaV,ha];rfl);refine⟨_,rq,p,C,dx,_,_,rq,ob1,T.cl,T.Gy,Ht _ _ _,_,rq,L,_,_,_,rq,rq,SqL.of Rg.hl,hat,?_⟩;have vl:=QbG pvs;refine Ba ?_;refine⟨_,rq,a,rq,⟨_,SqL.of hvs⟩,λl1 hl1=>?_⟩;let J1:YN:=λ(i:Nat) (Z : St) (HH:Hp)=>∃(u:Option V),Z=[u]/\HH l1=some (.lst (((g.take i).map En.st).map V.int))/\Same H1 HH;refine Di (xs:=vs) J1 ⟨_,rq,Ab,Ag hl1 _⟩ (λi Z HH _ h=>?_) (λi x Z HH hx h=>?_) (fun Z HH h=>?_)
 ·obtain⟨u,rfl,e1,e2⟩:=h;exact SqL.of (e2 _ _ hvs)
 ·obtain⟨u,rfl,e1,e2⟩:=h;obtain⟨e,he,t,rfl,ht⟩:=Ed pvs hx;refine Ba (Bm ⟨_,rq,t,_,_,_,rq,rq,SqT.of (e2 _ _ ht),rq,_,e1,Am (by rw[Qbl,Qbl,Qbk];omega),_,rq,?_,e2.Br Ah.upd hl1⟩);rw[Ab,Qca he,Qbo,Qbo];rfl
 obtain⟨u,rfl,e1,s2⟩:=h;rw[vl,Qbb] at e1;have cont:∀st:Int,Qs g st->R1 { nx:=λx H'=>Q V.non H',rt:=Q } [js p,some (.int q),some (.str z),js a,some (.int st),none] HH:=λst hst=>by
  refine⟨_,rq,_,rq,_,rq,a,rq,⟨_,SqL.of (s2 _ _ hvs)⟩,λl2 hl2=>?_⟩;let J2:YN:=λ(i:Nat) (Z : St) (HX:Hp)=>∃(u:Option V) (ws:YG),Z=[u,some (.int q)]/\HX l2=some (.lst ws)/\ws.length=(Bl (g.take i) q).length/\Same HH HX;refine Di (xs:=vs) J2 ⟨_,[],rq,Ab,rq,Ag hl2 _⟩ (λi Z HX _ h=>?_) (λi x Z HX hx h=>?_) (fun Z HX h=>?_)
  ·obtain⟨u,ws,rfl,g1,g2,g3⟩:=h;exact SqL.of (g3 _ _ (s2 _ _ hvs))
  ·obtain⟨u,ws,rfl,g1,g2,g3⟩:=h;obtain⟨e,he,t,rfl,ht⟩:=Ed pvs hx;have lw:ws.length<=64:=by
    have:(Bl (g.take i) q).length<=(g.take i).length:=Qas ..;rw[Qbk] at this;omega
   refine Ba ⟨_,rq,t,_,_,_,rq,rq,SqT.of (g3 _ _ (s2 _ _ ht)),rq,_,rq,rq,_,rq,?_⟩;have eo:Bl (g.take (i+1)) q=Bl (g.take i) q++if e.pn=(q:Int) then [e] else []:=by
    unfold Bl;rw[Qca he,QaL];congr 1;by_cases c:e.pn=(q:Int)
    ·rw[if_pos c];simp[c]
    ·rw[if_neg c];simp[c]
   by_cases c:e.pn=(q:Int)
   ·rw[if_pos c] at eo;rw[QbC (by rw[c])];refine Bm ⟨_,rq,ws,g1,Am (by omega),_,ws++[.ref t],rq,Ab,?_,g3.Br Ah.upd hl2⟩;rw[eo,QaI,QaI,g2];rfl
   ·rw[if_neg c,Qbq] at eo;rw[Qbm (λz=>c (V.int.inj z))];exact Bo ⟨_,ws,rq,g1,by rw[eo];exact g2,g3⟩
  obtain⟨u,ws,rfl,g1,g2,g3⟩:=h;rw[vl,Qbb] at g2;refine⟨l2,_,rq,.inl (SqL.of g1),_,rq,Bf (by show 4<=1000;decide),λt ht=>?_⟩;rw[show ((ws.length:Nat):Int)=(((Bl g q).length:Nat):Int) by rw[g2]];have s4:=Ag ht (.tup (En.vs ⟨st,q,(Bl g q).length,z⟩));have h4:(upd HX t (.tup (En.vs ⟨st,q,(Bl g q).length,z⟩))) t=some (.tup (En.vs ⟨st,q,(Bl g q).length,z⟩)):=Ab;have s04:Same H (upd HX t (.tup (En.vs ⟨st,q,(Bl g q).length,z⟩))):=((s1.trans s2).trans g3).trans s4;have sa4:=((s2.trans g3).trans s4);show HS 5 (.ref t) _ (upd HX t (.tup (En.vs ⟨st,q,(Bl g q).length,z⟩))) _;generalize upd HX t (.tup (En.vs ⟨st,q,(Bl g q).length,z⟩))=H4 at *;refine Ba ⟨_,rq,_,rq,Bf (by show 1<=1000;decide),λl3 hl3=>?_⟩;have s5:=Ag hl3 (.lst [.ref t]);have h5:(upd H4 l3 (.lst [.ref t])) l3=some (.lst [.ref t]):=Ab;generalize upd H4 l3 (.lst [.ref t])=H5 at *;refine⟨a,l3,vs,_,rq,rq,s5 _ _ (sa4 _ _ hvs),h5,Bf (by simp;omega),λa' ha'=>?_⟩;have s6:=Ag ha' (.lst (vs++[.ref t]));have h6:(upd H5 a' (.lst (vs++[.ref t]))) a'=some (.lst (vs++[.ref t])):=Ab;have s06:=(s04.trans s5).trans s6;have fa:H a'=none:=(s04.trans s5).free ha';have h46:=s6 _ _ (s5 _ _ h4);generalize upd H5 a' (.lst (vs++[.ref t]))=H6 at *;have R6:=R.same s06;refine⟨_,rq,p,C,dx,_,_,rq,s06 _ _ ob,T.cl,T.Gy,Ht _ _ _,_,rq,L,_,_,q,rq,rq,R6.hl,ixn (by rw[Qbl,R.al];exact hq),?_⟩;have tl:∀xs,H6 L≠some (.tup xs):=λxs z=>by rw[R6.hl] at z;cases z
  have nLa:L∉as:=λz=>by
   obtain⟨g',vs',e1',r'⟩:=Gz R6.lg z;rw[R6.hl] at e1';cases e1'
   match as,ha,R.al,r',z with
   | x::y,_,_,.cons q' _,z=>
    obtain⟨t',e2',e3'⟩:=q';cases e2';obtain⟨g'',vs'',P0,_⟩:=Gz R6.lg (.head _);rw[e3'] at P0;cases P0
  have kJ:a'≠L:=λz=>by rw[z,R.hl] at fa;cases fa
  have pv6:Paired (Ec H6) (vs++[.ref t]) (g++[⟨st,q,(Bl g q).length,z⟩]):=Ca (Ens.tups (Bq.of ((sa4.trans s5).trans s6)) pvs) (.cons ⟨t,rq,h46⟩ .nil);refine⟨_,rq,q' t a' _ st hst fa (Ah.upd _ _ h46 (λz=>by rw[z,R6.hl] at h46;cases h46)) ⟨⟨dx,by rw[Aj R.np.1];exact s06 _ _ ob⟩,by rw[Ab,QbU],?_,by rw[Aj R.LT.symm];exact R6.ht,by rw[Qbv];exact R.ln,R.tn,R.LT,R.n2,R.n4⟩ (λc o e' ne=>Ah.upd _ _ (s06 _ _ e') ne)⟩;exact Ot (Logs.Bv Ah.upd tl R6.lg nLa) (BP.Bv ⟨_,h6,pv6⟩ Ah.upd tl kJ)
 refine⟨_,rq,l1,g.map En.st,-1,rq,rq,SqL.of e1,λhn=>?_,λM hM hall=>?_⟩
 ·have g0:g=[]:=List.map_eq_nil_iff.mp hn;exact⟨_,_,rq,rq,Ba (cont _ (.inl ⟨g0,rq⟩))⟩
 ·refine⟨_,_,rq,rq,Ba (cont _ (.inr ⟨?_,λf hf=>?_⟩))⟩
  ·obtain⟨e,he,e2⟩:=QbQ.mp hM;exact⟨e,he,by rw[e2]⟩
  ·have:=hall f.st (QbQ.mpr ⟨f,hf,rq⟩);omega
end
abbrev Dk:Stmt:=(inClass (top 24) 7)
abbrev Ea:YF:=["self"]
theorem Fx:Az ["self","behind","one","other"] Ea (Ad Dk):=by ac_rfl
theorem Up.nd:∀{g:List En},Up g->g.Nodup
 | [],_=>List.Pairwise.nil
 | e::r,h=>by
  obtain⟨h1,h2⟩:=QaS.mp h;exact Qbx.mpr ⟨λz=>absurd (h1 e z) (QbK _),Up.nd h2⟩
theorem Up.few {g W:List En} (h:Up g) (w:WOk W) (i:∀e∈g,e∈W):g.length < 64:=Nat.lt_of_le_of_lt (Ik h.nd i) w.few
def NbP (ps:List (Nat×Nat)) (logs:List (List En)) (i:Nat) (e:En):Prop:=e∈logs.getD i []\/∃d∈ps,(i=d.1/\e∈logs.getD d.2 [])\/(i=d.2/\e∈logs.getD d.1 [])
structure BSt (H HH:Hp) (as bs:List Addr) (B:Addr) (gs:List (List En)):Prop where
 hb:HH B=some (.lst (bs.map V.ref))
 lg:Paired (BP HH) bs gs
 fr:∀b∈bs,b∈as\/H b=none
 nb:B∉bs
 sm:Same H HH
 fb:H B=none
theorem BSt.same {H HH H2:Hp} {as bs:List Addr} {B:Addr} {gs:List (List En)} (h:BSt H HH as bs B gs) (s:Same HH H2):BSt H H2 as bs B gs:=⟨s _ _ h.hb,Logs.same s h.lg,h.fr,h.nb,h.sm.trans s,h.fb⟩
theorem BSt.put {H HH H2:Hp} {as bs:List Addr} {B l:Addr} {gs:List (List En)} {zs:List En} {i:Nat} (h:BSt H HH as bs B gs) (s:Same HH H2) (fl:HH l=none) (lz:BP H2 l zs):BSt H (upd H2 B (.lst ((bs.map V.ref).set i (.ref l)))) as (bs.set i l) B (gs.set i zs):=by
 have h2:=h.same s;have tl:∀xs,H2 B≠some (.tup xs):=λxs z=>by rw[h2.hb] at z;cases z
 have nl:l≠B:=λz=>by rw[z,h.hb] at fl;cases fl
 refine⟨by rw[Ab,QbU],Ot (Logs.Bv Ah.upd tl h2.lg h.nb) (lz.Bv Ah.upd tl nl),λb hb=>?_,λz=>?_,h2.sm.Br Ah.upd h.fb,h.fb⟩
 ·rcases Qaf hb with z | rfl
  ·exact h.fr b z
  ·exact .inr (h.sm.free fl)
 ·rcases Qaf z with z | z
  ·exact h.nb z
  ·exact nl z.symm
inductive Od (C:Addr) (vs:YG) (H:Hp) (Q:VK) (E:XK):Prop
 | mk (p L T:Addr) (as:List Addr) (n:Nat) (logs:List (List En)) (tied:List Bool) (W:List En) (_:vs=[.ref p]) (_:RAt C H p L T as n logs tied) (_:WOk W) (_:(∀g∈logs,∀e∈g,e∈W)) (_:(∀g∈logs,Up g)) (_:∀(L':Addr) (as':List Addr) (H':Hp) (Df:List (List En)),H L'=none->(∀a∈as',a∈as\/H a=none)->RAt C H' p L' T as' n Df tied->(∀i g',Df[i]?=some g'->Up g'/\∀e,e∈g' ↔ NbP (prs n tied n) logs i e)->Ah p H H'->Q .non H'):Od C vs H Q E
theorem bU {n:Nat} {tied:List Bool} {d:Nat×Nat} (h:d∈prs n tied n) (n2:2<=n):d.1 < n/\d.2 < n/\d.1≠d.2:=by
 unfold prs at h;obtain⟨j,hj,rfl⟩:=QbQ.mp h;have hj:=QbE.mp (List.mem_filter.mp hj).1;refine⟨hj,Nat.mod_lt _ (by omega),λz=>?_⟩;have z:j=(j+1) % n:=z;by_cases c:j+1=n
 ·rw[c,Nat.mod_self] at z;omega
 ·rw[Nat.mod_eq_of_lt (by omega)] at z;omega
theorem at_getD {α : Type} {l:List α} {i:Nat} (d:α) (h:i < l.length):l[i]?=some (l.getD i d):=by
 rw[Qac,Qai h];rfl
section
variable {P:Program} {w:World} {K:YD} {mg:YB} {base:Heap} {C:Addr}
theorem ak (c:Ck K C "beat" "Ring.beat" Dk Ea) (T:Tx K mg C) (JG:Fb P w K mg base C "pairs" 1 Cy (JT C)) (Jg:Good P w K mg base "joined" 1 Hq Kr):Fb P w K mg base C "beat" 2 Ea (Od C):=by
 refine c.good Fx (λvs H Q E h=>?_) (λf cdv A outer s H vs Q E hr h=>?_)
 ·obtain⟨p,L,T,as,n,logs,tied,W,rfl,_⟩:=h;rfl
 obtain⟨p,L,TT,as,n,logs,tied,W,rfl,R,w,iW,ups,q⟩:=h;refine⟨_,(Ae (Ax (i:=1) Fx.nd rfl (Or.inl rfl) (Hz JL rfl T.list Kh (Aa (Ek (pv 0) rfl) Ac)))
 (Ae (Gs Qbw rfl (Cu (Jb (pv 0) T.cl JG hr)) (Lh rfl (Cm (Aw (i:=2) Fx.nd rfl (Or.inl rfl)) (Cm (Aw (i:=3) Fx.nd rfl (Or.inl rfl)) Ig)))
 (Ae (Ej (Dd Jg hr (Aa (Bu Bk (pv 1) (pv 2) (λ_ _=>rfl)) (Aa (Bu Bk (Ek (pv 0) rfl) (pv 3) (λ_ _=>rfl)) Ac))) (Es (pv 1) (pv 2) set_list))
 (Ai (Ej (Dd Jg hr (Aa (Bu Bk (pv 1) (pv 3) (λ_ _=>rfl)) (Aa (Bu Bk (Ek (pv 0) rfl) (pv 2) (λ_ _=>rfl)) Ac))) (Es (pv 1) (pv 3) set_list)))))
 (Ai (JZ (pv 0) (pv 1) rfl)))),?_⟩
 show let R0:TS:=_;let R1:TS:=Al _ R0;let R2:TS:=Al (Iz _ _ R1) _;Al _ R2 _ _ _;intro R0 R1 R2;obtain⟨dx,ob⟩:=R.ob;have n2:=R.n2;have n4:=R.n4;have al:=R.al;have KH:∀i e,e∈logs.getD i []->e∈W:=λi e he=>by
  by_cases c:i < logs.length
  ·exact iW _ (Qat (at_getD [] c)) e he
  ·rw[Qac,List.getElem?_eq_none (by omega)] at he;cases he
 refine⟨_,rq,p,C,dx,_,_,rq,ob,T.cl,T.Gy,Ht _ _ _,L,_,rq,.inl (SqL.of R.hl),λB hB=>?_⟩;have s1:=Ag hB (.lst (as.map V.ref));have nBa:B∉as:=λz=>by
  obtain⟨g,vs,e1,_⟩:=Gz R.lg z;rw[hB] at e1;cases e1
 have b1:BSt H (upd H B (.lst (as.map V.ref))) as as B logs:=⟨Ab,Logs.same s1 R.lg,λb hb=>.inl hb,nBa,s1,hB⟩;generalize upd H B (.lst (as.map V.ref))=H1 at *;refine Ba ?_;refine⟨_,rq,p,dx,_,rq,s1 _ _ ob,Dh (by trivial),p,L,TT,as,n,logs,tied,rq,R.same s1,λl H2 ws fl hl pw s2=>⟨l,rq,⟨_,SqL.of hl⟩,?_⟩⟩;have wl:=QbG pw;let J0:YN:=λ(m:Nat) (Z : St) (HH:Hp)=>∃(u v:Option V) (bs:List Addr) (gs:List (List En)),Z=[js p,js B,u,v]/\BSt H HH as bs B gs/\gs.length=n/\(∀i g',gs[i]?=some g'->Up g'/\∀e,e∈g' ↔ NbP ((prs n tied n).take m) logs i e)/\HH l=some (.lst ws)/\Same H HH/\Bq H2 HH;refine KZ (xs:=ws) J0 ⟨_,_,as,logs,rq,b1.same s2,R.ln,λi g' hg=>?_,hl,s1.trans s2,Bq.refl _⟩ (λi Z HH _ h=>?_) (λi x Z HH hx h=>?_) (fun Z HH h=>?_)
 ·refine⟨ups g' (Qat hg),λe=>?_⟩;have:logs.getD i []=g':=by rw[Qac,hg];rfl
  unfold NbP;rw[this];simp
 ·obtain⟨u,v,bs,gs,rfl,b2,lg,mem,hl',sm,tp⟩:=h;exact SqL.of hl'
 ·obtain⟨u,v,bs,gs,rfl,b2,lg,mem,hl',sm,tp⟩:=h;obtain⟨d,hd,t,rfl,ht⟩:=Ed pw hx;obtain⟨d1,d2,dn⟩:=bU (Qat hd) n2;have bl:bs.length=n:=(QbG b2.lg).trans lg;refine⟨t,_,rq,SqT.of (tp _ _ ht),rq,_,_,rq,_,_,rq,rq,?_⟩;obtain⟨x,y⟩:=d;dsimp only at d1 d2 dn ht hd;have gx:=at_getD (l:=gs) [] (i:=x) (by omega);have gy:=at_getD (l:=gs) [] (i:=y) (by omega);have lx:=at_getD (l:=logs) [] (i:=x) (by rw[R.ln];exact d1);have ly:=at_getD (l:=logs) [] (i:=y) (by rw[R.ln];exact d2);obtain⟨bx,hbx,Lbx⟩:=Gu b2.lg gx;obtain⟨by',hby,Lby⟩:=Gu b2.lg gy;have Rm:=R.same sm;obtain⟨ax,hax,Lax⟩:=Gu Rm.lg lx;obtain⟨ay,hay,Lay⟩:=Gu Rm.lg ly;have mW:∀i g',gs[i]?=some g'->∀e∈g',e∈W:=λi g' hg e he=>by
   rcases ((mem i g' hg).2 e).mp he with z |⟨d,_,⟨_,z⟩|⟨_,z⟩⟩
   ·exact KH _ _ z
   ·exact KH _ _ z
   ·exact KH _ _ z
  have atR:∀{cs:List Addr} {k:Nat} {c:Addr},cs[k]?=some c->atI (cs.map V.ref) (k:Int)=some (.ref c):=λhc=>Fw (by rw[QaV,hc];rfl);have oW:=(mem x _ gx).1.few w (mW x _ gx);have oV:=(mem y _ gy).1.few w (mW y _ gy);have oU:=(ups _ (Qat lx)).few w (KH x);have oR:=(ups _ (Qat ly)).few w (KH y);refine⟨_,rq,_,rq,B,_,_,_,rq,rq,SqL.of b2.hb,atR hbx,_,rq,p,C,dx,_,_,rq,sm _ _ ob,T.cl,T.Gy,Ht _ _ _,_,rq,L,_,_,_,rq,rq,SqL.of Rm.hl,atR hay,bx,ay,_,_,W,rq,Lbx,Lay,w,mW x _ gx,KH y,by omega,λl1 H3 zs fl1 lz1 up1 kW s3=>?_⟩;have b3:=b2.same s3;refine⟨_,rq,_,rq,B,_,_,x,rq,rq,b3.hb,ixn (by rw[Qbl,bl];exact d1),?_⟩;have b4:=b2.put (i:=x) s3 fl1 lz1;have nlB:l≠B:=λz=>by rw[z,b1.hb] at fl;cases fl
  have hl4:(upd H3 B (.lst ((bs.map V.ref).set x (.ref l1)))) l=some (.lst ws):=by rw[Aj nlB];exact s3 _ _ hl'
  have tp4:Bq H2 (upd H3 B (.lst ((bs.map V.ref).set x (.ref l1)))):=(tp.trans (Bq.of s3)).trans (Bq.upd λxs z=>by rw[b3.hb] at z;cases z);generalize upd H3 B (.lst ((bs.map V.ref).set x (.ref l1)))=H4 at *;have lg4:(gs.set x zs).length=n:=by rw[Qbv];exact lg
  have bl4:(bs.set x l1).length=n:=by rw[Qbv];exact bl
  have gy4:(gs.set x zs)[y]?=some (gs.getD y []):=by rw[Qaw dn];exact gy
  have oO:(bs.set x l1)[y]?=some by':=by rw[Qaw dn];exact hby
  obtain⟨b5,hb5,Lb5⟩:=Gu b4.lg gy4;have Rm4:=R.same b4.sm;obtain⟨ax4,lR,n8⟩:=Gu Rm4.lg lx;refine⟨_,rq,_,rq,B,_,_,_,rq,rq,SqL.of b4.hb,atR hb5,_,rq,p,C,dx,_,_,rq,b4.sm _ _ ob,T.cl,T.Gy,Ht _ _ _,_,rq,L,_,_,_,rq,rq,SqL.of Rm4.hl,atR lR,b5,ax4,_,_,W,rq,Lb5,n8,w,mW y _ gy,KH x,by omega,λl2 H5 zs2 fl2 lz2 up2 kO s5=>?_⟩;have b5':=b4.same s5;refine⟨_,rq,_,rq,B,_,_,y,rq,rq,b5'.hb,ixn (by rw[Qbl,bl4];exact d2),?_⟩;have b6:=b4.put (i:=y) s5 fl2 lz2;refine⟨_,_,_,(gs.set x zs).set y zs2,rq,b6,by rw[Qbv];exact lg4,λk g' hg=>?_,by rw[Aj nlB];exact s5 _ _ hl4,b6.sm,(tp4.trans (Bq.of s5)).trans (Bq.upd λxs z=>by rw[b5'.hb] at z;cases z)⟩;rw[Qca hd];have app:∀e,NbP ((prs n tied n).take i++[(x,y)]) logs k e ↔ NbP ((prs n tied n).take i) logs k e\/(k=x/\e∈logs.getD y [])\/(k=y/\e∈logs.getD x []):=λe=>by
   unfold NbP;constructor
   ·rintro (h |⟨d,hd,h⟩)
    ·exact .inl (.inl h)
    ·rcases Qbn.mp hd with hd | hd
     ·exact .inl (.inr ⟨d,hd,h⟩)
     ·rw[QaF.mp hd] at h;exact .inr h
   ·rintro ((h |⟨d,hd,h⟩) | h)
    ·exact .inl h
    ·exact .inr ⟨d,Qav _ hd,h⟩
    ·exact .inr ⟨(x,y),Qap _ (.head _),h⟩
  by_cases ky:k=y
  ·subst ky;rw[Qam (by rw[lg4];exact d2)] at hg;cases hg;refine⟨up2,λe=>?_⟩;rw[kO e,app e,(mem k _ gy).2 e];constructor
   ·rintro (h | h)
    ·exact .inl h
    ·exact .inr (.inr ⟨rq,h⟩)
   ·rintro (h |⟨h,_⟩|⟨_,h⟩)
    ·exact .inl h
    ·exact absurd h.symm dn
    ·exact .inr h
  ·rw[Qaw (λz=>ky z.symm)] at hg;by_cases kx:k=x
   ·subst kx;rw[Qam (by rw[lg];exact d1)] at hg;cases hg;refine⟨up1,λe=>?_⟩;rw[kW e,app e,(mem k _ gx).2 e];constructor
    ·rintro (h | h)
     ·exact .inl h
     ·exact .inr (.inl ⟨rq,h⟩)
    ·rintro (h |⟨_,h⟩|⟨h,_⟩)
     ·exact .inl h
     ·exact .inr h
     ·exact absurd h ky
   ·rw[Qaw (λz=>kx z.symm)] at hg;refine⟨(mem k g' hg).1,λe=>?_⟩;rw[app e,(mem k g' hg).2 e];constructor
    ·exact .inl
    ·rintro (h |⟨h,_⟩|⟨h,_⟩)
     ·exact h
     ·exact absurd h kx
     ·exact absurd h ky
 ·obtain⟨u,v,bs,gs,rfl,b2,lg,mem,hl',sm,tp⟩:=h;rw[wl,Qbb] at mem;have ob2:=sm _ _ ob;refine⟨_,rq,_,rq,p,C,dx,_,_,rq,ob2,T.cl,T.Gy,(by show 3 < 1000;decide),Vy (i:=1) (NK _ _ _) rfl,λH3 h3 s3=>?_⟩;have Rm:=R.same sm;have pt:=Rm.pt;have npB:B≠p:=λz=>by rw[z] at hB;rw[ob] at hB;cases hB
  have npb:p∉bs:=λz=>by
   rcases b2.fr p z with h | h
   ·exact R.np.2.2 h
   ·rw[ob] at h;cases h
  have nBT:B≠TT:=λz=>by rw[z] at hB;rw[R.ht] at hB;cases hB
  exact q B bs H3 gs hB b2.fr ⟨⟨dx,h3⟩,s3 _ _ b2.hb npB,Logs.Bv s3 pt b2.lg npb,s3 _ _ Rm.ht R.np.2.1.symm,lg,R.tn,nBT,n2,n4⟩ mem ((Ah.of sm).trans s3)
end
abbrev Dy:Stmt:=top 30
abbrev Fy:YF:=["_law_links"]
abbrev xn:YF:=["_law_links","_law_many","_law_marks","_law_turn","_law_link","_law_least","_law_found","_law_first"]
theorem Cr:Az xn Fy (Ad Dy):=by ac_rfl
def mk1 (n:Nat) (links:List Bool) (m:List Nat) (j:Nat):List Nat:=if links.getD j false=true then (m.set j (min (m.getD j 0) (m.getD ((j+1) % n) 0))).set ((j+1) % n) (min (m.getD j 0) (m.getD ((j+1) % n) 0)) else m
def mkI (n:Nat) (links:List Bool) (m:List Nat):Nat->List Nat
 | 0=>m
 | i+1=>mk1 n links (mkI n links m i) i
def mkT (n:Nat) (links:List Bool):Nat->List Nat
 | 0=>List.range n
 | t+1=>mkI n links (mkT n links t) n
def KQ (n:Nat) (m:List Nat) (i:Nat):List (List Nat):=((List.range i).filter λf=>decide (m.getD f 0=f)).map λf=>(List.range n).filter λp=>decide (m.getD p 0=f)
def houses (n:Nat) (links:List Bool):List (List Nat):=KQ n (mkT n links n) n
theorem aG (n:Nat) (links:List Bool) (m:List Nat) (j:Nat):(mk1 n links m j).length=m.length:=by unfold mk1;split <;> simp
theorem Mq (n:Nat) (links:List Bool) (m:List Nat):∀i,(mkI n links m i).length=m.length
 | 0=>rfl
 | i+1=>by rw[mkI,aG,Mq n links m i]
theorem Mp (n:Nat) (links:List Bool):∀t,(mkT n links t).length=n
 | 0=>QaY
 | t+1=>by rw[mkT,Mq,Mp n links t]
def nv (m:List Nat):YG:=m.map λk:Nat=>V.int (k:Int)
theorem FJ (m:List Nat):(nv m).length=m.length:=Qbl ..
theorem Nx {m:List Nat} {j:Nat} (h:j < m.length):atI (nv m) (j:Int)=some (.int ((m.getD j 0:Nat):Int)):=Fw (by unfold nv;rw[QaV,at_getD 0 h];rfl)
def Gi (H:Hp) (l:Addr) (as:List Addr) (hs:List (List Nat)):Prop:=H l=some (.lst (as.map V.ref))/\Paired (λa h=>H a=some (.lst (nv h))) as hs
theorem Gi.same {H H':Hp} {l:Addr} {as:List Addr} {hs:List (List Nat)} (h:Gi H l as hs) (s:Same H H'):Gi H' l as hs:=⟨s _ _ h.1,Paired.Ia h.2 λ_ _ z=>s _ _ z⟩
inductive Ku (vs:YG) (H:Hp) (Q:VK) (E:XK):Prop
 | mk (a:Addr) (n:Nat) (links:List Bool) (_:vs=[.ref a]) (_:H a=some (.lst (links.map V.bl))) (_:links.length=n) (_:2<=n) (_:n<=4) (_:∀l as H',H l=none->(∀b∈as,H b=none)->Gi H' l as (houses n links)->Same H H'->Q (.ref l) H'):Ku vs H Q E
theorem gR {m:List Bool} {j:Nat} (h:j < m.length):atI (m.map V.bl) (j:Int)=some (.bl (m.getD j false)):=Fw (by rw[QaV,at_getD false h];rfl)
theorem G6 {α β : Type} {F G:α->β->Prop}:∀{l:List α} {m:List β},Paired F l m->(∀x∈l,∀y,F x y->G x y)->Paired G l m
 | _,_,.nil,_=>.nil
 | _,_,.cons a r,h=>.cons (h _ (.head _) _ a) (G6 r λx hx=>h x (.tail _ hx))
theorem YQ (a b:Nat):decide (V.int (a:Int)=V.int (b:Int))=decide (a=b):=by
 rw[Qbu,QaK,QaK,V.int.injEq];omega
section
variable {P:Program} {w:World} {K:YD} {mg:YB} {base:Heap}
abbrev xp:YF:=["_law_panel","_law_first","_law_marks"]
theorem Vb (c:Code K mg "_law_houses" Dy Fy) (T:Nm mg):Good P w K mg base "_law_houses" 1 Fy Ku:=by
 refine c.good Cr (λvs H Q E h=>?_) (λf cdv A outer s H vs Q E hr h=>?_)
 ·obtain⟨a,n,links,rfl,_⟩:=h;rfl
 obtain⟨a,n,links,rfl,ha,hn,n2,n4,q⟩:=h;refine⟨_,(Ae (Ax (i:=1) Cr.nd rfl (Or.inl rfl) (Ak CK rfl T.len GD (Aa (pv 0) Ac)))
 (Ae (Ax (i:=2) Cr.nd rfl (Or.inr rfl) (Jv rfl rfl T.list rfl T.range (Aa (pv 1) Ac)))
 (Ae (Gs Qbw rfl (Dv rfl T.range (Aa (pv 1) Ac)) (Aw (i:=3) Cr.nd rfl (Or.inl rfl))
 (Ai (Gs Qbw rfl (Dv rfl T.range (Aa (pv 1) Ac)) (Aw (i:=4) Cr.nd rfl (Or.inl rfl))
 (Ai (BW (Wq (Bu Bk (pv 0) (pv 4) (λ_ _=>rfl)) (λ_=>rfl)) (Ae (Ax (i:=5) Cr.nd rfl (Or.inl rfl) (Ak (MN rfl) rfl T.min V2 (Aa (Bu Bk (pv 2) (pv 4) (λ_ _=>rfl)) (Aa (Bu Bk (pv 2) (Ar Ey (Ar Cz (pv 4) Af) (pv 1)) (λ_ _=>rfl)) Ac))))
 (Ae (Ej (pv 5) (Es (pv 2) (pv 4) set_list))
 (Ai (Ej (pv 5) (Es (pv 2) (Ar Ey (Ar Cz (pv 4) Af) (pv 1)) set_list))))) Bp)))))
 (Ae (Ax (i:=6) Cr.nd rfl (Or.inl rfl) (Cw Ac))
 (Ae (Gs Qbw rfl (Dv rfl T.range (Aa (pv 1) Ac)) (Aw (i:=7) Cr.nd rfl (Or.inr rfl))
 (Ai (BW (Bw GX (Bu Bk (pv 2) (pv 7) (λ_ _=>rfl)) (pv 7) (Bs _)) (Ai (Dn (HN Qaj Qag Qah Dw (pv 6) (Aa (CV (N':=xp) rfl (Bj.of (src:=[none,some 7,some 2]) (Ad Dy) xn rfl rfl rfl (by trivial) (by trivial) (by trivial) rfl (by trivial)) (Dv rfl T.range (Aa (pv 1) Ac)) (λ_ _ _ _=>(Aw (i:=0) (show List.Nodup (xp:YF) by trivial) rfl (Or.inl rfl))) (λ_ _ _ _=>(Ju (Bw GX (Bu (Yo (K:=K) rfl) (pv 2) (pv 0) (λ_ _=>rfl)) (pv 1) (Bs _)))) (λ_ _ _ _=>(pv 0))) Ac)))) Bp)))
 (Ai (Bc (pv 6)))))))),?_⟩
 show let R0:TS:=_;let R1:TS:=G9 _ R0 _;let R2:TS:=Al (Iz _ _ R1) _;let R3:TS:=Al _ R2;let R4:TS:=_;let R5:TS:=Al _ R4;let R6:TS:=Al _ R5;let R7:TS:=G9 _ R6 _;let R8:TS:=Iz _ _ R7;let R9:TS:=Al (Iz _ _ R8) R3;let R10:TS:=Al _ R9;Al _ R10 _ _ _;intro R0 R1 R2 R3 R4 R5 R6 R7 R8 R9 R10;refine⟨_,rq,a,_,rq,.inl (SqL.of ha),?_⟩;rw[Qbl,hn];refine Ba ?_;refine⟨_,rq,_,rq,by omega,by omega,λm hm=>?_⟩;rw[QaU];have s1:=Ag hm (.lst (nv (List.range n)));have h1:(upd H m (.lst (nv (List.range n)))) m=some (.lst (nv (mkT n links 0))):=Ab;show HS 2 (.ref m) _ (upd H m (.lst (nv (List.range n)))) _;generalize upd H m (.lst (nv (List.range n)))=H1 at *;refine Ba ?_;have nma:m≠a:=λz=>by rw[z,ha] at hm;cases hm
 refine⟨_,rq,_,rq,by omega,by omega,?_⟩;let J0:YN:=λ(t:Nat) (Z : St) (HH:Hp)=>∃u3 u4 u5,Z=[js a,some (.int n),js m,u3,u4,u5,none,none]/\HH m=some (.lst (nv (mkT n links t)))/\Same H HH;refine GC J0 ⟨_,_,_,rq,h1,s1⟩ (λt Z HH ht h=>?_) (fun Z HH h=>?_)
 ·obtain⟨u3,u4,u5,rfl,e1,e2⟩:=h;refine Ba ⟨_,rq,_,rq,by omega,by omega,?_⟩;let J1:YN:=λ(i:Nat) (Z : St) (HX:Hp)=>∃u3 u4 u5,Z=[js a,some (.int n),js m,u3,u4,u5,none,none]/\HX m=some (.lst (nv (mkI n links (mkT n links t) i)))/\Same H HX;refine GC J1 ⟨_,_,_,rq,e1,e2⟩ (λi Z HX hi h=>?_) (fun Z HX h=>?_)
  ·obtain⟨u3,u4,u5,rfl,g1,g2⟩:=h;rw[QaU] at hi;rw[Int.zero_add];have ml:(mkI n links (mkT n links t) i).length=n:=by rw[Mq,Mp]
   have jn:(i+1) % n < n:=Nat.mod_lt _ (by omega);have ej:((i:Int)+1) % (n:Int)=(((i+1) % n:Nat):Int):=(Int.natCast_emod _ _).symm;refine Ba ⟨_,rq,_,rq,a,_,_,_,rq,rq,SqL.of (g2 _ _ ha),gR (by rw[hn];exact hi),_,rq,?_⟩;have em:mkI n links (mkT n links t) (i+1)=mk1 n links (mkI n links (mkT n links t) i) i:=rfl;generalize mkI n links (mkT n links t) i=M at ml g1 em;cases hb:links.getD i false with
   | false=>
    refine Bo ⟨_,_,_,rq,?_,g2⟩;rw[em];unfold mk1;rw[hb,if_neg QaE];exact g1
   | true=>
    have hat:atI (nv M) (((i:Int)+1) % (n:Int))=some (.int ((M.getD ((i+1) % n) 0:Nat):Int)):=by rw[ej];exact Nx (by omega)
    refine Bm ⟨_,rq,_,rq,m,_,_,_,rq,rq,SqL.of g1,Nx (by omega),_,rq,_,rq,_,_,rq,rq,_,rq,_,_,rq,rq,(by omega),m,_,_,_,rq,rq,SqL.of g1,hat,?_⟩;refine⟨_,_,rq,?_⟩;have el:(if ((M.getD ((i+1) % n) 0:Nat):Int) < ((M.getD i 0:Nat):Int) then ((M.getD ((i+1) % n) 0:Nat):Int) else ((M.getD i 0:Nat):Int))=((min (M.getD i 0) (M.getD ((i+1) % n) 0):Nat):Int):=by
     split <;> omega
    have em2:mkI n links (mkT n links t) (i+1)=(M.set i (min (M.getD i 0) (M.getD ((i+1) % n) 0))).set ((i+1) % n) (min (M.getD i 0) (M.getD ((i+1) % n) 0)):=by
     rw[em];unfold mk1;rw[hb,if_pos rfl]
    generalize min (M.getD i 0) (M.getD ((i+1) % n) 0)=lst at *;refine Ba ?_;rw[el];refine⟨_,rq,_,rq,_,rq,m,_,_,i,rq,rq,g1,ixn (by rw[FJ];omega),?_⟩;refine⟨_,rq,_,rq,_,rq,_,_,rq,rq,_,rq,_,_,rq,rq,(by omega),m,_,_,(i+1) % n,rq,rq,Ab,?_,?_⟩
    ·rw[Qbv,FJ];show ixN M.length (((i:Int)+1) % (n:Int))=_;rw[ej];exact ixn (by omega)
    ·refine⟨_,_,_,rq,?_,(g2.Br Ah.upd hm).Br Ah.upd hm⟩;rw[Ab,em2];unfold nv;rw[QbU,QbU]
  ·obtain⟨u3,u4,u5,rfl,g1,g2⟩:=h;rw[QaU] at g1;exact⟨_,_,_,rq,g1,g2⟩
 obtain⟨u3,u4,u5,rfl,e1,e2⟩:=h;rw[QaU] at e1;have Ml:=Mp n links n;have eh:∀i,KQ n (mkT n links n) i=KQ n (mkT n links n) i:=λ_=>rfl;unfold houses at q;generalize mkT n links n=M at *;refine⟨Bf (by show 0<=1000;decide),λl hl=>?_⟩;have s3:=Ag hl (.lst []);have fl:H l=none:=e2.free hl;have nml:m≠l:=λz=>by rw[z,hl] at e1;cases e1
 have h3:(upd HH l (.lst [])) l=some (.lst []):=Ab;have e1':=s3 _ _ e1;have e2':=e2.trans s3;generalize upd HH l (.lst [])=H3 at *;refine Ba ⟨_,rq,_,rq,by omega,by omega,?_⟩;let J2:YN:=λ(i:Nat) (Z : St) (HX:Hp)=>∃u3 u4 u5 u7,∃as:List Addr,Z=[js a,some (.int n),js m,u3,u4,u5,js l,u7]/\HX m=some (.lst (nv M))/\Gi HX l as (KQ n M i)/\(∀b∈as,H b=none/\b≠l)/\as.length<=i/\Same H HX;refine GC J2 ⟨_,_,_,_,[],rq,e1',⟨h3,.nil⟩,(λb hb=>by cases hb),QbV _,e2'⟩ (λi Z HX hi h=>?_) (fun Z HX h=>?_)
 ·obtain⟨u3,u4,u5,u7,as,rfl,g1,g2,g3,g4,g5⟩:=h;rw[QaU] at hi;rw[Int.zero_add];refine Ba ⟨_,rq,_,rq,m,_,_,_,rq,rq,SqL.of g1,Nx (by omega),_,rq,rq,_,rq,?_⟩;have ehs:KQ n M (i+1)=KQ n M i++if M.getD i 0=i then [(List.range n).filter λp=>decide (M.getD p 0=i)] else []:=by
   unfold KQ;rw[List.range_succ,QaL,Qbo];congr 1;by_cases c:M.getD i 0=i
   ·rw[if_pos c];simp only[Qbc,QbC c,if_true,Qbt,QbJ,List.map_nil]
   ·rw[if_neg c];simp only[Qbc,Qbm c,QaO,if_false,Qbt,List.map_nil]
  by_cases c:M.getD i 0=i
  ·rw[if_pos c] at ehs;rw[YQ,QbC c];refine Bm ⟨_,rq,.inl ⟨rq,_,SqL.of g2.1⟩,_,rq,_,rq,by omega,by omega,λl2 hl2=>?_⟩;have fl2:H l2=none:=g5.free hl2;have nl2:l≠l2:=λz=>by rw[<-z,g2.1] at hl2;cases hl2
   let J3:YN:=λ(k:Nat) (Z : St) (HY:Hp)=>∃u,Z=[u,some (.int i),js m]/\HY l2=some (.lst (nv ((List.range k).filter λp=>decide (M.getD p 0=i))))/\Same HX HY;refine G4 J3 ⟨_,rq,Ab,Ag hl2 _⟩ (λk Z HY hk h=>?_) (fun Z HY h=>?_)
   ·obtain⟨u,rfl,y1,y2⟩:=h;rw[QaU] at hk;rw[Int.zero_add];refine Ba ⟨_,rq,_,rq,m,_,_,_,rq,rq,SqL.of (y2 _ _ g1),Nx (by omega),_,rq,rq,_,rq,?_⟩;rw[YQ];by_cases c2:M.getD k 0=i
    ·rw[QbC c2];refine Bm ⟨_,rq,_,y1,Am ?_,_,rq,?_,y2.Br Ah.upd hl2⟩
     ·rw[FJ];exact QbR (Qas ..) (by rw[QaY];omega)
     ·rw[Ab,List.range_succ,QaL];simp only[Qbc,QbC c2,if_true,Qbt];unfold nv;rw[Qbo];rfl
    ·rw[Qbm c2];refine Bo ⟨_,rq,?_,y2⟩;rw[List.range_succ,QaL];simp only[Qbc,Qbm c2,QaO,if_false,Qbt,Qbq];exact y1
   ·obtain⟨u,rfl,y1,y2⟩:=h;rw[QaU] at y1;have gl:=y2 _ _ g2.1;refine⟨l,_,_,rq,rq,gl,Am (by rw[Qbl];omega),?_⟩;have t1:=g2.same y2;refine⟨_,_,_,_,as++[l2],rq,?_,⟨by rw[Ab,Qbo];rfl,?_⟩,?_,by rw[QaI];exact Nat.succ_le_succ g4,(g5.trans y2).Br Ah.upd fl⟩
    ·rw[Aj nml];exact y2 _ _ g1
    ·rw[ehs];refine Ca ?_ (.cons (by rw[Aj nl2.symm];exact y1) .nil);exact G6 t1.2 λx hx y e=>by rw[Aj (g3 x hx).2];exact e
    ·intro b hb;rcases Qbn.mp hb with hb | hb
     ·exact g3 b hb
     ·rw[QaF.mp hb];exact⟨fl2,nl2.symm⟩
  ·rw[if_neg c,Qbq] at ehs;rw[YQ,Qbm c];exact Bo ⟨_,_,_,_,as,rq,g1,by rw[ehs];exact g2,g3,Nat.le_succ_of_le g4,g5⟩
 ·obtain⟨u3,u4,u5,u7,as,rfl,g1,g2,g3,g4,g5⟩:=h;rw[QaU] at g2;exact⟨_,rq,q l as _ fl (λb hb=>(g3 b hb).1) g2 g5⟩
end
abbrev Bx:Stmt:=(inClass (top 24) 9)
abbrev Cp:YF:=["self"]
abbrev xi:YF:=["self","told","one","other","touched","apart"]
theorem BX:Az xi Cp (Ad Bx):=by ac_rfl
theorem T8 {K:YD} {a l:Addr} {xs:YG} {g:TG} {wi2:TI} {g2:TG} {te:TE} {Q:VK} {σ0:St} {H0:Hp} (Pv:YN)
  (h0:Pv 0 σ0 H0) (hl:∀i Z H',i<=xs.length->Pv i Z H'->SqL K H' a xs)
  (hs:∀i x Z H',xs[i]?=some x->Pv i Z H'->g x Z H' fun σ3 H3=>wi2 σ3 H3 λJ2 H4=>CIn J2 g2 te l (Pv (i+1)) σ3 H4)
  (hd:∀ Z H',Pv xs.length Z H'->Q (.ref l) H'):LR (Itl K a) g wi2 g2 te Q σ0 H0 l:=by
 unfold LR;refine⟨λi m Z H'=>m=xs.length - i/\i<=xs.length/\Pv i Z H',⟨xs.length,by simp,QbW _,h0⟩,?_⟩;rintro i m Z H' ⟨rfl,hi,p⟩;have q:=hl i Z H' hi p;by_cases hlt:i < xs.length
 ·refine .inr ⟨⟨xs,xs[i],q,by simp[hlt]⟩,Pv (i+1),fun σ3 H3 p'=>⟨xs.length - (i+1),by omega,rq,hlt,p'⟩,λv H2 y=>?_⟩;obtain⟨rfl,hx⟩:=y;exact hs i v Z _ (hx xs q) p
 ·have e:i=xs.length:=by omega
  subst e;exact .inl ⟨⟨xs,q,QbV _⟩,hd Z H' p⟩
theorem Ou {X:Cx} {K:YD} {tg l:Expr} {tl:TE} (h:X.K=K) (hl:PE X l tl):PI X tg l (Zt K tl):=h ▸ Cu hl
def inB (h:List Nat) (d:Nat×Nat):Bool:=h.contains d.1 || h.contains d.2
def mrg (n:Nat) (hs:List (List Nat)) (d:Nat×Nat):List Nat:=(List.range n).filter λk=>((hs.filter λh=>inB h d).flatten).contains k
def stp (n:Nat) (hs:List (List Nat)) (d:Nat×Nat):List (List Nat):=hs.filter (λh=>!inB h d)++[mrg n hs d]
def tB (n:Nat) (tied:List Bool) (m:Nat):List (List Nat):=((prs n tied n).take m).foldl (stp n) ((List.range n).map λk=>[k])
def stG (n:Nat) (hs:List (List Nat)) (d:Nat×Nat):Bool:=decide (hs.length<=n)&&decide (((hs.filter λh=>inB h d).flatten).length<=n)&&((hs.filter λh=>inB h d).flatten).isPerm (mrg n hs d)
def hd0 (h:List Nat):Int:=(h.headD 0:Nat)
def stE (n:Nat) (tied:List Bool) (hs:List (List Nat)):Bool:=decide (hs.length<=n)&&hs.isPerm (houses n tied)&&hs.all (λh=>!h.isEmpty)&&decide (((houses n tied).map hd0).Pairwise (· < ·))
def stB (n:Nat) (tied:List Bool):Bool:=((List.range (prs n tied n).length).all λm=>stG n (tB n tied m) ((prs n tied n).getD m (0,0)))&&stE n tied (tB n tied (prs n tied n).length)
theorem iI:∀a b,stB 2 [a,b]=true:=by trivial
theorem iH:∀a b c,stB 3 [a,b,c]=true:=by trivial
theorem iG:∀a b c d,stB 4 [a,b,c,d]=true:=by trivial
theorem ZJ {n:Nat} {tied:List Bool} (n2:2<=n) (n4:n<=4) (tn:tied.length=n):stB n tied=true:=by
 match tied,tn with
 | [a,b],tn=>subst tn;exact iI a b
 | [a,b,c],tn=>subst tn;exact iH a b c
 | [a,b,c,d],tn=>subst tn;exact iG a b c d
 | [],tn=>simp at tn;omega
 | [_],tn=>simp at tn;omega
 | _::_::_::_::_::_,tn=>simp at tn;omega
theorem ZD {n:Nat} {tied:List Bool} {m:Nat} {d:Nat×Nat} (h:(prs n tied n)[m]?=some d):tB n tied (m+1)=stp n (tB n tied m) d:=by
 unfold tB;rw[Qca h,List.foldl_append];rfl
theorem WT (n:Nat) (hs:List (List Nat)) (d:Nat×Nat):(mrg n hs d).Pairwise (· < ·):=List.pairwise_lt_range.sublist List.filter_sublist
theorem aF (n:Nat) (hs:List (List Nat)) (d:Nat×Nat):(mrg n hs d).length<=n:=QbR (Qas ..) (by rw[QaY];exact QbV _)
theorem Rf {α : Type} (k:α->Int):∀{g h:List α},(g.map k).Pairwise (· < ·)->(h.map k).Pairwise (· < ·)->(∀e,e∈g ↔ e∈h)->g=h
 | [],[],_,_,_=>rfl
 | [],e::r,_,_,m=>by have:=(m e).mpr (.head _);cases this
 | e::r,[],_,_,m=>by have:=(m e).mp (.head _);cases this
 | e::r,f::t,hg,hh,m=>by
  obtain⟨g1,g2⟩:=QaS.mp hg;obtain⟨h1,h2⟩:=QaS.mp hh;have g1:∀x∈r,k e < k x:=λx hx=>g1 _ (QbQ.mpr ⟨x,hx,rq⟩);have h1:∀x∈t,k f < k x:=λx hx=>h1 _ (QbQ.mpr ⟨x,hx,rq⟩);have ef:e=f:=by
   rcases QbF.mp ((m e).mp (.head _)) with z | z
   ·exact z
   ·rcases QbF.mp ((m f).mpr (.head _)) with z' | z'
    ·exact z'.symm
    ·exact absurd (Int.lt_trans (h1 e z) (g1 f z')) (QbK _)
  subst ef;rw[Rf k g2 h2 λx=>?_];constructor
  ·intro hx;rcases QbF.mp ((m x).mp (.tail _ hx)) with z | z
   ·exact absurd (g1 x hx) (by rw[z];exact QbK _)
   ·exact z
  ·intro hx;rcases QbF.mp ((m x).mpr (.tail _ hx)) with z | z
   ·exact absurd (h1 x hx) (by rw[z];exact QbK _)
   ·exact z
theorem Q8 {α β : Type} {F:α->β->Prop} {l:List α} {m:List β} (d:α) (e:β) (h:Paired F l m):∀is:List Nat,(∀i∈is,i < l.length)->Paired F (is.map λi=>l.getD i d) (is.map λi=>m.getD i e)
 | [],_=>.nil
 | i::is,hi=>.cons (Gj d e h (hi i (.head _))) (Q8 d e h is λj hj=>hi j (.tail _ hj))
theorem Rn:∀{g h:List Int},g.Pairwise (· < ·)->h.Pairwise (· < ·)->(∀e,e∈g ↔ e∈h)->g=h
 | [],[],_,_,_=>rfl
 | [],e::r,_,_,m=>by have:=(m e).mpr (.head _);cases this
 | e::r,[],_,_,m=>by have:=(m e).mp (.head _);cases this
 | e::r,f::t,hg,hh,m=>by
  obtain⟨g1,g2⟩:=QaS.mp hg;obtain⟨h1,h2⟩:=QaS.mp hh;have ef:e=f:=by
   rcases QbF.mp ((m e).mp (.head _)) with z | z
   ·exact z
   ·rcases QbF.mp ((m f).mpr (.head _)) with z' | z'
    ·exact z'.symm
    ·exact absurd (Int.lt_trans (h1 e z) (g1 f z')) (QbK _)
  subst ef;rw[Rn g2 h2 λx=>?_];constructor
  ·intro hx;rcases QbF.mp ((m x).mp (.tail _ hx)) with z | z
   ·exact absurd (g1 x hx) (by rw[z];exact QbK _)
   ·exact z
  ·intro hx;rcases QbF.mp ((m x).mpr (.tail _ hx)) with z | z
   ·exact absurd (h1 x hx) (by rw[z];exact QbK _)
   ·exact z
def iN (l:List Nat):List Int:=l.map λk:Nat=>(k:Int)
theorem Tw (l:List Nat):(iN l).map V.int=nv l:=by unfold iN nv;rw[List.map_map];rfl
theorem Ro {r:List Nat} (h:r.Pairwise (· < ·)):(iN r).Pairwise (· < ·):=by
 unfold iN;rw[List.pairwise_map];exact h.imp λh=>by omega
theorem Qx {ms:List Int} {l r:List Nat} (h1:ms.Perm (iN l)) (h2:ms.Pairwise (·<=·)) (h3:l.Perm r) (h4:r.Pairwise (· < ·)):ms=iN r:=by
 have hp:ms.Perm (iN r):=h1.trans (h3.map _);have nd:(iN r).Nodup:=(Ro h4).imp λh=>by omega
 have nd2:ms.Nodup:=hp.nodup_iff.mpr nd;refine Rn ?_ (Ro h4) λe=>hp.mem_iff;refine (List.pairwise_and_iff.mpr ⟨h2,nd2⟩).imp λzz=>?_;obtain⟨a,b⟩:=zz;exact by omega
theorem Lx (h:List Nat) (k:Nat):inV (.int (k:Int)) (nv h)=h.contains k:=by
 induction h with
 | nil=>rfl
 | cons a r ih=>
  show (eqV (.int (a:Int)) (.int (k:Int)) || inV (.int (k:Int)) (nv r))=_;rw[ih,List.contains_cons];congr 1;show ((a:Int) == (k:Int))=(k == a);rw[Qbu,beq_iff_eq,beq_iff_eq];omega
theorem Kc (h:List Nat):(nv h).all G3=true:=by
 unfold nv;rw[List.all_map];exact List.all_eq_true.mpr λ_ _=>rfl
inductive Hw (C:Addr) (vs:YG) (H:Hp) (Q:VK) (E:XK):Prop
 | mk (p L T:Addr) (as:List Addr) (n:Nat) (logs:List (List En)) (tied:List Bool) (_:vs=[.ref p]) (_:RAt C H p L T as n logs tied) (_:∀l bs H',H l=none->(∀b∈bs,H b=none)->l∉bs->Gi H' l bs (houses n tied)->Same H H'->Q (.ref l) H'):Hw C vs H Q E
section
variable {P:Program} {w:World} {K:YD} {mg:YB} {base:Heap} {C:Addr}
abbrev xg:YF:=["house","one","other"]
abbrev xj:YF:=["house","panel"]
theorem Sx (c:Ck K C "houses" "Ring.houses" Bx Cp) (T:Tx K mg C) (JG:Fb P w K mg base C "pairs" 1 Cy (JT C)):Fb P w K mg base C "houses" 2 Cp (Hw C):=by
 refine c.good BX (λvs H Q E h=>?_) (λf cdv A outer s H vs Q E hr h=>?_)
 ·obtain⟨p,L,T,as,n,logs,tied,rfl,_⟩:=h;rfl
 obtain⟨p,L,TT,as,n,logs,tied,rfl,R,q⟩:=h;refine⟨_,(Ae (Mg (i:=1) BX.nd rfl (Or.inl rfl) (N':=["panel"]) rfl (Bj.plain rfl (by trivial) (by trivial) (by trivial)) (Dv rfl T.range (Aa (Ek (pv 0) rfl) Ac)) (λ_ _ _ _=>(Aw (i:=0) (show List.Nodup (["panel"]:YF) by trivial) rfl (Or.inl rfl))) (λ_ _ _ _=>Et) (λ_ _ _ _=>(Cw (Aa (pv 0) Ac))))
 (Ae (Gs Qbw rfl (Cu (Jb (pv 0) T.cl JG hr)) (Lh rfl (Cm (Aw (i:=2) BX.nd rfl (Or.inr rfl)) (Cm (Aw (i:=3) BX.nd rfl (Or.inr rfl)) Ig)))
 (Ae (Mg (i:=4) BX.nd rfl (Or.inl rfl) (N':=xg) rfl (Bj.of (src:=[none,some 2,some 3]) (Ad Bx) xi rfl rfl rfl (by trivial) (by trivial) (by trivial) rfl (by trivial)) (Cu (pv 1)) (λ_ _ _ _=>(Aw (i:=0) (show List.Nodup (xg:YF) by trivial) rfl (Or.inl rfl))) (λ_ _ _ _=>(Ju (PW.pt (JX (Bw (Lk (K:=K) rfl) (pv 1) (pv 0) (by with_unfolding_all rfl)) (Ie (Bw (Lk (K:=K) rfl) (pv 2) (pv 0) (by with_unfolding_all rfl))))))) (λ_ _ _ _=>(pv 0)))
 (Ae (Mg (i:=5) BX.nd rfl (Or.inl rfl) (N':=xg) rfl (Bj.of (src:=[none,some 2,some 3]) (Ad Bx) xi rfl rfl rfl (by trivial) (by trivial) (by trivial) rfl (by trivial)) (Cu (pv 1)) (λ_ _ _ _=>(Aw (i:=0) (show List.Nodup (xg:YF) by trivial) rfl (Or.inl rfl))) (λ_ _ _ _=>(Ju (PW.pt (bR (Bw (Jm (K:=K) rfl) (pv 1) (pv 0) (by with_unfolding_all rfl)) (ZP (Bw (Jm (K:=K) rfl) (pv 2) (pv 0) (by with_unfolding_all rfl))))))) (λ_ _ _ _=>(pv 0)))
 (Ai (Ax (i:=1) BX.nd rfl (Or.inl rfl) (Ar Jy (pv 5) (Cw (Aa (Ak Qk rfl T.sorted MP (Aa (Ww (N':=xj) rfl (Bj.plain rfl (by trivial) (by trivial) (by trivial)) (Cu (pv 4)) (λ_ _ _ _=>(Aw (i:=0) (show List.Nodup (xj:YF) by trivial) rfl (Or.inl rfl))) (λ_ _ _ _=>(Ou (K:=K) rfl (pv 0))) (λ_ _ _ _=>(Aw (i:=1) (show List.Nodup (xj:YF) by trivial) rfl (Or.inl rfl))) (λ_ _ _ _=>(pv 1))) Ac)) Ac))))))))
 (Ai (Bc (Ak (Qj hr.units) rfl T.sorted MP (Aa (pv 1) Ac)))))),?_⟩
 show let R0:TS:=_;let R1:TS:=_;let R2:TS:=Al _ R1;let R3:TS:=Al _ R2;let R4:TS:=Al (Iz _ _ R3) R0;Al _ R4 _ _ _;intro R0 R1 R2 R3 R4;obtain⟨dx,ob⟩:=R.ob;have n2:=R.n2;have n4:=R.n4;have ok:=ZJ n2 n4 R.tn;unfold stB at ok;rw[Qba] at ok;obtain⟨ok,okE⟩:=ok;refine⟨_,rq,p,C,dx,_,_,rq,ob,T.cl,T.Il,Jf _ _ _,_,rq,by omega,by omega,λl0 hl0=>?_⟩;let J0:YN:=λ(i:Nat) (Z : St) (HH:Hp)=>∃(u:Option V) (bs:List Addr),Z=[u]/\Gi HH l0 bs ((List.range i).map λk=>[k])/\l0∉bs/\(∀a∈bs,H a=none)/\Same H HH;refine G4 J0 ⟨_,[],rq,⟨Ab,.nil⟩,(λz=>by cases z),(λa ha=>by cases ha),Ag hl0 _⟩ (λi Z HH hi h=>?_) (fun Z HH h=>?_)
 ·obtain⟨u,bs,rfl,e1,e2,ef,e3⟩:=h;rw[QaU] at hi;rw[Int.zero_add];refine Ba (Bm ⟨_,rq,Bf (by show 1<=1000;decide),λa ha=>?_⟩);have s4:=Ag ha (.lst [.int (i:Int)]);have h4:(upd HH a (.lst [.int (i:Int)])) a=some (.lst (nv [i])):=Ab;have e1':=e1.same s4;have nla:l0≠a:=λz=>by rw[<-z,e1.1] at ha;cases ha
  have fa:H a=none:=e3.free ha;have e3':=e3.trans s4;have bl:=QbG e1.2;rw[Qbl,QaY] at bl;generalize upd HH a (.lst [.int (i:Int)])=H4 at *;refine⟨_,e1'.1,Am (by rw[Qbl];omega),_,bs++[a],rq,⟨by rw[Ab,Qbo];rfl,?_⟩,?_,?_,e3'.Br Ah.upd hl0⟩
  ·rw[List.range_succ,Qbo];exact Ca (G6 e1'.2 λx hx y e=>by rw[Aj (show x≠l0 from λz=>e2 (by rw[<-z];exact hx))];exact e) (.cons (by rw[Aj nla.symm];exact h4) .nil)
  ·intro z;rcases Qbn.mp z with z | z
   ·exact e2 z
   ·exact nla (QaF.mp z)
  ·intro z hz;rcases Qbn.mp hz with hz | hz
   ·exact ef z hz
   ·rw[QaF.mp hz];exact fa
 obtain⟨u,bs,rfl,e1,e2,ef0,s1⟩:=h;rw[QaU] at e1;refine Ba ⟨_,rq,p,dx,_,rq,s1 _ _ ob,Dh (by trivial),p,L,TT,as,n,logs,tied,rq,R.same s1,λl1 H1 ws fl1 hl1 pw s2=>⟨l1,rq,⟨_,SqL.of hl1⟩,?_⟩⟩;have wl:=QbG pw;let J1:YN:=λ(m:Nat) (Z : St) (HH:Hp)=>∃u2 u3 u4 u5,∃(t:Addr) (bs:List Addr),Z=[js p,js t,u2,u3,u4,u5]/\Gi HH t bs (tB n tied m)/\H t=none/\(∀a∈bs,H a=none)/\Same H1 HH/\Same H HH;refine KZ (xs:=ws) J1 ⟨_,_,_,_,l0,bs,rq,e1.same s2,hl0,ef0,Same.refl _,s1.trans s2⟩ (λi Z HH _ h=>?_) (λm x Z HH hx h=>?_) (fun Z HH h=>?_)
 ·obtain⟨u2,u3,u4,u5,t,bs,rfl,e1,e2,ef,e3,e4⟩:=h;exact SqL.of (e3 _ _ hl1)
 ·obtain⟨u2,u3,u4,u5,t,bs,rfl,e1,e2,ef,e3,e4⟩:=h;have hm:m < (prs n tied n).length:=by rw[<-wl];exact (Qae.mp hx).1
  obtain⟨d,hd,tp,rfl,htp⟩:=Ed pw hx;have ok1:=List.all_eq_true.mp ok m (QbE.mpr hm);rw[show (prs n tied n).getD m (0,0)=d by rw[Qac,hd];rfl] at ok1;unfold stG at ok1;rw[Qba,Qba] at ok1;obtain⟨⟨o3,o4⟩,o2⟩:=ok1;have o3:=QaX o3;have o4:=QaX o4;have o2:=List.isPerm_iff.mp o2;have o1:=ZD hd;unfold stp at o1;have mr:=WT n (tB n tied m) d;have ml:=aF n (tB n tied m) d;generalize mrg n (tB n tied m) d=mg' at *;generalize tB n tied m=hs at *;obtain⟨m1,m'⟩:=d;have bl:=QbG e1.2;refine⟨tp,_,rq,SqT.of (e3 _ _ htp),rq,_,_,rq,_,_,rq,rq,?_⟩;dsimp only;have Ja:∀{cs:List Addr} {i:Nat} {x:V},(cs.map V.ref)[i]?=some x->∃a,cs[i]?=some a/\x=.ref a:=λ{cs i x} hx=>by
   rw[QaV] at hx;cases h0:cs[i]? with
   | none=>rw[h0] at hx;cases hx
   | some a=>rw[h0] at hx;exact⟨a,rfl,(Qbp hx).symm⟩
  refine⟨_,rq,t,rq,⟨_,SqL.of e1.1⟩,λl2 hl2=>?_⟩;let J2:YN:=λ(i:Nat) (Z : St) (HX:Hp)=>∃(u:Option V) (cs:List Addr),Z=[u,some (.int (m1:Int)),some (.int (m':Int))]/\Gi HX l2 cs ((hs.take i).filter λh=>inB h (m1,m'))/\(∀c∈cs,c∈bs)/\l2∉cs/\cs.length<=i/\Same HH HX;refine Di (xs:=bs.map V.ref) J2 ⟨_,[],rq,⟨Ab,.nil⟩,(λc hc=>by cases hc),(λz=>by cases z),QbV _,Ag hl2 _⟩ (λi Z HX _ g=>?_) (λi x Z HX hx g=>?_) (fun Z HX g=>?_)
  ·obtain⟨u,cs,rfl,g1,g2,g3,g4,g5⟩:=g;exact SqL.of (g5 _ _ e1.1)
  ·obtain⟨u,cs,rfl,g1,g2,g3,g4,g5⟩:=g;obtain⟨a,ha,rfl⟩:=Ja hx;obtain⟨h,hh,hah⟩:=Ed e1.2 ha;have FP:=g5 _ _ hah;have abs:=Qat ha;have hi:i < bs.length:=(Qae.mp ha).1;have cL:a≠l2:=λz=>by rw[<-z] at hl2;rw[hl2] at hah;cases hah
   have yes:inB h (m1,m')=true->∃ys,HX l2=some (.lst ys)/\ys.length < sizeLine/\J2 (i+1) [js a,some (.int (m1:Int)),some (.int (m':Int))] (upd HX l2 (.lst (ys++[.ref a]))):=λhb=>by
    refine⟨_,g1.1,Am (by rw[Qbl];omega),_,cs++[a],rq,⟨by rw[Ab,Qbo];rfl,?_⟩,?_,?_,by rw[QaI];exact Nat.succ_le_succ g4,g5.Br Ah.upd hl2⟩
    ·rw[Qca hh,QaL,Qbc,hb,if_pos rfl,Qbt];exact Ca (G6 g1.2 λx hx y e=>by rw[Aj (show x≠l2 from λz=>g3 (by rw[<-z];exact hx))];exact e) (.cons (by rw[Aj cL];exact FP) .nil)
    ·intro c hc;rcases Qbn.mp hc with hc | hc
     ·exact g2 c hc
     ·rw[QaF.mp hc];exact abs
    ·intro z;rcases Qbn.mp z with z | z
     ·exact g3 z
     ·exact cL (QaF.mp z).symm
   have no:inB h (m1,m')=false->J2 (i+1) [js a,some (.int (m1:Int)),some (.int (m':Int))] HX:=λhb=>by
    refine⟨_,cs,rq,?_,g2,g3,Nat.le_succ_of_le g4,g5⟩;rw[Qca hh,QaL,Qbc,hb,if_neg QaE,Qbt,Qbq];exact g1
   refine Ba ⟨_,rq,_,rq,a,_,rq,.inl (SqL.of FP),rq,Kc h,_,rq,?_⟩;rw[if_neg QaE,Lx];cases c1:h.contains m1 with
   | true=>
    have hb:inB h (m1,m')=true:=by show (h.contains m1 || h.contains m')=true;rw[c1];rfl
    exact Bm (Bm ⟨_,rq,yes hb⟩)
   | false=>
    refine Bo ⟨_,rq,_,rq,a,_,rq,.inl (SqL.of FP),rq,Kc h,_,rq,?_⟩;rw[if_neg QaE,Lx];cases c2:h.contains m' with
    | true=>
     have hb:inB h (m1,m')=true:=by show (h.contains m1 || h.contains m')=true;rw[c1,c2];rfl
     exact Bm ⟨_,rq,yes hb⟩
    | false=>
     have hb:inB h (m1,m')=false:=by show (h.contains m1 || h.contains m')=false;rw[c1,c2];rfl
     exact Bo (no hb)
  obtain⟨u,cs,rfl,g1,g2,g3,g4,g5⟩:=g;rw[Qbl,bl,Qbb] at g1;refine Ba ?_;have e15:=e1.same g5;refine⟨_,rq,t,rq,⟨_,SqL.of e15.1⟩,λl3 hl3=>?_⟩;let J3:YN:=λ(i:Nat) (Z : St) (HY:Hp)=>∃(u:Option V) (ds:List Addr),Z=[u,some (.int (m1:Int)),some (.int (m':Int))]/\Gi HY l3 ds ((hs.take i).filter λh=>!inB h (m1,m'))/\(∀c∈ds,c∈bs)/\l3∉ds/\ds.length<=i/\Same HX HY;refine Di (xs:=bs.map V.ref) J3 ⟨_,[],rq,⟨Ab,.nil⟩,(λc hc=>by cases hc),(λz=>by cases z),QbV _,Ag hl3 _⟩ (λi Z HY _ g=>?_) (λi x Z HY hx g=>?_) (fun Z HY g=>?_)
  ·obtain⟨u,ds,rfl,y1,yb,y2,y3,y4⟩:=g;exact SqL.of (y4 _ _ e15.1)
  ·obtain⟨u,ds,rfl,y1,yb,y2,y3,y4⟩:=g;obtain⟨a,ha,rfl⟩:=Ja hx;obtain⟨h,hh,hah⟩:=Ed e15.2 ha;have FP:=y4 _ _ hah;have hi:i < bs.length:=(Qae.mp ha).1;have cJ:a≠l3:=λz=>by rw[<-z] at hl3;rw[hl3] at hah;cases hah
   have yes:inB h (m1,m')=false->∃ys,HY l3=some (.lst ys)/\ys.length < sizeLine/\J3 (i+1) [js a,some (.int (m1:Int)),some (.int (m':Int))] (upd HY l3 (.lst (ys++[.ref a]))):=λhb=>by
    refine⟨_,y1.1,Am (by rw[Qbl];omega),_,ds++[a],rq,⟨by rw[Ab,Qbo];rfl,?_⟩,?_,?_,by rw[QaI];exact Nat.succ_le_succ y3,y4.Br Ah.upd hl3⟩
    ·rw[Qca hh,QaL,Qbc,hb,Bool.not_false,if_pos rfl,Qbt];exact Ca (G6 y1.2 λx hx y e=>by rw[Aj (show x≠l3 from λz=>y2 (by rw[<-z];exact hx))];exact e) (.cons (by rw[Aj cJ];exact FP) .nil)
    ·intro c hc;rcases Qbn.mp hc with hc | hc
     ·exact yb c hc
     ·rw[QaF.mp hc];exact Qat ha
    ·intro z;rcases Qbn.mp z with z | z
     ·exact y2 z
     ·exact cJ (QaF.mp z).symm
   have no:inB h (m1,m')=true->J3 (i+1) [js a,some (.int (m1:Int)),some (.int (m':Int))] HY:=λhb=>by
    refine⟨_,ds,rq,?_,yb,y2,Nat.le_succ_of_le y3,y4⟩;rw[Qca hh,QaL,Qbc,hb,Bool.not_true,if_neg QaE,Qbt,Qbq];exact y1
   refine Ba ⟨_,rq,_,rq,a,_,rq,.inl (SqL.of FP),rq,Kc h,_,rq,?_⟩;rw[if_pos rfl,Lx];cases c1:h.contains m1 with
   | true=>
    have hb:inB h (m1,m')=true:=by show (h.contains m1 || h.contains m')=true;rw[c1];rfl
    exact Bo (Bo (no hb))
   | false=>
    refine Bm ⟨_,rq,_,rq,a,_,rq,.inl (SqL.of FP),rq,Kc h,_,rq,?_⟩;rw[if_pos rfl,Lx];cases c2:h.contains m' with
    | true=>
     have hb:inB h (m1,m')=true:=by show (h.contains m1 || h.contains m')=true;rw[c1,c2];rfl
     exact Bo (no hb)
    | false=>
     have hb:inB h (m1,m')=false:=by show (h.contains m1 || h.contains m')=false;rw[c1,c2];rfl
     exact Bm ⟨_,rq,yes hb⟩
  obtain⟨u,ds,rfl,y1,yb,y2,y3,s6⟩:=g;rw[Qbl,bl,Qbb] at y1;rw[Qbl] at y3;refine Ba ⟨_,rq,_,rq,l2,rq,⟨_,SqL.of (s6 _ _ g1.1)⟩,λl4 hl4=>?_⟩;have g16:=g1.same s6;generalize hs.filter (λh=>inB h (m1,m'))=tc at *;have cl:=QbG g1.2;have sub:∀i,((tc.take i).flatten).length<=tc.flatten.length:=λi=>by
   have:=congrArg List.flatten (List.take_append_drop i tc);rw[List.flatten_append] at this;rw[<-this,QaI];omega
  refine T8 (xs:=cs.map V.ref) (λ(i:Nat) (Z : St) (HZ:Hp)=>∃(u v:Option V),Z=[u,v]/\HZ l4=some (.lst (nv ((tc.take i).flatten)))/\Same HY HZ) ⟨_,_,rq,Ab,Ag hl4 _⟩ (λi Z HZ _ g=>?_) (λi x Z HZ hx g=>?_) (fun Z HZ g=>?_)
  ·obtain⟨u,v,rfl,z1,z2⟩:=g;exact SqL.of (z2 _ _ g16.1)
  ·obtain⟨u,v,rfl,z1,z2⟩:=g;obtain⟨a,ha,rfl⟩:=Ja hx;obtain⟨h,hh,hah⟩:=Ed g16.2 ha;have FP:=z2 _ _ hah;refine Ba ⟨_,rq,a,rq,⟨_,SqL.of FP⟩,?_⟩;have fl:=sub (i+1);rw[Qca hh,List.flatten_append,QaI] at fl;have fh:([h].flatten).length=h.length:=by simp
   refine YZ (xs:=nv h) (λ(j:Nat) (Z : St) (HV:Hp)=>∃(u v:Option V),Z=[u,v]/\HV l4=some (.lst (nv ((tc.take i).flatten++h.take j)))/\Same HY HV) ⟨_,_,rq,by rw[List.take_zero,Qbq];exact z1,z2⟩ (λj Z HV _ g=>?_) (λj x Z HV hx g=>?_) (fun Z HV g=>?_)
   ·obtain⟨u,v,rfl,v1,v2⟩:=g;exact SqL.of (v2 _ _ hah)
   ·obtain⟨u,v,rfl,v1,v2⟩:=g;have hj:j < h.length:=by have:=(Qae.mp hx).1;rw[FJ] at this;exact this
    have hk:=at_getD (l:=h) 0 hj;have hx':x=.int ((h.getD j 0:Nat):Int):=by
     unfold nv at hx;rw[QaV,hk] at hx;exact (Qbp hx).symm
    subst hx';refine Ba ⟨_,rq,_,v1,Am (by rw[FJ,QaI,Qbk];omega),_,_,rq,?_,v2.Br Ah.upd hl4⟩;rw[Ab,Qca hk,<-List.append_assoc];unfold nv;rw[Qbo (l₂:=[h.getD j 0])];rfl
   ·obtain⟨u,v,rfl,v1,v2⟩:=g;refine⟨_,_,rq,?_,v2⟩;rw[FJ,Qbb] at v1;rw[Qca hh,List.flatten_append];simpa using v1
  obtain⟨u,v,rfl,z1,z2⟩:=g;rw[Qbl,cl,Qbb] at z1;refine⟨l4,iN tc.flatten,rq,SqL.of (by rw[Tw];exact z1),by unfold iN;rw[Qbl];omega,λms l5 hp hs' hl5=>?_⟩;have ems:=Qx hp hs' o2 mr;subst ems;rw[Tw];have s7:=Ag hl5 (.lst (nv mg'));have h7:(upd HZ l5 (.lst (nv mg'))) l5=some (.lst (nv mg')):=Ab;have y17:=(y1.same z2).same s7;have f5:H l5=none:=e4.free (((g5.trans s6).trans z2).free hl5);have sH7:=((g5.trans s6).trans z2).trans s7;generalize upd HZ l5 (.lst (nv mg'))=H7 at *;refine⟨Bf (by show 1<=1000;decide),λl6 hl6=>?_⟩;have s8:=Ag hl6 (.lst [.ref l5]);have h8:(upd H7 l6 (.lst [.ref l5])) l6=some (.lst [.ref l5]):=Ab;have y18:=y17.same s8;have h78:=s8 _ _ h7;have sH8:=sH7.trans s8;generalize upd H7 l6 (.lst [.ref l5])=H8 at *;refine⟨l3,l6,_,_,rq,rq,y18.1,h8,Bf (by rw[Qbl];show ds.length+1<=1000;omega),λl7 hl7=>?_⟩;have s9:=Ag hl7 (.lst (ds.map V.ref++[.ref l5]));refine Ba ⟨_,_,_,_,l7,ds++[l5],rq,⟨by rw[Ab,Qbo];rfl,?_⟩,e4.free (sH8.free hl7),?_,e3.trans (sH8.trans s9),e4.trans (sH8.trans s9)⟩
  ·rw[o1];exact Ca (y18.same s9).2 (.cons (s9 _ _ h78) .nil)
  ·intro z hz;rcases Qbn.mp hz with hz | hz
   ·exact ef z (yb z hz)
   ·rw[QaF.mp hz];exact f5
 ·obtain⟨u2,u3,u4,u5,t,bs,rfl,e1,e2,ef,e3,e4⟩:=h;rw[wl] at e1;unfold stE at okE;rw[Qba,Qba,Qba] at okE;obtain⟨⟨⟨o1,o2⟩,o3⟩,o4⟩:=okE;have o1:=QaX o1;have o2:=List.isPerm_iff.mp o2;have o3:=List.all_eq_true.mp o3;have o4:=QaX o4;generalize tB n tied (prs n tied n).length=hs at *;have bl:=QbG e1.2;have hk:Paired (Ir K HH) (bs.map V.ref) (hs.map hd0):=by
   have:∀{bs:List Addr} {hs:List (List Nat)},Paired (λa h=>HH a=some (.lst (nv h))) bs hs->(∀h∈hs,(!h.isEmpty)=true)->Paired (Ir K HH) (bs.map V.ref) (hs.map hd0):=by
    intro bs hs p
    induction p with
    | nil=>intro _;exact .nil
    | @cons a h _ _ e _ ih=>
     intro ne;refine .cons ?_ (ih λh hh=>ne h (.tail _ hh))
     match h,e,ne h (.head _) with
     | k::r,e,_=>exact⟨a,iN r,rfl,SqL.of (by rw[e,<-Tw];rfl)⟩
   exact this e1.2 o3
  have ndk:(hs.map hd0).Nodup:=(o2.map hd0).nodup_iff.mpr (o4.imp λh=>by omega);refine⟨_,rq,Wf (SqL.of e1.1) (by rw[Qbl];omega) hk ndk λis l hp hr hl=>?_⟩;rw[Qbl] at hp;have hi:∀i∈is,i < bs.length:=λi h=>QbE.mp (hp.mem_iff.mp h);have ev:(is.map λi=>(bs.map V.ref).getD i .non)=(is.map λi=>bs.getD i t).map V.ref:=by
   rw[List.map_map];refine List.map_congr_left λi h=>?_;have:=hi i h;show (bs.map V.ref).getD i .non=V.ref (bs.getD i t);rw[Qac,QaV,at_getD t this];rfl
  have eh:(is.map λi=>hs.getD i [])=houses n tied:=by
   have p1:(is.map λi=>hs.getD i []).Perm hs:=by
    have:=hp.map λi=>hs.getD i [];rw[bl,range_getD] at this;exact this
   refine Rf hd0 ?_ o4 λe=>(p1.trans o2).mem_iff;rw[List.map_map];have:(is.map λi=>(hs.map hd0).getD i 0)=is.map (hd0 ∘ λi=>hs.getD i []):=List.map_congr_left λi h=>by
    have:=hi i h;show (hs.map hd0).getD i 0=hd0 (hs.getD i []);rw[Qac,QaV,at_getD [] (by omega:i < hs.length)];rfl
   rw[<-this];exact hr
  have sl:=Ag hl (.lst (is.map λi=>(bs.map V.ref).getD i .non));have fl:H l=none:=e4.free hl;have hm:∀b∈(is.map λi=>bs.getD i t),b∈bs:=λb hb=>by
   obtain⟨i,h1,rfl⟩:=QbQ.mp hb;exact Qat (at_getD t (hi i h1))
  refine q l (is.map λi=>bs.getD i t) _ fl (λb hb=>ef b (hm b hb)) (λz=>?_) ⟨by rw[Ab,ev],?_⟩ (e4.trans sl)
  ·obtain⟨i,h1,h2⟩:=QbQ.mp z;have:=Gj t [] e1.2 (hi i h1);rw[h2,hl] at this;cases this
  ·rw[<-eh];exact Q8 t [] (Paired.Ia e1.2 λ_ _ z=>sl _ _ z) is hi
end
structure RI (n:Nat) (logs:List (List En)) (W:List En):Prop where
 w:WOk W
 ln:logs.length=n
 up:∀g∈logs,Up g
 sub:∀g∈logs,∀e∈g,e∈W
 cl:∀g∈logs,∀e∈g,∀f∈W,f.pn=e.pn->f.nr < e.nr->f∈g
 own:∀q:Nat,∀e∈W,e.pn=(q:Int)->e∈logs.getD q []
 pn:∀e∈W,e.pn < (n:Int)
 st0:∀e∈W,0<=e.st
 nd:W.Nodup
 num:∀(q i:Nat) (e:En),(Bl W q)[i]?=some e->e.nr=(i:Int)
 rise:∀e∈W,∀f∈W,e.pn=f.pn->e.nr < f.nr->e.st < f.st
theorem Ij {W:List En} {q:Nat} {e:En}:e∈Bl W q ↔ e∈W/\e.pn=(q:Int):=by
 unfold Bl;rw[List.mem_filter,QaK]
theorem U4 {W:List En} (h:W.Nodup) (q:Nat):(Bl W q).Nodup:=h.sublist List.filter_sublist
theorem RI.nlt {n:Nat} {logs:List (List En)} {W:List En} (r:RI n logs W) {q:Nat} {e:En} (h:e∈W) (hq:e.pn=(q:Int)):e.nr < ((Bl W q).length:Int):=by
 obtain⟨i,hi⟩:=Qax (Ij.mpr ⟨h,hq⟩);rw[r.num q i e hi];have:=(Qae.mp hi).1;omega
theorem RI.Z5 {n:Nat} {logs:List (List En)} {W g:List En} {q:Nat} (r:RI n logs W) (hg:logs[q]?=some g):(Bl g q).length=(Bl W q).length:=by
 have hm:=Qat hg;have eg:logs.getD q []=g:=by rw[Qac,hg];rfl
 refine Nat.le_antisymm (Ik (U4 (r.up g hm).nd q) λe he=>?_) (Ik (U4 r.nd q) λe he=>?_)
 ·obtain⟨h1,h2⟩:=Ij.mp he;exact Ij.mpr ⟨r.sub g hm e h1,h2⟩
 ·obtain⟨h1,h2⟩:=Ij.mp he;exact Ij.mpr ⟨eg ▸ r.own q e h1 h2,h2⟩
theorem gQ {e f:En} (h:e.st < f.st) (e1:e.pn < 10000) (e2:e.nr < 10000) (f1:0<=f.pn) (f2:0<=f.nr):e.cd < f.cd:=by
 unfold En.cd;omega
theorem RI.write {n:Nat} {logs:List (List En)} {W g:List En} {q:Nat} {st:Int} {z:Str} (r:RI n logs W) (hg:logs[q]?=some g) (hs:Qs g st) (hz:K3 z) (few:W.length < 63) (n4:n<=4) :
  RI n (logs.set q (g++[⟨st,q,(Bl g q).length,z⟩])) (W++[⟨st,q,(Bl g q).length,z⟩]):=by
 have hq:q < n:=by rw[<-r.ln];exact (Qae.mp hg).1
 have hm:=Qat hg;have eg:logs.getD q []=g:=by rw[Qac,hg];rfl
 have ol:=r.Z5 hg;have owl:(Bl W q).length<=W.length:=Qas ..;rw[ol];have es:(⟨st,q,(Bl W q).length,z⟩ : En).st=st:=rfl;have ep:(⟨st,q,(Bl W q).length,z⟩ : En).pn=(q:Int):=rfl;have en:(⟨st,q,(Bl W q).length,z⟩ : En).nr=((Bl W q).length:Int):=rfl;have et:(⟨st,q,(Bl W q).length,z⟩ : En).tx=z:=rfl;generalize (⟨st,q,(Bl W q).length,z⟩ : En)=e at *;have gst:∀f∈g,f.st < e.st:=λf hf=>by
  rcases hs with⟨h1,h2⟩|⟨_,h2⟩
  ·rw[h1] at hf;cases hf
  ·rw[es];exact h2 f hf
 have est:0<=e.st:=by
  rcases hs with⟨h1,h2⟩|⟨⟨f,hf,h1⟩,h2⟩
  ·rw[es,h2];exact Int.le_refl _
  ·have:=r.st0 f (r.sub g hm f hf);rw[es];omega
 have Yx:∀f∈W,f.pn=e.pn->f∈g:=λf hf hp=>eg ▸ r.own q f hf (by rw[hp,ep]);have enr:∀f∈W,f.pn=e.pn->f.nr < e.nr:=λf hf hp=>by rw[en];exact r.nlt hf (by rw[hp,ep])
 have eW:e∉W:=λh=>absurd (enr e h rfl) (QbK _);have app:∀{P:En->Prop},(∀f∈W,P f)->P e->∀f∈W++[e],P f:=λh1 h2 f hf=>by
  rcases Qbn.mp hf with h | h
  ·exact h1 f h
  ·rw[QaF.mp h];exact h2
 have gin:∀{P:List En->Prop},(∀g∈logs,P g)->P (g++[e])->∀g'∈logs.set q (g++[e]),P g':=λh1 h2 g' hg'=>by
  rcases Qaf hg' with h | h
  ·exact h1 g' h
  ·rw[h];exact h2
 refine⟨⟨by rw[QaI];show W.length+1 < 64;omega,app r.w.pn0 (by rw[ep];omega),app r.w.pn1 (by rw[ep];omega),app r.w.nr0 (by rw[en];omega),app r.w.nr1 (by rw[en];omega),app r.w.tx (by rw[et];exact hz.str),?_⟩,by rw[Qbv];exact r.ln,?_,?_,?_,?_,app r.pn (by rw[ep];omega),app r.st0 est,?_,?_,?_⟩
 ·refine app (λa ha=>app (λb hb=>r.w.inj a ha b hb) λh1 h2=>?_) (app (λb hb h1 h2=>?_) λ_ _=>rfl)
  ·exact absurd (enr a ha h1) (by rw[h2];exact QbK _)
  ·exact absurd (enr b hb h1.symm) (by rw[<-h2];exact QbK _)
 ·refine gin r.up ?_;refine List.pairwise_append.mpr ⟨r.up g hm,List.pairwise_singleton _ _,λf hf b hb=>?_⟩;rw[QaF.mp hb];have fW:=r.sub g hm f hf;exact gQ (gst f hf) (r.w.pn1 f fW) (r.w.nr1 f fW) (by rw[ep];omega) (by rw[en];omega)
 ·refine gin (λg' h f hf=>Qav _ (r.sub g' h f hf)) λf hf=>?_;rcases Qbn.mp hf with h | h
  ·exact Qav _ (r.sub g hm f h)
  ·exact Qap _ h
 ·refine gin (λg' h a ha=>app (λb hb=>r.cl g' h a ha b hb) λh1 h2=>?_) λa ha=>?_
  ·exact absurd (enr a (r.sub g' h a ha) h1.symm) (by omega)
  ·rcases Qbn.mp ha with h | h
   ·refine app (λb hb h1 h2=>Qav _ (r.cl g hm a h b hb h1 h2)) λh1 h2=>?_;exact absurd (enr a (r.sub g hm a h) h1.symm) (by omega)
   ·rw[QaF.mp h];exact app (λb hb h1 _=>Qav _ (Yx b hb h1)) λ_ _=>Qap _ (.head _)
 ·intro k;by_cases c:k=q
  ·subst c;have:(logs.set k (g++[e])).getD k []=g++[e]:=by rw[Qac,Qam (by rw[r.ln];exact hq)];rfl
   rw[this];exact app (λb hb h1=>Qav _ (Yx b hb (by rw[h1,ep]))) λ_=>Qap _ (.head _)
  ·have:(logs.set q (g++[e])).getD k []=logs.getD k []:=by rw[Qac,Qaw (λz=>c z.symm),<-Qac]
   rw[this];refine app (λb hb h1=>r.own k b hb h1) λh1=>?_;rw[ep] at h1;exact absurd (Int.ofNat.inj h1).symm c
 ·exact List.nodup_append.mpr ⟨r.nd,by simp,λx hx y hy z=>by rw[QaF.mp hy] at z;exact eW (z ▸ hx)⟩
 ·intro k i f hf;by_cases c:k=q
  ·subst c;have e1:Bl (W++[e]) k=Bl W k++[e]:=by
    unfold Bl;rw[QaL];simp[ep]
   rw[e1] at hf;by_cases hi:i < (Bl W k).length
   ·rw[List.getElem?_append_left hi] at hf;exact r.num k i f hf
   ·have hi':=Nat.not_lt.mp hi;rw[List.getElem?_append_right hi'] at hf;have hk:i - (Bl W k).length=0:=by
     have:=(Qae.mp hf).1;rw[List.length_singleton] at this;omega
    rw[hk] at hf;cases hf;rw[en];omega
  ·have e1:Bl (W++[e]) k=Bl W k:=by
    have:¬e.pn=(k:Int):=by rw[ep];omega
    unfold Bl;rw[QaL];simp[this]
   rw[e1] at hf;exact r.num k i f hf
 ·refine app (λa ha=>app (λb hb=>r.rise a ha b hb) λh1 _=>gst a (Yx a ha h1)) (app (λb hb h1 h2=>?_) λ_ h=>absurd h (QbK _));exact absurd (enr b hb h1.symm) (by omega)
theorem Vd {n:Nat} {ps:List (Nat×Nat)} {logs:List (List En)} {i:Nat} {e:En} (h:NbP ps logs i e):∃j,e∈logs.getD j []/\∀f,f∈logs.getD j []->NbP ps logs i f:=by
 rcases h with h |⟨d,hd,⟨h1,h2⟩|⟨h1,h2⟩⟩
 ·exact⟨i,h,λf hf=>.inl hf⟩
 ·exact⟨d.2,h2,λf hf=>.inr ⟨d,hd,.inl ⟨h1,hf⟩⟩⟩
 ·exact⟨d.1,h2,λf hf=>.inr ⟨d,hd,.inr ⟨h1,hf⟩⟩⟩
theorem getD_mem' {α : Type} {l:List (List α)} {j:Nat} {e:α} (h:e∈l.getD j []):l.getD j []∈l:=by
 by_cases c:j < l.length
 ·exact Qat (at_getD [] c)
 ·rw[Qac,List.getElem?_eq_none (by omega)] at h;cases h
theorem RI.beat {n:Nat} {logs Df:List (List En)} {W:List En} {ps:List (Nat×Nat)} (r:RI n logs W) (hl:Df.length=n) (h:∀i g',Df[i]?=some g'->Up g'/\∀e,e∈g' ↔ NbP ps logs i e):RI n Df W:=by
 have key:∀g'∈Df,∃i,Df[i]?=some g':=λg' hg=>Qax hg;refine⟨r.w,hl,λg' hg=>?_,λg' hg e he=>?_,λg' hg e he f hf h1 h2=>?_,λq e he hp=>?_,r.pn,r.st0,r.nd,r.num,r.rise⟩
 ·obtain⟨i,hi⟩:=key g' hg;exact (h i g' hi).1
 ·obtain⟨i,hi⟩:=key g' hg;obtain⟨j,hj,_⟩:=Vd (n:=n) (((h i g' hi).2 e).mp he);exact r.sub _ (getD_mem' hj) e hj
 ·obtain⟨i,hi⟩:=key g' hg;obtain⟨j,hj,hall⟩:=Vd (n:=n) (((h i g' hi).2 e).mp he);exact ((h i g' hi).2 f).mpr (hall f (r.cl _ (getD_mem' hj) e hj f hf h1 h2))
 ·have h1:=r.own q e he hp;have hq:q < Df.length:=by
   rw[hl,<-r.ln];by_cases c:q < logs.length
   ·exact c
   ·rw[Qac,List.getElem?_eq_none (by omega)] at h1;cases h1
  exact ((h q _ (at_getD [] hq)).2 e).mpr (.inl h1)
abbrev Ga:Stmt:=top 31
abbrev Hj:YF:=["_law_circle","_law_links"]
theorem Hx:Az ["_law_circle","_law_links","_law_due","_law_turn","_law_found"] Hj (Ad Ga):=by ac_rfl
theorem VP {X:Cx} {K:YD} (h:X.K=K):Cq X (.builtin "isinstance") (Hh K):=h ▸ Fi
theorem V0 {X:Cx} {K:YD} (h:X.K=K) (hc:X.calm=true):Cq X (.builtin "all") (λxs H Q=>∃(p:Addr) (bs:List Bool),xs=[.ref p]/\SqL K H p (bs.map V.bl)/\Q (.bl (bs.all id)) H):=h ▸ Hu hc
theorem Nk {X:Cx} {K:YD} (h:X.K=K):Cq X (.type "list") (λxs H Q=>∃p ys,xs=[.ref p]/\(SqL K H p ys\/SqT K H p ys)/\∀l,H l=none->Q (.ref l) (upd H l (.lst ys))):=h ▸ JL
theorem Ka {H:Hp}:∀l:List Nat,GK H (nv l) (l.map λk:Nat=>PyData.int (k:Int))
 | []=>.nil
 | _::r=>.cons (.int _) (Ka r)
def hD (hs:List (List Nat)):PyData:=.list (hs.map λh=>.list (h.map λk:Nat=>PyData.int (k:Int)))
theorem Rp {H:Hp}:∀{as:List Addr} {hs:List (List Nat)},Paired (λa h=>H a=some (.lst (nv h))) as hs->GK H (as.map V.ref) (hs.map λh=>.list (h.map λk:Nat=>PyData.int (k:Int)))
 | _,_,.nil=>.nil
 | _,_,.cons a r=>.cons (.lst a (Ka _)) (Rp r)
theorem Io {H:Hp} {l:Addr} {as:List Addr} {hs:List (List Nat)} (h:Gi H l as hs):Rep H (.ref l) (hD hs):=.lst h.1 (Rp h.2)
def shB (n:Nat) (tied:List Bool):Bool:=SeqAt.shaped (hD (houses n tied))&&decide ((houses n tied).length<=n)&&((houses n tied).all λh=>decide (h.length<=n))&&!(houses n tied).isEmpty
theorem ji:∀a b,shB 2 [a,b]=true:=by trivial
theorem jh:∀a b c,shB 3 [a,b,c]=true:=by trivial
theorem jg:∀a b c d,shB 4 [a,b,c,d]=true:=by trivial
theorem Ux {n:Nat} {tied:List Bool} (n2:2<=n) (n4:n<=4) (tn:tied.length=n):SeqAt.shaped (hD (houses n tied))=true/\(houses n tied).length<=n/\(∀h∈houses n tied,h.length<=n)/\houses n tied≠[]:=by
 have:shB n tied=true:=by
  match tied,tn with
  | [a,b],tn=>subst tn;exact ji a b
  | [a,b,c],tn=>subst tn;exact jh a b c
  | [a,b,c,d],tn=>subst tn;exact jg a b c d
  | [],tn=>simp at tn;omega
  | [_],tn=>simp at tn;omega
  | _::_::_::_::_::_,tn=>simp at tn;omega
 unfold shB at this;rw[Qba,Qba,Qba] at this;obtain⟨⟨⟨h1,h2⟩,h3⟩,h4⟩:=this;exact⟨h1,QaX h2,λh hh=>QaX (List.all_eq_true.mp h3 h hh),λz=>by rw[z] at h4;cases h4⟩
theorem Ja {cs:List Addr} {i:Nat} {x:V} (hx:(cs.map V.ref)[i]?=some x):∃a,cs[i]?=some a/\x=.ref a:=by
 rw[QaV] at hx;cases h0:cs[i]? with
 | none=>rw[h0] at hx;cases hx
 | some a=>rw[h0] at hx;exact⟨a,rfl,(Qbp hx).symm⟩
theorem cF {h:List Nat} {i:Nat} {x:V} (hx:(nv h)[i]?=some x):∃k:Int,x=.int k:=by
 unfold nv at hx;rw[QaV] at hx;cases h0:h[i]? with
 | none=>rw[h0] at hx;cases hx
 | some a=>rw[h0] at hx;exact⟨a,(Qbp hx).symm⟩
inductive N8 (C:Addr) (vs:YG) (H:Hp) (Q:VK) (E:XK):Prop
 | mk (p L T lk:Addr) (as:List Addr) (n:Nat) (logs:List (List En)) (tied:List Bool) (_:vs=[.ref p,.ref lk]) (_:RAt C H p L T as n logs tied) (_:H lk=some (.lst (tied.map V.bl))) (_:∀H',Same H H'->Q (.bl true) H'):N8 C vs H Q E
section
variable {P:Program} {w:World} {K:YD} {mg:YB} {base:Heap} {C:Addr}
abbrev xf:YF:=["_law_house"]
theorem Z6 (c:Code K mg "_law_told" Ga Hj) (T:Tx K mg C) (TQ:Good P w K mg base "_law_houses" 1 Fy Ku) (Vw:Good P w K mg base "_law_whole" 1 Gw N7) (FQ:Fb P w K mg base C "houses" 2 Cp (Hw C)):Good P w K mg base "_law_told" 3 Hj (N8 C):=by
 refine c.good Hx (λvs H Q E h=>?_) (λf cdv A outer s H vs Q E hr h=>?_)
 ·obtain⟨p,L,T,lk,as,n,logs,tied,rfl,_⟩:=h;rfl
 obtain⟨p,L,TT,lk,as,n,logs,tied,rfl,R,hk,q⟩:=h;refine⟨_,(Ae (Ax (i:=2) Hx.nd rfl (Or.inl rfl) (Ov TQ hr (Aa (pv 1) Ac)))
 (Ae (Gs Qbw rfl (Dv rfl T.range (Aa Af Ac)) (Aw (i:=3) Hx.nd rfl (Or.inl rfl))
 (Ae (Ax (i:=4) Hx.nd rfl (Or.inl rfl) (Jb (pv 0) T.cl FQ hr))
 (Ae (BW (PW.pt (JX (CZ (CW (Ak Fi rfl T.isinstance Ao (Aa (pv 4) (Aa (Fq (v:=.ty "list") rfl T.list Kh rfl) Ac))))) (Ie (CZ (CW (Ak (Hu rfl) rfl T.all JM (Aa (CV (N':=xf) rfl (Bj.plain rfl (by trivial) (by trivial) (by trivial)) (Cu (pv 4)) (λ_ _ _ _=>(Aw (i:=0) (show List.Nodup (xf:YF) by trivial) rfl (Or.inl rfl))) (λ_ _ _ _=>Et) (λ_ _ _ _=>(Ak (VP (K:=K) rfl) rfl T.isinstance Ao (Aa (pv 0) (Aa (Fq (v:=.ty "list") rfl T.list Kh rfl) Ac))))) Ac))))))) (Ai (Bc Dc)) Bp)
 (Ae (BW (PW.pt (JX (CZ (CW (Ak (Hu rfl) rfl T.all JM (Aa (CV (N':=xf) rfl (Bj.plain rfl (by trivial) (by trivial) (by trivial)) (Cu (pv 4)) (λ_ _ _ _=>(Aw (i:=0) (show List.Nodup (xf:YF) by trivial) rfl (Or.inl rfl))) (λ_ _ _ _=>Et) (λ_ _ _ _=>(Ak (V0 (K:=K) rfl rfl) rfl T.all JM (Aa (CV (N':=["_law_panel"]) rfl (Bj.plain rfl (by trivial) (by trivial) (by trivial)) (Ou (K:=K) rfl (pv 0)) (λ_ _ _ _=>(Aw (i:=0) (show List.Nodup (["_law_panel"]:YF) by trivial) rfl (Or.inl rfl))) (λ_ _ _ _=>Et) (λ_ _ _ _=>(Ov Vw hr (Aa (pv 0) Ac)))) Ac)))) Ac)))) (Ie (Bw (U6 hr.units) (pv 4) (pv 2) (Bs _))))) (Ai (Bc Dc)) Bp)
 (Ae (Dn (HN Qaj Qag Qah Dw (Bu Bk (pv 4) Af (λ_ _=>rfl)) (Aa Af Ac)))
 (Ai (Dn (HN Qaj Qag Qah Dw (pv 4) (Aa (Cw (Aa Af Ac)) Ac)))))))))
 (Ai (Bc Dc)))),?_⟩
 show let R0:TS:=_;let R1:TS:=Al _ R0;let R2:TS:=Al _ R1;let R3:TS:=Al _ R2;let R4:TS:=Al _ R3;let R5:TS:=Al (Iz _ _ R4) _;Al _ R5 _ _ _;intro R0 R1 R2 R3 R4 R5;have n2:=R.n2;have n4:=R.n4;obtain⟨shp,hl4,hh4,hne⟩:=Ux n2 n4 R.tn;refine⟨_,rq,lk,n,tied,rq,hk,R.tn,n2,n4,λd ds H1 fd fds hd s1=>Ba ?_⟩;refine⟨2,rq,by omega,by omega,?_⟩;let J0:YN:=λ(i:Nat) (Z : St) (HH:Hp)=>∃u3 u4,Z=[js p,js lk,js d,u3,u4]/\Same H1 HH;refine GC J0 ⟨_,_,rq,Same.refl _⟩ (λi Z HH _ h=>?_) (fun Z HH h=>?_)
 ·obtain⟨u3,u4,rfl,s2⟩:=h;have R2:=(R.same s1).same s2;obtain⟨dx,ob⟩:=R2.ob;refine Ba ⟨_,rq,p,dx,_,rq,ob,Dh (by trivial),p,L,TT,as,n,logs,tied,rq,R2,λl bs H3 fl fbs nl h3 s3=>Ba ?_⟩;have bl:=QbG h3.2;refine⟨_,rq,Rj h3.1 ⟨_,rq,Bo ?_⟩⟩;refine⟨_,rq,l,rq,⟨_,SqL.of h3.1⟩,λl1 hl1=>?_⟩;let J1:YN:=λ(i:Nat) (Z : St) (HY:Hp)=>∃(u:Option V),Z=[u]/\HY l1=some (.lst ((List.replicate i true).map V.bl))/\Same H3 HY;refine Di (xs:=bs.map V.ref) J1 ⟨_,rq,Ab,Ag hl1 _⟩ (λi Z HY _ h=>?_) (λi x Z HY hx h=>?_) (fun Z H4 h=>?_)
  ·obtain⟨u,rfl,y1,y2⟩:=h;exact SqL.of (y2 _ _ h3.1)
  ·obtain⟨u,rfl,y1,y2⟩:=h;obtain⟨a,ha,rfl⟩:=Ja hx;obtain⟨h,hh,hah⟩:=Ed h3.2 ha;have hi:i < bs.length:=(Qae.mp ha).1;refine Ba (Bm ⟨_,rq,Rj (y2 _ _ hah) ⟨_,y1,Am (by simp;omega),_,rq,?_,y2.Br Ah.upd hl1⟩⟩);rw[Ab,Qay,Qbo];rfl
  obtain⟨u,rfl,y1,s4⟩:=h;refine⟨l1,List.replicate (bs.map V.ref).length true,rq,SqL.of y1,_,rq,?_⟩;rw[show (List.replicate (bs.map V.ref).length true).all id=true by simp];refine Bo ?_;have h4:=h3.same s4;refine⟨_,rq,l,rq,⟨_,SqL.of h4.1⟩,λl2 hl2=>?_⟩;let J2:YN:=λ(i:Nat) (Z : St) (HY:Hp)=>∃(u:Option V),Z=[u]/\HY l2=some (.lst ((List.replicate i true).map V.bl))/\Same H4 HY;refine Di (xs:=bs.map V.ref) J2 ⟨_,rq,Ab,Ag hl2 _⟩ (λi Z HY _ h=>?_) (λi x Z HY hx h=>?_) (fun Z H5 h=>?_)
  ·obtain⟨u,rfl,y1,y2⟩:=h;exact SqL.of (y2 _ _ h4.1)
  ·obtain⟨u,rfl,y1,y2⟩:=h;obtain⟨a,ha,rfl⟩:=Ja hx;obtain⟨h,hh,hah⟩:=Ed h4.2 ha;have hi:i < bs.length:=(Qae.mp ha).1;have h4':=hh4 h (Qat hh);have FP:=y2 _ _ hah;refine Ba (Bm ⟨_,rq,a,rq,⟨_,SqL.of FP⟩,λl3 hl3=>?_⟩);let J3:YN:=λ(j:Nat) (Z : St) (HZ:Hp)=>∃(u:Option V),Z=[u]/\HZ l3=some (.lst ((List.replicate j true).map V.bl))/\Same HY HZ;refine Di (xs:=nv h) J3 ⟨_,rq,Ab,Ag hl3 _⟩ (λj Z HZ _ g=>?_) (λj x Z HZ hx g=>?_) (fun Z HZ g=>?_)
   ·obtain⟨u,rfl,z1,z2⟩:=g;exact SqL.of (z2 _ _ FP)
   ·obtain⟨u,rfl,z1,z2⟩:=g;obtain⟨k,rfl⟩:=cF hx;have hj:j < h.length:=by have:=(Qae.mp hx).1;rw[FJ] at this;exact this
    refine Ba (Bm ⟨_,rq,_,rq,True.intro,_,z1,Am (by simp;omega),_,rq,?_,z2.Br Ah.upd hl3⟩);rw[Ab,Qay,Qbo];rfl
   obtain⟨u,rfl,z1,z2⟩:=g;refine⟨l3,List.replicate (nv h).length true,rq,SqL.of z1,_,z2 _ _ y1,Am (by simp;omega),_,rq,?_,(y2.trans z2).Br Ah.upd hl2⟩;rw[show (List.replicate (nv h).length true).all id=true by simp,Ab,Qay,Qbo];rfl
  obtain⟨u,rfl,y1,s5⟩:=h;refine⟨l2,List.replicate (bs.map V.ref).length true,rq,SqL.of y1,_,rq,?_⟩;rw[show (List.replicate (bs.map V.ref).length true).all id=true by simp];have h5:=h4.same s5;have s15:=(s2.trans s3).trans (s4.trans s5);have hd5:=hd.same s15;refine Bo ⟨_,rq,_,rq,_,_,Io h5,Io hd5,shp,shp,_,rq,?_⟩;rw[SeqAt.eqv_refl _ (Qao shp)];refine Bo ?_;obtain⟨b0,br,rfl⟩ : ∃b r,bs=b::r:=by
   match bs,bl with
   | b::r,_=>exact⟨b,r,rfl⟩
   | [],bl=>exact absurd (List.length_eq_zero_iff.mp bl.symm) hne
  obtain⟨h0,hh0,hb0⟩:=Ed h5.2 (show (b0::br)[0]?=some b0 from rfl)
  have h0l:=hh4 h0 (Qat hh0);have fl1:H1 l=none:=s2.free fl;have fb1:H1 b0=none:=s2.free (fbs b0 (.head _));have nlb:l≠b0:=λz=>nl (z ▸ .head _);refine⟨_,rq,l,_,_,(.ref b0),rq,rq,SqL.of h5.1,(show atI ((b0::br).map V.ref) ((0:Nat):Int)=_ from Fw rfl),.inl ⟨rq,_,SqL.of hb0⟩,b0,_,_,rq,rq,hb0,Am (by rw[FJ];omega),?_⟩
  have s6:Same H1 (upd H5 b0 (.lst (nv h0++[.int 9]))):=s15.Br Ah.upd fb1;have h6:(upd H5 b0 (.lst (nv h0++[.int 9]))) l=some (.lst ((b0::br).map V.ref)):=by rw[Aj nlb];exact h5.1
  generalize upd H5 b0 (.lst (nv h0++[.int 9]))=H6 at *;refine⟨_,rq,.inl ⟨rq,_,SqL.of h6⟩,Bf (by show 1<=1000;decide),λl7 hl7=>?_⟩;have s7:=Ag hl7 (.lst [.int 0]);have h7:=s7 _ _ h6;have s17:=s6.trans s7;generalize upd H6 l7 (.lst [.int 0])=H7 at *;exact⟨l,_,_,rq,rq,h7,Am (by rw[Qbl];omega),_,_,rq,s17.Br Ah.upd fl1⟩
 obtain⟨u3,u4,rfl,s2⟩:=h;exact q _ (s1.trans s2)
end
abbrev DW:Stmt:=top 32
abbrev Eu:YF:=["_law_circle","_law_thing","_law_way"]
theorem Js:Az ["_law_circle","_law_thing","_law_way","_law_e"] Eu (Ad DW):=by ac_rfl
theorem at8 {i:Int} (h0:0<=i) (h1:i < 8) {a b c d e f g h:V} (P:V->Prop) (pa:P a) (pb:P b) (pc:P c) (pd:P d) (pe:P e) (pf:P f) (pg:P g) (ph:P h):∃v,atI [a,b,c,d,e,f,g,h] i=some v/\P v:=by
 have:i=0\/i=1\/i=2\/i=3\/i=4\/i=5\/i=6\/i=7:=by omega
 rcases this with rfl | rfl | rfl | rfl | rfl | rfl | rfl | rfl
 ·exact⟨_,rq,pa⟩
 ·exact⟨_,rq,pb⟩
 ·exact⟨_,rq,pc⟩
 ·exact⟨_,rq,pd⟩
 ·exact⟨_,rq,pe⟩
 ·exact⟨_,rq,pf⟩
 ·exact⟨_,rq,pg⟩
 ·exact⟨_,rq,ph⟩
theorem Um {x:Int} {n:Nat} (h:(n:Int)<=x):wiB (.int x) 0 ((n:Int) - 1)=false:=by
 show (decide ((0:Int)<=x)&&decide (x<=(n:Int) - 1))=false;rw[Qbm (by omega:¬x<=(n:Int) - 1),Bool.and_false]
theorem bw {n:Nat}:wiB (.int (-1)) 0 ((n:Int) - 1)=false:=by
 show (decide ((0:Int)<=-1)&&decide ((-1:Int)<=(n:Int) - 1))=false;rw[Qbm (by omega),Bool.false_and]
theorem Zn {v:V} {n q:Nat} (h:wiB v 0 ((n:Int) - 1)=false) (e:v=.int q) (hq:q < n):False:=by
 rw[e,Nq hq] at h;cases h
inductive Jr (C:Addr) (vs:YG) (H:Hp) (Q:VK) (E:XK):Prop
 | mk (p L T:Addr) (as:List Addr) (n:Nat) (way:Int) (v:V) (logs:List (List En)) (tied:List Bool) (_:vs=[.ref p,v,.int way]) (_:RAt C H p L T as n logs tied) (_:Kn H v) (_:wiB v 0 ((n:Int) - 1)=false) (_:∀H',Same H H'->Q (.str (Nz 9)) H'):Jr C vs H Q E
section
variable {P:Program} {w:World} {K:YD} {mg:YB} {base:Heap} {C hc c0 c1 c2 c3 c4 c5 c6 c7 c8 c9 c10 c11 c12:Addr}
theorem Sv (c:Code K mg "_law_refused" DW Eu) (T:Tx K mg C) (XE:Er K mg hc c0 c1 c2 c3 c4 c5 c6 c7 c8 c9 c10 c11 c12) (CG:Knd K hc c9 [c0,c1,c2,c3,c4,c5,c6,c7,c8,c9,c10,c11,c12] 9)
  (Mt:CN P w K mg base C "cut" 4 DN (Hf C c9 false)) (KR:CN P w K mg base C "mend" 4 Dm (Hf C c9 true))
  (Ys:NP P w K mg base "_law_kind" 1 Hl (Oa K hc [c0,c1,c2,c3,c4,c5,c6,c7,c8,c9,c10,c11,c12])):Good P w K mg base "_law_refused" 6 Eu (Jr C):=by
 refine c.good Js (λvs H Q E h=>?_) (λf cdv A outer s H vs Q E hr h=>?_)
 ·obtain⟨p,L,T,as,n,way,v,logs,tied,rfl,_⟩:=h;rfl
 obtain⟨p,L,TT,as,n,way,v,logs,tied,rfl,R,kv,e1,q⟩:=h;refine⟨_,(Ae (bT (i:=3) Js.nd rfl rfl rfl rfl rfl XE.QH XE.Qw (λpn E1 EX hx=>(Ai (BW (Bw GX (pv 2) Af (Bs _)) (Ai (Dn (Gv (pv 0) T.cl Mt hr hx (Aa (pv 1) Ac)))) (Ai (Dn (Gv (pv 0) T.cl KR hr hx (Aa (pv 1) Ac)))))))
 (λpn ea=>(Ai (Bc (cj Ys (hr.inH _) (Aa (pv 3) Ac))))))
 (Ai (Bc BJ))),?_⟩
 obtain⟨dx,ob⟩:=R.ob;refine⟨_,rq,rq,_,rq,?_⟩;by_cases c0:way=0
 ·subst c0;refine Bm ⟨_,rq,p,dx,_,rq,ob,Dh (by trivial),_,rq,p,L,TT,as,n,v,logs,tied,rq,R,kv,(λq0 H' ev hq=>(Zn e1 ev hq).elim),λ_=>?_⟩;refine⟨_,rq,CG.xc,CG.sub,λe he=>?_⟩;exact⟨_,rq,e,_,9,rq,Ab,CG,by decide,λHB sB=>q _ ((Ag he _).trans sB)⟩
 ·rw[Qbm (λz=>c0 (V.int.inj z))];refine Bo ⟨_,rq,p,dx,_,rq,ob,Dh (by trivial),_,rq,p,L,TT,as,n,v,logs,tied,rq,R,kv,(λq0 H' ev hq=>(Zn e1 ev hq).elim),λ_=>?_⟩;refine⟨_,rq,CG.xc,CG.sub,λe he=>?_⟩;exact⟨_,rq,e,_,9,rq,Ab,CG,by decide,λHB sB=>q _ ((Ag he _).trans sB)⟩
end
abbrev Ge:Stmt:=top 33
abbrev Ho:YF:=["_law_bag_here","_law_circle","_law_links"]
theorem Gq:Az ["_law_bag_here","_law_circle","_law_links","_law_way","_law_many","_law_link","_law_thing"] Ho (Ad Ge):=by ac_rfl
theorem RAt.exA {C:Addr} {H:Hp} {p L T:Addr} {as:List Addr} {n:Nat} {logs:List (List En)} {tied:List Bool} (h:RAt C H p L T as n logs tied) {x:Addr} (z:x∈as):∃xs,H x=some (.lst xs):=let ⟨_,_,e,_⟩:=Gz h.lg z;⟨_,e⟩
structure LS (C:Addr) (H:Hp) (p L T lk:Addr) (as:List Addr) (n:Nat) (logs:List (List En)) (tied:List Bool) (W:List En):Prop where
 R:RAt C H p L T as n logs tied
 ri:RI n logs W
 hk:H lk=some (.lst (tied.map V.bl))
 np:p≠lk
 nL:L≠lk
 nT:T≠lk
 na:lk∉as
section
variable {C:Addr} {H H':Hp} {p L T lk:Addr} {as:List Addr} {n:Nat} {logs:List (List En)} {tied:List Bool} {W:List En}
theorem LS.same (h:LS C H p L T lk as n logs tied W) (s:Same H H'):LS C H' p L T lk as n logs tied W:=⟨h.R.same s,h.ri,s _ _ h.hk,h.np,h.nL,h.nT,h.na⟩
theorem LS.Bv {x:Addr} (h:LS C H p L T lk as n logs tied W) (s:Ah x H H') (t:∀xs,H x≠some (.tup xs)) (nM:x∉[p,L,T,lk]) (na:x∉as):LS C H' p L T lk as n logs tied W:=by
 simp only[QbF,Qbe,or_false,not_or] at nM;obtain⟨n1,n2,n3,n4⟩:=nM;exact⟨h.R.Bv s t (Ne.symm n1) (Ne.symm n2) (Ne.symm n3) na,h.ri,s _ _ h.hk (Ne.symm n4),h.np,h.nL,h.nT,h.na⟩
theorem LS.ex (h:LS C H p L T lk as n logs tied W):∀m∈[p,L,T,lk],H m≠none:=λm hm z=>by
 simp only[QbF,Qbe,or_false] at hm;rcases hm with rfl | rfl | rfl | rfl
 ·obtain⟨dx,e⟩:=h.R.ob;rw[e] at z;cases z
 ·rw[h.R.hl] at z;cases z
 ·rw[h.R.ht] at z;cases z
 ·rw[h.hk] at z;cases z
theorem LS.fresh (h:LS C H p L T lk as n logs tied W) {a:Addr} (z:H a=none):a∉[p,L,T,lk]:=λm=>h.ex a m z
theorem LS.kb {b:Addr} {m:Nat} (h:LS C H p L T lk as n logs tied W) (hb:BR H b m):b∉[p,L,T,lk]/\b∉as:=by
 have k:=h.R.bag hb;have tn:=h.R.tn;have n2:=h.R.n2;refine⟨?_,k.2.2.2⟩;simp only[QbF,Qbe,or_false,not_or];refine⟨Ne.symm k.1,Ne.symm k.2.1,Ne.symm k.2.2.1,λz=>?_⟩;obtain⟨x,y,t,e,_⟩:=hb;have e1:=h.hk;rw[<-z,e] at e1
 match tied,tn with
 | a::r,_=>cases e1
 | [],tn=>simp at tn;omega
theorem LS.bag {b:Addr} {m:Nat} (h:LS C H p L T lk as n logs tied W) (hb:BR H b m) (s:Ah b H H'):LS C H' p L T lk as n logs tied W:=h.Bv s hb.Sy (h.kb hb).1 (h.kb hb).2
theorem LS.put {H3 H4:Hp} {td:List Bool} (S:LS C H p L T lk as n logs tied W) (s3:Ah lk H H3) (h3:H3 lk=some (.lst (td.map V.bl))) :
  RAt C H3 p L T as n logs tied/\(RAt C H4 p L T as n logs td->Ah T H3 H4->LS C H4 p L T lk as n logs td W):=by
 have kt:∀xs,H lk≠some (.tup xs):=λxs z=>by rw[S.hk] at z;cases z
 exact⟨S.R.Bv s3 kt S.np S.nL S.nT S.na,λR4 s4=>⟨R4,S.ri,s4 _ _ h3 S.nT.symm,S.np,S.nL,S.nT,S.na⟩⟩
end
def Keep (M N:List Addr) (H H':Hp):Prop:=∀c o,H c=some o->c∉M->H' c=some o/\c∉N
inductive Oc (C:Addr) (vs:YG) (H:Hp) (Q:VK) (E:XK):Prop
 | mk (b p L T lk:Addr) (m:Nat) (as:List Addr) (n:Nat) (logs:List (List En)) (tied:List Bool) (W:List En) (_:vs=[.ref b,.ref p,.ref lk]) (_:BR H b m) (_:m<=6000) (_:LS C H p L T lk as n logs tied W) (_:W.length < 63) (_:∀(H':Hp) (L':Addr) (as':List Addr) (Df:List (List En)) (Iw:List Bool) (W':List En),LS C H' p L' T lk as' n Df Iw W'->W'.length<=W.length+1->BR H' b (m+9)->(∀x∈as',x∈as\/H x=none)->Keep (b::[p,L,T,lk]) [p,L',T,lk] H H'->Q (.bl true) H'):Oc C vs H Q E
theorem Keep.step {M:List Addr} {b:Addr} {H H':Hp} (s:Ah b H H'):Keep (b::M) M H H':=λc o e n=>⟨s _ _ e λz=>n (z ▸ .head _),λz=>n (.tail _ z)⟩
theorem Keep.trans {M N O:List Addr} {H H' H'':Hp} (a:Keep M N H H') (b:Keep N O H' H''):Keep M O H H'':=λc o e n=>let ⟨x,y⟩:=a c o e n;b c o x y
theorem Keep.one {M:List Addr} {x:Addr} {H H':Hp} (s:Ah x H H') (h:x∈M):Keep M M H H':=λc o e n=>⟨s _ _ e λz=>n (z ▸ h),n⟩
theorem Keep.of {M:List Addr} {H H':Hp} (s:Same H H'):Keep M M H H':=λc o e n=>⟨s _ _ e,n⟩
theorem Q6:K3 "word":=⟨by trivial,by trivial,by trivial⟩
section
variable {P:Program} {w:World} {K:YD} {mg:YB} {base:Heap} {C c1 c8 c9:Addr}
theorem aj (c:Code K mg "_law_deed" Ge Ho) (T:Tx K mg C) (CJ:Good P w K mg base "_law_take" 1 Gg Jq) (QV:Good P w K mg base "_law_refused" 6 Eu (Jr C)) (Mt:CN P w K mg base C "cut" 4 DN (Hf C c9 false)) (KR:CN P w K mg base C "mend" 4 Dm (Hf C c9 true)) (Vv:CN P w K mg base C "write" 4 Dq (Kq C c1 c8)) (Yu:Fb P w K mg base C "beat" 2 Ea (Od C)):Good P w K mg base "_law_deed" 8 Ho (Oc C):=by
 refine c.good Gq (λvs H Q E h=>?_) (λf cdv A outer s H vs Q E hr h=>?_)
 ·obtain⟨b,p,L,T,lk,m,as,n,logs,tied,W,rfl,_⟩:=h;rfl
 obtain⟨b,p,L,TT,lk,m,as,n,logs,tied,W,rfl,hb,hm,S,few,q⟩:=h;refine⟨_,(@Ae _ _ _ _ _ (@Ax _ _ 3 _ _ _ _ Gq.nd rfl (Or.inl rfl) (Dd CJ hr (Aa (pv 0) (Aa Af Ac))) (by rfl) (by first | exact .inl rfl | exact .inr rfl))
 (@Ae _ _ _ _ _ (@Ax _ _ 4 _ _ _ _ Gq.nd rfl (Or.inl rfl) (Ak CK rfl T.len GD (Aa (pv 2) Ac)) (by rfl) (by first | exact .inl rfl | exact .inr rfl))
 (@Ae _ _ _ _ _ (@Ax _ _ 5 _ _ _ _ Gq.nd rfl (Or.inl rfl) (Dd CJ hr (Aa (pv 0) (Aa (pv 4) Ac))) (by rfl) (by first | exact .inl rfl | exact .inr rfl))
 (@Ae _ _ _ _ _ (BW (Bw Sq (pv 3) Af (Bs _)) (@Ae _ _ _ _ _ (Ej Dc (Es (pv 2) (pv 5) set_list))
 (@Ai _ _ _ (Bc (Dp OD (Gv (pv 1) T.cl Mt hr Ow (Aa (pv 5) Ac)) Lj (Bs _))))) Bp)
 (@Ae _ _ _ _ _ (BW (Bw Sq (pv 3) Af (Bs _)) (@Ae _ _ _ _ _ (Ej Dc (Es (pv 2) (pv 5) set_list))
 (@Ai _ _ _ (Bc (Dp OD (Gv (pv 1) T.cl KR hr Ow (Aa (pv 5) Ac)) Lj (Bs _))))) Bp)
 (@Ae _ _ _ _ _ (BW (Bw GX (pv 3) Af (Bs _)) (@Ae _ _ _ _ _ (@Ax _ _ 6 _ _ _ _ Gq.nd rfl (Or.inl rfl) (Bu Bk (@Cw _ _ _ _ (@Aa _ _ _ _ _ (pv 4) (@Aa _ _ _ _ _ (Zj Uq Af) (@Aa _ _ _ _ _ Dc (@Aa _ _ _ _ _ Lj (@Aa _ _ _ _ _ (Cw (Aa (pv 5) Ac)) (@Aa _ _ _ _ _ (Hz Qi rfl T.str V1 (Aa (pv 5) Ac)) (@Aa _ _ _ _ _ (@Ar _ _ _ _ _ _ _ _ Ox Af Af) (@Aa _ _ _ _ _ (Ih (Aa (pv 5) Ac)) (@Ac _) bK) bM) ZG) bL) Bg) Bg) fV) ZF)) (Dd CJ hr (Aa (pv 0) (Aa Af Ac))) (λ_ _=>rfl)) (by rfl) (by first | exact .inl rfl | exact .inr rfl))
 (@Ai _ _ _ (Bc (Dp GX (Jx QV hr (Aa (pv 1) (Aa (pv 6) (Aa (Dd CJ hr (Aa (pv 0) (Aa Af Ac))) Ac)))) BJ (Bs _))))) Bp)
 (@Ae _ _ _ _ _ (BW (Bw GX (pv 3) Af (Bs _)) (@Ai _ _ _ (Bc (Dp OD (Jb (pv 1) T.cl Yu hr) Lj (Bs _)))) Bp)
 (@Ai _ _ _ (Bc (Dp GX (Bu Lq (Gv (pv 1) T.cl Vv hr Ow (Aa (pv 5) (Aa BJ Ac))) Af (λ_ _=>rfl)) (pv 5) (Bs _))))))))))),?_⟩
 show let R0:TS:=_;let R1:TS:=_;let R2:TS:=Al (G9 _ R1 _) R0;let R3:TS:=_;let R4:TS:=Al _ R3;let R5:TS:=Al (G9 _ R4 _) R2;let R6:TS:=_;let R7:TS:=Al _ R6;let R8:TS:=Al (G9 _ R7 _) R5;let R9:TS:=_;let R10:TS:=Al _ R9;let R11:TS:=Al (G9 _ R10 _) R8;let R12:TS:=Al _ R11;let R13:TS:=Al _ R12;Al _ R13 _ _ _;intro R0 R1 R2 R3 R4 R5 R6 R7 R8 R9 R10 R11 R12 R13;have n2:=S.R.n2;have n4:=S.R.n4;have ln:=S.R.ln;have tn:=S.R.tn;refine⟨_,rq,b,m,8,rq,hb,by omega,by decide,by decide,λr H1 r0 r1 hb1 sb1=>Ba ?_⟩;have S1:=S.bag hb sb1;refine⟨_,rq,lk,_,rq,.inl (SqL.of S1.hk),?_⟩;rw[Qbl,tn];refine Ba ?_;refine⟨_,rq,_,rq,b,m+1,n,rq,hb1,by omega,by omega,by omega,λr2 H2 r20 r21 hb2 sb2=>?_⟩;have S2:=S1.bag hb1 sb2;obtain⟨k,rfl⟩ : ∃k:Nat,r2=(k:Int):=⟨r2.toNat,by omega⟩;have hk:k < n:=by omega
 have RZ:=sb1.trans sb2;have fr2:∀x,H2 x=none->H x=none:=λx hx=>sb1.free hb1.ex (sb2.free hb2.ex hx);have mT:TT∈[p,L,TT,lk]:=.tail _ (.tail _ (.head _));have mK:lk∈[p,L,TT,lk]:=.tail _ (.tail _ (.tail _ (.head _)));have mL:L∈[p,L,TT,lk]:=.tail _ (.head _);have mP:p∈[p,L,TT,lk]:=.head _;have kb:=S2.kb hb2;have nbx:∀{x:Addr},x∈[p,L,TT,lk]->b≠x:=λh z=>kb.1 (z ▸ h);refine Ba ⟨_,rq,_,_,rq,rq,_,rq,?_⟩;have tie:∀(v:Bool) (H3:Hp),Ah lk H2 H3->H3 lk=some (.lst ((tied.set k v).map V.bl))->∀(q0:Nat) (H4:Hp),q0=k->RAt C H4 p L TT as n logs (tied.set q0 v)->Ah TT H3 H4->Q (.bl true) H4:=λv H3 s3 h3 q0 H4 eq R4 s4=>by
  subst eq;exact q H4 L as logs _ W ((S2.put s3 h3).2 R4 s4) (by omega) (((hb2.Bv s3 (nbx mK)).Bv s4 (nbx mT)).mono (by omega)) (λx hx=>.inl hx) ((Keep.step RZ).trans ((Keep.one s3 mK).trans (Keep.one s4 mT)))
 by_cases w3:r < 3
 ·rw[QbC w3];refine Bm ⟨_,rq,_,rq,lk,_,_,k,rq,rq,S2.hk,ixn (by rw[Qbl,tn];exact hk),?_⟩;have s3:Ah lk H2 (upd H2 lk (.lst ((tied.map V.bl).set k (.bl false)))):=Ah.upd;have h3:(upd H2 lk (.lst ((tied.map V.bl).set k (.bl false)))) lk=some (.lst ((tied.set k false).map V.bl)):=by rw[Ab,QbU]
  generalize upd H2 lk (.lst ((tied.map V.bl).set k (.bl false)))=H3 at *;obtain⟨R3,_⟩:=S2.put (H4:=H3) s3 h3;obtain⟨dx,ob⟩:=R3.ob;refine⟨_,rq,p,dx,_,rq,ob,Dh (by trivial),_,rq,p,L,TT,as,n,.int k,logs,tied,rq,R3,True.intro,(λq0 H4 e0 hq0 R4 s4=>?_),λe=>(by rw[Nq hk] at e;cases e)⟩;exact⟨rq,tie false H3 s3 h3 q0 H4 (by have:=V.int.inj e0;omega) R4 s4⟩
 rw[Qbm w3];refine Bo ⟨_,rq,_,_,rq,rq,_,rq,?_⟩;by_cases w5:r < 5
 ·rw[QbC w5];refine Bm ⟨_,rq,_,rq,lk,_,_,k,rq,rq,S2.hk,ixn (by rw[Qbl,tn];exact hk),?_⟩;have s3:Ah lk H2 (upd H2 lk (.lst ((tied.map V.bl).set k (.bl true)))):=Ah.upd;have h3:(upd H2 lk (.lst ((tied.map V.bl).set k (.bl true)))) lk=some (.lst ((tied.set k true).map V.bl)):=by rw[Ab,QbU]
  generalize upd H2 lk (.lst ((tied.map V.bl).set k (.bl true)))=H3 at *;obtain⟨R3,_⟩:=S2.put (H4:=H3) s3 h3;obtain⟨dx,ob⟩:=R3.ob;refine⟨_,rq,p,dx,_,rq,ob,Dh (by trivial),_,rq,p,L,TT,as,n,.int k,logs,tied,rq,R3,True.intro,(λq0 H4 e0 hq0 R4 s4=>?_),λe=>(by rw[Nq hk] at e;cases e)⟩;exact⟨rq,tie true H3 s3 h3 q0 H4 (by have:=V.int.inj e0;omega) R4 s4⟩
 rw[Qbm w5];refine Bo ⟨_,rq,rq,_,rq,?_⟩;by_cases w6:r=5
 ·subst w6;refine Bm ⟨_,rq,_,rq,_,rq,Bf (by show 1<=1000;decide),λl1 hl1=>?_⟩;have s3:=Ag hl1 (.lst [.int (k:Int)]);have h3:(upd H2 l1 (.lst [.int (k:Int)])) l1=some (.lst [.int (k:Int)]):=Ab;generalize upd H2 l1 (.lst [.int (k:Int)])=H3 at *;have kl:((k:Int)).natAbs.log2 < 1920:=by
   have:k=0\/k=1\/k=2\/k=3:=by omega
   rcases this with rfl | rfl | rfl | rfl <;> decide
  refine⟨_,rq,_,rq,kl,?_⟩;have hB:∃B:Int,(λi j:Int=>V.int (i ^ j.toNat)) 10 20=V.int B/\100<=B:=⟨_,rq,by decide⟩;obtain⟨B,eB,hB⟩:=hB;refine⟨_,_,rq,rq,⟨by decide,by decide,by decide⟩,?_⟩;rw[eB];refine⟨_,rq,Bf (by show 1<=1000;decide),λt2 ht2=>?_⟩;have s4:=Ag ht2 (.tup [.int (k:Int)]);have h4:(upd H3 t2 (.tup [.int (k:Int)])) t2=some (.tup [.int (k:Int)]):=Ab;have h34:=s4 _ _ h3;have s24:=s3.trans s4;generalize upd H3 t2 (.tup [.int (k:Int)])=H4 at *;refine⟨Bf (by show 8<=1000;decide),λl5 hl5=>?_⟩;have s5:=Ag hl5 (.lst [.int (n:Int),.int (-1),.bl true,.non,.ref l1,.str (toString (k:Int)),.int B,.ref t2]);have h5:(upd H4 l5 (.lst [.int (n:Int),.int (-1),.bl true,.non,.ref l1,.str (toString (k:Int)),.int B,.ref t2])) l5=some (.lst [.int (n:Int),.int (-1),.bl true,.non,.ref l1,.str (toString (k:Int)),.int B,.ref t2]):=Ab;have h35:=s5 _ _ h34;have h45:=s5 _ _ h4;have s25:=s24.trans s5;show tC2 Jq (Wc 0) (tC (V.int 8)) _ (upd H4 l5 (.lst [.int (n:Int),.int (-1),.bl true,.non,.ref l1,.str (toString (k:Int)),.int B,.ref t2])) _;have hb5:=hb2.same s25;have nf:∀{x:Addr} {HX:Hp},Same H2 HX->HX x=none->x≠b:=λs e z=>by
   obtain⟨o,e1⟩:=hb2.ex;have:=s _ _ e1;rw[<-z,e] at this;cases this
  have n1b:=nf (Same.refl _) hl1;have n2b:=nf s3 ht2;have n5b:=nf s24 hl5;generalize upd H4 l5 (.lst [.int (n:Int),.int (-1),.bl true,.non,.ref l1,.str (toString (k:Int)),.int B,.ref t2])=H5 at *;refine⟨_,rq,b,m+1+1,8,rq,hb5,by omega,by decide,by decide,λr6 H6 r60 r61 hb6 sb6=>?_⟩;have h36:=sb6 _ _ h35 n1b;have h46:=sb6 _ _ h45 n2b;obtain⟨v,hv,k1,k2⟩:=at8 r60 r61 (λv=>(∀HX,HX l1=some (.lst [.int (k:Int)])->HX t2=some (.tup [.int (k:Int)])->Kn HX v)/\wiB v 0 ((n:Int) - 1)=false) (a:=.int (n:Int)) (b:=.int (-1)) (c:=.bl true) (d:=.non) (e:=.ref l1) (f:=.str (toString (k:Int))) (g:=.int B) (h:=.ref t2)
   ⟨λ_ _ _=>True.intro,Um (by omega)⟩ ⟨λ_ _ _=>True.intro,bw⟩ ⟨λ_ _ _=>True.intro,rq⟩ ⟨λ_ _ _=>True.intro,rq⟩ ⟨λ_ h _=>.inl ⟨_,h⟩,rq⟩ ⟨λ_ _ _=>True.intro,rq⟩ ⟨λ_ _ _=>True.intro,Um (by omega)⟩ ⟨λ_ _ h=>.inr ⟨_,h⟩,rq⟩
  refine⟨l5,_,_,_,rq,rq,SqL.of (sb6 _ _ h5 n5b),hv,Ba ?_⟩;have S5:=S2.same s25;have S6:=S5.bag hb5 sb6;refine⟨_,rq,_,rq,_,rq,b,m+1+1+1,2,rq,hb6,by omega,by decide,by decide,λr7 H7 r70 r71 hb7 sb7=>?_⟩;have S7:=S6.bag hb6 sb7;have h37:=sb7 _ _ h36 n1b;have h47:=sb7 _ _ h46 n2b;refine⟨p,L,TT,as,n,r7,v,logs,tied,rq,S7.R,k1 _ h37 h47,k2,λH8 s8=>?_⟩;refine⟨rq,?_⟩;rw[show (decide (V.str (Nz 9)=V.str (Str.ofString "link")))=true from QbC rfl]
  have jj:Ah b H2 H8:=(((Ah.of s25).trans sb6).trans sb7).trans (Ah.of s8);exact q H8 L as logs tied W (S7.same s8) (by omega) ((hb7.same s8).mono (by omega)) (λx hx=>.inl hx) (Keep.step (RZ.trans jj))
 rw[Qbm (λz=>w6 (V.int.inj z))];refine Bo ⟨_,rq,rq,_,rq,?_⟩;obtain⟨dx,ob⟩:=S2.R.ob;by_cases w7:r=6
 ·subst w7;refine Bm ⟨_,rq,p,dx,_,rq,ob,Dh (by trivial),p,L,TT,as,n,logs,tied,W,rq,S2.R,S.ri.w,S.ri.sub,S.ri.up,λL' as' H5 Zq fL fas R5 ch5 s5=>?_⟩;have pt:=S2.R.pt;have nn:∀{x:Addr} {o:HO},H2 x=some o->x≠L':=λh z=>by rw[z,fL] at h;cases h
  have hk5:=s5 _ _ S2.hk S.np.symm;have SF:LS C H5 p L' TT lk as' n Zq tied W:=by
   refine⟨R5,S.ri.beat R5.ln ch5,hk5,S.np,(nn S2.hk).symm,S.nT,λz=>?_⟩;rcases fas lk z with z | z
   ·exact S.na z
   ·rw[S2.hk] at z;cases z
  refine⟨rq,q H5 L' as' Zq tied W SF (by omega) ((hb2.Bv s5 (nbx mP)).mono (by omega)) (λx hx=>(fas x hx).imp id (fr2 x)) ((Keep.step RZ).trans λc o e nM=>?_)⟩;have e5:=s5 _ _ e λz=>nM (z ▸ mP);refine⟨e5,λz=>?_⟩;simp only[QbF,Qbe,or_false,not_or] at z nM;rcases z with z | z | z | z
  ·exact nM.1 z
  ·exact nn e z
  ·exact nM.2.2.1 z
  ·exact nM.2.2.2 z
 rw[Qbm (λz=>w7 (V.int.inj z))];have hg:=at_getD (l:=logs) [] (i:=k) (by omega);have hgm:=Qat hg;have gl:(logs.getD k []).length < 64:=(S.ri.up _ hgm).few S.ri.w (S.ri.sub _ hgm);generalize logs.getD k []=g at *;refine Bo ⟨_,rq,p,dx,_,rq,ob,Dh (by trivial),_,rq,p,L,TT,as,n,.int k,.str "word",logs,tied,rq,S2.R,True.intro,True.intro,(λz e=>by cases e;decide +kernel),.inr (.inr ⟨k,"word",g,rq,rq,hg,Q6,gl,λt a H5 st hst fa ht R5 s5=>?_⟩)⟩;refine⟨t,_,_,_,rq,rq,SqT.of ht,rq,_,rq,rq,?_⟩;have hk5:=s5 _ _ S2.hk S.nL.symm;have SF:LS C H5 p L TT lk (as.set k a) n _ tied _:=⟨R5,S.ri.write hg hst Q6 few n4,hk5,S.np,S.nL,S.nT,λz=>by
  rcases Qaf z with z | z
  ·exact S.na z
  ·rw[<-z,S2.hk] at fa;cases fa⟩
 rw[show (decide (V.int (k:Int)=V.int (k:Int)))=true from QbC rfl]
 refine q H5 L _ _ tied _ SF (by rw[QaI];exact QbV _) ((hb2.Bv s5 (nbx mL)).mono (by omega)) (λx hx=>?_) ((Keep.step RZ).trans (Keep.one s5 mL));rcases Qaf hx with z | z
 ·exact .inl z
 ·exact .inr (fr2 _ (z ▸ fa))
end
abbrev GR:Stmt:=top 34
abbrev Zk:YF:=["_law_script"]
theorem Eh:Az ["_law_script","_law_first","_law_many","_law_circle","_law_another","_law_ahead","_law_links","_law_held","_law_k","_law_bag_here","_law_told_here"] Zk (Ad GR):=by ac_rfl
theorem Wk (n:Nat):(List.replicate n [V.bl true]).flatten=(List.replicate n true).map V.bl:=by
 induction n with
 | zero=>rfl
 | succ n ih=>rw[QaD,List.flatten_cons,ih,QaD];rfl
theorem RI.start {n:Nat} (n4:n<=4):RI n (List.replicate n []) []:=by
 have g0:∀g∈List.replicate n ([]:List En),g=[]:=λg hg=>(List.mem_replicate.mp hg).2;exact⟨⟨by decide,(λe h=>by cases h),(λe h=>by cases h),(λe h=>by cases h),(λe h=>by cases h),(λe h=>by cases h),(λe h=>by cases h)⟩,Qaq,(λg hg=>by rw[g0 g hg];exact List.Pairwise.nil),(λg hg e he=>by rw[g0 g hg] at he;cases he),(λg hg e he=>by rw[g0 g hg] at he;cases he),(λq e h=>by cases h),(λe h=>by cases h),(λe h=>by cases h),List.Pairwise.nil,(λq i e h=>by cases h),(λe h=>by cases h)⟩
def NoT (M:List Addr) (H:Hp):Prop:=∀m∈M,∀xs,H m≠some (.tup xs)
def K6 (M:List Addr) (H:Hp) (x:Addr) (xs:List Addr) (hs:List (List Nat)):Prop:=Gi H x xs hs/\x∉M/\∀a∈xs,a∉M
section
variable {M N:List Addr} {H H':Hp}
theorem Keep.tups (k:Keep M N H H') (t:NoT M H):Bq H H':=λc o e=>(k c _ e λz=>t c z _ e).1
theorem aM {xs:List Addr} {hs:List (List Nat)} (k:Keep M N H H') (h:Paired (λa h=>H a=some (.lst (nv h))) xs hs) (n:∀a∈xs,a∉M):Paired (λa h=>H' a=some (.lst (nv h))) xs hs/\∀a∈xs,a∉N:=by
 induction h with
 | nil=>exact⟨.nil,λa ha=>by cases ha⟩
 | cons a r ih=>
  obtain⟨h1,h2⟩:=ih λa ha=>n a (.tail _ ha);obtain⟨h3,h4⟩:=k _ _ a (n _ (.head _));exact⟨.cons h3 h1,λa ha=>by rcases QbF.mp ha with rfl | ha;exact h4;exact h2 a ha⟩
theorem K6.CP {x:Addr} {xs:List Addr} {hs:List (List Nat)} (h:K6 M H x xs hs) (k:Keep M N H H'):K6 N H' x xs hs:=by
 obtain⟨⟨e,p⟩,n1,n2⟩:=h;obtain⟨e',n1'⟩:=k _ _ e n1;obtain⟨p',n2'⟩:=aM k p n2;exact⟨⟨e',p'⟩,n1',n2'⟩
def Told (M:List Addr) (H:Hp) (v:V):Prop:=∃t x y xs ys hs,v=.ref t/\H t=some (.tup [.ref x,.ref y])/\K6 M H x xs hs/\K6 M H y ys hs/\SeqAt.shaped (hD hs)=true
theorem Told.CP {v:V} (h:Told M H v) (k:Keep M N H H') (t:NoT M H):Told N H' v:=by
 obtain⟨a,x,y,xs,ys,hs,e,h1,h2,h3,h4⟩:=h;exact⟨a,x,y,xs,ys,hs,e,k.tups t _ _ h1,h2.CP k,h3.CP k,h4⟩
structure Oth (C:Addr) (M:List Addr) (H:Hp) (p L T:Addr) (as:List Addr) (n:Nat):Prop where
 R:RAt C H p L T as n (List.replicate n []) (List.replicate n true)
 np:p∉M
 nL:L∉M
 nT:T∉M
 na:∀a∈as,a∉M
theorem Vj {as:List Addr} {gs:List (List En)} (h:Paired (BP H) as gs) (n:∀a∈as,a∉M) (k:Keep M N H H') (t:NoT M H):Paired (BP H') as gs/\∀a∈as,a∉N:=by
 induction h with
 | nil=>exact⟨.nil,λa ha=>by cases ha⟩
 | cons a r ih=>
  obtain⟨h1,h2⟩:=ih λa ha=>n a (.tail _ ha);obtain⟨vs,e,p⟩:=a;obtain⟨h3,h4⟩:=k _ _ e (n _ (.head _));exact⟨.cons ⟨vs,h3,Ens.tups (k.tups t) p⟩ h1,λa ha=>by rcases QbF.mp ha with rfl | ha;exact h4;exact h2 a ha⟩
theorem Oth.CP {C p L T:Addr} {as:List Addr} {n:Nat} (h:Oth C M H p L T as n) (k:Keep M N H H') (t:NoT M H):Oth C N H' p L T as n:=by
 obtain⟨dx,ob⟩:=h.R.ob;obtain⟨o1,o2⟩:=k _ _ ob h.np;obtain⟨l1,l2⟩:=k _ _ h.R.hl h.nL;obtain⟨t1,t2⟩:=k _ _ h.R.ht h.nT;obtain⟨a1,a2⟩:=Vj h.R.lg h.na k t;exact⟨⟨⟨dx,o1⟩,l1,a1,t1,h.R.ln,h.R.tn,h.R.LT,h.R.n2,h.R.n4⟩,o2,l2,t2,a2⟩
theorem LS.noT {C:Addr} {p L T lk:Addr} {as:List Addr} {n:Nat} {logs:List (List En)} {tied:List Bool} {W:List En} (h:LS C H p L T lk as n logs tied W):NoT [p,L,T,lk] H:=λm hm xs z=>by
 simp only[QbF,Qbe,or_false] at hm;rcases hm with rfl | rfl | rfl | rfl
 ·obtain⟨dx,e⟩:=h.R.ob;rw[e] at z;cases z
 ·rw[h.R.hl] at z;cases z
 ·rw[h.R.ht] at z;cases z
 ·rw[h.hk] at z;cases z
theorem Keep.cons {x:Addr} (a:Keep M N H H'):Keep (x::M) (x::N) H H':=λc o e n=>by
 obtain⟨n1,n2⟩:=not_or.mp (λz=>n (QbF.mpr z));obtain⟨h1,h2⟩:=a c o e n2;exact⟨h1,λz=>(QbF.mp z).elim n1 h2⟩
end
theorem Uo {n:Nat} (n2:2<=n) (n4:n<=4):houses n (List.replicate n true)=[List.range n]:=by
 have:n=2\/n=3\/n=4:=by omega
 rcases this with rfl | rfl | rfl <;> decide +kernel
section
variable {P:Program} {w:World} {K:YD} {mg:YB} {base:Heap} {C:Addr}
abbrev xk:YF:=["_law_told_here","_law_copy"]
theorem cC {f:Addr} {fd:FuncData} (F:Fun K "law" "law" GR f fd) (T:Tx K mg C) (Kg:Good P w K mg base "_law_bag" 1 Ii (RP K)) (CJ:Good P w K mg base "_law_take" 1 Gg Jq) (PB:Ud P w K mg base C 1 Cj (Ob C)) (Yv:Good P w K mg base "_law_deed" 8 Ho (Oc C)) (KY:Good P w K mg base "_law_told" 3 Hj (N8 C)) (FQ:Fb P w K mg base C "houses" 2 Cp (Hw C)):Du P w K mg base CX0 9 f fd Zk (Ld K):=by
 refine F.ok Eh (λvs H Q E h=>?_) (λcdv A outer s H vs Q E hr h=>?_)
 ·obtain⟨a,ns,rfl,_⟩:=h;rfl
 obtain⟨sa,ns,rfl,hS,h63,q⟩:=h;refine⟨_,(Ae (Ax (i:=1) Eh.nd rfl (Or.inl rfl) (Dd Kg hr (Aa (pv 0) (Aa Af Ac))))
 (Ae (Ax (i:=2) Eh.nd rfl (Or.inl rfl) (Ar Cz Af (Dd CJ hr (Aa (pv 1) (Aa Af Ac)))))
 (Ae (Ax (i:=3) Eh.nd rfl (Or.inl rfl) (Zi PB hr T.mgC (Aa (pv 2) Ac)))
 (Ae (Ax (i:=4) Eh.nd rfl (Or.inl rfl) (Zi PB hr T.mgC (Aa (Ar Cz Af (Dd CJ hr (Aa (pv 1) (Aa Af Ac)))) Ac)))
 (Ae (Ax (i:=5) Eh.nd rfl (Or.inl rfl) (Jb (pv 4) T.cl FQ hr))
 (Ae (Ax (i:=6) Eh.nd rfl (Or.inl rfl) (Ar cu (Cw (Aa Dc Ac)) (pv 2)))
 (Ae (BW (CZ (CW (Dd KY hr (Aa (pv 3) (Aa (pv 6) Ac))))) (Ai (Bc Dc)) Bp)
 (Ae (Ax (i:=7) Eh.nd rfl (Or.inl rfl) (Cw Ac))
 (Ae (Gs Qbw rfl (UL rfl T.range (Aa Af (Aa (Ak (VL rfl) rfl T.max eO (Aa Af (Aa (Ak (MN rfl) rfl T.min V2 (Aa (Ak CK rfl T.len GD (Aa (pv 0) Ac)) (Aa Af Ac))) Ac))) Ac))) (Aw (i:=8) Eh.nd rfl (Or.inl rfl))
 (Ae (Ax (i:=9) Eh.nd rfl (Or.inl rfl) (Dd Kg hr (Aa (pv 0) (Aa (pv 8) Ac))))
 (Ae (BW (CZ (CW (Jx Yv hr (Aa (pv 9) (Aa (pv 3) (Aa (pv 6) Ac)))))) (Ai (Bc Dc)) Bp)
 (Ai (BW (Bw Zm (Dd CJ hr (Aa (pv 9) (Aa Af Ac))) Af (Bs _)) (Ae (BW (CZ (CW (Dd KY hr (Aa (pv 3) (Aa (pv 6) Ac))))) (Ai (Bc Dc)) Bp)
 (Ae (Ax (i:=10) Eh.nd rfl (Or.inl rfl) (Jb (pv 3) T.cl FQ hr))
 (Ai (Dn (HN Qaj Qag Qah Dw (pv 7) (Aa (Ih (Aa (pv 10) (Aa (CV (N':=xf) rfl (Bj.plain rfl (by trivial) (by trivial) (by trivial)) (Cu (pv 10)) (λ_ _ _ _=>(Aw (i:=0) (show List.Nodup (xf:YF) by trivial) rfl (Or.inl rfl))) (λ_ _ _ _=>Et) (λ_ _ _ _=>(Hz (Nk (K:=K) rfl) rfl T.list Kh (Aa (pv 0) Ac)))) Ac))) Ac)))))) Bp)))))
 (Ae (BW (PW.pt (JX (CZ (CW (Ak (Hu rfl) rfl T.all JM (Aa (CV (N':=xk) rfl (Bj.plain rfl (by trivial) (by trivial) (by trivial)) (Cu (pv 7)) (λ_ _ _ _=>(Q9 (K:=K) (n:=2) rfl rfl (Cm (Aw (i:=0) (show List.Nodup (xk:YF) by trivial) rfl (Or.inl rfl)) (Cm (Aw (i:=1) (show List.Nodup (xk:YF) by trivial) rfl (Or.inl rfl)) Ig)))) (λ_ _ _ _=>Et) (λ_ _ _ _=>(Dp (OJ hr.units) (pv 0) (pv 1) (Bs _)))) Ac)))) (Ie (CZ (CW (Dd KY hr (Aa (pv 3) (Aa (pv 6) Ac)))))))) (Ai (Bc Dc)) Bp)
 (Ai (Bc (Jw (Dp GX (Ak CK rfl T.len GD (Aa (pv 5) Ac)) Af (Bs _)) (Jw (Dp (OJ hr.units) (Jb (pv 4) T.cl FQ hr) (pv 5) (Bs _)) (Li (Dp (OJ hr.units) (Bu Bk (pv 5) Af (λ_ _=>rfl)) (Jv rfl rfl T.list rfl T.range (Aa (Ak CK rfl T.len GD (Aa (Bu Bk (pv 5) Af (λ_ _=>rfl)) Ac)) Ac)) (Bs _))))))))))))))))),?_⟩
 show let R0:TS:=_;let R1:TS:=Al _ R0;let R2:TS:=_;let R3:TS:=Al _ R2;let R4:TS:=Al _ R3;let R5:TS:=G9 _ R4 _;let R6:TS:=Al _ R5;let R7:TS:=Al _ R6;let R8:TS:=Al (Iz _ _ R7) R1;let R9:TS:=Al _ R8;let R10:TS:=Al _ R9;let R11:TS:=Al _ R10;let R12:TS:=Al _ R11;let R13:TS:=Al _ R12;let R14:TS:=Al _ R13;let R15:TS:=Al _ R14;Al _ R15 _ _ _;intro R0 R1 R2 R3 R4 R5 R6 R7 R8 R9 R10 R11 R12 R13 R14 R15;have hl:(ns.map V.int).length=ns.length:=Qbl _;refine⟨_,rq,sa,ns,0,rq,hS,h63,by decide,by decide,λb o hb0 hb=>Ba ?_⟩;have s0:=Ag hb0 o;generalize upd H b o=H0 at *;refine⟨_,rq,b,0,3,rq,hb,by decide,by decide,by decide,λr1 H1 r10 r11 hb1 sb1=>⟨_,_,rq,rq,Ba ?_⟩⟩;obtain⟨n,hn⟩ : ∃n:Nat,2+r1=(n:Int):=⟨(2+r1).toNat,by omega⟩;rw[show (λi j:Int=>V.int (i+j)) 2 r1=V.int (n:Int) from congrArg V.int hn]
 have n2:2<=n:=by omega
 have n4:n<=4:=by omega
 have s1:Same H H1:=s0.Br sb1 hb0;refine⟨_,rq,λp dx hp hdx ne=>?_⟩;have s2:Same H1 (upd (upd H1 dx (.own p)) p (.ins C dx [])):=λc o e=>by rw[Aj (Aq e hp),Aj (Aq e hdx)];exact e
 have h2:(upd (upd H1 dx (.own p)) p (.ins C dx [])) p=some (.ins C dx []):=Ab;generalize upd (upd H1 dx (.own p)) p (.ins C dx [])=H2 at *;refine⟨p,dx,n,rq,h2,n2,n4,λL TT as H3 fL fT fas R3 s3=>⟨rq,Ba ?_⟩⟩;have s13:Same H1 H3:=s2.Br s3 hp;have hb3:=hb1.same s13;refine⟨_,rq,b,0+1,3,rq,hb3,by decide,by decide,by decide,λr4 H4 r40 r41 hb4 sb4=>⟨_,_,rq,rq,?_⟩⟩;obtain⟨n',hn'⟩ : ∃n:Nat,2+r4=(n:Int):=⟨(2+r4).toNat,by omega⟩;rw[show (λi j:Int=>V.int (i+j)) 2 r4=V.int (n':Int) from congrArg V.int hn']
 have n2':2<=n':=by omega
 have n4':n'<=4:=by omega
 have k3:=R3.bag hb3;have R4:=R3.Bv sb4 hb3.Sy k3.1 k3.2.1 k3.2.2.1 k3.2.2.2;have s04:Same H H4:=(s1.trans s13).Br sb4 hb0;refine λp2 dx2 hp2 lQ ne2=>?_;have s5:Same H4 (upd (upd H4 dx2 (.own p2)) p2 (.ins C dx2 [])):=λc o e=>by rw[Aj (Aq e hp2),Aj (Aq e lQ)];exact e
 have h5:(upd (upd H4 dx2 (.own p2)) p2 (.ins C dx2 [])) p2=some (.ins C dx2 []):=Ab;generalize upd (upd H4 dx2 (.own p2)) p2 (.ins C dx2 [])=H5 at *;refine⟨p2,dx2,n',rq,h5,n2',n4',λL2 T2 as2 H6 fL2 fT2 lY R6 sb6=>⟨rq,Ba ?_⟩⟩;have s6:Same H4 H6:=s5.Br sb6 hp2;obtain⟨dx6,ob6⟩:=R6.ob;refine⟨_,rq,p2,dx6,_,rq,ob6,Dh (by trivial),p2,L2,T2,as2,n',_,_,rq,R6,λah ahs H7 fah lZ nah hah s7=>Ba ?_⟩;rw[Uo n2' n4'] at hah;have s47:=s6.trans s7;refine⟨Bf (by show 1<=1000;decide),λl1 hl1=>?_⟩;have s8:=Ag hl1 (.lst [.bl true]);have h8:(upd H7 l1 (.lst [.bl true])) l1=some (.lst [.bl true]):=Ab;generalize upd H7 l1 (.lst [.bl true])=H8 at *;refine⟨_,rq,l1,n,_,rq,rq,h8,by omega,by omega,Bf (by simp;omega),λlk hlk=>?_⟩;rw[QaU,Wk];have s9:=Ag hlk (.lst ((List.replicate n true).map V.bl));have h9:(upd H8 lk (.lst ((List.replicate n true).map V.bl))) lk=some (.lst ((List.replicate n true).map V.bl)):=Ab;have s79:=s8.trans s9;have flk:H7 lk=none:=s8.free hlk;show HS 6 (.ref lk) _ (upd H8 lk (.lst ((List.replicate n true).map V.bl))) _;generalize upd H8 lk (.lst ((List.replicate n true).map V.bl))=H9 at *;have s49:=s47.trans s79;have R9:=R4.same s49;have fr7:∀{x:Addr} {o:HO},H7 x=some o->x≠lk:=λe z=>by rw[z,flk] at e;cases e
 have fr4:∀{x y:Addr} {o:HO},H4 x=some o->H4 y=none->x≠y:=λe f z=>by rw[z,f] at e;cases e
 have R7:=R4.same s47;obtain⟨dx7,ob7⟩:=R7.ob;obtain⟨dx4,ob4⟩:=R4.ob;have S9:LS C H9 p L TT lk as n (List.replicate n []) (List.replicate n true) []:=⟨R9,RI.start n4,h9,fr7 ob7,fr7 R7.hl,fr7 R7.ht,λz=>by obtain⟨xs,e⟩:=R7.exA z;rw[flk] at e;cases e⟩;have fo4:∀{x:Addr} {o:HO},H4 x=none->H7 x=some o->x∉[p,L,TT,lk]:=λf e z=>by
  simp only[QbF,Qbe,or_false] at z;rcases z with z | z | z | z
  ·exact fr4 ob4 f z.symm
  ·exact fr4 R4.hl f z.symm
  ·exact fr4 R4.ht f z.symm
  ·exact fr7 e z
 have O9:Oth C [p,L,TT,lk] H9 p2 L2 T2 as2 n':=by
  have R72:=R6.same s7;obtain⟨dx,ob⟩:=R72.ob;exact⟨R72.same s79,fo4 hp2 ob,fo4 (s5.free fL2) R72.hl,fo4 (s5.free fT2) R72.ht,λa ha=>by obtain⟨xs,e⟩:=R72.exA ha;exact fo4 (s5.free (lY a ha)) e⟩
 have A9:K6 [p,L,TT,lk] H9 ah ahs [List.range n']:=by
  refine⟨hah.same s79,fo4 (s6.free fah) hah.1,λa ha=>?_⟩;obtain⟨i,hi⟩:=Qax ha;obtain⟨h,_,e⟩:=Ed hah.2 hi;exact fo4 (s6.free (lZ a ha)) e
 have K9:Keep [] [p,L,TT,lk] H H9:=λc o e _=>by
  have e1:=s1 _ _ e;have e2:=s2 _ _ e1;have e4:=s04 _ _ e;have e7:=s47 _ _ e4;refine⟨s79 _ _ e7,?_⟩;simp only[QbF,Qbe,or_false,not_or];exact⟨Aq e1 hp,Aq e2 fL,Aq e2 fT,fr7 e7⟩
 refine Ba ⟨_,rq,_,rq,p,L,TT,lk,as,n,_,_,rq,S9.R,S9.hk,λH10 s10=>⟨_,rq,Bo ?_⟩⟩;have S10:=S9.same s10;have nt9:=S9.noT;have k10:Keep [p,L,TT,lk] [p,L,TT,lk] H9 H10:=Keep.of s10;refine⟨Bf (by show 0<=1000;decide),λhd hhd=>Ba ?_⟩;have s11:=Ag hhd (.lst []);have h11:(upd H10 hd (.lst [])) hd=some (.lst []):=Ab;have S11:=S10.same s11;have k11:Keep [p,L,TT,lk] (hd::[p,L,TT,lk]) H10 (upd H10 hd (.lst [])):=λc o e n=>⟨s11 _ _ e,λz=>(QbF.mp z).elim (Aq e hhd) n⟩;generalize upd H10 hd (.lst [])=H11 at *;have hdM:hd∉[p,L,TT,lk]:=S10.fresh hhd;have hdA:hd∉as:=λz=>by obtain⟨xs,e⟩:=S10.R.exA z;rw[hhd] at e;cases e
 have O11:=(O9.CP k10 nt9).CP k11 S10.noT;have A11:=(A9.CP k10).CP k11;have K11:=(K9.trans k10).trans k11;have jk:Same H H11:=λc o e=>(K11 c o e (by simp)).1;refine⟨_,rq,sa,_,rq,.inl (jk.seq hS),?_⟩;rw[hl];refine⟨_,_,rq,_,_,rq,1,_,rq,?_⟩;have m0:∃m:Int,(if (60:Int) < (ns.length:Int) then (60:Int) else (ns.length:Int))=m/\m<=60:=⟨_,rq,by split <;> omega⟩
 obtain⟨m,em,hm⟩:=m0;have m1:∃j:Int,(if m > 8 then m else (8:Int))=j/\8<=j/\j<=60:=⟨_,rq,by split <;> omega,by split <;> omega⟩
 obtain⟨j,ej,j12,j60⟩:=m1;rw[em,ej];refine⟨⟨by omega,by omega,by omega,by omega⟩,?_⟩;let J0:YN:=λ(i:Nat) (Z : St) (HH:Hp)=>∃u8 u9 u10,∃(L':Addr) (as':List Addr) (Df:List (List En)) (Iw:List Bool) (W':List En) (vs:YG),Z=[js sa,js b,some (.int n),js p,js p2,js ah,js lk,js hd,u8,u9,u10]/\LS C HH p L' TT lk as' n Df Iw W'/\W'.length<=i/\HH hd=some (.lst vs)/\vs.length<=i/\hd∉[p,L',TT,lk]/\hd∉as'/\(∀v∈vs,Told (hd::[p,L',TT,lk]) HH v)/\Oth C (hd::[p,L',TT,lk]) HH p2 L2 T2 as2 n'/\K6 (hd::[p,L',TT,lk]) HH ah ahs [List.range n']/\Keep [] (hd::[p,L',TT,lk]) H HH;refine GC J0 ⟨_,_,_,L,as,_,_,[],[],rq,S11,QbV _,h11,QbV _,hdM,hdA,(λv hv=>by cases hv),O11,A11,K11⟩ (λi Z HH hi h=>?_) (fun Z HH h=>?_)
 ·obtain⟨u8,u9,u10,L',as',Df,Iw,W',vs,rfl,SA,wl,hhA,vl,Yr,dh,tdA,OA,AA,KA⟩:=h;have sHA:Same H HH:=λc o e=>(KA c o e (by simp)).1;refine Ba ⟨_,rq,_,rq,sa,ns,_,rq,sHA.seq hS,h63,by omega,by omega,λb' o' dj hb'=>Ba ?_⟩;have sB:=Ag dj o';generalize upd HH b' o'=HB at *;have SB:=SA.same sB;refine⟨_,rq,_,rq,_,rq,b',p,L',TT,lk,0,as',n,Df,Iw,W',rq,hb',by decide,SB,by omega,λHD L9 as9 Ny K8 W9 SD wl9 hbD fr9 kp9=>⟨_,rq,Bo ?_⟩⟩;have exB:∀{c:Addr} {o:HO},HH c=some o->HB c=some o/\c≠b':=λe=>⟨sB _ _ e,Aq e dj⟩;have KD0:Keep [p,L',TT,lk] [p,L9,TT,lk] HH HD:=λc o e n=>kp9 c o (exB e).1 λz=>(QbF.mp z).elim (exB e).2 n;have KD:=KD0.cons (x:=hd);have ntA:NoT (hd::[p,L',TT,lk]) HH:=λm hm xs e=>by
   rcases QbF.mp hm with rfl | hm
   ·rw[hhA] at e;cases e
   ·exact SA.noT m hm xs e
  obtain⟨hhD,hdD⟩:=KD0 _ _ hhA Yr;have hdB:hd∉as9:=λz=>by
   rcases fr9 hd z with z | z
   ·exact dh z
   ·rw[(exB hhA).1] at z;cases z
  have nbH:∀{c:Addr} {o:HO},HH c=some o->c≠b':=λe=>(exB e).2;refine⟨_,rq,b',9,3,rq,hbD,by decide,by decide,by decide,λr2 HE r20 r21 hbE sbE=>?_⟩;have SE:=SD.bag hbD sbE;have KE0:Keep [p,L',TT,lk] [p,L9,TT,lk] HH HE:=λc o e n=>by
   obtain⟨x,y⟩:=KD0 c o e n;exact⟨sbE _ _ x (nbH e),y⟩
  have KE:=KE0.cons (x:=hd);obtain⟨hhE,hdE⟩:=KE0 _ _ hhA Yr;have tdE:∀v∈vs,Told (hd::[p,L9,TT,lk]) HE v:=λv hv=>(tdA v hv).CP KE ntA;have OE:=OA.CP KE ntA;have AE:=AA.CP KE;have KHE:=KA.trans KE;have ntE:NoT (hd::[p,L9,TT,lk]) HE:=λm hm xs e=>by
   rcases QbF.mp hm with rfl | hm
   ·rw[hhE] at e;cases e
   ·exact SE.noT m hm xs e
  refine⟨_,_,rq,rq,_,rq,?_⟩;by_cases w0:r2 > 0
  ·rw[QbC w0];refine Bm ⟨_,rq,_,rq,p,L9,TT,lk,as9,n,Ny,K8,rq,SE.R,SE.hk,λHF sF=>⟨_,rq,Bo ?_⟩⟩;have SF:=SE.same sF;obtain⟨dxF,obF⟩:=SF.R.ob;obtain⟨shp,hl4,hh4,_⟩:=Ux n2 n4 SE.R.tn;refine⟨_,rq,p,dxF,_,rq,obF,Dh (by trivial),p,L9,TT,as9,n,Ny,K8,rq,SF.R,λl bs HG fl fbs nl hG sG=>Ba ?_⟩;have bl:=QbG hG.2;have sEG:=sF.trans sG;have hhG:=sEG _ _ hhE;generalize houses n K8=hs at *;refine⟨_,rq,.inl ⟨rq,_,SqL.of hhG⟩,_,rq,_,rq,l,rq,⟨_,SqL.of hG.1⟩,λlc hlc=>?_⟩;let J1:YN:=λ(x:Nat) (Z : St) (HX:Hp)=>∃(u:Option V) (cs:List Addr),Z=[u]/\Gi HX lc cs (hs.take x)/\lc∉cs/\(∀c∈cs,HG c=none)/\cs.length<=x/\Same HG HX;refine Di (xs:=bs.map V.ref) J1 ⟨_,[],rq,⟨Ab,.nil⟩,(λz=>by cases z),(λc hc=>by cases hc),QbV _,Ag hlc _⟩ (λx Z HX _ g=>?_) (λx v Z HX hx g=>?_) (fun Z HX g=>?_)
   ·obtain⟨u,cs,rfl,g1,g2,g3,g4,g5⟩:=g;exact SqL.of (g5 _ _ hG.1)
   ·obtain⟨u,cs,rfl,g1,g2,g3,g4,g5⟩:=g;obtain⟨a,ha,rfl⟩:=Ja hx;obtain⟨h,hh,FP⟩:=Ed hG.2 ha;have hi:x < bs.length:=(Qae.mp ha).1;have hl:=hh4 h (Qat hh);refine Ba (Bm ⟨_,rq,a,_,rq,.inl (SqL.of (g5 _ _ FP)),λl4 h4=>?_⟩);have sy:=Ag h4 (.lst (nv h));have hy:(upd HX l4 (.lst (nv h))) l4=some (.lst (nv h)):=Ab;have g1':=g1.same sy;have g5':=g5.trans sy;have nl4:lc≠l4:=λz=>by rw[<-z,g1.1] at h4;cases h4
    have f4:HG l4=none:=g5.free h4;generalize upd HX l4 (.lst (nv h))=HY at *;refine⟨_,g1'.1,Am (by rw[Qbl];omega),_,cs++[l4],rq,⟨by rw[Ab,Qbo];rfl,?_⟩,?_,?_,by rw[QaI];exact Nat.succ_le_succ g4,g5'.Br Ah.upd hlc⟩
    ·rw[Qca hh];exact Ca (G6 g1'.2 λz hz y e=>by rw[Aj (show z≠lc from λw=>g2 (by rw[<-w];exact hz))];exact e) (.cons (by rw[Aj nl4.symm];exact hy) .nil)
    ·intro z;rcases Qbn.mp z with z | z
     ·exact g2 z
     ·exact nl4 (QaF.mp z)
    ·intro z hz;rcases Qbn.mp hz with hz | hz
     ·exact g3 z hz
     ·rw[QaF.mp hz];exact f4
   obtain⟨u,cs,rfl,g1,g2,g3,g4,g5⟩:=g;rw[Qbl,bl,Qbb] at g1;refine⟨Bf (by show 2<=1000;decide),λt ht=>?_⟩;have sI:=Ag ht (.tup [.ref l,.ref lc]);have hI:(upd HX t (.tup [.ref l,.ref lc])) t=some (.tup [.ref l,.ref lc]):=Ab;have sGI:=g5.trans sI;have sEI:=sEG.trans sGI;have lI:=hG.same sGI;have cI:=g1.same sI;generalize upd HX t (.tup [.ref l,.ref lc])=HI at *;have SI:=SE.same sEI;have hhI:=sEI _ _ hhE;refine⟨hd,_,_,rq,rq,hhI,Am (by omega),?_⟩;have sJ:Ah hd HI (upd HI hd (.lst (vs++[.ref t]))):=Ah.upd;have hJ:(upd HI hd (.lst (vs++[.ref t]))) hd=some (.lst (vs++[.ref t])):=Ab;generalize upd HI hd (.lst (vs++[.ref t]))=HJ at *;have ht':∀xs,HI hd≠some (.tup xs):=λxs e=>by rw[hhI] at e;cases e
   have ntI:NoT (hd::[p,L9,TT,lk]) HI:=λm hm xs e=>by
    rcases QbF.mp hm with rfl | hm
    ·rw[hhI] at e;cases e
    ·exact SI.noT m hm xs e
   have KI:Keep (hd::[p,L9,TT,lk]) (hd::[p,L9,TT,lk]) HE HI:=Keep.of sEI;have KJ:Keep (hd::[p,L9,TT,lk]) (hd::[p,L9,TT,lk]) HI HJ:=Keep.one sJ (.head _);have fo:∀{x:Addr},HE x=none->x∉hd::[p,L9,TT,lk]:=λf z=>(QbF.mp z).elim (λz=>by rw[z,hhE] at f;cases f) (SE.fresh f);have tdI:Told (hd::[p,L9,TT,lk]) HI (.ref t):=⟨t,l,lc,bs,cs,hs,rq,hI,⟨lI,fo (sF.free fl),λa ha=>fo (sF.free (fbs a ha))⟩,⟨cI,fo (sEG.free hlc),λa ha=>fo (sEG.free (g3 a ha))⟩,shp⟩;refine⟨_,_,_,L9,as9,Ny,K8,W9,vs++[.ref t],rq,SI.Bv sJ ht' hdE hdB,by omega,hJ,by rw[QaI];exact Nat.succ_le_succ vl,hdE,hdB,λv hv=>?_,(OE.CP KI ntE).CP KJ ntI,(AE.CP KI).CP KJ,(KHE.trans KI).trans KJ⟩;rcases Qbn.mp hv with hv | hv
   ·exact ((tdE v hv).CP KI ntE).CP KJ ntI
   ·rw[QaF.mp hv];exact tdI.CP KJ ntI
  ·rw[Qbm w0];exact Bo ⟨_,_,_,L9,as9,Ny,K8,W9,vs,rq,SE,by omega,hhE,by omega,hdE,hdB,tdE,OE,AE,KHE⟩
 obtain⟨u8,u9,u10,L',as',Df,Iw,W',vs,rfl,SA,wl,hhA,vl,Yr,dh,tdA,OA,AA,KA⟩:=h;have oM:vs.length<=60:=by omega
 refine⟨_,rq,hd,rq,⟨_,SqL.of hhA⟩,λlc hlc=>?_⟩;let J2:YN:=λ(x:Nat) (Z : St) (HX:Hp)=>∃(u v:Option V),Z=[u,v]/\HX lc=some (.lst ((List.replicate x true).map V.bl))/\Same HH HX;refine Di (xs:=vs) J2 ⟨_,_,rq,Ab,Ag hlc _⟩ (λx Z HX _ g=>?_) (λx v Z HX hx g=>?_) (fun Z HX g=>?_)
 ·obtain⟨u,v,rfl,g1,g2⟩:=g;exact SqL.of (g2 _ _ hhA)
 ·obtain⟨u,v',rfl,g1,g2⟩:=g;obtain⟨t,x1,y1,xs,ys,hs,rfl,h1,hx1,hy1,shp⟩:=tdA v (Qat hx);have xl:x < vs.length:=(Qae.mp hx).1;refine⟨t,_,rq,SqT.of (g2 _ _ h1),rq,_,_,rq,_,_,rq,rq,Bm ⟨_,rq,_,rq,_,_,Io (hx1.1.same g2),Io (hy1.1.same g2),shp,shp,_,g1,Am (by simp;omega),_,_,rq,?_,g2.Br Ah.upd hlc⟩⟩;rw[Ab,SeqAt.eqv_refl _ (Qao shp),Qay,Qbo];rfl
 obtain⟨u,v,rfl,g1,sX⟩:=g;refine⟨lc,List.replicate vs.length true,rq,SqL.of g1,_,rq,?_⟩;rw[show (List.replicate vs.length true).all id=true by simp];have SX:=SA.same sX;refine Bo ⟨_,rq,_,rq,p,L',TT,lk,as',n,Df,Iw,rq,SX.R,SX.hk,λHY sY=>⟨_,rq,Bo ?_⟩⟩;have sAY:=sX.trans sY;have aY:=AA.1.same sAY;obtain⟨a0,rfl⟩ : ∃a,ahs=[a]:=by
  have:=QbG aY.2
  match ahs,this with
  | [a],_=>exact⟨a,rfl⟩
 have ea:HY a0=some (.lst (nv (List.range n'))):=by
  cases aY.2 with
  | cons e _=>exact e
 have Wh:SeqAt.shaped (hD [List.range n'])=true:=by
  have:n'=2\/n'=3\/n'=4:=by omega
  rcases this with rfl | rfl | rfl <;> decide +kernel
 have Wg:SeqAt.shaped (.list ((List.range n').map λk:Nat=>PyData.int (k:Int)))=true:=by
  have:n'=2\/n'=3\/n'=4:=by omega
  rcases this with rfl | rfl | rfl <;> decide +kernel
 have RY:=OA.R.same sAY;obtain⟨dxY,obY⟩:=RY.ob;refine⟨_,rq,ah,_,rq,.inl (SqL.of aY.1),rq,_,rq,?_⟩;rw[show decide (V.int ((List.map V.ref [a0]).length:Int)=V.int 1)=true from QbC rfl]
 refine Bm ⟨_,rq,p2,dxY,_,rq,obY,Dh (by trivial),p2,L2,T2,as2,n',_,_,rq,RY,λl bs HZ fl fbs nl hZ sZ=>?_⟩;rw[Uo n2' n4'] at hZ;have aZ:=aY.same sZ;refine⟨_,rq,_,_,Io hZ,Io aZ,Wh,Wh,_,rq,?_⟩;rw[SeqAt.eqv_refl _ (Qao Wh)];have eaZ:=sZ _ _ ea;have at0:atI (List.map V.ref [a0]) 0=some (.ref a0):=show atI (List.map V.ref [a0]) ((0:Nat):Int)=_ from Fw rfl
 refine Bm ⟨_,rq,ah,_,_,_,rq,rq,SqL.of aZ.1,at0,?_⟩;refine⟨_,rq,ah,_,_,_,rq,rq,SqL.of aZ.1,at0,a0,_,rq,.inl (SqL.of eaZ),?_⟩;rw[FJ,QaY];refine⟨n',rq,by omega,by omega,λl6 hl6=>?_⟩;rw[QaU];have s6':=Ag hl6 (.lst ((List.range n').map λk:Nat=>V.int (k:Int)));have h6':(upd HZ l6 (.lst ((List.range n').map λk:Nat=>V.int (k:Int)))) l6=some (.lst (nv (List.range n'))):=Ab;generalize upd HZ l6 (.lst ((List.range n').map λk:Nat=>V.int (k:Int)))=HP at *;refine⟨_,_,.lst (s6' _ _ eaZ) (Ka _),.lst h6' (Ka _),Wg,Wg,?_⟩;rw[SeqAt.eqv_refl _ (Qao Wg)];exact q _
end
theorem Td {K:YD} {C c0 c1 c2 c3 c4 c5 c6 c7 c8 c9 c10 c11 c12:Addr} {j:Nat} (q0:kitOne K (.ref C) (.ref c0)=some (decide (0=j))) (q1:kitOne K (.ref C) (.ref c1)=some (decide (1=j))) (q2:kitOne K (.ref C) (.ref c2)=some (decide (2=j))) (q3:kitOne K (.ref C) (.ref c3)=some (decide (3=j))) (q4:kitOne K (.ref C) (.ref c4)=some (decide (4=j))) (q5:kitOne K (.ref C) (.ref c5)=some (decide (5=j))) (q6:kitOne K (.ref C) (.ref c6)=some (decide (6=j))) (q7:kitOne K (.ref C) (.ref c7)=some (decide (7=j))) (q8:kitOne K (.ref C) (.ref c8)=some (decide (8=j))) (q9:kitOne K (.ref C) (.ref c9)=some (decide (9=j))) (q10:kitOne K (.ref C) (.ref c10)=some (decide (10=j))) (q11:kitOne K (.ref C) (.ref c11)=some (decide (11=j))) (q12:kitOne K (.ref C) (.ref c12)=some (decide (12=j))) :
  ∀i d,([c0,c1,c2,c3,c4,c5,c6,c7,c8,c9,c10,c11,c12]:List Addr)[i]?=some d->kitOne K (.ref C) (.ref d)=some (decide (i=j)):=λi d h=>by
 match i,h with
 | 0,h=>cases h;exact q0
 | 1,h=>cases h;exact q1
 | 2,h=>cases h;exact q2
 | 3,h=>cases h;exact q3
 | 4,h=>cases h;exact q4
 | 5,h=>cases h;exact q5
 | 6,h=>cases h;exact q6
 | 7,h=>cases h;exact q7
 | 8,h=>cases h;exact q8
 | 9,h=>cases h;exact q9
 | 10,h=>cases h;exact q10
 | 11,h=>cases h;exact q11
 | 12,h=>cases h;exact q12
 | n+13,h=>cases h
theorem all_mk {l:PySem.W.OpenLaw} {w:World} {K:YD} {h:Heap} {mg:YB} {fa C f1 f2 f3 f4 f5 f6 f7 f8 f9 f10 f11 f12 f13 fm1 fm2 fm3 fm4 fm5 fm6 fm7 fm8 fm9:Addr} (X:K.In h) (G:h.Ns mainGlobals mg) (hfa:mg "law"=some (.ref fa))
  {od1 an1 od2 an2 od3 an3 od4 an4 od5 an5 od6 an6 od7 an7 od8 an8 od9 an9 jU nY jT nW jR nU jQ eY jP nR jO nQ jN nP jM nO jL nJ jK nH jJ nG jH nF jG nC:Option Addr} {sl1 sl2 sl3 sl4 sl5 sl6 sl7 sl8 sl9 jf je jd jc iZ iY iV iU iR iQ iM iK iJ:YI} {oc1 kV1 dc1 pm1 cd1 ct1 oc2 kV2 dc2 pm2 cd2 ct2 oc3 kV3 dc3 pm3 cd3 ct3 oc4 kV4 dc4 pm4 cd4 ct4 oc5 kV5 dc5 pm5 cd5 ct5 oc6 kV6 dc6 pm6 cd6 ct6 oc7 kV7 dc7 pm7 cd7 ct7 oc8 kV8 dc8 pm8 cd8 ct8 oc9 kV9 dc9 pm9 cd9 ct9 kj lK mV jE eH nu kh lJ mU jD eG nq j9 lH mR jC eF nj j8 cX dJ bW Y0 dM j7 lG mQ jB eE ni j6 lF mO jA d9 m9 j5 lE mJ jz d8 m8 j4 lD mH jy d7 m7 jZ lC mG jx dZ m6 jY lB mF jw dY m5 jX lA mD ju dX mZ jW lu mC jr dU mY jV lq mz jq dR mX:Value} {tk0:Tok}
  (aC:nsIn K mainGlobals "Ring"=some (some (.ref C)))
  (am1:findIn K (.ref C) "__init__"=some (some (.ref fm1))) (im1:isFn K (.ref fm1)=true) (lm1:K.lookup fm1=some ⟨j7,jP,.func (fnOf "__init__" "Ring.__init__" (Ay BL) (Av BL) (Ad BL) .none lG mQ jB nR eE ni),iZ⟩) (cm1:codeIn K eE "Ring.__init__"=true) (km1:keepIn K (.ref fm1)=true)
  (am2:findIn K (.ref C) "check_panel"=some (some (.ref fm2))) (im2:isFn K (.ref fm2)=true) (lm2:K.lookup fm2=some ⟨j6,jO,.func (fnOf "check_panel" "Ring.check_panel" (Ay Bt) (Av Bt) (Ad Bt) .none lF mO jA nQ d9 m9),iY⟩) (cm2:codeIn K d9 "Ring.check_panel"=true) (km2:keepIn K (.ref fm2)=true)
  (am3:findIn K (.ref C) "tie"=some (some (.ref fm3))) (im3:isFn K (.ref fm3)=true) (lm3:K.lookup fm3=some ⟨j5,jN,.func (fnOf "tie" "Ring.tie" (Ay Dz) (Av Dz) (Ad Dz) .none lE mJ jz nP d8 m8),iV⟩) (cm3:codeIn K d8 "Ring.tie"=true) (km3:keepIn K (.ref fm3)=true)
  (am4:findIn K (.ref C) "cut"=some (some (.ref fm4))) (im4:isFn K (.ref fm4)=true) (lm4:K.lookup fm4=some ⟨j4,jM,.func (fnOf "cut" "Ring.cut" (Ay DG) (Av DG) (Ad DG) .none lD mH jy nO d7 m7),iU⟩) (cm4:codeIn K d7 "Ring.cut"=true) (km4:keepIn K (.ref fm4)=true)
  (am5:findIn K (.ref C) "mend"=some (some (.ref fm5))) (im5:isFn K (.ref fm5)=true) (lm5:K.lookup fm5=some ⟨jZ,jL,.func (fnOf "mend" "Ring.mend" (Ay Dj) (Av Dj) (Ad Dj) .none lC mG jx nJ dZ m6),iR⟩) (cm5:codeIn K dZ "Ring.mend"=true) (km5:keepIn K (.ref fm5)=true)
  (am6:findIn K (.ref C) "pairs"=some (some (.ref fm6))) (im6:isFn K (.ref fm6)=true) (lm6:K.lookup fm6=some ⟨jY,jK,.func (fnOf "pairs" "Ring.pairs" (Ay Cg) (Av Cg) (Ad Cg) .none lB mF jw nH dY m5),iQ⟩) (cm6:codeIn K dY "Ring.pairs"=true) (km6:keepIn K (.ref fm6)=true)
  (am7:findIn K (.ref C) "write"=some (some (.ref fm7))) (im7:isFn K (.ref fm7)=true) (lm7:K.lookup fm7=some ⟨jX,jJ,.func (fnOf "write" "Ring.write" (Ay Ce) (Av Ce) (Ad Ce) .none lA mD ju nG dX mZ),iM⟩) (cm7:codeIn K dX "Ring.write"=true) (km7:keepIn K (.ref fm7)=true)
  (am8:findIn K (.ref C) "beat"=some (some (.ref fm8))) (im8:isFn K (.ref fm8)=true) (lm8:K.lookup fm8=some ⟨jW,jH,.func (fnOf "beat" "Ring.beat" (Ay Dk) (Av Dk) (Ad Dk) .none lu mC jr nF dU mY),iK⟩) (cm8:codeIn K dU "Ring.beat"=true) (km8:keepIn K (.ref fm8)=true)
  (am9:findIn K (.ref C) "houses"=some (some (.ref fm9))) (im9:isFn K (.ref fm9)=true) (lm9:K.lookup fm9=some ⟨jV,jG,.func (fnOf "houses" "Ring.houses" (Ay Bx) (Av Bx) (Ad Bx) .none lq mz jq nC dR mX),iJ⟩) (cm9:codeIn K dR "Ring.houses"=true) (km9:keepIn K (.ref fm9)=true)
  (a1:nsIn K mainGlobals "is_whole"=some (some (.ref f1))) (l1:K.lookup f1=some ⟨oc1,od1,.func (fnOf "is_whole" "is_whole" (Ay Eo) (Av Eo) (Ad Eo) .none kV1 dc1 pm1 an1 cd1 ct1),sl1⟩) (c1:codeIn K cd1 "is_whole"=true) (k1:keepIn K (.ref f1)=true)
  (a2:nsIn K mainGlobals "is_within"=some (some (.ref f2))) (l2:K.lookup f2=some ⟨oc2,od2,.func (fnOf "is_within" "is_within" (Ay DX) (Av DX) (Ad DX) .none kV2 dc2 pm2 an2 cd2 ct2),sl2⟩) (c2:codeIn K cd2 "is_within"=true) (k2:keepIn K (.ref f2)=true)
  (a3:nsIn K mainGlobals "is_line"=some (some (.ref f3))) (l3:K.lookup f3=some ⟨oc3,od3,.func (fnOf "is_line" "is_line" (Ay Fp) (Av Fp) (Ad Fp) .none kV3 dc3 pm3 an3 cd3 ct3),sl3⟩) (c3:codeIn K cd3 "is_line"=true) (k3:keepIn K (.ref f3)=true)
  (a4:nsIn K mainGlobals "joined"=some (some (.ref f4))) (l4:K.lookup f4=some ⟨oc4,od4,.func (fnOf "joined" "joined" (Ay Gf) (Av Gf) (Ad Gf) .none kV4 dc4 pm4 an4 cd4 ct4),sl4⟩) (c4:codeIn K cd4 "joined"=true) (k4:keepIn K (.ref f4)=true)
  (a5:nsIn K mainGlobals "_law_bag"=some (some (.ref f5))) (l5:K.lookup f5=some ⟨oc5,od5,.func (fnOf "_law_bag" "_law_bag" (Ay G5) (Av G5) (Ad G5) .none kV5 dc5 pm5 an5 cd5 ct5),sl5⟩) (c5:codeIn K cd5 "_law_bag"=true) (k5:keepIn K (.ref f5)=true)
  (a6:nsIn K mainGlobals "_law_take"=some (some (.ref f6))) (l6:K.lookup f6=some ⟨oc6,od6,.func (fnOf "_law_take" "_law_take" (Ay Gb) (Av Gb) (Ad Gb) .none kV6 dc6 pm6 an6 cd6 ct6),sl6⟩) (c6:codeIn K cd6 "_law_take"=true) (k6:keepIn K (.ref f6)=true)
  (a7:nsIn K mainGlobals "_law_whole"=some (some (.ref f7))) (l7:K.lookup f7=some ⟨oc7,od7,.func (fnOf "_law_whole" "_law_whole" (Ay Fo) (Av Fo) (Ad Fo) .none kV7 dc7 pm7 an7 cd7 ct7),sl7⟩) (c7:codeIn K cd7 "_law_whole"=true) (k7:keepIn K (.ref f7)=true)
  (a8:nsIn K mainGlobals "_law_kind"=some (some (.ref f8))) (l8:K.lookup f8=some ⟨oc8,od8,.func (fnOf "_law_kind" "_law_kind" (Ay Gd) (Av Gd) (Ad Gd) .none kV8 dc8 pm8 an8 cd8 ct8),sl8⟩) (c8:codeIn K cd8 "_law_kind"=true) (k8:keepIn K (.ref f8)=true)
  (a9:nsIn K mainGlobals "_law_houses"=some (some (.ref f9))) (l9:K.lookup f9=some ⟨oc9,od9,.func (fnOf "_law_houses" "_law_houses" (Ay Dy) (Av Dy) (Ad Dy) .none kV9 dc9 pm9 an9 cd9 ct9),sl9⟩) (c9:codeIn K cd9 "_law_houses"=true) (k9:keepIn K (.ref f9)=true)
  (a10:nsIn K mainGlobals "_law_told"=some (some (.ref f10))) (l10:K.lookup f10=some ⟨kj,jU,.func (fnOf "_law_told" "_law_told" (Ay Ga) (Av Ga) (Ad Ga) .none lK mV jE nY eH nu),jf⟩) (c10:codeIn K eH "_law_told"=true) (k10:keepIn K (.ref f10)=true)
  (a11:nsIn K mainGlobals "_law_refused"=some (some (.ref f11))) (l11:K.lookup f11=some ⟨kh,jT,.func (fnOf "_law_refused" "_law_refused" (Ay DW) (Av DW) (Ad DW) .none lJ mU jD nW eG nq),je⟩) (c11:codeIn K eG "_law_refused"=true) (k11:keepIn K (.ref f11)=true)
  (a12:nsIn K mainGlobals "_law_deed"=some (some (.ref f12))) (l12:K.lookup f12=some ⟨j9,jR,.func (fnOf "_law_deed" "_law_deed" (Ay Ge) (Av Ge) (Ad Ge) .none lH mR jC nU eF nj),jd⟩) (c12:codeIn K eF "_law_deed"=true) (k12:keepIn K (.ref f12)=true)
  (a13:nsIn K mainGlobals "law"=some (some (.ref f13))) (l13:K.lookup f13=some ⟨j8,jQ,.func (fnOf "law" "law" (Ay GR) (Av GR) (Ad GR) .none cX dJ bW eY Y0 dM),jc⟩) (c13:codeIn K Y0 "law"=true) (k13:keepIn K (.ref f13)=true)
  (pg:plainGet K C Str.empty=true) (hd:hasDictIn K C=true) (po:PySem.W.plainOver K C=true) (sa:findIn K (.ref C) "__setattr__"=some (some (.builtin "object.__setattr__"))) (mk:PySem.W.makesIn K C=true) (kc:keepIn K (.ref C)=true)
  (n0:findIn K (.ref C) "many"=some none)
  (n1:findIn K (.ref C) "logs"=some none)
  (n2:findIn K (.ref C) "tied"=some none)
  (YT:nsIn K mainGlobals "MOST_SIGNS"=some (some (.int 20 tk0)))
  (z0:nsIn K mainGlobals "isinstance"=some none)
  (z1:nsIn K mainGlobals "int"=some none)
  (z2:nsIn K mainGlobals "bool"=some none)
  (z3:nsIn K mainGlobals "tuple"=some none)
  (z4:nsIn K mainGlobals "list"=some none)
  (z5:nsIn K mainGlobals "str"=some none)
  (z6:nsIn K mainGlobals "len"=some none)
  (z7:nsIn K mainGlobals "all"=some none)
  (z8:nsIn K mainGlobals "abs"=some none)
  (z9:nsIn K mainGlobals "max"=some none)
  (z10:nsIn K mainGlobals "min"=some none)
  (z11:nsIn K mainGlobals "range"=some none)
  (z12:nsIn K mainGlobals "sorted"=some none)
  (z13:nsIn K mainGlobals "any"=some none)
  (z14:nsIn K mainGlobals "sum"=some none)
  (z15:nsIn K mainGlobals "enumerate"=some none)
  (z16:nsIn K mainGlobals "zip"=some none)
  (z17:nsIn K mainGlobals "reversed"=some none)
  (z18:nsIn K mainGlobals "dict"=some none)
  (z19:nsIn K mainGlobals "ord"=some none)
  {tkS:Tok} {hc u0 u1 u2 u3 u4 u5 u6 u7 u8 u9 u10 u11 u12:Addr}
  (aSG:nsIn K mainGlobals "SIGNS"=some (some (.str " !\"#$&'()*+,-./0123456789:;<=>?@ABCDEFGHIJKLMNOPQRSTUVWXYZ[\\]^_`abcdefghijklmnopqrstuvwxyz{|}~" tkS)))
  (xzv:nsIn K mainGlobals "ValueError"=some none)
  (xeh:nsIn K mainGlobals "HouseError"=some (some (.ref hc)))
  (xe0:nsIn K mainGlobals "NoPlan"=some (some (.ref u0)))
  (xe1:nsIn K mainGlobals "NoText"=some (some (.ref u1)))
  (xe2:nsIn K mainGlobals "NoStretch"=some (some (.ref u2)))
  (xe3:nsIn K mainGlobals "NoSpot"=some (some (.ref u3)))
  (xe4:nsIn K mainGlobals "NoOpener"=some (some (.ref u4)))
  (xe5:nsIn K mainGlobals "NoAddress"=some (some (.ref u5)))
  (xe6:nsIn K mainGlobals "NoRules"=some (some (.ref u6)))
  (xe7:nsIn K mainGlobals "NoHand"=some (some (.ref u7)))
  (xe8:nsIn K mainGlobals "NoPanel"=some (some (.ref u8)))
  (xe9:nsIn K mainGlobals "NoLink"=some (some (.ref u9)))
  (Wb:nsIn K mainGlobals "NoLog"=some (some (.ref u10)))
  (Wa:nsIn K mainGlobals "NoDeed"=some (some (.ref u11)))
  (V9:nsIn K mainGlobals "NoRow"=some (some (.ref u12)))
  (xhx:excIn K hc [.type "ValueError",.type "Exception",.type "BaseException",.type "object"] "ValueError.__new__"=true)
  (xha:findIn K (.ref hc) "__getattribute__"=some (some (.builtin "BaseException.__getattribute__")))
  (xhn:findIn K (.ref hc) "__getattr__"=some none)
  (xhc:findIn K (.ref hc) "__class__"=some (some (.builtin "object.__class__")))
  (xho:subIn K (.ref hc) (.type "object")=some true)
  (xhb:subIn K (.ref hc) (.type "BaseException")=some true)
  (xhk:keepIn K (.ref hc)=true)
  (Yh:excIn K u1 [.type "ValueError",.type "Exception",.type "BaseException",.type "object"] "ValueError.__new__"=true)
  (Yn:findIn K (.ref u1) "__getattribute__"=some (some (.builtin "BaseException.__getattribute__")))
  (Yj:findIn K (.ref u1) "__getattr__"=some none)
  (Yl:findIn K (.ref u1) "__class__"=some (some (.builtin "object.__class__")))
  (Yi:subIn K (.ref u1) (.type "object")=some true)
  (Ym:subIn K (.ref u1) (.type "BaseException")=some true)
  (Yk:keepIn K (.ref u1)=true)
  (XS:subIn K (.ref u1) (.ref hc)=some true)
  (Yg:kitOne K (.ref u1) (.ref u0)=some false)
  (Ye:kitOne K (.ref u1) (.ref u1)=some true)
  (Yd:kitOne K (.ref u1) (.ref u2)=some false)
  (Yc:kitOne K (.ref u1) (.ref u3)=some false)
  (Yb:kitOne K (.ref u1) (.ref u4)=some false)
  (X8:kitOne K (.ref u1) (.ref u5)=some false)
  (X7:kitOne K (.ref u1) (.ref u6)=some false)
  (X6:kitOne K (.ref u1) (.ref u7)=some false)
  (X5:kitOne K (.ref u1) (.ref u8)=some false)
  (X4:kitOne K (.ref u1) (.ref u9)=some false)
  (Tt:kitOne K (.ref u1) (.ref u10)=some false)
  (Tr:kitOne K (.ref u1) (.ref u11)=some false)
  (Tq:kitOne K (.ref u1) (.ref u12)=some false)
  (X3:kitOne K (.ref u1) (.type "ValueError")=some true)
  (XD:excIn K u8 [.type "ValueError",.type "Exception",.type "BaseException",.type "object"] "ValueError.__new__"=true)
  (XR:findIn K (.ref u8) "__getattribute__"=some (some (.builtin "BaseException.__getattribute__")))
  (XH:findIn K (.ref u8) "__getattr__"=some none)
  (XM:findIn K (.ref u8) "__class__"=some (some (.builtin "object.__class__")))
  (XF:subIn K (.ref u8) (.type "object")=some true)
  (XQ:subIn K (.ref u8) (.type "BaseException")=some true)
  (XJ:keepIn K (.ref u8)=true)
  (Xn:subIn K (.ref u8) (.ref hc)=some true)
  (XC:kitOne K (.ref u8) (.ref u0)=some false)
  (Xz:kitOne K (.ref u8) (.ref u1)=some false)
  (Xy:kitOne K (.ref u8) (.ref u2)=some false)
  (Xx:kitOne K (.ref u8) (.ref u3)=some false)
  (Xw:kitOne K (.ref u8) (.ref u4)=some false)
  (Xv:kitOne K (.ref u8) (.ref u5)=some false)
  (Xu:kitOne K (.ref u8) (.ref u6)=some false)
  (Xr:kitOne K (.ref u8) (.ref u7)=some false)
  (Xq:kitOne K (.ref u8) (.ref u8)=some true)
  (Xp:kitOne K (.ref u8) (.ref u9)=some false)
  (Tp:kitOne K (.ref u8) (.ref u10)=some false)
  (Tn:kitOne K (.ref u8) (.ref u11)=some false)
  (Ti:kitOne K (.ref u8) (.ref u12)=some false)
  (Xo:kitOne K (.ref u8) (.type "ValueError")=some true)
  (Xg:excIn K u9 [.type "ValueError",.type "Exception",.type "BaseException",.type "object"] "ValueError.__new__"=true)
  (Xm:findIn K (.ref u9) "__getattribute__"=some (some (.builtin "BaseException.__getattribute__")))
  (Xi:findIn K (.ref u9) "__getattr__"=some none)
  (Xk:findIn K (.ref u9) "__class__"=some (some (.builtin "object.__class__")))
  (Xh:subIn K (.ref u9) (.type "object")=some true)
  (Xl:subIn K (.ref u9) (.type "BaseException")=some true)
  (Xj:keepIn K (.ref u9)=true)
  (W3:subIn K (.ref u9) (.ref hc)=some true)
  (Xf:kitOne K (.ref u9) (.ref u0)=some false)
  (Xe:kitOne K (.ref u9) (.ref u1)=some false)
  (Xd:kitOne K (.ref u9) (.ref u2)=some false)
  (Xc:kitOne K (.ref u9) (.ref u3)=some false)
  (Xb:kitOne K (.ref u9) (.ref u4)=some false)
  (Xa:kitOne K (.ref u9) (.ref u5)=some false)
  (W8:kitOne K (.ref u9) (.ref u6)=some false)
  (W7:kitOne K (.ref u9) (.ref u7)=some false)
  (W6:kitOne K (.ref u9) (.ref u8)=some false)
  (W5:kitOne K (.ref u9) (.ref u9)=some true)
  (Tg:kitOne K (.ref u9) (.ref u10)=some false)
  (Tf:kitOne K (.ref u9) (.ref u11)=some false)
  (Te:kitOne K (.ref u9) (.ref u12)=some false)
  (W4:kitOne K (.ref u9) (.type "ValueError")=some true)
  : ∃fd:FuncData,(∀(s:Shared) (v:Value),BindsTo s fd ⟨[v],[]⟩ [("_law_script",v)])/\∀base:Heap,K.In base->base.Ns mainGlobals mg->Du l.prog w K mg base CX0 9 fa fd Zk (Ld K):=by
 have e:=hfa.symm.trans (mg_of X G a13);cases e;have TN:Nm mg:=⟨mg_none_of X G z0,mg_none_of X G z1,mg_none_of X G z2,mg_none_of X G z3,mg_none_of X G z4,mg_none_of X G z5,mg_none_of X G z6,mg_none_of X G z7,mg_none_of X G z8,mg_none_of X G z9,mg_none_of X G z10,mg_none_of X G z11,mg_none_of X G z12,mg_none_of X G z13,mg_none_of X G z14,mg_none_of X G z15,mg_none_of X G z16,mg_none_of X G z17,mg_none_of X G z18,mg_none_of X G z19⟩;have T:Tx K mg C:={ toTj:={ toNm:=TN,SIGNS:=⟨_,mg_of X G aSG,⟨_,rq⟩⟩,MOST_SIGNS:=⟨_,mg_of X G YT,⟨_,rq⟩⟩ },cl:=⟨pg,hd,po,sa⟩,mgC:=mg_of X G aC,Il:=n0,Gy:=n1,Ln:=n2 };have XE:Er K mg hc u0 u1 u2 u3 u4 u5 u6 u7 u8 u9 u10 u11 u12:=⟨mg_none_of X G xzv,mg_of X G xeh,⟨xhx,xha,xhn,xhc,xho,xhb,xhk⟩,mg_of X G xe0,mg_of X G xe1,mg_of X G xe2,mg_of X G xe3,mg_of X G xe4,mg_of X G xe5,mg_of X G xe6,mg_of X G xe7,mg_of X G xe8,mg_of X G xe9,mg_of X G Wb,mg_of X G Wa,mg_of X G V9⟩;have KN:Knd K hc u1 [u0,u1,u2,u3,u4,u5,u6,u7,u8,u9,u10,u11,u12] 1:=⟨⟨Yh,Yn,Yj,Yl,Yi,Ym,Yk⟩,XS,Td (j:=1) Yg Ye Yd Yc Yb X8 X7 X6 X5 X4 Tt Tr Tq,X3⟩;have JF:Knd K hc u8 [u0,u1,u2,u3,u4,u5,u6,u7,u8,u9,u10,u11,u12] 8:=⟨⟨XD,XR,XH,XM,XF,XQ,XJ⟩,Xn,Td (j:=8) XC Xz Xy Xx Xw Xv Xu Xr Xq Xp Tp Tn Ti,Xo⟩;have CG:Knd K hc u9 [u0,u1,u2,u3,u4,u5,u6,u7,u8,u9,u10,u11,u12] 9:=⟨⟨Xg,Xm,Xi,Xk,Xh,Xl,Xj⟩,W3,Td (j:=9) Xf Xe Xd Xc Xb Xa W8 W7 W6 W5 Tg Tf Te,W4⟩;have Fm1:=El (st:=BL) lm1 cm1 km1;have bm1:=Fm1.binds (ps:=Cj) λ_ _ _ _ _ _ us hl=>match us,hl with | [_,_],_=>rfl
 have Uc:∃f fd,Fun K "__init__" "Ring.__init__" BL f fd/\Mk K C f/\Binds K fd Cj []:=⟨fm1,_,Fm1,⟨mk,am1,im1,kc⟩,bm1⟩;have Fm2:=El (st:=Bt) lm2 cm2 km2;have bm2:=Fm2.binds (ps:=BK) λ_ _ _ _ _ _ us hl=>match us,hl with | [_,_],_=>rfl
 have Np:Ck K C "check_panel" "Ring.check_panel" Bt BK:=⟨fm2,_,Fm2,⟨am2,im2,km2⟩,bm2⟩;have Fm3:=El (st:=Dz) lm3 cm3 km3;have bm3:=Fm3.binds (ps:=DK) λ_ _ _ _ _ _ us hl=>match us,hl with | [_,_,_],_=>rfl
 have gU:Ck K C "tie" "Ring.tie" Dz DK:=⟨fm3,_,Fm3,⟨am3,im3,km3⟩,bm3⟩;have Fm4:=El (st:=DG) lm4 cm4 km4;have bm4:=Fm4.binds (ps:=DN) λ_ _ _ _ _ _ us hl=>match us,hl with | [_,_],_=>rfl
 have gW:Ck K C "cut" "Ring.cut" DG DN:=⟨fm4,_,Fm4,⟨am4,im4,km4⟩,bm4⟩;have Fm5:=El (st:=Dj) lm5 cm5 km5;have bm5:=Fm5.binds (ps:=Dm) λ_ _ _ _ _ _ us hl=>match us,hl with | [_,_],_=>rfl
 have fC:Ck K C "mend" "Ring.mend" Dj Dm:=⟨fm5,_,Fm5,⟨am5,im5,km5⟩,bm5⟩;have Fm6:=El (st:=Cg) lm6 cm6 km6;have bm6:=Fm6.binds (ps:=Cy) λ_ _ _ _ _ _ us hl=>match us,hl with | [_],_=>rfl
 have aX:Ck K C "pairs" "Ring.pairs" Cg Cy:=⟨fm6,_,Fm6,⟨am6,im6,km6⟩,bm6⟩;have Fm7:=El (st:=Ce) lm7 cm7 km7;have bm7:=Fm7.binds (ps:=Dq) λ_ _ _ _ _ _ us hl=>match us,hl with | [_,_,_],_=>rfl
 have aW:Ck K C "write" "Ring.write" Ce Dq:=⟨fm7,_,Fm7,⟨am7,im7,km7⟩,bm7⟩;have Fm8:=El (st:=Dk) lm8 cm8 km8;have bm8:=Fm8.binds (ps:=Ea) λ_ _ _ _ _ _ us hl=>match us,hl with | [_],_=>rfl
 have fD:Ck K C "beat" "Ring.beat" Dk Ea:=⟨fm8,_,Fm8,⟨am8,im8,km8⟩,bm8⟩;have Fm9:=El (st:=Bx) lm9 cm9 km9;have bm9:=Fm9.binds (ps:=Cp) λ_ _ _ _ _ _ us hl=>match us,hl with | [_],_=>rfl
 have Y7:Ck K C "houses" "Ring.houses" Bx Cp:=⟨fm9,_,Fm9,⟨am9,im9,km9⟩,bm9⟩;have Ui:Code K mg "is_whole" Eo Fz:=Code.of X G a1 l1 c1 k1 λ_ _ _ _ _ _ us hl=>match us,hl with | [_],_=>rfl
 have Q5:Code K mg "is_within" DX DY:=Code.of X G a2 l2 c2 k2 λ_ _ _ _ _ _ us hl=>match us,hl with | [_,_,_],_=>rfl
 have V8:Code K mg "is_line" Fp Gx:=Code.of X G a3 l3 c3 k3 λ_ _ _ _ _ _ us hl=>match us,hl with | [_,_,_],_=>rfl
 have Zc:Code K mg "joined" Gf Hq:=Code.of X G a4 l4 c4 k4 λ_ _ _ _ _ _ us hl=>match us,hl with | [_,_],_=>rfl
 have bf:Code K mg "_law_bag" G5 Ii:=Code.of X G a5 l5 c5 k5 λ_ _ _ _ _ _ us hl=>match us,hl with | [_,_],_=>rfl
 have Y9:Code K mg "_law_take" Gb Gg:=Code.of X G a6 l6 c6 k6 λ_ _ _ _ _ _ us hl=>match us,hl with | [_,_],_=>rfl
 have V7:Code K mg "_law_whole" Fo Gw:=Code.of X G a7 l7 c7 k7 λ_ _ _ _ _ _ us hl=>match us,hl with | [_],_=>rfl
 have Za:Code K mg "_law_kind" Gd Hl:=Code.of X G a8 l8 c8 k8 λ_ _ _ _ _ _ us hl=>match us,hl with | [_],_=>rfl
 have Uh:Code K mg "_law_houses" Dy Fy:=Code.of X G a9 l9 c9 k9 λ_ _ _ _ _ _ us hl=>match us,hl with | [_],_=>rfl
 have Y8:Code K mg "_law_told" Ga Hj:=Code.of X G a10 l10 c10 k10 λ_ _ _ _ _ _ us hl=>match us,hl with | [_,_],_=>rfl
 have Q0:Code K mg "_law_refused" DW Eu:=Code.of X G a11 l11 c11 k11 λ_ _ _ _ _ _ us hl=>match us,hl with | [_,_,_],_=>rfl
 have Zb:Code K mg "_law_deed" Ge Ho:=Code.of X G a12 l12 c12 k12 λ_ _ _ _ _ _ us hl=>match us,hl with | [_,_,_],_=>rfl
 have gY:=El (st:=GR) l13 c13 k13;refine⟨fnOf "law" "law" (Ay GR) (Av GR) (Ad GR) .none cX dJ bW eY Y0 dM,λs v=>.of_eq rfl,λbase _ _=>?_⟩;have Kg:=WL (P:=l.prog) (w:=w) (base:=base) bf TN;have CJ:=U9 (P:=l.prog) (w:=w) (base:=base) Y9 TN;have h_kind:=Z8 (P:=l.prog) (w:=w) (base:=base) Za TN XE;have aO:=QG (P:=l.prog) (w:=w) (base:=base) Ui TN;have Pz:=O1 (P:=l.prog) (w:=w) (base:=base) Q5 TN aO;have dz:=Sw (P:=l.prog) (w:=w) (base:=base) V8 T.toTj;have Jg:=Va (P:=l.prog) (w:=w) (base:=base) Zc TN;have dB:=Z9 (P:=l.prog) (w:=w) (base:=base) Uc T;have aP:=WM (P:=l.prog) (w:=w) (base:=base) Np T XE JF Pz;have Zv:=cB (P:=l.prog) (w:=w) (base:=base) gU T XE CG Pz;have Zw:=cD (P:=l.prog) (w:=w) (base:=base) gW T Zv;have Vu:=Z7 (P:=l.prog) (w:=w) (base:=base) fC T Zv;have Rq:=WK (P:=l.prog) (w:=w) (base:=base) aX T;have aN:=Wz (P:=l.prog) (w:=w) (base:=base) aW T XE KN aP dz;have dF:=ak (P:=l.prog) (w:=w) (base:=base) fD T Rq Jg;have PJ:=Sx (P:=l.prog) (w:=w) (base:=base) Y7 T Rq;have lU:=WD (P:=l.prog) (w:=w) (base:=base) V7 TN;have lV:=Vb (P:=l.prog) (w:=w) (base:=base) Uh TN;have dw:=Z6 (P:=l.prog) (w:=w) (base:=base) Y8 T lV lU PJ;have Vt:=Sv (P:=l.prog) (w:=w) (base:=base) Q0 T XE CG Zw Vu h_kind;have dD:=aj (P:=l.prog) (w:=w) (base:=base) Zb T CJ Vt Zw Vu aN dF;exact cC gY T Kg CJ dB dD dw PJ
theorem walk {l:PySem.W.OpenLaw} {q:Program} {loose:YF} {XP:(YB)->Heap->Prop} {YP:World->Heap->Prop} {d:DefRec} {K:Params->YD} (hn:l.most=some 63) (hdf:d.params.defaults=[])
  (hY:∀(w:World) (h:Heap),YP w h->(K w.params).In h)
  (F:∀(w:World) (mg:YB) (fa:Addr) (h:Heap),(K w.params).In h->h.Ns mainGlobals mg->mg d.name=some (.ref fa) ->
   ∃fd:FuncData,(∀(s:Shared) (u:Value),BindsTo s fd ⟨[u],[]⟩ [("_law_script",u)])/\∀base:Heap,(K w.params).In base->base.Ns mainGlobals mg->Du l.prog w (K w.params) mg base CX0 9 fa fd Zk (Ld (K w.params))) :
  PySem.W.WalkO q loose XP YP l.row.toRowW d [] (λf vs=>PySem.call f vs):=
 L2.Zz (n:=63) (k:=9) (x:="_law_script") (CX:=λ_=>CX0) (sp:=λw=>Ld (K w.params)) hn (by decide) hdf ⟨rq,by decide,by decide⟩ hY F (λ_ _ a ns hl _ hS=>⟨a,ns,rq,hS,hl,λ_=>rfl⟩) λ_ _ _ _ _ z=>z
end K41
/-! names that stay free of quick twins: the head comes through without them, and the compiled text is much smaller -/
namespace PySem.W.Fast
def tw6376529362940623981:=0
def tw16042497044530776382:=0
def tw13476838953901521063:=0
def tw10603571980838069410:=0
def tw15442292721722618307:=0
def tw4601352032957263067:=0
def tw2029066502299993222:=0
def tw17683267868376712136:=0
def tw4976575641565905133:=0
def tw2807418612259772847:=0
def tw7933320481569868670:=0
def tw10389652868965851386:=0
def tw910245505636072418:=0
def tw8805848487447231537:=0
def tw10910696119102883144:=0
def tw2854601430750211535:=0
def tw8121244698850267027:=0
def tw18344518340087929094:=0
def tw16187089613835618968:=0
def tw2387255144306637443:=0
def tw13138001424805138714:=0
def tw9725282202345423781:=0
def tw5152213109146934125:=0
def tw14599531759742786638:=0
def tw3990100486035408077:=0
def tw1592484490831854775:=0
def tw16339658770357304578:=0
def tw12536070047481429531:=0
def tw10134378538823024203:=0
def tw14220410882193230419:=0
def tw16649814222371511315:=0
def tw12610332296379787984:=0
def tw15201272358910417116:=0
def tw5695607028263910046:=0
def tw2920840223367597698:=0
def tw10325348810453897741:=0
def tw17471167079775952698:=0
def tw8844343818518710308:=0
def tw18433877346668921280:=0
def tw10824473254249695876:=0
def tw10480681872163135400:=0
def tw9931287838483703479:=0
def tw9326902170021254339:=0
def tw5706993421041658752:=0
def tw7417595994283874334:=0
def tw4850240548115367823:=0
def tw8906408468417441574:=0
def tw4338407237299007698:=0
def tw906925589168683002:=0
def tw1033397907383906879:=0
def tw17625083226565354630:=0
def tw1572578957025419194:=0
def tw15805668169852934079:=0
def tw1631998549296156849:=0
def tw2405736469919295507:=0
def tw379037284610324048:=0
def tw7462984169712112225:=0
def tw10872566832440763265:=0
def tw10213252311145609860:=0
def tw6232963873037948358:=0
def tw2415523668433137960:=0
def tw17328780085243993218:=0
def tw17874863632932735742:=0
def tw3947445056366762955:=0
def tw10949811471103559487:=0
def tw3626316481188756589:=0
def tw7680280594067282218:=0
def tw2098861540025649695:=0
def tw13605274773006856497:=0
def tw10464012167015635326:=0
def tw3608090683823807443:=0
def tw10265593634976216077:=0
def tw8355263528609442490:=0
def tw15986479471929570954:=0
def tw1560062371319068883:=0
def tw5913874536001029959:=0
def tw11165442063443581701:=0
def tw12024698758734380500:=0
end PySem.W.Fast
open PySem PySem.W PyProof.Rows
set_option maxRecDepth 100000 in
set_option maxHeartbeats 0 in
theorem PySem.Challenge.cw_warnloop_k41_houses_holds : PySem.Challenge.rw_warnloop_k41_houses.Holds := by
 w_on;o_law;k_head;(case hw=>w_witness2)
 k_fill
 refine K41.walk (l:=PySem.Challenge.rw_warnloop_k41_houses) rfl rfl (λw h Y=>PySem.W.kIn_of Y) ?F
 case F=>
  intro w mg fa h KX G hmg
  refine' K41.all_mk KX G hmg ?aC ?am1 ?im1 ?lm1 ?cm1 ?km1 ?am2 ?im2 ?lm2 ?cm2 ?km2 ?am3 ?im3 ?lm3 ?cm3 ?km3 ?am4 ?im4 ?lm4 ?cm4 ?km4 ?am5 ?im5 ?lm5 ?cm5 ?km5 ?am6 ?im6 ?lm6 ?cm6 ?km6 ?am7 ?im7 ?lm7 ?cm7 ?km7 ?am8 ?im8 ?lm8 ?cm8 ?km8 ?am9 ?im9 ?lm9 ?cm9 ?km9 ?a1 ?l1 ?c1 ?k1 ?a2 ?l2 ?c2 ?k2 ?a3 ?l3 ?c3 ?k3 ?a4 ?l4 ?c4 ?k4 ?a5 ?l5 ?c5 ?k5 ?a6 ?l6 ?c6 ?k6 ?a7 ?l7 ?c7 ?k7 ?a8 ?l8 ?c8 ?k8 ?a9 ?l9 ?c9 ?k9 ?a10 ?l10 ?c10 ?k10 ?a11 ?l11 ?c11 ?k11 ?a12 ?l12 ?c12 ?k12 ?a13 ?l13 ?c13 ?k13 ?pg ?hd ?po ?sa ?mk ?kc ?n0 ?n1 ?n2 ?YT ?z0 ?z1 ?z2 ?z3 ?z4 ?z5 ?z6 ?z7 ?z8 ?z9 ?z10 ?z11 ?z12 ?z13 ?z14 ?z15 ?z16 ?z17 ?z18 ?z19 ?aSG ?xzv ?xeh ?xe0 ?xe1 ?xe2 ?xe3 ?xe4 ?xe5 ?xe6 ?xe7 ?xe8 ?xe9 ?Wb ?Wa ?V9 ?xhx ?xha ?xhn ?xhc ?xho ?xhb ?xhk ?Yh ?Yn ?Yj ?Yl ?Yi ?Ym ?Yk ?XS ?Yg ?Ye ?Yd ?Yc ?Yb ?X8 ?X7 ?X6 ?X5 ?X4 ?Tt ?Tr ?Tq ?X3 ?XD ?XR ?XH ?XM ?XF ?XQ ?XJ ?Xn ?XC ?Xz ?Xy ?Xx ?Xw ?Xv ?Xu ?Xr ?Xq ?Xp ?Tp ?Tn ?Ti ?Xo ?Xg ?Xm ?Xi ?Xk ?Xh ?Xl ?Xj ?W3 ?Xf ?Xe ?Xd ?Xc ?Xb ?Xa ?W8 ?W7 ?W6 ?W5 ?Tg ?Tf ?Te ?W4
  (case aC=>k_is)
  (case am1=>k_is)
  (case im1=>k_is)
  (case lm1=>k_is)
  (case cm1=>k_is)
  (case km1=>k_is)
  (case am2=>k_is)
  (case im2=>k_is)
  (case lm2=>k_is)
  (case cm2=>k_is)
  (case km2=>k_is)
  (case am3=>k_is)
  (case im3=>k_is)
  (case lm3=>k_is)
  (case cm3=>k_is)
  (case km3=>k_is)
  (case am4=>k_is)
  (case im4=>k_is)
  (case lm4=>k_is)
  (case cm4=>k_is)
  (case km4=>k_is)
  (case am5=>k_is)
  (case im5=>k_is)
  (case lm5=>k_is)
  (case cm5=>k_is)
  (case km5=>k_is)
  (case am6=>k_is)
  (case im6=>k_is)
  (case lm6=>k_is)
  (case cm6=>k_is)
  (case km6=>k_is)
  (case am7=>k_is)
  (case im7=>k_is)
  (case lm7=>k_is)
  (case cm7=>k_is)
  (case km7=>k_is)
  (case am8=>k_is)
  (case im8=>k_is)
  (case lm8=>k_is)
  (case cm8=>k_is)
  (case km8=>k_is)
  (case am9=>k_is)
  (case im9=>k_is)
  (case lm9=>k_is)
  (case cm9=>k_is)
  (case km9=>k_is)
  (case a1=>k_is)
  (case l1=>k_is)
  (case c1=>k_is)
  (case k1=>k_is)
  (case a2=>k_is)
  (case l2=>k_is)
  (case c2=>k_is)
  (case k2=>k_is)
  (case a3=>k_is)
  (case l3=>k_is)
  (case c3=>k_is)
  (case k3=>k_is)
  (case a4=>k_is)
  (case l4=>k_is)
  (case c4=>k_is)
  (case k4=>k_is)
  (case a5=>k_is)
  (case l5=>k_is)
  (case c5=>k_is)
  (case k5=>k_is)
  (case a6=>k_is)
  (case l6=>k_is)
  (case c6=>k_is)
  (case k6=>k_is)
  (case a7=>k_is)
  (case l7=>k_is)
  (case c7=>k_is)
  (case k7=>k_is)
  (case a8=>k_is)
  (case l8=>k_is)
  (case c8=>k_is)
  (case k8=>k_is)
  (case a9=>k_is)
  (case l9=>k_is)
  (case c9=>k_is)
  (case k9=>k_is)
  (case a10=>k_is)
  (case l10=>k_is)
  (case c10=>k_is)
  (case k10=>k_is)
  (case a11=>k_is)
  (case l11=>k_is)
  (case c11=>k_is)
  (case k11=>k_is)
  (case a12=>k_is)
  (case l12=>k_is)
  (case c12=>k_is)
  (case k12=>k_is)
  (case a13=>k_is)
  (case l13=>k_is)
  (case c13=>k_is)
  (case k13=>k_is)
  (case pg=>k_is)
  (case hd=>k_is)
  (case po=>k_is)
  (case sa=>k_is)
  (case mk=>k_is)
  (case kc=>k_is)
  (case n0=>k_is)
  (case n1=>k_is)
  (case n2=>k_is)
  (case YT=>k_is)
  (case z0=>k_is)
  (case z1=>k_is)
  (case z2=>k_is)
  (case z3=>k_is)
  (case z4=>k_is)
  (case z5=>k_is)
  (case z6=>k_is)
  (case z7=>k_is)
  (case z8=>k_is)
  (case z9=>k_is)
  (case z10=>k_is)
  (case z11=>k_is)
  (case z12=>k_is)
  (case z13=>k_is)
  (case z14=>k_is)
  (case z15=>k_is)
  (case z16=>k_is)
  (case z17=>k_is)
  (case z18=>k_is)
  (case z19=>k_is)
  (case aSG=>k_is)
  (case xzv=>k_is)
  (case xeh=>k_is)
  (case xe0=>k_is)
  (case xe1=>k_is)
  (case xe2=>k_is)
  (case xe3=>k_is)
  (case xe4=>k_is)
  (case xe5=>k_is)
  (case xe6=>k_is)
  (case xe7=>k_is)
  (case xe8=>k_is)
  (case xe9=>k_is)
  (case Wb=>k_is)
  (case Wa=>k_is)
  (case V9=>k_is)
  (case xhx=>k_exc)
  (case xha=>k_is)
  (case xhn=>k_is)
  (case xhc=>k_is)
  (case xho=>k_is)
  (case xhb=>k_is)
  (case xhk=>k_is)
  (case Yh=>k_exc)
  (case Yn=>k_is)
  (case Yj=>k_is)
  (case Yl=>k_is)
  (case Yi=>k_is)
  (case Ym=>k_is)
  (case Yk=>k_is)
  (case XS=>k_is)
  (case Yg=>kit_is)
  (case Ye=>kit_is)
  (case Yd=>kit_is)
  (case Yc=>kit_is)
  (case Yb=>kit_is)
  (case X8=>kit_is)
  (case X7=>kit_is)
  (case X6=>kit_is)
  (case X5=>kit_is)
  (case X4=>kit_is)
  (case Tt=>kit_is)
  (case Tr=>kit_is)
  (case Tq=>kit_is)
  (case X3=>kit_is)
  (case XD=>k_exc)
  (case XR=>k_is)
  (case XH=>k_is)
  (case XM=>k_is)
  (case XF=>k_is)
  (case XQ=>k_is)
  (case XJ=>k_is)
  (case Xn=>k_is)
  (case XC=>kit_is)
  (case Xz=>kit_is)
  (case Xy=>kit_is)
  (case Xx=>kit_is)
  (case Xw=>kit_is)
  (case Xv=>kit_is)
  (case Xu=>kit_is)
  (case Xr=>kit_is)
  (case Xq=>kit_is)
  (case Xp=>kit_is)
  (case Tp=>kit_is)
  (case Tn=>kit_is)
  (case Ti=>kit_is)
  (case Xo=>kit_is)
  (case Xg=>k_exc)
  (case Xm=>k_is)
  (case Xi=>k_is)
  (case Xk=>k_is)
  (case Xh=>k_is)
  (case Xl=>k_is)
  (case Xj=>k_is)
  (case W3=>k_is)
  (case Xf=>kit_is)
  (case Xe=>kit_is)
  (case Xd=>kit_is)
  (case Xc=>kit_is)
  (case Xb=>kit_is)
  (case Xa=>kit_is)
  (case W8=>kit_is)
  (case W7=>kit_is)
  (case W6=>kit_is)
  (case W5=>kit_is)
  (case Tg=>kit_is)
  (case Tf=>kit_is)
  (case Te=>kit_is)
  (case W4=>kit_is)
