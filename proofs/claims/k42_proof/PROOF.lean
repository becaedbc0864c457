import PyProof.Rows.All
import Wide.All
import OpenK.AllK
import Wide.FinOn
import Lean
import PyProof.EqAt
import PyProof.EqKinds
import PyProof.TupleCall
import PySem.Challenge.RW_warnloop_k42_whole_one_log
set_option linter.all false
set_option Elab.async false
set_option maxRecDepth 100000
set_option maxHeartbeats 4000000
abbrev YA:=PySem.Value→PySem.Shared→Prop
abbrev YH:=Unit→PySem.Shared→Prop
abbrev YB:=PySem.Str→Option PySem.Value
abbrev YC:=List (PySem.Addr×PySem.Obj)
abbrev YD:=PySem.W.Frag
abbrev YI:=Array (Option PySem.Value)
abbrev YE:=List PySem.Value
abbrev YF:=List PySem.Str
abbrev YJ:=List PySem.Expr
abbrev YK:=Array PySem.DictEntry
theorem rq{α:Sort _}{a:α}:a=a:=rfl
local macro_rules|`(tactic|trivial)=>`(tactic|decide +kernel)
local macro_rules | `(tactic|ac_rfl) => `(tactic|exact ⟨rfl,rfl,rfl,by decide +kernel,rfl,by decide +kernel,by decide +kernel⟩)
open PySem.W (instObj lookIn plainGet hasDictIn findIn isFn emptyDict keepIn kitOne kia_one fnOf codeIn nsIn mg_of kat_cons kat_yes mg_none_of)
abbrev Qaa:=@PyProof.Rows.slot_tupleiter_next
abbrev Qab:=@PyProof.Rows.slot_tuple_getitem
abbrev Qac:=@PySem.F.slot_dict_valueiterator_next
abbrev Qad:=@PySem.F.slot_dict_keyiterator_next
abbrev Qae:=@PyProof.Rows.callWith_type1
abbrev Qaf:=@List.getD_eq_getElem?_getD
abbrev Qag:=@Array.getElem?_eq_some_iff
abbrev Qah:=@List.getElem?_append_right
abbrev Qai:=@List.getElem?_eq_some_iff
abbrev Qaj:=@List.mem_or_eq_of_mem_set
abbrev Qak:=@List.getElem?_append_left
abbrev Qal:=@List.drop_eq_getElem_cons
abbrev Qam:=@List.getElem?_eq_getElem
abbrev Qan:=@PySem.wpAny_callSpecial?_slot
abbrev Qao:=@PySem.Heap.get?_push_of_some
abbrev Qap:=@PySem.Heap.get?_update_other
abbrev Qaq:=@List.getElem?_set_self
abbrev Qar:=@PySem.F.plain_max_loop
abbrev Qas:=@List.mem_append_right
abbrev Qat:=@List.length_filter_le
abbrev Qau:=@PySem.Heap.get?_update_self
abbrev Qav:=@List.length_replicate
abbrev Qaw:=@List.mem_of_getElem?
abbrev Qax:=@List.mem_cons_of_mem
abbrev Qay:=@List.mem_append_left
abbrev Qaz:=@List.getElem?_set_ne
abbrev QaA:=@List.getElem?_of_mem
abbrev QaB:=@List.replicate_succ'
abbrev QaC:=@Bool.and_eq_true_iff
abbrev QaD:=@PySem.Heap.get?_push_size
abbrev QaE:=@beq_eq_false_iff_ne
abbrev QaF:=@PySem.Heap.SameBut.update
abbrev QaG:=@Array.length_toList
abbrev QaH:=@PySem.mem_of_lookup
abbrev QaI:=@List.replicate_succ
abbrev QaJ:=@List.mem_singleton
abbrev QaK:=@Bool.false_ne_true
abbrev QaL:=@List.length_append
abbrev QaN:=@Nat.lt_of_lt_of_le
abbrev QaO:=@decide_eq_true_iff
abbrev QaP:=@List.mem_cons_self
abbrev QaQ:=@List.filter_append
abbrev QaR:=@List.zip_cons_cons
abbrev QaS:=@PySem.wpAny_Call_Name_kw
abbrev QaT:=@Int.emod_lt_of_pos
abbrev QaU:=@Bool.false_eq_true
abbrev QaV:=@PySem.wpAny_setField_rec
abbrev QaW:=@PySem.wpAny_pyIter_tuple
abbrev QaX:=@PySem.Calls.spliced_cons
abbrev QaY:=@List.pairwise_cons
abbrev QaZ:=@List.size_toArray
abbrev Qba:=@Int.toNat_natCast
abbrev Qbb:=@List.getElem?_map
abbrev Qbc:=@PySem.wpAny_truthy_bool
abbrev Qbd:=@of_decide_eq_true
abbrev Qbe:=@PySem.wpAny_newObj_type
abbrev Qbf:=@List.length_range
abbrev Qbg:=@PySem.wpAny_pyIter_list
abbrev Qbh:=@List.not_mem_nil
abbrev Qbi:=@PySem.wpAny_call_entry
abbrev Qbj:=@List.length_take
abbrev Qbk:=@List.take_length
abbrev Qbl:=@List.all_eq_true
abbrev Qbm:=@List.length_cons
abbrev Qbn:=@PySem.wpAny_eqBool_int
abbrev Qbo:=@List.length_drop
abbrev Qbp:=@beq_self_eq_true
abbrev Qbq:=@Nat.lt_succ_self
abbrev Qbs:=@Bool.and_eq_true
abbrev Qbt:=@List.filter_cons
abbrev Qbu:=@List.length_map
abbrev Qbv:=@decide_eq_false
abbrev Qbw:=@List.mem_append
abbrev Qbx:=@Option.some.inj
abbrev Qby:=@List.map_append
abbrev Qbz:=@PySem.PassesOwn.never
abbrev QbA:=@Bool.eq_iff_iff
abbrev QbC:=@List.length_set
abbrev QbD:=@List.nodup_cons
abbrev QbE:=@List.append_nil
abbrev QbF:=@Nat.not_lt_zero
abbrev QbG:=@Int.emod_nonneg
abbrev QbI:=@List.filter_nil
abbrev QbJ:=@decide_eq_true
abbrev QbK:=@List.mem_range
abbrev QbL:=@PySem.Heap.size_push
abbrev QbM:=@PySem.wpAny_seqItems
abbrev QbN:=@List.mem_cons
abbrev QbO:=@PySem.Paired.length
abbrev QbP:=@List.map_cons
abbrev QbQ:=@Nat.lt_irrefl
abbrev QbR:=@Int.lt_irrefl
abbrev QbS:=@PySem.wpAny_holding
abbrev QbT:=@PySem.wpAny_attempt
abbrev QbU:=@PySem.Heap.lt_size
abbrev QbV:=@Nat.ne_of_lt
abbrev QbW:=@Nat.le_trans
abbrev QbX:=@List.mem_map
abbrev QbY:=@Nat.le_of_lt
abbrev QbZ:=@Int.zero_add
abbrev Qca:=@List.map_nil
abbrev Qcb:=@Nat.ne_of_gt
abbrev Qcc:=@List.map_set
abbrev Qcd:=@Nat.le_refl
abbrev Qce:=@Nat.zero_le
abbrev Qcf:=@PySem.wpAny_field
abbrev Qcg:=@PySem.wpAny_bind
abbrev Qch:=@PySem.wpAny_pure
abbrev Qci:=@PySem.wpAny_mono
abbrev Qcj:=@PySem.wpAny_rule
abbrev Qck:=@PyProof.Rows.take_snoc
abbrev Qcl:=@or_false
namespace L2
open PySem PySem.Spec PyProof.Rows
abbrev Key:=Sum Int Str
def JT:Key->Value->Bool
 | .inl k,v=>Value.isInt k v
 | .inr x,v=>Value.isStrOf x v
def jd (w:World):Key->Int
 | .inl k=>hashInt k
 | .inr x=>hashStr w x
theorem Cq:∀{k:Key} {v:Value},JT k v=true->(∃i t,k=Sum.inl i/\v=Value.int i t)\/(∃x t,k=Sum.inr x/\v=Value.str x t)
 | .inl i,v,h=>by
  obtain⟨t,e⟩:=Value.isInt_shape (k:=i) (v:=v) h;exact .inl ⟨i,t,rq,e⟩
 | .inr x,v,h=>by
  obtain⟨t,e⟩:=Value.isStrOf_shape (x:=x) (v:=v) h;exact .inr ⟨x,t,rq,e⟩
theorem Ve (i:Int) (t:Tok):JT (.inl i) (.int i t)=true:=by simp[JT,Value.isInt]
theorem Vd (x:Str) (t:Tok):JT (.inr x) (.str x t)=true:=by simp[JT,Value.isStrOf]
theorem ak (a b:Int):decide ((Sum.inl a:Key)=Sum.inl b)=(a == b):=by
 by_cases e:a=b
 ·subst e;simp
 ·have h:¬(Sum.inl a:Key)=Sum.inl b:=λq=>e (Sum.inl.inj q);rw[Qbv h];exact (QaE.mpr e).symm
theorem Z8 (a b:Str):decide ((Sum.inr a:Key)=Sum.inr b)=decide (a=b):=by
 by_cases e:a=b
 ·subst e;simp
 ·have h:¬(Sum.inr a:Key)=Sum.inr b:=λq=>e (Sum.inr.inj q);rw[Qbv h,Qbv e]
theorem aj (a:Int) (b:Str):decide ((Sum.inl a:Key)=Sum.inr b)=false:=Qbv (λq=>nomatch q)
theorem Z9 (a:Str) (b:Int):decide ((Sum.inr a:Key)=Sum.inl b)=false:=Qbv (λq=>nomatch q)
def Cg (prog:Program) (w:World):PySem.KeyKind prog w Key where
 is:=JT
 hash:=jd w
 inj:=λv a b ha hb=>by
  rcases Cq ha with⟨i,t,rfl,rfl⟩|⟨x,t,rfl,rfl⟩
  ·rcases Cq hb with⟨j,u,rfl,e⟩|⟨y,u,rfl,e⟩
   ·injection e with e1 _;rw[e1]
   ·exact nomatch e
  ·rcases Cq hb with⟨j,u,rfl,e⟩|⟨y,u,rfl,e⟩
   ·exact nomatch e
   ·injection e with e1 _;rw[e1]
 byValue:=λk v h=>by
  rcases Cq h with⟨i,t,rfl,rfl⟩|⟨x,t,rfl,rfl⟩ <;> rfl
 pyHash:=λhv h=>by
  rcases Cq hv with⟨i,t,rfl,rfl⟩|⟨x,t,rfl,rfl⟩
  ·exact wpAny_pyHash_int h
  ·exact wpAny_pyHash_str h
 eqBool:=λhu hv h=>by
  rcases Cq hu with⟨i,t,rfl,rfl⟩|⟨x,t,rfl,rfl⟩
  ·rcases Cq hv with⟨j,u,rfl,rfl⟩|⟨y,u,rfl,rfl⟩
   ·rw[ak] at h;exact Qbn h
   ·rw[aj] at h;exact SeqAt.EqAt.int_str i t y u _ _ _ _ h
  ·rcases Cq hv with⟨j,u,rfl,rfl⟩|⟨y,u,rfl,rfl⟩
   ·rw[Z9] at h;exact SeqAt.EqAt.str_int x t j u _ _ _ _ h
   ·rw[Z8] at h;exact wpAny_eqBool_str h
 «strs»:=λk x t v h=>by
  rcases Cq h with⟨i,u,rfl,e⟩|⟨y,u,rfl,e⟩
  ·exact nomatch e
  ·injection e with e1 _;subst e1;cases v <;> rfl
theorem Q9 (prog:Program) (w:World) (i:Int) (t:Tok):(Cg prog w).is (.inl i) (.int i t)=true:=Ve i t
theorem Q8 (prog:Program) (w:World) (x:Str) (t:Tok):(Cg prog w).is (.inr x) (.str x t)=true:=Vd x t
inductive V where
 | non | bl (b:Bool) | int (i:Int) | str (x:Str) | byt (b:Array UInt8) | flt (b:UInt64) | ref (a:Addr) | ty (n:String)
 deriving DecidableEq
def RelV:V->Value->Prop
 | .non,u=>u=Value.none
 | .bl b,u=>u=Value.bool b
 | .int i,u=>∃t,u=Value.int i t
 | .str x,u=>∃t,u=Value.str x t
 | .byt b,u=>∃t,u=Value.bytes b t
 | .flt b,u=>∃t,u=Value.float b t
 | .ref a,u=>u=Value.ref a
 | .ty n,u=>u=Value.type n
abbrev YG:=List V
abbrev Vals:YG->YE->Prop:=Paired RelV
theorem Vals.length {xs:YG} {us:YE} (r:Vals xs us):xs.length=us.length:=QbO r
theorem Vals.get:∀{xs:YG} {us:YE} {i:Nat} {x:V},Vals xs us->xs[i]?=some x->∃u,us[i]?=some u/\RelV x u
 | _,_,_,_,.nil,e=>by simp at e
 | _,_,0,_,.cons r _,e=>by simp at e;subst e;exact⟨_,rfl,r⟩
 | _,_,i+1,x,.cons _ t,e=>by
  obtain⟨u,h1,h2⟩:=Vals.get (i:=i) (x:=x) t (by simpa using e);exact⟨u,by simpa using h1,h2⟩
theorem Vals.set {x:V} {u:Value} (r:RelV x u):∀{xs:YG} {us:YE} (i:Nat),Vals xs us->Vals (xs.set i x) (us.set i u)
 | _,_,_,.nil=>.nil
 | _,_,0,.cons _ t=>.cons r t
 | _,_,i+1,.cons q t=>.cons q (Vals.set r i t)
theorem Vals.append:∀{xs ys:YG} {us ws:YE},Vals xs us->Vals ys ws->Vals (xs++ys) (us++ws)
 | _,_,_,_,.nil,s=>s
 | _,_,_,_,.cons r t,s=>.cons r (Vals.append t s)
theorem Vals.take:∀{xs:YG} {us:YE} (n:Nat),Vals xs us->Vals (xs.take n) (us.take n)
 | _,_,0,_=>.nil
 | _,_,_+1,.nil=>.nil
 | _,_,n+1,.cons r t=>.cons r (Vals.take n t)
theorem Vals.drop:∀{xs:YG} {us:YE} (n:Nat),Vals xs us->Vals (xs.drop n) (us.drop n)
 | _,_,0,r=>r
 | _,_,_+1,.nil=>.nil
 | _,_,n+1,.cons _ t=>Vals.drop n t
def Fx:Option V->Option Value->Prop
 | some v,some u=>RelV v u
 | none,none=>True
 | _,_=>False
def KV {κ : Type}:List (κ×V)->List (κ×Value)->Prop:=Paired λ(p:κ×V) (q:κ×Value)=>p.1=q.1/\RelV p.2 q.2
def kV:Key->V
 | .inl i=>.int i
 | .inr x=>.str x
inductive HO where
 | lst (xs:YG)
 | tup (xs:YG)
 | dK (kvs:List (Key×V)) | dT (kvs:List (List Key×V))
 | set (S:Int->Bool) (n:Nat)
 | ins (C dx:Addr) (fs:List (Str×V))
 | own (x:Addr)
 | xd (fs:List (Str×V))
 | met (f x:Addr)
 | rng (lo hi:Int)
 | frz (o:Obj) (u:HO)
 | tbl (ps:Array Value)
 | ext (φ : Heap->Prop)
abbrev Hp:=Addr->Option HO
def upd (H:Hp) (a:Addr) (o:HO):Hp:=λb=>if b=a then some o else H b
theorem Ac {H:Hp} {a:Addr} {o:HO}:upd H a o a=some o:=by unfold upd;rw[if_pos rfl]
theorem Al {H:Hp} {a b:Addr} {o:HO} (h:b≠a):upd H a o b=H b:=by unfold upd;rw[if_neg h]
theorem XD {H:Hp} {a b:Addr} {o u:HO} (h:H a=some o) (h':H b=some u) (d:o≠u):a≠b:=by
 intro e;subst e;rw[h] at h';exact d (Qbx h')
theorem Bm {H:Hp} {a b:Addr} {o:HO} (h:H a=some o) (h':H b=none):a≠b:=by
 intro e;subst e;rw[h] at h';cases h'
section
variable (P:Program) (w:World)
def Bd (H:Hp) (h:Heap) (a:Addr):HO->Prop
 | .lst xs=>xs.length<=sizeLine/\∃(its:YE) (n:Nat),Vals xs its/\h.get? a=some { cls:=.type "list",data:=.seq its.toArray n }
 | .tup xs=>xs.length<=sizeLine/\∃its:YE,Vals xs its/\IsTup h a its.toArray
 | .dK kvs=>kvs.length<=sizeLine/\(a == sysModules)=false/\∃vs,KV kvs vs/\h.DictOf (Cg P w) a vs
 | .dT kvs=>kvs.length<=sizeLine/\(a == sysModules)=false/\∃xs:List (List Key×Addr×Value),
   Paired (λ(p:List Key×V) (q:List Key×Addr×Value)=>p.1=q.1/\H q.2.1=some (.tup (p.1.map kV))/\RelV p.2 q.2.2) kvs xs /\
   ∃o es ep,h.get? a=some o/\o.ExactDict/\o.data=.dict es ep/\es.toList=xs.map (entryOfKey (tupleKind (Cg P w)))/\(xs.map (·.1)).Nodup
 | .set S n=>h.SetOf (intKind P w) a S n
 | .ins C dx fs=>H dx=some (.own a)/\fs.length<=1000/\dx≠a/\h.get? a=some (instObj C dx) /\
   ∃mA,h.Ns1 dx mA/\(∀f,Fx (fs.lookup f) (mA f))/\PySem.Within mA (fs.map (·.1))
 | .own _=>∃o,h.get? a=some o
 | .xd fs=>∃mA,h.Ns1 a mA/\∀f,Fx (fs.lookup f) (mA f)
 | .rng lo hi=>∃t u v,h.get? a=some { cls:=.type "range",data:=.fields #[.int lo t,.int hi u,.int 1 v] }
 | .frz o u=>h.get? a=some o/\Bd H h a u
 | .tbl ps=>h.get? a=some { cls:=.none,data:=.fields ps }
 | .met f x=>h.get? a=some (PySem.W.methodObj (.ref f) (.ref x))
 | .ext φ=>φ h/\(∃o,h.get? a=some o)/\∀h1 h2:Heap,φ h1->(∀o,h1.get? a=some o->h2.get? a=some o)->φ h2
def HOk (H:Hp) (h:Heap):Prop:=∀a o,H a=some o->Bd P w H h a o
end
section
variable {P:Program} {w:World} {H H':Hp} {h h':Heap} {a:Addr} {o:HO}
theorem Bd.lt (x:Bd P w H h a o):a < h.objs.size:=by
 cases o with
 | lst xs=>obtain⟨_,_,_,_,e⟩:=x;exact QbU e
 | tup xs=>obtain⟨_,_,_,p⟩:=x;exact p.lt
 | dK kvs=>obtain⟨_,_,_,_,o,_,_,e,_⟩:=x;exact QbU e
 | dT kvs=>obtain⟨_,_,_,_,o,_,_,e,_⟩:=x;exact QbU e
 | set S n=>obtain⟨o,_,_,_,e,_⟩:=x;exact QbU e
 | ins C dx fs=>obtain⟨_,_,_,e,_⟩:=x;exact QbU e
 | own y=>obtain⟨_,e⟩:=x;exact QbU e
 | xd fs=>obtain⟨_,⟨_,_,_,e,_⟩,_⟩:=x;exact QbU e
 | rng lo hi=>obtain⟨_,_,_,e⟩:=x;exact QbU e
 | frz ob u=>obtain⟨e,_⟩:=x;exact QbU e
 | tbl ps=>exact QbU (show h.get? a=some _ from x)
 | met f y=>exact QbU (show h.get? a=some _ from x)
 | ext φ=>obtain⟨_,⟨_,e⟩,_⟩:=x;exact QbU e
theorem Paired.IK {α β : Type} {F G:α->β->Prop}:∀{l₁ : List α} {l₂ : List β},Paired F l₁ l₂->(∀a b,F a b->G a b)->Paired G l₁ l₂
 | _,_,.nil,_=>.nil
 | _,_,.cons r t,f=>.cons (f _ _ r) (Paired.IK t f)
theorem Bd.stay (x:Bd P w H h a o) (k:∀b u,(b=a\/H b=some (.own a))->h.get? b=some u->h'.get? b=some u)
  (ho:∀b,H b=some (.own a)->H' b=some (.own a)) (ht:∀b xs,H b=some (.tup xs)->H' b=some (.tup xs)):Bd P w H' h' a o:=by
 induction o with
 | lst xs=>obtain⟨z,its,n,r,e⟩:=x;exact⟨z,its,n,r,k _ _ (.inl rfl) e⟩
 | tup xs=>obtain⟨z,its,r,ob,e,c⟩:=x;exact⟨z,its,r,ob,k _ _ (.inl rfl) e,c⟩
 | dK kvs=>obtain⟨z,y,vs,r,ob,es,ep,e,c⟩:=x;exact⟨z,y,vs,r,ob,es,ep,k _ _ (.inl rfl) e,c⟩
 | dT kvs=>
  obtain⟨z,y,xs,r,ob,es,ep,e,c⟩:=x;exact⟨z,y,xs,Paired.IK r λp q z=>⟨z.1,ht _ _ z.2.1,z.2.2⟩,ob,es,ep,k _ _ (.inl rfl) e,c⟩
 | set S n=>obtain⟨ob,es,ep,t,e,c⟩:=x;exact⟨ob,es,ep,t,k _ _ (.inl rfl) e,c⟩
 | ins C dx fs=>
  obtain⟨d,z,ne,e,mA,⟨od,es,ep,e2,c⟩,r⟩:=x;exact⟨ho _ d,z,ne,k _ _ (.inl rfl) e,mA,⟨od,es,ep,k _ _ (.inr d) e2,c⟩,r⟩
 | own y=>obtain⟨ob,e⟩:=x;exact⟨ob,k _ _ (.inl rfl) e⟩
 | xd fs=>obtain⟨mA,⟨od,es,ep,e,c⟩,r⟩:=x;exact⟨mA,⟨od,es,ep,k _ _ (.inl rfl) e,c⟩,r⟩
 | rng lo hi=>obtain⟨t,u,v,e⟩:=x;exact⟨t,u,v,k _ _ (.inl rfl) e⟩
 | frz ob u ih=>obtain⟨e,q⟩:=x;exact⟨k _ _ (.inl rfl) e,ih q⟩
 | tbl ps=>
  have e:h.get? a=some { cls:=.none,data:=.fields ps }:=x;show h'.get? a=some { cls:=.none,data:=.fields ps };exact k a _ (.inl rfl) e
 | met f y=>
  have e:h.get? a=some (PySem.W.methodObj (.ref f) (.ref y)):=x;show h'.get? a=some (PySem.W.methodObj (.ref f) (.ref y));exact k a _ (.inl rfl) e
 | ext φ=>obtain⟨p,⟨o,e⟩,st⟩:=x;exact⟨st _ _ p λo q=>k _ _ (.inl rfl) q,⟨o,k _ _ (.inl rfl) e⟩,st⟩
theorem HOk.lt (x:HOk P w H h) (e:H a=some o):a < h.objs.size:=(x a o e).lt
theorem HOk.fresh (x:HOk P w H h) (e:h.objs.size<=a):H a=none:=by
 cases q:H a with
 | none=>rfl
 | some u=>exact absurd (QaN (x.lt q) e) (QbQ _)
theorem HOk.kept (x:HOk P w H h) (k:∀b u,h.get? b=some u->h'.get? b=some u):HOk P w H h':=λa o e=>
 (x a o e).stay (λb u _ q=>k b u q) (λ_ q=>q) λ_ _ q=>q
theorem HOk.laid (x:HOk P w H h) (k:∀b u,h.get? b=some u->h'.get? b=some u) (hp:h.objs.size<=a) (new:Bd P w (upd H a o) h' a o):HOk P w (upd H a o) h':=λb u e=>by
 have hn:=x.fresh hp;by_cases hb:b=a
 ·subst hb;rw[Ac] at e;cases e;exact new
 ·rw[Al hb] at e;exact (x b u e).stay (λc v _ q=>k c v q) (λc q=>by rw[Al (Bm q hn)];exact q) λc xs q=>by rw[Al (Bm q hn)];exact q
end
def Rd (H:Hp) (a:Addr) (u:HO):Prop:=H a=some u\/∃o,H a=some (.frz o u)
theorem Rd.ok {P:Program} {w:World} {H:Hp} {h:Heap} {a:Addr} {u:HO} (r:Rd H a u) (x:HOk P w H h):Bd P w H h a u:=by
 rcases r with r |⟨o,r⟩
 ·exact x a u r
 ·obtain⟨_,q⟩:=x a _ r;exact q
def Mut:Option HO->Prop
 | some (.lst _)=>True
 | some (.dK _)=>True
 | some (.dT _)=>True
 | some (.set _ _)=>True
 | some (.ins _ _ _)=>True
 | some (.ext _)=>True
 | _=>False
section
variable {P:Program} {w:World} {H:Hp} {h h':Heap} {x e:Addr} {o':HO}
theorem HOk.write (ok:HOk P w H h) (mu:Mut (H x)) (he:e=x\/H e=some (.own x)) (k:∀b u,b≠e->h.get? b=some u->h'.get? b=some u) (heo:∃u,h'.get? e=some u)
  (new:Bd P w (upd H x o') h' x o'):HOk P w (upd H x o') h':=λb u q=>by
 have Z1:∀c y,H c=some (.own y)->c≠x:=λc y r z=>by subst z;rw[r] at mu;exact mu
 have Ti:∀c xs,H c=some (.tup xs)->c≠x:=λc xs r z=>by subst z;rw[r] at mu;exact mu
 by_cases hb:b=x
 ·subst hb;rw[Ac] at q;cases q;exact new
 ·rw[Al hb] at q;by_cases hbe:b=e
  ·have q':H b=some (.own x):=by
    rcases he with z | z
    ·exact absurd (hbe.trans z) hb
    ·rw[hbe];exact z
   rw[q] at q';cases q';obtain⟨v,hv⟩:=heo;exact⟨v,by rw[hbe];exact hv⟩
  ·refine (ok b u q).stay (λc v hc r=>k c v ?_ r) (λc r=>by rw[Al (Z1 c b r)];exact r) λc xs r=>by rw[Al (Ti c xs r)];exact r
   rcases hc with rfl | hc
   ·exact hbe
   ·rintro rfl;rcases he with z | z
    ·exact Z1 c b hc z
    ·rw[hc] at z;cases z;exact hb rfl
end
structure Un (fs ex:List Addr) (H H':Hp) (h h':Heap):Prop where
 keep:∀b o,h.get? b=some o->H b=none->b∉fs->b∉ex->h'.get? b=some o
 slot:∀b o,h.get? b=some o->H b=none->b∈fs->b∉ex->∃sl,h'.get? b=some { o with slots:=sl }
 free:∀b o,h.get? b=some o->H b=none->b∉ex->H' b=none
 there:∀b o,h.get? b=some o->b∉ex->∃o',h'.get? b=some o'
 tups:∀b xs,H b=some (.tup xs)->H' b=some (.tup xs)
 Hv:∀b o u,H b=some (.frz o u)->H' b=some (.frz o u)
 Ie:∀b ps,H b=some (.tbl ps)->∃more,H' b=some (.tbl (ps++more))
section
variable {fs fs' ex ex':List Addr} {H H1 H2:Hp} {h h1 h2 h':Heap} {a x e:Addr} {o:HO}
theorem Un.any (u:Un fs ex H H1 h h1) {b:Addr} {ob:Obj} (q:h.get? b=some ob) (n:H b=none) (hx:b∉ex):∃sl,h1.get? b=some { ob with slots:=sl }:=by
 by_cases hb:b∈fs
 ·exact u.slot b ob q n hb hx
 ·exact⟨ob.slots,u.keep b ob q n hb hx⟩
theorem Un.kept (k:∀b u,h.get? b=some u->h'.get? b=some u):Un fs ex H H h h':=
 ⟨λb ob q _ _ _=>k b ob q,λb ob q _ _ _=>⟨ob.slots,k b ob q⟩,λ_ _ _ n _=>n,λb ob q _=>⟨ob,k b ob q⟩,λ_ _ q=>q,λ_ _ _ q=>q,λ_ ps q=>⟨#[],by rw[q];simp⟩⟩
theorem Un.refl:Un fs ex H H h h:=Un.kept λ_ _ q=>q
theorem Un.laid (k:∀b u,h.get? b=some u->h'.get? b=some u) (hp:h.objs.size<=a) (hn:H a=none):Un fs ex H (upd H a o) h h' where
 keep:=λb u q _ _ _=>k b u q
 slot:=λb u q _ _ _=>⟨u.slots,k b u q⟩
 free:=λb u q n _=>by rw[Al (QbV (QaN (QbU q) hp))];exact n
 there:=λb u q _=>⟨u,k b u q⟩
 tups:=λb xs q=>by rw[Al (Bm q hn)];exact q
 Hv:=λb u xs q=>by rw[Al (Bm q hn)];exact q
 Ie:=λb ps q=>⟨#[],by rw[Al (Bm q hn),q];simp⟩
theorem Un.write (mu:Mut (H x)) (he:e=x\/H e=some (.own x)) (k:∀b u,b≠e->h.get? b=some u->h'.get? b=some u) (heo:∃u,h'.get? e=some u):Un fs ex H (upd H x o) h h':=by
 have hx:∀b,H b=none->b≠x:=λb n z=>by subst z;rw[n] at mu;exact mu
 have hb:∀b,H b=none->b≠e:=λb n z=>by
  subst z;rcases he with r | r
  ·exact hx b n r
  ·rw[n] at r;cases r
 have hm:∀b u,H b=some u->¬Mut (some u)->b≠x:=λb u q nm z=>by subst z;rw[q] at mu;exact nm mu
 refine⟨λb u q n _ _=>k b u (hb b n) q,λb u q n _ _=>⟨u.slots,k b u (hb b n) q⟩,λb u q n _=>by rw[Al (hx b n)];exact n,λb u q _=>?_,
  λb xs q=>by rw[Al (hm b _ q λz=>z)];exact q,λb u xs q=>by rw[Al (hm b _ q λz=>z)];exact q,λb ps q=>⟨#[],by rw[Al (hm b _ q λz=>z),q];simp⟩⟩
 by_cases hbe:b=e
 ·subst hbe;exact heo
 ·exact⟨u,k b u hbe q⟩
end
def trk (h:Heap) (H:Hp):List Addr:=(List.range h.objs.size).filter λa=>(H a).isSome
def Jb (h:Heap) (H:Hp):Heap:=PySem.W.hideAll h (trk h H)
theorem Vl (h:Heap) (H:Hp):(Jb h H).objs.size=h.objs.size:=PySem.W.hideAll_size _ _
theorem WR {h:Heap} {H:Hp} {b:Addr} {o:Obj} (e:h.get? b=some o) (n:H b=none):(Jb h H).get? b=some o:=
 PySem.W.hideAll_get _ e λhm=>by
  have q:(H b).isSome=true:=(List.mem_filter.mp hm).2;rw[n] at q;simp at q
theorem YQ {h:Heap} {H:Hp} {b:Addr} {o:Obj} (e:(Jb h H).get? b=some o):h.get? b=some o/\H b=none:=by
 have e':h.get? b=some o:=PySem.W.of_hideAll (trk h H) e;refine⟨e',?_⟩;cases q:H b with
 | none=>rfl
 | some x=>
  have hm:b∈trk h H:=List.mem_filter.mpr ⟨QbK.mpr (QbU e'),by simp[q]⟩;have z:(Jb h H).get? b=none:=PySem.W.hideAll_none (trk h H) hm;rw[z] at e;cases e
def Kd (g h:Heap) (L:Addr):YC:=(List.range h.objs.size).filterMap λa=>if a=L\/(g.get? a).isSome=true then none else (h.get? a).map λo=>(a,o)
theorem Eh {g h:Heap} {L a:Addr} {o:Obj} (h1:a≠L) (h2:g.get? a=none) (h3:h.get? a=some o):(a,o)∈Kd g h L:=
 List.mem_filterMap.mpr ⟨a,QbK.mpr (QbU h3),by simp[h1,h2,h3]⟩
theorem Mx {g h:Heap} {L:Addr} {p:Addr×Obj} (hp:p∈Kd g h L):p.1≠L/\g.get? p.1=none/\h.get? p.1=some p.2:=by
 obtain⟨b,_,e⟩:=List.mem_filterMap.mp hp;split at e
 ·cases e
 ·rename_i hn;cases q:h.get? b with
  | none=>rw[q] at e;simp at e
  | some u=>
   rw[q] at e;simp only[Option.map_some,Option.some.injEq] at e;subst e;refine⟨λz=>hn (.inl z),?_,q⟩;show g.get? b=none;cases r:g.get? b with
   | none=>rfl
   | some v=>exact (hn (.inr (by simp[r]))).elim
def rest (g h:Heap) (L d:Addr):YC:=(Kd g h L).filter λp=>decide (p.1≠d)
theorem Qd {g h:Heap} {L:Addr}:News g L h (Kd g h L):=λp hp=>let ⟨a,b,c⟩:=Mx hp;⟨c,a,b⟩
structure Mod (K:YD) (mg:YB) (base:Heap):Prop where
 kin:K.In base
 glob:base.Ns mainGlobals mg
 blt:∃mb,base.Ns builtinsNs mb/\∀x:Str,x≠"__name__"->mb x=bootBuiltins x
 nolimit:base.NoLimit
structure Cx where
 prog:Program
 w:World
 K:YD
 mg:YB
 base:Heap
 A:Around
 N:YF
 s₀ : Shared
 H₀ : Hp
 env:Env
 outer:List Env
 stack:List Env
 ex:List Addr
 fn:Str->Bool
 calm:Bool
 pn:YC
 xe:YA
def frs (l:List Env):List Addr:=l.filterMap (·.frame)
abbrev Cx.fs (X:Cx):List Addr:=frs X.outer
def Vis (sc:Scope) (x:Str):Prop:=sc.names.lookup x=some .local\/sc.names.lookup x=some .cell\/sc.names.lookup x=some .free
def Loc (sc:Scope) (x:Str):Prop:=sc.names.lookup x=some .local\/sc.names.lookup x=some .cell
def Look (env:Env) (h:Heap) (m:YB) (x:Str) (u:Value):Prop:=
 (env.kindOf x=some .local/\m x=some u)\/((env.kindOf x=some .cell\/env.kindOf x=some .free)/\∃c,env.cells.lookup x=some c/\h.IsCell c (some u))
structure Cx.Ok (X:Cx):Prop where
 mod:Mod X.K X.mg X.base
 kind:X.env.scope.kind=.function
 glob:X.env.globals=mainGlobals
 blt:X.env.builtins=builtinsNs
 above:X.s₀.heap.objs.size<=X.env.locals
 inj:∀x y c,X.env.cells.lookup x=some c->X.env.cells.lookup y=some c->x=y
 has:∀x,(X.env.kindOf x=some .cell\/X.env.kindOf x=some .free)->∃c,X.env.cells.lookup x=some c
 cab:∀x c,X.fn x=true->X.env.cells.lookup x=some c->X.s₀.heap.objs.size<=c
 hd:X.calm=true->X.A.handled=none
 frames:X.A.frames=some X.stack
 stk:X.stack=X.outer\/(X.stack=X.env::X.outer/\X.env.frame=some X.env.locals)
 exf:∀b∈X.ex,b≠X.env.locals/\∀x c,X.env.cells.lookup x=some c->c≠b
 bs:∀b o,X.base.get? b=some o->X.s₀.heap.get? b=some o/\X.H₀ b=none
 bsz:X.base.objs.size<=X.s₀.heap.objs.size
 Mz:∀b o,X.base.get? b=some o->b∉X.ex
 M6:∀b∈X.ex,b∉X.fs
 Gh:X.s₀.heap.FunFrames X.base X.outer
 frf:∀b∈X.fs,X.H₀ b=none
structure Inv (X:Cx) (jb:YC) (Z : List (Option V)) (H:Hp) (s:Shared):Prop where
 ok:X.Ok
 os:s.os=X.s₀.os
 bare:AllBare s.gens
 base:Un X.fs X.ex X.H₀ H X.s₀.heap s.heap
 loc:∃m,s.heap.Ns X.env.locals m/\∀(i:Nat) (x:Str) (v:V),X.N[i]?=some x->Z[i]?=some (some v)->Vis X.env.scope x->∃u,RelV v u/\Look X.env s.heap m x u
 cell:∀x c,X.env.cells.lookup x=some c->∃v,s.heap.IsCell c v
 free:H X.env.locals=none
 Gi:∀x c,X.env.cells.lookup x=some c->H c=none
 pin:∀p∈X.pn++jb,s.heap.get? p.1=some p.2/\H p.1=none/\p.1≠X.env.locals/\p.1∉X.fs/\∀v,p.2.data≠.cell v
 hok:HOk X.prog X.w H s.heap
 len:Z.length=X.N.length
section
variable {X:Cx} {jb:YC} {Z : List (Option V)} {H H':Hp} {s:Shared} {h':Heap}
theorem Cx.Ok.iQ (ok:X.Ok) {b:Addr} {o:Obj} (e:X.base.get? b=some o):b∉X.fs:=λhb=>by
 have:=(ok.Gh.mem hb).1;rw[e] at this;cases this
theorem Inv.bs (I:Inv X jb Z H s):∀b o,X.base.get? b=some o->s.heap.get? b=some o/\H b=none:=λb o e=>
 ⟨I.base.keep b o (I.ok.bs b o e).1 (I.ok.bs b o e).2 (I.ok.iQ e) (I.ok.Mz b o e),I.base.free b o (I.ok.bs b o e).1 (I.ok.bs b o e).2 (I.ok.Mz b o e)⟩
theorem Inv.bk (I:Inv X jb Z H s):∀b o,X.base.get? b=some o->s.heap.get? b=some o:=λb o e=>(I.bs b o e).1
theorem Inv.mod (I:Inv X jb Z H s):Mod X.K X.mg X.base:=I.ok.mod
theorem Inv.kIn (I:Inv X jb Z H s):X.K.In s.heap:=I.ok.mod.kin.keeps I.bk
theorem Inv.nolimit (I:Inv X jb Z H s):s.heap.NoLimit:=I.ok.mod.nolimit.keeps I.bk
theorem Inv.lt (I:Inv X jb Z H s):X.env.locals < s.heap.objs.size:=let ⟨_,hn,_⟩:=I.loc;hn.lt
theorem Inv.sz (I:Inv X jb Z H s):X.s₀.heap.objs.size<=s.heap.objs.size:=QbW I.ok.above (QbY I.lt)
theorem Inv.Z2 (I:Inv X jb Z H s) {a:Addr} (h:s.heap.objs.size<=a):a∉X.fs:=λhb=>by
 obtain⟨_,o,ho,_⟩:=I.ok.Gh.mem hb;exact absurd (QaN (QbU ho) (QbW I.sz h)) (QbQ _)
theorem Inv.cne (I:Inv X jb Z H s):∀x c,X.env.cells.lookup x=some c->c≠X.env.locals:=λx c e z=>by
 obtain⟨v,o,ho,hd⟩:=I.cell x c e;obtain⟨m,⟨o',es,ep,ho',hd',_⟩,_⟩:=I.loc;rw[z,ho'] at ho;cases ho;rw[hd'] at hd;cases hd
theorem Inv.Gh (I:Inv X jb Z H s):s.heap.FunFrames X.base X.outer:=by
 have all:∀(l:List Env),(∀b∈frs l,b∈X.fs)->X.s₀.heap.FunFrames X.base l->s.heap.FunFrames X.base l:=by
  intro l
  induction l with
  | nil=>intro _ _;trivial
  | cons env r ih=>
   intro hs hl;obtain⟨hk,⟨L,o,hf,hn,ho,hd⟩,hr⟩:=hl;have hL:L∈X.fs:=hs L (by unfold frs;rw[List.filterMap_cons,hf];exact QaP);obtain⟨sl,e⟩:=I.base.slot L o ho (I.ok.frf L hL) hL λz=>I.ok.M6 L z hL;exact⟨hk,⟨L,_,hf,hn,e,hd⟩,ih (λb hb=>hs b (by unfold frs;rw[List.filterMap_cons,hf];exact Qax _ hb)) hr⟩
 exact all X.outer (λ_ hb=>hb) I.ok.Gh
theorem Inv.stack (I:Inv X jb Z H s):s.heap.FunFrames X.base X.stack:=by
 rcases I.ok.stk with e |⟨e,hf⟩
 ·rw[e];exact I.Gh
 ·rw[e];obtain⟨m,hn,_⟩:=I.loc;refine .cons (by rw[I.ok.kind];decide) hf hn ?_ I.Gh;exact Heap.get?_none_of_le (QbW I.ok.bsz I.ok.above)
theorem Inv.O1 (I:Inv X jb Z H s):∀b∈frs X.stack,b∈X.env.locals::X.fs:=λb hb=>by
 rcases I.ok.stk with e |⟨e,hf⟩
 ·rw[e] at hb;exact Qax _ hb
 ·rw[e] at hb;unfold frs at hb;rw[List.filterMap_cons,hf] at hb;exact hb
theorem Inv.Rq (I:Inv X jb Z H s):∀b∈frs X.stack,H b=none:=λb hb=>by
 rcases QbN.mp (I.O1 b hb) with e | hb
 ·rw[e];exact I.free
 ·obtain⟨_,o,ho,_⟩:=I.ok.Gh.mem hb;exact I.base.free b o ho (I.ok.frf b hb) λz=>I.ok.M6 b z hb
theorem Inv.step {g':Array GenState} {t':Nat} {d':Drawn} {ch:List Addr} (I:Inv X jb Z H s)
  (hch:∀b∈ch,(b∈X.ex\/X.s₀.heap.objs.size<=b)/\b≠X.env.locals/\(∀x c,X.env.cells.lookup x=some c->c≠b)/\∀p∈X.pn++jb,p.1≠b)
  (keep:∀b o,b≠X.env.locals->b∉X.fs->b∉ch->s.heap.get? b=some o->H b=none->h'.get? b=some o)
  (slot:∀b o,b≠X.env.locals->b∈X.fs->b∉ch->s.heap.get? b=some o->H b=none->∃sl,h'.get? b=some { o with slots:=sl }) (free:∀b o,b∉ch->s.heap.get? b=some o->H b=none->H' b=none)
  (there:∀b o,b∉ch->s.heap.get? b=some o->∃o',h'.get? b=some o')
  (tups:∀b xs,H b=some (.tup xs)->H' b=some (.tup xs)) (Hv:∀b o u,H b=some (.frz o u)->H' b=some (.frz o u)) (Ie:∀b ps,H b=some (.tbl ps)->∃more,H' b=some (.tbl (ps++more)))
  (ns:∀m,s.heap.Ns X.env.locals m->h'.Ns X.env.locals m) (hok:HOk X.prog X.w H' h') (hg:AllBare g') :
  Inv X jb Z H' { s with heap:=h',gens:=g',drawn:=d',toks:=t' }:=by
 have neL:∀b o,X.s₀.heap.get? b=some o->b≠X.env.locals:=λb o e=>QbV (QaN (QbU e) I.ok.above);have neC:∀b o,X.s₀.heap.get? b=some o->b∉X.ex->b∉ch:=λb o e hx hb=>by
  rcases (hch b hb).1 with z | z
  ·exact hx z
  ·exact absurd (QaN (QbU e) z) (QbQ _)
 have cellK:∀x c,X.env.cells.lookup x=some c->∀v,s.heap.IsCell c v->h'.IsCell c v:=λx c e v ⟨o,ho,hd⟩=>by
  have nch:c∉ch:=λz=>(hch c z).2.2.1 x c e rfl;by_cases hc:c∈X.fs
  ·obtain⟨sl,q⟩:=slot c o (I.cne x c e) hc nch ho (I.Gi x c e);exact⟨_,q,hd⟩
  ·exact⟨o,keep c o (I.cne x c e) hc nch ho (I.Gi x c e),hd⟩
 refine⟨I.ok,I.os,hg,⟨λb o e n hb hx=>?_,λb o e n hb hx=>?_,λb o e n hx=>?_,λb o e hx=>?_,λb xs e=>tups b xs (I.base.tups b xs e),λb o xs e=>Hv b o xs (I.base.Hv b o xs e),λb ps e=>?_⟩,?_,λx c e=>?_,?_,λx c e=>?_,λp hp=>?_,hok,I.len⟩
 ·exact keep b o (neL b o e) hb (neC b o e hx) (I.base.keep b o e n hb hx) (I.base.free b o e n hx)
 ·obtain⟨sl,e1⟩:=I.base.slot b o e n hb hx;obtain⟨sl',e2⟩:=slot b _ (neL b o e) hb (neC b o e hx) e1 (I.base.free b o e n hx);exact⟨sl',e2⟩
 ·obtain⟨o',e1⟩:=I.base.there b o e hx;exact free b o' (neC b o e hx) e1 (I.base.free b o e n hx)
 ·obtain⟨o',e1⟩:=I.base.there b o e hx;exact there b o' (neC b o e hx) e1
 ·obtain⟨m1,e1⟩:=I.base.Ie b ps e;obtain⟨m2,e2⟩:=Ie b _ e1;exact⟨m1++m2,by rw[e2,Array.append_assoc]⟩
 ·obtain⟨m,hn,hl⟩:=I.loc;refine⟨m,ns m hn,λi x v e1 e2 e3=>?_⟩;obtain⟨u,r,l⟩:=hl i x v e1 e2 e3;refine⟨u,r,?_⟩;rcases l with l |⟨k,c,e,z⟩
  ·exact .inl l
  ·exact .inr ⟨k,c,e,cellK x c e _ z⟩
 ·obtain⟨v,z⟩:=I.cell x c e;exact⟨v,cellK x c e v z⟩
 ·obtain⟨m,⟨o,_,_,ho,_⟩,_⟩:=I.loc;exact free _ o (λz=>(hch _ z).2.1 rfl) ho I.free
 ·obtain⟨v,o,ho,hd⟩:=I.cell x c e;exact free c o (λz=>(hch c z).2.2.1 x c e rfl) ho (I.Gi x c e)
 ·obtain⟨e,n,ne,nf,d⟩:=I.pin p hp;have nch:p.1∉ch:=λz=>(hch p.1 z).2.2.2 p hp rfl;exact⟨keep p.1 p.2 ne nf nch e n,free p.1 p.2 nch e n,ne,nf,d⟩
theorem Inv.un {t':Nat} (I:Inv X jb Z H s) (u:Un X.fs [] H H' s.heap h') (hok:HOk X.prog X.w H' h'):Inv X jb Z H' { s with heap:=h',toks:=t' }:=by
 obtain⟨m,⟨o,es,ep,ho,r⟩,_⟩:=id I.loc;obtain⟨sl,hL⟩:=u.any ho I.free (by simp);exact I.step (g':=s.gens) (d':=s.drawn) (ch:=[]) (λ_ z=>nomatch z) (λb o _ hb _ e n=>u.keep b o e n hb (by simp)) (λb o _ hb _ e n=>u.slot b o e n hb (by simp)) (λb o _ e n=>u.free b o e n (by simp)) (λb o _ e=>u.there b o e (by simp)) u.tups u.Hv u.Ie (λm' hm=>by
  obtain⟨o',es',ep',ho',r'⟩:=hm;rw[ho] at ho';cases ho';exact⟨_,es',ep',hL,r'⟩) hok I.bare
theorem Inv.call {g':Array GenState} {t':Nat} {d':Drawn} {ch:List Addr} (I:Inv X jb Z H s) (u:Un (frs X.stack) ch H H' s.heap h') (hok:HOk X.prog X.w H' h') (hg:AllBare g')
  (hch:∀b∈ch,(b∈X.ex\/X.s₀.heap.objs.size<=b)/\b≠X.env.locals/\(∀x c,X.env.cells.lookup x=some c->c≠b)/\∀p∈X.pn++jb,p.1≠b) :
  Inv X jb Z H' { s with heap:=h',gens:=g',drawn:=d',toks:=t' }:=by
 obtain⟨m,⟨o,es,ep,ho,r⟩,_⟩:=id I.loc;obtain⟨sl,hL⟩:=u.any ho I.free λz=>(hch _ z).2.1 rfl;exact I.step (ch:=ch) hch (λb o hL hb hc e n=>u.keep b o e n (λz=>(QbN.mp (I.O1 b z)).elim hL hb) hc) (λb o _ _ hc e n=>u.any e n hc) (λb o hc e n=>u.free b o e n hc) (λb o hc e=>u.there b o e hc) u.tups u.Hv u.Ie (λm' hm=>by
  obtain⟨o',es',ep',ho',r'⟩:=hm;rw[ho] at ho';cases ho';exact⟨_,es',ep',hL,r'⟩) hok hg
theorem Inv.turned {t':Nat} {it:Addr} (I:Inv X jb Z H s) (k:∀b o,b≠it->s.heap.get? b=some o->h'.get? b=some o) (hn:H it=none) (hL:it≠X.env.locals)
  (h1:it∈X.ex\/X.s₀.heap.objs.size<=it) (h2:∀x c,X.env.cells.lookup x=some c->c≠it) (h3:∀p∈X.pn++jb,p.1≠it):Inv X jb Z H { s with heap:=h',toks:=t' }:=by
 have nit:∀b u,H b=some u->b≠it:=λb u e z=>by rw[z,hn] at e;cases e
 refine I.step (g':=s.gens) (d':=s.drawn) (ch:=[it]) (λb hb=>?_) (λb o _ _ hc e _=>k b o (λz=>hc (by simp[z])) e) (λb o _ _ hc e _=>⟨o.slots,k b o (λz=>hc (by simp[z])) e⟩) (λ_ _ _ _ n=>n)
  (λb o hc e=>⟨o,k b o (λz=>hc (by simp[z])) e⟩) (λ_ _ e=>e) (λ_ _ _ e=>e) (λb ps e=>⟨#[],by rw[e];simp⟩) (λm hm=>?_) (λb u e=>?_) I.bare
 ·have e:b=it:=by simpa using hb
  subst e;exact⟨h1,hL,h2,h3⟩
 ·obtain⟨o,es,ep,ho,r⟩:=hm;exact⟨o,es,ep,k _ o (Ne.symm hL) ho,r⟩
 ·refine (I.hok b u e).stay (λc v hc q=>k c v ?_ q) (λ_ q=>q) λ_ _ q=>q;rcases hc with z | z
  ·rw[z];exact nit b u e
  ·exact nit c _ z
theorem Inv.tok (I:Inv X jb Z H s) (t:Nat):Inv X jb Z H { s with toks:=t }:=I.un (h':=s.heap) (t':=t) Un.refl I.hok
theorem Inv.kept {t':Nat} (I:Inv X jb Z H s) (k:∀b u,s.heap.get? b=some u->h'.get? b=some u):Inv X jb Z H { s with heap:=h',toks:=t' }:=I.un (Un.kept k) (I.hok.kept k)
theorem Inv.laid {a:Addr} {o:HO} {t':Nat} (I:Inv X jb Z H s) (k:∀b u,s.heap.get? b=some u->h'.get? b=some u) (hp:s.heap.objs.size<=a) (new:Bd X.prog X.w (upd H a o) h' a o) :
  Inv X jb Z (upd H a o) { s with heap:=h',toks:=t' }:=I.un (Un.laid k hp (I.hok.fresh hp)) (I.hok.laid k hp new)
theorem Inv.write {x e:Addr} {o:HO} {t':Nat} (I:Inv X jb Z H s) (mu:Mut (H x)) (he:e=x\/H e=some (.own x)) (k:∀b u,b≠e->s.heap.get? b=some u->h'.get? b=some u) (heo:∃u,h'.get? e=some u)
  (new:Bd X.prog X.w (upd H x o) h' x o):Inv X jb Z (upd H x o) { s with heap:=h',toks:=t' }:=I.un (Un.write mu he k heo) (I.hok.write mu he k heo new)
theorem Inv.Mt {Tc:YC} (I:Inv X jb Z H s) (h:∀p∈Tc,s.heap.get? p.1=some p.2/\H p.1=none/\p.1≠X.env.locals/\p.1∉X.fs/\∀v,p.2.data≠.cell v):Inv X Tc Z H s:=
 ⟨I.ok,I.os,I.bare,I.base,I.loc,I.cell,I.free,I.Gi,λp hp=>(Qbw.mp hp).elim (λz=>I.pin p (Qay _ z)) (h p),I.hok,I.len⟩
theorem Qc {N:YF} (hN:N.Nodup) {i j:Nat} {x:Str} (a:N[i]?=some x) (b:N[j]?=some x):i=j:=by
 obtain⟨h1,e1⟩:=Qai.mp a;obtain⟨h2,e2⟩:=Qai.mp b;exact (List.getElem_inj hN).mp (e1.trans e2.symm)
theorem Ui {M:Model} {A:Around} {E:YA} {i:Nat} {x:Str} {v:V} {u:Value} {Q:YH} (I:Inv X jb Z H s) (hN:X.N.Nodup) (hi:X.N[i]?=some x) (hx:Loc X.env.scope x) (r:RelV v u)
  (h:∀s',Inv X jb (Z.set i (some v)) H s'->(∃a,Heap.SameBut a s.heap s'.heap/\(a=X.env.locals\/X.env.cells.lookup x=some a))->Q () s') (hf:X.fn x=true\/X.env.scope.names.lookup x=some .local:=by first | exact .inl rfl | exact .inr rfl | assumption):wpAny M A (storeName X.env x u) Q E s:=by
 obtain⟨m,hn,hl⟩:=id I.loc;have hcls:(X.env.scope.kind == .class || (X.env.scope.kind == .module&&X.env.locals != X.env.globals))=false:=by rw[I.ok.kind];rfl
 have hiσ : i < Z.length:=by rw[I.len];exact (Qai.mp hi).1
 have cne:=I.cne;have tracked:∀{a:Addr} {h':Heap},(∃o,s.heap.get? a=some o/\H a=none)->Heap.SameBut a s.heap h'->HOk X.prog X.w H h':=λ{a h'} ha hs b ob e=>by
  obtain⟨_,_,hfree⟩:=ha;refine (I.hok b ob e).stay (λc w' hc q=>(hs.2 c ?_).trans q) (λ_ q=>q) λ_ _ q=>q;rintro rfl;rcases hc with rfl | hc
  ·rw[hfree] at e;cases e
  ·rw[hfree] at hc;cases hc
 rcases hx with hk | hk
 ·refine wpAny_storeName_local hk hn (λh' hn' hs=>?_) hcls;obtain⟨oL,_,_,hoL,_⟩:=id hn;refine h _ ⟨I.ok,I.os,I.bare,⟨λb o e n hb hx=>?_,λb o e n hb hx=>?_,I.base.free,λb o e hx=>?_,I.base.tups,I.base.Hv,I.base.Ie⟩,⟨_,hn',λj y v' e1 e2 e3=>?_⟩,λy c e=>?_,I.free,I.Gi,λp hp=>?_,tracked ⟨oL,hoL,I.free⟩ hs,by simpa using I.len⟩ ⟨_,hs,.inl rfl⟩
  ·exact (hs.2 b (QbV (QaN (QbU e) I.ok.above))).trans (I.base.keep b o e n hb hx)
  ·obtain⟨sl,e1⟩:=I.base.slot b o e n hb hx;exact⟨sl,(hs.2 b (QbV (QaN (QbU e) I.ok.above))).trans e1⟩
  ·obtain⟨o',e1⟩:=I.base.there b o e hx;exact⟨o',(hs.2 b (QbV (QaN (QbU e) I.ok.above))).trans e1⟩
  ·by_cases hj:j=i
   ·subst hj;rw[hi] at e1;cases e1;rw[Qaq hiσ] at e2;cases e2;exact⟨u,r,.inl ⟨hk,by simp⟩⟩
   ·rw[Qaz (Ne.symm hj)] at e2;obtain⟨u',r',q⟩:=hl j y v' e1 e2 e3;refine⟨u',r',?_⟩;rcases q with⟨k,e⟩|⟨k,c,e,z⟩
    ·refine .inl ⟨k,?_⟩;have:y≠x:=λe=>hj (Qc hN e1 (e ▸ hi));simp[this,e]
    ·exact .inr ⟨k,c,e,z.sameBut hs (cne y c e)⟩
  ·obtain⟨w',z⟩:=I.cell y c e;exact⟨w',z.sameBut hs (cne y c e)⟩
  ·obtain⟨e,n,ne,nf,d⟩:=I.pin p hp;exact⟨(hs.2 p.1 ne).trans e,n,ne,nf,d⟩
 ·have hfn:X.fn x=true:=by
   rcases hf with z | z
   ·exact z
   ·rw[z] at hk;cases hk
  obtain⟨c,hc⟩:=I.ok.has x (.inl hk);obtain⟨w',z⟩:=I.cell x c hc;refine wpAny_storeName_cell I.ok.kind hk hc z (λh' hc' hs=>?_);obtain⟨oc,hoc,jC⟩:=id z;refine h { s with heap:=h' } ⟨I.ok,I.os,I.bare,⟨λb o e n hb hx=>?_,λb o e n hb hx=>?_,I.base.free,λb o e hx=>?_,I.base.tups,I.base.Hv,I.base.Ie⟩,⟨m,hn.sameBut hs (Ne.symm (cne x c hc)),λj y v' e1 e2 e3=>?_⟩,λy c' e=>?_,I.free,I.Gi,λp hp=>?_,tracked ⟨oc,hoc,I.Gi x c hc⟩ hs,by simpa using I.len⟩ ⟨c,hs,.inr hc⟩
  ·exact (hs.2 b (QbV (QaN (QbU e) (I.ok.cab x c hfn hc)))).trans (I.base.keep b o e n hb hx)
  ·obtain⟨sl,e1⟩:=I.base.slot b o e n hb hx;exact⟨sl,(hs.2 b (QbV (QaN (QbU e) (I.ok.cab x c hfn hc)))).trans e1⟩
  ·obtain⟨o',e1⟩:=I.base.there b o e hx;exact⟨o',(hs.2 b (QbV (QaN (QbU e) (I.ok.cab x c hfn hc)))).trans e1⟩
  ·by_cases hj:j=i
   ·subst hj;rw[hi] at e1;cases e1;rw[Qaq hiσ] at e2;cases e2;exact⟨u,r,.inr ⟨.inl hk,c,hc,hc'⟩⟩
   ·rw[Qaz (Ne.symm hj)] at e2;obtain⟨u',r',q⟩:=hl j y v' e1 e2 e3;refine⟨u',r',?_⟩;rcases q with q |⟨k,c',e,z'⟩
    ·exact .inl q
    ·refine .inr ⟨k,c',e,z'.sameBut hs ?_⟩;rintro rfl;exact hj (Qc hN e1 (I.ok.inj _ _ _ e hc ▸ hi))
  ·by_cases hcc:c'=c
   ·subst hcc;exact⟨_,hc'⟩
   ·obtain⟨w2,z2⟩:=I.cell y c' e;exact⟨w2,z2.sameBut hs hcc⟩
  ·obtain⟨e,n,ne,nf,d⟩:=I.pin p hp;refine⟨(hs.2 p.1 ?_).trans e,n,ne,nf,d⟩;intro q;rw[q,hoc] at e;have q':oc=p.2:=Qbx e;exact d w' (by rw[<-q'];exact jC)
theorem Kq {M:Model} {A:Around} {E:YA} {i:Nat} {x:Str} {v:V} {u:Value} {Q:YH} (I:Inv X jb Z H s) (hN:X.N.Nodup) (hi:X.N[i]?=some x) (hx:Loc X.env.scope x) (r:RelV v u)
  (h:∀s',Inv X jb (Z.set i (some v)) H s'->Q () s') (hf:X.fn x=true\/X.env.scope.names.lookup x=some .local:=by first | exact .inl rfl | exact .inr rfl | assumption):wpAny M A (storeName X.env x u) Q E s:=
 Ui I hN hi hx r (λs' I' _=>h s' I') hf
theorem Inv.call' {s':Shared} {ch:List Addr} (I:Inv X jb Z H s) (ho:s'.os=s.os) (u:Un (frs X.stack) ch H H' s.heap s'.heap) (hok:HOk X.prog X.w H' s'.heap) (hg:AllBare s'.gens)
  (hch:∀b∈ch,(b∈X.ex\/X.s₀.heap.objs.size<=b)/\b≠X.env.locals/\(∀x c,X.env.cells.lookup x=some c->c≠b)/\∀p∈X.pn++jb,p.1≠b):Inv X jb Z H' s':=by
 obtain⟨h',g',d',t',o'⟩:=s';have e:o'=s.os:=ho;subst e;exact I.call (g':=g') (t':=t') (d':=d') u hok hg hch
end
abbrev XK:=Value->Option Addr->Hp->Prop
abbrev St:=List (Option V)
abbrev VK:=V->Hp->Prop
abbrev TE:=St->Hp->VK->Prop
abbrev TT:=St->Hp->(Bool->Hp->Prop)->Prop
abbrev TA:=St->Hp->(YG->Hp->Prop)->Prop
structure Ends where
 nx:St->Hp->Prop
 rt:VK
 bk:St->Hp->Prop:=λ_ _=>False
 ct:St->Hp->Prop:=λ_ _=>False
abbrev YO:=St->Hp->Prop
abbrev TS:=Ends->YO
def EP (X:Cx) (jb:YC) (Z : St) (Q:VK) (u:Value) (s':Shared):Prop:=∃v H',Inv X jb Z H' s'/\RelV v u/\Q v H'
def TP (X:Cx) (jb:YC) (Z : St) (Q:Bool->Hp->Prop) (b:Bool) (s':Shared):Prop:=∃H',Inv X jb Z H' s'/\Q b H'
def AP (X:Cx) (jb:YC) (Z : St) (Q:YG->Hp->Prop) (us:YE) (s':Shared):Prop:=∃vs H',Inv X jb Z H' s'/\Vals vs us/\Q vs H'
def SP (X:Cx) (jb:YC) (D:Ends) (f:Flow) (s':Shared):Prop:=
 match f with
 | .next=>∃ σ' H',Inv X jb σ' H' s'/\D.nx σ' H'
 | .brk=>∃ σ' H',Inv X jb σ' H' s'/\D.bk σ' H'
 | .cont=>∃ σ' H',Inv X jb σ' H' s'/\D.ct σ' H'
 | .ret u=>∃v σ' H',Inv X jb σ' H' s'/\RelV v u/\D.rt v H'
def PE (X:Cx) (e:Expr) (t:TE):Prop:=
 ∀(jb:YC) (s:Shared) (Z : St) (H:Hp) (Q:VK),Inv X jb Z H s->t Z H Q->wpAny (model X.prog X.w) X.A (eval e X.env) (EP X jb Z Q) X.xe s
def PT (X:Cx) (e:Expr) (t:TT):Prop:=
 ∀(jb:YC) (s:Shared) (Z : St) (H:Hp) (Q:Bool->Hp->Prop),Inv X jb Z H s->t Z H Q->wpAny (model X.prog X.w) X.A (isTrue e X.env (eval e X.env)) (TP X jb Z Q) X.xe s
def PW (X:Cx) (e:Expr) (t:TT):Prop:=
 ∀(whole:Sem Value) (jb:YC) (s:Shared) (Z : St) (H:Hp) (Q:Bool->Hp->Prop),Inv X jb Z H s->t Z H Q->wpAny (model X.prog X.w) X.A (isTrue e X.env whole) (TP X jb Z Q) X.xe s
theorem PW.pt {X:Cx} {e:Expr} {t:TT} (h:PW X e t):PT X e t:=h _
def PA (X:Cx) (es:YJ) (t:TA):Prop:=
 ∀(pos:Pos) (jb:YC) (s:Shared) (Z : St) (H:Hp) (Q:YG->Hp->Prop),Inv X jb Z H s->t Z H Q->wpAny (model X.prog X.w) X.A (spliced (backTo pos (starEach es X.env))) (AP X jb Z Q) X.xe s
def PS (X:Cx) (st:Stmt) (t:TS):Prop:=
 ∀(jb:YC) (s:Shared) (Z : St) (H:Hp) (D:Ends),Inv X jb Z H s->t D Z H->wpAny (model X.prog X.w) X.A (exec st X.env) (SP X jb D) X.xe s
def PSs (X:Cx) (st:List Stmt) (t:TS):Prop:=
 ∀(jb:YC) (s:Shared) (Z : St) (H:Hp) (D:Ends),Inv X jb Z H s->t D Z H->wpAny (model X.prog X.w) X.A (execs st X.env) (SP X jb D) X.xe s
theorem thn {α : Type} {t:Sem α} {Q Q':α->Shared->Prop} {M:Model} {A:Around} {E:YA} {s:Shared} (h:wpAny M A t Q E s) (hQ:∀a s,Q a s->Q' a s):wpAny M A t Q' E s:=Qci h hQ λ_ _ x=>x
section
variable {X:Cx}
theorem bin {a b:Expr} {ta tb:TE} (ha:PE X a ta) (hb:PE X b tb) {jb:YC} {s:Shared} {Z : St} {H:Hp} {R:V->V->Hp->Prop} (I:Inv X jb Z H s) (h:ta Z H λx H1=>tb Z H1 λy H2=>R x y H2)
  {α : Type} {Q:α->Shared->Prop} {f:Value->Value->Sem α}
  (hf:∀v u s2 x y H2,Inv X jb Z H2 s2->RelV x v->RelV y u->R x y H2->wpAny (model X.prog X.w) X.A (f v u) Q X.xe s2) :
  wpAny (model X.prog X.w) X.A (eval a X.env) (λv s₁=>wpAny (model X.prog X.w) X.A (eval b X.env) (λu s₂=>wpAny (model X.prog X.w) X.A (f v u) Q X.xe s₂) X.xe s₁) X.xe s:=by
 refine thn (ha jb s Z H _ I h) λv s1 zz=>?_;obtain⟨x,H1,I1,r1,q1⟩:=zz;refine thn (hb jb s1 Z H1 _ I1 q1) λu s2 zz=>?_;obtain⟨y,H2,I2,r2,q2⟩:=zz;exact hf v u s2 x y H2 I2 r1 r2 q2
def Zq (i:Nat):TE:=fun Z H Q=>∃v,Z[i]?=some (some v)/\Q v H
def tC (v:V):TE:=λ_ H Q=>Q v H
theorem ZQ {i:Nat} {x:Str} {pos:Pos} (hN:X.N[i]?=some x) (hv:Vis X.env.scope x) (hd:(x == ("__debug__":Str))=false:=by decide) (hcd:(x == ("__classdict__":Str))=false:=by decide):PE X (.Name x pos) (Zq i):=by
 intro jb s Z H Q I h;obtain⟨v,e,h⟩:=h;obtain⟨m,hn,hl⟩:=I.loc;obtain⟨u,r,l⟩:=hl i x v hN e hv;have fin:EP X jb Z Q u s:=⟨v,H,I,r,h⟩;rcases l with⟨hk,hm⟩|⟨hk,c,hc,hcell⟩
 ·exact wpAny_Name (wpAny_loadName_local I.ok.kind hk hn hm fin) hd
 ·rcases hk with hk | hk
  ·exact wpAny_Name (wpAny_loadName_cell I.ok.kind hk hc hcell fin) hd
  ·exact wpAny_Name (wpAny_loadName_free I.ok.kind hk hc hcell fin hcd) hd
theorem Af {i j pos}:PE X (.Constant (.int i) j pos) (tC (.int i)):=λ_ _ _ H _ I h=>wpAny_Constant_int ⟨.int i,H,I.tok _,⟨_,rfl⟩,h⟩
theorem Cp {b j pos}:PE X (.Constant (.bool b) j pos) (tC (.bl b)):=λ_ _ _ H _ I h=>Constant_bool ⟨.bl b,H,I,rfl,h⟩
theorem Pu {x j pos}:PE X (.Constant (.str x) j pos) (tC (.str x)):=λ_ _ _ H _ I h=>Calls.Constant_str ⟨.str x,H,I.tok _,⟨_,rfl⟩,h⟩
def Gl (X:Cx) (x:Str):Prop:=X.env.kindOf x=some .globalImplicit
theorem JR {E:YA} {jb:YC} {s:Shared} {Z : St} {H:Hp} {x:Str} {u:Value} {pos:Pos} {Q:YA} (I:Inv X jb Z H s) (hg:Gl X x) (hm:X.mg x=some u) (h:Q u s)
  (hd:(x == ("__debug__":Str))=false:=by decide):wpAny (model X.prog X.w) X.A (eval (.Name x pos) X.env) Q E s:=
 Calls.Name_function_global I.ok.kind hg (Calls.loadGlobal_global (by rw[I.ok.glob];exact I.mod.glob.keeps I.bk) hm h) hd
theorem Eu {E:YA} {jb:YC} {s:Shared} {Z : St} {H:Hp} {x:Str} {u:Value} {pos:Pos} {Q:YA} (I:Inv X jb Z H s) (hg:Gl X x) (hm:X.mg x=none) (hv:bootBuiltins x=some u) (h:Q u s)
  (hn:x≠"__name__":=by decide) (hd:(x == ("__debug__":Str))=false:=by decide):wpAny (model X.prog X.w) X.A (eval (.Name x pos) X.env) Q E s:=by
 obtain⟨mb,h1,h2⟩:=I.mod.blt;exact Calls.Name_function_global I.ok.kind hg (Calls.loadGlobal_builtin (by rw[I.ok.glob];exact I.mod.glob.keeps I.bk) hm (by rw[I.ok.blt];exact h1.keeps I.bk) ((h2 x hn).trans hv) h) hd
theorem Yr {x:Str} {v:V} {u:Value} {pos:Pos} (hg:Gl X x) (hm:X.mg x=some u) (r:RelV v u) (hd:(x == ("__debug__":Str))=false:=by decide):PE X (.Name x pos) (tC v):=
 λ_ _ _ H _ I h=>JR I hg hm ⟨v,H,I,r,h⟩ hd
theorem FQ {x:Str} {v:V} {u:Value} {pos:Pos} (hg:Gl X x) (hm:X.mg x=none) (hv:bootBuiltins x=some u) (r:RelV v u) (hn:x≠"__name__":=by decide) (hd:(x == ("__debug__":Str))=false:=by decide):PE X (.Name x pos) (tC v):=
 λ_ _ _ H _ I h=>Eu I hg hm hv ⟨v,H,I,r,h⟩ hn hd
variable {a b:Expr} {ta tb:TE} {pos:Pos}
def PC (X:Cx) (op:CmpOp) (a b:Expr) (t:TE):Prop:=
 ∀(jb:YC) (s:Shared) (Z : St) (H:Hp) (Q:VK),Inv X jb Z H s->t Z H Q ->
  wpAny (model X.prog X.w) X.A (eval a X.env) (λv s₁=>wpAny (model X.prog X.w) X.A (eval b X.env) (λu s₂=>wpAny (model X.prog X.w) X.A (compareOp op v u) (EP X jb Z Q) X.xe s₂) X.xe s₁) X.xe s
theorem Ww (b:Expr) {op:CmpOp} (h:op≠.In) (h2:op≠.NotIn):behindInMarks op b=false:=by
 have e1:(op == CmpOp.In)=false:=by cases op <;> first | rfl | exact absurd rfl h
 have e2:(op == CmpOp.NotIn)=false:=by cases op <;> first | rfl | exact absurd rfl h2
 cases b <;> simp[behindInMarks,e1,e2]
def tB (t:TE):TT:=fun Z H Q=>t Z H λx H1=>∃c,x=.bl c/\Q c H1
theorem mL {op:CmpOp} {t:TE} (h:PC X op a b t) (h1:behindInMarks op b=false:=by first | exact Ww _ (by decide) (by decide) | rfl):PT X (.Compare a [op] [b] pos) (tB t):=by
 intro jb s Z H Q I hw;refine wpAny_isTrue_Compare1 (thn (h jb s Z H _ I hw) λv s1 h1=>thn h1 λu s2 h2=>thn h2 λc s3 zz=>?_) h1;obtain⟨x,H1,I1,r1,q1⟩:=zz;obtain⟨d,rfl,q⟩:=q1;cases r1;exact Qbc ⟨H1,I1,q⟩
theorem CW {e:Expr} {t:TE} (h:PE X e t) (he:∀whole,isTrue e X.env whole=(do let v <-whole;standAt e.pos;holding [v] (truthy v)):=by intro _;rfl):PT X e (tB t):=by
 intro jb s Z H Q I hw;refine isTrue_plain (thn (h jb s Z H _ I hw) λv s1 zz=>?_) (he _);obtain⟨x,H1,I1,r1,q1⟩:=zz;obtain⟨d,rfl,q⟩:=q1;cases r1;exact Qbc ⟨H1,I1,q⟩
variable {tA tB':TT} {rest:YJ}
def dJ (t u:TT):TT:=fun Z H Q=>t Z H λc H1=>if c=true then u Z H1 Q else Q false H1
def tOr (t u:TT):TT:=fun Z H Q=>t Z H λc H1=>if c=true then Q true H1 else u Z H1 Q
def dH (t:TT):TT:=fun Z H Q=>t Z H λc H1=>Q (!c) H1
theorem Rv (ha:PT X a tA):PW X (.BoolOp .And [a] pos) tA:=by
 intro wh jb s Z H Q I h;refine isTrue_and (thn (ha jb s Z H Q I h) λc s1 e=>?_);cases c with
 | true=>exact isTrue_and_nil e
 | false=>exact e
theorem Lh (ha:PT X a tA):PW X (.BoolOp .Or [a] pos) tA:=by
 intro wh jb s Z H Q I h;refine isTrue_or (thn (ha jb s Z H Q I h) λc s1 e=>?_);cases c with
 | false=>exact isTrue_or_nil e
 | true=>exact e
theorem Um (ha:PT X a tA) (hb:PW X (.BoolOp .And (b::rest) pos) tB'):PW X (.BoolOp .And (a::b::rest) pos) (dJ tA tB'):=by
 intro wh jb s Z H Q I h;refine isTrue_and (thn (ha jb s Z H _ I h) λc s1 zz=>?_);obtain⟨H1,I1,q1⟩:=zz;cases c with
 | true=>exact hb wh jb s1 Z H1 Q I1 q1
 | false=>exact⟨H1,I1,q1⟩
theorem JH (ha:PT X a tA) (hb:PW X (.BoolOp .Or (b::rest) pos) tB'):PW X (.BoolOp .Or (a::b::rest) pos) (tOr tA tB'):=by
 intro wh jb s Z H Q I h;refine isTrue_or (thn (ha jb s Z H _ I h) λc s1 zz=>?_);obtain⟨H1,I1,q1⟩:=zz;cases c with
 | true=>exact⟨H1,I1,q1⟩
 | false=>exact hb wh jb s1 Z H1 Q I1 q1
theorem CN (ha:PT X a tA):PT X (.UnaryOp .Not a pos) (dH tA):=by
 intro jb s Z H Q I h;exact isTrue_not (ha jb s Z H (λc H1=>Q (!c) H1) I h)
def bW (ta tb:TE):TE:=fun Z H Q=>ta Z H λx H1=>∃c,x=.bl c/\if c=true then tb Z H1 Q else Q (.bl false) H1
def bR (ta:TE):TE:=fun Z H Q=>ta Z H λx H1=>∃c,x=.bl c/\Q (.bl (!c)) H1
theorem Px {op} {t:TE} (h:PE X a t):PE X (.BoolOp op [a] pos) t:=λjb s Z H Q I hw=>BoolOp_one (h jb s Z H Q I hw)
theorem PB (ha:PE X a ta) (hb:PE X (.BoolOp .And (b::rest) pos) tb):PE X (.BoolOp .And (a::b::rest) pos) (bW ta tb):=by
 intro jb s Z H Q I h;refine BoolOp_and (thn (ha jb s Z H _ I h) λv s1 zz=>?_);obtain⟨x,H1,I1,r1,q1⟩:=zz;obtain⟨c,rfl,q1⟩:=q1;cases r1;refine Qbc ?_;cases c with
 | true=>exact hb jb s1 Z H1 Q I1 q1
 | false=>exact⟨.bl false,H1,I1,rfl,q1⟩
theorem Ut (ha:PE X a ta):PE X (.UnaryOp .Not a pos) (bR ta):=by
 intro jb s Z H Q I h;refine UnaryOp_ (thn (ha jb s Z H _ I h) λv s1 zz=>?_);obtain⟨x,H1,I1,r1,q1⟩:=zz;obtain⟨c,rfl,q1⟩:=q1;cases r1;exact not_of (Qbc ⟨.bl (!c),H1,I1,rq,q1⟩)
end
def SqL (K:YD) (H:Hp) (a:Addr) (xs:YG):Prop:=
 Rd H a (.lst xs) \/
  ∃(o:Obj) (its:Array Value) (n:Nat),K.lookup a=some o/\o.cls=.type "list"/\o.dict=none/\o.data=.seq its n/\its.size<=sizeLine/\Vals xs its.toList
def SqT (K:YD) (H:Hp) (a:Addr) (xs:YG):Prop:=
 Rd H a (.tup xs) \/
  ∃(o:Obj) (its:Array Value) (n:Nat),K.lookup a=some o/\o.cls=.type "tuple"/\o.data=.seq its n/\its.size<=sizeLine/\Vals xs its.toList
def mD:Value->Option V
 | .none=>some .non
 | .bool b=>some (.bl b)
 | .int i _=>some (.int i)
 | .str x _=>some (.str x)
 | .bytes b _=>some (.byt b)
 | .float b _=>some (.flt b)
 | .ref a=>some (.ref a)
 | .type n=>some (.ty n)
 | _=>none
theorem RelV.abs {x:V} {u:Value} (r:RelV x u):mD u=some x:=by
 cases x with
 | non=>cases r;rfl
 | bl _=>cases r;rfl
 | int _=>obtain⟨t,rfl⟩:=r;rfl
 | str _=>obtain⟨t,rfl⟩:=r;rfl
 | byt _=>obtain⟨t,rfl⟩:=r;rfl
 | flt _=>obtain⟨t,rfl⟩:=r;rfl
 | ref _=>cases r;rfl
 | ty _=>cases r;rfl
theorem RelV.inj {x y:V} {u:Value} (r:RelV x u) (q:RelV y u):x=y:=Qbx (r.abs.symm.trans q.abs)
theorem Vals.inj:∀{xs ys:YG} {us:YE},Vals xs us->Vals ys us->xs=ys
 | _,_,_,.nil,.nil=>rfl
 | _,_,_,.cons r t,.cons r' t'=>by rw[r.inj r',Vals.inj t t']
section
variable {X:Cx} {jb:YC} {Z : St} {H:Hp} {s:Shared} {a:Addr} {xs ys:YG}
theorem SqL.of {K:YD} (h:H a=some (.lst xs)):SqL K H a xs:=.inl (.inl h)
theorem SqT.of {K:YD} (h:H a=some (.tup xs)):SqT K H a xs:=.inl (.inl h)
theorem Inv.list (I:Inv X jb Z H s) (h:SqL X.K H a xs):∃its:YE,Vals xs its/\PlainL s.heap a its.toArray/\xs.length<=sizeLine:=by
 rcases h with h |⟨o,its,n,hk,hc,hd,hs,hz,r⟩
 ·obtain⟨z,its,n,r,e⟩:=h.ok I.hok;exact⟨its,r,⟨_,n,e,rq,rq,rq⟩,z⟩
 ·refine⟨its.toList,r,⟨o,n,I.kIn a o hk,hc,hd,by simpa using hs⟩,?_⟩;have e:=r.length;simp only[QaG] at e;omega
theorem Inv.tuple (I:Inv X jb Z H s) (h:SqT X.K H a xs):∃its:YE,Vals xs its/\IsTup s.heap a its.toArray/\xs.length<=sizeLine:=by
 rcases h with h |⟨o,its,n,hk,hc,hs,hz,r⟩
 ·obtain⟨z,its,r,p⟩:=h.ok I.hok;exact⟨its,r,p,z⟩
 ·refine⟨its.toList,r,⟨o,I.kIn a o hk,hc,n,by simpa using hs⟩,?_⟩;have e:=r.length;simp only[QaG] at e;omega
theorem Inv.IV (I:Inv X jb Z H s) (h:SqL X.K H a xs) (h':SqL X.K H a ys):xs=ys:=by
 obtain⟨its,r,⟨o,n,e,_,_,d⟩,_⟩:=I.list h;obtain⟨its',r',⟨o',n',e',_,_,d'⟩,_⟩:=I.list h';rw[e] at e';cases e';rw[d] at d';injection d' with d1 _;have:its=its':=by simpa using congrArg Array.toList d1
 subst this;exact r.inj r'
theorem Inv.Ud (I:Inv X jb Z H s) (h:SqT X.K H a xs) (h':SqT X.K H a ys):xs=ys:=by
 obtain⟨its,r,⟨o,e,_,n,d⟩,_⟩:=I.tuple h;obtain⟨its',r',⟨o',e',_,n',d'⟩,_⟩:=I.tuple h';rw[e] at e';cases e';rw[d] at d';injection d' with d1 _;have:its=its':=by simpa using congrArg Array.toList d1
 subst this;exact r.inj r'
end
abbrev Cx.wish (X:Cx) (E:YA):Cx:={ X with xe:=E }
abbrev Cx.nox (X:Cx):Cx:=X.wish λ_ _=>False
theorem Cx.Ok.wish {X:Cx} (ok:X.Ok) (E:YA):(X.wish E).Ok:=
 ⟨ok.mod,ok.kind,ok.glob,ok.blt,ok.above,ok.inj,ok.has,ok.cab,ok.hd,ok.frames,ok.stk,ok.exf,ok.bs,ok.bsz,ok.Mz,ok.M6,ok.Gh,ok.frf⟩
theorem Cx.Ok.GF {X:Cx} {E:YA} (ok:(X.wish E).Ok):X.Ok:=
 ⟨ok.mod,ok.kind,ok.glob,ok.blt,ok.above,ok.inj,ok.has,ok.cab,ok.hd,ok.frames,ok.stk,ok.exf,ok.bs,ok.bsz,ok.Mz,ok.M6,ok.Gh,ok.frf⟩
section
variable {X:Cx} {jb:YC} {Z : St} {H:Hp} {s:Shared} {E:YA}
theorem Inv.wish (I:Inv X jb Z H s) (E:YA):Inv (X.wish E) jb Z H s:=⟨I.ok.wish E,I.os,I.bare,I.base,I.loc,I.cell,I.free,I.Gi,I.pin,I.hok,I.len⟩
theorem Inv.GF (I:Inv (X.wish E) jb Z H s):Inv X jb Z H s:=⟨I.ok.GF,I.os,I.bare,I.base,I.loc,I.cell,I.free,I.Gi,I.pin,I.hok,I.len⟩
theorem SP.GF {D:Ends} {f:Flow} {s':Shared} (h:SP (X.wish E) jb D f s'):SP X jb D f s':=by
 cases f with
 | next=>obtain⟨σ',H',I,q⟩:=h;exact⟨σ',H',I.GF,q⟩
 | brk=>obtain⟨σ',H',I,q⟩:=h;exact⟨σ',H',I.GF,q⟩
 | cont=>obtain⟨σ',H',I,q⟩:=h;exact⟨σ',H',I.GF,q⟩
 | ret u=>obtain⟨v,σ',H',I,r,q⟩:=h;exact⟨v,σ',H',I.GF,r,q⟩
theorem PSs.nox {st:List Stmt} {t:TS} (h:PSs X.nox st t):PSs X st t:=λjb s Z H D I hw=>
 Qci (h jb s Z H D (I.wish _) hw) (λ_ _ q=>q.GF) λ_ _ z=>False.elim z
end
section
variable {X:Cx} {st:Stmt} {rest:List Stmt} {t u:TS} {e:Expr} {te:TE} {pos:Pos}
def bT:TS:=λD Z H=>D.nx Z H
def Ak (t u:TS):TS:=λD Z H=>t { D with nx:=u D } Z H
theorem Bq:PSs X [] bT:=λ_ _ Z H _ I h=>wpAny_execs_nil ⟨Z,H,I,h⟩
theorem Ae (h1:PS X st t) (h2:PSs X rest u):PSs X (st::rest) (Ak t u):=by
 intro jb s Z H D I h;refine wpAny_execs_cons (thn (h1 jb s Z H { D with nx:=u D } I h) λf s1 q=>?_);cases f with
 | next=>
  obtain⟨σ',H',I',q⟩:=q;exact h2 jb s1 σ' H' D I' q
 | ret v=>exact q
 | brk=>exact q
 | cont=>exact q
theorem Ag (h1:PS X st t):PSs X [st] t:=by
 intro jb s Z H D I h;refine wpAny_execs_cons (thn (h1 jb s Z H D I h) λf s1 q=>?_);cases f with
 | next=>exact wpAny_execs_nil q
 | ret v=>exact q
 | brk=>exact q
 | cont=>exact q
theorem Inv.quiet {jb:YC} {Z : St} {H:Hp} {s:Shared} (I:Inv X jb Z H s):interactive X.env=false:=by simp[interactive,I.ok.kind]
def bV (te:TE):TS:=λD Z H=>te Z H λ_ H1=>D.nx Z H1
theorem Df (he:PE X e te) (hs:swapsWith e none pos.line X.env=pure false:=by rfl):PS X (.Expr e pos) (bV te):=by
 intro jb s Z H D I h;refine wpAny_Expr_any (thn (he jb s Z H _ I h) λv s1 zz=>?_) I.quiet hs;obtain⟨x,H1,I1,r1,q1⟩:=zz;exact⟨Z,H1,I1,q1⟩
def dG (te:TE):TS:=λD Z H=>te Z H D.rt
theorem Bc (he:PE X e te):PS X (.Return (some e) pos) (dG te):=by
 intro jb s Z H D I h;refine wpAny_Return_some (thn (he jb s Z H _ I h) λv s1 zz=>?_);obtain⟨x,H1,I1,r1,q1⟩:=zz;exact⟨x,Z,H1,I1,r1,q1⟩
def Jj (c:TT) (t u:TS):TS:=λD Z H=>c Z H λb H1=>if b=true then t D Z H1 else u D Z H1
theorem Ca {c:Expr} {a b:List Stmt} {tc:TT} (hc:PT X c tc) (ha:PSs X a t) (hb:PSs X b u):PS X (.If c a b pos) (Jj tc t u):=by
 intro jb s Z H D I h;refine wpAny_If (thn (hc jb s Z H _ I h) λd s1 zz=>?_);obtain⟨H1,I1,q1⟩:=zz;cases d with
 | true=>exact ha jb s1 Z H1 D I1 q1
 | false=>exact hb jb s1 Z H1 D I1 q1
def Zt:TS:=λ_ _ _=>False
theorem Iw:PS X st Zt:=λ_ _ _ _ _ _ h=>h.elim
end
abbrev TG:=V->St->Hp->(YO)->Prop
abbrev TGs:=YG->St->Hp->(YO)->Prop
def PG (X:Cx) (target:Expr) (t:TG):Prop:=
 ∀(jb:YC) (s:Shared) (Z : St) (H:Hp) (v:V) (u:Value) (Q:YO),Inv X jb Z H s->RelV v u->t v Z H Q ->
  wpAny (model X.prog X.w) X.A (assign target X.env u) (λ_ s'=>∃ σ' H',Inv X jb σ' H' s'/\Q σ' H') X.xe s
def PGs (X:Cx) (ts:YJ) (t:TGs):Prop:=
 ∀(jb:YC) (s:Shared) (Z : St) (H:Hp) (vs:YG) (us:YE) (Q:YO),Inv X jb Z H s->Vals vs us->t vs Z H Q ->
  wpAny (model X.prog X.w) X.A (assignInOrder ((assignEach ts X.env).map (·.2)) us) (λ_ s'=>∃ σ' H',Inv X jb σ' H' s'/\Q σ' H') X.xe s
abbrev Xi:=V->V->V->Hp->(Hp->Prop)->Prop
def bJ (X:Cx) (t:Xi):Prop:=
 ∀(jb:YC) (s:Shared) (Z : St) (H:Hp) (o i v:V) (ov iv u:Value) (Q:Hp->Prop),Inv X jb Z H s->RelV o ov->RelV i iv->RelV v u->t o i v H Q ->
  wpAny (model X.prog X.w) X.A (setItem ov iv u) (λ_ s'=>∃H',Inv X jb Z H' s'/\Q H') X.xe s
section
variable {X:Cx} {pos:Pos}
def G8 (i:Nat):TG:=λv Z H Q=>Q (Z.set i (some v)) H
theorem Ao {i:Nat} {x:Str} (hN:X.N.Nodup) (hi:X.N[i]?=some x) (hx:Loc X.env.scope x) (hf:X.fn x=true\/X.env.scope.names.lookup x=some .local:=by first | exact .inl rfl | exact .inr rfl | assumption):PG X (.Name x pos) (G8 i):=by
 intro jb s Z H v u Q I r h;exact wpAny_assign_Name (Kq I hN hi hx r (λs' I'=>⟨_,H,I',h⟩) hf)
def jK:TGs:=λvs Z H Q=>vs=[]/\Q Z H
def cO (t:TG) (u:TGs):TGs:=λvs Z H Q=>∃v r,vs=v::r/\t v Z H fun σ' H'=>u r σ' H' Q
theorem JM:PGs X [] jK:=by
 intro jb s Z H vs us Q I r h;obtain⟨e,h⟩:=h;subst e;cases r;exact assignInOrder_nil ⟨Z,H,I,h⟩
theorem Dq {e:Expr} {es:YJ} {t:TG} {u:TGs} (h1:PG X e t) (h2:PGs X es u)
  (hs:(assignEach (e::es) X.env).map (·.2)=assign e X.env::(assignEach es X.env).map (·.2):=by rfl):PGs X (e::es) (cO t u):=by
 intro jb s Z H vs us Q I r h;obtain⟨v,vr,e1,h⟩:=h;subst e1;cases r with
 | cons r rr=>
  rw[hs];refine assignInOrder_cons (thn (h1 jb s Z H _ _ _ I r h) λ_ s1 zz=>?_);obtain⟨σ1,H1,I1,q1⟩:=zz;exact h2 jb s1 σ1 H1 _ _ Q I1 rr q1
def aH (K:YD) (n:Nat) (t:TGs):TG:=λv Z H Q=>∃a xs,v=.ref a/\SqT K H a xs/\xs.length=n/\t xs Z H Q
theorem Li {es:YJ} {k:Nat} {t:TGs} {n:Nat} (hc:X.calm=true) (h:PGs X es t)
  (hn:(assignEach es X.env).length=n:=by rfl) (hst:(assignEach es X.env).findIdx? (·.1)=none:=by rfl):PG X (.Tuple es k pos) (aH X.K n t):=by
 intro jb s Z H v u Q I r hw;obtain⟨a,xs,e1,hq,hl,hw⟩:=hw;subst e1;cases r;obtain⟨its,rv,ht,hz⟩:=I.tuple hq;refine assign_Tuple_tuple (I.ok.hd hc) ht (by simp[hn,<-hl,rv.length]) hst λh' hx=>?_;have I1:Inv X jb Z H { s with heap:=h' }:=I.kept (t':=s.toks) λb o e=>hx b o (QbV (QbU e)) e;exact h jb _ Z H xs _ Q I1 (by simpa using rv) hw
def jJ (to ti:TE) (t:Xi):TG:=λv Z H Q=>to Z H λo H1=>ti Z H1 λi H2=>t o i v H2 λH3=>Q Z H3
theorem Em {o i:Expr} {to ti:TE} {t:Xi} (ho:PE X o to) (hi:PE X i ti) (hs:bJ X t)
  (ha:∀v,assign (.Subscript o i pos) X.env v=(do
   let ov <-holding [v] (eval o X.env);let iv <-holding [v,ov] (eval i X.env)
   standAt pos
   holding [v,ov,iv] (setItem ov iv v)
   release [v,ov,iv] []):=by intro _;rfl):PG X (.Subscript o i pos) (jJ to ti t):=by
 intro jb s Z H v u Q I r h;rw[ha];refine Qcg (QbS (thn (ho jb s Z H _ I h) λov s1 zz=>?_));obtain⟨x,H1,I1,r1,q1⟩:=zz;refine Qcg (QbS (thn (hi jb s1 Z H1 _ I1 q1) λiv s2 zz=>?_));obtain⟨y,H2,I2,r2,q2⟩:=zz;refine Qcg (wpAny_standAt (Qcg (QbS (thn (hs jb s2 Z H2 x y v ov iv u _ I2 r1 r2 r q2) λ_ s3 zz=>?_))));obtain⟨H3,I3,q3⟩:=zz;exact wpAny_release ⟨Z,H3,I3,q3⟩
def V7 (te:TE) (g:TG):TS:=λD Z H=>te Z H λx H1=>g x Z H1 D.nx
theorem Ec {tg e:Expr} {te:TE} {g:TG} (he:PE X e te) (hg:PG X tg g) (hs:swapsWithSole [tg] e pos.line X.env=pure false:=by rfl) (hw:swappedStores [tg] e X.env=pure none:=by rfl)
  (h1:(assignEach [tg] X.env).map (·.2)=[assign tg X.env]:=by rfl):PS X (.Assign [tg] e pos) (V7 te g):=by
 intro jb s Z H D I h;refine wpAny_Assign_stores (thn (he jb s Z H _ I h) λv s1 zz=>?_) hs hw;obtain⟨x,H1,I1,r1,q1⟩:=zz;rw[h1];exact thn (hg jb s1 Z H1 x v _ I1 r1 q1) λ_ s2 q=>q
theorem Ba {i:Nat} {x:Str} {e:Expr} {te:TE} {pos':Pos} (hN:X.N.Nodup) (hi:X.N[i]?=some x) (hx:Loc X.env.scope x) (he:PE X e te) (hs:swapsWith e (some (.Name x pos')) pos.line X.env=pure false:=by rfl) (hf:X.fn x=true\/X.env.scope.names.lookup x=some .local:=by first | exact .inl rfl | exact .inr rfl | assumption) :
  PS X (.Assign [.Name x pos'] e pos) (V7 te (G8 i)):=by
 intro jb s Z H D I h;refine wpAny_Assign_Name (thn (he jb s Z H _ I h) λv s1 zz=>?_) hs;obtain⟨y,H1,I1,r1,q1⟩:=zz;exact Kq I1 hN hi hx r1 (λs2 I2=>⟨_,H1,I2,q1⟩) hf
end
section
variable {X:Cx} {pos:Pos}
end
structure It where
 go:Nat->Hp->Prop
 yld:Nat->Hp->V->Hp->Prop
 stop:Nat->Hp->Prop
def Gn (X:Cx) (jb:YC) (H:Hp) (b:Addr):Prop:=
 H b=none/\b≠X.env.locals/\b∉X.fs/\(b∈X.ex\/X.s₀.heap.objs.size<=b)/\(∀x c,X.env.cells.lookup x=some c->c≠b)/\∀p∈X.pn++jb,p.1≠b
theorem Inv.M5 {X:Cx} {jb:YC} {Z : St} {H H':Hp} {s:Shared} {b:Addr} (I:Inv X jb Z H s) (hb:s.heap.objs.size<=b) (hn:H' b=none):Gn X jb H' b:=by
 refine⟨hn,Qcb (QaN I.lt hb),I.Z2 hb,.inr (QbW I.sz hb),λx c e z=>?_,λp hp z=>?_⟩
 ·obtain⟨v,q⟩:=I.cell x c e;exact absurd (QaN q.lt (by rw[z];exact hb)) (QbQ _)
 ·exact absurd (QaN (QbU (I.pin p hp).1) (by rw[z];exact hb)) (QbQ _)
structure Turn (P:Program) (w:World) (K:YD) (tg:Expr) (J:It) (fp:List Addr) (it:Addr) (tn:Nat->Heap->Prop):Prop where
 mem:it∈fp
 obj:∀i h,tn i h->∀b∈fp,∃o,h.get? b=some o/\∀v,o.data≠.cell v
 keep:∀i h h',tn i h->(∀b∈fp,∀o,h.get? b=some o->h'.get? b=some o)->tn i h'
 item:∀(X:Cx),X.prog=P->X.w=w->X.K=K->X.calm=true->∀(i:Nat) (jb:YC) (s:Shared) (Z : St) (H:Hp) (E:YA),Inv X jb Z H s->(∀b∈fp,Gn X jb H b)->tn i s.heap->J.go i H ->
  wpAny (model P w) X.A (pyNext (.ref it)) (λr s1=>∃u,r=some u /\
   wpAny (model P w) X.A (letOwnedTupleGo tg (.ref it) u) (λ_ s2=>∃x H',Inv X jb Z H' s2/\RelV x u/\J.yld i H x H'/\tn (i+1) s2.heap/\∀b∈fp,H' b=none) E s1) E s
 done:∀(X:Cx),X.prog=P->X.w=w->X.K=K->X.calm=true->∀(i:Nat) (jb:YC) (s:Shared) (Z : St) (H:Hp) (E:YA),Inv X jb Z H s->(∀b∈fp,Gn X jb H b)->tn i s.heap->J.stop i H ->
  wpAny (model P w) X.A (pyNext (.ref it)) (λr s1=>r=none/\Inv X jb Z H s1) E s
 self:∀(A:Around) (i:Nat) (s:Shared) (Q:YA) (E:YA),tn i s.heap->Q (.ref it) s->wpAny (model P w) A (pyIter (.ref it)) Q E s
abbrev TI:=St->Hp->(It->Hp->Prop)->Prop
def PIE (X:Cx) (jb:YC) (Z : St) (tg:Expr) (R:It->Hp->Prop) (itv:Value) (s2:Shared):Prop:=
 ∃(it:Addr) (fp:List Addr) (tn:Nat->Heap->Prop) (J:It) (H':Hp),itv=.ref it/\Inv X jb Z H' s2/\Turn X.prog X.w X.K tg J fp it tn/\tn 0 s2.heap/\(∀b∈fp,Gn X jb H' b)/\R J H'
def PI (X:Cx) (tg iter:Expr) (wi:TI):Prop:=
 ∀(jb:YC) (s:Shared) (Z : St) (H:Hp) (R:It->Hp->Prop),Inv X jb Z H s->wi Z H R ->
  wpAny (model X.prog X.w) X.A (eval iter X.env) (λv s1=>wpAny (model X.prog X.w) X.A (pyIter v) (PIE X jb Z tg R) X.xe s1) X.xe s
theorem Oo {M:Model} {A:Around} {E:YA} {s:Shared} {tg:Expr} {it:Addr} {u:Value} {o:Obj} {n:String} {vs:Array Value} {Q:YH} (ho:s.heap.get? it=some o) (hc:o.cls=.type n) (hd:o.data=.fields vs)
    (hn:["enumerate","zip","dict_itemiterator","dict_reverseitemiterator","odict_iterator","itertools.zip_longest","itertools.pairwise"].contains n=false) (hQ:Q () s):wpAny M A (letOwnedTupleGo tg (.ref it) u) Q E s:=by
  unfold letOwnedTupleGo;cases tg <;> first
    | exact Qch hQ
    | (cases u <;> first
        | exact Qch hQ
        | (refine Qcg (wpAny_load ho ?_)
           rw[hc,hd];show wpAny M A (if (["enumerate","zip","dict_itemiterator","dict_reverseitemiterator","odict_iterator","itertools.zip_longest","itertools.pairwise"].contains n&&vs[0]? == some (rawInt _))=true then _ else _) Q E s
           rw[if_neg (by intro h;rw[hn,Bool.false_and] at h;cases h)];exact Qch hQ))
def Itl (K:YD) (a:Addr):It:=
 ⟨λi H=>∃xs x,SqL K H a xs/\xs[i]?=some x,λi H x H'=>H'=H/\∀xs,SqL K H a xs->xs[i]?=some x,λi H=>∃xs,SqL K H a xs/\xs.length<=i⟩
def Itt (K:YD) (a:Addr):It:=
 ⟨λi H=>∃xs x,SqT K H a xs/\xs[i]?=some x,λi H x H'=>H'=H/\∀xs,SqT K H a xs->xs[i]?=some x,λi H=>∃xs,SqT K H a xs/\xs.length<=i⟩
def Itr (lo:Int) (n:Nat):It:=⟨λi _=>i < n,λi H x H'=>H'=H/\x=.int (lo+i),λi _=>n<=i⟩
theorem Uc {P:Program} {w:World} {K:YD} {tg:Expr} (a it:Addr):Turn P w K tg (Itl K a) [it] it (λi h=>h.IsListIter it a i) where
 mem:=by simp
 obj:=λi h st b hb=>by
  have e:b=it:=by simpa using hb
  subst e;obtain⟨o,e,c,d⟩:=st;exact⟨o,e,λv z=>by rw[d] at z;cases z⟩
 keep:=λi h h' st k=>st.at λo e=>k it (by simp) o e
 item:=by
  intro X hP hw hK hc i jb s Z H E I hf st hg;subst hP hw hK;obtain⟨xs,x,hq,hx⟩:=hg;obtain⟨its,rv,p,hz⟩:=I.list hq;obtain⟨u,hu,ru⟩:=rv.get hx;obtain⟨f0,f1,f2,f3,f4,f5⟩:=hf it (by simp);refine wpAny_pyNext_list_item st p.isList (x:=u) (by simpa using hu) λh' st' sb=>?_;have I1:Inv X jb Z H { s with heap:=h' }:=I.turned (t':=s.toks) (λb o hb e=>(sb.2 b hb).trans e) f0 f1 f3 f4 f5;obtain⟨o,e,c,d⟩:=id st';exact⟨u,rq,Oo (s:={ s with heap:=h' }) e c d (by decide) ⟨x,H,I1,ru,⟨rq,λys hy=>by rw[I.IV hy hq];exact hx⟩,st',λb hb=>(hf b hb).1⟩⟩
 done:=by
  intro X hP hw hK hc i jb s Z H E I hf st hg;subst hP hw hK;obtain⟨xs,hq,hx⟩:=hg;obtain⟨its,rv,p,hz⟩:=I.list hq;obtain⟨f0,f1,f2,f3,f4,f5⟩:=hf it (by simp);have hl:=rv.length;exact wpAny_pyNext_list_end (I.ok.hd hc) st p.isList (by simp;omega) λh' eb=>⟨rq,I.turned (t':=s.toks) (λb o hb e=>eb b o hb e) f0 f1 f3 f4 f5⟩
 self:=λ_ _ _ _ _ st h=>wpAny_pyIter_listiter st h
theorem RZ {P:Program} {w:World} {K:YD} {tg:Expr} (a it:Addr):Turn P w K tg (Itt K a) [it] it (λi h=>h.IsTupleIter it a i) where
 mem:=by simp
 obj:=λi h st b hb=>by
  have e:b=it:=by simpa using hb
  subst e;obtain⟨o,e,c,d⟩:=st;exact⟨o,e,λv z=>by rw[d] at z;cases z⟩
 keep:=λi h h' st k=>st.at λo e=>k it (by simp) o e
 item:=by
  intro X hP hw hK hc i jb s Z H E I hf st hg;subst hP hw hK;obtain⟨xs,x,hq,hx⟩:=hg;obtain⟨its,rv,p,hz⟩:=I.tuple hq;obtain⟨u,hu,ru⟩:=rv.get hx;obtain⟨f0,f1,f2,f3,f4,f5⟩:=hf it (by simp);refine wpAny_pyNext_tuple_item st (show s.heap.IsTuple a its.toArray from p) (x:=u) (by simpa using hu) λh' st' sb=>?_
  have I1:Inv X jb Z H { s with heap:=h' }:=I.turned (t':=s.toks) (λb o hb e=>(sb.2 b hb).trans e) f0 f1 f3 f4 f5;obtain⟨o,e,c,d⟩:=id st';exact⟨u,rq,Oo (s:={ s with heap:=h' }) e c d (by decide) ⟨x,H,I1,ru,⟨rq,λys hy=>by rw[I.Ud hy hq];exact hx⟩,st',λb hb=>(hf b hb).1⟩⟩
 done:=by
  intro X hP hw hK hc i jb s Z H E I hf st hg;subst hP hw hK;obtain⟨xs,hq,hx⟩:=hg;obtain⟨its,rv,p,hz⟩:=I.tuple hq;obtain⟨f0,f1,f2,f3,f4,f5⟩:=hf it (by simp);have hl:=rv.length;exact wpAny_pyNext_tuple_end (I.ok.hd hc) st (show s.heap.IsTuple a its.toArray from p) (by simp;omega) λh' eb=>⟨rq,I.turned (t':=s.toks) (λb o hb e=>eb b o hb e) f0 f1 f3 f4 f5⟩
 self:=λ_ _ _ _ _ st h=>wpAny_pyIter_tupleiter st h
theorem Sd {P:Program} {w:World} {K:YD} {tg:Expr} (it:Addr) (lo:Int) (n:Nat):Turn P w K tg (Itr lo n) [it] it (λi h=>IsRangeIter h it (lo+(i:Nat)*1) ((n:Int) - (i:Nat)) 1) where
 mem:=by simp
 obj:=λi h st b hb=>by
  have e:b=it:=by simpa using hb
  subst e;exact⟨_,st,λv z=>by
   have z':Data.fields _=Data.cell v:=z;cases z'⟩
 keep:=λi h h' st k=>k it (by simp) _ st
 item:=by
  intro X hP hw hK hc i jb s Z H E I hf st hg;subst hP hw hK;obtain⟨f0,f1,f2,f3,f4,f5⟩:=hf it (by simp);have W:=Walks.range (prog:=X.prog) (w:=X.w) (I.ok.hd hc) it lo 1 n;refine W.item i s _ _ hg st λv h' tk hv st' kk=>?_;obtain⟨t,rfl⟩:=hv;have I1:Inv X jb Z H { s with heap:=h',toks:=tk }:=I.turned (λb o hb e=>kk b o (by simpa using hb) e) f0 f1 f3 f4 f5;refine⟨_,rq,Oo (s:={ s with heap:=h',toks:=tk }) (n:="range_iterator") st' rfl rfl (by decide) ⟨.int (lo+i),H,I1,⟨t,?_⟩,⟨rq,rq⟩,st',λb hb=>(hf b hb).1⟩⟩;rw[Int.mul_one]
 done:=by
  intro X hP hw hK hc i jb s Z H E I hf st hg;subst hP hw hK;obtain⟨f0,f1,f2,f3,f4,f5⟩:=hf it (by simp);exact wpAny_pyNext_range_end (I.ok.hd hc) st (by have:n<=i:=hg;omega) λh' eb=>⟨rq,I.turned (t':=s.toks) (λb o hb e=>eb b o hb e) f0 f1 f3 f4 f5⟩
 self:=λ_ _ _ _ _ st h=>wpAny_pyIter_rangeiter st h
section
variable {X:Cx} {tg:Expr}
def cL (K:YD) (tl:TE):TI:=fun Z H R=>tl Z H λx H1=>∃a,x=.ref a/\(∃xs,SqL K H1 a xs)/\R (Itl K a) H1
def jz (K:YD) (tl:TE):TI:=fun Z H R=>tl Z H λx H1=>∃a,x=.ref a/\(∃xs,SqT K H1 a xs)/\R (Itt K a) H1
theorem Cw {l:Expr} {tl:TE} (hl:PE X l tl):PI X tg l (cL X.K tl):=by
 intro jb s Z H R I h;refine thn (hl jb s Z H _ I h) λv s1 zz=>?_;obtain⟨x,H1,I1,r1,q1⟩:=zz;obtain⟨a,e,⟨xs,hq⟩,q⟩:=q1;subst e;cases r1;obtain⟨its,rv,p,hz⟩:=I1.list hq;refine Qbg p.isList ?_;refine⟨s1.heap.objs.size,[s1.heap.objs.size],_,_,H1,rq,I1.kept (t':=s1.toks) λb o e=>Qao _ e,Uc a _,⟨_,QaD _ rfl,rq,rq⟩,λb hb=>?_,q⟩;have e:b=s1.heap.objs.size:=by simpa using hb
 subst e;exact I1.M5 (Qcd _) (I1.hok.fresh (Qcd _))
theorem ZL {l:Expr} {tl:TE} (hl:PE X l tl):PI X tg l (jz X.K tl):=by
 intro jb s Z H R I h;refine thn (hl jb s Z H _ I h) λv s1 zz=>?_;obtain⟨x,H1,I1,r1,q1⟩:=zz;obtain⟨a,e,⟨xs,hq⟩,q⟩:=q1;subst e;cases r1;obtain⟨its,rv,p,hz⟩:=I1.tuple hq;refine QaW (show s1.heap.IsTuple a its.toArray from p) ?_
 refine⟨s1.heap.objs.size,[s1.heap.objs.size],_,_,H1,rq,I1.kept (t':=s1.toks) λb o e=>Qao _ e,RZ a _,⟨_,QaD _ rfl,rq,rq⟩,λb hb=>?_,q⟩;have e:b=s1.heap.objs.size:=by simpa using hb
 subst e;exact I1.M5 (Qcd _) (I1.hok.fresh (Qcd _))
theorem Pk {jb:YC} {Z : St} {H:Hp} {s:Shared} {R:It->Hp->Prop} {E:YA} {lo hi:Int} {t u v:Tok} {tk:Nat} (I:Inv X jb Z H s) (h1:-(2 ^ 62)<=lo) (h2:lo < 2 ^ 62) (h3:-(2 ^ 62)<=hi) (h4:hi < 2 ^ 62)
  (q:R (Itr lo (hi - lo).toNat) H):wpAny (model X.prog X.w) X.A (pyIter (.ref s.heap.objs.size)) (PIE X jb Z tg R) E { s with heap:=s.heap.push { cls:=.type "range",data:=.fields #[.int lo t,.int hi u,.int 1 v] },toks:=tk }:=by
 refine wpAny_pyIter_range (IsRange.new ..) (small_one h1 h2 h3 h4) ?_;have I1:Inv X jb Z H { s with heap:=s.heap.push { cls:=.type "range",data:=.fields #[.int lo t,.int hi u,.int 1 v] },toks:=tk }:=I.kept λb o e=>Qao _ e;refine⟨(s.heap.push { cls:=.type "range",data:=.fields #[.int lo t,.int hi u,.int 1 v] }).objs.size,[(s.heap.push { cls:=.type "range",data:=.fields #[.int lo t,.int hi u,.int 1 v] }).objs.size],_,_,H,rq,
  I1.kept (t':=tk) λb o e=>Qao _ e,Sd _ lo (hi - lo).toNat,?_,λb hb=>?_,q⟩
 ·have e1:lo+((0:Nat):Int)*1=lo:=by simp
  have e2:(((hi - lo).toNat:Nat):Int) - ((0:Nat):Int)=Builtin.Range.rangeSize lo hi 1:=by rw[rangeSize_one];split <;> omega
  show IsRangeIter _ _ (lo+((0:Nat):Int)*1) ((((hi - lo).toNat:Nat):Int) - ((0:Nat):Int)) 1;rw[e1,e2];exact QaD _ rfl
 ·have e:b=(s.heap.push { cls:=.type "range",data:=.fields #[.int lo t,.int hi u,.int 1 v] }).objs.size:=by simpa using hb
  subst e;exact I1.M5 (Qcd _) (I1.hok.fresh (Qcd _))
def cJ (ta:TA):TI:=fun Z H R=>ta Z H λvs H1=>∃j:Int,vs=[.int j]/\-(2 ^ 62)<=j/\j < 2 ^ 62/\R (Itr 0 j.toNat) H1
def cI (ta:TA):TI:=fun Z H R=>ta Z H λvs H1=>∃i j:Int,vs=[.int i,.int j]/\(-(2 ^ 62)<=i/\i < 2 ^ 62/\-(2 ^ 62)<=j/\j < 2 ^ 62)/\R (Itr i (j - i).toNat) H1
theorem BW {a:Expr} {ta:TA} {p pos:Pos} (hg:Gl X "range") (hm:X.mg "range"=none) (ha:PA X [a] ta) (hs:starEach [a] X.env=[(false,eval a X.env)]:=by rfl):PI X tg (.Call (.Name "range" p) [a] [] pos) (cJ ta):=by
 intro jb s Z H R I h;refine Call_ (Eu I hg hm boot_range (Qae (thn (ha pos jb s Z H _ I h) λus s1 zz=>?_) hs rfl));obtain⟨vs,H1,I1,r1,q1⟩:=zz;obtain⟨j,e,q1,q2,q⟩:=q1;subst e;cases r1 with
 | cons r rr=>
  cases rr;obtain⟨t,rfl⟩:=r;exact call_range_1 (Pk I1 (by omega) (by omega) q1 q2 (by simpa using q))
theorem Ur {a b:Expr} {ta:TA} {p pos:Pos} (hg:Gl X "range") (hm:X.mg "range"=none) (ha:PA X [a,b] ta) (hs:starEach [a,b] X.env=[(false,eval a X.env),(false,eval b X.env)]:=by rfl) (hs2:starEach [b] X.env=[(false,eval b X.env)]:=by rfl) :
  PI X tg (.Call (.Name "range" p) [a,b] [] pos) (cI ta):=by
 intro jb s Z H R I h;refine Call_ (Eu I hg hm boot_range (Qae (thn (ha pos jb s Z H _ I h) λus s1 zz=>?_) (by rw[hs,hs2]) (by rw[hs2];rfl)));obtain⟨vs,H1,I1,r1,q1⟩:=zz;obtain⟨i,j,e,⟨q1,q2,q3,q4⟩,q⟩:=q1;subst e;cases r1 with
 | cons r rr=>
  cases rr with
  | cons r' rr=>
   cases rr;obtain⟨t,rfl⟩:=r;obtain⟨t',rfl⟩:=r';exact call_range_2 (Pk I1 q1 q2 q3 q4 q)
abbrev YN:=Nat->YO
def Fq (wi:TI) (g:TG) (tb:TS):TS:=λD Z H=>wi Z H λJ H1=>∃W:Nat->YN,(∃m,W 0 m Z H1)/\∀i m Z H,W i m Z H ->
 (J.stop i H/\D.nx Z H)\/(J.go i H/\∃N:YO,(∀ σ' H',N σ' H'->∃m',m' < m/\W (i+1) m' σ' H')/\∀x H',J.yld i H x H'->g x Z H' fun σ2 H2=>tb { D with nx:=N,ct:=N,bk:=D.nx } σ2 H2)
def Jp (fp:List Addr) (h:Heap):YC:=fp.filterMap λb=>(h.get? b).map λo=>(b,o)
theorem Iz {fp:List Addr} {h:Heap} {b:Addr} {o:Obj} (hb:b∈fp) (e:h.get? b=some o):(b,o)∈Jp fp h:=List.mem_filterMap.mpr ⟨b,hb,by rw[e];rfl⟩
theorem U5 {fp:List Addr} {h:Heap} {p:Addr×Obj} (hp:p∈Jp fp h):p.1∈fp/\h.get? p.1=some p.2:=by
 obtain⟨b,hb,e⟩:=List.mem_filterMap.mp hp;cases q:h.get? b with
 | none=>rw[q] at e;cases e
 | some o=>
  rw[q] at e;have e':(b,o)=p:=Qbx e;subst e';exact⟨hb,q⟩
theorem Inv.pinned {jb:YC} {Z : St} {H:Hp} {s:Shared} {fp:List Addr} (I:Inv X jb Z H s) (hf:∀b∈fp,Gn X jb H b) (ho:∀b∈fp,∃o,s.heap.get? b=some o/\∀v,o.data≠.cell v):Inv X (jb++Jp fp s.heap) Z H s:=
 I.Mt λp hp=>(Qbw.mp hp).elim (λz=>I.pin p (Qas _ z)) λz=>by
  obtain⟨hb,e⟩:=U5 z;obtain⟨f0,f1,f2,_⟩:=hf p.1 hb;obtain⟨o,e',d⟩:=ho p.1 hb;rw[e] at e';cases e';exact⟨e,f0,f1,f2,d⟩
theorem Inv.Hh {jb pl:YC} {Z : St} {H:Hp} {s:Shared} (I:Inv X (jb++pl) Z H s):Inv X jb Z H s:=I.Mt λp hp=>I.pin p (Qas _ (Qay _ hp))
theorem CZ {iter:Expr} {body:List Stmt} {wi:TI} {g:TG} {tb:TS} {pos:Pos} (hp:PassesOwn (model X.prog X.w) X.A X.env X.xe) (hc:X.calm=true) (hi:PI X tg iter wi) (hg:PG X tg g) (hb:PSs X body tb)
  (hs:∀x,foldedSetIterable iter X.env x=pure x:=by intro _;rfl):PS X (.For tg iter body [] pos) (Fq wi g tb):=by
 intro jb s Z H D I h;refine wpAny_For (thn (hi jb s Z H _ I h) λv s1 h1=>thn h1 λitv s2 h2=>?_) hs;obtain⟨it,fp,tn,J,H2,e,I2,T,st2,f2,W,⟨m0,w0⟩,turn⟩:=h2;subst e;have stat:∀{H':Hp},(∀b∈fp,H' b=none)->∀b∈fp,Gn X jb H' b:=λhn b hb=>⟨hn b hb,(f2 b hb).2⟩;refine codeAny_forLoop_any (λn s'=>∃i σ' H',Inv X jb σ' H' s'/\tn i s'.heap/\(∀b∈fp,H' b=none)/\W i n σ' H') ?_ m0 ⟨0,Z,H2,I2,st2,λb hb=>(f2 b hb).1,w0⟩;rintro n s3 ⟨i,σ3,H3,I3,st3,fr3,w3⟩;rcases turn i n σ3 H3 w3 with⟨stop,qn⟩|⟨go,N,hN,step⟩
 ·refine wpAny_passesOwn hp (thn (T.done X rfl rfl rfl hc i jb s3 σ3 H3 X.xe I3 (stat fr3) st3 stop) λr s4 zz=>?_);obtain⟨hr,I4⟩:=zz;subst hr;exact wpAny_execs_nil ⟨σ3,H3,I4,qn⟩
 ·refine wpAny_passesOwn hp (thn (T.item X rfl rfl rfl hc i jb s3 σ3 H3 X.xe I3 (stat fr3) st3 go) λr s4 zz=>?_);obtain⟨u,hr,h4⟩:=zz;subst hr;refine wpAny_passesOwn hp (thn h4 λ_ s5 zz=>?_);obtain⟨x,H5,I5,r5,y5,st5,fr5⟩:=zz;have I5':=I5.pinned (stat fr5) (T.obj _ _ st5);refine wpAny_passesOwn hp (thn (hg _ s5 σ3 H5 x u _ I5' r5 (step x H5 y5)) λ_ s6 zz=>?_);obtain⟨σ6,H6,I6,q6⟩:=zz;refine wpAny_passesOwn hp (thn (hb _ s6 σ6 H6 _ I6 q6) λf s7 q7=>?_);have again:∀{σ7:St} {H7:Hp},Inv X (jb++Jp fp s5.heap) σ7 H7 s7->N σ7 H7->∃m,m < n/\∃i σ' H',Inv X jb σ' H' s7/\tn i s7.heap/\(∀b∈fp,H' b=none)/\W i m σ' H':=λ{σ7 H7} I7 n7=>by
   obtain⟨m',hm,w7⟩:=hN σ7 H7 n7;refine⟨m',hm,i+1,σ7,H7,I7.Hh,T.keep _ _ _ st5 λb hb o e=>(I7.pin (b,o) (Qas _ (Qas _ (Iz hb e)))).1,λb hb=>?_,w7⟩;obtain⟨o,e,d⟩:=T.obj _ _ st5 b hb;exact (I7.pin (b,o) (Qas _ (Qas _ (Iz hb e)))).2.1
  cases f with
  | next=>obtain⟨σ7,H7,I7,n7⟩:=q7;exact again I7 n7
  | cont=>obtain⟨σ7,H7,I7,n7⟩:=q7;exact again I7 n7
  | brk=>obtain⟨σ7,H7,I7,q7⟩:=q7;exact⟨σ7,H7,I7.Hh,q7⟩
  | ret v=>obtain⟨x7,σ7,H7,I7,r7,q7⟩:=q7;exact⟨x7,σ7,H7,I7.Hh,r7,q7⟩
end
theorem Hw {K:YD} {a:Addr} {xs:YG} {g:TG} {tb:TS} {D:Ends} {Z : St} {H:Hp} (Pv:YN) (h0:Pv 0 Z H) (hl:∀i Z H,i<=xs.length->Pv i Z H->SqL K H a xs)
  (hs:∀i x Z H,xs[i]?=some x->Pv i Z H->g x Z H fun σ2 H2=>tb { D with nx:=Pv (i+1),ct:=Pv (i+1),bk:=D.nx } σ2 H2) (hd:∀ Z H,Pv xs.length Z H->D.nx Z H) :
  ∃W:Nat->YN,(∃m,W 0 m Z H)/\∀i m Z H,W i m Z H ->
   ((Itl K a).stop i H/\D.nx Z H)\/((Itl K a).go i H/\∃N:YO,(∀ σ' H',N σ' H'->∃m',m' < m/\W (i+1) m' σ' H')/\∀x H',(Itl K a).yld i H x H'->g x Z H' fun σ2 H2=>tb { D with nx:=N,ct:=N,bk:=D.nx } σ2 H2):=by
 refine⟨λi m Z H=>m=xs.length - i/\i<=xs.length/\Pv i Z H,⟨xs.length,by simp,Qce _,h0⟩,?_⟩;rintro i m Z H ⟨rfl,hi,p⟩;have q:=hl i Z H hi p;by_cases hlt:i < xs.length
 ·refine .inr ⟨⟨xs,xs[i],q,by simp[hlt]⟩,Pv (i+1),fun σ' H' p'=>⟨xs.length - (i+1),by omega,rq,hlt,p'⟩,λx H' y=>?_⟩;obtain⟨e,y⟩:=y;subst e;exact hs i x Z _ (y xs q) p
 ·have e:i=xs.length:=by omega
  subst e;exact .inl ⟨⟨xs,q,Qcd _⟩,hd Z H p⟩
theorem Dj {lo:Int} {n:Nat} {g:TG} {tb:TS} {D:Ends} {Z : St} {H:Hp} (Pv:YN) (h0:Pv 0 Z H)
  (hs:∀i Z H,i < n->Pv i Z H->g (.int (lo+i)) Z H fun σ2 H2=>tb { D with nx:=Pv (i+1),ct:=Pv (i+1),bk:=D.nx } σ2 H2) (hd:∀ Z H,Pv n Z H->D.nx Z H) :
  ∃W:Nat->YN,(∃m,W 0 m Z H)/\∀i m Z H,W i m Z H ->
   ((Itr lo n).stop i H/\D.nx Z H)\/((Itr lo n).go i H/\∃N:YO,(∀ σ' H',N σ' H'->∃m',m' < m/\W (i+1) m' σ' H')/\∀x H',(Itr lo n).yld i H x H'->g x Z H' fun σ2 H2=>tb { D with nx:=N,ct:=N,bk:=D.nx } σ2 H2):=by
 refine⟨λi m Z H=>m=n - i/\i<=n/\Pv i Z H,⟨n,by simp,Qce _,h0⟩,?_⟩;rintro i m Z H ⟨rfl,hi,p⟩;by_cases hlt:i < n
 ·refine .inr ⟨hlt,Pv (i+1),fun σ' H' p'=>⟨n - (i+1),by omega,rq,hlt,p'⟩,λx H' y=>?_⟩;obtain⟨e,y⟩:=y;subst e y;exact hs i Z _ hlt p
 ·have e:i=n:=by omega
  subst e;exact .inl ⟨Qcd _,hd Z H p⟩
abbrev R2:=V->V->Hp->VK->Prop
def OpR (X:Cx) (f:Value->Value->Sem Value) (r:R2):Prop:=
 ∀(jb:YC) (s:Shared) (Z : St) (H:Hp) (x y:V) (v u:Value) (Q:VK),Inv X jb Z H s->RelV x v->RelV y u->r x y H Q ->
  wpAny (model X.prog X.w) X.A (f v u) (EP X jb Z Q) X.xe s
def UnR (X:Cx) (f:Value->Sem Value) (r:V->Hp->VK->Prop):Prop:=
 ∀(jb:YC) (s:Shared) (Z : St) (H:Hp) (x:V) (v:Value) (Q:VK),Inv X jb Z H s->RelV x v->r x H Q ->
  wpAny (model X.prog X.w) X.A (f v) (EP X jb Z Q) X.xe s
def Ei (X:Cx) (f:Value) (r:YG->Hp->VK->Prop):Prop:=
 ∀(jb:YC) (s:Shared) (Z : St) (H:Hp) (xs:YG) (us:YE) (Q:VK),Inv X jb Z H s->Vals xs us->r xs H Q ->
  wpAny (model X.prog X.w) X.A (call f us) (EP X jb Z Q) X.xe s
def mF (X:Cx) (r:V->Hp->(Bool->Hp->Prop)->Prop):Prop:=
 ∀(jb:YC) (s:Shared) (Z : St) (H:Hp) (x:V) (v:Value) (Q:Bool->Hp->Prop),Inv X jb Z H s->RelV x v->r x H Q ->
  wpAny (model X.prog X.w) X.A (truthy v) (TP X jb Z Q) X.xe s
def tOp (r:R2) (ta tb:TE):TE:=fun Z H Q=>ta Z H λx H1=>tb Z H1 λy H2=>r x y H2 Q
def tUn (r:V->Hp->VK->Prop) (ta:TE):TE:=fun Z H Q=>ta Z H λx H1=>r x H1 Q
def rI (C:Int->Int->Prop) (g:Int->Int->V):R2:=λx y H Q=>∃i j,x=.int i/\y=.int j/\C i j/\Q (g i j) H
def rI0 (g:Int->Int->V):R2:=λx y H Q=>∃i j,x=.int i/\y=.int j/\Q (g i j) H
def rU (g:Int->V):V->Hp->VK->Prop:=λx H Q=>∃i,x=.int i/\Q (g i) H
section
variable {X:Cx} {a b c:Expr} {ta tb tc:TE} {pos:Pos}
theorem Xh (ha:PE X a ta) (hb:PE X b tb) {jb:YC} {s:Shared} {Z : St} {H:Hp} {R:V->V->Hp->Prop} (I:Inv X jb Z H s)
  (h:ta Z H λx H1=>tb Z H1 λy H2=>R x y H2) {Q:YA} {f:Value->Value->Sem Value}
  (hf:∀v u s2 x y H2,Inv X jb Z H2 s2->RelV x v->RelV y u->R x y H2->wpAny (model X.prog X.w) X.A (f v u) Q X.xe s2) :
  wpAny (model X.prog X.w) X.A (eval a X.env) (λv s₁=>wpAny (model X.prog X.w) X.A (eval b X.env) (λu s₂=>wpAny (model X.prog X.w) X.A (f v u) Q X.xe s₂) X.xe s₁) X.xe s:=by
 refine thn (ha jb s Z H _ I h) λv s1 zz=>?_;obtain⟨x,H1,I1,r1,q1⟩:=zz;refine thn (hb jb s1 Z H1 _ I1 q1) λu s2 zz=>?_;obtain⟨y,H2,I2,r2,q2⟩:=zz;exact hf v u s2 x y H2 I2 r1 r2 q2
theorem Ar {op:Operator} {r:R2} (ho:OpR X (binaryOp op) r) (ha:PE X a ta) (hb:PE X b tb):PE X (.BinOp a op b pos) (tOp r ta tb):=by
 intro jb s Z H Q I h;exact wpAny_BinOp (Xh ha hb I h λv u s2 x y H2 I2 rx ry q=>ho jb s2 Z H2 x y v u Q I2 rx ry q)
theorem cu {op:UnaryOp} {r:V->Hp->VK->Prop} (ho:UnR X (unaryOp op) r) (ha:PE X a ta):PE X (.UnaryOp op a pos) (tUn r ta):=by
 intro jb s Z H Q I h;refine UnaryOp_ (thn (ha jb s Z H _ I h) λv s1 zz=>?_);obtain⟨x,H1,I1,r1,q1⟩:=zz;exact ho jb s1 Z H1 x v Q I1 r1 q1
theorem opI {f:Value->Value->Sem Value} {C:Int->Int->Prop} {g:Int->Int->Int}
  (rule:∀(i j:Int) (t u:Tok) (s:Shared) (Q:YA) (E:YA),C i j->Q (.int (g i j) s.toks) { s with toks:=s.toks+1 }->wpAny (model X.prog X.w) X.A (f (.int i t) (.int j u)) Q E s) :
  OpR X f (rI C λi j=>.int (g i j)):=by
 intro jb s Z H x y v u Q I rx ry h;obtain⟨i,j,rfl,rfl,hc,q⟩:=h;obtain⟨t,rfl⟩:=rx;obtain⟨t',rfl⟩:=ry;exact rule i j t t' s _ _ hc ⟨.int (g i j),H,I.tok _,⟨_,rq⟩,q⟩
theorem ZV {f:Value->Value->Sem Value} {g:Int->Int->Int}
  (rule:∀(i j:Int) (t u:Tok) (s:Shared) (Q:YA) (E:YA),Q (.int (g i j) s.toks) { s with toks:=s.toks+1 }->wpAny (model X.prog X.w) X.A (f (.int i t) (.int j u)) Q E s) :
  OpR X f (rI0 λi j=>.int (g i j)):=by
 intro jb s Z H x y v u Q I rx ry h;obtain⟨i,j,rfl,rfl,q⟩:=h;obtain⟨t,rfl⟩:=rx;obtain⟨t',rfl⟩:=ry;exact rule i j t t' s _ _ ⟨.int (g i j),H,I.tok _,⟨_,rq⟩,q⟩
theorem Te {f:Value->Value->Sem Value} {g:Int->Int->Bool}
  (rule:∀(i j:Int) (t u:Tok) (s:Shared) (Q:YA) (E:YA),Q (.bool (g i j)) s->wpAny (model X.prog X.w) X.A (f (.int i t) (.int j u)) Q E s) :
  OpR X f (rI0 λi j=>.bl (g i j)):=by
 intro jb s Z H x y v u Q I rx ry h;obtain⟨i,j,rfl,rfl,q⟩:=h;obtain⟨t,rfl⟩:=rx;obtain⟨t',rfl⟩:=ry;exact rule i j t t' s _ _ ⟨.bl (g i j),H,I,rq,q⟩
def mJ (i j:Int):Prop:=0 < j/\j < 1073741824
def mH (i j:Int):Prop:=0<=j/\j<=1000000/\i.natAbs < 2 ^ 64
def Ub (i j:Int):Prop:=(-(2 ^ 64) < i/\i < 2 ^ 64)\/(-(2 ^ 64) < j/\j < 2 ^ 64)
theorem Ub.ok {i j:Int} (h:Ub i j):IntMulOk i j:=by
 rcases h with⟨h1,h2⟩|⟨h1,h2⟩
 ·exact .of_left (intBits_le_64 h1 h2)
 ·exact .of_right (intBits_le_64 h1 h2)
theorem Cv:OpR X (binaryOp .Add) (rI0 λi j=>.int (i+j)):=ZV λ_ _ _ _ _ _ _ q=>add_int q
theorem Ln:OpR X (binaryOp .Sub) (rI0 λi j=>.int (i - j)):=ZV λ_ _ _ _ _ _ _ q=>sub_int q
theorem Es:OpR X (binaryOp .Mult) (rI Ub λi j=>.int (i*j)):=opI λ_ _ _ _ _ _ _ hc q=>mul_int q hc.ok
theorem Mw:OpR X (binaryOp .FloorDiv) (rI mJ λi j=>.int (i / j)):=opI λi j _ _ _ _ _ hc q=>by
 have h1:(0:Int) < j:=hc.1;have h2:j < 1073741824:=hc.2;exact floordiv_int (by omega) (by rw[Int.fdiv_eq_ediv_of_nonneg i (by omega)];exact q) (.inl (PyProof.noPylong_small (by omega)))
theorem Et:OpR X (binaryOp .Mod) (rI (λ_ j=>0 < j) λi j=>.int (i % j)):=opI λi j _ _ _ _ _ hc q=>by
 have h1:(0:Int) < j:=hc;exact mod_int' (by omega) (by rw[Int.fmod_eq_emod_of_nonneg i (by omega)];exact q)
theorem Ux:OpR X (binaryOp .Pow) (rI mH λi j=>.int (i ^ j.toNat)):=opI λ_ _ _ _ _ _ _ hc q=>pow_int_small hc.1 hc.2.1 hc.2.2 q
theorem unI {f:Value->Sem Value} {g:Int->Int}
  (rule:∀(i:Int) (t:Tok) (s:Shared) (Q:YA) (E:YA),Q (.int (g i) s.toks) { s with toks:=s.toks+1 }->wpAny (model X.prog X.w) X.A (f (.int i t)) Q E s) :
  UnR X f (rU λi=>.int (g i)):=by
 intro jb s Z H x v Q I rx h;obtain⟨i,rfl,q⟩:=h;obtain⟨t,rfl⟩:=rx;exact rule i t s _ _ ⟨.int (g i),H,I.tok _,⟨_,rq⟩,q⟩
theorem Zk:UnR X (unaryOp .USub) (rU λi=>.int (-i)):=unI λ_ _ _ _ _ q=>neg_int q
end
def Zy:V->V->Bool
 | .non,.non=>true | .non,.int _=>true | .int _,.non=>true | .non,.bl _=>true | .bl _,.non=>true | .non,.str _=>true | .str _,.non=>true
 | .int _,.int _=>true | .bl _,.bl _=>true | .str _,.str _=>true | .byt _,.byt _=>true
 | .int _,.str _=>true | .str _,.int _=>true | .bl _,.str _=>true | .str _,.bl _=>true
 | _,_=>false
def rEq:R2:=λx y H Q=>Zy x y=true/\Q (.bl (decide (x=y))) H
def rNe:R2:=λx y H Q=>Zy x y=true/\Q (.bl (!decide (x=y))) H
theorem RN {i j:Int}:decide (V.int i=V.int j)=(i == j):=by
 rw[QbA];simp
theorem Vy {i j:Bool}:decide (V.bl i=V.bl j)=(i == j):=by
 rw[QbA];simp
theorem RM {i j:Str}:decide (V.str i=V.str j)=(i == j):=by
 rw[QbA];simp
theorem RP {i j:Array UInt8}:decide (V.byt i=V.byt j)=(i.toList == j.toList):=by
 rw[QbA];cases i;cases j;simp
section
variable {X:Cx} {a b c:Expr} {ta tb tc:TE} {pos:Pos}
theorem Bf {jb:YC} {Z : St} {H:Hp} {s:Shared} {Q:VK} {k k':Bool} (I:Inv X jb Z H s) (q:Q (.bl k) H) (e:k=k'):EP X jb Z Q (.bool k') s:=by
 subst e;exact⟨.bl k,H,I,rq,q⟩
theorem G7:OpR X (compareOp .Eq) rEq:=by
 intro jb s Z H x y v u Q I rx ry h;obtain⟨hs,q⟩:=h;cases x with
 | non=>
  cases rx;cases y with
  | non=>cases ry;exact PySem.EqNone.eq_none_none (Bf I q (by simp))
  | bl j=>cases ry;exact PySem.EqNone.eq_none_bool (Bf I q (by simp))
  | int j=>obtain⟨t',rfl⟩:=ry;exact PySem.EqNone.eq_none_int (Bf I q (by simp))
  | str j=>obtain⟨t',rfl⟩:=ry;exact PySem.EqNone.eq_none_str (Bf I q (by simp))
  | _=>exact absurd (show false=true from hs) QaK
 | bl i=>
  cases rx;cases y with
  | non=>cases ry;exact PySem.EqNone.eq_bool_none (Bf I q (by simp))
  | bl j=>cases ry;exact eq_bool (Bf I q Vy)
  | str j=>obtain⟨t',rfl⟩:=ry;exact PySem.EqMixed.eq_bool_str (Bf I q (by simp))
  | _=>exact absurd (show false=true from hs) QaK
 | int i=>
  obtain⟨t,rfl⟩:=rx;cases y with
  | non=>cases ry;exact PySem.EqNone.eq_int_none (Bf I q (by simp))
  | int j=>obtain⟨t',rfl⟩:=ry;exact eq_int (Bf I q RN)
  | str j=>obtain⟨t',rfl⟩:=ry;exact PySem.EqMixed.eq_int_str (Bf I q (by simp))
  | _=>exact absurd (show false=true from hs) QaK
 | str i=>
  obtain⟨t,rfl⟩:=rx;cases y with
  | non=>cases ry;exact PySem.EqNone.eq_str_none (Bf I q (by simp))
  | bl j=>cases ry;exact PySem.EqMixed.eq_str_bool (Bf I q (by simp))
  | int j=>obtain⟨t',rfl⟩:=ry;exact PySem.EqMixed.eq_str_int (Bf I q (by simp))
  | str j=>obtain⟨t',rfl⟩:=ry;exact eq_str (Bf I q RM)
  | _=>exact absurd (show false=true from hs) QaK
 | byt i=>
  obtain⟨t,rfl⟩:=rx;cases y with
  | byt j=>obtain⟨t',rfl⟩:=ry;exact PySem.W.eq_bytes (Bf I q RP)
  | _=>exact absurd (show false=true from hs) QaK
 | _=>cases y <;> exact absurd (show false=true from hs) QaK
theorem Xz:OpR X (compareOp .NotEq) rNe:=by
 intro jb s Z H x y v u Q I rx ry h;obtain⟨hs,q⟩:=h;cases x with
 | non=>
  cases rx;cases y with
  | non=>cases ry;exact PySem.EqNone.ne_none_none (Bf I q (by simp))
  | bl j=>cases ry;exact PySem.EqNone.ne_none_bool (Bf I q (by simp))
  | int j=>obtain⟨t',rfl⟩:=ry;exact PySem.EqNone.ne_none_int (Bf I q (by simp))
  | str j=>obtain⟨t',rfl⟩:=ry;exact PySem.EqNone.ne_none_str (Bf I q (by simp))
  | _=>exact absurd (show false=true from hs) QaK
 | bl i=>
  cases rx;cases y with
  | non=>cases ry;exact PySem.EqNone.ne_bool_none (Bf I q (by simp))
  | bl j=>cases ry;exact ne_bool (Bf I q (congrArg not Vy))
  | str j=>obtain⟨t',rfl⟩:=ry;exact PySem.EqMixed.ne_bool_str (Bf I q (by simp))
  | _=>exact absurd (show false=true from hs) QaK
 | int i=>
  obtain⟨t,rfl⟩:=rx;cases y with
  | non=>cases ry;exact PySem.EqNone.ne_int_none (Bf I q (by simp))
  | int j=>obtain⟨t',rfl⟩:=ry;exact ne_int (Bf I q (congrArg not RN))
  | str j=>obtain⟨t',rfl⟩:=ry;exact PySem.EqMixed.ne_int_str (Bf I q (by simp))
  | _=>exact absurd (show false=true from hs) QaK
 | str i=>
  obtain⟨t,rfl⟩:=rx;cases y with
  | non=>cases ry;exact PySem.EqNone.ne_str_none (Bf I q (by simp))
  | bl j=>cases ry;exact PySem.EqMixed.ne_str_bool (Bf I q (by simp))
  | int j=>obtain⟨t',rfl⟩:=ry;exact PySem.EqMixed.ne_str_int (Bf I q (by simp))
  | str j=>obtain⟨t',rfl⟩:=ry;exact ne_str (Bf I q (congrArg not RM))
  | _=>exact absurd (show false=true from hs) QaK
 | byt i=>
  obtain⟨t,rfl⟩:=rx;cases y with
  | byt j=>obtain⟨t',rfl⟩:=ry;exact PySem.W.ne_bytes (Bf I q (congrArg not RP))
  | _=>exact absurd (show false=true from hs) QaK
 | _=>cases y <;> exact absurd (show false=true from hs) QaK
theorem JN:OpR X (compareOp .Lt) (rI0 λi j=>.bl (decide (i < j))):=Te λ_ _ _ _ _ _ _ q=>lt_int q
theorem JQ:OpR X (compareOp .LtE) (rI0 λi j=>.bl (decide (i<=j))):=Te λ_ _ _ _ _ _ _ q=>le_int q
theorem cA:OpR X (compareOp .Gt) (rI0 λi j=>.bl (decide (j < i))):=Te λ_ _ _ _ _ _ _ q=>gt_int q
theorem cB:OpR X (compareOp .GtE) (rI0 λi j=>.bl (decide (j<=i))):=Te λ_ _ _ _ _ _ _ q=>ge_int q
theorem Uy:OpR X (compareOp .In) (λx y H Q=>∃i j,x=.str i/\y=.str j/\Q (.bl (!(Builtin.Str.occurrences j i 0 j.length 1).isEmpty)) H):=by
 intro jb s Z H x y v u Q I rx ry h;obtain⟨i,j,rfl,rfl,q⟩:=h;obtain⟨t,rfl⟩:=rx;obtain⟨t',rfl⟩:=ry;exact in_str (Bf I q rfl)
theorem Bo (b:Expr) {op:CmpOp} (h:op≠.In:=by decide) (h2:op≠.NotIn:=by decide):behindInMarks op b=false:=by
 have e1:(op == CmpOp.In)=false:=by cases op <;> first | rfl | exact absurd rfl h
 have e2:(op == CmpOp.NotIn)=false:=by cases op <;> first | rfl | exact absurd rfl h2
 cases b <;> simp[behindInMarks,e1,e2]
theorem Hg {op:CmpOp} {r:R2} (ho:OpR X (compareOp op) r) (ha:PE X a ta) (hb:PE X b tb) (hm:behindInMarks op b=false):PE X (.Compare a [op] [b] pos) (tOp r ta tb):=by
 intro jb s Z H Q I h;exact wpAny_Compare1 (Xh ha hb I h λv u s2 x y H2 I2 rx ry q=>ho jb s2 Z H2 x y v u Q I2 rx ry q) hm
def Xu (t:TE):TT:=fun Z H Q=>t Z H λx H'=>∃k,x=.bl k/\Q k H'
theorem Bw {op:CmpOp} {r:R2} (ho:OpR X (compareOp op) r) (ha:PE X a ta) (hb:PE X b tb) (hm:behindInMarks op b=false):PT X (.Compare a [op] [b] pos) (Xu (tOp r ta tb)):=by
 intro jb s Z H Q I h;refine wpAny_isTrue_Compare1 (thn (ha jb s Z H _ I h) λv s1 ⟨x,H1,I1,r1,q1⟩=>thn (hb jb s1 Z H1 _ I1 q1) λu s2 ⟨y,H2,I2,r2,q2⟩=>
  thn (ho jb s2 Z H2 x y v u _ I2 r1 r2 q2) λc s3 ⟨z,H3,I3,r3,k,e,q3⟩=>?_) hm
 subst e;cases r3;exact Qbc ⟨H3,I3,q3⟩
def Uh (r r':R2) (ta tb tc:TE):TE:=fun Z H Q=>ta Z H λx H1=>tb Z H1 λy H2=>r x y H2 λz H3=>∃k,z=.bl k /\
 (if k=true then tc Z H3 λw' H4=>r' y w' H4 Q else Q (.bl false) H3)
theorem Wn {op op':CmpOp} {r r':R2} (ho:OpR X (compareOp op) r) (ho':OpR X (compareOp op') r') (ha:PE X a ta) (hb:PE X b tb) (hc:PE X c tc)
  (hm:lastMarks [op,op'] [b,c]=false:=by with_unfolding_all rfl):PE X (.Compare a [op,op'] [b,c] pos) (Uh r r' ta tb tc):=by
 intro jb s Z H Q I h;refine Compare_chain (thn (ha jb s Z H _ I h) λv s1 ⟨x,H1,I1,r1,q1⟩=>chain_link (thn (hb jb s1 Z H1 _ I1 q1) λu s2 ⟨y,H2,I2,r2,q2⟩=>
  thn (ho jb s2 Z H2 x y v u _ I2 r1 r2 q2) λd s3 ⟨z,H3,I3,r3,k,e,q3⟩=>?_)) hm
 subst e;cases r3;refine Qbc ?_;cases k with
 | false=>exact ite_ff ⟨.bl false,H3,I3,rfl,q3⟩
 | true=>exact ite_tt (chain_last (thn (hc jb s3 Z H3 _ I3 q3) λw' s4 ⟨z',H4,I4,r4,q4⟩=>ho' jb s4 Z H4 y z' u w' Q I4 r2 r4 q4))
theorem Pn {op op':CmpOp} {r r':R2} (ho:OpR X (compareOp op) r) (ho':OpR X (compareOp op') r') (ha:PE X a ta) (hb:PE X b tb) (hc:PE X c tc)
  (hm:lastMarks [op,op'] [b,c]=false:=by with_unfolding_all rfl):PT X (.Compare a [op,op'] [b,c] pos) (Xu (Uh r r' ta tb tc)):=by
 intro jb s Z H Q I h;refine isTrue_chain (thn (ha jb s Z H _ I h) λv s1 ⟨x,H1,I1,r1,q1⟩=>test_link (thn (hb jb s1 Z H1 _ I1 q1) λu s2 ⟨y,H2,I2,r2,q2⟩=>
  thn (ho jb s2 Z H2 x y v u _ I2 r1 r2 q2) λd s3 ⟨z,H3,I3,r3,k,e,q3⟩=>?_)) hm
 subst e;cases r3;refine Qbc ?_;cases k with
 | false=>
  obtain⟨k',e',q'⟩:=q3;cases e';exact ite_ff ⟨H3,I3,q'⟩
 | true=>
  refine ite_tt (test_last (thn (hc jb s3 Z H3 _ I3 q3) λw' s4 zz=>?_));obtain⟨z',H4,I4,r4,q4⟩:=zz;refine thn (ho' jb s4 Z H4 y z' u w' _ I4 r2 r4 q4) λd' s5 zz=>?_;obtain⟨z2,H5,I5,r5,k2,e2,q5⟩:=zz;subst e2;cases r5;exact Qbc ⟨H5,I5,q5⟩
def bH (K:YD) (x:V) (H:Hp) (k:Bool):Prop:=
 match x with
 | .non=>k=false
 | .bl b=>k=b
 | .int i=>k=(i != 0)
 | .str y=>y.length<=sizeLine/\k=((y.length:Int) != 0)
 | .byt y=>y.size<=sizeLine/\k=((y.size:Int) != 0)
 | .ref p=>(∃xs,SqL K H p xs/\k=!xs.isEmpty)\/(∃xs,SqT K H p xs/\k=!xs.isEmpty)\/∃kvs,H p=some (.dK kvs)/\k=!kvs.isEmpty
 | _=>False
theorem Tv {κ : Type} {kvs:List (κ×V)} {vs:List (κ×Value)} (r:KV kvs vs):(!vs.isEmpty)=!kvs.isEmpty:=by
 cases r <;> rfl
theorem Ly {xs:YG} {its:YE} (r:Vals xs its):(!its.toArray.isEmpty)=!xs.isEmpty:=by
 cases r <;> simp
theorem Ht:(sizeLine:Nat) < 2 ^ 63:=by rw[sizeLine_eq];decide
theorem Zn:mF X (λx H Q=>∃k,bH X.K x H k/\Q k H):=by
 intro jb s Z H x v Q I rx h;obtain⟨k,e,q⟩:=h;have hl:=Ht;have hs:sizeLine=16777216:=sizeLine_eq;cases x with
 | non=>
  cases rx;have e':k=false:=e;subst e';exact truthy_none ⟨H,I,q⟩
 | bl b=>
  cases rx;have e':k=b:=e;subst e';exact Qbc ⟨H,I,q⟩
 | int i=>
  obtain⟨t,rfl⟩:=rx;have e':k=(i != 0):=e;subst e';exact PySem.P.truthy_int ⟨H,I,q⟩
 | str y=>
  obtain⟨t,rfl⟩:=rx;obtain⟨hy,e'⟩ : y.length<=sizeLine/\k=((y.length:Int) != 0):=e;subst e';exact PySem.P.truthy_str (by omega) ⟨H,I.tok _,q⟩
 | byt y=>
  obtain⟨t,rfl⟩:=rx;obtain⟨hy,e'⟩ : y.size<=sizeLine/\k=((y.size:Int) != 0):=e;subst e';exact PySem.W.truthy_bytes (by omega) ⟨H,I.tok _,q⟩
 | ref p=>
  cases rx;have e':(∃xs,SqL X.K H p xs/\k=!xs.isEmpty)\/(∃xs,SqT X.K H p xs/\k=!xs.isEmpty)\/∃kvs,H p=some (.dK kvs)/\k=!kvs.isEmpty:=e;rcases e' with⟨xs,hx,e'⟩|⟨xs,hx,e'⟩|⟨kvs,hx,e'⟩
  ·subst e';obtain⟨its,r,pl,hz⟩:=I.list hx;have hlen:=r.length;exact wpAny_truthy_list pl.isList (by simp only[QaZ];omega) ⟨H,I.tok _,by rw[Ly r];exact q⟩
  ·subst e';obtain⟨its,r,pl,hz⟩:=I.tuple hx;have hlen:=r.length;exact truthy_tuple pl (by simp only[QaZ];omega) ⟨H,I.tok _,by rw[Ly r];exact q⟩
  ·subst e';obtain⟨hz,hS,vs,r,m⟩ : kvs.length<=sizeLine/\(p == sysModules)=false/\∃vs,KV kvs vs/\s.heap.DictOf (Cg X.prog X.w) p vs:=I.hok p _ hx;have hlen:kvs.length=vs.length:=QbO r;exact wpAny_truthy_dict hS m (by omega) ⟨H,I.tok _,by rw[Tv r];exact q⟩
 | _=>exact (show False from e).elim
theorem Wj (ha:PE X a ta) (he:∀whole,isTrue a X.env whole=(do let v <-whole;standAt a.pos;holding [v] (truthy v))) :
  PT X a (fun Z H Q=>ta Z H λx H'=>∃k,bH X.K x H' k/\Q k H'):=by
 intro jb s Z H Q I h;refine isTrue_plain (thn (ha jb s Z H _ I h) λv s1 zz=>?_) (he _);obtain⟨x,H1,I1,r1,q1⟩:=zz;exact Zn jb s1 Z H1 x v Q I1 r1 q1
theorem Td:OpR X (binaryOp .Add) (λx y H Q=>∃i j,x=.str i/\y=.str j/\i.length+j.length<=sizeLine/\Q (.str (i++j)) H):=by
 intro jb s Z H x y v u Q I rx ry h;obtain⟨i,j,rfl,rfl,hz,q⟩:=h;obtain⟨t,rfl⟩:=rx;obtain⟨t',rfl⟩:=ry;exact add_str (λt' tk=>⟨.str (i++j),H,I.tok _,⟨_,rq⟩,q⟩) hz
theorem vals1 {x:V} {us:YE} (r:Vals [x] us):∃u,us=[u]/\RelV x u:=by
 cases r with
 | cons r1 r2=>cases r2;exact⟨_,rfl,r1⟩
theorem vals2 {x y:V} {us:YE} (r:Vals [x,y] us):∃u w',us=[u,w']/\RelV x u/\RelV y w':=by
 cases r with
 | cons r1 r2=>
  cases r2 with
  | cons r3 r4=>cases r4;exact⟨_,_,rfl,r1,r3⟩
theorem QC:Ei X (.builtin "abs") (λxs H Q=>∃i,xs=[.int i]/\Q (.int (if i < 0 then -i else i)) H):=by
 intro jb s Z H xs us Q I r h;obtain⟨i,rfl,q⟩:=h;obtain⟨u,rfl,t,rfl⟩:=vals1 r;exact call_abs_int λu tk=>⟨.int (if i < 0 then -i else i),H,I.tok _,⟨_,rq⟩,q⟩
theorem VH (hc:X.calm=true):Ei X (.builtin "max") (λxs H Q=>∃i j,xs=[.int i,.int j]/\Q (.int (if j > i then j else i)) H):=by
 intro jb s Z H xs us Q I r h;obtain⟨i,j,rfl,q⟩:=h;obtain⟨u,w',rfl,⟨t,rfl⟩,⟨t',rfl⟩⟩:=vals2 r;refine max_two_ints (I.ok.hd hc) λh' tk k=>⟨_,H,I.kept k,?_,q⟩;by_cases hj:j > i
 ·rw[if_pos hj,if_pos hj];exact⟨_,rq⟩
 ·rw[if_neg hj,if_neg hj];exact⟨_,rq⟩
theorem Nt (hc:X.calm=true):Ei X (.builtin "min") (λxs H Q=>∃i j,xs=[.int i,.int j]/\Q (.int (if j < i then j else i)) H):=by
 intro jb s Z H xs us Q I r h;obtain⟨i,j,rfl,q⟩:=h;obtain⟨u,w',rfl,⟨t,rfl⟩,⟨t',rfl⟩⟩:=vals2 r;refine min_two_ints (I.ok.hd hc) λh' tk k=>⟨_,H,I.kept k,?_,q⟩;by_cases hj:j < i
 ·rw[if_pos hj,if_pos hj];exact⟨_,rq⟩
 ·rw[if_neg hj,if_neg hj];exact⟨_,rq⟩
theorem VJ:Ei X (.type "int") (λxs H Q=>(∃i,xs=[.int i]/\Q (.int i) H)\/∃k,xs=[.bl k]/\Q (.int (if k then 1 else 0)) H):=by
 intro jb s Z H xs us Q I r h;rcases h with⟨i,rfl,q⟩|⟨k,rfl,q⟩
 ·obtain⟨u,rfl,t,rfl⟩:=vals1 r;exact call_int_int ⟨.int i,H,I,⟨_,rq⟩,q⟩
 ·obtain⟨u,rfl,r1⟩:=vals1 r;cases r1;exact call_int_bool ⟨.int (if k then 1 else 0),H,I.tok _,⟨_,rq⟩,q⟩
end
structure K3 (h:Heap) (x dx C:Addr) (mA:YB):Prop where
 obj:h.get? x=some (instObj C dx)
 ns:h.Ns1 dx mA
 ne:dx≠x
theorem U9 {h:Heap} {dx:Addr} {mA:YB} (n:h.Ns1 dx mA):∃od,h.get? dx=some od/\∀name,lookIn name od=some (mA name):=by
 obtain⟨o,es,ep,ho,hd,hk,_,hm⟩:=n;refine⟨o,ho,λname=>?_⟩;have e:=hm name;unfold nsFind findBy at e;rw[<-Array.find?_toList] at e;unfold lookIn;rw[hd];dsimp only;split
 ·rename_i y q;rw[q] at e;exact congrArg some e
 ·rename_i q;rw[q] at e;have a:es.toList.any (·.refKey)=false:=by
   rw[List.any_eq_false];intro y hy;obtain⟨z,t,hkey⟩:=hk y (Array.mem_toList_iff.mp hy);simp[DictEntry.refKey,hkey]
  have a':¬es.toList.any (·.refKey)=true:=by rw[a];exact QaK
  rw[if_neg a'];exact congrArg some e
theorem K3.look {h:Heap} {x dx C:Addr} {mA:YB} (I:K3 h x dx C mA):∃od,PySem.W.InstAt h x (instObj C dx) C (some od)/\∀name,lookIn name od=some (mA name):=
 let ⟨od,ho,hl⟩:=U9 I.ns
 ⟨od,⟨I.obj,rq,rq,ho⟩,hl⟩
section
variable {prog:Program} {w:World} {A:Around} {E:YA} {s:Shared} {K:YD} {x dx C f:Addr} {mA:YB} {name:Str} {v:Value}
theorem get_map {expr:Bool} {Q:YA} (X:K.In s.heap) (I:K3 s.heap x dx C mA) (hg:plainGet K C name=true) (hh:hasDictIn K C=true)
  (ha:findIn K (.ref C) name=some none) (hv:mA name=some v) (hv':PySem.W.handedIn v=true) (h:Q v { s with toks:=s.toks+1 }) :
  wpAny (model prog w) A (getAttr (.ref x) name expr) Q E s:=by
 obtain⟨od,J,hl⟩:=I.look;exact PySem.W.get_value X J (PySem.W.plainGet_of hg).1 (PySem.W.findObj_own hh ha rfl (by rw[hl,hv])) hv' h
theorem WW {pl:Sem Bool} {Q:Value×YE->Shared->Prop} (X:K.In s.heap) (I:K3 s.heap x dx C mA) (hg:plainGet K C name=true)
  (hf:findIn K (.ref C) name=some (some (.ref f))) (ht:isFn K (.ref f)=true) (hv:mA name=none) (h:Q (.ref f,[.ref x]) s) :
  wpAny (model prog w) A (getMethod (.ref x) name pl) Q E s:=by
 obtain⟨od,J,hl⟩:=I.look;exact PySem.W.method_fn X J (PySem.W.plainGet_of hg).1 (PySem.W.plainGet_of hg).2 hf (beq_iff_eq.mp ht) (by show (lookIn name od).map (·.isSome)=some false;rw[hl,hv];rfl) h
theorem Yc {ns:YF} {Q:YH} (X:K.In s.heap) (I:K3 s.heap x dx C mA)
  (hs:findIn K (.ref C) "__setattr__"=some (some (.builtin "object.__setattr__"))) (hp:PySem.W.plainOver K C=true) (ht:PySem.W.takerIn K C name=some none) (hh:hasDictIn K C=true)
  (hw:PySem.Within mA ns) (hsz:ns.length<=sizeLine)
  (h:∀h',K3 h' x dx C (λy=>if y=name then some v else mA y)->Heap.SameBut dx s.heap h'->Q () { s with heap:=h',toks:=s.toks+2 }) :
  wpAny (model prog w) A (setAttr (.ref x) name v) Q E s:=by
 obtain⟨od,J,hl⟩:=I.look;refine PySem.W.set_plain X J hs (PySem.W.osa_open (s:={ s with toks:=s.toks+1 }) (r:=none) X J hp ht λb=>?_);obtain⟨cd,hc,hd'⟩:=PySem.W.any_some hh;have hx:s.heap.get? x=some ⟨.ref C,some dx,.plain,#[]⟩:=I.obj;refine Qcg (Qch (Qcg (Qcg (wpAny_loadPart hx (Qcg (PySem.W.Looks.here (s:={ s with toks:=s.toks+1 }) (PySem.W.looks_clsIn X hc) ?_))))));rw[hd'];refine Qch (a:=some dx) (Qcg (Qch (Qcg ?_)));refine wpAny_nsSet1 (s:={ s with toks:=s.toks+1 }) I.ns λh' hn2 hs2=>?_;obtain⟨oD,esD,epD,hoD,hdD,hcD⟩:=hn2.count (PySem.Within.cons name v hw);refine Qcg (wpAny_lookBehind hoD (by rw[hdD];exact pastItsLine_dict (QbW hcD (by rw[Qbm];omega))) ?_);exact Qch (h _ ⟨(hs2.2 _ (Ne.symm I.ne)).trans I.obj,hn2,I.ne⟩ hs2)
theorem Wy {R:Result->Shared->Prop} {vs:YE} {kw:List (Str×Value)} (X:K.In s.heap) (hm:PySem.W.makesIn K C=true)
  (hi:findIn K (.ref C) "__init__"=some (some (.ref f))) (hf:PySem.W.typeIn K (.ref f)=some (.type "function"))
  (h:codeAny (model prog w) (A.under (.builtin "type.__call__" ⟨.ref C::vs,kw⟩)) (.call (.ref f) ⟨.ref (s.heap.objs.size+1)::vs,kw⟩) (PySem.W.InitBack (s.heap.objs.size+1) R)
   { s with heap:=(s.heap.push emptyDict).push (instObj C s.heap.objs.size) }) :
  codeAny (model prog w) A (.call (.ref C) ⟨vs,kw⟩) R s:=by
 obtain⟨hh,g,d,t,os⟩:=s;exact PySem.W.make_core (PySem.W.makes_of X hm) (PySem.W.looks_findIn X hi) (λself=>PySem.W.bind_fn X self hf) (.inl rfl) h
end
def Dp (f:Str) (v:V):List (Str×V)->List (Str×V)
 | []=>[(f,v)]
 | (g,x)::r=>if g=f then (g,v)::r else (g,x)::Dp f v r
theorem Kg (f g:Str) (v:V):∀fs:List (Str×V),(Dp f v fs).lookup g=if g=f then some v else fs.lookup g
 | []=>by
  show List.lookup g [(f,v)]=_;by_cases h:g=f
  ·have hb:(g == f)=true:=beq_iff_eq.mpr h;simp only[List.lookup,hb,if_pos h]
  ·have hb:(g == f)=false:=QaE.mpr h;simp only[List.lookup,hb,if_neg h]
 | (k,x)::r=>by
  have ih:=Kg f g v r;rw[show Dp f v ((k,x)::r)=(if k=f then (k,v)::r else (k,x)::Dp f v r) from rfl]
  by_cases hk:k=f
  ·rw[if_pos hk];by_cases h:g=k
   ·have hb:(g == k)=true:=beq_iff_eq.mpr h;simp only[List.lookup,hb,if_pos (h.trans hk)]
   ·have hb:(g == k)=false:=QaE.mpr h;simp only[List.lookup,hb,if_neg (λe:g=f=>h (e.trans hk.symm))]
  ·rw[if_neg hk];by_cases h:g=k
   ·have hb:(g == k)=true:=beq_iff_eq.mpr h;simp only[List.lookup,hb,if_neg (λe:g=f=>hk (h.symm.trans e))]
   ·have hb:(g == k)=false:=QaE.mpr h;simp only[List.lookup,hb];exact ih
theorem Ju (f:Str) (v:V):∀fs:List (Str×V),f∈(Dp f v fs).map (·.1)/\∀g,g∈fs.map (·.1)->g∈(Dp f v fs).map (·.1)
 | []=>⟨by simp[Dp],λg h=>by simp at h⟩
 | (k,x)::r=>by
  obtain⟨i1,i2⟩:=Ju f v r;rw[show Dp f v ((k,x)::r)=(if k=f then (k,v)::r else (k,x)::Dp f v r) from rfl]
  by_cases hk:k=f
  ·rw[if_pos hk];subst hk;exact⟨by simp,λg h=>by simpa using h⟩
  ·rw[if_neg hk];refine⟨?_,λg h=>?_⟩
   ·rw[QbP];exact Qax _ i1
   ·rw[QbP] at h ⊢;rcases QbN.mp h with e | e
    ·exact QbN.mpr (.inl e)
    ·exact Qax _ (i2 g e)
theorem Kl (f:Str) (v:V):∀fs:List (Str×V),(Dp f v fs).length<=fs.length+1
 | []=>by simp[Dp]
 | (k,x)::r=>by
  have ih:=Kl f v r;rw[show Dp f v ((k,x)::r)=(if k=f then (k,v)::r else (k,x)::Dp f v r) from rfl]
  by_cases hk:k=f
  ·rw[if_pos hk,Qbm,Qbm];omega
  ·rw[if_neg hk,Qbm,Qbm];omega
theorem Fx.some_of {v:V} {o:Option Value} (r:Fx (some v) o):∃u,o=some u/\RelV v u:=by
 cases o with
 | none=>exact (show False from r).elim
 | some u=>exact⟨u,rfl,r⟩
theorem Fx.none_of {o:Option Value} (r:Fx none o):o=none:=by
 cases o with
 | none=>rfl
 | some u=>exact (show False from r).elim
theorem Vm {v:V} {u:Value} (r:RelV v u):PySem.W.handedIn u=true:=by
 cases v with
 | non=>cases (show u=Value.none from r);rfl
 | bl b=>cases (show u=Value.bool b from r);rfl
 | int i=>obtain⟨t,e⟩:=(show ∃t,u=Value.int i t from r);cases e;rfl
 | str x=>obtain⟨t,e⟩:=(show ∃t,u=Value.str x t from r);cases e;rfl
 | byt b=>obtain⟨t,e⟩:=(show ∃t,u=Value.bytes b t from r);cases e;rfl
 | flt b=>obtain⟨t,e⟩:=(show ∃t,u=Value.float b t from r);cases e;rfl
 | ref a=>cases (show u=Value.ref a from r);rfl
 | ty n=>cases (show u=Value.type n from r);rfl
section
variable {P:Program} {w:World} {H H':Hp} {h h':Heap} {a C dx:Addr} {fs fs':List (Str×V)}
theorem JV (hok:HOk P w H h) (e:H a=some (.ins C dx fs)):∃mA,K3 h a dx C mA/\(∀f,Fx (fs.lookup f) (mA f))/\PySem.Within mA (fs.map (·.1))/\fs.length<=1000/\H dx=some (.own a):=by
 obtain⟨d,z,ne,ob,mA,n,r,q⟩:=(show Bd P w H h a (.ins C dx fs) from hok a _ e)
 exact⟨mA,⟨ob,n,ne⟩,r,q,z,d⟩
end
structure Cls (K:YD) (C:Addr):Prop where
 pg:plainGet K C Str.empty=true
 hd:hasDictIn K C=true
 po:PySem.W.plainOver K C=true
 sa:findIn K (.ref C) "__setattr__"=some (some (.builtin "object.__setattr__"))
theorem Cls.get {K:YD} {C:Addr} (c:Cls K C) (f:Str):plainGet K C f=true:=c.pg
def Gm (K:YD) (C:Addr) (f:Str):Prop:=findIn K (.ref C) f=some none
theorem Gm.taker {K:YD} {C:Addr} {f:Str} (n:Gm K C f):PySem.W.takerIn K C f=some none:=by
 unfold PySem.W.takerIn;rw[show findIn K (.ref C) f=some none from n]
 rfl
structure Meth (K:YD) (C:Addr) (m:Str) (f:Addr):Prop where
 at_:findIn K (.ref C) m=some (some (.ref f))
 fn:isFn K (.ref f)=true
 kp:keepIn K (.ref f)=true
section
variable {X:Cx} {jb:YC} {Z : St} {H:Hp} {s:Shared} {a C dx:Addr} {fs:List (Str×V)} {f:Str} {v:V} {A:Around} {E:YA}
theorem TJ {b:Bool} {Q:YA} (I:Inv X jb Z H s) (e:H a=some (.ins C dx fs)) (c:Cls X.K C) (n:Gm X.K C f) (l:fs.lookup f=some v)
  (h:∀u s',Inv X jb Z H s'->RelV v u->Q u s'):wpAny (model X.prog X.w) A (getAttr (.ref a) f b) Q E s:=by
 obtain⟨mA,O,r,_,_,_⟩:=JV I.hok e;obtain⟨u,hu,ru⟩:=Fx.some_of (v:=v) (o:=mA f) (by rw[<-l];exact r f);exact get_map I.kIn O (c.get f) c.hd n hu (Vm ru) (h u _ (I.tok _) ru)
theorem Jc {m:Str} {g:Addr} {pl:Sem Bool} {Q:Value×YE->Shared->Prop} (I:Inv X jb Z H s) (e:H a=some (.ins C dx fs)) (c:Cls X.K C) (k:Meth X.K C m g) (l:fs.lookup m=none)
  (h:Q (.ref g,[.ref a]) s):wpAny (model X.prog X.w) A (getMethod (.ref a) m pl) Q E s:=by
 obtain⟨mA,O,r,_,_,_⟩:=JV I.hok e;have hn:mA m=none:=Fx.none_of (by rw[<-l];exact r m);exact WW I.kIn O (c.get m) k.at_ k.fn hn h
theorem Sv {y:V} {u:Value} {Q:YH} (I:Inv X jb Z H s) (e:H a=some (.ins C dx fs)) (c:Cls X.K C) (n:Gm X.K C f) (hl:fs.length < 1000) (ry:RelV y u)
  (h:∀s',Inv X jb Z (upd H a (.ins C dx (Dp f y fs))) s'->Q () s'):wpAny (model X.prog X.w) A (setAttr (.ref a) f u) Q E s:=by
 obtain⟨mA,O,r,wi,_,ho⟩:=JV I.hok e;have hz:(fs.map (·.1)).length<=sizeLine:=by rw[Qbu,sizeLine_eq];omega
 refine Yc I.kIn O c.sa c.po n.taker c.hd wi hz λh' O' sb=>h _ ?_;have hd:∃o,h'.get? dx=some o:=let ⟨o,_,_,e',_⟩:=O'.ns;⟨o,e'⟩;refine I.write (x:=a) (e:=dx) (by rw[e];exact True.intro) (.inr ho) (λb q hb z=>(sb.2 b hb).trans z) hd ?_;refine⟨by rw[Al O.ne];exact ho,?_,O.ne,O'.obj,_,O'.ns,λg=>?_,λg hg=>?_⟩
 ·have:=Kl f y fs;omega
 ·show Fx ((Dp f y fs).lookup g) (if g=f then some u else mA g)
  rw[Kg];by_cases q:g=f
  ·rw[if_pos q,if_pos q];exact ry
  ·rw[if_neg q,if_neg q];exact r g
 ·by_cases q:g=f
  ·rw[q];exact (Ju f y fs).1
  ·refine (Ju f y fs).2 g (wi g λz=>hg ?_);show (if g=f then some u else mA g)=none
   rw[if_neg q];exact z
theorem Inv.made (I:Inv X jb Z H s):Inv X jb Z (upd (upd H s.heap.objs.size (.own (s.heap.objs.size+1))) (s.heap.objs.size+1) (.ins C s.heap.objs.size []))
  { s with heap:=(s.heap.push emptyDict).push (instObj C s.heap.objs.size) }:=by
 have e1:(s.heap.push emptyDict).get? s.heap.objs.size=some emptyDict:=QaD s.heap rfl;have e2:((s.heap.push emptyDict).push (instObj C s.heap.objs.size)).get? (s.heap.objs.size+1)=some (instObj C s.heap.objs.size):=by
  have:=QaD (s.heap.push emptyDict) (o:=instObj C s.heap.objs.size) rfl
  rwa [QbL] at this
 have e3:(s.heap.push emptyDict).Ns s.heap.objs.size (λ_=>none):=⟨emptyDict,#[],_,e1,rq,(λe he=>absurd he (by simp)),λ_=>rfl⟩;have I1:=I.laid (a:=s.heap.objs.size) (o:=.own (s.heap.objs.size+1)) (h':=s.heap.push emptyDict) (t':=s.toks) (λb u q=>Qao _ q) (Qcd _) ⟨_,e1⟩;refine I1.laid (a:=s.heap.objs.size+1) (o:=.ins C s.heap.objs.size []) (t':=s.toks) (λb u q=>Qao _ q) (Nat.le_of_eq (QbL _ _)) ?_;have ne:s.heap.objs.size≠s.heap.objs.size+1:=QbV (Qbq _);refine⟨by rw[Al ne,Ac],Qce _,ne,e2,λ_=>none,(Heap.Ns1.of_empty e3).at λo q=>Qao _ q,λ_=>True.intro,λy hy=>absurd rfl hy⟩
theorem Ze {prog:Program} {w:World} {env:Env} {e:Expr} {f:Str} {pos:Pos} {s:Shared} {Q:YA} (hb:attributeBase e f env (eval e env)=eval e env)
  (h:wpAny (model prog w) A (eval e env) (λo s₁=>wpAny (model prog w) A (getAttr o f true) Q E s₁) E s):wpAny (model prog w) A (eval (.Attribute e f pos) env) Q E s:=
 Attribute_any_ h (by rw[arm_eval_Attribute,hb])
end
def Zu (K:YD) (ta:TE) (f:Str):TE:=fun Z H Q=>ta Z H λx H1=>∃a C dx fs v,x=.ref a/\H1 a=some (.ins C dx fs)/\Cls K C/\Gm K C f/\fs.lookup f=some v/\Q v H1
section
variable {X:Cx} {o e value:Expr} {f:Str} {pos pos' tpos:Pos} {ta tv:TE}
theorem Eo (he:PE X e ta) (hb:attributeBase e f X.env (eval e X.env)=eval e X.env):PE X (.Attribute e f pos) (Zu X.K ta f):=by
 intro jb s Z H Q I h;refine Ze hb (thn (he jb s Z H _ I h) λu s1 zz=>?_);obtain⟨x,H1,I1,rx,a,C,dx,fs,v,ex,ea,c,n,l,q⟩:=zz;subst ex;obtain rfl:u=Value.ref a:=rx;exact TJ I1 ea c n l λu' s2 I2 ru=>⟨v,H1,I2,ru,q⟩
theorem bN {pl:Sem Bool} {m:Str} {apos:Pos} {args:YJ} {jb:YC} {s:Shared} {Z : St} {H:Hp} {Q:YA} {te:TE} (he:PE X e te) (I:Inv X jb Z H s)
  (h:te Z H λx H1=>∃a C dx fs g,x=.ref a/\H1 a=some (.ins C dx fs)/\Cls X.K C/\Meth X.K C m g/\fs.lookup m=none /\
   ∀s1,Inv X jb Z H1 s1->wpAny (model X.prog X.w) X.A (callWith pos (.ref g) [.ref a] (backTo pos (starEach args X.env)) (backToKw pos (keywordEach [] X.env))) Q X.xe s1)
  (ht:eval (.Call (.Attribute e m apos) args [] pos) X.env=(do
   let ov <-eval e X.env
   standAt apos.atName
   let (f,first) <-holding [ov] (getMethod ov m pl)
   callWith pos f first (backTo pos (starEach args X.env)) (backToKw pos (keywordEach [] X.env)))) :
  wpAny (model X.prog X.w) X.A (eval (.Call (.Attribute e m apos) args [] pos) X.env) Q X.xe s:=by
 refine PySem.W.methodCall_KW (pl:=pl) (thn (he jb s Z H _ I h) λu s1 zz=>?_) ht;obtain⟨x,H1,I1,rx,a,C,dx,fs,g,ex,ea,c,k,l,q⟩:=zz;subst ex;obtain rfl:u=Value.ref a:=rx;exact Jc I1 ea c k l (q s1 I1)
end
section
variable {X:Cx} {jb:YC} {Z : St} {H:Hp} {s:Shared} {A:Around} {E:YA} {Q:YA} {c:Value} {b:Bool}
inductive Gy (K:YD) (H:Hp):V->Value->Prop where
 | non:Gy K H .non (.type "NoneType")
 | bl (x:Bool):Gy K H (.bl x) (.type "bool")
 | int (i:Int):Gy K H (.int i) (.type "int")
 | str (x:Str):Gy K H (.str x) (.type "str")
 | flt (x:UInt64):Gy K H (.flt x) (.type "float")
 | lst {a:Addr} {xs:YG} (e:H a=some (.lst xs)):Gy K H (.ref a) (.type "list")
 | frz {a:Addr} {o:Obj} {xs:YG} (e:H a=some (.frz o (.lst xs))):Gy K H (.ref a) (.type "list")
 | tup {a:Addr} {xs:YG} (e:H a=some (.tup xs)):Gy K H (.ref a) (.type "tuple")
 | dK {a:Addr} {kvs:List (Key×V)} (e:H a=some (.dK kvs)):Gy K H (.ref a) (.type "dict")
 | dT {a:Addr} {kvs:List (List Key×V)} (e:H a=some (.dT kvs)):Gy K H (.ref a) (.type "dict")
 | ins {a C dx:Addr} {fs:List (Str×V)} (e:H a=some (.ins C dx fs)) (cl:Cls K C) (ha:findIn K (.ref C) "__class__"=some (some (.builtin "object.__class__")))
   (hn:PySem.W.specialIn K (.builtin "object.__class__") "__get__"=some (some (.builtin "getset_descriptor.__get__"))) (htk:PySem.W.takesIn K (.builtin "object.__class__")=some true)
   (hm:PySem.W.mroIn K C (.type "object")=some true):Gy K H (.ref a) (.ref C)
theorem Vg {x:V} {u t:Value} (I:Inv X jb Z H s) (rx:RelV x u) (ty:Gy X.K H x t) (e:kitOne X.K t c=some b) (h:∀tk,Q (.bool b) { s with toks:=tk }) :
  wpAny (model X.prog X.w) A (call (.builtin "isinstance") [u,c]) Q E s:=by
 cases ty with
 | non=>cases (show u=Value.none from rx);exact kia_one PySem.W.kitx_none I.kIn True.intro e (λz=>nomatch z) h
 | bl y=>cases (show u=Value.bool y from rx);exact kia_one PySem.W.kitx_bool I.kIn True.intro e (λz=>nomatch z) h
 | int i=>obtain⟨t,q⟩:=(show ∃t,u=Value.int i t from rx);cases q;exact kia_one PySem.W.kitx_int I.kIn True.intro e (λz=>nomatch z) h
 | str y=>obtain⟨t,q⟩:=(show ∃t,u=Value.str y t from rx);cases q;exact kia_one PySem.W.kitx_str I.kIn True.intro e (λz=>nomatch z) h
 | flt y=>obtain⟨t,q⟩:=(show ∃t,u=Value.float y t from rx);cases q;exact kia_one PySem.W.kitx_float I.kIn True.intro e (λz=>nomatch z) h
 | @lst a xs ea=>
  cases (show u=Value.ref a from rx)
  obtain⟨_,_,n,_,h1⟩:=(show Bd X.prog X.w H s.heap a (.lst xs) from I.hok a _ ea)
  exact kia_one PySem.W.kitx_list I.kIn ⟨_,h1,rq⟩ e (λz=>nomatch z) h
 | @frz a ob xs ea=>
  cases (show u=Value.ref a from rx)
  obtain⟨_,_,_,n,_,h1⟩:=(show Bd X.prog X.w H s.heap a (.frz ob (.lst xs)) from I.hok a _ ea)
  exact kia_one PySem.W.kitx_list I.kIn ⟨_,h1,rq⟩ e (λz=>nomatch z) h
 | @tup a xs ea=>
  cases (show u=Value.ref a from rx)
  obtain⟨_,_,_,p⟩:=(show Bd X.prog X.w H s.heap a (.tup xs) from I.hok a _ ea)
  obtain⟨o,h1,h2,_⟩:=p;exact kia_one PySem.W.kitx_tuple I.kIn ⟨o,h1,h2⟩ e (λz=>nomatch z) h
 | @dK a kvs ea=>
  cases (show u=Value.ref a from rx)
  obtain⟨_,_,vs,_,p⟩:=(show Bd X.prog X.w H s.heap a (.dK kvs) from I.hok a _ ea)
  obtain⟨o,es,ep,h1,h2,_⟩:=p;exact kia_one PySem.W.kitx_dict I.kIn ⟨o,h1,h2.1⟩ e (λz=>nomatch z) h
 | @dT a kvs ea=>
  cases (show u=Value.ref a from rx)
  obtain⟨_,_,xs,_,o,es,ep,h1,h2,_⟩:=(show Bd X.prog X.w H s.heap a (.dT kvs) from I.hok a _ ea)
  exact kia_one PySem.W.kitx_dict I.kIn ⟨o,h1,h2.1⟩ e (λz=>nomatch z) h
 | @ins a C dx fs ea cl ha hn htk hm=>
  cases (show u=Value.ref a from rx)
  obtain⟨mA,O,_⟩:=JV I.hok ea;obtain⟨od,J,_⟩:=O.look;exact kia_one (PySem.W.kitx_own (cl.get _) cl.hd ha hn htk hm) I.kIn J e (λz=>nomatch z) h
end
structure Bk (k:Nat) (A:Around):Prop where
 hd:A.handled=none
 dp:A.depth+3*k+5 < recursionLimit
 un:A.units+16*k+200 < cLine
theorem Bk.mono {j k:Nat} {A:Around} (r:Bk k A) (h:j<=k):Bk j A:=⟨r.hd,by have:=r.dp;omega,by have:=r.un;omega⟩
theorem Bk.deeper {k:Nat} {A:Around} (r:Bk (k+1) A) (env:Env):Bk k (A.deeper env):=
 ⟨r.hd,by have:=r.dp;show A.depth+1+3*k+5 < _;omega,by have:=r.un;show A.units+3+16*k+200 < _;omega⟩
theorem Bk.in1 {k:Nat} {A:Around} (r:Bk (k+1) A):Bk k A.in1:=
 ⟨r.hd,by have:=r.dp;show A.depth+3*k+5 < _;omega,by have:=r.un;show A.units+1+16*k+200 < _;omega⟩
theorem Tr {A:Around} {C:Addr} {us:YE} {kw:List (Str×Value)}:(A.under (.builtin "type.__call__" ⟨.ref C::us,kw⟩)).depth=A.depth+1:=by
 first | rfl | simp[Around.under,Code.weight,Code.isCreation,Code.isGuard,Code.isCaller,Code.frames,Code.isFrame,guardIds]
theorem Tq {A:Around} {C:Addr} {us:YE} {kw:List (Str×Value)}:(A.under (.builtin "type.__call__" ⟨.ref C::us,kw⟩)).units=A.units+1:=by
 first | rfl | simp[Around.under,Code.cUnits,Code.frames,Code.isFrame]
theorem Bk.make {k:Nat} {A:Around} (r:Bk (k+1) A) (C:Addr) (us:YE) (kw:List (Str×Value)):Bk k (A.under (.builtin "type.__call__" ⟨.ref C::us,kw⟩)):=
 ⟨r.hd,by have:=r.dp;rw[Tr];omega,by have:=r.un;rw[Tq];omega⟩
theorem Bk.depth {k:Nat} {A:Around} (r:Bk k A):A.depth < recursionLimit:=by have:=r.dp;omega
theorem Bk.units {k:Nat} {A:Around} (r:Bk k A):A.units+64 < cLine:=by have:=r.un;omega
def G4:TA:=λ_ H Q=>Q [] H
def DP (ta:TE) (tr:TA):TA:=fun Z H Q=>ta Z H λx H1=>tr Z H1 λxs H2=>Q (x::xs) H2
section
variable {X:Cx} {e:Expr} {es:YJ} {te:TE} {t:TA} {pos:Pos}
theorem Ab:PA X [] G4:=λ_ _ _ _ H Q I h=>Calls.spliced_nil ⟨[],H,I,.nil,h⟩
theorem Aa (ha:PE X e te) (hr:PA X es t) (hs:starEach (e::es) X.env=(false,eval e X.env)::starEach es X.env:=by rfl):PA X (e::es) (DP te t):=by
 intro pos jb s Z H Q I h;rw[hs];show wpAny _ _ (spliced ((false,eval e X.env)::backTo pos (starEach es X.env))) _ _ s;refine QaX (thn (ha jb s Z H _ I h) λu s1 zz=>?_);obtain⟨x,H1,I1,r1,q1⟩:=zz;refine thn (hr pos jb s1 Z H1 _ I1 q1) λus s2 zz=>?_;obtain⟨xs,H2,I2,r2,q2⟩:=zz;exact⟨x::xs,H2,I2,.cons r1 r2,q2⟩
def dF (t:TA):TE:=fun Z H Q=>t Z H λxs H1=>xs.length<=sizeLine/\∀p,H1 p=none->Q (.ref p) (upd H1 p (.tup xs))
def dI (t:TA):TE:=fun Z H Q=>t Z H λxs H1=>xs.length<=sizeLine/\∀p,H1 p=none->Q (.ref p) (upd H1 p (.lst xs))
theorem Jq {x1} (h:PA X es t):PE X (.Tuple es x1 pos) (dF t):=by
 intro jb s Z H Q I hq;refine wpAny_Tuple_spliced (thn (h pos jb s Z H _ I hq) λus s1 zz=>?_);obtain⟨xs,H1,I1,r,z,q⟩:=zz;refine⟨by rw[<-r.length];exact z,?_⟩;have hf:H1 s1.heap.objs.size=none:=I1.hok.fresh (Qcd _);refine⟨.ref s1.heap.objs.size,upd H1 s1.heap.objs.size (.tup xs),I1.laid (t':=s1.toks) (λb u e=>Qao _ e) (Qcd _) ?_,rq,q _ hf⟩;exact⟨z,us,r,⟨_,QaD _ rfl,rq,_,rq⟩⟩
theorem Gb (h:PA X es t):PE X (.List es pos) (dI t):=by
 intro jb s Z H Q I hq;refine wpAny_List_spliced (thn (h pos jb s Z H _ I hq) λus s1 zz=>?_);obtain⟨xs,H1,I1,r,z,q⟩:=zz;refine⟨by rw[<-r.length];exact z,?_⟩;have hf:H1 s1.heap.objs.size=none:=I1.hok.fresh (Qcd _);refine⟨.ref s1.heap.objs.size,upd H1 s1.heap.objs.size (.lst xs),I1.laid (t':=s1.toks) (λb u e=>Qao _ e) (Qcd _) ?_,rq,q _ hf⟩;exact⟨z,us,0,r,QaD _ rfl⟩
end
abbrev Sp:=YG->Hp->VK->XK->Prop
abbrev CXT:=List Env->Hp->Shared->XK->YA
structure Ih (P:Program) (w:World) (K:YD) (mg:YB) (base:Heap) (A:Around) (outer:List Env) (s:Shared) (H:Hp):Prop where
 frames:A.frames=some outer
 mod:Mod K mg base
 bs:∀b o,base.get? b=some o->s.heap.get? b=some o/\H b=none
 bsz:base.objs.size<=s.heap.objs.size
 Gh:s.heap.FunFrames base outer
 frf:∀b∈frs outer,H b=none
 hok:HOk P w H s.heap
 bare:AllBare s.gens
def CE (outer:List Env) (P:Program) (w:World) (H:Hp) (s:Shared) (Q:VK) (u:Value) (s':Shared):Prop:=
 ∃v H',s'.os=s.os/\AllBare s'.gens/\Un (frs outer) [] H H' s.heap s'.heap/\HOk P w H' s'.heap/\RelV v u/\Q v H'
def CR (CX:CXT) (outer:List Env) (P:Program) (w:World) (H:Hp) (s:Shared) (Q:VK) (E:XK) (r:Result) (s':Shared):Prop:=
 match r with
 | .ok (.ret u)=>CE outer P w H s Q u s'
 | .ok _=>False
 | .error e=>CX outer H s E e s'
structure DK (P:Program) (w:World) (K:YD) (mg:YB) (base:Heap) (CX:CXT) (k:Nat) (f:Addr) (fd:FuncData) (ps:YF) (sp:Sp):Prop where
 len:∀vs H Q E,sp vs H Q E->vs.length=ps.length
 run:∀(A:Around) (outer:List Env) (s:Shared) (H:Hp) (args:Args) (us:YE) (vs:YG) (Q:VK) (E:XK),Bk k A->Ih P w K mg base A outer s H->BindsTo s fd args (ps.zip us)->Vals vs us->sp vs H Q E ->
  codeAny (model P w) A (.call (.ref f) args) (CR CX outer P w H s Q E) s
theorem DK.imp {P:Program} {w:World} {K:YD} {mg:YB} {base:Heap} {CX:CXT} {k:Nat} {f:Addr} {fd:FuncData} {ps:YF} {sp sp':Sp} (F:DK P w K mg base CX k f fd ps sp)
  (h:∀vs H Q E,sp' vs H Q E->sp vs H Q E):DK P w K mg base CX k f fd ps sp':=
 ⟨λvs H Q E q=>F.len vs H Q E (h _ _ _ _ q),λA outer s H args us vs Q E hr he hb hv hs=>F.run A outer s H args us vs Q E hr he hb hv (h _ _ _ _ hs)⟩
theorem Ih.make {P:Program} {w:World} {K:YD} {mg:YB} {base:Heap} {A:Around} {outer:List Env} {s:Shared} {H:Hp} (e:Ih P w K mg base A outer s H) (C:Addr) (us:YE) (kw:List (Str×Value)) :
  Ih P w K mg base (A.under (.builtin "type.__call__" ⟨.ref C::us,kw⟩)) outer s H:=⟨by first | exact e.frames | (simpa [Around.under,Code.envs,Code.isFrame,pushEnvs] using e.frames),e.mod,e.bs,e.bsz,e.Gh,e.frf,e.hok,e.bare⟩
theorem Ih.in1 {P:Program} {w:World} {K:YD} {mg:YB} {base:Heap} {A:Around} {outer:List Env} {s:Shared} {H:Hp} (e:Ih P w K mg base A outer s H) :
  Ih P w K mg base A.in1 outer s H:=⟨e.frames,e.mod,e.bs,e.bsz,e.Gh,e.frf,e.hok,e.bare⟩
section
variable {X:Cx} {jb:YC} {Z : St} {H:Hp} {s s':Shared}
theorem Inv.env0 (I:Inv X jb Z H s):Ih X.prog X.w X.K X.mg X.base X.A X.stack s H:=
 ⟨I.ok.frames,I.ok.mod,I.bs,QbW I.ok.bsz I.sz,I.stack,I.Rq,I.hok,I.bare⟩
theorem Inv.after {Q:VK} {u:Value} (I:Inv X jb Z H s) (h:CE X.stack X.prog X.w H s Q u s'):EP X jb Z Q u s':=by
 obtain⟨v,H',os,bare,un,hok,r,q⟩:=h;obtain⟨hh,g,d,t,os'⟩:=s';obtain rfl:os'=s.os:=os;exact⟨v,H',I.call (h':=hh) (g':=g) (d':=d) (t':=t) (ch:=[]) un hok bare (λb z=>absurd z (by simp)),r,q⟩
end
def Od (sp:Sp) (dvs:YG) (E:XK) (t:TA):TE:=fun Z H Q=>t Z H λvs H1=>sp (vs++dvs) H1 Q E
def Oc (C:Addr) (m:Str) (sp:Sp) (dvs:YG) (E:XK) (ta:TE) (t:TA):TE:=fun Z H Q=>ta Z H λx H1=>∃a dx fs,x=.ref a/\H1 a=some (.ins C dx fs)/\fs.lookup m=none /\
 t Z H1 λvs H2=>sp (x::(vs++dvs)) H2 Q E
def Xv (C:Addr) (sp:Sp) (dvs:YG) (E:XK) (t:TA):TE:=fun Z H Q=>t Z H λvs H1=>∀x dx,H1 x=none->H1 dx=none->dx≠x ->
 sp (.ref x::(vs++dvs)) (upd (upd H1 dx (.own x)) x (.ins C dx [])) (λv H2=>v=.non/\Q (.ref x) H2) E
def Binds (K:YD) (fd:FuncData) (ps:YF) (ds:YE):Prop:=
 ∀(s:Shared) (us:YE),K.In s.heap->(us++ds).length=ps.length->BindsTo s fd ⟨us,[]⟩ (ps.zip (us++ds))
theorem Binds.all {K:YD} {fd:FuncData} {ps:YF} (h:∀us:YE,us.length=ps.length->bindArgs fd ⟨us,[]⟩=pure (ps.zip us)):Binds K fd ps []:=λs us _ hl=>by
 rw[QbE] at hl ⊢;exact .of_eq (h us hl)
def Passes (CX:CXT) (X:Cx) (E:XK):Prop:=∀(jb:YC) (Z : St) (H:Hp) (s:Shared) (e:Value) (s':Shared),Inv X jb Z H s->CX X.stack H s E e s'->X.xe e s'
section
variable {X:Cx} {CX:CXT} {k:Nat} {f C:Addr} {fd:FuncData} {ps:YF} {sp:Sp} {dvs:YG} {ds:YE} {E:XK} {x m:Str} {p pos apos:Pos} {e o:Expr} {es:YJ} {ta:TE} {t:TA}
theorem Le {jb:YC} {Z : St} {H:Hp} {s:Shared} {Q:VK} {us:YE} {vs:YG} (F:DK X.prog X.w X.K X.mg X.base CX k f fd ps sp) (hr:Bk k X.A) (hb:Binds X.K fd ps ds) (hd:Vals dvs ds) (hx:Passes CX X E)
  (I:Inv X jb Z H s) (r:Vals vs us) (h:sp (vs++dvs) H Q E):wpAny (model X.prog X.w) X.A (call (.ref f) us) (EP X jb Z Q) X.xe s:=by
 have r2:Vals (vs++dvs) (us++ds):=r.append hd;have hl:(us++ds).length=ps.length:=by rw[<-r2.length];exact F.len _ _ _ _ h
 refine wpAny_call (codeAny_mono (F.run X.A X.stack s H ⟨us,[]⟩ (us++ds) (vs++dvs) Q E hr I.env0 (hb s us I.kIn hl) r2 h) λr s' hq=>?_);cases r with
 | error e=>exact hx jb Z H s e s' I hq
 | ok fl=>
  cases fl with
  | ret u=>exact I.after hq
  | next=>exact False.elim hq
  | brk=>exact False.elim hq
  | cont=>exact False.elim hq
theorem Yt (F:DK X.prog X.w X.K X.mg X.base CX k f fd ps sp) (hr:Bk k X.A) (hg:Gl X x) (hm:X.mg x=some (.ref f)) (hk:keepIn X.K (.ref f)=true) (hb:Binds X.K fd ps ds) (hd:Vals dvs ds) (hx:Passes CX X E)
  (ha:PA X (e::es) t) (hdb:(x == ("__debug__":Str))=false:=by decide) (he:starEach (e::es) X.env=(false,eval e X.env)::starEach es X.env:=by rfl) (hpl:(backTo pos (starEach es X.env)).any (·.1)=false:=by rfl) :
  PE X (.Call (.Name x p) (e::es) [] pos) (Od sp dvs E t):=by
 intro jb s Z H Q I h;refine QaS (JR I hg hm ?_ hdb);refine PySem.W.callWith_K (h₀:=X.base) I.ok.mod.kin hk (thn (ha pos jb s Z H _ I h) λus s1 zz=>?_) he hpl;obtain⟨vs,H1,I1,r,q⟩:=zz;refine⟨I1.kIn,?_⟩;exact Le F hr hb hd hx I1 r q
theorem Wo (F:DK X.prog X.w X.K X.mg X.base CX k f fd ps sp) (hr:Bk k X.A) (hg:Gl X x) (hm:X.mg x=some (.ref f)) (hk:keepIn X.K (.ref f)=true) (hb:Binds X.K fd ps ds) (hd:Vals dvs ds) (hx:Passes CX X E)
  (hdb:(x == ("__debug__":Str))=false:=by decide):PE X (.Call (.Name x p) [] [] pos) (Od sp dvs E G4):=by
 intro jb s Z H Q I h;refine QaS (JR I hg hm ?_ hdb);exact PySem.W.callWith_K0 I.kIn hk (Le (us:=[]) F hr hb hd hx I .nil h)
theorem Yo {pl:Sem Bool} (he:PE X o ta) (c:Cls X.K C) (hm:Meth X.K C m f) (F:DK X.prog X.w X.K X.mg X.base CX k f fd ps sp) (hr:Bk k X.A) (hb:Binds X.K fd ps ds) (hd:Vals dvs ds) (hx:Passes CX X E) (ha:PA X (e::es) t)
  (hst:starEach (e::es) X.env=(false,eval e X.env)::starEach es X.env:=by rfl) (hpl:(backTo pos (starEach es X.env)).any (·.1)=false:=by rfl)
  (ht:eval (.Call (.Attribute o m apos) (e::es) [] pos) X.env=(do
   let ov <-eval o X.env
   standAt apos.atName
   let (f,first) <-holding [ov] (getMethod ov m pl)
   callWith pos f first (backTo pos (starEach (e::es) X.env)) (backToKw pos (keywordEach [] X.env))):=by rfl) :
  PE X (.Call (.Attribute o m apos) (e::es) [] pos) (Oc C m sp dvs E ta t):=by
 intro jb s Z H Q I h;refine PySem.W.methodCall_KW (pl:=pl) (thn (he jb s Z H _ I h) λu s1 zz=>?_) ht;obtain⟨x,H1,I1,rx,a,dx,fs,ex,ea,l,q⟩:=zz;subst ex;obtain rfl:u=Value.ref a:=rx;refine Jc I1 ea c hm l ?_;refine PySem.W.callWith_K (first:=[.ref a]) (h₀:=X.base) I.ok.mod.kin hm.kp (thn (ha pos jb s1 Z H1 _ I1 q) λus s2 zz=>?_) hst hpl
 obtain⟨vs,H2,I2,r,q2⟩:=zz;refine⟨I2.kIn,?_⟩;exact Le (us:=.ref a::us) (vs:=.ref a::vs) F hr hb hd hx I2 (.cons rfl r) q2
theorem Wm {pl:Sem Bool} (he:PE X o ta) (c:Cls X.K C) (hm:Meth X.K C m f) (F:DK X.prog X.w X.K X.mg X.base CX k f fd ps sp) (hr:Bk k X.A) (hb:Binds X.K fd ps ds) (hd:Vals dvs ds) (hx:Passes CX X E)
  (ht:eval (.Call (.Attribute o m apos) [] [] pos) X.env=(do
   let ov <-eval o X.env
   standAt apos.atName
   let (f,first) <-holding [ov] (getMethod ov m pl)
   callWith pos f first (backTo pos (starEach [] X.env)) (backToKw pos (keywordEach [] X.env))):=by rfl) :
  PE X (.Call (.Attribute o m apos) [] [] pos) (Oc C m sp dvs E ta G4):=by
 intro jb s Z H Q I h;refine PySem.W.methodCall_KW (pl:=pl) (thn (he jb s Z H _ I h) λu s1 zz=>?_) ht;obtain⟨x,H1,I1,rx,a,dx,fs,ex,ea,l,q⟩:=zz;subst ex;obtain rfl:u=Value.ref a:=rx;refine Jc I1 ea c hm l ?_;exact PySem.W.callWith_K0 (first:=[.ref a]) I1.kIn hm.kp (Le (us:=[.ref a]) (vs:=[.ref a]) F hr hb hd hx I1 (.cons rfl .nil) q)
structure Mk (K:YD) (C f:Addr):Prop where
 makes:PySem.W.makesIn K C=true
 init:findIn K (.ref C) "__init__"=some (some (.ref f))
 fn:isFn K (.ref f)=true
 kp:keepIn K (.ref C)=true
theorem Wb {jb:YC} {Z : St} {H:Hp} {s:Shared} {Q:VK} {us:YE} {vs:YG} (M:Mk X.K C f) (F:DK X.prog X.w X.K X.mg X.base CX k f fd ps sp) (hr:Bk (k+1) X.A) (hb:Binds X.K fd ps ds) (hd:Vals dvs ds)
  (hx:Passes CX X E) (I:Inv X jb Z H s) (r:Vals vs us)
  (h:∀x dx,H x=none->H dx=none->dx≠x->sp (.ref x::(vs++dvs)) (upd (upd H dx (.own x)) x (.ins C dx [])) (λv H2=>v=.non/\Q (.ref x) H2) E) :
  wpAny (model X.prog X.w) X.A (call (.ref C) us) (EP X jb Z Q) X.xe s:=by
 have hq:=h (s.heap.objs.size+1) s.heap.objs.size (I.hok.fresh (Nat.le_succ _)) (I.hok.fresh (Qcd _)) (QbV (Qbq _));have I2:=Inv.made (C:=C) I;have r2:Vals (V.ref (s.heap.objs.size+1)::(vs++dvs)) (Value.ref (s.heap.objs.size+1)::(us++ds)):=.cons rfl (r.append hd);have hl:(Value.ref (s.heap.objs.size+1)::us++ds).length=ps.length:=by
  have e:=r2.length;rw[F.len _ _ _ _ hq] at e;exact e.symm
 refine wpAny_call (Wy (f:=f) I.kIn M.makes M.init (beq_iff_eq.mp M.fn) (codeAny_mono (F.run _ X.stack _ _ ⟨Value.ref (s.heap.objs.size+1)::us,[]⟩ (Value.ref (s.heap.objs.size+1)::(us++ds)) _ _ E (hr.make C us [])
  (I2.env0.make C us []) (hb _ (Value.ref (s.heap.objs.size+1)::us) I2.kIn hl) r2 hq) λr s' hq'=>?_))
 cases r with
 | error e=>exact hx jb Z _ _ e s' I2 hq'
 | ok fl=>
  cases fl with
  | ret u=>
   obtain⟨v,H',I3,rv,ev,q3⟩:=I2.after hq';subst ev;exact⟨rv,⟨V.ref (s.heap.objs.size+1),H',I3,rq,q3⟩⟩
  | next=>exact False.elim hq'
  | brk=>exact False.elim hq'
  | cont=>exact False.elim hq'
theorem Yq (M:Mk X.K C f) (F:DK X.prog X.w X.K X.mg X.base CX k f fd ps sp) (hr:Bk (k+1) X.A) (hg:Gl X x) (hm:X.mg x=some (.ref C)) (hb:Binds X.K fd ps ds) (hd:Vals dvs ds) (hx:Passes CX X E)
  (ha:PA X (e::es) t) (hdb:(x == ("__debug__":Str))=false:=by decide) (he:starEach (e::es) X.env=(false,eval e X.env)::starEach es X.env:=by rfl) (hpl:(backTo pos (starEach es X.env)).any (·.1)=false:=by rfl) :
  PE X (.Call (.Name x p) (e::es) [] pos) (Xv C sp dvs E t):=by
 intro jb s Z H Q I h;refine QaS (JR I hg hm ?_ hdb);refine PySem.W.callWith_K (h₀:=X.base) I.ok.mod.kin M.kp (thn (ha pos jb s Z H _ I h) λus s1 zz=>?_) he hpl;obtain⟨vs,H1,I1,r,q⟩:=zz;refine⟨I1.kIn,?_⟩;exact Wb M F hr hb hd hx I1 r q
end
def PK (X:Cx) (kws:List Keyword) (t:TA):Prop:=
 ∀(pos:Pos) (jb:YC) (s:Shared) (Z : St) (H:Hp) (Q:YG->Hp->Prop),Inv X jb Z H s->t Z H Q->wpAny (model X.prog X.w) X.A (evalAll ((backToKw pos (keywordEach kws X.env)).map (·.2))) (AP X jb Z Q) X.xe s
section
variable {X:Cx} {CX:CXT} {k:Nat} {f C:Addr} {fd:FuncData} {ps ks:YF} {sp:Sp} {E:XK} {x m:Str} {p pos apos kpos:Pos} {e o:Expr} {es:YJ} {kws:List Keyword} {te ta:TE} {t tk:TA} {nm:Option Str}
theorem ZK:PK X [] G4:=λ_ _ _ _ H Q I h=>wpAny_evalAll_nil ⟨[],H,I,.nil,h⟩
theorem Yl (ha:PE X e te) (hr:PK X kws t):PK X (⟨nm,e,kpos⟩::kws) (DP te t):=by
 intro pos jb s Z H Q I h;show wpAny _ _ (evalAll ((do let v <-eval e X.env;standAt pos;pure v)::(backToKw pos (keywordEach kws X.env)).map (·.2))) _ _ s
 refine wpAny_evalAll_cons (Qcg (thn (ha jb s Z H _ I h) λu s1 zz=>?_));obtain⟨x,H1,I1,r1,q1⟩:=zz;refine Qcg (wpAny_standAt (Qch ?_));refine thn (hr pos jb s1 Z H1 _ I1 q1) λus s2 zz=>?_;obtain⟨xs,H2,I2,r2,q2⟩:=zz;exact⟨x::xs,H2,I2,.cons r1 r2,q2⟩
variable {g:YE->YE->YE} {gV:YG->YG->YG}
end
structure Az (N P:YF) (sc:Scope):Prop where
 kind:sc.kind=.function
 co:sc.isCoroutine=false
 gen:sc.isGenerator=false
 nd:N.Nodup
 pre:N.take P.length=P
 par:∀x∈P,sc.names.lookup x=some .local\/sc.names.lookup x=some .cell
 Qa:∀y∈sc.names,y.2≠.free
theorem Nv {kindOf:Str->Option NameKind} {x:Str}:∀{binds:List (Str×Value)} {m:YB},(∀v,(x,v)∉binds)->bindL kindOf binds m x=m x
 | [],_,_=>rfl
 | (n,v)::r,m,h=>by
  unfold bindL;rw[Nv λw hw=>h w (Qax _ hw)];split
  ·have:x≠n:=by rintro rfl;exact h v QaP
   simp[this]
  ·rfl
theorem Ny {kindOf:Str->Option NameKind} {x:Str}:∀{binds:List (Str×Value)} {m:YB},(∀v,(x,v)∉binds)->bindC kindOf binds m x=m x
 | [],_,_=>rfl
 | (n,v)::r,m,h=>by
  unfold bindC;rw[Ny λw hw=>h w (Qax _ hw)];split
  ·rfl
  ·have:x≠n:=by rintro rfl;exact h v QaP
   simp[this]
theorem Nx {kindOf:Str->Option NameKind} {x:Str} {v:Value}:∀{P:YF} {vs:YE} {i:Nat} {m:YB},P.Nodup->P[i]?=some x->vs[i]?=some v->kindOf x=some .local ->
  bindL kindOf (P.zip vs) m x=some v
 | [],_,_,_,_,h,_,_=>by simp at h
 | _::_,[],_,_,_,_,h,_=>by simp at h
 | p::P,w::vs,0,m,nd,h1,h2,hk=>by
  simp at h1 h2;subst h1;subst h2;show bindL kindOf ((p,w)::P.zip vs) m p=_;unfold bindL;rw[Nv λv hv=>(QbD.mp nd).1 (List.of_mem_zip hv).1,if_pos hk];simp
 | p::P,w::vs,i+1,m,nd,h1,h2,hk=>by
  show bindL kindOf ((p,w)::P.zip vs) m x=_;unfold bindL;exact Nx (i:=i) (QbD.mp nd).2 (by simpa using h1) (by simpa using h2) hk
theorem Nz {kindOf:Str->Option NameKind} {x:Str} {v:Value}:∀{P:YF} {vs:YE} {i:Nat} {m:YB},P.Nodup->P[i]?=some x->vs[i]?=some v->kindOf x≠some .local ->
  bindC kindOf (P.zip vs) m x=some v
 | [],_,_,_,_,h,_,_=>by simp at h
 | _::_,[],_,_,_,_,h,_=>by simp at h
 | p::P,w::vs,0,m,nd,h1,h2,hk=>by
  simp at h1 h2;subst h1;subst h2;show bindC kindOf ((p,w)::P.zip vs) m p=_;unfold bindC;rw[Ny λv hv=>(QbD.mp nd).1 (List.of_mem_zip hv).1,if_neg hk];simp
 | p::P,w::vs,i+1,m,nd,h1,h2,hk=>by
  show bindC kindOf ((p,w)::P.zip vs) m x=_;unfold bindC;exact Nz (i:=i) (QbD.mp nd).2 (by simpa using h1) (by simpa using h2) hk
def start (N:YF) (vs:YG):St:=vs.map some++List.replicate (N.length - vs.length) none
def Jw (CX:CXT) (P:Program) (w:World) (K:YD) (mg:YB) (base:Heap) (N:YF) (qual:Str) (scope:Scope) (f:Addr) (cd:Value) (A:Around) (outer:List Env) (s:Shared) (H:Hp) (E:XK):Cx where
 prog:=P
 w:=w
 K:=K
 mg:=mg
 base:=base
 A:=A.deeper (envOfC qual scope s.heap.objs.size f cd)
 N:=N
 s₀:=s
 H₀:=H
 env:=envOfC qual scope s.heap.objs.size f cd
 outer:=outer
 stack:=envOfC qual scope s.heap.objs.size f cd::outer
 ex:=[]
 calm:=true
 fn:=λ_=>true
 pn:=[]
 xe:=λe s'=>wpAny (model P w) (A.deeper (envOfC qual scope s.heap.objs.size f cd)) (leaving (envOfC qual scope s.heap.objs.size f cd) e) (λ_ s''=>CX outer H s E e s'') (λe' s''=>CX outer H s E e' s'') s'
theorem Qz {sc:Scope} {n:Nat} {x:Str} (h:sc.names.lookup x=some .cell):∃c,(cellsFrom n sc.names []).lookup x=some c:=by
 have q:=PySem.W.cellsFrom_some sc.names n [] (.inl h);exact Option.isSome_iff_exists.mp q
theorem Vk {CX:CXT} {P:Program} {w:World} {K:YD} {mg:YB} {base:Heap} {N ps:YF} {qual:Str} {scope:Scope} {f:Addr} {cd:Value} {A:Around} {outer:List Env} {s s1:Shared} {H:Hp} {E:XK} {us:YE} {vs:YG}
  (S:Az N ps scope) (hd:A.handled=none) (e0:Ih P w K mg base A outer s H) (hl:vs.length=ps.length) (r:Vals vs us)
  (x:InCallC s s.heap.objs.size (bindL (envOfC qual scope s.heap.objs.size f cd).kindOf (ps.zip us) λ_=>none) (cellsFrom (s.heap.objs.size+1) scope.names []) (bindC (envOfC qual scope s.heap.objs.size f cd).kindOf (ps.zip us) λ_=>none) s1) :
  Inv (Jw CX P w K mg base N qual scope f cd A outer s H E) [] (start N vs) H s1:=by
 have hpl:ps.length<=N.length:=by have:=congrArg List.length S.pre;rw[Qbj] at this;omega
 obtain⟨h1,tk,rfl,hk⟩:=x.done;have noA:∀b:Addr,b∉(Jw CX P w K mg base N qual scope f cd A outer s H E).ex:=λb z=>absurd (show b∈([]:List Addr) from z) (by simp)
 refine⟨⟨e0.mod,S.kind,rq,rq,Qcd _,λy z c h1 h2=>?_,λy hy=>?_,λy c _ h=>?_,λ_=>hd,Around.frames_deeper e0.frames,.inr ⟨rq,rq⟩,λb z=>absurd z (noA b),e0.bs,e0.bsz,λb _ _=>noA b,λb z=>absurd z (noA b),e0.Gh,e0.frf⟩,
  rfl,e0.bare,Un.kept hk,⟨_,x.toInCall.ns,λi y v h1 h2 h3=>?_⟩,λy c h=>⟨_,x.cell y c h⟩,e0.hok.fresh (Qcd _),λy c h=>?_,λp hp=>absurd (show p∈([]:YC) from hp) (by simp),e0.hok.kept hk,?_⟩
 ·exact name_of_addr x.apart (QaH h1) (QaH h2)
 ·have hy:scope.names.lookup y=some .cell\/scope.names.lookup y=some .free:=hy;rcases hy with hy | hy
  ·exact Qz hy
  ·exact absurd rfl (S.Qa _ (QaH hy))
 ·exact QbY (x.above y c (QaH h))
 ·have hi:i < vs.length:=by
   unfold start at h2;by_cases hi:i < vs.length
   ·exact hi
   ·rw[Qah (by simpa using hi)] at h2;rw[List.getElem?_replicate] at h2;split at h2 <;> cases h2
  have ha:vs[i]?=some v:=by
   unfold start at h2;rw[Qak (by simpa using hi),Qbb] at h2;cases e:vs[i]? with
   | none=>rw[e] at h2;cases h2
   | some a=>rw[e] at h2;cases h2;rfl
  obtain⟨u,hu,rv⟩:=r.get ha;have hp:ps[i]?=some y:=by
   rw[<-S.pre,List.getElem?_take_of_lt (by omega)];exact h1
  have ndP:ps.Nodup:=by rw[<-S.pre];exact S.nd.sublist (List.take_sublist _ _)
  refine⟨u,rv,?_⟩;rcases S.par y (Qaw hp) with k | k
  ·exact .inl ⟨k,Nx ndP hp hu k⟩
  ·obtain⟨c,e⟩:=Qz (n:=s.heap.objs.size+1) k;refine .inr ⟨.inl k,c,e,?_⟩;have q:=x.cell y c e;rw[Nz ndP hp hu (by show scope.names.lookup y≠_;rw[k];decide)] at q;exact q
 ·exact e0.hok.fresh (QbY (x.above y c (QaH h)))
 ·unfold start;show _=N.length;rw[QaL,Qbu,Qav];omega
theorem cQ {CX:CXT} {P:Program} {w:World} {K:YD} {mg:YB} {base:Heap} {k:Nat} {f:Addr} {name qual:Str} {params:Arguments} {body:List Stmt} {scope:Scope} {dV kV doc pm cdv ct oc:Value} {an od:Option Addr}
  {osl:YI} {N ps:YF} {sp:Sp} (lk:K.lookup f=some ⟨oc,od,.func (fnOf name qual params body scope dV kV doc pm an cdv ct),osl⟩) (hcd:codeIn K cdv qual=true) (S:Az N ps scope)
  (len:∀vs H Q E,sp vs H Q E->vs.length=ps.length)
  (hbody:∀(A:Around) (outer:List Env) (s:Shared) (H:Hp) (vs:YG) (Q:VK) (E:XK),Bk k (A.deeper (envOfC qual scope s.heap.objs.size f cdv))->sp vs H Q E ->
   ∃t,PSs (Jw CX P w K mg base N qual scope f cdv A outer s H E) body t/\t { nx:=λ_ H'=>Q .non H',rt:=Q } (start N vs) H) :
  DK P w K mg base CX (k+1) f (fnOf name qual params body scope dV kV doc pm an cdv ct) ps sp:=by
 refine⟨len,λA outer s H args us vs Q E hr e0 hb r hsp=>?_⟩;have hl:=len _ _ _ _ hsp;have KX:K.In s.heap:=e0.mod.kin.keeps λb o e=>(e0.bs b o e).1;have lim:s.heap.NoLimit:=e0.mod.nolimit.keeps λb o e=>(e0.bs b o e).1;have hkind:∀y∈ps.zip us,scope.names.lookup y.1=some .local\/(scope.names.lookup y.1=some .cell/\((cellsFrom (s.heap.objs.size+1) scope.names []).lookup y.1).isSome=true):=λ⟨n,v⟩ hy=>by
  rcases S.par n (List.of_mem_zip hy).1 with q | q
  ·exact .inl q
  ·exact .inr ⟨q,PySem.W.cellsFrom_some _ _ _ (.inl q)⟩
 refine codeAny_call_function hr.depth (KX _ _ lk) rfl S.co S.gen rfl (PySem.W.codeRec_of KX hcd) (hb _ _ _ _ ?_);refine wpAny_newFunctionEnv_cells S.kind hkind λenv he s1 x=>?_;subst he;refine⟨lim.keeps x.toInCall.keep,codeAny_func ?_⟩;obtain⟨t,ht,hq⟩:=hbody A outer s H vs Q E (hr.deeper _) hsp;have I:Inv (Jw CX P w K mg base N qual scope f cdv A outer s H E) [] (start N vs) H s1:=Vk S hr.hd e0 hl r x;refine Qci (ht [] s1 (start N vs) H _ I hq) (λfl s' hs=>?_) λe s' hs=>hs;have fin:∀{σ':St} {H':Hp} {v:V} {u:Value},Inv (Jw CX P w K mg base N qual scope f cdv A outer s H E) [] σ' H' s'->RelV v u->Q v H'->CE outer P w H s Q u s':=
  λ{σ' H' v u} J rv q=>⟨v,H',J.os,J.bare,J.base,J.hok,rv,q⟩
 cases fl with
 | ret u=>
  obtain⟨v,σ',H',J,rv,q⟩:=hs;exact fin J rv q
 | next=>
  obtain⟨σ',H',J,q⟩:=hs;exact fin (v:=V.non) (u:=Value.none) J rfl q
 | brk=>
  obtain⟨_,_,_,q⟩:=hs;exact False.elim q
 | cont=>
  obtain⟨_,_,_,q⟩:=hs;exact False.elim q
section
variable {X:Cx} {x:Str} {p pos:Pos} {e:Expr} {es:YJ} {t:TA} {id T:String} {r:YG->Hp->VK->Prop}
def tCB (r:YG->Hp->VK->Prop) (t:TA):TE:=fun Z H Q=>t Z H λvs H1=>r vs H1 Q
theorem Am (hc:Ei X (.builtin id) r) (hg:Gl X x) (hm:X.mg x=none) (hv:bootBuiltins x=some (.builtin id)) (ha:PA X (e::es) t) (hn:x≠"__name__":=by decide) (hdb:(x == ("__debug__":Str))=false:=by decide)
  (he:starEach (e::es) X.env=(false,eval e X.env)::starEach es X.env:=by rfl) (hpl:(backTo pos (starEach es X.env)).any (·.1)=false:=by rfl):PE X (.Call (.Name x p) (e::es) [] pos) (tCB r t):=by
 intro jb s Z H Q I h;refine QaS (Eu I hg hm hv ?_ hn hdb);refine PyProof.Rows.callWith_builtin1 (thn (ha pos jb s Z H _ I h) λus s1 zz=>?_) he hpl;obtain⟨vs,H1,I1,r1,q1⟩:=zz;exact hc jb s1 Z H1 vs us Q I1 r1 q1
theorem HS (hc:Ei X (.type T) r) (hg:Gl X x) (hm:X.mg x=none) (hv:bootBuiltins x=some (.type T)) (ha:PA X (e::es) t) (hn:x≠"__name__":=by decide) (hdb:(x == ("__debug__":Str))=false:=by decide)
  (he:starEach (e::es) X.env=(false,eval e X.env)::starEach es X.env:=by rfl) (hpl:(backTo pos (starEach es X.env)).any (·.1)=false:=by rfl):PE X (.Call (.Name x p) (e::es) [] pos) (tCB r t):=by
 intro jb s Z H Q I h;refine QaS (Eu I hg hm hv ?_ hn hdb);refine Qae (thn (ha pos jb s Z H _ I h) λus s1 zz=>?_) he hpl;obtain⟨vs,H1,I1,r1,q1⟩:=zz;exact hc jb s1 Z H1 vs us Q I1 r1 q1
end
end L2
namespace HT
open PySem PyProof.Rows
section
open PySem.SeqAt
open PySem.AutoSeq1 (wpAny_loadPart')
open PySem.MeetsSeq PySem.MeetsSeq2 PySem.MeetsSeq3
end
section
variable {prog:Program} {w:World} {A:Around} {E:YA} {s:Shared}
def sIx (n d:Nat):Option Int->Nat
 | none=>d
 | some v=>if v < 0 then (v+(n:Int)).toNat else min v.toNat n
theorem V8 (n d:Nat):sIx n d none=d:=rfl
theorem Yd (n d k:Nat):sIx n d (some (k:Int))=min k n:=by
 show (if (k:Int) < 0 then ((k:Int)+(n:Int)).toNat else min (k:Int).toNat n)=min k n
 rw[if_neg (by omega),Qba]
theorem Zz (n d:Nat) (hd:d<=n) (o:Option Int):sIx n d o<=n:=by
 cases o with
 | none=>exact hd
 | some v=>
  show (if v < 0 then (v+(n:Int)).toNat else min v.toNat n)<=n
  by_cases hv:v < 0
  ·rw[if_pos hv];omega
  ·rw[if_neg hv];exact Nat.min_le_right _ _
theorem RQ (v:Int) (n d:Nat):(if v < 0 then max (v+(n:Int)) 0 else min v (n:Int))=((sIx n d (some v):Nat):Int):=by
 show (if v < 0 then max (v+(n:Int)) 0 else min v (n:Int))=(((if v < 0 then (v+(n:Int)).toNat else min v.toNat n):Nat):Int)
 by_cases hv:v < 0
 ·simp only[if_pos hv];omega
 ·simp only[if_neg hv];omega
theorem T5 (lo hi:Option Int) (n:Nat):Builtin.Slice.sliceAdjust lo hi 1 (n:Int)=(((sIx n 0 lo:Nat):Int),((sIx n n hi:Nat):Int)):=by
 have h1:¬((1:Int) < 0):=by omega
 unfold Builtin.Slice.sliceAdjust;simp only[h1,if_false];refine Prod.ext ?_ ?_
 ·cases lo with
  | none=>rfl
  | some v=>exact RQ v n 0
 ·cases hi with
  | none=>rfl
  | some v=>exact RQ v n n
theorem SQ (i j:Nat):Builtin.Slice.slicePlaces (i:Int) (j:Int) 1=j - i:=by
 unfold Builtin.Slice.slicePlaces;have h1:(1:Int) > 0:=by omega
 simp only[h1,if_true,Int.ediv_one];split <;> omega
theorem La {v:Value} {o:Option Int} {Q:Option Int->Shared->Prop} (p:IsPart v o) (h:Q o s):wpAny (model prog w) A (Builtin.Slice.slicePartIndex v) Q E s:=by
 cases p with
 | none=>exact slicePart_none h
 | int i t=>exact slicePart_int h
theorem Hi {sl:Addr} {vl vu:Value} {lo hi:Option Int} {n:Nat} {Q:Int×Int×Nat->Shared->Prop} (hs:s.heap.IsSliceOf sl vl vu .none) (pl:IsPart vl lo) (pu:IsPart vu hi)
  (h:Q (((sIx n 0 lo:Nat):Int),1,sIx n n hi - sIx n 0 lo) s):wpAny (model prog w) A (Builtin.Slice.sliceApplied (.ref sl) (pure (n:Int))) Q E s:=by
 obtain⟨os,hos,hcs,hds⟩:=id hs;unfold Builtin.Slice.sliceApplied Builtin.Slice.sliceFields;refine Qcg (Qcg (Qcf hos hds (x:=vl) rfl (Qcg (Qcf hos hds (x:=vu) rfl (Qcg (Qcf hos hds (x:=.none) rfl (Qch ?_)))))));refine Qcg (slicePart_none ?_);show wpAny _ _ (if ((1:Int) == 0)=true then _ else _) _ _ s
 rw[if_neg (by decide)];refine Qcg (La pl (Qcg (La pu (Qcg (Qch ?_)))));show wpAny _ _ (match Builtin.Slice.sliceAdjust lo hi 1 (n:Int) with | (lo,hi)=>pure (lo,(1:Int),Builtin.Slice.slicePlaces lo hi 1)) _ _ s
 rw[T5 lo hi n];show wpAny _ _ (pure (((sIx n 0 lo:Nat):Int),(1:Int),Builtin.Slice.slicePlaces ((sIx n 0 lo:Nat):Int) ((sIx n n hi:Nat):Int) 1)) _ _ s;rw[SQ];exact Qch h
theorem Wk (xs:Array Value) (i k:Nat):((List.range k).filterMap λ(m:Nat)=>xs[((i:Int)+(m:Int)*1).toNat]?).toArray=((xs.toList.drop i).take k).toArray:=by
 have e:(λ(m:Nat)=>xs[((i:Int)+(m:Int)*1).toNat]?)=λm=>xs[i+m]?:=by
  funext m
  have:((i:Int)+(m:Int)*1).toNat=i+m:=by omega
  rw[this]
 rw[e];have:=pick_run xs i k;rw[List.filterMap_map] at this;have e2:((λx=>xs[x]?) ∘ λx=>i+x)=λm=>xs[i+m]?:=rfl;rw[e2] at this;rw[this]
theorem Ke {t sl:Addr} {items:Array Value} {vl vu:Value} {lo hi:Option Int} {Q:YA} (ht:IsTup s.heap t items) (hs:s.heap.IsSliceOf sl vl vu .none) (pl:IsPart vl lo) (pu:IsPart vu hi)
  (hw:¬(sIx items.size 0 lo=0/\sIx items.size items.size hi=items.size))
  (h:Q (.ref s.heap.objs.size) { s with heap:=s.heap.push { cls:=.type "tuple",data:=.seq ((items.toList.drop (sIx items.size 0 lo)).take (sIx items.size items.size hi - sIx items.size 0 lo)).toArray } })
  (hsz:items.size<=sizeLine):wpAny (model prog w) A (getItem (.ref t) (.ref sl)) Q E s:=by
 have Om:sizeOk (.seq ((items.toList.drop (sIx items.size 0 lo)).take (sIx items.size items.size hi - sIx items.size 0 lo)).toArray):=by
  show ((items.toList.drop (sIx items.size 0 lo)).take (sIx items.size items.size hi - sIx items.size 0 lo)).toArray.size<=sizeLine;rw[QaZ,Qbj,Qbo,QaG];omega
 have hj:sIx items.size items.size hi<=items.size:=Zz _ _ (Qcd _) hi;obtain⟨os,hos,hcs,hds⟩:=id hs;have hTs:s.TypeIs (.ref sl) "slice":=⟨os,hos,hcs⟩;unfold getItem
 try with_reducible refine QbS ?_
 first | refine Qcg (Qch ?_) | skip
 refine Qcg (wpAny_sequenceKey ht.typeIs (by decide) ?_);refine Qcg (Qan (name:=Str.ofString "__getitem__") ht.typeIs Qab
  (Qbi Qab ht.typeIs entry_tuple_getitem ?_ (args_tuple_getitem _ _)))
 show wpAny _ _ (Builtin.Tuple.tupleItemsOf (.ref t) >>= _) _ _ s;refine Qcg (tupleItemsOf_ ht ?_);refine Qcg (wpAny_typeOf hTs ?_);rw[if_pos (by decide)];refine Qcg (Hi hs pl pu ?_);have hno:¬((((sIx items.size 0 lo:Nat):Int) == 0&&(1:Int) == 1&&(sIx items.size items.size hi - sIx items.size 0 lo) == items.size)=true):=by
  intro q;rw[Qbs,Qbs] at q;have q1:((sIx items.size 0 lo:Nat):Int)=0:=eq_of_beq q.1.1;have q2:sIx items.size items.size hi - sIx items.size 0 lo=items.size:=eq_of_beq q.2;exact hw ⟨by omega,by omega⟩
 show wpAny _ _ (if (((sIx items.size 0 lo:Nat):Int) == 0&&(1:Int) == 1&&(sIx items.size items.size hi - sIx items.size 0 lo) == items.size)=true then _ else _) _ _ s
 rw[if_neg hno,Wk]
 first
  | exact Qcg (m:=Builtin.Tuple.tupleExact _) (Qbe (Qch ⟨_,rfl,Qch h⟩) Om)
  | exact Qcg (m:=Builtin.Tuple.tupleExact _) (Qbe (Qcg (Qch (Qch ⟨_,rfl,Qch h⟩))) Om)
  | exact Qcg (Qcg (m:=Builtin.Tuple.tupleExact _) (Qbe (Qch (Qch ⟨_,rfl,Qch h⟩)) Om))
  | exact Qcg (Qcg (m:=Builtin.Tuple.tupleExact _) (Qbe (Qch ⟨_,rfl,Qch h⟩) Om))
end
end HT
namespace L2
open PySem PySem.Spec PyProof.Rows
abbrev TO:=St->Hp->(Option Int->Hp->Prop)->Prop
def PO (X:Cx) (e:Option Expr) (t:TO):Prop:=
 ∀(jb:YC) (s:Shared) (Z : St) (H:Hp) (Q:Option Int->Hp->Prop),Inv X jb Z H s->t Z H Q ->
  wpAny (model X.prog X.w) X.A (evalPart e X.env) (λu s'=>∃o H',Inv X jb Z H' s'/\IsPart u o/\Q o H') X.xe s
def X6:TO:=λ_ H Q=>Q none H
def bQ (t:TE):TO:=fun Z H Q=>t Z H λx H1=>∃i,x=.int i/\Q (some i) H1
theorem intsAre_of {ns:List Int}:∀{us:YE},Vals (ns.map V.int) us->IntsAre us ns:=by
 induction ns with
 | nil=>intro us r;rw[Qca] at r;cases r;exact .nil
 | cons n ns ih=>
  intro us r;rw[QbP] at r;cases r with
  | cons r1 r2=>
   obtain⟨t,e⟩:=r1;subst e;exact .cons n t (ih r2)
section
variable {X:Cx} {e:Expr} {te:TE} {lo hi:Option Expr} {tl th:TO} {pos p2:Pos}
theorem Ms:PO X none X6:=by
 intro jb s Z H Q I h;rw[evalPart_none];exact Qch ⟨none,H,I,.none,h⟩
theorem Mr (h:PE X e te):PO X (some e) (bQ te):=by
 intro jb s Z H Q I hw;rw[evalPart_some];refine thn (h jb s Z H _ I hw) λu s1 zz=>?_;obtain⟨x,H1,I1,r1,q1⟩:=zz;obtain⟨i,rfl,q⟩:=q1;obtain⟨t,rfl⟩:=r1;exact⟨some i,H1,I1,.int i t,q⟩
def SlR (X:Cx) (r:V->Option Int->Option Int->Hp->VK->Prop):Prop:=
 ∀(jb:YC) (s:Shared) (Z : St) (H:Hp) (x:V) (v vl vu:Value) (lo hi:Option Int) (sl:Addr) (Q:VK),Inv X jb Z H s->RelV x v->s.heap.IsSliceOf sl vl vu .none->IsPart vl lo->IsPart vu hi->r x lo hi H Q ->
  ∃T id,typeLookup (.type T) "__getitem__"=pure (some (.builtin id))/\s.TypeIs v T/\wpAny (model X.prog X.w) X.A (getItem v (.ref sl)) (EP X jb Z Q) X.xe s
def tSl (r:V->Option Int->Option Int->Hp->VK->Prop) (te:TE) (tl th:TO):TE:=fun Z H Q=>te Z H λx H1=>tl Z H1 λl H2=>th Z H2 λu H3=>r x l u H3 Q
theorem KC {r:V->Option Int->Option Int->Hp->VK->Prop} (hr:SlR X r) (he:PE X e te) (hl:PO X lo tl) (hu:PO X hi th):PE X (.Subscript e (.Slice lo hi none p2) pos) (tSl r te tl th):=by
 intro jb s Z H Q I h;refine Subscript_ (thn (he jb s Z H _ I h) λv s1 zz=>?_);obtain⟨x,H1,I1,r1,q1⟩:=zz;refine wpAny_Slice (thn (hl jb s1 Z H1 _ I1 q1) λvl s2 zz=>?_);obtain⟨l,H2,I2,pl,q2⟩:=zz;refine thn (hu jb s2 Z H2 _ I2 q2) λvu s3 zz=>?_;obtain⟨u,H3,I3,pu,q3⟩:=zz;rw[evalPart_none];refine Qch ?_;have I4:Inv X jb Z H3 { s3 with heap:=s3.heap.push { cls:=.type "slice",data:=.fields #[vl,vu,.none] } }:=I3.kept (t':=s3.toks) λb ob q=>Qao _ q;obtain⟨T,id,hT,ht,hg⟩:=hr jb { s3 with heap:=s3.heap.push { cls:=.type "slice",data:=.fields #[vl,vu,.none] } } Z H3 x v vl vu l u s3.heap.objs.size Q I4 r1 (Heap.IsSliceOf.new ..) pl pu q3;show wpAny (model X.prog X.w) X.A (subscriptTail e (.Slice lo hi none p2) v (.ref s3.heap.objs.size)) (EP X jb Z Q) X.xe { s3 with heap:=s3.heap.push { cls:=.type "slice",data:=.fields #[vl,vu,.none] } };exact tail_any (ops:=[.ref s3.heap.objs.size,v]) ht hT hg (by with_unfolding_all rfl)
def Gw (xs:YG) (lo hi:Option Int):YG:=(xs.drop (HT.sIx xs.length 0 lo)).take (HT.sIx xs.length xs.length hi - HT.sIx xs.length 0 lo)
theorem Ko (xs:YG) (lo hi:Option Int):(Gw xs lo hi).length<=xs.length:=by
 unfold Gw;rw[Qbj,Qbo];omega
def eV (K:YD):V->Option Int->Option Int->Hp->VK->Prop:=λx lo hi H Q=>∃a xs,x=.ref a/\SqT K H a xs /\
 ¬(HT.sIx xs.length 0 lo=0/\HT.sIx xs.length xs.length hi=xs.length)/\∀p,H p=none->Q (.ref p) (upd H p (.tup (Gw xs lo hi)))
theorem Zx:SlR X (eV X.K):=by
 intro jb s Z H x v vl vu lo hi sl Q I rx hs pl pu h;obtain⟨a,xs,rfl,hx,hw,q⟩:=h;cases rx;obtain⟨its,r,ht,hz⟩:=I.tuple hx;have hlen:its.toArray.size=xs.length:=by rw[QaZ];exact r.length.symm
 refine⟨"tuple",_,Qab.lookup,ht.typeIs,?_⟩;refine HT.Ke ht hs pl pu (by rw[hlen];exact hw) ?_ (by rw[hlen];exact hz);rw[hlen];refine⟨.ref s.heap.objs.size,_,I.laid (t':=s.toks) (o:=.tup (Gw xs lo hi)) (λb ob q=>Qao _ q) (Qcd _) ?_,rq,q _ (I.hok.fresh (Qcd _))⟩;exact⟨QbW (Ko xs lo hi) hz,_,(r.drop (HT.sIx xs.length 0 lo)).take (HT.sIx xs.length xs.length hi - HT.sIx xs.length 0 lo),IsTup.new _ _⟩
end
def ixN (n:Nat) (i:Int):Option Nat:=if 0<=i then (if i < n then some i.toNat else none) else if -(n:Int)<=i then some (i+n).toNat else none
def atI {α : Type} (xs:List α) (i:Int):Option α:=(ixN xs.length i).bind λj=>xs[j]?
theorem RB {n:Nat} {i:Int} {j:Nat} (h:ixN n i=some j):seqIndex? i n=some j/\j < n/\-(n:Int)<=i/\i < n:=by
 unfold ixN at h;by_cases h0:0<=i
 ·rw[if_pos h0] at h;by_cases h1:i < n
  ·rw[if_pos h1] at h;have e:i.toNat=j:=Qbx h;exact⟨by rw[seqIndex_of h0 h1,e],by omega,by omega,h1⟩
  ·rw[if_neg h1] at h;cases h
 ·rw[if_neg h0] at h;by_cases h1:-(n:Int)<=i
  ·rw[if_pos h1] at h;have e:(i+n).toNat=j:=Qbx h;exact⟨by rw[seqIndex_neg (by omega) h1,e],by omega,h1,by omega⟩
  ·rw[if_neg h1] at h;cases h
theorem Nf {α : Type} {xs:List α} {i:Int} {v:α} (h:atI xs i=some v):∃j,seqIndex? i xs.length=some j/\xs[j]?=some v/\j < xs.length/\-(xs.length:Int)<=i/\i < xs.length:=by
 unfold atI at h;cases e:ixN xs.length i with
 | none=>rw[e] at h;cases h
 | some j=>
  rw[e] at h;obtain⟨h1,h2,h3,h4⟩:=RB e;exact⟨j,h1,h,h2,h3,h4⟩
theorem Fe {α : Type} {xs:List α} {j:Nat} {v:α} (h:xs[j]?=some v):atI xs (j:Int)=some v:=by
 have hj:j < xs.length:=(Qai.mp h).1;have e:ixN xs.length (j:Int)=some j:=by
  unfold ixN;rw[if_pos (by omega),if_pos (by omega)];simp
 unfold atI;rw[e];exact h
def Zg (b:Expr):Prop:=∀o i,subscripted b false o i=operate [o,i] (getItem o i)
def IxR (X:Cx) (r:R2):Prop:=
 ∀(value slice:Expr) (jb:YC) (s:Shared) (Z : St) (H:Hp) (x y:V) (v u:Value) (Q:VK),Inv X jb Z H s->RelV x v->RelV y u->r x y H Q ->
  subscripted slice false v u=operate [v,u] (getItem v u)->wpAny (model X.prog X.w) X.A (subscriptTail value slice v u) (EP X jb Z Q) X.xe s
def MtR (X:Cx) (id:String) (r:V->YG->Hp->VK->Prop):Prop:=
 ∀(jb:YC) (s:Shared) (Z : St) (H:Hp) (x:V) (xs:YG) (v:Value) (us:YE) (Q:VK),Inv X jb Z H s->RelV x v->Vals xs us->r x xs H Q ->
  wpAny (model X.prog X.w) X.A (call (.builtin id) (v::us)) (EP X jb Z Q) X.xe s
section
variable {X:Cx} {a b:Expr} {ta tb:TE} {pos:Pos}
theorem Bj {r:R2} (hr:IxR X r) (ha:PE X a ta) (hb:PE X b tb) (hs:Zg b):PE X (.Subscript a b pos) (tOp r ta tb):=by
 intro jb s Z H Q I h;exact Subscript_ (Xh ha hb I h λv u s2 x y H2 I2 rx ry q=>hr a b jb s2 Z H2 x y v u Q I2 rx ry q (hs _ _))
def ZD (K:YD):R2:=λx y H Q=>∃p xs i v,x=.ref p/\y=.int i/\SqL K H p xs/\atI xs i=some v/\Q v H
def ZC (K:YD):R2:=λx y H Q=>∃p xs i v,x=.ref p/\y=.int i/\SqT K H p xs/\atI xs i=some v/\Q v H
def eZ:R2:=λx y H Q=>∃z i c,x=.str z/\y=.int i/\z.length<=sizeLine/\atI z.cps.toList i=some c/\Q (.str ⟨#[c]⟩) H
theorem Br:IxR X (ZD X.K):=by
 intro value slice jb s Z H x y v u Q I rx ry h hs;obtain⟨p,xs,i,z,rfl,rfl,hq,he,q⟩:=h;cases rx;obtain⟨t,rfl⟩:=ry;obtain⟨its,r,pl,hz⟩:=I.list hq;obtain⟨j,h1,h2,h3,h4,h5⟩:=Nf he;obtain⟨w,ew,rw'⟩:=r.get h2;have hl:=r.length;have hn:=Ht;have fin:EP X jb Z Q w s:=⟨z,H,I,rw',q⟩;by_cases h0:0<=i
 ·have hj:i.toNat=j:=by
   rw[seqIndex_of h0 h5] at h1;exact Qbx h1
  exact item_listR pl.isList h0 (by omega) (by rw[hj];simpa using ew) fin hs
 ·have hj:(i+(its.toArray.size:Int)).toNat=j:=by
   rw[seqIndex_neg (by omega) h4] at h1;rw[QaZ,<-hl];exact Qbx h1
  exact subscriptTail_builtinR (x:=w) pl.isList.typeIs slot_list_getitem.lookup
   (wpAny_getItem_list_neg (Q:=λr s'=>r=w/\EP X jb Z Q r s') pl.isList (by omega) (by rw[QaZ] <;> omega) (by omega) (by rw[hj];simpa using ew) ⟨rq,fin⟩) hs
theorem Il:IxR X (ZC X.K):=by
 intro value slice jb s Z H x y v u Q I rx ry h hs;obtain⟨p,xs,i,z,rfl,rfl,hq,he,q⟩:=h;cases rx;obtain⟨t,rfl⟩:=ry;obtain⟨its,r,pl,hz⟩:=I.tuple hq;obtain⟨j,h1,h2,h3,h4,h5⟩:=Nf he;obtain⟨w,ew,rw'⟩:=r.get h2;have hl:=r.length;have hn:=Ht;have fin:EP X jb Z Q w s:=⟨z,H,I,rw',q⟩;exact subscriptTail_builtinR (x:=w) pl.typeIs slot_tuple_getitem.lookup
  (getItem_tuple (j:=j) (Q:=λr s'=>r=w/\EP X jb Z Q r s') pl (by omega) (by omega) (by rw[QaZ,<-hl];exact h1) (by simpa using ew) ⟨rq,fin⟩) hs
theorem Vf:IxR X eZ:=by
 intro value slice jb s Z H x y v u Q I rx ry h hs;obtain⟨z,i,c,rfl,rfl,hz,he,q⟩:=h;obtain⟨t,rfl⟩:=rx;obtain⟨t',rfl⟩:=ry;obtain⟨j,h1,h2,h3,h4,h5⟩:=Nf he;have hl:z.cps.toList.length=z.length:=by simp[Str.length]
 rw[hl] at h1 h4 h5;have hn:=Ht;exact tail_any (typeIs_str s z t) slot_str_getitem.lookup (getItem_str (c:=c) (by
  have e1:decide (i < -(2 ^ 63:Int))=false:=Qbv (by omega);have e2:decide (i ≥ 2 ^ 63)=false:=Qbv (by omega);rw[e1,e2,Bool.or_false]) (by rw[h1];simpa using h2) ⟨.str ⟨#[c]⟩,H,I.tok _,⟨_,rq⟩,q⟩) hs
theorem Tp (its:YE) (n j:Nat) (u:Value):Obj.mapSeq (·.setIfInBounds j u) { cls:=.type "list",data:=.seq its.toArray n }={ cls:=.type "list",data:=.seq (its.set j u).toArray n }:=by
 simp[Obj.mapSeq]
theorem Inv.lst {jb:YC} {Z : St} {H:Hp} {s:Shared} {p:Addr} {xs:YG} (I:Inv X jb Z H s) (h:H p=some (.lst xs)) :
  ∃(its:YE) (n:Nat),Vals xs its/\s.heap.get? p=some { cls:=.type "list",data:=.seq its.toArray n }/\xs.length<=sizeLine:=by
 obtain⟨z,its,n,r,e⟩:=I.hok p _ h;exact⟨its,n,r,e,z⟩
theorem Inv.Z5 {jb:YC} {Z : St} {H:Hp} {s:Shared} {p:Addr} {xs ys:YG} {its its':YE} {n n':Nat} {f:Obj->Obj} (I:Inv X jb Z H s) (h:H p=some (.lst xs))
  (ho:s.heap.get? p=some { cls:=.type "list",data:=.seq its.toArray n }) (hf:f { cls:=.type "list",data:=.seq its.toArray n }={ cls:=.type "list",data:=.seq its'.toArray n' }) (r:Vals ys its') (hz:ys.length<=sizeLine) (t:Nat) :
  Inv X jb Z (upd H p (.lst ys)) { s with heap:=s.heap.update p f,toks:=t }:=by
 have e:(s.heap.update p f).get? p=some { cls:=.type "list",data:=.seq its'.toArray n' }:=by
  rw[Qau f ho (by rw[hf] <;> rfl),hf]
 refine I.write (x:=p) (e:=p) (by rw[h];trivial) (.inl rfl) (λb u hb q=>(Qap _ _ (Ne.symm hb)).trans q) ⟨_,e⟩ ?_;exact⟨hz,its',n',r,e⟩
def cg:V->V->V->Hp->(Hp->Prop)->Prop:=λo i v H Q=>∃p xs k j,o=.ref p/\i=.int k/\H p=some (.lst xs)/\ixN xs.length k=some j/\Q (upd H p (.lst (xs.set j v)))
theorem set_list:bJ X cg:=by
 intro jb s Z H o i v ov iv u Q I ro ri rv h;obtain⟨p,xs,k,j,rfl,rfl,hp,hj,q⟩:=h;cases ro;obtain⟨t,rfl⟩:=ri;obtain⟨its,n,r,ho,hz⟩:=I.lst hp;obtain⟨h1,h2,h3,h4⟩:=RB hj;have hl:=r.length;have hn:=Ht;have I':Inv X jb Z (upd H p (.lst (xs.set j v))) { s with heap:=s.heap.update p (Obj.mapSeq (·.setIfInBounds j u)) }:=
  I.Z5 hp ho (Tp its n j u) (r.set rv j) (by rw[QbC];exact hz) s.toks
 by_cases h0:0<=k
 ·have hk:k.toNat=j:=by
   rw[seqIndex_of h0 h4] at h1;exact Qbx h1
  exact PySem.W.ki_setAt ho h0 (by omega) (by rw[QaZ,<-hl];exact h4) (by rw[hk];exact⟨_,I',q⟩)
 ·have hk:(k+(its.toArray.size:Int)).toNat=j:=by
   rw[seqIndex_neg (by omega) h3] at h1;rw[QaZ,<-hl];exact Qbx h1
  exact PySem.W.ki_setBack ho (by omega) (by rw[QaZ,<-hl];exact h3) (by omega) (by rw[hk];exact⟨_,I',q⟩)
theorem Pa (lo hi:Option Int) (n:Nat):(sliceBounds lo hi none n).1=((HT.sIx n 0 lo:Nat):Int)/\(sliceBounds lo hi none n).2.1=((HT.sIx n n hi:Nat):Int)/\(sliceBounds lo hi none n).2.2=1:=by
 refine⟨?_,?_,rq⟩
 ·cases lo with
  | none=>simp[sliceBounds,HT.sIx]
  | some i=>
   simp only[sliceBounds,HT.sIx,Option.getD_none,show (1:Int) > 0 by decide,if_true];by_cases h:i < 0
   ·simp only[h,if_true] <;> omega
   ·simp only[h,if_false] <;> omega
 ·cases hi with
  | none=>simp[sliceBounds,HT.sIx]
  | some i=>
   simp only[sliceBounds,HT.sIx,Option.getD_none,show (1:Int) > 0 by decide,if_true];by_cases h:i < 0
   ·simp only[h,if_true] <;> omega
   ·simp only[h,if_false] <;> omega
theorem NQ (its:YE) (lo hi:Option Int):slicePick its.toArray lo hi none=((its.drop (HT.sIx its.length 0 lo)).take (HT.sIx its.length its.length hi - HT.sIx its.length 0 lo)).toArray:=by
 obtain⟨h1,h2,h3⟩:=Pa lo hi its.toArray.size;unfold slicePick;rw[h1,h2,h3];simp only[sliceRange_one,pick_run,QaZ] <;> rfl
def eX (K:YD):V->Option Int->Option Int->Hp->VK->Prop:=λx lo hi H Q=>∃a xs,x=.ref a/\SqL K H a xs/\∀p,H p=none->Q (.ref p) (upd H p (.lst (Gw xs lo hi)))
theorem X8:SlR X (eX X.K):=by
 intro jb s Z H x v vl vu lo hi sl Q I rx hs pl pu h;obtain⟨a,xs,rfl,hx,q⟩:=h;cases rx;obtain⟨its,r,ht,hz⟩:=I.list hx;have hlen:=r.length;refine⟨"list",_,slot_list_getitem.lookup,ht.isList.typeIs,?_⟩;refine wpAny_getItem_list_slice ht.isList hs pl pu .none (by simp) ?_ (by rw[QaZ] <;> omega);rw[NQ,<-hlen];refine⟨.ref s.heap.objs.size,_,I.laid (t':=s.toks) (o:=.lst (Gw xs lo hi)) (λb ob q=>Qao _ q) (Qcd _) ?_,rq,q _ (I.hok.fresh (Qcd _))⟩;exact⟨QbW (Ko xs lo hi) hz,_,0,(r.drop (HT.sIx xs.length 0 lo)).take (HT.sIx xs.length xs.length hi - HT.sIx xs.length 0 lo),QaD _ rfl⟩
theorem Bg:Ei X (.builtin "len") (λxs H Q=>∃p ys,xs=[.ref p]/\(SqL X.K H p ys\/SqT X.K H p ys)/\Q (.int ys.length) H):=by
 intro jb s Z H xs us Q I r h;obtain⟨p,ys,rfl,hq,q⟩:=h;obtain⟨u,rfl,rx⟩:=vals1 r;cases rx;have hn:=Ht;rcases hq with hq | hq
 ·obtain⟨its,r',pl,hz⟩:=I.list hq;have hlen:=r'.length;exact Calls.call_len_list pl.isList (by simp only[QaZ] <;> omega) ⟨.int ys.length,H,I.tok _,⟨s.toks+1,by rw[QaZ,hlen]⟩,q⟩
 ·obtain⟨its,r',pl,hz⟩:=I.tuple hq;have hlen:=r'.length;exact len_tuple pl (by simp only[QaZ] <;> omega) ⟨.int ys.length,H,I.tok _,⟨s.toks+1,by rw[QaZ,hlen]⟩,q⟩
theorem QB:Ei X (.builtin "len") (λxs H Q=>∃z,xs=[.str z]/\z.length<=sizeLine/\Q (.int z.length) H):=by
 intro jb s Z H xs us Q I r h;obtain⟨z,rfl,hz,q⟩:=h;obtain⟨u,rfl,t,rfl⟩:=vals1 r;have hn:=Ht;exact len_str (by omega) ⟨.int z.length,H,I.tok _,⟨_,rq⟩,q⟩
theorem Jy:Ei X (.type "list") (λxs H Q=>∃p ys,xs=[.ref p]/\(SqL X.K H p ys\/SqT X.K H p ys)/\∀l,H l=none->Q (.ref l) (upd H l (.lst ys))):=by
 intro jb s Z H xs us Q I r h;obtain⟨p,ys,rfl,hq,q⟩:=h;obtain⟨u,rfl,rx⟩:=vals1 r;cases rx;have fin:∀(its:YE),Vals ys its->ys.length<=sizeLine->∀(h':Heap) (c':Nat),(∀b o',s.heap.get? b=some o'->h'.get? b=some o') ->
   h'.get? s.heap.objs.size=some { cls:=.type "list",dict:=none,data:=.seq its.toArray c',slots:=#[] }->EP X jb Z Q (.ref s.heap.objs.size) { s with heap:=h' }:=λits r' hz h' c' kp e=>
  ⟨.ref s.heap.objs.size,_,I.laid (t':=s.toks) kp (Qcd _) (show Bd X.prog X.w _ h' _ (.lst ys) from⟨hz,its,c',r',e⟩),rq,q _ (I.hok.fresh (Qcd _))⟩
 rcases hq with hq | hq
 ·obtain⟨its,r',pl,hz⟩:=I.list hq;have hlen:=r'.length;obtain⟨o,ho,hc,n,hd⟩:=pl.isList;exact call_list_seq p (.inl rfl) ho hc hd (λh' c' kp e=>fin its r' hz h' c' kp e) (by simp only[QaZ] <;> omega)
 ·obtain⟨its,r',pl,hz⟩:=I.tuple hq;have hlen:=r'.length;obtain⟨o,ho,hc,n,hd⟩:=pl;exact call_list_seq p (.inr rfl) ho hc hd (λh' c' kp e=>fin its r' hz h' c' kp e) (by simp only[QaZ] <;> omega)
def tyV (K:YD) (T:String) (x:V) (H:Hp):Prop:=match x with
 | .str _=>T="str"
 | .int _=>T="int"
 | .ref p=>(T="list"/\∃xs,SqL K H p xs)\/(T="tuple"/\∃o,K.lookup p=some o/\o.cls=.type "tuple"/\o.dict=none) \/
   (T="dict"/\((∃kvs,H p=some (.dK kvs))\/∃kvs,H p=some (.dT kvs)))\/(T="set"/\∃S n,H p=some (.set S n))
 | _=>False
theorem Zm {jb:YC} {Z : St} {H:Hp} {s:Shared} {T:String} {x:V} {v:Value} (I:Inv X jb Z H s) (r:RelV x v) (ty:tyV X.K T x H) :
  s.TypeIs v T/\∀a,v=.ref a->∃ob,s.heap.get? a=some ob/\ob.dict=none:=by
 cases x with
 | str z=>
  obtain⟨t,rfl⟩:=r;cases (show T="str" from ty)
  exact⟨typeIs_str s z t,λ_ e=>nomatch e⟩
 | int i=>
  obtain⟨t,rfl⟩:=r;cases (show T="int" from ty)
  exact⟨typeIs_int s i t,λ_ e=>nomatch e⟩
 | ref p=>
  cases r;rcases ty with⟨rfl,xs,hq⟩|⟨rfl,o,hk,hc,hd⟩|⟨rfl,hk⟩|⟨rfl,S,n,hk⟩
  ·obtain⟨its,_,pl,_⟩:=I.list hq;refine⟨pl.isList.typeIs,λa e=>?_⟩;cases e;obtain⟨o,n,e,c,hd,_⟩:=pl;exact⟨o,e,hd⟩
  ·refine⟨⟨o,I.kIn p o hk,hc⟩,λa e=>?_⟩;cases e;exact⟨o,I.kIn _ o hk,hd⟩
  ·have z:∃o,s.heap.get? p=some o/\o.ExactDict:=by
    rcases hk with⟨kvs,hk⟩|⟨kvs,hk⟩
    ·obtain⟨_,_,_,_,o,_,_,e,ex,_⟩:=I.hok p _ hk;exact⟨o,e,ex⟩
    ·obtain⟨_,_,_,_,o,_,_,e,ex,_⟩:=I.hok p _ hk;exact⟨o,e,ex⟩
   obtain⟨o,e,ex⟩:=z;refine⟨⟨o,e,ex.1⟩,λa e2=>?_⟩;cases e2;exact⟨o,e,ex.2.1⟩
  ·obtain⟨o,_,_,_,e,ex,_⟩:=I.hok p _ hk;refine⟨⟨o,e,ex.1⟩,λa e2=>?_⟩;cases e2;exact⟨o,e,ex.2.1⟩
 | _=>exact False.elim ty
def tBM (K:YD) (T:String) (r:V->YG->Hp->VK->Prop) (to:TE) (t:TA):TE:=fun Z H Q=>to Z H λx H1=>tyV K T x H1/\t Z H1 λxs H2=>r x xs H2 Q
variable {o e:Expr} {es:YJ} {to:TE} {t:TA} {name:Str} {apos cpos:Pos} {T id:String} {r:V->YG->Hp->VK->Prop}
theorem Og (pa:PlainAttrs T) (slot:Slot T name id) (hty:typeOf (.builtin id)=pure (.type "method_descriptor")) (hm:MtR X id r) (ho:PE X o to) (ha:PA X (e::es) t)
  (hbase:attributeBase o name X.env (eval o X.env)=eval o X.env:=by rfl)
  (hfew:((backTo cpos (starEach (e::es) X.env)).all (λx=>!x.1)&&(backToKw cpos (keywordEach [] X.env)).all (λx=>x.1.isSome)
  &&decide ((e::es).length+([]:List Keyword).length+(if ([]:List Keyword).isEmpty then 0 else 1) < 30))=true:=by rfl)
  (hline:(apos.endLine == cpos.line)=true:=by rfl) (hs:starEach (e::es) X.env=(false,eval e X.env)::starEach es X.env:=by rfl) (hplain:(backTo cpos (starEach es X.env)).any (·.1)=false:=by rfl) :
  PE X (.Call (.Attribute o name apos) (e::es) [] cpos) (tBM X.K T r to t):=by
 intro jb s Z H Q I h;refine wpAny_Call_method_late hbase hfew hline rfl (thn (ho jb s Z H _ I h) λv s1 zz=>?_);obtain⟨x,H1,I1,r1,ty,q1⟩:=zz;obtain⟨h1,h2⟩:=Zm I1 r1 ty;refine⟨T,id,pa,slot,hty,h1,h2,?_⟩;have hA:=ha cpos jb s1 Z H1 _ I1 q1;rw[hs] at hA ⊢;refine Calls.callWith_builtin (by show (false || (backTo cpos (starEach es X.env)).any (·.1))=false;rw[hplain] <;> rfl) (Calls.evalArgs_plain ?_);refine thn hA λus s2 zz=>?_;obtain⟨vs,H2,I2,r2,q2⟩:=zz;exact hm jb s2 Z H2 x vs v us Q I2 r1 r2 q2
end
def MtM (X:Cx) (id:String) (r:V->YG->Hp->VK->Prop):Prop:=
 ∀(jb:YC) (s:Shared) (Z : St) (H:Hp) (x:V) (xs:YG) (v:Value) (us:YE) (Q:VK),Inv X jb Z H s->RelV x v->Vals xs us->r x xs H Q ->
  wpAny (model X.prog X.w) X.A (call (.builtin id) (v::us)) (EP X jb Z Q) X.xe s
theorem Vals.one:∀{x:V} {us:YE},Vals [x] us->∃u,us=[u]/\RelV x u
 | _,_,.cons r .nil=>⟨_,rfl,r⟩
theorem Vals.two:∀{x y:V} {us:YE},Vals [x,y] us->∃u v,us=[u,v]/\RelV x u/\RelV y v
 | _,_,_,.cons r (.cons q .nil)=>⟨_,_,rfl,r,q⟩
theorem Vals.rep {xs:YG} {us:YE} (h:Vals xs us):∀k:Nat,Vals (List.replicate k xs).flatten (List.replicate k us).flatten
 | 0=>.nil
 | k+1=>by
  rw[QaI,QaI,List.flatten_cons,List.flatten_cons];exact Vals.append h (Vals.rep h k)
theorem foldl_rep (its:YE):∀(k:Nat) (acc:YE),
  List.foldl (λx1 x2=>x1++x2) acc.toArray (List.replicate k its.toArray)=(acc++(List.replicate k its).flatten).toArray
 | 0,acc=>by simp
 | k+1,acc=>by
  have e:acc.toArray++its.toArray=(acc++its).toArray:=by simp
  have e2:(acc++its)++(List.replicate k its).flatten=acc++(List.replicate (k+1) its).flatten:=by
   rw[QaI,List.flatten_cons,List.append_assoc]
  rw[<-e2,<-foldl_rep its k (acc++its),<-e,QaI,List.foldl_cons]
section
variable {X:Cx} {jb:YC} {Z : St} {H:Hp} {s:Shared} {l b:Addr} {xs ys zs:YG}
theorem Inv.Z6 {its its':YE} {n:Nat} {f:Array Value->Array Value} {t':Nat} (I:Inv X jb Z H s) (hH:H l=some (.lst xs))
  (e:s.heap.get? l=some { cls:=.type "list",data:=.seq its.toArray n }) (hf:f its.toArray=its'.toArray) (hv:Vals ys its') (hz:ys.length<=sizeLine) :
  Inv X jb Z (upd H l (.lst ys)) { s with heap:=s.heap.update l (Obj.mapSeq f),toks:=t' }:=by
 have q:=PySem.IsL.update e f;rw[hf] at q;refine I.write (x:=l) (e:=l) (by rw[hH];exact trivial) (.inl rfl) (λb' u hb hu=>(Qap s.heap (Obj.mapSeq f) (Ne.symm hb)).trans hu) ⟨_,q⟩ ?_;exact⟨hz,its',_,hv,q⟩
theorem Inv.Z7 {its:YE} {t':Nat} (I:Inv X jb Z H s) (hv:Vals ys its) (hz:ys.length<=sizeLine) :
  Inv X jb Z (upd H s.heap.objs.size (.lst ys)) { s with heap:=s.heap.push { cls:=.type "list",data:=.seq its.toArray },toks:=t' }:=
 I.laid (λ_ _ q=>Qao _ q) (Qcd _) ⟨hz,its,0,hv,QaD _ rfl⟩
theorem Inv.fresh (I:Inv X jb Z H s):H s.heap.objs.size=none:=I.hok.fresh (Qcd _)
theorem Inv.MN (I:Inv X jb Z H s) (hH:H l=some (.lst xs)):xs.length<=sizeLine/\∃(its:YE) (n:Nat),Vals xs its/\xs.length=its.length/\s.heap.get? l=some { cls:=.type "list",data:=.seq its.toArray n }:=by
 obtain⟨z,its,n,r,e⟩:=I.hok l _ hH;exact⟨z,its,n,r,r.length,e⟩
theorem P0 {n:Nat} (h:n<=sizeLine):Builtin.List.listTooLong n=false:=by
 unfold Builtin.List.listTooLong;exact Qbv (by omega)
end
section
variable {X:Cx}
def Yi:V->YG->Hp->VK->Prop:=λx vs H Q=>∃l xs y,x=.ref l/\vs=[y]/\H l=some (.lst xs)/\xs.length < sizeLine/\Q .non (upd H l (.lst (xs++[y])))
theorem HW:MtM X "list.append" Yi:=by
 intro jb s Z H x vs v us Q I rx rv h;obtain⟨l,xs,y,rfl,rfl,hH,hz,q⟩:=h;cases rx;obtain⟨u,rfl,ru⟩:=rv.one;obtain⟨z,its,n,r,hl,e⟩:=I.MN hH;refine call_meets F.slot_list_append ⟨_,e,rq⟩ F.entry_list_append (F.args_list_append_2 _ _) (PySem.list_append l its.toArray n u (by rw[QaZ];omega)) ⟨e,?_⟩;refine⟨.non,_,I.Z6 (its':=its++[u]) hH e (by simp) (r.append (.cons ru .nil)) ?_,rq,q⟩;rw[QaL,List.length_singleton];omega
def Yh:V->YG->Hp->VK->Prop:=λx vs H Q=>∃l b xs zs,x=.ref l/\vs=[.ref b]/\H l=some (.lst xs)/\H b=some (.lst zs)/\xs.length+zs.length<=sizeLine/\Q .non (upd H l (.lst (xs++zs)))
theorem dw:MtM X "list.extend" Yh:=by
 intro jb s Z H x vs v us Q I rx rv h;obtain⟨l,b,xs,zs,rfl,rfl,hH,hB,hz,q⟩:=h;cases rx;obtain⟨u,rfl,ru⟩:=rv.one;cases ru;obtain⟨z,its,n,r,hl,e⟩:=I.MN hH;obtain⟨z2,its2,n2,r2,hl2,e2⟩:=I.MN hB;have hsz:its.toArray.size+its2.toArray.size<=sizeLine:=by rw[QaZ,QaZ];omega
 have TF:¬(!its.toArray.isEmpty&&Builtin.List.listTooLong (its.toArray.size+its2.toArray.size))=true:=by
  rw[P0 hsz,Bool.and_false];exact QaK
 refine call_meets F.slot_list_extend ⟨_,e,rq⟩ F.entry_list_extend (F.args_list_extend_2 _ _)
  (AutoSeq1.list_extend_list_list_0 l its.toArray n b its2.toArray n2 TF (by rw[QaZ];omega) (by omega)) ⟨e,e2,?_⟩
 refine⟨.non,_,I.Z6 (its':=its++its2) hH e (by simp) (r.append r2) ?_,rq,q⟩;rw[QaL];omega
def fj:R2:=λx y H Q=>∃l b xs zs,x=.ref l/\y=.ref b/\H l=some (.lst xs)/\H b=some (.lst zs)/\xs.length+zs.length<=sizeLine/\∀p,H p=none->Q (.ref p) (upd H p (.lst (xs++zs)))
theorem UG:OpR X (binaryOp .Add) fj:=by
 intro jb s Z H x y v u Q I rx ry h;obtain⟨l,b,xs,zs,rfl,rfl,hH,hB,hz,q⟩:=h;cases rx;cases ry;obtain⟨z,its,n,r,hl,e⟩:=I.MN hH;obtain⟨z2,its2,n2,r2,hl2,e2⟩:=I.MN hB;refine PySem.P.add_list e e2 ?_ (by rw[QaZ,QaZ];omega);have ea:its.toArray++its2.toArray=(its++its2).toArray:=by simp
 rw[ea];exact⟨.ref _,_,I.Z7 (t':=s.toks) (r.append r2) (by rw[QaL];omega),rq,q _ I.fresh⟩
def eY:R2:=λx y H Q=>∃l k xs,x=.ref l/\y=.int k/\H l=some (.lst xs)/\-(2 ^ 63)<=k/\k < 2 ^ 63/\xs.length*k.toNat<=sizeLine /\
 ∀p,H p=none->Q (.ref p) (upd H p (.lst (List.replicate k.toNat xs).flatten))
theorem len_rep {α : Type} (xs:List α) (k:Nat):(List.replicate k xs).flatten.length=k*xs.length:=by
 induction k with
 | zero=>simp
 | succ k ih=>rw[QaI,List.flatten_cons,QaL,ih,Nat.succ_mul,Nat.add_comm]
theorem Uw:OpR X (binaryOp .Mult) eY:=by
 intro jb s Z H x y v u Q I rx ry h;obtain⟨l,k,xs,rfl,rfl,hH,h1,h2,hz,q⟩:=h;cases rx;obtain⟨t,rfl⟩:=ry;obtain⟨z,its,n,r,hl,e⟩:=I.MN hH;have hlen:its.toArray.size*k.toNat<=sizeLine:=by rw[QaZ,<-hl];exact hz
 have hcap:¬its.toArray.size*k.toNat > (2 ^ 63 - 1) / 8:=by
  have:(sizeLine:Nat)<=(2 ^ 63 - 1) / 8:=by decide
  omega
 have hfit:¬(!Builtin.List.listFitsIndex k)=true:=by
  rw[fitsIndex_both h1 h2];exact QaK
 have TF:¬Builtin.List.listTooLong (its.toArray.size*k.toNat)=true:=by
  rw[P0 hlen];exact QaK
 have hnew:List.foldl (λx1 x2=>x1++x2) #[] (List.replicate (if its.toArray.isEmpty=true then 0 else k.toNat) its.toArray)=(List.replicate k.toNat its).flatten.toArray:=by
  have f0:∀m:Nat,List.foldl (λx1 x2=>x1++x2) #[] (List.replicate m its.toArray)=(List.replicate m its).flatten.toArray:=λm=>by
   have:=foldl_rep its m [];rw[List.nil_append] at this;exact this
  rw[f0];cases its with
  | nil=>simp
  | cons a r'=>rw[if_neg (by simp)]
 refine wpAny_binaryOp_repeat_ref (T:="list") (U:="int") (by decide) ⟨_,e,rq⟩ (λs'=>typeIs_int s' k t) noFill_list_mul F.fills_int_mul F.slot_int_rmul repeat_list F.slot_int_index.lookup
  (call_meets F.slot_int_rmul (typeIs_int s k t) F.entry_int_rmul (F.args_int_rmul_2 _ _) (int___rmul___int_list k t l its.toArray n)
   ⟨e,rq,⟨_,e,rq⟩,call_meets F.slot_list_mul ⟨_,e,rq⟩ F.entry_list_mul (F.args_list_mul_2 _ _) (AutoListH.list___mul___list_int_3 l its.toArray n k t hfit hcap TF) ⟨e,?_⟩⟩)
 rw[hnew];exact⟨.ref _,_,I.Z7 (t':=s.toks) (r.rep k.toNat) (by rw[len_rep,Nat.mul_comm];exact hz),rq,q _ I.fresh⟩
end
section
variable {prog:Program} {w:World} {A:Around} {E:YA} {s:Shared}
set_option maxRecDepth 100000 in
end
section
variable {X:Cx}
end
end L2
namespace Att
open PySem PySem.W PySem.Calls PyProof.Rows
theorem Lz {P:Params} {h:Heap}:∀(ns:List Int) (vs:YE),WellAll P h vs (ns.map WData.int)->IntsAre vs ns:=by
 intro ns
 induction ns with
 | nil=>
  intro vs w;rw[Qca] at w;cases w;exact .nil
 | cons n ns ih=>
  intro vs w;rw[QbP] at w;cases w with
  | cons a b=>
   cases a;exact .cons _ _ (ih _ b)
theorem Uj {l:OpenLaw} {n:Nat} (hn:l.most=some n) {P:Params} {h:Heap} {args:List WData} {vals:YE}
  (hpre:l.row.toRowW.claim.pre args=true) (hwl:WellAll P h vals args) :
  ∃a vs ns,vals=[Value.ref a]/\args=[WData.list (ns.map WData.int)]/\h.get? a=some { cls:=.type "list",data:=.seq vs.toArray }/\IntsAre vs ns/\ns.length<=n:=by
 have hsh:WShape.hasAll [] args [.list .int]=true:=(pre_splitW hpre).1;have hc:l.pre.holds [] { args:=args }=true:=(pre_splitW hpre).2;obtain⟨d,r,rfl,h1,h2⟩:=hasAllW_cons hsh;obtain rfl:=hasAllW_nil h2;obtain⟨xs,rfl,h3⟩:=hasW_list h1;obtain⟨ns,rfl⟩:=items_int h3;have hlen:ns.length<=n:=by
  unfold OpenLaw.pre at hc;have h4:(WTm.not (.lt (.lit (.int (n:Int))) (.len (.arg 0)))).holds [] { args:=[.list (ns.map .int)] }=true:=by
   have h4:=(holds_andW hc).1;rw[hn] at h4;exact h4
  have h5:=condW_of h4 (w_not (w_lt w_lit (w_len_list (w_arg rfl))));rw[Qbu] at h5;refine Nat.le_of_not_lt λq=>?_;have q':(n:Int) < ((ns.length:Nat):Int):=by omega
  first
   | (rw[QbJ q'] at h5;exact absurd h5 (by decide))
   | (simp at h5;omega)
 cases hwl with
 | cons w1 w2=>
  cases w2;cases w1 with
  | list ho hall=>exact⟨_,_,ns,rfl,rfl,ho,Lz ns _ hall,hlen⟩
theorem Uq (l:OpenLaw) (args:List WData):l.row.toRowW.claim.post args (.bool true) args=true:=
 postW_of (r:=l.row.toRowW) (X:=(true == true))
  (show WShape.has [] (.bool true) .bool=true by first | rfl | decide | simp[WShape.has,WShape.arms,WShape.armsAll])
  (show (WTm.eq .res (.lit (.bool true))).value [] { args:=args,res:=some (.bool true),after:=args }=some (.bool (true == true)) from w_eq_bool (w_res rfl) w_lit) rfl
theorem Rj {l:OpenLaw} {n:Nat} {q:Program} {loose:YF} {XP:(YB)->Heap->Prop} {YP:World->Heap->Prop} {d:DefRec}
  (hn:l.most=some n) (hdf:d.params.defaults=[])
  (call:∀(w:World) (s₀ s₁ : Shared) (mg mb:YB) (fa:Addr) (o:Obj) (pm cd doc:Value) (a:Addr) (vs:YE) (ns:List Int),
   Ground q loose [] XP w s₀ mg mb s₁.heap->YP w s₁.heap ->
   s₁.heap.get? fa=some o->o.data=.func (docDef d.name d.params d.body d.scope pm cd doc)->s₁.heap.CodeRec cd d.name->mg d.name=some (.ref fa) ->
   s₁.heap.get? a=some { cls:=.type "list",data:=.seq vs.toArray }->IntsAre vs ns->ns.length<=n->s₁.gens=#[] ->
   codeAny (model l.prog w) callerA (.call (.ref fa) ⟨[.ref a],[]⟩) (λr s'=>r=.ok (.ret (.bool true))/\OldK s₁.heap s'.heap/\s'.os=s₁.os/\AllBare s'.gens) s₁) :
  WalkO q loose XP YP l.row.toRowW d [] (λf vs=>PySem.call f vs):=by
 intro w s₀ s₁ mg mb G Y fa o pm cd doc dV kV ho hd hcd hD hmg hg args vals as hpre hlay hrd hwl hlo;obtain rfl:dV=.none:=Dflts.none hD hdf;obtain rfl:kV=.none:=Dflts.noKw hD;obtain⟨a,vs,ns,rfl,rfl,hobj,hints,hlen⟩:=Uj hn hpre hwl;refine enter_call (codeAny_mono (call w s₀ s₁ mg mb fa o pm cd doc a vs ns G Y ho (fd_plain hd) hcd hmg hobj hints hlen hg) λr s' hq=>?_);obtain⟨rfl,h2,h3,h4⟩:=hq;exact⟨.inl ⟨.bool true,.bool true,[],rq,λ_=>rfl,.bool true,Uq l _,λ_=>⟨List.Pairwise.nil,λ_ hm=>(nomatch hm)⟩⟩,h2,h3,h4⟩
section
variable {prog:Program} {w:World} {A:Around} {E:YA} {s:Shared} {K:Frag}
def Js (h:Heap):Heap:={ h with objs:=#[] }
theorem Ea (h:Heap) (b:Addr):(Js h).get? b=none:=by
 cases e:(Js h).get? b with
 | none=>rfl
 | some o=>exact absurd (QbU e) (QbF _)
theorem Qt {h:Heap} {L:Addr} {m:YB} (n:h.Ns L m):Fr (Js h) L h m:=
 ⟨n,λb o e=>(by rw[Ea] at e;cases e),Qce _⟩
end
end Att
namespace L2
open PySem PySem.Spec PyProof.Rows
theorem Nj:∀{vs:YE} {ns:List Int},IntsAre vs ns->Vals (ns.map V.int) vs
 | _,_,.nil=>.nil
 | _,_,.cons n t h=>.cons ⟨t,rfl⟩ (Nj h)
def Only (H:Hp):Prop:=∀b,H b=none\/∃o xs,H b=some (.frz o (.lst xs))
theorem Wz {P:Program} {w:World} {K:YD} {mg mb:YB} {CX:CXT} {k:Nat} {fa a:Addr} {fd:FuncData} {x:Str} {sp:Sp} {s₁ : Shared} {vs:YE} {ns:List Int}
  (KX:K.In s₁.heap) (hns:s₁.heap.Ns mainGlobals mg) (hb:s₁.heap.Ns builtinsNs mb) (hbb:∀x:Str,x≠"__name__"->mb x=bootBuiltins x) (hlim:s₁.heap.NoLimit) (hg:s₁.gens=#[])
  (ha:s₁.heap.get? a=some { cls:=.type "list",data:=.seq vs.toArray }) (hi:IntsAre vs ns) (hl:ns.length<=sizeLine) (hr:Bk k callerA)
  (F:∀base:Heap,K.In base->base.Ns mainGlobals mg->DK P w K mg base CX k fa fd [x] sp) (hbind:∀(s:Shared) (u:Value),BindsTo s fd ⟨[u],[]⟩ [(x,u)])
  (hsp:∀H:Hp,Only H->SqL K H a (ns.map V.int)->sp [.ref a] H (λv _=>v=.bl true) λ_ _ _=>False)
  (hCX:∀H e s',CX [] H s₁ (λ_ _ _=>False) e s'->False) :
  codeAny (model P w) callerA (.call (.ref fa) ⟨[.ref a],[]⟩) (λr s'=>r=.ok (.ret (.bool true))/\OldK s₁.heap s'.heap/\s'.os=s₁.os/\AllBare s'.gens) s₁:=by
 have rv:=Nj hi;have lenV:=hi.length;have core:∀H:Hp,Only H->SqL K H a (ns.map V.int)->HOk P w H s₁.heap->(∀b,H b≠none->b=a)->(H a≠none->K.lookup a=none) ->
   codeAny (model P w) callerA (.call (.ref fa) ⟨[.ref a],[]⟩) (λr s'=>r=.ok (.ret (.bool true))/\OldK s₁.heap s'.heap/\s'.os=s₁.os/\AllBare s'.gens) s₁:=by
  intro H hO hS hok hA hK;have RV:∀{b:Addr} {o:Obj},s₁.heap.get? b=some o->H b=none->(Jb s₁.heap H).get? b=some o:=λe n=>WR e n;have noA:∀{b:Addr} {o:Obj} {es:YK} {ep:Nat},s₁.heap.get? b=some o->o.data=.dict es ep->H b=none:=λ{b o es ep} e d=>by
   cases q:H b with
   | none=>rfl
   | some u=>
    have e':b=a:=hA b (by rw[q];simp);subst e';rw[ha] at e;cases e;have d':Data.seq vs.toArray _=Data.dict es ep:=d;cases d'
  have nsK:∀{b:Addr} {m:YB},s₁.heap.Ns b m->(Jb s₁.heap H).Ns b m:=λ{b m} ⟨o,es,ep,e,d,r⟩=>⟨o,es,ep,RV e (noA e d),d,r⟩;have hKb:K.In (Jb s₁.heap H):=λb o e=>RV (KX b o e) (by
   cases q:H b with
   | none=>rfl
   | some u=>
    have e':b=a:=hA b (by rw[q];simp);subst e';rw[hK (by rw[q];simp)] at e;cases e)
  have hM:Mod K mg (Jb s₁.heap H):=⟨hKb,nsK hns,⟨mb,nsK hb,hbb⟩,let ⟨mc,h1,h2⟩:=hlim;⟨mc,nsK h1,h2⟩⟩;have e0:Ih P w K mg (Jb s₁.heap H) callerA [] s₁ H:=⟨rq,hM,λb o e=>YQ e,Nat.le_of_eq (Vl _ _),trivial,λb hb=>absurd (show b∈([]:List Addr) from hb) (by simp),hok,.of_eq hg⟩
  refine codeAny_mono ((F _ hKb (nsK hns)).run callerA [] s₁ H ⟨[.ref a],[]⟩ [.ref a] [.ref a] _ _ hr e0 (hbind s₁ (.ref a)) (.cons rfl .nil) (hsp H hO hS)) λr s' h=>?_;cases r with
  | error e=>exact (hCX H e s' h).elim
  | ok fl=>
   cases fl with
   | next=>exact False.elim h
   | brk=>exact False.elim h
   | cont=>exact False.elim h
   | ret u=>
    obtain⟨v,H',os,bare,un,hok',r',q⟩:=h;have q':v=.bl true:=q;subst q';obtain rfl:u=Value.bool true:=r';refine⟨rq,OldK.of_keep λb o e=>?_,os,bare⟩;cases q:H b with
    | none=>exact un.keep b o e q (by intro z;exact absurd (show b∈([]:List Addr) from z) (by simp)) (by simp)
    | some u=>
     rcases hO b with z |⟨ob,xs,z⟩
     ·rw[q] at z;cases z
     ·have z2:=un.Hv b ob _ z;obtain⟨e1,_⟩:=hok b _ z;obtain⟨e2,_⟩:=hok' b _ z2;rw[e] at e1;cases e1;exact e2
 cases hk:K.lookup a with
 | some o=>
  have e:=KX a o hk;rw[ha] at e;cases e;refine core (λ_=>none) (λ_=>.inl rfl) (.inr ⟨_,vs.toArray,_,hk,rq,rq,rq,by rw[QaZ,lenV];exact hl,by simpa using rv⟩) (λb u z=>by have z':(none:Option HO)=some u:=z;cases z') (λb z=>absurd rfl z) λz=>absurd rfl z
 | none=>
  refine core (λb=>if b=a then some (.frz { cls:=.type "list",data:=.seq vs.toArray } (.lst (ns.map V.int))) else none) (λb=>?_) (.inl (.inr ⟨{ cls:=.type "list",data:=.seq vs.toArray },if_pos rfl⟩)) (λb u z=>?_) (λb z=>?_) λ_=>hk
  ·by_cases hb:b=a
   ·exact .inr ⟨_,_,if_pos hb⟩
   ·exact .inl (if_neg hb)
  ·by_cases hb:b=a
   ·have z':=(if_pos hb).symm.trans z;cases z';subst hb;exact⟨ha,by rw[Qbu];exact hl,vs,_,rv,ha⟩
   ·have z':=(if_neg hb).symm.trans z;cases z'
  ·by_cases hb:b=a
   ·exact hb
   ·exact absurd (if_neg hb) z
theorem X5 {l:PySem.W.OpenLaw} {n k:Nat} {q:Program} {loose:YF} {XP:(YB)->Heap->Prop} {YP:World->Heap->Prop} {d:DefRec} {K:Params->YD} {CX:World->CXT} {sp:World->Sp} {x:Str}
  (hn:l.most=some n) (hn2:n<=sizeLine) (hdf:d.params.defaults=[]) (hr:Bk k callerA)
  (hY:∀(w:World) (h:Heap),YP w h->(K w.params).In h)
  (F:∀(w:World) (mg:YB) (fa:Addr) (h:Heap),(K w.params).In h->h.Ns mainGlobals mg->mg d.name=some (.ref fa) ->
   ∃fd:FuncData,(∀(s:Shared) (u:Value),BindsTo s fd ⟨[u],[]⟩ [(x,u)]) /\
    ∀base:Heap,(K w.params).In base->base.Ns mainGlobals mg->DK l.prog w (K w.params) mg base (CX w) k fa fd [x] (sp w))
  (hsp:∀(w:World) (H:Hp) (a:Addr) (ns:List Int),ns.length<=n->Only H->SqL (K w.params) H a (ns.map V.int)->sp w [.ref a] H (λv _=>v=.bl true) λ_ _ _=>False)
  (hCX:∀(w:World) (H:Hp) (s:Shared) (e:Value) (s':Shared),CX w [] H s (λ_ _ _=>False) e s'->False) :
  PySem.W.WalkO q loose XP YP l.row.toRowW d [] (λf vs=>PySem.call f vs):=by
 refine Att.Rj hn hdf λw s₀ s₁ mg mb fa o pm cd doc a vs ns G Y ho hd hcd hmg hobj hints hlen hg=>?_;have KX:=hY w _ Y;obtain⟨fd,hb,hF⟩:=F w mg fa _ KX G.T.g hmg;exact Wz KX G.T.g G.T.b G.T.builtins G.T.nolimit hg hobj hints (QbW hlen hn2) hr hF hb (λH hO hS=>hsp w H a ns hlen hO hS) λH e s'=>hCX w H s₁ e s'
def inClass (s:Stmt) (j:Nat):Stmt:=match s with
 | .ClassDef _ _ _ body _ _ _ _ _ _ _=>body.getD j (.Pass ⟨0,0,0,0⟩)
 | _=>.Pass ⟨0,0,0,0⟩
def Aw (s:Stmt):Arguments:=match s with
 | .FunctionDef _ a _ _ _ _ _ _ _ _=>a
 | _=>{ posonlyargs:=[],args:=[],vararg:=none,kwonlyargs:=[],kw_defaults:=[],kwarg:=none,defaults:=[] }
def Av (s:Stmt):List Stmt:=match s with
 | .FunctionDef _ _ b _ _ _ _ _ _ _=>b
 | _=>[]
def Ad (s:Stmt):Scope:=match s with
 | .FunctionDef _ _ _ _ _ _ sc _ _ _=>sc
 | _=>{ kind:=.function,names:=[],isGenerator:=false,isCoroutine:=false }
abbrev CX0:CXT:=λ_ _ _ _ _ _=>False
abbrev E0:XK:=λ_ _ _=>False
theorem Lj {X:Cx}:Passes CX0 X E0:=λ_ _ _ _ _ _ _ h=>h.elim
structure Fun (K:YD) (x qual:Str) (st:Stmt) (f:Addr) (fd:FuncData):Prop where
 ex:∃(oc:Value) (od:Option Addr) (kV doc pm:Value) (an:Option Addr) (cdv ct:Value) (osl:YI),
  fd=fnOf x qual (Aw st) (Av st) (Ad st) .none kV doc pm an cdv ct/\K.lookup f=some ⟨oc,od,.func fd,osl⟩/\codeIn K cdv qual=true
 kp:keepIn K (.ref f)=true
section
variable {P:Program} {w:World} {K:YD} {mg:YB} {base:Heap}
theorem Fun.ok {x qual:Str} {st:Stmt} {f:Addr} {fd:FuncData} {N ps:YF} {k:Nat} {sp:Sp} (F:Fun K x qual st f fd) (S:Az N ps (Ad st)) (len:∀vs H Q E,sp vs H Q E->vs.length=ps.length)
  (hbody:∀(cdv:Value) (A:Around) (outer:List Env) (s:Shared) (H:Hp) (vs:YG) (Q:VK) (E:XK),Bk k (A.deeper (envOfC qual (Ad st) s.heap.objs.size f cdv))->sp vs H Q E ->
   ∃t,PSs (Jw CX0 P w K mg base N qual (Ad st) f cdv A outer s H E).nox (Av st) t/\t { nx:=λ_ H'=>Q .non H',rt:=Q } (start N vs) H):DK P w K mg base CX0 (k+1) f fd ps sp:=by
 obtain⟨oc,od,kV,doc,pm,an,cdv,ct,osl,rfl,lk,hcd⟩:=F.ex;refine cQ lk hcd S len λA outer s H vs Q E hr hsp=>?_;obtain⟨t,h,q⟩:=hbody cdv A outer s H vs Q E hr hsp;exact⟨t,h.nox,q⟩
theorem Fun.binds {x qual:Str} {st:Stmt} {f:Addr} {fd:FuncData} {ps:YF} (F:Fun K x qual st f fd)
  (h:∀(kV doc pm:Value) (an:Option Addr) (cdv ct:Value) (us:YE),us.length=ps.length->bindArgs (fnOf x qual (Aw st) (Av st) (Ad st) .none kV doc pm an cdv ct) ⟨us,[]⟩=pure (ps.zip us)):Binds K fd ps []:=by
 obtain⟨oc,od,kV,doc,pm,an,cdv,ct,osl,rfl,lk,hcd⟩:=F.ex;exact .all (h kV doc pm an cdv ct)
theorem Ew {x qual:Str} {st:Stmt} {f:Addr} {oc:Value} {od an:Option Addr} {osl:YI} {kV doc pm cdv ct:Value} (l:K.lookup f=some ⟨oc,od,.func (fnOf x qual (Aw st) (Av st) (Ad st) .none kV doc pm an cdv ct),osl⟩)
  (c:codeIn K cdv qual=true) (k:keepIn K (.ref f)=true):Fun K x qual st f (fnOf x qual (Aw st) (Av st) (Ad st) .none kV doc pm an cdv ct):=⟨⟨oc,od,kV,doc,pm,an,cdv,ct,osl,rq,l,c⟩,k⟩
end
theorem XH {A:Around} {k:Nat} (hr:Bk k A):A.units+1 < cLine:=Nat.lt_of_le_of_lt (Nat.add_le_add_left (by decide:1<=64) _) hr.units
theorem Aq {n:Nat} (h:n<=1000):n < sizeLine:=Nat.lt_of_le_of_lt h (by decide)
section
variable {X:Cx}
theorem pv (i:Nat) {x:Str} {pos:Pos} (hN:X.N[i]?=some x:=by rfl) (hv:Vis X.env.scope x:=by first | exact Or.inl rfl | exact Or.inr (Or.inl rfl) | exact Or.inr (Or.inr rfl)) (hd:(x == ("__debug__":Str))=false:=by decide)
  (hcd:(x == ("__classdict__":Str))=false:=by decide):PE X (.Name x pos) (Zq i):=ZQ hN hv hd hcd
end
theorem Bs {A B:Prop} (h:B):if false=true then A else B:=by
 rw[if_neg QaK];exact h
theorem Ce {A B:Prop} (h:A):if true=true then A else B:=by
 rw[if_pos rfl];exact h
theorem MP {c A B:Prop} [Decidable c] (h1:c->A) (h2:¬c->B):if c then A else B:=by
 by_cases h:c
 ·rw[if_pos h];exact h1 h
 ·rw[if_neg h];exact h2 h
def Same (H H':Hp):Prop:=∀b o,H b=some o->H' b=some o
theorem Same.refl (H:Hp):Same H H:=λ_ _ h=>h
theorem Same.trans {H H1 H2:Hp} (a:Same H H1) (b:Same H1 H2):Same H H2:=λc o h=>b c o (a c o h)
theorem Same.free {H H':Hp} (e:Same H H') {l:Addr} (h:H' l=Option.none):H l=Option.none:=by
 cases q:H l with
 | none=>rfl
 | some o=>
  rw[e l o q] at h;cases h
theorem Same.seq {K:YD} {H H':Hp} {a:Addr} {xs:YG} (e:Same H H') (h:SqL K H a xs):SqL K H' a xs:=by
 rcases h with (h |⟨o,h⟩) | h
 ·exact .inl (.inl (e _ _ h))
 ·exact .inl (.inr ⟨o,e _ _ h⟩)
 ·exact .inr h
def Dz (env:Env):List (Str×NameKind)->List (Str×Addr)->List (Str×Addr)
 | [],cs=>cs
 | (n,k)::r,cs=>Dz env r (if (k == .free)=true then (match env.cells.lookup n with | some c=>(n,c)::cs | none=>cs) else cs)
theorem Qy {env:Env}:∀(names:List (Str×NameKind)) (cs:List (Str×Addr)),(∀p∈names,p.2=.free->∃c,env.cells.lookup p.1=some c) ->
  (forIn names cs λ(p:Str×NameKind) (r:List (Str×Addr))=>(if (p.2 == .free)=true then do
    let c <-cellOf env p.1
    pure (ForInStep.yield ((p.1,c)::r))
   else pure (ForInStep.yield r):Sem (ForInStep (List (Str×Addr)))))=pure (Dz env names cs)
 | [],cs,_=>rfl
 | (n,k)::rest,cs,h=>by
  have ih:=λcs'=>Qy rest cs' λp hp=>h p (Qax _ hp);rw[List.forIn_cons];cases hk:(k == NameKind.free) with
  | true=>
   obtain⟨c,hc⟩:=h (n,k) QaP (eq_of_beq hk);have e1:cellOf env n=pure c:=by unfold cellOf;rw[hc]
   have e2:Dz env ((n,k)::rest) cs=Dz env rest ((n,c)::cs):=by simp only[Dz,hk,if_true,hc]
   rw[e2,<-ih];simp only[hk,if_true,e1,pure_bind]
  | false=>
   have e2:Dz env ((n,k)::rest) cs=Dz env rest cs:=by simp only[Dz,hk,QaU,if_false]
   rw[e2,<-ih];simp only[hk,QaU,if_false,pure_bind]
theorem TY {env:Env} {scope:Scope} (h:∀p∈scope.names,p.2=.free->∃c,env.cells.lookup p.1=some c):closureFor scope env=pure (Dz env scope.names []):=by
 have e:=Qy (env:=env) scope.names [] h;unfold closureFor;simp only[bind_pure];exact e
theorem Qx {env:Env}:∀(names:List (Str×NameKind)) (cs:List (Str×Addr)),(∀x c,cs.lookup x=some c->env.cells.lookup x=some c) ->
  ∀x c,(Dz env names cs).lookup x=some c->env.cells.lookup x=some c
 | [],cs,h,x,c,e=>h x c e
 | (n,k)::rest,cs,h,x,c,e=>by
  refine Qx rest _ (λy d z=>?_) x c e;split at z
  ·split at z
   ·rename_i c' hc';rw[List.lookup_cons] at z;cases q:y == n with
    | true=>rw[q] at z;cases z;rw[eq_of_beq q];exact hc'
    | false=>rw[q] at z;exact h y d z
   ·exact h y d z
  ·exact h y d z
theorem KY {env:Env}:∀(names:List (Str×NameKind)) (cs:List (Str×Addr)) (x:Str),((cs.lookup x).isSome=true\/((x,NameKind.free)∈names/\∃c,env.cells.lookup x=some c)) ->
  ∃c,(Dz env names cs).lookup x=some c
 | [],cs,x,h=>by
  rcases h with h |⟨h,_⟩
  ·exact Option.isSome_iff_exists.mp h
  ·cases h
 | (n,k)::rest,cs,x,h=>by
  refine KY rest _ x ?_;have grow:(cs.lookup x).isSome=true->(List.lookup x (if (k == .free)=true then (match env.cells.lookup n with | some c=>(n,c)::cs | none=>cs) else cs)).isSome=true:=λz=>by
   split
   ·split
    ·rw[List.lookup_cons];cases x == n with
     | true=>rfl
     | false=>exact z
    ·exact z
   ·exact z
  rcases h with h |⟨h,c,hc⟩
  ·exact .inl (grow h)
  ·rcases QbN.mp h with z | z
   ·cases z;refine .inl ?_;simp[hc,List.lookup_cons]
   ·exact .inr ⟨z,c,hc⟩
def Hl (env:Env) (n:Str) (k:NameKind):NameKind:=if (k == .free&&env.scope.kind == .function&&env.kindOf n == some .cell)=true then .cell else k
theorem Ls (env:Env):∀(l:List (Str×NameKind)) (x:Str),
  (l.map λ(n,k)=>if (k == NameKind.free&&env.scope.kind == .function&&env.kindOf n == some .cell) then (n,NameKind.cell) else (n,k)).lookup x=(l.lookup x).map (Hl env x)
 | [],_=>rfl
 | (n,k)::r,x=>by
  have ih:=Ls env r x;have e:(if (k == NameKind.free&&env.scope.kind == .function&&env.kindOf n == some .cell)=true then (n,NameKind.cell) else (n,k))=(n,Hl env n k):=by
   unfold Hl;split <;> rfl
  rw[QbP];show List.lookup x ((if (k == NameKind.free&&env.scope.kind == .function&&env.kindOf n == some .cell)=true then (n,NameKind.cell) else (n,k))::_)=_
  rw[e,List.lookup_cons,List.lookup_cons];cases q:x == n with
  | true=>rw[eq_of_beq q];rfl
  | false=>exact ih
theorem Wc {env:Env} {n:Str} {k:NameKind} (h:Hl env n k=.cell\/Hl env n k=.free):k=.cell\/k=.free:=by
 unfold Hl at h;split at h
 ·rename_i q;simp only[Qbs] at q;exact .inr (eq_of_beq q.1.1)
 ·exact h
theorem VF {prog:Program} {w:World} {A:Around} {R:Result->Shared->Prop} {s:Shared} {elt target iter:Expr} {ifs:YJ} {scope:Scope} {pos:Pos} {it acc:Value} {env:Env} (J:Nat->Shared->Prop)
  (turn:∀n s,J n s->wpAny (model prog w) A (pyNext it) (λr s1=>match r with
   | none=>R (.ok .next) s1
   | some v=>wpAny (model prog w) A (letOwnedTupleGo target it v) (λ_ s2=>wpAny (model prog w) A (assign target env v) (λ_ s3=>
     wpAny (model prog w) A (forIn ifs true λc r=>if r=true then do let ok <-isTrue c env (eval c env);pure (ForInStep.yield ok) else pure (ForInStep.yield r)) (λok s4=>
      if ok=true then wpAny (model prog w) A (eval elt env) (λx s5=>wpAny (model prog w) A (call (.builtin "list.append") [acc,x]) (λ_ s6=>∃m,m < n/\J m s6) (λ_ _=>False) s5) (λ_ _=>False) s4
      else ∃m,m < n/\J m s4) (λ_ _=>False) s3) (λ_ _=>False) s2) (λ_ _=>False) s1) (λ_ _=>False) s)
  (n:Nat) (h:J n s):codeAny (model prog w) A (.compLoop (.ListComp elt [⟨target,iter,ifs,0⟩] scope pos) 0 it acc env) R s:=by
 refine codeAny_loop rfl J (λk s' hk=>?_) n h;show wpAny _ A (Sem.onRaise (compTurn (.ListComp elt [⟨target,iter,ifs,0⟩] scope pos) 0 it acc env) (λx=>do noteFrame x env;theTreesLotGoes x)) _ _ s'
 refine wpAny_noted ?_;rw[compTurn_list];refine Qcg (wpAny_standAt (Qcg (Qci (turn k s' hk) (λr s1 q1=>?_) λ_ _ f=>f.elim)));cases r with
 | none=>exact Qch q1
 | some v=>
  refine Qcg (Qci q1 (λ_ s2 q2=>Qcg (Qci q2 (λ_ s3 q3=>Qcg (Qci q3 (λok s4 q4=>?_) λ_ _ f=>f.elim)) λ_ _ f=>f.elim)) λ_ _ f=>f.elim);cases ok with
  | false=>exact Qch ⟨rfl,q4⟩
  | true=>exact Qcg (Qcg (Qci q4 (λx s5 q5=>Qcg (Qci q5 (λ_ s6 q6=>Qch (Qch ⟨rfl,q6⟩)) λ_ _ f=>f.elim)) λ_ _ f=>f.elim))
def cxC (X:Cx) (N':YF) (scope:Scope) (s3:Shared) (H3:Hp) (fp:List Addr) (pn:YC):Cx where
 prog:=X.prog
 w:=X.w
 K:=X.K
 mg:=X.mg
 base:=X.base
 A:=X.A
 N:=N'
 s₀:=s3
 H₀:=H3
 env:=compEnvC scope (Dz X.env scope.names []) s3.heap.objs.size X.env
 outer:=X.stack
 stack:=X.stack
 ex:=fp
 fn:=λ_=>false
 calm:=X.calm
 pn:=pn
 xe:=λ_ _=>False
structure Bp (X:Cx) (N':YF) (src:List (Option Nat)) (sc:Scope):Prop where
 kind:sc.kind=.function
 GZ:∀y∈sc.names,y.2≠.cell
 loc:∀y∈sc.names,y.2=.local->sc.names.lookup y.1=some .local
 fv:∀y∈sc.names,y.2=.free->X.env.kindOf y.1=some .cell\/X.env.kindOf y.1=some .free
 len:src.length=N'.length
 src:∀(i:Nat) (x:Str) (j:Nat),N'[i]?=some x->src[i]?=some (some j)->X.N[j]?=some x/\sc.names.lookup x=some .free
def Ip (src:List (Option Nat)) (Z : St):St:=src.map λo=>match o with | none=>none | some j=>(Z[j]?).join
def PF (X:Cx) (ifs:YJ) (t:TT):Prop:=
 ∀(jb:YC) (s:Shared) (Z : St) (H:Hp) (Q:Bool->Hp->Prop),Inv X jb Z H s->t Z H Q ->
  wpAny (model X.prog X.w) X.A (forIn ifs true λc r=>if r=true then do let ok <-isTrue c X.env (eval c X.env);pure (ForInStep.yield ok) else pure (ForInStep.yield r)) (TP X jb Z Q) X.xe s
theorem Fg {X:Cx}:PF X [] (λ_ H Q=>Q true H):=λ_ _ _ H _ I h=>wpAny_tests_nil ⟨H,I,h⟩
theorem Ho {X:Cx} {c:Expr} {t:TT} (hc:PT X c t):PF X [c] t:=λjb s Z H Q I h=>wpAny_tests_one (hc jb s Z H Q I h)
theorem Un.ahead {fs ex:List Addr} {H H':Hp} {h h1 h':Heap} (u:Un fs ex H H' h h1) (k:∀b o,b < h.objs.size->h1.get? b=some o->h'.get? b=some o):Un fs ex H H' h h' where
 keep:=λb o e n hb hx=>k b o (QbU e) (u.keep b o e n hb hx)
 slot:=λb o e n hb hx=>by
  obtain⟨sl,q⟩:=u.slot b o e n hb hx;exact⟨sl,k b _ (QbU e) q⟩
 free:=u.free
 there:=λb o e hx=>by
  obtain⟨o',q⟩:=u.there b o e hx;exact⟨o',k b _ (QbU e) q⟩
 tups:=u.tups
 Hv:=u.Hv
 Ie:=u.Ie
section
variable {X:Cx} {N':YF} {src:List (Option Nat)} {sc:Scope} {jb:YC} {Z : St} {H:Hp} {s3:Shared} {fp:List Addr} {h1:Heap} {tk:Nat}
theorem Xa (S:Bp X N' src sc) (I:Inv X jb Z H s3) (hf:∀b∈fp,Gn X jb H b) (ht:∀b∈fp,b < s3.heap.objs.size)
  (ns:h1.Ns s3.heap.objs.size λ_=>none) (kp:∀b o,s3.heap.get? b=some o->h1.get? b=some o) :
  Inv (cxC X N' sc s3 H fp (X.pn++jb)) [] (Ip src Z) H { s3 with heap:=h1,toks:=tk }:=by
 have hcl:∀x c,(Dz X.env sc.names []).lookup x=some c->X.env.cells.lookup x=some c:=Qx sc.names [] λx c e=>by cases e
 have old:∀x c,(Dz X.env sc.names []).lookup x=some c->∃o,s3.heap.get? c=some o:=λx c e=>by
  obtain⟨v,o,ho,_⟩:=I.cell x c (hcl x c e);exact⟨o,ho⟩
 have fvh:∀x,(x,NameKind.free)∈sc.names->∃c,X.env.cells.lookup x=some c:=λx hx=>I.ok.has x (S.fv _ hx rfl);have Zw:∀b,b≠X.env.locals->b∉X.fs->b∉frs X.stack:=λb h1 h2 hb=>(QbN.mp (I.O1 b hb)).elim h1 h2;have kindOf_eq:∀x,(compEnvC sc (Dz X.env sc.names []) s3.heap.objs.size X.env).kindOf x=(sc.names.lookup x).map (Hl X.env x):=λx=>Ls X.env sc.names x;refine⟨⟨I.ok.mod,S.kind,I.ok.glob,I.ok.blt,Qcd _,λx y c e1 e2=>I.ok.inj x y c (hcl x c e1) (hcl y c e2),λx hx=>?_,λx c hf=>absurd hf QaK,I.ok.hd,I.ok.frames,.inl rfl,λb hb=>?_,I.bs,QbW I.ok.bsz I.sz,
  λb o e hb=>?_,λb hb=>?_,I.stack,I.Rq⟩,rq,I.bare,Un.kept kp,⟨_,ns,λi x v e1 e2 e3=>?_⟩,λx c e=>?_,I.hok.fresh (Qcd _),λx c e=>I.Gi x c (hcl x c e),λp hp=>?_,I.hok.kept kp,?_⟩
 ·
  have hx':(sc.names.lookup x).map (Hl X.env x)=some .cell\/(sc.names.lookup x).map (Hl X.env x)=some .free:=by
   rw[<-kindOf_eq x];exact hx
  cases q:sc.names.lookup x with
  | none=>rw[q] at hx';rcases hx' with z | z <;> cases z
  | some k=>
   rw[q] at hx';have hk:k=.cell\/k=.free:=Wc (env:=X.env) (n:=x) (hx'.imp (λz=>Qbx z) λz=>Qbx z);have hm:=QaH q;rcases hk with rfl | rfl
   ·exact absurd rfl (S.GZ _ hm)
   ·exact KY sc.names [] x (.inr ⟨hm,fvh x hm⟩)
 ·
  obtain⟨f0,f1,f2,f3,f4,f5⟩:=hf b hb;exact⟨QbV (ht b hb),λx c e=>f4 x c (hcl x c e)⟩
 ·
  obtain⟨f0,f1,f2,f3,f4,f5⟩:=hf b hb;rcases f3 with z | z
  ·exact I.ok.Mz b o e z
  ·exact absurd (QaN (QbU e) (QbW I.ok.bsz z)) (QbQ _)
 ·
  obtain⟨f0,f1,f2,f3,f4,f5⟩:=hf b hb;exact Zw b f1 f2
 ·
  have e2':(Ip src Z)[i]?=some (some v):=e2;unfold Ip at e2';rw[Qbb] at e2';cases q:src[i]? with
  | none=>rw[q] at e2';cases e2'
  | some oj=>
   rw[q] at e2';cases oj with
   | none=>cases e2'
   | some j=>
    have e4:(Z[j]?).join=some v:=Qbx e2';have e5:Z[j]?=some (some v):=by
     cases r:Z[j]? with
     | none=>rw[r] at e4;cases e4
     | some z=>rw[r] at e4;cases z with
      | none=>cases e4
      | some y=>cases e4;rfl
    obtain⟨hN,hfr⟩:=S.src i x j e1 q;have hm:=QaH hfr;have kx:=S.fv _ hm rfl;obtain⟨m,hn,hl⟩:=I.loc;obtain⟨u,r,l⟩:=hl j x v hN e5 (.inr kx);refine⟨u,r,?_⟩;rcases l with⟨k1,_⟩|⟨_,c,hc,hcell⟩
    ·rcases kx with z | z <;> (rw[z] at k1;cases k1)
    ·obtain⟨c',hc'⟩:=KY (env:=X.env) sc.names [] x (.inr ⟨hm,c,hc⟩);have e6:c'=c:=by
      have:=hcl x c' hc';rw[hc] at this;exact (Qbx this).symm
     subst e6;refine .inr ⟨?_,c',hc',?_⟩
     ·have:(compEnvC sc (Dz X.env sc.names []) s3.heap.objs.size X.env).kindOf x=some (Hl X.env x .free):=by rw[kindOf_eq x,hfr];rfl
      show (compEnvC sc (Dz X.env sc.names []) s3.heap.objs.size X.env).kindOf x=some .cell\/(compEnvC sc (Dz X.env sc.names []) s3.heap.objs.size X.env).kindOf x=some .free;rw[this];unfold Hl;split
      ·exact .inl rfl
      ·exact .inr rfl
     ·obtain⟨o,ho,hd⟩:=hcell;exact⟨o,kp _ o ho,hd⟩
 ·
  obtain⟨v,o,ho,hd⟩:=I.cell x c (hcl x c e);exact⟨v,o,kp _ o ho,hd⟩
 ·
  have hp':p∈X.pn++jb:=(Qbw.mp hp).elim id λz=>by cases z
  obtain⟨a1,a2,a3,a4,a5⟩:=I.pin p hp';exact⟨kp _ _ a1,a2,QbV (QbU a1),Zw p.1 a3 a4,a5⟩
 ·show (Ip src Z).length=N'.length;unfold Ip;rw[Qbu];exact S.len
theorem VD {s1:Shared} {σ':St} {H':Hp} {h':Heap} (I:Inv X jb Z H s3) (hf:∀b∈fp,Gn X jb H b) (I':Inv (cxC X N' sc s3 H fp (X.pn++jb)) [] σ' H' s1)
  (sb:Heap.SameBut s3.heap.objs.size s1.heap h'):Inv X jb Z H' { s1 with heap:=h' }:=by
 have fr:H' s3.heap.objs.size=none:=I'.free;refine I.call' (s':={ s1 with heap:=h' }) (ch:=fp) I'.os ?_ ?_ I'.bare λb hb=>?_
 ·exact Un.ahead (h:=s3.heap) (h1:=s1.heap) I'.base λb o hb e=>sb.extBut b o (QbV hb) e
 ·exact λb u e=>(I'.hok b u e).stay (λc v hc q=>sb.extBut c v (by
   intro z;rcases hc with y | y
   ·rw[<-y,z,fr] at e;cases e
   ·rw[z,fr] at y;cases y) q) (λ_ q=>q) λ_ _ q=>q
 ·obtain⟨f0,f1,f2,f3,f4,f5⟩:=hf b hb;exact⟨f3,f1,f4,λp hp=>f5 p hp⟩
end
@[irreducible] def Ej (J:It) (g:TG) (tt:TT) (te:TE) (Q:VK) (σ0:St) (H0:Hp) (l:Addr):Prop:=∃W:Nat->YN,(∃m,W 0 m σ0 H0) /\
 ∀i m σ' H',W i m σ' H'->(J.stop i H'/\Q (.ref l) H')\/(J.go i H'/\∃N:YO,(∀ σ3 H3,N σ3 H3->∃m',m' < m/\W (i+1) m' σ3 H3)/\∀x H2,J.yld i H' x H2->g x σ' H2 fun σ3 H3=>tt σ3 H3 λb H4=>
  if b=true then te σ3 H4 λy H5=>∃xs,H5 l=some (.lst xs)/\xs.length < sizeLine/\N σ3 (upd H5 l (.lst (xs++[y]))) else N σ3 H4)
def Sq (wi:TI) (src:List (Option Nat)) (g:TG) (tt:TT) (te:TE):TE:=fun Z H Q=>wi Z H λJ H1=>∀l,H1 l=none->Ej J g tt te Q (Ip src Z) (upd H1 l (.lst [])) l
theorem Nr {X:Cx} {N':YF} {src:List (Option Nat)} {sc:Scope} {elt tg iter:Expr} {ifs:YJ} {pos pos':Pos} {wi:TI} {g:TG} {tt:TT} {te:TE} {use:Option (Value->Sem Unit)} {R:YA} (hc:X.calm=true) (S:Bp X N' src sc)
  (hi:PI X tg iter wi) (hg:∀s3 H3 fp pn,PG (cxC X N' sc s3 H3 fp pn) tg g) (ht:∀s3 H3 fp pn,PF (cxC X N' sc s3 H3 fp pn) ifs tt) (he:∀s3 H3 fp pn,PE (cxC X N' sc s3 H3 fp pn) elt te)
  (hs:∀x,foldedSetIterable iter X.env x=pure x) {jb:YC} {s:Shared} {Z : St} {H:Hp} {Q:VK} (I:Inv X jb Z H s) (h:Sq wi src g tt te Z H Q)
  (fin:∀s3 H3 fp σ4 H4 s5 l,Inv X jb Z H3 s3->(∀b∈fp,Gn X jb H3 b)->Inv (cxC X N' sc s3 H3 fp (X.pn++jb)) [] σ4 H4 s5->Q (.ref l) H4 ->
   compPost (model X.prog X.w) X.A X.xe use R (.ref l) s3.heap.objs.size (.ok .next) s5) :
  wpAny (model X.prog X.w) X.A (comprehension (.ListComp elt [⟨tg,iter,ifs,0⟩] sc pos) sc X.env pos' (newList []) false (eval iter X.env) use) R X.xe s:=by
 refine wpAny_comprehension_free (use:=use) (cl:=Dz X.env sc.names []) rfl hs (TY λp hp e=>I.ok.has p.1 (S.fv p hp e)) S.kind S.loc ?_;refine thn (hi jb s Z H _ I h) λv s1 h1=>thn h1 λitv s2 h2=>?_;obtain⟨it,fp,tn,J,H2,rfl,I2,T,st2,f2,q⟩:=h2;have q':=q s2.heap.objs.size (I2.hok.fresh (Qcd _));unfold Ej at q';obtain⟨W,⟨m0,w0⟩,turn⟩:=q';refine Qbe (wpAny_newFunctionEnv S.GZ (by intro y hy;simp at hy) (λha hns hsb=>?_) S.kind);have I3:Inv X jb Z (upd H2 s2.heap.objs.size (.lst [])) { s2 with heap:=s2.heap.push { cls:=.type "list",dict:=none,data:=.seq ([]:YE).toArray } }:=
  I2.laid (t':=s2.toks) (λb u e=>Qao _ e) (Qcd _) ⟨Qce _,[],0,.nil,QaD _ rfl⟩
 have hfl:∀b∈fp,b < s2.heap.objs.size:=λb hb=>by
  obtain⟨o,e,_⟩:=T.obj 0 _ st2 b hb;exact QbU e
 have f3:∀b∈fp,Gn X jb (upd H2 s2.heap.objs.size (.lst [])) b:=λb hb=>⟨by rw[Al (QbV (hfl b hb))];exact (f2 b hb).1,(f2 b hb).2⟩;generalize hs3:({ s2 with heap:=s2.heap.push { cls:=.type "list",dict:=none,data:=.seq ([]:YE).toArray } }:Shared)=s3 at *;have hsz:s2.heap.objs.size < s3.heap.objs.size:=by rw[<-hs3];show s2.heap.objs.size < (s2.heap.push _).objs.size;rw[QbL];exact Qbq _
 have kp:∀b o,s3.heap.get? b=some o->ha.get? b=some o:=λb o e=>hsb.extBut b o (QbV (QbU e)) (Qao _ e);have st3:tn 0 ha:=T.keep 0 _ _ st2 λb hb o e=>kp b o (by rw[<-hs3];exact Qao _ e);have I4:Inv (cxC X N' sc s3 (upd H2 s2.heap.objs.size (.lst [])) fp (X.pn++jb)) [] (Ip src Z) (upd H2 s2.heap.objs.size (.lst [])) { s3 with heap:=ha,toks:=s3.toks+([]:List (Str×Value)).length }:=
  Xa S I3 f3 (λb hb=>Nat.lt_trans (hfl b hb) hsz) hns kp
 have loop:codeAny (model X.prog X.w) X.A (.compLoop (.ListComp elt [⟨tg,iter,ifs,0⟩] sc pos) 0 (.ref it) (.ref s2.heap.objs.size) (compEnvC sc (Dz X.env sc.names []) s3.heap.objs.size X.env))
   (compPost (model X.prog X.w) X.A X.xe use R (.ref s2.heap.objs.size) s3.heap.objs.size) { s3 with heap:=ha,toks:=s3.toks+([]:List (Str×Value)).length }:=by
  refine VF (λn s'=>∃i σ' H',Inv (cxC X N' sc s3 (upd H2 s2.heap.objs.size (.lst [])) fp (X.pn++jb)) [] σ' H' s'/\tn i s'.heap/\(∀b∈fp,H' b=none)/\W i n σ' H') ?_ m0 ⟨0,_,_,I4,st3,λb hb=>(f3 b hb).1,w0⟩;rintro n s4 ⟨i,σ4,H4,J4,st4,fr4,w4⟩;have stat:∀{H':Hp},(∀b∈fp,H' b=none)->∀b∈fp,Gn (cxC X N' sc s3 (upd H2 s2.heap.objs.size (.lst [])) fp (X.pn++jb)) [] H' b:=λhn b hb=>
   ⟨hn b hb,(I4.ok.exf b hb).1,I4.ok.M6 b hb,.inl hb,λx c e=>(I4.ok.exf b hb).2 x c e,λp hp=>(f3 b hb).2.2.2.2.2 p ((Qbw.mp hp).elim id λz=>by cases z)⟩
  rcases turn i n σ4 H4 w4 with⟨stop,qn⟩|⟨go,N,hN,step⟩
  ·refine thn (T.done (cxC X N' sc s3 (upd H2 s2.heap.objs.size (.lst [])) fp (X.pn++jb)) rfl rfl rfl hc i [] s4 σ4 H4 _ J4 (stat fr4) st4 stop) λr s5 zz=>?_;obtain⟨hr,J5⟩:=zz;subst hr;exact fin s3 _ fp σ4 H4 s5 _ I3 f3 J5 qn
  ·refine thn (T.item (cxC X N' sc s3 (upd H2 s2.heap.objs.size (.lst [])) fp (X.pn++jb)) rfl rfl rfl hc i [] s4 σ4 H4 _ J4 (stat fr4) st4 go) λr s5 zz=>?_;obtain⟨u,hr,h5⟩:=zz;subst hr;refine thn h5 λ_ s6 zz=>?_;obtain⟨x,H6,J6,r6,y6,st6,fr6⟩:=zz;have J6':=J6.pinned (stat fr6) (T.obj _ _ st6);have back:∀{pl:YC} {σ7:St} {H7:Hp} {s7:Shared},Inv (cxC X N' sc s3 (upd H2 s2.heap.objs.size (.lst [])) fp (X.pn++jb)) ([]++Jp fp s6.heap) σ7 H7 s7->N σ7 H7 ->
     ∃m',m' < n/\∃i σ' H',Inv (cxC X N' sc s3 (upd H2 s2.heap.objs.size (.lst [])) fp (X.pn++jb)) [] σ' H' s7/\tn i s7.heap/\(∀b∈fp,H' b=none)/\W i m' σ' H':=λ{pl σ7 H7 s7} J7 w7=>by
    obtain⟨m',hm,w7⟩:=hN _ _ w7;have pinned:∀b∈fp,∀o,s6.heap.get? b=some o->s7.heap.get? b=some o/\H7 b=none:=λb hb o e=>by
     have:=J7.pin (b,o) (Qas _ (Qas _ (Iz hb e)));exact⟨this.1,this.2.1⟩
    refine⟨m',hm,i+1,σ7,H7,J7.Hh,T.keep _ _ _ st6 λb hb o e=>(pinned b hb o e).1,λb hb=>?_,w7⟩;obtain⟨o,e,_⟩:=T.obj _ _ st6 b hb;exact (pinned b hb o e).2
   refine thn (hg s3 _ fp _ _ s6 σ4 H6 x u _ J6' r6 (step x H6 y6)) λ_ s7 zz=>?_;obtain⟨σ7,H7,J7,q7⟩:=zz;refine thn (ht s3 _ fp _ _ s7 σ7 H7 _ J7 q7) λok s8 zz=>?_;obtain⟨H8,J8,q8⟩:=zz;cases ok with
   | false=>
    rw[if_neg QaK] at q8 ⊢;exact back (pl:=[]) J8 q8
   | true=>
    rw[if_pos rfl] at q8 ⊢;refine thn (he s3 _ fp _ _ s8 σ7 H8 _ J8 q8) λy s9 zz=>?_;obtain⟨yv,H9,J9,r9,xs,hl9,hz9,q9⟩:=zz;refine thn (HW _ s9 σ7 H9 (.ref s2.heap.objs.size) [yv] (.ref s2.heap.objs.size) [y] (λ_ H'=>N σ7 H') J9 rfl (.cons r9 .nil) ⟨_,xs,yv,rq,rq,hl9,hz9,q9⟩) λ_ s10 zz=>?_;obtain⟨_,H10,J10,_,q10⟩:=zz;exact back (pl:=[]) J10 q10
 exact codeAny_compStart_list loop (T.self X.A 0 _ _ _ st3 loop)
theorem Cz {X:Cx} {N':YF} {src:List (Option Nat)} {sc:Scope} {elt tg iter:Expr} {ifs:YJ} {pos:Pos} {wi:TI} {g:TG} {tt:TT} {te:TE} (hc:X.calm=true) (S:Bp X N' src sc)
  (hi:PI X tg iter wi) (hg:∀s3 H3 fp pn,PG (cxC X N' sc s3 H3 fp pn) tg g) (ht:∀s3 H3 fp pn,PF (cxC X N' sc s3 H3 fp pn) ifs tt) (he:∀s3 H3 fp pn,PE (cxC X N' sc s3 H3 fp pn) elt te)
  (hs:∀x,foldedSetIterable iter X.env x=pure x:=by intro _;rfl):PE X (.ListComp elt [⟨tg,iter,ifs,0⟩] sc pos) (Sq wi src g tt te):=by
 intro jb s Z H Q I h;rw[eval_ListComp];refine Nr (use:=none) hc S hi hg ht he hs I h λs3 H3 fp σ4 H4 s5 l I3 f3 J5 q=>?_;obtain⟨m,hn,_⟩:=J5.loc;exact⟨m,hn,λh' sb=>⟨.ref l,H4,VD I3 f3 J5 sb,rq,q⟩⟩
theorem Mq {X:Cx} {N':YF} {src:List (Option Nat)} {sc:Scope} {elt tg iter:Expr} {ifs:YJ} {pos spos px:Pos} {wi:TI} {g:TG} {tt:TT} {te:TE} {i:Nat} {x:Str} (hN:X.N.Nodup) (hi0:X.N[i]?=some x) (hx:Loc X.env.scope x) (hc:X.calm=true) (S:Bp X N' src sc)
  (hi:PI X tg iter wi) (hg:∀s3 H3 fp pn,PG (cxC X N' sc s3 H3 fp pn) tg g) (ht:∀s3 H3 fp pn,PF (cxC X N' sc s3 H3 fp pn) ifs tt) (he:∀s3 H3 fp pn,PE (cxC X N' sc s3 H3 fp pn) elt te)
  (hsw:swapsWith (.ListComp elt [⟨tg,iter,ifs,0⟩] sc pos) (some (.Name x px)) spos.line X.env=pure true:=by rfl) (hs:∀x,foldedSetIterable iter X.env x=pure x:=by intro _;rfl)
  (hf:X.fn x=true\/X.env.scope.names.lookup x=some .local:=by first | exact .inl rfl | exact .inr rfl | assumption) :
  PS X (.Assign [.Name x px] (.ListComp elt [⟨tg,iter,ifs,0⟩] sc pos) spos) (V7 (Sq wi src g tt te) (G8 i)):=by
 intro jb s Z H D I h;rw[exec_Assign_Name_used _ _ _ _ hsw];refine Qcg (wpAny_standAt (Qcg ?_));show wpAny _ X.A (do let _ <-comprehension (.ListComp elt [⟨tg,iter,ifs,0⟩] sc pos) sc X.env _ (newList []) false (eval iter X.env) (some (assign (.Name x px) X.env))) _ _ s
 refine Qcg (thn (Nr (R:=λ_ s'=>SP X jb D .next s') hc S hi hg ht he hs I h λs3 H3 fp σ4 H4 s5 l I3 f3 J5 q=>?_) λ_ s' hq=>Qch (Qch hq));obtain⟨m,⟨oC,es,ep,hoC,r⟩,_⟩:=J5.loc;have I6:Inv X jb Z H4 { s5 with heap:=s5.heap }:=VD I3 f3 J5 (Heap.SameBut.refl _ _);have hCn:H4 s3.heap.objs.size=none:=J5.free;have neL:s3.heap.objs.size≠X.env.locals:=Qcb I3.lt;have iR:∀v,oC.data≠.cell v:=λv z=>by rw[r.1] at z;cases z
 have I7:Inv X (jb++[(s3.heap.objs.size,oC)]) Z H4 s5:=I6.Mt λp hp=>(Qbw.mp hp).elim (λz=>I6.pin p (Qas _ z)) λz=>by
  cases QaJ.mp z;exact⟨hoC,hCn,neL,I3.Z2 (Qcd _),iR⟩
 show wpAny _ X.A (assign (.Name x px) X.env (.ref l)) _ _ s5;refine wpAny_assign_Name (Kq (v:=.ref l) I7 hN hi0 hx rfl (λs6 I8=>?_) hf);have k8:=(I8.pin (s3.heap.objs.size,oC) (Qas _ (Qas _ (QaJ.mpr rfl)))).1;refine⟨m,⟨oC,es,ep,k8,r⟩,λh' sb=>⟨_,H4,?_,q⟩⟩;have I9:=I8.Hh;refine I9.turned (t':=s6.toks) (λb o hb e=>sb.extBut b o hb e) hCn neL (.inr I3.sz) (λy c e z=>?_) (λp hp z=>?_)
 ·obtain⟨v,o,ho,_⟩:=I3.cell y c e;exact absurd (QbU ho) (by rw[z];exact QbQ _)
 ·have:=(I3.pin p hp).1;exact absurd (QbU this) (by rw[z];exact QbQ _)
theorem Bp.of {X:Cx} {N':YF} {src:List (Option Nat)} {sc:Scope} (fsc:Scope) (N:YF) (hX:X.env.scope=fsc) (hN:X.N=N) (kind:sc.kind=.function) (GZ:∀y∈sc.names,y.2≠.cell) (loc:∀y∈sc.names,y.2=.local->sc.names.lookup y.1=some .local)
  (fv:∀y∈sc.names,y.2=.free->fsc.names.lookup y.1=some .cell) (len:src.length=N'.length)
  (sr:((N'.zip src).all λp=>match p.2 with | none=>true | some j=>decide (N[j]?=some p.1)&&decide (sc.names.lookup p.1=some .free))=true):Bp X N' src sc where
 kind:=kind
 GZ:=GZ
 loc:=loc
 fv:=λy hy e=>.inl (by show X.env.scope.names.lookup y.1=some .cell;rw[hX];exact fv y hy e)
 len:=len
 src:=λi x j e1 e2=>by
  rw[Qbl] at sr;have hm:(x,some j)∈N'.zip src:=by
   refine Qaw (i:=i) ?_;rw[List.getElem?_zip_eq_some];exact⟨e1,e2⟩
  have:=sr _ hm;simp only[Qbs,decide_eq_true_eq] at this;rw[hN];exact this
section
variable {X:Cx}
@[irreducible] def G5 (K:YD):YG->Hp->VK->Prop:=λxs H Q=>∃x T t b,xs=[x,.ty T]/\Gy K H x t/\kitOne K t (.type T)=some b/\Q (.bl b) H
theorem Ey:Ei X (.builtin "isinstance") (G5 X.K):=by
 intro jb s Z H xs us Q I r h;unfold G5 at h;obtain⟨x,T,t,b,rfl,ty,e,q⟩:=h;obtain⟨u,w',rfl,rx,rt⟩:=vals2 r;cases rt;exact Vg I rx ty e λtk=>⟨.bl b,H,I.tok tk,rq,q⟩
theorem Rf {K:YD}:kitOne K (.type "int") (.type "int")=some true:=by rfl
theorem Qh {K:YD}:kitOne K (.type "int") (.type "bool")=some false:=by rfl
theorem Qj {K:YD}:kitOne K (.type "bool") (.type "int")=some true:=by rfl
theorem N8 {K:YD}:kitOne K (.type "bool") (.type "bool")=some true:=by rfl
theorem Qf {K:YD}:kitOne K (.type "NoneType") (.type "int")=some false:=by rfl
theorem Rb {K:YD}:kitOne K (.type "str") (.type "int")=some false:=by rfl
theorem Qg {K:YD}:kitOne K (.type "list") (.type "int")=some false:=by rfl
theorem N5 {K:YD}:kitOne K (.type "tuple") (.type "int")=some false:=by rfl
def Kn (H:Hp):V->Prop
 | .non=>True
 | .bl _=>True
 | .int _=>True
 | .str _=>True
 | .ref a=>(∃xs,H a=some (.lst xs))\/∃xs,H a=some (.tup xs)
 | _=>False
def isI:V->Bool
 | .int _=>true
 | .bl _=>true
 | _=>false
def isB:V->Bool
 | .bl _=>true
 | _=>false
def isW:V->Bool
 | .int _=>true
 | _=>false
theorem RD {K:YD} {H:Hp} {x:V} {Q:VK} (k:Kn H x) (q:Q (.bl (isI x)) H):G5 K [x,.ty "int"] H Q:=by
 unfold G5;cases x with
 | non=>exact⟨_,_,_,_,rfl,.non,Qf,q⟩
 | bl b=>exact⟨_,_,_,_,rfl,.bl b,Qj,q⟩
 | int i=>exact⟨_,_,_,_,rfl,.int i,Rf,q⟩
 | str z=>exact⟨_,_,_,_,rfl,.str z,Rb,q⟩
 | ref a=>
  rcases k with⟨xs,e⟩|⟨xs,e⟩
  ·exact⟨_,_,_,_,rq,.lst e,Qg,q⟩
  ·exact⟨_,_,_,_,rq,.tup e,N5,q⟩
 | _=>exact k.elim
theorem Qn {K:YD} {H:Hp} {x:V} {Q:VK} (k:isI x=true) (q:Q (.bl (isB x)) H):G5 K [x,.ty "bool"] H Q:=by
 unfold G5;cases x with
 | bl b=>exact⟨_,_,_,_,rfl,.bl b,N8,q⟩
 | int i=>exact⟨_,_,_,_,rfl,.int i,Qh,q⟩
 | _=>cases k
theorem QF:∀{bs:List Bool} {us:YE},Vals (bs.map V.bl) us->LSm.BoolsAre us bs
 | [],_,.nil=>.nil
 | b::r,_,.cons h t=>by
  cases (show _=Value.bool b from h)
  exact .cons b (QF t)
theorem Gx (hc:X.calm=true):Ei X (.builtin "all") (λxs H Q=>∃(p:Addr) (bs:List Bool),xs=[.ref p]/\SqL X.K H p (bs.map V.bl)/\Q (.bl (bs.all id)) H):=by
 intro jb s Z H xs us Q I r h;obtain⟨p,bs,rfl,hq,q⟩:=h;obtain⟨u,rfl,rx⟩:=vals1 r;cases rx;obtain⟨its,rv,pl,hz⟩:=I.list hq;have hb:=QF rv;have hl:=pl.isList;have hlt:p < s.heap.objs.size:=by obtain⟨_,e,_⟩:=hl;exact QbU e
 refine call_all_walk (Qbg hl ?_);refine⟨s.heap.objs.size,[s.heap.objs.size,p],[s.heap.objs.size],its.toArray.size,_,_,λi=>(bs[i]?).getD true,rq,Walks.list (A:=X.A.in1) (I.ok.hd hc) _ p (QbV hlt) its.toArray,
  ⟨⟨_,QaD _ rfl,rq,rq⟩,hl.push _⟩,λi v s' Q' E' hP hQ=>?_,λh' tk hk=>?_⟩
 ·obtain⟨b,e,rfl⟩:=hb.get i v (by simpa using hP);simp only[e,Option.getD_some] at hQ;exact Qbc hQ
 ·have e:((List.range its.toArray.size).all λi=>(bs[i]?).getD true)=bs.all id:=by
   rw[QaZ,hb.length];exact LSm.range_all bs
  rw[e];exact⟨.bl (bs.all id),H,I.kept (LSm.kept_iter hk),rq,q⟩
mutual
inductive Rep (H:Hp):V->PyData->Prop
 | non:Rep H .non .none
 | bl (b:Bool):Rep H (.bl b) (.bool b)
 | int (i:Int):Rep H (.int i) (.int i)
 | str (x:Str):Rep H (.str x) (.str x)
 | tup {a:Addr} {xs:YG} {ds:List PyData}:H a=some (.tup xs)->Hy H xs ds->Rep H (.ref a) (.tuple ds)
 | lst {a:Addr} {xs:YG} {ds:List PyData}:H a=some (.lst xs)->Hy H xs ds->Rep H (.ref a) (.list ds)
inductive Hy (H:Hp):YG->List PyData->Prop
 | nil:Hy H [] []
 | cons {x:V} {d:PyData} {xs:YG} {ds:List PyData}:Rep H x d->Hy H xs ds->Hy H (x::xs) (d::ds)
end
mutual
theorem Rep.reads {P:Program} {w:World} {H:Hp} {h:Heap} (ok:HOk P w H h):∀{v:V} {d:PyData} {u:Value},Rep H v d->RelV v u->∃as,Reads h u d as
 | _,_,_,.non,r=>by cases (show _=Value.none from r);exact⟨_,.none⟩
 | _,_,_,.bl b,r=>by cases (show _=Value.bool b from r);exact⟨_,.bool b⟩
 | _,_,_,.int i,r=>by obtain⟨t,rfl⟩:=(show ∃t,_=Value.int i t from r);exact⟨_,.int i t⟩
 | _,_,_,.str x,r=>by obtain⟨t,rfl⟩:=(show ∃t,_=Value.str x t from r);exact⟨_,.str x t⟩
 | _,_,_,.tup (a:=a) (xs:=xs) e q,r=>by
  cases (show _=Value.ref a from r)
  obtain⟨_,its,rv,o,ho,hc,n,hd⟩:=(show Bd P w H h a (.tup xs) from ok a _ e)
  obtain⟨as,z⟩:=Hy.reads ok q rv;exact⟨_,.tuple ho hc hd (by simpa using z)⟩
 | _,_,_,.lst (a:=a) (xs:=xs) e q,r=>by
  cases (show _=Value.ref a from r)
  obtain⟨_,its,n,rv,ho⟩:=(show Bd P w H h a (.lst xs) from ok a _ e)
  obtain⟨as,z⟩:=Hy.reads ok q rv;exact⟨_,.list ho rfl rfl (by simpa using z)⟩
theorem Hy.reads {P:Program} {w:World} {H:Hp} {h:Heap} (ok:HOk P w H h):∀{xs:YG} {ds:List PyData} {us:YE},Hy H xs ds->Vals xs us->∃as,ReadsAll h us ds as
 | _,_,_,.nil,.nil=>⟨_,.nil⟩
 | _,_,_,.cons p q,.cons r t=>by
  obtain⟨as,a1⟩:=Rep.reads ok p r;obtain⟨bs,b1⟩:=Hy.reads ok q t;exact⟨_,.cons a1 b1⟩
end
theorem Uz (hu:X.A.units+64 < cLine):OpR X (compareOp .Eq) (λx y H Q=>∃d e,Rep H x d/\Rep H y e/\SeqAt.shaped d=true/\SeqAt.shaped e=true/\Q (.bl (PyData.eqv d e)) H):=by
 intro jb s Z H x y v u Q I rx ry h;obtain⟨d,e,p,p',sd,se,q⟩:=h;obtain⟨as,r1⟩:=p.reads I.hok rx;obtain⟨bs,r2⟩:=p'.reads I.hok ry;exact eq_dataH r1 r2 sd se hu ⟨.bl (PyData.eqv d e),H,I,rq,q⟩
theorem PL (hu:X.A.units+64 < cLine):OpR X (compareOp .NotEq) (λx y H Q=>∃d e,Rep H x d/\Rep H y e/\SeqAt.shaped d=true/\SeqAt.shaped e=true/\Q (.bl (!PyData.eqv d e)) H):=by
 intro jb s Z H x y v u Q I rx ry h;obtain⟨d,e,p,p',sd,se,q⟩:=h;obtain⟨as,r1⟩:=p.reads I.hok rx;obtain⟨bs,r2⟩:=p'.reads I.hok ry;exact ne_dataH r1 r2 sd se hu ⟨.bl (!PyData.eqv d e),H,I,rq,q⟩
end
structure Code (K:YD) (mg:YB) (x:Str) (st:Stmt) (ps:YF):Prop where
 ex:∃(f:Addr) (fd:FuncData),Fun K x x st f fd/\mg x=some (.ref f)/\Binds K fd ps []
structure Good (P:Program) (w:World) (K:YD) (mg:YB) (base:Heap) (x:Str) (k:Nat) (ps:YF) (sp:Sp):Prop where
 ex:∃(f:Addr) (fd:FuncData),mg x=some (.ref f)/\keepIn K (.ref f)=true/\Binds K fd ps []/\DK P w K mg base CX0 k f fd ps sp
theorem Code.good {P:Program} {w:World} {K:YD} {mg:YB} {base:Heap} {x:Str} {st:Stmt} {ps N:YF} {k:Nat} {sp:Sp} (C:Code K mg x st ps) (S:Az N ps (Ad st)) (len:∀vs H Q E,sp vs H Q E->vs.length=ps.length)
  (hbody:∀(f:Addr) (cdv:Value) (A:Around) (outer:List Env) (s:Shared) (H:Hp) (vs:YG) (Q:VK) (E:XK),Bk k (A.deeper (envOfC x (Ad st) s.heap.objs.size f cdv))->sp vs H Q E ->
   ∃t,PSs (Jw CX0 P w K mg base N x (Ad st) f cdv A outer s H E).nox (Av st) t/\t { nx:=λ_ H'=>Q .non H',rt:=Q } (start N vs) H):Good P w K mg base x (k+1) ps sp:=by
 obtain⟨f,fd,F,m,b⟩:=C.ex;exact⟨f,fd,m,F.kp,b,F.ok S len λcdv A outer s H vs Q E hr h=>hbody f cdv A outer s H vs Q E hr h⟩
theorem Oh {X:Cx} {k k':Nat} {ps:YF} {sp:Sp} {x:Str} {p pos:Pos} {e:Expr} {es:YJ} {t:TA} (g:Good X.prog X.w X.K X.mg X.base x k ps sp) (hr:Bk k' X.A) (ha:PA X (e::es) t) (hk:k<=k':=by decide) (hg:Gl X x:=by rfl)
  (hdb:(x == ("__debug__":Str))=false:=by decide) (he:starEach (e::es) X.env=(false,eval e X.env)::starEach es X.env:=by rfl) (hpl:(backTo pos (starEach es X.env)).any (·.1)=false:=by rfl) :
  PE X (.Call (.Name x p) (e::es) [] pos) (Od sp [] E0 t):=by
 intro jb s Z H Q I h;obtain⟨f,fd,m,kp,b,F⟩:=g.ex;exact Yt F (hr.mono hk) hg m kp b .nil Lj ha hdb he hpl jb s Z H Q I h
theorem Code.of {K:YD} {mg:YB} {h:Heap} {x:Str} {st:Stmt} {ps:YF} {f:Addr} {oc:Value} {od an:Option Addr} {osl:YI} {kV doc pm cdv ct:Value} (X:K.In h) (G:h.Ns mainGlobals mg)
  (a:nsIn K mainGlobals x=some (some (.ref f))) (l:K.lookup f=some ⟨oc,od,.func (fnOf x x (Aw st) (Av st) (Ad st) .none kV doc pm an cdv ct),osl⟩) (c:codeIn K cdv x=true) (k:keepIn K (.ref f)=true)
  (hb:∀(kV doc pm:Value) (an:Option Addr) (cdv ct:Value) (us:YE),us.length=ps.length->bindArgs (fnOf x x (Aw st) (Av st) (Ad st) .none kV doc pm an cdv ct) ⟨us,[]⟩=pure (ps.zip us)):Code K mg x st ps:=by
 have F:=Ew (st:=st) l c k;exact⟨f,_,F,mg_of X G a,F.binds hb⟩
theorem Ai {H:Hp} {p:Addr} (h:H p=none) (o:HO):Same H (upd H p o):=λb u q=>by rw[Al (Bm q h)];exact q
theorem Bp.plain {X:Cx} {N':YF} {sc:Scope} (kind:sc.kind=.function) (GZ:∀y∈sc.names,y.2≠.cell) (loc:∀y∈sc.names,y.2=.local->sc.names.lookup y.1=some .local) (Qa:∀y∈sc.names,y.2≠.free) :
  Bp X N' (N'.map λ_=>none) sc where
 kind:=kind
 GZ:=GZ
 loc:=loc
 fv:=λy hy e=>absurd e (Qa y hy)
 len:=by simp
 src:=λi x j _ e=>by
  rw[Qbb] at e;cases q:N'[i]? with
  | none=>rw[q] at e;cases e
  | some z=>rw[q] at e;cases e
theorem Xd {K:YD} {a l:Addr} {xs:YG} {g:TG} {tt:TT} {te:TE} {Q:VK} {σ0:St} {H0:Hp} (Pv:YN)
  (h0:Pv 0 σ0 H0) (hl:∀i Z H',i<=xs.length->Pv i Z H'->SqT K H' a xs)
  (hs:∀i x Z H',xs[i]?=some x->Pv i Z H'->g x Z H' fun σ3 H3=>tt σ3 H3 λb H4=>if b=true then te σ3 H4 λy H5=>∃ys,H5 l=some (.lst ys)/\ys.length < sizeLine/\Pv (i+1) σ3 (upd H5 l (.lst (ys++[y]))) else Pv (i+1) σ3 H4)
  (hd:∀ Z H',Pv xs.length Z H'->Q (.ref l) H'):Ej (Itt K a) g tt te Q σ0 H0 l:=by
 unfold Ej;refine⟨λi m Z H'=>m=xs.length - i/\i<=xs.length/\Pv i Z H',⟨xs.length,by simp,Qce _,h0⟩,?_⟩;rintro i m Z H' ⟨rfl,hi,p⟩;have q:=hl i Z H' hi p;by_cases hlt:i < xs.length
 ·refine .inr ⟨⟨xs,xs[i],q,by simp[hlt]⟩,Pv (i+1),fun σ3 H3 p'=>⟨xs.length - (i+1),by omega,rq,hlt,p'⟩,λx H2 y=>?_⟩;obtain⟨e,y⟩:=y;subst e;exact hs i x Z _ (y xs q) p
 ·have e:i=xs.length:=by omega
  subst e;exact .inl ⟨⟨xs,q,Qcd _⟩,hd Z H' p⟩
theorem Dk {K:YD} {a l:Addr} {xs:YG} {g:TG} {tt:TT} {te:TE} {Q:VK} {σ0:St} {H0:Hp} (Pv:YN)
  (h0:Pv 0 σ0 H0) (hl:∀i Z H',i<=xs.length->Pv i Z H'->SqL K H' a xs)
  (hs:∀i x Z H',xs[i]?=some x->Pv i Z H'->g x Z H' fun σ3 H3=>tt σ3 H3 λb H4=>if b=true then te σ3 H4 λy H5=>∃ys,H5 l=some (.lst ys)/\ys.length < sizeLine/\Pv (i+1) σ3 (upd H5 l (.lst (ys++[y]))) else Pv (i+1) σ3 H4)
  (hd:∀ Z H',Pv xs.length Z H'->Q (.ref l) H'):Ej (Itl K a) g tt te Q σ0 H0 l:=by
 unfold Ej;refine⟨λi m Z H'=>m=xs.length - i/\i<=xs.length/\Pv i Z H',⟨xs.length,by simp,Qce _,h0⟩,?_⟩;rintro i m Z H' ⟨rfl,hi,p⟩;have q:=hl i Z H' hi p;by_cases hlt:i < xs.length
 ·refine .inr ⟨⟨xs,xs[i],q,by simp[hlt]⟩,Pv (i+1),fun σ3 H3 p'=>⟨xs.length - (i+1),by omega,rq,hlt,p'⟩,λx H2 y=>?_⟩;obtain⟨e,y⟩:=y;subst e;exact hs i x Z _ (y xs q) p
 ·have e:i=xs.length:=by omega
  subst e;exact .inl ⟨⟨xs,q,Qcd _⟩,hd Z H' p⟩
theorem Gj {lo:Int} {n:Nat} {l:Addr} {g:TG} {tt:TT} {te:TE} {Q:VK} {σ0:St} {H0:Hp} (Pv:YN) (h0:Pv 0 σ0 H0)
  (hs:∀i Z H',i < n->Pv i Z H'->g (.int (lo+i)) Z H' fun σ3 H3=>tt σ3 H3 λb H4=>if b=true then te σ3 H4 λy H5=>∃ys,H5 l=some (.lst ys)/\ys.length < sizeLine/\Pv (i+1) σ3 (upd H5 l (.lst (ys++[y]))) else Pv (i+1) σ3 H4)
  (hd:∀ Z H',Pv n Z H'->Q (.ref l) H'):Ej (Itr lo n) g tt te Q σ0 H0 l:=by
 unfold Ej;refine⟨λi m Z H'=>m=n - i/\i<=n/\Pv i Z H',⟨n,by simp,Qce _,h0⟩,?_⟩;rintro i m Z H' ⟨rfl,hi,p⟩;by_cases hlt:i < n
 ·refine .inr ⟨hlt,Pv (i+1),fun σ3 H3 p'=>⟨n - (i+1),by omega,rq,hlt,p'⟩,λx H2 y=>?_⟩;obtain⟨e,y⟩:=y;subst e y;exact hs i Z _ hlt p
 ·have e:i=n:=by omega
  subst e;exact .inl ⟨Qcd _,hd Z H' p⟩
section
variable {X:Cx}
theorem Rp:∀{ys:YF} {us:YE},Vals (ys.map V.str) us->StrsAre us ys
 | [],_,.nil=>.nil
 | y::r,_,.cons h t=>by
  obtain⟨t',e⟩:=(show ∃t,_=Value.str y t from h)
  cases e;exact .cons y t' (Rp t)
def rJoin (K:YD):V->YG->Hp->VK->Prop:=λx vs H Q=>∃(z:Str) (p:Addr) (ys:YF),x=.str z/\vs=[.ref p]/\SqL K H p (ys.map V.str)/\(ys.map (·.length)).sum+ys.length*z.length<=16777216/\Q (.str (Txt.join z ys)) H
theorem YW:MtR X "str.join" (rJoin X.K):=by
 intro jb s Z H x vs v us Q I rx rv h;obtain⟨z,p,ys,rfl,rfl,hq,hz,q⟩:=h;obtain⟨t,rfl⟩:=rx;obtain⟨u,rfl,ru⟩:=rv.one;cases ru;obtain⟨its,r',pl,_⟩:=I.list hq;exact join_list pl.isList (Rp r') hz λt' k=>⟨.str (Txt.join z ys),H,I.tok k,⟨t',rq⟩,q⟩
def Its (z:Str):It:=⟨λi _=>i < z.cps.size,λi H x H'=>H'=H/\∃c,z.cps[i]?=some c/\x=.str ⟨#[c]⟩,λi _=>i=z.cps.size⟩
def jA (tl:TE):TI:=fun Z H R=>tl Z H λx H1=>∃z,x=.str z/\R (Its z) H1
end
section
variable {X:Cx} {tg:Expr}
theorem OJ {P:Program} {w:World} {K:YD} {tg:Expr} (z:Str) (t:Tok) (it:Addr) (ty:String) (hty:["enumerate","zip","dict_itemiterator","dict_reverseitemiterator","odict_iterator","itertools.zip_longest","itertools.pairwise"].contains ty=false)
  (W:∀A':Around,A'.handled=none->Walks P w A' it [it] [it] z.cps.size (SignAt z) (λi h=>h.IsStrIter it ty z t i))
  (hself:∀(A:Around) (i:Nat) (s:Shared) (Q:YA) (E:YA),s.heap.IsStrIter it ty z t i->Q (.ref it) s->wpAny (model P w) A (pyIter (.ref it)) Q E s) :
  Turn P w K tg (Its z) [it] it (λi h=>h.IsStrIter it ty z t i) where
 mem:=QaJ.mpr rfl
 obj:=λi h st b hb=>by
  cases QaJ.mp hb;obtain⟨o,e,c,d⟩:=st;exact⟨o,e,λv z'=>by rw[d] at z';cases z'⟩
 keep:=λi h h' st k=>by
  obtain⟨o,e,r⟩:=st;exact⟨o,k it (QaJ.mpr rfl) o e,r⟩
 item:=by
  intro X hP hw hK hc i jb s Z H E I hf st hg;subst hP hw hK;obtain⟨f0,f1,f2,f3,f4,f5⟩:=hf it (QaJ.mpr rfl);refine (W X.A (I.ok.hd hc)).item i s _ _ hg st λv h' tk hv st' kk=>?_;obtain⟨c,u,hcu,rfl⟩:=hv;have I1:Inv X jb Z H { s with heap:=h',toks:=tk }:=I.turned (λb o hb e=>kk b o (λhm=>hb (QaJ.mp hm)) e) f0 f1 f3 f4 f5;obtain⟨o,e,cl,d⟩:=id st';exact⟨_,rq,Oo (s:={ s with heap:=h',toks:=tk }) e cl d hty ⟨.str ⟨#[c]⟩,H,I1,⟨u,rq⟩,⟨rq,c,hcu,rq⟩,st',λb hb=>(hf b hb).1⟩⟩
 done:=by
  intro X hP hw hK hc i jb s Z H E I hf st hg;subst hP hw hK;obtain⟨f0,f1,f2,f3,f4,f5⟩:=hf it (QaJ.mpr rfl);cases (show i=z.cps.size from hg)
  exact (W X.A (I.ok.hd hc)).done s _ _ st λh' tk kk=>⟨rq,I.turned (λb o hb e=>kk b o (λhm=>hb (QaJ.mp hm)) e) f0 f1 f3 f4 f5⟩
 self:=λA i s Q E st h=>hself A i s Q E st h
theorem ZM {l:Expr} {tl:TE} (hl:PE X l tl):PI X tg l (jA tl):=by
 intro jb s Z H R I h;refine thn (hl jb s Z H _ I h) λv s1 zz=>?_;obtain⟨x,H1,I1,r1,z,e,q⟩:=zz;subst e;obtain⟨t,rfl⟩:=r1;have fp:∀o:Obj,∀b∈[s1.heap.objs.size],Gn X jb H1 b:=λo b hb=>by
  cases QaJ.mp hb;exact I1.M5 (Qcd _) (I1.hok.fresh (Qcd _))
 cases ha:z.cps.all (· < 128) with
 | true=>
  refine wpAny_pyIter_ascii ha ?_;exact⟨s1.heap.objs.size,[s1.heap.objs.size],_,_,H1,rq,I1.kept (t':=s1.toks) λb o e=>Qao _ e,OJ z t _ "str_ascii_iterator" (by decide) (λA' hA=>Walks.strAscii hA _ z t) (λ_ _ _ _ _ st h=>wpAny_pyIter_striter_ascii st h),
   ⟨_,QaD _ rfl,rq,rq⟩,fp { cls:=.none,data:=.fields #[] },q⟩
 | false=>
  refine wpAny_pyIter_wide ha ?_;exact⟨s1.heap.objs.size,[s1.heap.objs.size],_,_,H1,rq,I1.kept (t':=s1.toks) λb o e=>Qao _ e,OJ z t _ "str_iterator" (by decide) (λA' hA=>Walks.strWide hA _ z t) (λ_ _ _ _ _ st h=>wpAny_pyIter_striter_wide st h),
   ⟨_,QaD _ rfl,rq,rq⟩,fp { cls:=.none,data:=.fields #[] },q⟩
theorem Xe {z:Str} {l:Addr} {g:TG} {tt:TT} {te:TE} {Q:VK} {σ0:St} {H0:Hp} (Pv:YN) (h0:Pv 0 σ0 H0)
  (hs:∀i c Z H',z.cps[i]?=some c->Pv i Z H'->g (.str ⟨#[c]⟩) Z H' fun σ3 H3=>tt σ3 H3 λb H4=>if b=true then te σ3 H4 λy H5=>∃ys,H5 l=some (.lst ys)/\ys.length < sizeLine/\Pv (i+1) σ3 (upd H5 l (.lst (ys++[y]))) else Pv (i+1) σ3 H4)
  (hd:∀ Z H',Pv z.cps.size Z H'->Q (.ref l) H'):Ej (Its z) g tt te Q σ0 H0 l:=by
 unfold Ej;refine⟨λi m Z H'=>m=z.cps.size - i/\i<=z.cps.size/\Pv i Z H',⟨z.cps.size,by simp,Qce _,h0⟩,?_⟩;rintro i m Z H' ⟨rfl,hi,p⟩;by_cases hlt:i < z.cps.size
 ·refine .inr ⟨hlt,Pv (i+1),fun σ3 H3 p'=>⟨z.cps.size - (i+1),by omega,rq,hlt,p'⟩,λx H2 y=>?_⟩;obtain⟨e,c,hc,rfl⟩:=y;subst e;exact hs i c Z _ hc p
 ·have e:i=z.cps.size:=by omega
  subst e;exact .inl ⟨rq,hd Z H' p⟩
end
end L2
namespace HT
open PySem PyProof.Rows
section
variable {prog:Program} {w:World} {A:Around} {E:YA} {s:Shared}
theorem Kf {t sl:Addr} {items:Array Value} {vl vu:Value} {lo hi:Option Int} {Q:YA} (ht:IsTup s.heap t items) (hs:s.heap.IsSliceOf sl vl vu .none) (pl:IsPart vl lo) (pu:IsPart vu hi)
  (hw:sIx items.size 0 lo=0/\sIx items.size items.size hi=items.size) (h:Q (.ref t) s):wpAny (model prog w) A (getItem (.ref t) (.ref sl)) Q E s:=by
 obtain⟨os,hos,hcs,hds⟩:=id hs;have hTs:s.TypeIs (.ref sl) "slice":=⟨os,hos,hcs⟩;unfold getItem
 try with_reducible refine QbS ?_
 first | refine Qcg (Qch ?_) | skip
 refine Qcg (wpAny_sequenceKey ht.typeIs (by decide) ?_);refine Qcg (Qan (name:=Str.ofString "__getitem__") ht.typeIs Qab (Qbi Qab ht.typeIs entry_tuple_getitem ?_ (args_tuple_getitem _ _)));show wpAny _ _ (Builtin.Tuple.tupleItemsOf (.ref t) >>= _) _ _ s;refine Qcg (tupleItemsOf_ ht ?_);refine Qcg (wpAny_typeOf hTs ?_);rw[if_pos (by decide)];refine Qcg (Hi hs pl pu ?_);rw[hw.1,hw.2];show wpAny _ _ (if (((0:Nat):Int) == 0&&(1:Int) == 1&&(items.size - 0) == items.size)=true then _ else _) _ _ s
 rw[if_pos (by simp)];refine Qcg ?_;unfold Builtin.Tuple.tupleIsExact;refine Qcg (wpAny_typeOf ht.typeIs (Qch ?_));rw[if_pos (by decide)];exact Qcg (Qcj (Qch ⟨_,rq,Qch h⟩))
end
end HT
namespace L2
open PySem PySem.Spec PyProof.Rows
section
variable {X:Cx}
theorem Rt:SlR X (λx lo hi H Q=>∃a xs,x=.ref a/\H a=some (.tup xs)/\∀p H',H' p=some (.tup (Gw xs lo hi))->Same H H'->Q (.ref p) H'):=by
 intro jb s Z H x v vl vu lo hi sl Q I rx hs pl pu h;obtain⟨a,xs,rfl,hx,q⟩:=h;by_cases hw:HT.sIx xs.length 0 lo=0/\HT.sIx xs.length xs.length hi=xs.length
 ·cases rx;obtain⟨its,r,ht,hz⟩:=I.tuple (SqT.of hx);have hlen:its.toArray.size=xs.length:=by rw[QaZ];exact r.length.symm
  refine⟨"tuple",_,Qab.lookup,ht.typeIs,?_⟩;refine HT.Kf ht hs pl pu (by rw[hlen];exact hw) ⟨.ref a,H,I,rq,q a H ?_ (Same.refl H)⟩;have e:Gw xs lo hi=xs:=by unfold Gw;rw[hw.1,hw.2];simp
  rw[e];exact hx
 ·exact Zx jb s Z H _ v vl vu lo hi sl Q I rx hs pl pu ⟨a,xs,rq,SqT.of hx,hw,λp hp=>q p _ Ac (λc o e=>by rw[Al (Bm e hp)];exact e)⟩
end
structure Dc (K:YD) (C:Addr) (m qn:Str) (st:Stmt) (ps:YF):Prop where
 ex:∃(f:Addr) (fd:FuncData),Fun K m qn st f fd/\Meth K C m f/\Binds K fd ps []
structure Bu (P:Program) (w:World) (K:YD) (mg:YB) (base:Heap) (C:Addr) (m:Str) (k:Nat) (ps:YF) (sp:Sp):Prop where
 ex:∃(f:Addr) (fd:FuncData),Meth K C m f/\Binds K fd ps []/\DK P w K mg base CX0 k f fd ps sp
structure T8 (P:Program) (w:World) (K:YD) (mg:YB) (base:Heap) (C:Addr) (k:Nat) (ps:YF) (sp:Sp):Prop where
 ex:∃(f:Addr) (fd:FuncData),Mk K C f/\Binds K fd ps []/\DK P w K mg base CX0 k f fd ps sp
theorem Dc.good {P:Program} {w:World} {K:YD} {mg:YB} {base:Heap} {C:Addr} {m qn:Str} {st:Stmt} {ps N:YF} {k:Nat} {sp:Sp} (c:Dc K C m qn st ps) (S:Az N ps (Ad st)) (len:∀vs H Q E,sp vs H Q E->vs.length=ps.length)
  (hbody:∀(f:Addr) (cdv:Value) (A:Around) (outer:List Env) (s:Shared) (H:Hp) (vs:YG) (Q:VK) (E:XK),Bk k (A.deeper (envOfC qn (Ad st) s.heap.objs.size f cdv))->sp vs H Q E ->
   ∃t,PSs (Jw CX0 P w K mg base N qn (Ad st) f cdv A outer s H E).nox (Av st) t/\t { nx:=λ_ H'=>Q .non H',rt:=Q } (start N vs) H):Bu P w K mg base C m (k+1) ps sp:=by
 obtain⟨f,fd,F,M,b⟩:=c.ex;exact⟨f,fd,M,b,F.ok S len λcdv A outer s H vs Q E hr h=>hbody f cdv A outer s H vs Q E hr h⟩
theorem Xx {X:Cx} {pl:Sem Bool} {k k':Nat} {C:Addr} {ps:YF} {sp:Sp} {m:Str} {apos pos:Pos} {o e:Expr} {es:YJ} {ta:TE} {t:TA} (he:PE X o ta) (c:Cls X.K C) (g:Bu X.prog X.w X.K X.mg X.base C m k ps sp) (hr:Bk k' X.A) (ha:PA X (e::es) t) (hk:k<=k':=by decide)
  (hst:starEach (e::es) X.env=(false,eval e X.env)::starEach es X.env:=by rfl) (hpl:(backTo pos (starEach es X.env)).any (·.1)=false:=by rfl)
  (ht:eval (.Call (.Attribute o m apos) (e::es) [] pos) X.env=(do
   let ov <-eval o X.env
   standAt apos.atName
   let (f,first) <-holding [ov] (getMethod ov m pl)
   callWith pos f first (backTo pos (starEach (e::es) X.env)) (backToKw pos (keywordEach [] X.env))):=by rfl) :
  PE X (.Call (.Attribute o m apos) (e::es) [] pos) (Oc C m sp [] E0 ta t):=by
 intro jb s Z H Q I h;obtain⟨f,fd,M,b,F⟩:=g.ex;exact Yo (pl:=pl) he c M F (hr.mono hk) b .nil Lj ha hst hpl ht jb s Z H Q I h
theorem ZG {X:Cx} {pl:Sem Bool} {k k':Nat} {C:Addr} {ps:YF} {sp:Sp} {m:Str} {apos pos:Pos} {o:Expr} {ta:TE} (he:PE X o ta) (c:Cls X.K C) (g:Bu X.prog X.w X.K X.mg X.base C m k ps sp) (hr:Bk k' X.A) (hk:k<=k':=by decide)
  (ht:eval (.Call (.Attribute o m apos) [] [] pos) X.env=(do
   let ov <-eval o X.env
   standAt apos.atName
   let (f,first) <-holding [ov] (getMethod ov m pl)
   callWith pos f first (backTo pos (starEach [] X.env)) (backToKw pos (keywordEach [] X.env))):=by rfl) :
  PE X (.Call (.Attribute o m apos) [] [] pos) (Oc C m sp [] E0 ta G4):=by
 intro jb s Z H Q I h;obtain⟨f,fd,M,b,F⟩:=g.ex;exact Wm (pl:=pl) he c M F (hr.mono hk) b .nil Lj ht jb s Z H Q I h
theorem cj {X:Cx} {k k':Nat} {C:Addr} {ps:YF} {sp:Sp} {x:Str} {p pos:Pos} {e:Expr} {es:YJ} {t:TA} (g:T8 X.prog X.w X.K X.mg X.base C k ps sp) (hr:Bk k' X.A) (hm:X.mg x=some (.ref C)) (ha:PA X (e::es) t) (hk:k+1<=k':=by decide) (hg:Gl X x:=by rfl)
  (hdb:(x == ("__debug__":Str))=false:=by decide) (he:starEach (e::es) X.env=(false,eval e X.env)::starEach es X.env:=by rfl) (hpl:(backTo pos (starEach es X.env)).any (·.1)=false:=by rfl) :
  PE X (.Call (.Name x p) (e::es) [] pos) (Xv C sp [] E0 t):=by
 intro jb s Z H Q I h;obtain⟨f,fd,M,b,F⟩:=g.ex;exact Yq M F (hr.mono hk) hg hm b .nil Lj ha hdb he hpl jb s Z H Q I h
theorem Uu {X:Cx} {x:Str} {v:V} {pos:Pos} (hg:Gl X x) (hm:∃u,X.mg x=some u/\RelV v u) (hd:(x == ("__debug__":Str))=false:=by decide):PE X (.Name x pos) (tC v):=by
 obtain⟨u,h,r⟩:=hm;exact Yr hg h r hd
theorem Ma:∀{fs:List (Str×V)} {i:Nat} {f:Str} {v:V},(fs.map (·.1)).Nodup->fs[i]?=some (f,v)->fs.lookup f=some v
 | [],_,_,_,_,h=>by simp at h
 | (g,u)::fs,0,f,v,_,h=>by simp at h;obtain⟨rfl,rfl⟩:=h;simp[List.lookup]
 | (g,u)::fs,i+1,f,v,hn,h=>by
  rw[QbP,QbD] at hn;have h':fs[i]?=some (f,v):=by simpa using h
  have hm:f∈fs.map (·.1):=QbX.mpr ⟨(f,v),Qaw h',rq⟩;have hne:(f == g)=false:=QaE.mpr λe=>hn.1 (e ▸ hm);rw[List.lookup,hne];exact Ma hn.2 h'
theorem XQ:∀{fs:List (Str×V)} {m:Str},m∉fs.map (·.1)->fs.lookup m=none
 | [],_,_=>rfl
 | (g,u)::fs,m,h=>by
  rw[QbP,QbN] at h;have hne:(m == g)=false:=QaE.mpr λe=>h (.inl e);rw[List.lookup,hne];exact XQ λz=>h (.inr z)
theorem Vw {y:V}:∀{fs:List (Str×V)} {i:Nat} {f:Str} {v:V},(fs.map (·.1)).Nodup->fs[i]?=some (f,v)->Dp f y fs=fs.set i (f,y)
 | [],_,_,_,_,h=>by simp at h
 | (g,u)::fs,0,f,v,_,h=>by
  simp at h;obtain⟨rfl,rfl⟩:=h;show (if g=g then (g,y)::fs else (g,u)::Dp g y fs)=_
  rw[if_pos rfl];rfl
 | (g,u)::fs,i+1,f,v,hn,h=>by
  rw[QbP,QbD] at hn;have h':fs[i]?=some (f,v):=by simpa using h
  have hm:f∈fs.map (·.1):=QbX.mpr ⟨(f,v),Qaw h',rq⟩;have hne:¬g=f:=λe=>hn.1 (by rw[show (g,u).fst=g from rfl,e];exact hm)
  show (if g=f then (g,y)::fs else (g,u)::Dp f y fs)=_
  rw[if_neg hne,Vw hn.2 h'];rfl
theorem LR {y:V}:∀{fs:List (Str×V)} {f:Str},f∉fs.map (·.1)->Dp f y fs=fs++[(f,y)]
 | [],_,_=>rfl
 | (g,u)::fs,f,h=>by
  rw[QbP,QbN] at h;show (if g=f then (g,y)::fs else (g,u)::Dp f y fs)=_
  rw[if_neg λe=>h (.inl e.symm),LR λz=>h (.inr z)];rfl
def Bh (H H':Hp):Prop:=∀c xs,H c=some (.tup xs)->H' c=some (.tup xs)
theorem Bh.refl (H:Hp):Bh H H:=λ_ _ e=>e
theorem Bh.trans {H H1 H2:Hp} (a:Bh H H1) (b:Bh H1 H2):Bh H H2:=λc xs e=>b c xs (a c xs e)
theorem Bh.of {H H1:Hp} (s:Same H H1):Bh H H1:=λc xs e=>s c _ e
theorem Bh.upd {H:Hp} {b:Addr} {o:HO} (h:∀xs,H b≠some (.tup xs)):Bh H (upd H b o):=λc xs e=>by
 have n:c≠b:=λz=>h xs (z ▸ e);rw[Al n];exact e
def Ah (b:Addr) (H H':Hp):Prop:=∀c o,H c=some o->c≠b->H' c=some o
theorem Ah.trans {b:Addr} {H H1 H2:Hp} (x:Ah b H H1) (y:Ah b H1 H2):Ah b H H2:=λc o e n=>y c o (x c o e n) n
theorem Ah.of {b:Addr} {H H1:Hp} (x:Same H H1):Ah b H H1:=λc o e _=>x c o e
theorem Ah.upd {b:Addr} {H:Hp} {o:HO}:Ah b H (upd H b o):=λc u e n=>by rw[Al n];exact e
theorem Ah.tup {b:Addr} {H H':Hp} (x:Ah b H H') (h:∀xs,H b≠some (.tup xs)):Bh H H':=λc xs e=>x c _ e λz=>h xs (z ▸ e)
theorem Ah.free {b:Addr} {H H':Hp} (x:Ah b H H') (hb:∃o,H' b=some o) {l:Addr} (h:H' l=none):H l=none:=by
 cases e:H l with
 | none=>rfl
 | some o=>
  by_cases n:l=b
  ·obtain⟨o',e'⟩:=hb;rw[n,e'] at h;cases h
  ·rw[x l o e n] at h;cases h
def bY (K:YD) (ta tv:TE) (f:Str):TS:=λD Z H=>tv Z H λy H1=>ta Z H1 λx H2=>∃a C dx fs fs',x=.ref a/\H2 a=some (.ins C dx fs)/\Cls K C/\Gm K C f/\fs.length < 1000/\Dp f y fs=fs' /\
 ∀H',H' a=some (.ins C dx fs')->Ah a H2 H'->D.nx Z H'
section
variable {X:Cx} {o e value:Expr} {f:Str} {pos pos' tpos:Pos} {ta tv:TE}
theorem JK (ha:PE X o ta) (hv:PE X value tv) (hs:swapsWith value (some (.Attribute o f pos')) pos.line X.env=pure false):PS X (.Assign [.Attribute o f pos'] value pos) (bY X.K ta tv f):=by
 intro jb s Z H D I h;refine plainObj_wpAny_Assign_Attribute (thn (hv jb s Z H _ I h) λu s1 zz=>?_) hs;obtain⟨y,H1,I1,ry,q⟩:=zz;refine thn (ha jb s1 Z H1 _ I1 q) λov s2 zz=>?_;obtain⟨x,H2,I2,rx,a,C,dx,fs,fs',ex,ea,c,n,l,ep,q2⟩:=zz;subst ex;obtain rfl:ov=Value.ref a:=rx;refine Sv I2 ea c n l ry λs3 I3=>⟨Z,_,I3,q2 _ ?_ Ah.upd⟩;rw[Ac,ep]
end
section
variable {X:Cx} {K:YD}
theorem FZ (h:X.K=K):IxR X (ZC K):=h ▸ Il
theorem WK (h:X.K=K):IxR X (ZD K):=h ▸ Br
theorem Ys {e:Expr} {f:Str} {pos:Pos} {ta:TE} (h:X.K=K) (he:PE X e ta) (hb:attributeBase e f X.env (eval e X.env)=eval e X.env):PE X (.Attribute e f pos) (Zu K ta f):=h ▸ Eo he hb
end
end L2
namespace PySem
open Sem (wp)
section
variable {prog:Program} {w:World} {A:Around} {E:YA} {s:Shared}
end
end PySem
namespace L2
open PySem PySem.Spec PyProof.Rows
section
variable {X:Cx} {pos:Pos}
theorem RX {i:Int} {n:Nat} {acc:Array Value} (h:ItemsOf (λk v=>∃t,v=.int (i+k*1) t) acc n):Vals ((List.range n).map λk:Nat=>V.int (i+k)) acc.toList:=by
 have key:∀(us:YE) (m:Nat),(∀k v,us[k]?=some v->∃t,v=Value.int (i+((m+k:Nat):Int)) t)->Vals ((List.range' m us.length).map λk:Nat=>V.int (i+k)) us:=by
  intro us
  induction us with
  | nil=>intro m _;exact .nil
  | cons u r ih=>
   intro m hu;rw[Qbm,List.range'_succ,QbP];refine .cons (hu 0 u rfl) (ih (m+1) λk v hv=>?_);have:=hu (k+1) v (by simpa using hv);rw[show m+1+k=m+(k+1) by omega];exact this
 have e:acc.toList.length=n:=by rw[QaG];exact h.1
 rw[List.range_eq_range',<-e];refine key acc.toList 0 λk v hv=>?_;obtain⟨t,rfl⟩:=h.2 k v (by simpa using hv);exact⟨t,by rw[Int.mul_one,Nat.zero_add]⟩
end
structure Has (H:Hp) (l:List (Addr×HO)):Prop where
 nd:(l.map (·.1)).Nodup
 at_:∀x∈l,H x.1=some x.2
theorem Has.cC {H:Hp} {l:List (Addr×HO)} {a:Addr} (h:Has H l) (e:H a=none):a∉l.map (·.1):=λz=>by
 obtain⟨x,hx,rfl⟩:=QbX.mp z;rw[h.at_ x hx] at e;cases e
theorem map_set {l:List (Addr×HO)} {i:Nat} {a:Addr} {o:HO}:(l.set i (a,o)).map (·.1)=(l.map (·.1)).set i a:=by rw[Qcc]
theorem Has.new {H H':Hp} {l:List (Addr×HO)} {a:Addr} {o:HO} (h:Has H l) (n:H a=none) (s:Same H H') (e:H' a=some o):Has H' (l++[(a,o)]):=by
 refine⟨?_,λx hx=>?_⟩
 ·rw[Qby,List.nodup_append];refine⟨h.nd,by simp,λx hx y hy z=>?_⟩;have:y=a:=by simpa using hy
  subst this;exact h.cC n (z ▸ hx)
 ·rcases Qbw.mp hx with z | z
  ·exact s _ _ (h.at_ x z)
  ·have:x=(a,o):=by simpa using z
   subst this;exact e
theorem Has.nil (H:Hp):Has H []:=⟨List.nodup_nil,λx hx=>by cases hx⟩
theorem Same.BL {H0 H H':Hp} {a:Addr} (s:Same H0 H) (b:Ah a H H') (f:H0 a=none):Same H0 H':=λc o e=>b _ _ (s _ _ e) λz=>by rw[z,f] at e;cases e
section
variable {κ : Type} [DecidableEq κ]
def Ib (kvs:List (κ×V)) (k:κ):Option V:=(kvs.find? λkv=>decide (kv.1=k)).map (·.2)
def putK (kvs:List (κ×V)) (k:κ) (v:V):List (κ×V):=
 if (kvs.any λkv=>decide (kv.1=k))=true then kvs.map (λkv=>if kv.1=k then (kv.1,v) else kv) else kvs++[(k,v)]
theorem Ow {p:κ×V} {r:List (κ×V)} {k:κ} (e:p.1=k):Ib (p::r) k=some p.2:=by simp[Ib,List.find?_cons,e]
theorem Ox {p:κ×V} {r:List (κ×V)} {k:κ} (e:¬p.1=k):Ib (p::r) k=Ib r k:=by simp[Ib,List.find?_cons,e]
theorem Oz (k:κ):∀kvs:List (κ×V),(kvs.any λkv=>decide (kv.1=k))=(Ib kvs k).isSome
 | []=>rfl
 | p::r=>by
  rw[List.any_cons];by_cases e:p.1=k
  ·simp only[Ow e,QbJ e,Bool.true_or,Option.isSome_some]
  ·rw[Ox e,Qbv e,Bool.false_or];exact Oz k r
theorem Kh (kvs:List (κ×V)) (k:κ) (v:V):(putK kvs k v).length<=kvs.length+1:=by
 unfold putK;split
 ·rw[Qbu];omega
 ·rw[QaL,Qbm,List.length_nil];omega
theorem Fx.Vi {o:Option V} {u:Option Value} (r:Fx o u):o.isSome=u.isSome:=by
 cases o with
 | none=>cases u with
  | none=>rfl
  | some _=>exact (show False from r).elim
 | some _=>cases u with
  | none=>exact (show False from r).elim
  | some _=>rfl
theorem Fx.getD {o:Option V} {u:Option Value} {d:V} {d':Value} (r:Fx o u) (rd:RelV d d'):RelV (o.getD d) (u.getD d'):=by
 cases o with
 | none=>cases u with
  | none=>exact rd
  | some _=>exact (show False from r).elim
 | some _=>cases u with
  | none=>exact (show False from r).elim
  | some _=>exact r
theorem KV.any {kvs:List (κ×V)} {vs:List (κ×Value)} (r:KV kvs vs) (k:κ):(kvs.any λkv=>decide (kv.1=k))=vs.any λkv=>decide (kv.1=k):=by
 unfold KV at r
 induction r with
 | nil=>rfl
 | cons h t ih=>rw[List.any_cons,List.any_cons,ih,h.1]
theorem KV.repl {kvs:List (κ×V)} {vs:List (κ×Value)} (r:KV kvs vs) (k:κ) {y:V} {u:Value} (ry:RelV y u) :
  KV (kvs.map λkv=>if kv.1=k then (kv.1,y) else kv) (vs.map λkv=>if kv.1=k then (kv.1,u) else kv):=by
 unfold KV at r ⊢
 induction r with
 | nil=>exact .nil
 | @cons p q ps qs h t ih=>
  rw[QbP,QbP];refine .cons ?_ ih;obtain⟨h1,h2⟩:=h;by_cases e:p.1=k
  ·rw[if_pos e,if_pos (h1.symm.trans e)];exact⟨h1,ry⟩
  ·rw[if_neg e,if_neg (λz=>e (h1.trans z))];exact⟨h1,h2⟩
theorem KV.put {kvs:List (κ×V)} {vs:List (κ×Value)} (r:KV kvs vs) (k:κ) {y:V} {u:Value} (ry:RelV y u):KV (putK kvs k y) (stored vs k u):=by
 unfold putK stored;rw[r.any k];by_cases e:(vs.any λkv=>decide (kv.1=k))=true
 ·rw[if_pos e,if_pos e];exact r.repl k ry
 ·rw[if_neg e,if_neg e];exact Paired.snoc r ⟨rq,ry⟩
theorem KV.length {kvs:List (κ×V)} {vs:List (κ×Value)} (r:KV kvs vs):kvs.length=vs.length:=QbO r
end
theorem XF {P:Program} {w:World} {k:Key} {u:Value} (r:RelV (kV k) u):(Cg P w).is k u=true:=by
 cases k with
 | inl i=>obtain⟨t,e⟩:=(show ∃t,u=Value.int i t from r);subst e;exact Q9 P w i t
 | inr x=>obtain⟨t,e⟩:=(show ∃t,u=Value.str x t from r);subst e;exact Q8 P w x t
theorem Nq {P:Program} {w:World}:∀{ks:List Key} {us:YE},Vals (ks.map kV) us->ItemsAre (Cg P w) ks us
 | [],_,r=>by rw[Qca] at r;cases r;exact .nil
 | k::ks,_,r=>by
  rw[QbP] at r;cases r with
  | cons h t=>exact .cons (XF h) (Nq t)
abbrev YL:=List (List Key×V)
abbrev KT (H:Hp):YL->List (List Key×Addr×Value)->Prop:=Paired λp q=>p.1=q.1/\H q.2.1=some (.tup (p.1.map kV))/\RelV p.2 q.2.2
theorem KT.val {H:Hp} {kvs:YL} {xs:List (List Key×Addr×Value)} (r:KT H kvs xs) (k:List Key):Fx (Ib kvs k) ((atKey xs k).map (·.2)):=by
 induction r with
 | nil=>exact True.intro
 | @cons p q ps qs h t ih=>
  obtain⟨h1,_,h2⟩:=h;by_cases e:p.1=k
  ·have e':q.1=k:=h1.symm.trans e;have b:atKey (q::qs) k=some q.2:=by simp[atKey,List.find?_cons,e']
   rw[Ow e,b];exact h2
  ·have e':¬q.1=k:=λz=>e (h1.trans z);have b:atKey (q::qs) k=atKey qs k:=by simp[atKey,List.find?_cons,e']
   rw[Ox e,b];exact ih
theorem KT.repl {H:Hp} {kvs:YL} {xs:List (List Key×Addr×Value)} (r:KT H kvs xs) (k:List Key) {y:V} {u:Value} (ry:RelV y u) :
  KT H (kvs.map λkv=>if kv.1=k then (kv.1,y) else kv) (xs.map (putAt k u)):=by
 induction r with
 | nil=>exact .nil
 | @cons p q ps qs h t ih=>
  rw[QbP,QbP];refine .cons ?_ ih;obtain⟨h1,h2,h3⟩:=h;unfold putAt;by_cases e:p.1=k
  ·rw[if_pos e,if_pos (h1.symm.trans e)];exact⟨h1,h2,ry⟩
  ·rw[if_neg e,if_neg (λz=>e (h1.trans z))];exact⟨h1,h2,h3⟩
theorem KT.put {H:Hp} {kvs:YL} {xs:List (List Key×Addr×Value)} (r:KT H kvs xs) (k:List Key) {b:Addr} {y:V} {u:Value} (hb:H b=some (.tup (k.map kV))) (ry:RelV y u) :
  KT H (putK kvs k y) (storedH xs k b u):=by
 have e:(kvs.any λkv=>decide (kv.1=k))=(atKey xs k).isSome:=by
  rw[Oz,(r.val k).Vi,Option.isSome_map]
 unfold putK storedH;rw[e];by_cases q:(atKey xs k).isSome=true
 ·rw[if_pos q,if_pos q];exact r.repl k ry
 ·rw[if_neg q,if_neg q];exact Paired.snoc r ⟨rq,hb,ry⟩
theorem KT.keeps {H H':Hp} {kvs:YL} {xs:List (List Key×Addr×Value)} (r:KT H kvs xs) (ht:∀b ys,H b=some (.tup ys)->H' b=some (.tup ys)):KT H' kvs xs:=
 Paired.IK r λ_ _ z=>⟨z.1,ht _ _ z.2.1,z.2.2⟩
section
variable {P:Program} {w:World} {H:Hp} {h:Heap} {a:Addr}
theorem Xw {u:HO} (ok:HOk P w H h) (e:Rd H a u):Bd P w H h a u:=e.ok ok
abbrev YM:=List (Key×V)
theorem XS {kvs:YM} (ok:HOk P w H h) (e:Rd H a (.dK kvs)):kvs.length<=sizeLine/\(a == sysModules)=false/\∃vs,KV kvs vs/\h.DictOf (Cg P w) a vs:=
 show Bd P w H h a (.dK kvs) from Xw ok e
theorem cT {kvs:YM} (ok:HOk P w H h) (e:H a=some (.dK kvs)):kvs.length<=sizeLine/\(a == sysModules)=false/\∃vs,KV kvs vs/\h.DictOf (Cg P w) a vs:=XS ok (.inl e)
theorem Lx {ks:List Key} (ok:HOk P w H h) (e:H a=some (.tup (ks.map kV))):(tupleKind (Cg P w)).is h ks a:=by
 obtain⟨_,its,r,o,h1,h2,n,h3⟩:=(show Bd P w H h a (.tup (ks.map kV)) from ok a _ e)
 exact⟨o,its.toArray,n,h1,h2,h3,by simpa using Nq r⟩
theorem XR {kvs:YL} (ok:HOk P w H h) (e:Rd H a (.dT kvs)):kvs.length<=sizeLine/\(a == sysModules)=false /\
  ∃xs,KT H kvs xs/\h.DictOfH (tupleKind (Cg P w)) a xs:=by
 obtain⟨z,y,xs,r,o,es,ep,h1,h2,h3,h4,h5⟩:=(show Bd P w H h a (.dT kvs) from Xw ok e)
 refine⟨z,y,xs,r,o,es,ep,h1,h2,h3,h4,λx hx=>?_,h5⟩;have all:∀{l:YL} {m:List (List Key×Addr×Value)},KT H l m->∀x∈m,(tupleKind (Cg P w)).is h x.1 x.2.1:=by
  intro l m q
  induction q with
  | nil=>intro x hx;exact nomatch hx
  | @cons p q ps qs hq t ih=>
   intro x hx;rcases QbN.mp hx with e | hx
   ·subst e;exact Lx ok (by rw[<-hq.1];exact hq.2.1)
   ·exact ih x hx
 exact all r x hx
theorem cR {kvs:YL} (ok:HOk P w H h) (e:H a=some (.dT kvs)):kvs.length<=sizeLine/\(a == sysModules)=false /\
  ∃xs,KT H kvs xs/\h.DictOfH (tupleKind (Cg P w)) a xs:=XR ok (.inl e)
end
def bM (H:Hp) (a:Addr) (y:V) (r:Option V):Prop:=
 (∃kvs k,Rd H a (.dK kvs)/\y=kV k/\r=Ib kvs k)\/∃kvs k b,Rd H a (.dT kvs)/\y=.ref b/\H b=some (.tup (k.map kV))/\r=Ib kvs k
def K4 (H:Hp) (a:Addr) (y v:V) (H':Hp):Prop:=
 (∃kvs k,H a=some (.dK kvs)/\y=kV k/\kvs.length < sizeLine/\H'=upd H a (.dK (putK kvs k v))) \/
 ∃kvs k b,H a=some (.dT kvs)/\y=.ref b/\H b=some (.tup (k.map kV))/\kvs.length < sizeLine/\H'=upd H a (.dT (putK kvs k v))
theorem bM.k {H:Hp} {a:Addr} {kvs:YM} {k:Key} (e:H a=some (.dK kvs)):bM H a (kV k) (Ib kvs k):=.inl ⟨kvs,k,.inl e,rfl,rfl⟩
theorem K4.k {H:Hp} {a:Addr} {kvs:YM} {k:Key} {v:V} (e:H a=some (.dK kvs)) (hl:kvs.length < sizeLine):K4 H a (kV k) v (upd H a (.dK (putK kvs k v))):=.inl ⟨kvs,k,e,rfl,hl,rfl⟩
theorem K4.t {H:Hp} {a b:Addr} {kvs:YL} {k:List Key} {v:V} (e:H a=some (.dT kvs)) (eb:H b=some (.tup (k.map kV))) (hl:kvs.length < sizeLine) :
  K4 H a (.ref b) v (upd H a (.dT (putK kvs k v))):=.inr ⟨kvs,k,b,e,rq,eb,hl,rq⟩
section
variable {X:Cx} {jb:YC} {Z : St} {H:Hp} {s:Shared} {a:Addr} {y v:V} {u r:Value} {o:Option V} {A:Around} {E:YA}
theorem Inv.big (I:Inv X jb Z H s):sysModules < s.heap.objs.size:=by
 have h:mainGlobals < s.heap.objs.size:=(I.mod.glob.keeps I.bk).lt;exact Nat.lt_trans (by decide) h
theorem M9 {h':Heap} {t':Nat} {ob:HO} (I:Inv X jb Z H s) (mu:Mut (H a)) (hs:Heap.SameBut a s.heap h') (he:∃q,h'.get? a=some q) (new:Bd X.prog X.w (upd H a ob) h' a ob) :
  Inv X jb Z (upd H a ob) { s with heap:=h',toks:=t' }:=
 I.write (x:=a) (e:=a) mu (.inl rfl) (λb q hb z=>(hs.2 b hb).trans z) he new
theorem aK {P:Program} {w:World} {H':Hp} {h':Heap} {kvs:YM} {vs:List (Key×Value)} (z:kvs.length<=sizeLine) (hd:(a == sysModules)=false) (rel:KV kvs vs) (dd:h'.DictOf (Cg P w) a vs) :
  Bd P w H' h' a (.dK kvs):=⟨z,hd,vs,rel,dd⟩
theorem VB {H':Hp} {Q:YH} (hu:A.units+1 < cLine) (I:Inv X jb Z H s) (g:K4 H a y v H') (ry:RelV y u) (rv:RelV v r) (h:∀s',Inv X jb Z H' s'->Q () s') :
  wpAny (model X.prog X.w) A (setItem (.ref a) u r) Q E s:=by
 rcases g with⟨kvs,k,e,ey,l,eH⟩|⟨kvs,k,b,e,ey,eb,l,eH⟩
 ·subst ey eH;obtain⟨z,hd,vs,rel,dd⟩:=cT I.hok e;have hz:vs.length<=sizeLine:=by rw[<-rel.length];exact z
  have hl:(putK kvs k v).length<=sizeLine:=by have:=Kh kvs k v;omega
  refine wpAny_setItem_pairs (hsz:=hz) (XF ry) dd λh' dd' hs=>h _ ?_;have he:∃q,h'.get? a=some q:=let ⟨q,_,_,hq,_⟩:=dd';⟨q,hq⟩;exact M9 I (by rw[e];exact True.intro) hs he (aK hl hd (rel.put k rv) dd')
 ·subst ey eH;cases (show u=Value.ref b from ry)
  obtain⟨z,hd,xs,rel,dd⟩:=cR I.hok e;have hz:xs.length<=sizeLine:=by rw[<-QbO rel];exact z
  have hl:(putK kvs k v).length<=sizeLine:=by have:=Kh kvs k v;omega
  refine wpAny_setItem_heap (hsz:=hz) (tupleKind_room_in1 hu) (Lx I.hok eb) dd λh' dd' hs=>h _ ?_;obtain⟨q,es,ep,hq,h2,h3,h4,_,h5⟩:=dd';refine M9 I (by rw[e];exact True.intro) hs ⟨q,hq⟩ ⟨hl,hd,_,(rel.put k eb rv).keeps λc ys ec=>?_,q,es,ep,hq,h2,h3,h4,h5⟩;rw[Al (XD ec e (λz=>nomatch z))];exact ec
end
section
variable {X:Cx} {jb:YC} {Z : St} {H:Hp} {s:Shared} {a:Addr} {kvs:YM} {k:Key} {u:Value} {A:Around} {E:YA}
end
def bZ (td ty tv:TE):TS:=λD Z H=>tv Z H λv H1=>td Z H1 λx H2=>ty Z H2 λy H3=>∃a H4,x=.ref a/\K4 H3 a y v H4/\D.nx Z H4
section
variable {X:Cx} {o i e value:Expr} {pos pos' tpos:Pos} {td ty tv:TE}
theorem Yj (hu:X.A.units+1 < cLine) (ho:PE X o td) (hi:PE X i ty) (hv:PE X value tv) (hs:swapsWith value (some (.Subscript o i pos')) pos.line X.env=pure false) :
  PS X (.Assign [.Subscript o i pos'] value pos) (bZ td ty tv):=by
 intro jb s Z H D I h;refine wpAny_Assign_Subscript (thn (hv jb s Z H _ I h) λr s1 zz=>?_) hs;obtain⟨v,H1,I1,rv,q1⟩:=zz;refine thn (ho jb s1 Z H1 _ I1 q1) λu s2 zz=>?_;obtain⟨x,H2,I2,rx,q2⟩:=zz;refine thn (hi jb s2 Z H2 _ I2 q2) λiv s3 zz=>?_;obtain⟨y,H3,I3,ry,a,H4,ex,g,q3⟩:=zz;subst ex;obtain rfl:u=Value.ref a:=rx;exact VB hu I3 g ry rv λs4 I4=>⟨Z,H4,I4,q3⟩
end
theorem W7 {P:Program} {w:World} {H:Hp} (h:Heap) (hb:sysModules < h.objs.size):Bd P w H (h.push { cls:=.type "dict",data:=.dict #[] }) h.objs.size (.dT []):=
 ⟨Qce _,QaE.mpr (Ne.symm (QbV hb)),[],.nil,_,#[],0,QaD _ rfl,⟨rq,rq,rq⟩,rq,rq,List.nodup_nil⟩
def Zv:TE:=λ_ H Q=>∀p,H p=none->Q (.ref p) (upd H p (.dT []))
section
variable {X:Cx} {pos:Pos}
theorem Pz:PE X (.Dict [] [] pos) Zv:=λjb s Z H Q I h=>
 wpAny_Dict_empty ⟨.ref s.heap.objs.size,_,I.laid (a:=s.heap.objs.size) (o:=.dT []) (t':=s.toks) (λ_ _ q=>Qao _ q) (Qcd _) (W7 s.heap I.big),rq,h _ (I.hok.fresh (Qcd _))⟩
end
structure M2 (X:Cx) (o:Expr) (m:Str) (apos:Pos) (e f:Expr) (cpos:Pos):Prop where
 base:attributeBase o m X.env (eval o X.env)=eval o X.env
 few:((backTo cpos (starEach [e,f] X.env)).all (λx=>!x.1)&&(backToKw cpos (keywordEach [] X.env)).all (λx=>x.1.isSome)
 &&decide (([e,f]:YJ).length+([]:List Keyword).length+(if ([]:List Keyword).isEmpty then 0 else 1) < 30))=true
 line:(apos.endLine == cpos.line)=true
 trees:backTo cpos (starEach [e,f] X.env)=[(false,eval e X.env),(false,eval f X.env)]
def IsD (H:Hp) (a:Addr):Prop:=(∃kvs,Rd H a (.dK kvs))\/∃kvs,Rd H a (.dT kvs)
theorem Vj {X:Cx} {jb:YC} {Z : St} {H:Hp} {s:Shared} {a:Addr} (I:Inv X jb Z H s) (d:IsD H a) :
  s.TypeIs (.ref a) "dict"/\(∀b,Value.ref a=.ref b->∃ob,s.heap.get? b=some ob/\ob.dict=none)/\(a == sysModules)=false:=by
 rcases d with⟨kvs,e⟩|⟨kvs,e⟩
 ·obtain⟨_,hd,vs,_,dd⟩:=XS I.hok e;refine⟨dd.typeIs,λb q=>?_,hd⟩;cases q;obtain⟨ob,_,_,h1,h2,_⟩:=dd;exact⟨ob,h1,h2.2.1⟩
 ·obtain⟨_,hd,xs,_,dd⟩:=XR I.hok e;refine⟨dd.typeIs,λb q=>?_,hd⟩;cases q;obtain⟨ob,_,_,h1,h2,_⟩:=dd;exact⟨ob,h1,h2.2.1⟩
section
variable {X:Cx} {jb:YC} {Z : St} {H:Hp} {s:Shared} {a:Addr} {y d:V} {u r:Value} {o:Option V} {A:Around} {E:YA}
end
section
variable {X:Cx} {o e f:Expr} {apos cpos:Pos} {td ty tx:TE}
end
section
variable {X:Cx} {jb:YC} {Z : St} {H:Hp} {s:Shared} {a:Addr} {kvs:YM} {A:Around} {E:YA}
end
section
variable {X:Cx} {jb:YC} {Z : St} {H:Hp} {s:Shared} {a:Addr} {y:V} {u:Value} {A:Around} {E:YA}
end
section
variable {X:Cx}
end
section
variable {κ : Type} [DecidableEq κ]
end
end L2
namespace PySem
open Sem (wp)
section
variable {prog:Program} {w:World} {A:Around} {E:YA} {s:Shared}
theorem Lq {it l:Addr} {i:Nat} {items:Array Value} {x:Value} {Q:YA} (hit:s.heap.IsTupleIter it l i) (hl:s.heap.IsTuple l items) (hx:items[i]?=some x)
  (hQ:∀h',h'.IsTupleIter it l (i+1)->Heap.SameBut it s.heap h'->Q x { s with heap:=h' }):wpAny (model prog w) A (Builtin.SmallTypes.nextOf (.ref it)) Q E s:=by
 obtain⟨o,ho,hc,hd⟩:=id hit;obtain⟨ol,hol,_,nl,hdl⟩:=hl;unfold Builtin.SmallTypes.nextOf;refine Qcg (Qan (name:=Str.ofString "__next__") hit.typeIs Qaa (Qbi Qaa hit.typeIs PyProof.Rows.entry_tupleiter_next ?_ (PyProof.Rows.args_tupleiter_next _)));show wpAny _ _ (field (.ref it) 0 >>= _) _ _ s;refine Qcg (Qcf ho hd (x:=.ref l) rfl ?_);show wpAny _ _ (if (Value.ref l == Value.none)=true then _ else _) _ _ s
 rw[if_neg (show ¬((Value.ref l == Value.none)=true) from QaK)]
 show wpAny _ _ (field (.ref it) 1 >>= _) _ _ s;refine Qcg (Qcf ho hd (x:=.int i 0) rfl ?_);show wpAny _ _ (seqItems? (.ref l) >>= _) _ _ s;refine Qcg (QbM hol hdl ?_);simp only[Qba,hx];refine Qcg (wpAny_setField ho hd (by simp) (Qch ⟨x,rq,Qch (hQ _ ?_ (QaF ..))⟩));exact⟨_,Qau _ ho (Obj.isFreed_of_fields (Obj.data_mapFields hd _)),(Obj.cls_mapFields ..).trans hc,by rw[Obj.data_mapFields hd];simp[rawInt]⟩
theorem MF {it l:Addr} {i:Nat} {items:Array Value} {Q:YA} (hh:A.handled=none) (hit:s.heap.IsTupleIter it l i) (hl:s.heap.IsTuple l items) (hx:items[i]?=none)
  (hE:∀h' e,Heap.ExtBut it s.heap h'->(∃o,h'.get? e=some o/\o.cls=.type "StopIteration")->E (.ref e) { s with heap:=h' }):wpAny (model prog w) A (Builtin.SmallTypes.nextOf (.ref it)) Q E s:=by
 obtain⟨o,ho,hc,hd⟩:=id hit;obtain⟨ol,hol,_,nl,hdl⟩:=hl;unfold Builtin.SmallTypes.nextOf;refine Qcg (Qan (name:=Str.ofString "__next__") hit.typeIs Qaa (Qbi Qaa hit.typeIs PyProof.Rows.entry_tupleiter_next ?_ (PyProof.Rows.args_tupleiter_next _)));show wpAny _ _ (field (.ref it) 0 >>= _) _ _ s;refine Qcg (Qcf ho hd (x:=.ref l) rfl ?_);show wpAny _ _ (if (Value.ref l == Value.none)=true then _ else _) _ _ s
 rw[if_neg (show ¬((Value.ref l == Value.none)=true) from QaK)]
 show wpAny _ _ (field (.ref it) 1 >>= _) _ _ s;refine Qcg (Qcf ho hd (x:=.int i 0) rfl ?_);show wpAny _ _ (seqItems? (.ref l) >>= _) _ _ s;refine Qcg (QbM hol hdl ?_);simp only[Qba,hx];refine Qcg (Qcj (Qcg (wpAny_setField ho hd (by simp) ?_)));show wpAny _ _ (newExc (.type "StopIteration") [] >>= _) _ _ _;refine Qcg ?_;simp only[newExc,newTuple];refine Qcg (Qbe ?_ (by size_fits));refine Qcg (m:=firstArgMember _ _) (wpAny_of_eq (a:=Value.none) (by first | rfl | (simp only[firstArgMember];rfl)) ?_)
 refine Qbe ?_ (by size_fits);simp only[raiseNew];refine Qcg (wpAny_handled ?_)
 first | rw[show A.in1.handled=none from hh] | rw[hh]
 refine Qcg (Qch (wpAny_throw ?_));exact hE _ _ (((QaF ..).extBut.push _).push _) ⟨_,QaD _ rfl,rq⟩
end
theorem Draws.from {prog:Program} {w:World} {A:Around} {it:Addr} {fp:List Addr} {n:Nat} {P:Nat->Value->Prop} {St:Nat->Heap->Prop} (D:Draws prog w A it fp n P St) (k:Nat) :
  Draws prog w A it fp (k+n) (λj v=>∃i,j=k+i/\P i v) (λj h=>∃i,j=k+i/\i<=n/\St i h) where
 live:=λ_ _ ⟨i,_,_,st⟩=>D.live i _ st
 frame:=λ_ _ _ ⟨i,e,hi,st⟩ hk=>⟨i,e,hi,D.frame i _ _ st hk⟩
 item:=λj s Q E hj ⟨i,e,hi,st⟩ hQ=>D.item i s Q E (by omega) st λx h' tk p st' sb=>hQ x h' tk ⟨i,e,p⟩ ⟨i+1,by omega,by omega,st'⟩ sb
 done:=λs Q E ⟨i,e,hi,st⟩ hE=>by
  have:i=n:=by omega
  subst this;exact D.done s Q E st hE
end PySem
namespace L2
open PySem PySem.Spec PyProof.Rows
section
variable {X:Cx} {jb:YC} {Z : St} {H:Hp} {s:Shared} {h':Heap}
theorem Inv.Nk {t':Nat} {fp:List Addr} {t:Addr} {o:HO} (I:Inv X jb Z H s) (ht:s.heap.objs.size<=t) (k:∀b u,b∉fp->s.heap.get? b=some u->h'.get? b=some u) (hf:∀b∈fp,Gn X jb H b) (new:Bd X.prog X.w (upd H t o) h' t o) :
  Inv X jb Z (upd H t o) { s with heap:=h',toks:=t' }:=by
 have nt:=I.hok.fresh ht;have old:∀b u,s.heap.get? b=some u->b≠t:=λb u e z=>absurd (QaN (QbU e) ht) (by rw[z];exact QbQ _);have nf:∀b u,H b=some u->b∉fp:=λb u e z=>by rw[(hf b z).1] at e;cases e
 have tr:∀b u,H b=some u->(upd H t o) b=some u:=λb u e=>by rw[Al (Bm e nt)];exact e
 refine I.step (g':=s.gens) (d':=s.drawn) (ch:=fp) (λb hb=>?_) (λb u _ _ hc e _=>k b u hc e) (λb u _ _ hc e _=>⟨u.slots,k b u hc e⟩) (λb u hc e n=>by rw[Al (old b u e)];exact n)
  (λb u hc e=>⟨u,k b u hc e⟩) (λ_ _ e=>tr _ _ e) (λ_ _ _ e=>tr _ _ e) (λb ps e=>⟨#[],by rw[tr _ _ e];simp⟩) (λm hm=>?_) (λb u e=>?_) I.bare
 ·obtain⟨_,f1,_,f3,f4,f5⟩:=hf b hb;exact⟨f3,f1,f4,f5⟩
 ·obtain⟨u,es,ep,hu,r⟩:=hm;exact⟨u,es,ep,k _ u (λz=>(hf _ z).2.1 rfl) hu,r⟩
 ·by_cases hb:b=t
  ·subst hb;rw[Ac] at e;cases e;exact new
  ·rw[Al hb] at e;refine (I.hok b u e).stay (λc v hc q=>k c v ?_ q) (λc q=>tr _ _ q) λc xs q=>tr _ _ q;rcases hc with z | z
   ·rw[z];exact nf b u e
   ·exact nf c _ z
theorem Inv.Ro {t':Nat} {fp:List Addr} (I:Inv X jb Z H s) (k:∀b u,b∉fp->s.heap.get? b=some u->h'.get? b=some u) (hf:∀b∈fp,Gn X jb H b):Inv X jb Z H { s with heap:=h',toks:=t' }:=by
 have nf:∀b u,H b=some u->b∉fp:=λb u e z=>by rw[(hf b z).1] at e;cases e
 refine I.step (g':=s.gens) (d':=s.drawn) (ch:=fp) (λb hb=>?_) (λb u _ _ hc e _=>k b u hc e) (λb u _ _ hc e _=>⟨u.slots,k b u hc e⟩) (λb u hc e n=>n)
  (λb u hc e=>⟨u,k b u hc e⟩) (λ_ _ e=>e) (λ_ _ _ e=>e) (λb ps e=>⟨#[],by rw[e];simp⟩) (λm hm=>?_) (λb u e=>?_) I.bare
 ·obtain⟨_,f1,_,f3,f4,f5⟩:=hf b hb;exact⟨f3,f1,f4,f5⟩
 ·obtain⟨u,es,ep,hu,r⟩:=hm;exact⟨u,es,ep,k _ u (λz=>(hf _ z).2.1 rfl) hu,r⟩
 ·refine (I.hok b u e).stay (λc v hc q=>k c v ?_ q) (λ_ q=>q) λ_ _ q=>q;rcases hc with z | z
  ·rw[z];exact nf b u e
  ·exact nf c _ z
end
end L2
namespace PySem
open Sem (wp)
open AutoSeq1 (wpAny_loadPart')
end PySem
namespace PySem
open Sem (wp)
section
variable {prog:Program} {w:World} {A:Around} {E:YA} {s:Shared}
end
end PySem
namespace PyProof.Rows
open PySem
section
variable {M:Model} {A:Around} {E:YA} {s:Shared} {env:Env}
end
end PyProof.Rows
namespace L2
open PySem PySem.Spec PyProof.Rows
section
variable {X:Cx}
end
section
variable {X:Cx}
end
section
variable {X:Cx}
end
section
variable {X:Cx}
end
end L2
namespace PySem.ZZ
open PySem
section
variable {prog:Program} {w:World} {A:Around} {E:YA} {s:Shared}
theorem KR {M:Model} {α β : Type} {Q:β->Shared->Prop} {body:α->β->Sem (ForInStep β)} (J:List α->β->Shared->Prop) (hnil:∀b s,J [] b s->Q b s)
  (hstep:∀x r b s,J (x::r) b s->wpAny M A (body x b) (λst s'=>match st with | .yield b'=>J r b' s' | .done b'=>Q b' s') E s):∀(l:List α) (b:β) (s:Shared),J l b s->wpAny M A (forIn l b body) Q E s
 | [],b,s,h=>by
  rw[List.forIn_nil];exact Qch (hnil b s h)
 | x::r,b,s,h=>by
  rw[List.forIn_cons];refine Qcg (Qci (hstep x r b s h) (λst s' q=>?_) λ_ _ e=>e);cases st with
  | yield b'=>exact KR J hnil hstep r b' s' q
  | done b'=>exact Qch q
structure Src where
 it:Addr
 a:Addr
 items:Array Value
def SrcAt (h:Heap) (x:Src) (i:Nat):Prop:=(h.IsListIter x.it x.a i/\h.IsList x.a x.items)\/(h.IsTupleIter x.it x.a i/\h.IsTuple x.a x.items)
theorem SrcAt.keep {h h':Heap} {x:Src} {i:Nat} (q:SrcAt h x i) (k1:∀o,h.get? x.it=some o->h'.get? x.it=some o) (k2:∀o,h.get? x.a=some o->h'.get? x.a=some o):SrcAt h' x i:=by
 rcases q with⟨q1,q2⟩|⟨q1,o,e,r⟩
 ·exact .inl ⟨q1.at k1,q2.at k2⟩
 ·exact .inr ⟨q1.at k1,o,k2 o e,r⟩
theorem SrcAt.ne {h:Heap} {x:Src} {i:Nat} (q:SrcAt h x i):x.a≠x.it:=λz=>by
 rcases q with⟨⟨o,e,c,_⟩,⟨o',e',c',_⟩⟩|⟨⟨o,e,c,_⟩,⟨o',e',c',_⟩⟩
 ·rw[z,e] at e';cases e';rw[c] at c';injection c' with y;exact absurd y (by decide)
 ·rw[z,e] at e';cases e';rw[c] at c';injection c' with y;exact absurd y (by decide)
theorem O2 {x:Src} {i:Nat} {v:Value} {Q:YA} (q:SrcAt s.heap x i) (hx:x.items[i]?=some v) (hQ:∀h',SrcAt h' x (i+1)->Heap.SameBut x.it s.heap h'->Q v { s with heap:=h' }) :
  wpAny (model prog w) A (Builtin.SmallTypes.nextOf (.ref x.it)) Q E s:=by
 have ne:=q.ne;rcases q with⟨q1,q2⟩|⟨q1,q2⟩
 ·exact wpAny_nextOf_list_item q1 q2 hx λh' i1 sb=>hQ h' (.inl ⟨i1,q2.at λo e=>sb.extBut _ _ ne e⟩) sb
 ·exact Lq q1 q2 hx λh' i1 sb=>hQ h' (.inr ⟨i1,let ⟨o,e,r⟩:=q2;⟨o,sb.extBut _ _ ne e,r⟩⟩) sb
theorem X7 {x:Src} {i:Nat} {Q:YA} (hh:A.handled=none) (q:SrcAt s.heap x i) (hx:x.items[i]?=none)
  (hE:∀h' e,Heap.ExtBut x.it s.heap h'->(∃o,h'.get? e=some o/\o.cls=.type "StopIteration")->E (.ref e) { s with heap:=h' }):wpAny (model prog w) A (Builtin.SmallTypes.nextOf (.ref x.it)) Q E s:=by
 rcases q with⟨q1,q2⟩|⟨q1,q2⟩
 ·exact wpAny_nextOf_list_end hh q1 q2 hx hE
 ·exact MF hh q1 q2 hx hE
abbrev IsZ (h:Heap) (z TI TO:Addr) (f0 f1:Value):Prop:=h.get? z=some { cls:=.type "zip",dict:=none,data:=.fields #[f0,f1,.bool false,.ref TI,.ref TO],slots:=#[] }
abbrev BR (h:Heap) (T:Addr) (xs:YE):Prop:=h.get? T=some { cls:=.type "tuple",data:=.seq xs.toArray }
structure Apart (z TI TO:Addr) (ls:List Src):Prop where
 TIz:TI≠z
 TOz:TO≠z
 TITO:TI≠TO
 it:∀x∈ls,x.it≠z/\x.it≠TI/\x.it≠TO
 a:∀x∈ls,x.a≠z/\x.a≠TO
 ai:∀x∈ls,∀y∈ls,x.a≠y.it
 nd:(ls.map (·.it)).Nodup
def Rest (z TO:Addr) (ls:List Src) (h h':Heap):Prop:=∀c o,c≠z->c≠TO->c∉ls.map (·.it)->h.get? c=some o->h'.get? c=some o
theorem Yb {xs olds:YE} {k:Nat} {v:Value} (hk:k < olds.length) (hx:xs.length=olds.length) (e:xs[k]?=some v):(xs.take k++olds.drop k).toArray.setIfInBounds k v=(xs.take (k+1)++olds.drop (k+1)).toArray:=by
 rw[List.setIfInBounds_toArray];congr 1;have hl:(xs.take k).length=k:=by rw[Qbj];omega
 rw[List.set_append_right _ _ (by omega),hl,Nat.sub_self,Qal hk,List.set_cons_zero,List.take_add_one,e];simp
structure Mid (z TI TO:Addr) (ls:List Src) (xs olds:YE) (i:Nat) (f0 f1:Value) (h:Heap) (k:Nat) (h':Heap):Prop where
 hz:IsZ h' z TI TO f0 f1
 hTI:BR h' TI (ls.map λx=>.ref x.it)
 done:∀j x,ls[j]?=some x->SrcAt h' x (if j < k then i+1 else i)
 rest:Rest z TO ls h h'
 size:h'.objs.size=h.objs.size
theorem Mid.draw {z TI TO:Addr} {ls:List Src} {xs olds:YE} {i:Nat} {f0 f1:Value} {h h1 h2:Heap} {k:Nat} {x:Src} (D:Apart z TI TO ls) (m:Mid z TI TO ls xs olds i f0 f1 h k h1) (hx:ls[k]?=some x) (q:SrcAt h2 x (i+1)) (sb:Heap.SameBut x.it h1 h2) :
  Mid z TI TO ls xs olds i f0 f1 h (k+1) h2:=by
 have hm:=Qaw hx;have hi:=D.it x hm;refine⟨sb.extBut _ _ hi.1.symm m.hz,sb.extBut _ _ hi.2.1.symm m.hTI,λj y hy=>?_,λc o c1 c2 c3 e=>sb.extBut _ _ (λz=>c3 (z ▸ QbX.mpr ⟨x,hm,rq⟩)) (m.rest c o c1 c2 c3 e),by rw[sb.1,m.size]⟩;by_cases hj:j=k
 ·subst hj;rw[hx] at hy;cases hy;rw[if_pos (Qbq _)];exact q
 ·have h1:=m.done j y hy;have hne:y.it≠x.it:=λz=>hj (by
   have e1:(ls.map (·.it))[j]?=some y.it:=by rw[Qbb,hy];rfl
   have e2:(ls.map (·.it))[k]?=some x.it:=by rw[Qbb,hx];rfl
   rw[z] at e1;have l1:=(Qai.mp e1);have l2:=(Qai.mp e2);exact (List.getElem_inj D.nd).mp (l1.2.trans l2.2.symm))
  have hc:(if j < k+1 then i+1 else i)=(if j < k then i+1 else i):=by
   by_cases c:j < k
   ·rw[if_pos c,if_pos (by omega)]
   ·rw[if_neg c,if_neg (by omega)]
  rw[hc];exact h1.keep (λo e=>sb.extBut _ _ hne e) (λo e=>sb.extBut _ _ (D.ai y (Qaw hy) x hm) e)
theorem Mid.other {z TI TO:Addr} {ls:List Src} {xs olds:YE} {i:Nat} {f0 f1:Value} {h h1 h2:Heap} {k:Nat} (D:Apart z TI TO ls) (m:Mid z TI TO ls xs olds i f0 f1 h k h1) (sb:Heap.SameBut TO h1 h2):Mid z TI TO ls xs olds i f0 f1 h k h2:=by
 refine⟨sb.extBut _ _ D.TOz.symm m.hz,sb.extBut _ _ D.TITO m.hTI,λj y hy=>?_,λc o c1 c2 c3 e=>sb.extBut _ _ c2 (m.rest c o c1 c2 c3 e),by rw[sb.1,m.size]⟩;have hm:=Qaw hy;exact (m.done j y hy).keep (λo e=>sb.extBut _ _ (D.it y hm).2.2 e) (λo e=>sb.extBut _ _ (D.a y hm).2 e)
theorem NP {z TI TO:Addr} {ls:List Src} {xs olds:YE} {i:Nat} {f1:Value} {Q:YA} (D:Apart z TI TO ls) (hz:IsZ s.heap z TI TO .none f1) (hTI:BR s.heap TI (ls.map λx=>.ref x.it)) (hTO:BR s.heap TO olds)
  (hat:∀x∈ls,SrcAt s.heap x i) (hne:ls≠[]) (hl1:xs.length=ls.length) (hl2:olds.length=ls.length) (hx:∀(j:Nat) (x:Src),ls[j]?=some x->∃v,xs[j]?=some v/\x.items[i]?=some v) (hsz:ls.length<=100)
  (hQ:∀h',IsZ h' z TI TO (rawInt s.heap.objs.size) (.bool false)->BR h' TI (ls.map λx=>.ref x.it)->BR h' TO xs->(∀x∈ls,SrcAt h' x (i+1))->BR h' s.heap.objs.size xs->h'.objs.size=s.heap.objs.size+1->Rest z TO ls s.heap h'->Q (.ref s.heap.objs.size) { s with heap:=h' }) :
  wpAny (model prog w) A (Builtin.«zip.__next__» ⟨[.ref z],[]⟩) (λfin s'=>∃v,fin=.done (.ret v)/\Q v s') E s:=by
 show wpAny _ _ (field (.ref z) 2 >>= _) _ _ _;refine Qcg (Qcf hz rfl (x:=.bool false) rfl ?_);show wpAny _ _ (field (.ref z) 3 >>= _) _ _ _;refine Qcg (Qcf hz rfl (x:=.ref TI) rfl ?_);refine Qcg (QbM hTI rfl ?_);dsimp only;rw[if_neg (by cases ls with | nil=>exact absurd rfl hne | cons a r=>simp)];show wpAny _ _ (Builtin.SmallTypes.ownedTupleIsFree (.ref z) >>= _) _ _ _;refine Qcg ?_;unfold Builtin.SmallTypes.ownedTupleIsFree;refine Qcg (Qcf hz rfl (x:=.none) rfl (Qch ?_));simp only[if_true];refine Qcg (Qcj ?_);refine Qcg (Qcf hz rfl (x:=.ref TO) rfl ?_);refine Qcg (QaV hz (by simp) λh₁ hz₁ hs₁=>?_);replace hz₁ : IsZ h₁ z TI TO .ellipsis f1:=hz₁;refine Qcg ?_;have m0:Mid z TI TO ls xs olds i .ellipsis f1 s.heap 0 h₁:=by
  refine⟨hz₁,hs₁.extBut _ _ D.TIz hTI,λj x hj=>?_,λc o c1 _ _ e=>hs₁.extBut _ _ c1 e,hs₁.1⟩;have hm:=Qaw hj;rw[if_neg (QbF _)];exact (hat x hm).keep (λo e=>hs₁.extBut _ _ (D.it x hm).1 e) (λo e=>hs₁.extBut _ _ (D.a x hm).1 e)
 have Qo : BR h₁ TO (xs.take 0++olds.drop 0):=hs₁.extBut _ _ D.TOz hTO;refine KR (λl b s'=>∃k h',k<=ls.length/\l=((ls.map λx=>Value.ref x.it).drop k).zipIdx k/\b=⟨none,⟨⟩⟩/\s'={ s with heap:=h' }/\Mid z TI TO ls xs olds i .ellipsis f1 s.heap k h'/\BR h' TO (xs.take k++olds.drop k)) (λb s' h=>?_) (λx r b s' h=>?_) _ _ _ ⟨0,h₁,Qce _,rq,rq,rq,m0,Qo⟩
 ·obtain⟨k,h',hk,e1,rfl,rfl,m,hT⟩:=h;have hkl:k=ls.length:=by
   have:=congrArg List.length e1;rw[List.length_nil,List.length_zipIdx,Qbo,Qbu] at this;omega
  subst hkl;rw[<-hl1,Qbk,hl1,<-hl2,List.drop_length,QbE] at hT;dsimp only;refine Qcg (QbM hT rfl ?_);refine Qcg (wpAny_newTuple ?_ (by show xs.length<=sizeLine;rw[sizeLine_eq];omega));have hkl:∀j x,ls[j]?=some x->SrcAt h' x (i+1):=λj x hj=>by
   have:=m.done j x hj;rw[if_pos (Qai.mp hj).1] at this;exact this
  have hzlt:z < h'.objs.size:=QbU m.hz;have hTOlt:TO < h'.objs.size:=QbU hT;show wpAny _ _ (Builtin.SmallTypes.ownedTupleHandOut (.ref z) (.ref h'.objs.size) >>= _) _ _ _;refine Qcg ?_;unfold Builtin.SmallTypes.ownedTupleHandOut;have hz₆ : IsZ (h'.push { cls:=.type "tuple",data:=.seq xs.toArray }) z TI TO .ellipsis f1:=Qao _ m.hz;refine Qcg (QaV hz₆ (by simp) λh₇ hz₇ hs₇=>?_);replace hz₇ : IsZ h₇ z TI TO (rawInt h'.objs.size) f1:=hz₇;refine QaV hz₇ (by simp) λh₈ hz₈ hs₈=>?_;replace hz₈ : IsZ h₈ z TI TO (rawInt h'.objs.size) (.bool false):=hz₈;have up:∀c o,c≠z->h'.get? c=some o->h₈.get? c=some o:=λc o c1 e=>hs₈.extBut _ _ c1 (hs₇.extBut _ _ c1 (Qao _ e));have hT₈ : BR h₈ h'.objs.size xs:=hs₈.extBut _ _ (Qcb hzlt) (hs₇.extBut _ _ (Qcb hzlt) (QaD _ rfl));have hz8:h₈.objs.size=h'.objs.size+1:=by rw[hs₈.1,hs₇.1,QbL]
  have hsz':=m.size;rw[hsz'] at hz₈ hT₈ hz8;refine Qch ⟨_,rq,?_⟩;show Q (.ref h'.objs.size) _;rw[hsz'];refine hQ h₈ hz₈ (up _ _ D.TIz m.hTI) (up _ _ D.TOz hT) (λx hm=>?_) hT₈ hz8 λc o c1 c2 c3 e=>up c o c1 (m.rest c o c1 c2 c3 e);obtain⟨j,hj⟩:=QaA hm;exact (hkl j x hj).keep (λo e=>up _ o (D.it x hm).1 e) (λo e=>up _ o (D.a x hm).1 e)
 ·obtain⟨k,h',hk,e1,rfl,rfl,m,hT⟩:=h;have hkl:k < ls.length:=by
   have:=congrArg List.length e1;rw[Qbm,List.length_zipIdx,Qbo,Qbu] at this;omega
  obtain⟨y,hy⟩ : ∃y,ls[k]?=some y:=⟨_,Qam hkl⟩;have hm:=Qaw hy;rw[Qal (by rw[Qbu];exact hkl),List.zipIdx_cons,List.getElem_map] at e1;have ey:ls[k]=y:=(Qai.mp hy).2;rw[ey] at e1;injection e1 with e1 e2;subst e1 e2;obtain⟨v,hv1,hv2⟩:=hx k y hy;refine Qcg (wpAny_onRaise ?_);show wpAny _ _ (Builtin.SmallTypes.nextOf (.ref y.it) >>= _) _ _ _;have q0:=m.done k y hy;rw[if_neg (QbQ _)] at q0;refine Qcg (O2 q0 hv2 λh2 q2 sb2=>Qch ?_);have m2:=m.draw D hy q2 sb2;have hT2:BR h2 TO (xs.take k++olds.drop k):=sb2.extBut _ _ (D.it y hm).2.2.symm hT;have hln:(xs.take k++olds.drop k).length<=100:=by rw[QaL,Qbj,Qbo];omega
  have hsm:=Yb (xs:=xs) (olds:=olds) (k:=k) (v:=v) (by omega) (by omega) hv1;refine Qcg (QbM hT2 rfl ?_);refine Qcg (wpAny_updateSeq hT2 rfl ?_ (by rw[QaZ,sizeLine_eq];omega) (by rw[hsm,QaZ,sizeLine_eq,QaL,Qbj,Qbo];omega));have sb3:Heap.SameBut TO h2 (h2.update TO (Obj.mapSeq λx=>x.setIfInBounds k v)):=QaF ..;have hT3:BR (h2.update TO (Obj.mapSeq λx=>x.setIfInBounds k v)) TO (xs.take (k+1)++olds.drop (k+1)):=by
   show (h2.update TO _).get? TO=_;rw[Qau _ hT2 rfl,<-hsm];simp[Obj.mapSeq]
  refine Qcg (wpAny_letGo (Qch ?_));exact⟨k+1,_,hkl,rq,rq,rq,m2.other D sb3,hT3⟩
theorem Ov {z TI TO:Addr} {ls:List Src} {olds:YE} {i:Nat} {f1:Value} {Q:Fin->Shared->Prop} (hh:A.handled=none) (D:Apart z TI TO ls) (hz:IsZ s.heap z TI TO .none f1) (hTI:BR s.heap TI (ls.map λx=>.ref x.it)) (hTO:BR s.heap TO olds)
  (hat:∀x∈ls,SrcAt s.heap x i) (hne:ls≠[]) (hl2:olds.length=ls.length) (hsz:ls.length<=100) (hend:∃x∈ls,x.items[i]?=none)
  (hE:∀h' e,Rest z TO ls s.heap h'->(∃o,h'.get? e=some o/\o.cls=.type "StopIteration")->E (.ref e) { s with heap:=h' }) :
  wpAny (model prog w) A (Builtin.«zip.__next__» ⟨[.ref z],[]⟩) Q E s:=by
 show wpAny _ _ (field (.ref z) 2 >>= _) _ _ _;refine Qcg (Qcf hz rfl (x:=.bool false) rfl ?_);show wpAny _ _ (field (.ref z) 3 >>= _) _ _ _;refine Qcg (Qcf hz rfl (x:=.ref TI) rfl ?_);refine Qcg (QbM hTI rfl ?_);dsimp only;rw[if_neg (by cases ls with | nil=>exact absurd rfl hne | cons a r=>simp)];show wpAny _ _ (Builtin.SmallTypes.ownedTupleIsFree (.ref z) >>= _) _ _ _;refine Qcg ?_;unfold Builtin.SmallTypes.ownedTupleIsFree;refine Qcg (Qcf hz rfl (x:=.none) rfl (Qch ?_));simp only[if_true];refine Qcg (Qcj ?_);refine Qcg (Qcf hz rfl (x:=.ref TO) rfl ?_);refine Qcg (QaV hz (by simp) λh₁ hz₁ hs₁=>?_);replace hz₁ : IsZ h₁ z TI TO .ellipsis f1:=hz₁;refine Qcg ?_;have m0:Mid z TI TO ls [] olds i .ellipsis f1 s.heap 0 h₁:=by
  refine⟨hz₁,hs₁.extBut _ _ D.TIz hTI,λj x hj=>?_,λc o c1 _ _ e=>hs₁.extBut _ _ c1 e,hs₁.1⟩;have hm:=Qaw hj;rw[if_neg (QbF _)];exact (hat x hm).keep (λo e=>hs₁.extBut _ _ (D.it x hm).1 e) (λo e=>hs₁.extBut _ _ (D.a x hm).1 e)
 have Qo : BR h₁ TO olds:=hs₁.extBut _ _ D.TOz hTO;refine KR (λl b s'=>∃k h' ys,k<=ls.length/\l=((ls.map λx=>Value.ref x.it).drop k).zipIdx k/\b=⟨none,⟨⟩⟩/\s'={ s with heap:=h' }/\Mid z TI TO ls [] olds i .ellipsis f1 s.heap k h'/\BR h' TO ys/\ys.length=ls.length/\∃x∈ls.drop k,x.items[i]?=none) (λb s' h=>?_) (λx r b s' h=>?_) _ _ _ ⟨0,h₁,olds,Qce _,rq,rq,rq,m0,Qo,hl2,hend⟩
 ·obtain⟨k,h',ys,hk,e1,rfl,rfl,m,hT,hy,x,hx,_⟩:=h;have:k=ls.length:=by
   have:=congrArg List.length e1;rw[List.length_nil,List.length_zipIdx,Qbo,Qbu] at this;omega
  subst this;rw[List.drop_length] at hx;cases hx
 ·obtain⟨k,h',ys,hk,e1,rfl,rfl,m,hT,hys,xe,hxe,hxn⟩:=h;have hkl:k < ls.length:=by
   have:=congrArg List.length e1;rw[Qbm,List.length_zipIdx,Qbo,Qbu] at this;omega
  obtain⟨y,hy⟩ : ∃y,ls[k]?=some y:=⟨_,Qam hkl⟩;have hm:=Qaw hy;rw[Qal (by rw[Qbu];exact hkl),List.zipIdx_cons,List.getElem_map] at e1;have ey:ls[k]=y:=(Qai.mp hy).2;rw[ey] at e1;injection e1 with e1 e2;subst e1 e2;refine Qcg (wpAny_onRaise ?_);show wpAny _ _ (Builtin.SmallTypes.nextOf (.ref y.it) >>= _) _ _ _;have q0:=m.done k y hy;rw[if_neg (QbQ _)] at q0;cases hv:y.items[i]? with
  | none=>
   refine Qcg (X7 hh q0 hv λh₂ e hs₂ he=>?_);obtain⟨oe,hoe,hce⟩:=he;have hz₂ : IsZ h₂ z TI TO .ellipsis f1:=hs₂ _ _ (D.it y hm).1.symm m.hz;have hez:e≠z:=λx=>by subst x;rw[hz₂] at hoe;cases hoe;simp at hce
   refine QaV hz₂ (by simp) λh₃ _ hs₃=>hE h₃ e (λc o c1 c2 c3 x=>hs₃.extBut _ _ c1 (hs₂ _ _ (λq=>c3 (q ▸ QbX.mpr ⟨y,hm,rq⟩)) (m.rest c o c1 c2 c3 x))) ⟨oe,hs₃.extBut _ _ hez hoe,hce⟩
  | some v=>
   refine Qcg (O2 q0 hv λh2 q2 sb2=>Qch ?_);have m2:=m.draw D hy q2 sb2;have hT2:BR h2 TO ys:=sb2.extBut _ _ (D.it y hm).2.2.symm hT;refine Qcg (QbM hT2 rfl ?_);refine Qcg (wpAny_updateSeq hT2 rfl ?_ (by rw[QaZ,sizeLine_eq];omega) (by rw[Array.size_setIfInBounds,QaZ,sizeLine_eq];omega));have sb3:Heap.SameBut TO h2 (h2.update TO (Obj.mapSeq λx=>x.setIfInBounds k v)):=QaF ..;have hT3:BR (h2.update TO (Obj.mapSeq λx=>x.setIfInBounds k v)) TO (ys.set k v):=by
    show (h2.update TO _).get? TO=_;rw[Qau _ hT2 rfl,<-List.setIfInBounds_toArray];simp[Obj.mapSeq]
   refine Qcg (wpAny_letGo (Qch ?_));refine⟨k+1,_,ys.set k v,hkl,rq,rq,rq,m2.other D sb3,hT3,by rw[QbC];exact hys,xe,?_,hxn⟩;rw[Qal hkl,ey] at hxe;rcases QbN.mp hxe with z | z
   ·subst z;rw[hv] at hxn;cases hxn
   ·exact z
theorem SJ {z TI TO:Addr} {f0 f1:Value} {Q:Option Value->Shared->Prop} (hz:IsZ s.heap z TI TO f0 f1) {Qi:YA} (h:wpAny (model prog w) A.in1 (Builtin.«zip.__next__» ⟨[.ref z],[]⟩) (λfin s'=>∃v,fin=.done (.ret v)/\Qi v s') (λ_ _=>False) s) (hQ:∀v s',Qi v s'->Q (some v) s') :
  wpAny (model prog w) A (pyNext (.ref z)) Q E s:=by
 have hT:s.TypeIs (.ref z) "zip":=⟨_,hz,rq⟩;unfold pyNext;refine Qcg (QbT (Qan (name:=Str.ofString "__next__") hT F.slot_zip_next (Qbi F.slot_zip_next hT F.entry_zip_next (Qci h (λfin s' q=>?_) λ_ _ f=>f.elim) (F.args_zip_next_1 _))));obtain⟨v,e,q⟩:=q;exact⟨v,e,Qch (hQ v s' q)⟩
theorem Mp {z TI TO:Addr} {f0 f1:Value} {Q:Option Value->Shared->Prop} {R:Heap->Prop} (hz:IsZ s.heap z TI TO f0 f1)
  (h:wpAny (model prog w) A.in1 (Builtin.«zip.__next__» ⟨[.ref z],[]⟩) (λ_ _=>False) (λv s'=>∃h' e,v=.ref e/\s'={ s with heap:=h' }/\R h'/\∃o,h'.get? e=some o/\o.cls=.type "StopIteration") s) (hQ:∀h',R h'->Q none { s with heap:=h' }) :
  wpAny (model prog w) A (pyNext (.ref z)) Q E s:=by
 have hT:s.TypeIs (.ref z) "zip":=⟨_,hz,rq⟩;unfold pyNext;refine Qcg (QbT (Qan (name:=Str.ofString "__next__") hT F.slot_zip_next (Qbi F.slot_zip_next hT F.entry_zip_next (Qci h (λ_ _ f=>f.elim) λv s' q=>?_) (F.args_zip_next_1 _))));obtain⟨h',e,rfl,rfl,r,o,ho,hc⟩:=q;exact Qcg (wpAny_isInstance (T:="StopIteration") (b:=true) ⟨o,ho,hc⟩ isSubtype_stop (Qch (hQ _ r)))
theorem Lg {z TI TO:Addr} {f0 f1:Value} {Q:YA} (hz:IsZ s.heap z TI TO f0 f1) (h:Q (.ref z) s):wpAny (model prog w) A (pyIter (.ref z)) Q E s:=by
 have hT:s.TypeIs (.ref z) "zip":=⟨_,hz,rq⟩;refine wpAny_pyIter_slot hT F.slot_zip_iter (Qbi F.slot_zip_iter hT F.entry_zip_iter ?_ (F.args_zip_iter_1 _));show wpAny _ _ (ret (.ref z)) _ _ s;exact Qch ⟨_,rq,"zip",_,hT,F.slot_zip_next.lookup,h⟩
theorem Vb {elts:YJ} {x1} {pos:Pos} {z TI TO T:Addr} {f1:Value} {Q:YH} (hz:IsZ s.heap z TI TO (rawInt T) f1)
  (hQ:∀h',IsZ h' z TI TO .none f1->Heap.SameBut z s.heap h'->Q () { s with heap:=h' }):wpAny (model prog w) A (letOwnedTupleGo (.Tuple elts x1 pos) (.ref z) (.ref T)) Q E s:=by
 unfold letOwnedTupleGo;refine Qcg (wpAny_load hz ?_);show wpAny _ _ (if (["enumerate","zip","dict_itemiterator","dict_reverseitemiterator","odict_iterator","itertools.zip_longest","itertools.pairwise"].contains "zip" &&
   (#[rawInt T,f1,.bool false,.ref TI,.ref TO]:Array Value)[0]? == some (rawInt T))=true then _ else _) Q E s
 rw[if_pos (by simp)];refine Qcg (Qcj ?_);show wpAny _ _ (setField (.ref z) 0 .none) Q E s;exact QaV hz (by simp) λh' hz' hs'=>hQ h' hz' hs'
end
end PySem.ZZ
namespace PySem
namespace F
end F
end PySem
namespace PySem.ZZ
open PySem
def JC (h:Heap) (a:Addr) (xs:Array Value) (c:String):Prop:=(c="list_iterator"/\h.IsList a xs)\/(c="tuple_iterator"/\h.IsTuple a xs)
theorem JC.src {h h':Heap} {a it:Addr} {xs:Array Value} {c:String} (q:JC h a xs c) (k:∀o,h.get? a=some o->h'.get? a=some o) (e:h'.get? it=some { cls:=.type c,data:=.fields #[.ref a,.int 0 0] }):SrcAt h' ⟨it,a,xs⟩ 0:=by
 rcases q with⟨rfl,q⟩|⟨rfl,o,ho,r⟩
 ·exact .inl ⟨⟨_,e,rq,rq⟩,q.at k⟩
 ·exact .inr ⟨⟨_,e,rq,rq⟩,o,k o ho,r⟩
theorem JC.lt {h:Heap} {a:Addr} {xs:Array Value} {c:String} (q:JC h a xs c):a < h.objs.size:=by
 rcases q with⟨rfl,o,e,_⟩|⟨rfl,o,e,_⟩
 ·exact QbU e
 ·exact QbU e
abbrev itO (c:String) (l:Addr):Obj:={ cls:=.type c,data:=.fields #[.ref l,.int 0 0] }
abbrev tuO (xs:Array Value):Obj:={ cls:=.type "tuple",data:=.seq xs }
abbrev z2a (h:Heap) (c1 c2:String) (l1 l2:Addr):Heap:=((((h.push (itO c1 l1)).push (itO c2 l2)).push (tuO #[.ref h.objs.size,.ref (h.push (itO c1 l1)).objs.size])).push (tuO #[.none,.none]))
abbrev z2 (h:Heap) (c1 c2:String) (l1 l2:Addr):Heap:=(z2a h c1 c2 l1 l2).push
 { cls:=.type "zip",data:=.fields #[.none,.bool false,.bool false,.ref ((h.push (itO c1 l1)).push (itO c2 l2)).objs.size,.ref (((h.push (itO c1 l1)).push (itO c2 l2)).push (tuO #[.ref h.objs.size,.ref (h.push (itO c1 l1)).objs.size])).objs.size] }
theorem Tn (l1 l2:Addr) (xs ys:Array Value) (c1 c2:String):Meets (Builtin.«zip.__new__» ⟨[.type "zip",.ref l1,.ref l2],[]⟩) (λ_ R s=>JC s.heap l1 xs c1/\JC s.heap l2 ys c2/\R (.ok (.ret (.ref (z2a s.heap c1 c2 l1 l2).objs.size))) { s with heap:=z2 s.heap c1 c2 l1 l2 }):=
 .of_wp λprog w A R s h=>by
  obtain⟨hp,g,d,tk,os⟩:=s;obtain⟨hl1,hl2,h⟩:=h;have hsub:=sub_zip;rcases hl1 with⟨rfl,hl1⟩|⟨rfl,hl1⟩
  ·have hL1:Heap.IsList (Shared.heap ⟨hp,g,d,tk,os⟩) l1 xs:=hl1;rcases hl2 with⟨rfl,hl2⟩|⟨rfl,hl2⟩
   ·have hL2:Heap.IsList (Shared.heap ⟨hp.push (itO "list_iterator" l1),g,d,tk,os⟩) l2 ys:=Heap.IsList.push hl2 _
    wp_walk using Qbg hL1,Qbg hL2
    exact⟨_,rq,h⟩
   ·have hL2:Heap.IsTuple (Shared.heap ⟨hp.push (itO "list_iterator" l1),g,d,tk,os⟩) l2 ys:=Heap.IsTuple.push hl2 _
    wp_walk using Qbg hL1,QaW hL2
    exact⟨_,rq,h⟩
  ·have hL1:Heap.IsTuple (Shared.heap ⟨hp,g,d,tk,os⟩) l1 xs:=hl1;rcases hl2 with⟨rfl,hl2⟩|⟨rfl,hl2⟩
   ·have hL2:Heap.IsList (Shared.heap ⟨hp.push (itO "tuple_iterator" l1),g,d,tk,os⟩) l2 ys:=Heap.IsList.push hl2 _
    wp_walk using QaW hL1,Qbg hL2
    exact⟨_,rq,h⟩
   ·have hL2:Heap.IsTuple (Shared.heap ⟨hp.push (itO "tuple_iterator" l1),g,d,tk,os⟩) l2 ys:=Heap.IsTuple.push hl2 _
    wp_walk using QaW hL1,QaW hL2
    exact⟨_,rq,h⟩
abbrev z3a (h:Heap) (c1 c2 c3:String) (l1 l2 l3:Addr):Heap:=(((((h.push (itO c1 l1)).push (itO c2 l2)).push (itO c3 l3)).push (tuO #[.ref h.objs.size,.ref (h.push (itO c1 l1)).objs.size,.ref ((h.push (itO c1 l1)).push (itO c2 l2)).objs.size])).push (tuO #[.none,.none,.none]))
abbrev z3 (h:Heap) (c1 c2 c3:String) (l1 l2 l3:Addr):Heap:=(z3a h c1 c2 c3 l1 l2 l3).push
 { cls:=.type "zip",data:=.fields #[.none,.bool false,.bool false,.ref (((h.push (itO c1 l1)).push (itO c2 l2)).push (itO c3 l3)).objs.size,.ref ((((h.push (itO c1 l1)).push (itO c2 l2)).push (itO c3 l3)).push (tuO #[.ref h.objs.size,.ref (h.push (itO c1 l1)).objs.size,.ref ((h.push (itO c1 l1)).push (itO c2 l2)).objs.size])).objs.size] }
structure dg (h:Heap) (z TI TO:Addr) (ls:List Src) (h':Heap):Prop where
 hz:IsZ h' z TI TO .none (.bool false)
 hTI:BR h' TI (ls.map λx=>.ref x.it)
 hTO:BR h' TO (ls.map λ_=>.none)
 at_:∀x∈ls,SrcAt h' x 0
 ap:Apart z TI TO ls
 new:h.objs.size<=z/\h.objs.size<=TI/\h.objs.size<=TO/\∀x∈ls,h.objs.size<=x.it
 keep:∀c o,h.get? c=some o->h'.get? c=some o
theorem na {a b:Nat} (h:a≠b):@Ne Addr a b:=h
theorem apart2 {n l1 l2:Nat} {xs ys:Array Value} (a1:l1 < n) (a2:l2 < n):Apart (n+1+1+1+1:Nat) (n+1+1:Nat) (n+1+1+1:Nat) [⟨n,l1,xs⟩,⟨(n+1:Nat),l2,ys⟩]:=by
 refine⟨na (by omega),na (by omega),na (by omega),λx hx=>?_,λx hx=>?_,λx hx y hy=>?_,?_⟩
 ·rcases QbN.mp hx with rfl | hx
  ·exact⟨na (by dsimp only;omega),na (by dsimp only;omega),na (by dsimp only;omega)⟩
  ·cases QaJ.mp hx;exact⟨na (by dsimp only;omega),na (by dsimp only;omega),na (by dsimp only;omega)⟩
 ·rcases QbN.mp hx with rfl | hx
  ·exact⟨na (by dsimp only;omega),na (by dsimp only;omega)⟩
  ·cases QaJ.mp hx;exact⟨na (by dsimp only;omega),na (by dsimp only;omega)⟩
 ·rcases QbN.mp hx with rfl | hx
  ·rcases QbN.mp hy with rfl | hy
   ·exact na (by dsimp only;omega)
   ·cases QaJ.mp hy;exact na (by dsimp only;omega)
  ·cases QaJ.mp hx;rcases QbN.mp hy with rfl | hy
   ·exact na (by dsimp only;omega)
   ·cases QaJ.mp hy;exact na (by dsimp only;omega)
 ·show List.Nodup ([n,n+1]:List Nat);simp
section
variable {prog:Program} {w:World} {A:Around} {E:YA} {s:Shared}
theorem VG {l1 l2:Addr} {xs ys:Array Value} {c1 c2:String} {Q:YA} (hl1:JC s.heap l1 xs c1) (hl2:JC s.heap l2 ys c2)
  (h:∀h' z TI TO i1 i2,dg s.heap z TI TO [⟨i1,l1,xs⟩,⟨i2,l2,ys⟩] h'->Q (.ref z) { s with heap:=h' }):wpAny (model prog w) A (call (.type "zip") [.ref l1,.ref l2]) Q E s:=by
 refine callType_new F.called_zip (by decide) (F.typeCall_zip_2 _ _) (F.newCall_zip_2 _ _) (λobj=>F.args_object_init_3 obj _ _) F.entry_zip_new (Tn l1 l2 xs ys c1 c2) ⟨hl1,hl2,?_⟩;have g5:(z2 s.heap c1 c2 l1 l2).get? (z2a s.heap c1 c2 l1 l2).objs.size=some _:=QaD _ rfl;have g4:(z2 s.heap c1 c2 l1 l2).get? (((s.heap.push (itO c1 l1)).push (itO c2 l2)).push (tuO #[.ref s.heap.objs.size,.ref (s.heap.push (itO c1 l1)).objs.size])).objs.size=some (tuO #[.none,.none]):=Qao _ (QaD _ rfl);have g3:(z2 s.heap c1 c2 l1 l2).get? ((s.heap.push (itO c1 l1)).push (itO c2 l2)).objs.size=some (tuO #[.ref s.heap.objs.size,.ref (s.heap.push (itO c1 l1)).objs.size]):=Qao _ (Qao _ (QaD _ rfl));have g2:(z2 s.heap c1 c2 l1 l2).get? (s.heap.push (itO c1 l1)).objs.size=some (itO c2 l2):=Qao _ (Qao _ (Qao _ (QaD _ rfl)));have g1:(z2 s.heap c1 c2 l1 l2).get? s.heap.objs.size=some (itO c1 l1):=Qao _ (Qao _ (Qao _ (Qao _ (QaD _ rfl))));have kp:∀c o,s.heap.get? c=some o->(z2 s.heap c1 c2 l1 l2).get? c=some o:=λc o x=>Qao _ (Qao _ (Qao _ (Qao _ (Qao _ x))));have a1:=hl1.lt;have a2:=hl2.lt;refine⟨⟨_,g5,rq⟩,h _ _ _ _ s.heap.objs.size (s.heap.push (itO c1 l1)).objs.size ⟨g5,g3,g4,?_,?_,?_,kp⟩⟩
 ·intro x hx;rcases QbN.mp hx with rfl | hx
  ·exact hl1.src (λo e=>kp _ _ e) g1
  ·rcases QbN.mp hx with rfl | hx
   ·exact hl2.src (λo e=>kp _ _ e) g2
   ·cases hx
 ·simp only[QbL];exact apart2 a1 a2
 ·simp only[QbL,QbN,Qbh,Qcl,forall_eq_or_imp,forall_eq];omega
end
end PySem.ZZ
namespace PySem
namespace F
end F
end PySem
namespace PySem.ZZ
open PySem
section
variable {prog:Program} {w:World} {A:Around} {E:YA} {s:Shared}
structure Run (hb:Heap) (z TI TO:Addr) (ls:List Src) (rows:Nat->YE) (S:Addr) (ts:List Addr) (h:Heap):Prop where
 inc:ts.Pairwise (· < ·)
 lo:∀t∈ts,S < t/\t < h.objs.size
 at_:∀j t,ts[j]?=some t->BR h t (rows j)
 keep:∀c o,hb.get? c=some o->h.get? c=some o
 hTI:BR h TI (ls.map λx=>.ref x.it)
 hTO:∃olds,BR h TO olds/\olds.length=ls.length
 src:∀x∈ls,SrcAt h x ts.length
 hz:(ts=[]/\IsZ h z TI TO .none (.bool false))\/∃(T:Addr) (f1:Value),ts[0]?=some T/\IsZ h z TI TO (rawInt T) f1
structure Below (hb:Heap) (z TI TO:Addr) (ls:List Src) (S:Addr):Prop where
 ap:Apart z TI TO ls
 old:hb.objs.size<=z/\hb.objs.size<=TI/\hb.objs.size<=TO/\∀x∈ls,hb.objs.size<=x.it
 lz:z < S
 lTI:TI < S
 lTO:TO < S
 it:∀x∈ls,x.it < S/\x.a < S
 base:hb.objs.size<=S
theorem Run.frame {hb:Heap} {z TI TO:Addr} {ls:List Src} {rows:Nat->YE} {S:Addr} {ts:List Addr} {h h':Heap} (B:Below hb z TI TO ls S) (r:Run hb z TI TO ls rows S ts h) (hs:h'.objs.size=h.objs.size) (k:∀c o,c≠S->h.get? c=some o->h'.get? c=some o):Run hb z TI TO ls rows S ts h':=by
 obtain⟨olds,o1,o2⟩:=r.hTO;refine⟨r.inc,λt ht=>by rw[hs];exact r.lo t ht,λj t e=>k _ _ (Qcb (r.lo t (Qaw e)).1) (r.at_ j t e),λc o e=>k _ _ (QbV (QaN (QbU e) B.base)) (r.keep c o e),k _ _ (QbV B.lTI) r.hTI,⟨olds,k _ _ (QbV B.lTO) o1,o2⟩,λx hx=>?_,?_⟩
 ·exact (r.src x hx).keep (λo e=>k _ _ (QbV (B.it x hx).1) e) (λo e=>k _ _ (QbV (B.it x hx).2) e)
 ·rcases r.hz with⟨e,q⟩|⟨T,f1,e,q⟩
  ·exact .inl ⟨e,k _ _ (QbV B.lz) q⟩
  ·exact .inr ⟨T,f1,e,k _ _ (QbV B.lz) q⟩
theorem Run.more {hb:Heap} {z TI TO:Addr} {ls:List Src} {rows:Nat->YE} {S:Addr} {ts:List Addr} {h h':Heap} (B:Below hb z TI TO ls S) (r:Run hb z TI TO ls rows S ts h) (hS:S < h.objs.size) (hs:h'.objs.size=h.objs.size+1) (hr:Rest z TO ls h h')
  (hTI:BR h' TI (ls.map λx=>.ref x.it)) (hTO:∃olds,BR h' TO olds/\olds.length=ls.length) (src:∀x∈ls,SrcAt h' x (ts.length+1)) (new:BR h' h.objs.size (rows ts.length)) (hz:∃(T:Addr) (f1:Value),(ts++[h.objs.size])[0]?=some T/\IsZ h' z TI TO (rawInt T) f1):Run hb z TI TO ls rows S (ts++[h.objs.size]) h':=by
 have fr:∀t,S < t->t≠z/\t≠TO/\t∉ls.map (·.it):=λt ht=>⟨λe=>by rw[e] at ht;exact Nat.lt_asymm ht B.lz,λe=>by rw[e] at ht;exact Nat.lt_asymm ht B.lTO,λe=>by
  obtain⟨x,hx,e'⟩:=QbX.mp e;rw[<-e'] at ht;exact Nat.lt_asymm ht (B.it x hx).1⟩
 refine⟨?_,λt ht=>?_,λj t e=>?_,λc o e=>?_,hTI,hTO,λx hx=>by rw[QaL];exact src x hx,.inr hz⟩
 ·exact List.pairwise_append.mpr ⟨r.inc,List.pairwise_singleton _ _,λa ha b hb'=>by
   have:b=h.objs.size:=by simpa using hb'
   rw[this];exact (r.lo a ha).2⟩
 ·rw[hs];rcases Qbw.mp ht with ht | ht
  ·have:=r.lo t ht;exact⟨this.1,Nat.lt_succ_of_lt this.2⟩
  ·have:t=h.objs.size:=by simpa using ht
   rw[this];exact⟨hS,Qbq _⟩
 ·by_cases c:j < ts.length
  ·rw[Qak c] at e;have hlo:=r.lo t (Qaw e);obtain⟨f1,f2,f3⟩:=fr t hlo.1;exact hr t _ f1 f2 f3 (r.at_ j t e)
  ·rw[Qah (Nat.le_of_not_lt c)] at e;have hj:j - ts.length=0:=by
    have:=(Qai.mp e).1;rw[List.length_singleton] at this;omega
   rw[hj] at e;cases e;have:j=ts.length:=by omega
   rw[this];exact new
 ·have hlt:=QbU e;refine hr c o (λq=>?_) (λq=>?_) (λq=>?_) (r.keep c o e)
  ·rw[q] at hlt;exact absurd hlt (Nat.not_lt.mpr B.old.1)
  ·rw[q] at hlt;exact absurd hlt (Nat.not_lt.mpr B.old.2.2.1)
  ·obtain⟨x,hx,e'⟩:=QbX.mp q;rw[<-e'] at hlt;exact absurd hlt (Nat.not_lt.mpr (B.old.2.2.2 x hx))
end
end PySem.ZZ
namespace PySem.ZZ
open PySem
section
variable {prog:Program} {w:World} {A:Around} {E:YA} {s:Shared}
structure Rows (ls:List Src) (n:Nat) (rows:Nat->YE):Prop where
 row:∀j,j < n->(rows j).length=ls.length/\∀(k:Nat) (x:Src),ls[k]?=some x->∃v,(rows j)[k]?=some v/\x.items[j]?=some v
 stop:∃x∈ls,x.items[n]?=none
 ne:ls≠[]
 few:ls.length<=100
 most:n<=1000
end
end PySem.ZZ
namespace L2
open PySem PySem.Spec PyProof.Rows
theorem CP {h:Heap} {p q:Addr} {o o':Obj} (e:h.get? p=some o) (e':h.get? q=some o') (n:o.cls≠o'.cls):p≠q:=λz=>by
 rw[z,e'] at e;cases e;exact n rfl
theorem Gu {h:Heap} {a:Addr} {xs ys:Array Value} (h1:h.IsList a xs) (h2:h.IsTuple a ys):False:=by
 obtain⟨o,e,c,_⟩:=h1;obtain⟨o',e',c',_⟩:=h2;rw[e'] at e;cases e;rw[c'] at c;injection c with q;exact absurd q (by decide)
def Itz (K:YD) (a b:Addr):It:=
  ⟨λi H=>∃xs ys x y,SqL K H a xs/\SqL K H b ys/\xs[i]?=some x/\ys[i]?=some y,
   λi H v H'=>∃p x y,H p=none/\v=.ref p/\H'=upd H p (.tup [x,y])/\(∀xs,SqL K H a xs->xs[i]?=some x)/\∀ys,SqL K H b ys->ys[i]?=some y,
   λi H=>∃xs ys,SqL K H a xs/\SqL K H b ys/\(xs.length<=i\/ys.length<=i)⟩
theorem V6 {P:Program} {w:World} {K:YD} {elts:YJ} {k:Nat} {pos:Pos} (a b z TI TO i1 i2:Addr) (nd:[z,TI,TO,i1,i2].Nodup) :
  Turn P w K (.Tuple elts k pos) (Itz K a b) [z,TI,TO,i1,i2] z (λi h=>(∃f1,ZZ.IsZ h z TI TO .none f1)/\ZZ.BR h TI [.ref i1,.ref i2]/\(∃olds:YE,ZZ.BR h TO olds/\olds.length=2)/\h.IsListIter i1 a i/\h.IsListIter i2 b i) where
 mem:=by simp
 obj:=λi h st c hc=>by
  obtain⟨⟨f1,hz⟩,hTI,⟨olds,hTO,_⟩,⟨o1,e1,_,d1⟩,o2,e2,_,d2⟩:=st;simp only[QbN,Qbh,Qcl] at hc;rcases hc with rfl | rfl | rfl | rfl | rfl
  ·exact⟨_,hz,λv q=>by cases (show Data.fields _=Data.cell v from q)⟩
  ·exact⟨_,hTI,λv q=>by cases (show Data.seq _ _=Data.cell v from q)⟩
  ·exact⟨_,hTO,λv q=>by cases (show Data.seq _ _=Data.cell v from q)⟩
  ·exact⟨o1,e1,λv q=>by rw[d1] at q;cases q⟩
  ·exact⟨o2,e2,λv q=>by rw[d2] at q;cases q⟩
 keep:=λi h h' st k=>by
  obtain⟨⟨f1,hz⟩,hTI,⟨olds,hTO,l⟩,h1,h2⟩:=st;exact⟨⟨f1,k z (by simp) _ hz⟩,k TI (by simp) _ hTI,⟨olds,k TO (by simp) _ hTO,l⟩,h1.at λo e=>k i1 (by simp) o e,h2.at λo e=>k i2 (by simp) o e⟩
 item:=by
  intro X hP hw hK hc i jb s Z H E I hf st hg;subst hP hw hK;obtain⟨xs,ys,x,y,hq1,hq2,hx,hy⟩:=hg;obtain⟨us,ru,p1,z1⟩:=I.list hq1;obtain⟨ws,rw',p2,z2⟩:=I.list hq2;obtain⟨u,hu,ru'⟩:=ru.get hx;obtain⟨v,hv,rv'⟩:=rw'.get hy;obtain⟨⟨f1,hz⟩,hTI,⟨olds,hTO,lo⟩,hi1,hi2⟩:=st;simp only[QbD,QbN,Qbh,Qcl,not_or,List.nodup_nil,not_false_eq_true,and_true] at nd;obtain⟨⟨n1,n2,n3,n4⟩,⟨n5,n6,n7⟩,⟨n8,n9⟩,n10⟩:=nd;have D:ZZ.Apart z TI TO [⟨i1,a,us.toArray⟩,⟨i2,b,ws.toArray⟩]:=by
   obtain⟨oa,ea,ca,_⟩:=p1.isList;obtain⟨ob,eb,cb,_⟩:=p2.isList;obtain⟨o1,e1,c1,_⟩:=id hi1;obtain⟨o2,e2,c2,_⟩:=id hi2;have l1:Value.type "list"≠Value.type "zip":=λq=>absurd (by injection q) (show ¬("list"="zip") by decide);have l2:Value.type "list"≠Value.type "tuple":=λq=>absurd (by injection q) (show ¬("list"="tuple") by decide);have l3:Value.type "list"≠Value.type "list_iterator":=λq=>absurd (by injection q) (show ¬("list"="list_iterator") by decide);refine⟨Ne.symm n1,Ne.symm n2,n5,λq hq=>?_,λq hq=>?_,λq hq r hr=>?_,?_⟩
   ·simp only[QbN,Qbh,Qcl] at hq;rcases hq with rfl | rfl
    ·exact⟨Ne.symm n3,Ne.symm n6,Ne.symm n8⟩
    ·exact⟨Ne.symm n4,Ne.symm n7,Ne.symm n9⟩
   ·simp only[QbN,Qbh,Qcl] at hq;rcases hq with rfl | rfl
    ·exact⟨CP ea hz (by rw[ca];exact l1),CP ea hTO (by rw[ca];exact l2)⟩
    ·exact⟨CP eb hz (by rw[cb];exact l1),CP eb hTO (by rw[cb];exact l2)⟩
   ·simp only[QbN,Qbh,Qcl] at hq hr;rcases hq with rfl | rfl <;> rcases hr with rfl | rfl
    ·exact CP ea e1 (by rw[ca,c1];exact l3)
    ·exact CP ea e2 (by rw[ca,c2];exact l3)
    ·exact CP eb e1 (by rw[cb,c1];exact l3)
    ·exact CP eb e2 (by rw[cb,c2];exact l3)
   ·simp[n10]
  have hat:∀q∈([⟨i1,a,us.toArray⟩,⟨i2,b,ws.toArray⟩]:List ZZ.Src),ZZ.SrcAt s.heap q i:=λq hq=>by
   simp only[QbN,Qbh,Qcl] at hq;rcases hq with rfl | rfl
   ·exact .inl ⟨hi1,p1.isList⟩
   ·exact .inl ⟨hi2,p2.isList⟩
  refine ZZ.SJ hz (Qi:=λr s'=>∃h',r=.ref s.heap.objs.size/\s'={ s with heap:=h' }/\ZZ.IsZ h' z TI TO (rawInt s.heap.objs.size) (.bool false)/\ZZ.BR h' TI [.ref i1,.ref i2]/\ZZ.BR h' TO [u,v]/\(∀q∈([⟨i1,a,us.toArray⟩,⟨i2,b,ws.toArray⟩]:List ZZ.Src),ZZ.SrcAt h' q (i+1))/\ZZ.BR h' s.heap.objs.size [u,v]/\ZZ.Rest z TO [⟨i1,a,us.toArray⟩,⟨i2,b,ws.toArray⟩] s.heap h')
   (ZZ.NP (xs:=[u,v]) D hz hTI hTO hat (by simp) rfl lo (λj q hj=>?_) (by show 2<=100;decide) λh' a1 a2 a3 a4 a5 a6 a7=>⟨h',rq,rq,a1,a2,a3,a4,a5,a7⟩) λr s' hQ=>?_
  ·match j,hj with
   | 0,hj=>cases hj;exact⟨u,rfl,by simpa using hu⟩
   | 1,hj=>cases hj;exact⟨v,rfl,by simpa using hv⟩
  obtain⟨h',rfl,rfl,a1,a2,a3,a4,a5,a7⟩:=hQ;refine⟨_,rq,ZZ.Vb (s:={ s with heap:=h' }) a1 λh2 hz2 sb=>?_⟩;have hlt2:s.heap.objs.size≠z:=Qcb (QbU hz);have hT2:ZZ.BR h2 s.heap.objs.size [u,v]:=(sb.2 _ hlt2).trans a5;have new:Bd X.prog X.w (upd H s.heap.objs.size (.tup [x,y])) h2 s.heap.objs.size (.tup [x,y]):=
   ⟨by show 2<=sizeLine;decide,[u,v],.cons ru' (.cons rv' .nil),_,hT2,rq,0,rq⟩
  have I1:=I.Nk (h':=h2) (t':=s.toks) (Qcd _) (λc q hc e=>(sb.2 c (λw=>hc (by simp[w]))).trans (a7 c q (λw=>hc (by simp[w])) (λw=>hc (by simp[w])) (λw=>hc (by simp only[QbP,Qca,QbN,Qbh,Qcl] at w;rcases w with w | w <;> simp[w])) e)) hf new;have back:∀{it l:Addr} {items:Array Value},l≠z->l≠TO->l≠i1->l≠i2->it≠z->s.heap.IsList l items->ZZ.SrcAt h' ⟨it,l,items⟩ (i+1)->h2.IsListIter it l (i+1):=λm1 m2 m3 m4 m5 hl q=>by
   rcases q with⟨q1,_⟩|⟨_,q2⟩
   ·exact q1.at λo e=>(sb.2 _ m5).trans e
   ·obtain⟨o,e,r⟩:=hl;exact (Gu ⟨o,a7 _ o m1 m2 (by simp[m3,m4]) e,r⟩ q2).elim
  refine⟨.ref s.heap.objs.size,_,I1,rq,⟨s.heap.objs.size,x,y,I.hok.fresh (Qcd _),rq,rq,λys' hy'=>by rw[I.IV hy' hq1];exact hx,λys' hy'=>by rw[I.IV hy' hq2];exact hy⟩,⟨⟨_,hz2⟩,(sb.2 _ (Ne.symm n1)).trans a2,⟨[u,v],(sb.2 _ (Ne.symm n2)).trans a3,rq⟩,?_,?_⟩,λc hc=>?_⟩
  ·exact back (D.a ⟨i1,a,us.toArray⟩ (by simp)).1 (D.a ⟨i1,a,us.toArray⟩ (by simp)).2 (D.ai ⟨i1,a,us.toArray⟩ (by simp) ⟨i1,a,us.toArray⟩ (by simp)) (D.ai ⟨i1,a,us.toArray⟩ (by simp) ⟨i2,b,ws.toArray⟩ (by simp)) (Ne.symm n3) p1.isList (a4 _ (by simp))
  ·exact back (D.a ⟨i2,b,ws.toArray⟩ (by simp)).1 (D.a ⟨i2,b,ws.toArray⟩ (by simp)).2 (D.ai ⟨i2,b,ws.toArray⟩ (by simp) ⟨i1,a,us.toArray⟩ (by simp)) (D.ai ⟨i2,b,ws.toArray⟩ (by simp) ⟨i2,b,ws.toArray⟩ (by simp)) (Ne.symm n4) p2.isList (a4 _ (by simp))
  ·have hlc:c≠s.heap.objs.size:=by
    have hmem:∃o,s.heap.get? c=some o:=by
     simp only[QbN,Qbh,Qcl] at hc;rcases hc with rfl | rfl | rfl | rfl | rfl
     ·exact⟨_,hz⟩
     ·exact⟨_,hTI⟩
     ·exact⟨_,hTO⟩
     ·obtain⟨o,e,_⟩:=hi1;exact⟨o,e⟩
     ·obtain⟨o,e,_⟩:=hi2;exact⟨o,e⟩
    obtain⟨o,e⟩:=hmem;exact QbV (QbU e)
   rw[Al hlc];exact (hf c hc).1
 done:=by
  intro X hP hw hK hc i jb s Z H E I hf st hg;subst hP hw hK;obtain⟨xs,ys,hq1,hq2,hend⟩:=hg;obtain⟨us,ru,p1,z1⟩:=I.list hq1;obtain⟨ws,rw',p2,z2⟩:=I.list hq2;obtain⟨⟨f1,hz⟩,hTI,⟨olds,hTO,lo⟩,hi1,hi2⟩:=st;simp only[QbD,QbN,Qbh,Qcl,not_or,List.nodup_nil,not_false_eq_true,and_true] at nd;obtain⟨⟨n1,n2,n3,n4⟩,⟨n5,n6,n7⟩,⟨n8,n9⟩,n10⟩:=nd;have D:ZZ.Apart z TI TO [⟨i1,a,us.toArray⟩,⟨i2,b,ws.toArray⟩]:=by
   obtain⟨oa,ea,ca,_⟩:=p1.isList;obtain⟨ob,eb,cb,_⟩:=p2.isList;obtain⟨o1,e1,c1,_⟩:=id hi1;obtain⟨o2,e2,c2,_⟩:=id hi2;have l1:Value.type "list"≠Value.type "zip":=λq=>absurd (by injection q) (show ¬("list"="zip") by decide);have l2:Value.type "list"≠Value.type "tuple":=λq=>absurd (by injection q) (show ¬("list"="tuple") by decide);have l3:Value.type "list"≠Value.type "list_iterator":=λq=>absurd (by injection q) (show ¬("list"="list_iterator") by decide);refine⟨Ne.symm n1,Ne.symm n2,n5,λq hq=>?_,λq hq=>?_,λq hq r hr=>?_,?_⟩
   ·simp only[QbN,Qbh,Qcl] at hq;rcases hq with rfl | rfl
    ·exact⟨Ne.symm n3,Ne.symm n6,Ne.symm n8⟩
    ·exact⟨Ne.symm n4,Ne.symm n7,Ne.symm n9⟩
   ·simp only[QbN,Qbh,Qcl] at hq;rcases hq with rfl | rfl
    ·exact⟨CP ea hz (by rw[ca];exact l1),CP ea hTO (by rw[ca];exact l2)⟩
    ·exact⟨CP eb hz (by rw[cb];exact l1),CP eb hTO (by rw[cb];exact l2)⟩
   ·simp only[QbN,Qbh,Qcl] at hq hr;rcases hq with rfl | rfl <;> rcases hr with rfl | rfl
    ·exact CP ea e1 (by rw[ca,c1];exact l3)
    ·exact CP ea e2 (by rw[ca,c2];exact l3)
    ·exact CP eb e1 (by rw[cb,c1];exact l3)
    ·exact CP eb e2 (by rw[cb,c2];exact l3)
   ·simp[n10]
  have hat:∀q∈([⟨i1,a,us.toArray⟩,⟨i2,b,ws.toArray⟩]:List ZZ.Src),ZZ.SrcAt s.heap q i:=λq hq=>by
   simp only[QbN,Qbh,Qcl] at hq;rcases hq with rfl | rfl
   ·exact .inl ⟨hi1,p1.isList⟩
   ·exact .inl ⟨hi2,p2.isList⟩
  have l1:=ru.length;have l2:=rw'.length;refine ZZ.Mp hz (R:=λh'=>ZZ.Rest z TO [⟨i1,a,us.toArray⟩,⟨i2,b,ws.toArray⟩] s.heap h') (ZZ.Ov (I.ok.hd hc) D hz hTI hTO hat (by simp) lo (by show 2<=100;decide) ?_ λh' e r st=>⟨h',e,rfl,rfl,r,st⟩) λh' r=>⟨rfl,I.Ro (h':=h') (t':=s.toks) (λc q hc e=>r c q (λw=>hc (by simp[w])) (λw=>hc (by simp[w])) (λw=>hc (by simp only[QbP,Qca,QbN,Qbh,Qcl] at w;rcases w with w | w <;> simp[w])) e) hf⟩;rcases hend with h | h
  ·exact⟨_,QaP ..,by simp;omega⟩
  ·exact⟨_,Qax _ (QaP ..),by simp;omega⟩
 self:=λ_ _ _ _ _ st h=>ZZ.Lg st.1.choose_spec h
def jy (K:YD) (ta:TA):TI:=fun Z H R=>ta Z H λvs H1=>∃a b,vs=[.ref a,.ref b]/\(∃xs,SqL K H1 a xs)/\(∃ys,SqL K H1 b ys)/\R (Itz K a b) H1
section
variable {X:Cx}
theorem Ym {a b:Expr} {ta:TA} {p pos tp:Pos} {elts:YJ} {k:Nat} (hg:Gl X "zip") (hm:X.mg "zip"=none) (ha:PA X [a,b] ta)
  (hs:starEach [a,b] X.env=[(false,eval a X.env),(false,eval b X.env)]:=by rfl) (hs2:starEach [b] X.env=[(false,eval b X.env)]:=by rfl):PI X (.Tuple elts k tp) (.Call (.Name "zip" p) [a,b] [] pos) (jy X.K ta):=by
 intro jb s Z H R I h;refine Call_ (Eu I hg hm (u:=.type "zip") (by trivial) (Qae (thn (ha pos jb s Z H _ I h) λus s1 ⟨vs,H1,I1,r1,q1⟩=>?_) (by rw[hs,hs2]) (by rw[hs2];rfl)));obtain⟨a,b,e,⟨xs,hx⟩,⟨ys,hy⟩,q⟩:=q1;subst e;cases r1 with
 | cons r rr=>
  cases rr with
  | cons r' rr=>
   cases rr;cases r;cases r';obtain⟨us,ru,k1,z1⟩:=I1.list hx;obtain⟨ws,rw',k2,z2⟩:=I1.list hy;refine ZZ.VG (c1:="list_iterator") (c2:="list_iterator") (.inl ⟨rq,k1.isList⟩) (.inl ⟨rq,k2.isList⟩) λh' z TI TO i1 i2 f=>?_;refine ZZ.Lg (s:={ s1 with heap:=h' }) f.hz ?_;have nd:[z,TI,TO,i1,i2].Nodup:=by
    have a1:=f.ap.it ⟨i1,a,us.toArray⟩ (by simp);have a2:=f.ap.it ⟨i2,b,ws.toArray⟩ (by simp);have a3:i1≠i2:=by
     have:=f.ap.nd;simpa using this
    simp only[QbD,QbN,Qbh,Qcl,not_or,List.nodup_nil,not_false_eq_true,and_true];exact⟨⟨Ne.symm f.ap.TIz,Ne.symm f.ap.TOz,Ne.symm a1.1,Ne.symm a2.1⟩,⟨f.ap.TITO,Ne.symm a1.2.1,Ne.symm a2.2.1⟩,⟨Ne.symm a1.2.2,Ne.symm a2.2.2⟩,a3⟩
   have at1:h'.IsListIter i1 a 0:=by
    rcases f.at_ ⟨i1,a,us.toArray⟩ (by simp) with⟨x1,_⟩|⟨_,x2⟩
    ·exact x1
    ·obtain⟨o,e,r⟩:=k1.isList;exact (Gu ⟨o,f.keep _ o e,r⟩ x2).elim
   have at2:h'.IsListIter i2 b 0:=by
    rcases f.at_ ⟨i2,b,ws.toArray⟩ (by simp) with⟨x1,_⟩|⟨_,x2⟩
    ·exact x1
    ·obtain⟨o,e,r⟩:=k2.isList;exact (Gu ⟨o,f.keep _ o e,r⟩ x2).elim
   refine⟨z,[z,TI,TO,i1,i2],_,_,H1,rq,I1.kept (t':=s1.toks) λc o e=>f.keep c o e,V6 a b z TI TO i1 i2 nd,⟨⟨_,f.hz⟩,f.hTI,⟨_,f.hTO,rq⟩,at1,at2⟩,λc hc=>?_,q⟩;have hn:=f.new;have hcs:s1.heap.objs.size<=c:=by
    simp only[QbN,Qbh,Qcl] at hc;rcases hc with rfl | rfl | rfl | rfl | rfl
    ·exact hn.1
    ·exact hn.2.1
    ·exact hn.2.2.1
    ·exact hn.2.2.2 ⟨c,a,us.toArray⟩ (by simp)
    ·exact hn.2.2.2 ⟨c,b,ws.toArray⟩ (by simp)
   exact I1.M5 hcs (I1.hok.fresh hcs)
end
theorem lF {K:YD} {a b l:Addr} {xs ys:YG} {g:TG} {tt:TT} {te:TE} {Q:VK} {σ0:St} {H0:Hp} (hxy:ys.length=xs.length) (Pv:YN)
  (h0:Pv 0 σ0 H0) (hl:∀i Z H',i<=xs.length->Pv i Z H'->SqL K H' a xs/\SqL K H' b ys)
  (hs:∀i x y p Z H',xs[i]?=some x->ys[i]?=some y->Pv i Z H'->H' p=none->g (.ref p) Z (upd H' p (.tup [x,y])) fun σ3 H3=>tt σ3 H3 λb H4=>if b=true then te σ3 H4 λy H5=>∃ys,H5 l=some (.lst ys)/\ys.length < sizeLine/\Pv (i+1) σ3 (upd H5 l (.lst (ys++[y]))) else Pv (i+1) σ3 H4)
  (hd:∀ Z H',Pv xs.length Z H'->Q (.ref l) H'):Ej (Itz K a b) g tt te Q σ0 H0 l:=by
 unfold Ej;refine⟨λi m Z H'=>m=xs.length - i/\i<=xs.length/\Pv i Z H',⟨xs.length,by simp,Qce _,h0⟩,?_⟩;rintro i m Z H' ⟨rfl,hi,p⟩;obtain⟨q1,q2⟩:=hl i Z H' hi p;by_cases hlt:i < xs.length
 ·have hlt2:i < ys.length:=by omega
  refine .inr ⟨⟨xs,ys,xs[i],ys[i],q1,q2,Qam hlt,Qam hlt2⟩,Pv (i+1),fun σ3 H3 p'=>⟨xs.length - (i+1),by omega,rq,hlt,p'⟩,λv H2 y=>?_⟩;obtain⟨pp,x',y',hp,rfl,rfl,e1,e2⟩:=y;exact hs i x' y' pp Z _ (e1 xs q1) (e2 ys q2) p hp
 ·exact .inl ⟨⟨xs,ys,q1,q2,.inl (by omega)⟩,by
   have:i=xs.length:=by omega
   subst this;exact hd _ _ p⟩
theorem Zc {K:YD} {a b:Addr} {xs ys:YG} {g:TG} {tb:TS} {D:Ends} {Z : St} {H:Hp} (hxy:ys.length=xs.length) (Pv:YN) (h0:Pv 0 Z H) (hl:∀i Z H',i<=xs.length->Pv i Z H'->SqL K H' a xs/\SqL K H' b ys)
  (hs:∀i x y p Z H',xs[i]?=some x->ys[i]?=some y->Pv i Z H'->H' p=none->g (.ref p) Z (upd H' p (.tup [x,y])) fun σ2 H2=>tb { D with nx:=Pv (i+1),ct:=Pv (i+1),bk:=D.nx } σ2 H2) (hd:∀ Z H',Pv xs.length Z H'->D.nx Z H') :
  ∃W:Nat->YN,(∃m,W 0 m Z H)/\∀i m Z H,W i m Z H ->
   ((Itz K a b).stop i H/\D.nx Z H)\/((Itz K a b).go i H/\∃N:YO,(∀ σ' H',N σ' H'->∃m',m' < m/\W (i+1) m' σ' H')/\∀x H',(Itz K a b).yld i H x H'->g x Z H' fun σ2 H2=>tb { D with nx:=N,ct:=N,bk:=D.nx } σ2 H2):=by
 refine⟨λi m Z H=>m=xs.length - i/\i<=xs.length/\Pv i Z H,⟨xs.length,by simp,Qce _,h0⟩,?_⟩;rintro i m Z H' ⟨rfl,hi,p⟩;obtain⟨q1,q2⟩:=hl i Z H' hi p;by_cases hlt:i < xs.length
 ·have hlt2:i < ys.length:=by omega
  refine .inr ⟨⟨xs,ys,xs[i],ys[i],q1,q2,Qam hlt,Qam hlt2⟩,Pv (i+1),fun σ3 H3 p'=>⟨xs.length - (i+1),by omega,rq,hlt,p'⟩,λv H2 y=>?_⟩;obtain⟨pp,x',y',hp,rfl,rfl,e1,e2⟩:=y;exact hs i x' y' pp Z _ (e1 xs q1) (e2 ys q2) p hp
 ·exact .inl ⟨⟨xs,ys,q1,q2,.inl (by omega)⟩,by
   have:i=xs.length:=by omega
   subst this;exact hd _ _ p⟩
mutual
inductive Jg (K:YD) (H:Hp):V->PyData->Prop
 | non:Jg K H .non .none
 | bl (b:Bool):Jg K H (.bl b) (.bool b)
 | int (i:Int):Jg K H (.int i) (.int i)
 | str (x:Str):Jg K H (.str x) (.str x)
 | tup {a:Addr} {xs:YG} {ds:List PyData}:SqT K H a xs->Ia K H xs ds->Jg K H (.ref a) (.tuple ds)
inductive Ia (K:YD) (H:Hp):YG->List PyData->Prop
 | nil:Ia K H [] []
 | cons {x:V} {d:PyData} {xs:YG} {ds:List PyData}:Jg K H x d->Ia K H xs ds->Ia K H (x::xs) (d::ds)
end
section
variable {X:Cx} {jb:YC} {Z : St} {H:Hp} {s:Shared}
mutual
theorem Jg.reads (I:Inv X jb Z H s):∀{v:V} {d:PyData} {u:Value},Jg X.K H v d->RelV v u->∃as,Reads s.heap u d as
 | _,_,_,.non,r=>by cases (show _=Value.none from r);exact⟨_,.none⟩
 | _,_,_,.bl b,r=>by cases (show _=Value.bool b from r);exact⟨_,.bool b⟩
 | _,_,_,.int i,r=>by obtain⟨t,rfl⟩:=(show ∃t,_=Value.int i t from r);exact⟨_,.int i t⟩
 | _,_,_,.str x,r=>by obtain⟨t,rfl⟩:=(show ∃t,_=Value.str x t from r);exact⟨_,.str x t⟩
 | _,_,_,.tup (a:=a) (xs:=xs) e q,r=>by
  cases (show _=Value.ref a from r)
  obtain⟨its,rv,⟨o,ho,hc,n,hd⟩,_⟩:=I.tuple e;obtain⟨as,z⟩:=Ia.reads I q rv;exact⟨_,.tuple ho hc hd (by simpa using z)⟩
theorem Ia.reads (I:Inv X jb Z H s):∀{xs:YG} {ds:List PyData} {us:YE},Ia X.K H xs ds->Vals xs us->∃as,ReadsAll s.heap us ds as
 | _,_,_,.nil,.nil=>⟨_,.nil⟩
 | _,_,_,.cons p q,.cons r t=>by
  obtain⟨as,a1⟩:=Jg.reads I p r;obtain⟨bs,b1⟩:=Ia.reads I q t;exact⟨_,.cons a1 b1⟩
end
end
section
variable {X:Cx} {K:YD}
theorem Yn {es:YJ} {k:Nat} {pos:Pos} {t:TGs} {n:Nat} (hK:X.K=K) (hc:X.calm=true) (h:PGs X es t)
  (hn:(assignEach es X.env).length=n:=by rfl) (hst:(assignEach es X.env).findIdx? (·.1)=none:=by rfl):PG X (.Tuple es k pos) (aH K n t):=hK ▸ Li hc h hn hst
end
end L2
namespace L2
open PySem PySem.Spec PyProof.Rows
abbrev Xq:YE:=[.type "ValueError",.type "Exception",.type "BaseException",.type "object"]
structure XCl (K:YD) (C:Addr):Prop where
 ex:PySem.W.excIn K C Xq "ValueError.__new__"=true
 ga:findIn K (.ref C) "__getattribute__"=some (some (.builtin "BaseException.__getattribute__"))
 gn:findIn K (.ref C) "__getattr__"=some none
 ca:findIn K (.ref C) "__class__"=some (some (.builtin "object.__class__"))
 mo:PySem.W.subIn K (.ref C) (.type "object")=some true
 mb:PySem.W.subIn K (.ref C) (.type "BaseException")=some true
 kp:keepIn K (.ref C)=true
section
variable {K:YD} {C:Addr}
theorem XCl.obj (T:XCl K C) {h:Heap} (X:K.In h):∃bm N nm q bs hdct sn sub ab col dd k0 k1 k2 k3 k5 mN,h.get? C=some (excClassObj nm q C N bs bm hdct sn sub ab col dd k0 k1 k2 k3 k5 "ValueError.__new__")/\h.Ns N mN/\mN "__init__"=none/\OwnTail h Xq bm:=by
 have q:=T.ex;unfold PySem.W.excIn at q;split at q
 ·rename_i dd cd sl ho;split at q
  ·rename_i C' bm k0 k1 k2 k3 n k5 hm hs;simp only[Qbs,beq_iff_eq,Bool.not_eq_true'] at q;obtain⟨⟨⟨⟨⟨rfl,rfl⟩,hdel⟩,ht⟩,hok⟩,hni⟩:=q;obtain⟨nm,bs,mro,ns,qn,hd,sn,sub,ab,col,del⟩:=cd;dsimp only at hm hdel hok hni;subst hm hdel;have hsl:sl=#[k0,k1,k2,k3,some (.builtin "ValueError.__new__"),k5]:=by
    obtain⟨l⟩:=sl;simp only at hs;rw[hs]
   subst hsl;exact⟨bm,ns,nm,qn,bs,hd,sn,sub,ab,col,dd,k0,k1,k2,k3,k5,_,X _ _ ho,.of_isNs (PySem.W.isNs_of_in X hok),PySem.W.nsMap_none_of_in X hok hni,PySem.W.tail_of_in X ht⟩
  ·cases q
 ·cases q
end
section
variable {prog:Program} {w:World} {A:Around} {E:YA} {h:Heap} {g:Array GenState} {d:Drawn} {t:Nat} {os:OsState} {K:YD} {a C:Addr} {o:Obj}
end
section
variable {X:Cx} {jb:YC} {Z : St} {H:Hp} {s:Shared}
end
section
variable {M:Model} {A:Around} {E:YA} {s:Shared} {B:Heap} {env:Env} {outer l:List Env} {L e C:Addr} {Q:YH}
end
theorem Bd.there {P:Program} {w:World} {H:Hp} {h:Heap} {a:Addr} {o:HO} (x:Bd P w H h a o):∃u,h.get? a=some u:=by
 cases o with
 | lst xs=>obtain⟨_,its,n,_,q⟩:=x;exact⟨_,q⟩
 | tup xs=>obtain⟨_,its,_,ob,q,_⟩:=x;exact⟨_,q⟩
 | dK kvs=>obtain⟨_,_,vs,_,ob,es,ep,q,_⟩:=x;exact⟨_,q⟩
 | dT kvs=>obtain⟨_,_,xs,_,ob,es,ep,q,_⟩:=x;exact⟨_,q⟩
 | set S n=>obtain⟨ob,es,ep,t,q,_⟩:=x;exact⟨_,q⟩
 | ins C dx fs=>obtain⟨_,_,_,q,_⟩:=x;exact⟨_,q⟩
 | own y=>exact x
 | xd fs=>obtain⟨mA,⟨od,es,ep,q,_⟩,_⟩:=x;exact⟨_,q⟩
 | rng lo hi=>obtain⟨t,u,v,q⟩:=x;exact⟨_,q⟩
 | frz ob u=>exact⟨_,x.1⟩
 | tbl ps=>exact⟨_,x⟩
 | met f y=>exact⟨_,x⟩
 | ext φ=>exact x.2.1
section
variable {P:Program} {w:World} {outer:List Env} {H H':Hp} {s s':Shared} {e C:Addr} {B h2:Heap} {fl:Option Value}
end
section
variable {X:Cx} {jb:YC} {Z : St} {H H':Hp} {s s':Shared} {e C:Addr} {B h2:Heap} {fl:Option Value}
end
section
variable {M:Model} {A:Around} {E:YA} {h:Heap} {g:Array GenState} {d:Drawn} {t:Nat} {os:OsState} {K:YD} {e C HC:Addr}
end
abbrev Cx.by (X:Cx) (pn:YC) (E:YA):Cx:={ X with pn:=pn,xe:=E }
section
variable {X:Cx} {jb Tc pn:YC} {Z : St} {H:Hp} {s:Shared} {E:YA} {ev:Value}
theorem Inv.by (I:Inv X jb Z H s) (E:YA):Inv (X.by (X.pn++jb) E) [] Z H s:=
 ⟨⟨I.ok.mod,I.ok.kind,I.ok.glob,I.ok.blt,I.ok.above,I.ok.inj,I.ok.has,I.ok.cab,I.ok.hd,I.ok.frames,I.ok.stk,I.ok.exf,I.ok.bs,I.ok.bsz,I.ok.Mz,I.ok.M6,I.ok.Gh,I.ok.frf⟩,I.os,I.bare,I.base,I.loc,I.cell,I.free,I.Gi,
  λp hp=>I.pin p (by simpa using hp),I.hok,I.len⟩
end
end L2
namespace L2
open PySem PySem.Spec PyProof.Rows PySem.SeqAt
theorem Ft {c:Const} {k:Nat} {p:Pos} {es:YJ} {env:Env}:starEach (.Constant c k p::es) env=(false,eval (.Constant c k p) env)::starEach es env:=by rfl
section
variable {X:Cx}
end
section
variable {prog:Program} {w:World} {A:Around} {E:YA} {s:Shared}
end
end L2
namespace L2
open PySem PySem.Spec PyProof.Rows
section
variable {X:Cx} {jb:YC} {Z : St} {H:Hp} {s:Shared} {a:Addr} {kvs:YM} {o:Obj}
end
section
variable {a l:Addr} {o:Obj} {kvs:YM} {g:TG} {tb:TS} {D:Ends} {Z : St} {H:Hp} {tt:TT} {te tk tv:TE} {Q:VK}
end
open PySem.W (KasT kas_asc kas_desc kas_rev kas_tail3 kas_descPart kas_count kas_place kas_bin kas_sort)
def Eb {α : Type} (n:Nat) (P:α->Prop):KasT α->Prop
 | .ret a=>P a
 | .ask i j k=>i < n/\j < n/\∀b,Eb n P (k b)
theorem FW {α β : Type} {n:Nat} {P:α->Prop} {Q:β->Prop} {f:α->KasT β}:∀t:KasT α,Eb n P t->(∀a,P a->Eb n Q (f a))->Eb n Q (t.bind f)
 | .ret a,h,q=>q a h
 | .ask i j k,h,q=>⟨h.1,h.2.1,λb=>FW (k b) (h.2.2 b) q⟩
def Pm (n:Nat) (p:Array Nat):Prop:=p.toList.Perm (List.range n)
theorem Pm.rev {n:Nat} {p:Array Nat} (h:Pm n p) (i j:Nat):Pm n (kas_rev p i j):=(Array.perm_iff_toList_perm.mp (mirror_perm p i j ((j - i) / 2))).trans h
theorem Pm.bub {n:Nat} {p:Array Nat} (h:Pm n p) (k d:Nat):Pm n (bubble p k d):=(Array.perm_iff_toList_perm.mp (bubble_perm p k d)).trans h
theorem Pm.lt {n:Nat} {p:Array Nat} (h:Pm n p) (n0:0 < n) (i:Nat):p.getD i 0 < n:=by
 by_cases hi:i < p.size
 ·have e:p.getD i 0=p[i]:=by simp[hi]
  rw[e];have hm:p[i]∈p.toList:=by simp
  exact QbK.mp (h.mem_iff.mp hm)
 ·have e:p.getD i 0=0:=by simp[hi]
  rw[e];exact n0
section
variable {n:Nat} (n0:0 < n)
include n0
theorem Ng {p:Array Nat} (h:Pm n p):∀f k,Eb n (λ_=>True) (kas_asc p f k)
 | 0,k=>trivial
 | f+1,k=>⟨h.lt n0 _,h.lt n0 _,λb=>by
  cases b with
  | true=>exact trivial
  | false=>exact Ng h f (k+1)⟩
theorem Jf:∀f (p:Array Nat),Pm n p->∀k q,Eb n (λr:Array Nat×Nat×Nat=>Pm n r.1) (kas_desc f p k q)
 | 0,p,h,k,q=>h
 | f+1,p,h,k,q=>⟨h.lt n0 _,h.lt n0 _,λb=>by
  cases b with
  | true=>
   show Eb n _ (if q > 0 then kas_desc f (kas_rev p (k - (q+1)) k) (k+1) 0 else kas_desc f p (k+1) 0)
   split
   ·exact Jf f _ (h.rev _ _) _ _
   ·exact Jf f _ h _ _
  | false=>exact⟨h.lt n0 _,h.lt n0 _,λd=>by
    cases d with
    | true=>exact h
    | false=>exact Jf f _ h _ _⟩⟩
theorem QG {p:Array Nat} (h:Pm n p) (a b:Nat):Eb n (λr:Nat×Array Nat=>Pm n r.2) (kas_tail3 a b p):=
 FW _ (Ng n0 (h.rev 0 a) _ _) λm _=>h.rev 0 a
theorem JB {p:Array Nat} (h:Pm n p) (a b:Nat):Eb n (λr:Nat×Array Nat=>Pm n r.2) (kas_descPart a b p):=
 FW _ (Jf n0 _ p h _ _) λr hr=>by
  show Eb n _ (if r.2.2 > 0 then _ else _)
  split
  ·exact QG n0 (Pm.rev hr _ _) _ _
  ·exact QG n0 hr _ _
theorem NK {p:Array Nat} (h:Pm n p) (a:Nat):Eb n (λr:Nat×Array Nat=>Pm n r.2) (kas_count a p):=
 FW _ (Ng n0 h _ _) λm _=>by
  show Eb n _ (if (m == a)=true then _ else if m > 1 then _ else _)
  split
  ·exact h
  ·split
   ·refine⟨h.lt n0 _,h.lt n0 _,λb=>?_⟩;cases b with
    | true=>exact h
    | false=>exact JB n0 (h.rev _ _) _ _
   ·exact JB n0 h _ _
theorem Jz {p:Array Nat} (h:Pm n p) (k:Nat):∀f l r,Eb n (λ_=>True) (kas_place p k f l r)
 | 0,_,_=>trivial
 | f+1,l,r=>by
  show Eb n _ (if l ≥ r then _ else _)
  split
  ·exact trivial
  ·refine⟨h.lt n0 _,h.lt n0 _,λb=>?_⟩;cases b with
   | true=>exact Jz h k f _ _
   | false=>exact Jz h k f _ _
theorem RW:∀f (p:Array Nat),Pm n p->∀k,Eb n (Pm n) (kas_bin f p k)
 | 0,p,h,_=>h
 | f+1,p,h,k=>FW _ (Jz n0 h k _ _ _) λl _=>RW f _ (h.bub _ _) _
theorem QH:Eb n (Pm n) (kas_sort n):=
 FW _ (NK n0 (p:=List.toArray (List.range n)) (show Pm n _ by unfold Pm;exact List.Perm.refl _) n) λr hr=>by
  show Eb n _ (if r.1 < n then _ else _)
  split
  ·exact RW n0 _ _ hr _
  ·exact hr
end
section
variable {prog:Program} {w:World} {A:Around} {E:YA} {s:Shared}
theorem O8 {l:Addr} {vs:YE} {Q:YA} (hl:s.heap.IsList l vs.toArray) (h1:vs.length < 2)
  (h:∀D h' c,s.heap.objs.size<=D->h'.get? D=some (seqObj "list" vs.toArray c)->(∀b o,s.heap.get? b=some o->h'.get? b=some o)->Q (.ref D) { s with heap:=h' }):wpAny (model prog w) A (call (.builtin "sorted") [.ref l]) Q E s:=by
 have h2:vs.toArray.size < 2:=by rw[QaZ];exact h1
 have hz:vs.length<=sizeLine:=QbY (Aq (by omega));refine Calls.call_function_entry (Q:=Q) kind_sorted plain_sorted entry_sorted (args_sorted1 (.ref l)) ?_;unfold Builtin.«sorted»;refine Qcg (m:=checkCount "sorted" 1 1 [Value.ref l].length) (Qch ?_);refine Qcg (collect_list (vs:=vs) hl ?_ hz);have k1:∀b o,s.heap.get? b=some o->((s.heap.push (seqObj "list" #[] 0)).update s.heap.objs.size (Obj.mapSeq (·++vs.toArray))).get? b=some o:=λb o q=>by
  rw[Qap _ _ (Qcb (QbU q))];exact Qao _ q
 have z1:((s.heap.push (seqObj "list" #[] 0)).update s.heap.objs.size (Obj.mapSeq (·++vs.toArray))).objs.size=s.heap.objs.size+1:=by rw[Heap.size_update,QbL]
 generalize ((s.heap.push (seqObj "list" #[] 0)).update s.heap.objs.size (Obj.mapSeq (·++vs.toArray)))=g1 at k1 z1;refine Qcg (wpAny_newList ?_ hz);have oD:(g1.push (seqObj "list" vs.toArray 0)).get? g1.objs.size=some (seqObj "list" vs.toArray 0):=QaD _ rfl;have k2:∀b o,s.heap.get? b=some o->b≠g1.objs.size/\(g1.push (seqObj "list" vs.toArray 0)).get? b=some o:=λb o q=>⟨by rw[z1];exact QbV (Nat.lt_succ_of_lt (QbU q)),Qao _ (k1 b o q)⟩;refine Qcg (QbS (Qbi slot_list_sort ⟨_,oD,rq⟩ entry_list_sort ?_ (args_list_sort _)));rw[list_sort_plain];have zD:s.heap.objs.size<=g1.objs.size:=by rw[z1];exact Nat.le_succ _
 generalize g1.objs.size=D at oD k2 zD;generalize hg2:g1.push (seqObj "list" vs.toArray 0)=g2 at oD k2;refine Qcg (listItems_at (a:=D) oD rfl ?_);refine Qcg (listUpdate_at (a:=D) oD rfl ?_ (by rw[QaZ];exact hz) (Qce _));obtain⟨e1,o1⟩ : ∃e1,(g2.update D (Obj.mapSeq λ_=>(#[]:Array Value))).get? D=some (seqObj "list" #[] e1):=⟨_,get?_update_seq oD λ_=>#[]⟩;have k3:∀b o,s.heap.get? b=some o->b≠D/\(g2.update D (Obj.mapSeq λ_=>(#[]:Array Value))).get? b=some o:=λb o q=>⟨(k2 b o q).1,by rw[Qap _ _ (Ne.symm (k2 b o q).1)];exact (k2 b o q).2⟩;have zip2:(arrOf (SortSt.mk' general' (vs.toArray.zip vs.toArray) #[] 7 none)).map (·.2)=vs.toArray:=by
  show (vs.toArray.zip vs.toArray).map (·.2)=vs.toArray;apply Array.toList_inj.mp;simp[Array.toList_zip,List.map_snd_zip]
 dsimp only;generalize g2.update D (Obj.mapSeq λ_=>(#[]:Array Value))=g3 at o1 k3 ⊢;refine Qcg (seqEpoch_at (a:=D) o1 rfl ?_);refine Qcg (wpAny_newTuple ?_ (by simpa using hz));refine Qcg (wpAny_newList (items:=[]) ?_ (Qce _));refine QbS ?_;have o5:∀x y:Obj,((g3.push x).push y).get? D=some (seqObj "list" #[] e1):=λx y=>Qao _ (Qao _ o1);have k5:∀x y:Obj,∀b o,s.heap.get? b=some o->b≠D/\((g3.push x).push y).get? b=some o:=λx y b o q=>⟨(k3 b o q).1,Qao _ (Qao _ (k3 b o q).2)⟩;dsimp only;rw[if_pos h2,if_pos h2];refine Qcg (Qch ?_);rw[StateT.run_pure];refine Qcg (Qch ?_);dsimp only;refine Qcg (seqEpoch_at (a:=D) (o5 _ _) rfl ?_);rw[zip2];refine Qcg (listUpdate_at (a:=D) (o5 _ _) rfl ?_ (Qce _) (by first | (rw[QaZ];exact hz) | (rw[QaZ];omega)))
 simp only[bne_self_eq_false,QaU,if_false];obtain⟨c,oF⟩ : ∃c,(((g3.push { cls:=.type "tuple",data:=.seq vs.toArray }).push { cls:=.type "list",data:=.seq #[] }).update D (Obj.mapSeq λ_=>vs.toArray)).get? D=some (seqObj "list" vs.toArray c):=⟨_,get?_update_seq (o5 _ _) λ_=>vs.toArray⟩;refine Qch ⟨_,rq,Qch ⟨_,rq,h D _ c zD oF λb o q=>?_⟩⟩;rw[Qap _ _ (Ne.symm (k3 b o q).1)];exact (k5 _ _ b o q).2
end
theorem YS {h:Heap} {a:Addr} {m m':YB} (x:h.Ns a m) (y:h.Ns a m'):m=m':=by
 obtain⟨o,es,ep,h1,h2,_,h3⟩:=x;obtain⟨o',es',ep',g1,g2,_,g3⟩:=y;rw[h1] at g1;cases g1;rw[h2] at g2;cases g2
 funext k
 rw[<-h3,<-g3]
theorem HN {α β : Type} (d:α) (e:β):∀{vs:List α} {its:List β} {F:α->β->Prop} {is:List Nat},Paired F vs its->(∀i∈is,i < vs.length)->Paired F (is.map λi=>vs.getD i d) (is.map λi=>its.getD i e)
 | vs,its,F,[],_,_=>.nil
 | vs,its,F,i::is,r,h=>by
  refine .cons ?_ (HN d e r λj hj=>h j (Qax _ hj));have hi:=h i (QaP ..);have go:∀{l:List α} {m:List β} {i:Nat},Paired F l m->i < l.length->F (l.getD i d) (m.getD i e):=by
   intro l m i r
   induction r generalizing i with
   | nil=>intro h;exact absurd h (QbF _)
   | cons a t ih=>
    intro h;cases i with
    | zero=>exact a
    | succ i=>exact ih (Nat.lt_of_succ_lt_succ h)
  exact go r hi
theorem range_getD {α : Type} (d:α) (vs:List α):(List.range vs.length).map (λi=>vs.getD i d)=vs:=by
 apply List.ext_getElem
 ·simp
 ·intro i h1 h2;simp[h2]
end L2
namespace L2
open PySem PySem.Spec PyProof.Rows
open PySem.W (KasT kas_asc kas_desc kas_rev kas_tail3 kas_descPart kas_count kas_place kas_bin kas_sort)
def Dd {α : Type} (lt:Nat->Nat->Bool):KasT α->α
 | .ret a=>a
 | .ask i j k=>Dd lt (k (lt i j))
theorem FT {α β : Type} {lt:Nat->Nat->Bool} {f:α->KasT β}:∀t:KasT α,Dd lt (t.bind f)=Dd lt (f (Dd lt t))
 | .ret a=>rfl
 | .ask i j k=>FT (k (lt i j))
theorem KH {α : Type} {lt:Nat->Nat->Bool} {n:Nat} {P:α->Prop}:∀t:KasT α,Eb n P t->P (Dd lt t)
 | .ret a,h=>h
 | .ask i j k,h=>KH (k (lt i j)) (h.2.2 _)
theorem Rz {α : Type} {lt:Nat->Nat->Bool} {n:Nat} {P:α->Prop} {Q:α->Shared->Prop} {s:Shared} {cmp:Nat->Nat->(Bool->Shared->Prop)->Shared->Prop} (hc:∀i j C,i < n->j < n->C (lt i j) s->cmp i j C s):∀t:KasT α,Eb n P t->Q (Dd lt t) s->t.kasWp cmp Q s
 | .ret a,h,q=>q
 | .ask i j k,h,q=>hc i j _ h.1 h.2.1 (Rz hc (k (lt i j)) (h.2.2 _) q)
section
variable {n:Nat} {ky:Nat->Int}
def Gk (ky:Nat->Int) (p:Array Nat) (i:Nat):Int:=ky (p.getD i 0)
def ltK (ky:Nat->Int) (i j:Nat):Bool:=decide (ky i < ky j)
def Inj (n:Nat) (ky:Nat->Int):Prop:=∀i j,i < n->j < n->ky i=ky j->i=j
def Nh (ky:Nat->Int) (p:Array Nat) (m:Nat):Prop:=∀i,i+1 < m->Gk ky p i < Gk ky p (i+1)
def Fall (ky:Nat->Int) (p:Array Nat) (m:Nat):Prop:=∀i,i+1 < m->Gk ky p (i+1) < Gk ky p i
def GD (ky:Nat->Int) (p:Array Nat) (m:Nat):Prop:=∀i j,i < j->j < m->Gk ky p i < Gk ky p j
theorem Nh.all {p:Array Nat} {m:Nat} (h:Nh ky p m):GD ky p m:=λi j hij hj=>by
 induction j with
 | zero=>omega
 | succ j ih=>
  have h1:=h j hj;by_cases e:i=j
  ·rw[e];exact h1
  ·exact Int.lt_trans (ih (by omega) (by omega)) h1
theorem U6 {α : Type} {l:List α} (nd:l.Nodup) {i j:Nat} (hi:i < l.length) (hj:j < l.length) (e:l[i]=l[j]):i=j:=by
 rcases Nat.lt_trichotomy i j with h | h | h
 ·exact absurd e (List.pairwise_iff_getElem.mp nd i j hi hj h)
 ·exact h
 ·exact absurd e.symm (List.pairwise_iff_getElem.mp nd j i hj hi h)
theorem Pm.size {p:Array Nat} (h:Pm n p):p.size=n:=by
 have:=List.Perm.length_eq h;simpa using this
theorem Pm.ne (hi:Inj n ky) {p:Array Nat} (h:Pm n p) {i j:Nat} (a:i < n) (b:j < n) (ne:i≠j):Gk ky p i≠Gk ky p j:=λe=>by
 have n0:0 < n:=by omega
 have hs:=h.size;have e:=hi _ _ (h.lt n0 i) (h.lt n0 j) e;have nd:p.toList.Nodup:=(List.Perm.nodup_iff h).mpr List.nodup_range;have e1:p.getD i 0=p.toList[i]'(by simp[hs,a]):=by simp[hs,a]
 have e2:p.getD j 0=p.toList[j]'(by simp[hs,b]):=by simp[hs,b]
 rw[e1,e2] at e;exact ne (U6 nd _ _ e)
theorem Mj (hi:Inj n ky) {p:Array Nat} (h:Pm n p):∀f k,1<=k->k+f<=n->Nh ky p k->∃m,Dd (ltK ky) (kas_asc p f k)=m/\k<=m/\m<=k+f/\Nh ky p m/\(m < k+f->Gk ky p m < Gk ky p (m - 1))
 | 0,k,_,_,r=>⟨k,rfl,Qcd _,Qcd _,r,λz=>absurd z (QbQ _)⟩
 | f+1,k,h1,h2,r=>by
  show ∃m,Dd (ltK ky) (if ltK ky (p.getD k 0) (p.getD (k - 1) 0)=true then KasT.ret k else kas_asc p f (k+1))=m/\_
  by_cases c:Gk ky p k < Gk ky p (k - 1)
  ·rw[if_pos (show ltK ky _ _=true from QbJ c)]
   exact⟨k,rq,Qcd _,by omega,r,λ_=>c⟩
  ·rw[if_neg (show ¬ltK ky _ _=true from λz=>c (Qbd z))]
   obtain⟨m,e,a,b,d,g⟩:=Mj hi h f (k+1) (by omega) (by omega) (λi hi'=>by
    by_cases e:i+1=k
    ·have:=h.ne hi (i:=i) (j:=i+1) (by omega) (by omega) (by omega);have c:¬Gk ky p (i+1) < Gk ky p i:=by rw[<-e] at c;exact c
     omega
    ·exact r i (by omega))
   exact⟨m,e,by omega,by omega,d,λz=>g (by omega)⟩
theorem Ph (hi:Inj n ky) {p:Array Nat} (h:Pm n p):∀f k,1<=k->k+f<=n->Fall ky p k->∃m,Dd (ltK ky) (kas_desc f p k 0)=(p,m,0)/\k<=m/\m<=k+f/\Fall ky p m
 | 0,k,_,_,r=>⟨k,rfl,Qcd _,Qcd _,r⟩
 | f+1,k,h1,h2,r=>by
  show ∃m,Dd (ltK ky) (if ltK ky (p.getD k 0) (p.getD (k - 1) 0)=true then (if 0 > 0 then kas_desc f (kas_rev p (k - (0+1)) k) (k+1) 0 else kas_desc f p (k+1) 0) else KasT.ask (p.getD (k - 1) 0) (p.getD k 0) λd=>if d=true then KasT.ret (p,k,0) else kas_desc f p (k+1) (0+1))=(p,m,0)/\_
  by_cases c:Gk ky p k < Gk ky p (k - 1)
  ·rw[if_pos (show ltK ky _ _=true from QbJ c),if_neg (QbQ 0)]
   obtain⟨m,e,a,b,d⟩:=Ph hi h f (k+1) (by omega) (by omega) (λi hi'=>by
    by_cases e:i+1=k
    ·rw[<-e] at c;exact c
    ·exact r i (by omega))
   exact⟨m,e,by omega,by omega,d⟩
  ·rw[if_neg (show ¬ltK ky _ _=true from λz=>c (Qbd z))]
   have ne:=h.ne hi (i:=k) (j:=k - 1) (by omega) (by omega) (by omega);show ∃m,Dd (ltK ky) (if ltK ky (p.getD (k - 1) 0) (p.getD k 0)=true then KasT.ret (p,k,0) else kas_desc f p (k+1) (0+1))=(p,m,0)/\_
   rw[if_pos (show ltK ky _ _=true from QbJ (show Gk ky p (k - 1) < Gk ky p k by omega))]
   exact⟨k,rq,Qcd _,by omega,r⟩
theorem Ou {p q:Array Nat} {i j:Nat} (e:p[i]?=q[j]?):Gk ky p i=Gk ky q j:=by
 unfold Gk;rw[Array.getD_eq_getD_getElem?,Array.getD_eq_getD_getElem?,e]
theorem V0 {p:Array Nat} {m i:Nat} (hm:m<=p.size) (hi:i < m):Gk ky (kas_rev p 0 m) i=Gk ky p (m - 1 - i):=by
 apply Ou;unfold kas_rev;rw[getElem?_mirror_all hm,if_pos ⟨Qce _,hi⟩];congr 1;omega
theorem V1 {p:Array Nat} {k l i:Nat} (hk:k < p.size) (hl:l<=k):Gk ky (bubble p k (k - l)) i=if i=l then Gk ky p k else if l < i/\i<=k then Gk ky p (i - 1) else Gk ky p i:=by
 have e:=getElem?_bubble hk (k - l) (by omega) i;rw[show k - (k - l)=l by omega] at e;split at e
 ·rename_i h;rw[if_pos h];exact Ou e
 ·rename_i h;rw[if_neg h];split at e
  ·rename_i h;rw[if_pos h];exact Ou e
  ·rename_i h;rw[if_neg h];exact Ou e
def Done (n:Nat) (ky:Nat->Int) (r:Nat×Array Nat):Prop:=1<=r.1/\r.1<=n/\Nh ky r.2 r.1
theorem V9 (hi:Inj n ky) {p:Array Nat} (h:Pm n p) {m:Nat} (h1:1<=m) (h2:m<=n) (f:Fall ky p m):Done n ky (Dd (ltK ky) (kas_tail3 m n p)):=by
 have hs:=h.size;have r0:Nh ky (kas_rev p 0 m) m:=λi hi'=>by
  rw[V0 (by omega) (by omega),V0 (by omega) (by omega)];have:=f (m - 1 - (i+1)) (by omega);rw[show m - 1 - (i+1)+1=m - 1 - i by omega] at this;exact this
 obtain⟨k,e,a,b,d,_⟩:=Mj hi (h.rev 0 m) (n - m) m h1 (by omega) r0;unfold kas_tail3;rw[FT,e];exact⟨by show 1<=k;omega,by show k<=n;omega,d⟩
theorem Uk (hi:Inj n ky) {p:Array Nat} (h:Pm n p) (n0:2<=n):Done n ky (Dd (ltK ky) (kas_count n p)):=by
 obtain⟨m,e,a,b,d,g⟩:=Mj hi h (n - 1) 1 (Qcd _) (by omega) (λi hi'=>by omega);unfold kas_count;rw[FT,e];by_cases c1:m=n
 ·rw[if_pos (by rw[c1];exact Qbp n)];exact⟨a,by show m<=n;omega,d⟩
 ·rw[if_neg (λz=>c1 (eq_of_beq z))];by_cases c2:m > 1
  ·rw[if_pos c2];show Done n ky (Dd (ltK ky) (if ltK ky (p.getD 0 0) (p.getD (m - 1) 0)=true then KasT.ret (m,p) else kas_descPart m n (kas_rev p 0 m)))
   rw[if_pos (show ltK ky _ _=true from QbJ (d.all 0 (m - 1) (by omega) (by omega)))]
   exact⟨a,by show m<=n;omega,d⟩
  ·rw[if_neg c2];have m1:m=1:=by omega
   subst m1;have g:=g (by omega);obtain⟨k,e,a,b,d⟩:=Ph hi h (n - (1+1)) (1+1) (by omega) (by omega) (λi hi'=>by
    have:i=0:=by omega
    subst this;exact g)
   unfold kas_descPart;rw[FT,e];show Done n ky (Dd (ltK ky) (if 0 > 0 then _ else kas_tail3 k n p))
   rw[if_neg (QbQ 0)];exact V9 hi h (by omega) (by omega) d
theorem Jm (hi:Inj n ky) {p:Array Nat} (h:Pm n p) {k:Nat} (hk:k < n) (R:GD ky p k):∀f l r,r<=l+f->l<=r->r<=k->(∀i,i < l->Gk ky p i < Gk ky p k)->(∀i,r<=i->i < k->Gk ky p k < Gk ky p i)->∃m,Dd (ltK ky) (kas_place p k f l r)=m/\m<=k/\(∀i,i < m->Gk ky p i < Gk ky p k)/\∀i,m<=i->i < k->Gk ky p k < Gk ky p i
 | 0,l,r,h1,h2,h3,h4,h5=>⟨l,rfl,by omega,h4,λi a b=>h5 i (by omega) b⟩
 | f+1,l,r,h1,h2,h3,h4,h5=>by
  unfold kas_place;by_cases c:l ≥ r
  ·rw[if_pos c];exact⟨l,rq,by omega,h4,λi a b=>h5 i (by omega) b⟩
  ·rw[if_neg c];show ∃m,Dd (ltK ky) (if ltK ky (p.getD k 0) (p.getD ((l+r) / 2) 0)=true then kas_place p k f l ((l+r) / 2) else kas_place p k f ((l+r) / 2+1) r)=m/\_
   have hm:(l+r) / 2 < r/\l<=(l+r) / 2:=by omega
   generalize (l+r) / 2=q at hm ⊢;by_cases d:Gk ky p k < Gk ky p q
   ·rw[if_pos (show ltK ky _ _=true from QbJ d)]
    refine Jm hi h hk R f l q (by omega) (by omega) (by omega) h4 λi a b=>?_;by_cases e:i=q
    ·rw[e];exact d
    ·exact Int.lt_trans d (R q i (by omega) b)
   ·rw[if_neg (show ¬ltK ky _ _=true from λz=>d (Qbd z))]
    refine Jm hi h hk R f (q+1) r (by omega) (by omega) (by omega) (λi a=>?_) h5;have ne:=h.ne hi (i:=q) (j:=k) (by omega) (by omega) (by omega);have lt:Gk ky p q < Gk ky p k:=by omega
    by_cases e:i=q
    ·rw[e];exact lt
    ·exact Int.lt_trans (R i q (by omega) (by omega)) lt
theorem Ru (hi:Inj n ky):∀f (p:Array Nat),Pm n p->∀k,k+f=n->GD ky p k->GD ky (Dd (ltK ky) (kas_bin f p k)) n
 | 0,p,h,k,e,R=>by rw[<-e];exact R
 | f+1,p,h,k,e,R=>by
  have hs:=h.size;show GD ky (Dd (ltK ky) ((kas_place p k k 0 k).bind λl=>kas_bin f (bubble p k (k - l)) (k+1))) n;rw[FT];obtain⟨l,el,a,b,c⟩:=Jm hi h (k:=k) (by omega) R k 0 k (by omega) (Qce _) (Qcd _) (λi z=>absurd z (QbF _)) (λi x y=>by omega);rw[el];refine Ru hi f _ (h.bub _ _) (k+1) (by omega) λi j hij hj=>?_;rw[V1 (by omega) a,V1 (by omega) a];by_cases ei:i=l
  ·rw[if_pos ei,if_neg (by omega),if_pos ⟨by omega,by omega⟩];exact c _ (by omega) (by omega)
  ·rw[if_neg ei];by_cases ej:j=l
   ·rw[if_neg (by omega),if_pos ej];exact b _ (by omega)
   ·rw[if_neg ej];by_cases gi:l < i
    ·rw[if_pos ⟨gi,by omega⟩,if_pos ⟨by omega,by omega⟩];exact R _ _ (by omega) (by omega)
    ·rw[if_neg (λz=>gi z.1)];by_cases gj:l < j
     ·rw[if_pos ⟨gj,by omega⟩];exact R _ _ (by omega) (by omega)
     ·rw[if_neg (λz=>gj z.1)];exact R _ _ (by omega) (by omega)
theorem Wa (hi:Inj n ky) (n0:2<=n):GD ky (Dd (ltK ky) (kas_sort n)) n:=by
 have h0:Pm n (List.toArray (List.range n)):=by unfold Pm;exact List.Perm.refl _
 obtain⟨a,b,c⟩:=Uk hi h0 n0;have hp:=KH (lt:=ltK ky) _ (NK (by omega) h0 n);unfold kas_sort;rw[FT];generalize Dd (ltK ky) (kas_count n (List.toArray (List.range n)))=r at a b c hp;show GD ky (Dd (ltK ky) (if r.1 < n then kas_bin (n - max r.1 1) r.2 (max r.1 1) else KasT.ret r.2)) n
 have em:max r.1 1=r.1:=by omega
 by_cases d:r.1 < n
 ·rw[if_pos d,em];exact Ru hi _ _ hp _ (by omega) c.all
 ·rw[if_neg d];have:r.1=n:=by omega
  rw[<-this];exact c.all
theorem GD.list {p:Array Nat} (h:Pm n p) (R:GD ky p n):(p.toList.map ky).Pairwise (· < ·):=by
 have hs:=h.size;rw[List.pairwise_iff_getElem];intro i j hi hj hij;have hi':i < n:=by simpa [hs] using hi
 have hj':j < n:=by simpa [hs] using hj
 have:=R i j hij hj';unfold Gk at this;have e1:p.getD i 0=p[i]'(by omega):=by simp[hs,hi']
 have e2:p.getD j 0=p[j]'(by omega):=by simp[hs,hj']
 rw[e1,e2] at this;simpa using this
end
theorem Q0 {α β : Type} (d:α) (e:β) {F:α->β->Prop}:∀{l:List α} {m:List β} {i:Nat},Paired F l m->i < l.length->F (l.getD i d) (m.getD i e):=by
 intro l m i r
 induction r generalizing i with
 | nil=>intro h;exact absurd h (QbF _)
 | cons a t ih=>
  intro h;cases i with
  | zero=>exact a
  | succ i=>exact ih (Nat.lt_of_succ_lt_succ h)
section
variable {prog:Program} {w:World} {A:Around} {s:Shared}
end
end L2
namespace PySem
open Sem (wp)
open AutoSeq1 (wpAny_loadPart')
section
variable {prog:Program} {w:World} {A:Around} {E:YA} {s:Shared}
theorem M7 {e it l:Addr} {i:Nat} {j:Int} {items:Array Value} {old:Value} {Q:Option Value->Shared->Prop} (hh:A.handled=none) (he:IsEnum s.heap e it j old) (hit:s.heap.IsListIter it l i) (hl:s.heap.IsList l items) (hx:items[i]?=none)
  (hQ:∀h',Heap.ExtBut it s.heap h'->Q none { s with heap:=h' }):wpAny (model prog w) A (pyNext (.ref e)) Q E s:=by
 have hT:s.TypeIs (.ref e) "enumerate":=⟨_,he,rq⟩;unfold pyNext;refine Qcg (QbT (Qan (name:=Str.ofString "__next__") hT F.slot_enumerate_next (Qbi F.slot_enumerate_next hT F.entry_enumerate_next ?_ (F.args_enumerate_next_1 _))));show wpAny _ _ (field (.ref e) 2 >>= _) _ _ _;refine Qcg (Qcf he rfl (x:=.ref it) rfl (Qcg (wpAny_nextOf_list_end hh hit hl hx λh' x he' hx'=>?_)));obtain⟨o,ho,hc⟩:=hx';exact Qcg (wpAny_isInstance (T:="StopIteration") (b:=true) ⟨o,ho,hc⟩ isSubtype_stop (Qch (hQ _ he')))
end
end PySem
namespace L2
open PySem PySem.Spec PyProof.Rows
def Jh (K:YD) (a:Addr) (lo:Nat):It:=
 ⟨λi H=>∃xs x,SqL K H a xs/\xs[i]?=some x,λi H v H'=>∃p x,H p=none/\v=.ref p/\H'=upd H p (.tup [.int ((lo+i:Nat):Int),x])/\∀xs,SqL K H a xs->xs[i]?=some x,λi H=>∃xs,SqL K H a xs/\xs.length<=i⟩
theorem Sg {P:Program} {w:World} {K:YD} {elts:YJ} {k:Nat} {pos:Pos} (a e it:Addr) (lo:Nat) (nei:e≠it):Turn P w K (.Tuple elts k pos) (Jh K a lo) [e,it] e (λi h=>(∃old,IsEnum h e it ((lo+i:Nat):Int) old)/\h.IsListIter it a i) where
 mem:=by simp
 obj:=λi h st b hb=>by
  obtain⟨⟨old,he⟩,o,ho,hc,hd⟩:=st;rcases QbN.mp hb with rfl | hb
  ·exact⟨_,he,λv z=>by cases (show Data.fields _=Data.cell v from z)⟩
  ·have:b=it:=by simpa using hb
   subst this;exact⟨o,ho,λv z=>by rw[hd] at z;cases z⟩
 keep:=λi h h' st k=>by
  obtain⟨⟨old,he⟩,hi⟩:=st;exact⟨⟨old,k e (by simp) _ he⟩,hi.at λo q=>k it (by simp) o q⟩
 item:=by
  intro X hP hw hK hc i jb s Z H E I hf st hg;subst hP hw hK;obtain⟨xs,x,hq,hx⟩:=hg;obtain⟨its,rv,p,hz⟩:=I.list hq;obtain⟨u,hu,ru⟩:=rv.get hx;obtain⟨⟨old,he⟩,hit⟩:=st;have hts:s.heap.IsList a its.toArray:=p.isList;have ane:a≠e:=λz=>by
   obtain⟨o,ho,hcl,_⟩:=hts;rw[z,he] at ho;cases ho;injection hcl with q;exact absurd q (by decide)
  have ani:a≠it:=λz=>by
   obtain⟨o,ho,hcl,_⟩:=hts;obtain⟨o',ho',hcl',_⟩:=hit;rw[z,ho'] at ho;cases ho;rw[hcl'] at hcl;injection hcl with q;exact absurd q (by decide)
  have hlt:i < its.toArray.size:=by
   have:=(Qai.mp hu).1;simpa using this
  have D:=(Draws.list (prog:=X.prog) (w:=X.w) (A:=X.A.in1) (I.ok.hd hc) it a ani its.toArray).from lo;refine wpAny_pyNext_enum_itemD D he ⟨i,rq,QbY hlt,hit,hts⟩ (by omega) nei (by simp[nei,ane.symm]) λy h1 tk hP ho hst hT hsz hk=>?_;obtain⟨i',ei,hy⟩:=hP;have:i'=i:=by omega
  subst this;have ey:y=u:=by
   have h2:its.toArray[i']?=some u:=by simpa using hu
   rw[h2] at hy;exact (Qbx hy).symm
  subst ey;refine⟨_,rq,wpAny_letOwnedTupleGo_enum ho λh2 he2 hs2=>?_⟩;have hlt2:s.heap.objs.size≠e:=Qcb (QbU he);have hT2:h2.get? s.heap.objs.size=some { cls:=.type "tuple",data:=.seq #[.int ((lo+i':Nat):Int) tk,y] }:=(hs2.2 _ hlt2).trans hT;have new:Bd X.prog X.w (upd H s.heap.objs.size (.tup [.int ((lo+i':Nat):Int),x])) h2 s.heap.objs.size (.tup [.int ((lo+i':Nat):Int),x]):=
   ⟨by show 2<=sizeLine;decide,[.int ((lo+i':Nat):Int) tk,y],.cons ⟨tk,rq⟩ (.cons ru .nil),_,hT2,rq,0,rq⟩
  have I1:=I.Nk (h':=h2) (t':=tk+1) (Qcd _) (λb q hb z=>(hs2.2 b (λw=>hb (by simp[w]))).trans (hk b q (λw=>hb (by simp[w])) (λw=>hb (by simp[w])) z)) hf new;refine⟨.ref s.heap.objs.size,_,I1,rq,⟨s.heap.objs.size,x,I.hok.fresh (Qcd _),rq,rq,λys hy'=>by rw[I.IV hy' hq];exact hx⟩,⟨⟨y,?_⟩,?_⟩,λb hb=>?_⟩
  ·have:=he2;rw[show ((lo+(i'+1):Nat):Int)=((lo+i':Nat):Int)+1 by omega];exact this
  ·obtain⟨i2,e2,_,st2,_⟩:=hst;have:i2=i'+1:=by omega
   subst this;exact st2.at λo q=>(hs2.2 it (Ne.symm nei)).trans q
  ·have hb':b < s.heap.objs.size:=by
    rcases QbN.mp hb with rfl | hb
    ·exact QbU he
    ·have:b=it:=by simpa using hb
     subst this;obtain⟨o,ho',_⟩:=hit;exact QbU ho'
   rw[Al (QbV hb')];exact (hf b hb).1
 done:=by
  intro X hP hw hK hc i jb s Z H E I hf st hg;subst hP hw hK;obtain⟨xs,hq,hx⟩:=hg;obtain⟨its,rv,p,hz⟩:=I.list hq;obtain⟨⟨old,he⟩,hit⟩:=st;have hl:=rv.length;exact M7 (I.ok.hd hc) he hit p.isList (by simp;omega) λh' eb=>⟨rq,I.Ro (t':=s.toks) (λb o hb q=>eb b o (λz=>hb (by simp[z])) q) hf⟩
 self:=λ_ _ _ _ _ st h=>let ⟨⟨_,he⟩,_⟩:=st;wpAny_pyIter_enum he h
section
variable {X:Cx}
theorem W6 {jb:YC} {Z : St} {H:Hp} {s:Shared} {R:It->Hp->Prop} {E:YA} {elts:YJ} {k:Nat} {pos:Pos} {a:Addr} {lo:Nat} {tk:Nat} (I:Inv X jb Z H s) (q:R (Jh X.K a lo) H) :
  wpAny (model X.prog X.w) X.A (pyIter (.ref (s.heap.objs.size+1))) (PIE X jb Z (.Tuple elts k pos) R) E
   { s with heap:=(s.heap.push { cls:=.type "list_iterator",data:=.fields #[.ref a,.int 0 0] }).push { cls:=.type "enumerate",data:=.fields #[.none,.bool false,.ref s.heap.objs.size,rawInt (lo:Int),.none,.none] },toks:=tk }:=by
 have hz:(s.heap.push { cls:=.type "list_iterator",data:=.fields #[.ref a,.int 0 0] }).objs.size=s.heap.objs.size+1:=QbL ..;have he:IsEnum ((s.heap.push { cls:=.type "list_iterator",data:=.fields #[.ref a,.int 0 0] }).push { cls:=.type "enumerate",data:=.fields #[.none,.bool false,.ref s.heap.objs.size,rawInt (lo:Int),.none,.none] }) (s.heap.objs.size+1) s.heap.objs.size (lo:Int) .none:=by
  have:=QaD (s.heap.push { cls:=.type "list_iterator",data:=.fields #[.ref a,.int 0 0] }) (o:={ cls:=.type "enumerate",data:=.fields #[.none,.bool false,.ref s.heap.objs.size,rawInt (lo:Int),.none,.none] }) rfl;rw[hz] at this;exact this
 refine wpAny_pyIter_enum he ⟨s.heap.objs.size+1,[s.heap.objs.size+1,s.heap.objs.size],_,_,H,rq,I.kept (t':=tk) λb o e=>Qao _ (Qao _ e),Sg a (s.heap.objs.size+1) s.heap.objs.size lo (Nat.succ_ne_self _),⟨⟨.none,he⟩,⟨_,Qao _ (QaD _ rfl),rq,rq⟩⟩,λb hb=>?_,q⟩;have hb':s.heap.objs.size<=b:=by
  simp only[QbN,Qbh,Qcl] at hb;rcases hb with rfl | rfl
  ·exact Nat.le_succ _
  ·exact Qcd _
 exact I.M5 hb' (I.hok.fresh hb')
end
section
variable {X:Cx}
def aq (K:YD) (lo:Nat) (tl:TE):TI:=fun Z H R=>tl Z H λx H1=>∃a,x=.ref a/\(∃xs,SqL K H1 a xs)/\R (Jh K a lo) H1
theorem Ri {jb:YC} {Z : St} {H:Hp} {s:Shared} {R:It->Hp->Prop} {elts:YJ} {k:Nat} {pos:Pos} {a:Addr} {xs:YG} (I:Inv X jb Z H s) (hq:SqL X.K H a xs) (q:R (Jh X.K a 0) H) :
  wpAny (model X.prog X.w) X.A (call (.type "enumerate") [.ref a]) (λv s1=>wpAny (model X.prog X.w) X.A (pyIter v) (PIE X jb Z (.Tuple elts k pos) R) X.xe s1) X.xe s:=by
 obtain⟨its,rv,p,hz⟩:=I.list hq;obtain⟨⟨c,dct,dt,sl⟩,hl,hc,n,hd⟩:=p.isList;replace hc:c=.type "list":=hc;replace hd:dt=.seq its.toArray n:=hd;subst hc hd;refine callType_new F.called_enumerate (by decide) (F.typeCall_enumerate_1 _) (F.newCall_enumerate_1 _) (λobj=>F.args_object_init_2 obj _) F.entry_enumerate_new (meets_enumerate_newL a its.toArray n dct sl) ⟨hl,?_⟩;have hz:(s.heap.push { cls:=.type "list_iterator",data:=.fields #[.ref a,.int 0 0] }).objs.size=s.heap.objs.size+1:=QbL ..;show _/\_;refine⟨⟨_,QaD _ rfl,rq⟩,?_⟩;rw[hz];exact W6 (lo:=0) (tk:=s.toks) I q
end
section
variable {X:Cx}
theorem Us {x:Expr} {tx:TE} {p pos tp:Pos} {elts:YJ} {k:Nat} (hg:Gl X "enumerate") (hm:X.mg "enumerate"=none) (hl:PE X x tx) (hs:starEach [x] X.env=[(false,eval x X.env)]:=by rfl):PI X (.Tuple elts k tp) (.Call (.Name "enumerate" p) [x] [] pos) (aq X.K 0 tx):=by
 intro jb s Z H R I h;refine Call_ (Eu I hg hm boot_enumerate (Qae (thn ((Aa hl Ab (by rw[hs];rfl)) pos jb s Z H (λvs H1=>match vs with | [v]=>∃a,v=.ref a/\(∃xs,SqL X.K H1 a xs)/\R (Jh X.K a 0) H1 | _=>False) I h) λus s1 ⟨vs,H1,I1,r1,q1⟩=>?_) hs rfl))
 cases r1 with
 | nil=>exact False.elim q1
 | cons r rr=>
  cases rr with
  | nil=>
   obtain⟨a,e,⟨xs,hq⟩,q⟩:=q1;subst e;cases r;exact Ri I1 hq q
  | cons _ _=>exact False.elim q1
theorem dz {K:YD} {a:Addr} {lo:Nat} {xs:YG} {g:TG} {tb:TS} {D:Ends} {Z : St} {H:Hp} (Pv:YN) (h0:Pv 0 Z H) (hl:∀i Z H',i<=xs.length->Pv i Z H'->SqL K H' a xs)
  (hs:∀i x p Z H',xs[i]?=some x->Pv i Z H'->H' p=none->g (.ref p) Z (upd H' p (.tup [.int ((lo+i:Nat):Int),x])) fun σ2 H2=>tb { D with nx:=Pv (i+1),ct:=Pv (i+1),bk:=D.nx } σ2 H2) (hd:∀ Z H',Pv xs.length Z H'->D.nx Z H') :
  ∃W:Nat->YN,(∃m,W 0 m Z H)/\∀i m Z H,W i m Z H ->
   ((Jh K a lo).stop i H/\D.nx Z H)\/((Jh K a lo).go i H/\∃N:YO,(∀ σ' H',N σ' H'->∃m',m' < m/\W (i+1) m' σ' H')/\∀x H',(Jh K a lo).yld i H x H'->g x Z H' fun σ2 H2=>tb { D with nx:=N,ct:=N,bk:=D.nx } σ2 H2):=by
 refine⟨λi m Z H=>m=xs.length - i/\i<=xs.length/\Pv i Z H,⟨xs.length,by simp,Qce _,h0⟩,?_⟩;rintro i m Z H ⟨rfl,hi,p⟩;have q:=hl i Z H hi p;by_cases hlt:i < xs.length
 ·refine .inr ⟨⟨xs,xs[i],q,by simp[hlt]⟩,Pv (i+1),fun σ3 H3 p'=>⟨xs.length - (i+1),by omega,rq,hlt,p'⟩,λv H2 y=>?_⟩;obtain⟨pa,x,hn,rfl,rfl,hx⟩:=y;exact hs i x pa Z _ (hx xs q) p hn
 ·have e:i=xs.length:=by omega
  subst e;exact .inl ⟨⟨xs,q,Qcd _⟩,hd Z H p⟩
theorem TX {K:YD} {a l:Addr} {lo:Nat} {xs:YG} {g:TG} {tt:TT} {te:TE} {Q:VK} {σ0:St} {H0:Hp} (Pv:YN)
  (h0:Pv 0 σ0 H0) (hl:∀i Z H',i<=xs.length->Pv i Z H'->SqL K H' a xs)
  (hs:∀i x p Z H',xs[i]?=some x->Pv i Z H'->H' p=none->g (.ref p) Z (upd H' p (.tup [.int ((lo+i:Nat):Int),x])) fun σ3 H3=>tt σ3 H3 λb H4=>if b=true then te σ3 H4 λy H5=>∃ys,H5 l=some (.lst ys)/\ys.length < sizeLine/\Pv (i+1) σ3 (upd H5 l (.lst (ys++[y]))) else Pv (i+1) σ3 H4)
  (hd:∀ Z H',Pv xs.length Z H'->Q (.ref l) H'):Ej (Jh K a lo) g tt te Q σ0 H0 l:=by
 unfold Ej;refine⟨λi m Z H'=>m=xs.length - i/\i<=xs.length/\Pv i Z H',⟨xs.length,by simp,Qce _,h0⟩,?_⟩;rintro i m Z H' ⟨rfl,hi,p⟩;have q:=hl i Z H' hi p;by_cases hlt:i < xs.length
 ·refine .inr ⟨⟨xs,xs[i],q,by simp[hlt]⟩,Pv (i+1),fun σ3 H3 p'=>⟨xs.length - (i+1),by omega,rq,hlt,p'⟩,λv H2 y=>?_⟩;obtain⟨pa,x,hn,rfl,rfl,hx⟩:=y;exact hs i x pa Z _ (hx xs q) p hn
 ·have e:i=xs.length:=by omega
  subst e;exact .inl ⟨⟨xs,q,Qcd _⟩,hd Z H' p⟩
end
def Hz (h:Heap) (d:Addr) (es:YK) (ep:Nat):Prop:=∃o,h.get? d=some o/\o.ExactDict/\o.data=.dict es ep
section
variable {prog:Program} {w:World} {A:Around} {E:YA} {s:Shared}
theorem Wg {it d:Addr} {i ep:Nat} {es:YK} {en:DictEntry} {Q:Option Value->Shared->Prop} (K:s.heap.IsKeyIter it d i es.size ep) (R:Hz s.heap d es ep) (hx:es[i]?=some en)
  (q:∀h',h'.IsKeyIter it d (i+1) es.size ep->Heap.SameBut it s.heap h'->Q (some en.key) { s with heap:=h' }):wpAny (model prog w) A (pyNext (.ref it)) Q E s:=by
 have T:=K.typeIs;obtain⟨oi,hoi,ci,di⟩:=K;obtain⟨od,hod,xd,dd⟩:=R;have hlt:i < es.size:=(Qag.mp hx).1;obtain⟨WL,Tw,Tz,Ql⟩:=oi;obtain⟨M8,JZ,Ka,Im⟩:=od;dsimp only at ci di dd;subst ci di dd;obtain⟨hp,g,dr,tk,os⟩:=s;unfold pyNext;refine Qcg (QbT (Qan (name:=Str.ofString "__next__") T Qad (Qbi Qad T F.entry_dict_keyiterator_next ?_ (F.args_dict_keyiterator_next_1 _))));have e1:typeName (.type "dict_keyiterator")=pure "dict_keyiterator":=by unfold typeName;rw[find?_eq_fast];kernel_rfl
 have e2:=mroOf_keyiter
 wp_walk
 have hidx:(if (i:Int) < 0 then none else es[((i:Int)).toNat]?)=some en:=by rw[if_neg (by omega),Qba];exact hx
 simp only[hidx]
 wp_walk
 refine⟨_,rq,Qch (q _ ⟨_,Qau _ hoi ?_,rq,?_⟩ (QaF ..))⟩
 all_goals first | rfl | trace_state
theorem Yg {it d:Addr} {i ep:Nat} {es:YK} {Q:Option Value->Shared->Prop} (hh:A.handled=none) (K:s.heap.IsKeyIter it d i es.size ep) (R:Hz s.heap d es ep) (hx:es[i]?=none)
  (q:∀h',Heap.ExtBut it s.heap h'->Q none { s with heap:=h' }):wpAny (model prog w) A (pyNext (.ref it)) Q E s:=by
 have T:=K.typeIs;obtain⟨oi,hoi,ci,di⟩:=K;obtain⟨od,hod,xd,dd⟩:=R;obtain⟨WL,Tw,Tz,Ql⟩:=oi;obtain⟨M8,JZ,Ka,Im⟩:=od;dsimp only at ci di dd;subst ci di dd;obtain⟨hp,g,dr,tk,os⟩:=s;unfold pyNext;refine Qcg (QbT (Qan (name:=Str.ofString "__next__") T Qad (Qbi Qad T F.entry_dict_keyiterator_next ?_ (F.args_dict_keyiterator_next_1 _))));have e1:typeName (.type "dict_keyiterator")=pure "dict_keyiterator":=by unfold typeName;rw[find?_eq_fast];kernel_rfl
 have e2:=mroOf_keyiter;have hh1:A.in1.handled=none:=hh
 wp_walk
 have hidx:(if (i:Int) < 0 then none else es[((i:Int)).toNat]?)=none:=by rw[if_neg (by omega),Qba];exact hx
 simp only[hidx]
 wp_walk
 unfold raiseNew
 wp_walk
 refine wpAny_of_eq isSubtype_stop ?_
 wp_walk
 exact q _ (((QaF ..).extBut.push _).push _)
theorem Wh {d:Addr} {ep:Nat} {es:YK} {Q:YA} (lo:(d == sysModules)=false) (R:Hz s.heap d es ep)
  (q:Q (.ref s.heap.objs.size) { s with heap:=s.heap.push { cls:=.type "dict_keyiterator",data:=.fields #[.ref d,.int 0 0,.int es.size 0,.int ep 0] } }):wpAny (model prog w) A (pyIter (.ref d)) Q E s:=by
 obtain⟨od,hod,xd,dd⟩:=R;have T:s.TypeIs (.ref d) "dict":=⟨od,hod,xd.1⟩;obtain⟨M8,JZ,Ka,Im⟩:=od;obtain⟨x1,x2⟩:=xd;dsimp only at dd x1;subst dd x1;refine wpAny_pyIter_slot T F.slot_dict_iter (Qbi F.slot_dict_iter T F.entry_dict_iter ?_ (F.args_dict_iter_1 _));unfold Builtin.«dict.__iter__»
 wp_walk
 exact⟨_,rq,"dict_keyiterator",_,⟨_,QaD _ rfl,rq⟩,Qad.lookup,q⟩
end
section
variable {X:Cx} {jb:YC} {Z : St} {H:Hp} {s:Shared} {a:Addr} {kvs:YL} {o:Obj}
end
def KTr (P:Program) (w:World) (H:Hp) (kvs:YL) (es:YK):Prop:=es.size=kvs.length/\∀(i:Nat) (kv:List Key×V),kvs[i]?=some kv->∃b en,es[i]?=some en/\en.key=.ref b/\H b=some (.tup (kv.1.map kV))/\RelV kv.2 en.val
theorem Vc {P:Program} {w:World} {H:Hp} {kvs:YL} {xs:List (List Key×Addr×Value)} {es:YK} (r:Paired (λ(p:List Key×V) (q:List Key×Addr×Value)=>p.1=q.1/\H q.2.1=some (.tup (p.1.map kV))/\RelV p.2 q.2.2) kvs xs) (e:es.toList=xs.map (entryOfKey (tupleKind (Cg P w)))):KTr P w H kvs es:=by
 refine⟨by rw[size_of_entries e,QbO r],λi kv hkv=>?_⟩;have go:∀{l:YL} {m:List (List Key×Addr×Value)} {i:Nat} {p:List Key×V},Paired (λ(p:List Key×V) (q:List Key×Addr×Value)=>p.1=q.1/\H q.2.1=some (.tup (p.1.map kV))/\RelV p.2 q.2.2) l m->l[i]?=some p->∃x,m[i]?=some x/\H x.2.1=some (.tup (p.1.map kV))/\RelV p.2 x.2.2:=by
  intro l m i p r
  induction r generalizing i with
  | nil=>intro h;cases h
  | cons a t ih=>
   intro h;cases i with
   | zero=>cases h;exact⟨_,rfl,a.2⟩
   | succ i=>exact ih h
 obtain⟨x,hx,h1,h2⟩:=go r hkv;exact⟨x.2.1,_,by rw[entry_at e i,hx];rfl,rq,h1,h2⟩
theorem Ye {prog:Program} {w:World} {d:Addr} {es:YK} {ep:Nat} (lo:(d == sysModules)=false):PySem.W.KdlSrc prog w "dict" d d es.size (λi v=>∃en,es[i]?=some en/\v=en.key) (λh=>Hz h d es ep) where
 type:=λ_ ⟨o,ho,hx,_⟩=>⟨o,ho,hx.1⟩
 there:=λ_ ⟨o,ho,_⟩=>⟨QbU ho,QbU ho⟩
 keep:=λ_ _ ⟨o,ho,hx⟩ hk=>⟨o,hk d (.inl rfl) o ho,hx⟩
 notList:=by decide
 notTuple:=by decide
 hint:=λ_ _ _ _ ⟨o,ho,hx,_⟩ hq=>PySem.W.kdl_hint_dict ⟨o,ho,hx.1⟩ hq
 iter:=λA s hh hm=>⟨_,λi h=>h.IsKeyIter s.heap.objs.size d i es.size ep/\Hz h d es ep,(λ_ _ hq=>Wh lo hm hq),{
   sub:=λb hb=>by simp at hb;simp[hb]
   frame:=λ_ _ _ st hk=>⟨st.1.at λo e=>hk s.heap.objs.size (by simp) o e,let ⟨o,ho,r⟩:=st.2;⟨o,hk d (by simp) o ho,r⟩⟩
   item:=λi s' Q E hi st hQ=>by
    have hne:d≠s.heap.objs.size:=let ⟨o,ho,_⟩:=hm;QbV (QbU ho);have hx:es[i]?=some es[i]:=by simp[hi]
    refine Wg st.1 st.2 hx λh' hit' hs'=>?_;obtain⟨o,ho,r⟩:=st.2;exact hQ es[i].key h' s'.toks ⟨es[i],hx,rq⟩ ⟨hit',o,hs'.extBut d o hne ho,r⟩ λb o hb e=>hs'.extBut b o (λh=>hb (by simp[h])) e
   done:=λs' Q E st hQ=>Yg hh st.1 st.2 (by simp) λh' he'=>hQ h' s'.toks λb o hb e=>he' b o (λh=>hb (by simp[h])) e
   self:=λ_ _ _ _ st hQ=>wpAny_pyIter_keyiter st.1 hQ },⟨⟨_,QaD _ rfl,rq,rq⟩,let ⟨o,ho,r⟩:=hm;⟨o,Qao _ ho,r⟩⟩⟩
@[irreducible] def JG:YG->Hp->VK->Prop:=λxs H Q=>∃(a:Addr) (kvs:YL),xs=[.ref a]/\H a=some (.dT kvs)/\∀l bs,H l=none->Paired (λb (kv:List Key×V)=>H b=some (.tup (kv.1.map kV))) bs kvs->Q (.ref l) (upd H l (.lst (bs.map V.ref)))
theorem Va {a:Addr} {kvs:YL} {H:Hp} {Q:VK} (h:H a=some (.dT kvs)) (q:∀l bs,H l=none->Paired (λb (kv:List Key×V)=>H b=some (.tup (kv.1.map kV))) bs kvs->Q (.ref l) (upd H l (.lst (bs.map V.ref)))):JG [.ref a] H Q:=by
 unfold JG;exact⟨a,kvs,rq,h,q⟩
theorem Lw {H:Hp}:∀{kvs:YL} {us:YE},us.length=kvs.length->(∀(j:Nat) (u:Value),us[j]?=some u->∃(kv:List Key×V) (b:Addr),kvs[j]?=some kv/\u=.ref b/\H b=some (.tup (kv.1.map kV)))->∃bs:List Addr,Vals (bs.map V.ref) us/\Paired (λb (kv:List Key×V)=>H b=some (.tup (kv.1.map kV))) bs kvs
 | [],[],_,_=>⟨[],.nil,.nil⟩
 | [],_::_,h,_=>by simp at h
 | _::_,[],h,_=>by simp at h
 | kv::r,u::us,h,g=>by
  obtain⟨bs,h1,h2⟩:=Lw (H:=H) (kvs:=r) (us:=us) (by simpa using h) λj u hu=>by
   obtain⟨kv',b,e,q⟩:=g (j+1) u (by simpa using hu);exact⟨kv',b,by simpa using e,q⟩
  obtain⟨kv',b,e,e2,q⟩:=g 0 u rfl;cases e;exact⟨b::bs,.cons e2 h1,.cons q h2⟩
theorem Rh {X:Cx} (hc:X.calm=true):Ei X (.type "list") JG:=by
 intro jb s Z H xs us Q I r h;unfold JG at h;obtain⟨a,kvs,rfl,e,q⟩:=h;obtain⟨u,rfl,rx⟩:=vals1 r;cases rx;obtain⟨z,lo,xs,h3,ob,es,ep,h4,h5,h6,h7,_⟩:=(show Bd X.prog X.w H s.heap a (.dT kvs) from I.hok a _ e)
 obtain⟨hz,rel⟩:=Vc h3 h7;refine PySem.W.kdl_call (Ye (es:=es) (ep:=ep) lo) (I.ok.hd hc) ⟨ob,h4,h5,h6⟩ (by omega) λh' tk acc c' hk hS hacc=>?_;obtain⟨bs,b1,b2⟩:=Lw (H:=H) (kvs:=kvs) (us:=acc.toList) (by rw[QaG,hacc.1,hz]) λj u hu=>by
  obtain⟨en,hen,e2⟩:=hacc.2 j u (by rw[<-Array.getElem?_toList];exact hu);have hj:j < kvs.length:=by
   have:=(Qag.mp hen).1;omega
  obtain⟨b,en',h8,h9,h10,_⟩:=rel j kvs[j] (Qam hj);rw[hen] at h8;cases h8;exact⟨kvs[j],b,Qam hj,by rw[e2,h9],h10⟩
 have fr:=I.hok.fresh (Qcd s.heap.objs.size);refine⟨.ref s.heap.objs.size,_,I.laid (t':=tk) (o:=.lst (bs.map V.ref)) (λb o q=>hk b o q) (Qcd _) ?_,rq,q _ bs fr b2⟩;exact⟨by rw[Qbu,QbO b2];exact z,acc.toList,c',b1,hS⟩
theorem Yu {H:Hp}:∀{l:YL} {m:List (List Key×Addr×Value)} {i:Nat} {p:List Key×V},Paired (λ(p:List Key×V) (q:List Key×Addr×Value)=>p.1=q.1/\H q.2.1=some (.tup (p.1.map kV))/\RelV p.2 q.2.2) l m->l[i]?=some p->∃x,m[i]?=some x/\p.1=x.1/\H x.2.1=some (.tup (p.1.map kV))/\RelV p.2 x.2.2:=by
 intro l m i p r
 induction r generalizing i with
 | nil=>intro h;cases h
 | cons a t ih=>
  intro h;cases i with
  | zero=>cases h;exact⟨_,rfl,a⟩
  | succ i=>exact ih h
theorem Np {H:Hp}:∀{l:YL} {m:List (List Key×Addr×Value)} {i:Nat} {x:List Key×Addr×Value},Paired (λ(p:List Key×V) (q:List Key×Addr×Value)=>p.1=q.1/\H q.2.1=some (.tup (p.1.map kV))/\RelV p.2 q.2.2) l m->m[i]?=some x->∃p,l[i]?=some p/\p.1=x.1/\H x.2.1=some (.tup (p.1.map kV))/\RelV p.2 x.2.2:=by
 intro l m i x r
 induction r generalizing i with
 | nil=>intro h;cases h
 | cons a t ih=>
  intro h;cases i with
  | zero=>cases h;exact⟨_,rfl,a⟩
  | succ i=>exact ih h
section
variable {X:Cx} {o e f:Expr} {apos cpos:Pos} {td ty tx:TE}
end
def tC1 (sp:Sp) (t0:TE):TE:=fun Z H Q=>t0 Z H λv0 H0=>sp [v0] H0 Q E0
def tC2 (sp:Sp) (t0 t1:TE):TE:=fun Z H Q=>t0 Z H λv0 H0=>t1 Z H0 λv1 H1=>sp [v0,v1] H1 Q E0
def tC3 (sp:Sp) (t0 t1 t2:TE):TE:=fun Z H Q=>t0 Z H λv0 H0=>t1 Z H0 λv1 H1=>t2 Z H1 λv2 H2=>sp [v0,v1,v2] H2 Q E0
def tC4 (sp:Sp) (t0 t1 t2 t3:TE):TE:=fun Z H Q=>t0 Z H λv0 H0=>t1 Z H0 λv1 H1=>t2 Z H1 λv2 H2=>t3 Z H2 λv3 H3=>sp [v0,v1,v2,v3] H3 Q E0
def tM0 (C:Addr) (m:Str) (sp:Sp) (ta:TE):TE:=fun Z H Q=>ta Z H λx G=>∃a dx fs,x=.ref a/\G a=some (.ins C dx fs)/\fs.lookup m=none/\sp [x] G Q E0
def tM1 (C:Addr) (m:Str) (sp:Sp) (ta t0:TE):TE:=fun Z H Q=>ta Z H λx G=>∃a dx fs,x=.ref a/\G a=some (.ins C dx fs)/\fs.lookup m=none/\t0 Z G λv0 H0=>sp [x,v0] H0 Q E0
def tM2 (C:Addr) (m:Str) (sp:Sp) (ta t0 t1:TE):TE:=fun Z H Q=>ta Z H λx G=>∃a dx fs,x=.ref a/\G a=some (.ins C dx fs)/\fs.lookup m=none/\t0 Z G λv0 H0=>t1 Z H0 λv1 H1=>sp [x,v0,v1] H1 Q E0
section
variable {X:Cx} {pl:Sem Bool} {k k':Nat} {C:Addr} {ps:YF} {sp:Sp} {x m:Str} {p apos pos:Pos} {o e0 e1 e2 e3 e4 e5:Expr} {ta t0 t1 t2 t3 t4 t5:TE}
theorem Ij (g:Good X.prog X.w X.K X.mg X.base x k ps sp) (hr:Bk k' X.A) (ha:PA X [e0] (DP t0 G4)) (hk:k<=k':=by decide) (hg:Gl X x:=by rfl) (hdb:(x == ("__debug__":Str))=false:=by decide) (he:starEach [e0] X.env=(false,eval e0 X.env)::starEach [] X.env:=by rfl) (hpl:(backTo pos (starEach [] X.env)).any (·.1)=false:=by rfl):PE X (.Call (.Name x p) [e0] [] pos) (tC1 sp t0):=Oh g hr ha hk hg hdb he hpl
theorem Dh (g:Good X.prog X.w X.K X.mg X.base x k ps sp) (hr:Bk k' X.A) (ha:PA X [e0,e1] (DP t0 (DP t1 G4))) (hk:k<=k':=by decide) (hg:Gl X x:=by rfl) (hdb:(x == ("__debug__":Str))=false:=by decide) (he:starEach [e0,e1] X.env=(false,eval e0 X.env)::starEach [e1] X.env:=by rfl) (hpl:(backTo pos (starEach [e1] X.env)).any (·.1)=false:=by rfl):PE X (.Call (.Name x p) [e0,e1] [] pos) (tC2 sp t0 t1):=Oh g hr ha hk hg hdb he hpl
theorem GJ (g:Good X.prog X.w X.K X.mg X.base x k ps sp) (hr:Bk k' X.A) (ha:PA X [e0,e1,e2] (DP t0 (DP t1 (DP t2 G4)))) (hk:k<=k':=by decide) (hg:Gl X x:=by rfl) (hdb:(x == ("__debug__":Str))=false:=by decide) (he:starEach [e0,e1,e2] X.env=(false,eval e0 X.env)::starEach [e1,e2] X.env:=by rfl) (hpl:(backTo pos (starEach [e1,e2] X.env)).any (·.1)=false:=by rfl):PE X (.Call (.Name x p) [e0,e1,e2] [] pos) (tC3 sp t0 t1 t2):=Oh g hr ha hk hg hdb he hpl
theorem Uv (g:Good X.prog X.w X.K X.mg X.base x k ps sp) (hr:Bk k' X.A) (ha:PA X [e0,e1,e2,e3] (DP t0 (DP t1 (DP t2 (DP t3 G4))))) (hk:k<=k':=by decide) (hg:Gl X x:=by rfl) (hdb:(x == ("__debug__":Str))=false:=by decide) (he:starEach [e0,e1,e2,e3] X.env=(false,eval e0 X.env)::starEach [e1,e2,e3] X.env:=by rfl) (hpl:(backTo pos (starEach [e1,e2,e3] X.env)).any (·.1)=false:=by rfl):PE X (.Call (.Name x p) [e0,e1,e2,e3] [] pos) (tC4 sp t0 t1 t2 t3):=Oh g hr ha hk hg hdb he hpl
theorem SN (he:PE X o ta) (c:Cls X.K C) (g:Bu X.prog X.w X.K X.mg X.base C m k ps sp) (hr:Bk k' X.A) (hk:k<=k':=by decide) (ht:eval (.Call (.Attribute o m apos) [] [] pos) X.env=(do
   let ov <-eval o X.env
   standAt apos.atName
   let (f,first) <-holding [ov] (getMethod ov m pl)
   callWith pos f first (backTo pos (starEach [] X.env)) (backToKw pos (keywordEach [] X.env))):=by rfl):PE X (.Call (.Attribute o m apos) [] [] pos) (tM0 C m sp ta):=ZG (pl:=pl) he c g hr hk ht
theorem GC (he:PE X o ta) (c:Cls X.K C) (g:Bu X.prog X.w X.K X.mg X.base C m k ps sp) (hr:Bk k' X.A) (ha:PA X [e0] (DP t0 G4)) (hk:k<=k':=by decide) (hst:starEach [e0] X.env=(false,eval e0 X.env)::starEach [] X.env:=by rfl) (hpl:(backTo pos (starEach [] X.env)).any (·.1)=false:=by rfl) (ht:eval (.Call (.Attribute o m apos) [e0] [] pos) X.env=(do
   let ov <-eval o X.env
   standAt apos.atName
   let (f,first) <-holding [ov] (getMethod ov m pl)
   callWith pos f first (backTo pos (starEach [e0] X.env)) (backToKw pos (keywordEach [] X.env))):=by rfl):PE X (.Call (.Attribute o m apos) [e0] [] pos) (tM1 C m sp ta t0):=Xx (pl:=pl) he c g hr ha hk hst hpl ht
theorem SM (he:PE X o ta) (c:Cls X.K C) (g:Bu X.prog X.w X.K X.mg X.base C m k ps sp) (hr:Bk k' X.A) (ha:PA X [e0,e1] (DP t0 (DP t1 G4))) (hk:k<=k':=by decide) (hst:starEach [e0,e1] X.env=(false,eval e0 X.env)::starEach [e1] X.env:=by rfl) (hpl:(backTo pos (starEach [e1] X.env)).any (·.1)=false:=by rfl) (ht:eval (.Call (.Attribute o m apos) [e0,e1] [] pos) X.env=(do
   let ov <-eval o X.env
   standAt apos.atName
   let (f,first) <-holding [ov] (getMethod ov m pl)
   callWith pos f first (backTo pos (starEach [e0,e1] X.env)) (backToKw pos (keywordEach [] X.env))):=by rfl):PE X (.Call (.Attribute o m apos) [e0,e1] [] pos) (tM2 C m sp ta t0 t1):=Xx (pl:=pl) he c g hr ha hk hst hpl ht
end
open PySem.W (KasT kas_asc kas_desc kas_rev kas_tail3 kas_descPart kas_count kas_place kas_bin kas_sort)
structure C4 (a b c k:Int):Prop where
 b0:0<=b
 b1:b < 10000
 c0:0<=c
 c1:c < 10000
 k:k=a*100000000+b*10000+c
def Ez (K:YD) (H:Hp) (v:V) (k:Int):Prop:=∃t a b c x,v=.ref t/\SqT K H t [.int a,.int b,.int c,.str x]/\C4 a b c k
section
variable {prog:Program} {w:World} {A:Around} {s:Shared}
theorem jc {fin:Bool} {C:Bool->Shared->Prop} {a b c k a' b' c' k':Int} {r r':YE} {t1 t2 t3 u1 u2 u3:Tok} (x:C4 a b c k) (y:C4 a' b' c' k') (ne:k≠k') (hC:C (decide (k < k')) s):PySem.W.KatLex prog w A true fin C ((Value.int a t1::Value.int b t2::Value.int c t3::r).zip (Value.int a' u1::Value.int b' u2::Value.int c' u3::r')) 0 s:=by
 have x1:=x.b0;have x2:=x.b1;have x3:=x.c0;have x4:=x.c1;have x5:=x.k;have y1:=y.b0;have y2:=y.b1;have y3:=y.c0;have y4:=y.c1;have y5:=y.k;rw[QaR];refine kat_cons (Qbn ?_);by_cases ha:a=a'
 ·rw[show (a == a')=true by rw[ha];exact Qbp a'];refine kat_yes ?_;rw[QaR];refine kat_cons (Qbn ?_);by_cases hb:b=b'
  ·rw[show (b == b')=true by rw[hb];exact Qbp b'];refine kat_yes ?_;rw[QaR];refine kat_cons (Qbn ?_);have hc:c≠c':=λz=>ne (by rw[x5,y5,ha,hb,z]);rw[show (c == c')=false from QaE.mpr hc]
   refine PySem.W.kat_no (PySem.W.kat_one _ _ (lt_int ?_));rw[show decide (c < c')=decide (k < k') by rw[QbA,QaO,QaO];subst ha hb;constructor <;> intro h <;> omega];exact hC
  ·rw[show (b == b')=false from QaE.mpr hb]
   refine PySem.W.kat_no (PySem.W.kat_one _ _ (lt_int ?_));rw[show decide (b < b')=decide (k < k') by rw[QbA,QaO,QaO];subst ha;constructor <;> intro h <;> omega];exact hC
 ·rw[show (a == a')=false from QaE.mpr ha]
  refine PySem.W.kat_no (oneLt_int ?_);rw[show decide (a < a')=decide (k < k') by rw[QbA,QaO,QaO];constructor <;> intro h <;> omega];exact hC
theorem cG {fin:Bool} {C:Bool->Shared->Prop} {a b c:Int} {x:Str} {t1 t2 t3 t4:Tok} (hC:C fin s):PySem.W.KatLex prog w A true fin C ([Value.int a t1,Value.int b t2,Value.int c t3,Value.str x t4].zip [Value.int a t1,Value.int b t2,Value.int c t3,Value.str x t4]) 0 s:=by
 rw[QaR];refine kat_cons (Qbn ?_);rw[show (a == a)=true from Qbp a]
 refine kat_yes ?_;rw[QaR];refine kat_cons (Qbn ?_);rw[show (b == b)=true from Qbp b]
 refine kat_yes ?_;rw[QaR];refine kat_cons (Qbn ?_);rw[show (c == c)=true from Qbp c]
 refine kat_yes ?_;rw[QaR];refine kat_cons (wpAny_eqBool_str ?_);rw[QbJ (rfl:x=x)];exact kat_yes hC
end
theorem JX {X:Cx} {jb:YC} {Z : St} {H:Hp} {s:Shared} {h':Heap} (I:Inv X jb Z H s) (k:∀b o,H b≠none\/(∃u,X.base.get? b=some u)->s.heap.get? b=some o->h'.get? b=some o) {v:V} {u:Value} {kk:Int} (r:RelV v u) (h:Ez X.K H v kk) :
  ∃(x:Addr) (ox:Obj) (ws:Array Value) (n:Nat) (a b c:Int) (t:Str) (t1 t2 t3 t4:Tok),u=.ref x/\h'.get? x=some ox/\ox.cls=.type "tuple"/\ox.data=.seq ws n/\ws.toList=[Value.int a t1,Value.int b t2,Value.int c t3,Value.str t t4]/\C4 a b c kk:=by
 obtain⟨tp,a,b,c,x,rfl,hq,hc⟩:=h;cases r;obtain⟨ws,rw',⟨o,ho,hcl,n,hd⟩,_⟩:=I.tuple hq;have ho':h'.get? tp=some o:=by
  refine k tp o ?_ ho;rcases hq with (e |⟨_,e⟩) |⟨_,_,_,e,_⟩
  ·exact .inl (by rw[e];exact λz=>nomatch z)
  ·exact .inl (by rw[e];exact λz=>nomatch z)
  ·exact .inr ⟨_,I.mod.kin _ _ e⟩
 cases rw' with
 | cons r0 rr=>
  cases rr with
  | cons r1 rr=>
   cases rr with
   | cons r2 rr=>
    cases rr with
    | cons r3 rr=>
     cases rr;obtain⟨t0,e0⟩:=r0;obtain⟨t1,e1⟩:=r1;obtain⟨t2,e2⟩:=r2;obtain⟨t3,e3⟩:=r3;exact⟨tp,o,_,n,a,b,c,x,t0,t1,t2,t3,rq,ho',hcl,hd,by rw[e0,e1,e2,e3],hc⟩
theorem Qk {X:Cx} {jb:YC} {Z : St} {H:Hp} {s:Shared} {h':Heap} (I:Inv X jb Z H s) (k:∀b o,H b≠none\/(∃u,X.base.get? b=some u)->s.heap.get? b=some o->h'.get? b=some o):∀{vs:YG} {its:YE} {ks:List Int},Vals vs its->Paired (Ez X.K H) vs ks ->
  ∃fs,PySem.W.KatTups h' its fs/\fs.length=its.length/\∀f∈fs,∃i t,f=Value.int i t
 | _,_,_,.nil,_=>⟨[],trivial,rfl,λf h=>nomatch h⟩
 | _,_,_,.cons r t,.cons h hr=>by
  obtain⟨fs,f1,f2,f3⟩:=Qk I k t hr;obtain⟨x,ox,ws,n,a,b,c,tx,t1,t2,t3,t4,rfl,hx,hcl,hd,he,_⟩:=JX I k r h;refine⟨Value.int a t1::fs,PySem.W.KatTups.cons hx hcl hd (by rw[<-Array.getElem?_toList,he];rfl) f1,by simp[f2],λf hf=>?_⟩;rcases QbN.mp hf with rfl | hf
  ·exact⟨_,_,rq⟩
  ·exact f3 f hf
theorem K9 {X:Cx} {jb:YC} {Z : St} {H:Hp} {s s1:Shared} {A:Around} {vs:YG} {its:YE} {ks:List Int} {F:Array Nat->Shared->Prop} (I:Inv X jb Z H s) (k:∀b o,H b≠none\/(∃u,X.base.get? b=some u)->s.heap.get? b=some o->s1.heap.get? b=some o)
  (rv:Vals vs its) (hK:Paired (Ez X.K H) vs ks) (hnd:ks.Nodup) (h2:2<=its.length) (q:∀pp:Array Nat,Pm its.length pp->(pp.toList.map λi=>ks.getD i 0).Pairwise (· < ·)->F pp s1) :
  wpAny (model X.prog X.w) A (keyKind' its.toArray) (fun κ s'=>(kas_sort its.length).kasWp (PySem.W.kas_ask X.prog X.w A κ its) F s') (λ_ _=>False) s1:=by
 have hkl:vs.length=ks.length:=QbO hK;have hlen:vs.length=its.length:=rv.length;obtain⟨fs,f1,f2,f3⟩:=Qk (h':=s1.heap) I k rv hK;refine PySem.W.kat_kind f1 (by omega) (λv hv=>by obtain⟨i,t,rfl⟩:=f3 v hv;exact PySem.W.Looks.of_pure rfl) (T:=.type "int") (by decide) ?_;have inj:Inj its.length (λi=>ks.getD i 0):=λi j hi hj e=>by
  have e:ks.getD i 0=ks.getD j 0:=e;have e1:ks.getD i 0=ks[i]'(by omega):=by simp[show i < ks.length by omega]
  have e2:ks.getD j 0=ks[j]'(by omega):=by simp[show j < ks.length by omega]
  rw[e1,e2] at e;exact U6 hnd _ _ e
 have hp:=KH (lt:=ltK λi=>ks.getD i 0) _ (QH (n:=its.length) (by omega));have LQ:=GD.list hp (Wa inj h2);refine Rz (lt:=ltK λi=>ks.getD i 0) (n:=its.length) (λi j C hi hj hC=>?_) _ (QH (by omega)) (q _ hp LQ);have Xr:∀i,i < its.length->∃(x:Addr) (ox:Obj) (ws:Array Value) (n:Nat) (a b c:Int) (t:Str) (t1 t2 t3 t4:Tok),its.getD i Value.none=.ref x/\s1.heap.get? x=some ox/\ox.cls=.type "tuple"/\ox.data=.seq ws n/\ws.toList=[Value.int a t1,Value.int b t2,Value.int c t3,Value.str t t4]/\C4 a b c (ks.getD i 0):=λi hi=>by
  have hvi:i < vs.length:=by omega
  obtain⟨u,hu,ru⟩:=rv.get (x:=vs[i]) (i:=i) (by simp[hvi]);have hk4:=Q0 V.non (0:Int) hK hvi;have ev:vs.getD i V.non=vs[i]:=by simp[hvi]
  rw[ev] at hk4;have:=JX I k ru hk4;have eu:its.getD i Value.none=u:=by rw[Qaf,hu];rfl
  rw[eu];exact this
 obtain⟨x,ox,wx,nx,xa,xb,xc,xt,x1,x2,x3,x4,ex,hx,_,dx,fx,cx⟩:=Xr i hi;obtain⟨y,oy,wy,ny,ya,yb,yc,yt,y1,y2,y3,y4,ey,hy,_,dy,fy,cy⟩:=Xr j hj;unfold PySem.W.kas_ask;rw[ex,ey];refine PySem.W.kat_lt hx dx hy dy ?_;by_cases ne:i=j
 ·subst ne;rw[ex] at ey;cases ey;rw[hx] at hy;cases hy;rw[dx] at dy;cases dy;have e0:ltK (λi=>ks.getD i 0) i i=false:=Qbv (QbR _);rw[e0] at hC;have e1:decide (wx.size < wx.size)=false:=Qbv (QbQ _);rw[e1,fx];exact cG hC
 ·rw[fx,fy];exact jc cx cy (λz=>ne (inj i j hi hj z)) hC
theorem Iv {X:Cx} {jb:YC} {Z : St} {H:Hp} {s:Shared} {h2:Heap} {tk:Nat} {m:YB} {D:Addr} {c:Nat} {vs:YG} {its:YE} (I:Inv X jb Z H s) (hn:s.heap.Ns X.env.locals m) (hn2:h2.Ns X.env.locals m) (kp2:∀b o,b≠X.env.locals->s.heap.get? b=some o->h2.get? b=some o) (nD:∀b o,s.heap.get? b=some o->b≠D)
  (oD:h2.get? D=some (seqObj "list" its.toArray c)) (rv:Vals vs its) (h64:vs.length < 64):H D=none/\Inv X jb Z (upd H D (.lst vs)) { s with heap:=h2,toks:=tk }:=by
 have hDn:H D=none:=by
  cases e:H D with
  | none=>rfl
  | some v=>
   obtain⟨o,ho⟩:=(I.hok D v e).there;exact absurd rfl (nD D o ho)
 refine⟨hDn,?_⟩;have tr:∀(o:HO) b u,H b=some u->(upd H D o) b=some u:=λo b u e=>by rw[Al (Bm e hDn)];exact e
 refine I.step (h':=h2) (g':=s.gens) (d':=s.drawn) (t':=tk) (ch:=[]) (λb hb=>absurd hb (by simp)) (λb u hb _ _ e _=>kp2 b u hb e) (λb u hb _ _ e _=>⟨u.slots,kp2 b u hb e⟩) (λb u _ e n=>by rw[Al (nD b u e)];exact n)
  (λb u _ e=>?_) (λb ys e=>tr _ _ _ e) (λb u v e=>tr _ _ _ e) (λb ps e=>⟨#[],by rw[tr _ _ _ e];simp⟩) (λm' hm'=>by rw[YS hm' hn];exact hn2) (λb u e=>?_) I.bare
 ·by_cases hb:b=X.env.locals
  ·obtain⟨o,_,_,ho,_⟩:=hn2;exact⟨o,by rw[hb];exact ho⟩
  ·exact⟨u,kp2 b u hb e⟩
 ·by_cases hb:b=D
  ·subst hb;rw[Ac] at e;cases e;exact⟨QbY (Aq (by omega)),_,c,rv,oD⟩
  ·rw[Al hb] at e;refine (I.hok b u e).stay (λx v hx e1=>kp2 x v ?_ e1) (λx e1=>tr _ _ _ e1) λx ys e1=>tr _ _ _ e1;intro z;rcases hx with hx | hx
   ·rw[<-hx,z,I.free] at e;cases e
   ·rw[z,I.free] at hx;cases hx
@[irreducible] def Jo (K:YD):YG->Hp->VK->Prop:=λxs H Q=>∃(p:Addr) (vs:YG) (ks:List Int),xs=[.ref p]/\SqL K H p vs/\vs.length < 64/\Paired (Ez K H) vs ks/\ks.Nodup /\
 ∀(is:List Nat) l,is.Perm (List.range vs.length)->(is.map λi=>ks.getD i 0).Pairwise (· < ·)->H l=none->Q (.ref l) (upd H l (.lst (is.map λi=>vs.getD i .non)))
theorem O9 {K:YD} {p:Addr} {vs:YG} {ks:List Int} {H:Hp} {Q:VK} (h1:SqL K H p vs) (h2:vs.length < 64) (h3:Paired (Ez K H) vs ks) (h4:ks.Nodup)
  (q:∀(is:List Nat) l,is.Perm (List.range vs.length)->(is.map λi=>ks.getD i 0).Pairwise (· < ·)->H l=none->Q (.ref l) (upd H l (.lst (is.map λi=>vs.getD i .non)))):Jo K [.ref p] H Q:=by
 unfold Jo;exact⟨p,vs,ks,rq,h1,h2,h3,h4,q⟩
theorem XC {X:Cx} {jb:YC} {Z : St} {H:Hp} {s:Shared} (I:Inv X jb Z H s):∀b,H b≠none\/(∃u,X.base.get? b=some u)->b≠X.env.locals:=λb hb z=>by
 rcases hb with hb |⟨u,hb⟩
 ·exact hb (by rw[z];exact I.free)
 ·have:=QbU hb;rw[z] at this;exact absurd (QaN this (QbW I.ok.bsz I.ok.above)) (QbQ _)
theorem Lb {ks:List Int} {n:Nat} (h:n < 2) (e:n=ks.length):((List.range n).map λi=>ks.getD i 0).Pairwise (· < ·):=by
 rw[e,range_getD]
 match ks,(show ks.length < 2 by omega) with
 | [],_=>exact List.Pairwise.nil
 | [k],_=>exact List.pairwise_singleton _ _
theorem Jx {X:Cx}:Ei X (.builtin "sorted") (Jo X.K):=by
 intro jb s Z H xs us Q I r h;unfold Jo at h;obtain⟨p,vs,ks,rfl,hq,h64,hK,hnd,q⟩:=h;have hkl:vs.length=ks.length:=QbO hK;obtain⟨u,rfl,rx⟩:=vals1 r;cases rx;obtain⟨its,rv,pl,hz⟩:=I.list hq;have hlen:vs.length=its.length:=rv.length;by_cases h2:2<=its.length
 ·obtain⟨m,hn,_⟩:=id I.loc;refine PySem.W.kat_sorted (Att.Qt hn) (Qd (g:=Att.Js s.heap) (h:=s.heap) (L:=X.env.locals)) pl.isList h2 (by omega) λD e1 h' F' N' hD=>?_;have kp:∀b o,b≠X.env.locals->s.heap.get? b=some o->h'.get? b=some o:=λb o hb e=>(N' (b,o) (Qax _ (Eh hb (Att.Ea _ _) e))).1;refine K9 I (λb o hb e=>kp b o (XC I b hb) e) rv hK hnd h2 λpp hp LQ=>?_;refine PySem.W.KasFin.intro F' N' (.head λq hq=>QbV (hD q hq)) λh2' c F2 N2=>?_;have kp2:∀b o,b≠X.env.locals->s.heap.get? b=some o->h2'.get? b=some o:=λb o hb e=>(N2 (b,o) (Qax _ (Eh hb (Att.Ea _ _) e))).1;obtain⟨oD,DL,_⟩:=N2 (D,_) (QaP ..);have nD:∀b o,s.heap.get? b=some o->b≠D:=λb o e z=>by
   by_cases hb:b=X.env.locals
   ·exact DL (by rw[<-z];exact hb)
   ·have:=hD (b,o) (Eh hb (Att.Ea _ _) e);rw[z] at this;exact QbQ _ this
  have hmem:∀i∈pp.toList,i < vs.length:=λi hi=>by rw[hlen];exact QbK.mp (hp.mem_iff.mp hi)
  have rv2:Vals (pp.toList.map λi=>vs.getD i .non) (pp.toList.map λi=>its.getD i Value.none):=HN V.non Value.none rv hmem;have hpl:pp.toList.length=vs.length:=by rw[hp.length_eq,Qbf,hlen]
  obtain⟨hDn,I2⟩:=Iv (tk:=s.toks) I hn F2.ns kp2 nD oD rv2 (by rw[Qbu,hpl];exact h64);exact⟨.ref D,_,I2,rq,q _ D (by rw[hlen];exact hp) LQ hDn⟩
 ·refine O8 pl.isList (by omega) λD h' c hD oD kp=>?_;refine⟨.ref D,_,I.laid (t':=s.toks) (o:=.lst vs) kp hD ?_,rq,?_⟩
  ·exact⟨QbY (Aq (by omega)),its,c,rv,oD⟩
  ·have z:=q (List.range vs.length) D (List.Perm.refl _) (Lb (by omega) hkl) (I.hok.fresh hD);rw[range_getD] at z;exact z
end L2
namespace L2
open PySem PySem.Spec PyProof.Rows
theorem QS {prog:Program} {w:World} {K:Type} [DecidableEq K] {knd:HeapKind prog w K} {A:Around} {E:YA} {s:Shared} {d a:Addr} {o:Obj} {es:YK} {ep:Nat} {xs:List (K×Addr×Value)} {k:K} {dflt:Value} {Q:YA} (hu:knd.room A) (hkey:knd.is s.heap k a)
  (ho:s.heap.get? d=some o) (hc:o.ExactDict) (hd:o.data=.dict es ep) (he:es.toList=xs.map (entryOfKey knd)) (his:∀x∈xs,knd.is s.heap x.1 x.2.1) (hn:(xs.map (·.1)).Nodup) (hz:xs.length < sizeLine)
  (hthere:∀(j:Nat) (p:Addr×Value),xs[j]?=some (k,p)->Q p.2 { s with toks:=s.toks+knd.draws k })
  (hnew:(∀(j:Nat) (p:Addr×Value),xs[j]?≠some (k,p))->∀h' o' es',h'.get? d=some o'->o'.ExactDict->o'.data=.dict es' (ep+1)->es'.toList=(xs++[(k,a,dflt)]).map (entryOfKey knd)->Heap.SameBut d s.heap h'->Q dflt { s with heap:=h',toks:=s.toks+knd.draws k }) :
  wpAny (model prog w) A (dictSetDefault d (.ref a) dflt) Q E s:=by
 unfold dictSetDefault
 try with_reducible refine QbS ?_
 have hsz:=size_of_entries he;refine Qcg (knd.pyHash hu hkey (Qcg (wpAny_dictFind_heap (s:={ s with toks:=s.toks+knd.draws k }) hu hkey ho hd he his hn (λhno=>?_) λj p hj=>?_)))
 ·refine Qcg (Qcj ?_);have hle:(es.push ⟨knd.hash k,.ref a,dflt⟩).toList=(xs++[(k,a,dflt)]).map (entryOfKey knd):=by
   rw[Array.toList_push,he,Qby];rfl
  refine Qcg (wpAny_updateDictKeys (hz:=by omega) (hf:=by rw[Array.size_push];omega) (s:={ s with toks:=s.toks+knd.draws k }) ho hd ?_);exact Qch (hnew hno _ _ _ (Qau _ ho (Obj.isFreed_of_dict (Obj.data_mapDictKeys hd _))) (hc.mapDictKeys _) (Obj.data_mapDictKeys hd _) hle (QaF ..))
 ·refine Qcg (wpAny_dictEntries (s:={ s with toks:=s.toks+knd.draws k }) ho hd ?_);rw[entry_at he j,hj];exact Qcg (Qcj (Qch (hthere j p hj)))
def Ug (td ty tx:TE):TE:=fun Z H Q=>td Z H λx H1=>∃a,x=.ref a/\IsD H1 a/\ty Z H1 λy H2=>tx Z H2 λz H3=>∃kvs k b,H3 a=some (.dT kvs)/\y=.ref b/\H3 b=some (.tup (k.map kV))/\kvs.length < sizeLine /\
 (∀(j:Nat) (v:V),kvs[j]?=some (k,v)->Q v H3)/\((∀(j:Nat) (v:V),kvs[j]?≠some (k,v))->Q z (upd H3 a (.dT (kvs++[(k,z)]))))
theorem CK {α β : Type} {F:α->β->Prop}:∀{l l':List α} {m m':List β},Paired F l m->Paired F l' m'->Paired F (l++l') (m++m')
 | _,_,_,_,.nil,h=>h
 | _,_,_,_,.cons a t,h=>.cons a (CK t h)
theorem Vz {X:Cx} {jb:YC} {Z : St} {H:Hp} {s:Shared} {A:Around} {E:YA} {a b:Addr} {kvs:YL} {k:List Key} {z:V} {r:Value} {Q:YA} (hu:A.units+1 < cLine) (I:Inv X jb Z H s) (e:H a=some (.dT kvs)) (eb:H b=some (.tup (k.map kV))) (rz:RelV z r) (hl:kvs.length < sizeLine)
  (h1:∀(j:Nat) (v:V),kvs[j]?=some (k,v)->∀w' s',Inv X jb Z H s'->RelV v w'->Q w' s') (h2:(∀(j:Nat) (v:V),kvs[j]?≠some (k,v))->∀s',Inv X jb Z (upd H a (.dT (kvs++[(k,z)]))) s'->Q r s'):wpAny (model X.prog X.w) A (call (.builtin "dict.setdefault") [.ref a,.ref b,r]) Q E s:=by
 obtain⟨zz,lo,xs,rel,ob,es,ep,h4,h5,h6,h7,h8⟩:=(show Bd X.prog X.w H s.heap a (.dT kvs) from I.hok a _ e)
 have T:s.TypeIs (.ref a) "dict":=⟨ob,h4,h5.1⟩;refine Qbi F.slot_dict_setdefault T F.entry_dict_setdefault ?_ (F.args_dict_setdefault_3 _ _ _);unfold Builtin.«dict.setdefault»;refine Qcg ?_;unfold Builtin.Dict.keyAndDefault;refine Qcg (wpAny_notOrdered_dict T ?_);show wpAny _ _ (pure (a,Value.ref b,some r)) _ _ s;refine Qch ?_;dsimp only;rw[if_neg (by rw[lo];exact QaK)];have hlen:xs.length=kvs.length:=(QbO rel).symm;have hkey:=Lx I.hok eb;refine Qcg (QS (knd:=tupleKind (Cg X.prog X.w)) (tupleKind_room_in1 hu) hkey h4 h5 h6 h7 ?_ h8 (by omega) (λj p hj=>?_) λhno h' o' es' g1 g2 g3 g4 sb=>?_)
 ·intro x hx;obtain⟨i,hi⟩:=QaA hx;obtain⟨pv,_,e1,hb,_⟩:=Np rel hi;rw[<-e1];exact Lx I.hok hb
 ·obtain⟨pv,hp,e1,_,rv⟩:=Np rel hj;have hp:kvs[j]?=some (k,pv.2):=by
   rw[hp];have:pv.1=k:=e1;rw[<-this]
  exact Qch ⟨_,rq,h1 j pv.2 hp _ _ (I.tok _) rv⟩
 ·have nd:((xs++[(k,b,r)]).map (·.1)).Nodup:=by
   rw[Qby];refine List.nodup_append.mpr ⟨h8,(by simp),λx hx y hy=>?_⟩;rw[QaJ.mp hy];obtain⟨p,hp,rfl⟩:=QbX.mp hx;obtain⟨i,hi⟩:=QaA hp;intro z;refine hno i p.2 ?_;rw[hi];have:p.1=k:=z;rw[<-this]
  refine Qch ⟨_,rq,h2 (λj v hj=>?_) _ ?_⟩
  ·obtain⟨q,hq,e1,_⟩:=Yu rel hj;have e1:k=q.1:=e1;exact hno j q.2 (by rw[hq,e1])
  ·have keep:∀(o:HO) (c:Addr) (ys:YG),H c=some (.tup ys)->(upd H a o) c=some (.tup ys):=λo c ys ec=>by rw[Al (XD ec e (λz=>nomatch z))];exact ec
   refine M9 I (by rw[e];exact True.intro) sb ⟨o',g1⟩ ⟨by rw[QaL];exact hl,lo,xs++[(k,b,r)],?_,o',es',_,g1,g2,g3,g4,nd⟩;refine CK (Paired.IK rel λx y hxy=>⟨hxy.1,keep _ _ _ hxy.2.1,hxy.2.2⟩) (.cons ⟨rq,keep _ _ _ eb,rz⟩ .nil)
section
variable {X:Cx} {o e f:Expr} {apos cpos:Pos} {td ty tx:TE}
theorem QZ (hu:X.A.units+1 < cLine) (ho:PE X o td) (he:PE X e ty) (hf:PE X f tx) (m:M2 X o "setdefault" apos e f cpos):PE X (.Call (.Attribute o "setdefault" apos) [e,f] [] cpos) (Ug td ty tx):=by
 intro jb s Z H Q I h;refine wpAny_Call_method m.base m.few m.line PySem.F.plainAttrs_dict PySem.F.slot_dict_setdefault PySem.F.type_dict_setdefault (thn (ho jb s Z H _ I h) λu s1 zz=>?_);obtain⟨x,H1,I1,rx,a,ex,d,q1⟩:=zz;subst ex;obtain rfl:u=Value.ref a:=rx;obtain⟨t1,t2,_⟩:=Vj I1 d;refine⟨t1,t2,?_⟩;rw[m.trees];refine Calls.callWith_builtin rfl (Calls.evalArgs_plain (QaX (thn (he jb s1 Z H1 _ I1 q1) λiv s2 ⟨y,H2,I2,ry,q2⟩=>
  QaX (thn (hf jb s2 Z H2 _ I2 q2) λfv s3 ⟨z,H3,I3,rz,kvs,k,b,ea,ey,eb,hl,q3,q4⟩=>Calls.spliced_nil ?_))))
 subst ey;obtain rfl:iv=Value.ref b:=ry;exact Vz hu I3 ea eb rz hl (λj v hj w' s4 I4 rw'=>⟨v,_,I4,rw',q3 j v hj⟩) λhno s4 I4=>⟨z,_,I4,rz,q4 hno⟩
end
section
variable {prog:Program} {w:World} {A:Around} {E:YA} {s:Shared}
theorem Sy {d:Addr} {ep:Nat} {es:YK} (lo:(d == sysModules)=false) :
  MeetsIn prog w (Builtin.«dict.values» ⟨[.ref d],[]⟩) (λ_ R s=>Hz s.heap d es ep/\R (.ok (.ret (.ref s.heap.objs.size))) { s with heap:=s.heap.push { cls:=.type "dict_values",data:=.fields #[.ref d] } }):=
 .of_wp λA R s ⟨hm,h⟩=>by
  obtain⟨od,hod,xd,dd⟩:=hm;have T:s.TypeIs (.ref d) "dict":=⟨od,hod,xd.1⟩;obtain⟨M8,JZ,Ka,Im⟩:=od;obtain⟨x1,x2⟩:=xd;dsimp only at dd x1;subst dd x1;unfold Builtin.«dict.values»
  wp_walk
  exact⟨_,rq,h⟩
theorem Lf {v d:Addr} {es:YK} {ep:Nat} {Q:YA} (hv:s.heap.IsValuesView v d) (R:Hz s.heap d es ep)
  (hQ:Q (.ref s.heap.objs.size) { s with heap:=s.heap.push { cls:=.type "dict_valueiterator",data:=.fields #[.ref d,.int 0 0,.int es.size 0,.int ep 0] } }):wpAny (model prog w) A (pyIter (.ref v)) Q E s:=by
 have T:=hv.typeIs;rcases hv with⟨⟨mU,mO,mQ,mK⟩,hov,hcv,hdv⟩;rcases R with⟨⟨M8,JZ,Ka,Im⟩,hod,xd,dd⟩;dsimp only at hcv hdv dd;subst hcv hdv dd;refine wpAny_pyIter_slot T F.slot_dict_values_iter (Qbi F.slot_dict_values_iter T F.entry_dict_values_iter ?_ (F.args_dict_values_iter_1 _));unfold Builtin.«dict_values.__iter__»
 wp_walk
 have gb:Builtin.Dict_items.ownsTuple "dict_valueiterator"=false:=by decide
 refine⟨_,rq,"dict_valueiterator",_,⟨_,QaD _ rfl,rq⟩,Qac.lookup,?_⟩;simpa [rawInt,gb] using hQ
theorem Ul {it d:Addr} {i ep:Nat} {es:YK} {en:DictEntry} {Q:Option Value->Shared->Prop} (K:s.heap.IsValIter it d i es.size ep) (R:Hz s.heap d es ep) (hx:es[i]?=some en)
  (q:∀h',h'.IsValIter it d (i+1) es.size ep->Heap.SameBut it s.heap h'->Q (some en.val) { s with heap:=h' }):wpAny (model prog w) A (pyNext (.ref it)) Q E s:=by
 have T:=K.typeIs;obtain⟨oi,hoi,ci,di⟩:=K;obtain⟨od,hod,xd,dd⟩:=R;have hlt:i < es.size:=(Qag.mp hx).1;obtain⟨WL,Tw,Tz,Ql⟩:=oi;obtain⟨M8,JZ,Ka,Im⟩:=od;dsimp only at ci di dd;subst ci di dd;obtain⟨hp,g,dr,tk,os⟩:=s;unfold pyNext;refine Qcg (QbT (Qan (name:=Str.ofString "__next__") T Qac (Qbi Qac T F.entry_dict_valueiterator_next ?_ (F.args_dict_valueiterator_next_1 _))));have e1:typeName (.type "dict_valueiterator")=pure "dict_valueiterator":=by unfold typeName;rw[find?_eq_fast];kernel_rfl
 have e2:=mroOf_valiter
 wp_walk
 have hidx:(if (i:Int) < 0 then none else es[((i:Int)).toNat]?)=some en:=by rw[if_neg (by omega),Qba];exact hx
 simp only[hidx]
 wp_walk
 refine⟨_,rq,Qch (q _ ⟨_,Qau _ hoi ?_,rq,?_⟩ (QaF ..))⟩
 all_goals first | rfl | trace_state
theorem Wf {it d:Addr} {i ep:Nat} {es:YK} {Q:Option Value->Shared->Prop} (hh:A.handled=none) (K:s.heap.IsValIter it d i es.size ep) (R:Hz s.heap d es ep) (hx:es[i]?=none)
  (q:∀h',Heap.ExtBut it s.heap h'->Q none { s with heap:=h' }):wpAny (model prog w) A (pyNext (.ref it)) Q E s:=by
 have T:=K.typeIs;obtain⟨oi,hoi,ci,di⟩:=K;obtain⟨od,hod,xd,dd⟩:=R;obtain⟨WL,Tw,Tz,Ql⟩:=oi;obtain⟨M8,JZ,Ka,Im⟩:=od;dsimp only at ci di dd;subst ci di dd;obtain⟨hp,g,dr,tk,os⟩:=s;unfold pyNext;refine Qcg (QbT (Qan (name:=Str.ofString "__next__") T Qac (Qbi Qac T F.entry_dict_valueiterator_next ?_ (F.args_dict_valueiterator_next_1 _))));have e1:typeName (.type "dict_valueiterator")=pure "dict_valueiterator":=by unfold typeName;rw[find?_eq_fast];kernel_rfl
 have e2:=mroOf_valiter;have hh1:A.in1.handled=none:=hh
 wp_walk
 have hidx:(if (i:Int) < 0 then none else es[((i:Int)).toNat]?)=none:=by rw[if_neg (by omega),Qba];exact hx
 simp only[hidx]
 wp_walk
 unfold raiseNew
 wp_walk
 refine wpAny_of_eq isSubtype_stop ?_
 wp_walk
 exact q _ (((QaF ..).extBut.push _).push _)
end
theorem Wd {prog:Program} {w:World} {r d:Addr} {es:YK} {ep:Nat}:PySem.W.KdlSrc prog w "dict_values" r d es.size (λi v=>∃en,es[i]?=some en/\v=en.val) (λh=>h.IsValuesView r d/\Hz h d es ep) where
 type:=λ_ hm=>hm.1.typeIs
 there:=λ_ hm=>⟨let ⟨_,ho,_⟩:=hm.1;QbU ho,let ⟨_,ho,_⟩:=hm.2;QbU ho⟩
 keep:=λ_ _ hm hk=>⟨let ⟨o,ho,x⟩:=hm.1;⟨o,hk r (.inl rfl) o ho,x⟩,let ⟨o,ho,x⟩:=hm.2;⟨o,hk d (.inr rfl) o ho,x⟩⟩
 notList:=by decide
 notTuple:=by decide
 hint:=λ_ _ _ _ hm hq=>PySem.W.kdl_hint_values hm.1.typeIs hq
 iter:=λA s hh hm=>⟨_,λi h=>h.IsValIter s.heap.objs.size d i es.size ep/\Hz h d es ep,(λ_ _ hq=>Lf hm.1 hm.2 hq),{
   sub:=λb hb=>by simp at hb;simp[hb]
   frame:=λ_ _ _ st hk=>⟨let ⟨o,ho,x⟩:=st.1;⟨o,hk s.heap.objs.size (by simp) o ho,x⟩,let ⟨o,ho,r⟩:=st.2;⟨o,hk d (by simp) o ho,r⟩⟩
   item:=λi s' Q E hi st hQ=>by
    have hne:d≠s.heap.objs.size:=let ⟨o,ho,_⟩:=hm.2;QbV (QbU ho);have hx:es[i]?=some es[i]:=by simp[hi]
    refine Ul st.1 st.2 hx λh' hit' hs'=>?_;obtain⟨o,ho,r⟩:=st.2;exact hQ es[i].val h' s'.toks ⟨es[i],hx,rq⟩ ⟨hit',o,hs'.extBut d o hne ho,r⟩ λb o hb e=>hs'.extBut b o (λh=>hb (by simp[h])) e
   done:=λs' Q E st hQ=>Wf hh st.1 st.2 (by simp) λh' he'=>hQ h' s'.toks λb o hb e=>he' b o (λh=>hb (by simp[h])) e
   self:=λ_ _ _ _ st hQ=>wpAny_pyIter_valiter st.1 hQ },⟨⟨_,QaD _ rfl,rq,rq⟩,let ⟨o,ho,r⟩:=hm.2;⟨o,Qao _ ho,r⟩⟩⟩
open PySem.W (KasT kas_asc kas_desc kas_rev kas_tail3 kas_descPart kas_count kas_place kas_bin kas_sort)
section
variable {prog:Program} {w:World} {A:Around} {E:YA} {s:Shared}
theorem Ra {D:Addr} {vs:YE} {c0:Nat} {Q:YA} (oD:s.heap.get? D=some (seqObj "list" vs.toArray c0)) (h1:vs.length < 2)
  (h:∀h' c,h'.get? D=some (seqObj "list" vs.toArray c)->(∀b o,b≠D->s.heap.get? b=some o->h'.get? b=some o)->Q .none { s with heap:=h' }):wpAny (model prog w) A (call (.builtin "list.sort") [.ref D]) Q E s:=by
 have h2:vs.toArray.size < 2:=by rw[QaZ];exact h1
 have hz:vs.length<=sizeLine:=QbY (Aq (by omega));refine Qbi slot_list_sort ⟨_,oD,rq⟩ entry_list_sort ?_ (args_list_sort _);rw[list_sort_plain];refine Qcg (listItems_at (a:=D) oD rfl ?_);refine Qcg (listUpdate_at (a:=D) oD rfl ?_ (by rw[QaZ];exact hz) (Qce _));obtain⟨e1,o1⟩ : ∃e1,(s.heap.update D (Obj.mapSeq λ_=>(#[]:Array Value))).get? D=some (seqObj "list" #[] e1):=⟨_,get?_update_seq oD λ_=>#[]⟩;have k3:∀b o,b≠D->s.heap.get? b=some o->(s.heap.update D (Obj.mapSeq λ_=>(#[]:Array Value))).get? b=some o:=λb o nb q=>by rw[Qap _ _ (Ne.symm nb)];exact q
 have zip2:(arrOf (SortSt.mk' general' (vs.toArray.zip vs.toArray) #[] 7 none)).map (·.2)=vs.toArray:=by
  show (vs.toArray.zip vs.toArray).map (·.2)=vs.toArray;apply Array.toList_inj.mp;simp[Array.toList_zip,List.map_snd_zip]
 dsimp only;generalize s.heap.update D (Obj.mapSeq λ_=>(#[]:Array Value))=g3 at o1 k3 ⊢;refine Qcg (seqEpoch_at (a:=D) o1 rfl ?_);refine Qcg (wpAny_newTuple ?_ (by simpa using hz));refine Qcg (wpAny_newList (items:=[]) ?_ (Qce _));refine QbS ?_;have o5:∀x y:Obj,((g3.push x).push y).get? D=some (seqObj "list" #[] e1):=λx y=>Qao _ (Qao _ o1);have k5:∀x y:Obj,∀b o,b≠D->s.heap.get? b=some o->((g3.push x).push y).get? b=some o:=λx y b o nb q=>Qao _ (Qao _ (k3 b o nb q));dsimp only;rw[if_pos h2,if_pos h2];refine Qcg (Qch ?_);rw[StateT.run_pure];refine Qcg (Qch ?_);dsimp only;refine Qcg (seqEpoch_at (a:=D) (o5 _ _) rfl ?_);rw[zip2];refine Qcg (listUpdate_at (a:=D) (o5 _ _) rfl ?_ (Qce _) (by first | (rw[QaZ];exact hz) | (rw[QaZ];omega)))
 simp only[bne_self_eq_false,QaU,if_false];obtain⟨c,oF⟩ : ∃c,(((g3.push { cls:=.type "tuple",data:=.seq vs.toArray }).push { cls:=.type "list",data:=.seq #[] }).update D (Obj.mapSeq λ_=>vs.toArray)).get? D=some (seqObj "list" vs.toArray c):=⟨_,get?_update_seq (o5 _ _) λ_=>vs.toArray⟩;refine Qch ⟨_,rq,h _ c oF λb o nb q=>?_⟩;rw[Qap _ _ (Ne.symm nb)];exact k5 _ _ b o nb q
end
theorem K6 {H:Hp}:∀{kvs:YL} {us:YE},us.length=kvs.length->(∀(j:Nat) (u:Value),us[j]?=some u->∃kv:List Key×V,kvs[j]?=some kv/\RelV kv.2 u)->Vals (kvs.map (·.2)) us
 | [],[],_,_=>.nil
 | [],_::_,h,_=>by simp at h
 | _::_,[],h,_=>by simp at h
 | kv::r,u::us,h,g=>by
  obtain⟨kv',e,q⟩:=g 0 u rfl;cases e;exact .cons q (K6 (H:=H) (kvs:=r) (us:=us) (by simpa using h) λj u hu=>by
   obtain⟨kv',e,q⟩:=g (j+1) u (by simpa using hu);exact⟨kv',by simpa using e,q⟩)
def Zr (K:YD) (td:TE):TE:=fun Z H Q=>td Z H λx H1=>∃(a:Addr) (kvs:YL) (ks:List Int),x=.ref a/\H1 a=some (.dT kvs)/\kvs.length < 64/\Paired (Ez K H1) (kvs.map (·.2)) ks/\ks.Nodup /\
 ∀(is:List Nat) l,is.Perm (List.range kvs.length)->(is.map λi=>ks.getD i 0).Pairwise (· < ·)->H1 l=none->Q (.ref l) (upd H1 l (.lst (is.map λi=>(kvs.map (·.2)).getD i .non)))
theorem QX {X:Cx} {d:Expr} {td:TE} {q apos cpos pos2:Pos} (hc:X.calm=true) (hg:Gl X "sorted") (hm:X.mg "sorted"=none) (hd:PE X d td) (hbase:attributeBase d "values" X.env (eval d X.env)=eval d X.env:=by rfl) (hline:(apos.endLine == cpos.line)=true:=by rfl)
  (hs0:starEach [.Call (.Attribute d "values" apos) [] [] cpos] X.env=[(false,eval (.Call (.Attribute d "values" apos) [] [] cpos) X.env)]:=by rfl) :
  PE X (.Call (.Name "sorted" q) [.Call (.Attribute d "values" apos) [] [] cpos] [] pos2) (Zr X.K td):=by
 intro jb s Z H Q I h;have inner:wpAny (model X.prog X.w) X.A (eval (.Call (.Attribute d "values" apos) [] [] cpos) X.env) (λv s1=>∃(s0:Shared) (H1:Hp) (a:Addr) (kvs:YL) (ks:List Int),v=.ref s0.heap.objs.size/\s1={ s0 with heap:=s0.heap.push { cls:=.type "dict_values",data:=.fields #[.ref a] } }/\Inv X jb Z H1 s0/\H1 a=some (.dT kvs)/\kvs.length < 64/\Paired (Ez X.K H1) (kvs.map (·.2)) ks/\ks.Nodup /\
   ∀(is:List Nat) l,is.Perm (List.range kvs.length)->(is.map λi=>ks.getD i 0).Pairwise (· < ·)->H1 l=none->Q (.ref l) (upd H1 l (.lst (is.map λi=>(kvs.map (·.2)).getD i .non)))) X.xe s:=by
  refine wpAny_Call_method0_late hbase hline (thn (hd jb s Z H _ I h) λv s1 zz=>?_);obtain⟨x,H1,I1,r1,a,kvs,ks,ex,e,h64,hK,hnd,q⟩:=zz;subst ex;cases r1;obtain⟨t1,t2,hsm⟩:=Vj I1 (.inr ⟨kvs,.inl e⟩);obtain⟨_,_,xs,h3,ob,es,ep,h4,h5,h6,h7,_⟩:=(show Bd X.prog X.w H1 s1.heap a (.dT kvs) from I1.hok a _ e)
  refine⟨"dict","dict.values",F.plainAttrs_dict,F.slot_dict_values,F.type_dict_values,t1,t2,Calls.callWith_builtin rfl (PySem.evalArgs_none ?_)⟩;exact call_meetsIn F.slot_dict_values t1 F.entry_dict_values (F.args_dict_values_1 _) (Sy (es:=es) (ep:=ep) hsm) ⟨⟨ob,h4,h5,h6⟩,s1,H1,a,kvs,ks,rq,rq,I1,e,h64,hK,hnd,q⟩
 refine QaS (Eu I hg hm (u:=.builtin "sorted") (by trivial) ?_);refine PyProof.Rows.callWith_builtin1 (Q:=EP X jb Z Q) ?_ hs0 rfl;rw[hs0];show wpAny _ _ (spliced ((false,eval (.Call (.Attribute d "values" apos) [] [] cpos) X.env)::backTo pos2 [])) _ _ s;refine QaX (thn inner λv s1 zz=>?_);obtain⟨s0,H1,a,kvs,ks,e,e1,I1,ea,h64,hK,hnd,q⟩:=zz;subst e e1;refine Calls.spliced_nil ?_;obtain⟨_,_,xs,h3,ob,es,ep,h4,h5,h6,h7,_⟩:=(show Bd X.prog X.w H1 s0.heap a (.dT kvs) from I1.hok a _ ea)
 obtain⟨hes,rel⟩:=Vc h3 h7;obtain⟨m,hn,_⟩:=id I1.loc;have cH:∀b o,s0.heap.get? b=some o->(s0.heap.push { cls:=.type "dict_values",data:=.fields #[.ref a] }).get? b=some o:=λb o e=>Qao _ e;refine PySem.W.kdu_sorted (s:={ s0 with heap:=s0.heap.push { cls:=.type "dict_values",data:=.fields #[.ref a] } }) (Wd (es:=es) (ep:=ep)) (I1.ok.hd hc) ((Att.Qt hn).push _) (News.push (Att.Qt hn) (Qd (g:=Att.Js s0.heap) (h:=s0.heap) (L:=X.env.locals)) _ rfl)
  ⟨⟨_,QaD _ rfl,rq,rq⟩,ob,cH _ _ h4,h5,h6⟩ (by rw[hes];exact QbY (Aq (by omega))) λD h' tk us F' N' hD hl hP=>?_
 have rv:Vals (kvs.map (·.2)) us:=K6 (H:=H1) (by rw[hl,hes]) λj u hu=>by
  obtain⟨en,hen,e2⟩:=hP j u hu;have hj:j < kvs.length:=by
   have:=(Qag.mp hen).1;omega
  obtain⟨b,en',h8,_,_,h9⟩:=rel j kvs[j] (Qam hj);rw[hen] at h8;cases h8;exact⟨kvs[j],Qam hj,by rw[e2];exact h9⟩
 have hkl:(kvs.map (·.2)).length=ks.length:=QbO hK;have hlen:(kvs.map (·.2)).length=us.length:=rv.length;have hml:(kvs.map (·.2)).length=kvs.length:=Qbu _;have kp:∀b o,b≠X.env.locals->s0.heap.get? b=some o->h'.get? b=some o:=λb o hb e=>(N' (b,o) (Qax _ (Qax _ (Eh hb (Att.Ea _ _) e)))).1;have nD:∀b o,s0.heap.get? b=some o->b≠D:=λb o e z=>by
  have h1:=hD _ (QaP ..);have h2:=QbU e;rw[z] at h2;exact QbQ _ (Nat.lt_trans h1 h2)
 by_cases h2:2<=us.length
 ·refine PySem.W.kat_lsort F' N' (.head λq hq=>QbV (hD q hq)) (vs:=us) (by simp) h2 (by omega) λe1 h'' F'' N''=>?_;have kp':∀b o,b≠X.env.locals->s0.heap.get? b=some o->h''.get? b=some o:=λb o hb e=>(N'' (b,o) (Qax _ (Qax _ (Eh hb (Att.Ea _ _) e)))).1;refine K9 I1 (λb o hb e=>kp' b o (XC I1 b hb) e) rv hK hnd h2 λpp hp LQ=>?_;refine PySem.W.KasFin.intro F'' N'' (.head λq hq=>QbV (hD q hq)) λh2' c F2 N2=>?_;have kp2:∀b o,b≠X.env.locals->s0.heap.get? b=some o->h2'.get? b=some o:=λb o hb e=>(N2 (b,o) (Qax _ (Qax _ (Eh hb (Att.Ea _ _) e)))).1;obtain⟨oD,DL,_⟩:=N2 (D,_) (QaP ..);have hmem:∀i∈pp.toList,i < (kvs.map (·.2)).length:=λi hi=>by rw[hlen];exact QbK.mp (hp.mem_iff.mp hi)
  have rv2:Vals (pp.toList.map λi=>(kvs.map (·.2)).getD i .non) (pp.toList.map λi=>us.getD i Value.none):=HN V.non Value.none rv hmem;have hpl:pp.toList.length=kvs.length:=by rw[hp.length_eq,Qbf,<-hlen,hml]
  obtain⟨hDn,I2⟩:=Iv (tk:=tk) I1 hn F2.ns kp2 nD oD rv2 (by rw[Qbu,hpl];exact h64);exact⟨.ref D,_,I2,rq,q _ D (by rw[<-hml,hlen];exact hp) LQ hDn⟩
 ·refine Ra (c0:=0) (N' (D,_) (QaP ..)).1 (by omega) λh'' c oD kk=>?_;have kp2:∀b o,b≠X.env.locals->s0.heap.get? b=some o->h''.get? b=some o:=λb o hb e=>kk b o (nD b o e) (kp b o hb e);have hn2:h''.Ns X.env.locals m:=by
   obtain⟨o,es',ep',g1,g2⟩:=F'.ns;exact⟨o,es',ep',kk _ _ (N' (D,_) (QaP ..)).2.1.symm g1,g2⟩
  obtain⟨hDn,I2⟩:=Iv (tk:=tk) I1 hn hn2 kp2 nD oD rv (by omega);refine⟨.ref D,_,I2,rq,?_⟩;have z:=q (List.range kvs.length) D (List.Perm.refl _) (Lb (by omega) (by omega)) hDn;rw[<-hml,range_getD] at z;exact z
end L2
namespace L2
open PySem PySem.Spec PyProof.Rows
section
variable {prog:Program} {w:World} {A:Around} {s:Shared} {R:Result->Shared->Prop}
def bestOf:Option (Int×Tok)->Array Value
 | none=>#[]
 | some b=>#[.int b.1 b.2,.int b.1 b.2]
def QM (xs:Array (Int×Tok)) (j:Nat):Option (Int×Tok)->Prop
 | none=>j=0
 | some b=>(∃i,i < j/\xs[i]?=some b)/\∀i c,i < j->xs[i]?=some c->c.1<=b.1
theorem YZ {I:Addr} {xs:Array (Int×Tok)} {G:Array GenState->Array GenState->Prop} {wr fp:List Addr} {St:Nat->Shared->Prop} (W:WalksS prog w A.in1 I fp wr G xs.size (λi v=>(intItems xs)[i]?=some v) St) (S:Addr) (hS0:S∉fp) (d:Value)
  (fin:∀b s',QM xs xs.size b->Moved (S::wr) G s s'->R (.ok (.ret ((b.map λb=>Value.int b.1 b.2).getD d))) s') :
  ∀(k j:Nat) (b:Option (Int×Tok)) (s1:Shared) (c:Nat),j+k=xs.size->St j s1->QM xs j b->Moved (S::wr) G s s1->s1.heap.get? S=some (seqObj "list" (bestOf b) c)->codeAny (model prog w) A (.builtin "max.loop" ⟨[.ref I,.none,.ref S],[(Str.ofString "default",d)]⟩) R s1:=by
 have out:S∉wr:=λz=>hS0 (W.sub _ z);have more:∀b∈wr,b∈S::wr:=λb z=>.tail _ z;have far:∀{b:Addr},b∉S::wr->S≠b:=λz e=>z (by rw[e];exact .head _);have fr0:∀{b:Addr},b∈fp->S≠b:=λz e=>hS0 (by rw[e];exact z);have nm:(toString "max"++toString ".loop":String)="max.loop":=by decide
 intro k
 induction k with
 | zero=>
  intro j b s1 c hj hst hb hm0 hS;have ej:j=xs.size:=by omega
  subst ej;refine codeAny_builtin PySem.F.entry_max_loop ?_;rw[Around.under_plainId Qar _];show wpAny _ A.in1 (seqItems? (.ref S) >>= _) _ _ s1;refine Qcg (QbM hS rfl ?_);show wpAny _ A.in1 (tryCatch (pyNext (.ref I)) _ >>= _) _ _ s1;refine Qcg (wpAny_tryCatch (W.done s1 _ _ hst λs2 m2=>?_));have hS2:=m2.heap S _ out hS;cases b with
  | none=>
   refine Qcg (Qcj (Qch ?_));exact fin none s2 hb (Moved.trans W.gtrans hm0 (m2.mono more))
  | some b=>
   show wpAny _ A.in1 (updateSeq S (λ_=>#[]) >>= _) _ _ _;refine Qcg (wpAny_updateSeq (hz:=by show 2<=sizeLine;decide) hS2 rfl (Qcg (wpAny_letGo (Qch ?_))));exact fin (some b) _ hb (Moved.trans W.gtrans hm0 ((m2.mono more).then_heap (tk:=s2.toks) (Qcd _) λa o hb e=>(Qap _ _ (far hb)).trans e))
 | succ k ih=>
  intro j b s1 c hj hst hb hm0 hS;have lt:j < xs.size:=by omega
  refine codeAny_builtin PySem.F.entry_max_loop ?_;rw[Around.under_plainId Qar _];show wpAny _ A.in1 (seqItems? (.ref S) >>= _) _ _ s1;refine Qcg (QbM hS rfl ?_);show wpAny _ A.in1 (tryCatch (pyNext (.ref I)) _ >>= _) _ _ s1;refine Qcg (wpAny_tryCatch (W.item j s1 _ _ lt hst λv s2 hv hst2 m2=>?_));have hS2:=m2.heap S _ out hS;have hx:xs[j]?=some xs[j]:=by simp[lt]
  have ev:v=.int xs[j].1 xs[j].2:=by
   simp only[intItems,Array.getElem?_map,hx,Option.map_some,Option.some.injEq] at hv;exact hv.symm
  subst ev;have m12:=Moved.trans W.gtrans hm0 (m2.mono more);have m13:∀f,Moved (S::wr) G s { s2 with heap:=s2.heap.update S f }:=λf=>Moved.trans W.gtrans hm0 ((m2.mono more).then_heap (tk:=s2.toks) (Qcd _) λa o hb e=>(Qap _ _ (far hb)).trans e);have st3:∀f,St (j+1) { s2 with heap:=s2.heap.update S f }:=λf=>W.frame _ s2 _ s2.toks hst2 (Qcd _) λa z o e=>(Qap _ _ (fr0 z)).trans e;have oS:∀x:Value,∃c',(s2.heap.update S (Obj.mapSeq λ_=>#[x,x])).get? S=some (seqObj "list" #[x,x] c'):=λx=>⟨_,get?_update_seq hS2 λ_=>#[x,x]⟩;cases b with
  | none=>
   have e0:j=0:=hb;refine Qcg (Qch ?_);refine Qcg (wpAny_updateSeq hS2 rfl ?_);rw[nm];obtain⟨c',o'⟩:=oS (.int xs[j].1 xs[j].2);refine Qch ⟨plainId_quiet Qar _,ih (j+1) (some xs[j]) _ c' (by omega) (st3 _) ⟨⟨j,Qbq _,hx⟩,λi q hi hq=>?_⟩ (m13 _) o'⟩;have:i=j:=by omega
   subst this;rw[hx] at hq;cases hq;exact Int.le_refl _
  | some b=>
   obtain⟨⟨i0,hi0,hx0⟩,T4⟩:=hb;refine Qcg (Qch ?_);show wpAny _ A.in1 (tryCatch (holding [_,_] (richCompare .Gt _ _ >>= _)) _ >>= _) _ _ _;refine Qcg (wpAny_tryCatch (QbS (Qcg (CmpOf.ints_gt (numAt xs) (λ_ _=>intItems_at) j i0 _ (Value.int b.1 b.2) _ _ _ hv (by simp[intItems,Array.getElem?_map,hx0]) ?_))));refine Qcg (QbS (Qbc (Qcg (wpAny_letGo (Qch ?_)))));have n1:numAt xs j=xs[j].1:=by simp[numAt,hx]
   have n2:numAt xs i0=b.1:=by simp[numAt,hx0]
   show wpAny _ _ (if decide (numAt xs j > numAt xs i0)=true then _ else _) _ _ _
   rw[n1,n2];by_cases hgt:xs[j].1 > b.1
   ·rw[if_pos (QbJ hgt)];refine Qcg (wpAny_updateSeq (hz:=by show 2<=sizeLine;decide) hS2 rfl (Qcg (wpAny_letGo ?_)));rw[nm];obtain⟨c',o'⟩:=oS (.int xs[j].1 xs[j].2);refine Qch ⟨plainId_quiet Qar _,ih (j+1) (some xs[j]) _ c' (by omega) (st3 _) ⟨⟨j,Qbq _,hx⟩,λi q hi hq=>?_⟩ (m13 _) o'⟩;by_cases e:i=j
    ·subst e;rw[hx] at hq;cases hq;exact Int.le_refl _
    ·exact Int.le_of_lt (Int.lt_of_le_of_lt (T4 i q (by omega) hq) hgt)
   ·rw[if_neg (by rw[Qbv hgt];exact QaK)];refine Qcg (wpAny_letGo ?_);rw[nm];refine Qch ⟨plainId_quiet Qar _,ih (j+1) (some b) _ c (by omega) hst2 ⟨⟨i0,Nat.lt_succ_of_lt hi0,hx0⟩,λi q hi hq=>?_⟩ m12 hS2⟩;by_cases e:i=j
    ·subst e;rw[hx] at hq;cases hq;exact Int.not_lt.mp hgt
    ·exact T4 i q (by omega) hq
theorem Wx (a v:Value):argsOk "max" ⟨[a],[(Str.ofString "default",v)]⟩:=by unfold argsOk;kernel_rfl
theorem U8 {E:YA} {l:Addr} {xs:Array (Int×Tok)} {d:Value} {Q:YA} (hh:A.handled=none) (hl:s.heap.IsList l (intItems xs))
  (h:∀b h' tk,QM xs xs.size b->(∀b o,s.heap.get? b=some o->h'.get? b=some o)->Q ((b.map λb=>Value.int b.1 b.2).getD d) { s with heap:=h',toks:=tk }) :
  wpAny (model prog w) A (call (.builtin "max") [.ref l] [(Str.ofString "default",d)]) Q E s:=by
 have nm:(toString "max"++toString ".loop":String)="max.loop":=by decide
 refine PyProof.Rows.kmk_tree PySem.F.kind_max PySem.F.plain_max PySem.F.entry_max (Wx _ _) ?_;refine Qcg (wpAny_of_eq (show Builtin.Builtins.bindParams "max" ["key","default"] 0 ⟨[],[(Str.ofString "default",d)]⟩=pure [none,some d] from rfl) ?_)
 refine Qcg (Qch ?_);refine Qcg (iter_intList hl λs2 e st hfp hlI=>?_);refine Qcg (Qbe ?_);rw[nm];have hSf:s2.heap.objs.size∉[s.heap.objs.size,l]:=λhm=>QbQ _ (hfp _ hm);have hxs:(intItems xs).size=xs.size:=by simp[intItems]
 have W:=(Walks.list (prog:=prog) (w:=w) (A:=A.in1) hh s.heap.objs.size l hlI (intItems xs)).toS;rw[hxs] at W;refine Qch ⟨plainId_quiet Qar _,YZ (s:={ s2 with heap:=s2.heap.push { cls:=.type "list",data:=.seq #[] } }) W s2.heap.objs.size hSf d (λb s' hb hm=>?_) xs.size 0 none _ 0 (by omega) (W.frame 0 s2 _ s2.toks st (Qcd _) λb _ o e=>Qao _ e) rfl ⟨λ_ _ _ e=>e,rq,rq,rq,Qcd _⟩ (QaD _ rfl)⟩;rw[Moved.eq_with hm,e];refine h b s'.heap s'.toks hb λa o ea=>hm.heap a o (λhx=>?_) (Qao _ (by rw[e];exact Qao _ ea));have l1:=QbU ea;rcases QbN.mp hx with z | hx
 ·rw[z,e] at l1;exact absurd l1 (by show ¬(s.heap.push _).objs.size < _;rw[QbL];omega)
 ·rw[QaJ.mp hx] at l1;exact QbQ _ l1
end
def bU (K:YD) (te td:TE):TE:=fun Z H Q=>te Z H λx H1=>td Z H1 λz H2=>∃(p:Addr) (ns:List Int) (d:Int),x=.ref p/\z=.int d/\SqL K H2 p (ns.map V.int)/\(ns=[]->Q (.int d) H2)/\∀M,M∈ns->(∀a,a∈ns->a<=M)->Q (.int M) H2
theorem Yp {X:Cx} {e de:Expr} {te td:TE} {p pos kp:Pos} (hc:X.calm=true) (hg:Gl X "max") (hm:X.mg "max"=none) (he:PE X e te) (hd:PE X de td) (hs:starEach [e] X.env=[(false,eval e X.env)]:=by rfl)
  (hall:(backToKw pos (keywordEach [⟨some "default",de,kp⟩] X.env)).all (·.1.isSome)=true:=by rfl) (hkw:(backToKw pos (keywordEach [⟨some "default",de,kp⟩] X.env)).any (·.1.isNone)=false:=by rfl)
  (hks:(backToKw pos (keywordEach [⟨some "default",de,kp⟩] X.env)).filterMap (·.1)=(["default"]:YF):=by rfl) :
  PE X (.Call (.Name "max" p) [e] [⟨some "default",de,kp⟩] pos) (bU X.K te td):=by
 intro jb s Z H Q I h;refine QaS (Eu I hg hm (u:=.builtin "max") (by trivial) (PyProof.Rows.callWith_kw (thn ((Aa he Ab (by rw[hs];rfl)) pos jb s Z H (λvs H1=>match vs with | [x]=>td Z H1 λz H2=>∃(p:Addr) (ns:List Int) (d:Int),x=.ref p/\z=.int d/\SqL X.K H2 p (ns.map V.int)/\(ns=[]->Q (.int d) H2)/\∀M,M∈ns->(∀a,a∈ns->a<=M)->Q (.int M) H2 | _=>False) I h) λus s1 ⟨vs,H1,I1,r1,q1⟩=>?_) (by rw[hs];rfl) (by rw[hs];rfl) hall hkw))
 cases r1 with
 | nil=>exact False.elim q1
 | cons r rr=>
  cases rr with
  | cons _ _=>exact False.elim q1
  | nil=>
   refine thn ((Yl hd ZK) pos jb s1 Z H1 (λks H2=>match ks with | [z]=>∃(p:Addr) (ns:List Int) (d:Int),_=V.ref p/\z=.int d/\SqL X.K H2 p (ns.map V.int)/\(ns=[]->Q (.int d) H2)/\∀M,M∈ns->(∀a,a∈ns->a<=M)->Q (.int M) H2 | _=>False) I1 q1) λws s2 zz=>?_
   obtain⟨zs,H2,I2,rz,q2⟩:=zz;rw[hks];cases rz with
   | nil=>exact False.elim q2
   | cons rz1 rz2=>
    cases rz2 with
    | cons _ _=>exact False.elim q2
    | nil=>
     obtain⟨a,ns,d,ex,ez,hq,q3,q4⟩:=q2;subst ex ez;obtain⟨t,rfl⟩:=rz1;cases r;obtain⟨its,rv,pl,hz⟩:=I2.list hq;have hi:IntsAre its ns:=intsAre_of rv;obtain⟨xs,ei⟩:=hi.allInts.items;have hl:=pl.isList;rw[ei] at hl;have hns:ns=xs.toList.map (·.1):=by rw[<-hi.numsOf,<-nums_intItems,<-ei]
     refine U8 (I2.ok.hd hc) hl λb h' tk hb hk=>?_;cases b with
     | none=>
      refine⟨.int d,H2,I2.kept hk,⟨t,rq⟩,q3 ?_⟩;have:xs.size=0:=hb;rw[hns,Array.eq_empty_of_size_eq_zero this];rfl
     | some b=>
      obtain⟨⟨i,hi',hx⟩,T4⟩:=hb;refine⟨.int b.1,H2,I2.kept hk,⟨b.2,rq⟩,q4 b.1 ?_ λc hc'=>?_⟩
      ·rw[hns];exact QbX.mpr ⟨b,Array.mem_toList_iff.mpr (Array.mem_of_getElem? hx),rq⟩
      ·rw[hns] at hc';obtain⟨c',h1,rfl⟩:=QbX.mp hc';obtain⟨j,hj⟩:=QaA h1;rw[Array.getElem?_toList] at hj;exact T4 j c' (Qag.mp hj).1 hj
theorem ZS {X:Cx} (hu:X.A.units+64 < cLine):OpR X (compareOp .Lt) (λx y H Q=>∃k k',Ez X.K H x k/\Ez X.K H y k'/\k≠k'/\Q (.bl (decide (k < k'))) H):=by
 intro jb s Z H x y v u Q I rx ry h;obtain⟨k,k',kx,ky,ne,q⟩:=h;obtain⟨ax,ox,wx,nx,a,b,c,z,t1,t2,t3,t4,rfl,hx,cx,dx,fx,Cx⟩:=JX (h':=s.heap) I (λ_ _ _ e=>e) rx kx;obtain⟨ay,oy,wy,ny,a',b',c',z',u1,u2,u3,u4,rfl,hy,cy,dy,fy,Cy⟩:=JX (h':=s.heap) I (λ_ _ _ e=>e) ry ky;have Tx:s.TypeIs (.ref ax) "tuple":=⟨ox,hx,cx⟩;have Ty:s.TypeIs (.ref ay) "tuple":=⟨oy,hy,cy⟩;show wpAny _ _ (richCompare .Lt (.ref ax) (.ref ay)) _ _ _;refine wpAny_richCompare_same_room (op:=.Lt) Tx Ty F.slot_tuple_lt (Qbi F.slot_tuple_lt Tx F.entry_tuple_lt ?_ (F.args_tuple_lt_2 _ _)) (by omega);have x1:=Cx.b0;have x2:=Cx.b1;have x3:=Cx.c0;have x4:=Cx.c1;have x5:=Cx.k;have y1:=Cy.b0;have y2:=Cy.b1;have y3:=Cy.c0;have y4:=Cy.c1;have y5:=Cy.k;show wpAny _ _ (isInstance (.ref ay) (.type "tuple") >>= _) _ _ s;refine Qcg (wpAny_isInstance Ty isSubtype_tuple_tuple ?_);rw[if_neg (by exact QaK)];refine Qcg (wpAny_tupleItemsOf hx dx (Qcg (wpAny_tupleItemsOf hy dy (Qcg ?_))));rw[fx,fy];simp only[QaR,List.forIn_cons];have done:∀{Q':YA} {p q:Int} {tp tq:Tok},Q' (.bool (decide (p < q))) s->wpAny (model X.prog X.w) X.A.in1 (richCompare .Lt (Value.int p tp) (Value.int q tq)) Q' X.xe s:=λh=>lt_int h;have fin:∀b':Bool,b'=decide (k < k')->∃v,PySem.Fin.done (Flow.ret (Value.bool b'))=PySem.Fin.done (Flow.ret v)/\v≠Value.notImplemented/\EP X jb Z Q v s:=λb' e=>⟨_,rq,(λz=>nomatch z),.bl b',H,I,rq,by rw[e];exact q⟩;refine Qcg (Qcg (Qbn ?_));by_cases ha:a=a'
 ·rw[show (a == a')=true by rw[ha];exact Qbp a'];refine Qch ?_;dsimp only;refine Qcg (Qcg (Qbn ?_));by_cases hb:b=b'
  ·rw[show (b == b')=true by rw[hb];exact Qbp b'];refine Qch ?_;dsimp only;refine Qcg (Qcg (Qbn ?_));have hc:c≠c':=λz=>ne (by rw[x5,y5,ha,hb,z]);rw[show (c == c')=false from QaE.mpr hc]
   refine Qcg (Qcj (Qcg (done (Qcg (Qch (Qch (Qch (Qch ?_))))))));exact fin _ (by rw[QbA,QaO,QaO];subst ha hb;constructor <;> intro h <;> omega)
  ·rw[show (b == b')=false from QaE.mpr hb]
   refine Qcg (Qcj (Qcg (done (Qcg (Qch (Qch (Qch (Qch ?_))))))));exact fin _ (by rw[QbA,QaO,QaO];subst ha;constructor <;> intro h <;> omega)
 ·rw[show (a == a')=false from QaE.mpr ha]
  refine Qcg (Qcj (Qcg (done (Qcg (Qch (Qch (Qch (Qch ?_))))))));exact fin _ (by rw[QbA,QaO,QaO];constructor <;> intro h <;> omega)
def Sh (ta:TA):TE:=fun Z H Q=>ta Z H λvs H1=>∃j:Int,vs=[.int j]/\0<=j/\j<=1000/\∀p,H1 p=none->Q (.ref p) (upd H1 p (.lst ((List.range j.toNat).map λk:Nat=>V.int (k:Int))))
theorem Py {X:Cx} {a:Expr} {ta:TA} {p q pos pos2:Pos} (hc:X.calm=true) (hgt:Gl X "list") (hmt:X.mg "list"=none) (hg:Gl X "range") (hm:X.mg "range"=none) (ha:PA X [a] ta) (hs:starEach [a] X.env=[(false,eval a X.env)]:=by rfl)
  (hs0:starEach [.Call (.Name "range" p) [a] [] pos] X.env=[(false,eval (.Call (.Name "range" p) [a] [] pos) X.env)]:=by rfl):PE X (.Call (.Name "list" q) [.Call (.Name "range" p) [a] [] pos] [] pos2) (Sh ta):=by
 intro jb s Z H Q I h;have inner:wpAny (model X.prog X.w) X.A (eval (.Call (.Name "range" p) [a] [] pos) X.env) (λv s1=>∃(H1:Hp) (j:Int) (r:Addr) (t u w:Tok),v=.ref r/\Inv X jb Z H1 s1/\IsRange s1.heap r 0 j 1 t u w/\0<=j/\j<=1000 /\
   ∀p,H1 p=none->Q (.ref p) (upd H1 p (.lst ((List.range j.toNat).map λk:Nat=>V.int (k:Int))))) X.xe s:=by
  refine Call_ (Eu I hg hm boot_range (Qae (thn (ha pos jb s Z H _ I h) λus s1 zz=>?_) hs rfl));obtain⟨vs,H1,I1,r1,q1⟩:=zz;obtain⟨j,e,j0,j1,q⟩:=q1;subst e;cases r1 with
  | cons r rr=>
   cases rr;obtain⟨t,rfl⟩:=r;exact call_range_1 ⟨H1,j,_,_,t,_,rq,I1.kept (t':=s1.toks+1+1) λb o e=>Qao _ e,IsRange.new ..,j0,j1,q⟩
 refine Call_ (Eu I hgt hmt (u:=.type "list") (by trivial) (Qae (Q:=EP X jb Z Q) ?_ hs0 rfl));rw[hs0];show wpAny _ _ (spliced ((false,eval (.Call (.Name "range" p) [a] [] pos) X.env)::backTo pos2 [])) _ _ s;refine QaX (thn inner λv s1 zz=>?_);obtain⟨H1,j,r,t,u,w,e,I1,hr,j0,j1,q⟩:=zz;subst e;refine Calls.spliced_nil ?_;have hrs:Builtin.Range.rangeSize 0 j 1=((j.toNat:Nat):Int):=by rw[rangeSize_one];split <;> omega
 refine call_list_range (I1.ok.hd hc) hr (small_one (by omega) (by omega) (by omega) (by omega)) hrs (by omega) λh' tk acc c' hk hS hacc=>?_;have rv:=RX hacc;have e0:((List.range j.toNat).map λk:Nat=>V.int ((0:Int)+k))=(List.range j.toNat).map λk:Nat=>V.int (k:Int):=List.map_congr_left λk _=>by rw[QbZ]
 rw[e0] at rv;have I3:Inv X jb Z (upd H1 s1.heap.objs.size (.lst ((List.range j.toNat).map λk:Nat=>V.int (k:Int)))) { s1 with heap:=h',toks:=tk }:=
  I1.laid (t':=tk) hk (Qcd _) (show Bd X.prog X.w _ _ _ (.lst _) from⟨by rw[Qbu,Qbf];exact QbY (Aq (by omega)),acc.toList,c',rv,by simpa using hS⟩)
 exact⟨.ref s1.heap.objs.size,_,I3,rq,q _ (I1.hok.fresh (Qcd _))⟩
end L2
namespace K42
open PySem L2
def top (i:Nat):Stmt:=PySem.Challenge.pw_warnloop_k42_whole_one_log.main.body.getD i (.Pass ⟨0,0,0,0⟩)
theorem Ci:bootBuiltins "isinstance"=some (.builtin "isinstance"):=by trivial
theorem QD:bootBuiltins "int"=some (.type "int"):=by trivial
theorem RT:bootBuiltins "bool"=some (.type "bool"):=by trivial
theorem Xg:bootBuiltins "tuple"=some (.type "tuple"):=by trivial
theorem Kc:bootBuiltins "list"=some (.type "list"):=by trivial
theorem VL:bootBuiltins "str"=some (.type "str"):=by trivial
theorem CQ:bootBuiltins "len"=some (.builtin "len"):=by trivial
theorem Io:bootBuiltins "all"=some (.builtin "all"):=by trivial
theorem VP:bootBuiltins "abs"=some (.builtin "abs"):=by trivial
theorem bD:bootBuiltins "max"=some (.builtin "max"):=by trivial
theorem Nu:bootBuiltins "sorted"=some (.builtin "sorted"):=by trivial
theorem VN:bootBuiltins "min"=some (.builtin "min"):=by trivial
structure Nm (mg:YB):Prop where
 isinstance:mg "isinstance"=none
 int:mg "int"=none
 bool:mg "bool"=none
 tuple:mg "tuple"=none
 list:mg "list"=none
 str:mg "str"=none
 len:mg "len"=none
 all:mg "all"=none
 abs:mg "abs"=none
 max:mg "max"=none
 min:mg "min"=none
 range:mg "range"=none
 sorted:mg "sorted"=none
 any:mg "any"=none
 sum:mg "sum"=none
 enumerate:mg "enumerate"=none
 zip:mg "zip"=none
 reversed:mg "reversed"=none
 dict:mg "dict"=none
 ord:mg "ord"=none
abbrev Hf:Stmt:=top 17
abbrev Ik:YF:=["_law_script","_law_k"]
theorem Kw:Az ["_law_script","_law_k","_law_cell"] Ik (Ad Hf):=by ac_rfl
abbrev Gp:Stmt:=top 18
abbrev Ep:YF:=["_law_bag_here","_law_many"]
theorem Fz:Az ["_law_bag_here","_law_many","_law_digit","_law_primes","_law_step","_law_base","_law_found"] Ep (Ad Gp):=by ac_rfl
theorem Vh (v:V):isW v=(isI v&&!isB v):=by cases v <;> rfl
def Bv (H:Hp) (b:Addr) (n:Nat):Prop:=∃x y z:Int,H b=some (.lst [.int x,.int y,.int z])/\0<=x/\0<=y/\y<=4294967296/\0<=z/\z<=n
theorem Bv.same {H H':Hp} {b:Addr} {n:Nat} (h:Bv H b n) (s:Same H H'):Bv H' b n:=by
 obtain⟨x,y,z,e,r⟩:=h;exact⟨x,y,z,s _ _ e,r⟩
theorem Bv.mono {H:Hp} {b:Addr} {n m:Nat} (h:Bv H b n) (l:n<=m):Bv H b m:=by
 obtain⟨x,y,z,e,h1,h2,h3,h4,h5⟩:=h;exact⟨x,y,z,e,h1,h2,h3,h4,by omega⟩
theorem Bv.nb {H:Hp} {b p:Addr} {n:Nat} (h:Bv H b n) (hp:H p=none):b≠p:=by obtain⟨_,_,_,e,_⟩:=h;exact Bm e hp
theorem Bv.Ti {H:Hp} {b:Addr} {n:Nat} (h:Bv H b n):∀xs,H b≠some (.tup xs):=λxs z=>by obtain⟨_,_,_,e,_⟩:=h;rw[e] at z;cases z
theorem Bv.ex {H:Hp} {b:Addr} {n:Nat} (h:Bv H b n):∃o,H b=some o:=by obtain⟨_,_,_,e,_⟩:=h;exact⟨_,e⟩
theorem Bv.Bl {H H':Hp} {a b:Addr} {n:Nat} (h:Bv H b n) (s:Ah a H H') (ne:b≠a):Bv H' b n:=by
 obtain⟨x,y,z,e,r⟩:=h;exact⟨x,y,z,s _ _ e ne,r⟩
theorem Cd {n:Nat} (h:n<=1000):n<=sizeLine:=QbY (Aq h)
inductive Ss (K:YD) (vs:YG) (H:Hp) (Q:VK) (E:XK):Prop
 | mk (a:Addr) (ns:List Int) (k:Int) (_:vs=[.ref a,.int k]) (_:SqL K H a (ns.map V.int)) (_:ns.length<=63) (_:0<=k) (_:k<=100) (_:∀p o,H p=none->Bv (upd H p o) p 0->Q (.ref p) (upd H p o)):Ss K vs H Q E
inductive Ii (vs:YG) (H:Hp) (Q:VK) (E:XK):Prop
 | mk (b:Addr) (n:Nat) (m:Int) (_:vs=[.ref b,.int m]) (_:Bv H b n) (_:n<=10000) (_:0 < m) (_:m < 1073741824) (_:∀r H',0<=r->r < m->Bv H' b (n+1)->Ah b H H'->Q (.int r) H'):Ii vs H Q E
inductive K7 (K:YD) (vs:YG) (H:Hp) (Q:VK) (E:XK):Prop
 | mk (a:Addr) (ns:List Int) (_:vs=[.ref a]) (_:SqL K H a (ns.map V.int)) (_:ns.length<=63) (_:∀H',Q (.bl true) H'):K7 K vs H Q E
theorem at7 {i:Int} (h0:0<=i) (h7:i < 7) {a b c d e f g:Int} (P:Int->Prop) (ha:P a) (hb:P b) (hc:P c) (hd:P d) (he:P e) (hf:P f) (hg:P g):∃p,atI [V.int a,.int b,.int c,.int d,.int e,.int f,.int g] i=some (.int p)/\P p:=by
 have:i=0\/i=1\/i=2\/i=3\/i=4\/i=5\/i=6:=by omega
 rcases this with rfl | rfl | rfl | rfl | rfl | rfl | rfl
 ·exact⟨_,rq,ha⟩
 ·exact⟨_,rq,hb⟩
 ·exact⟨_,rq,hc⟩
 ·exact⟨_,rq,hd⟩
 ·exact⟨_,rq,he⟩
 ·exact⟨_,rq,hf⟩
 ·exact⟨_,rq,hg⟩
theorem aN {x:Int} {b:Bool}:Ub x (if b=true then 1 else 0):=.inr (by cases b <;> exact⟨by decide,by decide⟩)
section
variable {P:Program} {w:World} {K:YD} {mg:YB} {base:Heap}
theorem Wu (C:Code K mg "_law_bag" Hf Ik) (T:Nm mg):Good P w K mg base "_law_bag" 1 Ik (Ss K):=by
 refine C.good Kw (λvs H Q E h=>?_) (λf cdv A outer s H vs Q E hr h=>?_)
 ·obtain⟨a,ns,k,rfl,_⟩:=h;rfl
 obtain⟨a,ns,k,rfl,hS,h63,h0,h1,q⟩:=h;refine⟨_,(Ae (Ba (i:=2) Kw.nd rfl (Or.inl rfl) (Ar Cv (Ar Cv (Ar Es (Ar Es Af (pv 1)) (pv 1)) (Ar Es Af (pv 1))) Af))
 (Ae (Ca (Bw JN (pv 1) (Am Bg rfl T.len CQ (Aa (pv 0) Ab)) (Bo _)) (Ag (Ba (i:=2) Kw.nd rfl (Or.inl rfl) (Bj Br (pv 0) (pv 1) (λ_ _=>rfl)))) Bq)
 (Ag (Bc (Gb (Aa (Ar Es (Am QC rfl T.abs VP (Aa (pv 2) Ab)) (HS VJ rfl T.int QD (Aa (Hg cB (Am QC rfl T.abs VP (Aa (pv 2) Ab)) (Ar Ux Af Af) (Bo _)) Ab))) (Aa (Ar Cv (Ar Et (pv 2) Af) (Ar Es Af (pv 1))) (Aa Af Ab)))))))),?_⟩
 show let R0:TS:=_;let R1:TS:=_;let R2:TS:=Ak (Jj _ R1 _) R0;Ak _ R2 _ _ _;intro R0 R1 R2;refine⟨_,rq,_,_,rq,rq,.inl ⟨by decide,by decide⟩,_,rq,_,_,rq,rq,.inr ⟨by omega,by omega⟩,_,rq,_,_,rq,rq,.inl ⟨by decide,by decide⟩,_,_,rq,rq,_,_,rq,rq,?_⟩;refine⟨_,rq,_,rq,a,_,rq,.inl hS,_,_,rq,rq,_,rq,?_⟩;have hl:(ns.map V.int).length=ns.length:=Qbu _;have fin:∀(c:Int) (p:Addr),H p=none->Q (.ref p) (upd H p (.lst [.int ((if c < 0 then -c else c)*(if decide ((10:Int) ^ (18:Int).toNat<=(if c < 0 then -c else c))=true then 1 else 0)),.int (c % 2147483647+37*k),.int 0])):=λc p hp=>by
  refine q p _ hp ⟨_,_,_,Ac,?_,?_,?_,by omega,by omega⟩
  ·refine Int.mul_nonneg ?_ ?_
   ·split <;> omega
   ·split <;> omega
  ·have:=QbG c (show (2147483647:Int)≠0 by decide);omega
  ·have:=QaT c (show (0:Int) < 2147483647 by decide);omega
 refine MP (λc1=>?_) (λc1=>?_)
 ·have c':k < (((ns.map V.int).length:Nat):Int):=Qbd c1;rw[hl] at c';have hk:k.toNat < ns.length:=by omega
  have hat:atI (ns.map V.int) ((k.toNat:Nat):Int)=some (.int ns[k.toNat]):=Fe (by rw[Qbb];simp[hk]);rw[Int.toNat_of_nonneg h0] at hat;refine⟨_,rq,_,rq,a,_,_,_,rq,rq,hS,hat,?_⟩;exact⟨_,rq,_,rq,_,rq,_,rq,_,_,rq,rq,⟨by decide,by decide,by decide⟩,_,_,rq,rq,.inr ⟨_,rq,_,_,rq,rq,aN,_,rq,_,_,rq,rq,(by show (0:Int) < 2147483647;decide),_,rq,_,_,rq,rq,.inl ⟨by decide,by decide⟩,_,_,rq,rq,
   (by show 3<=sizeLine;decide),λl hl'=>fin _ l hl'⟩⟩
 ·exact⟨_,rq,_,rq,_,rq,_,rq,_,_,rq,rq,⟨by decide,by decide,by decide⟩,_,_,rq,rq,.inr ⟨_,rq,_,_,rq,rq,aN,_,rq,_,_,rq,rq,(by show (0:Int) < 2147483647;decide),_,rq,_,_,rq,rq,.inl ⟨by decide,by decide⟩,_,_,rq,rq,
   (by show 3<=sizeLine;decide),λl hl'=>fin _ l hl'⟩⟩
theorem U0 (C:Code K mg "_law_take" Gp Ep) (T:Nm mg):Good P w K mg base "_law_take" 1 Ep Ii:=by
 refine C.good Fz (λvs H Q E h=>?_) (λf cdv A outer s H vs Q E hr h=>?_)
 ·obtain⟨b,n,m,rfl,_⟩:=h;rfl
 obtain⟨b,n,m,rfl,⟨x,y,z,hb,x0,y0,y1,z0,z1⟩,hn,m0,m1,q⟩:=h;refine⟨_,(Ae (Ca (Bw cA (Bj Br (pv 0) Af (λ_ _=>rfl)) Af (Bo _)) (Ae (Ba (i:=2) Fz.nd rfl (Or.inl rfl) (Ar Et (Bj Br (pv 0) Af (λ_ _=>rfl)) (pv 1)))
 (Ae (Ec (Ar Mw (Bj Br (pv 0) Af (λ_ _=>rfl)) (pv 1)) (Em (pv 0) Af set_list))
 (Ag (Bc (pv 2))))) Bq)
 (Ae (Ba (i:=3) Fz.nd rfl (Or.inl rfl) (@Jq _ _ _ _ _ (@Aa _ _ _ _ _ (@Af _ _ _ _) (@Aa _ _ _ _ _ (@Af _ _ _ _) (@Aa _ _ _ _ _ (@Af _ _ _ _) (@Aa _ _ _ _ _ (@Af _ _ _ _) (@Aa _ _ _ _ _ (@Af _ _ _ _) (@Aa _ _ _ _ _ (@Af _ _ _ _) (@Aa _ _ _ _ _ (@Af _ _ _ _) (@Ab _) Ft) Ft) Ft) Ft) Ft) Ft) Ft)))
 (Ae (Ec (Ar Cv (Bj Br (pv 0) Af (λ_ _=>rfl)) Af) (Em (pv 0) Af set_list))
 (Ae (Ba (i:=4) Fz.nd rfl (Or.inl rfl) (Bj Br (pv 0) Af (λ_ _=>rfl)))
 (Ae (Ba (i:=5) Fz.nd rfl (Or.inl rfl) (Ar Cv (Ar Cv (Ar Es (Bj Br (pv 0) Af (λ_ _=>rfl)) (Ar Cv (Ar Es Af (pv 4)) Af)) (Ar Es (Ar Es Af (pv 4)) (pv 4))) Af))
 (Ae (Ba (i:=6) Fz.nd rfl (Or.inl rfl) (Ar Et (Ar Ux (pv 5) Af) (Bj Il (pv 3) (Ar Et (pv 4) Af) (λ_ _=>rfl))))
 (Ag (Bc (Ar Et (Ar Mw (Ar Et (Ar Es (pv 6) (Ar Cv (Ar Mw (pv 6) Af) Af)) (Bj Il (pv 3) (Ar Et (Ar Cv (pv 4) Af) Af) (λ_ _=>rfl))) Af) (pv 1)))))))))),?_⟩
 show let R0:TS:=_;let R1:TS:=Ak _ R0;let R2:TS:=Ak _ R1;let R3:TS:=Ak _ R2;let R4:TS:=Ak _ R3;let R5:TS:=Ak _ R4;let R6:TS:=Ak _ _;let R7:TS:=Ak _ R6;Ak (Jj _ R7 _) R5 _ _ _;intro R0 R1 R2 R3 R4 R5 R6 R7;refine⟨_,rq,b,_,_,_,rq,rq,SqL.of hb,rq,_,_,rq,rq,_,rq,?_⟩;refine MP (λc1=>?_) (λc1=>?_)
 ·have c':0 < x:=Qbd c1;refine⟨_,rq,b,_,_,_,rq,rq,SqL.of hb,rq,_,rq,_,_,rq,rq,m0,?_⟩;refine⟨_,rq,b,_,_,_,rq,rq,SqL.of hb,rq,_,rq,_,_,rq,rq,⟨m0,m1⟩,_,rq,b,_,_,_,rq,rq,hb,rq,?_⟩;exact⟨_,rq,q _ _ (QbG x (by omega)) (QaT x m0) ⟨x / m,y,z,Ac,Int.ediv_nonneg x0 (by omega),y0,y1,z0,by omega⟩ Ah.upd⟩
 ·refine⟨(by show 7<=sizeLine;decide),λtp htp=>?_⟩;have nbt:b≠tp:=Bm hb htp;have hb1:∀o,(upd H tp o) b=some (.lst [.int x,.int y,.int z]):=λo=>by rw[Al nbt];exact hb
  have ht1:∀o u,(upd (upd H tp o) b u) tp=some o:=λo u=>by rw[Al nbt.symm,Ac]
  refine⟨_,rq,b,_,_,_,rq,rq,SqL.of (hb1 _),rq,_,_,rq,rq,_,rq,b,_,_,_,rq,rq,hb1 _,rq,?_⟩;refine⟨_,rq,b,_,_,_,rq,rq,SqL.of Ac,rq,?_⟩;have s0:0<=z+1:=by omega
  have s1:z+1<=10001:=by omega
  refine⟨_,rq,b,_,_,_,rq,rq,SqL.of Ac,rq,_,rq,_,_,rq,rq,.inl ⟨by decide,by decide⟩,_,_,rq,rq,_,_,rq,rq,.inl ⟨by omega,by omega⟩,_,rq,_,_,rq,rq,.inl ⟨by decide,by decide⟩,_,rq,_,_,rq,rq,.inr ⟨by omega,by omega⟩,
   _,_,rq,rq,_,_,rq,rq,?_⟩
  have hbase:(y*(2*(z+1)+1)+6007*(z+1)*(z+1)+29).natAbs < 2 ^ 64:=by
   have h1:0<=y*(2*(z+1)+1):=Int.mul_nonneg y0 (by omega);have h2:y*(2*(z+1)+1)<=4294967296*20003:=Int.mul_le_mul y1 (by omega) (by omega) (by omega);have h3:0<=6007*(z+1)*(z+1):=Int.mul_nonneg (by omega) s0;have h4:6007*(z+1)*(z+1)<=(6007*10001)*10001:=Int.mul_le_mul (by omega) s1 s0 (by omega);omega
  obtain⟨p1,e1,p10,p11⟩:=at7 (i:=(z+1) % 7) (QbG _ (by decide)) (QaT _ (by decide)) (a:=2147483629) (b:=2147483587) (c:=2147483579) (d:=2147483563) (e:=2147483549) (f:=2147483543) (g:=2147483497)
   (λp=>0 < p/\p < 2147483648) (by decide) (by decide) (by decide) (by decide) (by decide) (by decide) (by decide)
  obtain⟨p2,e2,p20,p21⟩:=at7 (i:=(z+1+3) % 7) (QbG _ (by decide)) (QaT _ (by decide)) (a:=2147483629) (b:=2147483587) (c:=2147483579) (d:=2147483563) (e:=2147483549) (f:=2147483543) (g:=2147483497)
   (λp=>0 < p/\p < 2147483648) (by decide) (by decide) (by decide) (by decide) (by decide) (by decide) (by decide)
  refine⟨_,rq,_,_,rq,rq,⟨by decide,by decide,hbase⟩,_,rq,_,rq,_,_,rq,rq,(by show (0:Int) < 7;decide),tp,_,_,_,rq,rq,SqT.of (ht1 _ _),e1,_,_,rq,rq,p10,?_⟩;generalize hF:(y*(2*(z+1)+1)+6007*(z+1)*(z+1)+29) ^ (3:Int).toNat % p1=F;have F0:0<=F:=by rw[<-hF];exact QbG _ (by omega)
  have F1:F < p1:=by rw[<-hF];exact QaT _ p10
  refine⟨_,rq,_,rq,_,_,rq,rq,⟨by decide,by decide⟩,_,_,rq,rq,_,_,rq,rq,.inl ⟨by omega,by omega⟩,_,rq,_,rq,_,_,rq,rq,_,_,rq,rq,(by show (0:Int) < 7;decide),tp,_,_,_,rq,rq,SqT.of (ht1 _ _),e2,_,_,rq,rq,p20,
   _,_,rq,rq,⟨by decide,by decide⟩,_,rq,_,_,rq,rq,m0,?_⟩
  refine q _ _ (QbG _ (by omega)) (QaT _ m0) ⟨x,y,z+1,Ac,x0,y0,y1,s0,by omega⟩ λc o e nc=>?_;rw[Al nc,Al (Bm e htp)];exact e
end
abbrev Gs:Stmt:=top 14
abbrev Hs:YF:=["one","other"]
theorem Ek:Az ["one","other","known","entry","stamp","panel","number","text"] Hs (Ad Gs):=by ac_rfl
structure En where
 st:Int
 pn:Int
 nr:Int
 tx:Str
deriving DecidableEq
def En.vs (e:En):YG:=[.int e.st,.int e.pn,.int e.nr,.str e.tx]
def En.key (e:En):List Key:=[.inl e.pn,.inl e.nr]
def En.cd (e:En):Int:=e.st*100000000+e.pn*10000+e.nr
def CT (H:Hp) (v:V) (e:En):Prop:=∃t,v=.ref t/\H t=some (.tup e.vs)
theorem CT.tups {H H':Hp} (s:Bh H H') {v:V} {e:En} (h:CT H v e):CT H' v e:=let ⟨t,h1,h2⟩:=h;⟨t,h1,s _ _ h2⟩
theorem Ens.tups {H H':Hp} (s:Bh H H') {vs:YG} {es:List En} (h:Paired (CT H) vs es):Paired (CT H') vs es:=Paired.IK h λ_ _ z=>z.tups s
def Ay (H:Hp) (a:Addr) (es:List En):Prop:=∃vs,H a=some (.lst vs)/\Paired (CT H) vs es
theorem Ay.same {H H':Hp} {a:Addr} {es:List En} (h:Ay H a es) (s:Same H H'):Ay H' a es:=let ⟨vs,h1,h2⟩:=h;⟨vs,s _ _ h1,Ens.tups (Bh.of s) h2⟩
structure WOk (W:List En):Prop where
 few:W.length < 64
 pn0:∀e∈W,0<=e.pn
 pn1:∀e∈W,e.pn < 10000
 nr0:∀e∈W,0<=e.nr
 nr1:∀e∈W,e.nr < 10000
 tx:∀e∈W,PyData.strOk e.tx=true
 inj:∀e∈W,∀f∈W,e.pn=f.pn->e.nr=f.nr->e=f
theorem WOk.c4 {W:List En} (w:WOk W) {e:En} (h:e∈W):C4 e.st e.pn e.nr e.cd:=⟨w.pn0 e h,w.pn1 e h,w.nr0 e h,w.nr1 e h,rfl⟩
theorem WOk.cdi {W:List En} (w:WOk W) {e f:En} (he:e∈W) (hf:f∈W) (h:e.cd=f.cd):e=f:=by
 have:=w.pn0 e he;have:=w.pn1 e he;have:=w.nr0 e he;have:=w.nr1 e he;have:=w.pn0 f hf;have:=w.pn1 f hf;have:=w.nr0 f hf;have:=w.nr1 f hf;unfold En.cd at h;exact w.inj e he f hf (by omega) (by omega)
def Up (zs:List En):Prop:=zs.Pairwise λe f=>e.cd < f.cd
theorem Y0 {e f:En} (h:e.key=f.key):e.pn=f.pn/\e.nr=f.nr:=by
 unfold En.key at h;simp only[List.cons.injEq,Sum.inl.injEq,and_true] at h;exact h
def DG (H:Hp) (kvs:YL) (ds:List En):Prop:=Paired (λ(kv:List Key×V) e=>kv.1=e.key/\CT H kv.2 e) kvs ds
theorem DG.tups {H H':Hp} (s:Bh H H') {kvs:YL} {ds:List En} (h:DG H kvs ds):DG H' kvs ds:=Paired.IK h λ_ _ z=>⟨z.1,z.2.tups s⟩
theorem DG.at {H:Hp}:∀{kvs:YL} {ds:List En},DG H kvs ds->∀{j:Nat} {k:List Key} {v:V},kvs[j]?=some (k,v)->∃e∈ds,k=e.key/\CT H v e
 | _,_,.nil,j,k,v,h=>by cases h
 | _,_,.cons a r,0,k,v,h=>by cases h;exact⟨_,.head _,a⟩
 | _,_,.cons a r,j+1,k,v,h=>let ⟨e,h1,h2⟩:=DG.at r (j:=j) h;⟨e,.tail _ h1,h2⟩
theorem DG.no {H:Hp}:∀{kvs:YL} {ds:List En},DG H kvs ds->∀{k:List Key},(∀(j:Nat) (v:V),kvs[j]?≠some (k,v))->∀e∈ds,k≠e.key
 | _,_,.nil,k,h=>λe he=>by cases he
 | _,_,.cons (a:=a) x r,k,h=>λe he=>by
  rcases QbN.mp he with rfl | he
  ·intro z;exact h 0 a.2 (by rw[z,<-x.1];rfl)
  ·exact DG.no r (λj v hj=>h (j+1) v (by simpa using hj)) e he
theorem DG.vals {H:Hp}:∀{kvs:YL} {ds:List En},DG H kvs ds->Paired (CT H) (kvs.map (·.2)) ds
 | _,_,.nil=>.nil
 | _,_,.cons x r=>.cons x.2 (DG.vals r)
theorem Ol {K:YD} {H:Hp} {W:List En} (w:WOk W):∀{vs:YG} {es:List En},Paired (CT H) vs es->(∀e∈es,e∈W)->Paired (Ez K H) vs (es.map En.cd)
 | _,_,.nil,_=>.nil
 | _,_,.cons x r,h=>by
  obtain⟨t,e1,e2⟩:=x;exact .cons ⟨t,_,_,_,_,e1,SqT.of e2,w.c4 (h _ (.head _))⟩ (Ol w r λe he=>h e (.tail _ he))
theorem Mf {W:List En} (w:WOk W):∀{es:List En},es.Nodup->(∀e∈es,e∈W)->(es.map En.cd).Nodup
 | [],_,_=>List.Pairwise.nil
 | e::r,nd,h=>by
  rw[QbP];refine QbD.mpr ⟨λz=>?_,Mf w (QbD.mp nd).2 λe he=>h e (.tail _ he)⟩;obtain⟨f,hf,e1⟩:=QbX.mp z;exact (QbD.mp nd).1 (w.cdi (h f (.tail _ hf)) (h e (.head _)) e1 ▸ hf)
theorem Fj {κ : Type} [DecidableEq κ]:∀{l m:List κ},l.Nodup->(∀x∈l,x∈m)->l.length<=m.length
 | [],_,_,_=>Qce _
 | a::r,m,nd,h=>by
  have ha:=h a (QaP ..);obtain⟨n1,n2⟩:=QbD.mp nd;have:=Fj (l:=r) (m:=m.erase a) n2 λx hx=>(List.mem_erase_of_ne (λe=>n1 (by rw[<-e];exact hx))).mpr (h x (Qax _ hx));rw[List.length_erase_of_mem ha] at this;have hp:=List.length_pos_of_mem ha;rw[Qbm];omega
theorem Kz {α : Type} (d:α) {is:List Nat} {xs:List α} (h:is.Perm (List.range xs.length)) (x:α):x∈(is.map λi=>xs.getD i d) ↔ x∈xs:=by
 have:=(h.map λi=>xs.getD i d);rw[range_getD] at this;exact this.mem_iff
def en0:En:=⟨0,0,0,""⟩
theorem Mu {is:List Nat} {ds:List En} (hp:is.Perm (List.range ds.length)) (h:(is.map λi=>(ds.map En.cd).getD i 0).Pairwise (· < ·)):Up (is.map λi=>ds.getD i en0):=by
 have e:(is.map λi=>(ds.map En.cd).getD i 0)=(is.map λi=>ds.getD i en0).map En.cd:=by
  rw[List.map_map];refine List.map_congr_left λi hi=>?_;have:=QbK.mp (hp.mem_iff.mp hi);simp[this]
 rw[e,List.pairwise_map] at h;exact h
theorem Mv {H:Hp} {is:List Nat} {vs:YG} {ds:List En} (hp:is.Perm (List.range ds.length)) (h:Paired (CT H) vs ds):Paired (CT H) (is.map λi=>vs.getD i .non) (is.map λi=>ds.getD i en0):=
 HN V.non en0 h λi hi=>by rw[QbO h];exact QbK.mp (hp.mem_iff.mp hi)
def En.pd (e:En):PyData:=.tuple [.int e.st,.int e.pn,.int e.nr,.str e.tx]
theorem Qv {H:Hp} {v:V} {e:En} (h:CT H v e):Rep H v e.pd:=by
 obtain⟨t,rfl,h2⟩:=h;exact .tup h2 (.cons (.int _) (.cons (.int _) (.cons (.int _) (.cons (.str _) .nil))))
theorem Jv {e:En} (h:PyData.strOk e.tx=true):SeqAt.shaped e.pd=true:=by
 show ((true&&(true&&(true&&(PyData.strOk e.tx&&true))))&&decide (max 0 (max 0 (max 0 (max 0 0)))+1<=64))=true;rw[h];rfl
theorem Zd {e:En} (h:PyData.strOk e.tx=true):PyData.eqv e.pd e.pd=true:=SeqAt.eqv_refl _ (SeqAt.canLay_of_shaped (Jv h))
theorem Bb {i:Nat} {v:V} {Z : St} {H:Hp} {Q:YO} (h:Q (Z.set i (some v)) H):G8 i v Z H Q:=h
theorem Qck {α : Type} {l:List α} {i:Nat} {x:α} (h:l[i]?=some x):l.take (i+1)=l.take i++[x]:=by rw[List.take_add_one,h];rfl
theorem DX {α β : Type} {F:α->β->Prop}:∀{l:List α} {m:List β} {i:Nat} {x:α},Paired F l m->l[i]?=some x->∃y,m[i]?=some y/\F x y
 | _,_,_,_,.nil,h=>by cases h
 | _,_,0,_,.cons a r,h=>by cases h;exact⟨_,rfl,a⟩
 | _,_,i+1,_,.cons a r,h=>DX (i:=i) r h
inductive Ks (vs:YG) (H:Hp) (Q:VK) (E:XK):Prop
 | mk (a b:Addr) (xs ys W:List En) (_:vs=[.ref a,.ref b]) (_:Ay H a xs) (_:Ay H b ys) (_:WOk W) (_:(∀e∈xs,e∈W)) (_:(∀e∈ys,e∈W)) (_:xs.length+ys.length < 500) (_:∀l H' zs,H l=none->Ay H' l zs->Up zs->(∀e,e∈zs ↔ e∈xs\/e∈ys)->Same H H'->Q (.ref l) H'):Ks vs H Q E
section
variable {P:Program} {w:World} {K:YD} {mg:YB} {base:Heap}
abbrev js(a:PySem.Addr):Option L2.V:=some (.ref a)
theorem U3 (c:Code K mg "joined" Gs Hs) (T:Nm mg):Good P w K mg base "joined" 1 Hs Ks:=by
 refine c.good Ek (λvs H Q E h=>?_) (λf cdv A outer s H vs Q E hr h=>?_)
 ·obtain⟨a,b,xs,ys,W,rfl,_⟩:=h;rfl
 obtain⟨a,b,xs,ys,W,rfl,⟨va,ha,pa⟩,⟨vb,hb,pb⟩,w,ix,iy,few,q⟩:=h;refine⟨_,(Ae (Ba (i:=2) Ek.nd rfl (Or.inl rfl) Pz)
 (Ae (CZ Qbz rfl (Cw (Ar UG (pv 0) (pv 1))) (Ao (i:=3) Ek.nd rfl (Or.inl rfl))
 (Ae (Ec (pv 3) (Li rfl (Dq (Ao (i:=4) Ek.nd rfl (Or.inl rfl)) (Dq (Ao (i:=5) Ek.nd rfl (Or.inl rfl)) (Dq (Ao (i:=6) Ek.nd rfl (Or.inl rfl)) (Dq (Ao (i:=7) Ek.nd rfl (Or.inl rfl)) JM))))))
 (Ag (Ca (Bw (PL hr.units) (QZ (XH hr) (pv 2) (Jq (Aa (pv 5) (Aa (pv 6) Ab))) (pv 3) ⟨rq,rq,rq,rq⟩) (pv 3) (Bo _)) (Ag Iw) Bq))))
 (Ag (Bc (QX rfl rfl T.sorted (pv 2)))))),?_⟩
 show let R0:TS:=_;let R1:TS:=Ak _ R0;let R2:TS:=Ak (Fq _ _ R1) _;Ak _ R2 _ _ _;intro R0 R1 R2;intro d hd;have s1:=Ai hd (.dT []);have h1:(upd H d (.dT [])) d=some (.dT []):=Ac;generalize upd H d (.dT [])=H1 at *;refine Bb ?_;have la:va.length=xs.length:=QbO pa;have lb:vb.length=ys.length:=QbO pb;refine⟨_,rq,_,rq,a,b,va,vb,rq,rq,s1 _ _ ha,s1 _ _ hb,Cd (by omega),λc hc=>?_⟩;have s2:=Ai hc (.lst (va++vb));have h2:(upd H1 c (.lst (va++vb))) c=some (.lst (va++vb)):=Ac;have hc0:H c=none:=s1.free hc;generalize upd H1 c (.lst (va++vb))=H2 at *;have pab:Paired (CT H) (va++vb) (xs++ys):=CK pa pb;have ixy:∀e∈xs++ys,e∈W:=λe he=>(Qbw.mp he).elim (ix e) (iy e);have ndc:d≠c:=λz=>by rw[z,hc] at h1;cases h1
 refine⟨c,rq,⟨_,SqL.of h2⟩,?_⟩;let J0:YN:=λi (Z : St) (HH:Hp)=>∃u1 u2 u3 u4 u5,∃(kvs:YL) (ds:List En),Z=[js a,js b,js d,u1,u2,u3,u4,u5]/\HH d=some (.dT kvs)/\HH c=some (.lst (va++vb))/\DG HH kvs ds/\ds.Nodup/\(∀e,e∈ds ↔ e∈(xs++ys).take i)/\Same H HH;refine Hw (xs:=va++vb) J0 ⟨_,_,_,_,_,[],[],rq,s2 _ _ h1,h2,.nil,.nil,λe=>by simp,s1.trans s2⟩ (λi Z HH _ h=>?_) (λi x Z HH hx h=>?_) (fun Z HH h=>?_)
 ·obtain⟨u1,u2,u3,u4,u5,kvs,ds,rfl,e1,e2,_⟩:=h;exact SqL.of e2
 ·obtain⟨u1,u2,u3,u4,u5,kvs,ds,rfl,e1,e2,e3,e4,e5,e6⟩:=h;obtain⟨e,he,hxe⟩:=DX pab hx;have heW:e∈W:=ixy e (Qaw he);have hx':CT HH x e:=hxe.tups (Bh.of e6);refine Bb ?_;obtain⟨t,rfl,ht⟩:=id hx';have hx2:=hx';refine⟨_,rq,t,_,rq,SqT.of ht,rq,_,_,rq,_,_,rq,_,_,rq,_,_,rq,rq,?_⟩;refine⟨_,rq,d,rq,.inr ⟨kvs,.inl e1⟩,?_⟩;refine⟨_,rq,_,rq,Cd (by show 2<=1000;decide),λk hk=>?_⟩;have s3:=Ai hk (.tup [.int e.pn,.int e.nr]);have hk3:(upd HH k (.tup [.int e.pn,.int e.nr])) k=some (.tup (e.key.map kV)):=Ac;generalize upd HH k (.tup [.int e.pn,.int e.nr])=H3 at *;have ld:kvs.length=ds.length:=QbO e3;have dW:∀e∈ds,e∈W:=λf hf=>ixy f (List.mem_of_mem_take ((e5 f).mp hf));have l1:=Fj e4 dW;have l2:=w.few;have neq:∀{HX:Hp} {v:V},CT HX v e->CT HX (.ref t) e->∃d1 e1:PyData,Rep HX v d1/\Rep HX (.ref t) e1/\SeqAt.shaped d1=true/\SeqAt.shaped e1=true/\(!PyData.eqv d1 e1)=false:=λz1 z2=>⟨_,_,Qv z1,Qv z2,Jv (w.tx e heW),Jv (w.tx e heW),by rw[Zd (w.tx e heW)];rfl⟩;refine⟨_,rq,kvs,e.key,k,s3 _ _ e1,rq,hk3,Aq (by omega),λj v hj=>?_,λhno=>?_⟩
  ·obtain⟨f,hf,ek,hv⟩:=e3.at hj;obtain⟨z1,z2⟩:=Y0 ek;have efe:f=e:=(w.inj e heW f (dW f hf) z1 z2).symm;subst efe;obtain⟨d1,d2,r1,r2,r3,r4,r5⟩:=neq (hv.tups (Bh.of s3)) (hx'.tups (Bh.of s3));refine⟨_,rq,d1,d2,r1,r2,r3,r4,_,rq,?_⟩;rw[r5];refine Bs ⟨_,_,_,_,_,kvs,ds,rq,s3 _ _ e1,s3 _ _ e2,e3.tups (Bh.of s3),e4,λg=>?_,e6.trans s3⟩;rw[Qck he,Qbw,QaJ,<-e5 g];exact⟨.inl,λz=>z.elim id λz=>by rw[z];exact hf⟩
  ·have ndk:∀xs,H3 d≠some (.tup xs):=λxs z=>by rw[s3 _ _ e1] at z;cases z
   have s4:Bh H3 (upd H3 d (.dT (kvs++[(e.key,.ref t)]))):=Bh.upd ndk;have h4:(upd H3 d (.dT (kvs++[(e.key,.ref t)]))) d=some (.dT (kvs++[(e.key,.ref t)])):=Ac;have h5:(upd H3 d (.dT (kvs++[(e.key,.ref t)]))) c=some (.lst (va++vb)):=by rw[Al ndc.symm];exact s3 _ _ e2
   have s6:Same H (upd H3 d (.dT (kvs++[(e.key,.ref t)]))):=(e6.trans s3).BL Ah.upd hd;generalize upd H3 d (.dT (kvs++[(e.key,.ref t)]))=H4 at *;have hx4:=hx'.tups ((Bh.of s3).trans s4);obtain⟨d1,d2,r1,r2,r3,r4,r5⟩:=neq hx4 hx4;refine⟨_,rq,d1,d2,r1,r2,r3,r4,_,rq,?_⟩;rw[r5];have nde:e∉ds:=λz=>e3.no hno e z rfl;refine Bs ⟨_,_,_,_,_,kvs++[(e.key,.ref t)],ds++[e],rq,h4,h5,CK (e3.tups ((Bh.of s3).trans s4)) (.cons ⟨rq,hx4⟩ .nil),?_,λg=>?_,s6⟩
   ·exact List.nodup_append.mpr ⟨e4,by simp,λx hx y hy z=>by rw[QaJ.mp hy] at z;exact nde (z ▸ hx)⟩
   ·rw[Qck he,Qbw,Qbw,e5 g]
 ·obtain⟨u1,u2,u3,u4,u5,kvs,ds,rfl,e1,e2,e3,e4,e5,e6⟩:=h;have lxy:(va++vb).length=(xs++ys).length:=QbO pab;rw[lxy,Qbk] at e5;have dW:∀e∈ds,e∈W:=λf hf=>ixy f ((e5 f).mp hf);have l1:=Fj e4 dW;have l2:=w.few;have ld:kvs.length=ds.length:=QbO e3;refine⟨_,rq,d,kvs,ds.map En.cd,rq,e1,by omega,Ol w e3.vals dW,Mf w e4 dW,λis l hp hr' hl=>?_⟩;rw[ld] at hp;have s7:=Ai hl (.lst (is.map λi=>(kvs.map (·.2)).getD i .non));refine q l _ (is.map λi=>ds.getD i en0) (e6.free hl) ⟨_,Ac,Ens.tups (Bh.of s7) (Mv hp e3.vals)⟩ (Mu hp hr') (λe=>?_) (e6.trans s7);rw[Kz en0 hp,e5,Qbw]
end
abbrev Fb:Stmt:=top 9
abbrev Ge:YF:=["thing"]
theorem QT:Az ["thing"] Ge (Ad Fb):=by ac_rfl
abbrev Ed:Stmt:=top 10
abbrev Ef:YF:=["thing","low","high"]
theorem Pb:Az ["thing","low","high"] Ef (Ad Ed):=by ac_rfl
abbrev FP:Stmt:=top 11
abbrev GR:YF:=["thing","least","most"]
theorem Sx:Az ["thing","least","most"] GR (Ad FP):=by ac_rfl
abbrev FN:Stmt:=top 20
abbrev GQ:YF:=[]
theorem Ld:Az ["_law_some"] GQ (Ad FN):=by ac_rfl
abbrev Fv:Stmt:=top 21
abbrev Hq:YF:=["_law_bag_here"]
abbrev xj:YF:=["_law_bag_here","_law_size","_law_start","_law_step","_law_some","_law_signs_here"]
theorem Fy:Az xj Hq (Ad Fv):=by ac_rfl
abbrev FJ:Stmt:=top 19
abbrev GP:YF:=["_law_thing"]
theorem Sw:Az GP GP (Ad FJ):=by ac_rfl
theorem ZR {X:Cx} {k k':Nat} {ps:YF} {sp:Sp} {x:Str} {p pos:Pos} (g:Good X.prog X.w X.K X.mg X.base x k ps sp) (hr:Bk k' X.A) (hk:k<=k':=by decide) (hg:Gl X x:=by rfl)
  (hdb:(x == ("__debug__":Str))=false:=by decide):PE X (.Call (.Name x p) [] [] pos) (Od sp [] E0 G4):=by
 intro jb s Z H Q I h;obtain⟨f,fd,m,kp,b,F⟩:=g.ex;exact Wo F (hr.mono hk) hg m kp b .nil Lj hdb jb s Z H Q I h
def SG:Str:=" !\"#$&'()*+,-./0123456789:;<=>?@ABCDEFGHIJKLMNOPQRSTUVWXYZ[\\]^_`abcdefghijklmnopqrstuvwxyz{|}~"
theorem VR:SG.cps.toList.length=94:=by trivial
theorem Zf:SG.cps.size=94:=by rw[<-QaG,VR]
theorem Xj:∀c∈SG.cps.toList,c < 128:=by
 have h:SG.cps.toList.all (λc=>decide (c < 128))=true:=by trivial
 exact λc hc=>Qbd (Qbl.mp h c hc)
def sgB (c:Nat):Bool:=!(Builtin.Str.occurrences SG ⟨#[c]⟩ 0 SG.length 1).isEmpty
theorem bI:∀c∈SG.cps.toList,sgB c=true:=by
 have h:SG.cps.toList.all (λc=>!(Builtin.Str.occurrences SG ⟨#[c]⟩ 0 SG.length 1).isEmpty)=true:=by trivial
 exact λc hc=>Qbl.mp h c hc
structure Tj (mg:YB):Prop extends Nm mg where
 SIGNS:∃u,mg "SIGNS"=some u/\RelV (.str SG) u
 MOST_SIGNS:∃u,mg "MOST_SIGNS"=some u/\RelV (.int 20) u
structure K1 (z:Str):Prop where
 l1:1<=z.cps.size
 l2:z.cps.size<=20
 sg:∀c∈z.cps.toList,c∈SG.cps.toList
theorem K1.str {z:Str} (h:K1 z):PyData.strOk z=true:=by
 unfold PyData.strOk;rw[Array.all_eq_true'];exact λc hc=>QbJ (by have:=Xj c (h.sg c (Array.mem_toList_iff.mpr hc));omega)
def isS:V->Bool
 | .str _=>true
 | _=>false
theorem Qm {K:YD} {H:Hp} {x:V} {Q:VK} (k:Kn H x) (q:Q (.bl (isS x)) H):G5 K [x,.ty "str"] H Q:=by
 unfold G5;cases x with
 | non=>exact⟨_,_,_,_,rfl,.non,by rfl,q⟩
 | bl b=>exact⟨_,_,_,_,rfl,.bl b,by rfl,q⟩
 | int i=>exact⟨_,_,_,_,rfl,.int i,by rfl,q⟩
 | str z=>exact⟨_,_,_,_,rfl,.str z,by rfl,q⟩
 | ref a=>
  rcases k with⟨xs,e⟩|⟨xs,e⟩
  ·exact⟨_,_,_,_,rq,.lst e,by rfl,q⟩
  ·exact⟨_,_,_,_,rq,.tup e,by rfl,q⟩
 | _=>exact k.elim
theorem Y4 {K:YD} {H:Hp} {a:Addr} {xs:YG} {Q:VK} (h:H a=some (.tup xs)) (q:Q (.bl true) H):G5 K [.ref a,.ty "tuple"] H Q:=by
 unfold G5;exact⟨_,_,_,_,rq,.tup h,by rfl,q⟩
theorem Y5 {K:YD} {H:Hp} {a:Addr} {xs:YG} {Q:VK} (h:H a=some (.lst xs)) (q:Q (.bl true) H):G5 K [.ref a,.ty "list"] H Q:=by
 unfold G5;exact⟨_,_,_,_,rq,.lst h,by rfl,q⟩
def wiB (v:V) (lo hi:Int):Bool:=match v with
 | .int x=>decide (lo<=x)&&decide (x<=hi)
 | _=>false
theorem Y6 {v:V} (h:isW v=true):∃i,v=.int i:=by
 cases v with
 | int i=>exact⟨i,rfl⟩
 | _=>cases h
inductive O4 (vs:YG) (H:Hp) (Q:VK) (E:XK):Prop
 | mk (v) (_:vs=[v]) (_:Kn H v) (_:Q (.bl (isW v)) H):O4 vs H Q E
inductive Ir (vs:YG) (H:Hp) (Q:VK) (E:XK):Prop
 | mk (v lo hi) (_:vs=[v,.int lo,.int hi]) (_:Kn H v) (_:Q (.bl (wiB v lo hi)) H):Ir vs H Q E
def lnB (v:V):Bool:=match v with
 | .str z=>decide (1<=z.cps.size)&&decide (z.cps.size<=20)&&z.cps.toList.all sgB
 | _=>false
theorem K1.ln {z:Str} (h:K1 z):lnB (.str z)=true:=by
 show (decide (1<=z.cps.size)&&decide (z.cps.size<=20)&&z.cps.toList.all sgB)=true;rw[QbJ h.l1,QbJ h.l2,Bool.true_and,Bool.true_and];exact Qbl.mpr λc hc=>bI c (h.sg c hc)
inductive Ku (vs:YG) (H:Hp) (Q:VK) (E:XK):Prop
 | mk (v) (_:vs=[v,.int 1,.int 20]) (_:Kn H v) (_:(∀z,v=.str z->z.cps.size<=1000)) (_:∀H',Same H H'->Q (.bl (lnB v)) H'):Ku vs H Q E
def Rr:Sp:=λvs H Q _=>vs=[]/\Q (.str SG) H
inductive O5 (vs:YG) (H:Hp) (Q:VK) (E:XK):Prop
 | mk (b:Addr) (n:Nat) (_:vs=[.ref b]) (_:Bv H b n) (_:n<=9000) (_:∀z H',K1 z->Bv H' b (n+6)->Ah b H H'->Q (.str z) H'):O5 vs H Q E
inductive HD (vs:YG) (H:Hp) (Q:VK) (E:XK):Prop
 | mk (v e) (_:vs=[v]) (_:CT H v e) (_:∀H',Same H H'->Q (.bl true) H'):HD vs H Q E
theorem X4 {r:Int} (h0:0<=r) (h1:r < 94):∃c∈SG.cps.toList,atI SG.cps.toList r=some c:=by
 have hl:r.toNat < SG.cps.toList.length:=by rw[VR];omega
 refine⟨SG.cps.toList[r.toNat],List.getElem_mem hl,?_⟩;have:=Fe (xs:=SG.cps.toList) (j:=r.toNat) (Qam hl);rw[Int.toNat_of_nonneg h0] at this;exact this
theorem at4 {i x:Int} (h0:0<=i) (h4:i < 4) (x0:1<=x) (x1:x<=20):∃y:Int,1<=y/\y<=20/\atI [V.int 1,.int 20,.int 2,.int x] i=some (.int y):=by
 have:i=0\/i=1\/i=2\/i=3:=by omega
 rcases this with rfl | rfl | rfl | rfl
 ·exact⟨1,by decide,by decide,rq⟩
 ·exact⟨20,by decide,by decide,rq⟩
 ·exact⟨2,by decide,by decide,rq⟩
 ·exact⟨x,x0,x1,rq⟩
def ones (cs:List Nat):YG:=cs.map λc=>V.str ⟨#[c]⟩
theorem UJ (cs:List Nat):Txt.join "" (cs.map λc=>(⟨#[c]⟩ : Str))=⟨cs.toArray⟩:=by
 have key:∀(cs:List Nat) (a:Array Nat),(cs.map λx=>(⟨#[x]⟩ : Str)).foldl (λacc p=>acc++(Str.ofString "").cps++p.cps) a=a++cs.toArray:=by
  intro cs
  induction cs with
  | nil=>intro a;simp
  | cons x r ih=>
   intro a;rw[QbP,List.foldl_cons,ih];have:(Str.ofString "").cps=#[]:=by trivial
   rw[this];apply Array.ext';simp
 cases cs with
 | nil=>rfl
 | cons x r=>
  show (⟨(r.map λx=>(⟨#[x]⟩ : Str)).foldl (λacc p=>acc++(Str.ofString "").cps++p.cps) #[x]⟩ : Str)=_;rw[key];congr 1;apply Array.ext';simp
theorem PN:∀cs:List Nat,((cs.map λc=>(⟨#[c]⟩ : Str)).map (λx=>x.length)).sum=cs.length
 | []=>rfl
 | x::r=>by
  rw[QbP,QbP,List.sum_cons,PN r,Qbm];show 1+_=_;omega
section
variable {P:Program} {w:World} {K:YD} {mg:YB} {base:Heap}
theorem Q5 (c:Code K mg "is_whole" Fb Ge) (T:Nm mg):Good P w K mg base "is_whole" 1 Ge O4:=by
 refine c.good QT (λvs H Q E h=>?_) (λf cdv A outer s H vs Q E hr h=>?_)
 ·obtain⟨v,rfl,_⟩:=h;rfl
 obtain⟨v,rfl,k,q⟩:=h;refine⟨_,(Ag (Bc (PB (Am Ey rfl T.isinstance Ci (Aa (pv 0) (Aa (FQ (v:=.ty "int") rfl T.int QD rfl) Ab))) (Px (Ut (Am Ey rfl T.isinstance Ci (Aa (pv 0) (Aa (FQ (v:=.ty "bool") rfl T.bool RT rfl) Ab)))))))),?_⟩;refine⟨_,rq,RD k ⟨_,rq,?_⟩⟩;rw[Vh] at q;cases e:isI v with
 | false=>rw[e] at q;exact Bs q
 | true=>rw[e] at q;exact Ce ⟨_,rfl,Qn e ⟨_,rfl,q⟩⟩
theorem PX (c:Code K mg "is_within" Ed Ef) (T:Nm mg) (TV:Good P w K mg base "is_whole" 1 Ge O4):Good P w K mg base "is_within" 2 Ef Ir:=by
 refine c.good Pb (λvs H Q E h=>?_) (λf cdv A outer s H vs Q E hr h=>?_)
 ·obtain⟨x,lo,hi,rfl,_⟩:=h;rfl
 obtain⟨v,lo,hi,rfl,k,q⟩:=h;refine⟨_,(Ag (Bc (PB (Ij TV hr (Aa (pv 0) Ab)) (Px (Wn JQ JQ (pv 1) (pv 0) (pv 2)))))),?_⟩;refine⟨_,rq,v,rq,k,_,rq,?_⟩;cases e:isW v with
 | false=>
  refine Bs ?_;have:wiB v lo hi=false:=by
   cases v with
   | int i=>cases e
   | _=>rfl
  rw[this] at q;exact q
 | true=>
  obtain⟨x,rfl⟩:=Y6 e;refine Ce ⟨_,rq,_,rq,_,_,rq,rq,_,rq,?_⟩;by_cases h1:lo<=x
  ·rw[QbJ h1];refine Ce ⟨_,rq,_,_,rq,rq,?_⟩;have:wiB (.int x) lo hi=decide (x<=hi):=by show (decide (lo<=x)&&decide (x<=hi))=_;rw[QbJ h1,Bool.true_and]
   rw[this] at q;exact q
  ·rw[Qbv h1];refine Bs ?_;have:wiB (.int x) lo hi=false:=by show (decide (lo<=x)&&decide (x<=hi))=_;rw[Qbv h1,Bool.false_and]
   rw[this] at q;exact q
theorem Tg (C:Code K mg "is_line" FP GR) (T:Tj mg):Good P w K mg base "is_line" 1 GR Ku:=by
 refine C.good Sx (λvs H Q E h=>?_) (λf cdv A outer s H vs Q E hr h=>?_)
 ·obtain⟨v,rfl,_⟩:=h;rfl
 obtain⟨v,rfl,k,hz,q⟩:=h;refine⟨_,(Ae (Ca (PW.pt (JH (CN (CW (Am Ey rfl T.isinstance Ci (Aa (pv 0) (Aa (FQ (v:=.ty "str") rfl T.str VL rfl) Ab))))) (Lh (CN (Pn JQ JQ (pv 1) (Am QB rfl T.len CQ (Aa (pv 0) Ab)) (pv 2)))))) (Ag (Bc Cp)) Bq)
 (Ag (Bc (Am (Gx rfl) rfl T.all Io (Aa (Cz (N':=["sign"]) rfl (Bp.plain rfl (by trivial) (by trivial) (by trivial)) (ZM (pv 0)) (λ_ _ _ _=>(Ao (i:=0) (show List.Nodup (["sign"]:YF) by trivial) rfl (Or.inl rfl))) (λ_ _ _ _=>Fg) (λ_ _ _ _=>(Hg Uy (pv 0) (Uu rfl T.SIGNS) (by with_unfolding_all rfl)))) Ab))))),?_⟩
 show let R0:TS:=_;Ak _ R0 _ _ _;intro R0;refine⟨_,rq,Qm k ⟨_,rq,?_⟩⟩;cases v with
 | str z=>
  have hl:=hz z rfl;refine Bs ⟨_,rq,_,rq,z,rq,Cd (by show z.cps.size<=1000;omega),_,_,rq,rq,_,rq,?_⟩;by_cases h1:1<=z.cps.size
  ·have d1:decide ((1:Int)<=(z.length:Int))=true:=QbJ (by show (1:Int)<=(z.cps.size:Int);omega);rw[d1];refine Ce ⟨_,rq,_,_,rq,rq,_,rq,?_⟩;by_cases h2:z.cps.size<=20
   ·have d2:decide ((z.length:Int)<=20)=true:=QbJ (by show (z.cps.size:Int)<=20;omega);rw[d2];refine Bs ⟨_,rq,z,rq,λl hl'=>?_⟩;let J0:YN:=λi Z HH=>∃u,Z=[u]/\HH l=some (.lst (((z.cps.toList.take i).map sgB).map V.bl))/\Same H HH;refine Xe J0 ⟨_,rq,Ac,Ai hl' _⟩ (λi c Z HH hc h=>?_) (fun Z HH h=>?_)
    ·obtain⟨u,rfl,e1,e2⟩:=h;have hi:i < z.cps.size:=(Qag.mp hc).1;have hc':z.cps.toList[i]?=some c:=by rw[Array.getElem?_toList];exact hc
     unfold G8;dsimp only;refine Ce ⟨_,rq,_,_,rq,rq,_,e1,Aq (by rw[Qbu,Qbu,Qbj];omega),_,rq,?_,e2.BL Ah.upd hl'⟩;rw[Ac,Qck hc',Qby,Qby];rfl
    ·obtain⟨u,rfl,e1,e2⟩:=h;refine⟨l,_,rq,SqL.of e1,?_⟩;have:=q _ e2;have e3:lnB (.str z)=z.cps.toList.all sgB:=by show (decide (1<=z.cps.size)&&decide (z.cps.size<=20)&&_)=_;rw[QbJ h1,QbJ h2,Bool.true_and,Bool.true_and]
     rw[e3] at this;rw[<-QaG,Qbk,List.all_map];exact this
   ·have d2:decide ((z.length:Int)<=20)=false:=Qbv (by show ¬(z.cps.size:Int)<=20;omega);rw[d2];have:=q _ (Same.refl H);have e3:lnB (.str z)=false:=by show (decide (1<=z.cps.size)&&decide (z.cps.size<=20)&&_)=_;rw[Qbv h2,Bool.and_false,Bool.false_and]
    rw[e3] at this;exact Ce this
  ·have d1:decide ((1:Int)<=(z.length:Int))=false:=Qbv (by show ¬(1:Int)<=(z.cps.size:Int);omega);rw[d1];have:=q _ (Same.refl H);have e3:lnB (.str z)=false:=by show (decide (1<=z.cps.size)&&decide (z.cps.size<=20)&&_)=_;rw[Qbv h1,Bool.false_and,Bool.false_and]
   rw[e3] at this;exact Bs ⟨_,rq,Ce this⟩
 | _=>exact Ce (q _ (Same.refl H))
theorem Wr (c:Code K mg "_law_whole" FJ GP) (T:Nm mg):Good P w K mg base "_law_whole" 1 GP O4:=by
 refine c.good Sw (λvs H Q E h=>?_) (λf cdv A outer s H vs Q E hr h=>?_)
 ·obtain⟨v,rfl,_⟩:=h;rfl
 obtain⟨v,rfl,k,q⟩:=h;refine⟨_,(Ag (Bc (PB (Am Ey rfl T.isinstance Ci (Aa (pv 0) (Aa (FQ (v:=.ty "int") rfl T.int QD rfl) Ab))) (Px (Ut (Am Ey rfl T.isinstance Ci (Aa (pv 0) (Aa (FQ (v:=.ty "bool") rfl T.bool RT rfl) Ab)))))))),?_⟩;refine⟨_,rq,RD k ⟨_,rq,?_⟩⟩;rw[Vh] at q;cases e:isI v with
 | false=>rw[e] at q;exact Bs q
 | true=>rw[e] at q;exact Ce ⟨_,rfl,Qn e ⟨_,rfl,q⟩⟩
theorem Ws (c:Code K mg "_law_signs" FN GQ) (T:Nm mg):Good P w K mg base "_law_signs" 1 GQ Rr:=by
 refine c.good Ld (λvs H Q E h=>?_) (λf cdv A outer s H vs Q E hr h=>?_)
 ·obtain⟨rfl,_⟩:=h;rfl
 obtain⟨rfl,q⟩:=h;refine⟨_,(Ae (Ba (i:=0) Ld.nd rfl (Or.inl rfl) Pu)
 (Ag (Bc (Ar Td (pv 0) Pu)))),?_⟩
 refine⟨_,rq,_,_,rq,rq,Cd (by trivial),?_⟩;have:Str.ofString " !\"#$&'()*+,-./0123456789:;<=>?@ABCDEFGHIJKLMNOPQRSTUVWXYZ[\\]^_`"++Str.ofString "abcdefghijklmnopqrstuvwxyz{|}~"=SG:=by trivial
 show Q (.str (Str.ofString " !\"#$&'()*+,-./0123456789:;<=>?@ABCDEFGHIJKLMNOPQRSTUVWXYZ[\\]^_`"++Str.ofString "abcdefghijklmnopqrstuvwxyz{|}~")) H;rw[this];exact q
abbrev xk:YF:=["_law_place","_law_some","_law_start","_law_step"]
theorem Yv (C:Code K mg "_law_text" Fv Hq) (T:Nm mg) (Bt:Good P w K mg base "_law_take" 1 Ep Ii) (Vt:Good P w K mg base "_law_signs" 1 GQ Rr):Good P w K mg base "_law_text" 2 Hq O5:=by
 refine C.good Fy (λvs H Q E h=>?_) (λf cdv A outer s H vs Q E hr h=>?_)
 ·obtain⟨b,n,rfl,_⟩:=h;rfl
 obtain⟨b,n,rfl,hb,hn,q⟩:=h;refine⟨_,(@Ae _ _ _ _ _ (@Ba _ _ 1 _ _ _ _ Fy.nd rfl (Or.inl rfl) (Bj Br (Gb (Aa Af (Aa Af (Aa Af (Aa (@Ar _ _ _ _ _ _ _ _ Cv Af (Dh Bt hr (Aa (pv 0) (Aa Af Ab)))) Ab))))) (Dh Bt hr (Aa (pv 0) (Aa Af Ab))) (λ_ _=>rfl)) (by rfl) (by first | exact .inl rfl | exact .inr rfl))
 (@Ae _ _ _ _ _ (@Ba _ _ 2 _ _ _ _ Fy.nd rfl (Or.inr rfl) (Dh Bt hr (Aa (pv 0) (Aa Af Ab))) (by rfl) (by first | exact .inl rfl | exact .inr rfl))
 (@Ae _ _ _ _ _ (@Ba _ _ 3 _ _ _ _ Fy.nd rfl (Or.inr rfl) (Dh Bt hr (Aa (pv 0) (Aa Af Ab))) (by rfl) (by first | exact .inl rfl | exact .inr rfl))
 (@Ae _ _ _ _ _ (@Ba _ _ 4 _ _ _ _ Fy.nd rfl (Or.inr rfl) (ZR Vt hr) (by rfl) (by first | exact .inl rfl | exact .inr rfl))
 (@Ae _ _ _ _ _ (Mq (i:=5) Fy.nd rfl (Or.inl rfl) (N':=xk) rfl (Bp.of (src:=[none,some 4,some 2,some 3]) (Ad Fv) xj rfl rfl rfl (by trivial) (by trivial) (by trivial) rfl (by trivial)) (BW rfl T.range (Aa (pv 1) Ab)) (λ_ _ _ _=>(Ao (i:=0) (show List.Nodup (xk:YF) by trivial) rfl (Or.inl rfl))) (λ_ _ _ _=>Fg) (λ_ _ _ _=>(Bj Vf (pv 1) (@Ar _ _ _ _ _ _ _ _ Et (@Ar _ _ _ _ _ _ _ _ Cv (pv 2) (@Ar _ _ _ _ _ _ _ _ Es (pv 3) (pv 0))) Af) (λ_ _=>rfl))))
 (@Ae _ _ _ _ _ (Ec (Bj Vf (pv 4) (Dh Bt hr (Aa (pv 0) (Aa Af Ab))) (λ_ _=>rfl)) (Em (pv 5) (Dh Bt hr (Aa (pv 0) (Aa (pv 1) Ab))) set_list))
 (@Ag _ _ _ (Bc (Og PySem.F.plainAttrs_str PySem.F.slot_str_join PySem.F.type_str_join YW Pu (Aa (pv 5) Ab)))))))))),?_⟩
 show let R0:TS:=_;let R1:TS:=Ak _ R0;let R2:TS:=Ak _ R1;let R3:TS:=Ak _ R2;let R4:TS:=Ak _ R3;let R5:TS:=Ak _ R4;Ak _ R5 _ _ _;intro R0 R1 R2 R3 R4 R5;refine⟨_,rq,b,n,20,rq,hb,by omega,by decide,by decide,λr1 H1 r10 r11 hb1 sb1=>⟨_,_,rq,rq,Cd (by show 4<=1000;decide),λp hp=>?_⟩⟩;have nbp:b≠p:=hb1.nb hp;have hb2:=hb1.same (Ai hp (.lst [.int 1,.int 20,.int 2,.int (1+r1)]));refine⟨_,rq,b,_,4,rq,hb2,by omega,by decide,by decide,λr2 H2 r20 r21 hb3 sb2=>?_⟩;obtain⟨y,y0,y1,hy⟩:=at4 r20 r21 (x:=1+r1) (by omega) (by omega);refine⟨p,_,_,_,rq,rq,SqL.of (sb2 _ _ Ac nbp.symm),hy,?_⟩;have sH2:Ah b H H2:=(sb1.trans (Ah.of (Ai hp _))).trans sb2;clear hy hb2;refine⟨_,rq,b,_,94,rq,hb3,by omega,by decide,by decide,λr3 H3 r30 r31 hb4 sb3=>?_⟩;refine⟨_,rq,b,_,94,rq,hb4,by omega,by decide,by decide,λr4 H4 r40 r41 hb5 sb4=>?_⟩;have sH4:Ah b H H4:=(sH2.trans sb3).trans sb4;refine⟨rq,?_⟩;refine⟨_,rq,_,rq,by omega,by omega,λl hl=>?_⟩;have nbl:b≠l:=hb5.nb hl;have fl:H l=none:=sH4.free hb5.ex hl;have sgl:SG.length<=sizeLine:=Cd (by show SG.cps.size<=1000;rw[Zf];decide);let J1:YN:=λ(i:Nat) (Z : St) (HH:Hp)=>∃(u:Option V) (cs:List Nat),Z=[u,some (.str SG),some (.int r3),some (.int r4)]/\HH l=some (.lst (ones cs))/\cs.length=i/\(∀c∈cs,c∈SG.cps.toList)/\Ah l H4 HH;refine Gj J1
  ⟨none,[],rq,Ac,rq,(λy hy=>by cases hy),Ah.of (Ai hl _)⟩ (λi Z HH hi h=>?_) (fun Z HH h=>?_)
 ·obtain⟨u,cs,rfl,e1,e2,e3,e4⟩:=h;obtain⟨c,hc,ec⟩:=X4 (r:=(r3+r4*(0+(i:Int))) % 94) (QbG _ (by decide)) (QaT _ (by decide));unfold G8;dsimp only;refine Ce ⟨_,rq,_,rq,_,rq,_,rq,_,_,rq,rq,.inl ⟨by omega,by omega⟩,_,_,rq,rq,_,_,rq,rq,(by show (0:Int) < 94;decide),_,_,c,rq,rq,sgl,ec,_,e1,Aq (by unfold ones;rw[Qbu];omega),_,cs++[c],rq,?_,?_,λd hd=>?_,e4.trans Ah.upd⟩
  ·rw[Ac];unfold ones;rw[Qby];rfl
  ·rw[QaL,e2];rfl
  ·rcases Qbw.mp hd with h | h
   ·exact e3 d h
   ·have:d=c:=by simpa using h
    rw[this];exact hc
 obtain⟨u,cs,rfl,e1,e2,e3,e4⟩:=h;have hb6:Bv HH b (n+1+1+1+1):=hb5.Bl e4 nbl;have sHH:Ah b H HH:=λc o e ne=>e4 _ _ (sH4 _ _ e ne) λz=>by rw[z,fl] at e;cases e
 refine⟨_,rq,_,rq,b,_,94,rq,hb6,by omega,by decide,by decide,λr5 H5 r50 r51 hb7 sb5=>?_⟩;obtain⟨c,hc,ec⟩:=X4 r50 r51;refine⟨_,_,c,rq,rq,sgl,ec,_,rq,_,rq,_,rq,b,_,y,rq,hb7,by omega,by omega,by omega,λr6 H6 r60 r61 hb8 sb6=>?_⟩;have e5:H6 l=some (.lst (ones cs)):=sb6 _ _ (sb5 _ _ e1 nbl.symm) nbl.symm;have ocl:(ones cs).length=y.toNat:=by unfold ones;rw[Qbu];exact e2
 have hix:ixN (ones cs).length r6=some r6.toNat:=by
  unfold ixN;rw[if_pos r60,if_pos (by rw[ocl];omega)]
 refine⟨l,_,_,_,rq,rq,e5,hix,?_⟩;have e6:(upd H6 l (.lst ((ones cs).set r6.toNat (.str ⟨#[c]⟩)))) l=some (.lst (ones (cs.set r6.toNat c))):=by rw[Ac];unfold ones;rw[Qcc]
 have f4:=(hb8.Bl (Ah.upd (o:=.lst ((ones cs).set r6.toNat (.str ⟨#[c]⟩)))) nbl);have f5:Ah b H (upd H6 l (.lst ((ones cs).set r6.toNat (.str ⟨#[c]⟩)))):=λc' o e ne=>Ah.upd _ _ (sb6 _ _ (sb5 _ _ (sHH _ _ e ne) ne) ne) λz=>by rw[z,fl] at e;cases e
 generalize upd H6 l (.lst ((ones cs).set r6.toNat (.str ⟨#[c]⟩)))=HF at *;have f2:(cs.set r6.toNat c).length=y.toNat:=by rw[QbC];exact e2
 have f3:∀d∈cs.set r6.toNat c,d∈SG.cps.toList:=λd hd=>by
  rcases Qaj hd with h | rfl
  ·exact e3 d h
  ·exact hc
 generalize cs.set r6.toNat c=ds at *;refine⟨rq,_,rq,_,l,ds.map λc=>(⟨#[c]⟩ : Str),rq,rq,SqL.of (by rw[e6];unfold ones;rw[List.map_map];rfl),?_,?_⟩
 ·rw[PN,Qbu];have:(Str.ofString "").length=0:=by trivial
  rw[this];have:2000 < sizeLine:=by decide
  omega
 ·rw[UJ];refine q _ _ ⟨?_,?_,f3⟩ f4 f5
  ·show 1<=ds.toArray.size;rw[QaZ];omega
  ·show ds.toArray.size<=20;rw[QaZ];omega
end
abbrev Du:Stmt:=top 22
abbrev Dv:YF:=GP
theorem NT:Az GP Dv (Ad Du):=by ac_rfl
section
variable {P:Program} {w:World} {K:YD} {mg:YB} {base:Heap}
theorem Q6 (C:Code K mg "_law_is_entry" Du Dv) (T:Nm mg) (Vs:Good P w K mg base "_law_whole" 1 GP O4):Good P w K mg base "_law_is_entry" 2 Dv HD:=by
 refine C.good NT (λvs H Q E h=>?_) (λf cdv A outer s H vs Q E hr h=>?_)
 ·obtain⟨v,e,rfl,_⟩:=h;rfl
 obtain⟨v,e,rfl,⟨t,rfl,ht⟩,q⟩:=h;refine⟨_,(Ae (Ca (PW.pt (JH (CN (CW (Am Ey rfl T.isinstance Ci (Aa (pv 0) (Aa (FQ (v:=.ty "tuple") rfl T.tuple Xg rfl) Ab))))) (JH (Bw Xz (Am Bg rfl T.len CQ (Aa (pv 0) Ab)) Af (Bo _)) (Lh (CN (CW (Am Ey rfl T.isinstance Ci (Aa (Bj Il (pv 0) Af (λ_ _=>rfl)) (Aa (FQ (v:=.ty "str") rfl T.str VL rfl) Ab))))))))) (Ag (Bc Cp)) Bq)
 (Ag (Bc (Am (Gx rfl) rfl T.all Io (Aa (Cz (N':=["_law_part"]) rfl (Bp.plain rfl (by trivial) (by trivial) (by trivial)) (ZL (KC Rt (pv 0) Ms (Mr Af))) (λ_ _ _ _=>(Ao (i:=0) (show List.Nodup (["_law_part"]:YF) by trivial) rfl (Or.inl rfl))) (λ_ _ _ _=>Fg) (λ_ _ _ _=>(Ij Vs hr (Aa (pv 0) Ab)))) Ab))))),?_⟩
 show let R0:TS:=_;Ak _ R0 _ _ _;intro R0;refine⟨_,rq,Y4 ht ⟨_,rq,Bs ⟨_,rq,t,_,rq,.inr (SqT.of ht),rq,_,rq,Bs ⟨_,rq,t,_,_,_,rq,rq,SqT.of ht,rq,Qm True.intro ⟨_,rq,Bs ?_⟩⟩⟩⟩⟩;refine⟨_,rq,_,rq,t,_,rq,ht,λu H1 hu s1=>⟨u,rq,⟨_,SqT.of hu⟩,λl hl=>?_⟩⟩;have e0:Gw e.vs none (some 3)=[.int e.st,.int e.pn,.int e.nr]:=rfl;rw[e0] at hu;let J0:YN:=λ(i:Nat) (Z : St) (HH:Hp)=>∃v,Z=[v]/\HH l=some (.lst ((List.replicate i true).map V.bl))/\Same H1 HH;refine Xd (xs:=[.int e.st,.int e.pn,.int e.nr]) J0 ⟨_,rq,Ac,Ai hl _⟩ (λi Z HH _ h=>?_) (λi x Z HH hx h=>?_) (fun Z HH h=>?_)
 ·obtain⟨v,rfl,e1,e2⟩:=h;exact SqT.of (e2 _ _ hu)
 ·obtain⟨v,rfl,e1,e2⟩:=h;obtain⟨y,rfl⟩ : ∃y,x=.int y:=by
   have:=Qaw hx;simp only[QbN,Qbh,Qcl] at this;rcases this with rfl | rfl | rfl <;> exact⟨_,rfl⟩
  have hi:i < 3:=(Qai.mp hx).1;refine Bb ?_;refine Ce ⟨_,rq,_,rq,True.intro,_,e1,Aq (by simp;omega),_,rq,?_,e2.BL Ah.upd hl⟩;rw[Ac,QaB,Qby];rfl
 ·obtain⟨v,rfl,e1,e2⟩:=h;refine⟨l,List.replicate 3 true,rq,SqL.of e1,q _ (s1.trans e2)⟩
end
abbrev BZ:Stmt:=(inClass (top 15) 0)
abbrev CG:YF:=["self","many"]
theorem Ky:Az ["self","many"] CG (Ad BZ):=by ac_rfl
abbrev Bx:Stmt:=(inClass (top 15) 1)
abbrev BJ:YF:=["self","panel"]
theorem Ji:Az BJ BJ (Ad Bx):=by ac_rfl
abbrev DR:Stmt:=(inClass (top 15) 2)
abbrev DY:YF:=["self","link","whole"]
theorem QV:Az ["self","link","whole"] DY (Ad DR):=by ac_rfl
abbrev DW:Stmt:=(inClass (top 15) 3)
abbrev Fd:YF:=["self","link"]
theorem QW:Az Fd Fd (Ad DW):=by ac_rfl
abbrev Dm:Stmt:=(inClass (top 15) 4)
abbrev Dr:YF:=Fd
theorem Pg:Az Fd Dr (Ad Dm):=by ac_rfl
abbrev CJ:Stmt:=(inClass (top 15) 8)
abbrev BP:YF:=BJ
theorem Mi:Az BJ BP (Ad CJ):=by ac_rfl
structure Tx (K:YD) (mg:YB) (C:Addr):Prop extends Tj mg where
 cl:Cls K C
 mgC:mg "Ring"=some (.ref C)
 Jt:Gm K C "many"
 Gf:Gm K C "logs"
 Lr:Gm K C "tied"
def fr (n:Int) (L T:Addr):List (Str×V):=[("many",.int n),("logs",.ref L),("tied",.ref T)]
theorem Ot (n:Int) (L T:Addr):((fr n L T).map (·.1)).Nodup:=by show (["many","logs","tied"]:YF).Nodup;decide +kernel
theorem KJ (n:Int) (L T:Addr):List.lookup ("many":Str) (fr n L T)=some (V.int n):=Ma (i:=0) (Ot n L T) rfl
theorem Gv (n:Int) (L T:Addr):List.lookup ("logs":Str) (fr n L T)=some (V.ref L):=Ma (i:=1) (Ot n L T) rfl
theorem Qp (n:Int) (L T:Addr):List.lookup ("tied":Str) (fr n L T)=some (V.ref T):=Ma (i:=2) (Ot n L T) rfl
theorem Dt {n:Int} {L T:Addr} {f:Str} (h:f∉(["many","logs","tied"]:YF)):List.lookup f (fr n L T)=none:=XQ h
structure RAt (C:Addr) (H:Hp) (p L T:Addr) (as:List Addr) (n:Nat) (logs:List (List En)) (tied:List Bool):Prop where
 ob:∃dx,H p=some (.ins C dx (fr n L T))
 hl:H L=some (.lst (as.map V.ref))
 lg:Paired (Ay H) as logs
 ht:H T=some (.lst (tied.map V.bl))
 ln:logs.length=n
 tn:tied.length=n
 LT:L≠T
 n2:2<=n
 n4:n<=4
theorem Logs.same {H H':Hp} (s:Same H H') {as:List Addr} {gs:List (List En)} (h:Paired (Ay H) as gs):Paired (Ay H') as gs:=Paired.IK h λ_ _ z=>z.same s
theorem Ay.Bl {H H':Hp} {x a:Addr} {es:List En} (h:Ay H a es) (s:Ah x H H') (t:∀xs,H x≠some (.tup xs)) (ne:a≠x):Ay H' a es:=let ⟨vs,h1,h2⟩:=h;⟨vs,s _ _ h1 ne,Ens.tups (s.tup t) h2⟩
theorem Logs.Bl {H H':Hp} {x:Addr} (s:Ah x H H') (t:∀xs,H x≠some (.tup xs)):∀{as:List Addr} {gs:List (List En)},Paired (Ay H) as gs->x∉as->Paired (Ay H') as gs
 | _,_,.nil,_=>.nil
 | _,_,.cons a r,h=>.cons (a.Bl s t λz=>h (by rw[z];exact .head _)) (Logs.Bl s t r λz=>h (.tail _ z))
theorem RAt.same {C:Addr} {H H':Hp} {p L T:Addr} {as:List Addr} {n:Nat} {logs:List (List En)} {tied:List Bool} (h:RAt C H p L T as n logs tied) (s:Same H H'):RAt C H' p L T as n logs tied:=
 ⟨let ⟨dx,e⟩:=h.ob;⟨dx,s _ _ e⟩,s _ _ h.hl,Logs.same s h.lg,s _ _ h.ht,h.ln,h.tn,h.LT,h.n2,h.n4⟩
theorem RAt.Bl {C:Addr} {H H':Hp} {x p L T:Addr} {as:List Addr} {n:Nat} {logs:List (List En)} {tied:List Bool} (h:RAt C H p L T as n logs tied) (s:Ah x H H') (t:∀xs,H x≠some (.tup xs)) (np:p≠x) (nL:L≠x) (nT:T≠x) (na:x∉as):RAt C H' p L T as n logs tied:=
 ⟨let ⟨dx,e⟩:=h.ob;⟨dx,s _ _ e np⟩,s _ _ h.hl nL,Logs.Bl s t h.lg na,s _ _ h.ht nT,h.ln,h.tn,h.LT,h.n2,h.n4⟩
theorem Fl {H:Hp}:∀{as:List Addr} {gs:List (List En)} {a:Addr},Paired (Ay H) as gs->a∈as->∃g,Ay H a g
 | _,_,_,.nil,h=>by cases h
 | _,_,_,.cons x r,h=>by
  rcases QbN.mp h with rfl | h
  ·exact⟨_,x⟩
  ·exact Fl r h
theorem RAt.np {C:Addr} {H:Hp} {p L T:Addr} {as:List Addr} {n:Nat} {logs:List (List En)} {tied:List Bool} (h:RAt C H p L T as n logs tied):p≠L/\p≠T/\p∉as:=by
 obtain⟨dx,e⟩:=h.ob;refine⟨λz=>?_,λz=>?_,λz=>?_⟩
 ·rw[z,h.hl] at e;cases e
 ·rw[z,h.ht] at e;cases e
 ·obtain⟨g,vs,e1,_⟩:=Fl h.lg z;rw[e] at e1;cases e1
theorem RAt.pt {C:Addr} {H:Hp} {p L T:Addr} {as:List Addr} {n:Nat} {logs:List (List En)} {tied:List Bool} (h:RAt C H p L T as n logs tied):∀xs,H p≠some (.tup xs):=λxs z=>by
 obtain⟨dx,e⟩:=h.ob;rw[e] at z;cases z
theorem RAt.al {C:Addr} {H:Hp} {p L T:Addr} {as:List Addr} {n:Nat} {logs:List (List En)} {tied:List Bool} (h:RAt C H p L T as n logs tied):as.length=n:=(QbO h.lg).trans h.ln
theorem RAt.bag {C:Addr} {H:Hp} {p L T:Addr} {as:List Addr} {n m:Nat} {logs:List (List En)} {tied:List Bool} {b:Addr} (h:RAt C H p L T as n logs tied) (hb:Bv H b m):p≠b/\L≠b/\T≠b/\b∉as:=by
 obtain⟨x,y,z,e,_⟩:=hb;have hn:=h.n2;have ha:=h.al;have ht:=h.tn;refine⟨λw=>?_,λw=>?_,λw=>?_,λw=>?_⟩
 ·obtain⟨dx,e1⟩:=h.ob;rw[w,e] at e1;cases e1
 ·have e1:=h.hl;rw[w,e] at e1
  match as,ha with
  | a::r,_=>cases e1
  | [],ha=>rw[<-ha] at hn;cases hn
 ·have e1:=h.ht;rw[w,e] at e1
  match tied,ht with
  | a::r,_=>cases e1
  | [],ha=>rw[<-ha] at hn;cases hn
 ·obtain⟨g,vs,e1,r⟩:=Fl h.lg w;rw[e] at e1;cases e1;cases r with
  | cons q _=>obtain⟨t,e2,_⟩:=q;cases e2
inductive O6 (C:Addr) (vs:YG) (H:Hp) (Q:VK) (E:XK):Prop
 | mk (p dx:Addr) (n:Nat) (_:vs=[.ref p,.int n]) (_:H p=some (.ins C dx [])) (_:2<=n) (_:n<=4) (_:∀L T as H',H L=none->H T=none->(∀a∈as,H a=none)->RAt C H' p L T as n (List.replicate n []) (List.replicate n true)->Ah p H H'->Q .non H'):O6 C vs H Q E
inductive JF (C:Addr) (vs:YG) (H:Hp) (Q:VK) (E:XK):Prop
 | mk (p L T:Addr) (as:List Addr) (n q:Nat) (logs:List (List En)) (tied:List Bool) (_:vs=[.ref p,.int q]) (_:RAt C H p L T as n logs tied) (_:q < n) (_:Q .non H):JF C vs H Q E
inductive Oe (C:Addr) (vs:YG) (H:Hp) (Q:VK) (E:XK):Prop
 | mk (p L T:Addr) (as:List Addr) (n q:Nat) (b:Bool) (logs:List (List En)) (tied:List Bool) (_:vs=[.ref p,.int q,.bl b]) (_:RAt C H p L T as n logs tied) (_:q < n) (_:∀H',RAt C H' p L T as n logs (tied.set q b)->Ah T H H'->Q .non H'):Oe C vs H Q E
inductive JD (C:Addr) (b:Bool) (vs:YG) (H:Hp) (Q:VK) (E:XK):Prop
 | mk (p L T:Addr) (as:List Addr) (n q:Nat) (logs:List (List En)) (tied:List Bool) (_:vs=[.ref p,.int q]) (_:RAt C H p L T as n logs tied) (_:q < n) (_:∀H',RAt C H' p L T as n logs (tied.set q b)->Ah T H H'->Q .non H'):JD C b vs H Q E
inductive G9 (C:Addr) (vs:YG) (H:Hp) (Q:VK) (E:XK):Prop
 | mk (p L T:Addr) (as:List Addr) (n q:Nat) (logs:List (List En)) (tied:List Bool) (g:List En) (_:vs=[.ref p,.int q]) (_:RAt C H p L T as n logs tied) (_:logs[q]?=some g) (_:∀l H',H l=none->Ay H' l g->Same H H'->Q (.ref l) H'):G9 C vs H Q E
theorem Xp {q n:Nat} (h:q < n):wiB (.int q) 0 ((n:Int) - 1)=true:=by
 show (decide ((0:Int)<=(q:Int))&&decide ((q:Int)<=(n:Int) - 1))=true;rw[QbJ (by omega),QbJ (by omega)];rfl
theorem El {α β : Type} {F:α->β->Prop}:∀{l:List α} {m:List β} {i:Nat} {y:β},Paired F l m->m[i]?=some y->∃x,l[i]?=some x/\F x y
 | _,_,_,_,.nil,h=>by cases h
 | _,_,0,_,.cons a r,h=>by cases h;exact⟨_,rfl,a⟩
 | _,_,i+1,_,.cons a r,h=>El (i:=i) r h
theorem ixn {n q:Nat} (h:q < n):ixN n (q:Int)=some q:=by
 unfold ixN;rw[if_pos (by omega),if_pos (by omega)];rfl
section
variable {P:Program} {w:World} {K:YD} {mg:YB} {base:Heap} {C:Addr}
theorem Yx (F:∃f fd,Fun K "__init__" "Ring.__init__" BZ f fd/\Mk K C f/\Binds K fd CG []) (T:Tx K mg C):T8 P w K mg base C 1 CG (O6 C):=by
 obtain⟨f,fd,F,Mk,b⟩:=F;refine⟨f,fd,Mk,b,F.ok Ky (λvs H Q E h=>?_) (λcdv A outer s H vs Q E hr h=>?_)⟩
 ·obtain⟨p,dx,n,rfl,_⟩:=h;rfl
 obtain⟨p,dx,n,rfl,hp,n2,n4,q⟩:=h;refine⟨_,(Ae (JK (pv 0) (pv 1) rfl)
 (Ae (JK (pv 0) (Cz (N':=["panel"]) rfl (Bp.plain rfl (by trivial) (by trivial) (by trivial)) (BW rfl T.range (Aa (pv 1) Ab)) (λ_ _ _ _=>(Ao (i:=0) (show List.Nodup (["panel"]:YF) by trivial) rfl (Or.inl rfl))) (λ_ _ _ _=>Fg) (λ_ _ _ _=>(Gb Ab))) rfl)
 (Ag (JK (pv 0) (Cz (N':=["link"]) rfl (Bp.plain rfl (by trivial) (by trivial) (by trivial)) (BW rfl T.range (Aa (pv 1) Ab)) (λ_ _ _ _=>(Ao (i:=0) (show List.Nodup (["link"]:YF) by trivial) rfl (Or.inl rfl))) (λ_ _ _ _=>Fg) (λ_ _ _ _=>Cp)) rfl)))),?_⟩
 show let R0:TS:=_;let R1:TS:=Ak _ R0;Ak _ R1 _ _ _;intro R0 R1;refine⟨_,rq,_,rq,p,C,dx,_,_,rq,hp,T.cl,T.Jt,(by show 0 < 1000;decide),LR (by show _∉([]:YF);decide +kernel),λH1 h1 s1=>?_⟩;refine⟨_,rq,_,rq,by omega,by omega,λL hL=>?_⟩;have fL:H L=none:=s1.free ⟨_,h1⟩ hL;let J0:YN:=λ(i:Nat) (Z : St) (HH:Hp)=>∃(u:Option V) (as:List Addr),Z=[u]/\HH L=some (.lst (as.map V.ref))/\Paired (Ay HH) as (List.replicate i [])/\(∀a∈as,H1 a=none)/\L∉as/\Same H1 HH;refine Gj J0 ⟨_,[],rq,Ac,.nil,(λa ha=>by cases ha),(λz=>by cases z),Ai hL _⟩ (λi Z HH hi h=>?_) (fun Z HH h=>?_)
 ·obtain⟨u,as,rfl,e1,e2,e3,e4,e5⟩:=h;refine Bb (Ce ⟨Cd (by show 0<=1000;decide),λa ha=>?_⟩);have al:=QbO e2;rw[Qav] at al;have s6:=Ai ha (.lst []);have nLa:L≠a:=Bm e1 ha;have e6:(upd HH a (.lst [])) a=some (.lst []):=Ac;have e1':=s6 _ _ e1;have e2':=Logs.same s6 e2;have ea:H1 a=none:=e5.free ha;have e5':=e5.trans s6;generalize upd HH a (.lst [])=H6 at *;have tL:∀xs,H6 L≠some (.tup xs):=λxs z=>by rw[e1'] at z;cases z
  refine⟨_,e1',Aq (by rw[Qbu];omega),_,as++[a],rq,by rw[Ac,Qby];rfl,?_,?_,?_,e5'.BL Ah.upd hL⟩
  ·rw[QaB];exact CK (Logs.Bl Ah.upd tL e2' e4) (.cons (Ay.Bl ⟨[],e6,.nil⟩ Ah.upd tL nLa.symm) .nil)
  ·intro z hz;rcases Qbw.mp hz with hz | hz
   ·exact e3 z hz
   ·rw[QaJ.mp hz];exact ea
  ·intro z;rcases Qbw.mp z with z | z
   ·exact e4 z
   ·exact nLa (QaJ.mp z)
 obtain⟨u,as,rfl,e1,e2,e3,e4,e5⟩:=h;rw[Qba] at e2;have hp2:=e5 _ _ h1;refine⟨_,rq,p,C,dx,_,_,rq,hp2,T.cl,T.Gf,(by show 1 < 1000;decide),LR (by show _∉(["many"]:YF);decide +kernel),λH3 h3 s3=>?_⟩;refine⟨_,rq,_,rq,by omega,by omega,λTT hT=>?_⟩;have hL3:H3 L=some (.lst (as.map V.ref)):=s3 _ _ e1 (λz=>by rw[<-z,e1] at hp2;cases hp2);have pt:∀xs,HH p≠some (.tup xs):=λxs z=>by rw[hp2] at z;cases z
 have npa:p∉as:=λz=>by have:=e3 p z;rw[h1] at this;cases this
 have lg3:=Logs.Bl s3 pt e2 npa;have ft:∀x,H3 x=none->H x=none:=λx hx=>s1.free ⟨_,h1⟩ (e5.free (s3.free ⟨_,h3⟩ hx));have fT:=ft TT hT;let J1:YN:=λ(i:Nat) (Z : St) (HX:Hp)=>∃(u:Option V),Z=[u]/\HX TT=some (.lst ((List.replicate i true).map V.bl))/\Same H3 HX;refine Gj J1 ⟨_,rq,Ac,Ai hT _⟩ (λi Z HX hi h=>?_) (fun Z HX h=>?_)
 ·obtain⟨u,rfl,g1,g2⟩:=h;refine Bb (Ce ⟨_,g1,Aq (by simp;omega),_,rq,?_,g2.BL Ah.upd hT⟩);rw[Ac,QaB,Qby];rfl
 obtain⟨u,rfl,g1,g2⟩:=h;rw[Qba] at g1;have h3X:=g2 _ _ h3;refine⟨_,rq,p,C,dx,_,_,rq,h3X,T.cl,T.Lr,(by show 2 < 1000;decide),LR (by show _∉(["many","logs"]:YF);decide +kernel),λH4 h4 s4=>?_⟩;have hLX:=g2 _ _ hL3;have npL:L≠p:=λz=>by rw[<-z,hL3] at h3;cases h3
 have npT:TT≠p:=λz=>by rw[z,h3X] at g1;cases g1
 have nLT:L≠TT:=λz=>by rw[z] at hL3;rw[hL3] at hT;cases hT
 have ptX:∀xs,HX p≠some (.tup xs):=λxs z=>by rw[h3X] at z;cases z
 refine q L TT as H4 fL fT (λa ha=>s1.free ⟨_,h1⟩ (e3 a ha)) ⟨⟨dx,h4⟩,s4 _ _ hLX npL,Logs.Bl s4 ptX (Logs.same g2 lg3) npa,s4 _ _ g1 npT,Qav,Qav,nLT,n2,n4⟩ ?_;exact ((s1.trans (Ah.of e5)).trans (s3.trans (Ah.of g2))).trans s4
theorem Wv (c:Dc K C "check_panel" "Ring.check_panel" Bx BJ) (T:Tx K mg C) (Ig:Good P w K mg base "is_within" 2 Ef Ir):Bu P w K mg base C "check_panel" 3 BJ (JF C):=by
 refine c.good Ji (λvs H Q E h=>?_) (λf cdv A outer s H vs Q E hr h=>?_)
 ·obtain⟨p,L,T,as,n,q,logs,tied,rfl,_⟩:=h;rfl
 obtain⟨p,L,TT,as,n,q,logs,tied,rfl,R,hq,q'⟩:=h;refine⟨_,(Ag (Ca (CN (CW (GJ Ig hr (Aa (pv 1) (Aa Af (Aa (Ar Ln (Eo (pv 0) rfl) Af) Ab)))))) (Ag Iw) Bq)),?_⟩;obtain⟨dx,ob⟩:=R.ob;refine⟨_,rq,_,rq,p,C,dx,_,_,rq,ob,T.cl,T.Jt,KJ _ _ _,_,_,rq,rq,_,0,(n:Int) - 1,rq,True.intro,_,rq,?_⟩;rw[Xp hq];exact Bs q'
theorem ZW (c:Dc K C "tie" "Ring.tie" DR DY) (T:Tx K mg C) (Ig:Good P w K mg base "is_within" 2 Ef Ir):Bu P w K mg base C "tie" 3 DY (Oe C):=by
 refine c.good QV (λvs H Q E h=>?_) (λf cdv A outer s H vs Q E hr h=>?_)
 ·obtain⟨p,L,T,as,n,q,b,logs,tied,rfl,_⟩:=h;rfl
 obtain⟨p,L,TT,as,n,q,b,logs,tied,rfl,R,hq,q'⟩:=h;refine⟨_,(Ae (Ca (CN (CW (GJ Ig hr (Aa (pv 1) (Aa Af (Aa (Ar Ln (Eo (pv 0) rfl) Af) Ab)))))) (Ag Iw) Bq)
 (Ag (Ec (pv 2) (Em (Eo (pv 0) rfl) (pv 1) set_list)))),?_⟩
 show let R0:TS:=_;Ak _ R0 _ _ _;intro R0;obtain⟨dx,ob⟩:=R.ob;refine⟨_,rq,_,rq,p,C,dx,_,_,rq,ob,T.cl,T.Jt,KJ _ _ _,_,_,rq,rq,_,0,(n:Int) - 1,rq,True.intro,_,rq,?_⟩;rw[Xp hq];refine Bs ?_;refine⟨_,rq,_,rq,p,C,dx,_,_,rq,ob,T.cl,T.Lr,Qp _ _ _,_,rq,TT,_,_,q,rq,rq,R.ht,ixn (by rw[Qbu,R.tn];exact hq),?_⟩;have tt:∀xs,H TT≠some (.tup xs):=λxs z=>by rw[R.ht] at z;cases z
 have nta:TT∉as:=λz=>by
  obtain⟨g,vs,e1,r⟩:=Fl R.lg z;rw[R.ht] at e1;cases e1;have:=R.tn;have:=R.n2
  match tied,r with
  | [],_=>simp at *;omega
  | x::y,.cons q _=>obtain⟨t,e2,_⟩:=q;cases e2
 exact q' _ ⟨⟨dx,by rw[Al R.np.2.1];exact ob⟩,by rw[Al R.LT];exact R.hl,Logs.Bl Ah.upd tt R.lg nta,by rw[Ac,Qcc],R.ln,by rw[QbC];exact R.tn,R.LT,R.n2,R.n4⟩ Ah.upd
theorem Z0 (c:Dc K C "cut" "Ring.cut" DW Fd) (T:Tx K mg C) (M4:Bu P w K mg base C "tie" 3 DY (Oe C)):Bu P w K mg base C "cut" 4 Fd (JD C false):=by
 refine c.good QW (λvs H Q E h=>?_) (λf cdv A outer s H vs Q E hr h=>?_)
 ·obtain⟨p,L,T,as,n,q,logs,tied,rfl,_⟩:=h;rfl
 obtain⟨p,L,TT,as,n,q,logs,tied,rfl,R,hq,q'⟩:=h;refine⟨_,(Ag (Df (SM (pv 0) T.cl M4 hr (Aa (pv 1) (Aa Cp Ab))))),?_⟩;obtain⟨dx,ob⟩:=R.ob;exact⟨_,rq,p,dx,_,rq,ob,Dt (by trivial),_,rq,p,L,TT,as,n,q,false,logs,tied,rq,R,hq,q'⟩
theorem Yw (c:Dc K C "mend" "Ring.mend" Dm Dr) (T:Tx K mg C) (M4:Bu P w K mg base C "tie" 3 DY (Oe C)):Bu P w K mg base C "mend" 4 Dr (JD C true):=by
 refine c.good Pg (λvs H Q E h=>?_) (λf cdv A outer s H vs Q E hr h=>?_)
 ·obtain⟨p,L,T,as,n,q,logs,tied,rfl,_⟩:=h;rfl
 obtain⟨p,L,TT,as,n,q,logs,tied,rfl,R,hq,q'⟩:=h;refine⟨_,(Ag (Df (SM (pv 0) T.cl M4 hr (Aa (pv 1) (Aa Cp Ab))))),?_⟩;obtain⟨dx,ob⟩:=R.ob;exact⟨_,rq,p,dx,_,rq,ob,Dt (by trivial),_,rq,p,L,TT,as,n,q,true,logs,tied,rq,R,hq,q'⟩
theorem UW (c:Dc K C "log_of" "Ring.log_of" CJ BP) (T:Tx K mg C) (Gg:Bu P w K mg base C "check_panel" 3 BJ (JF C)):Bu P w K mg base C "log_of" 4 BP (G9 C):=by
 refine c.good Mi (λvs H Q E h=>?_) (λf cdv A outer s H vs Q E hr h=>?_)
 ·obtain⟨p,L,T,as,n,q,logs,tied,g,rfl,_⟩:=h;rfl
 obtain⟨p,L,TT,as,n,q,logs,tied,g,rfl,R,hg,q'⟩:=h;refine⟨_,(Ae (Df (GC (pv 0) T.cl Gg hr (Aa (pv 1) Ab)))
 (Ag (Bc (HS Jy rfl T.list Kc (Aa (Bj Br (Eo (pv 0) rfl) (pv 1) (λ_ _=>rfl)) Ab))))),?_⟩
 show let R0:TS:=_;Ak _ R0 _ _ _;intro R0;obtain⟨dx,ob⟩:=R.ob;obtain⟨a,ha,lg⟩:=El R.lg hg;obtain⟨vs,hvs,pvs⟩:=lg;have hq:q < n:=by rw[<-R.ln];exact (Qai.mp hg).1
 refine⟨_,rq,p,dx,_,rq,ob,Dt (by trivial),_,rq,p,L,TT,as,n,q,logs,tied,rq,R,hq,?_⟩;refine⟨_,rq,p,C,dx,_,_,rq,ob,T.cl,T.Gf,Gv _ _ _,_,rq,L,_,_,_,rq,rq,SqL.of R.hl,Fe (by rw[Qbb,ha];rfl),a,vs,rq,.inl (SqL.of hvs),λl hl=>?_⟩;exact q' l _ hl ⟨vs,Ac,Ens.tups (Bh.of (Ai hl _)) pvs⟩ (Ai hl _)
end
abbrev Cu:Stmt:=(inClass (top 15) 5)
abbrev Dy:YF:=["self"]
theorem NZ:Az ["self"] Dy (Ad Cu):=by ac_rfl
abbrev Cr:Stmt:=(inClass (top 15) 6)
abbrev Dw:YF:=["self","panel","text"]
abbrev xl:YF:=["self","panel","text","log","stamp","entry"]
theorem Fp:Az xl Dw (Ad Cr):=by ac_rfl
def T6 (H:Hp) (v:V) (d:Nat×Nat):Prop:=∃t,v=.ref t/\H t=some (.tup [.int d.1,.int d.2])
theorem Prs.tups {H H':Hp} (s:Bh H H') {vs:YG} {ds:List (Nat×Nat)} (h:Paired (T6 H) vs ds):Paired (T6 H') vs ds:=Paired.IK h λ_ _ z=>let ⟨t,e,q⟩:=z;⟨t,e,s _ _ q⟩
def prs (n:Nat) (tied:List Bool) (i:Nat):List (Nat×Nat):=((List.range i).filter λj=>tied.getD j false).map λj=>(j,(j+1) % n)
theorem Pq (n:Nat) (tied:List Bool) (i:Nat):prs n tied (i+1)=prs n tied i++if tied.getD i false=true then [(i,(i+1) % n)] else []:=by
 unfold prs;rw[List.range_succ,QaQ,Qby];congr 1;by_cases h:tied.getD i false=true
 ·rw[if_pos h];simp only[Qbt,h,if_true,QbI,QbP,Qca]
 ·rw[if_neg h];simp only[Qbt,h,if_false,QbI,Qca];simp[h]
theorem Yk (n:Nat) (tied:List Bool) (i:Nat):(prs n tied i).length<=i:=by
 unfold prs;rw[Qbu];exact QbW (Qat ..) (by rw[Qbf];exact Qcd _)
inductive Mh (C:Addr) (vs:YG) (H:Hp) (Q:VK) (E:XK):Prop
 | mk (p L T:Addr) (as:List Addr) (n:Nat) (logs:List (List En)) (tied:List Bool) (_:vs=[.ref p]) (_:RAt C H p L T as n logs tied) (_:∀l H' ws,H l=none->H' l=some (.lst ws)->Paired (T6 H') ws (prs n tied n)->Same H H'->Q (.ref l) H'):Mh C vs H Q E
def QJ (g:List En) (s:Int):Prop:=(g=[]/\s=0)\/((∃e∈g,s=e.st+1)/\∀f∈g,f.st < s)
def Aj (g:List En) (q:Nat):List En:=g.filter λe=>decide (e.pn=(q:Int))
inductive Mg (C:Addr) (vs:YG) (H:Hp) (Q:VK) (E:XK):Prop
 | mk (p L T:Addr) (as:List Addr) (n q:Nat) (logs:List (List En)) (tied:List Bool) (g:List En) (z:Str) (_:vs=[.ref p,.int q,.str z]) (_:RAt C H p L T as n logs tied) (_:logs[q]?=some g) (_:K1 z) (_:g.length < 64) (_:∀(t a:Addr) (H':Hp) (st:Int),QJ g st->H a=none->H' t=some (.tup (En.vs ⟨st,q,(Aj g q).length,z⟩))->RAt C H' p L T (as.set q a) n (logs.set q (g++[⟨st,q,(Aj g q).length,z⟩])) tied->Ah L H H'->Q (.ref t) H'):Mg C vs H Q E
theorem Pr {α β : Type} {F:α->β->Prop}:∀{l:List α} {m:List β} {i:Nat} {x:α} {y:β},Paired F l m->F x y->Paired F (l.set i x) (m.set i y)
 | _,_,_,_,_,.nil,_=>.nil
 | _,_,0,_,_,.cons a r,h=>.cons h r
 | _,_,i+1,_,_,.cons a r,h=>.cons a (Pr (i:=i) r h)
section
variable {P:Program} {w:World} {K:YD} {mg:YB} {base:Heap} {C:Addr}
abbrev xh:YF:=["link","whole","self"]
theorem Wt (c:Dc K C "pairs" "Ring.pairs" Cu Dy) (T:Tx K mg C):Bu P w K mg base C "pairs" 1 Dy (Mh C):=by
 refine c.good NZ (λvs H Q E h=>?_) (λf cdv A outer s H vs Q E hr h=>?_)
 ·obtain⟨p,L,T,as,n,logs,tied,rfl,_⟩:=h;rfl
 obtain⟨p,L,TT,as,n,logs,tied,rfl,R,q⟩:=h;refine⟨_,(Ag (Bc (Cz (N':=xh) rfl (Bp.of (src:=[none,none,some 0]) (Ad Cu) ["self"] rfl rfl rfl (by trivial) (by trivial) (by trivial) rfl (by trivial)) (Us rfl T.enumerate (Eo (pv 0) rfl)) (λ_ _ _ _=>(Yn (K:=K) (n:=2) rfl rfl (Dq (Ao (i:=0) (show List.Nodup (xh:YF) by trivial) rfl (Or.inl rfl)) (Dq (Ao (i:=1) (show List.Nodup (xh:YF) by trivial) rfl (Or.inl rfl)) JM)))) (λ_ _ _ _=>(Ho (CW (pv 1)))) (λ_ _ _ _=>(Jq (Aa (pv 0) (Aa (Ar Et (Ar Cv (pv 0) Af) (Ys (K:=K) rfl (pv 2) rfl)) Ab))))))),?_⟩;obtain⟨dx,ob⟩:=R.ob;have n2:=R.n2;have n4:=R.n4;have tn:=R.tn;refine⟨_,rq,p,C,dx,_,_,rq,ob,T.cl,T.Lr,Qp _ _ _,TT,rq,⟨_,SqL.of R.ht⟩,λl hl=>?_⟩;let J0:YN:=λ(i:Nat) (Z : St) (HH:Hp)=>∃(u v:Option V) (ws:YG),Z=[u,v,js p]/\HH l=some (.lst ws)/\Paired (T6 HH) ws (prs n tied i)/\Same H HH;refine TX (xs:=tied.map V.bl) J0 ⟨_,_,[],rq,Ac,.nil,Ai hl _⟩ (λi Z HH _ h=>?_) (λi x t Z HH hx h ht=>?_) (fun Z HH h=>?_)
 ·obtain⟨u,v,ws,rfl,e1,e2,e3⟩:=h;exact SqL.of (e3 _ _ R.ht)
 ·obtain⟨u,v,ws,rfl,e1,e2,e3⟩:=h;have hi:i < tied.length:=by have:=(Qai.mp hx).1;rw[Qbu] at this;exact this
  have hx':x=.bl (tied.getD i false):=by
   rw[Qbb,Qam hi] at hx;rw[Qaf,Qam hi];exact (Qbx hx).symm
  subst hx';have s4:=Ai ht (.tup [.int ((0+i:Nat):Int),.bl (tied.getD i false)]);have h4:(upd HH t (.tup [.int ((0+i:Nat):Int),.bl (tied.getD i false)])) t=some (.tup [.int ((0+i:Nat):Int),.bl (tied.getD i false)]):=Ac;have e1':=s4 _ _ e1;have e2':=Prs.tups (Bh.of s4) e2;have e3':=e3.trans s4;generalize upd HH t (.tup [.int ((0+i:Nat):Int),.bl (tied.getD i false)])=H4 at *;have wl:ws.length<=i:=by rw[QbO e2];exact Yk n tied i
  refine⟨t,_,rq,SqT.of h4,rq,_,_,rq,_,_,rq,rq,?_⟩;refine⟨_,rq,_,rq,?_⟩;cases hb:tied.getD i false with
  | false=>
   refine Bs ⟨_,_,ws,rq,e1',?_,e3'⟩;rw[Pq,hb,if_neg QaK,QbE];exact e2'
  | true=>
   refine Ce ⟨_,rq,_,rq,_,_,rq,rq,_,rq,p,C,dx,_,_,rq,e3' _ _ ob,T.cl,T.Jt,KJ _ _ _,_,_,rq,rq,(by omega),Cd (by show 2<=1000;decide),λk hk=>?_⟩;have ek:(((0+i:Nat):Int)+1) % (n:Int)=(((i+1) % n:Nat):Int):=by
    rw[Nat.zero_add];exact (Int.natCast_emod _ _).symm
   have eo:HO.tup [.int ((0+i:Nat):Int),(λi j:Int=>V.int (i % j)) (((0+i:Nat):Int)+1) (n:Int)]=HO.tup [.int (i:Int),.int (((i+1) % n:Nat):Int)]:=by
    rw[<-ek,Nat.zero_add]
   rw[eo];have s5:=Ai hk (.tup [.int (i:Int),.int (((i+1) % n:Nat):Int)]);have h5:(upd H4 k (.tup [.int (i:Int),.int (((i+1) % n:Nat):Int)])) k=some (.tup [.int (i:Int),.int (((i+1) % n:Nat):Int)]):=Ac;have Qw:=s5 _ _ e1';have jN:=Prs.tups (Bh.of s5) e2';have jM:=e3'.trans s5;generalize upd H4 k (.tup [.int (i:Int),.int (((i+1) % n:Nat):Int)])=H5 at *;have tl:∀xs,H5 l≠some (.tup xs):=λxs z=>by rw[Qw] at z;cases z
   refine⟨ws,Qw,Aq (by omega),_,_,ws++[.ref k],rq,Ac,?_,jM.BL Ah.upd hl⟩;rw[Pq,hb,if_pos rfl];exact Prs.tups (Bh.upd tl) (CK jN (.cons ⟨k,rq,h5⟩ .nil))
 ·obtain⟨u,v,ws,rfl,e1,e2,e3⟩:=h;rw[Qbu,tn] at e2;exact q l _ ws hl e1 e2 e3
theorem Wq (c:Dc K C "write" "Ring.write" Cr Dw) (T:Tx K mg C) (Gg:Bu P w K mg base C "check_panel" 3 BJ (JF C)) (Vu:Good P w K mg base "is_line" 1 GR Ku):Bu P w K mg base C "write" 4 Dw (Mg C):=by
 refine c.good Fp (λvs H Q E h=>?_) (λf cdv A outer s H vs Q E hr h=>?_)
 ·obtain⟨p,L,T,as,n,q,logs,tied,g,z,rfl,_⟩:=h;rfl
 obtain⟨p,L,TT,as,n,q,logs,tied,g,z,rfl,R,hg,hz,few,q'⟩:=h;refine⟨_,(Ae (Df (GC (pv 0) T.cl Gg hr (Aa (pv 1) Ab)))
 (Ae (Ca (CN (CW (GJ Vu hr (Aa (pv 2) (Aa Af (Aa (Uu rfl T.MOST_SIGNS) Ab)))))) (Ag Iw) Bq)
 (Ae (Ba (i:=3) Fp.nd rfl (Or.inl rfl) (Bj Br (Eo (pv 0) rfl) (pv 1) (λ_ _=>rfl)))
 (Ae (Ba (i:=4) Fp.nd rfl (Or.inl rfl) (Ar Cv (Yp rfl rfl T.max (Cz (N':=["entry"]) rfl (Bp.plain rfl (by trivial) (by trivial) (by trivial)) (Cw (pv 3)) (λ_ _ _ _=>(Ao (i:=0) (show List.Nodup (["entry"]:YF) by trivial) rfl (Or.inl rfl))) (λ_ _ _ _=>Fg) (λ_ _ _ _=>(Bj (FZ (K:=K) rfl) (pv 0) Af (λ_ _=>rfl)))) (cu Zk Af)) Af))
 (Ae (Ba (i:=5) Fp.nd rfl (Or.inl rfl) (Jq (Aa (pv 4) (Aa (pv 1) (Aa (Am Bg rfl T.len CQ (Aa (Cz (N':=["known","panel"]) rfl (Bp.of (src:=[none,some 1]) (Ad Cr) xl rfl rfl rfl (by trivial) (by trivial) (by trivial) rfl (by trivial)) (Cw (pv 3)) (λ_ _ _ _=>(Ao (i:=0) (show List.Nodup (["known","panel"]:YF) by trivial) rfl (Or.inl rfl))) (λ_ _ _ _=>(Ho (Bw G7 (Bj (FZ (K:=K) rfl) (pv 0) Af (λ_ _=>rfl)) (pv 1) (Bo _)))) (λ_ _ _ _=>(pv 0))) Ab)) (Aa (pv 2) Ab))))))
 (Ae (Ec (Ar UG (pv 3) (Gb (Aa (pv 5) Ab))) (Em (Eo (pv 0) rfl) (pv 1) set_list))
 (Ag (Bc (pv 5))))))))),?_⟩
 show let R0:TS:=Ak _ _;let R1:TS:=Ak _ R0;let R2:TS:=Ak _ R1;let R3:TS:=Ak _ R2;let R4:TS:=Ak _ R3;Ak _ R4 _ _ _;intro R0 R1 R2 R3 R4;obtain⟨dx,ob⟩:=R.ob;have hq:q < n:=by rw[<-R.ln];exact (Qai.mp hg).1
 have z20:=hz.l2;refine⟨_,rq,p,dx,_,rq,ob,Dt (by trivial),_,rq,p,L,TT,as,n,q,logs,tied,rq,R,hq,?_⟩;refine⟨_,rq,.str z,rq,True.intro,(λy e=>by cases e;omega),λH1 s1=>⟨_,rq,?_⟩⟩;rw[hz.ln];refine Bs ?_;have Rg:=R.same s1;have ob1:=s1 _ _ ob;obtain⟨a,ha,vs,hvs,pvs⟩:=El Rg.lg hg;have hat:atI (as.map V.ref) (q:Int)=some (.ref a):=Fe (by rw[Qbb,ha];rfl);refine⟨_,rq,p,C,dx,_,_,rq,ob1,T.cl,T.Gf,Gv _ _ _,_,rq,L,_,_,_,rq,rq,SqL.of Rg.hl,hat,?_⟩;have vl:=QbO pvs;refine Bb ?_;refine⟨_,rq,a,rq,⟨_,SqL.of hvs⟩,λl1 hl1=>?_⟩;let J1:YN:=λ(i:Nat) (Z : St) (HH:Hp)=>∃(u:Option V),Z=[u]/\HH l1=some (.lst (((g.take i).map En.st).map V.int))/\Same H1 HH;refine Dk (xs:=vs) J1 ⟨_,rq,Ac,Ai hl1 _⟩ (λi Z HH _ h=>?_) (λi x Z HH hx h=>?_) (fun Z HH h=>?_)
 ·obtain⟨u,rfl,e1,e2⟩:=h;exact SqL.of (e2 _ _ hvs)
 ·obtain⟨u,rfl,e1,e2⟩:=h;obtain⟨e,he,t,rfl,ht⟩:=DX pvs hx;refine Bb (Ce ⟨_,rq,t,_,_,_,rq,rq,SqT.of (e2 _ _ ht),rq,_,e1,Aq (by rw[Qbu,Qbu,Qbj];omega),_,rq,?_,e2.BL Ah.upd hl1⟩);rw[Ac,Qck he,Qby,Qby];rfl
 obtain⟨u,rfl,e1,s2⟩:=h;rw[vl,Qbk] at e1;have cont:∀st:Int,QJ g st->R1 { nx:=λx H'=>Q V.non H',rt:=Q } [js p,some (.int q),some (.str z),js a,some (.int st),none] HH:=λst hst=>by
  refine⟨_,rq,_,rq,_,rq,a,rq,⟨_,SqL.of (s2 _ _ hvs)⟩,λl2 hl2=>?_⟩;let J2:YN:=λ(i:Nat) (Z : St) (HX:Hp)=>∃(u:Option V) (ws:YG),Z=[u,some (.int q)]/\HX l2=some (.lst ws)/\ws.length=(Aj (g.take i) q).length/\Same HH HX;refine Dk (xs:=vs) J2 ⟨_,[],rq,Ac,rq,Ai hl2 _⟩ (λi Z HX _ h=>?_) (λi x Z HX hx h=>?_) (fun Z HX h=>?_)
  ·obtain⟨u,ws,rfl,g1,g2,g3⟩:=h;exact SqL.of (g3 _ _ (s2 _ _ hvs))
  ·obtain⟨u,ws,rfl,g1,g2,g3⟩:=h;obtain⟨e,he,t,rfl,ht⟩:=DX pvs hx;have lw:ws.length<=64:=by
    have:(Aj (g.take i) q).length<=(g.take i).length:=Qat ..;rw[Qbj] at this;omega
   refine Bb ⟨_,rq,t,_,_,_,rq,rq,SqT.of (g3 _ _ (s2 _ _ ht)),rq,_,rq,rq,_,rq,?_⟩;have eo:Aj (g.take (i+1)) q=Aj (g.take i) q++if e.pn=(q:Int) then [e] else []:=by
    unfold Aj;rw[Qck he,QaQ];congr 1;by_cases c:e.pn=(q:Int)
    ·rw[if_pos c];simp[c]
    ·rw[if_neg c];simp[c]
   by_cases c:e.pn=(q:Int)
   ·rw[if_pos c] at eo;rw[QbJ (by rw[c])];refine Ce ⟨_,rq,ws,g1,Aq (by omega),_,ws++[.ref t],rq,Ac,?_,g3.BL Ah.upd hl2⟩;rw[eo,QaL,QaL,g2];rfl
   ·rw[if_neg c,QbE] at eo;rw[Qbv (λz=>c (V.int.inj z))];exact Bs ⟨_,ws,rq,g1,by rw[eo];exact g2,g3⟩
  obtain⟨u,ws,rfl,g1,g2,g3⟩:=h;rw[vl,Qbk] at g2;refine⟨l2,_,rq,.inl (SqL.of g1),_,rq,Cd (by show 4<=1000;decide),λt ht=>?_⟩;rw[show ((ws.length:Nat):Int)=(((Aj g q).length:Nat):Int) by rw[g2]];have s4:=Ai ht (.tup (En.vs ⟨st,q,(Aj g q).length,z⟩));have h4:(upd HX t (.tup (En.vs ⟨st,q,(Aj g q).length,z⟩))) t=some (.tup (En.vs ⟨st,q,(Aj g q).length,z⟩)):=Ac;have s04:Same H (upd HX t (.tup (En.vs ⟨st,q,(Aj g q).length,z⟩))):=((s1.trans s2).trans g3).trans s4;have sa4:=((s2.trans g3).trans s4);show G8 5 (.ref t) _ (upd HX t (.tup (En.vs ⟨st,q,(Aj g q).length,z⟩))) _;generalize upd HX t (.tup (En.vs ⟨st,q,(Aj g q).length,z⟩))=H4 at *;refine Bb ⟨_,rq,_,rq,Cd (by show 1<=1000;decide),λl3 hl3=>?_⟩;have s5:=Ai hl3 (.lst [.ref t]);have h5:(upd H4 l3 (.lst [.ref t])) l3=some (.lst [.ref t]):=Ac;generalize upd H4 l3 (.lst [.ref t])=H5 at *;refine⟨a,l3,vs,_,rq,rq,s5 _ _ (sa4 _ _ hvs),h5,Cd (by simp;omega),λa' ha'=>?_⟩;have s6:=Ai ha' (.lst (vs++[.ref t]));have h6:(upd H5 a' (.lst (vs++[.ref t]))) a'=some (.lst (vs++[.ref t])):=Ac;have s06:=(s04.trans s5).trans s6;have fa:H a'=none:=(s04.trans s5).free ha';have h46:=s6 _ _ (s5 _ _ h4);generalize upd H5 a' (.lst (vs++[.ref t]))=H6 at *;have R6:=R.same s06;refine⟨_,rq,p,C,dx,_,_,rq,s06 _ _ ob,T.cl,T.Gf,Gv _ _ _,_,rq,L,_,_,q,rq,rq,R6.hl,ixn (by rw[Qbu,R.al];exact hq),?_⟩;have tl:∀xs,H6 L≠some (.tup xs):=λxs z=>by rw[R6.hl] at z;cases z
  have nLa:L∉as:=λz=>by
   obtain⟨g',vs',e1',r'⟩:=Fl R6.lg z;rw[R6.hl] at e1';cases e1'
   match as,ha,R.al,r',z with
   | x::y,_,_,.cons q' _,z=>
    obtain⟨t',e2',e3'⟩:=q';cases e2';obtain⟨g'',vs'',Qw,_⟩:=Fl R6.lg (.head _);rw[e3'] at Qw;cases Qw
  have iT:a'≠L:=λz=>by rw[z,R.hl] at fa;cases fa
  have pv6:Paired (CT H6) (vs++[.ref t]) (g++[⟨st,q,(Aj g q).length,z⟩]):=CK (Ens.tups (Bh.of ((sa4.trans s5).trans s6)) pvs) (.cons ⟨t,rq,h46⟩ .nil);refine⟨_,rq,q' t a' _ st hst fa (Ah.upd _ _ h46 (λz=>by rw[z,R6.hl] at h46;cases h46)) ⟨⟨dx,by rw[Al R.np.1];exact s06 _ _ ob⟩,by rw[Ac,Qcc],?_,by rw[Al R.LT.symm];exact R6.ht,by rw[QbC];exact R.ln,R.tn,R.LT,R.n2,R.n4⟩ (λc o e' ne=>Ah.upd _ _ (s06 _ _ e') ne)⟩;exact Pr (Logs.Bl Ah.upd tl R6.lg nLa) (Ay.Bl ⟨_,h6,pv6⟩ Ah.upd tl iT)
 refine⟨_,rq,l1,g.map En.st,-1,rq,rq,SqL.of e1,λhn=>?_,λM hM hall=>?_⟩
 ·have g0:g=[]:=List.map_eq_nil_iff.mp hn;exact⟨_,_,rq,rq,Bb (cont _ (.inl ⟨g0,rq⟩))⟩
 ·refine⟨_,_,rq,rq,Bb (cont _ (.inr ⟨?_,λf hf=>?_⟩))⟩
  ·obtain⟨e,he,e2⟩:=QbX.mp hM;exact⟨e,he,by rw[e2]⟩
  ·have:=hall f.st (QbX.mpr ⟨f,hf,rq⟩);omega
end
abbrev Dn:Stmt:=(inClass (top 15) 7)
abbrev Ds:YF:=["self"]
theorem Ga:Az ["self","behind","one","other"] Ds (Ad Dn):=by ac_rfl
theorem Up.nd:∀{g:List En},Up g->g.Nodup
 | [],_=>List.Pairwise.nil
 | e::r,h=>by
  obtain⟨h1,h2⟩:=QaY.mp h;exact QbD.mpr ⟨λz=>absurd (h1 e z) (QbR _),Up.nd h2⟩
theorem Up.few {g W:List En} (h:Up g) (w:WOk W) (i:∀e∈g,e∈W):g.length < 64:=Nat.lt_of_le_of_lt (Fj h.nd i) w.few
def NbP (ps:List (Nat×Nat)) (logs:List (List En)) (i:Nat) (e:En):Prop:=e∈logs.getD i []\/∃d∈ps,(i=d.1/\e∈logs.getD d.2 [])\/(i=d.2/\e∈logs.getD d.1 [])
structure BSt (H HH:Hp) (as bs:List Addr) (B:Addr) (gs:List (List En)):Prop where
 hb:HH B=some (.lst (bs.map V.ref))
 lg:Paired (Ay HH) bs gs
 fr:∀b∈bs,b∈as\/H b=none
 nb:B∉bs
 sm:Same H HH
 fb:H B=none
theorem BSt.same {H HH H2:Hp} {as bs:List Addr} {B:Addr} {gs:List (List En)} (h:BSt H HH as bs B gs) (s:Same HH H2):BSt H H2 as bs B gs:=⟨s _ _ h.hb,Logs.same s h.lg,h.fr,h.nb,h.sm.trans s,h.fb⟩
theorem BSt.put {H HH H2:Hp} {as bs:List Addr} {B l:Addr} {gs:List (List En)} {zs:List En} {i:Nat} (h:BSt H HH as bs B gs) (s:Same HH H2) (fl:HH l=none) (lz:Ay H2 l zs):BSt H (upd H2 B (.lst ((bs.map V.ref).set i (.ref l)))) as (bs.set i l) B (gs.set i zs):=by
 have h2:=h.same s;have tl:∀xs,H2 B≠some (.tup xs):=λxs z=>by rw[h2.hb] at z;cases z
 have nl:l≠B:=λz=>by rw[z,h.hb] at fl;cases fl
 refine⟨by rw[Ac,Qcc],Pr (Logs.Bl Ah.upd tl h2.lg h.nb) (lz.Bl Ah.upd tl nl),λb hb=>?_,λz=>?_,h2.sm.BL Ah.upd h.fb,h.fb⟩
 ·rcases Qaj hb with z | rfl
  ·exact h.fr b z
  ·exact .inr (h.sm.free fl)
 ·rcases Qaj z with z | z
  ·exact h.nb z
  ·exact nl z.symm
inductive K8 (C:Addr) (vs:YG) (H:Hp) (Q:VK) (E:XK):Prop
 | mk (p L T:Addr) (as:List Addr) (n:Nat) (logs:List (List En)) (tied:List Bool) (W:List En) (_:vs=[.ref p]) (_:RAt C H p L T as n logs tied) (_:WOk W) (_:(∀g∈logs,∀e∈g,e∈W)) (_:(∀g∈logs,Up g)) (_:∀(L':Addr) (as':List Addr) (H':Hp) (Ax:List (List En)),H L'=none->(∀a∈as',a∈as\/H a=none)->RAt C H' p L' T as' n Ax tied->(∀i g',Ax[i]?=some g'->Up g'/\∀e,e∈g' ↔ NbP (prs n tied n) logs i e)->Ah p H H'->Q .non H'):K8 C vs H Q E
theorem ZF {n:Nat} {tied:List Bool} {d:Nat×Nat} (h:d∈prs n tied n) (n2:2<=n):d.1 < n/\d.2 < n/\d.1≠d.2:=by
 unfold prs at h;obtain⟨j,hj,rfl⟩:=QbX.mp h;have hj:=QbK.mp (List.mem_filter.mp hj).1;refine⟨hj,Nat.mod_lt _ (by omega),λz=>?_⟩;have z:j=(j+1) % n:=z;by_cases c:j+1=n
 ·rw[c,Nat.mod_self] at z;omega
 ·rw[Nat.mod_eq_of_lt (by omega)] at z;omega
theorem at_getD {α : Type} {l:List α} {i:Nat} (d:α) (h:i < l.length):l[i]?=some (l.getD i d):=by
 rw[Qaf,Qam h];rfl
section
variable {P:Program} {w:World} {K:YD} {mg:YB} {base:Heap} {C:Addr}
theorem Yz (c:Dc K C "beat" "Ring.beat" Dn Ds) (T:Tx K mg C) (Vq:Bu P w K mg base C "pairs" 1 Dy (Mh C)) (Jd:Good P w K mg base "joined" 1 Hs Ks):Bu P w K mg base C "beat" 2 Ds (K8 C):=by
 refine c.good Ga (λvs H Q E h=>?_) (λf cdv A outer s H vs Q E hr h=>?_)
 ·obtain⟨p,L,T,as,n,logs,tied,W,rfl,_⟩:=h;rfl
 obtain⟨p,L,TT,as,n,logs,tied,W,rfl,R,w,iW,ups,q⟩:=h;refine⟨_,(Ae (Ba (i:=1) Ga.nd rfl (Or.inl rfl) (HS Jy rfl T.list Kc (Aa (Eo (pv 0) rfl) Ab)))
 (Ae (CZ Qbz rfl (Cw (SN (pv 0) T.cl Vq hr)) (Li rfl (Dq (Ao (i:=2) Ga.nd rfl (Or.inl rfl)) (Dq (Ao (i:=3) Ga.nd rfl (Or.inl rfl)) JM)))
 (Ae (Ec (Dh Jd hr (Aa (Bj Br (pv 1) (pv 2) (λ_ _=>rfl)) (Aa (Bj Br (Eo (pv 0) rfl) (pv 3) (λ_ _=>rfl)) Ab))) (Em (pv 1) (pv 2) set_list))
 (Ag (Ec (Dh Jd hr (Aa (Bj Br (pv 1) (pv 3) (λ_ _=>rfl)) (Aa (Bj Br (Eo (pv 0) rfl) (pv 2) (λ_ _=>rfl)) Ab))) (Em (pv 1) (pv 3) set_list)))))
 (Ag (JK (pv 0) (pv 1) rfl)))),?_⟩
 show let R0:TS:=_;let R1:TS:=Ak _ R0;let R2:TS:=Ak (Fq _ _ R1) _;Ak _ R2 _ _ _;intro R0 R1 R2;obtain⟨dx,ob⟩:=R.ob;have n2:=R.n2;have n4:=R.n4;have al:=R.al;have KD:∀i e,e∈logs.getD i []->e∈W:=λi e he=>by
  by_cases c:i < logs.length
  ·exact iW _ (Qaw (at_getD [] c)) e he
  ·rw[Qaf,List.getElem?_eq_none (by omega)] at he;cases he
 refine⟨_,rq,p,C,dx,_,_,rq,ob,T.cl,T.Gf,Gv _ _ _,L,_,rq,.inl (SqL.of R.hl),λB hB=>?_⟩;have s1:=Ai hB (.lst (as.map V.ref));have nBa:B∉as:=λz=>by
  obtain⟨g,vs,e1,_⟩:=Fl R.lg z;rw[hB] at e1;cases e1
 have b1:BSt H (upd H B (.lst (as.map V.ref))) as as B logs:=⟨Ac,Logs.same s1 R.lg,λb hb=>.inl hb,nBa,s1,hB⟩;generalize upd H B (.lst (as.map V.ref))=H1 at *;refine Bb ?_;refine⟨_,rq,p,dx,_,rq,s1 _ _ ob,Dt (by trivial),p,L,TT,as,n,logs,tied,rq,R.same s1,λl H2 ws fl hl pw s2=>⟨l,rq,⟨_,SqL.of hl⟩,?_⟩⟩;have wl:=QbO pw;let J0:YN:=λ(m:Nat) (Z : St) (HH:Hp)=>∃(u v:Option V) (bs:List Addr) (gs:List (List En)),Z=[js p,js B,u,v]/\BSt H HH as bs B gs/\gs.length=n/\(∀i g',gs[i]?=some g'->Up g'/\∀e,e∈g' ↔ NbP ((prs n tied n).take m) logs i e)/\HH l=some (.lst ws)/\Same H HH/\Bh H2 HH;refine Hw (xs:=ws) J0 ⟨_,_,as,logs,rq,b1.same s2,R.ln,λi g' hg=>?_,hl,s1.trans s2,Bh.refl _⟩ (λi Z HH _ h=>?_) (λi x Z HH hx h=>?_) (fun Z HH h=>?_)
 ·refine⟨ups g' (Qaw hg),λe=>?_⟩;have:logs.getD i []=g':=by rw[Qaf,hg];rfl
  unfold NbP;rw[this];simp
 ·obtain⟨u,v,bs,gs,rfl,b2,lg,mem,hl',sm,tp⟩:=h;exact SqL.of hl'
 ·obtain⟨u,v,bs,gs,rfl,b2,lg,mem,hl',sm,tp⟩:=h;obtain⟨d,hd,t,rfl,ht⟩:=DX pw hx;obtain⟨d1,d2,dn⟩:=ZF (Qaw hd) n2;have bl:bs.length=n:=(QbO b2.lg).trans lg;refine⟨t,_,rq,SqT.of (tp _ _ ht),rq,_,_,rq,_,_,rq,rq,?_⟩;obtain⟨x,y⟩:=d;dsimp only at d1 d2 dn ht hd;have gx:=at_getD (l:=gs) [] (i:=x) (by omega);have gy:=at_getD (l:=gs) [] (i:=y) (by omega);have lx:=at_getD (l:=logs) [] (i:=x) (by rw[R.ln];exact d1);have ly:=at_getD (l:=logs) [] (i:=y) (by rw[R.ln];exact d2);obtain⟨bx,hbx,Lbx⟩:=El b2.lg gx;obtain⟨by',hby,Lby⟩:=El b2.lg gy;have Rm:=R.same sm;obtain⟨ax,hax,Lax⟩:=El Rm.lg lx;obtain⟨ay,hay,Lay⟩:=El Rm.lg ly;have mW:∀i g',gs[i]?=some g'->∀e∈g',e∈W:=λi g' hg e he=>by
   rcases ((mem i g' hg).2 e).mp he with z |⟨d,_,⟨_,z⟩|⟨_,z⟩⟩
   ·exact KD _ _ z
   ·exact KD _ _ z
   ·exact KD _ _ z
  have atR:∀{cs:List Addr} {k:Nat} {c:Addr},cs[k]?=some c->atI (cs.map V.ref) (k:Int)=some (.ref c):=λhc=>Fe (by rw[Qbb,hc];rfl);have m6:=(mem x _ gx).1.few w (mW x _ gx);have mZ:=(mem y _ gy).1.few w (mW y _ gy);have mY:=(ups _ (Qaw lx)).few w (KD x);have mX:=(ups _ (Qaw ly)).few w (KD y);refine⟨_,rq,_,rq,B,_,_,_,rq,rq,SqL.of b2.hb,atR hbx,_,rq,p,C,dx,_,_,rq,sm _ _ ob,T.cl,T.Gf,Gv _ _ _,_,rq,L,_,_,_,rq,rq,SqL.of Rm.hl,atR hay,bx,ay,_,_,W,rq,Lbx,Lay,w,mW x _ gx,KD y,by omega,λl1 H3 zs fl1 lz1 up1 iZ s3=>?_⟩;have b3:=b2.same s3;refine⟨_,rq,_,rq,B,_,_,x,rq,rq,b3.hb,ixn (by rw[Qbu,bl];exact d1),?_⟩;have b4:=b2.put (i:=x) s3 fl1 lz1;have nlB:l≠B:=λz=>by rw[z,b1.hb] at fl;cases fl
  have hl4:(upd H3 B (.lst ((bs.map V.ref).set x (.ref l1)))) l=some (.lst ws):=by rw[Al nlB];exact s3 _ _ hl'
  have tp4:Bh H2 (upd H3 B (.lst ((bs.map V.ref).set x (.ref l1)))):=(tp.trans (Bh.of s3)).trans (Bh.upd λxs z=>by rw[b3.hb] at z;cases z);generalize upd H3 B (.lst ((bs.map V.ref).set x (.ref l1)))=H4 at *;have lg4:(gs.set x zs).length=n:=by rw[QbC];exact lg
  have bl4:(bs.set x l1).length=n:=by rw[QbC];exact bl
  have gy4:(gs.set x zs)[y]?=some (gs.getD y []):=by rw[Qaz dn];exact gy
  have mV:(bs.set x l1)[y]?=some by':=by rw[Qaz dn];exact hby
  obtain⟨b5,hb5,Lb5⟩:=El b4.lg gy4;have Rm4:=R.same b4.sm;obtain⟨ax4,jE,mG⟩:=El Rm4.lg lx;refine⟨_,rq,_,rq,B,_,_,_,rq,rq,SqL.of b4.hb,atR hb5,_,rq,p,C,dx,_,_,rq,b4.sm _ _ ob,T.cl,T.Gf,Gv _ _ _,_,rq,L,_,_,_,rq,rq,SqL.of Rm4.hl,atR jE,b5,ax4,_,_,W,rq,Lb5,mG,w,mW y _ gy,KD x,by omega,λl2 H5 zs2 fl2 lz2 up2 iY s5=>?_⟩;have b5':=b4.same s5;refine⟨_,rq,_,rq,B,_,_,y,rq,rq,b5'.hb,ixn (by rw[Qbu,bl4];exact d2),?_⟩;have b6:=b4.put (i:=y) s5 fl2 lz2;refine⟨_,_,_,(gs.set x zs).set y zs2,rq,b6,by rw[QbC];exact lg4,λk g' hg=>?_,by rw[Al nlB];exact s5 _ _ hl4,b6.sm,(tp4.trans (Bh.of s5)).trans (Bh.upd λxs z=>by rw[b5'.hb] at z;cases z)⟩;rw[Qck hd];have app:∀e,NbP ((prs n tied n).take i++[(x,y)]) logs k e ↔ NbP ((prs n tied n).take i) logs k e\/(k=x/\e∈logs.getD y [])\/(k=y/\e∈logs.getD x []):=λe=>by
   unfold NbP;constructor
   ·rintro (h |⟨d,hd,h⟩)
    ·exact .inl (.inl h)
    ·rcases Qbw.mp hd with hd | hd
     ·exact .inl (.inr ⟨d,hd,h⟩)
     ·rw[QaJ.mp hd] at h;exact .inr h
   ·rintro ((h |⟨d,hd,h⟩) | h)
    ·exact .inl h
    ·exact .inr ⟨d,Qay _ hd,h⟩
    ·exact .inr ⟨(x,y),Qas _ (.head _),h⟩
  by_cases ky:k=y
  ·subst ky;rw[Qaq (by rw[lg4];exact d2)] at hg;cases hg;refine⟨up2,λe=>?_⟩;rw[iY e,app e,(mem k _ gy).2 e];constructor
   ·rintro (h | h)
    ·exact .inl h
    ·exact .inr (.inr ⟨rq,h⟩)
   ·rintro (h |⟨h,_⟩|⟨_,h⟩)
    ·exact .inl h
    ·exact absurd h.symm dn
    ·exact .inr h
  ·rw[Qaz (λz=>ky z.symm)] at hg;by_cases kx:k=x
   ·subst kx;rw[Qaq (by rw[lg];exact d1)] at hg;cases hg;refine⟨up1,λe=>?_⟩;rw[iZ e,app e,(mem k _ gx).2 e];constructor
    ·rintro (h | h)
     ·exact .inl h
     ·exact .inr (.inl ⟨rq,h⟩)
    ·rintro (h |⟨_,h⟩|⟨h,_⟩)
     ·exact .inl h
     ·exact .inr h
     ·exact absurd h ky
   ·rw[Qaz (λz=>kx z.symm)] at hg;refine⟨(mem k g' hg).1,λe=>?_⟩;rw[app e,(mem k g' hg).2 e];constructor
    ·exact .inl
    ·rintro (h |⟨h,_⟩|⟨h,_⟩)
     ·exact h
     ·exact absurd h kx
     ·exact absurd h ky
 ·obtain⟨u,v,bs,gs,rfl,b2,lg,mem,hl',sm,tp⟩:=h;rw[wl,Qbk] at mem;have ob2:=sm _ _ ob;refine⟨_,rq,_,rq,p,C,dx,_,_,rq,ob2,T.cl,T.Gf,(by show 3 < 1000;decide),Vw (i:=1) (Ot _ _ _) rfl,λH3 h3 s3=>?_⟩;have Rm:=R.same sm;have pt:=Rm.pt;have npB:B≠p:=λz=>by rw[z] at hB;rw[ob] at hB;cases hB
  have npb:p∉bs:=λz=>by
   rcases b2.fr p z with h | h
   ·exact R.np.2.2 h
   ·rw[ob] at h;cases h
  have nBT:B≠TT:=λz=>by rw[z] at hB;rw[R.ht] at hB;cases hB
  exact q B bs H3 gs hB b2.fr ⟨⟨dx,h3⟩,s3 _ _ b2.hb npB,Logs.Bl s3 pt b2.lg npb,s3 _ _ Rm.ht R.np.2.1.symm,lg,R.tn,nBT,n2,n4⟩ mem ((Ah.of sm).trans s3)
end
abbrev DQ:Stmt:=top 24
abbrev Gd:YF:=["_law_links"]
abbrev xm:YF:=["_law_links","_law_many","_law_marks","_law_turn","_law_link","_law_least","_law_found","_law_first"]
theorem CV:Az xm Gd (Ad DQ):=by ac_rfl
def mk1 (n:Nat) (links:List Bool) (m:List Nat) (j:Nat):List Nat:=if links.getD j false=true then (m.set j (min (m.getD j 0) (m.getD ((j+1) % n) 0))).set ((j+1) % n) (min (m.getD j 0) (m.getD ((j+1) % n) 0)) else m
def mkI (n:Nat) (links:List Bool) (m:List Nat):Nat->List Nat
 | 0=>m
 | i+1=>mk1 n links (mkI n links m i) i
def mkT (n:Nat) (links:List Bool):Nat->List Nat
 | 0=>List.range n
 | t+1=>mkI n links (mkT n links t) n
def Ja (n:Nat) (m:List Nat) (i:Nat):List (List Nat):=((List.range i).filter λf=>decide (m.getD f 0=f)).map λf=>(List.range n).filter λp=>decide (m.getD p 0=f)
def houses (n:Nat) (links:List Bool):List (List Nat):=Ja n (mkT n links n) n
theorem YX (n:Nat) (links:List Bool) (m:List Nat) (j:Nat):(mk1 n links m j).length=m.length:=by unfold mk1;split <;> simp
theorem MK (n:Nat) (links:List Bool) (m:List Nat):∀i,(mkI n links m i).length=m.length
 | 0=>rfl
 | i+1=>by rw[mkI,YX,MK n links m i]
theorem MJ (n:Nat) (links:List Bool):∀t,(mkT n links t).length=n
 | 0=>Qbf
 | t+1=>by rw[mkT,MK,MJ n links t]
def nv (m:List Nat):YG:=m.map λk:Nat=>V.int (k:Int)
theorem GX (m:List Nat):(nv m).length=m.length:=Qbu ..
theorem Oi {m:List Nat} {j:Nat} (h:j < m.length):atI (nv m) (j:Int)=some (.int ((m.getD j 0:Nat):Int)):=Fe (by unfold nv;rw[Qbb,at_getD 0 h];rfl)
def Ni (H:Hp) (l:Addr) (as:List Addr) (hs:List (List Nat)):Prop:=H l=some (.lst (as.map V.ref))/\Paired (λa h=>H a=some (.lst (nv h))) as hs
theorem Ni.same {H H':Hp} {l:Addr} {as:List Addr} {hs:List (List Nat)} (h:Ni H l as hs) (s:Same H H'):Ni H' l as hs:=⟨s _ _ h.1,Paired.IK h.2 λ_ _ z=>s _ _ z⟩
inductive Kv (vs:YG) (H:Hp) (Q:VK) (E:XK):Prop
 | mk (a:Addr) (n:Nat) (links:List Bool) (_:vs=[.ref a]) (_:H a=some (.lst (links.map V.bl))) (_:links.length=n) (_:2<=n) (_:n<=4) (_:∀l as H',H l=none->(∀b∈as,H b=none)->Ni H' l as (houses n links)->Same H H'->Q (.ref l) H'):Kv vs H Q E
theorem cX {m:List Bool} {j:Nat} (h:j < m.length):atI (m.map V.bl) (j:Int)=some (.bl (m.getD j false)):=Fe (by rw[Qbb,at_getD false h];rfl)
theorem JL {α β : Type} {F G:α->β->Prop}:∀{l:List α} {m:List β},Paired F l m->(∀x∈l,∀y,F x y->G x y)->Paired G l m
 | _,_,.nil,_=>.nil
 | _,_,.cons a r,h=>.cons (h _ (.head _) _ a) (JL r λx hx=>h x (.tail _ hx))
theorem W8 (a b:Nat):decide (V.int (a:Int)=V.int (b:Int))=decide (a=b):=by
 rw[QbA,QaO,QaO,V.int.injEq];omega
section
variable {P:Program} {w:World} {K:YD} {mg:YB} {base:Heap}
abbrev xn:YF:=["_law_panel","_law_first","_law_marks"]
theorem U4 (c:Code K mg "_law_houses" DQ Gd) (T:Nm mg):Good P w K mg base "_law_houses" 1 Gd Kv:=by
 refine c.good CV (λvs H Q E h=>?_) (λf cdv A outer s H vs Q E hr h=>?_)
 ·obtain⟨a,n,links,rfl,_⟩:=h;rfl
 obtain⟨a,n,links,rfl,ha,hn,n2,n4,q⟩:=h;refine⟨_,(Ae (Ba (i:=1) CV.nd rfl (Or.inl rfl) (Am Bg rfl T.len CQ (Aa (pv 0) Ab)))
 (Ae (Ba (i:=2) CV.nd rfl (Or.inr rfl) (Py rfl rfl T.list rfl T.range (Aa (pv 1) Ab)))
 (Ae (CZ Qbz rfl (BW rfl T.range (Aa (pv 1) Ab)) (Ao (i:=3) CV.nd rfl (Or.inl rfl))
 (Ag (CZ Qbz rfl (BW rfl T.range (Aa (pv 1) Ab)) (Ao (i:=4) CV.nd rfl (Or.inl rfl))
 (Ag (Ca (Wj (Bj Br (pv 0) (pv 4) (λ_ _=>rfl)) (λ_=>rfl)) (Ae (Ba (i:=5) CV.nd rfl (Or.inl rfl) (Am (Nt rfl) rfl T.min VN (Aa (Bj Br (pv 2) (pv 4) (λ_ _=>rfl)) (Aa (Bj Br (pv 2) (Ar Et (Ar Cv (pv 4) Af) (pv 1)) (λ_ _=>rfl)) Ab))))
 (Ae (Ec (pv 5) (Em (pv 2) (pv 4) set_list))
 (Ag (Ec (pv 5) (Em (pv 2) (Ar Et (Ar Cv (pv 4) Af) (pv 1)) set_list))))) Bq)))))
 (Ae (Ba (i:=6) CV.nd rfl (Or.inl rfl) (Gb Ab))
 (Ae (CZ Qbz rfl (BW rfl T.range (Aa (pv 1) Ab)) (Ao (i:=7) CV.nd rfl (Or.inr rfl))
 (Ag (Ca (Bw G7 (Bj Br (pv 2) (pv 7) (λ_ _=>rfl)) (pv 7) (Bo _)) (Ag (Df (Og PySem.F.plainAttrs_list PySem.F.slot_list_append PySem.F.type_list_append HW (pv 6) (Aa (Cz (N':=xn) rfl (Bp.of (src:=[none,some 7,some 2]) (Ad DQ) xm rfl rfl rfl (by trivial) (by trivial) (by trivial) rfl (by trivial)) (BW rfl T.range (Aa (pv 1) Ab)) (λ_ _ _ _=>(Ao (i:=0) (show List.Nodup (xn:YF) by trivial) rfl (Or.inl rfl))) (λ_ _ _ _=>(Ho (Bw G7 (Bj (WK (K:=K) rfl) (pv 2) (pv 0) (λ_ _=>rfl)) (pv 1) (Bo _)))) (λ_ _ _ _=>(pv 0))) Ab)))) Bq)))
 (Ag (Bc (pv 6)))))))),?_⟩
 show let R0:TS:=_;let R1:TS:=Jj _ R0 _;let R2:TS:=Ak (Fq _ _ R1) _;let R3:TS:=Ak _ R2;let R4:TS:=_;let R5:TS:=Ak _ R4;let R6:TS:=Ak _ R5;let R7:TS:=Jj _ R6 _;let R8:TS:=Fq _ _ R7;let R9:TS:=Ak (Fq _ _ R8) R3;let R10:TS:=Ak _ R9;Ak _ R10 _ _ _;intro R0 R1 R2 R3 R4 R5 R6 R7 R8 R9 R10;refine⟨_,rq,a,_,rq,.inl (SqL.of ha),?_⟩;rw[Qbu,hn];refine Bb ?_;refine⟨_,rq,_,rq,by omega,by omega,λm hm=>?_⟩;rw[Qba];have s1:=Ai hm (.lst (nv (List.range n)));have h1:(upd H m (.lst (nv (List.range n)))) m=some (.lst (nv (mkT n links 0))):=Ac;show G8 2 (.ref m) _ (upd H m (.lst (nv (List.range n)))) _;generalize upd H m (.lst (nv (List.range n)))=H1 at *;refine Bb ?_;have nma:m≠a:=λz=>by rw[z,ha] at hm;cases hm
 refine⟨_,rq,_,rq,by omega,by omega,?_⟩;let J0:YN:=λ(t:Nat) (Z : St) (HH:Hp)=>∃u3 u4 u5,Z=[js a,some (.int n),js m,u3,u4,u5,none,none]/\HH m=some (.lst (nv (mkT n links t)))/\Same H HH;refine Dj J0 ⟨_,_,_,rq,h1,s1⟩ (λt Z HH ht h=>?_) (fun Z HH h=>?_)
 ·obtain⟨u3,u4,u5,rfl,e1,e2⟩:=h;refine Bb ⟨_,rq,_,rq,by omega,by omega,?_⟩;let J1:YN:=λ(i:Nat) (Z : St) (HX:Hp)=>∃u3 u4 u5,Z=[js a,some (.int n),js m,u3,u4,u5,none,none]/\HX m=some (.lst (nv (mkI n links (mkT n links t) i)))/\Same H HX;refine Dj J1 ⟨_,_,_,rq,e1,e2⟩ (λi Z HX hi h=>?_) (fun Z HX h=>?_)
  ·obtain⟨u3,u4,u5,rfl,g1,g2⟩:=h;rw[Qba] at hi;rw[QbZ];have ml:(mkI n links (mkT n links t) i).length=n:=by rw[MK,MJ]
   have jn:(i+1) % n < n:=Nat.mod_lt _ (by omega);have ej:((i:Int)+1) % (n:Int)=(((i+1) % n:Nat):Int):=(Int.natCast_emod _ _).symm;refine Bb ⟨_,rq,_,rq,a,_,_,_,rq,rq,SqL.of (g2 _ _ ha),cX (by rw[hn];exact hi),_,rq,?_⟩;have em:mkI n links (mkT n links t) (i+1)=mk1 n links (mkI n links (mkT n links t) i) i:=rfl;generalize mkI n links (mkT n links t) i=M at ml g1 em;cases hb:links.getD i false with
   | false=>
    refine Bs ⟨_,_,_,rq,?_,g2⟩;rw[em];unfold mk1;rw[hb,if_neg QaK];exact g1
   | true=>
    have hat:atI (nv M) (((i:Int)+1) % (n:Int))=some (.int ((M.getD ((i+1) % n) 0:Nat):Int)):=by rw[ej];exact Oi (by omega)
    refine Ce ⟨_,rq,_,rq,m,_,_,_,rq,rq,SqL.of g1,Oi (by omega),_,rq,_,rq,_,_,rq,rq,_,rq,_,_,rq,rq,(by omega),m,_,_,_,rq,rq,SqL.of g1,hat,?_⟩;refine⟨_,_,rq,?_⟩;have el:(if ((M.getD ((i+1) % n) 0:Nat):Int) < ((M.getD i 0:Nat):Int) then ((M.getD ((i+1) % n) 0:Nat):Int) else ((M.getD i 0:Nat):Int))=((min (M.getD i 0) (M.getD ((i+1) % n) 0):Nat):Int):=by
     split <;> omega
    have em2:mkI n links (mkT n links t) (i+1)=(M.set i (min (M.getD i 0) (M.getD ((i+1) % n) 0))).set ((i+1) % n) (min (M.getD i 0) (M.getD ((i+1) % n) 0)):=by
     rw[em];unfold mk1;rw[hb,if_pos rfl]
    generalize min (M.getD i 0) (M.getD ((i+1) % n) 0)=lst at *;refine Bb ?_;rw[el];refine⟨_,rq,_,rq,_,rq,m,_,_,i,rq,rq,g1,ixn (by rw[GX];omega),?_⟩;refine⟨_,rq,_,rq,_,rq,_,_,rq,rq,_,rq,_,_,rq,rq,(by omega),m,_,_,(i+1) % n,rq,rq,Ac,?_,?_⟩
    ·rw[QbC,GX];show ixN M.length (((i:Int)+1) % (n:Int))=_;rw[ej];exact ixn (by omega)
    ·refine⟨_,_,_,rq,?_,(g2.BL Ah.upd hm).BL Ah.upd hm⟩;rw[Ac,em2];unfold nv;rw[Qcc,Qcc]
  ·obtain⟨u3,u4,u5,rfl,g1,g2⟩:=h;rw[Qba] at g1;exact⟨_,_,_,rq,g1,g2⟩
 obtain⟨u3,u4,u5,rfl,e1,e2⟩:=h;rw[Qba] at e1;have Ml:=MJ n links n;have eh:∀i,Ja n (mkT n links n) i=Ja n (mkT n links n) i:=λ_=>rfl;unfold houses at q;generalize mkT n links n=M at *;refine⟨Cd (by show 0<=1000;decide),λl hl=>?_⟩;have s3:=Ai hl (.lst []);have fl:H l=none:=e2.free hl;have nml:m≠l:=λz=>by rw[z,hl] at e1;cases e1
 have h3:(upd HH l (.lst [])) l=some (.lst []):=Ac;have e1':=s3 _ _ e1;have e2':=e2.trans s3;generalize upd HH l (.lst [])=H3 at *;refine Bb ⟨_,rq,_,rq,by omega,by omega,?_⟩;let J2:YN:=λ(i:Nat) (Z : St) (HX:Hp)=>∃u3 u4 u5 u7,∃as:List Addr,Z=[js a,some (.int n),js m,u3,u4,u5,js l,u7]/\HX m=some (.lst (nv M))/\Ni HX l as (Ja n M i)/\(∀b∈as,H b=none/\b≠l)/\as.length<=i/\Same H HX;refine Dj J2 ⟨_,_,_,_,[],rq,e1',⟨h3,.nil⟩,(λb hb=>by cases hb),Qcd _,e2'⟩ (λi Z HX hi h=>?_) (fun Z HX h=>?_)
 ·obtain⟨u3,u4,u5,u7,as,rfl,g1,g2,g3,g4,g5⟩:=h;rw[Qba] at hi;rw[QbZ];refine Bb ⟨_,rq,_,rq,m,_,_,_,rq,rq,SqL.of g1,Oi (by omega),_,rq,rq,_,rq,?_⟩;have ehs:Ja n M (i+1)=Ja n M i++if M.getD i 0=i then [(List.range n).filter λp=>decide (M.getD p 0=i)] else []:=by
   unfold Ja;rw[List.range_succ,QaQ,Qby];congr 1;by_cases c:M.getD i 0=i
   ·rw[if_pos c];simp only[Qbt,QbJ c,if_true,QbI,QbP,Qca]
   ·rw[if_neg c];simp only[Qbt,Qbv c,QaU,if_false,QbI,Qca]
  by_cases c:M.getD i 0=i
  ·rw[if_pos c] at ehs;rw[W8,QbJ c];refine Ce ⟨_,rq,.inl ⟨rq,_,SqL.of g2.1⟩,_,rq,_,rq,by omega,by omega,λl2 hl2=>?_⟩;have fl2:H l2=none:=g5.free hl2;have nl2:l≠l2:=λz=>by rw[<-z,g2.1] at hl2;cases hl2
   let J3:YN:=λ(k:Nat) (Z : St) (HY:Hp)=>∃u,Z=[u,some (.int i),js m]/\HY l2=some (.lst (nv ((List.range k).filter λp=>decide (M.getD p 0=i))))/\Same HX HY;refine Gj J3 ⟨_,rq,Ac,Ai hl2 _⟩ (λk Z HY hk h=>?_) (fun Z HY h=>?_)
   ·obtain⟨u,rfl,y1,y2⟩:=h;rw[Qba] at hk;rw[QbZ];refine Bb ⟨_,rq,_,rq,m,_,_,_,rq,rq,SqL.of (y2 _ _ g1),Oi (by omega),_,rq,rq,_,rq,?_⟩;rw[W8];by_cases c2:M.getD k 0=i
    ·rw[QbJ c2];refine Ce ⟨_,rq,_,y1,Aq ?_,_,rq,?_,y2.BL Ah.upd hl2⟩
     ·rw[GX];exact QbW (Qat ..) (by rw[Qbf];omega)
     ·rw[Ac,List.range_succ,QaQ];simp only[Qbt,QbJ c2,if_true,QbI];unfold nv;rw[Qby];rfl
    ·rw[Qbv c2];refine Bs ⟨_,rq,?_,y2⟩;rw[List.range_succ,QaQ];simp only[Qbt,Qbv c2,QaU,if_false,QbI,QbE];exact y1
   ·obtain⟨u,rfl,y1,y2⟩:=h;rw[Qba] at y1;have gl:=y2 _ _ g2.1;refine⟨l,_,_,rq,rq,gl,Aq (by rw[Qbu];omega),?_⟩;have t1:=g2.same y2;refine⟨_,_,_,_,as++[l2],rq,?_,⟨by rw[Ac,Qby];rfl,?_⟩,?_,by rw[QaL];exact Nat.succ_le_succ g4,(g5.trans y2).BL Ah.upd fl⟩
    ·rw[Al nml];exact y2 _ _ g1
    ·rw[ehs];refine CK ?_ (.cons (by rw[Al nl2.symm];exact y1) .nil);exact JL t1.2 λx hx y e=>by rw[Al (g3 x hx).2];exact e
    ·intro b hb;rcases Qbw.mp hb with hb | hb
     ·exact g3 b hb
     ·rw[QaJ.mp hb];exact⟨fl2,nl2.symm⟩
  ·rw[if_neg c,QbE] at ehs;rw[W8,Qbv c];exact Bs ⟨_,_,_,_,as,rq,g1,by rw[ehs];exact g2,g3,Nat.le_succ_of_le g4,g5⟩
 ·obtain⟨u3,u4,u5,u7,as,rfl,g1,g2,g3,g4,g5⟩:=h;rw[Qba] at g2;exact⟨_,rq,q l as _ fl (λb hb=>(g3 b hb).1) g2 g5⟩
end
theorem OD:∀{g h:List En},Up g->Up h->(∀e,e∈g ↔ e∈h)->g=h
 | [],[],_,_,_=>rfl
 | [],e::r,_,_,m=>by have:=(m e).mpr (.head _);cases this
 | e::r,[],_,_,m=>by have:=(m e).mp (.head _);cases this
 | e::r,f::t,hg,hh,m=>by
  obtain⟨g1,g2⟩:=QaY.mp hg;obtain⟨h1,h2⟩:=QaY.mp hh;have ef:e=f:=by
   rcases QbN.mp ((m e).mp (.head _)) with z | z
   ·exact z
   ·rcases QbN.mp ((m f).mpr (.head _)) with z' | z'
    ·exact z'.symm
    ·exact absurd (Int.lt_trans (h1 e z) (g1 f z')) (QbR _)
  subst ef;rw[OD g2 h2 λx=>?_];constructor
  ·intro hx;rcases QbN.mp ((m x).mp (.tail _ hx)) with z | z
   ·exact absurd (g1 x hx) (by rw[z];exact QbR _)
   ·exact z
  ·intro hx;rcases QbN.mp ((m x).mpr (.tail _ hx)) with z | z
   ·exact absurd (h1 x hx) (by rw[z];exact QbR _)
   ·exact z
structure RI (n:Nat) (logs:List (List En)) (W:List En):Prop where
 w:WOk W
 ln:logs.length=n
 up:∀g∈logs,Up g
 sub:∀g∈logs,∀e∈g,e∈W
 cl:∀g∈logs,∀e∈g,∀f∈W,f.pn=e.pn->f.nr < e.nr->f∈g
 own:∀q:Nat,∀e∈W,e.pn=(q:Int)->e∈logs.getD q []
 pn:∀e∈W,e.pn < (n:Int)
 st0:∀e∈W,0<=e.st
 nd:W.Nodup
 num:∀(q i:Nat) (e:En),(Aj W q)[i]?=some e->e.nr=(i:Int)
 rise:∀e∈W,∀f∈W,e.pn=f.pn->e.nr < f.nr->e.st < f.st
theorem Dg {W:List En} {q:Nat} {e:En}:e∈Aj W q ↔ e∈W/\e.pn=(q:Int):=by
 unfold Aj;rw[List.mem_filter,QaO]
theorem Lk {W:List En} (h:W.Nodup) (q:Nat):(Aj W q).Nodup:=h.sublist List.filter_sublist
theorem RI.nlt {n:Nat} {logs:List (List En)} {W:List En} (r:RI n logs W) {q:Nat} {e:En} (h:e∈W) (hq:e.pn=(q:Int)):e.nr < ((Aj W q).length:Int):=by
 obtain⟨i,hi⟩:=QaA (Dg.mpr ⟨h,hq⟩);rw[r.num q i e hi];have:=(Qai.mp hi).1;omega
theorem RI.Rx {n:Nat} {logs:List (List En)} {W g:List En} {q:Nat} (r:RI n logs W) (hg:logs[q]?=some g):(Aj g q).length=(Aj W q).length:=by
 have hm:=Qaw hg;have eg:logs.getD q []=g:=by rw[Qaf,hg];rfl
 refine Nat.le_antisymm (Fj (Lk (r.up g hm).nd q) λe he=>?_) (Fj (Lk r.nd q) λe he=>?_)
 ·obtain⟨h1,h2⟩:=Dg.mp he;exact Dg.mpr ⟨r.sub g hm e h1,h2⟩
 ·obtain⟨h1,h2⟩:=Dg.mp he;exact Dg.mpr ⟨eg ▸ r.own q e h1 h2,h2⟩
theorem X3 {e f:En} (h:e.st < f.st) (e1:e.pn < 10000) (e2:e.nr < 10000) (f1:0<=f.pn) (f2:0<=f.nr):e.cd < f.cd:=by
 unfold En.cd;omega
theorem RI.write {n:Nat} {logs:List (List En)} {W g:List En} {q:Nat} {st:Int} {z:Str} (r:RI n logs W) (hg:logs[q]?=some g) (hs:QJ g st) (hz:K1 z) (few:W.length < 63) (n4:n<=4) :
  RI n (logs.set q (g++[⟨st,q,(Aj g q).length,z⟩])) (W++[⟨st,q,(Aj g q).length,z⟩]):=by
 have hq:q < n:=by rw[<-r.ln];exact (Qai.mp hg).1
 have hm:=Qaw hg;have eg:logs.getD q []=g:=by rw[Qaf,hg];rfl
 have ol:=r.Rx hg;have owl:(Aj W q).length<=W.length:=Qat ..;rw[ol];have es:(⟨st,q,(Aj W q).length,z⟩ : En).st=st:=rfl;have ep:(⟨st,q,(Aj W q).length,z⟩ : En).pn=(q:Int):=rfl;have en:(⟨st,q,(Aj W q).length,z⟩ : En).nr=((Aj W q).length:Int):=rfl;have et:(⟨st,q,(Aj W q).length,z⟩ : En).tx=z:=rfl;generalize (⟨st,q,(Aj W q).length,z⟩ : En)=e at *;have gst:∀f∈g,f.st < e.st:=λf hf=>by
  rcases hs with⟨h1,h2⟩|⟨_,h2⟩
  ·rw[h1] at hf;cases hf
  ·rw[es];exact h2 f hf
 have est:0<=e.st:=by
  rcases hs with⟨h1,h2⟩|⟨⟨f,hf,h1⟩,h2⟩
  ·rw[es,h2];exact Int.le_refl _
  ·have:=r.st0 f (r.sub g hm f hf);rw[es];omega
 have W5:∀f∈W,f.pn=e.pn->f∈g:=λf hf hp=>eg ▸ r.own q f hf (by rw[hp,ep]);have enr:∀f∈W,f.pn=e.pn->f.nr < e.nr:=λf hf hp=>by rw[en];exact r.nlt hf (by rw[hp,ep])
 have eW:e∉W:=λh=>absurd (enr e h rfl) (QbR _);have app:∀{P:En->Prop},(∀f∈W,P f)->P e->∀f∈W++[e],P f:=λh1 h2 f hf=>by
  rcases Qbw.mp hf with h | h
  ·exact h1 f h
  ·rw[QaJ.mp h];exact h2
 have gin:∀{P:List En->Prop},(∀g∈logs,P g)->P (g++[e])->∀g'∈logs.set q (g++[e]),P g':=λh1 h2 g' hg'=>by
  rcases Qaj hg' with h | h
  ·exact h1 g' h
  ·rw[h];exact h2
 refine⟨⟨by rw[QaL];show W.length+1 < 64;omega,app r.w.pn0 (by rw[ep];omega),app r.w.pn1 (by rw[ep];omega),app r.w.nr0 (by rw[en];omega),app r.w.nr1 (by rw[en];omega),app r.w.tx (by rw[et];exact hz.str),?_⟩,by rw[QbC];exact r.ln,?_,?_,?_,?_,app r.pn (by rw[ep];omega),app r.st0 est,?_,?_,?_⟩
 ·refine app (λa ha=>app (λb hb=>r.w.inj a ha b hb) λh1 h2=>?_) (app (λb hb h1 h2=>?_) λ_ _=>rfl)
  ·exact absurd (enr a ha h1) (by rw[h2];exact QbR _)
  ·exact absurd (enr b hb h1.symm) (by rw[<-h2];exact QbR _)
 ·refine gin r.up ?_;refine List.pairwise_append.mpr ⟨r.up g hm,List.pairwise_singleton _ _,λf hf b hb=>?_⟩;rw[QaJ.mp hb];have fW:=r.sub g hm f hf;exact X3 (gst f hf) (r.w.pn1 f fW) (r.w.nr1 f fW) (by rw[ep];omega) (by rw[en];omega)
 ·refine gin (λg' h f hf=>Qay _ (r.sub g' h f hf)) λf hf=>?_;rcases Qbw.mp hf with h | h
  ·exact Qay _ (r.sub g hm f h)
  ·exact Qas _ h
 ·refine gin (λg' h a ha=>app (λb hb=>r.cl g' h a ha b hb) λh1 h2=>?_) λa ha=>?_
  ·exact absurd (enr a (r.sub g' h a ha) h1.symm) (by omega)
  ·rcases Qbw.mp ha with h | h
   ·refine app (λb hb h1 h2=>Qay _ (r.cl g hm a h b hb h1 h2)) λh1 h2=>?_;exact absurd (enr a (r.sub g hm a h) h1.symm) (by omega)
   ·rw[QaJ.mp h];exact app (λb hb h1 _=>Qay _ (W5 b hb h1)) λ_ _=>Qas _ (.head _)
 ·intro k;by_cases c:k=q
  ·subst c;have:(logs.set k (g++[e])).getD k []=g++[e]:=by rw[Qaf,Qaq (by rw[r.ln];exact hq)];rfl
   rw[this];exact app (λb hb h1=>Qay _ (W5 b hb (by rw[h1,ep]))) λ_=>Qas _ (.head _)
  ·have:(logs.set q (g++[e])).getD k []=logs.getD k []:=by rw[Qaf,Qaz (λz=>c z.symm),<-Qaf]
   rw[this];refine app (λb hb h1=>r.own k b hb h1) λh1=>?_;rw[ep] at h1;exact absurd (Int.ofNat.inj h1).symm c
 ·exact List.nodup_append.mpr ⟨r.nd,by simp,λx hx y hy z=>by rw[QaJ.mp hy] at z;exact eW (z ▸ hx)⟩
 ·intro k i f hf;by_cases c:k=q
  ·subst c;have e1:Aj (W++[e]) k=Aj W k++[e]:=by
    unfold Aj;rw[QaQ];simp[ep]
   rw[e1] at hf;by_cases hi:i < (Aj W k).length
   ·rw[Qak hi] at hf;exact r.num k i f hf
   ·have hi':=Nat.not_lt.mp hi;rw[Qah hi'] at hf;have hk:i - (Aj W k).length=0:=by
     have:=(Qai.mp hf).1;rw[List.length_singleton] at this;omega
    rw[hk] at hf;cases hf;rw[en];omega
  ·have e1:Aj (W++[e]) k=Aj W k:=by
    have:¬e.pn=(k:Int):=by rw[ep];omega
    unfold Aj;rw[QaQ];simp[this]
   rw[e1] at hf;exact r.num k i f hf
 ·refine app (λa ha=>app (λb hb=>r.rise a ha b hb) λh1 _=>gst a (W5 a ha h1)) (app (λb hb h1 h2=>?_) λ_ h=>absurd h (QbR _));exact absurd (enr b hb h1.symm) (by omega)
theorem U7 {n:Nat} {ps:List (Nat×Nat)} {logs:List (List En)} {i:Nat} {e:En} (h:NbP ps logs i e):∃j,e∈logs.getD j []/\∀f,f∈logs.getD j []->NbP ps logs i f:=by
 rcases h with h |⟨d,hd,⟨h1,h2⟩|⟨h1,h2⟩⟩
 ·exact⟨i,h,λf hf=>.inl hf⟩
 ·exact⟨d.2,h2,λf hf=>.inr ⟨d,hd,.inl ⟨h1,hf⟩⟩⟩
 ·exact⟨d.1,h2,λf hf=>.inr ⟨d,hd,.inr ⟨h1,hf⟩⟩⟩
theorem getD_mem' {α : Type} {l:List (List α)} {j:Nat} {e:α} (h:e∈l.getD j []):l.getD j []∈l:=by
 by_cases c:j < l.length
 ·exact Qaw (at_getD [] c)
 ·rw[Qaf,List.getElem?_eq_none (by omega)] at h;cases h
theorem RI.beat {n:Nat} {logs Ax:List (List En)} {W:List En} {ps:List (Nat×Nat)} (r:RI n logs W) (hl:Ax.length=n) (h:∀i g',Ax[i]?=some g'->Up g'/\∀e,e∈g' ↔ NbP ps logs i e):RI n Ax W:=by
 have key:∀g'∈Ax,∃i,Ax[i]?=some g':=λg' hg=>QaA hg;refine⟨r.w,hl,λg' hg=>?_,λg' hg e he=>?_,λg' hg e he f hf h1 h2=>?_,λq e he hp=>?_,r.pn,r.st0,r.nd,r.num,r.rise⟩
 ·obtain⟨i,hi⟩:=key g' hg;exact (h i g' hi).1
 ·obtain⟨i,hi⟩:=key g' hg;obtain⟨j,hj,_⟩:=U7 (n:=n) (((h i g' hi).2 e).mp he);exact r.sub _ (getD_mem' hj) e hj
 ·obtain⟨i,hi⟩:=key g' hg;obtain⟨j,hj,hall⟩:=U7 (n:=n) (((h i g' hi).2 e).mp he);exact ((h i g' hi).2 f).mpr (hall f (r.cl _ (getD_mem' hj) e hj f hf h1 h2))
 ·have h1:=r.own q e he hp;have hq:q < Ax.length:=by
   rw[hl,<-r.ln];by_cases c:q < logs.length
   ·exact c
   ·rw[Qaf,List.getElem?_eq_none (by omega)] at h1;cases h1
  exact ((h q _ (at_getD [] hq)).2 e).mpr (.inl h1)
theorem Vx (k:En->Int):∀{g h:List En},g.Pairwise (λe f=>k e < k f)->h.Pairwise (λe f=>k e < k f)->(∀e,e∈g ↔ e∈h)->g=h
 | [],[],_,_,_=>rfl
 | [],e::r,_,_,m=>by have:=(m e).mpr (.head _);cases this
 | e::r,[],_,_,m=>by have:=(m e).mp (.head _);cases this
 | e::r,f::t,hg,hh,m=>by
  obtain⟨g1,g2⟩:=QaY.mp hg;obtain⟨h1,h2⟩:=QaY.mp hh;have ef:e=f:=by
   rcases QbN.mp ((m e).mp (.head _)) with z | z
   ·exact z
   ·rcases QbN.mp ((m f).mpr (.head _)) with z' | z'
    ·exact z'.symm
    ·exact absurd (Int.lt_trans (h1 e z) (g1 f z')) (QbR _)
  subst ef;rw[Vx k g2 h2 λx=>?_];constructor
  ·intro hx;rcases QbN.mp ((m x).mp (.tail _ hx)) with z | z
   ·exact absurd (g1 x hx) (by rw[z];exact QbR _)
   ·exact z
  ·intro hx;rcases QbN.mp ((m x).mpr (.tail _ hx)) with z | z
   ·exact absurd (h1 x hx) (by rw[z];exact QbR _)
   ·exact z
theorem RI.nrs {n:Nat} {logs:List (List En)} {W:List En} (r:RI n logs W) (q:Nat):(Aj W q).Pairwise (λe f=>e.nr < f.nr):=by
 rw[List.pairwise_iff_getElem];intro i j hi hj hij;rw[r.num q i _ (Qam hi),r.num q j _ (Qam hj)];omega
theorem RI.Kp {n:Nat} {logs:List (List En)} {W:List En} (r:RI n logs W) {q k:Nat} {e:En}:e∈(Aj W q).take k ↔ (e∈W/\e.pn=(q:Int))/\e.nr < (k:Int):=by
 constructor
 ·intro h;refine⟨Dg.mp (List.mem_of_mem_take h),?_⟩;obtain⟨i,hi⟩:=QaA h;have hk:i < k:=by
   have:=(Qai.mp hi).1;rw[Qbj] at this;omega
  rw[List.getElem?_take_of_lt hk] at hi;rw[r.num q i e hi];omega
 ·rintro ⟨h1,h2⟩;obtain⟨i,hi⟩:=QaA (Dg.mpr h1);have:=r.num q i e hi;refine Qaw (i:=i) ?_;rw[List.getElem?_take_of_lt (by omega)];exact hi
theorem RI.ord {n:Nat} {logs:List (List En)} {W g:List En} (r:RI n logs W) (hg:g∈logs) (q:Nat):Aj g q=(Aj W q).take (Aj g q).length:=by
 have inW:∀e∈Aj g q,e∈W/\e.pn=(q:Int):=λe he=>let ⟨h1,h2⟩:=Dg.mp he;⟨r.sub g hg e h1,h2⟩;have nd:=Lk (r.up g hg).nd q;have clo:∀e∈Aj g q,∀f∈W,f.pn=(q:Int)->f.nr < e.nr->f∈Aj g q:=λe he f hf hp hn=>Dg.mpr ⟨r.cl g hg e (Dg.mp he).1 f hf (by rw[hp,(Dg.mp he).2]) hn,hp⟩;refine Vx En.nr ?_ ((r.nrs q).sublist (List.take_sublist ..)) λe=>?_
 ·have h1:(Aj g q).Pairwise λe f=>e.cd < f.cd:=(r.up g hg).sublist List.filter_sublist;refine List.Pairwise.imp_of_mem ?_ h1;intro e f he hf hcd;obtain⟨eW,ep⟩:=inW e he;obtain⟨fW,fp⟩:=inW f hf;rcases Int.lt_trichotomy e.nr f.nr with h | h | h
  ·exact h
  ·rw[r.w.inj e eW f fW (by rw[ep,fp]) h] at hcd;exact absurd hcd (QbR _)
  ·have:=X3 (r.rise f fW e eW (by rw[ep,fp]) h) (r.w.pn1 f fW) (r.w.nr1 f fW) (r.w.pn0 e eW) (r.w.nr0 e eW);exact absurd (Int.lt_trans hcd this) (QbR _)
 ·rw[r.Kp];constructor
  ·intro he;refine⟨inW e he,?_⟩;have e0:=r.w.nr0 e (inW e he).1;have el:=r.nlt (inW e he).1 (inW e he).2;have:=Fj (l:=(Aj W q).take (e.nr.toNat+1)) (m:=Aj g q) ((Lk r.nd q).sublist (List.take_sublist ..)) λf hf=>by
    obtain⟨⟨fW,fp⟩,fn⟩:=r.Kp.mp hf;by_cases c:f.nr=e.nr
    ·rw[r.w.inj f fW e (inW e he).1 (by rw[fp,(inW e he).2]) c];exact he
    ·exact clo e he f fW fp (by omega)
   rw[Qbj] at this;omega
  ·rintro ⟨⟨eW,ep⟩,en⟩;apply Classical.byContradiction;intro ne;have e0:=r.w.nr0 e eW;have:=Fj (l:=Aj g q) (m:=(Aj W q).take e.nr.toNat) nd λf hf=>by
    obtain⟨fW,fp⟩:=inW f hf;refine r.Kp.mpr ⟨⟨fW,fp⟩,?_⟩;rcases Int.lt_trichotomy e.nr f.nr with h | h | h
    ·exact absurd (clo f hf e eW ep h) ne
    ·exact absurd (r.w.inj e eW f fW (by rw[ep,fp]) h ▸ hf) ne
    ·omega
   rw[Qbj] at this;omega
def nbB (n:Nat) (tied:List Bool) (i j:Nat):Bool:=i == j || (tied.getD i false&&j == (i+1) % n) || (tied.getD j false&&i == (j+1) % n)
def rB (n:Nat) (tied:List Bool):Nat->Nat->Nat->Bool
 | 0,i,j=>i == j
 | b+1,i,j=>(List.range n).any λk=>nbB n tied i k&&rB n tied b k j
theorem YT {n:Nat} {tied:List Bool} {logs:List (List En)} {i:Nat} {e:En} (hi:i < n) (hl:logs.length=n):NbP (prs n tied n) logs i e ↔ ∃k,k < n/\nbB n tied i k=true/\e∈logs.getD k []:=by
 have lt:∀{k},e∈logs.getD k []->k < n:=λ{k} h=>by
  by_cases c:k < logs.length
  ·rw[<-hl];exact c
  ·rw[Qaf,List.getElem?_eq_none (by omega)] at h;cases h
 have inp:∀{d:Nat×Nat},d∈prs n tied n ↔ d.1 < n/\tied.getD d.1 false=true/\d.2=(d.1+1) % n:=λ{d}=>by
  unfold prs;rw[QbX];constructor
  ·rintro ⟨j,hj,rfl⟩;obtain⟨h1,h2⟩:=List.mem_filter.mp hj;exact⟨QbK.mp h1,h2,rq⟩
  ·rintro ⟨h1,h2,h3⟩;exact⟨d.1,List.mem_filter.mpr ⟨QbK.mpr h1,h2⟩,Prod.ext rfl h3.symm⟩
 have nb:∀{k},nbB n tied i k=true ↔ i=k\/(tied.getD i false=true/\k=(i+1) % n)\/(tied.getD k false=true/\i=(k+1) % n):=λ{k}=>by
  unfold nbB;simp only[Bool.or_eq_true,Qbs,beq_iff_eq];exact or_assoc
 constructor
 ·rintro (h |⟨d,hd,⟨h1,h2⟩|⟨h1,h2⟩⟩)
  ·exact⟨i,hi,nb.mpr (.inl rfl),h⟩
  ·obtain⟨a,b,c⟩:=inp.mp hd;exact⟨d.2,lt h2,nb.mpr (.inr (.inl ⟨by rw[h1];exact b,by rw[h1];exact c⟩)),h2⟩
  ·obtain⟨a,b,c⟩:=inp.mp hd;exact⟨d.1,lt h2,nb.mpr (.inr (.inr ⟨b,by rw[h1];exact c⟩)),h2⟩
 ·rintro ⟨k,hk,h,he⟩;rcases nb.mp h with rfl |⟨h1,h2⟩|⟨h1,h2⟩
  ·exact .inl he
  ·exact .inr ⟨(i,k),inp.mpr ⟨hi,h1,h2⟩,.inl ⟨rq,he⟩⟩
  ·exact .inr ⟨(k,i),inp.mpr ⟨hk,h1,h2⟩,.inr ⟨rq,he⟩⟩
def G3 (n:Nat) (tied:List Bool) (l0:List (List En)) (b:Nat) (logs:List (List En)):Prop:=∀i g,logs[i]?=some g->∀e,e∈g ↔ ∃j,j < n/\rB n tied b i j=true/\e∈l0.getD j []
theorem G3.zero {n:Nat} {tied:List Bool} {l0:List (List En)} (hl:l0.length=n):G3 n tied l0 0 l0:=λi g hg e=>by
 have hi:i < n:=by rw[<-hl];exact (Qai.mp hg).1
 have eg:l0.getD i []=g:=by rw[Qaf,hg];rfl
 constructor
 ·intro h;exact⟨i,hi,by show (i == i)=true;simp,by rw[eg];exact h⟩
 ·rintro ⟨j,_,h1,h2⟩;have:i=j:=by have:(i == j)=true:=h1;simpa using this
  rw[<-this,eg] at h2;exact h2
theorem G3.succ {n:Nat} {tied:List Bool} {l0 logs Ax:List (List En)} {b:Nat} (s:G3 n tied l0 b logs) (hl:logs.length=n) (hl':Ax.length=n) (h:∀i g',Ax[i]?=some g'->Up g'/\∀e,e∈g' ↔ NbP (prs n tied n) logs i e):G3 n tied l0 (b+1) Ax:=λi g hg e=>by
 have hi:i < n:=by rw[<-hl'];exact (Qai.mp hg).1
 rw[(h i g hg).2 e,YT hi hl];constructor
 ·rintro ⟨k,hk,h1,h2⟩;obtain⟨j,hj,h3,h4⟩:=(s k _ (at_getD [] (by rw[hl];exact hk)) e).mp h2;exact⟨j,hj,List.any_eq_true.mpr ⟨k,QbK.mpr hk,by rw[h1,h3];rfl⟩,h4⟩
 ·rintro ⟨j,hj,h3,h4⟩;obtain⟨k,hk,h5⟩:=List.any_eq_true.mp h3;have hk:=QbK.mp hk;obtain⟨h1,h2⟩:=QaC.mp h5;exact⟨k,hk,h1,(s k _ (at_getD [] (by rw[hl];exact hk)) e).mpr ⟨j,hj,h2,h4⟩⟩
def allB:Nat->List (List Bool)
 | 0=>[[]]
 | n+1=>(allB n).flatMap λl=>[false::l,true::l]
theorem KZ:∀l:List Bool,l∈allB l.length
 | []=>.head _
 | b::l=>List.mem_flatMap.mpr ⟨l,KZ l,by cases b <;> simp⟩
def chk (n:Nat):Bool:=(allB n).all λt=>(houses n t).all λh=>decide (0 < h.length)&&h.all λi=>decide (i < n)&&(List.range n).all λb=>!decide (h.length<=b+1) || (List.range n).all λj=>rB n t b i j == h.contains j
theorem lJ:chk 2=true:=by trivial
theorem lH:chk 3=true:=by trivial
theorem lG:chk 4=true:=by trivial
def T3 (n:Nat):Bool:=(List.range n).all λi=>(List.range n).all λj=>rB n (List.replicate n true) n i j
theorem cW:T3 2=true:=by trivial
theorem cV:T3 3=true:=by trivial
theorem cU:T3 4=true:=by trivial
theorem Nb {n:Nat} (n2:2<=n) (n4:n<=4):chk n=true/\T3 n=true:=by
 have:n=2\/n=3\/n=4:=by omega
 rcases this with rfl | rfl | rfl
 ·exact⟨lJ,cW⟩
 ·exact⟨lH,cV⟩
 ·exact⟨lG,cU⟩
theorem WQ {n:Nat} {t:List Bool} (n2:2<=n) (n4:n<=4) (hl:t.length=n) {h:List Nat} (hh:h∈houses n t):0 < h.length/\∀i∈h,i < n:=by
 have:=Qbl.mp (Qbl.mp (Nb n2 n4).1 t (hl ▸ KZ t)) h hh;obtain⟨h1,h2⟩:=QaC.mp this;refine⟨Qbd h1,λi hi=>?_⟩;exact Qbd (QaC.mp (Qbl.mp h2 i hi)).1
theorem WM {n:Nat} {t:List Bool} (n2:2<=n) (n4:n<=4) (hl:t.length=n) {h:List Nat} (hh:h∈houses n t) {i b j:Nat} (hi:i∈h) (hb:b < n) (hs:h.length<=b+1) (hj:j < n):rB n t b i j=true ↔ j∈h:=by
 have:=Qbl.mp (Qbl.mp (Nb n2 n4).1 t (hl ▸ KZ t)) h hh;have h2:=(QaC.mp (Qbl.mp (QaC.mp this).2 i hi)).2;have h3:=Qbl.mp h2 b (QbK.mpr hb);rw[QbJ hs,Bool.not_true,Bool.false_or] at h3;have h4:=Qbl.mp h3 j (QbK.mpr hj);rw[beq_iff_eq.mp h4,List.contains_iff_mem]
theorem bG {n:Nat} (n2:2<=n) (n4:n<=4) {i j:Nat} (hi:i < n) (hj:j < n):rB n (List.replicate n true) n i j=true:=
 Qbl.mp (Qbl.mp (Nb n2 n4).2 i (QbK.mpr hi)) j (QbK.mpr hj)
abbrev DN:Stmt:=top 25
abbrev GK:YF:=["_law_bag_here","_law_circle","_law_many","_law_written"]
abbrev xi:YF:=["_law_bag_here","_law_circle","_law_many","_law_written","_law_panel","_law_text_here","_law_ahead","_law_told","_law_own"]
theorem EY:Az xi GK (Ad DN):=by ac_rfl
structure LS (C:Addr) (H:Hp) (p L T wr:Addr) (as:List Addr) (n:Nat) (logs:List (List En)) (tied:List Bool) (W:List En):Prop where
 R:RAt C H p L T as n logs tied
 ri:RI n logs W
 hw:Ay H wr W
 wp:wr≠p
 wL:wr≠L
 wT:wr≠T
 wa:wr∉as
section
variable {C:Addr} {H H':Hp} {p L T wr:Addr} {as:List Addr} {n:Nat} {logs:List (List En)} {tied:List Bool} {W:List En}
theorem LS.same (h:LS C H p L T wr as n logs tied W) (s:Same H H'):LS C H' p L T wr as n logs tied W:=⟨h.R.same s,h.ri,h.hw.same s,h.wp,h.wL,h.wT,h.wa⟩
theorem Ay.bag {b:Addr} {m:Nat} (h:Ay H wr W) (hb:Bv H b m):wr≠b:=λz=>by
 obtain⟨x,y,t,e,_⟩:=hb;obtain⟨vs,e1,r⟩:=h;rw[z,e] at e1;cases e1;cases r with
 | cons q _=>obtain⟨t,e2,_⟩:=q;cases e2
theorem LS.bag {b:Addr} {m:Nat} (h:LS C H p L T wr as n logs tied W) (hb:Bv H b m) (s:Ah b H H'):LS C H' p L T wr as n logs tied W:=
 have k:=h.R.bag hb
 ⟨h.R.Bl s hb.Ti k.1 k.2.1 k.2.2.1 k.2.2.2,h.ri,h.hw.Bl s hb.Ti (h.hw.bag hb),h.wp,h.wL,h.wT,h.wa⟩
end
def Fr3 (b L wr:Addr) (H H':Hp):Prop:=∀c o,H c=some o->c≠b->c≠L->c≠wr->H' c=some o
inductive Kr (C:Addr) (vs:YG) (H:Hp) (Q:VK) (E:XK):Prop
 | mk (b p L T wr:Addr) (m:Nat) (as:List Addr) (n:Nat) (logs:List (List En)) (tied:List Bool) (W:List En) (_:vs=[.ref b,.ref p,.int n,.ref wr]) (_:Bv H b m) (_:m<=8000) (_:LS C H p L T wr as n logs tied W) (_:W.length < 63) (_:∀(H':Hp) (as':List Addr) (Ax:List (List En)) (W':List En),Bv H' b (m+7)->LS C H' p L T wr as' n Ax tied W'->W'.length=W.length+1->(∀a∈as',a∈as\/H a=none)->Fr3 b L wr H H'->Q (.bl true) H'):Kr C vs H Q E
section
variable {P:Program} {w:World} {K:YD} {mg:YB} {base:Heap} {C:Addr}
abbrev xf:YF:=["_law_entry","_law_panel"]
theorem UL (c:Code K mg "_law_write" DN GK) (T:Tx K mg C) (Bt:Good P w K mg base "_law_take" 1 Ep Ii) (WY:Good P w K mg base "_law_text" 2 Hq O5) (Hu:Good P w K mg base "_law_is_entry" 2 Dv HD) (Di:Bu P w K mg base C "log_of" 4 BP (G9 C)) (Vp:Bu P w K mg base C "write" 4 Dw (Mg C)):Good P w K mg base "_law_write" 5 GK (Kr C):=by
 refine c.good EY (λvs H Q E h=>?_) (λf cdv A outer s H vs Q E hr h=>?_)
 ·obtain⟨b,p,L,T,wr,m,as,n,logs,tied,W,rfl,_⟩:=h;rfl
 obtain⟨b,p,L,TT,wr,m,as,n,logs,tied,W,rfl,hb,hm,S,few,q⟩:=h;refine⟨_,(Ae (Ba (i:=4) EY.nd rfl (Or.inr rfl) (Dh Bt hr (Aa (pv 0) (Aa (pv 2) Ab))))
 (Ae (Ba (i:=5) EY.nd rfl (Or.inl rfl) (Ij WY hr (Aa (pv 0) Ab)))
 (Ae (Ba (i:=6) EY.nd rfl (Or.inl rfl) (GC (pv 1) T.cl Di hr (Aa (pv 4) Ab)))
 (Ae (Ba (i:=7) EY.nd rfl (Or.inr rfl) (SM (pv 1) T.cl Vp hr (Aa (pv 4) (Aa (pv 5) Ab))))
 (Ae (Mq (i:=8) EY.nd rfl (Or.inl rfl) (N':=xf) rfl (Bp.of (src:=[none,some 4]) (Ad DN) xi rfl rfl rfl (by trivial) (by trivial) (by trivial) rfl (by trivial)) (Cw (pv 3)) (λ_ _ _ _=>(Ao (i:=0) (show List.Nodup (xf:YF) by trivial) rfl (Or.inl rfl))) (λ_ _ _ _=>(Ho (Bw G7 (Bj (FZ (K:=K) rfl) (pv 0) Af (λ_ _=>rfl)) (pv 1) (Bo _)))) (λ_ _ _ _=>(pv 0)))
 (Ae (Ca (PW.pt (JH (CN (CW (Ij Hu hr (Aa (pv 7) Ab)))) (JH (Bw (PL hr.units) (KC Rt (pv 7) (Mr Af) Ms) (Jq (Aa (pv 4) (Aa (Am Bg rfl T.len CQ (Aa (pv 8) Ab)) (Aa (pv 5) Ab)))) (Bo _)) (Lh (Bw JN (Bj Il (pv 7) Af (λ_ _=>rfl)) Af (Bo _)))))) (Ag (Bc Cp)) Bq)
 (Ae (Ca (PW.pt (Um (Bw G7 (Am Bg rfl T.len CQ (Aa (pv 6) Ab)) Af (Bo _)) (Rv (Bw Xz (Bj Il (pv 7) Af (λ_ _=>rfl)) Af (Bo _))))) (Ag (Bc Cp)) Bq)
 (Ae (Df (Og PySem.F.plainAttrs_list PySem.F.slot_list_append PySem.F.type_list_append HW (pv 3) (Aa (pv 7) Ab)))
 (Ag (Bc (Am (Gx rfl) rfl T.all Io (Aa (Cz (N':=["_law_entry","_law_told"]) rfl (Bp.of (src:=[none,some 7]) (Ad DN) xi rfl rfl rfl (by trivial) (by trivial) (by trivial) rfl (by trivial)) (Cw (pv 6)) (λ_ _ _ _=>(Ao (i:=0) (show List.Nodup (["_law_entry","_law_told"]:YF) by trivial) rfl (Or.inl rfl))) (λ_ _ _ _=>Fg) (λ_ _ _ _=>(Hg JN (Bj (FZ (K:=K) rfl) (pv 0) Af (λ_ _=>rfl)) (Bj (FZ (K:=K) rfl) (pv 1) Af (λ_ _=>rfl)) (Bo _)))) Ab)))))))))))),?_⟩
 show let R0:TS:=_;let R1:TS:=Ak _ R0;let R2:TS:=Ak _ R1;let R3:TS:=Ak _ R2;let R4:TS:=Ak _ R3;let R5:TS:=Ak _ R4;let R6:TS:=Ak _ R5;let R7:TS:=Ak _ R6;Ak _ R7 _ _ _;intro R0 R1 R2 R3 R4 R5 R6 R7;have n2:=S.R.n2;have n4:=S.R.n4;refine⟨_,rq,_,rq,b,m,n,rq,hb,by omega,by omega,by omega,λr1 H1 r10 r11 hb1 sb1=>?_⟩;have S1:=S.bag hb sb1;obtain⟨k,rfl⟩ : ∃k:Nat,r1=(k:Int):=⟨r1.toNat,by omega⟩;have hk:k < n:=by omega
 refine Bb ⟨_,rq,b,m+1,rq,hb1,by omega,λz H2 hz hb2 sb2=>Bb ?_⟩;have S2:=S1.bag hb1 sb2;obtain⟨dx,ob⟩:=S2.R.ob;have hg:=at_getD (l:=logs) [] (i:=k) (by rw[S2.R.ln];exact hk);have hgm:=Qaw hg;have jG:=S.ri.sub _ hgm;have aA:=(S.ri.up _ hgm).few S.ri.w jG;generalize logs.getD k []=g at *;refine⟨_,rq,p,dx,_,rq,ob,Dt (by trivial),_,rq,p,L,TT,as,n,k,logs,tied,g,rq,S2.R,hg,λl3 H3 fl3 lg3 s3=>Bb ?_⟩;have S3:=S2.same s3;refine⟨_,rq,p,dx,_,rq,s3 _ _ ob,Dt (by trivial),_,rq,_,rq,p,L,TT,as,n,k,logs,tied,g,z,rq,S3.R,hg,hz,aA,λt a H4 st hst fa ht R4 s4=>Bb ?_⟩;have eol:=S.ri.Rx hg;have ri4:=S.ri.write hg hst hz few n4;have L3t:∀xs,H3 L≠some (.tup xs):=λxs z=>by rw[S3.R.hl] at z;cases z
 have hw4:Ay H4 wr W:=S3.hw.Bl s4 L3t S3.wL;have n3L:l3≠L:=λz=>by rw[z,S2.R.hl] at fl3;cases fl3
 have lg4:Ay H4 l3 g:=lg3.Bl s4 L3t n3L;have eW:∀x∈W,x∈W:=λ_ h=>h;obtain⟨wv,hwv,pwv⟩:=hw4;have wvl:=QbO pwv;generalize he:(⟨st,(k:Int),(Aj g k).length,z⟩ : En)=e at *;have est:e.st=st:=by rw[<-he]
 have epn:e.pn=(k:Int):=by rw[<-he]
 have enr:e.nr=((Aj W k).length:Int):=by rw[<-eol,<-he]
 have etx:e.tx=z:=by rw[<-he]
 refine⟨_,rq,wr,rq,⟨_,SqL.of hwv⟩,λl5 hl5=>?_⟩;let J0:YN:=λ(i:Nat) (Z : St) (HX:Hp)=>∃(u:Option V) (ws:YG),Z=[u,some (.int k)]/\HX l5=some (.lst ws)/\ws.length=(Aj (W.take i) k).length/\Same H4 HX;refine Dk (xs:=wv) J0 ⟨_,[],rq,Ac,rq,Ai hl5 _⟩ (λi Z HX _ h=>?_) (λi x Z HX hx h=>?_) (fun Z HX h=>?_)
 ·obtain⟨u,ws,rfl,g1,g2,g3⟩:=h;exact SqL.of (g3 _ _ hwv)
 ·obtain⟨u,ws,rfl,g1,g2,g3⟩:=h;obtain⟨x,hxW,t',rfl,ht'⟩:=DX pwv hx;have lw:ws.length<=64:=by
   have:(Aj (W.take i) k).length<=(W.take i).length:=Qat ..;rw[Qbj] at this;omega
  refine Bb ⟨_,rq,t',_,_,_,rq,rq,SqT.of (g3 _ _ ht'),rq,_,rq,rq,_,rq,?_⟩;have eo:Aj (W.take (i+1)) k=Aj (W.take i) k++if x.pn=(k:Int) then [x] else []:=by
   unfold Aj;rw[Qck hxW,QaQ];congr 1;by_cases c:x.pn=(k:Int)
   ·rw[if_pos c];simp[c]
   ·rw[if_neg c];simp[c]
  by_cases c:x.pn=(k:Int)
  ·rw[if_pos c] at eo;rw[QbJ (by rw[c])];refine Ce ⟨_,rq,ws,g1,Aq (by omega),_,ws++[.ref t'],rq,Ac,?_,g3.BL Ah.upd hl5⟩;rw[eo,QaL,QaL,g2];rfl
  ·rw[if_neg c,QbE] at eo;rw[Qbv (λz=>c (V.int.inj z))];exact Bs ⟨_,ws,rq,g1,by rw[eo];exact g2,g3⟩
 obtain⟨u,ws,rfl,g1,g2,s5⟩:=h;rw[wvl,Qbk] at g2;have R5:=R4.same s5;have ht5:=s5 _ _ ht;have lg5:=lg4.same s5;have hw5:Ay HX wr W:=⟨wv,s5 _ _ hwv,Ens.tups (Bh.of s5) pwv⟩;refine Bb ?_;refine⟨_,rq,.ref t,e,rq,⟨t,rq,ht5⟩,λH6 s6=>⟨_,rq,Bs ?_⟩⟩;refine⟨_,rq,_,rq,t,_,rq,s6 _ _ ht5,λu7 H7 hu7 s7=>?_⟩;have e7:Gw e.vs (some 1) none=[.int (k:Int),.int ((Aj W k).length:Int),.str z]:=by
  show [V.int e.pn,.int e.nr,.str e.tx]=_;rw[epn,enr,etx]
 rw[e7] at hu7;refine⟨_,rq,_,rq,l5,ws,rq,.inl (SqL.of (s7 _ _ (s6 _ _ g1))),_,rq,Cd (by show 3<=1000;decide),λu8 hu8=>?_⟩;rw[show ((ws.length:Nat):Int)=((Aj W k).length:Int) by rw[g2]];have s8:=Ai hu8 (.tup [.int (k:Int),.int ((Aj W k).length:Int),.str z]);have h8:(upd H7 u8 (.tup [.int (k:Int),.int ((Aj W k).length:Int),.str z])) u8=some (.tup [.int (k:Int),.int ((Aj W k).length:Int),.str z]):=Ac;have s58:Same HX (upd H7 u8 (.tup [.int (k:Int),.int ((Aj W k).length:Int),.str z])):=(s6.trans s7).trans s8;have jB:=s8 _ _ hu7;generalize upd H7 u8 (.tup [.int (k:Int),.int ((Aj W k).length:Int),.str z])=H8 at *;have rp:∀u,H8 u=some (.tup [.int (k:Int),.int ((Aj W k).length:Int),.str z])->Rep H8 (.ref u) (.tuple [.int (k:Int),.int ((Aj W k).length:Int),.str z]):=λu h=>.tup h (.cons (.int _) (.cons (.int _) (.cons (.str _) .nil)));have sh:SeqAt.shaped (.tuple [.int (k:Int),.int ((Aj W k).length:Int),.str z])=true:=by
  show ((true&&(true&&(PyData.strOk z&&true)))&&decide (max 0 (max 0 (max 0 0))+1<=64))=true;rw[hz.str];rfl
 refine⟨_,_,rp _ jB,rp _ h8,sh,sh,_,rq,?_⟩;rw[SeqAt.eqv_refl _ (SeqAt.canLay_of_shaped sh)];have ht8:=s58 _ _ ht5;have m8:0<=e.st:=ri4.st0 e (Qas _ (.head _));have lg8:=lg5.same s58;obtain⟨gv,hgv,pgv⟩:=lg8;have gvl:=QbO pgv;refine Bs ⟨_,rq,t,_,_,_,rq,rq,SqT.of ht8,rq,_,_,rq,rq,_,rq,?_⟩;rw[Qbv (by omega)];refine Bs ?_;have rest:R1 { nx:=λx H'=>Q V.non H',rt:=Q } [js b,js p,some (.int n),js wr,some (.int k),some (.str z),js l3,js t,js l5] H8:=by
  have wv8:=s58 _ _ (s5 _ _ hwv);refine⟨_,rq,.inl ⟨rq,_,SqL.of wv8⟩,_,rq,wr,_,_,rq,rq,wv8,Aq (by omega),?_⟩;have s48:=s5.trans s58;have R8:=R4.same s48;have wt:∀xs,H8 wr≠some (.tup xs):=λxs z=>by rw[wv8] at z;cases z
  have na:wr≠a:=λz=>by
   obtain⟨vs0,e0,_⟩:=S3.hw;rw[z,fa] at e0;cases e0
  have nas:wr∉as.set k a:=λz=>by
   rcases Qaj z with z | z
   ·exact S.wa z
   ·exact na z
  have hb8:Bv H8 b (m+1+6):=((hb2.same s3).Bl s4 (S2.R.bag hb2).2.1.symm).same s48;have nbw:b≠wr:=(S2.hw.bag hb2).symm;have n3w:l3≠wr:=λz=>by
   obtain⟨vs0,e0,_⟩:=S2.hw;rw[z,e0] at fl3;cases fl3
  have s9:Ah wr H8 (upd H8 wr (.lst (wv++[.ref t]))):=Ah.upd;have hw9:Ay (upd H8 wr (.lst (wv++[.ref t]))) wr (W++[e]):=⟨_,Ac,Ens.tups (s9.tup wt) (CK (Ens.tups (Bh.of s48) pwv) (.cons ⟨t,rq,ht8⟩ .nil))⟩;have R9:=R8.Bl s9 wt S.wp.symm S.wL.symm S.wT.symm nas;have hb9:=hb8.Bl s9 nbw;have gv9:=s9 _ _ hgv n3w;have fZ:=Ens.tups (s9.tup wt) pgv;have ht9:(upd H8 wr (.lst (wv++[.ref t]))) t=some (.tup e.vs):=s9.tup wt _ _ ht8;have fr9:Fr3 b L wr H (upd H8 wr (.lst (wv++[.ref t]))):=λc o hc n1 n2 n3=>s9 _ _ (s48 _ _ (s4 _ _ (s3 _ _ (sb2 _ _ (sb1 _ _ hc n1) n1)) n2)) n3;generalize upd H8 wr (.lst (wv++[.ref t]))=H9 at *;refine⟨_,rq,l3,rq,⟨_,SqL.of gv9⟩,λl9 hl9=>?_⟩;let J1:YN:=λ(i:Nat) (Z : St) (HY:Hp)=>∃(u:Option V),Z=[u,js t]/\HY l9=some (.lst ((List.replicate i true).map V.bl))/\Same H9 HY;refine Dk (xs:=gv) J1 ⟨_,rq,Ac,Ai hl9 _⟩ (λi Z HY _ h=>?_) (λi x Z HY hx h=>?_) (fun Z HY h=>?_)
  ·obtain⟨u,rfl,y1,y2⟩:=h;exact SqL.of (y2 _ _ gv9)
  ·obtain⟨u,rfl,y1,y2⟩:=h;obtain⟨x,hxg,t',rfl,ht'⟩:=DX fZ hx;have hi:i < gv.length:=(Qai.mp hx).1;have xlt:x.st < e.st:=by
    rw[est];rcases hst with⟨h1,_⟩|⟨_,h2⟩
    ·rw[h1] at hxg;cases hxg
    ·exact h2 x (Qaw hxg)
   refine Bb (Ce ⟨_,rq,t',_,_,_,rq,rq,SqT.of (y2 _ _ ht'),rq,_,rq,t,_,_,_,rq,rq,SqT.of (y2 _ _ ht9),rq,_,_,rq,rq,_,y1,Aq (by simp;omega),_,rq,?_,y2.BL Ah.upd hl9⟩);rw[Ac];dsimp only;rw[QbJ xlt,QaB,Qby];rfl
  obtain⟨u,rfl,y1,y2⟩:=h;refine⟨l9,List.replicate gv.length true,rq,SqL.of y1,?_⟩;rw[show (List.replicate gv.length true).all id=true by simp];exact q HY (as.set k a) _ (W++[e]) ((hb9.same y2).mono (by omega)) ⟨R9.same y2,ri4,hw9.same y2,S.wp,S.wL,S.wT,nas⟩ (by rw[QaL];rfl) (λa' ha'=>by
   rcases Qaj ha' with z | z
   ·exact .inl z
   ·rw[z];exact .inr (sb1.free hb1.ex (sb2.free hb2.ex (s3.free fa)))) (λc o hc n1 n2 n3=>y2 _ _ (fr9 c o hc n1 n2 n3))
 refine⟨_,rq,l3,_,rq,.inl (SqL.of hgv),rq,_,rq,?_⟩;by_cases c0:gv.length=0
 ·rw[QbJ (by rw[c0];rfl)];have g0:g=[]:=List.eq_nil_of_length_eq_zero (by omega);have e0:e.st=0:=by
   rw[est];rcases hst with⟨_,h2⟩|⟨⟨f,hf,_⟩,_⟩
   ·exact h2
   ·rw[g0] at hf;cases hf
  refine Ce ⟨_,rq,t,_,_,_,rq,rq,SqT.of ht8,rq,rq,_,rq,?_⟩;rw[e0];exact Bs rest
 ·rw[Qbv (λz=>c0 (by have:=V.int.inj z;omega))];exact Bs rest
end
abbrev BX:Stmt:=top 26
abbrev Er:YF:=["_law_log","_law_many","_law_written"]
abbrev xg:YF:=["_law_log","_law_many","_law_written","_law_place","_law_panel","_law_own"]
theorem Fo:Az xg Er (Ad BX):=by ac_rfl
abbrev Ck:Stmt:=top 27
abbrev Cm:YF:=["_law_circle","_law_many","_law_written"]
theorem G6:Az ["_law_circle","_law_many","_law_written","_law_panel"] Cm (Ad Ck):=by ac_rfl
theorem Qu {H:Hp}:∀{vs:YG} {es:List En},Paired (CT H) vs es->Hy H vs (es.map En.pd)
 | _,_,.nil=>.nil
 | _,_,.cons a r=>.cons (Qv a) (Qu r)
theorem RL:∀{es:List En},(∀e∈es,PyData.strOk e.tx=true)->PyData.canLayAll0 (es.map En.pd)=true/\PyData.depthAll (es.map En.pd)<=2
 | [],_=>⟨rfl,by show 0<=2;decide⟩
 | e::r,h=>by
  have ih:=RL (es:=r) λx hx=>h x (.tail _ hx);refine⟨?_,?_⟩
  ·show ((true&&(true&&(true&&(PyData.strOk e.tx&&true))))&&PyData.canLayAll0 (r.map En.pd))=true;rw[h e (.head _),ih.1];rfl
  ·show max (max 0 (max 0 (max 0 (max 0 0)))+1) (PyData.depthAll (r.map En.pd))<=2;exact Nat.max_le.mpr ⟨by decide,ih.2⟩
theorem Je {es:List En} (h:∀e∈es,PyData.strOk e.tx=true):SeqAt.shaped (.list (es.map En.pd))=true:=by
 have h1:=RL h;show (PyData.canLayAll0 (es.map En.pd)&&decide (PyData.depthAll (es.map En.pd)+1<=64))=true;rw[h1.1,Bool.true_and];exact QbJ (by omega)
theorem Ry {H:Hp} {a:Addr} {es:List En} (h:Ay H a es):Rep H (.ref a) (.list (es.map En.pd)):=let ⟨vs,h1,h2⟩:=h;.lst h1 (Qu h2)
theorem Qe {H:Hp} {a b:Addr} {es:List En} (h1:Ay H a es) (h2:Ay H b es) (h:∀e∈es,PyData.strOk e.tx=true):∃d1 d2,Rep H (.ref a) d1/\Rep H (.ref b) d2/\SeqAt.shaped d1=true/\SeqAt.shaped d2=true/\PyData.eqv d1 d2=true:=
 ⟨_,_,Ry h1,Ry h2,Je h,Je h,SeqAt.eqv_refl _ (SeqAt.canLay_of_shaped (Je h))⟩
inductive Jl (vs:YG) (H:Hp) (Q:VK) (E:XK):Prop
 | mk (l wr:Addr) (n:Nat) (g W:List En) (_:vs=[.ref l,.int n,.ref wr]) (_:Ay H l g) (_:Ay H wr W) (_:n<=4) (_:WOk W) (_:Up g) (_:(∀e∈g,e∈W)) (_:(∀e∈W,e.pn < (n:Int))) (_:(∀q:Nat,Aj g q=(Aj W q).take (Aj g q).length)) (_:∀H',Same H H'->Q (.bl true) H'):Jl vs H Q E
inductive Iu (C:Addr) (vs:YG) (H:Hp) (Q:VK) (E:XK):Prop
 | mk (p L T wr:Addr) (as:List Addr) (n:Nat) (logs:List (List En)) (tied:List Bool) (W:List En) (_:vs=[.ref p,.int n,.ref wr]) (_:LS C H p L T wr as n logs tied W) (_:∀H',Same H H'->Q (.bl true) H'):Iu C vs H Q E
theorem PJ {g:List En} {i q:Nat} {e:En} (he:g[i]?=some e):Aj (g.take (i+1)) q=Aj (g.take i) q++if e.pn=(q:Int) then [e] else []:=by
 unfold Aj;rw[Qck he,QaQ];congr 1;by_cases c:e.pn=(q:Int)
 ·rw[if_pos c];simp[c]
 ·rw[if_neg c];simp[c]
theorem Jr (g:List En) (i q:Nat):(Aj (g.take i) q).length<=g.length:=QbW (Qat ..) (by rw[Qbj];omega)
theorem Xb (xs:YG) (n:Nat):Gw xs none (some (n:Int))=xs.take n:=by
 unfold Gw;rw[HT.V8,HT.Yd,List.drop_zero,Nat.sub_zero];by_cases h:n<=xs.length
 ·rw[Nat.min_eq_left h]
 ·rw[Nat.min_eq_right (by omega),Qbk,List.take_of_length_le (by omega)]
theorem Rw {α β : Type} {F:α->β->Prop}:∀{l:List α} {m:List β} (k:Nat),Paired F l m->Paired F (l.take k) (m.take k)
 | _,_,_,.nil=>by simp;exact .nil
 | _,_,0,.cons a r=>.nil
 | _,_,k+1,.cons a r=>.cons a (Rw k r)
section
variable {P:Program} {w:World} {K:YD} {mg:YB} {base:Heap} {C:Addr}
theorem Q7 (c:Code K mg "_law_in_order" BX Er) (T:Nm mg) (Hu:Good P w K mg base "_law_is_entry" 2 Dv HD):Good P w K mg base "_law_in_order" 3 Er Jl:=by
 refine c.good Fo (λvs H Q E h=>?_) (λf cdv A outer s H vs Q E hr h=>?_)
 ·obtain⟨l,wr,n,g,W,rfl,_⟩:=h;rfl
 obtain⟨l,wr,n,g,W,rfl,⟨gv,hgv,pgv⟩,⟨wv,hwv,pwv⟩,n4,w,ug,gW,pn,ord,q⟩:=h;refine⟨_,(Ae (Ca (PW.pt (JH (CN (CW (Am Ey rfl T.isinstance Ci (Aa (pv 0) (Aa (FQ (v:=.ty "list") rfl T.list Kc rfl) Ab))))) (Lh (CN (CW (Am (Gx rfl) rfl T.all Io (Aa (Cz (N':=["_law_entry"]) rfl (Bp.plain rfl (by trivial) (by trivial) (by trivial)) (Cw (pv 0)) (λ_ _ _ _=>(Ao (i:=0) (show List.Nodup (["_law_entry"]:YF) by trivial) rfl (Or.inl rfl))) (λ_ _ _ _=>Fg) (λ_ _ _ _=>(Ij Hu hr (Aa (pv 0) Ab)))) Ab))))))) (Ag (Bc Cp)) Bq)
 (Ae (CZ Qbz rfl (BW rfl T.range (Aa (Ar Ln (Am Bg rfl T.len CQ (Aa (pv 0) Ab)) Af) Ab)) (Ao (i:=3) Fo.nd rfl (Or.inl rfl))
 (Ag (Ca (CN (Bw (ZS hr.units) (Bj Br (pv 0) (pv 3) (λ_ _=>rfl)) (Bj Br (pv 0) (Ar Cv (pv 3) Af) (λ_ _=>rfl)) (Bo _))) (Ag (Bc Cp)) Bq)))
 (Ae (CZ Qbz rfl (BW rfl T.range (Aa (pv 1) Ab)) (Ao (i:=4) Fo.nd rfl (Or.inr rfl))
 (Ae (Mq (i:=5) Fo.nd rfl (Or.inl rfl) (N':=xf) rfl (Bp.of (src:=[none,some 4]) (Ad BX) xg rfl rfl rfl (by trivial) (by trivial) (by trivial) rfl (by trivial)) (Cw (pv 0)) (λ_ _ _ _=>(Ao (i:=0) (show List.Nodup (xf:YF) by trivial) rfl (Or.inl rfl))) (λ_ _ _ _=>(Ho (Bw G7 (Bj (FZ (K:=K) rfl) (pv 0) Af (λ_ _=>rfl)) (pv 1) (Bo _)))) (λ_ _ _ _=>(pv 0)))
 (Ag (Ca (Bw (PL hr.units) (pv 5) (KC X8 (Cz (N':=xf) rfl (Bp.of (src:=[none,some 4]) (Ad BX) xg rfl rfl rfl (by trivial) (by trivial) (by trivial) rfl (by trivial)) (Cw (pv 2)) (λ_ _ _ _=>(Ao (i:=0) (show List.Nodup (xf:YF) by trivial) rfl (Or.inl rfl))) (λ_ _ _ _=>(Ho (Bw G7 (Bj (FZ (K:=K) rfl) (pv 0) Af (λ_ _=>rfl)) (pv 1) (Bo _)))) (λ_ _ _ _=>(pv 0))) Ms (Mr (Am Bg rfl T.len CQ (Aa (pv 5) Ab)))) (Bo _)) (Ag (Bc Cp)) Bq))))
 (Ag (Bc (Hg G7 (Am Bg rfl T.len CQ (Aa (pv 0) Ab)) (Am Bg rfl T.len CQ (Aa (Cz (N':=["_law_entry","_law_many"]) rfl (Bp.of (src:=[none,some 1]) (Ad BX) xg rfl rfl rfl (by trivial) (by trivial) (by trivial) rfl (by trivial)) (Cw (pv 0)) (λ_ _ _ _=>(Ao (i:=0) (show List.Nodup (["_law_entry","_law_many"]:YF) by trivial) rfl (Or.inl rfl))) (λ_ _ _ _=>(Ho (Pn JQ JN Af (Bj (FZ (K:=K) rfl) (pv 0) Af (λ_ _=>rfl)) (pv 1)))) (λ_ _ _ _=>(pv 0))) Ab)) (Bo _))))))),?_⟩
 show let R0:TS:=_;let R1:TS:=_;let R2:TS:=Ak _ R1;let R3:TS:=Ak (Fq _ _ R2) R0;let R4:TS:=_;let R5:TS:=Ak (Fq _ _ R4) R3;Ak _ R5 _ _ _;intro R0 R1 R2 R3 R4 R5;have gvl:=QbO pgv;have wvl:=QbO pwv;have aA:=ug.few w gW;have dB:=w.few;refine⟨_,rq,Y5 hgv ⟨_,rq,Bs ?_⟩⟩;refine⟨_,rq,l,rq,⟨_,SqL.of hgv⟩,λl1 hl1=>?_⟩;let J0:YN:=λ(i:Nat) (Z : St) (HY:Hp)=>∃(u:Option V),Z=[u]/\HY l1=some (.lst ((List.replicate i true).map V.bl))/\Same H HY;refine Dk (xs:=gv) J0 ⟨_,rq,Ac,Ai hl1 _⟩ (λi Z HY _ h=>?_) (λi x Z HY hx h=>?_) (fun Z HY h=>?_)
 ·obtain⟨u,rfl,y1,y2⟩:=h;exact SqL.of (y2 _ _ hgv)
 ·obtain⟨u,rfl,y1,y2⟩:=h;obtain⟨x',hxg,hx'⟩:=DX pgv hx;have hi:i < gv.length:=(Qai.mp hx).1;refine Bb (Ce ⟨_,rq,x,x',rq,hx'.tups (Bh.of y2),λHZ sz=>⟨_,sz _ _ y1,Aq (by simp;omega),_,rq,?_,(y2.trans sz).BL Ah.upd hl1⟩⟩);rw[Ac,QaB,Qby];rfl
 obtain⟨u,rfl,y1,s1⟩:=h;refine⟨l1,List.replicate gv.length true,rq,SqL.of y1,_,rq,?_⟩;rw[show (List.replicate gv.length true).all id=true by simp];refine Bs ?_;refine⟨_,rq,l,_,rq,.inl (SqL.of (s1 _ _ hgv)),_,_,rq,rq,_,rq,by omega,by omega,?_⟩;let J1:YN:=λ(i:Nat) (Z : St) (HH:Hp)=>∃u3,Z=[js l,some (.int n),js wr,u3,none,none]/\Same H HH;refine Dj J1 ⟨_,rq,s1⟩ (λi Z HH hi h=>?_) (fun Z HH h=>?_)
 ·obtain⟨u3,rfl,e1⟩:=h;have hi':i+1 < g.length:=by omega
  have h0:=Qam (l:=g) (i:=i) (by omega);have h1:=Qam (l:=g) (i:=i+1) hi';obtain⟨v0,hv0,a0⟩:=El pgv h0;obtain⟨v1,hv1,a1⟩:=El pgv h1;have lt:g[i].cd < g[i+1].cd:=List.pairwise_iff_getElem.mp ug i (i+1) (by omega) hi' (by omega);have W0:=gW _ (Qaw h0);have W1:=gW _ (Qaw h1);generalize g[i]=x0 at *;generalize g[i+1]=x1 at *;rw[QbZ];have at1:atI gv ((i:Int)+1)=some v1:=by
   have:=Fe hv1;rw[show (((i+1:Nat)):Int)=(i:Int)+1 by omega] at this;exact this
  have key:∀{v:V} {e:En},CT H v e->e∈W->Ez K HH v e.cd:=λha he=>by
   obtain⟨t,e2,e3⟩:=ha;exact⟨t,_,_,_,_,e2,SqT.of (e1 _ _ e3),w.c4 he⟩
  refine Bb ⟨_,rq,_,rq,l,_,_,_,rq,rq,SqL.of (e1 _ _ hgv),Fe hv0,_,rq,_,rq,_,_,rq,rq,l,_,_,_,rq,rq,SqL.of (e1 _ _ hgv),at1,x0.cd,x1.cd,key a0 W0,key a1 W1,(by omega),_,rq,?_⟩;rw[QbJ lt];exact Bs ⟨_,rq,e1⟩
 obtain⟨u3,rfl,s2⟩:=h;refine⟨_,rq,_,rq,by omega,by omega,?_⟩;let J2:YN:=λ(i:Nat) (Z : St) (HH:Hp)=>∃u3 u4 u5,Z=[js l,some (.int n),js wr,u3,u4,u5]/\Same H HH;refine Dj J2 ⟨_,_,_,rq,s2⟩ (λk Z H3 hk h=>?_) (fun Z H3 h=>?_)
 ·obtain⟨u3,u4,u5,rfl,s3⟩:=h;rw[QbZ];refine Bb ⟨_,rq,l,rq,⟨_,SqL.of (s3 _ _ hgv)⟩,λl4 hl4=>?_⟩;let J3:YN:=λ(i:Nat) (Z : St) (HX:Hp)=>∃(u:Option V) (ws:YG),Z=[u,some (.int k)]/\HX l4=some (.lst ws)/\Paired (CT HX) ws (Aj (g.take i) k)/\Same H3 HX;refine Dk (xs:=gv) J3 ⟨_,[],rq,Ac,.nil,Ai hl4 _⟩ (λi Z HX _ h=>?_) (λi x Z HX hx h=>?_) (fun Z HX h=>?_)
  ·obtain⟨u,ws,rfl,g1,g2,g3⟩:=h;exact SqL.of (g3 _ _ (s3 _ _ hgv))
  ·obtain⟨u,ws,rfl,g1,g2,g3⟩:=h;obtain⟨x,hxg,t',rfl,ht'⟩:=DX pgv hx;have lw:ws.length<=g.length:=by rw[QbO g2];exact Jr g i k
   have ht3:=g3 _ _ (s3 _ _ ht');refine Bb ⟨_,rq,t',_,_,_,rq,rq,SqT.of ht3,rq,_,rq,rq,_,rq,?_⟩;have eo:=PJ (q:=k) hxg;have tl:∀xs,HX l4≠some (.tup xs):=λxs z=>by rw[g1] at z;cases z
   by_cases c:x.pn=(k:Int)
   ·rw[if_pos c] at eo;rw[QbJ (by rw[c])];refine Ce ⟨_,rq,ws,g1,Aq (by omega),_,ws++[.ref t'],rq,Ac,?_,g3.BL Ah.upd hl4⟩;rw[eo];exact Ens.tups (Bh.upd tl) (CK g2 (.cons ⟨t',rq,ht3⟩ .nil))
   ·rw[if_neg c,QbE] at eo;rw[Qbv (λz=>c (V.int.inj z))];exact Bs ⟨_,ws,rq,g1,by rw[eo];exact g2,g3⟩
  obtain⟨u,ws,rfl,g1,g2,s4⟩:=h;rw[gvl,Qbk] at g2;have s04:=s3.trans s4;refine Bb ⟨_,rq,_,rq,wr,rq,⟨_,SqL.of (s04 _ _ hwv)⟩,λl5 hl5=>?_⟩;let J4:YN:=λ(i:Nat) (Z : St) (HZ:Hp)=>∃(u:Option V) (zs:YG),Z=[u,some (.int k)]/\HZ l5=some (.lst zs)/\Paired (CT HZ) zs (Aj (W.take i) k)/\Same HX HZ;refine Dk (xs:=wv) J4 ⟨_,[],rq,Ac,.nil,Ai hl5 _⟩ (λi Z HZ _ h=>?_) (λi x Z HZ hx h=>?_) (fun Z HZ h=>?_)
  ·obtain⟨u,zs,rfl,z1,z2,z3⟩:=h;exact SqL.of (z3 _ _ (s04 _ _ hwv))
  ·obtain⟨u,zs,rfl,z1,z2,z3⟩:=h;obtain⟨x,hxW,t',rfl,ht'⟩:=DX pwv hx;have lw:zs.length<=W.length:=by rw[QbO z2];exact Jr W i k
   have ht3:=z3 _ _ (s04 _ _ ht');refine Bb ⟨_,rq,t',_,_,_,rq,rq,SqT.of ht3,rq,_,rq,rq,_,rq,?_⟩;have eo:=PJ (q:=k) hxW;have tl:∀xs,HZ l5≠some (.tup xs):=λxs z=>by rw[z1] at z;cases z
   by_cases c:x.pn=(k:Int)
   ·rw[if_pos c] at eo;rw[QbJ (by rw[c])];refine Ce ⟨_,rq,zs,z1,Aq (by omega),_,zs++[.ref t'],rq,Ac,?_,z3.BL Ah.upd hl5⟩;rw[eo];exact Ens.tups (Bh.upd tl) (CK z2 (.cons ⟨t',rq,ht3⟩ .nil))
   ·rw[if_neg c,QbE] at eo;rw[Qbv (λz=>c (V.int.inj z))];exact Bs ⟨_,zs,rq,z1,by rw[eo];exact z2,z3⟩
  obtain⟨u,zs,rfl,z1,z2,s5⟩:=h;rw[wvl,Qbk] at z2;refine⟨_,rq,l4,ws,rq,.inl (SqL.of (s5 _ _ g1)),_,rq,l5,zs,rq,SqL.of z1,λl6 hl6=>?_⟩;rw[Xb,QbO g2];have s6:=Ai hl6 (.lst (zs.take (Aj g k).length));have h6:Ay (upd HZ l6 (.lst (zs.take (Aj g k).length))) l6 (Aj g k):=by
   refine⟨_,Ac,Ens.tups (Bh.of s6) ?_⟩;have:=Rw (Aj g k).length z2;rw[<-ord k] at this;exact this
  have h4:Ay (upd HZ l6 (.lst (zs.take (Aj g k).length))) l4 (Aj g k):=Ay.same (Ay.same ⟨ws,g1,g2⟩ s5) s6;generalize upd HZ l6 (.lst (zs.take (Aj g k).length))=H6 at *;obtain⟨d1,d2,r1,r2,r3,r4,r5⟩:=Qe h4 h6 λe he=>w.tx e (gW e (Dg.mp he).1);refine⟨d1,d2,r1,r2,r3,r4,_,rq,?_⟩;rw[r5];exact Bs ⟨_,_,_,rq,(s04.trans s5).trans s6⟩
 obtain⟨u3,u4,u5,rfl,s3⟩:=h;refine⟨_,rq,l,_,rq,.inl (SqL.of (s3 _ _ hgv)),_,rq,l,rq,⟨_,SqL.of (s3 _ _ hgv)⟩,λl7 hl7=>?_⟩;let J5:YN:=λ(i:Nat) (Z : St) (HX:Hp)=>∃(u:Option V) (ws:YG),Z=[u,some (.int n)]/\HX l7=some (.lst ws)/\ws.length=i/\Same H3 HX;refine Dk (xs:=gv) J5 ⟨_,[],rq,Ac,rq,Ai hl7 _⟩ (λi Z HX _ h=>?_) (λi x Z HX hx h=>?_) (fun Z HX h=>?_)
 ·obtain⟨u,ws,rfl,g1,g2,g3⟩:=h;exact SqL.of (g3 _ _ (s3 _ _ hgv))
 ·obtain⟨u,ws,rfl,g1,g2,g3⟩:=h;obtain⟨x,hxg,t',rfl,ht'⟩:=DX pgv hx;have hi:i < gv.length:=(Qai.mp hx).1;have ht3:=g3 _ _ (s3 _ _ ht');have xW:=gW x (Qaw hxg);have x0:=w.pn0 x xW;have x1:=pn x xW;refine Bb ⟨_,rq,t',_,_,_,rq,rq,SqT.of ht3,rq,_,_,rq,rq,_,rq,?_⟩;rw[QbJ x0];refine Ce ⟨_,rq,_,_,rq,rq,_,rq,?_⟩;rw[QbJ x1];exact Ce ⟨_,rq,ws,g1,Aq (by omega),_,ws++[.ref t'],rq,Ac,by rw[QaL,g2];rfl,g3.BL Ah.upd hl7⟩
 obtain⟨u,ws,rfl,g1,g2,g3⟩:=h;refine⟨l7,ws,rq,.inl (SqL.of g1),rq,?_⟩;rw[g2];have:=q _ (s3.trans g3);rw[show (V.bl true)=V.bl (decide (V.int (gv.length:Int)=V.int (gv.length:Int))) by rw[QbJ rfl]] at this;exact this
theorem Lp (c:Code K mg "_law_all_in_order" Ck Cm) (T:Tx K mg C) (Qs:Good P w K mg base "_law_in_order" 3 Er Jl) (Di:Bu P w K mg base C "log_of" 4 BP (G9 C)):Good P w K mg base "_law_all_in_order" 5 Cm (Iu C):=by
 refine c.good G6 (λvs H Q E h=>?_) (λf cdv A outer s H vs Q E hr h=>?_)
 ·obtain⟨p,L,TT,wr,as,n,logs,tied,W,rfl,_⟩:=h;rfl
 obtain⟨p,L,TT,wr,as,n,logs,tied,W,rfl,S,q⟩:=h;refine⟨_,(Ae (CZ Qbz rfl (BW rfl T.range (Aa (pv 1) Ab)) (Ao (i:=3) G6.nd rfl (Or.inl rfl))
 (Ag (Ca (CN (CW (GJ Qs hr (Aa (GC (pv 0) T.cl Di hr (Aa (pv 3) Ab)) (Aa (pv 1) (Aa (pv 2) Ab)))))) (Ag (Bc Cp)) Bq)))
 (Ag (Bc Cp))),?_⟩
 show let R0:TS:=_;Ak (Fq _ _ R0) _ _ _ _;intro R0;have n4:=S.R.n4;refine⟨_,rq,_,rq,by omega,by omega,?_⟩;let J6:YN:=λ(i:Nat) (Z : St) (HH:Hp)=>∃u3,Z=[js p,some (.int n),js wr,u3]/\Same H HH;refine Dj J6 ⟨_,rq,Same.refl H⟩ (λk Z HH hk h=>?_) (fun Z HH h=>?_)
 ·obtain⟨u3,rfl,s1⟩:=h;rw[Qba] at hk;rw[QbZ];have S1:=S.same s1;obtain⟨dx,ob⟩:=S1.R.ob;have hg:=at_getD (l:=logs) [] (i:=k) (by rw[S.R.ln];exact hk);have hgm:=Qaw hg;refine Bb ⟨_,rq,p,dx,_,rq,ob,Dt (by trivial),_,rq,p,L,TT,as,n,k,logs,tied,_,rq,S1.R,hg,λl H2 fl lg s2=>?_⟩;refine⟨_,rq,_,rq,l,wr,n,_,W,rq,lg,(S1.same s2).hw,n4,S.ri.w,S.ri.up _ hgm,S.ri.sub _ hgm,S.ri.pn,λq=>S.ri.ord hgm q,λH3 s3=>⟨_,rq,Bs ⟨_,rq,(s1.trans s2).trans s3⟩⟩⟩
 obtain⟨u3,rfl,s1⟩:=h;exact q _ s1
end
abbrev Gq:Stmt:=top 28
abbrev Hr:YF:=["_law_bag_here","_law_circle","_law_links","_law_written"]
theorem HJ:Az ["_law_bag_here","_law_circle","_law_links","_law_written","_law_way","_law_many","_law_link"] Hr (Ad Gq):=by ac_rfl
def Fr6 (b p L T wr lk:Addr) (H H':Hp):Prop:=∀c o,H c=some o->c≠b->c≠p->c≠L->c≠T->c≠wr->c≠lk->H' c=some o
structure LK (H:Hp) (p L T wr lk:Addr) (as:List Addr) (tied:List Bool):Prop where
 hk:H lk=some (.lst (tied.map V.bl))
 kp:lk≠p
 kL:lk≠L
 kT:lk≠T
 kw:lk≠wr
 ka:lk∉as
inductive O7 (C:Addr) (vs:YG) (H:Hp) (Q:VK) (E:XK):Prop
 | mk (b p L T wr lk:Addr) (m:Nat) (as:List Addr) (n:Nat) (logs:List (List En)) (tied:List Bool) (W:List En) (_:vs=[.ref b,.ref p,.ref lk,.ref wr]) (_:Bv H b m) (_:m<=7000) (_:LS C H p L T wr as n logs tied W) (_:LK H p L T wr lk as tied) (_:W.length < 63) (_:∀(H':Hp) (L':Addr) (as':List Addr) (Ax:List (List En)) (Cj:List Bool) (W':List En),LS C H' p L' T wr as' n Ax Cj W'->LK H' p L' T wr lk as' Cj->W'.length<=W.length+1->(L'=L\/H L'=none)->Fr6 b p L T wr lk H H'->Q (.bl true) H'):O7 C vs H Q E
section
variable {C:Addr} {H H':Hp} {p L T wr lk:Addr} {as:List Addr} {n:Nat} {logs:List (List En)} {tied:List Bool} {W:List En}
theorem LK.bag {b:Addr} {m:Nat} (h:LK H p L T wr lk as tied) (hn:0 < tied.length) (hb:Bv H b m):lk≠b:=λz=>by
 obtain⟨x,y,t,e,_⟩:=hb;have e1:=h.hk;rw[z,e] at e1
 match tied,hn with
 | a::r,_=>cases e1
theorem LK.move (h:LK H p L T wr lk as tied) (e:H' lk=some (.lst (tied.map V.bl))):LK H' p L T wr lk as tied:=⟨e,h.kp,h.kL,h.kT,h.kw,h.ka⟩
theorem LS.Zo {Cj:List Bool} (h:LS C H p L T wr as n logs tied W) (R:RAt C H' p L T as n logs Cj) (s:Ah T H H'):LS C H' p L T wr as n logs Cj W:=by
 have t:∀xs,H T≠some (.tup xs):=λxs z=>by rw[h.R.ht] at z;cases z
 exact⟨R,h.ri,h.hw.Bl s t h.wT,h.wp,h.wL,h.wT,h.wa⟩
theorem LS.put (h:LS C H p L T wr as n logs tied W) (k:LK H p L T wr lk as tied) (o:HO):LS C (upd H lk o) p L T wr as n logs tied W:=by
 have t:∀xs,H lk≠some (.tup xs):=λxs z=>by rw[k.hk] at z;cases z
 exact⟨h.R.Bl Ah.upd t k.kp.symm k.kL.symm k.kT.symm k.ka,h.ri,h.hw.Bl Ah.upd t k.kw.symm,h.wp,h.wL,h.wT,h.wa⟩
end
section
variable {P:Program} {w:World} {K:YD} {mg:YB} {base:Heap} {C:Addr}
theorem Yy (c:Code K mg "_law_deed" Gq Hr) (T:Tx K mg C) (Bt:Good P w K mg base "_law_take" 1 Ep Ii) (Vr:Good P w K mg base "_law_write" 5 GK (Kr C)) (Fw:Good P w K mg base "_law_all_in_order" 5 Cm (Iu C))
  (Zb:Bu P w K mg base C "cut" 4 Fd (JD C false)) (KN:Bu P w K mg base C "mend" 4 Dr (JD C true)) (KQ:Bu P w K mg base C "beat" 2 Ds (K8 C)):Good P w K mg base "_law_deed" 6 Hr (O7 C):=by
 refine c.good HJ (λvs H Q E h=>?_) (λf cdv A outer s H vs Q E hr h=>?_)
 ·obtain⟨b,p,L,T,wr,lk,m,as,n,logs,tied,W,rfl,_⟩:=h;rfl
 obtain⟨b,p,L,TT,wr,lk,m,as,n,logs,tied,W,rfl,hb,hm,S,N,few,q⟩:=h;refine⟨_,(Ae (Ba (i:=4) HJ.nd rfl (Or.inl rfl) (Dh Bt hr (Aa (pv 0) (Aa Af Ab))))
 (Ae (Ba (i:=5) HJ.nd rfl (Or.inl rfl) (Am Bg rfl T.len CQ (Aa (pv 2) Ab)))
 (Ae (Ba (i:=6) HJ.nd rfl (Or.inl rfl) (Dh Bt hr (Aa (pv 0) (Aa (pv 5) Ab))))
 (Ae (Ca (Bw JN (pv 4) Af (Bo _)) (Ag (Bc (Uv Vr hr (Aa (pv 0) (Aa (pv 1) (Aa (pv 5) (Aa (pv 3) Ab))))))) Bq)
 (Ae (Ca (Bw JN (pv 4) Af (Bo _)) (Ae (Ec Cp (Em (pv 2) (pv 6) set_list))
 (Ag (Df (GC (pv 1) T.cl Zb hr (Aa (pv 6) Ab))))) (Ag (Ca (Bw G7 (pv 4) Af (Bo _)) (Ae (Ec Cp (Em (pv 2) (pv 6) set_list))
 (Ag (Df (GC (pv 1) T.cl KN hr (Aa (pv 6) Ab))))) (Ag (Df (SN (pv 1) T.cl KQ hr))))))
 (Ag (Bc (GJ Fw hr (Aa (pv 1) (Aa (pv 5) (Aa (pv 3) Ab))))))))))),?_⟩
 show let R0:TS:=_;let R1:TS:=_;let R2:TS:=Ak _ R1;let R3:TS:=_;let R4:TS:=Ak _ R3;let R5:TS:=Jj _ R4 _;let R6:TS:=Ak (Jj _ R2 R5) R0;let R7:TS:=_;let R8:TS:=Ak (Jj _ R7 _) R6;let R9:TS:=Ak _ R8;let R10:TS:=Ak _ R9;Ak _ R10 _ _ _;intro R0 R1 R2 R3 R4 R5 R6 R7 R8 R9 R10;have n2:=S.R.n2;have n4:=S.R.n4;have tn:=S.R.tn;have nkb:=N.bag (by omega) hb;refine⟨_,rq,b,m,8,rq,hb,by omega,by decide,by decide,λr1 H1 r10 r11 hb1 sb1=>Bb ?_⟩;have S1:=S.bag hb sb1;have N1:=N.move (sb1 _ _ N.hk nkb);refine⟨_,rq,lk,_,rq,.inl (SqL.of N1.hk),?_⟩;rw[Qbu,tn];refine Bb ⟨_,rq,_,rq,b,m+1,n,rq,hb1,by omega,by omega,by omega,λr2 H2 r20 r21 hb2 sb2=>Bb ?_⟩;have S2:=S1.bag hb1 sb2;have N2:=N1.move (sb2 _ _ N1.hk nkb);obtain⟨k,rfl⟩ : ∃k:Nat,r2=(k:Int):=⟨r2.toNat,by omega⟩;have hk:k < n:=by omega
 have f2:∀c o,H c=some o->c≠b->H2 c=some o:=λc o e ne=>sb2 _ _ (sb1 _ _ e ne) ne;have f2':∀x,H2 x=none->H x=none:=λx e=>sb1.free hb1.ex (sb2.free hb2.ex e);obtain⟨dx,ob⟩:=S2.R.ob;refine⟨_,rq,_,_,rq,rq,_,rq,MP (λc1=>?_) (λc1=>?_)⟩
 ·refine⟨_,rq,_,rq,_,rq,_,rq,b,p,L,TT,wr,m+2,as,n,logs,tied,W,rq,hb2,by omega,S2,few,λH3 as' Ax W' hb3 S3 wl has fr=>?_⟩;have n3b:lk≠L:=N.kL;refine q H3 L as' Ax tied W' S3 ⟨fr _ _ N2.hk nkb N.kL N.kw,N.kp,N.kL,N.kT,N.kw,λz=>?_⟩ (by omega) (.inl rfl) (λc o e n1 n2 n3 n4 n5 n6=>fr _ _ (f2 c o e n1) n1 n3 n5);rcases has lk z with z | z
  ·exact N.ka z
  ·rw[N2.hk] at z;cases z
 have fin:∀H3 L' as' Ax Cj,LS C H3 p L' TT wr as' n Ax Cj W->LK H3 p L' TT wr lk as' Cj->(L'=L\/H2 L'=none)->Fr6 b p L TT wr lk H H3->R0 { nx:=λx H'=>Q V.non H',rt:=Q } [js b,js p,js lk,js wr,some (.int r1),some (.int n),some (.int k)] H3:=λH3 L' as' Ax Cj S3 N3 hL fr=>by
  refine⟨_,rq,_,rq,_,rq,p,L',TT,wr,as',n,Ax,Cj,W,rq,S3,λH4 s4=>?_⟩;exact q H4 L' as' Ax Cj W (S3.same s4) (N3.move (s4 _ _ N3.hk)) (by omega) (hL.imp id λz=>f2' _ z) (λc o e n1 n2 n3 n4 n5 n6=>s4 _ _ (fr c o e n1 n2 n3 n4 n5 n6))
 have put:∀b0:Bool,∃H3,H3=upd H2 lk (.lst ((tied.map V.bl).set k (.bl b0)))/\LS C H3 p L TT wr as n logs tied W/\H3 lk=some (.lst ((tied.set k b0).map V.bl)):=λb0=>⟨_,rq,S2.put N2 _,by rw[Ac,Qcc]⟩;have ixk:ixN (tied.map V.bl).length (k:Int)=some k:=ixn (by rw[Qbu,tn];exact hk);have done:∀(b0:Bool) (H3 H4:Hp),H3=upd H2 lk (.lst ((tied.map V.bl).set k (.bl b0)))->H3 lk=some (.lst ((tied.set k b0).map V.bl))->LS C H3 p L TT wr as n logs tied W->RAt C H4 p L TT as n logs (tied.set k b0)->Ah TT H3 H4->R0 { nx:=λx H'=>Q V.non H',rt:=Q } [js b,js p,js lk,js wr,some (.int r1),some (.int n),some (.int k)] H4:=λb0 H3 H4 e3 h3 S3 R4 s4=>by
  refine fin H4 L as logs (tied.set k b0) (S3.Zo R4 s4) ⟨s4 _ _ h3 N.kT,N.kp,N.kL,N.kT,N.kw,N.ka⟩ (.inl rfl) λc o e n1 n2 n3 n4 n5 n6=>s4 _ _ ?_ n4;rw[e3,Al n6];exact f2 c o e n1
 refine⟨_,rq,_,_,rq,rq,_,rq,MP (λc2=>?_) (λc2=>?_)⟩
 ·refine⟨_,rq,_,rq,lk,_,_,k,rq,rq,N2.hk,ixk,?_⟩;obtain⟨H3,e3,S3,h3⟩:=put false;rw[<-e3];obtain⟨dx3,ob3⟩:=S3.R.ob;exact⟨_,rq,p,dx3,_,rq,ob3,Dt (by trivial),_,rq,p,L,TT,as,n,k,logs,tied,rq,S3.R,hk,λH4 R4 s4=>done false H3 H4 e3 h3 S3 R4 s4⟩
 refine⟨_,rq,rq,_,rq,MP (λc3=>?_) (λc3=>?_)⟩
 ·refine⟨_,rq,_,rq,lk,_,_,k,rq,rq,N2.hk,ixk,?_⟩;obtain⟨H3,e3,S3,h3⟩:=put true;rw[<-e3];obtain⟨dx3,ob3⟩:=S3.R.ob;exact⟨_,rq,p,dx3,_,rq,ob3,Dt (by trivial),_,rq,p,L,TT,as,n,k,logs,tied,rq,S3.R,hk,λH4 R4 s4=>done true H3 H4 e3 h3 S3 R4 s4⟩
 ·refine⟨_,rq,p,dx,_,rq,ob,Dt (by trivial),p,L,TT,as,n,logs,tied,W,rq,S2.R,S.ri.w,S.ri.sub,S.ri.up,λL' as' H3 Ax fL fas R3 mem s3=>?_⟩;have nw:wr∉as':=λz=>by
   rcases fas wr z with z | z
   ·exact S.wa z
   ·obtain⟨vs0,e0,_⟩:=S2.hw;rw[e0] at z;cases z
  have nk:lk∉as':=λz=>by
   rcases fas lk z with z | z
   ·exact N.ka z
   ·rw[N2.hk] at z;cases z
  have wL':wr≠L':=λz=>by
   obtain⟨vs0,e0,_⟩:=S2.hw;rw[z,fL] at e0;cases e0
  have kL':lk≠L':=λz=>by
   have:=N2.hk;rw[z,fL] at this;cases this
  exact fin H3 L' as' Ax tied ⟨R3,S.ri.beat R3.ln mem,S2.hw.Bl s3 S2.R.pt S.wp,S.wp,wL',S.wT,nw⟩ ⟨s3 _ _ N2.hk N.kp,N.kp,kL',N.kT,N.kw,nk⟩ (.inr fL) λc o e n1 n2 n3 n4 n5 n6=>s3 _ _ (f2 c o e n1) n2
end
abbrev Dl:Stmt:=top 29
abbrev Fi:YF:=["_law_circle","_law_links","_law_written"]
abbrev xo:YF:=["_law_circle","_law_links","_law_written","_law_houses_here","_law_due","_law_house","_law_held","_law_panel","_law_entry","_law_beats","_law_log"]
theorem BK:Az xo Fi (Ad Dl):=by ac_rfl
def En.IW (e:En):List Key:=[.inl e.st,.inl e.pn,.inl e.nr,.inr e.tx]
def hk4 (e:En):List Key×V:=(e.IW,.bl true)
theorem WD {e f:En} (h:e.IW=f.IW):e=f:=by
 obtain⟨a,b,c,d⟩:=e;obtain⟨a',b',c',d'⟩:=f;unfold En.IW at h;simp only[List.cons.injEq,Sum.inl.injEq,Sum.inr.injEq,and_true] at h;obtain⟨rfl,rfl,rfl,rfl⟩:=h;rfl
theorem Wi (ds:List En) (e:En):putK (ds.map hk4) e.IW (.bl true)=(if e∈ds then ds else ds++[e]).map hk4:=by
 unfold putK;by_cases h:e∈ds
 ·rw[if_pos (List.any_eq_true.mpr ⟨hk4 e,QbX.mpr ⟨e,h,rq⟩,QbJ rfl⟩),if_pos h,List.map_map];refine List.map_congr_left λf _=>?_;show (if f.IW=e.IW then (f.IW,V.bl true) else hk4 f)=hk4 f
  split <;> rfl
 ·rw[if_neg (λz=>?_),if_neg h,Qby]
  ·rfl
  ·obtain⟨kv,h1,h2⟩:=List.any_eq_true.mp z;obtain⟨f,hf,rfl⟩:=QbX.mp h1;exact h (WD (Qbd h2) ▸ hf)
theorem RG {H:Hp}:∀{bs:List Addr} {ds:List En},Paired (λb (kv:List Key×V)=>H b=some (.tup (kv.1.map kV))) bs (ds.map hk4)->Paired (CT H) (bs.map V.ref) ds
 | [],[],_=>.nil
 | b::bs,d::ds,.cons a r=>.cons ⟨b,rfl,a⟩ (RG r)
 | [],_::_,h=>nomatch h
 | _::_,[],h=>nomatch h
theorem Uo {α β : Type} {F:α->β->Prop}:∀{l:List α} {m:List β} {x:α},Paired F l m->x∈l->∃y,F x y
 | _,_,_,.nil,h=>by cases h
 | _,_,_,.cons a r,h=>by
  rcases QbN.mp h with rfl | h
  ·exact⟨_,a⟩
  ·exact Uo r h
def dj (logs:List (List En)) (hs:List (List Nat)) (Hx:List (List En)):Prop:=∀(j:Nat) (d:List En),Hx[j]?=some d->∃h,hs[j]?=some h/\Up d/\∀e,e∈d ↔ ∃k∈h,e∈logs.getD k []
inductive Jk (C:Addr) (vs:YG) (H:Hp) (Q:VK) (E:XK):Prop
 | mk (p L T wr lk:Addr) (as:List Addr) (n:Nat) (logs:List (List En)) (tied:List Bool) (W:List En) (_:vs=[.ref p,.ref lk,.ref wr]) (_:LS C H p L T wr as n logs tied W) (_:H lk=some (.lst (tied.map V.bl))) (_:lk≠p) (_:∀(H':Hp) (L':Addr) (as':List Addr) (Ax:List (List En)),LS C H' p L' T wr as' n Ax tied W->G3 n tied logs n Ax->(∀a∈as',a∈as\/H a=none)->(L'=L\/H L'=none)->Ah p H H'->Q (.bl true) H'):Jk C vs H Q E
section
variable {P:Program} {w:World} {K:YD} {mg:YB} {base:Heap} {C:Addr}
abbrev xp:YF:=["_law_panel","_law_log","_law_circle"]
theorem Tf (c:Code K mg "_law_settled" Dl Fi) (T:Tx K mg C) (TQ:Good P w K mg base "_law_houses" 1 Gd Kv) (Fw:Good P w K mg base "_law_all_in_order" 5 Cm (Iu C)) (Di:Bu P w K mg base C "log_of" 4 BP (G9 C)) (KQ:Bu P w K mg base C "beat" 2 Ds (K8 C)):Good P w K mg base "_law_settled" 6 Fi (Jk C):=by
 refine c.good BK (λvs H Q E h=>?_) (λf cdv A outer s H vs Q E hr h=>?_)
 ·obtain⟨p,L,T,wr,lk,as,n,logs,tied,W,rfl,_⟩:=h;rfl
 obtain⟨p,L,TT,wr,lk,as,n,logs,tied,W,rfl,S,hk,nkp,q⟩:=h;refine⟨_,(Ae (Ba (i:=3) BK.nd rfl (Or.inl rfl) (Ij TQ hr (Aa (pv 1) Ab)))
 (Ae (Ba (i:=4) BK.nd rfl (Or.inl rfl) (Gb Ab))
 (Ae (CZ Qbz rfl (Cw (pv 3)) (Ao (i:=5) BK.nd rfl (Or.inl rfl))
 (Ae (Ba (i:=6) BK.nd rfl (Or.inl rfl) Pz)
 (Ae (CZ Qbz rfl (Cw (pv 5)) (Ao (i:=7) BK.nd rfl (Or.inl rfl))
 (Ag (CZ Qbz rfl (Cw (GC (pv 0) T.cl Di hr (Aa (pv 7) Ab))) (Ao (i:=8) BK.nd rfl (Or.inl rfl))
 (Ag (Yj (XH hr) (pv 6) (pv 8) Cp rfl)))))
 (Ag (Df (Og PySem.F.plainAttrs_list PySem.F.slot_list_append PySem.F.type_list_append HW (pv 4) (Aa (Am Jx rfl T.sorted Nu (Aa (HS (Rh rfl) rfl T.list Kc (Aa (pv 6) Ab)) Ab)) Ab)))))))
 (Ae (CZ Qbz rfl (BW rfl T.range (Aa (Am Bg rfl T.len CQ (Aa (pv 1) Ab)) Ab)) (Ao (i:=9) BK.nd rfl (Or.inl rfl))
 (Ae (CZ Qbz rfl (Ym rfl T.zip (Aa (pv 3) (Aa (pv 4) Ab))) (Li rfl (Dq (Ao (i:=5) BK.nd rfl (Or.inl rfl)) (Dq (Ao (i:=10) BK.nd rfl (Or.inr rfl)) JM)))
 (Ag (Ca (PW.pt (Um (Bw JQ (Ar Ln (Am Bg rfl T.len CQ (Aa (pv 5) Ab)) Af) (pv 9) (Bo _)) (Rv (CN (CW (Am (Gx rfl) rfl T.all Io (Aa (Cz (N':=xp) rfl (Bp.of (src:=[none,some 10,some 0]) (Ad Dl) xo rfl rfl rfl (by trivial) (by trivial) (by trivial) rfl (by trivial)) (Cw (pv 5)) (λ_ _ _ _=>(Ao (i:=0) (show List.Nodup (xp:YF) by trivial) rfl (Or.inl rfl))) (λ_ _ _ _=>Fg) (λ_ _ _ _=>(Hg (Uz hr.units) (GC (pv 2) T.cl Di hr (Aa (pv 0) Ab)) (pv 1) (Bo _)))) Ab))))))) (Ag (Bc Cp)) Bq)))
 (Ag (Df (SN (pv 0) T.cl KQ hr)))))
 (Ag (Bc (GJ Fw hr (Aa (pv 0) (Aa (Am Bg rfl T.len CQ (Aa (pv 1) Ab)) (Aa (pv 2) Ab)))))))))),?_⟩
 show let R0:TS:=_;let R1:TS:=_;let R2:TS:=Ak (Fq _ _ R1) _;let R3:TS:=Ak (Fq _ _ R2) R0;let R4:TS:=_;let R5:TS:=_;let R6:TS:=Ak (Fq _ _ R5) R4;let R7:TS:=Ak _ R6;let R8:TS:=Ak (Fq _ _ R7) R3;let R9:TS:=Ak _ R8;Ak _ R9 _ _ _;intro R0 R1 R2 R3 R4 R5 R6 R7 R8 R9;have n2:=S.R.n2;have n4:=S.R.n4;have tn:=S.R.tn;have dB:=S.ri.w.few;refine⟨_,rq,lk,n,tied,rq,hk,tn,n2,n4,λhl hAs H1 fhl jL hhs s1=>Bb ?_⟩;have hall:∀h∈houses n tied,0 < h.length/\∀i∈h,i < n:=λh hh=>WQ n2 n4 tn hh;have hrB:∀h∈houses n tied,∀i∈h,∀b,b < n->h.length<=b+1->∀j,j < n->(rB n tied b i j=true ↔ j∈h):=λh hh i hi b hb hs j hj=>WM n2 n4 tn hh hi hb hs hj;have mR:(houses n tied).length<=n:=by
  unfold houses Ja;rw[Qbu];exact QbW (Qat ..) (by rw[Qbf];exact Qcd _)
 have hin:∀h∈houses n tied,h.length<=n:=λh hh=>by
  unfold houses Ja at hh;obtain⟨f,_,rfl⟩:=QbX.mp hh;exact QbW (Qat ..) (by rw[Qbf];exact Qcd _)
 generalize houses n tied=hs at *;have hAl:hAs.length=hs.length:=QbO hhs.2;refine⟨Cd (by show 0<=1000;decide),λdl hdl=>?_⟩;have ndA:dl∉hAs:=λz=>by
  obtain⟨y,hy⟩:=Uo hhs.2 z;rw[hdl] at hy;cases hy
 have s2:=Ai hdl (.lst []);have hd2:(upd H1 dl (.lst [])) dl=some (.lst []):=Ac;have s02:=s1.trans s2;have hh2:=hhs.same s2;have fdl:H dl=none:=s1.free hdl;generalize upd H1 dl (.lst [])=H2 at *;have ndh:dl≠hl:=λz=>by rw[z,hhs.1] at hdl;cases hdl
 refine Bb ⟨_,rq,hl,rq,⟨_,SqL.of hh2.1⟩,?_⟩;let J0:YN:=λ(i:Nat) (Z : St) (HH:Hp)=>∃u5 u6 u7 u8,∃(das:List Addr) (Hx:List (List En)),Z=[js p,js lk,js wr,js hl,js dl,u5,u6,u7,u8,none,none]/\HH dl=some (.lst (das.map V.ref))/\Paired (Ay HH) das Hx/\Hx.length=i/\dj logs hs Hx/\dl∉das/\Ni HH hl hAs hs/\Same H HH;refine Hw (xs:=hAs.map V.ref) J0 ⟨_,_,_,_,[],[],rq,hd2,.nil,rq,(λj d h=>by cases h),(λz=>by cases z),hh2,s02⟩ (λi Z HH _ h=>?_) (λi x Z HH hx h=>?_) (fun Z HH h=>?_)
 ·obtain⟨u5,u6,u7,u8,das,Hx,rfl,e1,e2,e3,e4,e5,e6,e7⟩:=h;exact SqL.of e6.1
 ·obtain⟨u5,u6,u7,u8,das,Hx,rfl,e1,e2,e3,e4,e5,e6,e7⟩:=h;obtain⟨ha,hha,rfl⟩ : ∃ha,hAs[i]?=some ha/\x=.ref ha:=by
   rw[Qbb] at hx;cases h0:hAs[i]? with
   | none=>rw[h0] at hx;cases hx
   | some ha=>rw[h0] at hx;exact⟨ha,rfl,(Qbx hx).symm⟩
  obtain⟨h,hh,hah⟩:=DX e6.2 hha;have hhm:=Qaw hh;have hlt:=(hall h hhm).2;have hln:=hin h hhm;refine Bb ?_;intro d0 hd0;have s3:=Ai hd0 (.dT []);have h3:(upd HH d0 (.dT [])) d0=some (.dT ((([]:List En)).map hk4)):=Ac;have e73:=e7.trans s3;have jF:=s3 _ _ hah;generalize upd HH d0 (.dT [])=H3 at *;refine Bb ⟨_,rq,ha,rq,⟨_,SqL.of jF⟩,?_⟩;let J1:YN:=λ(j:Nat) (Z : St) (HX:Hp)=>∃u7 u8,∃ds:List En,Z=[js p,js lk,js wr,js hl,js dl,js ha,js d0,u7,u8,none,none]/\HX d0=some (.dT (ds.map hk4))/\ds.Nodup/\(∀e,e∈ds ↔ ∃k∈h.take j,e∈logs.getD k [])/\Same HH HX;refine Hw (xs:=nv h) J1 ⟨_,_,[],rq,h3,.nil,(λe=>by simp),s3⟩ (λj Z HX _ g=>?_) (λj x Z HX hx g=>?_) (fun Z HX g=>?_)
  ·obtain⟨u7,u8,ds,rfl,g1,g2,g3,g4⟩:=g;exact SqL.of (g4 _ _ hah)
  ·obtain⟨u7,u8,ds,rfl,g1,g2,g3,g4⟩:=g;have hj:j < h.length:=by have:=(Qai.mp hx).1;rw[GX] at this;exact this
   have hk':=at_getD (l:=h) 0 hj;have hx':x=.int ((h.getD j 0:Nat):Int):=by
    unfold nv at hx;rw[Qbb,hk'] at hx;exact (Qbx hx).symm
   subst hx';have kn:=hlt _ (Qaw hk');generalize h.getD j 0=k at *;have SX:=S.same (e7.trans g4);obtain⟨dx,ob⟩:=SX.R.ob;have hg:=at_getD (l:=logs) [] (i:=k) (by rw[S.R.ln];exact kn);have hgm:=Qaw hg;refine Bb ⟨_,rq,p,dx,_,rq,ob,Dt (by trivial),_,rq,p,L,TT,as,n,k,logs,tied,_,rq,SX.R,hg,λl4 H4 fl4 lg4 s4=>?_⟩;obtain⟨gv,hgv,pgv⟩:=lg4;have gvl:=QbO pgv;have g14:=s4 _ _ g1;have n4d:l4≠d0:=λz=>by rw[z,g1] at fl4;cases fl4
   refine⟨l4,rq,⟨_,SqL.of hgv⟩,?_⟩;let J2:YN:=λ(m:Nat) (Z : St) (HY:Hp)=>∃u8,∃ds:List En,Z=[js p,js lk,js wr,js hl,js dl,js ha,js d0,some (.int k),u8,none,none]/\HY d0=some (.dT (ds.map hk4))/\ds.Nodup/\(∀e,e∈ds ↔ (∃k∈h.take j,e∈logs.getD k [])\/e∈(logs.getD k []).take m)/\Ah d0 H4 HY/\Same HH HY;refine Hw (xs:=gv) J2 ⟨_,ds,rq,g14,g2,(λe=>by rw[g3 e];simp),Ah.of (Same.refl _),g4.trans s4⟩ (λm Z HY _ y=>?_) (λm x Z HY hx y=>?_) (fun Z HY y=>?_)
   ·obtain⟨u8,ds,rfl,y1,y2,y3,y4,y5⟩:=y;exact SqL.of (y4 _ _ hgv n4d)
   ·obtain⟨u8,ds,rfl,y1,y2,y3,y4,y5⟩:=y;obtain⟨e,he,t,rfl,ht⟩:=DX pgv hx;have d4t:∀xs,H4 d0≠some (.tup xs):=λxs z=>by rw[g14] at z;cases z
    have ht':HY t=some (.tup (e.IW.map kV)):=y4.tup d4t _ _ ht;have dsW:∀e∈ds,e∈W:=λe he=>by
     rcases (y3 e).mp he with⟨k',_,h2⟩| h2
     ·exact S.ri.sub _ (getD_mem' h2) e h2
     ·exact S.ri.sub _ hgm e (List.mem_of_mem_take h2)
    have dl1:=Fj y2 dsW;refine Bb ⟨_,rq,_,rq,d0,_,rq,K4.t y1 ht' (Aq (by rw[Qbu];omega)),?_⟩;rw[Wi];refine⟨_,if e∈ds then ds else ds++[e],rq,Ac,?_,λx=>?_,y4.trans Ah.upd,y5.BL Ah.upd hd0⟩
    ·split
     ·exact y2
     ·rename_i hne;exact List.nodup_append.mpr ⟨y2,by simp,λx hx y hy z=>by rw[QaJ.mp hy] at z;exact hne (z ▸ hx)⟩
    ·rw[Qck he,Qbw,QaJ,<-or_assoc,<-y3 x];split
     ·rename_i jD;exact⟨.inl,λz=>z.elim id λz=>by rw[z];exact jD⟩
     ·rw[Qbw,QaJ]
   ·obtain⟨u8,ds,rfl,y1,y2,y3,y4,y5⟩:=y;refine⟨_,_,ds,rq,y1,y2,λe=>?_,y5⟩;rw[y3 e,gvl,Qbk,Qck hk'];constructor
    ·rintro (⟨k',h1,h2⟩| h2)
     ·exact⟨k',Qay _ h1,h2⟩
     ·exact⟨k,Qas _ (.head _),h2⟩
    ·rintro ⟨k',h1,h2⟩;rcases Qbw.mp h1 with h1 | h1
     ·exact .inl ⟨k',h1,h2⟩
     ·rw[QaJ.mp h1] at h2;exact .inr h2
  ·obtain⟨u7,u8,ds,rfl,g1,g2,g3,g4⟩:=g;rw[GX,Qbk] at g3;have dsW:∀e∈ds,e∈W:=λe he=>by
    obtain⟨k',_,h2⟩:=(g3 e).mp he;exact S.ri.sub _ (getD_mem' h2) e h2
   have dl1:=Fj g2 dsW;have hdX:=g4 _ _ e1;refine⟨_,rq,.inl ⟨rq,_,SqL.of hdX⟩,_,rq,Va g1 λl5 bs hl5 pbs=>?_⟩;have pen:=RG pbs;have s5:=Ai hl5 (.lst (bs.map V.ref));have h5:(upd HX l5 (.lst (bs.map V.ref))) l5=some (.lst (bs.map V.ref)):=Ac;have ZP:=Ens.tups (Bh.of s5) pen;generalize upd HX l5 (.lst (bs.map V.ref))=H5 at *;have bl:(bs.map V.ref).length=ds.length:=QbO pen;refine O9 (ks:=ds.map En.cd) (SqL.of h5) (by omega) (Ol S.ri.w ZP dsW) (Mf S.ri.w g2 dsW) λis l6 hp hr' hl6=>?_;rw[bl] at hp;have s6:=Ai hl6 (.lst (is.map λi=>(bs.map V.ref).getD i .non));have h6:Ay (upd H5 l6 (.lst (is.map λi=>(bs.map V.ref).getD i .non))) l6 (is.map λi=>ds.getD i en0):=⟨_,Ac,Ens.tups (Bh.of s6) (Mv hp ZP)⟩;have up6:Up (is.map λi=>ds.getD i en0):=Mu hp hr';have iV:∀e,e∈(is.map λi=>ds.getD i en0) ↔ ∃k∈h,e∈logs.getD k []:=λe=>by rw[Kz en0 hp,g3 e]
   have sX6:Same HH (upd H5 l6 (.lst (is.map λi=>(bs.map V.ref).getD i .non))):=(g4.trans s5).trans s6;have fl6:HH l6=none:=(g4.trans s5).free hl6;generalize upd H5 l6 (.lst (is.map λi=>(bs.map V.ref).getD i .non))=H6 at *;generalize (is.map λi=>ds.getD i en0)=zs at *;have hd6:=sX6 _ _ e1;have n6d:l6≠dl:=λz=>by rw[z,e1] at fl6;cases fl6
   have tdl:∀xs,H6 dl≠some (.tup xs):=λxs z=>by rw[hd6] at z;cases z
   have dal:das.length=i:=(QbO e2).trans e3;have hi4:i < hAs.length:=(Qai.mp hha).1;refine⟨dl,_,_,rq,rq,hd6,Aq (by rw[Qbu];omega),?_⟩;refine⟨_,_,_,_,das++[l6],Hx++[zs],rq,by rw[Ac,Qby];rfl,CK (Logs.Bl Ah.upd tdl (Logs.same sX6 e2) e5) (.cons (h6.Bl Ah.upd tdl n6d) .nil),by rw[QaL,e3];rfl,λj d hj=>?_,λz=>?_,⟨?_,?_⟩,(e7.trans sX6).BL Ah.upd fdl⟩
   ·by_cases c:j < Hx.length
    ·rw[Qak c] at hj;exact e4 j d hj
    ·have c':=Nat.not_lt.mp c;rw[Qah c'] at hj;have hj0:j - Hx.length=0:=by
      have:=(Qai.mp hj).1;rw[List.length_singleton] at this;omega
     rw[hj0] at hj;cases hj;have:j=i:=by omega
     subst this;exact⟨h,hh,up6,iV⟩
   ·rcases Qbw.mp z with z | z
    ·exact e5 z
    ·exact n6d (QaJ.mp z).symm
   ·rw[Al ndh.symm];exact sX6 _ _ e6.1
   ·refine JL e6.2 λx hx y e=>?_;rw[Al (λz=>?_)]
    ·exact sX6 _ _ e
    ·exact ndA (z ▸ hx)
 obtain⟨u5,u6,u7,u8,das,Hx,rfl,e1,e2,e3,e4,e5,e6,s3⟩:=h;rw[Qbu,hAl] at e3;have dal:das.length=hs.length:=(QbO e2).trans e3;refine⟨_,rq,lk,_,rq,.inl (SqL.of (s3 _ _ hk)),_,rq,by rw[Qbu];omega,by rw[Qbu];omega,?_⟩;rw[Qbu,tn];have np:∀x,H x=none->x≠p:=λx hx z=>by
  obtain⟨dx,ob⟩:=S.R.ob;rw[z,ob] at hx;cases hx
 have hlp:=np hl fhl;have dlp:=np dl fdl;have hAp:∀a∈hAs,a≠p:=λa ha=>np a (jL a ha);have pH:∀xs,HH p≠some (.tup xs):=(S.same s3).R.pt;have dap:p∉das:=λz=>by
  obtain⟨g,vs,h1,_⟩:=Fl e2 z;obtain⟨dx,ob⟩:=(S.same s3).R.ob;rw[ob] at h1;cases h1
 let J3:YN:=λ(b:Nat) (Z : St) (HB:Hp)=>∃u5 u6 u7 u8 u9 u10,∃(L':Addr) (as':List Addr) (Ax:List (List En)),Z=[js p,js lk,js wr,js hl,js dl,u5,u6,u7,u8,u9,u10]/\LS C HB p L' TT wr as' n Ax tied W/\G3 n tied logs b Ax/\(∀a∈as',a∈as\/H a=none)/\(L'=L\/H L'=none)/\Ah p HH HB;refine Dj J3 ⟨_,_,_,_,_,_,L,as,logs,rq,S.same s3,G3.zero S.R.ln,(λa ha=>.inl ha),.inl rfl,Ah.of (Same.refl _)⟩ (λb Z HB hb h=>?_) (fun Z HB h=>?_)
 ·obtain⟨u5,u6,u7,u8,u9,u10,L',as',Ax,rfl,SB,sp,fas,fL,sB⟩:=h;rw[Qba] at hb;rw[QbZ];have hlB:=sB _ _ e6.1 hlp;have dlB:=sB _ _ e1 dlp;have hAB:Paired (λa h=>HB a=some (.lst (nv h))) hAs hs:=JL e6.2 λx hx y e=>sB _ _ e (hAp x hx);have daB:=Logs.Bl sB pH e2 dap;refine Bb ⟨_,rq,_,rq,hl,dl,rq,⟨_,SqL.of hlB⟩,⟨_,SqL.of dlB⟩,?_⟩;refine Zc (xs:=hAs.map V.ref) (ys:=das.map V.ref) (by rw[Qbu,Qbu];omega) (λ(i:Nat) (Z : St) (HC:Hp)=>∃u5 u6 u7 u8 u10,Z=[js p,js lk,js wr,js hl,js dl,u5,u6,u7,u8,some (.int b),u10]/\Same HB HC) ⟨_,_,_,_,_,rq,Same.refl _⟩ (λi Z HC _ h=>?_) (λi x y t Z HC hx hy h ht=>?_) (fun Z HC h=>?_)
  ·obtain⟨u5,u6,u7,u8,u10,rfl,sC⟩:=h;exact⟨SqL.of (sC _ _ hlB),SqL.of (sC _ _ dlB)⟩
  ·obtain⟨u5,u6,u7,u8,u10,rfl,sC⟩:=h;have hi:i < hAs.length:=by have:=(Qai.mp hx).1;rw[Qbu] at this;exact this
   rw[Qbb,Qam hi] at hx;rw[Qbb,Qam (show i < das.length by omega)] at hy;have hx':=(Qbx hx).symm;have hy':=(Qbx hy).symm;obtain⟨h,hh,hah⟩:=DX hAB (Qam hi);obtain⟨d,hd,hdd⟩:=DX daB (Qam (show i < das.length by omega));obtain⟨h',hh',dD,iU⟩:=e4 i d hd;rw[hh] at hh';cases hh';generalize hAs[i]=ha at *;generalize das[i]=da at *;subst hx' hy';have hhm:=Qaw hh;have s4:=Ai ht (.tup [.ref ha,.ref da]);have h4:(upd HC t (.tup [.ref ha,.ref da])) t=some (.tup [.ref ha,.ref da]):=Ac;have sB4:=sC.trans s4;generalize upd HC t (.tup [.ref ha,.ref da])=H4 at *;have WT:=sB4 _ _ hah;refine⟨t,_,rq,SqT.of h4,rq,_,_,rq,_,_,rq,rq,?_⟩;refine⟨_,rq,ha,_,rq,.inl (SqL.of WT),_,_,rq,rq,_,rq,_,_,rq,rq,_,rq,MP (λc1=>?_) (λc1=>?_)⟩
   ·have c1':h.length<=b+1:=by
     have:=Qbd c1;rw[GX] at this;omega
    refine⟨_,rq,ha,rq,⟨_,SqL.of WT⟩,λl5 hl5=>?_⟩;let J4:YN:=λ(j:Nat) (Z : St) (HX:Hp)=>∃(u:Option V),Z=[u,js da,js p]/\HX l5=some (.lst ((List.replicate j true).map V.bl))/\Same H4 HX;refine Dk (xs:=nv h) J4 ⟨_,rq,Ac,Ai hl5 _⟩ (λj Z HX _ g=>?_) (λj x Z HX hx g=>?_) (fun Z HX g=>?_)
    ·obtain⟨u,rfl,g1,g2⟩:=g;exact SqL.of (g2 _ _ WT)
    ·obtain⟨u,rfl,g1,g2⟩:=g;have hj:j < h.length:=by have:=(Qai.mp hx).1;rw[GX] at this;exact this
     have hk':=at_getD (l:=h) 0 hj;have hx':x=.int ((h.getD j 0:Nat):Int):=by
      unfold nv at hx;rw[Qbb,hk'] at hx;exact (Qbx hx).symm
     subst hx';have kh:=Qaw hk';have kn:=(hall h hhm).2 _ kh;have hln:=hin h hhm;generalize h.getD j 0=k at *;have SX:=SB.same (sB4.trans g2);obtain⟨dx,ob⟩:=SX.R.ob;have hg:=at_getD (l:=Ax) [] (i:=k) (by rw[SB.R.ln];exact kn);have hgm:=Qaw hg;have eqd:Ax.getD k []=d:=by
      refine OD (SB.ri.up _ hgm) dD λe=>?_;rw[sp k _ hg e,iU e];constructor
      ·rintro ⟨j',hj',h1,h2⟩;exact⟨j',(hrB h hhm k kh b hb c1' j' hj').mp h1,h2⟩
      ·rintro ⟨j',h1,h2⟩;have hj':=(hall h hhm).2 j' h1;exact⟨j',hj',(hrB h hhm k kh b hb c1' j' hj').mpr h1,h2⟩
     rw[eqd] at hg hgm;refine Bb (Ce ⟨_,rq,p,dx,_,rq,ob,Dt (by trivial),_,rq,p,L',TT,as',n,k,Ax,tied,d,rq,SX.R,hg,λl6 H6 fl6 lg6 s6=>?_⟩);have hd6:Ay H6 da d:=Ay.same (Ay.same (hdd.same sB4) g2) s6;obtain⟨d1,d2,r1,r2,r3,r4,r5⟩:=Qe lg6 hd6 λe he=>S.ri.w.tx e (SB.ri.sub _ hgm e he);refine⟨_,rq,d1,d2,r1,r2,r3,r4,_,s6 _ _ g1,Aq (by simp;omega),_,rq,?_,(g2.trans s6).BL Ah.upd hl5⟩;rw[Ac,r5,QaB,Qby];rfl
    ·obtain⟨u,rfl,g1,g2⟩:=g;rw[GX] at g1;refine⟨l5,List.replicate h.length true,rq,SqL.of g1,_,rq,?_⟩;rw[show (List.replicate h.length true).all id=true by simp];exact Bs ⟨_,_,_,_,_,rq,sB4.trans g2⟩
   ·exact⟨_,_,_,_,_,rq,sB4⟩
  ·obtain⟨u5,u6,u7,u8,u10,rfl,sC⟩:=h;have SC:=SB.same sC;obtain⟨dx,ob⟩:=SC.R.ob;refine⟨_,rq,p,dx,_,rq,ob,Dt (by trivial),p,L',TT,as',n,Ax,tied,W,rq,SC.R,S.ri.w,SB.ri.sub,SB.ri.up,λL2 as2 H5 cF fL2 aJ R5 Z4 s5=>?_⟩;have frH:∀x,HC x=none->H x=none:=λx hx=>by
    have h1:=sC.free hx;have h2:HH x=none:=sB.free (by obtain⟨dx,ob⟩:=SB.R.ob;exact⟨_,ob⟩) h1;exact s3.free h2
   have nw:wr∉as2:=λz=>by
    rcases aJ wr z with z | z
    ·exact SB.wa z
    ·obtain⟨vs0,e0,_⟩:=SC.hw;rw[e0] at z;cases z
   have wL2:wr≠L2:=λz=>by
    obtain⟨vs0,e0,_⟩:=SC.hw;rw[z,fL2] at e0;cases e0
   exact⟨_,_,_,_,_,_,L2,as2,cF,rq,⟨R5,SB.ri.beat R5.ln Z4,SC.hw.Bl s5 SC.R.pt S.wp,S.wp,wL2,S.wT,nw⟩,sp.succ SB.R.ln R5.ln Z4,(λa ha=>(aJ a ha).elim (fas a) λz=>.inr (frH a z)),.inr (frH L2 fL2),(sB.trans (Ah.of sC)).trans s5⟩
 ·obtain⟨u5,u6,u7,u8,u9,u10,L',as',Ax,rfl,SB,sp,fas,fL,sB⟩:=h;rw[Qba] at sp;refine⟨_,rq,_,rq,lk,_,rq,.inl (SqL.of (sB _ _ (s3 _ _ hk) nkp)),_,rq,p,L',TT,wr,as',n,Ax,tied,W,?_,SB,λH7 s7=>?_⟩
  ·rw[Qbu,tn]
  ·exact q H7 L' as' Ax (SB.same s7) sp fas fL (((Ah.of s3).trans sB).trans (Ah.of s7))
end
abbrev Gz:Stmt:=top 30
abbrev Xy:YF:=["_law_script"]
abbrev xq:YF:=["_law_script","_law_many","_law_circle","_law_links","_law_written","_law_k","_law_link"]
theorem Hj:Az xq Xy (Ad Gz):=by ac_rfl
theorem Oa {X:Cx} {K:YD} (h:X.K=K):Ei X (.builtin "sorted") (Jo K):=h ▸ Jx
theorem Pj (n:Nat):(List.replicate n [V.bl true]).flatten=(List.replicate n true).map V.bl:=by
 induction n with
 | zero=>rfl
 | succ n ih=>rw[QaI,List.flatten_cons,ih,QaI];rfl
theorem RI.start {n:Nat} (n4:n<=4):RI n (List.replicate n []) []:=by
 have g0:∀g∈List.replicate n ([]:List En),g=[]:=λg hg=>(List.mem_replicate.mp hg).2;exact⟨⟨by decide,(λe h=>by cases h),(λe h=>by cases h),(λe h=>by cases h),(λe h=>by cases h),(λe h=>by cases h),(λe h=>by cases h)⟩,Qav,(λg hg=>by rw[g0 g hg];exact List.Pairwise.nil),(λg hg e he=>by rw[g0 g hg] at he;cases he),(λg hg e he=>by rw[g0 g hg] at he;cases he),(λq e h=>by cases h),(λe h=>by cases h),(λe h=>by cases h),List.Pairwise.nil,(λq i e h=>by cases h),(λe h=>by cases h)⟩
theorem Ue:∀(n i:Nat) (l:List Bool),l.length=n->(∀j,j < i->l.getD j false=true)->i=n->l=List.replicate n true:=λn i l hl h hi=>by
 subst hi;refine List.ext_getElem (by rw[Qav,hl]) λj h1 h2=>?_;rw[List.getElem_replicate];have:=h j (by omega);rw[Qaf,Qam h1] at this;exact this
section
variable {P:Program} {w:World} {K:YD} {mg:YB} {base:Heap} {C:Addr}
abbrev xr:YF:=["_law_panel","_law_written","_law_circle"]
theorem ZX {f:Addr} {fd:FuncData} (F:Fun K "law" "law" Gz f fd) (T:Tx K mg C) (JW:Good P w K mg base "_law_bag" 1 Ik (Ss K)) (Bt:Good P w K mg base "_law_take" 1 Ep Ii) (W3:T8 P w K mg base C 1 CG (O6 C)) (W2:Good P w K mg base "_law_deed" 6 Hr (O7 C)) (Km:Good P w K mg base "_law_settled" 6 Fi (Jk C)) (KN:Bu P w K mg base C "mend" 4 Dr (JD C true)) (Di:Bu P w K mg base C "log_of" 4 BP (G9 C)):DK P w K mg base CX0 7 f fd Xy (K7 K):=by
 refine F.ok Hj (λvs H Q E h=>?_) (λcdv A outer s H vs Q E hr h=>?_)
 ·obtain⟨a,ns,rfl,_⟩:=h;rfl
 obtain⟨sa,ns,rfl,hS,h63,q⟩:=h;refine⟨_,(Ae (Ba (i:=1) Hj.nd rfl (Or.inl rfl) (Ar Cv Af (Dh Bt hr (Aa (Dh JW hr (Aa (pv 0) (Aa Af Ab))) (Aa Af Ab)))))
 (Ae (Ba (i:=2) Hj.nd rfl (Or.inr rfl) (cj W3 hr T.mgC (Aa (pv 1) Ab)))
 (Ae (Ba (i:=3) Hj.nd rfl (Or.inl rfl) (Ar Uw (Gb (Aa Cp Ab)) (pv 1)))
 (Ae (Ba (i:=4) Hj.nd rfl (Or.inr rfl) (Gb Ab))
 (Ae (CZ Qbz rfl (Ur rfl T.range (Aa Af (Aa (Am (VH rfl) rfl T.max bD (Aa Af (Aa (Am (Nt rfl) rfl T.min VN (Aa (Am Bg rfl T.len CQ (Aa (pv 0) Ab)) (Aa Af Ab))) Ab))) Ab))) (Ao (i:=5) Hj.nd rfl (Or.inl rfl))
 (Ag (Ca (CN (CW (Uv W2 hr (Aa (Dh JW hr (Aa (pv 0) (Aa (pv 5) Ab))) (Aa (pv 2) (Aa (pv 3) (Aa (pv 4) Ab))))))) (Ag (Bc Cp)) Bq)))
 (Ae (Ca (CN (CW (GJ Km hr (Aa (pv 2) (Aa (pv 3) (Aa (pv 4) Ab)))))) (Ag (Bc Cp)) Bq)
 (Ae (CZ Qbz rfl (BW rfl T.range (Aa (pv 1) Ab)) (Ao (i:=6) Hj.nd rfl (Or.inl rfl))
 (Ag (Df (GC (pv 2) T.cl KN hr (Aa (pv 6) Ab)))))
 (Ae (Ca (CN (CW (GJ Km hr (Aa (pv 2) (Aa (Ar Uw (Gb (Aa Cp Ab)) (pv 1)) (Aa (pv 4) Ab)))))) (Ag (Bc Cp)) Bq)
 (Ag (Bc (Am (Gx rfl) rfl T.all Io (Aa (Cz (N':=xr) rfl (Bp.of (src:=[none,some 4,some 2]) (Ad Gz) xq rfl rfl rfl (by trivial) (by trivial) (by trivial) rfl (by trivial)) (BW rfl T.range (Aa (pv 1) Ab)) (λ_ _ _ _=>(Ao (i:=0) (show List.Nodup (xr:YF) by trivial) rfl (Or.inl rfl))) (λ_ _ _ _=>Fg) (λ_ _ _ _=>(Hg (Uz hr.units) (GC (pv 2) T.cl Di hr (Aa (pv 0) Ab)) (Am (Oa (K:=K) rfl) rfl T.sorted Nu (Aa (pv 1) Ab)) (Bo _)))) Ab)))))))))))),?_⟩
 show let R0:TS:=_;let R1:TS:=Ak _ R0;let R2:TS:=_;let R3:TS:=Ak (Fq _ _ R2) R1;let R4:TS:=Ak _ R3;let R5:TS:=_;let R6:TS:=Ak (Fq _ _ R5) R4;let R7:TS:=Ak _ R6;let R8:TS:=Ak _ R7;let R9:TS:=Ak _ R8;Ak _ R9 _ _ _;intro R0 R1 R2 R3 R4 R5 R6 R7 R8 R9;have hl:(ns.map V.int).length=ns.length:=Qbu _;refine⟨_,rq,sa,ns,0,rq,hS,h63,by decide,by decide,λb o hb0 hb=>?_⟩;have s0:=Ai hb0 o;generalize upd H b o=H0 at *;refine⟨b,0,3,rq,hb,by decide,by decide,by decide,λr1 H1 r10 r11 hb1 sb1=>⟨_,_,rq,rq,Bb ?_⟩⟩;obtain⟨n,hn⟩ : ∃n:Nat,2+r1=(n:Int):=⟨(2+r1).toNat,by omega⟩;rw[show (λi j:Int=>V.int (i+j)) 2 r1=V.int (n:Int) from congrArg V.int hn]
 have n2:2<=n:=by omega
 have n4:n<=4:=by omega
 have s1:Same H H1:=s0.BL sb1 hb0;refine⟨_,rq,λp dx hp hdx ne=>?_⟩;have s2:Same H1 (upd (upd H1 dx (.own p)) p (.ins C dx [])):=λc o e=>by rw[Al (Bm e hp),Al (Bm e hdx)];exact e
 have h2:(upd (upd H1 dx (.own p)) p (.ins C dx [])) p=some (.ins C dx []):=Ac;have s02:=s1.trans s2;have fp:H p=none:=s1.free hp;generalize upd (upd H1 dx (.own p)) p (.ins C dx [])=H2 at *;refine⟨p,dx,n,rq,h2,n2,n4,λL TT as H3 fL fT fas R3 s3=>⟨rq,Bb ?_⟩⟩;have s03:Same H H3:=s02.BL s3 fp;refine⟨Cd (by show 1<=1000;decide),λl1 hl1=>?_⟩;have s4:=Ai hl1 (.lst [.bl true]);have h4:(upd H3 l1 (.lst [.bl true])) l1=some (.lst [.bl true]):=Ac;have s04:=s03.trans s4;have R4:=R3.same s4;generalize upd H3 l1 (.lst [.bl true])=H4 at *;refine⟨_,rq,l1,n,_,rq,rq,h4,by omega,by omega,Cd (by simp;omega),λlk hlk=>?_⟩;rw[Qba,Pj];have s5:=Ai hlk (.lst ((List.replicate n true).map V.bl));have h5:(upd H4 lk (.lst ((List.replicate n true).map V.bl))) lk=some (.lst ((List.replicate n true).map V.bl)):=Ac;have s05:=s04.trans s5;have R5:=R4.same s5;have flk:H lk=none:=s04.free hlk;have kfr:∀{x:Addr} {o:HO},H4 x=some o->lk≠x:=λe z=>by rw[<-z,hlk] at e;cases e
 obtain⟨dx4,ob4⟩:=R4.ob;have kp:=kfr ob4;have kL:=kfr R4.hl;have kT:=kfr R4.ht;have ka:lk∉as:=λz=>by
  obtain⟨g,vs,e1,_⟩:=Fl R4.lg z;exact kfr e1 rfl
 show G8 3 (.ref lk) _ (upd H4 lk (.lst ((List.replicate n true).map V.bl))) _;generalize upd H4 lk (.lst ((List.replicate n true).map V.bl))=H5 at *;refine Bb ⟨Cd (by show 0<=1000;decide),λwr hwr=>?_⟩;have s6:=Ai hwr (.lst []);have h6:(upd H5 wr (.lst [])) wr=some (.lst []):=Ac;have s06:=s05.trans s6;have R6:=R5.same s6;have fwr:H wr=none:=s05.free hwr;have wfr:∀{x:Addr} {o:HO},H5 x=some o->wr≠x:=λe z=>by rw[<-z,hwr] at e;cases e
 obtain⟨dx5,ob5⟩:=R5.ob;have wa:wr∉as:=λz=>by
  obtain⟨g,vs,e1,_⟩:=Fl R5.lg z;exact wfr e1 rfl
 have S6:LS C (upd H5 wr (.lst [])) p L TT wr as n (List.replicate n []) (List.replicate n true) []:=⟨R6,RI.start n4,⟨[],h6,.nil⟩,wfr ob5,wfr R5.hl,wfr R5.ht,wa⟩;have N6:LK (upd H5 wr (.lst [])) p L TT wr lk as (List.replicate n true):=⟨s6 _ _ h5,kp,kL,kT,(wfr h5).symm,ka⟩;generalize upd H5 wr (.lst [])=H6 at *;have fL0:H L=none:=s02.free fL;have fT0:H TT=none:=s02.free fT;refine Bb ?_;refine⟨_,rq,sa,_,rq,.inl (s06.seq hS),?_⟩;rw[hl];refine⟨_,_,rq,_,_,rq,1,_,rq,?_⟩;have m0:∃m:Int,(if (60:Int) < (ns.length:Int) then (60:Int) else (ns.length:Int))=m/\m<=60:=⟨_,rq,by split <;> omega⟩
 obtain⟨m,em,hm⟩:=m0;have m1:∃j:Int,(if m > 12 then m else (12:Int))=j/\12<=j/\j<=60:=⟨_,rq,by split <;> omega,by split <;> omega⟩
 obtain⟨j,ej,j12,j60⟩:=m1;rw[em,ej];refine⟨⟨by omega,by omega,by omega,by omega⟩,?_⟩;have nz:∀{c x:Addr} {o:HO},H c=some o->H x=none->c≠x:=λe f z=>by rw[z,f] at e;cases e
 let J0:YN:=λ(i:Nat) (Z : St) (HH:Hp)=>∃u5,∃(L':Addr) (as':List Addr) (Ax:List (List En)) (Cj:List Bool) (W':List En),Z=[js sa,some (.int n),js p,js lk,js wr,u5,none]/\LS C HH p L' TT wr as' n Ax Cj W'/\LK HH p L' TT wr lk as' Cj/\W'.length<=i/\H L'=none/\Same H HH;refine Dj J0 ⟨_,L,as,_,_,[],rq,S6,N6,Qcd _,fL0,s06⟩ (λi Z HH hi h=>?_) (fun Z HH h=>?_)
 ·obtain⟨u5,L',as',Ax,Cj,W',rfl,S7,N7,wl,fL',s7⟩:=h;refine Bb ⟨_,rq,_,rq,sa,ns,_,rq,s7.seq hS,h63,by omega,by omega,λb' o' au hb'=>?_⟩;have s8:=Ai au o';have fb':H b'=none:=s7.free au;generalize upd HH b' o'=H8 at *;have S8:=S7.same s8;have s08:=s7.trans s8;refine⟨_,rq,_,rq,_,rq,b',p,L',TT,wr,lk,0,as',n,Ax,Cj,W',rq,hb',by decide,S8,N7.move (s8 _ _ N7.hk),by omega,λH9 L9 as9 cD bO W9 S9 N9 wl9 hL9 fr9=>⟨_,rq,Bs ?_⟩⟩;refine⟨_,L9,as9,cD,bO,W9,rq,S9,N9,by omega,?_,λc o e=>fr9 c o (s08 _ _ e) (nz e fb') (nz e fp) (nz e fL') (nz e fT0) (nz e fwr) (nz e flk)⟩;rcases hL9 with z | z
  ·rw[z];exact fL'
  ·exact s08.free z
 obtain⟨u5,L',as',Ax,Cj,W',rfl,S7,N7,wl,fL',s7⟩:=h;refine⟨_,rq,_,rq,_,rq,p,L',TT,wr,lk,as',n,Ax,Cj,W',rq,S7,N7.hk,N7.kp,λH8 L8 as8 Tt S8 _ m7 hL8 s8=>⟨_,rq,Bs ?_⟩⟩;refine⟨_,rq,_,rq,by omega,by omega,?_⟩;let J1:YN:=λ(i:Nat) (Z : St) (HH:Hp)=>∃u6,∃Cj:List Bool,Z=[js sa,some (.int n),js p,js lk,js wr,u5,u6]/\LS C HH p L8 TT wr as8 n Tt Cj W'/\∀j,j < i->Cj.getD j false=true;refine Dj J1 ⟨_,Cj,rq,S8,λj hj=>absurd hj (QbF _)⟩ (λi Z HH hi h=>?_) (fun Z HH h=>?_)
 ·obtain⟨u6,t9,rfl,S9,ht9⟩:=h;rw[Qba] at hi;rw[QbZ];obtain⟨dx9,ob9⟩:=S9.R.ob;refine Bb ⟨_,rq,p,dx9,_,rq,ob9,Dt (by trivial),_,rq,p,L8,TT,as8,n,i,Tt,t9,rq,S9.R,hi,λH10 R10 s10=>?_⟩;refine⟨_,t9.set i true,rq,S9.Zo R10 s10,λj hj=>?_⟩;rw[Qaf];by_cases c:j=i
  ·subst c;rw[Qaq (by rw[S9.R.tn];exact hi)];rfl
  ·rw[Qaz (λz=>c z.symm),<-Qaf];exact ht9 j (by omega)
 obtain⟨u6,t9,rfl,S9,ht9⟩:=h;rw[Qba] at ht9;have et9:=Ue n n t9 S9.R.tn ht9 rfl;subst et9;refine⟨_,rq,Cd (by show 1<=1000;decide),λl2 hl2=>?_⟩;have sA:=Ai hl2 (.lst [.bl true]);have hA:(upd HH l2 (.lst [.bl true])) l2=some (.lst [.bl true]):=Ac;have SA:=S9.same sA;generalize upd HH l2 (.lst [.bl true])=HA at *;refine⟨_,rq,l2,n,_,rq,rq,hA,by omega,by omega,Cd (by simp;omega),λl3 hl3=>?_⟩;rw[Qba,Pj];have sB:=Ai hl3 (.lst ((List.replicate n true).map V.bl));have hB:(upd HA l3 (.lst ((List.replicate n true).map V.bl))) l3=some (.lst ((List.replicate n true).map V.bl)):=Ac;have SB:=SA.same sB;obtain⟨dxA,obA⟩:=SA.R.ob;have n3p:l3≠p:=λz=>by rw[z,obA] at hl3;cases hl3
 generalize upd HA l3 (.lst ((List.replicate n true).map V.bl))=HB at *;refine⟨_,rq,p,L8,TT,wr,l3,as8,n,Tt,_,W',rq,SB,hB,n3p,λHC LC asC Oj SC spC _ _ sC=>⟨_,rq,Bs ?_⟩⟩;have cP:∀k g,Oj[k]?=some g->∀e,e∈g ↔ e∈W':=λk g hg e=>by
  have hk:k < n:=by rw[<-SC.R.ln];exact (Qai.mp hg).1
  constructor
  ·exact λh=>SC.ri.sub g (Qaw hg) e h
  ·intro he;have p0:=SC.ri.w.pn0 e he;have p1:=SC.ri.pn e he;obtain⟨j,hj⟩ : ∃j:Nat,e.pn=(j:Int):=⟨e.pn.toNat,by omega⟩;exact (spC k g hg e).mpr ⟨j,by omega,bG n2 n4 hk (by omega),SB.ri.own j e he hj⟩
 refine⟨_,rq,_,rq,by omega,by omega,λl9 hl9=>?_⟩;let J2:YN:=λ(i:Nat) (Z : St) (HX:Hp)=>∃(u:Option V),Z=[u,js wr,js p]/\HX l9=some (.lst ((List.replicate i true).map V.bl))/\Same HC HX;refine Gj J2 ⟨_,rq,Ac,Ai hl9 _⟩ (λi Z HX hi h=>?_) (fun Z HX h=>?_)
 ·obtain⟨u,rfl,g1,g2⟩:=h;rw[Qba] at hi;rw[QbZ];have SX:=SC.same g2;obtain⟨dxX,obX⟩:=SX.R.ob;have hg:=at_getD (l:=Oj) [] (i:=i) (by rw[SC.R.ln];exact hi);have hgm:=Qaw hg;have fg:=cP i _ hg;generalize Oj.getD i []=g at *;refine Bb (Ce ⟨_,rq,p,dxX,_,rq,obX,Dt (by trivial),_,rq,p,LC,TT,asC,n,i,Oj,_,g,rq,SX.R,hg,λl5 H5 fl5 lg5 s5=>?_⟩);have S5:=SX.same s5;obtain⟨wv,hwv,pwv⟩:=S5.hw;have wvl:=QbO pwv;have wW:∀e∈W',e∈W':=λ_ h=>h;refine⟨_,rq,O9 (ks:=W'.map En.cd) (SqL.of hwv) (by rw[wvl];exact SC.ri.w.few) (Ol SC.ri.w pwv wW) (Mf SC.ri.w SC.ri.nd wW) λis l6 hp hr' hl6=>?_⟩;rw[wvl] at hp;have s6:=Ai hl6 (.lst (is.map λi=>wv.getD i .non));have h6:Ay (upd H5 l6 (.lst (is.map λi=>wv.getD i .non))) l6 (is.map λi=>W'.getD i en0):=⟨_,Ac,Ens.tups (Bh.of s6) (Mv hp pwv)⟩;have e6:(is.map λi=>W'.getD i en0)=g:=OD (Mu hp hr') (SC.ri.up _ hgm) λe=>by rw[Kz en0 hp,fg e]
  rw[e6] at h6;have lg6:=lg5.same s6;have g6:=s6 _ _ (s5 _ _ g1);generalize upd H5 l6 (.lst (is.map λi=>wv.getD i .non))=H6 at *;obtain⟨d1,d2,q1,q2,q3,q4,q5⟩:=Qe lg6 h6 λe he=>SC.ri.w.tx e (SC.ri.sub _ hgm e he);refine⟨d1,d2,q1,q2,q3,q4,_,g6,Aq (by simp;omega),_,rq,?_,((g2.trans s5).trans s6).BL Ah.upd hl9⟩;rw[Ac,q5,QaB,Qby];rfl
 obtain⟨u,rfl,g1,g2⟩:=h;refine⟨l9,_,rq,SqL.of g1,?_⟩;rw[show ∀k:Nat,(List.replicate k true).all id=true from λk=>by simp]
 exact q _
end
theorem all_mk {l:PySem.W.OpenLaw} {w:World} {K:YD} {h:Heap} {mg:YB} {fa C f1 f2 f3 f4 f5 f6 f7 f8 f9 f10 f11 f12 f13 f14 f15 f16 f17 fm1 fm2 fm3 fm4 fm5 fm6 fm7 fm8 fm9:Addr} (X:K.In h) (G:h.Ns mainGlobals mg) (hfa:mg "law"=some (.ref fa))
  {od1 an1 od2 an2 od3 an3 od4 an4 od5 an5 od6 an6 od7 an7 od8 an8 od9 an9 gR mC gQ mz gP mq gO mj gM lZ gK lY gJ lX gH bF gG lW gF lV gD lU gC lR gB lQ gA lO gw lN gq lM gk lK:Option Addr} {sl1 sl2 sl3 sl4 sl5 sl6 sl7 sl8 sl9 eU eO eN eG eF eE d9 d8 d7 dZ dY dX dU dR dO dN dM:YI} {oc1 kV1 dc1 pm1 cd1 ct1 oc2 kV2 dc2 pm2 cd2 ct2 oc3 kV3 dc3 pm3 cd3 ct3 oc4 kV4 dc4 pm4 cd4 ct4 oc5 kV5 dc5 pm5 cd5 ct5 oc6 kV6 dc6 pm6 cd6 ct6 oc7 kV7 dc7 pm7 cd7 ct7 oc8 kV8 dc8 pm8 cd8 ct8 oc9 kV9 dc9 pm9 cd9 ct9 iM jx j8 fY bC lE iK jw j7 fX bB lD iJ ju j6 fV bA lC iI jt j5 fU bw lB iH jr j4 fQ bh lA iG jq jZ fP bf lu iD jo jY fO aZ lq iC ao aL ZJ Xf aM iB jm jX fM aY kZ iz jl jW fK aX kY iw jk jV fJ aW kW iu jj jU fH aV kO ig ji jT fG aU kJ g8 jh jR fD aR kI gZ jg jQ fC aQ kE gY jf jP fB aP kj gU je jO fu aO j9:Value} {tk0:Tok}
  (aC:nsIn K mainGlobals "Ring"=some (some (.ref C)))
  (am1:findIn K (.ref C) "__init__"=some (some (.ref fm1))) (im1:isFn K (.ref fm1)=true) (lm1:K.lookup fm1=some ⟨iB,gG,.func (fnOf "__init__" "Ring.__init__" (Aw BZ) (Av BZ) (Ad BZ) .none jm jX fM lW aY kZ),d7⟩) (cm1:codeIn K aY "Ring.__init__"=true) (km1:keepIn K (.ref fm1)=true)
  (am2:findIn K (.ref C) "check_panel"=some (some (.ref fm2))) (im2:isFn K (.ref fm2)=true) (lm2:K.lookup fm2=some ⟨iz,gF,.func (fnOf "check_panel" "Ring.check_panel" (Aw Bx) (Av Bx) (Ad Bx) .none jl jW fK lV aX kY),dZ⟩) (cm2:codeIn K aX "Ring.check_panel"=true) (km2:keepIn K (.ref fm2)=true)
  (am3:findIn K (.ref C) "tie"=some (some (.ref fm3))) (im3:isFn K (.ref fm3)=true) (lm3:K.lookup fm3=some ⟨iw,gD,.func (fnOf "tie" "Ring.tie" (Aw DR) (Av DR) (Ad DR) .none jk jV fJ lU aW kW),dY⟩) (cm3:codeIn K aW "Ring.tie"=true) (km3:keepIn K (.ref fm3)=true)
  (am4:findIn K (.ref C) "cut"=some (some (.ref fm4))) (im4:isFn K (.ref fm4)=true) (lm4:K.lookup fm4=some ⟨iu,gC,.func (fnOf "cut" "Ring.cut" (Aw DW) (Av DW) (Ad DW) .none jj jU fH lR aV kO),dX⟩) (cm4:codeIn K aV "Ring.cut"=true) (km4:keepIn K (.ref fm4)=true)
  (am5:findIn K (.ref C) "mend"=some (some (.ref fm5))) (im5:isFn K (.ref fm5)=true) (lm5:K.lookup fm5=some ⟨ig,gB,.func (fnOf "mend" "Ring.mend" (Aw Dm) (Av Dm) (Ad Dm) .none ji jT fG lQ aU kJ),dU⟩) (cm5:codeIn K aU "Ring.mend"=true) (km5:keepIn K (.ref fm5)=true)
  (am6:findIn K (.ref C) "pairs"=some (some (.ref fm6))) (im6:isFn K (.ref fm6)=true) (lm6:K.lookup fm6=some ⟨g8,gA,.func (fnOf "pairs" "Ring.pairs" (Aw Cu) (Av Cu) (Ad Cu) .none jh jR fD lO aR kI),dR⟩) (cm6:codeIn K aR "Ring.pairs"=true) (km6:keepIn K (.ref fm6)=true)
  (am7:findIn K (.ref C) "write"=some (some (.ref fm7))) (im7:isFn K (.ref fm7)=true) (lm7:K.lookup fm7=some ⟨gZ,gw,.func (fnOf "write" "Ring.write" (Aw Cr) (Av Cr) (Ad Cr) .none jg jQ fC lN aQ kE),dO⟩) (cm7:codeIn K aQ "Ring.write"=true) (km7:keepIn K (.ref fm7)=true)
  (am8:findIn K (.ref C) "beat"=some (some (.ref fm8))) (im8:isFn K (.ref fm8)=true) (lm8:K.lookup fm8=some ⟨gY,gq,.func (fnOf "beat" "Ring.beat" (Aw Dn) (Av Dn) (Ad Dn) .none jf jP fB lM aP kj),dN⟩) (cm8:codeIn K aP "Ring.beat"=true) (km8:keepIn K (.ref fm8)=true)
  (am9:findIn K (.ref C) "log_of"=some (some (.ref fm9))) (im9:isFn K (.ref fm9)=true) (lm9:K.lookup fm9=some ⟨gU,gk,.func (fnOf "log_of" "Ring.log_of" (Aw CJ) (Av CJ) (Ad CJ) .none je jO fu lK aO j9),dM⟩) (cm9:codeIn K aO "Ring.log_of"=true) (km9:keepIn K (.ref fm9)=true)
  (a1:nsIn K mainGlobals "is_whole"=some (some (.ref f1))) (l1:K.lookup f1=some ⟨oc1,od1,.func (fnOf "is_whole" "is_whole" (Aw Fb) (Av Fb) (Ad Fb) .none kV1 dc1 pm1 an1 cd1 ct1),sl1⟩) (c1:codeIn K cd1 "is_whole"=true) (k1:keepIn K (.ref f1)=true)
  (a2:nsIn K mainGlobals "is_within"=some (some (.ref f2))) (l2:K.lookup f2=some ⟨oc2,od2,.func (fnOf "is_within" "is_within" (Aw Ed) (Av Ed) (Ad Ed) .none kV2 dc2 pm2 an2 cd2 ct2),sl2⟩) (c2:codeIn K cd2 "is_within"=true) (k2:keepIn K (.ref f2)=true)
  (a3:nsIn K mainGlobals "is_line"=some (some (.ref f3))) (l3:K.lookup f3=some ⟨oc3,od3,.func (fnOf "is_line" "is_line" (Aw FP) (Av FP) (Ad FP) .none kV3 dc3 pm3 an3 cd3 ct3),sl3⟩) (c3:codeIn K cd3 "is_line"=true) (k3:keepIn K (.ref f3)=true)
  (a4:nsIn K mainGlobals "joined"=some (some (.ref f4))) (l4:K.lookup f4=some ⟨oc4,od4,.func (fnOf "joined" "joined" (Aw Gs) (Av Gs) (Ad Gs) .none kV4 dc4 pm4 an4 cd4 ct4),sl4⟩) (c4:codeIn K cd4 "joined"=true) (k4:keepIn K (.ref f4)=true)
  (a5:nsIn K mainGlobals "_law_bag"=some (some (.ref f5))) (l5:K.lookup f5=some ⟨oc5,od5,.func (fnOf "_law_bag" "_law_bag" (Aw Hf) (Av Hf) (Ad Hf) .none kV5 dc5 pm5 an5 cd5 ct5),sl5⟩) (c5:codeIn K cd5 "_law_bag"=true) (k5:keepIn K (.ref f5)=true)
  (a6:nsIn K mainGlobals "_law_take"=some (some (.ref f6))) (l6:K.lookup f6=some ⟨oc6,od6,.func (fnOf "_law_take" "_law_take" (Aw Gp) (Av Gp) (Ad Gp) .none kV6 dc6 pm6 an6 cd6 ct6),sl6⟩) (c6:codeIn K cd6 "_law_take"=true) (k6:keepIn K (.ref f6)=true)
  (a7:nsIn K mainGlobals "_law_whole"=some (some (.ref f7))) (l7:K.lookup f7=some ⟨oc7,od7,.func (fnOf "_law_whole" "_law_whole" (Aw FJ) (Av FJ) (Ad FJ) .none kV7 dc7 pm7 an7 cd7 ct7),sl7⟩) (c7:codeIn K cd7 "_law_whole"=true) (k7:keepIn K (.ref f7)=true)
  (a8:nsIn K mainGlobals "_law_signs"=some (some (.ref f8))) (l8:K.lookup f8=some ⟨oc8,od8,.func (fnOf "_law_signs" "_law_signs" (Aw FN) (Av FN) (Ad FN) .none kV8 dc8 pm8 an8 cd8 ct8),sl8⟩) (c8:codeIn K cd8 "_law_signs"=true) (k8:keepIn K (.ref f8)=true)
  (a9:nsIn K mainGlobals "_law_text"=some (some (.ref f9))) (l9:K.lookup f9=some ⟨oc9,od9,.func (fnOf "_law_text" "_law_text" (Aw Fv) (Av Fv) (Ad Fv) .none kV9 dc9 pm9 an9 cd9 ct9),sl9⟩) (c9:codeIn K cd9 "_law_text"=true) (k9:keepIn K (.ref f9)=true)
  (a10:nsIn K mainGlobals "_law_is_entry"=some (some (.ref f10))) (l10:K.lookup f10=some ⟨iM,gR,.func (fnOf "_law_is_entry" "_law_is_entry" (Aw Du) (Av Du) (Ad Du) .none jx j8 fY mC bC lE),eU⟩) (c10:codeIn K bC "_law_is_entry"=true) (k10:keepIn K (.ref f10)=true)
  (a11:nsIn K mainGlobals "_law_houses"=some (some (.ref f11))) (l11:K.lookup f11=some ⟨iK,gQ,.func (fnOf "_law_houses" "_law_houses" (Aw DQ) (Av DQ) (Ad DQ) .none jw j7 fX mz bB lD),eO⟩) (c11:codeIn K bB "_law_houses"=true) (k11:keepIn K (.ref f11)=true)
  (a12:nsIn K mainGlobals "_law_write"=some (some (.ref f12))) (l12:K.lookup f12=some ⟨iJ,gP,.func (fnOf "_law_write" "_law_write" (Aw DN) (Av DN) (Ad DN) .none ju j6 fV mq bA lC),eN⟩) (c12:codeIn K bA "_law_write"=true) (k12:keepIn K (.ref f12)=true)
  (a13:nsIn K mainGlobals "_law_in_order"=some (some (.ref f13))) (l13:K.lookup f13=some ⟨iI,gO,.func (fnOf "_law_in_order" "_law_in_order" (Aw BX) (Av BX) (Ad BX) .none jt j5 fU mj bw lB),eG⟩) (c13:codeIn K bw "_law_in_order"=true) (k13:keepIn K (.ref f13)=true)
  (a14:nsIn K mainGlobals "_law_all_in_order"=some (some (.ref f14))) (l14:K.lookup f14=some ⟨iH,gM,.func (fnOf "_law_all_in_order" "_law_all_in_order" (Aw Ck) (Av Ck) (Ad Ck) .none jr j4 fQ lZ bh lA),eF⟩) (c14:codeIn K bh "_law_all_in_order"=true) (k14:keepIn K (.ref f14)=true)
  (a15:nsIn K mainGlobals "_law_deed"=some (some (.ref f15))) (l15:K.lookup f15=some ⟨iG,gK,.func (fnOf "_law_deed" "_law_deed" (Aw Gq) (Av Gq) (Ad Gq) .none jq jZ fP lY bf lu),eE⟩) (c15:codeIn K bf "_law_deed"=true) (k15:keepIn K (.ref f15)=true)
  (a16:nsIn K mainGlobals "_law_settled"=some (some (.ref f16))) (l16:K.lookup f16=some ⟨iD,gJ,.func (fnOf "_law_settled" "_law_settled" (Aw Dl) (Av Dl) (Ad Dl) .none jo jY fO lX aZ lq),d9⟩) (c16:codeIn K aZ "_law_settled"=true) (k16:keepIn K (.ref f16)=true)
  (a17:nsIn K mainGlobals "law"=some (some (.ref f17))) (l17:K.lookup f17=some ⟨iC,gH,.func (fnOf "law" "law" (Aw Gz) (Av Gz) (Ad Gz) .none ao aL ZJ bF Xf aM),d8⟩) (c17:codeIn K Xf "law"=true) (k17:keepIn K (.ref f17)=true)
  (pg:plainGet K C Str.empty=true) (hd:hasDictIn K C=true) (po:PySem.W.plainOver K C=true) (sa:findIn K (.ref C) "__setattr__"=some (some (.builtin "object.__setattr__"))) (mk:PySem.W.makesIn K C=true) (kc:keepIn K (.ref C)=true)
  (n0:findIn K (.ref C) "many"=some none)
  (n1:findIn K (.ref C) "logs"=some none)
  (n2:findIn K (.ref C) "tied"=some none)
  (Xc:nsIn K mainGlobals "MOST_SIGNS"=some (some (.int 20 tk0)))
  (z0:nsIn K mainGlobals "isinstance"=some none)
  (z1:nsIn K mainGlobals "int"=some none)
  (z2:nsIn K mainGlobals "bool"=some none)
  (z3:nsIn K mainGlobals "tuple"=some none)
  (z4:nsIn K mainGlobals "list"=some none)
  (z5:nsIn K mainGlobals "str"=some none)
  (z6:nsIn K mainGlobals "len"=some none)
  (z7:nsIn K mainGlobals "all"=some none)
  (z8:nsIn K mainGlobals "abs"=some none)
  (z9:nsIn K mainGlobals "max"=some none)
  (z10:nsIn K mainGlobals "min"=some none)
  (z11:nsIn K mainGlobals "range"=some none)
  (z12:nsIn K mainGlobals "sorted"=some none)
  (z13:nsIn K mainGlobals "any"=some none)
  (z14:nsIn K mainGlobals "sum"=some none)
  (z15:nsIn K mainGlobals "enumerate"=some none)
  (z16:nsIn K mainGlobals "zip"=some none)
  (z17:nsIn K mainGlobals "reversed"=some none)
  (z18:nsIn K mainGlobals "dict"=some none)
  (z19:nsIn K mainGlobals "ord"=some none)
  {tkS:Tok}
  (aSG:nsIn K mainGlobals "SIGNS"=some (some (.str " !\"#$&'()*+,-./0123456789:;<=>?@ABCDEFGHIJKLMNOPQRSTUVWXYZ[\\]^_`abcdefghijklmnopqrstuvwxyz{|}~" tkS)))
  : ∃fd:FuncData,(∀(s:Shared) (v:Value),BindsTo s fd ⟨[v],[]⟩ [("_law_script",v)])/\∀base:Heap,K.In base->base.Ns mainGlobals mg->DK l.prog w K mg base CX0 7 fa fd Xy (K7 K):=by
 have e:=hfa.symm.trans (mg_of X G a17);cases e;have TN:Nm mg:=⟨mg_none_of X G z0,mg_none_of X G z1,mg_none_of X G z2,mg_none_of X G z3,mg_none_of X G z4,mg_none_of X G z5,mg_none_of X G z6,mg_none_of X G z7,mg_none_of X G z8,mg_none_of X G z9,mg_none_of X G z10,mg_none_of X G z11,mg_none_of X G z12,mg_none_of X G z13,mg_none_of X G z14,mg_none_of X G z15,mg_none_of X G z16,mg_none_of X G z17,mg_none_of X G z18,mg_none_of X G z19⟩;have T:Tx K mg C:={ toTj:={ toNm:=TN,SIGNS:=⟨_,mg_of X G aSG,⟨_,rq⟩⟩,MOST_SIGNS:=⟨_,mg_of X G Xc,⟨_,rq⟩⟩ },cl:=⟨pg,hd,po,sa⟩,mgC:=mg_of X G aC,Jt:=n0,Gf:=n1,Lr:=n2 };have Fm1:=Ew (st:=BZ) lm1 cm1 km1;have bm1:=Fm1.binds (ps:=CG) λ_ _ _ _ _ _ us hl=>match us,hl with | [_,_],_=>rfl
 have T7:∃f fd,Fun K "__init__" "Ring.__init__" BZ f fd/\Mk K C f/\Binds K fd CG []:=⟨fm1,_,Fm1,⟨mk,am1,im1,kc⟩,bm1⟩;have Fm2:=Ew (st:=Bx) lm2 cm2 km2;have bm2:=Fm2.binds (ps:=BJ) λ_ _ _ _ _ _ us hl=>match us,hl with | [_,_],_=>rfl
 have Ob:Dc K C "check_panel" "Ring.check_panel" Bx BJ:=⟨fm2,_,Fm2,⟨am2,im2,km2⟩,bm2⟩;have Fm3:=Ew (st:=DR) lm3 cm3 km3;have bm3:=Fm3.binds (ps:=DY) λ_ _ _ _ _ _ us hl=>match us,hl with | [_,_,_],_=>rfl
 have cY:Dc K C "tie" "Ring.tie" DR DY:=⟨fm3,_,Fm3,⟨am3,im3,km3⟩,bm3⟩;have Fm4:=Ew (st:=DW) lm4 cm4 km4;have bm4:=Fm4.binds (ps:=Fd) λ_ _ _ _ _ _ us hl=>match us,hl with | [_,_],_=>rfl
 have cZ:Dc K C "cut" "Ring.cut" DW Fd:=⟨fm4,_,Fm4,⟨am4,im4,km4⟩,bm4⟩;have Fm5:=Ew (st:=Dm) lm5 cm5 km5;have bm5:=Fm5.binds (ps:=Dr) λ_ _ _ _ _ _ us hl=>match us,hl with | [_,_],_=>rfl
 have bK:Dc K C "mend" "Ring.mend" Dm Dr:=⟨fm5,_,Fm5,⟨am5,im5,km5⟩,bm5⟩;have Fm6:=Ew (st:=Cu) lm6 cm6 km6;have bm6:=Fm6.binds (ps:=Dy) λ_ _ _ _ _ _ us hl=>match us,hl with | [_],_=>rfl
 have Zi:Dc K C "pairs" "Ring.pairs" Cu Dy:=⟨fm6,_,Fm6,⟨am6,im6,km6⟩,bm6⟩;have Fm7:=Ew (st:=Cr) lm7 cm7 km7;have bm7:=Fm7.binds (ps:=Dw) λ_ _ _ _ _ _ us hl=>match us,hl with | [_,_,_],_=>rfl
 have Zh:Dc K C "write" "Ring.write" Cr Dw:=⟨fm7,_,Fm7,⟨am7,im7,km7⟩,bm7⟩;have Fm8:=Ew (st:=Dn) lm8 cm8 km8;have bm8:=Fm8.binds (ps:=Ds) λ_ _ _ _ _ _ us hl=>match us,hl with | [_],_=>rfl
 have bL:Dc K C "beat" "Ring.beat" Dn Ds:=⟨fm8,_,Fm8,⟨am8,im8,km8⟩,bm8⟩;have Fm9:=Ew (st:=CJ) lm9 cm9 km9;have bm9:=Fm9.binds (ps:=BP) λ_ _ _ _ _ _ us hl=>match us,hl with | [_,_],_=>rfl
 have Xk:Dc K C "log_of" "Ring.log_of" CJ BP:=⟨fm9,_,Fm9,⟨am9,im9,km9⟩,bm9⟩;have Ua:Code K mg "is_whole" Fb Ge:=Code.of X G a1 l1 c1 k1 λ_ _ _ _ _ _ us hl=>match us,hl with | [_],_=>rfl
 have Rn:Code K mg "is_within" Ed Ef:=Code.of X G a2 l2 c2 k2 λ_ _ _ _ _ _ us hl=>match us,hl with | [_,_,_],_=>rfl
 have V5:Code K mg "is_line" FP GR:=Code.of X G a3 l3 c3 k3 λ_ _ _ _ _ _ us hl=>match us,hl with | [_,_,_],_=>rfl
 have Xo:Code K mg "joined" Gs Hs:=Code.of X G a4 l4 c4 k4 λ_ _ _ _ _ _ us hl=>match us,hl with | [_,_],_=>rfl
 have Zj:Code K mg "_law_bag" Hf Ik:=Code.of X G a5 l5 c5 k5 λ_ _ _ _ _ _ us hl=>match us,hl with | [_,_],_=>rfl
 have Xm:Code K mg "_law_take" Gp Ep:=Code.of X G a6 l6 c6 k6 λ_ _ _ _ _ _ us hl=>match us,hl with | [_,_],_=>rfl
 have V3:Code K mg "_law_whole" FJ GP:=Code.of X G a7 l7 c7 k7 λ_ _ _ _ _ _ us hl=>match us,hl with | [_],_=>rfl
 have V4:Code K mg "_law_signs" FN GQ:=Code.of X G a8 l8 c8 k8 λ_ _ _ _ _ _ us hl=>match us,hl with | [],_=>rfl
 have Xl:Code K mg "_law_text" Fv Hq:=Code.of X G a9 l9 c9 k9 λ_ _ _ _ _ _ us hl=>match us,hl with | [_],_=>rfl
 have QK:Code K mg "_law_is_entry" Du Dv:=Code.of X G a10 l10 c10 k10 λ_ _ _ _ _ _ us hl=>match us,hl with | [_],_=>rfl
 have T9:Code K mg "_law_houses" DQ Gd:=Code.of X G a11 l11 c11 k11 λ_ _ _ _ _ _ us hl=>match us,hl with | [_],_=>rfl
 have V2:Code K mg "_law_write" DN GK:=Code.of X G a12 l12 c12 k12 λ_ _ _ _ _ _ us hl=>match us,hl with | [_,_,_,_],_=>rfl
 have QL:Code K mg "_law_in_order" BX Er:=Code.of X G a13 l13 c13 k13 λ_ _ _ _ _ _ us hl=>match us,hl with | [_,_,_],_=>rfl
 have K5:Code K mg "_law_all_in_order" Ck Cm:=Code.of X G a14 l14 c14 k14 λ_ _ _ _ _ _ us hl=>match us,hl with | [_,_,_],_=>rfl
 have Xn:Code K mg "_law_deed" Gq Hr:=Code.of X G a15 l15 c15 k15 λ_ _ _ _ _ _ us hl=>match us,hl with | [_,_,_,_],_=>rfl
 have Rk:Code K mg "_law_settled" Dl Fi:=Code.of X G a16 l16 c16 k16 λ_ _ _ _ _ _ us hl=>match us,hl with | [_,_,_],_=>rfl
 have dh:=Ew (st:=Gz) l17 c17 k17;refine⟨fnOf "law" "law" (Aw Gz) (Av Gz) (Ad Gz) .none ao aL ZJ bF Xf aM,λs v=>.of_eq rfl,λbase _ _=>?_⟩;have JW:=Wu (P:=l.prog) (w:=w) (base:=base) Zj TN;have Bt:=U0 (P:=l.prog) (w:=w) (base:=base) Xm TN;have Y8:=Q5 (P:=l.prog) (w:=w) (base:=base) Ua TN;have Qq:=PX (P:=l.prog) (w:=w) (base:=base) Rn TN Y8;have aD:=Tg (P:=l.prog) (w:=w) (base:=base) V5 T.toTj;have Jd:=U3 (P:=l.prog) (w:=w) (base:=base) Xo TN;have aF:=Yx (P:=l.prog) (w:=w) (base:=base) T7 T;have RK:=Wv (P:=l.prog) (w:=w) (base:=base) Ob T Qq;have XJ:=ZW (P:=l.prog) (w:=w) (base:=base) cY T Qq;have cN:=Z0 (P:=l.prog) (w:=w) (base:=base) cZ T XJ;have Vo:=Yw (P:=l.prog) (w:=w) (base:=base) bK T XJ;have Za:=Wt (P:=l.prog) (w:=w) (base:=base) Zi T;have Y7:=Wq (P:=l.prog) (w:=w) (base:=base) Zh T RK aD;have Vv:=Yz (P:=l.prog) (w:=w) (base:=base) bL T Za Jd;have Oq:=UW (P:=l.prog) (w:=w) (base:=base) Xk T RK;have jH:=Wr (P:=l.prog) (w:=w) (base:=base) V3 TN;have Y9:=Ws (P:=l.prog) (w:=w) (base:=base) V4 TN;have aB:=Yv (P:=l.prog) (w:=w) (base:=base) Xl TN Bt Y9;have RJ:=Q6 (P:=l.prog) (w:=w) (base:=base) QK TN jH;have W4:=U4 (P:=l.prog) (w:=w) (base:=base) T9 TN;have WX:=UL (P:=l.prog) (w:=w) (base:=base) V2 T Bt aB RJ Oq Y7;have cM:=Q7 (P:=l.prog) (w:=w) (base:=base) QL TN RJ;have XM:=Lp (P:=l.prog) (w:=w) (base:=base) K5 T cM Oq;have aG:=Yy (P:=l.prog) (w:=w) (base:=base) Xn T Bt WX XM cN Vo Vv;have Vn:=Tf (P:=l.prog) (w:=w) (base:=base) Rk T W4 XM Oq Vv;exact ZX dh T JW Bt aF aG Vn Vo Oq
theorem walk {l:PySem.W.OpenLaw} {q:Program} {loose:YF} {XP:(YB)->Heap->Prop} {YP:World->Heap->Prop} {d:DefRec} {K:Params->YD} (hn:l.most=some 63) (hdf:d.params.defaults=[])
  (hY:∀(w:World) (h:Heap),YP w h->(K w.params).In h)
  (F:∀(w:World) (mg:YB) (fa:Addr) (h:Heap),(K w.params).In h->h.Ns mainGlobals mg->mg d.name=some (.ref fa) ->
   ∃fd:FuncData,(∀(s:Shared) (u:Value),BindsTo s fd ⟨[u],[]⟩ [("_law_script",u)])/\∀base:Heap,(K w.params).In base->base.Ns mainGlobals mg->DK l.prog w (K w.params) mg base CX0 7 fa fd Xy (K7 (K w.params))) :
  PySem.W.WalkO q loose XP YP l.row.toRowW d [] (λf vs=>PySem.call f vs):=
 L2.X5 (n:=63) (k:=7) (x:="_law_script") (CX:=λ_=>CX0) (sp:=λw=>K7 (K w.params)) hn (by decide) hdf ⟨rq,by decide,by decide⟩ hY F (λ_ _ a ns hl _ hS=>⟨a,ns,rq,hS,hl,λ_=>rfl⟩) λ_ _ _ _ _ z=>z
end K42
/-! names that stay free of quick twins: the head comes through without them, and the compiled text is much smaller -/
namespace PySem.W.Fast
def tw1404058786696004937:=0
def tw14471964077885967719:=0
def tw12853787462559839421:=0
def tw8568414353929506660:=0
def tw5439941397187252491:=0
def tw18155278161112189944:=0
def tw12120359032048258825:=0
def tw14246655318761331623:=0
def tw11240192047202996622:=0
def tw13769164814853637356:=0
def tw15145505051504275170:=0
def tw6638912902180835160:=0
def tw8968869796513733714:=0
def tw10322139630459699714:=0
def tw12711869756223520944:=0
def tw8493775954302954138:=0
def tw4991261122453860053:=0
def tw7387325893510708842:=0
def tw17828709148083562392:=0
def tw10215388703332897176:=0
def tw16172653211773159145:=0
def tw11370734194247810146:=0
def tw16516831883864697478:=0
def tw6671186902467079636:=0
def tw14717566059799360466:=0
def tw12073627535333253637:=0
def tw17495691508808211463:=0
def tw3685799425069240361:=0
def tw17518678053905556916:=0
def tw47410539605716611:=0
def tw1386033006646060296:=0
def tw18351497121591338870:=0
def tw3083330290070650925:=0
def tw2886217907291560988:=0
def tw5778081757720893196:=0
def tw5760781526316232727:=0
def tw18249837064827002075:=0
def tw13152232369324267639:=0
def tw2017803025078564481:=0
def tw5952429832719775008:=0
def tw16802049065766943398:=0
def tw2406535471192448235:=0
def tw2936262232007177249:=0
def tw16431883376086379030:=0
def tw6810628822514114585:=0
def tw18167602735611958731:=0
def tw135028900354846182:=0
def tw7485105477330491565:=0
def tw6350256708283376959:=0
def tw18067530997104967559:=0
def tw9142935392555776224:=0
def tw5089352446736410110:=0
def tw7501992018705211224:=0
def tw16073678343863197434:=0
def tw10317043841322364960:=0
def tw18103007927562443485:=0
def tw9559352285491632437:=0
def tw5560725075281345542:=0
def tw12529220450729862572:=0
def tw4458236640446946091:=0
def tw10956619200598143668:=0
def tw9846298357727372366:=0
def tw5202021403687952249:=0
def tw11294532185600382149:=0
def tw8238047698382994261:=0
def tw8322336405545699450:=0
def tw11886344445383388295:=0
def tw8358733380158146300:=0
def tw10756706431254841787:=0
def tw6252977345091996406:=0
def tw17128022482536157407:=0
def tw12297450179528208003:=0
def tw1766572171088627350:=0
end PySem.W.Fast
open PySem PySem.W PyProof.Rows
set_option maxRecDepth 100000 in
set_option maxHeartbeats 0 in
theorem PySem.Challenge.cw_warnloop_k42_whole_one_log_holds : PySem.Challenge.rw_warnloop_k42_whole_one_log.Holds := by
 w_on;o_law;k_head;(case hw=>w_witness2)
 k_fill
 refine K42.walk (l:=PySem.Challenge.rw_warnloop_k42_whole_one_log) rfl rfl (λw h Y=>PySem.W.kIn_of Y) ?F
 case F=>
  intro w mg fa h KX G hmg
  refine' K42.all_mk KX G hmg ?aC ?am1 ?im1 ?lm1 ?cm1 ?km1 ?am2 ?im2 ?lm2 ?cm2 ?km2 ?am3 ?im3 ?lm3 ?cm3 ?km3 ?am4 ?im4 ?lm4 ?cm4 ?km4 ?am5 ?im5 ?lm5 ?cm5 ?km5 ?am6 ?im6 ?lm6 ?cm6 ?km6 ?am7 ?im7 ?lm7 ?cm7 ?km7 ?am8 ?im8 ?lm8 ?cm8 ?km8 ?am9 ?im9 ?lm9 ?cm9 ?km9 ?a1 ?l1 ?c1 ?k1 ?a2 ?l2 ?c2 ?k2 ?a3 ?l3 ?c3 ?k3 ?a4 ?l4 ?c4 ?k4 ?a5 ?l5 ?c5 ?k5 ?a6 ?l6 ?c6 ?k6 ?a7 ?l7 ?c7 ?k7 ?a8 ?l8 ?c8 ?k8 ?a9 ?l9 ?c9 ?k9 ?a10 ?l10 ?c10 ?k10 ?a11 ?l11 ?c11 ?k11 ?a12 ?l12 ?c12 ?k12 ?a13 ?l13 ?c13 ?k13 ?a14 ?l14 ?c14 ?k14 ?a15 ?l15 ?c15 ?k15 ?a16 ?l16 ?c16 ?k16 ?a17 ?l17 ?c17 ?k17 ?pg ?hd ?po ?sa ?mk ?kc ?n0 ?n1 ?n2 ?Xc ?z0 ?z1 ?z2 ?z3 ?z4 ?z5 ?z6 ?z7 ?z8 ?z9 ?z10 ?z11 ?z12 ?z13 ?z14 ?z15 ?z16 ?z17 ?z18 ?z19 ?aSG
  (case aC=>k_is)
  (case am1=>k_is)
  (case im1=>k_is)
  (case lm1=>k_is)
  (case cm1=>k_is)
  (case km1=>k_is)
  (case am2=>k_is)
  (case im2=>k_is)
  (case lm2=>k_is)
  (case cm2=>k_is)
  (case km2=>k_is)
  (case am3=>k_is)
  (case im3=>k_is)
  (case lm3=>k_is)
  (case cm3=>k_is)
  (case km3=>k_is)
  (case am4=>k_is)
  (case im4=>k_is)
  (case lm4=>k_is)
  (case cm4=>k_is)
  (case km4=>k_is)
  (case am5=>k_is)
  (case im5=>k_is)
  (case lm5=>k_is)
  (case cm5=>k_is)
  (case km5=>k_is)
  (case am6=>k_is)
  (case im6=>k_is)
  (case lm6=>k_is)
  (case cm6=>k_is)
  (case km6=>k_is)
  (case am7=>k_is)
  (case im7=>k_is)
  (case lm7=>k_is)
  (case cm7=>k_is)
  (case km7=>k_is)
  (case am8=>k_is)
  (case im8=>k_is)
  (case lm8=>k_is)
  (case cm8=>k_is)
  (case km8=>k_is)
  (case am9=>k_is)
  (case im9=>k_is)
  (case lm9=>k_is)
  (case cm9=>k_is)
  (case km9=>k_is)
  (case a1=>k_is)
  (case l1=>k_is)
  (case c1=>k_is)
  (case k1=>k_is)
  (case a2=>k_is)
  (case l2=>k_is)
  (case c2=>k_is)
  (case k2=>k_is)
  (case a3=>k_is)
  (case l3=>k_is)
  (case c3=>k_is)
  (case k3=>k_is)
  (case a4=>k_is)
  (case l4=>k_is)
  (case c4=>k_is)
  (case k4=>k_is)
  (case a5=>k_is)
  (case l5=>k_is)
  (case c5=>k_is)
  (case k5=>k_is)
  (case a6=>k_is)
  (case l6=>k_is)
  (case c6=>k_is)
  (case k6=>k_is)
  (case a7=>k_is)
  (case l7=>k_is)
  (case c7=>k_is)
  (case k7=>k_is)
  (case a8=>k_is)
  (case l8=>k_is)
  (case c8=>k_is)
  (case k8=>k_is)
  (case a9=>k_is)
  (case l9=>k_is)
  (case c9=>k_is)
  (case k9=>k_is)
  (case a10=>k_is)
  (case l10=>k_is)
  (case c10=>k_is)
  (case k10=>k_is)
  (case a11=>k_is)
  (case l11=>k_is)
  (case c11=>k_is)
  (case k11=>k_is)
  (case a12=>k_is)
  (case l12=>k_is)
  (case c12=>k_is)
  (case k12=>k_is)
  (case a13=>k_is)
  (case l13=>k_is)
  (case c13=>k_is)
  (case k13=>k_is)
  (case a14=>k_is)
  (case l14=>k_is)
  (case c14=>k_is)
  (case k14=>k_is)
  (case a15=>k_is)
  (case l15=>k_is)
  (case c15=>k_is)
  (case k15=>k_is)
  (case a16=>k_is)
  (case l16=>k_is)
  (case c16=>k_is)
  (case k16=>k_is)
  (case a17=>k_is)
  (case l17=>k_is)
  (case c17=>k_is)
  (case k17=>k_is)
  (case pg=>k_is)
  (case hd=>k_is)
  (case po=>k_is)
  (case sa=>k_is)
  (case mk=>k_is)
  (case kc=>k_is)
  (case n0=>k_is)
  (case n1=>k_is)
  (case n2=>k_is)
  (case Xc=>k_is)
  (case z0=>k_is)
  (case z1=>k_is)
  (case z2=>k_is)
  (case z3=>k_is)
  (case z4=>k_is)
  (case z5=>k_is)
  (case z6=>k_is)
  (case z7=>k_is)
  (case z8=>k_is)
  (case z9=>k_is)
  (case z10=>k_is)
  (case z11=>k_is)
  (case z12=>k_is)
  (case z13=>k_is)
  (case z14=>k_is)
  (case z15=>k_is)
  (case z16=>k_is)
  (case z17=>k_is)
  (case z18=>k_is)
  (case z19=>k_is)
  (case aSG=>k_is)
