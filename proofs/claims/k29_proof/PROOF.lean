import PyProof.Rows.All
import Wide.All
import OpenK.AllK
import Wide.FinOn
import Lean
import PyProof.EqAt
import PyProof.EqKinds
import PyProof.TupleCall
import PySem.Challenge.RW_warnloop_k29_texts_of_no_rules
set_option linter.all false
set_option Elab.async false
set_option maxRecDepth 100000
set_option maxHeartbeats 4000000
abbrev YA:=PySem.Value→PySem.Shared→Prop
abbrev YH:=Unit→PySem.Shared→Prop
abbrev YB:=PySem.Str→Option PySem.Value
abbrev YC:=List (PySem.Addr×PySem.Obj)
abbrev YD:=PySem.W.Frag
abbrev YI:=Array (Option PySem.Value)
abbrev YE:=List PySem.Value
abbrev YF:=List PySem.Str
abbrev YJ:=List PySem.Expr
theorem rq{α:Sort _}{a:α}:a=a:=rfl
local macro_rules|`(tactic|trivial)=>`(tactic|decide +kernel)
local macro_rules | `(tactic|ac_rfl) => `(tactic|exact ⟨rfl,rfl,rfl,by decide +kernel,rfl,by decide +kernel,by decide +kernel⟩)
open PySem.W (hideAll hideAll_get findIn kitOne kia_one keepIn fnOf codeIn nsIn mg_of excIn subIn looks_subIn mg_none_of)
abbrev Qaa:=@PyProof.Rows.slot_tuple_getitem
abbrev Qab:=@PyProof.Rows.callWith_type1
abbrev Qac:=@PySem.F.slot_str_startswith
abbrev Qad:=@PySem.F.type_str_startswith
abbrev Qae:=@Array.getElem?_eq_some_iff
abbrev Qaf:=@List.getD_eq_getElem?_getD
abbrev Qag:=@List.getElem?_append_right
abbrev Qah:=@PySem.F.slot_str_partition
abbrev Qai:=@PySem.F.type_str_partition
abbrev Qaj:=@List.getElem?_eq_some_iff
abbrev Qak:=@List.getElem?_append_left
abbrev Qal:=@Array.getElem?_eq_getElem
abbrev Qam:=@List.getElem?_eq_getElem
abbrev Qan:=@PySem.F.slot_list_append
abbrev Qao:=@PySem.F.type_list_append
abbrev Qap:=@PySem.F.plainAttrs_list
abbrev Qaq:=@Int.eq_ofNat_of_zero_le
abbrev Qar:=@PySem.wpAny_callSpecial?_slot
abbrev Qas:=@PySem.wpAny_getItem_str_slice
abbrev Qat:=@PySem.Heap.get?_push_of_some
abbrev Qau:=@PySem.F.plainAttrs_str
abbrev Qav:=@PySem.Heap.get?_update_other
abbrev Qaw:=@List.take_of_length_le
abbrev Qax:=@List.mem_append_right
abbrev Qay:=@Array.getElem?_toList
abbrev Qaz:=@List.take_append_drop
abbrev QaA:=@PySem.Heap.get?_update_self
abbrev QaB:=@List.mem_cons_of_mem
abbrev QaC:=@List.mem_of_getElem?
abbrev QaD:=@List.mem_append_left
abbrev QaE:=@Array.toList_extract
abbrev QaF:=@PySem.Heap.get?_push_size
abbrev QaG:=@List.forall_mem_nil
abbrev QaH:=@Array.length_toList
abbrev QaI:=@PySem.mem_of_lookup
abbrev QaJ:=@List.filterMap_cons
abbrev QaK:=@List.replicate_succ
abbrev QaL:=@beq_eq_false_iff_ne
abbrev QaM:=@List.length_append
abbrev QaN:=@List.mem_cons_self
abbrev QaO:=@List.mem_singleton
abbrev QaP:=@Bool.false_ne_true
abbrev QaQ:=@Nat.lt_of_lt_of_le
abbrev QaS:=@decide_eq_true_iff
abbrev QaT:=@of_decide_eq_false
abbrev QaU:=@PySem.wpAny_setField_rec
abbrev QaV:=@Int.emod_lt_of_pos
abbrev QaW:=@PySem.wpAny_Call_Name_kw
abbrev QaX:=@PySem.Obj.data_mapFields
abbrev QaY:=@PySem.Str.length_append
abbrev QaZ:=@List.append_assoc
abbrev Qba:=@of_decide_eq_true
abbrev Qbb:=@List.count_append
abbrev Qbc:=@List.size_toArray
abbrev Qbd:=@List.flatten_cons
abbrev Qbe:=@List.getElem?_map
abbrev Qbf:=@PySem.wpAny_truthy_bool
abbrev Qbg:=@PySem.wpAny_newObj_type
abbrev Qbh:=@Int.toNat_natCast
abbrev Qbi:=@PySem.wpAny_loadPart_at
abbrev Qbj:=@List.flatMap_cons
abbrev Qbk:=@Bool.and_eq_true
abbrev Qbl:=@List.length_cons
abbrev Qbm:=@List.all_eq_true
abbrev Qbn:=@List.length_take
abbrev Qbo:=@Nat.succ_le_succ
abbrev Qbp:=@List.not_mem_nil
abbrev Qbq:=@List.take_length
abbrev Qbr:=@List.length_drop
abbrev Qbs:=@PySem.wpAny_call_entry
abbrev Qbt:=@List.getElem_mem
abbrev Qbu:=@Nat.le_max_right
abbrev Qbv:=@decide_eq_false
abbrev Qbw:=@List.length_map
abbrev Qbx:=@List.map_append
abbrev Qby:=@List.mem_append
abbrev Qbz:=@List.nil_append
abbrev QbA:=@Option.some.inj
abbrev QbB:=@List.append_nil
abbrev QbD:=@PySem.PassesOwn.never
abbrev QbE:=@List.all_append
abbrev QbF:=@Bool.eq_iff_iff
abbrev QbG:=@PySem.wpAny_passesOwn
abbrev QbH:=@List.nodup_cons
abbrev QbI:=@List.find?_cons
abbrev QbJ:=@Bool.or_eq_true
abbrev QbK:=@Int.emod_nonneg
abbrev QbL:=@Nat.le_max_left
abbrev QbM:=@List.drop_left'
abbrev QbN:=@decide_eq_true
abbrev QbO:=@PySem.Heap.size_push
abbrev QbP:=@List.mem_cons
abbrev QbQ:=@Bool.true_and
abbrev QbR:=@List.map_cons
abbrev QbS:=@Bool.and_self
abbrev QbU:=@Nat.lt_irrefl
abbrev QbV:=@PySem.wpAny_standAt
abbrev QbW:=@List.any_cons
abbrev QbX:=@List.sum_cons
abbrev QbY:=@List.all_cons
abbrev QbZ:=@PySem.Heap.lt_size
abbrev Qca:=@Nat.le_trans
abbrev Qcb:=@Nat.ne_of_lt
abbrev Qcc:=@List.mem_map
abbrev Qcd:=@Nat.ne_of_gt
abbrev Qce:=@List.map_map
abbrev Qcf:=@Nat.le_refl
abbrev Qcg:=@Nat.zero_le
abbrev Qch:=@PySem.wpAny_field
abbrev Qci:=@decide_true
abbrev Qcj:=@PySem.wpAny_bind
abbrev Qck:=@PySem.wpAny_pure
abbrev Qcl:=@PySem.wpAny_mono
abbrev Qcm:=@PyProof.Rows.take_snoc
abbrev Qcn:=@LawfulBEq.eq_of_beq
abbrev Qco:=@or_false
namespace L2
open PySem PySem.Spec PyProof.Rows
abbrev Key:=Sum Int Str
def Qn:Key->Value->Bool
 | .inl k,v=>Value.isInt k v
 | .inr x,v=>Value.isStrOf x v
def yN (w:World):Key->Int
 | .inl k=>hashInt k
 | .inr x=>hashStr w x
theorem El:∀{k:Key} {v:Value},Qn k v=true->(∃i t,k=Sum.inl i/\v=Value.int i t)\/(∃x t,k=Sum.inr x/\v=Value.str x t)
 | .inl i,v,h=>by
  obtain⟨t,e⟩:=Value.isInt_shape (k:=i) (v:=v) h;exact .inl ⟨i,t,rq,e⟩
 | .inr x,v,h=>by
  obtain⟨t,e⟩:=Value.isStrOf_shape (x:=x) (v:=v) h;exact .inr ⟨x,t,rq,e⟩
theorem dJ (i:Int) (t:Tok):Qn (.inl i) (.int i t)=true:=by simp[Qn,Value.isInt]
theorem dI (x:Str) (t:Tok):Qn (.inr x) (.str x t)=true:=by simp[Qn,Value.isStrOf]
theorem rF (a b:Int):decide ((Sum.inl a:Key)=Sum.inl b)=(a == b):=by
 by_cases e:a=b
 ·subst e;simp
 ·have h:¬(Sum.inl a:Key)=Sum.inl b:=λq=>e (Sum.inl.inj q);rw[Qbv h];exact (QaL.mpr e).symm
theorem rC (a b:Str):decide ((Sum.inr a:Key)=Sum.inr b)=decide (a=b):=by
 by_cases e:a=b
 ·subst e;simp
 ·have h:¬(Sum.inr a:Key)=Sum.inr b:=λq=>e (Sum.inr.inj q);rw[Qbv h,Qbv e]
theorem rE (a:Int) (b:Str):decide ((Sum.inl a:Key)=Sum.inr b)=false:=Qbv (λq=>nomatch q)
theorem rD (a:Str) (b:Int):decide ((Sum.inr a:Key)=Sum.inl b)=false:=Qbv (λq=>nomatch q)
def Eh (prog:Program) (w:World):PySem.KeyKind prog w Key where
 is:=Qn
 hash:=yN w
 inj:=λv a b ha hb=>by
  rcases El ha with⟨i,t,rfl,rfl⟩|⟨x,t,rfl,rfl⟩
  ·rcases El hb with⟨j,u,rfl,e⟩|⟨y,u,rfl,e⟩
   ·injection e with e1 _;rw[e1]
   ·exact nomatch e
  ·rcases El hb with⟨j,u,rfl,e⟩|⟨y,u,rfl,e⟩
   ·exact nomatch e
   ·injection e with e1 _;rw[e1]
 byValue:=λk v h=>by
  rcases El h with⟨i,t,rfl,rfl⟩|⟨x,t,rfl,rfl⟩ <;> rfl
 pyHash:=λhv h=>by
  rcases El hv with⟨i,t,rfl,rfl⟩|⟨x,t,rfl,rfl⟩
  ·exact wpAny_pyHash_int h
  ·exact wpAny_pyHash_str h
 eqBool:=λhu hv h=>by
  rcases El hu with⟨i,t,rfl,rfl⟩|⟨x,t,rfl,rfl⟩
  ·rcases El hv with⟨j,u,rfl,rfl⟩|⟨y,u,rfl,rfl⟩
   ·rw[rF] at h;exact wpAny_eqBool_int h
   ·rw[rE] at h;exact SeqAt.EqAt.int_str i t y u _ _ _ _ h
  ·rcases El hv with⟨j,u,rfl,rfl⟩|⟨y,u,rfl,rfl⟩
   ·rw[rD] at h;exact SeqAt.EqAt.str_int x t j u _ _ _ _ h
   ·rw[rC] at h;exact wpAny_eqBool_str h
 «strs»:=λk x t v h=>by
  rcases El h with⟨i,u,rfl,e⟩|⟨y,u,rfl,e⟩
  ·exact nomatch e
  ·injection e with e1 _;subst e1;cases v <;> rfl
theorem X4 (prog:Program) (w:World) (i:Int) (t:Tok):(Eh prog w).is (.inl i) (.int i t)=true:=dJ i t
theorem X3 (prog:Program) (w:World) (x:Str) (t:Tok):(Eh prog w).is (.inr x) (.str x t)=true:=dI x t
inductive V where
 | non | bl (b:Bool) | int (i:Int) | str (x:Str) | byt (b:Array UInt8) | flt (b:UInt64) | ref (a:Addr) | ty (n:String)
 deriving DecidableEq
def RelV:V->Value->Prop
 | .non,u=>u=Value.none
 | .bl b,u=>u=Value.bool b
 | .int i,u=>∃t,u=Value.int i t
 | .str x,u=>∃t,u=Value.str x t
 | .byt b,u=>∃t,u=Value.bytes b t
 | .flt b,u=>∃t,u=Value.float b t
 | .ref a,u=>u=Value.ref a
 | .ty n,u=>u=Value.type n
abbrev YG:=List V
abbrev Vals:YG->YE->Prop:=Paired RelV
theorem Vals.length {xs:YG} {us:YE} (r:Vals xs us):xs.length=us.length:=Paired.length r
theorem Vals.get:∀{xs:YG} {us:YE} {i:Nat} {x:V},Vals xs us->xs[i]?=some x->∃u,us[i]?=some u/\RelV x u
 | _,_,_,_,.nil,e=>by simp at e
 | _,_,0,_,.cons r _,e=>by simp at e;subst e;exact⟨_,rfl,r⟩
 | _,_,i+1,x,.cons _ t,e=>by
  obtain⟨u,h1,h2⟩:=Vals.get (i:=i) (x:=x) t (by simpa using e);exact⟨u,by simpa using h1,h2⟩
theorem Vals.set {x:V} {u:Value} (r:RelV x u):∀{xs:YG} {us:YE} (i:Nat),Vals xs us->Vals (xs.set i x) (us.set i u)
 | _,_,_,.nil=>.nil
 | _,_,0,.cons _ t=>.cons r t
 | _,_,i+1,.cons q t=>.cons q (Vals.set r i t)
theorem Vals.append:∀{xs ys:YG} {us ws:YE},Vals xs us->Vals ys ws->Vals (xs++ys) (us++ws)
 | _,_,_,_,.nil,s=>s
 | _,_,_,_,.cons r t,s=>.cons r (Vals.append t s)
theorem Vals.take:∀{xs:YG} {us:YE} (n:Nat),Vals xs us->Vals (xs.take n) (us.take n)
 | _,_,0,_=>.nil
 | _,_,_+1,.nil=>.nil
 | _,_,n+1,.cons r t=>.cons r (Vals.take n t)
theorem Vals.drop:∀{xs:YG} {us:YE} (n:Nat),Vals xs us->Vals (xs.drop n) (us.drop n)
 | _,_,0,r=>r
 | _,_,_+1,.nil=>.nil
 | _,_,n+1,.cons _ t=>Vals.drop n t
def JR:Option V->Option Value->Prop
 | some v,some u=>RelV v u
 | none,none=>True
 | _,_=>False
def KV {κ : Type}:List (κ×V)->List (κ×Value)->Prop:=Paired λ(p:κ×V) (q:κ×Value)=>p.1=q.1/\RelV p.2 q.2
def kV:Key->V
 | .inl i=>.int i
 | .inr x=>.str x
inductive HO where
 | lst (xs:YG)
 | tup (xs:YG)
 | dK (kvs:List (Key×V)) | dT (kvs:List (List Key×V))
 | set (S:Int->Bool) (n:Nat)
 | ins (C dx:Addr) (fs:List (Str×V))
 | own (x:Addr)
 | xd (fs:List (Str×V))
 | met (f x:Addr)
 | rng (lo hi:Int)
 | frz (o:Obj) (u:HO)
 | tbl (ps:Array Value)
 | ext (φ : Heap->Prop)
abbrev Hp:=Addr->Option HO
def upd (H:Hp) (a:Addr) (o:HO):Hp:=λb=>if b=a then some o else H b
theorem Ae {H:Hp} {a:Addr} {o:HO}:upd H a o a=some o:=by unfold upd;rw[if_pos rfl]
theorem Bw {H:Hp} {a b:Addr} {o:HO} (h:b≠a):upd H a o b=H b:=by unfold upd;rw[if_neg h]
theorem mL {H:Hp} {a:Addr} {o u:HO}:upd (upd H a o) a u=upd H a u:=by
 funext b;unfold upd;split <;> rfl
theorem Cp {H:Hp} {a b:Addr} {o:HO} (h:H a=some o) (h':H b=none):a≠b:=by
 intro e;subst e;rw[h] at h';cases h'
section
variable (P:Program) (w:World)
def CQ (H:Hp) (h:Heap) (a:Addr):HO->Prop
 | .lst xs=>xs.length<=sizeLine/\∃(its:YE) (n:Nat),Vals xs its/\h.get? a=some { cls:=.type "list",data:=.seq its.toArray n }
 | .tup xs=>xs.length<=sizeLine/\∃its:YE,Vals xs its/\IsTup h a its.toArray
 | .dK kvs=>kvs.length<=sizeLine/\(a == sysModules)=false/\∃vs,KV kvs vs/\h.DictOf (Eh P w) a vs
 | .dT kvs=>kvs.length<=sizeLine/\(a == sysModules)=false/\∃xs:List (List Key×Addr×Value),
   Paired (λ(p:List Key×V) (q:List Key×Addr×Value)=>p.1=q.1/\H q.2.1=some (.tup (p.1.map kV))/\RelV p.2 q.2.2) kvs xs /\
   ∃o es ep,h.get? a=some o/\o.ExactDict/\o.data=.dict es ep/\es.toList=xs.map (entryOfKey (tupleKind (Eh P w)))/\(xs.map (·.1)).Nodup
 | .set S n=>h.SetOf (intKind P w) a S n
 | .ins C dx fs=>H dx=some (.own a)/\fs.length<=1000/\dx≠a/\h.get? a=some (PySem.W.instObj C dx) /\
   ∃mA,h.Ns1 dx mA/\(∀f,JR (fs.lookup f) (mA f))/\PySem.Within mA (fs.map (·.1))
 | .own _=>∃o,h.get? a=some o
 | .xd fs=>∃mA,h.Ns1 a mA/\∀f,JR (fs.lookup f) (mA f)
 | .rng lo hi=>∃t u v,h.get? a=some { cls:=.type "range",data:=.fields #[.int lo t,.int hi u,.int 1 v] }
 | .frz o u=>h.get? a=some o/\CQ H h a u
 | .tbl ps=>h.get? a=some { cls:=.none,data:=.fields ps }
 | .met f x=>h.get? a=some (PySem.W.methodObj (.ref f) (.ref x))
 | .ext φ=>φ h/\(∃o,h.get? a=some o)/\∀h1 h2:Heap,φ h1->(∀o,h1.get? a=some o->h2.get? a=some o)->φ h2
def HOk (H:Hp) (h:Heap):Prop:=∀a o,H a=some o->CQ P w H h a o
end
section
variable {P:Program} {w:World} {H H':Hp} {h h':Heap} {a:Addr} {o:HO}
theorem CQ.lt (x:CQ P w H h a o):a < h.objs.size:=by
 cases o with
 | lst xs=>obtain⟨_,_,_,_,e⟩:=x;exact QbZ e
 | tup xs=>obtain⟨_,_,_,p⟩:=x;exact p.lt
 | dK kvs=>obtain⟨_,_,_,_,o,_,_,e,_⟩:=x;exact QbZ e
 | dT kvs=>obtain⟨_,_,_,_,o,_,_,e,_⟩:=x;exact QbZ e
 | set S n=>obtain⟨o,_,_,_,e,_⟩:=x;exact QbZ e
 | ins C dx fs=>obtain⟨_,_,_,e,_⟩:=x;exact QbZ e
 | own y=>obtain⟨_,e⟩:=x;exact QbZ e
 | xd fs=>obtain⟨_,⟨_,_,_,e,_⟩,_⟩:=x;exact QbZ e
 | rng lo hi=>obtain⟨_,_,_,e⟩:=x;exact QbZ e
 | frz ob u=>obtain⟨e,_⟩:=x;exact QbZ e
 | tbl ps=>exact QbZ (show h.get? a=some _ from x)
 | met f y=>exact QbZ (show h.get? a=some _ from x)
 | ext φ=>obtain⟨_,⟨_,e⟩,_⟩:=x;exact QbZ e
theorem Paired.iV {α β : Type} {F G:α->β->Prop}:∀{l₁ : List α} {l₂ : List β},Paired F l₁ l₂->(∀a b,F a b->G a b)->Paired G l₁ l₂
 | _,_,.nil,_=>.nil
 | _,_,.cons r t,f=>.cons (f _ _ r) (Paired.iV t f)
theorem CQ.stay (x:CQ P w H h a o) (k:∀b u,(b=a\/H b=some (.own a))->h.get? b=some u->h'.get? b=some u)
  (ho:∀b,H b=some (.own a)->H' b=some (.own a)) (ht:∀b xs,H b=some (.tup xs)->H' b=some (.tup xs)):CQ P w H' h' a o:=by
 induction o with
 | lst xs=>obtain⟨z,its,n,r,e⟩:=x;exact⟨z,its,n,r,k _ _ (.inl rfl) e⟩
 | tup xs=>obtain⟨z,its,r,ob,e,c⟩:=x;exact⟨z,its,r,ob,k _ _ (.inl rfl) e,c⟩
 | dK kvs=>obtain⟨z,y,vs,r,ob,es,ep,e,c⟩:=x;exact⟨z,y,vs,r,ob,es,ep,k _ _ (.inl rfl) e,c⟩
 | dT kvs=>
  obtain⟨z,y,xs,r,ob,es,ep,e,c⟩:=x;exact⟨z,y,xs,Paired.iV r λp q z=>⟨z.1,ht _ _ z.2.1,z.2.2⟩,ob,es,ep,k _ _ (.inl rfl) e,c⟩
 | set S n=>obtain⟨ob,es,ep,t,e,c⟩:=x;exact⟨ob,es,ep,t,k _ _ (.inl rfl) e,c⟩
 | ins C dx fs=>
  obtain⟨d,z,ne,e,mA,⟨od,es,ep,e2,c⟩,r⟩:=x;exact⟨ho _ d,z,ne,k _ _ (.inl rfl) e,mA,⟨od,es,ep,k _ _ (.inr d) e2,c⟩,r⟩
 | own y=>obtain⟨ob,e⟩:=x;exact⟨ob,k _ _ (.inl rfl) e⟩
 | xd fs=>obtain⟨mA,⟨od,es,ep,e,c⟩,r⟩:=x;exact⟨mA,⟨od,es,ep,k _ _ (.inl rfl) e,c⟩,r⟩
 | rng lo hi=>obtain⟨t,u,v,e⟩:=x;exact⟨t,u,v,k _ _ (.inl rfl) e⟩
 | frz ob u ih=>obtain⟨e,q⟩:=x;exact⟨k _ _ (.inl rfl) e,ih q⟩
 | tbl ps=>
  have e:h.get? a=some { cls:=.none,data:=.fields ps }:=x;show h'.get? a=some { cls:=.none,data:=.fields ps };exact k a _ (.inl rfl) e
 | met f y=>
  have e:h.get? a=some (PySem.W.methodObj (.ref f) (.ref y)):=x;show h'.get? a=some (PySem.W.methodObj (.ref f) (.ref y));exact k a _ (.inl rfl) e
 | ext φ=>obtain⟨p,⟨o,e⟩,st⟩:=x;exact⟨st _ _ p λo q=>k _ _ (.inl rfl) q,⟨o,k _ _ (.inl rfl) e⟩,st⟩
theorem HOk.lt (x:HOk P w H h) (e:H a=some o):a < h.objs.size:=(x a o e).lt
theorem HOk.fresh (x:HOk P w H h) (e:h.objs.size<=a):H a=none:=by
 cases q:H a with
 | none=>rfl
 | some u=>exact absurd (QaQ (x.lt q) e) (QbU _)
theorem HOk.kept (x:HOk P w H h) (k:∀b u,h.get? b=some u->h'.get? b=some u):HOk P w H h':=λa o e=>
 (x a o e).stay (λb u _ q=>k b u q) (λ_ q=>q) λ_ _ q=>q
theorem HOk.laid (x:HOk P w H h) (k:∀b u,h.get? b=some u->h'.get? b=some u) (hp:h.objs.size<=a) (new:CQ P w (upd H a o) h' a o):HOk P w (upd H a o) h':=λb u e=>by
 have hn:=x.fresh hp;by_cases hb:b=a
 ·subst hb;rw[Ae] at e;cases e;exact new
 ·rw[Bw hb] at e;exact (x b u e).stay (λc v _ q=>k c v q) (λc q=>by rw[Bw (Cp q hn)];exact q) λc xs q=>by rw[Bw (Cp q hn)];exact q
end
def Rd (H:Hp) (a:Addr) (u:HO):Prop:=H a=some u\/∃o,H a=some (.frz o u)
theorem Rd.ok {P:Program} {w:World} {H:Hp} {h:Heap} {a:Addr} {u:HO} (r:Rd H a u) (x:HOk P w H h):CQ P w H h a u:=by
 rcases r with r |⟨o,r⟩
 ·exact x a u r
 ·obtain⟨_,q⟩:=x a _ r;exact q
def Mut:Option HO->Prop
 | some (.lst _)=>True
 | some (.dK _)=>True
 | some (.dT _)=>True
 | some (.set _ _)=>True
 | some (.ins _ _ _)=>True
 | some (.ext _)=>True
 | _=>False
section
variable {P:Program} {w:World} {H:Hp} {h h':Heap} {x e:Addr} {o':HO}
theorem HOk.write (ok:HOk P w H h) (mu:Mut (H x)) (he:e=x\/H e=some (.own x)) (k:∀b u,b≠e->h.get? b=some u->h'.get? b=some u) (heo:∃u,h'.get? e=some u)
  (new:CQ P w (upd H x o') h' x o'):HOk P w (upd H x o') h':=λb u q=>by
 have qX:∀c y,H c=some (.own y)->c≠x:=λc y r z=>by subst z;rw[r] at mu;exact mu
 have N5:∀c xs,H c=some (.tup xs)->c≠x:=λc xs r z=>by subst z;rw[r] at mu;exact mu
 by_cases hb:b=x
 ·subst hb;rw[Ae] at q;cases q;exact new
 ·rw[Bw hb] at q;by_cases hbe:b=e
  ·have q':H b=some (.own x):=by
    rcases he with z | z
    ·exact absurd (hbe.trans z) hb
    ·rw[hbe];exact z
   rw[q] at q';cases q';obtain⟨v,hv⟩:=heo;exact⟨v,by rw[hbe];exact hv⟩
  ·refine (ok b u q).stay (λc v hc r=>k c v ?_ r) (λc r=>by rw[Bw (qX c b r)];exact r) λc xs r=>by rw[Bw (N5 c xs r)];exact r
   rcases hc with rfl | hc
   ·exact hbe
   ·rintro rfl;rcases he with z | z
    ·exact qX c b hc z
    ·rw[hc] at z;cases z;exact hb rfl
end
structure Un (fs ex:List Addr) (H H':Hp) (h h':Heap):Prop where
 keep:∀b o,h.get? b=some o->H b=none->b∉fs->b∉ex->h'.get? b=some o
 slot:∀b o,h.get? b=some o->H b=none->b∈fs->b∉ex->∃sl,h'.get? b=some { o with slots:=sl }
 free:∀b o,h.get? b=some o->H b=none->b∉ex->H' b=none
 there:∀b o,h.get? b=some o->b∉ex->∃o',h'.get? b=some o'
 tups:∀b xs,H b=some (.tup xs)->H' b=some (.tup xs)
 G6:∀b o u,H b=some (.frz o u)->H' b=some (.frz o u)
 HW:∀b ps,H b=some (.tbl ps)->∃more,H' b=some (.tbl (ps++more))
section
variable {fs fs' ex ex':List Addr} {H H1 H2:Hp} {h h1 h2 h':Heap} {a x e:Addr} {o:HO}
theorem Un.any (u:Un fs ex H H1 h h1) {b:Addr} {ob:Obj} (q:h.get? b=some ob) (n:H b=none) (hx:b∉ex):∃sl,h1.get? b=some { ob with slots:=sl }:=by
 by_cases hb:b∈fs
 ·exact u.slot b ob q n hb hx
 ·exact⟨ob.slots,u.keep b ob q n hb hx⟩
theorem Un.kept (k:∀b u,h.get? b=some u->h'.get? b=some u):Un fs ex H H h h':=
 ⟨λb ob q _ _ _=>k b ob q,λb ob q _ _ _=>⟨ob.slots,k b ob q⟩,λ_ _ _ n _=>n,λb ob q _=>⟨ob,k b ob q⟩,λ_ _ q=>q,λ_ _ _ q=>q,λ_ ps q=>⟨#[],by rw[q];simp⟩⟩
theorem Un.refl:Un fs ex H H h h:=Un.kept λ_ _ q=>q
theorem Un.laid (k:∀b u,h.get? b=some u->h'.get? b=some u) (hp:h.objs.size<=a) (hn:H a=none):Un fs ex H (upd H a o) h h' where
 keep:=λb u q _ _ _=>k b u q
 slot:=λb u q _ _ _=>⟨u.slots,k b u q⟩
 free:=λb u q n _=>by rw[Bw (Qcb (QaQ (QbZ q) hp))];exact n
 there:=λb u q _=>⟨u,k b u q⟩
 tups:=λb xs q=>by rw[Bw (Cp q hn)];exact q
 G6:=λb u xs q=>by rw[Bw (Cp q hn)];exact q
 HW:=λb ps q=>⟨#[],by rw[Bw (Cp q hn),q];simp⟩
theorem Un.write (mu:Mut (H x)) (he:e=x\/H e=some (.own x)) (k:∀b u,b≠e->h.get? b=some u->h'.get? b=some u) (heo:∃u,h'.get? e=some u):Un fs ex H (upd H x o) h h':=by
 have hx:∀b,H b=none->b≠x:=λb n z=>by subst z;rw[n] at mu;exact mu
 have hb:∀b,H b=none->b≠e:=λb n z=>by
  subst z;rcases he with r | r
  ·exact hx b n r
  ·rw[n] at r;cases r
 have hm:∀b u,H b=some u->¬Mut (some u)->b≠x:=λb u q nm z=>by subst z;rw[q] at mu;exact nm mu
 refine⟨λb u q n _ _=>k b u (hb b n) q,λb u q n _ _=>⟨u.slots,k b u (hb b n) q⟩,λb u q n _=>by rw[Bw (hx b n)];exact n,λb u q _=>?_,
  λb xs q=>by rw[Bw (hm b _ q λz=>z)];exact q,λb u xs q=>by rw[Bw (hm b _ q λz=>z)];exact q,λb ps q=>⟨#[],by rw[Bw (hm b _ q λz=>z),q];simp⟩⟩
 by_cases hbe:b=e
 ·subst hbe;exact heo
 ·exact⟨u,k b u hbe q⟩
end
def trk (h:Heap) (H:Hp):List Addr:=(List.range h.objs.size).filter λa=>(H a).isSome
def Oa (h:Heap) (H:Hp):Heap:=hideAll h (trk h H)
theorem dZ (h:Heap) (H:Hp):(Oa h H).objs.size=h.objs.size:=PySem.W.hideAll_size _ _
theorem jF {h:Heap} {H:Hp} {b:Addr} {o:Obj} (e:h.get? b=some o) (n:H b=none):(Oa h H).get? b=some o:=
 hideAll_get _ e λhm=>by
  have q:(H b).isSome=true:=(List.mem_filter.mp hm).2;rw[n] at q;simp at q
theorem nU {h:Heap} {H:Hp} {b:Addr} {o:Obj} (e:(Oa h H).get? b=some o):h.get? b=some o/\H b=none:=by
 have e':h.get? b=some o:=PySem.W.of_hideAll (trk h H) e;refine⟨e',?_⟩;cases q:H b with
 | none=>rfl
 | some x=>
  have hm:b∈trk h H:=List.mem_filter.mpr ⟨List.mem_range.mpr (QbZ e'),by simp[q]⟩;have z:(Oa h H).get? b=none:=PySem.W.hideAll_none (trk h H) hm;rw[z] at e;cases e
def pq (g h:Heap) (L:Addr):YC:=(List.range h.objs.size).filterMap λa=>if a=L\/(g.get? a).isSome=true then none else (h.get? a).map λo=>(a,o)
def rest (g h:Heap) (L d:Addr):YC:=(pq g h L).filter λp=>decide (p.1≠d)
structure Mod (K:YD) (mg:YB) (base:Heap):Prop where
 kin:K.In base
 glob:base.Ns mainGlobals mg
 blt:∃mb,base.Ns builtinsNs mb/\∀x:Str,x≠"__name__"->mb x=bootBuiltins x
 nolimit:base.NoLimit
structure Cx where
 prog:Program
 w:World
 K:YD
 mg:YB
 base:Heap
 A:Around
 N:YF
 s₀ : Shared
 H₀ : Hp
 env:Env
 outer:List Env
 stack:List Env
 ex:List Addr
 fn:Str->Bool
 calm:Bool
 pn:YC
 xe:YA
def frs (l:List Env):List Addr:=l.filterMap (·.frame)
abbrev Cx.fs (X:Cx):List Addr:=frs X.outer
def Vis (sc:Scope) (x:Str):Prop:=sc.names.lookup x=some .local\/sc.names.lookup x=some .cell\/sc.names.lookup x=some .free
def Loc (sc:Scope) (x:Str):Prop:=sc.names.lookup x=some .local\/sc.names.lookup x=some .cell
def Look (env:Env) (h:Heap) (m:YB) (x:Str) (u:Value):Prop:=
 (env.kindOf x=some .local/\m x=some u)\/((env.kindOf x=some .cell\/env.kindOf x=some .free)/\∃c,env.cells.lookup x=some c/\h.IsCell c (some u))
structure Cx.Ok (X:Cx):Prop where
 mod:Mod X.K X.mg X.base
 kind:X.env.scope.kind=.function
 glob:X.env.globals=mainGlobals
 blt:X.env.builtins=builtinsNs
 above:X.s₀.heap.objs.size<=X.env.locals
 inj:∀x y c,X.env.cells.lookup x=some c->X.env.cells.lookup y=some c->x=y
 has:∀x,(X.env.kindOf x=some .cell\/X.env.kindOf x=some .free)->∃c,X.env.cells.lookup x=some c
 cab:∀x c,X.fn x=true->X.env.cells.lookup x=some c->X.s₀.heap.objs.size<=c
 hd:X.calm=true->X.A.handled=none
 frames:X.A.frames=some X.stack
 stk:X.stack=X.outer\/(X.stack=X.env::X.outer/\X.env.frame=some X.env.locals)
 exf:∀b∈X.ex,b≠X.env.locals/\∀x c,X.env.cells.lookup x=some c->c≠b
 bs:∀b o,X.base.get? b=some o->X.s₀.heap.get? b=some o/\X.H₀ b=none
 bsz:X.base.objs.size<=X.s₀.heap.objs.size
 JK:∀b o,X.base.get? b=some o->b∉X.ex
 IV:∀b∈X.ex,b∉X.fs
 Gg:X.s₀.heap.FunFrames X.base X.outer
 frf:∀b∈X.fs,X.H₀ b=none
structure Inv (X:Cx) (jb:YC) (U : List (Option V)) (H:Hp) (s:Shared):Prop where
 ok:X.Ok
 os:s.os=X.s₀.os
 bare:AllBare s.gens
 base:Un X.fs X.ex X.H₀ H X.s₀.heap s.heap
 loc:∃m,s.heap.Ns X.env.locals m/\∀(i:Nat) (x:Str) (v:V),X.N[i]?=some x->U[i]?=some (some v)->Vis X.env.scope x->∃u,RelV v u/\Look X.env s.heap m x u
 cell:∀x c,X.env.cells.lookup x=some c->∃v,s.heap.IsCell c v
 free:H X.env.locals=none
 Fo:∀x c,X.env.cells.lookup x=some c->H c=none
 pin:∀p∈X.pn++jb,s.heap.get? p.1=some p.2/\H p.1=none/\p.1≠X.env.locals/\p.1∉X.fs/\∀v,p.2.data≠.cell v
 hok:HOk X.prog X.w H s.heap
 len:U.length=X.N.length
section
variable {X:Cx} {jb:YC} {U : List (Option V)} {H H':Hp} {s:Shared} {h':Heap}
theorem Cx.Ok.wG (ok:X.Ok) {b:Addr} {o:Obj} (e:X.base.get? b=some o):b∉X.fs:=λhb=>by
 have:=(ok.Gg.mem hb).1;rw[e] at this;cases this
theorem Inv.bs (I:Inv X jb U H s):∀b o,X.base.get? b=some o->s.heap.get? b=some o/\H b=none:=λb o e=>
 ⟨I.base.keep b o (I.ok.bs b o e).1 (I.ok.bs b o e).2 (I.ok.wG e) (I.ok.JK b o e),I.base.free b o (I.ok.bs b o e).1 (I.ok.bs b o e).2 (I.ok.JK b o e)⟩
theorem Inv.bk (I:Inv X jb U H s):∀b o,X.base.get? b=some o->s.heap.get? b=some o:=λb o e=>(I.bs b o e).1
theorem Inv.mod (I:Inv X jb U H s):Mod X.K X.mg X.base:=I.ok.mod
theorem Inv.kIn (I:Inv X jb U H s):X.K.In s.heap:=I.ok.mod.kin.keeps I.bk
theorem Inv.nolimit (I:Inv X jb U H s):s.heap.NoLimit:=I.ok.mod.nolimit.keeps I.bk
theorem Inv.fr (I:Inv X jb U H s):∃m,Fr X.base X.env.locals s.heap m:=
 let ⟨m,hn,_⟩:=I.loc
 ⟨m,hn,I.bk,Qca I.ok.bsz I.ok.above⟩
theorem Inv.lt (I:Inv X jb U H s):X.env.locals < s.heap.objs.size:=let ⟨_,hn,_⟩:=I.loc;hn.lt
theorem Inv.sz (I:Inv X jb U H s):X.s₀.heap.objs.size<=s.heap.objs.size:=Qca I.ok.above (Nat.le_of_lt I.lt)
theorem Inv.Z9 (I:Inv X jb U H s) {a:Addr} (h:s.heap.objs.size<=a):a∉X.fs:=λhb=>by
 obtain⟨_,o,ho,_⟩:=I.ok.Gg.mem hb;exact absurd (QaQ (QbZ ho) (Qca I.sz h)) (QbU _)
theorem Inv.cne (I:Inv X jb U H s):∀x c,X.env.cells.lookup x=some c->c≠X.env.locals:=λx c e z=>by
 obtain⟨v,o,ho,hd⟩:=I.cell x c e;obtain⟨m,⟨o',es,ep,ho',hd',_⟩,_⟩:=I.loc;rw[z,ho'] at ho;cases ho;rw[hd'] at hd;cases hd
theorem Inv.Gg (I:Inv X jb U H s):s.heap.FunFrames X.base X.outer:=by
 have all:∀(l:List Env),(∀b∈frs l,b∈X.fs)->X.s₀.heap.FunFrames X.base l->s.heap.FunFrames X.base l:=by
  intro l
  induction l with
  | nil=>intro _ _;trivial
  | cons env r ih=>
   intro hs hl;obtain⟨hk,⟨L,o,hf,hn,ho,hd⟩,hr⟩:=hl;have hL:L∈X.fs:=hs L (by unfold frs;rw[QaJ,hf];exact QaN);obtain⟨sl,e⟩:=I.base.slot L o ho (I.ok.frf L hL) hL λz=>I.ok.IV L z hL;exact⟨hk,⟨L,_,hf,hn,e,hd⟩,ih (λb hb=>hs b (by unfold frs;rw[QaJ,hf];exact QaB _ hb)) hr⟩
 exact all X.outer (λ_ hb=>hb) I.ok.Gg
theorem Inv.stack (I:Inv X jb U H s):s.heap.FunFrames X.base X.stack:=by
 rcases I.ok.stk with e |⟨e,hf⟩
 ·rw[e];exact I.Gg
 ·rw[e];obtain⟨m,hn,_⟩:=I.loc;refine .cons (by rw[I.ok.kind];decide) hf hn ?_ I.Gg;exact Heap.get?_none_of_le (Qca I.ok.bsz I.ok.above)
theorem Inv.Ox (I:Inv X jb U H s):∀b∈frs X.stack,b∈X.env.locals::X.fs:=λb hb=>by
 rcases I.ok.stk with e |⟨e,hf⟩
 ·rw[e] at hb;exact QaB _ hb
 ·rw[e] at hb;unfold frs at hb;rw[QaJ,hf] at hb;exact hb
theorem Inv.SM (I:Inv X jb U H s):∀b∈frs X.stack,H b=none:=λb hb=>by
 rcases QbP.mp (I.Ox b hb) with e | hb
 ·rw[e];exact I.free
 ·obtain⟨_,o,ho,_⟩:=I.ok.Gg.mem hb;exact I.base.free b o ho (I.ok.frf b hb) λz=>I.ok.IV b z hb
theorem Inv.step {g':Array GenState} {t':Nat} {d':Drawn} {ch:List Addr} (I:Inv X jb U H s)
  (hch:∀b∈ch,(b∈X.ex\/X.s₀.heap.objs.size<=b)/\b≠X.env.locals/\(∀x c,X.env.cells.lookup x=some c->c≠b)/\∀p∈X.pn++jb,p.1≠b)
  (keep:∀b o,b≠X.env.locals->b∉X.fs->b∉ch->s.heap.get? b=some o->H b=none->h'.get? b=some o)
  (slot:∀b o,b≠X.env.locals->b∈X.fs->b∉ch->s.heap.get? b=some o->H b=none->∃sl,h'.get? b=some { o with slots:=sl }) (free:∀b o,b∉ch->s.heap.get? b=some o->H b=none->H' b=none)
  (there:∀b o,b∉ch->s.heap.get? b=some o->∃o',h'.get? b=some o')
  (tups:∀b xs,H b=some (.tup xs)->H' b=some (.tup xs)) (G6:∀b o u,H b=some (.frz o u)->H' b=some (.frz o u)) (HW:∀b ps,H b=some (.tbl ps)->∃more,H' b=some (.tbl (ps++more)))
  (ns:∀m,s.heap.Ns X.env.locals m->h'.Ns X.env.locals m) (hok:HOk X.prog X.w H' h') (hg:AllBare g') :
  Inv X jb U H' { s with heap:=h',gens:=g',drawn:=d',toks:=t' }:=by
 have neL:∀b o,X.s₀.heap.get? b=some o->b≠X.env.locals:=λb o e=>Qcb (QaQ (QbZ e) I.ok.above);have neC:∀b o,X.s₀.heap.get? b=some o->b∉X.ex->b∉ch:=λb o e hx hb=>by
  rcases (hch b hb).1 with z | z
  ·exact hx z
  ·exact absurd (QaQ (QbZ e) z) (QbU _)
 have cellK:∀x c,X.env.cells.lookup x=some c->∀v,s.heap.IsCell c v->h'.IsCell c v:=λx c e v ⟨o,ho,hd⟩=>by
  have nch:c∉ch:=λz=>(hch c z).2.2.1 x c e rfl;by_cases hc:c∈X.fs
  ·obtain⟨sl,q⟩:=slot c o (I.cne x c e) hc nch ho (I.Fo x c e);exact⟨_,q,hd⟩
  ·exact⟨o,keep c o (I.cne x c e) hc nch ho (I.Fo x c e),hd⟩
 refine⟨I.ok,I.os,hg,⟨λb o e n hb hx=>?_,λb o e n hb hx=>?_,λb o e n hx=>?_,λb o e hx=>?_,λb xs e=>tups b xs (I.base.tups b xs e),λb o xs e=>G6 b o xs (I.base.G6 b o xs e),λb ps e=>?_⟩,?_,λx c e=>?_,?_,λx c e=>?_,λp hp=>?_,hok,I.len⟩
 ·exact keep b o (neL b o e) hb (neC b o e hx) (I.base.keep b o e n hb hx) (I.base.free b o e n hx)
 ·obtain⟨sl,e1⟩:=I.base.slot b o e n hb hx;obtain⟨sl',e2⟩:=slot b _ (neL b o e) hb (neC b o e hx) e1 (I.base.free b o e n hx);exact⟨sl',e2⟩
 ·obtain⟨o',e1⟩:=I.base.there b o e hx;exact free b o' (neC b o e hx) e1 (I.base.free b o e n hx)
 ·obtain⟨o',e1⟩:=I.base.there b o e hx;exact there b o' (neC b o e hx) e1
 ·obtain⟨m1,e1⟩:=I.base.HW b ps e;obtain⟨m2,e2⟩:=HW b _ e1;exact⟨m1++m2,by rw[e2,Array.append_assoc]⟩
 ·obtain⟨m,hn,hl⟩:=I.loc;refine⟨m,ns m hn,λi x v e1 e2 e3=>?_⟩;obtain⟨u,r,l⟩:=hl i x v e1 e2 e3;refine⟨u,r,?_⟩;rcases l with l |⟨k,c,e,z⟩
  ·exact .inl l
  ·exact .inr ⟨k,c,e,cellK x c e _ z⟩
 ·obtain⟨v,z⟩:=I.cell x c e;exact⟨v,cellK x c e v z⟩
 ·obtain⟨m,⟨o,_,_,ho,_⟩,_⟩:=I.loc;exact free _ o (λz=>(hch _ z).2.1 rfl) ho I.free
 ·obtain⟨v,o,ho,hd⟩:=I.cell x c e;exact free c o (λz=>(hch c z).2.2.1 x c e rfl) ho (I.Fo x c e)
 ·obtain⟨e,n,ne,nf,d⟩:=I.pin p hp;have nch:p.1∉ch:=λz=>(hch p.1 z).2.2.2 p hp rfl;exact⟨keep p.1 p.2 ne nf nch e n,free p.1 p.2 nch e n,ne,nf,d⟩
theorem Inv.un {t':Nat} (I:Inv X jb U H s) (u:Un X.fs [] H H' s.heap h') (hok:HOk X.prog X.w H' h'):Inv X jb U H' { s with heap:=h',toks:=t' }:=by
 obtain⟨m,⟨o,es,ep,ho,r⟩,_⟩:=id I.loc;obtain⟨sl,hL⟩:=u.any ho I.free (by simp);exact I.step (g':=s.gens) (d':=s.drawn) (ch:=[]) (λ_ z=>nomatch z) (λb o _ hb _ e n=>u.keep b o e n hb (by simp)) (λb o _ hb _ e n=>u.slot b o e n hb (by simp)) (λb o _ e n=>u.free b o e n (by simp)) (λb o _ e=>u.there b o e (by simp)) u.tups u.G6 u.HW (λm' hm=>by
  obtain⟨o',es',ep',ho',r'⟩:=hm;rw[ho] at ho';cases ho';exact⟨_,es',ep',hL,r'⟩) hok I.bare
theorem Inv.call {g':Array GenState} {t':Nat} {d':Drawn} {ch:List Addr} (I:Inv X jb U H s) (u:Un (frs X.stack) ch H H' s.heap h') (hok:HOk X.prog X.w H' h') (hg:AllBare g')
  (hch:∀b∈ch,(b∈X.ex\/X.s₀.heap.objs.size<=b)/\b≠X.env.locals/\(∀x c,X.env.cells.lookup x=some c->c≠b)/\∀p∈X.pn++jb,p.1≠b) :
  Inv X jb U H' { s with heap:=h',gens:=g',drawn:=d',toks:=t' }:=by
 obtain⟨m,⟨o,es,ep,ho,r⟩,_⟩:=id I.loc;obtain⟨sl,hL⟩:=u.any ho I.free λz=>(hch _ z).2.1 rfl;exact I.step (ch:=ch) hch (λb o hL hb hc e n=>u.keep b o e n (λz=>(QbP.mp (I.Ox b z)).elim hL hb) hc) (λb o _ _ hc e n=>u.any e n hc) (λb o hc e n=>u.free b o e n hc) (λb o hc e=>u.there b o e hc) u.tups u.G6 u.HW (λm' hm=>by
  obtain⟨o',es',ep',ho',r'⟩:=hm;rw[ho] at ho';cases ho';exact⟨_,es',ep',hL,r'⟩) hok hg
theorem Inv.turned {t':Nat} {it:Addr} (I:Inv X jb U H s) (k:∀b o,b≠it->s.heap.get? b=some o->h'.get? b=some o) (hn:H it=none) (hL:it≠X.env.locals)
  (h1:it∈X.ex\/X.s₀.heap.objs.size<=it) (h2:∀x c,X.env.cells.lookup x=some c->c≠it) (h3:∀p∈X.pn++jb,p.1≠it):Inv X jb U H { s with heap:=h',toks:=t' }:=by
 have nit:∀b u,H b=some u->b≠it:=λb u e z=>by rw[z,hn] at e;cases e
 refine I.step (g':=s.gens) (d':=s.drawn) (ch:=[it]) (λb hb=>?_) (λb o _ _ hc e _=>k b o (λz=>hc (by simp[z])) e) (λb o _ _ hc e _=>⟨o.slots,k b o (λz=>hc (by simp[z])) e⟩) (λ_ _ _ _ n=>n)
  (λb o hc e=>⟨o,k b o (λz=>hc (by simp[z])) e⟩) (λ_ _ e=>e) (λ_ _ _ e=>e) (λb ps e=>⟨#[],by rw[e];simp⟩) (λm hm=>?_) (λb u e=>?_) I.bare
 ·have e:b=it:=by simpa using hb
  subst e;exact⟨h1,hL,h2,h3⟩
 ·obtain⟨o,es,ep,ho,r⟩:=hm;exact⟨o,es,ep,k _ o (Ne.symm hL) ho,r⟩
 ·refine (I.hok b u e).stay (λc v hc q=>k c v ?_ q) (λ_ q=>q) λ_ _ q=>q;rcases hc with z | z
  ·rw[z];exact nit b u e
  ·exact nit c _ z
theorem Inv.tok (I:Inv X jb U H s) (t:Nat):Inv X jb U H { s with toks:=t }:=I.un (h':=s.heap) (t':=t) Un.refl I.hok
theorem Inv.kept {t':Nat} (I:Inv X jb U H s) (k:∀b u,s.heap.get? b=some u->h'.get? b=some u):Inv X jb U H { s with heap:=h',toks:=t' }:=I.un (Un.kept k) (I.hok.kept k)
theorem Inv.laid {a:Addr} {o:HO} {t':Nat} (I:Inv X jb U H s) (k:∀b u,s.heap.get? b=some u->h'.get? b=some u) (hp:s.heap.objs.size<=a) (new:CQ X.prog X.w (upd H a o) h' a o) :
  Inv X jb U (upd H a o) { s with heap:=h',toks:=t' }:=I.un (Un.laid k hp (I.hok.fresh hp)) (I.hok.laid k hp new)
theorem Inv.write {x e:Addr} {o:HO} {t':Nat} (I:Inv X jb U H s) (mu:Mut (H x)) (he:e=x\/H e=some (.own x)) (k:∀b u,b≠e->s.heap.get? b=some u->h'.get? b=some u) (heo:∃u,h'.get? e=some u)
  (new:CQ X.prog X.w (upd H x o) h' x o):Inv X jb U (upd H x o) { s with heap:=h',toks:=t' }:=I.un (Un.write mu he k heo) (I.hok.write mu he k heo new)
theorem Inv.M8 {FT:YC} (I:Inv X jb U H s) (h:∀p∈FT,s.heap.get? p.1=some p.2/\H p.1=none/\p.1≠X.env.locals/\p.1∉X.fs/\∀v,p.2.data≠.cell v):Inv X FT U H s:=
 ⟨I.ok,I.os,I.bare,I.base,I.loc,I.cell,I.free,I.Fo,λp hp=>(Qby.mp hp).elim (λz=>I.pin p (QaD _ z)) (h p),I.hok,I.len⟩
theorem Q6 {N:YF} (hN:N.Nodup) {i j:Nat} {x:Str} (a:N[i]?=some x) (b:N[j]?=some x):i=j:=by
 obtain⟨h1,e1⟩:=Qaj.mp a;obtain⟨h2,e2⟩:=Qaj.mp b;exact (List.getElem_inj hN).mp (e1.trans e2.symm)
theorem bQ {M:Model} {A:Around} {E:YA} {i:Nat} {x:Str} {v:V} {u:Value} {Q:YH} (I:Inv X jb U H s) (hN:X.N.Nodup) (hi:X.N[i]?=some x) (hx:Loc X.env.scope x) (r:RelV v u)
  (h:∀s',Inv X jb (U.set i (some v)) H s'->(∃a,Heap.SameBut a s.heap s'.heap/\(a=X.env.locals\/X.env.cells.lookup x=some a))->Q () s') (hf:X.fn x=true\/X.env.scope.names.lookup x=some .local:=by first | exact .inl rfl | exact .inr rfl | assumption):wpAny M A (storeName X.env x u) Q E s:=by
 obtain⟨m,hn,hl⟩:=id I.loc;have hcls:(X.env.scope.kind == .class || (X.env.scope.kind == .module&&X.env.locals != X.env.globals))=false:=by rw[I.ok.kind];rfl
 have hiσ : i < U.length:=by rw[I.len];exact (Qaj.mp hi).1
 have cne:=I.cne;have tracked:∀{a:Addr} {h':Heap},(∃o,s.heap.get? a=some o/\H a=none)->Heap.SameBut a s.heap h'->HOk X.prog X.w H h':=λ{a h'} ha hs b ob e=>by
  obtain⟨_,_,hfree⟩:=ha;refine (I.hok b ob e).stay (λc w' hc q=>(hs.2 c ?_).trans q) (λ_ q=>q) λ_ _ q=>q;rintro rfl;rcases hc with rfl | hc
  ·rw[hfree] at e;cases e
  ·rw[hfree] at hc;cases hc
 rcases hx with hk | hk
 ·refine wpAny_storeName_local hk hn (λh' hn' hs=>?_) hcls;obtain⟨oL,_,_,hoL,_⟩:=id hn;refine h _ ⟨I.ok,I.os,I.bare,⟨λb o e n hb hx=>?_,λb o e n hb hx=>?_,I.base.free,λb o e hx=>?_,I.base.tups,I.base.G6,I.base.HW⟩,⟨_,hn',λj y v' e1 e2 e3=>?_⟩,λy c e=>?_,I.free,I.Fo,λp hp=>?_,tracked ⟨oL,hoL,I.free⟩ hs,by simpa using I.len⟩ ⟨_,hs,.inl rfl⟩
  ·exact (hs.2 b (Qcb (QaQ (QbZ e) I.ok.above))).trans (I.base.keep b o e n hb hx)
  ·obtain⟨sl,e1⟩:=I.base.slot b o e n hb hx;exact⟨sl,(hs.2 b (Qcb (QaQ (QbZ e) I.ok.above))).trans e1⟩
  ·obtain⟨o',e1⟩:=I.base.there b o e hx;exact⟨o',(hs.2 b (Qcb (QaQ (QbZ e) I.ok.above))).trans e1⟩
  ·by_cases hj:j=i
   ·subst hj;rw[hi] at e1;cases e1;rw[List.getElem?_set_self hiσ] at e2;cases e2;exact⟨u,r,.inl ⟨hk,by simp⟩⟩
   ·rw[List.getElem?_set_ne (Ne.symm hj)] at e2;obtain⟨u',r',q⟩:=hl j y v' e1 e2 e3;refine⟨u',r',?_⟩;rcases q with⟨k,e⟩|⟨k,c,e,z⟩
    ·refine .inl ⟨k,?_⟩;have:y≠x:=λe=>hj (Q6 hN e1 (e ▸ hi));simp[this,e]
    ·exact .inr ⟨k,c,e,z.sameBut hs (cne y c e)⟩
  ·obtain⟨w',z⟩:=I.cell y c e;exact⟨w',z.sameBut hs (cne y c e)⟩
  ·obtain⟨e,n,ne,nf,d⟩:=I.pin p hp;exact⟨(hs.2 p.1 ne).trans e,n,ne,nf,d⟩
 ·have hfn:X.fn x=true:=by
   rcases hf with z | z
   ·exact z
   ·rw[z] at hk;cases hk
  obtain⟨c,hc⟩:=I.ok.has x (.inl hk);obtain⟨w',z⟩:=I.cell x c hc;refine wpAny_storeName_cell I.ok.kind hk hc z (λh' hc' hs=>?_);obtain⟨oc,hoc,yU⟩:=id z;refine h { s with heap:=h' } ⟨I.ok,I.os,I.bare,⟨λb o e n hb hx=>?_,λb o e n hb hx=>?_,I.base.free,λb o e hx=>?_,I.base.tups,I.base.G6,I.base.HW⟩,⟨m,hn.sameBut hs (Ne.symm (cne x c hc)),λj y v' e1 e2 e3=>?_⟩,λy c' e=>?_,I.free,I.Fo,λp hp=>?_,tracked ⟨oc,hoc,I.Fo x c hc⟩ hs,by simpa using I.len⟩ ⟨c,hs,.inr hc⟩
  ·exact (hs.2 b (Qcb (QaQ (QbZ e) (I.ok.cab x c hfn hc)))).trans (I.base.keep b o e n hb hx)
  ·obtain⟨sl,e1⟩:=I.base.slot b o e n hb hx;exact⟨sl,(hs.2 b (Qcb (QaQ (QbZ e) (I.ok.cab x c hfn hc)))).trans e1⟩
  ·obtain⟨o',e1⟩:=I.base.there b o e hx;exact⟨o',(hs.2 b (Qcb (QaQ (QbZ e) (I.ok.cab x c hfn hc)))).trans e1⟩
  ·by_cases hj:j=i
   ·subst hj;rw[hi] at e1;cases e1;rw[List.getElem?_set_self hiσ] at e2;cases e2;exact⟨u,r,.inr ⟨.inl hk,c,hc,hc'⟩⟩
   ·rw[List.getElem?_set_ne (Ne.symm hj)] at e2;obtain⟨u',r',q⟩:=hl j y v' e1 e2 e3;refine⟨u',r',?_⟩;rcases q with q |⟨k,c',e,z'⟩
    ·exact .inl q
    ·refine .inr ⟨k,c',e,z'.sameBut hs ?_⟩;rintro rfl;exact hj (Q6 hN e1 (I.ok.inj _ _ _ e hc ▸ hi))
  ·by_cases hcc:c'=c
   ·subst hcc;exact⟨_,hc'⟩
   ·obtain⟨w2,z2⟩:=I.cell y c' e;exact⟨w2,z2.sameBut hs hcc⟩
  ·obtain⟨e,n,ne,nf,d⟩:=I.pin p hp;refine⟨(hs.2 p.1 ?_).trans e,n,ne,nf,d⟩;intro q;rw[q,hoc] at e;have q':oc=p.2:=QbA e;exact d w' (by rw[<-q'];exact yU)
theorem Hh {M:Model} {A:Around} {E:YA} {i:Nat} {x:Str} {v:V} {u:Value} {Q:YH} (I:Inv X jb U H s) (hN:X.N.Nodup) (hi:X.N[i]?=some x) (hx:Loc X.env.scope x) (r:RelV v u)
  (h:∀s',Inv X jb (U.set i (some v)) H s'->Q () s') (hf:X.fn x=true\/X.env.scope.names.lookup x=some .local:=by first | exact .inl rfl | exact .inr rfl | assumption):wpAny M A (storeName X.env x u) Q E s:=
 bQ I hN hi hx r (λs' I' _=>h s' I') hf
theorem Inv.call' {s':Shared} {ch:List Addr} (I:Inv X jb U H s) (ho:s'.os=s.os) (u:Un (frs X.stack) ch H H' s.heap s'.heap) (hok:HOk X.prog X.w H' s'.heap) (hg:AllBare s'.gens)
  (hch:∀b∈ch,(b∈X.ex\/X.s₀.heap.objs.size<=b)/\b≠X.env.locals/\(∀x c,X.env.cells.lookup x=some c->c≠b)/\∀p∈X.pn++jb,p.1≠b):Inv X jb U H' s':=by
 obtain⟨h',g',d',t',o'⟩:=s';have e:o'=s.os:=ho;subst e;exact I.call (g':=g') (t':=t') (d':=d') u hok hg hch
end
abbrev XK:=Value->Option Addr->Hp->Prop
abbrev St:=List (Option V)
abbrev VK:=V->Hp->Prop
abbrev TE:=St->Hp->VK->Prop
abbrev TT:=St->Hp->(Bool->Hp->Prop)->Prop
abbrev TA:=St->Hp->(YG->Hp->Prop)->Prop
structure Ends where
 nx:St->Hp->Prop
 rt:VK
 bk:St->Hp->Prop:=λ_ _=>False
 ct:St->Hp->Prop:=λ_ _=>False
abbrev YO:=St->Hp->Prop
abbrev TS:=Ends->YO
def EP (X:Cx) (jb:YC) (U : St) (Q:VK) (u:Value) (s':Shared):Prop:=∃v H',Inv X jb U H' s'/\RelV v u/\Q v H'
def TP (X:Cx) (jb:YC) (U : St) (Q:Bool->Hp->Prop) (b:Bool) (s':Shared):Prop:=∃H',Inv X jb U H' s'/\Q b H'
def AP (X:Cx) (jb:YC) (U : St) (Q:YG->Hp->Prop) (us:YE) (s':Shared):Prop:=∃vs H',Inv X jb U H' s'/\Vals vs us/\Q vs H'
def SP (X:Cx) (jb:YC) (D:Ends) (f:Flow) (s':Shared):Prop:=
 match f with
 | .next=>∃ σ' H',Inv X jb σ' H' s'/\D.nx σ' H'
 | .brk=>∃ σ' H',Inv X jb σ' H' s'/\D.bk σ' H'
 | .cont=>∃ σ' H',Inv X jb σ' H' s'/\D.ct σ' H'
 | .ret u=>∃v σ' H',Inv X jb σ' H' s'/\RelV v u/\D.rt v H'
def PE (X:Cx) (e:Expr) (t:TE):Prop:=
 ∀(jb:YC) (s:Shared) (U : St) (H:Hp) (Q:VK),Inv X jb U H s->t U H Q->wpAny (model X.prog X.w) X.A (eval e X.env) (EP X jb U Q) X.xe s
def PT (X:Cx) (e:Expr) (t:TT):Prop:=
 ∀(jb:YC) (s:Shared) (U : St) (H:Hp) (Q:Bool->Hp->Prop),Inv X jb U H s->t U H Q->wpAny (model X.prog X.w) X.A (isTrue e X.env (eval e X.env)) (TP X jb U Q) X.xe s
def PW (X:Cx) (e:Expr) (t:TT):Prop:=
 ∀(whole:Sem Value) (jb:YC) (s:Shared) (U : St) (H:Hp) (Q:Bool->Hp->Prop),Inv X jb U H s->t U H Q->wpAny (model X.prog X.w) X.A (isTrue e X.env whole) (TP X jb U Q) X.xe s
theorem PW.pt {X:Cx} {e:Expr} {t:TT} (h:PW X e t):PT X e t:=h _
def PA (X:Cx) (es:YJ) (t:TA):Prop:=
 ∀(pos:Pos) (jb:YC) (s:Shared) (U : St) (H:Hp) (Q:YG->Hp->Prop),Inv X jb U H s->t U H Q->wpAny (model X.prog X.w) X.A (spliced (backTo pos (starEach es X.env))) (AP X jb U Q) X.xe s
def PS (X:Cx) (st:Stmt) (t:TS):Prop:=
 ∀(jb:YC) (s:Shared) (U : St) (H:Hp) (D:Ends),Inv X jb U H s->t D U H->wpAny (model X.prog X.w) X.A (exec st X.env) (SP X jb D) X.xe s
def PSs (X:Cx) (st:List Stmt) (t:TS):Prop:=
 ∀(jb:YC) (s:Shared) (U : St) (H:Hp) (D:Ends),Inv X jb U H s->t D U H->wpAny (model X.prog X.w) X.A (execs st X.env) (SP X jb D) X.xe s
theorem thn {α : Type} {t:Sem α} {Q Q':α->Shared->Prop} {M:Model} {A:Around} {E:YA} {s:Shared} (h:wpAny M A t Q E s) (hQ:∀a s,Q a s->Q' a s):wpAny M A t Q' E s:=Qcl h hQ λ_ _ x=>x
section
variable {X:Cx}
theorem bin {a b:Expr} {ta tb:TE} (ha:PE X a ta) (hb:PE X b tb) {jb:YC} {s:Shared} {U : St} {H:Hp} {R:V->V->Hp->Prop} (I:Inv X jb U H s) (h:ta U H λx H1=>tb U H1 λy H2=>R x y H2)
  {α : Type} {Q:α->Shared->Prop} {f:Value->Value->Sem α}
  (hf:∀v u s2 x y H2,Inv X jb U H2 s2->RelV x v->RelV y u->R x y H2->wpAny (model X.prog X.w) X.A (f v u) Q X.xe s2) :
  wpAny (model X.prog X.w) X.A (eval a X.env) (λv s₁=>wpAny (model X.prog X.w) X.A (eval b X.env) (λu s₂=>wpAny (model X.prog X.w) X.A (f v u) Q X.xe s₂) X.xe s₁) X.xe s:=by
 refine thn (ha jb s U H _ I h) λv s1 zz=>?_;obtain⟨x,H1,I1,r1,q1⟩:=zz;refine thn (hb jb s1 U H1 _ I1 q1) λu s2 zz=>?_;obtain⟨y,H2,I2,r2,q2⟩:=zz;exact hf v u s2 x y H2 I2 r1 r2 q2
def qd (i:Nat):TE:=fun U H Q=>∃v,U[i]?=some (some v)/\Q v H
def tC (v:V):TE:=λ_ H Q=>Q v H
theorem qO {i:Nat} {x:Str} {pos:Pos} (hN:X.N[i]?=some x) (hv:Vis X.env.scope x) (hd:(x == ("__debug__":Str))=false:=by decide) (hcd:(x == ("__classdict__":Str))=false:=by decide):PE X (.Name x pos) (qd i):=by
 intro jb s U H Q I h;obtain⟨v,e,h⟩:=h;obtain⟨m,hn,hl⟩:=I.loc;obtain⟨u,r,l⟩:=hl i x v hN e hv;have fin:EP X jb U Q u s:=⟨v,H,I,r,h⟩;rcases l with⟨hk,hm⟩|⟨hk,c,hc,hcell⟩
 ·exact wpAny_Name (wpAny_loadName_local I.ok.kind hk hn hm fin) hd
 ·rcases hk with hk | hk
  ·exact wpAny_Name (wpAny_loadName_cell I.ok.kind hk hc hcell fin) hd
  ·exact wpAny_Name (wpAny_loadName_free I.ok.kind hk hc hcell fin hcd) hd
theorem Ac {i j pos}:PE X (.Constant (.int i) j pos) (tC (.int i)):=λ_ _ _ H _ I h=>wpAny_Constant_int ⟨.int i,H,I.tok _,⟨_,rfl⟩,h⟩
theorem Eu {b j pos}:PE X (.Constant (.bool b) j pos) (tC (.bl b)):=λ_ _ _ H _ I h=>Constant_bool ⟨.bl b,H,I,rfl,h⟩
theorem Wm {j pos}:PE X (.Constant .none j pos) (tC .non):=λ_ _ _ H _ I h=>Constant_none ⟨.non,H,I,rfl,h⟩
theorem Af {x j pos}:PE X (.Constant (.str x) j pos) (tC (.str x)):=λ_ _ _ H _ I h=>Calls.Constant_str ⟨.str x,H,I.tok _,⟨_,rfl⟩,h⟩
def Gl (X:Cx) (x:Str):Prop:=X.env.kindOf x=some .globalImplicit
theorem K3 {E:YA} {jb:YC} {s:Shared} {U : St} {H:Hp} {x:Str} {u:Value} {pos:Pos} {Q:YA} (I:Inv X jb U H s) (hg:Gl X x) (hm:X.mg x=some u) (h:Q u s)
  (hd:(x == ("__debug__":Str))=false:=by decide):wpAny (model X.prog X.w) X.A (eval (.Name x pos) X.env) Q E s:=
 Calls.Name_function_global I.ok.kind hg (Calls.loadGlobal_global (by rw[I.ok.glob];exact I.mod.glob.keeps I.bk) hm h) hd
theorem Ni {E:YA} {jb:YC} {s:Shared} {U : St} {H:Hp} {x:Str} {u:Value} {pos:Pos} {Q:YA} (I:Inv X jb U H s) (hg:Gl X x) (hm:X.mg x=none) (hv:bootBuiltins x=some u) (h:Q u s)
  (hn:x≠"__name__":=by decide) (hd:(x == ("__debug__":Str))=false:=by decide):wpAny (model X.prog X.w) X.A (eval (.Name x pos) X.env) Q E s:=by
 obtain⟨mb,h1,h2⟩:=I.mod.blt;exact Calls.Name_function_global I.ok.kind hg (Calls.loadGlobal_builtin (by rw[I.ok.glob];exact I.mod.glob.keeps I.bk) hm (by rw[I.ok.blt];exact h1.keeps I.bk) ((h2 x hn).trans hv) h) hd
theorem Et {x:Str} {v:V} {u:Value} {pos:Pos} (hg:Gl X x) (hm:X.mg x=some u) (r:RelV v u) (hd:(x == ("__debug__":Str))=false:=by decide):PE X (.Name x pos) (tC v):=
 λ_ _ _ H _ I h=>K3 I hg hm ⟨v,H,I,r,h⟩ hd
theorem Ef {x:Str} {v:V} {u:Value} {pos:Pos} (hg:Gl X x) (hm:X.mg x=none) (hv:bootBuiltins x=some u) (r:RelV v u) (hn:x≠"__name__":=by decide) (hd:(x == ("__debug__":Str))=false:=by decide):PE X (.Name x pos) (tC v):=
 λ_ _ _ H _ I h=>Ni I hg hm hv ⟨v,H,I,r,h⟩ hn hd
variable {a b:Expr} {ta tb:TE} {pos:Pos}
def PC (X:Cx) (op:CmpOp) (a b:Expr) (t:TE):Prop:=
 ∀(jb:YC) (s:Shared) (U : St) (H:Hp) (Q:VK),Inv X jb U H s->t U H Q ->
  wpAny (model X.prog X.w) X.A (eval a X.env) (λv s₁=>wpAny (model X.prog X.w) X.A (eval b X.env) (λu s₂=>wpAny (model X.prog X.w) X.A (compareOp op v u) (EP X jb U Q) X.xe s₂) X.xe s₁) X.xe s
theorem iK (b:Expr) {op:CmpOp} (h:op≠.In) (h2:op≠.NotIn):behindInMarks op b=false:=by
 have e1:(op == CmpOp.In)=false:=by cases op <;> first | rfl | exact absurd rfl h
 have e2:(op == CmpOp.NotIn)=false:=by cases op <;> first | rfl | exact absurd rfl h2
 cases b <;> simp[behindInMarks,e1,e2]
def tB (t:TE):TT:=fun U H Q=>t U H λx H1=>∃c,x=.bl c/\Q c H1
theorem cG {op:CmpOp} {t:TE} (h:PC X op a b t) (h1:behindInMarks op b=false:=by first | exact iK _ (by decide) (by decide) | rfl):PT X (.Compare a [op] [b] pos) (tB t):=by
 intro jb s U H Q I hw;refine wpAny_isTrue_Compare1 (thn (h jb s U H _ I hw) λv s1 h1=>thn h1 λu s2 h2=>thn h2 λc s3 zz=>?_) h1;obtain⟨x,H1,I1,r1,q1⟩:=zz;obtain⟨d,rfl,q⟩:=q1;cases r1;exact Qbf ⟨H1,I1,q⟩
theorem Ci {e:Expr} {t:TE} (h:PE X e t) (he:∀whole,isTrue e X.env whole=(do let v <-whole;standAt e.pos;holding [v] (truthy v)):=by intro _;rfl):PT X e (tB t):=by
 intro jb s U H Q I hw;refine isTrue_plain (thn (h jb s U H _ I hw) λv s1 zz=>?_) (he _);obtain⟨x,H1,I1,r1,q1⟩:=zz;obtain⟨d,rfl,q⟩:=q1;cases r1;exact Qbf ⟨H1,I1,q⟩
variable {tA tB':TT} {rest:YJ}
def wj (t u:TT):TT:=fun U H Q=>t U H λc H1=>if c=true then u U H1 Q else Q false H1
def tOr (t u:TT):TT:=fun U H Q=>t U H λc H1=>if c=true then Q true H1 else u U H1 Q
def vY (t:TT):TT:=fun U H Q=>t U H λc H1=>Q (!c) H1
theorem GZ (ha:PT X a tA):PW X (.BoolOp .And [a] pos) tA:=by
 intro wh jb s U H Q I h;refine isTrue_and (thn (ha jb s U H Q I h) λc s1 e=>?_);cases c with
 | true=>exact isTrue_and_nil e
 | false=>exact e
theorem DQ (ha:PT X a tA):PW X (.BoolOp .Or [a] pos) tA:=by
 intro wh jb s U H Q I h;refine isTrue_or (thn (ha jb s U H Q I h) λc s1 e=>?_);cases c with
 | false=>exact isTrue_or_nil e
 | true=>exact e
theorem Ig (ha:PT X a tA) (hb:PW X (.BoolOp .And (b::rest) pos) tB'):PW X (.BoolOp .And (a::b::rest) pos) (wj tA tB'):=by
 intro wh jb s U H Q I h;refine isTrue_and (thn (ha jb s U H _ I h) λc s1 zz=>?_);obtain⟨H1,I1,q1⟩:=zz;cases c with
 | true=>exact hb wh jb s1 U H1 Q I1 q1
 | false=>exact⟨H1,I1,q1⟩
theorem DR (ha:PT X a tA) (hb:PW X (.BoolOp .Or (b::rest) pos) tB'):PW X (.BoolOp .Or (a::b::rest) pos) (tOr tA tB'):=by
 intro wh jb s U H Q I h;refine isTrue_or (thn (ha jb s U H _ I h) λc s1 zz=>?_);obtain⟨H1,I1,q1⟩:=zz;cases c with
 | true=>exact⟨H1,I1,q1⟩
 | false=>exact hb wh jb s1 U H1 Q I1 q1
theorem Cw (ha:PT X a tA):PT X (.UnaryOp .Not a pos) (vY tA):=by
 intro jb s U H Q I h;exact isTrue_not (ha jb s U H (λc H1=>Q (!c) H1) I h)
def uL (ta tb:TE):TE:=fun U H Q=>ta U H λx H1=>∃c,x=.bl c/\if c=true then tb U H1 Q else Q (.bl false) H1
def uG (ta:TE):TE:=fun U H Q=>ta U H λx H1=>∃c,x=.bl c/\Q (.bl (!c)) H1
theorem Gk {op} {t:TE} (h:PE X a t):PE X (.BoolOp op [a] pos) t:=λjb s U H Q I hw=>BoolOp_one (h jb s U H Q I hw)
theorem Fg (ha:PE X a ta) (hb:PE X (.BoolOp .And (b::rest) pos) tb):PE X (.BoolOp .And (a::b::rest) pos) (uL ta tb):=by
 intro jb s U H Q I h;refine BoolOp_and (thn (ha jb s U H _ I h) λv s1 zz=>?_);obtain⟨x,H1,I1,r1,q1⟩:=zz;obtain⟨c,rfl,q1⟩:=q1;cases r1;refine Qbf ?_;cases c with
 | true=>exact hb jb s1 U H1 Q I1 q1
 | false=>exact⟨.bl false,H1,I1,rfl,q1⟩
theorem cM (ha:PE X a ta):PE X (.UnaryOp .Not a pos) (uG ta):=by
 intro jb s U H Q I h;refine UnaryOp_ (thn (ha jb s U H _ I h) λv s1 zz=>?_);obtain⟨x,H1,I1,r1,q1⟩:=zz;obtain⟨c,rfl,q1⟩:=q1;cases r1;exact not_of (Qbf ⟨.bl (!c),H1,I1,rq,q1⟩)
def tIf (t:TT) (ta tb:TE):TE:=fun U H Q=>t U H λc H1=>if c=true then ta U H1 Q else tb U H1 Q
theorem Q5 {c:Expr} (hc:PT X c tA) (ha:PE X a ta) (hb:PE X b tb):PE X (.IfExp c a b pos) (tIf tA ta tb):=by
 intro jb s U H Q I h;refine wpAny_IfExp (thn (hc jb s U H _ I h) λd s1 zz=>?_);obtain⟨H1,I1,q1⟩:=zz;cases d with
 | true=>exact ha jb s1 U H1 Q I1 q1
 | false=>exact hb jb s1 U H1 Q I1 q1
end
def SqL (K:YD) (H:Hp) (a:Addr) (xs:YG):Prop:=
 Rd H a (.lst xs) \/
  ∃(o:Obj) (its:Array Value) (n:Nat),K.lookup a=some o/\o.cls=.type "list"/\o.dict=none/\o.data=.seq its n/\its.size<=sizeLine/\Vals xs its.toList
def SqT (K:YD) (H:Hp) (a:Addr) (xs:YG):Prop:=
 Rd H a (.tup xs) \/
  ∃(o:Obj) (its:Array Value) (n:Nat),K.lookup a=some o/\o.cls=.type "tuple"/\o.data=.seq its n/\its.size<=sizeLine/\Vals xs its.toList
def BS:Value->Option V
 | .none=>some .non
 | .bool b=>some (.bl b)
 | .int i _=>some (.int i)
 | .str x _=>some (.str x)
 | .bytes b _=>some (.byt b)
 | .float b _=>some (.flt b)
 | .ref a=>some (.ref a)
 | .type n=>some (.ty n)
 | _=>none
theorem RelV.abs {x:V} {u:Value} (r:RelV x u):BS u=some x:=by
 cases x with
 | non=>cases r;rfl
 | bl _=>cases r;rfl
 | int _=>obtain⟨t,rfl⟩:=r;rfl
 | str _=>obtain⟨t,rfl⟩:=r;rfl
 | byt _=>obtain⟨t,rfl⟩:=r;rfl
 | flt _=>obtain⟨t,rfl⟩:=r;rfl
 | ref _=>cases r;rfl
 | ty _=>cases r;rfl
theorem RelV.inj {x y:V} {u:Value} (r:RelV x u) (q:RelV y u):x=y:=QbA (r.abs.symm.trans q.abs)
theorem Vals.inj:∀{xs ys:YG} {us:YE},Vals xs us->Vals ys us->xs=ys
 | _,_,_,.nil,.nil=>rfl
 | _,_,_,.cons r t,.cons r' t'=>by rw[r.inj r',Vals.inj t t']
section
variable {X:Cx} {jb:YC} {U : St} {H:Hp} {s:Shared} {a:Addr} {xs ys:YG}
theorem SqL.of {K:YD} (h:H a=some (.lst xs)):SqL K H a xs:=.inl (.inl h)
theorem SqT.of {K:YD} (h:H a=some (.tup xs)):SqT K H a xs:=.inl (.inl h)
theorem Inv.list (I:Inv X jb U H s) (h:SqL X.K H a xs):∃its:YE,Vals xs its/\PlainL s.heap a its.toArray/\xs.length<=sizeLine:=by
 rcases h with h |⟨o,its,n,hk,hc,hd,hs,hz,r⟩
 ·obtain⟨z,its,n,r,e⟩:=h.ok I.hok;exact⟨its,r,⟨_,n,e,rq,rq,rq⟩,z⟩
 ·refine⟨its.toList,r,⟨o,n,I.kIn a o hk,hc,hd,by simpa using hs⟩,?_⟩;have e:=r.length;simp only[QaH] at e;omega
theorem Inv.tuple (I:Inv X jb U H s) (h:SqT X.K H a xs):∃its:YE,Vals xs its/\IsTup s.heap a its.toArray/\xs.length<=sizeLine:=by
 rcases h with h |⟨o,its,n,hk,hc,hs,hz,r⟩
 ·obtain⟨z,its,r,p⟩:=h.ok I.hok;exact⟨its,r,p,z⟩
 ·refine⟨its.toList,r,⟨o,I.kIn a o hk,hc,n,by simpa using hs⟩,?_⟩;have e:=r.length;simp only[QaH] at e;omega
theorem Inv.iW (I:Inv X jb U H s) (h:SqL X.K H a xs) (h':SqL X.K H a ys):xs=ys:=by
 obtain⟨its,r,⟨o,n,e,_,_,d⟩,_⟩:=I.list h;obtain⟨its',r',⟨o',n',e',_,_,d'⟩,_⟩:=I.list h';rw[e] at e';cases e';rw[d] at d';injection d' with d1 _;have:its=its':=by simpa using congrArg Array.toList d1
 subst this;exact r.inj r'
theorem Inv.bJ (I:Inv X jb U H s) (h:SqT X.K H a xs) (h':SqT X.K H a ys):xs=ys:=by
 obtain⟨its,r,⟨o,e,_,n,d⟩,_⟩:=I.tuple h;obtain⟨its',r',⟨o',e',_,n',d'⟩,_⟩:=I.tuple h';rw[e] at e';cases e';rw[d] at d';injection d' with d1 _;have:its=its':=by simpa using congrArg Array.toList d1
 subst this;exact r.inj r'
end
abbrev Cx.wish (X:Cx) (E:YA):Cx:={ X with xe:=E }
abbrev Cx.nox (X:Cx):Cx:=X.wish λ_ _=>False
theorem Cx.Ok.wish {X:Cx} (ok:X.Ok) (E:YA):(X.wish E).Ok:=
 ⟨ok.mod,ok.kind,ok.glob,ok.blt,ok.above,ok.inj,ok.has,ok.cab,ok.hd,ok.frames,ok.stk,ok.exf,ok.bs,ok.bsz,ok.JK,ok.IV,ok.Gg,ok.frf⟩
theorem Cx.Ok.Kc {X:Cx} {E:YA} (ok:(X.wish E).Ok):X.Ok:=
 ⟨ok.mod,ok.kind,ok.glob,ok.blt,ok.above,ok.inj,ok.has,ok.cab,ok.hd,ok.frames,ok.stk,ok.exf,ok.bs,ok.bsz,ok.JK,ok.IV,ok.Gg,ok.frf⟩
section
variable {X:Cx} {jb:YC} {U : St} {H:Hp} {s:Shared} {E:YA}
theorem Inv.wish (I:Inv X jb U H s) (E:YA):Inv (X.wish E) jb U H s:=⟨I.ok.wish E,I.os,I.bare,I.base,I.loc,I.cell,I.free,I.Fo,I.pin,I.hok,I.len⟩
theorem Inv.Kc (I:Inv (X.wish E) jb U H s):Inv X jb U H s:=⟨I.ok.Kc,I.os,I.bare,I.base,I.loc,I.cell,I.free,I.Fo,I.pin,I.hok,I.len⟩
theorem SP.Kc {D:Ends} {f:Flow} {s':Shared} (h:SP (X.wish E) jb D f s'):SP X jb D f s':=by
 cases f with
 | next=>obtain⟨σ',H',I,q⟩:=h;exact⟨σ',H',I.Kc,q⟩
 | brk=>obtain⟨σ',H',I,q⟩:=h;exact⟨σ',H',I.Kc,q⟩
 | cont=>obtain⟨σ',H',I,q⟩:=h;exact⟨σ',H',I.Kc,q⟩
 | ret u=>obtain⟨v,σ',H',I,r,q⟩:=h;exact⟨v,σ',H',I.Kc,r,q⟩
theorem PSs.nox {st:List Stmt} {t:TS} (h:PSs X.nox st t):PSs X st t:=λjb s U H D I hw=>
 Qcl (h jb s U H D (I.wish _) hw) (λ_ _ q=>q.Kc) λ_ _ z=>False.elim z
end
section
variable {X:Cx} {st:Stmt} {rest:List Stmt} {t u:TS} {e:Expr} {te:TE} {pos:Pos}
def lu:TS:=λD U H=>D.nx U H
def Al (t u:TS):TS:=λD U H=>t { D with nx:=u D } U H
theorem Ay:PSs X [] lu:=λ_ _ U H _ I h=>wpAny_execs_nil ⟨U,H,I,h⟩
theorem Ad (h1:PS X st t) (h2:PSs X rest u):PSs X (st::rest) (Al t u):=by
 intro jb s U H D I h;refine wpAny_execs_cons (thn (h1 jb s U H { D with nx:=u D } I h) λf s1 q=>?_);cases f with
 | next=>
  obtain⟨σ',H',I',q⟩:=q;exact h2 jb s1 σ' H' D I' q
 | ret v=>exact q
 | brk=>exact q
 | cont=>exact q
theorem Ah (h1:PS X st t):PSs X [st] t:=by
 intro jb s U H D I h;refine wpAny_execs_cons (thn (h1 jb s U H D I h) λf s1 q=>?_);cases f with
 | next=>exact wpAny_execs_nil q
 | ret v=>exact q
 | brk=>exact q
 | cont=>exact q
theorem Inv.quiet {jb:YC} {U : St} {H:Hp} {s:Shared} (I:Inv X jb U H s):interactive X.env=false:=by simp[interactive,I.ok.kind]
def uH (te:TE):TS:=λD U H=>te U H λ_ H1=>D.nx U H1
theorem Jg (he:PE X e te) (hs:swapsWith e none pos.line X.env=pure false:=by rfl):PS X (.Expr e pos) (uH te):=by
 intro jb s U H D I h;refine wpAny_Expr_any (thn (he jb s U H _ I h) λv s1 zz=>?_) I.quiet hs;obtain⟨x,H1,I1,r1,q1⟩:=zz;exact⟨U,H1,I1,q1⟩
def vW (te:TE):TS:=λD U H=>te U H D.rt
theorem Ak (he:PE X e te):PS X (.Return (some e) pos) (vW te):=by
 intro jb s U H D I h;refine wpAny_Return_some (thn (he jb s U H _ I h) λv s1 zz=>?_);obtain⟨x,H1,I1,r1,q1⟩:=zz;exact⟨x,U,H1,I1,r1,q1⟩
def BX (c:TT) (t u:TS):TS:=λD U H=>c U H λb H1=>if b=true then t D U H1 else u D U H1
theorem Bg {c:Expr} {a b:List Stmt} {tc:TT} (hc:PT X c tc) (ha:PSs X a t) (hb:PSs X b u):PS X (.If c a b pos) (BX tc t u):=by
 intro jb s U H D I h;refine wpAny_If (thn (hc jb s U H _ I h) λd s1 zz=>?_);obtain⟨H1,I1,q1⟩:=zz;cases d with
 | true=>exact ha jb s1 U H1 D I1 q1
 | false=>exact hb jb s1 U H1 D I1 q1
def qj:TS:=λ_ _ _=>False
theorem Q0:PS X st qj:=λ_ _ _ _ _ _ h=>h.elim
end
abbrev TG:=V->St->Hp->(YO)->Prop
abbrev TGs:=YG->St->Hp->(YO)->Prop
def PG (X:Cx) (target:Expr) (t:TG):Prop:=
 ∀(jb:YC) (s:Shared) (U : St) (H:Hp) (v:V) (u:Value) (Q:YO),Inv X jb U H s->RelV v u->t v U H Q ->
  wpAny (model X.prog X.w) X.A (assign target X.env u) (λ_ s'=>∃ σ' H',Inv X jb σ' H' s'/\Q σ' H') X.xe s
def PGs (X:Cx) (ts:YJ) (t:TGs):Prop:=
 ∀(jb:YC) (s:Shared) (U : St) (H:Hp) (vs:YG) (us:YE) (Q:YO),Inv X jb U H s->Vals vs us->t vs U H Q ->
  wpAny (model X.prog X.w) X.A (assignInOrder ((assignEach ts X.env).map (·.2)) us) (λ_ s'=>∃ σ' H',Inv X jb σ' H' s'/\Q σ' H') X.xe s
abbrev j7:=V->V->V->Hp->(Hp->Prop)->Prop
def um (X:Cx) (t:j7):Prop:=
 ∀(jb:YC) (s:Shared) (U : St) (H:Hp) (o i v:V) (ov iv u:Value) (Q:Hp->Prop),Inv X jb U H s->RelV o ov->RelV i iv->RelV v u->t o i v H Q ->
  wpAny (model X.prog X.w) X.A (setItem ov iv u) (λ_ s'=>∃H',Inv X jb U H' s'/\Q H') X.xe s
abbrev TIp:=V->V->Hp->VK->Prop
def PIp (X:Cx) (op:Operator) (t:TIp):Prop:=
 ∀(jb:YC) (s:Shared) (U : St) (H:Hp) (x y:V) (v u:Value) (Q:VK),Inv X jb U H s->RelV x v->RelV y u->t x y H Q ->
  wpAny (model X.prog X.w) X.A (inplaceOp op v u) (EP X jb U Q) X.xe s
section
variable {X:Cx} {pos:Pos}
def Gi (i:Nat):TG:=λv U H Q=>Q (U.set i (some v)) H
theorem Az {i:Nat} {x:Str} (hN:X.N.Nodup) (hi:X.N[i]?=some x) (hx:Loc X.env.scope x) (hf:X.fn x=true\/X.env.scope.names.lookup x=some .local:=by first | exact .inl rfl | exact .inr rfl | assumption):PG X (.Name x pos) (Gi i):=by
 intro jb s U H v u Q I r h;exact wpAny_assign_Name (Hh I hN hi hx r (λs' I'=>⟨_,H,I',h⟩) hf)
def zN:TGs:=λvs U H Q=>vs=[]/\Q U H
def vD (t:TG) (u:TGs):TGs:=λvs U H Q=>∃v r,vs=v::r/\t v U H fun σ' H'=>u r σ' H' Q
theorem CN:PGs X [] zN:=by
 intro jb s U H vs us Q I r h;obtain⟨e,h⟩:=h;subst e;cases r;exact assignInOrder_nil ⟨U,H,I,h⟩
theorem Bd {e:Expr} {es:YJ} {t:TG} {u:TGs} (h1:PG X e t) (h2:PGs X es u)
  (hs:(assignEach (e::es) X.env).map (·.2)=assign e X.env::(assignEach es X.env).map (·.2):=by rfl):PGs X (e::es) (vD t u):=by
 intro jb s U H vs us Q I r h;obtain⟨v,vr,e1,h⟩:=h;subst e1;cases r with
 | cons r rr=>
  rw[hs];refine assignInOrder_cons (thn (h1 jb s U H _ _ _ I r h) λ_ s1 zz=>?_);obtain⟨σ1,H1,I1,q1⟩:=zz;exact h2 jb s1 σ1 H1 _ _ Q I1 rr q1
def rZ (K:YD) (n:Nat) (t:TGs):TG:=λv U H Q=>∃a xs,v=.ref a/\SqT K H a xs/\xs.length=n/\t xs U H Q
theorem Di {es:YJ} {k:Nat} {t:TGs} {n:Nat} (hc:X.calm=true) (h:PGs X es t)
  (hn:(assignEach es X.env).length=n:=by rfl) (hst:(assignEach es X.env).findIdx? (·.1)=none:=by rfl):PG X (.Tuple es k pos) (rZ X.K n t):=by
 intro jb s U H v u Q I r hw;obtain⟨a,xs,e1,hq,hl,hw⟩:=hw;subst e1;cases r;obtain⟨its,rv,ht,hz⟩:=I.tuple hq;refine assign_Tuple_tuple (I.ok.hd hc) ht (by simp[hn,<-hl,rv.length]) hst λh' hx=>?_;have I1:Inv X jb U H { s with heap:=h' }:=I.kept (t':=s.toks) λb o e=>hx b o (Qcb (QbZ e)) e;exact h jb _ U H xs _ Q I1 (by simpa using rv) hw
def zM (to ti:TE) (t:j7):TG:=λv U H Q=>to U H λo H1=>ti U H1 λi H2=>t o i v H2 λH3=>Q U H3
theorem O9 {o i:Expr} {to ti:TE} {t:j7} (ho:PE X o to) (hi:PE X i ti) (hs:um X t)
  (ha:∀v,assign (.Subscript o i pos) X.env v=(do
   let ov <-holding [v] (eval o X.env);let iv <-holding [v,ov] (eval i X.env)
   standAt pos
   holding [v,ov,iv] (setItem ov iv v)
   release [v,ov,iv] []):=by intro _;rfl):PG X (.Subscript o i pos) (zM to ti t):=by
 intro jb s U H v u Q I r h;rw[ha];refine Qcj (wpAny_holding (thn (ho jb s U H _ I h) λov s1 zz=>?_));obtain⟨x,H1,I1,r1,q1⟩:=zz;refine Qcj (wpAny_holding (thn (hi jb s1 U H1 _ I1 q1) λiv s2 zz=>?_));obtain⟨y,H2,I2,r2,q2⟩:=zz;refine Qcj (QbV (Qcj (wpAny_holding (thn (hs jb s2 U H2 x y v ov iv u _ I2 r1 r2 r q2) λ_ s3 zz=>?_))));obtain⟨H3,I3,q3⟩:=zz;exact wpAny_release ⟨U,H3,I3,q3⟩
def ZD (te:TE) (g:TG):TS:=λD U H=>te U H λx H1=>g x U H1 D.nx
theorem CV {tg e:Expr} {te:TE} {g:TG} (he:PE X e te) (hg:PG X tg g) (hs:swapsWithSole [tg] e pos.line X.env=pure false:=by rfl) (hw:swappedStores [tg] e X.env=pure none:=by rfl)
  (h1:(assignEach [tg] X.env).map (·.2)=[assign tg X.env]:=by rfl):PS X (.Assign [tg] e pos) (ZD te g):=by
 intro jb s U H D I h;refine wpAny_Assign_stores (thn (he jb s U H _ I h) λv s1 zz=>?_) hs hw;obtain⟨x,H1,I1,r1,q1⟩:=zz;rw[h1];exact thn (hg jb s1 U H1 x v _ I1 r1 q1) λ_ s2 q=>q
theorem Bf {i:Nat} {x:Str} {e:Expr} {te:TE} {pos':Pos} (hN:X.N.Nodup) (hi:X.N[i]?=some x) (hx:Loc X.env.scope x) (he:PE X e te) (hs:swapsWith e (some (.Name x pos')) pos.line X.env=pure false:=by rfl) (hf:X.fn x=true\/X.env.scope.names.lookup x=some .local:=by first | exact .inl rfl | exact .inr rfl | assumption) :
  PS X (.Assign [.Name x pos'] e pos) (ZD te (Gi i)):=by
 intro jb s U H D I h;refine wpAny_Assign_Name (thn (he jb s U H _ I h) λv s1 zz=>?_) hs;obtain⟨y,H1,I1,r1,q1⟩:=zz;exact Hh I1 hN hi hx r1 (λs2 I2=>⟨_,H1,I2,q1⟩) hf
def vX (i j:Nat) (ta:TA):TS:=λD U H=>ta U H λvs H1=>∃v w,vs=[v,w]/\D.nx ((U.set i (some v)).set j (some w)) H1
theorem qN {i j:Nat} {x y:Str} {a b:Expr} {ta:TA} {px py pt:Pos} {kt k2 pt2} (hc:X.calm=true) (hN:X.N.Nodup) (hi:X.N[i]?=some x) (hj:X.N[j]?=some y) (hij:i≠j)
  (hx:X.env.scope.names.lookup x=some .local) (hy:X.env.scope.names.lookup y=some .local) (ha:PA X [a,b] ta)
  (hw:swappedStores [.Tuple [.Name x px,.Name y py] kt pt] (.Tuple [a,b] k2 pt2) X.env=pure (some [x,y]))
  (hs:swapsWithSole [.Tuple [.Name x px,.Name y py] kt pt] (.Tuple [a,b] k2 pt2) pos.line X.env=pure false:=by rfl) :
  PS X (.Assign [.Tuple [.Name x px,.Name y py] kt pt] (.Tuple [a,b] k2 pt2) pos) (vX i j ta):=by
 intro jb s U H D I h;rw[exec_Assign_arm];refine Qcj (QbV ?_);rw[hs];refine Qcj (Qck ?_);rw[if_neg (by decide)];refine Qcj (Tuple_ (thn (ha _ jb s U H _ I h) λus s1 zz=>?_));obtain⟨vs,H1,I1,r1,q1⟩:=zz;obtain⟨v,w,e1,q1⟩:=q1;subst e1;obtain⟨u1,u2,rfl,rv,rw'⟩ : ∃u1 u2,us=[u1,u2]/\RelV v u1/\RelV w u2:=by
  cases r1 with
  | cons p q=>
   cases q with
   | cons p' q'=>
    cases q';exact⟨_,_,rq,p,p'⟩
 refine Qbg ?_ (by show 2<=sizeLine;decide);have I2:Inv X jb U H1 { s1 with heap:=s1.heap.push { cls:=.type "tuple",data:=.seq [u1,u2].toArray } }:=I1.kept (t':=s1.toks) λb o e=>Qat _ e;rw[hw];refine Qcj (Qck ?_);show wpAny (model X.prog X.w) X.A (do rule "assign.swapped-stores";let items <-unpackItems (.ref s1.heap.objs.size) 2 none;assignInOrder [λv=>bindName X.env y v,λv=>bindName X.env x v] items.reverse;pure Flow.next) _ _ _
 refine Qcj (wpAny_rule (Qcj (unpackItems_tuple (items:=#[u1,u2]) (I.ok.hd hc) (IsTup.new s1.heap _) λh' hx'=>?_)));have I3:=I2.kept (h':=h') (t':=s1.toks) λb o e=>hx' b o (Qcb (QbZ e)) e;show wpAny _ _ (assignInOrder [λv=>bindName X.env y v,λv=>bindName X.env x v] [u2,u1] >>= λ_=>pure Flow.next) _ _ _;refine Qcj (assignInOrder_cons (wpAny_bindName (Hh I3 hN hj (.inl hy) rw' (λs2 I4=>?_) (.inr hy))));refine assignInOrder_cons (wpAny_bindName (Hh I4 hN hi (.inl hx) rv (λs3 I5=>assignInOrder_nil (Qck ?_)) (.inr hx)));rw[List.set_comm _ _ (Ne.symm hij)] at I5;exact⟨_,H1,I5,q1⟩
def wg (i:Nat) (te:TE) (ti:TIp):TS:=λD U H=>∃x,U[i]?=some (some x)/\te U H λy H1=>ti x y H1 λz H2=>D.nx (U.set i (some z)) H2
theorem cI {i:Nat} {x:Str} {e:Expr} {te:TE} {op:Operator} {ti:TIp} {pos':Pos} (hN:X.N.Nodup) (hi:X.N[i]?=some x) (hx:Loc X.env.scope x) (he:PE X e te) (ho:PIp X op ti) (hf:X.fn x=true\/X.env.scope.names.lookup x=some .local:=by first | exact .inl rfl | exact .inr rfl | assumption) :
  PS X (.AugAssign (.Name x pos') op e pos) (wg i te ti):=by
 intro jb s U H D I h;obtain⟨v,e1,h⟩:=h;obtain⟨m,hn,hl⟩:=I.loc;have vis:Vis X.env.scope x:=by rcases hx with k | k;exact .inl k;exact .inr (.inl k)
 obtain⟨u,r,l⟩:=hl i x v hi e1 vis;refine wpAny_AugAssign_Name ?_;have go:wpAny (model X.prog X.w) X.A (eval e X.env) (λw s₂=>wpAny (model X.prog X.w) X.A (inplaceOp op u w) (λr s₃=>wpAny (model X.prog X.w) X.A (storeName X.env x r) (λ_=>SP X jb D .next) X.xe s₃) X.xe s₂) X.xe s:=by
  refine thn (he jb s U H _ I h) λw s1 zz=>?_;obtain⟨y,H1,I1,r1,q1⟩:=zz;refine thn (ho jb s1 U H1 v y u w _ I1 r r1 q1) λz s2 zz=>?_;obtain⟨zv,H2,I2,r2,q2⟩:=zz;exact Hh I2 hN hi hx r2 (λs3 I3=>⟨_,H2,I3,q2⟩) hf
 rcases l with⟨hk,hm⟩|⟨hk,c,hc,hcell⟩
 ·exact wpAny_loadName_local I.ok.kind hk hn hm go
 ·rcases hk with hk | hk
  ·exact wpAny_loadName_cell I.ok.kind hk hc hcell go
  ·rcases hx with k | k
   ·have:X.env.scope.names.lookup x=some .free:=hk;rw[k] at this;cases this
   ·have:X.env.scope.names.lookup x=some .free:=hk;rw[k] at this;cases this
def ipI (f:Int->Int->Int):TIp:=λx y H Q=>∃i j,x=.int i/\y=.int j/\Q (.int (f i j)) H
theorem dR:PIp X .Add (ipI λi j=>i+j):=by
 intro jb s U H x y v u Q I r1 r2 h;obtain⟨i,j,e1,e2,q⟩:=h;subst e1;subst e2;obtain⟨t,rfl⟩:=r1;obtain⟨t',rfl⟩:=r2;exact iadd_int ⟨.int _,H,I.tok _,⟨_,rq⟩,q⟩
end
section
variable {X:Cx} {pos:Pos}
abbrev YN:=Nat->YO
def bL (c:TT) (tb:TS):TS:=λD U H=>∃W:YN,(∃m,W m U H)/\∀m U H,W m U H ->
 c U H λb H1=>if b=true then ∃N:YO,(∀ σ' H',N σ' H'->∃m',m' < m/\W m' σ' H')/\tb { D with nx:=N,ct:=N,bk:=D.nx } U H1 else D.nx U H1
theorem ig {c:Expr} {body:List Stmt} {tc:TT} {tb:TS} (hp:PassesOwn (model X.prog X.w) X.A X.env X.xe) (hc:PT X c tc) (hb:PSs X body tb):PS X (.While c body [] pos) (bL tc tb):=by
 intro jb s U H D I h;obtain⟨W,⟨m0,w0⟩,turn⟩:=h;refine wpAny_While (codeAny_whileLoop (λn s'=>∃ σ' H',Inv X jb σ' H' s'/\W n σ' H') ?_ m0 ⟨U,H,I,w0⟩);rintro n s1 ⟨σ1,H1,I1,w1⟩;refine QbG hp (thn (hc jb s1 σ1 H1 _ I1 (turn n σ1 H1 w1)) λb s2 zz=>?_);obtain⟨H2,I2,q2⟩:=zz;cases b with
 | true=>
  obtain⟨N,hN,q2⟩:=q2;rw[if_pos rfl];refine QbG hp (thn (hb jb s2 σ1 H2 _ I2 q2) λf s3 q3=>?_);cases f with
  | next=>
   obtain⟨σ3,H3,I3,n3⟩:=q3;obtain⟨m',hm,w3⟩:=hN σ3 H3 n3;exact⟨m',hm,σ3,H3,I3,w3⟩
  | cont=>
   obtain⟨σ3,H3,I3,n3⟩:=q3;obtain⟨m',hm,w3⟩:=hN σ3 H3 n3;exact⟨m',hm,σ3,H3,I3,w3⟩
  | brk=>exact q3
  | ret v=>exact q3
 | false=>
  rw[if_neg QaP];exact wpAny_execs_nil ⟨σ1,H2,I2,q2⟩
end
structure It where
 go:Nat->Hp->Prop
 yld:Nat->Hp->V->Hp->Prop
 stop:Nat->Hp->Prop
def Gh (X:Cx) (jb:YC) (H:Hp) (b:Addr):Prop:=
 H b=none/\b≠X.env.locals/\b∉X.fs/\(b∈X.ex\/X.s₀.heap.objs.size<=b)/\(∀x c,X.env.cells.lookup x=some c->c≠b)/\∀p∈X.pn++jb,p.1≠b
theorem Inv.W5 {X:Cx} {jb:YC} {U : St} {H H':Hp} {s:Shared} {b:Addr} (I:Inv X jb U H s) (hb:s.heap.objs.size<=b) (hn:H' b=none):Gh X jb H' b:=by
 refine⟨hn,Qcd (QaQ I.lt hb),I.Z9 hb,.inr (Qca I.sz hb),λx c e z=>?_,λp hp z=>?_⟩
 ·obtain⟨v,q⟩:=I.cell x c e;exact absurd (QaQ q.lt (by rw[z];exact hb)) (QbU _)
 ·exact absurd (QaQ (QbZ (I.pin p hp).1) (by rw[z];exact hb)) (QbU _)
structure Turn (P:Program) (w:World) (K:YD) (tg:Expr) (J:It) (fp:List Addr) (it:Addr) (tn:Nat->Heap->Prop):Prop where
 mem:it∈fp
 obj:∀i h,tn i h->∀b∈fp,∃o,h.get? b=some o/\∀v,o.data≠.cell v
 keep:∀i h h',tn i h->(∀b∈fp,∀o,h.get? b=some o->h'.get? b=some o)->tn i h'
 item:∀(X:Cx),X.prog=P->X.w=w->X.K=K->X.calm=true->∀(i:Nat) (jb:YC) (s:Shared) (U : St) (H:Hp) (E:YA),Inv X jb U H s->(∀b∈fp,Gh X jb H b)->tn i s.heap->J.go i H ->
  wpAny (model P w) X.A (pyNext (.ref it)) (λr s1=>∃u,r=some u /\
   wpAny (model P w) X.A (letOwnedTupleGo tg (.ref it) u) (λ_ s2=>∃x H',Inv X jb U H' s2/\RelV x u/\J.yld i H x H'/\tn (i+1) s2.heap/\∀b∈fp,H' b=none) E s1) E s
 done:∀(X:Cx),X.prog=P->X.w=w->X.K=K->X.calm=true->∀(i:Nat) (jb:YC) (s:Shared) (U : St) (H:Hp) (E:YA),Inv X jb U H s->(∀b∈fp,Gh X jb H b)->tn i s.heap->J.stop i H ->
  wpAny (model P w) X.A (pyNext (.ref it)) (λr s1=>r=none/\Inv X jb U H s1) E s
 self:∀(A:Around) (i:Nat) (s:Shared) (Q:YA) (E:YA),tn i s.heap->Q (.ref it) s->wpAny (model P w) A (pyIter (.ref it)) Q E s
abbrev TI:=St->Hp->(It->Hp->Prop)->Prop
def PIE (X:Cx) (jb:YC) (U : St) (tg:Expr) (R:It->Hp->Prop) (itv:Value) (s2:Shared):Prop:=
 ∃(it:Addr) (fp:List Addr) (tn:Nat->Heap->Prop) (J:It) (H':Hp),itv=.ref it/\Inv X jb U H' s2/\Turn X.prog X.w X.K tg J fp it tn/\tn 0 s2.heap/\(∀b∈fp,Gh X jb H' b)/\R J H'
def PI (X:Cx) (tg iter:Expr) (wi:TI):Prop:=
 ∀(jb:YC) (s:Shared) (U : St) (H:Hp) (R:It->Hp->Prop),Inv X jb U H s->wi U H R ->
  wpAny (model X.prog X.w) X.A (eval iter X.env) (λv s1=>wpAny (model X.prog X.w) X.A (pyIter v) (PIE X jb U tg R) X.xe s1) X.xe s
theorem Vx {M:Model} {A:Around} {E:YA} {s:Shared} {tg:Expr} {it:Addr} {u:Value} {o:Obj} {n:String} {vs:Array Value} {Q:YH} (ho:s.heap.get? it=some o) (hc:o.cls=.type n) (hd:o.data=.fields vs)
    (hn:["enumerate","zip","dict_itemiterator","dict_reverseitemiterator","odict_iterator","itertools.zip_longest","itertools.pairwise"].contains n=false) (hQ:Q () s):wpAny M A (letOwnedTupleGo tg (.ref it) u) Q E s:=by
  unfold letOwnedTupleGo;cases tg <;> first
    | exact Qck hQ
    | (cases u <;> first
        | exact Qck hQ
        | (refine Qcj (wpAny_load ho ?_)
           rw[hc,hd];show wpAny M A (if (["enumerate","zip","dict_itemiterator","dict_reverseitemiterator","odict_iterator","itertools.zip_longest","itertools.pairwise"].contains n&&vs[0]? == some (rawInt _))=true then _ else _) Q E s
           rw[if_neg (by intro h;rw[hn,Bool.false_and] at h;cases h)];exact Qck hQ))
def Itl (K:YD) (a:Addr):It:=
 ⟨λi H=>∃xs x,SqL K H a xs/\xs[i]?=some x,λi H x H'=>H'=H/\∀xs,SqL K H a xs->xs[i]?=some x,λi H=>∃xs,SqL K H a xs/\xs.length<=i⟩
def Itt (K:YD) (a:Addr):It:=
 ⟨λi H=>∃xs x,SqT K H a xs/\xs[i]?=some x,λi H x H'=>H'=H/\∀xs,SqT K H a xs->xs[i]?=some x,λi H=>∃xs,SqT K H a xs/\xs.length<=i⟩
def Itr (lo:Int) (n:Nat):It:=⟨λi _=>i < n,λi H x H'=>H'=H/\x=.int (lo+i),λi _=>n<=i⟩
theorem bI {P:Program} {w:World} {K:YD} {tg:Expr} (a it:Addr):Turn P w K tg (Itl K a) [it] it (λi h=>h.IsListIter it a i) where
 mem:=by simp
 obj:=λi h st b hb=>by
  have e:b=it:=by simpa using hb
  subst e;obtain⟨o,e,c,d⟩:=st;exact⟨o,e,λv z=>by rw[d] at z;cases z⟩
 keep:=λi h h' st k=>st.at λo e=>k it (by simp) o e
 item:=by
  intro X hP hw hK hc i jb s U H E I hf st hg;subst hP hw hK;obtain⟨xs,x,hq,hx⟩:=hg;obtain⟨its,rv,p,hz⟩:=I.list hq;obtain⟨u,hu,ru⟩:=rv.get hx;obtain⟨f0,f1,f2,f3,f4,f5⟩:=hf it (by simp);refine wpAny_pyNext_list_item st p.isList (x:=u) (by simpa using hu) λh' st' sb=>?_;have I1:Inv X jb U H { s with heap:=h' }:=I.turned (t':=s.toks) (λb o hb e=>(sb.2 b hb).trans e) f0 f1 f3 f4 f5;obtain⟨o,e,c,d⟩:=id st';exact⟨u,rq,Vx (s:={ s with heap:=h' }) e c d (by decide) ⟨x,H,I1,ru,⟨rq,λys hy=>by rw[I.iW hy hq];exact hx⟩,st',λb hb=>(hf b hb).1⟩⟩
 done:=by
  intro X hP hw hK hc i jb s U H E I hf st hg;subst hP hw hK;obtain⟨xs,hq,hx⟩:=hg;obtain⟨its,rv,p,hz⟩:=I.list hq;obtain⟨f0,f1,f2,f3,f4,f5⟩:=hf it (by simp);have hl:=rv.length;exact wpAny_pyNext_list_end (I.ok.hd hc) st p.isList (by simp;omega) λh' eb=>⟨rq,I.turned (t':=s.toks) (λb o hb e=>eb b o hb e) f0 f1 f3 f4 f5⟩
 self:=λ_ _ _ _ _ st h=>wpAny_pyIter_listiter st h
theorem Zw {P:Program} {w:World} {K:YD} {tg:Expr} (a it:Addr):Turn P w K tg (Itt K a) [it] it (λi h=>h.IsTupleIter it a i) where
 mem:=by simp
 obj:=λi h st b hb=>by
  have e:b=it:=by simpa using hb
  subst e;obtain⟨o,e,c,d⟩:=st;exact⟨o,e,λv z=>by rw[d] at z;cases z⟩
 keep:=λi h h' st k=>st.at λo e=>k it (by simp) o e
 item:=by
  intro X hP hw hK hc i jb s U H E I hf st hg;subst hP hw hK;obtain⟨xs,x,hq,hx⟩:=hg;obtain⟨its,rv,p,hz⟩:=I.tuple hq;obtain⟨u,hu,ru⟩:=rv.get hx;obtain⟨f0,f1,f2,f3,f4,f5⟩:=hf it (by simp);refine wpAny_pyNext_tuple_item st (show s.heap.IsTuple a its.toArray from p) (x:=u) (by simpa using hu) λh' st' sb=>?_
  have I1:Inv X jb U H { s with heap:=h' }:=I.turned (t':=s.toks) (λb o hb e=>(sb.2 b hb).trans e) f0 f1 f3 f4 f5;obtain⟨o,e,c,d⟩:=id st';exact⟨u,rq,Vx (s:={ s with heap:=h' }) e c d (by decide) ⟨x,H,I1,ru,⟨rq,λys hy=>by rw[I.bJ hy hq];exact hx⟩,st',λb hb=>(hf b hb).1⟩⟩
 done:=by
  intro X hP hw hK hc i jb s U H E I hf st hg;subst hP hw hK;obtain⟨xs,hq,hx⟩:=hg;obtain⟨its,rv,p,hz⟩:=I.tuple hq;obtain⟨f0,f1,f2,f3,f4,f5⟩:=hf it (by simp);have hl:=rv.length;exact wpAny_pyNext_tuple_end (I.ok.hd hc) st (show s.heap.IsTuple a its.toArray from p) (by simp;omega) λh' eb=>⟨rq,I.turned (t':=s.toks) (λb o hb e=>eb b o hb e) f0 f1 f3 f4 f5⟩
 self:=λ_ _ _ _ _ st h=>wpAny_pyIter_tupleiter st h
theorem Zx {P:Program} {w:World} {K:YD} {tg:Expr} (it:Addr) (lo:Int) (n:Nat):Turn P w K tg (Itr lo n) [it] it (λi h=>IsRangeIter h it (lo+(i:Nat)*1) ((n:Int) - (i:Nat)) 1) where
 mem:=by simp
 obj:=λi h st b hb=>by
  have e:b=it:=by simpa using hb
  subst e;exact⟨_,st,λv z=>by
   have z':Data.fields _=Data.cell v:=z;cases z'⟩
 keep:=λi h h' st k=>k it (by simp) _ st
 item:=by
  intro X hP hw hK hc i jb s U H E I hf st hg;subst hP hw hK;obtain⟨f0,f1,f2,f3,f4,f5⟩:=hf it (by simp);have W:=Walks.range (prog:=X.prog) (w:=X.w) (I.ok.hd hc) it lo 1 n;refine W.item i s _ _ hg st λv h' tk hv st' kk=>?_;obtain⟨t,rfl⟩:=hv;have I1:Inv X jb U H { s with heap:=h',toks:=tk }:=I.turned (λb o hb e=>kk b o (by simpa using hb) e) f0 f1 f3 f4 f5;refine⟨_,rq,Vx (s:={ s with heap:=h',toks:=tk }) (n:="range_iterator") st' rfl rfl (by decide) ⟨.int (lo+i),H,I1,⟨t,?_⟩,⟨rq,rq⟩,st',λb hb=>(hf b hb).1⟩⟩;rw[Int.mul_one]
 done:=by
  intro X hP hw hK hc i jb s U H E I hf st hg;subst hP hw hK;obtain⟨f0,f1,f2,f3,f4,f5⟩:=hf it (by simp);exact wpAny_pyNext_range_end (I.ok.hd hc) st (by have:n<=i:=hg;omega) λh' eb=>⟨rq,I.turned (t':=s.toks) (λb o hb e=>eb b o hb e) f0 f1 f3 f4 f5⟩
 self:=λ_ _ _ _ _ st h=>wpAny_pyIter_rangeiter st h
section
variable {X:Cx} {tg:Expr}
def vg (K:YD) (tl:TE):TI:=fun U H R=>tl U H λx H1=>∃a,x=.ref a/\(∃xs,SqL K H1 a xs)/\R (Itl K a) H1
def rJ (K:YD) (tl:TE):TI:=fun U H R=>tl U H λx H1=>∃a,x=.ref a/\(∃xs,SqT K H1 a xs)/\R (Itt K a) H1
theorem Qg {l:Expr} {tl:TE} (hl:PE X l tl):PI X tg l (vg X.K tl):=by
 intro jb s U H R I h;refine thn (hl jb s U H _ I h) λv s1 zz=>?_;obtain⟨x,H1,I1,r1,q1⟩:=zz;obtain⟨a,e,⟨xs,hq⟩,q⟩:=q1;subst e;cases r1;obtain⟨its,rv,p,hz⟩:=I1.list hq;refine wpAny_pyIter_list p.isList ?_;refine⟨s1.heap.objs.size,[s1.heap.objs.size],_,_,H1,rq,I1.kept (t':=s1.toks) λb o e=>Qat _ e,bI a _,⟨_,QaF _ rfl,rq,rq⟩,λb hb=>?_,q⟩;have e:b=s1.heap.objs.size:=by simpa using hb
 subst e;exact I1.W5 (Qcf _) (I1.hok.fresh (Qcf _))
theorem O7 {l:Expr} {tl:TE} (hl:PE X l tl):PI X tg l (rJ X.K tl):=by
 intro jb s U H R I h;refine thn (hl jb s U H _ I h) λv s1 zz=>?_;obtain⟨x,H1,I1,r1,q1⟩:=zz;obtain⟨a,e,⟨xs,hq⟩,q⟩:=q1;subst e;cases r1;obtain⟨its,rv,p,hz⟩:=I1.tuple hq;refine wpAny_pyIter_tuple (show s1.heap.IsTuple a its.toArray from p) ?_
 refine⟨s1.heap.objs.size,[s1.heap.objs.size],_,_,H1,rq,I1.kept (t':=s1.toks) λb o e=>Qat _ e,Zw a _,⟨_,QaF _ rfl,rq,rq⟩,λb hb=>?_,q⟩;have e:b=s1.heap.objs.size:=by simpa using hb
 subst e;exact I1.W5 (Qcf _) (I1.hok.fresh (Qcf _))
theorem Wj {jb:YC} {U : St} {H:Hp} {s:Shared} {R:It->Hp->Prop} {E:YA} {lo hi:Int} {t u v:Tok} {tk:Nat} (I:Inv X jb U H s) (h1:-(2 ^ 62)<=lo) (h2:lo < 2 ^ 62) (h3:-(2 ^ 62)<=hi) (h4:hi < 2 ^ 62)
  (q:R (Itr lo (hi - lo).toNat) H):wpAny (model X.prog X.w) X.A (pyIter (.ref s.heap.objs.size)) (PIE X jb U tg R) E { s with heap:=s.heap.push { cls:=.type "range",data:=.fields #[.int lo t,.int hi u,.int 1 v] },toks:=tk }:=by
 refine wpAny_pyIter_range (IsRange.new ..) (small_one h1 h2 h3 h4) ?_;have I1:Inv X jb U H { s with heap:=s.heap.push { cls:=.type "range",data:=.fields #[.int lo t,.int hi u,.int 1 v] },toks:=tk }:=I.kept λb o e=>Qat _ e;refine⟨(s.heap.push { cls:=.type "range",data:=.fields #[.int lo t,.int hi u,.int 1 v] }).objs.size,[(s.heap.push { cls:=.type "range",data:=.fields #[.int lo t,.int hi u,.int 1 v] }).objs.size],_,_,H,rq,
  I1.kept (t':=tk) λb o e=>Qat _ e,Zx _ lo (hi - lo).toNat,?_,λb hb=>?_,q⟩
 ·have e1:lo+((0:Nat):Int)*1=lo:=by simp
  have e2:(((hi - lo).toNat:Nat):Int) - ((0:Nat):Int)=Builtin.Range.rangeSize lo hi 1:=by rw[rangeSize_one];split <;> omega
  show IsRangeIter _ _ (lo+((0:Nat):Int)*1) ((((hi - lo).toNat:Nat):Int) - ((0:Nat):Int)) 1;rw[e1,e2];exact QaF _ rfl
 ·have e:b=(s.heap.push { cls:=.type "range",data:=.fields #[.int lo t,.int hi u,.int 1 v] }).objs.size:=by simpa using hb
  subst e;exact I1.W5 (Qcf _) (I1.hok.fresh (Qcf _))
def vf (ta:TA):TI:=fun U H R=>ta U H λvs H1=>∃j:Int,vs=[.int j]/\-(2 ^ 62)<=j/\j < 2 ^ 62/\R (Itr 0 j.toNat) H1
def vd (ta:TA):TI:=fun U H R=>ta U H λvs H1=>∃i j:Int,vs=[.int i,.int j]/\(-(2 ^ 62)<=i/\i < 2 ^ 62/\-(2 ^ 62)<=j/\j < 2 ^ 62)/\R (Itr i (j - i).toNat) H1
theorem FW {a:Expr} {ta:TA} {p pos:Pos} (hg:Gl X "range") (hm:X.mg "range"=none) (ha:PA X [a] ta) (hs:starEach [a] X.env=[(false,eval a X.env)]:=by rfl):PI X tg (.Call (.Name "range" p) [a] [] pos) (vf ta):=by
 intro jb s U H R I h;refine Call_ (Ni I hg hm boot_range (Qab (thn (ha pos jb s U H _ I h) λus s1 zz=>?_) hs rfl));obtain⟨vs,H1,I1,r1,q1⟩:=zz;obtain⟨j,e,q1,q2,q⟩:=q1;subst e;cases r1 with
 | cons r rr=>
  cases rr;obtain⟨t,rfl⟩:=r;exact call_range_1 (Wj I1 (by omega) (by omega) q1 q2 (by simpa using q))
theorem cL {a b:Expr} {ta:TA} {p pos:Pos} (hg:Gl X "range") (hm:X.mg "range"=none) (ha:PA X [a,b] ta) (hs:starEach [a,b] X.env=[(false,eval a X.env),(false,eval b X.env)]:=by rfl) (hs2:starEach [b] X.env=[(false,eval b X.env)]:=by rfl) :
  PI X tg (.Call (.Name "range" p) [a,b] [] pos) (vd ta):=by
 intro jb s U H R I h;refine Call_ (Ni I hg hm boot_range (Qab (thn (ha pos jb s U H _ I h) λus s1 zz=>?_) (by rw[hs,hs2]) (by rw[hs2];rfl)));obtain⟨vs,H1,I1,r1,q1⟩:=zz;obtain⟨i,j,e,⟨q1,q2,q3,q4⟩,q⟩:=q1;subst e;cases r1 with
 | cons r rr=>
  cases rr with
  | cons r' rr=>
   cases rr;obtain⟨t,rfl⟩:=r;obtain⟨t',rfl⟩:=r';exact call_range_2 (Wj I1 q1 q2 q3 q4 q)
def K5 (wi:TI) (g:TG) (tb:TS):TS:=λD U H=>wi U H λJ H1=>∃W:Nat->YN,(∃m,W 0 m U H1)/\∀i m U H,W i m U H ->
 (J.stop i H/\D.nx U H)\/(J.go i H/\∃N:YO,(∀ σ' H',N σ' H'->∃m',m' < m/\W (i+1) m' σ' H')/\∀x H',J.yld i H x H'->g x U H' fun σ2 H2=>tb { D with nx:=N,ct:=N,bk:=D.nx } σ2 H2)
def Kg (fp:List Addr) (h:Heap):YC:=fp.filterMap λb=>(h.get? b).map λo=>(b,o)
theorem GF {fp:List Addr} {h:Heap} {b:Addr} {o:Obj} (hb:b∈fp) (e:h.get? b=some o):(b,o)∈Kg fp h:=List.mem_filterMap.mpr ⟨b,hb,by rw[e];rfl⟩
theorem cV {fp:List Addr} {h:Heap} {p:Addr×Obj} (hp:p∈Kg fp h):p.1∈fp/\h.get? p.1=some p.2:=by
 obtain⟨b,hb,e⟩:=List.mem_filterMap.mp hp;cases q:h.get? b with
 | none=>rw[q] at e;cases e
 | some o=>
  rw[q] at e;have e':(b,o)=p:=QbA e;subst e';exact⟨hb,q⟩
theorem Inv.pinned {jb:YC} {U : St} {H:Hp} {s:Shared} {fp:List Addr} (I:Inv X jb U H s) (hf:∀b∈fp,Gh X jb H b) (ho:∀b∈fp,∃o,s.heap.get? b=some o/\∀v,o.data≠.cell v):Inv X (jb++Kg fp s.heap) U H s:=
 I.M8 λp hp=>(Qby.mp hp).elim (λz=>I.pin p (Qax _ z)) λz=>by
  obtain⟨hb,e⟩:=cV z;obtain⟨f0,f1,f2,_⟩:=hf p.1 hb;obtain⟨o,e',d⟩:=ho p.1 hb;rw[e] at e';cases e';exact⟨e,f0,f1,f2,d⟩
theorem Inv.Gx {jb pl:YC} {U : St} {H:Hp} {s:Shared} (I:Inv X (jb++pl) U H s):Inv X jb U H s:=I.M8 λp hp=>I.pin p (Qax _ (QaD _ hp))
theorem Ih {iter:Expr} {body:List Stmt} {wi:TI} {g:TG} {tb:TS} {pos:Pos} (hp:PassesOwn (model X.prog X.w) X.A X.env X.xe) (hc:X.calm=true) (hi:PI X tg iter wi) (hg:PG X tg g) (hb:PSs X body tb)
  (hs:∀x,foldedSetIterable iter X.env x=pure x:=by intro _;rfl):PS X (.For tg iter body [] pos) (K5 wi g tb):=by
 intro jb s U H D I h;refine wpAny_For (thn (hi jb s U H _ I h) λv s1 h1=>thn h1 λitv s2 h2=>?_) hs;obtain⟨it,fp,tn,J,H2,e,I2,T,st2,f2,W,⟨m0,w0⟩,turn⟩:=h2;subst e;have stat:∀{H':Hp},(∀b∈fp,H' b=none)->∀b∈fp,Gh X jb H' b:=λhn b hb=>⟨hn b hb,(f2 b hb).2⟩;refine codeAny_forLoop_any (λn s'=>∃i σ' H',Inv X jb σ' H' s'/\tn i s'.heap/\(∀b∈fp,H' b=none)/\W i n σ' H') ?_ m0 ⟨0,U,H2,I2,st2,λb hb=>(f2 b hb).1,w0⟩;rintro n s3 ⟨i,σ3,H3,I3,st3,fr3,w3⟩;rcases turn i n σ3 H3 w3 with⟨stop,qn⟩|⟨go,N,hN,step⟩
 ·refine QbG hp (thn (T.done X rfl rfl rfl hc i jb s3 σ3 H3 X.xe I3 (stat fr3) st3 stop) λr s4 zz=>?_);obtain⟨hr,I4⟩:=zz;subst hr;exact wpAny_execs_nil ⟨σ3,H3,I4,qn⟩
 ·refine QbG hp (thn (T.item X rfl rfl rfl hc i jb s3 σ3 H3 X.xe I3 (stat fr3) st3 go) λr s4 zz=>?_);obtain⟨u,hr,h4⟩:=zz;subst hr;refine QbG hp (thn h4 λ_ s5 zz=>?_);obtain⟨x,H5,I5,r5,y5,st5,fr5⟩:=zz;have I5':=I5.pinned (stat fr5) (T.obj _ _ st5);refine QbG hp (thn (hg _ s5 σ3 H5 x u _ I5' r5 (step x H5 y5)) λ_ s6 zz=>?_);obtain⟨σ6,H6,I6,q6⟩:=zz;refine QbG hp (thn (hb _ s6 σ6 H6 _ I6 q6) λf s7 q7=>?_);have again:∀{σ7:St} {H7:Hp},Inv X (jb++Kg fp s5.heap) σ7 H7 s7->N σ7 H7->∃m,m < n/\∃i σ' H',Inv X jb σ' H' s7/\tn i s7.heap/\(∀b∈fp,H' b=none)/\W i m σ' H':=λ{σ7 H7} I7 n7=>by
   obtain⟨m',hm,w7⟩:=hN σ7 H7 n7;refine⟨m',hm,i+1,σ7,H7,I7.Gx,T.keep _ _ _ st5 λb hb o e=>(I7.pin (b,o) (Qax _ (Qax _ (GF hb e)))).1,λb hb=>?_,w7⟩;obtain⟨o,e,d⟩:=T.obj _ _ st5 b hb;exact (I7.pin (b,o) (Qax _ (Qax _ (GF hb e)))).2.1
  cases f with
  | next=>obtain⟨σ7,H7,I7,n7⟩:=q7;exact again I7 n7
  | cont=>obtain⟨σ7,H7,I7,n7⟩:=q7;exact again I7 n7
  | brk=>obtain⟨σ7,H7,I7,q7⟩:=q7;exact⟨σ7,H7,I7.Gx,q7⟩
  | ret v=>obtain⟨x7,σ7,H7,I7,r7,q7⟩:=q7;exact⟨x7,σ7,H7,I7.Gx,r7,q7⟩
end
theorem zO {K:YD} {a:Addr} {xs:YG} {g:TG} {tb:TS} {D:Ends} {U : St} {H:Hp} (Pv:YN) (h0:Pv 0 U H) (hl:∀i U H,i<=xs.length->Pv i U H->SqL K H a xs)
  (hs:∀i x U H,xs[i]?=some x->Pv i U H->g x U H fun σ2 H2=>tb { D with nx:=Pv (i+1),ct:=Pv (i+1),bk:=D.nx } σ2 H2) (hd:∀ U H,Pv xs.length U H->D.nx U H) :
  ∃W:Nat->YN,(∃m,W 0 m U H)/\∀i m U H,W i m U H ->
   ((Itl K a).stop i H/\D.nx U H)\/((Itl K a).go i H/\∃N:YO,(∀ σ' H',N σ' H'->∃m',m' < m/\W (i+1) m' σ' H')/\∀x H',(Itl K a).yld i H x H'->g x U H' fun σ2 H2=>tb { D with nx:=N,ct:=N,bk:=D.nx } σ2 H2):=by
 refine⟨λi m U H=>m=xs.length - i/\i<=xs.length/\Pv i U H,⟨xs.length,by simp,Qcg _,h0⟩,?_⟩;rintro i m U H ⟨rfl,hi,p⟩;have q:=hl i U H hi p;by_cases hlt:i < xs.length
 ·refine .inr ⟨⟨xs,xs[i],q,by simp[hlt]⟩,Pv (i+1),fun σ' H' p'=>⟨xs.length - (i+1),by omega,rq,hlt,p'⟩,λx H' y=>?_⟩;obtain⟨e,y⟩:=y;subst e;exact hs i x U _ (y xs q) p
 ·have e:i=xs.length:=by omega
  subst e;exact .inl ⟨⟨xs,q,Qcf _⟩,hd U H p⟩
theorem Y9 {K:YD} {a:Addr} {xs:YG} {g:TG} {tb:TS} {D:Ends} {U : St} {H:Hp} (Pv:YN) (h0:Pv 0 U H) (hl:∀i U H,i<=xs.length->Pv i U H->SqT K H a xs)
  (hs:∀i x U H,xs[i]?=some x->Pv i U H->g x U H fun σ2 H2=>tb { D with nx:=Pv (i+1),ct:=Pv (i+1),bk:=D.nx } σ2 H2) (hd:∀ U H,Pv xs.length U H->D.nx U H) :
  ∃W:Nat->YN,(∃m,W 0 m U H)/\∀i m U H,W i m U H ->
   ((Itt K a).stop i H/\D.nx U H)\/((Itt K a).go i H/\∃N:YO,(∀ σ' H',N σ' H'->∃m',m' < m/\W (i+1) m' σ' H')/\∀x H',(Itt K a).yld i H x H'->g x U H' fun σ2 H2=>tb { D with nx:=N,ct:=N,bk:=D.nx } σ2 H2):=by
 refine⟨λi m U H=>m=xs.length - i/\i<=xs.length/\Pv i U H,⟨xs.length,by simp,Qcg _,h0⟩,?_⟩;rintro i m U H ⟨rfl,hi,p⟩;have q:=hl i U H hi p;by_cases hlt:i < xs.length
 ·refine .inr ⟨⟨xs,xs[i],q,by simp[hlt]⟩,Pv (i+1),fun σ' H' p'=>⟨xs.length - (i+1),by omega,rq,hlt,p'⟩,λx H' y=>?_⟩;obtain⟨e,y⟩:=y;subst e;exact hs i x U _ (y xs q) p
 ·have e:i=xs.length:=by omega
  subst e;exact .inl ⟨⟨xs,q,Qcf _⟩,hd U H p⟩
theorem Hu {lo:Int} {n:Nat} {g:TG} {tb:TS} {D:Ends} {U : St} {H:Hp} (Pv:YN) (h0:Pv 0 U H)
  (hs:∀i U H,i < n->Pv i U H->g (.int (lo+i)) U H fun σ2 H2=>tb { D with nx:=Pv (i+1),ct:=Pv (i+1),bk:=D.nx } σ2 H2) (hd:∀ U H,Pv n U H->D.nx U H) :
  ∃W:Nat->YN,(∃m,W 0 m U H)/\∀i m U H,W i m U H ->
   ((Itr lo n).stop i H/\D.nx U H)\/((Itr lo n).go i H/\∃N:YO,(∀ σ' H',N σ' H'->∃m',m' < m/\W (i+1) m' σ' H')/\∀x H',(Itr lo n).yld i H x H'->g x U H' fun σ2 H2=>tb { D with nx:=N,ct:=N,bk:=D.nx } σ2 H2):=by
 refine⟨λi m U H=>m=n - i/\i<=n/\Pv i U H,⟨n,by simp,Qcg _,h0⟩,?_⟩;rintro i m U H ⟨rfl,hi,p⟩;by_cases hlt:i < n
 ·refine .inr ⟨hlt,Pv (i+1),fun σ' H' p'=>⟨n - (i+1),by omega,rq,hlt,p'⟩,λx H' y=>?_⟩;obtain⟨e,y⟩:=y;subst e y;exact hs i U _ hlt p
 ·have e:i=n:=by omega
  subst e;exact .inl ⟨Qcf _,hd U H p⟩
abbrev R2:=V->V->Hp->VK->Prop
def OpR (X:Cx) (f:Value->Value->Sem Value) (r:R2):Prop:=
 ∀(jb:YC) (s:Shared) (U : St) (H:Hp) (x y:V) (v u:Value) (Q:VK),Inv X jb U H s->RelV x v->RelV y u->r x y H Q ->
  wpAny (model X.prog X.w) X.A (f v u) (EP X jb U Q) X.xe s
def UnR (X:Cx) (f:Value->Sem Value) (r:V->Hp->VK->Prop):Prop:=
 ∀(jb:YC) (s:Shared) (U : St) (H:Hp) (x:V) (v:Value) (Q:VK),Inv X jb U H s->RelV x v->r x H Q ->
  wpAny (model X.prog X.w) X.A (f v) (EP X jb U Q) X.xe s
def Ew (X:Cx) (f:Value) (r:YG->Hp->VK->Prop):Prop:=
 ∀(jb:YC) (s:Shared) (U : St) (H:Hp) (xs:YG) (us:YE) (Q:VK),Inv X jb U H s->Vals xs us->r xs H Q ->
  wpAny (model X.prog X.w) X.A (call f us) (EP X jb U Q) X.xe s
def BT (X:Cx) (r:V->Hp->(Bool->Hp->Prop)->Prop):Prop:=
 ∀(jb:YC) (s:Shared) (U : St) (H:Hp) (x:V) (v:Value) (Q:Bool->Hp->Prop),Inv X jb U H s->RelV x v->r x H Q ->
  wpAny (model X.prog X.w) X.A (truthy v) (TP X jb U Q) X.xe s
def tOp (r:R2) (ta tb:TE):TE:=fun U H Q=>ta U H λx H1=>tb U H1 λy H2=>r x y H2 Q
def tUn (r:V->Hp->VK->Prop) (ta:TE):TE:=fun U H Q=>ta U H λx H1=>r x H1 Q
def rI (C:Int->Int->Prop) (g:Int->Int->V):R2:=λx y H Q=>∃i j,x=.int i/\y=.int j/\C i j/\Q (g i j) H
def rI0 (g:Int->Int->V):R2:=λx y H Q=>∃i j,x=.int i/\y=.int j/\Q (g i j) H
def rU (g:Int->V):V->Hp->VK->Prop:=λx H Q=>∃i,x=.int i/\Q (g i) H
section
variable {X:Cx} {a b c:Expr} {ta tb tc:TE} {pos:Pos}
theorem j5 (ha:PE X a ta) (hb:PE X b tb) {jb:YC} {s:Shared} {U : St} {H:Hp} {R:V->V->Hp->Prop} (I:Inv X jb U H s)
  (h:ta U H λx H1=>tb U H1 λy H2=>R x y H2) {Q:YA} {f:Value->Value->Sem Value}
  (hf:∀v u s2 x y H2,Inv X jb U H2 s2->RelV x v->RelV y u->R x y H2->wpAny (model X.prog X.w) X.A (f v u) Q X.xe s2) :
  wpAny (model X.prog X.w) X.A (eval a X.env) (λv s₁=>wpAny (model X.prog X.w) X.A (eval b X.env) (λu s₂=>wpAny (model X.prog X.w) X.A (f v u) Q X.xe s₂) X.xe s₁) X.xe s:=by
 refine thn (ha jb s U H _ I h) λv s1 zz=>?_;obtain⟨x,H1,I1,r1,q1⟩:=zz;refine thn (hb jb s1 U H1 _ I1 q1) λu s2 zz=>?_;obtain⟨y,H2,I2,r2,q2⟩:=zz;exact hf v u s2 x y H2 I2 r1 r2 q2
theorem Aq {op:Operator} {r:R2} (ho:OpR X (binaryOp op) r) (ha:PE X a ta) (hb:PE X b tb):PE X (.BinOp a op b pos) (tOp r ta tb):=by
 intro jb s U H Q I h;exact wpAny_BinOp (j5 ha hb I h λv u s2 x y H2 I2 rx ry q=>ho jb s2 U H2 x y v u Q I2 rx ry q)
theorem Vs {op:UnaryOp} {r:V->Hp->VK->Prop} (ho:UnR X (unaryOp op) r) (ha:PE X a ta):PE X (.UnaryOp op a pos) (tUn r ta):=by
 intro jb s U H Q I h;refine UnaryOp_ (thn (ha jb s U H _ I h) λv s1 zz=>?_);obtain⟨x,H1,I1,r1,q1⟩:=zz;exact ho jb s1 U H1 x v Q I1 r1 q1
theorem opI {f:Value->Value->Sem Value} {C:Int->Int->Prop} {g:Int->Int->Int}
  (rule:∀(i j:Int) (t u:Tok) (s:Shared) (Q:YA) (E:YA),C i j->Q (.int (g i j) s.toks) { s with toks:=s.toks+1 }->wpAny (model X.prog X.w) X.A (f (.int i t) (.int j u)) Q E s) :
  OpR X f (rI C λi j=>.int (g i j)):=by
 intro jb s U H x y v u Q I rx ry h;obtain⟨i,j,rfl,rfl,hc,q⟩:=h;obtain⟨t,rfl⟩:=rx;obtain⟨t',rfl⟩:=ry;exact rule i j t t' s _ _ hc ⟨.int (g i j),H,I.tok _,⟨_,rq⟩,q⟩
theorem qR {f:Value->Value->Sem Value} {g:Int->Int->Int}
  (rule:∀(i j:Int) (t u:Tok) (s:Shared) (Q:YA) (E:YA),Q (.int (g i j) s.toks) { s with toks:=s.toks+1 }->wpAny (model X.prog X.w) X.A (f (.int i t) (.int j u)) Q E s) :
  OpR X f (rI0 λi j=>.int (g i j)):=by
 intro jb s U H x y v u Q I rx ry h;obtain⟨i,j,rfl,rfl,q⟩:=h;obtain⟨t,rfl⟩:=rx;obtain⟨t',rfl⟩:=ry;exact rule i j t t' s _ _ ⟨.int (g i j),H,I.tok _,⟨_,rq⟩,q⟩
theorem ZW {f:Value->Value->Sem Value} {g:Int->Int->Bool}
  (rule:∀(i j:Int) (t u:Tok) (s:Shared) (Q:YA) (E:YA),Q (.bool (g i j)) s->wpAny (model X.prog X.w) X.A (f (.int i t) (.int j u)) Q E s) :
  OpR X f (rI0 λi j=>.bl (g i j)):=by
 intro jb s U H x y v u Q I rx ry h;obtain⟨i,j,rfl,rfl,q⟩:=h;obtain⟨t,rfl⟩:=rx;obtain⟨t',rfl⟩:=ry;exact rule i j t t' s _ _ ⟨.bl (g i j),H,I,rq,q⟩
def BV (i j:Int):Prop:=0 < j/\j < 1073741824
def BU (i j:Int):Prop:=0<=j/\j<=1000000/\i.natAbs < 2 ^ 64
def Xz (i j:Int):Prop:=(-(2 ^ 64) < i/\i < 2 ^ 64)\/(-(2 ^ 64) < j/\j < 2 ^ 64)
theorem Xz.ok {i j:Int} (h:Xz i j):IntMulOk i j:=by
 rcases h with⟨h1,h2⟩|⟨h1,h2⟩
 ·exact .of_left (intBits_le_64 h1 h2)
 ·exact .of_right (intBits_le_64 h1 h2)
theorem Dd:OpR X (binaryOp .Add) (rI0 λi j=>.int (i+j)):=qR λ_ _ _ _ _ _ _ q=>add_int q
theorem Ga:OpR X (binaryOp .Sub) (rI0 λi j=>.int (i - j)):=qR λ_ _ _ _ _ _ _ q=>sub_int q
theorem Hs:OpR X (binaryOp .Mult) (rI Xz λi j=>.int (i*j)):=opI λ_ _ _ _ _ _ _ hc q=>mul_int q hc.ok
theorem Ng:OpR X (binaryOp .FloorDiv) (rI BV λi j=>.int (i / j)):=opI λi j _ _ _ _ _ hc q=>by
 have h1:(0:Int) < j:=hc.1;have h2:j < 1073741824:=hc.2;exact floordiv_int (by omega) (by rw[Int.fdiv_eq_ediv_of_nonneg i (by omega)];exact q) (.inl (PyProof.noPylong_small (by omega)))
theorem Kq:OpR X (binaryOp .Mod) (rI (λ_ j=>0 < j) λi j=>.int (i % j)):=opI λi j _ _ _ _ _ hc q=>by
 have h1:(0:Int) < j:=hc;exact mod_int' (by omega) (by rw[Int.fmod_eq_emod_of_nonneg i (by omega)];exact q)
theorem cP:OpR X (binaryOp .Pow) (rI BU λi j=>.int (i ^ j.toNat)):=opI λ_ _ _ _ _ _ _ hc q=>pow_int_small hc.1 hc.2.1 hc.2.2 q
theorem unI {f:Value->Sem Value} {g:Int->Int}
  (rule:∀(i:Int) (t:Tok) (s:Shared) (Q:YA) (E:YA),Q (.int (g i) s.toks) { s with toks:=s.toks+1 }->wpAny (model X.prog X.w) X.A (f (.int i t)) Q E s) :
  UnR X f (rU λi=>.int (g i)):=by
 intro jb s U H x v Q I rx h;obtain⟨i,rfl,q⟩:=h;obtain⟨t,rfl⟩:=rx;exact rule i t s _ _ ⟨.int (g i),H,I.tok _,⟨_,rq⟩,q⟩
theorem Rp:UnR X (unaryOp .USub) (rU λi=>.int (-i)):=unI λ_ _ _ _ _ q=>neg_int q
end
def qG:V->V->Bool
 | .non,.non=>true | .non,.int _=>true | .int _,.non=>true | .non,.bl _=>true | .bl _,.non=>true | .non,.str _=>true | .str _,.non=>true
 | .int _,.int _=>true | .bl _,.bl _=>true | .str _,.str _=>true | .byt _,.byt _=>true
 | .int _,.str _=>true | .str _,.int _=>true | .bl _,.str _=>true | .str _,.bl _=>true
 | _,_=>false
def rEq:R2:=λx y H Q=>qG x y=true/\Q (.bl (decide (x=y))) H
def rNe:R2:=λx y H Q=>qG x y=true/\Q (.bl (!decide (x=y))) H
theorem Zd {i j:Int}:decide (V.int i=V.int j)=(i == j):=by
 rw[QbF];simp
theorem eV {i j:Bool}:decide (V.bl i=V.bl j)=(i == j):=by
 rw[QbF];simp
theorem Zc {i j:Str}:decide (V.str i=V.str j)=(i == j):=by
 rw[QbF];simp
theorem Ze {i j:Array UInt8}:decide (V.byt i=V.byt j)=(i.toList == j.toList):=by
 rw[QbF];cases i;cases j;simp
section
variable {X:Cx} {a b c:Expr} {ta tb tc:TE} {pos:Pos}
theorem Cm {jb:YC} {U : St} {H:Hp} {s:Shared} {Q:VK} {k k':Bool} (I:Inv X jb U H s) (q:Q (.bl k) H) (e:k=k'):EP X jb U Q (.bool k') s:=by
 subst e;exact⟨.bl k,H,I,rq,q⟩
theorem BK:OpR X (compareOp .Eq) rEq:=by
 intro jb s U H x y v u Q I rx ry h;obtain⟨hs,q⟩:=h;cases x with
 | non=>
  cases rx;cases y with
  | non=>cases ry;exact PySem.EqNone.eq_none_none (Cm I q (by simp))
  | bl j=>cases ry;exact PySem.EqNone.eq_none_bool (Cm I q (by simp))
  | int j=>obtain⟨t',rfl⟩:=ry;exact PySem.EqNone.eq_none_int (Cm I q (by simp))
  | str j=>obtain⟨t',rfl⟩:=ry;exact PySem.EqNone.eq_none_str (Cm I q (by simp))
  | _=>exact absurd (show false=true from hs) QaP
 | bl i=>
  cases rx;cases y with
  | non=>cases ry;exact PySem.EqNone.eq_bool_none (Cm I q (by simp))
  | bl j=>cases ry;exact eq_bool (Cm I q eV)
  | str j=>obtain⟨t',rfl⟩:=ry;exact PySem.EqMixed.eq_bool_str (Cm I q (by simp))
  | _=>exact absurd (show false=true from hs) QaP
 | int i=>
  obtain⟨t,rfl⟩:=rx;cases y with
  | non=>cases ry;exact PySem.EqNone.eq_int_none (Cm I q (by simp))
  | int j=>obtain⟨t',rfl⟩:=ry;exact eq_int (Cm I q Zd)
  | str j=>obtain⟨t',rfl⟩:=ry;exact PySem.EqMixed.eq_int_str (Cm I q (by simp))
  | _=>exact absurd (show false=true from hs) QaP
 | str i=>
  obtain⟨t,rfl⟩:=rx;cases y with
  | non=>cases ry;exact PySem.EqNone.eq_str_none (Cm I q (by simp))
  | bl j=>cases ry;exact PySem.EqMixed.eq_str_bool (Cm I q (by simp))
  | int j=>obtain⟨t',rfl⟩:=ry;exact PySem.EqMixed.eq_str_int (Cm I q (by simp))
  | str j=>obtain⟨t',rfl⟩:=ry;exact eq_str (Cm I q Zc)
  | _=>exact absurd (show false=true from hs) QaP
 | byt i=>
  obtain⟨t,rfl⟩:=rx;cases y with
  | byt j=>obtain⟨t',rfl⟩:=ry;exact PySem.W.eq_bytes (Cm I q Ze)
  | _=>exact absurd (show false=true from hs) QaP
 | _=>cases y <;> exact absurd (show false=true from hs) QaP
theorem Jt:OpR X (compareOp .NotEq) rNe:=by
 intro jb s U H x y v u Q I rx ry h;obtain⟨hs,q⟩:=h;cases x with
 | non=>
  cases rx;cases y with
  | non=>cases ry;exact PySem.EqNone.ne_none_none (Cm I q (by simp))
  | bl j=>cases ry;exact PySem.EqNone.ne_none_bool (Cm I q (by simp))
  | int j=>obtain⟨t',rfl⟩:=ry;exact PySem.EqNone.ne_none_int (Cm I q (by simp))
  | str j=>obtain⟨t',rfl⟩:=ry;exact PySem.EqNone.ne_none_str (Cm I q (by simp))
  | _=>exact absurd (show false=true from hs) QaP
 | bl i=>
  cases rx;cases y with
  | non=>cases ry;exact PySem.EqNone.ne_bool_none (Cm I q (by simp))
  | bl j=>cases ry;exact ne_bool (Cm I q (congrArg not eV))
  | str j=>obtain⟨t',rfl⟩:=ry;exact PySem.EqMixed.ne_bool_str (Cm I q (by simp))
  | _=>exact absurd (show false=true from hs) QaP
 | int i=>
  obtain⟨t,rfl⟩:=rx;cases y with
  | non=>cases ry;exact PySem.EqNone.ne_int_none (Cm I q (by simp))
  | int j=>obtain⟨t',rfl⟩:=ry;exact ne_int (Cm I q (congrArg not Zd))
  | str j=>obtain⟨t',rfl⟩:=ry;exact PySem.EqMixed.ne_int_str (Cm I q (by simp))
  | _=>exact absurd (show false=true from hs) QaP
 | str i=>
  obtain⟨t,rfl⟩:=rx;cases y with
  | non=>cases ry;exact PySem.EqNone.ne_str_none (Cm I q (by simp))
  | bl j=>cases ry;exact PySem.EqMixed.ne_str_bool (Cm I q (by simp))
  | int j=>obtain⟨t',rfl⟩:=ry;exact PySem.EqMixed.ne_str_int (Cm I q (by simp))
  | str j=>obtain⟨t',rfl⟩:=ry;exact ne_str (Cm I q (congrArg not Zc))
  | _=>exact absurd (show false=true from hs) QaP
 | byt i=>
  obtain⟨t,rfl⟩:=rx;cases y with
  | byt j=>obtain⟨t',rfl⟩:=ry;exact PySem.W.ne_bytes (Cm I q (congrArg not Ze))
  | _=>exact absurd (show false=true from hs) QaP
 | _=>cases y <;> exact absurd (show false=true from hs) QaP
theorem JW:OpR X (compareOp .Lt) (rI0 λi j=>.bl (decide (i < j))):=ZW λ_ _ _ _ _ _ _ q=>lt_int q
theorem G7:OpR X (compareOp .LtE) (rI0 λi j=>.bl (decide (i<=j))):=ZW λ_ _ _ _ _ _ _ q=>le_int q
theorem Vt:OpR X (compareOp .Gt) (rI0 λi j=>.bl (decide (j < i))):=ZW λ_ _ _ _ _ _ _ q=>gt_int q
theorem uT:OpR X (compareOp .GtE) (rI0 λi j=>.bl (decide (j<=i))):=ZW λ_ _ _ _ _ _ _ q=>ge_int q
theorem Kr:OpR X (compareOp .In) (λx y H Q=>∃i j,x=.str i/\y=.str j/\Q (.bl (!(Builtin.Str.occurrences j i 0 j.length 1).isEmpty)) H):=by
 intro jb s U H x y v u Q I rx ry h;obtain⟨i,j,rfl,rfl,q⟩:=h;obtain⟨t,rfl⟩:=rx;obtain⟨t',rfl⟩:=ry;exact in_str (Cm I q rfl)
theorem OpR.or {f:Value->Value->Sem Value} {r r':R2} (h:OpR X f r) (h':OpR X f r'):OpR X f (λx y H Q=>r x y H Q\/r' x y H Q):=by
 intro jb s U H x y v u Q I rx ry q;rcases q with q | q
 ·exact h jb s U H x y v u Q I rx ry q
 ·exact h' jb s U H x y v u Q I rx ry q
theorem Bc (b:Expr) {op:CmpOp} (h:op≠.In:=by decide) (h2:op≠.NotIn:=by decide):behindInMarks op b=false:=by
 have e1:(op == CmpOp.In)=false:=by cases op <;> first | rfl | exact absurd rfl h
 have e2:(op == CmpOp.NotIn)=false:=by cases op <;> first | rfl | exact absurd rfl h2
 cases b <;> simp[behindInMarks,e1,e2]
theorem Dy {op:CmpOp} {r:R2} (ho:OpR X (compareOp op) r) (ha:PE X a ta) (hb:PE X b tb) (hm:behindInMarks op b=false):PE X (.Compare a [op] [b] pos) (tOp r ta tb):=by
 intro jb s U H Q I h;exact wpAny_Compare1 (j5 ha hb I h λv u s2 x y H2 I2 rx ry q=>ho jb s2 U H2 x y v u Q I2 rx ry q) hm
def lq (t:TE):TT:=fun U H Q=>t U H λx H'=>∃k,x=.bl k/\Q k H'
theorem Av {op:CmpOp} {r:R2} (ho:OpR X (compareOp op) r) (ha:PE X a ta) (hb:PE X b tb) (hm:behindInMarks op b=false):PT X (.Compare a [op] [b] pos) (lq (tOp r ta tb)):=by
 intro jb s U H Q I h;refine wpAny_isTrue_Compare1 (thn (ha jb s U H _ I h) λv s1 ⟨x,H1,I1,r1,q1⟩=>thn (hb jb s1 U H1 _ I1 q1) λu s2 ⟨y,H2,I2,r2,q2⟩=>
  thn (ho jb s2 U H2 x y v u _ I2 r1 r2 q2) λc s3 ⟨z,H3,I3,r3,k,e,q3⟩=>?_) hm
 subst e;cases r3;exact Qbf ⟨H3,I3,q3⟩
def bN (r r':R2) (ta tb tc:TE):TE:=fun U H Q=>ta U H λx H1=>tb U H1 λy H2=>r x y H2 λz H3=>∃k,z=.bl k /\
 (if k=true then tc U H3 λw' H4=>r' y w' H4 Q else Q (.bl false) H3)
theorem NZ {op op':CmpOp} {r r':R2} (ho:OpR X (compareOp op) r) (ho':OpR X (compareOp op') r') (ha:PE X a ta) (hb:PE X b tb) (hc:PE X c tc)
  (hm:lastMarks [op,op'] [b,c]=false:=by with_unfolding_all rfl):PE X (.Compare a [op,op'] [b,c] pos) (bN r r' ta tb tc):=by
 intro jb s U H Q I h;refine Compare_chain (thn (ha jb s U H _ I h) λv s1 ⟨x,H1,I1,r1,q1⟩=>chain_link (thn (hb jb s1 U H1 _ I1 q1) λu s2 ⟨y,H2,I2,r2,q2⟩=>
  thn (ho jb s2 U H2 x y v u _ I2 r1 r2 q2) λd s3 ⟨z,H3,I3,r3,k,e,q3⟩=>?_)) hm
 subst e;cases r3;refine Qbf ?_;cases k with
 | false=>exact ite_ff ⟨.bl false,H3,I3,rfl,q3⟩
 | true=>exact ite_tt (chain_last (thn (hc jb s3 U H3 _ I3 q3) λw' s4 ⟨z',H4,I4,r4,q4⟩=>ho' jb s4 U H4 y z' u w' Q I4 r2 r4 q4))
theorem NT {op op':CmpOp} {r r':R2} (ho:OpR X (compareOp op) r) (ho':OpR X (compareOp op') r') (ha:PE X a ta) (hb:PE X b tb) (hc:PE X c tc)
  (hm:lastMarks [op,op'] [b,c]=false:=by with_unfolding_all rfl):PT X (.Compare a [op,op'] [b,c] pos) (lq (bN r r' ta tb tc)):=by
 intro jb s U H Q I h;refine isTrue_chain (thn (ha jb s U H _ I h) λv s1 ⟨x,H1,I1,r1,q1⟩=>test_link (thn (hb jb s1 U H1 _ I1 q1) λu s2 ⟨y,H2,I2,r2,q2⟩=>
  thn (ho jb s2 U H2 x y v u _ I2 r1 r2 q2) λd s3 ⟨z,H3,I3,r3,k,e,q3⟩=>?_)) hm
 subst e;cases r3;refine Qbf ?_;cases k with
 | false=>
  obtain⟨k',e',q'⟩:=q3;cases e';exact ite_ff ⟨H3,I3,q'⟩
 | true=>
  refine ite_tt (test_last (thn (hc jb s3 U H3 _ I3 q3) λw' s4 zz=>?_));obtain⟨z',H4,I4,r4,q4⟩:=zz;refine thn (ho' jb s4 U H4 y z' u w' _ I4 r2 r4 q4) λd' s5 zz=>?_;obtain⟨z2,H5,I5,r5,k2,e2,q5⟩:=zz;subst e2;cases r5;exact Qbf ⟨H5,I5,q5⟩
def uf (K:YD) (x:V) (H:Hp) (k:Bool):Prop:=
 match x with
 | .non=>k=false
 | .bl b=>k=b
 | .int i=>k=(i != 0)
 | .str y=>y.length<=sizeLine/\k=((y.length:Int) != 0)
 | .byt y=>y.size<=sizeLine/\k=((y.size:Int) != 0)
 | .ref p=>(∃xs,SqL K H p xs/\k=!xs.isEmpty)\/(∃xs,SqT K H p xs/\k=!xs.isEmpty)\/∃kvs,H p=some (.dK kvs)/\k=!kvs.isEmpty
 | _=>False
theorem aK {κ : Type} {kvs:List (κ×V)} {vs:List (κ×Value)} (r:KV kvs vs):(!vs.isEmpty)=!kvs.isEmpty:=by
 cases r <;> rfl
theorem RW {xs:YG} {its:YE} (r:Vals xs its):(!its.toArray.isEmpty)=!xs.isEmpty:=by
 cases r <;> simp
theorem Ln:(sizeLine:Nat) < 2 ^ 63:=by rw[sizeLine_eq];decide
theorem qb:BT X (λx H Q=>∃k,uf X.K x H k/\Q k H):=by
 intro jb s U H x v Q I rx h;obtain⟨k,e,q⟩:=h;have hl:=Ln;have hs:sizeLine=16777216:=sizeLine_eq;cases x with
 | non=>
  cases rx;have e':k=false:=e;subst e';exact truthy_none ⟨H,I,q⟩
 | bl b=>
  cases rx;have e':k=b:=e;subst e';exact Qbf ⟨H,I,q⟩
 | int i=>
  obtain⟨t,rfl⟩:=rx;have e':k=(i != 0):=e;subst e';exact PySem.P.truthy_int ⟨H,I,q⟩
 | str y=>
  obtain⟨t,rfl⟩:=rx;obtain⟨hy,e'⟩ : y.length<=sizeLine/\k=((y.length:Int) != 0):=e;subst e';exact PySem.P.truthy_str (by omega) ⟨H,I.tok _,q⟩
 | byt y=>
  obtain⟨t,rfl⟩:=rx;obtain⟨hy,e'⟩ : y.size<=sizeLine/\k=((y.size:Int) != 0):=e;subst e';exact PySem.W.truthy_bytes (by omega) ⟨H,I.tok _,q⟩
 | ref p=>
  cases rx;have e':(∃xs,SqL X.K H p xs/\k=!xs.isEmpty)\/(∃xs,SqT X.K H p xs/\k=!xs.isEmpty)\/∃kvs,H p=some (.dK kvs)/\k=!kvs.isEmpty:=e;rcases e' with⟨xs,hx,e'⟩|⟨xs,hx,e'⟩|⟨kvs,hx,e'⟩
  ·subst e';obtain⟨its,r,pl,hz⟩:=I.list hx;have hlen:=r.length;exact wpAny_truthy_list pl.isList (by simp only[Qbc];omega) ⟨H,I.tok _,by rw[RW r];exact q⟩
  ·subst e';obtain⟨its,r,pl,hz⟩:=I.tuple hx;have hlen:=r.length;exact truthy_tuple pl (by simp only[Qbc];omega) ⟨H,I.tok _,by rw[RW r];exact q⟩
  ·subst e';obtain⟨hz,hS,vs,r,m⟩ : kvs.length<=sizeLine/\(p == sysModules)=false/\∃vs,KV kvs vs/\s.heap.DictOf (Eh X.prog X.w) p vs:=I.hok p _ hx;have hlen:kvs.length=vs.length:=Paired.length r;exact wpAny_truthy_dict hS m (by omega) ⟨H,I.tok _,by rw[aK r];exact q⟩
 | _=>exact (show False from e).elim
theorem Bb:OpR X (binaryOp .Add) (λx y H Q=>∃i j,x=.str i/\y=.str j/\i.length+j.length<=sizeLine/\Q (.str (i++j)) H):=by
 intro jb s U H x y v u Q I rx ry h;obtain⟨i,j,rfl,rfl,hz,q⟩:=h;obtain⟨t,rfl⟩:=rx;obtain⟨t',rfl⟩:=ry;exact add_str (λt' tk=>⟨.str (i++j),H,I.tok _,⟨_,rq⟩,q⟩) hz
theorem vals1 {x:V} {us:YE} (r:Vals [x] us):∃u,us=[u]/\RelV x u:=by
 cases r with
 | cons r1 r2=>cases r2;exact⟨_,rfl,r1⟩
theorem vals2 {x y:V} {us:YE} (r:Vals [x,y] us):∃u w',us=[u,w']/\RelV x u/\RelV y w':=by
 cases r with
 | cons r1 r2=>
  cases r2 with
  | cons r3 r4=>cases r4;exact⟨_,_,rfl,r1,r3⟩
theorem Xn:Ew X (.builtin "abs") (λxs H Q=>∃i,xs=[.int i]/\Q (.int (if i < 0 then -i else i)) H):=by
 intro jb s U H xs us Q I r h;obtain⟨i,rfl,q⟩:=h;obtain⟨u,rfl,t,rfl⟩:=vals1 r;exact call_abs_int λu tk=>⟨.int (if i < 0 then -i else i),H,I.tok _,⟨_,rq⟩,q⟩
theorem fO (hc:X.calm=true):Ew X (.builtin "max") (λxs H Q=>∃i j,xs=[.int i,.int j]/\Q (.int (if j > i then j else i)) H):=by
 intro jb s U H xs us Q I r h;obtain⟨i,j,rfl,q⟩:=h;obtain⟨u,w',rfl,⟨t,rfl⟩,⟨t',rfl⟩⟩:=vals2 r;refine max_two_ints (I.ok.hd hc) λh' tk k=>⟨_,H,I.kept k,?_,q⟩;by_cases hj:j > i
 ·rw[if_pos hj,if_pos hj];exact⟨_,rq⟩
 ·rw[if_neg hj,if_neg hj];exact⟨_,rq⟩
theorem fM (hc:X.calm=true):Ew X (.builtin "min") (λxs H Q=>∃i j,xs=[.int i,.int j]/\Q (.int (if j < i then j else i)) H):=by
 intro jb s U H xs us Q I r h;obtain⟨i,j,rfl,q⟩:=h;obtain⟨u,w',rfl,⟨t,rfl⟩,⟨t',rfl⟩⟩:=vals2 r;refine min_two_ints (I.ok.hd hc) λh' tk k=>⟨_,H,I.kept k,?_,q⟩;by_cases hj:j < i
 ·rw[if_pos hj,if_pos hj];exact⟨_,rq⟩
 ·rw[if_neg hj,if_neg hj];exact⟨_,rq⟩
theorem Pu:Ew X (.type "int") (λxs H Q=>(∃i,xs=[.int i]/\Q (.int i) H)\/∃k,xs=[.bl k]/\Q (.int (if k then 1 else 0)) H):=by
 intro jb s U H xs us Q I r h;rcases h with⟨i,rfl,q⟩|⟨k,rfl,q⟩
 ·obtain⟨u,rfl,t,rfl⟩:=vals1 r;exact call_int_int ⟨.int i,H,I,⟨_,rq⟩,q⟩
 ·obtain⟨u,rfl,r1⟩:=vals1 r;cases r1;exact call_int_bool ⟨.int (if k then 1 else 0),H,I.tok _,⟨_,rq⟩,q⟩
end
structure j8 (h:Heap) (x dx C:Addr) (mA:YB):Prop where
 obj:h.get? x=some (PySem.W.instObj C dx)
 ns:h.Ns1 dx mA
 ne:dx≠x
theorem dj {h:Heap} {dx:Addr} {mA:YB} (n:h.Ns1 dx mA):∃od,h.get? dx=some od/\∀name,PySem.W.lookIn name od=some (mA name):=by
 obtain⟨o,es,ep,ho,hd,hk,_,hm⟩:=n;refine⟨o,ho,λname=>?_⟩;have e:=hm name;unfold nsFind findBy at e;rw[<-Array.find?_toList] at e;unfold PySem.W.lookIn;rw[hd];dsimp only;split
 ·rename_i y q;rw[q] at e;exact congrArg some e
 ·rename_i q;rw[q] at e;have a:es.toList.any (·.refKey)=false:=by
   rw[List.any_eq_false];intro y hy;obtain⟨z,t,hkey⟩:=hk y (Array.mem_toList_iff.mp hy);simp[DictEntry.refKey,hkey]
  have a':¬es.toList.any (·.refKey)=true:=by rw[a];exact QaP
  rw[if_neg a'];exact congrArg some e
theorem j8.look {h:Heap} {x dx C:Addr} {mA:YB} (I:j8 h x dx C mA):∃od,PySem.W.InstAt h x (PySem.W.instObj C dx) C (some od)/\∀name,PySem.W.lookIn name od=some (mA name):=
 let ⟨od,ho,hl⟩:=dj I.ns
 ⟨od,⟨I.obj,rq,rq,ho⟩,hl⟩
section
variable {prog:Program} {w:World} {A:Around} {E:YA} {s:Shared} {K:YD} {x dx C f:Addr} {mA:YB} {name:Str} {v:Value}
end
theorem JR.some_of {v:V} {o:Option Value} (r:JR (some v) o):∃u,o=some u/\RelV v u:=by
 cases o with
 | none=>exact (show False from r).elim
 | some u=>exact⟨u,rfl,r⟩
section
variable {P:Program} {w:World} {H H':Hp} {h h':Heap} {a C dx:Addr} {fs fs':List (Str×V)}
theorem oO (hok:HOk P w H h) (e:H a=some (.ins C dx fs)):∃mA,j8 h a dx C mA/\(∀f,JR (fs.lookup f) (mA f))/\PySem.Within mA (fs.map (·.1))/\fs.length<=1000/\H dx=some (.own a):=by
 obtain⟨d,z,ne,ob,mA,n,r,q⟩:=(show CQ P w H h a (.ins C dx fs) from hok a _ e)
 exact⟨mA,⟨ob,n,ne⟩,r,q,z,d⟩
end
structure Cls (K:YD) (C:Addr):Prop where
 pg:PySem.W.plainGet K C Str.empty=true
 hd:PySem.W.hasDictIn K C=true
 po:PySem.W.plainOver K C=true
 sa:findIn K (.ref C) "__setattr__"=some (some (.builtin "object.__setattr__"))
theorem Cls.get {K:YD} {C:Addr} (c:Cls K C) (f:Str):PySem.W.plainGet K C f=true:=c.pg
section
variable {X:Cx} {jb:YC} {U : St} {H:Hp} {s:Shared} {a C dx:Addr} {fs:List (Str×V)} {f:Str} {v:V} {A:Around} {E:YA}
end
section
variable {X:Cx} {o e value:Expr} {f:Str} {pos pos' tpos:Pos} {ta tv:TE}
end
section
variable {X:Cx} {jb:YC} {U : St} {H:Hp} {s:Shared} {A:Around} {E:YA} {Q:YA} {c:Value} {b:Bool}
inductive JQ (K:YD) (H:Hp):V->Value->Prop where
 | non:JQ K H .non (.type "NoneType")
 | bl (x:Bool):JQ K H (.bl x) (.type "bool")
 | int (i:Int):JQ K H (.int i) (.type "int")
 | str (x:Str):JQ K H (.str x) (.type "str")
 | flt (x:UInt64):JQ K H (.flt x) (.type "float")
 | lst {a:Addr} {xs:YG} (e:H a=some (.lst xs)):JQ K H (.ref a) (.type "list")
 | frz {a:Addr} {o:Obj} {xs:YG} (e:H a=some (.frz o (.lst xs))):JQ K H (.ref a) (.type "list")
 | tup {a:Addr} {xs:YG} (e:H a=some (.tup xs)):JQ K H (.ref a) (.type "tuple")
 | dK {a:Addr} {kvs:List (Key×V)} (e:H a=some (.dK kvs)):JQ K H (.ref a) (.type "dict")
 | dT {a:Addr} {kvs:List (List Key×V)} (e:H a=some (.dT kvs)):JQ K H (.ref a) (.type "dict")
 | ins {a C dx:Addr} {fs:List (Str×V)} (e:H a=some (.ins C dx fs)) (cl:Cls K C) (ha:findIn K (.ref C) "__class__"=some (some (.builtin "object.__class__")))
   (hn:PySem.W.specialIn K (.builtin "object.__class__") "__get__"=some (some (.builtin "getset_descriptor.__get__"))) (htk:PySem.W.takesIn K (.builtin "object.__class__")=some true)
   (hm:PySem.W.mroIn K C (.type "object")=some true):JQ K H (.ref a) (.ref C)
theorem dO {x:V} {u t:Value} (I:Inv X jb U H s) (rx:RelV x u) (ty:JQ X.K H x t) (e:kitOne X.K t c=some b) (h:∀tk,Q (.bool b) { s with toks:=tk }) :
  wpAny (model X.prog X.w) A (call (.builtin "isinstance") [u,c]) Q E s:=by
 cases ty with
 | non=>cases (show u=Value.none from rx);exact kia_one PySem.W.kitx_none I.kIn True.intro e (λz=>nomatch z) h
 | bl y=>cases (show u=Value.bool y from rx);exact kia_one PySem.W.kitx_bool I.kIn True.intro e (λz=>nomatch z) h
 | int i=>obtain⟨t,q⟩:=(show ∃t,u=Value.int i t from rx);cases q;exact kia_one PySem.W.kitx_int I.kIn True.intro e (λz=>nomatch z) h
 | str y=>obtain⟨t,q⟩:=(show ∃t,u=Value.str y t from rx);cases q;exact kia_one PySem.W.kitx_str I.kIn True.intro e (λz=>nomatch z) h
 | flt y=>obtain⟨t,q⟩:=(show ∃t,u=Value.float y t from rx);cases q;exact kia_one PySem.W.kitx_float I.kIn True.intro e (λz=>nomatch z) h
 | @lst a xs ea=>
  cases (show u=Value.ref a from rx)
  obtain⟨_,_,n,_,h1⟩:=(show CQ X.prog X.w H s.heap a (.lst xs) from I.hok a _ ea)
  exact kia_one PySem.W.kitx_list I.kIn ⟨_,h1,rq⟩ e (λz=>nomatch z) h
 | @frz a ob xs ea=>
  cases (show u=Value.ref a from rx)
  obtain⟨_,_,_,n,_,h1⟩:=(show CQ X.prog X.w H s.heap a (.frz ob (.lst xs)) from I.hok a _ ea)
  exact kia_one PySem.W.kitx_list I.kIn ⟨_,h1,rq⟩ e (λz=>nomatch z) h
 | @tup a xs ea=>
  cases (show u=Value.ref a from rx)
  obtain⟨_,_,_,p⟩:=(show CQ X.prog X.w H s.heap a (.tup xs) from I.hok a _ ea)
  obtain⟨o,h1,h2,_⟩:=p;exact kia_one PySem.W.kitx_tuple I.kIn ⟨o,h1,h2⟩ e (λz=>nomatch z) h
 | @dK a kvs ea=>
  cases (show u=Value.ref a from rx)
  obtain⟨_,_,vs,_,p⟩:=(show CQ X.prog X.w H s.heap a (.dK kvs) from I.hok a _ ea)
  obtain⟨o,es,ep,h1,h2,_⟩:=p;exact kia_one PySem.W.kitx_dict I.kIn ⟨o,h1,h2.1⟩ e (λz=>nomatch z) h
 | @dT a kvs ea=>
  cases (show u=Value.ref a from rx)
  obtain⟨_,_,xs,_,o,es,ep,h1,h2,_⟩:=(show CQ X.prog X.w H s.heap a (.dT kvs) from I.hok a _ ea)
  exact kia_one PySem.W.kitx_dict I.kIn ⟨o,h1,h2.1⟩ e (λz=>nomatch z) h
 | @ins a C dx fs ea cl ha hn htk hm=>
  cases (show u=Value.ref a from rx)
  obtain⟨mA,O,_⟩:=oO I.hok ea;obtain⟨od,J,_⟩:=O.look;exact kia_one (PySem.W.kitx_own (cl.get _) cl.hd ha hn htk hm) I.kIn J e (λz=>nomatch z) h
end
structure DK (k:Nat) (A:Around):Prop where
 hd:A.handled=none
 dp:A.depth+3*k+5 < recursionLimit
 un:A.units+16*k+200 < cLine
 gd:A.guards=some []
theorem DK.mono {j k:Nat} {A:Around} (r:DK k A) (h:j<=k):DK j A:=⟨r.hd,by have:=r.dp;omega,by have:=r.un;omega,r.gd⟩
theorem DK.deeper {k:Nat} {A:Around} (r:DK (k+1) A) (env:Env):DK k (A.deeper env):=
 ⟨r.hd,by have:=r.dp;show A.depth+1+3*k+5 < _;omega,by have:=r.un;show A.units+3+16*k+200 < _;omega,r.gd⟩
theorem DK.in1 {k:Nat} {A:Around} (r:DK (k+1) A):DK k A.in1:=
 ⟨r.hd,by have:=r.dp;show A.depth+3*k+5 < _;omega,by have:=r.un;show A.units+1+16*k+200 < _;omega,r.gd⟩
theorem DK.depth {k:Nat} {A:Around} (r:DK k A):A.depth < recursionLimit:=by have:=r.dp;omega
theorem DK.units {k:Nat} {A:Around} (r:DK k A):A.units+64 < cLine:=by have:=r.un;omega
def vZ:TA:=λ_ H Q=>Q [] H
def uK (ta:TE) (tr:TA):TA:=fun U H Q=>ta U H λx H1=>tr U H1 λxs H2=>Q (x::xs) H2
section
variable {X:Cx} {e:Expr} {es:YJ} {te:TE} {t:TA} {pos:Pos}
theorem Ab:PA X [] vZ:=λ_ _ _ _ H Q I h=>Calls.spliced_nil ⟨[],H,I,.nil,h⟩
theorem Aa (ha:PE X e te) (hr:PA X es t) (hs:starEach (e::es) X.env=(false,eval e X.env)::starEach es X.env:=by rfl):PA X (e::es) (uK te t):=by
 intro pos jb s U H Q I h;rw[hs];show wpAny _ _ (spliced ((false,eval e X.env)::backTo pos (starEach es X.env))) _ _ s;refine Calls.spliced_cons (thn (ha jb s U H _ I h) λu s1 zz=>?_);obtain⟨x,H1,I1,r1,q1⟩:=zz;refine thn (hr pos jb s1 U H1 _ I1 q1) λus s2 zz=>?_;obtain⟨xs,H2,I2,r2,q2⟩:=zz;exact⟨x::xs,H2,I2,.cons r1 r2,q2⟩
def vU (t:TA):TE:=fun U H Q=>t U H λxs H1=>xs.length<=sizeLine/\∀p,H1 p=none->Q (.ref p) (upd H1 p (.tup xs))
def v8 (t:TA):TE:=fun U H Q=>t U H λxs H1=>xs.length<=sizeLine/\∀p,H1 p=none->Q (.ref p) (upd H1 p (.lst xs))
theorem Bl {x1} (h:PA X es t):PE X (.Tuple es x1 pos) (vU t):=by
 intro jb s U H Q I hq;refine wpAny_Tuple_spliced (thn (h pos jb s U H _ I hq) λus s1 zz=>?_);obtain⟨xs,H1,I1,r,z,q⟩:=zz;refine⟨by rw[<-r.length];exact z,?_⟩;have hf:H1 s1.heap.objs.size=none:=I1.hok.fresh (Qcf _);refine⟨.ref s1.heap.objs.size,upd H1 s1.heap.objs.size (.tup xs),I1.laid (t':=s1.toks) (λb u e=>Qat _ e) (Qcf _) ?_,rq,q _ hf⟩;exact⟨z,us,r,⟨_,QaF _ rfl,rq,_,rq⟩⟩
theorem Dj (h:PA X es t):PE X (.List es pos) (v8 t):=by
 intro jb s U H Q I hq;refine wpAny_List_spliced (thn (h pos jb s U H _ I hq) λus s1 zz=>?_);obtain⟨xs,H1,I1,r,z,q⟩:=zz;refine⟨by rw[<-r.length];exact z,?_⟩;have hf:H1 s1.heap.objs.size=none:=I1.hok.fresh (Qcf _);refine⟨.ref s1.heap.objs.size,upd H1 s1.heap.objs.size (.lst xs),I1.laid (t':=s1.toks) (λb u e=>Qat _ e) (Qcf _) ?_,rq,q _ hf⟩;exact⟨z,us,0,r,QaF _ rfl⟩
end
abbrev Sp:=YG->Hp->VK->XK->Prop
abbrev CXT:=List Env->Hp->Shared->XK->YA
structure Om (P:Program) (w:World) (K:YD) (mg:YB) (base:Heap) (A:Around) (outer:List Env) (s:Shared) (H:Hp):Prop where
 frames:A.frames=some outer
 mod:Mod K mg base
 bs:∀b o,base.get? b=some o->s.heap.get? b=some o/\H b=none
 bsz:base.objs.size<=s.heap.objs.size
 Gg:s.heap.FunFrames base outer
 frf:∀b∈frs outer,H b=none
 hok:HOk P w H s.heap
 bare:AllBare s.gens
def CE (outer:List Env) (P:Program) (w:World) (H:Hp) (s:Shared) (Q:VK) (u:Value) (s':Shared):Prop:=
 ∃v H',s'.os=s.os/\AllBare s'.gens/\Un (frs outer) [] H H' s.heap s'.heap/\HOk P w H' s'.heap/\RelV v u/\Q v H'
def CR (CX:CXT) (outer:List Env) (P:Program) (w:World) (H:Hp) (s:Shared) (Q:VK) (E:XK) (r:Result) (s':Shared):Prop:=
 match r with
 | .ok (.ret u)=>CE outer P w H s Q u s'
 | .ok _=>False
 | .error e=>CX outer H s E e s'
structure Jw (P:Program) (w:World) (K:YD) (mg:YB) (base:Heap) (CX:CXT) (k:Nat) (f:Addr) (fd:FuncData) (ps:YF) (sp:Sp):Prop where
 len:∀vs H Q E,sp vs H Q E->vs.length=ps.length
 run:∀(A:Around) (outer:List Env) (s:Shared) (H:Hp) (args:Args) (us:YE) (vs:YG) (Q:VK) (E:XK),DK k A->Om P w K mg base A outer s H->BindsTo s fd args (ps.zip us)->Vals vs us->sp vs H Q E ->
  codeAny (model P w) A (.call (.ref f) args) (CR CX outer P w H s Q E) s
theorem Jw.imp {P:Program} {w:World} {K:YD} {mg:YB} {base:Heap} {CX:CXT} {k:Nat} {f:Addr} {fd:FuncData} {ps:YF} {sp sp':Sp} (F:Jw P w K mg base CX k f fd ps sp)
  (h:∀vs H Q E,sp' vs H Q E->sp vs H Q E):Jw P w K mg base CX k f fd ps sp':=
 ⟨λvs H Q E q=>F.len vs H Q E (h _ _ _ _ q),λA outer s H args us vs Q E hr he hb hv hs=>F.run A outer s H args us vs Q E hr he hb hv (h _ _ _ _ hs)⟩
theorem Om.in1 {P:Program} {w:World} {K:YD} {mg:YB} {base:Heap} {A:Around} {outer:List Env} {s:Shared} {H:Hp} (e:Om P w K mg base A outer s H) :
  Om P w K mg base A.in1 outer s H:=⟨e.frames,e.mod,e.bs,e.bsz,e.Gg,e.frf,e.hok,e.bare⟩
section
variable {X:Cx} {jb:YC} {U : St} {H:Hp} {s s':Shared}
theorem Inv.env0 (I:Inv X jb U H s):Om X.prog X.w X.K X.mg X.base X.A X.stack s H:=
 ⟨I.ok.frames,I.ok.mod,I.bs,Qca I.ok.bsz I.sz,I.stack,I.SM,I.hok,I.bare⟩
theorem Inv.after {Q:VK} {u:Value} (I:Inv X jb U H s) (h:CE X.stack X.prog X.w H s Q u s'):EP X jb U Q u s':=by
 obtain⟨v,H',os,bare,un,hok,r,q⟩:=h;obtain⟨hh,g,d,t,os'⟩:=s';obtain rfl:os'=s.os:=os;exact⟨v,H',I.call (h':=hh) (g':=g) (d':=d) (t':=t) (ch:=[]) un hok bare (λb z=>absurd z (by simp)),r,q⟩
end
def ZC (sp:Sp) (dvs:YG) (E:XK) (t:TA):TE:=fun U H Q=>t U H λvs H1=>sp (vs++dvs) H1 Q E
def Binds (K:YD) (fd:FuncData) (ps:YF) (ds:YE):Prop:=
 ∀(s:Shared) (us:YE),K.In s.heap->(us++ds).length=ps.length->BindsTo s fd ⟨us,[]⟩ (ps.zip (us++ds))
theorem Binds.all {K:YD} {fd:FuncData} {ps:YF} (h:∀us:YE,us.length=ps.length->bindArgs fd ⟨us,[]⟩=pure (ps.zip us)):Binds K fd ps []:=λs us _ hl=>by
 rw[QbB] at hl ⊢;exact .of_eq (h us hl)
def Passes (CX:CXT) (X:Cx) (E:XK):Prop:=∀(jb:YC) (U : St) (H:Hp) (s:Shared) (e:Value) (s':Shared),Inv X jb U H s->CX X.stack H s E e s'->X.xe e s'
section
variable {X:Cx} {CX:CXT} {k:Nat} {f C:Addr} {fd:FuncData} {ps:YF} {sp:Sp} {dvs:YG} {ds:YE} {E:XK} {x m:Str} {p pos apos:Pos} {e o:Expr} {es:YJ} {ta:TE} {t:TA}
theorem qI {jb:YC} {U : St} {H:Hp} {s:Shared} {Q:VK} {us:YE} {vs:YG} (F:Jw X.prog X.w X.K X.mg X.base CX k f fd ps sp) (hr:DK k X.A) (hb:Binds X.K fd ps ds) (hd:Vals dvs ds) (hx:Passes CX X E)
  (I:Inv X jb U H s) (r:Vals vs us) (h:sp (vs++dvs) H Q E):wpAny (model X.prog X.w) X.A (call (.ref f) us) (EP X jb U Q) X.xe s:=by
 have r2:Vals (vs++dvs) (us++ds):=r.append hd;have hl:(us++ds).length=ps.length:=by rw[<-r2.length];exact F.len _ _ _ _ h
 refine wpAny_call (codeAny_mono (F.run X.A X.stack s H ⟨us,[]⟩ (us++ds) (vs++dvs) Q E hr I.env0 (hb s us I.kIn hl) r2 h) λr s' hq=>?_);cases r with
 | error e=>exact hx jb U H s e s' I hq
 | ok fl=>
  cases fl with
  | ret u=>exact I.after hq
  | next=>exact False.elim hq
  | brk=>exact False.elim hq
  | cont=>exact False.elim hq
theorem nu (F:Jw X.prog X.w X.K X.mg X.base CX k f fd ps sp) (hr:DK k X.A) (hg:Gl X x) (hm:X.mg x=some (.ref f)) (hk:keepIn X.K (.ref f)=true) (hb:Binds X.K fd ps ds) (hd:Vals dvs ds) (hx:Passes CX X E)
  (ha:PA X (e::es) t) (hdb:(x == ("__debug__":Str))=false:=by decide) (he:starEach (e::es) X.env=(false,eval e X.env)::starEach es X.env:=by rfl) (hpl:(backTo pos (starEach es X.env)).any (·.1)=false:=by rfl) :
  PE X (.Call (.Name x p) (e::es) [] pos) (ZC sp dvs E t):=by
 intro jb s U H Q I h;refine QaW (K3 I hg hm ?_ hdb);refine PySem.W.callWith_K (h₀:=X.base) I.ok.mod.kin hk (thn (ha pos jb s U H _ I h) λus s1 zz=>?_) he hpl;obtain⟨vs,H1,I1,r,q⟩:=zz;refine⟨I1.kIn,?_⟩;exact qI F hr hb hd hx I1 r q
end
section
variable {X:Cx} {CX:CXT} {k:Nat} {f C:Addr} {fd:FuncData} {ps ks:YF} {sp:Sp} {E:XK} {x m:Str} {p pos apos kpos:Pos} {e o:Expr} {es:YJ} {kws:List Keyword} {te ta:TE} {t tk:TA} {nm:Option Str}
variable {g:YE->YE->YE} {gV:YG->YG->YG}
end
structure Bo (N P:YF) (sc:Scope):Prop where
 kind:sc.kind=.function
 co:sc.isCoroutine=false
 gen:sc.isGenerator=false
 nd:N.Nodup
 pre:N.take P.length=P
 par:∀x∈P,sc.names.lookup x=some .local\/sc.names.lookup x=some .cell
 Wy:∀y∈sc.names,y.2≠.free
theorem Uz {kindOf:Str->Option NameKind} {x:Str}:∀{binds:List (Str×Value)} {m:YB},(∀v,(x,v)∉binds)->bindL kindOf binds m x=m x
 | [],_,_=>rfl
 | (n,v)::r,m,h=>by
  unfold bindL;rw[Uz λw hw=>h w (QaB _ hw)];split
  ·have:x≠n:=by rintro rfl;exact h v QaN
   simp[this]
  ·rfl
theorem UJ {kindOf:Str->Option NameKind} {x:Str}:∀{binds:List (Str×Value)} {m:YB},(∀v,(x,v)∉binds)->bindC kindOf binds m x=m x
 | [],_,_=>rfl
 | (n,v)::r,m,h=>by
  unfold bindC;rw[UJ λw hw=>h w (QaB _ hw)];split
  ·rfl
  ·have:x≠n:=by rintro rfl;exact h v QaN
   simp[this]
theorem UG {kindOf:Str->Option NameKind} {x:Str} {v:Value}:∀{P:YF} {vs:YE} {i:Nat} {m:YB},P.Nodup->P[i]?=some x->vs[i]?=some v->kindOf x=some .local ->
  bindL kindOf (P.zip vs) m x=some v
 | [],_,_,_,_,h,_,_=>by simp at h
 | _::_,[],_,_,_,_,h,_=>by simp at h
 | p::P,w::vs,0,m,nd,h1,h2,hk=>by
  simp at h1 h2;subst h1;subst h2;show bindL kindOf ((p,w)::P.zip vs) m p=_;unfold bindL;rw[Uz λv hv=>(QbH.mp nd).1 (List.of_mem_zip hv).1,if_pos hk];simp
 | p::P,w::vs,i+1,m,nd,h1,h2,hk=>by
  show bindL kindOf ((p,w)::P.zip vs) m x=_;unfold bindL;exact UG (i:=i) (QbH.mp nd).2 (by simpa using h1) (by simpa using h2) hk
theorem UL {kindOf:Str->Option NameKind} {x:Str} {v:Value}:∀{P:YF} {vs:YE} {i:Nat} {m:YB},P.Nodup->P[i]?=some x->vs[i]?=some v->kindOf x≠some .local ->
  bindC kindOf (P.zip vs) m x=some v
 | [],_,_,_,_,h,_,_=>by simp at h
 | _::_,[],_,_,_,_,h,_=>by simp at h
 | p::P,w::vs,0,m,nd,h1,h2,hk=>by
  simp at h1 h2;subst h1;subst h2;show bindC kindOf ((p,w)::P.zip vs) m p=_;unfold bindC;rw[UJ λv hv=>(QbH.mp nd).1 (List.of_mem_zip hv).1,if_neg hk];simp
 | p::P,w::vs,i+1,m,nd,h1,h2,hk=>by
  show bindC kindOf ((p,w)::P.zip vs) m x=_;unfold bindC;exact UL (i:=i) (QbH.mp nd).2 (by simpa using h1) (by simpa using h2) hk
def start (N:YF) (vs:YG):St:=vs.map some++List.replicate (N.length - vs.length) none
def Ly (CX:CXT) (P:Program) (w:World) (K:YD) (mg:YB) (base:Heap) (N:YF) (qual:Str) (scope:Scope) (f:Addr) (cd:Value) (A:Around) (outer:List Env) (s:Shared) (H:Hp) (E:XK):Cx where
 prog:=P
 w:=w
 K:=K
 mg:=mg
 base:=base
 A:=A.deeper (envOfC qual scope s.heap.objs.size f cd)
 N:=N
 s₀:=s
 H₀:=H
 env:=envOfC qual scope s.heap.objs.size f cd
 outer:=outer
 stack:=envOfC qual scope s.heap.objs.size f cd::outer
 ex:=[]
 calm:=true
 fn:=λ_=>true
 pn:=[]
 xe:=λe s'=>wpAny (model P w) (A.deeper (envOfC qual scope s.heap.objs.size f cd)) (leaving (envOfC qual scope s.heap.objs.size f cd) e) (λ_ s''=>CX outer H s E e s'') (λe' s''=>CX outer H s E e' s'') s'
theorem Xl {sc:Scope} {n:Nat} {x:Str} (h:sc.names.lookup x=some .cell):∃c,(cellsFrom n sc.names []).lookup x=some c:=by
 have q:=PySem.W.cellsFrom_some sc.names n [] (.inl h);exact Option.isSome_iff_exists.mp q
theorem Us {CX:CXT} {P:Program} {w:World} {K:YD} {mg:YB} {base:Heap} {N ps:YF} {qual:Str} {scope:Scope} {f:Addr} {cd:Value} {A:Around} {outer:List Env} {s s1:Shared} {H:Hp} {E:XK} {us:YE} {vs:YG}
  (S:Bo N ps scope) (hd:A.handled=none) (e0:Om P w K mg base A outer s H) (hl:vs.length=ps.length) (r:Vals vs us)
  (x:InCallC s s.heap.objs.size (bindL (envOfC qual scope s.heap.objs.size f cd).kindOf (ps.zip us) λ_=>none) (cellsFrom (s.heap.objs.size+1) scope.names []) (bindC (envOfC qual scope s.heap.objs.size f cd).kindOf (ps.zip us) λ_=>none) s1) :
  Inv (Ly CX P w K mg base N qual scope f cd A outer s H E) [] (start N vs) H s1:=by
 have hpl:ps.length<=N.length:=by have:=congrArg List.length S.pre;rw[Qbn] at this;omega
 obtain⟨h1,tk,rfl,hk⟩:=x.done;have noA:∀b:Addr,b∉(Ly CX P w K mg base N qual scope f cd A outer s H E).ex:=λb z=>absurd (show b∈([]:List Addr) from z) (by simp)
 refine⟨⟨e0.mod,S.kind,rq,rq,Qcf _,λy z c h1 h2=>?_,λy hy=>?_,λy c _ h=>?_,λ_=>hd,Around.frames_deeper e0.frames,.inr ⟨rq,rq⟩,λb z=>absurd z (noA b),e0.bs,e0.bsz,λb _ _=>noA b,λb z=>absurd z (noA b),e0.Gg,e0.frf⟩,
  rfl,e0.bare,Un.kept hk,⟨_,x.toInCall.ns,λi y v h1 h2 h3=>?_⟩,λy c h=>⟨_,x.cell y c h⟩,e0.hok.fresh (Qcf _),λy c h=>?_,λp hp=>absurd (show p∈([]:YC) from hp) (by simp),e0.hok.kept hk,?_⟩
 ·exact name_of_addr x.apart (QaI h1) (QaI h2)
 ·have hy:scope.names.lookup y=some .cell\/scope.names.lookup y=some .free:=hy;rcases hy with hy | hy
  ·exact Xl hy
  ·exact absurd rfl (S.Wy _ (QaI hy))
 ·exact Nat.le_of_lt (x.above y c (QaI h))
 ·have hi:i < vs.length:=by
   unfold start at h2;by_cases hi:i < vs.length
   ·exact hi
   ·rw[Qag (by simpa using hi)] at h2;rw[List.getElem?_replicate] at h2;split at h2 <;> cases h2
  have ha:vs[i]?=some v:=by
   unfold start at h2;rw[Qak (by simpa using hi),Qbe] at h2;cases e:vs[i]? with
   | none=>rw[e] at h2;cases h2
   | some a=>rw[e] at h2;cases h2;rfl
  obtain⟨u,hu,rv⟩:=r.get ha;have hp:ps[i]?=some y:=by
   rw[<-S.pre,List.getElem?_take_of_lt (by omega)];exact h1
  have ndP:ps.Nodup:=by rw[<-S.pre];exact S.nd.sublist (List.take_sublist _ _)
  refine⟨u,rv,?_⟩;rcases S.par y (QaC hp) with k | k
  ·exact .inl ⟨k,UG ndP hp hu k⟩
  ·obtain⟨c,e⟩:=Xl (n:=s.heap.objs.size+1) k;refine .inr ⟨.inl k,c,e,?_⟩;have q:=x.cell y c e;rw[UL ndP hp hu (by show scope.names.lookup y≠_;rw[k];decide)] at q;exact q
 ·exact e0.hok.fresh (Nat.le_of_lt (x.above y c (QaI h)))
 ·unfold start;show _=N.length;rw[QaM,Qbw,List.length_replicate];omega
theorem mz {CX:CXT} {P:Program} {w:World} {K:YD} {mg:YB} {base:Heap} {k:Nat} {f:Addr} {name qual:Str} {params:Arguments} {body:List Stmt} {scope:Scope} {dV kV doc pm cdv ct oc:Value} {an od:Option Addr}
  {osl:YI} {N ps:YF} {sp:Sp} (lk:K.lookup f=some ⟨oc,od,.func (fnOf name qual params body scope dV kV doc pm an cdv ct),osl⟩) (hcd:codeIn K cdv qual=true) (S:Bo N ps scope)
  (len:∀vs H Q E,sp vs H Q E->vs.length=ps.length)
  (hbody:∀(A:Around) (outer:List Env) (s:Shared) (H:Hp) (vs:YG) (Q:VK) (E:XK),DK k (A.deeper (envOfC qual scope s.heap.objs.size f cdv))->sp vs H Q E ->
   ∃t,PSs (Ly CX P w K mg base N qual scope f cdv A outer s H E) body t/\t { nx:=λ_ H'=>Q .non H',rt:=Q } (start N vs) H) :
  Jw P w K mg base CX (k+1) f (fnOf name qual params body scope dV kV doc pm an cdv ct) ps sp:=by
 refine⟨len,λA outer s H args us vs Q E hr e0 hb r hsp=>?_⟩;have hl:=len _ _ _ _ hsp;have KX:K.In s.heap:=e0.mod.kin.keeps λb o e=>(e0.bs b o e).1;have lim:s.heap.NoLimit:=e0.mod.nolimit.keeps λb o e=>(e0.bs b o e).1;have hkind:∀y∈ps.zip us,scope.names.lookup y.1=some .local\/(scope.names.lookup y.1=some .cell/\((cellsFrom (s.heap.objs.size+1) scope.names []).lookup y.1).isSome=true):=λ⟨n,v⟩ hy=>by
  rcases S.par n (List.of_mem_zip hy).1 with q | q
  ·exact .inl q
  ·exact .inr ⟨q,PySem.W.cellsFrom_some _ _ _ (.inl q)⟩
 refine codeAny_call_function hr.depth (KX _ _ lk) rfl S.co S.gen rfl (PySem.W.codeRec_of KX hcd) (hb _ _ _ _ ?_);refine wpAny_newFunctionEnv_cells S.kind hkind λenv he s1 x=>?_;subst he;refine⟨lim.keeps x.toInCall.keep,codeAny_func ?_⟩;obtain⟨t,ht,hq⟩:=hbody A outer s H vs Q E (hr.deeper _) hsp;have I:Inv (Ly CX P w K mg base N qual scope f cdv A outer s H E) [] (start N vs) H s1:=Us S hr.hd e0 hl r x;refine Qcl (ht [] s1 (start N vs) H _ I hq) (λfl s' hs=>?_) λe s' hs=>hs;have fin:∀{σ':St} {H':Hp} {v:V} {u:Value},Inv (Ly CX P w K mg base N qual scope f cdv A outer s H E) [] σ' H' s'->RelV v u->Q v H'->CE outer P w H s Q u s':=
  λ{σ' H' v u} J rv q=>⟨v,H',J.os,J.bare,J.base,J.hok,rv,q⟩
 cases fl with
 | ret u=>
  obtain⟨v,σ',H',J,rv,q⟩:=hs;exact fin J rv q
 | next=>
  obtain⟨σ',H',J,q⟩:=hs;exact fin (v:=V.non) (u:=Value.none) J rfl q
 | brk=>
  obtain⟨_,_,_,q⟩:=hs;exact False.elim q
 | cont=>
  obtain⟨_,_,_,q⟩:=hs;exact False.elim q
section
variable {X:Cx} {x:Str} {p pos:Pos} {e:Expr} {es:YJ} {t:TA} {id T:String} {r:YG->Hp->VK->Prop}
def tCB (r:YG->Hp->VK->Prop) (t:TA):TE:=fun U H Q=>t U H λvs H1=>r vs H1 Q
theorem Ax (hc:Ew X (.builtin id) r) (hg:Gl X x) (hm:X.mg x=none) (hv:bootBuiltins x=some (.builtin id)) (ha:PA X (e::es) t) (hn:x≠"__name__":=by decide) (hdb:(x == ("__debug__":Str))=false:=by decide)
  (he:starEach (e::es) X.env=(false,eval e X.env)::starEach es X.env:=by rfl) (hpl:(backTo pos (starEach es X.env)).any (·.1)=false:=by rfl):PE X (.Call (.Name x p) (e::es) [] pos) (tCB r t):=by
 intro jb s U H Q I h;refine QaW (Ni I hg hm hv ?_ hn hdb);refine PyProof.Rows.callWith_builtin1 (thn (ha pos jb s U H _ I h) λus s1 zz=>?_) he hpl;obtain⟨vs,H1,I1,r1,q1⟩:=zz;exact hc jb s1 U H1 vs us Q I1 r1 q1
theorem Dr (hc:Ew X (.type T) r) (hg:Gl X x) (hm:X.mg x=none) (hv:bootBuiltins x=some (.type T)) (ha:PA X (e::es) t) (hn:x≠"__name__":=by decide) (hdb:(x == ("__debug__":Str))=false:=by decide)
  (he:starEach (e::es) X.env=(false,eval e X.env)::starEach es X.env:=by rfl) (hpl:(backTo pos (starEach es X.env)).any (·.1)=false:=by rfl):PE X (.Call (.Name x p) (e::es) [] pos) (tCB r t):=by
 intro jb s U H Q I h;refine QaW (Ni I hg hm hv ?_ hn hdb);refine Qab (thn (ha pos jb s U H _ I h) λus s1 zz=>?_) he hpl;obtain⟨vs,H1,I1,r1,q1⟩:=zz;exact hc jb s1 U H1 vs us Q I1 r1 q1
end
end L2
namespace HT
open PySem PyProof.Rows
section
open PySem.SeqAt
open PySem.AutoSeq1 (wpAny_loadPart')
open PySem.MeetsSeq PySem.MeetsSeq2 PySem.MeetsSeq3
end
section
variable {prog:Program} {w:World} {A:Around} {E:YA} {s:Shared}
def sIx (n d:Nat):Option Int->Nat
 | none=>d
 | some v=>if v < 0 then (v+(n:Int)).toNat else min v.toNat n
theorem Wc (n d:Nat):sIx n d none=d:=rfl
theorem S5 (n d k:Nat):sIx n d (some (k:Int))=min k n:=by
 show (if (k:Int) < 0 then ((k:Int)+(n:Int)).toNat else min (k:Int).toNat n)=min k n
 rw[if_neg (by omega),Qbh]
theorem qH (n d:Nat) (hd:d<=n) (o:Option Int):sIx n d o<=n:=by
 cases o with
 | none=>exact hd
 | some v=>
  show (if v < 0 then (v+(n:Int)).toNat else min v.toNat n)<=n
  by_cases hv:v < 0
  ·rw[if_pos hv];omega
  ·rw[if_neg hv];exact Nat.min_le_right _ _
theorem Zg (v:Int) (n d:Nat):(if v < 0 then max (v+(n:Int)) 0 else min v (n:Int))=((sIx n d (some v):Nat):Int):=by
 show (if v < 0 then max (v+(n:Int)) 0 else min v (n:Int))=(((if v < 0 then (v+(n:Int)).toNat else min v.toNat n):Nat):Int)
 by_cases hv:v < 0
 ·simp only[if_pos hv];omega
 ·simp only[if_neg hv];omega
theorem aY (lo hi:Option Int) (n:Nat):Builtin.Slice.sliceAdjust lo hi 1 (n:Int)=(((sIx n 0 lo:Nat):Int),((sIx n n hi:Nat):Int)):=by
 have h1:¬((1:Int) < 0):=by omega
 unfold Builtin.Slice.sliceAdjust;simp only[h1,if_false];refine Prod.ext ?_ ?_
 ·cases lo with
  | none=>rfl
  | some v=>exact Zg v n 0
 ·cases hi with
  | none=>rfl
  | some v=>exact Zg v n n
theorem ZV (i j:Nat):Builtin.Slice.slicePlaces (i:Int) (j:Int) 1=j - i:=by
 unfold Builtin.Slice.slicePlaces;have h1:(1:Int) > 0:=by omega
 simp only[h1,if_true,Int.ediv_one];split <;> omega
theorem Rx {v:Value} {o:Option Int} {Q:Option Int->Shared->Prop} (p:IsPart v o) (h:Q o s):wpAny (model prog w) A (Builtin.Slice.slicePartIndex v) Q E s:=by
 cases p with
 | none=>exact slicePart_none h
 | int i t=>exact slicePart_int h
theorem K7 {sl:Addr} {vl vu:Value} {lo hi:Option Int} {n:Nat} {Q:Int×Int×Nat->Shared->Prop} (hs:s.heap.IsSliceOf sl vl vu .none) (pl:IsPart vl lo) (pu:IsPart vu hi)
  (h:Q (((sIx n 0 lo:Nat):Int),1,sIx n n hi - sIx n 0 lo) s):wpAny (model prog w) A (Builtin.Slice.sliceApplied (.ref sl) (pure (n:Int))) Q E s:=by
 obtain⟨os,hos,hcs,hds⟩:=id hs;unfold Builtin.Slice.sliceApplied Builtin.Slice.sliceFields;refine Qcj (Qcj (Qch hos hds (x:=vl) rfl (Qcj (Qch hos hds (x:=vu) rfl (Qcj (Qch hos hds (x:=.none) rfl (Qck ?_)))))));refine Qcj (slicePart_none ?_);show wpAny _ _ (if ((1:Int) == 0)=true then _ else _) _ _ s
 rw[if_neg (by decide)];refine Qcj (Rx pl (Qcj (Rx pu (Qcj (Qck ?_)))));show wpAny _ _ (match Builtin.Slice.sliceAdjust lo hi 1 (n:Int) with | (lo,hi)=>pure (lo,(1:Int),Builtin.Slice.slicePlaces lo hi 1)) _ _ s
 rw[aY lo hi n];show wpAny _ _ (pure (((sIx n 0 lo:Nat):Int),(1:Int),Builtin.Slice.slicePlaces ((sIx n 0 lo:Nat):Int) ((sIx n n hi:Nat):Int) 1)) _ _ s;rw[ZV];exact Qck h
theorem iw (xs:Array Value) (i k:Nat):((List.range k).filterMap λ(m:Nat)=>xs[((i:Int)+(m:Int)*1).toNat]?).toArray=((xs.toList.drop i).take k).toArray:=by
 have e:(λ(m:Nat)=>xs[((i:Int)+(m:Int)*1).toNat]?)=λm=>xs[i+m]?:=by
  funext m
  have:((i:Int)+(m:Int)*1).toNat=i+m:=by omega
  rw[this]
 rw[e];have:=pick_run xs i k;rw[List.filterMap_map] at this;have e2:((λx=>xs[x]?) ∘ λx=>i+x)=λm=>xs[i+m]?:=rfl;rw[e2] at this;rw[this]
theorem Qv {t sl:Addr} {items:Array Value} {vl vu:Value} {lo hi:Option Int} {Q:YA} (ht:IsTup s.heap t items) (hs:s.heap.IsSliceOf sl vl vu .none) (pl:IsPart vl lo) (pu:IsPart vu hi)
  (hw:¬(sIx items.size 0 lo=0/\sIx items.size items.size hi=items.size))
  (h:Q (.ref s.heap.objs.size) { s with heap:=s.heap.push { cls:=.type "tuple",data:=.seq ((items.toList.drop (sIx items.size 0 lo)).take (sIx items.size items.size hi - sIx items.size 0 lo)).toArray } })
  (hsz:items.size<=sizeLine):wpAny (model prog w) A (getItem (.ref t) (.ref sl)) Q E s:=by
 have Vw:sizeOk (.seq ((items.toList.drop (sIx items.size 0 lo)).take (sIx items.size items.size hi - sIx items.size 0 lo)).toArray):=by
  show ((items.toList.drop (sIx items.size 0 lo)).take (sIx items.size items.size hi - sIx items.size 0 lo)).toArray.size<=sizeLine;rw[Qbc,Qbn,Qbr,QaH];omega
 have hj:sIx items.size items.size hi<=items.size:=qH _ _ (Qcf _) hi;obtain⟨os,hos,hcs,hds⟩:=id hs;have hTs:s.TypeIs (.ref sl) "slice":=⟨os,hos,hcs⟩;unfold getItem
 try with_reducible refine wpAny_holding ?_
 first | refine Qcj (Qck ?_) | skip
 refine Qcj (wpAny_sequenceKey ht.typeIs (by decide) ?_);refine Qcj (Qar (name:=Str.ofString "__getitem__") ht.typeIs Qaa
  (Qbs Qaa ht.typeIs entry_tuple_getitem ?_ (args_tuple_getitem _ _)))
 show wpAny _ _ (Builtin.Tuple.tupleItemsOf (.ref t) >>= _) _ _ s;refine Qcj (tupleItemsOf_ ht ?_);refine Qcj (wpAny_typeOf hTs ?_);rw[if_pos (by decide)];refine Qcj (K7 hs pl pu ?_);have hno:¬((((sIx items.size 0 lo:Nat):Int) == 0&&(1:Int) == 1&&(sIx items.size items.size hi - sIx items.size 0 lo) == items.size)=true):=by
  intro q;rw[Qbk,Qbk] at q;have q1:((sIx items.size 0 lo:Nat):Int)=0:=Qcn q.1.1;have q2:sIx items.size items.size hi - sIx items.size 0 lo=items.size:=Qcn q.2;exact hw ⟨by omega,by omega⟩
 show wpAny _ _ (if (((sIx items.size 0 lo:Nat):Int) == 0&&(1:Int) == 1&&(sIx items.size items.size hi - sIx items.size 0 lo) == items.size)=true then _ else _) _ _ s
 rw[if_neg hno,iw]
 first
  | exact Qcj (m:=Builtin.Tuple.tupleExact _) (Qbg (Qck ⟨_,rfl,Qck h⟩) Vw)
  | exact Qcj (m:=Builtin.Tuple.tupleExact _) (Qbg (Qcj (Qck (Qck ⟨_,rfl,Qck h⟩))) Vw)
  | exact Qcj (Qcj (m:=Builtin.Tuple.tupleExact _) (Qbg (Qck (Qck ⟨_,rfl,Qck h⟩)) Vw))
  | exact Qcj (Qcj (m:=Builtin.Tuple.tupleExact _) (Qbg (Qck ⟨_,rfl,Qck h⟩) Vw))
end
end HT
namespace L2
open PySem PySem.Spec PyProof.Rows
abbrev TO:=St->Hp->(Option Int->Hp->Prop)->Prop
def PO (X:Cx) (e:Option Expr) (t:TO):Prop:=
 ∀(jb:YC) (s:Shared) (U : St) (H:Hp) (Q:Option Int->Hp->Prop),Inv X jb U H s->t U H Q ->
  wpAny (model X.prog X.w) X.A (evalPart e X.env) (λu s'=>∃o H',Inv X jb U H' s'/\IsPart u o/\Q o H') X.xe s
def mQ:TO:=λ_ H Q=>Q none H
def uF (t:TE):TO:=fun U H Q=>t U H λx H1=>∃i,x=.int i/\Q (some i) H1
section
variable {X:Cx} {e:Expr} {te:TE} {lo hi:Option Expr} {tl th:TO} {pos p2:Pos}
theorem Bx:PO X none mQ:=by
 intro jb s U H Q I h;rw[evalPart_none];exact Qck ⟨none,H,I,.none,h⟩
theorem Bt (h:PE X e te):PO X (some e) (uF te):=by
 intro jb s U H Q I hw;rw[evalPart_some];refine thn (h jb s U H _ I hw) λu s1 zz=>?_;obtain⟨x,H1,I1,r1,q1⟩:=zz;obtain⟨i,rfl,q⟩:=q1;obtain⟨t,rfl⟩:=r1;exact⟨some i,H1,I1,.int i t,q⟩
def SlR (X:Cx) (r:V->Option Int->Option Int->Hp->VK->Prop):Prop:=
 ∀(jb:YC) (s:Shared) (U : St) (H:Hp) (x:V) (v vl vu:Value) (lo hi:Option Int) (sl:Addr) (Q:VK),Inv X jb U H s->RelV x v->s.heap.IsSliceOf sl vl vu .none->IsPart vl lo->IsPart vu hi->r x lo hi H Q ->
  ∃T id,typeLookup (.type T) "__getitem__"=pure (some (.builtin id))/\s.TypeIs v T/\wpAny (model X.prog X.w) X.A (getItem v (.ref sl)) (EP X jb U Q) X.xe s
theorem SlR.or {r r':V->Option Int->Option Int->Hp->VK->Prop} (h:SlR X r) (h':SlR X r'):SlR X (λx lo hi H Q=>r x lo hi H Q\/r' x lo hi H Q):=by
 intro jb s U H x v vl vu lo hi sl Q I rx hs pl pu q;rcases q with q | q
 ·exact h jb s U H x v vl vu lo hi sl Q I rx hs pl pu q
 ·exact h' jb s U H x v vl vu lo hi sl Q I rx hs pl pu q
def tSl (r:V->Option Int->Option Int->Hp->VK->Prop) (te:TE) (tl th:TO):TE:=fun U H Q=>te U H λx H1=>tl U H1 λl H2=>th U H2 λu H3=>r x l u H3 Q
theorem Bq {r:V->Option Int->Option Int->Hp->VK->Prop} (hr:SlR X r) (he:PE X e te) (hl:PO X lo tl) (hu:PO X hi th):PE X (.Subscript e (.Slice lo hi none p2) pos) (tSl r te tl th):=by
 intro jb s U H Q I h;refine Subscript_ (thn (he jb s U H _ I h) λv s1 zz=>?_);obtain⟨x,H1,I1,r1,q1⟩:=zz;refine wpAny_Slice (thn (hl jb s1 U H1 _ I1 q1) λvl s2 zz=>?_);obtain⟨l,H2,I2,pl,q2⟩:=zz;refine thn (hu jb s2 U H2 _ I2 q2) λvu s3 zz=>?_;obtain⟨u,H3,I3,pu,q3⟩:=zz;rw[evalPart_none];refine Qck ?_;have I4:Inv X jb U H3 { s3 with heap:=s3.heap.push { cls:=.type "slice",data:=.fields #[vl,vu,.none] } }:=I3.kept (t':=s3.toks) λb ob q=>Qat _ q;obtain⟨T,id,hT,ht,hg⟩:=hr jb { s3 with heap:=s3.heap.push { cls:=.type "slice",data:=.fields #[vl,vu,.none] } } U H3 x v vl vu l u s3.heap.objs.size Q I4 r1 (Heap.IsSliceOf.new ..) pl pu q3;show wpAny (model X.prog X.w) X.A (subscriptTail e (.Slice lo hi none p2) v (.ref s3.heap.objs.size)) (EP X jb U Q) X.xe { s3 with heap:=s3.heap.push { cls:=.type "slice",data:=.fields #[vl,vu,.none] } };exact tail_any (ops:=[.ref s3.heap.objs.size,v]) ht hT hg (by with_unfolding_all rfl)
def GP (xs:YG) (lo hi:Option Int):YG:=(xs.drop (HT.sIx xs.length 0 lo)).take (HT.sIx xs.length xs.length hi - HT.sIx xs.length 0 lo)
theorem QD (xs:YG) (lo hi:Option Int):(GP xs lo hi).length<=xs.length:=by
 unfold GP;rw[Qbn,Qbr];omega
def wk (K:YD):V->Option Int->Option Int->Hp->VK->Prop:=λx lo hi H Q=>∃a xs,x=.ref a/\SqT K H a xs /\
 ¬(HT.sIx xs.length 0 lo=0/\HT.sIx xs.length xs.length hi=xs.length)/\∀p,H p=none->Q (.ref p) (upd H p (.tup (GP xs lo hi)))
theorem qD:SlR X (wk X.K):=by
 intro jb s U H x v vl vu lo hi sl Q I rx hs pl pu h;obtain⟨a,xs,rfl,hx,hw,q⟩:=h;cases rx;obtain⟨its,r,ht,hz⟩:=I.tuple hx;have hlen:its.toArray.size=xs.length:=by rw[Qbc];exact r.length.symm
 refine⟨"tuple",_,Qaa.lookup,ht.typeIs,?_⟩;refine HT.Qv ht hs pl pu (by rw[hlen];exact hw) ?_ (by rw[hlen];exact hz);rw[hlen];refine⟨.ref s.heap.objs.size,_,I.laid (t':=s.toks) (o:=.tup (GP xs lo hi)) (λb ob q=>Qat _ q) (Qcf _) ?_,rq,q _ (I.hok.fresh (Qcf _))⟩;exact⟨Qca (QD xs lo hi) hz,_,(r.drop (HT.sIx xs.length 0 lo)).take (HT.sIx xs.length xs.length hi - HT.sIx xs.length 0 lo),IsTup.new _ _⟩
end
def ixN (n:Nat) (i:Int):Option Nat:=if 0<=i then (if i < n then some i.toNat else none) else if -(n:Int)<=i then some (i+n).toNat else none
def atI {α : Type} (xs:List α) (i:Int):Option α:=(ixN xs.length i).bind λj=>xs[j]?
theorem Y4 {n:Nat} {i:Int} {j:Nat} (h:ixN n i=some j):seqIndex? i n=some j/\j < n/\-(n:Int)<=i/\i < n:=by
 unfold ixN at h;by_cases h0:0<=i
 ·rw[if_pos h0] at h;by_cases h1:i < n
  ·rw[if_pos h1] at h;have e:i.toNat=j:=QbA h;exact⟨by rw[seqIndex_of h0 h1,e],by omega,by omega,h1⟩
  ·rw[if_neg h1] at h;cases h
 ·rw[if_neg h0] at h;by_cases h1:-(n:Int)<=i
  ·rw[if_pos h1] at h;have e:(i+n).toNat=j:=QbA h;exact⟨by rw[seqIndex_neg (by omega) h1,e],by omega,h1,by omega⟩
  ·rw[if_neg h1] at h;cases h
theorem T7 {α : Type} {xs:List α} {i:Int} {v:α} (h:atI xs i=some v):∃j,seqIndex? i xs.length=some j/\xs[j]?=some v/\j < xs.length/\-(xs.length:Int)<=i/\i < xs.length:=by
 unfold atI at h;cases e:ixN xs.length i with
 | none=>rw[e] at h;cases h
 | some j=>
  rw[e] at h;obtain⟨h1,h2,h3,h4⟩:=Y4 e;exact⟨j,h1,h,h2,h3,h4⟩
theorem Aj {α : Type} {xs:List α} {j:Nat} {v:α} (h:xs[j]?=some v):atI xs (j:Int)=some v:=by
 have hj:j < xs.length:=(Qaj.mp h).1;have e:ixN xs.length (j:Int)=some j:=by
  unfold ixN;rw[if_pos (by omega),if_pos (by omega)];simp
 unfold atI;rw[e];exact h
def pD (b:Expr):Prop:=∀o i,subscripted b false o i=operate [o,i] (getItem o i)
def IxR (X:Cx) (r:R2):Prop:=
 ∀(value slice:Expr) (jb:YC) (s:Shared) (U : St) (H:Hp) (x y:V) (v u:Value) (Q:VK),Inv X jb U H s->RelV x v->RelV y u->r x y H Q ->
  subscripted slice false v u=operate [v,u] (getItem v u)->wpAny (model X.prog X.w) X.A (subscriptTail value slice v u) (EP X jb U Q) X.xe s
def MtR (X:Cx) (id:String) (r:V->YG->Hp->VK->Prop):Prop:=
 ∀(jb:YC) (s:Shared) (U : St) (H:Hp) (x:V) (xs:YG) (v:Value) (us:YE) (Q:VK),Inv X jb U H s->RelV x v->Vals xs us->r x xs H Q ->
  wpAny (model X.prog X.w) X.A (call (.builtin id) (v::us)) (EP X jb U Q) X.xe s
section
variable {X:Cx} {a b:Expr} {ta tb:TE} {pos:Pos}
theorem IxR.or {r r':R2} (h:IxR X r) (h':IxR X r'):IxR X (λx y H Q=>r x y H Q\/r' x y H Q):=by
 intro value slice jb s U H x y v u Q I rx ry q hs;rcases q with q | q
 ·exact h value slice jb s U H x y v u Q I rx ry q hs
 ·exact h' value slice jb s U H x y v u Q I rx ry q hs
theorem MtR.or {id:String} {r r':V->YG->Hp->VK->Prop} (h:MtR X id r) (h':MtR X id r'):MtR X id (λx xs H Q=>r x xs H Q\/r' x xs H Q):=by
 intro jb s U H x xs v us Q I rx rs q;rcases q with q | q
 ·exact h jb s U H x xs v us Q I rx rs q
 ·exact h' jb s U H x xs v us Q I rx rs q
theorem Ba {r:R2} (hr:IxR X r) (ha:PE X a ta) (hb:PE X b tb) (hs:pD b):PE X (.Subscript a b pos) (tOp r ta tb):=by
 intro jb s U H Q I h;exact Subscript_ (j5 ha hb I h λv u s2 x y H2 I2 rx ry q=>hr a b jb s2 U H2 x y v u Q I2 rx ry q (hs _ _))
def wC (K:YD):R2:=λx y H Q=>∃p xs i v,x=.ref p/\y=.int i/\SqL K H p xs/\atI xs i=some v/\Q v H
def wz (K:YD):R2:=λx y H Q=>∃p xs i v,x=.ref p/\y=.int i/\SqT K H p xs/\atI xs i=some v/\Q v H
def wB:R2:=λx y H Q=>∃z i c,x=.str z/\y=.int i/\z.length<=sizeLine/\atI z.cps.toList i=some c/\Q (.str ⟨#[c]⟩) H
theorem Br:IxR X (wC X.K):=by
 intro value slice jb s U H x y v u Q I rx ry h hs;obtain⟨p,xs,i,z,rfl,rfl,hq,he,q⟩:=h;cases rx;obtain⟨t,rfl⟩:=ry;obtain⟨its,r,pl,hz⟩:=I.list hq;obtain⟨j,h1,h2,h3,h4,h5⟩:=T7 he;obtain⟨w,ew,rw'⟩:=r.get h2;have hl:=r.length;have hn:=Ln;have fin:EP X jb U Q w s:=⟨z,H,I,rw',q⟩;by_cases h0:0<=i
 ·have hj:i.toNat=j:=by
   rw[seqIndex_of h0 h5] at h1;exact QbA h1
  exact item_listR pl.isList h0 (by omega) (by rw[hj];simpa using ew) fin hs
 ·have hj:(i+(its.toArray.size:Int)).toNat=j:=by
   rw[seqIndex_neg (by omega) h4] at h1;rw[Qbc,<-hl];exact QbA h1
  exact subscriptTail_builtinR (x:=w) pl.isList.typeIs slot_list_getitem.lookup
   (wpAny_getItem_list_neg (Q:=λr s'=>r=w/\EP X jb U Q r s') pl.isList (by omega) (by rw[Qbc] <;> omega) (by omega) (by rw[hj];simpa using ew) ⟨rq,fin⟩) hs
theorem Bm:IxR X (wz X.K):=by
 intro value slice jb s U H x y v u Q I rx ry h hs;obtain⟨p,xs,i,z,rfl,rfl,hq,he,q⟩:=h;cases rx;obtain⟨t,rfl⟩:=ry;obtain⟨its,r,pl,hz⟩:=I.tuple hq;obtain⟨j,h1,h2,h3,h4,h5⟩:=T7 he;obtain⟨w,ew,rw'⟩:=r.get h2;have hl:=r.length;have hn:=Ln;have fin:EP X jb U Q w s:=⟨z,H,I,rw',q⟩;exact subscriptTail_builtinR (x:=w) pl.typeIs slot_tuple_getitem.lookup
  (getItem_tuple (j:=j) (Q:=λr s'=>r=w/\EP X jb U Q r s') pl (by omega) (by omega) (by rw[Qbc,<-hl];exact h1) (by simpa using ew) ⟨rq,fin⟩) hs
theorem Kv:IxR X wB:=by
 intro value slice jb s U H x y v u Q I rx ry h hs;obtain⟨z,i,c,rfl,rfl,hz,he,q⟩:=h;obtain⟨t,rfl⟩:=rx;obtain⟨t',rfl⟩:=ry;obtain⟨j,h1,h2,h3,h4,h5⟩:=T7 he;have hl:z.cps.toList.length=z.length:=by simp[Str.length]
 rw[hl] at h1 h4 h5;have hn:=Ln;exact tail_any (typeIs_str s z t) slot_str_getitem.lookup (getItem_str (c:=c) (by
  have e1:decide (i < -(2 ^ 63:Int))=false:=Qbv (by omega);have e2:decide (i ≥ 2 ^ 63)=false:=Qbv (by omega);rw[e1,e2,Bool.or_false]) (by rw[h1];simpa using h2) ⟨.str ⟨#[c]⟩,H,I.tok _,⟨_,rq⟩,q⟩) hs
theorem au (its:YE) (n j:Nat) (u:Value):Obj.mapSeq (·.setIfInBounds j u) { cls:=.type "list",data:=.seq its.toArray n }={ cls:=.type "list",data:=.seq (its.set j u).toArray n }:=by
 simp[Obj.mapSeq]
theorem Inv.lst {jb:YC} {U : St} {H:Hp} {s:Shared} {p:Addr} {xs:YG} (I:Inv X jb U H s) (h:H p=some (.lst xs)) :
  ∃(its:YE) (n:Nat),Vals xs its/\s.heap.get? p=some { cls:=.type "list",data:=.seq its.toArray n }/\xs.length<=sizeLine:=by
 obtain⟨z,its,n,r,e⟩:=I.hok p _ h;exact⟨its,n,r,e,z⟩
theorem Inv.rA {jb:YC} {U : St} {H:Hp} {s:Shared} {p:Addr} {xs ys:YG} {its its':YE} {n n':Nat} {f:Obj->Obj} (I:Inv X jb U H s) (h:H p=some (.lst xs))
  (ho:s.heap.get? p=some { cls:=.type "list",data:=.seq its.toArray n }) (hf:f { cls:=.type "list",data:=.seq its.toArray n }={ cls:=.type "list",data:=.seq its'.toArray n' }) (r:Vals ys its') (hz:ys.length<=sizeLine) (t:Nat) :
  Inv X jb U (upd H p (.lst ys)) { s with heap:=s.heap.update p f,toks:=t }:=by
 have e:(s.heap.update p f).get? p=some { cls:=.type "list",data:=.seq its'.toArray n' }:=by
  rw[QaA f ho (by rw[hf] <;> rfl),hf]
 refine I.write (x:=p) (e:=p) (by rw[h];trivial) (.inl rfl) (λb u hb q=>(Qav _ _ (Ne.symm hb)).trans q) ⟨_,e⟩ ?_;exact⟨hz,its',n',r,e⟩
def uQ:V->V->V->Hp->(Hp->Prop)->Prop:=λo i v H Q=>∃p xs k j,o=.ref p/\i=.int k/\H p=some (.lst xs)/\ixN xs.length k=some j/\Q (upd H p (.lst (xs.set j v)))
theorem set_list:um X uQ:=by
 intro jb s U H o i v ov iv u Q I ro ri rv h;obtain⟨p,xs,k,j,rfl,rfl,hp,hj,q⟩:=h;cases ro;obtain⟨t,rfl⟩:=ri;obtain⟨its,n,r,ho,hz⟩:=I.lst hp;obtain⟨h1,h2,h3,h4⟩:=Y4 hj;have hl:=r.length;have hn:=Ln;have I':Inv X jb U (upd H p (.lst (xs.set j v))) { s with heap:=s.heap.update p (Obj.mapSeq (·.setIfInBounds j u)) }:=
  I.rA hp ho (au its n j u) (r.set rv j) (by rw[List.length_set];exact hz) s.toks
 by_cases h0:0<=k
 ·have hk:k.toNat=j:=by
   rw[seqIndex_of h0 h4] at h1;exact QbA h1
  exact PySem.W.ki_setAt ho h0 (by omega) (by rw[Qbc,<-hl];exact h4) (by rw[hk];exact⟨_,I',q⟩)
 ·have hk:(k+(its.toArray.size:Int)).toNat=j:=by
   rw[seqIndex_neg (by omega) h3] at h1;rw[Qbc,<-hl];exact QbA h1
  exact PySem.W.ki_setBack ho (by omega) (by rw[Qbc,<-hl];exact h3) (by omega) (by rw[hk];exact⟨_,I',q⟩)
theorem V7 (lo hi:Option Int) (n:Nat):(sliceBounds lo hi none n).1=((HT.sIx n 0 lo:Nat):Int)/\(sliceBounds lo hi none n).2.1=((HT.sIx n n hi:Nat):Int)/\(sliceBounds lo hi none n).2.2=1:=by
 refine⟨?_,?_,rq⟩
 ·cases lo with
  | none=>simp[sliceBounds,HT.sIx]
  | some i=>
   simp only[sliceBounds,HT.sIx,Option.getD_none,show (1:Int) > 0 by decide,if_true];by_cases h:i < 0
   ·simp only[h,if_true] <;> omega
   ·simp only[h,if_false] <;> omega
 ·cases hi with
  | none=>simp[sliceBounds,HT.sIx]
  | some i=>
   simp only[sliceBounds,HT.sIx,Option.getD_none,show (1:Int) > 0 by decide,if_true];by_cases h:i < 0
   ·simp only[h,if_true] <;> omega
   ·simp only[h,if_false] <;> omega
theorem UW (its:YE) (lo hi:Option Int):slicePick its.toArray lo hi none=((its.drop (HT.sIx its.length 0 lo)).take (HT.sIx its.length its.length hi - HT.sIx its.length 0 lo)).toArray:=by
 obtain⟨h1,h2,h3⟩:=V7 lo hi its.toArray.size;unfold slicePick;rw[h1,h2,h3];simp only[sliceRange_one,pick_run,Qbc] <;> rfl
def wu (K:YD):V->Option Int->Option Int->Hp->VK->Prop:=λx lo hi H Q=>∃a xs,x=.ref a/\SqL K H a xs/\∀p,H p=none->Q (.ref p) (upd H p (.lst (GP xs lo hi)))
theorem Yr:SlR X (wu X.K):=by
 intro jb s U H x v vl vu lo hi sl Q I rx hs pl pu h;obtain⟨a,xs,rfl,hx,q⟩:=h;cases rx;obtain⟨its,r,ht,hz⟩:=I.list hx;have hlen:=r.length;refine⟨"list",_,slot_list_getitem.lookup,ht.isList.typeIs,?_⟩;refine wpAny_getItem_list_slice ht.isList hs pl pu .none (by simp) ?_ (by rw[Qbc] <;> omega);rw[UW,<-hlen];refine⟨.ref s.heap.objs.size,_,I.laid (t':=s.toks) (o:=.lst (GP xs lo hi)) (λb ob q=>Qat _ q) (Qcf _) ?_,rq,q _ (I.hok.fresh (Qcf _))⟩;exact⟨Qca (QD xs lo hi) hz,_,0,(r.drop (HT.sIx xs.length 0 lo)).take (HT.sIx xs.length xs.length hi - HT.sIx xs.length 0 lo),QaF _ rfl⟩
def JX:V->Bool
 | .non=>true
 | .bl _=>true
 | .int _=>true
 | .str _=>true
 | _=>false
def eqV:V->V->Bool
 | .non,.non=>true
 | .bl a,.bl b=>a == b
 | .bl a,.int b=>(if a then 1 else 0) == b
 | .int a,.bl b=>a == (if b then 1 else 0)
 | .int a,.int b=>a == b
 | .str a,.str b=>a == b
 | _,_=>false
theorem sO {A:Around} {s:Shared} {y x:V} {u v:Value} (ry:RelV y u) (rx:RelV x v) (fy:JX y=true) (fx:JX x=true):SeqAt.EqAt A s u v (eqV y x):=by
 cases y with
 | non=>
  cases ry;cases x with
  | non=>cases rx;exact SeqAt.EqAt.same _
  | bl b=>cases rx;exact SeqAt.EqAt.none_bool b
  | int b=>obtain⟨t,rfl⟩:=rx;exact SeqAt.EqAt.none_int b t
  | str b=>obtain⟨t,rfl⟩:=rx;exact SeqAt.EqAt.none_str b t
  | _=>exact absurd (show false=true from fx) QaP
 | bl a=>
  cases ry;cases x with
  | non=>cases rx;exact SeqAt.EqAt.bool_none a
  | bl b=>cases rx;exact SeqAt.EqAt.bool_bool a b
  | int b=>obtain⟨t,rfl⟩:=rx;exact SeqAt.EqAt.bool_int a b t
  | str b=>obtain⟨t,rfl⟩:=rx;exact SeqAt.EqAt.bool_str a b t
  | _=>exact absurd (show false=true from fx) QaP
 | int a=>
  obtain⟨t',rfl⟩:=ry;cases x with
  | non=>cases rx;exact SeqAt.EqAt.int_none a t'
  | bl b=>cases rx;exact SeqAt.EqAt.int_bool a t' b
  | int b=>obtain⟨t,rfl⟩:=rx;exact SeqAt.EqAt.int_int a t' b t
  | str b=>obtain⟨t,rfl⟩:=rx;exact SeqAt.EqAt.int_str a t' b t
  | _=>exact absurd (show false=true from fx) QaP
 | str a=>
  obtain⟨t',rfl⟩:=ry;cases x with
  | non=>cases rx;exact SeqAt.EqAt.str_none a t'
  | bl b=>cases rx;exact SeqAt.EqAt.str_bool a t' b
  | int b=>obtain⟨t,rfl⟩:=rx;exact SeqAt.EqAt.str_int a t' b t
  | str b=>obtain⟨t,rfl⟩:=rx;exact SeqAt.EqAt.str_str a t' b t
  | _=>exact absurd (show false=true from fx) QaP
 | _=>exact absurd (show false=true from fy) QaP
def eqU (x:V) (u:Value):Bool:=match u with
 | .none=>eqV .non x
 | .bool b=>eqV (.bl b) x
 | .int i _=>eqV (.int i) x
 | .str z _=>eqV (.str z) x
 | _=>false
theorem eU {x y:V} {u:Value} (r:RelV y u) (f:JX y=true):eqU x u=eqV y x:=by
 cases y with
 | non=>cases r;rfl
 | bl b=>cases r;rfl
 | int i=>obtain⟨t,rfl⟩:=r;rfl
 | str z=>obtain⟨t,rfl⟩:=r;rfl
 | _=>exact absurd (show false=true from f) QaP
theorem Np {x:V}:∀{xs:YG} {us:YE},Vals xs us->xs.all JX=true->us.any (eqU x)=xs.any λy=>eqV y x
 | _,_,.nil,_=>rfl
 | y::xs,u::us,.cons r t,f=>by
  rw[QbY,Qbk] at f;rw[QbW,QbW,eU r f.1,Np t f.2]
theorem Lk {A:Around} {s:Shared} {x:V} {v:Value} (rx:RelV x v) (fx:JX x=true):∀{xs:YG} {us:YE},Vals xs us->xs.all JX=true->∀u∈us,SeqAt.EqAt A s u v (eqU x u)
 | _,_,.nil,_=>λu hu=>by cases hu
 | y::xs,u::us,.cons r t,f=>λu' hu=>by
  rw[QbY,Qbk] at f;rcases QbP.mp hu with rfl | hu
  ·rw[eU r f.1];exact sO r rx f.1 fx
  ·exact Lk rx fx t f.2 u' hu
def inV (x:V) (xs:YG):Bool:=xs.any λy=>eqV y x
def rIn (K:YD) (neg:Bool):R2:=λx y H Q=>∃p xs,y=.ref p/\(SqL K H p xs\/SqT K H p xs)/\JX x=true/\xs.all JX=true/\Q (.bl (if neg then !inV x xs else inV x xs)) H
theorem Pa:OpR X (compareOp .In) (rIn X.K false):=by
 intro jb s U H x y v u Q I rx ry h;obtain⟨p,xs,rfl,hq,fx,fs,q⟩:=h;cases ry;rcases hq with hq | hq
 ·obtain⟨its,r,pl,hz⟩:=I.list hq;refine SeqAt.in_listAt (eqU x) pl.isList (λw hw=>Lk rx fx r fs w (by simpa using hw)) ⟨.bl _,H,I,rq,?_⟩;rw[show its.toArray.any (eqU x)=its.any (eqU x) by simp,Np r fs];exact q
 ·obtain⟨its,r,pl,hz⟩:=I.tuple hq;refine SeqAt.in_tupleAt (eqU x) pl (λw hw=>Lk rx fx r fs w (by simpa using hw)) ⟨.bl _,H,I,rq,?_⟩;rw[show its.toArray.any (eqU x)=its.any (eqU x) by simp,Np r fs];exact q
theorem Lh:OpR X (compareOp .NotIn) (rIn X.K true):=by
 intro jb s U H x y v u Q I rx ry h;obtain⟨p,xs,rfl,hq,fx,fs,q⟩:=h;cases ry;rcases hq with hq | hq
 ·obtain⟨its,r,pl,hz⟩:=I.list hq;refine SeqAt.notIn_listAt (eqU x) pl.isList (λw hw=>Lk rx fx r fs w (by simpa using hw)) ⟨.bl _,H,I,rq,?_⟩;rw[show its.toArray.any (eqU x)=its.any (eqU x) by simp,Np r fs];exact q
 ·obtain⟨its,r,pl,hz⟩:=I.tuple hq;refine SeqAt.notIn_tupleAt (eqU x) pl (λw hw=>Lk rx fx r fs w (by simpa using hw)) ⟨.bl _,H,I,rq,?_⟩;rw[show its.toArray.any (eqU x)=its.any (eqU x) by simp,Np r fs];exact q
theorem Wn:OpR X (compareOp .NotIn) (λx y H Q=>∃i j,x=.str i/\y=.str j/\Q (.bl (!(!(Builtin.Str.occurrences j i 0 j.length 1).isEmpty))) H):=by
 intro jb s U H x y v u Q I rx ry h;obtain⟨i,j,rfl,rfl,q⟩:=h;obtain⟨t,rfl⟩:=rx;obtain⟨t',rfl⟩:=ry;exact notIn_str ⟨.bl _,H,I,rq,q⟩
theorem BR:Ew X (.builtin "len") (λxs H Q=>∃p ys,xs=[.ref p]/\(SqL X.K H p ys\/SqT X.K H p ys)/\Q (.int ys.length) H):=by
 intro jb s U H xs us Q I r h;obtain⟨p,ys,rfl,hq,q⟩:=h;obtain⟨u,rfl,rx⟩:=vals1 r;cases rx;have hn:=Ln;rcases hq with hq | hq
 ·obtain⟨its,r',pl,hz⟩:=I.list hq;have hlen:=r'.length;exact Calls.call_len_list pl.isList (by simp only[Qbc] <;> omega) ⟨.int ys.length,H,I.tok _,⟨s.toks+1,by rw[Qbc,hlen]⟩,q⟩
 ·obtain⟨its,r',pl,hz⟩:=I.tuple hq;have hlen:=r'.length;exact len_tuple pl (by simp only[Qbc] <;> omega) ⟨.int ys.length,H,I.tok _,⟨s.toks+1,by rw[Qbc,hlen]⟩,q⟩
theorem Dg:Ew X (.builtin "len") (λxs H Q=>∃z,xs=[.str z]/\z.length<=sizeLine/\Q (.int z.length) H):=by
 intro jb s U H xs us Q I r h;obtain⟨z,rfl,hz,q⟩:=h;obtain⟨u,rfl,t,rfl⟩:=vals1 r;have hn:=Ln;exact len_str (by omega) ⟨.int z.length,H,I.tok _,⟨_,rq⟩,q⟩
theorem Ew.or {f:Value} {r r':YG->Hp->VK->Prop} (h:Ew X f r) (h':Ew X f r'):Ew X f (λxs H Q=>r xs H Q\/r' xs H Q):=by
 intro jb s U H xs us Q I rs q;rcases q with q | q
 ·exact h jb s U H xs us Q I rs q
 ·exact h' jb s U H xs us Q I rs q
theorem KC:Ew X (.type "tuple") (λxs H Q=>∃p ys,xs=[.ref p]/\((SqL X.K H p ys/\∀l,H l=none->Q (.ref l) (upd H l (.tup ys)))\/(SqT X.K H p ys/\Q (.ref p) H))):=by
 intro jb s U H xs us Q I r h;obtain⟨p,ys,rfl,h⟩:=h;obtain⟨u,rfl,rx⟩:=vals1 r;cases rx;rcases h with⟨hq,q⟩|⟨hq,q⟩
 ·obtain⟨its,r',pl,hz⟩:=I.list hq;have hlen:=r'.length;refine call_tuple_list pl.isList (λh' kp=>?_) (by simp only[Qbc] <;> omega);have I1:Inv X jb U H { s with heap:=h' }:=I.kept (t':=s.toks) kp;have I2:Inv X jb U (upd H h'.objs.size (.tup ys)) { s with heap:=h'.push { cls:=.type "tuple",data:=.seq its.toArray } }:=
   I1.laid (t':=s.toks) (λb o e=>Qat _ e) (Qcf _) (show CQ X.prog X.w _ _ _ (.tup ys) from⟨hz,its,r',IsTup.new _ _⟩)
  exact⟨.ref h'.objs.size,_,I2,rq,q _ (I1.hok.fresh (Qcf _))⟩
 ·obtain⟨its,r',pl,hz⟩:=I.tuple hq;exact call_tuple_same pl ⟨.ref p,H,I,rq,q⟩
def tyV (K:YD) (T:String) (x:V) (H:Hp):Prop:=match x with
 | .str _=>T="str"
 | .int _=>T="int"
 | .ref p=>(T="list"/\∃xs,SqL K H p xs)\/(T="tuple"/\∃o,K.lookup p=some o/\o.cls=.type "tuple"/\o.dict=none) \/
   (T="dict"/\((∃kvs,H p=some (.dK kvs))\/∃kvs,H p=some (.dT kvs)))\/(T="set"/\∃S n,H p=some (.set S n))
 | _=>False
theorem pY {jb:YC} {U : St} {H:Hp} {s:Shared} {T:String} {x:V} {v:Value} (I:Inv X jb U H s) (r:RelV x v) (ty:tyV X.K T x H) :
  s.TypeIs v T/\∀a,v=.ref a->∃ob,s.heap.get? a=some ob/\ob.dict=none:=by
 cases x with
 | str z=>
  obtain⟨t,rfl⟩:=r;cases (show T="str" from ty)
  exact⟨typeIs_str s z t,λ_ e=>nomatch e⟩
 | int i=>
  obtain⟨t,rfl⟩:=r;cases (show T="int" from ty)
  exact⟨typeIs_int s i t,λ_ e=>nomatch e⟩
 | ref p=>
  cases r;rcases ty with⟨rfl,xs,hq⟩|⟨rfl,o,hk,hc,hd⟩|⟨rfl,hk⟩|⟨rfl,S,n,hk⟩
  ·obtain⟨its,_,pl,_⟩:=I.list hq;refine⟨pl.isList.typeIs,λa e=>?_⟩;cases e;obtain⟨o,n,e,c,hd,_⟩:=pl;exact⟨o,e,hd⟩
  ·refine⟨⟨o,I.kIn p o hk,hc⟩,λa e=>?_⟩;cases e;exact⟨o,I.kIn _ o hk,hd⟩
  ·have z:∃o,s.heap.get? p=some o/\o.ExactDict:=by
    rcases hk with⟨kvs,hk⟩|⟨kvs,hk⟩
    ·obtain⟨_,_,_,_,o,_,_,e,ex,_⟩:=I.hok p _ hk;exact⟨o,e,ex⟩
    ·obtain⟨_,_,_,_,o,_,_,e,ex,_⟩:=I.hok p _ hk;exact⟨o,e,ex⟩
   obtain⟨o,e,ex⟩:=z;refine⟨⟨o,e,ex.1⟩,λa e2=>?_⟩;cases e2;exact⟨o,e,ex.2.1⟩
  ·obtain⟨o,_,_,_,e,ex,_⟩:=I.hok p _ hk;refine⟨⟨o,e,ex.1⟩,λa e2=>?_⟩;cases e2;exact⟨o,e,ex.2.1⟩
 | _=>exact False.elim ty
def tBM (K:YD) (T:String) (r:V->YG->Hp->VK->Prop) (to:TE) (t:TA):TE:=fun U H Q=>to U H λx H1=>tyV K T x H1/\t U H1 λxs H2=>r x xs H2 Q
variable {o e:Expr} {es:YJ} {to:TE} {t:TA} {name:Str} {apos cpos:Pos} {T id:String} {r:V->YG->Hp->VK->Prop}
theorem Dz (pa:PlainAttrs T) (slot:Slot T name id) (hty:typeOf (.builtin id)=pure (.type "method_descriptor")) (hm:MtR X id r) (ho:PE X o to) (ha:PA X (e::es) t)
  (hbase:attributeBase o name X.env (eval o X.env)=eval o X.env:=by rfl)
  (hfew:((backTo cpos (starEach (e::es) X.env)).all (λx=>!x.1)&&(backToKw cpos (keywordEach [] X.env)).all (λx=>x.1.isSome)
  &&decide ((e::es).length+([]:List Keyword).length+(if ([]:List Keyword).isEmpty then 0 else 1) < 30))=true:=by rfl)
  (hline:(apos.endLine == cpos.line)=true:=by rfl) (hs:starEach (e::es) X.env=(false,eval e X.env)::starEach es X.env:=by rfl) (hplain:(backTo cpos (starEach es X.env)).any (·.1)=false:=by rfl) :
  PE X (.Call (.Attribute o name apos) (e::es) [] cpos) (tBM X.K T r to t):=by
 intro jb s U H Q I h;refine wpAny_Call_method_late hbase hfew hline rfl (thn (ho jb s U H _ I h) λv s1 zz=>?_);obtain⟨x,H1,I1,r1,ty,q1⟩:=zz;obtain⟨h1,h2⟩:=pY I1 r1 ty;refine⟨T,id,pa,slot,hty,h1,h2,?_⟩;have hA:=ha cpos jb s1 U H1 _ I1 q1;rw[hs] at hA ⊢;refine Calls.callWith_builtin (by show (false || (backTo cpos (starEach es X.env)).any (·.1))=false;rw[hplain] <;> rfl) (Calls.evalArgs_plain ?_);refine thn hA λus s2 zz=>?_;obtain⟨vs,H2,I2,r2,q2⟩:=zz;exact hm jb s2 U H2 x vs v us Q I2 r1 r2 q2
end
def MtM (X:Cx) (id:String) (r:V->YG->Hp->VK->Prop):Prop:=
 ∀(jb:YC) (s:Shared) (U : St) (H:Hp) (x:V) (xs:YG) (v:Value) (us:YE) (Q:VK),Inv X jb U H s->RelV x v->Vals xs us->r x xs H Q ->
  wpAny (model X.prog X.w) X.A (call (.builtin id) (v::us)) (EP X jb U Q) X.xe s
theorem Vals.one:∀{x:V} {us:YE},Vals [x] us->∃u,us=[u]/\RelV x u
 | _,_,.cons r .nil=>⟨_,rfl,r⟩
theorem Vals.two:∀{x y:V} {us:YE},Vals [x,y] us->∃u v,us=[u,v]/\RelV x u/\RelV y v
 | _,_,_,.cons r (.cons q .nil)=>⟨_,_,rfl,r,q⟩
theorem Vals.zero:∀{us:YE},Vals [] us->us=[]
 | _,.nil=>rfl
theorem Vals.dropLast {xs:YG} {us:YE} (h:Vals xs us):Vals xs.dropLast us.dropLast:=by
 induction h with
 | nil=>exact .nil
 | cons r t ih=>
  cases t with
  | nil=>exact .nil
  | cons q t'=>exact .cons r ih
theorem Vals.reverse {xs:YG} {us:YE} (h:Vals xs us):Vals xs.reverse us.reverse:=by
 induction h with
 | nil=>exact .nil
 | cons r t ih=>rw[List.reverse_cons,List.reverse_cons];exact Vals.append ih (.cons r .nil)
section
variable {X:Cx} {jb:YC} {U : St} {H:Hp} {s:Shared} {l b:Addr} {xs ys zs:YG}
theorem Inv.rB {its its':YE} {n:Nat} {f:Array Value->Array Value} {t':Nat} (I:Inv X jb U H s) (hH:H l=some (.lst xs))
  (e:s.heap.get? l=some { cls:=.type "list",data:=.seq its.toArray n }) (hf:f its.toArray=its'.toArray) (hv:Vals ys its') (hz:ys.length<=sizeLine) :
  Inv X jb U (upd H l (.lst ys)) { s with heap:=s.heap.update l (Obj.mapSeq f),toks:=t' }:=by
 have q:=PySem.IsL.update e f;rw[hf] at q;refine I.write (x:=l) (e:=l) (by rw[hH];exact trivial) (.inl rfl) (λb' u hb hu=>(Qav s.heap (Obj.mapSeq f) (Ne.symm hb)).trans hu) ⟨_,q⟩ ?_;exact⟨hz,its',_,hv,q⟩
theorem Inv.wH {its:YE} {t':Nat} (I:Inv X jb U H s) (hv:Vals ys its) (hz:ys.length<=sizeLine) :
  Inv X jb U (upd H s.heap.objs.size (.lst ys)) { s with heap:=s.heap.push { cls:=.type "list",data:=.seq its.toArray },toks:=t' }:=
 I.laid (λ_ _ q=>Qat _ q) (Qcf _) ⟨hz,its,0,hv,QaF _ rfl⟩
theorem Inv.fresh (I:Inv X jb U H s):H s.heap.objs.size=none:=I.hok.fresh (Qcf _)
theorem Inv.Q8 (I:Inv X jb U H s) (hH:H l=some (.lst xs)):xs.length<=sizeLine/\∃(its:YE) (n:Nat),Vals xs its/\xs.length=its.length/\s.heap.get? l=some { cls:=.type "list",data:=.seq its.toArray n }:=by
 obtain⟨z,its,n,r,e⟩:=I.hok l _ hH;exact⟨z,its,n,r,r.length,e⟩
theorem iJ {n:Nat} (h:n<=sizeLine):Builtin.List.listTooLong n=false:=by
 unfold Builtin.List.listTooLong;exact Qbv (by omega)
end
section
variable {X:Cx}
def m8:V->YG->Hp->VK->Prop:=λx vs H Q=>∃l xs y,x=.ref l/\vs=[y]/\H l=some (.lst xs)/\xs.length < sizeLine/\Q .non (upd H l (.lst (xs++[y])))
theorem En:MtM X "list.append" m8:=by
 intro jb s U H x vs v us Q I rx rv h;obtain⟨l,xs,y,rfl,rfl,hH,hz,q⟩:=h;cases rx;obtain⟨u,rfl,ru⟩:=rv.one;obtain⟨z,its,n,r,hl,e⟩:=I.Q8 hH;refine call_meets F.slot_list_append ⟨_,e,rq⟩ F.entry_list_append (F.args_list_append_2 _ _) (PySem.list_append l its.toArray n u (by rw[Qbc];omega)) ⟨e,?_⟩;refine⟨.non,_,I.rB (its':=its++[u]) hH e (by simp) (r.append (.cons ru .nil)) ?_,rq,q⟩;rw[QaM,List.length_singleton];omega
def m7:V->YG->Hp->VK->Prop:=λx vs H Q=>∃l b xs zs,x=.ref l/\vs=[.ref b]/\H l=some (.lst xs)/\H b=some (.lst zs)/\xs.length+zs.length<=sizeLine/\Q .non (upd H l (.lst (xs++zs)))
theorem vN:MtM X "list.extend" m7:=by
 intro jb s U H x vs v us Q I rx rv h;obtain⟨l,b,xs,zs,rfl,rfl,hH,hB,hz,q⟩:=h;cases rx;obtain⟨u,rfl,ru⟩:=rv.one;cases ru;obtain⟨z,its,n,r,hl,e⟩:=I.Q8 hH;obtain⟨z2,its2,n2,r2,hl2,e2⟩:=I.Q8 hB;have hsz:its.toArray.size+its2.toArray.size<=sizeLine:=by rw[Qbc,Qbc];omega
 have vh:¬(!its.toArray.isEmpty&&Builtin.List.listTooLong (its.toArray.size+its2.toArray.size))=true:=by
  rw[iJ hsz,Bool.and_false];exact QaP
 refine call_meets F.slot_list_extend ⟨_,e,rq⟩ F.entry_list_extend (F.args_list_extend_2 _ _)
  (AutoSeq1.list_extend_list_list_0 l its.toArray n b its2.toArray n2 vh (by rw[Qbc];omega) (by omega)) ⟨e,e2,?_⟩
 refine⟨.non,_,I.rB (its':=its++its2) hH e (by simp) (r.append r2) ?_,rq,q⟩;rw[QaM];omega
def wD:R2:=λx y H Q=>∃l b xs zs,x=.ref l/\y=.ref b/\H l=some (.lst xs)/\H b=some (.lst zs)/\xs.length+zs.length<=sizeLine/\∀p,H p=none->Q (.ref p) (upd H p (.lst (xs++zs)))
theorem cQ:OpR X (binaryOp .Add) wD:=by
 intro jb s U H x y v u Q I rx ry h;obtain⟨l,b,xs,zs,rfl,rfl,hH,hB,hz,q⟩:=h;cases rx;cases ry;obtain⟨z,its,n,r,hl,e⟩:=I.Q8 hH;obtain⟨z2,its2,n2,r2,hl2,e2⟩:=I.Q8 hB;refine PySem.P.add_list e e2 ?_ (by rw[Qbc,Qbc];omega);have ea:its.toArray++its2.toArray=(its++its2).toArray:=by simp
 rw[ea];exact⟨.ref _,_,I.wH (t':=s.toks) (r.append r2) (by rw[QaM];omega),rq,q _ I.fresh⟩
end
section
variable {prog:Program} {w:World} {A:Around} {E:YA} {s:Shared}
set_option maxRecDepth 100000 in
end
section
variable {X:Cx}
end
end L2
namespace Att
open PySem PySem.W PySem.Calls PyProof.Rows
theorem RX {P:Params} {h:Heap}:∀(ns:List Int) (vs:YE),WellAll P h vs (ns.map WData.int)->IntsAre vs ns:=by
 intro ns
 induction ns with
 | nil=>
  intro vs w;rw[List.map_nil] at w;cases w;exact .nil
 | cons n ns ih=>
  intro vs w;rw[QbR] at w;cases w with
  | cons a b=>
   cases a;exact .cons _ _ (ih _ b)
theorem cg {l:OpenLaw} {n:Nat} (hn:l.most=some n) {P:Params} {h:Heap} {args:List WData} {vals:YE}
  (hpre:l.row.toRowW.claim.pre args=true) (hwl:WellAll P h vals args) :
  ∃a vs ns,vals=[Value.ref a]/\args=[WData.list (ns.map WData.int)]/\h.get? a=some { cls:=.type "list",data:=.seq vs.toArray }/\IntsAre vs ns/\ns.length<=n:=by
 have hsh:WShape.hasAll [] args [.list .int]=true:=(pre_splitW hpre).1;have hc:l.pre.holds [] { args:=args }=true:=(pre_splitW hpre).2;obtain⟨d,r,rfl,h1,h2⟩:=hasAllW_cons hsh;obtain rfl:=hasAllW_nil h2;obtain⟨xs,rfl,h3⟩:=hasW_list h1;obtain⟨ns,rfl⟩:=items_int h3;have hlen:ns.length<=n:=by
  unfold OpenLaw.pre at hc;have h4:(WTm.not (.lt (.lit (.int (n:Int))) (.len (.arg 0)))).holds [] { args:=[.list (ns.map .int)] }=true:=by
   have h4:=(holds_andW hc).1;rw[hn] at h4;exact h4
  have h5:=condW_of h4 (w_not (w_lt w_lit (w_len_list (w_arg rfl))));rw[Qbw] at h5;refine Nat.le_of_not_lt λq=>?_;have q':(n:Int) < ((ns.length:Nat):Int):=by omega
  first
   | (rw[QbN q'] at h5;exact absurd h5 (by decide))
   | (simp at h5;omega)
 cases hwl with
 | cons w1 w2=>
  cases w2;cases w1 with
  | list ho hall=>exact⟨_,_,ns,rfl,rfl,ho,RX ns _ hall,hlen⟩
theorem cJ (l:OpenLaw) (args:List WData):l.row.toRowW.claim.post args (.bool true) args=true:=
 postW_of (r:=l.row.toRowW) (X:=(true == true))
  (show WShape.has [] (.bool true) .bool=true by first | rfl | decide | simp[WShape.has,WShape.arms,WShape.armsAll])
  (show (WTm.eq .res (.lit (.bool true))).value [] { args:=args,res:=some (.bool true),after:=args }=some (.bool (true == true)) from w_eq_bool (w_res rfl) w_lit) rfl
theorem Yd {l:OpenLaw} {n:Nat} {q:Program} {loose:YF} {XP:(YB)->Heap->Prop} {YP:World->Heap->Prop} {d:DefRec}
  (hn:l.most=some n) (hdf:d.params.defaults=[])
  (call:∀(w:World) (s₀ s₁ : Shared) (mg mb:YB) (fa:Addr) (o:Obj) (pm cd doc:Value) (a:Addr) (vs:YE) (ns:List Int),
   Ground q loose [] XP w s₀ mg mb s₁.heap->YP w s₁.heap ->
   s₁.heap.get? fa=some o->o.data=.func (docDef d.name d.params d.body d.scope pm cd doc)->s₁.heap.CodeRec cd d.name->mg d.name=some (.ref fa) ->
   s₁.heap.get? a=some { cls:=.type "list",data:=.seq vs.toArray }->IntsAre vs ns->ns.length<=n->s₁.gens=#[] ->
   codeAny (model l.prog w) callerA (.call (.ref fa) ⟨[.ref a],[]⟩) (λr s'=>r=.ok (.ret (.bool true))/\OldK s₁.heap s'.heap/\s'.os=s₁.os/\AllBare s'.gens) s₁) :
  WalkO q loose XP YP l.row.toRowW d [] (λf vs=>PySem.call f vs):=by
 intro w s₀ s₁ mg mb G Y fa o pm cd doc dV kV ho hd hcd hD hmg hg args vals as hpre hlay hrd hwl hlo;obtain rfl:dV=.none:=Dflts.none hD hdf;obtain rfl:kV=.none:=Dflts.noKw hD;obtain⟨a,vs,ns,rfl,rfl,hobj,hints,hlen⟩:=cg hn hpre hwl;refine enter_call (codeAny_mono (call w s₀ s₁ mg mb fa o pm cd doc a vs ns G Y ho (fd_plain hd) hcd hmg hobj hints hlen hg) λr s' hq=>?_);obtain⟨rfl,h2,h3,h4⟩:=hq;exact⟨.inl ⟨.bool true,.bool true,[],rq,λ_=>rfl,.bool true,cJ l _,λ_=>⟨List.Pairwise.nil,λ_ hm=>(nomatch hm)⟩⟩,h2,h3,h4⟩
section
variable {prog:Program} {w:World} {A:Around} {E:YA} {s:Shared} {K:Frag}
end
end Att
namespace L2
open PySem PySem.Spec PyProof.Rows
theorem Ud:∀{vs:YE} {ns:List Int},IntsAre vs ns->Vals (ns.map V.int) vs
 | _,_,.nil=>.nil
 | _,_,.cons n t h=>.cons ⟨t,rfl⟩ (Ud h)
def Only (H:Hp):Prop:=∀b,H b=none\/∃o xs,H b=some (.frz o (.lst xs))
theorem iY {P:Program} {w:World} {K:YD} {mg mb:YB} {CX:CXT} {k:Nat} {fa a:Addr} {fd:FuncData} {x:Str} {sp:Sp} {s₁ : Shared} {vs:YE} {ns:List Int}
  (KX:K.In s₁.heap) (hns:s₁.heap.Ns mainGlobals mg) (hb:s₁.heap.Ns builtinsNs mb) (hbb:∀x:Str,x≠"__name__"->mb x=bootBuiltins x) (hlim:s₁.heap.NoLimit) (hg:s₁.gens=#[])
  (ha:s₁.heap.get? a=some { cls:=.type "list",data:=.seq vs.toArray }) (hi:IntsAre vs ns) (hl:ns.length<=sizeLine) (hr:DK k callerA)
  (F:∀base:Heap,K.In base->base.Ns mainGlobals mg->Jw P w K mg base CX k fa fd [x] sp) (hbind:∀(s:Shared) (u:Value),BindsTo s fd ⟨[u],[]⟩ [(x,u)])
  (hsp:∀H:Hp,Only H->SqL K H a (ns.map V.int)->sp [.ref a] H (λv _=>v=.bl true) λ_ _ _=>False)
  (hCX:∀H e s',CX [] H s₁ (λ_ _ _=>False) e s'->False) :
  codeAny (model P w) callerA (.call (.ref fa) ⟨[.ref a],[]⟩) (λr s'=>r=.ok (.ret (.bool true))/\OldK s₁.heap s'.heap/\s'.os=s₁.os/\AllBare s'.gens) s₁:=by
 have rv:=Ud hi;have lenV:=hi.length;have core:∀H:Hp,Only H->SqL K H a (ns.map V.int)->HOk P w H s₁.heap->(∀b,H b≠none->b=a)->(H a≠none->K.lookup a=none) ->
   codeAny (model P w) callerA (.call (.ref fa) ⟨[.ref a],[]⟩) (λr s'=>r=.ok (.ret (.bool true))/\OldK s₁.heap s'.heap/\s'.os=s₁.os/\AllBare s'.gens) s₁:=by
  intro H hO hS hok hA hK;have Zm:∀{b:Addr} {o:Obj},s₁.heap.get? b=some o->H b=none->(Oa s₁.heap H).get? b=some o:=λe n=>jF e n;have noA:∀{b:Addr} {o:Obj} {es:Array DictEntry} {ep:Nat},s₁.heap.get? b=some o->o.data=.dict es ep->H b=none:=λ{b o es ep} e d=>by
   cases q:H b with
   | none=>rfl
   | some u=>
    have e':b=a:=hA b (by rw[q];simp);subst e';rw[ha] at e;cases e;have d':Data.seq vs.toArray _=Data.dict es ep:=d;cases d'
  have nsK:∀{b:Addr} {m:YB},s₁.heap.Ns b m->(Oa s₁.heap H).Ns b m:=λ{b m} ⟨o,es,ep,e,d,r⟩=>⟨o,es,ep,Zm e (noA e d),d,r⟩;have hKb:K.In (Oa s₁.heap H):=λb o e=>Zm (KX b o e) (by
   cases q:H b with
   | none=>rfl
   | some u=>
    have e':b=a:=hA b (by rw[q];simp);subst e';rw[hK (by rw[q];simp)] at e;cases e)
  have hM:Mod K mg (Oa s₁.heap H):=⟨hKb,nsK hns,⟨mb,nsK hb,hbb⟩,let ⟨mc,h1,h2⟩:=hlim;⟨mc,nsK h1,h2⟩⟩;have e0:Om P w K mg (Oa s₁.heap H) callerA [] s₁ H:=⟨rq,hM,λb o e=>nU e,Nat.le_of_eq (dZ _ _),trivial,λb hb=>absurd (show b∈([]:List Addr) from hb) (by simp),hok,.of_eq hg⟩
  refine codeAny_mono ((F _ hKb (nsK hns)).run callerA [] s₁ H ⟨[.ref a],[]⟩ [.ref a] [.ref a] _ _ hr e0 (hbind s₁ (.ref a)) (.cons rfl .nil) (hsp H hO hS)) λr s' h=>?_;cases r with
  | error e=>exact (hCX H e s' h).elim
  | ok fl=>
   cases fl with
   | next=>exact False.elim h
   | brk=>exact False.elim h
   | cont=>exact False.elim h
   | ret u=>
    obtain⟨v,H',os,bare,un,hok',r',q⟩:=h;have q':v=.bl true:=q;subst q';obtain rfl:u=Value.bool true:=r';refine⟨rq,OldK.of_keep λb o e=>?_,os,bare⟩;cases q:H b with
    | none=>exact un.keep b o e q (by intro z;exact absurd (show b∈([]:List Addr) from z) (by simp)) (by simp)
    | some u=>
     rcases hO b with z |⟨ob,xs,z⟩
     ·rw[q] at z;cases z
     ·have z2:=un.G6 b ob _ z;obtain⟨e1,_⟩:=hok b _ z;obtain⟨e2,_⟩:=hok' b _ z2;rw[e] at e1;cases e1;exact e2
 cases hk:K.lookup a with
 | some o=>
  have e:=KX a o hk;rw[ha] at e;cases e;refine core (λ_=>none) (λ_=>.inl rfl) (.inr ⟨_,vs.toArray,_,hk,rq,rq,rq,by rw[Qbc,lenV];exact hl,by simpa using rv⟩) (λb u z=>by have z':(none:Option HO)=some u:=z;cases z') (λb z=>absurd rfl z) λz=>absurd rfl z
 | none=>
  refine core (λb=>if b=a then some (.frz { cls:=.type "list",data:=.seq vs.toArray } (.lst (ns.map V.int))) else none) (λb=>?_) (.inl (.inr ⟨{ cls:=.type "list",data:=.seq vs.toArray },if_pos rfl⟩)) (λb u z=>?_) (λb z=>?_) λ_=>hk
  ·by_cases hb:b=a
   ·exact .inr ⟨_,_,if_pos hb⟩
   ·exact .inl (if_neg hb)
  ·by_cases hb:b=a
   ·have z':=(if_pos hb).symm.trans z;cases z';subst hb;exact⟨ha,by rw[Qbw];exact hl,vs,_,rv,ha⟩
   ·have z':=(if_neg hb).symm.trans z;cases z'
  ·by_cases hb:b=a
   ·exact hb
   ·exact absurd (if_neg hb) z
theorem mJ {l:PySem.W.OpenLaw} {n k:Nat} {q:Program} {loose:YF} {XP:(YB)->Heap->Prop} {YP:World->Heap->Prop} {d:DefRec} {K:Params->YD} {CX:World->CXT} {sp:World->Sp} {x:Str}
  (hn:l.most=some n) (hn2:n<=sizeLine) (hdf:d.params.defaults=[]) (hr:DK k callerA)
  (hY:∀(w:World) (h:Heap),YP w h->(K w.params).In h)
  (F:∀(w:World) (mg:YB) (fa:Addr) (h:Heap),(K w.params).In h->h.Ns mainGlobals mg->mg d.name=some (.ref fa) ->
   ∃fd:FuncData,(∀(s:Shared) (u:Value),BindsTo s fd ⟨[u],[]⟩ [(x,u)]) /\
    ∀base:Heap,(K w.params).In base->base.Ns mainGlobals mg->Jw l.prog w (K w.params) mg base (CX w) k fa fd [x] (sp w))
  (hsp:∀(w:World) (H:Hp) (a:Addr) (ns:List Int),ns.length<=n->Only H->SqL (K w.params) H a (ns.map V.int)->sp w [.ref a] H (λv _=>v=.bl true) λ_ _ _=>False)
  (hCX:∀(w:World) (H:Hp) (s:Shared) (e:Value) (s':Shared),CX w [] H s (λ_ _ _=>False) e s'->False) :
  PySem.W.WalkO q loose XP YP l.row.toRowW d [] (λf vs=>PySem.call f vs):=by
 refine Att.Yd hn hdf λw s₀ s₁ mg mb fa o pm cd doc a vs ns G Y ho hd hcd hmg hobj hints hlen hg=>?_;have KX:=hY w _ Y;obtain⟨fd,hb,hF⟩:=F w mg fa _ KX G.T.g hmg;exact iY KX G.T.g G.T.b G.T.builtins G.T.nolimit hg hobj hints (Qca hlen hn2) hr hF hb (λH hO hS=>hsp w H a ns hlen hO hS) λH e s'=>hCX w H s₁ e s'
def Gv (s:Stmt):Arguments:=match s with
 | .FunctionDef _ a _ _ _ _ _ _ _ _=>a
 | _=>{ posonlyargs:=[],args:=[],vararg:=none,kwonlyargs:=[],kw_defaults:=[],kwarg:=none,defaults:=[] }
def Ei (s:Stmt):List Stmt:=match s with
 | .FunctionDef _ _ b _ _ _ _ _ _ _=>b
 | _=>[]
def Ar (s:Stmt):Scope:=match s with
 | .FunctionDef _ _ _ _ _ _ sc _ _ _=>sc
 | _=>{ kind:=.function,names:=[],isGenerator:=false,isCoroutine:=false }
abbrev CX0:CXT:=λ_ _ _ _ _ _=>False
abbrev E0:XK:=λ_ _ _=>False
theorem uR {X:Cx}:Passes CX0 X E0:=λ_ _ _ _ _ _ _ h=>h.elim
structure Fun (K:YD) (x qual:Str) (st:Stmt) (f:Addr) (fd:FuncData):Prop where
 ex:∃(oc:Value) (od:Option Addr) (kV doc pm:Value) (an:Option Addr) (cdv ct:Value) (osl:YI),
  fd=fnOf x qual (Gv st) (Ei st) (Ar st) .none kV doc pm an cdv ct/\K.lookup f=some ⟨oc,od,.func fd,osl⟩/\codeIn K cdv qual=true
 kp:keepIn K (.ref f)=true
section
variable {P:Program} {w:World} {K:YD} {mg:YB} {base:Heap}
theorem Fun.ok {x qual:Str} {st:Stmt} {f:Addr} {fd:FuncData} {N ps:YF} {k:Nat} {sp:Sp} (F:Fun K x qual st f fd) (S:Bo N ps (Ar st)) (len:∀vs H Q E,sp vs H Q E->vs.length=ps.length)
  (hbody:∀(cdv:Value) (A:Around) (outer:List Env) (s:Shared) (H:Hp) (vs:YG) (Q:VK) (E:XK),DK k (A.deeper (envOfC qual (Ar st) s.heap.objs.size f cdv))->sp vs H Q E ->
   ∃t,PSs (Ly CX0 P w K mg base N qual (Ar st) f cdv A outer s H E).nox (Ei st) t/\t { nx:=λ_ H'=>Q .non H',rt:=Q } (start N vs) H):Jw P w K mg base CX0 (k+1) f fd ps sp:=by
 obtain⟨oc,od,kV,doc,pm,an,cdv,ct,osl,rfl,lk,hcd⟩:=F.ex;refine mz lk hcd S len λA outer s H vs Q E hr hsp=>?_;obtain⟨t,h,q⟩:=hbody cdv A outer s H vs Q E hr hsp;exact⟨t,h.nox,q⟩
theorem Fun.binds {x qual:Str} {st:Stmt} {f:Addr} {fd:FuncData} {ps:YF} (F:Fun K x qual st f fd)
  (h:∀(kV doc pm:Value) (an:Option Addr) (cdv ct:Value) (us:YE),us.length=ps.length->bindArgs (fnOf x qual (Gv st) (Ei st) (Ar st) .none kV doc pm an cdv ct) ⟨us,[]⟩=pure (ps.zip us)):Binds K fd ps []:=by
 obtain⟨oc,od,kV,doc,pm,an,cdv,ct,osl,rfl,lk,hcd⟩:=F.ex;exact .all (h kV doc pm an cdv ct)
theorem eH {x qual:Str} {st:Stmt} {f:Addr} {oc:Value} {od an:Option Addr} {osl:YI} {kV doc pm cdv ct:Value} (l:K.lookup f=some ⟨oc,od,.func (fnOf x qual (Gv st) (Ei st) (Ar st) .none kV doc pm an cdv ct),osl⟩)
  (c:codeIn K cdv qual=true) (k:keepIn K (.ref f)=true):Fun K x qual st f (fnOf x qual (Gv st) (Ei st) (Ar st) .none kV doc pm an cdv ct):=⟨⟨oc,od,kV,doc,pm,an,cdv,ct,osl,rq,l,c⟩,k⟩
end
theorem Qo {A:Around} {k:Nat} (hr:DK k A):A.units+1 < cLine:=Nat.lt_of_le_of_lt (Nat.add_le_add_left (by decide:1<=64) _) hr.units
theorem Ca {n:Nat} (h:n<=1000):n < sizeLine:=Nat.lt_of_le_of_lt h (by decide)
section
variable {X:Cx}
theorem pv (i:Nat) {x:Str} {pos:Pos} (hN:X.N[i]?=some x:=by rfl) (hv:Vis X.env.scope x:=by first | exact Or.inl rfl | exact Or.inr (Or.inl rfl) | exact Or.inr (Or.inr rfl)) (hd:(x == ("__debug__":Str))=false:=by decide)
  (hcd:(x == ("__classdict__":Str))=false:=by decide):PE X (.Name x pos) (qd i):=qO hN hv hd hcd
end
theorem Bs {A B:Prop} (h:B):if false=true then A else B:=by
 rw[if_neg QaP];exact h
theorem Bp {A B:Prop} (h:A):if true=true then A else B:=by
 rw[if_pos rfl];exact h
theorem aJ {c A B:Prop} [Decidable c] (h1:c->A) (h2:¬c->B):if c then A else B:=by
 by_cases h:c
 ·rw[if_pos h];exact h1 h
 ·rw[if_neg h];exact h2 h
theorem aH {c A B:Prop} [Decidable c] (hc:c) (h:B):if (!decide c)=true then A else B:=by
 rw[QbN hc];exact Bs h
def Same (H H':Hp):Prop:=∀b o,H b=some o->H' b=some o
theorem Same.refl (H:Hp):Same H H:=λ_ _ h=>h
theorem Same.trans {H H1 H2:Hp} (a:Same H H1) (b:Same H1 H2):Same H H2:=λc o h=>b c o (a c o h)
theorem Same.free {H H':Hp} (e:Same H H') {l:Addr} (h:H' l=Option.none):H l=Option.none:=by
 cases q:H l with
 | none=>rfl
 | some o=>
  rw[e l o q] at h;cases h
theorem Same.seq {K:YD} {H H':Hp} {a:Addr} {xs:YG} (e:Same H H') (h:SqL K H a xs):SqL K H' a xs:=by
 rcases h with (h |⟨o,h⟩) | h
 ·exact .inl (.inl (e _ _ h))
 ·exact .inl (.inr ⟨o,e _ _ h⟩)
 ·exact .inr h
def Ep (env:Env):List (Str×NameKind)->List (Str×Addr)->List (Str×Addr)
 | [],cs=>cs
 | (n,k)::r,cs=>Ep env r (if (k == .free)=true then (match env.cells.lookup n with | some c=>(n,c)::cs | none=>cs) else cs)
theorem Xk {env:Env}:∀(names:List (Str×NameKind)) (cs:List (Str×Addr)),(∀p∈names,p.2=.free->∃c,env.cells.lookup p.1=some c) ->
  (forIn names cs λ(p:Str×NameKind) (r:List (Str×Addr))=>(if (p.2 == .free)=true then do
    let c <-cellOf env p.1
    pure (ForInStep.yield ((p.1,c)::r))
   else pure (ForInStep.yield r):Sem (ForInStep (List (Str×Addr)))))=pure (Ep env names cs)
 | [],cs,_=>rfl
 | (n,k)::rest,cs,h=>by
  have ih:=λcs'=>Xk rest cs' λp hp=>h p (QaB _ hp);rw[List.forIn_cons];cases hk:(k == NameKind.free) with
  | true=>
   obtain⟨c,hc⟩:=h (n,k) QaN (Qcn hk);have e1:cellOf env n=pure c:=by unfold cellOf;rw[hc]
   have e2:Ep env ((n,k)::rest) cs=Ep env rest ((n,c)::cs):=by simp only[Ep,hk,if_true,hc]
   rw[e2,<-ih];simp only[hk,if_true,e1,pure_bind]
  | false=>
   have e2:Ep env ((n,k)::rest) cs=Ep env rest cs:=by simp only[Ep,hk,Bool.false_eq_true,if_false]
   rw[e2,<-ih];simp only[hk,Bool.false_eq_true,if_false,pure_bind]
theorem Og {env:Env} {scope:Scope} (h:∀p∈scope.names,p.2=.free->∃c,env.cells.lookup p.1=some c):closureFor scope env=pure (Ep env scope.names []):=by
 have e:=Xk (env:=env) scope.names [] h;unfold closureFor;simp only[bind_pure];exact e
theorem Xj {env:Env}:∀(names:List (Str×NameKind)) (cs:List (Str×Addr)),(∀x c,cs.lookup x=some c->env.cells.lookup x=some c) ->
  ∀x c,(Ep env names cs).lookup x=some c->env.cells.lookup x=some c
 | [],cs,h,x,c,e=>h x c e
 | (n,k)::rest,cs,h,x,c,e=>by
  refine Xj rest _ (λy d z=>?_) x c e;split at z
  ·split at z
   ·rename_i c' hc';rw[List.lookup_cons] at z;cases q:y == n with
    | true=>rw[q] at z;cases z;rw[Qcn q];exact hc'
    | false=>rw[q] at z;exact h y d z
   ·exact h y d z
  ·exact h y d z
theorem Rj {env:Env}:∀(names:List (Str×NameKind)) (cs:List (Str×Addr)) (x:Str),((cs.lookup x).isSome=true\/((x,NameKind.free)∈names/\∃c,env.cells.lookup x=some c)) ->
  ∃c,(Ep env names cs).lookup x=some c
 | [],cs,x,h=>by
  rcases h with h |⟨h,_⟩
  ·exact Option.isSome_iff_exists.mp h
  ·cases h
 | (n,k)::rest,cs,x,h=>by
  refine Rj rest _ x ?_;have grow:(cs.lookup x).isSome=true->(List.lookup x (if (k == .free)=true then (match env.cells.lookup n with | some c=>(n,c)::cs | none=>cs) else cs)).isSome=true:=λz=>by
   split
   ·split
    ·rw[List.lookup_cons];cases x == n with
     | true=>rfl
     | false=>exact z
    ·exact z
   ·exact z
  rcases h with h |⟨h,c,hc⟩
  ·exact .inl (grow h)
  ·rcases QbP.mp h with z | z
   ·cases z;refine .inl ?_;simp[hc,List.lookup_cons]
   ·exact .inr ⟨z,c,hc⟩
def JC (env:Env) (n:Str) (k:NameKind):NameKind:=if (k == .free&&env.scope.kind == .function&&env.kindOf n == some .cell)=true then .cell else k
theorem N6 (env:Env):∀(l:List (Str×NameKind)) (x:Str),
  (l.map λ(n,k)=>if (k == NameKind.free&&env.scope.kind == .function&&env.kindOf n == some .cell) then (n,NameKind.cell) else (n,k)).lookup x=(l.lookup x).map (JC env x)
 | [],_=>rfl
 | (n,k)::r,x=>by
  have ih:=N6 env r x;have e:(if (k == NameKind.free&&env.scope.kind == .function&&env.kindOf n == some .cell)=true then (n,NameKind.cell) else (n,k))=(n,JC env n k):=by
   unfold JC;split <;> rfl
  rw[QbR];show List.lookup x ((if (k == NameKind.free&&env.scope.kind == .function&&env.kindOf n == some .cell)=true then (n,NameKind.cell) else (n,k))::_)=_
  rw[e,List.lookup_cons,List.lookup_cons];cases q:x == n with
  | true=>rw[Qcn q];rfl
  | false=>exact ih
theorem g8 {env:Env} {n:Str} {k:NameKind} (h:JC env n k=.cell\/JC env n k=.free):k=.cell\/k=.free:=by
 unfold JC at h;split at h
 ·rename_i q;simp only[Qbk] at q;exact .inr (Qcn q.1.1)
 ·exact h
theorem fC {prog:Program} {w:World} {A:Around} {R:Result->Shared->Prop} {s:Shared} {elt target iter:Expr} {ifs:YJ} {scope:Scope} {pos:Pos} {it acc:Value} {env:Env} (J:Nat->Shared->Prop)
  (turn:∀n s,J n s->wpAny (model prog w) A (pyNext it) (λr s1=>match r with
   | none=>R (.ok .next) s1
   | some v=>wpAny (model prog w) A (letOwnedTupleGo target it v) (λ_ s2=>wpAny (model prog w) A (assign target env v) (λ_ s3=>
     wpAny (model prog w) A (forIn ifs true λc r=>if r=true then do let ok <-isTrue c env (eval c env);pure (ForInStep.yield ok) else pure (ForInStep.yield r)) (λok s4=>
      if ok=true then wpAny (model prog w) A (eval elt env) (λx s5=>wpAny (model prog w) A (call (.builtin "list.append") [acc,x]) (λ_ s6=>∃m,m < n/\J m s6) (λ_ _=>False) s5) (λ_ _=>False) s4
      else ∃m,m < n/\J m s4) (λ_ _=>False) s3) (λ_ _=>False) s2) (λ_ _=>False) s1) (λ_ _=>False) s)
  (n:Nat) (h:J n s):codeAny (model prog w) A (.compLoop (.ListComp elt [⟨target,iter,ifs,0⟩] scope pos) 0 it acc env) R s:=by
 refine codeAny_loop rfl J (λk s' hk=>?_) n h;show wpAny _ A (Sem.onRaise (compTurn (.ListComp elt [⟨target,iter,ifs,0⟩] scope pos) 0 it acc env) (λx=>do noteFrame x env;theTreesLotGoes x)) _ _ s'
 refine wpAny_noted ?_;rw[compTurn_list];refine Qcj (QbV (Qcj (Qcl (turn k s' hk) (λr s1 q1=>?_) λ_ _ f=>f.elim)));cases r with
 | none=>exact Qck q1
 | some v=>
  refine Qcj (Qcl q1 (λ_ s2 q2=>Qcj (Qcl q2 (λ_ s3 q3=>Qcj (Qcl q3 (λok s4 q4=>?_) λ_ _ f=>f.elim)) λ_ _ f=>f.elim)) λ_ _ f=>f.elim);cases ok with
  | false=>exact Qck ⟨rfl,q4⟩
  | true=>exact Qcj (Qcj (Qcl q4 (λx s5 q5=>Qcj (Qcl q5 (λ_ s6 q6=>Qck (Qck ⟨rfl,q6⟩)) λ_ _ f=>f.elim)) λ_ _ f=>f.elim))
def cxC (X:Cx) (N':YF) (scope:Scope) (s3:Shared) (H3:Hp) (fp:List Addr) (pn:YC):Cx where
 prog:=X.prog
 w:=X.w
 K:=X.K
 mg:=X.mg
 base:=X.base
 A:=X.A
 N:=N'
 s₀:=s3
 H₀:=H3
 env:=compEnvC scope (Ep X.env scope.names []) s3.heap.objs.size X.env
 outer:=X.stack
 stack:=X.stack
 ex:=fp
 fn:=λ_=>false
 calm:=X.calm
 pn:=pn
 xe:=λ_ _=>False
structure CZ (X:Cx) (N':YF) (src:List (Option Nat)) (sc:Scope):Prop where
 kind:sc.kind=.function
 Gq:∀y∈sc.names,y.2≠.cell
 loc:∀y∈sc.names,y.2=.local->sc.names.lookup y.1=some .local
 fv:∀y∈sc.names,y.2=.free->X.env.kindOf y.1=some .cell\/X.env.kindOf y.1=some .free
 len:src.length=N'.length
 src:∀(i:Nat) (x:Str) (j:Nat),N'[i]?=some x->src[i]?=some (some j)->X.N[j]?=some x/\sc.names.lookup x=some .free
def Jk (src:List (Option Nat)) (U : St):St:=src.map λo=>match o with | none=>none | some j=>(U[j]?).join
def PF (X:Cx) (ifs:YJ) (t:TT):Prop:=
 ∀(jb:YC) (s:Shared) (U : St) (H:Hp) (Q:Bool->Hp->Prop),Inv X jb U H s->t U H Q ->
  wpAny (model X.prog X.w) X.A (forIn ifs true λc r=>if r=true then do let ok <-isTrue c X.env (eval c X.env);pure (ForInStep.yield ok) else pure (ForInStep.yield r)) (TP X jb U Q) X.xe s
theorem Ii {X:Cx}:PF X [] (λ_ H Q=>Q true H):=λ_ _ _ H _ I h=>wpAny_tests_nil ⟨H,I,h⟩
theorem Wk {X:Cx} {c:Expr} {t:TT} (hc:PT X c t):PF X [c] t:=λjb s U H Q I h=>wpAny_tests_one (hc jb s U H Q I h)
theorem Un.ahead {fs ex:List Addr} {H H':Hp} {h h1 h':Heap} (u:Un fs ex H H' h h1) (k:∀b o,b < h.objs.size->h1.get? b=some o->h'.get? b=some o):Un fs ex H H' h h' where
 keep:=λb o e n hb hx=>k b o (QbZ e) (u.keep b o e n hb hx)
 slot:=λb o e n hb hx=>by
  obtain⟨sl,q⟩:=u.slot b o e n hb hx;exact⟨sl,k b _ (QbZ e) q⟩
 free:=u.free
 there:=λb o e hx=>by
  obtain⟨o',q⟩:=u.there b o e hx;exact⟨o',k b _ (QbZ e) q⟩
 tups:=u.tups
 G6:=u.G6
 HW:=u.HW
section
variable {X:Cx} {N':YF} {src:List (Option Nat)} {sc:Scope} {jb:YC} {U : St} {H:Hp} {s3:Shared} {fp:List Addr} {h1:Heap} {tk:Nat}
theorem Ri (S:CZ X N' src sc) (I:Inv X jb U H s3) (hf:∀b∈fp,Gh X jb H b) (ht:∀b∈fp,b < s3.heap.objs.size)
  (ns:h1.Ns s3.heap.objs.size λ_=>none) (kp:∀b o,s3.heap.get? b=some o->h1.get? b=some o) :
  Inv (cxC X N' sc s3 H fp (X.pn++jb)) [] (Jk src U) H { s3 with heap:=h1,toks:=tk }:=by
 have hcl:∀x c,(Ep X.env sc.names []).lookup x=some c->X.env.cells.lookup x=some c:=Xj sc.names [] λx c e=>by cases e
 have old:∀x c,(Ep X.env sc.names []).lookup x=some c->∃o,s3.heap.get? c=some o:=λx c e=>by
  obtain⟨v,o,ho,_⟩:=I.cell x c (hcl x c e);exact⟨o,ho⟩
 have fvh:∀x,(x,NameKind.free)∈sc.names->∃c,X.env.cells.lookup x=some c:=λx hx=>I.ok.has x (S.fv _ hx rfl);have qu:∀b,b≠X.env.locals->b∉X.fs->b∉frs X.stack:=λb h1 h2 hb=>(QbP.mp (I.Ox b hb)).elim h1 h2;have kindOf_eq:∀x,(compEnvC sc (Ep X.env sc.names []) s3.heap.objs.size X.env).kindOf x=(sc.names.lookup x).map (JC X.env x):=λx=>N6 X.env sc.names x;refine⟨⟨I.ok.mod,S.kind,I.ok.glob,I.ok.blt,Qcf _,λx y c e1 e2=>I.ok.inj x y c (hcl x c e1) (hcl y c e2),λx hx=>?_,λx c hf=>absurd hf QaP,I.ok.hd,I.ok.frames,.inl rfl,λb hb=>?_,I.bs,Qca I.ok.bsz I.sz,
  λb o e hb=>?_,λb hb=>?_,I.stack,I.SM⟩,rq,I.bare,Un.kept kp,⟨_,ns,λi x v e1 e2 e3=>?_⟩,λx c e=>?_,I.hok.fresh (Qcf _),λx c e=>I.Fo x c (hcl x c e),λp hp=>?_,I.hok.kept kp,?_⟩
 ·
  have hx':(sc.names.lookup x).map (JC X.env x)=some .cell\/(sc.names.lookup x).map (JC X.env x)=some .free:=by
   rw[<-kindOf_eq x];exact hx
  cases q:sc.names.lookup x with
  | none=>rw[q] at hx';rcases hx' with z | z <;> cases z
  | some k=>
   rw[q] at hx';have hk:k=.cell\/k=.free:=g8 (env:=X.env) (n:=x) (hx'.imp (λz=>QbA z) λz=>QbA z);have hm:=QaI q;rcases hk with rfl | rfl
   ·exact absurd rfl (S.Gq _ hm)
   ·exact Rj sc.names [] x (.inr ⟨hm,fvh x hm⟩)
 ·
  obtain⟨f0,f1,f2,f3,f4,f5⟩:=hf b hb;exact⟨Qcb (ht b hb),λx c e=>f4 x c (hcl x c e)⟩
 ·
  obtain⟨f0,f1,f2,f3,f4,f5⟩:=hf b hb;rcases f3 with z | z
  ·exact I.ok.JK b o e z
  ·exact absurd (QaQ (QbZ e) (Qca I.ok.bsz z)) (QbU _)
 ·
  obtain⟨f0,f1,f2,f3,f4,f5⟩:=hf b hb;exact qu b f1 f2
 ·
  have e2':(Jk src U)[i]?=some (some v):=e2;unfold Jk at e2';rw[Qbe] at e2';cases q:src[i]? with
  | none=>rw[q] at e2';cases e2'
  | some oj=>
   rw[q] at e2';cases oj with
   | none=>cases e2'
   | some j=>
    have e4:(U[j]?).join=some v:=QbA e2';have e5:U[j]?=some (some v):=by
     cases r:U[j]? with
     | none=>rw[r] at e4;cases e4
     | some z=>rw[r] at e4;cases z with
      | none=>cases e4
      | some y=>cases e4;rfl
    obtain⟨hN,hfr⟩:=S.src i x j e1 q;have hm:=QaI hfr;have kx:=S.fv _ hm rfl;obtain⟨m,hn,hl⟩:=I.loc;obtain⟨u,r,l⟩:=hl j x v hN e5 (.inr kx);refine⟨u,r,?_⟩;rcases l with⟨k1,_⟩|⟨_,c,hc,hcell⟩
    ·rcases kx with z | z <;> (rw[z] at k1;cases k1)
    ·obtain⟨c',hc'⟩:=Rj (env:=X.env) sc.names [] x (.inr ⟨hm,c,hc⟩);have e6:c'=c:=by
      have:=hcl x c' hc';rw[hc] at this;exact (QbA this).symm
     subst e6;refine .inr ⟨?_,c',hc',?_⟩
     ·have:(compEnvC sc (Ep X.env sc.names []) s3.heap.objs.size X.env).kindOf x=some (JC X.env x .free):=by rw[kindOf_eq x,hfr];rfl
      show (compEnvC sc (Ep X.env sc.names []) s3.heap.objs.size X.env).kindOf x=some .cell\/(compEnvC sc (Ep X.env sc.names []) s3.heap.objs.size X.env).kindOf x=some .free;rw[this];unfold JC;split
      ·exact .inl rfl
      ·exact .inr rfl
     ·obtain⟨o,ho,hd⟩:=hcell;exact⟨o,kp _ o ho,hd⟩
 ·
  obtain⟨v,o,ho,hd⟩:=I.cell x c (hcl x c e);exact⟨v,o,kp _ o ho,hd⟩
 ·
  have hp':p∈X.pn++jb:=(Qby.mp hp).elim id λz=>by cases z
  obtain⟨a1,a2,a3,a4,a5⟩:=I.pin p hp';exact⟨kp _ _ a1,a2,Qcb (QbZ a1),qu p.1 a3 a4,a5⟩
 ·show (Jk src U).length=N'.length;unfold Jk;rw[Qbw];exact S.len
theorem Pk {s1:Shared} {σ':St} {H':Hp} {h':Heap} (I:Inv X jb U H s3) (hf:∀b∈fp,Gh X jb H b) (I':Inv (cxC X N' sc s3 H fp (X.pn++jb)) [] σ' H' s1)
  (sb:Heap.SameBut s3.heap.objs.size s1.heap h'):Inv X jb U H' { s1 with heap:=h' }:=by
 have fr:H' s3.heap.objs.size=none:=I'.free;refine I.call' (s':={ s1 with heap:=h' }) (ch:=fp) I'.os ?_ ?_ I'.bare λb hb=>?_
 ·exact Un.ahead (h:=s3.heap) (h1:=s1.heap) I'.base λb o hb e=>sb.extBut b o (Qcb hb) e
 ·exact λb u e=>(I'.hok b u e).stay (λc v hc q=>sb.extBut c v (by
   intro z;rcases hc with y | y
   ·rw[<-y,z,fr] at e;cases e
   ·rw[z,fr] at y;cases y) q) (λ_ q=>q) λ_ _ q=>q
 ·obtain⟨f0,f1,f2,f3,f4,f5⟩:=hf b hb;exact⟨f3,f1,f4,λp hp=>f5 p hp⟩
end
@[irreducible] def Hf (J:It) (g:TG) (tt:TT) (te:TE) (Q:VK) (σ0:St) (H0:Hp) (l:Addr):Prop:=∃W:Nat->YN,(∃m,W 0 m σ0 H0) /\
 ∀i m σ' H',W i m σ' H'->(J.stop i H'/\Q (.ref l) H')\/(J.go i H'/\∃N:YO,(∀ σ3 H3,N σ3 H3->∃m',m' < m/\W (i+1) m' σ3 H3)/\∀x H2,J.yld i H' x H2->g x σ' H2 fun σ3 H3=>tt σ3 H3 λb H4=>
  if b=true then te σ3 H4 λy H5=>∃xs,H5 l=some (.lst xs)/\xs.length < sizeLine/\N σ3 (upd H5 l (.lst (xs++[y]))) else N σ3 H4)
def Zz (wi:TI) (src:List (Option Nat)) (g:TG) (tt:TT) (te:TE):TE:=fun U H Q=>wi U H λJ H1=>∀l,H1 l=none->Hf J g tt te Q (Jk src U) (upd H1 l (.lst [])) l
theorem Ux {X:Cx} {N':YF} {src:List (Option Nat)} {sc:Scope} {elt tg iter:Expr} {ifs:YJ} {pos pos':Pos} {wi:TI} {g:TG} {tt:TT} {te:TE} {use:Option (Value->Sem Unit)} {R:YA} (hc:X.calm=true) (S:CZ X N' src sc)
  (hi:PI X tg iter wi) (hg:∀s3 H3 fp pn,PG (cxC X N' sc s3 H3 fp pn) tg g) (ht:∀s3 H3 fp pn,PF (cxC X N' sc s3 H3 fp pn) ifs tt) (he:∀s3 H3 fp pn,PE (cxC X N' sc s3 H3 fp pn) elt te)
  (hs:∀x,foldedSetIterable iter X.env x=pure x) {jb:YC} {s:Shared} {U : St} {H:Hp} {Q:VK} (I:Inv X jb U H s) (h:Zz wi src g tt te U H Q)
  (fin:∀s3 H3 fp σ4 H4 s5 l,Inv X jb U H3 s3->(∀b∈fp,Gh X jb H3 b)->Inv (cxC X N' sc s3 H3 fp (X.pn++jb)) [] σ4 H4 s5->Q (.ref l) H4 ->
   compPost (model X.prog X.w) X.A X.xe use R (.ref l) s3.heap.objs.size (.ok .next) s5) :
  wpAny (model X.prog X.w) X.A (comprehension (.ListComp elt [⟨tg,iter,ifs,0⟩] sc pos) sc X.env pos' (newList []) false (eval iter X.env) use) R X.xe s:=by
 refine wpAny_comprehension_free (use:=use) (cl:=Ep X.env sc.names []) rfl hs (Og λp hp e=>I.ok.has p.1 (S.fv p hp e)) S.kind S.loc ?_;refine thn (hi jb s U H _ I h) λv s1 h1=>thn h1 λitv s2 h2=>?_;obtain⟨it,fp,tn,J,H2,rfl,I2,T,st2,f2,q⟩:=h2;have q':=q s2.heap.objs.size (I2.hok.fresh (Qcf _));unfold Hf at q';obtain⟨W,⟨m0,w0⟩,turn⟩:=q';refine Qbg (wpAny_newFunctionEnv S.Gq (by intro y hy;simp at hy) (λha hns hsb=>?_) S.kind);have I3:Inv X jb U (upd H2 s2.heap.objs.size (.lst [])) { s2 with heap:=s2.heap.push { cls:=.type "list",dict:=none,data:=.seq ([]:YE).toArray } }:=
  I2.laid (t':=s2.toks) (λb u e=>Qat _ e) (Qcf _) ⟨Qcg _,[],0,.nil,QaF _ rfl⟩
 have hfl:∀b∈fp,b < s2.heap.objs.size:=λb hb=>by
  obtain⟨o,e,_⟩:=T.obj 0 _ st2 b hb;exact QbZ e
 have f3:∀b∈fp,Gh X jb (upd H2 s2.heap.objs.size (.lst [])) b:=λb hb=>⟨by rw[Bw (Qcb (hfl b hb))];exact (f2 b hb).1,(f2 b hb).2⟩;generalize hs3:({ s2 with heap:=s2.heap.push { cls:=.type "list",dict:=none,data:=.seq ([]:YE).toArray } }:Shared)=s3 at *;have hsz:s2.heap.objs.size < s3.heap.objs.size:=by rw[<-hs3];show s2.heap.objs.size < (s2.heap.push _).objs.size;rw[QbO];exact Nat.lt_succ_self _
 have kp:∀b o,s3.heap.get? b=some o->ha.get? b=some o:=λb o e=>hsb.extBut b o (Qcb (QbZ e)) (Qat _ e);have st3:tn 0 ha:=T.keep 0 _ _ st2 λb hb o e=>kp b o (by rw[<-hs3];exact Qat _ e);have I4:Inv (cxC X N' sc s3 (upd H2 s2.heap.objs.size (.lst [])) fp (X.pn++jb)) [] (Jk src U) (upd H2 s2.heap.objs.size (.lst [])) { s3 with heap:=ha,toks:=s3.toks+([]:List (Str×Value)).length }:=
  Ri S I3 f3 (λb hb=>Nat.lt_trans (hfl b hb) hsz) hns kp
 have loop:codeAny (model X.prog X.w) X.A (.compLoop (.ListComp elt [⟨tg,iter,ifs,0⟩] sc pos) 0 (.ref it) (.ref s2.heap.objs.size) (compEnvC sc (Ep X.env sc.names []) s3.heap.objs.size X.env))
   (compPost (model X.prog X.w) X.A X.xe use R (.ref s2.heap.objs.size) s3.heap.objs.size) { s3 with heap:=ha,toks:=s3.toks+([]:List (Str×Value)).length }:=by
  refine fC (λn s'=>∃i σ' H',Inv (cxC X N' sc s3 (upd H2 s2.heap.objs.size (.lst [])) fp (X.pn++jb)) [] σ' H' s'/\tn i s'.heap/\(∀b∈fp,H' b=none)/\W i n σ' H') ?_ m0 ⟨0,_,_,I4,st3,λb hb=>(f3 b hb).1,w0⟩;rintro n s4 ⟨i,σ4,H4,J4,st4,fr4,w4⟩;have stat:∀{H':Hp},(∀b∈fp,H' b=none)->∀b∈fp,Gh (cxC X N' sc s3 (upd H2 s2.heap.objs.size (.lst [])) fp (X.pn++jb)) [] H' b:=λhn b hb=>
   ⟨hn b hb,(I4.ok.exf b hb).1,I4.ok.IV b hb,.inl hb,λx c e=>(I4.ok.exf b hb).2 x c e,λp hp=>(f3 b hb).2.2.2.2.2 p ((Qby.mp hp).elim id λz=>by cases z)⟩
  rcases turn i n σ4 H4 w4 with⟨stop,qn⟩|⟨go,N,hN,step⟩
  ·refine thn (T.done (cxC X N' sc s3 (upd H2 s2.heap.objs.size (.lst [])) fp (X.pn++jb)) rfl rfl rfl hc i [] s4 σ4 H4 _ J4 (stat fr4) st4 stop) λr s5 zz=>?_;obtain⟨hr,J5⟩:=zz;subst hr;exact fin s3 _ fp σ4 H4 s5 _ I3 f3 J5 qn
  ·refine thn (T.item (cxC X N' sc s3 (upd H2 s2.heap.objs.size (.lst [])) fp (X.pn++jb)) rfl rfl rfl hc i [] s4 σ4 H4 _ J4 (stat fr4) st4 go) λr s5 zz=>?_;obtain⟨u,hr,h5⟩:=zz;subst hr;refine thn h5 λ_ s6 zz=>?_;obtain⟨x,H6,J6,r6,y6,st6,fr6⟩:=zz;have J6':=J6.pinned (stat fr6) (T.obj _ _ st6);have back:∀{pl:YC} {σ7:St} {H7:Hp} {s7:Shared},Inv (cxC X N' sc s3 (upd H2 s2.heap.objs.size (.lst [])) fp (X.pn++jb)) ([]++Kg fp s6.heap) σ7 H7 s7->N σ7 H7 ->
     ∃m',m' < n/\∃i σ' H',Inv (cxC X N' sc s3 (upd H2 s2.heap.objs.size (.lst [])) fp (X.pn++jb)) [] σ' H' s7/\tn i s7.heap/\(∀b∈fp,H' b=none)/\W i m' σ' H':=λ{pl σ7 H7 s7} J7 w7=>by
    obtain⟨m',hm,w7⟩:=hN _ _ w7;have pinned:∀b∈fp,∀o,s6.heap.get? b=some o->s7.heap.get? b=some o/\H7 b=none:=λb hb o e=>by
     have:=J7.pin (b,o) (Qax _ (Qax _ (GF hb e)));exact⟨this.1,this.2.1⟩
    refine⟨m',hm,i+1,σ7,H7,J7.Gx,T.keep _ _ _ st6 λb hb o e=>(pinned b hb o e).1,λb hb=>?_,w7⟩;obtain⟨o,e,_⟩:=T.obj _ _ st6 b hb;exact (pinned b hb o e).2
   refine thn (hg s3 _ fp _ _ s6 σ4 H6 x u _ J6' r6 (step x H6 y6)) λ_ s7 zz=>?_;obtain⟨σ7,H7,J7,q7⟩:=zz;refine thn (ht s3 _ fp _ _ s7 σ7 H7 _ J7 q7) λok s8 zz=>?_;obtain⟨H8,J8,q8⟩:=zz;cases ok with
   | false=>
    rw[if_neg QaP] at q8 ⊢;exact back (pl:=[]) J8 q8
   | true=>
    rw[if_pos rfl] at q8 ⊢;refine thn (he s3 _ fp _ _ s8 σ7 H8 _ J8 q8) λy s9 zz=>?_;obtain⟨yv,H9,J9,r9,xs,hl9,hz9,q9⟩:=zz;refine thn (En _ s9 σ7 H9 (.ref s2.heap.objs.size) [yv] (.ref s2.heap.objs.size) [y] (λ_ H'=>N σ7 H') J9 rfl (.cons r9 .nil) ⟨_,xs,yv,rq,rq,hl9,hz9,q9⟩) λ_ s10 zz=>?_;obtain⟨_,H10,J10,_,q10⟩:=zz;exact back (pl:=[]) J10 q10
 exact codeAny_compStart_list loop (T.self X.A 0 _ _ _ st3 loop)
theorem G3 {X:Cx} {N':YF} {src:List (Option Nat)} {sc:Scope} {elt tg iter:Expr} {ifs:YJ} {pos:Pos} {wi:TI} {g:TG} {tt:TT} {te:TE} (hc:X.calm=true) (S:CZ X N' src sc)
  (hi:PI X tg iter wi) (hg:∀s3 H3 fp pn,PG (cxC X N' sc s3 H3 fp pn) tg g) (ht:∀s3 H3 fp pn,PF (cxC X N' sc s3 H3 fp pn) ifs tt) (he:∀s3 H3 fp pn,PE (cxC X N' sc s3 H3 fp pn) elt te)
  (hs:∀x,foldedSetIterable iter X.env x=pure x:=by intro _;rfl):PE X (.ListComp elt [⟨tg,iter,ifs,0⟩] sc pos) (Zz wi src g tt te):=by
 intro jb s U H Q I h;rw[eval_ListComp];refine Ux (use:=none) hc S hi hg ht he hs I h λs3 H3 fp σ4 H4 s5 l I3 f3 J5 q=>?_;obtain⟨m,hn,_⟩:=J5.loc;exact⟨m,hn,λh' sb=>⟨.ref l,H4,Pk I3 f3 J5 sb,rq,q⟩⟩
theorem Yw {X:Cx} {N':YF} {src:List (Option Nat)} {sc:Scope} {elt tg iter:Expr} {ifs:YJ} {pos spos px:Pos} {wi:TI} {g:TG} {tt:TT} {te:TE} {i:Nat} {x:Str} (hN:X.N.Nodup) (hi0:X.N[i]?=some x) (hx:Loc X.env.scope x) (hc:X.calm=true) (S:CZ X N' src sc)
  (hi:PI X tg iter wi) (hg:∀s3 H3 fp pn,PG (cxC X N' sc s3 H3 fp pn) tg g) (ht:∀s3 H3 fp pn,PF (cxC X N' sc s3 H3 fp pn) ifs tt) (he:∀s3 H3 fp pn,PE (cxC X N' sc s3 H3 fp pn) elt te)
  (hsw:swapsWith (.ListComp elt [⟨tg,iter,ifs,0⟩] sc pos) (some (.Name x px)) spos.line X.env=pure true:=by rfl) (hs:∀x,foldedSetIterable iter X.env x=pure x:=by intro _;rfl)
  (hf:X.fn x=true\/X.env.scope.names.lookup x=some .local:=by first | exact .inl rfl | exact .inr rfl | assumption) :
  PS X (.Assign [.Name x px] (.ListComp elt [⟨tg,iter,ifs,0⟩] sc pos) spos) (ZD (Zz wi src g tt te) (Gi i)):=by
 intro jb s U H D I h;rw[exec_Assign_Name_used _ _ _ _ hsw];refine Qcj (QbV (Qcj ?_));show wpAny _ X.A (do let _ <-comprehension (.ListComp elt [⟨tg,iter,ifs,0⟩] sc pos) sc X.env _ (newList []) false (eval iter X.env) (some (assign (.Name x px) X.env))) _ _ s
 refine Qcj (thn (Ux (R:=λ_ s'=>SP X jb D .next s') hc S hi hg ht he hs I h λs3 H3 fp σ4 H4 s5 l I3 f3 J5 q=>?_) λ_ s' hq=>Qck (Qck hq));obtain⟨m,⟨oC,es,ep,hoC,r⟩,_⟩:=J5.loc;have I6:Inv X jb U H4 { s5 with heap:=s5.heap }:=Pk I3 f3 J5 (Heap.SameBut.refl _ _);have hCn:H4 s3.heap.objs.size=none:=J5.free;have neL:s3.heap.objs.size≠X.env.locals:=Qcd I3.lt;have iQ:∀v,oC.data≠.cell v:=λv z=>by rw[r.1] at z;cases z
 have I7:Inv X (jb++[(s3.heap.objs.size,oC)]) U H4 s5:=I6.M8 λp hp=>(Qby.mp hp).elim (λz=>I6.pin p (Qax _ z)) λz=>by
  cases QaO.mp z;exact⟨hoC,hCn,neL,I3.Z9 (Qcf _),iQ⟩
 show wpAny _ X.A (assign (.Name x px) X.env (.ref l)) _ _ s5;refine wpAny_assign_Name (Hh (v:=.ref l) I7 hN hi0 hx rfl (λs6 I8=>?_) hf);have k8:=(I8.pin (s3.heap.objs.size,oC) (Qax _ (Qax _ (QaO.mpr rfl)))).1;refine⟨m,⟨oC,es,ep,k8,r⟩,λh' sb=>⟨_,H4,?_,q⟩⟩;have I9:=I8.Gx;refine I9.turned (t':=s6.toks) (λb o hb e=>sb.extBut b o hb e) hCn neL (.inr I3.sz) (λy c e z=>?_) (λp hp z=>?_)
 ·obtain⟨v,o,ho,_⟩:=I3.cell y c e;exact absurd (QbZ ho) (by rw[z];exact QbU _)
 ·have:=(I3.pin p hp).1;exact absurd (QbZ this) (by rw[z];exact QbU _)
theorem CZ.of {X:Cx} {N':YF} {src:List (Option Nat)} {sc:Scope} (fsc:Scope) (N:YF) (hX:X.env.scope=fsc) (hN:X.N=N) (kind:sc.kind=.function) (Gq:∀y∈sc.names,y.2≠.cell) (loc:∀y∈sc.names,y.2=.local->sc.names.lookup y.1=some .local)
  (fv:∀y∈sc.names,y.2=.free->fsc.names.lookup y.1=some .cell) (len:src.length=N'.length)
  (sr:((N'.zip src).all λp=>match p.2 with | none=>true | some j=>decide (N[j]?=some p.1)&&decide (sc.names.lookup p.1=some .free))=true):CZ X N' src sc where
 kind:=kind
 Gq:=Gq
 loc:=loc
 fv:=λy hy e=>.inl (by show X.env.scope.names.lookup y.1=some .cell;rw[hX];exact fv y hy e)
 len:=len
 src:=λi x j e1 e2=>by
  rw[Qbm] at sr;have hm:(x,some j)∈N'.zip src:=by
   refine QaC (i:=i) ?_;rw[List.getElem?_zip_eq_some];exact⟨e1,e2⟩
  have:=sr _ hm;simp only[Qbk,decide_eq_true_eq] at this;rw[hN];exact this
section
variable {X:Cx}
@[irreducible] def Kz (K:YD):YG->Hp->VK->Prop:=λxs H Q=>∃x T t b,xs=[x,.ty T]/\JQ K H x t/\kitOne K t (.type T)=some b/\Q (.bl b) H
theorem DW:Ew X (.builtin "isinstance") (Kz X.K):=by
 intro jb s U H xs us Q I r h;unfold Kz at h;obtain⟨x,T,t,b,rfl,ty,e,q⟩:=h;obtain⟨u,w',rfl,rx,rt⟩:=vals2 r;cases rt;exact dO I rx ty e λtk=>⟨.bl b,H,I.tok tk,rq,q⟩
theorem X7 {K:YD}:kitOne K (.type "int") (.type "int")=some true:=by rfl
theorem WR {K:YD}:kitOne K (.type "int") (.type "bool")=some false:=by rfl
theorem WT {K:YD}:kitOne K (.type "bool") (.type "int")=some true:=by rfl
theorem Vg {K:YD}:kitOne K (.type "bool") (.type "bool")=some true:=by rfl
theorem WM {K:YD}:kitOne K (.type "NoneType") (.type "int")=some false:=by rfl
theorem X6 {K:YD}:kitOne K (.type "str") (.type "int")=some false:=by rfl
theorem WQ {K:YD}:kitOne K (.type "list") (.type "int")=some false:=by rfl
theorem Vd {K:YD}:kitOne K (.type "tuple") (.type "int")=some false:=by rfl
theorem Tp {K:YD}:kitOne K (.type "NoneType") (.type "tuple")=some false:=by rfl
theorem Tr {K:YD}:kitOne K (.type "bool") (.type "tuple")=some false:=by rfl
theorem Vf {K:YD}:kitOne K (.type "int") (.type "tuple")=some false:=by rfl
theorem Ve {K:YD}:kitOne K (.type "str") (.type "tuple")=some false:=by rfl
theorem Tq {K:YD}:kitOne K (.type "list") (.type "tuple")=some false:=by rfl
theorem RP {K:YD}:kitOne K (.type "tuple") (.type "tuple")=some true:=by rfl
def Kn (H:Hp):V->Prop
 | .non=>True
 | .bl _=>True
 | .int _=>True
 | .str _=>True
 | .ref a=>(∃xs,H a=some (.lst xs))\/∃xs,H a=some (.tup xs)
 | _=>False
def isI:V->Bool
 | .int _=>true
 | .bl _=>true
 | _=>false
def isB:V->Bool
 | .bl _=>true
 | _=>false
def isW:V->Bool
 | .int _=>true
 | _=>false
def KH (H:Hp):V->Option (YG)
 | .ref a=>match H a with
  | some (.tup xs)=>some xs
  | _=>none
 | _=>none
theorem QH {H:Hp} {a:Addr} {xs:YG} (h:H a=some (.tup xs)):KH H (.ref a)=some xs:=by
 show (match H a with | some (.tup xs)=>some xs | _=>none)=some xs
 rw[h]
theorem Ow {H:Hp} {a:Addr} {xs:YG} (h:H a=some (.lst xs)):KH H (.ref a)=none:=by
 show (match H a with | some (.tup xs)=>some xs | _=>none)=none
 rw[h]
theorem iH {H:Hp} {v:V} {xs:YG} (h:KH H v=some xs):∃a,v=.ref a/\H a=some (.tup xs):=by
 cases v with
 | ref a=>
  refine⟨a,rq,?_⟩;have h':(match H a with | some (.tup xs)=>some xs | _=>none)=some xs:=h
  split at h'
  ·rename_i e;cases h';exact e
  ·cases h'
 | _=>cases h
theorem Y6 {K:YD} {H:Hp} {x:V} {Q:VK} (k:Kn H x) (q:Q (.bl (isI x)) H):Kz K [x,.ty "int"] H Q:=by
 unfold Kz;cases x with
 | non=>exact⟨_,_,_,_,rfl,.non,WM,q⟩
 | bl b=>exact⟨_,_,_,_,rfl,.bl b,WT,q⟩
 | int i=>exact⟨_,_,_,_,rfl,.int i,X7,q⟩
 | str z=>exact⟨_,_,_,_,rfl,.str z,X6,q⟩
 | ref a=>
  rcases k with⟨xs,e⟩|⟨xs,e⟩
  ·exact⟨_,_,_,_,rq,.lst e,WQ,q⟩
  ·exact⟨_,_,_,_,rq,.tup e,Vd,q⟩
 | _=>exact k.elim
theorem WX {K:YD} {H:Hp} {x:V} {Q:VK} (k:isI x=true) (q:Q (.bl (isB x)) H):Kz K [x,.ty "bool"] H Q:=by
 unfold Kz;cases x with
 | bl b=>exact⟨_,_,_,_,rfl,.bl b,Vg,q⟩
 | int i=>exact⟨_,_,_,_,rfl,.int i,WR,q⟩
 | _=>cases k
theorem Mh {K:YD} {H:Hp} {x:V} {Q:VK} (k:Kn H x) (q:Q (.bl (KH H x).isSome) H):Kz K [x,.ty "tuple"] H Q:=by
 unfold Kz;cases x with
 | non=>exact⟨_,_,_,_,rfl,.non,Tp,q⟩
 | bl b=>exact⟨_,_,_,_,rfl,.bl b,Tr,q⟩
 | int i=>exact⟨_,_,_,_,rfl,.int i,Vf,q⟩
 | str z=>exact⟨_,_,_,_,rfl,.str z,Ve,q⟩
 | ref a=>
  rcases k with⟨xs,e⟩|⟨xs,e⟩
  ·rw[Ow e] at q;exact⟨_,_,_,_,rq,.lst e,Tq,q⟩
  ·rw[QH e] at q;exact⟨_,_,_,_,rq,.tup e,RP,q⟩
 | _=>exact k.elim
theorem Xo:∀{bs:List Bool} {us:YE},Vals (bs.map V.bl) us->LSm.BoolsAre us bs
 | [],_,.nil=>.nil
 | b::r,_,.cons h t=>by
  cases (show _=Value.bool b from h)
  exact .cons b (Xo t)
theorem LK (hc:X.calm=true):Ew X (.builtin "all") (λxs H Q=>∃(p:Addr) (bs:List Bool),xs=[.ref p]/\SqL X.K H p (bs.map V.bl)/\Q (.bl (bs.all id)) H):=by
 intro jb s U H xs us Q I r h;obtain⟨p,bs,rfl,hq,q⟩:=h;obtain⟨u,rfl,rx⟩:=vals1 r;cases rx;obtain⟨its,rv,pl,hz⟩:=I.list hq;have hb:=Xo rv;have hl:=pl.isList;have hlt:p < s.heap.objs.size:=by obtain⟨_,e,_⟩:=hl;exact QbZ e
 refine call_all_walk (wpAny_pyIter_list hl ?_);refine⟨s.heap.objs.size,[s.heap.objs.size,p],[s.heap.objs.size],its.toArray.size,_,_,λi=>(bs[i]?).getD true,rq,Walks.list (A:=X.A.in1) (I.ok.hd hc) _ p (Qcb hlt) its.toArray,
  ⟨⟨_,QaF _ rfl,rq,rq⟩,hl.push _⟩,λi v s' Q' E' hP hQ=>?_,λh' tk hk=>?_⟩
 ·obtain⟨b,e,rfl⟩:=hb.get i v (by simpa using hP);simp only[e,Option.getD_some] at hQ;exact Qbf hQ
 ·have e:((List.range its.toArray.size).all λi=>(bs[i]?).getD true)=bs.all id:=by
   rw[Qbc,hb.length];exact LSm.range_all bs
  rw[e];exact⟨.bl (bs.all id),H,I.kept (LSm.kept_iter hk),rq,q⟩
mutual
inductive Rep (H:Hp):V->PyData->Prop
 | non:Rep H .non .none
 | bl (b:Bool):Rep H (.bl b) (.bool b)
 | int (i:Int):Rep H (.int i) (.int i)
 | str (x:Str):Rep H (.str x) (.str x)
 | tup {a:Addr} {xs:YG} {ds:List PyData}:H a=some (.tup xs)->Bk H xs ds->Rep H (.ref a) (.tuple ds)
 | lst {a:Addr} {xs:YG} {ds:List PyData}:H a=some (.lst xs)->Bk H xs ds->Rep H (.ref a) (.list ds)
inductive Bk (H:Hp):YG->List PyData->Prop
 | nil:Bk H [] []
 | cons {x:V} {d:PyData} {xs:YG} {ds:List PyData}:Rep H x d->Bk H xs ds->Bk H (x::xs) (d::ds)
end
mutual
theorem Rep.reads {P:Program} {w:World} {H:Hp} {h:Heap} (ok:HOk P w H h):∀{v:V} {d:PyData} {u:Value},Rep H v d->RelV v u->∃as,Reads h u d as
 | _,_,_,.non,r=>by cases (show _=Value.none from r);exact⟨_,.none⟩
 | _,_,_,.bl b,r=>by cases (show _=Value.bool b from r);exact⟨_,.bool b⟩
 | _,_,_,.int i,r=>by obtain⟨t,rfl⟩:=(show ∃t,_=Value.int i t from r);exact⟨_,.int i t⟩
 | _,_,_,.str x,r=>by obtain⟨t,rfl⟩:=(show ∃t,_=Value.str x t from r);exact⟨_,.str x t⟩
 | _,_,_,.tup (a:=a) (xs:=xs) e q,r=>by
  cases (show _=Value.ref a from r)
  obtain⟨_,its,rv,o,ho,hc,n,hd⟩:=(show CQ P w H h a (.tup xs) from ok a _ e)
  obtain⟨as,z⟩:=Bk.reads ok q rv;exact⟨_,.tuple ho hc hd (by simpa using z)⟩
 | _,_,_,.lst (a:=a) (xs:=xs) e q,r=>by
  cases (show _=Value.ref a from r)
  obtain⟨_,its,n,rv,ho⟩:=(show CQ P w H h a (.lst xs) from ok a _ e)
  obtain⟨as,z⟩:=Bk.reads ok q rv;exact⟨_,.list ho rfl rfl (by simpa using z)⟩
theorem Bk.reads {P:Program} {w:World} {H:Hp} {h:Heap} (ok:HOk P w H h):∀{xs:YG} {ds:List PyData} {us:YE},Bk H xs ds->Vals xs us->∃as,ReadsAll h us ds as
 | _,_,_,.nil,.nil=>⟨_,.nil⟩
 | _,_,_,.cons p q,.cons r t=>by
  obtain⟨as,a1⟩:=Rep.reads ok p r;obtain⟨bs,b1⟩:=Bk.reads ok q t;exact⟨_,.cons a1 b1⟩
end
theorem Ik (hu:X.A.units+64 < cLine):OpR X (compareOp .Eq) (λx y H Q=>∃d e,Rep H x d/\Rep H y e/\SeqAt.shaped d=true/\SeqAt.shaped e=true/\Q (.bl (PyData.eqv d e)) H):=by
 intro jb s U H x y v u Q I rx ry h;obtain⟨d,e,p,p',sd,se,q⟩:=h;obtain⟨as,r1⟩:=p.reads I.hok rx;obtain⟨bs,r2⟩:=p'.reads I.hok ry;exact eq_dataH r1 r2 sd se hu ⟨.bl (PyData.eqv d e),H,I,rq,q⟩
theorem RG (hu:X.A.units+64 < cLine):OpR X (compareOp .NotEq) (λx y H Q=>∃d e,Rep H x d/\Rep H y e/\SeqAt.shaped d=true/\SeqAt.shaped e=true/\Q (.bl (!PyData.eqv d e)) H):=by
 intro jb s U H x y v u Q I rx ry h;obtain⟨d,e,p,p',sd,se,q⟩:=h;obtain⟨as,r1⟩:=p.reads I.hok rx;obtain⟨bs,r2⟩:=p'.reads I.hok ry;exact ne_dataH r1 r2 sd se hu ⟨.bl (!PyData.eqv d e),H,I,rq,q⟩
end
structure Code (K:YD) (mg:YB) (x:Str) (st:Stmt) (ps:YF):Prop where
 ex:∃(f:Addr) (fd:FuncData),Fun K x x st f fd/\mg x=some (.ref f)/\Binds K fd ps []
structure Good (P:Program) (w:World) (K:YD) (mg:YB) (base:Heap) (x:Str) (k:Nat) (ps:YF) (sp:Sp):Prop where
 ex:∃(f:Addr) (fd:FuncData),mg x=some (.ref f)/\keepIn K (.ref f)=true/\Binds K fd ps []/\Jw P w K mg base CX0 k f fd ps sp
theorem Code.good {P:Program} {w:World} {K:YD} {mg:YB} {base:Heap} {x:Str} {st:Stmt} {ps N:YF} {k:Nat} {sp:Sp} (C:Code K mg x st ps) (S:Bo N ps (Ar st)) (len:∀vs H Q E,sp vs H Q E->vs.length=ps.length)
  (hbody:∀(f:Addr) (cdv:Value) (A:Around) (outer:List Env) (s:Shared) (H:Hp) (vs:YG) (Q:VK) (E:XK),DK k (A.deeper (envOfC x (Ar st) s.heap.objs.size f cdv))->sp vs H Q E ->
   ∃t,PSs (Ly CX0 P w K mg base N x (Ar st) f cdv A outer s H E).nox (Ei st) t/\t { nx:=λ_ H'=>Q .non H',rt:=Q } (start N vs) H):Good P w K mg base x (k+1) ps sp:=by
 obtain⟨f,fd,F,m,b⟩:=C.ex;exact⟨f,fd,m,F.kp,b,F.ok S len λcdv A outer s H vs Q E hr h=>hbody f cdv A outer s H vs Q E hr h⟩
theorem Am {X:Cx} {k k':Nat} {ps:YF} {sp:Sp} {x:Str} {p pos:Pos} {e:Expr} {es:YJ} {t:TA} (g:Good X.prog X.w X.K X.mg X.base x k ps sp) (hr:DK k' X.A) (ha:PA X (e::es) t) (hk:k<=k':=by decide) (hg:Gl X x:=by rfl)
  (hdb:(x == ("__debug__":Str))=false:=by decide) (he:starEach (e::es) X.env=(false,eval e X.env)::starEach es X.env:=by rfl) (hpl:(backTo pos (starEach es X.env)).any (·.1)=false:=by rfl) :
  PE X (.Call (.Name x p) (e::es) [] pos) (ZC sp [] E0 t):=by
 intro jb s U H Q I h;obtain⟨f,fd,m,kp,b,F⟩:=g.ex;exact nu F (hr.mono hk) hg m kp b .nil uR ha hdb he hpl jb s U H Q I h
theorem Code.of {K:YD} {mg:YB} {h:Heap} {x:Str} {st:Stmt} {ps:YF} {f:Addr} {oc:Value} {od an:Option Addr} {osl:YI} {kV doc pm cdv ct:Value} (X:K.In h) (G:h.Ns mainGlobals mg)
  (a:nsIn K mainGlobals x=some (some (.ref f))) (l:K.lookup f=some ⟨oc,od,.func (fnOf x x (Gv st) (Ei st) (Ar st) .none kV doc pm an cdv ct),osl⟩) (c:codeIn K cdv x=true) (k:keepIn K (.ref f)=true)
  (hb:∀(kV doc pm:Value) (an:Option Addr) (cdv ct:Value) (us:YE),us.length=ps.length->bindArgs (fnOf x x (Gv st) (Ei st) (Ar st) .none kV doc pm an cdv ct) ⟨us,[]⟩=pure (ps.zip us)):Code K mg x st ps:=by
 have F:=eH (st:=st) l c k;exact⟨f,_,F,mg_of X G a,F.binds hb⟩
theorem Ag {H:Hp} {p:Addr} (h:H p=none) (o:HO):Same H (upd H p o):=λb u q=>by rw[Bw (Cp q h)];exact q
theorem CZ.plain {X:Cx} {N':YF} {sc:Scope} (kind:sc.kind=.function) (Gq:∀y∈sc.names,y.2≠.cell) (loc:∀y∈sc.names,y.2=.local->sc.names.lookup y.1=some .local) (Wy:∀y∈sc.names,y.2≠.free) :
  CZ X N' (N'.map λ_=>none) sc where
 kind:=kind
 Gq:=Gq
 loc:=loc
 fv:=λy hy e=>absurd e (Wy y hy)
 len:=by simp
 src:=λi x j _ e=>by
  rw[Qbe] at e;cases q:N'[i]? with
  | none=>rw[q] at e;cases e
  | some z=>rw[q] at e;cases e
theorem Xf {K:YD} {a l:Addr} {xs:YG} {g:TG} {tt:TT} {te:TE} {Q:VK} {σ0:St} {H0:Hp} (Pv:YN)
  (h0:Pv 0 σ0 H0) (hl:∀i U H',i<=xs.length->Pv i U H'->SqT K H' a xs)
  (hs:∀i x U H',xs[i]?=some x->Pv i U H'->g x U H' fun σ3 H3=>tt σ3 H3 λb H4=>if b=true then te σ3 H4 λy H5=>∃ys,H5 l=some (.lst ys)/\ys.length < sizeLine/\Pv (i+1) σ3 (upd H5 l (.lst (ys++[y]))) else Pv (i+1) σ3 H4)
  (hd:∀ U H',Pv xs.length U H'->Q (.ref l) H'):Hf (Itt K a) g tt te Q σ0 H0 l:=by
 unfold Hf;refine⟨λi m U H'=>m=xs.length - i/\i<=xs.length/\Pv i U H',⟨xs.length,by simp,Qcg _,h0⟩,?_⟩;rintro i m U H' ⟨rfl,hi,p⟩;have q:=hl i U H' hi p;by_cases hlt:i < xs.length
 ·refine .inr ⟨⟨xs,xs[i],q,by simp[hlt]⟩,Pv (i+1),fun σ3 H3 p'=>⟨xs.length - (i+1),by omega,rq,hlt,p'⟩,λx H2 y=>?_⟩;obtain⟨e,y⟩:=y;subst e;exact hs i x U _ (y xs q) p
 ·have e:i=xs.length:=by omega
  subst e;exact .inl ⟨⟨xs,q,Qcf _⟩,hd U H' p⟩
theorem Pn {K:YD} {a l:Addr} {xs:YG} {g:TG} {tt:TT} {te:TE} {Q:VK} {σ0:St} {H0:Hp} (Pv:YN)
  (h0:Pv 0 σ0 H0) (hl:∀i U H',i<=xs.length->Pv i U H'->SqL K H' a xs)
  (hs:∀i x U H',xs[i]?=some x->Pv i U H'->g x U H' fun σ3 H3=>tt σ3 H3 λb H4=>if b=true then te σ3 H4 λy H5=>∃ys,H5 l=some (.lst ys)/\ys.length < sizeLine/\Pv (i+1) σ3 (upd H5 l (.lst (ys++[y]))) else Pv (i+1) σ3 H4)
  (hd:∀ U H',Pv xs.length U H'->Q (.ref l) H'):Hf (Itl K a) g tt te Q σ0 H0 l:=by
 unfold Hf;refine⟨λi m U H'=>m=xs.length - i/\i<=xs.length/\Pv i U H',⟨xs.length,by simp,Qcg _,h0⟩,?_⟩;rintro i m U H' ⟨rfl,hi,p⟩;have q:=hl i U H' hi p;by_cases hlt:i < xs.length
 ·refine .inr ⟨⟨xs,xs[i],q,by simp[hlt]⟩,Pv (i+1),fun σ3 H3 p'=>⟨xs.length - (i+1),by omega,rq,hlt,p'⟩,λx H2 y=>?_⟩;obtain⟨e,y⟩:=y;subst e;exact hs i x U _ (y xs q) p
 ·have e:i=xs.length:=by omega
  subst e;exact .inl ⟨⟨xs,q,Qcf _⟩,hd U H' p⟩
theorem Oe {lo:Int} {n:Nat} {l:Addr} {g:TG} {tt:TT} {te:TE} {Q:VK} {σ0:St} {H0:Hp} (Pv:YN) (h0:Pv 0 σ0 H0)
  (hs:∀i U H',i < n->Pv i U H'->g (.int (lo+i)) U H' fun σ3 H3=>tt σ3 H3 λb H4=>if b=true then te σ3 H4 λy H5=>∃ys,H5 l=some (.lst ys)/\ys.length < sizeLine/\Pv (i+1) σ3 (upd H5 l (.lst (ys++[y]))) else Pv (i+1) σ3 H4)
  (hd:∀ U H',Pv n U H'->Q (.ref l) H'):Hf (Itr lo n) g tt te Q σ0 H0 l:=by
 unfold Hf;refine⟨λi m U H'=>m=n - i/\i<=n/\Pv i U H',⟨n,by simp,Qcg _,h0⟩,?_⟩;rintro i m U H' ⟨rfl,hi,p⟩;by_cases hlt:i < n
 ·refine .inr ⟨hlt,Pv (i+1),fun σ3 H3 p'=>⟨n - (i+1),by omega,rq,hlt,p'⟩,λx H2 y=>?_⟩;obtain⟨e,y⟩:=y;subst e y;exact hs i U _ hlt p
 ·have e:i=n:=by omega
  subst e;exact .inl ⟨Qcf _,hd U H' p⟩
section
variable {X:Cx}
theorem Ym:∀{ys:YF} {us:YE},Vals (ys.map V.str) us->StrsAre us ys
 | [],_,.nil=>.nil
 | y::r,_,.cons h t=>by
  obtain⟨t',e⟩:=(show ∃t,_=Value.str y t from h)
  cases e;exact .cons y t' (Ym t)
def rJoin (K:YD):V->YG->Hp->VK->Prop:=λx vs H Q=>∃(z:Str) (p:Addr) (ys:YF),x=.str z/\vs=[.ref p]/\SqL K H p (ys.map V.str)/\(ys.map (·.length)).sum+ys.length*z.length<=16777216/\Q (.str (Txt.join z ys)) H
theorem YT:MtR X "str.join" (rJoin X.K):=by
 intro jb s U H x vs v us Q I rx rv h;obtain⟨z,p,ys,rfl,rfl,hq,hz,q⟩:=h;obtain⟨t,rfl⟩:=rx;obtain⟨u,rfl,ru⟩:=rv.one;cases ru;obtain⟨its,r',pl,_⟩:=I.list hq;exact join_list pl.isList (Ym r') hz λt' k=>⟨.str (Txt.join z ys),H,I.tok k,⟨t',rq⟩,q⟩
def Its (z:Str):It:=⟨λi _=>i < z.cps.size,λi H x H'=>H'=H/\∃c,z.cps[i]?=some c/\x=.str ⟨#[c]⟩,λi _=>i=z.cps.size⟩
def yS (tl:TE):TI:=fun U H R=>tl U H λx H1=>∃z,x=.str z/\R (Its z) H1
end
section
variable {X:Cx} {tg:Expr}
theorem VL {P:Program} {w:World} {K:YD} {tg:Expr} (z:Str) (t:Tok) (it:Addr) (ty:String) (hty:["enumerate","zip","dict_itemiterator","dict_reverseitemiterator","odict_iterator","itertools.zip_longest","itertools.pairwise"].contains ty=false)
  (W:∀A':Around,A'.handled=none->Walks P w A' it [it] [it] z.cps.size (SignAt z) (λi h=>h.IsStrIter it ty z t i))
  (hself:∀(A:Around) (i:Nat) (s:Shared) (Q:YA) (E:YA),s.heap.IsStrIter it ty z t i->Q (.ref it) s->wpAny (model P w) A (pyIter (.ref it)) Q E s) :
  Turn P w K tg (Its z) [it] it (λi h=>h.IsStrIter it ty z t i) where
 mem:=QaO.mpr rfl
 obj:=λi h st b hb=>by
  cases QaO.mp hb;obtain⟨o,e,c,d⟩:=st;exact⟨o,e,λv z'=>by rw[d] at z';cases z'⟩
 keep:=λi h h' st k=>by
  obtain⟨o,e,r⟩:=st;exact⟨o,k it (QaO.mpr rfl) o e,r⟩
 item:=by
  intro X hP hw hK hc i jb s U H E I hf st hg;subst hP hw hK;obtain⟨f0,f1,f2,f3,f4,f5⟩:=hf it (QaO.mpr rfl);refine (W X.A (I.ok.hd hc)).item i s _ _ hg st λv h' tk hv st' kk=>?_;obtain⟨c,u,hcu,rfl⟩:=hv;have I1:Inv X jb U H { s with heap:=h',toks:=tk }:=I.turned (λb o hb e=>kk b o (λhm=>hb (QaO.mp hm)) e) f0 f1 f3 f4 f5;obtain⟨o,e,cl,d⟩:=id st';exact⟨_,rq,Vx (s:={ s with heap:=h',toks:=tk }) e cl d hty ⟨.str ⟨#[c]⟩,H,I1,⟨u,rq⟩,⟨rq,c,hcu,rq⟩,st',λb hb=>(hf b hb).1⟩⟩
 done:=by
  intro X hP hw hK hc i jb s U H E I hf st hg;subst hP hw hK;obtain⟨f0,f1,f2,f3,f4,f5⟩:=hf it (QaO.mpr rfl);cases (show i=z.cps.size from hg)
  exact (W X.A (I.ok.hd hc)).done s _ _ st λh' tk kk=>⟨rq,I.turned (λb o hb e=>kk b o (λhm=>hb (QaO.mp hm)) e) f0 f1 f3 f4 f5⟩
 self:=λA i s Q E st h=>hself A i s Q E st h
theorem O8 {l:Expr} {tl:TE} (hl:PE X l tl):PI X tg l (yS tl):=by
 intro jb s U H R I h;refine thn (hl jb s U H _ I h) λv s1 zz=>?_;obtain⟨x,H1,I1,r1,z,e,q⟩:=zz;subst e;obtain⟨t,rfl⟩:=r1;have fp:∀o:Obj,∀b∈[s1.heap.objs.size],Gh X jb H1 b:=λo b hb=>by
  cases QaO.mp hb;exact I1.W5 (Qcf _) (I1.hok.fresh (Qcf _))
 cases ha:z.cps.all (· < 128) with
 | true=>
  refine wpAny_pyIter_ascii ha ?_;exact⟨s1.heap.objs.size,[s1.heap.objs.size],_,_,H1,rq,I1.kept (t':=s1.toks) λb o e=>Qat _ e,VL z t _ "str_ascii_iterator" (by decide) (λA' hA=>Walks.strAscii hA _ z t) (λ_ _ _ _ _ st h=>wpAny_pyIter_striter_ascii st h),
   ⟨_,QaF _ rfl,rq,rq⟩,fp { cls:=.none,data:=.fields #[] },q⟩
 | false=>
  refine wpAny_pyIter_wide ha ?_;exact⟨s1.heap.objs.size,[s1.heap.objs.size],_,_,H1,rq,I1.kept (t':=s1.toks) λb o e=>Qat _ e,VL z t _ "str_iterator" (by decide) (λA' hA=>Walks.strWide hA _ z t) (λ_ _ _ _ _ st h=>wpAny_pyIter_striter_wide st h),
   ⟨_,QaF _ rfl,rq,rq⟩,fp { cls:=.none,data:=.fields #[] },q⟩
theorem LC {z:Str} {l:Addr} {g:TG} {tt:TT} {te:TE} {Q:VK} {σ0:St} {H0:Hp} (Pv:YN) (h0:Pv 0 σ0 H0)
  (hs:∀i c U H',z.cps[i]?=some c->Pv i U H'->g (.str ⟨#[c]⟩) U H' fun σ3 H3=>tt σ3 H3 λb H4=>if b=true then te σ3 H4 λy H5=>∃ys,H5 l=some (.lst ys)/\ys.length < sizeLine/\Pv (i+1) σ3 (upd H5 l (.lst (ys++[y]))) else Pv (i+1) σ3 H4)
  (hd:∀ U H',Pv z.cps.size U H'->Q (.ref l) H'):Hf (Its z) g tt te Q σ0 H0 l:=by
 unfold Hf;refine⟨λi m U H'=>m=z.cps.size - i/\i<=z.cps.size/\Pv i U H',⟨z.cps.size,by simp,Qcg _,h0⟩,?_⟩;rintro i m U H' ⟨rfl,hi,p⟩;by_cases hlt:i < z.cps.size
 ·refine .inr ⟨hlt,Pv (i+1),fun σ3 H3 p'=>⟨z.cps.size - (i+1),by omega,rq,hlt,p'⟩,λx H2 y=>?_⟩;obtain⟨e,c,hc,rfl⟩:=y;subst e;exact hs i c U _ hc p
 ·have e:i=z.cps.size:=by omega
  subst e;exact .inl ⟨rq,hd U H' p⟩
end
end L2
namespace HT
open PySem PyProof.Rows
section
variable {prog:Program} {w:World} {A:Around} {E:YA} {s:Shared}
theorem Qw {t sl:Addr} {items:Array Value} {vl vu:Value} {lo hi:Option Int} {Q:YA} (ht:IsTup s.heap t items) (hs:s.heap.IsSliceOf sl vl vu .none) (pl:IsPart vl lo) (pu:IsPart vu hi)
  (hw:sIx items.size 0 lo=0/\sIx items.size items.size hi=items.size) (h:Q (.ref t) s):wpAny (model prog w) A (getItem (.ref t) (.ref sl)) Q E s:=by
 obtain⟨os,hos,hcs,hds⟩:=id hs;have hTs:s.TypeIs (.ref sl) "slice":=⟨os,hos,hcs⟩;unfold getItem
 try with_reducible refine wpAny_holding ?_
 first | refine Qcj (Qck ?_) | skip
 refine Qcj (wpAny_sequenceKey ht.typeIs (by decide) ?_);refine Qcj (Qar (name:=Str.ofString "__getitem__") ht.typeIs Qaa (Qbs Qaa ht.typeIs entry_tuple_getitem ?_ (args_tuple_getitem _ _)));show wpAny _ _ (Builtin.Tuple.tupleItemsOf (.ref t) >>= _) _ _ s;refine Qcj (tupleItemsOf_ ht ?_);refine Qcj (wpAny_typeOf hTs ?_);rw[if_pos (by decide)];refine Qcj (K7 hs pl pu ?_);rw[hw.1,hw.2];show wpAny _ _ (if (((0:Nat):Int) == 0&&(1:Int) == 1&&(items.size - 0) == items.size)=true then _ else _) _ _ s
 rw[if_pos (by simp)];refine Qcj ?_;unfold Builtin.Tuple.tupleIsExact;refine Qcj (wpAny_typeOf ht.typeIs (Qck ?_));rw[if_pos (by decide)];exact Qcj (wpAny_rule (Qck ⟨_,rq,Qck h⟩))
end
end HT
namespace L2
open PySem PySem.Spec PyProof.Rows
section
variable {X:Cx}
theorem SN:SlR X (λx lo hi H Q=>∃a xs,x=.ref a/\H a=some (.tup xs)/\∀p H',H' p=some (.tup (GP xs lo hi))->Same H H'->Q (.ref p) H'):=by
 intro jb s U H x v vl vu lo hi sl Q I rx hs pl pu h;obtain⟨a,xs,rfl,hx,q⟩:=h;by_cases hw:HT.sIx xs.length 0 lo=0/\HT.sIx xs.length xs.length hi=xs.length
 ·cases rx;obtain⟨its,r,ht,hz⟩:=I.tuple (SqT.of hx);have hlen:its.toArray.size=xs.length:=by rw[Qbc];exact r.length.symm
  refine⟨"tuple",_,Qaa.lookup,ht.typeIs,?_⟩;refine HT.Qw ht hs pl pu (by rw[hlen];exact hw) ⟨.ref a,H,I,rq,q a H ?_ (Same.refl H)⟩;have e:GP xs lo hi=xs:=by unfold GP;rw[hw.1,hw.2];simp
  rw[e];exact hx
 ·exact qD jb s U H _ v vl vu lo hi sl Q I rx hs pl pu ⟨a,xs,rq,SqT.of hx,hw,λp hp=>q p _ Ae (λc o e=>by rw[Bw (Cp e hp)];exact e)⟩
theorem Ce:SlR X (λx lo hi H Q=>∃z,x=.str z/\z.length<=sizeLine/\Q (.str (Txt.slice z lo hi)) H):=by
 intro jb s U H x v vl vu lo hi sl Q I rx hs pl pu h;obtain⟨z,rfl,hz,q⟩:=h;obtain⟨t,rfl⟩:=rx;refine⟨"str",_,F.slot_str_getitem.lookup,typeIs_str _ _ _,?_⟩;have fin:∀t' k,EP X jb U Q (.str (Txt.slice z lo hi) t') { s with toks:=k }:=λt' k=>⟨.str (Txt.slice z lo hi),H,I.tok k,⟨t',rq⟩,q⟩;cases pl with
 | none=>
  cases pu with
  | none=>exact Qas (l:=none) (u:=none) (st:=none) hs rfl (post_val_or_str ⟨Qca (Txt.slice_le z _ _) hz,fin⟩)
  | int j tj=>exact Qas (l:=none) (u:=some (j,tj)) (st:=none) hs rfl (post_val_or_str ⟨Qca (Txt.slice_le z _ _) hz,fin⟩)
 | int i ti=>
  cases pu with
  | none=>exact Qas (l:=some (i,ti)) (u:=none) (st:=none) hs rfl (post_val_or_str ⟨Qca (Txt.slice_le z _ _) hz,fin⟩)
  | int j tj=>exact Qas (l:=some (i,ti)) (u:=some (j,tj)) (st:=none) hs rfl (post_val_or_str ⟨Qca (Txt.slice_le z _ _) hz,fin⟩)
end
theorem Hj {X:Cx} {x:Str} {v:V} {pos:Pos} (hg:Gl X x) (hm:∃u,X.mg x=some u/\RelV v u) (hd:(x == ("__debug__":Str))=false:=by decide):PE X (.Name x pos) (tC v):=by
 obtain⟨u,h,r⟩:=hm;exact Et hg h r hd
def Dw (H H':Hp):Prop:=∀c xs,H c=some (.tup xs)->H' c=some (.tup xs)
theorem Dw.trans {H H1 H2:Hp} (a:Dw H H1) (b:Dw H1 H2):Dw H H2:=λc xs e=>b c xs (a c xs e)
theorem Dw.of {H H1:Hp} (s:Same H H1):Dw H H1:=λc xs e=>s c _ e
theorem Dw.upd {H:Hp} {b:Addr} {o:HO} (h:∀xs,H b≠some (.tup xs)):Dw H (upd H b o):=λc xs e=>by
 have n:c≠b:=λz=>h xs (z ▸ e);rw[Bw n];exact e
def Aw (b:Addr) (H H':Hp):Prop:=∀c o,H c=some o->c≠b->H' c=some o
theorem Aw.trans {b:Addr} {H H1 H2:Hp} (x:Aw b H H1) (y:Aw b H1 H2):Aw b H H2:=λc o e n=>y c o (x c o e n) n
theorem Aw.of {b:Addr} {H H1:Hp} (x:Same H H1):Aw b H H1:=λc o e _=>x c o e
theorem Aw.refl (b:Addr) (H:Hp):Aw b H H:=λ_ _ e _=>e
theorem Aw.upd {b:Addr} {H:Hp} {o:HO}:Aw b H (upd H b o):=λc u e n=>by rw[Bw n];exact e
theorem Aw.tup {b:Addr} {H H':Hp} (x:Aw b H H') (h:∀xs,H b≠some (.tup xs)):Dw H H':=λc xs e=>x c _ e λz=>h xs (z ▸ e)
theorem Aw.free {b:Addr} {H H':Hp} (x:Aw b H H') (hb:∃o,H' b=some o) {l:Addr} (h:H' l=none):H l=none:=by
 cases e:H l with
 | none=>rfl
 | some o=>
  by_cases n:l=b
  ·obtain⟨o',e'⟩:=hb;rw[n,e'] at h;cases h
  ·rw[x l o e n] at h;cases h
section
variable {X:Cx} {o e value:Expr} {f:Str} {pos pos' tpos:Pos} {ta tv:TE}
end
section
variable {X:Cx} {K:YD}
theorem U4 (h:X.K=K):OpR X (compareOp .NotIn) (rIn K true):=h ▸ Lh
end
end L2
namespace PySem
open Sem (wp)
section
variable {prog:Program} {w:World} {A:Around} {E:YA} {s:Shared}
end
end PySem
namespace L2
open PySem PySem.Spec PyProof.Rows
section
variable {X:Cx} {pos:Pos}
end
structure Has (H:Hp) (l:List (Addr×HO)):Prop where
 nd:(l.map (·.1)).Nodup
 at_:∀x∈l,H x.1=some x.2
theorem Has.uV {H:Hp} {l:List (Addr×HO)} {a:Addr} (h:Has H l) (e:H a=none):a∉l.map (·.1):=λz=>by
 obtain⟨x,hx,rfl⟩:=Qcc.mp z;rw[h.at_ x hx] at e;cases e
theorem Has.new {H H':Hp} {l:List (Addr×HO)} {a:Addr} {o:HO} (h:Has H l) (n:H a=none) (s:Same H H') (e:H' a=some o):Has H' (l++[(a,o)]):=by
 refine⟨?_,λx hx=>?_⟩
 ·rw[Qbx,List.nodup_append];refine⟨h.nd,by simp,λx hx y hy z=>?_⟩;have:y=a:=by simpa using hy
  subst this;exact h.uV n (z ▸ hx)
 ·rcases Qby.mp hx with z | z
  ·exact s _ _ (h.at_ x z)
  ·have:x=(a,o):=by simpa using z
   subst this;exact e
theorem Has.nil (H:Hp):Has H []:=⟨List.nodup_nil,λx hx=>by cases hx⟩
theorem Same.Fj {H0 H H':Hp} {a:Addr} (s:Same H0 H) (b:Aw a H H') (f:H0 a=none):Same H0 H':=λc o e=>b _ _ (s _ _ e) λz=>by rw[z,f] at e;cases e
section
variable {κ : Type} [DecidableEq κ]
def Gw (kvs:List (κ×V)) (k:κ):Option V:=(kvs.find? λkv=>decide (kv.1=k)).map (·.2)
def putK (kvs:List (κ×V)) (k:κ) (v:V):List (κ×V):=
 if (kvs.any λkv=>decide (kv.1=k))=true then kvs.map (λkv=>if kv.1=k then (kv.1,v) else kv) else kvs++[(k,v)]
theorem VG {p:κ×V} {r:List (κ×V)} {k:κ} (e:p.1=k):Gw (p::r) k=some p.2:=by simp[Gw,QbI,e]
theorem VH {p:κ×V} {r:List (κ×V)} {k:κ} (e:¬p.1=k):Gw (p::r) k=Gw r k:=by simp[Gw,QbI,e]
theorem X5 (kvs:List (κ×V)) (k:κ) (v:V):(putK kvs k v).length<=kvs.length+1:=by
 unfold putK;split
 ·rw[Qbw];omega
 ·rw[QaM,Qbl,List.length_nil];omega
theorem JR.Mi {o:Option V} {u:Option Value} (r:JR o u):o.isSome=u.isSome:=by
 cases o with
 | none=>cases u with
  | none=>rfl
  | some _=>exact (show False from r).elim
 | some _=>cases u with
  | none=>exact (show False from r).elim
  | some _=>rfl
theorem JR.getD {o:Option V} {u:Option Value} {d:V} {d':Value} (r:JR o u) (rd:RelV d d'):RelV (o.getD d) (u.getD d'):=by
 cases o with
 | none=>cases u with
  | none=>exact rd
  | some _=>exact (show False from r).elim
 | some _=>cases u with
  | none=>exact (show False from r).elim
  | some _=>exact r
theorem KV.val {kvs:List (κ×V)} {vs:List (κ×Value)} (r:KV kvs vs) (k:κ):JR (Gw kvs k) (valueAt vs k):=by
 unfold KV at r
 induction r with
 | nil=>exact True.intro
 | @cons p q ps qs h t ih=>
  obtain⟨h1,h2⟩:=h;by_cases e:p.1=k
  ·have e':q.1=k:=h1.symm.trans e;have b:valueAt (q::qs) k=some q.2:=by simp[valueAt,QbI,e']
   rw[VG e,b];exact h2
  ·have e':¬q.1=k:=λz=>e (h1.trans z);have b:valueAt (q::qs) k=valueAt qs k:=by simp[valueAt,QbI,e']
   rw[VH e,b];exact ih
theorem KV.any {kvs:List (κ×V)} {vs:List (κ×Value)} (r:KV kvs vs) (k:κ):(kvs.any λkv=>decide (kv.1=k))=vs.any λkv=>decide (kv.1=k):=by
 unfold KV at r
 induction r with
 | nil=>rfl
 | cons h t ih=>rw[QbW,QbW,ih,h.1]
theorem KV.repl {kvs:List (κ×V)} {vs:List (κ×Value)} (r:KV kvs vs) (k:κ) {y:V} {u:Value} (ry:RelV y u) :
  KV (kvs.map λkv=>if kv.1=k then (kv.1,y) else kv) (vs.map λkv=>if kv.1=k then (kv.1,u) else kv):=by
 unfold KV at r ⊢
 induction r with
 | nil=>exact .nil
 | @cons p q ps qs h t ih=>
  rw[QbR,QbR];refine .cons ?_ ih;obtain⟨h1,h2⟩:=h;by_cases e:p.1=k
  ·rw[if_pos e,if_pos (h1.symm.trans e)];exact⟨h1,ry⟩
  ·rw[if_neg e,if_neg (λz=>e (h1.trans z))];exact⟨h1,h2⟩
theorem KV.put {kvs:List (κ×V)} {vs:List (κ×Value)} (r:KV kvs vs) (k:κ) {y:V} {u:Value} (ry:RelV y u):KV (putK kvs k y) (stored vs k u):=by
 unfold putK stored;rw[r.any k];by_cases e:(vs.any λkv=>decide (kv.1=k))=true
 ·rw[if_pos e,if_pos e];exact r.repl k ry
 ·rw[if_neg e,if_neg e];exact Paired.snoc r ⟨rq,ry⟩
theorem KV.keys {kvs:List (κ×V)} {vs:List (κ×Value)} (r:KV kvs vs):kvs.map (·.1)=vs.map (·.1):=by
 unfold KV at r
 induction r with
 | nil=>rfl
 | cons h t ih=>rw[QbR,QbR,ih,h.1]
end
theorem RT {P:Program} {w:World} {k:Key} {u:Value} (r:RelV (kV k) u):(Eh P w).is k u=true:=by
 cases k with
 | inl i=>obtain⟨t,e⟩:=(show ∃t,u=Value.int i t from r);subst e;exact X4 P w i t
 | inr x=>obtain⟨t,e⟩:=(show ∃t,u=Value.str x t from r);subst e;exact X3 P w x t
theorem Ur {P:Program} {w:World}:∀{ks:List Key} {us:YE},Vals (ks.map kV) us->ItemsAre (Eh P w) ks us
 | [],_,r=>by rw[List.map_nil] at r;cases r;exact .nil
 | k::ks,_,r=>by
  rw[QbR] at r;cases r with
  | cons h t=>exact .cons (RT h) (Ur t)
abbrev YL:=List (List Key×V)
abbrev KT (H:Hp):YL->List (List Key×Addr×Value)->Prop:=Paired λp q=>p.1=q.1/\H q.2.1=some (.tup (p.1.map kV))/\RelV p.2 q.2.2
theorem KT.val {H:Hp} {kvs:YL} {xs:List (List Key×Addr×Value)} (r:KT H kvs xs) (k:List Key):JR (Gw kvs k) ((atKey xs k).map (·.2)):=by
 induction r with
 | nil=>exact True.intro
 | @cons p q ps qs h t ih=>
  obtain⟨h1,_,h2⟩:=h;by_cases e:p.1=k
  ·have e':q.1=k:=h1.symm.trans e;have b:atKey (q::qs) k=some q.2:=by simp[atKey,QbI,e']
   rw[VG e,b];exact h2
  ·have e':¬q.1=k:=λz=>e (h1.trans z);have b:atKey (q::qs) k=atKey qs k:=by simp[atKey,QbI,e']
   rw[VH e,b];exact ih
theorem KT.keeps {H H':Hp} {kvs:YL} {xs:List (List Key×Addr×Value)} (r:KT H kvs xs) (ht:∀b ys,H b=some (.tup ys)->H' b=some (.tup ys)):KT H' kvs xs:=
 Paired.iV r λ_ _ z=>⟨z.1,ht _ _ z.2.1,z.2.2⟩
section
variable {P:Program} {w:World} {H:Hp} {h:Heap} {a:Addr}
theorem lR {u:HO} (ok:HOk P w H h) (e:Rd H a u):CQ P w H h a u:=e.ok ok
abbrev YM:=List (Key×V)
theorem Sg {kvs:YM} (ok:HOk P w H h) (e:Rd H a (.dK kvs)):kvs.length<=sizeLine/\(a == sysModules)=false/\∃vs,KV kvs vs/\h.DictOf (Eh P w) a vs:=
 show CQ P w H h a (.dK kvs) from lR ok e
theorem vH {kvs:YM} (ok:HOk P w H h) (e:H a=some (.dK kvs)):kvs.length<=sizeLine/\(a == sysModules)=false/\∃vs,KV kvs vs/\h.DictOf (Eh P w) a vs:=Sg ok (.inl e)
theorem RQ {ks:List Key} (ok:HOk P w H h) (e:H a=some (.tup (ks.map kV))):(tupleKind (Eh P w)).is h ks a:=by
 obtain⟨_,its,r,o,h1,h2,n,h3⟩:=(show CQ P w H h a (.tup (ks.map kV)) from ok a _ e)
 exact⟨o,its.toArray,n,h1,h2,h3,by simpa using Ur r⟩
theorem Vy {kvs:YL} (ok:HOk P w H h) (e:Rd H a (.dT kvs)):kvs.length<=sizeLine/\(a == sysModules)=false /\
  ∃xs,KT H kvs xs/\h.DictOfH (tupleKind (Eh P w)) a xs:=by
 obtain⟨z,y,xs,r,o,es,ep,h1,h2,h3,h4,h5⟩:=(show CQ P w H h a (.dT kvs) from lR ok e)
 refine⟨z,y,xs,r,o,es,ep,h1,h2,h3,h4,λx hx=>?_,h5⟩;have all:∀{l:YL} {m:List (List Key×Addr×Value)},KT H l m->∀x∈m,(tupleKind (Eh P w)).is h x.1 x.2.1:=by
  intro l m q
  induction q with
  | nil=>intro x hx;exact nomatch hx
  | @cons p q ps qs hq t ih=>
   intro x hx;rcases QbP.mp hx with e | hx
   ·subst e;exact RQ ok (by rw[<-hq.1];exact hq.2.1)
   ·exact ih x hx
 exact all r x hx
end
def Jb (H:Hp) (a:Addr) (y:V) (r:Option V):Prop:=
 (∃kvs k,Rd H a (.dK kvs)/\y=kV k/\r=Gw kvs k)\/∃kvs k b,Rd H a (.dT kvs)/\y=.ref b/\H b=some (.tup (k.map kV))/\r=Gw kvs k
def ur (H:Hp) (a:Addr) (y v:V) (H':Hp):Prop:=
 (∃kvs k,H a=some (.dK kvs)/\y=kV k/\kvs.length < sizeLine/\H'=upd H a (.dK (putK kvs k v))) \/
 ∃kvs k b,H a=some (.dT kvs)/\y=.ref b/\H b=some (.tup (k.map kV))/\kvs.length < sizeLine/\H'=upd H a (.dT (putK kvs k v))
theorem Jb.k {H:Hp} {a:Addr} {kvs:YM} {k:Key} (e:H a=some (.dK kvs)):Jb H a (kV k) (Gw kvs k):=.inl ⟨kvs,k,.inl e,rfl,rfl⟩
theorem Jb.t {H:Hp} {a b:Addr} {kvs:YL} {k:List Key} (e:H a=some (.dT kvs)) (eb:H b=some (.tup (k.map kV))):Jb H a (.ref b) (Gw kvs k):=.inr ⟨kvs,k,b,.inl e,rfl,eb,rfl⟩
theorem ur.t {H:Hp} {a b:Addr} {kvs:YL} {k:List Key} {v:V} (e:H a=some (.dT kvs)) (eb:H b=some (.tup (k.map kV))) (hl:kvs.length < sizeLine) :
  ur H a (.ref b) v (upd H a (.dT (putK kvs k v))):=.inr ⟨kvs,k,b,e,rq,eb,hl,rq⟩
section
variable {X:Cx} {jb:YC} {U : St} {H:Hp} {s:Shared} {a:Addr} {y v:V} {u r:Value} {o:Option V} {A:Around} {E:YA}
theorem Inv.big (I:Inv X jb U H s):sysModules < s.heap.objs.size:=by
 have h:mainGlobals < s.heap.objs.size:=(I.mod.glob.keeps I.bk).lt;exact Nat.lt_trans (by decide) h
theorem eZ {Q:YA} (hu:A.units+1 < cLine) (I:Inv X jb U H s) (g:Jb H a y (some v)) (ry:RelV y u) (h:∀w' s',Inv X jb U H s'->RelV v w'->Q w' s') :
  wpAny (model X.prog X.w) A (getItem (.ref a) u) Q E s:=by
 rcases g with⟨kvs,k,e,ey,l⟩|⟨kvs,k,b,e,ey,eb,l⟩
 ·subst ey;obtain⟨z,hd,vs,rel,dd⟩:=Sg I.hok e;obtain⟨w',hw,rw'⟩:=JR.some_of (v:=v) (o:=valueAt vs k) (by rw[l];exact rel.val k);exact wpAny_getItem_of (RT ry) dd.mapOf hw (h w' _ (I.tok _) rw')
 ·subst ey;cases (show u=Value.ref b from ry)
  obtain⟨z,hd,xs,rel,dd⟩:=Vy I.hok e;obtain⟨w',hw,rw'⟩:=JR.some_of (v:=v) (o:=(atKey xs k).map (·.2)) (by rw[l];exact rel.val k);obtain⟨p,hp,hp2⟩:=Option.map_eq_some_iff.mp hw;refine wpAny_getItem_heap (tupleKind_room_in1 hu) (RQ I.hok eb) dd hp ?_;rw[hp2];exact h w' _ (I.tok _) rw'
theorem zT {Q:YA} (hu:A.units+1 < cLine) (I:Inv X jb U H s) (g:Jb H a y o) (ry:RelV y u) (h:∀s',Inv X jb U H s'->Q (.bool o.isSome) s') :
  wpAny (model X.prog X.w) A (compareOp .In u (.ref a)) Q E s:=by
 rcases g with⟨kvs,k,e,ey,l⟩|⟨kvs,k,b,e,ey,eb,l⟩
 ·subst ey;obtain⟨z,hd,vs,rel,dd⟩:=Sg I.hok e;refine wpAny_in_of (RT ry) hd dd.mapOf ?_;rw[<-(rel.val k).Mi,<-l];exact h _ (I.tok _)
 ·subst ey;cases (show u=Value.ref b from ry)
  obtain⟨z,hd,xs,rel,dd⟩:=Vy I.hok e;refine wpAny_in_heap (tupleKind_room_in1 hu) (RQ I.hok eb) hd dd ?_;have q:=(rel.val k).Mi;rw[Option.isSome_map] at q;rw[<-q,<-l];exact h _ (I.tok _)
theorem oZ {Q:YA} (hu:A.units+1 < cLine) (I:Inv X jb U H s) (g:Jb H a y o) (ry:RelV y u) (h:∀s',Inv X jb U H s'->Q (.bool (!o.isSome)) s') :
  wpAny (model X.prog X.w) A (compareOp .NotIn u (.ref a)) Q E s:=by
 rcases g with⟨kvs,k,e,ey,l⟩|⟨kvs,k,b,e,ey,eb,l⟩
 ·subst ey;obtain⟨z,hd,vs,rel,dd⟩:=Sg I.hok e;refine wpAny_notIn_of (RT ry) hd dd.mapOf ?_;rw[<-(rel.val k).Mi,<-l];exact h _ (I.tok _)
 ·subst ey;cases (show u=Value.ref b from ry)
  obtain⟨z,hd,xs,rel,dd⟩:=Vy I.hok e;refine wpAny_notIn_heap (tupleKind_room_in1 hu) (RQ I.hok eb) hd dd ?_;have q:=(rel.val k).Mi;rw[Option.isSome_map] at q;rw[<-q,<-l];exact h _ (I.tok _)
theorem oY {h':Heap} {t':Nat} {ob:HO} (I:Inv X jb U H s) (mu:Mut (H a)) (hs:Heap.SameBut a s.heap h') (he:∃q,h'.get? a=some q) (new:CQ X.prog X.w (upd H a ob) h' a ob) :
  Inv X jb U (upd H a ob) { s with heap:=h',toks:=t' }:=
 I.write (x:=a) (e:=a) mu (.inl rfl) (λb q hb z=>(hs.2 b hb).trans z) he new
theorem sW {P:Program} {w:World} {H':Hp} {h':Heap} {kvs:YM} {vs:List (Key×Value)} (z:kvs.length<=sizeLine) (hd:(a == sysModules)=false) (rel:KV kvs vs) (dd:h'.DictOf (Eh P w) a vs) :
  CQ P w H' h' a (.dK kvs):=⟨z,hd,vs,rel,dd⟩
end
section
variable {X:Cx} {jb:YC} {U : St} {H:Hp} {s:Shared} {a:Addr} {kvs:YM} {k:Key} {u:Value} {A:Around} {E:YA}
end
def uq (i:Expr):Prop:=∀ov iv,subscripted i false ov iv=operate [ov,iv] (getItem ov iv)
theorem mW {prog:Program} {w:World} {A:Around} {E:YA} {s:Shared} {env:Env} {value slice:Expr} {pos:Pos} {T id:String} {Q:YA}
  (hl:typeLookup (.type T) "__getitem__"=pure (some (.builtin id))) (hs:uq slice)
  (h:wpAny (model prog w) A (eval value env) (λo s₁=>wpAny (model prog w) A (eval slice env) (λi s₂=>s₂.TypeIs o T/\wpAny (model prog w) A (getItem o i) Q E s₂) E s₁) E s) :
  wpAny (model prog w) A (eval (.Subscript value slice pos) env) Q E s:=by
 refine Subscript_ (Qcl h (λo s₁ h₁=>Qcl h₁ (λi s₂ h₂=>?_) λ_ _ x=>x) λ_ _ x=>x);obtain⟨hT,h₂⟩:=h₂;unfold subscriptTail;refine Qcj ?_;rw[getitemInPython_of_ne hT.not_modules];refine Qcj (wpAny_specialOf hT hl ?_);have fin:wpAny (model prog w) A (subscripted slice false o i) (λr s₃=>wpAny (model prog w) A (letTemporaryGo value o r >>= λ_=>pure r) Q E s₃) E s₂:=by
  rw[hs o i];exact wpAny_operating (Qcl h₂ (λr s₃ h₃=>Qcj (wpAny_letTemporaryGo (Qck h₃))) λ_ _ x=>x)
 first
  | exact Qck (Qcj fin)
  | exact Qcj (Qck (Qcj fin))
  | exact Qcj fin
theorem Yc {X:Cx} {jb:YC} {U : St} {H:Hp} {s:Shared} {a:Addr} {y:V} {o:Option V} (I:Inv X jb U H s) (g:Jb H a y o):s.TypeIs (.ref a) "dict":=by
 rcases g with⟨kvs,k,e,_,_⟩|⟨kvs,k,b,e,_,_,_⟩
 ·obtain⟨_,_,vs,_,dd⟩:=Sg I.hok e;exact dd.typeIs
 ·obtain⟨_,_,xs,_,dd⟩:=Vy I.hok e;exact dd.typeIs
def uJ (td ty:TE):TE:=fun U H Q=>td U H λx H1=>ty U H1 λy H2=>∃a v,x=.ref a/\Jb H2 a y (some v)/\Q v H2
def v9 (ty td:TE):TE:=fun U H Q=>ty U H λy H1=>td U H1 λx H2=>∃a o,x=.ref a/\Jb H2 a y o/\Q (.bl o.isSome) H2
def mU (ty td:TE):TE:=fun U H Q=>ty U H λy H1=>td U H1 λx H2=>∃a o,x=.ref a/\Jb H2 a y o/\Q (.bl (!o.isSome)) H2
section
variable {X:Cx} {o i e value:Expr} {pos pos' tpos:Pos} {td ty tv:TE}
theorem Qh (hu:X.A.units+1 < cLine) (ho:PE X o td) (hi:PE X i ty) (hs:uq i):PE X (.Subscript o i pos) (uJ td ty):=by
 intro jb s U H Q I h;refine mW PySem.F.slot_dict_getitem.lookup hs (thn (ho jb s U H _ I h) λu s1 zz=>?_);obtain⟨x,H1,I1,rx,q1⟩:=zz;refine thn (hi jb s1 U H1 _ I1 q1) λiv s2 zz=>?_;obtain⟨y,H2,I2,ry,a,v,ex,g,q2⟩:=zz;subst ex;obtain rfl:u=Value.ref a:=rx;exact⟨Yc I2 g,eZ hu I2 g ry λw' s3 I3 rw'=>⟨v,H2,I3,rw',q2⟩⟩
theorem qP (hu:X.A.units+1 < cLine) (hi:PE X i ty) (ho:PE X o td):PC X .In i o (v9 ty td):=by
 intro jb s U H Q I h;refine thn (hi jb s U H _ I h) λiv s1 zz=>?_;obtain⟨y,H1,I1,ry,q1⟩:=zz;refine thn (ho jb s1 U H1 _ I1 q1) λu s2 zz=>?_;obtain⟨x,H2,I2,rx,a,ov,ex,g,q2⟩:=zz;subst ex;obtain rfl:u=Value.ref a:=rx;exact zT hu I2 g ry λs3 I3=>⟨.bl ov.isSome,H2,I3,rq,q2⟩
theorem cO (hu:X.A.units+1 < cLine) (hi:PE X i ty) (ho:PE X o td):PC X .NotIn i o (mU ty td):=by
 intro jb s U H Q I h;refine thn (hi jb s U H _ I h) λiv s1 zz=>?_;obtain⟨y,H1,I1,ry,q1⟩:=zz;refine thn (ho jb s1 U H1 _ I1 q1) λu s2 zz=>?_;obtain⟨x,H2,I2,rx,a,ov,ex,g,q2⟩:=zz;subst ex;obtain rfl:u=Value.ref a:=rx;exact oZ hu I2 g ry λs3 I3=>⟨.bl (!ov.isSome),H2,I3,rq,q2⟩
end
theorem jR {P:Program} {w:World} {H:Hp} (h:Heap) (hb:sysModules < h.objs.size):CQ P w H (h.push { cls:=.type "dict",data:=.dict #[] }) h.objs.size (.dK []):=
 ⟨Qcg _,QaL.mpr (Ne.symm (Qcb hb)),[],.nil,Heap.DictOf.new h⟩
section
variable {X:Cx} {pos:Pos}
end
def VP:List (TE×TE)->St->Hp->(List (V×V)->Hp->Prop)->Prop
 | [],_,H,Q=>Q [] H
 | (tk,tv)::r,U,H,Q=>tk U H λx H1=>tv U H1 λy H2=>VP r U H2 λps H3=>Q ((x,y)::ps) H3
abbrev VV:List (V×V)->List (Value×Value)->Prop:=Paired λp q=>RelV p.1 q.1/\RelV p.2 q.2
def PPs (X:Cx) (pos:Pos) (keys:List (Option Expr)) (values:YJ) (trs:List (TE×TE)):Prop:=
 ∀(jb:YC) (s:Shared) (U : St) (H:Hp) (Q:List (V×V)->Hp->Prop),Inv X jb U H s->VP trs U H Q ->
  wpAny (model X.prog X.w) X.A (evalPairs (pairTrees keys values X.env pos)) (λvs s'=>∃ps H',Inv X jb U H' s'/\VV ps vs/\Q ps H') X.xe s
theorem Yx {X:Cx} {pos:Pos}:PPs X pos [] [] []:=λjb s U H Q I h=>pairTrees_nil_walk ⟨[],H,I,.nil,h⟩
theorem Ey {X:Cx} {pos:Pos} {k v:Expr} {ks:List (Option Expr)} {vs:YJ} {tk tv:TE} {trs:List (TE×TE)} (hk:PE X k tk) (hv:PE X v tv) (hr:PPs X pos ks vs trs) :
  PPs X pos (some k::ks) (v::vs) ((tk,tv)::trs):=λjb s U H Q I h=>
 pairTrees_cons_walk (thn (hk jb s U H _ I h) λu s1 ⟨x,H1,I1,rx,q1⟩=>thn (hv jb s1 U H1 _ I1 q1) λw2 s2 ⟨y,H2,I2,ry,q2⟩=>
  thn (hr jb s2 U H2 _ I2 q2) λws s3 ⟨ps,H3,I3,rel,q3⟩=>⟨(x,y)::ps,H3,I3,.cons ⟨rx,ry⟩ rel,q3⟩)
def Eo (kvs more:YM):YM:=more.foldl (λacc kv=>putK acc kv.1 kv.2) kvs
theorem KV.merge:∀{more:YM} {rs:List (Key×Value)} {kvs:YM} {vs:List (Key×Value)},KV more rs->KV kvs vs->KV (Eo kvs more) (merged vs rs):=by
 intro more rs kvs vs r;unfold KV at r
 induction r generalizing kvs vs with
 | nil=>intro q;exact q
 | @cons p q ps qs h t ih=>
  intro r0;have e:KV (putK kvs p.1 p.2) (stored vs q.1 q.2):=by
   have:=r0.put p.1 h.2;rw[<-h.1];exact this
  exact ih e
theorem Oq:∀(more kvs:YM),(Eo kvs more).length<=kvs.length+more.length
 | [],kvs=>by show kvs.length<=kvs.length+0;omega
 | p::r,kvs=>by
  have h1:=Oq r (putK kvs p.1 p.2);have h2:=X5 kvs p.1 p.2;show (Eo (putK kvs p.1 p.2) r).length<=_;rw[Qbl];omega
theorem Ss {P:Program} {w:World}:∀{kvs:YM} {ws:List (Value×Value)},VV (kvs.map λkv=>(kV kv.1,kv.2)) ws->∃rs,Carries (Eh P w) ws rs/\KV kvs rs
 | [],_,r=>by rw[List.map_nil] at r;cases r;exact⟨[],True.intro,.nil⟩
 | p::kvs,_,r=>by
  rw[QbR] at r;cases r with
  | @cons a b as bs h t=>
   obtain⟨rs,c,q⟩:=Ss (P:=P) (w:=w) t;obtain⟨b1,b2⟩:=b;exact⟨(p.1,b2)::rs,⟨RT h.1,rq,c⟩,.cons ⟨rq,h.2⟩ q⟩
def uI (trs:List (TE×TE)):TE:=fun U H Q=>∀p,H p=none->VP trs U (upd H p (.dK [])) λps H2=>H2 p=some (.dK [])/\∃kvs:YM,ps=kvs.map (λkv=>(kV kv.1,kv.2))/\kvs.length<=15/\Q (.ref p) (upd H2 p (.dK (Eo [] kvs)))
theorem Yy {X:Cx} {pos:Pos} {keys:List (Option Expr)} {values:YJ} {trs:List (TE×TE)} (h:PPs X pos keys values trs) (hall:keys.all (·.isSome)=true) (hl:keys.length=values.length) (h0:keys≠[])
  (h15:keys.length<=15):PE X (.Dict keys values pos) (uI trs):=by
 intro jb s U H Q I q;have hn:=I.hok.fresh (Qcf s.heap.objs.size);have I1:=I.laid (a:=s.heap.objs.size) (o:=.dK []) (h':=s.heap.push { cls:=.type "dict",data:=.dict #[] }) (t':=s.toks) (λ_ _ q=>Qat _ q) (Qcf _) (jR s.heap I.big);refine wpAny_Dict_walk (knd:=Eh X.prog X.w) hall hl h0 h15 (thn (h jb _ U _ _ I1 (q _ hn)) λws s2 zz=>?_);obtain⟨ps,H2,I2,rel,e,kvs,ep,lk,q2⟩:=zz;subst ep;obtain⟨rs,c,rk⟩:=Ss (P:=X.prog) (w:=X.w) rel;obtain⟨z,hd,vs0,r0,dd⟩:=vH I2.hok e;cases r0;refine⟨rs,c,dd,λh' dd' hs=>⟨.ref s.heap.objs.size,_,?_,rq,q2⟩⟩;have hz:(Eo [] kvs).length<=sizeLine:=by
  have h1:=Oq kvs [];rw[List.length_nil] at h1;rw[sizeLine_eq];omega
 have he:∃q,h'.get? s.heap.objs.size=some q:=let ⟨q,_,_,hq,_⟩:=dd';⟨q,hq⟩;exact oY I2 (by rw[e];exact True.intro) hs he (sW hz hd (rk.merge .nil) dd')
structure M1 (X:Cx) (o:Expr) (m:Str) (apos:Pos) (e:Expr) (cpos:Pos):Prop where
 base:attributeBase o m X.env (eval o X.env)=eval o X.env
 few:((backTo cpos (starEach [e] X.env)).all (λx=>!x.1)&&(backToKw cpos (keywordEach [] X.env)).all (λx=>x.1.isSome)
 &&decide (([e]:YJ).length+([]:List Keyword).length+(if ([]:List Keyword).isEmpty then 0 else 1) < 30))=true
 line:(apos.endLine == cpos.line)=true
 trees:backTo cpos (starEach [e] X.env)=[(false,eval e X.env)]
structure M2 (X:Cx) (o:Expr) (m:Str) (apos:Pos) (e f:Expr) (cpos:Pos):Prop where
 base:attributeBase o m X.env (eval o X.env)=eval o X.env
 few:((backTo cpos (starEach [e,f] X.env)).all (λx=>!x.1)&&(backToKw cpos (keywordEach [] X.env)).all (λx=>x.1.isSome)
 &&decide (([e,f]:YJ).length+([]:List Keyword).length+(if ([]:List Keyword).isEmpty then 0 else 1) < 30))=true
 line:(apos.endLine == cpos.line)=true
 trees:backTo cpos (starEach [e,f] X.env)=[(false,eval e X.env),(false,eval f X.env)]
section
variable {X:Cx} {jb:YC} {U : St} {H:Hp} {s:Shared} {a:Addr} {y d:V} {u r:Value} {o:Option V} {A:Around} {E:YA}
end
section
variable {X:Cx} {o e f:Expr} {apos cpos:Pos} {td ty tx:TE}
end
section
variable {X:Cx} {jb:YC} {U : St} {H:Hp} {s:Shared} {a:Addr} {kvs:YM} {A:Around} {E:YA}
end
section
variable {X:Cx} {jb:YC} {U : St} {H:Hp} {s:Shared} {a:Addr} {y:V} {u:Value} {A:Around} {E:YA}
end
section
variable {X:Cx}
end
section
variable {κ : Type} [DecidableEq κ]
theorem YS:∀{l:List κ} {k:κ},l.Nodup->¬k∈l->(l++[k]).Nodup
 | [],k,_,_=>by simp
 | a::r,k,h,hk=>by
  obtain⟨h1,h2⟩:=QbH.mp h;show (a::(r++[k])).Nodup;refine QbH.mpr ⟨λm=>?_,YS h2 λm=>hk (QbP.mpr (Or.inr m))⟩;rcases Qby.mp m with q | q
  ·exact h1 q
  ·exact hk (QbP.mpr (Or.inl (QaO.mp q).symm))
end
end L2
namespace PySem
open Sem (wp)
section
variable {prog:Program} {w:World} {A:Around} {E:YA} {s:Shared}
theorem RM {it l:Addr} {i:Nat} {items:Array Value} {x:Value} {Q:YA} (hit:s.heap.IsTupleIter it l i) (hl:s.heap.IsTuple l items) (hx:items[i]?=some x)
  (hQ:∀h',h'.IsTupleIter it l (i+1)->Heap.SameBut it s.heap h'->Q x { s with heap:=h' }):wpAny (model prog w) A (Builtin.SmallTypes.nextOf (.ref it)) Q E s:=by
 obtain⟨o,ho,hc,hd⟩:=id hit;obtain⟨ol,hol,_,nl,hdl⟩:=hl;unfold Builtin.SmallTypes.nextOf;refine Qcj (Qar (name:=Str.ofString "__next__") hit.typeIs PyProof.Rows.slot_tupleiter_next (Qbs PyProof.Rows.slot_tupleiter_next hit.typeIs PyProof.Rows.entry_tupleiter_next ?_ (PyProof.Rows.args_tupleiter_next _)));show wpAny _ _ (field (.ref it) 0 >>= _) _ _ s;refine Qcj (Qch ho hd (x:=.ref l) rfl ?_);show wpAny _ _ (if (Value.ref l == Value.none)=true then _ else _) _ _ s
 rw[if_neg (show ¬((Value.ref l == Value.none)=true) from QaP)]
 show wpAny _ _ (field (.ref it) 1 >>= _) _ _ s;refine Qcj (Qch ho hd (x:=.int i 0) rfl ?_);show wpAny _ _ (seqItems? (.ref l) >>= _) _ _ s;refine Qcj (wpAny_seqItems hol hdl ?_);simp only[Qbh,hx];refine Qcj (wpAny_setField ho hd (by simp) (Qck ⟨x,rq,Qck (hQ _ ?_ (Heap.SameBut.update ..))⟩));exact⟨_,QaA _ ho (Obj.isFreed_of_fields (QaX hd _)),(Obj.cls_mapFields ..).trans hc,by rw[QaX hd];simp[rawInt]⟩
end
theorem Draws.from {prog:Program} {w:World} {A:Around} {it:Addr} {fp:List Addr} {n:Nat} {P:Nat->Value->Prop} {St:Nat->Heap->Prop} (D:Draws prog w A it fp n P St) (k:Nat) :
  Draws prog w A it fp (k+n) (λj v=>∃i,j=k+i/\P i v) (λj h=>∃i,j=k+i/\i<=n/\St i h) where
 live:=λ_ _ ⟨i,_,_,st⟩=>D.live i _ st
 frame:=λ_ _ _ ⟨i,e,hi,st⟩ hk=>⟨i,e,hi,D.frame i _ _ st hk⟩
 item:=λj s Q E hj ⟨i,e,hi,st⟩ hQ=>D.item i s Q E (by omega) st λx h' tk p st' sb=>hQ x h' tk ⟨i,e,p⟩ ⟨i+1,by omega,by omega,st'⟩ sb
 done:=λs Q E ⟨i,e,hi,st⟩ hE=>by
  have:i=n:=by omega
  subst this;exact D.done s Q E st hE
end PySem
namespace L2
open PySem PySem.Spec PyProof.Rows
section
variable {X:Cx} {jb:YC} {U : St} {H:Hp} {s:Shared} {h':Heap}
theorem Inv.bG {t':Nat} {fp:List Addr} {t:Addr} {o:HO} (I:Inv X jb U H s) (ht:s.heap.objs.size<=t) (k:∀b u,b∉fp->s.heap.get? b=some u->h'.get? b=some u) (hf:∀b∈fp,Gh X jb H b) (new:CQ X.prog X.w (upd H t o) h' t o) :
  Inv X jb U (upd H t o) { s with heap:=h',toks:=t' }:=by
 have nt:=I.hok.fresh ht;have old:∀b u,s.heap.get? b=some u->b≠t:=λb u e z=>absurd (QaQ (QbZ e) ht) (by rw[z];exact QbU _);have nf:∀b u,H b=some u->b∉fp:=λb u e z=>by rw[(hf b z).1] at e;cases e
 have tr:∀b u,H b=some u->(upd H t o) b=some u:=λb u e=>by rw[Bw (Cp e nt)];exact e
 refine I.step (g':=s.gens) (d':=s.drawn) (ch:=fp) (λb hb=>?_) (λb u _ _ hc e _=>k b u hc e) (λb u _ _ hc e _=>⟨u.slots,k b u hc e⟩) (λb u hc e n=>by rw[Bw (old b u e)];exact n)
  (λb u hc e=>⟨u,k b u hc e⟩) (λ_ _ e=>tr _ _ e) (λ_ _ _ e=>tr _ _ e) (λb ps e=>⟨#[],by rw[tr _ _ e];simp⟩) (λm hm=>?_) (λb u e=>?_) I.bare
 ·obtain⟨_,f1,_,f3,f4,f5⟩:=hf b hb;exact⟨f3,f1,f4,f5⟩
 ·obtain⟨u,es,ep,hu,r⟩:=hm;exact⟨u,es,ep,k _ u (λz=>(hf _ z).2.1 rfl) hu,r⟩
 ·by_cases hb:b=t
  ·subst hb;rw[Ae] at e;cases e;exact new
  ·rw[Bw hb] at e;refine (I.hok b u e).stay (λc v hc q=>k c v ?_ q) (λc q=>tr _ _ q) λc xs q=>tr _ _ q;rcases hc with z | z
   ·rw[z];exact nf b u e
   ·exact nf c _ z
theorem Inv.mO {t':Nat} {fp:List Addr} (I:Inv X jb U H s) (k:∀b u,b∉fp->s.heap.get? b=some u->h'.get? b=some u) (hf:∀b∈fp,Gh X jb H b):Inv X jb U H { s with heap:=h',toks:=t' }:=by
 have nf:∀b u,H b=some u->b∉fp:=λb u e z=>by rw[(hf b z).1] at e;cases e
 refine I.step (g':=s.gens) (d':=s.drawn) (ch:=fp) (λb hb=>?_) (λb u _ _ hc e _=>k b u hc e) (λb u _ _ hc e _=>⟨u.slots,k b u hc e⟩) (λb u hc e n=>n)
  (λb u hc e=>⟨u,k b u hc e⟩) (λ_ _ e=>e) (λ_ _ _ e=>e) (λb ps e=>⟨#[],by rw[e];simp⟩) (λm hm=>?_) (λb u e=>?_) I.bare
 ·obtain⟨_,f1,_,f3,f4,f5⟩:=hf b hb;exact⟨f3,f1,f4,f5⟩
 ·obtain⟨u,es,ep,hu,r⟩:=hm;exact⟨u,es,ep,k _ u (λz=>(hf _ z).2.1 rfl) hu,r⟩
 ·refine (I.hok b u e).stay (λc v hc q=>k c v ?_ q) (λ_ q=>q) λ_ _ q=>q;rcases hc with z | z
  ·rw[z];exact nf b u e
  ·exact nf c _ z
end
end L2
namespace PySem
open Sem (wp)
open AutoSeq1 (wpAny_loadPart')
end PySem
namespace PySem
open Sem (wp)
section
variable {prog:Program} {w:World} {A:Around} {E:YA} {s:Shared}
end
end PySem
namespace PyProof.Rows
open PySem
section
variable {M:Model} {A:Around} {E:YA} {s:Shared} {env:Env}
end
end PyProof.Rows
namespace L2
open PySem PySem.Spec PyProof.Rows
section
variable {X:Cx}
end
section
variable {X:Cx}
end
section
variable {X:Cx}
end
section
variable {X:Cx}
end
end L2
namespace PySem.ZZ
open PySem
section
variable {prog:Program} {w:World} {A:Around} {E:YA} {s:Shared}
theorem Rg {M:Model} {α β : Type} {Q:β->Shared->Prop} {body:α->β->Sem (ForInStep β)} (J:List α->β->Shared->Prop) (hnil:∀b s,J [] b s->Q b s)
  (hstep:∀x r b s,J (x::r) b s->wpAny M A (body x b) (λst s'=>match st with | .yield b'=>J r b' s' | .done b'=>Q b' s') E s):∀(l:List α) (b:β) (s:Shared),J l b s->wpAny M A (forIn l b body) Q E s
 | [],b,s,h=>by
  rw[List.forIn_nil];exact Qck (hnil b s h)
 | x::r,b,s,h=>by
  rw[List.forIn_cons];refine Qcj (Qcl (hstep x r b s h) (λst s' q=>?_) λ_ _ e=>e);cases st with
  | yield b'=>exact Rg J hnil hstep r b' s' q
  | done b'=>exact Qck q
structure Src where
 it:Addr
 a:Addr
 items:Array Value
def SrcAt (h:Heap) (x:Src) (i:Nat):Prop:=(h.IsListIter x.it x.a i/\h.IsList x.a x.items)\/(h.IsTupleIter x.it x.a i/\h.IsTuple x.a x.items)
theorem SrcAt.keep {h h':Heap} {x:Src} {i:Nat} (q:SrcAt h x i) (k1:∀o,h.get? x.it=some o->h'.get? x.it=some o) (k2:∀o,h.get? x.a=some o->h'.get? x.a=some o):SrcAt h' x i:=by
 rcases q with⟨q1,q2⟩|⟨q1,o,e,r⟩
 ·exact .inl ⟨q1.at k1,q2.at k2⟩
 ·exact .inr ⟨q1.at k1,o,k2 o e,r⟩
abbrev IsZ (h:Heap) (z TI TO:Addr) (f0 f1:Value):Prop:=h.get? z=some { cls:=.type "zip",dict:=none,data:=.fields #[f0,f1,.bool false,.ref TI,.ref TO],slots:=#[] }
abbrev DX (h:Heap) (T:Addr) (xs:YE):Prop:=h.get? T=some { cls:=.type "tuple",data:=.seq xs.toArray }
structure Apart (z TI TO:Addr) (ls:List Src):Prop where
 TIz:TI≠z
 TOz:TO≠z
 TITO:TI≠TO
 it:∀x∈ls,x.it≠z/\x.it≠TI/\x.it≠TO
 a:∀x∈ls,x.a≠z/\x.a≠TO
 ai:∀x∈ls,∀y∈ls,x.a≠y.it
 nd:(ls.map (·.it)).Nodup
def Rest (z TO:Addr) (ls:List Src) (h h':Heap):Prop:=∀c o,c≠z->c≠TO->c∉ls.map (·.it)->h.get? c=some o->h'.get? c=some o
structure Mid (z TI TO:Addr) (ls:List Src) (xs olds:YE) (i:Nat) (f0 f1:Value) (h:Heap) (k:Nat) (h':Heap):Prop where
 hz:IsZ h' z TI TO f0 f1
 hTI:DX h' TI (ls.map λx=>.ref x.it)
 done:∀j x,ls[j]?=some x->SrcAt h' x (if j < k then i+1 else i)
 rest:Rest z TO ls h h'
 size:h'.objs.size=h.objs.size
theorem Mid.other {z TI TO:Addr} {ls:List Src} {xs olds:YE} {i:Nat} {f0 f1:Value} {h h1 h2:Heap} {k:Nat} (D:Apart z TI TO ls) (m:Mid z TI TO ls xs olds i f0 f1 h k h1) (sb:Heap.SameBut TO h1 h2):Mid z TI TO ls xs olds i f0 f1 h k h2:=by
 refine⟨sb.extBut _ _ D.TOz.symm m.hz,sb.extBut _ _ D.TITO m.hTI,λj y hy=>?_,λc o c1 c2 c3 e=>sb.extBut _ _ c2 (m.rest c o c1 c2 c3 e),by rw[sb.1,m.size]⟩;have hm:=QaC hy;exact (m.done j y hy).keep (λo e=>sb.extBut _ _ (D.it y hm).2.2 e) (λo e=>sb.extBut _ _ (D.a y hm).2 e)
theorem ZS {z TI TO:Addr} {f0 f1:Value} {Q:Option Value->Shared->Prop} (hz:IsZ s.heap z TI TO f0 f1) {Qi:YA} (h:wpAny (model prog w) A.in1 (Builtin.«zip.__next__» ⟨[.ref z],[]⟩) (λfin s'=>∃v,fin=.done (.ret v)/\Qi v s') (λ_ _=>False) s) (hQ:∀v s',Qi v s'->Q (some v) s') :
  wpAny (model prog w) A (pyNext (.ref z)) Q E s:=by
 have hT:s.TypeIs (.ref z) "zip":=⟨_,hz,rq⟩;unfold pyNext;refine Qcj (wpAny_attempt (Qar (name:=Str.ofString "__next__") hT F.slot_zip_next (Qbs F.slot_zip_next hT F.entry_zip_next (Qcl h (λfin s' q=>?_) λ_ _ f=>f.elim) (F.args_zip_next_1 _))));obtain⟨v,e,q⟩:=q;exact⟨v,e,Qck (hQ v s' q)⟩
theorem S9 {z TI TO:Addr} {f0 f1:Value} {Q:Option Value->Shared->Prop} {R:Heap->Prop} (hz:IsZ s.heap z TI TO f0 f1)
  (h:wpAny (model prog w) A.in1 (Builtin.«zip.__next__» ⟨[.ref z],[]⟩) (λ_ _=>False) (λv s'=>∃h' e,v=.ref e/\s'={ s with heap:=h' }/\R h'/\∃o,h'.get? e=some o/\o.cls=.type "StopIteration") s) (hQ:∀h',R h'->Q none { s with heap:=h' }) :
  wpAny (model prog w) A (pyNext (.ref z)) Q E s:=by
 have hT:s.TypeIs (.ref z) "zip":=⟨_,hz,rq⟩;unfold pyNext;refine Qcj (wpAny_attempt (Qar (name:=Str.ofString "__next__") hT F.slot_zip_next (Qbs F.slot_zip_next hT F.entry_zip_next (Qcl h (λ_ _ f=>f.elim) λv s' q=>?_) (F.args_zip_next_1 _))));obtain⟨h',e,rfl,rfl,r,o,ho,hc⟩:=q;exact Qcj (wpAny_isInstance (T:="StopIteration") (b:=true) ⟨o,ho,hc⟩ isSubtype_stop (Qck (hQ _ r)))
theorem RB {z TI TO:Addr} {f0 f1:Value} {Q:YA} (hz:IsZ s.heap z TI TO f0 f1) (h:Q (.ref z) s):wpAny (model prog w) A (pyIter (.ref z)) Q E s:=by
 have hT:s.TypeIs (.ref z) "zip":=⟨_,hz,rq⟩;refine wpAny_pyIter_slot hT F.slot_zip_iter (Qbs F.slot_zip_iter hT F.entry_zip_iter ?_ (F.args_zip_iter_1 _));show wpAny _ _ (ret (.ref z)) _ _ s;exact Qck ⟨_,rq,"zip",_,hT,F.slot_zip_next.lookup,h⟩
theorem dH {elts:YJ} {x1} {pos:Pos} {z TI TO T:Addr} {f1:Value} {Q:YH} (hz:IsZ s.heap z TI TO (rawInt T) f1)
  (hQ:∀h',IsZ h' z TI TO .none f1->Heap.SameBut z s.heap h'->Q () { s with heap:=h' }):wpAny (model prog w) A (letOwnedTupleGo (.Tuple elts x1 pos) (.ref z) (.ref T)) Q E s:=by
 unfold letOwnedTupleGo;refine Qcj (wpAny_load hz ?_);show wpAny _ _ (if (["enumerate","zip","dict_itemiterator","dict_reverseitemiterator","odict_iterator","itertools.zip_longest","itertools.pairwise"].contains "zip" &&
   (#[rawInt T,f1,.bool false,.ref TI,.ref TO]:Array Value)[0]? == some (rawInt T))=true then _ else _) Q E s
 rw[if_pos (by simp)];refine Qcj (wpAny_rule ?_);show wpAny _ _ (setField (.ref z) 0 .none) Q E s;exact QaU hz (by simp) λh' hz' hs'=>hQ h' hz' hs'
end
end PySem.ZZ
namespace PySem
namespace F
end F
end PySem
namespace PySem.ZZ
open PySem
def uh (h:Heap) (a:Addr) (xs:Array Value) (c:String):Prop:=(c="list_iterator"/\h.IsList a xs)\/(c="tuple_iterator"/\h.IsTuple a xs)
theorem uh.src {h h':Heap} {a it:Addr} {xs:Array Value} {c:String} (q:uh h a xs c) (k:∀o,h.get? a=some o->h'.get? a=some o) (e:h'.get? it=some { cls:=.type c,data:=.fields #[.ref a,.int 0 0] }):SrcAt h' ⟨it,a,xs⟩ 0:=by
 rcases q with⟨rfl,q⟩|⟨rfl,o,ho,r⟩
 ·exact .inl ⟨⟨_,e,rq,rq⟩,q.at k⟩
 ·exact .inr ⟨⟨_,e,rq,rq⟩,o,k o ho,r⟩
abbrev itO (c:String) (l:Addr):Obj:={ cls:=.type c,data:=.fields #[.ref l,.int 0 0] }
abbrev tuO (xs:Array Value):Obj:={ cls:=.type "tuple",data:=.seq xs }
abbrev z2a (h:Heap) (c1 c2:String) (l1 l2:Addr):Heap:=((((h.push (itO c1 l1)).push (itO c2 l2)).push (tuO #[.ref h.objs.size,.ref (h.push (itO c1 l1)).objs.size])).push (tuO #[.none,.none]))
abbrev z2 (h:Heap) (c1 c2:String) (l1 l2:Addr):Heap:=(z2a h c1 c2 l1 l2).push
 { cls:=.type "zip",data:=.fields #[.none,.bool false,.bool false,.ref ((h.push (itO c1 l1)).push (itO c2 l2)).objs.size,.ref (((h.push (itO c1 l1)).push (itO c2 l2)).push (tuO #[.ref h.objs.size,.ref (h.push (itO c1 l1)).objs.size])).objs.size] }
abbrev z3a (h:Heap) (c1 c2 c3:String) (l1 l2 l3:Addr):Heap:=(((((h.push (itO c1 l1)).push (itO c2 l2)).push (itO c3 l3)).push (tuO #[.ref h.objs.size,.ref (h.push (itO c1 l1)).objs.size,.ref ((h.push (itO c1 l1)).push (itO c2 l2)).objs.size])).push (tuO #[.none,.none,.none]))
abbrev z3 (h:Heap) (c1 c2 c3:String) (l1 l2 l3:Addr):Heap:=(z3a h c1 c2 c3 l1 l2 l3).push
 { cls:=.type "zip",data:=.fields #[.none,.bool false,.bool false,.ref (((h.push (itO c1 l1)).push (itO c2 l2)).push (itO c3 l3)).objs.size,.ref ((((h.push (itO c1 l1)).push (itO c2 l2)).push (itO c3 l3)).push (tuO #[.ref h.objs.size,.ref (h.push (itO c1 l1)).objs.size,.ref ((h.push (itO c1 l1)).push (itO c2 l2)).objs.size])).objs.size] }
theorem na {a b:Nat} (h:a≠b):@Ne Addr a b:=h
section
variable {prog:Program} {w:World} {A:Around} {E:YA} {s:Shared}
end
end PySem.ZZ
namespace PySem
namespace F
end F
end PySem
namespace PySem.ZZ
open PySem
section
variable {prog:Program} {w:World} {A:Around} {E:YA} {s:Shared}
structure Run (hb:Heap) (z TI TO:Addr) (ls:List Src) (rows:Nat->YE) (S:Addr) (ts:List Addr) (h:Heap):Prop where
 inc:ts.Pairwise (· < ·)
 lo:∀t∈ts,S < t/\t < h.objs.size
 at_:∀j t,ts[j]?=some t->DX h t (rows j)
 keep:∀c o,hb.get? c=some o->h.get? c=some o
 hTI:DX h TI (ls.map λx=>.ref x.it)
 hTO:∃olds,DX h TO olds/\olds.length=ls.length
 src:∀x∈ls,SrcAt h x ts.length
 hz:(ts=[]/\IsZ h z TI TO .none (.bool false))\/∃(T:Addr) (f1:Value),ts[0]?=some T/\IsZ h z TI TO (rawInt T) f1
structure Below (hb:Heap) (z TI TO:Addr) (ls:List Src) (S:Addr):Prop where
 ap:Apart z TI TO ls
 old:hb.objs.size<=z/\hb.objs.size<=TI/\hb.objs.size<=TO/\∀x∈ls,hb.objs.size<=x.it
 lz:z < S
 lTI:TI < S
 lTO:TO < S
 it:∀x∈ls,x.it < S/\x.a < S
 base:hb.objs.size<=S
theorem Run.frame {hb:Heap} {z TI TO:Addr} {ls:List Src} {rows:Nat->YE} {S:Addr} {ts:List Addr} {h h':Heap} (B:Below hb z TI TO ls S) (r:Run hb z TI TO ls rows S ts h) (hs:h'.objs.size=h.objs.size) (k:∀c o,c≠S->h.get? c=some o->h'.get? c=some o):Run hb z TI TO ls rows S ts h':=by
 obtain⟨olds,o1,o2⟩:=r.hTO;refine⟨r.inc,λt ht=>by rw[hs];exact r.lo t ht,λj t e=>k _ _ (Qcd (r.lo t (QaC e)).1) (r.at_ j t e),λc o e=>k _ _ (Qcb (QaQ (QbZ e) B.base)) (r.keep c o e),k _ _ (Qcb B.lTI) r.hTI,⟨olds,k _ _ (Qcb B.lTO) o1,o2⟩,λx hx=>?_,?_⟩
 ·exact (r.src x hx).keep (λo e=>k _ _ (Qcb (B.it x hx).1) e) (λo e=>k _ _ (Qcb (B.it x hx).2) e)
 ·rcases r.hz with⟨e,q⟩|⟨T,f1,e,q⟩
  ·exact .inl ⟨e,k _ _ (Qcb B.lz) q⟩
  ·exact .inr ⟨T,f1,e,k _ _ (Qcb B.lz) q⟩
theorem Run.more {hb:Heap} {z TI TO:Addr} {ls:List Src} {rows:Nat->YE} {S:Addr} {ts:List Addr} {h h':Heap} (B:Below hb z TI TO ls S) (r:Run hb z TI TO ls rows S ts h) (hS:S < h.objs.size) (hs:h'.objs.size=h.objs.size+1) (hr:Rest z TO ls h h')
  (hTI:DX h' TI (ls.map λx=>.ref x.it)) (hTO:∃olds,DX h' TO olds/\olds.length=ls.length) (src:∀x∈ls,SrcAt h' x (ts.length+1)) (new:DX h' h.objs.size (rows ts.length)) (hz:∃(T:Addr) (f1:Value),(ts++[h.objs.size])[0]?=some T/\IsZ h' z TI TO (rawInt T) f1):Run hb z TI TO ls rows S (ts++[h.objs.size]) h':=by
 have fr:∀t,S < t->t≠z/\t≠TO/\t∉ls.map (·.it):=λt ht=>⟨λe=>by rw[e] at ht;exact Nat.lt_asymm ht B.lz,λe=>by rw[e] at ht;exact Nat.lt_asymm ht B.lTO,λe=>by
  obtain⟨x,hx,e'⟩:=Qcc.mp e;rw[<-e'] at ht;exact Nat.lt_asymm ht (B.it x hx).1⟩
 refine⟨?_,λt ht=>?_,λj t e=>?_,λc o e=>?_,hTI,hTO,λx hx=>by rw[QaM];exact src x hx,.inr hz⟩
 ·exact List.pairwise_append.mpr ⟨r.inc,List.pairwise_singleton _ _,λa ha b hb'=>by
   have:b=h.objs.size:=by simpa using hb'
   rw[this];exact (r.lo a ha).2⟩
 ·rw[hs];rcases Qby.mp ht with ht | ht
  ·have:=r.lo t ht;exact⟨this.1,Nat.lt_succ_of_lt this.2⟩
  ·have:t=h.objs.size:=by simpa using ht
   rw[this];exact⟨hS,Nat.lt_succ_self _⟩
 ·by_cases c:j < ts.length
  ·rw[Qak c] at e;have hlo:=r.lo t (QaC e);obtain⟨f1,f2,f3⟩:=fr t hlo.1;exact hr t _ f1 f2 f3 (r.at_ j t e)
  ·rw[Qag (Nat.le_of_not_lt c)] at e;have hj:j - ts.length=0:=by
    have:=(Qaj.mp e).1;rw[List.length_singleton] at this;omega
   rw[hj] at e;cases e;have:j=ts.length:=by omega
   rw[this];exact new
 ·have hlt:=QbZ e;refine hr c o (λq=>?_) (λq=>?_) (λq=>?_) (r.keep c o e)
  ·rw[q] at hlt;exact absurd hlt (Nat.not_lt.mpr B.old.1)
  ·rw[q] at hlt;exact absurd hlt (Nat.not_lt.mpr B.old.2.2.1)
  ·obtain⟨x,hx,e'⟩:=Qcc.mp q;rw[<-e'] at hlt;exact absurd hlt (Nat.not_lt.mpr (B.old.2.2.2 x hx))
end
end PySem.ZZ
namespace PySem.ZZ
open PySem
section
variable {prog:Program} {w:World} {A:Around} {E:YA} {s:Shared}
structure Rows (ls:List Src) (n:Nat) (rows:Nat->YE):Prop where
 row:∀j,j < n->(rows j).length=ls.length/\∀(k:Nat) (x:Src),ls[k]?=some x->∃v,(rows j)[k]?=some v/\x.items[j]?=some v
 stop:∃x∈ls,x.items[n]?=none
 ne:ls≠[]
 few:ls.length<=100
 most:n<=1000
end
end PySem.ZZ
namespace L2
open PySem PySem.Spec PyProof.Rows
section
variable {X:Cx} {jb:YC} {U : St} {H:Hp} {s:Shared} {h':Heap}
end
section
variable {X:Cx}
end
mutual
inductive Ol (K:YD) (H:Hp):V->PyData->Prop
 | non:Ol K H .non .none
 | bl (b:Bool):Ol K H (.bl b) (.bool b)
 | int (i:Int):Ol K H (.int i) (.int i)
 | str (x:Str):Ol K H (.str x) (.str x)
 | tup {a:Addr} {xs:YG} {ds:List PyData}:SqT K H a xs->J3 K H xs ds->Ol K H (.ref a) (.tuple ds)
inductive J3 (K:YD) (H:Hp):YG->List PyData->Prop
 | nil:J3 K H [] []
 | cons {x:V} {d:PyData} {xs:YG} {ds:List PyData}:Ol K H x d->J3 K H xs ds->J3 K H (x::xs) (d::ds)
end
section
variable {X:Cx} {jb:YC} {U : St} {H:Hp} {s:Shared}
mutual
theorem Ol.reads (I:Inv X jb U H s):∀{v:V} {d:PyData} {u:Value},Ol X.K H v d->RelV v u->∃as,Reads s.heap u d as
 | _,_,_,.non,r=>by cases (show _=Value.none from r);exact⟨_,.none⟩
 | _,_,_,.bl b,r=>by cases (show _=Value.bool b from r);exact⟨_,.bool b⟩
 | _,_,_,.int i,r=>by obtain⟨t,rfl⟩:=(show ∃t,_=Value.int i t from r);exact⟨_,.int i t⟩
 | _,_,_,.str x,r=>by obtain⟨t,rfl⟩:=(show ∃t,_=Value.str x t from r);exact⟨_,.str x t⟩
 | _,_,_,.tup (a:=a) (xs:=xs) e q,r=>by
  cases (show _=Value.ref a from r)
  obtain⟨its,rv,⟨o,ho,hc,n,hd⟩,_⟩:=I.tuple e;obtain⟨as,z⟩:=J3.reads I q rv;exact⟨_,.tuple ho hc hd (by simpa using z)⟩
theorem J3.reads (I:Inv X jb U H s):∀{xs:YG} {ds:List PyData} {us:YE},J3 X.K H xs ds->Vals xs us->∃as,ReadsAll s.heap us ds as
 | _,_,_,.nil,.nil=>⟨_,.nil⟩
 | _,_,_,.cons p q,.cons r t=>by
  obtain⟨as,a1⟩:=Ol.reads I p r;obtain⟨bs,b1⟩:=J3.reads I q t;exact⟨_,.cons a1 b1⟩
end
end
section
variable {X:Cx} {K:YD}
theorem nj {es:YJ} {k:Nat} {pos:Pos} {t:TGs} {n:Nat} (hK:X.K=K) (hc:X.calm=true) (h:PGs X es t)
  (hn:(assignEach es X.env).length=n:=by rfl) (hst:(assignEach es X.env).findIdx? (·.1)=none:=by rfl):PG X (.Tuple es k pos) (rZ K n t):=hK ▸ Di hc h hn hst
end
end L2
namespace L2
open PySem PySem.Spec PyProof.Rows
abbrev kY:YE:=[.type "ValueError",.type "Exception",.type "BaseException",.type "object"]
structure XCl (K:YD) (C:Addr):Prop where
 ex:excIn K C kY "ValueError.__new__"=true
 ga:findIn K (.ref C) "__getattribute__"=some (some (.builtin "BaseException.__getattribute__"))
 gn:findIn K (.ref C) "__getattr__"=some none
 ca:findIn K (.ref C) "__class__"=some (some (.builtin "object.__class__"))
 mo:subIn K (.ref C) (.type "object")=some true
 mb:subIn K (.ref C) (.type "BaseException")=some true
 kp:keepIn K (.ref C)=true
section
variable {K:YD} {C:Addr}
theorem XCl.look (T:XCl K C):∃dd cd sl,K.lookup C=some ⟨.type "type",dd,.cls cd,sl⟩:=by
 have q:=T.ex;unfold excIn at q;split at q
 ·rename_i dd cd sl ho;exact⟨dd,cd,sl,ho⟩
 ·cases q
theorem XCl.obj (T:XCl K C) {h:Heap} (X:K.In h):∃bm N nm q bs hdct sn sub ab col dd k0 k1 k2 k3 k5 mN,h.get? C=some (excClassObj nm q C N bs bm hdct sn sub ab col dd k0 k1 k2 k3 k5 "ValueError.__new__")/\h.Ns N mN/\mN "__init__"=none/\OwnTail h kY bm:=by
 have q:=T.ex;unfold excIn at q;split at q
 ·rename_i dd cd sl ho;split at q
  ·rename_i C' bm k0 k1 k2 k3 n k5 hm hs;simp only[Qbk,beq_iff_eq,Bool.not_eq_true'] at q;obtain⟨⟨⟨⟨⟨rfl,rfl⟩,hdel⟩,ht⟩,hok⟩,hni⟩:=q;obtain⟨nm,bs,mro,ns,qn,hd,sn,sub,ab,col,del⟩:=cd;dsimp only at hm hdel hok hni;subst hm hdel;have hsl:sl=#[k0,k1,k2,k3,some (.builtin "ValueError.__new__"),k5]:=by
    obtain⟨l⟩:=sl;simp only at hs;rw[hs]
   subst hsl;exact⟨bm,ns,nm,qn,bs,hd,sn,sub,ab,col,dd,k0,k1,k2,k3,k5,_,X _ _ ho,.of_isNs (PySem.W.isNs_of_in X hok),PySem.W.nsMap_none_of_in X hok hni,PySem.W.tail_of_in X ht⟩
  ·cases q
 ·cases q
end
def XAt (a C:Addr) (h:Heap):Prop:=∃o vs,h.get? a=some o/\o.cls=.ref C/\o.data=.fields vs/\vs[2]?=some .none
section
variable {prog:Program} {w:World} {A:Around} {E:YA} {h:Heap} {g:Array GenState} {d:Drawn} {t:Nat} {os:OsState} {K:YD} {a C:Addr} {o:Obj}
theorem Zv {R:Result->Shared->Prop} (X:K.In h) (T:XCl K C) (hx:h.get? a=some o) (hc:o.cls=.ref C) (hq:R (.ok (.ret (.ref C))) ⟨h,g,d,t,os⟩) :
  codeAny (model prog w) A (.call (.builtin "getset_descriptor.__get__") ⟨[.builtin "object.__class__",.ref a,.ref C],[]⟩) R ⟨h,g,d,t,os⟩:=by
 have hT5:(⟨h,g,d,t,os⟩ : Shared).TypeIs (.builtin "object.__class__") "getset_descriptor":=F.typeOf_object_class;have f8:PySem.W.Looks (model prog w) h (isSubtype (.ref C) (.type (".".intercalate ("object.__class__".cutAt '.').dropLast))) true:=by
  rw[F.owner_object_class];exact looks_subIn X T.mo
 refine codeAny_call_builtin F.slot_gs_get.plain F.entry_gs_get (F.slot_gs_get.check _ _ _ _ _ _ _ _ hT5 (F.args_gs_get _ _ _) ?_)
 repeat (any_goals (first | assumption | (with_reducible refine Qbi hx ?_;rw[hc]) | with_reducible refine f8.at ?_ | wp_step))
 refine⟨Code.quiet_builtin _ (by trivial),codeAny_builtin F.entry_object_class ?_⟩
 repeat (any_goals (first | assumption | (with_reducible refine Qbi hx ?_;rw[hc]) | wp_step))
theorem Vz {tk:Tok} {Q:Fin->Shared->Prop} (X:K.In h) (T:XCl K C) (hx:h.get? a=some o) (hc:o.cls=.ref C) (hq:Q (.done (.ret (.ref C))) ⟨h,g,d,t,os⟩) :
  wpAny (model prog w) A (Builtin.«object.__getattribute__» ⟨[.ref a,.str "__class__" tk],[]⟩) Q E ⟨h,g,d,t,os⟩:=by
 have hT5:(⟨h,g,d,t,os⟩ : Shared).TypeIs (.builtin "object.__class__") "getset_descriptor":=F.typeOf_object_class;have f4:=PySem.W.looks_findIn (M:=model prog w) X T.ca;have f5:=F.typeOf_object_class;have f6:=F.slot_gs_get.lookup;have f7:=F.slot_gs_set.lookup
 repeat (any_goals (first | assumption | (with_reducible refine Qbi hx ?_;rw[hc]) | with_reducible refine f4.at ?_ | wp_step))
 refine Zv X T hx hc ?_
 repeat (any_goals (first | assumption | wp_step))
theorem bA {M:Model} {nameV:Value} {Q:YH} (X:K.In h) (T:XCl K C) (hx:h.get? a=some o) (hc:o.cls=.ref C) (hq:Q () ⟨h,g,d,t,os⟩) :
  wpAny M A (checkBuiltinCall "BaseException.__getattribute__" ⟨[.ref a,nameV],[]⟩) Q E ⟨h,g,d,t,os⟩:=by
 have hk:builtinKind "BaseException.__getattribute__"=some .slot:=by trivial
 have hsplit:splitId "BaseException.__getattribute__"=some ("BaseException","__getattribute__"):=by trivial
 have f1:=looks_subIn (M:=M) X T.mb;have ha:=F.args_bexc_ga (.ref a) nameV;simp only[checkBuiltinCall,hk,hsplit];refine Qcj ?_
 ·unfold isInstance
  repeat (first | (with_reducible refine Qbi hx ?_;rw[hc]) | with_reducible refine f1.at ?_ | wp_step)
  exact hq
theorem XC {tk:Tok} {R:Result->Shared->Prop} (X:K.In h) (T:XCl K C) (hx:h.get? a=some o) (hc:o.cls=.ref C) (hq:R (.ok (.ret (.ref C))) ⟨h,g,d,t,os⟩) :
  codeAny (model prog w) A (.call (.builtin "BaseException.__getattribute__") ⟨[.ref a,.str "__class__" tk],[]⟩) R ⟨h,g,d,t,os⟩:=
 codeAny_call_builtin F.attr_ValueError.ga.plain F.entry_bexc_ga (bA X T hx hc (Vz X T hx hc hq))
theorem bx {tk:Tok} {fill expr:Bool} {Q:YA} (X:K.In h) (T:XCl K C) (hx:h.get? a=some o) (hc:o.cls=.ref C) (hq:Q (.ref C) ⟨h,g,d,t,os⟩) :
  wpAny (model prog w) A (getAttrBy (.ref a) (.str "__class__" tk) fill expr) Q E ⟨h,g,d,t,os⟩:=by
 have f1:=PySem.W.looks_findIn (M:=model prog w) X T.ga;have f2:=PySem.W.looks_findIn (M:=model prog w) X T.gn;have f3:=F.attr_ValueError.ga.bind (.ref a);have hx0:(expr&&onTheHeap (Value.builtin "BaseException.__getattribute__"))=false:=by cases expr <;> rfl
 have hx2:(Value.builtin "BaseException.__getattribute__" == Value.builtin "object.__getattribute__")=false:=by trivial
 have hx1:(onTheHeap (Value.ref C)&&Value.builtin "BaseException.__getattribute__" == Value.builtin "object.__getattribute__")=false:=by rw[hx2];rfl
 repeat (any_goals (first | assumption | (with_reducible refine Qbi hx ?_;rw[hc]) | with_reducible refine f1.at ?_ | with_reducible refine f2.at ?_ | wp_step))
 refine XC X T hx hc ?_
 repeat (any_goals (first | assumption | wp_step))
theorem XD {Q:Option Value->Shared->Prop} (X:K.In h) (T:XCl K C) (hx:h.get? a=some o) (hc:o.cls=.ref C) (hq:Q (some (.ref C)) ⟨h,g,d,t+1,os⟩):wpAny (model prog w) A (getAttr? (.ref a) "__class__") Q E ⟨h,g,d,t,os⟩:=by
 unfold getAttr? getAttrBy?
 repeat (any_goals (first | assumption | with_reducible apply bx X T hx hc | wp_step))
end
theorem iZ {K:YD} {a C:Addr} (T:XCl K C):PySem.W.KitX K (.ref a) (.ref C) (XAt a C) where
 ty:=λM h X p=>by
  obtain⟨o,vs,h1,h2,_⟩:=p;exact h2 ▸ (PySem.W.Looks.ld h1).andThen .now
 it:=λ_ _ X _=>by
  obtain⟨dd,cd,sl,ho⟩:=T.look;intro A' Q' E' s' k q;unfold isType loadHead;exact Qcj (wpAny_loadPart (k _ _ (X _ _ ho)) (Qck q))
 ne:=λh tp dd its n sl X htp=>by
  obtain⟨_,cd,_,ho⟩:=T.look;refine Bool.eq_false_iff.mpr λq=>?_;have e:C=tp:=Value.ref.inj (beq_iff_eq.mp q);subst e;have z:=congrArg Obj.data (QbA ((X _ _ ho).symm.trans htp));cases z
 ca:=λ{_ _ _ _ _ s} X p k=>by
  obtain⟨h,g,d,t,os⟩:=s;obtain⟨o,vs,h1,h2,_⟩:=p;exact XD X T h1 h2 k
def xo (a C:Addr):HO:=.ext (XAt a C)
section
variable {X:Cx} {jb:YC} {U : St} {H:Hp} {s:Shared}
theorem ux {a C:Addr} (I:Inv X jb U H s) (e:H a=some (xo a C)):XAt a C s.heap:=(show CQ X.prog X.w H s.heap a (xo a C) from I.hok a _ e).1
theorem RV {A:Around} {E:YA} {Q:YA} {a C:Addr} {c:Value} {b:Bool} (I:Inv X jb U H s) (T:XCl X.K C) (e:H a=some (xo a C)) (k:kitOne X.K (.ref C) c=some b) (h:∀tk,Q (.bool b) { s with toks:=tk }) :
  wpAny (model X.prog X.w) A (call (.builtin "isinstance") [.ref a,c]) Q E s:=
 kia_one (iZ T) I.kIn (ux I e) k (λz=>nomatch z) h
end
def XT (B:Heap) (e C:Addr) (fl:Option Value) (h:Heap):Prop:=
 ∃oe vs,h.get? e=some oe/\oe.cls=.ref C/\oe.data=.fields vs/\vs[2]?=some .none /\
  match fl with
  | none=>vs[1]?=some .none
  | some f=>∃T oT ts,vs[1]?=some (.ref T)/\B.get? T=none/\T≠e/\h.get? T=some oT/\oT.data=.fields ts/\ts[3]?=some f
structure Fl (B:Heap) (l:List Env) (e C:Addr) (fl:Option Value) (h:Heap):Prop where
 stays:B.StaysIn h
 new:B.get? e=none
 fr:h.FunFrames B l
 tr:XT B e C fl h
theorem XT.at {B h:Heap} {e C:Addr} {fl:Option Value} (x:XT B e C fl h):XAt e C h:=by
 obtain⟨oe,vs,h1,h2,h3,h4,_⟩:=x;exact⟨oe,vs,h1,h2,h3,h4⟩
section
variable {M:Model} {A:Around} {E:YA} {s:Shared} {B:Heap} {env:Env} {outer l:List Env} {L e C:Addr} {Q:YH}
theorem W8 {oe:Obj} {vs:Array Value} {head:Value} {hadNext:Bool} (hfr:A.frames=some (env::outer)) (hf:env.frame=some L) (st:B.StaysIn s.heap) (new:B.get? e=none) (fr:s.heap.FunFrames B (env::outer))
  (he:s.heap.get? e=some oe) (hc:oe.cls=.ref C) (hd:oe.data=.fields vs) (h2:vs[2]?=some .none) (hq:∀h',Fl B (env::outer) e C (some (rawInt L)) h'->s.heap.UpToSlots h'->Q () { s with heap:=h' }) :
  wpAny M A (do let fo <-frameOf env;let pl <-entryPlaceOf L hadNext;let tb <-EntryCells.newEntry head fo .none (rawInt L) .none pl;setField (.ref e) 1 tb) Q E s:=by
 have hsz:2 < vs.size:=(Qae.mp h2).1;have nf:e∉(env::outer).filterMap (·.frame):=λhm=>by
  obtain⟨_,of,hof,nof⟩:=fr.mem hm;rw[he] at hof;cases hof;exact nof vs hd
 refine Qcj (wpAny_frameOf_fun hfr fr hf λhA sA=>?_);refine Qcj (wpAny_entryPlaceOf λpl ipl=>?_);unfold EntryCells.newEntry newFields;refine Qcj (Qbg ?_ (ipl.sizeOk5 _ _ _ _ _));have eA:hA.get? e=some oe:=(sA.2.1 e nf).trans he;have stA:B.StaysIn hA:=λb o q=>(sA.2.1 b λhm=>by rw[(fr.mem hm).1] at q;cases q).trans (st b o q);have key:∀(ob:Obj) (ts:Array Value),ob.data=.fields ts->ob.isFreed=false->ts[3]?=some (rawInt L)->wpAny M A (setField (.ref e) 1 (.ref hA.objs.size)) Q E { s with heap:=hA.push ob }:=λob ts dT nfr iT=>by
  have eP:=Qat (h:=hA) ob eA;refine wpAny_setField eP hd (by omega) (hq _ ?_ ?_)
  ·have hTe:hA.objs.size≠e:=Qcd (QbZ eA);have dN:=QaX hd (·.setIfInBounds 1 (Value.ref hA.objs.size));have eN:=QaA (Obj.mapFields (·.setIfInBounds 1 (Value.ref hA.objs.size))) eP (Obj.isFreed_of_fields dN);have keep:∀b o,b≠e->hA.get? b=some o->((hA.push ob).update e (Obj.mapFields (·.setIfInBounds 1 (Value.ref hA.objs.size)))).get? b=some o:=λb o hb q=>by
    rw[Qav _ _ (Ne.symm hb)];exact Qat _ q
   refine⟨λb o q=>keep b o (λz=>by rw[z,new] at q;cases q) (stA b o q),new,fr.of_keeps λb o q nb=>?_,⟨_,_,eN,(Obj.cls_mapFields _ _).trans hc,dN,?_,hA.objs.size,ob,ts,?_,stA.fresh,hTe,?_,dT,iT⟩⟩
   ·obtain⟨sl,q'⟩:=sA.2.2 b o q;exact⟨_,keep b _ (λz=>by rw[z,he] at q;cases q;exact nb vs hd) q',rq⟩
   ·rw[Array.getElem?_setIfInBounds_ne (by decide)];exact h2
   ·simp[show 1 < vs.size by omega]
   ·rw[Qav _ _ (Ne.symm hTe)];exact QaF hA nfr
  ·intro b o q nb;obtain⟨sl,q'⟩:=sA.2.2 b o q;refine⟨sl,?_⟩;rw[Qav _ _ (λz=>by rw[<-z,he] at q;cases q;exact nb vs hd)];exact Qat _ q'
 refine key _ _ rfl rfl ?_
 first | (simp;done) | (rcases ipl with rfl |⟨_,_,_,_,_,_,_,rfl⟩ <;> simp)
theorem TY {fl:Option Value} (hfl:fl=none\/∃v,fl=some v) (hfr:A.frames=some (env::outer)) (hf:env.frame=some L) (x:Fl B (env::outer) e C fl s.heap)
  (hq:∀h',Fl B (env::outer) e C (some (rawInt L)) h'->s.heap.UpToSlots h'->Q () { s with heap:=h' }):wpAny M A (noteFrame (.ref e) env) Q E s:=by
 obtain⟨st,new,fr,oe,vs,he,hc,hd,h2,ht⟩:=x;unfold noteFrame;simp only[hf];rcases hfl with rfl |⟨fv,rfl⟩
 ·refine Qcj (Qch he hd (show vs[1]?=some .none from ht) ?_)
  rw[if_neg (by decide)];exact W8 hfr hf st new fr he hc hd h2 hq
 ·obtain⟨T,oT,ts,h1,nT,hTe,hT,dT,iT⟩:=ht;refine Qcj (Qch he hd h1 ?_);rw[if_pos (show (Value.ref T != Value.none)=true from by simp)]
  refine Qcj (Qch hT dT iT ?_);by_cases hv:(fv == rawInt L)=true
  ·rw[if_pos hv];have ev:=Qcn hv;subst ev;exact Qck (hq s.heap ⟨st,new,fr,oe,vs,he,hc,hd,h2,T,oT,ts,h1,nT,hTe,hT,dT,iT⟩ λb o q _=>⟨o.slots,q⟩)
  rw[if_neg hv];refine Qcj (wpAny_setField hT dT (Qae.mp iT).1 ?_);have oth:∀b o,b≠T->s.heap.get? b=some o->(s.heap.update T (Obj.mapFields (·.setIfInBounds 3 Value.none))).get? b=some o:=λb o hb q=>(Qav _ _ (Ne.symm hb)).trans q;have Pb:∀b o,s.heap.get? b=some o->(∀ws,o.data≠.fields ws)->b≠T:=λb o q nb z=>by rw[z,hT] at q;cases q;exact nb ts dT
  refine W8 (s:={ s with heap:=s.heap.update T (Obj.mapFields (·.setIfInBounds 3 Value.none)) }) hfr hf (λb o q=>oth b o (λz=>by rw[z,nT] at q;cases q) (st b o q)) new
   (fr.of_keeps λb o q nb=>⟨o,oth b o (Pb b o q nb) q,rq⟩) (oth e oe (Ne.symm hTe) he) hc hd h2 λh' y u=>hq h' y ?_
  exact λb o q nb=>u b o (oth b o (Pb b o q nb) q) nb
theorem W7 {f:Value} (x:Fl B l e C (some f) s.heap) (hq:∀h',Fl B l e C (some .none) h'->s.heap.UpToSlots h'->Q () { s with heap:=h' }):wpAny M A (setFlight (.ref e) none) Q E s:=by
 obtain⟨st,new,fr,oe,vs,he,hc,hd,h2,T,oT,ts,h1,nT,hTe,hT,dT,iT⟩:=x;have hsz:3 < ts.size:=(Qae.mp iT).1;have oth:∀b o,b≠T->s.heap.get? b=some o->(s.heap.update T (Obj.mapFields (·.setIfInBounds 3 Value.none))).get? b=some o:=λb o hb q=>(Qav _ _ (Ne.symm hb)).trans q;have Pb:∀b o,s.heap.get? b=some o->(∀ws,o.data≠.fields ws)->b≠T:=λb o q nb z=>by rw[z,hT] at q;cases q;exact nb ts dT
 unfold setFlight;refine Qcj (Qch he hd h1 ?_);rw[if_pos (show (Value.ref T != Value.none)=true from by simp)]
 refine wpAny_setField hT dT hsz (hq (s.heap.update T (Obj.mapFields (·.setIfInBounds 3 Value.none))) ⟨λb o q=>oth b o (λz=>by rw[z,nT] at q;cases q) (st b o q),new,fr.of_keeps λb o q nb=>⟨o,oth b o (Pb b o q nb) q,rq⟩,?_⟩
  λb o q nb=>⟨o.slots,oth b o (Pb b o q nb) q⟩)
 have dN:=QaX dT (·.setIfInBounds 3 Value.none);exact⟨oe,vs,oth e oe (Ne.symm hTe) he,hc,hd,h2,T,_,_,h1,nT,hTe,QaA _ hT (Obj.isFreed_of_fields dN),dN,by simp[hsz]⟩
theorem jP {fl:Option Value} (hfl:fl=none\/∃v,fl=some v) (hfr:A.frames=some (env::outer)) (hf:env.frame=some L) (x:Fl B (env::outer) e C fl s.heap)
  (hq:∀h',Fl B outer e C (some .none) h'->s.heap.UpToSlots h'->Q () { s with heap:=h' }):wpAny M A (leaving env (.ref e)) Q E s:=by
 unfold leaving;refine Qcj (TY hfl hfr hf x λh1 y u1=>?_);refine W7 y λh2 z u2=>hq h2 ⟨z.stays,z.new,z.fr.2.2,z.tr⟩ (u1.trans u2)
end
theorem CQ.there {P:Program} {w:World} {H:Hp} {h:Heap} {a:Addr} {o:HO} (x:CQ P w H h a o):∃u,h.get? a=some u:=by
 cases o with
 | lst xs=>obtain⟨_,its,n,_,q⟩:=x;exact⟨_,q⟩
 | tup xs=>obtain⟨_,its,_,ob,q,_⟩:=x;exact⟨_,q⟩
 | dK kvs=>obtain⟨_,_,vs,_,ob,es,ep,q,_⟩:=x;exact⟨_,q⟩
 | dT kvs=>obtain⟨_,_,xs,_,ob,es,ep,q,_⟩:=x;exact⟨_,q⟩
 | set S n=>obtain⟨ob,es,ep,t,q,_⟩:=x;exact⟨_,q⟩
 | ins C dx fs=>obtain⟨_,_,_,q,_⟩:=x;exact⟨_,q⟩
 | own y=>exact x
 | xd fs=>obtain⟨mA,⟨od,es,ep,q,_⟩,_⟩:=x;exact⟨_,q⟩
 | rng lo hi=>obtain⟨t,u,v,q⟩:=x;exact⟨_,q⟩
 | frz ob u=>exact⟨_,x.1⟩
 | tbl ps=>exact⟨_,x⟩
 | met f y=>exact⟨_,x⟩
 | ext φ=>exact x.2.1
structure Exc (P:Program) (w:World) (outer:List Env) (H:Hp) (s:Shared) (e C:Addr) (B:Heap) (H':Hp) (s':Shared):Prop where
 os:s'.os=s.os
 bare:AllBare s'.gens
 fl:∃fl,(fl=none\/∃v,fl=some v)/\Fl B outer e C fl s'.heap
 un:Un (frs outer) [] H H' s.heap s'.heap
 hok:HOk P w H' s'.heap
 tin:∀b o,s'.heap.get? b=some o->H' b≠none->B.get? b=some o
 old:∀b o,s.heap.get? b=some o->H b=none->b∉frs outer->B.get? b=some o
 ex:∀b o,s.heap.get? b=some o->b∉frs outer->∃o',B.get? b=some o'
def CX1 (P:Program) (w:World):CXT:=λouter H s E ev s'=>∃e C B H',ev=.ref e/\Exc P w outer H s e C B H' s'/\E (.ref C) none H'
section
variable {P:Program} {w:World} {outer:List Env} {H H':Hp} {s s':Shared} {e C:Addr} {B h2:Heap} {fl:Option Value}
theorem Exc.aL (x:Exc P w outer H s e C B H' s') (st:B.StaysIn h2):HOk P w H' h2:=λa o q=>
 (x.hok a o q).stay (λb u hb hu=>st b u (x.tin b u hu (by
  rcases hb with rfl | hb
  ·rw[q];exact λz=>nomatch z
  ·rw[hb];exact λz=>nomatch z))) (λ_ z=>z) λ_ _ z=>z
theorem Exc.pX (x:Exc P w outer H s e C B H' s') (f:Fl B outer e C fl h2) (u:s'.heap.UpToSlots h2):Un (frs outer) [] H H' s.heap h2:=by
 refine⟨λb o q n hb _=>f.stays b o (x.old b o q n hb),λb o q n hb hx=>?_,x.un.free,λb o q hx=>?_,x.un.tups,x.un.G6,x.un.HW⟩
 ·obtain⟨sl,q1⟩:=x.un.slot b o q n hb hx;obtain⟨_,_,g⟩:=x.fl;obtain⟨_,o1,q2,nf⟩:=g.fr.mem hb;rw[q1] at q2;cases q2;obtain⟨sl2,q3⟩:=u b _ q1 nf;exact⟨sl2,q3⟩
 ·by_cases hb:b∈frs outer
  ·obtain⟨_,o1,q2,_⟩:=f.fr.mem hb;exact⟨o1,q2⟩
  ·obtain⟨o1,q1⟩:=x.ex b o q hb;exact⟨o1,f.stays b o1 q1⟩
theorem Exc.lg (x:Exc P w outer H s e C B H' s') (st:B.StaysIn h2):∀b o,h2.get? b=some o->H' b≠none->B.get? b=some o:=λb o q hb=>by
 cases hq:H' b with
 | none=>exact absurd hq hb
 | some v=>
  obtain⟨o1,q1⟩:=(x.hok b v hq).there;have q2:=x.tin b o1 q1 hb;have q3:=st b o1 q2;rw[q] at q3;cases q3;exact q2
theorem Exc.free (x:Exc P w outer H s e C B H' s'):H' e=none:=by
 cases hq:H' e with
 | none=>rfl
 | some v=>
  obtain⟨o1,q1⟩:=(x.hok e v hq).there;have q2:=x.tin e o1 q1 (by rw[hq];exact λz=>nomatch z);obtain⟨_,_,g⟩:=x.fl;rw[g.new] at q2;cases q2
theorem Exc.fresh (x:Exc P w outer H s e C B H' s'):s.heap.get? e=none:=by
 cases hq:s.heap.get? e with
 | none=>rfl
 | some o=>
  obtain⟨_,_,g⟩:=x.fl;by_cases hb:e∈frs outer
  ·obtain⟨_,o1,q1,nf⟩:=g.fr.mem hb;obtain⟨oe,vs,q2,_,q3,_⟩:=g.tr;rw[q1] at q2;cases q2;exact absurd q3 (nf vs)
  ·obtain⟨o1,q1⟩:=x.ex e o hq hb;rw[g.new] at q1;cases q1
end
section
variable {X:Cx} {jb:YC} {U : St} {H H':Hp} {s s':Shared} {e C:Addr} {B h2:Heap} {fl:Option Value}
theorem Exc.made {args:YE} {h':Heap} (I:Inv X jb U H s) (hx:Heap.MadeExcOf s.heap h' e (.ref C) args):Exc X.prog X.w X.stack H s e C (hideAll s.heap (frs X.stack)) H { s with heap:=h' }:=by
 have st:(hideAll s.heap (frs X.stack)).StaysIn s.heap:=λb o q=>PySem.W.of_hideAll _ q;refine⟨rq,I.bare,⟨none,.inl rfl,⟨λb o q=>hx.keeps b o (st b o q),?_,?_,?_⟩⟩,Un.kept hx.keeps,I.hok.kept hx.keeps,λb o q hb=>?_,λb o q n hb=>hideAll_get _ q hb,λb o q hb=>⟨o,hideAll_get _ q hb⟩⟩
 ·cases hq:(hideAll s.heap (frs X.stack)).get? e with
  | none=>rfl
  | some o=>
   have q:=st e o hq;rw[hx.new] at q;cases q
 ·have f0:s.heap.FunFrames (hideAll s.heap (frs X.stack)) X.stack:=PySem.W.funFrames_hide I.stack λenv he a ha=>List.mem_filterMap.mpr ⟨env,he,ha⟩;exact f0.of_keeps λb o q _=>⟨o,hx.keeps b o q,rq⟩
 ·obtain⟨t,q,_⟩:=hx.there;exact⟨_,_,q,rq,rq,rq,rq⟩
 ·cases hq:H b with
  | none=>exact absurd hq hb
  | some v=>
   obtain⟨o1,q1⟩:=(I.hok b v hq).there;have q2:=hx.keeps b o1 q1;have q':h'.get? b=some o:=q;rw[q'] at q2;cases q2;refine hideAll_get _ q1 λhm=>?_;rw[I.SM b hm] at hq;cases hq
theorem Exc.leave {M:Model} {E1:YA} {Q:YH} (I:Inv X jb U H s) (hs:X.stack=X.env::X.outer) (hf:X.env.frame=some X.env.locals) (hx:X.ex=[]) (x:Exc X.prog X.w X.stack H s e C B H' s')
  (hq:∀h2,Exc X.prog X.w X.outer X.H₀ X.s₀ e C B H' { s' with heap:=h2 }->Q () { s' with heap:=h2 }):wpAny M X.A (leaving X.env (.ref e)) Q E1 s':=by
 obtain⟨fl,hfl,f⟩:=x.fl;have f':=f;rw[hs] at f';have nl:∀b o,X.s₀.heap.get? b=some o->b≠X.env.locals:=λb o q=>Qcb (QaQ (QbZ q) I.ok.above);have ns:∀b o,X.s₀.heap.get? b=some o->b∉X.fs->b∉frs X.stack:=λb o q hb hm=>(QbP.mp (I.Ox b hm)).elim (nl b o q) hb;have su:∀b,b∈X.fs->b∈frs X.stack:=λb hb=>by
  rw[hs];unfold frs;rw[QaJ,hf];exact QaB _ hb
 have nx:∀b:Addr,b∉X.ex:=λb=>by rw[hx];simp
 refine jP hfl (I.ok.frames.trans (congrArg some hs)) hf f' λh2 g u=>hq h2 ⟨x.os.trans I.os,x.bare,⟨_,.inr ⟨_,rq⟩,g⟩,?_,x.aL g.stays,x.lg g.stays,λb o q n hb=>?_,λb o q hb=>?_⟩
 ·refine⟨λb o q n hb _=>?_,λb o q n hb _=>?_,λb o q n _=>?_,λb o q _=>?_,λb xs q=>x.un.tups b xs (I.base.tups b xs q),λb o v q=>x.un.G6 b o v (I.base.G6 b o v q),λb ps q=>?_⟩
  ·exact g.stays b o (x.old b o (I.base.keep b o q n hb (nx b)) (I.base.free b o q n (nx b)) (ns b o q hb))
  ·obtain⟨sl,q1⟩:=I.base.slot b o q n hb (nx b);obtain⟨sl2,q2⟩:=x.un.slot b _ q1 (I.base.free b o q n (nx b)) (su b hb) (by simp);obtain⟨_,o1,q3,nf⟩:=f.fr.mem (su b hb);rw[q2] at q3;cases q3;obtain⟨sl3,q4⟩:=u b _ q2 nf;exact⟨sl3,q4⟩
  ·obtain⟨o1,q1⟩:=I.base.there b o q (nx b);exact x.un.free b o1 q1 (I.base.free b o q n (nx b)) (by simp)
  ·by_cases hb:b∈X.fs
   ·obtain⟨_,o1,q1,_⟩:=g.fr.mem hb;exact⟨o1,q1⟩
   ·obtain⟨o1,q1⟩:=I.base.there b o q (nx b);obtain⟨o2,q2⟩:=x.ex b o1 q1 (ns b o q hb);exact⟨o2,g.stays b o2 q2⟩
  ·obtain⟨m1,q1⟩:=I.base.HW b ps q;obtain⟨m2,q2⟩:=x.un.HW b _ q1;exact⟨m1++m2,by rw[q2,Array.append_assoc]⟩
 ·exact x.old b o (I.base.keep b o q n hb (nx b)) (I.base.free b o q n (nx b)) (ns b o q hb)
 ·obtain⟨o1,q1⟩:=I.base.there b o q (nx b);exact x.ex b o1 q1 (ns b o q hb)
theorem Exc.caught (I:Inv X jb U H s) (x:Exc X.prog X.w X.stack H s e C B H' s') (f:Fl B X.stack e C fl h2) (u:s'.heap.UpToSlots h2):Inv X jb U (upd H' e (xo e C)) { s' with heap:=h2 }:=by
 have v:=x.pX f u;have he:=x.fresh;have hn:=x.free;have ne:∀b o,s.heap.get? b=some o->b≠e:=λb o q z=>by rw[z,he] at q;cases q
 have un:Un (frs X.stack) [] H (upd H' e (xo e C)) s.heap h2:=⟨v.keep,v.slot,λb o q n hx=>by rw[Bw (ne b o q)];exact v.free b o q n hx,v.there,λb xs q=>by rw[Bw (Cp (v.tups b xs q) hn)];exact v.tups b xs q,
  λb o w q=>by rw[Bw (Cp (v.G6 b o w q) hn)];exact v.G6 b o w q,λb ps q=>by
   obtain⟨m,q1⟩:=v.HW b ps q;exact⟨m,by rw[Bw (Cp q1 hn)];exact q1⟩⟩
 have hok:HOk X.prog X.w (upd H' e (xo e C)) h2:=λb o q=>by
  by_cases hb:b=e
  ·subst hb;rw[Ae] at q;cases q;have at_:=f.tr.at;refine⟨at_,?_,λh1 h3 p k=>?_⟩
   ·obtain⟨oe,vs,q1,_⟩:=at_;exact⟨oe,q1⟩
   ·obtain⟨oe,vs,q1,q2⟩:=p;exact⟨oe,vs,k oe q1,q2⟩
  ·rw[Bw hb] at q;exact (x.aL f.stays b o q).stay (λc w _ q1=>q1) (λc q1=>by rw[Bw (Cp q1 hn)];exact q1) λc xs q1=>by rw[Bw (Cp q1 hn)];exact q1
 exact I.call' (s':={ s' with heap:=h2 }) x.os un hok x.bare λb z=>absurd z (by simp)
end
def KY (X:Cx) (EX:St->XK):Prop:=∀(jb:YC) (U : St) (H:Hp) (s:Shared) (ev:Value) (s':Shared),Inv X jb U H s->CX1 X.prog X.w X.stack H s (EX U) ev s'->X.xe ev s'
theorem iz {P:Program} {w:World} {K:YD} {mg:YB} {base:Heap} {N:YF} {qual:Str} {scope:Scope} {f:Addr} {cd:Value} {A:Around} {outer:List Env} {s:Shared} {H:Hp} {E:XK} :
  KY (Ly (CX1 P w) P w K mg base N qual scope f cd A outer s H E) (λ_=>E):=λjb U H1 s1 ev s' I h=>by
 obtain⟨e,C,B,H',rfl,x,q⟩:=h;exact x.leave I rfl rfl rfl λh2 y=>⟨e,C,B,H',rq,y,q⟩
def qg (C:Addr) (EX:St->XK) (t:TA):TS:=λ_ U H=>t U H λvs H1=>vs.length<=sizeLine/\EX U (.ref C) none H1
theorem QZ {X:Cx} {EX:St->XK} {C:Addr} {x:Str} {np cpos pos:Pos} {e:Expr} {es:YJ} {t:TA} (hc:X.calm=true) (T:XCl X.K C) (hg:Gl X x) (hm:X.mg x=some (.ref C)) (hx:KY X EX) (ha:PA X (e::es) t)
  (hdb:(x == ("__debug__":Str))=false:=by decide) (he:starEach (e::es) X.env=(false,eval e X.env)::starEach es X.env:=by rfl) (hpl:(backTo cpos (starEach es X.env)).any (·.1)=false:=by rfl) :
  PS X (.Raise (some (.Call (.Name x np) (e::es) [] cpos)) none pos) (qg C EX t):=by
 intro jb s U H D I h;obtain⟨bm,N,nm,q,bs,hdct,sn,sub,ab,col,dd,k0,k1,k2,k3,k5,mN,hC,hN,hni,TL⟩:=T.obj I.mod.kin;refine wpAny_Raise_call_subT F.excBase_ValueError (bm:=bm) (nm:=nm) (C:=C) (q:=q) (bs:=bs) (N:=N) (sn:=sn) (hdct:=hdct) (sub:=sub) (col:=col) (ab:=ab) (dd:=dd) (k5:=k5) (k3:=k3) (k2:=k2) (k1:=k1) (k0:=k0) (TL.hasType (by trivial)) (I.ok.hd hc) (by rw[he];show (false || (backTo cpos (starEach es X.env)).any (·.1))=false;rw[hpl];rfl) hni (K3 I hg hm ⟨rfl,?_⟩ hdb);have h2:=ha cpos jb s U H _ I h;rw[he] at h2 ⊢;refine Calls.evalArgs_plain (thn h2 λus s2 zz=>?_);obtain⟨vs,H2,I2,r,hl,hE⟩:=zz;refine⟨rq,?_⟩;refine⟨by rw[<-r.length];exact hl,I2.bk _ _ hC,hN.keeps I2.bk,TL.keeps I2.bk,λh' ea mx=>?_⟩;exact hx jb U H2 s2 (.ref ea) { s2 with heap:=h' } I2 ⟨ea,C,_,H2,rq,Exc.made I2 mx,hE⟩
structure HS (P:Program) (w:World) (K:YD) (mg:YB) (base:Heap) (x:Str) (k:Nat) (ps:YF) (sp:Sp):Prop where
 ex:∃(f:Addr) (fd:FuncData),mg x=some (.ref f)/\keepIn K (.ref f)=true/\Binds K fd ps []/\Jw P w K mg base (CX1 P w) k f fd ps sp
theorem Code.RZ {P:Program} {w:World} {K:YD} {mg:YB} {base:Heap} {x:Str} {st:Stmt} {ps N:YF} {k:Nat} {sp:Sp} (C:Code K mg x st ps) (S:Bo N ps (Ar st)) (len:∀vs H Q E,sp vs H Q E->vs.length=ps.length)
  (hbody:∀(X:Cx) (f:Addr) (cdv:Value) (A:Around) (outer:List Env) (s:Shared) (H:Hp) (vs:YG) (Q:VK) (E:XK),X=Ly (CX1 P w) P w K mg base N x (Ar st) f cdv A outer s H E->KY X (λ_=>E)->DK k X.A->sp vs H Q E ->
   ∃t,PSs X (Ei st) t/\t { nx:=λ_ H'=>Q .non H',rt:=Q } (start N vs) H):HS P w K mg base x (k+1) ps sp:=by
 obtain⟨f,fd,F,m,b⟩:=C.ex;refine⟨f,fd,m,F.kp,b,?_⟩;obtain⟨oc,od,kV,doc,pm,an,cdv,ct,osl,rfl,lk,hcd⟩:=F.ex;exact mz lk hcd S len λA outer s H vs Q E hr hsp=>hbody _ f cdv A outer s H vs Q E rfl iz hr hsp
def qm (sp:Sp) (EX:St->XK) (t:TA):TE:=fun U H Q=>t U H λvs H1=>sp vs H1 Q (EX U)
theorem Le {X:Cx} {EX:St->XK} {k k':Nat} {ps:YF} {sp:Sp} {x:Str} {p pos:Pos} {e:Expr} {es:YJ} {t:TA} (g:HS X.prog X.w X.K X.mg X.base x k ps sp) (hr:DK k' X.A) (hx:KY X EX) (ha:PA X (e::es) t) (hk:k<=k':=by decide)
  (hg:Gl X x:=by rfl) (hdb:(x == ("__debug__":Str))=false:=by decide) (he:starEach (e::es) X.env=(false,eval e X.env)::starEach es X.env:=by rfl) (hpl:(backTo pos (starEach es X.env)).any (·.1)=false:=by rfl) :
  PE X (.Call (.Name x p) (e::es) [] pos) (qm sp EX t):=by
 intro jb s U H Q I h;obtain⟨f,fd,m,kp,b,F⟩:=g.ex;refine QaW (K3 I hg m ?_ hdb);refine PySem.W.callWith_K (h₀:=X.base) I.ok.mod.kin kp (thn (ha pos jb s U H _ I h) λus s1 zz=>?_) he hpl;obtain⟨vs,H1,I1,r,q⟩:=zz;refine⟨I1.kIn,?_⟩;have hl:us.length=ps.length:=by rw[<-r.length];exact F.len _ _ _ _ q
 have bd:=b s1 us I1.kIn (by rw[QbB];exact hl);rw[QbB] at bd;refine wpAny_call (codeAny_mono (F.run X.A X.stack s1 H1 ⟨us,[]⟩ us vs Q (EX U) (hr.mono hk) I1.env0 bd r q) λrr s' hq=>?_);cases rr with
 | error ev=>exact hx jb U H1 s1 ev s' I1 hq
 | ok fl=>
  cases fl with
  | ret u=>exact I1.after hq
  | next=>exact False.elim hq
  | brk=>exact False.elim hq
  | cont=>exact False.elim hq
section
variable {M:Model} {A:Around} {E:YA} {h:Heap} {g:Array GenState} {d:Drawn} {t:Nat} {os:OsState} {K:YD} {e C HC:Addr}
theorem pH {Q:Bool->Shared->Prop} (X:K.In h) (TH:XCl K HC) (hs:subIn K (.ref C) (.ref HC)=some true) (x:XAt e C h) (hq:Q true ⟨h,g,d,t,os⟩):wpAny M A (excMatches (.ref e) (.ref HC)) Q E ⟨h,g,d,t,os⟩:=by
 obtain⟨oe,vs,he,hc,_⟩:=x;obtain⟨dd,cd,sl,ho⟩:=TH.look;have hH:=X _ _ ho;have f1:=looks_subIn (M:=M) X TH.mb;have f2:=looks_subIn (M:=M) X hs;have f3:=tc_notTuple;unfold excMatches
 repeat (first | (with_reducible refine Qbi he ?_;rw[hc]) | with_reducible refine Qbi hH ?_ | with_reducible refine f1.at ?_ | with_reducible refine f2.at ?_ | wp_step)
 exact hq
end
abbrev Cx.by (X:Cx) (pn:YC) (E:YA):Cx:={ X with pn:=pn,xe:=E }
abbrev Cx.suite (X:Cx) (pn:YC) (ev:Value):Cx:={ X with pn:=pn,xe:=λ_ _=>False,A:=X.A.mark (some ev),calm:=false }
section
variable {X:Cx} {jb FT pn:YC} {U : St} {H:Hp} {s:Shared} {E:YA} {ev:Value}
theorem Inv.by (I:Inv X jb U H s) (E:YA):Inv (X.by (X.pn++jb) E) [] U H s:=
 ⟨⟨I.ok.mod,I.ok.kind,I.ok.glob,I.ok.blt,I.ok.above,I.ok.inj,I.ok.has,I.ok.cab,I.ok.hd,I.ok.frames,I.ok.stk,I.ok.exf,I.ok.bs,I.ok.bsz,I.ok.JK,I.ok.IV,I.ok.Gg,I.ok.frf⟩,I.os,I.bare,I.base,I.loc,I.cell,I.free,I.Fo,
  λp hp=>I.pin p (by simpa using hp),I.hok,I.len⟩
theorem Inv.Nq (I:Inv (X.by (X.pn++jb) E) FT U H s):Inv X jb U H s:=
 ⟨⟨I.ok.mod,I.ok.kind,I.ok.glob,I.ok.blt,I.ok.above,I.ok.inj,I.ok.has,I.ok.cab,I.ok.hd,I.ok.frames,I.ok.stk,I.ok.exf,I.ok.bs,I.ok.bsz,I.ok.JK,I.ok.IV,I.ok.Gg,I.ok.frf⟩,I.os,I.bare,I.base,I.loc,I.cell,I.free,I.Fo,
  λp hp=>I.pin p (QaD _ hp),I.hok,I.len⟩
theorem Inv.suite (I:Inv (X.by pn E) FT U H s) (ev:Value):Inv (X.suite pn ev) FT U H s:=
 ⟨⟨I.ok.mod,I.ok.kind,I.ok.glob,I.ok.blt,I.ok.above,I.ok.inj,I.ok.has,I.ok.cab,(λz=>nomatch z),I.ok.frames,I.ok.stk,I.ok.exf,I.ok.bs,I.ok.bsz,I.ok.JK,I.ok.IV,I.ok.Gg,I.ok.frf⟩,I.os,I.bare,I.base,I.loc,I.cell,I.free,I.Fo,
  I.pin,I.hok,I.len⟩
theorem Inv.PN (hd:X.calm=true->X.A.handled=none) (I:Inv (X.suite (X.pn++jb) ev) FT U H s):Inv X jb U H s:=
 ⟨⟨I.ok.mod,I.ok.kind,I.ok.glob,I.ok.blt,I.ok.above,I.ok.inj,I.ok.has,I.ok.cab,hd,I.ok.frames,I.ok.stk,I.ok.exf,I.ok.bs,I.ok.bsz,I.ok.JK,I.ok.IV,I.ok.Gg,I.ok.frf⟩,I.os,I.bare,I.base,I.loc,I.cell,I.free,I.Fo,
  λp hp=>I.pin p (QaD _ hp),I.hok,I.len⟩
theorem SP.Nq {D:Ends} {f:Flow} (h:SP (X.by (X.pn++jb) E) FT D f s):SP X jb D f s:=by
 cases f with
 | next=>obtain⟨σ',H',I,q⟩:=h;exact⟨σ',H',I.Nq,q⟩
 | brk=>obtain⟨σ',H',I,q⟩:=h;exact⟨σ',H',I.Nq,q⟩
 | cont=>obtain⟨σ',H',I,q⟩:=h;exact⟨σ',H',I.Nq,q⟩
 | ret u=>obtain⟨v,σ',H',I,r,q⟩:=h;exact⟨v,σ',H',I.Nq,r,q⟩
theorem Qp {M:Model} {A:Around} {E1:YA} {i:Nat} {n:Str} {pos:Pos} {Q:YH} (I:Inv X jb U H s) (hN:X.N.Nodup) (hi:X.N[i]?=some n) (hl:X.env.scope.names.lookup n=some .local)
  (hq:∀s',Inv X jb (U.set i none) H s'->Q () s'):wpAny M A (do bindName X.env n .none;unbindBehindTheSuite X.env n pos) Q E1 s:=by
 obtain⟨m,hn,hm⟩:=id I.loc;have hcls:(X.env.scope.kind == .class || (X.env.scope.kind == .module&&X.env.locals != X.env.globals))=false:=by rw[I.ok.kind];rfl
 refine wpAny_nameGoes_keeps hl hn hcls λh' v nsv sb=>?_;have hiσ : i < U.length:=by rw[I.len];exact (Qaj.mp hi).1
 obtain⟨oL,_,_,hoL,_⟩:=id hn;have below:∀b o,X.s₀.heap.get? b=some o->b≠X.env.locals:=λb o q=>Qcb (QaQ (QbZ q) I.ok.above);refine hq _ ⟨I.ok,I.os,I.bare,⟨λb o q nn hb hx=>?_,λb o q nn hb hx=>?_,I.base.free,λb o q hx=>?_,I.base.tups,I.base.G6,I.base.HW⟩,⟨_,nsv,λj y w e1 e2 e3=>?_⟩,λy c q=>?_,I.free,I.Fo,λp hp=>?_,λb ob q=>?_,?_⟩
 ·exact (sb.2 b (below b o q)).trans (I.base.keep b o q nn hb hx)
 ·obtain⟨sl,q1⟩:=I.base.slot b o q nn hb hx;exact⟨sl,(sb.2 b (below b o q)).trans q1⟩
 ·obtain⟨o',q1⟩:=I.base.there b o q hx;exact⟨o',(sb.2 b (below b o q)).trans q1⟩
 ·by_cases hj:j=i
  ·subst hj;rw[List.getElem?_set_self hiσ] at e2;cases e2
  ·rw[List.getElem?_set_ne (Ne.symm hj)] at e2;obtain⟨u,r,q⟩:=hm j y w e1 e2 e3;refine⟨u,r,?_⟩;rcases q with⟨k,q⟩|⟨k,c,q,z⟩
   ·have ny:y≠n:=λz=>hj (Q6 hN e1 (z ▸ hi));exact .inl ⟨k,by simp[ny,q]⟩
   ·exact .inr ⟨k,c,q,z.sameBut sb (I.cne y c q)⟩
 ·obtain⟨u,z⟩:=I.cell y c q;exact⟨u,z.sameBut sb (I.cne y c q)⟩
 ·obtain⟨q,nn,ne,nf,dd⟩:=I.pin p hp;exact⟨(sb.2 p.1 ne).trans q,nn,ne,nf,dd⟩
 ·refine (I.hok b ob q).stay (λc u hc q1=>(sb.2 c ?_).trans q1) (λ_ z=>z) λ_ _ z=>z;rintro rfl;rcases hc with rfl | hc
  ·rw[I.free] at q;cases q
  ·rw[I.free] at hc;cases hc
 ·rw[List.length_set];exact I.len
end
def Ends.drop (D:Ends) (i:Nat):Ends where
 nx:=fun U H=>D.nx (U.set i none) H
 rt:=D.rt
 bk:=fun U H=>D.bk (U.set i none) H
 ct:=fun U H=>D.ct (U.set i none) H
def aP (K:YD) (HC:Addr) (i:Nat) (th:Addr->TS) (D:Ends):St->XK:=fun U cls _ H=>∃C,cls=.ref C/\XCl K C/\subIn K (.ref C) (.ref HC)=some true/\∀e,H e=none->th e (D.drop i) (U.set i (some (.ref e))) (upd H e (xo e C))
def vV (K:YD) (HC:Addr) (i:Nat) (tb:(St->XK)->TS) (th:Addr->TS):TS:=λD U H=>tb (aP K HC i th D) D U H
theorem cH {X:Cx} {HC:Addr} {i:Nat} {n x:Str} {tb:(St->XK)->TS} {th:Addr->TS} {body suite:List Stmt} {b₀ : Stmt} {np hpos pos:Pos} (hN:X.N.Nodup) (hi:X.N[i]?=some n) (hl:X.env.scope.names.lookup n=some .local) (hst:X.stack=X.env::X.outer)
  (hf:X.env.frame=some X.env.locals) (hg:Gl X x) (hm:X.mg x=some (.ref HC)) (TH:XCl X.K HC)
  (h1:∀pn E1 EX,KY (X.by pn E1) EX->PSs (X.by pn E1) body (tb EX)) (h2:∀pn (e:Addr),PSs (X.suite pn (.ref e)) (b₀::suite) (th e)) (hdb:(x == ("__debug__":Str))=false:=by decide) :
  PS X (.Try body [.ExceptHandler (some (.Name x np)) (some n) (b₀::suite) hpos] [] [] pos) (vV X.K HC i tb th):=by
 intro jb s U H D I h;have hfr:X.A.frames=some (X.env::X.outer):=I.ok.frames.trans (congrArg some hst);let E1:YA:=λev s''=>∃(FT:YC) (σ':St) (H':Hp) (s':Shared),Inv (X.by (X.pn++jb) λ_ _=>False) FT σ' H' s'/\CX1 X.prog X.w X.stack H' s' (aP X.K HC i th D σ') ev s'';have hp:KY (X.by (X.pn++jb) E1) (aP X.K HC i th D):=λFT σ' H' s' ev s'' I' c=>⟨FT,σ',H',s',⟨⟨I'.ok.mod,I'.ok.kind,I'.ok.glob,I'.ok.blt,I'.ok.above,I'.ok.inj,I'.ok.has,I'.ok.cab,I'.ok.hd,I'.ok.frames,I'.ok.stk,I'.ok.exf,I'.ok.bs,I'.ok.bsz,I'.ok.JK,I'.ok.IV,I'.ok.Gg,I'.ok.frf⟩,I'.os,I'.bare,I'.base,I'.loc,I'.cell,I'.free,I'.Fo,I'.pin,I'.hok,I'.len⟩,c⟩;refine wpAny_Try_except (Qcl (h1 _ E1 _ hp [] s U H D (I.by E1) h) (λf s1 q=>?_) λev s1 q=>?_)
 ·cases f with
  | next=>exact wpAny_execs_nil q.Nq
  | brk=>exact q.Nq
  | cont=>exact q.Nq
  | ret u=>exact q.Nq
 ·obtain⟨FT,σ',H',s',I',e,C,B,H2,rfl,x1,D1,hC,T,hs,hth⟩:=q;cases hC;obtain⟨fl,hfl,f0⟩:=x1.fl;rw[hst] at f0;refine TY hfl hfr hf f0 λha fa ua=>?_;refine W7 fa λhb fb ub=>?_;have fb':Fl B X.stack e C (some .none) hb:=by rw[hst];exact fb
  have J:=Exc.caught I' x1 fb' (ua.trans ub);have JS:=J.suite (Value.ref e);refine wpAny_handleBy_cons (codeAny_handlers_test (K3 JS hg hm ?_ hdb)) (by intro q;cases q);refine pH JS.kIn TH hs fb.tr.at (codeAny_handlers_suite_as ?_);refine W7 fb λhc fc uc=>?_;have fc':Fl B X.stack e C (some .none) hc:=by rw[hst];exact fc
  have J2:=(Exc.caught I' x1 fc' ((ua.trans ub).trans uc)).suite (Value.ref e);refine Hh (X:=X.suite (X.pn++jb) (.ref e)) (v:=.ref e) (i:=i) J2 hN hi (.inl hl) rfl (λs4 J4=>?_) (.inr hl);refine Qcl (h2 _ _ FT s4 _ _ (D.drop i) J4 (hth e x1.free)) (λf s5 q=>?_) λ_ _ z=>z.elim;cases f with
  | next=>
   obtain⟨σ5,H5,I5,q5⟩:=q;exact Qp (I5.PN I.ok.hd) hN hi hl λs6 I6=>⟨_,_,I6,q5⟩
  | brk=>
   obtain⟨σ5,H5,I5,q5⟩:=q;exact Qp (I5.PN I.ok.hd) hN hi hl λs6 I6=>⟨_,_,I6,q5⟩
  | cont=>
   obtain⟨σ5,H5,I5,q5⟩:=q;exact Qp (I5.PN I.ok.hd) hN hi hl λs6 I6=>⟨_,_,I6,q5⟩
  | ret u=>
   obtain⟨v5,σ5,H5,I5,r5,q5⟩:=q;exact Qp (I5.PN I.ok.hd) hN hi hl λs6 I6=>⟨v5,_,_,I6,r5,q5⟩
structure JZ (k:Nat) (A:Around):Prop where
 dp:A.depth+3*k+5 < recursionLimit
 un:A.units+16*k+200 < cLine
theorem DK.inH {k:Nat} {A:Around} (r:DK k A) (h:Option Value):JZ k (A.mark h):=⟨r.dp,r.un⟩
theorem JZ.deeper {k:Nat} {A:Around} (r:JZ (k+1) A) (env:Env):JZ k (A.deeper env):=
 ⟨by have:=r.dp;show A.depth+1+3*k+5 < _;omega,by have:=r.un;show A.units+3+16*k+200 < _;omega⟩
theorem JZ.mono {j k:Nat} {A:Around} (r:JZ k A) (h:j<=k):JZ j A:=⟨by have:=r.dp;omega,by have:=r.un;omega⟩
structure Sw (P:Program) (w:World) (K:YD) (mg:YB) (base:Heap) (x:Str) (k:Nat) (ps:YF) (sp:Sp):Prop where
 ex:∃(f:Addr) (fd:FuncData),mg x=some (.ref f)/\keepIn K (.ref f)=true/\Binds K fd ps []/\(∀vs H Q E,sp vs H Q E->vs.length=ps.length) /\
  ∀(A:Around) (outer:List Env) (s:Shared) (H:Hp) (args:Args) (us:YE) (vs:YG) (Q:VK),JZ k A->Om P w K mg base A outer s H->BindsTo s fd args (ps.zip us)->Vals vs us->sp vs H Q E0 ->
   codeAny (model P w) A (.call (.ref f) args) (CR CX0 outer P w H s Q E0) s
abbrev cxH (P:Program) (w:World) (K:YD) (mg:YB) (base:Heap) (N:YF) (qual:Str) (scope:Scope) (f:Addr) (cd:Value) (A:Around) (outer:List Env) (s:Shared) (H:Hp):Cx:=
 { Ly CX0 P w K mg base N qual scope f cd A outer s H E0 with calm:=false,xe:=λ_ _=>False }
theorem Code.vm {P:Program} {w:World} {K:YD} {mg:YB} {base:Heap} {x:Str} {st:Stmt} {ps N:YF} {k:Nat} {sp:Sp} (C:Code K mg x st ps) (S:Bo N ps (Ar st)) (len:∀vs H Q E,sp vs H Q E->vs.length=ps.length)
  (hbody:∀(f:Addr) (cdv:Value) (A:Around) (outer:List Env) (s:Shared) (H:Hp) (vs:YG) (Q:VK),JZ k (A.deeper (envOfC x (Ar st) s.heap.objs.size f cdv))->sp vs H Q E0 ->
   ∃t,PSs (cxH P w K mg base N x (Ar st) f cdv A outer s H) (Ei st) t/\t { nx:=λ_ H'=>Q .non H',rt:=Q } (start N vs) H):Sw P w K mg base x (k+1) ps sp:=by
 obtain⟨f,fd,F,m,b⟩:=C.ex;refine⟨f,fd,m,F.kp,b,len,λA outer s H args us vs Q hr e0 hb r hsp=>?_⟩;obtain⟨oc,od,kV,doc,pm,an,cdv,ct,osl,rfl,lk,hcd⟩:=F.ex;have hlen:=len _ _ _ _ hsp;have KX:K.In s.heap:=e0.mod.kin.keeps λb o q=>(e0.bs b o q).1;have lim:s.heap.NoLimit:=e0.mod.nolimit.keeps λb o q=>(e0.bs b o q).1;have hkind:∀y∈ps.zip us,(Ar st).names.lookup y.1=some .local\/((Ar st).names.lookup y.1=some .cell/\((cellsFrom (s.heap.objs.size+1) (Ar st).names []).lookup y.1).isSome=true):=λ⟨n,v⟩ hy=>by
  rcases S.par n (List.of_mem_zip hy).1 with q | q
  ·exact .inl q
  ·exact .inr ⟨q,PySem.W.cellsFrom_some _ _ _ (.inl q)⟩
 refine codeAny_call_function (by have:=hr.dp;omega) (KX _ _ lk) rfl S.co S.gen rfl (PySem.W.codeRec_of KX hcd) (hb _ _ _ _ ?_);refine wpAny_newFunctionEnv_cells S.kind hkind λenv he s1 ic=>?_;subst he;refine⟨lim.keeps ic.toInCall.keep,codeAny_func ?_⟩;obtain⟨t,ht,hq⟩:=hbody f cdv A outer s H vs Q (hr.deeper _) hsp;have e1:Om P w K mg base { A with handled:=none } outer s H:=⟨e0.frames,e0.mod,e0.bs,e0.bsz,e0.Gg,e0.frf,e0.hok,e0.bare⟩;have I0:Inv (Ly CX0 P w K mg base N x (Ar st) f cdv { A with handled:=none } outer s H E0) [] (start N vs) H s1:=Us S rfl e1 hlen r ic;have I:Inv (cxH P w K mg base N x (Ar st) f cdv A outer s H) [] (start N vs) H s1:=
  ⟨⟨I0.ok.mod,I0.ok.kind,I0.ok.glob,I0.ok.blt,I0.ok.above,I0.ok.inj,I0.ok.has,I0.ok.cab,(λz=>nomatch z),Around.frames_deeper e0.frames,I0.ok.stk,I0.ok.exf,I0.ok.bs,I0.ok.bsz,I0.ok.JK,I0.ok.IV,I0.ok.Gg,I0.ok.frf⟩,I0.os,I0.bare,I0.base,I0.loc,I0.cell,I0.free,I0.Fo,
   I0.pin,I0.hok,I0.len⟩
 refine Qcl (ht [] s1 (start N vs) H _ I hq) (λfl s' hs=>?_) λe s' z=>z.elim;have fin:∀{σ':St} {H':Hp} {v:V} {u:Value},Inv (cxH P w K mg base N x (Ar st) f cdv A outer s H) [] σ' H' s'->RelV v u->Q v H'->CE outer P w H s Q u s':=λ{σ' H' v u} J rv q=>⟨v,H',J.os,J.bare,J.base,J.hok,rv,q⟩;cases fl with
 | ret u=>
  obtain⟨v,σ',H',J,rv,q⟩:=hs;exact fin J rv q
 | next=>
  obtain⟨σ',H',J,q⟩:=hs;exact fin (v:=V.non) (u:=Value.none) J rfl q
 | brk=>obtain⟨_,_,_,q⟩:=hs;exact False.elim q
 | cont=>obtain⟨_,_,_,q⟩:=hs;exact False.elim q
theorem cN {X:Cx} {k k':Nat} {ps:YF} {sp:Sp} {x:Str} {p pos:Pos} {e:Expr} {es:YJ} {t:TA} (g:Sw X.prog X.w X.K X.mg X.base x k ps sp) (hr:JZ k' X.A) (ha:PA X (e::es) t) (hk:k<=k':=by decide)
  (hg:Gl X x:=by rfl) (hdb:(x == ("__debug__":Str))=false:=by decide) (he:starEach (e::es) X.env=(false,eval e X.env)::starEach es X.env:=by rfl) (hpl:(backTo pos (starEach es X.env)).any (·.1)=false:=by rfl) :
  PE X (.Call (.Name x p) (e::es) [] pos) (ZC sp [] E0 t):=by
 intro jb s U H Q I h;obtain⟨f,fd,m,kp,b,len,run⟩:=g.ex;refine QaW (K3 I hg m ?_ hdb);refine PySem.W.callWith_K (h₀:=X.base) I.ok.mod.kin kp (thn (ha pos jb s U H _ I h) λus s1 zz=>?_) he hpl;obtain⟨vs,H1,I1,r,q⟩:=zz;refine⟨I1.kIn,?_⟩;have q:sp (vs++[]) H1 Q E0:=q;rw[QbB] at q;have hl:us.length=ps.length:=by rw[<-r.length];exact len _ _ _ _ q
 have bd:=b s1 us I1.kIn (by rw[QbB];exact hl);rw[QbB] at bd;refine wpAny_call (codeAny_mono (run X.A X.stack s1 H1 ⟨us,[]⟩ us vs Q (hr.mono hk) I1.env0 bd r q) λrr s' hq=>?_);cases rr with
 | error ev=>exact False.elim hq
 | ok fl=>
  cases fl with
  | ret u=>exact I1.after hq
  | next=>exact False.elim hq
  | brk=>exact False.elim hq
  | cont=>exact False.elim hq
@[irreducible] def ZR (K:YD):YG->Hp->VK->Prop:=λxs H Q=>∃a D C b,xs=[.ref a,.ref D]/\H a=some (xo a C)/\XCl K C/\kitOne K (.ref C) (.ref D)=some b/\Q (.bl b) H
theorem Ej {X:Cx}:Ew X (.builtin "isinstance") (ZR X.K):=by
 intro jb s U H xs us Q I r h;unfold ZR at h;obtain⟨a,D,C,b,rfl,ea,T,k,q⟩:=h;obtain⟨u,w',rfl,rx,rt⟩:=vals2 r;cases rx;cases rt;exact RV I T ea k λtk=>⟨.bl b,H,I.tok tk,rq,q⟩
@[irreducible] def Vr (K:YD):YG->Hp->VK->Prop:=λxs H Q=>∃a T C b,xs=[.ref a,.ty T]/\H a=some (xo a C)/\XCl K C/\kitOne K (.ref C) (.type T)=some b/\Q (.bl b) H
theorem fP {X:Cx}:Ew X (.builtin "isinstance") (Vr X.K):=by
 intro jb s U H xs us Q I r h;unfold Vr at h;obtain⟨a,T,C,b,rfl,ea,TC,k,q⟩:=h;obtain⟨u,w',rfl,rx,rt⟩:=vals2 r;cases rx;cases rt;exact RV I TC ea k λtk=>⟨.bl b,H,I.tok tk,rq,q⟩
end L2
namespace L2
open PySem PySem.Spec PyProof.Rows PySem.SeqAt
theorem BJ {c:Const} {k:Nat} {p:Pos} {es:YJ} {env:Env}:starEach (.Constant c k p::es) env=(false,eval (.Constant c k p) env)::starEach es env:=by rfl
theorem qw {as:YJ} {k:Nat} {p:Pos} {es:YJ} {env:Env}:starEach (.Tuple as k p::es) env=(false,eval (.Tuple as k p) env)::starEach es env:=by rfl
def isT:Value->Bool
 | .bool b=>b
 | _=>false
theorem Xp:∀{bs:List Bool} {us:YE},Vals (bs.map V.bl) us->us=bs.map Value.bool
 | [],_,.nil=>rfl
 | b::bs,_,.cons r t=>by
  cases (show _=Value.bool b from r)
  rw[Xp t];rfl
section
variable {X:Cx}
@[irreducible] def Qf:V->YG->Hp->VK->Prop:=λx xs H Q=>∃(l:Addr) (bs:List Bool),x=.ref l/\xs=[.bl true]/\H l=some (.lst (bs.map V.bl))/\Q (.int ((bs.countP id:Nat):Int)) H
theorem eqT {A:Around} {s:Shared} {bs:List Bool}:∀y,y∈(bs.map Value.bool).toArray->EqAt A s y (.bool true) (isT y):=λy hy=>by
 have hy':y∈bs.map Value.bool:=by simpa using hy
 obtain⟨b,_,rfl⟩:=Qcc.mp hy';have:=EqAt.bool_bool (A:=A) (s:=s) b true;rw[show (b == true)=isT (.bool b) by cases b <;> rfl] at this;exact this
theorem fB {l:Addr} {bs:List Bool} {H:Hp} {Q:VK} (h:H l=some (.lst (bs.map V.bl))) (q:Q (.int ((bs.countP id:Nat):Int)) H):Qf (.ref l) [.bl true] H Q:=by
 unfold Qf;exact⟨l,bs,rq,rq,h,q⟩
theorem cZ:MtM X "list.count" Qf:=by
 intro jb s U H x vs v us Q I rx rv h;unfold Qf at h;obtain⟨l,bs,rfl,rfl,hH,q⟩:=h;cases rx;obtain⟨u,rfl,ru⟩:=rv.one;cases (show _=Value.bool true from ru)
 obtain⟨z,its,n,r,hl,e⟩:=I.Q8 hH;have hi:=Xp r;subst hi;refine call_meets F.slot_list_count ⟨_,e,rq⟩ F.entry_list_count (F.args_list_count_2 _ _) (list_countAt l (bs.map Value.bool).toArray n none #[] (.bool true) isT) ⟨e,eqT,?_⟩;refine⟨.int ((bs.countP id:Nat):Int),H,I.tok _,⟨s.toks,?_⟩,q⟩;have hc:(bs.map Value.bool).countP isT=bs.countP id:=by
  rw[List.countP_map];congr 1
 simp only[hc]
@[irreducible] def Qe:V->YG->Hp->VK->Prop:=λx xs H Q=>∃(l:Addr) (bs:List Bool) (j:Nat),x=.ref l/\xs=[.bl true]/\H l=some (.lst (bs.map V.bl))/\j<=1000/\bs[j]?=some true/\(∀m,m < j->bs[m]?=some false)/\Q (.int (j:Int)) H
theorem dW {l:Addr} {bs:List Bool} {j:Nat} {H:Hp} {Q:VK} (h:H l=some (.lst (bs.map V.bl))) (h1:j<=1000) (h2:bs[j]?=some true) (h3:∀m,m < j->bs[m]?=some false) (q:Q (.int (j:Int)) H):Qe (.ref l) [.bl true] H Q:=by
 unfold Qe;exact⟨l,bs,j,rq,rq,h,h1,h2,h3,q⟩
theorem cY:MtM X "list.index" Qe:=by
 intro jb s U H x vs v us Q I rx rv h;unfold Qe at h;obtain⟨l,bs,j,rfl,rfl,hH,hj1,hj,hno,q⟩:=h;cases rx;obtain⟨u,rfl,ru⟩:=rv.one;cases (show _=Value.bool true from ru)
 obtain⟨z,its,n,r,hl,e⟩:=I.Q8 hH;have hi:=Xp r;subst hi;have hjl:j < bs.length:=(Qaj.mp hj).1;have hj2:j < (bs.map Value.bool).toArray.size:=by simpa using hjl
 have hit:isT ((bs.map Value.bool).toArray[j]'hj2)=true:=by
  have h1:bs[j]=true:=(Qaj.mp hj).2;simp[h1,isT]
 have hn:∀m (hm:m < (bs.map Value.bool).toArray.size),m < j->isT (bs.map Value.bool).toArray[m]=false:=λm hm hmj=>by
  have h1:=(Qaj.mp (hno m hmj)).2;simp[h1,isT]
 refine call_meets F.slot_list_index ⟨_,e,rq⟩ F.entry_list_index (F.args_list_index_2 _ _) (list_indexAt l (bs.map Value.bool).toArray n none #[] (.bool true) isT j hj2 (Int.lt_of_le_of_lt (b:=1000) (by omega) (by trivial)) hit hn) ⟨e,eqT,?_⟩;exact⟨.int (j:Int),H,I.tok _,⟨_,rq⟩,q⟩
end
theorem Gu {K:YD} {a D C:Addr} {b:Bool} {H:Hp} {Q:VK} (h:H a=some (xo a C)) (T:XCl K C) (k:kitOne K (.ref C) (.ref D)=some b) (q:Q (.bl b) H):ZR K [.ref a,.ref D] H Q:=by
 unfold ZR;exact⟨a,D,C,b,rq,h,T,k,q⟩
theorem oM {K:YD} {a C:Addr} {T:String} {b:Bool} {H:Hp} {Q:VK} (h:H a=some (xo a C)) (TC:XCl K C) (k:kitOne K (.ref C) (.type T)=some b) (q:Q (.bl b) H):Vr K [.ref a,.ty T] H Q:=by
 unfold Vr;exact⟨a,T,C,b,rq,h,TC,k,q⟩
section
variable {prog:Program} {w:World} {A:Around} {E:YA} {s:Shared}
end
end L2
namespace L2
open PySem PySem.Spec PyProof.Rows
section
variable {X:Cx} {jb:YC} {U : St} {H:Hp} {s:Shared} {a:Addr} {kvs:YM} {o:Obj}
end
section
variable {a l:Addr} {o:Obj} {kvs:YM} {g:TG} {tb:TS} {D:Ends} {U : St} {H:Hp} {tt:TT} {te tk tv:TE} {Q:VK}
end
open PySem.W (KasT kas_asc kas_desc kas_rev kas_tail3 kas_descPart kas_count kas_place kas_bin kas_sort)
def Pm (n:Nat) (p:Array Nat):Prop:=p.toList.Perm (List.range n)
section
variable {n:Nat} (n0:0 < n)
include n0
end
section
variable {prog:Program} {w:World} {A:Around} {E:YA} {s:Shared}
end
end L2
namespace L2
open PySem PySem.Spec PyProof.Rows
open PySem.W (KasT kas_asc kas_desc kas_rev kas_tail3 kas_descPart kas_count kas_place kas_bin kas_sort)
section
variable {n:Nat} {ky:Nat->Int}
theorem Pm.size {p:Array Nat} (h:Pm n p):p.size=n:=by
 have:=List.Perm.length_eq h;simpa using this
end
section
variable {prog:Program} {w:World} {A:Around} {s:Shared}
end
end L2
namespace L2
open PySem PySem.Spec PyProof.Rows
theorem DK.bF {k:Nat} {A:Around} (r:DK k A):A.units+66 < cLine:=by have:=r.un;omega
section
variable {X:Cx} {K:YD}
end
end L2
namespace PySem
open Sem (wp)
open AutoSeq1 (wpAny_loadPart')
section
variable {prog:Program} {w:World} {A:Around} {E:YA} {s:Shared}
end
end PySem
namespace L2
open PySem PySem.Spec PyProof.Rows
section
variable {X:Cx}
end
section
variable {X:Cx}
end
section
variable {X:Cx}
end
theorem Vh (elt t1 i1 t2 i2:Expr) (scope:Scope) (pos:Pos) (it acc:Value) (env:Env) :
  compTurn (.ListComp elt [⟨t1,i1,[],0⟩,⟨t2,i2,[],0⟩] scope pos) 0 it acc env=(do
   standAt i1.pos
   match <-pyNext it with
   | none=>pure (.done .next)
   | some v=>
    letOwnedTupleGo t1 it v
    assign t1 env v
    let x <-eval i2 env
    standAt i2.pos
    let x <-foldedSetIterable i2 env x;let _ <-runOwn (.compStart (.ListComp elt [⟨t1,i1,[],0⟩,⟨t2,i2,[],0⟩] scope pos) 1 (<-holding [x] (pyIter x)) acc env) env
    again (.compLoop (.ListComp elt [⟨t1,i1,[],0⟩,⟨t2,i2,[],0⟩] scope pos) 0 it acc env)):=by rfl
theorem Xg (elt t1 i1 t2 i2:Expr) (scope:Scope) (pos:Pos) (it acc:Value) (env:Env) :
  compTurn (.ListComp elt [⟨t1,i1,[],0⟩,⟨t2,i2,[],0⟩] scope pos) 1 it acc env=(do
   standAt i2.pos
   match <-pyNext it with
   | none=>pure (.done .next)
   | some v=>
    letOwnedTupleGo t2 it v
    assign t2 env v
    (do let _ <-call (.builtin "list.append") [acc,<-eval elt env])
    again (.compLoop (.ListComp elt [⟨t1,i1,[],0⟩,⟨t2,i2,[],0⟩] scope pos) 1 it acc env)):=by rfl
section
variable {prog:Program} {w:World} {A:Around} {R:Result->Shared->Prop} {s:Shared} {elt t1 i1 t2 i2:Expr} {scope:Scope} {pos:Pos} {it acc:Value} {env:Env}
theorem Pq
  (h0:codeAny (model prog w) A (.compLoop (.ListComp elt [⟨t1,i1,[],0⟩,⟨t2,i2,[],0⟩] scope pos) 1 it acc env) R s)
  (h:wpAny (model prog w) A (pyIter it) (λit' s'=>codeAny (model prog w) A (.compLoop (.ListComp elt [⟨t1,i1,[],0⟩,⟨t2,i2,[],0⟩] scope pos) 1 it' acc env) R s')
   (notedBy (model prog w) A env λx s'=>R (.error x) s') s) :
  codeAny (model prog w) A (.compStart (.ListComp elt [⟨t1,i1,[],0⟩,⟨t2,i2,[],0⟩] scope pos) 1 it acc env) R s:=by
 refine codeAny_of_tree ?_;show wpAny _ _ ((compStart (.ListComp elt [⟨t1,i1,[],0⟩,⟨t2,i2,[],0⟩] scope pos) 1 it acc env).onRaise (λx=>do noteFrame x env;standAt theWindowsPlace)) _ _ s
 refine wpAny_notedAt ?_;unfold compStart;show wpAny _ _ (ask >>= _) _ _ s;refine Qcj (wpAny_askSetting (wpAny_ite ?_));split
 ·first
   | exact Qcj (Qck (Qck (And.intro rfl h0)))
   | exact Qck (And.intro rfl h0)
 ·first
   | exact Qcj (wpAny_rule (Qcj (QbV (Qcj (Qcl h (λit' s' h'=>Qck (And.intro rfl h')) λ_ _ x=>x)))))
   | (refine Qcj (wpAny_rule ?_);show wpAny _ _ (standAt i2.pos >>= _) _ _ s;exact Qcj (QbV (Qcj (Qcl h (λit' s' h'=>Qck (And.intro rfl h')) λ_ _ x=>x))))
theorem Vi (J:Nat->Shared->Prop)
  (turn:∀n s,J n s->wpAny (model prog w) A (pyNext it) (λr s1=>match r with
   | none=>R (.ok .next) s1
   | some v=>wpAny (model prog w) A (letOwnedTupleGo t2 it v) (λ_ s2=>wpAny (model prog w) A (assign t2 env v) (λ_ s3=>
     wpAny (model prog w) A (eval elt env) (λx s5=>wpAny (model prog w) A (call (.builtin "list.append") [acc,x]) (λ_ s6=>∃m,m < n/\J m s6) (λ_ _=>False) s5) (λ_ _=>False) s3) (λ_ _=>False) s2) (λ_ _=>False) s1) (λ_ _=>False) s)
  (n:Nat) (h:J n s):codeAny (model prog w) A (.compLoop (.ListComp elt [⟨t1,i1,[],0⟩,⟨t2,i2,[],0⟩] scope pos) 1 it acc env) R s:=by
 refine codeAny_loop rfl J (λk s' hk=>?_) n h;show wpAny _ A (Sem.onRaise (compTurn (.ListComp elt [⟨t1,i1,[],0⟩,⟨t2,i2,[],0⟩] scope pos) 1 it acc env) (λx=>do noteFrame x env;theTreesLotGoes x)) _ _ s'
 refine wpAny_noted ?_;rw[Xg];refine Qcj (QbV (Qcj (Qcl (turn k s' hk) (λr s1 q1=>?_) λ_ _ f=>f.elim)));cases r with
 | none=>exact Qck q1
 | some v=>
  refine Qcj (Qcl q1 (λ_ s2 q2=>Qcj (Qcl q2 (λ_ s3 q3=>?_) λ_ _ f=>f.elim)) λ_ _ f=>f.elim);exact Qcj (Qcj (Qcl q3 (λx s5 q5=>Qcj (Qcl q5 (λ_ s6 q6=>Qck (Qck ⟨rq,q6⟩)) λ_ _ f=>f.elim)) λ_ _ f=>f.elim))
theorem aU (hs2:∀x,foldedSetIterable i2 env x=pure x) (J:Nat->Shared->Prop)
  (turn:∀n s,J n s->wpAny (model prog w) A (pyNext it) (λr s1=>match r with
   | none=>R (.ok .next) s1
   | some v=>wpAny (model prog w) A (letOwnedTupleGo t1 it v) (λ_ s2=>wpAny (model prog w) A (assign t1 env v) (λ_ s3=>
     wpAny (model prog w) A (eval i2 env) (λx s4=>wpAny (model prog w) A (pyIter x) (λjt s5=>codeAny (model prog w) A (.compStart (.ListComp elt [⟨t1,i1,[],0⟩,⟨t2,i2,[],0⟩] scope pos) 1 jt acc env) (λr s6=>match r with | .ok _=>∃m,m < n/\J m s6 | .error _=>False) s5) (λ_ _=>False) s4) (λ_ _=>False) s3) (λ_ _=>False) s2) (λ_ _=>False) s1) (λ_ _=>False) s)
  (n:Nat) (h:J n s):codeAny (model prog w) A (.compLoop (.ListComp elt [⟨t1,i1,[],0⟩,⟨t2,i2,[],0⟩] scope pos) 0 it acc env) R s:=by
 refine codeAny_loop rfl J (λk s' hk=>?_) n h;show wpAny _ A (Sem.onRaise (compTurn (.ListComp elt [⟨t1,i1,[],0⟩,⟨t2,i2,[],0⟩] scope pos) 0 it acc env) (λx=>do noteFrame x env;theTreesLotGoes x)) _ _ s'
 refine wpAny_noted ?_;rw[Vh];refine Qcj (QbV (Qcj (Qcl (turn k s' hk) (λr s1 q1=>?_) λ_ _ f=>f.elim)));cases r with
 | none=>exact Qck q1
 | some v=>
  refine Qcj (Qcl q1 (λ_ s2 q2=>Qcj (Qcl q2 (λ_ s3 q3=>?_) λ_ _ f=>f.elim)) λ_ _ f=>f.elim);refine Qcj (Qcl q3 (λx s4 q4=>Qcj (QbV (Qcj (wpAny_of_eq (hs2 x) (Qcj (wpAny_holding (Qcl q4 (λjt s5 q5=>?_) λ_ _ f=>f.elim))))))) λ_ _ f=>f.elim);refine Qcj (wpAny_runOwn (codeAny_mono q5 λr s6 q6=>?_));cases r with
  | ok f=>exact Qck ⟨rfl,q6⟩
  | error e=>exact q6.elim
end
def CIn (J:It) (g:TG) (te:TE) (l:Addr) (N:YO) (σ0:St) (H0:Hp):Prop:=∃W:Nat->YN,(∃m,W 0 m σ0 H0) /\
 ∀i m σ' H',W i m σ' H'->(J.stop i H'/\N σ' H')\/(J.go i H'/\∃N2:YO,(∀ σ3 H3,N2 σ3 H3->∃m',m' < m/\W (i+1) m' σ3 H3)/\∀x H2,J.yld i H' x H2->g x σ' H2 fun σ3 H3=>
  te σ3 H3 λy H5=>∃xs,H5 l=some (.lst xs)/\xs.length < sizeLine/\N2 σ3 (upd H5 l (.lst (xs++[y]))))
@[irreducible] def Sy (J:It) (g:TG) (wi2:TI) (g2:TG) (te:TE) (Q:VK) (σ0:St) (H0:Hp) (l:Addr):Prop:=∃W:Nat->YN,(∃m,W 0 m σ0 H0) /\
 ∀i m σ' H',W i m σ' H'->(J.stop i H'/\Q (.ref l) H')\/(J.go i H'/\∃N:YO,(∀ σ3 H3,N σ3 H3->∃m',m' < m/\W (i+1) m' σ3 H3)/\∀x H2,J.yld i H' x H2->g x σ' H2 fun σ3 H3=>wi2 σ3 H3 λJ2 H4=>CIn J2 g2 te l N σ3 H4)
def bM (wi:TI) (src:List (Option Nat)) (g:TG) (wi2:TI) (g2:TG) (te:TE):TE:=fun U H Q=>wi U H λJ H1=>∀l,H1 l=none->Sy J g wi2 g2 te Q (Jk src U) (upd H1 l (.lst [])) l
theorem jY {Y:Cx} (hE:∀v s,Y.xe v s->False) (hc:Y.calm=true) {elt t1 i1 t2 i2:Expr} {sc:Scope} {pos:Pos} {l it:Addr} {fp:List Addr} {tn:Nat->Heap->Prop} {J:It} {g:TG} {te:TE} {N:YO} {jb:YC} {U : St} {H:Hp} {s:Shared}
  (T:Turn Y.prog Y.w Y.K t2 J fp it tn) (hg:PG Y t2 g) (he:PE Y elt te) (I:Inv Y jb U H s) (st:tn 0 s.heap) (f:∀b∈fp,Gh Y jb H b) (w:CIn J g te l N U H) :
  codeAny (model Y.prog Y.w) Y.A (.compStart (.ListComp elt [⟨t1,i1,[],0⟩,⟨t2,i2,[],0⟩] sc pos) 1 (.ref it) (.ref l) Y.env) (λr s'=>match r with | .ok _=>∃ σ' H',Inv Y jb σ' H' s'/\N σ' H' | .error _=>False) s:=by
 obtain⟨W,⟨m0,w0⟩,turn⟩:=w;have loop:codeAny (model Y.prog Y.w) Y.A (.compLoop (.ListComp elt [⟨t1,i1,[],0⟩,⟨t2,i2,[],0⟩] sc pos) 1 (.ref it) (.ref l) Y.env) (λr s'=>match r with | .ok _=>∃ σ' H',Inv Y jb σ' H' s'/\N σ' H' | .error _=>False) s:=by
  refine Vi (λn s'=>∃i σ' H',Inv Y jb σ' H' s'/\tn i s'.heap/\(∀b∈fp,H' b=none)/\W i n σ' H') ?_ m0 ⟨0,U,H,I,st,λb hb=>(f b hb).1,w0⟩;rintro n s3 ⟨i,σ3,H3,I3,st3,fr3,w3⟩;have stat:∀{H':Hp},(∀b∈fp,H' b=none)->∀b∈fp,Gh Y jb H' b:=λhn b hb=>⟨hn b hb,(f b hb).2⟩;rcases turn i n σ3 H3 w3 with⟨stop,qn⟩|⟨go,N2,hN,step⟩
  ·refine thn (T.done Y rfl rfl rfl hc i jb s3 σ3 H3 _ I3 (stat fr3) st3 stop) λr s4 zz=>?_;obtain⟨hr,I4⟩:=zz;subst hr;exact⟨σ3,H3,I4,qn⟩
  ·refine thn (T.item Y rfl rfl rfl hc i jb s3 σ3 H3 _ I3 (stat fr3) st3 go) λr s4 zz=>?_;obtain⟨u,hr,h4⟩:=zz;subst hr;refine thn h4 λ_ s5 zz=>?_;obtain⟨x,H5,I5,r5,y5,st5,fr5⟩:=zz;have I5':=I5.pinned (stat fr5) (T.obj _ _ st5);have again:∀{σ7:St} {H7:Hp} {s7:Shared},Inv Y (jb++Kg fp s5.heap) σ7 H7 s7->N2 σ7 H7->∃m,m < n/\∃i σ' H',Inv Y jb σ' H' s7/\tn i s7.heap/\(∀b∈fp,H' b=none)/\W i m σ' H':=λ{σ7 H7 s7} I7 n7=>by
    obtain⟨m',hm,w7⟩:=hN σ7 H7 n7;refine⟨m',hm,i+1,σ7,H7,I7.Gx,T.keep _ _ _ st5 λb hb o e=>(I7.pin (b,o) (Qax _ (Qax _ (GF hb e)))).1,λb hb=>?_,w7⟩;obtain⟨o,e,d⟩:=T.obj _ _ st5 b hb;exact (I7.pin (b,o) (Qax _ (Qax _ (GF hb e)))).2.1
   refine Qcl (hg _ s5 σ3 H5 x u _ I5' r5 (step x H5 y5)) (λ_ s6 zz=>?_) λv s h=>(hE v s h).elim;obtain⟨σ6,H6,I6,q6⟩:=zz;refine Qcl (he _ s6 σ6 H6 _ I6 q6) (λy s9 zz=>?_) λv s h=>(hE v s h).elim;obtain⟨yv,H9,J9,r9,xs,hl9,hz9,q9⟩:=zz;refine Qcl (En _ s9 σ6 H9 (.ref l) [yv] (.ref l) [y] (λ_ H'=>N2 σ6 H') J9 rfl (.cons r9 .nil) ⟨_,xs,yv,rq,rq,hl9,hz9,q9⟩) (λ_ s10 zz=>?_) λv s h=>(hE v s h).elim;obtain⟨_,H10,J10,_,q10⟩:=zz;exact again J10 q10
 exact Pq loop (T.self Y.A 0 _ _ _ st loop)
theorem aW {X:Cx} {N':YF} {src:List (Option Nat)} {sc:Scope} {elt tg iter t2 i2:Expr} {pos pos':Pos} {wi wi2:TI} {g g2:TG} {te:TE} {use:Option (Value->Sem Unit)} {R:YA} (hc:X.calm=true) (S:CZ X N' src sc)
  (hi:PI X tg iter wi) (hg:∀s3 H3 fp pn,PG (cxC X N' sc s3 H3 fp pn) tg g) (hi2:∀s3 H3 fp pn,PI (cxC X N' sc s3 H3 fp pn) t2 i2 wi2) (hg2:∀s3 H3 fp pn,PG (cxC X N' sc s3 H3 fp pn) t2 g2) (he:∀s3 H3 fp pn,PE (cxC X N' sc s3 H3 fp pn) elt te)
  (hs:∀x,foldedSetIterable iter X.env x=pure x) (hs2:∀s3 H3 fp pn x,foldedSetIterable i2 (cxC X N' sc s3 H3 fp pn).env x=pure x) {jb:YC} {s:Shared} {U : St} {H:Hp} {Q:VK} (I:Inv X jb U H s) (h:bM wi src g wi2 g2 te U H Q)
  (fin:∀s3 H3 fp σ4 H4 s5 l,Inv X jb U H3 s3->(∀b∈fp,Gh X jb H3 b)->Inv (cxC X N' sc s3 H3 fp (X.pn++jb)) [] σ4 H4 s5->Q (.ref l) H4 ->
   compPost (model X.prog X.w) X.A X.xe use R (.ref l) s3.heap.objs.size (.ok .next) s5) :
  wpAny (model X.prog X.w) X.A (comprehension (.ListComp elt [⟨tg,iter,[],0⟩,⟨t2,i2,[],0⟩] sc pos) sc X.env pos' (newList []) false (eval iter X.env) use) R X.xe s:=by
 refine wpAny_comprehension_free (use:=use) (cl:=Ep X.env sc.names []) rfl hs (Og λp hp e=>I.ok.has p.1 (S.fv p hp e)) S.kind S.loc ?_;refine thn (hi jb s U H _ I h) λv s1 h1=>thn h1 λitv s2 h2=>?_;obtain⟨it,fp,tn,J,H2,rfl,I2,T,st2,f2,q⟩:=h2;have q':=q s2.heap.objs.size (I2.hok.fresh (Qcf _));unfold Sy at q';obtain⟨W,⟨m0,w0⟩,turn⟩:=q';refine Qbg (wpAny_newFunctionEnv S.Gq (by intro y hy;simp at hy) (λha hns hsb=>?_) S.kind);have I3:Inv X jb U (upd H2 s2.heap.objs.size (.lst [])) { s2 with heap:=s2.heap.push { cls:=.type "list",dict:=none,data:=.seq ([]:YE).toArray } }:=
  I2.laid (t':=s2.toks) (λb u e=>Qat _ e) (Qcf _) ⟨Qcg _,[],0,.nil,QaF _ rfl⟩
 have hfl:∀b∈fp,b < s2.heap.objs.size:=λb hb=>by
  obtain⟨o,e,_⟩:=T.obj 0 _ st2 b hb;exact QbZ e
 have f3:∀b∈fp,Gh X jb (upd H2 s2.heap.objs.size (.lst [])) b:=λb hb=>⟨by rw[Bw (Qcb (hfl b hb))];exact (f2 b hb).1,(f2 b hb).2⟩;generalize hs3:({ s2 with heap:=s2.heap.push { cls:=.type "list",dict:=none,data:=.seq ([]:YE).toArray } }:Shared)=s3 at *;have hsz:s2.heap.objs.size < s3.heap.objs.size:=by rw[<-hs3];show s2.heap.objs.size < (s2.heap.push _).objs.size;rw[QbO];exact Nat.lt_succ_self _
 have kp:∀b o,s3.heap.get? b=some o->ha.get? b=some o:=λb o e=>hsb.extBut b o (Qcb (QbZ e)) (Qat _ e);have st3:tn 0 ha:=T.keep 0 _ _ st2 λb hb o e=>kp b o (by rw[<-hs3];exact Qat _ e);have I4:Inv (cxC X N' sc s3 (upd H2 s2.heap.objs.size (.lst [])) fp (X.pn++jb)) [] (Jk src U) (upd H2 s2.heap.objs.size (.lst [])) { s3 with heap:=ha,toks:=s3.toks+([]:List (Str×Value)).length }:=
  Ri S I3 f3 (λb hb=>Nat.lt_trans (hfl b hb) hsz) hns kp
 have loop:codeAny (model X.prog X.w) X.A (.compLoop (.ListComp elt [⟨tg,iter,[],0⟩,⟨t2,i2,[],0⟩] sc pos) 0 (.ref it) (.ref s2.heap.objs.size) (compEnvC sc (Ep X.env sc.names []) s3.heap.objs.size X.env))
   (compPost (model X.prog X.w) X.A X.xe use R (.ref s2.heap.objs.size) s3.heap.objs.size) { s3 with heap:=ha,toks:=s3.toks+([]:List (Str×Value)).length }:=by
  refine aU (hs2 s3 (upd H2 s2.heap.objs.size (.lst [])) fp (X.pn++jb)) (λn s'=>∃i σ' H',Inv (cxC X N' sc s3 (upd H2 s2.heap.objs.size (.lst [])) fp (X.pn++jb)) [] σ' H' s'/\tn i s'.heap/\(∀b∈fp,H' b=none)/\W i n σ' H') ?_ m0 ⟨0,_,_,I4,st3,λb hb=>(f3 b hb).1,w0⟩;rintro n s4 ⟨i,σ4,H4,J4,st4,fr4,w4⟩;have stat:∀{H':Hp},(∀b∈fp,H' b=none)->∀b∈fp,Gh (cxC X N' sc s3 (upd H2 s2.heap.objs.size (.lst [])) fp (X.pn++jb)) [] H' b:=λhn b hb=>
   ⟨hn b hb,(I4.ok.exf b hb).1,I4.ok.IV b hb,.inl hb,λx c e=>(I4.ok.exf b hb).2 x c e,λp hp=>(f3 b hb).2.2.2.2.2 p ((Qby.mp hp).elim id λz=>by cases z)⟩
  rcases turn i n σ4 H4 w4 with⟨stop,qn⟩|⟨go,N,hN,step⟩
  ·refine thn (T.done (cxC X N' sc s3 (upd H2 s2.heap.objs.size (.lst [])) fp (X.pn++jb)) rfl rfl rfl hc i [] s4 σ4 H4 _ J4 (stat fr4) st4 stop) λr s5 zz=>?_;obtain⟨hr,J5⟩:=zz;subst hr;exact fin s3 _ fp σ4 H4 s5 _ I3 f3 J5 qn
  ·refine thn (T.item (cxC X N' sc s3 (upd H2 s2.heap.objs.size (.lst [])) fp (X.pn++jb)) rfl rfl rfl hc i [] s4 σ4 H4 _ J4 (stat fr4) st4 go) λr s5 zz=>?_;obtain⟨u,hr,h5⟩:=zz;subst hr;refine thn h5 λ_ s6 zz=>?_;obtain⟨x,H6,J6,r6,y6,st6,fr6⟩:=zz;have J6':=J6.pinned (stat fr6) (T.obj _ _ st6);have back:∀{σ7:St} {H7:Hp} {s7:Shared},Inv (cxC X N' sc s3 (upd H2 s2.heap.objs.size (.lst [])) fp (X.pn++jb)) ([]++Kg fp s6.heap) σ7 H7 s7->N σ7 H7 ->
     ∃m',m' < n/\∃i σ' H',Inv (cxC X N' sc s3 (upd H2 s2.heap.objs.size (.lst [])) fp (X.pn++jb)) [] σ' H' s7/\tn i s7.heap/\(∀b∈fp,H' b=none)/\W i m' σ' H':=λ{σ7 H7 s7} J7 w7=>by
    obtain⟨m',hm,w7⟩:=hN _ _ w7;have pinned:∀b∈fp,∀o,s6.heap.get? b=some o->s7.heap.get? b=some o/\H7 b=none:=λb hb o e=>by
     have:=J7.pin (b,o) (Qax _ (Qax _ (GF hb e)));exact⟨this.1,this.2.1⟩
    refine⟨m',hm,i+1,σ7,H7,J7.Gx,T.keep _ _ _ st6 λb hb o e=>(pinned b hb o e).1,λb hb=>?_,w7⟩;obtain⟨o,e,_⟩:=T.obj _ _ st6 b hb;exact (pinned b hb o e).2
   refine thn (hg s3 _ fp _ _ s6 σ4 H6 x u _ J6' r6 (step x H6 y6)) λ_ s7 zz=>?_;obtain⟨σ7,H7,J7,q7⟩:=zz;refine thn (hi2 s3 _ fp _ _ s7 σ7 H7 _ J7 q7) λv s8 q8=>thn q8 λjt s9 q9=>?_;obtain⟨it2,fp2,tn2,J2,H9,rfl,I9,T2,st9,f9,q9⟩:=q9;refine codeAny_mono (jY (Y:=cxC X N' sc s3 (upd H2 s2.heap.objs.size (.lst [])) fp (X.pn++jb)) (λ_ _ h=>h) hc T2 (hg2 s3 _ fp _) (he s3 _ fp _) I9 st9 f9 q9) λr s10 q10=>?_;cases r with
   | ok f=>obtain⟨σ',H',I',n'⟩:=q10;exact back I' n'
   | error e=>exact q10
 exact codeAny_compStart_list loop (T.self X.A 0 _ _ _ st3 loop)
def Jq (z:Str) (n:Int):Str:=⟨(List.replicate n.toNat z.cps.toList).flatten.toArray⟩
theorem Uv:∀(k:Nat) (a b:Array Nat),(List.replicate k a).foldl (·++·) b=b++(List.replicate k a.toList).flatten.toArray
 | 0,a,b=>by simp
 | k+1,a,b=>by
  rw[QaK,List.foldl_cons,Uv k a (b++a),QaK,Qbd];apply Array.toList_inj.mp;simp
theorem Wi (z:Str) (n:Int):(Jq z n).cps.size=z.cps.size*n.toNat:=by
 unfold Jq;rw[Qbc,List.length_flatten,List.map_replicate,List.sum_replicate_nat,QaH,Nat.mul_comm]
theorem RJ {X:Cx}:OpR X (binaryOp .Mult) (λx y H Q=>∃z n,x=.str z/\y=.int n/\n<=1000000/\-1000000<=n/\z.length*n.toNat<=1000000/\Q (.str (Jq z n)) H):=by
 intro jb s U H x y v u Q I rx ry h;obtain⟨z,n,rfl,rfl,h1,h2,hz,q⟩:=h;obtain⟨t,rfl⟩:=rx;obtain⟨t',rfl⟩:=ry;refine PySem.P.mul_str ?_ (λg1 g2=>?_) (λg1 g2=>?_) ?_
 ·rw[Bool.or_eq_false_iff];exact⟨Qbv (by omega),Qbv (by omega)⟩
 ·have hn:0 < n:=by omega
  have hl:z.length<=1000000:=by
   refine Qca ?_ hz;exact Nat.le_mul_of_pos_right _ (by omega)
  have:(1000000:Int)<=(2 ^ 63 - 1) / n:=by
   rw[Int.le_ediv_iff_mul_le hn];omega
  omega
 ·refine Qbv ?_;have:(1000000:Nat)<=sizeLine:=by decide
  omega
 ·by_cases g1:n < 1
  ·rw[if_pos g1];have:Jq z n=Str.empty:=by
    unfold Jq;rw[show n.toNat=0 by omega];rfl
   rw[this] at q;exact⟨Qcg _,.str Str.empty,H,I.tok _,⟨_,rq⟩,q⟩
  ·rw[if_neg g1];by_cases g2:(n == 1 || z.length == 0)=true
   ·rw[if_pos g2];have:Jq z n=z:=by
     unfold Jq;rw[QbJ] at g2;rcases g2 with g2 | g2
     ·have:n=1:=by simpa using g2
      subst this;show (⟨([z.cps.toList].flatten).toArray⟩ : Str)=z;simp
     ·have g3:z.length=0:=by simpa using g2
      have g4:z.cps.toList=[]:=by
       apply List.eq_nil_of_length_eq_zero;rw[QaH];exact g3
      have g5:z=⟨#[]⟩:=by
       cases z with
       | mk c=>
        congr 1;exact Array.toList_inj.mp g4
      rw[g4,g5];simp
    rw[this] at q;exact⟨.str z,H,I,⟨_,rq⟩,q⟩
   ·rw[if_neg g2];have e:(⟨(List.replicate n.toNat z.cps).foldl (·++·) #[]⟩ : Str)=Jq z n:=by
     unfold Jq;rw[Uv];simp
    rw[e];refine⟨?_,.str (Jq z n),H,I.tok _,⟨_,rq⟩,q⟩;show (Jq z n).cps.size<=sizeLine;rw[Wi];have:(1000000:Nat)<=sizeLine:=by decide
    have hz':z.cps.size*n.toNat<=1000000:=hz;omega
end L2
namespace L2
open PySem
theorem Rq {a b:Expr} {op:Operator} {p:Pos} {es:YJ} {env:Env}:starEach (.BinOp a op b p::es) env=(false,eval (.BinOp a op b p) env)::starEach es env:=by rfl
theorem Dt {x:Str} {p:Pos} {es:YJ} {env:Env}:starEach (.Name x p::es) env=(false,eval (.Name x p) env)::starEach es env:=by rfl
theorem bR {as:YJ} {p:Pos} {es:YJ} {env:Env}:starEach (.List as p::es) env=(false,eval (.List as p) env)::starEach es env:=by rfl
end L2
namespace L2
open PySem PySem.Spec PyProof.Rows
def KD (K:YD) (P:Params) (a:Addr):Prop:=(∃es n,K.lookup a=some ⟨.type "dict",none,.dict es n,#[]⟩/\PySem.W.KeysLit P es.toList)/\(a == sysModules)=false
section
variable {X:Cx}
end
open PySem.W (KasT kas_asc kas_desc kas_rev kas_tail3 kas_descPart kas_count kas_place kas_bin kas_sort)
section
variable {prog:Program} {w:World} {A:Around} {s:Shared}
end
end L2
namespace L2
open PySem PySem.Spec PyProof.Rows
theorem Rk (xs:Array Nat) (j:Nat) (up:xs.toList.Pairwise (· < ·)):∀(f lo hi:Nat),hi - lo<=f->lo<=hi->hi<=xs.size->(∀i v,xs[i]?=some v->i < lo->v < j)->(∀i v,xs[i]?=some v->hi<=i->j<=v) ->
  ∃r,SetTable.below.go xs j f lo hi=r/\r<=xs.size/\(∀i v,xs[i]?=some v->i < r->v < j)/\(∀i v,xs[i]?=some v->r<=i->j<=v)
 | 0,lo,hi,h1,h2,h3,h4,h5=>⟨lo,rfl,by omega,h4,λi v e h=>h5 i v e (by omega)⟩
 | f+1,lo,hi,h1,h2,h3,h4,h5=>by
  unfold SetTable.below.go;by_cases c:lo < hi
  ·rw[if_pos c];dsimp only;have hm:(lo+hi) / 2 < xs.size:=by omega
   have em:xs[(lo+hi) / 2]?=some xs[(lo+hi) / 2]:=Qal hm;have eg:xs.getD ((lo+hi) / 2) j=xs[(lo+hi) / 2]:=by simp[Array.getD,hm]
   have mono:∀(a b:Nat) (u v:Nat),xs[a]?=some u->xs[b]?=some v->a < b->u < v:=λa b u v ea eb l=>by
    rw[<-Qay] at ea eb;obtain⟨ha,rfl⟩:=Qaj.mp ea;obtain⟨hb,rfl⟩:=Qaj.mp eb;exact List.pairwise_iff_getElem.mp up a b ha hb l
   rw[eg];by_cases d:xs[(lo+hi) / 2] < j
   ·rw[if_pos d];refine Rk xs j up f _ hi (by omega) (by omega) h3 (λi v e l=>?_) h5;by_cases q:i=(lo+hi) / 2
    ·subst q;rw[em] at e;cases e;exact d
    ·exact Nat.lt_trans (mono i _ v _ e em (by omega)) d
   ·rw[if_neg d];refine Rk xs j up f lo _ (by omega) (by omega) (by omega) h4 (λi v e l=>?_);by_cases q:i=(lo+hi) / 2
    ·subst q;rw[em] at e;cases e;exact Nat.le_of_not_lt d
    ·exact Qca (Nat.le_of_not_lt d) (Nat.le_of_lt (mono _ i _ v em e (by omega)))
  ·rw[if_neg c];exact⟨lo,rq,by omega,h4,λi v e h=>h5 i v e (by omega)⟩
theorem below_at {xs:Array Nat} {j:Nat} (up:xs.toList.Pairwise (· < ·)):SetTable.below xs j<=xs.size/\(∀i v,xs[i]?=some v->i < SetTable.below xs j->v < j)/\(∀i v,xs[i]?=some v->SetTable.below xs j<=i->j<=v):=by
 obtain⟨r,e,h⟩:=Rk xs j up xs.size 0 xs.size (by omega) (by omega) (Qcf _) (λi v _ h=>absurd h (Nat.not_lt_zero _)) (λi v e h=>absurd (Qae.mp e).1 (by omega));have e':SetTable.below xs j=r:=e;rw[e'];exact h
def TOk (b:Bool) (t:SetTable):Prop:=t.led=b/\t.dummies=#[]/\(t.plain=true->t.place.toList.Pairwise (· < ·))
theorem TOk.stand {b:Bool} {t:SetTable} (h:TOk b t) (n:Nat):TOk b (t.standIn n):=⟨h.1,rfl,λz=>by cases z⟩
theorem TOk.off {b:Bool} {t:SetTable} (h:TOk b t):TOk b { t with plain:=false }:=⟨h.1,h.2.1,λz=>by cases z⟩
theorem RD {t:SetTable} {b:Bool} (h:TOk b t) (ha:Nat->Int) (x:Int):∀(f:Nat) (p:SetTable.Probe),p.dummy=none->∀j d,SetTable.probe.go t ha x f p=some (.empty j d)->d=none/\t.slot j=.empty
 | 0,p,_,j,d,e=>by simp[SetTable.probe.go] at e
 | f+1,p,pd,j,d,e=>by
  unfold SetTable.probe.go at e;have adv:∀q:SetTable.Probe,q.dummy=none->(t.advance q).dummy=none:=λq hq=>by unfold SetTable.advance;split <;> exact hq
  split at e
  ·rename_i hs;cases e;exact⟨pd,hs⟩
  ·rename_i hs;exfalso;unfold SetTable.slot at hs;dsimp only at hs;rw[h.2.1] at hs;split at hs
   ·cases hs
   ·split at hs
    ·rename_i hh;simp[SetTable.has] at hh
    ·cases hs
  ·split at e
   ·cases e
   ·exact RD h ha x f _ (adv p pd) j d e
theorem dU {xs:Array Nat} {j:Nat} (up:xs.toList.Pairwise (· < ·)) (ne:xs[SetTable.below xs j]?≠some j):(SetTable.insertAt xs (SetTable.below xs j) j).toList.Pairwise (· < ·):=by
 obtain⟨h1,h2,h3⟩:=below_at (j:=j) up;rw[SetTable.toList_insertAt];refine List.pairwise_append.mpr ⟨up.sublist (List.take_sublist _ _),List.pairwise_cons.mpr ⟨λv hv=>?_,up.sublist (List.drop_sublist _ _)⟩,λu hu v hv=>?_⟩
 ·obtain⟨i,hi⟩:=List.getElem?_of_mem hv;rw[List.getElem?_drop,Qay] at hi;have q:=h3 _ v hi (Nat.le_add_right _ _);by_cases c:j=v
  ·subst c;by_cases z:i=0
   ·subst z;exact absurd hi ne
   ·exfalso;have hl:SetTable.below xs j < xs.size:=by have:=(Qae.mp hi).1;omega
    have e0:xs[SetTable.below xs j]?=some xs[SetTable.below xs j]:=Qal hl;have q0:=h3 _ _ e0 (Qcf _);rw[<-Qay] at e0 hi;obtain⟨a1,a2⟩:=Qaj.mp e0;obtain⟨b1,b2⟩:=Qaj.mp hi;have:=List.pairwise_iff_getElem.mp up _ _ a1 b1 (by omega);omega
  ·omega
 ·obtain⟨i,hi⟩:=List.getElem?_of_mem hu;have hil:i < SetTable.below xs j:=by
   have:=(Qaj.mp hi).1;rw[Qbn] at this;omega
  rw[List.getElem?_take_of_lt hil,Qay] at hi;have uj:=h2 i u hi hil;rcases QbP.mp hv with rfl | hv
  ·exact uj
  ·obtain⟨k,hk⟩:=List.getElem?_of_mem hv;rw[List.getElem?_drop,Qay] at hk;exact QaQ uj (h3 _ v hk (Nat.le_add_right _ _))
theorem TOk.cF {b:Bool} {t:SetTable} (h:TOk b t) {j:Nat} (e:t.slot j=.empty):TOk b (t.put j).1:=by
 refine⟨h.1,?_,λpl=>?_⟩
 ·show (if SetTable.has t.dummies j=true then SetTable.eraseAt t.dummies (SetTable.below t.dummies j) else t.dummies)=#[]
  rw[h.2.1];have:SetTable.has (#[]:Array Nat) j=false:=by simp[SetTable.has]
  rw[this];rfl
 ·refine dU (h.2.2 pl) λz=>?_;unfold SetTable.slot at e;dsimp only at e;rw[z] at e;simp at e
theorem TOk.lay {b:Bool} {t:SetTable} (h:TOk b t) (es:Array (Int×Value)) (k:Int) (x:Value):TOk b (layNew t es k x).2.1:=by
 unfold layNew;split
 ·rename_i slot wd hf;dsimp only;have key:t.slot slot=.empty:=by
   unfold SetTable.freeSlot at hf;split at hf
   ·rename_i j d hp;obtain⟨rfl,hs⟩:=RD h _ _ _ _ rfl j d hp;cases hf;exact hs
   ·cases hf
  unfold SetTable.orStandIn;split
  ·exact h.cF key
  ·exact (h.cF key).stand _
 ·exact h.stand _
section
variable {prog:Program} {w:World} {KT:Type} [DecidableEq KT] (kn:KeyKind prog w KT)
def SetT (b:Bool) (h:Heap) (a:Addr) (S:KT->Bool) (n:Nat):Prop:=
 ∃ob es ep t,(h.get? a=some ob/\ob.ExactSet/\ob.data=.set es ep t)/\(ElemsOf kn es.toList/\∀k,S k=true ↔ ∃e∈es.toList,kn.is k e.2=true)/\(es.size < scanBound/\t.fits es.size=true/\es.size=n)/\TOk b t
variable {kn}
variable {A:Around} {E:YA} {s:Shared}
theorem SetT.stored {b:Bool} {h:Heap} {a:Addr} {ob:Obj} {es:Array (Int×Value)} {ep:Nat} {t:SetTable} (g1:h.get? a=some ob) (g2:ob.ExactSet) (g3:ob.data=.set es ep t)
  {es':Array (Int×Value)} {t':SetTable} {S':KT->Bool} (k1:ElemsOf kn es'.toList) (k2:∀k,S' k=true ↔ ∃e∈es'.toList,kn.is k e.2=true) (k3:es'.size < scanBound) (k4:t'.fits es'.size=true) (k5:TOk b t') :
  (h.update a (Obj.putSet es' t')).get? a=some { ob with data:=.set es' (ep+1) t' }/\SetT kn b (h.update a (Obj.putSet es' t')) a S' es'.size:=by
 obtain⟨q,_⟩:=SetOf_store (knd:=kn) g1 g2 g3 k1 k2 k3 k4;exact⟨q,_,es',ep+1,t',⟨q,g2,rq⟩,⟨k1,k2⟩,⟨k3,k4,rq⟩,k5⟩
end
def met {KT:Type} [DecidableEq KT] (val:Nat->KT):Nat->List KT
 | 0=>[]
 | i+1=>if val i∈met val i then met val i else met val i++[val i]
section
variable {KT:Type} [DecidableEq KT]
end
section
variable {prog:Program} {w:World} {KT:Type} [DecidableEq KT] {kn:KeyKind prog w KT} {A:Around} {E:YA} {s:Shared}
end
section
variable {prog:Program} {w:World} {A:Around} {E:YA} {s:Shared}
end
section
variable {prog:Program} {w:World} {A:Around} {E:YA} {s:Shared}
end
section
variable {prog:Program} {w:World} {A:Around} {E:YA} {s:Shared}
end
open PySem.Calls (spliced_cons spliced_nil)
section
variable {prog:Program} {w:World} {A:Around} {E:YA} {s:Shared}
end
end L2
namespace L2
open PySem PySem.Spec PyProof.Rows
section
variable {X:Cx} {K:YD}
theorem YK (h:X.K=K) (hu:X.A.units+66 < cLine):OpR X (compareOp .In) (λx y H Q=>∃l xs d ds,y=.ref l/\SqT K H l xs/\J3 K H xs ds/\Rep H x d/\SeqAt.shaped d=true/\PyData.canLayAll0 ds=true/\Q (.bl (ds.any λz=>PyData.eqv z d)) H):=by
 subst h;intro jb s U H x y v u Q I rx ry hh;obtain⟨l,xs,d,ds,rfl,hq,hr,hx,sd,hc,q⟩:=hh;cases ry;obtain⟨its,rv,⟨o,ho,hcl,n,hd⟩,_⟩:=I.tuple hq;obtain⟨as,r1⟩:=J3.reads I hr rv;obtain⟨bs,r2⟩:=hx.reads I.hok rx;refine SeqAt.in_tuple_reads (xs:=ds) (d:=d) (.tuple ho hcl hd (by simpa using r1)) r2 hc (SeqAt.canLay_of_shaped sd) (room_in_shaped sd (by omega)) ⟨.bl _,H,I,rq,q⟩
end
theorem Rep.kn {H:Hp} {v:V} {d:PyData} (r:Rep H v d):Kn H v:=by
 cases r with
 | non=>exact True.intro
 | bl b=>exact True.intro
 | int i=>exact True.intro
 | str x=>exact True.intro
 | tup e _=>exact .inr ⟨_,e⟩
 | lst e _=>exact .inl ⟨_,e⟩
end L2
namespace PySem.ZZ
open PySem
section
variable {prog:Program} {w:World} {A:Around} {E:YA} {s:Shared}
def Sv (z TO i1 i2:Addr) (h h':Heap):Prop:=∀c o,c≠z->c≠TO->c≠i1->c≠i2->h.get? c=some o->h'.get? c=some o
structure MS (z TI TO i1 i2 b:Addr) (x:Str) (t:Tok) (f1:Value) (h:Heap) (a1 a2:Nat) (to:YE) (h':Heap):Prop where
 hz:IsZ h' z TI TO .ellipsis f1
 hTI:DX h' TI [.ref i1,.ref i2]
 hTO:DX h' TO to
 j1:h'.IsStrIter i1 "str_ascii_iterator" x t a1
 j2:h'.IsTupleIter i2 b a2
 rest:Sv z TO i1 i2 h h'
 size:h'.objs.size=h.objs.size
theorem Gy {h h':Heap} {it:Addr} {c:String} {x:Str} {t:Tok} {i:Nat} (q:h.IsStrIter it c x t i) (k:∀o,h.get? it=some o->h'.get? it=some o):h'.IsStrIter it c x t i:=by
 obtain⟨o,e,r⟩:=q;exact⟨o,k o e,r⟩
theorem bw {z TI TO i1 i2 b:Addr} {x:Str} {t:Tok} {ys:Array Value} {olds:YE} {i c:Nat} {v f1:Value} {Q:YA} (n1:z≠TI) (n2:z≠TO) (n3:z≠i1) (n4:z≠i2) (n5:TI≠TO) (n6:TI≠i1) (n7:TI≠i2) (n8:TO≠i1) (n9:TO≠i2) (n10:i1≠i2)
  (bz:b≠z) (bTO:b≠TO) (b1:b≠i1) (b2:b≠i2) (hz:IsZ s.heap z TI TO .none f1) (hTI:DX s.heap TI [.ref i1,.ref i2]) (hTO:DX s.heap TO olds) (lo:olds.length=2)
  (h1:s.heap.IsStrIter i1 "str_ascii_iterator" x t i) (hc:x.cps[i]?=some c) (h2:s.heap.IsTupleIter i2 b i) (hb:s.heap.IsTuple b ys) (hv:ys[i]?=some v)
  (hQ:∀h',IsZ h' z TI TO (rawInt s.heap.objs.size) (.bool false)->DX h' TI [.ref i1,.ref i2]->DX h' TO [.str ⟨#[c]⟩ s.toks,v]->h'.IsStrIter i1 "str_ascii_iterator" x t (i+1)->h'.IsTupleIter i2 b (i+1)->DX h' s.heap.objs.size [.str ⟨#[c]⟩ s.toks,v]->Sv z TO i1 i2 s.heap h'->Q (.ref s.heap.objs.size) { s with heap:=h',toks:=s.toks+1 }) :
  wpAny (model prog w) A (Builtin.«zip.__next__» ⟨[.ref z],[]⟩) (λfin s'=>∃v,fin=.done (.ret v)/\Q v s') E s:=by
 obtain⟨o1,o2,rfl⟩ : ∃a b,olds=[a,b]:=by
  match olds,lo with
  | [a,b],_=>exact⟨a,b,rfl⟩
 show wpAny _ _ (field (.ref z) 2 >>= _) _ _ _;refine Qcj (Qch hz rfl (x:=.bool false) rfl ?_);show wpAny _ _ (field (.ref z) 3 >>= _) _ _ _;refine Qcj (Qch hz rfl (x:=.ref TI) rfl ?_);refine Qcj (wpAny_seqItems hTI rfl ?_);dsimp only;rw[if_neg (by simp)];show wpAny _ _ (Builtin.SmallTypes.ownedTupleIsFree (.ref z) >>= _) _ _ _;refine Qcj ?_;unfold Builtin.SmallTypes.ownedTupleIsFree;refine Qcj (Qch hz rfl (x:=.none) rfl (Qck ?_));simp only[if_true];refine Qcj (wpAny_rule ?_);refine Qcj (Qch hz rfl (x:=.ref TO) rfl ?_);refine Qcj (QaU hz (by simp) λh₁ hz₁ hs₁=>?_);replace hz₁ : IsZ h₁ z TI TO .ellipsis f1:=hz₁;refine Qcj ?_;have m0:MS z TI TO i1 i2 b x t f1 s.heap i i [o1,o2] h₁:=⟨hz₁,hs₁.extBut _ _ (Ne.symm n1) hTI,hs₁.extBut _ _ (Ne.symm n2) hTO,Gy h1 λo e=>hs₁.extBut _ _ (Ne.symm n3) e,h2.at λo e=>hs₁.extBut _ _ (Ne.symm n4) e,λc o c1 _ _ _ e=>hs₁.extBut _ _ c1 e,hs₁.1⟩;refine Rg (λl r s'=>r=⟨none,⟨⟩⟩/\((l=[(.ref i1,0),(.ref i2,1)]/\∃h',s'={ s with heap:=h' }/\MS z TI TO i1 i2 b x t f1 s.heap i i [o1,o2] h')\/(l=[(.ref i2,1)]/\∃h',s'={ s with heap:=h',toks:=s.toks+1 }/\MS z TI TO i1 i2 b x t f1 s.heap (i+1) i [.str ⟨#[c]⟩ s.toks,o2] h')\/(l=[]/\∃h',s'={ s with heap:=h',toks:=s.toks+1 }/\MS z TI TO i1 i2 b x t f1 s.heap (i+1) (i+1) [.str ⟨#[c]⟩ s.toks,v] h'))) (λr s' h=>?_) (λq l r s' h=>?_) _ _ _ ⟨rq,.inl ⟨rq,h₁,rq,m0⟩⟩
 ·obtain⟨rfl,h⟩:=h;rcases h with⟨e,_⟩|⟨e,_⟩|⟨_,h',rfl,m⟩
  ·cases e
  ·cases e
  dsimp only;refine Qcj (wpAny_seqItems m.hTO rfl ?_);refine Qcj (wpAny_newTuple ?_ (by show 2<=sizeLine;decide));have hzlt:z < h'.objs.size:=QbZ m.hz;show wpAny _ _ (Builtin.SmallTypes.ownedTupleHandOut (.ref z) (.ref h'.objs.size) >>= _) _ _ _;refine Qcj ?_;unfold Builtin.SmallTypes.ownedTupleHandOut;have hz₆ : IsZ (h'.push { cls:=.type "tuple",data:=.seq [.str ⟨#[c]⟩ s.toks,v].toArray }) z TI TO .ellipsis f1:=Qat _ m.hz;refine Qcj (QaU hz₆ (by simp) λh₇ hz₇ hs₇=>?_);replace hz₇ : IsZ h₇ z TI TO (rawInt h'.objs.size) f1:=hz₇;refine QaU hz₇ (by simp) λh₈ hz₈ hs₈=>?_;replace hz₈ : IsZ h₈ z TI TO (rawInt h'.objs.size) (.bool false):=hz₈;have up:∀c o,c≠z->h'.get? c=some o->h₈.get? c=some o:=λc o c1 e=>hs₈.extBut _ _ c1 (hs₇.extBut _ _ c1 (Qat _ e));have hT₈ : DX h₈ h'.objs.size [.str ⟨#[c]⟩ s.toks,v]:=hs₈.extBut _ _ (Qcd hzlt) (hs₇.extBut _ _ (Qcd hzlt) (QaF _ rfl));have hsz':=m.size;rw[hsz'] at hz₈ hT₈;refine Qck ⟨_,rq,?_⟩;show Q (.ref h'.objs.size) _;rw[hsz'];exact hQ h₈ hz₈ (up _ _ (Ne.symm n1) m.hTI) (up _ _ (Ne.symm n2) m.hTO) (Gy m.j1 λo e=>up _ o (Ne.symm n3) e) (m.j2.at λo e=>up _ o (Ne.symm n4) e) hT₈ λc o c1 c2 c3 c4 e=>up c o c1 (m.rest c o c1 c2 c3 c4 e)
 ·obtain⟨rfl,h⟩:=h;rcases h with⟨e,h',rfl,m⟩|⟨e,h',rfl,m⟩|⟨e,_⟩
  ·injection e with e1 e2;subst e1 e2;refine Qcj (wpAny_onRaise ?_);show wpAny _ _ (Builtin.SmallTypes.nextOf (.ref i1) >>= _) _ _ _;refine Qcj (wpAny_nextOf_ascii_item m.j1 hc λh2 q2 sb2=>Qck ?_);have hT2:DX h2 TO [o1,o2]:=sb2.extBut _ _ n8 m.hTO;refine Qcj (wpAny_seqItems hT2 rfl ?_);refine Qcj (wpAny_updateSeq hT2 rfl ?_ (by show 2<=sizeLine;decide) (by rw[Array.size_setIfInBounds];show 2<=sizeLine+1;decide));have sb3:Heap.SameBut TO h2 (h2.update TO (Obj.mapSeq λx=>x.setIfInBounds 0 (.str ⟨#[c]⟩ s.toks))):=Heap.SameBut.update ..;have hT3:DX (h2.update TO (Obj.mapSeq λx=>x.setIfInBounds 0 (.str ⟨#[c]⟩ s.toks))) TO [.str ⟨#[c]⟩ s.toks,o2]:=by
    show (h2.update TO _).get? TO=_;rw[QaA _ hT2 rfl];simp[Obj.mapSeq]
   refine Qcj (wpAny_letGo (Qck ?_));refine⟨rq,.inr (.inl ⟨rq,_,rq,?_⟩)⟩;exact⟨sb3.extBut _ _ n2 (sb2.extBut _ _ n3 m.hz),sb3.extBut _ _ n5 (sb2.extBut _ _ n6 m.hTI),hT3,Gy q2 λo e=>sb3.extBut _ _ (Ne.symm n8) e,m.j2.at λo e=>sb3.extBut _ _ (Ne.symm n9) (sb2.extBut _ _ (Ne.symm n10) e),λc o c1 c2 c3 c4 e=>sb3.extBut _ _ c2 (sb2.extBut _ _ c3 (m.rest c o c1 c2 c3 c4 e)),by rw[sb3.1,sb2.1,m.size]⟩
  ·injection e with e1 e2;subst e1 e2;refine Qcj (wpAny_onRaise ?_);show wpAny _ _ (Builtin.SmallTypes.nextOf (.ref i2) >>= _) _ _ _;have hb':h'.IsTuple b ys:=by
    obtain⟨o,e,r⟩:=hb;exact⟨o,m.rest b o bz bTO b1 b2 e,r⟩
   refine Qcj (RM (s:={ s with heap:=h',toks:=s.toks+1 }) m.j2 hb' hv λh2 q2 sb2=>Qck ?_);have hT2:DX h2 TO [.str ⟨#[c]⟩ s.toks,o2]:=sb2.extBut _ _ n9 m.hTO;refine Qcj (wpAny_seqItems hT2 rfl ?_);refine Qcj (wpAny_updateSeq hT2 rfl ?_ (by show 2<=sizeLine;decide) (by rw[Array.size_setIfInBounds];show 2<=sizeLine+1;decide));have sb3:Heap.SameBut TO h2 (h2.update TO (Obj.mapSeq λx=>x.setIfInBounds 1 v)):=Heap.SameBut.update ..;have hT3:DX (h2.update TO (Obj.mapSeq λx=>x.setIfInBounds 1 v)) TO [.str ⟨#[c]⟩ s.toks,v]:=by
    show (h2.update TO _).get? TO=_;rw[QaA _ hT2 rfl];simp[Obj.mapSeq]
   refine Qcj (wpAny_letGo (Qck ?_));refine⟨rq,.inr (.inr ⟨rq,_,rq,?_⟩)⟩;exact⟨sb3.extBut _ _ n2 (sb2.extBut _ _ n4 m.hz),sb3.extBut _ _ n5 (sb2.extBut _ _ n7 m.hTI),hT3,Gy m.j1 λo e=>sb3.extBut _ _ (Ne.symm n8) (sb2.extBut _ _ n10 e),q2.at λo e=>sb3.extBut _ _ (Ne.symm n9) e,λc o c1 c2 c3 c4 e=>sb3.extBut _ _ c2 (sb2.extBut _ _ c4 (m.rest c o c1 c2 c3 c4 e)),by rw[sb3.1,sb2.1,m.size]⟩
  ·cases e
theorem gq {z TI TO i1 i2:Addr} {x:Str} {t:Tok} {olds:YE} {i:Nat} {f1:Value} {Q:Fin->Shared->Prop} (hh:A.handled=none) (n1:z≠TI) (n2:z≠TO) (n3:z≠i1)
  (hz:IsZ s.heap z TI TO .none f1) (hTI:DX s.heap TI [.ref i1,.ref i2]) (hTO:DX s.heap TO olds) (h1:s.heap.IsStrIter i1 "str_ascii_iterator" x t i) (hc:x.cps[i]?=none)
  (hE:∀h' e,Sv z TO i1 i2 s.heap h'->(∃o,h'.get? e=some o/\o.cls=.type "StopIteration")->E (.ref e) { s with heap:=h' }) :
  wpAny (model prog w) A (Builtin.«zip.__next__» ⟨[.ref z],[]⟩) Q E s:=by
 show wpAny _ _ (field (.ref z) 2 >>= _) _ _ _;refine Qcj (Qch hz rfl (x:=.bool false) rfl ?_);show wpAny _ _ (field (.ref z) 3 >>= _) _ _ _;refine Qcj (Qch hz rfl (x:=.ref TI) rfl ?_);refine Qcj (wpAny_seqItems hTI rfl ?_);dsimp only;rw[if_neg (by simp)];show wpAny _ _ (Builtin.SmallTypes.ownedTupleIsFree (.ref z) >>= _) _ _ _;refine Qcj ?_;unfold Builtin.SmallTypes.ownedTupleIsFree;refine Qcj (Qch hz rfl (x:=.none) rfl (Qck ?_));simp only[if_true];refine Qcj (wpAny_rule ?_);refine Qcj (Qch hz rfl (x:=.ref TO) rfl ?_);refine Qcj (QaU hz (by simp) λh₁ hz₁ hs₁=>?_);replace hz₁ : IsZ h₁ z TI TO .ellipsis f1:=hz₁;refine Qcj ?_;refine Rg (λl r s'=>l=[(.ref i1,0),(.ref i2,1)]/\r=⟨none,⟨⟩⟩/\s'={ s with heap:=h₁ }) (λr s' h=>?_) (λq l r s' h=>?_) _ _ _ ⟨rq,rq,rq⟩
 ·exact absurd h.1 (by simp)
 ·obtain⟨e,rfl,rfl⟩:=h;injection e with e1 e2;subst e1 e2;refine Qcj (wpAny_onRaise ?_);show wpAny _ _ (Builtin.SmallTypes.nextOf (.ref i1) >>= _) _ _ _;refine Qcj (wpAny_nextOf_ascii_end (s:={ s with heap:=h₁ }) hh (Gy h1 λo e=>hs₁.extBut _ _ (Ne.symm n3) e) hc λh₂ e hs₂ he=>?_);obtain⟨oe,hoe,hce⟩:=he;have hz₂ : IsZ h₂ z TI TO .ellipsis f1:=hs₂ _ _ n3 hz₁;have hez:e≠z:=λx=>by subst x;rw[hz₂] at hoe;cases hoe;simp at hce
  refine QaU hz₂ (by simp) λh₃ _ hs₃=>hE h₃ e (λc o c1 c2 c3 c4 x=>hs₃.extBut _ _ c1 (hs₂ _ _ c3 (hs₁.extBut _ _ c1 x))) ⟨oe,hs₃.extBut _ _ hez hoe,hce⟩
abbrev itS (x:Str) (t:Tok):Obj:={ cls:=.type "str_ascii_iterator",data:=.fields #[.str x t,.int 0 0] }
abbrev zsa (h:Heap) (x:Str) (t:Tok) (l2:Addr):Heap:=((((h.push (itS x t)).push (itO "tuple_iterator" l2)).push (tuO #[.ref h.objs.size,.ref (h.push (itS x t)).objs.size])).push (tuO #[.none,.none]))
abbrev zs (h:Heap) (x:Str) (t:Tok) (l2:Addr):Heap:=(zsa h x t l2).push
 { cls:=.type "zip",data:=.fields #[.none,.bool false,.bool false,.ref ((h.push (itS x t)).push (itO "tuple_iterator" l2)).objs.size,.ref (((h.push (itS x t)).push (itO "tuple_iterator" l2)).push (tuO #[.ref h.objs.size,.ref (h.push (itS x t)).objs.size])).objs.size] }
theorem aq (x:Str) (t:Tok) (l2:Addr) (ys:Array Value) (ha:x.cps.all (· < 128)=true):Meets (Builtin.«zip.__new__» ⟨[.type "zip",.str x t,.ref l2],[]⟩) (λ_ R s=>s.heap.IsTuple l2 ys/\R (.ok (.ret (.ref (zsa s.heap x t l2).objs.size))) { s with heap:=zs s.heap x t l2 }):=
 .of_wp λprog w A R s h=>by
  obtain⟨hp,g,d,tk,os⟩:=s;obtain⟨hl2,h⟩:=h;have hsub:=sub_zip;have hL2:Heap.IsTuple (Shared.heap ⟨hp.push (itS x t),g,d,tk,os⟩) l2 ys:=Heap.IsTuple.push hl2 _
  wp_walk using wpAny_pyIter_ascii ha,wpAny_pyIter_tuple hL2
  exact⟨_,rq,h⟩
theorem fK {x:Str} {t:Tok} {l2:Addr} {ys:Array Value} {Q:YA} (ha:x.cps.all (· < 128)=true) (hl2:s.heap.IsTuple l2 ys)
  (h:∀h' (n:Nat),n=s.heap.objs.size->IsZ h' (n+1+1+1+1:Nat) (n+1+1:Nat) (n+1+1+1:Nat) .none (.bool false)->DX h' (n+1+1:Nat) [.ref n,.ref (n+1:Nat)]->DX h' (n+1+1+1:Nat) [.none,.none]->h'.IsStrIter n "str_ascii_iterator" x t 0->h'.IsTupleIter (n+1:Nat) l2 0 ->
   (∀c o,s.heap.get? c=some o->h'.get? c=some o)->Q (.ref (n+1+1+1+1:Nat)) { s with heap:=h' }):wpAny (model prog w) A (call (.type "zip") [.str x t,.ref l2]) Q E s:=by
 refine callType_new F.called_zip (by decide) (F.typeCall_zip_2 _ _) (F.newCall_zip_2 _ _) (λobj=>F.args_object_init_3 obj _ _) F.entry_zip_new (aq x t l2 ys ha) ⟨hl2,?_⟩;have g5:(zs s.heap x t l2).get? (zsa s.heap x t l2).objs.size=some _:=QaF _ rfl;have g4:(zs s.heap x t l2).get? (((s.heap.push (itS x t)).push (itO "tuple_iterator" l2)).push (tuO #[.ref s.heap.objs.size,.ref (s.heap.push (itS x t)).objs.size])).objs.size=some (tuO #[.none,.none]):=Qat _ (QaF _ rfl);have g3:(zs s.heap x t l2).get? ((s.heap.push (itS x t)).push (itO "tuple_iterator" l2)).objs.size=some (tuO #[.ref s.heap.objs.size,.ref (s.heap.push (itS x t)).objs.size]):=Qat _ (Qat _ (QaF _ rfl));have g2:(zs s.heap x t l2).get? (s.heap.push (itS x t)).objs.size=some (itO "tuple_iterator" l2):=Qat _ (Qat _ (Qat _ (QaF _ rfl)));have g1:(zs s.heap x t l2).get? s.heap.objs.size=some (itS x t):=Qat _ (Qat _ (Qat _ (Qat _ (QaF _ rfl))));have kp:∀c o,s.heap.get? c=some o->(zs s.heap x t l2).get? c=some o:=λc o x=>Qat _ (Qat _ (Qat _ (Qat _ (Qat _ x))));have fin:=h (zs s.heap x t l2) s.heap.objs.size rfl;refine⟨⟨_,g5,rq⟩,?_⟩;have e1:(s.heap.push (itS x t)).objs.size=s.heap.objs.size+1:=QbO ..;have e2:((s.heap.push (itS x t)).push (itO "tuple_iterator" l2)).objs.size=s.heap.objs.size+1+1:=by rw[QbO,e1]
 have e3:(((s.heap.push (itS x t)).push (itO "tuple_iterator" l2)).push (tuO #[.ref s.heap.objs.size,.ref (s.heap.push (itS x t)).objs.size])).objs.size=s.heap.objs.size+1+1+1:=by rw[QbO,e2]
 have e4:(zsa s.heap x t l2).objs.size=s.heap.objs.size+1+1+1+1:=by
  show (Heap.push _ _).objs.size=_;rw[QbO,e3]
 rw[e4,e3,e2] at g5;rw[e3] at g4;rw[e2,e1] at g3;rw[e1] at g2;rw[e4];exact fin g5 g3 g4 ⟨_,g1,rq,rq⟩ ⟨_,g2,rq,rq⟩ kp
end
end PySem.ZZ
namespace L2
open PySem PySem.Spec PyProof.Rows
def Xu (x:Str) (b:Addr):It:=
  ⟨λi H=>∃c ys y,x.cps[i]?=some c/\H b=some (.tup ys)/\ys[i]?=some y,
   λi H v H'=>∃p c y,H p=none/\v=.ref p/\H'=upd H p (.tup [.str ⟨#[c]⟩,y])/\x.cps[i]?=some c/\∀ys,H b=some (.tup ys)->ys[i]?=some y,
   λi H=>x.cps[i]?=none⟩
theorem bH {P:Program} {w:World} {K:YD} {elts:YJ} {k:Nat} {pos:Pos} (x:Str) (t:Tok) (b z TI TO i1 i2:Addr) (nd:[z,TI,TO,i1,i2].Nodup) :
  Turn P w K (.Tuple elts k pos) (Xu x b) [z,TI,TO,i1,i2] z (λi h=>(∃f1,ZZ.IsZ h z TI TO .none f1)/\ZZ.DX h TI [.ref i1,.ref i2]/\(∃olds:YE,ZZ.DX h TO olds/\olds.length=2)/\h.IsStrIter i1 "str_ascii_iterator" x t i/\h.IsTupleIter i2 b i) where
 mem:=by simp
 obj:=λi h st c hc=>by
  obtain⟨⟨f1,hz⟩,hTI,⟨olds,hTO,_⟩,⟨o1,e1,_,d1⟩,o2,e2,_,d2⟩:=st;simp only[QbP,Qbp,Qco] at hc;rcases hc with rfl | rfl | rfl | rfl | rfl
  ·exact⟨_,hz,λv q=>by cases (show Data.fields _=Data.cell v from q)⟩
  ·exact⟨_,hTI,λv q=>by cases (show Data.seq _ _=Data.cell v from q)⟩
  ·exact⟨_,hTO,λv q=>by cases (show Data.seq _ _=Data.cell v from q)⟩
  ·exact⟨o1,e1,λv q=>by rw[d1] at q;cases q⟩
  ·exact⟨o2,e2,λv q=>by rw[d2] at q;cases q⟩
 keep:=λi h h' st k=>by
  obtain⟨⟨f1,hz⟩,hTI,⟨olds,hTO,l⟩,h1,h2⟩:=st;exact⟨⟨f1,k z (by simp) _ hz⟩,k TI (by simp) _ hTI,⟨olds,k TO (by simp) _ hTO,l⟩,ZZ.Gy h1 λo e=>k i1 (by simp) o e,h2.at λo e=>k i2 (by simp) o e⟩
 item:=by
  intro X hP hw hK hc i jb s U H E I hf st hg;subst hP hw hK;obtain⟨c,ys,y,hcx,hq2,hy⟩:=hg;obtain⟨ws,rw',p2,z2⟩:=I.tuple (SqT.of hq2);obtain⟨v,hv,rv'⟩:=rw'.get hy;obtain⟨⟨f1,hz⟩,hTI,⟨olds,hTO,lo⟩,hi1,hi2⟩:=st;simp only[QbH,QbP,Qbp,Qco,not_or,List.nodup_nil,not_false_eq_true,and_true] at nd;obtain⟨⟨n1,n2,n3,n4⟩,⟨n5,n6,n7⟩,⟨n8,n9⟩,n10⟩:=nd;have bn:∀c,c∈[z,TI,TO,i1,i2]->b≠c:=λc hc q=>by
   have:=(hf c hc).1;rw[<-q,hq2] at this;cases this
  refine ZZ.ZS hz (Qi:=λr s'=>∃h',r=.ref s.heap.objs.size/\s'={ s with heap:=h',toks:=s.toks+1 }/\ZZ.IsZ h' z TI TO (rawInt s.heap.objs.size) (.bool false)/\ZZ.DX h' TI [.ref i1,.ref i2]/\ZZ.DX h' TO [.str ⟨#[c]⟩ s.toks,v]/\h'.IsStrIter i1 "str_ascii_iterator" x t (i+1)/\h'.IsTupleIter i2 b (i+1)/\ZZ.DX h' s.heap.objs.size [.str ⟨#[c]⟩ s.toks,v]/\ZZ.Sv z TO i1 i2 s.heap h')
   (ZZ.bw n1 n2 n3 n4 n5 n6 n7 n8 n9 n10 (bn _ (by simp)) (bn _ (by simp)) (bn _ (by simp)) (bn _ (by simp)) hz hTI hTO lo hi1 hcx hi2 p2 (by simpa using hv) λh' a1 a2 a3 a4 a5 a6 a7=>⟨h',rq,rq,a1,a2,a3,a4,a5,a6,a7⟩) λr s' hQ=>?_
  obtain⟨h',rfl,rfl,a1,a2,a3,a4,a5,a6,a7⟩:=hQ;refine⟨_,rq,ZZ.dH (s:={ s with heap:=h',toks:=s.toks+1 }) a1 λh2 hz2 sb=>?_⟩;have hlt2:s.heap.objs.size≠z:=Qcd (QbZ hz);have hT2:ZZ.DX h2 s.heap.objs.size [.str ⟨#[c]⟩ s.toks,v]:=(sb.2 _ hlt2).trans a6;have new:CQ X.prog X.w (upd H s.heap.objs.size (.tup [.str ⟨#[c]⟩,y])) h2 s.heap.objs.size (.tup [.str ⟨#[c]⟩,y]):=
   ⟨by show 2<=sizeLine;decide,[.str ⟨#[c]⟩ s.toks,v],.cons ⟨_,rq⟩ (.cons rv' .nil),_,hT2,rq,0,rq⟩
  have I1:=I.bG (h':=h2) (t':=s.toks+1) (Qcf _) (λc q hc e=>(sb.2 c (λw=>hc (by simp[w]))).trans (a7 c q (λw=>hc (by simp[w])) (λw=>hc (by simp[w])) (λw=>hc (by simp[w])) (λw=>hc (by simp[w])) e)) hf new;refine⟨.ref s.heap.objs.size,_,I1,rq,⟨s.heap.objs.size,c,y,I.hok.fresh (Qcf _),rq,rq,hcx,λys' hy'=>by (rw[hq2] at hy';cases hy';exact hy)⟩,⟨⟨_,hz2⟩,(sb.2 _ (Ne.symm n1)).trans a2,⟨_,(sb.2 _ (Ne.symm n2)).trans a3,rq⟩,ZZ.Gy a4 λo e=>(sb.2 _ (Ne.symm n3)).trans e,a5.at λo e=>(sb.2 _ (Ne.symm n4)).trans e⟩,λc hc=>?_⟩;have hlc:c≠s.heap.objs.size:=by
   have hmem:∃o,s.heap.get? c=some o:=by
    simp only[QbP,Qbp,Qco] at hc;rcases hc with rfl | rfl | rfl | rfl | rfl
    ·exact⟨_,hz⟩
    ·exact⟨_,hTI⟩
    ·exact⟨_,hTO⟩
    ·obtain⟨o,e,_⟩:=hi1;exact⟨o,e⟩
    ·obtain⟨o,e,_⟩:=hi2;exact⟨o,e⟩
   obtain⟨o,e⟩:=hmem;exact Qcb (QbZ e)
  rw[Bw hlc];exact (hf c hc).1
 done:=by
  intro X hP hw hK hc i jb s U H E I hf st hg;subst hP hw hK;have hg:x.cps[i]?=none:=hg;obtain⟨⟨f1,hz⟩,hTI,⟨olds,hTO,lo⟩,hi1,hi2⟩:=st;simp only[QbH,QbP,Qbp,Qco,not_or,List.nodup_nil,not_false_eq_true,and_true] at nd;obtain⟨⟨n1,n2,n3,n4⟩,⟨n5,n6,n7⟩,⟨n8,n9⟩,n10⟩:=nd;exact ZZ.S9 hz (R:=λh'=>ZZ.Sv z TO i1 i2 s.heap h') (ZZ.gq (I.ok.hd hc) n1 n2 n3 hz hTI hTO hi1 hg λh' e r st=>⟨h',e,rq,rq,r,st⟩) λh' r=>⟨rq,I.mO (h':=h') (t':=s.toks) (λc q hc e=>r c q (λw=>hc (by simp[w])) (λw=>hc (by simp[w])) (λw=>hc (by simp[w])) (λw=>hc (by simp[w])) e) hf⟩
 self:=λ_ _ _ _ _ st h=>ZZ.RB st.1.choose_spec h
def uZ (ta:TA):TI:=fun U H R=>ta U H λvs H1=>∃x b,vs=[.str x,.ref b]/\x.cps.all (· < 128)=true/\(∃ys,H1 b=some (.tup ys))/\R (Xu x b) H1
section
variable {X:Cx}
theorem m9 {a b:Expr} {ta:TA} {p pos tp:Pos} {elts:YJ} {k:Nat} (hg:Gl X "zip") (hm:X.mg "zip"=none) (ha:PA X [a,b] ta)
  (hs:starEach [a,b] X.env=[(false,eval a X.env),(false,eval b X.env)]:=by rfl) (hs2:starEach [b] X.env=[(false,eval b X.env)]:=by rfl):PI X (.Tuple elts k tp) (.Call (.Name "zip" p) [a,b] [] pos) (uZ ta):=by
 intro jb s U H R I h;refine Call_ (Ni I hg hm (u:=.type "zip") (by trivial) (Qab (thn (ha pos jb s U H _ I h) λus s1 ⟨vs,H1,I1,r1,q1⟩=>?_) (by rw[hs,hs2]) (by rw[hs2];rfl)));obtain⟨x,b,e,hx,⟨ys,hy⟩,q⟩:=q1;subst e;cases r1 with
 | cons r rr=>
  cases rr with
  | cons r' rr=>
   cases rr;obtain⟨t,rfl⟩:=r;cases r';obtain⟨ws,rw',k2,z2⟩:=I1.tuple (SqT.of hy);refine ZZ.fK hx k2 λh' n en hz hTI hTO j1 j2 kp=>?_;refine ZZ.RB (s:={ s1 with heap:=h' }) hz ?_;have nd:([n+1+1+1+1,n+1+1,n+1+1+1,n,n+1]:List Nat).Nodup:=by
    simp only[QbH,QbP,Qbp,Qco,not_or,List.nodup_nil,not_false_eq_true,and_true];omega
   refine⟨(n+1+1+1+1:Nat),[(n+1+1+1+1:Nat),(n+1+1:Nat),(n+1+1+1:Nat),n,(n+1:Nat)],_,_,H1,rq,I1.kept (t':=s1.toks) λc o e=>kp c o e,bH x t b _ _ _ _ _ nd,⟨⟨_,hz⟩,hTI,⟨_,hTO,rq⟩,j1,j2⟩,λc hc=>?_,q⟩;have hcs:s1.heap.objs.size<=(c:Nat):=by
    simp only[QbP,Qbp,Qco] at hc;rcases hc with rfl | rfl | rfl | rfl | rfl <;> omega
   exact I1.W5 hcs (I1.hok.fresh hcs)
end
theorem jN {x:Str} {b:Addr} {ys:YG} {g:TG} {tb:TS} {D:Ends} {U : St} {H:Hp} (hxy:ys.length=x.cps.size) (Pv:YN) (h0:Pv 0 U H) (hl:∀i U H',i<=ys.length->Pv i U H'->H' b=some (.tup ys))
  (hs:∀i c y p U H',x.cps[i]?=some c->ys[i]?=some y->Pv i U H'->H' p=none->g (.ref p) U (upd H' p (.tup [.str ⟨#[c]⟩,y])) fun σ2 H2=>tb { D with nx:=Pv (i+1),ct:=Pv (i+1),bk:=D.nx } σ2 H2) (hd:∀ U H',Pv ys.length U H'->D.nx U H') :
  ∃W:Nat->YN,(∃m,W 0 m U H)/\∀i m U H,W i m U H ->
   ((Xu x b).stop i H/\D.nx U H)\/((Xu x b).go i H/\∃N:YO,(∀ σ' H',N σ' H'->∃m',m' < m/\W (i+1) m' σ' H')/\∀x' H',(Xu x b).yld i H x' H'->g x' U H' fun σ2 H2=>tb { D with nx:=N,ct:=N,bk:=D.nx } σ2 H2):=by
 refine⟨λi m U H=>m=ys.length - i/\i<=ys.length/\Pv i U H,⟨ys.length,by simp,Qcg _,h0⟩,?_⟩;rintro i m U H' ⟨rfl,hi,p⟩;have q2:=hl i U H' hi p;by_cases hlt:i < ys.length
 ·have hlt2:i < x.cps.size:=by omega
  refine .inr ⟨⟨x.cps[i],ys,ys[i],Qal hlt2,q2,Qam hlt⟩,Pv (i+1),fun σ3 H3 p'=>⟨ys.length - (i+1),by omega,rq,hlt,p'⟩,λv H2 y=>?_⟩;obtain⟨pp,c,y',hp,rfl,rfl,e1,e2⟩:=y;exact hs i c y' pp U _ e1 (e2 ys q2) p hp
 ·exact .inl ⟨Array.getElem?_eq_none (by omega),by
   have:i=ys.length:=by omega
   subst this;exact hd _ _ p⟩
theorem o8 {K:YD} {a l:Addr} {xs:YG} {g:TG} {te:TE} {N:YO} {σ0:St} {H0:Hp} (Pv:YN) (h0:Pv 0 σ0 H0) (hl:∀i U H',i<=xs.length->Pv i U H'->SqT K H' a xs)
  (hs:∀i x U H',xs[i]?=some x->Pv i U H'->g x U H' fun σ3 H3=>te σ3 H3 λy H5=>∃ys,H5 l=some (.lst ys)/\ys.length < sizeLine/\Pv (i+1) σ3 (upd H5 l (.lst (ys++[y])))) (hd:∀ U H',Pv xs.length U H'->N U H'):CIn (Itt K a) g te l N σ0 H0:=by
 refine⟨λi m U H'=>m=xs.length - i/\i<=xs.length/\Pv i U H',⟨xs.length,by simp,Qcg _,h0⟩,?_⟩;rintro i m U H' ⟨rfl,hi,p⟩;have q:=hl i U H' hi p;by_cases hlt:i < xs.length
 ·refine .inr ⟨⟨xs,xs[i],q,Qam hlt⟩,Pv (i+1),fun σ3 H3 p'=>⟨xs.length - (i+1),by omega,rq,hlt,p'⟩,λv H2 y=>?_⟩;obtain⟨rfl,e⟩:=y;exact hs i v U _ (e xs q) p
 ·exact .inl ⟨⟨xs,q,by omega⟩,by
   have:i=xs.length:=by omega
   subst this;exact hd _ _ p⟩
section
variable {X:Cx}
end
theorem aV {K:YD} {a l:Addr} {xs:YG} {g:TG} {wi2:TI} {g2:TG} {te:TE} {Q:VK} {σ0:St} {H0:Hp} (Pv:YN)
  (h0:Pv 0 σ0 H0) (hl:∀i U H',i<=xs.length->Pv i U H'->SqL K H' a xs)
  (hs:∀i x U H',xs[i]?=some x->Pv i U H'->g x U H' fun σ3 H3=>wi2 σ3 H3 λJ2 H4=>CIn J2 g2 te l (Pv (i+1)) σ3 H4)
  (hd:∀ U H',Pv xs.length U H'->Q (.ref l) H'):Sy (Itl K a) g wi2 g2 te Q σ0 H0 l:=by
 unfold Sy;refine⟨λi m U H'=>m=xs.length - i/\i<=xs.length/\Pv i U H',⟨xs.length,by simp,Qcg _,h0⟩,?_⟩;rintro i m U H' ⟨rfl,hi,p⟩;have q:=hl i U H' hi p;by_cases hlt:i < xs.length
 ·refine .inr ⟨⟨xs,xs[i],q,by simp[hlt]⟩,Pv (i+1),fun σ3 H3 p'=>⟨xs.length - (i+1),by omega,rq,hlt,p'⟩,λv H2 y=>?_⟩;obtain⟨rfl,hx⟩:=y;exact hs i v U _ (hx xs q) p
 ·have e:i=xs.length:=by omega
  subst e;exact .inl ⟨⟨xs,q,Qcf _⟩,hd U H' p⟩
theorem iu {X:Cx} {N':YF} {src:List (Option Nat)} {sc:Scope} {elt tg iter t2 i2:Expr} {pos spos px:Pos} {wi wi2:TI} {g g2:TG} {te:TE} {i:Nat} {x:Str} (hN:X.N.Nodup) (hi0:X.N[i]?=some x) (hx:Loc X.env.scope x) (hc:X.calm=true) (S:CZ X N' src sc)
  (hi:PI X tg iter wi) (hg:∀s3 H3 fp pn,PG (cxC X N' sc s3 H3 fp pn) tg g) (hi2:∀s3 H3 fp pn,PI (cxC X N' sc s3 H3 fp pn) t2 i2 wi2) (hg2:∀s3 H3 fp pn,PG (cxC X N' sc s3 H3 fp pn) t2 g2) (he:∀s3 H3 fp pn,PE (cxC X N' sc s3 H3 fp pn) elt te)
  (hsw:swapsWith (.ListComp elt [⟨tg,iter,[],0⟩,⟨t2,i2,[],0⟩] sc pos) (some (.Name x px)) spos.line X.env=pure true:=by rfl) (hs:∀x,foldedSetIterable iter X.env x=pure x:=by intro _;rfl) (hs2:∀s3 H3 fp pn x,foldedSetIterable i2 (cxC X N' sc s3 H3 fp pn).env x=pure x:=by intros;rfl)
  (hf:X.fn x=true\/X.env.scope.names.lookup x=some .local:=by first | exact .inl rfl | exact .inr rfl | assumption) :
  PS X (.Assign [.Name x px] (.ListComp elt [⟨tg,iter,[],0⟩,⟨t2,i2,[],0⟩] sc pos) spos) (ZD (bM wi src g wi2 g2 te) (Gi i)):=by
 intro jb s U H D I h;rw[exec_Assign_Name_used _ _ _ _ hsw];refine Qcj (QbV (Qcj ?_));show wpAny _ X.A (do let _ <-comprehension (.ListComp elt [⟨tg,iter,[],0⟩,⟨t2,i2,[],0⟩] sc pos) sc X.env _ (newList []) false (eval iter X.env) (some (assign (.Name x px) X.env))) _ _ s
 refine Qcj (thn (aW (R:=λ_ s'=>SP X jb D .next s') hc S hi hg hi2 hg2 he hs hs2 I h λs3 H3 fp σ4 H4 s5 l I3 f3 J5 q=>?_) λ_ s' hq=>Qck (Qck hq));obtain⟨m,⟨oC,es,ep,hoC,r⟩,_⟩:=J5.loc;have I6:Inv X jb U H4 { s5 with heap:=s5.heap }:=Pk I3 f3 J5 (Heap.SameBut.refl _ _);have hCn:H4 s3.heap.objs.size=none:=J5.free;have neL:s3.heap.objs.size≠X.env.locals:=Qcd I3.lt;have iQ:∀v,oC.data≠.cell v:=λv z=>by rw[r.1] at z;cases z
 have I7:Inv X (jb++[(s3.heap.objs.size,oC)]) U H4 s5:=I6.M8 λp hp=>(Qby.mp hp).elim (λz=>I6.pin p (Qax _ z)) λz=>by
  cases QaO.mp z;exact⟨hoC,hCn,neL,I3.Z9 (Qcf _),iQ⟩
 show wpAny _ X.A (assign (.Name x px) X.env (.ref l)) _ _ s5;refine wpAny_assign_Name (Hh (v:=.ref l) I7 hN hi0 hx rfl (λs6 I8=>?_) hf);have k8:=(I8.pin (s3.heap.objs.size,oC) (Qax _ (Qax _ (QaO.mpr rfl)))).1;refine⟨m,⟨oC,es,ep,k8,r⟩,λh' sb=>⟨_,H4,?_,q⟩⟩;have I9:=I8.Gx;refine I9.turned (t':=s6.toks) (λb o hb e=>sb.extBut b o hb e) hCn neL (.inr I3.sz) (λy c e z=>?_) (λp hp z=>?_)
 ·obtain⟨v,o,ho,_⟩:=I3.cell y c e;exact absurd (QbZ ho) (by rw[z];exact QbU _)
 ·have:=(I3.pin p hp).1;exact absurd (QbZ this) (by rw[z];exact QbU _)
theorem ni {X:Cx} {K:YD} {tg l:Expr} {tl:TE} (h:X.K=K) (hl:PE X l tl):PI X tg l (rJ K tl):=h ▸ O7 hl
theorem nq {X:Cx} {a:Expr} {ta:TE} {pos:Pos} (ha:PE X a ta):PE X (.UnaryOp .Not a pos) (fun U H Q=>ta U H λx H1=>∃k,uf X.K x H1 k/\Q (.bl (!k)) H1):=by
 intro jb s U H Q I h;refine UnaryOp_ (thn (ha jb s U H _ I h) λv s1 zz=>?_);obtain⟨x,H1,I1,r1,q1⟩:=zz;obtain⟨k,e,q⟩:=q1;refine not_of (thn (qb jb s1 U H1 x v (λc H2=>Q (.bl (!c)) H2) I1 r1 ⟨k,e,q⟩) λc s2 zz=>?_);obtain⟨H2,I2,q2⟩:=zz;exact⟨.bl (!c),H2,I2,rq,q2⟩
section
variable {X:Cx}
abbrev TJ:=Str->St->Hp->VK->Prop
def PJ (X:Cx) (es:YJ) (t:TJ):Prop:=∀(jb:YC) (s:Shared) (U : St) (H:Hp) (acc:Str) (Q:VK),Inv X jb U H s->t acc U H Q->wpAny (model X.prog X.w) X.A (joinParts acc (evalEach es X.env)) (EP X jb U Q) X.xe s
def yQ:TJ:=λacc _ H Q=>acc.length<=sizeLine/\Q (.str acc) H
def yP (te:TE) (t:TJ):TJ:=λacc U H Q=>te U H λv H1=>∃y,v=.str y/\(acc++y).length<=sizeLine/\t (acc++y) U H1 Q
def mD (v:V) (y:Str):Prop:=v=.str y\/∃i:Int,v=.int i/\i.natAbs.log2 < 1920/\y=toString i
def yO (te:TE) (t:TJ):TJ:=λacc U H Q=>te U H λv H1=>∃y,mD v y/\(acc++y).length<=sizeLine/\t (acc++y) U H1 Q
theorem Ld:PJ X [] yQ:=by
 intro jb s U H acc Q I h;exact joinParts_nil ⟨.str acc,H,I.tok _,⟨_,rq⟩,h.2⟩ h.1
theorem Fe {e:Expr} {es:YJ} {te:TE} {t:TJ} (he:PE X e te) (hr:PJ X es t):PJ X (e::es) (yP te t):=by
 intro jb s U H acc Q I h;refine joinParts_cons (thn (he jb s U H _ I h) λv s1 h1=>?_);obtain⟨x,H1,I1,r1,y,rfl,hz,q⟩:=h1;obtain⟨t',rfl⟩:=r1;exact⟨hz,hr jb s1 U H1 _ Q I1 q⟩
theorem Fd {e:Expr} {es:YJ} {te:TE} {t:TJ} {pos:Pos} (he:PE X e te) (hr:PJ X es t):PJ X (.FormattedValue e (-1) none pos::es) (yO te t):=by
 intro jb s U H acc Q I h;refine joinParts_cons (FormattedValue_plain (thn (he jb s U H _ I h) λv s1 h1=>?_));obtain⟨x,H1,I1,r1,y,ty,hz,q⟩:=h1;have hy:y.length<=sizeLine:=by
  rw[QaY] at hz;omega
 rcases ty with rfl |⟨i,rfl,hi,rfl⟩
 ·obtain⟨t',rfl⟩:=r1;exact formatField_str (λt2 k2=>⟨hz,hr jb _ U H1 _ Q (I1.tok k2) q⟩) hy
 ·obtain⟨t',rfl⟩:=r1;exact formatField_int_small hi ⟨hz,hr jb _ U H1 _ Q (I1.tok _) q⟩
theorem JD {e1 e2:Expr} {es:YJ} {t:TJ} {pos:Pos} (h:PJ X (e1::e2::es) t):PE X (.JoinedStr (e1::e2::es) pos) (fun U H Q=>t Str.empty U H Q):=by
 intro jb s U H Q I hh;exact JoinedStr_many (h jb s U H _ Q I hh)
theorem Io:MtR X "str.startswith" (λx vs H Q=>∃z y,x=.str z/\vs=[.str y]/\Q (.bl (Txt.startswith z y)) H):=by
 intro jb s U H x vs v us Q I rx rv h;obtain⟨z,y,rfl,rfl,q⟩:=h;obtain⟨t,rfl⟩:=rx;obtain⟨u,rfl,ru⟩:=rv.one;obtain⟨t',rfl⟩:=ru;exact SC.startswith ⟨.bl _,H,I,rfl,q⟩
theorem Qz:MtR X "str.endswith" (λx vs H Q=>∃z y,x=.str z/\vs=[.str y]/\Q (.bl (Txt.endswith z y)) H):=by
 intro jb s U H x vs v us Q I rx rv h;obtain⟨z,y,rfl,rfl,q⟩:=h;obtain⟨t,rfl⟩:=rx;obtain⟨u,rfl,ru⟩:=rv.one;obtain⟨t',rfl⟩:=ru;exact SC.endswith ⟨.bl _,H,I,rfl,q⟩
theorem Ju:MtR X "str.partition" (λx vs H Q=>∃z y,x=.str z/\vs=[.str y]/\y.length≠0/\z.length<=sizeLine/\∀p,H p=none->Q (.ref p) (upd H p (.tup [.str (Txt.partition z y).1,.str (Txt.partition z y).2.1,.str (Txt.partition z y).2.2]))):=by
 intro jb s U H x vs v us Q I rx rv h;obtain⟨z,y,rfl,rfl,hy,hz,q⟩:=h;obtain⟨t,rfl⟩:=rx;obtain⟨u,rfl,ru⟩:=rv.one;obtain⟨t',rfl⟩:=ru;have hy':(y.length == 0)=false:=QaL.mpr hy;have q0:=q s.heap.objs.size (I.hok.fresh (Qcf _));refine call_meets F.slot_str_partition (typeIs_str _ _ _) F.entry_str_partition (F.args_str_partition_2 _ _) (meets_str_partition z y t t' hy' hz) ?_;unfold Txt.partition at q0;cases e:Builtin.Str.occurrences z y 0 z.length 1 with
 | nil=>
  rw[e] at q0;exact⟨.ref s.heap.objs.size,_,I.laid (t':=s.toks+1) (o:=.tup [.str z,.str Str.empty,.str Str.empty]) (λb o e=>Qat _ e) (Qcf _) ⟨by show 3<=sizeLine;decide,_,.cons ⟨_,rq⟩ (.cons ⟨_,rq⟩ (.cons ⟨_,rq⟩ .nil)),IsTup.new _ _⟩,rq,q0⟩
 | cons i r=>
  rw[e] at q0;exact⟨.ref s.heap.objs.size,_,I.laid (t':=s.toks+1+1) (o:=.tup [.str (Builtin.Str.strSub z 0 i),.str y,.str (Builtin.Str.strSub z (i+y.length) z.length)]) (λb o e=>Qat _ e) (Qcf _) ⟨by show 3<=sizeLine;decide,_,.cons ⟨_,rq⟩ (.cons ⟨_,rq⟩ (.cons ⟨_,rq⟩ .nil)),IsTup.new _ _⟩,rq,q0⟩
theorem Uc:∀l:List (Str×Tok),Vals ((l.map (·.1)).map V.str) (strValues l)
 | []=>.nil
 | p::r=>.cons ⟨p.2,rfl⟩ (Uc r)
theorem WD:MtR X "str.split" (λx vs H Q=>∃z y,x=.str z/\vs=[.str y]/\y.length≠0/\z.length+2<=sizeLine/\∀p,H p=none->Q (.ref p) (upd H p (.lst ((Txt.split z y).map V.str)))):=by
 intro jb s U H x vs v us Q I rx rv h;obtain⟨z,y,rfl,rfl,hy,hz,q⟩:=h;obtain⟨t,rfl⟩:=rx;obtain⟨u,rfl,ru⟩:=rv.one;obtain⟨t',rfl⟩:=ru;have hy':(y.length == 0)=false:=QaL.mpr hy;have q0:=q s.heap.objs.size (I.hok.fresh (Qcf _));have hn:(Builtin.Str.partsBetween z (Builtin.Str.occurrences z y 0 z.length (z.length+1)) y.length).length<=sizeLine:=by
  have e1:=StrLaws.occ_length_le z y 0 z.length (z.length+1);rw[length_partsBetween];omega
 have fin:∀(l:List (Str×Tok)) (k:Nat),l.map (·.1)=Txt.split z y->l.length<=sizeLine->EP X jb U Q (.ref s.heap.objs.size) { s with heap:=s.heap.push { cls:=.type "list",data:=.seq (strValues l).toArray },toks:=k }:=λl k e hl=>by
  rw[<-e] at q0;exact⟨.ref s.heap.objs.size,_,I.laid (t':=k) (o:=.lst ((l.map (·.1)).map V.str)) (λb o e=>Qat _ e) (Qcf _) ⟨by rw[Qbw,Qbw];exact hl,_,0,Uc l,QaF _ rfl⟩,rq,q0⟩
 cases h1:(decide (z.length < y.length) || decide (Builtin.Str.strKind z < Builtin.Str.strKind y)) with
 | true=>
  refine call_meets F.slot_str_split (typeIs_str _ _ _) F.entry_str_split (F.args_str_split_2 _ _) (meets_str_split_cannot_occur z y t t' h1) ?_;exact fin [(z,t)] _ (if_pos h1).symm (by show 1<=sizeLine;decide)
 | false=>
  cases hf:(Builtin.Str.occurrences z y 0 z.length (z.length+1)).isEmpty with
  | true=>
   refine call_meets F.slot_str_split (typeIs_str _ _ _) F.entry_str_split (F.args_str_split_2 _ _) (meets_str_split_not_found z y t t' h1 hy' hf) ?_;exact fin [(z,t)] _ ((if_neg (ne_true_of_eq_false h1)).trans (if_pos hf)).symm (by show 1<=sizeLine;decide)
  | false=>
   refine call_meets F.slot_str_split (typeIs_str _ _ _) F.entry_str_split (F.args_str_split_2 _ _) (meets_str_split_sep z y t t' h1 hy' hf (by omega) hn) ?_;show wants (EP X jb U Q) X.xe _ { s with toks:=_,heap:=s.heap.push { cls:=.type "list",data:=.seq (strsFrom s.toks (Builtin.Str.partsBetween z (Builtin.Str.occurrences z y 0 z.length (z.length+1)) y.length)).toArray } };rw[strsFrom_eq];refine fin (numbered s.toks _) _ ((numbered_texts _ _).trans ((if_neg (ne_true_of_eq_false h1)).trans (if_neg (ne_true_of_eq_false hf))).symm) ?_;have:=congrArg List.length (numbered_texts s.toks (Builtin.Str.partsBetween z (Builtin.Str.occurrences z y 0 z.length (z.length+1)) y.length));rw[Qbw] at this;omega
theorem Uy:Ew X (.type "int") (λxs H Q=>∃(z:Str) (n:Int),xs=[.str z]/\intText? z=some n/\z.length<=640/\Q (.int n) H):=by
 intro jb s U H xs us Q I r h;obtain⟨z,n,rfl,hn,hl,q⟩:=h;obtain⟨u,rfl,t,rfl⟩:=vals1 r;exact PySem.W.KIN.call_text hn hl ⟨.int n,H,I.tok _,⟨_,rq⟩,q⟩
end
def mR (K:YD) (P:Params) (td ty tx:TE):TE:=fun U H Q=>td U H λx H1=>∃a,x=.ref a/\KD K P a/\ty U H1 λy H2=>tx U H2 λz H3=>∃w r v,y=.str w/\nsIn K a w=some r/\((r=none/\v=z)\/∃u,r=some u/\RelV v u)/\Q v H3
theorem Uk {X:Cx} {K:YD} {P:Params} {o e f:Expr} {apos cpos:Pos} {td ty tx:TE} (hK:X.K=K) (hP:X.w.params=P) (ho:PE X o td) (he:PE X e ty) (hf:PE X f tx) (m:M2 X o "get" apos e f cpos):PE X (.Call (.Attribute o "get" apos) [e,f] [] cpos) (mR K P td ty tx):=by
 subst hK hP;intro jb s U H Q I h;refine wpAny_Call_method m.base m.few m.line PySem.F.plainAttrs_dict PySem.F.slot_dict_get PySem.F.type_dict_get (thn (ho jb s U H _ I h) λu s1 ⟨x,H1,I1,rx,a,ex,⟨⟨es,n,hl,hk⟩,lo⟩,q1⟩=>?_);subst ex;obtain rfl:u=Value.ref a:=rx;have M1:=PySem.W.mapOf_K (prog:=X.prog) I1.kIn hl hk;refine⟨M1.typeIs,λb q=>?_,?_⟩
 ·cases q;exact⟨_,I1.kIn _ _ hl,rq⟩
 rw[m.trees];refine Calls.callWith_builtin rfl (Calls.evalArgs_plain (Calls.spliced_cons (thn (he jb s1 U H1 _ I1 q1) λiv s2 ⟨y,H2,I2,ry,q2⟩=>
  Calls.spliced_cons (thn (hf jb s2 U H2 _ I2 q2) λfv s3 ⟨z,H3,I3,rz,w',r,v,ey,er,ev,q3⟩=>Calls.spliced_nil ?_))))
 subst ey;obtain⟨t,rfl⟩:=ry;have M3:=PySem.W.mapOf_K (prog:=X.prog) I3.kIn hl hk;refine call_meetsIn PySem.F.slot_dict_get M3.typeIs PySem.F.entry_dict_get (PySem.F.args_dict_get_3 _ _ _) (meets_dict_get_default (strKind X.prog X.w) a (strKind_is X.prog X.w w' t) lo fv) ⟨_,M3,?_⟩;have:RelV v ((findBy Value.isStrOf es w').getD fv):=by
  rw[PySem.W.find_K hl er];rcases ev with⟨rfl,rfl⟩|⟨u,rfl,rv⟩
  ·exact rz
  ·exact rv
 exact⟨v,H3,I3.tok _,this,q3⟩
theorem fL {X:Cx} (hg:X.A.guards=some []) (hu:X.A.units+128 < cLine):Ew X (.type "str") (λxs H Q=>∃(a:Addr) (d:PyData),xs=[.ref a]/\Rep H (.ref a) d/\d.showable=true/\d.hasDict=false/\d.depth<=64/\d.shown.length<=sizeLine/\Q (.str d.shown) H):=by
 intro jb s U H xs us Q I r h;obtain⟨a,d,rfl,rp,h1,h2,h3,h4,q⟩:=h;obtain⟨u,rfl,rx⟩:=vals1 r;obtain⟨as,rd⟩:=rp.reads I.hok rx;cases rx;exact str_of_reads rd h1 (λh=>by rw[h2] at h;cases h) hg (by omega) (λ_ _ e=>e) (λh' u tk hk=>⟨.str d.shown,H,I.kept hk,⟨_,rq⟩,q⟩) h4
theorem HN {X:Cx} (hg:X.A.guards=some []) (hu:X.A.units+128 < cLine):Ew X (.type "str") (λxs H Q=>(∃i:Int,xs=[.int i]/\i.natAbs.log2 < 1920/\Q (.str (toString i)) H)\/(∃y:Str,xs=[.str y]/\Q (.str y) H)\/∃(a:Addr) (d:PyData),xs=[.ref a]/\Rep H (.ref a) d/\d.showable=true/\d.hasDict=false/\d.depth<=64/\d.shown.length<=sizeLine/\Q (.str d.shown) H):=by
 intro jb s U H xs us Q I r h;rcases h with⟨i,rfl,hi,q⟩|⟨y,rfl,q⟩| h
 ·obtain⟨u,rfl,t,rfl⟩:=vals1 r;exact PySem.P.str_of_int hi ⟨.str _,H,I.tok _,⟨_,rq⟩,q⟩
 ·obtain⟨u,rfl,t,rfl⟩:=vals1 r;exact PySem.P.str_of_str ⟨.str _,H,I,⟨_,rq⟩,q⟩
 ·exact fL hg hu jb s U H xs us Q I r h
open PySem.Calls (spliced_cons spliced_nil)
section
variable {prog:Program} {w:World} {A:Around} {E:YA} {s:Shared}
end
section
variable {X:Cx}
end
end L2
namespace L2
open PySem PySem.Spec PyProof.Rows
def clO (env:Env) (sc:Scope) (m:Nat):List (Str×Addr):=cellsFrom (m+1) sc.names (Ep env sc.names [])
def cxO (X:Cx) (N':YF) (scope:Scope) (s3:Shared) (H3:Hp) (fp:List Addr) (pn:YC):Cx where
 prog:=X.prog
 w:=X.w
 K:=X.K
 mg:=X.mg
 base:=X.base
 A:=X.A
 N:=N'
 s₀:=s3
 H₀:=H3
 env:=compEnvC scope (clO X.env scope s3.heap.objs.size) s3.heap.objs.size X.env
 outer:=X.stack
 stack:=X.stack
 ex:=fp
 fn:=λx=>scope.names.lookup x == some .cell
 calm:=X.calm
 pn:=pn
 xe:=λ_ _=>False
structure Zu (X:Cx) (N':YF) (src:List (Option Nat)) (sc:Scope):Prop where
 kind:sc.kind=.function
 once:∀y∈sc.names,sc.names.lookup y.1=some y.2
 fv:∀y∈sc.names,y.2=.free->X.env.kindOf y.1=some .cell\/X.env.kindOf y.1=some .free
 len:src.length=N'.length
 src:∀(i:Nat) (x:Str) (j:Nat),N'[i]?=some x->src[i]?=some (some j)->X.N[j]?=some x/\sc.names.lookup x=some .free
section
variable {X:Cx} {N':YF} {src:List (Option Nat)} {sc:Scope} {jb:YC} {U : St} {H:Hp} {s3:Shared} {fp:List Addr} {h1:Heap} {tk:Nat}
theorem Zu.loc (S:Zu X N' src sc):∀y∈sc.names,y.2=.local->sc.names.lookup y.1=some .local:=λy hy e=>by rw[S.once y hy,e]
end
theorem CZ.in {X:Cx} {N1 N':YF} {src:List (Option Nat)} {sc so:Scope} {s3:Shared} {H3:Hp} {fp:List Addr} {pn:YC} (kind:sc.kind=.function) (Gq:∀y∈sc.names,y.2≠.cell) (loc:∀y∈sc.names,y.2=.local->sc.names.lookup y.1=some .local)
  (fv:∀y∈sc.names,y.2=.free->so.names.lookup y.1=some .cell) (len:src.length=N'.length)
  (sr:((N'.zip src).all λp=>match p.2 with | none=>true | some j=>decide (N1[j]?=some p.1)&&decide (sc.names.lookup p.1=some .free))=true):CZ (cxO X N1 so s3 H3 fp pn) N' src sc where
 kind:=kind
 Gq:=Gq
 loc:=loc
 fv:=λy hy e=>.inl (by
  have k:(compEnvC so (clO X.env so s3.heap.objs.size) s3.heap.objs.size X.env).kindOf y.1=(so.names.lookup y.1).map (JC X.env y.1):=N6 X.env so.names y.1;show (compEnvC so (clO X.env so s3.heap.objs.size) s3.heap.objs.size X.env).kindOf y.1=some .cell;rw[k,fv y hy e];unfold JC;simp)
 len:=len
 src:=λi x j e1 e2=>by
  rw[Qbm] at sr;have hm:(x,some j)∈N'.zip src:=by
   refine QaC (i:=i) ?_;rw[List.getElem?_zip_eq_some];exact⟨e1,e2⟩
  have:=sr _ hm;simp only[Qbk,decide_eq_true_eq] at this;exact this
def swapAt (D:Addr) (h k:Heap):Heap:={ h with objs:=h.objs.setIfInBounds D ((k.objs[D]?).getD default) }
theorem QJ (D:Addr) (h k:Heap):Heap.SameBut D h (swapAt D h k):=by
 refine⟨Array.size_setIfInBounds ..,λb hb=>?_⟩;unfold swapAt Heap.get?;dsimp only;rw[Array.getElem?_setIfInBounds_ne (Ne.symm hb)]
theorem Yl {D:Addr} {h k:Heap} (h1:D < h.objs.size) (h2:D < k.objs.size):(swapAt D h k).get? D=k.get? D:=by
 unfold swapAt Heap.get?;dsimp only;rw[Array.getElem?_setIfInBounds_self_of_lt h1,Qal h2];rfl
theorem Ot {h h' B B':Heap}:∀{l:List Env},h.FunFrames B l->(∀b,b∈l.filterMap (·.frame)->B'.get? b=B.get? b/\h'.get? b=h.get? b)->h'.FunFrames B' l
 | [],_,_=>True.intro
 | e::r,⟨x1,⟨L,o,hf,hn,ho,hd⟩,x3⟩,k=>by
  have m:L∈(e::r).filterMap (·.frame):=by rw[QaJ,hf];exact QaN
  obtain⟨k1,k2⟩:=k L m;refine⟨x1,⟨L,o,hf,k1.trans hn,k2.trans ho,hd⟩,Ot x3 λb hb=>k b ?_⟩;rw[QaJ,hf];exact QaB _ hb
section
variable {P:Program} {w:World} {outer:List Env} {H H':Hp} {s s':Shared} {e C:Addr} {B h2:Heap} {fl:Option Value}
theorem Exc.noted (x:Exc P w outer H s e C B H' s') {v:Value} (f:Fl B outer e C (some v) h2) (u:s'.heap.UpToSlots h2):Exc P w outer H s e C B H' { s' with heap:=h2 }:=
 ⟨x.os,x.bare,⟨_,.inr ⟨_,rq⟩,f⟩,x.pX f u,x.aL f.stays,x.lg f.stays,x.old,x.ex⟩
theorem Exc.swap (x:Exc P w outer H s e C B H' s') {D:Addr} {o0:Obj} (hD:s.heap.get? D=some o0) (nD:H D=none) (fD:D∉frs outer) (sb:Heap.SameBut D s'.heap h2) (hfl:fl=none\/∃v,fl=some v) (f:Fl B outer e C fl s'.heap):Exc P w outer H { s with heap:=swapAt D s.heap h2 } e C (swapAt D B h2) H' { s' with heap:=h2 }/\Fl (swapAt D B h2) outer e C fl h2:=by
 have BD:=x.old D o0 hD nD fD;have ne:e≠D:=λz=>by have:=x.fresh;rw[z,hD] at this;cases this
 have lD:=QbZ hD;have lB:=QbZ BD;have l':D < s'.heap.objs.size:=QbZ (f.stays D o0 BD);have l2:D < h2.objs.size:=by rw[sb.1];exact l'
 have gB:∀b,b≠D->(swapAt D B h2).get? b=B.get? b:=(QJ D B h2).2;have gs:∀b,b≠D->(swapAt D s.heap h2).get? b=s.heap.get? b:=(QJ D s.heap h2).2;have eB:=Yl (h:=B) (k:=h2) lB l2;have es:=Yl (h:=s.heap) (k:=h2) lD l2;have nD':H' D=none:=x.un.free D o0 hD nD (by simp);have st:(swapAt D B h2).StaysIn h2:=λb o q=>by
  by_cases z:b=D
  ·subst z;rw[eB] at q;exact q
  ·rw[gB b z] at q;rw[sb.2 b z];exact f.stays b o q
 have tr:XT (swapAt D B h2) e C fl h2:=by
  obtain⟨oe,vs,q1,q2,q3,q4,q5⟩:=f.tr;refine⟨oe,vs,by rw[sb.2 e ne];exact q1,q2,q3,q4,?_⟩;cases fl with
  | none=>exact q5
  | some v=>
   obtain⟨T,oT,ts,t1,t2,t3,t4,t5,t6⟩:=q5;have nT:T≠D:=λz=>by rw[z,BD] at t2;cases t2
   exact⟨T,oT,ts,t1,by rw[gB T nT];exact t2,t3,by rw[sb.2 T nT];exact t4,t5,t6⟩
 have fr:h2.FunFrames (swapAt D B h2) outer:=Ot f.fr λb hb=>⟨gB b λz=>fD (z ▸ hb),sb.2 b λz=>fD (z ▸ hb)⟩;have nw:(swapAt D B h2).get? e=none:=by rw[gB e ne];exact f.new
 refine⟨⟨x.os,x.bare,⟨fl,hfl,st,nw,fr,tr⟩,⟨λb o q n hb hx=>?_,λb o q n hb hx=>?_,λb o q n hx=>?_,λb o q hx=>?_,x.un.tups,x.un.G6,x.un.HW⟩,λb o q=>?_,λb o q hb=>?_,λb o q n hb=>?_,λb o q hb=>?_⟩,st,nw,fr,tr⟩
 ·by_cases z:b=D
  ·subst z;exact es ▸ q
  ·rw[show (swapAt D s.heap h2).get? b=_ from gs b z] at q
   show h2.get? b=_;rw[sb.2 b z];exact x.un.keep b o q n hb hx
 ·have z:b≠D:=λz=>fD (z ▸ hb);rw[show (swapAt D s.heap h2).get? b=_ from gs b z] at q
  obtain⟨sl,q1⟩:=x.un.slot b o q n hb hx;exact⟨sl,by show h2.get? b=_;rw[sb.2 b z];exact q1⟩
 ·by_cases z:b=D
  ·subst z;exact nD'
  ·rw[show (swapAt D s.heap h2).get? b=_ from gs b z] at q
   exact x.un.free b o q n hx
 ·by_cases z:b=D
  ·subst z;exact⟨o,es ▸ q⟩
  ·rw[show (swapAt D s.heap h2).get? b=_ from gs b z] at q
   obtain⟨o',q1⟩:=x.un.there b o q hx;exact⟨o',by show h2.get? b=_;rw[sb.2 b z];exact q1⟩
 ·have nb:b≠D:=λz=>by rw[z,nD'] at q;cases q
  exact (x.hok b o q).stay (λc v hc q1=>by
   show h2.get? c=_;rw[sb.2 c λz=>?_]
   ·exact q1
   ·rcases hc with y | y
    ·exact nb (y ▸ z)
    ·rw[z,nD'] at y;cases y) (λ_ q1=>q1) λ_ _ q1=>q1
 ·have z:b≠D:=λz=>hb (z ▸ nD');rw[gB b z];refine x.tin b o ?_ hb;rw[<-sb.2 b z];exact q
 ·by_cases z:b=D
  ·subst z;rw[eB];exact es ▸ q
  ·rw[show (swapAt D s.heap h2).get? b=_ from gs b z] at q
   rw[gB b z];exact x.old b o q n hb
 ·by_cases z:b=D
  ·subst z;exact⟨o,by rw[eB];exact es ▸ q⟩
  ·rw[show (swapAt D s.heap h2).get? b=_ from gs b z] at q
   rw[gB b z];exact x.ex b o q hb
end
theorem oU {M:Model} {A:Around} {E:YA} {Q:YH} {s:Shared} {B:Heap} {l:List Env} {e C:Addr} {f:Value} {fo:Option Addr} (x:Fl B l e C (some f) s.heap) (hq:∀h' v,Fl B l e C (some v) h'->s.heap.UpToSlots h'->Q () { s with heap:=h' }):wpAny M A (setFlight (.ref e) fo) Q E s:=by
 obtain⟨st,new,fr,oe,vs,he,hc,hd,h2,T,oT,ts,h1,nT,hTe,hT,dT,iT⟩:=x;have hsz:3 < ts.size:=(Qae.mp iT).1;generalize hv:(fo.elim Value.none λf=>rawInt f)=v;have oth:∀b o,b≠T->s.heap.get? b=some o->(s.heap.update T (Obj.mapFields (·.setIfInBounds 3 v))).get? b=some o:=λb o hb q=>(Qav _ _ (Ne.symm hb)).trans q;have Pb:∀b o,s.heap.get? b=some o->(∀ws,o.data≠.fields ws)->b≠T:=λb o q nb z=>by rw[z,hT] at q;cases q;exact nb ts dT
 unfold setFlight;rw[hv];refine Qcj (Qch he hd h1 ?_);rw[if_pos (show (Value.ref T != Value.none)=true from by simp)]
 refine wpAny_setField hT dT hsz (hq (s.heap.update T (Obj.mapFields (·.setIfInBounds 3 v))) v ⟨λb o q=>oth b o (λz=>by rw[z,nT] at q;cases q) (st b o q),new,fr.of_keeps λb o q nb=>⟨o,oth b o (Pb b o q nb) q,rq⟩,?_⟩
  λb o q nb=>⟨o.slots,oth b o (Pb b o q nb) q⟩)
 have dN:=QaX dT (·.setIfInBounds 3 v);exact⟨oe,vs,oth e oe (Ne.symm hTe) he,hc,hd,h2,T,_,_,h1,nT,hTe,QaA _ hT (Obj.isFreed_of_fields dN),dN,by simp[hsz]⟩
theorem eO {α : Type} {M:Model} {A:Around} {E:YA} {Q:α->Shared->Prop} {s:Shared} {B:Heap} {l:List Env} {e C:Addr} {f:Value} {what:String} {env:Env} (x:Fl B l e C (some f) s.heap) (hq:∀h' v,Fl B l e C (some v) h'->s.heap.UpToSlots h'->E (.ref e) { s with heap:=h' }):wpAny M A (PySem.passOn what (.ref e) env:Sem α) Q E s:=by
 obtain⟨st,new,fr,oe,vs,he,hc,hd,h2,T,oT,ts,h1,r⟩:=id x;unfold PySem.passOn;refine Qcj (Qch he hd h1 ?_);rw[if_neg (show ¬(Value.ref T == Value.none)=true from by simp)]
 refine Qcj (oU x λh' v y u=>wpAny_throw (hq h' v y u))
theorem aQ {prog:Program} {w:World} {A:Around} {R:Result->Shared->Prop} {s:Shared} {elt target iter:Expr} {ifs:YJ} {scope:Scope} {pos:Pos} {it acc:Value} {env:Env} {EX:YA} (hEX:EX=notedBy (model prog w) A env λe s'=>R (.error e) s') (J:Nat->Shared->Prop)
  (turn:∀n s,J n s->wpAny (model prog w) A (pyNext it) (λr s1=>match r with
   | none=>R (.ok .next) s1
   | some v=>wpAny (model prog w) A (letOwnedTupleGo target it v) (λ_ s2=>wpAny (model prog w) A (assign target env v) (λ_ s3=>
     wpAny (model prog w) A (forIn ifs true λc r=>if r=true then do let ok <-isTrue c env (eval c env);pure (ForInStep.yield ok) else pure (ForInStep.yield r)) (λok s4=>
      if ok=true then wpAny (model prog w) A (eval elt env) (λx s5=>wpAny (model prog w) A (call (.builtin "list.append") [acc,x]) (λ_ s6=>∃m,m < n/\J m s6) EX s5) EX s4
      else ∃m,m < n/\J m s4) EX s3) EX s2) EX s1) EX s)
  (n:Nat) (h:J n s):codeAny (model prog w) A (.compLoop (.ListComp elt [⟨target,iter,ifs,0⟩] scope pos) 0 it acc env) R s:=by
 subst hEX;refine codeAny_loop rfl J (λk s' hk=>?_) n h;show wpAny _ A (Sem.onRaise (compTurn (.ListComp elt [⟨target,iter,ifs,0⟩] scope pos) 0 it acc env) (λx=>do noteFrame x env;theTreesLotGoes x)) _ _ s'
 refine wpAny_noted ?_;rw[compTurn_list];refine Qcj (QbV (Qcj (Qcl (turn k s' hk) (λr s1 q1=>?_) λ_ _ f=>f)));cases r with
 | none=>exact Qck q1
 | some v=>
  refine Qcj (Qcl q1 (λ_ s2 q2=>Qcj (Qcl q2 (λ_ s3 q3=>Qcj (Qcl q3 (λok s4 q4=>?_) λ_ _ f=>f)) λ_ _ f=>f)) λ_ _ f=>f);cases ok with
  | false=>exact Qck ⟨rfl,q4⟩
  | true=>exact Qcj (Qcj (Qcl q4 (λx s5 q5=>Qcj (Qcl q5 (λ_ s6 q6=>Qck (Qck ⟨rfl,q6⟩)) λ_ _ f=>f)) λ_ _ f=>f))
abbrev cxX (X:Cx) (N':YF) (sc:Scope) (s3:Shared) (H3:Hp) (fp:List Addr) (pn:YC) (E:YA):Cx:={ cxC X N' sc s3 H3 fp pn with xe:=E }
section
variable {X:Cx} {N':YF} {sc:Scope} {s3:Shared} {H3:Hp} {fp:List Addr} {pn:YC} {E:YA} {jb:YC} {U : St} {H:Hp} {s:Shared}
theorem Inv.toX (I':Inv (cxC X N' sc s3 H3 fp pn) jb U H s):Inv (cxX X N' sc s3 H3 fp pn E) jb U H s:=⟨⟨I'.ok.mod,I'.ok.kind,I'.ok.glob,I'.ok.blt,I'.ok.above,I'.ok.inj,I'.ok.has,I'.ok.cab,I'.ok.hd,I'.ok.frames,I'.ok.stk,I'.ok.exf,I'.ok.bs,I'.ok.bsz,I'.ok.JK,I'.ok.IV,I'.ok.Gg,I'.ok.frf⟩,I'.os,I'.bare,I'.base,I'.loc,I'.cell,I'.free,I'.Fo,I'.pin,I'.hok,I'.len⟩
theorem Inv.unX (I':Inv (cxX X N' sc s3 H3 fp pn E) jb U H s):Inv (cxC X N' sc s3 H3 fp pn) jb U H s:=⟨⟨I'.ok.mod,I'.ok.kind,I'.ok.glob,I'.ok.blt,I'.ok.above,I'.ok.inj,I'.ok.has,I'.ok.cab,I'.ok.hd,I'.ok.frames,I'.ok.stk,I'.ok.exf,I'.ok.bs,I'.ok.bsz,I'.ok.JK,I'.ok.IV,I'.ok.Gg,I'.ok.frf⟩,I'.os,I'.bare,I'.base,I'.loc,I'.cell,I'.free,I'.Fo,I'.pin,I'.hok,I'.len⟩
end
def ql (wi:TI) (src:List (Option Nat)) (g:TG) (tt:TT) (te:(St->XK)->TE) (EX:St->XK):TE:=fun U H Q=>wi U H λJ H1=>∀l,H1 l=none->Hf J g tt (te λ_=>EX U) Q (Jk src U) (upd H1 l (.lst [])) l
theorem iy {X:Cx} {EX:St->XK} {N':YF} {src:List (Option Nat)} {sc:Scope} {elt tg iter:Expr} {ifs:YJ} {pos:Pos} {wi:TI} {g:TG} {tt:TT} {te:(St->XK)->TE} (hc:X.calm=true) (hst:X.stack=X.env::X.outer) (hf:X.env.frame=some X.env.locals) (hx:KY X EX) (S:CZ X N' src sc)
  (hi:PI X tg iter wi) (hg:∀s3 H3 fp pn,PG (cxC X N' sc s3 H3 fp pn) tg g) (ht:∀s3 H3 fp pn,PF (cxC X N' sc s3 H3 fp pn) ifs tt) (he:∀s3 H3 fp pn E1 EX',KY (cxX X N' sc s3 H3 fp pn E1) EX'->PE (cxX X N' sc s3 H3 fp pn E1) elt (te EX'))
  (hs:∀x,foldedSetIterable iter X.env x=pure x:=by intro _;rfl):PE X (.ListComp elt [⟨tg,iter,ifs,0⟩] sc pos) (ql wi src g tt te EX):=by
 intro jb s U H Q I h;rw[eval_ListComp];have hfr:X.A.frames=some (X.env::X.outer):=I.ok.frames.trans (congrArg some hst);refine wpAny_comprehension_free (use:=none) (cl:=Ep X.env sc.names []) rfl hs (Og λp hp e=>I.ok.has p.1 (S.fv p hp e)) S.kind S.loc ?_;refine thn (hi jb s U H _ I h) λv s1 h1=>thn h1 λitv s2 h2=>?_;obtain⟨it,fp,tn,J,H2,rfl,I2,T,st2,f2,q⟩:=h2;have q':=q s2.heap.objs.size (I2.hok.fresh (Qcf _));unfold Hf at q';obtain⟨W,⟨m0,w0⟩,turn⟩:=q';refine Qbg (wpAny_newFunctionEnv S.Gq (by intro y hy;simp at hy) (λha hns hsb=>?_) S.kind);have I3:Inv X jb U (upd H2 s2.heap.objs.size (.lst [])) { s2 with heap:=s2.heap.push { cls:=.type "list",dict:=none,data:=.seq ([]:YE).toArray } }:=
  I2.laid (t':=s2.toks) (λb u e=>Qat _ e) (Qcf _) ⟨Qcg _,[],0,.nil,QaF _ rfl⟩
 have hfl:∀b∈fp,b < s2.heap.objs.size:=λb hb=>by
  obtain⟨o,e,_⟩:=T.obj 0 _ st2 b hb;exact QbZ e
 have f3:∀b∈fp,Gh X jb (upd H2 s2.heap.objs.size (.lst [])) b:=λb hb=>⟨by rw[Bw (Qcb (hfl b hb))];exact (f2 b hb).1,(f2 b hb).2⟩;generalize hs3:({ s2 with heap:=s2.heap.push { cls:=.type "list",dict:=none,data:=.seq ([]:YE).toArray } }:Shared)=s3 at *;have hsz:s2.heap.objs.size < s3.heap.objs.size:=by rw[<-hs3];show s2.heap.objs.size < (s2.heap.push _).objs.size;rw[QbO];exact Nat.lt_succ_self _
 have kp:∀b o,s3.heap.get? b=some o->ha.get? b=some o:=λb o e=>hsb.extBut b o (Qcb (QbZ e)) (Qat _ e);have st3:tn 0 ha:=T.keep 0 _ _ st2 λb hb o e=>kp b o (by rw[<-hs3];exact Qat _ e);have I4:Inv (cxC X N' sc s3 (upd H2 s2.heap.objs.size (.lst [])) fp (X.pn++jb)) [] (Jk src U) (upd H2 s2.heap.objs.size (.lst [])) { s3 with heap:=ha,toks:=s3.toks+([]:List (Str×Value)).length }:=
  Ri S I3 f3 (λb hb=>Nat.lt_trans (hfl b hb) hsz) hns kp
 have neL:s3.heap.objs.size≠X.env.locals:=Qcd I3.lt;have fD:s3.heap.objs.size∉frs X.stack:=λhb=>(QbP.mp (I3.Ox _ hb)).elim neL (I3.Z9 (Qcf _));let E1:YA:=λev s'=>∃(lV:YC) (σ1:St) (H1:Hp) (s1:Shared),Inv (cxC X N' sc s3 (upd H2 s2.heap.objs.size (.lst [])) fp (X.pn++jb)) lV σ1 H1 s1/\CX1 X.prog X.w X.stack H1 s1 (EX U) ev s';have hp:KY (cxX X N' sc s3 (upd H2 s2.heap.objs.size (.lst [])) fp (X.pn++jb) E1) (λ_=>EX U):=λFT σ' H' s' ev s'' I' c=>⟨FT,σ',H',s',I'.unX,c⟩;have out:∀ev s',E1 ev s'->notedBy (model X.prog X.w) X.A (compEnvC sc (Ep X.env sc.names []) s3.heap.objs.size X.env) (λe s''=>compPost (model X.prog X.w) X.A X.xe none (λv s'=>EP X jb U Q v s') (.ref s2.heap.objs.size) s3.heap.objs.size (.error e) s'') ev s':=by
  rintro ev s' ⟨lV,σ1,H1,s1,I1,e,C,B,H9,rfl,x1,hE⟩;obtain⟨fl,hfl',f0⟩:=x1.fl;have f0':=f0;rw[hst] at f0';show wpAny (model X.prog X.w) X.A (noteFrame (.ref e) X.env) _ _ s';refine TY hfl' hfr hf f0' λhA fa ua=>?_;rw[<-hst] at fa;have xn:=Exc.noted x1 fa ua;obtain⟨m,⟨oC,es,ep,hoC,r⟩,_⟩:=I1.loc;have nD:H1 s3.heap.objs.size=none:=I1.free;have hoA:=fa.stays _ _ (x1.old _ _ hoC nD fD);refine⟨m,⟨oC,es,ep,hoA,r⟩,λh' sb cenv hc=>?_⟩;obtain⟨xs,fs⟩:=Exc.swap xn hoC nD fD sb (.inr ⟨_,rfl⟩) fa;refine eO fs λhb v fb ub=>?_;have I6:=Pk I3 f3 (I1.M8 (FT:=[]) λp hp=>absurd hp (Qbp)) (QJ s3.heap.objs.size s1.heap h');exact hx jb U H1 _ (.ref e) _ I6 ⟨e,C,_,H9,rq,Exc.noted xs fb ub,hE⟩
 have loop:codeAny (model X.prog X.w) X.A (.compLoop (.ListComp elt [⟨tg,iter,ifs,0⟩] sc pos) 0 (.ref it) (.ref s2.heap.objs.size) (compEnvC sc (Ep X.env sc.names []) s3.heap.objs.size X.env))
   (compPost (model X.prog X.w) X.A X.xe none (λv s'=>EP X jb U Q v s') (.ref s2.heap.objs.size) s3.heap.objs.size) { s3 with heap:=ha,toks:=s3.toks+([]:List (Str×Value)).length }:=by
  refine aQ rfl (λn s'=>∃i σ' H',Inv (cxC X N' sc s3 (upd H2 s2.heap.objs.size (.lst [])) fp (X.pn++jb)) [] σ' H' s'/\tn i s'.heap/\(∀b∈fp,H' b=none)/\W i n σ' H') ?_ m0 ⟨0,_,_,I4,st3,λb hb=>(f3 b hb).1,w0⟩;rintro n s4 ⟨i,σ4,H4,J4,st4,fr4,w4⟩;have stat:∀{H':Hp},(∀b∈fp,H' b=none)->∀b∈fp,Gh (cxC X N' sc s3 (upd H2 s2.heap.objs.size (.lst [])) fp (X.pn++jb)) [] H' b:=λhn b hb=>
   ⟨hn b hb,(I4.ok.exf b hb).1,I4.ok.IV b hb,.inl hb,λx c e=>(I4.ok.exf b hb).2 x c e,λp hp=>(f3 b hb).2.2.2.2.2 p ((Qby.mp hp).elim id λz=>by cases z)⟩
  rcases turn i n σ4 H4 w4 with⟨stop,qn⟩|⟨go,N,hN,step⟩
  ·refine Qcl (T.done (cxC X N' sc s3 (upd H2 s2.heap.objs.size (.lst [])) fp (X.pn++jb)) rfl rfl rfl hc i [] s4 σ4 H4 _ J4 (stat fr4) st4 stop) (λr s5 zz=>?_) λ_ _ (f:False)=>f.elim;obtain⟨hr,J5⟩:=zz;subst hr;obtain⟨m,hn,_⟩:=J5.loc;exact⟨m,hn,λh' sb=>⟨.ref s2.heap.objs.size,H4,Pk I3 f3 J5 sb,rq,qn⟩⟩
  ·refine Qcl (T.item (cxC X N' sc s3 (upd H2 s2.heap.objs.size (.lst [])) fp (X.pn++jb)) rfl rfl rfl hc i [] s4 σ4 H4 _ J4 (stat fr4) st4 go) (λr s5 zz=>?_) λ_ _ (f:False)=>f.elim;obtain⟨u,hr,h5⟩:=zz;subst hr;refine Qcl h5 (λ_ s6 zz=>?_) λ_ _ (f:False)=>f.elim;obtain⟨x,H6,J6,r6,y6,st6,fr6⟩:=zz;have J6':=J6.pinned (stat fr6) (T.obj _ _ st6);have back:∀{pl:YC} {σ7:St} {H7:Hp} {s7:Shared},Inv (cxC X N' sc s3 (upd H2 s2.heap.objs.size (.lst [])) fp (X.pn++jb)) ([]++Kg fp s6.heap) σ7 H7 s7->N σ7 H7 ->
     ∃m',m' < n/\∃i σ' H',Inv (cxC X N' sc s3 (upd H2 s2.heap.objs.size (.lst [])) fp (X.pn++jb)) [] σ' H' s7/\tn i s7.heap/\(∀b∈fp,H' b=none)/\W i m' σ' H':=λ{pl σ7 H7 s7} J7 w7=>by
    obtain⟨m',hm,w7⟩:=hN _ _ w7;have pinned:∀b∈fp,∀o,s6.heap.get? b=some o->s7.heap.get? b=some o/\H7 b=none:=λb hb o e=>by
     have:=J7.pin (b,o) (Qax _ (Qax _ (GF hb e)));exact⟨this.1,this.2.1⟩
    refine⟨m',hm,i+1,σ7,H7,J7.Gx,T.keep _ _ _ st6 λb hb o e=>(pinned b hb o e).1,λb hb=>?_,w7⟩;obtain⟨o,e,_⟩:=T.obj _ _ st6 b hb;exact (pinned b hb o e).2
   refine Qcl (hg s3 _ fp _ _ s6 σ4 H6 x u _ J6' r6 (step x H6 y6)) (λ_ s7 zz=>?_) λ_ _ (f:False)=>f.elim;obtain⟨σ7,H7,J7,q7⟩:=zz;refine Qcl (ht s3 _ fp _ _ s7 σ7 H7 _ J7 q7) (λok s8 zz=>?_) λ_ _ (f:False)=>f.elim;obtain⟨H8,J8,q8⟩:=zz;cases ok with
   | false=>
    rw[if_neg QaP] at q8 ⊢;exact back (pl:=[]) J8 q8
   | true=>
    rw[if_pos rfl] at q8 ⊢;refine Qcl (he s3 _ fp _ E1 _ hp _ s8 σ7 H8 _ J8.toX q8) (λy s9 zz=>?_) out;obtain⟨yv,H9,J9',r9,xs,hl9,hz9,q9⟩:=zz;have J9:=J9'.unX;refine Qcl (En (X:=cxC X N' sc s3 (upd H2 s2.heap.objs.size (.lst [])) fp (X.pn++jb)) _ s9 σ7 H9 (.ref s2.heap.objs.size) [yv] (.ref s2.heap.objs.size) [y] (λ_ H'=>N σ7 H') J9 rfl (.cons r9 .nil) ⟨_,xs,yv,rq,rq,hl9,hz9,q9⟩) (λ_ s10 zz=>?_) λ_ _ (f:False)=>f.elim;obtain⟨_,H10,J10,_,q10⟩:=zz;exact back (pl:=[]) J10 q10
 exact codeAny_compStart_list loop (T.self X.A 0 _ _ _ st3 loop)
end L2
namespace K29
open PySem L2
def top (i:Nat):Stmt:=PySem.Challenge.pw_warnloop_k29_texts_of_no_rules.main.body.getD i (.Pass ⟨0,0,0,0⟩)
theorem Bh:bootBuiltins "isinstance"=some (.builtin "isinstance"):=by trivial
theorem LQ:bootBuiltins "int"=some (.type "int"):=by trivial
theorem Zi:bootBuiltins "bool"=some (.type "bool"):=by trivial
theorem IW:bootBuiltins "tuple"=some (.type "tuple"):=by trivial
theorem GR:bootBuiltins "str"=some (.type "str"):=by trivial
theorem Cy:bootBuiltins "len"=some (.builtin "len"):=by trivial
theorem Px:bootBuiltins "all"=some (.builtin "all"):=by trivial
theorem fQ:bootBuiltins "abs"=some (.builtin "abs"):=by trivial
theorem tO:bootBuiltins "max"=some (.builtin "max"):=by trivial
theorem tM:bootBuiltins "min"=some (.builtin "min"):=by trivial
structure Nm (mg:YB):Prop where
 isinstance:mg "isinstance"=none
 int:mg "int"=none
 bool:mg "bool"=none
 tuple:mg "tuple"=none
 list:mg "list"=none
 str:mg "str"=none
 len:mg "len"=none
 all:mg "all"=none
 abs:mg "abs"=none
 max:mg "max"=none
 min:mg "min"=none
 range:mg "range"=none
 sorted:mg "sorted"=none
 any:mg "any"=none
 sum:mg "sum"=none
 enumerate:mg "enumerate"=none
 zip:mg "zip"=none
 reversed:mg "reversed"=none
 dict:mg "dict"=none
 ord:mg "ord"=none
 set:mg "set"=none
abbrev SX:Stmt:=top 46
abbrev Nf:YF:=["_law_script","_law_k"]
theorem QK:Bo ["_law_script","_law_k","_law_cell"] Nf (Ar SX):=by ac_rfl
abbrev QS:Stmt:=top 47
abbrev Fw:YF:=["_law_bag_here","_law_many"]
theorem Jd:Bo ["_law_bag_here","_law_many","_law_digit","_law_primes","_law_step","_law_base","_law_found"] Fw (Ar QS):=by ac_rfl
theorem rG (v:V):isW v=(isI v&&!isB v):=by cases v <;> rfl
def BL (H:Hp) (b:Addr) (n:Nat):Prop:=∃x y z:Int,H b=some (.lst [.int x,.int y,.int z])/\0<=x/\0<=y/\y<=4294967296/\0<=z/\z<=n
theorem BL.same {H H':Hp} {b:Addr} {n:Nat} (h:BL H b n) (s:Same H H'):BL H' b n:=by
 obtain⟨x,y,z,e,r⟩:=h;exact⟨x,y,z,s _ _ e,r⟩
theorem BL.mono {H:Hp} {b:Addr} {n m:Nat} (h:BL H b n) (l:n<=m):BL H b m:=by
 obtain⟨x,y,z,e,h1,h2,h3,h4,h5⟩:=h;exact⟨x,y,z,e,h1,h2,h3,h4,by omega⟩
theorem BL.nb {H:Hp} {b p:Addr} {n:Nat} (h:BL H b n) (hp:H p=none):b≠p:=by obtain⟨_,_,_,e,_⟩:=h;exact Cp e hp
theorem BL.N5 {H:Hp} {b:Addr} {n:Nat} (h:BL H b n):∀xs,H b≠some (.tup xs):=λxs z=>by obtain⟨_,_,_,e,_⟩:=h;rw[e] at z;cases z
theorem BL.ex {H:Hp} {b:Addr} {n:Nat} (h:BL H b n):∃o,H b=some o:=by obtain⟨_,_,_,e,_⟩:=h;exact⟨_,e⟩
theorem BL.Fy {H H':Hp} {a b:Addr} {n:Nat} (h:BL H b n) (s:Aw a H H') (ne:b≠a):BL H' b n:=by
 obtain⟨x,y,z,e,r⟩:=h;exact⟨x,y,z,s _ _ e ne,r⟩
theorem Ao {n:Nat} (h:n<=1000):n<=sizeLine:=Nat.le_of_lt (Ca h)
def lK (K:YD):Sp:=λvs H Q _=>∃(a:Addr) (ns:List Int) (k:Int),vs=[.ref a,.int k]/\SqL K H a (ns.map V.int)/\ns.length<=63/\0<=k/\k<=100/\∀p o,H p=none->BL (upd H p o) p 0->Q (.ref p) (upd H p o)
def Kd:Sp:=λvs H Q _=>∃(b:Addr) (n:Nat) (m:Int),vs=[.ref b,.int m]/\BL H b n/\n<=10000/\0 < m/\m < 1073741824/\∀r H',0<=r->r < m->BL H' b (n+1)->Aw b H H'->Q (.int r) H'
def Vn (K:YD):Sp:=λvs H Q _=>∃(a:Addr) (ns:List Int),vs=[.ref a]/\SqL K H a (ns.map V.int)/\ns.length<=63/\∀H',Q (.bl true) H'
theorem at7 {i:Int} (h0:0<=i) (h7:i < 7) {a b c d e f g:Int} (P:Int->Prop) (ha:P a) (hb:P b) (hc:P c) (hd:P d) (he:P e) (hf:P f) (hg:P g):∃p,atI [V.int a,.int b,.int c,.int d,.int e,.int f,.int g] i=some (.int p)/\P p:=by
 have:i=0\/i=1\/i=2\/i=3\/i=4\/i=5\/i=6:=by omega
 rcases this with rfl | rfl | rfl | rfl | rfl | rfl | rfl
 ·exact⟨_,rq,ha⟩
 ·exact⟨_,rq,hb⟩
 ·exact⟨_,rq,hc⟩
 ·exact⟨_,rq,hd⟩
 ·exact⟨_,rq,he⟩
 ·exact⟨_,rq,hf⟩
 ·exact⟨_,rq,hg⟩
theorem tD {x:Int} {b:Bool}:Xz x (if b=true then 1 else 0):=.inr (by cases b <;> exact⟨by decide,by decide⟩)
section
variable {P:Program} {w:World} {K:YD} {mg:YB} {base:Heap}
theorem iG (C:Code K mg "_law_bag" SX Nf) (T:Nm mg):Good P w K mg base "_law_bag" 1 Nf (lK K):=by
 refine C.good QK (λvs H Q E h=>?_) (λf cdv A outer s H vs Q E hr h=>?_)
 ·obtain⟨a,ns,k,rfl,_⟩:=h;rfl
 obtain⟨a,ns,k,rfl,hS,h63,h0,h1,q⟩:=h;refine⟨_,(Ad (Bf (i:=2) QK.nd rfl (Or.inl rfl) (Aq Dd (Aq Dd (Aq Hs (Aq Hs Ac (pv 1)) (pv 1)) (Aq Hs Ac (pv 1))) Ac))
 (Ad (Bg (Av JW (pv 1) (Ax BR rfl T.len Cy (Aa (pv 0) Ab)) (Bc _)) (Ah (Bf (i:=2) QK.nd rfl (Or.inl rfl) (Ba Br (pv 0) (pv 1) (λ_ _=>rfl)))) Ay)
 (Ah (Ak (Dj (Aa (Aq Hs (Ax Xn rfl T.abs fQ (Aa (pv 2) Ab)) (Dr Pu rfl T.int LQ (Aa (Dy uT (Ax Xn rfl T.abs fQ (Aa (pv 2) Ab)) (Aq cP Ac Ac) (Bc _)) Ab))) (Aa (Aq Dd (Aq Kq (pv 2) Ac) (Aq Hs Ac (pv 1))) (Aa Ac Ab)))))))),?_⟩
 show let R0:TS:=_;let R1:TS:=_;let R2:TS:=Al (BX _ R1 _) R0;Al _ R2 _ _ _;intro R0 R1 R2;refine⟨_,rq,_,_,rq,rq,.inl ⟨by decide,by decide⟩,_,rq,_,_,rq,rq,.inr ⟨by omega,by omega⟩,_,rq,_,_,rq,rq,.inl ⟨by decide,by decide⟩,_,_,rq,rq,_,_,rq,rq,?_⟩;refine⟨_,rq,_,rq,a,_,rq,.inl hS,_,_,rq,rq,_,rq,?_⟩;have hl:(ns.map V.int).length=ns.length:=Qbw _;have fin:∀(c:Int) (p:Addr),H p=none->Q (.ref p) (upd H p (.lst [.int ((if c < 0 then -c else c)*(if decide ((10:Int) ^ (18:Int).toNat<=(if c < 0 then -c else c))=true then 1 else 0)),.int (c % 2147483647+37*k),.int 0])):=λc p hp=>by
  refine q p _ hp ⟨_,_,_,Ae,?_,?_,?_,by omega,by omega⟩
  ·refine Int.mul_nonneg ?_ ?_
   ·split <;> omega
   ·split <;> omega
  ·have:=QbK c (show (2147483647:Int)≠0 by decide);omega
  ·have:=QaV c (show (0:Int) < 2147483647 by decide);omega
 refine aJ (λc1=>?_) (λc1=>?_)
 ·have c':k < (((ns.map V.int).length:Nat):Int):=Qba c1;rw[hl] at c';have hk:k.toNat < ns.length:=by omega
  have hat:atI (ns.map V.int) ((k.toNat:Nat):Int)=some (.int ns[k.toNat]):=Aj (by rw[Qbe];simp[hk]);rw[Int.toNat_of_nonneg h0] at hat;refine⟨_,rq,_,rq,a,_,_,_,rq,rq,hS,hat,?_⟩;exact⟨_,rq,_,rq,_,rq,_,rq,_,_,rq,rq,⟨by decide,by decide,by decide⟩,_,_,rq,rq,.inr ⟨_,rq,_,_,rq,rq,tD,_,rq,_,_,rq,rq,(by show (0:Int) < 2147483647;decide),_,rq,_,_,rq,rq,.inl ⟨by decide,by decide⟩,_,_,rq,rq,
   (by show 3<=sizeLine;decide),λl hl'=>fin _ l hl'⟩⟩
 ·exact⟨_,rq,_,rq,_,rq,_,rq,_,_,rq,rq,⟨by decide,by decide,by decide⟩,_,_,rq,rq,.inr ⟨_,rq,_,_,rq,rq,tD,_,rq,_,_,rq,rq,(by show (0:Int) < 2147483647;decide),_,rq,_,_,rq,rq,.inl ⟨by decide,by decide⟩,_,_,rq,rq,
   (by show 3<=sizeLine;decide),λl hl'=>fin _ l hl'⟩⟩
theorem cT (C:Code K mg "_law_take" QS Fw) (T:Nm mg):Good P w K mg base "_law_take" 1 Fw Kd:=by
 refine C.good Jd (λvs H Q E h=>?_) (λf cdv A outer s H vs Q E hr h=>?_)
 ·obtain⟨b,n,m,rfl,_⟩:=h;rfl
 obtain⟨b,n,m,rfl,⟨x,y,z,hb,x0,y0,y1,z0,z1⟩,hn,m0,m1,q⟩:=h;refine⟨_,(Ad (Bg (Av Vt (Ba Br (pv 0) Ac (λ_ _=>rfl)) Ac (Bc _)) (Ad (Bf (i:=2) Jd.nd rfl (Or.inl rfl) (Aq Kq (Ba Br (pv 0) Ac (λ_ _=>rfl)) (pv 1)))
 (Ad (CV (Aq Ng (Ba Br (pv 0) Ac (λ_ _=>rfl)) (pv 1)) (O9 (pv 0) Ac set_list))
 (Ah (Ak (pv 2))))) Ay)
 (Ad (Bf (i:=3) Jd.nd rfl (Or.inl rfl) (@Bl _ _ _ _ _ (@Aa _ _ _ _ _ (@Ac _ _ _ _) (@Aa _ _ _ _ _ (@Ac _ _ _ _) (@Aa _ _ _ _ _ (@Ac _ _ _ _) (@Aa _ _ _ _ _ (@Ac _ _ _ _) (@Aa _ _ _ _ _ (@Ac _ _ _ _) (@Aa _ _ _ _ _ (@Ac _ _ _ _) (@Aa _ _ _ _ _ (@Ac _ _ _ _) (@Ab _) BJ) BJ) BJ) BJ) BJ) BJ) BJ)))
 (Ad (CV (Aq Dd (Ba Br (pv 0) Ac (λ_ _=>rfl)) Ac) (O9 (pv 0) Ac set_list))
 (Ad (Bf (i:=4) Jd.nd rfl (Or.inl rfl) (Ba Br (pv 0) Ac (λ_ _=>rfl)))
 (Ad (Bf (i:=5) Jd.nd rfl (Or.inl rfl) (Aq Dd (Aq Dd (Aq Hs (Ba Br (pv 0) Ac (λ_ _=>rfl)) (Aq Dd (Aq Hs Ac (pv 4)) Ac)) (Aq Hs (Aq Hs Ac (pv 4)) (pv 4))) Ac))
 (Ad (Bf (i:=6) Jd.nd rfl (Or.inl rfl) (Aq Kq (Aq cP (pv 5) Ac) (Ba Bm (pv 3) (Aq Kq (pv 4) Ac) (λ_ _=>rfl))))
 (Ah (Ak (Aq Kq (Aq Ng (Aq Kq (Aq Hs (pv 6) (Aq Dd (Aq Ng (pv 6) Ac) Ac)) (Ba Bm (pv 3) (Aq Kq (Aq Dd (pv 4) Ac) Ac) (λ_ _=>rfl))) Ac) (pv 1)))))))))),?_⟩
 show let R0:TS:=_;let R1:TS:=Al _ R0;let R2:TS:=Al _ R1;let R3:TS:=Al _ R2;let R4:TS:=Al _ R3;let R5:TS:=Al _ R4;let R6:TS:=Al _ _;let R7:TS:=Al _ R6;Al (BX _ R7 _) R5 _ _ _;intro R0 R1 R2 R3 R4 R5 R6 R7;refine⟨_,rq,b,_,_,_,rq,rq,SqL.of hb,rq,_,_,rq,rq,_,rq,?_⟩;refine aJ (λc1=>?_) (λc1=>?_)
 ·have c':0 < x:=Qba c1;refine⟨_,rq,b,_,_,_,rq,rq,SqL.of hb,rq,_,rq,_,_,rq,rq,m0,?_⟩;refine⟨_,rq,b,_,_,_,rq,rq,SqL.of hb,rq,_,rq,_,_,rq,rq,⟨m0,m1⟩,_,rq,b,_,_,_,rq,rq,hb,rq,?_⟩;exact⟨_,rq,q _ _ (QbK x (by omega)) (QaV x m0) ⟨x / m,y,z,Ae,Int.ediv_nonneg x0 (by omega),y0,y1,z0,by omega⟩ Aw.upd⟩
 ·refine⟨(by show 7<=sizeLine;decide),λtp htp=>?_⟩;have nbt:b≠tp:=Cp hb htp;have hb1:∀o,(upd H tp o) b=some (.lst [.int x,.int y,.int z]):=λo=>by rw[Bw nbt];exact hb
  have ht1:∀o u,(upd (upd H tp o) b u) tp=some o:=λo u=>by rw[Bw nbt.symm,Ae]
  refine⟨_,rq,b,_,_,_,rq,rq,SqL.of (hb1 _),rq,_,_,rq,rq,_,rq,b,_,_,_,rq,rq,hb1 _,rq,?_⟩;refine⟨_,rq,b,_,_,_,rq,rq,SqL.of Ae,rq,?_⟩;have s0:0<=z+1:=by omega
  have s1:z+1<=10001:=by omega
  refine⟨_,rq,b,_,_,_,rq,rq,SqL.of Ae,rq,_,rq,_,_,rq,rq,.inl ⟨by decide,by decide⟩,_,_,rq,rq,_,_,rq,rq,.inl ⟨by omega,by omega⟩,_,rq,_,_,rq,rq,.inl ⟨by decide,by decide⟩,_,rq,_,_,rq,rq,.inr ⟨by omega,by omega⟩,
   _,_,rq,rq,_,_,rq,rq,?_⟩
  have hbase:(y*(2*(z+1)+1)+6007*(z+1)*(z+1)+29).natAbs < 2 ^ 64:=by
   have h1:0<=y*(2*(z+1)+1):=Int.mul_nonneg y0 (by omega);have h2:y*(2*(z+1)+1)<=4294967296*20003:=Int.mul_le_mul y1 (by omega) (by omega) (by omega);have h3:0<=6007*(z+1)*(z+1):=Int.mul_nonneg (by omega) s0;have h4:6007*(z+1)*(z+1)<=(6007*10001)*10001:=Int.mul_le_mul (by omega) s1 s0 (by omega);omega
  obtain⟨p1,e1,p10,p11⟩:=at7 (i:=(z+1) % 7) (QbK _ (by decide)) (QaV _ (by decide)) (a:=2147483629) (b:=2147483587) (c:=2147483579) (d:=2147483563) (e:=2147483549) (f:=2147483543) (g:=2147483497)
   (λp=>0 < p/\p < 2147483648) (by decide) (by decide) (by decide) (by decide) (by decide) (by decide) (by decide)
  obtain⟨p2,e2,p20,p21⟩:=at7 (i:=(z+1+3) % 7) (QbK _ (by decide)) (QaV _ (by decide)) (a:=2147483629) (b:=2147483587) (c:=2147483579) (d:=2147483563) (e:=2147483549) (f:=2147483543) (g:=2147483497)
   (λp=>0 < p/\p < 2147483648) (by decide) (by decide) (by decide) (by decide) (by decide) (by decide) (by decide)
  refine⟨_,rq,_,_,rq,rq,⟨by decide,by decide,hbase⟩,_,rq,_,rq,_,_,rq,rq,(by show (0:Int) < 7;decide),tp,_,_,_,rq,rq,SqT.of (ht1 _ _),e1,_,_,rq,rq,p10,?_⟩;generalize hF:(y*(2*(z+1)+1)+6007*(z+1)*(z+1)+29) ^ (3:Int).toNat % p1=F;have F0:0<=F:=by rw[<-hF];exact QbK _ (by omega)
  have F1:F < p1:=by rw[<-hF];exact QaV _ p10
  refine⟨_,rq,_,rq,_,_,rq,rq,⟨by decide,by decide⟩,_,_,rq,rq,_,_,rq,rq,.inl ⟨by omega,by omega⟩,_,rq,_,rq,_,_,rq,rq,_,_,rq,rq,(by show (0:Int) < 7;decide),tp,_,_,_,rq,rq,SqT.of (ht1 _ _),e2,_,_,rq,rq,p20,
   _,_,rq,rq,⟨by decide,by decide⟩,_,rq,_,_,rq,rq,m0,?_⟩
  refine q _ _ (QbK _ (by omega)) (QaV _ m0) ⟨x,y,z+1,Ae,x0,y0,y1,s0,by omega⟩ λc o e nc=>?_;rw[Bw nc,Bw (Cp e htp)];exact e
end
abbrev QV:Stmt:=top 55
abbrev JG:YF:=["_law_e"]
theorem Ke:Bo ["_law_e","_law_kinds","_law_names_here"] JG (Ar QV):=by ac_rfl
structure Er (K:YD) (mg:YB) (hc c0 c1 c2 c3 c4 c5 c6 c7 c8 c9 c10 c11 c12:Addr):Prop where
 ve:mg "ValueError"=none
 Qy:mg "HouseError"=some (.ref hc)
 Qx:XCl K hc
 oh:mg "NoPlan"=some (.ref c0)
 Qm:mg "NoText"=some (.ref c1)
 ak:mg "NoStretch"=some (.ref c2)
 nZ:mg "NoSpot"=some (.ref c3)
 cX:mg "NoOpener"=some (.ref c4)
 ao:mg "NoAddress"=some (.ref c5)
 iR:mg "NoRules"=some (.ref c6)
 oE:mg "NoHand"=some (.ref c7)
 iU:mg "NoPanel"=some (.ref c8)
 oA:mg "NoLink"=some (.ref c9)
 qZ:mg "NoLog"=some (.ref c10)
 oF:mg "NoDeed"=some (.ref c11)
 qY:mg "NoRow"=some (.ref c12)
structure Knd (K:YD) (hc C:Addr) (cs:List Addr) (j:Nat):Prop where
 xc:XCl K C
 sub:subIn K (.ref C) (.ref hc)=some true
 kit:∀i d,cs[i]?=some d->kitOne K (.ref C) (.ref d)=some (decide (i=j))
 kv:kitOne K (.ref C) (.type "ValueError")=some true
def mj (j:Nat):Str:=(["plan","text","stretch","spot","opener","address","rules","hand","panel","link","log","deed","row"]:YF).getD j ""
def bsl (j:Nat):List Bool:=[decide (0=j),decide (1=j),decide (2=j),decide (3=j),decide (4=j),decide (5=j),decide (6=j),decide (7=j),decide (8=j),decide (9=j),decide (10=j),decide (11=j),decide (12=j)]
theorem fU:∀j,j < 13->(bsl j).countP id=1:=by decide
theorem tR:∀j,j < 13->(bsl j)[j]?=some true:=by decide
theorem tQ:∀j,j < 13->∀m,m < j->(bsl j)[m]?=some false:=by decide
theorem wordAt:∀j,j < 13->([.str "plan",.str "text",.str "stretch",.str "spot",.str "opener",.str "address",.str "rules",.str "hand",.str "panel",.str "link",.str "log",.str "deed",.str "row"]:YG)[j]?=some (.str (mj j))
 | 0,_=>rfl
 | 1,_=>rfl
 | 2,_=>rfl
 | 3,_=>rfl
 | 4,_=>rfl
 | 5,_=>rfl
 | 6,_=>rfl
 | 7,_=>rfl
 | 8,_=>rfl
 | 9,_=>rfl
 | 10,_=>rfl
 | 11,_=>rfl
 | 12,_=>rfl
 | n+13,h=>absurd h (by omega)
def V6 (K:YD) (hc:Addr) (cs:List Addr):Sp:=λvs H Q _=>∃(e C:Addr) (j:Nat),vs=[.ref e]/\H e=some (xo e C)/\Knd K hc C cs j/\j < 13/\∀H',Same H H'->Q (.str (mj j)) H'
section
variable {P:Program} {w:World} {K:YD} {mg:YB} {base:Heap} {hc c0 c1 c2 c3 c4 c5 c6 c7 c8 c9 c10 c11 c12:Addr}
theorem nP (C:Code K mg "_law_kind" QV JG) (T:Nm mg) (XE:Er K mg hc c0 c1 c2 c3 c4 c5 c6 c7 c8 c9 c10 c11 c12):Sw P w K mg base "_law_kind" 1 JG (V6 K hc [c0,c1,c2,c3,c4,c5,c6,c7,c8,c9,c10,c11,c12]):=by
 refine C.vm Ke (λvs H Q E h=>?_) (λf cdv A outer s H vs Q hr h=>?_)
 ·obtain⟨e,C,j,rfl,_⟩:=h;rfl
 obtain⟨e,C,j,rfl,he,k,hj,q⟩:=h;refine⟨_,(@Ad _ _ _ _ _ (@Bf _ _ 1 _ _ _ _ Ke.nd rfl (Or.inl rfl) (Dj (Aa (Ax Ej rfl T.isinstance Bh (Aa (pv 0) (Aa (Et (v:=.ref _) rfl XE.oh rfl) Ab))) (Aa (Ax Ej rfl T.isinstance Bh (Aa (pv 0) (Aa (Et (v:=.ref _) rfl XE.Qm rfl) Ab))) (Aa (Ax Ej rfl T.isinstance Bh (Aa (pv 0) (Aa (Et (v:=.ref _) rfl XE.ak rfl) Ab))) (Aa (Ax Ej rfl T.isinstance Bh (Aa (pv 0) (Aa (Et (v:=.ref _) rfl XE.nZ rfl) Ab))) Ab))))) (by rfl) (by first | exact .inl rfl | exact .inr rfl))
 (@Ad _ _ _ _ _ (@Bf _ _ 1 _ _ _ _ Ke.nd rfl (Or.inl rfl) (@Aq _ _ _ _ _ _ _ _ cQ (pv 1) (Dj (Aa (Ax Ej rfl T.isinstance Bh (Aa (pv 0) (Aa (Et (v:=.ref _) rfl XE.cX rfl) Ab))) (Aa (Ax Ej rfl T.isinstance Bh (Aa (pv 0) (Aa (Et (v:=.ref _) rfl XE.ao rfl) Ab))) (Aa (Ax Ej rfl T.isinstance Bh (Aa (pv 0) (Aa (Et (v:=.ref _) rfl XE.iR rfl) Ab))) (Aa (Ax Ej rfl T.isinstance Bh (Aa (pv 0) (Aa (Et (v:=.ref _) rfl XE.oE rfl) Ab))) Ab)))))) (by rfl) (by first | exact .inl rfl | exact .inr rfl))
 (@Ad _ _ _ _ _ (@Bf _ _ 1 _ _ _ _ Ke.nd rfl (Or.inl rfl) (@Aq _ _ _ _ _ _ _ _ cQ (pv 1) (Dj (Aa (Ax Ej rfl T.isinstance Bh (Aa (pv 0) (Aa (Et (v:=.ref _) rfl XE.iU rfl) Ab))) (Aa (Ax Ej rfl T.isinstance Bh (Aa (pv 0) (Aa (Et (v:=.ref _) rfl XE.oA rfl) Ab))) (Aa (Ax Ej rfl T.isinstance Bh (Aa (pv 0) (Aa (Et (v:=.ref _) rfl XE.qZ rfl) Ab))) (Aa (Ax Ej rfl T.isinstance Bh (Aa (pv 0) (Aa (Et (v:=.ref _) rfl XE.oF rfl) Ab))) Ab)))))) (by rfl) (by first | exact .inl rfl | exact .inr rfl))
 (@Ad _ _ _ _ _ (Jg (Dz Qap Qan Qao En (pv 1) (Aa (Ax Ej rfl T.isinstance Bh (Aa (pv 0) (Aa (Et (v:=.ref _) rfl XE.qY rfl) Ab))) Ab)))
 (@Ad _ _ _ _ _ (@Bf _ _ 2 _ _ _ _ Ke.nd rfl (Or.inl rfl) (@Dj _ _ _ _ (@Aa _ _ _ _ _ (@Af _ _ _ _) (@Aa _ _ _ _ _ (@Af _ _ _ _) (@Aa _ _ _ _ _ (@Af _ _ _ _) (@Aa _ _ _ _ _ (@Af _ _ _ _) (@Aa _ _ _ _ _ (@Af _ _ _ _) (@Aa _ _ _ _ _ (@Af _ _ _ _) (@Aa _ _ _ _ _ (@Af _ _ _ _) (@Aa _ _ _ _ _ (@Af _ _ _ _) (@Aa _ _ _ _ _ (@Af _ _ _ _) (@Aa _ _ _ _ _ (@Af _ _ _ _) (@Aa _ _ _ _ _ (@Af _ _ _ _) (@Aa _ _ _ _ _ (@Af _ _ _ _) (@Ab _) BJ) BJ) BJ) BJ) BJ) BJ) BJ) BJ) BJ) BJ) BJ) BJ)) (by rfl) (by first | exact .inl rfl | exact .inr rfl))
 (@Ad _ _ _ _ _ (Jg (Dz Qap Qan Qao En (pv 2) (Aa Af Ab)))
 (@Ad _ _ _ _ _ (Bg (PW.pt (DR (Cw (Ci (Ax fP rfl T.isinstance Bh (Aa (pv 0) (Aa (Ef (v:=.ty "ValueError") rfl XE.ve PyProof.Rows.Boot.«ValueError» rfl) Ab))))) (DQ (Av Jt (Dz Qap PySem.F.slot_list_count PySem.F.type_list_count cZ (pv 1) (Aa Eu Ab)) Ac (Bc _))))) (@Ah _ _ _ (@Ak _ _ _ _ Af)) Ay)
 (@Ah _ _ _ (@Ak _ _ _ _ (@Ba _ _ _ _ _ _ _ Br (pv 2) (Dz Qap PySem.F.slot_list_index PySem.F.type_list_index cY (pv 1) (Aa Eu Ab)) (λ_ _=>rfl))))))))))),?_⟩
 show let R0:TS:=_;let R1:TS:=Al _ R0;let R2:TS:=Al _ R1;let R3:TS:=Al _ R2;let R4:TS:=Al _ R3;let R5:TS:=Al _ R4;let R6:TS:=Al _ R5;Al _ R6 _ _ _;intro R0 R1 R2 R3 R4 R5 R6;refine⟨_,rq,Gu he k.xc (k.kit 0 _ rfl) ⟨_,rq,Gu he k.xc (k.kit 1 _ rfl) ⟨_,rq,Gu he k.xc (k.kit 2 _ rfl) ⟨_,rq,Gu he k.xc (k.kit 3 _ rfl) ⟨Ao (by show 4<=1000;decide),λl1 hl1=>?_⟩⟩⟩⟩⟩;have s1:=Ag hl1 (.lst [V.bl (decide (0=j)),.bl (decide (1=j)),.bl (decide (2=j)),.bl (decide (3=j))]);have e1:upd H l1 (.lst [V.bl (decide (0=j)),.bl (decide (1=j)),.bl (decide (2=j)),.bl (decide (3=j))]) l1=some (.lst [V.bl (decide (0=j)),.bl (decide (1=j)),.bl (decide (2=j)),.bl (decide (3=j))]):=Ae;generalize upd H l1 (.lst [V.bl (decide (0=j)),.bl (decide (1=j)),.bl (decide (2=j)),.bl (decide (3=j))])=H1 at s1 e1 ⊢;have he1:=s1 _ _ he;refine⟨_,rq,⟨_,rq,Gu he1 k.xc (k.kit 4 _ rfl) ⟨_,rq,Gu he1 k.xc (k.kit 5 _ rfl) ⟨_,rq,Gu he1 k.xc (k.kit 6 _ rfl) ⟨_,rq,Gu he1 k.xc (k.kit 7 _ rfl) ⟨Ao (by show 4<=1000;decide),λla hla=>⟨l1,la,_,_,rq,rq,Ag hla _ _ _ e1,Ae,Ao (by show 8<=1000;decide),λlb hlb=>?_⟩⟩⟩⟩⟩⟩⟩;have sa:=Ag hla (.lst [V.bl (decide (4=j)),.bl (decide (5=j)),.bl (decide (6=j)),.bl (decide (7=j))]);have sb:=Ag hlb (.lst ([V.bl (decide (0=j)),.bl (decide (1=j)),.bl (decide (2=j)),.bl (decide (3=j))]++[V.bl (decide (4=j)),.bl (decide (5=j)),.bl (decide (6=j)),.bl (decide (7=j))]));have e2:upd (upd H1 la (.lst [V.bl (decide (4=j)),.bl (decide (5=j)),.bl (decide (6=j)),.bl (decide (7=j))])) lb (.lst ([V.bl (decide (0=j)),.bl (decide (1=j)),.bl (decide (2=j)),.bl (decide (3=j))]++[V.bl (decide (4=j)),.bl (decide (5=j)),.bl (decide (6=j)),.bl (decide (7=j))])) lb=some (.lst ([V.bl (decide (0=j)),.bl (decide (1=j)),.bl (decide (2=j)),.bl (decide (3=j))]++[V.bl (decide (4=j)),.bl (decide (5=j)),.bl (decide (6=j)),.bl (decide (7=j))])):=Ae;have s2:=s1.trans (sa.trans sb);generalize upd (upd H1 la (.lst [V.bl (decide (4=j)),.bl (decide (5=j)),.bl (decide (6=j)),.bl (decide (7=j))])) lb (.lst ([V.bl (decide (0=j)),.bl (decide (1=j)),.bl (decide (2=j)),.bl (decide (3=j))]++[V.bl (decide (4=j)),.bl (decide (5=j)),.bl (decide (6=j)),.bl (decide (7=j))]))=H2 at sb e2 s2 ⊢;have he2:=s2 _ _ he;refine⟨_,rq,⟨_,rq,Gu he2 k.xc (k.kit 8 _ rfl) ⟨_,rq,Gu he2 k.xc (k.kit 9 _ rfl) ⟨_,rq,Gu he2 k.xc (k.kit 10 _ rfl) ⟨_,rq,Gu he2 k.xc (k.kit 11 _ rfl) ⟨Ao (by show 4<=1000;decide),λlc hlc=>⟨lb,lc,_,_,rq,rq,Ag hlc _ _ _ e2,Ae,Ao (by show 12<=1000;decide),λld hld=>?_⟩⟩⟩⟩⟩⟩⟩;have sc:=Ag hlc (.lst [V.bl (decide (8=j)),.bl (decide (9=j)),.bl (decide (10=j)),.bl (decide (11=j))]);have sd:=Ag hld (.lst ([V.bl (decide (0=j)),.bl (decide (1=j)),.bl (decide (2=j)),.bl (decide (3=j))]++[V.bl (decide (4=j)),.bl (decide (5=j)),.bl (decide (6=j)),.bl (decide (7=j))]++[V.bl (decide (8=j)),.bl (decide (9=j)),.bl (decide (10=j)),.bl (decide (11=j))]));have e3:upd (upd H2 lc (.lst [V.bl (decide (8=j)),.bl (decide (9=j)),.bl (decide (10=j)),.bl (decide (11=j))])) ld (.lst ([V.bl (decide (0=j)),.bl (decide (1=j)),.bl (decide (2=j)),.bl (decide (3=j))]++[V.bl (decide (4=j)),.bl (decide (5=j)),.bl (decide (6=j)),.bl (decide (7=j))]++[V.bl (decide (8=j)),.bl (decide (9=j)),.bl (decide (10=j)),.bl (decide (11=j))])) ld=some (.lst ([V.bl (decide (0=j)),.bl (decide (1=j)),.bl (decide (2=j)),.bl (decide (3=j))]++[V.bl (decide (4=j)),.bl (decide (5=j)),.bl (decide (6=j)),.bl (decide (7=j))]++[V.bl (decide (8=j)),.bl (decide (9=j)),.bl (decide (10=j)),.bl (decide (11=j))])):=Ae;have s3:=s2.trans (sc.trans sd);have fd:H ld=none:=s2.free (sc.free hld);generalize upd (upd H2 lc (.lst [V.bl (decide (8=j)),.bl (decide (9=j)),.bl (decide (10=j)),.bl (decide (11=j))])) ld (.lst ([V.bl (decide (0=j)),.bl (decide (1=j)),.bl (decide (2=j)),.bl (decide (3=j))]++[V.bl (decide (4=j)),.bl (decide (5=j)),.bl (decide (6=j)),.bl (decide (7=j))]++[V.bl (decide (8=j)),.bl (decide (9=j)),.bl (decide (10=j)),.bl (decide (11=j))]))=H3 at sd e3 s3 ⊢;have he3:=s3 _ _ he;refine⟨_,rq,.inl ⟨rq,_,SqL.of e3⟩,_,rq,Gu he3 k.xc (k.kit 12 _ rfl) ⟨ld,_,_,rq,rq,e3,Ca (by show 12<=1000;decide),?_⟩⟩;have e4:upd H3 ld (.lst ([V.bl (decide (0=j)),.bl (decide (1=j)),.bl (decide (2=j)),.bl (decide (3=j))]++[V.bl (decide (4=j)),.bl (decide (5=j)),.bl (decide (6=j)),.bl (decide (7=j))]++[V.bl (decide (8=j)),.bl (decide (9=j)),.bl (decide (10=j)),.bl (decide (11=j))]++[.bl (decide (12=j))])) ld=some (.lst ((bsl j).map V.bl)):=Ae;have s4:Same H (upd H3 ld (.lst ([V.bl (decide (0=j)),.bl (decide (1=j)),.bl (decide (2=j)),.bl (decide (3=j))]++[V.bl (decide (4=j)),.bl (decide (5=j)),.bl (decide (6=j)),.bl (decide (7=j))]++[V.bl (decide (8=j)),.bl (decide (9=j)),.bl (decide (10=j)),.bl (decide (11=j))]++[.bl (decide (12=j))]))):=s3.Fj Aw.upd fd;generalize upd H3 ld (.lst ([V.bl (decide (0=j)),.bl (decide (1=j)),.bl (decide (2=j)),.bl (decide (3=j))]++[V.bl (decide (4=j)),.bl (decide (5=j)),.bl (decide (6=j)),.bl (decide (7=j))]++[V.bl (decide (8=j)),.bl (decide (9=j)),.bl (decide (10=j)),.bl (decide (11=j))]++[.bl (decide (12=j))]))=H4 at e4 s4 ⊢;have he4:=s4 _ _ he;refine⟨Ao (by show 12<=1000;decide),λln hln=>?_⟩;have nd:ld≠ln:=Cp e4 hln;have fn:H ln=none:=s4.free hln;have s5:=s4.trans (Ag hln (.lst [V.str "plan",.str "text",.str "stretch",.str "spot",.str "opener",.str "address",.str "rules",.str "hand",.str "panel",.str "link",.str "log",.str "deed"]));have e5:=Ag hln (.lst [V.str "plan",.str "text",.str "stretch",.str "spot",.str "opener",.str "address",.str "rules",.str "hand",.str "panel",.str "link",.str "log",.str "deed"]) _ _ e4;refine⟨_,rq,.inl ⟨rq,_,SqL.of Ae⟩,ln,_,_,rq,rq,Ae,Ca (by show 12<=1000;decide),?_⟩;generalize upd H4 ln (.lst [V.str "plan",.str "text",.str "stretch",.str "spot",.str "opener",.str "address",.str "rules",.str "hand",.str "panel",.str "link",.str "log",.str "deed"])=H5 at s5 e5 ⊢;have e6:∀o,upd H5 ln o ld=some (.lst ((bsl j).map V.bl)):=λo=>by rw[Bw nd];exact e5
 have s6:∀o,Same H (upd H5 ln o):=λo=>s5.Fj Aw.upd fn;refine⟨_,rq,oM (s6 _ _ _ he) k.xc k.kv ⟨_,rq,Bs ?_⟩⟩;refine⟨_,rq,.inl ⟨rq,_,SqL.of (e6 _)⟩,fB (e6 _) ⟨rq,_,rq,?_⟩⟩;rw[fU j hj];refine aH rfl ?_;refine⟨_,rq,_,rq,.inl ⟨rq,_,SqL.of (e6 _)⟩,dW (e6 _) (by omega) (tR j hj) (tQ j hj) ⟨ln,_,_,_,rq,rq,SqL.of Ae,Aj (wordAt j hj),q _ (s6 _)⟩⟩
end
abbrev Nx:Stmt:=top 48
abbrev JF:YF:=["_law_bag_here"]
abbrev xj:YF:=["_law_bag_here","_law_letters"]
theorem Ui:Bo xj JF (Ar Nx):=by ac_rfl
abbrev Mg:Stmt:=top 49
abbrev Km:YF:=["_law_bag_here","_law_many"]
abbrev xk:YF:=["_law_bag_here","_law_many","_law_found","_law_place","_law_name_here"]
theorem Jl:Bo xk Km (Ar Mg):=by ac_rfl
theorem Y5 {K:YD} {H:Hp} {z:Str} {Q:VK} (q:Q (.bl true) H):Kz K [.str z,.ty "str"] H Q:=by
 unfold Kz;exact⟨_,_,_,_,rq,.str z,by rfl,q⟩
def abc:Str:="abcdefghijklmnopqrstuvwxyz"
def okS (z:Str):Prop:=∀c∈z.cps.toList,c∈abc.cps.toList
theorem okS.append {x y:Str} (h:okS x) (h':okS y):okS (x++y):=by
 intro c hc;have:c∈x.cps.toList++y.cps.toList:=by
  have e:(x++y).cps=x.cps++y.cps:=rfl;rw[e,Array.toList_append] at hc;exact hc
 rcases Qby.mp this with z | z
 ·exact h c z
 ·exact h' c z
theorem okS.slice {x:Str} (h:okS x) (l u:Option Int):okS (Txt.slice x l u):=by
 unfold Txt.slice;split
 ·exact h
 ·intro c hc;have hc':c∈(Builtin.Str.strSliceIndices l u 1 x.length).filterMap (x.cps[·]?):=by simpa using hc
  obtain⟨i,_,e⟩:=List.mem_filterMap.mp hc';exact h c (Array.mem_toList_iff.mpr (Array.mem_of_getElem? e))
theorem okS.join {sep:Str} (hs:okS sep):∀{ts:YF},(∀t∈ts,okS t)->okS (Str.join sep ts)
 | [],_=>λc hc=>by cases hc
 | [x],h=>h x (QaN ..)
 | x::y::r,h=>((h x (QaN ..)).append hs).append (okS.join hs (ts:=y::r) λt ht=>h t (QaB _ ht))
theorem Qt:abc.cps.toList.length=26:=by trivial
theorem tZ:abc.cps.toList.Nodup:=by trivial
theorem fW:okS abc:=λc hc=>hc
theorem WW:∀ts:YF,(Str.join "" ts).length=(ts.map (·.length)).sum
 | []=>rfl
 | [x]=>by show x.length=_;simp
 | x::y::r=>by
  show ((x++"")++Str.join "" (y::r)).length=_;rw[QaY,QaY,WW (y::r),QbR (a:=x),QbX];have:(Str.ofString "").length=0:=by trivial
  rw[this];omega
theorem yR (n:Nat):(Builtin.Str.strSliceIndices (some 1) none 1 n).length<=n - 1:=by
 unfold Builtin.Str.strSliceIndices sliceRange;simp only[show (1:Int) > 0 by decide,if_true,Qbw,List.length_range,show ¬((1:Int) < 0) by decide,if_false];split
 ·rw[Int.ediv_one];omega
 ·exact Qcg _
theorem bZ (z:Str):(Txt.slice z (some 1) none).length<=z.length - 1:=by
 have h:=yR z.length;unfold Txt.slice;split
 ·rename_i hc;rw[Qbk] at hc;have:=Qcn hc.2;omega
 ·show (List.filterMap _ _).toArray.size<=_;rw[Qbc];exact Qca (List.length_filterMap_le _ _) h
theorem ud {r:Int} (h0:0<=r) (h1:r < 26):∃c,atI abc.cps.toList r=some c/\okS ⟨#[c]⟩:=by
 have hl:r.toNat < abc.cps.toList.length:=by rw[Qt];omega
 refine⟨abc.cps.toList[r.toNat],?_,λc hc=>?_⟩
 ·have:=Aj (xs:=abc.cps.toList) (j:=r.toNat) (Qam hl);rw[Int.toNat_of_nonneg h0] at this;exact this
 ·have:c=abc.cps.toList[r.toNat]:=by simpa using hc
  rw[this];exact fW _ (Qbt hl)
theorem VR:∀{ys:YF},(∀y∈ys,y.length=1)->(ys.map (·.length)).sum=ys.length
 | [],_=>rfl
 | y::r,h=>by
  rw[QbR,QbX,h y (QaN ..),VR (ys:=r) λt ht=>h t (QaB _ ht),Qbl];omega
theorem Uw (ys:YF):(ys.map V.str).all JX=true:=by
 rw[List.all_map,Qbm];intro _ _;rfl
theorem N8 (z:Str):∀ys:YF,inV (.str z) (ys.map V.str)=true ↔ z∈ys
 | []=>by constructor <;> intro h <;> cases h
 | y::r=>by
  have ih:=N8 z r;unfold inV at ih ⊢;rw[QbR,QbW,QbJ,ih,QbP];have:eqV (.str y) (.str z)=true ↔ z=y:=by
   show (y == z)=true ↔ z=y;rw[beq_iff_eq];exact⟨λh=>h.symm,λh=>h.symm⟩
  rw[this]
theorem Um:∀{l m:YF},l.Nodup->(∀x∈l,x∈m)->l.length<=m.length
 | [],_,_,_=>Qcg _
 | a::r,m,nd,h=>by
  have ha:=h a (QaN ..);obtain⟨n1,n2⟩:=QbH.mp nd;have:=Um (l:=r) (m:=m.erase a) n2 λx hx=>(List.mem_erase_of_ne (λe=>n1 (by rw[<-e];exact hx))).mpr (h x (QaB _ hx));rw[List.length_erase_of_mem ha] at this;have hp:=List.length_pos_of_mem ha;rw[Qbl];omega
theorem Yb (rest:Str) {ys:YF} (h:ys.length < 26):∃(i c:Nat),abc.cps[i]?=some c/\((⟨#[c]⟩ : Str)++rest)∉ys:=by
 refine Classical.byContradiction λhn=>?_;have hall:∀x∈abc.cps.toList.map (λc=>(⟨#[c]⟩ : Str)++rest),x∈ys:=λx hx=>by
  obtain⟨c,hc,rfl⟩:=Qcc.mp hx;obtain⟨i,hi⟩:=List.getElem?_of_mem hc;refine Classical.byContradiction λhm=>hn ⟨i,c,by simpa using hi,hm⟩
 have nd:(abc.cps.toList.map (λc=>(⟨#[c]⟩ : Str)++rest)).Nodup:=by
  refine List.pairwise_map.mpr (tZ.imp λ{c d} hne e=>hne ?_);have e1:(#[c]++rest.cps:Array Nat)=#[d]++rest.cps:=congrArg Str.cps e;have e2:=congrArg Array.toList e1;rw[Array.toList_append,Array.toList_append] at e2;injection e2
 have:=Um nd hall;rw[Qbw,Qt] at this;omega
theorem Qcm {α : Type} {l:List α} {i:Nat} {x:α} (h:l[i]?=some x):l.take (i+1)=l.take i++[x]:=by rw[List.take_add_one,h];rfl
theorem Aw.lA {a b:Addr} {H HH H':Hp} (s:Aw b H HH) (t:Aw a HH H') (f:H a=none):Aw b H H':=λc o e n=>t _ _ (s _ _ e n) λz=>by rw[z,f] at e;cases e
def V4:Sp:=λvs H Q _=>∃(b:Addr) (n:Nat),vs=[.ref b]/\BL H b n/\n<=9000/\∀z H',1<=z.length->z.length<=8->okS z->BL H' b (n+9)->Aw b H H'->Q (.str z) H'
def Yq:Sp:=λvs H Q _=>∃(b:Addr) (n many:Nat),vs=[.ref b,.int many]/\BL H b n/\n<=8000/\many<=20 /\
 ∀l (ys:YF) H',H l=none->ys.length=many->(∀y∈ys,(1<=y.length/\y.length<=8)/\okS y)->ys.Nodup->H' l=some (.lst (ys.map V.str))->BL H' b (n+9*many)->Aw b H H'->Q (.ref l) H'
section
variable {P:Program} {w:World} {K:YD} {mg:YB} {base:Heap}
abbrev js(a:PySem.Addr):Option L2.V:=some (.ref a)
abbrev xl:YF:=["_law_place","_law_letters","_law_bag_here"]
theorem nJ (C:Code K mg "_law_name" Nx JF) (T:Nm mg) (Bj:Good P w K mg base "_law_take" 1 Fw Kd):Good P w K mg base "_law_name" 2 JF V4:=by
 refine C.good Ui (λvs H Q E h=>?_) (λf cdv A outer s H vs Q E hr h=>?_)
 ·obtain⟨b,n,rfl,_⟩:=h;rfl
 obtain⟨b,n,rfl,hb,hn,q⟩:=h;refine⟨_,(Ad (Bf (i:=1) Ui.nd rfl (Or.inr rfl) Af)
 (Ah (Ak (Dz Qau PySem.F.slot_str_join PySem.F.type_str_join YT Af (Aa (G3 (N':=xl) rfl (CZ.of (src:=[none,some 1,some 0]) (Ar Nx) xj rfl rfl rfl (by trivial) (by trivial) (by trivial) rfl (by trivial)) (FW rfl T.range (Aa (Aq Dd Ac (Am Bj hr (Aa (pv 0) (Aa Ac Ab)))) Ab)) (λ_ _ _ _=>(Az (i:=0) (show List.Nodup (xl:YF) by trivial) rfl (Or.inl rfl))) (λ_ _ _ _=>Ii) (λ_ _ _ _=>(Ba Kv (pv 1) (Am Bj hr (Aa (pv 2) (Aa Ac Ab))) (λ_ _=>rfl)))) Ab))))),?_⟩
 show let R0:TS:=_;Al _ R0 _ _ _;intro R0;refine⟨rq,_,rq,b,n,8,rq,hb,by omega,by decide,by decide,λr H1 r0 r1 hb1 sb1=>⟨_,_,rq,rq,_,rq,by omega,by omega,λl hl=>?_⟩⟩;have nbl:b≠l:=hb1.nb hl;have fl:H l=none:=sb1.free hb1.ex hl;let J0:YN:=λi U HH=>∃(u:Option V) (ys:YF),U=[u,some (.str abc),js b]/\HH l=some (.lst (ys.map V.str))/\ys.length=i/\(∀y∈ys,y.length=1/\okS y)/\BL HH b (n+1+i)/\Aw b H HH;refine Oe J0
  ⟨none,[],rq,Ae,rq,(λy hy=>by cases hy),hb1.same (Ag hl _),sb1.trans (Aw.of (Ag hl _))⟩ (λi U HH hi h=>?_) (fun U HH h=>?_)
 ·obtain⟨u,ys,rfl,e1,e2,e3,e4,e5⟩:=h;refine⟨_,rq,_,rq,b,_,26,rq,e4,by omega,by decide,by decide,λr' HA r0' r1' hbA sA=>?_⟩;obtain⟨c,ec,oc⟩:=ud r0' r1';have eA:=sA _ _ e1 nbl.symm;refine⟨_,_,c,rq,rq,Ao (by show abc.cps.size<=1000;rw[<-QaH,Qt];decide),ec,_,eA,Ca (by rw[Qbw];omega),_,ys++[⟨#[c]⟩],rq,?_,?_,λy hy=>?_,hbA.Fy Aw.upd nbl,?_⟩
  ·rw[Ae,Qbx];rfl
  ·rw[QaM,e2];rfl
  ·rcases Qby.mp hy with h | h
   ·exact e3 y h
   ·have:y=⟨#[c]⟩:=by simpa using h
    rw[this];exact⟨rq,oc⟩
  ·exact λc o e ne=>Aw.upd _ _ (sA _ _ (e5 _ _ e ne) ne) λz=>by rw[z,fl] at e;cases e
 obtain⟨u,ys,rfl,e1,e2,e3,e4,e5⟩:=h;have hs:=VR λy hy=>(e3 y hy).1;refine⟨_,l,ys,rq,rq,SqL.of e1,?_,?_⟩
 ·rw[hs];have:(Str.ofString "").length=0:=by trivial
  rw[this];omega
 ·have hj:=WW ys;rw[hs] at hj;refine q _ HH ?_ ?_ ?_ (e4.mono (by omega)) e5
  ·show 1<=(Builtin.Str.glued _ ys).length;rw[StrLaws.glued_eq_join];show 1<=(Str.join "" ys).length;omega
  ·show (Builtin.Str.glued _ ys).length<=8;rw[StrLaws.glued_eq_join];show (Str.join "" ys).length<=8;omega
  ·show okS (Builtin.Str.glued _ ys);rw[StrLaws.glued_eq_join];exact okS.join (λc hc=>by cases hc) λy hy=>(e3 y hy).2
abbrev xm:YF:=["_law_one","_law_name_here","_law_found"]
theorem iD (C:Code K mg "_law_names" Mg Km) (T:Nm mg) (Rf:Good P w K mg base "_law_name" 2 JF V4):Good P w K mg base "_law_names" 3 Km Yq:=by
 refine C.good Jl (λvs H Q E h=>?_) (λf cdv A outer s H vs Q E hr h=>?_)
 ·obtain⟨b,n,many,rfl,_⟩:=h;rfl
 obtain⟨b,n,many,rfl,hb,hn,hm,q⟩:=h;refine⟨_,(Ad (Bf (i:=2) Jl.nd rfl (Or.inr rfl) (Dj Ab))
 (Ad (Ih QbD rfl (FW rfl T.range (Aa (pv 1) Ab)) (Az (i:=3) Jl.nd rfl (Or.inl rfl))
 (Ad (Bf (i:=4) Jl.nd rfl (Or.inr rfl) (Am Rf hr (Aa (pv 0) Ab)))
 (Ad (Bg (Av Pa (pv 4) (pv 2) (by with_unfolding_all rfl)) (Ah (Bf (i:=4) Jl.nd rfl (Or.inr rfl) (Ba Br (G3 (N':=xm) rfl (CZ.of (src:=[none,some 4,some 2]) (Ar Mg) xk rfl rfl rfl (by trivial) (by trivial) (by trivial) rfl (by trivial)) (O8 Af) (λ_ _ _ _=>(Az (i:=0) (show List.Nodup (xm:YF) by trivial) rfl (Or.inl rfl))) (λ_ _ _ _=>(Wk (Av (U4 (K:=K) rfl) (Aq Bb (pv 0) (Bq Ce (pv 1) (Bt Ac) Bx)) (pv 2) (by with_unfolding_all rfl)))) (λ_ _ _ _=>(Aq Bb (pv 0) (Bq Ce (pv 1) (Bt Ac) Bx)))) Ac (λ_ _=>rfl)))) Ay)
 (Ah (Jg (Dz Qap Qan Qao En (pv 2) (Aa (pv 4) Ab)))))))
 (Ah (Ak (pv 2))))),?_⟩
 show let R0:TS:=_;let R1:TS:=_;let R2:TS:=Al (BX _ R1 _) R0;let R3:TS:=Al _ R2;let R4:TS:=Al (K5 _ _ R3) _;Al _ R4 _ _ _;intro R0 R1 R2 R3 R4;refine⟨Ao (by show 0<=1000;decide),λlf hlf=>?_⟩;have s1:=Ag hlf (.lst []);have nbf:b≠lf:=hb.nb hlf;refine⟨_,rq,_,rq,by omega,by omega,?_⟩;rw[Qbh];let J1:YN:=λi U HH=>∃(u3 u4:Option V) (ys:YF),U=[js b,some (.int many),js lf,u3,u4]/\HH lf=some (.lst (ys.map V.str))/\ys.length=i/\(∀y∈ys,(1<=y.length/\y.length<=8)/\okS y)/\BL HH b (n+9*i)/\Aw b H HH/\ys.Nodup;refine Hu J1
  ⟨_,_,[],rq,Ae,rq,(λy hy=>by cases hy),hb.same s1,Aw.of s1,List.nodup_nil⟩ (λi U HH hi h=>?_) (fun U HH h=>?_)
 ·obtain⟨u3,u4,ys,rfl,e1,e2,e3,e4,e5,e6⟩:=h;refine⟨_,rq,b,_,rq,e4,by omega,λz HA hz1 hz oz hbA sA=>?_⟩;have eA:=sA _ _ e1 nbf.symm;have s5:Aw b H HA:=e5.trans sA;have fin:∀(y:Str) (HB:Hp),(1<=y.length/\y.length<=8)->okS y->y∉ys->HB lf=some (.lst (ys.map V.str))->BL HB b (n+9*i+9)->Aw b H HB->∃(u3 u4:Option V) (ys':YF),[some (V.ref b),some (.int many),js lf,some (.int (0+(i:Int))),some (.str y)]=[js b,some (.int many),js lf,u3,u4] /\
    upd HB lf (.lst (ys.map V.str++[.str y])) lf=some (.lst (ys'.map V.str))/\ys'.length=i+1/\(∀y∈ys',(1<=y.length/\y.length<=8)/\okS y)/\BL (upd HB lf (.lst (ys.map V.str++[.str y]))) b (n+9*(i+1))/\Aw b H (upd HB lf (.lst (ys.map V.str++[.str y])))/\ys'.Nodup:=λy HB hy oy hny hB bB sB=>by
   refine⟨_,_,ys++[y],rq,?_,?_,λx hx=>?_,(bB.Fy Aw.upd nbf).mono (by omega),Aw.lA sB Aw.upd hlf,YS e6 hny⟩
   ·rw[Ae,Qbx];rfl
   ·rw[QaM,e2];rfl
   ·rcases Qby.mp hx with h | h
    ·exact e3 x h
    ·have:x=y:=by simpa using h
     rw[this];exact⟨hy,oy⟩
  refine⟨_,rq,_,rq,lf,_,rq,.inl (SqL.of eA),rq,Uw ys,_,rq,aJ (λ_=>?_) (λhnz=>?_)⟩
  ·refine⟨_,rq,λl2 hl2=>?_⟩;have nfl:lf≠l2:=Cp eA hl2;have hsl:(Txt.slice z (some 1) none).length<=7:=Qca (bZ z) (by omega);have osl:=oz.slice (some 1) none;let J2:YN:=λi U HH=>∃(u:Option V) (ws:YF),U=[u,some (.str z),js lf]/\HH=upd HA l2 (.lst (ws.map V.str))/\ws.length<=i/\(∀y∈ws,((1<=y.length/\y.length<=8)/\okS y)/\y∉ys)/\((∃j c,j < i/\abc.cps[j]?=some c/\((⟨#[c]⟩ : Str)++Txt.slice z (some 1) none)∉ys)->ws≠[]);refine LC J2
    ⟨none,[],rfl,rfl,Qcf _,(λy hy=>by cases hy),λ⟨j,c,hj,_⟩=>absurd hj (Nat.not_lt_zero _)⟩ (λj c U HH hc h=>?_) (fun U HH h=>?_)
   ·obtain⟨u,ws,rfl,rfl,l1,l2',l3⟩:=h;have hj:j < 26:=by
     have:=(Qae.mp hc).1;rw[<-QaH] at this;have e:=Qt;unfold abc at e;omega
    have oc:okS ⟨#[c]⟩:=λd hd=>by
     have:d=c:=by simpa using hd
     rw[this];exact fW c (Array.mem_toList_iff.mpr (Array.mem_of_getElem? hc))
    have hlen:(⟨#[c]⟩ : Str).length+(Txt.slice z (some 1) none).length<=sizeLine:=by
     show 1+_<=sizeLine;rw[sizeLine_eq];omega
    have hzl:z.length<=sizeLine:=by rw[sizeLine_eq];omega
    have eB:upd HA l2 (.lst (ws.map V.str)) lf=some (.lst (ys.map V.str)):=by rw[Bw nfl];exact eA
    refine⟨_,rq,_,rq,_,rq,_,rq,hzl,_,_,rq,rq,hlen,_,rq,lf,_,rq,.inl (SqL.of eB),rq,Uw ys,_,rq,aJ (λt=>?_) (λt=>?_)⟩
    ·refine⟨_,rq,_,rq,_,rq,_,rq,hzl,_,_,rq,rq,hlen,_,Ae,Ca (by rw[Qbw];omega),_,ws++[(⟨#[c]⟩ : Str)++Txt.slice z (some 1) none],rq,?_,?_,λy hy=>?_,λ_ e=>?_⟩
     ·rw[mL,Qbx];rfl
     ·rw[QaM];show _+1<=_;omega
     ·rcases Qby.mp hy with h | h
      ·exact l2' y h
      ·have e:y=(⟨#[c]⟩ : Str)++Txt.slice z (some 1) none:=by simpa using h
       rw[e];refine⟨⟨⟨by rw[QaY];show 1<=1+_;omega,by rw[QaY];show 1+_<=8;omega⟩,oc.append osl⟩,λhin=>?_⟩;have t:(!inV (.str ((⟨#[c]⟩ : Str)++Txt.slice z (some 1) none)) (ys.map V.str))=true:=t;rw[(N8 _ ys).mpr hin] at t;cases t
     ·have:=congrArg List.length e;rw[QaM] at this;simp at this
    ·refine⟨_,ws,rfl,rfl,by omega,l2',λ⟨j',c',hj',hc',hn'⟩=>?_⟩;by_cases ej:j'=j
     ·subst ej;have ec:c'=c:=by
       have e1:abc.cps[j']?=some c:=hc;rw[hc'] at e1;exact QbA e1
      subst ec;exfalso;apply t;show (!inV (.str ((⟨#[c']⟩ : Str)++Txt.slice z (some 1) none)) (ys.map V.str))=true;cases e:inV (.str ((⟨#[c']⟩ : Str)++Txt.slice z (some 1) none)) (ys.map V.str) with
      | false=>rfl
      | true=>exact absurd ((N8 _ ys).mp e) hn'
     ·exact l3 ⟨j',c',by omega,hc',hn'⟩
   ·obtain⟨u,ws,rfl,rfl,l1,l2',l3⟩:=h;obtain⟨j,c,hc,hnot⟩:=Yb (Txt.slice z (some 1) none) (ys:=ys) (by omega);have hws:=l3 ⟨j,c,(Qae.mp hc).1,hc,hnot⟩;cases ws with
    | nil=>exact absurd rfl hws
    | cons w0 wr=>
     obtain⟨⟨y1,y2⟩,y3⟩:=l2' w0 (QaN ..);have s2:=Ag hl2 (.lst ((w0::wr).map V.str));have eB:=s2 _ _ eA;refine⟨l2,_,_,_,rq,rq,SqL.of Ae,Aj (xs:=(w0::wr).map V.str) (j:=0) rfl,?_⟩;refine⟨_,rq,.inl ⟨rq,_,SqL.of eB⟩,_,rq,lf,_,_,rq,rq,eB,Ca (by rw[Qbw];omega),?_⟩;exact fin w0 _ y1 y2 y3 eB (hbA.same s2) (s5.trans (Aw.of s2))
  ·refine⟨_,rq,.inl ⟨rq,_,SqL.of eA⟩,_,rq,lf,_,_,rq,rq,eA,Ca (by rw[Qbw];omega),?_⟩;exact fin z HA ⟨hz1,hz⟩ oz (λhin=>hnz ((N8 _ ys).mpr hin)) eA hbA s5
 ·obtain⟨u3,u4,ys,rfl,e1,e2,e3,e4,e5,e6⟩:=h;exact⟨_,rq,q lf ys HH hlf e2 e3 e6 e1 e4 e5⟩
end
abbrev Ny:Stmt:=top 17
abbrev Jr:YF:=["thing"]
theorem XF:Bo Jr Jr (Ar Ny):=by ac_rfl
abbrev Mt:Stmt:=top 18
abbrev Ge:YF:=["thing","low","high"]
theorem Wa:Bo ["thing","low","high"] Ge (Ar Mt):=by ac_rfl
abbrev QW:Stmt:=top 19
abbrev Hq:YF:=["thing","least","most"]
theorem cu:Bo ["thing","least","most"] Hq (Ar QW):=by ac_rfl
theorem jH {i:Nat} {v:V} {U : St} {H:Hp} {Q:YO} (h:Q (U.set i (some v)) H):Gi i v U H Q:=h
def qx:Sp:=λvs H Q _=>∃v,vs=[v]/\Kn H v/\Q (.bl (isW v)) H
def ZQ (o:Option (YG)) (a b:Int):Bool:=match o with
 | some xs=>decide (a<=xs.length)&&decide ((xs.length:Int)<=b)
 | none=>false
def OD:Sp:=λvs H Q _=>∃v a b,vs=[v,.int a,.int b]/\Kn H v/\Q (.bl (ZQ (KH H v) a b)) H
theorem oN {v:V} (h:isW v=true):∃i,v=.int i:=by
 cases v with
 | int i=>exact⟨i,rfl⟩
 | _=>cases h
def wiB (v:V) (lo hi:Int):Bool:=match v with
 | .int i=>decide (lo<=i)&&decide (i<=hi)
 | _=>false
def Vl:Sp:=λvs H Q _=>∃v lo hi,vs=[v,.int lo,.int hi]/\Kn H v/\Q (.bl (wiB v lo hi)) H
theorem lU {α β : Type} {F:α->β->Prop}:∀{l:List α} {m:List β} {i:Nat} {x:α},Paired F l m->l[i]?=some x->∃y,m[i]?=some y/\F x y
 | _,_,_,_,.nil,h=>by cases h
 | _,_,0,_,.cons a r,h=>by cases h;exact⟨_,rfl,a⟩
 | _,_,i+1,_,.cons a r,h=>lU (i:=i) r h
theorem all_map {α : Type} (f:α->Bool) (l:List α):(l.map f).all id=l.all f:=by rw[List.all_map];rfl
mutual
def wide:PyData->Bool
 | .tuple ds=>decide (ds.length<=900)&&Ft ds
 | .list ds=>decide (ds.length<=900)&&Ft ds
 | .str z=>decide (z.length<=9000)&&z.cps.toList.all λc=>decide (c < 128)
 | _=>true
def Ft:List PyData->Bool
 | []=>true
 | x::r=>wide x&&Ft r
end
structure Fit (n:Nat) (d:PyData):Prop where
 lay:d.canLay0=true
 dep:d.depth<=n
 wd:wide d=true
theorem YZ:∀{ds:List PyData},PyData.canLayAll0 ds=true->∀x∈ds,x.canLay0=true
 | [],_,_,h=>by cases h
 | a::r,h,x,hx=>by
  have h:(a.canLay0&&PyData.canLayAll0 r)=true:=h;rw[Qbk] at h;rcases QbP.mp hx with rfl | hx
  ·exact h.1
  ·exact YZ h.2 x hx
theorem Za:∀{ds:List PyData} {n:Nat},PyData.depthAll ds<=n->∀x∈ds,x.depth<=n
 | [],_,_,_,h=>by cases h
 | a::r,n,h,x,hx=>by
  have h:max a.depth (PyData.depthAll r)<=n:=h;rcases QbP.mp hx with rfl | hx
  ·omega
  ·exact Za (by omega) x hx
theorem bD:∀{ds:List PyData},Ft ds=true->∀x∈ds,wide x=true
 | [],_,_,h=>by cases h
 | a::r,h,x,hx=>by
  have h:(wide a&&Ft r)=true:=by simpa only [Ft] using h
  rw[Qbk] at h;rcases QbP.mp hx with rfl | hx
  ·exact h.1
  ·exact bD h.2 x hx
theorem Fit.item {n:Nat} {ds:List PyData} (h:Fit (n+1) (.tuple ds)) {x:PyData} (hx:x∈ds):Fit n x:=by
 have h1:PyData.canLayAll0 ds=true:=h.lay;have h2:PyData.depthAll ds+1<=n+1:=h.dep;have h3:(decide (ds.length<=900)&&Ft ds)=true:=by simpa only [wide] using h.wd
 rw[Qbk] at h3;exact⟨YZ h1 x hx,Za (by omega) x hx,bD h3.2 x hx⟩
theorem Fit.mono {n m:Nat} {d:PyData} (h:Fit n d) (l:n<=m):Fit m d:=⟨h.lay,Qca h.dep l,h.wd⟩
theorem Fit.shaped {n:Nat} {d:PyData} (h:Fit n d) (l:n<=64):SeqAt.shaped d=true:=by
 show (d.canLay0&&decide (d.depth<=64))=true;rw[h.lay,QbN (Qca h.dep l)];rfl
theorem Bk.pair {H:Hp}:∀{xs:YG} {ds:List PyData},Bk H xs ds->Paired (Rep H) xs ds
 | _,_,.nil=>.nil
 | _,_,.cons a r=>.cons a (Bk.pair r)
mutual
theorem Rep.same {H H':Hp} (s:Same H H'):∀{v:V} {d:PyData},Rep H v d->Rep H' v d
 | _,_,.non=>.non
 | _,_,.bl b=>.bl b
 | _,_,.int i=>.int i
 | _,_,.str x=>.str x
 | _,_,.tup e r=>.tup (s _ _ e) (Bk.same s r)
 | _,_,.lst e r=>.lst (s _ _ e) (Bk.same s r)
theorem Bk.same {H H':Hp} (s:Same H H'):∀{vs:YG} {ds:List PyData},Bk H vs ds->Bk H' vs ds
 | _,_,.nil=>.nil
 | _,_,.cons a r=>.cons (Rep.same s a) (Bk.same s r)
end
theorem Bk.len {H:Hp} {xs:YG} {ds:List PyData} (h:Bk H xs ds):xs.length=ds.length:=Paired.length (Bk.pair h)
theorem Bk.at_ {H:Hp} {xs:YG} {ds:List PyData} (h:Bk H xs ds) {i:Nat} {x:V} (hx:xs[i]?=some x):∃d,ds[i]?=some d/\Rep H x d:=lU (Bk.pair h) hx
def wiP (d:PyData) (lo hi:Int):Bool:=match d with
 | .int i=>decide (lo<=i)&&decide (i<=hi)
 | _=>false
def Ea (d:PyData) (a b:Int):Bool:=match d with
 | .tuple ds=>decide (a<=ds.length)&&decide ((ds.length:Int)<=b)
 | _=>false
theorem Ka {H:Hp} {v:V} {d:PyData} (r:Rep H v d) (lo hi:Int):wiB v lo hi=wiP d lo hi:=by
 cases r <;> rfl
theorem M7 {H:Hp} {v:V} {d:PyData} (r:Rep H v d) (a b:Int):ZQ (KH H v) a b=Ea d a b:=by
 cases r with
 | tup e r=>
  rw[QH e];show (decide (a<=_)&&decide (_<=b))=_;rw[Bk.len r];rfl
 | lst e r=>rw[Ow e];rfl
 | _=>rfl
theorem K1 {H:Hp} {v:V} {d:PyData} (r:Rep H v d) {a b:Int} (h:Ea d a b=true):∃t xs ds,v=.ref t/\d=.tuple ds/\H t=some (.tup xs)/\Bk H xs ds/\a<=ds.length/\(ds.length:Int)<=b:=by
 cases r with
 | tup e r=>
  have h:(decide _&&decide _)=true:=h;rw[Qbk] at h;exact⟨_,_,_,rq,rq,e,r,Qba h.1,Qba h.2⟩
 | _=>cases h
section
variable {P:Program} {w:World} {K:YD} {mg:YB} {base:Heap}
theorem Wu (c:Code K mg "is_whole" Ny Jr) (T:Nm mg):Good P w K mg base "is_whole" 1 Jr qx:=by
 refine c.good XF (λvs H Q E h=>?_) (λf cdv A outer s H vs Q E hr h=>?_)
 ·obtain⟨v,rfl,_⟩:=h;rfl
 obtain⟨v,rfl,k,q⟩:=h;refine⟨_,(Ah (Ak (Fg (Ax DW rfl T.isinstance Bh (Aa (pv 0) (Aa (Ef (v:=.ty "int") rfl T.int LQ rfl) Ab))) (Gk (cM (Ax DW rfl T.isinstance Bh (Aa (pv 0) (Aa (Ef (v:=.ty "bool") rfl T.bool Zi rfl) Ab)))))))),?_⟩;refine⟨_,rq,Y6 k ⟨_,rq,?_⟩⟩;rw[rG] at q;cases e:isI v with
 | false=>rw[e] at q;exact Bs q
 | true=>rw[e] at q;exact Bp ⟨_,rfl,WX e ⟨_,rfl,q⟩⟩
theorem cU (c:Code K mg "is_row" QW Hq) (T:Nm mg):Good P w K mg base "is_row" 1 Hq OD:=by
 refine c.good cu (λvs H Q E h=>?_) (λf cdv A outer s H vs Q E hr h=>?_)
 ·obtain⟨v,a,b,rfl,_⟩:=h;rfl
 obtain⟨v,a,b,rfl,k,q⟩:=h;refine⟨_,(Ah (Ak (Fg (Ax DW rfl T.isinstance Bh (Aa (pv 0) (Aa (Ef (v:=.ty "tuple") rfl T.tuple IW rfl) Ab))) (Gk (NZ G7 G7 (pv 1) (Ax BR rfl T.len Cy (Aa (pv 0) Ab)) (pv 2)))))),?_⟩;refine⟨_,rq,Mh k ⟨_,rq,?_⟩⟩;cases e:KH H v with
 | none=>rw[e] at q;exact Bs q
 | some xs=>
  rw[e] at q;obtain⟨p,rfl,hp⟩:=iH e;refine Bp ⟨_,rq,_,rq,p,xs,rq,.inr (SqT.of hp),_,_,rq,rq,_,rq,?_⟩;by_cases h1:a<=(xs.length:Int)
  ·rw[QbN h1];refine Bp ⟨_,rq,_,_,rq,rq,?_⟩;simpa [ZQ,h1] using q
  ·rw[Qbv h1];refine Bs ?_;simpa [ZQ,h1] using q
theorem Vb (c:Code K mg "is_within" Mt Ge) (T:Nm mg) (aN:Good P w K mg base "is_whole" 1 Jr qx):Good P w K mg base "is_within" 2 Ge Vl:=by
 refine c.good Wa (λvs H Q E h=>?_) (λf cdv A outer s H vs Q E hr h=>?_)
 ·obtain⟨v,lo,hi,rfl,_⟩:=h;rfl
 obtain⟨v,lo,hi,rfl,k,q⟩:=h;refine⟨_,(Ah (Ak (Fg (Am aN hr (Aa (pv 0) Ab)) (Gk (NZ G7 G7 (pv 1) (pv 0) (pv 2)))))),?_⟩;refine⟨_,rq,v,rq,k,_,rq,?_⟩;cases ew:isW v with
 | false=>
  have:wiB v lo hi=false:=by cases v <;> first | rfl | cases ew
  rw[this] at q;exact Bs q
 | true=>
 obtain⟨x,rfl⟩:=oN ew;have q:Q (.bl (decide (lo<=x)&&decide (x<=hi))) H:=q;refine Bp ⟨_,rq,_,rq,_,_,rq,rq,_,rq,?_⟩;by_cases h1:lo<=x
 ·rw[QbN h1];rw[QbN h1,QbQ] at q;exact Bp ⟨_,rq,_,_,rq,rq,q⟩
 ·rw[Qbv h1];rw[Qbv h1,Bool.false_and] at q;exact Bs q
end
abbrev O4:Stmt:=top 20
abbrev Jh:YF:=Jr
theorem ZP:Bo Jr Jh (Ar O4):=by ac_rfl
abbrev NK:Stmt:=top 27
abbrev Js:YF:=Jr
theorem XJ:Bo Jr Js (Ar NK):=by ac_rfl
abbrev O5:Stmt:=top 28
abbrev Kp:YF:=Jr
theorem Rz:Bo ["thing","word"] Kp (Ar O5):=by ac_rfl
abbrev Lb:Stmt:=top 29
abbrev Hr:YF:=["condition"]
theorem U3:Bo ["condition"] Hr (Ar Lb):=by ac_rfl
structure Tc (mg:YB):Prop extends Nm mg where
 SMALL_LETTERS:∃u,mg "SMALL_LETTERS"=some u/\RelV (.str abc) u
 MOST_DEEP:∃u,mg "MOST_DEEP"=some u/\RelV (.int 6) u
 MOST_CONDITIONS:∃u,mg "MOST_CONDITIONS"=some u/\RelV (.int 20) u
theorem Fit.item' {n:Nat} {ds:List PyData} (h:Fit n (.tuple ds)) {x:PyData} (hx:x∈ds):Fit n x:=by
 have hd:PyData.depthAll ds+1<=n:=h.dep;obtain⟨k,rfl⟩ : ∃k,n=k+1:=⟨n - 1,by omega⟩;exact (h.item hx).mono (Nat.le_succ _)
theorem Fit.qC {n:Nat} {z:Str} (h:Fit n (.str z)):z.length<=9000:=by
 have h:(decide (z.length<=9000)&&z.cps.toList.all λc=>decide (c < 128))=true:=by simpa only [wide] using h.wd
 rw[Qbk] at h;exact Qba h.1
def isS:V->Bool
 | .str _=>true
 | _=>false
theorem Lq {K:YD} {H:Hp} {x:V} {Q:VK} (k:Kn H x) (q:Q (.bl (isS x)) H):Kz K [x,.ty "str"] H Q:=by
 unfold Kz;cases x with
 | non=>exact⟨_,_,_,_,rfl,.non,by rfl,q⟩
 | bl b=>exact⟨_,_,_,_,rfl,.bl b,by rfl,q⟩
 | int i=>exact⟨_,_,_,_,rfl,.int i,by rfl,q⟩
 | str z=>exact⟨_,_,_,_,rfl,.str z,by rfl,q⟩
 | ref a=>
  rcases k with⟨xs,e⟩|⟨xs,e⟩
  ·exact⟨_,_,_,_,rq,.lst e,by rfl,q⟩
  ·exact⟨_,_,_,_,rq,.tup e,by rfl,q⟩
 | _=>exact k.elim
def Oi (c:Nat):Bool:=!(Builtin.Str.occurrences abc ⟨#[c]⟩ 0 abc.length 1).isEmpty
def nameP (d:PyData):Bool:=match d with
 | .str z=>(decide ((1:Int)<=z.length)&&decide ((z.length:Int)<=8))&&z.cps.toList.all Oi
 | _=>false
theorem lZ {α : Type} {l:List α} (h:(2:Int)<=l.length) (h':(l.length:Int)<=2):∃a b,l=[a,b]:=by
 match l,h,h' with
 | [a,b],_,_=>exact⟨a,b,rfl⟩
 | [],h,_=>simp at h
 | [_],h,_=>simp at h
 | _::_::_::_,_,h=>simp at h;omega
theorem Vu {α : Type} {l:List α} (h:(3:Int)<=l.length) (h':(l.length:Int)<=3):∃a b c,l=[a,b,c]:=by
 match l,h,h' with
 | [a,b,c],_,_=>exact⟨a,b,c,rfl⟩
 | [],h,_=>simp at h
 | [_],h,_=>simp at h
 | [_,_],h,_=>simp at h
 | _::_::_::_::_,_,h=>simp at h;omega
theorem m5 {d:PyData} (h:Ea d 2 2=false):∀a b,d≠.tuple [a,b]:=λa b e=>by
 rw[e] at h;have h:(decide ((2:Int)<=2)&&decide ((2:Int)<=2))=false:=h;exact absurd h (by decide)
theorem Yu {d:PyData} (h:Ea d 3 3=false):∀a b c,d≠.tuple [a,b,c]:=λa b c e=>by
 rw[e] at h;have h:(decide ((3:Int)<=3)&&decide ((3:Int)<=3))=false:=h;exact absurd h (by decide)
theorem fG {K:YD} {a l:Addr} {xs:YG} {ds:List PyData} {fb:PyData->Bool} {te:TE} {Q:VK} {r:St} {H:Hp} (hl:H l=none) (ha:H a=some (.tup xs)) (rs:Bk H xs ds) (h9:ds.length<=900)
  (hs:∀(x:V) (d:PyData) (HH:Hp),d∈ds->Rep HH x d->Same H HH->∀R:VK,(∀H',Same HH H'->R (.bl (fb d)) H')->te (some x::r) HH R)
  (hq:∀H',H' l=some (.lst ((ds.map fb).map V.bl))->Same H H'->Q (.ref l) H'):Hf (Itt K a) (Gi 0) (λ_ H Q=>Q true H) te Q (none::r) (upd H l (.lst [])) l:=by
 have lx:=Bk.len rs;let J0:YN:=λi U HH=>∃u,U=u::r/\HH l=some (.lst (((ds.take i).map fb).map V.bl))/\Same H HH;refine Xf (xs:=xs) J0 ⟨_,rq,Ae,Ag hl _⟩ (λi U HH _ h=>?_) (λi x U HH hx h=>?_) (fun U HH h=>?_)
 ·obtain⟨u,rfl,_,s⟩:=h;exact SqT.of (s _ _ ha)
 ·obtain⟨u,rfl,e,s⟩:=h;obtain⟨d,hd,rd⟩:=Bk.at_ rs hx;have hi:=(Qaj.mp hd).1;unfold Gi;dsimp only;refine Bp (hs x d HH (QaC hd) (Rep.same s rd) s _ λH' s'=>⟨_,s' _ _ e,Ca (by rw[Qbw,Qbw,Qbn];omega),_,rq,?_,(s.trans s').Fj Aw.upd hl⟩);rw[Ae,Qcm hd,Qbx,Qbx];rfl
 ·obtain⟨u,rfl,e,s⟩:=h;rw[lx,Qbq] at e;exact hq _ e s
def GC (fb:PyData->Bool):Sp:=λvs H Q _=>∃v d,vs=[v]/\Rep H v d/\Fit 64 d/\∀H',Same H H'->Q (.bl (fb d)) H'
theorem Q9 {b:Bool} {A B:Prop} (h1:b=true->A) (h2:b=false->B):if b=true then A else B:=by
 cases b with
 | true=>exact Bp (h1 rfl)
 | false=>exact Bs (h2 rfl)
theorem ifN {a b:Int} {A B:Prop} (h1:a=b->A) (h2:a≠b->B):if decide (V.int a=V.int b)=true then A else B:=by
 by_cases h:a=b
 ·subst h;rw[QbN rfl];exact Bp (h1 rfl)
 ·rw[Qbv (λz=>h (by injection z))];exact Bs (h2 h)
theorem ifS {a b:Str} {A B:Prop} (h1:a=b->A) (h2:a≠b->B):if decide (V.str a=V.str b)=true then A else B:=by
 by_cases h:a=b
 ·subst h;rw[QbN rfl];exact Bp (h1 rfl)
 ·rw[Qbv (λz=>h (by injection z))];exact Bs (h2 h)
def eqS (d:PyData) (z:Str):Bool:=PyData.eqv d (.str z)
theorem DY {d:PyData} {y:Str}:eqS d y=true ↔ d=.str y:=by
 cases d with
 | str z=>
  show (z == y)=true ↔ _;constructor
  ·intro h;rw[Qcn h]
  ·intro h;cases h;exact beq_self_eq_true _
 | _=>exact⟨(λh=>by cases h),(λh=>by cases h)⟩
theorem W9 {d:PyData} {y:Str} (h:d≠.str y):eqS d y=false:=by
 cases e:eqS d y with
 | false=>rfl
 | true=>exact absurd (DY.mp e) h
theorem Du {z y:Str} (h:z≠y):eqS (.str z) y=false:=W9 (λe=>h (by injection e))
theorem CK (y:Str):eqS (.str y) y=true:=DY.mpr rfl
def aoP (d:PyData):Bool:=[PyData.str "and",.str "or"].any λz=>PyData.eqv z d
theorem Jj {d:PyData}:aoP d=true ↔ d=.str "and"\/d=.str "or":=by
 have key:∀(y:Str) (d:PyData),PyData.eqv (.str y) d=true ↔ d=.str y:=λy d=>by
  cases d with
  | str z=>
   show (y == z)=true ↔ _;constructor
   ·intro h;rw[Qcn h]
   ·intro h;cases h;exact beq_self_eq_true _
  | _=>exact⟨(λh=>by cases h),(λh=>by cases h)⟩
 unfold aoP;simp only[QbW,List.any_nil,Bool.or_false,QbJ,key]
def Fb (d:PyData):Bool:=match d with
 | .tuple [k,n]=>eqS k "key"&&wiP n 0 9
 | .tuple [k,a,b]=>eqS k "hours"&&(wiP a 0 23&&wiP b 0 23)
 | _=>false
def ofR (r:List PyData):Bool:=match r with
 | [n,z]=>wiP n 1 9&&nameP z
 | _=>false
def Nr (r:List PyData):Bool:=match r with
 | [z]=>nameP z
 | _=>false
def JT (r:List PyData):Bool:=match r with
 | [_,_,b]=>wiP b 1 20
 | _=>false
def Cg (k:PyData) (r:List PyData):Bool:=
 if eqS k "of"=true then ofR r else if eqS k "term"=true then Nr r else if eqS k "not"=true then decide (r.length=1)
 else if aoP k=true then decide (r.length=2) else if eqS k "then"=true then JT r else Fb (.tuple (k::r))
def Cq (d:PyData):Bool:=match d with
 | .tuple (k::r)=>Ea d 2 4&&Cg k r
 | _=>false
theorem cD {k:PyData} {r:List PyData} (h:Ea (.tuple (k::r)) 2 4=true):1<=r.length/\r.length<=3:=by
 have h:(decide ((2:Int)<=((k::r).length:Nat))&&decide ((((k::r).length:Nat):Int)<=4))=true:=h;rw[Qbk] at h;have h1:=Qba h.1;have h2:=Qba h.2;rw[Qbl] at h1 h2;omega
theorem Uj {k:PyData} {r:List PyData} (h:Fb (.tuple (k::r))=true):k=.str "key"\/k=.str "hours":=by
 unfold Fb at h;split at h
 ·rename_i k' n e;cases e;rw[Qbk] at h;exact .inl (DY.mp h.1)
 ·rename_i k' a b e;cases e;rw[Qbk] at h;exact .inr (DY.mp h.1)
 ·cases h
theorem W6 {k:PyData} {r:List PyData} (h:Cg k r=true):∃z,k=.str z:=by
 unfold Cg at h;by_cases h1:eqS k "of"=true
 ·exact⟨_,DY.mp h1⟩
 rw[if_neg h1] at h;by_cases h2:eqS k "term"=true
 ·exact⟨_,DY.mp h2⟩
 rw[if_neg h2] at h;by_cases h3:eqS k "not"=true
 ·exact⟨_,DY.mp h3⟩
 rw[if_neg h3] at h;by_cases h4:aoP k=true
 ·rcases Jj.mp h4 with e | e <;> exact⟨_,e⟩
 rw[if_neg h4] at h;by_cases h5:eqS k "then"=true
 ·exact⟨_,DY.mp h5⟩
 rw[if_neg h5] at h;rcases Uj h with e | e <;> exact⟨_,e⟩
theorem Hv {a b:Str} (h:eqV (.str a) (.str b)=true):a=b:=Qcn h
def Ia (k:PyData):Bool:=match k with
 | .str z=>inV (.str z) [.str "and",.str "or",.str "then"]
 | _=>false
def DG (d:PyData):List PyData:=match d with
 | .tuple (k::r)=>if eqS k "not"=true then r.take 1 else if Ia k=true then r.take 2 else []
 | _=>[]
def lH:Sp:=λvs H Q _=>∃(v:V) (d:PyData) (G:Hp),vs=[v]/\Same G H/\Rep G v d/\Cq d=true/\∀t xs H',H' t=some (.tup xs)->Bk G xs (DG d)->Same H H'->Q (.ref t) H'
theorem fu {x:V} {r:YG} {n:Nat} (h:n<=r.length):GP (x::r) (some 1) (some ((n+1:Nat):Int))=r.take n:=by
 unfold GP;rw[show (some (1:Int))=some ((1:Nat):Int) from rfl,HT.S5,HT.S5,Nat.min_eq_left (by rw[Qbl];omega),Nat.min_eq_left (by rw[Qbl];omega)]
 rfl
theorem Bk.Zy {H:Hp}:∀{xs:YG} {ds:List PyData} (n:Nat),Bk H xs ds->Bk H (xs.take n) (ds.take n)
 | _,_,0,_=>.nil
 | _,_,_+1,.nil=>.nil
 | _,_,n+1,.cons a r=>.cons a (Bk.Zy n r)
section
variable {P:Program} {w:World} {K:YD} {mg:YB} {base:Heap}
abbrev xa:YF:=["sign"]
theorem Z5 (C:Code K mg "is_name" O4 Jh) (T:Tc mg):Good P w K mg base "is_name" 1 Jh (GC nameP):=by
 refine C.good ZP (λvs H Q E h=>?_) (λf cdv A outer s H vs Q E hr h=>?_)
 ·obtain⟨v,d,rfl,_⟩:=h;rfl
 obtain⟨v,d,rfl,rd,fit,q⟩:=h;refine⟨_,(Ad (Bg (Cw (Ci (Ax DW rfl T.isinstance Bh (Aa (pv 0) (Aa (Ef (v:=.ty "str") rfl T.str GR rfl) Ab))))) (Ah (Ak Eu)) Ay)
 (Ah (Ak (Fg (NZ G7 G7 Ac (Ax Dg rfl T.len Cy (Aa (pv 0) Ab)) Ac) (Gk (Ax (LK rfl) rfl T.all Px (Aa (G3 (N':=xa) rfl (CZ.plain rfl (by trivial) (by trivial) (by trivial)) (O8 (pv 0)) (λ_ _ _ _=>(Az (i:=0) (show List.Nodup (xa:YF) by trivial) rfl (Or.inl rfl))) (λ_ _ _ _=>Ii) (λ_ _ _ _=>(Dy Kr (pv 0) (Hj rfl T.SMALL_LETTERS) (by with_unfolding_all rfl)))) Ab))))))),?_⟩
 show let R0:TS:=_;Al _ R0 _ _ _;intro R0;refine⟨_,rq,Lq rd.kn ⟨_,rq,?_⟩⟩;cases rd with
 | str z=>
  have q:∀H',Same H H'->Q (.bl ((decide ((1:Int)<=z.length)&&decide ((z.length:Int)<=8))&&z.cps.toList.all Oi)) H':=q;have z9:z.length<=9000:=fit.qC;refine Bs ⟨_,rq,z,rq,(Qca (show z.length<=9000 by omega) (by decide)),_,_,rq,rq,_,rq,?_⟩;by_cases g1:(1:Int)<=(z.length:Int)
  ·rw[QbN g1];rw[QbN g1,QbQ] at q;refine Bp ⟨_,_,rq,rq,_,rq,?_⟩;by_cases g2:(z.length:Int)<=8
   ·rw[QbN g2];rw[QbN g2,QbQ] at q;refine Bp ⟨_,rq,z,rq,λl hl'=>?_⟩;let J1:YN:=λi U HH=>∃u,U=[u]/\HH l=some (.lst (((z.cps.toList.take i).map Oi).map V.bl))/\Same H HH;refine LC J1 ⟨_,rq,Ae,Ag hl' _⟩ (λi c U HH hc h=>?_) (fun U HH h=>?_)
    ·obtain⟨u,rfl,e1,e2⟩:=h;have hi:i < z.cps.size:=(Qae.mp hc).1;have hz:z.cps.size<=8:=by have e:z.length=z.cps.size:=rfl;omega
     have hcl:z.cps.toList[i]?=some c:=by rw[Qay];exact hc
     unfold Gi;dsimp only;refine Bp ⟨_,rq,_,_,rq,rq,_,e1,Ca (by simp;omega),_,rq,?_,e2.Fj Aw.upd hl'⟩;rw[Ae,Qcm hcl,Qbx,Qbx];rfl
    ·obtain⟨u,rfl,e1,e2⟩:=h;have el:z.cps.size=z.cps.toList.length:=QaH.symm;rw[el,Qbq] at e1;refine⟨l,_,rq,SqL.of e1,?_⟩;rw[all_map];exact q _ e2
   ·rw[Qbv g2];rw[Qbv g2] at q;exact Bs (q _ (Same.refl _))
  ·rw[Qbv g1];rw[Qbv g1] at q;exact Bs ⟨_,rq,Bs (q _ (Same.refl _))⟩
 | _=>exact Bp (q _ (Same.refl _))
theorem XS (C:Code K mg "is_plain" NK Js) (T:Tc mg) (Ht:Good P w K mg base "is_row" 1 Hq OD) (Fq:Good P w K mg base "is_within" 2 Ge Vl):Good P w K mg base "is_plain" 3 Js (GC Fb):=by
 refine C.good XJ (λvs H Q E h=>?_) (λf cdv A outer s H vs Q E hr h=>?_)
 ·obtain⟨v,d,rfl,_⟩:=h;rfl
 obtain⟨v,d,rfl,rd,fit,q⟩:=h;refine⟨_,(Ad (Bg (Ci (Am Ht hr (Aa (pv 0) (Aa Ac (Aa Ac Ab))))) (Ah (Ak (Fg (Dy (Ik hr.units) (Ba Bm (pv 0) Ac (λ_ _=>rfl)) Af (Bc _)) (Gk (Am Fq hr (Aa (Ba Bm (pv 0) Ac (λ_ _=>rfl)) (Aa Ac (Aa Ac Ab)))))))) Ay)
 (Ad (Bg (Ci (Am Ht hr (Aa (pv 0) (Aa Ac (Aa Ac Ab))))) (Ah (Ak (Fg (Dy (Ik hr.units) (Ba Bm (pv 0) Ac (λ_ _=>rfl)) Af (Bc _)) (Fg (Am Fq hr (Aa (Ba Bm (pv 0) Ac (λ_ _=>rfl)) (Aa Ac (Aa Ac Ab)))) (Gk (Am Fq hr (Aa (Ba Bm (pv 0) Ac (λ_ _=>rfl)) (Aa Ac (Aa Ac Ab))))))))) Ay)
 (Ah (Ak Eu)))),?_⟩
 show let R0:TS:=_;let R1:TS:=Al (BX _ R0 _) _;let R2:TS:=_;Al (BX _ R2 _) R1 _ _ _;intro R0 R1 R2;have q0:=q _ (Same.refl _);have sS:∀z:Str,PyData.strOk z=true->SeqAt.shaped (.str z)=true:=λz hz=>by
  show (PyData.strOk z&&decide (0<=64))=true;rw[hz];rfl
 refine⟨_,rq,v,2,2,rq,rd.kn,_,rq,?_⟩;rw[M7 rd];cases e2:Ea d 2 2 with
 | true=>
  obtain⟨t,xs,ds,rfl,rfl,ht,rs,h1,h2⟩:=K1 rd e2;obtain⟨k,n,rfl⟩:=lZ h1 h2;cases rs with
  | cons rk rs=>
  cases rs with
  | cons rn rs=>
  cases rs;have q0:Q (.bl (eqS k "key"&&wiP n 0 9)) H:=q0;refine Bp ⟨_,rq,t,_,_,_,rq,rq,SqT.of ht,Aj (j:=0) rfl,k,.str "key",rk,.str _,(fit.item' (QaN ..)).shaped (Qcf _),sS _ (by trivial),_,rq,?_⟩;show if eqS k "key"=true then _ else _
  cases ek:eqS k "key" with
  | false=>rw[ek] at q0;exact Bs q0
  | true=>
   rw[ek,QbQ] at q0;refine Bp ⟨_,rq,t,_,_,_,rq,rq,SqT.of ht,Aj (j:=1) rfl,_,0,9,rq,rn.kn,?_⟩;rw[Ka rn];exact q0
 | false=>
 refine Bs ⟨_,rq,v,3,3,rq,rd.kn,_,rq,?_⟩;rw[M7 rd];cases e3:Ea d 3 3 with
 | true=>
  obtain⟨t,xs,ds,rfl,rfl,ht,rs,h1,h2⟩:=K1 rd e3;obtain⟨k,a,b,rfl⟩:=Vu h1 h2;cases rs with
  | cons rk rs=>
  cases rs with
  | cons ra rs=>
  cases rs with
  | cons rb rs=>
  cases rs;have q0:Q (.bl (eqS k "hours"&&(wiP a 0 23&&wiP b 0 23))) H:=q0;refine Bp ⟨_,rq,t,_,_,_,rq,rq,SqT.of ht,Aj (j:=0) rfl,k,.str "hours",rk,.str _,(fit.item' (QaN ..)).shaped (Qcf _),sS _ (by trivial),_,rq,?_⟩;show if eqS k "hours"=true then _ else _
  cases ek:eqS k "hours" with
  | false=>rw[ek] at q0;exact Bs q0
  | true=>
   rw[ek,QbQ] at q0;refine Bp ⟨_,rq,t,_,_,_,rq,rq,SqT.of ht,Aj (j:=1) rfl,_,0,23,rq,ra.kn,_,rq,?_⟩;rw[Ka ra];cases ea:wiP a 0 23 with
   | false=>rw[ea] at q0;exact Bs q0
   | true=>
    rw[ea,QbQ] at q0;refine Bp ⟨_,rq,t,_,_,_,rq,rq,SqT.of ht,Aj (j:=2) rfl,_,0,23,rq,rb.kn,?_⟩;rw[Ka rb];exact q0
 | false=>
  have:Fb d=false:=by
   unfold Fb;split
   ·exact absurd rfl (m5 e2 _ _)
   ·exact absurd rfl (Yu e3 _ _ _)
   ·rfl
  rw[this] at q0;exact Bs q0
theorem Z6 (C:Code K mg "is_form" O5 Kp) (T:Tc mg) (Ht:Good P w K mg base "is_row" 1 Hq OD) (Fq:Good P w K mg base "is_within" 2 Ge Vl) (Mj:Good P w K mg base "is_name" 1 Jh (GC nameP)) (aO:Good P w K mg base "is_plain" 3 Js (GC Fb)):Good P w K mg base "is_form" 4 Kp (GC Cq):=by
 refine C.good Rz (λvs H Q E h=>?_) (λf cdv A outer s H vs Q E hr h=>?_)
 ·obtain⟨v,d,rfl,_⟩:=h;rfl
 obtain⟨v,d,rfl,rd,fit,q⟩:=h;refine⟨_,(Ad (Bg (Cw (Ci (Am Ht hr (Aa (pv 0) (Aa Ac (Aa Ac Ab)))))) (Ah (Ak Eu)) Ay)
 (Ad (Bf (i:=1) Rz.nd rfl (Or.inl rfl) (Ba Bm (pv 0) Ac (λ_ _=>rfl)))
 (Ad (Bg (Av (Ik hr.units) (pv 1) Af (Bc _)) (Ah (Ak (Fg (Dy BK (Ax BR rfl T.len Cy (Aa (pv 0) Ab)) Ac (Bc _)) (Fg (Am Fq hr (Aa (Ba Bm (pv 0) Ac (λ_ _=>rfl)) (Aa Ac (Aa Ac Ab)))) (Gk (Am Mj hr (Aa (Ba Bm (pv 0) Ac (λ_ _=>rfl)) Ab))))))) Ay)
 (Ad (Bg (Av (Ik hr.units) (pv 1) Af (Bc _)) (Ah (Ak (Fg (Dy BK (Ax BR rfl T.len Cy (Aa (pv 0) Ab)) Ac (Bc _)) (Gk (Am Mj hr (Aa (Ba Bm (pv 0) Ac (λ_ _=>rfl)) Ab)))))) Ay)
 (Ad (Bg (Av (Ik hr.units) (pv 1) Af (Bc _)) (Ah (Ak (Dy BK (Ax BR rfl T.len Cy (Aa (pv 0) Ab)) Ac (Bc _)))) Ay)
 (Ad (Bg (Av (YK (K:=K) rfl hr.bF) (pv 1) (Bl (Aa Af (Aa Af Ab))) (by with_unfolding_all rfl)) (Ah (Ak (Dy BK (Ax BR rfl T.len Cy (Aa (pv 0) Ab)) Ac (Bc _)))) Ay)
 (Ad (Bg (Av (Ik hr.units) (pv 1) Af (Bc _)) (Ah (Ak (Fg (Dy BK (Ax BR rfl T.len Cy (Aa (pv 0) Ab)) Ac (Bc _)) (Gk (Am Fq hr (Aa (Ba Bm (pv 0) Ac (λ_ _=>rfl)) (Aa Ac (Aa Ac Ab)))))))) Ay)
 (Ah (Ak (Am aO hr (Aa (pv 0) Ab))))))))))),?_⟩
 show let R0:TS:=_;let R1:TS:=_;let R2:TS:=Al (BX _ R1 _) R0;let R3:TS:=_;let R4:TS:=Al (BX _ R3 _) R2;let R5:TS:=_;let R6:TS:=Al (BX _ R5 _) R4;let R7:TS:=_;let R8:TS:=Al (BX _ R7 _) R6;let R9:TS:=_;let R10:TS:=Al (BX _ R9 _) R8;let R11:TS:=Al _ R10;Al _ R11 _ _ _;intro R0 R1 R2 R3 R4 R5 R6 R7 R8 R9 R10 R11;have sS:∀z:Str,PyData.strOk z=true->SeqAt.shaped (.str z)=true:=λz hz=>by
  show (PyData.strOk z&&decide (0<=64))=true;rw[hz];rfl
 refine⟨_,rq,v,2,4,rq,rd.kn,_,rq,?_⟩;rw[M7 rd];cases e0:Ea d 2 4 with
 | false=>
  have:Cq d=false:=by
   unfold Cq;split
   ·rw[e0];rfl
   ·rfl
  rw[this] at q;exact Bp (q _ (Same.refl _))
 | true=>
 obtain⟨t,xs,ds,rfl,rfl,ht,rs,h1,h2⟩:=K1 rd e0;cases rs with
 | nil=>exact absurd h1 (by decide)
 | @cons x0 k xr r rk rs=>
 obtain⟨r1,r3⟩:=cD e0;have lr:=Bk.len rs;have q:∀H',Same H H'->Q (.bl (Cg k r)) H':=λH' s'=>by
  have:=q H' s';have e:Cq (.tuple (k::r))=Cg k r:=by
   show (Ea (.tuple (k::r)) 2 4&&Cg k r)=Cg k r;rw[e0,QbQ]
  rw[e] at this;exact this
 have q0:=q _ (Same.refl _);have sk:SeqAt.shaped k=true:=(fit.item' (QaN ..)).shaped (Qcf _);have fr:∀x∈r,Fit 64 x:=λx hx=>fit.item' (QaB _ hx);have len1:(((x0::xr).length:Nat):Int)=(r.length:Int)+1:=by rw[Qbl,lr];omega
 refine Bs ⟨_,rq,t,_,_,_,rq,rq,SqT.of ht,Aj (j:=0) rfl,?_⟩;refine⟨_,rq,k,.str "of",rk,.str _,sk,sS _ (by trivial),_,rq,?_⟩;show if eqS k "of"=true then _ else _
 unfold Cg at q q0;cases e1:eqS k "of" with
 | true=>
  rw[e1,if_pos rfl] at q0;have q:∀H',Same H H'->Q (.bl (ofR r)) H':=λH' s'=>by have:=q H' s';rw[e1,if_pos rfl] at this;exact this
  refine Bp ⟨_,rq,t,_,rq,.inr (SqT.of ht),rq,_,rq,ifN (λhl=>?_) (λhl=>?_)⟩
  ·rw[len1] at hl;obtain⟨n,z,rfl⟩:=lZ (l:=r) (by omega) (by omega);cases rs with
   | cons rn rs=>
   cases rs with
   | cons rz rs=>
   cases rs;have q:∀H',Same H H'->Q (.bl (wiP n 1 9&&nameP z)) H':=q;refine⟨_,rq,t,_,_,_,rq,rq,SqT.of ht,Aj (j:=1) rfl,_,1,9,rq,rn.kn,_,rq,?_⟩;rw[Ka rn];cases ew:wiP n 1 9 with
   | false=>rw[ew] at q;exact Bs (q _ (Same.refl _))
   | true=>
    rw[ew,QbQ] at q;exact Bp ⟨_,rq,t,_,_,_,rq,rq,SqT.of ht,Aj (j:=2) rfl,_,z,rq,rz,fr z (by simp),q⟩
  ·rw[len1] at hl;have:ofR r=false:=by
    unfold ofR;split
    ·exact absurd rfl hl
    ·rfl
   rw[this] at q0;exact q0
 | false=>
 rw[e1,if_neg (by decide)] at q0;have q:∀H',Same H H'->Q (.bl (if eqS k "term"=true then Nr r else if eqS k "not"=true then decide (r.length=1) else if aoP k=true then decide (r.length=2) else if eqS k "then"=true then JT r else Fb (.tuple (k::r)))) H':=λH' s'=>by have:=q H' s';rw[e1,if_neg (by decide)] at this;exact this
 refine Bs ⟨_,rq,k,.str "term",rk,.str _,sk,sS _ (by trivial),_,rq,?_⟩;show if eqS k "term"=true then _ else _
 cases e2:eqS k "term" with
 | true=>
  rw[e2,if_pos rfl] at q0;have q:∀H',Same H H'->Q (.bl (Nr r)) H':=λH' s'=>by have:=q H' s';rw[e2,if_pos rfl] at this;exact this
  refine Bp ⟨_,rq,t,_,rq,.inr (SqT.of ht),rq,_,rq,ifN (λhl=>?_) (λhl=>?_)⟩
  ·rw[len1] at hl;obtain⟨z,rfl⟩ : ∃z,r=[z]:=by
    match r,hl with
    | [z],_=>exact⟨z,rfl⟩
    | [],h=>simp at h
    | _::_::_,h=>simp at h;omega
   cases rs with
   | cons rz rs=>
   cases rs;exact⟨_,rq,t,_,_,_,rq,rq,SqT.of ht,Aj (j:=1) rfl,_,z,rq,rz,fr z (by simp),q⟩
  ·rw[len1] at hl;have:Nr r=false:=by
    unfold Nr;split
    ·exact absurd rfl hl
    ·rfl
   rw[this] at q0;exact q0
 | false=>
 rw[e2,if_neg (by decide)] at q0;have q:∀H',Same H H'->Q (.bl (if eqS k "not"=true then decide (r.length=1) else if aoP k=true then decide (r.length=2) else if eqS k "then"=true then JT r else Fb (.tuple (k::r)))) H':=λH' s'=>by have:=q H' s';rw[e2,if_neg (by decide)] at this;exact this
 have dl:∀n:Nat,decide (V.int (((x0::xr).length:Nat):Int)=V.int ((n+1:Nat):Int))=decide (r.length=n):=λn=>by
  rw[QbF,QaS,QaS];constructor
  ·intro z;injection z with z;rw[len1] at z;omega
  ·intro z;rw[len1,z];congr 1
 refine Bs ⟨_,rq,k,.str "not",rk,.str _,sk,sS _ (by trivial),_,rq,?_⟩;show if eqS k "not"=true then _ else _
 cases e3:eqS k "not" with
 | true=>
  rw[e3,if_pos rfl] at q0;refine Bp ⟨_,rq,t,_,rq,.inr (SqT.of ht),rq,?_⟩;show Q (.bl (decide (V.int (((x0::xr).length:Nat):Int)=V.int ((1+1:Nat):Int)))) H;rw[dl];exact q0
 | false=>
 rw[e3,if_neg (by decide)] at q0;have q:∀H',Same H H'->Q (.bl (if aoP k=true then decide (r.length=2) else if eqS k "then"=true then JT r else Fb (.tuple (k::r)))) H':=λH' s'=>by have:=q H' s';rw[e3,if_neg (by decide)] at this;exact this
 refine Bs ⟨_,rq,Ao (by show 2<=1000;decide),λp hp=>?_⟩;have sp:=Ag hp (.tup [.str "and",.str "or"]);have cp:upd H p (.tup [.str "and",.str "or"]) p=some (.tup [.str "and",.str "or"]):=Ae;generalize upd H p (.tup [.str "and",.str "or"])=H1 at *;have ht1:=sp _ _ ht;have q1:∀H',Same H1 H'->Q (.bl (if aoP k=true then decide (r.length=2) else if eqS k "then"=true then JT r else Fb (.tuple (k::r)))) H':=λH' s'=>q H' (sp.trans s')
 have q0:=q1 _ (Same.refl _);refine⟨p,_,k,[.str "and",.str "or"],rq,SqT.of cp,.cons (.str _) (.cons (.str _) .nil),Rep.same sp rk,sk,by trivial,_,rq,?_⟩;show if aoP k=true then _ else _
 cases e4:aoP k with
 | true=>
  rw[e4,if_pos rfl] at q0;refine Bp ⟨_,rq,t,_,rq,.inr (SqT.of ht1),rq,?_⟩;show Q (.bl (decide (V.int (((x0::xr).length:Nat):Int)=V.int ((2+1:Nat):Int)))) H1;rw[dl];exact q0
 | false=>
 rw[e4,if_neg (by decide)] at q0;have q1:∀H',Same H1 H'->Q (.bl (if eqS k "then"=true then JT r else Fb (.tuple (k::r)))) H':=λH' s'=>by have:=q1 H' s';rw[e4,if_neg (by decide)] at this;exact this
 refine Bs ⟨_,rq,k,.str "then",Rep.same sp rk,.str _,sk,sS _ (by trivial),_,rq,?_⟩;show if eqS k "then"=true then _ else _
 cases e5:eqS k "then" with
 | true=>
  rw[e5,if_pos rfl] at q0;refine Bp ⟨_,rq,t,_,rq,.inr (SqT.of ht1),rq,_,rq,ifN (λhl=>?_) (λhl=>?_)⟩
  ·rw[len1] at hl;obtain⟨a,b,c,rfl⟩:=Vu (l:=r) (by omega) (by omega);cases rs with
   | cons ra rs=>
   cases rs with
   | cons rb rs=>
   cases rs with
   | cons rc rs=>
   cases rs;have q0:Q (.bl (wiP c 1 20)) H1:=q0;refine⟨_,rq,t,_,_,_,rq,rq,SqT.of ht1,Aj (j:=3) rfl,_,1,20,rq,(Rep.same sp rc).kn,?_⟩;rw[Ka (Rep.same sp rc)];exact q0
  ·rw[len1] at hl;have:JT r=false:=by
    unfold JT;split
    ·exact absurd rfl hl
    ·rfl
   rw[this] at q0;exact q0
 | false=>
 have q1:∀H',Same H1 H'->Q (.bl (Fb (.tuple (k::r)))) H':=λH' s'=>by have:=q1 H' s';rw[e5,if_neg (by decide)] at this;exact this
 exact Bs ⟨_,rq,_,_,rq,Rep.same sp rd,fit,q1⟩
theorem Vc (C:Code K mg "inner_ones" Lb Hr) (T:Tc mg):Good P w K mg base "inner_ones" 1 Hr lH:=by
 refine C.good U3 (λvs H Q E h=>?_) (λf cdv A outer s H vs Q E hr h=>?_)
 ·obtain⟨v,d,G,rfl,_⟩:=h;rfl
 obtain⟨v,d,G,rfl,sG,rd,hf,q⟩:=h;refine⟨_,(Ad (Bg (Av BK (Ba Bm (pv 0) Ac (λ_ _=>rfl)) Af (Bc _)) (Ah (Ak (Bq SN (pv 0) (Bt Ac) (Bt Ac)))) Ay)
 (Ad (Bg (Av Pa (Ba Bm (pv 0) Ac (λ_ _=>rfl)) (Bl (Aa Af (Aa Af (Aa Af Ab)))) (by with_unfolding_all rfl)) (Ah (Ak (Bq SN (pv 0) (Bt Ac) (Bt Ac)))) Ay)
 (Ah (Ak (Bl Ab))))),?_⟩
 show let R0:TS:=_;let R1:TS:=Al (BX _ R0 _) _;let R2:TS:=_;Al (BX _ R2 _) R1 _ _ _;intro R0 R1 R2;have e0:Ea d 2 4=true:=by
  unfold Cq at hf;split at hf
  ·rw[Qbk] at hf;exact hf.1
  ·cases hf
 obtain⟨t,xs,ds,rfl,rfl,htG,rs,h1,h2⟩:=K1 rd e0;have ht:=sG _ _ htG;cases rs with
 | nil=>exact absurd h1 (by decide)
 | @cons x0 k xr r rk rs=>
 obtain⟨r1,r3⟩:=cD e0;have lr:=Bk.len rs;have hf:(Ea (.tuple (k::r)) 2 4&&Cg k r)=true:=hf;rw[Qbk] at hf;obtain⟨z,rfl⟩:=W6 hf.2;cases rk;have q:∀t xs H',H' t=some (.tup xs)->Bk G xs (if eqS (.str z) "not"=true then r.take 1 else if Ia (.str z)=true then r.take 2 else [])->Same H H'->Q (.ref t) H':=q
 refine⟨_,rq,t,_,_,_,rq,rq,SqT.of ht,Aj (j:=0) rfl,rq,_,rq,ifS (λe=>?_) (λe=>?_)⟩
 ·rw[e,CK,if_pos rfl] at q;refine⟨_,rq,_,rq,_,rq,t,_,rq,ht,λp H1 hp s1=>?_⟩;have ec:GP (V.str z::xr) (some 1) (some 2)=xr.take 1:=fu (n:=1) (by omega);rw[ec] at hp;exact q p _ H1 hp (Bk.Zy 1 rs) s1
 ·rw[Du e,if_neg (by decide)] at q;refine⟨_,rq,t,_,_,_,rq,rq,SqT.of ht,Aj (j:=0) rfl,Ao (by show 3<=1000;decide),λp hp=>?_⟩;have sp:=Ag hp (.tup [.str "and",.str "or",.str "then"]);have cp:upd H p (.tup [.str "and",.str "or",.str "then"]) p=some (.tup [.str "and",.str "or",.str "then"]):=Ae;generalize upd H p (.tup [.str "and",.str "or",.str "then"])=H1 at *;have ht1:=sp _ _ ht;refine⟨p,_,rq,.inr (SqT.of cp),rq,rq,_,rq,?_⟩;show if Ia (.str z)=true then _ else _
  cases ea:Ia (.str z) with
  | true=>
   rw[ea,if_pos rfl] at q;refine Bp ⟨_,rq,_,rq,_,rq,t,_,rq,ht1,λp2 H2 hp2 s2=>?_⟩;by_cases h2:2<=xr.length
   ·have ec:GP (V.str z::xr) (some 1) (some 3)=xr.take 2:=fu (n:=2) h2;rw[ec] at hp2;exact q p2 _ H2 hp2 (Bk.Zy 2 rs) (sp.trans s2)
   ·exfalso;have hz:z="and"\/z="or"\/z="then":=by
     have ea:inV (.str z) [.str "and",.str "or",.str "then"]=true:=ea;simp only[inV,QbW,List.any_nil,Bool.or_false,QbJ] at ea;rcases ea with h | h | h
     ·exact .inl (Hv h).symm
     ·exact .inr (.inl (Hv h).symm)
     ·exact .inr (.inr (Hv h).symm)
    have hr1:r.length=1:=by omega
    have hff:=hf.2;unfold Cg at hff;rcases hz with rfl | rfl | rfl
    ·rw[if_neg (by rw[Du (by trivial)];decide),if_neg (by rw[Du (by trivial)];decide),if_neg (by rw[Du (by trivial)];decide),if_pos (Jj.mpr (.inl rfl)),hr1] at hff;exact absurd hff (by decide)
    ·rw[if_neg (by rw[Du (by trivial)];decide),if_neg (by rw[Du (by trivial)];decide),if_neg (by rw[Du (by trivial)];decide),if_pos (Jj.mpr (.inr rfl)),hr1] at hff;exact absurd hff (by decide)
    ·rw[if_neg (by rw[Du (by trivial)];decide),if_neg (by rw[Du (by trivial)];decide),if_neg (by rw[Du (by trivial)];decide),if_neg (λh=>by rcases Jj.mp h with h | h <;> exact absurd (by injection h) (show ¬(("then":Str)=_) by trivial)),if_pos (CK _)] at hff
     match r,hr1,hff with
     | [_],_,hff=>cases hff
  | false=>
   rw[ea,if_neg (by decide)] at q;refine Bs ⟨Ao (by show 0<=1000;decide),λp2 hp2=>?_⟩;exact q p2 [] _ Ae .nil (sp.trans (Ag hp2 _))
end
abbrev Jz:Stmt:=top 30
abbrev Gp:YF:=Jr
theorem Es:Bo ["thing","level","many","deep"] Gp (Ar Jz):=by ac_rfl
abbrev O2:Stmt:=top 31
abbrev Ko:YF:=Jr
theorem ZM:Bo Jr Ko (Ar O2):=by ac_rfl
abbrev Nz:Stmt:=top 32
abbrev Hy:YF:=Jr
theorem XH:Bo Jr Hy (Ar Nz):=by ac_rfl
theorem aR {K:YD} {a l:Addr} {xs:YG} {ds:List PyData} {fb:PyData->Bool} {te:TE} {Q:VK} {r:St} {H:Hp} (hl:H l=none) (ha:H a=some (.lst xs)) (rs:Bk H xs ds) (h9:ds.length<=900)
  (hs:∀(x:V) (d:PyData) (HH:Hp),d∈ds->Rep HH x d->Same H HH->∀R:VK,(∀H',Same HH H'->R (.bl (fb d)) H')->te (some x::r) HH R)
  (hq:∀H',H' l=some (.lst ((ds.map fb).map V.bl))->Same H H'->Q (.ref l) H'):Hf (Itl K a) (Gi 0) (λ_ H Q=>Q true H) te Q (none::r) (upd H l (.lst [])) l:=by
 have lx:=Bk.len rs;let J0:YN:=λi U HH=>∃u,U=u::r/\HH l=some (.lst (((ds.take i).map fb).map V.bl))/\Same H HH;refine Pn (xs:=xs) J0 ⟨_,rq,Ae,Ag hl _⟩ (λi U HH _ h=>?_) (λi x U HH hx h=>?_) (fun U HH h=>?_)
 ·obtain⟨u,rfl,_,s⟩:=h;exact SqL.of (s _ _ ha)
 ·obtain⟨u,rfl,e,s⟩:=h;obtain⟨d,hd,rd⟩:=Bk.at_ rs hx;have hi:=(Qaj.mp hd).1;unfold Gi;dsimp only;refine Bp (hs x d HH (QaC hd) (Rep.same s rd) s _ λH' s'=>⟨_,s' _ _ e,Ca (by rw[Qbw,Qbw,Qbn];omega),_,rq,?_,(s.trans s').Fj Aw.upd hl⟩);rw[Ae,Qcm hd,Qbx,Qbx];rfl
 ·obtain⟨u,rfl,e,s⟩:=h;rw[lx,Qbq] at e;exact hq _ e s
def bfs:Nat->List PyData->Nat->Option (List PyData×Nat)
 | 0,l,m=>some (l,m)
 | n+1,l,m=>if l.all Cq=true then bfs n (l.flatMap DG) (m+l.length) else none
def Gb (d:PyData):Bool:=match bfs 6 [d] 0 with
 | none=>false
 | some (l,m)=>l.isEmpty&&decide (m<=20)
theorem oR {d x:PyData} (h:x∈DG d):∃ds,d=.tuple ds/\x∈ds:=by
 unfold DG at h;split at h
 ·rename_i k r;refine⟨_,rq,QaB _ ?_⟩;split at h
  ·exact List.mem_of_mem_take h
  ·split at h
   ·exact List.mem_of_mem_take h
   ·cases h
 ·cases h
theorem Y7 (d:PyData):(DG d).length<=2:=by
 unfold DG;split
 ·split
  ·rw[Qbn];omega
  ·split
   ·rw[Qbn];omega
   ·exact Qcg _
 ·exact Qcg _
theorem Rh:∀l:List PyData,(l.flatMap DG).length<=2*l.length
 | []=>Qcf _
 | x::r=>by
  have:=Rh r;have:=Y7 x;rw[Qbj,QaM,Qbl];omega
def Dc (d:PyData):Bool:=match d with
 | .tuple [k,c,x]=>Gb x&&(if eqS k "term"=true then nameP c else eqS k "sound"&&wiP c 1 99)
 | _=>false
def Eb (d:PyData):Bool:=match d with
 | .tuple ds=>Ea (.tuple ds) 1 16&&ds.all Dc
 | _=>false
theorem Bk.app {H:Hp}:∀{xs ys:YG} {ds es:List PyData},Bk H xs ds->Bk H ys es->Bk H (xs++ys) (ds++es)
 | _,_,_,_,.nil,t=>t
 | _,_,_,_,.cons a r,t=>.cons a (Bk.app r t)
section
variable {P:Program} {w:World} {K:YD} {mg:YB} {base:Heap}
abbrev xh:YF:=["part","inner"]
theorem RL (C:Code K mg "is_condition" Jz Gp) (T:Tc mg) (eG:Good P w K mg base "is_form" 4 Kp (GC Cq)) (W4:Good P w K mg base "inner_ones" 1 Hr lH):Good P w K mg base "is_condition" 5 Gp (GC Gb):=by
 refine C.good Es (λvs H Q E h=>?_) (λf cdv A outer s H vs Q E hr h=>?_)
 ·obtain⟨v,d,rfl,_⟩:=h;rfl
 obtain⟨v,d,rfl,rd,fit,q⟩:=h;refine⟨_,(Ad (Bf (i:=1) Es.nd rfl (Or.inl rfl) (Dj (Aa (pv 0) Ab)))
 (Ad (Bf (i:=2) Es.nd rfl (Or.inl rfl) Ac)
 (Ad (Ih QbD rfl (FW rfl T.range (Aa (Hj rfl T.MOST_DEEP) Ab)) (Az (i:=3) Es.nd rfl (Or.inl rfl))
 (Ad (Bg (Cw (Ci (Ax (LK rfl) rfl T.all Px (Aa (G3 (N':=["part"]) rfl (CZ.plain rfl (by trivial) (by trivial) (by trivial)) (Qg (pv 1)) (λ_ _ _ _=>(Az (i:=0) (show List.Nodup (["part"]:YF) by trivial) rfl (Or.inl rfl))) (λ_ _ _ _=>Ii) (λ_ _ _ _=>(Am eG hr (Aa (pv 0) Ab)))) Ab)))) (Ah (Ak Eu)) Ay)
 (Ad (cI (i:=2) Es.nd rfl (Or.inl rfl) (Ax BR rfl T.len Cy (Aa (pv 1) Ab)) dR)
 (Ah (iu (i:=1) Es.nd rfl (Or.inl rfl) (N':=xh) rfl (CZ.plain rfl (by trivial) (by trivial) (by trivial)) (Qg (pv 1)) (λ_ _ _ _=>(Az (i:=0) (show List.Nodup (xh:YF) by trivial) rfl (Or.inl rfl))) (λ_ _ _ _=>(ni (K:=K) rfl (Am W4 hr (Aa (pv 0) Ab)))) (λ_ _ _ _=>(Az (i:=1) (show List.Nodup (xh:YF) by trivial) rfl (Or.inl rfl))) (λ_ _ _ _=>(pv 1)))))))
 (Ah (Ak (Fg (nq (pv 1)) (Gk (Dy G7 (pv 2) (Hj rfl T.MOST_CONDITIONS) (Bc _))))))))),?_⟩
 show let R0:TS:=_;let R1:TS:=_;let R2:TS:=Al _ R1;let R3:TS:=Al _ R2;let R4:TS:=Al (K5 _ _ R3) R0;let R5:TS:=Al _ R4;Al _ R5 _ _ _;intro R0 R1 R2 R3 R4 R5;refine⟨_,rq,Ao (by show 1<=1000;decide),λlv hlv=>?_⟩;have sl:=Ag hlv (.lst [v]);have cl:upd H lv (.lst [v]) lv=some (.lst [v]):=Ae;generalize upd H lv (.lst [v])=H1 at *;refine⟨_,rq,by decide,by decide,?_⟩;let J1:YN:=λi U HH=>∃(l:Addr) (xs:YG) (ds:List PyData) (m:Nat) (u:Option V),U=[some v,js l,some (.int (m:Int)),u]/\HH l=some (.lst xs)/\Bk HH xs ds/\bfs 6 [d] 0=bfs (6 - i) ds m/\ds.length<=2 ^ i/\(∀x∈ds,Fit 64 x)/\Same H HH;refine Hu (n:=6) J1
  ⟨lv,[v],[d],0,none,rq,cl,.cons (Rep.same sl rd) .nil,rq,Qcf _,(λx hx=>by rw[QaO.mp hx];exact fit),sl⟩ (λi U HH hi h=>?_) (fun U HH h=>?_)
 ·obtain⟨l,xs,ds,m,u,rfl,e1,e2,e3,e4,e5,e6⟩:=h;have p6:2 ^ i<=32:=by
   have:i<=5:=by omega
   exact Qca (Nat.pow_le_pow_right (by decide) this) (by decide)
  obtain⟨n,hn⟩ : ∃n,6 - i=n+1:=⟨5 - i,by omega⟩;have hn':6 - (i+1)=n:=by omega
  rw[hn] at e3;have e3':bfs 6 [d] 0=if ds.all Cq=true then bfs n (ds.flatMap DG) (m+ds.length) else none:=e3
  have lx:=Bk.len e2;refine⟨_,rq,l,rq,⟨_,SqL.of e1⟩,λlc hlc=>?_⟩;refine aR (fb:=Cq) hlc e1 e2 (by omega) (λx dx HX hdx rx sx R hR=>⟨_,rq,x,dx,rq,rx,e5 dx hdx,hR⟩) (λH2 hc s2=>?_);refine⟨lc,_,rq,SqL.of hc,?_⟩;rw[all_map];refine⟨_,rq,?_⟩;cases ea:ds.all Cq with
  | false=>
   rw[ea,if_neg (by decide)] at e3';have:Gb d=false:=by unfold Gb;rw[e3']
   rw[this] at q;exact Bp (q _ (e6.trans s2))
  | true=>
  rw[ea,if_pos rfl] at e3';have e12:=s2 _ _ e1;refine Bs ⟨_,rq,_,rq,l,_,rq,.inl (SqL.of e12),_,_,rq,rq,?_⟩;refine⟨_,rq,l,rq,⟨_,SqL.of e12⟩,λln hln=>?_⟩;have sn:=Ag hln (.lst []);refine aV (xs:=xs) (λj U HX=>∃(u1 u2:Option V) (ys:YG),U=[u1,u2]/\HX ln=some (.lst ys)/\Bk H2 ys ((ds.take j).flatMap DG)/\Same H2 HX) ⟨_,_,[],rq,Ae,.nil,sn⟩ (λj U HX _ h=>?_) (λj x U HX hx h=>?_) (fun U HX h=>?_)
  ·obtain⟨u1,u2,ys,rfl,f1,f2,f3⟩:=h;exact SqL.of (f3 _ _ e12)
  ·obtain⟨u1,u2,ys,rfl,f1,f2,f3⟩:=h;obtain⟨dx,hdx,rx⟩:=Bk.at_ e2 hx;have mdx:=QaC hdx;have hj:=(Qaj.mp hdx).1;have yl:=Bk.len f2;have yl2:((ds.take j).flatMap DG).length<=2*(ds.take j).length:=Rh _;have yl3:(ds.take j).length<=32:=by rw[Qbn];omega
   unfold Gi;dsimp only;refine⟨_,rq,x,dx,H2,rq,f3,Rep.same s2 rx,Qbm.mp ea dx mdx,λt ts HY ht rt sY=>⟨t,rq,⟨_,SqT.of ht⟩,?_⟩⟩;have il:=Y7 dx;have tl:=Bk.len rt;refine o8 (xs:=ts) (λk U HZ=>∃(u2:Option V),U=[some x,u2]/\HZ ln=some (.lst (ys++ts.take k))/\Same H2 HZ/\HZ t=some (.tup ts)) ⟨_,rq,?_,f3.trans sY,ht⟩ (λk U HZ _ h=>?_) (λk y U HZ hy h=>?_) (fun U HZ h=>?_)
   ·rw[List.take_zero,QbB];exact sY _ _ f1
   ·obtain⟨u2,rfl,g1,g4,g5⟩:=h;exact SqT.of g5
   ·obtain⟨u2,rfl,g1,g4,g5⟩:=h;have hk:=(Qaj.mp hy).1;refine⟨_,rq,_,g1,Ca (by rw[QaM,Qbn];omega),_,rq,?_,g4.Fj Aw.upd hln,?_⟩
    ·rw[Ae,Qcm hy,QaZ]
    ·rw[Bw (λz=>by rw[z,g1] at g5;cases g5)];exact g5
   ·obtain⟨u2,rfl,g1,g4,g5⟩:=h;rw[Qbq] at g1;refine⟨_,_,ys++ts,rq,g1,?_,g4⟩;rw[Qcm hdx,List.flatMap_append];have:[dx].flatMap DG=DG dx:=by simp
    rw[this];exact Bk.app f2 rt
  ·obtain⟨u1,u2,ys,rfl,f1,f2,f3⟩:=h;rw[lx,Qbq] at f2;refine⟨ln,ys,ds.flatMap DG,m+ds.length,some (.int (0+(i:Int))),?_,f1,Bk.same f3 f2,?_,?_,λx hx=>?_,(e6.trans s2).trans f3⟩
   ·show [_,_,some (V.int ((m:Int)+(xs.length:Int))),_]=_;rw[lx];rfl
   ·rw[hn'];exact e3'
   ·have:=Rh ds;rw[Nat.pow_succ];omega
   ·obtain⟨y,hy,hx⟩:=List.mem_flatMap.mp hx;obtain⟨es,rfl,he⟩:=oR hx;exact (e5 _ hy).item' he
 ·obtain⟨l,xs,ds,m,u,rfl,e1,e2,e3,e4,e5,e6⟩:=h;have e3:bfs 6 [d] 0=some (ds,m):=e3;have cd:Gb d=(ds.isEmpty&&decide (m<=20)):=by unfold Gb;rw[e3]
  rw[cd] at q;have lx:=Bk.len e2;have ee:xs.isEmpty=ds.isEmpty:=by
   cases xs with
   | nil=>cases ds with
    | nil=>rfl
    | cons _ _=>cases lx
   | cons _ _=>cases ds with
    | nil=>cases lx
    | cons _ _=>rfl
  refine⟨_,rq,!xs.isEmpty,.inl ⟨_,SqL.of e1,rq⟩,_,rq,?_⟩;rw[Bool.not_not,ee];cases eb:ds.isEmpty with
  | false=>rw[eb] at q;exact Bs (q _ e6)
  | true=>
   rw[eb,QbQ] at q;refine Bp ⟨_,rq,_,_,rq,rq,?_⟩;have:decide ((m:Int)<=20)=decide (m<=20):=by
    rw[QbF,QaS,QaS];omega
   show Q (.bl (decide ((m:Int)<=20))) HH;rw[this];exact q _ e6
theorem Z4 (C:Code K mg "is_rule" O2 Ko) (T:Tc mg) (Ht:Good P w K mg base "is_row" 1 Hq OD) (Fq:Good P w K mg base "is_within" 2 Ge Vl) (Mj:Good P w K mg base "is_name" 1 Jh (GC nameP)) (TV:Good P w K mg base "is_condition" 5 Gp (GC Gb)):Good P w K mg base "is_rule" 6 Ko (GC Dc):=by
 refine C.good ZM (λvs H Q E h=>?_) (λf cdv A outer s H vs Q E hr h=>?_)
 ·obtain⟨v,d,rfl,_⟩:=h;rfl
 obtain⟨v,d,rfl,rd,fit,q⟩:=h;refine⟨_,(Ad (Bg (PW.pt (DR (Cw (Ci (Am Ht hr (Aa (pv 0) (Aa Ac (Aa Ac Ab)))))) (DQ (Cw (Ci (Am TV hr (Aa (Ba Bm (pv 0) Ac (λ_ _=>rfl)) Ab))))))) (Ah (Ak Eu)) Ay)
 (Ad (Bg (Av (Ik hr.units) (Ba Bm (pv 0) Ac (λ_ _=>rfl)) Af (Bc _)) (Ah (Ak (Am Mj hr (Aa (Ba Bm (pv 0) Ac (λ_ _=>rfl)) Ab)))) Ay)
 (Ah (Ak (Fg (Dy (Ik hr.units) (Ba Bm (pv 0) Ac (λ_ _=>rfl)) Af (Bc _)) (Gk (Am Fq hr (Aa (Ba Bm (pv 0) Ac (λ_ _=>rfl)) (Aa Ac (Aa Ac Ab)))))))))),?_⟩
 show let R0:TS:=_;let R1:TS:=_;let R2:TS:=Al (BX _ R1 _) R0;Al _ R2 _ _ _;intro R0 R1 R2;have sS:∀z:Str,PyData.strOk z=true->SeqAt.shaped (.str z)=true:=λz hz=>by
  show (PyData.strOk z&&decide (0<=64))=true;rw[hz];rfl
 refine⟨_,rq,v,3,3,rq,rd.kn,_,rq,?_⟩;rw[M7 rd];cases e3:Ea d 3 3 with
 | false=>
  have:Dc d=false:=by
   unfold Dc;split
   ·exact absurd rfl (Yu e3 _ _ _)
   ·rfl
  rw[this] at q;exact Bp (q _ (Same.refl _))
 | true=>
 obtain⟨t,xs,ds,rfl,rfl,ht,rs,h1,h2⟩:=K1 rd e3;obtain⟨k,c,x,rfl⟩:=Vu h1 h2;cases rs with
 | cons rk rs=>
 cases rs with
 | cons rc rs=>
 cases rs with
 | cons rx rs=>
 cases rs;have fk:Fit 64 k:=fit.item' (by simp);have fc:Fit 64 c:=fit.item' (by simp);have fx:Fit 64 x:=fit.item' (by simp);have q:∀H',Same H H'->Q (.bl (Gb x&&(if eqS k "term"=true then nameP c else eqS k "sound"&&wiP c 1 99))) H':=q
 refine Bs ⟨_,rq,t,_,_,_,rq,rq,SqT.of ht,Aj (j:=2) rfl,_,x,rq,rx,fx,λH1 s1=>⟨_,rq,?_⟩⟩;cases ec:Gb x with
 | false=>rw[ec] at q;exact Bp (q _ s1)
 | true=>
 rw[ec,QbQ] at q;have ht1:=s1 _ _ ht;refine Bs ⟨_,rq,t,_,_,_,rq,rq,SqT.of ht1,Aj (j:=0) rfl,k,.str "term",Rep.same s1 rk,.str _,fk.shaped (Qcf _),sS _ (by trivial),_,rq,?_⟩;show if eqS k "term"=true then _ else _
 cases e1:eqS k "term" with
 | true=>
  rw[e1,if_pos rfl] at q;exact Bp ⟨_,rq,t,_,_,_,rq,rq,SqT.of ht1,Aj (j:=1) rfl,_,c,rq,Rep.same s1 rc,fc,λH2 s2=>q _ (s1.trans s2)⟩
 | false=>
 rw[e1,if_neg (by decide)] at q;refine Bs ⟨_,rq,t,_,_,_,rq,rq,SqT.of ht1,Aj (j:=0) rfl,k,.str "sound",Rep.same s1 rk,.str _,fk.shaped (Qcf _),sS _ (by trivial),_,rq,?_⟩;show if eqS k "sound"=true then _ else _
 cases e2:eqS k "sound" with
 | false=>rw[e2] at q;exact Bs (q _ s1)
 | true=>
 rw[e2,QbQ] at q;refine Bp ⟨_,rq,t,_,_,_,rq,rq,SqT.of ht1,Aj (j:=1) rfl,_,1,99,rq,(Rep.same s1 rc).kn,?_⟩;rw[Ka (Rep.same s1 rc)];exact q _ s1
theorem XR (C:Code K mg "is_rules" Nz Hy) (T:Tc mg) (Ht:Good P w K mg base "is_row" 1 Hq OD) (eF:Good P w K mg base "is_rule" 6 Ko (GC Dc)):Good P w K mg base "is_rules" 7 Hy (GC Eb):=by
 refine C.good XH (λvs H Q E h=>?_) (λf cdv A outer s H vs Q E hr h=>?_)
 ·obtain⟨v,d,rfl,_⟩:=h;rfl
 obtain⟨v,d,rfl,rd,fit,q⟩:=h;refine⟨_,(Ah (Ak (Fg (Am Ht hr (Aa (pv 0) (Aa Ac (Aa Ac Ab)))) (Gk (Ax (LK rfl) rfl T.all Px (Aa (G3 (N':=["part"]) rfl (CZ.plain rfl (by trivial) (by trivial) (by trivial)) (O7 (pv 0)) (λ_ _ _ _=>(Az (i:=0) (show List.Nodup (["part"]:YF) by trivial) rfl (Or.inl rfl))) (λ_ _ _ _=>Ii) (λ_ _ _ _=>(Am eF hr (Aa (pv 0) Ab)))) Ab)))))),?_⟩;refine⟨_,rq,v,1,16,rq,rd.kn,_,rq,?_⟩;rw[M7 rd];cases e3:Ea d 1 16 with
 | false=>
  have:Eb d=false:=by
   unfold Eb;split
   ·rw[e3];rfl
   ·rfl
  rw[this] at q;exact Bs (q _ (Same.refl _))
 | true=>
 obtain⟨t,xs,ds,rfl,rfl,ht,rs,h1,h2⟩:=K1 rd e3;have q:∀H',Same H H'->Q (.bl (ds.all Dc)) H':=λH' s'=>by
  have:=q H' s';have e:Eb (.tuple ds)=ds.all Dc:=by
   show (Ea (.tuple ds) 1 16&&ds.all Dc)=_;rw[e3,QbQ]
  rw[e] at this;exact this
 refine Bp ⟨_,rq,t,rq,⟨_,SqT.of ht⟩,λlc hlc=>?_⟩;refine fG (fb:=Dc) hlc ht rs (by omega) (λx dx HX hdx rx sx R hR=>⟨_,rq,x,dx,rq,rx,fit.item' hdx,hR⟩) (λH2 hc s2=>?_);refine⟨lc,_,rq,SqL.of hc,?_⟩;rw[all_map];exact q _ s2
end
abbrev Wb:Stmt:=top 56
abbrev Nb:YF:=["_law_thing","_law_least","_law_most"]
theorem mY:Bo Nb Nb (Ar Wb):=by ac_rfl
abbrev Mq:Stmt:=top 57
abbrev G4:YF:=["_law_thing"]
theorem V9:Bo G4 G4 (Ar Mq):=by ac_rfl
abbrev Mr:Stmt:=top 58
abbrev Gd:YF:=["_law_thing","_law_deep"]
theorem Dl:Bo ["_law_thing","_law_deep","_law_forms","_law_bounds","_law_many","_law_sign","_law_part"] Gd (Ar Mr):=by ac_rfl
def Od:YM:=[(.inr "of",.str "nz"),(.inr "key",.str "k"),(.inr "hours",.str "hh"),(.inr "term",.str "z"),(.inr "not",.str "c"),(.inr "and",.str "cc"),(.inr "or",.str "cc"),(.inr "then",.str "ccb")]
theorem oG:Eo [] Od=Od:=by trivial
def Hw (p1 p2 p3 p4:Addr):YM:=[(.inr "n",.ref p1),(.inr "k",.ref p2),(.inr "h",.ref p3),(.inr "b",.ref p4)]
theorem oH (p1 p2 p3 p4:Addr):Eo [] (Hw p1 p2 p3 p4)=Hw p1 p2 p3 p4:=by with_unfolding_all rfl
def Hz (z:Str):Option Str:=if z="of" then some "nz" else if z="key" then some "k" else if z="hours" then some "hh" else if z="term" then some "z" else if z="not" then some "c" else if z="and" then some "cc" else if z="or" then some "cc" else if z="then" then some "ccb" else none
theorem kZ (z:Str):Gw Od (.inr z)=(Hz z).map V.str:=by
 unfold Hz;by_cases h1:z="of"
 ·subst h1;decide +kernel
 rw[if_neg h1];by_cases h2:z="key"
 ·subst h2;decide +kernel
 rw[if_neg h2];by_cases h3:z="hours"
 ·subst h3;decide +kernel
 rw[if_neg h3];by_cases h4:z="term"
 ·subst h4;decide +kernel
 rw[if_neg h4];by_cases h5:z="not"
 ·subst h5;decide +kernel
 rw[if_neg h5];by_cases h6:z="and"
 ·subst h6;decide +kernel
 rw[if_neg h6];by_cases h7:z="or"
 ·subst h7;decide +kernel
 rw[if_neg h7];by_cases h8:z="then"
 ·subst h8;decide +kernel
 rw[if_neg h8];have e:∀y:Str,z≠y->¬(Sum.inr y:Key)=.inr z:=λy h e=>h (by injection e with e;exact e.symm);simp[Gw,Od,e _ h1,e _ h2,e _ h3,e _ h4,e _ h5,e _ h6,e _ h7,e _ h8]
def bnd (c:Nat):Option (Int×Int):=if c=110 then some (1,9) else if c=107 then some (0,9) else if c=104 then some (0,23) else if c=98 then some (1,20) else none
theorem pW (p1 p2 p3 p4:Addr):Gw (Hw p1 p2 p3 p4) (.inr ⟨#[110]⟩)=some (.ref p1):=by with_unfolding_all rfl
theorem pU (p1 p2 p3 p4:Addr):Gw (Hw p1 p2 p3 p4) (.inr ⟨#[107]⟩)=some (.ref p2):=by with_unfolding_all rfl
theorem pR (p1 p2 p3 p4:Addr):Gw (Hw p1 p2 p3 p4) (.inr ⟨#[104]⟩)=some (.ref p3):=by with_unfolding_all rfl
theorem pQ (p1 p2 p3 p4:Addr):Gw (Hw p1 p2 p3 p4) (.inr ⟨#[98]⟩)=some (.ref p4):=by with_unfolding_all rfl
theorem pP (p1 p2 p3 p4:Addr):Gw (Hw p1 p2 p3 p4) (.inr ⟨#[122]⟩)=none:=by with_unfolding_all rfl
theorem lN:(Str.ofString "c")=⟨#[99]⟩:=by trivial
theorem lM:(Str.ofString "z")=⟨#[122]⟩:=by trivial
def CP (g:PyData->Int) (c:Nat) (p:PyData):Int:=
 if c=99 then g p else if c=122 then (if nameP p=true then 0 else 1000) else match bnd c with
  | some b=>if wiP p b.1 b.2=true then 0 else 1000
  | none=>0
def Jv (g:PyData->Int) (f:Str) (r:List PyData):Int:=((f.cps.toList.zip r).map λp=>CP g p.1 p.2).sum
def Dp:Nat->PyData->Int
 | 0,_=>1000
 | n+1,d=>match d with
  | .tuple (.str z::r)=>match Hz z with
   | none=>1000
   | some f=>if f.cps.size=r.length then 1+Jv (Dp n) f r else 1000
  | _=>1000
def okF (f:Str):Bool:=f.cps.all (λc=>decide (c < 128))&&(decide (f.cps.size<=3)&&f.cps.toList.all λc=>decide (c=110\/c=107\/c=104\/c=98\/c=99\/c=122))
theorem Y8 {z f:Str} (h:Hz z=some f):okF f=true:=by
 unfold Hz at h
 repeat' split at h
 all_goals first | (cases h;decide +kernel) | cases h
def gQ:Sp:=λvs H Q _=>∃v lo hi,vs=[v,.int lo,.int hi]/\Kn H v/\Q (.bl (wiB v lo hi)) H
def lJ (n:Nat):Sp:=λvs H Q _=>∃(v:V) (d:PyData),n<=6/\vs=[v,.int (7 - (n:Int))]/\Rep H v d/\Fit 64 d/\∀H',Same H H'->Q (.int (Dp n d)) H'
def ZK (D:Nat):Sp:=λvs H Q E=>∃n,n<=D/\lJ n vs H Q E
theorem dX (bs:List Bool):(!inV (.bl false) (bs.map V.bl))=bs.all id:=by
 induction bs with
 | nil=>rfl
 | cons b r ih=>
  have e:inV (.bl false) ((b::r).map V.bl)=(eqV (.bl b) (.bl false) || inV (.bl false) (r.map V.bl)):=rfl;rw[e,Bool.not_or,ih,QbY];cases b <;> rfl
theorem jO (bs:List Bool):(bs.map V.bl).all JX=true:=by rw[List.all_map,Qbm];intro _ _;rfl
theorem S8 {H:Hp} {v:V} {d:PyData} (r:Rep H v d):(∃t xs ds,v=.ref t/\d=.tuple ds/\H t=some (.tup xs)/\Bk H xs ds/\KH H v=some xs)\/(KH H v=none/\∀ds,d≠.tuple ds):=by
 cases r with
 | tup e r=>exact .inl ⟨_,_,_,rfl,rfl,e,r,QH e⟩
 | lst e r=>exact .inr ⟨Ow e,λ_ z=>by cases z⟩
 | _=>exact .inr ⟨rfl,λ_ z=>by cases z⟩
theorem fj {x:V} {r:YG}:GP (x::r) (some 1) none=r:=by
 unfold GP;rw[HT.Wc,show (some (1:Int))=some ((1:Nat):Int) from rfl,HT.S5,Nat.min_eq_left (by rw[Qbl];omega)]
 exact Qaw (by rw[Qbl];show r.length<=_;omega)
theorem Sq {n:Nat} {d:PyData} (h:∀z r,d≠.tuple (.str z::r)):Dp n d=1000:=by
 cases n with
 | zero=>rfl
 | succ n=>
  unfold Dp;split
  ·exact absurd rfl (h _ _)
  ·rfl
section
variable {P:Program} {w:World} {K:YD} {mg:YB} {base:Heap}
theorem nO (c:Code K mg "_law_is" Wb Nb) (T:Tc mg):Good P w K mg base "_law_is" 1 Nb gQ:=by
 refine c.good mY (λvs H Q E h=>?_) (λf cdv A outer s H vs Q E hr h=>?_)
 ·obtain⟨v,lo,hi,rfl,_⟩:=h;rfl
 obtain⟨v,lo,hi,rfl,k,q⟩:=h;refine⟨_,(Ah (Ak (Fg (Ax DW rfl T.isinstance Bh (Aa (pv 0) (Aa (Ef (v:=.ty "int") rfl T.int LQ rfl) Ab))) (Fg (cM (Ax DW rfl T.isinstance Bh (Aa (pv 0) (Aa (Ef (v:=.ty "bool") rfl T.bool Zi rfl) Ab)))) (Gk (NZ G7 G7 (pv 1) (pv 0) (pv 2))))))),?_⟩;refine⟨_,rq,Y6 k ⟨_,rq,?_⟩⟩;cases e:isI v with
 | false=>
  have:wiB v lo hi=false:=by cases v <;> first | rfl | cases e
  rw[this] at q;exact Bs q
 | true=>
 refine Bp ⟨_,rq,WX e ⟨_,rq,_,rq,?_⟩⟩;cases v with
 | bl b=>exact Bs q
 | int x=>
  have q:Q (.bl (decide (lo<=x)&&decide (x<=hi))) H:=q;refine Bp ⟨_,rq,_,rq,_,_,rq,rq,_,rq,?_⟩;by_cases h1:lo<=x
  ·rw[QbN h1];rw[QbN h1,QbQ] at q;exact Bp ⟨_,rq,_,_,rq,rq,q⟩
  ·rw[Qbv h1];rw[Qbv h1,Bool.false_and] at q;exact Bs q
 | _=>cases e
theorem Ws (C:Code K mg "_law_is_name" Mq G4) (T:Tc mg):Good P w K mg base "_law_is_name" 1 G4 (GC nameP):=by
 refine C.good V9 (λvs H Q E h=>?_) (λf cdv A outer s H vs Q E hr h=>?_)
 ·obtain⟨v,d,rfl,_⟩:=h;rfl
 obtain⟨v,d,rfl,rd,fit,q⟩:=h;refine⟨_,(Ad (Bg (PW.pt (DR (Cw (Ci (Ax DW rfl T.isinstance Bh (Aa (pv 0) (Aa (Ef (v:=.ty "str") rfl T.str GR rfl) Ab))))) (DQ (Cw (NT JW JW Ac (Ax Dg rfl T.len Cy (Aa (pv 0) Ab)) Ac))))) (Ah (Ak Eu)) Ay)
 (Ah (Ak (Dy Lh Eu (G3 (N':=["_law_sign"]) rfl (CZ.plain rfl (by trivial) (by trivial) (by trivial)) (O8 (pv 0)) (λ_ _ _ _=>(Az (i:=0) (show List.Nodup (["_law_sign"]:YF) by trivial) rfl (Or.inl rfl))) (λ_ _ _ _=>Ii) (λ_ _ _ _=>(Dy Kr (pv 0) Af (by with_unfolding_all rfl)))) (by with_unfolding_all rfl))))),?_⟩
 show let R0:TS:=_;Al _ R0 _ _ _;intro R0;refine⟨_,rq,Lq rd.kn ⟨_,rq,?_⟩⟩;cases rd with
 | str z=>
  have q:∀H',Same H H'->Q (.bl ((decide ((1:Int)<=z.length)&&decide ((z.length:Int)<=8))&&z.cps.toList.all Oi)) H':=q;have z9:z.length<=9000:=fit.qC;refine Bs ⟨_,rq,z,rq,(Qca (show z.length<=9000 by omega) (by decide)),_,_,rq,rq,_,rq,?_⟩;by_cases g1:(1:Int)<=(z.length:Int)
  ·rw[QbN (show (0:Int) < (z.length:Int) by omega)];rw[QbN g1,QbQ] at q;refine Bp ⟨_,_,rq,rq,_,rq,?_⟩;by_cases g2:(z.length:Int)<=8
   ·rw[QbN (show (z.length:Int) < 9 by omega)];rw[QbN g2,QbQ] at q;refine Bs ⟨_,rq,z,rq,λl hl'=>?_⟩;let J0:YN:=λi U HH=>∃u,U=[u]/\HH l=some (.lst (((z.cps.toList.take i).map Oi).map V.bl))/\Same H HH;refine LC J0 ⟨_,rq,Ae,Ag hl' _⟩ (λi c U HH hc h=>?_) (fun U HH h=>?_)
    ·obtain⟨u,rfl,e1,e2⟩:=h;have hi:i < z.cps.size:=(Qae.mp hc).1;have hz:z.cps.size<=8:=by have e:z.length=z.cps.size:=rfl;omega
     have hcl:z.cps.toList[i]?=some c:=by rw[Qay];exact hc
     unfold Gi;dsimp only;refine Bp ⟨_,rq,_,_,rq,rq,_,e1,Ca (by simp;omega),_,rq,?_,e2.Fj Aw.upd hl'⟩;rw[Ae,Qcm hcl,Qbx,Qbx];rfl
    ·obtain⟨u,rfl,e1,e2⟩:=h;have el:z.cps.size=z.cps.toList.length:=QaH.symm;rw[el,Qbq] at e1;refine⟨l,_,rq,.inl (SqL.of e1),rq,jO _,?_⟩;show Q (.bl (!inV (.bl false) ((z.cps.toList.map Oi).map V.bl))) HH;rw[dX,all_map];exact q _ e2
   ·rw[Qbv (show ¬(z.length:Int) < 9 by omega)];rw[Qbv g2] at q;exact Bp (q _ (Same.refl _))
  ·rw[Qbv (show ¬(0:Int) < (z.length:Int) by omega)];rw[Qbv g1] at q;exact Bs ⟨_,rq,Bp (q _ (Same.refl _))⟩
 | _=>exact Bp (q _ (Same.refl _))
theorem Z7 (c:Code K mg "_law_counted" Mr Gd) (T:Tc mg) (W3:Good P w K mg base "_law_is" 1 Nb gQ) (Mx:Good P w K mg base "_law_is_name" 1 G4 (GC nameP)):∀k,Good P w K mg base "_law_counted" (2+k) Gd (ZK k):=by
 have step:∀(D k':Nat) (sp':Sp),(∀e,e+1<=D->∀vs H Q E,lJ e vs H Q E->sp' vs H Q E)->Good P w K mg base "_law_counted" k' Gd sp'->1<=k'->Good P w K mg base "_law_counted" (k'+1) Gd (ZK D):=λD k' sp' hsp Mz hk1=>by
  have sc:=Dl;refine c.good Dl (λvs H Q E h=>?_) (λf cdv A outer s H vs Q E hr h=>?_)
  ·obtain⟨n,hn,v,d,h6,rfl,_⟩:=h;rfl
  obtain⟨n,hn,v,d,h6,rfl,rd,fit,q⟩:=h;refine⟨_,(@Ad _ _ _ _ _ (@Bf _ _ 2 _ _ _ _ Dl.nd rfl (Or.inl rfl) (@Yy _ _ _ _ _ (@Ey _ _ _ _ _ _ _ _ _ (@Af _ _ _ _) (@Af _ _ _ _) (@Ey _ _ _ _ _ _ _ _ _ (@Af _ _ _ _) (@Af _ _ _ _) (@Ey _ _ _ _ _ _ _ _ _ (@Af _ _ _ _) (@Af _ _ _ _) (@Ey _ _ _ _ _ _ _ _ _ (@Af _ _ _ _) (@Af _ _ _ _) (@Ey _ _ _ _ _ _ _ _ _ (@Af _ _ _ _) (@Af _ _ _ _) (@Ey _ _ _ _ _ _ _ _ _ (@Af _ _ _ _) (@Af _ _ _ _) (@Ey _ _ _ _ _ _ _ _ _ (@Af _ _ _ _) (@Af _ _ _ _) (@Ey _ _ _ _ _ _ _ _ _ (@Af _ _ _ _) (@Af _ _ _ _) Yx)))))))) rfl rfl (λh=>by cases h) (by decide)) (by rfl) (by first | exact .inl rfl | exact .inr rfl))
 (@Ad _ _ _ _ _ (Bg (PW.pt (DR (Av Vt (pv 1) Ac (Bc _)) (DR (Cw (Ci (Ax DW rfl T.isinstance Bh (Aa (pv 0) (Aa (Ef (v:=.ty "tuple") rfl T.tuple IW rfl) Ab))))) (DR (Av BK (Ax BR rfl T.len Cy (Aa (pv 0) Ab)) Ac (Bc _)) (DQ (Cw (Ci (Ax DW rfl T.isinstance Bh (Aa (@Ba _ _ _ _ _ _ _ Bm (pv 0) Ac (λ_ _=>rfl)) (Aa (Ef (v:=.ty "str") rfl T.str GR rfl) Ab)))))))))) (@Ah _ _ _ (@Ak _ _ _ _ Ac)) Ay)
 (@Ad _ _ _ _ _ (Bg (PW.pt (DR (cG (cO (Qo hr) (@Ba _ _ _ _ _ _ _ Bm (pv 0) Ac (λ_ _=>rfl)) (pv 2))) (DQ (Av Jt (Ax Dg rfl T.len Cy (Aa (Qh (Qo hr) (pv 2) (@Ba _ _ _ _ _ _ _ Bm (pv 0) Ac (λ_ _=>rfl)) (λ_ _=>rfl)) Ab)) (@Aq _ _ _ _ _ _ _ _ Ga (Ax BR rfl T.len Cy (Aa (pv 0) Ab)) Ac) (Bc _))))) (@Ah _ _ _ (@Ak _ _ _ _ Ac)) Ay)
 (@Ad _ _ _ _ _ (@Bf _ _ 3 _ _ _ _ Dl.nd rfl (Or.inl rfl) (@Yy _ _ _ _ _ (@Ey _ _ _ _ _ _ _ _ _ (@Af _ _ _ _) (Bl (Aa Ac (Aa Ac Ab))) (@Ey _ _ _ _ _ _ _ _ _ (@Af _ _ _ _) (Bl (Aa Ac (Aa Ac Ab))) (@Ey _ _ _ _ _ _ _ _ _ (@Af _ _ _ _) (Bl (Aa Ac (Aa Ac Ab))) (@Ey _ _ _ _ _ _ _ _ _ (@Af _ _ _ _) (Bl (Aa Ac (Aa Ac Ab))) Yx)))) rfl rfl (λh=>by cases h) (by decide)) (by rfl) (by first | exact .inl rfl | exact .inr rfl))
 (@Ad _ _ _ _ _ (@Bf _ _ 4 _ _ _ _ Dl.nd rfl (Or.inl rfl) Ac (by rfl) (by first | exact .inl rfl | exact .inr rfl))
 (@Ad _ _ _ _ _ (Ih QbD rfl (m9 rfl T.zip (Aa (Qh (Qo hr) (pv 2) (@Ba _ _ _ _ _ _ _ Bm (pv 0) Ac (λ_ _=>rfl)) (λ_ _=>rfl)) (Aa (Bq SN (pv 0) (Bt Ac) Bx) Ab))) (Di rfl (Bd (Az (i:=5) Dl.nd rfl (Or.inl rfl)) (Bd (Az (i:=6) Dl.nd rfl (Or.inl rfl)) CN)))
 (@Ah _ _ _ (Bg (Av BK (pv 5) Af (Bc _)) (@Ah _ _ _ (@Bf _ _ 4 _ _ _ _ Dl.nd rfl (Or.inl rfl) (@Aq _ _ _ _ _ _ _ _ Dd (pv 4) (Am (hk:=(Qcf _)) Mz hr (Aa (pv 6) (Aa (@Aq _ _ _ _ _ _ _ _ Dd (pv 1) Ac) Ab)))) (by rfl) (by first | exact .inl rfl | exact .inr rfl))) (@Ah _ _ _ (Bg (PW.pt (Ig (Av BK (pv 5) Af (Bc _)) (GZ (Cw (Ci (Am (hk:=hk1) Mx hr (Aa (pv 6) Ab))))))) (@Ah _ _ _ (@Bf _ _ 4 _ _ _ _ Dl.nd rfl (Or.inl rfl) (@Aq _ _ _ _ _ _ _ _ Dd (pv 4) Ac) (by rfl) (by first | exact .inl rfl | exact .inr rfl))) (@Ah _ _ _ (Bg (PW.pt (Ig (cG (qP (Qo hr) (pv 5) (pv 3))) (GZ (Cw (Ci (Am (hk:=hk1) W3 hr (Aa (pv 6) (Aa (@Ba _ _ _ _ _ _ _ Bm (Qh (Qo hr) (pv 3) (pv 5) (λ_ _=>rfl)) Ac (λ_ _=>rfl)) (Aa (@Ba _ _ _ _ _ _ _ Bm (Qh (Qo hr) (pv 3) (pv 5) (λ_ _=>rfl)) Ac (λ_ _=>rfl)) Ab))))))))) (@Ah _ _ _ (@Bf _ _ 4 _ _ _ _ Dl.nd rfl (Or.inl rfl) (@Aq _ _ _ _ _ _ _ _ Dd (pv 4) Ac) (by rfl) (by first | exact .inl rfl | exact .inr rfl))) Ay)))))))
 (@Ah _ _ _ (@Ak _ _ _ _ (pv 4))))))))),?_⟩
  show let R0:TS:=_;let R1:TS:=_;let R2:TS:=_;let R3:TS:=BX _ R2 _;let R4:TS:=BX _ R1 R3;let R5:TS:=BX _ R0 R4;let R6:TS:=Al (K5 _ _ R5) _;let R7:TS:=Al _ R6;let R8:TS:=Al _ R7;let R9:TS:=Al _ R8;let R10:TS:=Al _ R9;Al _ R10 _ _ _;intro R0 R1 R2 R3 R4 R5 R6 R7 R8 R9 R10;refine λpf hpf=>⟨Ae,Od,rq,by decide,?_⟩;have spf:Same H (upd (upd H pf (.dK [])) pf (.dK (Eo [] Od))):=(Ag hpf _).Fj Aw.upd hpf;have cpf:upd (upd H pf (.dK [])) pf (.dK (Eo [] Od)) pf=some (.dK Od):=by rw[Ae,oG]
  generalize upd (upd H pf (.dK [])) pf (.dK (Eo [] Od))=H1 at *;have rd1:=Rep.same spf rd;refine⟨_,rq,_,_,rq,rq,_,rq,Q9 (λh7=>?_) (λh7=>?_)⟩
  ·have h7:(6:Int) < 7 - (n:Int):=Qba h7;obtain rfl:n=0:=by omega
   exact q _ spf
  have h7:¬(6:Int) < 7 - (n:Int):=QaT h7;obtain⟨m,rfl⟩ : ∃m,n=m+1:=⟨n - 1,by omega⟩;refine⟨_,rq,Mh rd1.kn ⟨_,rq,?_⟩⟩;rcases S8 rd1 with⟨t,xs,ds,rfl,rfl,ht,rs,et⟩|⟨et,hn'⟩
  ·rw[et];refine Bs ⟨_,rq,t,_,rq,.inr (SqT.of ht),rq,_,rq,ifN (λh0=>?_) (λh0=>?_)⟩
   ·have:xs=[]:=by
     cases xs with
     | nil=>rfl
     | cons a b=>rw[Qbl] at h0;omega
    subst this;cases rs;rw[Sq (λz r e=>by cases e)] at q;exact q _ spf
   cases rs with
   | nil=>exact absurd rfl h0
   | @cons x0 k xr r rk rs=>
   refine⟨_,rq,t,_,_,_,rq,rq,SqT.of ht,Aj (j:=0) rfl,Lq rk.kn ⟨_,rq,?_⟩⟩;cases rk with
   | str z=>
    have lr:=Bk.len rs;have len1:(((V.str z::xr).length:Nat):Int)=(r.length:Int)+1:=by rw[Qbl,lr];omega
    have q:∀H',Same H H'->Q (.int (match Hz z with | none=>1000 | some f=>if f.cps.size=r.length then 1+Jv (Dp m) f r else 1000)) H':=q
    have hdg:=Jb.k (k:=.inr z) cpf;rw[kZ] at hdg;refine Bs ⟨_,rq,t,_,_,_,rq,rq,SqT.of ht,Aj (j:=0) rfl,_,rq,pf,_,rq,hdg,_,rq,?_⟩;cases ef:Hz z with
    | none=>rw[ef] at q;exact Bp (q _ spf)
    | some fm=>
    rw[ef] at q hdg;have q:∀H',Same H H'->Q (.int (if fm.cps.size=r.length then 1+Jv (Dp m) fm r else 1000)) H':=q
    have okf:=Y8 ef;unfold okF at okf;rw[Qbk,Qbk] at okf;obtain⟨fa,f3,fc⟩:=okf;have f3:=Qba f3;refine Bs ⟨_,rq,_,rq,t,_,_,_,rq,rq,SqT.of ht,Aj (j:=0) rfl,pf,_,rq,hdg,fm,rq,Ao (by show fm.cps.size<=1000;omega),_,rq,t,_,rq,.inr (SqT.of ht),_,_,rq,rq,rq,_,rq,?_⟩;by_cases hl:¬fm.cps.size=r.length
    ·rw[if_neg hl] at q;have e:decide (V.int (fm.length:Int)=V.int ((((V.str z::xr).length:Nat):Int) - 1))=false:=Qbv (λzz=>by
      injection zz with zz;rw[len1] at zz;have zz:(fm.cps.size:Int)=(r.length:Int)+1 - 1:=zz;omega)
     show if (!decide (V.int (fm.length:Int)=V.int ((((V.str z::xr).length:Nat):Int) - 1)))=true then _ else _
     rw[e];exact Bp (q _ spf)
    have hl:fm.cps.size=r.length:=by omega
    rw[if_pos hl] at q;refine aH (by
     congr 1;rw[len1];show (fm.cps.size:Int)=(r.length:Int)+1 - 1;omega) ?_
    refine λpb hpb=>⟨Ao (by show 2<=1000;decide),λp1 h1=>⟨Ao (by show 2<=1000;decide),λp2 h2=>⟨Ao (by show 2<=1000;decide),λp3 h3=>⟨Ao (by show 2<=1000;decide),λp4 h4=>?_⟩⟩⟩⟩;have k0:=Ag hpb (.dK []);have k1:=Ag h1 (.tup [.int 1,.int 9]);have k2:=Ag h2 (.tup [.int 0,.int 9]);have k3:=Ag h3 (.tup [.int 0,.int 23]);have k4:=Ag h4 (.tup [.int 1,.int 20]);have k04:=k0.trans (k1.trans (k2.trans (k3.trans k4)));have sZ:=k4 _ _ (k3 _ _ (k2 _ _ (k1 _ _ (Ae (H:=H1) (a:=pb) (o:=.dK [])))));have d1:=k4 _ _ (k3 _ _ (k2 _ _ (Ae (H:=upd H1 pb (.dK [])) (a:=p1) (o:=.tup [.int 1,.int 9]))));have d2:=k4 _ _ (k3 _ _ (Ae (H:=upd (upd H1 pb (.dK [])) p1 (.tup [.int 1,.int 9])) (a:=p2) (o:=.tup [.int 0,.int 9])));have d3:=k4 _ _ (Ae (H:=upd (upd (upd H1 pb (.dK [])) p1 (.tup [.int 1,.int 9])) p2 (.tup [.int 0,.int 9])) (a:=p3) (o:=.tup [.int 0,.int 23]));have d4:=Ae (H:=upd (upd (upd (upd H1 pb (.dK [])) p1 (.tup [.int 1,.int 9])) p2 (.tup [.int 0,.int 9])) p3 (.tup [.int 0,.int 23])) (a:=p4) (o:=.tup [.int 1,.int 20]);generalize upd (upd (upd (upd (upd H1 pb (.dK [])) p1 (.tup [.int 1,.int 9])) p2 (.tup [.int 0,.int 9])) p3 (.tup [.int 0,.int 23])) p4 (.tup [.int 1,.int 20])=HB at *;refine⟨sZ,Hw p1 p2 p3 p4,rq,(by show 4<=15;decide),?_⟩;have ne:∀{p:Addr} {l:YG},HB p=some (.tup l)->p≠pb:=λh e=>by rw[e,sZ] at h;cases h
    have s2:Same H1 (upd HB pb (.dK (Eo [] (Hw p1 p2 p3 p4)))):=k04.Fj Aw.upd hpb;have cpb:upd HB pb (.dK (Eo [] (Hw p1 p2 p3 p4))) pb=some (.dK (Hw p1 p2 p3 p4)):=by rw[Ae,oH]
    have d1:upd HB pb (.dK (Eo [] (Hw p1 p2 p3 p4))) p1=some (.tup [.int 1,.int 9]):=by rw[Bw (ne d1)];exact d1
    have d2:upd HB pb (.dK (Eo [] (Hw p1 p2 p3 p4))) p2=some (.tup [.int 0,.int 9]):=by rw[Bw (ne d2)];exact d2
    have d3:upd HB pb (.dK (Eo [] (Hw p1 p2 p3 p4))) p3=some (.tup [.int 0,.int 23]):=by rw[Bw (ne d3)];exact d3
    have d4:upd HB pb (.dK (Eo [] (Hw p1 p2 p3 p4))) p4=some (.tup [.int 1,.int 20]):=by rw[Bw (ne d4)];exact d4
    generalize upd HB pb (.dK (Eo [] (Hw p1 p2 p3 p4)))=H2 at *;have ht2:=s2 _ _ ht;have zU:=s2 _ _ cpf;have rM:=Jb.k (k:=.inr z) zU;rw[kZ,ef] at rM;refine⟨_,rq,_,rq,t,_,_,_,rq,rq,SqT.of ht2,Aj (j:=0) rfl,pf,_,rq,rM,_,rq,_,rq,t,_,rq,ht2,λp5 H5 hp5 s5=>⟨fm,p5,rq,fa,⟨_,hp5⟩,?_⟩⟩;rw[fj] at hp5;have s05:=spf.trans (s2.trans s5);have s15:=s2.trans s5;refine jN (x:=fm) (b:=p5) (ys:=xr) (by omega) (λi U HH=>∃(u5 u6:Option V),U=[js t,some (.int (7 - ((m+1:Nat):Int))),js pf,js pb,some (.int (1+(((fm.cps.toList.zip r).take i).map λp=>CP (Dp m) p.1 p.2).sum)),u5,u6]/\Same H5 HH) ⟨_,_,rq,Same.refl _⟩ (λi U HH _ h=>?_) (λi ch y pp U HH hc hy h hpp=>?_) (fun U HH h=>?_)
    ·obtain⟨u5,u6,rfl,sH⟩:=h;exact sH _ _ hp5
    ·obtain⟨u5,u6,rfl,sH⟩:=h;obtain⟨dy,hdy,ry⟩:=Bk.at_ rs hy;have fdy:Fit 64 dy:=fit.item' (QaB _ (QaC hdy));have hcl:fm.cps.toList[i]?=some ch:=by rw[Qay];exact hc
     have zc:(fm.cps.toList.zip r)[i]?=some (ch,dy):=List.getElem?_zip_eq_some.mpr ⟨hcl,hdy⟩;have Sn:(((fm.cps.toList.zip r).take (i+1)).map λp=>CP (Dp m) p.1 p.2).sum=(((fm.cps.toList.zip r).take i).map λp=>CP (Dp m) p.1 p.2).sum+CP (Dp m) ch dy:=by
      rw[Qcm zc,Qbx,List.sum_append];simp
     refine⟨pp,_,rq,SqT.of Ae,rq,_,_,rq,_,_,rq,rq,?_⟩;have spp:=sH.trans (Ag hpp (.tup [.str ⟨#[ch]⟩,y]));generalize upd HH pp (.tup [.str ⟨#[ch]⟩,y])=H6 at *;have ry6:Rep H6 y dy:=Rep.same (s15.trans spp) ry;rw[Sn];generalize (((fm.cps.toList.zip r).take i).map λp=>CP (Dp m) p.1 p.2).sum=S at *;have chs:ch=110\/ch=107\/ch=104\/ch=98\/ch=99\/ch=122:=Qba (Qbm.mp fc ch (QaC hcl));have one:∀{a b:Nat},(⟨#[a]⟩ : Str)=⟨#[b]⟩->a=b:=λe=>by injection e with e;simpa using e
     refine⟨_,rq,rq,_,rq,ifS (λe=>?_) (λe=>?_)⟩
     ·have e99:ch=99:=one (e.trans lN);subst e99;refine⟨_,rq,_,rq,_,rq,_,_,rq,rq,hsp m (by omega) _ _ _ _ ⟨y,dy,by omega,?_,ry6,fdy,λH7 s7=>⟨_,_,rq,rq,some (.str ⟨#[99]⟩),some y,?_,spp.trans s7⟩⟩⟩
      ·show [y,V.int (7 - ((m+1:Nat):Int)+1)]=_;rw[show (7 - ((m+1:Nat):Int)+1)=7 - (m:Int) by omega]
      ·show [_,_,_,_,some (V.int (1+S+Dp m dy)),_,_]=[_,_,_,_,some (V.int (1+(S+Dp m dy))),_,_];rw[Int.add_assoc]
     have n99:ch≠99:=λz=>e (by rw[z];exact lN.symm);refine⟨_,rq,rq,_,rq,ifS (λe2=>?_) (λe2=>?_)⟩
     ·have zP:ch=122:=one (e2.trans lM);subst zP;have hpc:CP (Dp m) 122 dy=if nameP dy=true then 0 else 1000:=rfl
      rw[hpc];refine⟨_,rq,y,dy,rq,ry6,fdy,λH7 s7=>⟨_,rq,?_⟩⟩;cases en:nameP dy with
      | false=>
       refine Bp ⟨_,rq,_,_,rq,rq,some (.str ⟨#[122]⟩),some y,?_,spp.trans s7⟩;show [_,_,_,_,some (V.int (1+S+1000)),_,_]=[_,_,_,_,some (V.int (1+(S+if false=true then 0 else 1000))),_,_]
       rw[if_neg (by decide),Int.add_assoc]
      | true=>
       have hb:=Jb.k (k:=.inr ⟨#[122]⟩) (((s5.trans spp).trans s7) _ _ cpb);rw[pP] at hb;refine Bs ⟨_,rq,_,rq,pb,_,rq,hb,_,rq,Bs ⟨some (.str ⟨#[122]⟩),some y,?_,spp.trans s7⟩⟩;show [_,_,_,_,some (V.int (1+S)),_,_]=[_,_,_,_,some (V.int (1+(S+if true=true then 0 else 1000))),_,_]
       rw[if_pos rfl,Int.add_zero]
     have rm:ch≠122:=λz=>e2 (by rw[z];exact lM.symm);have s56:=s5.trans spp;obtain⟨pi,lo,hi,hv,hpi,hbn⟩ : ∃pi lo hi,Gw (Hw p1 p2 p3 p4) (.inr ⟨#[ch]⟩)=some (.ref pi)/\H6 pi=some (.tup [.int lo,.int hi])/\bnd ch=some (lo,hi):=by
      rcases chs with rfl | rfl | rfl | rfl | h | h
      ·exact⟨p1,1,9,pW ..,s56 _ _ d1,rq⟩
      ·exact⟨p2,0,9,pU ..,s56 _ _ d2,rq⟩
      ·exact⟨p3,0,23,pR ..,s56 _ _ d3,rq⟩
      ·exact⟨p4,1,20,pQ ..,s56 _ _ d4,rq⟩
      ·exact absurd h n99
      ·exact absurd h rm
     have hpc:CP (Dp m) ch dy=if wiP dy lo hi=true then 0 else 1000:=by
      unfold CP;rw[if_neg n99,if_neg rm,hbn]
     rw[hpc];have hb:=Jb.k (k:=.inr ⟨#[ch]⟩) (s56 _ _ cpb);rw[hv] at hb;refine⟨_,rq,_,rq,pb,_,rq,hb,_,rq,Bp ⟨_,rq,_,rq,_,rq,pb,_,rq,hb,pi,_,_,_,rq,rq,SqT.of hpi,Aj (j:=0) rfl,_,rq,_,rq,pb,_,rq,hb,pi,_,_,_,rq,rq,SqT.of hpi,Aj (j:=1) rfl,y,lo,hi,rq,ry6.kn,_,rq,?_⟩⟩;rw[Ka ry6];cases ew:wiP dy lo hi with
     | false=>
      refine Bp ⟨_,rq,_,_,rq,rq,some (.str ⟨#[ch]⟩),some y,?_,spp⟩;show [_,_,_,_,some (V.int (1+S+1000)),_,_]=[_,_,_,_,some (V.int (1+(S+if false=true then 0 else 1000))),_,_]
      rw[if_neg (by decide),Int.add_assoc]
     | true=>
      refine Bs ⟨some (.str ⟨#[ch]⟩),some y,?_,spp⟩;show [_,_,_,_,some (V.int (1+S)),_,_]=[_,_,_,_,some (V.int (1+(S+if true=true then 0 else 1000))),_,_]
      rw[if_pos rfl,Int.add_zero]
    ·obtain⟨u5,u6,rfl,sH⟩:=h;have:(fm.cps.toList.zip r).take xr.length=fm.cps.toList.zip r:=Qaw (by rw[List.length_zip,QaH];omega);refine⟨_,rq,?_⟩;rw[this];exact q _ (s05.trans sH)
   | _=>
    have q:=q _ spf;rw[Sq (λz r e=>by cases e)] at q;exact Bp q
  ·rw[et];rw[Sq (λz r e=>hn' _ e)] at q;exact Bp (q _ spf)
 intro k
 induction k with
 | zero=>exact step 0 1 (λ_ _ _ _=>False) (λe he=>absurd he (by omega)) (c.good Dl (λvs H Q E h=>h.elim) (λf cdv A outer s H vs Q E hr h=>h.elim)) (Qcf _)
 | succ e ih=>exact step (e+1) (2+e) (ZK e) (λd hd vs H Q E h=>⟨d,by omega,h⟩) ih (by omega)
end
abbrev La:Stmt:=top 59
abbrev Ho:YF:=G4
theorem Oo:Bo ["_law_thing","_law_row"] Ho (Ar La):=by ac_rfl
theorem Fz {z y:Str} (h:z≠y):¬eqS (.str z) y=true:=by rw[Du h];decide
theorem tX {z:Str} (h1:z≠"and") (h2:z≠"or"):¬aoP (.str z)=true:=λh=>by
 rcases Jj.mp h with e | e
 ·exact h1 (by injection e)
 ·exact h2 (by injection e)
theorem aX {z:Str} (h1:z≠"and") (h2:z≠"or") (h3:z≠"then"):¬Ia (.str z)=true:=λh=>by
 have h:inV (.str z) [.str "and",.str "or",.str "then"]=true:=h;simp only[inV,QbW,List.any_nil,Bool.or_false,QbJ] at h;rcases h with h | h | h
 ·exact h1 (Hv h).symm
 ·exact h2 (Hv h).symm
 ·exact h3 (Hv h).symm
def Wd (z f:Str) (r:List PyData):Prop:=(Cg (.str z) r=true->f.cps.size=r.length/\∀g:PyData->Int,Jv g f r=((DG (.tuple (.str z::r))).map g).sum)/\(Cg (.str z) r=false->f.cps.size=r.length->∀g:PyData->Int,(∀x,0<=g x)->1000<=Jv g f r)
theorem FP {f:Str} {l:List Nat} (h:f.cps.toList=l) (g:PyData->Int) (r:List PyData):Jv g f r=((l.zip r).map λp=>CP g p.1 p.2).sum:=by
 unfold Jv;rw[h]
theorem pc (g:PyData->Int) (p:PyData):CP g 99 p=g p:=rfl
theorem pz (g:PyData->Int) (p:PyData):CP g 122 p=if nameP p=true then 0 else 1000:=rfl
theorem pn (g:PyData->Int) (p:PyData):CP g 110 p=if wiP p 1 9=true then 0 else 1000:=rfl
theorem pk (g:PyData->Int) (p:PyData):CP g 107 p=if wiP p 0 9=true then 0 else 1000:=rfl
theorem ph (g:PyData->Int) (p:PyData):CP g 104 p=if wiP p 0 23=true then 0 else 1000:=rfl
theorem pb (g:PyData->Int) (p:PyData):CP g 98 p=if wiP p 1 20=true then 0 else 1000:=rfl
theorem vQ (r:List PyData):Wd "of" "nz" r:=by
 have e:Cg (.str "of") r=ofR r:=by unfold Cg;rw[if_pos (CK _)]
 have i:DG (.tuple (.str "of"::r))=[]:=by
  show (if eqS (.str "of") "not"=true then r.take 1 else if Ia (.str "of")=true then r.take 2 else [])=[]
  rw[if_neg (Fz (by trivial)),if_neg (aX (by trivial) (by trivial) (by trivial))]
 unfold Wd;rw[e,i];have sz:(Str.ofString "nz").cps.size=2:=by trivial
 have fl:(Str.ofString "nz").cps.toList=[110,122]:=by trivial
 refine⟨λh=>?_,λh hs g gn=>?_⟩
 ·match r,h with
  | [n,z],h=>
   have h:(wiP n 1 9&&nameP z)=true:=h;rw[Qbk] at h;refine⟨sz,λg=>?_⟩;rw[FP fl];show CP g 110 n+(CP g 122 z+0)=0;rw[pn,pz,if_pos h.1,if_pos h.2];rfl
  | [],h=>cases h
  | [_],h=>cases h
  | _::_::_::_,h=>cases h
 ·rw[sz] at hs
  match r,hs,h with
  | [n,z],_,h=>
   have h:(wiP n 1 9&&nameP z)=false:=h;rw[FP fl];show 1000<=CP g 110 n+(CP g 122 z+0);rw[pn,pz];cases e1:wiP n 1 9 <;> cases e2:nameP z <;> rw[e1,e2] at h <;> first | decide | cases h
theorem pN (r:List PyData):Wd "term" "z" r:=by
 have e:Cg (.str "term") r=Nr r:=by unfold Cg;rw[if_neg (Fz (by trivial)),if_pos (CK _)]
 have i:DG (.tuple (.str "term"::r))=[]:=by
  show (if eqS (.str "term") "not"=true then r.take 1 else if Ia (.str "term")=true then r.take 2 else [])=[]
  rw[if_neg (Fz (by trivial)),if_neg (aX (by trivial) (by trivial) (by trivial))]
 unfold Wd;rw[e,i];have sz:(Str.ofString "z").cps.size=1:=by trivial
 have fl:(Str.ofString "z").cps.toList=[122]:=by trivial
 refine⟨λh=>?_,λh hs g gn=>?_⟩
 ·match r,h with
  | [z],h=>
   have h:nameP z=true:=h;refine⟨sz,λg=>?_⟩;rw[FP fl];show CP g 122 z+0=0;rw[pz,if_pos h];rfl
  | [],h=>cases h
  | _::_::_,h=>cases h
 ·rw[sz] at hs
  match r,hs,h with
  | [z],_,h=>
   have h:nameP z=false:=h;rw[FP fl];show 1000<=CP g 122 z+0;rw[pz,h]
   decide
theorem w_not (r:List PyData):Wd "not" "c" r:=by
 have e:Cg (.str "not") r=decide (r.length=1):=by unfold Cg;rw[if_neg (Fz (by trivial)),if_neg (Fz (by trivial)),if_pos (CK _)]
 have i:DG (.tuple (.str "not"::r))=r.take 1:=by
  show (if eqS (.str "not") "not"=true then r.take 1 else if Ia (.str "not")=true then r.take 2 else [])=_
  rw[if_pos (CK _)]
 unfold Wd;rw[e,i];have sz:(Str.ofString "c").cps.size=1:=by trivial
 have fl:(Str.ofString "c").cps.toList=[99]:=by trivial
 refine⟨λh=>?_,λh hs g gn=>?_⟩
 ·have h:=Qba h
  match r,h with
  | [z],h=>
   refine⟨sz,λg=>?_⟩;rw[FP fl];rfl
 ·rw[sz] at hs;exact absurd hs.symm (QaT h)
theorem pO {w:Str} (hw:w="and"\/w="or") (r:List PyData):Wd w "cc" r:=by
 have n1:w≠"of":=by rcases hw with rfl | rfl <;> decide +kernel
 have n2:w≠"term":=by rcases hw with rfl | rfl <;> decide +kernel
 have n3:w≠"not":=by rcases hw with rfl | rfl <;> decide +kernel
 have a1:aoP (.str w)=true:=by rcases hw with rfl | rfl <;> decide +kernel
 have a2:Ia (.str w)=true:=by rcases hw with rfl | rfl <;> decide +kernel
 have e:Cg (.str w) r=decide (r.length=2):=by unfold Cg;rw[if_neg (Fz n1),if_neg (Fz n2),if_neg (Fz n3),if_pos a1]
 have i:DG (.tuple (.str w::r))=r.take 2:=by
  show (if eqS (.str w) "not"=true then r.take 1 else if Ia (.str w)=true then r.take 2 else [])=_
  rw[if_neg (Fz n3),if_pos a2]
 unfold Wd;rw[e,i];have sz:(Str.ofString "cc").cps.size=2:=by trivial
 have fl:(Str.ofString "cc").cps.toList=[99,99]:=by trivial
 refine⟨λh=>?_,λh hs g gn=>?_⟩
 ·have h:=Qba h
  match r,h with
  | [a,b],h=>
   refine⟨sz,λg=>?_⟩;rw[FP fl];rfl
 ·rw[sz] at hs;exact absurd hs.symm (QaT h)
theorem pL (r:List PyData):Wd "then" "ccb" r:=by
 have a2:Ia (.str "then")=true:=by trivial
 have e:Cg (.str "then") r=JT r:=by
  unfold Cg;rw[if_neg (Fz (by trivial)),if_neg (Fz (by trivial)),if_neg (Fz (by trivial)),if_neg (tX (by trivial) (by trivial)),if_pos (CK _)]
 have i:DG (.tuple (.str "then"::r))=r.take 2:=by
  show (if eqS (.str "then") "not"=true then r.take 1 else if Ia (.str "then")=true then r.take 2 else [])=_
  rw[if_neg (Fz (by trivial)),if_pos a2]
 unfold Wd;rw[e,i];have sz:(Str.ofString "ccb").cps.size=3:=by trivial
 have fl:(Str.ofString "ccb").cps.toList=[99,99,98]:=by trivial
 refine⟨λh=>?_,λh hs g gn=>?_⟩
 ·match r,h with
  | [a,b,c],h=>
   have h:wiP c 1 20=true:=h;refine⟨sz,λg=>?_⟩;rw[FP fl];show g a+(g b+(CP g 98 c+0))=g a+(g b+0);rw[pb,if_pos h];rfl
  | [],h=>cases h
  | [_],h=>cases h
  | [_,_],h=>cases h
  | _::_::_::_::_,h=>cases h
 ·rw[sz] at hs
  match r,hs,h with
  | [a,b,c],_,h=>
   have h:wiP c 1 20=false:=h;rw[FP fl];show 1000<=g a+(g b+(CP g 98 c+0));rw[pb,h];have:=gn a;have:=gn b;show (1000:Int)<=g a+(g b+(1000+0));omega
theorem Td {w:Str} (h1:w≠"of") (h2:w≠"term") (h3:w≠"not") (h4:w≠"and") (h5:w≠"or") (h6:w≠"then") (r:List PyData):Cg (.str w) r=Fb (.tuple (.str w::r))/\DG (.tuple (.str w::r))=[]:=by
 constructor
 ·unfold Cg;rw[if_neg (Fz h1),if_neg (Fz h2),if_neg (Fz h3),if_neg (tX h4 h5),if_neg (Fz h6)]
 ·show (if eqS (.str w) "not"=true then r.take 1 else if Ia (.str w)=true then r.take 2 else [])=[]
  rw[if_neg (Fz h3),if_neg (aX h4 h5 h6)]
theorem uz (r:List PyData):Wd "key" "k" r:=by
 obtain⟨e,i⟩:=Td (w:="key") (by trivial) (by trivial) (by trivial) (by trivial) (by trivial) (by trivial) r;unfold Wd;rw[e,i];have sz:(Str.ofString "k").cps.size=1:=by trivial
 have fl:(Str.ofString "k").cps.toList=[107]:=by trivial
 have hk:eqS (.str "key") "hours"=false:=Du (by trivial);refine⟨λh=>?_,λh hs g gn=>?_⟩
 ·match r,h with
  | [n],h=>
   have h:(eqS (.str "key") "key"&&wiP n 0 9)=true:=h;rw[Qbk] at h;refine⟨sz,λg=>?_⟩;rw[FP fl];show CP g 107 n+0=0;rw[pk,if_pos h.2];rfl
  | [],h=>cases h
  | [a,b],h=>
   have h:(eqS (.str "key") "hours"&&(wiP a 0 23&&wiP b 0 23))=true:=h;rw[hk] at h;cases h
  | _::_::_::_,h=>cases h
 ·rw[sz] at hs
  match r,hs,h with
  | [n],_,h=>
   have h:(eqS (.str "key") "key"&&wiP n 0 9)=false:=h;rw[CK,QbQ] at h;rw[FP fl];show 1000<=CP g 107 n+0;rw[pk,h]
   decide
theorem mK (r:List PyData):Wd "hours" "hh" r:=by
 obtain⟨e,i⟩:=Td (w:="hours") (by trivial) (by trivial) (by trivial) (by trivial) (by trivial) (by trivial) r;unfold Wd;rw[e,i];have sz:(Str.ofString "hh").cps.size=2:=by trivial
 have fl:(Str.ofString "hh").cps.toList=[104,104]:=by trivial
 have hk:eqS (.str "hours") "key"=false:=Du (by trivial);refine⟨λh=>?_,λh hs g gn=>?_⟩
 ·match r,h with
  | [n],h=>
   have h:(eqS (.str "hours") "key"&&wiP n 0 9)=true:=h;rw[hk] at h;cases h
  | [],h=>cases h
  | [a,b],h=>
   have h:(eqS (.str "hours") "hours"&&(wiP a 0 23&&wiP b 0 23))=true:=h;rw[Qbk,Qbk] at h;refine⟨sz,λg=>?_⟩;rw[FP fl];show CP g 104 a+(CP g 104 b+0)=0;rw[ph,ph,if_pos h.2.1,if_pos h.2.2];rfl
  | _::_::_::_,h=>cases h
 ·rw[sz] at hs
  match r,hs,h with
  | [a,b],_,h=>
   have h:(eqS (.str "hours") "hours"&&(wiP a 0 23&&wiP b 0 23))=false:=h;rw[CK,QbQ] at h;rw[FP fl];show 1000<=CP g 104 a+(CP g 104 b+0);rw[ph,ph];cases e1:wiP a 0 23 <;> cases e2:wiP b 0 23 <;> rw[e1,e2] at h <;> first | decide | cases h
theorem mH (z:Str) (r:List PyData):(∀f,Hz z=some f->Wd z f r)/\(Hz z=none->Cg (.str z) r=false):=by
 unfold Hz;by_cases h1:z="of"
 ·subst h1;rw[if_pos rfl];exact⟨λf e=>by cases e;exact vQ r,λe=>by cases e⟩
 rw[if_neg h1];by_cases h2:z="key"
 ·subst h2;rw[if_pos rfl];exact⟨λf e=>by cases e;exact uz r,λe=>by cases e⟩
 rw[if_neg h2];by_cases h3:z="hours"
 ·subst h3;rw[if_pos rfl];exact⟨λf e=>by cases e;exact mK r,λe=>by cases e⟩
 rw[if_neg h3];by_cases h4:z="term"
 ·subst h4;rw[if_pos rfl];exact⟨λf e=>by cases e;exact pN r,λe=>by cases e⟩
 rw[if_neg h4];by_cases h5:z="not"
 ·subst h5;rw[if_pos rfl];exact⟨λf e=>by cases e;exact w_not r,λe=>by cases e⟩
 rw[if_neg h5];by_cases h6:z="and"
 ·subst h6;rw[if_pos rfl];exact⟨λf e=>by cases e;exact pO (.inl rfl) r,λe=>by cases e⟩
 rw[if_neg h6];by_cases h7:z="or"
 ·subst h7;rw[if_pos rfl];exact⟨λf e=>by cases e;exact pO (.inr rfl) r,λe=>by cases e⟩
 rw[if_neg h7];by_cases h8:z="then"
 ·subst h8;rw[if_pos rfl];exact⟨λf e=>by cases e;exact pL r,λe=>by cases e⟩
 rw[if_neg h8];refine⟨(λf e=>by cases e),λ_=>?_⟩;rw[(Td h1 h4 h5 h6 h7 h8 r).1];cases e:Fb (.tuple (.str z::r)) with
 | false=>rfl
 | true=>
  rcases Uj e with e | e
  ·exact absurd (by injection e) h2
  ·exact absurd (by injection e) h3
theorem nC {g:PyData->Int} (gn:∀x,0<=g x) (c:Nat) (p:PyData):0<=CP g c p:=by
 unfold CP;split
 ·exact gn p
 ·split
  ·split <;> decide
  ·split
   ·split <;> decide
   ·decide
theorem P0 {α : Type} {f:α->Int} (h:∀x,0<=f x):∀l:List α,0<=(l.map f).sum
 | []=>Int.le_refl _
 | x::r=>by
  rw[QbR,QbX];have:=h x;have:=P0 h r;omega
theorem Pr:∀(n:Nat) (d:PyData),0<=Dp n d
 | 0,_=>(by show (0:Int)<=1000;decide)
 | n+1,d=>by
  unfold Dp;split
  ·split
   ·decide
   ·split
    ·refine Int.add_nonneg (by decide) ?_;unfold Jv;exact P0 (f:=λp:Nat×PyData=>CP (Dp n) p.1 p.2) (λp=>nC (Pr n) p.1 p.2) _
    ·decide
  ·decide
theorem Xi {n:Nat} {d:PyData}:(Cq d=true->Dp (n+1) d=1+((DG d).map (Dp n)).sum)/\(Cq d=false->1000<=Dp (n+1) d):=by
 by_cases hd:∃z r,d=.tuple (.str z::r)
 ·obtain⟨z,r,rfl⟩:=hd;obtain⟨w1,w2⟩:=mH z r;have hf:Cq (.tuple (.str z::r))=(Ea (.tuple (.str z::r)) 2 4&&Cg (.str z) r):=rfl;have hc:Dp (n+1) (.tuple (.str z::r))=match Hz z with | none=>1000 | some f=>if f.cps.size=r.length then 1+Jv (Dp n) f r else 1000:=rfl
  rw[hf,hc];cases ef:Hz z with
  | none=>
   rw[w2 ef,Bool.and_false];exact⟨(λh=>by cases h),λ_=>(by show (1000:Int)<=1000;decide)⟩
  | some f=>
   obtain⟨a1,a2⟩:=w1 f ef;have okf:=Y8 ef;unfold okF at okf;rw[Qbk,Qbk] at okf;have f3:=Qba okf.2.1;refine⟨λh=>?_,λh=>?_⟩
   ·rw[Qbk] at h;obtain⟨b1,b2⟩:=a1 h.2;show (if f.cps.size=r.length then 1+Jv (Dp n) f r else 1000)=_
    rw[if_pos b1,b2]
   ·show 1000<=if f.cps.size=r.length then 1+Jv (Dp n) f r else 1000
    by_cases hl:f.cps.size=r.length
    ·rw[if_pos hl];have fr:Cg (.str z) r=false:=by
      cases e:Cg (.str z) r with
      | false=>rfl
      | true=>
       exfalso;rw[e,Bool.and_true] at h;have h:(decide ((2:Int)<=(((PyData.str z::r).length:Nat):Int))&&decide ((((PyData.str z::r).length:Nat):Int)<=4))=false:=h;have pos:1<=f.cps.size:=by
        unfold Hz at ef
        repeat' split at ef
        all_goals first | (cases ef;decide +kernel) | cases ef
       rw[Qbl,QbN (by omega),QbN (by omega)] at h;cases h
     have:=a2 fr hl (Dp n) (Pr n);omega
    ·rw[if_neg hl];decide
 ·have h1:Dp (n+1) d=1000:=Sq (λz r e=>hd ⟨z,r,e⟩);have h2:Cq d=false:=by
   cases e:Cq d with
   | false=>rfl
   | true=>
    exfalso;unfold Cq at e;split at e
    ·rw[Qbk] at e;obtain⟨z,rfl⟩:=W6 e.2;exact hd ⟨_,_,rq⟩
    ·cases e
  rw[h1,h2];exact⟨(λh=>by cases h),λ_=>by decide⟩
def lvS (n:Nat) (l:List PyData):Int:=(l.map (Dp n)).sum
theorem dg {n:Nat}:∀{l:List PyData},l.all Cq=false->1000<=lvS (n+1) l
 | [],h=>by cases h
 | x::r,h=>by
  unfold lvS;rw[QbR,QbX];have rn:=P0 (f:=Dp (n+1)) (Pr _) r;have xn:=Pr (n+1) x;rw[QbY] at h;cases ex:Cq x with
  | false=>
   have:=(Xi (n:=n)).2 ex;omega
  | true=>
   rw[ex,QbQ] at h;have:1000<=lvS (n+1) r:=dg h;unfold lvS at this;omega
theorem lY {n:Nat}:∀{l:List PyData},l.all Cq=true->lvS (n+1) l=(l.length:Int)+lvS n (l.flatMap DG)
 | [],_=>rfl
 | x::r,h=>by
  rw[QbY,Qbk] at h;have ih:=lY (n:=n) h.2;have e:=(Xi (n:=n)).1 h.1;unfold lvS at ih ⊢;rw[QbR,QbX,e,ih,Qbj,Qbx,List.sum_append,Qbl];omega
theorem Zk:∀(n:Nat) (l:List PyData) (m:Nat),(match bfs n l m with | none=>false | some (l',m')=>l'.isEmpty&&decide (m'<=20))=decide ((m:Int)+lvS n l<=20)
 | 0,l,m=>by
  show (l.isEmpty&&decide (m<=20))=_;cases l with
  | nil=>
   rw[QbF,Qbk,QaS,QaS];unfold lvS;simp;omega
  | cons x r=>
   have h1:Dp 0 x=1000:=rfl;have rn:=P0 (f:=Dp 0) (Pr _) r;have:¬((m:Int)+lvS 0 (x::r)<=20):=by
    unfold lvS;rw[QbR,QbX,h1];omega
   rw[Qbv this];rfl
 | n+1,l,m=>by
  unfold bfs;cases e:l.all Cq with
  | false=>
   rw[if_neg (by decide)];have:=dg (n:=n) e;rw[Qbv (by omega)]
  | true=>
   rw[if_pos rfl,Zk n,lY e];congr 1;rw[Int.natCast_add];exact propext ⟨λh=>by omega,λh=>by omega⟩
theorem Xe (d:PyData):Gb d=decide (Dp 6 d<=20):=by
 have h:=Zk 6 [d] 0;have e2:((0:Nat):Int)+lvS 6 [d]=Dp 6 d:=by unfold lvS;simp
 rw[e2] at h;unfold Gb;revert h;cases bfs 6 [d] 0 with
 | none=>exact λh=>h
 | some p=>exact λh=>h
theorem Ys {d:PyData} (h:∀a b c,d≠.tuple [a,b,c]):Dc d=false:=by
 unfold Dc;split
 ·exact absurd rfl (h _ _ _)
 ·rfl
theorem gY {d:PyData} (h:∀ds,d≠.tuple ds):Eb d=false:=by
 unfold Eb;split
 ·exact absurd rfl (h _)
 ·rfl
section
variable {P:Program} {w:World} {K:YD} {mg:YB} {base:Heap}
theorem Va (C:Code K mg "_law_is_rules" La Ho) (T:Tc mg) (W3:Good P w K mg base "_law_is" 1 Nb gQ) (Mx:Good P w K mg base "_law_is_name" 1 G4 (GC nameP)) (Mz:Good P w K mg base "_law_counted" 8 Gd (ZK 6)):Good P w K mg base "_law_is_rules" 9 Ho (GC Eb):=by
 refine C.good Oo (λvs H Q E h=>?_) (λf cdv A outer s H vs Q E hr h=>?_)
 ·obtain⟨v,d,rfl,_⟩:=h;rfl
 obtain⟨v,d,rfl,rd,fit,q⟩:=h;refine⟨_,(Ad (Bg (PW.pt (DR (Cw (Ci (Ax DW rfl T.isinstance Bh (Aa (pv 0) (Aa (Ef (v:=.ty "tuple") rfl T.tuple IW rfl) Ab))))) (DQ (Cw (NT JW JW Ac (Ax BR rfl T.len Cy (Aa (pv 0) Ab)) Ac))))) (Ah (Ak Eu)) Ay)
 (Ad (Ih QbD rfl (O7 (pv 0)) (Az (i:=1) Oo.nd rfl (Or.inl rfl))
 (Ad (Bg (PW.pt (DR (Cw (Ci (Ax DW rfl T.isinstance Bh (Aa (pv 1) (Aa (Ef (v:=.ty "tuple") rfl T.tuple IW rfl) Ab))))) (DR (Av Jt (Ax BR rfl T.len Cy (Aa (pv 1) Ab)) Ac (Bc _)) (DQ (Av Vt (Am Mz hr (Aa (Ba Bm (pv 1) Ac (λ_ _=>rfl)) (Aa Ac Ab))) Ac (Bc _)))))) (Ah (Ak Eu)) Ay)
 (Ad (Bg (PW.pt (DR (Cw (Ci (Ax DW rfl T.isinstance Bh (Aa (Ba Bm (pv 1) Ac (λ_ _=>rfl)) (Aa (Ef (v:=.ty "str") rfl T.str GR rfl) Ab))))) (DQ (Av Lh (Ba Bm (pv 1) Ac (λ_ _=>rfl)) (Bl (Aa Af (Aa Af Ab))) (by with_unfolding_all rfl))))) (Ah (Ak Eu)) Ay)
 (Ah (Bg (PW.pt (DR (PW.pt (Ig (Av BK (Ba Bm (pv 1) Ac (λ_ _=>rfl)) Af (Bc _)) (GZ (Cw (Ci (Am Mx hr (Aa (Ba Bm (pv 1) Ac (λ_ _=>rfl)) Ab))))))) (DQ (PW.pt (Ig (Av BK (Ba Bm (pv 1) Ac (λ_ _=>rfl)) Af (Bc _)) (GZ (Cw (Ci (Am W3 hr (Aa (Ba Bm (pv 1) Ac (λ_ _=>rfl)) (Aa Ac (Aa Ac Ab)))))))))))) (Ah (Ak Eu)) Ay)))))
 (Ah (Ak Eu)))),?_⟩
 show let R0:TS:=_;let R1:TS:=Al _ R0;let R2:TS:=Al _ R1;let R3:TS:=Al (K5 _ _ R2) _;Al _ R3 _ _ _;intro R0 R1 R2 R3;refine⟨_,rq,Mh rd.kn ⟨_,rq,?_⟩⟩;rcases S8 rd with⟨t,xs,ds,rfl,rfl,ht,rs,et⟩|⟨et,hn'⟩
 ·rw[et];have lx:=Bk.len rs;refine Bs ⟨_,rq,t,_,rq,.inr (SqT.of ht),_,_,rq,rq,_,rq,?_⟩;by_cases g1:¬(0:Int) < (xs.length:Int)
  ·have:Eb (.tuple ds)=false:=by
    show (Ea (.tuple ds) 1 16&&ds.all Dc)=false;have:Ea (.tuple ds) 1 16=false:=by
     show (decide ((1:Int)<=(ds.length:Int))&&decide ((ds.length:Int)<=16))=false;rw[Qbv (by omega)];rfl
    rw[this];rfl
   rw[this] at q;rw[Qbv g1];exact Bs ⟨_,rq,Bp (q _ (Same.refl _))⟩
  have g1:(0:Int) < (xs.length:Int):=by omega
  rw[QbN g1];refine Bp ⟨_,_,rq,rq,_,rq,?_⟩;by_cases g2:¬(xs.length:Int) < 17
  ·have:Eb (.tuple ds)=false:=by
    show (Ea (.tuple ds) 1 16&&ds.all Dc)=false;have:Ea (.tuple ds) 1 16=false:=by
     show (decide ((1:Int)<=(ds.length:Int))&&decide ((ds.length:Int)<=16))=false;rw[Qbv (show ¬(ds.length:Int)<=16 by omega),Bool.and_false]
    rw[this];rfl
   rw[this] at q;rw[Qbv g2];exact Bp (q _ (Same.refl _))
  have g2:(xs.length:Int) < 17:=by omega
  rw[QbN g2];have er:Eb (.tuple ds)=ds.all Dc:=by
   show (Ea (.tuple ds) 1 16&&ds.all Dc)=_;have:Ea (.tuple ds) 1 16=true:=by
    show (decide ((1:Int)<=(ds.length:Int))&&decide ((ds.length:Int)<=16))=true;rw[QbN (by omega),QbN (by omega)];rfl
   rw[this,QbQ]
  rw[er] at q;refine Bs ⟨_,rq,t,rq,⟨_,SqT.of ht⟩,?_⟩;let J0:YN:=λi U HH=>∃u,U=[js t,u]/\Same H HH/\(ds.take i).all Dc=true;refine Y9 (xs:=xs) J0 ⟨_,rq,Same.refl _,rq⟩ (λi U HH _ h=>?_) (λi x U HH hx h=>?_) (fun U HH h=>?_)
  ·obtain⟨u,rfl,s0,_⟩:=h;exact SqT.of (s0 _ _ ht)
  ·obtain⟨u,rfl,s0,ha⟩:=h;obtain⟨dx,hdx,rx⟩:=Bk.at_ rs hx;have mdx:=QaC hdx;have fx:Fit 64 dx:=fit.item' mdx;have rx:=Rep.same s0 rx;have no:Dc dx=false->∀H',Same HH H'->Q (.bl false) H':=λhr H' s'=>by
    have:ds.all Dc=false:=by
     cases e:ds.all Dc with
     | false=>rfl
     | true=>rw[Qbm.mp e dx mdx] at hr;cases hr
    rw[this] at q;exact q _ (s0.trans s')
   have yes:Dc dx=true->(ds.take (i+1)).all Dc=true:=λhr=>by
    rw[Qcm hdx,QbE,ha,QbQ];simp[hr]
   refine⟨_,rq,Mh rx.kn ⟨_,rq,?_⟩⟩;rcases S8 rx with⟨tx,ys,es,rfl,rfl,htx,rys,ety⟩|⟨ety,hny⟩
   ·rw[ety];have ly:=Bk.len rys;refine Bs ⟨_,rq,tx,_,rq,.inr (SqT.of htx),rq,_,rq,?_⟩;by_cases h3:¬ys.length=3
    ·show if (!decide (V.int (ys.length:Int)=V.int 3))=true then _ else _
     rw[Qbv (λz=>h3 (by injection z with z;omega))];exact Bp (no (Ys (λa b c e=>by cases e;exact h3 ly)) _ (Same.refl _))
    have h3:ys.length=3:=by omega
    refine aH (by rw[h3];rfl) ?_;obtain⟨k,c,x,rfl⟩:=Vu (l:=es) (by omega) (by omega);cases rys with
    | cons rk rys=>
    cases rys with
    | cons rc rys=>
    cases rys with
    | cons rx' rys=>
    cases rys;have fk:Fit 64 k:=fx.item' (by simp);have fc:Fit 64 c:=fx.item' (by simp);have fxx:Fit 64 x:=fx.item' (by simp);have hr:Dc (.tuple [k,c,x])=(Gb x&&(if eqS k "term"=true then nameP c else eqS k "sound"&&wiP c 1 99)):=rfl
    refine⟨_,rq,tx,_,_,_,rq,rq,SqT.of htx,Aj (j:=2) rfl,6,Qcf _,_,x,Qcf _,rq,rx',fxx,λH1 s1=>⟨_,_,rq,rq,_,rq,Q9 (λhc=>?_) (λhc=>?_)⟩⟩
    ·have hc:(20:Int) < Dp 6 x:=Qba hc;refine no ?_ _ s1;rw[hr,Xe,Qbv (by omega)];rfl
    have hc:¬(20:Int) < Dp 6 x:=QaT hc;have hcx:Gb x=true:=by rw[Xe,QbN (by omega)]
    rw[hcx,QbQ] at hr;have rK:=s1 _ _ htx;have rk1:=Rep.same s1 rk;have rc1:=Rep.same s1 rc;refine⟨_,rq,tx,_,_,_,rq,rq,SqT.of rK,Aj (j:=0) rfl,Lq rk1.kn ⟨_,rq,?_⟩⟩;by_cases hs:∃z,k=.str z
    ·obtain⟨z,rfl⟩:=hs;cases rk;refine Bs ⟨_,rq,tx,_,_,_,rq,rq,SqT.of rK,Aj (j:=0) rfl,Ao (by show 2<=1000;decide),λp hp=>?_⟩;have sp:=s1.trans (Ag hp (.tup [.str "term",.str "sound"]));have cp:upd H1 p (.tup [.str "term",.str "sound"]) p=some (.tup [.str "term",.str "sound"]):=Ae;generalize upd H1 p (.tup [.str "term",.str "sound"])=H2 at *;have W0:=sp _ _ htx;refine⟨p,_,rq,.inr (SqT.of cp),rq,rq,_,rq,?_⟩;show if (!inV (.str z) [.str "term",.str "sound"])=true then _ else _
     by_cases z1:z="term"
     ·subst z1;have e0:inV (.str "term") [.str "term",.str "sound"]=true:=by trivial
      rw[e0];rw[CK,if_pos rfl] at hr;refine Bs ⟨_,rq,tx,_,_,_,rq,rq,SqT.of W0,Aj (j:=0) rfl,rq,_,rq,ifS (λ_=>?_) (λh=>absurd rfl h)⟩;refine⟨_,rq,tx,_,_,_,rq,rq,SqT.of W0,Aj (j:=1) rfl,_,c,rq,Rep.same sp rc,fc,λH3 s3=>⟨_,rq,?_⟩⟩;have s13:=sp.trans s3;cases en:nameP c with
      | false=>exact Bp (Bp (no (by rw[hr,en]) _ s13))
      | true=>
       refine Bs ⟨_,rq,tx,_,_,_,rq,rq,SqT.of (s13 _ _ htx),Aj (j:=0) rfl,rq,_,rq,ifS (λe=>absurd e (by trivial)) (λ_=>Bs ?_)⟩;exact⟨_,rq,s0.trans s13,yes (by rw[hr,en])⟩
     by_cases z2:z="sound"
     ·subst z2;have e0:inV (.str "sound") [.str "term",.str "sound"]=true:=by trivial
      rw[e0];rw[Du z1,if_neg (by decide),CK,QbQ] at hr;refine Bs ⟨_,rq,tx,_,_,_,rq,rq,SqT.of W0,Aj (j:=0) rfl,rq,_,rq,ifS (λe=>absurd e z1) (λ_=>Bs ?_)⟩;refine⟨_,rq,tx,_,_,_,rq,rq,SqT.of W0,Aj (j:=0) rfl,rq,_,rq,ifS (λ_=>?_) (λh=>absurd rfl h)⟩;refine⟨_,rq,tx,_,_,_,rq,rq,SqT.of W0,Aj (j:=1) rfl,_,1,99,rq,(Rep.same sp rc).kn,_,rq,?_⟩;rw[Ka (Rep.same sp rc)];cases en:wiP c 1 99 with
      | false=>exact Bp (no (by rw[hr,en]) _ sp)
      | true=>exact Bs ⟨_,rfl,s0.trans sp,yes (by rw[hr,en])⟩
     have e0:inV (.str z) [.str "term",.str "sound"]=false:=by
      cases e:inV (.str z) [.str "term",.str "sound"] with
      | false=>rfl
      | true=>
       simp only[inV,QbW,List.any_nil,Bool.or_false,QbJ] at e;rcases e with e | e
       ·exact absurd (Hv e).symm z1
       ·exact absurd (Hv e).symm z2
     rw[e0];rw[Du z1,if_neg (by decide),Du z2,Bool.false_and] at hr;exact Bp (no hr _ sp)
    ·have e1:eqS k "term"=false:=W9 (λe=>hs ⟨_,e⟩);have e2:eqS k "sound"=false:=W9 (λe=>hs ⟨_,e⟩);rw[e1,if_neg (by decide),e2,Bool.false_and] at hr;have ns:∀{v:V},Rep H1 v k->isS v=false:=λr=>by
      cases r with
      | str z=>exact absurd ⟨z,rfl⟩ hs
      | _=>rfl
     rw[ns rk1];exact Bp (no hr _ s1)
   ·rw[ety];exact Bp (no (Ys (λa b c e=>hny _ e)) _ (Same.refl _))
  ·obtain⟨u,rfl,s0,ha⟩:=h;rw[lx,Qbq] at ha;rw[ha] at q;exact q _ s0
 ·rw[et];rw[gY hn'] at q;exact Bp (q _ (Same.refl _))
end
mutual
def Gs (w:Nat):PyData->Bool
 | .tuple ds=>decide (ds.length<=w)&&FN w ds
 | .list ds=>decide (ds.length<=w)&&FN w ds
 | .str z=>decide (z.length<=w)&&z.cps.toList.all λc=>decide (c < 128)
 | .int i=>decide (i.natAbs < 10 ^ w)
 | _=>true
def FN (w:Nat):List PyData->Bool
 | []=>true
 | x::r=>Gs w x&&FN w r
end
theorem Mv (w:Nat):∀ds:List PyData,FN w ds=true ↔ ∀x∈ds,Gs w x=true
 | []=>⟨(λ_ x h=>by cases h),λ_=>by simp only[FN]⟩
 | a::r=>by
  simp only[FN];rw[Qbk,Mv w r];exact⟨λh x hx=>by
   rcases QbP.mp hx with rfl | hx
   ·exact h.1
   ·exact h.2 x hx,λh=>⟨h a (QaN ..),λx hx=>h x (QaB _ hx)⟩⟩
mutual
theorem Pg {w w':Nat} (l:w<=w'):∀d:PyData,Gs w d=true->Gs w' d=true
 | .tuple ds,h=>by
  simp only[Gs,Qbk] at h ⊢;exact⟨QbN (Qca (Qba h.1) l),Lj l ds h.2⟩
 | .list ds,h=>by
  simp only[Gs,Qbk] at h ⊢;exact⟨QbN (Qca (Qba h.1) l),Lj l ds h.2⟩
 | .str z,h=>by
  simp only[Gs,Qbk] at h ⊢;exact⟨QbN (Qca (Qba h.1) l),h.2⟩
 | .none,_=>by simp only[Gs]
 | .bool _,_=>by simp only[Gs]
 | .int i,h=>by
  simp only[Gs] at h ⊢;exact QbN (QaQ (Qba h) (Nat.pow_le_pow_right (by decide) l))
 | .dict _,_=>by simp only[Gs]
theorem Lj {w w':Nat} (l:w<=w'):∀ds:List PyData,FN w ds=true->FN w' ds=true
 | [],_=>by simp only[FN]
 | x::r,h=>by
  simp only[FN,Qbk] at h ⊢;exact⟨Pg l x h.1,Lj l r h.2⟩
end
mutual
theorem Uo:∀d:PyData,Gs 900 d=true->wide d=true
 | .tuple ds,h=>by
  simp only[Gs,wide,Qbk] at h ⊢;exact⟨h.1,Li ds h.2⟩
 | .list ds,h=>by
  simp only[Gs,wide,Qbk] at h ⊢;exact⟨h.1,Li ds h.2⟩
 | .str z,h=>by
  simp only[Gs,wide,Qbk] at h ⊢;exact⟨QbN (Qca (Qba h.1) (by decide)),h.2⟩
 | .none,_=>by simp only[wide]
 | .bool _,_=>by simp only[wide]
 | .int _,_=>by simp only[wide]
 | .dict _,_=>by simp only[wide]
theorem Li:∀ds:List PyData,FN 900 ds=true->Ft ds=true
 | [],_=>by simp only[Ft]
 | x::r,h=>by
  simp only[FN,Ft,Qbk] at h ⊢;exact⟨Uo x h.1,Li r h.2⟩
end
structure Sl (w k:Nat) (d:PyData):Prop where
 lay:d.canLay0=true
 dep:d.depth<=k
 nar:Gs w d=true
theorem Sl.fit {w k:Nat} {d:PyData} (h:Sl w k d) (hw:w<=900):Fit k d:=⟨h.lay,h.dep,Uo d (Pg hw d h.nar)⟩
theorem Sl.mono {w w' k k':Nat} {d:PyData} (h:Sl w k d) (hw:w<=w') (hk:k<=k'):Sl w' k' d:=⟨h.lay,Qca h.dep hk,Pg hw d h.nar⟩
theorem RN:∀{ds:List PyData},(∀x∈ds,x.canLay0=true)->PyData.canLayAll0 ds=true
 | [],_=>rfl
 | a::r,h=>by
  show (a.canLay0&&PyData.canLayAll0 r)=true;rw[h a (QaN ..),RN λx hx=>h x (QaB _ hx)];rfl
theorem Sh:∀{ds:List PyData} {n:Nat},(∀x∈ds,x.depth<=n)->PyData.depthAll ds<=n
 | [],_,_=>Qcg _
 | a::r,n,h=>by
  show max a.depth (PyData.depthAll r)<=n;exact Nat.max_le.mpr ⟨h a (QaN ..),Sh λx hx=>h x (QaB _ hx)⟩
theorem Sl.tup {w k:Nat} {ds:List PyData} (h:∀x∈ds,Sl w k x) (l:ds.length<=w):Sl w (k+1) (.tuple ds):=by
 refine⟨RN λx hx=>(h x hx).lay,Qbo (Sh λx hx=>(h x hx).dep),?_⟩;simp only[Gs,Qbk];exact⟨QbN l,(Mv w ds).mpr λx hx=>(h x hx).nar⟩
theorem Sl.lst {w k:Nat} {ds:List PyData} (h:∀x∈ds,Sl w k x) (l:ds.length<=w):Sl w (k+1) (.list ds):=by
 refine⟨RN λx hx=>(h x hx).lay,Qbo (Sh λx hx=>(h x hx).dep),?_⟩;simp only[Gs,Qbk];exact⟨QbN l,(Mv w ds).mpr λx hx=>(h x hx).nar⟩
theorem Bk.mk {H:Hp}:∀{xs:YG} {ds:List PyData},Paired (Rep H) xs ds->Bk H xs ds
 | _,_,.nil=>.nil
 | _,_,.cons a r=>.cons a (Bk.mk r)
theorem Cj {α : Type} {P:α->Prop} {a:α} {r:List α} (h:P a) (t:∀x∈r,P x):∀x∈a::r,P x:=List.forall_mem_cons.mpr ⟨h,t⟩
theorem qF {w k:Nat} {i:Int} (h:i.natAbs < 10 ^ w):Sl w k (.int i):=⟨rfl,Qcg _,by simp only[Gs];exact QbN h⟩
theorem uE:1000000<=10 ^ 30:=by decide
theorem gR {k:Nat} {i:Int} (h:i.natAbs < 1000000):Sl 30 k (.int i):=qF (QaQ h uE)
theorem V8 {w k:Nat} {z:Str} (h2:z.length<=w) (h3:∀c∈z.cps.toList,c < 128):Sl w k (.str z):=by
 refine⟨?_,Qcg _,?_⟩
 ·show PyData.strOk z=true;unfold PyData.strOk;rw[Array.all_eq_true'];exact λc hc=>QbN (Nat.lt_trans (h3 c (Array.mem_toList_iff.mpr hc)) (by decide))
 ·simp only[Gs,Qbk];exact⟨QbN h2,Qbm.mpr λc hc=>QbN (h3 c hc)⟩
def Xr (z:Str):Bool:=decide (z.length<=30)&&z.cps.toList.all λc=>decide (c < 128)
theorem OJ {k:Nat} {z:Str} (h:Xr z=true):Sl 30 k (.str z):=by
 unfold Xr at h;rw[Qbk] at h;exact V8 (Qba h.1) λc hc=>Qba (Qbm.mp h.2 c hc)
theorem pB:∀c∈abc.cps.toList,c < 128:=by
 have h:abc.cps.toList.all (λc=>decide (c < 128))=true:=by trivial
 exact λc hc=>Qba (Qbm.mp h c hc)
theorem MP {k:Nat} {z:Str} (h:okS z) (l:z.length<=8):Sl 30 k (.str z):=V8 (by omega) λc hc=>pB c (h c hc)
theorem Yv {H:Hp} {w k:Nat}:∀{ys:YG},(∀y∈ys,∃d,Rep H y d/\Sl w k d)->∃ds,Bk H ys ds/\(∀x∈ds,Sl w k x)/\ds.length=ys.length
 | [],_=>⟨[],.nil,QaG _,rfl⟩
 | y::r,h=>by
  obtain⟨d,h1,h2⟩:=h y (QaN ..);obtain⟨ds,h3,h4,h5⟩:=Yv λz hz=>h z (QaB _ hz);exact⟨d::ds,.cons h1 h3,Cj h2 h4,by rw[Qbl,Qbl,h5]⟩
theorem gU {I R:TS} {D:Ends} {U : St} {H:Hp} (P:YO) (hR:∀ σ' H',P σ' H'->R D σ' H') (hI:(∀ σ' H',P σ' H'->R D σ' H')->I { D with nx:=fun U H=>R D U H } U H):Al I R D U H:=hI hR
def onl (H:Hp):Hp:=λa=>match H a with
 | some (.tup xs)=>some (.tup xs)
 | _=>none
theorem Cr {H:Hp} {a:Addr} {xs:YG} (h:H a=some (.tup xs)):onl H a=some (.tup xs):=by unfold onl;rw[h]
theorem YQ {H:Hp} {a:Addr} {o:HO} (h:onl H a=some o):∃xs,o=.tup xs/\H a=some (.tup xs):=by
 unfold onl at h;split at h
 ·rename_i xs e;cases h;exact⟨xs,rq,e⟩
 ·cases h
theorem Fx {H H':Hp} (s:Dw H H'):Same (onl H) (onl H'):=λa o e=>by
 obtain⟨xs,rfl,h⟩:=YQ e;exact Cr (s _ _ h)
def Tv (H:Hp) (k:Nat) (v:V):Prop:=∃d,Rep (onl H) v d/\Sl 40 k d
theorem Tv.mk {H:Hp} {k:Nat} {t:Addr} {xs:YG} (h:H t=some (.tup xs)) (hx:∀x∈xs,Tv H k x) (l:xs.length<=40):Tv H (k+1) (.ref t):=by
 obtain⟨ds,r,s,e⟩:=Yv hx;exact⟨.tuple ds,.tup (Cr h) r,Sl.tup s (by omega)⟩
theorem Tv.int {H:Hp} {k:Nat} {i:Int} (h:i.natAbs < 1000000):Tv H k (.int i):=⟨_,.int i,(gR h).mono (by decide) (Qcf _)⟩
theorem Tv.word {H:Hp} {k:Nat} {z:Str} (h:Xr z=true):Tv H k (.str z):=⟨_,.str z,(OJ h).mono (by decide) (Qcf _)⟩
theorem Tv.name {H:Hp} {k:Nat} {z:Str} (h:okS z) (l:z.length<=8):Tv H k (.str z):=⟨_,.str z,(MP h l).mono (by decide) (Qcf _)⟩
theorem Tv.up {H:Hp} {k k':Nat} {v:V} (h:Tv H k v) (l:k<=k'):Tv H k' v:=by
 obtain⟨d,h1,h2⟩:=h;exact⟨d,h1,h2.mono (Qcf _) l⟩
def Cu (H:Hp) (l:Addr) (ys:YF):Prop:=H l=some (.lst (ys.map V.str))/\1<=ys.length/\ys.length<=10/\∀y∈ys,(1<=y.length/\y.length<=8)/\okS y
theorem Ue {H:Hp}:∀ys:YF,Bk H (ys.map V.str) (ys.map PyData.str)
 | []=>.nil
 | y::r=>.cons (.str y) (Ue r)
theorem Cu.rep {H:Hp} {l:Addr} {ys:YF} (h:Cu H l ys):Rep H (.ref l) (.list (ys.map PyData.str)):=.lst h.1 (Ue ys)
theorem Cu.shp {H:Hp} {l:Addr} {ys:YF} (h:Cu H l ys):SeqAt.shaped (.list (ys.map PyData.str))=true:=by
 have:Sl 30 1 (.list (ys.map PyData.str)):=Sl.lst (k:=0) (λx hx=>by
  obtain⟨y,hy,rfl⟩:=Qcc.mp hx;exact MP (h.2.2.2 y hy).2 (h.2.2.2 y hy).1.2) (by rw[Qbw];have:=h.2.2.1;omega)
 exact (this.fit (by decide)).shaped (by decide)
theorem Cu.ne {H:Hp} {l:Addr} {ys:YF} (h:Cu H l ys):PyData.eqv (.list (ys.map PyData.str)) (.list [])=false:=by
 cases ys with
 | nil=>exact absurd h.2.1 (by decide)
 | cons y r=>rfl
theorem Cu.Fy {H H':Hp} {l b:Addr} {ys:YF} (h:Cu H l ys) (s:Aw b H H') (n:l≠b):Cu H' l ys:=⟨s _ _ h.1 n,h.2⟩
def L (s:Str):List Nat:=s.cps.toList
def S (l:List Nat):Str:=⟨l.toArray⟩
theorem L_S (l:List Nat):L (S l)=l:=rfl
theorem S_L (s:Str):S (L s)=s:=rfl
theorem Dk (a b:Str):L (a++b)=L a++L b:=by
 have e:(a++b).cps=a.cps++b.cps:=rfl;unfold L;rw[e,Array.toList_append]
theorem Oj (a b:List Nat):S a++S b=S (a++b):=by
 have:L (S a++S b)=a++b:=by rw[Dk];rfl
 rw[<-this];rfl
theorem Ir {a b:Str} (h:L a=L b):a=b:=by rw[<-S_L a,h];rfl
theorem Fp:L Str.empty=[]:=rfl
theorem Ip (s:Str):s.length=(L s).length:=(QaH ..).symm
theorem Ai (l:List Nat):(S l).length=l.length:=by rw[Ip];rfl
theorem SQ:100000<=sizeLine:=by decide
theorem szb {n:Nat} (h:n<=100000):n<=sizeLine:=Qca h SQ
theorem M4 {l:List Nat} {k:Nat} (h:k<=l.length):Txt.slice (S l) (some (k:Int)) none=S (l.drop k):=by
 have e:=PyProof.Rows.slice_from_eq (x:=S l) (i:=(k:Int)) (b:=((S l).length:Int)) (by omega) (by rw[Ai];omega) rfl;rw[e];show S ((l.drop (k:Int).toNat).take (((S l).length:Int) - (k:Int)).toNat)=_;rw[Qbh,Qaw (by rw[Qbr,Ai];omega)]
theorem Vp {l:List Nat} {k:Nat} (h:k<=l.length):Txt.slice (S l) none (some (k:Int))=S (l.take k):=by
 have e:=Qcn (PyProof.Rows.slice_closes_toL (x:=S l) (j:=(k:Int)) (by omega) (by rw[Ai];omega));rw[e];show S ((l.drop (0:Int).toNat).take ((k:Int) - 0).toNat)=_;rw[Int.sub_zero,Qbh];rfl
theorem Kw (c:Nat) (l:List Nat):Txt.slice (S (c::l)) (some 1) none=S l:=M4 (l:=c::l) (k:=1) (by rw[Qbl];omega)
def num (n:Nat):List Nat:=L (Str.ofString (toString (n:Int)))
def stop (c:Nat):Bool:=decide (c=32\/c=41)
def IK (c:Nat):Bool:=!(Builtin.Str.occurrences "0123456789" ⟨#[c]⟩ 0 (Str.ofString "0123456789").length 1).isEmpty
theorem T4 (c:Nat):IK c=decide (c∈L "0123456789"):=PySem.StrLaws.found_one _ _
theorem gK (c:Nat):(!(!(Builtin.Str.occurrences " )" ⟨#[c]⟩ 0 (Str.ofString " )").length 1).isEmpty))=!stop c:=by
 rw[PySem.StrLaws.found_one];congr 1;have:(Str.ofString " )").cps.toList=[32,41]:=by trivial
 rw[this];unfold stop;rw[QbF,QaS,QaS];simp
theorem Ql:∀n,n < 100->(num n).all IK=true/\1<=(num n).length/\(num n).length<=2/\(num n).all (λc=>!stop c)=true:=by
 intro n h;have key:∀n,n < 100->((num n).all (λc=>decide (c∈L "0123456789"))=true/\1<=(num n).length/\(num n).length<=2/\(num n).all (λc=>!stop c)=true):=by trivial
 have k:=key n h;refine⟨?_,k.2⟩;rw[<-k.1];congr 1
 funext c
 exact T4 c
theorem nY {n:Nat} (h:n < 100):intText? (S (num n))=some (n:Int):=PySem.W.KIN.num_reads (by omega) (by omega)
inductive Cd where
 | off (n:Nat) (z:Str)
 | term (z:Str)
 | key (k:Nat)
 | hours (a b:Nat)
 | neg (c:Cd)
 | both (c d:Cd)
 | any (c d:Cd)
 | thn (c d:Cd) (n:Nat)
def Cd.data:Cd->PyData
 | .off n z=>.tuple [.str "of",.int n,.str z]
 | .term z=>.tuple [.str "term",.str z]
 | .key k=>.tuple [.str "key",.int k]
 | .hours a b=>.tuple [.str "hours",.int a,.int b]
 | .neg c=>.tuple [.str "not",c.data]
 | .both c d=>.tuple [.str "and",c.data,d.data]
 | .any c d=>.tuple [.str "or",c.data,d.data]
 | .thn c d n=>.tuple [.str "then",c.data,d.data,.int n]
def Mu (z:Str):Prop:=1<=z.length/\z.length<=8/\okS z
def Cd.ok:Cd->Prop
 | .off n z=>1<=n/\n<=9/\Mu z
 | .term z=>Mu z
 | .key k=>k<=9
 | .hours a b=>a<=23/\b<=23
 | .neg c=>c.ok
 | .both c d=>c.ok/\d.ok
 | .any c d=>c.ok/\d.ok
 | .thn c d n=>c.ok/\d.ok/\1<=n/\n<=20
def Cd.deep:Cd->Nat
 | .neg c=>c.deep+1
 | .both c d=>max c.deep d.deep+1
 | .any c d=>max c.deep d.deep+1
 | .thn c d _=>max c.deep d.deep+1
 | _=>1
def Cd.many:Cd->Nat
 | .neg c=>c.many+1
 | .both c d=>c.many+d.many+1
 | .any c d=>c.many+d.many+1
 | .thn c d _=>c.many+d.many+1
 | _=>1
def Cd.txt:Cd->List Nat
 | .off n z=>num n++(L " of "++L z)
 | .term z=>L "term "++L z
 | .key k=>L "key "++num k
 | .hours a b=>L "hours "++(num a++(L " to "++num b))
 | .neg c=>L "not "++c.txt
 | .both c d=>L "("++(c.txt++(L " and "++(d.txt++L ")")))
 | .any c d=>L "("++(c.txt++(L " or "++(d.txt++L ")")))
 | .thn c d n=>L "("++(c.txt++(L " then "++(d.txt++(L " within "++(num n++L ")")))))
def Cd.inn:Cd->List Cd
 | .neg c=>[c]
 | .both c d=>[c,d]
 | .any c d=>[c,d]
 | .thn c d _=>[c,d]
 | _=>[]
theorem Cd.KQ (c:Cd):1<=c.deep:=by cases c <;> simp[Cd.deep]
theorem Cd.many1 (c:Cd):1<=c.many:=by cases c <;> simp[Cd.many]
theorem oJ:(L " of ").length=4/\(L "term ").length=5/\(L "key ").length=4/\(L "hours ").length=6/\(L " to ").length=4/\(L "not ").length=4/\(L "(").length=1/\(L " and ").length=5/\(L ")").length=1/\(L " or ").length=4/\(L " then ").length=6/\(L " within ").length=8:=by trivial
theorem Ks {n:Nat} (h:n < 100):(num n).length<=2:=(Ql n h).2.2.1
theorem Ds:∀{c:Cd},c.ok->c.txt.length<=20*c.many:=by
 obtain⟨l1,l2,l3,l4,l5,l6,l7,l8,l9,l10,l11,l12⟩:=oJ;intro c
 induction c with
 | off n z=>intro h;have:=Ks (n:=n) (by have:=h.2.1;omega);have hz:=h.2.2.2.1;rw[Ip] at hz;simp only[Cd.txt,Cd.many,QaM,l1];omega
 | term z=>intro h;have hz:=h.2.1;rw[Ip] at hz;simp only[Cd.txt,Cd.many,QaM,l2];omega
 | key k=>intro h;have h:k<=9:=h;have:=Ks (n:=k) (by omega);simp only[Cd.txt,Cd.many,QaM,l3];omega
 | hours a b=>intro h;have h:a<=23/\b<=23:=h;have:=Ks (n:=a) (by omega);have:=Ks (n:=b) (by omega);simp only[Cd.txt,Cd.many,QaM,l4,l5];omega
 | neg c ih=>intro h;have:=ih h;simp only[Cd.txt,Cd.many,QaM,l6];omega
 | both c d ih1 ih2=>intro h;have:=ih1 h.1;have:=ih2 h.2;simp only[Cd.txt,Cd.many,QaM,l7,l8,l9];omega
 | any c d ih1 ih2=>intro h;have:=ih1 h.1;have:=ih2 h.2;simp only[Cd.txt,Cd.many,QaM,l7,l10,l9];omega
 | thn c d n ih1 ih2=>intro h;have:=ih1 h.1;have:=ih2 h.2.1;have:=Ks (n:=n) (by have:=h.2.2.2;omega);simp only[Cd.txt,Cd.many,QaM,l7,l11,l9,l12];omega
theorem Zt (c:Nat):Oi c=decide (c∈abc.cps.toList):=PySem.StrLaws.found_one _ _
theorem Tj {z:Str} (h:Mu z):nameP (.str z)=true:=by
 show ((decide ((1:Int)<=z.length)&&decide ((z.length:Int)<=8))&&z.cps.toList.all Oi)=true;have h1:=h.1;have h2:=h.2.1;rw[QbN (by omega),QbN (by omega)];exact Qbm.mpr λc hc=>by rw[Zt];exact QbN (h.2.2 c hc)
theorem SJ {i lo hi:Int} (h:lo<=i) (h':i<=hi):wiP (.int i) lo hi=true:=by
 show (decide (lo<=i)&&decide (i<=hi))=true;rw[QbN h,QbN h'];rfl
theorem nE {z y:Str} (h:z≠y):¬eqS (.str z) y=true:=by rw[Du h];decide
theorem nA {z:Str} (h:z≠"and") (h':z≠"or"):¬aoP (.str z)=true:=λe=>by
 rcases Jj.mp e with e | e
 ·injection e with e;exact h e
 ·injection e with e;exact h' e
theorem yA {z:Str} (h:z="and"\/z="or"):aoP (.str z)=true:=Jj.mpr (h.elim (λe=>.inl (by rw[e])) λe=>.inr (by rw[e]))
theorem uP {r:List PyData} {k:PyData} (h1:1<=r.length) (h2:r.length<=3):Ea (.tuple (k::r)) 2 4=true:=by
 show (decide ((2:Int)<=((k::r).length:Nat))&&decide ((((k::r).length:Nat):Int)<=4))=true;rw[Qbl,QbN (by omega),QbN (by omega)];rfl
theorem Ji {k:PyData} {r:List PyData} (h1:1<=r.length) (h2:r.length<=3):Cq (.tuple (k::r))=Cg k r:=by
 show (Ea (.tuple (k::r)) 2 4&&Cg k r)=_;rw[uP h1 h2,QbQ]
theorem o9:∀{c:Cd},c.ok->Cq c.data=true:=by
 intro c h;cases c with
 | off n z=>
  show Cq (.tuple [.str "of",.int n,.str z])=true;rw[Ji (by simp) (by simp)];unfold Cg;rw[if_pos (CK _)];show (wiP (.int n) 1 9&&nameP (.str z))=true;have h1:=h.1;have h2:=h.2.1;rw[SJ (by omega) (by omega),Tj h.2.2];rfl
 | term z=>
  show Cq (.tuple [.str "term",.str z])=true;rw[Ji (by simp) (by simp)];unfold Cg;rw[if_neg (nE (by trivial)),if_pos (CK _)];exact Tj h
 | key k=>
  have h:k<=9:=h;show Cq (.tuple [.str "key",.int k])=true;rw[Ji (by simp) (by simp)];unfold Cg;rw[if_neg (nE (by trivial)),if_neg (nE (by trivial)),if_neg (nE (by trivial)),if_neg (nA (by trivial) (by trivial)),if_neg (nE (by trivial))];show (eqS (.str "key") "key"&&wiP (.int k) 0 9)=true;rw[CK,SJ (by omega) (by omega)];rfl
 | hours a b=>
  have h:a<=23/\b<=23:=h;show Cq (.tuple [.str "hours",.int a,.int b])=true;rw[Ji (by simp) (by simp)];unfold Cg;rw[if_neg (nE (by trivial)),if_neg (nE (by trivial)),if_neg (nE (by trivial)),if_neg (nA (by trivial) (by trivial)),if_neg (nE (by trivial))];show (eqS (.str "hours") "hours"&&(wiP (.int a) 0 23&&wiP (.int b) 0 23))=true;rw[CK,SJ (by omega) (by omega),SJ (by omega) (by omega)];rfl
 | neg c=>
  show Cq (.tuple [.str "not",c.data])=true;rw[Ji (by simp) (by simp)];unfold Cg;rw[if_neg (nE (by trivial)),if_neg (nE (by trivial)),if_pos (CK _)];rfl
 | both c d=>
  show Cq (.tuple [.str "and",c.data,d.data])=true;rw[Ji (by simp) (by simp)];unfold Cg;rw[if_neg (nE (by trivial)),if_neg (nE (by trivial)),if_neg (nE (by trivial)),if_pos (yA (.inl rfl))];rfl
 | any c d=>
  show Cq (.tuple [.str "or",c.data,d.data])=true;rw[Ji (by simp) (by simp)];unfold Cg;rw[if_neg (nE (by trivial)),if_neg (nE (by trivial)),if_neg (nE (by trivial)),if_pos (yA (.inr rfl))];rfl
 | thn c d n=>
  have h1:=h.2.2;show Cq (.tuple [.str "then",c.data,d.data,.int n])=true;rw[Ji (by simp) (by simp)];unfold Cg;rw[if_neg (nE (by trivial)),if_neg (nE (by trivial)),if_neg (nE (by trivial)),if_neg (nA (by trivial) (by trivial)),if_pos (CK _)];exact SJ (by omega) (by omega)
theorem G9 {z:Str} (h:z≠"not") {r:List PyData}:DG (.tuple (.str z::r))=if Ia (.str z)=true then r.take 2 else []:=by
 show (if eqS (.str z) "not"=true then r.take 1 else _)=_
 rw[if_neg (nE h)]
theorem tK (c:Cd):DG c.data=c.inn.map Cd.data:=by
 cases c with
 | neg c=>
  show (if eqS (.str "not") "not"=true then [c.data].take 1 else if Ia (.str "not")=true then [c.data].take 2 else [])=[c.data]
  rw[if_pos (CK _)];rfl
 | off n z=>exact (G9 (z:="of") (by trivial)).trans (if_neg (by trivial))
 | term z=>exact (G9 (z:="term") (by trivial)).trans (if_neg (by trivial))
 | key k=>exact (G9 (z:="key") (by trivial)).trans (if_neg (by trivial))
 | hours a b=>exact (G9 (z:="hours") (by trivial)).trans (if_neg (by trivial))
 | both c d=>exact (G9 (z:="and") (by trivial)).trans (if_pos (by trivial))
 | any c d=>exact (G9 (z:="or") (by trivial)).trans (if_pos (by trivial))
 | thn c d n=>exact (G9 (z:="then") (by trivial)).trans (if_pos (by trivial))
def Fi (cs:List Cd):Nat:=(cs.map Cd.many).sum
theorem Ph (c:Cd):c.many=1+Fi c.inn/\(∀d∈c.inn,d.deep+1<=c.deep)/\(c.ok->∀d∈c.inn,d.ok):=by
 have two:∀{P:Cd->Prop} {a b:Cd},P a->P b->∀d∈[a,b],P d:=λ{P a b} ha hb d hd=>by
  simp only[QbP,Qbp,Qco] at hd;rcases hd with rfl | rfl
  ·exact ha
  ·exact hb
 cases c with
 | neg c=>exact⟨by show c.many+1=1+(c.many+0);omega,λd hd=>by rw[QaO.mp hd];exact Qcf _,λh d hd=>by rw[QaO.mp hd];exact h⟩
 | both a b=>exact⟨by show a.many+b.many+1=1+(a.many+(b.many+0));omega,two (Qbo (QbL ..)) (Qbo (Qbu ..)),λh=>two h.1 h.2⟩
 | any a b=>exact⟨by show a.many+b.many+1=1+(a.many+(b.many+0));omega,two (Qbo (QbL ..)) (Qbo (Qbu ..)),λh=>two h.1 h.2⟩
 | thn a b n=>exact⟨by show a.many+b.many+1=1+(a.many+(b.many+0));omega,two (Qbo (QbL ..)) (Qbo (Qbu ..)),λh=>two h.1 h.2.1⟩
 | _=>exact⟨rfl,(λd hd=>by cases hd),λ_ d hd=>by cases hd⟩
theorem fV:∀(n:Nat) (cs:List Cd) (m:Nat),(∀c∈cs,c.ok/\c.deep<=n)->bfs n (cs.map Cd.data) m=some ([],m+Fi cs)
 | 0,cs,m,h=>by
  have:cs=[]:=by
   cases cs with
   | nil=>rfl
   | cons c r=>have:=(h c (QaN ..)).2;have:=c.KQ;omega
  subst this;rfl
 | n+1,cs,m,h=>by
  have e1:(cs.map Cd.data).all Cq=true:=by
   rw[List.all_map];exact Qbm.mpr λc hc=>o9 (h c hc).1
  have e2:(cs.map Cd.data).flatMap DG=(cs.flatMap Cd.inn).map Cd.data:=by
   clear e1 h
   induction cs with
   | nil=>rfl
   | cons c r ih=>rw[QbR,Qbj,Qbj,Qbx,ih,tK]
  have e3:Fi cs=cs.length+Fi (cs.flatMap Cd.inn):=by
   clear e1 h e2
   induction cs with
   | nil=>rfl
   | cons c r ih=>
    have h1:=(Ph c).1;have a1:Fi (c::r)=c.many+Fi r:=by unfold Fi;rw[QbR,QbX]
    have a2:Fi (c.inn++r.flatMap Cd.inn)=Fi c.inn+Fi (r.flatMap Cd.inn):=by unfold Fi;rw[Qbx,List.sum_append]
    rw[Qbj,a1,a2,Qbl];omega
  show (if (cs.map Cd.data).all Cq=true then bfs n ((cs.map Cd.data).flatMap DG) (m+(cs.map Cd.data).length) else none)=_
  rw[if_pos e1,e2,fV n _ _ λc hc=>?_,Qbw,e3]
  ·congr 2;omega
  ·obtain⟨d,hd,hc⟩:=List.mem_flatMap.mp hc;have h1:=Ph d;have h2:=h d hd;exact⟨h1.2.2 h2.1 c hc,by have:=h1.2.1 c hc;omega⟩
theorem Zh {c:Cd} (h:c.ok) (hd:c.deep<=6) (hm:c.many<=20):Gb c.data=true:=by
 have e:=fV 6 [c] 0 (λd hd'=>by rw[QaO.mp hd'];exact⟨h,hd⟩);unfold Gb;have e:bfs 6 [c.data] 0=some ([],0+Fi [c]):=e;rw[e];show (true&&decide (0+Fi [c]<=20))=true;rw[QbQ];refine QbN ?_;show 0+(c.many+0)<=20;omega
inductive Ru where
 | term (z:Str) (c:Cd)
 | sound (n:Nat) (c:Cd)
def Ru.data:Ru->PyData
 | .term z c=>.tuple [.str "term",.str z,c.data]
 | .sound n c=>.tuple [.str "sound",.int n,c.data]
def Ru.c:Ru->Cd
 | .term _ c=>c
 | .sound _ c=>c
def Ru.ok:Ru->Prop
 | .term z c=>Mu z/\c.ok/\c.deep<=6/\c.many<=20
 | .sound n c=>(1<=n/\n<=99)/\c.ok/\c.deep<=6/\c.many<=20
def Ru.head:Ru->List Nat
 | .term z _=>L "term "++L z
 | .sound n _=>L "sound "++num n
def Ru.row (r:Ru):List Nat:=r.head++(L " = "++r.c.txt)
def Ru.txt (r:Ru):List Nat:=r.row++L "\n"
theorem ZL:∀{c:Cd},c.ok->Sl 30 c.deep c.data:=by
 have W:∀{z:Str} {k:Nat},Xr z=true->Sl 30 k (.str z):=λh=>OJ h;have N:∀{n k:Nat},n < 100->Sl 30 k (.int n):=λh=>gR (by omega);intro c
 induction c with
 | off n z=>intro h;have:=h.2.1;exact Sl.tup (k:=0) (Cj (W (by trivial)) (Cj (N (by omega)) (Cj (MP h.2.2.2.2 h.2.2.2.1) (QaG _)))) (by show 3<=30;decide)
 | term z=>intro h;exact Sl.tup (k:=0) (Cj (W (by trivial)) (Cj (MP h.2.2 h.2.1) (QaG _))) (by show 2<=30;decide)
 | key k=>intro h;have h:k<=9:=h;exact Sl.tup (k:=0) (Cj (W (by trivial)) (Cj (N (by omega)) (QaG _))) (by show 2<=30;decide)
 | hours a b=>intro h;have h:a<=23/\b<=23:=h;exact Sl.tup (k:=0) (Cj (W (by trivial)) (Cj (N (by omega)) (Cj (N (by omega)) (QaG _)))) (by show 3<=30;decide)
 | neg c ih=>intro h;exact Sl.tup (Cj (W (by trivial)) (Cj (ih h) (QaG _))) (by show 2<=30;decide)
 | both c d ih1 ih2=>intro h;exact Sl.tup (Cj (W (by trivial)) (Cj ((ih1 h.1).mono (Qcf _) (QbL ..)) (Cj ((ih2 h.2).mono (Qcf _) (Qbu ..)) (QaG _)))) (by show 3<=30;decide)
 | any c d ih1 ih2=>intro h;exact Sl.tup (Cj (W (by trivial)) (Cj ((ih1 h.1).mono (Qcf _) (QbL ..)) (Cj ((ih2 h.2).mono (Qcf _) (Qbu ..)) (QaG _)))) (by show 3<=30;decide)
 | thn c d n ih1 ih2=>intro h;have:=h.2.2.2;exact Sl.tup (Cj (W (by trivial)) (Cj ((ih1 h.1).mono (Qcf _) (QbL ..)) (Cj ((ih2 h.2.1).mono (Qcf _) (Qbu ..)) (Cj (N (by omega)) (QaG _))))) (by show 4<=30;decide)
theorem uN {r:Ru} (h:r.ok):Sl 30 7 r.data:=by
 cases r with
 | term z c=>exact Sl.tup (k:=6) (Cj (OJ (by trivial)) (Cj (MP h.1.2.2 h.1.2.1) (Cj ((ZL h.2.1).mono (Qcf _) h.2.2.1) (QaG _)))) (by show 3<=30;decide)
 | sound n c=>have:=h.1.2;exact Sl.tup (k:=6) (Cj (OJ (by trivial)) (Cj (gR (by omega)) (Cj ((ZL h.2.1).mono (Qcf _) h.2.2.1) (QaG _)))) (by show 3<=30;decide)
theorem Ry {rs:List Ru} (h:∀r∈rs,r.ok) (l:rs.length<=16):Sl 30 8 (.tuple (rs.map Ru.data)):=Sl.tup (k:=7) (λx hx=>by obtain⟨r,hr,rfl⟩:=Qcc.mp hx;exact uN (h r hr)) (by rw[Qbw];omega)
theorem mZ {r:Ru} (h:r.ok):Dc r.data=true:=by
 cases r with
 | term z c=>
  show Dc (.tuple [.str "term",.str z,c.data])=true;unfold Dc;simp[CK,Tj h.1,Zh h.2.1 h.2.2.1 h.2.2.2]
 | sound n c=>
  have h1:=h.1;show Dc (.tuple [.str "sound",.int n,c.data])=true;unfold Dc;simp[CK,Zh h.2.1 h.2.2.1 h.2.2.2,SJ (i:=(n:Int)) (lo:=1) (hi:=99) (by omega) (by omega),Du (z:="sound") (y:="term") (by trivial)]
theorem O6 {rs:List Ru} (h:∀r∈rs,r.ok) (l:1<=rs.length/\rs.length<=16):Eb (.tuple (rs.map Ru.data))=true:=by
 show (Ea (.tuple (rs.map Ru.data)) 1 16&&(rs.map Ru.data).all Dc)=true;rw[List.all_map];have e:Ea (.tuple (rs.map Ru.data)) 1 16=true:=by
  show (decide ((1:Int)<=((rs.map Ru.data).length:Nat))&&decide ((((rs.map Ru.data).length:Nat):Int)<=16))=true;rw[Qbw,QbN (by omega),QbN (by omega)];rfl
 rw[e,QbQ];exact Qbm.mpr λr hr=>mZ (h r hr)
abbrev Iw:Stmt:=top 36
abbrev Fv:YF:=["condition"]
theorem EY:Bo ["condition","word","one","other"] Fv (Ar Iw):=by ac_rfl
abbrev K9:Stmt:=top 37
abbrev Gm:YF:=["rules"]
theorem U0:Bo ["rules"] Gm (Ar K9):=by ac_rfl
theorem GJ {b:Bool} {A B:Prop} (h:b=true) (a:A):if b=true then A else B:=by rw[if_pos h];exact a
theorem CW {b:Bool} {A B:Prop} (h:b=false) (a:B):if b=true then A else B:=by rw[if_neg (by rw[h];decide)];exact a
theorem ll:Str.empty.length=0/\(Str.ofString " of ").length=4/\(Str.ofString "term").length=4/\(Str.ofString "key").length=3/\(Str.ofString " ").length=1/\(Str.ofString "hours ").length=6/\(Str.ofString " to ").length=4/\(Str.ofString "not ").length=4/\(Str.ofString "(").length=1/\(Str.ofString "and").length=3/\(Str.ofString ")").length=1/\(Str.ofString "or").length=2/\(Str.ofString " then ").length=6/\(Str.ofString " within ").length=8/\(Str.ofString "sound").length=5/\(Str.ofString " = ").length=3/\(Str.ofString "\n").length=1:=by trivial
theorem kw1:L (Str.ofString "term")++L (Str.ofString " ")=L "term "/\L (Str.ofString "key")++L (Str.ofString " ")=L "key "/\L (Str.ofString " ")++(L (Str.ofString "and")++L (Str.ofString " "))=L " and "/\L (Str.ofString " ")++(L (Str.ofString "or")++L (Str.ofString " "))=L " or "/\L (Str.ofString "sound")++L (Str.ofString " ")=L "sound ":=by trivial
theorem G5 {n:Nat} (h:n < 100):(Str.ofString (toString (n:Int))).length<=2:=by rw[Ip];exact Ks h
theorem FJ {n:Nat} (h:n < 100):(n:Int).natAbs.log2 < 1920:=by
 rw[Int.natAbs_natCast];by_cases z:n=0
 ·rw[z];decide
 ·rw[Nat.log2_lt z];exact QaQ h (Qca (by decide:100<=2 ^ 7) (Nat.pow_le_pow_right (by decide) (by decide)))
def bU (D:Nat):Sp:=λvs H Q _=>∃(v:V) (c:Cd),vs=[v]/\Rep H v c.data/\c.ok/\c.deep<=D/\c.many<=20/\∀H',Same H H'->Q (.str (S c.txt)) H'
section
variable {P:Program} {w:World} {K:YD} {mg:YB} {base:Heap}
theorem nG (C:Code K mg "show_condition" Iw Fv) (T:Tc mg):∀D,Good P w K mg base "show_condition" (1+D) Fv (bU D):=by
 intro D
 induction D with
 | zero=>
  refine C.good EY (λvs H Q E h=>?_) (λf cdv A outer s H vs Q E hr h=>?_)
  ·obtain⟨v,c,_,_,_,h0,_⟩:=h;have:=c.KQ;omega
  ·obtain⟨v,c,_,_,_,h0,_⟩:=h;have:=c.KQ;omega
 | succ D GK=>
 refine C.good EY (λvs H Q E h=>?_) (λf cdv A outer s H vs Q E hr h=>?_)
 ·obtain⟨v,c,rfl,_⟩:=h;rfl
 obtain⟨v,c,rfl,rd,ok,hd,hm,q⟩:=h;refine⟨_,(@Ad _ _ _ _ _ (@Bf _ _ 1 _ _ _ _ EY.nd rfl (Or.inl rfl) (@Ba _ _ _ _ _ _ _ Bm (pv 0) Ac (λ_ _=>rfl)) (by rfl) (by first | exact .inl rfl | exact .inr rfl))
 (@Ad _ _ _ _ _ (Bg (Av BK (pv 1) Af (Bc _)) (@Ah _ _ _ (@Ak _ _ _ _ (JD (Fd (@Ba _ _ _ _ _ _ _ Bm (pv 0) Ac (λ_ _=>rfl)) (Fe Af (Fd (@Ba _ _ _ _ _ _ _ Bm (pv 0) Ac (λ_ _=>rfl)) Ld)))))) Ay)
 (@Ad _ _ _ _ _ (Bg (Av BK (pv 1) Af (Bc _)) (@Ah _ _ _ (@Ak _ _ _ _ (JD (Fe Af (Fd (@Ba _ _ _ _ _ _ _ Bm (pv 0) Ac (λ_ _=>rfl)) (Fe Af (Fd (@Ba _ _ _ _ _ _ _ Bm (pv 0) Ac (λ_ _=>rfl)) Ld))))))) Ay)
 (@Ad _ _ _ _ _ (Bg (Av (YK (K:=K) rfl hr.bF) (pv 1) (Bl (Aa Af (Aa Af Ab))) (by with_unfolding_all rfl)) (@Ah _ _ _ (@Ak _ _ _ _ (JD (Fd (pv 1) (Fe Af (Fd (@Ba _ _ _ _ _ _ _ Bm (pv 0) Ac (λ_ _=>rfl)) Ld)))))) Ay)
 (@Ad _ _ _ _ _ (@Bf _ _ 2 _ _ _ _ EY.nd rfl (Or.inl rfl) (Am (hk:=(Qcf _)) GK hr (Aa (@Ba _ _ _ _ _ _ _ Bm (pv 0) Ac (λ_ _=>rfl)) Ab)) (by rfl) (by first | exact .inl rfl | exact .inr rfl))
 (@Ad _ _ _ _ _ (Bg (Av BK (pv 1) Af (Bc _)) (@Ah _ _ _ (@Ak _ _ _ _ (JD (Fe Af (Fd (pv 2) Ld))))) Ay)
 (@Ad _ _ _ _ _ (@Bf _ _ 3 _ _ _ _ EY.nd rfl (Or.inl rfl) (Am (hk:=(Qcf _)) GK hr (Aa (@Ba _ _ _ _ _ _ _ Bm (pv 0) Ac (λ_ _=>rfl)) Ab)) (by rfl) (by first | exact .inl rfl | exact .inr rfl))
 (@Ad _ _ _ _ _ (Bg (Av BK (pv 1) Af (Bc _)) (@Ah _ _ _ (@Ak _ _ _ _ (JD (Fe Af (Fd (pv 2) (Fe Af (Fd (pv 3) (Fe Af (Fd (@Ba _ _ _ _ _ _ _ Bm (pv 0) Ac (λ_ _=>rfl)) (Fe Af Ld)))))))))) Ay)
 (@Ah _ _ _ (@Ak _ _ _ _ (JD (Fe Af (Fd (pv 2) (Fe Af (Fd (pv 1) (Fe Af (Fd (pv 3) (Fe Af Ld)))))))))))))))))),?_⟩
 show let R0:TS:=_;let R1:TS:=_;let R2:TS:=Al (BX _ R1 _) R0;let R3:TS:=Al _ R2;let R4:TS:=_;let R5:TS:=Al (BX _ R4 _) R3;let R6:TS:=Al _ R5;let R7:TS:=_;let R8:TS:=Al (BX _ R7 _) R6;let R9:TS:=_;let R10:TS:=Al (BX _ R9 _) R8;let R11:TS:=_;let R12:TS:=Al (BX _ R11 _) R10;Al _ R12 _ _ _;intro R0 R1 R2 R3 R4 R5 R6 R7 R8 R9 R10 R11 R12;have fin:∀(y:Str) (H':Hp),Same H H'->L y=c.txt->Q (.str y) H':=λy H' s e=>by
  rw[show y=S c.txt from Ir e]
  exact q H' s
 obtain⟨l0,l1,l2,l3,l4,l5,l6,l7,l8,l9,l10,l11,l12,l13,_⟩:=ll;obtain⟨kt,kk,ka,ko,_⟩:=kw1;cases c with
 | off n z=>
  cases rd with
  | @tup t xs _ ht rs=>
  cases rs with
  | cons r1 rs=>
  cases rs with
  | cons r2 rs=>
  cases rs with
  | cons r3 rs=>
  cases rs;cases r1;cases r2;cases r3;obtain⟨h1,h2,h3,h4,h5⟩:=ok;have hn:=G5 (n:=n) (by omega);refine⟨_,rq,t,_,_,_,rq,rq,SqT.of ht,Aj (j:=0) rfl,?_⟩;refine⟨_,rq,rq,_,rq,ifS (λ_=>?_) (λz=>absurd rfl z)⟩;exact⟨_,rq,t,_,_,_,rq,rq,SqT.of ht,Aj (j:=1) rfl,Str.ofString (toString (n:Int)),.inr ⟨_,rq,FJ (by omega),rq⟩,szb (by simp only[QaY,l0,l1,l2,l3,l4,l5,l6,l7,l8,l9,l10,l11,l12,l13,Ai];omega),_,rq,szb (by simp only[QaY,l0,l1,l2,l3,l4,l5,l6,l7,l8,l9,l10,l11,l12,l13,Ai];omega),_,rq,t,_,_,_,rq,rq,SqT.of ht,Aj (j:=2) rfl,_,.inl rfl,szb (by simp only[QaY,l0,l1,l2,l3,l4,l5,l6,l7,l8,l9,l10,l11,l12,l13,Ai];omega),szb (by simp only[QaY,l0,l1,l2,l3,l4,l5,l6,l7,l8,l9,l10,l11,l12,l13,Ai];omega),fin _ _ (Same.refl _) (by simp only[Dk,Fp,Qbz,QaZ,L_S];rfl)⟩
 | term z=>
  cases rd with
  | @tup t xs _ ht rs=>
  cases rs with
  | cons r1 rs=>
  cases rs with
  | cons r2 rs=>
  cases rs;cases r1;cases r2;obtain⟨h3,h4,h5⟩:=ok;refine⟨_,rq,t,_,_,_,rq,rq,SqT.of ht,Aj (j:=0) rfl,?_⟩;refine⟨_,rq,rq,_,rq,ifS (λz=>absurd z (by trivial)) (λ_=>?_)⟩;refine⟨_,rq,rq,_,rq,ifS (λz=>absurd z (by trivial)) (λ_=>?_)⟩;refine⟨_,rq,Ao (by show 2<=1000;decide),λp hp=>?_⟩;have sp:=Ag hp (.tup [.str "key",.str "term"]);have cp:upd H p (.tup [.str "key",.str "term"]) p=some (.tup [.str "key",.str "term"]):=Ae;have ht:=sp _ _ ht;generalize upd H p (.tup [.str "key",.str "term"])=H1 at *;refine⟨p,_,.str "term",[.str "key",.str "term"],rq,SqT.of cp,.cons (.str _) (.cons (.str _) .nil),.str _,by trivial,by trivial,_,rq,GJ (by trivial) ?_⟩;exact⟨_,rq,_,.inl rfl,szb (by simp only[QaY,l0,l1,l2,l3,l4,l5,l6,l7,l8,l9,l10,l11,l12,l13,Ai];omega),_,rq,szb (by simp only[QaY,l0,l1,l2,l3,l4,l5,l6,l7,l8,l9,l10,l11,l12,l13,Ai];omega),_,rq,t,_,_,_,rq,rq,SqT.of ht,Aj (j:=1) rfl,_,.inl rfl,szb (by simp only[QaY,l0,l1,l2,l3,l4,l5,l6,l7,l8,l9,l10,l11,l12,l13,Ai];omega),szb (by simp only[QaY,l0,l1,l2,l3,l4,l5,l6,l7,l8,l9,l10,l11,l12,l13,Ai];omega),fin _ _ sp (by simp only[Dk,Fp,Qbz];rw[kt];rfl)⟩
 | key k=>
  cases rd with
  | @tup t xs _ ht rs=>
  cases rs with
  | cons r1 rs=>
  cases rs with
  | cons r2 rs=>
  cases rs;cases r1;cases r2;have h3:k<=9:=ok;have hn:=G5 (n:=k) (by omega);refine⟨_,rq,t,_,_,_,rq,rq,SqT.of ht,Aj (j:=0) rfl,?_⟩;refine⟨_,rq,rq,_,rq,ifS (λz=>absurd z (by trivial)) (λ_=>?_)⟩;refine⟨_,rq,rq,_,rq,ifS (λz=>absurd z (by trivial)) (λ_=>?_)⟩;refine⟨_,rq,Ao (by show 2<=1000;decide),λp hp=>?_⟩;have sp:=Ag hp (.tup [.str "key",.str "term"]);have cp:upd H p (.tup [.str "key",.str "term"]) p=some (.tup [.str "key",.str "term"]):=Ae;have ht:=sp _ _ ht;generalize upd H p (.tup [.str "key",.str "term"])=H1 at *;refine⟨p,_,.str "key",[.str "key",.str "term"],rq,SqT.of cp,.cons (.str _) (.cons (.str _) .nil),.str _,by trivial,by trivial,_,rq,GJ (by trivial) ?_⟩;exact⟨_,rq,_,.inl rfl,szb (by simp only[QaY,l0,l1,l2,l3,l4,l5,l6,l7,l8,l9,l10,l11,l12,l13,Ai];omega),_,rq,szb (by simp only[QaY,l0,l1,l2,l3,l4,l5,l6,l7,l8,l9,l10,l11,l12,l13,Ai];omega),_,rq,t,_,_,_,rq,rq,SqT.of ht,Aj (j:=1) rfl,Str.ofString (toString (k:Int)),.inr ⟨_,rq,FJ (by omega),rq⟩,szb (by simp only[QaY,l0,l1,l2,l3,l4,l5,l6,l7,l8,l9,l10,l11,l12,l13,Ai];omega),szb (by simp only[QaY,l0,l1,l2,l3,l4,l5,l6,l7,l8,l9,l10,l11,l12,l13,Ai];omega),fin _ _ sp (by simp only[Dk,Fp,Qbz];rw[kk];rfl)⟩
 | hours a b=>
  cases rd with
  | @tup t xs _ ht rs=>
  cases rs with
  | cons r1 rs=>
  cases rs with
  | cons r2 rs=>
  cases rs with
  | cons r3 rs=>
  cases rs;cases r1;cases r2;cases r3;have h3:a<=23/\b<=23:=ok;have hn:=G5 (n:=a) (by omega);have hn':=G5 (n:=b) (by omega);refine⟨_,rq,t,_,_,_,rq,rq,SqT.of ht,Aj (j:=0) rfl,?_⟩;refine⟨_,rq,rq,_,rq,ifS (λz=>absurd z (by trivial)) (λ_=>?_)⟩;refine⟨_,rq,rq,_,rq,ifS (λ_=>?_) (λz=>absurd rfl z)⟩;exact⟨_,rq,szb (by simp only[QaY,l0,l1,l2,l3,l4,l5,l6,l7,l8,l9,l10,l11,l12,l13,Ai];omega),_,rq,t,_,_,_,rq,rq,SqT.of ht,Aj (j:=1) rfl,Str.ofString (toString (a:Int)),.inr ⟨_,rq,FJ (by omega),rq⟩,szb (by simp only[QaY,l0,l1,l2,l3,l4,l5,l6,l7,l8,l9,l10,l11,l12,l13,Ai];omega),_,rq,szb (by simp only[QaY,l0,l1,l2,l3,l4,l5,l6,l7,l8,l9,l10,l11,l12,l13,Ai];omega),_,rq,t,_,_,_,rq,rq,SqT.of ht,Aj (j:=2) rfl,Str.ofString (toString (b:Int)),.inr ⟨_,rq,FJ (by omega),rq⟩,szb (by simp only[QaY,l0,l1,l2,l3,l4,l5,l6,l7,l8,l9,l10,l11,l12,l13,Ai];omega),szb (by simp only[QaY,l0,l1,l2,l3,l4,l5,l6,l7,l8,l9,l10,l11,l12,l13,Ai];omega),fin _ _ (Same.refl _) (by simp only[Dk,Fp,Qbz,QaZ,L_S];rfl)⟩
 | neg c=>
  cases rd with
  | @tup t xs _ ht rs=>
  cases rs with
  | cons r1 rs=>
  cases rs with
  | cons r2 rs=>
  cases rs;cases r1;have hd:c.deep+1<=D+1:=hd;have hm:c.many+1<=20:=hm;have hc:=Ds (c:=c) ok;refine⟨_,rq,t,_,_,_,rq,rq,SqT.of ht,Aj (j:=0) rfl,?_⟩;refine⟨_,rq,rq,_,rq,ifS (λz=>absurd z (by trivial)) (λ_=>?_)⟩;refine⟨_,rq,rq,_,rq,ifS (λz=>absurd z (by trivial)) (λ_=>?_)⟩;refine⟨_,rq,Ao (by show 2<=1000;decide),λp hp=>?_⟩;have sp:=Ag hp (.tup [.str "key",.str "term"]);have cp:upd H p (.tup [.str "key",.str "term"]) p=some (.tup [.str "key",.str "term"]):=Ae;have ht:=sp _ _ ht;generalize upd H p (.tup [.str "key",.str "term"])=H1 at *;refine⟨p,_,.str "not",[.str "key",.str "term"],rq,SqT.of cp,.cons (.str _) (.cons (.str _) .nil),.str _,by trivial,by trivial,_,rq,CW (by trivial) ?_⟩;refine⟨_,rq,t,_,_,_,rq,rq,SqT.of ht,Aj (j:=1) rfl,_,c,rq,Rep.same sp r2,ok,by omega,by omega,λH2 s2=>?_⟩;have s02:=sp.trans s2;refine⟨_,rq,rq,_,rq,ifS (λ_=>?_) (λz=>absurd rfl z)⟩;exact⟨_,rq,szb (by simp only[QaY,l0,l1,l2,l3,l4,l5,l6,l7,l8,l9,l10,l11,l12,l13,Ai];omega),_,rq,_,.inl rfl,szb (by simp only[QaY,l0,l1,l2,l3,l4,l5,l6,l7,l8,l9,l10,l11,l12,l13,Ai];omega),szb (by simp only[QaY,l0,l1,l2,l3,l4,l5,l6,l7,l8,l9,l10,l11,l12,l13,Ai];omega),fin _ _ s02 (by simp only[Dk,Fp,Qbz,QaZ,L_S];rfl)⟩
 | both c d=>
  cases rd with
  | @tup t xs _ ht rs=>
  cases rs with
  | cons r1 rs=>
  cases rs with
  | cons r2 rs=>
  cases rs with
  | cons r3 rs=>
  cases rs;cases r1;have hd:max c.deep d.deep+1<=D+1:=hd;have hm:c.many+d.many+1<=20:=hm;have d1:c.deep<=D:=by omega
  have d2:d.deep<=D:=by omega
  have hc:=Ds (c:=c) ok.1;have hc2:=Ds (c:=d) ok.2;refine⟨_,rq,t,_,_,_,rq,rq,SqT.of ht,Aj (j:=0) rfl,?_⟩;refine⟨_,rq,rq,_,rq,ifS (λz=>absurd z (by trivial)) (λ_=>?_)⟩;refine⟨_,rq,rq,_,rq,ifS (λz=>absurd z (by trivial)) (λ_=>?_)⟩;refine⟨_,rq,Ao (by show 2<=1000;decide),λp hp=>?_⟩;have sp:=Ag hp (.tup [.str "key",.str "term"]);have cp:upd H p (.tup [.str "key",.str "term"]) p=some (.tup [.str "key",.str "term"]):=Ae;have ht:=sp _ _ ht;generalize upd H p (.tup [.str "key",.str "term"])=H1 at *;refine⟨p,_,.str "and",[.str "key",.str "term"],rq,SqT.of cp,.cons (.str _) (.cons (.str _) .nil),.str _,by trivial,by trivial,_,rq,CW (by trivial) ?_⟩;refine⟨_,rq,t,_,_,_,rq,rq,SqT.of ht,Aj (j:=1) rfl,_,c,rq,Rep.same sp r2,ok.1,d1,by omega,λH2 s2=>?_⟩;have s02:=sp.trans s2;refine⟨_,rq,rq,_,rq,ifS (λz=>absurd z (by trivial)) (λ_=>?_)⟩;refine⟨_,rq,t,_,_,_,rq,rq,SqT.of (s2 _ _ ht),Aj (j:=2) rfl,_,d,rq,Rep.same s02 r3,ok.2,d2,by omega,λH3 s3=>?_⟩;have s03:=s02.trans s3;refine⟨_,rq,rq,_,rq,ifS (λz=>absurd z (by trivial)) (λ_=>?_)⟩;refine⟨_,rq,szb (by simp only[QaY,l0,l1,l2,l3,l4,l5,l6,l7,l8,l9,l10,l11,l12,l13,Ai];omega),_,rq,_,.inl rfl,szb (by simp only[QaY,l0,l1,l2,l3,l4,l5,l6,l7,l8,l9,l10,l11,l12,l13,Ai];omega),_,rq,szb (by simp only[QaY,l0,l1,l2,l3,l4,l5,l6,l7,l8,l9,l10,l11,l12,l13,Ai];omega),_,rq,_,.inl rfl,szb (by simp only[QaY,l0,l1,l2,l3,l4,l5,l6,l7,l8,l9,l10,l11,l12,l13,Ai];omega),_,rq,szb (by simp only[QaY,l0,l1,l2,l3,l4,l5,l6,l7,l8,l9,l10,l11,l12,l13,Ai];omega),_,rq,_,.inl rfl,szb (by simp only[QaY,l0,l1,l2,l3,l4,l5,l6,l7,l8,l9,l10,l11,l12,l13,Ai];omega),_,rq,szb (by simp only[QaY,l0,l1,l2,l3,l4,l5,l6,l7,l8,l9,l10,l11,l12,l13,Ai];omega),szb (by simp only[QaY,l0,l1,l2,l3,l4,l5,l6,l7,l8,l9,l10,l11,l12,l13,Ai];omega),fin _ _ s03 ?_⟩;simp only[Dk,Fp,Qbz,QaZ,L_S];show _=L "("++(c.txt++(L " and "++(d.txt++L ")")));rw[<-ka];simp only[QaZ]
 | any c d=>
  cases rd with
  | @tup t xs _ ht rs=>
  cases rs with
  | cons r1 rs=>
  cases rs with
  | cons r2 rs=>
  cases rs with
  | cons r3 rs=>
  cases rs;cases r1;have hd:max c.deep d.deep+1<=D+1:=hd;have hm:c.many+d.many+1<=20:=hm;have d1:c.deep<=D:=by omega
  have d2:d.deep<=D:=by omega
  have hc:=Ds (c:=c) ok.1;have hc2:=Ds (c:=d) ok.2;refine⟨_,rq,t,_,_,_,rq,rq,SqT.of ht,Aj (j:=0) rfl,?_⟩;refine⟨_,rq,rq,_,rq,ifS (λz=>absurd z (by trivial)) (λ_=>?_)⟩;refine⟨_,rq,rq,_,rq,ifS (λz=>absurd z (by trivial)) (λ_=>?_)⟩;refine⟨_,rq,Ao (by show 2<=1000;decide),λp hp=>?_⟩;have sp:=Ag hp (.tup [.str "key",.str "term"]);have cp:upd H p (.tup [.str "key",.str "term"]) p=some (.tup [.str "key",.str "term"]):=Ae;have ht:=sp _ _ ht;generalize upd H p (.tup [.str "key",.str "term"])=H1 at *;refine⟨p,_,.str "or",[.str "key",.str "term"],rq,SqT.of cp,.cons (.str _) (.cons (.str _) .nil),.str _,by trivial,by trivial,_,rq,CW (by trivial) ?_⟩;refine⟨_,rq,t,_,_,_,rq,rq,SqT.of ht,Aj (j:=1) rfl,_,c,rq,Rep.same sp r2,ok.1,d1,by omega,λH2 s2=>?_⟩;have s02:=sp.trans s2;refine⟨_,rq,rq,_,rq,ifS (λz=>absurd z (by trivial)) (λ_=>?_)⟩;refine⟨_,rq,t,_,_,_,rq,rq,SqT.of (s2 _ _ ht),Aj (j:=2) rfl,_,d,rq,Rep.same s02 r3,ok.2,d2,by omega,λH3 s3=>?_⟩;have s03:=s02.trans s3;refine⟨_,rq,rq,_,rq,ifS (λz=>absurd z (by trivial)) (λ_=>?_)⟩;refine⟨_,rq,szb (by simp only[QaY,l0,l1,l2,l3,l4,l5,l6,l7,l8,l9,l10,l11,l12,l13,Ai];omega),_,rq,_,.inl rfl,szb (by simp only[QaY,l0,l1,l2,l3,l4,l5,l6,l7,l8,l9,l10,l11,l12,l13,Ai];omega),_,rq,szb (by simp only[QaY,l0,l1,l2,l3,l4,l5,l6,l7,l8,l9,l10,l11,l12,l13,Ai];omega),_,rq,_,.inl rfl,szb (by simp only[QaY,l0,l1,l2,l3,l4,l5,l6,l7,l8,l9,l10,l11,l12,l13,Ai];omega),_,rq,szb (by simp only[QaY,l0,l1,l2,l3,l4,l5,l6,l7,l8,l9,l10,l11,l12,l13,Ai];omega),_,rq,_,.inl rfl,szb (by simp only[QaY,l0,l1,l2,l3,l4,l5,l6,l7,l8,l9,l10,l11,l12,l13,Ai];omega),_,rq,szb (by simp only[QaY,l0,l1,l2,l3,l4,l5,l6,l7,l8,l9,l10,l11,l12,l13,Ai];omega),szb (by simp only[QaY,l0,l1,l2,l3,l4,l5,l6,l7,l8,l9,l10,l11,l12,l13,Ai];omega),fin _ _ s03 ?_⟩;simp only[Dk,Fp,Qbz,QaZ,L_S];show _=L "("++(c.txt++(L " or "++(d.txt++L ")")));rw[<-ko];simp only[QaZ]
 | thn c d n=>
  cases rd with
  | @tup t xs _ ht rs=>
  cases rs with
  | cons r1 rs=>
  cases rs with
  | cons r2 rs=>
  cases rs with
  | cons r3 rs=>
  cases rs with
  | cons r4 rs=>
  cases rs;cases r1;cases r4;have hd:max c.deep d.deep+1<=D+1:=hd;have hm:c.many+d.many+1<=20:=hm;have d1:c.deep<=D:=by omega
  have d2:d.deep<=D:=by omega
  have hc:=Ds (c:=c) ok.1;have hc2:=Ds (c:=d) ok.2.1;have hn:=G5 (n:=n) (by have:=ok.2.2.2;omega);have h20:=ok.2.2.2;refine⟨_,rq,t,_,_,_,rq,rq,SqT.of ht,Aj (j:=0) rfl,?_⟩;refine⟨_,rq,rq,_,rq,ifS (λz=>absurd z (by trivial)) (λ_=>?_)⟩;refine⟨_,rq,rq,_,rq,ifS (λz=>absurd z (by trivial)) (λ_=>?_)⟩;refine⟨_,rq,Ao (by show 2<=1000;decide),λp hp=>?_⟩;have sp:=Ag hp (.tup [.str "key",.str "term"]);have cp:upd H p (.tup [.str "key",.str "term"]) p=some (.tup [.str "key",.str "term"]):=Ae;have ht:=sp _ _ ht;generalize upd H p (.tup [.str "key",.str "term"])=H1 at *;refine⟨p,_,.str "then",[.str "key",.str "term"],rq,SqT.of cp,.cons (.str _) (.cons (.str _) .nil),.str _,by trivial,by trivial,_,rq,CW (by trivial) ?_⟩;refine⟨_,rq,t,_,_,_,rq,rq,SqT.of ht,Aj (j:=1) rfl,_,c,rq,Rep.same sp r2,ok.1,d1,by omega,λH2 s2=>?_⟩;have s02:=sp.trans s2;refine⟨_,rq,rq,_,rq,ifS (λz=>absurd z (by trivial)) (λ_=>?_)⟩;refine⟨_,rq,t,_,_,_,rq,rq,SqT.of (s2 _ _ ht),Aj (j:=2) rfl,_,d,rq,Rep.same s02 r3,ok.2.1,d2,by omega,λH3 s3=>?_⟩;have s03:=s02.trans s3;refine⟨_,rq,rq,_,rq,ifS (λ_=>?_) (λz=>absurd rfl z)⟩;exact⟨_,rq,szb (by simp only[QaY,l0,l1,l2,l3,l4,l5,l6,l7,l8,l9,l10,l11,l12,l13,Ai];omega),_,rq,_,.inl rfl,szb (by simp only[QaY,l0,l1,l2,l3,l4,l5,l6,l7,l8,l9,l10,l11,l12,l13,Ai];omega),_,rq,szb (by simp only[QaY,l0,l1,l2,l3,l4,l5,l6,l7,l8,l9,l10,l11,l12,l13,Ai];omega),_,rq,_,.inl rfl,szb (by simp only[QaY,l0,l1,l2,l3,l4,l5,l6,l7,l8,l9,l10,l11,l12,l13,Ai];omega),_,rq,szb (by simp only[QaY,l0,l1,l2,l3,l4,l5,l6,l7,l8,l9,l10,l11,l12,l13,Ai];omega),_,rq,t,_,_,_,rq,rq,SqT.of (s3 _ _ (s2 _ _ ht)),Aj (j:=3) rfl,Str.ofString (toString (n:Int)),.inr ⟨_,rq,FJ (by omega),rq⟩,szb (by simp only[QaY,l0,l1,l2,l3,l4,l5,l6,l7,l8,l9,l10,l11,l12,l13,Ai];omega),_,rq,szb (by simp only[QaY,l0,l1,l2,l3,l4,l5,l6,l7,l8,l9,l10,l11,l12,l13,Ai];omega),szb (by simp only[QaY,l0,l1,l2,l3,l4,l5,l6,l7,l8,l9,l10,l11,l12,l13,Ai];omega),fin _ _ s03 (by simp only[Dk,Fp,Qbz,QaZ,L_S];rfl)⟩
end
theorem Hg (l:List Nat) (y:Str) (i:Nat):Builtin.Str.subAt (S l) y i=true ↔ (l.drop i).take y.length=L y:=by
 unfold Builtin.Str.subAt;rw[beq_iff_eq];constructor
 ·intro h;have h:=congrArg Array.toList h;rw[QaE] at h;rw[<-show y.cps.toList=L y from rfl,<-h]
  show _=((S l).cps.toList.drop i).take (i+y.length - i);rw[Nat.add_sub_cancel_left];rfl
 ·intro h;refine Array.toList_inj.mp ?_;rw[QaE];show ((S l).cps.toList.drop i).take (i+y.length - i)=L y;rw[Nat.add_sub_cancel_left];exact h
theorem Nt (l:List Nat) (y:Str):Txt.startswith (S l) y=true ↔ ∃r,l=L y++r:=by
 unfold Txt.startswith
 rw[Qbk,QaS,Hg,List.drop_zero,Ai];constructor
 ·rintro ⟨_,h⟩;exact⟨l.drop y.length,by rw[<-h,Qaz]⟩
 ·rintro ⟨r,rfl⟩;have e:=Ip y;refine⟨by rw[QaM];omega,?_⟩;rw[e,List.take_left'];rfl
theorem V1 {l r:List Nat} {y:Str} (h:l=L y++r):Txt.startswith (S l) y=true:=(Nt l y).mpr ⟨r,h⟩
theorem Gz {c:Nat} {l:List Nat} {y:Str} {d:Nat} {t:List Nat} (hy:L y=d::t) (h:c≠d):Txt.startswith (S (c::l)) y=false:=by
 cases e:Txt.startswith (S (c::l)) y with
 | false=>rfl
 | true=>
  obtain⟨r,hr⟩:=(Nt _ _).mp e;rw[hy] at hr;injection hr with hr _;exact absurd hr h
theorem sU (l:List Nat):Txt.endswith (S (l++L "\n")) "\n"=true:=by
 have e:(Str.ofString "\n").length=1:=by trivial
 have e2:(L (Str.ofString "\n")).length=1:=by trivial
 unfold Txt.endswith
 rw[Qbk,QaS,Hg,Ai,QaM,e,e2];refine⟨by omega,?_⟩;rw[Nat.add_sub_cancel,QbM]
 ·exact Qaw (by omega)
 ·rfl
theorem M9 {h b:List Nat} (hh:∀c∈h,c≠61):Txt.partition (S (h++(L " = "++b))) " = "=(S h,(" = ":Str),S b):=by
 have ey:L (Str.ofString " = ")=[32,61,32]:=by trivial
 have yl:(Str.ofString " = ").length=3:=by trivial
 have at_:StrLaws.At (S (h++(L " = "++b))) " = " (S (h++(L " = "++b))).length h.length:=by
  refine⟨?_,(Hg _ _ _).mpr ?_⟩
  ·rw[Ai,QaM,QaM,ey,yl];show _+3<=_+(3+_);omega
  ·rw[QbM rfl,yl,ey];rfl
 have no:∀k,k < h.length->¬StrLaws.At (S (h++(L " = "++b))) " = " (S (h++(L " = "++b))).length k:=λk hk w=>by
  have w2:=(Hg _ _ _).mp w.2;rw[yl,ey] at w2;have g:((h++(L " = "++b)).drop k)[1]?=some 61:=by
   have:(((h++(L " = "++b)).drop k).take 3)[1]?=some 61:=by rw[ey,w2];rfl
   rw[List.getElem?_take] at this;simpa using this
  rw[List.getElem?_drop] at g;by_cases hk1:k+1 < h.length
  ·rw[Qak hk1] at g;exact hh 61 (QaC g) rfl
  ·have:k+1=h.length:=by omega
   rw[this,Qag (Qcf _),Nat.sub_self,ey] at g;cases g
 unfold Txt.partition;rcases StrLaws.occ_head (S (h++(L " = "++b))) " = " 1 (Qcf _) with⟨e,hn⟩|⟨i,r,e,hi,hn⟩
 ·exact absurd at_ (hn _)
 ·have:i=h.length:=by
   rcases Nat.lt_trichotomy i h.length with z | z | z
   ·exact absurd hi (no i z)
   ·exact z
   ·exact absurd at_ (hn _ z)
  subst this;rw[e];refine Prod.ext ?_ (Prod.ext rfl ?_)
  ·refine Ir ?_;show ((S (h++(L " = "++b))).cps.extract 0 h.length).toList=h;rw[QaE];show ((h++(L " = "++b)).drop 0).take (h.length - 0)=h;rw[List.drop_zero,Nat.sub_zero,List.take_left'];rfl
  ·refine Ir ?_;show ((S (h++(L " = "++b))).cps.extract (h.length+(Str.ofString " = ").length) (S (h++(L " = "++b))).length).toList=b;rw[QaE,Ai,yl];show ((h++(L " = "++b)).drop (h.length+3)).take _=b;rw[<-List.drop_drop,QbM rfl,ey];show b.take _=b;refine Qaw ?_;rw[QaM,QaM];show _<=h.length+(3+b.length) - (h.length+3);omega
theorem qQ {h b:List Nat} (hh:∀c∈h,c≠32):Txt.partition (S (h++(L " "++b))) " "=(S h,(" ":Str),S b):=by
 have ey:L (Str.ofString " ")=[32]:=by trivial
 have yl:(Str.ofString " ").length=1:=by trivial
 have at_:StrLaws.At (S (h++(L " "++b))) " " (S (h++(L " "++b))).length h.length:=by
  refine⟨?_,(Hg _ _ _).mpr ?_⟩
  ·rw[Ai,QaM,QaM,ey,yl];show _+1<=_+(1+_);omega
  ·rw[QbM rfl,yl,ey];rfl
 have no:∀k,k < h.length->¬StrLaws.At (S (h++(L " "++b))) " " (S (h++(L " "++b))).length k:=λk hk w=>by
  have w2:=(Hg _ _ _).mp w.2;rw[yl,ey] at w2;have g:((h++(L " "++b)).drop k)[0]?=some 32:=by
   have:(((h++(L " "++b)).drop k).take 1)[0]?=some 32:=by rw[ey,w2];rfl
   rw[List.getElem?_take] at this;simpa using this
  rw[List.getElem?_drop,Nat.add_zero,Qak hk] at g;exact hh 32 (QaC g) rfl
 unfold Txt.partition;rcases StrLaws.occ_head (S (h++(L " "++b))) " " 1 (Qcf _) with⟨e,hn⟩|⟨i,r,e,hi,hn⟩
 ·exact absurd at_ (hn _)
 ·have:i=h.length:=by
   rcases Nat.lt_trichotomy i h.length with z | z | z
   ·exact absurd hi (no i z)
   ·exact z
   ·exact absurd at_ (hn _ z)
  subst this;rw[e];refine Prod.ext ?_ (Prod.ext rfl ?_)
  ·refine Ir ?_;show ((S (h++(L " "++b))).cps.extract 0 h.length).toList=h;rw[QaE];show ((h++(L " "++b)).drop 0).take (h.length - 0)=h;rw[List.drop_zero,Nat.sub_zero,List.take_left'];rfl
  ·refine Ir ?_;show ((S (h++(L " "++b))).cps.extract (h.length+(Str.ofString " ").length) (S (h++(L " "++b))).length).toList=b;rw[QaE,Ai,yl];show ((h++(L " "++b)).drop (h.length+1)).take _=b;rw[<-List.drop_drop,QbM rfl,ey];show b.take _=b;refine Qaw ?_;rw[QaM,QaM];show _<=h.length+(1+b.length) - (h.length+1);omega
def nlS:Str:=⟨#[10]⟩
theorem uW:Str.ofString "\n"=nlS:=by trivial
def jn:List (List Nat)->List Nat
 | []=>[]
 | [a]=>a
 | a::b::r=>a++10::jn (b::r)
theorem Y0:∀ps:YF,L (Str.join nlS ps)=jn (ps.map L)
 | []=>rfl
 | [a]=>rfl
 | a::b::r=>by
  show L ((a++nlS)++Str.join nlS (b::r))=L a++10::jn ((b::r).map L);rw[Dk,Dk,Y0 (b::r),QaZ];rfl
theorem o7 {a b x y:List Nat} (ha:∀c∈a,c≠10) (hb:∀c∈b,c≠10) (h:a++10::x=b++10::y):a=b/\x=y:=by
 induction a generalizing b with
 | nil=>
  cases b with
  | nil=>injection h with _ h;exact⟨rfl,h⟩
  | cons d t=>injection h with h _;exact absurd h.symm (hb d (QaN ..))
 | cons c s ih=>
  cases b with
  | nil=>injection h with h _;exact absurd h (ha c (QaN ..))
  | cons d t=>
   injection h with h1 h2;obtain⟨e1,e2⟩:=ih (λx hx=>ha x (QaB _ hx)) (λx hx=>hb x (QaB _ hx)) h2;exact⟨by rw[h1,e1],e2⟩
theorem dM:∀{ps qs:List (List Nat)},ps≠[]->qs≠[]->(∀p∈ps,∀c∈p,c≠10)->(∀p∈qs,∀c∈p,c≠10)->jn ps=jn qs->ps=qs
 | [a],[b],_,_,_,_,h=>by rw[show a=b from h]
 | [a],b::d::r,_,_,hp,_,h=>by
  have h:a=b++10::jn (d::r):=h;exact absurd rfl (hp a (QaN ..) 10 (by rw[h];simp))
 | a::c::r,[b],_,_,_,hq,h=>by
  have h:a++10::jn (c::r)=b:=h;exact absurd rfl (hq b (QaN ..) 10 (by rw[<-h];simp))
 | a::c::r,b::d::t,_,_,hp,hq,h=>by
  have h:a++10::jn (c::r)=b++10::jn (d::t):=h;obtain⟨e1,e2⟩:=o7 (hp a (QaN ..)) (hq b (QaN ..)) h;rw[e1,dM (by simp) (by simp) (λp h=>hp p (QaB _ h)) (λp h=>hq p (QaB _ h)) e2]
theorem gM (x y:Str):Txt.split x y≠[]:=by
 unfold Txt.split;split
 ·simp
 ·split
  ·simp
  ·rw[StrLaws.partsBetween_eq];cases Builtin.Str.occurrences x y 0 x.length (x.length+1) <;> simp[StrLaws.partsFrom]
theorem map_inj {ps qs:YF} (h:ps.map L=qs.map L):ps=qs:=by
 have:=congrArg (List.map S) h;rw[Qce,Qce] at this;have e:(S ∘ L)=id:=by funext s;rfl
 rw[e,List.map_id,List.map_id] at this;exact this
theorem Rr {rows:List (List Nat)} (h:∀r∈rows,∀c∈r,c≠10):Txt.split (S ((rows.map λr=>r++[10]).flatten)) "\n"=(rows++[[]]).map S:=by
 rw[uW];have e1:=StrLaws.join_split (S ((rows.map λr=>r++[10]).flatten)) nlS;have e2:=StrLaws.split_free (S ((rows.map λr=>r++[10]).flatten)) 10;have e3:=congrArg L e1;rw[Y0] at e3;have e4:∀rs:List (List Nat),jn (rs++[[]])=(rs.map λr=>r++[10]).flatten:=by
  intro rs
  induction rs with
  | nil=>rfl
  | cons a t ih=>
   cases t with
   | nil=>show a++10::[]=(a++[10])++[];rw[QbB]
   | cons b t=>
    show a++10::jn ((b::t)++[[]])=(a++[10])++_;rw[ih,QaZ];rfl
 have e5:(Txt.split (S ((rows.map λr=>r++[10]).flatten)) nlS).map L=rows++[[]]:=by
  refine dM (λz=>?_) (by simp) (λp hp c hc z=>?_) (λp hp c hc=>?_) ?_
  ·exact gM _ _ (List.map_eq_nil_iff.mp z)
  ·obtain⟨s,hs,rfl⟩:=Qcc.mp hp;exact e2 s hs (by rw[<-z];exact hc)
  ·rcases Qby.mp hp with hp | hp
   ·exact h p hp c hc
   ·rw[QaO.mp hp] at hc;cases hc
  ·rw[e3,e4];rfl
 refine map_inj ?_;rw[e5,Qce];have e:(L ∘ S)=id:=by funext s;rfl
 rw[e,List.map_id]
abbrev Mp:Stmt:=top 38
abbrev Dq:YF:=["text"]
theorem K8:Bo ["text","many"] Dq (Ar Mp):=by ac_rfl
abbrev Jo:Stmt:=top 39
abbrev Df:YF:=["text","many"]
theorem CT:Bo ["text","many","words","rest","number","word"] Df (Ar Jo):=by ac_rfl
abbrev Im:Stmt:=top 23
abbrev Ck:YF:=["text"]
theorem M5:Bo ["text"] Ck (Ar Im):=by ac_rfl
abbrev JV:Stmt:=top 40
abbrev DP:YF:=["text"]
theorem Dv:Bo ["text","first","rest","words"] DP (Ar JV):=by ac_rfl
structure Tx (K:YD) (P:Params) (mg:YB) (wA:Addr):Prop extends Tc mg where
 WORDS_BEHIND:∃u,mg "WORDS_BEHIND"=some u/\RelV (.ref wA) u
 dw:KD K P wA
 dk:∃tk,nsIn K wA "key"=some (some (.int 1 tk))
 dt:∃tk,nsIn K wA "term"=some (some (.int 1 tk))
 dh:∃tk,nsIn K wA "hours"=some (some (.int 3 tk))
 dn:∀n,1<=n->n<=9->nsIn K wA (S (num n))=some none
 WORDS_BEHIND_NUMBER:∃u,mg "WORDS_BEHIND_NUMBER"=some u/\RelV (.int 2) u
 FIGURES:∃u,mg "FIGURES"=some u/\RelV (.str "0123456789") u
def Free (w:List Nat):Prop:=∀c∈w,stop c=false
def KR (r:List Nat):Prop:=r=[]\/∃c r',r=c::r'/\stop c=true
def jw (ws:List (List Nat)) (r:List Nat):List Nat:=match ws with
 | []=>r
 | w::t=>32::(w++jw t r)
theorem Nj {ws:List (List Nat)} {r:List Nat} (h:KR r):KR (jw ws r):=by
 cases ws with
 | nil=>exact h
 | cons w t=>exact .inr ⟨32,_,rfl,by decide⟩
theorem K6 (r:List Nat):KR (32::r):=.inr ⟨32,r,rfl,by decide⟩
theorem V0 (r:List Nat):KR (41::r):=.inr ⟨41,r,rfl,by decide⟩
theorem JH {n:Nat} (h:n < 100):Free (num n):=λc hc=>by
 have:=Qbm.mp (Ql n h).2.2.2 c hc;cases e:stop c with
 | false=>rfl
 | true=>rw[e] at this;cases this
theorem Tn {z:Str} (h:okS z):Free (L z):=λc hc=>by
 have key:abc.cps.toList.all (λc=>!stop c)=true:=by trivial
 have:=Qbm.mp key c (h c hc);cases e:stop c with
 | false=>rfl
 | true=>rw[e] at this;cases this
theorem WL:Free (L "of")/\Free (L "to")/\Free (L "within")/\Free (L "key")/\Free (L "term")/\Free (L "hours")/\Free (L "and")/\Free (L "or")/\Free (L "then"):=by
 have key:∀w∈[L "of",L "to",L "within",L "key",L "term",L "hours",L "and",L "or",L "then"],w.all (λc=>!stop c)=true:=by trivial
 have f:∀w∈[L "of",L "to",L "within",L "key",L "term",L "hours",L "and",L "or",L "then"],Free w:=λw hw c hc=>by
  have:=Qbm.mp (key w hw) c hc;cases e:stop c with
  | false=>rfl
  | true=>rw[e] at this;cases this
 exact⟨f _ (by simp),f _ (by simp),f _ (by simp),f _ (by simp),f _ (by simp),f _ (by simp),f _ (by simp),f _ (by simp),f _ (by simp)⟩
theorem WK:L " of "=32::(L "of"++[32])/\L "term "=L "term"++[32]/\L "key "=L "key"++[32]/\L "hours "=L "hours"++[32]/\L " to "=32::(L "to"++[32])/\L " and "=32::(L "and"++[32])/\L " or "=32::(L "or"++[32])/\L " then "=32::(L "then"++[32])/\L " within "=32::(L "within"++[32])/\L "("=[40]/\L ")"=[41]/\L "not "=[110,111,116,32]:=by trivial
theorem Wv {n:Nat} (h:n < 100) {y:Str} (hy:3<=y.length):S (num n)≠y:=λe=>by
 have h1:=Ks h;rw[<-e,Ai] at hy;omega
def Nu:Sp:=λvs H Q _=>∃(w r:List Nat),vs=[.str (S (w++r))]/\Free w/\KR r/\(w++r).length<=9000/\∀p H',H' p=some (.tup [.str (S w),.str (S r)])->Same H H'->Q (.ref p) H'
def Vm:Sp:=λvs H Q _=>∃(ws:List (List Nat)) (r:List Nat),vs=[.str (S (jw ws r)),.int ws.length]/\(∀w∈ws,Free w)/\KR r/\(jw ws r).length<=9000/\ws.length<=9/\∀p l H',H' p=some (.tup [.ref l,.str (S r)])->H' l=some (.lst (ws.map λw=>V.str (S w)))->Same H H'->Q (.ref p) H'
def V2:Sp:=λvs H Q _=>∃n:Nat,vs=[.str (S (num n))]/\n < 100/\∀H',Same H H'->Q (.int n) H'
theorem qp {l:List Nat} {i c:Nat} (h:l[i]?=some c):atI (S l).cps.toList (i:Int)=some c:=Aj h
def rH:Cd->Prop
 | .off _ _=>True
 | .term _=>True
 | .key _=>True
 | .hours _ _=>True
 | _=>False
def gP:Sp:=λvs H Q _=>∃(c:Cd) (r:List Nat),vs=[.str (S (c.txt++r))]/\rH c/\c.ok/\KR r/\(c.txt++r).length<=9000/\∀p t H',H' p=some (.tup [.ref t,.str (S r)])->Rep H' (.ref t) c.data->Same H H'->Q (.ref p) H'
section
variable {P:Program} {w:World} {K:YD} {mg:YB} {base:Heap} {wA:Addr}
theorem Wo (C:Code K mg "take_word" Mp Dq) (T:Tx K w.params mg wA):Good P w K mg base "take_word" 1 Dq Nu:=by
 refine C.good K8 (λvs H Q E h=>?_) (λf cdv A outer s H vs Q E hr h=>?_)
 ·obtain⟨w,r,rfl,_⟩:=h;rfl
 obtain⟨wd,r,rfl,fw,sr,l9,q⟩:=h;refine⟨_,(Ad (Bf (i:=1) K8.nd rfl (Or.inl rfl) Ac)
 (Ad (ig QbD (PW.pt (Ig (Av JW (pv 1) (Ax Dg rfl T.len Cy (Aa (pv 0) Ab)) (Bc _)) (GZ (Av Wn (Ba Kv (pv 0) (pv 1) (λ_ _=>rfl)) Af (by with_unfolding_all rfl))))) (Ah (cI (i:=1) K8.nd rfl (Or.inl rfl) Ac dR)))
 (Ah (Ak (Bl (Aa (Bq Ce (pv 0) Bx (Bt (pv 1))) (Aa (Bq Ce (pv 0) (Bt (pv 1)) Bx) Ab))))))),?_⟩
 show let R0:TS:=_;let R1:TS:=_;let R2:TS:=Al (bL _ R1) R0;Al _ R2 _ _ _;intro R0 R1 R2;have ls:(S (wd++r)).length<=sizeLine:=szb (by rw[Ai];omega);refine⟨λm U HH=>∃i,m=wd.length - i/\i<=wd.length/\U=[some (.str (S (wd++r))),some (.int (i:Int))]/\HH=H,⟨_,0,rq,Qcg _,rq,rq⟩,λm U HH h=>?_⟩;obtain⟨i,rfl,hi,rfl,rfl⟩:=h;refine⟨_,rq,_,rq,_,rq,ls,_,_,rq,rq,_,rq,?_⟩;rw[Ai];have fin:i=wd.length->∀p,HH p=none->Q (.ref p) (upd HH p (.tup [.str (Txt.slice (S (wd++r)) none (some (i:Int))),.str (Txt.slice (S (wd++r)) (some (i:Int)) none)])):=λe p hp=>by
  subst e;rw[Vp (by rw[QaM];omega),M4 (by rw[QaM];omega),List.take_left' rfl,QbM rfl];exact q p _ Ae (Ag hp _)
 by_cases hlt:i < (wd++r).length
 ·rw[QbN (show (i:Int) < ((wd++r).length:Nat) by omega)];obtain⟨c,hc⟩ : ∃c,(wd++r)[i]?=some c:=⟨_,Qam hlt⟩;refine Bp ⟨_,rq,_,rq,_,_,c,rq,rq,ls,qp hc,_,_,rq,rq,_,rq,?_⟩;rw[gK];by_cases hw:i < wd.length
  ·rw[Qak hw] at hc;rw[fw c (QaC hc)];exact Bp ⟨_,fun σ' H' h'=>h',_,rq,_,_,rq,rq,⟨wd.length - (i+1),by omega,i+1,rq,by omega,rq,rq⟩⟩
  ·have e:i=wd.length:=by omega
   have sc:stop c=true:=by
    rw[e,Qag (Qcf _),Nat.sub_self] at hc;rcases sr with rfl |⟨c',r',rfl,hs⟩
    ·cases hc
    ·cases hc;exact hs
   rw[sc];exact Bs ⟨_,rq,_,rq,_,rq,_,rq,ls,_,rq,_,rq,_,rq,_,rq,ls,Ao (by show 2<=1000;decide),fin e⟩
 ·have e:i=wd.length:=by rw[QaM] at hlt;omega
  rw[Qbv (show ¬(i:Int) < ((wd++r).length:Nat) by omega)];exact Bs (Bs ⟨_,rq,_,rq,_,rq,_,rq,ls,_,rq,_,rq,_,rq,_,rq,ls,Ao (by show 2<=1000;decide),fin e⟩)
theorem U5 (C:Code K mg "take_words" Jo Df) (T:Tx K w.params mg wA) (CJ:Good P w K mg base "take_word" 1 Dq Nu):Good P w K mg base "take_words" 2 Df Vm:=by
 refine C.good CT (λvs H Q E h=>?_) (λf cdv A outer s H vs Q E hr h=>?_)
 ·obtain⟨ws,r,rfl,_⟩:=h;rfl
 obtain⟨ws,r,rfl,fw,sr,l9,lw,q⟩:=h;refine⟨_,(Ad (Bf (i:=2) CT.nd rfl (Or.inl rfl) (Dj Ab))
 (Ad (Bf (i:=3) CT.nd rfl (Or.inl rfl) (pv 0))
 (Ad (Ih QbD rfl (FW rfl T.range (Aa (pv 1) Ab)) (Az (i:=4) CT.nd rfl (Or.inl rfl))
 (Ad (CV (Am CJ hr (Aa (Bq Ce (pv 3) (Bt Ac) Bx) Ab)) (Di rfl (Bd (Az (i:=5) CT.nd rfl (Or.inl rfl)) (Bd (Az (i:=3) CT.nd rfl (Or.inl rfl)) CN))))
 (Ah (Jg (Dz Qap Qan Qao En (pv 2) (Aa (pv 5) Ab))))))
 (Ah (Ak (Bl (Aa (pv 2) (Aa (pv 3) Ab)))))))),?_⟩
 show let R0:TS:=_;let R1:TS:=_;let R2:TS:=Al _ R1;let R3:TS:=Al (K5 _ _ R2) R0;let R4:TS:=Al _ R3;Al _ R4 _ _ _;intro R0 R1 R2 R3 R4;refine⟨Ao (by show 0<=1000;decide),λl hl=>⟨_,rq,_,rq,_,rq,by omega,by omega,?_⟩⟩;rw[Qbh];have jd:∀i,(jw (ws.drop i) r).length<=9000:=λi=>by
  refine Qca ?_ l9;clear q
  induction i generalizing ws with
  | zero=>exact Qcf _
  | succ i ih=>
   cases ws with
   | nil=>exact Qcf _
   | cons a t=>
    refine Qca (ih t (λw h=>fw w (QaB _ h)) (by have:(32::(a++jw t r)).length<=9000:=l9;rw[Qbl,QaM] at this;omega) (by rw[Qbl] at lw;omega)) ?_;show _<=(32::(a++jw t r)).length;rw[Qbl,QaM];omega
 let J0:YN:=λi U HH=>∃(u4 u5:Option V),U=[some (.str (S (jw ws r))),some (.int (ws.length:Int)),js l,some (.str (S (jw (ws.drop i) r))),u4,u5]/\HH l=some (.lst ((ws.take i).map λw=>V.str (S w)))/\Same H HH;refine Hu J0 ⟨none,none,rq,Ae,Ag hl _⟩ (λi U HH hi h=>?_) (fun U HH h=>?_)
 ·obtain⟨u4,u5,rfl,e1,s1⟩:=h;have hg:ws[i]?=some ws[i]:=Qam hi;have ed:ws.drop i=ws[i]::ws.drop (i+1):=List.drop_eq_getElem_cons hi;have jl:=jd i;rw[ed] at jl ⊢;have jl:(32::(ws[i]++jw (ws.drop (i+1)) r)).length<=9000:=jl;rw[Qbl] at jl;refine jH ⟨_,rq,_,rq,_,rq,szb (by show (S (32::(ws[i]++jw (ws.drop (i+1)) r))).length<=100000;rw[Ai,Qbl];omega),ws[i],jw (ws.drop (i+1)) r,?_,fw _ (Qbt hi),Nj sr,by omega,λp H1 hp s2=>?_⟩
  ·show [V.str (Txt.slice (S (32::(ws[i]++jw (ws.drop (i+1)) r))) (some 1) none)]=_;rw[Kw]
  have e1':=s2 _ _ e1;have s12:=s1.trans s2;refine⟨p,_,rq,SqT.of hp,rq,_,_,rq,_,_,rq,rq,?_⟩;refine⟨_,rq,.inl ⟨rq,_,SqL.of e1'⟩,_,rq,l,_,_,rq,rq,e1',Ca (by rw[Qbw,Qbn];omega),?_⟩;refine⟨_,_,rq,?_,s12.Fj Aw.upd hl⟩;rw[Ae,Qcm hg,Qbx];rfl
 ·obtain⟨u4,u5,rfl,e1,s1⟩:=h;rw[Qbq] at e1;rw[List.drop_length];refine⟨_,rq,_,rq,Ao (by show 2<=1000;decide),λp hp=>?_⟩;have s2:=Ag hp (.tup [.ref l,.str (S (jw [] r))]);exact q p l _ Ae (s2 _ _ e1) (s1.trans s2)
theorem Ti (C:Code K mg "read_number" Im Ck) (T:Tx K w.params mg wA):Good P w K mg base "read_number" 1 Ck V2:=by
 refine C.good M5 (λvs H Q E h=>?_) (λf cdv A outer s H vs Q E hr h=>?_)
 ·obtain⟨n,rfl,_⟩:=h;rfl
 obtain⟨n,rfl,hn,q⟩:=h;refine⟨_,(Ad (Bg (PW.pt (DR (Cw (NT G7 G7 Ac (Ax Dg rfl T.len Cy (Aa (pv 0) Ab)) Ac)) (DQ (Cw (Ci (Ax (LK rfl) rfl T.all Px (Aa (G3 (N':=xa) rfl (CZ.plain rfl (by trivial) (by trivial) (by trivial)) (O8 (pv 0)) (λ_ _ _ _=>(Az (i:=0) (show List.Nodup (xa:YF) by trivial) rfl (Or.inl rfl))) (λ_ _ _ _=>Ii) (λ_ _ _ _=>(Dy Kr (pv 0) (Hj rfl T.FIGURES) (by with_unfolding_all rfl)))) Ab))))))) (Ah (Ak Wm)) Ay)
 (Ah (Ak (Dr Uy rfl T.int LQ (Aa (pv 0) Ab))))),?_⟩
 show let R0:TS:=_;Al _ R0 _ _ _;intro R0;obtain⟨na,n1,n2,_⟩:=Ql n hn;have ls:(S (num n)).length<=sizeLine:=szb (by rw[Ai];omega);refine⟨_,rq,_,rq,ls,_,_,rq,rq,_,rq,?_⟩;rw[Ai,QbN (show (1:Int)<=((num n).length:Nat) by omega)];refine Bp ⟨_,_,rq,rq,_,rq,?_⟩;rw[QbN (show (((num n).length:Nat):Int)<=2 by omega)];refine Bs ⟨_,rq,_,rq,λl hl=>?_⟩;refine LC (z:=S (num n)) (λi U HH=>∃u,U=[u]/\HH l=some (.lst ((((num n).take i).map IK).map V.bl))/\Same H HH) ⟨_,rq,Ae,Ag hl _⟩ (λi c U HH hc h=>?_) (fun U HH h=>?_)
 ·obtain⟨u,rfl,e1,e2⟩:=h;have hcl:(S (num n)).cps.toList[i]?=some c:=by rw[Qay];exact hc
  have hcl:(num n)[i]?=some c:=hcl;have hi:=(Qaj.mp hcl).1;refine jH (Bp ⟨_,rq,_,_,rq,rq,_,e1,Ca (by simp;omega),_,rq,?_,e2.Fj Aw.upd hl⟩);rw[Ae,Qcm hcl,Qbx,Qbx];rfl
 obtain⟨u,rfl,e1,s1⟩:=h;have sz:(S (num n)).cps.size=(num n).length:=(Ai _);rw[sz,Qbq] at e1;refine⟨l,_,rq,SqL.of e1,_,rq,?_⟩;rw[all_map,na];exact Bs ⟨_,rq,_,_,rq,nY hn,by rw[Ai];omega,q _ s1⟩
theorem Wr (C:Code K mg "read_leaf" JV DP) (T:Tx K w.params mg wA) (CJ:Good P w K mg base "take_word" 1 Dq Nu) (Dn:Good P w K mg base "take_words" 2 Df Vm) (Bu:Good P w K mg base "read_number" 1 Ck V2):Good P w K mg base "read_leaf" 3 DP gP:=by
 refine C.good Dv (λvs H Q E h=>?_) (λf cdv A outer s H vs Q E hr h=>?_)
 ·obtain⟨c,r,rfl,_⟩:=h;rfl
 obtain⟨c,r,rfl,lf,ok,sr,l9,q⟩:=h;refine⟨_,(@Ad _ _ _ _ _ (CV (Am CJ hr (Aa (pv 0) Ab)) (Di rfl (Bd (Az (i:=1) Dv.nd rfl (Or.inl rfl)) (Bd (Az (i:=2) Dv.nd rfl (Or.inl rfl)) CN))))
 (@Ad _ _ _ _ _ (CV (Am Dn hr (Aa (pv 2) (Aa (Uk (K:=K) rfl rfl (Hj rfl T.WORDS_BEHIND) (pv 1) (Hj rfl T.WORDS_BEHIND_NUMBER) ⟨rq,rq,rq,rq⟩) Ab))) (Di rfl (Bd (Az (i:=3) Dv.nd rfl (Or.inl rfl)) (Bd (Az (i:=2) Dv.nd rfl (Or.inl rfl)) CN))))
 (@Ad _ _ _ _ _ (Bg (Av BK (pv 1) Af (Bc _)) (@Ah _ _ _ (@Ak _ _ _ _ (Bl (Aa (Bl (Aa Af (Aa (Am Bu hr (Aa (@Ba _ _ _ _ _ _ _ Br (pv 3) Ac (λ_ _=>rfl)) Ab)) Ab))) (Aa (pv 2) Ab))))) Ay)
 (@Ad _ _ _ _ _ (Bg (Av BK (pv 1) Af (Bc _)) (@Ah _ _ _ (@Ak _ _ _ _ (Bl (Aa (Bl (Aa Af (Aa (@Ba _ _ _ _ _ _ _ Br (pv 3) Ac (λ_ _=>rfl)) Ab))) (Aa (pv 2) Ab))))) Ay)
 (@Ad _ _ _ _ _ (Bg (Av BK (pv 1) Af (Bc _)) (@Ah _ _ _ (@Ak _ _ _ _ (Bl (Aa (Bl (Aa Af (Aa (Am Bu hr (Aa (@Ba _ _ _ _ _ _ _ Br (pv 3) Ac (λ_ _=>rfl)) Ab)) (Aa (Am Bu hr (Aa (@Ba _ _ _ _ _ _ _ Br (pv 3) Ac (λ_ _=>rfl)) Ab)) Ab)))) (Aa (pv 2) Ab))))) Ay)
 (@Ah _ _ _ (@Ak _ _ _ _ (Bl (Aa (Bl (Aa Af (Aa (Am Bu hr (Aa (pv 1) Ab)) (Aa (@Ba _ _ _ _ _ _ _ Br (pv 3) Ac (λ_ _=>rfl)) Ab)))) (Aa (pv 2) Ab)))))))))),?_⟩
 show let R0:TS:=_;let R1:TS:=_;let R2:TS:=Al (BX _ R1 _) R0;let R3:TS:=_;let R4:TS:=Al (BX _ R3 _) R2;let R5:TS:=_;let R6:TS:=Al (BX _ R5 _) R4;let R7:TS:=Al _ R6;Al _ R7 _ _ _;intro R0 R1 R2 R3 R4 R5 R6 R7;obtain⟨f1,f2,f3,f4,f5,f6,f7,f8,f9⟩:=WL;obtain⟨i1,i2,i3,i4,i5,i6,i7,i8,i9,i10,i11,i12⟩:=WK;have go:∀(w0:List Nat) (ws:List (List Nat)),c.txt++r=w0++jw ws r->Free w0->(∀x∈ws,Free x)->(w0++jw ws r).length<=9000:=λw0 ws e _ _=>by rw[<-e];exact l9
 have two:∀{a b:List Nat},Free a->Free b->∀x∈[a,b],Free x:=λha hb x hx=>by
  simp only[QbP,Qbp,Qco] at hx;rcases hx with rfl | rfl
  ·exact ha
  ·exact hb
 cases c with
 | off n z=>
  have hn:n < 100:=by have:=ok.2.1;omega
  have e:Cd.txt (.off n z)++r=num n++jw [L "of",L z] r:=by
   show (num n++(L " of "++L z))++r=num n++(32::(L "of"++(32::(L z++r))));rw[i1];simp[QaZ]
  have l9':=go _ _ e (JH hn) (two f1 (Tn ok.2.2.2.2));refine⟨_,rq,num n,jw [L "of",L z] r,congrArg (λl=>[V.str (S l)]) e,JH hn,Nj sr,l9',λp H1 hp s1=>⟨p,_,rq,SqT.of hp,rq,_,_,rq,_,_,rq,rq,?_⟩⟩;refine⟨_,rq,wA,rq,T.dw,_,rq,S (num n),none,.int 2,rq,T.dn n ok.1 ok.2.1,.inl ⟨rq,rq⟩,[L "of",L z],r,rq,two f1 (Tn ok.2.2.2.2),sr,by rw[QaM] at l9';omega,by show 2<=9;decide,λp2 l H2 hp2 hl2 s2=>⟨p2,_,rq,SqT.of hp2,rq,_,_,rq,_,_,rq,rq,?_⟩⟩;refine⟨_,rq,rq,_,rq,ifS (λz=>absurd z (Wv hn (by trivial))) (λ_=>?_)⟩;refine⟨_,rq,rq,_,rq,ifS (λz=>absurd z (Wv hn (by trivial))) (λ_=>?_)⟩;refine⟨_,rq,rq,_,rq,ifS (λz=>absurd z (Wv hn (by trivial))) (λ_=>?_)⟩;refine⟨_,rq,n,rq,hn,λH3 s3=>⟨_,rq,l,_,_,_,rq,rq,SqL.of (s3 _ _ hl2),Aj (j:=1) rfl,Ao (by show 3<=1000;decide),λt ht=>?_⟩⟩;have s4:=Ag ht (.tup [.str "of",.int n,.str (S (L z))]);have c4:upd H3 t (.tup [.str "of",.int n,.str (S (L z))]) t=some (.tup [.str "of",.int n,.str (S (L z))]):=Ae;generalize upd H3 t (.tup [.str "of",.int n,.str (S (L z))])=H4 at *;refine⟨_,rq,Ao (by show 2<=1000;decide),λp5 hp5=>?_⟩;have s5:=Ag hp5 (.tup [.ref t,.str (S r)]);exact q p5 t _ Ae (.tup (s5 _ _ c4) (.cons (.str _) (.cons (.int _) (.cons (.str _) .nil)))) (s1.trans (s2.trans (s3.trans (s4.trans s5))))
 | term z=>
  have e:Cd.txt (.term z)++r=L "term"++jw [L z] r:=by
   show (L "term "++L z)++r=L "term"++(32::(L z++r));rw[i2];simp[QaZ]
  have fz:∀x∈[L z],Free x:=λx hx=>by rw[QaO.mp hx];exact Tn ok.2.2
  have l9':=go _ _ e f5 fz;obtain⟨tk,dt⟩:=T.dt;refine⟨_,rq,L "term",jw [L z] r,congrArg (λl=>[V.str (S l)]) e,f5,Nj sr,l9',λp H1 hp s1=>⟨p,_,rq,SqT.of hp,rq,_,_,rq,_,_,rq,rq,?_⟩⟩;refine⟨_,rq,wA,rq,T.dw,_,rq,"term",_,.int 1,rq,dt,.inr ⟨_,rq,_,rq⟩,[L z],r,rq,fz,sr,by rw[QaM] at l9';omega,by show 1<=9;decide,λp2 l H2 hp2 hl2 s2=>⟨p2,_,rq,SqT.of hp2,rq,_,_,rq,_,_,rq,rq,?_⟩⟩;refine⟨_,rq,rq,_,rq,ifS (λz=>absurd z (by trivial)) (λ_=>?_)⟩;refine⟨_,rq,rq,_,rq,ifS (λ_=>?_) (λz=>absurd rfl z)⟩;refine⟨_,rq,l,_,_,_,rq,rq,SqL.of hl2,Aj (j:=0) rfl,Ao (by show 2<=1000;decide),λt ht=>?_⟩;have s4:=Ag ht (.tup [.str "term",.str (S (L z))]);have c4:upd H2 t (.tup [.str "term",.str (S (L z))]) t=some (.tup [.str "term",.str (S (L z))]):=Ae;generalize upd H2 t (.tup [.str "term",.str (S (L z))])=H4 at *;refine⟨_,rq,Ao (by show 2<=1000;decide),λp5 hp5=>?_⟩;have s5:=Ag hp5 (.tup [.ref t,.str (S r)]);exact q p5 t _ Ae (.tup (s5 _ _ c4) (.cons (.str _) (.cons (.str _) .nil))) (s1.trans (s2.trans (s4.trans s5)))
 | key k=>
  have hk:k < 100:=by have:k<=9:=ok;omega
  have e:Cd.txt (.key k)++r=L "key"++jw [num k] r:=by
   show (L "key "++num k)++r=L "key"++(32::(num k++r));rw[i3];simp[QaZ]
  have fz:∀x∈[num k],Free x:=λx hx=>by rw[QaO.mp hx];exact JH hk
  have l9':=go _ _ e f4 fz;obtain⟨tk,dt⟩:=T.dk;refine⟨_,rq,L "key",jw [num k] r,congrArg (λl=>[V.str (S l)]) e,f4,Nj sr,l9',λp H1 hp s1=>⟨p,_,rq,SqT.of hp,rq,_,_,rq,_,_,rq,rq,?_⟩⟩;refine⟨_,rq,wA,rq,T.dw,_,rq,"key",_,.int 1,rq,dt,.inr ⟨_,rq,_,rq⟩,[num k],r,rq,fz,sr,by rw[QaM] at l9';omega,by show 1<=9;decide,λp2 l H2 hp2 hl2 s2=>⟨p2,_,rq,SqT.of hp2,rq,_,_,rq,_,_,rq,rq,?_⟩⟩;refine⟨_,rq,rq,_,rq,ifS (λ_=>?_) (λz=>absurd rfl z)⟩;refine⟨_,rq,l,_,_,_,rq,rq,SqL.of hl2,Aj (j:=0) rfl,k,rq,hk,λH3 s3=>⟨Ao (by show 2<=1000;decide),λt ht=>?_⟩⟩;have s4:=Ag ht (.tup [.str "key",.int k]);have c4:upd H3 t (.tup [.str "key",.int k]) t=some (.tup [.str "key",.int k]):=Ae;generalize upd H3 t (.tup [.str "key",.int k])=H4 at *;refine⟨_,rq,Ao (by show 2<=1000;decide),λp5 hp5=>?_⟩;have s5:=Ag hp5 (.tup [.ref t,.str (S r)]);exact q p5 t _ Ae (.tup (s5 _ _ c4) (.cons (.str _) (.cons (.int _) .nil))) (s1.trans (s2.trans (s3.trans (s4.trans s5))))
 | hours a b=>
  have hab:a<=23/\b<=23:=ok;have ha:a < 100:=by omega
  have hb:b < 100:=by omega
  have e:Cd.txt (.hours a b)++r=L "hours"++jw [num a,L "to",num b] r:=by
   show (L "hours "++(num a++(L " to "++num b)))++r=L "hours"++(32::(num a++(32::(L "to"++(32::(num b++r))))));rw[i4,i5];simp[QaZ]
  have fz:∀x∈[num a,L "to",num b],Free x:=λx hx=>by
   simp only[QbP,Qbp,Qco] at hx;rcases hx with rfl | rfl | rfl
   ·exact JH ha
   ·exact f2
   ·exact JH hb
  have l9':=go _ _ e f6 fz;obtain⟨tk,dt⟩:=T.dh;refine⟨_,rq,L "hours",jw [num a,L "to",num b] r,congrArg (λl=>[V.str (S l)]) e,f6,Nj sr,l9',λp H1 hp s1=>⟨p,_,rq,SqT.of hp,rq,_,_,rq,_,_,rq,rq,?_⟩⟩;refine⟨_,rq,wA,rq,T.dw,_,rq,"hours",_,.int 3,rq,dt,.inr ⟨_,rq,_,rq⟩,[num a,L "to",num b],r,rq,fz,sr,by rw[QaM] at l9';omega,by show 3<=9;decide,λp2 l H2 hp2 hl2 s2=>⟨p2,_,rq,SqT.of hp2,rq,_,_,rq,_,_,rq,rq,?_⟩⟩;refine⟨_,rq,rq,_,rq,ifS (λz=>absurd z (by trivial)) (λ_=>?_)⟩;refine⟨_,rq,rq,_,rq,ifS (λz=>absurd z (by trivial)) (λ_=>?_)⟩;refine⟨_,rq,rq,_,rq,ifS (λ_=>?_) (λz=>absurd rfl z)⟩;refine⟨_,rq,l,_,_,_,rq,rq,SqL.of hl2,Aj (j:=0) rfl,a,rq,ha,λH3 s3=>⟨_,rq,l,_,_,_,rq,rq,SqL.of (s3 _ _ hl2),Aj (j:=2) rfl,b,rq,hb,λH3' s3'=>⟨Ao (by show 3<=1000;decide),λt ht=>?_⟩⟩⟩;have s4:=Ag ht (.tup [.str "hours",.int a,.int b]);have c4:upd H3' t (.tup [.str "hours",.int a,.int b]) t=some (.tup [.str "hours",.int a,.int b]):=Ae;generalize upd H3' t (.tup [.str "hours",.int a,.int b])=H4 at *;refine⟨_,rq,Ao (by show 2<=1000;decide),λp5 hp5=>?_⟩;have s5:=Ag hp5 (.tup [.ref t,.str (S r)]);exact q p5 t _ Ae (.tup (s5 _ _ c4) (.cons (.str _) (.cons (.int _) (.cons (.int _) .nil)))) (s1.trans (s2.trans (s3.trans (s3'.trans (s4.trans s5)))))
 | _=>exact lf.elim
end
abbrev GX:Stmt:=top 41
abbrev DN:YF:=["text","deep"]
theorem BP:Bo ["text","deep","one","rest","word","other","words"] DN (Ar GX):=by ac_rfl
abbrev Ed:Stmt:=top 42
abbrev Bv:YF:=["text","deep"]
theorem Dh:Bo ["text","deep","inner","rest"] Bv (Ar Ed):=by ac_rfl
def Vv:Cd->Prop
 | .both _ _=>True
 | .any _ _=>True
 | .thn _ _ _=>True
 | _=>False
def Cd.body:Cd->List Nat
 | .both c d=>c.txt++(L " and "++(d.txt++L ")"))
 | .any c d=>c.txt++(L " or "++(d.txt++L ")"))
 | .thn c d n=>c.txt++(L " then "++(d.txt++(L " within "++(num n++L ")"))))
 | _=>[]
theorem Qs {c:Cd} (h:Vv c):c.txt=40::c.body:=by
 have e:L "("=[40]:=by trivial
 cases c with
 | both c d=>show L "("++_=_;rw[e];rfl
 | any c d=>show L "("++_=_;rw[e];rfl
 | thn c d n=>show L "("++_=_;rw[e];rfl
 | _=>exact h.elim
def V3 (D:Nat):Sp:=λvs H Q _=>∃(c:Cd) (r:List Nat) (d:Nat),vs=[.str (S (c.txt++r)),.int (d:Int)]/\c.ok/\c.deep<=d/\d<=D/\KR r/\(c.txt++r).length<=9000/\∀p t H',H' p=some (.tup [.ref t,.str (S r)])->Rep H' (.ref t) c.data->Same H H'->Q (.ref p) H'
def qy (D:Nat):Sp:=λvs H Q _=>∃(c:Cd) (r:List Nat) (d:Nat),vs=[.str (S (c.body++r)),.int (d:Int)]/\Vv c/\c.ok/\c.deep<=d+1/\d<=D/\(c.body++r).length<=9000/\∀p t H',H' p=some (.tup [.ref t,.str (S r)])->Rep H' (.ref t) c.data->Same H H'->Q (.ref p) H'
theorem slS {l:List Nat} (h:l.length<=9000):(S l).length<=sizeLine:=szb (by rw[Ai];omega)
section
variable {P:Program} {w:World} {K:YD} {mg:YB} {base:Heap} {wA:Addr}
theorem nH {D k:Nat} (hk:3<=k) (C:Code K mg "read_pair" GX DN) (T:Tx K w.params mg wA) (CJ:Good P w K mg base "take_word" 1 Dq Nu) (Dn:Good P w K mg base "take_words" 2 Df Vm) (Bu:Good P w K mg base "read_number" 1 Ck V2) (BW:Good P w K mg base "read_condition" k Bv (V3 D)):Good P w K mg base "read_pair" (k+1) DN (qy D):=by
 refine C.good BP (λvs H Q E h=>?_) (λf cdv A outer s H vs Q E hr h=>?_)
 ·obtain⟨c,r,d,rfl,_⟩:=h;rfl
 obtain⟨c,r,d,rfl,bi,ok,dp,dD,l9,q⟩:=h;have hk1:1<=k:=by omega
 have hk2:2<=k:=by omega
 refine⟨_,(@Ad _ _ _ _ _ (CV (Am (hk:=(Qcf _)) BW hr (Aa (pv 0) (Aa (pv 1) Ab))) (Di rfl (Bd (Az (i:=2) BP.nd rfl (Or.inl rfl)) (Bd (Az (i:=3) BP.nd rfl (Or.inl rfl)) CN))))
 (@Ad _ _ _ _ _ (CV (Am (hk:=hk1) CJ hr (Aa (Bq Ce (pv 3) (Bt Ac) Bx) Ab)) (Di rfl (Bd (Az (i:=4) BP.nd rfl (Or.inl rfl)) (Bd (Az (i:=3) BP.nd rfl (Or.inl rfl)) CN))))
 (@Ad _ _ _ _ _ (CV (Am (hk:=(Qcf _)) BW hr (Aa (Bq Ce (pv 3) (Bt Ac) Bx) (Aa (pv 1) Ab))) (Di rfl (Bd (Az (i:=5) BP.nd rfl (Or.inl rfl)) (Bd (Az (i:=3) BP.nd rfl (Or.inl rfl)) CN))))
 (@Ad _ _ _ _ _ (Bg (Av Jt (pv 4) Af (Bc _)) (@Ah _ _ _ (@Ak _ _ _ _ (Bl (Aa (Bl (Aa (pv 4) (Aa (pv 2) (Aa (pv 5) Ab)))) (Aa (Bq Ce (pv 3) (Bt Ac) Bx) Ab))))) Ay)
 (@Ad _ _ _ _ _ (CV (Am (hk:=hk2) Dn hr (Aa (pv 3) (Aa Ac Ab))) (Di rfl (Bd (Az (i:=6) BP.nd rfl (Or.inl rfl)) (Bd (Az (i:=3) BP.nd rfl (Or.inl rfl)) CN))))
 (@Ah _ _ _ (@Ak _ _ _ _ (Bl (Aa (Bl (Aa (pv 4) (Aa (pv 2) (Aa (pv 5) (Aa (Am (hk:=hk1) Bu hr (Aa (@Ba _ _ _ _ _ _ _ Br (pv 6) Ac (λ_ _=>rfl)) Ab)) Ab))))) (Aa (Bq Ce (pv 3) (Bt Ac) Bx) Ab)))))))))),?_⟩
 show let R0:TS:=_;let R1:TS:=Al _ R0;let R2:TS:=_;let R3:TS:=Al (BX _ R2 _) R1;let R4:TS:=Al _ R3;let R5:TS:=Al _ R4;Al _ R5 _ _ _;intro R0 R1 R2 R3 R4 R5;obtain⟨f1,f2,f3,f4,f5,f6,f7,f8,f9⟩:=WL;obtain⟨i1,i2,i3,i4,i5,i6,i7,i8,i9,i10,i11,i12⟩:=WK;cases c with
 | both a b=>
  have dp:max a.deep b.deep+1<=d+1:=dp;have da:a.deep<=d:=by omega
  have db:b.deep<=d:=by omega
  have e:Cd.body (.both a b)++r=a.txt++(32::(L "and"++(32::(b.txt++(41::r))))):=by
   show (a.txt++(L " and "++(b.txt++L ")")))++r=_;rw[i6,i11];simp[QaZ]
  rw[e] at l9;have ll:=l9;simp only[QaM,Qbl] at ll;refine⟨_,rq,_,rq,a,_,d,congrArg (λl=>[V.str (S l),V.int (d:Int)]) e,ok.1,da,dD,K6 _,l9,λp1 t1 H1 hp1 r1 s1=>⟨p1,_,rq,SqT.of hp1,rq,_,_,rq,_,_,rq,rq,?_⟩⟩;refine⟨_,rq,_,rq,_,rq,slS (by simp only[QaM,Qbl];omega),L "and",32::(b.txt++(41::r)),?_,f7,K6 _,by simp only[QaM,Qbl];omega,λp2 H2 hp2 s2=>⟨p2,_,rq,SqT.of hp2,rq,_,_,rq,_,_,rq,rq,?_⟩⟩
  ·show [V.str (Txt.slice (S (32::(L "and"++(32::(b.txt++(41::r)))))) (some 1) none)]=_;rw[Kw]
  refine⟨_,rq,_,rq,_,rq,slS (by simp only[QaM,Qbl];omega),_,rq,b,(41::r),d,?_,ok.2,db,dD,V0 _,by simp only[QaM,Qbl];omega,λp3 t3 H3 hp3 r3 s3=>⟨p3,_,rq,SqT.of hp3,rq,_,_,rq,_,_,rq,rq,?_⟩⟩
  ·show [V.str (Txt.slice (S (32::(b.txt++(41::r)))) (some 1) none),V.int (d:Int)]=_;rw[Kw]
  refine⟨_,rq,rq,_,rq,GJ (by trivial) ⟨_,rq,_,rq,_,rq,Ao (by show 3<=1000;decide),λt4 ht4=>?_⟩⟩;have s4:=Ag ht4 (.tup [.str (S (L "and")),.ref t1,.ref t3]);have c4:upd H3 t4 (.tup [.str (S (L "and")),.ref t1,.ref t3]) t4=some (.tup [.str (S (L "and")),.ref t1,.ref t3]):=Ae;generalize upd H3 t4 (.tup [.str (S (L "and")),.ref t1,.ref t3])=H4 at *;refine⟨_,rq,_,rq,_,rq,slS (by rw[Qbl];omega),Ao (by show 2<=1000;decide),λp5 hp5=>?_⟩;rw[Kw];have s5:=Ag hp5 (.tup [.ref t4,.str (S r)]);exact q p5 t4 _ Ae (.tup (s5 _ _ c4) (.cons (.str _) (.cons (Rep.same (s2.trans (s3.trans (s4.trans s5))) r1) (.cons (Rep.same (s4.trans s5) r3) .nil)))) (s1.trans (s2.trans (s3.trans (s4.trans s5))))
 | any a b=>
  have dp:max a.deep b.deep+1<=d+1:=dp;have da:a.deep<=d:=by omega
  have db:b.deep<=d:=by omega
  have e:Cd.body (.any a b)++r=a.txt++(32::(L "or"++(32::(b.txt++(41::r))))):=by
   show (a.txt++(L " or "++(b.txt++L ")")))++r=_;rw[i7,i11];simp[QaZ]
  rw[e] at l9;have ll:=l9;simp only[QaM,Qbl] at ll;refine⟨_,rq,_,rq,a,_,d,congrArg (λl=>[V.str (S l),V.int (d:Int)]) e,ok.1,da,dD,K6 _,l9,λp1 t1 H1 hp1 r1 s1=>⟨p1,_,rq,SqT.of hp1,rq,_,_,rq,_,_,rq,rq,?_⟩⟩;refine⟨_,rq,_,rq,_,rq,slS (by simp only[QaM,Qbl];omega),L "or",32::(b.txt++(41::r)),?_,f8,K6 _,by simp only[QaM,Qbl];omega,λp2 H2 hp2 s2=>⟨p2,_,rq,SqT.of hp2,rq,_,_,rq,_,_,rq,rq,?_⟩⟩
  ·show [V.str (Txt.slice (S (32::(L "or"++(32::(b.txt++(41::r)))))) (some 1) none)]=_;rw[Kw]
  refine⟨_,rq,_,rq,_,rq,slS (by simp only[QaM,Qbl];omega),_,rq,b,(41::r),d,?_,ok.2,db,dD,V0 _,by simp only[QaM,Qbl];omega,λp3 t3 H3 hp3 r3 s3=>⟨p3,_,rq,SqT.of hp3,rq,_,_,rq,_,_,rq,rq,?_⟩⟩
  ·show [V.str (Txt.slice (S (32::(b.txt++(41::r)))) (some 1) none),V.int (d:Int)]=_;rw[Kw]
  refine⟨_,rq,rq,_,rq,GJ (by trivial) ⟨_,rq,_,rq,_,rq,Ao (by show 3<=1000;decide),λt4 ht4=>?_⟩⟩;have s4:=Ag ht4 (.tup [.str (S (L "or")),.ref t1,.ref t3]);have c4:upd H3 t4 (.tup [.str (S (L "or")),.ref t1,.ref t3]) t4=some (.tup [.str (S (L "or")),.ref t1,.ref t3]):=Ae;generalize upd H3 t4 (.tup [.str (S (L "or")),.ref t1,.ref t3])=H4 at *;refine⟨_,rq,_,rq,_,rq,slS (by rw[Qbl];omega),Ao (by show 2<=1000;decide),λp5 hp5=>?_⟩;rw[Kw];have s5:=Ag hp5 (.tup [.ref t4,.str (S r)]);exact q p5 t4 _ Ae (.tup (s5 _ _ c4) (.cons (.str _) (.cons (Rep.same (s2.trans (s3.trans (s4.trans s5))) r1) (.cons (Rep.same (s4.trans s5) r3) .nil)))) (s1.trans (s2.trans (s3.trans (s4.trans s5))))
 | thn a b n=>
  have dp:max a.deep b.deep+1<=d+1:=dp;have da:a.deep<=d:=by omega
  have db:b.deep<=d:=by omega
  have e:Cd.body (.thn a b n)++r=a.txt++(32::(L "then"++(32::(b.txt++(32::(L "within"++(32::(num n++(41::r))))))))):=by
   show (a.txt++(L " then "++(b.txt++(L " within "++(num n++L ")")))))++r=_;rw[i8,i9,i11];simp[QaZ]
  rw[e] at l9;have ll:=l9;simp only[QaM,Qbl] at ll;refine⟨_,rq,_,rq,a,_,d,congrArg (λl=>[V.str (S l),V.int (d:Int)]) e,ok.1,da,dD,K6 _,l9,λp1 t1 H1 hp1 r1 s1=>⟨p1,_,rq,SqT.of hp1,rq,_,_,rq,_,_,rq,rq,?_⟩⟩;refine⟨_,rq,_,rq,_,rq,slS (by simp only[QaM,Qbl];omega),L "then",32::(b.txt++(32::(L "within"++(32::(num n++(41::r)))))),?_,f9,K6 _,by simp only[QaM,Qbl];omega,λp2 H2 hp2 s2=>⟨p2,_,rq,SqT.of hp2,rq,_,_,rq,_,_,rq,rq,?_⟩⟩
  ·show [V.str (Txt.slice (S (32::(L "then"++(32::(b.txt++(32::(L "within"++(32::(num n++(41::r)))))))))) (some 1) none)]=_;rw[Kw]
  refine⟨_,rq,_,rq,_,rq,slS (by simp only[QaM,Qbl];omega),_,rq,b,(32::(L "within"++(32::(num n++(41::r))))),d,?_,ok.2.1,db,dD,K6 _,by simp only[QaM,Qbl];omega,λp3 t3 H3 hp3 r3 s3=>⟨p3,_,rq,SqT.of hp3,rq,_,_,rq,_,_,rq,rq,?_⟩⟩
  ·show [V.str (Txt.slice (S (32::(b.txt++(32::(L "within"++(32::(num n++(41::r)))))))) (some 1) none),V.int (d:Int)]=_;rw[Kw]
  have hn:n < 100:=by have:=ok.2.2.2;omega
  refine⟨_,rq,rq,_,rq,CW (by trivial) ?_⟩;have two:∀x∈[L "within",num n],Free x:=λx hx=>by
   simp only[QbP,Qbp,Qco] at hx;rcases hx with rfl | rfl
   ·exact f3
   ·exact JH hn
  refine⟨_,rq,[L "within",num n],41::r,rq,two,V0 _,by show (32::(L "within"++(32::(num n++(41::r))))).length<=9000;simp only[QaM,Qbl];omega,by show 2<=9;decide,λp6 l6 H6 hp6 hl6 s6=>⟨p6,_,rq,SqT.of hp6,rq,_,_,rq,_,_,rq,rq,?_⟩⟩;refine⟨_,rq,_,rq,_,rq,_,rq,l6,_,_,_,rq,rq,SqL.of hl6,Aj (j:=1) rfl,n,rq,hn,λH7 s7=>⟨Ao (by show 4<=1000;decide),λt4 ht4=>?_⟩⟩;have s4:=Ag ht4 (.tup [.str (S (L "then")),.ref t1,.ref t3,.int n]);have c4:upd H7 t4 (.tup [.str (S (L "then")),.ref t1,.ref t3,.int n]) t4=some (.tup [.str (S (L "then")),.ref t1,.ref t3,.int n]):=Ae;generalize upd H7 t4 (.tup [.str (S (L "then")),.ref t1,.ref t3,.int n])=H4 at *;refine⟨_,rq,_,rq,_,rq,slS (by rw[Qbl];omega),Ao (by show 2<=1000;decide),λp5 hp5=>?_⟩;rw[Kw];have s5:=Ag hp5 (.tup [.ref t4,.str (S r)]);have s35:=s6.trans (s7.trans (s4.trans s5));exact q p5 t4 _ Ae (.tup (s5 _ _ c4) (.cons (.str _) (.cons (Rep.same (s2.trans (s3.trans s35)) r1) (.cons (Rep.same s35 r3) (.cons (.int _) .nil))))) (s1.trans (s2.trans (s3.trans s35)))
 | _=>exact bi.elim
theorem ZX {D k:Nat} (hk:3<=k) (C:Code K mg "read_condition" Ed Bv) (T:Tx K w.params mg wA) (Gf:Good P w K mg base "read_leaf" 3 DP gP) (BW:Good P w K mg base "read_condition" k Bv (V3 D)) (Mw:Good P w K mg base "read_pair" (k+1) DN (qy D)):Good P w K mg base "read_condition" (k+2) Bv (V3 (D+1)):=by
 refine C.good Dh (λvs H Q E h=>?_) (λf cdv A outer s H vs Q E hr h=>?_)
 ·obtain⟨c,r,d,rfl,_⟩:=h;rfl
 obtain⟨c,r,d,rfl,ok,dp,dD,sr,l9,q⟩:=h;have hk3:3<=k+1:=by omega
 have hk4:k<=k+1:=by omega
 refine⟨_,(@Ad _ _ _ _ _ (Bg (Av BK (pv 1) Ac (Bc _)) (@Ah _ _ _ Q0) Ay)
 (@Ad _ _ _ _ _ (Bg (Ci (Dz Qau Qac Qad Io (pv 0) (Aa Af Ab))) (@Ah _ _ _ (@Ak _ _ _ _ (Am (hk:=(Qcf _)) Mw hr (Aa (Bq Ce (pv 0) (Bt Ac) Bx) (Aa (@Aq _ _ _ _ _ _ _ _ Ga (pv 1) Ac) Ab))))) Ay)
 (@Ad _ _ _ _ _ (Bg (Ci (Dz Qau Qac Qad Io (pv 0) (Aa Af Ab))) (@Ad _ _ _ _ _ (CV (Am (hk:=hk4) BW hr (Aa (Bq Ce (pv 0) (Bt Ac) Bx) (Aa (@Aq _ _ _ _ _ _ _ _ Ga (pv 1) Ac) Ab))) (Di rfl (Bd (Az (i:=2) Dh.nd rfl (Or.inl rfl)) (Bd (Az (i:=3) Dh.nd rfl (Or.inl rfl)) CN))))
 (@Ah _ _ _ (@Ak _ _ _ _ (Bl (Aa (Bl (Aa Af (Aa (pv 2) Ab))) (Aa (pv 3) Ab)))))) Ay)
 (@Ah _ _ _ (@Ak _ _ _ _ (Am (hk:=hk3) Gf hr (Aa (pv 0) Ab))))))),?_⟩
 show let R0:TS:=_;let R1:TS:=_;let R2:TS:=Al _ R1;let R3:TS:=Al (BX _ R2 _) R0;let R4:TS:=_;let R5:TS:=Al (BX _ R4 _) R3;Al _ R5 _ _ _;intro R0 R1 R2 R3 R4 R5;have d1:=c.KQ;obtain⟨i1,i2,i3,i4,i5,i6,i7,i8,i9,i10,i11,i12⟩:=WK;refine⟨_,rq,rq,_,rq,ifN (λe=>by omega) (λ_=>?_)⟩;have e1:((d:Int) - 1)=((d - 1:Nat):Int):=by omega
 have ls:=slS l9;have pair:Vv c->∀(l:List Nat),l=c.txt++r->l=40::(c.body++r):=λbi l e=>by rw[e,Qs bi];rfl
 by_cases bi:Vv c
 ·have e:=pair bi _ rfl;refine⟨_,rq,rq,_,_,rq,rq,_,rq,GJ (V1 (r:=c.body++r) (by rw[e,i10];rfl)) ?_⟩;refine⟨_,rq,_,rq,_,rq,ls,_,rq,_,_,rq,rq,c,r,d - 1,?_,bi,ok,by omega,by omega,by rw[e,Qbl] at l9;omega,q⟩;show [V.str (Txt.slice (S (c.txt++r)) (some 1) none),V.int ((d:Int) - 1)]=_;rw[e,Kw,e1]
 cases c with
 | off n z=>
  obtain⟨c0,t0,e,n1,n2⟩ : ∃c0 t0,Cd.txt (.off n z)++r=c0::t0/\c0≠40/\c0≠110:=by
   have hn:n < 100:=by have:=ok.2.1;omega
   have h1:=(Ql n hn).2.1;have key:∀n,n < 100->∀c∈num n,c≠40/\c≠110:=by trivial
   cases e:num n with
   | nil=>rw[e] at h1;exact absurd h1 (by decide)
   | cons c0 t0=>
    have:=key n hn c0 (by rw[e];exact QaN ..);exact⟨c0,t0++((L " of "++L z)++r),by show (num n++(L " of "++L z))++r=_;rw[e];simp[QaZ],this.1,this.2⟩
  refine⟨_,rq,rq,_,_,rq,rq,_,rq,CW (by rw[e];exact Gz i10 n1) ⟨_,rq,rq,_,_,rq,rq,_,rq,CW (by rw[e];exact Gz i12 n2) ⟨_,rq,.off n z,r,rq,True.intro,ok,sr,l9,q⟩⟩⟩
 | term z=>
  obtain⟨c0,t0,e,n1,n2⟩ : ∃c0 t0,Cd.txt (.term z)++r=c0::t0/\c0≠40/\c0≠110:=⟨116,_,by show (L "term "++L z)++r=_;rw[show L "term "=[116,101,114,109,32] by trivial];rfl,by decide,by decide⟩;refine⟨_,rq,rq,_,_,rq,rq,_,rq,CW (by rw[e];exact Gz i10 n1) ⟨_,rq,rq,_,_,rq,rq,_,rq,CW (by rw[e];exact Gz i12 n2) ⟨_,rq,.term z,r,rq,True.intro,ok,sr,l9,q⟩⟩⟩
 | key k=>
  obtain⟨c0,t0,e,n1,n2⟩ : ∃c0 t0,Cd.txt (.key k)++r=c0::t0/\c0≠40/\c0≠110:=⟨107,_,by show (L "key "++num k)++r=_;rw[show L "key "=[107,101,121,32] by trivial];rfl,by decide,by decide⟩;refine⟨_,rq,rq,_,_,rq,rq,_,rq,CW (by rw[e];exact Gz i10 n1) ⟨_,rq,rq,_,_,rq,rq,_,rq,CW (by rw[e];exact Gz i12 n2) ⟨_,rq,.key k,r,rq,True.intro,ok,sr,l9,q⟩⟩⟩
 | hours a b=>
  obtain⟨c0,t0,e,n1,n2⟩ : ∃c0 t0,Cd.txt (.hours a b)++r=c0::t0/\c0≠40/\c0≠110:=⟨104,_,by show (L "hours "++(num a++(L " to "++num b)))++r=_;rw[show L "hours "=[104,111,117,114,115,32] by trivial];rfl,by decide,by decide⟩;refine⟨_,rq,rq,_,_,rq,rq,_,rq,CW (by rw[e];exact Gz i10 n1) ⟨_,rq,rq,_,_,rq,rq,_,rq,CW (by rw[e];exact Gz i12 n2) ⟨_,rq,.hours a b,r,rq,True.intro,ok,sr,l9,q⟩⟩⟩
 | neg c=>
  have e:Cd.txt (.neg c)++r=110::111::116::32::(c.txt++r):=by show (L "not "++c.txt)++r=_;rw[i12];rfl
  have dp:c.deep+1<=d:=dp;have l9':=l9;rw[e] at l9';simp only[Qbl] at l9';refine⟨_,rq,rq,_,_,rq,rq,_,rq,CW (by rw[e];exact Gz i10 (by decide)) ⟨_,rq,rq,_,_,rq,rq,_,rq,GJ (V1 (r:=c.txt++r) (by rw[e,i12];rfl)) ?_⟩⟩;refine⟨_,rq,_,rq,_,rq,ls,_,rq,_,_,rq,rq,c,r,d - 1,?_,ok,by omega,by omega,sr,by omega,λp1 t1 H1 hp1 r1 s1=>⟨p1,_,rq,SqT.of hp1,rq,_,_,rq,_,_,rq,rq,?_⟩⟩
  ·show [V.str (Txt.slice (S (Cd.txt (.neg c)++r)) (some 4) none),V.int ((d:Int) - 1)]=_;have e4:=M4 (l:=110::111::116::32::(c.txt++r)) (k:=4) (by simp only[Qbl];omega);have e4:Txt.slice (S (110::111::116::32::(c.txt++r))) (some 4) none=S (c.txt++r):=e4;rw[e,e4,e1]
  refine⟨_,rq,Ao (by show 2<=1000;decide),λt4 ht4=>?_⟩;have s4:=Ag ht4 (.tup [.str "not",.ref t1]);have c4:upd H1 t4 (.tup [.str "not",.ref t1]) t4=some (.tup [.str "not",.ref t1]):=Ae;generalize upd H1 t4 (.tup [.str "not",.ref t1])=H4 at *;refine⟨_,rq,Ao (by show 2<=1000;decide),λp5 hp5=>?_⟩;have s5:=Ag hp5 (.tup [.ref t4,.str (S r)]);exact q p5 t4 _ Ae (.tup (s5 _ _ c4) (.cons (.str _) (.cons (Rep.same (s4.trans s5) r1) .nil))) (s1.trans (s4.trans s5))
 | both a b=>exact absurd True.intro bi
 | any a b=>exact absurd True.intro bi
 | thn a b n=>exact absurd True.intro bi
theorem uU (C:Code K mg "read_condition" Ed Bv) (C':Code K mg "read_pair" GX DN) (T:Tx K w.params mg wA) (CJ:Good P w K mg base "take_word" 1 Dq Nu) (Dn:Good P w K mg base "take_words" 2 Df Vm) (Bu:Good P w K mg base "read_number" 1 Ck V2) (Gf:Good P w K mg base "read_leaf" 3 DP gP):∀D,Good P w K mg base "read_condition" (4+2*D) Bv (V3 D):=by
 intro D
 induction D with
 | zero=>
  refine C.good Dh (λvs H Q E h=>?_) (λf cdv A outer s H vs Q E hr h=>?_)
  ·obtain⟨c,r,d,_,_,h1,h2,_⟩:=h;have:=c.KQ;omega
  ·obtain⟨c,r,d,_,_,h1,h2,_⟩:=h;have:=c.KQ;omega
 | succ D ih=>
  exact ZX (show 3<=4+2*D by omega) C T Gf ih (nH (show 3<=4+2*D by omega) C' T CJ Dn Bu ih)
end
abbrev KJ:Stmt:=top 43
abbrev FZ:YF:=["row"]
theorem BZ:Bo ["row","head","sign","body","word","blank","call","condition","rest"] FZ (Ar KJ):=by ac_rfl
abbrev Jp:Stmt:=top 44
abbrev Em:YF:=Jr
theorem Il:Bo ["thing","rules"] Em (Ar Jp):=by ac_rfl
theorem Te (H:Hp):Same (onl H) H:=λa o e=>by
 obtain⟨xs,rfl,h⟩:=YQ e;exact h
theorem tG:∀{c:Cd} {H:Hp} {v:V},Rep H v c.data->Rep (onl H) v c.data:=by
 intro c
 induction c with
 | off n z=>intro H v h;cases h with
  | tup ht rs=>cases rs with
   | cons r1 rs=>cases rs with
    | cons r2 rs=>cases rs with
     | cons r3 rs=>cases rs;cases r1;cases r2;cases r3;exact .tup (Cr ht) (.cons (.str _) (.cons (.int _) (.cons (.str _) .nil)))
 | term z=>intro H v h;cases h with
  | tup ht rs=>cases rs with
   | cons r1 rs=>cases rs with
    | cons r2 rs=>cases rs;cases r1;cases r2;exact .tup (Cr ht) (.cons (.str _) (.cons (.str _) .nil))
 | key z=>intro H v h;cases h with
  | tup ht rs=>cases rs with
   | cons r1 rs=>cases rs with
    | cons r2 rs=>cases rs;cases r1;cases r2;exact .tup (Cr ht) (.cons (.str _) (.cons (.int _) .nil))
 | hours a b=>intro H v h;cases h with
  | tup ht rs=>cases rs with
   | cons r1 rs=>cases rs with
    | cons r2 rs=>cases rs with
     | cons r3 rs=>cases rs;cases r1;cases r2;cases r3;exact .tup (Cr ht) (.cons (.str _) (.cons (.int _) (.cons (.int _) .nil)))
 | neg c ih=>intro H v h;cases h with
  | tup ht rs=>cases rs with
   | cons r1 rs=>cases rs with
    | cons r2 rs=>cases rs;cases r1;exact .tup (Cr ht) (.cons (.str _) (.cons (ih r2) .nil))
 | both c d ih1 ih2=>intro H v h;cases h with
  | tup ht rs=>cases rs with
   | cons r1 rs=>cases rs with
    | cons r2 rs=>cases rs with
     | cons r3 rs=>cases rs;cases r1;exact .tup (Cr ht) (.cons (.str _) (.cons (ih1 r2) (.cons (ih2 r3) .nil)))
 | any c d ih1 ih2=>intro H v h;cases h with
  | tup ht rs=>cases rs with
   | cons r1 rs=>cases rs with
    | cons r2 rs=>cases rs with
     | cons r3 rs=>cases rs;cases r1;exact .tup (Cr ht) (.cons (.str _) (.cons (ih1 r2) (.cons (ih2 r3) .nil)))
 | thn c d n ih1 ih2=>intro H v h;cases h with
  | tup ht rs=>cases rs with
   | cons r1 rs=>cases rs with
    | cons r2 rs=>cases rs with
     | cons r3 rs=>cases rs with
      | cons r4 rs=>cases rs;cases r1;cases r4;exact .tup (Cr ht) (.cons (.str _) (.cons (ih1 r2) (.cons (ih2 r3) (.cons (.int _) .nil))))
def Ru.kw:Ru->Str
 | .term _ _=>"term"
 | .sound _ _=>"sound"
def Ru.cs:Ru->List Nat
 | .term z _=>L z
 | .sound n _=>num n
def Ru.yv:Ru->V
 | .term z _=>.str z
 | .sound n _=>.int n
def Ru.ys:Ru->Str
 | .term z _=>z
 | .sound n _=>Str.ofString (toString (n:Int))
theorem KZ (u:Ru):u.head=L u.kw++(L " "++u.cs):=by
 obtain⟨k1,k2,k3,k4,k5⟩:=kw1;cases u with
 | term z c=>show L "term "++L z=_;rw[<-k1,QaZ];rfl
 | sound n c=>show L "sound "++num n=_;rw[<-k5,QaZ];rfl
theorem Hi {u:Ru} (h:u.ok):u.c.ok/\u.c.deep<=6/\u.c.many<=20:=by cases u <;> exact h.2
theorem lQ {u:Ru} (h:u.ok):mD u.yv u.ys/\L u.ys=u.cs:=by
 cases u with
 | term z c=>exact⟨.inl rfl,rfl⟩
 | sound n c=>have h1:1<=n/\n<=99:=h.1;exact⟨.inr ⟨_,rfl,FJ (by omega),rfl⟩,rfl⟩
theorem Wf {u:Ru} {H:Hp} {v:V} (h:Rep H v u.data):∃t x,v=.ref t/\H t=some (.tup [.str u.kw,u.yv,x])/\Rep H x u.c.data:=by
 cases u with
 | term z c=>cases h with
  | tup ht rs=>cases rs with
   | cons r1 rs=>cases rs with
    | cons r2 rs=>cases rs with
     | cons r3 rs=>cases rs;cases r1;cases r2;exact⟨_,_,rfl,ht,r3⟩
 | sound n c=>cases h with
  | tup ht rs=>cases rs with
   | cons r1 rs=>cases rs with
    | cons r2 rs=>cases rs with
     | cons r3 rs=>cases rs;cases r1;cases r2;exact⟨_,_,rfl,ht,r3⟩
theorem Vq {u:Ru} {H:Hp} {t:Addr} {x:V} (h:H t=some (.tup [.str u.kw,u.yv,x])) (r:Rep H x u.c.data):Rep H (.ref t) u.data:=by
 cases u with
 | term z c=>exact .tup h (.cons (.str _) (.cons (.str _) (.cons r .nil)))
 | sound n c=>exact .tup h (.cons (.str _) (.cons (.int _) (.cons r .nil)))
theorem qK {u:Ru} {H:Hp} {v:V} (h:Rep H v u.data):Rep (onl H) v u.data:=by
 obtain⟨t,x,rfl,ht,r⟩:=Wf h;exact Vq (Cr ht) (tG r)
theorem Xd {u:Ru} (h:u.ok):u.cs.length<=8/\u.kw.length<=5:=by
 cases u with
 | term z c=>have:=h.1.2.1;rw[Ip] at this;exact⟨this,by show (Str.ofString "term").length<=5;decide +kernel⟩
 | sound n c=>have h1:1<=n/\n<=99:=h.1;have:=Ks (n:=n) (by omega);exact⟨by show (num n).length<=8;omega,by show (Str.ofString "sound").length<=5;decide +kernel⟩
theorem N7:(L " = ").length=3/\(L " ").length=1/\(L "\n")=[10]:=by trivial
theorem Yt {u:Ru} (h:u.ok):u.row.length<=420:=by
 obtain⟨l1,l2,l3⟩:=N7;have a:=Xd h;have b:=Hi h;have c:=Ds b.1;rw[Ip] at a;show (u.head++(L " = "++u.c.txt)).length<=420;rw[KZ];simp only[QaM,l1,l2];omega
def okc (c:Nat):Bool:=decide (c≠10)
def okh (c:Nat):Bool:=decide (c≠10/\c≠61/\c≠32)
theorem Qk {n:Nat} (h:n < 100):(num n).all okh=true:=by
 have key:∀n,n < 100->(num n).all okh=true:=by trivial
 exact key n h
theorem iM {z:Str} (h:okS z):(L z).all okh=true:=by
 have key:abc.cps.toList.all okh=true:=by trivial
 exact Qbm.mpr λc hc=>Qbm.mp key c (h c hc)
theorem h_c {l:List Nat} (h:l.all okh=true):l.all okc=true:=Qbm.mpr λc hc=>QbN (Qba (Qbm.mp h c hc)).1
theorem aB:(L " of ").all okc=true/\(L "term ").all okc=true/\(L "key ").all okc=true/\(L "hours ").all okc=true/\(L " to ").all okc=true/\(L "not ").all okc=true/\(L "(").all okc=true/\(L " and ").all okc=true/\(L ")").all okc=true/\(L " or ").all okc=true/\(L " then ").all okc=true/\(L " within ").all okc=true/\(L " = ").all okc=true/\(L " ").all okc=true/\(L "term").all okh=true/\(L "sound").all okh=true:=by trivial
theorem uD:∀{c:Cd},c.ok->c.txt.all okc=true:=by
 obtain⟨a1,a2,a3,a4,a5,a6,a7,a8,a9,a10,a11,a12,_⟩:=aB;intro c
 induction c with
 | off n z=>intro h;have h1:=h.2.1;simp only[Cd.txt,QbE,a1,h_c (Qk (n:=n) (by omega)),h_c (iM h.2.2.2.2),QbS]
 | term z=>intro h;simp only[Cd.txt,QbE,a2,h_c (iM h.2.2),QbS]
 | key k=>intro h;have h:k<=9:=h;simp only[Cd.txt,QbE,a3,h_c (Qk (n:=k) (by omega)),QbS]
 | hours a b=>intro h;have h:a<=23/\b<=23:=h;simp only[Cd.txt,QbE,a4,a5,h_c (Qk (n:=a) (by omega)),h_c (Qk (n:=b) (by omega)),QbS]
 | neg c ih=>intro h;simp only[Cd.txt,QbE,a6,ih h,QbS]
 | both c d ih1 ih2=>intro h;simp only[Cd.txt,QbE,a7,a8,a9,ih1 h.1,ih2 h.2,QbS]
 | any c d ih1 ih2=>intro h;simp only[Cd.txt,QbE,a7,a10,a9,ih1 h.1,ih2 h.2,QbS]
 | thn c d n ih1 ih2=>intro h;have h1:=h.2.2.2;simp only[Cd.txt,QbE,a7,a11,a12,a9,ih1 h.1,ih2 h.2.1,h_c (Qk (n:=n) (by omega)),QbS]
theorem jW {u:Ru} (h:u.ok):u.cs.all okh=true/\(L u.kw).all okh=true:=by
 obtain⟨_,_,_,_,_,_,_,_,_,_,_,_,_,_,a15,a16⟩:=aB;cases u with
 | term z c=>exact⟨iM h.1.2.2,a15⟩
 | sound n c=>have h1:1<=n/\n<=99:=h.1;exact⟨Qk (by omega),a16⟩
theorem Tw {u:Ru} (h:u.ok):∀c∈u.head,c≠61:=by
 have e:L " "=[32]:=by trivial
 rw[KZ,e];have k:=jW h;intro c hc;simp only[Qby,QaO] at hc;rcases hc with hc | hc | hc
 ·exact (Qba (Qbm.mp k.2 c hc)).2.1
 ·rw[hc];decide
 ·exact (Qba (Qbm.mp k.1 c hc)).2.1
theorem uX {u:Ru} (h:u.ok):∀c∈L u.kw,c≠32:=λc hc=>(Qba (Qbm.mp (jW h).2 c hc)).2.2
theorem Wh {u:Ru} (h:u.ok):∀c∈u.row,c≠10:=by
 obtain⟨_,_,_,_,_,_,_,_,_,_,_,_,a13,a14,_,_⟩:=aB;have k:=jW h;have:u.row.all okc=true:=by
  show (u.head++(L " = "++u.c.txt)).all okc=true;rw[KZ];simp only[QbE,a13,a14,h_c k.1,h_c k.2,uD (Hi h).1,QbS]
 exact λc hc=>Qba (Qbm.mp this c hc)
theorem Xc {xs:YG} {x:V}:GP (xs++[x]) none (some (-1))=xs:=by
 unfold GP;have e:HT.sIx (xs++[x]).length (xs++[x]).length (some (-1))=xs.length:=by
  show (if (-1:Int) < 0 then ((-1:Int)+((xs++[x]).length:Int)).toNat else min (-1:Int).toNat (xs++[x]).length)=_
  rw[if_pos (by decide),QaM,List.length_singleton];omega
 rw[HT.Wc,e,List.drop_zero,Nat.sub_zero];exact List.take_left' rfl
theorem QB:∀ys:YF,L (Str.join (Str.ofString "") ys)=(ys.map L).flatten
 | []=>by trivial
 | [a]=>by show L a=L a++[];rw[QbB]
 | a::b::r=>by
  have e:L (Str.ofString "")=[]:=by trivial
  show L ((a++(Str.ofString ""))++Str.join (Str.ofString "") (b::r))=L a++((b::r).map L).flatten;rw[Dk,Dk,QB (b::r),e,QbB]
theorem aG (ys:YF):L (Txt.join (Str.ofString "") ys)=(ys.map L).flatten:=by
 show L (Builtin.Str.glued _ ys)=_;rw[StrLaws.glued_eq_join];exact QB ys
theorem M6 {rs:List Ru} (ok:∀r∈rs,r.ok):(rs.map Ru.txt).flatten.length<=421*rs.length:=by
 induction rs with
 | nil=>exact Qcf _
 | cons u t ih=>
  have h1:=Yt (ok u (QaN ..));have h2:=ih λr hr=>ok r (QaB _ hr);rw[QbR,Qbd,QaM,Qbl];have:u.txt.length=u.row.length+1:=by show (u.row++L "\n").length=_;rw[N7.2.2,QaM];rfl
  omega
section
variable {P:Program} {w:World} {K:YD} {mg:YB} {base:Heap} {wA:Addr}
def MK:Sp:=λvs H Q _=>∃(v:V) (rs:List Ru),vs=[v]/\Rep H v (.tuple (rs.map Ru.data))/\(∀r∈rs,r.ok)/\rs.length<=16/\∀H',Same H H'->Q (.str (S (rs.map Ru.txt).flatten)) H'
abbrev xb:YF:=["word","call","condition"]
theorem U6 (C:Code K mg "show_rules" K9 Gm) (GK:Good P w K mg base "show_condition" 7 Fv (bU 6)):Good P w K mg base "show_rules" 8 Gm MK:=by
 refine C.good U0 (λvs H Q E h=>?_) (λf cdv A outer s H vs Q E hr h=>?_)
 ·obtain⟨v,c,rfl,_⟩:=h;rfl
 obtain⟨v,rs,rfl,rd,ok,l,q⟩:=h;refine⟨_,(Ah (Ak (Dz Qau PySem.F.slot_str_join PySem.F.type_str_join YT Af (Aa (G3 (N':=xb) rfl (CZ.plain rfl (by trivial) (by trivial) (by trivial)) (O7 (pv 0)) (λ_ _ _ _=>(nj (K:=K) (n:=3) rfl rfl (Bd (Az (i:=0) (show List.Nodup (xb:YF) by trivial) rfl (Or.inl rfl)) (Bd (Az (i:=1) (show List.Nodup (xb:YF) by trivial) rfl (Or.inl rfl)) (Bd (Az (i:=2) (show List.Nodup (xb:YF) by trivial) rfl (Or.inl rfl)) CN))))) (λ_ _ _ _=>Ii) (λ_ _ _ _=>(JD (Fd (pv 0) (Fe Af (Fd (pv 1) (Fe Af (Fd (Am GK hr (Aa (pv 2) Ab)) (Fe Af Ld))))))))) Ab)))),?_⟩;obtain⟨l0,l1,l2,l3,l4,l5,l6,l7,l8,l9,l10,l11,l12,l13,l14,l15,l16⟩:=ll;cases rd with
 | @tup a xs _ ha rr=>
 have lx:=Bk.len rr;rw[Qbw] at lx;refine⟨rq,_,rq,a,rq,⟨_,SqT.of ha⟩,λp hp=>?_⟩;let J0:YN:=λ(i:Nat) (U : St) (HX:Hp)=>∃(b1 b2 b3:Option V),U=[b1,b2,b3]/\HX p=some (.lst (((rs.take i).map λu=>S u.txt).map V.str))/\Same H HX;refine Xf (xs:=xs) J0 ⟨none,none,none,rq,Ae,Ag hp _⟩ (λi U HX _ h=>?_) (λi x U HX hx h=>?_) (fun U HX h=>?_)
 ·obtain⟨_,_,_,rfl,_,s⟩:=h;exact SqT.of (s _ _ ha)
 ·obtain⟨_,_,_,rfl,e,s⟩:=h;obtain⟨d,hd,rx⟩:=Bk.at_ rr hx;rw[Qbe] at hd;cases hu:rs[i]? with
  | none=>rw[hu] at hd;cases hd
  | some u=>
  rw[hu] at hd;injection hd with hd;subst hd;have uo:=ok u (QaC hu);obtain⟨t,v,rfl,ht,rv⟩:=Wf rx;obtain⟨ty,ey⟩:=lQ uo;obtain⟨c1,c2,c3⟩:=Hi uo;have cl:=Xd uo;have yl:u.ys.length<=8:=by rw[Ip,ey];exact cl.1
  have tl:=Ds c1;refine⟨t,_,rq,SqT.of (s _ _ ht),rq,_,_,rq,_,_,rq,_,_,rq,rq,Bp ?_⟩;refine⟨_,rq,u.kw,.inl rfl,szb (by simp only[QaY,l0];omega),_,rq,szb (by simp only[QaY,l0,l5];omega),_,rq,u.ys,ty,szb (by simp only[QaY,l0,l5];omega),_,rq,szb (by simp only[QaY,l0,l5,l15];omega),?_⟩;refine⟨_,rq,v,u.c,rq,Rep.same s rv,c1,c2,c3,λHY s'=>?_⟩;refine⟨_,.inl rfl,szb (by simp only[QaY,l0,l5,l15,Ai];omega),_,rq,szb (by simp only[QaY,l0,l5,l15,l16,Ai];omega),szb (by simp only[QaY,l0,l5,l15,l16,Ai];omega),?_⟩;refine⟨_,s' _ _ e,Ca (by rw[Qbw,Qbw,Qbn];omega),_,_,_,rq,?_,(s.trans s').Fj Aw.upd hp⟩;rw[Ae,Qcm hu,Qbx,Qbx];congr 3;refine congrArg (λz=>[V.str z]) (Ir ?_);simp only[Dk,Fp,Qbz,QaZ,L_S,ey];show _=(u.head++(L " = "++u.c.txt))++L "\n";rw[KZ];simp only[QaZ]
 ·obtain⟨_,_,_,rfl,e,s⟩:=h;rw[lx,Qbq] at e;have e0:(rs.map λu=>S u.txt).map L=rs.map Ru.txt:=by rw[Qce];rfl
  refine⟨_,p,rs.map λu=>S u.txt,rq,rq,SqL.of e,?_,?_⟩
  ·rw[show (Str.ofString "").length=0 from l0,Nat.mul_zero,Qce]
   have k:=M6 ok;rw[List.length_flatten,Qce] at k;have:(rs.map ((λx=>x.length) ∘ λu=>S u.txt))=rs.map (List.length ∘ Ru.txt):=List.map_congr_left λu _=>Ai _;rw[this];omega
  ·have:Txt.join (Str.ofString "") (rs.map λu=>S u.txt)=S (rs.map Ru.txt).flatten:=Ir (by rw[L_S,<-e0];exact aG _);rw[this];exact q _ s
def lE:Sp:=λvs H Q _=>∃(u:Ru),vs=[.str (S u.row)]/\u.ok/\∀p H',Rep H' (.ref p) u.data->Same H H'->Q (.ref p) H'
theorem XM (C:Code K mg "read_row" KJ FZ) (T:Tx K w.params mg wA) (BW:Good P w K mg base "read_condition" 16 Bv (V3 6)) (Bu:Good P w K mg base "read_number" 1 Ck V2):Good P w K mg base "read_row" 17 FZ lE:=by
 refine C.good BZ (λvs H Q E h=>?_) (λf cdv A outer s H vs Q E hr h=>?_)
 ·obtain⟨u,rfl,_⟩:=h;rfl
 obtain⟨u,rfl,ok,q⟩:=h;refine⟨_,(Ad (CV (Dz Qau Qah Qai Ju (pv 0) (Aa Af Ab)) (Di rfl (Bd (Az (i:=1) BZ.nd rfl (Or.inl rfl)) (Bd (Az (i:=2) BZ.nd rfl (Or.inl rfl)) (Bd (Az (i:=3) BZ.nd rfl (Or.inl rfl)) CN)))))
 (Ad (CV (Dz Qau Qah Qai Ju (pv 1) (Aa Af Ab)) (Di rfl (Bd (Az (i:=4) BZ.nd rfl (Or.inl rfl)) (Bd (Az (i:=5) BZ.nd rfl (Or.inl rfl)) (Bd (Az (i:=6) BZ.nd rfl (Or.inl rfl)) CN)))))
 (Ad (CV (Am BW hr (Aa (pv 3) (Aa (Hj rfl T.MOST_DEEP) Ab))) (Di rfl (Bd (Az (i:=7) BZ.nd rfl (Or.inl rfl)) (Bd (Az (i:=8) BZ.nd rfl (Or.inl rfl)) CN))))
 (Ah (Ak (Bl (Aa (pv 4) (Aa (Q5 (Av BK (pv 4) Af (Bc _)) (Am Bu hr (Aa (pv 6) Ab)) (pv 6)) (Aa (pv 7) Ab))))))))),?_⟩
 show let R0:TS:=_;let R1:TS:=Al _ R0;let R2:TS:=Al _ R1;Al _ R2 _ _ _;intro R0 R1 R2;have e1:Txt.partition (S u.row) " = "=(S u.head,(" = ":Str),S u.c.txt):=M9 (Tw ok);have e2:Txt.partition (S u.head) " "=(S (L u.kw),(" ":Str),S u.cs):=by rw[KZ];exact qQ (uX ok)
 have rl:=Yt ok;have hl:u.head.length<=420:=by
  have:u.row.length=u.head.length+(L " = "++u.c.txt).length:=QaM;omega
 obtain⟨c1,c2,c3⟩:=Hi ok;have tl:=Ds c1;refine⟨_,rq,rq,S u.row," = ",rq,rq,by trivial,szb (by rw[Ai];omega),λp1 hp1=>?_⟩;rw[e1];have s1:=Ag hp1 (.tup [.str (S u.head),.str " = ",.str (S u.c.txt)]);refine⟨p1,_,rq,SqT.of Ae,rq,_,_,rq,_,_,rq,_,_,rq,rq,?_⟩;refine⟨_,rq,rq,S u.head," ",rq,rq,by trivial,szb (by rw[Ai];omega),λp2 hp2=>?_⟩;rw[e2];have s2:=Ag hp2 (.tup [.str (S (L u.kw)),.str " ",.str (S u.cs)]);refine⟨p2,_,rq,SqT.of Ae,rq,_,_,rq,_,_,rq,_,_,rq,rq,?_⟩;refine⟨_,rq,u.c,[],6,by show [V.str (S u.c.txt),V.int 6]=[V.str (S (u.c.txt++[])),V.int ((6:Nat):Int)];rw[QbB];rfl,c1,c2,Qcf _,.inl rfl,by rw[QbB];omega,λp3 t H3 hp3 rt s3=>⟨p3,_,rq,SqT.of hp3,rq,_,_,rq,_,_,rq,rq,?_⟩⟩;have s03:=s1.trans (s2.trans s3);refine⟨_,rq,_,rq,rq,_,rq,?_⟩;cases u with
 | term z c=>
  refine ifS (λe=>absurd e (by show S (L "term")≠"sound";decide +kernel)) (λ_=>?_);refine⟨_,rq,_,rq,Ao (by show 3<=1000;decide),λp5 hp5=>?_⟩;have s5:=Ag hp5 (.tup [.str "term",.str z,.ref t]);exact q p5 _ (Vq (u:=.term z c) Ae (Rep.same s5 rt)) (s03.trans s5)
 | sound n c=>
  have h1:1<=n/\n<=99:=ok.1;refine ifS (λ_=>?_) (λe=>absurd rfl e);refine⟨_,rq,n,rq,by omega,λH4 s4=>⟨_,rq,Ao (by show 3<=1000;decide),λp5 hp5=>?_⟩⟩;have s5:=Ag hp5 (.tup [.str "sound",.int n,.ref t]);exact q p5 _ (Vq (u:=.sound n c) Ae (Rep.same (s4.trans s5) rt)) (s03.trans (s4.trans s5))
def ZJ:Sp:=λvs H Q _=>∃(rs:List Ru),vs=[.str (S (rs.map Ru.txt).flatten)]/\(∀r∈rs,r.ok)/\1<=rs.length/\rs.length<=16/\∀p H',Rep H' (.ref p) (.tuple (rs.map Ru.data))->Same H H'->Q (.ref p) H'
theorem U8 (C:Code K mg "read_rules" Jp Em) (T:Tx K w.params mg wA) (Ob:Good P w K mg base "read_row" 17 FZ lE) (Oc:Good P w K mg base "is_rules" 7 Hy (GC Eb)) (Lr:Good P w K mg base "show_rules" 8 Gm MK):Good P w K mg base "read_rules" 18 Em ZJ:=by
 refine C.good Il (λvs H Q E h=>?_) (λf cdv A outer s H vs Q E hr h=>?_)
 ·obtain⟨c,rfl,_⟩:=h;rfl
 obtain⟨rs,rfl,ok,l1,l2,q⟩:=h;refine⟨_,(Ad (Bg (PW.pt (DR (Cw (Ci (Ax DW rfl T.isinstance Bh (Aa (pv 0) (Aa (Ef (v:=.ty "str") rfl T.str GR rfl) Ab))))) (DQ (Cw (Ci (Dz Qau PySem.F.slot_str_endswith PySem.F.type_str_endswith Qz (pv 0) (Aa Af Ab))))))) (Ah Q0) Ay)
 (Ad (Bf (i:=1) Il.nd rfl (Or.inl rfl) (Dr KC rfl T.tuple IW (Aa (G3 (N':=["row"]) rfl (CZ.plain rfl (by trivial) (by trivial) (by trivial)) (Qg (Bq Yr (Dz Qau PySem.F.slot_str_split PySem.F.type_str_split WD (pv 0) (Aa Af Ab)) Bx (Bt (Vs Rp Ac)))) (λ_ _ _ _=>(Az (i:=0) (show List.Nodup (["row"]:YF) by trivial) rfl (Or.inl rfl))) (λ_ _ _ _=>Ii) (λ_ _ _ _=>(Am Ob hr (Aa (pv 0) Ab)))) Ab)))
 (Ad (Bg (PW.pt (DR (Cw (Ci (Am Oc hr (Aa (pv 1) Ab)))) (DQ (Av Jt (Am Lr hr (Aa (pv 1) Ab)) (pv 0) (Bc _))))) (Ah Q0) Ay)
 (Ah (Ak (pv 1)))))),?_⟩
 show let R0:TS:=Al _ _;let R1:TS:=Al _ R0;Al _ R1 _ _ _;intro R0 R1;have e10:=N7.2.2;have ex:(rs.map Ru.txt).flatten=((rs.map Ru.row).map λr=>r++[10]).flatten:=by
  rw[Qce];congr 1
 have en:Txt.endswith (S (rs.map Ru.txt).flatten) "\n"=true:=by
  have:rs≠[]:=λz=>by rw[z] at l1;exact absurd l1 (by decide)
  have e:=List.dropLast_concat_getLast this;rw[<-e,Qbx,List.flatten_append];have:([rs.getLast this].map Ru.txt).flatten=(rs.getLast this).row++L "\n":=by rw[List.map_singleton,List.flatten_singleton];rfl
  rw[this,<-QaZ];exact sU _
 have sp:=Rr (rows:=rs.map Ru.row) (λr hr=>by obtain⟨u,hu,rfl⟩:=Qcc.mp hr;exact Wh (ok u hu));have tl:=M6 ok;refine⟨_,rq,Y5 ⟨_,rq,Bs ⟨_,rq,rq,_,_,rq,rq,_,rq,CW (by rw[en];rfl) ?_⟩⟩⟩;refine⟨_,rq,rq,S (rs.map Ru.txt).flatten,"\n",rq,rq,by trivial,Qca (by rw[Ai];show _<=100000;omega) SQ,λp1 hp1=>?_⟩;rw[ex,sp,Qbx,Qbx];refine⟨_,rq,_,rq,p1,_,rq,SqL.of Ae,λp2 hp2=>⟨p2,rq,⟨_,SqL.of Ae⟩,λl hl=>?_⟩⟩;rw[show GP (List.map V.str (List.map S (List.map Ru.row rs))++List.map V.str (List.map S [[]])) none (some (-1))=List.map V.str (List.map S (List.map Ru.row rs)) from Xc] at *
 have s1:=(Ag hp1 (.lst (List.map V.str (List.map S (List.map Ru.row rs))++List.map V.str (List.map S [[]])))).trans (Ag hp2 (.lst (List.map V.str (List.map S (List.map Ru.row rs)))));have c2:upd (upd H p1 (.lst (List.map V.str (List.map S (List.map Ru.row rs))++List.map V.str (List.map S [[]])))) p2 (.lst (List.map V.str (List.map S (List.map Ru.row rs)))) p2=some (.lst (List.map V.str (List.map S (List.map Ru.row rs)))):=Ae;generalize upd (upd H p1 (.lst (List.map V.str (List.map S (List.map Ru.row rs))++List.map V.str (List.map S [[]])))) p2 (.lst (List.map V.str (List.map S (List.map Ru.row rs))))=H2 at *;refine Pn (xs:=List.map V.str (List.map S (List.map Ru.row rs))) (λ(i:Nat) (U : St) (HX:Hp)=>∃(b1:Option V) (ys:YG),U=[b1]/\HX l=some (.lst ys)/\Bk (onl HX) ys ((rs.take i).map Ru.data)/\Same H2 HX) ⟨none,[],rq,Ae,.nil,Ag hl _⟩ (λi U HX _ h=>?_) (λi x U HX hx h=>?_) (fun U HX h=>?_)
 ·obtain⟨_,_,rfl,_,_,s⟩:=h;exact SqL.of (s _ _ c2)
 ·obtain⟨b1,ys,rfl,e,rr,s⟩:=h;rw[Qbe,Qbe,Qbe] at hx;cases hu:rs[i]? with
  | none=>rw[hu] at hx;cases hx
  | some u=>
  rw[hu] at hx;injection hx with hx;subst hx;have uo:=ok u (QaC hu);unfold Gi;dsimp only;refine Bp ⟨_,rq,u,rq,uo,λp HY ry sy=>?_⟩;have ey:=sy _ _ e;have yl:=Bk.len rr;rw[Qbw,Qbn] at yl;have ts:Dw HY (upd HY l (.lst (ys++[.ref p]))):=(Aw.upd (b:=l)).tup λxs z=>by rw[ey] at z;cases z
  refine⟨ys,ey,Ca (by omega),_,_,rq,Ae,?_,(s.trans sy).Fj Aw.upd hl⟩;rw[Qcm hu,Qbx];exact Bk.app (Bk.same (Fx (Dw.trans (Dw.of sy) ts)) rr) (.cons (Rep.same (Fx ts) (qK ry)) .nil)
 ·obtain⟨b1,ys,rfl,e,rr,s⟩:=h;have yl:=Bk.len rr;rw[Qbw,Qbw,Qbw,Qbq] at rr;refine⟨l,ys,rq,.inl ⟨SqL.of e,λt ht=>?_⟩⟩;have st:=Ag ht (.tup ys);have rt:Rep (upd HX t (.tup ys)) (.ref t) (.tuple (rs.map Ru.data)):=.tup Ae (Bk.same ((Te HX).trans st) rr);generalize upd HX t (.tup ys)=H5 at *;have s5:=s1.trans (s.trans st);refine⟨_,rfl,_,_,rfl,rt,(Ry ok l2).fit (by decide) |>.mono (by decide),λH6 s6=>⟨_,rfl,CW (by rw[O6 ok ⟨l1,l2⟩];rfl) ?_⟩⟩;refine⟨_,rq,_,rs,rq,Rep.same s6 rt,ok,l2,λH7 s7=>⟨_,rq,rq,_,rq,CW (by rw[ex];simp) ?_⟩⟩;exact⟨_,rq,q t _ (Rep.same (s6.trans s7) rt) (s5.trans (s6.trans s7))⟩
end
abbrev QT:Stmt:=top 50
abbrev Lg:YF:=["_law_bag_here","_law_way","_law_zones","_law_terms"]
theorem cj:Bo Lg Lg (Ar QT):=by ac_rfl
abbrev Ky:Stmt:=top 51
abbrev Ez:YF:=["_law_bag_here","_law_deep","_law_left","_law_zones","_law_terms"]
theorem Ec:Bo ["_law_bag_here","_law_deep","_law_left","_law_zones","_law_terms","_law_way","_law_one","_law_other"] Ez (Ar Ky):=by ac_rfl
def Cv (H:Hp) (t:Addr) (c:Cd):Prop:=Rep (onl H) (.ref t) c.data
theorem Cv.tups {H H':Hp} {t:Addr} {c:Cd} (s:Dw H H') (h:Cv H t c):Cv H' t c:=Rep.same (Fx s) h
theorem aj {H:Hp} {l:Addr} {ys:YF} (h:Cu H l ys) {i:Nat} (hi:i < ys.length):∃y,atI (ys.map V.str) (i:Int)=some (.str y)/\Mu y:=by
 have hy:ys[i]?=some ys[i]:=Qam hi;have:=h.2.2.2 _ (QaC hy);exact⟨ys[i],Aj (by rw[Qbe,hy];rfl),this.1.1,this.1.2,this.2⟩
def V5:Sp:=λvs H Q _=>∃(b zl:Addr) (m:Nat) (way:Int) (ys:YF),vs=[.ref b,.int way,.ref zl,.ref zl]/\BL H b m/\m<=9000/\b≠zl/\Cu H zl ys/\∀t c H',Cv H' t c->c.ok->c.deep=1->c.many=1->BL H' b (m+2)->Aw b H H'->Q (.ref t) H'
theorem at5 {i:Int} (h0:0<=i) (h5:i < 5):∃p:Nat,atI [V.int 0,.int 0,.int 1,.int 2,.int 8] i=some (.int p)/\p<=8:=by
 have:i=0\/i=1\/i=2\/i=3\/i=4:=by omega
 rcases this with rfl | rfl | rfl | rfl | rfl
 ·exact⟨0,rq,by decide⟩
 ·exact⟨0,rq,by decide⟩
 ·exact⟨1,rq,by decide⟩
 ·exact⟨2,rq,by decide⟩
 ·exact⟨8,rq,by decide⟩
section
variable {P:Program} {w:World} {K:YD} {mg:YB} {base:Heap}
theorem nM (c:Code K mg "_law_leaf" QT Lg) (T:Tc mg) (Bj:Good P w K mg base "_law_take" 1 Fw Kd):Good P w K mg base "_law_leaf" 2 Lg V5:=by
 refine c.good cj (λvs H Q E h=>?_) (λf cdv A outer s H vs Q E hr h=>?_)
 ·obtain⟨b,zl,m,way,ys,rfl,_⟩:=h;rfl
 obtain⟨b,zl,m,way,ys,rfl,hb,hm,nb,hz,q⟩:=h;refine⟨_,(@Ad _ _ _ _ _ (Bg (PW.pt (Ig (Av BK (pv 1) Ac (Bc _)) (GZ (Av (RG hr.units) (pv 2) (Dj Ab) (Bc _))))) (@Ah _ _ _ (@Ak _ _ _ _ (Bl (Aa Af (Aa (@Aq _ _ _ _ _ _ _ _ Dd Ac (@Ba _ _ _ _ _ _ _ Br (@Dj _ _ _ _ (@Aa _ _ _ _ _ (@Ac _ _ _ _) (@Aa _ _ _ _ _ (@Ac _ _ _ _) (@Aa _ _ _ _ _ (@Ac _ _ _ _) (@Aa _ _ _ _ _ (@Ac _ _ _ _) (@Aa _ _ _ _ _ (@Ac _ _ _ _) (@Ab _) BJ) BJ) BJ) BJ) BJ)) (Am Bj hr (Aa (pv 0) (Aa Ac Ab))) (λ_ _=>rfl))) (Aa (@Ba _ _ _ _ _ _ _ Br (pv 2) (Am Bj hr (Aa (pv 0) (Aa (Ax BR rfl T.len Cy (Aa (pv 2) Ab)) Ab))) (λ_ _=>rfl)) Ab)))))) Ay)
 (@Ad _ _ _ _ _ (Bg (PW.pt (Ig (Av BK (pv 1) Ac (Bc _)) (GZ (Av (RG hr.units) (pv 3) (Dj Ab) (Bc _))))) (@Ah _ _ _ (@Ak _ _ _ _ (Bl (Aa Af (Aa (@Ba _ _ _ _ _ _ _ Br (pv 3) (Am Bj hr (Aa (pv 0) (Aa (Ax BR rfl T.len Cy (Aa (pv 3) Ab)) Ab))) (λ_ _=>rfl)) Ab))))) Ay)
 (@Ad _ _ _ _ _ (Bg (Av BK (pv 1) Ac (Bc _)) (@Ah _ _ _ (@Ak _ _ _ _ (Bl (Aa Af (Aa (Am Bj hr (Aa (pv 0) (Aa Ac Ab))) (Aa (Am Bj hr (Aa (pv 0) (Aa Ac Ab))) Ab)))))) Ay)
 (@Ah _ _ _ (@Ak _ _ _ _ (Bl (Aa Af (Aa (Am Bj hr (Aa (pv 0) (Aa Ac Ab))) Ab)))))))),?_⟩
 show let R0:TS:=_;let R1:TS:=_;let R2:TS:=Al (BX _ R1 _) R0;let R3:TS:=_;let R4:TS:=Al (BX _ R3 _) R2;let R5:TS:=_;Al (BX _ R5 _) R4 _ _ _;intro R0 R1 R2 R3 R4 R5;have ny:=hz.2.1;have ny9:=hz.2.2.1;have lz:(((ys.map V.str).length:Nat):Int)=(ys.length:Int):=by rw[Qbw]
 refine⟨_,rq,rq,_,rq,ifN (λe=>?_) (λe=>?_)⟩
 ·refine⟨_,rq,Ao (by show 0<=1000;decide),λle hle=>?_⟩;have se:=Ag hle (.lst []);have ce:upd H le (.lst []) le=some (.lst []):=Ae;generalize upd H le (.lst [])=H1 at *;have hz1:Cu H1 zl ys:=⟨se _ _ hz.1,hz.2⟩;refine⟨_,_,hz1.rep,.lst ce .nil,hz1.shp,by rfl,_,rq,?_⟩;rw[hz.ne];refine Bp ⟨Ao (by show 5<=1000;decide),λl5 hl5=>?_⟩;have s5:=Ag hl5 (.lst [.int 0,.int 0,.int 1,.int 2,.int 8]);have c5:upd H1 l5 (.lst [.int 0,.int 0,.int 1,.int 2,.int 8]) l5=some (.lst [.int 0,.int 0,.int 1,.int 2,.int 8]):=Ae;have hb2:=(hb.same se).same s5;have nb5:b≠l5:=(hb.same se).nb hl5;generalize upd H1 l5 (.lst [.int 0,.int 0,.int 1,.int 2,.int 8])=H2 at *;have s02:=se.trans s5;refine⟨_,rq,b,m,5,rq,hb2,by omega,by decide,by decide,λr H3 r0 r1 hb3 sb3=>?_⟩;obtain⟨p,hp,p8⟩:=at5 r0 r1;have hz3:Cu H3 zl ys:=Cu.Fy ⟨s5 _ _ hz1.1,hz.2⟩ sb3 nb.symm;refine⟨l5,_,_,_,rq,rq,SqL.of (sb3 _ _ c5 nb5.symm),hp,_,_,rq,rq,_,rq,_,rq,_,rq,zl,_,rq,.inl (SqL.of hz3.1),b,_,_,rq,hb3,by omega,by rw[lz];omega,by rw[lz];omega,λr2 H4 r20 r21 hb4 sb4=>?_⟩;rw[lz] at r21;obtain⟨rn,rfl⟩:=Qaq r20;have hz4:=hz3.Fy sb4 nb.symm;obtain⟨y,hy,ny⟩:=aj hz4 (i:=rn) (by omega);refine⟨zl,_,_,_,rq,rq,SqL.of hz4.1,hy,Ao (by show 3<=1000;decide),λt ht=>?_⟩;dsimp only;rw[show (1:Int)+(p:Int)=((1+p:Nat):Int) by omega];exact q t (.off (1+p) y) _ (.tup (Cr Ae) (.cons (.str _) (.cons (.int _) (.cons (.str _) .nil)))) ⟨by omega,by omega,ny⟩ rfl rfl ((hb4.same (Ag ht _)).mono (by omega)) (((Aw.of s02).trans (sb3.trans sb4)).trans (Aw.of (Ag ht _)))
 refine⟨_,rq,rq,_,rq,ifN (λe1=>?_) (λe1=>?_)⟩
 ·refine⟨_,rq,Ao (by show 0<=1000;decide),λle hle=>?_⟩;have se:=Ag hle (.lst []);have ce:upd H le (.lst []) le=some (.lst []):=Ae;generalize upd H le (.lst [])=H1 at *;have hz1:Cu H1 zl ys:=⟨se _ _ hz.1,hz.2⟩;refine⟨_,_,hz1.rep,.lst ce .nil,hz1.shp,by rfl,_,rq,?_⟩;rw[hz.ne];refine Bp ⟨_,rq,_,rq,_,rq,zl,_,rq,.inl (SqL.of hz1.1),b,_,_,rq,hb.same se,by omega,by rw[lz];omega,by rw[lz];omega,λr2 H4 r20 r21 hb4 sb4=>?_⟩;rw[lz] at r21;obtain⟨rn,rfl⟩:=Qaq r20;have hz4:=hz1.Fy sb4 nb.symm;obtain⟨y,hy,ny⟩:=aj hz4 (i:=rn) (by omega);refine⟨zl,_,_,_,rq,rq,SqL.of hz4.1,hy,Ao (by show 2<=1000;decide),λt ht=>?_⟩;exact q t (.term y) _ (.tup (Cr Ae) (.cons (.str _) (.cons (.str _) .nil))) ny rfl rfl ((hb4.same (Ag ht _)).mono (by omega)) (((Aw.of se).trans sb4).trans (Aw.of (Ag ht _)))
 refine⟨_,rq,rq,_,rq,ifN (λe2=>?_) (λe2=>?_)⟩
 ·refine⟨_,rq,b,m,24,rq,hb,by omega,by decide,by decide,λr H1 r0 r1 hb1 sb1=>⟨_,rq,b,_,24,rq,hb1,by omega,by decide,by decide,λr2 H2 r20 r21 hb2 sb2=>⟨Ao (by show 3<=1000;decide),λt ht=>?_⟩⟩⟩;obtain⟨n1,rfl⟩:=Qaq r0;obtain⟨n2,rfl⟩:=Qaq r20;exact q t (.hours n1 n2) _ (.tup (Cr Ae) (.cons (.str _) (.cons (.int _) (.cons (.int _) .nil)))) ⟨by omega,by omega⟩ rfl rfl ((hb2.same (Ag ht _)).mono (by omega)) ((sb1.trans sb2).trans (Aw.of (Ag ht _)))
 ·refine⟨_,rq,b,m,10,rq,hb,by omega,by decide,by decide,λr H1 r0 r1 hb1 sb1=>⟨Ao (by show 2<=1000;decide),λt ht=>?_⟩⟩;obtain⟨n1,rfl⟩:=Qaq r0;exact q t (.key n1) _ (.tup (Cr Ae) (.cons (.str _) (.cons (.int _) .nil))) (show n1<=9 by omega) rfl rfl ((hb1.same (Ag ht _)).mono (by omega)) (sb1.trans (Aw.of (Ag ht _)))
end
def S2 (b l:Addr) (H H':Hp):Prop:=∀c o,H c=some o->c≠b->c≠l->H' c=some o
theorem S2.trans {b l:Addr} {H H' H'':Hp} (s:S2 b l H H') (t:S2 b l H' H''):S2 b l H H'':=λc o e n1 n2=>t _ _ (s _ _ e n1 n2) n1 n2
theorem S2.l {b l:Addr} {H H':Hp} (s:Aw b H H'):S2 b l H H':=λc o e n1 _=>s _ _ e n1
theorem S2.r {b l:Addr} {H H':Hp} (s:Aw l H H'):S2 b l H H':=λc o e _ n2=>s _ _ e n2
theorem S2.of {b l:Addr} {H H':Hp} (s:Same H H'):S2 b l H H':=λc o e _ _=>s _ _ e
theorem S2.tup {b l:Addr} {H H':Hp} (s:S2 b l H H') (h1:∀xs,H b≠some (.tup xs)) (h2:∀xs,H l≠some (.tup xs)):Dw H H':=λc xs e=>s _ _ e (λz=>h1 xs (by rw[<-z];exact e)) (λz=>h2 xs (by rw[<-z];exact e))
theorem Cu.s2 {H H':Hp} {l b z:Addr} {ys:YF} (h:Cu H z ys) (s:S2 b l H H') (n1:z≠b) (n2:z≠l):Cu H' z ys:=⟨s _ _ h.1 n1 n2,h.2⟩
def bW (d:Nat):Sp:=λvs H Q _=>∃(b lf zl:Addr) (m:Nat) (x:Int) (ys:YF),vs=[.ref b,.int ((d+1:Nat):Int),.ref lf,.ref zl,.ref zl]/\BL H b m/\(m:Int)+3*x<=8000/\1<=x/\b≠lf/\b≠zl/\lf≠zl/\Cu H zl ys/\H lf=some (.lst [.int x])/\∀t c x' H',Cv H' t c->c.ok->c.deep<=d+1->x'=x - (c.many:Int)->0<=x'->BL H' b (m+3*c.many)->H' lf=some (.lst [.int x'])->S2 b lf H H'->Q (.ref t) H'
def Vo (D:Nat):Sp:=λvs H Q E=>∃d,d<=D/\bW d vs H Q E
theorem AV {i:Int} (h0:0<=i) (h4:i < 4):∃p:Int,atI [V.int 1,.int 2,.int 4,.int 20] i=some (.int p)/\1<=p/\p<=20:=by
 have:i=0\/i=1\/i=2\/i=3:=by omega
 rcases this with rfl | rfl | rfl | rfl
 ·exact⟨1,rq,by decide,by decide⟩
 ·exact⟨2,rq,by decide,by decide⟩
 ·exact⟨4,rq,by decide,by decide⟩
 ·exact⟨20,rq,by decide,by decide⟩
theorem aA {H:Hp} {l:Addr} {ys:YG} (h:H l=some (.lst ys)):∀xs,H l≠some (.tup xs):=λxs z=>by rw[h] at z;cases z
section
variable {P:Program} {w:World} {K:YD} {mg:YB} {base:Heap}
theorem nQ (c:Code K mg "_law_condition" Ky Ez) (T:Tc mg) (Bj:Good P w K mg base "_law_take" 1 Fw Kd) (W2:Good P w K mg base "_law_leaf" 2 Lg V5):∀k,Good P w K mg base "_law_condition" (3+k) Ez (Vo k):=by
 have step:∀(D k':Nat) (sp':Sp),(∀e,e+1<=D->∀vs H Q E,bW e vs H Q E->sp' vs H Q E)->Good P w K mg base "_law_condition" k' Ez sp'->1<=k'->2<=k'->Good P w K mg base "_law_condition" (k'+1) Ez (Vo D):=λD k' sp' hsp GQ hk1 hk2=>by
  have sc:=Ec;refine c.good Ec (λvs H Q E h=>?_) (λf cdv A outer s H vs Q E hr h=>?_)
  ·obtain⟨d,hd,b,lf,zl,m,x,ys,rfl,_⟩:=h;rfl
  obtain⟨d,hd,b,lf,zl,m,x,ys,rfl,hb,hm,hx,nbl,nbz,nlz,hz,hlf,q⟩:=h;refine⟨_,(@Ad _ _ _ _ _ (CV (@Aq _ _ _ _ _ _ _ _ Ga (@Ba _ _ _ _ _ _ _ Br (pv 2) Ac (λ_ _=>rfl)) Ac) (O9 (pv 2) Ac set_list))
 (@Ad _ _ _ _ _ (@Bf _ _ 5 _ _ _ _ Ec.nd rfl (Or.inl rfl) (Am (hk:=hk1) Bj hr (Aa (pv 0) (Aa Ac Ab))) (by rfl) (by first | exact .inl rfl | exact .inr rfl))
 (@Ad _ _ _ _ _ (Bg (PW.pt (DR (Av JW (pv 1) Ac (Bc _)) (DQ (Av JW (@Ba _ _ _ _ _ _ _ Br (pv 2) Ac (λ_ _=>rfl)) Ac (Bc _))))) (@Ah _ _ _ (@Ak _ _ _ _ (Am (hk:=hk2) W2 hr (Aa (pv 0) (Aa (@Aq _ _ _ _ _ _ _ _ Kq (pv 5) Ac) (Aa (pv 3) (Aa (pv 4) Ab))))))) Ay)
 (@Ad _ _ _ _ _ (Bg (PW.pt (Ig (Av Vt (pv 5) Ac (Bc _)) (GZ (Av JW (@Ba _ _ _ _ _ _ _ Br (pv 2) Ac (λ_ _=>rfl)) Ac (Bc _))))) (@Ah _ _ _ (@Bf _ _ 5 _ _ _ _ Ec.nd rfl (Or.inl rfl) Ac (by rfl) (by first | exact .inl rfl | exact .inr rfl))) Ay)
 (@Ad _ _ _ _ _ (Bg (Av JW (pv 5) Ac (Bc _)) (@Ah _ _ _ (@Ak _ _ _ _ (Am (hk:=hk2) W2 hr (Aa (pv 0) (Aa (pv 5) (Aa (pv 3) (Aa (pv 4) Ab))))))) Ay)
 (@Ad _ _ _ _ _ (Bg (Av BK (pv 5) Ac (Bc _)) (@Ah _ _ _ (@Ak _ _ _ _ (Bl (Aa Af (Aa (Am (hk:=(Qcf _)) GQ hr (@Aa _ _ _ _ _ (pv 0) (@Aa _ _ _ _ _ (@Aq _ _ _ _ _ _ _ _ Ga (pv 1) Ac) (@Aa _ _ _ _ _ (pv 2) (@Aa _ _ _ _ _ (pv 3) (@Aa _ _ _ _ _ (pv 4) (@Ab _) Dt) Dt) Dt) Rq) Dt)) Ab))))) Ay)
 (@Ad _ _ _ _ _ (CV (@Aq _ _ _ _ _ _ _ _ Ga (@Ba _ _ _ _ _ _ _ Br (pv 2) Ac (λ_ _=>rfl)) Ac) (O9 (pv 2) Ac set_list))
 (@Ad _ _ _ _ _ (@Bf _ _ 6 _ _ _ _ Ec.nd rfl (Or.inl rfl) (Am (hk:=(Qcf _)) GQ hr (@Aa _ _ _ _ _ (pv 0) (@Aa _ _ _ _ _ (@Aq _ _ _ _ _ _ _ _ Ga (pv 1) Ac) (@Aa _ _ _ _ _ (pv 2) (@Aa _ _ _ _ _ (pv 3) (@Aa _ _ _ _ _ (pv 4) (@Ab _) Dt) Dt) Dt) Rq) Dt)) (by rfl) (by first | exact .inl rfl | exact .inr rfl))
 (@Ad _ _ _ _ _ (CV (@Aq _ _ _ _ _ _ _ _ Dd (@Ba _ _ _ _ _ _ _ Br (pv 2) Ac (λ_ _=>rfl)) Ac) (O9 (pv 2) Ac set_list))
 (@Ad _ _ _ _ _ (@Bf _ _ 7 _ _ _ _ Ec.nd rfl (Or.inl rfl) (Am (hk:=(Qcf _)) GQ hr (@Aa _ _ _ _ _ (pv 0) (@Aa _ _ _ _ _ (@Aq _ _ _ _ _ _ _ _ Ga (pv 1) Ac) (@Aa _ _ _ _ _ (pv 2) (@Aa _ _ _ _ _ (pv 3) (@Aa _ _ _ _ _ (pv 4) (@Ab _) Dt) Dt) Dt) Rq) Dt)) (by rfl) (by first | exact .inl rfl | exact .inr rfl))
 (@Ad _ _ _ _ _ (Bg (Av BK (pv 5) Ac (Bc _)) (@Ah _ _ _ (@Ak _ _ _ _ (Bl (Aa Af (Aa (pv 6) (Aa (pv 7) (Aa (@Aq _ _ _ _ _ _ _ _ Dd Ac (Am (hk:=hk1) Bj hr (Aa (pv 0) (Aa (@Ba _ _ _ _ _ _ _ Br (Dj (Aa Ac (Aa Ac (Aa Ac (Aa Ac Ab))))) (Am (hk:=hk1) Bj hr (Aa (pv 0) (Aa Ac Ab))) (λ_ _=>rfl)) Ab)))) Ab))))))) Ay)
 (@Ah _ _ _ (@Ak _ _ _ _ (Bl (Aa (@Ba _ _ _ _ _ _ _ Br (Dj (Aa Af (Aa Af Ab))) (@Aq _ _ _ _ _ _ _ _ Ga (pv 5) Ac) (λ_ _=>rfl)) (Aa (pv 6) (Aa (pv 7) Ab))))))))))))))))),?_⟩
  show let R0:TS:=_;let R1:TS:=_;let R2:TS:=Al (BX _ R1 _) R0;let R3:TS:=Al _ R2;let R4:TS:=Al _ R3;let R5:TS:=Al _ R4;let R6:TS:=Al _ R5;let R7:TS:=_;let R8:TS:=Al (BX _ R7 _) R6;let R9:TS:=_;let R10:TS:=Al (BX _ R9 _) R8;let R11:TS:=_;let R12:TS:=Al (BX _ R11 _) R10;let R13:TS:=_;let R14:TS:=Al (BX _ R13 _) R12;let R15:TS:=Al _ R14;Al _ R15 _ _ _;intro R0 R1 R2 R3 R4 R5 R6 R7 R8 R9 R10 R11 R12 R13 R14 R15;refine⟨_,rq,lf,_,_,_,rq,rq,SqL.of hlf,rq,_,_,rq,rq,_,rq,lf,_,_,_,rq,rq,hlf,rq,?_⟩;have s1:S2 b lf H (upd H lf (.lst [.int (x - 1)])):=S2.r Aw.upd;have c1:upd H lf (.lst [.int (x - 1)]) lf=some (.lst [.int (x - 1)]):=Ae;have hb1:BL (upd H lf (.lst [.int (x - 1)])) b m:=hb.Fy Aw.upd nbl;show Al _ _ _ _ (upd H lf (.lst [.int (x - 1)]));generalize upd H lf (.lst [.int (x - 1)])=H1 at *;refine⟨_,rq,b,m,8,rq,hb1,by omega,by decide,by decide,λway H2 w0 w1 hb2 sb2=>?_⟩;have s2:=s1.trans (S2.l (l:=lf) sb2);have c2:=sb2 _ _ c1 nbl.symm;have hz2:=hz.s2 s2 nbz.symm nlz.symm;have leaf:∀{gH:Int} {H2:Hp},BL H2 b (m+1)->Cu H2 zl ys->H2 lf=some (.lst [.int (x - 1)])->S2 b lf H H2->∀E,V5 [.ref b,.int gH,.ref zl,.ref zl] H2 Q E:=λ{gH H2} hb2 hz2 c2 s2 E=>by
   refine⟨b,zl,m+1,gH,ys,rq,hb2,by omega,nbz,hz2,λt c H3 tv ok d1 m1 hb3 sb3=>q t c _ H3 tv ok (by omega) (by rw[m1];rfl) (by omega) (hb3.mono (by omega)) (sb3 _ _ c2 nbl.symm) (s2.trans (S2.l sb3))⟩
  refine⟨_,rq,_,_,rq,rq,_,rq,Q9 (λh2=>?_) (λh2=>?_)⟩
  ·exact⟨_,rq,_,rq,_,_,rq,rq,(by show (0:Int) < 4;decide),_,rq,_,rq,leaf hb2 hz2 c2 s2 E0⟩
  have h2:¬((d+1:Nat):Int) < 2:=QaT h2;obtain⟨e,rfl⟩ : ∃e,d=e+1:=⟨d - 1,by omega⟩;refine⟨_,rq,lf,_,_,_,rq,rq,SqL.of c2,rq,_,_,rq,rq,_,rq,Q9 (λh3=>?_) (λh3=>?_)⟩
  ·exact⟨_,rq,_,rq,_,_,rq,rq,(by show (0:Int) < 4;decide),_,rq,_,rq,leaf hb2 hz2 c2 s2 E0⟩
  have h3:¬(x - 1 < 1):=QaT h3;unfold lu;dsimp only;show Al (BX _ _ _) _ _ _ _;refine gU (fun σ' H'=>∃wy:Int,0<=wy/\wy < 8/\(4 < wy->2<=x - 1)/\σ'=[js b,some (.int ((e+1+1:Nat):Int)),js lf,js zl,js zl,some (.int wy),none,none]/\H'=H2) (fun σ' H3 hP=>?_) (λhR=>?_)
  ·obtain⟨wy,wy0,wy1,wx,rfl,rfl⟩:=hP;refine⟨_,rq,_,_,rq,rq,_,rq,Q9 (λh4=>?_) (λh4=>?_)⟩
   ·exact⟨_,rq,_,rq,_,rq,_,rq,leaf hb2 hz2 c2 s2 E0⟩
   have h4:¬wy < 4:=QaT h4;refine⟨_,rq,rq,_,rq,ifN (λh5=>?_) (λh5=>?_)⟩
   ·refine⟨_,rq,_,rq,_,_,rq,rq,_,rq,_,rq,_,rq,hsp e (by omega) _ _ _ _ ⟨b,lf,zl,m+1,x - 1,ys,?_,hb2,by omega,by omega,nbl,nbz,nlz,hz2,c2,λt cd x' H4 tv ok dp ex x0 hb4 c4 s4=>⟨Ao (by show 2<=1000;decide),λt2 ht2=>?_⟩⟩⟩
    ·show [V.ref b,V.int (((e+1+1:Nat):Int) - 1),_,_,_]=_;rw[show (((e+1+1:Nat):Int) - 1)=((e+1:Nat):Int) by omega]
    have sn:=Ag ht2 (.tup [.str "not",.ref t]);have em:(Cd.neg cd).many=cd.many+1:=rfl;exact q t2 (.neg cd) x' _ (.tup (Cr Ae) (.cons (.str _) (.cons (tv.tups (Dw.of sn)) .nil))) ok (Qbo dp) (by omega) x0 ((hb4.same sn).mono (by omega)) (sn _ _ c4) (s2.trans (s4.trans (S2.of sn)))
   have wx:=wx (by omega);refine⟨_,rq,lf,_,_,_,rq,rq,SqL.of c2,rq,_,_,rq,rq,_,rq,lf,_,_,_,rq,rq,c2,rq,?_⟩;have s3:S2 b lf H (upd H3 lf (.lst [.int (x - 1 - 1)])):=s2.trans (S2.r Aw.upd);have c3:upd H3 lf (.lst [.int (x - 1 - 1)]) lf=some (.lst [.int (x - 1 - 1)]):=Ae;have hb3:BL (upd H3 lf (.lst [.int (x - 1 - 1)])) b (m+1):=hb2.Fy Aw.upd nbl;have hz3:Cu (upd H3 lf (.lst [.int (x - 1 - 1)])) zl ys:=hz.s2 s3 nbz.symm nlz.symm;show Al _ _ _ _ (upd H3 lf (.lst [.int (x - 1 - 1)]));generalize upd H3 lf (.lst [.int (x - 1 - 1)])=H4 at *;refine⟨_,rq,_,rq,_,_,rq,rq,_,rq,_,rq,_,rq,hsp e (by omega) _ _ _ _ ⟨b,lf,zl,m+1,_,ys,?_,hb3,by omega,by omega,nbl,nbz,nlz,hz3,c3,λt1 cd1 x1 H5 tv1 ok1 dp1 ex1 x10 hb5 c5 s5=>?_⟩⟩
   ·show [V.ref b,V.int (((e+1+1:Nat):Int) - 1),_,_,_]=_;rw[show (((e+1+1:Nat):Int) - 1)=((e+1:Nat):Int) by omega]
   have s05:=s3.trans s5;refine⟨_,rq,lf,_,_,_,rq,rq,SqL.of c5,rq,_,_,rq,rq,_,rq,lf,_,_,_,rq,rq,c5,rq,?_⟩;have s6:S2 b lf H (upd H5 lf (.lst [.int (x1+1)])):=s05.trans (S2.r Aw.upd);have c6:upd H5 lf (.lst [.int (x1+1)]) lf=some (.lst [.int (x1+1)]):=Ae;have hb6:BL (upd H5 lf (.lst [.int (x1+1)])) b (m+1+3*cd1.many):=hb5.Fy Aw.upd nbl;have hz6:Cu (upd H5 lf (.lst [.int (x1+1)])) zl ys:=hz.s2 s6 nbz.symm nlz.symm;have tv6:Cv (upd H5 lf (.lst [.int (x1+1)])) t1 cd1:=tv1.tups (Dw.upd (aA c5));show Al _ _ _ _ (upd H5 lf (.lst [.int (x1+1)]));generalize upd H5 lf (.lst [.int (x1+1)])=H6 at *;refine⟨_,rq,_,rq,_,_,rq,rq,_,rq,_,rq,_,rq,hsp e (by omega) _ _ _ _ ⟨b,lf,zl,m+1+3*cd1.many,_,ys,?_,hb6,by omega,by omega,nbl,nbz,nlz,hz6,c6,λt2 cd2 x2 H7 tv2 ok2 dp2 ex2 x20 hb7 c7 s7=>?_⟩⟩
   ·show [V.ref b,V.int (((e+1+1:Nat):Int) - 1),_,_,_]=_;rw[show (((e+1+1:Nat):Int) - 1)=((e+1:Nat):Int) by omega]
   have s07:=s6.trans s7;have p7:=tv6.tups (s7.tup hb6.N5 (aA c6));have zR:max cd1.deep cd2.deep+1<=e+1+1:=by omega
   refine⟨_,rq,rq,_,rq,ifN (λh7=>?_) (λh7=>?_)⟩
   ·refine⟨_,rq,_,rq,_,rq,Ao (by show 4<=1000;decide),λl4 hl4=>?_⟩;have s4:=Ag hl4 (.lst [.int 1,.int 2,.int 4,.int 20]);have c4:upd H7 l4 (.lst [.int 1,.int 2,.int 4,.int 20]) l4=some (.lst [.int 1,.int 2,.int 4,.int 20]):=Ae;have hb8:=hb7.same s4;have nb4:b≠l4:=hb7.nb hl4;generalize upd H7 l4 (.lst [.int 1,.int 2,.int 4,.int 20])=H8 at *;refine⟨_,rq,b,_,4,rq,hb8,by omega,by decide,by decide,λr H9 r0 r1 hb9 sb9=>?_⟩;obtain⟨p,hp,p1,p20⟩:=AV r0 r1;refine⟨l4,_,_,_,rq,rq,SqL.of (sb9 _ _ c4 nb4.symm),hp,b,_,_,rq,hb9,by omega,by omega,by omega,λr2 Ha r20 r21 hba sba=>⟨_,_,rq,rq,Ao (by show 4<=1000;decide),λt ht=>?_⟩⟩;obtain⟨rn,rfl⟩:=Qaq r20;dsimp only;rw[show (1:Int)+(rn:Int)=((1+rn:Nat):Int) by omega];have sn:=Ag ht (.tup [.str "then",.ref t1,.ref t2,.int ((1+rn:Nat):Int)]);have sB:Aw b H7 Ha:=(Aw.of s4).trans (sb9.trans sba);have tU:Dw H7 (upd Ha t (.tup [.str "then",.ref t1,.ref t2,.int ((1+rn:Nat):Int)])):=(sB.tup hb7.N5).trans (Dw.of sn);have em:(Cd.thn cd1 cd2 (1+rn)).many=cd1.many+cd2.many+1:=rfl;exact q t (.thn cd1 cd2 (1+rn)) x2 _ (.tup (Cr Ae) (.cons (.str _) (.cons (p7.tups tU) (.cons (tv2.tups tU) (.cons (.int _) .nil))))) ⟨ok1,ok2,by omega,by omega⟩ zR (by omega) x20 ((hba.same sn).mono (by omega)) (sn _ _ (sB _ _ c7 nbl.symm)) (s07.trans ((S2.l sB).trans (S2.of sn)))
   ·refine⟨Ao (by show 2<=1000;decide),λl2 hl2=>?_⟩;have s4:=Ag hl2 (.lst [.str "and",.str "or"]);have c4:upd H7 l2 (.lst [.str "and",.str "or"]) l2=some (.lst [.str "and",.str "or"]):=Ae;have hb8:=hb7.same s4;have c8:=s4 _ _ c7;generalize upd H7 l2 (.lst [.str "and",.str "or"])=H8 at *;have hw:wy=5\/wy=6:=by omega
    obtain⟨wd,cc,hwd,ec,eo,ed,em⟩ : ∃(wd:Str) (cc:Cd),atI [V.str "and",.str "or"] (wy - 5)=some (.str wd)/\cc.data=.tuple [.str wd,cd1.data,cd2.data]/\cc.ok/\cc.deep=max cd1.deep cd2.deep+1/\cc.many=cd1.many+cd2.many+1:=by
     rcases hw with rfl | rfl
     ·exact⟨"and",.both cd1 cd2,rq,rq,⟨ok1,ok2⟩,rq,rq⟩
     ·exact⟨"or",.any cd1 cd2,rq,rq,⟨ok1,ok2⟩,rq,rq⟩
    refine⟨_,rq,_,_,rq,rq,l2,_,_,_,rq,rq,SqL.of c4,hwd,_,rq,_,rq,Ao (by show 3<=1000;decide),λt ht=>?_⟩;have sn:=s4.trans (Ag ht (.tup [.str wd,.ref t1,.ref t2]));refine q t cc x2 _ ?_ eo (by omega) (by omega) x20 ((hb7.same sn).mono (by omega)) (sn _ _ c7) (s07.trans (S2.of sn));unfold Cv;rw[ec];exact .tup (Cr Ae) (.cons (.str _) (.cons (p7.tups (Dw.of sn)) (.cons (tv2.tups (Dw.of sn)) .nil)))
  ·refine⟨_,rq,_,_,rq,rq,_,rq,Q9 (λh4=>?_) (λh4=>hR _ _ ⟨way,w0,w1,λz=>absurd (show (4:Int) < way from z) (QaT h4),rq,rq⟩)⟩
   refine⟨_,rq,lf,_,_,_,rq,rq,SqL.of c2,rq,_,_,rq,rq,_,rq,Q9 (λh5=>hR _ _ ⟨4,by decide,by decide,λz=>absurd z (by decide),rq,rq⟩) (λh5=>hR _ _ ⟨way,w0,w1,λ_=>?_,rq,rq⟩)⟩;have h5:¬(x - 1 < 2):=QaT h5;omega
 intro k
 induction k with
 | zero=>exact step 0 2 (λ_ _ _ _=>False) (λe he=>absurd he (by omega)) (c.good Ec (λvs H Q E h=>h.elim) (λf cdv A outer s H vs Q E hr h=>h.elim)) (by decide) (by decide)
 | succ e ih=>exact step (e+1) (3+e) (Vo e) (λd hd vs H Q E h=>⟨d,by omega,h⟩) ih (by omega) (by omega)
end
abbrev O1:Stmt:=top 52
abbrev Kl:YF:=["_law_bag_here"]
theorem Hx:Bo ["_law_bag_here","_law_rows","_law_names_here","_law_turn","_law_condition_here","_law_name_here"] Kl (Ar O1):=by ac_rfl
def Yo:Sp:=λvs H Q _=>∃(b:Addr) (m:Nat),vs=[.ref b]/\BL H b m/\m<=4000/\∀(t:Addr) (rs:List Ru) (H':Hp),Rep (onl H') (.ref t) (.tuple (rs.map Ru.data))->(∀r∈rs,r.ok)->1<=rs.length->rs.length<=16->BL H' b (m+1500)->Aw b H H'->Q (.ref t) H'
theorem AW {r i:Int} (r0:0<=r) (r6:r < 4):∃n:Nat,atI [V.int (1+r),.int 16] (if decide (V.int i=V.int 0)=true then 1 else 0)=some (.int n)/\1<=n/\n<=16:=by
 split
 ·exact⟨16,rq,by decide,by decide⟩
 ·exact⟨(1+r).toNat,(by rw[Int.toNat_of_nonneg (by omega)];rfl),by omega,by omega⟩
theorem at2 {a b:V} {i:Int} (h0:0<=i) (h2:i < 2):∃v,atI [a,b] i=some v/\(v=a\/v=b):=by
 have:i=0\/i=1:=by omega
 rcases this with rfl | rfl
 ·exact⟨a,rq,.inl rfl⟩
 ·exact⟨b,rq,.inr rfl⟩
def RI (b lr ln:Addr) (m:Nat) (ys:YF) (H:Hp):YN:=λi U HH=>∃(u3 u4 u5:Option V) (xs:YG) (us:List Ru),U=[js b,js lr,js ln,u3,u4,u5]/\HH lr=some (.lst xs)/\Bk (onl HH) xs (us.map Ru.data)/\us.length=i/\(∀u∈us,u.ok)/\BL HH b (m+40+80*i)/\Cu HH ln ys/\Aw b H HH
section
variable {P:Program} {w:World} {K:YD} {mg:YB} {base:Heap}
theorem iB (c:Code K mg "_law_rules" O1 Kl) (T:Tc mg) (Bj:Good P w K mg base "_law_take" 1 Fw Kd) (Rf:Good P w K mg base "_law_name" 2 JF V4) (eE:Good P w K mg base "_law_names" 3 Km Yq) (GQ:Good P w K mg base "_law_condition" 8 Ez (Vo 5)):Good P w K mg base "_law_rules" 9 Kl Yo:=by
 refine c.good Hx (λvs H Q E h=>?_) (λf cdv A outer s H vs Q E hr h=>?_)
 ·obtain⟨b,m,rfl,_⟩:=h;rfl
 obtain⟨b,m,rfl,hb,hm,q⟩:=h;refine⟨_,(@Ad _ _ _ _ _ (@Bf _ _ 1 _ _ _ _ Hx.nd rfl (Or.inl rfl) (Dj Ab) (by rfl) (by first | exact .inl rfl | exact .inr rfl))
 (@Ad _ _ _ _ _ (@Bf _ _ 2 _ _ _ _ Hx.nd rfl (Or.inl rfl) (Am eE hr (Aa (pv 0) (Aa Ac Ab))) (by rfl) (by first | exact .inl rfl | exact .inr rfl))
 (@Ad _ _ _ _ _ (Ih QbD rfl (FW rfl T.range (Aa (@Ba _ _ _ _ _ _ _ Br (Dj (Aa (@Aq _ _ _ _ _ _ _ _ Dd Ac (Am Bj hr (Aa (pv 0) (Aa Ac Ab)))) (Aa Ac Ab))) (Dr Pu rfl T.int LQ (Aa (Dy BK (Am Bj hr (Aa (pv 0) (Aa Ac Ab))) Ac (Bc _)) Ab)) (λ_ _=>rfl)) Ab)) (Az (i:=3) Hx.nd rfl (Or.inl rfl))
 (@Ad _ _ _ _ _ (@Bf _ _ 4 _ _ _ _ Hx.nd rfl (Or.inl rfl) (Am GQ hr (@Aa _ _ _ _ _ (pv 0) (@Aa _ _ _ _ _ (@Ac _ _ _ _) (@Aa _ _ _ _ _ (Dj (Aa (@Aq _ _ _ _ _ _ _ _ Dd Ac (Am Bj hr (Aa (pv 0) (Aa Ac Ab)))) Ab)) (@Aa _ _ _ _ _ (pv 2) (@Aa _ _ _ _ _ (pv 2) (@Ab _) Dt) Dt) bR) BJ) Dt)) (by rfl) (by first | exact .inl rfl | exact .inr rfl))
 (@Ah _ _ _ (Bg (Av BK (Am Bj hr (Aa (pv 0) (Aa Ac Ab))) Ac (Bc _)) (@Ad _ _ _ _ _ (@Bf _ _ 5 _ _ _ _ Hx.nd rfl (Or.inl rfl) (@Ba _ _ _ _ _ _ _ Br (Dj (Aa (Am Rf hr (Aa (pv 0) Ab)) (Aa (@Ba _ _ _ _ _ _ _ Br (pv 2) (Am Bj hr (Aa (pv 0) (Aa Ac Ab))) (λ_ _=>rfl)) Ab))) (Am Bj hr (Aa (pv 0) (Aa Ac Ab))) (λ_ _=>rfl)) (by rfl) (by first | exact .inl rfl | exact .inr rfl))
 (@Ah _ _ _ (Jg (Dz Qap Qan Qao En (pv 1) (Aa (Bl (Aa Af (Aa (pv 5) (Aa (pv 4) Ab)))) Ab))))) (@Ah _ _ _ (Jg (Dz Qap Qan Qao En (pv 1) (Aa (Bl (Aa Af (Aa (@Aq _ _ _ _ _ _ _ _ Dd Ac (Am Bj hr (Aa (pv 0) (Aa Ac Ab)))) (Aa (pv 4) Ab)))) Ab))))))))
 (@Ah _ _ _ (@Ak _ _ _ _ (Dr KC rfl T.tuple IW (Aa (pv 1) Ab))))))),?_⟩
 show let R0:TS:=_;let R1:TS:=_;let R2:TS:=Al _ R1;let R3:TS:=_;let R4:TS:=BX _ R2 R3;let R5:TS:=Al _ R4;let R6:TS:=Al (K5 _ _ R5) R0;let R7:TS:=Al _ R6;Al _ R7 _ _ _;intro R0 R1 R2 R3 R4 R5 R6 R7;refine⟨Ao (by show 0<=1000;decide),λlr hlr=>?_⟩;have sr:=Ag hlr (.lst []);have cr:upd H lr (.lst []) lr=some (.lst []):=Ae;have nbr:b≠lr:=hb.nb hlr;have hb1:=hb.same sr;have sb1:Aw b H (upd H lr (.lst [])):=Aw.of sr;generalize upd H lr (.lst [])=H1 at *;refine⟨_,rq,b,m,4,rq,hb1,by omega,by omega,λln ys H2 fln hys hyo hyn hln hb2 sb2=>?_⟩;have nbn:b≠ln:=hb1.nb fln;have nnr:ln≠lr:=λz=>by rw[z,cr] at fln;cases fln
 have cr2:=sb2 _ _ cr nbr.symm;have hz2:Cu H2 ln ys:=⟨hln,by omega,by omega,hyo⟩;refine⟨_,rq,b,_,4,rq,hb2,by omega,by decide,by decide,λr H3 r0 r1 hb3 sb3=>⟨_,_,rq,rq,Ao (by show 2<=1000;decide),λl3 hl3=>?_⟩⟩;have s4:=Ag hl3 (.lst [.int (1+r),.int 16]);have c4:upd H3 l3 (.lst [.int (1+r),.int 16]) l3=some (.lst [.int (1+r),.int 16]):=Ae;have nb3:b≠l3:=hb3.nb hl3;have hb4:=hb3.same s4;have s24:Aw b H2 (upd H3 l3 (.lst [.int (1+r),.int 16])):=sb3.trans (Aw.of s4);show tCB _ _ _ (upd H3 l3 (.lst [.int (1+r),.int 16])) _;generalize upd H3 l3 (.lst [.int (1+r),.int 16])=H4 at *;refine⟨_,rq,b,_,4,rq,hb4,by omega,by decide,by decide,λr2 H5 r20 r21 hb5 sb5=>?_⟩;obtain⟨n,hn,n1,n16⟩:=AW (i:=r2) r0 r1;refine⟨rq,.inr ⟨_,rq,l3,_,_,_,rq,rq,SqL.of (sb5 _ _ c4 nb3.symm),hn,_,rq,by omega,by omega,?_⟩⟩;rw[Qbh];have s25:=s24.trans sb5;have hcr:∀{HX:Hp},Aw b H2 HX->HX lr=some (.lst []):=λsx=>sx _ _ cr2 nbr.symm;refine Hu (RI b lr ln m ys H) ⟨none,none,none,[],[],rq,hcr s25,.nil,rq,(λx hx=>by cases hx),hb5.mono (by omega),hz2.Fy s25 nbn.symm,sb1.trans (sb2.trans s25)⟩ (λi U HH hi h=>?_) (fun U HH h=>?_)
 ·obtain⟨u3,u4,u5,xs,us,rfl,e1,e2,e3,e3o,e4,e5,e6⟩:=h;have lx:=Bk.len e2;rw[Qbw] at lx;refine⟨_,rq,_,rq,b,_,20,rq,e4,by omega,by decide,by decide,λr3 H6 r30 r31 hb6 sb6=>⟨_,_,rq,rq,Ao (by show 1<=1000;decide),λlf hlf=>?_⟩⟩;have s7:=Ag hlf (.lst [.int (1+r3)]);have c7:upd H6 lf (.lst [.int (1+r3)]) lf=some (.lst [.int (1+r3)]):=Ae;have nbf:b≠lf:=hb6.nb hlf;have s67:Aw b HH (upd H6 lf (.lst [.int (1+r3)])):=sb6.trans (Aw.of s7);have ff:HH lf=none:=sb6.free hb6.ex hlf;have nfn:lf≠ln:=λz=>by rw[z,e5.1] at ff;cases ff
  have nfr:lf≠lr:=λz=>by rw[z,e1] at ff;cases ff
  have hb7:=hb6.same s7;have hz7:Cu (upd H6 lf (.lst [.int (1+r3)])) ln ys:=e5.Fy s67 nbn.symm;generalize upd H6 lf (.lst [.int (1+r3)])=H7 at *;refine⟨_,rq,_,rq,5,by decide,b,lf,ln,_,_,ys,rq,hb7,by omega,by omega,nbf,nbn,nfn,hz7,c7,λt cd x' H8 tv ok dp ex x0 hb8 c8 s8=>?_⟩;have mm:cd.many<=20:=by omega
  have s08:Aw b HH H8:=λc o e n=>s8 _ _ (s67 _ _ e n) n (λz=>by rw[z,ff] at e;cases e);refine⟨_,rq,b,_,2,rq,hb8,by omega,by decide,by decide,λr4 H9 r40 r41 hb9 sb9=>⟨rq,_,rq,?_⟩⟩;have fin:∀(HA:Hp) (k:Nat) (u:Ru) (s3 s4 s5:Option V),BL HA b (m+40+80*i+k)->k<=80->Aw b H8 HA->u.ok->u.c=cd->∀ta,HA ta=none->RI b lr ln m ys H (i+1) [js b,js lr,js ln,s3,s4,s5] (upd (upd HA ta (.tup [.str u.kw,u.yv,.ref t])) lr (.lst (xs++[.ref ta]))):=λHA k u s3 s4 s5 hbA hk sA uo uc ta hta=>by
   have sn:=Ag hta (.tup [.str u.kw,u.yv,.ref t]);have s0A:=s08.trans (sA.trans (Aw.of sn));have cA:=s0A _ _ e1 nbr.symm;have tu:=Dw.upd (H:=upd HA ta (.tup [.str u.kw,u.yv,.ref t])) (b:=lr) (o:=.lst (xs++[.ref ta])) (aA cA);refine⟨_,_,_,xs++[.ref ta],us++[u],rq,Ae,?_,by rw[QaM,e3];rfl,λv hv=>?_,((hbA.same sn).Fy Aw.upd nbr).mono (by omega),Cu.Fy (e5.Fy s0A nbn.symm) Aw.upd nnr,Aw.lA (e6.trans s0A) Aw.upd hlr⟩
   ·rw[Qbx];refine Bk.app (Bk.same (Fx ((s0A.tup e4.N5).trans tu)) e2) (.cons ?_ .nil);refine Vq (Cr (tu _ _ Ae)) ?_;rw[uc];exact tv.tups ((sA.tup hb8.N5).trans ((Dw.of sn).trans tu))
   ·rcases Qby.mp hv with hv | hv
    ·exact e3o v hv
    ·rw[QaO.mp hv];exact uo
  have hz8:=hz7.s2 s8 nbn.symm nfn.symm;have hz9:=hz8.Fy sb9 nbn.symm;have g1:=(s08.trans sb9) _ _ e1 nbr.symm;refine ifN (λ_=>?_) (λ_=>?_)
  ·refine⟨_,rq,b,_,rq,hb9,by omega,λz HA z1 z8 zo hbA sA=>?_⟩;have hzA:=hz9.Fy sA nbn.symm;refine⟨_,rq,_,rq,b,_,4,rq,hbA,by omega,by decide,by decide,λr5 HB r50 r51 hbB sB=>?_⟩;obtain⟨rn,rfl⟩:=Qaq r50;have hzB:=hzA.Fy sB nbn.symm;obtain⟨y,hy,ny⟩:=aj hzB (i:=rn) (by omega);refine⟨ln,_,_,_,rq,rq,SqL.of hzB.1,hy,Ao (by show 2<=1000;decide),λl2 hl2=>?_⟩;have sn2:=Ag hl2 (.lst [.str z,.str y]);have c2:upd HB l2 (.lst [.str z,.str y]) l2=some (.lst [.str z,.str y]):=Ae;have nb2:b≠l2:=hbB.nb hl2;have yV:=hbB.same sn2;generalize upd HB l2 (.lst [.str z,.str y])=HB2 at *;refine⟨_,rq,b,_,2,rq,yV,by omega,by decide,by decide,λr6 HC r60 r61 hbC sC=>?_⟩;obtain⟨v,hv,vv⟩:=at2 (a:=.str z) (b:=.str y) r60 r61;obtain⟨zz,rfl,nz⟩ : ∃zz,v=.str zz/\Mu zz:=by
    rcases vv with rfl | rfl
    ·exact⟨z,rq,z1,z8,zo⟩
    ·exact⟨y,rq,ny⟩
   have sAC:Aw b H9 HC:=sA.trans (sB.trans ((Aw.of sn2).trans sC));have gC:=sAC _ _ g1 nbr.symm;refine⟨l2,_,_,_,rq,rq,SqL.of (sC _ _ c2 nb2.symm),hv,?_⟩;refine⟨_,rq,.inl ⟨rq,_,SqL.of gC⟩,_,rq,_,rq,Ao (by show 3<=1000;decide),λta hta=>?_⟩;exact⟨lr,_,_,rq,rq,Ag hta _ _ _ gC,Ca (by omega),fin HC (1+3*cd.many+1+9+1+1) (.term zz cd) _ _ _ (hbC.mono (by omega)) (by omega) (sb9.trans sAC) ⟨nz,ok,dp,mm⟩ rfl ta hta⟩
  ·refine⟨_,rq,.inl ⟨rq,_,SqL.of g1⟩,_,rq,b,_,99,rq,hb9,by omega,by decide,by decide,λr5 HA r50 r51 hbA sA=>⟨_,_,rq,rq,_,rq,Ao (by show 3<=1000;decide),λta hta=>?_⟩⟩;obtain⟨rn,rfl⟩:=Qaq r50;have e1n:(1:Int)+(rn:Int)=((1+rn:Nat):Int):=by omega
   refine⟨lr,_,_,rq,rq,Ag hta _ _ _ (sA _ _ g1 nbr.symm),Ca (by omega),?_⟩;dsimp only;rw[e1n];exact fin HA (1+3*cd.many+1+1) (.sound (1+rn) cd) _ _ _ (hbA.mono (by omega)) (by omega) (sb9.trans sA) ⟨⟨by omega,by omega⟩,ok,dp,mm⟩ rfl ta hta
 ·obtain⟨u3,u4,u5,xs,us,rfl,e1,e2,e3,e3o,e4,e5,e6⟩:=h;refine⟨_,rq,lr,_,rq,.inl ⟨SqL.of e1,λt ht=>?_⟩⟩;have st:=Ag ht (.tup xs);exact q t us _ (.tup (Cr Ae) (Bk.same (Fx (Dw.of st)) e2)) e3o (by omega) (by omega) ((e4.same st).mono (by omega)) (e6.trans (Aw.of st))
end
abbrev QM:Stmt:=top 53
abbrev Lf:YF:=["_law_condition_here"]
theorem Jc:Bo ["_law_condition_here","_law_word","_law_ending","_law_one","_law_other"] Lf (Ar QM):=by ac_rfl
theorem wsz:∀w∈[("of":Str),"term","key","hours","not","and","or","then"],w.cps.size<=5:=by trivial
theorem Ov {n:Nat} (h:n < 100):(PyData.int (n:Int)).weight<=7/\(PyData.int (n:Int)).shown.length<=13/\(n:Int).natAbs.log2 < 1920:=by
 have key:∀n,n < 100->(PyData.int ((n:Nat):Int)).weight<=7/\(PyData.int ((n:Nat):Int)).shown.length<=13:=by trivial
 exact⟨(key n h).1,(key n h).2,FJ h⟩
theorem bC (z:Str):(PyData.str z).weight=z.length:=by simp only[PyData.weight];rfl
theorem uy:∀{c:Cd},c.ok->c.data.weight<=40*c.many/\c.data.intsShort 13=true/\c.data.showable=true:=by
 have w1:(PyData.str "of").weight<=5:=wsz _ (by simp);have w2:(PyData.str "term").weight<=5:=wsz _ (by simp);have w3:(PyData.str "key").weight<=5:=wsz _ (by simp);have w4:(PyData.str "hours").weight<=5:=wsz _ (by simp);have w5:(PyData.str "not").weight<=5:=wsz _ (by simp);have w6:(PyData.str "and").weight<=5:=wsz _ (by simp);have w7:(PyData.str "or").weight<=5:=wsz _ (by simp);have w8:(PyData.str "then").weight<=5:=wsz _ (by simp);intro c
 induction c with
 | off n z=>
  intro h;have k0:=Ov (n:=n) (by have:=h.2.1;omega);have k1:=bC z;have k2:=h.2.2.2.1;refine⟨?_,?_,?_⟩
  ·have e:(PyData.tuple [.str "of",.int n,.str z]).weight=(PyData.str "of").weight+1+((PyData.int (n:Int)).weight+1+((PyData.str z).weight+1+0)):=by simp only[PyData.weight,PyData.weightAll]
   show (PyData.tuple [.str "of",.int n,.str z]).weight<=40*1;rw[e];omega
  ·simp only[Cd.data,PyData.intsShort,PyData.intsShortAll,k0.2.1,QbS,Qci]
  ·simp only[Cd.data,PyData.showable,PyData.showableAll,k0.2.2,Qci,QbS]
 | term z=>
  intro h;have k1:=bC z;have k2:=h.2.1;refine⟨?_,?_,?_⟩
  ·have e:(PyData.tuple [.str "term",.str z]).weight=(PyData.str "term").weight+1+((PyData.str z).weight+1+0):=by simp only[PyData.weight,PyData.weightAll]
   show (PyData.tuple [.str "term",.str z]).weight<=40*1;rw[e];omega
  ·simp only[Cd.data,PyData.intsShort,PyData.intsShortAll,QbQ,QbS,Qci]
  ·simp only[Cd.data,PyData.showable,PyData.showableAll,QbQ,Qci,QbS]
 | key k=>
  intro h;have k0:=Ov (n:=k) (by have h:k<=9:=h;omega);refine⟨?_,?_,?_⟩
  ·have e:(PyData.tuple [.str "key",.int k]).weight=(PyData.str "key").weight+1+((PyData.int (k:Int)).weight+1+0):=by simp only[PyData.weight,PyData.weightAll]
   show (PyData.tuple [.str "key",.int k]).weight<=40*1;rw[e];omega
  ·simp only[Cd.data,PyData.intsShort,PyData.intsShortAll,k0.2.1,QbS,Qci]
  ·simp only[Cd.data,PyData.showable,PyData.showableAll,k0.2.2,Qci,QbS]
 | hours a b=>
  intro h;have h:a<=23/\b<=23:=h;have k0:=Ov (n:=a) (by omega);have k1:=Ov (n:=b) (by omega);refine⟨?_,?_,?_⟩
  ·have e:(PyData.tuple [.str "hours",.int a,.int b]).weight=(PyData.str "hours").weight+1+((PyData.int (a:Int)).weight+1+((PyData.int (b:Int)).weight+1+0)):=by simp only[PyData.weight,PyData.weightAll]
   show (PyData.tuple [.str "hours",.int a,.int b]).weight<=40*1;rw[e];omega
  ·simp only[Cd.data,PyData.intsShort,PyData.intsShortAll,k0.2.1,k1.2.1,QbS,Qci]
  ·simp only[Cd.data,PyData.showable,PyData.showableAll,k0.2.2,k1.2.2,Qci,QbS]
 | neg c ih=>
  intro h;have k0:=ih h;refine⟨?_,?_,?_⟩
  ·have e:(PyData.tuple [.str "not",Cd.data c]).weight=(PyData.str "not").weight+1+((Cd.data c).weight+1+0):=by simp only[PyData.weight,PyData.weightAll]
   show (PyData.tuple [.str "not",Cd.data c]).weight<=40*(c.many+1);rw[e];omega
  ·simp only[Cd.data,PyData.intsShort,PyData.intsShortAll,k0.2.1,QbS,Qci]
  ·simp only[Cd.data,PyData.showable,PyData.showableAll,k0.2.2,Qci,QbS]
 | both c d ih1 ih2=>
  intro h;have k0:=ih1 h.1;have k1:=ih2 h.2;refine⟨?_,?_,?_⟩
  ·have e:(PyData.tuple [.str "and",Cd.data c,Cd.data d]).weight=(PyData.str "and").weight+1+((Cd.data c).weight+1+((Cd.data d).weight+1+0)):=by simp only[PyData.weight,PyData.weightAll]
   show (PyData.tuple [.str "and",Cd.data c,Cd.data d]).weight<=40*(c.many+d.many+1);rw[e];omega
  ·simp only[Cd.data,PyData.intsShort,PyData.intsShortAll,k0.2.1,k1.2.1,QbS,Qci]
  ·simp only[Cd.data,PyData.showable,PyData.showableAll,k0.2.2,k1.2.2,Qci,QbS]
 | any c d ih1 ih2=>
  intro h;have k0:=ih1 h.1;have k1:=ih2 h.2;refine⟨?_,?_,?_⟩
  ·have e:(PyData.tuple [.str "or",Cd.data c,Cd.data d]).weight=(PyData.str "or").weight+1+((Cd.data c).weight+1+((Cd.data d).weight+1+0)):=by simp only[PyData.weight,PyData.weightAll]
   show (PyData.tuple [.str "or",Cd.data c,Cd.data d]).weight<=40*(c.many+d.many+1);rw[e];omega
  ·simp only[Cd.data,PyData.intsShort,PyData.intsShortAll,k0.2.1,k1.2.1,QbS,Qci]
  ·simp only[Cd.data,PyData.showable,PyData.showableAll,k0.2.2,k1.2.2,Qci,QbS]
 | thn c d n ih1 ih2=>
  intro h;have k0:=ih1 h.1;have k1:=ih2 h.2.1;have k2:=Ov (n:=n) (by have:=h.2.2.2;omega);refine⟨?_,?_,?_⟩
  ·have e:(PyData.tuple [.str "then",Cd.data c,Cd.data d,.int n]).weight=(PyData.str "then").weight+1+((Cd.data c).weight+1+((Cd.data d).weight+1+((PyData.int (n:Int)).weight+1+0))):=by simp only[PyData.weight,PyData.weightAll]
   show (PyData.tuple [.str "then",Cd.data c,Cd.data d,.int n]).weight<=40*(c.many+d.many+1);rw[e];omega
  ·simp only[Cd.data,PyData.intsShort,PyData.intsShortAll,k0.2.1,k1.2.1,k2.2.1,QbS,Qci]
  ·simp only[Cd.data,PyData.showable,PyData.showableAll,k0.2.2,k1.2.2,k2.2.2,Qci,QbS]
theorem PX {k:Nat} {A:Around} (r:DK k A):A.units+128 < cLine:=by have:=r.un;omega
theorem Xm {c:Cd} (h:c.ok) (hd:c.deep<=6) (hm:c.many<=20):c.data.showable=true/\c.data.hasDict=false/\c.data.depth<=64/\c.data.shown.length<=20000:=by
 obtain⟨k1,k2,k3⟩:=uy h;have s:=ZL h;refine⟨k3,PyData.hasDict_of_canLay _ s.lay,Qca s.dep (by omega),?_⟩;have:=PyData.shown_le 13 (by decide) c.data (PyData.leavesShort_of_canLay0 13 _ s.lay k2);omega
theorem fH {c:Cd} {H:Hp} {v:V} (h:Rep H v c.data):∃a,v=.ref a:=by
 cases c <;> (cases h;exact⟨_,rq⟩)
theorem kw2:L (Str.ofString " ")++(L (Str.ofString "then")++L (Str.ofString " "))=L " then ":=by trivial
theorem tW {w:Str} {a b:V} (h:w≠"then"):atI [a,b] (if decide (V.str w=V.str "then")=true then 1 else 0)=some a:=by
 rw[if_neg (by rw[Qbv (λz=>h (by injection z))];decide)];rfl
theorem AU {a b:V}:atI [a,b] (if decide (V.str (Str.ofString "then")=V.str "then")=true then 1 else 0)=some b:=by
 rw[if_pos (by rw[QbN rfl])];rfl
def bT (D:Nat):Sp:=λvs H Q _=>∃(v:V) (c:Cd),vs=[v]/\Rep H v c.data/\c.ok/\c.deep<=D/\c.deep<=6/\c.many<=20/\∀H',Same H H'->Q (.str (S c.txt)) H'
section
variable {P:Program} {w:World} {K:YD} {mg:YB} {base:Heap}
theorem nF (C:Code K mg "_law_text" QM Lf) (T:Tc mg):∀D,Good P w K mg base "_law_text" (1+D) Lf (bT D):=by
 intro D
 induction D with
 | zero=>
  refine C.good Jc (λvs H Q E h=>?_) (λf cdv A outer s H vs Q E hr h=>?_)
  ·obtain⟨v,c,_,_,_,h0,_⟩:=h;have:=c.KQ;omega
  ·obtain⟨v,c,_,_,_,h0,_⟩:=h;have:=c.KQ;omega
 | succ D Lx=>
 refine C.good Jc (λvs H Q E h=>?_) (λf cdv A outer s H vs Q E hr h=>?_)
 ·obtain⟨v,c,rfl,_⟩:=h;rfl
 obtain⟨v,c,rfl,rd,ok,hd,h6,hm,q⟩:=h;have sc:=Jc;refine⟨_,(@Ad _ _ _ _ _ (@Bf _ _ 1 _ _ _ _ Jc.nd rfl (Or.inl rfl) (@Ba _ _ _ _ _ _ _ Bm (pv 0) Ac (λ_ _=>rfl)) (by rfl) (by first | exact .inl rfl | exact .inr rfl))
 (@Ad _ _ _ _ _ (Bg (Av BK (pv 1) Af (Bc _)) (@Ah _ _ _ (@Ak _ _ _ _ (@Aq _ _ _ _ _ _ _ _ Bb (@Aq _ _ _ _ _ _ _ _ Bb (Dr (HN hr.gd (PX hr)) rfl T.str GR (Aa (@Ba _ _ _ _ _ _ _ Bm (pv 0) Ac (λ_ _=>rfl)) Ab)) Af) (@Ba _ _ _ _ _ _ _ Bm (pv 0) Ac (λ_ _=>rfl))))) Ay)
 (@Ad _ _ _ _ _ (Bg (Av Pa (pv 1) (Bl (Aa Af (Aa Af Ab))) (by with_unfolding_all rfl)) (@Ah _ _ _ (@Ak _ _ _ _ (@Aq _ _ _ _ _ _ _ _ Bb (@Aq _ _ _ _ _ _ _ _ Bb (pv 1) Af) (Dr (HN hr.gd (PX hr)) rfl T.str GR (Aa (@Ba _ _ _ _ _ _ _ Bm (pv 0) Ac (λ_ _=>rfl)) Ab))))) Ay)
 (@Ad _ _ _ _ _ (Bg (Av BK (pv 1) Af (Bc _)) (@Ah _ _ _ (@Ak _ _ _ _ (@Aq _ _ _ _ _ _ _ _ Bb (@Aq _ _ _ _ _ _ _ _ Bb (@Aq _ _ _ _ _ _ _ _ Bb Af (Dr (HN hr.gd (PX hr)) rfl T.str GR (Aa (@Ba _ _ _ _ _ _ _ Bm (pv 0) Ac (λ_ _=>rfl)) Ab))) Af) (Dr (HN hr.gd (PX hr)) rfl T.str GR (Aa (@Ba _ _ _ _ _ _ _ Bm (pv 0) Ac (λ_ _=>rfl)) Ab))))) Ay)
 (@Ad _ _ _ _ _ (Bg (Av BK (pv 1) Af (Bc _)) (@Ah _ _ _ (@Ak _ _ _ _ (@Aq _ _ _ _ _ _ _ _ Bb Af (Am (hk:=(Qcf _)) Lx hr (Aa (@Ba _ _ _ _ _ _ _ Bm (pv 0) Ac (λ_ _=>rfl)) Ab))))) Ay)
 (@Ad _ _ _ _ _ (@Bf _ _ 2 _ _ _ _ Jc.nd rfl (Or.inl rfl) (@Ba _ _ _ _ _ _ _ Br (Dj (Aa Af (Aa (@Aq _ _ _ _ _ _ _ _ Bb (@Aq _ _ _ _ _ _ _ _ Bb Af (Dr (HN hr.gd (PX hr)) rfl T.str GR (Aa (@Ba _ _ _ _ _ _ _ Bm (pv 0) (Vs Rp Ac) (λ_ _=>rfl)) Ab))) Af) Ab))) (Dr Pu rfl T.int LQ (Aa (Dy BK (pv 1) Af (Bc _)) Ab)) (λ_ _=>rfl)) (by rfl) (by first | exact .inl rfl | exact .inr rfl))
 (@Ad _ _ _ _ _ (qN (i:=3) (j:=4) rfl Jc.nd rfl rfl (by decide) rfl rfl (Aa (Am (hk:=(Qcf _)) Lx hr (Aa (@Ba _ _ _ _ _ _ _ Bm (pv 0) Ac (λ_ _=>rfl)) Ab)) (Aa (Am (hk:=(Qcf _)) Lx hr (Aa (@Ba _ _ _ _ _ _ _ Bm (pv 0) Ac (λ_ _=>rfl)) Ab)) Ab)) rfl)
 (@Ah _ _ _ (@Ak _ _ _ _ (@Aq _ _ _ _ _ _ _ _ Bb (@Aq _ _ _ _ _ _ _ _ Bb (@Aq _ _ _ _ _ _ _ _ Bb (@Aq _ _ _ _ _ _ _ _ Bb (@Aq _ _ _ _ _ _ _ _ Bb (@Aq _ _ _ _ _ _ _ _ Bb Af (pv 3)) Af) (pv 1)) Af) (pv 4)) (pv 2))))))))))),?_⟩
 show let R0:TS:=_;let R1:TS:=Al _ R0;let R2:TS:=Al _ R1;let R3:TS:=_;let R4:TS:=Al (BX _ R3 _) R2;let R5:TS:=_;let R6:TS:=Al (BX _ R5 _) R4;let R7:TS:=_;let R8:TS:=Al (BX _ R7 _) R6;let R9:TS:=_;let R10:TS:=Al (BX _ R9 _) R8;Al _ R10 _ _ _;intro R0 R1 R2 R3 R4 R5 R6 R7 R8 R9 R10;have fin:∀(y:Str) (H':Hp),Same H H'->L y=c.txt->Q (.str y) H':=λy H' s e=>by
  rw[show y=S c.txt from Ir e]
  exact q H' s
 obtain⟨l0,l1,l2,l3,l4,l5,l6,l7,l8,l9,l10,l11,l12,l13,_⟩:=ll;obtain⟨kt,kk,ka,ko,_⟩:=kw1;have kn:=kw2;have l17:(Str.ofString "then").length=4:=by trivial
 cases c with
 | off n z=>
  cases rd with
  | @tup t xs _ ht rs=>
  cases rs with
  | cons r1 rs=>
  cases rs with
  | cons r2 rs=>
  cases rs with
  | cons r3 rs=>
  cases rs;cases r1;cases r2;cases r3;obtain⟨h1,h2,h3,h4,h5⟩:=ok;have hn:=G5 (n:=n) (by omega);refine⟨_,rq,t,_,_,_,rq,rq,SqT.of ht,Aj (j:=0) rfl,?_⟩;refine⟨_,rq,rq,_,rq,ifS (λ_=>?_) (λz=>absurd rfl z)⟩;exact⟨_,rq,t,_,_,_,rq,rq,SqT.of ht,Aj (j:=1) rfl,.inl ⟨_,rq,FJ (by omega),_,_,rq,rq,szb (by simp only[QaY,l0,l1,l2,l3,l4,l5,l6,l7,l8,l9,l10,l11,l12,l13,l17,Ai];omega),_,rq,t,_,_,_,rq,rq,SqT.of ht,Aj (j:=2) rfl,_,_,rq,rq,szb (by simp only[QaY,l0,l1,l2,l3,l4,l5,l6,l7,l8,l9,l10,l11,l12,l13,l17,Ai];omega),fin _ _ (Same.refl _) (by simp only[Dk,Fp,Qbz,QaZ,L_S];rfl)⟩⟩
 | term z=>
  cases rd with
  | @tup t xs _ ht rs=>
  cases rs with
  | cons r1 rs=>
  cases rs with
  | cons r2 rs=>
  cases rs;cases r1;cases r2;obtain⟨h3,h4,h5⟩:=ok;refine⟨_,rq,t,_,_,_,rq,rq,SqT.of ht,Aj (j:=0) rfl,?_⟩;refine⟨_,rq,rq,_,rq,ifS (λz=>absurd z (by trivial)) (λ_=>?_)⟩;refine⟨_,rq,Ao (by show 2<=1000;decide),λp hp=>?_⟩;have sp:=Ag hp (.tup [.str "key",.str "term"]);have cp:upd H p (.tup [.str "key",.str "term"]) p=some (.tup [.str "key",.str "term"]):=Ae;have ht:=sp _ _ ht;generalize upd H p (.tup [.str "key",.str "term"])=H1 at *;refine⟨p,_,rq,.inr (SqT.of cp),rq,rq,_,rq,GJ (show (if false=true then !inV (.str "term") [.str "key",.str "term"] else inV (.str "term") [.str "key",.str "term"])=true by trivial) ?_⟩
  exact⟨_,rq,_,_,rq,rq,szb (by simp only[QaY,l0,l1,l2,l3,l4,l5,l6,l7,l8,l9,l10,l11,l12,l13,l17,Ai];omega),_,rq,t,_,_,_,rq,rq,SqT.of ht,Aj (j:=1) rfl,.inr (.inl ⟨_,rq,_,_,rq,rq,szb (by simp only[QaY,l0,l1,l2,l3,l4,l5,l6,l7,l8,l9,l10,l11,l12,l13,l17,Ai];omega),fin _ _ sp (by simp only[Dk,Fp,Qbz];rw[kt];rfl)⟩)⟩
 | key k=>
  cases rd with
  | @tup t xs _ ht rs=>
  cases rs with
  | cons r1 rs=>
  cases rs with
  | cons r2 rs=>
  cases rs;cases r1;cases r2;have h3:k<=9:=ok;have hn:=G5 (n:=k) (by omega);refine⟨_,rq,t,_,_,_,rq,rq,SqT.of ht,Aj (j:=0) rfl,?_⟩;refine⟨_,rq,rq,_,rq,ifS (λz=>absurd z (by trivial)) (λ_=>?_)⟩;refine⟨_,rq,Ao (by show 2<=1000;decide),λp hp=>?_⟩;have sp:=Ag hp (.tup [.str "key",.str "term"]);have cp:upd H p (.tup [.str "key",.str "term"]) p=some (.tup [.str "key",.str "term"]):=Ae;have ht:=sp _ _ ht;generalize upd H p (.tup [.str "key",.str "term"])=H1 at *;refine⟨p,_,rq,.inr (SqT.of cp),rq,rq,_,rq,GJ (show (if false=true then !inV (.str "key") [.str "key",.str "term"] else inV (.str "key") [.str "key",.str "term"])=true by trivial) ?_⟩
  exact⟨_,rq,_,_,rq,rq,szb (by simp only[QaY,l0,l1,l2,l3,l4,l5,l6,l7,l8,l9,l10,l11,l12,l13,l17,Ai];omega),_,rq,t,_,_,_,rq,rq,SqT.of ht,Aj (j:=1) rfl,.inl ⟨_,rq,FJ (by omega),_,_,rq,rq,szb (by simp only[QaY,l0,l1,l2,l3,l4,l5,l6,l7,l8,l9,l10,l11,l12,l13,l17,Ai];omega),fin _ _ sp (by simp only[Dk,Fp,Qbz];rw[kk];rfl)⟩⟩
 | hours a b=>
  cases rd with
  | @tup t xs _ ht rs=>
  cases rs with
  | cons r1 rs=>
  cases rs with
  | cons r2 rs=>
  cases rs with
  | cons r3 rs=>
  cases rs;cases r1;cases r2;cases r3;have h3:a<=23/\b<=23:=ok;have hn:=G5 (n:=a) (by omega);have hn':=G5 (n:=b) (by omega);refine⟨_,rq,t,_,_,_,rq,rq,SqT.of ht,Aj (j:=0) rfl,?_⟩;refine⟨_,rq,rq,_,rq,ifS (λz=>absurd z (by trivial)) (λ_=>?_)⟩;refine⟨_,rq,Ao (by show 2<=1000;decide),λp hp=>?_⟩;have sp:=Ag hp (.tup [.str "key",.str "term"]);have cp:upd H p (.tup [.str "key",.str "term"]) p=some (.tup [.str "key",.str "term"]):=Ae;have ht:=sp _ _ ht;generalize upd H p (.tup [.str "key",.str "term"])=H1 at *;refine⟨p,_,rq,.inr (SqT.of cp),rq,rq,_,rq,CW (show (if false=true then !inV (.str "hours") [.str "key",.str "term"] else inV (.str "hours") [.str "key",.str "term"])=false by trivial) ?_⟩
  refine⟨_,rq,rq,_,rq,ifS (λ_=>?_) (λz=>absurd rfl z)⟩;exact⟨_,rq,t,_,_,_,rq,rq,SqT.of ht,Aj (j:=1) rfl,.inl ⟨_,rq,FJ (by omega),_,_,rq,rq,szb (by simp only[QaY,l0,l1,l2,l3,l4,l5,l6,l7,l8,l9,l10,l11,l12,l13,l17,Ai];omega),_,_,rq,rq,szb (by simp only[QaY,l0,l1,l2,l3,l4,l5,l6,l7,l8,l9,l10,l11,l12,l13,l17,Ai];omega),_,rq,t,_,_,_,rq,rq,SqT.of ht,Aj (j:=2) rfl,.inl ⟨_,rq,FJ (by omega),_,_,rq,rq,szb (by simp only[QaY,l0,l1,l2,l3,l4,l5,l6,l7,l8,l9,l10,l11,l12,l13,l17,Ai];omega),fin _ _ sp (by simp only[Dk,Fp,Qbz,QaZ,L_S];rfl)⟩⟩⟩
 | neg c=>
  cases rd with
  | @tup t xs _ ht rs=>
  cases rs with
  | cons r1 rs=>
  cases rs with
  | cons r2 rs=>
  cases rs;cases r1;have hd:c.deep+1<=D+1:=hd;have h6:c.deep+1<=6:=h6;have hm:c.many+1<=20:=hm;have hc:=Ds (c:=c) ok;refine⟨_,rq,t,_,_,_,rq,rq,SqT.of ht,Aj (j:=0) rfl,?_⟩;refine⟨_,rq,rq,_,rq,ifS (λz=>absurd z (by trivial)) (λ_=>?_)⟩;refine⟨_,rq,Ao (by show 2<=1000;decide),λp hp=>?_⟩;have sp:=Ag hp (.tup [.str "key",.str "term"]);have cp:upd H p (.tup [.str "key",.str "term"]) p=some (.tup [.str "key",.str "term"]):=Ae;have ht:=sp _ _ ht;generalize upd H p (.tup [.str "key",.str "term"])=H1 at *;refine⟨p,_,rq,.inr (SqT.of cp),rq,rq,_,rq,CW (show (if false=true then !inV (.str "not") [.str "key",.str "term"] else inV (.str "not") [.str "key",.str "term"])=false by trivial) ?_⟩
  refine⟨_,rq,rq,_,rq,ifS (λz=>absurd z (by trivial)) (λ_=>?_)⟩;refine⟨_,rq,rq,_,rq,ifS (λ_=>?_) (λz=>absurd rfl z)⟩;refine⟨_,rq,t,_,_,_,rq,rq,SqT.of ht,Aj (j:=1) rfl,_,c,rq,Rep.same sp r2,ok,by omega,by omega,by omega,λH2 s2=>?_⟩;exact⟨_,_,rq,rq,szb (by simp only[QaY,l0,l1,l2,l3,l4,l5,l6,l7,l8,l9,l10,l11,l12,l13,l17,Ai];omega),fin _ _ (sp.trans s2) (by simp only[Dk,Fp,Qbz,QaZ,L_S];rfl)⟩
 | both c d=>
  cases rd with
  | @tup t xs _ ht rs=>
  cases rs with
  | cons r1 rs=>
  cases rs with
  | cons r2 rs=>
  cases rs with
  | cons r3 rs=>
  cases rs;cases r1;have hd:max c.deep d.deep+1<=D+1:=hd;have h6:max c.deep d.deep+1<=6:=h6;have hm:c.many+d.many+1<=20:=hm;have hc:=Ds (c:=c) ok.1;have hc2:=Ds (c:=d) ok.2;obtain⟨a3,rfl⟩:=fH r3;obtain⟨q1,q2,q3,q4⟩:=Xm (c:=d) ok.2 (by omega) (by omega);refine⟨_,rq,t,_,_,_,rq,rq,SqT.of ht,Aj (j:=0) rfl,?_⟩;refine⟨_,rq,rq,_,rq,ifS (λz=>absurd z (by trivial)) (λ_=>?_)⟩;refine⟨_,rq,Ao (by show 2<=1000;decide),λp hp=>?_⟩;have sp:=Ag hp (.tup [.str "key",.str "term"]);have cp:upd H p (.tup [.str "key",.str "term"]) p=some (.tup [.str "key",.str "term"]):=Ae;have ht:=sp _ _ ht;generalize upd H p (.tup [.str "key",.str "term"])=H1 at *;refine⟨p,_,rq,.inr (SqT.of cp),rq,rq,_,rq,CW (show (if false=true then !inV (.str "and") [.str "key",.str "term"] else inV (.str "and") [.str "key",.str "term"])=false by trivial) ?_⟩
  refine⟨_,rq,rq,_,rq,ifS (λz=>absurd z (by trivial)) (λ_=>?_)⟩;refine⟨_,rq,rq,_,rq,ifS (λz=>absurd z (by trivial)) (λ_=>?_)⟩;refine⟨_,rq,_,rq,t,_,_,_,rq,rq,SqT.of ht,rq,.inr (.inr ⟨a3,d.data,rq,Rep.same sp r3,q1,q2,q3,szb (by omega),_,_,rq,rq,szb (by simp only[QaY,l0,l1,l2,l3,l4,l5,l6,l7,l8,l9,l10,l11,l12,l13,l17,Ai];omega),_,_,rq,rq,szb (by simp only[QaY,l0,l1,l2,l3,l4,l5,l6,l7,l8,l9,l10,l11,l12,l13,l17,Ai];omega),Ao (by show 2<=1000;decide),λle hle=>?_⟩)⟩;have se:=Ag hle (.lst [.str ")",.str ((Str.ofString " within "++d.data.shown)++")")]);have ce:upd H1 le (.lst [.str ")",.str ((Str.ofString " within "++d.data.shown)++")")]) le=some (.lst [.str ")",.str ((Str.ofString " within "++d.data.shown)++")")]):=Ae;have s2:=sp.trans se;have ht2:=se _ _ ht;show tCB _ _ _ (upd H1 le (.lst [.str ")",.str ((Str.ofString " within "++d.data.shown)++")")])) _;generalize upd H1 le (.lst [.str ")",.str ((Str.ofString " within "++d.data.shown)++")")])=H2 at *;refine⟨_,rq,rq,.inr ⟨_,rq,le,_,_,_,rq,rq,SqL.of ce,tW (by trivial),?_⟩⟩;refine⟨_,rq,t,_,_,_,rq,rq,SqT.of ht2,Aj (j:=1) rfl,_,c,rq,Rep.same s2 r2,ok.1,by omega,by omega,by omega,λH3 s3=>?_⟩;refine⟨_,rq,t,_,_,_,rq,rq,SqT.of (s3 _ _ ht2),Aj (j:=2) rfl,_,d,rq,Rep.same (s2.trans s3) r3,ok.2,by omega,by omega,by omega,λH4 s4=>⟨_,_,rq,?_⟩⟩;refine⟨_,rq,_,_,rq,rq,szb (by simp only[QaY,l0,l1,l2,l3,l4,l5,l6,l7,l8,l9,l10,l11,l12,l13,l17,Ai];omega),_,_,rq,rq,szb (by simp only[QaY,l0,l1,l2,l3,l4,l5,l6,l7,l8,l9,l10,l11,l12,l13,l17,Ai];omega),_,rq,_,_,rq,rq,szb (by simp only[QaY,l0,l1,l2,l3,l4,l5,l6,l7,l8,l9,l10,l11,l12,l13,l17,Ai];omega),_,_,rq,rq,szb (by simp only[QaY,l0,l1,l2,l3,l4,l5,l6,l7,l8,l9,l10,l11,l12,l13,l17,Ai];omega),_,rq,_,_,rq,rq,szb (by simp only[QaY,l0,l1,l2,l3,l4,l5,l6,l7,l8,l9,l10,l11,l12,l13,l17,Ai];omega),_,rq,_,_,rq,rq,szb (by simp only[QaY,l0,l1,l2,l3,l4,l5,l6,l7,l8,l9,l10,l11,l12,l13,l17,Ai];omega),fin _ _ (s2.trans (s3.trans s4)) ?_⟩;simp only[Dk,Fp,Qbz,QaZ,L_S];show _=L "("++(c.txt++(L " and "++(d.txt++L ")")));rw[<-ka];simp only[QaZ]
 | any c d=>
  cases rd with
  | @tup t xs _ ht rs=>
  cases rs with
  | cons r1 rs=>
  cases rs with
  | cons r2 rs=>
  cases rs with
  | cons r3 rs=>
  cases rs;cases r1;have hd:max c.deep d.deep+1<=D+1:=hd;have h6:max c.deep d.deep+1<=6:=h6;have hm:c.many+d.many+1<=20:=hm;have hc:=Ds (c:=c) ok.1;have hc2:=Ds (c:=d) ok.2;obtain⟨a3,rfl⟩:=fH r3;obtain⟨q1,q2,q3,q4⟩:=Xm (c:=d) ok.2 (by omega) (by omega);refine⟨_,rq,t,_,_,_,rq,rq,SqT.of ht,Aj (j:=0) rfl,?_⟩;refine⟨_,rq,rq,_,rq,ifS (λz=>absurd z (by trivial)) (λ_=>?_)⟩;refine⟨_,rq,Ao (by show 2<=1000;decide),λp hp=>?_⟩;have sp:=Ag hp (.tup [.str "key",.str "term"]);have cp:upd H p (.tup [.str "key",.str "term"]) p=some (.tup [.str "key",.str "term"]):=Ae;have ht:=sp _ _ ht;generalize upd H p (.tup [.str "key",.str "term"])=H1 at *;refine⟨p,_,rq,.inr (SqT.of cp),rq,rq,_,rq,CW (show (if false=true then !inV (.str "or") [.str "key",.str "term"] else inV (.str "or") [.str "key",.str "term"])=false by trivial) ?_⟩
  refine⟨_,rq,rq,_,rq,ifS (λz=>absurd z (by trivial)) (λ_=>?_)⟩;refine⟨_,rq,rq,_,rq,ifS (λz=>absurd z (by trivial)) (λ_=>?_)⟩;refine⟨_,rq,_,rq,t,_,_,_,rq,rq,SqT.of ht,rq,.inr (.inr ⟨a3,d.data,rq,Rep.same sp r3,q1,q2,q3,szb (by omega),_,_,rq,rq,szb (by simp only[QaY,l0,l1,l2,l3,l4,l5,l6,l7,l8,l9,l10,l11,l12,l13,l17,Ai];omega),_,_,rq,rq,szb (by simp only[QaY,l0,l1,l2,l3,l4,l5,l6,l7,l8,l9,l10,l11,l12,l13,l17,Ai];omega),Ao (by show 2<=1000;decide),λle hle=>?_⟩)⟩;have se:=Ag hle (.lst [.str ")",.str ((Str.ofString " within "++d.data.shown)++")")]);have ce:upd H1 le (.lst [.str ")",.str ((Str.ofString " within "++d.data.shown)++")")]) le=some (.lst [.str ")",.str ((Str.ofString " within "++d.data.shown)++")")]):=Ae;have s2:=sp.trans se;have ht2:=se _ _ ht;show tCB _ _ _ (upd H1 le (.lst [.str ")",.str ((Str.ofString " within "++d.data.shown)++")")])) _;generalize upd H1 le (.lst [.str ")",.str ((Str.ofString " within "++d.data.shown)++")")])=H2 at *;refine⟨_,rq,rq,.inr ⟨_,rq,le,_,_,_,rq,rq,SqL.of ce,tW (by trivial),?_⟩⟩;refine⟨_,rq,t,_,_,_,rq,rq,SqT.of ht2,Aj (j:=1) rfl,_,c,rq,Rep.same s2 r2,ok.1,by omega,by omega,by omega,λH3 s3=>?_⟩;refine⟨_,rq,t,_,_,_,rq,rq,SqT.of (s3 _ _ ht2),Aj (j:=2) rfl,_,d,rq,Rep.same (s2.trans s3) r3,ok.2,by omega,by omega,by omega,λH4 s4=>⟨_,_,rq,?_⟩⟩;refine⟨_,rq,_,_,rq,rq,szb (by simp only[QaY,l0,l1,l2,l3,l4,l5,l6,l7,l8,l9,l10,l11,l12,l13,l17,Ai];omega),_,_,rq,rq,szb (by simp only[QaY,l0,l1,l2,l3,l4,l5,l6,l7,l8,l9,l10,l11,l12,l13,l17,Ai];omega),_,rq,_,_,rq,rq,szb (by simp only[QaY,l0,l1,l2,l3,l4,l5,l6,l7,l8,l9,l10,l11,l12,l13,l17,Ai];omega),_,_,rq,rq,szb (by simp only[QaY,l0,l1,l2,l3,l4,l5,l6,l7,l8,l9,l10,l11,l12,l13,l17,Ai];omega),_,rq,_,_,rq,rq,szb (by simp only[QaY,l0,l1,l2,l3,l4,l5,l6,l7,l8,l9,l10,l11,l12,l13,l17,Ai];omega),_,rq,_,_,rq,rq,szb (by simp only[QaY,l0,l1,l2,l3,l4,l5,l6,l7,l8,l9,l10,l11,l12,l13,l17,Ai];omega),fin _ _ (s2.trans (s3.trans s4)) ?_⟩;simp only[Dk,Fp,Qbz,QaZ,L_S];show _=L "("++(c.txt++(L " or "++(d.txt++L ")")));rw[<-ko];simp only[QaZ]
 | thn c d n=>
  cases rd with
  | @tup t xs _ ht rs=>
  cases rs with
  | cons r1 rs=>
  cases rs with
  | cons r2 rs=>
  cases rs with
  | cons r3 rs=>
  cases rs with
  | cons r4 rs=>
  cases rs;cases r1;cases r4;have hn:=G5 (n:=n) (by have:=ok.2.2.2;omega);have h20:=ok.2.2.2;have hd:max c.deep d.deep+1<=D+1:=hd;have h6:max c.deep d.deep+1<=6:=h6;have hm:c.many+d.many+1<=20:=hm;have hc:=Ds (c:=c) ok.1;have hc2:=Ds (c:=d) ok.2.1;refine⟨_,rq,t,_,_,_,rq,rq,SqT.of ht,Aj (j:=0) rfl,?_⟩;refine⟨_,rq,rq,_,rq,ifS (λz=>absurd z (by trivial)) (λ_=>?_)⟩;refine⟨_,rq,Ao (by show 2<=1000;decide),λp hp=>?_⟩;have sp:=Ag hp (.tup [.str "key",.str "term"]);have cp:upd H p (.tup [.str "key",.str "term"]) p=some (.tup [.str "key",.str "term"]):=Ae;have ht:=sp _ _ ht;generalize upd H p (.tup [.str "key",.str "term"])=H1 at *;refine⟨p,_,rq,.inr (SqT.of cp),rq,rq,_,rq,CW (show (if false=true then !inV (.str "then") [.str "key",.str "term"] else inV (.str "then") [.str "key",.str "term"])=false by trivial) ?_⟩
  refine⟨_,rq,rq,_,rq,ifS (λz=>absurd z (by trivial)) (λ_=>?_)⟩;refine⟨_,rq,rq,_,rq,ifS (λz=>absurd z (by trivial)) (λ_=>?_)⟩;refine⟨_,rq,_,rq,t,_,_,_,rq,rq,SqT.of ht,rq,.inl ⟨_,rq,FJ (by omega),_,_,rq,rq,szb (by simp only[QaY,l0,l1,l2,l3,l4,l5,l6,l7,l8,l9,l10,l11,l12,l13,l17,Ai];omega),_,_,rq,rq,szb (by simp only[QaY,l0,l1,l2,l3,l4,l5,l6,l7,l8,l9,l10,l11,l12,l13,l17,Ai];omega),Ao (by show 2<=1000;decide),λle hle=>?_⟩⟩;have se:=Ag hle (.lst [.str ")",.str ((Str.ofString " within "++Str.ofString (toString (n:Int)))++")")]);have ce:upd H1 le (.lst [.str ")",.str ((Str.ofString " within "++Str.ofString (toString (n:Int)))++")")]) le=some (.lst [.str ")",.str ((Str.ofString " within "++Str.ofString (toString (n:Int)))++")")]):=Ae;have s2:=sp.trans se;have ht2:=se _ _ ht;show tCB _ _ _ (upd H1 le (.lst [.str ")",.str ((Str.ofString " within "++Str.ofString (toString (n:Int)))++")")])) _;generalize upd H1 le (.lst [.str ")",.str ((Str.ofString " within "++Str.ofString (toString (n:Int)))++")")])=H2 at *;refine⟨_,rq,rq,.inr ⟨_,rq,le,_,_,_,rq,rq,SqL.of ce,AU,?_⟩⟩;refine⟨_,rq,t,_,_,_,rq,rq,SqT.of ht2,Aj (j:=1) rfl,_,c,rq,Rep.same s2 r2,ok.1,by omega,by omega,by omega,λH3 s3=>?_⟩;refine⟨_,rq,t,_,_,_,rq,rq,SqT.of (s3 _ _ ht2),Aj (j:=2) rfl,_,d,rq,Rep.same (s2.trans s3) r3,ok.2.1,by omega,by omega,by omega,λH4 s4=>⟨_,_,rq,?_⟩⟩;refine⟨_,rq,_,_,rq,rq,szb (by simp only[QaY,l0,l1,l2,l3,l4,l5,l6,l7,l8,l9,l10,l11,l12,l13,l17,Ai];omega),_,_,rq,rq,szb (by simp only[QaY,l0,l1,l2,l3,l4,l5,l6,l7,l8,l9,l10,l11,l12,l13,l17,Ai];omega),_,rq,_,_,rq,rq,szb (by simp only[QaY,l0,l1,l2,l3,l4,l5,l6,l7,l8,l9,l10,l11,l12,l13,l17,Ai];omega),_,_,rq,rq,szb (by simp only[QaY,l0,l1,l2,l3,l4,l5,l6,l7,l8,l9,l10,l11,l12,l13,l17,Ai];omega),_,rq,_,_,rq,rq,szb (by simp only[QaY,l0,l1,l2,l3,l4,l5,l6,l7,l8,l9,l10,l11,l12,l13,l17,Ai];omega),_,rq,_,_,rq,rq,szb (by simp only[QaY,l0,l1,l2,l3,l4,l5,l6,l7,l8,l9,l10,l11,l12,l13,l17,Ai];omega),fin _ _ (s2.trans (s3.trans s4)) ?_⟩;simp only[Dk,Fp,Qbz,QaZ,L_S];show _=L "("++(c.txt++(L " then "++(d.txt++(L " within "++(num n++L ")")))));rw[<-kn];simp only[QaZ];rfl
end
abbrev Jy:Stmt:=top 54
abbrev Gn:YF:=["_law_rules_here"]
theorem FQ:Bo ["_law_rules_here","_law_text_here","_law_row"] Gn (Ar Jy):=by ac_rfl
theorem gW {rs:List Ru} {i:Nat} {u:Ru} (h:rs[i]?=some u):((rs.take (i+1)).map Ru.txt).flatten=((rs.take i).map Ru.txt).flatten++u.txt:=by
 rw[Qcm h,Qbx,List.flatten_append,List.map_singleton,List.flatten_singleton]
section
variable {P:Program} {w:World} {K:YD} {mg:YB} {base:Heap}
theorem U7 (C:Code K mg "_law_rules_text" Jy Gn) (T:Tc mg) (Lx:Good P w K mg base "_law_text" 7 Lf (bT 6)):Good P w K mg base "_law_rules_text" 8 Gn MK:=by
 refine C.good FQ (λvs H Q E h=>?_) (λf cdv A outer s H vs Q E hr h=>?_)
 ·obtain⟨v,rs,rfl,_⟩:=h;rfl
 obtain⟨v,rs,rfl,rd,ok,l,q⟩:=h;have sc:=FQ;refine⟨_,(Ad (Bf (i:=1) FQ.nd rfl (Or.inl rfl) Af)
 (Ad (Ih QbD rfl (O7 (pv 0)) (Az (i:=2) FQ.nd rfl (Or.inl rfl))
 (Ah (Bf (i:=1) FQ.nd rfl (Or.inl rfl) (Aq Bb (Aq Bb (Aq Bb (Aq Bb (Aq Bb (Aq Bb (pv 1) (Ba Bm (pv 2) Ac (λ_ _=>rfl))) Af) (Dr (HN hr.gd (PX hr)) rfl T.str GR (Aa (Ba Bm (pv 2) Ac (λ_ _=>rfl)) Ab))) Af) (Am Lx hr (Aa (Ba Bm (pv 2) Ac (λ_ _=>rfl)) Ab))) Af))))
 (Ah (Ak (pv 1))))),?_⟩
 show let R0:TS:=_;let R1:TS:=Al (K5 _ _ R0) _;Al _ R1 _ _ _;intro R0 R1;obtain⟨l0,l1,l2,l3,l4,l5,l6,l7,l8,l9,l10,l11,l12,l13,l14,l15,l16⟩:=ll;have tot:=M6 ok;cases rd with
 | @tup a xs _ ha rr=>
 have lx:=Bk.len rr;rw[Qbw] at lx;refine⟨_,rq,a,rq,⟨_,SqT.of ha⟩,?_⟩;let J0:YN:=λ(i:Nat) (U : St) (HX:Hp)=>∃(b1:Option V),U=[js a,some (.str (S ((rs.take i).map Ru.txt).flatten)),b1]/\Same H HX;refine Y9 (xs:=xs) J0 ⟨none,rq,Same.refl _⟩ (λi U HX _ h=>?_) (λi x U HX hx h=>?_) (fun U HX h=>?_)
 ·obtain⟨_,rfl,s⟩:=h;exact SqT.of (s _ _ ha)
 ·obtain⟨_,rfl,s⟩:=h;obtain⟨d,hd,rx⟩:=Bk.at_ rr hx;rw[Qbe] at hd;cases hu:rs[i]? with
  | none=>rw[hu] at hd;cases hd
  | some u=>
  rw[hu] at hd;injection hd with hd;subst hd;have uo:=ok u (QaC hu);obtain⟨t,v,rfl,ht,rv⟩:=Wf rx;obtain⟨ty,ey⟩:=lQ uo;obtain⟨c1,c2,c3⟩:=Hi uo;have cl:=Xd uo;have yl:u.ys.length<=8:=by rw[Ip,ey];exact cl.1
  have tl:=Ds c1;have ht1:=s _ _ ht;have hi:=(Qaj.mp hu).1;have al:((rs.take i).map Ru.txt).flatten.length<=421*rs.length:=by
   have:=M6 (rs:=rs.take i) (λr hr=>ok r (List.mem_of_mem_take hr));rw[Qbn] at this;omega
  have fin:∀(y:Str) (HY:Hp),Same HX HY->L y=((rs.take i).map Ru.txt).flatten++(L u.kw++(L " "++(L u.ys++(L " = "++(u.c.txt++L "\n")))))->∃(b1:Option V),[js a,some (.str y),js t]=[js a,some (.str (S ((rs.take (i+1)).map Ru.txt).flatten)),b1]/\Same H HY:=λy HY sy e=>by
   refine⟨some (.ref t),?_,s.trans sy⟩;have e2:y=S ((rs.take (i+1)).map Ru.txt).flatten:=by
    refine Ir ?_;rw[e,gW hu,L_S];congr 1;show _=(u.head++(L " = "++u.c.txt))++L "\n";rw[KZ,ey];simp only[QaZ]
   rw[e2]
  refine⟨_,rq,_,rq,t,_,_,_,rq,rq,SqT.of ht1,Aj (j:=0) rfl,_,_,rq,rq,szb (by simp only[QaY,l0,l4,l15,l16,Ai];omega),_,_,rq,rq,szb (by simp only[QaY,l0,l4,l15,l16,Ai];omega),_,rq,t,_,_,_,rq,rq,SqT.of ht1,Aj (j:=1) rfl,?_⟩;rcases ty with e |⟨j,e,lj,e'⟩
  ·refine .inr (.inl ⟨_,congrArg (λv=>[v]) e,_,_,rq,rq,szb (by simp only[QaY,l0,l4,l15,l16,Ai];omega),_,_,rq,rq,szb (by simp only[QaY,l0,l4,l15,l16,Ai];omega),_,rq,t,_,_,_,rq,rq,SqT.of ht1,Aj (j:=2) rfl,v,u.c,rq,Rep.same s rv,c1,c2,c2,c3,λHY sy=>⟨_,_,rq,rq,szb (by simp only[QaY,l0,l4,l15,l16,Ai];omega),_,_,rq,rq,szb (by simp only[QaY,l0,l4,l15,l16,Ai];omega),fin _ _ sy (by simp only[Dk,Fp,Qbz,QaZ,L_S])⟩⟩)
  ·rw[e'] at yl fin;refine .inl ⟨j,congrArg (λv=>[v]) e,lj,_,_,rq,rq,szb (by simp only[QaY,l0,l4,l15,l16,Ai];omega),_,_,rq,rq,szb (by simp only[QaY,l0,l4,l15,l16,Ai];omega),_,rq,t,_,_,_,rq,rq,SqT.of ht1,Aj (j:=2) rfl,v,u.c,rq,Rep.same s rv,c1,c2,c2,c3,λHY sy=>⟨_,_,rq,rq,szb (by simp only[QaY,l0,l4,l15,l16,Ai];omega),_,_,rq,rq,szb (by simp only[QaY,l0,l4,l15,l16,Ai];omega),fin _ _ sy (by simp only[Dk,Fp,Qbz,QaZ,L_S])⟩⟩
 ·obtain⟨_,rfl,s⟩:=h;rw[lx,Qbq];exact⟨_,rq,q _ s⟩
end
theorem T3 {c:Nat} (h:IK c=true):48<=c/\c<=57:=by
 rw[T4] at h;have:=Qba h;have e:L "0123456789"=[48,49,50,51,52,53,54,55,56,57]:=by trivial
 rw[e] at this;simp only[QbP,Qbp,Qco] at this;omega
theorem oX:∀a,a < 10->intText? (S [48+a])=some ((a:Nat):Int):=by trivial
theorem oW:∀a,a < 10->∀b,b < 10->intText? (S [48+a,48+b])=some ((10*a+b:Nat):Int):=by trivial
theorem jQ {l:List Nat} (h1:1<=l.length) (h2:l.length<=2) (hf:l.all IK=true):∃n:Int,intText? (S l)=some n/\0<=n/\n<=99:=by
 match l,h1,h2 with
 | [c],_,_=>
  have:=T3 (Qbm.mp hf c QaN);obtain⟨a,rfl⟩ : ∃a,c=48+a:=⟨c - 48,by omega⟩;exact⟨_,oX a (by omega),by omega,by omega⟩
 | [c,d],_,_=>
  have hc:=T3 (Qbm.mp hf c QaN);have hd:=T3 (Qbm.mp hf d (QaB _ QaN));obtain⟨a,rfl⟩ : ∃a,c=48+a:=⟨c - 48,by omega⟩;obtain⟨b,rfl⟩ : ∃b,d=48+b:=⟨d - 48,by omega⟩;exact⟨_,oW a (by omega) b (by omega),by omega,by omega⟩
def oV:Option Int->V
 | none=>.non
 | some i=>.int i
def oD:Option Int->PyData
 | none=>.none
 | some i=>.int i
theorem Qj {H:Hp}:∀o,Rep H (oV o) (oD o)
 | none=>.non
 | some i=>.int i
def qz (o:Option Int):Prop:=∀i,o=some i->0<=i/\i<=99
def Ok9 (l:List Nat):Prop:=l.length<=9000/\∀c∈l,c < 128
theorem Ok9.sub {l m:List Nat} (h:Ok9 l) (s:m.Sublist l):Ok9 m:=⟨Qca s.length_le h.1,λc hc=>h.2 c (s.subset hc)⟩
theorem Ok9.drop {l:List Nat} (h:Ok9 l) (k:Nat):Ok9 (l.drop k):=h.sub (List.drop_sublist k l)
def wdT (l:List Nat):List Nat:=l.takeWhile λc=>!stop c
def rsT (l:List Nat):List Nat:=l.dropWhile λc=>!stop c
theorem MF (l:List Nat):wdT l++rsT l=l:=List.takeWhile_append_dropWhile
theorem PL:∀l:List Nat,Free (wdT l)
 | []=>λc hc=>by cases hc
 | c::r=>λd hd=>by
  unfold wdT at hd;rw[List.takeWhile_cons] at hd;split at hd
  ·rename_i h;rcases QbP.mp hd with rfl | hd
   ·simpa using h
   ·exact PL r d hd
  ·cases hd
theorem Qd:∀l,KR (rsT l)
 | []=>.inl rfl
 | c::r=>by
  unfold rsT;rw[List.dropWhile_cons];split
  ·exact Qd r
  ·rename_i h;exact .inr ⟨c,r,rq,by simpa using h⟩
theorem VB (l:List Nat):(wdT l).Sublist l:=List.takeWhile_sublist _
theorem Wg (l:List Nat):(rsT l).Sublist l:=List.dropWhile_sublist _
theorem MN (l:List Nat):Txt.slice (S l) (some 1) none=S (l.drop 1):=by
 cases l with
 | nil=>decide +kernel
 | cons c r=>exact Kw c r
theorem Rn:∀{ds:List PyData},(∀x∈ds,wide x=true)->Ft ds=true
 | [],_=>by simp only[Ft]
 | x::r,h=>by
  simp only[Ft,Qbk];exact⟨h x QaN,Rn λy hy=>h y (QaB _ hy)⟩
theorem JM {k:Nat} {ds:List PyData} (h:∀x∈ds,Fit k x) (l:ds.length<=900):Fit (k+1) (.tuple ds):=by
 refine⟨RN λx hx=>(h x hx).lay,Qbo (Sh λx hx=>(h x hx).dep),?_⟩;simp only[wide,Qbk];exact⟨QbN l,Rn λx hx=>(h x hx).wd⟩
theorem Qq (k:Nat) (o:Option Int):Fit k (oD o):=by
 cases o with
 | none=>exact⟨rfl,Qcg _,by simp only[oD,wide]⟩
 | some i=>exact⟨rfl,Qcg _,by simp only[oD,wide]⟩
theorem JN {k:Nat} {l:List Nat} (h:Ok9 l):Fit k (.str (S l)):=by
 have s:=V8 (w:=9000) (k:=k) (z:=S l) (by rw[Ai];exact h.1) h.2;refine⟨s.lay,Qcg _,?_⟩;simp only[wide,Qbk];exact⟨QbN (by rw[Ai];exact h.1),Qbm.mpr λc hc=>QbN (h.2 c hc)⟩
theorem Sd {k:Nat} {z:Str} (h:Xr z=true):Fit k (.str z):=(OJ (k:=k) h).fit (by decide)
def mC (l:List DictEntry):Prop:=∃e1 e2 e3 t1 t2 t3,l=[e1,e2,e3]/\e1.key=.str "key" t1/\e2.key=.str "term" t2/\e3.key=.str "hours" t3
theorem Z8 {K:YD} {wA:Addr} {es:Array DictEntry} {n:Nat} (h:K.lookup wA=some ⟨.type "dict",none,.dict es n,#[]⟩) (k:mC es.toList) {z:Str} (h1:z≠"key") (h2:z≠"term") (h3:z≠"hours"):nsIn K wA z=some none:=by
 obtain⟨e1,e2,e3,t1,t2,t3,el,k1,k2,k3⟩:=k;have no:∀{e:DictEntry} {x:Str} {t:Tok},e.key=.str x t->z≠x->e.key.isStr z=false:=λ{e x t} he hz=>by
  rw[he];show (x == z)=false;exact QaL.mpr λq=>hz q.symm
 have nr:∀{e:DictEntry} {x:Str} {t:Tok},e.key=.str x t->e.refKey=false:=λ{e x t} he=>by simp[DictEntry.refKey,he]
 unfold nsIn;rw[h];dsimp only;rw[el,List.find?_cons_of_neg (by rw[no k1 h1];decide),List.find?_cons_of_neg (by rw[no k2 h2];decide),List.find?_cons_of_neg (by rw[no k3 h3];decide)];simp only[List.find?_nil,QbW,nr k1,nr k2,nr k3,List.any_nil,Bool.or_false];rfl
structure Tz (K:YD) (P:Params) (mg:YB) (wA:Addr):Prop extends Tx K P mg wA where
 dz:∀z:Str,z≠"key"->z≠"term"->z≠"hours"->nsIn K wA z=some none
section
variable {P:Program} {w:World} {K:YD} {mg:YB} {base:Heap} {wA:Addr}
def Rv:Sp:=λvs H Q _=>∃(z:Str),vs=[.str z]/\z.length<=20000/\∀o H',qz o->Same H H'->Q (oV o) H'
theorem RK (C:Code K mg "read_number" Im Ck) (T:Tx K w.params mg wA):Good P w K mg base "read_number" 1 Ck Rv:=by
 refine C.good M5 (λvs H Q E h=>?_) (λf cdv A outer s H vs Q E hr h=>?_)
 ·obtain⟨n,rfl,_⟩:=h;rfl
 obtain⟨z,rfl,hz,q⟩:=h;refine⟨_,(Ad (Bg (PW.pt (DR (Cw (NT G7 G7 Ac (Ax Dg rfl T.len Cy (Aa (pv 0) Ab)) Ac)) (DQ (Cw (Ci (Ax (LK rfl) rfl T.all Px (Aa (G3 (N':=xa) rfl (CZ.plain rfl (by trivial) (by trivial) (by trivial)) (O8 (pv 0)) (λ_ _ _ _=>(Az (i:=0) (show List.Nodup (xa:YF) by trivial) rfl (Or.inl rfl))) (λ_ _ _ _=>Ii) (λ_ _ _ _=>(Dy Kr (pv 0) (Hj rfl T.FIGURES) (by with_unfolding_all rfl)))) Ab))))))) (Ah (Ak Wm)) Ay)
 (Ah (Ak (Dr Uy rfl T.int LQ (Aa (pv 0) Ab))))),?_⟩
 show let R0:TS:=_;Al _ R0 _ _ _;intro R0;have ls:z.length<=sizeLine:=szb (by omega);have no:∀H',Same H H'->Q .non H':=λH' s=>q none H' (λi e=>by cases e) s;have ez:S (L z)=z:=S_L z;have lz:=Ip z;refine⟨_,rq,_,rq,ls,_,_,rq,rq,_,rq,?_⟩;by_cases h1:1<=z.length
 ·rw[QbN (show (1:Int)<=(z.length:Nat) by omega)];refine Bp ⟨_,_,rq,rq,_,rq,?_⟩;by_cases h2:z.length<=2
  ·rw[QbN (show ((z.length:Nat):Int)<=2 by omega)];refine Bs ⟨_,rq,_,rq,λl hl=>?_⟩;let J0:YN:=λi U HH=>∃u,U=[u]/\HH l=some (.lst ((((L z).take i).map IK).map V.bl))/\Same H HH;refine LC (z:=z) J0 ⟨_,rq,Ae,Ag hl _⟩ (λi c U HH hc h=>?_) (fun U HH h=>?_)
   ·obtain⟨u,rfl,e1,e2⟩:=h;have hcl:(L z)[i]?=some c:=by rw[<-hc];exact Qay ..
    have hi:=(Qaj.mp hcl).1;unfold Gi;dsimp only;refine Bp ⟨_,rq,_,_,rq,rq,_,e1,Ca (by simp;omega),_,rq,?_,e2.Fj Aw.upd hl⟩;rw[Ae,Qcm hcl,Qbx,Qbx];rfl
   obtain⟨u,rfl,e1,s1⟩:=h;have sz:z.cps.size=(L z).length:=lz;rw[sz,Qbq] at e1;refine⟨l,_,rq,SqL.of e1,_,rq,?_⟩;rw[all_map];cases ha:(L z).all IK with
   | false=>exact Bp (no _ s1)
   | true=>
    obtain⟨n,hn,n0,n9⟩:=jQ (by omega) (by omega) ha;rw[ez] at hn;exact Bs ⟨_,rq,_,n,rq,hn,by omega,q (some n) _ (λi e=>by injection e with e;omega) s1⟩
  ·rw[Qbv (show ¬((z.length:Nat):Int)<=2 by omega)];exact Bp (no _ (Same.refl _))
 ·rw[Qbv (show ¬(1:Int)<=(z.length:Nat) by omega)];exact Bs ⟨_,rq,Bp (Bp (no _ (Same.refl _)))⟩
def Rt:Sp:=λvs H Q _=>∃(t:List Nat) (k:Nat),vs=[.str (S t),.int k]/\Ok9 t/\k<=9/\∀(p l:Addr) (ws:List (List Nat)) (r:List Nat) (H':Hp),H' p=some (.tup [.ref l,.str (S r)])->H' l=some (.lst (ws.map λw=>V.str (S w)))->ws.length=k->(∀x∈ws,Ok9 x)->Ok9 r->Same H H'->Q (.ref p) H'
theorem Tf (C:Code K mg "take_words" Jo Df) (T:Tx K w.params mg wA) (CJ:Good P w K mg base "take_word" 1 Dq Nu):Good P w K mg base "take_words" 2 Df Rt:=by
 refine C.good CT (λvs H Q E h=>?_) (λf cdv A outer s H vs Q E hr h=>?_)
 ·obtain⟨ws,r,rfl,_⟩:=h;rfl
 obtain⟨t,k,rfl,ot,k9,q⟩:=h;refine⟨_,(Ad (Bf (i:=2) CT.nd rfl (Or.inl rfl) (Dj Ab))
 (Ad (Bf (i:=3) CT.nd rfl (Or.inl rfl) (pv 0))
 (Ad (Ih QbD rfl (FW rfl T.range (Aa (pv 1) Ab)) (Az (i:=4) CT.nd rfl (Or.inl rfl))
 (Ad (CV (Am CJ hr (Aa (Bq Ce (pv 3) (Bt Ac) Bx) Ab)) (Di rfl (Bd (Az (i:=5) CT.nd rfl (Or.inl rfl)) (Bd (Az (i:=3) CT.nd rfl (Or.inl rfl)) CN))))
 (Ah (Jg (Dz Qap Qan Qao En (pv 2) (Aa (pv 5) Ab))))))
 (Ah (Ak (Bl (Aa (pv 2) (Aa (pv 3) Ab)))))))),?_⟩
 show let R0:TS:=_;let R1:TS:=_;let R2:TS:=Al _ R1;let R3:TS:=Al (K5 _ _ R2) R0;let R4:TS:=Al _ R3;Al _ R4 _ _ _;intro R0 R1 R2 R3 R4;refine⟨Ao (by show 0<=1000;decide),λl hl=>⟨_,rq,_,rq,_,rq,by omega,by omega,?_⟩⟩;rw[Qbh];let J1:YN:=λi U HH=>∃(u4 u5:Option V) (ws:List (List Nat)) (r:List Nat),U=[some (.str (S t)),some (.int (k:Int)),js l,some (.str (S r)),u4,u5]/\HH l=some (.lst (ws.map λw=>V.str (S w)))/\ws.length=i/\(∀x∈ws,Ok9 x)/\Ok9 r/\Same H HH;refine Hu J1 ⟨none,none,[],t,rq,Ae,rq,(λx hx=>by cases hx),ot,Ag hl _⟩ (λi U HH hi h=>?_) (fun U HH h=>?_)
 ·obtain⟨u4,u5,ws,r,rfl,e1,lw,ow,orr,s1⟩:=h;have o2:=orr.drop 1;refine jH ⟨_,rq,_,rq,_,rq,szb (by rw[Ai];have:=orr.1;omega),wdT (r.drop 1),rsT (r.drop 1),?_,PL _,Qd _,by rw[MF];exact o2.1,λp H1 hp s2=>?_⟩
  ·rw[MF];show [V.str (Txt.slice (S r) (some 1) none)]=_;rw[MN]
  have e1':=s2 _ _ e1;have s12:=s1.trans s2;refine⟨p,_,rq,SqT.of hp,rq,_,_,rq,_,_,rq,rq,?_⟩;refine⟨_,rq,.inl ⟨rq,_,SqL.of e1'⟩,_,rq,l,_,_,rq,rq,e1',Ca (by rw[Qbw];omega),?_⟩;refine⟨_,_,ws++[wdT (r.drop 1)],rsT (r.drop 1),rq,?_,by rw[QaM,lw];rfl,λx hx=>?_,o2.sub (Wg _),s12.Fj Aw.upd hl⟩
  ·rw[Ae,Qbx];rfl
  ·rcases Qby.mp hx with hx | hx
   ·exact ow x hx
   ·rw[QaO.mp hx];exact o2.sub (VB _)
 ·obtain⟨u4,u5,ws,r,rfl,e1,lw,ow,orr,s1⟩:=h;refine⟨_,rq,_,rq,Ao (by show 2<=1000;decide),λp hp=>?_⟩;have s2:=Ag hp (.tup [.ref l,.str (S r)]);exact q p l ws r _ Ae (s2 _ _ e1) lw ow orr (s1.trans s2)
theorem Pz {H H':Hp} (s:Same H H') {v:V} {d:PyData} (h:Rep (onl H) v d):Rep (onl H') v d:=Rep.same (Fx (Dw.of s)) h
def ZG:Sp:=λvs H Q _=>∃(l:List Nat),vs=[.str (S l)]/\Ok9 l/\∀p t d r H',H' p=some (.tup [.ref t,.str (S r)])->Rep (onl H') (.ref t) d->Fit 1 d->Ok9 r->Same H H'->Q (.ref p) H'
theorem U9 (C:Code K mg "read_leaf" JV DP) (T:Tz K w.params mg wA) (CJ:Good P w K mg base "take_word" 1 Dq Nu) (Dn:Good P w K mg base "take_words" 2 Df Rt) (Bu:Good P w K mg base "read_number" 1 Ck Rv):Good P w K mg base "read_leaf" 3 DP ZG:=by
 refine C.good Dv (λvs H Q E h=>?_) (λf cdv A outer s H vs Q E hr h=>?_)
 ·obtain⟨l,rfl,_⟩:=h;rfl
 obtain⟨t,rfl,ot,q⟩:=h;refine⟨_,(@Ad _ _ _ _ _ (CV (Am CJ hr (Aa (pv 0) Ab)) (Di rfl (Bd (Az (i:=1) Dv.nd rfl (Or.inl rfl)) (Bd (Az (i:=2) Dv.nd rfl (Or.inl rfl)) CN))))
 (@Ad _ _ _ _ _ (CV (Am Dn hr (Aa (pv 2) (Aa (Uk (K:=K) rfl rfl (Hj rfl T.WORDS_BEHIND) (pv 1) (Hj rfl T.WORDS_BEHIND_NUMBER) ⟨rq,rq,rq,rq⟩) Ab))) (Di rfl (Bd (Az (i:=3) Dv.nd rfl (Or.inl rfl)) (Bd (Az (i:=2) Dv.nd rfl (Or.inl rfl)) CN))))
 (@Ad _ _ _ _ _ (Bg (Av BK (pv 1) Af (Bc _)) (@Ah _ _ _ (@Ak _ _ _ _ (Bl (Aa (Bl (Aa Af (Aa (Am Bu hr (Aa (@Ba _ _ _ _ _ _ _ Br (pv 3) Ac (λ_ _=>rfl)) Ab)) Ab))) (Aa (pv 2) Ab))))) Ay)
 (@Ad _ _ _ _ _ (Bg (Av BK (pv 1) Af (Bc _)) (@Ah _ _ _ (@Ak _ _ _ _ (Bl (Aa (Bl (Aa Af (Aa (@Ba _ _ _ _ _ _ _ Br (pv 3) Ac (λ_ _=>rfl)) Ab))) (Aa (pv 2) Ab))))) Ay)
 (@Ad _ _ _ _ _ (Bg (Av BK (pv 1) Af (Bc _)) (@Ah _ _ _ (@Ak _ _ _ _ (Bl (Aa (Bl (Aa Af (Aa (Am Bu hr (Aa (@Ba _ _ _ _ _ _ _ Br (pv 3) Ac (λ_ _=>rfl)) Ab)) (Aa (Am Bu hr (Aa (@Ba _ _ _ _ _ _ _ Br (pv 3) Ac (λ_ _=>rfl)) Ab)) Ab)))) (Aa (pv 2) Ab))))) Ay)
 (@Ah _ _ _ (@Ak _ _ _ _ (Bl (Aa (Bl (Aa Af (Aa (Am Bu hr (Aa (pv 1) Ab)) (Aa (@Ba _ _ _ _ _ _ _ Br (pv 3) Ac (λ_ _=>rfl)) Ab)))) (Aa (pv 2) Ab)))))))))),?_⟩
 show let R0:TS:=_;let R1:TS:=_;let R2:TS:=Al (BX _ R1 _) R0;let R3:TS:=_;let R4:TS:=Al (BX _ R3 _) R2;let R5:TS:=_;let R6:TS:=Al (BX _ R5 _) R4;let R7:TS:=Al _ R6;Al _ R7 _ _ _;intro R0 R1 R2 R3 R4 R5 R6 R7;have ow:=ot.sub (VB t);have orr:=ot.sub (Wg t);have l9:=ow.1;refine⟨_,rq,wdT t,rsT t,congrArg (λl=>[V.str (S l)]) (MF t).symm,PL t,Qd t,by rw[MF];exact ot.1,λp H1 hp s1=>⟨p,_,rq,SqT.of hp,rq,_,_,rq,_,_,rq,rq,?_⟩⟩;have sz:∀{x:List Nat},Ok9 x->(S x).length<=20000:=λh=>by rw[Ai];have:=h.1;omega
 have fin:∀{H2:Hp} {xs:YG} {ds:List PyData} {r:List Nat},Same H H2->Bk (onl H2) xs ds->(∀x∈ds,Fit 0 x)->ds.length<=4->Ok9 r->∀tt,H2 tt=none->∀p5,upd H2 tt (.tup xs) p5=none->Q (.ref p5) (upd (upd H2 tt (.tup xs)) p5 (.tup [.ref tt,.str (S r)])):=λ{H2 xs ds r} s rx fx l4 orr tt ht p5 hp5=>by
  have s4:=Ag ht (.tup xs);have s5:=Ag hp5 (.tup [.ref tt,.str (S r)]);exact q p5 tt (.tuple ds) r _ Ae (.tup (Cr (s5 _ _ Ae)) (Bk.same (Fx (Dw.of (s4.trans s5))) rx)) (JM fx (by omega)) orr (s.trans (s4.trans s5))
 have f4:∀{a b:PyData},Fit 0 a->Fit 0 b->∀x∈[a,b],Fit 0 x:=λha hb=>Cj ha (Cj hb (QaG _));by_cases k1:S (wdT t)="key"
 ·obtain⟨tk,dt⟩:=T.dk;refine⟨_,rq,wA,rq,T.dw,_,rq,_,_,.int 1,rq,by rw[k1];exact dt,.inr ⟨_,rq,_,rq⟩,rsT t,1,rq,orr,by decide,λp2 l ws r H2 hp2 hl2 lw ows or2 s2=>⟨p2,_,rq,SqT.of hp2,rq,_,_,rq,_,_,rq,rq,?_⟩⟩;obtain⟨a,rfl⟩:=List.length_eq_one_iff.mp lw;refine⟨_,rq,rq,_,rq,ifS (λ_=>?_) (λz=>absurd k1 z)⟩;refine⟨_,rq,l,_,_,_,rq,rq,SqL.of hl2,Aj (j:=0) rfl,S a,rq,sz (ows a QaN),λo H3 so s3=>⟨Ao (by show 2<=1000;decide),λtt ht=>⟨_,rq,Ao (by show 2<=1000;decide),λp5 hp5=>?_⟩⟩⟩;exact fin (ds:=[.str "key",oD o]) (s1.trans (s2.trans s3)) (.cons (.str _) (.cons (Qj o) .nil)) (f4 (Sd (by trivial)) (Qq 0 o)) (by simp) or2 tt ht p5 hp5
 by_cases k2:S (wdT t)="term"
 ·obtain⟨tk,dt⟩:=T.dt;refine⟨_,rq,wA,rq,T.dw,_,rq,_,_,.int 1,rq,by rw[k2];exact dt,.inr ⟨_,rq,_,rq⟩,rsT t,1,rq,orr,by decide,λp2 l ws r H2 hp2 hl2 lw ows or2 s2=>⟨p2,_,rq,SqT.of hp2,rq,_,_,rq,_,_,rq,rq,?_⟩⟩;obtain⟨a,rfl⟩:=List.length_eq_one_iff.mp lw;refine⟨_,rq,rq,_,rq,ifS (λz=>absurd z k1) (λ_=>?_)⟩;refine⟨_,rq,rq,_,rq,ifS (λ_=>?_) (λz=>absurd k2 z)⟩;refine⟨_,rq,l,_,_,_,rq,rq,SqL.of hl2,Aj (j:=0) rfl,Ao (by show 2<=1000;decide),λtt ht=>⟨_,rq,Ao (by show 2<=1000;decide),λp5 hp5=>?_⟩⟩;exact fin (ds:=[.str "term",.str (S a)]) (s1.trans s2) (.cons (.str _) (.cons (.str _) .nil)) (f4 (Sd (by trivial)) (JN (ows a QaN))) (by simp) or2 tt ht p5 hp5
 by_cases k3:S (wdT t)="hours"
 ·obtain⟨tk,dt⟩:=T.dh;refine⟨_,rq,wA,rq,T.dw,_,rq,_,_,.int 3,rq,by rw[k3];exact dt,.inr ⟨_,rq,_,rq⟩,rsT t,3,rq,orr,by decide,λp2 l ws r H2 hp2 hl2 lw ows or2 s2=>⟨p2,_,rq,SqT.of hp2,rq,_,_,rq,_,_,rq,rq,?_⟩⟩;obtain⟨a,b,c,rfl⟩ : ∃a b c,ws=[a,b,c]:=by
   match ws,lw with
   | [a,b,c],_=>exact⟨a,b,c,rfl⟩
  refine⟨_,rq,rq,_,rq,ifS (λz=>absurd z k1) (λ_=>?_)⟩;refine⟨_,rq,rq,_,rq,ifS (λz=>absurd z k2) (λ_=>?_)⟩;refine⟨_,rq,rq,_,rq,ifS (λ_=>?_) (λz=>absurd k3 z)⟩;refine⟨_,rq,l,_,_,_,rq,rq,SqL.of hl2,Aj (j:=0) rfl,S a,rq,sz (ows a QaN),λo H3 so s3=>⟨_,rq,l,_,_,_,rq,rq,SqL.of (s3 _ _ hl2),Aj (j:=2) rfl,S c,rq,sz (ows c (by simp)),λo' H4 so' s4=>⟨Ao (by show 3<=1000;decide),λtt ht=>⟨_,rq,Ao (by show 2<=1000;decide),λp5 hp5=>?_⟩⟩⟩⟩;exact fin (ds:=[.str "hours",oD o,oD o']) (s1.trans (s2.trans (s3.trans s4))) (.cons (.str _) (.cons (Qj o) (.cons (Qj o') .nil))) (Cj (Sd (by trivial)) (f4 (Qq 0 o) (Qq 0 o'))) (by simp) or2 tt ht p5 hp5
 ·refine⟨_,rq,wA,rq,T.dw,_,rq,_,none,.int 2,rq,T.dz _ k1 k2 k3,.inl ⟨rq,rq⟩,rsT t,2,rq,orr,by decide,λp2 l ws r H2 hp2 hl2 lw ows or2 s2=>⟨p2,_,rq,SqT.of hp2,rq,_,_,rq,_,_,rq,rq,?_⟩⟩;obtain⟨a,b,rfl⟩ : ∃a b,ws=[a,b]:=by
   match ws,lw with
   | [a,b],_=>exact⟨a,b,rfl⟩
  refine⟨_,rq,rq,_,rq,ifS (λz=>absurd z k1) (λ_=>?_)⟩;refine⟨_,rq,rq,_,rq,ifS (λz=>absurd z k2) (λ_=>?_)⟩;refine⟨_,rq,rq,_,rq,ifS (λz=>absurd z k3) (λ_=>?_)⟩;refine⟨_,rq,_,rq,sz ow,λo H3 so s3=>⟨_,rq,l,_,_,_,rq,rq,SqL.of (s3 _ _ hl2),Aj (j:=1) rfl,Ao (by show 3<=1000;decide),λtt ht=>⟨_,rq,Ao (by show 2<=1000;decide),λp5 hp5=>?_⟩⟩⟩;exact fin (ds:=[.str "of",oD o,.str (S b)]) (s1.trans (s2.trans s3)) (.cons (.str _) (.cons (Qj o) (.cons (.str _) .nil))) (Cj (Sd (by trivial)) (f4 (Qq 0 o) (JN (ows b (by simp))))) (by simp) or2 tt ht p5 hp5
end
section
variable {P:Program} {w:World} {K:YD} {mg:YB} {base:Heap} {wA hc c0 c1 c2 c3 c4 c5 c6 c7 c8 c9 c10 c11 c12:Addr}
def Rw (c1:Addr) (D:Nat):Sp:=λvs H Q E=>∃(l:List Nat) (d:Nat),vs=[.str (S l),.int (d:Int)]/\Ok9 l/\d < D/\(∀H',Same H H'->E (.ref c1) none H')/\∀p t x r H',H' p=some (.tup [.ref t,.str (S r)])->Rep (onl H') (.ref t) x->Fit (d+1) x->Ok9 r->Same H H'->Q (.ref p) H'
def lC (c1:Addr) (D:Nat):Sp:=λvs H Q E=>∃(l:List Nat) (d:Nat),vs=[.str (S l),.int (d:Int)]/\Ok9 l/\d < D/\(∀H',Same H H'->E (.ref c1) none H')/\∀p t x r H',H' p=some (.tup [.ref t,.str (S r)])->Rep (onl H') (.ref t) x->Fit (d+2) x->Ok9 r->Same H H'->Q (.ref p) H'
theorem slO {l:List Nat} (h:Ok9 l):(S l).length<=sizeLine:=szb (by rw[Ai];have:=h.1;omega)
theorem iC {D k:Nat} (hk:3<=k) (C:Code K mg "read_pair" GX DN) (T:Tz K w.params mg wA) (CJ:Good P w K mg base "take_word" 1 Dq Nu) (Dn:Good P w K mg base "take_words" 2 Df Rt) (Bu:Good P w K mg base "read_number" 1 Ck Rv) (BW:HS P w K mg base "read_condition" k Bv (Rw c1 D)):HS P w K mg base "read_pair" (k+1) DN (lC c1 D):=by
 refine C.RZ BP (λvs H Q E h=>?_) (λX f cdv A outer s H vs Q E eX hx hr h=>?_)
 ·obtain⟨l,d,rfl,_⟩:=h;rfl
 subst eX;obtain⟨l,d,rfl,ol,dD,qe,q⟩:=h;have hk1:1<=k:=by omega
 have hk2:2<=k:=by omega
 refine⟨_,(@Ad _ _ _ _ _ (CV (Le (hk:=(Qcf _)) BW hr hx (Aa (pv 0) (Aa (pv 1) Ab))) (Di rfl (Bd (Az (i:=2) BP.nd rfl (Or.inl rfl)) (Bd (Az (i:=3) BP.nd rfl (Or.inl rfl)) CN))))
 (@Ad _ _ _ _ _ (CV (Am (hk:=hk1) CJ hr (Aa (Bq Ce (pv 3) (Bt Ac) Bx) Ab)) (Di rfl (Bd (Az (i:=4) BP.nd rfl (Or.inl rfl)) (Bd (Az (i:=3) BP.nd rfl (Or.inl rfl)) CN))))
 (@Ad _ _ _ _ _ (CV (Le (hk:=(Qcf _)) BW hr hx (Aa (Bq Ce (pv 3) (Bt Ac) Bx) (Aa (pv 1) Ab))) (Di rfl (Bd (Az (i:=5) BP.nd rfl (Or.inl rfl)) (Bd (Az (i:=3) BP.nd rfl (Or.inl rfl)) CN))))
 (@Ad _ _ _ _ _ (Bg (Av Jt (pv 4) Af (Bc _)) (@Ah _ _ _ (@Ak _ _ _ _ (Bl (Aa (Bl (Aa (pv 4) (Aa (pv 2) (Aa (pv 5) Ab)))) (Aa (Bq Ce (pv 3) (Bt Ac) Bx) Ab))))) Ay)
 (@Ad _ _ _ _ _ (CV (Am (hk:=hk2) Dn hr (Aa (pv 3) (Aa Ac Ab))) (Di rfl (Bd (Az (i:=6) BP.nd rfl (Or.inl rfl)) (Bd (Az (i:=3) BP.nd rfl (Or.inl rfl)) CN))))
 (@Ah _ _ _ (@Ak _ _ _ _ (Bl (Aa (Bl (Aa (pv 4) (Aa (pv 2) (Aa (pv 5) (Aa (Am (hk:=hk1) Bu hr (Aa (@Ba _ _ _ _ _ _ _ Br (pv 6) Ac (λ_ _=>rfl)) Ab)) Ab))))) (Aa (Bq Ce (pv 3) (Bt Ac) Bx) Ab)))))))))),?_⟩
 refine⟨_,rq,_,rq,l,d,rq,ol,dD,qe,λp1 t1 x1 r1 H1 hp1 rx1 fx1 or1 s1=>⟨p1,_,rq,SqT.of hp1,rq,_,_,rq,_,_,rq,rq,?_⟩⟩;have o2:=or1.drop 1;refine⟨_,rq,_,rq,_,rq,slO or1,wdT (r1.drop 1),rsT (r1.drop 1),?_,PL _,Qd _,by rw[MF];exact o2.1,λp2 H2 hp2 s2=>⟨p2,_,rq,SqT.of hp2,rq,_,_,rq,_,_,rq,rq,?_⟩⟩
 ·rw[MF];show [V.str (Txt.slice (S r1) (some 1) none)]=_;rw[MN]
 have or2:=o2.sub (Wg (r1.drop 1));have ow:=o2.sub (VB (r1.drop 1));have s12:=s1.trans s2;generalize wdT (r1.drop 1)=wd at *;generalize rsT (r1.drop 1)=r2 at *;refine⟨_,rq,_,rq,_,rq,slO or2,_,rq,r2.drop 1,d,?_,or2.drop 1,dD,λH' s=>qe _ (s12.trans s),λp3 t3 x3 r3 H3 hp3 rx3 fx3 or3 s3=>⟨p3,_,rq,SqT.of hp3,rq,_,_,rq,_,_,rq,rq,?_⟩⟩
 ·show [V.str (Txt.slice (S r2) (some 1) none),V.int (d:Int)]=_;rw[MN]
 have s13:=s12.trans s3;have rx1:=Pz (s2.trans s3) rx1;refine⟨_,rq,rq,_,rq,?_⟩;by_cases kw:V.str (S wd)=V.str "then"
 ·refine CW (by rw[kw];simp) ?_;refine⟨_,rq,r3,2,rq,or3,by decide,λp6 l6 ws r6 H6 hp6 hl6 lw ows or6 s6=>⟨p6,_,rq,SqT.of hp6,rq,_,_,rq,_,_,rq,rq,?_⟩⟩;obtain⟨a,b,rfl⟩ : ∃a b,ws=[a,b]:=by
   match ws,lw with
   | [a,b],_=>exact⟨a,b,rfl⟩
  have ob:=ows b (by simp);refine⟨_,rq,_,rq,_,rq,_,rq,l6,_,_,_,rq,rq,SqL.of hl6,Aj (j:=1) rfl,S b,rq,(by rw[Ai];have:=ob.1;omega),λo H7 so s7=>⟨Ao (by show 4<=1000;decide),λt4 ht4=>?_⟩⟩;have s4:=Ag ht4 (.tup [.str (S wd),.ref t1,.ref t3,oV o]);have c4:upd H7 t4 (.tup [.str (S wd),.ref t1,.ref t3,oV o]) t4=some (.tup [.str (S wd),.ref t1,.ref t3,oV o]):=Ae;generalize upd H7 t4 (.tup [.str (S wd),.ref t1,.ref t3,oV o])=H4 at *;refine⟨_,rq,_,rq,_,rq,slO or6,Ao (by show 2<=1000;decide),λp5 hp5=>?_⟩;rw[MN];have s5:=Ag hp5 (.tup [.ref t4,.str (S (r6.drop 1))]);have s35:=s6.trans (s7.trans (s4.trans s5));exact q p5 t4 (.tuple [.str (S wd),x1,x3,oD o]) (r6.drop 1) _ Ae (.tup (Cr (s5 _ _ c4)) (.cons (.str _) (.cons (Pz s35 rx1) (.cons (Pz s35 rx3) (.cons (Qj o) .nil))))) (JM (Cj (JN ow) (Cj fx1 (Cj fx3 (Cj (Qq _ o) (QaG _))))) (by show 4<=900;decide)) (or6.drop 1) (s13.trans s35)
 ·refine GJ (by simp only[Qbv kw];rfl) ?_;refine⟨_,rq,_,rq,_,rq,Ao (by show 3<=1000;decide),λt4 ht4=>?_⟩;have s4:=Ag ht4 (.tup [.str (S wd),.ref t1,.ref t3]);have c4:upd H3 t4 (.tup [.str (S wd),.ref t1,.ref t3]) t4=some (.tup [.str (S wd),.ref t1,.ref t3]):=Ae;generalize upd H3 t4 (.tup [.str (S wd),.ref t1,.ref t3])=H4 at *;refine⟨_,rq,_,rq,_,rq,slO or3,Ao (by show 2<=1000;decide),λp5 hp5=>?_⟩;rw[MN];have s5:=Ag hp5 (.tup [.ref t4,.str (S (r3.drop 1))]);have s35:=s4.trans s5;exact q p5 t4 (.tuple [.str (S wd),x1,x3]) (r3.drop 1) _ Ae (.tup (Cr (s5 _ _ c4)) (.cons (.str _) (.cons (Pz s35 rx1) (.cons (Pz s35 rx3) .nil)))) (JM (Cj (JN ow) (Cj fx1 (Cj fx3 (QaG _)))) (by show 3<=900;decide)) (or3.drop 1) (s13.trans s35)
theorem XQ {D k:Nat} (hk:3<=k) (C:Code K mg "read_condition" Ed Bv) (T:Tz K w.params mg wA) (XE:Er K mg hc c0 c1 c2 c3 c4 c5 c6 c7 c8 c9 c10 c11 c12) (Dm:Knd K hc c1 [c0,c1,c2,c3,c4,c5,c6,c7,c8,c9,c10,c11,c12] 1) (Gf:Good P w K mg base "read_leaf" 3 DP ZG) (BW:HS P w K mg base "read_condition" k Bv (Rw c1 D)) (Mw:HS P w K mg base "read_pair" (k+1) DN (lC c1 D)):HS P w K mg base "read_condition" (k+2) Bv (Rw c1 (D+1)):=by
 refine C.RZ Dh (λvs H Q E h=>?_) (λX f cdv A outer s H vs Q E eX hx hr h=>?_)
 ·obtain⟨l,d,rfl,_⟩:=h;rfl
 subst eX;obtain⟨l,d,rfl,ol,dD,qe,q⟩:=h;have hk3:3<=k+1:=by omega
 have hk4:k<=k+1:=by omega
 refine⟨_,(@Ad _ _ _ _ _ (Bg (Av BK (pv 1) Ac (Bc _)) (@Ah _ _ _ (QZ rfl Dm.xc rfl XE.Qm hx (Aa Af Ab))) Ay)
 (@Ad _ _ _ _ _ (Bg (Ci (Dz Qau Qac Qad Io (pv 0) (Aa Af Ab))) (@Ah _ _ _ (@Ak _ _ _ _ (Le (hk:=(Qcf _)) Mw hr hx (Aa (Bq Ce (pv 0) (Bt Ac) Bx) (Aa (@Aq _ _ _ _ _ _ _ _ Ga (pv 1) Ac) Ab))))) Ay)
 (@Ad _ _ _ _ _ (Bg (Ci (Dz Qau Qac Qad Io (pv 0) (Aa Af Ab))) (@Ad _ _ _ _ _ (CV (Le (hk:=hk4) BW hr hx (Aa (Bq Ce (pv 0) (Bt Ac) Bx) (Aa (@Aq _ _ _ _ _ _ _ _ Ga (pv 1) Ac) Ab))) (Di rfl (Bd (Az (i:=2) Dh.nd rfl (Or.inl rfl)) (Bd (Az (i:=3) Dh.nd rfl (Or.inl rfl)) CN))))
 (@Ah _ _ _ (@Ak _ _ _ _ (Bl (Aa (Bl (Aa Af (Aa (pv 2) Ab))) (Aa (pv 3) Ab)))))) Ay)
 (@Ah _ _ _ (@Ak _ _ _ _ (Am (hk:=hk3) Gf hr (Aa (pv 0) Ab))))))),?_⟩
 refine⟨_,rq,rq,_,rq,?_⟩;cases d with
 | zero=>
  rw[QbN (show V.int ((0:Nat):Int)=V.int 0 from rfl)]
  exact Bp ⟨Ao (by show 1<=1000;decide),qe _ (Same.refl _)⟩
 | succ d=>
 rw[Qbv (show ¬V.int ((d+1:Nat):Int)=V.int 0 from λz=>by injection z with z;omega)]
 have ed:(((d+1:Nat):Int) - 1)=(d:Int):=by omega
 refine Bs ⟨_,rq,rq,_,_,rq,rq,_,rq,?_⟩;cases e1:Txt.startswith (S l) "(" with
 | true=>
  refine GJ rfl ?_;refine⟨_,rq,_,rq,_,rq,slO ol,_,rq,_,_,rq,rq,l.drop 1,d,?_,ol.drop 1,by omega,qe,λp t x r H' hp rx fx orr s'=>q p t x r H' hp rx fx orr s'⟩;show [V.str (Txt.slice (S l) (some 1) none),V.int (((d+1:Nat):Int) - 1)]=_;rw[MN,ed]
 | false=>
 refine CW rfl ⟨_,rq,rq,_,_,rq,rq,_,rq,?_⟩;cases e2:Txt.startswith (S l) "not " with
 | true=>
  obtain⟨r,er⟩:=(Nt l "not ").mp e2;have l40:(L (Str.ofString "not ")).length=4:=by trivial
  have l4:4<=l.length:=by rw[er,QaM];omega
  refine GJ rfl ?_;refine⟨_,rq,_,rq,_,rq,slO ol,_,rq,_,_,rq,rq,l.drop 4,d,?_,ol.drop 4,by omega,qe,λp t x r H1 hp rx fx orr s1=>⟨p,_,rq,SqT.of hp,rq,_,_,rq,_,_,rq,rq,?_⟩⟩
  ·show [V.str (Txt.slice (S l) (some ((4:Nat):Int)) none),V.int (((d+1:Nat):Int) - 1)]=_;rw[M4 l4,ed]
  refine⟨_,rq,Ao (by show 2<=1000;decide),λt4 ht4=>?_⟩;have s4:=Ag ht4 (.tup [.str "not",.ref t]);have c4:upd H1 t4 (.tup [.str "not",.ref t]) t4=some (.tup [.str "not",.ref t]):=Ae;generalize upd H1 t4 (.tup [.str "not",.ref t])=H4 at *;refine⟨_,rq,Ao (by show 2<=1000;decide),λp5 hp5=>?_⟩;have s5:=Ag hp5 (.tup [.ref t4,.str (S r)]);exact q p5 t4 (.tuple [.str "not",x]) r _ Ae (.tup (Cr (s5 _ _ c4)) (.cons (.str _) (.cons (Pz (s4.trans s5) rx) .nil))) (JM (Cj (Sd (by trivial)) (Cj fx (QaG _))) (by show 2<=900;decide)) orr (s1.trans (s4.trans s5))
 | false=>
  refine CW rfl ?_;exact⟨_,rq,l,rq,ol,λp t x r H' hp rx fx orr s'=>q p t x r H' hp rx (fx.mono (by omega)) orr s'⟩
theorem qU (C:Code K mg "read_condition" Ed Bv) (C':Code K mg "read_pair" GX DN) (T:Tz K w.params mg wA) (XE:Er K mg hc c0 c1 c2 c3 c4 c5 c6 c7 c8 c9 c10 c11 c12) (Dm:Knd K hc c1 [c0,c1,c2,c3,c4,c5,c6,c7,c8,c9,c10,c11,c12] 1) (CJ:Good P w K mg base "take_word" 1 Dq Nu) (Dn:Good P w K mg base "take_words" 2 Df Rt) (Bu:Good P w K mg base "read_number" 1 Ck Rv) (Gf:Good P w K mg base "read_leaf" 3 DP ZG):∀D,HS P w K mg base "read_condition" (4+2*D) Bv (Rw c1 D):=by
 intro D
 induction D with
 | zero=>
  refine C.RZ Dh (λvs H Q E h=>?_) (λX f cdv A outer s H vs Q E eX hx hr h=>?_)
  ·obtain⟨l,d,_,_,h1,_⟩:=h;omega
  ·obtain⟨l,d,_,_,h1,_⟩:=h;omega
 | succ D ih=>
  exact XQ (show 3<=4+2*D by omega) C T XE Dm Gf ih (iC (show 3<=4+2*D by omega) C' T CJ Dn Bu ih)
end
theorem Q7 {d:PyData} (h:nameP d=true):∃z,d=.str z/\Mu z:=by
 cases d with
 | str z=>
  have h:((decide ((1:Int)<=z.length)&&decide ((z.length:Int)<=8))&&z.cps.toList.all Oi)=true:=h;rw[Qbk,Qbk,QaS,QaS] at h;refine⟨z,rq,by omega,by omega,λc hc=>?_⟩;have:=Qbm.mp h.2 c hc;rw[Zt] at this;exact Qba this
 | _=>cases h
theorem MJ {d:PyData} {lo hi:Int} (h:wiP d lo hi=true):∃i,d=.int i/\lo<=i/\i<=hi:=by
 cases d with
 | int i=>
  have h:(decide (lo<=i)&&decide (i<=hi))=true:=h;rw[Qbk,QaS,QaS] at h;exact⟨i,rq,h.1,h.2⟩
 | _=>cases h
theorem Nh {i:Int} {lo hi:Int} (h0:0<=lo) (h1:lo<=i) (h2:i<=hi):∃n:Nat,i=(n:Int)/\lo<=n/\(n:Int)<=hi:=⟨i.toNat,by omega,by omega,by omega⟩
theorem map_nil {cs:List Cd} (h:([]:List PyData)=cs.map Cd.data):cs=[]:=List.map_eq_nil_iff.mp h.symm
theorem map_one {x:PyData} {cs:List Cd} (h:[x]=cs.map Cd.data):∃c,cs=[c]/\x=c.data:=by
 match cs,h with
 | [c],h=>injection h with h _;exact⟨c,rfl,h⟩
theorem map_two {x y:PyData} {cs:List Cd} (h:[x,y]=cs.map Cd.data):∃c d,cs=[c,d]/\x=c.data/\y=d.data:=by
 match cs,h with
 | [c,d],h=>injection h with h h2;injection h2 with h2 _;exact⟨c,d,rfl,h,h2⟩
theorem jM {d:PyData} (h:Cq d=true) {cs:List Cd} (e:DG d=cs.map Cd.data) (ok:∀c∈cs,c.ok):∃c:Cd,d=c.data/\c.inn=cs/\c.ok:=by
 unfold Cq at h;split at h
 case h_2=>cases h
 rename_i k r;rw[Qbk] at h;replace h:=h.2;unfold Cg at h;split at h
 ·rename_i hk;have hk:=DY.mp hk;subst hk;have e:[]=cs.map Cd.data:=by rw[<-e,G9 (z:="of") (by trivial)];exact (if_neg (by trivial)).symm
  rw[map_nil e];unfold ofR at h;split at h
  ·rename_i n z;rw[Qbk] at h;obtain⟨i,rfl,a1,a2⟩:=MJ h.1;obtain⟨z,rfl,oz⟩:=Q7 h.2;obtain⟨m,rfl,b1,b2⟩:=Nh (by decide) a1 a2;exact⟨.off m z,rq,rq,by omega,by omega,oz⟩
  ·cases h
 split at h
 ·rename_i hk;have hk:=DY.mp hk;subst hk;have e:[]=cs.map Cd.data:=by rw[<-e,G9 (z:="term") (by trivial)];exact (if_neg (by trivial)).symm
  rw[map_nil e];unfold Nr at h;split at h
  ·obtain⟨z,rfl,oz⟩:=Q7 h;exact⟨.term z,rq,rq,oz⟩
  ·cases h
 split at h
 ·rename_i hk;have hk:=DY.mp hk;subst hk;obtain⟨x,rfl⟩:=List.length_eq_one_iff.mp (Qba h);have e':DG (.tuple [.str "not",x])=[x]:=by
   show (if eqS (.str "not") "not"=true then [x].take 1 else if Ia (.str "not")=true then [x].take 2 else [])=[x]
   rw[if_pos (CK _)];rfl
  have e:[x]=cs.map Cd.data:=e'.symm.trans e;obtain⟨c,rfl,rfl⟩:=map_one e;exact⟨.neg c,rq,rq,ok c QaN⟩
 split at h
 ·rename_i hn hk;obtain⟨x,y,rfl⟩ : ∃x y,r=[x,y]:=by
   have h:=Qba h
   match r,h with
   | [x,y],_=>exact⟨x,y,rfl⟩
  rcases Jj.mp hk with rfl | rfl
  ·have e:[x,y]=cs.map Cd.data:=by rw[<-e,G9 (z:="and") (by trivial)];exact (if_pos (by trivial)).symm
   obtain⟨c,d,rfl,rfl,rfl⟩:=map_two e;exact⟨.both c d,rq,rq,ok c (by simp),ok d (by simp)⟩
  ·have e:[x,y]=cs.map Cd.data:=by rw[<-e,G9 (z:="or") (by trivial)];exact (if_pos (by trivial)).symm
   obtain⟨c,d,rfl,rfl,rfl⟩:=map_two e;exact⟨.any c d,rq,rq,ok c (by simp),ok d (by simp)⟩
 split at h
 ·rename_i hk;have hk:=DY.mp hk;subst hk;unfold JT at h;split at h
  ·rename_i x y n;have e:[x,y]=cs.map Cd.data:=by rw[<-e,G9 (z:="then") (by trivial)];exact (if_pos (by trivial)).symm
   obtain⟨c,d,rfl,rfl,rfl⟩:=map_two e;obtain⟨i,rfl,a1,a2⟩:=MJ h;obtain⟨m,rfl,b1,b2⟩:=Nh (by decide) a1 a2;exact⟨.thn c d m,rq,rq,ok c (by simp),ok d (by simp),by omega,by omega⟩
  ·cases h
 ·unfold Fb at h;split at h
  ·rename_i k' n e';cases e';rw[Qbk] at h;have hk:=DY.mp h.1;subst hk;have e:[]=cs.map Cd.data:=by rw[<-e,G9 (z:="key") (by trivial)];exact (if_neg (by trivial)).symm
   rw[map_nil e];obtain⟨i,rfl,a1,a2⟩:=MJ h.2;obtain⟨m,rfl,b1,b2⟩:=Nh (by decide) a1 a2;exact⟨.key m,rq,rq,by show m<=9;omega⟩
  ·rename_i k' a b e';cases e';rw[Qbk,Qbk] at h;have hk:=DY.mp h.1;subst hk;have e:[]=cs.map Cd.data:=by rw[<-e,G9 (z:="hours") (by trivial)];exact (if_neg (by trivial)).symm
   rw[map_nil e];obtain⟨i,rfl,a1,a2⟩:=MJ h.2.1;obtain⟨m,rfl,b1,b2⟩:=Nh (by decide) a1 a2;obtain⟨i',rfl,a1',a2'⟩:=MJ h.2.2;obtain⟨m',rfl,b1',b2'⟩:=Nh (by decide) a1' a2';exact⟨.hours m m',rq,rq,by show m<=23;omega,by omega⟩
  ·cases h
theorem jV {c:Cd} {n:Nat} (h:∀x∈c.inn,x.deep<=n):c.deep<=n+1:=by
 cases c with
 | neg a=>exact Qbo (h a (by simp[Cd.inn]))
 | both a b=>exact Qbo (Nat.max_le.mpr ⟨h a (by simp[Cd.inn]),h b (by simp[Cd.inn])⟩)
 | any a b=>exact Qbo (Nat.max_le.mpr ⟨h a (by simp[Cd.inn]),h b (by simp[Cd.inn])⟩)
 | thn a b k=>exact Qbo (Nat.max_le.mpr ⟨h a (by simp[Cd.inn]),h b (by simp[Cd.inn])⟩)
 | _=>exact Qbo (Qcg _)
theorem Uq {n:Nat}:∀{l:List PyData} {cs:List Cd},l.all Cq=true->l.flatMap DG=cs.map Cd.data->(∀c∈cs,c.ok/\c.deep<=n)->∃ds:List Cd,l=ds.map Cd.data/\(∀c∈ds,c.ok/\c.deep<=n+1)/\Fi ds=l.length+Fi cs
 | [],cs,_,e,_=>by
  rw[map_nil e];exact⟨[],rq,(λc hc=>by cases hc),rq⟩
 | d::r,cs,h,e,ok=>by
  rw[QbY,Qbk] at h;rw[Qbj] at e;obtain⟨c1,c2,rfl,e1,e2⟩:=List.map_eq_append_iff.mp e.symm;obtain⟨c,rfl,ci,co⟩:=jM h.1 e1.symm λx hx=>(ok x (QaD _ hx)).1;obtain⟨ds,rfl,do_,sm⟩:=Uq h.2 e2.symm λx hx=>ok x (Qax _ hx);refine⟨c::ds,rq,λx hx=>?_,?_⟩
  ·rcases QbP.mp hx with rfl | hx
   ·exact⟨co,jV λy hy=>(ok y (QaD _ (ci ▸ hy))).2⟩
   ·exact do_ x hx
  ·have a1:Fi (c::ds)=c.many+Fi ds:=by unfold Fi;rw[QbR,QbX]
   have a2:Fi (c1++c2)=Fi c1+Fi c2:=by unfold Fi;rw[Qbx,List.sum_append]
   have a3:=(Ph c).1;rw[ci] at a3;rw[a1,a2,sm,Qbl];omega
theorem Zj:∀(n:Nat) (l:List PyData) (m m':Nat),bfs n l m=some ([],m')->∃cs:List Cd,l=cs.map Cd.data/\(∀c∈cs,c.ok/\c.deep<=n)/\m'=m+Fi cs
 | 0,l,m,m',h=>by
  have h:some (l,m)=some ([],m'):=h;injection h with h;injection h with h1 h2;subst h1 h2;exact⟨[],rq,(λc hc=>by cases hc),rq⟩
 | n+1,l,m,m',h=>by
  have h:(if l.all Cq=true then bfs n (l.flatMap DG) (m+l.length) else none)=some ([],m'):=h
  split at h
  ·rename_i ha;obtain⟨cs,e,ok,em⟩:=Zj n _ _ _ h;obtain⟨ds,e2,ok2,sm⟩:=Uq ha e ok;exact⟨ds,e2,ok2,by omega⟩
  ·cases h
theorem jX {d:PyData} (h:Gb d=true):∃c:Cd,d=c.data/\c.ok/\c.deep<=6/\c.many<=20:=by
 unfold Gb at h;split at h
 ·cases h
 ·rename_i l m e;rw[Qbk] at h;have hl:=List.isEmpty_iff.mp h.1;subst hl;obtain⟨cs,e1,ok,em⟩:=Zj 6 [d] 0 m e;obtain⟨c,rfl,rfl⟩:=map_one e1;have hm:=Qba h.2;have:Fi [c]=c.many+0:=rfl;exact⟨c,rq,(ok c QaN).1,(ok c QaN).2,by omega⟩
theorem gZ {d:PyData} (h:Dc d=true):∃u:Ru,d=u.data/\u.ok:=by
 unfold Dc at h;split at h
 case h_2=>cases h
 rename_i k c x;rw[Qbk] at h;obtain⟨cd,rfl,o1,o2,o3⟩:=jX h.1;replace h:=h.2;split at h
 ·rename_i hk;have hk:=DY.mp hk;subst hk;obtain⟨z,rfl,oz⟩:=Q7 h;exact⟨.term z cd,rq,oz,o1,o2,o3⟩
 ·rw[Qbk] at h;have hk:=DY.mp h.1;subst hk;obtain⟨i,rfl,a1,a2⟩:=MJ h.2;obtain⟨m,rfl,b1,b2⟩:=Nh (by decide) a1 a2;exact⟨.sound m cd,rq,⟨by omega,by omega⟩,o1,o2,o3⟩
theorem Zo:∀{ds:List PyData},ds.all Dc=true->∃rs:List Ru,ds=rs.map Ru.data/\∀r∈rs,r.ok
 | [],_=>⟨[],rfl,λr h=>by cases h⟩
 | d::r,h=>by
  rw[QbY,Qbk] at h;obtain⟨u,rfl,ou⟩:=gZ h.1;obtain⟨rs,rfl,ors⟩:=Zo h.2;exact⟨u::rs,rq,List.forall_mem_cons.mpr ⟨ou,ors⟩⟩
theorem cC {ds:List PyData} (h:Eb (.tuple ds)=true):∃rs:List Ru,ds=rs.map Ru.data/\(∀r∈rs,r.ok)/\1<=rs.length/\rs.length<=16:=by
 have h:(Ea (.tuple ds) 1 16&&ds.all Dc)=true:=h;rw[Qbk] at h;obtain⟨rs,rfl,ok⟩:=Zo h.2;have h1:(decide ((1:Int)<=((rs.map Ru.data).length:Nat))&&decide ((((rs.map Ru.data).length:Nat):Int)<=16))=true:=h.1;rw[Qbk,QaS,QaS,Qbw] at h1;exact⟨rs,rq,ok,by omega,by omega⟩
abbrev Nv:Stmt:=top 60
abbrev Hl:YF:=G4
theorem Je:Bo ["_law_thing","_law_found","_law_e"] Hl (Ar Nv):=by ac_rfl
theorem mV (x:Str) (a c:Nat):L (Builtin.Str.strSub x a c)=((L x).drop a).take (c - a):=StrLaws.strSub_toList x a c
theorem bO {l:List Nat} (h:Ok9 l) (a c:Nat):Ok9 (L (Builtin.Str.strSub (S l) a c)):=by
 rw[mV];exact h.sub ((List.take_sublist _ _).trans (List.drop_sublist _ _))
theorem Yz {l:List Nat} (h:Ok9 l) (y:Str):∃a b c,Txt.partition (S l) y=(S a,c,S b)/\Ok9 a/\Ok9 b:=by
 unfold Txt.partition;split
 ·exact⟨_,_,_,rq,bO h ..,bO h ..⟩
 ·exact⟨l,[],_,rq,h,Qcg _,λc hc=>by cases hc⟩
def lin:List Nat->List (List Nat)
 | []=>[]
 | c::r=>if c=10 then []::lin r else match lin r with
  | []=>[]
  | a::t=>(c::a)::t
def T9 (l:List Nat):Prop:=l=[]\/∃l',l=l'++[10]
theorem T9.tail {c:Nat} {r:List Nat} (h:T9 (c::r)):T9 r/\(c≠10->r≠[]):=by
 rcases h with h |⟨l',h⟩
 ·cases h
 ·cases l' with
  | nil=>injection h with h1 h2;exact⟨.inl h2,λn=>absurd h1 n⟩
  | cons a t=>injection h with h1 h2;exact⟨.inr ⟨t,h2⟩,λ_ e=>by rw[e] at h2;cases t <;> cases h2⟩
theorem dF:∀{l:List Nat},T9 l->l≠[]->lin l≠[]
 | [],_,n=>absurd rfl n
 | c::r,h,_=>by
  obtain⟨h1,h2⟩:=h.tail;unfold lin;split
  ·exact λz=>by cases z
  ·rename_i hc;have:=dF h1 (h2 hc);split
   ·rename_i e;exact absurd e this
   ·exact λz=>by cases z
theorem dG:∀{l:List Nat},T9 l->((lin l).map λr=>r++[10]).flatten=l
 | [],_=>rfl
 | c::r,h=>by
  obtain⟨h1,h2⟩:=h.tail;have ih:=dG h1;unfold lin;split
  ·rename_i hc;subst hc;rw[QbR,Qbd,ih];rfl
  ·rename_i hc;have ne:=dF h1 (h2 hc);split
   ·rename_i e;exact absurd e ne
   ·rename_i a t e;rw[e] at ih;rw[QbR,Qbd] at ih ⊢;rw[<-ih];rfl
theorem dB:∀(l:List Nat),∀r∈lin l,10∉r
 | []=>λr h=>by cases h
 | c::r=>λx hx=>by
  have ih:=dB r;unfold lin at hx;split at hx
  ·rcases QbP.mp hx with rfl | hx
   ·exact λz=>by cases z
   ·exact ih x hx
  ·rename_i hc;split at hx
   ·cases hx
   ·rename_i a t e;rw[e] at ih;rcases QbP.mp hx with rfl | hx
    ·exact λz=>(QbP.mp z).elim (λz=>hc z.symm) (ih a QaN)
    ·exact ih x (QaB _ hx)
theorem YX:∀(l:List Nat),(lin l).length<=l.count 10
 | []=>Qcf _
 | c::r=>by
  have ih:=YX r;unfold lin;rw[List.count_cons];split
  ·rename_i hc;subst hc;rw[Qbl,if_pos (beq_self_eq_true _)];omega
  ·split
   ·exact Qcg _
   ·rename_i a t e;rw[e] at ih;rw[Qbl] at ih ⊢;omega
theorem YW:∀(l:List Nat),∀r∈lin l,r.Sublist l
 | []=>λr h=>by cases h
 | c::r=>λx hx=>by
  have ih:=YW r;unfold lin at hx;split at hx
  ·rcases QbP.mp hx with rfl | hx
   ·exact List.nil_sublist _
   ·exact (ih x hx).cons _
  ·split at hx
   ·cases hx
   ·rename_i a t e;rw[e] at ih;rcases QbP.mp hx with rfl | hx
    ·exact (ih a QaN).cons_cons _
    ·exact (ih x (QaB _ hx)).cons _
theorem sV {l:List Nat} (h:Txt.endswith (S l) "\n"=true):∃l',l=l'++[10]:=by
 have l4:L (Str.ofString "\n")=[10]:=N7.2.2;have e1:(Str.ofString "\n").length=1:=by rw[Ip,l4];rfl
 unfold Txt.endswith at h;rw[Qbk,QaS,Hg,Ai,e1,l4] at h;obtain⟨h1,h2⟩:=h;refine⟨l.take (l.length - 1),?_⟩;have e:=(Qaz (l.length - 1) l).symm;have h3:l.drop (l.length - 1)=[10]:=by
  rw[<-h2];exact (Qaw (by rw[Qbr];omega)).symm
 rw[h3] at e;exact e
section
variable {P:Program} {w:World} {K:YD} {mg:YB} {base:Heap} {wA hc c0 c1 c2 c3 c4 c5 c6 c7 c8 c9 c10 c11 c12:Addr}
def bV (c1:Addr):Sp:=λvs H Q E=>∃(l:List Nat),vs=[.str (S l)]/\Ok9 l/\(∀H',Same H H'->E (.ref c1) none H')/\∀t x H',Rep (onl H') (.ref t) x->Fit 8 x->Same H H'->Q (.ref t) H'
theorem Wq (C:Code K mg "read_row" KJ FZ) (T:Tz K w.params mg wA) (BW:HS P w K mg base "read_condition" 18 Bv (Rw c1 7)) (Bu:Good P w K mg base "read_number" 1 Ck Rv):HS P w K mg base "read_row" 19 FZ (bV c1):=by
 refine C.RZ BZ (λvs H Q E h=>?_) (λX f cdv A outer s H vs Q E eX hx hr h=>?_)
 ·obtain⟨l,rfl,_⟩:=h;rfl
 subst eX;obtain⟨l,rfl,ol,qe,q⟩:=h;refine⟨_,(Ad (CV (Dz Qau Qah Qai Ju (pv 0) (Aa Af Ab)) (Di rfl (Bd (Az (i:=1) BZ.nd rfl (Or.inl rfl)) (Bd (Az (i:=2) BZ.nd rfl (Or.inl rfl)) (Bd (Az (i:=3) BZ.nd rfl (Or.inl rfl)) CN)))))
 (Ad (CV (Dz Qau Qah Qai Ju (pv 1) (Aa Af Ab)) (Di rfl (Bd (Az (i:=4) BZ.nd rfl (Or.inl rfl)) (Bd (Az (i:=5) BZ.nd rfl (Or.inl rfl)) (Bd (Az (i:=6) BZ.nd rfl (Or.inl rfl)) CN)))))
 (Ad (CV (Le BW hr hx (Aa (pv 3) (Aa (Hj rfl T.MOST_DEEP) Ab))) (Di rfl (Bd (Az (i:=7) BZ.nd rfl (Or.inl rfl)) (Bd (Az (i:=8) BZ.nd rfl (Or.inl rfl)) CN))))
 (Ah (Ak (Bl (Aa (pv 4) (Aa (Q5 (Av BK (pv 4) Af (Bc _)) (Am Bu hr (Aa (pv 6) Ab)) (pv 6)) (Aa (pv 7) Ab))))))))),?_⟩
 obtain⟨a,b,y,e1,oa,ob⟩:=Yz ol " = ";obtain⟨a2,b2,y2,e2,oa2,ob2⟩:=Yz oa " ";refine⟨_,rq,rq,S l," = ",rq,rq,by trivial,szb (by rw[Ai];have:=ol.1;omega),λp1 hp1=>?_⟩;rw[e1];have s1:=Ag hp1 (.tup [.str (S a),.str y,.str (S b)]);refine⟨p1,_,rq,SqT.of Ae,rq,_,_,rq,_,_,rq,_,_,rq,rq,?_⟩;refine⟨_,rq,rq,S a," ",rq,rq,by trivial,szb (by rw[Ai];have:=oa.1;omega),λp2 hp2=>?_⟩;rw[e2];have s2:=Ag hp2 (.tup [.str (S a2),.str y2,.str (S b2)]);refine⟨p2,_,rq,SqT.of Ae,rq,_,_,rq,_,_,rq,_,_,rq,rq,?_⟩;refine⟨_,rq,b,6,rq,ob,by decide,λH' s=>qe _ (s1.trans (s2.trans s)),λp3 t x r H3 hp3 rt fx orr s3=>⟨p3,_,rq,SqT.of hp3,rq,_,_,rq,_,_,rq,rq,?_⟩⟩;have s03:=s1.trans (s2.trans s3);refine⟨_,rq,_,rq,rq,_,rq,?_⟩;refine ifS (λ_=>?_) (λ_=>?_)
 ·refine⟨_,rq,_,rq,(by rw[Ai];have:=ob2.1;omega),λo H4 so s4=>⟨_,rq,Ao (by show 3<=1000;decide),λp5 hp5=>?_⟩⟩;have s5:=Ag hp5 (.tup [.str (S a2),oV o,.ref t]);exact q p5 (.tuple [.str (S a2),oD o,x]) _ (.tup (Cr Ae) (.cons (.str _) (.cons (Qj o) (.cons (Pz (s4.trans s5) rt) .nil)))) (JM (Cj (JN oa2) (Cj (Qq _ o) (Cj fx (QaG _)))) (by show 3<=900;decide)) (s03.trans (s4.trans s5))
 ·refine⟨_,rq,_,rq,Ao (by show 3<=1000;decide),λp5 hp5=>?_⟩;have s5:=Ag hp5 (.tup [.str (S a2),.str (S b2),.ref t]);exact q p5 (.tuple [.str (S a2),.str (S b2),x]) _ (.tup (Cr Ae) (.cons (.str _) (.cons (.str _) (.cons (Pz s5 rt) .nil)))) (JM (Cj (JN oa2) (Cj (JN ob2) (Cj fx (QaG _)))) (by show 3<=900;decide)) (s03.trans s5)
def lF (c1:Addr):Sp:=λvs H Q E=>∃v,vs=[v]/\(∀H',Same H H'->E (.ref c1) none H')/\((isS v=false/\Kn H v)\/∃l:List Nat,v=.str (S l)/\Ok9 l/\l.count 10<=890/\∀p (rs:List Ru) H',l=(rs.map Ru.txt).flatten->(∀r∈rs,r.ok)->1<=rs.length->rs.length<=16->Rep H' (.ref p) (.tuple (rs.map Ru.data))->Same H H'->Q (.ref p) H')
theorem Tg (C:Code K mg "read_rules" Jp Em) (T:Tz K w.params mg wA) (XE:Er K mg hc c0 c1 c2 c3 c4 c5 c6 c7 c8 c9 c10 c11 c12) (Dm:Knd K hc c1 [c0,c1,c2,c3,c4,c5,c6,c7,c8,c9,c10,c11,c12] 1) (Ob:HS P w K mg base "read_row" 19 FZ (bV c1)) (Oc:Good P w K mg base "is_rules" 7 Hy (GC Eb)) (Lr:Good P w K mg base "show_rules" 8 Gm MK):HS P w K mg base "read_rules" 20 Em (lF c1):=by
 refine C.RZ Il (λvs H Q E h=>?_) (λX f cdv A outer s H vs Q E eX hx hr h=>?_)
 ·obtain⟨v,rfl,_⟩:=h;rfl
 subst eX;obtain⟨v,rfl,qe,h⟩:=h;refine⟨_,(Ad (Bg (PW.pt (DR (Cw (Ci (Ax DW rfl T.isinstance Bh (Aa (pv 0) (Aa (Ef (v:=.ty "str") rfl T.str GR rfl) Ab))))) (DQ (Cw (Ci (Dz Qau PySem.F.slot_str_endswith PySem.F.type_str_endswith Qz (pv 0) (Aa Af Ab))))))) (Ah (QZ rfl Dm.xc rfl XE.Qm hx (Aa Af Ab))) Ay)
 (Ad (Bf (i:=1) Il.nd rfl (Or.inl rfl) (Dr KC rfl T.tuple IW (Aa (iy (N':=["row"]) rfl rfl rfl hx (CZ.plain rfl (by trivial) (by trivial) (by trivial)) (Qg (Bq Yr (Dz Qau PySem.F.slot_str_split PySem.F.type_str_split WD (pv 0) (Aa Af Ab)) Bx (Bt (Vs Rp Ac)))) (λ_ _ _ _=>(Az (i:=0) (show List.Nodup (["row"]:YF) by trivial) rfl (Or.inl rfl))) (λ_ _ _ _=>Ii) (λ_ _ _ _ _ _ hx=>(Le Ob hr hx (Aa (pv 0) Ab)))) Ab)))
 (Ad (Bg (PW.pt (DR (Cw (Ci (Am Oc hr (Aa (pv 1) Ab)))) (DQ (Av Jt (Am Lr hr (Aa (pv 1) Ab)) (pv 0) (Bc _))))) (Ah (QZ rfl Dm.xc rfl XE.Qm hx (Aa Af Ab))) Ay)
 (Ah (Ak (pv 1)))))),?_⟩
 rcases h with⟨hv,kv⟩|⟨l,rfl,ol,l10,q⟩
 ·exact⟨_,rq,Lq kv ⟨_,rq,by rw[hv];exact Bp ⟨Ao (by show 1<=1000;decide),qe _ (Same.refl _)⟩⟩⟩
 refine⟨_,rq,Y5 ⟨_,rq,Bs ⟨_,rq,rq,_,_,rq,rq,_,rq,?_⟩⟩⟩;cases en:Txt.endswith (S l) "\n" with
 | false=>exact GJ rfl ⟨Ao (by show 1<=1000;decide),qe _ (Same.refl _)⟩
 | true=>
 refine CW rfl ?_;obtain⟨l',el⟩:=sV en;have eL:T9 l:=.inr ⟨l',el⟩;have lj:=dG eL;have sp:=Rr (rows:=lin l) (λr hr c hc e=>dB l r hr (e ▸ hc));have ln:=Qca (YX l) l10;rw[lj] at sp;refine⟨_,rq,rq,S l,"\n",rq,rq,by trivial,Qca (show (S l).length+2<=100000 by rw[Ai];have:=ol.1;omega) SQ,λp1 hp1=>?_⟩;rw[sp,Qbx,Qbx];refine⟨_,rq,_,rq,p1,_,rq,SqL.of Ae,λp2 hp2=>⟨p2,rq,⟨_,SqL.of Ae⟩,λll hl=>?_⟩⟩;rw[show GP (List.map V.str (List.map S (lin l))++List.map V.str (List.map S [[]])) none (some (-1))=List.map V.str (List.map S (lin l)) from Xc] at *
 have s1:=(Ag hp1 (.lst (List.map V.str (List.map S (lin l))++List.map V.str (List.map S [[]])))).trans (Ag hp2 (.lst (List.map V.str (List.map S (lin l)))));have c2:upd (upd H p1 (.lst (List.map V.str (List.map S (lin l))++List.map V.str (List.map S [[]])))) p2 (.lst (List.map V.str (List.map S (lin l)))) p2=some (.lst (List.map V.str (List.map S (lin l)))):=Ae;generalize upd (upd H p1 (.lst (List.map V.str (List.map S (lin l))++List.map V.str (List.map S [[]])))) p2 (.lst (List.map V.str (List.map S (lin l))))=H2 at *;refine Pn (xs:=List.map V.str (List.map S (lin l))) (λ(i:Nat) (U : St) (HX:Hp)=>∃(b1:Option V) (ys:YG) (ds:List PyData),U=[b1]/\HX ll=some (.lst ys)/\Bk (onl HX) ys ds/\(∀d∈ds,Fit 8 d)/\ds.length=i/\i<=(lin l).length/\Same H2 HX) ⟨none,[],[],rq,Ae,.nil,(λd hd=>by cases hd),rq,Qcg _,Ag hl _⟩ (λi U HX _ h=>?_) (λi x U HX hx h=>?_) (fun U HX h=>?_)
 ·obtain⟨_,_,_,rfl,_,_,_,_,_,s⟩:=h;exact SqL.of (s _ _ c2)
 ·obtain⟨b1,ys,ds,rfl,e,rr,fd,dl,il,s⟩:=h;rw[Qbe,Qbe] at hx;cases hu:(lin l)[i]? with
  | none=>rw[hu] at hx;cases hx
  | some u=>
  rw[hu] at hx;injection hx with hx;subst hx;have hi:=(Qaj.mp hu).1;have uo:Ok9 u:=ol.sub (YW l u (QaC hu));unfold Gi;dsimp only;refine Bp ⟨_,rq,u,rq,uo,λH' s'=>qe _ (s1.trans (s.trans s')),λp x HY ry fx sy=>?_⟩;have ey:=sy _ _ e;have yl:=Bk.len rr;have ts:Dw HY (upd HY ll (.lst (ys++[.ref p]))):=(Aw.upd (b:=ll)).tup λxs z=>by rw[ey] at z;cases z
  refine⟨ys,ey,Ca (by omega),_,_,ds++[x],rq,Ae,Bk.app (Bk.same (Fx (Dw.trans (Dw.of sy) ts)) rr) (.cons (Rep.same (Fx ts) ry) .nil),λd hd=>?_,by rw[QaM,dl];rfl,hi,(s.trans sy).Fj Aw.upd hl⟩;rcases Qby.mp hd with hd | hd
  ·exact fd d hd
  ·rw[QaO.mp hd];exact fx
 ·obtain⟨b1,ys,ds,rfl,e,rr,fd,dl,il,s⟩:=h;refine⟨ll,ys,rq,.inl ⟨SqL.of e,λt ht=>?_⟩⟩;have st:=Ag ht (.tup ys);have rt:Rep (upd HX t (.tup ys)) (.ref t) (.tuple ds):=.tup Ae (Bk.same ((Te HX).trans st) rr);generalize upd HX t (.tup ys)=H5 at *;have s5:=s1.trans (s.trans st);have ft:Fit 64 (.tuple ds):=(JM fd (by omega)).mono (by decide);refine⟨_,rq,.ref t,.tuple ds,rq,rt,ft,λH6 s6=>⟨_,rq,?_⟩⟩;cases hb:Eb (.tuple ds) with
  | false=>exact Bp ⟨Ao (by show 1<=1000;decide),qe _ (s5.trans s6)⟩
  | true=>
  obtain⟨rs,rfl,ok,r1,r16⟩:=cC hb;have rt6:=Rep.same s6 rt;refine Bs ⟨_,rq,.ref t,rs,rq,rt6,ok,r16,λH7 s7=>⟨_,rq,rq,_,rq,?_⟩⟩;have s57:=s5.trans (s6.trans s7);by_cases e:l=(rs.map Ru.txt).flatten
  ·refine CW (by rw[e];simp) ?_;exact⟨_,rq,q t rs _ e ok r1 r16 (Rep.same s7 rt6) s57⟩
  ·refine GJ (by simp;exact λh=>e (congrArg L h).symm) ?_;exact⟨Ao (by show 1<=1000;decide),qe _ s57⟩
def Yp:Sp:=λvs H Q _=>∃v,vs=[v]/\(∀H',Same H H'->Q (.str "text") H')/\((isS v=false/\Kn H v)\/∃l:List Nat,v=.str (S l)/\Ok9 l/\l.count 10<=890/\∀p (rs:List Ru) H',l=(rs.map Ru.txt).flatten->(∀r∈rs,r.ok)->1<=rs.length->rs.length<=16->Rep H' (.ref p) (.tuple (rs.map Ru.data))->Same H H'->Q (.ref p) H')
theorem Z1 (c:Code K mg "_law_read" Nv Hl) (T:Nm mg) (XE:Er K mg hc c0 c1 c2 c3 c4 c5 c6 c7 c8 c9 c10 c11 c12) (Dm:Knd K hc c1 [c0,c1,c2,c3,c4,c5,c6,c7,c8,c9,c10,c11,c12] 1) (Ls:HS P w K mg base "read_rules" 20 Em (lF c1)) (Ra:Sw P w K mg base "_law_kind" 1 JG (V6 K hc [c0,c1,c2,c3,c4,c5,c6,c7,c8,c9,c10,c11,c12])):Good P w K mg base "_law_read" 21 Hl Yp:=by
 refine c.good Je (λvs H Q E h=>?_) (λf cdv A outer s H vs Q E hr h=>?_)
 ·obtain⟨v,rfl,_⟩:=h;rfl
 obtain⟨v,rfl,qt,h⟩:=h;refine⟨_,(Ad (cH (i:=2) Je.nd rfl rfl rfl rfl rfl XE.Qy XE.Qx (λpn E1 EX hx=>(Ah (Bf (i:=1) Je.nd rfl (Or.inl rfl) (Le Ls hr hx (Aa (pv 0) Ab)))))
 (λpn ea=>(Ah (Ak (cN Ra (hr.inH _) (Aa (pv 2) Ab))))))
 (Ah (Ak (pv 1)))),?_⟩
 have qe:∀H1,Same H H1->∀e,H1 e=none->∀HB,Same (upd H1 e (xo e c1)) HB->Q (.str "text") HB:=λH1 s1 e he HB sB=>qt _ (s1.trans ((Ag he _).trans sB));rcases h with h |⟨l,rfl,ol,l10,q⟩
 ·refine⟨_,rq,v,rq,λH1 s1=>?_,.inl h⟩;refine⟨_,rq,Dm.xc,Dm.sub,λe he=>?_⟩;exact⟨_,rq,e,_,1,rq,Ae,Dm,by decide,λHB sB=>qe H1 s1 e he HB sB⟩
 ·refine⟨_,rq,_,rq,λH1 s1=>?_,.inr ⟨l,rq,ol,l10,λp rs H1 e1 e2 e3 e4 r s1=>?_⟩⟩
  ·refine⟨_,rq,Dm.xc,Dm.sub,λe he=>?_⟩;exact⟨_,rq,e,_,1,rq,Ae,Dm,by decide,λHB sB=>qe H1 s1 e he HB sB⟩
  ·exact⟨_,rq,q p rs H1 e1 e2 e3 e4 r s1⟩
theorem Z2 (c:Code K mg "_law_read" Nv Hl) (T:Nm mg) (XE:Er K mg hc c0 c1 c2 c3 c4 c5 c6 c7 c8 c9 c10 c11 c12) (Ls:Good P w K mg base "read_rules" 18 Em ZJ) (Ra:Sw P w K mg base "_law_kind" 1 JG (V6 K hc [c0,c1,c2,c3,c4,c5,c6,c7,c8,c9,c10,c11,c12])):Good P w K mg base "_law_read" 19 Hl ZJ:=by
 refine c.good Je (λvs H Q E h=>?_) (λf cdv A outer s H vs Q E hr h=>?_)
 ·obtain⟨rs,rfl,_⟩:=h;rfl
 obtain⟨rs,rfl,ok,r1,r16,q⟩:=h;refine⟨_,(Ad (cH (i:=2) Je.nd rfl rfl rfl rfl rfl XE.Qy XE.Qx (λpn E1 EX hx=>(Ah (Bf (i:=1) Je.nd rfl (Or.inl rfl) (Am Ls hr (Aa (pv 0) Ab)))))
 (λpn ea=>(Ah (Ak (cN Ra (hr.inH _) (Aa (pv 2) Ab))))))
 (Ah (Ak (pv 1)))),?_⟩
 exact⟨_,rq,rs,rq,ok,r1,r16,λp H1 r s1=>⟨_,rq,q p H1 r s1⟩⟩
end
def dl:List (List (Nat×Nat×Nat)):=[[(116,116,1),(115,115,6)],[(101,101,2)],[(114,114,3)],[(109,109,4)],[(32,32,5)],[(97,122,12)],[(111,111,7)],[(117,117,8)],[(110,110,9)],[(100,100,10)],[(32,32,11)],[(49,57,14)],[(97,122,12),(32,32,13)],[(61,61,16)],[(48,57,15),(32,32,13)],[(32,32,13)],[(32,32,17)],[(40,40,17),(110,110,18),(107,107,21),(116,116,25),(104,104,30),(49,57,36)],[(111,111,19)],[(116,116,20)],[(32,32,17)],[(101,101,22)],[(121,121,23)],[(32,32,24)],[(48,57,40)],[(101,101,26)],[(114,114,27)],[(109,109,28)],[(32,32,29)],[(97,122,41)],[(111,111,31)],[(117,117,32)],[(114,114,33)],[(115,115,34)],[(32,32,35)],[(48,48,42),(49,57,43)],[(32,32,37)],[(111,111,38)],[(102,102,39)],[(32,32,29)],[(32,32,49),(41,41,50),(10,10,0)],[(97,122,41),(32,32,49),(41,41,50),(10,10,0)],[(32,32,44)],[(48,57,42),(32,32,44)],[(116,116,45)],[(111,111,46)],[(32,32,47)],[(48,48,40),(49,57,48)],[(48,57,40),(32,32,49),(41,41,50),(10,10,0)],[(97,97,52),(111,111,55),(116,116,57),(119,119,61)],[(32,32,49),(41,41,50),(10,10,0)],[(32,32,49),(41,41,50),(10,10,0),(48,57,40)],[(110,110,53)],[(100,100,54)],[(32,32,17)],[(114,114,56)],[(32,32,17)],[(104,104,58)],[(101,101,59)],[(110,110,60)],[(32,32,17)],[(105,105,62)],[(116,116,63)],[(104,104,64)],[(105,105,65)],[(110,110,66)],[(32,32,67)],[(49,57,51)]]
def step (s c:Nat):Option Nat:=((dl.getD s []).find? λt=>decide (t.1<=c)&&decide (c<=t.2.1)).map λt=>t.2.2
def run:Nat->List Nat->Option Nat
 | s,[]=>some s
 | s,c::r=>match step s c with
  | none=>none
  | some t=>run t r
theorem JB {s c t:Nat} {r:List Nat} (h:step s c=some t):run s (c::r)=run t r:=by
 show (match step s c with | none=>none | some t=>run t r)=_
 rw[h]
theorem Ib {s c:Nat} {r:List Nat} (h:step s c=none):run s (c::r)=none:=by
 show (match step s c with | none=>none | some t=>run t r)=_
 rw[h]
theorem GD {s c x:Nat} {r:List Nat} (h:run s (c::r)=some x):∃t,step s c=some t/\run t r=some x:=by
 cases e:step s c with
 | none=>rw[Ib e] at h;cases h
 | some t=>rw[JB e] at h;exact⟨t,rfl,h⟩
theorem Jf:∀(s:Nat) (a b:List Nat),run s (a++b)=(run s a).bind λt=>run t b
 | s,[],b=>rfl
 | s,c::r,b=>by
  cases e:step s c with
  | none=>rw[List.cons_append,Ib e,Ib e];rfl
  | some t=>rw[List.cons_append,JB e,JB e,Jf t r b]
theorem Cz {s t x:Nat} {a b:List Nat} (h:run s a=some t) (h2:run t b=some x):run s (a++b)=some x:=by rw[Jf,h];exact h2
theorem NQ {s x:Nat} {a b:List Nat} (h:run s (a++b)=some x):∃t,run s a=some t/\run t b=some x:=by
 rw[Jf] at h;cases e:run s a with
 | none=>rw[e] at h;cases h
 | some t=>rw[e] at h;exact⟨t,rfl,h⟩
theorem Qa {s c t:Nat} (h:step s c=some t):s < 68/\c < 128:=by
 have hs:s < dl.length:=by
  by_cases hs:s < dl.length
  ·exact hs
  ·unfold step at h;rw[Qaf,List.getElem?_eq_none (by omega)] at h;cases h
 refine⟨hs,?_⟩;unfold step at h;rw[Qaf,Qam hs] at h;obtain⟨x,hx,_⟩:=Option.map_eq_some_iff.mp h;have hm:=List.mem_of_find?_eq_some hx;have hp:=List.find?_some hx;have key:dl.all (λr=>r.all λt=>decide (t.2.1 < 128))=true:=by trivial
 have:=Qba (Qbm.mp (Qbm.mp key _ (Qbt hs)) x hm);rw[Qbk,QaS,QaS] at hp;omega
def P5:List (Nat×Nat):=[(5,4),(11,10),(13,12),(13,14),(13,15),(17,16),(17,20),(17,49),(17,54),(17,56),(17,60),(24,23),(25,57),(29,28),(29,39),(35,34),(37,36),(44,42),(44,43),(47,46),(49,40),(49,41),(49,48),(49,50),(49,51),(52,41),(53,41),(54,41),(55,41),(56,41),(57,41),(58,41),(59,41),(60,41),(61,41),(62,41),(63,41),(64,41),(65,41),(66,41),(67,49),(67,66)]
def okA (s:Nat):Bool:=match step s 32 with
 | none=>true
 | some t=>(step t 32).isNone&&((match step t 48 with
  | none=>true
  | some u=>(List.range 10).all λd=>(step u (48+d)).isNone)&&decide ((t,s)∈P5))
def okP (p:Nat×Nat):Bool:=decide (p≠(0,0))&&(List.range 128).all λc=>match step p.1 c,step p.2 c with
 | some a,some b=>decide ((a,b)∈P5)
 | _,_=>true
def ZF:List Nat:=[65,66,67,88,89,90,91,93,123,125,35,59]
theorem AY:(List.range 68).all okA=true:=by trivial
theorem tY:P5.all okP=true:=by trivial
theorem AX:(List.range 68).all (λs=>ZF.all λc=>(step s c).isNone)=true:=by trivial
theorem Jx:step 0 10=none/\step 0 32=none/\step 0 120=none:=by trivial
theorem blank {s t:Nat} (h:step s 32=some t):step t 32=none/\(∀u,step t 48=some u->∀d,d < 10->step u (48+d)=none)/\(t,s)∈P5:=by
 have:=Qbm.mp AY s (List.mem_range.mpr (Qa h).1);unfold okA at this;rw[h] at this;dsimp only at this;rw[Qbk,Qbk,QaS] at this;obtain⟨h1,h2,h3⟩:=this;refine⟨Option.isNone_iff_eq_none.mp h1,λu hu d hd=>?_,h3⟩;rw[hu] at h2;exact Option.isNone_iff_eq_none.mp (Qbm.mp h2 d (List.mem_range.mpr hd))
theorem VJ:∀(u:List Nat) {p q:Nat},(p,q)∈P5->run p u=some 0->run q u=some 0->False
 | [],p,q,hp,h1,h2=>by
  have:=Qbm.mp tY _ hp;unfold okP at this;rw[Qbk,QaS] at this;cases h1;cases h2;exact this.1 rfl
 | c::r,p,q,hp,h1,h2=>by
  obtain⟨a,ha,h1⟩:=GD h1;obtain⟨b,hb,h2⟩:=GD h2;have:=Qbm.mp tY _ hp;unfold okP at this;rw[Qbk] at this;have:=Qbm.mp this.2 c (List.mem_range.mpr (Qa ha).2);rw[ha,hb] at this;exact VJ r (Qba this) h1 h2
def Oh (s:Nat):Bool:=decide (s∈([41,40,48,50,51]:List Nat))
theorem pA {P:Nat->Prop} (h:P 41/\P 40/\P 48/\P 50/\P 51):∀s,Oh s=true->P s:=λs hs=>by
 have hs:=Qba hs;simp only[QbP,Qbp,Qco] at hs;obtain⟨h1,h2,h3,h4,h5⟩:=h;rcases hs with rfl | rfl | rfl | rfl | rfl
 ·exact h1
 ·exact h2
 ·exact h3
 ·exact h4
 ·exact h5
theorem Ja:∀s,Oh s=true->run s (L " and ")=some 17/\run s (L " or ")=some 17/\run s (L " then ")=some 17/\run s (L ")")=some 50/\run s [10]=some 0/\run s (L " within ")=some 67:=pA (by trivial)
theorem tL:run 17 (L "(")=some 17/\run 17 (L "not ")=some 17/\run 17 (L "term ")=some 29/\run 17 (L "key ")=some 24/\run 17 (L "hours ")=some 35:=by trivial
theorem nR:∀n,n < 10->1<=n->run 17 (num n++L " of ")=some 29:=by trivial
theorem oK:∀k,k < 10->(run 24 (num k)).any Oh=true:=by trivial
theorem jE:∀a,a < 24->run 35 (num a++L " to ")=some 47:=by trivial
theorem dY:∀a,a < 24->(run 47 (num a)).any Oh=true:=by trivial
theorem gF:∀n,n < 21->1<=n->run 67 (num n++L ")")=some 50:=by trivial
theorem jG:∀n,n < 100->1<=n->run 0 (L "sound "++(num n++L " = "))=some 17:=by trivial
theorem d7:run 0 (L "term ")=some 5/\run 12 (L " = ")=some 17:=by trivial
theorem letters:∀i,i < 26->step 29 (97+i)=some 41/\step 41 (97+i)=some 41/\step 5 (97+i)=some 12/\step 12 (97+i)=some 12:=by trivial
theorem Zr {c:Nat} (h:c∈abc.cps.toList):∃i,i < 26/\c=97+i:=by
 have key:abc.cps.toList.all (λc=>decide (97<=c/\c<=122))=true:=by trivial
 have:=Qba (Qbm.mp key c h);exact⟨c - 97,by omega,by omega⟩
theorem T8 {s t:Nat} (h1:∀i,i < 26->step s (97+i)=some t) (h2:∀i,i < 26->step t (97+i)=some t):∀{l:List Nat},l≠[]->(∀c∈l,c∈abc.cps.toList)->run s l=some t
 | [],n,_=>absurd rfl n
 | c::r,_,h=>by
  obtain⟨i,hi,rfl⟩:=Zr (h c QaN);rw[JB (h1 i hi)];cases r with
  | nil=>rfl
  | cons d u=>exact T8 h2 h2 (λe=>by cases e) λx hx=>h x (QaB _ hx)
theorem lX {z:Str} (h:Mu z):L z≠[]:=λe=>by
 have:=h.1;rw[Ip,e] at this;exact absurd this (by decide)
theorem Wz {z:Str} (h:Mu z):run 29 (L z)=some 41/\run 5 (L z)=some 12:=⟨T8 (λi hi=>(letters i hi).1) (λi hi=>(letters i hi).2.1) (lX h) h.2.2,T8 (λi hi=>(letters i hi).2.2.1) (λi hi=>(letters i hi).2.2.2) (lX h) h.2.2⟩
theorem Zn {o:Option Nat} (h:o.any Oh=true):∃t,o=some t/\Oh t=true:=by
 cases o with
 | none=>cases h
 | some t=>exact⟨t,rfl,h⟩
theorem Py:Oh 41=true/\Oh 50=true:=by decide
theorem tE:∀{c:Cd},c.ok->∃t,run 17 c.txt=some t/\Oh t=true:=by
 obtain⟨r1,r2,r3,r4,r5⟩:=tL;intro c
 induction c with
 | off n z=>
  intro h;have h2:=h.2.1;refine⟨41,?_,Py.1⟩;show run 17 (num n++(L " of "++L z))=_;rw[<-QaZ];exact Cz (nR n (by omega) h.1) (Wz h.2.2).1
 | term z=>exact λh=>⟨41,Cz r3 (Wz h).1,Py.1⟩
 | key k=>
  intro h;have h:k<=9:=h;obtain⟨t,e,a⟩:=Zn (oK k (by omega));exact⟨t,Cz r4 e,a⟩
 | hours a b=>
  intro h;have h:a<=23/\b<=23:=h;obtain⟨t,e,at_⟩:=Zn (dY b (by omega));refine⟨t,Cz r5 ?_,at_⟩;rw[<-QaZ];exact Cz (jE a (by omega)) e
 | neg c ih=>
  intro h;obtain⟨t,e,a⟩:=ih h;exact⟨t,Cz r2 e,a⟩
 | both c d ih1 ih2=>
  intro h;obtain⟨t1,e1,a1⟩:=ih1 h.1;obtain⟨t2,e2,a2⟩:=ih2 h.2;exact⟨50,Cz r1 (Cz e1 (Cz (Ja t1 a1).1 (Cz e2 (Ja t2 a2).2.2.2.1))),Py.2⟩
 | any c d ih1 ih2=>
  intro h;obtain⟨t1,e1,a1⟩:=ih1 h.1;obtain⟨t2,e2,a2⟩:=ih2 h.2;exact⟨50,Cz r1 (Cz e1 (Cz (Ja t1 a1).2.1 (Cz e2 (Ja t2 a2).2.2.2.1))),Py.2⟩
 | thn c d n ih1 ih2=>
  intro h;have hn:=h.2.2;obtain⟨t1,e1,a1⟩:=ih1 h.1;obtain⟨t2,e2,a2⟩:=ih2 h.2.1;exact⟨50,Cz r1 (Cz e1 (Cz (Ja t1 a1).2.2.1 (Cz e2 (Cz (Ja t2 a2).2.2.2.2.2 (gF n (by omega) hn.1))))),Py.2⟩
theorem qJ {u:Ru} (h:u.ok):run 0 u.txt=some 0:=by
 have e10:=N7.2.2;obtain⟨t,e,a⟩:=tE (Hi h).1;have fin:run 17 (u.c.txt++L "\n")=some 0:=by rw[e10];exact Cz e (Ja t a).2.2.2.2.1
 cases u with
 | term z c=>
  show run 0 (((L "term "++L z)++(L " = "++c.txt))++L "\n")=_;rw[QaZ,QaZ,QaZ];exact Cz d7.1 (Cz (Wz h.1).2 (Cz d7.2 fin))
 | sound n c=>
  have hn:=h.1;show run 0 (((L "sound "++num n)++(L " = "++c.txt))++L "\n")=_;have e:((L "sound "++num n)++(L " = "++c.txt))++L "\n"=(L "sound "++(num n++L " = "))++(c.txt++L "\n"):=by simp only[QaZ]
  rw[e];exact Cz (jG n (by omega) hn.1) fin
theorem acc:∀{rs:List Ru},(∀r∈rs,r.ok)->run 0 (rs.map Ru.txt).flatten=some 0
 | [],_=>rfl
 | u::r,h=>by
  rw[QbR,Qbd];exact Cz (qJ (h u QaN)) (acc λx hx=>h x (QaB _ hx))
def NoR (l:List Nat):Prop:=∀rs:List Ru,(∀r∈rs,r.ok)->1<=rs.length->rs.length<=16->l≠(rs.map Ru.txt).flatten
theorem Ku {l:List Nat} (h:run 0 l≠some 0):NoR l:=λrs ok _ _ e=>h (e ▸ acc ok)
section
variable {T:List Nat} (hT:run 0 T=some 0)
include hT
theorem kW:NoR (10::T):=Ku (by rw[Ib Jx.1];exact λh=>by cases h)
theorem wy1 {c:Nat} (hc:c=10\/c=32\/c=120):NoR (T++[c]):=Ku (by
 rw[Jf,hT];show run 0 [c]≠_;rcases hc with rfl | rfl | rfl
 ·rw[Ib Jx.1];exact λh=>by cases h
 ·rw[Ib Jx.2.1];exact λh=>by cases h
 ·rw[Ib Jx.2.2];exact λh=>by cases h)
theorem wy0 {Y:List Nat} (e:T=Y++[10]):NoR Y:=Ku λh=>by
 rw[e,Jf,h] at hT;have hT:run 0 [10]=some 0:=hT;rw[Ib Jx.1] at hT;cases hT
theorem wy4 {a b:List Nat} (e:T=a++32::b):NoR (a++32::32::b):=Ku λh=>by
 rw[e] at hT;obtain⟨s,h1,h2⟩:=NQ hT;obtain⟨t,ht,_⟩:=GD h2;rw[Jf,h1] at h;have h:run s (32::32::b)=some 0:=h;rw[JB ht,Ib (blank ht).1] at h;cases h
theorem wy5 {a b:List Nat} (e:T=a++32::b):NoR (a++b):=Ku λh=>by
 rw[e] at hT;obtain⟨s,h1,h2⟩:=NQ hT;obtain⟨t,ht,h3⟩:=GD h2;rw[Jf,h1] at h;exact VJ b (blank ht).2.2 h3 h
theorem wy6 {a b:List Nat} {d:Nat} (hd:48<=d/\d<=57) (e:T=a++32::d::b):NoR (a++32::48::d::b):=Ku λh=>by
 rw[e] at hT;obtain⟨s,h1,h2⟩:=NQ hT;obtain⟨t,ht,_⟩:=GD h2;rw[Jf,h1] at h;have h:run s (32::48::d::b)=some 0:=h;rw[JB ht] at h;obtain⟨u,hu,h⟩:=GD h;obtain⟨v,hv,_⟩:=GD h;have:=(blank ht).2.1 u hu (d - 48) (by omega);rw[show 48+(d - 48)=d by omega,hv] at this;cases this
end
theorem wy2 {a b:List Nat} {x:Nat} (hx:x∈ZF):NoR (a++x::b):=Ku λh=>by
 obtain⟨s,h1,h2⟩:=NQ h;obtain⟨t,ht,_⟩:=GD h2;have:=Qbm.mp (Qbm.mp AX s (List.mem_range.mpr (Qa ht).1)) x hx;rw[ht] at this;cases this
theorem pJ:NoR []:=λrs ok l1 _ e=>by
 match rs,l1 with
 | u::r,_=>
  have:=congrArg List.length e;rw[QbR,Qbd,QaM] at this;have e1:u.txt.length=u.row.length+(L "\n").length:=QaM;rw[N7.2.2] at e1;have e1:u.txt.length=u.row.length+1:=e1;simp only[List.length_nil] at this;omega
theorem pI:NoR [10]:=Ku (by rw[Ib Jx.1];exact λh=>by cases h)
theorem K4:∀n,n < 100->(num n).count 40=0/\(num n).count 41=0:=by trivial
theorem Xh {z:Str} (h:Mu z):(L z).count 40=0/\(L z).count 41=0:=by
 have no:∀x,x < 97->(L z).count x=0:=λx hx=>List.count_eq_zero.mpr λhm=>by
  obtain⟨i,_,e⟩:=Zr (h.2.2 x hm);omega
 exact⟨no 40 (by decide),no 41 (by decide)⟩
theorem Zf:(L " of ").count 40=0/\(L " of ").count 41=0/\(L "term ").count 40=0/\(L "term ").count 41=0/\(L "key ").count 40=0/\(L "key ").count 41=0/\(L "hours ").count 40=0/\(L "hours ").count 41=0/\(L " to ").count 40=0/\(L " to ").count 41=0/\(L "not ").count 40=0/\(L "not ").count 41=0:=by trivial
theorem j4:(L "(").count 40=1/\(L "(").count 41=0/\(L ")").count 40=0/\(L ")").count 41=1/\(L " and ").count 40=0/\(L " and ").count 41=0/\(L " or ").count 40=0/\(L " or ").count 41=0/\(L " then ").count 40=0/\(L " then ").count 41=0/\(L " within ").count 40=0/\(L " within ").count 41=0:=by trivial
theorem jZ:(L "sound ").count 40=0/\(L "sound ").count 41=0/\(L " = ").count 40=0/\(L " = ").count 41=0/\(L "\n").count 40=0/\(L "\n").count 41=0:=by trivial
theorem fJ:∀{c:Cd},c.ok->c.txt.count 40=c.txt.count 41/\2*c.txt.count 40+1<=c.many:=by
 obtain⟨a1,a2,a3,a4,a5,a6,a7,a8,a9,a10,a11,a12⟩:=Zf;obtain⟨b1,b2,b3,b4,b5,b6,b7,b8,b9,b10,b11,b12⟩:=j4;intro c
 induction c with
 | off n z=>
  intro h;have h2:=h.2.1;obtain⟨n1,n2⟩:=K4 n (by omega);obtain⟨z1,z2⟩:=Xh h.2.2;have e40:(Cd.txt (.off n z)).count 40=0:=by simp only[Cd.txt,Qbb,n1,n2,z1,z2,a1,a2]
  have e41:(Cd.txt (.off n z)).count 41=0:=by simp only[Cd.txt,Qbb,n1,n2,z1,z2,a1,a2]
  exact⟨e40.trans e41.symm,by rw[e40];exact Cd.many1 _⟩
 | term z=>
  intro h;obtain⟨z1,z2⟩:=Xh h;have e40:(Cd.txt (.term z)).count 40=0:=by simp only[Cd.txt,Qbb,z1,z2,a3,a4]
  have e41:(Cd.txt (.term z)).count 41=0:=by simp only[Cd.txt,Qbb,z1,z2,a3,a4]
  exact⟨e40.trans e41.symm,by rw[e40];exact Cd.many1 _⟩
 | key k=>
  intro h;have h:k<=9:=h;obtain⟨n1,n2⟩:=K4 k (by omega);have e40:(Cd.txt (.key k)).count 40=0:=by simp only[Cd.txt,Qbb,n1,n2,a5,a6]
  have e41:(Cd.txt (.key k)).count 41=0:=by simp only[Cd.txt,Qbb,n1,n2,a5,a6]
  exact⟨e40.trans e41.symm,by rw[e40];exact Cd.many1 _⟩
 | hours a b=>
  intro h;have h:a<=23/\b<=23:=h;obtain⟨n1,n2⟩:=K4 a (by omega);obtain⟨m1,m2⟩:=K4 b (by omega);have e40:(Cd.txt (.hours a b)).count 40=0:=by simp only[Cd.txt,Qbb,n1,n2,m1,m2,a7,a8,a9,a10]
  have e41:(Cd.txt (.hours a b)).count 41=0:=by simp only[Cd.txt,Qbb,n1,n2,m1,m2,a7,a8,a9,a10]
  exact⟨e40.trans e41.symm,by rw[e40];exact Cd.many1 _⟩
 | neg c ih=>
  intro h;have:=ih h;simp only[Cd.txt,Cd.many,Qbb,a11,a12];omega
 | both c d ih1 ih2=>
  intro h;have:=ih1 h.1;have:=ih2 h.2;simp only[Cd.txt,Cd.many,Qbb,b1,b2,b3,b4,b5,b6];omega
 | any c d ih1 ih2=>
  intro h;have:=ih1 h.1;have:=ih2 h.2;simp only[Cd.txt,Cd.many,Qbb,b1,b2,b3,b4,b7,b8];omega
 | thn c d n ih1 ih2=>
  intro h;have:=ih1 h.1;have:=ih2 h.2.1;have hn:=h.2.2;obtain⟨n1,n2⟩:=K4 n (by omega);simp only[Cd.txt,Cd.many,Qbb,n1,n2,b1,b2,b3,b4,b9,b10,b11,b12];omega
theorem qL {u:Ru} (h:u.ok):u.txt.count 40=u.txt.count 41:=by
 obtain⟨c1,c2,c3,c4,c5,c6⟩:=jZ;obtain⟨a1,a2,a3,a4,_⟩:=Zf;have:=(fJ (Hi h).1).1;cases u with
 | term z c=>
  obtain⟨z1,z2⟩:=Xh h.1;have this:c.txt.count 40=c.txt.count 41:=this;show (((L "term "++L z)++(L " = "++c.txt))++L "\n").count 40=(((L "term "++L z)++(L " = "++c.txt))++L "\n").count 41;simp only[Qbb,z1,z2,a3,a4,c3,c4,c5,c6,this]
 | sound n c=>
  have hn:=h.1;obtain⟨n1,n2⟩:=K4 n (by omega);have this:c.txt.count 40=c.txt.count 41:=this;show (((L "sound "++num n)++(L " = "++c.txt))++L "\n").count 40=(((L "sound "++num n)++(L " = "++c.txt))++L "\n").count 41;simp only[Qbb,n1,n2,c1,c2,c3,c4,c5,c6,this]
theorem S6:∀{rs:List Ru},(∀r∈rs,r.ok)->(rs.map Ru.txt).flatten.count 40=(rs.map Ru.txt).flatten.count 41
 | [],_=>rfl
 | u::r,h=>by
  have:=S6 λx hx=>h x (QaB _ hx);rw[QbR,Qbd,Qbb,Qbb,qL (h u QaN),this]
theorem wy3 {rs:List Ru} (ok:∀r∈rs,r.ok) {a b:List Nat} (e:(rs.map Ru.txt).flatten=a++b) {c:Nat} (hc:c=40\/c=41):NoR (a++c::b):=λrs' ok' _ _ e'=>by
 have h1:=S6 ok;have h2:=S6 ok';rw[e,Qbb,Qbb] at h1;rw[<-e',Qbb,Qbb,List.count_cons,List.count_cons] at h2;rcases hc with rfl | rfl
 ·simp at h2;omega
 ·simp at h2;omega
theorem Qc:∀{rs:List Ru},(∀r∈rs,r.ok)->(rs.map Ru.txt).flatten.count 10=rs.length
 | [],_=>rfl
 | u::r,h=>by
  have ih:=Qc λx hx=>h x (QaB _ hx);have e:u.txt.count 10=1:=by
   have:u.row.count 10=0:=List.count_eq_zero.mpr λhm=>Wh (h u QaN) 10 hm rfl;show (u.row++L "\n").count 10=1;rw[Qbb,this,N7.2.2];rfl
  rw[QbR,Qbd,Qbb,e,ih,Qbl];omega
theorem vO {rs:List Ru} (ok:∀r∈rs,r.ok) (l1:1<=rs.length):NoR (List.replicate 17 (rs.map Ru.txt).flatten).flatten:=λrs' ok' _ l16 e=>by
 have h1:=Qc ok;have h2:=Qc ok';rw[<-e] at h2;have:∀(n:Nat) (l:List Nat),(List.replicate n l).flatten.count 10=n*l.count 10:=λn l=>by
  induction n with
  | zero=>simp
  | succ n ih=>rw[QaK,Qbd,Qbb,ih,Nat.succ_mul];omega
 rw[this,h1] at h2;omega
def G8:Nat->List Nat
 | 0=>[]
 | n+1=>L "not "++G8 n
def CG (m:Nat):List Nat:=L "term a"++(L " = "++(G8 m++L "key 0"))
theorem tH {c:Cd} (h:c.ok) {x:List Nat} (e:c.txt=L "not "++x):∃d,c=.neg d/\d.txt=x:=by
 have e1:L "not "=110::[111,116,32]:=by trivial
 have hd:=congrArg List.head? e;rw[e1] at hd;have hd:c.txt.head?=some 110:=hd;have wF:∀n,n < 10->(num n).head?≠some 110/\num n≠[]:=by trivial
 cases c with
 | neg d=>exact⟨d,rfl,List.append_cancel_left e⟩
 | off n z=>
  have h2:=h.2.1;obtain⟨n1,n2⟩:=wF n (by omega);have:(num n++(L " of "++L z)).head?=(num n).head?:=by
   cases hn:num n with
   | nil=>exact absurd hn n2
   | cons a r=>rfl
  exact absurd (this.symm.trans hd) n1
 | term z=>exact absurd hd (by rw[show Cd.txt (.term z)=116::([101,114,109,32]++L z) from congrArg (·++L z) (show L "term "=116::[101,114,109,32] by trivial)];exact λz=>by injection z with z;omega)
 | key k=>exact absurd hd (by rw[show Cd.txt (.key k)=107::([101,121,32]++num k) from congrArg (·++num k) (show L "key "=107::[101,121,32] by trivial)];exact λz=>by injection z with z;omega)
 | hours a b=>exact absurd hd (by rw[show Cd.txt (.hours a b)=104::([111,117,114,115,32]++(num a++(L " to "++num b))) from congrArg (·++(num a++(L " to "++num b))) (show L "hours "=104::[111,117,114,115,32] by trivial)];exact λz=>by injection z with z;omega)
 | both a b=>exact absurd hd (by rw[Qs (c:=.both a b) True.intro];exact λz=>by injection z with z;omega)
 | any a b=>exact absurd hd (by rw[Qs (c:=.any a b) True.intro];exact λz=>by injection z with z;omega)
 | thn a b n=>exact absurd hd (by rw[Qs (c:=.thn a b n) True.intro];exact λz=>by injection z with z;omega)
theorem Ul:∀(m:Nat) {c:Cd},c.ok->c.txt=G8 m++L "key 0"->m+1<=c.deep
 | 0,c,_,_=>c.KQ
 | m+1,c,h,e=>by
  have e:c.txt=L "not "++(G8 m++L "key 0"):=by rw[e];show (L "not "++G8 m)++_=_;rw[QaZ]
  obtain⟨d,rfl,ed⟩:=tH h e;have:=Ul m (c:=d) h ed;exact Qbo this
theorem Lp:∀{rows:List (List Nat)},(∀r∈rows,10∉r)->lin ((rows.map λr=>r++[10]).flatten)=rows
 | [],_=>rfl
 | a::t,h=>by
  have ih:=Lp (rows:=t) λr hr=>h r (QaB _ hr);have key:∀(a x:List Nat),10∉a->lin (a++10::x)=a::lin x:=λa x ha=>by
   induction a with
   | nil=>show (if (10:Nat)=10 then []::lin x else _)=_;rw[if_pos rfl]
   | cons c r ihr=>
    have hc:c≠10:=λe=>ha (e ▸ QaN);have ihr:=ihr λe=>ha (QaB _ e);show (if c=10 then []::lin (r++10::x) else match lin (r++10::x) with | []=>[] | a::t=>(c::a)::t)=_
    rw[if_neg hc,ihr]
  rw[QbR,Qbd,QaZ];show lin (a++10::(t.map λr=>r++[10]).flatten)=_;rw[key a _ (h a QaN),ih]
theorem QX (rs:List Ru):(rs.map Ru.txt).flatten=((rs.map Ru.row).map λr=>r++[10]).flatten:=by
 have e10:=N7.2.2;rw[Qce];refine congrArg List.flatten (List.map_congr_left λu _=>?_);show u.row++L "\n"=u.row++[10];rw[e10]
theorem S7 {rs:List Ru} (ok:∀r∈rs,r.ok):∀r∈rs.map Ru.row,10∉r:=λr hr hm=>by
 obtain⟨u,hu,rfl⟩:=Qcc.mp hr;exact Wh (ok u hu) 10 hm rfl
theorem cW:∀m c,c∈G8 m->c≠10/\c≠61/\c < 128
 | 0,_,h=>by cases h
 | m+1,c,h=>by
  have e1:L "not "=[110,111,116,32]:=by trivial
  rcases Qby.mp h with h | h
  ·rw[e1] at h;simp only[QbP,Qbp,Qco] at h;omega
  ·exact cW m c h
theorem Xb (m:Nat):∀c∈CG m,c≠10/\c < 128:=λc h=>by
 have k:(L "term a"++L " = "++L "key 0").all (λc=>decide (c≠10/\c < 128))=true:=by trivial
 have kk:∀c∈L "term a"++L " = "++L "key 0",c≠10/\c < 128:=λc hc=>Qba (Qbm.mp k c hc);rcases Qby.mp h with h | h
 ·exact kk c (QaD _ (QaD _ h))
 ·rcases Qby.mp h with h | h
  ·exact kk c (QaD _ (Qax _ h))
  ·rcases Qby.mp h with h | h
   ·have:=cW m c h;exact⟨this.1,this.2.2⟩
   ·exact kk c (Qax _ h)
theorem Yk {rs:List Ru} (ok:∀r∈rs,r.ok) {m:Nat} (hm:6<=m):NoR ((rs.map Ru.txt).flatten++(CG m++[10])):=λrs' ok' _ _ e=>by
 have e2:((rs.map Ru.row++[CG m]).map λr=>r++[10]).flatten=((rs'.map Ru.row).map λr=>r++[10]).flatten:=by
  rw[<-QX rs',<-e,Qbx,List.flatten_append,<-QX rs];simp
 have e3:=congrArg lin e2;rw[Lp (S7 ok'),Lp λr hr=>by
  rcases Qby.mp hr with hr | hr
  ·exact S7 ok r hr
  ·rw[QaO.mp hr];exact λh=>(Xb m 10 h).1 rfl] at e3
 have hmem:CG m∈rs'.map Ru.row:=e3 ▸ Qax _ (QaO.mpr rfl);obtain⟨u,hu,eu⟩:=Qcc.mp hmem;have ou:=ok' u hu;have p1:Txt.partition (S u.row) " = "=(S u.head,(" = ":Str),S u.c.txt):=M9 (Tw ou);have p2:Txt.partition (S (CG m)) " = "=(S (L "term a"),(" = ":Str),S (G8 m++L "key 0")):=M9 (by trivial);rw[eu,p2] at p1;injection p1 with _ p1;injection p1 with _ p1;have et:u.c.txt=G8 m++L "key 0":=(congrArg L p1).symm;have:=Ul m (Hi ou).1 et;have:=(Hi ou).2.1;omega
abbrev QL:Stmt:=top 63
abbrev Iz:YF:=["_law_many"]
theorem Uh:Bo ["_law_many"] Iz (Ar QL):=by ac_rfl
abbrev Ms:Stmt:=top 61
abbrev Ij:YF:=["_law_bag_here","_law_text_here"]
theorem Jm:Bo ["_law_bag_here","_law_text_here","_law_at","_law_sign","_law_way"] Ij (Ar Ms):=by ac_rfl
def w2:Cd:=.any (.key 1) (.key 1)
def w3:Cd:=.any (.key 1) w2
def w4:Cd:=.any w2 w2
def w5:Cd:=.any w2 w3
def w6:Cd:=.any w3 w3
def wds:List Cd:=[.key 1,.key 1,w2,w3,w4,w5,w6,.any w3 w4,.any w4 w4,.any w4 w5,.any w5 w5,.any w5 w6]
def wd (n:Nat):Cd:=wds.getD n (.key 1)
theorem pK:∀{n:Nat},2<=n->n<=11->wd n=.any (wd (n / 2)) (wd (n - n / 2))
 | 2,_,_=>rfl
 | 3,_,_=>rfl
 | 4,_,_=>rfl
 | 5,_,_=>rfl
 | 6,_,_=>rfl
 | 7,_,_=>rfl
 | 8,_,_=>rfl
 | 9,_,_=>rfl
 | 10,_,_=>rfl
 | 11,_,_=>rfl
theorem Ro:∀n,n < 12->(wd n).txt.length<=200:=by trivial
theorem vP:(wd 10).ok/\(wd 10).deep=5/\(wd 10).many=19:=by
 refine⟨?_,by trivial,by trivial⟩;have k:Cd.ok (.key 1):=by show 1<=9;decide
 have h2:w2.ok:=⟨k,k⟩;have h5:w5.ok:=⟨h2,k,h2⟩;exact⟨h5,h5⟩
def Iu:List Nat:=L "sound 7"++(L " = "++(wd 11).txt)
theorem VD:Iu.all (λc=>decide (c≠10/\c < 128))=true/\(wd 11).txt.count 40=10/\Iu.length<=300:=by trivial
theorem VF:∀c∈Iu,c≠10/\c < 128:=λc hc=>Qba (Qbm.mp VD.1 c hc)
theorem mF:NoR (Iu++[10]):=λrs' ok' _ _ e=>by
 have e2:([Iu].map λr=>r++[10]).flatten=((rs'.map Ru.row).map λr=>r++[10]).flatten:=by
  rw[<-QX rs',<-e];simp
 have e3:=congrArg lin e2;rw[Lp (S7 ok'),Lp λr hr=>by
  rw[QaO.mp hr];exact λh=>(VF 10 h).1 rfl] at e3
 have hmem:Iu∈rs'.map Ru.row:=e3 ▸ QaO.mpr rfl;obtain⟨u,hu,eu⟩:=Qcc.mp hmem;have ou:=ok' u hu;have p1:Txt.partition (S u.row) " = "=(S u.head,(" = ":Str),S u.c.txt):=M9 (Tw ou);have p2:Txt.partition (S Iu) " = "=(S (L "sound 7"),(" = ":Str),S (wd 11).txt):=M9 (by trivial);rw[eu,p2] at p1;injection p1 with _ p1;injection p1 with _ p1;have et:u.c.txt=(wd 11).txt:=(congrArg L p1).symm;have h1:=(fJ (Hi ou).1).2;have h2:=(Hi ou).2.2;rw[et,VD.2.1] at h1;omega
def Rd (l:List Nat):Prop:=Ok9 l/\l.count 10<=890
structure Tt (T:List Nat):Prop where
 len:T.length<=6740
 lt:∀c∈T,c < 128
 ten:T.count 10<=16
theorem Tt.sub {T l:List Nat} (h:Tt T) (s:l.Sublist T):Tt l:=⟨Qca s.length_le h.len,λc hc=>h.lt c (s.subset hc),Qca (s.count_le 10) h.ten⟩
theorem Tt.rd {T:List Nat} (h:Tt T):Rd T:=⟨⟨by have:=h.len;omega,h.lt⟩,by have:=h.ten;omega⟩
theorem Ie {a b:List Nat} {c:Nat} (h:Tt (a++b)) (hc:c < 128):Rd (a++c::b):=by
 have h1:=h.len;have h2:=h.ten;rw[QaM] at h1;rw[Qbb] at h2;refine⟨⟨by rw[QaM,Qbl];omega,λx hx=>?_⟩,?_⟩
 ·rcases Qby.mp hx with hx | hx
  ·exact h.lt x (QaD _ hx)
  ·rcases QbP.mp hx with rfl | hx
   ·exact hc
   ·exact h.lt x (Qax _ hx)
 ·rw[Qbb,List.count_cons];split <;> omega
theorem cB:∀{l:List Nat} {s x:Nat},run s l=some x->∀c∈l,c < 128
 | [],_,_,_,_,hc=>by cases hc
 | a::r,s,x,h,c,hc=>by
  obtain⟨t,h1,h2⟩:=GD h;rcases QbP.mp hc with rfl | hc
  ·exact (Qa h1).2
  ·exact cB h2 c hc
theorem bK {rs:List Ru} (ok:∀r∈rs,r.ok) (l:rs.length<=16):Tt (rs.map Ru.txt).flatten:=⟨by have:=M6 ok;omega,cB (acc ok),by rw[Qc ok];exact l⟩
theorem Iv (l:List Nat) (k:Nat):Txt.slice (S l) (some (k:Int)) none=S (l.drop k):=by
 by_cases h:k<=l.length
 ·exact M4 h
 ·rw[PyProof.Rows.slice_beyond (by rw[Ai];omega),List.drop_of_length_le (by omega)];rfl
theorem vL (c:Nat):(⟨#[c]⟩ : Str)=S [c]:=rfl
theorem Qu (a b:List Nat) (c:Nat):S a++(⟨#[c]⟩ : Str)++S b=S (a++c::b):=by
 rw[vL,Oj,Oj,QaZ];rfl
def sgL:List Nat:=(Str.ofString " abz09()=\nA+-~").cps.toList
theorem lO:sgL.length=14/\sgL.all (λc=>decide (c < 128))=true:=by trivial
theorem uO {i:Int} (h0:0<=i) (h1:i < 14):∃c,atI (Str.ofString " abz09()=\nA+-~").cps.toList i=some c/\c < 128:=by
 obtain⟨j,rfl⟩ : ∃j:Nat,i=j:=⟨i.toNat,by omega⟩;have lj:j < sgL.length:=by rw[lO.1];omega
 exact⟨sgL[j],Aj (Qam lj),Qba (Qbm.mp lO.2 _ (Qbt lj))⟩
section
variable {P:Program} {w:World} {K:YD} {mg:YB} {base:Heap}
def Oz (D:Nat):Sp:=λvs H Q _=>∃n:Nat,vs=[.int n]/\1<=n/\n<=D/\n<=11/\Q (.str (S (wd n).txt)) H
theorem cR (C:Code K mg "_law_wide" QL Iz):∀D,Good P w K mg base "_law_wide" (2+D) Iz (Oz D):=by
 have step:∀(D k':Nat) (sp':Sp),(∀e,e+1<=D->∀vs H Q E,Oz e vs H Q E->sp' vs H Q E)->Good P w K mg base "_law_wide" k' Iz sp'->Good P w K mg base "_law_wide" (k'+1) Iz (Oz D):=λD k' sp' hsp Lw=>by
  refine C.good Uh (λvs H Q E h=>?_) (λf cdv A outer s H vs Q E hr h=>?_)
  ·obtain⟨n,rfl,_⟩:=h;rfl
  obtain⟨n,rfl,n1,nD,n11,q⟩:=h;refine⟨_,(Ad (Bg (Av BK (pv 0) Ac (Bc _)) (Ah (Ak Af)) Ay)
 (Ah (Ak (Aq Bb (Aq Bb (Aq Bb (Aq Bb Af (Am (hk:=(Qcf _)) Lw hr (Aa (Aq Ng (pv 0) Ac) Ab))) Af) (Am (hk:=(Qcf _)) Lw hr (Aa (Aq Ga (pv 0) (Aq Ng (pv 0) Ac)) Ab))) Af)))),?_⟩
  show let R0:TS:=_;Al _ R0 _ _ _;intro R0;refine⟨_,rq,rq,_,rq,?_⟩;by_cases e1:n=1
  ·subst e1;refine GJ rfl ?_;have:S (wd 1).txt="key 1":=by trivial
   rw[this] at q;exact q
  ·refine CW (by simp;omega) ?_;have e:=pK (n:=n) (by omega) n11;have l1:=Ro (n / 2) (by omega);have l2:=Ro (n - n / 2) (by omega);have k1:(n:Int) / 2=((n / 2:Nat):Int):=by omega
   have k2:(n:Int) - (n:Int) / 2=((n - n / 2:Nat):Int):=by omega
   have b1:(Str.ofString "(").length=1/\(Str.ofString " or ").length=4/\(Str.ofString ")").length=1:=by trivial
   obtain⟨b1,b2,b3⟩:=b1;refine⟨_,rq,_,_,rq,rq,⟨by decide,by decide⟩,?_⟩;refine hsp (D - 1) (by omega) _ _ _ _ ⟨n / 2,congrArg (λx=>[V.int x]) k1,by omega,by omega,by omega,?_⟩;refine⟨_,_,rq,rq,szb (by rw[Ai,b1];omega),_,_,rq,rq,szb (by rw[QaY,Ai,b1,b2];omega),?_⟩;refine⟨_,rq,_,rq,_,_,rq,rq,⟨by decide,by decide⟩,_,_,rq,rq,?_⟩;refine hsp (D - 1) (by omega) _ _ _ _ ⟨n - n / 2,congrArg (λx=>[V.int x]) k2,by omega,by omega,by omega,?_⟩;refine⟨_,_,rq,rq,szb (by rw[QaY,QaY,Ai,Ai,b1,b2];omega),_,_,rq,rq,szb (by rw[QaY,QaY,QaY,Ai,Ai,b1,b2,b3];omega),?_⟩;have et:S (wd n).txt=Str.ofString "("++S (wd (n / 2)).txt++Str.ofString " or "++S (wd (n - n / 2)).txt++Str.ofString ")":=by
    refine Ir ?_;rw[e];show L "("++((wd (n / 2)).txt++(L " or "++((wd (n - n / 2)).txt++L ")")))=_;simp only[Dk,L_S,QaZ]
   rw[et] at q;exact q
 intro D
 induction D with
 | zero=>exact step 0 1 (λ_ _ _ _=>False) (λe h=>absurd h (by omega)) (C.good Uh (λvs H Q E h=>h.elim) (λf cdv A outer s H vs Q E hr h=>h.elim))
 | succ D ih=>exact step (D+1) (2+D) (Oz D) (λe h vs H Q E ⟨n,h1,h2,h3,h4,h5⟩=>⟨n,h1,h2,by omega,h4,h5⟩) ih
def Ug:Sp:=λvs H Q _=>∃(b:Addr) (n:Nat) (t:List Nat),vs=[.ref b,.str (S t)]/\BL H b n/\n<=8000/\Tt t/\∀y H',Rd y->BL H' b (n+3)->Aw b H H'->Q (.str (S y)) H'
theorem Wt (C:Code K mg "_law_changed" Ms Ij) (T:Nm mg) (Bj:Good P w K mg base "_law_take" 1 Fw Kd):Good P w K mg base "_law_changed" 2 Ij Ug:=by
 refine C.good Jm (λvs H Q E h=>?_) (λf cdv A outer s H vs Q E hr h=>?_)
 ·obtain⟨b,n,t,rfl,_⟩:=h;rfl
 obtain⟨b,n,t,rfl,hb,hn,ht,q⟩:=h;refine⟨_,(@Ad _ _ _ _ _ (@Bf _ _ 2 _ _ _ _ Jm.nd rfl (Or.inl rfl) (Am Bj hr (Aa (pv 0) (Aa (@Aq _ _ _ _ _ _ _ _ Dd (Ax Dg rfl T.len Cy (Aa (pv 1) Ab)) Ac) Ab))) (by rfl) (by first | exact .inl rfl | exact .inr rfl))
 (@Ad _ _ _ _ _ (@Bf _ _ 3 _ _ _ _ Jm.nd rfl (Or.inl rfl) (@Ba _ _ _ _ _ _ _ Kv Af (Am Bj hr (Aa (pv 0) (Aa Ac Ab))) (λ_ _=>rfl)) (by rfl) (by first | exact .inl rfl | exact .inr rfl))
 (@Ad _ _ _ _ _ (@Bf _ _ 4 _ _ _ _ Jm.nd rfl (Or.inl rfl) (Am Bj hr (Aa (pv 0) (Aa Ac Ab))) (by rfl) (by first | exact .inl rfl | exact .inr rfl))
 (@Ad _ _ _ _ _ (Bg (Av BK (pv 4) Ac (Bc _)) (@Ah _ _ _ (@Ak _ _ _ _ (@Aq _ _ _ _ _ _ _ _ Bb (@Aq _ _ _ _ _ _ _ _ Bb (Bq Ce (pv 1) Bx (Bt (pv 2))) (pv 3)) (Bq Ce (pv 1) (Bt (pv 2)) Bx)))) Ay)
 (@Ah _ _ _ (@Ak _ _ _ _ (@Aq _ _ _ _ _ _ _ _ Bb (@Aq _ _ _ _ _ _ _ _ Bb (Bq Ce (pv 1) Bx (Bt (pv 2))) (@Ba _ _ _ _ _ _ _ Br (Dj (Aa Af (Aa (pv 3) Ab))) (@Aq _ _ _ _ _ _ _ _ Ga (pv 4) Ac) (λ_ _=>rfl))) (Bq Ce (pv 1) (Bt (@Aq _ _ _ _ _ _ _ _ Dd (pv 2) Ac)) Bx)))))))),?_⟩
 show let R0:TS:=_;let R1:TS:=_;let R2:TS:=Al (BX _ R1 _) R0;let R3:TS:=Al _ R2;let R4:TS:=Al _ R3;Al _ R4 _ _ _;intro R0 R1 R2 R3 R4;have sl:=Ai t;have tl:=ht.len;refine⟨_,rq,_,rq,_,rq,szb (by omega),_,_,rq,rq,b,n,_,rq,hb,by omega,by omega,by omega,λr1 H1 r10 r11 hb1 sb1=>?_⟩;obtain⟨k,rfl⟩ : ∃k:Nat,r1=k:=⟨r1.toNat,by omega⟩;have hk:k<=t.length:=by omega
 refine⟨_,rq,b,n+1,14,rq,hb1,by omega,by decide,by decide,λr2 H2 r20 r21 hb2 sb2=>?_⟩;obtain⟨c,ec,hc⟩:=uO r20 r21;refine⟨_,_,_,rq,rq,(by trivial),ec,_,rq,b,n+2,3,rq,hb2,by omega,by decide,by decide,λr3 H3 r30 r31 hb3 sb3=>?_⟩;have s3:=sb1.trans (sb2.trans sb3);have e1:Txt.slice (S t) none (some (k:Int))=S (t.take k):=Vp hk;have e2:Txt.slice (S t) (some ((k:Int)+1)) none=S (t.drop (k+1)):=Iv t (k+1);have e3:Txt.slice (S t) (some (k:Int)) none=S (t.drop k):=Iv t k;have n1:(S (t.take k)).length=k:=by rw[Ai,Qbn];omega
 have n2:(S (t.drop (k+1))).length=t.length - (k+1):=by rw[Ai,Qbr]
 have n3:(S (t.drop k)).length=t.length - k:=by rw[Ai,Qbr]
 have m1:∀c:Nat,(⟨#[c]⟩ : Str).length=1:=λc=>rfl;have sub:(t.take k++t.drop (k+1)).Sublist t:=by
  have:=List.Sublist.append_left (show (t.drop (k+1)).Sublist (t.drop k) by rw[<-List.drop_drop];exact List.drop_sublist 1 _) (t.take k)
  rwa [Qaz] at this
 refine⟨_,rq,rq,_,rq,?_⟩;refine ifN (λ_=>?_) (λh0=>?_)
 ·refine⟨_,rq,_,rq,_,rq,_,rq,szb (by omega),?_⟩;rw[e1];refine⟨_,rq,_,_,rq,rq,szb (by rw[n1,m1];omega),?_⟩;refine⟨_,rq,_,rq,_,rq,_,rq,szb (by omega),?_⟩;rw[e3];refine⟨_,_,rq,rq,szb (by rw[QaY,n1,m1,n3];omega),?_⟩;rw[Qu];exact q _ _ (Ie (by rw[Qaz];exact ht) hc) hb3 s3
 ·have r3:r3=1\/r3=2:=by
   have:¬r3=0:=by simpa using h0
   omega
  refine⟨_,rq,_,rq,_,rq,_,rq,szb (by omega),?_⟩;rw[e1];refine⟨_,rq,Ao (by show 2<=1000;decide),λp hp=>?_⟩;have s4:=Ag hp (.lst [.str "",.str ⟨#[c]⟩]);have hb4:=hb3.same s4;have s04:=s3.trans (Aw.of s4);rcases r3 with rfl | rfl
  ·refine⟨_,rq,_,_,rq,rq,p,_,_,.str "",rq,rq,SqL.of Ae,rq,?_⟩;refine⟨_,_,rq,rq,szb (by rw[n1];show k+0<=_;omega),?_⟩;refine⟨_,rq,_,rq,_,_,rq,rq,_,rq,_,rq,szb (by omega),?_⟩;rw[e2];refine⟨_,_,rq,rq,szb (by rw[QaY,n1,n2];show k+0+_<=_;omega),?_⟩;have:S (t.take k)++""++S (t.drop (k+1))=S (t.take k++t.drop (k+1)):=by
    refine Ir ?_;simp only[Dk,L_S];rw[show L ""=[] from rfl,QbB]
   rw[this];exact q _ _ (ht.sub sub).rd hb4 s04
  ·refine⟨_,rq,_,_,rq,rq,p,_,_,.str ⟨#[c]⟩,rq,rq,SqL.of Ae,rq,?_⟩;refine⟨_,_,rq,rq,szb (by rw[n1,m1];omega),?_⟩;refine⟨_,rq,_,rq,_,_,rq,rq,_,rq,_,rq,szb (by omega),?_⟩;rw[e2];refine⟨_,_,rq,rq,szb (by rw[QaY,n1,m1,n2];omega),?_⟩;rw[Qu];exact q _ _ (Ie (ht.sub sub) hc) hb4 s04
end
abbrev Kf:Stmt:=top 62
abbrev Kh:YF:=Ij
abbrev xi:YF:=["_law_bag_here","_law_text_here","_law_way","_law_at","_law_some"]
theorem Ek:Bo xi Kh (Ar Kf):=by ac_rfl
theorem mX {l:List Nat} (ne:1<=l.length):Txt.slice (S l) none (some (-1))=S l.dropLast:=by
 have e:Txt.slice (S l) none (some (-1))=Txt.slice (S l) none (some (((l.length - 1:Nat)):Int)):=by
  unfold Txt.slice;rw[StrLaws.sliceIdx_neg_hi none (j:=-1) (S l).length (by decide) (by rw[Ai];omega),show (-1:Int)+((S l).length:Int)=((l.length - 1:Nat):Int) by rw[Ai];omega]
 rw[e,Vp (by omega),List.dropLast_eq_take]
theorem Ut {H:Hp}:∀zs:List Int,Bk H (zs.map V.int) (zs.map PyData.int)
 | []=>.nil
 | _::zs=>.cons (.int _) (Ut zs)
theorem WY:∀zs:List Int,PyData.canLayAll0 (zs.map PyData.int)=true/\PyData.depthAll (zs.map PyData.int)<=1
 | []=>⟨rfl,by show 0<=1;decide⟩
 | z::r=>by
  have ih:=WY r;refine⟨?_,?_⟩
  ·show (true&&PyData.canLayAll0 (r.map PyData.int))=true;rw[ih.1];rfl
  ·show max 0 (PyData.depthAll (r.map PyData.int))<=1;exact Nat.max_le.mpr ⟨by decide,ih.2⟩
theorem QC (zs:List Int):SeqAt.shaped (.list (zs.map PyData.int))=true:=by
 have h1:=WY zs;show (PyData.canLayAll0 (zs.map PyData.int)&&decide (PyData.depthAll (zs.map PyData.int)+1<=64))=true;rw[h1.1,QbQ];exact QbN (by omega)
def blk (lo:Int) (f:Nat->Bool) (n:Nat):List Int:=((List.range n).filter f).map λk:Nat=>lo+(k:Int)
theorem LR (lo:Int) (f:Nat->Bool) (n:Nat):blk lo f (n+1)=if f n=true then blk lo f n++[lo+(n:Int)] else blk lo f n:=by
 unfold blk;rw[List.range_succ,List.filter_append,Qbx];cases h:f n with
 | true=>rw[if_pos rfl,List.filter_cons_of_pos h];rfl
 | false=>rw[if_neg (by decide),List.filter_cons_of_neg (by rw[h];decide),List.filter_nil,List.map_nil,QbB]
theorem T6 (lo:Int) (f:Nat->Bool) (n:Nat):(blk lo f n).length<=n:=by
 unfold blk;rw[Qbw];exact Qca (List.length_filter_le f _) (by rw[List.length_range];exact Qcf n)
theorem Xq {lo:Int} {f:Nat->Bool} {n:Nat} {r:Int} (h0:0<=r) (h1:r < (((blk lo f n).map V.int).length:Nat)):∃k:Nat,atI ((blk lo f n).map V.int) r=some (.int (lo+(k:Int)))/\f k=true:=by
 obtain⟨j,rfl⟩ : ∃j:Nat,r=j:=⟨r.toNat,by omega⟩;have hj:j < ((blk lo f n).map V.int).length:=by omega
 rw[Qbw] at hj;have hm:(blk lo f n)[j]∈blk lo f n:=Qbt hj;obtain⟨k,hk,ek⟩:=Qcc.mp hm;exact⟨k,Aj (by rw[Qbe,Qam hj,<-ek];rfl),(List.mem_filter.mp hk).2⟩
theorem tV {lo:Int} {f:Nat->Bool} {n k:Nat} (hk:k < n) (h:f k=true):0 < ((blk lo f n).map V.int).length:=by
 have:lo+(k:Int)∈blk lo f n:=Qcc.mpr ⟨k,List.mem_filter.mpr ⟨List.mem_range.mpr hk,h⟩,rq⟩;rw[Qbw];exact List.length_pos_of_mem this
theorem Lz {T:List Nat} {k c:Nat} (h:T[k]?=some c):T.take k++c::T.drop (k+1)=T/\T.drop k=c::T.drop (k+1):=by
 obtain⟨hk,e⟩:=Qaj.mp h;have:T.drop k=c::T.drop (k+1):=by rw[List.drop_eq_getElem_cons hk,e]
 exact⟨by rw[<-this,Qaz],this⟩
def spL:List Nat:=(Str.ofString "ABCXYZ[]{}#;").cps.toList
theorem lG:spL.length=12/\spL.all (λc=>decide (c < 128/\c∈ZF))=true:=by trivial
theorem uM {i:Int} (h0:0<=i) (h1:i < 12):∃c,atI (Str.ofString "ABCXYZ[]{}#;").cps.toList i=some c/\c < 128/\c∈ZF:=by
 obtain⟨j,rfl⟩ : ∃j:Nat,i=j:=⟨i.toNat,by omega⟩;have lj:j < spL.length:=by rw[lG.1];omega
 have:=Qba (Qbm.mp lG.2 _ (Qbt lj));exact⟨spL[j],Aj (Qam lj),this⟩
theorem vJ {i:Int} (h0:0<=i) (h1:i < 2):∃c,atI (Str.ofString "()").cps.toList i=some c/\(c=40\/c=41):=by
 have:i=0\/i=1:=by omega
 rcases this with rfl | rfl
 ·exact⟨40,by trivial,.inl rfl⟩
 ·exact⟨41,by trivial,.inr rfl⟩
theorem qT {i:Int} (h0:0<=i) (h1:i < 3):∃c,atI [V.str "\n",.str " ",.str "x"] i=some (.str (S [c]))/\(c=10\/c=32\/c=120):=by
 have:i=0\/i=1\/i=2:=by omega
 rcases this with rfl | rfl | rfl
 ·exact⟨10,congrArg (λs=>some (V.str s)) (by trivial),.inl rfl⟩
 ·exact⟨32,congrArg (λs=>some (V.str s)) (by trivial),.inr (.inl rfl)⟩
 ·exact⟨120,congrArg (λs=>some (V.str s)) (by trivial),.inr (.inr rfl)⟩
theorem ug {rs:List Ru} (l1:1<=rs.length):∃Y,(rs.map Ru.txt).flatten=Y++[10]:=by
 have hne:rs≠[]:=λe=>by rw[e] at l1;cases l1
 have e:=List.dropLast_concat_getLast hne;refine⟨(rs.dropLast.map Ru.txt).flatten++(rs.getLast hne).row,?_⟩
 conv=>lhs;rw[<-e]
 rw[Qbx,List.flatten_append,List.map_singleton,List.flatten_singleton,QaZ];exact congrArg (λx=>_++((rs.getLast hne).row++x)) N7.2.2
theorem pC {rs:List Ru} (l1:1<=rs.length):∃k,k < (rs.map Ru.txt).flatten.length/\(rs.map Ru.txt).flatten[k]?=some 32:=by
 have hm:32∈(rs.map Ru.txt).flatten:=by
  match rs,l1 with
  | u::r,_=>
   rw[QbR,Qbd];refine QaD _ ?_;have e:32∈L " = ":=by trivial
   show 32∈(u.head++(L " = "++u.c.txt))++L "\n";exact QaD _ (Qax _ (QaD _ e))
 obtain⟨k,hk,e⟩:=List.getElem_of_mem hm;exact⟨k,hk,by rw[Qam hk,e]⟩
theorem S_1 {c d:Nat} (h:V.str ⟨#[c]⟩=V.str (S [d])):c=d:=by
 injection h with h;have:=congrArg L h;injection this
theorem gO:(" ":Str)=S [32]:=by trivial
theorem pG:("0":Str)=S [48]:=by trivial
theorem vI:L "0123456789"=[48,49,50,51,52,53,54,55,56,57]:=by trivial
theorem bY {n:Nat} (h:n<=7000):n < sizeLine:=Nat.lt_of_le_of_lt h (by decide)
section
variable {P:Program} {w:World} {K:YD} {mg:YB} {base:Heap}
def Yn:Sp:=λvs H Q _=>∃(b:Addr) (n:Nat) (rs:List Ru),vs=[.ref b,.str (S (rs.map Ru.txt).flatten)]/\BL H b n/\n<=8000/\(∀r∈rs,r.ok)/\1<=rs.length/\rs.length<=16/\∀y H',NoR y->Rd y->BL H' b (n+3)->Aw b H H'->Q (.str (S y)) H'
abbrev xf:YF:=["_law_at","_law_text_here"]
theorem Z0 (C:Code K mg "_law_wrong" Kf Kh) (T:Nm mg) (Bj:Good P w K mg base "_law_take" 1 Fw Kd):Good P w K mg base "_law_wrong" 2 Kh Yn:=by
 refine C.good Ek (λvs H Q E h=>?_) (λf cdv A outer s H vs Q E hr h=>?_)
 ·obtain⟨b,n,rs,rfl,_⟩:=h;rfl
 obtain⟨b,n,rs,rfl,hb,hn,ok,l1,l16,q⟩:=h;have tt:=bK ok l16;have hT:=acc ok;obtain⟨Y,eY⟩:=ug (rs:=rs) l1;obtain⟨kb,kbl,hkb⟩:=pC (rs:=rs) l1;have w3:=@wy3 rs ok;generalize (rs.map Ru.txt).flatten=T0 at *;have sl:=Ai T0;have tl:=tt.len;have sc:=Ek;refine⟨_,(@Ad _ _ _ _ _ (@Bf _ _ 2 _ _ _ _ Ek.nd rfl (Or.inl rfl) (Am Bj hr (Aa (pv 0) (Aa Ac Ab))) (by rfl) (by first | exact .inl rfl | exact .inr rfl))
 (@Ad _ _ _ _ _ (Bg (Av BK (pv 2) Ac (Bc _)) (@Ah _ _ _ (@Ak _ _ _ _ (Bq Ce (pv 1) Bx (Bt (Vs Rp Ac))))) Ay)
 (@Ad _ _ _ _ _ (Bg (Av BK (pv 2) Ac (Bc _)) (@Ah _ _ _ (@Ak _ _ _ _ (@Aq _ _ _ _ _ _ _ _ Bb (pv 1) (@Ba _ _ _ _ _ _ _ Br (Dj (Aa Af (Aa Af (Aa Af Ab)))) (Am Bj hr (Aa (pv 0) (Aa Ac Ab))) (λ_ _=>rfl))))) Ay)
 (@Ad _ _ _ _ _ (Bg (Av BK (pv 2) Ac (Bc _)) (@Ad _ _ _ _ _ (@Bf _ _ 3 _ _ _ _ Ek.nd rfl (Or.inl rfl) (Am Bj hr (Aa (pv 0) (Aa (@Aq _ _ _ _ _ _ _ _ Dd (Ax Dg rfl T.len Cy (Aa (pv 1) Ab)) Ac) Ab))) (by rfl) (by first | exact .inl rfl | exact .inr rfl))
 (@Ah _ _ _ (@Ak _ _ _ _ (@Aq _ _ _ _ _ _ _ _ Bb (@Aq _ _ _ _ _ _ _ _ Bb (Bq Ce (pv 1) Bx (Bt (pv 3))) (@Ba _ _ _ _ _ _ _ Kv Af (Am Bj hr (Aa (pv 0) (Aa Ac Ab))) (λ_ _=>rfl))) (Bq Ce (pv 1) (Bt (pv 3)) Bx))))) Ay)
 (@Ad _ _ _ _ _ (Bg (Av BK (pv 2) Ac (Bc _)) (@Ad _ _ _ _ _ (@Bf _ _ 3 _ _ _ _ Ek.nd rfl (Or.inl rfl) (Am Bj hr (Aa (pv 0) (Aa (@Aq _ _ _ _ _ _ _ _ Dd (Ax Dg rfl T.len Cy (Aa (pv 1) Ab)) Ac) Ab))) (by rfl) (by first | exact .inl rfl | exact .inr rfl))
 (@Ah _ _ _ (@Ak _ _ _ _ (@Aq _ _ _ _ _ _ _ _ Bb (@Aq _ _ _ _ _ _ _ _ Bb (Bq Ce (pv 1) Bx (Bt (pv 3))) (@Ba _ _ _ _ _ _ _ Kv Af (Am Bj hr (Aa (pv 0) (Aa Ac Ab))) (λ_ _=>rfl))) (Bq Ce (pv 1) (Bt (pv 3)) Bx))))) Ay)
 (@Ad _ _ _ _ _ (Yw (i:=4) Ek.nd rfl (Or.inl rfl) (N':=xf) rfl (CZ.of (src:=[none,some 1]) (Ar Kf) xi rfl rfl rfl (by trivial) (by trivial) (by trivial) rfl (by trivial)) (FW rfl T.range (Aa (Ax Dg rfl T.len Cy (Aa (pv 1) Ab)) Ab)) (λ_ _ _ _=>(Az (i:=0) (show List.Nodup (xf:YF) by trivial) rfl (Or.inl rfl))) (λ_ _ _ _=>(Wk (Av BK (@Ba _ _ _ _ _ _ _ Kv (pv 1) (pv 0) (λ_ _=>rfl)) Af (Bc _)))) (λ_ _ _ _=>(pv 0)))
 (@Ad _ _ _ _ _ (Bg (Av BK (pv 2) Ac (Bc _)) (@Ad _ _ _ _ _ (@Bf _ _ 3 _ _ _ _ Ek.nd rfl (Or.inl rfl) (@Ba _ _ _ _ _ _ _ Br (pv 4) (Am Bj hr (Aa (pv 0) (Aa (Ax BR rfl T.len Cy (Aa (pv 4) Ab)) Ab))) (λ_ _=>rfl)) (by rfl) (by first | exact .inl rfl | exact .inr rfl))
 (@Ah _ _ _ (@Ak _ _ _ _ (@Aq _ _ _ _ _ _ _ _ Bb (@Aq _ _ _ _ _ _ _ _ Bb (Bq Ce (pv 1) Bx (Bt (pv 3))) Af) (Bq Ce (pv 1) (Bt (pv 3)) Bx))))) Ay)
 (@Ad _ _ _ _ _ (Bg (Av BK (pv 2) Ac (Bc _)) (@Ad _ _ _ _ _ (@Bf _ _ 3 _ _ _ _ Ek.nd rfl (Or.inl rfl) (@Ba _ _ _ _ _ _ _ Br (pv 4) (Am Bj hr (Aa (pv 0) (Aa (Ax BR rfl T.len Cy (Aa (pv 4) Ab)) Ab))) (λ_ _=>rfl)) (by rfl) (by first | exact .inl rfl | exact .inr rfl))
 (@Ah _ _ _ (@Ak _ _ _ _ (@Aq _ _ _ _ _ _ _ _ Bb (Bq Ce (pv 1) Bx (Bt (pv 3))) (Bq Ce (pv 1) (Bt (@Aq _ _ _ _ _ _ _ _ Dd (pv 3) Ac)) Bx))))) Ay)
 (@Ad _ _ _ _ _ (Yw (i:=4) Ek.nd rfl (Or.inl rfl) (N':=xf) rfl (CZ.of (src:=[none,some 1]) (Ar Kf) xi rfl rfl rfl (by trivial) (by trivial) (by trivial) rfl (by trivial)) (cL rfl T.range (Aa Ac (Aa (Ax Dg rfl T.len Cy (Aa (pv 1) Ab)) Ab))) (λ_ _ _ _=>(Az (i:=0) (show List.Nodup (xf:YF) by trivial) rfl (Or.inl rfl))) (λ_ _ _ _=>(Wk (PW.pt (Ig (Av Kr (@Ba _ _ _ _ _ _ _ Kv (pv 1) (pv 0) (λ_ _=>rfl)) Af (by with_unfolding_all rfl)) (GZ (Av BK (@Ba _ _ _ _ _ _ _ Kv (pv 1) (@Aq _ _ _ _ _ _ _ _ Ga (pv 0) Ac) (λ_ _=>rfl)) Af (Bc _))))))) (λ_ _ _ _=>(pv 0)))
 (@Ad _ _ _ _ _ (Bg (Av (Ik hr.units) (pv 4) (Dj Ab) (Bc _)) (@Ah _ _ _ (@Ak _ _ _ _ (@Aq _ _ _ _ _ _ _ _ Bb Af (pv 1)))) Ay)
 (@Ad _ _ _ _ _ (@Bf _ _ 3 _ _ _ _ Ek.nd rfl (Or.inl rfl) (@Ba _ _ _ _ _ _ _ Br (pv 4) (Am Bj hr (Aa (pv 0) (Aa (Ax BR rfl T.len Cy (Aa (pv 4) Ab)) Ab))) (λ_ _=>rfl)) (by rfl) (by first | exact .inl rfl | exact .inr rfl))
 (@Ah _ _ _ (@Ak _ _ _ _ (@Aq _ _ _ _ _ _ _ _ Bb (@Aq _ _ _ _ _ _ _ _ Bb (Bq Ce (pv 1) Bx (Bt (pv 3))) Af) (Bq Ce (pv 1) (Bt (pv 3)) Bx))))))))))))))),?_⟩
 show let R0:TS:=_;let R1:TS:=Al _ R0;let R2:TS:=_;let R3:TS:=Al (BX _ R2 _) R1;let R4:TS:=Al _ R3;let R5:TS:=_;let R6:TS:=Al _ R5;let R7:TS:=Al (BX _ R6 _) R4;let R8:TS:=_;let R9:TS:=Al _ R8;let R10:TS:=Al (BX _ R9 _) R7;let R11:TS:=Al _ R10;let R12:TS:=_;let R13:TS:=Al _ R12;let R14:TS:=Al (BX _ R13 _) R11;let R15:TS:=_;let R16:TS:=Al _ R15;let R17:TS:=Al (BX _ R16 _) R14;let R18:TS:=_;let R19:TS:=Al (BX _ R18 _) R17;let R20:TS:=_;let R21:TS:=Al (BX _ R20 _) R19;Al _ R21 _ _ _;intro R0 R1 R2 R3 R4 R5 R6 R7 R8 R9 R10 R11 R12 R13 R14 R15 R16 R17 R18 R19 R20 R21;refine⟨_,rq,b,n,7,rq,hb,by omega,by decide,by decide,λr1 H1 r10 r11 hb1 sb1=>?_⟩;have m1:∀c:Nat,(⟨#[c]⟩ : Str).length=1:=λc=>rfl;have e1:∀{k:Nat},k<=T0.length->Txt.slice (S T0) none (some (k:Int))=S (T0.take k):=Vp;have n1:∀{k:Nat},(S (T0.take k)).length<=6740:=λ{k}=>by rw[Ai,Qbn];omega
 have n3:∀{k:Nat},(S (T0.drop k)).length<=6740:=λ{k}=>by rw[Ai,Qbr];omega
 refine⟨_,rq,rq,_,rq,?_⟩;refine ifN (λ_=>?_) (λ_=>?_)
 ·refine⟨_,rq,_,rq,_,rq,_,rq,szb (by omega),?_⟩;rw[mX (by rw[eY,QaM];exact Nat.le_add_left _ _),eY,List.dropLast_concat];exact q _ _ (wy0 hT eY) (tt.sub (by rw[eY];exact List.sublist_append_left _ _)).rd (hb1.mono (by omega)) sb1
 refine⟨_,rq,rq,_,rq,?_⟩;refine ifN (λ_=>?_) (λ_=>?_)
 ·refine⟨_,rq,Ao (by show 3<=1000;decide),λp hp=>?_⟩;have s2:=Ag hp (.lst [.str "\n",.str " ",.str "x"]);have c2:upd H1 p (.lst [.str "\n",.str " ",.str "x"]) p=some (.lst [.str "\n",.str " ",.str "x"]):=Ae;have hb2:=hb1.same s2;have nb:=hb1.nb hp;refine⟨_,rq,b,n+1,3,rq,hb2,by omega,by decide,by decide,λr2 H2 r20 r21 hb3 sb3=>?_⟩;obtain⟨c,ec,hc⟩:=qT r20 r21;refine⟨p,_,_,_,rq,rq,SqL.of (sb3 _ _ c2 nb.symm),ec,?_⟩;refine⟨_,_,rq,rq,szb (by rw[sl,Ai];show _+1<=_;omega),?_⟩;rw[Oj];exact q _ _ (wy1 hT hc) (Ie (b:=[]) (by rw[QbB];exact tt) (by omega)) (hb3.mono (by omega)) (sb1.trans ((Aw.of s2).trans sb3))
 refine⟨_,rq,rq,_,rq,?_⟩;refine ifN (λ_=>?_) (λ_=>?_)
 ·refine⟨_,rq,_,rq,_,rq,szb (by omega),_,_,rq,rq,b,n+1,_,rq,hb1,by omega,by omega,by omega,λr2 H2 r20 r21 hb2 sb2=>?_⟩;obtain⟨k,rfl⟩ : ∃k:Nat,r2=k:=⟨r2.toNat,by omega⟩;have hk:k<=T0.length:=by omega
  refine⟨_,rq,_,rq,_,rq,_,rq,szb (by omega),?_⟩;rw[e1 hk];refine⟨_,rq,b,n+2,12,rq,hb2,by omega,by decide,by decide,λr3 H3 r30 r31 hb3 sb3=>?_⟩;obtain⟨c,ec,hc,hs⟩:=uM r30 r31;refine⟨_,_,_,rq,rq,(by trivial),ec,?_⟩;have:=n1 (k:=k);have:=n3 (k:=k);refine⟨_,_,rq,rq,szb (by rw[m1];omega),?_⟩;refine⟨_,rq,_,rq,_,rq,_,rq,szb (by omega),?_⟩;rw[Iv];refine⟨_,_,rq,rq,szb (by rw[QaY,m1];omega),?_⟩;rw[Qu];exact q _ _ (wy2 hs) (Ie (by rw[Qaz];exact tt) hc) hb3 (sb1.trans (sb2.trans sb3))
 refine⟨_,rq,rq,_,rq,?_⟩;refine ifN (λ_=>?_) (λ_=>?_)
 ·refine⟨_,rq,_,rq,_,rq,szb (by omega),_,_,rq,rq,b,n+1,_,rq,hb1,by omega,by omega,by omega,λr2 H2 r20 r21 hb2 sb2=>?_⟩;obtain⟨k,rfl⟩ : ∃k:Nat,r2=k:=⟨r2.toNat,by omega⟩;have hk:k<=T0.length:=by omega
  refine⟨_,rq,_,rq,_,rq,_,rq,szb (by omega),?_⟩;rw[e1 hk];refine⟨_,rq,b,n+2,2,rq,hb2,by omega,by decide,by decide,λr3 H3 r30 r31 hb3 sb3=>?_⟩;obtain⟨c,ec,hc⟩:=vJ r30 r31;refine⟨_,_,_,rq,rq,(by trivial),ec,?_⟩;have:=n1 (k:=k);have:=n3 (k:=k);refine⟨_,_,rq,rq,szb (by rw[m1];omega),?_⟩;refine⟨_,rq,_,rq,_,rq,_,rq,szb (by omega),?_⟩;rw[Iv];refine⟨_,_,rq,rq,szb (by rw[QaY,m1];omega),?_⟩;rw[Qu];exact q _ _ (w3 (Qaz k T0).symm hc) (Ie (by rw[Qaz];exact tt) (by omega)) hb3 (sb1.trans (sb2.trans sb3))
 refine⟨_,rq,_,rq,szb (by omega),_,rq,by omega,by omega,λls hls=>?_⟩;rw[sl,Qbh];let J0:YN:=λ(i:Nat) (U : St) (HC:Hp)=>∃(u:Option V),U=[u,some (.str (S T0))]/\HC ls=some (.lst ((blk 0 (λk=>decide (T0[k]?=some 32)) i).map V.int))/\Same H1 HC;refine Oe J0 ⟨none,rq,Ae,Ag hls _⟩ (λi U HC hi h=>?_) (fun U HM h=>?_)
 ·obtain⟨u,rfl,c1,s1⟩:=h;have lb:=T6 0 (λk=>decide (T0[k]?=some 32)) i;have et:T0[i]?=some T0[i]:=Qam hi;have ei:(0:Int)+(i:Int)=(i:Int):=Int.zero_add _;refine⟨_,rq,_,rq,_,_,T0[i],rq,rq,szb (by omega),by rw[ei];exact Aj et,rq,_,rq,?_⟩;by_cases e:T0[i]=32
  ·refine GJ (by rw[e];decide +kernel) ?_;refine⟨_,rq,_,c1,bY (by rw[Qbw];omega),_,rq,?_,s1.Fj Aw.upd hls⟩;rw[Ae,LR,if_pos (by rw[et,e];rfl),Qbx];rfl
  ·refine CW (Qbv λz=>e (S_1 (z.trans (congrArg V.str gO)))) ?_;refine⟨_,rq,?_,s1⟩;rw[c1,LR,if_neg (by rw[et];simpa using e)]
 obtain⟨u,rfl,c1,s1⟩:=h;have hb2:=hb1.same s1;have k2:=sb1.trans (Aw.of s1);have ne:=tV (lo:=0) (f:=λk=>decide (T0[k]?=some 32)) kbl (QbN hkb);have lb:=T6 0 (λk=>decide (T0[k]?=some 32)) T0.length;have lm:((blk 0 (λk=>decide (T0[k]?=some 32)) T0.length).map V.int).length=(blk 0 (λk=>decide (T0[k]?=some 32)) T0.length).length:=Qbw _;have nb:ls≠b:=(hb1.nb hls).symm;refine⟨_,rq,rq,_,rq,?_⟩;refine ifN (λ_=>?_) (λ_=>?_)
 ·refine⟨_,rq,_,rq,_,rq,ls,_,rq,.inl (SqL.of c1),b,n+1,_,rq,hb2,by omega,by omega,by omega,λr2 H2 r20 r21 hb3 sb3=>?_⟩;obtain⟨k,ek,fk⟩:=Xq r20 r21;have fk:T0[k]?=some 32:=Qba fk;have hk:=(Qaj.mp fk).1;have z:(0:Int)+(k:Int)=(k:Int):=Int.zero_add _;refine⟨ls,_,_,_,rq,rq,SqL.of (sb3 _ _ c1 nb),ek,?_⟩;refine⟨_,rq,_,rq,_,rq,_,rq,szb (by omega),?_⟩;rw[z,e1 (by omega)];have:=n1 (k:=k);have:=n3 (k:=k);refine⟨_,_,rq,rq,szb (show _+1<=_ by omega),?_⟩;refine⟨_,rq,_,rq,_,rq,_,rq,szb (by omega),?_⟩;rw[Iv];refine⟨_,_,rq,rq,szb (by rw[QaY];show _+1+_<=_;omega),?_⟩;rw[gO,show S [32]=(⟨#[32]⟩ : Str) from rfl,Qu,(Lz fk).2]
  refine q _ _ (wy4 hT (Lz fk).1.symm) ?_ (hb3.mono (by omega)) (k2.trans sb3);rw[<-(Lz fk).2];exact Ie (by rw[Qaz];exact tt) (by decide)
 refine⟨_,rq,rq,_,rq,?_⟩;refine ifN (λ_=>?_) (λ_=>?_)
 ·refine⟨_,rq,_,rq,_,rq,ls,_,rq,.inl (SqL.of c1),b,n+1,_,rq,hb2,by omega,by omega,by omega,λr2 H2 r20 r21 hb3 sb3=>?_⟩;obtain⟨k,ek,fk⟩:=Xq r20 r21;have fk:T0[k]?=some 32:=Qba fk;have hk:=(Qaj.mp fk).1;have z:(0:Int)+(k:Int)=(k:Int):=Int.zero_add _;refine⟨ls,_,_,_,rq,rq,SqL.of (sb3 _ _ c1 nb),ek,?_⟩;refine⟨_,rq,_,rq,_,rq,_,rq,szb (by omega),?_⟩;rw[z,e1 (by omega)];have:=n1 (k:=k);have:=n3 (k:=k+1);refine⟨_,rq,_,rq,_,_,rq,rq,_,rq,_,rq,szb (by omega),?_⟩;rw[show (k:Int)+1=((k+1:Nat):Int) from rfl,Iv]
  refine⟨_,_,rq,rq,szb (by omega),?_⟩;rw[Oj];refine q _ _ (wy5 hT (Lz fk).1.symm) ?_ (hb3.mono (by omega)) (k2.trans sb3);refine (tt.sub ?_).rd
  conv=>rhs;rw[<-(Lz fk).1]
  exact List.Sublist.append_left (List.sublist_cons_self _ _) _
 refine⟨_,rq,_,rq,szb (by omega),_,_,rq,⟨by omega,by omega,by omega,by omega⟩,λl2 hl2=>?_⟩;have en:((((S T0).length:Nat):Int) - 1).toNat=T0.length - 1:=by rw[sl];omega
 rw[en];have len0:∀i,(blk 1 (λk=>IK (T0.getD (k+1) 0)&&decide (T0.getD k 0=32)) i).length<=i:=T6 1 _;let J1:YN:=λ(i:Nat) (U : St) (HC:Hp)=>∃(u:Option V),U=[u,some (.str (S T0))]/\HC l2=some (.lst ((blk 1 (λk=>IK (T0.getD (k+1) 0)&&decide (T0.getD k 0=32)) i).map V.int))/\Same HM HC;refine Oe J1 ⟨none,rq,Ae,Ag hl2 _⟩ (λi U HC hi h=>?_) (fun U HC h=>?_)
 ·obtain⟨u,rfl,d1,k1⟩:=h;have lb:=len0 i;have g1:T0[i+1]?=some T0[i+1]:=Qam (by omega);have g0:T0[i]?=some T0[i]:=Qam (by omega);have gd1:T0.getD (i+1) 0=T0[i+1]:=by rw[Qaf,g1];rfl
  have gd0:T0.getD i 0=T0[i]:=by rw[Qaf,g0];rfl
  have ei:(1:Int)+(i:Int)=((i+1:Nat):Int):=by omega
  have ej:(1:Int)+(i:Int) - 1=(i:Int):=by omega
  refine⟨_,rq,_,rq,_,_,_,rq,rq,szb (by omega),by rw[ei];exact Aj g1,_,_,rq,rq,?_⟩;refine⟨_,rq,?_⟩;have ef:IK T0[i+1]=(!(Builtin.Str.occurrences "0123456789" ⟨#[T0[i+1]]⟩ 0 (Str.ofString "0123456789").length 1).isEmpty):=rfl;cases f1:IK T0[i+1] with
  | false=>
   refine CW (ef.symm.trans f1) ?_;refine Bs ⟨_,rq,d1.trans ?_,k1⟩;rw[LR,gd1,f1,if_neg (by rw[Bool.false_and];decide)]
  | true=>
  refine GJ (ef.symm.trans f1) ?_;refine⟨_,rq,_,rq,_,_,rq,rq,_,_,_,rq,rq,szb (by omega),by rw[ej];exact Aj g0,rq,_,rq,?_⟩;by_cases e:T0[i]=32
  ·refine GJ (by rw[e];decide +kernel) ?_;refine⟨_,rq,_,d1,bY (by rw[Qbw];omega),_,rq,?_,k1.Fj Aw.upd hl2⟩;rw[Ae,LR,if_pos (by rw[gd1,gd0,f1,e];rfl),Qbx];rfl
  ·refine CW (Qbv λz=>e (S_1 (z.trans (congrArg V.str gO)))) ?_;refine⟨_,rq,?_,k1⟩;rw[d1,LR,if_neg (by rw[gd1,gd0,f1];simpa using e)]
 obtain⟨u,rfl,d1,k1⟩:=h;have hb3:=hb2.same k1;have k3:=k2.trans (Aw.of k1);have lb2:=len0 (T0.length - 1);have nb2:l2≠b:=(hb2.nb hl2).symm;refine⟨_,rq,Ao (by show 0<=1000;decide),λl3 hl3=>?_⟩;have k4:=Ag hl3 (.lst []);have hb4:=hb3.same k4;have d4:=k4 _ _ d1;have k04:=k3.trans (Aw.of k4);refine⟨_,_,.lst d4 (Ut _),.lst Ae .nil,QC _,QC [],_,rq,?_⟩;cases eB:blk 1 (λk=>IK (T0.getD (k+1) 0)&&decide (T0.getD k 0=32)) (T0.length - 1) with
 | nil=>
  refine GJ rfl ?_;have e10:("\n":Str)=S [10]:=by trivial
  refine⟨_,rq,_,_,rq,rq,szb (by rw[e10,Ai];show 1+_<=_;omega),?_⟩;rw[e10,Oj];exact q _ _ (kW hT) (Ie (a:=[]) tt (by decide)) (hb4.mono (by omega)) k04
 | cons z zs=>
 refine CW rfl ?_;have ne2:0 < ((blk 1 (λk=>IK (T0.getD (k+1) 0)&&decide (T0.getD k 0=32)) (T0.length - 1)).map V.int).length:=by rw[eB];exact Nat.succ_pos _
 have lm2:((blk 1 (λk=>IK (T0.getD (k+1) 0)&&decide (T0.getD k 0=32)) (T0.length - 1)).map V.int).length=(blk 1 (λk=>IK (T0.getD (k+1) 0)&&decide (T0.getD k 0=32)) (T0.length - 1)).length:=Qbw _;clear eB;refine⟨_,rq,_,rq,_,rq,l2,_,rq,.inl (SqL.of d4),b,n+1,_,rq,hb4,by omega,by omega,by omega,λr2 H2 r20 r21 hb5 sb5=>?_⟩;obtain⟨k,ek,fk⟩:=Xq r20 r21;rw[Qbk] at fk;obtain⟨fd,f32⟩:=fk;have f32:T0.getD k 0=32:=Qba f32;have g0:T0[k]?=some 32:=by
  rw[Qaf] at f32;cases h0:T0[k]? with
  | none=>rw[h0] at f32;cases f32
  | some c=>rw[h0] at f32;exact congrArg some f32
 rw[T4,vI] at fd;have fd:=Qba fd;obtain⟨d,hd,g1⟩ : ∃d,(48<=d/\d<=57)/\T0[k+1]?=some d:=by
  rw[Qaf] at fd;cases h0:T0[k+1]? with
  | none=>rw[h0] at fd;exact absurd fd (by decide)
  | some c=>
   rw[h0] at fd;simp only[Option.getD_some,QbP,Qbp,Qco] at fd;exact⟨c,by omega,rq⟩
 have hk:=(Qaj.mp g1).1;have ez:(1:Int)+(k:Int)=((k+1:Nat):Int):=by omega
 refine⟨l2,_,_,_,rq,rq,SqL.of (sb5 _ _ d4 nb2),ek,?_⟩;refine⟨_,rq,_,rq,_,rq,_,rq,szb (by omega),?_⟩;rw[ez,e1 (by omega)];have:=n1 (k:=k+1);have:=n3 (k:=k+1);refine⟨_,_,rq,rq,szb (show _+1<=_ by omega),?_⟩;refine⟨_,rq,_,rq,_,rq,_,rq,szb (by omega),?_⟩;rw[Iv];refine⟨_,_,rq,rq,szb (by rw[QaY];show _+1+_<=_;omega),?_⟩;have c0:=Lz g0;have c1:=Lz g1;have et:T0.take (k+1)=T0.take k++[32]:=Qcm g0;have eT:T0=T0.take k++32::d::T0.drop (k+1+1):=by rw[<-c1.2];exact c0.1.symm
 rw[pG,show S [48]=(⟨#[48]⟩ : Str) from rfl,Qu]
 refine q _ _ ?_ (Ie (by rw[Qaz];exact tt) (by decide)) (hb5.mono (by omega)) (k04.trans sb5);have:=wy6 hT hd eT;rw[et,c1.2,QaZ];exact this
end
abbrev KN:Stmt:=top 64
abbrev lW:YF:=["_law_script"]
theorem Gj:Bo ["_law_script","_law_k","_law_bag_here","_law_rules_here","_law_text_here","_law_turn","_law_changed_here","_law_found","_law_deep","_law_many","_law_some","_law_full"] lW (Ar KN):=by ac_rfl
def Ma (H:Hp) (t:Addr) (rs:List Ru):Prop:=Rep (onl H) (.ref t) (.tuple (rs.map Ru.data))/\(∀r∈rs,r.ok)/\1<=rs.length/\rs.length<=16
theorem Ma.same {H H':Hp} {t:Addr} {rs:List Ru} (h:Ma H t rs) (s:Same H H'):Ma H' t rs:=⟨Rep.same (Fx (Dw.of s)) h.1,h.2⟩
theorem Ma.tups {H H':Hp} {t:Addr} {rs:List Ru} (h:Ma H t rs) (s:Dw H H'):Ma H' t rs:=⟨Rep.same (Fx s) h.1,h.2⟩
theorem Ma.rep {H:Hp} {t:Addr} {rs:List Ru} (h:Ma H t rs):Rep H (.ref t) (.tuple (rs.map Ru.data)):=Rep.same (Te H) h.1
def Ml:List Ru:=[.sound 7 (.neg (wd 10))]
theorem Nk:∀r∈Ml,r.ok:=λr hr=>by
 rw[QaO.mp hr];obtain⟨h1,h2,h3⟩:=vP;exact⟨⟨by decide,by decide⟩,h1,by show (wd 10).deep+1<=6;omega,by show (wd 10).many+1<=20;omega⟩
theorem jL:(Str.ofString "sound 7 = not "++S (wd 10).txt++Str.ofString "\n")=S (Ml.map Ru.txt).flatten:=by trivial
theorem gG:(Str.ofString "sound 7 = "++S (wd 11).txt++Str.ofString "\n")=S (Iu++[10]):=by trivial
theorem Ww:∀m,(List.replicate m (L "not ")).flatten=G8 m
 | 0=>rfl
 | m+1=>by rw[QaK,Qbd,Ww m];rfl
theorem jT {i:Int} (h0:0<=i) (h1:i < 30):∃m,6<=m/\m<=36/\(Str.ofString "term a = "++Jq "not " (6+i)++Str.ofString "key 0\n")=S (CG m++[10]):=by
 refine⟨(6+i).toNat,by omega,by omega,?_⟩;have e1:L (Str.ofString "term a = ")=L "term a"++L " = ":=by trivial
 have e2:L (Str.ofString "key 0\n")=L "key 0"++[10]:=by trivial
 have e3:L (Jq "not " (6+i))=G8 (6+i).toNat:=Ww _;refine Ir ?_;rw[Dk,Dk,e1,e2,e3,L_S];show _=(L "term a"++(L " = "++(G8 _++L "key 0")))++[10];simp only[QaZ]
theorem Wx:∀m,(G8 m).length=4*m
 | 0=>rfl
 | m+1=>by
  show (L "not "++G8 m).length=_;rw[QaM,Wx m,show (L "not ").length=4 by trivial];omega
theorem Xa (m:Nat):(CG m).length=4*m+14:=by
 have e1:(L "term a").length=6:=by trivial
 have e2:(L " = ").length=3:=by trivial
 have e3:(L "key 0").length=5:=by trivial
 show (L "term a"++(L " = "++(G8 m++L "key 0"))).length=_;rw[QaM,QaM,QaM,Wx,e1,e2,e3];omega
theorem jU (m:Nat):(CG m).count 10=0:=List.count_eq_zero.mpr λh=>(Xb m 10 h).1 rfl
theorem Zb {T:List Nat} (h:Tt T) {m:Nat} (hm:m<=36):Rd (T++(CG m++[10])):=by
 have h1:=h.len;have h2:=h.ten;have h3:=Xa m;have h4:=jU m;refine⟨⟨by rw[QaM,QaM];show _+(_+1)<=_;omega,λc hc=>?_⟩,?_⟩
 ·rcases Qby.mp hc with hc | hc
  ·exact h.lt c hc
  ·rcases Qby.mp hc with hc | hc
   ·exact (Xb m c hc).2
   ·rw[QaO.mp hc];decide
 ·rw[Qbb,Qbb,h4];show _+(0+1)<=_;omega
theorem VN:Tt []:=⟨by decide,(λc hc=>by cases hc),by decide⟩
theorem mG:Rd (Iu++[10]):=by
 have h1:=VD.2.2;have h2:Iu.count 10=0:=List.count_eq_zero.mpr λh=>(VF 10 h).1 rfl;refine⟨⟨by rw[QaM];show _+1<=_;omega,λc hc=>?_⟩,?_⟩
 ·rcases Qby.mp hc with hc | hc
  ·exact (VF c hc).2
  ·rw[QaO.mp hc];decide
 ·rw[Qbb,h2];show 0+1<=_
  decide
theorem qM {T:List Nat} (h:Tt T) (l:T.length*17<=6000):Rd (List.replicate 17 T).flatten:=by
 have h2:=h.ten;have cnt:∀n,(List.replicate n T).flatten.count 10=n*T.count 10:=λn=>by
  induction n with
  | zero=>simp
  | succ n ih=>rw[QaK,Qbd,Qbb,ih,Nat.succ_mul];omega
 have len:∀n,(List.replicate n T).flatten.length=n*T.length:=λn=>by
  induction n with
  | zero=>simp
  | succ n ih=>rw[QaK,Qbd,QaM,ih,Nat.succ_mul];omega
 refine⟨⟨by rw[len];omega,λc hc=>?_⟩,by rw[cnt];omega⟩;obtain⟨l,hl,hc⟩:=List.mem_flatten.mp hc;rw[(List.mem_replicate.mp hl).2] at hc;exact h.lt c hc
def Odd (H:Hp) (v:V):Prop:=(isS v=false/\Kn H v)\/∃l:List Nat,v=.str (S l)/\NoR l/\Rd l
theorem vK {i:Int} (h0:0<=i) (h1:i < 12) {a b c d e f g h j k l m:V} (P:V->Prop) (pa:P a) (pb:P b) (pc:P c) (pd:P d) (pe:P e) (pf:P f) (pg:P g) (ph:P h) (pj:P j) (pk:P k) (pl:P l) (pm:P m):∃v,atI [a,b,c,d,e,f,g,h,j,k,l,m] i=some v/\P v:=by
 have:i=0\/i=1\/i=2\/i=3\/i=4\/i=5\/i=6\/i=7\/i=8\/i=9\/i=10\/i=11:=by omega
 rcases this with rfl | rfl | rfl | rfl | rfl | rfl | rfl | rfl | rfl | rfl | rfl | rfl
 ·exact⟨_,rq,pa⟩
 ·exact⟨_,rq,pb⟩
 ·exact⟨_,rq,pc⟩
 ·exact⟨_,rq,pd⟩
 ·exact⟨_,rq,pe⟩
 ·exact⟨_,rq,pf⟩
 ·exact⟨_,rq,pg⟩
 ·exact⟨_,rq,ph⟩
 ·exact⟨_,rq,pj⟩
 ·exact⟨_,rq,pk⟩
 ·exact⟨_,rq,pl⟩
 ·exact⟨_,rq,pm⟩
theorem Vk:SeqAt.shaped (.str "text")=true:=by trivial
theorem pZ:PyData.eqv (.str "text") (.str "text")=true:=by trivial
theorem NP {rs:List Ru} (ok:∀r∈rs,r.ok) (l:rs.length<=16):SeqAt.shaped (.tuple (rs.map Ru.data))=true:=((Ry ok l).fit (by decide)).shaped (by decide)
theorem gJ {t:TT} {ta tb:TE} {U : St} {H:Hp} {Q:VK} (F:V->Hp->Prop) (hI:∀Q':VK,(∀x H',F x H'->Q' x H')->tIf t ta tb U H Q') (hR:∀x H',F x H'->Q x H'):tIf t ta tb U H Q:=hI Q hR
section
variable {P:Program} {w:World} {K:YD} {mg:YB} {base:Heap} {wA:Addr}
theorem qW {f:Addr} {fd:FuncData} (F:Fun K "law" "law" KN f fd) (T:Tx K w.params mg wA) (TQ:Good P w K mg base "_law_bag" 1 Nf (lK K)) (Bj:Good P w K mg base "_law_take" 1 Fw Kd) (d9:Good P w K mg base "_law_rules" 9 Kl Yo) (JL:Good P w K mg base "_law_rules_text" 8 Gn MK) (d8:Good P w K mg base "_law_wrong" 2 Kh Yn) (X8:Good P w K mg base "_law_changed" 2 Ij Ug) (Lw:Good P w K mg base "_law_wide" 13 Iz (Oz 11)) (Pj:Good P w K mg base "_law_is_rules" 9 Ho (GC Eb)) (Rb:Good P w K mg base "_law_read" 21 Hl Yp) (Uu:Good P w K mg base "_law_read" 19 Hl ZJ):Jw P w K mg base CX0 22 f fd lW (Vn K):=by
 refine F.ok Gj (λvs H Q E h=>?_) (λcdv A outer s H vs Q E hr h=>?_)
 ·obtain⟨a,ns,rfl,_⟩:=h;rfl
 obtain⟨a,ns,rfl,hS,h63,q⟩:=h;refine⟨_,(@Ad _ _ _ _ _ (Ih QbD rfl (FW rfl T.range (Aa (Ax (fO rfl) rfl T.max tO (Aa Ac (Aa (Ax (fM rfl) rfl T.min tM (Aa Ac (Aa (Ax BR rfl T.len Cy (Aa (pv 0) Ab)) Ab))) Ab))) Ab)) (Az (i:=1) Gj.nd rfl (Or.inl rfl))
 (@Ad _ _ _ _ _ (@Bf _ _ 2 _ _ _ _ Gj.nd rfl (Or.inl rfl) (Am TQ hr (Aa (pv 0) (Aa (pv 1) Ab))) (by rfl) (by first | exact .inl rfl | exact .inr rfl))
 (@Ad _ _ _ _ _ (@Bf _ _ 3 _ _ _ _ Gj.nd rfl (Or.inl rfl) (Am d9 hr (Aa (pv 2) Ab)) (by rfl) (by first | exact .inl rfl | exact .inr rfl))
 (@Ad _ _ _ _ _ (@Bf _ _ 4 _ _ _ _ Gj.nd rfl (Or.inl rfl) (Am JL hr (Aa (pv 3) Ab)) (by rfl) (by first | exact .inl rfl | exact .inr rfl))
 (@Ad _ _ _ _ _ (Ih QbD rfl (FW rfl T.range (Aa Ac Ab)) (Az (i:=5) Gj.nd rfl (Or.inl rfl))
 (@Ad _ _ _ _ _ (Bg (Av Jt (Am Rb hr (Aa (Am d8 hr (Aa (pv 2) (Aa (pv 4) Ab))) Ab)) Af (Bc _)) (@Ah _ _ _ (@Ak _ _ _ _ Eu)) Ay)
 (@Ad _ _ _ _ _ (@Bf _ _ 6 _ _ _ _ Gj.nd rfl (Or.inl rfl) (Am X8 hr (Aa (pv 2) (Aa (pv 4) Ab))) (by rfl) (by first | exact .inl rfl | exact .inr rfl))
 (@Ad _ _ _ _ _ (@Bf _ _ 7 _ _ _ _ Gj.nd rfl (Or.inl rfl) (Am Rb hr (Aa (pv 6) Ab)) (by rfl) (by first | exact .inl rfl | exact .inr rfl))
 (@Ah _ _ _ (Bg (PW.pt (Ig (Av (RG hr.units) (pv 7) Af (Bc _)) (GZ (PW.pt (DR (Cw (Ci (Am Pj hr (Aa (pv 7) Ab)))) (DQ (Av Jt (Am JL hr (Aa (pv 7) Ab)) (pv 6) (Bc _)))))))) (@Ah _ _ _ (@Ak _ _ _ _ Eu)) Ay))))))
 (@Ad _ _ _ _ _ (@Bf _ _ 8 _ _ _ _ Gj.nd rfl (Or.inl rfl) (@Aq _ _ _ _ _ _ _ _ Bb (@Aq _ _ _ _ _ _ _ _ Bb Af (@Aq _ _ _ _ _ _ _ _ RJ Af (@Aq _ _ _ _ _ _ _ _ Dd Ac (Am Bj hr (Aa (pv 2) (Aa Ac Ab)))))) Af) (by rfl) (by first | exact .inl rfl | exact .inr rfl))
 (@Ad _ _ _ _ _ (@Bf _ _ 9 _ _ _ _ Gj.nd rfl (Or.inl rfl) (Q5 (Av G7 (@Aq _ _ _ _ _ _ _ _ Hs (Ax Dg rfl T.len Cy (Aa (pv 4) Ab)) Ac) Ac (Bc _)) (@Aq _ _ _ _ _ _ _ _ RJ (pv 4) Ac) (@Aq _ _ _ _ _ _ _ _ Bb Af (pv 4))) (by rfl) (by first | exact .inl rfl | exact .inr rfl))
 (@Ad _ _ _ _ _ (@Bf _ _ 10 _ _ _ _ Gj.nd rfl (Or.inl rfl) (@Dj _ _ _ _ (@Aa _ _ _ _ _ (pv 8) (@Aa _ _ _ _ _ (@Af _ _ _ _) (@Aa _ _ _ _ _ (@Af _ _ _ _) (@Aa _ _ _ _ _ (@Aq _ _ _ _ _ _ _ _ Bb (pv 4) (pv 8)) (@Aa _ _ _ _ _ (@Wm _ _ _) (@Aa _ _ _ _ _ (@Ac _ _ _ _) (@Aa _ _ _ _ _ (Dj (Aa (pv 4) Ab)) (@Aa _ _ _ _ _ (@Bl _ _ _ _ _ (Aa (pv 4) Ab)) (@Aa _ _ _ _ _ (pv 3) (@Aa _ _ _ _ _ (pv 9) (@Aa _ _ _ _ _ (@Eu _ _ _ _) (@Ab _) BJ) Dt) Dt) qw) bR) BJ) BJ) Rq) BJ) BJ) Dt)) (by rfl) (by first | exact .inl rfl | exact .inr rfl))
 (@Ad _ _ _ _ _ (Jg (Dz Qap Qan Qao En (pv 10) (Aa (@Aq _ _ _ _ _ _ _ _ Bb (@Aq _ _ _ _ _ _ _ _ Bb Af (Am Lw hr (Aa Ac Ab))) Af) Ab)))
 (@Ad _ _ _ _ _ (Bg (PW.pt (DR (Av Jt (Am Rb hr (Aa (@Ba _ _ _ _ _ _ _ Br (pv 10) (Am Bj hr (Aa (pv 2) (Aa Ac Ab))) (λ_ _=>rfl)) Ab)) Af (Bc _)) (DQ (Av (RG hr.units) (Am Uu hr (Aa (pv 4) Ab)) (pv 3) (Bc _))))) (@Ah _ _ _ (@Ak _ _ _ _ Eu)) Ay)
 (@Ad _ _ _ _ _ (@Bf _ _ 11 _ _ _ _ Gj.nd rfl (Or.inl rfl) (@Aq _ _ _ _ _ _ _ _ Bb (@Aq _ _ _ _ _ _ _ _ Bb Af (Am Lw hr (Aa Ac Ab))) Af) (by rfl) (by first | exact .inl rfl | exact .inr rfl))
 (@Ad _ _ _ _ _ (@Bf _ _ 7 _ _ _ _ Gj.nd rfl (Or.inl rfl) (Am Uu hr (Aa (pv 11) Ab)) (by rfl) (by first | exact .inl rfl | exact .inr rfl))
 (@Ah _ _ _ (Bg (PW.pt (DR (Av (Ik hr.units) (pv 7) Af (Bc _)) (DR (Cw (Ci (Am Pj hr (Aa (pv 7) Ab)))) (DQ (Av Jt (Am JL hr (Aa (pv 7) Ab)) (pv 11) (Bc _)))))) (@Ah _ _ _ (@Ak _ _ _ _ Eu)) Ay))))))))))))))
 (@Ah _ _ _ (@Ak _ _ _ _ Eu))),?_⟩
 show let R0:TS:=_;let R1:TS:=Al _ R0;let R2:TS:=Al _ R1;let R3:TS:=Al _ R2;let R4:TS:=Al _ R3;let R5:TS:=Al _ R4;let R6:TS:=Al _ R5;let R7:TS:=Al _ R6;let R8:TS:=_;let R9:TS:=Al _ R8;let R10:TS:=Al _ R9;let R11:TS:=Al _ R10;let R12:TS:=Al (K5 _ _ R11) R7;let R13:TS:=Al _ R12;let R14:TS:=Al _ R13;let R15:TS:=Al _ R14;Al (K5 _ _ R15) _ _ _ _;intro R0 R1 R2 R3 R4 R5 R6 R7 R8 R9 R10 R11 R12 R13 R14 R15;have hl:(ns.map V.int).length=ns.length:=Qbw _;refine⟨_,rq,a,_,rq,.inl hS,_,_,rq,_,_,rq,_,rq,?_,?_,?_⟩
 ·rw[hl];split <;> split <;> omega
 ·rw[hl];split <;> split <;> omega
 let J0:YN:=λi U H'=>Same H H'/\∃u1 u2 u3 u4 u5 u6 u7 u8 u9 u10 u11,U=[js a,u1,u2,u3,u4,u5,u6,u7,u8,u9,u10,u11];refine Hu J0 ⟨Same.refl H,_,_,_,_,_,_,_,_,_,_,_,rq⟩ (λi U H' hi h=>?_) (fun U H' h=>?_)
 ·obtain⟨sm,u1,u2,u3,u4,u5,u6,u7,u8,u9,u10,u11,rfl⟩:=h;rw[hl] at hi;have hi':(i:Int)<=100:=by
   revert hi;split <;> split <;> omega
  refine⟨_,rq,_,rq,a,ns,_,rq,sm.seq hS,h63,by omega,by omega,λb o hb0 rN=>?_⟩;have s1:Same H (upd H' b o):=sm.trans (Ag hb0 o);have fb:H b=none:=sm.free hb0;generalize upd H' b o=H1 at s1 rN ⊢;refine⟨_,rq,b,0,rq,rN,by omega,λt rs H2 r1 o1 m1 n1 hb2 sb2=>?_⟩;have At:Ma H2 t rs:=⟨r1,o1,m1,n1⟩;refine⟨_,rq,_,rs,rq,At.rep,o1,n1,λH3 s3=>?_⟩;have At:=At.same s3;have hb3:=hb2.same s3;have sb3:Aw b H1 H3:=sb2.trans (Aw.of s3);have tt:=bK o1 n1;have hT:=acc o1;have w17:=vO o1 m1;have wdp:∀{m:Nat},6<=m->NoR ((rs.map Ru.txt).flatten++(CG m++[10])):=Yk o1;refine⟨_,rq,by decide,by decide,?_⟩;have nb0:∃k,k<=4000/\BL H3 b k:=⟨_,by decide,hb3⟩;let J1:YN:=λj U HH=>Aw b H3 HH/\(∃k,k<=4000+10*j/\BL HH b k)/\∃v5 v6 v7,U=[js a,some (.int (0+(i:Int))),js b,js t,some (.str (S (rs.map Ru.txt).flatten)),v5,v6,v7,u8,u9,u10,u11];refine Hu (n:=4) J1 ⟨Aw.refl _ _,nb0,_,_,_,rq⟩ (λj U HH hj h=>?_) (fun U HH h=>?_)
  ·obtain⟨sB,⟨k,hk,hbk⟩,v5,v6,v7,rfl⟩:=h;refine⟨_,rq,_,rq,b,k,rs,rq,hbk,by omega,o1,m1,n1,λy HA ny ry hbA sA=>?_⟩;refine⟨_,rq,λHB sBB=>?_,.inr ⟨y,rq,ry.1,ry.2,λp rs' H' el ok' l1 l16 _ _=>absurd el (ny rs' ok' l1 l16)⟩⟩;refine⟨rq,_,rq,CW rfl ?_⟩;have hbB:=hbA.same sBB;refine⟨_,rq,_,rq,b,k+3,_,rq,hbB,by omega,tt,λz HC rz hbC sC=>?_⟩;have sBC:Aw b H3 HC:=sB.trans (sA.trans ((Aw.of sBB).trans sC));refine⟨_,rq,_,rq,λHD sD=>?_,.inr ⟨z,rq,rz.1,rz.2,λp rs2 HD ez ok2 l2 l16 rp sD=>?_⟩⟩
   ·refine⟨_,rq,_,_,.str _,.str _,Vk,Vk,_,rq,CW (by rw[pZ];rfl) ?_⟩;exact⟨sBC.trans (Aw.of sD),⟨k+3+3,by omega,hbC.same sD⟩,_,_,_,rq⟩
   ·have ft:Fit 64 (.tuple (rs2.map Ru.data)):=((Ry ok2 l16).fit (by decide)).mono (by decide);have rr:Eb (.tuple (rs2.map Ru.data))=true:=O6 ok2 ⟨l2,l16⟩;refine⟨_,rq,_,_,rp,.str _,NP ok2 l16,Vk,_,rq,GJ rfl ?_⟩;refine⟨_,rq,_,_,rq,rp,ft,λHE sE=>⟨_,rq,?_⟩⟩;rw[rr];refine CW rfl ?_;refine⟨_,rq,_,rs2,rq,Rep.same sE rp,ok2,l16,λHF sF=>⟨_,rq,rq,_,rq,CW (by rw[<-ez];show (!decide (V.str (S z)=V.str (S z)))=false;rw[QbN rfl];rfl) ?_⟩⟩;exact⟨sBC.trans (Aw.of (sD.trans (sE.trans sF))),⟨k+3+3,by omega,hbC.same (sD.trans (sE.trans sF))⟩,_,_,_,rq⟩
  ·obtain⟨sB,⟨k,hk,hbk⟩,v5,v6,v7,rfl⟩:=h;have AtH:=At.tups (sB.tup hb3.N5);have sH:=sb3.trans sB;have tl:=tt.len;have sl:=Ai (rs.map Ru.txt).flatten;refine⟨_,rq,b,k,30,rq,hbk,by omega,by decide,by decide,λr HA r0 r30 hbA sA=>?_⟩;obtain⟨m,m6,m36,ed⟩:=jT r0 r30;have nl:(Str.ofString "not ").length=4:=by trivial
   have tl9:(Str.ofString "term a = ").length=9:=by trivial
   have kl6:(Str.ofString "key 0\n").length=6:=by trivial
   have rl:(Jq "not " (6+r)).length=4*(6+r).toNat:=Wi _ _;refine⟨_,_,rq,rq,_,_,rq,rq,by omega,by omega,by rw[nl];omega,_,_,rq,rq,szb (by rw[tl9,rl];omega),_,_,rq,rq,szb (by rw[QaY,tl9,rl,kl6];omega),?_⟩;rw[ed];have dl:=Xa m;have drd:=Zb tt m36;have dn:NoR (CG m++[10]):=Yk (rs:=[]) (λr hr=>by cases hr) m6;have zQ:Rd (CG m++[10]):=Zb VN m36;have dn2:=wdp m6;clear ed;have many:∃z:List Nat,NoR z/\Rd z/\(if decide ((((rs.map Ru.txt).flatten.length:Nat):Int)*17<=6000)=true then z=(List.replicate 17 (rs.map Ru.txt).flatten).flatten else z=10::(rs.map Ru.txt).flatten):=by
    by_cases h:(((rs.map Ru.txt).flatten.length:Nat):Int)*17<=6000
    ·exact⟨_,w17,qM tt (by omega),by rw[QbN h];rfl⟩
    ·exact⟨_,kW hT,Ie (a:=[]) tt (by decide),by rw[Qbv h];rfl⟩
   obtain⟨z,nz,rz,ez⟩:=many;unfold Gi;dsimp only;refine gJ (λx H'=>x=.str (S z)/\HA=H') (λQ' hQ=>?_) (λx H' hx=>?_)
   ·refine⟨_,rq,_,rq,szb (by omega),?_⟩;rw[sl];refine⟨_,_,rq,rq,(by unfold Xz;omega),_,_,rq,rq,_,rq,?_⟩;cases hc:decide ((((rs.map Ru.txt).flatten.length:Nat):Int)*17<=6000) with
    | true=>
     rw[hc,if_pos rfl] at ez;have:=Qba hc;refine Bp ⟨_,rq,_,_,rq,rq,by decide,by decide,(by rw[sl];show _*17<=_;omega),?_⟩;exact hQ _ _ ⟨by rw[ez];rfl,rq⟩
    | false=>
     rw[hc,if_neg (by decide)] at ez;have e10:("\n":Str)=S [10]:=by trivial
     refine Bs ⟨_,rq,_,_,rq,rq,szb (by rw[sl,e10,Ai];show 1+_<=_;omega),?_⟩;exact hQ _ _ ⟨by rw[e10,Oj,ez];rfl,rq⟩
   obtain⟨rfl,rfl⟩:=hx;have sX:=Ai (CG m++[10]);rw[QaM] at sX;have sX:(S (CG m++[10])).length=(CG m).length+1:=sX;refine⟨_,rq,_,rq,_,rq,_,_,rq,rq,szb (by rw[sl,sX];omega),?_⟩;rw[Oj];refine⟨_,rq,Ao (by show 1<=1000;decide),λl1 h1=>?_⟩;have k1:=Ag h1 (.lst [.str (S (rs.map Ru.txt).flatten)]);have d1:upd HA l1 (.lst [.str (S (rs.map Ru.txt).flatten)]) l1=some (.lst [.str (S (rs.map Ru.txt).flatten)]):=Ae;generalize upd HA l1 (.lst [.str (S (rs.map Ru.txt).flatten)])=HB at *;refine⟨_,rq,Ao (by show 1<=1000;decide),λl2 h2=>?_⟩;have k2:=Ag h2 (.tup [.str (S (rs.map Ru.txt).flatten)]);have d2:upd HB l2 (.tup [.str (S (rs.map Ru.txt).flatten)]) l2=some (.tup [.str (S (rs.map Ru.txt).flatten)]):=Ae;have d1:=k2 _ _ d1;generalize upd HB l2 (.tup [.str (S (rs.map Ru.txt).flatten)])=HC at *;refine⟨_,rq,_,rq,Ao (by show 11<=1000;decide),λl3 h3=>?_⟩;have jD:=k1.trans (k2.trans (Ag h3 (.lst [.str (S (CG m++[10])),.str "",.str "\n",.str (S ((rs.map Ru.txt).flatten++(CG m++[10]))),.non,.int 0,.ref l1,.ref l2,.ref t,.str (S z),.bl true])));have d3:upd HC l3 (.lst [.str (S (CG m++[10])),.str "",.str "\n",.str (S ((rs.map Ru.txt).flatten++(CG m++[10]))),.non,.int 0,.ref l1,.ref l2,.ref t,.str (S z),.bl true]) l3=some (.lst [.str (S (CG m++[10])),.str "",.str "\n",.str (S ((rs.map Ru.txt).flatten++(CG m++[10]))),.non,.int 0,.ref l1,.ref l2,.ref t,.str (S z),.bl true]):=Ae;have k3:=Ag h3 (.lst [.str (S (CG m++[10])),.str "",.str "\n",.str (S ((rs.map Ru.txt).flatten++(CG m++[10]))),.non,.int 0,.ref l1,.ref l2,.ref t,.str (S z),.bl true]);have d1:=k3 _ _ d1;have d2:=k3 _ _ d2;have f3:HA l3=none:=(k1.trans k2).free h3;generalize upd HC l3 (.lst [.str (S (CG m++[10])),.str "",.str "\n",.str (S ((rs.map Ru.txt).flatten++(CG m++[10]))),.non,.int 0,.ref l1,.ref l2,.ref t,.str (S z),.bl true])=HD at *;clear k3;have hbD:=hbA.same jD;have nb3:l3≠b:=λz=>by
    obtain⟨i,j,k,eb,_⟩:=hbD;rw[<-z,d3] at eb;cases eb
   have wl:=Ro 11 (by decide);have T5:(Str.ofString "sound 7 = ").length=10/\(Str.ofString "\n").length=1/\(Str.ofString "sound 7 = not ").length=14:=by trivial
   refine⟨_,rq,.inl ⟨rq,_,SqL.of d3⟩,11,rq,by decide,by decide,by decide,?_⟩;refine⟨_,_,rq,rq,szb (by rw[Ai,T5.1];omega),_,_,rq,rq,szb (by rw[QaY,Ai,T5.1,T5.2.1];omega),?_⟩;rw[gG];refine⟨l3,_,_,rq,rq,d3,Ca (by show 11<=1000;decide),?_⟩;have d4:upd HD l3 (.lst ([.str (S (CG m++[10])),.str "",.str "\n",.str (S ((rs.map Ru.txt).flatten++(CG m++[10]))),.non,.int 0,.ref l1,.ref l2,.ref t,.str (S z),.bl true]++[.str (S (Iu++[10]))])) l3=some (.lst ([.str (S (CG m++[10])),.str "",.str "\n",.str (S ((rs.map Ru.txt).flatten++(CG m++[10]))),.non,.int 0,.ref l1,.ref l2,.ref t,.str (S z),.bl true]++[.str (S (Iu++[10]))])):=Ae;have s4:Aw l3 HD (upd HD l3 (.lst ([.str (S (CG m++[10])),.str "",.str "\n",.str (S ((rs.map Ru.txt).flatten++(CG m++[10]))),.non,.int 0,.ref l1,.ref l2,.ref t,.str (S z),.bl true]++[.str (S (Iu++[10]))]))):=Aw.upd;generalize upd HD l3 (.lst ([.str (S (CG m++[10])),.str "",.str "\n",.str (S ((rs.map Ru.txt).flatten++(CG m++[10]))),.non,.int 0,.ref l1,.ref l2,.ref t,.str (S z),.bl true]++[.str (S (Iu++[10]))]))=HE at *;have hbE:BL HE b (k+1):=hbD.Fy s4 nb3.symm;have d1:HE l1=some (.lst [.str (S (rs.map Ru.txt).flatten)]):=s4 _ _ d1 (λz=>by
    rw[z,d3] at d1;injection d1 with d1;injection d1 with d1;exact absurd (show 11=1 from congrArg List.length d1) (by decide))
   have d2:HE l2=some (.tup [.str (S (rs.map Ru.txt).flatten)]):=s4 _ _ d2 (λz=>by rw[z] at d2;rw[d3] at d2;cases d2);have AtE:Ma HE t rs:=(AtH.tups (sA.tup hbk.N5)).same jD |>.tups (s4.tup λxs z=>by rw[d3] at z;cases z);have sE:Same HA HE:=λc o e=>s4 _ _ (jD _ _ e) (λz=>by rw[z,f3] at e;cases e);refine⟨_,rq,_,rq,b,k+1,12,rq,hbE,by omega,by decide,by decide,λr2 HF r20 r21 hbF sF=>?_⟩;have d5:=sF _ _ d4 nb3;have nl1:l1≠b:=λz=>by
    obtain⟨i,j,k,eb,_⟩:=hbE;rw[<-z,d1] at eb;cases eb
   have nl2:l2≠b:=λz=>by
    obtain⟨i,j,k,eb,_⟩:=hbE;rw[<-z,d2] at eb;cases eb
   have AtF:Ma HF t rs:=AtE.tups (sF.tup hbE.N5);obtain⟨xt,et⟩ : ∃xs,HF t=some (.tup xs):=by
    cases AtF.rep with
    | @tup _ xs _ ha _=>exact⟨xs,ha⟩
   obtain⟨v,hv,od⟩:=vK r20 r21 (λv=>Odd HF v) (a:=.str (S (CG m++[10]))) (b:=.str "") (c:=.str "\n") (d:=.str (S ((rs.map Ru.txt).flatten++(CG m++[10])))) (e:=.non) (f:=.int 0) (g:=.ref l1) (h:=.ref l2) (j:=.ref t) (k:=.str (S z)) (l:=.bl true) (m:=.str (S (Iu++[10]))) (.inr ⟨_,rfl,dn,zQ⟩) (.inr ⟨[],rfl,pJ,VN.rd⟩) (.inr ⟨[10],(congrArg V.str (by trivial)),pI,Ie (a:=[]) (b:=[]) VN (by decide)⟩) (.inr ⟨_,rfl,dn2,drd⟩) (.inl ⟨rfl,True.intro⟩) (.inl ⟨rfl,True.intro⟩) (.inl ⟨rfl,.inl ⟨_,sF _ _ d1 nl1⟩⟩) (.inl ⟨rfl,.inr ⟨_,sF _ _ d2 nl2⟩⟩) (.inl ⟨rfl,.inr ⟨_,et⟩⟩) (.inr ⟨_,rfl,nz,rz⟩) (.inl ⟨rfl,True.intro⟩) (.inr ⟨_,rfl,mF,mG⟩);refine⟨l3,_,_,_,rq,rq,SqL.of d5,hv,?_⟩;refine⟨_,rq,λHG sG=>?_,?_⟩;rotate_left
   ·rcases od with od |⟨l,el,nr,rd⟩
    ·exact .inl od
    ·exact .inr ⟨l,el,rd.1,rd.2,λp rs' H' e ok' l1 l16 _ _=>absurd e (nr rs' ok' l1 l16)⟩
   have AtG:=AtF.same sG;refine⟨rq,_,rq,CW rfl ?_⟩;refine⟨_,rq,rs,rq,o1,m1,n1,λp HI rp sI=>?_⟩;have AtI:=AtG.same sI;have shp:=NP o1 n1;refine⟨_,rq,_,_,rp,AtI.rep,shp,shp,_,rq,CW (by rw[SeqAt.eqv_refl _ (SeqAt.canLay_of_shaped shp)];rfl) ?_⟩;have BY:=Ro 10 (by decide);refine⟨10,rq,by decide,by decide,by decide,?_⟩;refine⟨_,_,rq,rq,szb (by rw[Ai,T5.2.2];omega),_,_,rq,rq,szb (by rw[QaY,Ai,T5.2.1,T5.2.2];omega),?_⟩;rw[jL];refine⟨_,rq,Ml,rq,Nk,by decide,by decide,λpf HJ rf sJ=>?_⟩;have fsh:=NP Nk (by decide);refine⟨_,rq,_,_,rf,.str _,fsh,Vk,_,rq,CW rfl ?_⟩;have ft:Fit 64 (.tuple (Ml.map Ru.data)):=((Ry Nk (by decide)).fit (by decide)).mono (by decide);refine⟨_,rq,_,_,rq,rf,ft,λHK sK=>⟨_,rq,?_⟩⟩;rw[show Eb (.tuple (Ml.map Ru.data))=true from O6 Nk ⟨by decide,by decide⟩]
   refine CW rfl ?_;refine⟨_,rq,_,Ml,rq,Rep.same sK rf,Nk,by decide,λHL sL=>⟨_,rq,rq,_,rq,CW (by show (!decide (V.str (S (Ml.map Ru.txt).flatten)=V.str (S (Ml.map Ru.txt).flatten)))=false;rw[QbN rfl];rfl) ?_⟩⟩;refine⟨?_,_,_,_,_,_,_,_,_,_,_,_,rq⟩;exact s1.Fj (sH.trans (sA.trans ((Aw.of sE).trans (sF.trans (Aw.of (sG.trans (sI.trans (sJ.trans (sK.trans sL))))))))) fb
 ·obtain⟨sm,_⟩:=h;exact q _
end
theorem iI:S (num 1)="1"/\S (num 2)="2"/\S (num 3)="3"/\S (num 4)="4"/\S (num 5)="5"/\S (num 6)="6"/\S (num 7)="7"/\S (num 8)="8"/\S (num 9)="9":=by trivial
theorem vG {K:YD} {wA:Addr} (y1:nsIn K wA "1"=some none) (y2:nsIn K wA "2"=some none) (y3:nsIn K wA "3"=some none) (y4:nsIn K wA "4"=some none) (y5:nsIn K wA "5"=some none) (y6:nsIn K wA "6"=some none) (y7:nsIn K wA "7"=some none) (y8:nsIn K wA "8"=some none) (y9:nsIn K wA "9"=some none):∀n,1<=n->n<=9->nsIn K wA (S (num n))=some none:=λn h1 h9=>by
 obtain⟨e1,e2,e3,e4,e5,e6,e7,e8,e9⟩:=iI;have:n=1\/n=2\/n=3\/n=4\/n=5\/n=6\/n=7\/n=8\/n=9:=by omega
 rcases this with rfl | rfl | rfl | rfl | rfl | rfl | rfl | rfl | rfl
 ·rw[e1];exact y1
 ·rw[e2];exact y2
 ·rw[e3];exact y3
 ·rw[e4];exact y4
 ·rw[e5];exact y5
 ·rw[e6];exact y6
 ·rw[e7];exact y7
 ·rw[e8];exact y8
 ·rw[e9];exact y9
theorem uY {K:YD} {C c0 c1 c2 c3 c4 c5 c6 c7 c8 c9 c10 c11 c12:Addr} {j:Nat} (q0:kitOne K (.ref C) (.ref c0)=some (decide (0=j))) (q1:kitOne K (.ref C) (.ref c1)=some (decide (1=j))) (q2:kitOne K (.ref C) (.ref c2)=some (decide (2=j))) (q3:kitOne K (.ref C) (.ref c3)=some (decide (3=j))) (q4:kitOne K (.ref C) (.ref c4)=some (decide (4=j))) (q5:kitOne K (.ref C) (.ref c5)=some (decide (5=j))) (q6:kitOne K (.ref C) (.ref c6)=some (decide (6=j))) (q7:kitOne K (.ref C) (.ref c7)=some (decide (7=j))) (q8:kitOne K (.ref C) (.ref c8)=some (decide (8=j))) (q9:kitOne K (.ref C) (.ref c9)=some (decide (9=j))) (q10:kitOne K (.ref C) (.ref c10)=some (decide (10=j))) (q11:kitOne K (.ref C) (.ref c11)=some (decide (11=j))) (q12:kitOne K (.ref C) (.ref c12)=some (decide (12=j))) :
  ∀i d,([c0,c1,c2,c3,c4,c5,c6,c7,c8,c9,c10,c11,c12]:List Addr)[i]?=some d->kitOne K (.ref C) (.ref d)=some (decide (i=j)):=λi d h=>by
 match i,h with
 | 0,h=>cases h;exact q0
 | 1,h=>cases h;exact q1
 | 2,h=>cases h;exact q2
 | 3,h=>cases h;exact q3
 | 4,h=>cases h;exact q4
 | 5,h=>cases h;exact q5
 | 6,h=>cases h;exact q6
 | 7,h=>cases h;exact q7
 | 8,h=>cases h;exact q8
 | 9,h=>cases h;exact q9
 | 10,h=>cases h;exact q10
 | 11,h=>cases h;exact q11
 | 12,h=>cases h;exact q12
 | n+13,h=>cases h
structure FnI (K:YD) (x:Str) (st:Stmt):Prop where
 ex:∃(f:Addr) (oc:Value) (od an:Option Addr) (sl:YI) (kV dc pm cd ct:Value),nsIn K mainGlobals x=some (some (.ref f))/\K.lookup f=some ⟨oc,od,.func (fnOf x x (Gv st) (Ei st) (Ar st) .none kV dc pm an cd ct),sl⟩/\codeIn K cd x=true/\keepIn K (.ref f)=true
theorem FnI.of {K:YD} {x:Str} {st:Stmt} {f:Addr} {oc:Value} {od an:Option Addr} {sl:YI} {kV dc pm cd ct:Value} (a:nsIn K mainGlobals x=some (some (.ref f))) (l:K.lookup f=some ⟨oc,od,.func (fnOf x x (Gv st) (Ei st) (Ar st) .none kV dc pm an cd ct),sl⟩) (c:codeIn K cd x=true) (k:keepIn K (.ref f)=true):FnI K x st:=⟨f,oc,od,an,sl,kV,dc,pm,cd,ct,a,l,c,k⟩
theorem FnI.code {K:YD} {mg:YB} {h:Heap} {x:Str} {st:Stmt} {ps:YF} (I:FnI K x st) (X:K.In h) (G:h.Ns mainGlobals mg) (hb:∀(kV doc pm:Value) (an:Option Addr) (cdv ct:Value) (us:YE),us.length=ps.length->bindArgs (fnOf x x (Gv st) (Ei st) (Ar st) .none kV doc pm an cdv ct) ⟨us,[]⟩=pure (ps.zip us)):Code K mg x st ps:=by
 obtain⟨f,oc,od,an,sl,kV,dc,pm,cd,ct,a,l,c,k⟩:=I.ex;exact Code.of X G a l c k hb
def j6:YF->(YE->Prop)->Prop
 | [],P=>P []
 | _::r,P=>∀a,j6 r λt=>P (a::t)
theorem Zq:∀(ps:YF) {P:YE->Prop},j6 ps P->∀us:YE,us.length=ps.length->P us
 | [],_,h,[],_=>h
 | _::r,_,h,a::t,e=>Zq r (h a) t (Nat.succ.inj e)
theorem fnA {F:Value->Value->Value->Option Addr->Value->Value->FuncData} {ps:YF} (h:∀kV dc pm an cd ct,j6 ps λus=>bindArgs (F kV dc pm an cd ct) ⟨us,[]⟩=pure (ps.zip us)) (kV dc pm:Value) (an:Option Addr) (cd ct:Value) (us:YE) (hu:us.length=ps.length):bindArgs (F kV dc pm an cd ct) ⟨us,[]⟩=pure (ps.zip us):=Zq ps (h kV dc pm an cd ct) us hu
theorem all_mk {l:PySem.W.OpenLaw} {w:World} {K:YD} {h:Heap} {mg:YB} {fa fl:Addr} (X:K.In h) (G:h.Ns mainGlobals mg) (hfa:mg "law"=some (.ref fa))
  {odl anl:Option Addr} {sll:YI} {ocl kVl dcl pml cdl ctl:Value}
  (i0:FnI K "is_whole" Ny)
  (i1:FnI K "is_within" Mt)
  (i2:FnI K "is_row" QW)
  (i3:FnI K "is_name" O4)
  (i4:FnI K "is_plain" NK)
  (i5:FnI K "is_form" O5)
  (i6:FnI K "inner_ones" Lb)
  (i7:FnI K "is_condition" Jz)
  (i8:FnI K "is_rule" O2)
  (i9:FnI K "is_rules" Nz)
  (i10:FnI K "take_word" Mp)
  (i11:FnI K "take_words" Jo)
  (i12:FnI K "read_number" Im)
  (i13:FnI K "show_condition" Iw)
  (i14:FnI K "show_rules" K9)
  (i15:FnI K "read_leaf" JV)
  (i16:FnI K "read_pair" GX)
  (i17:FnI K "read_condition" Ed)
  (i18:FnI K "read_row" KJ)
  (i19:FnI K "read_rules" Jp)
  (i20:FnI K "_law_bag" SX)
  (i21:FnI K "_law_take" QS)
  (i22:FnI K "_law_name" Nx)
  (i23:FnI K "_law_names" Mg)
  (i24:FnI K "_law_leaf" QT)
  (i25:FnI K "_law_condition" Ky)
  (i26:FnI K "_law_rules" O1)
  (i27:FnI K "_law_text" QM)
  (i28:FnI K "_law_rules_text" Jy)
  (i29:FnI K "_law_kind" QV)
  (i30:FnI K "_law_is" Wb)
  (i31:FnI K "_law_is_name" Mq)
  (i32:FnI K "_law_counted" Mr)
  (i33:FnI K "_law_is_rules" La)
  (i34:FnI K "_law_read" Nv)
  (i35:FnI K "_law_changed" Ms)
  (i36:FnI K "_law_wrong" Kf)
  (i37:FnI K "_law_wide" QL)
  (al:nsIn K mainGlobals "law"=some (some (.ref fl))) (ll:K.lookup fl=some ⟨ocl,odl,.func (fnOf "law" "law" (Gv KN) (Ei KN) (Ar KN) .none kVl dcl pml anl cdl ctl),sll⟩) (cl:codeIn K cdl "law"=true) (kl:keepIn K (.ref fl)=true)
  (z0:nsIn K mainGlobals "isinstance"=some none)
  (z1:nsIn K mainGlobals "int"=some none)
  (z2:nsIn K mainGlobals "bool"=some none)
  (z3:nsIn K mainGlobals "tuple"=some none)
  (z4:nsIn K mainGlobals "list"=some none)
  (z5:nsIn K mainGlobals "str"=some none)
  (z6:nsIn K mainGlobals "len"=some none)
  (z7:nsIn K mainGlobals "all"=some none)
  (z8:nsIn K mainGlobals "abs"=some none)
  (z9:nsIn K mainGlobals "max"=some none)
  (z10:nsIn K mainGlobals "min"=some none)
  (z11:nsIn K mainGlobals "range"=some none)
  (z12:nsIn K mainGlobals "sorted"=some none)
  (z13:nsIn K mainGlobals "any"=some none)
  (z14:nsIn K mainGlobals "sum"=some none)
  (z15:nsIn K mainGlobals "enumerate"=some none)
  (z16:nsIn K mainGlobals "zip"=some none)
  (z17:nsIn K mainGlobals "reversed"=some none)
  (z18:nsIn K mainGlobals "dict"=some none)
  (z19:nsIn K mainGlobals "ord"=some none)
  (z20:nsIn K mainGlobals "set"=some none)
  {vR tkD tkC:Tok} {wA:Addr} {esW:Array DictEntry} {nW:Nat} {tkK tkT tkH tkN tkF:Tok} {hc u0 u1 u2 u3 u4 u5 u6 u7 u8 u9 u10 u11 u12:Addr}
  (aSL:nsIn K mainGlobals "SMALL_LETTERS"=some (some (.str "abcdefghijklmnopqrstuvwxyz" vR)))
  (aMD:nsIn K mainGlobals "MOST_DEEP"=some (some (.int 6 tkD)))
  (aMC:nsIn K mainGlobals "MOST_CONDITIONS"=some (some (.int 20 tkC)))
  (yw:nsIn K mainGlobals "WORDS_BEHIND"=some (some (.ref wA)))
  (ylw:K.lookup wA=some ⟨.type "dict",none,.dict esW nW,#[]⟩)
  (ykw:PySem.W.KeysLit w.params esW.toList)
  (yow:(wA == sysModules)=false)
  (yk1:nsIn K wA "key"=some (some (.int 1 tkK)))
  (yt1:nsIn K wA "term"=some (some (.int 1 tkT)))
  (yh3:nsIn K wA "hours"=some (some (.int 3 tkH)))
  (yd1:nsIn K wA "1"=some none)
  (yd2:nsIn K wA "2"=some none)
  (yd3:nsIn K wA "3"=some none)
  (yd4:nsIn K wA "4"=some none)
  (yd5:nsIn K wA "5"=some none)
  (yd6:nsIn K wA "6"=some none)
  (yd7:nsIn K wA "7"=some none)
  (yd8:nsIn K wA "8"=some none)
  (yd9:nsIn K wA "9"=some none)
  (yn2:nsIn K mainGlobals "WORDS_BEHIND_NUMBER"=some (some (.int 2 tkN)))
  (yfg:nsIn K mainGlobals "FIGURES"=some (some (.str "0123456789" tkF)))
  (xzv:nsIn K mainGlobals "ValueError"=some none)
  (xeh:nsIn K mainGlobals "HouseError"=some (some (.ref hc)))
  (xe0:nsIn K mainGlobals "NoPlan"=some (some (.ref u0)))
  (xe1:nsIn K mainGlobals "NoText"=some (some (.ref u1)))
  (xe2:nsIn K mainGlobals "NoStretch"=some (some (.ref u2)))
  (xe3:nsIn K mainGlobals "NoSpot"=some (some (.ref u3)))
  (xe4:nsIn K mainGlobals "NoOpener"=some (some (.ref u4)))
  (xe5:nsIn K mainGlobals "NoAddress"=some (some (.ref u5)))
  (xe6:nsIn K mainGlobals "NoRules"=some (some (.ref u6)))
  (xe7:nsIn K mainGlobals "NoHand"=some (some (.ref u7)))
  (xe8:nsIn K mainGlobals "NoPanel"=some (some (.ref u8)))
  (xe9:nsIn K mainGlobals "NoLink"=some (some (.ref u9)))
  (gD:nsIn K mainGlobals "NoLog"=some (some (.ref u10)))
  (gA:nsIn K mainGlobals "NoDeed"=some (some (.ref u11)))
  (gw:nsIn K mainGlobals "NoRow"=some (some (.ref u12)))
  (xhx:excIn K hc [.type "ValueError",.type "Exception",.type "BaseException",.type "object"] "ValueError.__new__"=true)
  (xha:findIn K (.ref hc) "__getattribute__"=some (some (.builtin "BaseException.__getattribute__")))
  (xhn:findIn K (.ref hc) "__getattr__"=some none)
  (xhc:findIn K (.ref hc) "__class__"=some (some (.builtin "object.__class__")))
  (xho:subIn K (.ref hc) (.type "object")=some true)
  (xhb:subIn K (.ref hc) (.type "BaseException")=some true)
  (xhk:keepIn K (.ref hc)=true)
  (ju:excIn K u1 [.type "ValueError",.type "Exception",.type "BaseException",.type "object"] "ValueError.__new__"=true)
  (jC:findIn K (.ref u1) "__getattribute__"=some (some (.builtin "BaseException.__getattribute__")))
  (jy:findIn K (.ref u1) "__getattr__"=some none)
  (jA:findIn K (.ref u1) "__class__"=some (some (.builtin "object.__class__")))
  (jx:subIn K (.ref u1) (.type "object")=some true)
  (jB:subIn K (.ref u1) (.type "BaseException")=some true)
  (jz:keepIn K (.ref u1)=true)
  (jc:subIn K (.ref u1) (.ref hc)=some true)
  (jr:kitOne K (.ref u1) (.ref u0)=some false)
  (jq:kitOne K (.ref u1) (.ref u1)=some true)
  (jo:kitOne K (.ref u1) (.ref u2)=some false)
  (jm:kitOne K (.ref u1) (.ref u3)=some false)
  (jk:kitOne K (.ref u1) (.ref u4)=some false)
  (jj:kitOne K (.ref u1) (.ref u5)=some false)
  (ji:kitOne K (.ref u1) (.ref u6)=some false)
  (jh:kitOne K (.ref u1) (.ref u7)=some false)
  (jg:kitOne K (.ref u1) (.ref u8)=some false)
  (jf:kitOne K (.ref u1) (.ref u9)=some false)
  (aF:kitOne K (.ref u1) (.ref u10)=some false)
  (aD:kitOne K (.ref u1) (.ref u11)=some false)
  (aC:kitOne K (.ref u1) (.ref u12)=some false)
  (je:kitOne K (.ref u1) (.type "ValueError")=some true)
  (yWK:mC esW.toList)
  : ∃fd:FuncData,(∀(s:Shared) (v:Value),BindsTo s fd ⟨[v],[]⟩ [("_law_script",v)])/\∀base:Heap,K.In base->base.Ns mainGlobals mg->Jw l.prog w K mg base CX0 22 fa fd lW (Vn K):=by
 have e:=hfa.symm.trans (mg_of X G al);cases e;have TN:Nm mg:=⟨mg_none_of X G z0,mg_none_of X G z1,mg_none_of X G z2,mg_none_of X G z3,mg_none_of X G z4,mg_none_of X G z5,mg_none_of X G z6,mg_none_of X G z7,mg_none_of X G z8,mg_none_of X G z9,mg_none_of X G z10,mg_none_of X G z11,mg_none_of X G z12,mg_none_of X G z13,mg_none_of X G z14,mg_none_of X G z15,mg_none_of X G z16,mg_none_of X G z17,mg_none_of X G z18,mg_none_of X G z19,mg_none_of X G z20⟩;have TC:Tc mg:={ toNm:=TN,SMALL_LETTERS:=⟨_,mg_of X G aSL,⟨_,rq⟩⟩,MOST_DEEP:=⟨_,mg_of X G aMD,⟨_,rq⟩⟩,MOST_CONDITIONS:=⟨_,mg_of X G aMC,⟨_,rq⟩⟩ };have TX:Tx K w.params mg wA:={ toTc:=TC,WORDS_BEHIND:=⟨_,mg_of X G yw,rq⟩,dw:=⟨⟨_,_,ylw,ykw⟩,yow⟩,dk:=⟨_,yk1⟩,dt:=⟨_,yt1⟩,dh:=⟨_,yh3⟩,dn:=vG yd1 yd2 yd3 yd4 yd5 yd6 yd7 yd8 yd9,WORDS_BEHIND_NUMBER:=⟨_,mg_of X G yn2,⟨_,rq⟩⟩,FIGURES:=⟨_,mg_of X G yfg,⟨_,rq⟩⟩ };have XE:Er K mg hc u0 u1 u2 u3 u4 u5 u6 u7 u8 u9 u10 u11 u12:=⟨mg_none_of X G xzv,mg_of X G xeh,⟨xhx,xha,xhn,xhc,xho,xhb,xhk⟩,mg_of X G xe0,mg_of X G xe1,mg_of X G xe2,mg_of X G xe3,mg_of X G xe4,mg_of X G xe5,mg_of X G xe6,mg_of X G xe7,mg_of X G xe8,mg_of X G xe9,mg_of X G gD,mg_of X G gA,mg_of X G gw⟩;have Dm:Knd K hc u1 [u0,u1,u2,u3,u4,u5,u6,u7,u8,u9,u10,u11,u12] 1:=⟨⟨ju,jC,jy,jA,jx,jB,jz⟩,jc,uY (j:=1) jr jq jo jm jk jj ji jh jg jf aF aD aC,je⟩;have TZ:Tz K w.params mg wA:={ toTx:=TX,dz:=λz h1 h2 h3=>Z8 ylw yWK h1 h2 h3 };have aZ:=i0.code (ps:=Jr) X G (fnA λ_ _ _ _ _ _ _=>rfl);have Yj:=i1.code (ps:=Ge) X G (fnA λ_ _ _ _ _ _ _ _ _=>rfl);have kO:=i2.code (ps:=Hq) X G (fnA λ_ _ _ _ _ _ _ _ _=>rfl);have gj:=i3.code (ps:=Jh) X G (fnA λ_ _ _ _ _ _ _=>rfl);have bh:=i4.code (ps:=Js) X G (fnA λ_ _ _ _ _ _ _=>rfl);have gk:=i5.code (ps:=Kp) X G (fnA λ_ _ _ _ _ _ _=>rfl);have Xy:=i6.code (ps:=Hr) X G (fnA λ_ _ _ _ _ _ _=>rfl);have Ub:=i7.code (ps:=Gp) X G (fnA λ_ _ _ _ _ _ _=>rfl);have gb:=i8.code (ps:=Ko) X G (fnA λ_ _ _ _ _ _ _=>rfl);have bf:=i9.code (ps:=Hy) X G (fnA λ_ _ _ _ _ _ _=>rfl);have Ye:=i10.code (ps:=Dq) X G (fnA λ_ _ _ _ _ _ _=>rfl);have PB:=i11.code (ps:=Df) X G (fnA λ_ _ _ _ _ _ _ _=>rfl);have Ou:=i12.code (ps:=Ck) X G (fnA λ_ _ _ _ _ _ _=>rfl);have Rm:=i13.code (ps:=Fv) X G (fnA λ_ _ _ _ _ _ _=>rfl);have Xv:=i14.code (ps:=Gm) X G (fnA λ_ _ _ _ _ _ _=>rfl);have QG:=i15.code (ps:=DP) X G (fnA λ_ _ _ _ _ _ _=>rfl);have QF:=i16.code (ps:=DN) X G (fnA λ_ _ _ _ _ _ _ _=>rfl);have Mf:=i17.code (ps:=Bv) X G (fnA λ_ _ _ _ _ _ _ _=>rfl);have Sx:=i18.code (ps:=FZ) X G (fnA λ_ _ _ _ _ _ _=>rfl);have PK:=i19.code (ps:=Em) X G (fnA λ_ _ _ _ _ _ _=>rfl);have pF:=i20.code (ps:=Nf) X G (fnA λ_ _ _ _ _ _ _ _=>rfl);have kj:=i21.code (ps:=Fw) X G (fnA λ_ _ _ _ _ _ _ _=>rfl);have kE:=i22.code (ps:=JF) X G (fnA λ_ _ _ _ _ _ _=>rfl);have fZ:=i23.code (ps:=Km) X G (fnA λ_ _ _ _ _ _ _ _=>rfl);have kI:=i24.code (ps:=Lg) X G (fnA λ_ _ _ _ _ _ _ _ _ _=>rfl);have Vj:=i25.code (ps:=Ez) X G (fnA λ_ _ _ _ _ _ _ _ _ _ _=>rfl);have fY:=i26.code (ps:=Kl) X G (fnA λ_ _ _ _ _ _ _=>rfl);have kh:=i27.code (ps:=Lf) X G (fnA λ_ _ _ _ _ _ _=>rfl);have Ua:=i28.code (ps:=Gn) X G (fnA λ_ _ _ _ _ _ _=>rfl);have kJ:=i29.code (ps:=JG) X G (fnA λ_ _ _ _ _ _ _=>rfl);have uw:=i30.code (ps:=Nb) X G (fnA λ_ _ _ _ _ _ _ _ _=>rfl);have Yg:=i31.code (ps:=G4) X G (fnA λ_ _ _ _ _ _ _=>rfl);have Yh:=i32.code (ps:=Gd) X G (fnA λ_ _ _ _ _ _ _ _=>rfl);have Xx:=i33.code (ps:=Ho) X G (fnA λ_ _ _ _ _ _ _=>rfl);have Xw:=i34.code (ps:=Hl) X G (fnA λ_ _ _ _ _ _ _=>rfl);have Yi:=i35.code (ps:=Ij) X G (fnA λ_ _ _ _ _ _ _ _=>rfl);have fX:=i36.code (ps:=Kh) X G (fnA λ_ _ _ _ _ _ _ _=>rfl);have j9:=i37.code (ps:=Iz) X G (fnA λ_ _ _ _ _ _ _=>rfl);have vM:=eH (st:=KN) ll cl kl;refine⟨fnOf "law" "law" (Gv KN) (Ei KN) (Ar KN) .none kVl dcl pml anl cdl ctl,λs v=>.of_eq rfl,λbase _ _=>?_⟩;have TQ:=iG (P:=l.prog) (w:=w) (base:=base) pF TN;have Bj:=cT (P:=l.prog) (w:=w) (base:=base) kj TN;have g_w:=Wu (P:=l.prog) (w:=w) (base:=base) aZ TN;have g_r:=cU (P:=l.prog) (w:=w) (base:=base) kO TN;have jJ:=Vb (P:=l.prog) (w:=w) (base:=base) Yj TN g_w;have rR:=Z5 (P:=l.prog) (w:=w) (base:=base) gj TC;have zx:=XS (P:=l.prog) (w:=w) (base:=base) bh TC g_r jJ;have zG:=Z6 (P:=l.prog) (w:=w) (base:=base) gk TC g_r jJ rR zx;have zF:=Vc (P:=l.prog) (w:=w) (base:=base) Xy TC;have zJ:=RL (P:=l.prog) (w:=w) (base:=base) Ub TC zG zF;have zf:=Z4 (P:=l.prog) (w:=w) (base:=base) gb TC g_r jJ rR zJ;have rQ:=XR (P:=l.prog) (w:=w) (base:=base) bf TC g_r zf;have rT:=nJ (P:=l.prog) (w:=w) (base:=base) kE TN Bj;have zy:=iD (P:=l.prog) (w:=w) (base:=base) fZ TN rT;have za:=nG (P:=l.prog) (w:=w) (base:=base) Rm TC 6;have rP:=U6 (P:=l.prog) (w:=w) (base:=base) Xv za;have TF:=Wo (P:=l.prog) (w:=w) (base:=base) Ye TX;have rO:=U5 (P:=l.prog) (w:=w) (base:=base) PB TX TF;have jK:=Ti (P:=l.prog) (w:=w) (base:=base) Ou TX;have zp:=Wr (P:=l.prog) (w:=w) (base:=base) QG TX TF rO jK;have zu:=uU (P:=l.prog) (w:=w) (base:=base) Mf QF TX TF rO jK zp 6;have zm:=XM (P:=l.prog) (w:=w) (base:=base) Sx TX zu jK;have zq:=U8 (P:=l.prog) (w:=w) (base:=base) PK TX zm rQ rP;have zE:=nM (P:=l.prog) (w:=w) (base:=base) kI TC Bj;have zL:=nQ (P:=l.prog) (w:=w) (base:=base) Vj TC Bj zE 5;have zB:=iB (P:=l.prog) (w:=w) (base:=base) fY TC Bj rT zy zL;have yZ:=nF (P:=l.prog) (w:=w) (base:=base) kh TC 6;have zj:=U7 (P:=l.prog) (w:=w) (base:=base) Ua TC yZ;have h_kind:=nP (P:=l.prog) (w:=w) (base:=base) kJ TN XE;have aM:=RK (P:=l.prog) (w:=w) (base:=base) Ou TX;have mq:=Tf (P:=l.prog) (w:=w) (base:=base) PB TX TF;have vp:=U9 (P:=l.prog) (w:=w) (base:=base) QG TZ TF mq aM;have vC:=qU (P:=l.prog) (w:=w) (base:=base) Mf QF TZ XE Dm TF mq aM vp 7;have vo:=Wq (P:=l.prog) (w:=w) (base:=base) Sx TZ vC aM;have vB:=Tg (P:=l.prog) (w:=w) (base:=base) PK TZ XE Dm vo rQ rP;have vq:=Z1 (P:=l.prog) (w:=w) (base:=base) Xw TN XE Dm vB h_kind;have vA:=Z2 (P:=l.prog) (w:=w) (base:=base) Xw TN XE zq h_kind;have rY:=nO (P:=l.prog) (w:=w) (base:=base) uw TC;have rW:=Ws (P:=l.prog) (w:=w) (base:=base) Yg TC;have zH:=Z7 (P:=l.prog) (w:=w) (base:=base) Yh TC rY rW 6;have zA:=Va (P:=l.prog) (w:=w) (base:=base) Xx TC rY rW zH;have yX:=cR (P:=l.prog) (w:=w) (base:=base) j9 11;have zK:=Wt (P:=l.prog) (w:=w) (base:=base) Yi TN Bj;have yW:=Z0 (P:=l.prog) (w:=w) (base:=base) fX TN Bj;exact qW vM TX TQ Bj zB zj yW zK yX zA vq vA
theorem walk {l:PySem.W.OpenLaw} {q:Program} {loose:YF} {XP:(YB)->Heap->Prop} {YP:World->Heap->Prop} {d:DefRec} {K:Params->YD} (hn:l.most=some 63) (hdf:d.params.defaults=[])
  (hY:∀(w:World) (h:Heap),YP w h->(K w.params).In h)
  (F:∀(w:World) (mg:YB) (fa:Addr) (h:Heap),(K w.params).In h->h.Ns mainGlobals mg->mg d.name=some (.ref fa) ->
   ∃fd:FuncData,(∀(s:Shared) (u:Value),BindsTo s fd ⟨[u],[]⟩ [("_law_script",u)])/\∀base:Heap,(K w.params).In base->base.Ns mainGlobals mg->Jw l.prog w (K w.params) mg base CX0 22 fa fd lW (Vn (K w.params))) :
  PySem.W.WalkO q loose XP YP l.row.toRowW d [] (λf vs=>PySem.call f vs):=
 L2.mJ (n:=63) (k:=22) (x:="_law_script") (CX:=λ_=>CX0) (sp:=λw=>Vn (K w.params)) hn (by decide) hdf ⟨rq,by decide,by decide,rq⟩ hY F (λ_ _ a ns hl _ hS=>⟨a,ns,rq,hS,hl,λ_=>rfl⟩) λ_ _ _ _ _ z=>z
end K29
/-! names that stay free of quick twins: the head comes through without them, and the compiled text is much smaller -/
namespace PySem.W.Fast
def tw16918310830034761871:=0
def tw7522878964350049851:=0
def tw6081150854040570065:=0
def tw6551197430207105942:=0
def tw5617600562709394436:=0
def tw14008101492074739983:=0
def tw12550810949979220880:=0
def tw3167195001377497233:=0
def tw7188452921598877186:=0
def tw880853922199459938:=0
def tw10159929504278050524:=0
def tw1920157473748980265:=0
def tw4129779551190466891:=0
def tw5203223263838748236:=0
def tw2047412396378705761:=0
def tw8920303099673010726:=0
def tw3675194406531398560:=0
def tw11657872307953768337:=0
def tw13303850427576862117:=0
def tw17231439649640422045:=0
def tw11196541499361885118:=0
def tw6588133573179862926:=0
def tw4473575436575103277:=0
def tw17852593777333010669:=0
def tw8340427055154788752:=0
def tw9026790758566409738:=0
def tw3573217943010808031:=0
def tw15809057122466061086:=0
def tw8883941911969173563:=0
def tw16294717688059156781:=0
def tw2787691949929177489:=0
def tw2556971271803986863:=0
def tw15318572802928423331:=0
def tw4538200828727042871:=0
def tw14298279401978407956:=0
def tw5087572168920786951:=0
def tw12952659918080029177:=0
def tw2609358291934155418:=0
def tw12823980356263912938:=0
def tw13122819994296121955:=0
def tw6557205860354951846:=0
def tw2138511796777900178:=0
def tw17674825469969760950:=0
def tw10196983037368306113:=0
def tw16200617051988922701:=0
def tw11510493882124801485:=0
def tw12713533034240764357:=0
def tw14905539161787660539:=0
def tw614254614926061571:=0
def tw10049982978172081042:=0
def tw3596166339126326854:=0
def tw9019975727437631226:=0
def tw16675224787475704167:=0
def tw13329793788848972982:=0
def tw1881497861293926440:=0
def tw5361882235182616014:=0
def tw15961702806694804171:=0
def tw4372482858298831694:=0
def tw55443395677646767:=0
def tw7139059315316988604:=0
def tw11147387574447894680:=0
def tw5686253320483838216:=0
def tw922491011180155138:=0
def tw12656294846580264368:=0
def tw10741403086324208155:=0
def tw16371305769174703219:=0
def tw8603861852888300571:=0
def tw15202824100296806415:=0
def tw6149915440526542290:=0
def tw10036216801854871912:=0
def tw5947774587769888459:=0
def tw9303868253589297572:=0
def tw5941536309776006276:=0
def tw16460381306874437289:=0
def tw9805848269878660972:=0
def tw8741562062228613366:=0
def tw8733036928649811529:=0
def tw4674628379046780445:=0
def tw14362721533267333857:=0
def tw18382652539654147959:=0
def tw12920350366636841366:=0
def tw15605536145406231630:=0
def tw17693619445804342651:=0
def tw17613089530042170307:=0
def tw7089176209601933211:=0
def tw4372325339142214648:=0
def tw185769736607545636:=0
def tw9269118240843587181:=0
def tw4595611046392577042:=0
def tw10423623294000537044:=0
def tw13248594658487083410:=0
def tw6545039838596021419:=0
def tw13053718338662006353:=0
def tw174765047603381886:=0
def tw18299031527845083306:=0
def tw15863253835501530962:=0
def tw6054993124165884856:=0
def tw15847611119204993976:=0
def tw13358727017036062268:=0
def tw5404717332486317296:=0
def tw3928787666072159205:=0
def tw10744274385272593464:=0
def tw345615351766051771:=0
def tw15531040340681440779:=0
def tw17803022620342075224:=0
def tw11870900288908910937:=0
def tw17403482439231038455:=0
def tw6641602262537746359:=0
def tw11172171440264414992:=0
def tw7894958351898987957:=0
def tw12940166695194828877:=0
def tw3778722653508079174:=0
def tw2652969356025009815:=0
def tw9965521185366201256:=0
def tw7578835083497748498:=0
def tw17800790871308702374:=0
def tw13747872710616022353:=0
def tw7265071721487196710:=0
def tw715354708658191420:=0
def tw17451781325355946503:=0
def tw11472888197566541873:=0
def tw10928688208704402534:=0
def tw3500452401278740163:=0
def tw14602604649770972606:=0
def tw15824475959332121707:=0
def tw4988569731489927271:=0
def tw6850996806497060036:=0
def tw185486454303067348:=0
def tw14986861833751369597:=0
def tw14416829407381899603:=0
def tw6799086752679233540:=0
def tw9304921239727470504:=0
def tw161392250360743752:=0
def tw14947855544641515991:=0
def tw13876840429583186677:=0
def tw11264569364937017262:=0
def tw4556272012675694220:=0
def tw15994425639615899557:=0
def tw1791089898091350652:=0
def tw15765210183458546113:=0
def tw12693094300049723807:=0
def tw6006682650294628765:=0
def tw9732353003325744081:=0
def tw5636549876149503310:=0
def tw11870633594834578857:=0
def tw16240662667224144593:=0
def tw960204452436100353:=0
def tw7976903838725139128:=0
def tw6958098524336642028:=0
def tw5170774710493157055:=0
def tw457187803229211896:=0
def tw3502999299220934443:=0
def tw2916145637817284441:=0
def tw2129004629144850943:=0
def tw2046838250482496478:=0
def tw18054976743182954822:=0
def tw15091086616418633521:=0
def tw2074779343450018585:=0
def tw12384940662271750790:=0
def tw8695650941502145704:=0
def tw494365753574652910:=0
def tw12355244635082659276:=0
def tw14570402783160065008:=0
def tw10779362306674703800:=0
def tw5423261243010576093:=0
def tw10853139697268550442:=0
def tw13752572453709872954:=0
def tw156790496659377675:=0
def tw3975609097592983446:=0
def tw4871422377326525942:=0
def tw3630099464053760902:=0
def tw7875332309290990536:=0
def tw8952804124234437462:=0
def tw14531554516250905448:=0
def tw9669173087062535387:=0
def tw6075570991258215074:=0
def tw13266794679027816447:=0
def tw10781094170265578069:=0
def tw4170610904110970031:=0
def tw3780048642888470854:=0
def tw17422150532144521176:=0
def tw13223377093135656594:=0
def tw15631081118834569269:=0
def tw6083468531417350661:=0
def tw9518126785628637311:=0
def tw11203402168148096850:=0
def tw3565999685682771539:=0
def tw1290914202298500148:=0
def tw2257647304474578561:=0
def tw751049994388456702:=0
def tw18396736483552679962:=0
def tw1771244037768741214:=0
def tw15407433395900687035:=0
def tw13480216241760057133:=0
def tw15841196192074040676:=0
def tw15033910805168849376:=0
def tw8024975458683314956:=0
def tw351009792252876706:=0
def tw2178219692323082778:=0
def tw14781821183441895329:=0
def tw322784750755370792:=0
def tw15595186409966029851:=0
def tw12699674102341540298:=0
def tw9112027967369699887:=0
def tw9695196782434866151:=0
def tw7250915200457910494:=0
def tw522696725288141946:=0
def tw3727585495925154354:=0
def tw3145067025399733918:=0
def tw2427768522661114933:=0
def tw11406176630026528919:=0
def tw2930269884558856086:=0
def tw17760588183036565411:=0
def tw16372792661735633047:=0
def tw14324493640886013792:=0
def tw12217041364924337755:=0
def tw7158791423984159063:=0
def tw8794675088258828234:=0
def tw6365515127507211366:=0
def tw2785842147064370969:=0
def tw3522800401536511580:=0
def tw2955914204435320381:=0
def tw10915345741568555502:=0
def tw14088985282159921312:=0
def tw2860037430766166904:=0
def tw13744388219048545539:=0
def tw8297965008537491012:=0
def tw16290337349311033415:=0
def tw9783355241694827359:=0
def tw14716241973537726515:=0
def tw289233250219101835:=0
def tw7338826651512957508:=0
def tw3233795080822735048:=0
def tw147591234279992701:=0
def tw9893374155337166958:=0
def tw7743511997374175815:=0
def tw16598106647921664477:=0
def tw15081291323574750626:=0
def tw7223438569516839339:=0
def tw12900499386497083524:=0
def tw6069911495029051851:=0
def tw12318633869380110388:=0
def tw8098770675349304414:=0
def tw12120049988677413221:=0
def tw15242991711046787701:=0
def tw9954604355267379913:=0
def tw9140764153686558646:=0
def tw11279319889131565652:=0
def tw3113694612191487517:=0
def tw12015769431366837664:=0
def tw15381668602080687199:=0
def tw5081172697438028769:=0
def tw6171741306549090583:=0
def tw11209537859374227642:=0
def tw9880813042058044433:=0
def tw17206367975077955416:=0
def tw5483643054817955470:=0
def tw48677906402363768:=0
def tw2650220536249638004:=0
def tw18394189577909751275:=0
def tw16738947556961909056:=0
def tw7245725658608874232:=0
def tw4107313096958426702:=0
def tw10171546760166945724:=0
def tw3637453809224985643:=0
def tw1975969052963047084:=0
def tw9674885756813641171:=0
def tw9513578943309050894:=0
def tw5398659816853638799:=0
def tw4185056833797687905:=0
def tw3513831093938915558:=0
def tw17175041701515486589:=0
def tw12981378595489107494:=0
def tw12277234185014909717:=0
def tw11964262254064525776:=0
def tw11567438033641177037:=0
def tw10817512917285716137:=0
def tw10675755024973789920:=0
def tw10586230100361054656:=0
def tw10153684643122351600:=0
def tw13157198803085011451:=0
def tw14181952127530928703:=0
end PySem.W.Fast
open PySem PySem.W PyProof.Rows
set_option maxRecDepth 100000 in
set_option maxHeartbeats 0 in
theorem PySem.Challenge.cw_warnloop_k29_texts_of_no_rules_holds : PySem.Challenge.rw_warnloop_k29_texts_of_no_rules.Holds := by
 w_on;o_law;k_head;(case hw=>w_witness2)
 k_fill
 refine K29.walk (l:=PySem.Challenge.rw_warnloop_k29_texts_of_no_rules) rfl rfl (λw h Y=>PySem.W.kIn_of Y) ?F
 case F=>
  intro w mg fa h KX G hmg
  refine' K29.all_mk KX G hmg (.of ?ai0 ?li0 ?ci0 ?ki0) (.of ?ai1 ?li1 ?ci1 ?ki1) (.of ?ai2 ?li2 ?ci2 ?ki2) (.of ?ai3 ?li3 ?ci3 ?ki3) (.of ?ai4 ?li4 ?ci4 ?ki4) (.of ?ai5 ?li5 ?ci5 ?ki5) (.of ?ai6 ?li6 ?ci6 ?ki6) (.of ?ai7 ?li7 ?ci7 ?ki7) (.of ?ai8 ?li8 ?ci8 ?ki8) (.of ?ai9 ?li9 ?ci9 ?ki9) (.of ?BQ ?xT ?AT ?yM) (.of ?BO ?xR ?AS ?yL) (.of ?BN ?xQ ?AR ?yK) (.of ?BM ?xP ?AQ ?yJ) (.of ?BI ?xO ?AO ?yI) (.of ?BH ?xM ?AN ?yH) (.of ?BG ?xK ?AM ?yG) (.of ?BF ?xJ ?AL ?yF) (.of ?BE ?xH ?AK ?yE) (.of ?BC ?xG ?AJ ?yD) (.of ?BB ?xu ?AI ?yC) (.of ?BA ?xq ?AH ?yx) (.of ?Bz ?xg ?AG ?yu) (.of ?By ?wZ ?AF ?yt) (.of ?Bn ?wY ?AE ?yr) (.of ?Bi ?wX ?AD ?yq) (.of ?Be ?wW ?AC ?yp) (.of ?A9 ?wV ?AB ?yj) (.of ?A8 ?wU ?AA ?yh) (.of ?A7 ?wR ?Au ?yg) (.of ?A6 ?wQ ?As ?yd) (.of ?A5 ?wO ?Ap ?yc) (.of ?A4 ?wN ?An ?xZ) (.of ?A3 ?wM ?zZ ?xY) (.of ?A2 ?wL ?zY ?xX) (.of ?A1 ?wK ?zX ?xW) (.of ?A0 ?wJ ?zW ?xV) (.of ?AZ ?wI ?zV ?xU) ?al ?ll ?cl ?kl ?z0 ?z1 ?z2 ?z3 ?z4 ?z5 ?z6 ?z7 ?z8 ?z9 ?z10 ?z11 ?z12 ?z13 ?z14 ?z15 ?z16 ?z17 ?z18 ?z19 ?z20 ?aSL ?aMD ?aMC ?yw ?ylw ?ykw ?yow ?yk1 ?yt1 ?yh3 ?yd1 ?yd2 ?yd3 ?yd4 ?yd5 ?yd6 ?yd7 ?yd8 ?yd9 ?yn2 ?yfg ?xzv ?xeh ?xe0 ?xe1 ?xe2 ?xe3 ?xe4 ?xe5 ?xe6 ?xe7 ?xe8 ?xe9 ?gD ?gA ?gw ?xhx ?xha ?xhn ?xhc ?xho ?xhb ?xhk ?ju ?jC ?jy ?jA ?jx ?jB ?jz ?jc ?jr ?jq ?jo ?jm ?jk ?jj ?ji ?jh ?jg ?jf ?aF ?aD ?aC ?je ?yWK
  (case ai0 | li0 | ci0 | ki0 | ai1 | li1 | ci1 | ki1 | ai2 | li2 | ci2 | ki2 | ai3 | li3 | ci3 | ki3 | ai4 | li4 | ci4 | ki4 | ai5 | li5 | ci5 | ki5 | ai6 | li6 | ci6 | ki6 | ai7 | li7 | ci7 | ki7 | ai8 | li8 | ci8 | ki8 | ai9 | li9 | ci9 | ki9 | BQ | xT | AT | yM | BO | xR | AS | yL | BN | xQ | AR | yK | BM | xP | AQ | yJ | BI | xO | AO | yI | BH | xM | AN | yH | BG | xK | AM | yG | BF | xJ | AL | yF | BE | xH | AK | yE | BC | xG | AJ | yD | BB | xu | AI | yC | BA | xq | AH | yx | Bz | xg | AG | yu | By | wZ | AF | yt | Bn | wY | AE | yr | Bi | wX | AD | yq | Be | wW | AC | yp | A9 | wV | AB | yj | A8 | wU | AA | yh | A7 | wR | Au | yg | A6 | wQ | As | yd | A5 | wO | Ap | yc | A4 | wN | An | xZ | A3 | wM | zZ | xY | A2 | wL | zY | xX | A1 | wK | zX | xW | A0 | wJ | zW | xV | AZ | wI | zV | xU=>k_is)
  (case al | ll | cl | kl | z0 | z1 | z2 | z3 | z4 | z5 | z6 | z7 | z8 | z9 | z10 | z11 | z12 | z13 | z14 | z15 | z16 | z17 | z18 | z19 | z20 | aSL | aMD | aMC | yw | ylw=>k_is)
  (case ykw=>(dsimp only [PySem.W.KeysLit];exact⟨⟨_,_,rq,rq⟩,⟨_,_,rq,rq⟩,⟨_,_,rq,rq⟩,True.intro⟩))
  (case yow=>rfl)
  (case yk1 | yt1 | yh3 | yd1 | yd2 | yd3 | yd4 | yd5 | yd6 | yd7 | yd8 | yd9 | yn2 | yfg | xzv | xeh | xe0 | xe1 | xe2 | xe3 | xe4 | xe5 | xe6 | xe7 | xe8 | xe9 | gD | gA | gw=>k_is)
  (case xhx=>k_exc)
  (case xha | xhn | xhc | xho | xhb | xhk=>k_is)
  (case ju=>k_exc)
  (case jC | jy | jA | jx | jB | jz | jc=>k_is)
  (case jr | jq | jo | jm | jk | jj | ji | jh | jg | jf | aF | aD | aC | je=>kit_is)
  (case yWK=>(exact⟨_,_,_,_,_,_,rq,rq,rq,rq⟩))
