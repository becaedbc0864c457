import PyProof.Rows.All
import Wide.All
import OpenK.AllK
import Wide.FinOn
import Lean
import PyProof.EqAt
import PyProof.EqKinds
import PyProof.TupleCall
import PySem.Challenge.RW_warnloop_k06_texts_of_no_plan
set_option linter.all false
set_option Elab.async false
set_option maxRecDepth 100000
set_option maxHeartbeats 4000000
abbrev YA:=PySem.Value→PySem.Shared→Prop
abbrev YH:=Unit→PySem.Shared→Prop
abbrev YB:=PySem.Str→Option PySem.Value
abbrev YC:=List (PySem.Addr×PySem.Obj)
abbrev YD:=PySem.W.Frag
abbrev YI:=Array (Option PySem.Value)
abbrev YE:=List PySem.Value
abbrev YF:=List PySem.Str
abbrev YJ:=List PySem.Expr
theorem rq{α:Sort _}{a:α}:a=a:=rfl
local macro_rules|`(tactic|trivial)=>`(tactic|decide +kernel)
local macro_rules | `(tactic|ac_rfl) => `(tactic|exact ⟨rfl,rfl,rfl,by decide +kernel,rfl,by decide +kernel,by decide +kernel⟩)
open PySem.W (hideAll hideAll_get findIn kitOne kia_one keepIn fnOf codeIn nsIn mg_of excIn subIn looks_subIn mg_none_of)
abbrev Qaa:=@PyProof.Rows.slot_tupleiter_next
abbrev Qab:=@PyProof.Rows.slot_tuple_getitem
abbrev Qac:=@PyProof.Rows.callWith_type1
abbrev Qad:=@Array.getElem?_eq_some_iff
abbrev Qae:=@List.getElem?_append_right
abbrev Qaf:=@List.getElem?_eq_some_iff
abbrev Qag:=@List.getElem?_append_left
abbrev Qah:=@List.drop_eq_getElem_cons
abbrev Qai:=@PySem.F.slot_list_append
abbrev Qaj:=@PySem.F.type_list_append
abbrev Qak:=@List.getElem?_eq_getElem
abbrev Qal:=@PySem.F.slot_list_extend
abbrev Qam:=@PySem.F.type_list_extend
abbrev Qan:=@PySem.F.plainAttrs_list
abbrev Qao:=@PySem.wpAny_callSpecial?_slot
abbrev Qap:=@PySem.wpAny_getItem_str_slice
abbrev Qaq:=@List.length_eq_zero_iff
abbrev Qar:=@PySem.Heap.get?_push_of_some
abbrev Qas:=@PySem.F.plainAttrs_str
abbrev Qat:=@Option.map_eq_some_iff
abbrev Qau:=@PySem.Heap.get?_update_other
abbrev Qav:=@List.take_of_length_le
abbrev Qaw:=@List.mem_append_right
abbrev Qax:=@List.length_singleton
abbrev Qay:=@PySem.Heap.get?_update_self
abbrev Qaz:=@PySem.F.slot_str_join
abbrev QaA:=@PySem.F.type_str_join
abbrev QaB:=@PySem.StrLaws.glued_eq_join
abbrev QaC:=@List.take_append_drop
abbrev QaD:=@List.mem_cons_of_mem
abbrev QaE:=@List.mem_of_getElem?
abbrev QaF:=@List.mem_append_left
abbrev QaG:=@List.mem_of_mem_take
abbrev QaH:=@PySem.Heap.get?_push_size
abbrev QaI:=@Array.length_toList
abbrev QaJ:=@List.flatMap_append
abbrev QaK:=@PySem.mem_of_lookup
abbrev QaL:=@List.replicate_succ
abbrev QaM:=@List.length_append
abbrev QaN:=@List.mem_cons_self
abbrev QaO:=@List.set_cons_zero
abbrev QaP:=@List.set_cons_succ
abbrev QaQ:=@List.mem_singleton
abbrev QaR:=@Bool.false_ne_true
abbrev QaS:=@Nat.lt_of_lt_of_le
abbrev QaU:=@PySem.wpAny_pyIter_tuple
abbrev QaV:=@decide_eq_true_iff
abbrev QaW:=@Int.emod_lt_of_pos
abbrev QaX:=@PySem.wpAny_Call_Name_kw
abbrev QaY:=@PySem.wpAny_setField_rec
abbrev QaZ:=@PySem.Str.length_append
abbrev Qba:=@List.append_assoc
abbrev Qbb:=@List.size_toArray
abbrev Qbc:=@List.getElem?_map
abbrev Qbd:=@of_decide_eq_true
abbrev Qbe:=@List.flatMap_cons
abbrev Qbf:=@PySem.wpAny_truthy_bool
abbrev Qbg:=@PySem.wpAny_newObj_type
abbrev Qbh:=@List.nodup_append
abbrev Qbi:=@PySem.wpAny_pyIter_list
abbrev Qbj:=@Int.toNat_natCast
abbrev Qbk:=@PySem.wpAny_loadPart_at
abbrev Qbl:=@List.foldl_append
abbrev Qbm:=@decide_eq_true_eq
abbrev Qbn:=@List.length_take
abbrev Qbo:=@List.length_cons
abbrev Qbp:=@List.take_length
abbrev Qbq:=@List.length_drop
abbrev Qbr:=@List.not_mem_nil
abbrev Qbs:=@Bool.and_eq_true
abbrev Qbt:=@List.mem_flatMap
abbrev Qbu:=@List.all_eq_true
abbrev Qbv:=@PySem.wpAny_call_entry
abbrev Qbw:=@List.length_map
abbrev Qbx:=@List.map_append
abbrev Qby:=@List.mem_append
abbrev Qbz:=@decide_eq_false
abbrev QbA:=@List.append_nil
abbrev QbB:=@Option.some.inj
abbrev QbC:=@PySem.PassesOwn.never
abbrev QbF:=@Int.emod_nonneg
abbrev QbG:=@List.mem_filter
abbrev QbH:=@Bool.eq_iff_iff
abbrev QbI:=@List.nodup_cons
abbrev QbJ:=@List.find?_cons
abbrev QbK:=@List.take_left'
abbrev QbL:=@List.drop_left'
abbrev QbM:=@decide_eq_true
abbrev QbN:=@PySem.Heap.size_push
abbrev QbO:=@List.nodup_nil
abbrev QbP:=@PySem.wpAny_seqItems
abbrev QbQ:=@List.mem_cons
abbrev QbR:=@PySem.Paired.length
abbrev QbT:=@List.map_cons
abbrev QbU:=@PySem.wpAny_holding
abbrev QbV:=@Nat.lt_irrefl
abbrev QbW:=@PySem.wpAny_standAt
abbrev QbX:=@List.any_cons
abbrev QbY:=@List.mem_map
abbrev QbZ:=@PySem.Heap.lt_size
abbrev Qca:=@Nat.le_trans
abbrev Qcb:=@Nat.ne_of_lt
abbrev Qcc:=@List.map_map
abbrev Qcd:=@Nat.ne_of_gt
abbrev Qce:=@Nat.le_refl
abbrev Qcf:=@Nat.zero_le
abbrev Qcg:=@PySem.wpAny_field
abbrev Qch:=@PySem.Paired.snoc
abbrev Qci:=@PySem.sizeLine_eq
abbrev Qcj:=@PySem.wpAny_bind
abbrev Qck:=@PySem.wpAny_pure
abbrev Qcl:=@PySem.wpAny_mono
abbrev Qcm:=@PySem.call_meets
abbrev Qcn:=@PyProof.Rows.take_snoc
abbrev Qco:=@or_false
namespace L2
open PySem PySem.Spec PyProof.Rows
abbrev Key:=Sum Int Str
def PN:Key->Value->Bool
 | .inl k,v=>Value.isInt k v
 | .inr x,v=>Value.isStrOf x v
def zV (w:World):Key->Int
 | .inl k=>hashInt k
 | .inr x=>hashStr w x
theorem DG:∀{k:Key} {v:Value},PN k v=true->(∃i t,k=Sum.inl i/\v=Value.int i t)\/(∃x t,k=Sum.inr x/\v=Value.str x t)
 | .inl i,v,h=>by
  obtain⟨t,e⟩:=Value.isInt_shape (k:=i) (v:=v) h;exact .inl ⟨i,t,rq,e⟩
 | .inr x,v,h=>by
  obtain⟨t,e⟩:=Value.isStrOf_shape (x:=x) (v:=v) h;exact .inr ⟨x,t,rq,e⟩
theorem fC (i:Int) (t:Tok):PN (.inl i) (.int i t)=true:=by simp[PN,Value.isInt]
theorem fB (x:Str) (t:Tok):PN (.inr x) (.str x t)=true:=by simp[PN,Value.isStrOf]
theorem tV (a b:Int):decide ((Sum.inl a:Key)=Sum.inl b)=(a == b):=by
 by_cases e:a=b
 ·subst e;simp
 ·have h:¬(Sum.inl a:Key)=Sum.inl b:=λq=>e (Sum.inl.inj q);rw[Qbz h];exact (beq_eq_false_iff_ne.mpr e).symm
theorem tQ (a b:Str):decide ((Sum.inr a:Key)=Sum.inr b)=decide (a=b):=by
 by_cases e:a=b
 ·subst e;simp
 ·have h:¬(Sum.inr a:Key)=Sum.inr b:=λq=>e (Sum.inr.inj q);rw[Qbz h,Qbz e]
theorem tU (a:Int) (b:Str):decide ((Sum.inl a:Key)=Sum.inr b)=false:=Qbz (λq=>nomatch q)
theorem tR (a:Str) (b:Int):decide ((Sum.inr a:Key)=Sum.inl b)=false:=Qbz (λq=>nomatch q)
def GX (prog:Program) (w:World):PySem.KeyKind prog w Key where
 is:=PN
 hash:=zV w
 inj:=λv a b ha hb=>by
  rcases DG ha with⟨i,t,rfl,rfl⟩|⟨x,t,rfl,rfl⟩
  ·rcases DG hb with⟨j,u,rfl,e⟩|⟨y,u,rfl,e⟩
   ·injection e with e1 _;rw[e1]
   ·exact nomatch e
  ·rcases DG hb with⟨j,u,rfl,e⟩|⟨y,u,rfl,e⟩
   ·exact nomatch e
   ·injection e with e1 _;rw[e1]
 byValue:=λk v h=>by
  rcases DG h with⟨i,t,rfl,rfl⟩|⟨x,t,rfl,rfl⟩ <;> rfl
 pyHash:=λhv h=>by
  rcases DG hv with⟨i,t,rfl,rfl⟩|⟨x,t,rfl,rfl⟩
  ·exact wpAny_pyHash_int h
  ·exact wpAny_pyHash_str h
 eqBool:=λhu hv h=>by
  rcases DG hu with⟨i,t,rfl,rfl⟩|⟨x,t,rfl,rfl⟩
  ·rcases DG hv with⟨j,u,rfl,rfl⟩|⟨y,u,rfl,rfl⟩
   ·rw[tV] at h;exact wpAny_eqBool_int h
   ·rw[tU] at h;exact SeqAt.EqAt.int_str i t y u _ _ _ _ h
  ·rcases DG hv with⟨j,u,rfl,rfl⟩|⟨y,u,rfl,rfl⟩
   ·rw[tR] at h;exact SeqAt.EqAt.str_int x t j u _ _ _ _ h
   ·rw[tQ] at h;exact wpAny_eqBool_str h
 «strs»:=λk x t v h=>by
  rcases DG h with⟨i,u,rfl,e⟩|⟨y,u,rfl,e⟩
  ·exact nomatch e
  ·injection e with e1 _;subst e1;cases v <;> rfl
theorem Yl (prog:Program) (w:World) (i:Int) (t:Tok):(GX prog w).is (.inl i) (.int i t)=true:=fC i t
theorem Yk (prog:Program) (w:World) (x:Str) (t:Tok):(GX prog w).is (.inr x) (.str x t)=true:=fB x t
inductive V where
 | non | bl (b:Bool) | int (i:Int) | str (x:Str) | byt (b:Array UInt8) | flt (b:UInt64) | ref (a:Addr) | ty (n:String)
 deriving DecidableEq
def RelV:V->Value->Prop
 | .non,u=>u=Value.none
 | .bl b,u=>u=Value.bool b
 | .int i,u=>∃t,u=Value.int i t
 | .str x,u=>∃t,u=Value.str x t
 | .byt b,u=>∃t,u=Value.bytes b t
 | .flt b,u=>∃t,u=Value.float b t
 | .ref a,u=>u=Value.ref a
 | .ty n,u=>u=Value.type n
abbrev YG:=List V
abbrev Vals:YG->YE->Prop:=Paired RelV
theorem Vals.length {xs:YG} {us:YE} (r:Vals xs us):xs.length=us.length:=QbR r
theorem Vals.get:∀{xs:YG} {us:YE} {i:Nat} {x:V},Vals xs us->xs[i]?=some x->∃u,us[i]?=some u/\RelV x u
 | _,_,_,_,.nil,e=>by simp at e
 | _,_,0,_,.cons r _,e=>by simp at e;subst e;exact⟨_,rfl,r⟩
 | _,_,i+1,x,.cons _ t,e=>by
  obtain⟨u,h1,h2⟩:=Vals.get (i:=i) (x:=x) t (by simpa using e);exact⟨u,by simpa using h1,h2⟩
theorem Vals.set {x:V} {u:Value} (r:RelV x u):∀{xs:YG} {us:YE} (i:Nat),Vals xs us->Vals (xs.set i x) (us.set i u)
 | _,_,_,.nil=>.nil
 | _,_,0,.cons _ t=>.cons r t
 | _,_,i+1,.cons q t=>.cons q (Vals.set r i t)
theorem Vals.append:∀{xs ys:YG} {us ws:YE},Vals xs us->Vals ys ws->Vals (xs++ys) (us++ws)
 | _,_,_,_,.nil,s=>s
 | _,_,_,_,.cons r t,s=>.cons r (Vals.append t s)
theorem Vals.take:∀{xs:YG} {us:YE} (n:Nat),Vals xs us->Vals (xs.take n) (us.take n)
 | _,_,0,_=>.nil
 | _,_,_+1,.nil=>.nil
 | _,_,n+1,.cons r t=>.cons r (Vals.take n t)
theorem Vals.drop:∀{xs:YG} {us:YE} (n:Nat),Vals xs us->Vals (xs.drop n) (us.drop n)
 | _,_,0,r=>r
 | _,_,_+1,.nil=>.nil
 | _,_,n+1,.cons _ t=>Vals.drop n t
def Rb:Option V->Option Value->Prop
 | some v,some u=>RelV v u
 | none,none=>True
 | _,_=>False
def KV {κ : Type}:List (κ×V)->List (κ×Value)->Prop:=Paired λ(p:κ×V) (q:κ×Value)=>p.1=q.1/\RelV p.2 q.2
def kV:Key->V
 | .inl i=>.int i
 | .inr x=>.str x
inductive HO where
 | lst (xs:YG)
 | tup (xs:YG)
 | dK (kvs:List (Key×V)) | dT (kvs:List (List Key×V))
 | set (S:Int->Bool) (n:Nat)
 | ins (C dx:Addr) (fs:List (Str×V))
 | own (x:Addr)
 | xd (fs:List (Str×V))
 | met (f x:Addr)
 | rng (lo hi:Int)
 | frz (o:Obj) (u:HO)
 | tbl (ps:Array Value)
 | ext (φ : Heap->Prop)
abbrev Hp:=Addr->Option HO
def upd (H:Hp) (a:Addr) (o:HO):Hp:=λb=>if b=a then some o else H b
theorem Ac {H:Hp} {a:Addr} {o:HO}:upd H a o a=some o:=by unfold upd;rw[if_pos rfl]
theorem Az {H:Hp} {a b:Addr} {o:HO} (h:b≠a):upd H a o b=H b:=by unfold upd;rw[if_neg h]
theorem Zc {H:Hp} {a:Addr} {o u:HO}:upd (upd H a o) a u=upd H a u:=by
 funext b;unfold upd;split <;> rfl
theorem Aq {H:Hp} {a b:Addr} {o:HO} (h:H a=some o) (h':H b=none):a≠b:=by
 intro e;subst e;rw[h] at h';cases h'
section
variable (P:Program) (w:World)
def Cq (H:Hp) (h:Heap) (a:Addr):HO->Prop
 | .lst xs=>xs.length<=sizeLine/\∃(its:YE) (n:Nat),Vals xs its/\h.get? a=some { cls:=.type "list",data:=.seq its.toArray n }
 | .tup xs=>xs.length<=sizeLine/\∃its:YE,Vals xs its/\IsTup h a its.toArray
 | .dK kvs=>kvs.length<=sizeLine/\(a == sysModules)=false/\∃vs,KV kvs vs/\h.DictOf (GX P w) a vs
 | .dT kvs=>kvs.length<=sizeLine/\(a == sysModules)=false/\∃xs:List (List Key×Addr×Value),
   Paired (λ(p:List Key×V) (q:List Key×Addr×Value)=>p.1=q.1/\H q.2.1=some (.tup (p.1.map kV))/\RelV p.2 q.2.2) kvs xs /\
   ∃o es ep,h.get? a=some o/\o.ExactDict/\o.data=.dict es ep/\es.toList=xs.map (entryOfKey (tupleKind (GX P w)))/\(xs.map (·.1)).Nodup
 | .set S n=>h.SetOf (intKind P w) a S n
 | .ins C dx fs=>H dx=some (.own a)/\fs.length<=1000/\dx≠a/\h.get? a=some (PySem.W.instObj C dx) /\
   ∃mA,h.Ns1 dx mA/\(∀f,Rb (fs.lookup f) (mA f))/\PySem.Within mA (fs.map (·.1))
 | .own _=>∃o,h.get? a=some o
 | .xd fs=>∃mA,h.Ns1 a mA/\∀f,Rb (fs.lookup f) (mA f)
 | .rng lo hi=>∃t u v,h.get? a=some { cls:=.type "range",data:=.fields #[.int lo t,.int hi u,.int 1 v] }
 | .frz o u=>h.get? a=some o/\Cq H h a u
 | .tbl ps=>h.get? a=some { cls:=.none,data:=.fields ps }
 | .met f x=>h.get? a=some (PySem.W.methodObj (.ref f) (.ref x))
 | .ext φ=>φ h/\(∃o,h.get? a=some o)/\∀h1 h2:Heap,φ h1->(∀o,h1.get? a=some o->h2.get? a=some o)->φ h2
def HOk (H:Hp) (h:Heap):Prop:=∀a o,H a=some o->Cq P w H h a o
end
section
variable {P:Program} {w:World} {H H':Hp} {h h':Heap} {a:Addr} {o:HO}
theorem Cq.lt (x:Cq P w H h a o):a < h.objs.size:=by
 cases o with
 | lst xs=>obtain⟨_,_,_,_,e⟩:=x;exact QbZ e
 | tup xs=>obtain⟨_,_,_,p⟩:=x;exact p.lt
 | dK kvs=>obtain⟨_,_,_,_,o,_,_,e,_⟩:=x;exact QbZ e
 | dT kvs=>obtain⟨_,_,_,_,o,_,_,e,_⟩:=x;exact QbZ e
 | set S n=>obtain⟨o,_,_,_,e,_⟩:=x;exact QbZ e
 | ins C dx fs=>obtain⟨_,_,_,e,_⟩:=x;exact QbZ e
 | own y=>obtain⟨_,e⟩:=x;exact QbZ e
 | xd fs=>obtain⟨_,⟨_,_,_,e,_⟩,_⟩:=x;exact QbZ e
 | rng lo hi=>obtain⟨_,_,_,e⟩:=x;exact QbZ e
 | frz ob u=>obtain⟨e,_⟩:=x;exact QbZ e
 | tbl ps=>exact QbZ (show h.get? a=some _ from x)
 | met f y=>exact QbZ (show h.get? a=some _ from x)
 | ext φ=>obtain⟨_,⟨_,e⟩,_⟩:=x;exact QbZ e
theorem Paired.Cd {α β : Type} {F G:α->β->Prop}:∀{l₁ : List α} {l₂ : List β},Paired F l₁ l₂->(∀a b,F a b->G a b)->Paired G l₁ l₂
 | _,_,.nil,_=>.nil
 | _,_,.cons r t,f=>.cons (f _ _ r) (Paired.Cd t f)
theorem Cq.stay (x:Cq P w H h a o) (k:∀b u,(b=a\/H b=some (.own a))->h.get? b=some u->h'.get? b=some u)
  (ho:∀b,H b=some (.own a)->H' b=some (.own a)) (ht:∀b xs,H b=some (.tup xs)->H' b=some (.tup xs)):Cq P w H' h' a o:=by
 induction o with
 | lst xs=>obtain⟨z,its,n,r,e⟩:=x;exact⟨z,its,n,r,k _ _ (.inl rfl) e⟩
 | tup xs=>obtain⟨z,its,r,ob,e,c⟩:=x;exact⟨z,its,r,ob,k _ _ (.inl rfl) e,c⟩
 | dK kvs=>obtain⟨z,y,vs,r,ob,es,ep,e,c⟩:=x;exact⟨z,y,vs,r,ob,es,ep,k _ _ (.inl rfl) e,c⟩
 | dT kvs=>
  obtain⟨z,y,xs,r,ob,es,ep,e,c⟩:=x;exact⟨z,y,xs,Paired.Cd r λp q z=>⟨z.1,ht _ _ z.2.1,z.2.2⟩,ob,es,ep,k _ _ (.inl rfl) e,c⟩
 | set S n=>obtain⟨ob,es,ep,t,e,c⟩:=x;exact⟨ob,es,ep,t,k _ _ (.inl rfl) e,c⟩
 | ins C dx fs=>
  obtain⟨d,z,ne,e,mA,⟨od,es,ep,e2,c⟩,r⟩:=x;exact⟨ho _ d,z,ne,k _ _ (.inl rfl) e,mA,⟨od,es,ep,k _ _ (.inr d) e2,c⟩,r⟩
 | own y=>obtain⟨ob,e⟩:=x;exact⟨ob,k _ _ (.inl rfl) e⟩
 | xd fs=>obtain⟨mA,⟨od,es,ep,e,c⟩,r⟩:=x;exact⟨mA,⟨od,es,ep,k _ _ (.inl rfl) e,c⟩,r⟩
 | rng lo hi=>obtain⟨t,u,v,e⟩:=x;exact⟨t,u,v,k _ _ (.inl rfl) e⟩
 | frz ob u ih=>obtain⟨e,q⟩:=x;exact⟨k _ _ (.inl rfl) e,ih q⟩
 | tbl ps=>
  have e:h.get? a=some { cls:=.none,data:=.fields ps }:=x;show h'.get? a=some { cls:=.none,data:=.fields ps };exact k a _ (.inl rfl) e
 | met f y=>
  have e:h.get? a=some (PySem.W.methodObj (.ref f) (.ref y)):=x;show h'.get? a=some (PySem.W.methodObj (.ref f) (.ref y));exact k a _ (.inl rfl) e
 | ext φ=>obtain⟨p,⟨o,e⟩,st⟩:=x;exact⟨st _ _ p λo q=>k _ _ (.inl rfl) q,⟨o,k _ _ (.inl rfl) e⟩,st⟩
theorem HOk.lt (x:HOk P w H h) (e:H a=some o):a < h.objs.size:=(x a o e).lt
theorem HOk.fresh (x:HOk P w H h) (e:h.objs.size<=a):H a=none:=by
 cases q:H a with
 | none=>rfl
 | some u=>exact absurd (QaS (x.lt q) e) (QbV _)
theorem HOk.kept (x:HOk P w H h) (k:∀b u,h.get? b=some u->h'.get? b=some u):HOk P w H h':=λa o e=>
 (x a o e).stay (λb u _ q=>k b u q) (λ_ q=>q) λ_ _ q=>q
theorem HOk.laid (x:HOk P w H h) (k:∀b u,h.get? b=some u->h'.get? b=some u) (hp:h.objs.size<=a) (new:Cq P w (upd H a o) h' a o):HOk P w (upd H a o) h':=λb u e=>by
 have hn:=x.fresh hp;by_cases hb:b=a
 ·subst hb;rw[Ac] at e;cases e;exact new
 ·rw[Az hb] at e;exact (x b u e).stay (λc v _ q=>k c v q) (λc q=>by rw[Az (Aq q hn)];exact q) λc xs q=>by rw[Az (Aq q hn)];exact q
end
def Rd (H:Hp) (a:Addr) (u:HO):Prop:=H a=some u\/∃o,H a=some (.frz o u)
theorem Rd.ok {P:Program} {w:World} {H:Hp} {h:Heap} {a:Addr} {u:HO} (r:Rd H a u) (x:HOk P w H h):Cq P w H h a u:=by
 rcases r with r |⟨o,r⟩
 ·exact x a u r
 ·obtain⟨_,q⟩:=x a _ r;exact q
def Mut:Option HO->Prop
 | some (.lst _)=>True
 | some (.dK _)=>True
 | some (.dT _)=>True
 | some (.set _ _)=>True
 | some (.ins _ _ _)=>True
 | some (.ext _)=>True
 | _=>False
section
variable {P:Program} {w:World} {H:Hp} {h h':Heap} {x e:Addr} {o':HO}
theorem HOk.write (ok:HOk P w H h) (mu:Mut (H x)) (he:e=x\/H e=some (.own x)) (k:∀b u,b≠e->h.get? b=some u->h'.get? b=some u) (heo:∃u,h'.get? e=some u)
  (new:Cq P w (upd H x o') h' x o'):HOk P w (upd H x o') h':=λb u q=>by
 have sO:∀c y,H c=some (.own y)->c≠x:=λc y r z=>by subst z;rw[r] at mu;exact mu
 have Ja:∀c xs,H c=some (.tup xs)->c≠x:=λc xs r z=>by subst z;rw[r] at mu;exact mu
 by_cases hb:b=x
 ·subst hb;rw[Ac] at q;cases q;exact new
 ·rw[Az hb] at q;by_cases hbe:b=e
  ·have q':H b=some (.own x):=by
    rcases he with z | z
    ·exact absurd (hbe.trans z) hb
    ·rw[hbe];exact z
   rw[q] at q';cases q';obtain⟨v,hv⟩:=heo;exact⟨v,by rw[hbe];exact hv⟩
  ·refine (ok b u q).stay (λc v hc r=>k c v ?_ r) (λc r=>by rw[Az (sO c b r)];exact r) λc xs r=>by rw[Az (Ja c xs r)];exact r
   rcases hc with rfl | hc
   ·exact hbe
   ·rintro rfl;rcases he with z | z
    ·exact sO c b hc z
    ·rw[hc] at z;cases z;exact hb rfl
end
structure Un (fs ex:List Addr) (H H':Hp) (h h':Heap):Prop where
 keep:∀b o,h.get? b=some o->H b=none->b∉fs->b∉ex->h'.get? b=some o
 slot:∀b o,h.get? b=some o->H b=none->b∈fs->b∉ex->∃sl,h'.get? b=some { o with slots:=sl }
 free:∀b o,h.get? b=some o->H b=none->b∉ex->H' b=none
 there:∀b o,h.get? b=some o->b∉ex->∃o',h'.get? b=some o'
 tups:∀b xs,H b=some (.tup xs)->H' b=some (.tup xs)
 Gy:∀b o u,H b=some (.frz o u)->H' b=some (.frz o u)
 Hz:∀b ps,H b=some (.tbl ps)->∃more,H' b=some (.tbl (ps++more))
section
variable {fs fs' ex ex':List Addr} {H H1 H2:Hp} {h h1 h2 h':Heap} {a x e:Addr} {o:HO}
theorem Un.any (u:Un fs ex H H1 h h1) {b:Addr} {ob:Obj} (q:h.get? b=some ob) (n:H b=none) (hx:b∉ex):∃sl,h1.get? b=some { ob with slots:=sl }:=by
 by_cases hb:b∈fs
 ·exact u.slot b ob q n hb hx
 ·exact⟨ob.slots,u.keep b ob q n hb hx⟩
theorem Un.kept (k:∀b u,h.get? b=some u->h'.get? b=some u):Un fs ex H H h h':=
 ⟨λb ob q _ _ _=>k b ob q,λb ob q _ _ _=>⟨ob.slots,k b ob q⟩,λ_ _ _ n _=>n,λb ob q _=>⟨ob,k b ob q⟩,λ_ _ q=>q,λ_ _ _ q=>q,λ_ ps q=>⟨#[],by rw[q];simp⟩⟩
theorem Un.refl:Un fs ex H H h h:=Un.kept λ_ _ q=>q
theorem Un.laid (k:∀b u,h.get? b=some u->h'.get? b=some u) (hp:h.objs.size<=a) (hn:H a=none):Un fs ex H (upd H a o) h h' where
 keep:=λb u q _ _ _=>k b u q
 slot:=λb u q _ _ _=>⟨u.slots,k b u q⟩
 free:=λb u q n _=>by rw[Az (Qcb (QaS (QbZ q) hp))];exact n
 there:=λb u q _=>⟨u,k b u q⟩
 tups:=λb xs q=>by rw[Az (Aq q hn)];exact q
 Gy:=λb u xs q=>by rw[Az (Aq q hn)];exact q
 Hz:=λb ps q=>⟨#[],by rw[Az (Aq q hn),q];simp⟩
theorem Un.write (mu:Mut (H x)) (he:e=x\/H e=some (.own x)) (k:∀b u,b≠e->h.get? b=some u->h'.get? b=some u) (heo:∃u,h'.get? e=some u):Un fs ex H (upd H x o) h h':=by
 have hx:∀b,H b=none->b≠x:=λb n z=>by subst z;rw[n] at mu;exact mu
 have hb:∀b,H b=none->b≠e:=λb n z=>by
  subst z;rcases he with r | r
  ·exact hx b n r
  ·rw[n] at r;cases r
 have hm:∀b u,H b=some u->¬Mut (some u)->b≠x:=λb u q nm z=>by subst z;rw[q] at mu;exact nm mu
 refine⟨λb u q n _ _=>k b u (hb b n) q,λb u q n _ _=>⟨u.slots,k b u (hb b n) q⟩,λb u q n _=>by rw[Az (hx b n)];exact n,λb u q _=>?_,
  λb xs q=>by rw[Az (hm b _ q λz=>z)];exact q,λb u xs q=>by rw[Az (hm b _ q λz=>z)];exact q,λb ps q=>⟨#[],by rw[Az (hm b _ q λz=>z),q];simp⟩⟩
 by_cases hbe:b=e
 ·subst hbe;exact heo
 ·exact⟨u,k b u hbe q⟩
end
def trk (h:Heap) (H:Hp):List Addr:=(List.range h.objs.size).filter λa=>(H a).isSome
def Nu (h:Heap) (H:Hp):Heap:=hideAll h (trk h H)
theorem fO (h:Heap) (H:Hp):(Nu h H).objs.size=h.objs.size:=PySem.W.hideAll_size _ _
theorem mj {h:Heap} {H:Hp} {b:Addr} {o:Obj} (e:h.get? b=some o) (n:H b=none):(Nu h H).get? b=some o:=
 hideAll_get _ e λhm=>by
  have q:(H b).isSome=true:=(QbG.mp hm).2;rw[n] at q;simp at q
theorem pH {h:Heap} {H:Hp} {b:Addr} {o:Obj} (e:(Nu h H).get? b=some o):h.get? b=some o/\H b=none:=by
 have e':h.get? b=some o:=PySem.W.of_hideAll (trk h H) e;refine⟨e',?_⟩;cases q:H b with
 | none=>rfl
 | some x=>
  have hm:b∈trk h H:=QbG.mpr ⟨List.mem_range.mpr (QbZ e'),by simp[q]⟩;have z:(Nu h H).get? b=none:=PySem.W.hideAll_none (trk h H) hm;rw[z] at e;cases e
def qD (g h:Heap) (L:Addr):YC:=(List.range h.objs.size).filterMap λa=>if a=L\/(g.get? a).isSome=true then none else (h.get? a).map λo=>(a,o)
def rest (g h:Heap) (L d:Addr):YC:=(qD g h L).filter λp=>decide (p.1≠d)
structure Mod (K:YD) (mg:YB) (base:Heap):Prop where
 kin:K.In base
 glob:base.Ns mainGlobals mg
 blt:∃mb,base.Ns builtinsNs mb/\∀x:Str,x≠"__name__"->mb x=bootBuiltins x
 nolimit:base.NoLimit
structure Cx where
 prog:Program
 w:World
 K:YD
 mg:YB
 base:Heap
 A:Around
 N:YF
 s₀ : Shared
 H₀ : Hp
 env:Env
 outer:List Env
 stack:List Env
 ex:List Addr
 fn:Str->Bool
 calm:Bool
 pn:YC
 xe:YA
def frs (l:List Env):List Addr:=l.filterMap (·.frame)
abbrev Cx.fs (X:Cx):List Addr:=frs X.outer
def Vis (sc:Scope) (x:Str):Prop:=sc.names.lookup x=some .local\/sc.names.lookup x=some .cell\/sc.names.lookup x=some .free
def Loc (sc:Scope) (x:Str):Prop:=sc.names.lookup x=some .local\/sc.names.lookup x=some .cell
def Look (env:Env) (h:Heap) (m:YB) (x:Str) (u:Value):Prop:=
 (env.kindOf x=some .local/\m x=some u)\/((env.kindOf x=some .cell\/env.kindOf x=some .free)/\∃c,env.cells.lookup x=some c/\h.IsCell c (some u))
structure Cx.Ok (X:Cx):Prop where
 mod:Mod X.K X.mg X.base
 kind:X.env.scope.kind=.function
 glob:X.env.globals=mainGlobals
 blt:X.env.builtins=builtinsNs
 above:X.s₀.heap.objs.size<=X.env.locals
 inj:∀x y c,X.env.cells.lookup x=some c->X.env.cells.lookup y=some c->x=y
 has:∀x,(X.env.kindOf x=some .cell\/X.env.kindOf x=some .free)->∃c,X.env.cells.lookup x=some c
 cab:∀x c,X.fn x=true->X.env.cells.lookup x=some c->X.s₀.heap.objs.size<=c
 hd:X.calm=true->X.A.handled=none
 frames:X.A.frames=some X.stack
 stk:X.stack=X.outer\/(X.stack=X.env::X.outer/\X.env.frame=some X.env.locals)
 exf:∀b∈X.ex,b≠X.env.locals/\∀x c,X.env.cells.lookup x=some c->c≠b
 bs:∀b o,X.base.get? b=some o->X.s₀.heap.get? b=some o/\X.H₀ b=none
 bsz:X.base.objs.size<=X.s₀.heap.objs.size
 K7:∀b o,X.base.get? b=some o->b∉X.ex
 Kh:∀b∈X.ex,b∉X.fs
 FW:X.s₀.heap.FunFrames X.base X.outer
 frf:∀b∈X.fs,X.H₀ b=none
structure Inv (X:Cx) (jb:YC) (σ : List (Option V)) (H:Hp) (s:Shared):Prop where
 ok:X.Ok
 os:s.os=X.s₀.os
 bare:AllBare s.gens
 base:Un X.fs X.ex X.H₀ H X.s₀.heap s.heap
 loc:∃m,s.heap.Ns X.env.locals m/\∀(i:Nat) (x:Str) (v:V),X.N[i]?=some x->σ[i]?=some (some v)->Vis X.env.scope x->∃u,RelV v u/\Look X.env s.heap m x u
 cell:∀x c,X.env.cells.lookup x=some c->∃v,s.heap.IsCell c v
 free:H X.env.locals=none
 Fj:∀x c,X.env.cells.lookup x=some c->H c=none
 pin:∀p∈X.pn++jb,s.heap.get? p.1=some p.2/\H p.1=none/\p.1≠X.env.locals/\p.1∉X.fs/\∀v,p.2.data≠.cell v
 hok:HOk X.prog X.w H s.heap
 len:σ.length=X.N.length
section
variable {X:Cx} {jb:YC} {σ : List (Option V)} {H H':Hp} {s:Shared} {h':Heap}
theorem Cx.Ok.xT (ok:X.Ok) {b:Addr} {o:Obj} (e:X.base.get? b=some o):b∉X.fs:=λhb=>by
 have:=(ok.FW.mem hb).1;rw[e] at this;cases this
theorem Inv.bs (I:Inv X jb σ H s):∀b o,X.base.get? b=some o->s.heap.get? b=some o/\H b=none:=λb o e=>
 ⟨I.base.keep b o (I.ok.bs b o e).1 (I.ok.bs b o e).2 (I.ok.xT e) (I.ok.K7 b o e),I.base.free b o (I.ok.bs b o e).1 (I.ok.bs b o e).2 (I.ok.K7 b o e)⟩
theorem Inv.bk (I:Inv X jb σ H s):∀b o,X.base.get? b=some o->s.heap.get? b=some o:=λb o e=>(I.bs b o e).1
theorem Inv.mod (I:Inv X jb σ H s):Mod X.K X.mg X.base:=I.ok.mod
theorem Inv.kIn (I:Inv X jb σ H s):X.K.In s.heap:=I.ok.mod.kin.keeps I.bk
theorem Inv.nolimit (I:Inv X jb σ H s):s.heap.NoLimit:=I.ok.mod.nolimit.keeps I.bk
theorem Inv.fr (I:Inv X jb σ H s):∃m,Fr X.base X.env.locals s.heap m:=
 let ⟨m,hn,_⟩:=I.loc
 ⟨m,hn,I.bk,Qca I.ok.bsz I.ok.above⟩
theorem Inv.lt (I:Inv X jb σ H s):X.env.locals < s.heap.objs.size:=let ⟨_,hn,_⟩:=I.loc;hn.lt
theorem Inv.sz (I:Inv X jb σ H s):X.s₀.heap.objs.size<=s.heap.objs.size:=Qca I.ok.above (Nat.le_of_lt I.lt)
theorem Inv.sW (I:Inv X jb σ H s) {a:Addr} (h:s.heap.objs.size<=a):a∉X.fs:=λhb=>by
 obtain⟨_,o,ho,_⟩:=I.ok.FW.mem hb;exact absurd (QaS (QbZ ho) (Qca I.sz h)) (QbV _)
theorem Inv.cne (I:Inv X jb σ H s):∀x c,X.env.cells.lookup x=some c->c≠X.env.locals:=λx c e z=>by
 obtain⟨v,o,ho,hd⟩:=I.cell x c e;obtain⟨m,⟨o',es,ep,ho',hd',_⟩,_⟩:=I.loc;rw[z,ho'] at ho;cases ho;rw[hd'] at hd;cases hd
theorem Inv.FW (I:Inv X jb σ H s):s.heap.FunFrames X.base X.outer:=by
 have all:∀(l:List Env),(∀b∈frs l,b∈X.fs)->X.s₀.heap.FunFrames X.base l->s.heap.FunFrames X.base l:=by
  intro l
  induction l with
  | nil=>intro _ _;trivial
  | cons env r ih=>
   intro hs hl;obtain⟨hk,⟨L,o,hf,hn,ho,hd⟩,hr⟩:=hl;have hL:L∈X.fs:=hs L (by unfold frs;rw[List.filterMap_cons,hf];exact QaN);obtain⟨sl,e⟩:=I.base.slot L o ho (I.ok.frf L hL) hL λz=>I.ok.Kh L z hL;exact⟨hk,⟨L,_,hf,hn,e,hd⟩,ih (λb hb=>hs b (by unfold frs;rw[List.filterMap_cons,hf];exact QaD _ hb)) hr⟩
 exact all X.outer (λ_ hb=>hb) I.ok.FW
theorem Inv.stack (I:Inv X jb σ H s):s.heap.FunFrames X.base X.stack:=by
 rcases I.ok.stk with e |⟨e,hf⟩
 ·rw[e];exact I.FW
 ·rw[e];obtain⟨m,hn,_⟩:=I.loc;refine .cons (by rw[I.ok.kind];decide) hf hn ?_ I.FW;exact Heap.get?_none_of_le (Qca I.ok.bsz I.ok.above)
theorem Inv.Rj (I:Inv X jb σ H s):∀b∈frs X.stack,b∈X.env.locals::X.fs:=λb hb=>by
 rcases I.ok.stk with e |⟨e,hf⟩
 ·rw[e] at hb;exact QaD _ hb
 ·rw[e] at hb;unfold frs at hb;rw[List.filterMap_cons,hf] at hb;exact hb
theorem Inv.Sh (I:Inv X jb σ H s):∀b∈frs X.stack,H b=none:=λb hb=>by
 rcases QbQ.mp (I.Rj b hb) with e | hb
 ·rw[e];exact I.free
 ·obtain⟨_,o,ho,_⟩:=I.ok.FW.mem hb;exact I.base.free b o ho (I.ok.frf b hb) λz=>I.ok.Kh b z hb
theorem Inv.step {g':Array GenState} {t':Nat} {d':Drawn} {ch:List Addr} (I:Inv X jb σ H s)
  (hch:∀b∈ch,(b∈X.ex\/X.s₀.heap.objs.size<=b)/\b≠X.env.locals/\(∀x c,X.env.cells.lookup x=some c->c≠b)/\∀p∈X.pn++jb,p.1≠b)
  (keep:∀b o,b≠X.env.locals->b∉X.fs->b∉ch->s.heap.get? b=some o->H b=none->h'.get? b=some o)
  (slot:∀b o,b≠X.env.locals->b∈X.fs->b∉ch->s.heap.get? b=some o->H b=none->∃sl,h'.get? b=some { o with slots:=sl }) (free:∀b o,b∉ch->s.heap.get? b=some o->H b=none->H' b=none)
  (there:∀b o,b∉ch->s.heap.get? b=some o->∃o',h'.get? b=some o')
  (tups:∀b xs,H b=some (.tup xs)->H' b=some (.tup xs)) (Gy:∀b o u,H b=some (.frz o u)->H' b=some (.frz o u)) (Hz:∀b ps,H b=some (.tbl ps)->∃more,H' b=some (.tbl (ps++more)))
  (ns:∀m,s.heap.Ns X.env.locals m->h'.Ns X.env.locals m) (hok:HOk X.prog X.w H' h') (hg:AllBare g') :
  Inv X jb σ H' { s with heap:=h',gens:=g',drawn:=d',toks:=t' }:=by
 have neL:∀b o,X.s₀.heap.get? b=some o->b≠X.env.locals:=λb o e=>Qcb (QaS (QbZ e) I.ok.above);have neC:∀b o,X.s₀.heap.get? b=some o->b∉X.ex->b∉ch:=λb o e hx hb=>by
  rcases (hch b hb).1 with z | z
  ·exact hx z
  ·exact absurd (QaS (QbZ e) z) (QbV _)
 have cellK:∀x c,X.env.cells.lookup x=some c->∀v,s.heap.IsCell c v->h'.IsCell c v:=λx c e v ⟨o,ho,hd⟩=>by
  have nch:c∉ch:=λz=>(hch c z).2.2.1 x c e rfl;by_cases hc:c∈X.fs
  ·obtain⟨sl,q⟩:=slot c o (I.cne x c e) hc nch ho (I.Fj x c e);exact⟨_,q,hd⟩
  ·exact⟨o,keep c o (I.cne x c e) hc nch ho (I.Fj x c e),hd⟩
 refine⟨I.ok,I.os,hg,⟨λb o e n hb hx=>?_,λb o e n hb hx=>?_,λb o e n hx=>?_,λb o e hx=>?_,λb xs e=>tups b xs (I.base.tups b xs e),λb o xs e=>Gy b o xs (I.base.Gy b o xs e),λb ps e=>?_⟩,?_,λx c e=>?_,?_,λx c e=>?_,λp hp=>?_,hok,I.len⟩
 ·exact keep b o (neL b o e) hb (neC b o e hx) (I.base.keep b o e n hb hx) (I.base.free b o e n hx)
 ·obtain⟨sl,e1⟩:=I.base.slot b o e n hb hx;obtain⟨sl',e2⟩:=slot b _ (neL b o e) hb (neC b o e hx) e1 (I.base.free b o e n hx);exact⟨sl',e2⟩
 ·obtain⟨o',e1⟩:=I.base.there b o e hx;exact free b o' (neC b o e hx) e1 (I.base.free b o e n hx)
 ·obtain⟨o',e1⟩:=I.base.there b o e hx;exact there b o' (neC b o e hx) e1
 ·obtain⟨m1,e1⟩:=I.base.Hz b ps e;obtain⟨m2,e2⟩:=Hz b _ e1;exact⟨m1++m2,by rw[e2,Array.append_assoc]⟩
 ·obtain⟨m,hn,hl⟩:=I.loc;refine⟨m,ns m hn,λi x v e1 e2 e3=>?_⟩;obtain⟨u,r,l⟩:=hl i x v e1 e2 e3;refine⟨u,r,?_⟩;rcases l with l |⟨k,c,e,z⟩
  ·exact .inl l
  ·exact .inr ⟨k,c,e,cellK x c e _ z⟩
 ·obtain⟨v,z⟩:=I.cell x c e;exact⟨v,cellK x c e v z⟩
 ·obtain⟨m,⟨o,_,_,ho,_⟩,_⟩:=I.loc;exact free _ o (λz=>(hch _ z).2.1 rfl) ho I.free
 ·obtain⟨v,o,ho,hd⟩:=I.cell x c e;exact free c o (λz=>(hch c z).2.2.1 x c e rfl) ho (I.Fj x c e)
 ·obtain⟨e,n,ne,nf,d⟩:=I.pin p hp;have nch:p.1∉ch:=λz=>(hch p.1 z).2.2.2 p hp rfl;exact⟨keep p.1 p.2 ne nf nch e n,free p.1 p.2 nch e n,ne,nf,d⟩
theorem Inv.un {t':Nat} (I:Inv X jb σ H s) (u:Un X.fs [] H H' s.heap h') (hok:HOk X.prog X.w H' h'):Inv X jb σ H' { s with heap:=h',toks:=t' }:=by
 obtain⟨m,⟨o,es,ep,ho,r⟩,_⟩:=id I.loc;obtain⟨sl,hL⟩:=u.any ho I.free (by simp);exact I.step (g':=s.gens) (d':=s.drawn) (ch:=[]) (λ_ z=>nomatch z) (λb o _ hb _ e n=>u.keep b o e n hb (by simp)) (λb o _ hb _ e n=>u.slot b o e n hb (by simp)) (λb o _ e n=>u.free b o e n (by simp)) (λb o _ e=>u.there b o e (by simp)) u.tups u.Gy u.Hz (λm' hm=>by
  obtain⟨o',es',ep',ho',r'⟩:=hm;rw[ho] at ho';cases ho';exact⟨_,es',ep',hL,r'⟩) hok I.bare
theorem Inv.call {g':Array GenState} {t':Nat} {d':Drawn} {ch:List Addr} (I:Inv X jb σ H s) (u:Un (frs X.stack) ch H H' s.heap h') (hok:HOk X.prog X.w H' h') (hg:AllBare g')
  (hch:∀b∈ch,(b∈X.ex\/X.s₀.heap.objs.size<=b)/\b≠X.env.locals/\(∀x c,X.env.cells.lookup x=some c->c≠b)/\∀p∈X.pn++jb,p.1≠b) :
  Inv X jb σ H' { s with heap:=h',gens:=g',drawn:=d',toks:=t' }:=by
 obtain⟨m,⟨o,es,ep,ho,r⟩,_⟩:=id I.loc;obtain⟨sl,hL⟩:=u.any ho I.free λz=>(hch _ z).2.1 rfl;exact I.step (ch:=ch) hch (λb o hL hb hc e n=>u.keep b o e n (λz=>(QbQ.mp (I.Rj b z)).elim hL hb) hc) (λb o _ _ hc e n=>u.any e n hc) (λb o hc e n=>u.free b o e n hc) (λb o hc e=>u.there b o e hc) u.tups u.Gy u.Hz (λm' hm=>by
  obtain⟨o',es',ep',ho',r'⟩:=hm;rw[ho] at ho';cases ho';exact⟨_,es',ep',hL,r'⟩) hok hg
theorem Inv.turned {t':Nat} {it:Addr} (I:Inv X jb σ H s) (k:∀b o,b≠it->s.heap.get? b=some o->h'.get? b=some o) (hn:H it=none) (hL:it≠X.env.locals)
  (h1:it∈X.ex\/X.s₀.heap.objs.size<=it) (h2:∀x c,X.env.cells.lookup x=some c->c≠it) (h3:∀p∈X.pn++jb,p.1≠it):Inv X jb σ H { s with heap:=h',toks:=t' }:=by
 have nit:∀b u,H b=some u->b≠it:=λb u e z=>by rw[z,hn] at e;cases e
 refine I.step (g':=s.gens) (d':=s.drawn) (ch:=[it]) (λb hb=>?_) (λb o _ _ hc e _=>k b o (λz=>hc (by simp[z])) e) (λb o _ _ hc e _=>⟨o.slots,k b o (λz=>hc (by simp[z])) e⟩) (λ_ _ _ _ n=>n)
  (λb o hc e=>⟨o,k b o (λz=>hc (by simp[z])) e⟩) (λ_ _ e=>e) (λ_ _ _ e=>e) (λb ps e=>⟨#[],by rw[e];simp⟩) (λm hm=>?_) (λb u e=>?_) I.bare
 ·have e:b=it:=by simpa using hb
  subst e;exact⟨h1,hL,h2,h3⟩
 ·obtain⟨o,es,ep,ho,r⟩:=hm;exact⟨o,es,ep,k _ o (Ne.symm hL) ho,r⟩
 ·refine (I.hok b u e).stay (λc v hc q=>k c v ?_ q) (λ_ q=>q) λ_ _ q=>q;rcases hc with z | z
  ·rw[z];exact nit b u e
  ·exact nit c _ z
theorem Inv.tok (I:Inv X jb σ H s) (t:Nat):Inv X jb σ H { s with toks:=t }:=I.un (h':=s.heap) (t':=t) Un.refl I.hok
theorem Inv.kept {t':Nat} (I:Inv X jb σ H s) (k:∀b u,s.heap.get? b=some u->h'.get? b=some u):Inv X jb σ H { s with heap:=h',toks:=t' }:=I.un (Un.kept k) (I.hok.kept k)
theorem Inv.laid {a:Addr} {o:HO} {t':Nat} (I:Inv X jb σ H s) (k:∀b u,s.heap.get? b=some u->h'.get? b=some u) (hp:s.heap.objs.size<=a) (new:Cq X.prog X.w (upd H a o) h' a o) :
  Inv X jb σ (upd H a o) { s with heap:=h',toks:=t' }:=I.un (Un.laid k hp (I.hok.fresh hp)) (I.hok.laid k hp new)
theorem Inv.write {x e:Addr} {o:HO} {t':Nat} (I:Inv X jb σ H s) (mu:Mut (H x)) (he:e=x\/H e=some (.own x)) (k:∀b u,b≠e->s.heap.get? b=some u->h'.get? b=some u) (heo:∃u,h'.get? e=some u)
  (new:Cq X.prog X.w (upd H x o) h' x o):Inv X jb σ (upd H x o) { s with heap:=h',toks:=t' }:=I.un (Un.write mu he k heo) (I.hok.write mu he k heo new)
theorem Inv.S8 {Gk:YC} (I:Inv X jb σ H s) (h:∀p∈Gk,s.heap.get? p.1=some p.2/\H p.1=none/\p.1≠X.env.locals/\p.1∉X.fs/\∀v,p.2.data≠.cell v):Inv X Gk σ H s:=
 ⟨I.ok,I.os,I.bare,I.base,I.loc,I.cell,I.free,I.Fj,λp hp=>(Qby.mp hp).elim (λz=>I.pin p (QaF _ z)) (h p),I.hok,I.len⟩
theorem QM {N:YF} (hN:N.Nodup) {i j:Nat} {x:Str} (a:N[i]?=some x) (b:N[j]?=some x):i=j:=by
 obtain⟨h1,e1⟩:=Qaf.mp a;obtain⟨h2,e2⟩:=Qaf.mp b;exact (List.getElem_inj hN).mp (e1.trans e2.symm)
theorem dz {M:Model} {A:Around} {E:YA} {i:Nat} {x:Str} {v:V} {u:Value} {Q:YH} (I:Inv X jb σ H s) (hN:X.N.Nodup) (hi:X.N[i]?=some x) (hx:Loc X.env.scope x) (r:RelV v u)
  (h:∀s',Inv X jb (σ.set i (some v)) H s'->(∃a,Heap.SameBut a s.heap s'.heap/\(a=X.env.locals\/X.env.cells.lookup x=some a))->Q () s') (hf:X.fn x=true\/X.env.scope.names.lookup x=some .local:=by first | exact .inl rfl | exact .inr rfl | assumption):wpAny M A (storeName X.env x u) Q E s:=by
 obtain⟨m,hn,hl⟩:=id I.loc;have hcls:(X.env.scope.kind == .class || (X.env.scope.kind == .module&&X.env.locals != X.env.globals))=false:=by rw[I.ok.kind];rfl
 have hiσ : i < σ.length:=by rw[I.len];exact (Qaf.mp hi).1
 have cne:=I.cne;have tracked:∀{a:Addr} {h':Heap},(∃o,s.heap.get? a=some o/\H a=none)->Heap.SameBut a s.heap h'->HOk X.prog X.w H h':=λ{a h'} ha hs b ob e=>by
  obtain⟨_,_,hfree⟩:=ha;refine (I.hok b ob e).stay (λc w' hc q=>(hs.2 c ?_).trans q) (λ_ q=>q) λ_ _ q=>q;rintro rfl;rcases hc with rfl | hc
  ·rw[hfree] at e;cases e
  ·rw[hfree] at hc;cases hc
 rcases hx with hk | hk
 ·refine wpAny_storeName_local hk hn (λh' hn' hs=>?_) hcls;obtain⟨oL,_,_,hoL,_⟩:=id hn;refine h _ ⟨I.ok,I.os,I.bare,⟨λb o e n hb hx=>?_,λb o e n hb hx=>?_,I.base.free,λb o e hx=>?_,I.base.tups,I.base.Gy,I.base.Hz⟩,⟨_,hn',λj y v' e1 e2 e3=>?_⟩,λy c e=>?_,I.free,I.Fj,λp hp=>?_,tracked ⟨oL,hoL,I.free⟩ hs,by simpa using I.len⟩ ⟨_,hs,.inl rfl⟩
  ·exact (hs.2 b (Qcb (QaS (QbZ e) I.ok.above))).trans (I.base.keep b o e n hb hx)
  ·obtain⟨sl,e1⟩:=I.base.slot b o e n hb hx;exact⟨sl,(hs.2 b (Qcb (QaS (QbZ e) I.ok.above))).trans e1⟩
  ·obtain⟨o',e1⟩:=I.base.there b o e hx;exact⟨o',(hs.2 b (Qcb (QaS (QbZ e) I.ok.above))).trans e1⟩
  ·by_cases hj:j=i
   ·subst hj;rw[hi] at e1;cases e1;rw[List.getElem?_set_self hiσ] at e2;cases e2;exact⟨u,r,.inl ⟨hk,by simp⟩⟩
   ·rw[List.getElem?_set_ne (Ne.symm hj)] at e2;obtain⟨u',r',q⟩:=hl j y v' e1 e2 e3;refine⟨u',r',?_⟩;rcases q with⟨k,e⟩|⟨k,c,e,z⟩
    ·refine .inl ⟨k,?_⟩;have:y≠x:=λe=>hj (QM hN e1 (e ▸ hi));simp[this,e]
    ·exact .inr ⟨k,c,e,z.sameBut hs (cne y c e)⟩
  ·obtain⟨w',z⟩:=I.cell y c e;exact⟨w',z.sameBut hs (cne y c e)⟩
  ·obtain⟨e,n,ne,nf,d⟩:=I.pin p hp;exact⟨(hs.2 p.1 ne).trans e,n,ne,nf,d⟩
 ·have hfn:X.fn x=true:=by
   rcases hf with z | z
   ·exact z
   ·rw[z] at hk;cases hk
  obtain⟨c,hc⟩:=I.ok.has x (.inl hk);obtain⟨w',z⟩:=I.cell x c hc;refine wpAny_storeName_cell I.ok.kind hk hc z (λh' hc' hs=>?_);obtain⟨oc,hoc,AB⟩:=id z;refine h { s with heap:=h' } ⟨I.ok,I.os,I.bare,⟨λb o e n hb hx=>?_,λb o e n hb hx=>?_,I.base.free,λb o e hx=>?_,I.base.tups,I.base.Gy,I.base.Hz⟩,⟨m,hn.sameBut hs (Ne.symm (cne x c hc)),λj y v' e1 e2 e3=>?_⟩,λy c' e=>?_,I.free,I.Fj,λp hp=>?_,tracked ⟨oc,hoc,I.Fj x c hc⟩ hs,by simpa using I.len⟩ ⟨c,hs,.inr hc⟩
  ·exact (hs.2 b (Qcb (QaS (QbZ e) (I.ok.cab x c hfn hc)))).trans (I.base.keep b o e n hb hx)
  ·obtain⟨sl,e1⟩:=I.base.slot b o e n hb hx;exact⟨sl,(hs.2 b (Qcb (QaS (QbZ e) (I.ok.cab x c hfn hc)))).trans e1⟩
  ·obtain⟨o',e1⟩:=I.base.there b o e hx;exact⟨o',(hs.2 b (Qcb (QaS (QbZ e) (I.ok.cab x c hfn hc)))).trans e1⟩
  ·by_cases hj:j=i
   ·subst hj;rw[hi] at e1;cases e1;rw[List.getElem?_set_self hiσ] at e2;cases e2;exact⟨u,r,.inr ⟨.inl hk,c,hc,hc'⟩⟩
   ·rw[List.getElem?_set_ne (Ne.symm hj)] at e2;obtain⟨u',r',q⟩:=hl j y v' e1 e2 e3;refine⟨u',r',?_⟩;rcases q with q |⟨k,c',e,z'⟩
    ·exact .inl q
    ·refine .inr ⟨k,c',e,z'.sameBut hs ?_⟩;rintro rfl;exact hj (QM hN e1 (I.ok.inj _ _ _ e hc ▸ hi))
  ·by_cases hcc:c'=c
   ·subst hcc;exact⟨_,hc'⟩
   ·obtain⟨w2,z2⟩:=I.cell y c' e;exact⟨w2,z2.sameBut hs hcc⟩
  ·obtain⟨e,n,ne,nf,d⟩:=I.pin p hp;refine⟨(hs.2 p.1 ?_).trans e,n,ne,nf,d⟩;intro q;rw[q,hoc] at e;have q':oc=p.2:=QbB e;exact d w' (by rw[<-q'];exact AB)
theorem M8 {M:Model} {A:Around} {E:YA} {i:Nat} {x:Str} {v:V} {u:Value} {Q:YH} (I:Inv X jb σ H s) (hN:X.N.Nodup) (hi:X.N[i]?=some x) (hx:Loc X.env.scope x) (r:RelV v u)
  (h:∀s',Inv X jb (σ.set i (some v)) H s'->Q () s') (hf:X.fn x=true\/X.env.scope.names.lookup x=some .local:=by first | exact .inl rfl | exact .inr rfl | assumption):wpAny M A (storeName X.env x u) Q E s:=
 dz I hN hi hx r (λs' I' _=>h s' I') hf
theorem Inv.call' {s':Shared} {ch:List Addr} (I:Inv X jb σ H s) (ho:s'.os=s.os) (u:Un (frs X.stack) ch H H' s.heap s'.heap) (hok:HOk X.prog X.w H' s'.heap) (hg:AllBare s'.gens)
  (hch:∀b∈ch,(b∈X.ex\/X.s₀.heap.objs.size<=b)/\b≠X.env.locals/\(∀x c,X.env.cells.lookup x=some c->c≠b)/\∀p∈X.pn++jb,p.1≠b):Inv X jb σ H' s':=by
 obtain⟨h',g',d',t',o'⟩:=s';have e:o'=s.os:=ho;subst e;exact I.call (g':=g') (t':=t') (d':=d') u hok hg hch
end
abbrev XK:=Value->Option Addr->Hp->Prop
abbrev St:=List (Option V)
abbrev VK:=V->Hp->Prop
abbrev TE:=St->Hp->VK->Prop
abbrev TT:=St->Hp->(Bool->Hp->Prop)->Prop
abbrev TA:=St->Hp->(YG->Hp->Prop)->Prop
structure Ends where
 nx:St->Hp->Prop
 rt:VK
 bk:St->Hp->Prop:=λ_ _=>False
 ct:St->Hp->Prop:=λ_ _=>False
abbrev YO:=St->Hp->Prop
abbrev TS:=Ends->YO
def EP (X:Cx) (jb:YC) (σ : St) (Q:VK) (u:Value) (s':Shared):Prop:=∃v H',Inv X jb σ H' s'/\RelV v u/\Q v H'
def TP (X:Cx) (jb:YC) (σ : St) (Q:Bool->Hp->Prop) (b:Bool) (s':Shared):Prop:=∃H',Inv X jb σ H' s'/\Q b H'
def AP (X:Cx) (jb:YC) (σ : St) (Q:YG->Hp->Prop) (us:YE) (s':Shared):Prop:=∃vs H',Inv X jb σ H' s'/\Vals vs us/\Q vs H'
def SP (X:Cx) (jb:YC) (D:Ends) (f:Flow) (s':Shared):Prop:=
 match f with
 | .next=>∃ σ' H',Inv X jb σ' H' s'/\D.nx σ' H'
 | .brk=>∃ σ' H',Inv X jb σ' H' s'/\D.bk σ' H'
 | .cont=>∃ σ' H',Inv X jb σ' H' s'/\D.ct σ' H'
 | .ret u=>∃v σ' H',Inv X jb σ' H' s'/\RelV v u/\D.rt v H'
def PE (X:Cx) (e:Expr) (t:TE):Prop:=
 ∀(jb:YC) (s:Shared) (σ : St) (H:Hp) (Q:VK),Inv X jb σ H s->t σ H Q->wpAny (model X.prog X.w) X.A (eval e X.env) (EP X jb σ Q) X.xe s
def PT (X:Cx) (e:Expr) (t:TT):Prop:=
 ∀(jb:YC) (s:Shared) (σ : St) (H:Hp) (Q:Bool->Hp->Prop),Inv X jb σ H s->t σ H Q->wpAny (model X.prog X.w) X.A (isTrue e X.env (eval e X.env)) (TP X jb σ Q) X.xe s
def PW (X:Cx) (e:Expr) (t:TT):Prop:=
 ∀(whole:Sem Value) (jb:YC) (s:Shared) (σ : St) (H:Hp) (Q:Bool->Hp->Prop),Inv X jb σ H s->t σ H Q->wpAny (model X.prog X.w) X.A (isTrue e X.env whole) (TP X jb σ Q) X.xe s
theorem PW.pt {X:Cx} {e:Expr} {t:TT} (h:PW X e t):PT X e t:=h _
def PA (X:Cx) (es:YJ) (t:TA):Prop:=
 ∀(pos:Pos) (jb:YC) (s:Shared) (σ : St) (H:Hp) (Q:YG->Hp->Prop),Inv X jb σ H s->t σ H Q->wpAny (model X.prog X.w) X.A (spliced (backTo pos (starEach es X.env))) (AP X jb σ Q) X.xe s
def PS (X:Cx) (st:Stmt) (t:TS):Prop:=
 ∀(jb:YC) (s:Shared) (σ : St) (H:Hp) (D:Ends),Inv X jb σ H s->t D σ H->wpAny (model X.prog X.w) X.A (exec st X.env) (SP X jb D) X.xe s
def PSs (X:Cx) (st:List Stmt) (t:TS):Prop:=
 ∀(jb:YC) (s:Shared) (σ : St) (H:Hp) (D:Ends),Inv X jb σ H s->t D σ H->wpAny (model X.prog X.w) X.A (execs st X.env) (SP X jb D) X.xe s
theorem thn {α : Type} {t:Sem α} {Q Q':α->Shared->Prop} {M:Model} {A:Around} {E:YA} {s:Shared} (h:wpAny M A t Q E s) (hQ:∀a s,Q a s->Q' a s):wpAny M A t Q' E s:=Qcl h hQ λ_ _ x=>x
section
variable {X:Cx}
theorem bin {a b:Expr} {ta tb:TE} (ha:PE X a ta) (hb:PE X b tb) {jb:YC} {s:Shared} {σ : St} {H:Hp} {R:V->V->Hp->Prop} (I:Inv X jb σ H s) (h:ta σ H λx H1=>tb σ H1 λy H2=>R x y H2)
  {α : Type} {Q:α->Shared->Prop} {f:Value->Value->Sem α}
  (hf:∀v u s2 x y H2,Inv X jb σ H2 s2->RelV x v->RelV y u->R x y H2->wpAny (model X.prog X.w) X.A (f v u) Q X.xe s2) :
  wpAny (model X.prog X.w) X.A (eval a X.env) (λv s₁=>wpAny (model X.prog X.w) X.A (eval b X.env) (λu s₂=>wpAny (model X.prog X.w) X.A (f v u) Q X.xe s₂) X.xe s₁) X.xe s:=by
 refine thn (ha jb s σ H _ I h) λv s1 zz=>?_;obtain⟨x,H1,I1,r1,q1⟩:=zz;refine thn (hb jb s1 σ H1 _ I1 q1) λu s2 zz=>?_;obtain⟨y,H2,I2,r2,q2⟩:=zz;exact hf v u s2 x y H2 I2 r1 r2 q2
def qQ (i:Nat):TE:=fun σ H Q=>∃v,σ[i]?=some (some v)/\Q v H
def tC (v:V):TE:=λ_ H Q=>Q v H
theorem rO {i:Nat} {x:Str} {pos:Pos} (hN:X.N[i]?=some x) (hv:Vis X.env.scope x) (hd:(x == ("__debug__":Str))=false:=by decide) (hcd:(x == ("__classdict__":Str))=false:=by decide):PE X (.Name x pos) (qQ i):=by
 intro jb s σ H Q I h;obtain⟨v,e,h⟩:=h;obtain⟨m,hn,hl⟩:=I.loc;obtain⟨u,r,l⟩:=hl i x v hN e hv;have fin:EP X jb σ Q u s:=⟨v,H,I,r,h⟩;rcases l with⟨hk,hm⟩|⟨hk,c,hc,hcell⟩
 ·exact wpAny_Name (wpAny_loadName_local I.ok.kind hk hn hm fin) hd
 ·rcases hk with hk | hk
  ·exact wpAny_Name (wpAny_loadName_cell I.ok.kind hk hc hcell fin) hd
  ·exact wpAny_Name (wpAny_loadName_free I.ok.kind hk hc hcell fin hcd) hd
theorem Ad {i j pos}:PE X (.Constant (.int i) j pos) (tC (.int i)):=λ_ _ _ H _ I h=>wpAny_Constant_int ⟨.int i,H,I.tok _,⟨_,rfl⟩,h⟩
theorem Gm {b j pos}:PE X (.Constant (.bool b) j pos) (tC (.bl b)):=λ_ _ _ H _ I h=>Constant_bool ⟨.bl b,H,I,rfl,h⟩
theorem Wq {j pos}:PE X (.Constant .none j pos) (tC .non):=λ_ _ _ H _ I h=>Constant_none ⟨.non,H,I,rfl,h⟩
theorem Ai {x j pos}:PE X (.Constant (.str x) j pos) (tC (.str x)):=λ_ _ _ H _ I h=>Calls.Constant_str ⟨.str x,H,I.tok _,⟨_,rfl⟩,h⟩
def Gl (X:Cx) (x:Str):Prop:=X.env.kindOf x=some .globalImplicit
theorem KC {E:YA} {jb:YC} {s:Shared} {σ : St} {H:Hp} {x:Str} {u:Value} {pos:Pos} {Q:YA} (I:Inv X jb σ H s) (hg:Gl X x) (hm:X.mg x=some u) (h:Q u s)
  (hd:(x == ("__debug__":Str))=false:=by decide):wpAny (model X.prog X.w) X.A (eval (.Name x pos) X.env) Q E s:=
 Calls.Name_function_global I.ok.kind hg (Calls.loadGlobal_global (by rw[I.ok.glob];exact I.mod.glob.keeps I.bk) hm h) hd
theorem JW {E:YA} {jb:YC} {s:Shared} {σ : St} {H:Hp} {x:Str} {u:Value} {pos:Pos} {Q:YA} (I:Inv X jb σ H s) (hg:Gl X x) (hm:X.mg x=none) (hv:bootBuiltins x=some u) (h:Q u s)
  (hn:x≠"__name__":=by decide) (hd:(x == ("__debug__":Str))=false:=by decide):wpAny (model X.prog X.w) X.A (eval (.Name x pos) X.env) Q E s:=by
 obtain⟨mb,h1,h2⟩:=I.mod.blt;exact Calls.Name_function_global I.ok.kind hg (Calls.loadGlobal_builtin (by rw[I.ok.glob];exact I.mod.glob.keeps I.bk) hm (by rw[I.ok.blt];exact h1.keeps I.bk) ((h2 x hn).trans hv) h) hd
theorem DP {x:Str} {v:V} {u:Value} {pos:Pos} (hg:Gl X x) (hm:X.mg x=some u) (r:RelV v u) (hd:(x == ("__debug__":Str))=false:=by decide):PE X (.Name x pos) (tC v):=
 λ_ _ _ H _ I h=>KC I hg hm ⟨v,H,I,r,h⟩ hd
theorem Ij {x:Str} {v:V} {u:Value} {pos:Pos} (hg:Gl X x) (hm:X.mg x=none) (hv:bootBuiltins x=some u) (r:RelV v u) (hn:x≠"__name__":=by decide) (hd:(x == ("__debug__":Str))=false:=by decide):PE X (.Name x pos) (tC v):=
 λ_ _ _ H _ I h=>JW I hg hm hv ⟨v,H,I,r,h⟩ hn hd
variable {a b:Expr} {ta tb:TE} {pos:Pos}
def PC (X:Cx) (op:CmpOp) (a b:Expr) (t:TE):Prop:=
 ∀(jb:YC) (s:Shared) (σ : St) (H:Hp) (Q:VK),Inv X jb σ H s->t σ H Q ->
  wpAny (model X.prog X.w) X.A (eval a X.env) (λv s₁=>wpAny (model X.prog X.w) X.A (eval b X.env) (λu s₂=>wpAny (model X.prog X.w) X.A (compareOp op v u) (EP X jb σ Q) X.xe s₂) X.xe s₁) X.xe s
theorem jW (b:Expr) {op:CmpOp} (h:op≠.In) (h2:op≠.NotIn):behindInMarks op b=false:=by
 have e1:(op == CmpOp.In)=false:=by cases op <;> first | rfl | exact absurd rfl h
 have e2:(op == CmpOp.NotIn)=false:=by cases op <;> first | rfl | exact absurd rfl h2
 cases b <;> simp[behindInMarks,e1,e2]
def tB (t:TE):TT:=fun σ H Q=>t σ H λx H1=>∃c,x=.bl c/\Q c H1
theorem DH {op:CmpOp} {t:TE} (h:PC X op a b t) (h1:behindInMarks op b=false:=by first | exact jW _ (by decide) (by decide) | rfl):PT X (.Compare a [op] [b] pos) (tB t):=by
 intro jb s σ H Q I hw;refine wpAny_isTrue_Compare1 (thn (h jb s σ H _ I hw) λv s1 h1=>thn h1 λu s2 h2=>thn h2 λc s3 zz=>?_) h1;obtain⟨x,H1,I1,r1,q1⟩:=zz;obtain⟨d,rfl,q⟩:=q1;cases r1;exact Qbf ⟨H1,I1,q⟩
theorem DK {e:Expr} {t:TE} (h:PE X e t) (he:∀whole,isTrue e X.env whole=(do let v <-whole;standAt e.pos;holding [v] (truthy v)):=by intro _;rfl):PT X e (tB t):=by
 intro jb s σ H Q I hw;refine isTrue_plain (thn (h jb s σ H _ I hw) λv s1 zz=>?_) (he _);obtain⟨x,H1,I1,r1,q1⟩:=zz;obtain⟨d,rfl,q⟩:=q1;cases r1;exact Qbf ⟨H1,I1,q⟩
variable {tA tB':TT} {rest:YJ}
def xq (t u:TT):TT:=fun σ H Q=>t σ H λc H1=>if c=true then u σ H1 Q else Q false H1
def tOr (t u:TT):TT:=fun σ H Q=>t σ H λc H1=>if c=true then Q true H1 else u σ H1 Q
def wZ (t:TT):TT:=fun σ H Q=>t σ H λc H1=>Q (!c) H1
theorem oX (ha:PT X a tA):PW X (.BoolOp .And [a] pos) tA:=by
 intro wh jb s σ H Q I h;refine isTrue_and (thn (ha jb s σ H Q I h) λc s1 e=>?_);cases c with
 | true=>exact isTrue_and_nil e
 | false=>exact e
theorem JF (ha:PT X a tA):PW X (.BoolOp .Or [a] pos) tA:=by
 intro wh jb s σ H Q I h;refine isTrue_or (thn (ha jb s σ H Q I h) λc s1 e=>?_);cases c with
 | false=>exact isTrue_or_nil e
 | true=>exact e
theorem rH (ha:PT X a tA) (hb:PW X (.BoolOp .And (b::rest) pos) tB'):PW X (.BoolOp .And (a::b::rest) pos) (xq tA tB'):=by
 intro wh jb s σ H Q I h;refine isTrue_and (thn (ha jb s σ H _ I h) λc s1 zz=>?_);obtain⟨H1,I1,q1⟩:=zz;cases c with
 | true=>exact hb wh jb s1 σ H1 Q I1 q1
 | false=>exact⟨H1,I1,q1⟩
theorem Kq (ha:PT X a tA) (hb:PW X (.BoolOp .Or (b::rest) pos) tB'):PW X (.BoolOp .Or (a::b::rest) pos) (tOr tA tB'):=by
 intro wh jb s σ H Q I h;refine isTrue_or (thn (ha jb s σ H _ I h) λc s1 zz=>?_);obtain⟨H1,I1,q1⟩:=zz;cases c with
 | true=>exact⟨H1,I1,q1⟩
 | false=>exact hb wh jb s1 σ H1 Q I1 q1
theorem Ea (ha:PT X a tA):PT X (.UnaryOp .Not a pos) (wZ tA):=by
 intro jb s σ H Q I h;exact isTrue_not (ha jb s σ H (λc H1=>Q (!c) H1) I h)
def vH (ta tb:TE):TE:=fun σ H Q=>ta σ H λx H1=>∃c,x=.bl c/\if c=true then tb σ H1 Q else Q (.bl false) H1
def vA (ta:TE):TE:=fun σ H Q=>ta σ H λx H1=>∃c,x=.bl c/\Q (.bl (!c)) H1
theorem Fd {op} {t:TE} (h:PE X a t):PE X (.BoolOp op [a] pos) t:=λjb s σ H Q I hw=>BoolOp_one (h jb s σ H Q I hw)
theorem El (ha:PE X a ta) (hb:PE X (.BoolOp .And (b::rest) pos) tb):PE X (.BoolOp .And (a::b::rest) pos) (vH ta tb):=by
 intro jb s σ H Q I h;refine BoolOp_and (thn (ha jb s σ H _ I h) λv s1 zz=>?_);obtain⟨x,H1,I1,r1,q1⟩:=zz;obtain⟨c,rfl,q1⟩:=q1;cases r1;refine Qbf ?_;cases c with
 | true=>exact hb jb s1 σ H1 Q I1 q1
 | false=>exact⟨.bl false,H1,I1,rfl,q1⟩
theorem rP (ha:PE X a ta):PE X (.UnaryOp .Not a pos) (vA ta):=by
 intro jb s σ H Q I h;refine UnaryOp_ (thn (ha jb s σ H _ I h) λv s1 zz=>?_);obtain⟨x,H1,I1,r1,q1⟩:=zz;obtain⟨c,rfl,q1⟩:=q1;cases r1;exact not_of (Qbf ⟨.bl (!c),H1,I1,rq,q1⟩)
def tIf (t:TT) (ta tb:TE):TE:=fun σ H Q=>t σ H λc H1=>if c=true then ta σ H1 Q else tb σ H1 Q
theorem Wr {c:Expr} (hc:PT X c tA) (ha:PE X a ta) (hb:PE X b tb):PE X (.IfExp c a b pos) (tIf tA ta tb):=by
 intro jb s σ H Q I h;refine wpAny_IfExp (thn (hc jb s σ H _ I h) λd s1 zz=>?_);obtain⟨H1,I1,q1⟩:=zz;cases d with
 | true=>exact ha jb s1 σ H1 Q I1 q1
 | false=>exact hb jb s1 σ H1 Q I1 q1
end
def SqL (K:YD) (H:Hp) (a:Addr) (xs:YG):Prop:=
 Rd H a (.lst xs) \/
  ∃(o:Obj) (its:Array Value) (n:Nat),K.lookup a=some o/\o.cls=.type "list"/\o.dict=none/\o.data=.seq its n/\its.size<=sizeLine/\Vals xs its.toList
def SqT (K:YD) (H:Hp) (a:Addr) (xs:YG):Prop:=
 Rd H a (.tup xs) \/
  ∃(o:Obj) (its:Array Value) (n:Nat),K.lookup a=some o/\o.cls=.type "tuple"/\o.data=.seq its n/\its.size<=sizeLine/\Vals xs its.toList
def Dx:Value->Option V
 | .none=>some .non
 | .bool b=>some (.bl b)
 | .int i _=>some (.int i)
 | .str x _=>some (.str x)
 | .bytes b _=>some (.byt b)
 | .float b _=>some (.flt b)
 | .ref a=>some (.ref a)
 | .type n=>some (.ty n)
 | _=>none
theorem RelV.abs {x:V} {u:Value} (r:RelV x u):Dx u=some x:=by
 cases x with
 | non=>cases r;rfl
 | bl _=>cases r;rfl
 | int _=>obtain⟨t,rfl⟩:=r;rfl
 | str _=>obtain⟨t,rfl⟩:=r;rfl
 | byt _=>obtain⟨t,rfl⟩:=r;rfl
 | flt _=>obtain⟨t,rfl⟩:=r;rfl
 | ref _=>cases r;rfl
 | ty _=>cases r;rfl
theorem RelV.inj {x y:V} {u:Value} (r:RelV x u) (q:RelV y u):x=y:=QbB (r.abs.symm.trans q.abs)
theorem Vals.inj:∀{xs ys:YG} {us:YE},Vals xs us->Vals ys us->xs=ys
 | _,_,_,.nil,.nil=>rfl
 | _,_,_,.cons r t,.cons r' t'=>by rw[r.inj r',Vals.inj t t']
section
variable {X:Cx} {jb:YC} {σ : St} {H:Hp} {s:Shared} {a:Addr} {xs ys:YG}
theorem SqL.of {K:YD} (h:H a=some (.lst xs)):SqL K H a xs:=.inl (.inl h)
theorem SqT.of {K:YD} (h:H a=some (.tup xs)):SqT K H a xs:=.inl (.inl h)
theorem Inv.list (I:Inv X jb σ H s) (h:SqL X.K H a xs):∃its:YE,Vals xs its/\PlainL s.heap a its.toArray/\xs.length<=sizeLine:=by
 rcases h with h |⟨o,its,n,hk,hc,hd,hs,hz,r⟩
 ·obtain⟨z,its,n,r,e⟩:=h.ok I.hok;exact⟨its,r,⟨_,n,e,rq,rq,rq⟩,z⟩
 ·refine⟨its.toList,r,⟨o,n,I.kIn a o hk,hc,hd,by simpa using hs⟩,?_⟩;have e:=r.length;simp only[QaI] at e;omega
theorem Inv.tuple (I:Inv X jb σ H s) (h:SqT X.K H a xs):∃its:YE,Vals xs its/\IsTup s.heap a its.toArray/\xs.length<=sizeLine:=by
 rcases h with h |⟨o,its,n,hk,hc,hs,hz,r⟩
 ·obtain⟨z,its,r,p⟩:=h.ok I.hok;exact⟨its,r,p,z⟩
 ·refine⟨its.toList,r,⟨o,I.kIn a o hk,hc,n,by simpa using hs⟩,?_⟩;have e:=r.length;simp only[QaI] at e;omega
theorem Inv.j9 (I:Inv X jb σ H s) (h:SqL X.K H a xs) (h':SqL X.K H a ys):xs=ys:=by
 obtain⟨its,r,⟨o,n,e,_,_,d⟩,_⟩:=I.list h;obtain⟨its',r',⟨o',n',e',_,_,d'⟩,_⟩:=I.list h';rw[e] at e';cases e';rw[d] at d';injection d' with d1 _;have:its=its':=by simpa using congrArg Array.toList d1
 subst this;exact r.inj r'
theorem Inv.T9 (I:Inv X jb σ H s) (h:SqT X.K H a xs) (h':SqT X.K H a ys):xs=ys:=by
 obtain⟨its,r,⟨o,e,_,n,d⟩,_⟩:=I.tuple h;obtain⟨its',r',⟨o',e',_,n',d'⟩,_⟩:=I.tuple h';rw[e] at e';cases e';rw[d] at d';injection d' with d1 _;have:its=its':=by simpa using congrArg Array.toList d1
 subst this;exact r.inj r'
end
abbrev Cx.wish (X:Cx) (E:YA):Cx:={ X with xe:=E }
abbrev Cx.nox (X:Cx):Cx:=X.wish λ_ _=>False
theorem Cx.Ok.wish {X:Cx} (ok:X.Ok) (E:YA):(X.wish E).Ok:=
 ⟨ok.mod,ok.kind,ok.glob,ok.blt,ok.above,ok.inj,ok.has,ok.cab,ok.hd,ok.frames,ok.stk,ok.exf,ok.bs,ok.bsz,ok.K7,ok.Kh,ok.FW,ok.frf⟩
theorem Cx.Ok.JB {X:Cx} {E:YA} (ok:(X.wish E).Ok):X.Ok:=
 ⟨ok.mod,ok.kind,ok.glob,ok.blt,ok.above,ok.inj,ok.has,ok.cab,ok.hd,ok.frames,ok.stk,ok.exf,ok.bs,ok.bsz,ok.K7,ok.Kh,ok.FW,ok.frf⟩
section
variable {X:Cx} {jb:YC} {σ : St} {H:Hp} {s:Shared} {E:YA}
theorem Inv.wish (I:Inv X jb σ H s) (E:YA):Inv (X.wish E) jb σ H s:=⟨I.ok.wish E,I.os,I.bare,I.base,I.loc,I.cell,I.free,I.Fj,I.pin,I.hok,I.len⟩
theorem Inv.JB (I:Inv (X.wish E) jb σ H s):Inv X jb σ H s:=⟨I.ok.JB,I.os,I.bare,I.base,I.loc,I.cell,I.free,I.Fj,I.pin,I.hok,I.len⟩
theorem SP.JB {D:Ends} {f:Flow} {s':Shared} (h:SP (X.wish E) jb D f s'):SP X jb D f s':=by
 cases f with
 | next=>obtain⟨σ',H',I,q⟩:=h;exact⟨σ',H',I.JB,q⟩
 | brk=>obtain⟨σ',H',I,q⟩:=h;exact⟨σ',H',I.JB,q⟩
 | cont=>obtain⟨σ',H',I,q⟩:=h;exact⟨σ',H',I.JB,q⟩
 | ret u=>obtain⟨v,σ',H',I,r,q⟩:=h;exact⟨v,σ',H',I.JB,r,q⟩
theorem PSs.nox {st:List Stmt} {t:TS} (h:PSs X.nox st t):PSs X st t:=λjb s σ H D I hw=>
 Qcl (h jb s σ H D (I.wish _) hw) (λ_ _ q=>q.JB) λ_ _ z=>False.elim z
end
section
variable {X:Cx} {st:Stmt} {rest:List Stmt} {t u:TS} {e:Expr} {te:TE} {pos:Pos}
def vB:TS:=λD σ H=>D.nx σ H
def Ar (t u:TS):TS:=λD σ H=>t { D with nx:=u D } σ H
theorem Bq:PSs X [] vB:=λ_ _ σ H _ I h=>wpAny_execs_nil ⟨σ,H,I,h⟩
theorem Ae (h1:PS X st t) (h2:PSs X rest u):PSs X (st::rest) (Ar t u):=by
 intro jb s σ H D I h;refine wpAny_execs_cons (thn (h1 jb s σ H { D with nx:=u D } I h) λf s1 q=>?_);cases f with
 | next=>
  obtain⟨σ',H',I',q⟩:=q;exact h2 jb s1 σ' H' D I' q
 | ret v=>exact q
 | brk=>exact q
 | cont=>exact q
theorem Ah (h1:PS X st t):PSs X [st] t:=by
 intro jb s σ H D I h;refine wpAny_execs_cons (thn (h1 jb s σ H D I h) λf s1 q=>?_);cases f with
 | next=>exact wpAny_execs_nil q
 | ret v=>exact q
 | brk=>exact q
 | cont=>exact q
theorem Inv.quiet {jb:YC} {σ : St} {H:Hp} {s:Shared} (I:Inv X jb σ H s):interactive X.env=false:=by simp[interactive,I.ok.kind]
def vG (te:TE):TS:=λD σ H=>te σ H λ_ H1=>D.nx σ H1
theorem Cr (he:PE X e te) (hs:swapsWith e none pos.line X.env=pure false:=by rfl):PS X (.Expr e pos) (vG te):=by
 intro jb s σ H D I h;refine wpAny_Expr_any (thn (he jb s σ H _ I h) λv s1 zz=>?_) I.quiet hs;obtain⟨x,H1,I1,r1,q1⟩:=zz;exact⟨σ,H1,I1,q1⟩
def wY (te:TE):TS:=λD σ H=>te σ H D.rt
theorem Bc (he:PE X e te):PS X (.Return (some e) pos) (wY te):=by
 intro jb s σ H D I h;refine wpAny_Return_some (thn (he jb s σ H _ I h) λv s1 zz=>?_);obtain⟨x,H1,I1,r1,q1⟩:=zz;exact⟨x,σ,H1,I1,r1,q1⟩
def Ec (c:TT) (t u:TS):TS:=λD σ H=>c σ H λb H1=>if b=true then t D σ H1 else u D σ H1
theorem BP {c:Expr} {a b:List Stmt} {tc:TT} (hc:PT X c tc) (ha:PSs X a t) (hb:PSs X b u):PS X (.If c a b pos) (Ec tc t u):=by
 intro jb s σ H D I h;refine wpAny_If (thn (hc jb s σ H _ I h) λd s1 zz=>?_);obtain⟨H1,I1,q1⟩:=zz;cases d with
 | true=>exact ha jb s1 σ H1 D I1 q1
 | false=>exact hb jb s1 σ H1 D I1 q1
end
abbrev TG:=V->St->Hp->(YO)->Prop
abbrev TGs:=YG->St->Hp->(YO)->Prop
def PG (X:Cx) (target:Expr) (t:TG):Prop:=
 ∀(jb:YC) (s:Shared) (σ : St) (H:Hp) (v:V) (u:Value) (Q:YO),Inv X jb σ H s->RelV v u->t v σ H Q ->
  wpAny (model X.prog X.w) X.A (assign target X.env u) (λ_ s'=>∃ σ' H',Inv X jb σ' H' s'/\Q σ' H') X.xe s
def PGs (X:Cx) (ts:YJ) (t:TGs):Prop:=
 ∀(jb:YC) (s:Shared) (σ : St) (H:Hp) (vs:YG) (us:YE) (Q:YO),Inv X jb σ H s->Vals vs us->t vs σ H Q ->
  wpAny (model X.prog X.w) X.A (assignInOrder ((assignEach ts X.env).map (·.2)) us) (λ_ s'=>∃ σ' H',Inv X jb σ' H' s'/\Q σ' H') X.xe s
abbrev mX:=V->V->V->Hp->(Hp->Prop)->Prop
def uY (X:Cx) (t:mX):Prop:=
 ∀(jb:YC) (s:Shared) (σ : St) (H:Hp) (o i v:V) (ov iv u:Value) (Q:Hp->Prop),Inv X jb σ H s->RelV o ov->RelV i iv->RelV v u->t o i v H Q ->
  wpAny (model X.prog X.w) X.A (setItem ov iv u) (λ_ s'=>∃H',Inv X jb σ H' s'/\Q H') X.xe s
section
variable {X:Cx} {pos:Pos}
def Ef (i:Nat):TG:=λv σ H Q=>Q (σ.set i (some v)) H
theorem Aj {i:Nat} {x:Str} (hN:X.N.Nodup) (hi:X.N[i]?=some x) (hx:Loc X.env.scope x) (hf:X.fn x=true\/X.env.scope.names.lookup x=some .local:=by first | exact .inl rfl | exact .inr rfl | assumption):PG X (.Name x pos) (Ef i):=by
 intro jb s σ H v u Q I r h;exact wpAny_assign_Name (M8 I hN hi hx r (λs' I'=>⟨_,H,I',h⟩) hf)
def A5:TGs:=λvs σ H Q=>vs=[]/\Q σ H
def nP (t:TG) (u:TGs):TGs:=λvs σ H Q=>∃v r,vs=v::r/\t v σ H fun σ' H'=>u r σ' H' Q
theorem Ck:PGs X [] A5:=by
 intro jb s σ H vs us Q I r h;obtain⟨e,h⟩:=h;subst e;cases r;exact assignInOrder_nil ⟨σ,H,I,h⟩
theorem Av {e:Expr} {es:YJ} {t:TG} {u:TGs} (h1:PG X e t) (h2:PGs X es u)
  (hs:(assignEach (e::es) X.env).map (·.2)=assign e X.env::(assignEach es X.env).map (·.2):=by rfl):PGs X (e::es) (nP t u):=by
 intro jb s σ H vs us Q I r h;obtain⟨v,vr,e1,h⟩:=h;subst e1;cases r with
 | cons r rr=>
  rw[hs];refine assignInOrder_cons (thn (h1 jb s σ H _ _ _ I r h) λ_ s1 zz=>?_);obtain⟨σ1,H1,I1,q1⟩:=zz;exact h2 jb s1 σ1 H1 _ _ Q I1 rr q1
def uJ (K:YD) (n:Nat) (t:TGs):TG:=λv σ H Q=>∃a xs,v=.ref a/\SqT K H a xs/\xs.length=n/\t xs σ H Q
theorem Di {es:YJ} {k:Nat} {t:TGs} {n:Nat} (hc:X.calm=true) (h:PGs X es t)
  (hn:(assignEach es X.env).length=n:=by rfl) (hst:(assignEach es X.env).findIdx? (·.1)=none:=by rfl):PG X (.Tuple es k pos) (uJ X.K n t):=by
 intro jb s σ H v u Q I r hw;obtain⟨a,xs,e1,hq,hl,hw⟩:=hw;subst e1;cases r;obtain⟨its,rv,ht,hz⟩:=I.tuple hq;refine assign_Tuple_tuple (I.ok.hd hc) ht (by simp[hn,<-hl,rv.length]) hst λh' hx=>?_;have I1:Inv X jb σ H { s with heap:=h' }:=I.kept (t':=s.toks) λb o e=>hx b o (Qcb (QbZ e)) e;exact h jb _ σ H xs _ Q I1 (by simpa using rv) hw
def A4 (to ti:TE) (t:mX):TG:=λv σ H Q=>to σ H λo H1=>ti σ H1 λi H2=>t o i v H2 λH3=>Q σ H3
theorem Ry {o i:Expr} {to ti:TE} {t:mX} (ho:PE X o to) (hi:PE X i ti) (hs:uY X t)
  (ha:∀v,assign (.Subscript o i pos) X.env v=(do
   let ov <-holding [v] (eval o X.env);let iv <-holding [v,ov] (eval i X.env)
   standAt pos
   holding [v,ov,iv] (setItem ov iv v)
   release [v,ov,iv] []):=by intro _;rfl):PG X (.Subscript o i pos) (A4 to ti t):=by
 intro jb s σ H v u Q I r h;rw[ha];refine Qcj (QbU (thn (ho jb s σ H _ I h) λov s1 zz=>?_));obtain⟨x,H1,I1,r1,q1⟩:=zz;refine Qcj (QbU (thn (hi jb s1 σ H1 _ I1 q1) λiv s2 zz=>?_));obtain⟨y,H2,I2,r2,q2⟩:=zz;refine Qcj (QbW (Qcj (QbU (thn (hs jb s2 σ H2 x y v ov iv u _ I2 r1 r2 r q2) λ_ s3 zz=>?_))));obtain⟨H3,I3,q3⟩:=zz;exact wpAny_release ⟨σ,H3,I3,q3⟩
def jk (te:TE) (g:TG):TS:=λD σ H=>te σ H λx H1=>g x σ H1 D.nx
theorem Eb {tg e:Expr} {te:TE} {g:TG} (he:PE X e te) (hg:PG X tg g) (hs:swapsWithSole [tg] e pos.line X.env=pure false:=by rfl) (hw:swappedStores [tg] e X.env=pure none:=by rfl)
  (h1:(assignEach [tg] X.env).map (·.2)=[assign tg X.env]:=by rfl):PS X (.Assign [tg] e pos) (jk te g):=by
 intro jb s σ H D I h;refine wpAny_Assign_stores (thn (he jb s σ H _ I h) λv s1 zz=>?_) hs hw;obtain⟨x,H1,I1,r1,q1⟩:=zz;rw[h1];exact thn (hg jb s1 σ H1 x v _ I1 r1 q1) λ_ s2 q=>q
theorem Ax {i:Nat} {x:Str} {e:Expr} {te:TE} {pos':Pos} (hN:X.N.Nodup) (hi:X.N[i]?=some x) (hx:Loc X.env.scope x) (he:PE X e te) (hs:swapsWith e (some (.Name x pos')) pos.line X.env=pure false:=by rfl) (hf:X.fn x=true\/X.env.scope.names.lookup x=some .local:=by first | exact .inl rfl | exact .inr rfl | assumption) :
  PS X (.Assign [.Name x pos'] e pos) (jk te (Ef i)):=by
 intro jb s σ H D I h;refine wpAny_Assign_Name (thn (he jb s σ H _ I h) λv s1 zz=>?_) hs;obtain⟨y,H1,I1,r1,q1⟩:=zz;exact M8 I1 hN hi hx r1 (λs2 I2=>⟨_,H1,I2,q1⟩) hf
end
section
variable {X:Cx} {pos:Pos}
end
structure It where
 go:Nat->Hp->Prop
 yld:Nat->Hp->V->Hp->Prop
 stop:Nat->Hp->Prop
def GD (X:Cx) (jb:YC) (H:Hp) (b:Addr):Prop:=
 H b=none/\b≠X.env.locals/\b∉X.fs/\(b∈X.ex\/X.s₀.heap.objs.size<=b)/\(∀x c,X.env.cells.lookup x=some c->c≠b)/\∀p∈X.pn++jb,p.1≠b
theorem Inv.Tw {X:Cx} {jb:YC} {σ : St} {H H':Hp} {s:Shared} {b:Addr} (I:Inv X jb σ H s) (hb:s.heap.objs.size<=b) (hn:H' b=none):GD X jb H' b:=by
 refine⟨hn,Qcd (QaS I.lt hb),I.sW hb,.inr (Qca I.sz hb),λx c e z=>?_,λp hp z=>?_⟩
 ·obtain⟨v,q⟩:=I.cell x c e;exact absurd (QaS q.lt (by rw[z];exact hb)) (QbV _)
 ·exact absurd (QaS (QbZ (I.pin p hp).1) (by rw[z];exact hb)) (QbV _)
structure Turn (P:Program) (w:World) (K:YD) (tg:Expr) (J:It) (fp:List Addr) (it:Addr) (tn:Nat->Heap->Prop):Prop where
 mem:it∈fp
 obj:∀i h,tn i h->∀b∈fp,∃o,h.get? b=some o/\∀v,o.data≠.cell v
 keep:∀i h h',tn i h->(∀b∈fp,∀o,h.get? b=some o->h'.get? b=some o)->tn i h'
 item:∀(X:Cx),X.prog=P->X.w=w->X.K=K->X.calm=true->∀(i:Nat) (jb:YC) (s:Shared) (σ : St) (H:Hp) (E:YA),Inv X jb σ H s->(∀b∈fp,GD X jb H b)->tn i s.heap->J.go i H ->
  wpAny (model P w) X.A (pyNext (.ref it)) (λr s1=>∃u,r=some u /\
   wpAny (model P w) X.A (letOwnedTupleGo tg (.ref it) u) (λ_ s2=>∃x H',Inv X jb σ H' s2/\RelV x u/\J.yld i H x H'/\tn (i+1) s2.heap/\∀b∈fp,H' b=none) E s1) E s
 done:∀(X:Cx),X.prog=P->X.w=w->X.K=K->X.calm=true->∀(i:Nat) (jb:YC) (s:Shared) (σ : St) (H:Hp) (E:YA),Inv X jb σ H s->(∀b∈fp,GD X jb H b)->tn i s.heap->J.stop i H ->
  wpAny (model P w) X.A (pyNext (.ref it)) (λr s1=>r=none/\Inv X jb σ H s1) E s
 self:∀(A:Around) (i:Nat) (s:Shared) (Q:YA) (E:YA),tn i s.heap->Q (.ref it) s->wpAny (model P w) A (pyIter (.ref it)) Q E s
abbrev TI:=St->Hp->(It->Hp->Prop)->Prop
def PIE (X:Cx) (jb:YC) (σ : St) (tg:Expr) (R:It->Hp->Prop) (itv:Value) (s2:Shared):Prop:=
 ∃(it:Addr) (fp:List Addr) (tn:Nat->Heap->Prop) (J:It) (H':Hp),itv=.ref it/\Inv X jb σ H' s2/\Turn X.prog X.w X.K tg J fp it tn/\tn 0 s2.heap/\(∀b∈fp,GD X jb H' b)/\R J H'
def PI (X:Cx) (tg iter:Expr) (wi:TI):Prop:=
 ∀(jb:YC) (s:Shared) (σ : St) (H:Hp) (R:It->Hp->Prop),Inv X jb σ H s->wi σ H R ->
  wpAny (model X.prog X.w) X.A (eval iter X.env) (λv s1=>wpAny (model X.prog X.w) X.A (pyIter v) (PIE X jb σ tg R) X.xe s1) X.xe s
theorem Vt {M:Model} {A:Around} {E:YA} {s:Shared} {tg:Expr} {it:Addr} {u:Value} {o:Obj} {n:String} {vs:Array Value} {Q:YH} (ho:s.heap.get? it=some o) (hc:o.cls=.type n) (hd:o.data=.fields vs)
    (hn:["enumerate","zip","dict_itemiterator","dict_reverseitemiterator","odict_iterator","itertools.zip_longest","itertools.pairwise"].contains n=false) (hQ:Q () s):wpAny M A (letOwnedTupleGo tg (.ref it) u) Q E s:=by
  unfold letOwnedTupleGo;cases tg <;> first
    | exact Qck hQ
    | (cases u <;> first
        | exact Qck hQ
        | (refine Qcj (wpAny_load ho ?_)
           rw[hc,hd];show wpAny M A (if (["enumerate","zip","dict_itemiterator","dict_reverseitemiterator","odict_iterator","itertools.zip_longest","itertools.pairwise"].contains n&&vs[0]? == some (rawInt _))=true then _ else _) Q E s
           rw[if_neg (by intro h;rw[hn,Bool.false_and] at h;cases h)];exact Qck hQ))
def Itl (K:YD) (a:Addr):It:=
 ⟨λi H=>∃xs x,SqL K H a xs/\xs[i]?=some x,λi H x H'=>H'=H/\∀xs,SqL K H a xs->xs[i]?=some x,λi H=>∃xs,SqL K H a xs/\xs.length<=i⟩
def Itt (K:YD) (a:Addr):It:=
 ⟨λi H=>∃xs x,SqT K H a xs/\xs[i]?=some x,λi H x H'=>H'=H/\∀xs,SqT K H a xs->xs[i]?=some x,λi H=>∃xs,SqT K H a xs/\xs.length<=i⟩
def Itr (lo:Int) (n:Nat):It:=⟨λi _=>i < n,λi H x H'=>H'=H/\x=.int (lo+i),λi _=>n<=i⟩
theorem dg {P:Program} {w:World} {K:YD} {tg:Expr} (a it:Addr):Turn P w K tg (Itl K a) [it] it (λi h=>h.IsListIter it a i) where
 mem:=by simp
 obj:=λi h st b hb=>by
  have e:b=it:=by simpa using hb
  subst e;obtain⟨o,e,c,d⟩:=st;exact⟨o,e,λv z=>by rw[d] at z;cases z⟩
 keep:=λi h h' st k=>st.at λo e=>k it (by simp) o e
 item:=by
  intro X hP hw hK hc i jb s σ H E I hf st hg;subst hP hw hK;obtain⟨xs,x,hq,hx⟩:=hg;obtain⟨its,rv,p,hz⟩:=I.list hq;obtain⟨u,hu,ru⟩:=rv.get hx;obtain⟨f0,f1,f2,f3,f4,f5⟩:=hf it (by simp);refine wpAny_pyNext_list_item st p.isList (x:=u) (by simpa using hu) λh' st' sb=>?_;have I1:Inv X jb σ H { s with heap:=h' }:=I.turned (t':=s.toks) (λb o hb e=>(sb.2 b hb).trans e) f0 f1 f3 f4 f5;obtain⟨o,e,c,d⟩:=id st';exact⟨u,rq,Vt (s:={ s with heap:=h' }) e c d (by decide) ⟨x,H,I1,ru,⟨rq,λys hy=>by rw[I.j9 hy hq];exact hx⟩,st',λb hb=>(hf b hb).1⟩⟩
 done:=by
  intro X hP hw hK hc i jb s σ H E I hf st hg;subst hP hw hK;obtain⟨xs,hq,hx⟩:=hg;obtain⟨its,rv,p,hz⟩:=I.list hq;obtain⟨f0,f1,f2,f3,f4,f5⟩:=hf it (by simp);have hl:=rv.length;exact wpAny_pyNext_list_end (I.ok.hd hc) st p.isList (by simp;omega) λh' eb=>⟨rq,I.turned (t':=s.toks) (λb o hb e=>eb b o hb e) f0 f1 f3 f4 f5⟩
 self:=λ_ _ _ _ _ st h=>wpAny_pyIter_listiter st h
theorem aj {P:Program} {w:World} {K:YD} {tg:Expr} (a it:Addr):Turn P w K tg (Itt K a) [it] it (λi h=>h.IsTupleIter it a i) where
 mem:=by simp
 obj:=λi h st b hb=>by
  have e:b=it:=by simpa using hb
  subst e;obtain⟨o,e,c,d⟩:=st;exact⟨o,e,λv z=>by rw[d] at z;cases z⟩
 keep:=λi h h' st k=>st.at λo e=>k it (by simp) o e
 item:=by
  intro X hP hw hK hc i jb s σ H E I hf st hg;subst hP hw hK;obtain⟨xs,x,hq,hx⟩:=hg;obtain⟨its,rv,p,hz⟩:=I.tuple hq;obtain⟨u,hu,ru⟩:=rv.get hx;obtain⟨f0,f1,f2,f3,f4,f5⟩:=hf it (by simp);refine wpAny_pyNext_tuple_item st (show s.heap.IsTuple a its.toArray from p) (x:=u) (by simpa using hu) λh' st' sb=>?_
  have I1:Inv X jb σ H { s with heap:=h' }:=I.turned (t':=s.toks) (λb o hb e=>(sb.2 b hb).trans e) f0 f1 f3 f4 f5;obtain⟨o,e,c,d⟩:=id st';exact⟨u,rq,Vt (s:={ s with heap:=h' }) e c d (by decide) ⟨x,H,I1,ru,⟨rq,λys hy=>by rw[I.T9 hy hq];exact hx⟩,st',λb hb=>(hf b hb).1⟩⟩
 done:=by
  intro X hP hw hK hc i jb s σ H E I hf st hg;subst hP hw hK;obtain⟨xs,hq,hx⟩:=hg;obtain⟨its,rv,p,hz⟩:=I.tuple hq;obtain⟨f0,f1,f2,f3,f4,f5⟩:=hf it (by simp);have hl:=rv.length;exact wpAny_pyNext_tuple_end (I.ok.hd hc) st (show s.heap.IsTuple a its.toArray from p) (by simp;omega) λh' eb=>⟨rq,I.turned (t':=s.toks) (λb o hb e=>eb b o hb e) f0 f1 f3 f4 f5⟩
 self:=λ_ _ _ _ _ st h=>wpAny_pyIter_tupleiter st h
theorem ak {P:Program} {w:World} {K:YD} {tg:Expr} (it:Addr) (lo:Int) (n:Nat):Turn P w K tg (Itr lo n) [it] it (λi h=>IsRangeIter h it (lo+(i:Nat)*1) ((n:Int) - (i:Nat)) 1) where
 mem:=by simp
 obj:=λi h st b hb=>by
  have e:b=it:=by simpa using hb
  subst e;exact⟨_,st,λv z=>by
   have z':Data.fields _=Data.cell v:=z;cases z'⟩
 keep:=λi h h' st k=>k it (by simp) _ st
 item:=by
  intro X hP hw hK hc i jb s σ H E I hf st hg;subst hP hw hK;obtain⟨f0,f1,f2,f3,f4,f5⟩:=hf it (by simp);have W:=Walks.range (prog:=X.prog) (w:=X.w) (I.ok.hd hc) it lo 1 n;refine W.item i s _ _ hg st λv h' tk hv st' kk=>?_;obtain⟨t,rfl⟩:=hv;have I1:Inv X jb σ H { s with heap:=h',toks:=tk }:=I.turned (λb o hb e=>kk b o (by simpa using hb) e) f0 f1 f3 f4 f5;refine⟨_,rq,Vt (s:={ s with heap:=h',toks:=tk }) (n:="range_iterator") st' rfl rfl (by decide) ⟨.int (lo+i),H,I1,⟨t,?_⟩,⟨rq,rq⟩,st',λb hb=>(hf b hb).1⟩⟩;rw[Int.mul_one]
 done:=by
  intro X hP hw hK hc i jb s σ H E I hf st hg;subst hP hw hK;obtain⟨f0,f1,f2,f3,f4,f5⟩:=hf it (by simp);exact wpAny_pyNext_range_end (I.ok.hd hc) st (by have:n<=i:=hg;omega) λh' eb=>⟨rq,I.turned (t':=s.toks) (λb o hb e=>eb b o hb e) f0 f1 f3 f4 f5⟩
 self:=λ_ _ _ _ _ st h=>wpAny_pyIter_rangeiter st h
section
variable {X:Cx} {tg:Expr}
def wu (K:YD) (tl:TE):TI:=fun σ H R=>tl σ H λx H1=>∃a,x=.ref a/\(∃xs,SqL K H1 a xs)/\R (Itl K a) H1
def An (K:YD) (tl:TE):TI:=fun σ H R=>tl σ H λx H1=>∃a,x=.ref a/\(∃xs,SqT K H1 a xs)/\R (Itt K a) H1
theorem Ey {l:Expr} {tl:TE} (hl:PE X l tl):PI X tg l (wu X.K tl):=by
 intro jb s σ H R I h;refine thn (hl jb s σ H _ I h) λv s1 zz=>?_;obtain⟨x,H1,I1,r1,q1⟩:=zz;obtain⟨a,e,⟨xs,hq⟩,q⟩:=q1;subst e;cases r1;obtain⟨its,rv,p,hz⟩:=I1.list hq;refine Qbi p.isList ?_;refine⟨s1.heap.objs.size,[s1.heap.objs.size],_,_,H1,rq,I1.kept (t':=s1.toks) λb o e=>Qar _ e,dg a _,⟨_,QaH _ rfl,rq,rq⟩,λb hb=>?_,q⟩;have e:b=s1.heap.objs.size:=by simpa using hb
 subst e;exact I1.Tw (Qce _) (I1.hok.fresh (Qce _))
theorem Ds {l:Expr} {tl:TE} (hl:PE X l tl):PI X tg l (An X.K tl):=by
 intro jb s σ H R I h;refine thn (hl jb s σ H _ I h) λv s1 zz=>?_;obtain⟨x,H1,I1,r1,q1⟩:=zz;obtain⟨a,e,⟨xs,hq⟩,q⟩:=q1;subst e;cases r1;obtain⟨its,rv,p,hz⟩:=I1.tuple hq;refine QaU (show s1.heap.IsTuple a its.toArray from p) ?_
 refine⟨s1.heap.objs.size,[s1.heap.objs.size],_,_,H1,rq,I1.kept (t':=s1.toks) λb o e=>Qar _ e,aj a _,⟨_,QaH _ rfl,rq,rq⟩,λb hb=>?_,q⟩;have e:b=s1.heap.objs.size:=by simpa using hb
 subst e;exact I1.Tw (Qce _) (I1.hok.fresh (Qce _))
theorem Wh {jb:YC} {σ : St} {H:Hp} {s:Shared} {R:It->Hp->Prop} {E:YA} {lo hi:Int} {t u v:Tok} {tk:Nat} (I:Inv X jb σ H s) (h1:-(2 ^ 62)<=lo) (h2:lo < 2 ^ 62) (h3:-(2 ^ 62)<=hi) (h4:hi < 2 ^ 62)
  (q:R (Itr lo (hi - lo).toNat) H):wpAny (model X.prog X.w) X.A (pyIter (.ref s.heap.objs.size)) (PIE X jb σ tg R) E { s with heap:=s.heap.push { cls:=.type "range",data:=.fields #[.int lo t,.int hi u,.int 1 v] },toks:=tk }:=by
 refine wpAny_pyIter_range (IsRange.new ..) (small_one h1 h2 h3 h4) ?_;have I1:Inv X jb σ H { s with heap:=s.heap.push { cls:=.type "range",data:=.fields #[.int lo t,.int hi u,.int 1 v] },toks:=tk }:=I.kept λb o e=>Qar _ e;refine⟨(s.heap.push { cls:=.type "range",data:=.fields #[.int lo t,.int hi u,.int 1 v] }).objs.size,[(s.heap.push { cls:=.type "range",data:=.fields #[.int lo t,.int hi u,.int 1 v] }).objs.size],_,_,H,rq,
  I1.kept (t':=tk) λb o e=>Qar _ e,ak _ lo (hi - lo).toNat,?_,λb hb=>?_,q⟩
 ·have e1:lo+((0:Nat):Int)*1=lo:=by simp
  have e2:(((hi - lo).toNat:Nat):Int) - ((0:Nat):Int)=Builtin.Range.rangeSize lo hi 1:=by rw[rangeSize_one];split <;> omega
  show IsRangeIter _ _ (lo+((0:Nat):Int)*1) ((((hi - lo).toNat:Nat):Int) - ((0:Nat):Int)) 1;rw[e1,e2];exact QaH _ rfl
 ·have e:b=(s.heap.push { cls:=.type "range",data:=.fields #[.int lo t,.int hi u,.int 1 v] }).objs.size:=by simpa using hb
  subst e;exact I1.Tw (Qce _) (I1.hok.fresh (Qce _))
def wj (ta:TA):TI:=fun σ H R=>ta σ H λvs H1=>∃j:Int,vs=[.int j]/\-(2 ^ 62)<=j/\j < 2 ^ 62/\R (Itr 0 j.toNat) H1
def wg (ta:TA):TI:=fun σ H R=>ta σ H λvs H1=>∃i j:Int,vs=[.int i,.int j]/\(-(2 ^ 62)<=i/\i < 2 ^ 62/\-(2 ^ 62)<=j/\j < 2 ^ 62)/\R (Itr i (j - i).toNat) H1
theorem Fb {a:Expr} {ta:TA} {p pos:Pos} (hg:Gl X "range") (hm:X.mg "range"=none) (ha:PA X [a] ta) (hs:starEach [a] X.env=[(false,eval a X.env)]:=by rfl):PI X tg (.Call (.Name "range" p) [a] [] pos) (wj ta):=by
 intro jb s σ H R I h;refine Call_ (JW I hg hm boot_range (Qac (thn (ha pos jb s σ H _ I h) λus s1 zz=>?_) hs rfl));obtain⟨vs,H1,I1,r1,q1⟩:=zz;obtain⟨j,e,q1,q2,q⟩:=q1;subst e;cases r1 with
 | cons r rr=>
  cases rr;obtain⟨t,rfl⟩:=r;exact call_range_1 (Wh I1 (by omega) (by omega) q1 q2 (by simpa using q))
theorem dW {a b:Expr} {ta:TA} {p pos:Pos} (hg:Gl X "range") (hm:X.mg "range"=none) (ha:PA X [a,b] ta) (hs:starEach [a,b] X.env=[(false,eval a X.env),(false,eval b X.env)]:=by rfl) (hs2:starEach [b] X.env=[(false,eval b X.env)]:=by rfl) :
  PI X tg (.Call (.Name "range" p) [a,b] [] pos) (wg ta):=by
 intro jb s σ H R I h;refine Call_ (JW I hg hm boot_range (Qac (thn (ha pos jb s σ H _ I h) λus s1 zz=>?_) (by rw[hs,hs2]) (by rw[hs2];rfl)));obtain⟨vs,H1,I1,r1,q1⟩:=zz;obtain⟨i,j,e,⟨q1,q2,q3,q4⟩,q⟩:=q1;subst e;cases r1 with
 | cons r rr=>
  cases rr with
  | cons r' rr=>
   cases rr;obtain⟨t,rfl⟩:=r;obtain⟨t',rfl⟩:=r';exact call_range_2 (Wh I1 q1 q2 q3 q4 q)
abbrev YN:=Nat->YO
def Et (wi:TI) (g:TG) (tb:TS):TS:=λD σ H=>wi σ H λJ H1=>∃W:Nat->YN,(∃m,W 0 m σ H1)/\∀i m σ H,W i m σ H ->
 (J.stop i H/\D.nx σ H)\/(J.go i H/\∃N:YO,(∀ σ' H',N σ' H'->∃m',m' < m/\W (i+1) m' σ' H')/\∀x H',J.yld i H x H'->g x σ H' fun σ2 H2=>tb { D with nx:=N,ct:=N,bk:=D.nx } σ2 H2)
def Mz (fp:List Addr) (h:Heap):YC:=fp.filterMap λb=>(h.get? b).map λo=>(b,o)
theorem Kr {fp:List Addr} {h:Heap} {b:Addr} {o:Obj} (hb:b∈fp) (e:h.get? b=some o):(b,o)∈Mz fp h:=List.mem_filterMap.mpr ⟨b,hb,by rw[e];rfl⟩
theorem eF {fp:List Addr} {h:Heap} {p:Addr×Obj} (hp:p∈Mz fp h):p.1∈fp/\h.get? p.1=some p.2:=by
 obtain⟨b,hb,e⟩:=List.mem_filterMap.mp hp;cases q:h.get? b with
 | none=>rw[q] at e;cases e
 | some o=>
  rw[q] at e;have e':(b,o)=p:=QbB e;subst e';exact⟨hb,q⟩
theorem Inv.pinned {jb:YC} {σ : St} {H:Hp} {s:Shared} {fp:List Addr} (I:Inv X jb σ H s) (hf:∀b∈fp,GD X jb H b) (ho:∀b∈fp,∃o,s.heap.get? b=some o/\∀v,o.data≠.cell v):Inv X (jb++Mz fp s.heap) σ H s:=
 I.S8 λp hp=>(Qby.mp hp).elim (λz=>I.pin p (Qaw _ z)) λz=>by
  obtain⟨hb,e⟩:=eF z;obtain⟨f0,f1,f2,_⟩:=hf p.1 hb;obtain⟨o,e',d⟩:=ho p.1 hb;rw[e] at e';cases e';exact⟨e,f0,f1,f2,d⟩
theorem Inv.Ji {jb pl:YC} {σ : St} {H:Hp} {s:Shared} (I:Inv X (jb++pl) σ H s):Inv X jb σ H s:=I.S8 λp hp=>I.pin p (Qaw _ (QaF _ hp))
theorem Dh {iter:Expr} {body:List Stmt} {wi:TI} {g:TG} {tb:TS} {pos:Pos} (hp:PassesOwn (model X.prog X.w) X.A X.env X.xe) (hc:X.calm=true) (hi:PI X tg iter wi) (hg:PG X tg g) (hb:PSs X body tb)
  (hs:∀x,foldedSetIterable iter X.env x=pure x:=by intro _;rfl):PS X (.For tg iter body [] pos) (Et wi g tb):=by
 intro jb s σ H D I h;refine wpAny_For (thn (hi jb s σ H _ I h) λv s1 h1=>thn h1 λitv s2 h2=>?_) hs;obtain⟨it,fp,tn,J,H2,e,I2,T,st2,f2,W,⟨m0,w0⟩,turn⟩:=h2;subst e;have stat:∀{H':Hp},(∀b∈fp,H' b=none)->∀b∈fp,GD X jb H' b:=λhn b hb=>⟨hn b hb,(f2 b hb).2⟩;refine codeAny_forLoop_any (λn s'=>∃i σ' H',Inv X jb σ' H' s'/\tn i s'.heap/\(∀b∈fp,H' b=none)/\W i n σ' H') ?_ m0 ⟨0,σ,H2,I2,st2,λb hb=>(f2 b hb).1,w0⟩;rintro n s3 ⟨i,σ3,H3,I3,st3,fr3,w3⟩;rcases turn i n σ3 H3 w3 with⟨stop,qn⟩|⟨go,N,hN,step⟩
 ·refine wpAny_passesOwn hp (thn (T.done X rfl rfl rfl hc i jb s3 σ3 H3 X.xe I3 (stat fr3) st3 stop) λr s4 zz=>?_);obtain⟨hr,I4⟩:=zz;subst hr;exact wpAny_execs_nil ⟨σ3,H3,I4,qn⟩
 ·refine wpAny_passesOwn hp (thn (T.item X rfl rfl rfl hc i jb s3 σ3 H3 X.xe I3 (stat fr3) st3 go) λr s4 zz=>?_);obtain⟨u,hr,h4⟩:=zz;subst hr;refine wpAny_passesOwn hp (thn h4 λ_ s5 zz=>?_);obtain⟨x,H5,I5,r5,y5,st5,fr5⟩:=zz;have I5':=I5.pinned (stat fr5) (T.obj _ _ st5);refine wpAny_passesOwn hp (thn (hg _ s5 σ3 H5 x u _ I5' r5 (step x H5 y5)) λ_ s6 zz=>?_);obtain⟨σ6,H6,I6,q6⟩:=zz;refine wpAny_passesOwn hp (thn (hb _ s6 σ6 H6 _ I6 q6) λf s7 q7=>?_);have again:∀{σ7:St} {H7:Hp},Inv X (jb++Mz fp s5.heap) σ7 H7 s7->N σ7 H7->∃m,m < n/\∃i σ' H',Inv X jb σ' H' s7/\tn i s7.heap/\(∀b∈fp,H' b=none)/\W i m σ' H':=λ{σ7 H7} I7 n7=>by
   obtain⟨m',hm,w7⟩:=hN σ7 H7 n7;refine⟨m',hm,i+1,σ7,H7,I7.Ji,T.keep _ _ _ st5 λb hb o e=>(I7.pin (b,o) (Qaw _ (Qaw _ (Kr hb e)))).1,λb hb=>?_,w7⟩;obtain⟨o,e,d⟩:=T.obj _ _ st5 b hb;exact (I7.pin (b,o) (Qaw _ (Qaw _ (Kr hb e)))).2.1
  cases f with
  | next=>obtain⟨σ7,H7,I7,n7⟩:=q7;exact again I7 n7
  | cont=>obtain⟨σ7,H7,I7,n7⟩:=q7;exact again I7 n7
  | brk=>obtain⟨σ7,H7,I7,q7⟩:=q7;exact⟨σ7,H7,I7.Ji,q7⟩
  | ret v=>obtain⟨x7,σ7,H7,I7,r7,q7⟩:=q7;exact⟨x7,σ7,H7,I7.Ji,r7,q7⟩
end
theorem Q5 {K:YD} {a:Addr} {xs:YG} {g:TG} {tb:TS} {D:Ends} {σ : St} {H:Hp} (Pv:YN) (h0:Pv 0 σ H) (hl:∀i σ H,i<=xs.length->Pv i σ H->SqL K H a xs)
  (hs:∀i x σ H,xs[i]?=some x->Pv i σ H->g x σ H fun σ2 H2=>tb { D with nx:=Pv (i+1),ct:=Pv (i+1),bk:=D.nx } σ2 H2) (hd:∀ σ H,Pv xs.length σ H->D.nx σ H) :
  ∃W:Nat->YN,(∃m,W 0 m σ H)/\∀i m σ H,W i m σ H ->
   ((Itl K a).stop i H/\D.nx σ H)\/((Itl K a).go i H/\∃N:YO,(∀ σ' H',N σ' H'->∃m',m' < m/\W (i+1) m' σ' H')/\∀x H',(Itl K a).yld i H x H'->g x σ H' fun σ2 H2=>tb { D with nx:=N,ct:=N,bk:=D.nx } σ2 H2):=by
 refine⟨λi m σ H=>m=xs.length - i/\i<=xs.length/\Pv i σ H,⟨xs.length,by simp,Qcf _,h0⟩,?_⟩;rintro i m σ H ⟨rfl,hi,p⟩;have q:=hl i σ H hi p;by_cases hlt:i < xs.length
 ·refine .inr ⟨⟨xs,xs[i],q,by simp[hlt]⟩,Pv (i+1),fun σ' H' p'=>⟨xs.length - (i+1),by omega,rq,hlt,p'⟩,λx H' y=>?_⟩;obtain⟨e,y⟩:=y;subst e;exact hs i x σ _ (y xs q) p
 ·have e:i=xs.length:=by omega
  subst e;exact .inl ⟨⟨xs,q,Qce _⟩,hd σ H p⟩
theorem G4 {K:YD} {a:Addr} {xs:YG} {g:TG} {tb:TS} {D:Ends} {σ : St} {H:Hp} (Pv:YN) (h0:Pv 0 σ H) (hl:∀i σ H,i<=xs.length->Pv i σ H->SqT K H a xs)
  (hs:∀i x σ H,xs[i]?=some x->Pv i σ H->g x σ H fun σ2 H2=>tb { D with nx:=Pv (i+1),ct:=Pv (i+1),bk:=D.nx } σ2 H2) (hd:∀ σ H,Pv xs.length σ H->D.nx σ H) :
  ∃W:Nat->YN,(∃m,W 0 m σ H)/\∀i m σ H,W i m σ H ->
   ((Itt K a).stop i H/\D.nx σ H)\/((Itt K a).go i H/\∃N:YO,(∀ σ' H',N σ' H'->∃m',m' < m/\W (i+1) m' σ' H')/\∀x H',(Itt K a).yld i H x H'->g x σ H' fun σ2 H2=>tb { D with nx:=N,ct:=N,bk:=D.nx } σ2 H2):=by
 refine⟨λi m σ H=>m=xs.length - i/\i<=xs.length/\Pv i σ H,⟨xs.length,by simp,Qcf _,h0⟩,?_⟩;rintro i m σ H ⟨rfl,hi,p⟩;have q:=hl i σ H hi p;by_cases hlt:i < xs.length
 ·refine .inr ⟨⟨xs,xs[i],q,by simp[hlt]⟩,Pv (i+1),fun σ' H' p'=>⟨xs.length - (i+1),by omega,rq,hlt,p'⟩,λx H' y=>?_⟩;obtain⟨e,y⟩:=y;subst e;exact hs i x σ _ (y xs q) p
 ·have e:i=xs.length:=by omega
  subst e;exact .inl ⟨⟨xs,q,Qce _⟩,hd σ H p⟩
theorem Gz {lo:Int} {n:Nat} {g:TG} {tb:TS} {D:Ends} {σ : St} {H:Hp} (Pv:YN) (h0:Pv 0 σ H)
  (hs:∀i σ H,i < n->Pv i σ H->g (.int (lo+i)) σ H fun σ2 H2=>tb { D with nx:=Pv (i+1),ct:=Pv (i+1),bk:=D.nx } σ2 H2) (hd:∀ σ H,Pv n σ H->D.nx σ H) :
  ∃W:Nat->YN,(∃m,W 0 m σ H)/\∀i m σ H,W i m σ H ->
   ((Itr lo n).stop i H/\D.nx σ H)\/((Itr lo n).go i H/\∃N:YO,(∀ σ' H',N σ' H'->∃m',m' < m/\W (i+1) m' σ' H')/\∀x H',(Itr lo n).yld i H x H'->g x σ H' fun σ2 H2=>tb { D with nx:=N,ct:=N,bk:=D.nx } σ2 H2):=by
 refine⟨λi m σ H=>m=n - i/\i<=n/\Pv i σ H,⟨n,by simp,Qcf _,h0⟩,?_⟩;rintro i m σ H ⟨rfl,hi,p⟩;by_cases hlt:i < n
 ·refine .inr ⟨hlt,Pv (i+1),fun σ' H' p'=>⟨n - (i+1),by omega,rq,hlt,p'⟩,λx H' y=>?_⟩;obtain⟨e,y⟩:=y;subst e y;exact hs i σ _ hlt p
 ·have e:i=n:=by omega
  subst e;exact .inl ⟨Qce _,hd σ H p⟩
abbrev R2:=V->V->Hp->VK->Prop
def OpR (X:Cx) (f:Value->Value->Sem Value) (r:R2):Prop:=
 ∀(jb:YC) (s:Shared) (σ : St) (H:Hp) (x y:V) (v u:Value) (Q:VK),Inv X jb σ H s->RelV x v->RelV y u->r x y H Q ->
  wpAny (model X.prog X.w) X.A (f v u) (EP X jb σ Q) X.xe s
def UnR (X:Cx) (f:Value->Sem Value) (r:V->Hp->VK->Prop):Prop:=
 ∀(jb:YC) (s:Shared) (σ : St) (H:Hp) (x:V) (v:Value) (Q:VK),Inv X jb σ H s->RelV x v->r x H Q ->
  wpAny (model X.prog X.w) X.A (f v) (EP X jb σ Q) X.xe s
def Dn (X:Cx) (f:Value) (r:YG->Hp->VK->Prop):Prop:=
 ∀(jb:YC) (s:Shared) (σ : St) (H:Hp) (xs:YG) (us:YE) (Q:VK),Inv X jb σ H s->Vals xs us->r xs H Q ->
  wpAny (model X.prog X.w) X.A (call f us) (EP X jb σ Q) X.xe s
def DA (X:Cx) (r:V->Hp->(Bool->Hp->Prop)->Prop):Prop:=
 ∀(jb:YC) (s:Shared) (σ : St) (H:Hp) (x:V) (v:Value) (Q:Bool->Hp->Prop),Inv X jb σ H s->RelV x v->r x H Q ->
  wpAny (model X.prog X.w) X.A (truthy v) (TP X jb σ Q) X.xe s
def tOp (r:R2) (ta tb:TE):TE:=fun σ H Q=>ta σ H λx H1=>tb σ H1 λy H2=>r x y H2 Q
def tUn (r:V->Hp->VK->Prop) (ta:TE):TE:=fun σ H Q=>ta σ H λx H1=>r x H1 Q
def rI (C:Int->Int->Prop) (g:Int->Int->V):R2:=λx y H Q=>∃i j,x=.int i/\y=.int j/\C i j/\Q (g i j) H
def rI0 (g:Int->Int->V):R2:=λx y H Q=>∃i j,x=.int i/\y=.int j/\Q (g i j) H
def rU (g:Int->V):V->Hp->VK->Prop:=λx H Q=>∃i,x=.int i/\Q (g i) H
section
variable {X:Cx} {a b c:Expr} {ta tb tc:TE} {pos:Pos}
theorem mQ (ha:PE X a ta) (hb:PE X b tb) {jb:YC} {s:Shared} {σ : St} {H:Hp} {R:V->V->Hp->Prop} (I:Inv X jb σ H s)
  (h:ta σ H λx H1=>tb σ H1 λy H2=>R x y H2) {Q:YA} {f:Value->Value->Sem Value}
  (hf:∀v u s2 x y H2,Inv X jb σ H2 s2->RelV x v->RelV y u->R x y H2->wpAny (model X.prog X.w) X.A (f v u) Q X.xe s2) :
  wpAny (model X.prog X.w) X.A (eval a X.env) (λv s₁=>wpAny (model X.prog X.w) X.A (eval b X.env) (λu s₂=>wpAny (model X.prog X.w) X.A (f v u) Q X.xe s₂) X.xe s₁) X.xe s:=by
 refine thn (ha jb s σ H _ I h) λv s1 zz=>?_;obtain⟨x,H1,I1,r1,q1⟩:=zz;refine thn (hb jb s1 σ H1 _ I1 q1) λu s2 zz=>?_;obtain⟨y,H2,I2,r2,q2⟩:=zz;exact hf v u s2 x y H2 I2 r1 r2 q2
theorem Aw {op:Operator} {r:R2} (ho:OpR X (binaryOp op) r) (ha:PE X a ta) (hb:PE X b tb):PE X (.BinOp a op b pos) (tOp r ta tb):=by
 intro jb s σ H Q I h;exact wpAny_BinOp (mQ ha hb I h λv u s2 x y H2 I2 rx ry q=>ho jb s2 σ H2 x y v u Q I2 rx ry q)
theorem PB {op:UnaryOp} {r:V->Hp->VK->Prop} (ho:UnR X (unaryOp op) r) (ha:PE X a ta):PE X (.UnaryOp op a pos) (tUn r ta):=by
 intro jb s σ H Q I h;refine UnaryOp_ (thn (ha jb s σ H _ I h) λv s1 zz=>?_);obtain⟨x,H1,I1,r1,q1⟩:=zz;exact ho jb s1 σ H1 x v Q I1 r1 q1
theorem opI {f:Value->Value->Sem Value} {C:Int->Int->Prop} {g:Int->Int->Int}
  (rule:∀(i j:Int) (t u:Tok) (s:Shared) (Q:YA) (E:YA),C i j->Q (.int (g i j) s.toks) { s with toks:=s.toks+1 }->wpAny (model X.prog X.w) X.A (f (.int i t) (.int j u)) Q E s) :
  OpR X f (rI C λi j=>.int (g i j)):=by
 intro jb s σ H x y v u Q I rx ry h;obtain⟨i,j,rfl,rfl,hc,q⟩:=h;obtain⟨t,rfl⟩:=rx;obtain⟨t',rfl⟩:=ry;exact rule i j t t' s _ _ hc ⟨.int (g i j),H,I.tok _,⟨_,rq⟩,q⟩
theorem sG {f:Value->Value->Sem Value} {g:Int->Int->Int}
  (rule:∀(i j:Int) (t u:Tok) (s:Shared) (Q:YA) (E:YA),Q (.int (g i j) s.toks) { s with toks:=s.toks+1 }->wpAny (model X.prog X.w) X.A (f (.int i t) (.int j u)) Q E s) :
  OpR X f (rI0 λi j=>.int (g i j)):=by
 intro jb s σ H x y v u Q I rx ry h;obtain⟨i,j,rfl,rfl,q⟩:=h;obtain⟨t,rfl⟩:=rx;obtain⟨t',rfl⟩:=ry;exact rule i j t t' s _ _ ⟨.int (g i j),H,I.tok _,⟨_,rq⟩,q⟩
theorem aZ {f:Value->Value->Sem Value} {g:Int->Int->Bool}
  (rule:∀(i j:Int) (t u:Tok) (s:Shared) (Q:YA) (E:YA),Q (.bool (g i j)) s->wpAny (model X.prog X.w) X.A (f (.int i t) (.int j u)) Q E s) :
  OpR X f (rI0 λi j=>.bl (g i j)):=by
 intro jb s σ H x y v u Q I rx ry h;obtain⟨i,j,rfl,rfl,q⟩:=h;obtain⟨t,rfl⟩:=rx;obtain⟨t',rfl⟩:=ry;exact rule i j t t' s _ _ ⟨.bl (g i j),H,I,rq,q⟩
def DE (i j:Int):Prop:=0 < j/\j < 1073741824
def DD (i j:Int):Prop:=0<=j/\j<=1000000/\i.natAbs < 2 ^ 64
def cO (i j:Int):Prop:=(-(2 ^ 64) < i/\i < 2 ^ 64)\/(-(2 ^ 64) < j/\j < 2 ^ 64)
theorem cO.ok {i j:Int} (h:cO i j):IntMulOk i j:=by
 rcases h with⟨h1,h2⟩|⟨h1,h2⟩
 ·exact .of_left (intBits_le_64 h1 h2)
 ·exact .of_right (intBits_le_64 h1 h2)
theorem Dj:OpR X (binaryOp .Add) (rI0 λi j=>.int (i+j)):=sG λ_ _ _ _ _ _ _ q=>add_int q
theorem rZ:OpR X (binaryOp .Sub) (rI0 λi j=>.int (i - j)):=sG λ_ _ _ _ _ _ _ q=>sub_int q
theorem Gx:OpR X (binaryOp .Mult) (rI cO λi j=>.int (i*j)):=opI λ_ _ _ _ _ _ _ hc q=>mul_int q hc.ok
theorem S9:OpR X (binaryOp .FloorDiv) (rI DE λi j=>.int (i / j)):=opI λi j _ _ _ _ _ hc q=>by
 have h1:(0:Int) < j:=hc.1;have h2:j < 1073741824:=hc.2;exact floordiv_int (by omega) (by rw[Int.fdiv_eq_ediv_of_nonneg i (by omega)];exact q) (.inl (PyProof.noPylong_small (by omega)))
theorem JV:OpR X (binaryOp .Mod) (rI (λ_ j=>0 < j) λi j=>.int (i % j)):=opI λi j _ _ _ _ _ hc q=>by
 have h1:(0:Int) < j:=hc;exact mod_int' (by omega) (by rw[Int.fmod_eq_emod_of_nonneg i (by omega)];exact q)
theorem dZ:OpR X (binaryOp .Pow) (rI DD λi j=>.int (i ^ j.toNat)):=opI λ_ _ _ _ _ _ _ hc q=>pow_int_small hc.1 hc.2.1 hc.2.2 q
theorem unI {f:Value->Sem Value} {g:Int->Int}
  (rule:∀(i:Int) (t:Tok) (s:Shared) (Q:YA) (E:YA),Q (.int (g i) s.toks) { s with toks:=s.toks+1 }->wpAny (model X.prog X.w) X.A (f (.int i t)) Q E s) :
  UnR X f (rU λi=>.int (g i)):=by
 intro jb s σ H x v Q I rx h;obtain⟨i,rfl,q⟩:=h;obtain⟨t,rfl⟩:=rx;exact rule i t s _ _ ⟨.int (g i),H,I.tok _,⟨_,rq⟩,q⟩
theorem Ms:UnR X (unaryOp .USub) (rU λi=>.int (-i)):=unI λ_ _ _ _ _ q=>neg_int q
end
def rB:V->V->Bool
 | .non,.non=>true | .non,.int _=>true | .int _,.non=>true | .non,.bl _=>true | .bl _,.non=>true | .non,.str _=>true | .str _,.non=>true
 | .int _,.int _=>true | .bl _,.bl _=>true | .str _,.str _=>true | .byt _,.byt _=>true
 | .int _,.str _=>true | .str _,.int _=>true | .bl _,.str _=>true | .str _,.bl _=>true
 | _,_=>false
def rEq:R2:=λx y H Q=>rB x y=true/\Q (.bl (decide (x=y))) H
def rNe:R2:=λx y H Q=>rB x y=true/\Q (.bl (!decide (x=y))) H
theorem ZS {i j:Int}:decide (V.int i=V.int j)=(i == j):=by
 rw[QbH];simp
theorem gw {i j:Bool}:decide (V.bl i=V.bl j)=(i == j):=by
 rw[QbH];simp
theorem ZR {i j:Str}:decide (V.str i=V.str j)=(i == j):=by
 rw[QbH];simp
theorem ZV {i j:Array UInt8}:decide (V.byt i=V.byt j)=(i.toList == j.toList):=by
 rw[QbH];cases i;cases j;simp
section
variable {X:Cx} {a b c:Expr} {ta tb tc:TE} {pos:Pos}
theorem Ce {jb:YC} {σ : St} {H:Hp} {s:Shared} {Q:VK} {k k':Bool} (I:Inv X jb σ H s) (q:Q (.bl k) H) (e:k=k'):EP X jb σ Q (.bool k') s:=by
 subst e;exact⟨.bl k,H,I,rq,q⟩
theorem Dz:OpR X (compareOp .Eq) rEq:=by
 intro jb s σ H x y v u Q I rx ry h;obtain⟨hs,q⟩:=h;cases x with
 | non=>
  cases rx;cases y with
  | non=>cases ry;exact PySem.EqNone.eq_none_none (Ce I q (by simp))
  | bl j=>cases ry;exact PySem.EqNone.eq_none_bool (Ce I q (by simp))
  | int j=>obtain⟨t',rfl⟩:=ry;exact PySem.EqNone.eq_none_int (Ce I q (by simp))
  | str j=>obtain⟨t',rfl⟩:=ry;exact PySem.EqNone.eq_none_str (Ce I q (by simp))
  | _=>exact absurd (show false=true from hs) QaR
 | bl i=>
  cases rx;cases y with
  | non=>cases ry;exact PySem.EqNone.eq_bool_none (Ce I q (by simp))
  | bl j=>cases ry;exact eq_bool (Ce I q gw)
  | str j=>obtain⟨t',rfl⟩:=ry;exact PySem.EqMixed.eq_bool_str (Ce I q (by simp))
  | _=>exact absurd (show false=true from hs) QaR
 | int i=>
  obtain⟨t,rfl⟩:=rx;cases y with
  | non=>cases ry;exact PySem.EqNone.eq_int_none (Ce I q (by simp))
  | int j=>obtain⟨t',rfl⟩:=ry;exact eq_int (Ce I q ZS)
  | str j=>obtain⟨t',rfl⟩:=ry;exact PySem.EqMixed.eq_int_str (Ce I q (by simp))
  | _=>exact absurd (show false=true from hs) QaR
 | str i=>
  obtain⟨t,rfl⟩:=rx;cases y with
  | non=>cases ry;exact PySem.EqNone.eq_str_none (Ce I q (by simp))
  | bl j=>cases ry;exact PySem.EqMixed.eq_str_bool (Ce I q (by simp))
  | int j=>obtain⟨t',rfl⟩:=ry;exact PySem.EqMixed.eq_str_int (Ce I q (by simp))
  | str j=>obtain⟨t',rfl⟩:=ry;exact eq_str (Ce I q ZR)
  | _=>exact absurd (show false=true from hs) QaR
 | byt i=>
  obtain⟨t,rfl⟩:=rx;cases y with
  | byt j=>obtain⟨t',rfl⟩:=ry;exact PySem.W.eq_bytes (Ce I q ZV)
  | _=>exact absurd (show false=true from hs) QaR
 | _=>cases y <;> exact absurd (show false=true from hs) QaR
theorem Vo:OpR X (compareOp .NotEq) rNe:=by
 intro jb s σ H x y v u Q I rx ry h;obtain⟨hs,q⟩:=h;cases x with
 | non=>
  cases rx;cases y with
  | non=>cases ry;exact PySem.EqNone.ne_none_none (Ce I q (by simp))
  | bl j=>cases ry;exact PySem.EqNone.ne_none_bool (Ce I q (by simp))
  | int j=>obtain⟨t',rfl⟩:=ry;exact PySem.EqNone.ne_none_int (Ce I q (by simp))
  | str j=>obtain⟨t',rfl⟩:=ry;exact PySem.EqNone.ne_none_str (Ce I q (by simp))
  | _=>exact absurd (show false=true from hs) QaR
 | bl i=>
  cases rx;cases y with
  | non=>cases ry;exact PySem.EqNone.ne_bool_none (Ce I q (by simp))
  | bl j=>cases ry;exact ne_bool (Ce I q (congrArg not gw))
  | str j=>obtain⟨t',rfl⟩:=ry;exact PySem.EqMixed.ne_bool_str (Ce I q (by simp))
  | _=>exact absurd (show false=true from hs) QaR
 | int i=>
  obtain⟨t,rfl⟩:=rx;cases y with
  | non=>cases ry;exact PySem.EqNone.ne_int_none (Ce I q (by simp))
  | int j=>obtain⟨t',rfl⟩:=ry;exact ne_int (Ce I q (congrArg not ZS))
  | str j=>obtain⟨t',rfl⟩:=ry;exact PySem.EqMixed.ne_int_str (Ce I q (by simp))
  | _=>exact absurd (show false=true from hs) QaR
 | str i=>
  obtain⟨t,rfl⟩:=rx;cases y with
  | non=>cases ry;exact PySem.EqNone.ne_str_none (Ce I q (by simp))
  | bl j=>cases ry;exact PySem.EqMixed.ne_str_bool (Ce I q (by simp))
  | int j=>obtain⟨t',rfl⟩:=ry;exact PySem.EqMixed.ne_str_int (Ce I q (by simp))
  | str j=>obtain⟨t',rfl⟩:=ry;exact ne_str (Ce I q (congrArg not ZR))
  | _=>exact absurd (show false=true from hs) QaR
 | byt i=>
  obtain⟨t,rfl⟩:=rx;cases y with
  | byt j=>obtain⟨t',rfl⟩:=ry;exact PySem.W.ne_bytes (Ce I q (congrArg not ZV))
  | _=>exact absurd (show false=true from hs) QaR
 | _=>cases y <;> exact absurd (show false=true from hs) QaR
theorem Vp:OpR X (compareOp .Lt) (rI0 λi j=>.bl (decide (i < j))):=aZ λ_ _ _ _ _ _ _ q=>lt_int q
theorem Hx:OpR X (compareOp .LtE) (rI0 λi j=>.bl (decide (i<=j))):=aZ λ_ _ _ _ _ _ _ q=>le_int q
theorem aY:OpR X (compareOp .Gt) (rI0 λi j=>.bl (decide (j < i))):=aZ λ_ _ _ _ _ _ _ q=>gt_int q
theorem vU:OpR X (compareOp .GtE) (rI0 λi j=>.bl (decide (j<=i))):=aZ λ_ _ _ _ _ _ _ q=>ge_int q
theorem Ue:OpR X (compareOp .In) (λx y H Q=>∃i j,x=.str i/\y=.str j/\Q (.bl (!(Builtin.Str.occurrences j i 0 j.length 1).isEmpty)) H):=by
 intro jb s σ H x y v u Q I rx ry h;obtain⟨i,j,rfl,rfl,q⟩:=h;obtain⟨t,rfl⟩:=rx;obtain⟨t',rfl⟩:=ry;exact in_str (Ce I q rfl)
theorem Bx (b:Expr) {op:CmpOp} (h:op≠.In:=by decide) (h2:op≠.NotIn:=by decide):behindInMarks op b=false:=by
 have e1:(op == CmpOp.In)=false:=by cases op <;> first | rfl | exact absurd rfl h
 have e2:(op == CmpOp.NotIn)=false:=by cases op <;> first | rfl | exact absurd rfl h2
 cases b <;> simp[behindInMarks,e1,e2]
theorem Kw {op:CmpOp} {r:R2} (ho:OpR X (compareOp op) r) (ha:PE X a ta) (hb:PE X b tb) (hm:behindInMarks op b=false):PE X (.Compare a [op] [b] pos) (tOp r ta tb):=by
 intro jb s σ H Q I h;exact wpAny_Compare1 (mQ ha hb I h λv u s2 x y H2 I2 rx ry q=>ho jb s2 σ H2 x y v u Q I2 rx ry q) hm
def nA (t:TE):TT:=fun σ H Q=>t σ H λx H'=>∃k,x=.bl k/\Q k H'
theorem Bp {op:CmpOp} {r:R2} (ho:OpR X (compareOp op) r) (ha:PE X a ta) (hb:PE X b tb) (hm:behindInMarks op b=false):PT X (.Compare a [op] [b] pos) (nA (tOp r ta tb)):=by
 intro jb s σ H Q I h;refine wpAny_isTrue_Compare1 (thn (ha jb s σ H _ I h) λv s1 ⟨x,H1,I1,r1,q1⟩=>thn (hb jb s1 σ H1 _ I1 q1) λu s2 ⟨y,H2,I2,r2,q2⟩=>
  thn (ho jb s2 σ H2 x y v u _ I2 r1 r2 q2) λc s3 ⟨z,H3,I3,r3,k,e,q3⟩=>?_) hm
 subst e;cases r3;exact Qbf ⟨H3,I3,q3⟩
def dj (r r':R2) (ta tb tc:TE):TE:=fun σ H Q=>ta σ H λx H1=>tb σ H1 λy H2=>r x y H2 λz H3=>∃k,z=.bl k /\
 (if k=true then tc σ H3 λw' H4=>r' y w' H4 Q else Q (.bl false) H3)
theorem KZ {op op':CmpOp} {r r':R2} (ho:OpR X (compareOp op) r) (ho':OpR X (compareOp op') r') (ha:PE X a ta) (hb:PE X b tb) (hc:PE X c tc)
  (hm:lastMarks [op,op'] [b,c]=false:=by with_unfolding_all rfl):PE X (.Compare a [op,op'] [b,c] pos) (dj r r' ta tb tc):=by
 intro jb s σ H Q I h;refine Compare_chain (thn (ha jb s σ H _ I h) λv s1 ⟨x,H1,I1,r1,q1⟩=>chain_link (thn (hb jb s1 σ H1 _ I1 q1) λu s2 ⟨y,H2,I2,r2,q2⟩=>
  thn (ho jb s2 σ H2 x y v u _ I2 r1 r2 q2) λd s3 ⟨z,H3,I3,r3,k,e,q3⟩=>?_)) hm
 subst e;cases r3;refine Qbf ?_;cases k with
 | false=>exact ite_ff ⟨.bl false,H3,I3,rfl,q3⟩
 | true=>exact ite_tt (chain_last (thn (hc jb s3 σ H3 _ I3 q3) λw' s4 ⟨z',H4,I4,r4,q4⟩=>ho' jb s4 σ H4 y z' u w' Q I4 r2 r4 q4))
theorem jB {op op':CmpOp} {r r':R2} (ho:OpR X (compareOp op) r) (ho':OpR X (compareOp op') r') (ha:PE X a ta) (hb:PE X b tb) (hc:PE X c tc)
  (hm:lastMarks [op,op'] [b,c]=false:=by with_unfolding_all rfl):PT X (.Compare a [op,op'] [b,c] pos) (nA (dj r r' ta tb tc)):=by
 intro jb s σ H Q I h;refine isTrue_chain (thn (ha jb s σ H _ I h) λv s1 ⟨x,H1,I1,r1,q1⟩=>test_link (thn (hb jb s1 σ H1 _ I1 q1) λu s2 ⟨y,H2,I2,r2,q2⟩=>
  thn (ho jb s2 σ H2 x y v u _ I2 r1 r2 q2) λd s3 ⟨z,H3,I3,r3,k,e,q3⟩=>?_)) hm
 subst e;cases r3;refine Qbf ?_;cases k with
 | false=>
  obtain⟨k',e',q'⟩:=q3;cases e';exact ite_ff ⟨H3,I3,q'⟩
 | true=>
  refine ite_tt (test_last (thn (hc jb s3 σ H3 _ I3 q3) λw' s4 zz=>?_));obtain⟨z',H4,I4,r4,q4⟩:=zz;refine thn (ho' jb s4 σ H4 y z' u w' _ I4 r2 r4 q4) λd' s5 zz=>?_;obtain⟨z2,H5,I5,r5,k2,e2,q5⟩:=zz;subst e2;cases r5;exact Qbf ⟨H5,I5,q5⟩
def uV (K:YD) (x:V) (H:Hp) (k:Bool):Prop:=
 match x with
 | .non=>k=false
 | .bl b=>k=b
 | .int i=>k=(i != 0)
 | .str y=>y.length<=sizeLine/\k=((y.length:Int) != 0)
 | .byt y=>y.size<=sizeLine/\k=((y.size:Int) != 0)
 | .ref p=>(∃xs,SqL K H p xs/\k=!xs.isEmpty)\/(∃xs,SqT K H p xs/\k=!xs.isEmpty)\/∃kvs,H p=some (.dK kvs)/\k=!kvs.isEmpty
 | _=>False
theorem bQ {κ : Type} {kvs:List (κ×V)} {vs:List (κ×Value)} (r:KV kvs vs):(!vs.isEmpty)=!kvs.isEmpty:=by
 cases r <;> rfl
theorem RL {xs:YG} {its:YE} (r:Vals xs its):(!its.toArray.isEmpty)=!xs.isEmpty:=by
 cases r <;> simp
theorem Lb:(sizeLine:Nat) < 2 ^ 63:=by rw[Qci];decide
theorem qO:DA X (λx H Q=>∃k,uV X.K x H k/\Q k H):=by
 intro jb s σ H x v Q I rx h;obtain⟨k,e,q⟩:=h;have hl:=Lb;have hs:sizeLine=16777216:=Qci;cases x with
 | non=>
  cases rx;have e':k=false:=e;subst e';exact truthy_none ⟨H,I,q⟩
 | bl b=>
  cases rx;have e':k=b:=e;subst e';exact Qbf ⟨H,I,q⟩
 | int i=>
  obtain⟨t,rfl⟩:=rx;have e':k=(i != 0):=e;subst e';exact PySem.P.truthy_int ⟨H,I,q⟩
 | str y=>
  obtain⟨t,rfl⟩:=rx;obtain⟨hy,e'⟩ : y.length<=sizeLine/\k=((y.length:Int) != 0):=e;subst e';exact PySem.P.truthy_str (by omega) ⟨H,I.tok _,q⟩
 | byt y=>
  obtain⟨t,rfl⟩:=rx;obtain⟨hy,e'⟩ : y.size<=sizeLine/\k=((y.size:Int) != 0):=e;subst e';exact PySem.W.truthy_bytes (by omega) ⟨H,I.tok _,q⟩
 | ref p=>
  cases rx;have e':(∃xs,SqL X.K H p xs/\k=!xs.isEmpty)\/(∃xs,SqT X.K H p xs/\k=!xs.isEmpty)\/∃kvs,H p=some (.dK kvs)/\k=!kvs.isEmpty:=e;rcases e' with⟨xs,hx,e'⟩|⟨xs,hx,e'⟩|⟨kvs,hx,e'⟩
  ·subst e';obtain⟨its,r,pl,hz⟩:=I.list hx;have hlen:=r.length;exact wpAny_truthy_list pl.isList (by simp only[Qbb];omega) ⟨H,I.tok _,by rw[RL r];exact q⟩
  ·subst e';obtain⟨its,r,pl,hz⟩:=I.tuple hx;have hlen:=r.length;exact truthy_tuple pl (by simp only[Qbb];omega) ⟨H,I.tok _,by rw[RL r];exact q⟩
  ·subst e';obtain⟨hz,hS,vs,r,m⟩ : kvs.length<=sizeLine/\(p == sysModules)=false/\∃vs,KV kvs vs/\s.heap.DictOf (GX X.prog X.w) p vs:=I.hok p _ hx;have hlen:kvs.length=vs.length:=QbR r;exact wpAny_truthy_dict hS m (by omega) ⟨H,I.tok _,by rw[bQ r];exact q⟩
 | _=>exact (show False from e).elim
theorem QG (ha:PE X a ta) (he:∀whole,isTrue a X.env whole=(do let v <-whole;standAt a.pos;holding [v] (truthy v))) :
  PT X a (fun σ H Q=>ta σ H λx H'=>∃k,uV X.K x H' k/\Q k H'):=by
 intro jb s σ H Q I h;refine isTrue_plain (thn (ha jb s σ H _ I h) λv s1 zz=>?_) (he _);obtain⟨x,H1,I1,r1,q1⟩:=zz;exact qO jb s1 σ H1 x v Q I1 r1 q1
theorem Bg:OpR X (binaryOp .Add) (λx y H Q=>∃i j,x=.str i/\y=.str j/\i.length+j.length<=sizeLine/\Q (.str (i++j)) H):=by
 intro jb s σ H x y v u Q I rx ry h;obtain⟨i,j,rfl,rfl,hz,q⟩:=h;obtain⟨t,rfl⟩:=rx;obtain⟨t',rfl⟩:=ry;exact add_str (λt' tk=>⟨.str (i++j),H,I.tok _,⟨_,rq⟩,q⟩) hz
theorem vals1 {x:V} {us:YE} (r:Vals [x] us):∃u,us=[u]/\RelV x u:=by
 cases r with
 | cons r1 r2=>cases r2;exact⟨_,rfl,r1⟩
theorem vals2 {x y:V} {us:YE} (r:Vals [x,y] us):∃u w',us=[u,w']/\RelV x u/\RelV y w':=by
 cases r with
 | cons r1 r2=>
  cases r2 with
  | cons r3 r4=>cases r4;exact⟨_,_,rfl,r1,r3⟩
theorem Xx:Dn X (.builtin "abs") (λxs H Q=>∃i,xs=[.int i]/\Q (.int (if i < 0 then -i else i)) H):=by
 intro jb s σ H xs us Q I r h;obtain⟨i,rfl,q⟩:=h;obtain⟨u,rfl,t,rfl⟩:=vals1 r;exact call_abs_int λu tk=>⟨.int (if i < 0 then -i else i),H,I.tok _,⟨_,rq⟩,q⟩
theorem gH (hc:X.calm=true):Dn X (.builtin "max") (λxs H Q=>∃i j,xs=[.int i,.int j]/\Q (.int (if j > i then j else i)) H):=by
 intro jb s σ H xs us Q I r h;obtain⟨i,j,rfl,q⟩:=h;obtain⟨u,w',rfl,⟨t,rfl⟩,⟨t',rfl⟩⟩:=vals2 r;refine max_two_ints (I.ok.hd hc) λh' tk k=>⟨_,H,I.kept k,?_,q⟩;by_cases hj:j > i
 ·rw[if_pos hj,if_pos hj];exact⟨_,rq⟩
 ·rw[if_neg hj,if_neg hj];exact⟨_,rq⟩
theorem Uu (hc:X.calm=true):Dn X (.builtin "min") (λxs H Q=>∃i j,xs=[.int i,.int j]/\Q (.int (if j < i then j else i)) H):=by
 intro jb s σ H xs us Q I r h;obtain⟨i,j,rfl,q⟩:=h;obtain⟨u,w',rfl,⟨t,rfl⟩,⟨t',rfl⟩⟩:=vals2 r;refine min_two_ints (I.ok.hd hc) λh' tk k=>⟨_,H,I.kept k,?_,q⟩;by_cases hj:j < i
 ·rw[if_pos hj,if_pos hj];exact⟨_,rq⟩
 ·rw[if_neg hj,if_neg hj];exact⟨_,rq⟩
theorem gP:Dn X (.type "int") (λxs H Q=>(∃i,xs=[.int i]/\Q (.int i) H)\/∃k,xs=[.bl k]/\Q (.int (if k then 1 else 0)) H):=by
 intro jb s σ H xs us Q I r h;rcases h with⟨i,rfl,q⟩|⟨k,rfl,q⟩
 ·obtain⟨u,rfl,t,rfl⟩:=vals1 r;exact call_int_int ⟨.int i,H,I,⟨_,rq⟩,q⟩
 ·obtain⟨u,rfl,r1⟩:=vals1 r;cases r1;exact call_int_bool ⟨.int (if k then 1 else 0),H,I.tok _,⟨_,rq⟩,q⟩
theorem FJ:Dn X (.type "str") (λxs H Q=>∃i,xs=[.int i]/\i.natAbs.log2 < 1920/\Q (.str (toString i)) H):=by
 intro jb s σ H xs us Q I r h;obtain⟨i,rfl,hz,q⟩:=h;obtain⟨u,rfl,t,rfl⟩:=vals1 r;exact PySem.P.str_of_int hz ⟨.str _,H,I.tok _,⟨_,rq⟩,q⟩
end
structure mY (h:Heap) (x dx C:Addr) (mA:YB):Prop where
 obj:h.get? x=some (PySem.W.instObj C dx)
 ns:h.Ns1 dx mA
 ne:dx≠x
theorem eV {h:Heap} {dx:Addr} {mA:YB} (n:h.Ns1 dx mA):∃od,h.get? dx=some od/\∀name,PySem.W.lookIn name od=some (mA name):=by
 obtain⟨o,es,ep,ho,hd,hk,_,hm⟩:=n;refine⟨o,ho,λname=>?_⟩;have e:=hm name;unfold nsFind findBy at e;rw[<-Array.find?_toList] at e;unfold PySem.W.lookIn;rw[hd];dsimp only;split
 ·rename_i y q;rw[q] at e;exact congrArg some e
 ·rename_i q;rw[q] at e;have a:es.toList.any (·.refKey)=false:=by
   rw[List.any_eq_false];intro y hy;obtain⟨z,t,hkey⟩:=hk y (Array.mem_toList_iff.mp hy);simp[DictEntry.refKey,hkey]
  have a':¬es.toList.any (·.refKey)=true:=by rw[a];exact QaR
  rw[if_neg a'];exact congrArg some e
theorem mY.look {h:Heap} {x dx C:Addr} {mA:YB} (I:mY h x dx C mA):∃od,PySem.W.InstAt h x (PySem.W.instObj C dx) C (some od)/\∀name,PySem.W.lookIn name od=some (mA name):=
 let ⟨od,ho,hl⟩:=eV I.ns
 ⟨od,⟨I.obj,rq,rq,ho⟩,hl⟩
section
variable {prog:Program} {w:World} {A:Around} {E:YA} {s:Shared} {K:YD} {x dx C f:Addr} {mA:YB} {name:Str} {v:Value}
end
section
variable {P:Program} {w:World} {H H':Hp} {h h':Heap} {a C dx:Addr} {fs fs':List (Str×V)}
theorem ql (hok:HOk P w H h) (e:H a=some (.ins C dx fs)):∃mA,mY h a dx C mA/\(∀f,Rb (fs.lookup f) (mA f))/\PySem.Within mA (fs.map (·.1))/\fs.length<=1000/\H dx=some (.own a):=by
 obtain⟨d,z,ne,ob,mA,n,r,q⟩:=(show Cq P w H h a (.ins C dx fs) from hok a _ e)
 exact⟨mA,⟨ob,n,ne⟩,r,q,z,d⟩
end
structure Cls (K:YD) (C:Addr):Prop where
 pg:PySem.W.plainGet K C Str.empty=true
 hd:PySem.W.hasDictIn K C=true
 po:PySem.W.plainOver K C=true
 sa:findIn K (.ref C) "__setattr__"=some (some (.builtin "object.__setattr__"))
theorem Cls.get {K:YD} {C:Addr} (c:Cls K C) (f:Str):PySem.W.plainGet K C f=true:=c.pg
section
variable {X:Cx} {jb:YC} {σ : St} {H:Hp} {s:Shared} {a C dx:Addr} {fs:List (Str×V)} {f:Str} {v:V} {A:Around} {E:YA}
end
section
variable {X:Cx} {o e value:Expr} {f:Str} {pos pos' tpos:Pos} {ta tv:TE}
end
section
variable {X:Cx} {jb:YC} {σ : St} {H:Hp} {s:Shared} {A:Around} {E:YA} {Q:YA} {c:Value} {b:Bool}
inductive Je (K:YD) (H:Hp):V->Value->Prop where
 | non:Je K H .non (.type "NoneType")
 | bl (x:Bool):Je K H (.bl x) (.type "bool")
 | int (i:Int):Je K H (.int i) (.type "int")
 | str (x:Str):Je K H (.str x) (.type "str")
 | flt (x:UInt64):Je K H (.flt x) (.type "float")
 | lst {a:Addr} {xs:YG} (e:H a=some (.lst xs)):Je K H (.ref a) (.type "list")
 | frz {a:Addr} {o:Obj} {xs:YG} (e:H a=some (.frz o (.lst xs))):Je K H (.ref a) (.type "list")
 | tup {a:Addr} {xs:YG} (e:H a=some (.tup xs)):Je K H (.ref a) (.type "tuple")
 | dK {a:Addr} {kvs:List (Key×V)} (e:H a=some (.dK kvs)):Je K H (.ref a) (.type "dict")
 | dT {a:Addr} {kvs:List (List Key×V)} (e:H a=some (.dT kvs)):Je K H (.ref a) (.type "dict")
 | ins {a C dx:Addr} {fs:List (Str×V)} (e:H a=some (.ins C dx fs)) (cl:Cls K C) (ha:findIn K (.ref C) "__class__"=some (some (.builtin "object.__class__")))
   (hn:PySem.W.specialIn K (.builtin "object.__class__") "__get__"=some (some (.builtin "getset_descriptor.__get__"))) (htk:PySem.W.takesIn K (.builtin "object.__class__")=some true)
   (hm:PySem.W.mroIn K C (.type "object")=some true):Je K H (.ref a) (.ref C)
theorem fG {x:V} {u t:Value} (I:Inv X jb σ H s) (rx:RelV x u) (ty:Je X.K H x t) (e:kitOne X.K t c=some b) (h:∀tk,Q (.bool b) { s with toks:=tk }) :
  wpAny (model X.prog X.w) A (call (.builtin "isinstance") [u,c]) Q E s:=by
 cases ty with
 | non=>cases (show u=Value.none from rx);exact kia_one PySem.W.kitx_none I.kIn True.intro e (λz=>nomatch z) h
 | bl y=>cases (show u=Value.bool y from rx);exact kia_one PySem.W.kitx_bool I.kIn True.intro e (λz=>nomatch z) h
 | int i=>obtain⟨t,q⟩:=(show ∃t,u=Value.int i t from rx);cases q;exact kia_one PySem.W.kitx_int I.kIn True.intro e (λz=>nomatch z) h
 | str y=>obtain⟨t,q⟩:=(show ∃t,u=Value.str y t from rx);cases q;exact kia_one PySem.W.kitx_str I.kIn True.intro e (λz=>nomatch z) h
 | flt y=>obtain⟨t,q⟩:=(show ∃t,u=Value.float y t from rx);cases q;exact kia_one PySem.W.kitx_float I.kIn True.intro e (λz=>nomatch z) h
 | @lst a xs ea=>
  cases (show u=Value.ref a from rx)
  obtain⟨_,_,n,_,h1⟩:=(show Cq X.prog X.w H s.heap a (.lst xs) from I.hok a _ ea)
  exact kia_one PySem.W.kitx_list I.kIn ⟨_,h1,rq⟩ e (λz=>nomatch z) h
 | @frz a ob xs ea=>
  cases (show u=Value.ref a from rx)
  obtain⟨_,_,_,n,_,h1⟩:=(show Cq X.prog X.w H s.heap a (.frz ob (.lst xs)) from I.hok a _ ea)
  exact kia_one PySem.W.kitx_list I.kIn ⟨_,h1,rq⟩ e (λz=>nomatch z) h
 | @tup a xs ea=>
  cases (show u=Value.ref a from rx)
  obtain⟨_,_,_,p⟩:=(show Cq X.prog X.w H s.heap a (.tup xs) from I.hok a _ ea)
  obtain⟨o,h1,h2,_⟩:=p;exact kia_one PySem.W.kitx_tuple I.kIn ⟨o,h1,h2⟩ e (λz=>nomatch z) h
 | @dK a kvs ea=>
  cases (show u=Value.ref a from rx)
  obtain⟨_,_,vs,_,p⟩:=(show Cq X.prog X.w H s.heap a (.dK kvs) from I.hok a _ ea)
  obtain⟨o,es,ep,h1,h2,_⟩:=p;exact kia_one PySem.W.kitx_dict I.kIn ⟨o,h1,h2.1⟩ e (λz=>nomatch z) h
 | @dT a kvs ea=>
  cases (show u=Value.ref a from rx)
  obtain⟨_,_,xs,_,o,es,ep,h1,h2,_⟩:=(show Cq X.prog X.w H s.heap a (.dT kvs) from I.hok a _ ea)
  exact kia_one PySem.W.kitx_dict I.kIn ⟨o,h1,h2.1⟩ e (λz=>nomatch z) h
 | @ins a C dx fs ea cl ha hn htk hm=>
  cases (show u=Value.ref a from rx)
  obtain⟨mA,O,_⟩:=ql I.hok ea;obtain⟨od,J,_⟩:=O.look;exact kia_one (PySem.W.kitx_own (cl.get _) cl.hd ha hn htk hm) I.kIn J e (λz=>nomatch z) h
end
structure Dq (k:Nat) (A:Around):Prop where
 hd:A.handled=none
 dp:A.depth+3*k+5 < recursionLimit
 un:A.units+16*k+200 < cLine
theorem Dq.mono {j k:Nat} {A:Around} (r:Dq k A) (h:j<=k):Dq j A:=⟨r.hd,by have:=r.dp;omega,by have:=r.un;omega⟩
theorem Dq.deeper {k:Nat} {A:Around} (r:Dq (k+1) A) (env:Env):Dq k (A.deeper env):=
 ⟨r.hd,by have:=r.dp;show A.depth+1+3*k+5 < _;omega,by have:=r.un;show A.units+3+16*k+200 < _;omega⟩
theorem Dq.in1 {k:Nat} {A:Around} (r:Dq (k+1) A):Dq k A.in1:=
 ⟨r.hd,by have:=r.dp;show A.depth+3*k+5 < _;omega,by have:=r.un;show A.units+1+16*k+200 < _;omega⟩
theorem Dq.depth {k:Nat} {A:Around} (r:Dq k A):A.depth < recursionLimit:=by have:=r.dp;omega
theorem Dq.units {k:Nat} {A:Around} (r:Dq k A):A.units+64 < cLine:=by have:=r.un;omega
def RZ:TA:=λ_ H Q=>Q [] H
def GF (ta:TE) (tr:TA):TA:=fun σ H Q=>ta σ H λx H1=>tr σ H1 λxs H2=>Q (x::xs) H2
section
variable {X:Cx} {e:Expr} {es:YJ} {te:TE} {t:TA} {pos:Pos}
theorem Ab:PA X [] RZ:=λ_ _ _ _ H Q I h=>Calls.spliced_nil ⟨[],H,I,.nil,h⟩
theorem Aa (ha:PE X e te) (hr:PA X es t) (hs:starEach (e::es) X.env=(false,eval e X.env)::starEach es X.env:=by rfl):PA X (e::es) (GF te t):=by
 intro pos jb s σ H Q I h;rw[hs];show wpAny _ _ (spliced ((false,eval e X.env)::backTo pos (starEach es X.env))) _ _ s;refine Calls.spliced_cons (thn (ha jb s σ H _ I h) λu s1 zz=>?_);obtain⟨x,H1,I1,r1,q1⟩:=zz;refine thn (hr pos jb s1 σ H1 _ I1 q1) λus s2 zz=>?_;obtain⟨xs,H2,I2,r2,q2⟩:=zz;exact⟨x::xs,H2,I2,.cons r1 r2,q2⟩
def wW (t:TA):TE:=fun σ H Q=>t σ H λxs H1=>xs.length<=sizeLine/\∀p,H1 p=none->Q (.ref p) (upd H1 p (.tup xs))
def xg (t:TA):TE:=fun σ H Q=>t σ H λxs H1=>xs.length<=sizeLine/\∀p,H1 p=none->Q (.ref p) (upd H1 p (.lst xs))
theorem CZ {x1} (h:PA X es t):PE X (.Tuple es x1 pos) (wW t):=by
 intro jb s σ H Q I hq;refine wpAny_Tuple_spliced (thn (h pos jb s σ H _ I hq) λus s1 zz=>?_);obtain⟨xs,H1,I1,r,z,q⟩:=zz;refine⟨by rw[<-r.length];exact z,?_⟩;have hf:H1 s1.heap.objs.size=none:=I1.hok.fresh (Qce _);refine⟨.ref s1.heap.objs.size,upd H1 s1.heap.objs.size (.tup xs),I1.laid (t':=s1.toks) (λb u e=>Qar _ e) (Qce _) ?_,rq,q _ hf⟩;exact⟨z,us,r,⟨_,QaH _ rfl,rq,_,rq⟩⟩
theorem BZ (h:PA X es t):PE X (.List es pos) (xg t):=by
 intro jb s σ H Q I hq;refine wpAny_List_spliced (thn (h pos jb s σ H _ I hq) λus s1 zz=>?_);obtain⟨xs,H1,I1,r,z,q⟩:=zz;refine⟨by rw[<-r.length];exact z,?_⟩;have hf:H1 s1.heap.objs.size=none:=I1.hok.fresh (Qce _);refine⟨.ref s1.heap.objs.size,upd H1 s1.heap.objs.size (.lst xs),I1.laid (t':=s1.toks) (λb u e=>Qar _ e) (Qce _) ?_,rq,q _ hf⟩;exact⟨z,us,0,r,QaH _ rfl⟩
end
abbrev Sp:=YG->Hp->VK->XK->Prop
abbrev CXT:=List Env->Hp->Shared->XK->YA
structure NT (P:Program) (w:World) (K:YD) (mg:YB) (base:Heap) (A:Around) (outer:List Env) (s:Shared) (H:Hp):Prop where
 frames:A.frames=some outer
 mod:Mod K mg base
 bs:∀b o,base.get? b=some o->s.heap.get? b=some o/\H b=none
 bsz:base.objs.size<=s.heap.objs.size
 FW:s.heap.FunFrames base outer
 frf:∀b∈frs outer,H b=none
 hok:HOk P w H s.heap
 bare:AllBare s.gens
def CE (outer:List Env) (P:Program) (w:World) (H:Hp) (s:Shared) (Q:VK) (u:Value) (s':Shared):Prop:=
 ∃v H',s'.os=s.os/\AllBare s'.gens/\Un (frs outer) [] H H' s.heap s'.heap/\HOk P w H' s'.heap/\RelV v u/\Q v H'
def CR (CX:CXT) (outer:List Env) (P:Program) (w:World) (H:Hp) (s:Shared) (Q:VK) (E:XK) (r:Result) (s':Shared):Prop:=
 match r with
 | .ok (.ret u)=>CE outer P w H s Q u s'
 | .ok _=>False
 | .error e=>CX outer H s E e s'
structure Jf (P:Program) (w:World) (K:YD) (mg:YB) (base:Heap) (CX:CXT) (k:Nat) (f:Addr) (fd:FuncData) (ps:YF) (sp:Sp):Prop where
 len:∀vs H Q E,sp vs H Q E->vs.length=ps.length
 run:∀(A:Around) (outer:List Env) (s:Shared) (H:Hp) (args:Args) (us:YE) (vs:YG) (Q:VK) (E:XK),Dq k A->NT P w K mg base A outer s H->BindsTo s fd args (ps.zip us)->Vals vs us->sp vs H Q E ->
  codeAny (model P w) A (.call (.ref f) args) (CR CX outer P w H s Q E) s
theorem Jf.imp {P:Program} {w:World} {K:YD} {mg:YB} {base:Heap} {CX:CXT} {k:Nat} {f:Addr} {fd:FuncData} {ps:YF} {sp sp':Sp} (F:Jf P w K mg base CX k f fd ps sp)
  (h:∀vs H Q E,sp' vs H Q E->sp vs H Q E):Jf P w K mg base CX k f fd ps sp':=
 ⟨λvs H Q E q=>F.len vs H Q E (h _ _ _ _ q),λA outer s H args us vs Q E hr he hb hv hs=>F.run A outer s H args us vs Q E hr he hb hv (h _ _ _ _ hs)⟩
theorem NT.in1 {P:Program} {w:World} {K:YD} {mg:YB} {base:Heap} {A:Around} {outer:List Env} {s:Shared} {H:Hp} (e:NT P w K mg base A outer s H) :
  NT P w K mg base A.in1 outer s H:=⟨e.frames,e.mod,e.bs,e.bsz,e.FW,e.frf,e.hok,e.bare⟩
section
variable {X:Cx} {jb:YC} {σ : St} {H:Hp} {s s':Shared}
theorem Inv.env0 (I:Inv X jb σ H s):NT X.prog X.w X.K X.mg X.base X.A X.stack s H:=
 ⟨I.ok.frames,I.ok.mod,I.bs,Qca I.ok.bsz I.sz,I.stack,I.Sh,I.hok,I.bare⟩
theorem Inv.after {Q:VK} {u:Value} (I:Inv X jb σ H s) (h:CE X.stack X.prog X.w H s Q u s'):EP X jb σ Q u s':=by
 obtain⟨v,H',os,bare,un,hok,r,q⟩:=h;obtain⟨hh,g,d,t,os'⟩:=s';obtain rfl:os'=s.os:=os;exact⟨v,H',I.call (h':=hh) (g':=g) (d':=d) (t':=t) (ch:=[]) un hok bare (λb z=>absurd z (by simp)),r,q⟩
end
def aA (sp:Sp) (dvs:YG) (E:XK) (t:TA):TE:=fun σ H Q=>t σ H λvs H1=>sp (vs++dvs) H1 Q E
def Binds (K:YD) (fd:FuncData) (ps:YF) (ds:YE):Prop:=
 ∀(s:Shared) (us:YE),K.In s.heap->(us++ds).length=ps.length->BindsTo s fd ⟨us,[]⟩ (ps.zip (us++ds))
theorem Binds.all {K:YD} {fd:FuncData} {ps:YF} (h:∀us:YE,us.length=ps.length->bindArgs fd ⟨us,[]⟩=pure (ps.zip us)):Binds K fd ps []:=λs us _ hl=>by
 rw[QbA] at hl ⊢;exact .of_eq (h us hl)
def Passes (CX:CXT) (X:Cx) (E:XK):Prop:=∀(jb:YC) (σ : St) (H:Hp) (s:Shared) (e:Value) (s':Shared),Inv X jb σ H s->CX X.stack H s E e s'->X.xe e s'
section
variable {X:Cx} {CX:CXT} {k:Nat} {f C:Addr} {fd:FuncData} {ps:YF} {sp:Sp} {dvs:YG} {ds:YE} {E:XK} {x m:Str} {p pos apos:Pos} {e o:Expr} {es:YJ} {ta:TE} {t:TA}
theorem rD {jb:YC} {σ : St} {H:Hp} {s:Shared} {Q:VK} {us:YE} {vs:YG} (F:Jf X.prog X.w X.K X.mg X.base CX k f fd ps sp) (hr:Dq k X.A) (hb:Binds X.K fd ps ds) (hd:Vals dvs ds) (hx:Passes CX X E)
  (I:Inv X jb σ H s) (r:Vals vs us) (h:sp (vs++dvs) H Q E):wpAny (model X.prog X.w) X.A (call (.ref f) us) (EP X jb σ Q) X.xe s:=by
 have r2:Vals (vs++dvs) (us++ds):=r.append hd;have hl:(us++ds).length=ps.length:=by rw[<-r2.length];exact F.len _ _ _ _ h
 refine wpAny_call (codeAny_mono (F.run X.A X.stack s H ⟨us,[]⟩ (us++ds) (vs++dvs) Q E hr I.env0 (hb s us I.kIn hl) r2 h) λr s' hq=>?_);cases r with
 | error e=>exact hx jb σ H s e s' I hq
 | ok fl=>
  cases fl with
  | ret u=>exact I.after hq
  | next=>exact False.elim hq
  | brk=>exact False.elim hq
  | cont=>exact False.elim hq
theorem o9 (F:Jf X.prog X.w X.K X.mg X.base CX k f fd ps sp) (hr:Dq k X.A) (hg:Gl X x) (hm:X.mg x=some (.ref f)) (hk:keepIn X.K (.ref f)=true) (hb:Binds X.K fd ps ds) (hd:Vals dvs ds) (hx:Passes CX X E)
  (ha:PA X (e::es) t) (hdb:(x == ("__debug__":Str))=false:=by decide) (he:starEach (e::es) X.env=(false,eval e X.env)::starEach es X.env:=by rfl) (hpl:(backTo pos (starEach es X.env)).any (·.1)=false:=by rfl) :
  PE X (.Call (.Name x p) (e::es) [] pos) (aA sp dvs E t):=by
 intro jb s σ H Q I h;refine QaX (KC I hg hm ?_ hdb);refine PySem.W.callWith_K (h₀:=X.base) I.ok.mod.kin hk (thn (ha pos jb s σ H _ I h) λus s1 zz=>?_) he hpl;obtain⟨vs,H1,I1,r,q⟩:=zz;refine⟨I1.kIn,?_⟩;exact rD F hr hb hd hx I1 r q
end
def PK (X:Cx) (kws:List Keyword) (t:TA):Prop:=
 ∀(pos:Pos) (jb:YC) (s:Shared) (σ : St) (H:Hp) (Q:YG->Hp->Prop),Inv X jb σ H s->t σ H Q->wpAny (model X.prog X.w) X.A (evalAll ((backToKw pos (keywordEach kws X.env)).map (·.2))) (AP X jb σ Q) X.xe s
section
variable {X:Cx} {CX:CXT} {k:Nat} {f C:Addr} {fd:FuncData} {ps ks:YF} {sp:Sp} {E:XK} {x m:Str} {p pos apos kpos:Pos} {e o:Expr} {es:YJ} {kws:List Keyword} {te ta:TE} {t tk:TA} {nm:Option Str}
theorem rN:PK X [] RZ:=λ_ _ _ _ H Q I h=>wpAny_evalAll_nil ⟨[],H,I,.nil,h⟩
theorem o7 (ha:PE X e te) (hr:PK X kws t):PK X (⟨nm,e,kpos⟩::kws) (GF te t):=by
 intro pos jb s σ H Q I h;show wpAny _ _ (evalAll ((do let v <-eval e X.env;standAt pos;pure v)::(backToKw pos (keywordEach kws X.env)).map (·.2))) _ _ s
 refine wpAny_evalAll_cons (Qcj (thn (ha jb s σ H _ I h) λu s1 zz=>?_));obtain⟨x,H1,I1,r1,q1⟩:=zz;refine Qcj (QbW (Qck ?_));refine thn (hr pos jb s1 σ H1 _ I1 q1) λus s2 zz=>?_;obtain⟨xs,H2,I2,r2,q2⟩:=zz;exact⟨x::xs,H2,I2,.cons r1 r2,q2⟩
variable {g:YE->YE->YE} {gV:YG->YG->YG}
end
structure Bf (N P:YF) (sc:Scope):Prop where
 kind:sc.kind=.function
 co:sc.isCoroutine=false
 gen:sc.isGenerator=false
 nd:N.Nodup
 pre:N.take P.length=P
 par:∀x∈P,sc.names.lookup x=some .local\/sc.names.lookup x=some .cell
 WQ:∀y∈sc.names,y.2≠.free
theorem Ux {kindOf:Str->Option NameKind} {x:Str}:∀{binds:List (Str×Value)} {m:YB},(∀v,(x,v)∉binds)->bindL kindOf binds m x=m x
 | [],_,_=>rfl
 | (n,v)::r,m,h=>by
  unfold bindL;rw[Ux λw hw=>h w (QaD _ hw)];split
  ·have:x≠n:=by rintro rfl;exact h v QaN
   simp[this]
  ·rfl
theorem Uz {kindOf:Str->Option NameKind} {x:Str}:∀{binds:List (Str×Value)} {m:YB},(∀v,(x,v)∉binds)->bindC kindOf binds m x=m x
 | [],_,_=>rfl
 | (n,v)::r,m,h=>by
  unfold bindC;rw[Uz λw hw=>h w (QaD _ hw)];split
  ·rfl
  ·have:x≠n:=by rintro rfl;exact h v QaN
   simp[this]
theorem Uy {kindOf:Str->Option NameKind} {x:Str} {v:Value}:∀{P:YF} {vs:YE} {i:Nat} {m:YB},P.Nodup->P[i]?=some x->vs[i]?=some v->kindOf x=some .local ->
  bindL kindOf (P.zip vs) m x=some v
 | [],_,_,_,_,h,_,_=>by simp at h
 | _::_,[],_,_,_,_,h,_=>by simp at h
 | p::P,w::vs,0,m,nd,h1,h2,hk=>by
  simp at h1 h2;subst h1;subst h2;show bindL kindOf ((p,w)::P.zip vs) m p=_;unfold bindL;rw[Ux λv hv=>(QbI.mp nd).1 (List.of_mem_zip hv).1,if_pos hk];simp
 | p::P,w::vs,i+1,m,nd,h1,h2,hk=>by
  show bindL kindOf ((p,w)::P.zip vs) m x=_;unfold bindL;exact Uy (i:=i) (QbI.mp nd).2 (by simpa using h1) (by simpa using h2) hk
theorem UG {kindOf:Str->Option NameKind} {x:Str} {v:Value}:∀{P:YF} {vs:YE} {i:Nat} {m:YB},P.Nodup->P[i]?=some x->vs[i]?=some v->kindOf x≠some .local ->
  bindC kindOf (P.zip vs) m x=some v
 | [],_,_,_,_,h,_,_=>by simp at h
 | _::_,[],_,_,_,_,h,_=>by simp at h
 | p::P,w::vs,0,m,nd,h1,h2,hk=>by
  simp at h1 h2;subst h1;subst h2;show bindC kindOf ((p,w)::P.zip vs) m p=_;unfold bindC;rw[Uz λv hv=>(QbI.mp nd).1 (List.of_mem_zip hv).1,if_neg hk];simp
 | p::P,w::vs,i+1,m,nd,h1,h2,hk=>by
  show bindC kindOf ((p,w)::P.zip vs) m x=_;unfold bindC;exact UG (i:=i) (QbI.mp nd).2 (by simpa using h1) (by simpa using h2) hk
def start (N:YF) (vs:YG):St:=vs.map some++List.replicate (N.length - vs.length) none
def Ig (CX:CXT) (P:Program) (w:World) (K:YD) (mg:YB) (base:Heap) (N:YF) (qual:Str) (scope:Scope) (f:Addr) (cd:Value) (A:Around) (outer:List Env) (s:Shared) (H:Hp) (E:XK):Cx where
 prog:=P
 w:=w
 K:=K
 mg:=mg
 base:=base
 A:=A.deeper (envOfC qual scope s.heap.objs.size f cd)
 N:=N
 s₀:=s
 H₀:=H
 env:=envOfC qual scope s.heap.objs.size f cd
 outer:=outer
 stack:=envOfC qual scope s.heap.objs.size f cd::outer
 ex:=[]
 calm:=true
 fn:=λ_=>true
 pn:=[]
 xe:=λe s'=>wpAny (model P w) (A.deeper (envOfC qual scope s.heap.objs.size f cd)) (leaving (envOfC qual scope s.heap.objs.size f cd) e) (λ_ s''=>CX outer H s E e s'') (λe' s''=>CX outer H s E e' s'') s'
theorem Xu {sc:Scope} {n:Nat} {x:Str} (h:sc.names.lookup x=some .cell):∃c,(cellsFrom n sc.names []).lookup x=some c:=by
 have q:=PySem.W.cellsFrom_some sc.names n [] (.inl h);exact Option.isSome_iff_exists.mp q
theorem Um {CX:CXT} {P:Program} {w:World} {K:YD} {mg:YB} {base:Heap} {N ps:YF} {qual:Str} {scope:Scope} {f:Addr} {cd:Value} {A:Around} {outer:List Env} {s s1:Shared} {H:Hp} {E:XK} {us:YE} {vs:YG}
  (S:Bf N ps scope) (hd:A.handled=none) (e0:NT P w K mg base A outer s H) (hl:vs.length=ps.length) (r:Vals vs us)
  (x:InCallC s s.heap.objs.size (bindL (envOfC qual scope s.heap.objs.size f cd).kindOf (ps.zip us) λ_=>none) (cellsFrom (s.heap.objs.size+1) scope.names []) (bindC (envOfC qual scope s.heap.objs.size f cd).kindOf (ps.zip us) λ_=>none) s1) :
  Inv (Ig CX P w K mg base N qual scope f cd A outer s H E) [] (start N vs) H s1:=by
 have hpl:ps.length<=N.length:=by have:=congrArg List.length S.pre;rw[Qbn] at this;omega
 obtain⟨h1,tk,rfl,hk⟩:=x.done;have noA:∀b:Addr,b∉(Ig CX P w K mg base N qual scope f cd A outer s H E).ex:=λb z=>absurd (show b∈([]:List Addr) from z) (by simp)
 refine⟨⟨e0.mod,S.kind,rq,rq,Qce _,λy z c h1 h2=>?_,λy hy=>?_,λy c _ h=>?_,λ_=>hd,Around.frames_deeper e0.frames,.inr ⟨rq,rq⟩,λb z=>absurd z (noA b),e0.bs,e0.bsz,λb _ _=>noA b,λb z=>absurd z (noA b),e0.FW,e0.frf⟩,
  rfl,e0.bare,Un.kept hk,⟨_,x.toInCall.ns,λi y v h1 h2 h3=>?_⟩,λy c h=>⟨_,x.cell y c h⟩,e0.hok.fresh (Qce _),λy c h=>?_,λp hp=>absurd (show p∈([]:YC) from hp) (by simp),e0.hok.kept hk,?_⟩
 ·exact name_of_addr x.apart (QaK h1) (QaK h2)
 ·have hy:scope.names.lookup y=some .cell\/scope.names.lookup y=some .free:=hy;rcases hy with hy | hy
  ·exact Xu hy
  ·exact absurd rfl (S.WQ _ (QaK hy))
 ·exact Nat.le_of_lt (x.above y c (QaK h))
 ·have hi:i < vs.length:=by
   unfold start at h2;by_cases hi:i < vs.length
   ·exact hi
   ·rw[Qae (by simpa using hi)] at h2;rw[List.getElem?_replicate] at h2;split at h2 <;> cases h2
  have ha:vs[i]?=some v:=by
   unfold start at h2;rw[Qag (by simpa using hi),Qbc] at h2;cases e:vs[i]? with
   | none=>rw[e] at h2;cases h2
   | some a=>rw[e] at h2;cases h2;rfl
  obtain⟨u,hu,rv⟩:=r.get ha;have hp:ps[i]?=some y:=by
   rw[<-S.pre,List.getElem?_take_of_lt (by omega)];exact h1
  have ndP:ps.Nodup:=by rw[<-S.pre];exact S.nd.sublist (List.take_sublist _ _)
  refine⟨u,rv,?_⟩;rcases S.par y (QaE hp) with k | k
  ·exact .inl ⟨k,Uy ndP hp hu k⟩
  ·obtain⟨c,e⟩:=Xu (n:=s.heap.objs.size+1) k;refine .inr ⟨.inl k,c,e,?_⟩;have q:=x.cell y c e;rw[UG ndP hp hu (by show scope.names.lookup y≠_;rw[k];decide)] at q;exact q
 ·exact e0.hok.fresh (Nat.le_of_lt (x.above y c (QaK h)))
 ·unfold start;show _=N.length;rw[QaM,Qbw,List.length_replicate];omega
theorem nR {CX:CXT} {P:Program} {w:World} {K:YD} {mg:YB} {base:Heap} {k:Nat} {f:Addr} {name qual:Str} {params:Arguments} {body:List Stmt} {scope:Scope} {dV kV doc pm cdv ct oc:Value} {an od:Option Addr}
  {osl:YI} {N ps:YF} {sp:Sp} (lk:K.lookup f=some ⟨oc,od,.func (fnOf name qual params body scope dV kV doc pm an cdv ct),osl⟩) (hcd:codeIn K cdv qual=true) (S:Bf N ps scope)
  (len:∀vs H Q E,sp vs H Q E->vs.length=ps.length)
  (hbody:∀(A:Around) (outer:List Env) (s:Shared) (H:Hp) (vs:YG) (Q:VK) (E:XK),Dq k (A.deeper (envOfC qual scope s.heap.objs.size f cdv))->sp vs H Q E ->
   ∃t,PSs (Ig CX P w K mg base N qual scope f cdv A outer s H E) body t/\t { nx:=λ_ H'=>Q .non H',rt:=Q } (start N vs) H) :
  Jf P w K mg base CX (k+1) f (fnOf name qual params body scope dV kV doc pm an cdv ct) ps sp:=by
 refine⟨len,λA outer s H args us vs Q E hr e0 hb r hsp=>?_⟩;have hl:=len _ _ _ _ hsp;have KX:K.In s.heap:=e0.mod.kin.keeps λb o e=>(e0.bs b o e).1;have lim:s.heap.NoLimit:=e0.mod.nolimit.keeps λb o e=>(e0.bs b o e).1;have hkind:∀y∈ps.zip us,scope.names.lookup y.1=some .local\/(scope.names.lookup y.1=some .cell/\((cellsFrom (s.heap.objs.size+1) scope.names []).lookup y.1).isSome=true):=λ⟨n,v⟩ hy=>by
  rcases S.par n (List.of_mem_zip hy).1 with q | q
  ·exact .inl q
  ·exact .inr ⟨q,PySem.W.cellsFrom_some _ _ _ (.inl q)⟩
 refine codeAny_call_function hr.depth (KX _ _ lk) rfl S.co S.gen rfl (PySem.W.codeRec_of KX hcd) (hb _ _ _ _ ?_);refine wpAny_newFunctionEnv_cells S.kind hkind λenv he s1 x=>?_;subst he;refine⟨lim.keeps x.toInCall.keep,codeAny_func ?_⟩;obtain⟨t,ht,hq⟩:=hbody A outer s H vs Q E (hr.deeper _) hsp;have I:Inv (Ig CX P w K mg base N qual scope f cdv A outer s H E) [] (start N vs) H s1:=Um S hr.hd e0 hl r x;refine Qcl (ht [] s1 (start N vs) H _ I hq) (λfl s' hs=>?_) λe s' hs=>hs;have fin:∀{σ':St} {H':Hp} {v:V} {u:Value},Inv (Ig CX P w K mg base N qual scope f cdv A outer s H E) [] σ' H' s'->RelV v u->Q v H'->CE outer P w H s Q u s':=
  λ{σ' H' v u} J rv q=>⟨v,H',J.os,J.bare,J.base,J.hok,rv,q⟩
 cases fl with
 | ret u=>
  obtain⟨v,σ',H',J,rv,q⟩:=hs;exact fin J rv q
 | next=>
  obtain⟨σ',H',J,q⟩:=hs;exact fin (v:=V.non) (u:=Value.none) J rfl q
 | brk=>
  obtain⟨_,_,_,q⟩:=hs;exact False.elim q
 | cont=>
  obtain⟨_,_,_,q⟩:=hs;exact False.elim q
section
variable {X:Cx} {x:Str} {p pos:Pos} {e:Expr} {es:YJ} {t:TA} {id T:String} {r:YG->Hp->VK->Prop}
def tCB (r:YG->Hp->VK->Prop) (t:TA):TE:=fun σ H Q=>t σ H λvs H1=>r vs H1 Q
theorem Ay (hc:Dn X (.builtin id) r) (hg:Gl X x) (hm:X.mg x=none) (hv:bootBuiltins x=some (.builtin id)) (ha:PA X (e::es) t) (hn:x≠"__name__":=by decide) (hdb:(x == ("__debug__":Str))=false:=by decide)
  (he:starEach (e::es) X.env=(false,eval e X.env)::starEach es X.env:=by rfl) (hpl:(backTo pos (starEach es X.env)).any (·.1)=false:=by rfl):PE X (.Call (.Name x p) (e::es) [] pos) (tCB r t):=by
 intro jb s σ H Q I h;refine QaX (JW I hg hm hv ?_ hn hdb);refine PyProof.Rows.callWith_builtin1 (thn (ha pos jb s σ H _ I h) λus s1 zz=>?_) he hpl;obtain⟨vs,H1,I1,r1,q1⟩:=zz;exact hc jb s1 σ H1 vs us Q I1 r1 q1
theorem Cj (hc:Dn X (.type T) r) (hg:Gl X x) (hm:X.mg x=none) (hv:bootBuiltins x=some (.type T)) (ha:PA X (e::es) t) (hn:x≠"__name__":=by decide) (hdb:(x == ("__debug__":Str))=false:=by decide)
  (he:starEach (e::es) X.env=(false,eval e X.env)::starEach es X.env:=by rfl) (hpl:(backTo pos (starEach es X.env)).any (·.1)=false:=by rfl):PE X (.Call (.Name x p) (e::es) [] pos) (tCB r t):=by
 intro jb s σ H Q I h;refine QaX (JW I hg hm hv ?_ hn hdb);refine Qac (thn (ha pos jb s σ H _ I h) λus s1 zz=>?_) he hpl;obtain⟨vs,H1,I1,r1,q1⟩:=zz;exact hc jb s1 σ H1 vs us Q I1 r1 q1
end
end L2
namespace HT
open PySem PyProof.Rows
section
open PySem.SeqAt
open PySem.AutoSeq1 (wpAny_loadPart')
open PySem.MeetsSeq PySem.MeetsSeq2 PySem.MeetsSeq3
end
section
variable {prog:Program} {w:World} {A:Around} {E:YA} {s:Shared}
theorem qx {t b:Addr} {vs ws:YE} {Q:YA} (ht:IsTup s.heap t vs.toArray) (hb:IsTup s.heap b ws.toArray) (hv:vs≠[])
  (h1:ws=[]->Q (.ref t) s) (h2:ws≠[]->Q (.ref s.heap.objs.size) { s with heap:=s.heap.push { cls:=.type "tuple",data:=.seq (vs++ws).toArray } })
  (hsz:vs.length+ws.length<=sizeLine):wpAny (model prog w) A (binaryOp .Add (.ref t) (.ref b)) Q E s:=by
 obtain⟨⟨cls,dd,data,sl⟩,ho,hc,n,hd⟩:=id ht;obtain⟨⟨cls2,dd2,data2,sl2⟩,ho2,hc2,n2,hd2⟩:=id hb;simp only at hc hd hc2 hd2;subst hc hd hc2 hd2;have e:vs.toArray++ws.toArray=(vs++ws).toArray:=by simp
 by_cases hw:ws=[]
 ·exact concat_meets ⟨_,ho,rq⟩ ⟨_,ho2,rq⟩ noFill_tuple_add seq_tuple_add PySem.F.slot_tuple_add PySem.F.entry_tuple_add (PySem.F.args_tuple_add_2 _ _)
   (tuple_addW1 t b vs.toArray ws.toArray n n2 dd dd2 sl sl2 (by simpa using hv) (by simp[hw])) ⟨ho,ho2,h1 hw⟩
 ·refine concat_meets ⟨_,ho,rq⟩ ⟨_,ho2,rq⟩ noFill_tuple_add seq_tuple_add PySem.F.slot_tuple_add PySem.F.entry_tuple_add (PySem.F.args_tuple_add_2 _ _)
   (tuple_addW2 t b vs.toArray ws.toArray n n2 dd dd2 sl sl2 (by simpa using hv) (by simpa using hw) (by rw[Qbb,Qbb];exact hsz)) ⟨ho,ho2,?_⟩
  rw[e];exact h2 hw
def sIx (n d:Nat):Option Int->Nat
 | none=>d
 | some v=>if v < 0 then (v+(n:Int)).toNat else min v.toNat n
theorem QF (n d:Nat):sIx n d none=d:=rfl
theorem Zk (n d k:Nat):sIx n d (some (k:Int))=min k n:=by
 show (if (k:Int) < 0 then ((k:Int)+(n:Int)).toNat else min (k:Int).toNat n)=min k n
 rw[if_neg (by omega),Qbj]
theorem rC (n d:Nat) (hd:d<=n) (o:Option Int):sIx n d o<=n:=by
 cases o with
 | none=>exact hd
 | some v=>
  show (if v < 0 then (v+(n:Int)).toNat else min v.toNat n)<=n
  by_cases hv:v < 0
  ·rw[if_pos hv];omega
  ·rw[if_neg hv];exact Nat.min_le_right _ _
theorem ZW (v:Int) (n d:Nat):(if v < 0 then max (v+(n:Int)) 0 else min v (n:Int))=((sIx n d (some v):Nat):Int):=by
 show (if v < 0 then max (v+(n:Int)) 0 else min v (n:Int))=(((if v < 0 then (v+(n:Int)).toNat else min v.toNat n):Nat):Int)
 by_cases hv:v < 0
 ·simp only[if_pos hv];omega
 ·simp only[if_neg hv];omega
theorem cH (lo hi:Option Int) (n:Nat):Builtin.Slice.sliceAdjust lo hi 1 (n:Int)=(((sIx n 0 lo:Nat):Int),((sIx n n hi:Nat):Int)):=by
 have h1:¬((1:Int) < 0):=by omega
 unfold Builtin.Slice.sliceAdjust;simp only[h1,if_false];refine Prod.ext ?_ ?_
 ·cases lo with
  | none=>rfl
  | some v=>exact ZW v n 0
 ·cases hi with
  | none=>rfl
  | some v=>exact ZW v n n
theorem aU (i j:Nat):Builtin.Slice.slicePlaces (i:Int) (j:Int) 1=j - i:=by
 unfold Builtin.Slice.slicePlaces;have h1:(1:Int) > 0:=by omega
 simp only[h1,if_true,Int.ediv_one];split <;> omega
theorem Rq {v:Value} {o:Option Int} {Q:Option Int->Shared->Prop} (p:IsPart v o) (h:Q o s):wpAny (model prog w) A (Builtin.Slice.slicePartIndex v) Q E s:=by
 cases p with
 | none=>exact slicePart_none h
 | int i t=>exact slicePart_int h
theorem KH {sl:Addr} {vl vu:Value} {lo hi:Option Int} {n:Nat} {Q:Int×Int×Nat->Shared->Prop} (hs:s.heap.IsSliceOf sl vl vu .none) (pl:IsPart vl lo) (pu:IsPart vu hi)
  (h:Q (((sIx n 0 lo:Nat):Int),1,sIx n n hi - sIx n 0 lo) s):wpAny (model prog w) A (Builtin.Slice.sliceApplied (.ref sl) (pure (n:Int))) Q E s:=by
 obtain⟨os,hos,hcs,hds⟩:=id hs;unfold Builtin.Slice.sliceApplied Builtin.Slice.sliceFields;refine Qcj (Qcj (Qcg hos hds (x:=vl) rfl (Qcj (Qcg hos hds (x:=vu) rfl (Qcj (Qcg hos hds (x:=.none) rfl (Qck ?_)))))));refine Qcj (slicePart_none ?_);show wpAny _ _ (if ((1:Int) == 0)=true then _ else _) _ _ s
 rw[if_neg (by decide)];refine Qcj (Rq pl (Qcj (Rq pu (Qcj (Qck ?_)))));show wpAny _ _ (match Builtin.Slice.sliceAdjust lo hi 1 (n:Int) with | (lo,hi)=>pure (lo,(1:Int),Builtin.Slice.slicePlaces lo hi 1)) _ _ s
 rw[cH lo hi n];show wpAny _ _ (pure (((sIx n 0 lo:Nat):Int),(1:Int),Builtin.Slice.slicePlaces ((sIx n 0 lo:Nat):Int) ((sIx n n hi:Nat):Int) 1)) _ _ s;rw[aU];exact Qck h
theorem jF (xs:Array Value) (i k:Nat):((List.range k).filterMap λ(m:Nat)=>xs[((i:Int)+(m:Int)*1).toNat]?).toArray=((xs.toList.drop i).take k).toArray:=by
 have e:(λ(m:Nat)=>xs[((i:Int)+(m:Int)*1).toNat]?)=λm=>xs[i+m]?:=by
  funext m
  have:((i:Int)+(m:Int)*1).toNat=i+m:=by omega
  rw[this]
 rw[e];have:=pick_run xs i k;rw[List.filterMap_map] at this;have e2:((λx=>xs[x]?) ∘ λx=>i+x)=λm=>xs[i+m]?:=rfl;rw[e2] at this;rw[this]
theorem Qg {t sl:Addr} {items:Array Value} {vl vu:Value} {lo hi:Option Int} {Q:YA} (ht:IsTup s.heap t items) (hs:s.heap.IsSliceOf sl vl vu .none) (pl:IsPart vl lo) (pu:IsPart vu hi)
  (hw:¬(sIx items.size 0 lo=0/\sIx items.size items.size hi=items.size))
  (h:Q (.ref s.heap.objs.size) { s with heap:=s.heap.push { cls:=.type "tuple",data:=.seq ((items.toList.drop (sIx items.size 0 lo)).take (sIx items.size items.size hi - sIx items.size 0 lo)).toArray } })
  (hsz:items.size<=sizeLine):wpAny (model prog w) A (getItem (.ref t) (.ref sl)) Q E s:=by
 have Vs:sizeOk (.seq ((items.toList.drop (sIx items.size 0 lo)).take (sIx items.size items.size hi - sIx items.size 0 lo)).toArray):=by
  show ((items.toList.drop (sIx items.size 0 lo)).take (sIx items.size items.size hi - sIx items.size 0 lo)).toArray.size<=sizeLine;rw[Qbb,Qbn,Qbq,QaI];omega
 have hj:sIx items.size items.size hi<=items.size:=rC _ _ (Qce _) hi;obtain⟨os,hos,hcs,hds⟩:=id hs;have hTs:s.TypeIs (.ref sl) "slice":=⟨os,hos,hcs⟩;unfold getItem
 try with_reducible refine QbU ?_
 first | refine Qcj (Qck ?_) | skip
 refine Qcj (wpAny_sequenceKey ht.typeIs (by decide) ?_);refine Qcj (Qao (name:=Str.ofString "__getitem__") ht.typeIs Qab
  (Qbv Qab ht.typeIs entry_tuple_getitem ?_ (args_tuple_getitem _ _)))
 show wpAny _ _ (Builtin.Tuple.tupleItemsOf (.ref t) >>= _) _ _ s;refine Qcj (tupleItemsOf_ ht ?_);refine Qcj (wpAny_typeOf hTs ?_);rw[if_pos (by decide)];refine Qcj (KH hs pl pu ?_);have hno:¬((((sIx items.size 0 lo:Nat):Int) == 0&&(1:Int) == 1&&(sIx items.size items.size hi - sIx items.size 0 lo) == items.size)=true):=by
  intro q;rw[Qbs,Qbs] at q;have q1:((sIx items.size 0 lo:Nat):Int)=0:=eq_of_beq q.1.1;have q2:sIx items.size items.size hi - sIx items.size 0 lo=items.size:=eq_of_beq q.2;exact hw ⟨by omega,by omega⟩
 show wpAny _ _ (if (((sIx items.size 0 lo:Nat):Int) == 0&&(1:Int) == 1&&(sIx items.size items.size hi - sIx items.size 0 lo) == items.size)=true then _ else _) _ _ s
 rw[if_neg hno,jF]
 first
  | exact Qcj (m:=Builtin.Tuple.tupleExact _) (Qbg (Qck ⟨_,rfl,Qck h⟩) Vs)
  | exact Qcj (m:=Builtin.Tuple.tupleExact _) (Qbg (Qcj (Qck (Qck ⟨_,rfl,Qck h⟩))) Vs)
  | exact Qcj (Qcj (m:=Builtin.Tuple.tupleExact _) (Qbg (Qck (Qck ⟨_,rfl,Qck h⟩)) Vs))
  | exact Qcj (Qcj (m:=Builtin.Tuple.tupleExact _) (Qbg (Qck ⟨_,rfl,Qck h⟩) Vs))
end
end HT
namespace L2
open PySem PySem.Spec PyProof.Rows
abbrev TO:=St->Hp->(Option Int->Hp->Prop)->Prop
def PO (X:Cx) (e:Option Expr) (t:TO):Prop:=
 ∀(jb:YC) (s:Shared) (σ : St) (H:Hp) (Q:Option Int->Hp->Prop),Inv X jb σ H s->t σ H Q ->
  wpAny (model X.prog X.w) X.A (evalPart e X.env) (λu s'=>∃o H',Inv X jb σ H' s'/\IsPart u o/\Q o H') X.xe s
def oH:TO:=λ_ H Q=>Q none H
def vo (t:TE):TO:=fun σ H Q=>t σ H λx H1=>∃i,x=.int i/\Q (some i) H1
theorem intsAre_of {ns:List Int}:∀{us:YE},Vals (ns.map V.int) us->IntsAre us ns:=by
 induction ns with
 | nil=>intro us r;rw[List.map_nil] at r;cases r;exact .nil
 | cons n ns ih=>
  intro us r;rw[QbT] at r;cases r with
  | cons r1 r2=>
   obtain⟨t,e⟩:=r1;subst e;exact .cons n t (ih r2)
section
variable {X:Cx} {e:Expr} {te:TE} {lo hi:Option Expr} {tl th:TO} {pos p2:Pos}
theorem Ci:PO X none oH:=by
 intro jb s σ H Q I h;rw[evalPart_none];exact Qck ⟨none,H,I,.none,h⟩
theorem Cg (h:PE X e te):PO X (some e) (vo te):=by
 intro jb s σ H Q I hw;rw[evalPart_some];refine thn (h jb s σ H _ I hw) λu s1 zz=>?_;obtain⟨x,H1,I1,r1,q1⟩:=zz;obtain⟨i,rfl,q⟩:=q1;obtain⟨t,rfl⟩:=r1;exact⟨some i,H1,I1,.int i t,q⟩
def SlR (X:Cx) (r:V->Option Int->Option Int->Hp->VK->Prop):Prop:=
 ∀(jb:YC) (s:Shared) (σ : St) (H:Hp) (x:V) (v vl vu:Value) (lo hi:Option Int) (sl:Addr) (Q:VK),Inv X jb σ H s->RelV x v->s.heap.IsSliceOf sl vl vu .none->IsPart vl lo->IsPart vu hi->r x lo hi H Q ->
  ∃T id,typeLookup (.type T) "__getitem__"=pure (some (.builtin id))/\s.TypeIs v T/\wpAny (model X.prog X.w) X.A (getItem v (.ref sl)) (EP X jb σ Q) X.xe s
def tSl (r:V->Option Int->Option Int->Hp->VK->Prop) (te:TE) (tl th:TO):TE:=fun σ H Q=>te σ H λx H1=>tl σ H1 λl H2=>th σ H2 λu H3=>r x l u H3 Q
theorem BK {r:V->Option Int->Option Int->Hp->VK->Prop} (hr:SlR X r) (he:PE X e te) (hl:PO X lo tl) (hu:PO X hi th):PE X (.Subscript e (.Slice lo hi none p2) pos) (tSl r te tl th):=by
 intro jb s σ H Q I h;refine Subscript_ (thn (he jb s σ H _ I h) λv s1 zz=>?_);obtain⟨x,H1,I1,r1,q1⟩:=zz;refine wpAny_Slice (thn (hl jb s1 σ H1 _ I1 q1) λvl s2 zz=>?_);obtain⟨l,H2,I2,pl,q2⟩:=zz;refine thn (hu jb s2 σ H2 _ I2 q2) λvu s3 zz=>?_;obtain⟨u,H3,I3,pu,q3⟩:=zz;rw[evalPart_none];refine Qck ?_;have I4:Inv X jb σ H3 { s3 with heap:=s3.heap.push { cls:=.type "slice",data:=.fields #[vl,vu,.none] } }:=I3.kept (t':=s3.toks) λb ob q=>Qar _ q;obtain⟨T,id,hT,ht,hg⟩:=hr jb { s3 with heap:=s3.heap.push { cls:=.type "slice",data:=.fields #[vl,vu,.none] } } σ H3 x v vl vu l u s3.heap.objs.size Q I4 r1 (Heap.IsSliceOf.new ..) pl pu q3;show wpAny (model X.prog X.w) X.A (subscriptTail e (.Slice lo hi none p2) v (.ref s3.heap.objs.size)) (EP X jb σ Q) X.xe { s3 with heap:=s3.heap.push { cls:=.type "slice",data:=.fields #[vl,vu,.none] } };exact tail_any (ops:=[.ref s3.heap.objs.size,v]) ht hT hg (by with_unfolding_all rfl)
def Eu (xs:YG) (lo hi:Option Int):YG:=(xs.drop (HT.sIx xs.length 0 lo)).take (HT.sIx xs.length xs.length hi - HT.sIx xs.length 0 lo)
theorem Qo (xs:YG) (lo hi:Option Int):(Eu xs lo hi).length<=xs.length:=by
 unfold Eu;rw[Qbn,Qbq];omega
def xu (K:YD):V->Option Int->Option Int->Hp->VK->Prop:=λx lo hi H Q=>∃a xs,x=.ref a/\SqT K H a xs /\
 ¬(HT.sIx xs.length 0 lo=0/\HT.sIx xs.length xs.length hi=xs.length)/\∀p,H p=none->Q (.ref p) (upd H p (.tup (Eu xs lo hi)))
theorem rm:SlR X (xu X.K):=by
 intro jb s σ H x v vl vu lo hi sl Q I rx hs pl pu h;obtain⟨a,xs,rfl,hx,hw,q⟩:=h;cases rx;obtain⟨its,r,ht,hz⟩:=I.tuple hx;have hlen:its.toArray.size=xs.length:=by rw[Qbb];exact r.length.symm
 refine⟨"tuple",_,Qab.lookup,ht.typeIs,?_⟩;refine HT.Qg ht hs pl pu (by rw[hlen];exact hw) ?_ (by rw[hlen];exact hz);rw[hlen];refine⟨.ref s.heap.objs.size,_,I.laid (t':=s.toks) (o:=.tup (Eu xs lo hi)) (λb ob q=>Qar _ q) (Qce _) ?_,rq,q _ (I.hok.fresh (Qce _))⟩;exact⟨Qca (Qo xs lo hi) hz,_,(r.drop (HT.sIx xs.length 0 lo)).take (HT.sIx xs.length xs.length hi - HT.sIx xs.length 0 lo),IsTup.new _ _⟩
def vM (K:YD):R2:=λx y H Q=>∃a b xs ys,x=.ref a/\y=.ref b/\SqT K H a xs/\SqT K H b ys/\xs≠[]/\xs.length+ys.length<=sizeLine /\
 (ys=[]->Q (.ref a) H)/\(ys≠[]->∀p,H p=none->Q (.ref p) (upd H p (.tup (xs++ys))))
theorem Vals.Ti {xs:YG} {us:YE} (r:Vals xs us):us=[] ↔ xs=[]:=by
 cases r with
 | nil=>simp
 | cons _ _=>simp
theorem pA:OpR X (binaryOp .Add) (vM X.K):=by
 intro jb s σ H x y v u Q I rx ry h;obtain⟨a,b,xs,ys,rfl,rfl,ha,hb,hx,hz,q1,q2⟩:=h;cases rx;cases ry;obtain⟨its,r1,p1,_⟩:=I.tuple ha;obtain⟨its2,r2,p2,_⟩:=I.tuple hb;refine HT.qx p1 p2 (λz=>hx (r1.Ti.mp z)) (λz=>⟨.ref a,H,I,rq,q1 (r2.Ti.mp z)⟩) (λz=>?_) (by rw[<-r1.length,<-r2.length];exact hz);refine⟨.ref s.heap.objs.size,_,I.laid (t':=s.toks) (o:=.tup (xs++ys)) (λb ob q=>Qar _ q) (Qce _) ?_,rq,q2 (λw=>z (r2.Ti.mpr w)) _ (I.hok.fresh (Qce _))⟩;exact⟨by rw[QaM];exact hz,_,r1.append r2,IsTup.new _ _⟩
end
def ixN (n:Nat) (i:Int):Option Nat:=if 0<=i then (if i < n then some i.toNat else none) else if -(n:Int)<=i then some (i+n).toNat else none
def atI {α : Type} (xs:List α) (i:Int):Option α:=(ixN xs.length i).bind λj=>xs[j]?
theorem ZF {n:Nat} {i:Int} {j:Nat} (h:ixN n i=some j):seqIndex? i n=some j/\j < n/\-(n:Int)<=i/\i < n:=by
 unfold ixN at h;by_cases h0:0<=i
 ·rw[if_pos h0] at h;by_cases h1:i < n
  ·rw[if_pos h1] at h;have e:i.toNat=j:=QbB h;exact⟨by rw[seqIndex_of h0 h1,e],by omega,by omega,h1⟩
  ·rw[if_neg h1] at h;cases h
 ·rw[if_neg h0] at h;by_cases h1:-(n:Int)<=i
  ·rw[if_pos h1] at h;have e:(i+n).toNat=j:=QbB h;exact⟨by rw[seqIndex_neg (by omega) h1,e],by omega,h1,by omega⟩
  ·rw[if_neg h1] at h;cases h
theorem T3 {α : Type} {xs:List α} {i:Int} {v:α} (h:atI xs i=some v):∃j,seqIndex? i xs.length=some j/\xs[j]?=some v/\j < xs.length/\-(xs.length:Int)<=i/\i < xs.length:=by
 unfold atI at h;cases e:ixN xs.length i with
 | none=>rw[e] at h;cases h
 | some j=>
  rw[e] at h;obtain⟨h1,h2,h3,h4⟩:=ZF e;exact⟨j,h1,h,h2,h3,h4⟩
theorem Gj {α : Type} {xs:List α} {j:Nat} {v:α} (h:xs[j]?=some v):atI xs (j:Int)=some v:=by
 have hj:j < xs.length:=(Qaf.mp h).1;have e:ixN xs.length (j:Int)=some j:=by
  unfold ixN;rw[if_pos (by omega),if_pos (by omega)];simp
 unfold atI;rw[e];exact h
def qF (b:Expr):Prop:=∀o i,subscripted b false o i=operate [o,i] (getItem o i)
def IxR (X:Cx) (r:R2):Prop:=
 ∀(value slice:Expr) (jb:YC) (s:Shared) (σ : St) (H:Hp) (x y:V) (v u:Value) (Q:VK),Inv X jb σ H s->RelV x v->RelV y u->r x y H Q ->
  subscripted slice false v u=operate [v,u] (getItem v u)->wpAny (model X.prog X.w) X.A (subscriptTail value slice v u) (EP X jb σ Q) X.xe s
def MtR (X:Cx) (id:String) (r:V->YG->Hp->VK->Prop):Prop:=
 ∀(jb:YC) (s:Shared) (σ : St) (H:Hp) (x:V) (xs:YG) (v:Value) (us:YE) (Q:VK),Inv X jb σ H s->RelV x v->Vals xs us->r x xs H Q ->
  wpAny (model X.prog X.w) X.A (call (.builtin id) (v::us)) (EP X jb σ Q) X.xe s
section
variable {X:Cx} {a b:Expr} {ta tb:TE} {pos:Pos}
theorem Cz {r:R2} (hr:IxR X r) (ha:PE X a ta) (hb:PE X b tb) (hs:qF b):PE X (.Subscript a b pos) (tOp r ta tb):=by
 intro jb s σ H Q I h;exact Subscript_ (mQ ha hb I h λv u s2 x y H2 I2 rx ry q=>hr a b jb s2 σ H2 x y v u Q I2 rx ry q (hs _ _))
def xO (K:YD):R2:=λx y H Q=>∃p xs i v,x=.ref p/\y=.int i/\SqL K H p xs/\atI xs i=some v/\Q v H
def xK (K:YD):R2:=λx y H Q=>∃p xs i v,x=.ref p/\y=.int i/\SqT K H p xs/\atI xs i=some v/\Q v H
def xM:R2:=λx y H Q=>∃z i c,x=.str z/\y=.int i/\z.length<=sizeLine/\atI z.cps.toList i=some c/\Q (.str ⟨#[c]⟩) H
theorem CP:IxR X (xO X.K):=by
 intro value slice jb s σ H x y v u Q I rx ry h hs;obtain⟨p,xs,i,z,rfl,rfl,hq,he,q⟩:=h;cases rx;obtain⟨t,rfl⟩:=ry;obtain⟨its,r,pl,hz⟩:=I.list hq;obtain⟨j,h1,h2,h3,h4,h5⟩:=T3 he;obtain⟨w,ew,rw'⟩:=r.get h2;have hl:=r.length;have hn:=Lb;have fin:EP X jb σ Q w s:=⟨z,H,I,rw',q⟩;by_cases h0:0<=i
 ·have hj:i.toNat=j:=by
   rw[seqIndex_of h0 h5] at h1;exact QbB h1
  exact item_listR pl.isList h0 (by omega) (by rw[hj];simpa using ew) fin hs
 ·have hj:(i+(its.toArray.size:Int)).toNat=j:=by
   rw[seqIndex_neg (by omega) h4] at h1;rw[Qbb,<-hl];exact QbB h1
  exact subscriptTail_builtinR (x:=w) pl.isList.typeIs slot_list_getitem.lookup
   (wpAny_getItem_list_neg (Q:=λr s'=>r=w/\EP X jb σ Q r s') pl.isList (by omega) (by rw[Qbb] <;> omega) (by omega) (by rw[hj];simpa using ew) ⟨rq,fin⟩) hs
theorem Ld:IxR X (xK X.K):=by
 intro value slice jb s σ H x y v u Q I rx ry h hs;obtain⟨p,xs,i,z,rfl,rfl,hq,he,q⟩:=h;cases rx;obtain⟨t,rfl⟩:=ry;obtain⟨its,r,pl,hz⟩:=I.tuple hq;obtain⟨j,h1,h2,h3,h4,h5⟩:=T3 he;obtain⟨w,ew,rw'⟩:=r.get h2;have hl:=r.length;have hn:=Lb;have fin:EP X jb σ Q w s:=⟨z,H,I,rw',q⟩;exact subscriptTail_builtinR (x:=w) pl.typeIs slot_tuple_getitem.lookup
  (getItem_tuple (j:=j) (Q:=λr s'=>r=w/\EP X jb σ Q r s') pl (by omega) (by omega) (by rw[Qbb,<-hl];exact h1) (by simpa using ew) ⟨rq,fin⟩) hs
theorem W9:IxR X xM:=by
 intro value slice jb s σ H x y v u Q I rx ry h hs;obtain⟨z,i,c,rfl,rfl,hz,he,q⟩:=h;obtain⟨t,rfl⟩:=rx;obtain⟨t',rfl⟩:=ry;obtain⟨j,h1,h2,h3,h4,h5⟩:=T3 he;have hl:z.cps.toList.length=z.length:=by simp[Str.length]
 rw[hl] at h1 h4 h5;have hn:=Lb;exact tail_any (typeIs_str s z t) slot_str_getitem.lookup (getItem_str (c:=c) (by
  have e1:decide (i < -(2 ^ 63:Int))=false:=Qbz (by omega);have e2:decide (i ≥ 2 ^ 63)=false:=Qbz (by omega);rw[e1,e2,Bool.or_false]) (by rw[h1];simpa using h2) ⟨.str ⟨#[c]⟩,H,I.tok _,⟨_,rq⟩,q⟩) hs
theorem bF (its:YE) (n j:Nat) (u:Value):Obj.mapSeq (·.setIfInBounds j u) { cls:=.type "list",data:=.seq its.toArray n }={ cls:=.type "list",data:=.seq (its.set j u).toArray n }:=by
 simp[Obj.mapSeq]
theorem Inv.lst {jb:YC} {σ : St} {H:Hp} {s:Shared} {p:Addr} {xs:YG} (I:Inv X jb σ H s) (h:H p=some (.lst xs)) :
  ∃(its:YE) (n:Nat),Vals xs its/\s.heap.get? p=some { cls:=.type "list",data:=.seq its.toArray n }/\xs.length<=sizeLine:=by
 obtain⟨z,its,n,r,e⟩:=I.hok p _ h;exact⟨its,n,r,e,z⟩
theorem Inv.tK {jb:YC} {σ : St} {H:Hp} {s:Shared} {p:Addr} {xs ys:YG} {its its':YE} {n n':Nat} {f:Obj->Obj} (I:Inv X jb σ H s) (h:H p=some (.lst xs))
  (ho:s.heap.get? p=some { cls:=.type "list",data:=.seq its.toArray n }) (hf:f { cls:=.type "list",data:=.seq its.toArray n }={ cls:=.type "list",data:=.seq its'.toArray n' }) (r:Vals ys its') (hz:ys.length<=sizeLine) (t:Nat) :
  Inv X jb σ (upd H p (.lst ys)) { s with heap:=s.heap.update p f,toks:=t }:=by
 have e:(s.heap.update p f).get? p=some { cls:=.type "list",data:=.seq its'.toArray n' }:=by
  rw[Qay f ho (by rw[hf] <;> rfl),hf]
 refine I.write (x:=p) (e:=p) (by rw[h];trivial) (.inl rfl) (λb u hb q=>(Qau _ _ (Ne.symm hb)).trans q) ⟨_,e⟩ ?_;exact⟨hz,its',n',r,e⟩
def vK:V->V->V->Hp->(Hp->Prop)->Prop:=λo i v H Q=>∃p xs k j,o=.ref p/\i=.int k/\H p=some (.lst xs)/\ixN xs.length k=some j/\Q (upd H p (.lst (xs.set j v)))
theorem set_list:uY X vK:=by
 intro jb s σ H o i v ov iv u Q I ro ri rv h;obtain⟨p,xs,k,j,rfl,rfl,hp,hj,q⟩:=h;cases ro;obtain⟨t,rfl⟩:=ri;obtain⟨its,n,r,ho,hz⟩:=I.lst hp;obtain⟨h1,h2,h3,h4⟩:=ZF hj;have hl:=r.length;have hn:=Lb;have I':Inv X jb σ (upd H p (.lst (xs.set j v))) { s with heap:=s.heap.update p (Obj.mapSeq (·.setIfInBounds j u)) }:=
  I.tK hp ho (bF its n j u) (r.set rv j) (by rw[List.length_set];exact hz) s.toks
 by_cases h0:0<=k
 ·have hk:k.toNat=j:=by
   rw[seqIndex_of h0 h4] at h1;exact QbB h1
  exact PySem.W.ki_setAt ho h0 (by omega) (by rw[Qbb,<-hl];exact h4) (by rw[hk];exact⟨_,I',q⟩)
 ·have hk:(k+(its.toArray.size:Int)).toNat=j:=by
   rw[seqIndex_neg (by omega) h3] at h1;rw[Qbb,<-hl];exact QbB h1
  exact PySem.W.ki_setBack ho (by omega) (by rw[Qbb,<-hl];exact h3) (by omega) (by rw[hk];exact⟨_,I',q⟩)
theorem V8 (lo hi:Option Int) (n:Nat):(sliceBounds lo hi none n).1=((HT.sIx n 0 lo:Nat):Int)/\(sliceBounds lo hi none n).2.1=((HT.sIx n n hi:Nat):Int)/\(sliceBounds lo hi none n).2.2=1:=by
 refine⟨?_,?_,rq⟩
 ·cases lo with
  | none=>simp[sliceBounds,HT.sIx]
  | some i=>
   simp only[sliceBounds,HT.sIx,Option.getD_none,show (1:Int) > 0 by decide,if_true];by_cases h:i < 0
   ·simp only[h,if_true] <;> omega
   ·simp only[h,if_false] <;> omega
 ·cases hi with
  | none=>simp[sliceBounds,HT.sIx]
  | some i=>
   simp only[sliceBounds,HT.sIx,Option.getD_none,show (1:Int) > 0 by decide,if_true];by_cases h:i < 0
   ·simp only[h,if_true] <;> omega
   ·simp only[h,if_false] <;> omega
theorem UW (its:YE) (lo hi:Option Int):slicePick its.toArray lo hi none=((its.drop (HT.sIx its.length 0 lo)).take (HT.sIx its.length its.length hi - HT.sIx its.length 0 lo)).toArray:=by
 obtain⟨h1,h2,h3⟩:=V8 lo hi its.toArray.size;unfold slicePick;rw[h1,h2,h3];simp only[sliceRange_one,pick_run,Qbb] <;> rfl
def xH (K:YD):V->Option Int->Option Int->Hp->VK->Prop:=λx lo hi H Q=>∃a xs,x=.ref a/\SqL K H a xs/\∀p,H p=none->Q (.ref p) (upd H p (.lst (Eu xs lo hi)))
theorem Mv:SlR X (xH X.K):=by
 intro jb s σ H x v vl vu lo hi sl Q I rx hs pl pu h;obtain⟨a,xs,rfl,hx,q⟩:=h;cases rx;obtain⟨its,r,ht,hz⟩:=I.list hx;have hlen:=r.length;refine⟨"list",_,slot_list_getitem.lookup,ht.isList.typeIs,?_⟩;refine wpAny_getItem_list_slice ht.isList hs pl pu .none (by simp) ?_ (by rw[Qbb] <;> omega);rw[UW,<-hlen];refine⟨.ref s.heap.objs.size,_,I.laid (t':=s.toks) (o:=.lst (Eu xs lo hi)) (λb ob q=>Qar _ q) (Qce _) ?_,rq,q _ (I.hok.fresh (Qce _))⟩;exact⟨Qca (Qo xs lo hi) hz,_,0,(r.drop (HT.sIx xs.length 0 lo)).take (HT.sIx xs.length xs.length hi - HT.sIx xs.length 0 lo),QaH _ rfl⟩
def Jx:V->Bool
 | .non=>true
 | .bl _=>true
 | .int _=>true
 | .str _=>true
 | _=>false
def eqV:V->V->Bool
 | .non,.non=>true
 | .bl a,.bl b=>a == b
 | .bl a,.int b=>(if a then 1 else 0) == b
 | .int a,.bl b=>a == (if b then 1 else 0)
 | .int a,.int b=>a == b
 | .str a,.str b=>a == b
 | _,_=>false
theorem uL {A:Around} {s:Shared} {y x:V} {u v:Value} (ry:RelV y u) (rx:RelV x v) (fy:Jx y=true) (fx:Jx x=true):SeqAt.EqAt A s u v (eqV y x):=by
 cases y with
 | non=>
  cases ry;cases x with
  | non=>cases rx;exact SeqAt.EqAt.same _
  | bl b=>cases rx;exact SeqAt.EqAt.none_bool b
  | int b=>obtain⟨t,rfl⟩:=rx;exact SeqAt.EqAt.none_int b t
  | str b=>obtain⟨t,rfl⟩:=rx;exact SeqAt.EqAt.none_str b t
  | _=>exact absurd (show false=true from fx) QaR
 | bl a=>
  cases ry;cases x with
  | non=>cases rx;exact SeqAt.EqAt.bool_none a
  | bl b=>cases rx;exact SeqAt.EqAt.bool_bool a b
  | int b=>obtain⟨t,rfl⟩:=rx;exact SeqAt.EqAt.bool_int a b t
  | str b=>obtain⟨t,rfl⟩:=rx;exact SeqAt.EqAt.bool_str a b t
  | _=>exact absurd (show false=true from fx) QaR
 | int a=>
  obtain⟨t',rfl⟩:=ry;cases x with
  | non=>cases rx;exact SeqAt.EqAt.int_none a t'
  | bl b=>cases rx;exact SeqAt.EqAt.int_bool a t' b
  | int b=>obtain⟨t,rfl⟩:=rx;exact SeqAt.EqAt.int_int a t' b t
  | str b=>obtain⟨t,rfl⟩:=rx;exact SeqAt.EqAt.int_str a t' b t
  | _=>exact absurd (show false=true from fx) QaR
 | str a=>
  obtain⟨t',rfl⟩:=ry;cases x with
  | non=>cases rx;exact SeqAt.EqAt.str_none a t'
  | bl b=>cases rx;exact SeqAt.EqAt.str_bool a t' b
  | int b=>obtain⟨t,rfl⟩:=rx;exact SeqAt.EqAt.str_int a t' b t
  | str b=>obtain⟨t,rfl⟩:=rx;exact SeqAt.EqAt.str_str a t' b t
  | _=>exact absurd (show false=true from fx) QaR
 | _=>exact absurd (show false=true from fy) QaR
def eqU (x:V) (u:Value):Bool:=match u with
 | .none=>eqV .non x
 | .bool b=>eqV (.bl b) x
 | .int i _=>eqV (.int i) x
 | .str z _=>eqV (.str z) x
 | _=>false
theorem gk {x y:V} {u:Value} (r:RelV y u) (f:Jx y=true):eqU x u=eqV y x:=by
 cases y with
 | non=>cases r;rfl
 | bl b=>cases r;rfl
 | int i=>obtain⟨t,rfl⟩:=r;rfl
 | str z=>obtain⟨t,rfl⟩:=r;rfl
 | _=>exact absurd (show false=true from f) QaR
theorem MP {x:V}:∀{xs:YG} {us:YE},Vals xs us->xs.all Jx=true->us.any (eqU x)=xs.any λy=>eqV y x
 | _,_,.nil,_=>rfl
 | y::xs,u::us,.cons r t,f=>by
  rw[List.all_cons,Qbs] at f;rw[QbX,QbX,gk r f.1,MP t f.2]
theorem K9 {A:Around} {s:Shared} {x:V} {v:Value} (rx:RelV x v) (fx:Jx x=true):∀{xs:YG} {us:YE},Vals xs us->xs.all Jx=true->∀u∈us,SeqAt.EqAt A s u v (eqU x u)
 | _,_,.nil,_=>λu hu=>by cases hu
 | y::xs,u::us,.cons r t,f=>λu' hu=>by
  rw[List.all_cons,Qbs] at f;rcases QbQ.mp hu with rfl | hu
  ·rw[gk r f.1];exact uL r rx f.1 fx
  ·exact K9 rx fx t f.2 u' hu
def inV (x:V) (xs:YG):Bool:=xs.any λy=>eqV y x
def rIn (K:YD) (neg:Bool):R2:=λx y H Q=>∃p xs,y=.ref p/\(SqL K H p xs\/SqT K H p xs)/\Jx x=true/\xs.all Jx=true/\Q (.bl (if neg then !inV x xs else inV x xs)) H
theorem O5:OpR X (compareOp .In) (rIn X.K false):=by
 intro jb s σ H x y v u Q I rx ry h;obtain⟨p,xs,rfl,hq,fx,fs,q⟩:=h;cases ry;rcases hq with hq | hq
 ·obtain⟨its,r,pl,hz⟩:=I.list hq;refine SeqAt.in_listAt (eqU x) pl.isList (λw hw=>K9 rx fx r fs w (by simpa using hw)) ⟨.bl _,H,I,rq,?_⟩;rw[show its.toArray.any (eqU x)=its.any (eqU x) by simp,MP r fs];exact q
 ·obtain⟨its,r,pl,hz⟩:=I.tuple hq;refine SeqAt.in_tupleAt (eqU x) pl (λw hw=>K9 rx fx r fs w (by simpa using hw)) ⟨.bl _,H,I,rq,?_⟩;rw[show its.toArray.any (eqU x)=its.any (eqU x) by simp,MP r fs];exact q
theorem Ws:OpR X (compareOp .NotIn) (rIn X.K true):=by
 intro jb s σ H x y v u Q I rx ry h;obtain⟨p,xs,rfl,hq,fx,fs,q⟩:=h;cases ry;rcases hq with hq | hq
 ·obtain⟨its,r,pl,hz⟩:=I.list hq;refine SeqAt.notIn_listAt (eqU x) pl.isList (λw hw=>K9 rx fx r fs w (by simpa using hw)) ⟨.bl _,H,I,rq,?_⟩;rw[show its.toArray.any (eqU x)=its.any (eqU x) by simp,MP r fs];exact q
 ·obtain⟨its,r,pl,hz⟩:=I.tuple hq;refine SeqAt.notIn_tupleAt (eqU x) pl (λw hw=>K9 rx fx r fs w (by simpa using hw)) ⟨.bl _,H,I,rq,?_⟩;rw[show its.toArray.any (eqU x)=its.any (eqU x) by simp,MP r fs];exact q
theorem Dc:Dn X (.builtin "len") (λxs H Q=>∃p ys,xs=[.ref p]/\(SqL X.K H p ys\/SqT X.K H p ys)/\Q (.int ys.length) H):=by
 intro jb s σ H xs us Q I r h;obtain⟨p,ys,rfl,hq,q⟩:=h;obtain⟨u,rfl,rx⟩:=vals1 r;cases rx;have hn:=Lb;rcases hq with hq | hq
 ·obtain⟨its,r',pl,hz⟩:=I.list hq;have hlen:=r'.length;exact Calls.call_len_list pl.isList (by simp only[Qbb] <;> omega) ⟨.int ys.length,H,I.tok _,⟨s.toks+1,by rw[Qbb,hlen]⟩,q⟩
 ·obtain⟨its,r',pl,hz⟩:=I.tuple hq;have hlen:=r'.length;exact len_tuple pl (by simp only[Qbb] <;> omega) ⟨.int ys.length,H,I.tok _,⟨s.toks+1,by rw[Qbb,hlen]⟩,q⟩
theorem Lg:Dn X (.builtin "len") (λxs H Q=>∃z,xs=[.str z]/\z.length<=sizeLine/\Q (.int z.length) H):=by
 intro jb s σ H xs us Q I r h;obtain⟨z,rfl,hz,q⟩:=h;obtain⟨u,rfl,t,rfl⟩:=vals1 r;have hn:=Lb;exact len_str (by omega) ⟨.int z.length,H,I.tok _,⟨_,rq⟩,q⟩
theorem Xw:Dn X (.type "list") (λxs H Q=>∃p ys,xs=[.ref p]/\(SqL X.K H p ys\/SqT X.K H p ys)/\∀l,H l=none->Q (.ref l) (upd H l (.lst ys))):=by
 intro jb s σ H xs us Q I r h;obtain⟨p,ys,rfl,hq,q⟩:=h;obtain⟨u,rfl,rx⟩:=vals1 r;cases rx;have fin:∀(its:YE),Vals ys its->ys.length<=sizeLine->∀(h':Heap) (c':Nat),(∀b o',s.heap.get? b=some o'->h'.get? b=some o') ->
   h'.get? s.heap.objs.size=some { cls:=.type "list",dict:=none,data:=.seq its.toArray c',slots:=#[] }->EP X jb σ Q (.ref s.heap.objs.size) { s with heap:=h' }:=λits r' hz h' c' kp e=>
  ⟨.ref s.heap.objs.size,_,I.laid (t':=s.toks) kp (Qce _) (show Cq X.prog X.w _ h' _ (.lst ys) from⟨hz,its,c',r',e⟩),rq,q _ (I.hok.fresh (Qce _))⟩
 rcases hq with hq | hq
 ·obtain⟨its,r',pl,hz⟩:=I.list hq;have hlen:=r'.length;obtain⟨o,ho,hc,n,hd⟩:=pl.isList;exact call_list_seq p (.inl rfl) ho hc hd (λh' c' kp e=>fin its r' hz h' c' kp e) (by simp only[Qbb] <;> omega)
 ·obtain⟨its,r',pl,hz⟩:=I.tuple hq;have hlen:=r'.length;obtain⟨o,ho,hc,n,hd⟩:=pl;exact call_list_seq p (.inr rfl) ho hc hd (λh' c' kp e=>fin its r' hz h' c' kp e) (by simp only[Qbb] <;> omega)
theorem Cy:Dn X (.type "tuple") (λxs H Q=>∃p ys,xs=[.ref p]/\((SqL X.K H p ys/\∀l,H l=none->Q (.ref l) (upd H l (.tup ys)))\/(SqT X.K H p ys/\Q (.ref p) H))):=by
 intro jb s σ H xs us Q I r h;obtain⟨p,ys,rfl,h⟩:=h;obtain⟨u,rfl,rx⟩:=vals1 r;cases rx;rcases h with⟨hq,q⟩|⟨hq,q⟩
 ·obtain⟨its,r',pl,hz⟩:=I.list hq;have hlen:=r'.length;refine call_tuple_list pl.isList (λh' kp=>?_) (by simp only[Qbb] <;> omega);have I1:Inv X jb σ H { s with heap:=h' }:=I.kept (t':=s.toks) kp;have I2:Inv X jb σ (upd H h'.objs.size (.tup ys)) { s with heap:=h'.push { cls:=.type "tuple",data:=.seq its.toArray } }:=
   I1.laid (t':=s.toks) (λb o e=>Qar _ e) (Qce _) (show Cq X.prog X.w _ _ _ (.tup ys) from⟨hz,its,r',IsTup.new _ _⟩)
  exact⟨.ref h'.objs.size,_,I2,rq,q _ (I1.hok.fresh (Qce _))⟩
 ·obtain⟨its,r',pl,hz⟩:=I.tuple hq;exact call_tuple_same pl ⟨.ref p,H,I,rq,q⟩
def tyV (K:YD) (T:String) (x:V) (H:Hp):Prop:=match x with
 | .str _=>T="str"
 | .int _=>T="int"
 | .ref p=>(T="list"/\∃xs,SqL K H p xs)\/(T="tuple"/\∃o,K.lookup p=some o/\o.cls=.type "tuple"/\o.dict=none) \/
   (T="dict"/\((∃kvs,H p=some (.dK kvs))\/∃kvs,H p=some (.dT kvs)))\/(T="set"/\∃S n,H p=some (.set S n))
 | _=>False
theorem qM {jb:YC} {σ : St} {H:Hp} {s:Shared} {T:String} {x:V} {v:Value} (I:Inv X jb σ H s) (r:RelV x v) (ty:tyV X.K T x H) :
  s.TypeIs v T/\∀a,v=.ref a->∃ob,s.heap.get? a=some ob/\ob.dict=none:=by
 cases x with
 | str z=>
  obtain⟨t,rfl⟩:=r;cases (show T="str" from ty)
  exact⟨typeIs_str s z t,λ_ e=>nomatch e⟩
 | int i=>
  obtain⟨t,rfl⟩:=r;cases (show T="int" from ty)
  exact⟨typeIs_int s i t,λ_ e=>nomatch e⟩
 | ref p=>
  cases r;rcases ty with⟨rfl,xs,hq⟩|⟨rfl,o,hk,hc,hd⟩|⟨rfl,hk⟩|⟨rfl,S,n,hk⟩
  ·obtain⟨its,_,pl,_⟩:=I.list hq;refine⟨pl.isList.typeIs,λa e=>?_⟩;cases e;obtain⟨o,n,e,c,hd,_⟩:=pl;exact⟨o,e,hd⟩
  ·refine⟨⟨o,I.kIn p o hk,hc⟩,λa e=>?_⟩;cases e;exact⟨o,I.kIn _ o hk,hd⟩
  ·have z:∃o,s.heap.get? p=some o/\o.ExactDict:=by
    rcases hk with⟨kvs,hk⟩|⟨kvs,hk⟩
    ·obtain⟨_,_,_,_,o,_,_,e,ex,_⟩:=I.hok p _ hk;exact⟨o,e,ex⟩
    ·obtain⟨_,_,_,_,o,_,_,e,ex,_⟩:=I.hok p _ hk;exact⟨o,e,ex⟩
   obtain⟨o,e,ex⟩:=z;refine⟨⟨o,e,ex.1⟩,λa e2=>?_⟩;cases e2;exact⟨o,e,ex.2.1⟩
  ·obtain⟨o,_,_,_,e,ex,_⟩:=I.hok p _ hk;refine⟨⟨o,e,ex.1⟩,λa e2=>?_⟩;cases e2;exact⟨o,e,ex.2.1⟩
 | _=>exact False.elim ty
def tBM (K:YD) (T:String) (r:V->YG->Hp->VK->Prop) (to:TE) (t:TA):TE:=fun σ H Q=>to σ H λx H1=>tyV K T x H1/\t σ H1 λxs H2=>r x xs H2 Q
variable {o e:Expr} {es:YJ} {to:TE} {t:TA} {name:Str} {apos cpos:Pos} {T id:String} {r:V->YG->Hp->VK->Prop}
theorem BJ (pa:PlainAttrs T) (slot:Slot T name id) (hty:typeOf (.builtin id)=pure (.type "method_descriptor")) (hm:MtR X id r) (ho:PE X o to) (ha:PA X (e::es) t)
  (hbase:attributeBase o name X.env (eval o X.env)=eval o X.env:=by rfl)
  (hfew:((backTo cpos (starEach (e::es) X.env)).all (λx=>!x.1)&&(backToKw cpos (keywordEach [] X.env)).all (λx=>x.1.isSome)
  &&decide ((e::es).length+([]:List Keyword).length+(if ([]:List Keyword).isEmpty then 0 else 1) < 30))=true:=by rfl)
  (hline:(apos.endLine == cpos.line)=true:=by rfl) (hs:starEach (e::es) X.env=(false,eval e X.env)::starEach es X.env:=by rfl) (hplain:(backTo cpos (starEach es X.env)).any (·.1)=false:=by rfl) :
  PE X (.Call (.Attribute o name apos) (e::es) [] cpos) (tBM X.K T r to t):=by
 intro jb s σ H Q I h;refine wpAny_Call_method_late hbase hfew hline rfl (thn (ho jb s σ H _ I h) λv s1 zz=>?_);obtain⟨x,H1,I1,r1,ty,q1⟩:=zz;obtain⟨h1,h2⟩:=qM I1 r1 ty;refine⟨T,id,pa,slot,hty,h1,h2,?_⟩;have hA:=ha cpos jb s1 σ H1 _ I1 q1;rw[hs] at hA ⊢;refine Calls.callWith_builtin (by show (false || (backTo cpos (starEach es X.env)).any (·.1))=false;rw[hplain] <;> rfl) (Calls.evalArgs_plain ?_);refine thn hA λus s2 zz=>?_;obtain⟨vs,H2,I2,r2,q2⟩:=zz;exact hm jb s2 σ H2 x vs v us Q I2 r1 r2 q2
end
def MtM (X:Cx) (id:String) (r:V->YG->Hp->VK->Prop):Prop:=
 ∀(jb:YC) (s:Shared) (σ : St) (H:Hp) (x:V) (xs:YG) (v:Value) (us:YE) (Q:VK),Inv X jb σ H s->RelV x v->Vals xs us->r x xs H Q ->
  wpAny (model X.prog X.w) X.A (call (.builtin id) (v::us)) (EP X jb σ Q) X.xe s
theorem Vals.one:∀{x:V} {us:YE},Vals [x] us->∃u,us=[u]/\RelV x u
 | _,_,.cons r .nil=>⟨_,rfl,r⟩
theorem Vals.zero:∀{us:YE},Vals [] us->us=[]
 | _,.nil=>rfl
theorem Vals.dropLast {xs:YG} {us:YE} (h:Vals xs us):Vals xs.dropLast us.dropLast:=by
 induction h with
 | nil=>exact .nil
 | cons r t ih=>
  cases t with
  | nil=>exact .nil
  | cons q t'=>exact .cons r ih
theorem Vals.eraseIdx:∀{xs:YG} {us:YE} (i:Nat),Vals xs us->Vals (xs.eraseIdx i) (us.eraseIdx i)
 | _,_,_,.nil=>.nil
 | _,_,0,.cons _ t=>t
 | _,_,i+1,.cons r t=>.cons r (Vals.eraseIdx i t)
theorem Vals.rep {xs:YG} {us:YE} (h:Vals xs us):∀k:Nat,Vals (List.replicate k xs).flatten (List.replicate k us).flatten
 | 0=>.nil
 | k+1=>by
  rw[QaL,QaL,List.flatten_cons,List.flatten_cons];exact Vals.append h (Vals.rep h k)
theorem Ui {α : Type}:∀(l:List α) (i:Nat),(l.eraseIdx i).length<=l.length
 | [],_=>Qce _
 | _::_,0=>Nat.le_succ _
 | _::r,i+1=>Nat.succ_le_succ (Ui r i)
theorem foldl_rep (its:YE):∀(k:Nat) (acc:YE),
  List.foldl (λx1 x2=>x1++x2) acc.toArray (List.replicate k its.toArray)=(acc++(List.replicate k its).flatten).toArray
 | 0,acc=>by simp
 | k+1,acc=>by
  have e:acc.toArray++its.toArray=(acc++its).toArray:=by simp
  have e2:(acc++its)++(List.replicate k its).flatten=acc++(List.replicate (k+1) its).flatten:=by
   rw[QaL,List.flatten_cons,Qba]
  rw[<-e2,<-foldl_rep its k (acc++its),<-e,QaL,List.foldl_cons]
section
variable {X:Cx} {jb:YC} {σ : St} {H:Hp} {s:Shared} {l b:Addr} {xs ys zs:YG}
theorem Inv.bG {its its':YE} {n:Nat} {f:Array Value->Array Value} {t':Nat} (I:Inv X jb σ H s) (hH:H l=some (.lst xs))
  (e:s.heap.get? l=some { cls:=.type "list",data:=.seq its.toArray n }) (hf:f its.toArray=its'.toArray) (hv:Vals ys its') (hz:ys.length<=sizeLine) :
  Inv X jb σ (upd H l (.lst ys)) { s with heap:=s.heap.update l (Obj.mapSeq f),toks:=t' }:=by
 have q:=PySem.IsL.update e f;rw[hf] at q;refine I.write (x:=l) (e:=l) (by rw[hH];exact trivial) (.inl rfl) (λb' u hb hu=>(Qau s.heap (Obj.mapSeq f) (Ne.symm hb)).trans hu) ⟨_,q⟩ ?_;exact⟨hz,its',_,hv,q⟩
theorem Inv.tL {its:YE} {t':Nat} (I:Inv X jb σ H s) (hv:Vals ys its) (hz:ys.length<=sizeLine) :
  Inv X jb σ (upd H s.heap.objs.size (.lst ys)) { s with heap:=s.heap.push { cls:=.type "list",data:=.seq its.toArray },toks:=t' }:=
 I.laid (λ_ _ q=>Qar _ q) (Qce _) ⟨hz,its,0,hv,QaH _ rfl⟩
theorem Inv.fresh (I:Inv X jb σ H s):H s.heap.objs.size=none:=I.hok.fresh (Qce _)
theorem Inv.Mp (I:Inv X jb σ H s) (hH:H l=some (.lst xs)):xs.length<=sizeLine/\∃(its:YE) (n:Nat),Vals xs its/\xs.length=its.length/\s.heap.get? l=some { cls:=.type "list",data:=.seq its.toArray n }:=by
 obtain⟨z,its,n,r,e⟩:=I.hok l _ hH;exact⟨z,its,n,r,r.length,e⟩
theorem WM {n:Nat} (h:n<=sizeLine):Builtin.List.listTooLong n=false:=by
 unfold Builtin.List.listTooLong;exact Qbz (by omega)
end
section
variable {X:Cx}
def oW:V->YG->Hp->VK->Prop:=λx vs H Q=>∃l xs y,x=.ref l/\vs=[y]/\H l=some (.lst xs)/\xs.length < sizeLine/\Q .non (upd H l (.lst (xs++[y])))
theorem Cu:MtM X "list.append" oW:=by
 intro jb s σ H x vs v us Q I rx rv h;obtain⟨l,xs,y,rfl,rfl,hH,hz,q⟩:=h;cases rx;obtain⟨u,rfl,ru⟩:=rv.one;obtain⟨z,its,n,r,hl,e⟩:=I.Mp hH;refine Qcm F.slot_list_append ⟨_,e,rq⟩ F.entry_list_append (F.args_list_append_2 _ _) (PySem.list_append l its.toArray n u (by rw[Qbb];omega)) ⟨e,?_⟩;refine⟨.non,_,I.bG (its':=its++[u]) hH e (by simp) (r.append (.cons ru .nil)) ?_,rq,q⟩;rw[QaM,Qax];omega
def oU:V->YG->Hp->VK->Prop:=λx vs H Q=>∃l b xs zs,x=.ref l/\vs=[.ref b]/\H l=some (.lst xs)/\H b=some (.lst zs)/\xs.length+zs.length<=sizeLine/\Q .non (upd H l (.lst (xs++zs)))
theorem Lp:MtM X "list.extend" oU:=by
 intro jb s σ H x vs v us Q I rx rv h;obtain⟨l,b,xs,zs,rfl,rfl,hH,hB,hz,q⟩:=h;cases rx;obtain⟨u,rfl,ru⟩:=rv.one;cases ru;obtain⟨z,its,n,r,hl,e⟩:=I.Mp hH;obtain⟨z2,its2,n2,r2,hl2,e2⟩:=I.Mp hB;have hsz:its.toArray.size+its2.toArray.size<=sizeLine:=by rw[Qbb,Qbb];omega
 have bT:¬(!its.toArray.isEmpty&&Builtin.List.listTooLong (its.toArray.size+its2.toArray.size))=true:=by
  rw[WM hsz,Bool.and_false];exact QaR
 refine Qcm F.slot_list_extend ⟨_,e,rq⟩ F.entry_list_extend (F.args_list_extend_2 _ _)
  (AutoSeq1.list_extend_list_list_0 l its.toArray n b its2.toArray n2 bT (by rw[Qbb];omega) (by omega)) ⟨e,e2,?_⟩
 refine⟨.non,_,I.bG (its':=its++its2) hH e (by simp) (r.append r2) ?_,rq,q⟩;rw[QaM];omega
def rF:V->YG->Hp->VK->Prop:=λx vs H Q=>∃l xs i k y,x=.ref l/\vs=[.int i]/\H l=some (.lst xs)/\-(2 ^ 63)<=i/\i < 2 ^ 63/\seqIndex? i xs.length=some k/\xs[k]?=some y/\Q y (upd H l (.lst (xs.eraseIdx k)))
theorem WT:MtM X "list.pop" rF:=by
 intro jb s σ H x vs v us Q I rx rv h;obtain⟨l,xs,i,k,y,rfl,rfl,hH,h1,h2,hk,hy,q⟩:=h;cases rx;obtain⟨u,rfl,ru⟩:=rv.one;obtain⟨t,rfl⟩:=ru;obtain⟨z,its,n,r,hl,e⟩:=I.Mp hH;obtain⟨w,hw,rw'⟩:=r.get hy;refine Qcm F.slot_list_pop ⟨_,e,rq⟩ F.entry_list_pop (F.args_list_pop_2 _ _)
  (MeetsSeq.list_pop_at l its.toArray n i t k w (fitsIndex_both h1 h2) (by rw[Qbb,<-hl];exact hk) (by rw[<-Array.getElem?_toList];exact hw) (by rw[Qbb];omega)) ⟨e,?_⟩
 refine⟨y,_,I.bG (its':=its.eraseIdx k) hH e ?_ (r.eraseIdx k) ?_,rw',q⟩
 ·show its.toArray.eraseIdxIfInBounds k=(its.eraseIdx k).toArray;rw[List.eraseIdxIfInBounds_toArray]
 ·have:=Ui xs k;omega
def xP:R2:=λx y H Q=>∃l b xs zs,x=.ref l/\y=.ref b/\H l=some (.lst xs)/\H b=some (.lst zs)/\xs.length+zs.length<=sizeLine/\∀p,H p=none->Q (.ref p) (upd H p (.lst (xs++zs)))
theorem RB:OpR X (binaryOp .Add) xP:=by
 intro jb s σ H x y v u Q I rx ry h;obtain⟨l,b,xs,zs,rfl,rfl,hH,hB,hz,q⟩:=h;cases rx;cases ry;obtain⟨z,its,n,r,hl,e⟩:=I.Mp hH;obtain⟨z2,its2,n2,r2,hl2,e2⟩:=I.Mp hB;refine PySem.P.add_list e e2 ?_ (by rw[Qbb,Qbb];omega);have ea:its.toArray++its2.toArray=(its++its2).toArray:=by simp
 rw[ea];exact⟨.ref _,_,I.tL (t':=s.toks) (r.append r2) (by rw[QaM];omega),rq,q _ I.fresh⟩
def xJ:R2:=λx y H Q=>∃l k xs,x=.ref l/\y=.int k/\H l=some (.lst xs)/\-(2 ^ 63)<=k/\k < 2 ^ 63/\xs.length*k.toNat<=sizeLine /\
 ∀p,H p=none->Q (.ref p) (upd H p (.lst (List.replicate k.toNat xs).flatten))
theorem len_rep {α : Type} (xs:List α) (k:Nat):(List.replicate k xs).flatten.length=k*xs.length:=by
 induction k with
 | zero=>simp
 | succ k ih=>rw[QaL,List.flatten_cons,QaM,ih,Nat.succ_mul,Nat.add_comm]
theorem dY:OpR X (binaryOp .Mult) xJ:=by
 intro jb s σ H x y v u Q I rx ry h;obtain⟨l,k,xs,rfl,rfl,hH,h1,h2,hz,q⟩:=h;cases rx;obtain⟨t,rfl⟩:=ry;obtain⟨z,its,n,r,hl,e⟩:=I.Mp hH;have hlen:its.toArray.size*k.toNat<=sizeLine:=by rw[Qbb,<-hl];exact hz
 have hcap:¬its.toArray.size*k.toNat > (2 ^ 63 - 1) / 8:=by
  have:(sizeLine:Nat)<=(2 ^ 63 - 1) / 8:=by decide
  omega
 have hfit:¬(!Builtin.List.listFitsIndex k)=true:=by
  rw[fitsIndex_both h1 h2];exact QaR
 have bT:¬Builtin.List.listTooLong (its.toArray.size*k.toNat)=true:=by
  rw[WM hlen];exact QaR
 have hnew:List.foldl (λx1 x2=>x1++x2) #[] (List.replicate (if its.toArray.isEmpty=true then 0 else k.toNat) its.toArray)=(List.replicate k.toNat its).flatten.toArray:=by
  have f0:∀m:Nat,List.foldl (λx1 x2=>x1++x2) #[] (List.replicate m its.toArray)=(List.replicate m its).flatten.toArray:=λm=>by
   have:=foldl_rep its m [];rw[List.nil_append] at this;exact this
  rw[f0];cases its with
  | nil=>simp
  | cons a r'=>rw[if_neg (by simp)]
 refine wpAny_binaryOp_repeat_ref (T:="list") (U:="int") (by decide) ⟨_,e,rq⟩ (λs'=>typeIs_int s' k t) noFill_list_mul F.fills_int_mul F.slot_int_rmul repeat_list F.slot_int_index.lookup
  (Qcm F.slot_int_rmul (typeIs_int s k t) F.entry_int_rmul (F.args_int_rmul_2 _ _) (int___rmul___int_list k t l its.toArray n)
   ⟨e,rq,⟨_,e,rq⟩,Qcm F.slot_list_mul ⟨_,e,rq⟩ F.entry_list_mul (F.args_list_mul_2 _ _) (AutoListH.list___mul___list_int_3 l its.toArray n k t hfit hcap bT) ⟨e,?_⟩⟩)
 rw[hnew];exact⟨.ref _,_,I.tL (t':=s.toks) (r.rep k.toNat) (by rw[len_rep,Nat.mul_comm];exact hz),rq,q _ I.fresh⟩
end
section
variable {prog:Program} {w:World} {A:Around} {E:YA} {s:Shared}
set_option maxRecDepth 100000 in
end
section
variable {X:Cx}
end
end L2
namespace Att
open PySem PySem.W PySem.Calls PyProof.Rows
theorem RM {P:Params} {h:Heap}:∀(ns:List Int) (vs:YE),WellAll P h vs (ns.map WData.int)->IntsAre vs ns:=by
 intro ns
 induction ns with
 | nil=>
  intro vs w;rw[List.map_nil] at w;cases w;exact .nil
 | cons n ns ih=>
  intro vs w;rw[QbT] at w;cases w with
  | cons a b=>
   cases a;exact .cons _ _ (ih _ b)
theorem dM {l:OpenLaw} {n:Nat} (hn:l.most=some n) {P:Params} {h:Heap} {args:List WData} {vals:YE}
  (hpre:l.row.toRowW.claim.pre args=true) (hwl:WellAll P h vals args) :
  ∃a vs ns,vals=[Value.ref a]/\args=[WData.list (ns.map WData.int)]/\h.get? a=some { cls:=.type "list",data:=.seq vs.toArray }/\IntsAre vs ns/\ns.length<=n:=by
 have hsh:WShape.hasAll [] args [.list .int]=true:=(pre_splitW hpre).1;have hc:l.pre.holds [] { args:=args }=true:=(pre_splitW hpre).2;obtain⟨d,r,rfl,h1,h2⟩:=hasAllW_cons hsh;obtain rfl:=hasAllW_nil h2;obtain⟨xs,rfl,h3⟩:=hasW_list h1;obtain⟨ns,rfl⟩:=items_int h3;have hlen:ns.length<=n:=by
  unfold OpenLaw.pre at hc;have h4:(WTm.not (.lt (.lit (.int (n:Int))) (.len (.arg 0)))).holds [] { args:=[.list (ns.map .int)] }=true:=by
   have h4:=(holds_andW hc).1;rw[hn] at h4;exact h4
  have h5:=condW_of h4 (w_not (w_lt w_lit (w_len_list (w_arg rfl))));rw[Qbw] at h5;refine Nat.le_of_not_lt λq=>?_;have q':(n:Int) < ((ns.length:Nat):Int):=by omega
  first
   | (rw[QbM q'] at h5;exact absurd h5 (by decide))
   | (simp at h5;omega)
 cases hwl with
 | cons w1 w2=>
  cases w2;cases w1 with
  | list ho hall=>exact⟨_,_,ns,rfl,rfl,ho,RM ns _ hall,hlen⟩
theorem dR (l:OpenLaw) (args:List WData):l.row.toRowW.claim.post args (.bool true) args=true:=
 postW_of (r:=l.row.toRowW) (X:=(true == true))
  (show WShape.has [] (.bool true) .bool=true by first | rfl | decide | simp[WShape.has,WShape.arms,WShape.armsAll])
  (show (WTm.eq .res (.lit (.bool true))).value [] { args:=args,res:=some (.bool true),after:=args }=some (.bool (true == true)) from w_eq_bool (w_res rfl) w_lit) rfl
theorem Yz {l:OpenLaw} {n:Nat} {q:Program} {loose:YF} {XP:(YB)->Heap->Prop} {YP:World->Heap->Prop} {d:DefRec}
  (hn:l.most=some n) (hdf:d.params.defaults=[])
  (call:∀(w:World) (s₀ s₁ : Shared) (mg mb:YB) (fa:Addr) (o:Obj) (pm cd doc:Value) (a:Addr) (vs:YE) (ns:List Int),
   Ground q loose [] XP w s₀ mg mb s₁.heap->YP w s₁.heap ->
   s₁.heap.get? fa=some o->o.data=.func (docDef d.name d.params d.body d.scope pm cd doc)->s₁.heap.CodeRec cd d.name->mg d.name=some (.ref fa) ->
   s₁.heap.get? a=some { cls:=.type "list",data:=.seq vs.toArray }->IntsAre vs ns->ns.length<=n->s₁.gens=#[] ->
   codeAny (model l.prog w) callerA (.call (.ref fa) ⟨[.ref a],[]⟩) (λr s'=>r=.ok (.ret (.bool true))/\OldK s₁.heap s'.heap/\s'.os=s₁.os/\AllBare s'.gens) s₁) :
  WalkO q loose XP YP l.row.toRowW d [] (λf vs=>PySem.call f vs):=by
 intro w s₀ s₁ mg mb G Y fa o pm cd doc dV kV ho hd hcd hD hmg hg args vals as hpre hlay hrd hwl hlo;obtain rfl:dV=.none:=Dflts.none hD hdf;obtain rfl:kV=.none:=Dflts.noKw hD;obtain⟨a,vs,ns,rfl,rfl,hobj,hints,hlen⟩:=dM hn hpre hwl;refine enter_call (codeAny_mono (call w s₀ s₁ mg mb fa o pm cd doc a vs ns G Y ho (fd_plain hd) hcd hmg hobj hints hlen hg) λr s' hq=>?_);obtain⟨rfl,h2,h3,h4⟩:=hq;exact⟨.inl ⟨.bool true,.bool true,[],rq,λ_=>rfl,.bool true,dR l _,λ_=>⟨List.Pairwise.nil,λ_ hm=>(nomatch hm)⟩⟩,h2,h3,h4⟩
section
variable {prog:Program} {w:World} {A:Around} {E:YA} {s:Shared} {K:Frag}
end
end Att
namespace L2
open PySem PySem.Spec PyProof.Rows
theorem Oe:∀{vs:YE} {ns:List Int},IntsAre vs ns->Vals (ns.map V.int) vs
 | _,_,.nil=>.nil
 | _,_,.cons n t h=>.cons ⟨t,rfl⟩ (Oe h)
def Only (H:Hp):Prop:=∀b,H b=none\/∃o xs,H b=some (.frz o (.lst xs))
theorem kE {P:Program} {w:World} {K:YD} {mg mb:YB} {CX:CXT} {k:Nat} {fa a:Addr} {fd:FuncData} {x:Str} {sp:Sp} {s₁ : Shared} {vs:YE} {ns:List Int}
  (KX:K.In s₁.heap) (hns:s₁.heap.Ns mainGlobals mg) (hb:s₁.heap.Ns builtinsNs mb) (hbb:∀x:Str,x≠"__name__"->mb x=bootBuiltins x) (hlim:s₁.heap.NoLimit) (hg:s₁.gens=#[])
  (ha:s₁.heap.get? a=some { cls:=.type "list",data:=.seq vs.toArray }) (hi:IntsAre vs ns) (hl:ns.length<=sizeLine) (hr:Dq k callerA)
  (F:∀base:Heap,K.In base->base.Ns mainGlobals mg->Jf P w K mg base CX k fa fd [x] sp) (hbind:∀(s:Shared) (u:Value),BindsTo s fd ⟨[u],[]⟩ [(x,u)])
  (hsp:∀H:Hp,Only H->SqL K H a (ns.map V.int)->sp [.ref a] H (λv _=>v=.bl true) λ_ _ _=>False)
  (hCX:∀H e s',CX [] H s₁ (λ_ _ _=>False) e s'->False) :
  codeAny (model P w) callerA (.call (.ref fa) ⟨[.ref a],[]⟩) (λr s'=>r=.ok (.ret (.bool true))/\OldK s₁.heap s'.heap/\s'.os=s₁.os/\AllBare s'.gens) s₁:=by
 have rv:=Oe hi;have lenV:=hi.length;have core:∀H:Hp,Only H->SqL K H a (ns.map V.int)->HOk P w H s₁.heap->(∀b,H b≠none->b=a)->(H a≠none->K.lookup a=none) ->
   codeAny (model P w) callerA (.call (.ref fa) ⟨[.ref a],[]⟩) (λr s'=>r=.ok (.ret (.bool true))/\OldK s₁.heap s'.heap/\s'.os=s₁.os/\AllBare s'.gens) s₁:=by
  intro H hO hS hok hA hK;have Z0:∀{b:Addr} {o:Obj},s₁.heap.get? b=some o->H b=none->(Nu s₁.heap H).get? b=some o:=λe n=>mj e n;have noA:∀{b:Addr} {o:Obj} {es:Array DictEntry} {ep:Nat},s₁.heap.get? b=some o->o.data=.dict es ep->H b=none:=λ{b o es ep} e d=>by
   cases q:H b with
   | none=>rfl
   | some u=>
    have e':b=a:=hA b (by rw[q];simp);subst e';rw[ha] at e;cases e;have d':Data.seq vs.toArray _=Data.dict es ep:=d;cases d'
  have nsK:∀{b:Addr} {m:YB},s₁.heap.Ns b m->(Nu s₁.heap H).Ns b m:=λ{b m} ⟨o,es,ep,e,d,r⟩=>⟨o,es,ep,Z0 e (noA e d),d,r⟩;have hKb:K.In (Nu s₁.heap H):=λb o e=>Z0 (KX b o e) (by
   cases q:H b with
   | none=>rfl
   | some u=>
    have e':b=a:=hA b (by rw[q];simp);subst e';rw[hK (by rw[q];simp)] at e;cases e)
  have hM:Mod K mg (Nu s₁.heap H):=⟨hKb,nsK hns,⟨mb,nsK hb,hbb⟩,let ⟨mc,h1,h2⟩:=hlim;⟨mc,nsK h1,h2⟩⟩;have e0:NT P w K mg (Nu s₁.heap H) callerA [] s₁ H:=⟨rq,hM,λb o e=>pH e,Nat.le_of_eq (fO _ _),trivial,λb hb=>absurd (show b∈([]:List Addr) from hb) (by simp),hok,.of_eq hg⟩
  refine codeAny_mono ((F _ hKb (nsK hns)).run callerA [] s₁ H ⟨[.ref a],[]⟩ [.ref a] [.ref a] _ _ hr e0 (hbind s₁ (.ref a)) (.cons rfl .nil) (hsp H hO hS)) λr s' h=>?_;cases r with
  | error e=>exact (hCX H e s' h).elim
  | ok fl=>
   cases fl with
   | next=>exact False.elim h
   | brk=>exact False.elim h
   | cont=>exact False.elim h
   | ret u=>
    obtain⟨v,H',os,bare,un,hok',r',q⟩:=h;have q':v=.bl true:=q;subst q';obtain rfl:u=Value.bool true:=r';refine⟨rq,OldK.of_keep λb o e=>?_,os,bare⟩;cases q:H b with
    | none=>exact un.keep b o e q (by intro z;exact absurd (show b∈([]:List Addr) from z) (by simp)) (by simp)
    | some u=>
     rcases hO b with z |⟨ob,xs,z⟩
     ·rw[q] at z;cases z
     ·have z2:=un.Gy b ob _ z;obtain⟨e1,_⟩:=hok b _ z;obtain⟨e2,_⟩:=hok' b _ z2;rw[e] at e1;cases e1;exact e2
 cases hk:K.lookup a with
 | some o=>
  have e:=KX a o hk;rw[ha] at e;cases e;refine core (λ_=>none) (λ_=>.inl rfl) (.inr ⟨_,vs.toArray,_,hk,rq,rq,rq,by rw[Qbb,lenV];exact hl,by simpa using rv⟩) (λb u z=>by have z':(none:Option HO)=some u:=z;cases z') (λb z=>absurd rfl z) λz=>absurd rfl z
 | none=>
  refine core (λb=>if b=a then some (.frz { cls:=.type "list",data:=.seq vs.toArray } (.lst (ns.map V.int))) else none) (λb=>?_) (.inl (.inr ⟨{ cls:=.type "list",data:=.seq vs.toArray },if_pos rfl⟩)) (λb u z=>?_) (λb z=>?_) λ_=>hk
  ·by_cases hb:b=a
   ·exact .inr ⟨_,_,if_pos hb⟩
   ·exact .inl (if_neg hb)
  ·by_cases hb:b=a
   ·have z':=(if_pos hb).symm.trans z;cases z';subst hb;exact⟨ha,by rw[Qbw];exact hl,vs,_,rv,ha⟩
   ·have z':=(if_neg hb).symm.trans z;cases z'
  ·by_cases hb:b=a
   ·exact hb
   ·exact absurd (if_neg hb) z
theorem oF {l:PySem.W.OpenLaw} {n k:Nat} {q:Program} {loose:YF} {XP:(YB)->Heap->Prop} {YP:World->Heap->Prop} {d:DefRec} {K:Params->YD} {CX:World->CXT} {sp:World->Sp} {x:Str}
  (hn:l.most=some n) (hn2:n<=sizeLine) (hdf:d.params.defaults=[]) (hr:Dq k callerA)
  (hY:∀(w:World) (h:Heap),YP w h->(K w.params).In h)
  (F:∀(w:World) (mg:YB) (fa:Addr) (h:Heap),(K w.params).In h->h.Ns mainGlobals mg->mg d.name=some (.ref fa) ->
   ∃fd:FuncData,(∀(s:Shared) (u:Value),BindsTo s fd ⟨[u],[]⟩ [(x,u)]) /\
    ∀base:Heap,(K w.params).In base->base.Ns mainGlobals mg->Jf l.prog w (K w.params) mg base (CX w) k fa fd [x] (sp w))
  (hsp:∀(w:World) (H:Hp) (a:Addr) (ns:List Int),ns.length<=n->Only H->SqL (K w.params) H a (ns.map V.int)->sp w [.ref a] H (λv _=>v=.bl true) λ_ _ _=>False)
  (hCX:∀(w:World) (H:Hp) (s:Shared) (e:Value) (s':Shared),CX w [] H s (λ_ _ _=>False) e s'->False) :
  PySem.W.WalkO q loose XP YP l.row.toRowW d [] (λf vs=>PySem.call f vs):=by
 refine Att.Yz hn hdf λw s₀ s₁ mg mb fa o pm cd doc a vs ns G Y ho hd hcd hmg hobj hints hlen hg=>?_;have KX:=hY w _ Y;obtain⟨fd,hb,hF⟩:=F w mg fa _ KX G.T.g hmg;exact kE KX G.T.g G.T.b G.T.builtins G.T.nolimit hg hobj hints (Qca hlen hn2) hr hF hb (λH hO hS=>hsp w H a ns hlen hO hS) λH e s'=>hCX w H s₁ e s'
def Fz (s:Stmt):Arguments:=match s with
 | .FunctionDef _ a _ _ _ _ _ _ _ _=>a
 | _=>{ posonlyargs:=[],args:=[],vararg:=none,kwonlyargs:=[],kw_defaults:=[],kwarg:=none,defaults:=[] }
def Dd (s:Stmt):List Stmt:=match s with
 | .FunctionDef _ _ b _ _ _ _ _ _ _=>b
 | _=>[]
def Al (s:Stmt):Scope:=match s with
 | .FunctionDef _ _ _ _ _ _ sc _ _ _=>sc
 | _=>{ kind:=.function,names:=[],isGenerator:=false,isCoroutine:=false }
abbrev CX0:CXT:=λ_ _ _ _ _ _=>False
abbrev E0:XK:=λ_ _ _=>False
theorem vP {X:Cx}:Passes CX0 X E0:=λ_ _ _ _ _ _ _ h=>h.elim
structure Fun (K:YD) (x qual:Str) (st:Stmt) (f:Addr) (fd:FuncData):Prop where
 ex:∃(oc:Value) (od:Option Addr) (kV doc pm:Value) (an:Option Addr) (cdv ct:Value) (osl:YI),
  fd=fnOf x qual (Fz st) (Dd st) (Al st) .none kV doc pm an cdv ct/\K.lookup f=some ⟨oc,od,.func fd,osl⟩/\codeIn K cdv qual=true
 kp:keepIn K (.ref f)=true
section
variable {P:Program} {w:World} {K:YD} {mg:YB} {base:Heap}
theorem Fun.ok {x qual:Str} {st:Stmt} {f:Addr} {fd:FuncData} {N ps:YF} {k:Nat} {sp:Sp} (F:Fun K x qual st f fd) (S:Bf N ps (Al st)) (len:∀vs H Q E,sp vs H Q E->vs.length=ps.length)
  (hbody:∀(cdv:Value) (A:Around) (outer:List Env) (s:Shared) (H:Hp) (vs:YG) (Q:VK) (E:XK),Dq k (A.deeper (envOfC qual (Al st) s.heap.objs.size f cdv))->sp vs H Q E ->
   ∃t,PSs (Ig CX0 P w K mg base N qual (Al st) f cdv A outer s H E).nox (Dd st) t/\t { nx:=λ_ H'=>Q .non H',rt:=Q } (start N vs) H):Jf P w K mg base CX0 (k+1) f fd ps sp:=by
 obtain⟨oc,od,kV,doc,pm,an,cdv,ct,osl,rfl,lk,hcd⟩:=F.ex;refine nR lk hcd S len λA outer s H vs Q E hr hsp=>?_;obtain⟨t,h,q⟩:=hbody cdv A outer s H vs Q E hr hsp;exact⟨t,h.nox,q⟩
theorem Fun.binds {x qual:Str} {st:Stmt} {f:Addr} {fd:FuncData} {ps:YF} (F:Fun K x qual st f fd)
  (h:∀(kV doc pm:Value) (an:Option Addr) (cdv ct:Value) (us:YE),us.length=ps.length->bindArgs (fnOf x qual (Fz st) (Dd st) (Al st) .none kV doc pm an cdv ct) ⟨us,[]⟩=pure (ps.zip us)):Binds K fd ps []:=by
 obtain⟨oc,od,kV,doc,pm,an,cdv,ct,osl,rfl,lk,hcd⟩:=F.ex;exact .all (h kV doc pm an cdv ct)
theorem f9 {x qual:Str} {st:Stmt} {f:Addr} {oc:Value} {od an:Option Addr} {osl:YI} {kV doc pm cdv ct:Value} (l:K.lookup f=some ⟨oc,od,.func (fnOf x qual (Fz st) (Dd st) (Al st) .none kV doc pm an cdv ct),osl⟩)
  (c:codeIn K cdv qual=true) (k:keepIn K (.ref f)=true):Fun K x qual st f (fnOf x qual (Fz st) (Dd st) (Al st) .none kV doc pm an cdv ct):=⟨⟨oc,od,kV,doc,pm,an,cdv,ct,osl,rq,l,c⟩,k⟩
end
theorem Bb {n:Nat} (h:n<=1000):n < sizeLine:=Nat.lt_of_le_of_lt h (by decide)
section
variable {X:Cx}
theorem pv (i:Nat) {x:Str} {pos:Pos} (hN:X.N[i]?=some x:=by rfl) (hv:Vis X.env.scope x:=by first | exact Or.inl rfl | exact Or.inr (Or.inl rfl) | exact Or.inr (Or.inr rfl)) (hd:(x == ("__debug__":Str))=false:=by decide)
  (hcd:(x == ("__classdict__":Str))=false:=by decide):PE X (.Name x pos) (qQ i):=rO hN hv hd hcd
end
theorem Bw {A B:Prop} (h:B):if false=true then A else B:=by
 rw[if_neg QaR];exact h
theorem Bl {A B:Prop} (h:A):if true=true then A else B:=by
 rw[if_pos rfl];exact h
theorem Jr {c A B:Prop} [Decidable c] (h1:c->A) (h2:¬c->B):if c then A else B:=by
 by_cases h:c
 ·rw[if_pos h];exact h1 h
 ·rw[if_neg h];exact h2 h
theorem vZ {c A B:Prop} [Decidable c] (hc:c) (h:B):if (!decide c)=true then A else B:=by
 rw[QbM hc];exact Bw h
def Same (H H':Hp):Prop:=∀b o,H b=some o->H' b=some o
theorem Same.refl (H:Hp):Same H H:=λ_ _ h=>h
theorem Same.trans {H H1 H2:Hp} (a:Same H H1) (b:Same H1 H2):Same H H2:=λc o h=>b c o (a c o h)
theorem Same.free {H H':Hp} (e:Same H H') {l:Addr} (h:H' l=Option.none):H l=Option.none:=by
 cases q:H l with
 | none=>rfl
 | some o=>
  rw[e l o q] at h;cases h
theorem Same.seq {K:YD} {H H':Hp} {a:Addr} {xs:YG} (e:Same H H') (h:SqL K H a xs):SqL K H' a xs:=by
 rcases h with (h |⟨o,h⟩) | h
 ·exact .inl (.inl (e _ _ h))
 ·exact .inl (.inr ⟨o,e _ _ h⟩)
 ·exact .inr h
def Eo (env:Env):List (Str×NameKind)->List (Str×Addr)->List (Str×Addr)
 | [],cs=>cs
 | (n,k)::r,cs=>Eo env r (if (k == .free)=true then (match env.cells.lookup n with | some c=>(n,c)::cs | none=>cs) else cs)
theorem Xr {env:Env}:∀(names:List (Str×NameKind)) (cs:List (Str×Addr)),(∀p∈names,p.2=.free->∃c,env.cells.lookup p.1=some c) ->
  (forIn names cs λ(p:Str×NameKind) (r:List (Str×Addr))=>(if (p.2 == .free)=true then do
    let c <-cellOf env p.1
    pure (ForInStep.yield ((p.1,c)::r))
   else pure (ForInStep.yield r):Sem (ForInStep (List (Str×Addr)))))=pure (Eo env names cs)
 | [],cs,_=>rfl
 | (n,k)::rest,cs,h=>by
  have ih:=λcs'=>Xr rest cs' λp hp=>h p (QaD _ hp);rw[List.forIn_cons];cases hk:(k == NameKind.free) with
  | true=>
   obtain⟨c,hc⟩:=h (n,k) QaN (eq_of_beq hk);have e1:cellOf env n=pure c:=by unfold cellOf;rw[hc]
   have e2:Eo env ((n,k)::rest) cs=Eo env rest ((n,c)::cs):=by simp only[Eo,hk,if_true,hc]
   rw[e2,<-ih];simp only[hk,if_true,e1,pure_bind]
  | false=>
   have e2:Eo env ((n,k)::rest) cs=Eo env rest cs:=by simp only[Eo,hk,Bool.false_eq_true,if_false]
   rw[e2,<-ih];simp only[hk,Bool.false_eq_true,if_false,pure_bind]
theorem RT {env:Env} {scope:Scope} (h:∀p∈scope.names,p.2=.free->∃c,env.cells.lookup p.1=some c):closureFor scope env=pure (Eo env scope.names []):=by
 have e:=Xr (env:=env) scope.names [] h;unfold closureFor;simp only[bind_pure];exact e
theorem Xq {env:Env}:∀(names:List (Str×NameKind)) (cs:List (Str×Addr)),(∀x c,cs.lookup x=some c->env.cells.lookup x=some c) ->
  ∀x c,(Eo env names cs).lookup x=some c->env.cells.lookup x=some c
 | [],cs,h,x,c,e=>h x c e
 | (n,k)::rest,cs,h,x,c,e=>by
  refine Xq rest _ (λy d z=>?_) x c e;split at z
  ·split at z
   ·rename_i c' hc';rw[List.lookup_cons] at z;cases q:y == n with
    | true=>rw[q] at z;cases z;rw[eq_of_beq q];exact hc'
    | false=>rw[q] at z;exact h y d z
   ·exact h y d z
  ·exact h y d z
theorem Q9 {env:Env}:∀(names:List (Str×NameKind)) (cs:List (Str×Addr)) (x:Str),((cs.lookup x).isSome=true\/((x,NameKind.free)∈names/\∃c,env.cells.lookup x=some c)) ->
  ∃c,(Eo env names cs).lookup x=some c
 | [],cs,x,h=>by
  rcases h with h |⟨h,_⟩
  ·exact Option.isSome_iff_exists.mp h
  ·cases h
 | (n,k)::rest,cs,x,h=>by
  refine Q9 rest _ x ?_;have grow:(cs.lookup x).isSome=true->(List.lookup x (if (k == .free)=true then (match env.cells.lookup n with | some c=>(n,c)::cs | none=>cs) else cs)).isSome=true:=λz=>by
   split
   ·split
    ·rw[List.lookup_cons];cases x == n with
     | true=>rfl
     | false=>exact z
    ·exact z
   ·exact z
  rcases h with h |⟨h,c,hc⟩
  ·exact .inl (grow h)
  ·rcases QbQ.mp h with z | z
   ·cases z;refine .inl ?_;simp[hc,List.lookup_cons]
   ·exact .inr ⟨z,c,hc⟩
def Jl (env:Env) (n:Str) (k:NameKind):NameKind:=if (k == .free&&env.scope.kind == .function&&env.kindOf n == some .cell)=true then .cell else k
theorem Nr (env:Env):∀(l:List (Str×NameKind)) (x:Str),
  (l.map λ(n,k)=>if (k == NameKind.free&&env.scope.kind == .function&&env.kindOf n == some .cell) then (n,NameKind.cell) else (n,k)).lookup x=(l.lookup x).map (Jl env x)
 | [],_=>rfl
 | (n,k)::r,x=>by
  have ih:=Nr env r x;have e:(if (k == NameKind.free&&env.scope.kind == .function&&env.kindOf n == some .cell)=true then (n,NameKind.cell) else (n,k))=(n,Jl env n k):=by
   unfold Jl;split <;> rfl
  rw[QbT];show List.lookup x ((if (k == NameKind.free&&env.scope.kind == .function&&env.kindOf n == some .cell)=true then (n,NameKind.cell) else (n,k))::_)=_
  rw[e,List.lookup_cons,List.lookup_cons];cases q:x == n with
  | true=>rw[eq_of_beq q];rfl
  | false=>exact ih
theorem jy {env:Env} {n:Str} {k:NameKind} (h:Jl env n k=.cell\/Jl env n k=.free):k=.cell\/k=.free:=by
 unfold Jl at h;split at h
 ·rename_i q;simp only[Qbs] at q;exact .inr (eq_of_beq q.1.1)
 ·exact h
theorem gF {prog:Program} {w:World} {A:Around} {R:Result->Shared->Prop} {s:Shared} {elt target iter:Expr} {ifs:YJ} {scope:Scope} {pos:Pos} {it acc:Value} {env:Env} (J:Nat->Shared->Prop)
  (turn:∀n s,J n s->wpAny (model prog w) A (pyNext it) (λr s1=>match r with
   | none=>R (.ok .next) s1
   | some v=>wpAny (model prog w) A (letOwnedTupleGo target it v) (λ_ s2=>wpAny (model prog w) A (assign target env v) (λ_ s3=>
     wpAny (model prog w) A (forIn ifs true λc r=>if r=true then do let ok <-isTrue c env (eval c env);pure (ForInStep.yield ok) else pure (ForInStep.yield r)) (λok s4=>
      if ok=true then wpAny (model prog w) A (eval elt env) (λx s5=>wpAny (model prog w) A (call (.builtin "list.append") [acc,x]) (λ_ s6=>∃m,m < n/\J m s6) (λ_ _=>False) s5) (λ_ _=>False) s4
      else ∃m,m < n/\J m s4) (λ_ _=>False) s3) (λ_ _=>False) s2) (λ_ _=>False) s1) (λ_ _=>False) s)
  (n:Nat) (h:J n s):codeAny (model prog w) A (.compLoop (.ListComp elt [⟨target,iter,ifs,0⟩] scope pos) 0 it acc env) R s:=by
 refine codeAny_loop rfl J (λk s' hk=>?_) n h;show wpAny _ A (Sem.onRaise (compTurn (.ListComp elt [⟨target,iter,ifs,0⟩] scope pos) 0 it acc env) (λx=>do noteFrame x env;theTreesLotGoes x)) _ _ s'
 refine wpAny_noted ?_;rw[compTurn_list];refine Qcj (QbW (Qcj (Qcl (turn k s' hk) (λr s1 q1=>?_) λ_ _ f=>f.elim)));cases r with
 | none=>exact Qck q1
 | some v=>
  refine Qcj (Qcl q1 (λ_ s2 q2=>Qcj (Qcl q2 (λ_ s3 q3=>Qcj (Qcl q3 (λok s4 q4=>?_) λ_ _ f=>f.elim)) λ_ _ f=>f.elim)) λ_ _ f=>f.elim);cases ok with
  | false=>exact Qck ⟨rfl,q4⟩
  | true=>exact Qcj (Qcj (Qcl q4 (λx s5 q5=>Qcj (Qcl q5 (λ_ s6 q6=>Qck (Qck ⟨rfl,q6⟩)) λ_ _ f=>f.elim)) λ_ _ f=>f.elim))
def cxC (X:Cx) (N':YF) (scope:Scope) (s3:Shared) (H3:Hp) (fp:List Addr) (pn:YC):Cx where
 prog:=X.prog
 w:=X.w
 K:=X.K
 mg:=X.mg
 base:=X.base
 A:=X.A
 N:=N'
 s₀:=s3
 H₀:=H3
 env:=compEnvC scope (Eo X.env scope.names []) s3.heap.objs.size X.env
 outer:=X.stack
 stack:=X.stack
 ex:=fp
 fn:=λ_=>false
 calm:=X.calm
 pn:=pn
 xe:=λ_ _=>False
structure Bs (X:Cx) (N':YF) (src:List (Option Nat)) (sc:Scope):Prop where
 kind:sc.kind=.function
 Ge:∀y∈sc.names,y.2≠.cell
 loc:∀y∈sc.names,y.2=.local->sc.names.lookup y.1=some .local
 fv:∀y∈sc.names,y.2=.free->X.env.kindOf y.1=some .cell\/X.env.kindOf y.1=some .free
 len:src.length=N'.length
 src:∀(i:Nat) (x:Str) (j:Nat),N'[i]?=some x->src[i]?=some (some j)->X.N[j]?=some x/\sc.names.lookup x=some .free
def Ko (src:List (Option Nat)) (σ : St):St:=src.map λo=>match o with | none=>none | some j=>(σ[j]?).join
def PF (X:Cx) (ifs:YJ) (t:TT):Prop:=
 ∀(jb:YC) (s:Shared) (σ : St) (H:Hp) (Q:Bool->Hp->Prop),Inv X jb σ H s->t σ H Q ->
  wpAny (model X.prog X.w) X.A (forIn ifs true λc r=>if r=true then do let ok <-isTrue c X.env (eval c X.env);pure (ForInStep.yield ok) else pure (ForInStep.yield r)) (TP X jb σ Q) X.xe s
theorem CW {X:Cx}:PF X [] (λ_ H Q=>Q true H):=λ_ _ _ H _ I h=>wpAny_tests_nil ⟨H,I,h⟩
theorem O2 {X:Cx} {c:Expr} {t:TT} (hc:PT X c t):PF X [c] t:=λjb s σ H Q I h=>wpAny_tests_one (hc jb s σ H Q I h)
theorem Un.ahead {fs ex:List Addr} {H H':Hp} {h h1 h':Heap} (u:Un fs ex H H' h h1) (k:∀b o,b < h.objs.size->h1.get? b=some o->h'.get? b=some o):Un fs ex H H' h h' where
 keep:=λb o e n hb hx=>k b o (QbZ e) (u.keep b o e n hb hx)
 slot:=λb o e n hb hx=>by
  obtain⟨sl,q⟩:=u.slot b o e n hb hx;exact⟨sl,k b _ (QbZ e) q⟩
 free:=u.free
 there:=λb o e hx=>by
  obtain⟨o',q⟩:=u.there b o e hx;exact⟨o',k b _ (QbZ e) q⟩
 tups:=u.tups
 Gy:=u.Gy
 Hz:=u.Hz
section
variable {X:Cx} {N':YF} {src:List (Option Nat)} {sc:Scope} {jb:YC} {σ : St} {H:Hp} {s3:Shared} {fp:List Addr} {h1:Heap} {tk:Nat}
theorem Xn (S:Bs X N' src sc) (I:Inv X jb σ H s3) (hf:∀b∈fp,GD X jb H b) (ht:∀b∈fp,b < s3.heap.objs.size)
  (ns:h1.Ns s3.heap.objs.size λ_=>none) (kp:∀b o,s3.heap.get? b=some o->h1.get? b=some o) :
  Inv (cxC X N' sc s3 H fp (X.pn++jb)) [] (Ko src σ) H { s3 with heap:=h1,toks:=tk }:=by
 have hcl:∀x c,(Eo X.env sc.names []).lookup x=some c->X.env.cells.lookup x=some c:=Xq sc.names [] λx c e=>by cases e
 have old:∀x c,(Eo X.env sc.names []).lookup x=some c->∃o,s3.heap.get? c=some o:=λx c e=>by
  obtain⟨v,o,ho,_⟩:=I.cell x c (hcl x c e);exact⟨o,ho⟩
 have fvh:∀x,(x,NameKind.free)∈sc.names->∃c,X.env.cells.lookup x=some c:=λx hx=>I.ok.has x (S.fv _ hx rfl);have qW:∀b,b≠X.env.locals->b∉X.fs->b∉frs X.stack:=λb h1 h2 hb=>(QbQ.mp (I.Rj b hb)).elim h1 h2;have kindOf_eq:∀x,(compEnvC sc (Eo X.env sc.names []) s3.heap.objs.size X.env).kindOf x=(sc.names.lookup x).map (Jl X.env x):=λx=>Nr X.env sc.names x;refine⟨⟨I.ok.mod,S.kind,I.ok.glob,I.ok.blt,Qce _,λx y c e1 e2=>I.ok.inj x y c (hcl x c e1) (hcl y c e2),λx hx=>?_,λx c hf=>absurd hf QaR,I.ok.hd,I.ok.frames,.inl rfl,λb hb=>?_,I.bs,Qca I.ok.bsz I.sz,
  λb o e hb=>?_,λb hb=>?_,I.stack,I.Sh⟩,rq,I.bare,Un.kept kp,⟨_,ns,λi x v e1 e2 e3=>?_⟩,λx c e=>?_,I.hok.fresh (Qce _),λx c e=>I.Fj x c (hcl x c e),λp hp=>?_,I.hok.kept kp,?_⟩
 ·
  have hx':(sc.names.lookup x).map (Jl X.env x)=some .cell\/(sc.names.lookup x).map (Jl X.env x)=some .free:=by
   rw[<-kindOf_eq x];exact hx
  cases q:sc.names.lookup x with
  | none=>rw[q] at hx';rcases hx' with z | z <;> cases z
  | some k=>
   rw[q] at hx';have hk:k=.cell\/k=.free:=jy (env:=X.env) (n:=x) (hx'.imp (λz=>QbB z) λz=>QbB z);have hm:=QaK q;rcases hk with rfl | rfl
   ·exact absurd rfl (S.Ge _ hm)
   ·exact Q9 sc.names [] x (.inr ⟨hm,fvh x hm⟩)
 ·
  obtain⟨f0,f1,f2,f3,f4,f5⟩:=hf b hb;exact⟨Qcb (ht b hb),λx c e=>f4 x c (hcl x c e)⟩
 ·
  obtain⟨f0,f1,f2,f3,f4,f5⟩:=hf b hb;rcases f3 with z | z
  ·exact I.ok.K7 b o e z
  ·exact absurd (QaS (QbZ e) (Qca I.ok.bsz z)) (QbV _)
 ·
  obtain⟨f0,f1,f2,f3,f4,f5⟩:=hf b hb;exact qW b f1 f2
 ·
  have e2':(Ko src σ)[i]?=some (some v):=e2;unfold Ko at e2';rw[Qbc] at e2';cases q:src[i]? with
  | none=>rw[q] at e2';cases e2'
  | some oj=>
   rw[q] at e2';cases oj with
   | none=>cases e2'
   | some j=>
    have e4:(σ[j]?).join=some v:=QbB e2';have e5:σ[j]?=some (some v):=by
     cases r:σ[j]? with
     | none=>rw[r] at e4;cases e4
     | some z=>rw[r] at e4;cases z with
      | none=>cases e4
      | some y=>cases e4;rfl
    obtain⟨hN,hfr⟩:=S.src i x j e1 q;have hm:=QaK hfr;have kx:=S.fv _ hm rfl;obtain⟨m,hn,hl⟩:=I.loc;obtain⟨u,r,l⟩:=hl j x v hN e5 (.inr kx);refine⟨u,r,?_⟩;rcases l with⟨k1,_⟩|⟨_,c,hc,hcell⟩
    ·rcases kx with z | z <;> (rw[z] at k1;cases k1)
    ·obtain⟨c',hc'⟩:=Q9 (env:=X.env) sc.names [] x (.inr ⟨hm,c,hc⟩);have e6:c'=c:=by
      have:=hcl x c' hc';rw[hc] at this;exact (QbB this).symm
     subst e6;refine .inr ⟨?_,c',hc',?_⟩
     ·have:(compEnvC sc (Eo X.env sc.names []) s3.heap.objs.size X.env).kindOf x=some (Jl X.env x .free):=by rw[kindOf_eq x,hfr];rfl
      show (compEnvC sc (Eo X.env sc.names []) s3.heap.objs.size X.env).kindOf x=some .cell\/(compEnvC sc (Eo X.env sc.names []) s3.heap.objs.size X.env).kindOf x=some .free;rw[this];unfold Jl;split
      ·exact .inl rfl
      ·exact .inr rfl
     ·obtain⟨o,ho,hd⟩:=hcell;exact⟨o,kp _ o ho,hd⟩
 ·
  obtain⟨v,o,ho,hd⟩:=I.cell x c (hcl x c e);exact⟨v,o,kp _ o ho,hd⟩
 ·
  have hp':p∈X.pn++jb:=(Qby.mp hp).elim id λz=>by cases z
  obtain⟨a1,a2,a3,a4,a5⟩:=I.pin p hp';exact⟨kp _ _ a1,a2,Qcb (QbZ a1),qW p.1 a3 a4,a5⟩
 ·show (Ko src σ).length=N'.length;unfold Ko;rw[Qbw];exact S.len
theorem Xo {s1:Shared} {σ':St} {H':Hp} {h':Heap} (I:Inv X jb σ H s3) (hf:∀b∈fp,GD X jb H b) (I':Inv (cxC X N' sc s3 H fp (X.pn++jb)) [] σ' H' s1)
  (sb:Heap.SameBut s3.heap.objs.size s1.heap h'):Inv X jb σ H' { s1 with heap:=h' }:=by
 have fr:H' s3.heap.objs.size=none:=I'.free;refine I.call' (s':={ s1 with heap:=h' }) (ch:=fp) I'.os ?_ ?_ I'.bare λb hb=>?_
 ·exact Un.ahead (h:=s3.heap) (h1:=s1.heap) I'.base λb o hb e=>sb.extBut b o (Qcb hb) e
 ·exact λb u e=>(I'.hok b u e).stay (λc v hc q=>sb.extBut c v (by
   intro z;rcases hc with y | y
   ·rw[<-y,z,fr] at e;cases e
   ·rw[z,fr] at y;cases y) q) (λ_ q=>q) λ_ _ q=>q
 ·obtain⟨f0,f1,f2,f3,f4,f5⟩:=hf b hb;exact⟨f3,f1,f4,λp hp=>f5 p hp⟩
end
@[irreducible] def G7 (J:It) (g:TG) (tt:TT) (te:TE) (Q:VK) (σ0:St) (H0:Hp) (l:Addr):Prop:=∃W:Nat->YN,(∃m,W 0 m σ0 H0) /\
 ∀i m σ' H',W i m σ' H'->(J.stop i H'/\Q (.ref l) H')\/(J.go i H'/\∃N:YO,(∀ σ3 H3,N σ3 H3->∃m',m' < m/\W (i+1) m' σ3 H3)/\∀x H2,J.yld i H' x H2->g x σ' H2 fun σ3 H3=>tt σ3 H3 λb H4=>
  if b=true then te σ3 H4 λy H5=>∃xs,H5 l=some (.lst xs)/\xs.length < sizeLine/\N σ3 (upd H5 l (.lst (xs++[y]))) else N σ3 H4)
def au (wi:TI) (src:List (Option Nat)) (g:TG) (tt:TT) (te:TE):TE:=fun σ H Q=>wi σ H λJ H1=>∀l,H1 l=none->G7 J g tt te Q (Ko src σ) (upd H1 l (.lst [])) l
theorem Us {X:Cx} {N':YF} {src:List (Option Nat)} {sc:Scope} {elt tg iter:Expr} {ifs:YJ} {pos pos':Pos} {wi:TI} {g:TG} {tt:TT} {te:TE} {use:Option (Value->Sem Unit)} {R:YA} (hc:X.calm=true) (S:Bs X N' src sc)
  (hi:PI X tg iter wi) (hg:∀s3 H3 fp pn,PG (cxC X N' sc s3 H3 fp pn) tg g) (ht:∀s3 H3 fp pn,PF (cxC X N' sc s3 H3 fp pn) ifs tt) (he:∀s3 H3 fp pn,PE (cxC X N' sc s3 H3 fp pn) elt te)
  (hs:∀x,foldedSetIterable iter X.env x=pure x) {jb:YC} {s:Shared} {σ : St} {H:Hp} {Q:VK} (I:Inv X jb σ H s) (h:au wi src g tt te σ H Q)
  (fin:∀s3 H3 fp σ4 H4 s5 l,Inv X jb σ H3 s3->(∀b∈fp,GD X jb H3 b)->Inv (cxC X N' sc s3 H3 fp (X.pn++jb)) [] σ4 H4 s5->Q (.ref l) H4 ->
   compPost (model X.prog X.w) X.A X.xe use R (.ref l) s3.heap.objs.size (.ok .next) s5) :
  wpAny (model X.prog X.w) X.A (comprehension (.ListComp elt [⟨tg,iter,ifs,0⟩] sc pos) sc X.env pos' (newList []) false (eval iter X.env) use) R X.xe s:=by
 refine wpAny_comprehension_free (use:=use) (cl:=Eo X.env sc.names []) rfl hs (RT λp hp e=>I.ok.has p.1 (S.fv p hp e)) S.kind S.loc ?_;refine thn (hi jb s σ H _ I h) λv s1 h1=>thn h1 λitv s2 h2=>?_;obtain⟨it,fp,tn,J,H2,rfl,I2,T,st2,f2,q⟩:=h2;have q':=q s2.heap.objs.size (I2.hok.fresh (Qce _));unfold G7 at q';obtain⟨W,⟨m0,w0⟩,turn⟩:=q';refine Qbg (wpAny_newFunctionEnv S.Ge (by intro y hy;simp at hy) (λha hns hsb=>?_) S.kind);have I3:Inv X jb σ (upd H2 s2.heap.objs.size (.lst [])) { s2 with heap:=s2.heap.push { cls:=.type "list",dict:=none,data:=.seq ([]:YE).toArray } }:=
  I2.laid (t':=s2.toks) (λb u e=>Qar _ e) (Qce _) ⟨Qcf _,[],0,.nil,QaH _ rfl⟩
 have hfl:∀b∈fp,b < s2.heap.objs.size:=λb hb=>by
  obtain⟨o,e,_⟩:=T.obj 0 _ st2 b hb;exact QbZ e
 have f3:∀b∈fp,GD X jb (upd H2 s2.heap.objs.size (.lst [])) b:=λb hb=>⟨by rw[Az (Qcb (hfl b hb))];exact (f2 b hb).1,(f2 b hb).2⟩;generalize hs3:({ s2 with heap:=s2.heap.push { cls:=.type "list",dict:=none,data:=.seq ([]:YE).toArray } }:Shared)=s3 at *;have hsz:s2.heap.objs.size < s3.heap.objs.size:=by rw[<-hs3];show s2.heap.objs.size < (s2.heap.push _).objs.size;rw[QbN];exact Nat.lt_succ_self _
 have kp:∀b o,s3.heap.get? b=some o->ha.get? b=some o:=λb o e=>hsb.extBut b o (Qcb (QbZ e)) (Qar _ e);have st3:tn 0 ha:=T.keep 0 _ _ st2 λb hb o e=>kp b o (by rw[<-hs3];exact Qar _ e);have I4:Inv (cxC X N' sc s3 (upd H2 s2.heap.objs.size (.lst [])) fp (X.pn++jb)) [] (Ko src σ) (upd H2 s2.heap.objs.size (.lst [])) { s3 with heap:=ha,toks:=s3.toks+([]:List (Str×Value)).length }:=
  Xn S I3 f3 (λb hb=>Nat.lt_trans (hfl b hb) hsz) hns kp
 have loop:codeAny (model X.prog X.w) X.A (.compLoop (.ListComp elt [⟨tg,iter,ifs,0⟩] sc pos) 0 (.ref it) (.ref s2.heap.objs.size) (compEnvC sc (Eo X.env sc.names []) s3.heap.objs.size X.env))
   (compPost (model X.prog X.w) X.A X.xe use R (.ref s2.heap.objs.size) s3.heap.objs.size) { s3 with heap:=ha,toks:=s3.toks+([]:List (Str×Value)).length }:=by
  refine gF (λn s'=>∃i σ' H',Inv (cxC X N' sc s3 (upd H2 s2.heap.objs.size (.lst [])) fp (X.pn++jb)) [] σ' H' s'/\tn i s'.heap/\(∀b∈fp,H' b=none)/\W i n σ' H') ?_ m0 ⟨0,_,_,I4,st3,λb hb=>(f3 b hb).1,w0⟩;rintro n s4 ⟨i,σ4,H4,J4,st4,fr4,w4⟩;have stat:∀{H':Hp},(∀b∈fp,H' b=none)->∀b∈fp,GD (cxC X N' sc s3 (upd H2 s2.heap.objs.size (.lst [])) fp (X.pn++jb)) [] H' b:=λhn b hb=>
   ⟨hn b hb,(I4.ok.exf b hb).1,I4.ok.Kh b hb,.inl hb,λx c e=>(I4.ok.exf b hb).2 x c e,λp hp=>(f3 b hb).2.2.2.2.2 p ((Qby.mp hp).elim id λz=>by cases z)⟩
  rcases turn i n σ4 H4 w4 with⟨stop,qn⟩|⟨go,N,hN,step⟩
  ·refine thn (T.done (cxC X N' sc s3 (upd H2 s2.heap.objs.size (.lst [])) fp (X.pn++jb)) rfl rfl rfl hc i [] s4 σ4 H4 _ J4 (stat fr4) st4 stop) λr s5 zz=>?_;obtain⟨hr,J5⟩:=zz;subst hr;exact fin s3 _ fp σ4 H4 s5 _ I3 f3 J5 qn
  ·refine thn (T.item (cxC X N' sc s3 (upd H2 s2.heap.objs.size (.lst [])) fp (X.pn++jb)) rfl rfl rfl hc i [] s4 σ4 H4 _ J4 (stat fr4) st4 go) λr s5 zz=>?_;obtain⟨u,hr,h5⟩:=zz;subst hr;refine thn h5 λ_ s6 zz=>?_;obtain⟨x,H6,J6,r6,y6,st6,fr6⟩:=zz;have J6':=J6.pinned (stat fr6) (T.obj _ _ st6);have back:∀{pl:YC} {σ7:St} {H7:Hp} {s7:Shared},Inv (cxC X N' sc s3 (upd H2 s2.heap.objs.size (.lst [])) fp (X.pn++jb)) ([]++Mz fp s6.heap) σ7 H7 s7->N σ7 H7 ->
     ∃m',m' < n/\∃i σ' H',Inv (cxC X N' sc s3 (upd H2 s2.heap.objs.size (.lst [])) fp (X.pn++jb)) [] σ' H' s7/\tn i s7.heap/\(∀b∈fp,H' b=none)/\W i m' σ' H':=λ{pl σ7 H7 s7} J7 w7=>by
    obtain⟨m',hm,w7⟩:=hN _ _ w7;have pinned:∀b∈fp,∀o,s6.heap.get? b=some o->s7.heap.get? b=some o/\H7 b=none:=λb hb o e=>by
     have:=J7.pin (b,o) (Qaw _ (Qaw _ (Kr hb e)));exact⟨this.1,this.2.1⟩
    refine⟨m',hm,i+1,σ7,H7,J7.Ji,T.keep _ _ _ st6 λb hb o e=>(pinned b hb o e).1,λb hb=>?_,w7⟩;obtain⟨o,e,_⟩:=T.obj _ _ st6 b hb;exact (pinned b hb o e).2
   refine thn (hg s3 _ fp _ _ s6 σ4 H6 x u _ J6' r6 (step x H6 y6)) λ_ s7 zz=>?_;obtain⟨σ7,H7,J7,q7⟩:=zz;refine thn (ht s3 _ fp _ _ s7 σ7 H7 _ J7 q7) λok s8 zz=>?_;obtain⟨H8,J8,q8⟩:=zz;cases ok with
   | false=>
    rw[if_neg QaR] at q8 ⊢;exact back (pl:=[]) J8 q8
   | true=>
    rw[if_pos rfl] at q8 ⊢;refine thn (he s3 _ fp _ _ s8 σ7 H8 _ J8 q8) λy s9 zz=>?_;obtain⟨yv,H9,J9,r9,xs,hl9,hz9,q9⟩:=zz;refine thn (Cu _ s9 σ7 H9 (.ref s2.heap.objs.size) [yv] (.ref s2.heap.objs.size) [y] (λ_ H'=>N σ7 H') J9 rfl (.cons r9 .nil) ⟨_,xs,yv,rq,rq,hl9,hz9,q9⟩) λ_ s10 zz=>?_;obtain⟨_,H10,J10,_,q10⟩:=zz;exact back (pl:=[]) J10 q10
 exact codeAny_compStart_list loop (T.self X.A 0 _ _ _ st3 loop)
theorem Cm {X:Cx} {N':YF} {src:List (Option Nat)} {sc:Scope} {elt tg iter:Expr} {ifs:YJ} {pos:Pos} {wi:TI} {g:TG} {tt:TT} {te:TE} (hc:X.calm=true) (S:Bs X N' src sc)
  (hi:PI X tg iter wi) (hg:∀s3 H3 fp pn,PG (cxC X N' sc s3 H3 fp pn) tg g) (ht:∀s3 H3 fp pn,PF (cxC X N' sc s3 H3 fp pn) ifs tt) (he:∀s3 H3 fp pn,PE (cxC X N' sc s3 H3 fp pn) elt te)
  (hs:∀x,foldedSetIterable iter X.env x=pure x:=by intro _;rfl):PE X (.ListComp elt [⟨tg,iter,ifs,0⟩] sc pos) (au wi src g tt te):=by
 intro jb s σ H Q I h;rw[eval_ListComp];refine Us (use:=none) hc S hi hg ht he hs I h λs3 H3 fp σ4 H4 s5 l I3 f3 J5 q=>?_;obtain⟨m,hn,_⟩:=J5.loc;exact⟨m,hn,λh' sb=>⟨.ref l,H4,Xo I3 f3 J5 sb,rq,q⟩⟩
theorem S6 {X:Cx} {N':YF} {src:List (Option Nat)} {sc:Scope} {elt tg iter:Expr} {ifs:YJ} {pos spos px:Pos} {wi:TI} {g:TG} {tt:TT} {te:TE} {i:Nat} {x:Str} (hN:X.N.Nodup) (hi0:X.N[i]?=some x) (hx:Loc X.env.scope x) (hc:X.calm=true) (S:Bs X N' src sc)
  (hi:PI X tg iter wi) (hg:∀s3 H3 fp pn,PG (cxC X N' sc s3 H3 fp pn) tg g) (ht:∀s3 H3 fp pn,PF (cxC X N' sc s3 H3 fp pn) ifs tt) (he:∀s3 H3 fp pn,PE (cxC X N' sc s3 H3 fp pn) elt te)
  (hsw:swapsWith (.ListComp elt [⟨tg,iter,ifs,0⟩] sc pos) (some (.Name x px)) spos.line X.env=pure true:=by rfl) (hs:∀x,foldedSetIterable iter X.env x=pure x:=by intro _;rfl)
  (hf:X.fn x=true\/X.env.scope.names.lookup x=some .local:=by first | exact .inl rfl | exact .inr rfl | assumption) :
  PS X (.Assign [.Name x px] (.ListComp elt [⟨tg,iter,ifs,0⟩] sc pos) spos) (jk (au wi src g tt te) (Ef i)):=by
 intro jb s σ H D I h;rw[exec_Assign_Name_used _ _ _ _ hsw];refine Qcj (QbW (Qcj ?_));show wpAny _ X.A (do let _ <-comprehension (.ListComp elt [⟨tg,iter,ifs,0⟩] sc pos) sc X.env _ (newList []) false (eval iter X.env) (some (assign (.Name x px) X.env))) _ _ s
 refine Qcj (thn (Us (R:=λ_ s'=>SP X jb D .next s') hc S hi hg ht he hs I h λs3 H3 fp σ4 H4 s5 l I3 f3 J5 q=>?_) λ_ s' hq=>Qck (Qck hq));obtain⟨m,⟨oC,es,ep,hoC,r⟩,_⟩:=J5.loc;have I6:Inv X jb σ H4 { s5 with heap:=s5.heap }:=Xo I3 f3 J5 (Heap.SameBut.refl _ _);have hCn:H4 s3.heap.objs.size=none:=J5.free;have neL:s3.heap.objs.size≠X.env.locals:=Qcd I3.lt;have xV:∀v,oC.data≠.cell v:=λv z=>by rw[r.1] at z;cases z
 have I7:Inv X (jb++[(s3.heap.objs.size,oC)]) σ H4 s5:=I6.S8 λp hp=>(Qby.mp hp).elim (λz=>I6.pin p (Qaw _ z)) λz=>by
  cases QaQ.mp z;exact⟨hoC,hCn,neL,I3.sW (Qce _),xV⟩
 show wpAny _ X.A (assign (.Name x px) X.env (.ref l)) _ _ s5;refine wpAny_assign_Name (M8 (v:=.ref l) I7 hN hi0 hx rfl (λs6 I8=>?_) hf);have k8:=(I8.pin (s3.heap.objs.size,oC) (Qaw _ (Qaw _ (QaQ.mpr rfl)))).1;refine⟨m,⟨oC,es,ep,k8,r⟩,λh' sb=>⟨_,H4,?_,q⟩⟩;have I9:=I8.Ji;refine I9.turned (t':=s6.toks) (λb o hb e=>sb.extBut b o hb e) hCn neL (.inr I3.sz) (λy c e z=>?_) (λp hp z=>?_)
 ·obtain⟨v,o,ho,_⟩:=I3.cell y c e;exact absurd (QbZ ho) (by rw[z];exact QbV _)
 ·have:=(I3.pin p hp).1;exact absurd (QbZ this) (by rw[z];exact QbV _)
theorem Bs.of {X:Cx} {N':YF} {src:List (Option Nat)} {sc:Scope} (fsc:Scope) (N:YF) (hX:X.env.scope=fsc) (hN:X.N=N) (kind:sc.kind=.function) (Ge:∀y∈sc.names,y.2≠.cell) (loc:∀y∈sc.names,y.2=.local->sc.names.lookup y.1=some .local)
  (fv:∀y∈sc.names,y.2=.free->fsc.names.lookup y.1=some .cell) (len:src.length=N'.length)
  (sr:((N'.zip src).all λp=>match p.2 with | none=>true | some j=>decide (N[j]?=some p.1)&&decide (sc.names.lookup p.1=some .free))=true):Bs X N' src sc where
 kind:=kind
 Ge:=Ge
 loc:=loc
 fv:=λy hy e=>.inl (by show X.env.scope.names.lookup y.1=some .cell;rw[hX];exact fv y hy e)
 len:=len
 src:=λi x j e1 e2=>by
  rw[Qbu] at sr;have hm:(x,some j)∈N'.zip src:=by
   refine QaE (i:=i) ?_;rw[List.getElem?_zip_eq_some];exact⟨e1,e2⟩
  have:=sr _ hm;simp only[Qbs,Qbm] at this;rw[hN];exact this
section
variable {X:Cx}
@[irreducible] def Jm (K:YD):YG->Hp->VK->Prop:=λxs H Q=>∃x T t b,xs=[x,.ty T]/\Je K H x t/\kitOne K t (.type T)=some b/\Q (.bl b) H
theorem Jt:Dn X (.builtin "isinstance") (Jm X.K):=by
 intro jb s σ H xs us Q I r h;unfold Jm at h;obtain⟨x,T,t,b,rfl,ty,e,q⟩:=h;obtain⟨u,w',rfl,rx,rt⟩:=vals2 r;cases rt;exact fG I rx ty e λtk=>⟨.bl b,H,I.tok tk,rq,q⟩
theorem Yo {K:YD}:kitOne K (.type "int") (.type "int")=some true:=by rfl
theorem W4 {K:YD}:kitOne K (.type "int") (.type "bool")=some false:=by rfl
theorem W5 {K:YD}:kitOne K (.type "bool") (.type "int")=some true:=by rfl
theorem Vc {K:YD}:kitOne K (.type "bool") (.type "bool")=some true:=by rfl
theorem W2 {K:YD}:kitOne K (.type "NoneType") (.type "int")=some false:=by rfl
theorem Yn {K:YD}:kitOne K (.type "str") (.type "int")=some false:=by rfl
theorem W3 {K:YD}:kitOne K (.type "list") (.type "int")=some false:=by rfl
theorem Vb {K:YD}:kitOne K (.type "tuple") (.type "int")=some false:=by rfl
def Kn (H:Hp):V->Prop
 | .non=>True
 | .bl _=>True
 | .int _=>True
 | .str _=>True
 | .ref a=>(∃xs,H a=some (.lst xs))\/∃xs,H a=some (.tup xs)
 | _=>False
def isI:V->Bool
 | .int _=>true
 | .bl _=>true
 | _=>false
def isB:V->Bool
 | .bl _=>true
 | _=>false
def isW:V->Bool
 | .int _=>true
 | _=>false
theorem qj {K:YD} {H:Hp} {x:V} {Q:VK} (k:Kn H x) (q:Q (.bl (isI x)) H):Jm K [x,.ty "int"] H Q:=by
 unfold Jm;cases x with
 | non=>exact⟨_,_,_,_,rfl,.non,W2,q⟩
 | bl b=>exact⟨_,_,_,_,rfl,.bl b,W5,q⟩
 | int i=>exact⟨_,_,_,_,rfl,.int i,Yo,q⟩
 | str z=>exact⟨_,_,_,_,rfl,.str z,Yn,q⟩
 | ref a=>
  rcases k with⟨xs,e⟩|⟨xs,e⟩
  ·exact⟨_,_,_,_,rq,.lst e,W3,q⟩
  ·exact⟨_,_,_,_,rq,.tup e,Vb,q⟩
 | _=>exact k.elim
theorem lY {K:YD} {H:Hp} {x:V} {Q:VK} (k:isI x=true) (q:Q (.bl (isB x)) H):Jm K [x,.ty "bool"] H Q:=by
 unfold Jm;cases x with
 | bl b=>exact⟨_,_,_,_,rfl,.bl b,Vc,q⟩
 | int i=>exact⟨_,_,_,_,rfl,.int i,W4,q⟩
 | _=>cases k
theorem XC:∀{bs:List Bool} {us:YE},Vals (bs.map V.bl) us->LSm.BoolsAre us bs
 | [],_,.nil=>.nil
 | b::r,_,.cons h t=>by
  cases (show _=Value.bool b from h)
  exact .cons b (XC t)
theorem GC (hc:X.calm=true):Dn X (.builtin "all") (λxs H Q=>∃(p:Addr) (bs:List Bool),xs=[.ref p]/\SqL X.K H p (bs.map V.bl)/\Q (.bl (bs.all id)) H):=by
 intro jb s σ H xs us Q I r h;obtain⟨p,bs,rfl,hq,q⟩:=h;obtain⟨u,rfl,rx⟩:=vals1 r;cases rx;obtain⟨its,rv,pl,hz⟩:=I.list hq;have hb:=XC rv;have hl:=pl.isList;have hlt:p < s.heap.objs.size:=by obtain⟨_,e,_⟩:=hl;exact QbZ e
 refine call_all_walk (Qbi hl ?_);refine⟨s.heap.objs.size,[s.heap.objs.size,p],[s.heap.objs.size],its.toArray.size,_,_,λi=>(bs[i]?).getD true,rq,Walks.list (A:=X.A.in1) (I.ok.hd hc) _ p (Qcb hlt) its.toArray,
  ⟨⟨_,QaH _ rfl,rq,rq⟩,hl.push _⟩,λi v s' Q' E' hP hQ=>?_,λh' tk hk=>?_⟩
 ·obtain⟨b,e,rfl⟩:=hb.get i v (by simpa using hP);simp only[e,Option.getD_some] at hQ;exact Qbf hQ
 ·have e:((List.range its.toArray.size).all λi=>(bs[i]?).getD true)=bs.all id:=by
   rw[Qbb,hb.length];exact LSm.range_all bs
  rw[e];exact⟨.bl (bs.all id),H,I.kept (LSm.kept_iter hk),rq,q⟩
def rG (K:YD):R2:=λx y H Q=>∃a b ys,x=.ref a/\y=.ref b/\SqT K H a []/\SqT K H b ys/\Q (.ref b) H
theorem jO:OpR X (binaryOp .Add) (rG X.K):=by
 intro jb s σ H x y v u Q I rx ry h;obtain⟨a,b,ys,rfl,rfl,ha,hb,q⟩:=h;cases rx;cases ry;obtain⟨its,r1,p1,_⟩:=I.tuple ha;obtain⟨its2,r2,p2,_⟩:=I.tuple hb;cases r1;obtain⟨⟨cls,dd,data,sl⟩,ho,hc,n,hd⟩:=id p1;obtain⟨⟨cls2,dd2,data2,sl2⟩,ho2,hc2,n2,hd2⟩:=id p2;simp only at hc hd hc2 hd2;subst hc hd hc2 hd2;exact concat_meets ⟨_,ho,rq⟩ ⟨_,ho2,rq⟩ noFill_tuple_add seq_tuple_add PySem.F.slot_tuple_add PySem.F.entry_tuple_add (PySem.F.args_tuple_add_2 _ _)
  (tuple_addW0 a b #[] its2.toArray n n2 dd dd2 sl sl2 rfl) ⟨ho,ho2,⟨.ref b,H,I,rq,q⟩⟩
theorem Nk:OpR X (binaryOp .Add) (λx y H Q=>∃a b xs ys,x=.ref a/\y=.ref b/\H a=some (.tup xs)/\H b=some (.tup ys)/\xs.length+ys.length<=sizeLine /\
  ∀p H',H' p=some (.tup (xs++ys))->Same H H'->Q (.ref p) H'):=by
 intro jb s σ H x y v u Q I rx ry h;obtain⟨a,b,xs,ys,rfl,rfl,ha,hb,hz,q⟩:=h;cases xs with
 | nil=>exact jO jb s σ H _ _ v u Q I rx ry ⟨a,b,ys,rfl,rfl,SqT.of ha,SqT.of hb,q b H hb (Same.refl H)⟩
 | cons x0 xr=>
  refine pA jb s σ H _ _ v u Q I rx ry ⟨a,b,x0::xr,ys,rq,rq,SqT.of ha,SqT.of hb,(λz=>by cases z),hz,λz=>?_,λz p hp=>?_⟩
  ·subst z;exact q a H (by rw[QbA];exact ha) (Same.refl H)
  ·refine q p _ Ac λc o e=>?_;rw[Az (Aq e hp)];exact e
mutual
inductive Rep (H:Hp):V->PyData->Prop
 | non:Rep H .non .none
 | bl (b:Bool):Rep H (.bl b) (.bool b)
 | int (i:Int):Rep H (.int i) (.int i)
 | str (x:Str):Rep H (.str x) (.str x)
 | tup {a:Addr} {xs:YG} {ds:List PyData}:H a=some (.tup xs)->Kl H xs ds->Rep H (.ref a) (.tuple ds)
 | lst {a:Addr} {xs:YG} {ds:List PyData}:H a=some (.lst xs)->Kl H xs ds->Rep H (.ref a) (.list ds)
inductive Kl (H:Hp):YG->List PyData->Prop
 | nil:Kl H [] []
 | cons {x:V} {d:PyData} {xs:YG} {ds:List PyData}:Rep H x d->Kl H xs ds->Kl H (x::xs) (d::ds)
end
mutual
theorem Rep.reads {P:Program} {w:World} {H:Hp} {h:Heap} (ok:HOk P w H h):∀{v:V} {d:PyData} {u:Value},Rep H v d->RelV v u->∃as,Reads h u d as
 | _,_,_,.non,r=>by cases (show _=Value.none from r);exact⟨_,.none⟩
 | _,_,_,.bl b,r=>by cases (show _=Value.bool b from r);exact⟨_,.bool b⟩
 | _,_,_,.int i,r=>by obtain⟨t,rfl⟩:=(show ∃t,_=Value.int i t from r);exact⟨_,.int i t⟩
 | _,_,_,.str x,r=>by obtain⟨t,rfl⟩:=(show ∃t,_=Value.str x t from r);exact⟨_,.str x t⟩
 | _,_,_,.tup (a:=a) (xs:=xs) e q,r=>by
  cases (show _=Value.ref a from r)
  obtain⟨_,its,rv,o,ho,hc,n,hd⟩:=(show Cq P w H h a (.tup xs) from ok a _ e)
  obtain⟨as,z⟩:=Kl.reads ok q rv;exact⟨_,.tuple ho hc hd (by simpa using z)⟩
 | _,_,_,.lst (a:=a) (xs:=xs) e q,r=>by
  cases (show _=Value.ref a from r)
  obtain⟨_,its,n,rv,ho⟩:=(show Cq P w H h a (.lst xs) from ok a _ e)
  obtain⟨as,z⟩:=Kl.reads ok q rv;exact⟨_,.list ho rfl rfl (by simpa using z)⟩
theorem Kl.reads {P:Program} {w:World} {H:Hp} {h:Heap} (ok:HOk P w H h):∀{xs:YG} {ds:List PyData} {us:YE},Kl H xs ds->Vals xs us->∃as,ReadsAll h us ds as
 | _,_,_,.nil,.nil=>⟨_,.nil⟩
 | _,_,_,.cons p q,.cons r t=>by
  obtain⟨as,a1⟩:=Rep.reads ok p r;obtain⟨bs,b1⟩:=Kl.reads ok q t;exact⟨_,.cons a1 b1⟩
end
end
structure Code (K:YD) (mg:YB) (x:Str) (st:Stmt) (ps:YF):Prop where
 ex:∃(f:Addr) (fd:FuncData),Fun K x x st f fd/\mg x=some (.ref f)/\Binds K fd ps []
structure Good (P:Program) (w:World) (K:YD) (mg:YB) (base:Heap) (x:Str) (k:Nat) (ps:YF) (sp:Sp):Prop where
 ex:∃(f:Addr) (fd:FuncData),mg x=some (.ref f)/\keepIn K (.ref f)=true/\Binds K fd ps []/\Jf P w K mg base CX0 k f fd ps sp
theorem Code.good {P:Program} {w:World} {K:YD} {mg:YB} {base:Heap} {x:Str} {st:Stmt} {ps N:YF} {k:Nat} {sp:Sp} (C:Code K mg x st ps) (S:Bf N ps (Al st)) (len:∀vs H Q E,sp vs H Q E->vs.length=ps.length)
  (hbody:∀(f:Addr) (cdv:Value) (A:Around) (outer:List Env) (s:Shared) (H:Hp) (vs:YG) (Q:VK) (E:XK),Dq k (A.deeper (envOfC x (Al st) s.heap.objs.size f cdv))->sp vs H Q E ->
   ∃t,PSs (Ig CX0 P w K mg base N x (Al st) f cdv A outer s H E).nox (Dd st) t/\t { nx:=λ_ H'=>Q .non H',rt:=Q } (start N vs) H):Good P w K mg base x (k+1) ps sp:=by
 obtain⟨f,fd,F,m,b⟩:=C.ex;exact⟨f,fd,m,F.kp,b,F.ok S len λcdv A outer s H vs Q E hr h=>hbody f cdv A outer s H vs Q E hr h⟩
theorem Vn {X:Cx} {k k':Nat} {ps:YF} {sp:Sp} {x:Str} {p pos:Pos} {e:Expr} {es:YJ} {t:TA} (g:Good X.prog X.w X.K X.mg X.base x k ps sp) (hr:Dq k' X.A) (ha:PA X (e::es) t) (hk:k<=k':=by decide) (hg:Gl X x:=by rfl)
  (hdb:(x == ("__debug__":Str))=false:=by decide) (he:starEach (e::es) X.env=(false,eval e X.env)::starEach es X.env:=by rfl) (hpl:(backTo pos (starEach es X.env)).any (·.1)=false:=by rfl) :
  PE X (.Call (.Name x p) (e::es) [] pos) (aA sp [] E0 t):=by
 intro jb s σ H Q I h;obtain⟨f,fd,m,kp,b,F⟩:=g.ex;exact o9 F (hr.mono hk) hg m kp b .nil vP ha hdb he hpl jb s σ H Q I h
theorem Code.of {K:YD} {mg:YB} {h:Heap} {x:Str} {st:Stmt} {ps:YF} {f:Addr} {oc:Value} {od an:Option Addr} {osl:YI} {kV doc pm cdv ct:Value} (X:K.In h) (G:h.Ns mainGlobals mg)
  (a:nsIn K mainGlobals x=some (some (.ref f))) (l:K.lookup f=some ⟨oc,od,.func (fnOf x x (Fz st) (Dd st) (Al st) .none kV doc pm an cdv ct),osl⟩) (c:codeIn K cdv x=true) (k:keepIn K (.ref f)=true)
  (hb:∀(kV doc pm:Value) (an:Option Addr) (cdv ct:Value) (us:YE),us.length=ps.length->bindArgs (fnOf x x (Fz st) (Dd st) (Al st) .none kV doc pm an cdv ct) ⟨us,[]⟩=pure (ps.zip us)):Code K mg x st ps:=by
 have F:=f9 (st:=st) l c k;exact⟨f,_,F,mg_of X G a,F.binds hb⟩
theorem Af {H:Hp} {p:Addr} (h:H p=none) (o:HO):Same H (upd H p o):=λb u q=>by rw[Az (Aq q h)];exact q
theorem Bs.plain {X:Cx} {N':YF} {sc:Scope} (kind:sc.kind=.function) (Ge:∀y∈sc.names,y.2≠.cell) (loc:∀y∈sc.names,y.2=.local->sc.names.lookup y.1=some .local) (WQ:∀y∈sc.names,y.2≠.free) :
  Bs X N' (N'.map λ_=>none) sc where
 kind:=kind
 Ge:=Ge
 loc:=loc
 fv:=λy hy e=>absurd e (WQ y hy)
 len:=by simp
 src:=λi x j _ e=>by
  rw[Qbc] at e;cases q:N'[i]? with
  | none=>rw[q] at e;cases e
  | some z=>rw[q] at e;cases e
theorem Js {K:YD} {a l:Addr} {xs:YG} {g:TG} {tt:TT} {te:TE} {Q:VK} {σ0:St} {H0:Hp} (Pv:YN)
  (h0:Pv 0 σ0 H0) (hl:∀i σ H',i<=xs.length->Pv i σ H'->SqT K H' a xs)
  (hs:∀i x σ H',xs[i]?=some x->Pv i σ H'->g x σ H' fun σ3 H3=>tt σ3 H3 λb H4=>if b=true then te σ3 H4 λy H5=>∃ys,H5 l=some (.lst ys)/\ys.length < sizeLine/\Pv (i+1) σ3 (upd H5 l (.lst (ys++[y]))) else Pv (i+1) σ3 H4)
  (hd:∀ σ H',Pv xs.length σ H'->Q (.ref l) H'):G7 (Itt K a) g tt te Q σ0 H0 l:=by
 unfold G7;refine⟨λi m σ H'=>m=xs.length - i/\i<=xs.length/\Pv i σ H',⟨xs.length,by simp,Qcf _,h0⟩,?_⟩;rintro i m σ H' ⟨rfl,hi,p⟩;have q:=hl i σ H' hi p;by_cases hlt:i < xs.length
 ·refine .inr ⟨⟨xs,xs[i],q,by simp[hlt]⟩,Pv (i+1),fun σ3 H3 p'=>⟨xs.length - (i+1),by omega,rq,hlt,p'⟩,λx H2 y=>?_⟩;obtain⟨e,y⟩:=y;subst e;exact hs i x σ _ (y xs q) p
 ·have e:i=xs.length:=by omega
  subst e;exact .inl ⟨⟨xs,q,Qce _⟩,hd σ H' p⟩
theorem Fo {K:YD} {a l:Addr} {xs:YG} {g:TG} {tt:TT} {te:TE} {Q:VK} {σ0:St} {H0:Hp} (Pv:YN)
  (h0:Pv 0 σ0 H0) (hl:∀i σ H',i<=xs.length->Pv i σ H'->SqL K H' a xs)
  (hs:∀i x σ H',xs[i]?=some x->Pv i σ H'->g x σ H' fun σ3 H3=>tt σ3 H3 λb H4=>if b=true then te σ3 H4 λy H5=>∃ys,H5 l=some (.lst ys)/\ys.length < sizeLine/\Pv (i+1) σ3 (upd H5 l (.lst (ys++[y]))) else Pv (i+1) σ3 H4)
  (hd:∀ σ H',Pv xs.length σ H'->Q (.ref l) H'):G7 (Itl K a) g tt te Q σ0 H0 l:=by
 unfold G7;refine⟨λi m σ H'=>m=xs.length - i/\i<=xs.length/\Pv i σ H',⟨xs.length,by simp,Qcf _,h0⟩,?_⟩;rintro i m σ H' ⟨rfl,hi,p⟩;have q:=hl i σ H' hi p;by_cases hlt:i < xs.length
 ·refine .inr ⟨⟨xs,xs[i],q,by simp[hlt]⟩,Pv (i+1),fun σ3 H3 p'=>⟨xs.length - (i+1),by omega,rq,hlt,p'⟩,λx H2 y=>?_⟩;obtain⟨e,y⟩:=y;subst e;exact hs i x σ _ (y xs q) p
 ·have e:i=xs.length:=by omega
  subst e;exact .inl ⟨⟨xs,q,Qce _⟩,hd σ H' p⟩
theorem NK {lo:Int} {n:Nat} {l:Addr} {g:TG} {tt:TT} {te:TE} {Q:VK} {σ0:St} {H0:Hp} (Pv:YN) (h0:Pv 0 σ0 H0)
  (hs:∀i σ H',i < n->Pv i σ H'->g (.int (lo+i)) σ H' fun σ3 H3=>tt σ3 H3 λb H4=>if b=true then te σ3 H4 λy H5=>∃ys,H5 l=some (.lst ys)/\ys.length < sizeLine/\Pv (i+1) σ3 (upd H5 l (.lst (ys++[y]))) else Pv (i+1) σ3 H4)
  (hd:∀ σ H',Pv n σ H'->Q (.ref l) H'):G7 (Itr lo n) g tt te Q σ0 H0 l:=by
 unfold G7;refine⟨λi m σ H'=>m=n - i/\i<=n/\Pv i σ H',⟨n,by simp,Qcf _,h0⟩,?_⟩;rintro i m σ H' ⟨rfl,hi,p⟩;by_cases hlt:i < n
 ·refine .inr ⟨hlt,Pv (i+1),fun σ3 H3 p'=>⟨n - (i+1),by omega,rq,hlt,p'⟩,λx H2 y=>?_⟩;obtain⟨e,y⟩:=y;subst e y;exact hs i σ _ hlt p
 ·have e:i=n:=by omega
  subst e;exact .inl ⟨Qce _,hd σ H' p⟩
section
variable {X:Cx}
theorem Uv (hc:X.calm=true):Dn X (.builtin "max") (λxs H Q=>∃(p:Addr) (ns:List Int),xs=[.ref p]/\SqL X.K H p (ns.map V.int)/\0 < ns.length/\∀M,M∈ns->(∀a,a∈ns->a<=M)->Q (.int M) H):=by
 intro jb s σ H xs us Q I r h;obtain⟨p,ns,rfl,hq,hne,q⟩:=h;obtain⟨u,rfl,rx⟩:=vals1 r;cases rx;obtain⟨its,rv,pl,hz⟩:=I.list hq;have hi:IntsAre its ns:=intsAre_of rv;obtain⟨zs,e⟩:=hi.allInts.items;have hl:=pl.isList;rw[e] at hl;have hns:ns=zs.toList.map (·.1):=by rw[<-hi.numsOf,<-nums_intItems,<-e]
 have hsz:0 < zs.size:=by
  have h3:=hne;rw[hns,Qbw,QaI] at h3;exact h3
 refine max_intList (I.ok.hd hc) hl hsz λv h' tk hv hk=>?_;obtain⟨t,rfl⟩:=intItems_at hv;obtain⟨_,h2⟩:=argBest_gt (numAt zs) (zs.size - 1);refine⟨.int _,H,I.kept hk,⟨t,rq⟩,q _ ?_ λa ha=>?_⟩
 ·rw[hns,numAt_eq];exact getD_mem (by rw[Qbw,QaI];have:=(argBest_gt (numAt zs) (zs.size - 1)).1;omega)
 ·rw[hns] at ha;obtain⟨j,hj,rfl⟩:=mem_getD ha;rw[Qbw,QaI] at hj;rw[<-numAt_eq];exact h2 j (by omega)
theorem fJ:∀{us:YE} {ns:List Int},IntsAre us ns->Vals (ns.map V.int) us:=λh=>Oe h
theorem Xv:Dn X (.builtin "sorted") (λxs H Q=>∃(p:Addr) (ns:List Int),xs=[.ref p]/\SqL X.K H p (ns.map V.int)/\ns.length < 64 /\
  ∀(ms:List Int) l,ms.Perm ns->ms.Pairwise (·<=·)->H l=none->Q (.ref l) (upd H l (.lst (ms.map V.int)))):=by
 intro jb s σ H xs us Q I r h;obtain⟨p,ns,rfl,hq,h64,q⟩:=h;obtain⟨u,rfl,rx⟩:=vals1 r;cases rx;obtain⟨its,rv,pl,hz⟩:=I.list hq;have hi:IntsAre its ns:=intsAre_of rv;have hlen:=hi.length;refine sorted_ints pl.isList hi (by omega) λout ms a1 a2 a3=>?_;obtain⟨e,he⟩:=sortedAll_at s.heap its out;have hml:=a2.length_eq;refine⟨.ref (s.heap.objs.size+1),_,I.laid (t':=s.toks) (o:=.lst (ms.map V.int)) (λb o q=>sortedAll_old q) (Nat.le_succ _) ?_,rq,q ms _ a2 a3 (I.hok.fresh (Nat.le_succ _))⟩;exact⟨by rw[Qbw];exact Nat.le_of_lt (Bb (by omega)),out.toList,e,fJ a1,he⟩
theorem Zg:∀{ys:YF} {us:YE},Vals (ys.map V.str) us->StrsAre us ys
 | [],_,.nil=>.nil
 | y::r,_,.cons h t=>by
  obtain⟨t',e⟩:=(show ∃t,_=Value.str y t from h)
  cases e;exact .cons y t' (Zg t)
def rJoin (K:YD):V->YG->Hp->VK->Prop:=λx vs H Q=>∃(z:Str) (p:Addr) (ys:YF),x=.str z/\vs=[.ref p]/\SqL K H p (ys.map V.str)/\(ys.map (·.length)).sum+ys.length*z.length<=16777216/\Q (.str (Txt.join z ys)) H
theorem Kz:MtR X "str.join" (rJoin X.K):=by
 intro jb s σ H x vs v us Q I rx rv h;obtain⟨z,p,ys,rfl,rfl,hq,hz,q⟩:=h;obtain⟨t,rfl⟩:=rx;obtain⟨u,rfl,ru⟩:=rv.one;cases ru;obtain⟨its,r',pl,_⟩:=I.list hq;exact join_list pl.isList (Zg r') hz λt' k=>⟨.str (Txt.join z ys),H,I.tok k,⟨t',rq⟩,q⟩
def Its (z:Str):It:=⟨λi _=>i < z.cps.size,λi H x H'=>H'=H/\∃c,z.cps[i]?=some c/\x=.str ⟨#[c]⟩,λi _=>i=z.cps.size⟩
def Ap (tl:TE):TI:=fun σ H R=>tl σ H λx H1=>∃z,x=.str z/\R (Its z) H1
end
section
variable {X:Cx} {tg:Expr}
theorem VN {P:Program} {w:World} {K:YD} {tg:Expr} (z:Str) (t:Tok) (it:Addr) (ty:String) (hty:["enumerate","zip","dict_itemiterator","dict_reverseitemiterator","odict_iterator","itertools.zip_longest","itertools.pairwise"].contains ty=false)
  (W:∀A':Around,A'.handled=none->Walks P w A' it [it] [it] z.cps.size (SignAt z) (λi h=>h.IsStrIter it ty z t i))
  (hself:∀(A:Around) (i:Nat) (s:Shared) (Q:YA) (E:YA),s.heap.IsStrIter it ty z t i->Q (.ref it) s->wpAny (model P w) A (pyIter (.ref it)) Q E s) :
  Turn P w K tg (Its z) [it] it (λi h=>h.IsStrIter it ty z t i) where
 mem:=QaQ.mpr rfl
 obj:=λi h st b hb=>by
  cases QaQ.mp hb;obtain⟨o,e,c,d⟩:=st;exact⟨o,e,λv z'=>by rw[d] at z';cases z'⟩
 keep:=λi h h' st k=>by
  obtain⟨o,e,r⟩:=st;exact⟨o,k it (QaQ.mpr rfl) o e,r⟩
 item:=by
  intro X hP hw hK hc i jb s σ H E I hf st hg;subst hP hw hK;obtain⟨f0,f1,f2,f3,f4,f5⟩:=hf it (QaQ.mpr rfl);refine (W X.A (I.ok.hd hc)).item i s _ _ hg st λv h' tk hv st' kk=>?_;obtain⟨c,u,hcu,rfl⟩:=hv;have I1:Inv X jb σ H { s with heap:=h',toks:=tk }:=I.turned (λb o hb e=>kk b o (λhm=>hb (QaQ.mp hm)) e) f0 f1 f3 f4 f5;obtain⟨o,e,cl,d⟩:=id st';exact⟨_,rq,Vt (s:={ s with heap:=h',toks:=tk }) e cl d hty ⟨.str ⟨#[c]⟩,H,I1,⟨u,rq⟩,⟨rq,c,hcu,rq⟩,st',λb hb=>(hf b hb).1⟩⟩
 done:=by
  intro X hP hw hK hc i jb s σ H E I hf st hg;subst hP hw hK;obtain⟨f0,f1,f2,f3,f4,f5⟩:=hf it (QaQ.mpr rfl);cases (show i=z.cps.size from hg)
  exact (W X.A (I.ok.hd hc)).done s _ _ st λh' tk kk=>⟨rq,I.turned (λb o hb e=>kk b o (λhm=>hb (QaQ.mp hm)) e) f0 f1 f3 f4 f5⟩
 self:=λA i s Q E st h=>hself A i s Q E st h
theorem Rx {l:Expr} {tl:TE} (hl:PE X l tl):PI X tg l (Ap tl):=by
 intro jb s σ H R I h;refine thn (hl jb s σ H _ I h) λv s1 zz=>?_;obtain⟨x,H1,I1,r1,z,e,q⟩:=zz;subst e;obtain⟨t,rfl⟩:=r1;have fp:∀o:Obj,∀b∈[s1.heap.objs.size],GD X jb H1 b:=λo b hb=>by
  cases QaQ.mp hb;exact I1.Tw (Qce _) (I1.hok.fresh (Qce _))
 cases ha:z.cps.all (· < 128) with
 | true=>
  refine wpAny_pyIter_ascii ha ?_;exact⟨s1.heap.objs.size,[s1.heap.objs.size],_,_,H1,rq,I1.kept (t':=s1.toks) λb o e=>Qar _ e,VN z t _ "str_ascii_iterator" (by decide) (λA' hA=>Walks.strAscii hA _ z t) (λ_ _ _ _ _ st h=>wpAny_pyIter_striter_ascii st h),
   ⟨_,QaH _ rfl,rq,rq⟩,fp { cls:=.none,data:=.fields #[] },q⟩
 | false=>
  refine wpAny_pyIter_wide ha ?_;exact⟨s1.heap.objs.size,[s1.heap.objs.size],_,_,H1,rq,I1.kept (t':=s1.toks) λb o e=>Qar _ e,VN z t _ "str_iterator" (by decide) (λA' hA=>Walks.strWide hA _ z t) (λ_ _ _ _ _ st h=>wpAny_pyIter_striter_wide st h),
   ⟨_,QaH _ rfl,rq,rq⟩,fp { cls:=.none,data:=.fields #[] },q⟩
theorem Nz {z:Str} {l:Addr} {g:TG} {tt:TT} {te:TE} {Q:VK} {σ0:St} {H0:Hp} (Pv:YN) (h0:Pv 0 σ0 H0)
  (hs:∀i c σ H',z.cps[i]?=some c->Pv i σ H'->g (.str ⟨#[c]⟩) σ H' fun σ3 H3=>tt σ3 H3 λb H4=>if b=true then te σ3 H4 λy H5=>∃ys,H5 l=some (.lst ys)/\ys.length < sizeLine/\Pv (i+1) σ3 (upd H5 l (.lst (ys++[y]))) else Pv (i+1) σ3 H4)
  (hd:∀ σ H',Pv z.cps.size σ H'->Q (.ref l) H'):G7 (Its z) g tt te Q σ0 H0 l:=by
 unfold G7;refine⟨λi m σ H'=>m=z.cps.size - i/\i<=z.cps.size/\Pv i σ H',⟨z.cps.size,by simp,Qcf _,h0⟩,?_⟩;rintro i m σ H' ⟨rfl,hi,p⟩;by_cases hlt:i < z.cps.size
 ·refine .inr ⟨hlt,Pv (i+1),fun σ3 H3 p'=>⟨z.cps.size - (i+1),by omega,rq,hlt,p'⟩,λx H2 y=>?_⟩;obtain⟨e,c,hc,rfl⟩:=y;subst e;exact hs i c σ _ hc p
 ·have e:i=z.cps.size:=by omega
  subst e;exact .inl ⟨rq,hd σ H' p⟩
end
end L2
namespace HT
open PySem PyProof.Rows
section
variable {prog:Program} {w:World} {A:Around} {E:YA} {s:Shared}
theorem Qh {t sl:Addr} {items:Array Value} {vl vu:Value} {lo hi:Option Int} {Q:YA} (ht:IsTup s.heap t items) (hs:s.heap.IsSliceOf sl vl vu .none) (pl:IsPart vl lo) (pu:IsPart vu hi)
  (hw:sIx items.size 0 lo=0/\sIx items.size items.size hi=items.size) (h:Q (.ref t) s):wpAny (model prog w) A (getItem (.ref t) (.ref sl)) Q E s:=by
 obtain⟨os,hos,hcs,hds⟩:=id hs;have hTs:s.TypeIs (.ref sl) "slice":=⟨os,hos,hcs⟩;unfold getItem
 try with_reducible refine QbU ?_
 first | refine Qcj (Qck ?_) | skip
 refine Qcj (wpAny_sequenceKey ht.typeIs (by decide) ?_);refine Qcj (Qao (name:=Str.ofString "__getitem__") ht.typeIs Qab (Qbv Qab ht.typeIs entry_tuple_getitem ?_ (args_tuple_getitem _ _)));show wpAny _ _ (Builtin.Tuple.tupleItemsOf (.ref t) >>= _) _ _ s;refine Qcj (tupleItemsOf_ ht ?_);refine Qcj (wpAny_typeOf hTs ?_);rw[if_pos (by decide)];refine Qcj (KH hs pl pu ?_);rw[hw.1,hw.2];show wpAny _ _ (if (((0:Nat):Int) == 0&&(1:Int) == 1&&(items.size - 0) == items.size)=true then _ else _) _ _ s
 rw[if_pos (by simp)];refine Qcj ?_;unfold Builtin.Tuple.tupleIsExact;refine Qcj (wpAny_typeOf ht.typeIs (Qck ?_));rw[if_pos (by decide)];exact Qcj (wpAny_rule (Qck ⟨_,rq,Qck h⟩))
end
end HT
namespace L2
open PySem PySem.Spec PyProof.Rows
section
variable {X:Cx}
theorem SJ:SlR X (λx lo hi H Q=>∃a xs,x=.ref a/\H a=some (.tup xs)/\∀p H',H' p=some (.tup (Eu xs lo hi))->Same H H'->Q (.ref p) H'):=by
 intro jb s σ H x v vl vu lo hi sl Q I rx hs pl pu h;obtain⟨a,xs,rfl,hx,q⟩:=h;by_cases hw:HT.sIx xs.length 0 lo=0/\HT.sIx xs.length xs.length hi=xs.length
 ·cases rx;obtain⟨its,r,ht,hz⟩:=I.tuple (SqT.of hx);have hlen:its.toArray.size=xs.length:=by rw[Qbb];exact r.length.symm
  refine⟨"tuple",_,Qab.lookup,ht.typeIs,?_⟩;refine HT.Qh ht hs pl pu (by rw[hlen];exact hw) ⟨.ref a,H,I,rq,q a H ?_ (Same.refl H)⟩;have e:Eu xs lo hi=xs:=by unfold Eu;rw[hw.1,hw.2];simp
  rw[e];exact hx
 ·exact rm jb s σ H _ v vl vu lo hi sl Q I rx hs pl pu ⟨a,xs,rq,SqT.of hx,hw,λp hp=>q p _ Ac (λc o e=>by rw[Az (Aq e hp)];exact e)⟩
theorem Gq:SlR X (λx lo hi H Q=>∃z,x=.str z/\z.length<=sizeLine/\Q (.str (Txt.slice z lo hi)) H):=by
 intro jb s σ H x v vl vu lo hi sl Q I rx hs pl pu h;obtain⟨z,rfl,hz,q⟩:=h;obtain⟨t,rfl⟩:=rx;refine⟨"str",_,F.slot_str_getitem.lookup,typeIs_str _ _ _,?_⟩;have fin:∀t' k,EP X jb σ Q (.str (Txt.slice z lo hi) t') { s with toks:=k }:=λt' k=>⟨.str (Txt.slice z lo hi),H,I.tok k,⟨t',rq⟩,q⟩;cases pl with
 | none=>
  cases pu with
  | none=>exact Qap (l:=none) (u:=none) (st:=none) hs rfl (post_val_or_str ⟨Qca (Txt.slice_le z _ _) hz,fin⟩)
  | int j tj=>exact Qap (l:=none) (u:=some (j,tj)) (st:=none) hs rfl (post_val_or_str ⟨Qca (Txt.slice_le z _ _) hz,fin⟩)
 | int i ti=>
  cases pu with
  | none=>exact Qap (l:=some (i,ti)) (u:=none) (st:=none) hs rfl (post_val_or_str ⟨Qca (Txt.slice_le z _ _) hz,fin⟩)
  | int j tj=>exact Qap (l:=some (i,ti)) (u:=some (j,tj)) (st:=none) hs rfl (post_val_or_str ⟨Qca (Txt.slice_le z _ _) hz,fin⟩)
end
theorem Rz {X:Cx} {x:Str} {v:V} {pos:Pos} (hg:Gl X x) (hm:∃u,X.mg x=some u/\RelV v u) (hd:(x == ("__debug__":Str))=false:=by decide):PE X (.Name x pos) (tC v):=by
 obtain⟨u,h,r⟩:=hm;exact DP hg h r hd
def Ba (H H':Hp):Prop:=∀c xs,H c=some (.tup xs)->H' c=some (.tup xs)
theorem Ba.trans {H H1 H2:Hp} (a:Ba H H1) (b:Ba H1 H2):Ba H H2:=λc xs e=>b c xs (a c xs e)
theorem Ba.of {H H1:Hp} (s:Same H H1):Ba H H1:=λc xs e=>s c _ e
theorem Ba.upd {H:Hp} {b:Addr} {o:HO} (h:∀xs,H b≠some (.tup xs)):Ba H (upd H b o):=λc xs e=>by
 have n:c≠b:=λz=>h xs (z ▸ e);rw[Az n];exact e
def Ag (b:Addr) (H H':Hp):Prop:=∀c o,H c=some o->c≠b->H' c=some o
theorem Ag.trans {b:Addr} {H H1 H2:Hp} (x:Ag b H H1) (y:Ag b H1 H2):Ag b H H2:=λc o e n=>y c o (x c o e n) n
theorem Ag.of {b:Addr} {H H1:Hp} (x:Same H H1):Ag b H H1:=λc o e _=>x c o e
theorem Ag.refl (b:Addr) (H:Hp):Ag b H H:=λ_ _ e _=>e
theorem Ag.upd {b:Addr} {H:Hp} {o:HO}:Ag b H (upd H b o):=λc u e n=>by rw[Az n];exact e
theorem Ag.tup {b:Addr} {H H':Hp} (x:Ag b H H') (h:∀xs,H b≠some (.tup xs)):Ba H H':=λc xs e=>x c _ e λz=>h xs (z ▸ e)
theorem Ag.free {b:Addr} {H H':Hp} (x:Ag b H H') (hb:∃o,H' b=some o) {l:Addr} (h:H' l=none):H l=none:=by
 cases e:H l with
 | none=>rfl
 | some o=>
  by_cases n:l=b
  ·obtain⟨o',e'⟩:=hb;rw[n,e'] at h;cases h
  ·rw[x l o e n] at h;cases h
section
variable {X:Cx} {o e value:Expr} {f:Str} {pos pos' tpos:Pos} {ta tv:TE}
end
theorem PS.weak {X:Cx} {s:Stmt} {t t':TS} (h:PS X s t) (i:∀D σ H,t' D σ H->t D σ H):PS X s t':=λjb sh σ H D I q=>h jb sh σ H D I (i D σ H q)
section
variable {X:Cx} {K:YD}
theorem aX (h:X.K=K):OpR X (compareOp .In) (rIn K false):=h ▸ O5
theorem N5 (h:X.K=K):OpR X (compareOp .NotIn) (rIn K true):=h ▸ Ws
end
end L2
namespace PySem
open Sem (wp)
section
variable {prog:Program} {w:World} {A:Around} {E:YA} {s:Shared}
end
end PySem
namespace L2
open PySem PySem.Spec PyProof.Rows
section
variable {X:Cx} {pos:Pos}
end
structure Has (H:Hp) (l:List (Addr×HO)):Prop where
 nd:(l.map (·.1)).Nodup
 at_:∀x∈l,H x.1=some x.2
theorem Has.vV {H:Hp} {l:List (Addr×HO)} {a:Addr} (h:Has H l) (e:H a=none):a∉l.map (·.1):=λz=>by
 obtain⟨x,hx,rfl⟩:=QbY.mp z;rw[h.at_ x hx] at e;cases e
theorem map_set {l:List (Addr×HO)} {i:Nat} {a:Addr} {o:HO}:(l.set i (a,o)).map (·.1)=(l.map (·.1)).set i a:=by rw[List.map_set]
theorem Has.new {H H':Hp} {l:List (Addr×HO)} {a:Addr} {o:HO} (h:Has H l) (n:H a=none) (s:Same H H') (e:H' a=some o):Has H' (l++[(a,o)]):=by
 refine⟨?_,λx hx=>?_⟩
 ·rw[Qbx,Qbh];refine⟨h.nd,by simp,λx hx y hy z=>?_⟩;have:y=a:=by simpa using hy
  subst this;exact h.vV n (z ▸ hx)
 ·rcases Qby.mp hx with z | z
  ·exact s _ _ (h.at_ x z)
  ·have:x=(a,o):=by simpa using z
   subst this;exact e
theorem Has.nil (H:Hp):Has H []:=⟨QbO,λx hx=>by cases hx⟩
theorem Same.CQ {H0 H H':Hp} {a:Addr} (s:Same H0 H) (b:Ag a H H') (f:H0 a=none):Same H0 H':=λc o e=>b _ _ (s _ _ e) λz=>by rw[z,f] at e;cases e
section
variable {κ : Type} [DecidableEq κ]
def Jh (kvs:List (κ×V)) (k:κ):Option V:=(kvs.find? λkv=>decide (kv.1=k)).map (·.2)
def putK (kvs:List (κ×V)) (k:κ) (v:V):List (κ×V):=
 if (kvs.any λkv=>decide (kv.1=k))=true then kvs.map (λkv=>if kv.1=k then (kv.1,v) else kv) else kvs++[(k,v)]
theorem Qq {p:κ×V} {r:List (κ×V)} {k:κ} (e:p.1=k):Jh (p::r) k=some p.2:=by simp[Jh,QbJ,e]
theorem M6 {p:κ×V} {r:List (κ×V)} {k:κ} (e:¬p.1=k):Jh (p::r) k=Jh r k:=by simp[Jh,QbJ,e]
theorem VG (k:κ):∀kvs:List (κ×V),(kvs.any λkv=>decide (kv.1=k))=(Jh kvs k).isSome
 | []=>rfl
 | p::r=>by
  rw[QbX];by_cases e:p.1=k
  ·simp only[Qq e,QbM e,Bool.true_or,Option.isSome_some]
  ·rw[M6 e,Qbz e,Bool.false_or];exact VG k r
theorem Ym (kvs:List (κ×V)) (k:κ) (v:V):(putK kvs k v).length<=kvs.length+1:=by
 unfold putK;split
 ·rw[Qbw];omega
 ·rw[QaM,Qbo,List.length_nil];omega
theorem jA {kvs:List (κ×V)} {k:κ} (v:V) (h:Jh kvs k=none):putK kvs k v=kvs++[(k,v)]:=by
 unfold putK;rw[VG,h];exact if_neg (by decide)
theorem Rb.getD {o:Option V} {u:Option Value} {d:V} {d':Value} (r:Rb o u) (rd:RelV d d'):RelV (o.getD d) (u.getD d'):=by
 cases o with
 | none=>cases u with
  | none=>exact rd
  | some _=>exact (show False from r).elim
 | some _=>cases u with
  | none=>exact (show False from r).elim
  | some _=>exact r
theorem KV.val {kvs:List (κ×V)} {vs:List (κ×Value)} (r:KV kvs vs) (k:κ):Rb (Jh kvs k) (valueAt vs k):=by
 unfold KV at r
 induction r with
 | nil=>exact True.intro
 | @cons p q ps qs h t ih=>
  obtain⟨h1,h2⟩:=h;by_cases e:p.1=k
  ·have e':q.1=k:=h1.symm.trans e;have b:valueAt (q::qs) k=some q.2:=by simp[valueAt,QbJ,e']
   rw[Qq e,b];exact h2
  ·have e':¬q.1=k:=λz=>e (h1.trans z);have b:valueAt (q::qs) k=valueAt qs k:=by simp[valueAt,QbJ,e']
   rw[M6 e,b];exact ih
theorem KV.any {kvs:List (κ×V)} {vs:List (κ×Value)} (r:KV kvs vs) (k:κ):(kvs.any λkv=>decide (kv.1=k))=vs.any λkv=>decide (kv.1=k):=by
 unfold KV at r
 induction r with
 | nil=>rfl
 | cons h t ih=>rw[QbX,QbX,ih,h.1]
theorem KV.repl {kvs:List (κ×V)} {vs:List (κ×Value)} (r:KV kvs vs) (k:κ) {y:V} {u:Value} (ry:RelV y u) :
  KV (kvs.map λkv=>if kv.1=k then (kv.1,y) else kv) (vs.map λkv=>if kv.1=k then (kv.1,u) else kv):=by
 unfold KV at r ⊢
 induction r with
 | nil=>exact .nil
 | @cons p q ps qs h t ih=>
  rw[QbT,QbT];refine .cons ?_ ih;obtain⟨h1,h2⟩:=h;by_cases e:p.1=k
  ·rw[if_pos e,if_pos (h1.symm.trans e)];exact⟨h1,ry⟩
  ·rw[if_neg e,if_neg (λz=>e (h1.trans z))];exact⟨h1,h2⟩
theorem KV.put {kvs:List (κ×V)} {vs:List (κ×Value)} (r:KV kvs vs) (k:κ) {y:V} {u:Value} (ry:RelV y u):KV (putK kvs k y) (stored vs k u):=by
 unfold putK stored;rw[r.any k];by_cases e:(vs.any λkv=>decide (kv.1=k))=true
 ·rw[if_pos e,if_pos e];exact r.repl k ry
 ·rw[if_neg e,if_neg e];exact Qch r ⟨rq,ry⟩
theorem KV.length {kvs:List (κ×V)} {vs:List (κ×Value)} (r:KV kvs vs):kvs.length=vs.length:=QbR r
end
theorem vY {P:Program} {w:World} {k:Key} {u:Value} (r:RelV (kV k) u):(GX P w).is k u=true:=by
 cases k with
 | inl i=>obtain⟨t,e⟩:=(show ∃t,u=Value.int i t from r);subst e;exact Yl P w i t
 | inr x=>obtain⟨t,e⟩:=(show ∃t,u=Value.str x t from r);subst e;exact Yk P w x t
abbrev YL:=List (List Key×V)
abbrev KT (H:Hp):YL->List (List Key×Addr×Value)->Prop:=Paired λp q=>p.1=q.1/\H q.2.1=some (.tup (p.1.map kV))/\RelV p.2 q.2.2
theorem KT.val {H:Hp} {kvs:YL} {xs:List (List Key×Addr×Value)} (r:KT H kvs xs) (k:List Key):Rb (Jh kvs k) ((atKey xs k).map (·.2)):=by
 induction r with
 | nil=>exact True.intro
 | @cons p q ps qs h t ih=>
  obtain⟨h1,_,h2⟩:=h;by_cases e:p.1=k
  ·have e':q.1=k:=h1.symm.trans e;have b:atKey (q::qs) k=some q.2:=by simp[atKey,QbJ,e']
   rw[Qq e,b];exact h2
  ·have e':¬q.1=k:=λz=>e (h1.trans z);have b:atKey (q::qs) k=atKey qs k:=by simp[atKey,QbJ,e']
   rw[M6 e,b];exact ih
theorem KT.keeps {H H':Hp} {kvs:YL} {xs:List (List Key×Addr×Value)} (r:KT H kvs xs) (ht:∀b ys,H b=some (.tup ys)->H' b=some (.tup ys)):KT H' kvs xs:=
 Paired.Cd r λ_ _ z=>⟨z.1,ht _ _ z.2.1,z.2.2⟩
section
variable {P:Program} {w:World} {H:Hp} {h:Heap} {a:Addr}
theorem vJ {u:HO} (ok:HOk P w H h) (e:Rd H a u):Cq P w H h a u:=e.ok ok
abbrev YM:=List (Key×V)
theorem nW {kvs:YM} (ok:HOk P w H h) (e:Rd H a (.dK kvs)):kvs.length<=sizeLine/\(a == sysModules)=false/\∃vs,KV kvs vs/\h.DictOf (GX P w) a vs:=
 show Cq P w H h a (.dK kvs) from vJ ok e
theorem wH {kvs:YM} (ok:HOk P w H h) (e:H a=some (.dK kvs)):kvs.length<=sizeLine/\(a == sysModules)=false/\∃vs,KV kvs vs/\h.DictOf (GX P w) a vs:=nW ok (.inl e)
end
def vg (H:Hp) (a:Addr) (y:V) (r:Option V):Prop:=
 (∃kvs k,Rd H a (.dK kvs)/\y=kV k/\r=Jh kvs k)\/∃kvs k b,Rd H a (.dT kvs)/\y=.ref b/\H b=some (.tup (k.map kV))/\r=Jh kvs k
def vf (H:Hp) (a:Addr) (y v:V) (H':Hp):Prop:=
 (∃kvs k,H a=some (.dK kvs)/\y=kV k/\kvs.length < sizeLine/\H'=upd H a (.dK (putK kvs k v))) \/
 ∃kvs k b,H a=some (.dT kvs)/\y=.ref b/\H b=some (.tup (k.map kV))/\kvs.length < sizeLine/\H'=upd H a (.dT (putK kvs k v))
theorem vg.t {H:Hp} {a b:Addr} {kvs:YL} {k:List Key} (e:H a=some (.dT kvs)) (eb:H b=some (.tup (k.map kV))):vg H a (.ref b) (Jh kvs k):=.inr ⟨kvs,k,b,.inl e,rfl,eb,rfl⟩
theorem vf.t {H:Hp} {a b:Addr} {kvs:YL} {k:List Key} {v:V} (e:H a=some (.dT kvs)) (eb:H b=some (.tup (k.map kV))) (hl:kvs.length < sizeLine) :
  vf H a (.ref b) v (upd H a (.dT (putK kvs k v))):=.inr ⟨kvs,k,b,e,rq,eb,hl,rq⟩
section
variable {X:Cx} {jb:YC} {σ : St} {H:Hp} {s:Shared} {a:Addr} {y v:V} {u r:Value} {o:Option V} {A:Around} {E:YA}
theorem Inv.big (I:Inv X jb σ H s):sysModules < s.heap.objs.size:=by
 have h:mainGlobals < s.heap.objs.size:=(I.mod.glob.keeps I.bk).lt;exact Nat.lt_trans (by decide) h
theorem qu {h':Heap} {t':Nat} {ob:HO} (I:Inv X jb σ H s) (mu:Mut (H a)) (hs:Heap.SameBut a s.heap h') (he:∃q,h'.get? a=some q) (new:Cq X.prog X.w (upd H a ob) h' a ob) :
  Inv X jb σ (upd H a ob) { s with heap:=h',toks:=t' }:=
 I.write (x:=a) (e:=a) mu (.inl rfl) (λb q hb z=>(hs.2 b hb).trans z) he new
theorem uM {P:Program} {w:World} {H':Hp} {h':Heap} {kvs:YM} {vs:List (Key×Value)} (z:kvs.length<=sizeLine) (hd:(a == sysModules)=false) (rel:KV kvs vs) (dd:h'.DictOf (GX P w) a vs) :
  Cq P w H' h' a (.dK kvs):=⟨z,hd,vs,rel,dd⟩
end
section
variable {X:Cx} {jb:YC} {σ : St} {H:Hp} {s:Shared} {a:Addr} {kvs:YM} {k:Key} {u:Value} {A:Around} {E:YA}
theorem wI {Q:YA} (I:Inv X jb σ H s) (e:Rd H a (.dK kvs)) (h:∀t s',Inv X jb σ H s'->Q (.int kvs.length t) s'):wpAny (model X.prog X.w) A (call (.builtin "len") [.ref a]) Q E s:=by
 obtain⟨z,hd,vs,rel,dd⟩:=nW I.hok e;refine call_len_dict hd dd (by rw[<-rel.length];rw[Qci] at z;omega) ?_;rw[<-rel.length];exact h _ _ (I.tok _)
end
section
variable {X:Cx} {o i e value:Expr} {pos pos' tpos:Pos} {td ty tv:TE}
end
theorem mK {P:Program} {w:World} {H:Hp} (h:Heap) (hb:sysModules < h.objs.size):Cq P w H (h.push { cls:=.type "dict",data:=.dict #[] }) h.objs.size (.dK []):=
 ⟨Qcf _,beq_eq_false_iff_ne.mpr (Ne.symm (Qcb hb)),[],.nil,Heap.DictOf.new h⟩
section
variable {X:Cx} {pos:Pos}
end
structure M1 (X:Cx) (o:Expr) (m:Str) (apos:Pos) (e:Expr) (cpos:Pos):Prop where
 base:attributeBase o m X.env (eval o X.env)=eval o X.env
 few:((backTo cpos (starEach [e] X.env)).all (λx=>!x.1)&&(backToKw cpos (keywordEach [] X.env)).all (λx=>x.1.isSome)
 &&decide (([e]:YJ).length+([]:List Keyword).length+(if ([]:List Keyword).isEmpty then 0 else 1) < 30))=true
 line:(apos.endLine == cpos.line)=true
 trees:backTo cpos (starEach [e] X.env)=[(false,eval e X.env)]
section
variable {X:Cx} {jb:YC} {σ : St} {H:Hp} {s:Shared} {a:Addr} {y d:V} {u r:Value} {o:Option V} {A:Around} {E:YA}
end
section
variable {X:Cx} {o e f:Expr} {apos cpos:Pos} {td ty tx:TE}
end
section
variable {X:Cx} {jb:YC} {σ : St} {H:Hp} {s:Shared} {a:Addr} {kvs:YM} {A:Around} {E:YA}
end
section
variable {X:Cx} {jb:YC} {σ : St} {H:Hp} {s:Shared} {a:Addr} {y:V} {u:Value} {A:Around} {E:YA}
end
section
variable {X:Cx}
theorem gJ:Dn X (.builtin "len") (λxs H Q=>∃a kvs,xs=[V.ref a]/\H a=some (.dK kvs)/\Q (.int kvs.length) H):=by
 intro jb s σ H xs us Q I r h;obtain⟨a,kvs,rfl,ha,q⟩:=h;obtain⟨u,rfl,ru⟩:=vals1 r;cases ru;exact wI I (.inl ha) λt s' I'=>⟨.int kvs.length,H,I',⟨t,rq⟩,q⟩
end
section
variable {κ : Type} [DecidableEq κ]
theorem Zy:∀{l:List κ} {k:κ},l.Nodup->¬k∈l->(l++[k]).Nodup
 | [],k,_,_=>by simp
 | a::r,k,h,hk=>by
  obtain⟨h1,h2⟩:=QbI.mp h;show (a::(r++[k])).Nodup;refine QbI.mpr ⟨λm=>?_,Zy h2 λm=>hk (QbQ.mpr (Or.inr m))⟩;rcases Qby.mp m with q | q
  ·exact h1 q
  ·exact hk (QbQ.mpr (Or.inl (QaQ.mp q).symm))
end
theorem cA {prog:Program} {w:World} {A:Around} {R:Result->Shared->Prop} {s:Shared} {kx vx target iter:Expr} {ifs:YJ} {scope:Scope} {pos:Pos} {it:Value} {D:Addr} {env:Env} (J:Nat->Shared->Prop)
  (turn:∀n s,J n s->wpAny (model prog w) A (pyNext it) (λr s1=>match r with
   | none=>R (.ok .next) s1
   | some v=>wpAny (model prog w) A (letOwnedTupleGo target it v) (λ_ s2=>wpAny (model prog w) A (assign target env v) (λ_ s3=>
     wpAny (model prog w) A (forIn ifs true λc r=>if r=true then do let ok <-isTrue c env (eval c env);pure (ForInStep.yield ok) else pure (ForInStep.yield r)) (λok s4=>
      if ok=true then wpAny (model prog w) A (eval kx env) (λkv s5=>wpAny (model prog w) A (eval vx env) (λvv s6=>wpAny (model prog w) A (dictSet D kv vv) (λ_ s7=>∃m,m < n/\J m s7) (λ_ _=>False) s6) (λ_ _=>False) s5) (λ_ _=>False) s4
      else ∃m,m < n/\J m s4) (λ_ _=>False) s3) (λ_ _=>False) s2) (λ_ _=>False) s1) (λ_ _=>False) s)
  (n:Nat) (h:J n s):codeAny (model prog w) A (.compLoop (.DictComp kx vx [⟨target,iter,ifs,0⟩] scope pos) 0 it (.ref D) env) R s:=by
 refine codeAny_loop rfl J (λk s' hk=>?_) n h;show wpAny _ A (Sem.onRaise (compTurn (.DictComp kx vx [⟨target,iter,ifs,0⟩] scope pos) 0 it (.ref D) env) (λx=>do noteFrame x env;theTreesLotGoes x)) _ _ s'
 refine wpAny_noted ?_;rw[compTurn_dict];refine Qcj (QbW (Qcj (Qcl (turn k s' hk) (λr s1 q1=>?_) λ_ _ f=>f.elim)));cases r with
 | none=>exact Qck q1
 | some v=>
  refine Qcj (Qcl q1 (λ_ s2 q2=>Qcj (Qcl q2 (λ_ s3 q3=>Qcj (Qcl q3 (λok s4 q4=>?_) λ_ _ f=>f.elim)) λ_ _ f=>f.elim)) λ_ _ f=>f.elim);cases ok with
  | false=>exact Qck ⟨rfl,q4⟩
  | true=>exact Qcj (Qcj (Qcl q4 (λkv s5 q5=>Qcj (QbU (Qcl q5 (λvv s6 q6=>Qcj (QbW (QbU (Qcl q6 (λ_ s7 q7=>Qck ⟨rfl,q7⟩) λ_ _ f=>f.elim)))) λ_ _ f=>f.elim))) λ_ _ f=>f.elim))
theorem gB {X:Cx} {jb:YC} {σ : St} {H:Hp} {s:Shared} {A:Around} {E:YA} {a:Addr} {kvs:YM} {k:Key} {v:V} {u r:Value} {Q:YH} (I:Inv X jb σ H s) (e:H a=some (.dK kvs)) (l:kvs.length < sizeLine) (ry:RelV (kV k) u) (rv:RelV v r)
  (h:∀s',Inv X jb σ (upd H a (.dK (putK kvs k v))) s'->Q () s'):wpAny (model X.prog X.w) A (dictSet a u r) Q E s:=by
 obtain⟨z,hd,vs,rel,dd⟩:=wH I.hok e;have hz:vs.length<=sizeLine:=by rw[<-rel.length];exact z
 have hl:(putK kvs k v).length<=sizeLine:=by have:=Ym kvs k v;omega
 refine wpAny_dictSet_pairs (hsz:=hz) (vY ry) dd λh' dd' hs=>h _ ?_;have he:∃q,h'.get? a=some q:=let ⟨q,_,_,hq,_⟩:=dd';⟨q,hq⟩;exact qu I (by rw[e];exact True.intro) hs he (uM hl hd (rel.put k rv) dd')
@[irreducible] def Vx (J:It) (g:TG) (tt:TT) (tk tv:TE) (Q:VK) (σ0:St) (H0:Hp) (l:Addr):Prop:=∃W:Nat->YN,(∃m,W 0 m σ0 H0) /\
 ∀i m σ' H',W i m σ' H'->(J.stop i H'/\Q (.ref l) H')\/(J.go i H'/\∃N:YO,(∀ σ3 H3,N σ3 H3->∃m',m' < m/\W (i+1) m' σ3 H3)/\∀x H2,J.yld i H' x H2->g x σ' H2 fun σ3 H3=>tt σ3 H3 λb H4=>
  if b=true then tk σ3 H4 λy H5=>tv σ3 H5 λz H6=>∃(kvs:YM) (k:Key),H6 l=some (.dK kvs)/\y=kV k/\kvs.length < sizeLine/\N σ3 (upd H6 l (.dK (putK kvs k z))) else N σ3 H4)
def dh (wi:TI) (src:List (Option Nat)) (g:TG) (tt:TT) (tk tv:TE):TE:=fun σ H Q=>wi σ H λJ H1=>∀l,H1 l=none->Vx J g tt tk tv Q (Ko src σ) (upd H1 l (.dK [])) l
theorem cB {X:Cx} {N':YF} {src:List (Option Nat)} {sc:Scope} {kx vx tg iter:Expr} {ifs:YJ} {pos pos':Pos} {wi:TI} {g:TG} {tt:TT} {tk tv:TE} {use:Option (Value->Sem Unit)} {R:YA} (hc:X.calm=true) (S:Bs X N' src sc)
  (hi:PI X tg iter wi) (hg:∀s3 H3 fp pn,PG (cxC X N' sc s3 H3 fp pn) tg g) (ht:∀s3 H3 fp pn,PF (cxC X N' sc s3 H3 fp pn) ifs tt) (hk:∀s3 H3 fp pn,PE (cxC X N' sc s3 H3 fp pn) kx tk) (hv:∀s3 H3 fp pn,PE (cxC X N' sc s3 H3 fp pn) vx tv)
  (hs:∀x,foldedSetIterable iter X.env x=pure x) {jb:YC} {s:Shared} {σ : St} {H:Hp} {Q:VK} (I:Inv X jb σ H s) (h:dh wi src g tt tk tv σ H Q)
  (fin:∀s3 H3 fp σ4 H4 s5 l,Inv X jb σ H3 s3->(∀b∈fp,GD X jb H3 b)->Inv (cxC X N' sc s3 H3 fp (X.pn++jb)) [] σ4 H4 s5->Q (.ref l) H4 ->
   compPost (model X.prog X.w) X.A X.xe use R (.ref l) s3.heap.objs.size (.ok .next) s5) :
  wpAny (model X.prog X.w) X.A (comprehension (.DictComp kx vx [⟨tg,iter,ifs,0⟩] sc pos) sc X.env pos' newDict false (eval iter X.env) use) R X.xe s:=by
 refine wpAny_comprehension_free (use:=use) (cl:=Eo X.env sc.names []) rfl hs (RT λp hp e=>I.ok.has p.1 (S.fv p hp e)) S.kind S.loc ?_;refine thn (hi jb s σ H _ I h) λv s1 h1=>thn h1 λitv s2 h2=>?_;obtain⟨it,fp,tn,J,H2,rfl,I2,T,st2,f2,q⟩:=h2;have q':=q s2.heap.objs.size (I2.hok.fresh (Qce _));unfold Vx at q';obtain⟨W,⟨m0,w0⟩,turn⟩:=q';refine Qbg (wpAny_newFunctionEnv S.Ge (by intro y hy;simp at hy) (λha hns hsb=>?_) S.kind);have I3:Inv X jb σ (upd H2 s2.heap.objs.size (.dK [])) { s2 with heap:=s2.heap.push { cls:=.type "dict",data:=.dict #[] } }:=
  I2.laid (t':=s2.toks) (λb u e=>Qar _ e) (Qce _) (mK s2.heap I2.big)
 have hfl:∀b∈fp,b < s2.heap.objs.size:=λb hb=>by
  obtain⟨o,e,_⟩:=T.obj 0 _ st2 b hb;exact QbZ e
 have f3:∀b∈fp,GD X jb (upd H2 s2.heap.objs.size (.dK [])) b:=λb hb=>⟨by rw[Az (Qcb (hfl b hb))];exact (f2 b hb).1,(f2 b hb).2⟩;generalize hs3:({ s2 with heap:=s2.heap.push { cls:=.type "dict",data:=.dict #[] } }:Shared)=s3 at *;have hsz:s2.heap.objs.size < s3.heap.objs.size:=by rw[<-hs3];show s2.heap.objs.size < (s2.heap.push _).objs.size;rw[QbN];exact Nat.lt_succ_self _
 have kp:∀b o,s3.heap.get? b=some o->ha.get? b=some o:=λb o e=>hsb.extBut b o (Qcb (QbZ e)) (Qar _ e);have st3:tn 0 ha:=T.keep 0 _ _ st2 λb hb o e=>kp b o (by rw[<-hs3];exact Qar _ e);have I4:Inv (cxC X N' sc s3 (upd H2 s2.heap.objs.size (.dK [])) fp (X.pn++jb)) [] (Ko src σ) (upd H2 s2.heap.objs.size (.dK [])) { s3 with heap:=ha,toks:=s3.toks+([]:List (Str×Value)).length }:=
  Xn S I3 f3 (λb hb=>Nat.lt_trans (hfl b hb) hsz) hns kp
 have loop:codeAny (model X.prog X.w) X.A (.compLoop (.DictComp kx vx [⟨tg,iter,ifs,0⟩] sc pos) 0 (.ref it) (.ref s2.heap.objs.size) (compEnvC sc (Eo X.env sc.names []) s3.heap.objs.size X.env))
   (compPost (model X.prog X.w) X.A X.xe use R (.ref s2.heap.objs.size) s3.heap.objs.size) { s3 with heap:=ha,toks:=s3.toks+([]:List (Str×Value)).length }:=by
  refine cA (λn s'=>∃i σ' H',Inv (cxC X N' sc s3 (upd H2 s2.heap.objs.size (.dK [])) fp (X.pn++jb)) [] σ' H' s'/\tn i s'.heap/\(∀b∈fp,H' b=none)/\W i n σ' H') ?_ m0 ⟨0,_,_,I4,st3,λb hb=>(f3 b hb).1,w0⟩;rintro n s4 ⟨i,σ4,H4,J4,st4,fr4,w4⟩;have stat:∀{H':Hp},(∀b∈fp,H' b=none)->∀b∈fp,GD (cxC X N' sc s3 (upd H2 s2.heap.objs.size (.dK [])) fp (X.pn++jb)) [] H' b:=λhn b hb=>
   ⟨hn b hb,(I4.ok.exf b hb).1,I4.ok.Kh b hb,.inl hb,λx c e=>(I4.ok.exf b hb).2 x c e,λp hp=>(f3 b hb).2.2.2.2.2 p ((Qby.mp hp).elim id λz=>by cases z)⟩
  rcases turn i n σ4 H4 w4 with⟨stop,qn⟩|⟨go,N,hN,step⟩
  ·refine thn (T.done (cxC X N' sc s3 (upd H2 s2.heap.objs.size (.dK [])) fp (X.pn++jb)) rfl rfl rfl hc i [] s4 σ4 H4 _ J4 (stat fr4) st4 stop) λr s5 zz=>?_;obtain⟨hr,J5⟩:=zz;subst hr;exact fin s3 _ fp σ4 H4 s5 _ I3 f3 J5 qn
  ·refine thn (T.item (cxC X N' sc s3 (upd H2 s2.heap.objs.size (.dK [])) fp (X.pn++jb)) rfl rfl rfl hc i [] s4 σ4 H4 _ J4 (stat fr4) st4 go) λr s5 zz=>?_;obtain⟨u,hr,h5⟩:=zz;subst hr;refine thn h5 λ_ s6 zz=>?_;obtain⟨x,H6,J6,r6,y6,st6,fr6⟩:=zz;have J6':=J6.pinned (stat fr6) (T.obj _ _ st6);have back:∀{pl:YC} {σ7:St} {H7:Hp} {s7:Shared},Inv (cxC X N' sc s3 (upd H2 s2.heap.objs.size (.dK [])) fp (X.pn++jb)) ([]++Mz fp s6.heap) σ7 H7 s7->N σ7 H7 ->
     ∃m',m' < n/\∃i σ' H',Inv (cxC X N' sc s3 (upd H2 s2.heap.objs.size (.dK [])) fp (X.pn++jb)) [] σ' H' s7/\tn i s7.heap/\(∀b∈fp,H' b=none)/\W i m' σ' H':=λ{pl σ7 H7 s7} J7 w7=>by
    obtain⟨m',hm,w7⟩:=hN _ _ w7;have pinned:∀b∈fp,∀o,s6.heap.get? b=some o->s7.heap.get? b=some o/\H7 b=none:=λb hb o e=>by
     have:=J7.pin (b,o) (Qaw _ (Qaw _ (Kr hb e)));exact⟨this.1,this.2.1⟩
    refine⟨m',hm,i+1,σ7,H7,J7.Ji,T.keep _ _ _ st6 λb hb o e=>(pinned b hb o e).1,λb hb=>?_,w7⟩;obtain⟨o,e,_⟩:=T.obj _ _ st6 b hb;exact (pinned b hb o e).2
   refine thn (hg s3 _ fp _ _ s6 σ4 H6 x u _ J6' r6 (step x H6 y6)) λ_ s7 zz=>?_;obtain⟨σ7,H7,J7,q7⟩:=zz;refine thn (ht s3 _ fp _ _ s7 σ7 H7 _ J7 q7) λok s8 zz=>?_;obtain⟨H8,J8,q8⟩:=zz;cases ok with
   | false=>
    rw[if_neg QaR] at q8 ⊢;exact back (pl:=[]) J8 q8
   | true=>
    rw[if_pos rfl] at q8 ⊢;refine thn (hk s3 _ fp _ _ s8 σ7 H8 _ J8 q8) λy s9 zz=>?_;obtain⟨yv,H9,J9,r9,q9⟩:=zz;refine thn (hv s3 _ fp _ _ s9 σ7 H9 _ J9 q9) λz s10 zz=>?_;obtain⟨zv,H10,J10,r10,kvs,k,hl,ey,hz,q10⟩:=zz;subst ey;refine gB (X:=cxC X N' sc s3 (upd H2 s2.heap.objs.size (.dK [])) fp (X.pn++jb)) J10 hl hz r9 r10 λs11 J11=>?_;exact back (pl:=[]) J11 q10
 exact codeAny_compStart_dict loop (T.self X.A 0 _ _ _ st3 loop)
theorem jK {X:Cx} {N':YF} {src:List (Option Nat)} {sc:Scope} {kx vx tg iter:Expr} {ifs:YJ} {pos:Pos} {wi:TI} {g:TG} {tt:TT} {tk tv:TE} (hc:X.calm=true) (S:Bs X N' src sc)
  (hi:PI X tg iter wi) (hg:∀s3 H3 fp pn,PG (cxC X N' sc s3 H3 fp pn) tg g) (ht:∀s3 H3 fp pn,PF (cxC X N' sc s3 H3 fp pn) ifs tt) (hk:∀s3 H3 fp pn,PE (cxC X N' sc s3 H3 fp pn) kx tk) (hv:∀s3 H3 fp pn,PE (cxC X N' sc s3 H3 fp pn) vx tv)
  (hs:∀x,foldedSetIterable iter X.env x=pure x:=by intro _;rfl):PE X (.DictComp kx vx [⟨tg,iter,ifs,0⟩] sc pos) (dh wi src g tt tk tv):=by
 intro jb s σ H Q I h;rw[arm_eval_DictComp];refine cB (use:=none) hc S hi hg ht hk hv hs I h λs3 H3 fp σ4 H4 s5 l I3 f3 J5 q=>?_;obtain⟨m,hn,_⟩:=J5.loc;exact⟨m,hn,λh' sb=>⟨.ref l,H4,Xo I3 f3 J5 sb,rq,q⟩⟩
end L2
namespace PySem
open Sem (wp)
section
variable {prog:Program} {w:World} {A:Around} {E:YA} {s:Shared}
theorem Lk {it l:Addr} {i:Nat} {items:Array Value} {x:Value} {Q:YA} (hit:s.heap.IsTupleIter it l i) (hl:s.heap.IsTuple l items) (hx:items[i]?=some x)
  (hQ:∀h',h'.IsTupleIter it l (i+1)->Heap.SameBut it s.heap h'->Q x { s with heap:=h' }):wpAny (model prog w) A (Builtin.SmallTypes.nextOf (.ref it)) Q E s:=by
 obtain⟨o,ho,hc,hd⟩:=id hit;obtain⟨ol,hol,_,nl,hdl⟩:=hl;unfold Builtin.SmallTypes.nextOf;refine Qcj (Qao (name:=Str.ofString "__next__") hit.typeIs Qaa (Qbv Qaa hit.typeIs PyProof.Rows.entry_tupleiter_next ?_ (PyProof.Rows.args_tupleiter_next _)));show wpAny _ _ (field (.ref it) 0 >>= _) _ _ s;refine Qcj (Qcg ho hd (x:=.ref l) rfl ?_);show wpAny _ _ (if (Value.ref l == Value.none)=true then _ else _) _ _ s
 rw[if_neg (show ¬((Value.ref l == Value.none)=true) from QaR)]
 show wpAny _ _ (field (.ref it) 1 >>= _) _ _ s;refine Qcj (Qcg ho hd (x:=.int i 0) rfl ?_);show wpAny _ _ (seqItems? (.ref l) >>= _) _ _ s;refine Qcj (QbP hol hdl ?_);simp only[Qbj,hx];refine Qcj (wpAny_setField ho hd (by simp) (Qck ⟨x,rq,Qck (hQ _ ?_ (Heap.SameBut.update ..))⟩));exact⟨_,Qay _ ho (Obj.isFreed_of_fields (Obj.data_mapFields hd _)),(Obj.cls_mapFields ..).trans hc,by rw[Obj.data_mapFields hd];simp[rawInt]⟩
theorem Jo {it l:Addr} {i:Nat} {items:Array Value} {Q:YA} (hh:A.handled=none) (hit:s.heap.IsTupleIter it l i) (hl:s.heap.IsTuple l items) (hx:items[i]?=none)
  (hE:∀h' e,Heap.ExtBut it s.heap h'->(∃o,h'.get? e=some o/\o.cls=.type "StopIteration")->E (.ref e) { s with heap:=h' }):wpAny (model prog w) A (Builtin.SmallTypes.nextOf (.ref it)) Q E s:=by
 obtain⟨o,ho,hc,hd⟩:=id hit;obtain⟨ol,hol,_,nl,hdl⟩:=hl;unfold Builtin.SmallTypes.nextOf;refine Qcj (Qao (name:=Str.ofString "__next__") hit.typeIs Qaa (Qbv Qaa hit.typeIs PyProof.Rows.entry_tupleiter_next ?_ (PyProof.Rows.args_tupleiter_next _)));show wpAny _ _ (field (.ref it) 0 >>= _) _ _ s;refine Qcj (Qcg ho hd (x:=.ref l) rfl ?_);show wpAny _ _ (if (Value.ref l == Value.none)=true then _ else _) _ _ s
 rw[if_neg (show ¬((Value.ref l == Value.none)=true) from QaR)]
 show wpAny _ _ (field (.ref it) 1 >>= _) _ _ s;refine Qcj (Qcg ho hd (x:=.int i 0) rfl ?_);show wpAny _ _ (seqItems? (.ref l) >>= _) _ _ s;refine Qcj (QbP hol hdl ?_);simp only[Qbj,hx];refine Qcj (wpAny_rule (Qcj (wpAny_setField ho hd (by simp) ?_)));show wpAny _ _ (newExc (.type "StopIteration") [] >>= _) _ _ _;refine Qcj ?_;simp only[newExc,newTuple];refine Qcj (Qbg ?_ (by size_fits));refine Qcj (m:=firstArgMember _ _) (wpAny_of_eq (a:=Value.none) (by first | rfl | (simp only[firstArgMember];rfl)) ?_)
 refine Qbg ?_ (by size_fits);simp only[raiseNew];refine Qcj (wpAny_handled ?_)
 first | rw[show A.in1.handled=none from hh] | rw[hh]
 refine Qcj (Qck (wpAny_throw ?_));exact hE _ _ (((Heap.SameBut.update ..).extBut.push _).push _) ⟨_,QaH _ rfl,rq⟩
theorem Xi {e it l:Addr} {i:Nat} {j:Int} {items:Array Value} {old:Value} {Q:Option Value->Shared->Prop} (hh:A.handled=none) (he:IsEnum s.heap e it j old) (hit:s.heap.IsTupleIter it l i) (hl:s.heap.IsTuple l items) (hx:items[i]?=none)
  (hQ:∀h',Heap.ExtBut it s.heap h'->Q none { s with heap:=h' }):wpAny (model prog w) A (pyNext (.ref e)) Q E s:=by
 have hT:s.TypeIs (.ref e) "enumerate":=⟨_,he,rq⟩;unfold pyNext;refine Qcj (wpAny_attempt (Qao (name:=Str.ofString "__next__") hT F.slot_enumerate_next (Qbv F.slot_enumerate_next hT F.entry_enumerate_next ?_ (F.args_enumerate_next_1 _))));show wpAny _ _ (field (.ref e) 2 >>= _) _ _ _;refine Qcj (Qcg he rfl (x:=.ref it) rfl (Qcj (Jo hh hit hl hx λh' x he' hx'=>?_)));obtain⟨o,ho,hc⟩:=hx';exact Qcj (wpAny_isInstance (T:="StopIteration") (b:=true) ⟨o,ho,hc⟩ isSubtype_stop (Qck (hQ _ he')))
end
theorem Draws.tup {prog:Program} {w:World} {A:Around} (hh:A.handled=none) (it l:Addr) (hne:l≠it) (items:Array Value) :
  Draws prog w A it [it,l] items.size (λi v=>items[i]?=some v) (λi h=>h.IsTupleIter it l i/\h.IsTuple l items) where
 live:=λ_ _ st=>let ⟨o,ho,_⟩:=st.1;⟨o,ho⟩
 frame:=λ_ _ _ st hk=>⟨st.1.at λo e=>hk it (by simp) o e,let ⟨o,e,r⟩:=st.2;⟨o,hk l (by simp) o e,r⟩⟩
 item:=λi s Q E hi st hQ=>Lk st.1 st.2 (x:=items[i]) (by simp[hi]) λh' hit' hs'=>hQ _ h' s.toks (by simp[hi]) ⟨hit',let ⟨o,e,r⟩:=st.2;⟨o,hs'.extBut _ _ hne e,r⟩⟩ hs'
 done:=λs Q E st hE=>Jo hh st.1 st.2 (by simp) hE
theorem Draws.from {prog:Program} {w:World} {A:Around} {it:Addr} {fp:List Addr} {n:Nat} {P:Nat->Value->Prop} {St:Nat->Heap->Prop} (D:Draws prog w A it fp n P St) (k:Nat) :
  Draws prog w A it fp (k+n) (λj v=>∃i,j=k+i/\P i v) (λj h=>∃i,j=k+i/\i<=n/\St i h) where
 live:=λ_ _ ⟨i,_,_,st⟩=>D.live i _ st
 frame:=λ_ _ _ ⟨i,e,hi,st⟩ hk=>⟨i,e,hi,D.frame i _ _ st hk⟩
 item:=λj s Q E hj ⟨i,e,hi,st⟩ hQ=>D.item i s Q E (by omega) st λx h' tk p st' sb=>hQ x h' tk ⟨i,e,p⟩ ⟨i+1,by omega,by omega,st'⟩ sb
 done:=λs Q E ⟨i,e,hi,st⟩ hE=>by
  have:i=n:=by omega
  subst this;exact D.done s Q E st hE
end PySem
namespace L2
open PySem PySem.Spec PyProof.Rows
section
variable {X:Cx} {jb:YC} {σ : St} {H:Hp} {s:Shared} {h':Heap}
theorem Inv.T8 {t':Nat} {fp:List Addr} {t:Addr} {o:HO} (I:Inv X jb σ H s) (ht:s.heap.objs.size<=t) (k:∀b u,b∉fp->s.heap.get? b=some u->h'.get? b=some u) (hf:∀b∈fp,GD X jb H b) (new:Cq X.prog X.w (upd H t o) h' t o) :
  Inv X jb σ (upd H t o) { s with heap:=h',toks:=t' }:=by
 have nt:=I.hok.fresh ht;have old:∀b u,s.heap.get? b=some u->b≠t:=λb u e z=>absurd (QaS (QbZ e) ht) (by rw[z];exact QbV _);have nf:∀b u,H b=some u->b∉fp:=λb u e z=>by rw[(hf b z).1] at e;cases e
 have tr:∀b u,H b=some u->(upd H t o) b=some u:=λb u e=>by rw[Az (Aq e nt)];exact e
 refine I.step (g':=s.gens) (d':=s.drawn) (ch:=fp) (λb hb=>?_) (λb u _ _ hc e _=>k b u hc e) (λb u _ _ hc e _=>⟨u.slots,k b u hc e⟩) (λb u hc e n=>by rw[Az (old b u e)];exact n)
  (λb u hc e=>⟨u,k b u hc e⟩) (λ_ _ e=>tr _ _ e) (λ_ _ _ e=>tr _ _ e) (λb ps e=>⟨#[],by rw[tr _ _ e];simp⟩) (λm hm=>?_) (λb u e=>?_) I.bare
 ·obtain⟨_,f1,_,f3,f4,f5⟩:=hf b hb;exact⟨f3,f1,f4,f5⟩
 ·obtain⟨u,es,ep,hu,r⟩:=hm;exact⟨u,es,ep,k _ u (λz=>(hf _ z).2.1 rfl) hu,r⟩
 ·by_cases hb:b=t
  ·subst hb;rw[Ac] at e;cases e;exact new
  ·rw[Az hb] at e;refine (I.hok b u e).stay (λc v hc q=>k c v ?_ q) (λc q=>tr _ _ q) λc xs q=>tr _ _ q;rcases hc with z | z
   ·rw[z];exact nf b u e
   ·exact nf c _ z
theorem Inv.Ze {t':Nat} {fp:List Addr} (I:Inv X jb σ H s) (k:∀b u,b∉fp->s.heap.get? b=some u->h'.get? b=some u) (hf:∀b∈fp,GD X jb H b):Inv X jb σ H { s with heap:=h',toks:=t' }:=by
 have nf:∀b u,H b=some u->b∉fp:=λb u e z=>by rw[(hf b z).1] at e;cases e
 refine I.step (g':=s.gens) (d':=s.drawn) (ch:=fp) (λb hb=>?_) (λb u _ _ hc e _=>k b u hc e) (λb u _ _ hc e _=>⟨u.slots,k b u hc e⟩) (λb u hc e n=>n)
  (λb u hc e=>⟨u,k b u hc e⟩) (λ_ _ e=>e) (λ_ _ _ e=>e) (λb ps e=>⟨#[],by rw[e];simp⟩) (λm hm=>?_) (λb u e=>?_) I.bare
 ·obtain⟨_,f1,_,f3,f4,f5⟩:=hf b hb;exact⟨f3,f1,f4,f5⟩
 ·obtain⟨u,es,ep,hu,r⟩:=hm;exact⟨u,es,ep,k _ u (λz=>(hf _ z).2.1 rfl) hu,r⟩
 ·refine (I.hok b u e).stay (λc v hc q=>k c v ?_ q) (λ_ q=>q) λ_ _ q=>q;rcases hc with z | z
  ·rw[z];exact nf b u e
  ·exact nf c _ z
end
def Mr (K:YD) (a:Addr) (lo:Nat):It:=
 ⟨λi H=>∃xs x,SqT K H a xs/\xs[i]?=some x,λi H v H'=>∃p x,H p=none/\v=.ref p/\H'=upd H p (.tup [.int ((lo+i:Nat):Int),x])/\∀xs,SqT K H a xs->xs[i]?=some x,λi H=>∃xs,SqT K H a xs/\xs.length<=i⟩
theorem aq {P:Program} {w:World} {K:YD} {elts:YJ} {k:Nat} {pos:Pos} (a e it:Addr) (lo:Nat) (nei:e≠it):Turn P w K (.Tuple elts k pos) (Mr K a lo) [e,it] e (λi h=>(∃old,IsEnum h e it ((lo+i:Nat):Int) old)/\h.IsTupleIter it a i) where
 mem:=by simp
 obj:=λi h st b hb=>by
  obtain⟨⟨old,he⟩,o,ho,hc,hd⟩:=st;rcases QbQ.mp hb with rfl | hb
  ·exact⟨_,he,λv z=>by cases (show Data.fields _=Data.cell v from z)⟩
  ·have:b=it:=by simpa using hb
   subst this;exact⟨o,ho,λv z=>by rw[hd] at z;cases z⟩
 keep:=λi h h' st k=>by
  obtain⟨⟨old,he⟩,hi⟩:=st;exact⟨⟨old,k e (by simp) _ he⟩,hi.at λo q=>k it (by simp) o q⟩
 item:=by
  intro X hP hw hK hc i jb s σ H E I hf st hg;subst hP hw hK;obtain⟨xs,x,hq,hx⟩:=hg;obtain⟨its,rv,p,hz⟩:=I.tuple hq;obtain⟨u,hu,ru⟩:=rv.get hx;obtain⟨⟨old,he⟩,hit⟩:=st;have hts:s.heap.IsTuple a its.toArray:=p;have ane:a≠e:=λz=>by
   obtain⟨o,ho,hcl,_⟩:=hts;rw[z,he] at ho;cases ho;injection hcl with q;exact absurd q (by decide)
  have ani:a≠it:=λz=>by
   obtain⟨o,ho,hcl,_⟩:=hts;obtain⟨o',ho',hcl',_⟩:=hit;rw[z,ho'] at ho;cases ho;rw[hcl'] at hcl;injection hcl with q;exact absurd q (by decide)
  have hlt:i < its.toArray.size:=by
   have:=(Qaf.mp hu).1;simpa using this
  have D:=(Draws.tup (prog:=X.prog) (w:=X.w) (A:=X.A.in1) (I.ok.hd hc) it a ani its.toArray).from lo;refine wpAny_pyNext_enum_itemD D he ⟨i,rq,Nat.le_of_lt hlt,hit,hts⟩ (by omega) nei (by simp[nei,ane.symm]) λy h1 tk hP ho hst hT hsz hk=>?_;obtain⟨i',ei,hy⟩:=hP;have:i'=i:=by omega
  subst this;have ey:y=u:=by
   have h2:its.toArray[i']?=some u:=by simpa using hu
   rw[h2] at hy;exact (QbB hy).symm
  subst ey;refine⟨_,rq,wpAny_letOwnedTupleGo_enum ho λh2 he2 hs2=>?_⟩;have hlt2:s.heap.objs.size≠e:=Qcd (QbZ he);have hT2:h2.get? s.heap.objs.size=some { cls:=.type "tuple",data:=.seq #[.int ((lo+i':Nat):Int) tk,y] }:=(hs2.2 _ hlt2).trans hT;have new:Cq X.prog X.w (upd H s.heap.objs.size (.tup [.int ((lo+i':Nat):Int),x])) h2 s.heap.objs.size (.tup [.int ((lo+i':Nat):Int),x]):=
   ⟨by show 2<=sizeLine;decide,[.int ((lo+i':Nat):Int) tk,y],.cons ⟨tk,rq⟩ (.cons ru .nil),_,hT2,rq,0,rq⟩
  have I1:=I.T8 (h':=h2) (t':=tk+1) (Qce _) (λb q hb z=>(hs2.2 b (λw=>hb (by simp[w]))).trans (hk b q (λw=>hb (by simp[w])) (λw=>hb (by simp[w])) z)) hf new;refine⟨.ref s.heap.objs.size,_,I1,rq,⟨s.heap.objs.size,x,I.hok.fresh (Qce _),rq,rq,λys hy'=>by rw[I.T9 hy' hq];exact hx⟩,⟨⟨y,?_⟩,?_⟩,λb hb=>?_⟩
  ·have:=he2;rw[show ((lo+(i'+1):Nat):Int)=((lo+i':Nat):Int)+1 by omega];exact this
  ·obtain⟨i2,e2,_,st2,_⟩:=hst;have:i2=i'+1:=by omega
   subst this;exact st2.at λo q=>(hs2.2 it (Ne.symm nei)).trans q
  ·have hb':b < s.heap.objs.size:=by
    rcases QbQ.mp hb with rfl | hb
    ·exact QbZ he
    ·have:b=it:=by simpa using hb
     subst this;obtain⟨o,ho',_⟩:=hit;exact QbZ ho'
   rw[Az (Qcb hb')];exact (hf b hb).1
 done:=by
  intro X hP hw hK hc i jb s σ H E I hf st hg;subst hP hw hK;obtain⟨xs,hq,hx⟩:=hg;obtain⟨its,rv,p,hz⟩:=I.tuple hq;obtain⟨⟨old,he⟩,hit⟩:=st;have hl:=rv.length;exact Xi (I.ok.hd hc) he hit (show s.heap.IsTuple a its.toArray from p) (by simp;omega) λh' eb=>⟨rq,I.Ze (t':=s.toks) (λb o hb q=>eb b o (λz=>hb (by simp[z])) q) hf⟩
 self:=λ_ _ _ _ _ st h=>let ⟨⟨_,he⟩,_⟩:=st;wpAny_pyIter_enum he h
end L2
namespace PySem
open Sem (wp)
open AutoSeq1 (wpAny_loadPart')
theorem Tp (l:Addr) (items:Array Value) (n:Nat) (dct:Option Addr) (sl:YI) :
  Meets (Builtin.«enumerate.__new__» ⟨[.type "enumerate",.ref l],[]⟩) (λ_ R s=>s.heap.get? l=some { cls:=.type "tuple",dict:=dct,data:=.seq items n,slots:=sl } /\
   R (.ok (.ret (.ref (s.heap.push { cls:=.type "tuple_iterator",data:=.fields #[.ref l,.int 0 0] }).objs.size)))
    { s with heap:=(s.heap.push { cls:=.type "tuple_iterator",data:=.fields #[.ref l,.int 0 0] }).push { cls:=.type "enumerate",data:=.fields #[.none,.bool false,.ref s.heap.objs.size,rawInt 0,.none,.none] } }):=
 .of_wp λprog w A R s h=>by
  obtain⟨hp,g,d,tk,os⟩:=s;obtain⟨hl,h⟩:=h;have hsub:=sub_enumerate;have hL:Heap.IsTuple (Shared.heap ⟨hp,g,d,tk,os⟩) l items:=⟨_,hl,rq,n,rq⟩
  wp_walk using wpAny_loadPart' hl
  refine wpAny_stack_any λst=>Qck ?_;split
  ·rename_i c _ _ _ _ _;cases (c == Value.type "enumerate")
   ·wp_walk using wpAny_loadPart' hl,QaU hL
    exact⟨_,rq,h⟩
   ·wp_walk using wpAny_loadPart' hl,QaU hL
    exact⟨_,rq,h⟩
  ·wp_walk using wpAny_loadPart' hl,QaU hL
   exact⟨_,rq,h⟩
theorem RJ (l:Addr) (items:Array Value) (n:Nat) (dct:Option Addr) (sl:YI) (t:Tok) :
  Meets (Builtin.«enumerate.__new__» ⟨[.type "enumerate",.ref l],[("start",.int 1 t)]⟩) (λ_ R s=>s.heap.get? l=some { cls:=.type "tuple",dict:=dct,data:=.seq items n,slots:=sl } /\
   R (.ok (.ret (.ref (s.heap.push { cls:=.type "tuple_iterator",data:=.fields #[.ref l,.int 0 0] }).objs.size)))
    { s with heap:=(s.heap.push { cls:=.type "tuple_iterator",data:=.fields #[.ref l,.int 0 0] }).push { cls:=.type "enumerate",data:=.fields #[.none,.bool false,.ref s.heap.objs.size,rawInt 1,.none,.none] } }):=
 .of_wp λprog w A R s h=>by
  obtain⟨hp,g,d,tk,os⟩:=s;obtain⟨hl,h⟩:=h;have hsub:=sub_enumerate;have hL:Heap.IsTuple (Shared.heap ⟨hp,g,d,tk,os⟩) l items:=⟨_,hl,rq,n,rq⟩
  wp_walk using wpAny_loadPart' hl
  refine wpAny_stack_any λst=>Qck ?_;split
  ·rename_i c _ _ _ _ _;cases (c == Value.type "enumerate")
   ·wp_walk using wpAny_loadPart' hl,QaU hL
    exact⟨_,rq,h⟩
   ·wp_walk using wpAny_loadPart' hl,QaU hL
    exact⟨_,rq,h⟩
  ·wp_walk using wpAny_loadPart' hl,QaU hL
   exact⟨_,rq,h⟩
end PySem
namespace PySem
open Sem (wp)
section
variable {prog:Program} {w:World} {A:Around} {E:YA} {s:Shared}
theorem Te {T newId:String} {self:Value} {rest:YE} {kw:List (Str×Value)} (hl:typeLookup (.type T) "__init__"=pure (some (.builtin "object.__init__")))
  (hm:Bind.madeBy (.type T)=pure (some newId)) (hne:(some newId != some "object.__new__")=true) :
  Meets (Builtin.«object.__init__» ⟨self::rest,kw⟩) (λ_ R s=>s.TypeIs self T/\R (.ok (.ret .none)) s):=by
 refine Meets.of_wp λprog w A R s hs=>?_;obtain⟨hT,hq⟩:=hs;cases rest with
 | nil=>
  cases kw with
  | nil=>exact Qck ⟨_,rfl,hq⟩
  | cons k kw=>
   repeat (any_goals (first | assumption | wp_step))
   exact⟨_,rq,hq⟩
 | cons a rest=>
  repeat (any_goals (first | assumption | wp_step))
  exact⟨_,rq,hq⟩
theorem gQ {T newId:String} {Bn:Builtin} {args:YE} {kw:List (Str×Value)} {S:Spec} {Q:YA} (ft:TypeCalled T newId "object.__init__") (hne:(some newId != some "object.__new__")=true)
  (hct:checkTypeCall T ⟨args,kw⟩=pure ()) (hcn:checkBuiltinCall newId ⟨.type T::args,kw⟩=pure ()) (hok:∀obj,argsOk "object.__init__" ⟨obj::args,kw⟩)
  (entryN:entryFor table newId=some Bn) (g:Meets (Bn ⟨.type T::args,kw⟩) S) (h:S A.in1 (wants (λobj s₁=>s₁.TypeIs obj T/\Q obj s₁) E) s) :
  wpAny (model prog w) A (call (.type T) args kw) Q E s:=by
 obtain⟨c,tl,hmro⟩:=ft.mro;have hmade:=ft.made;have hsub:=ft.sub;refine wpAny_call (codeAny_of_tree ?_);show wpAny _ _ (callAny (.type T) _) _ _ _;refine Qck ⟨Code.quiet_builtin _ (by trivial),codeAny_builtin F.entry_type_call ?_⟩;rw[Around.under_plain (weight_type_call_type T args kw) (units_type_call_type T args kw)];have h1:=ft.notType;have h2:=ft.canCreate
 repeat (any_goals (first | assumption | wp_step))
 refine codeAny_mono (codeAny_call_builtin ft.plain entryN (wpAny_of_eq hcn (g prog w A.in1 _ s h))) λr s₁ hr=>?_;cases r with
 | error e=>exact hr
 | ok fl=>
  cases fl with
  | ret obj=>
   obtain⟨hT,hq⟩:=hr;have hli:=ft.init.lookup;have hbi:=ft.init.bind obj
   repeat (any_goals (first | assumption | wp_step))
   refine codeAny_mono (codeAny_call_builtin ft.init.plain F.entry_object_init (ft.init.check _ _ _ _ _ _ _ _ hT (hok obj) (Te ft.init.lookup ft.made hne prog w A.in1 (wants (λr s₂=>r=.none/\Q obj s₂) E) s₁ ⟨hT,rq,hq⟩))) λr₂ s₂ hr₂=>?_;cases r₂ with
   | error e=>exact hr₂
   | ok fl₂=>
    cases fl₂ with
    | ret r=>
     obtain⟨rfl,hq2⟩:=hr₂
     repeat (any_goals (first | assumption | wp_step))
    | _=>exact hr₂.elim
  | _=>exact hr.elim
end
end PySem
namespace PyProof.Rows
open PySem
section
variable {M:Model} {A:Around} {E:YA} {s:Shared} {env:Env}
theorem RV {pos:Pos} {T:String} {e:Expr} {rest:YJ} {kws:List Keyword} {Q:YA}
  (h:wpAny M A (spliced (backTo pos (starEach (e::rest) env))) (λvs s₁=>wpAny M A (evalAll ((backToKw pos (keywordEach kws env)).map (·.2))) (λkvs s₂=>wpAny M A (call (.type T) vs (((backToKw pos (keywordEach kws env)).filterMap (·.1)).zip kvs)) Q E s₂) E s₁) E s)
  (he:backTo pos (starEach (e::rest) env)=(false,eval e env)::backTo pos (starEach rest env):=by rfl) (hplain:(backTo pos (starEach (e::rest) env)).any (·.1)=false:=by rfl)
  (hall:(backToKw pos (keywordEach kws env)).all (·.1.isSome)=true:=by rfl) (hkw:(backToKw pos (keywordEach kws env)).any (·.1.isNone)=false:=by rfl) :
  wpAny M A (callWith pos (.type T) [] (backTo pos (starEach (e::rest) env)) (backToKw pos (keywordEach kws env))) Q E s:=by
 have h2:wpAny M A (evalArgs (.type T) true (backTo pos (starEach (e::rest) env)) (backToKw pos (keywordEach kws env))) (λa s₁=>wpAny M A (call (.type T) ([]++a.pos) a.kw) Q E s₁) E s:=by
  rw[he] at h ⊢;exact evalArgs_kwB hall h
 unfold callWith;refine Qcj (QbU (Qcl h2 (λa s₁ h₁=>Qcj (QbW ?_)) λ_ _ x=>x));simp only[hplain,hkw,Bool.or_false];exact Qcj (Qck (Qcj (Qcl h₁ (λr s₂ hr=>Qcj (QbU (wpAny_point (Qck hr)))) λ_ _ x=>x)))
end
end PyProof.Rows
namespace L2
open PySem PySem.Spec PyProof.Rows
section
variable {X:Cx}
theorem ZP {jb:YC} {σ : St} {H:Hp} {s:Shared} {R:It->Hp->Prop} {E:YA} {elts:YJ} {k:Nat} {pos:Pos} {a:Addr} {lo:Nat} {tk:Nat} (I:Inv X jb σ H s) (q:R (Mr X.K a lo) H) :
  wpAny (model X.prog X.w) X.A (pyIter (.ref (s.heap.objs.size+1))) (PIE X jb σ (.Tuple elts k pos) R) E
   { s with heap:=(s.heap.push { cls:=.type "tuple_iterator",data:=.fields #[.ref a,.int 0 0] }).push { cls:=.type "enumerate",data:=.fields #[.none,.bool false,.ref s.heap.objs.size,rawInt (lo:Int),.none,.none] },toks:=tk }:=by
 have hz:(s.heap.push { cls:=.type "tuple_iterator",data:=.fields #[.ref a,.int 0 0] }).objs.size=s.heap.objs.size+1:=QbN ..;have he:IsEnum ((s.heap.push { cls:=.type "tuple_iterator",data:=.fields #[.ref a,.int 0 0] }).push { cls:=.type "enumerate",data:=.fields #[.none,.bool false,.ref s.heap.objs.size,rawInt (lo:Int),.none,.none] }) (s.heap.objs.size+1) s.heap.objs.size (lo:Int) .none:=by
  have:=QaH (s.heap.push { cls:=.type "tuple_iterator",data:=.fields #[.ref a,.int 0 0] }) (o:={ cls:=.type "enumerate",data:=.fields #[.none,.bool false,.ref s.heap.objs.size,rawInt (lo:Int),.none,.none] }) rfl;rw[hz] at this;exact this
 refine wpAny_pyIter_enum he ⟨s.heap.objs.size+1,[s.heap.objs.size+1,s.heap.objs.size],_,_,H,rq,I.kept (t':=tk) λb o e=>Qar _ (Qar _ e),aq a (s.heap.objs.size+1) s.heap.objs.size lo (Nat.succ_ne_self _),⟨⟨.none,he⟩,⟨_,Qar _ (QaH _ rfl),rq,rq⟩⟩,λb hb=>?_,q⟩;have hb':s.heap.objs.size<=b:=by
  simp only[QbQ,Qbr,Qco] at hb;rcases hb with rfl | rfl
  ·exact Nat.le_succ _
  ·exact Qce _
 exact I.Tw hb' (I.hok.fresh hb')
end
section
variable {X:Cx}
def nM (K:YD) (lo:Nat) (tl:TE):TI:=fun σ H R=>tl σ H λx H1=>∃a,x=.ref a/\(∃xs,SqT K H1 a xs)/\R (Mr K a lo) H1
theorem cG {jb:YC} {σ : St} {H:Hp} {s:Shared} {R:It->Hp->Prop} {elts:YJ} {k:Nat} {pos:Pos} {a:Addr} {xs:YG} (I:Inv X jb σ H s) (hq:SqT X.K H a xs) (q:R (Mr X.K a 0) H) :
  wpAny (model X.prog X.w) X.A (call (.type "enumerate") [.ref a]) (λv s1=>wpAny (model X.prog X.w) X.A (pyIter v) (PIE X jb σ (.Tuple elts k pos) R) X.xe s1) X.xe s:=by
 obtain⟨its,rv,p,hz⟩:=I.tuple hq;obtain⟨⟨c,dct,dt,sl⟩,hl,hc,n,hd⟩:=id p;replace hc:c=.type "tuple":=hc;replace hd:dt=.seq its.toArray n:=hd;subst hc hd;refine callType_new F.called_enumerate (by decide) (F.typeCall_enumerate_1 _) (F.newCall_enumerate_1 _) (λobj=>F.args_object_init_2 obj _) F.entry_enumerate_new (Tp a its.toArray n dct sl) ⟨hl,?_⟩;have hz:(s.heap.push { cls:=.type "tuple_iterator",data:=.fields #[.ref a,.int 0 0] }).objs.size=s.heap.objs.size+1:=QbN ..;show _/\_;refine⟨⟨_,QaH _ rfl,rq⟩,?_⟩;rw[hz];exact ZP (lo:=0) (tk:=s.toks) I q
end
section
variable {X:Cx}
theorem jH {x:Expr} {tx:TE} {p pos tp:Pos} {elts:YJ} {k:Nat} (hg:Gl X "enumerate") (hm:X.mg "enumerate"=none) (hl:PE X x tx) (hs:starEach [x] X.env=[(false,eval x X.env)]:=by rfl):PI X (.Tuple elts k tp) (.Call (.Name "enumerate" p) [x] [] pos) (nM X.K 0 tx):=by
 intro jb s σ H R I h;refine Call_ (JW I hg hm boot_enumerate (Qac (thn ((Aa hl Ab (by rw[hs];rfl)) pos jb s σ H (λvs H1=>match vs with | [v]=>∃a,v=.ref a/\(∃xs,SqT X.K H1 a xs)/\R (Mr X.K a 0) H1 | _=>False) I h) λus s1 ⟨vs,H1,I1,r1,q1⟩=>?_) hs rfl))
 cases r1 with
 | nil=>exact False.elim q1
 | cons r rr=>
  cases rr with
  | nil=>
   obtain⟨a,e,⟨xs,hq⟩,q⟩:=q1;subst e;cases r;exact cG I1 hq q
  | cons _ _=>exact False.elim q1
theorem cF {jb:YC} {σ : St} {H:Hp} {s:Shared} {R:It->Hp->Prop} {elts:YJ} {k:Nat} {pos:Pos} {a:Addr} {xs:YG} {t:Tok} (I:Inv X jb σ H s) (hq:SqT X.K H a xs) (q:R (Mr X.K a 1) H) :
  wpAny (model X.prog X.w) X.A (call (.type "enumerate") [.ref a] [("start",.int 1 t)]) (λv s1=>wpAny (model X.prog X.w) X.A (pyIter v) (PIE X jb σ (.Tuple elts k pos) R) X.xe s1) X.xe s:=by
 obtain⟨its,rv,p,hz⟩:=I.tuple hq;obtain⟨⟨c,dct,dt,sl⟩,hl,hc,n,hd⟩:=id p;replace hc:c=.type "tuple":=hc;replace hd:dt=.seq its.toArray n:=hd;subst hc hd;refine gQ F.called_enumerate (by decide) (by kernel_rfl) (by kernel_rfl) (λobj=>?ok) F.entry_enumerate_new (RJ a its.toArray n dct sl t) ⟨hl,?_⟩
 case ok=>
  unfold argsOk;rw[signature?_of (id:="object.__init__") (n:=['_','_','t','i','n','i','_','_']) (o:=['t','c','e','j','b','o']) (by kernel_rfl) F.owner_object]
  kernel_rfl
 have hz:(s.heap.push { cls:=.type "tuple_iterator",data:=.fields #[.ref a,.int 0 0] }).objs.size=s.heap.objs.size+1:=QbN ..;show _/\_;refine⟨⟨_,QaH _ rfl,rq⟩,?_⟩;rw[hz];exact ZP (lo:=1) (tk:=s.toks) I q
theorem Wo {x one:Expr} {tx:TE} {p pos tp kp:Pos} {elts:YJ} {k:Nat} (hg:Gl X "enumerate") (hm:X.mg "enumerate"=none) (hl:PE X x tx) (h1:PE X one (tC (.int 1))) (hs:starEach [x] X.env=[(false,eval x X.env)]:=by rfl)
  (hall:(backToKw pos (keywordEach [⟨some "start",one,kp⟩] X.env)).all (·.1.isSome)=true:=by rfl) (hkw:(backToKw pos (keywordEach [⟨some "start",one,kp⟩] X.env)).any (·.1.isNone)=false:=by rfl)
  (hks:(backToKw pos (keywordEach [⟨some "start",one,kp⟩] X.env)).filterMap (·.1)=(["start"]:YF):=by rfl) :
  PI X (.Tuple elts k tp) (.Call (.Name "enumerate" p) [x] [⟨some "start",one,kp⟩] pos) (nM X.K 1 tx):=by
 intro jb s σ H R I h;refine QaX (JW I hg hm boot_enumerate (PyProof.Rows.RV (thn ((Aa hl Ab (by rw[hs];rfl)) pos jb s σ H (λvs H1=>match vs with | [v]=>∃a,v=.ref a/\(∃xs,SqT X.K H1 a xs)/\R (Mr X.K a 1) H1 | _=>False) I h) λus s1 ⟨vs,H1,I1,r1,q1⟩=>?_) (by rw[hs];rfl) (by rw[hs];rfl) hall hkw))
 refine thn ((o7 h1 rN) pos jb s1 σ H1 (λks H2=>H2=H1/\ks=[.int 1]) I1 ⟨rq,rq⟩) λws s2 zz=>?_;obtain⟨zs,H2,I2,rz,e2,ez⟩:=zz;subst e2 ez;cases rz with
 | cons rz1 rz2=>
  cases rz2;obtain⟨t,rfl⟩:=rz1;rw[hks];cases r1 with
  | nil=>exact False.elim q1
  | cons r rr=>
   cases rr with
   | nil=>
    obtain⟨a,e,⟨xs,hq⟩,q⟩:=q1;subst e;cases r;exact cF I2 hq q
   | cons _ _=>exact False.elim q1
theorem Q6 {K:YD} {a:Addr} {lo:Nat} {xs:YG} {g:TG} {tb:TS} {D:Ends} {σ : St} {H:Hp} (Pv:YN) (h0:Pv 0 σ H) (hl:∀i σ H',i<=xs.length->Pv i σ H'->SqT K H' a xs)
  (hs:∀i x p σ H',xs[i]?=some x->Pv i σ H'->H' p=none->g (.ref p) σ (upd H' p (.tup [.int ((lo+i:Nat):Int),x])) fun σ2 H2=>tb { D with nx:=Pv (i+1),ct:=Pv (i+1),bk:=D.nx } σ2 H2) (hd:∀ σ H',Pv xs.length σ H'->D.nx σ H') :
  ∃W:Nat->YN,(∃m,W 0 m σ H)/\∀i m σ H,W i m σ H ->
   ((Mr K a lo).stop i H/\D.nx σ H)\/((Mr K a lo).go i H/\∃N:YO,(∀ σ' H',N σ' H'->∃m',m' < m/\W (i+1) m' σ' H')/\∀x H',(Mr K a lo).yld i H x H'->g x σ H' fun σ2 H2=>tb { D with nx:=N,ct:=N,bk:=D.nx } σ2 H2):=by
 refine⟨λi m σ H=>m=xs.length - i/\i<=xs.length/\Pv i σ H,⟨xs.length,by simp,Qcf _,h0⟩,?_⟩;rintro i m σ H ⟨rfl,hi,p⟩;have q:=hl i σ H hi p;by_cases hlt:i < xs.length
 ·refine .inr ⟨⟨xs,xs[i],q,by simp[hlt]⟩,Pv (i+1),fun σ3 H3 p'=>⟨xs.length - (i+1),by omega,rq,hlt,p'⟩,λv H2 y=>?_⟩;obtain⟨pa,x,hn,rfl,rfl,hx⟩:=y;exact hs i x pa σ _ (hx xs q) p hn
 ·have e:i=xs.length:=by omega
  subst e;exact .inl ⟨⟨xs,q,Qce _⟩,hd σ H p⟩
end
section
variable {X:Cx}
end
end L2
namespace PySem.ZZ
open PySem
section
variable {prog:Program} {w:World} {A:Around} {E:YA} {s:Shared}
theorem Q7 {M:Model} {α β : Type} {Q:β->Shared->Prop} {body:α->β->Sem (ForInStep β)} (J:List α->β->Shared->Prop) (hnil:∀b s,J [] b s->Q b s)
  (hstep:∀x r b s,J (x::r) b s->wpAny M A (body x b) (λst s'=>match st with | .yield b'=>J r b' s' | .done b'=>Q b' s') E s):∀(l:List α) (b:β) (s:Shared),J l b s->wpAny M A (forIn l b body) Q E s
 | [],b,s,h=>by
  rw[List.forIn_nil];exact Qck (hnil b s h)
 | x::r,b,s,h=>by
  rw[List.forIn_cons];refine Qcj (Qcl (hstep x r b s h) (λst s' q=>?_) λ_ _ e=>e);cases st with
  | yield b'=>exact Q7 J hnil hstep r b' s' q
  | done b'=>exact Qck q
structure Src where
 it:Addr
 a:Addr
 items:Array Value
def SrcAt (h:Heap) (x:Src) (i:Nat):Prop:=(h.IsListIter x.it x.a i/\h.IsList x.a x.items)\/(h.IsTupleIter x.it x.a i/\h.IsTuple x.a x.items)
theorem SrcAt.keep {h h':Heap} {x:Src} {i:Nat} (q:SrcAt h x i) (k1:∀o,h.get? x.it=some o->h'.get? x.it=some o) (k2:∀o,h.get? x.a=some o->h'.get? x.a=some o):SrcAt h' x i:=by
 rcases q with⟨q1,q2⟩|⟨q1,o,e,r⟩
 ·exact .inl ⟨q1.at k1,q2.at k2⟩
 ·exact .inr ⟨q1.at k1,o,k2 o e,r⟩
theorem SrcAt.ne {h:Heap} {x:Src} {i:Nat} (q:SrcAt h x i):x.a≠x.it:=λz=>by
 rcases q with⟨⟨o,e,c,_⟩,⟨o',e',c',_⟩⟩|⟨⟨o,e,c,_⟩,⟨o',e',c',_⟩⟩
 ·rw[z,e] at e';cases e';rw[c] at c';injection c' with y;exact absurd y (by decide)
 ·rw[z,e] at e';cases e';rw[c] at c';injection c' with y;exact absurd y (by decide)
theorem VR {x:Src} {i:Nat} {v:Value} {Q:YA} (q:SrcAt s.heap x i) (hx:x.items[i]?=some v) (hQ:∀h',SrcAt h' x (i+1)->Heap.SameBut x.it s.heap h'->Q v { s with heap:=h' }) :
  wpAny (model prog w) A (Builtin.SmallTypes.nextOf (.ref x.it)) Q E s:=by
 have ne:=q.ne;rcases q with⟨q1,q2⟩|⟨q1,q2⟩
 ·exact wpAny_nextOf_list_item q1 q2 hx λh' i1 sb=>hQ h' (.inl ⟨i1,q2.at λo e=>sb.extBut _ _ ne e⟩) sb
 ·exact Lk q1 q2 hx λh' i1 sb=>hQ h' (.inr ⟨i1,let ⟨o,e,r⟩:=q2;⟨o,sb.extBut _ _ ne e,r⟩⟩) sb
theorem oM {x:Src} {i:Nat} {Q:YA} (hh:A.handled=none) (q:SrcAt s.heap x i) (hx:x.items[i]?=none)
  (hE:∀h' e,Heap.ExtBut x.it s.heap h'->(∃o,h'.get? e=some o/\o.cls=.type "StopIteration")->E (.ref e) { s with heap:=h' }):wpAny (model prog w) A (Builtin.SmallTypes.nextOf (.ref x.it)) Q E s:=by
 rcases q with⟨q1,q2⟩|⟨q1,q2⟩
 ·exact wpAny_nextOf_list_end hh q1 q2 hx hE
 ·exact Jo hh q1 q2 hx hE
abbrev IsZ (h:Heap) (z TI TO:Addr) (f0 f1:Value):Prop:=h.get? z=some { cls:=.type "zip",dict:=none,data:=.fields #[f0,f1,.bool false,.ref TI,.ref TO],slots:=#[] }
abbrev Dl (h:Heap) (T:Addr) (xs:YE):Prop:=h.get? T=some { cls:=.type "tuple",data:=.seq xs.toArray }
structure Apart (z TI TO:Addr) (ls:List Src):Prop where
 TIz:TI≠z
 TOz:TO≠z
 TITO:TI≠TO
 it:∀x∈ls,x.it≠z/\x.it≠TI/\x.it≠TO
 a:∀x∈ls,x.a≠z/\x.a≠TO
 ai:∀x∈ls,∀y∈ls,x.a≠y.it
 nd:(ls.map (·.it)).Nodup
def Rest (z TO:Addr) (ls:List Src) (h h':Heap):Prop:=∀c o,c≠z->c≠TO->c∉ls.map (·.it)->h.get? c=some o->h'.get? c=some o
theorem oO {xs olds:YE} {k:Nat} {v:Value} (hk:k < olds.length) (hx:xs.length=olds.length) (e:xs[k]?=some v):(xs.take k++olds.drop k).toArray.setIfInBounds k v=(xs.take (k+1)++olds.drop (k+1)).toArray:=by
 rw[List.setIfInBounds_toArray];congr 1;have hl:(xs.take k).length=k:=by rw[Qbn];omega
 rw[List.set_append_right _ _ (by omega),hl,Nat.sub_self,Qah hk,QaO,List.take_add_one,e];simp
structure Mid (z TI TO:Addr) (ls:List Src) (xs olds:YE) (i:Nat) (f0 f1:Value) (h:Heap) (k:Nat) (h':Heap):Prop where
 hz:IsZ h' z TI TO f0 f1
 hTI:Dl h' TI (ls.map λx=>.ref x.it)
 done:∀j x,ls[j]?=some x->SrcAt h' x (if j < k then i+1 else i)
 rest:Rest z TO ls h h'
 size:h'.objs.size=h.objs.size
theorem Mid.draw {z TI TO:Addr} {ls:List Src} {xs olds:YE} {i:Nat} {f0 f1:Value} {h h1 h2:Heap} {k:Nat} {x:Src} (D:Apart z TI TO ls) (m:Mid z TI TO ls xs olds i f0 f1 h k h1) (hx:ls[k]?=some x) (q:SrcAt h2 x (i+1)) (sb:Heap.SameBut x.it h1 h2) :
  Mid z TI TO ls xs olds i f0 f1 h (k+1) h2:=by
 have hm:=QaE hx;have hi:=D.it x hm;refine⟨sb.extBut _ _ hi.1.symm m.hz,sb.extBut _ _ hi.2.1.symm m.hTI,λj y hy=>?_,λc o c1 c2 c3 e=>sb.extBut _ _ (λz=>c3 (z ▸ QbY.mpr ⟨x,hm,rq⟩)) (m.rest c o c1 c2 c3 e),by rw[sb.1,m.size]⟩;by_cases hj:j=k
 ·subst hj;rw[hx] at hy;cases hy;rw[if_pos (Nat.lt_succ_self _)];exact q
 ·have h1:=m.done j y hy;have hne:y.it≠x.it:=λz=>hj (by
   have e1:(ls.map (·.it))[j]?=some y.it:=by rw[Qbc,hy];rfl
   have e2:(ls.map (·.it))[k]?=some x.it:=by rw[Qbc,hx];rfl
   rw[z] at e1;have l1:=(Qaf.mp e1);have l2:=(Qaf.mp e2);exact (List.getElem_inj D.nd).mp (l1.2.trans l2.2.symm))
  have hc:(if j < k+1 then i+1 else i)=(if j < k then i+1 else i):=by
   by_cases c:j < k
   ·rw[if_pos c,if_pos (by omega)]
   ·rw[if_neg c,if_neg (by omega)]
  rw[hc];exact h1.keep (λo e=>sb.extBut _ _ hne e) (λo e=>sb.extBut _ _ (D.ai y (QaE hy) x hm) e)
theorem Mid.other {z TI TO:Addr} {ls:List Src} {xs olds:YE} {i:Nat} {f0 f1:Value} {h h1 h2:Heap} {k:Nat} (D:Apart z TI TO ls) (m:Mid z TI TO ls xs olds i f0 f1 h k h1) (sb:Heap.SameBut TO h1 h2):Mid z TI TO ls xs olds i f0 f1 h k h2:=by
 refine⟨sb.extBut _ _ D.TOz.symm m.hz,sb.extBut _ _ D.TITO m.hTI,λj y hy=>?_,λc o c1 c2 c3 e=>sb.extBut _ _ c2 (m.rest c o c1 c2 c3 e),by rw[sb.1,m.size]⟩;have hm:=QaE hy;exact (m.done j y hy).keep (λo e=>sb.extBut _ _ (D.it y hm).2.2 e) (λo e=>sb.extBut _ _ (D.a y hm).2 e)
theorem UL {z TI TO:Addr} {ls:List Src} {xs olds:YE} {i:Nat} {f1:Value} {Q:YA} (D:Apart z TI TO ls) (hz:IsZ s.heap z TI TO .none f1) (hTI:Dl s.heap TI (ls.map λx=>.ref x.it)) (hTO:Dl s.heap TO olds)
  (hat:∀x∈ls,SrcAt s.heap x i) (hne:ls≠[]) (hl1:xs.length=ls.length) (hl2:olds.length=ls.length) (hx:∀(j:Nat) (x:Src),ls[j]?=some x->∃v,xs[j]?=some v/\x.items[i]?=some v) (hsz:ls.length<=100)
  (hQ:∀h',IsZ h' z TI TO (rawInt s.heap.objs.size) (.bool false)->Dl h' TI (ls.map λx=>.ref x.it)->Dl h' TO xs->(∀x∈ls,SrcAt h' x (i+1))->Dl h' s.heap.objs.size xs->h'.objs.size=s.heap.objs.size+1->Rest z TO ls s.heap h'->Q (.ref s.heap.objs.size) { s with heap:=h' }) :
  wpAny (model prog w) A (Builtin.«zip.__next__» ⟨[.ref z],[]⟩) (λfin s'=>∃v,fin=.done (.ret v)/\Q v s') E s:=by
 show wpAny _ _ (field (.ref z) 2 >>= _) _ _ _;refine Qcj (Qcg hz rfl (x:=.bool false) rfl ?_);show wpAny _ _ (field (.ref z) 3 >>= _) _ _ _;refine Qcj (Qcg hz rfl (x:=.ref TI) rfl ?_);refine Qcj (QbP hTI rfl ?_);dsimp only;rw[if_neg (by cases ls with | nil=>exact absurd rfl hne | cons a r=>simp)];show wpAny _ _ (Builtin.SmallTypes.ownedTupleIsFree (.ref z) >>= _) _ _ _;refine Qcj ?_;unfold Builtin.SmallTypes.ownedTupleIsFree;refine Qcj (Qcg hz rfl (x:=.none) rfl (Qck ?_));simp only[if_true];refine Qcj (wpAny_rule ?_);refine Qcj (Qcg hz rfl (x:=.ref TO) rfl ?_);refine Qcj (QaY hz (by simp) λh₁ hz₁ hs₁=>?_);replace hz₁ : IsZ h₁ z TI TO .ellipsis f1:=hz₁;refine Qcj ?_;have m0:Mid z TI TO ls xs olds i .ellipsis f1 s.heap 0 h₁:=by
  refine⟨hz₁,hs₁.extBut _ _ D.TIz hTI,λj x hj=>?_,λc o c1 _ _ e=>hs₁.extBut _ _ c1 e,hs₁.1⟩;have hm:=QaE hj;rw[if_neg (Nat.not_lt_zero _)];exact (hat x hm).keep (λo e=>hs₁.extBut _ _ (D.it x hm).1 e) (λo e=>hs₁.extBut _ _ (D.a x hm).1 e)
 have Xc : Dl h₁ TO (xs.take 0++olds.drop 0):=hs₁.extBut _ _ D.TOz hTO;refine Q7 (λl b s'=>∃k h',k<=ls.length/\l=((ls.map λx=>Value.ref x.it).drop k).zipIdx k/\b=⟨none,⟨⟩⟩/\s'={ s with heap:=h' }/\Mid z TI TO ls xs olds i .ellipsis f1 s.heap k h'/\Dl h' TO (xs.take k++olds.drop k)) (λb s' h=>?_) (λx r b s' h=>?_) _ _ _ ⟨0,h₁,Qcf _,rq,rq,rq,m0,Xc⟩
 ·obtain⟨k,h',hk,e1,rfl,rfl,m,hT⟩:=h;have hkl:k=ls.length:=by
   have:=congrArg List.length e1;rw[List.length_nil,List.length_zipIdx,Qbq,Qbw] at this;omega
  subst hkl;rw[<-hl1,Qbp,hl1,<-hl2,List.drop_length,QbA] at hT;dsimp only;refine Qcj (QbP hT rfl ?_);refine Qcj (wpAny_newTuple ?_ (by show xs.length<=sizeLine;rw[Qci];omega));have hkl:∀j x,ls[j]?=some x->SrcAt h' x (i+1):=λj x hj=>by
   have:=m.done j x hj;rw[if_pos (Qaf.mp hj).1] at this;exact this
  have hzlt:z < h'.objs.size:=QbZ m.hz;have hTOlt:TO < h'.objs.size:=QbZ hT;show wpAny _ _ (Builtin.SmallTypes.ownedTupleHandOut (.ref z) (.ref h'.objs.size) >>= _) _ _ _;refine Qcj ?_;unfold Builtin.SmallTypes.ownedTupleHandOut;have hz₆ : IsZ (h'.push { cls:=.type "tuple",data:=.seq xs.toArray }) z TI TO .ellipsis f1:=Qar _ m.hz;refine Qcj (QaY hz₆ (by simp) λh₇ hz₇ hs₇=>?_);replace hz₇ : IsZ h₇ z TI TO (rawInt h'.objs.size) f1:=hz₇;refine QaY hz₇ (by simp) λh₈ hz₈ hs₈=>?_;replace hz₈ : IsZ h₈ z TI TO (rawInt h'.objs.size) (.bool false):=hz₈;have up:∀c o,c≠z->h'.get? c=some o->h₈.get? c=some o:=λc o c1 e=>hs₈.extBut _ _ c1 (hs₇.extBut _ _ c1 (Qar _ e));have hT₈ : Dl h₈ h'.objs.size xs:=hs₈.extBut _ _ (Qcd hzlt) (hs₇.extBut _ _ (Qcd hzlt) (QaH _ rfl));have hz8:h₈.objs.size=h'.objs.size+1:=by rw[hs₈.1,hs₇.1,QbN]
  have hsz':=m.size;rw[hsz'] at hz₈ hT₈ hz8;refine Qck ⟨_,rq,?_⟩;show Q (.ref h'.objs.size) _;rw[hsz'];refine hQ h₈ hz₈ (up _ _ D.TIz m.hTI) (up _ _ D.TOz hT) (λx hm=>?_) hT₈ hz8 λc o c1 c2 c3 e=>up c o c1 (m.rest c o c1 c2 c3 e);obtain⟨j,hj⟩:=List.getElem?_of_mem hm;exact (hkl j x hj).keep (λo e=>up _ o (D.it x hm).1 e) (λo e=>up _ o (D.a x hm).1 e)
 ·obtain⟨k,h',hk,e1,rfl,rfl,m,hT⟩:=h;have hkl:k < ls.length:=by
   have:=congrArg List.length e1;rw[Qbo,List.length_zipIdx,Qbq,Qbw] at this;omega
  obtain⟨y,hy⟩ : ∃y,ls[k]?=some y:=⟨_,Qak hkl⟩;have hm:=QaE hy;rw[Qah (by rw[Qbw];exact hkl),List.zipIdx_cons,List.getElem_map] at e1;have ey:ls[k]=y:=(Qaf.mp hy).2;rw[ey] at e1;injection e1 with e1 e2;subst e1 e2;obtain⟨v,hv1,hv2⟩:=hx k y hy;refine Qcj (wpAny_onRaise ?_);show wpAny _ _ (Builtin.SmallTypes.nextOf (.ref y.it) >>= _) _ _ _;have q0:=m.done k y hy;rw[if_neg (QbV _)] at q0;refine Qcj (VR q0 hv2 λh2 q2 sb2=>Qck ?_);have m2:=m.draw D hy q2 sb2;have hT2:Dl h2 TO (xs.take k++olds.drop k):=sb2.extBut _ _ (D.it y hm).2.2.symm hT;have hln:(xs.take k++olds.drop k).length<=100:=by rw[QaM,Qbn,Qbq];omega
  have hsm:=oO (xs:=xs) (olds:=olds) (k:=k) (v:=v) (by omega) (by omega) hv1;refine Qcj (QbP hT2 rfl ?_);refine Qcj (wpAny_updateSeq hT2 rfl ?_ (by rw[Qbb,Qci];omega) (by rw[hsm,Qbb,Qci,QaM,Qbn,Qbq];omega));have sb3:Heap.SameBut TO h2 (h2.update TO (Obj.mapSeq λx=>x.setIfInBounds k v)):=Heap.SameBut.update ..;have hT3:Dl (h2.update TO (Obj.mapSeq λx=>x.setIfInBounds k v)) TO (xs.take (k+1)++olds.drop (k+1)):=by
   show (h2.update TO _).get? TO=_;rw[Qay _ hT2 rfl,<-hsm];simp[Obj.mapSeq]
  refine Qcj (wpAny_letGo (Qck ?_));exact⟨k+1,_,hkl,rq,rq,rq,m2.other D sb3,hT3⟩
theorem Vz {z TI TO:Addr} {ls:List Src} {olds:YE} {i:Nat} {f1:Value} {Q:Fin->Shared->Prop} (hh:A.handled=none) (D:Apart z TI TO ls) (hz:IsZ s.heap z TI TO .none f1) (hTI:Dl s.heap TI (ls.map λx=>.ref x.it)) (hTO:Dl s.heap TO olds)
  (hat:∀x∈ls,SrcAt s.heap x i) (hne:ls≠[]) (hl2:olds.length=ls.length) (hsz:ls.length<=100) (hend:∃x∈ls,x.items[i]?=none)
  (hE:∀h' e,Rest z TO ls s.heap h'->(∃o,h'.get? e=some o/\o.cls=.type "StopIteration")->E (.ref e) { s with heap:=h' }) :
  wpAny (model prog w) A (Builtin.«zip.__next__» ⟨[.ref z],[]⟩) Q E s:=by
 show wpAny _ _ (field (.ref z) 2 >>= _) _ _ _;refine Qcj (Qcg hz rfl (x:=.bool false) rfl ?_);show wpAny _ _ (field (.ref z) 3 >>= _) _ _ _;refine Qcj (Qcg hz rfl (x:=.ref TI) rfl ?_);refine Qcj (QbP hTI rfl ?_);dsimp only;rw[if_neg (by cases ls with | nil=>exact absurd rfl hne | cons a r=>simp)];show wpAny _ _ (Builtin.SmallTypes.ownedTupleIsFree (.ref z) >>= _) _ _ _;refine Qcj ?_;unfold Builtin.SmallTypes.ownedTupleIsFree;refine Qcj (Qcg hz rfl (x:=.none) rfl (Qck ?_));simp only[if_true];refine Qcj (wpAny_rule ?_);refine Qcj (Qcg hz rfl (x:=.ref TO) rfl ?_);refine Qcj (QaY hz (by simp) λh₁ hz₁ hs₁=>?_);replace hz₁ : IsZ h₁ z TI TO .ellipsis f1:=hz₁;refine Qcj ?_;have m0:Mid z TI TO ls [] olds i .ellipsis f1 s.heap 0 h₁:=by
  refine⟨hz₁,hs₁.extBut _ _ D.TIz hTI,λj x hj=>?_,λc o c1 _ _ e=>hs₁.extBut _ _ c1 e,hs₁.1⟩;have hm:=QaE hj;rw[if_neg (Nat.not_lt_zero _)];exact (hat x hm).keep (λo e=>hs₁.extBut _ _ (D.it x hm).1 e) (λo e=>hs₁.extBut _ _ (D.a x hm).1 e)
 have Xc : Dl h₁ TO olds:=hs₁.extBut _ _ D.TOz hTO;refine Q7 (λl b s'=>∃k h' ys,k<=ls.length/\l=((ls.map λx=>Value.ref x.it).drop k).zipIdx k/\b=⟨none,⟨⟩⟩/\s'={ s with heap:=h' }/\Mid z TI TO ls [] olds i .ellipsis f1 s.heap k h'/\Dl h' TO ys/\ys.length=ls.length/\∃x∈ls.drop k,x.items[i]?=none) (λb s' h=>?_) (λx r b s' h=>?_) _ _ _ ⟨0,h₁,olds,Qcf _,rq,rq,rq,m0,Xc,hl2,hend⟩
 ·obtain⟨k,h',ys,hk,e1,rfl,rfl,m,hT,hy,x,hx,_⟩:=h;have:k=ls.length:=by
   have:=congrArg List.length e1;rw[List.length_nil,List.length_zipIdx,Qbq,Qbw] at this;omega
  subst this;rw[List.drop_length] at hx;cases hx
 ·obtain⟨k,h',ys,hk,e1,rfl,rfl,m,hT,hys,xe,hxe,hxn⟩:=h;have hkl:k < ls.length:=by
   have:=congrArg List.length e1;rw[Qbo,List.length_zipIdx,Qbq,Qbw] at this;omega
  obtain⟨y,hy⟩ : ∃y,ls[k]?=some y:=⟨_,Qak hkl⟩;have hm:=QaE hy;rw[Qah (by rw[Qbw];exact hkl),List.zipIdx_cons,List.getElem_map] at e1;have ey:ls[k]=y:=(Qaf.mp hy).2;rw[ey] at e1;injection e1 with e1 e2;subst e1 e2;refine Qcj (wpAny_onRaise ?_);show wpAny _ _ (Builtin.SmallTypes.nextOf (.ref y.it) >>= _) _ _ _;have q0:=m.done k y hy;rw[if_neg (QbV _)] at q0;cases hv:y.items[i]? with
  | none=>
   refine Qcj (oM hh q0 hv λh₂ e hs₂ he=>?_);obtain⟨oe,hoe,hce⟩:=he;have hz₂ : IsZ h₂ z TI TO .ellipsis f1:=hs₂ _ _ (D.it y hm).1.symm m.hz;have hez:e≠z:=λx=>by subst x;rw[hz₂] at hoe;cases hoe;simp at hce
   refine QaY hz₂ (by simp) λh₃ _ hs₃=>hE h₃ e (λc o c1 c2 c3 x=>hs₃.extBut _ _ c1 (hs₂ _ _ (λq=>c3 (q ▸ QbY.mpr ⟨y,hm,rq⟩)) (m.rest c o c1 c2 c3 x))) ⟨oe,hs₃.extBut _ _ hez hoe,hce⟩
  | some v=>
   refine Qcj (VR q0 hv λh2 q2 sb2=>Qck ?_);have m2:=m.draw D hy q2 sb2;have hT2:Dl h2 TO ys:=sb2.extBut _ _ (D.it y hm).2.2.symm hT;refine Qcj (QbP hT2 rfl ?_);refine Qcj (wpAny_updateSeq hT2 rfl ?_ (by rw[Qbb,Qci];omega) (by rw[Array.size_setIfInBounds,Qbb,Qci];omega));have sb3:Heap.SameBut TO h2 (h2.update TO (Obj.mapSeq λx=>x.setIfInBounds k v)):=Heap.SameBut.update ..;have hT3:Dl (h2.update TO (Obj.mapSeq λx=>x.setIfInBounds k v)) TO (ys.set k v):=by
    show (h2.update TO _).get? TO=_;rw[Qay _ hT2 rfl,<-List.setIfInBounds_toArray];simp[Obj.mapSeq]
   refine Qcj (wpAny_letGo (Qck ?_));refine⟨k+1,_,ys.set k v,hkl,rq,rq,rq,m2.other D sb3,hT3,by rw[List.length_set];exact hys,xe,?_,hxn⟩;rw[Qah hkl,ey] at hxe;rcases QbQ.mp hxe with z | z
   ·subst z;rw[hv] at hxn;cases hxn
   ·exact z
theorem aQ {z TI TO:Addr} {f0 f1:Value} {Q:Option Value->Shared->Prop} (hz:IsZ s.heap z TI TO f0 f1) {Qi:YA} (h:wpAny (model prog w) A.in1 (Builtin.«zip.__next__» ⟨[.ref z],[]⟩) (λfin s'=>∃v,fin=.done (.ret v)/\Qi v s') (λ_ _=>False) s) (hQ:∀v s',Qi v s'->Q (some v) s') :
  wpAny (model prog w) A (pyNext (.ref z)) Q E s:=by
 have hT:s.TypeIs (.ref z) "zip":=⟨_,hz,rq⟩;unfold pyNext;refine Qcj (wpAny_attempt (Qao (name:=Str.ofString "__next__") hT F.slot_zip_next (Qbv F.slot_zip_next hT F.entry_zip_next (Qcl h (λfin s' q=>?_) λ_ _ f=>f.elim) (F.args_zip_next_1 _))));obtain⟨v,e,q⟩:=q;exact⟨v,e,Qck (hQ v s' q)⟩
theorem S5 {z TI TO:Addr} {f0 f1:Value} {Q:Option Value->Shared->Prop} {R:Heap->Prop} (hz:IsZ s.heap z TI TO f0 f1)
  (h:wpAny (model prog w) A.in1 (Builtin.«zip.__next__» ⟨[.ref z],[]⟩) (λ_ _=>False) (λv s'=>∃h' e,v=.ref e/\s'={ s with heap:=h' }/\R h'/\∃o,h'.get? e=some o/\o.cls=.type "StopIteration") s) (hQ:∀h',R h'->Q none { s with heap:=h' }) :
  wpAny (model prog w) A (pyNext (.ref z)) Q E s:=by
 have hT:s.TypeIs (.ref z) "zip":=⟨_,hz,rq⟩;unfold pyNext;refine Qcj (wpAny_attempt (Qao (name:=Str.ofString "__next__") hT F.slot_zip_next (Qbv F.slot_zip_next hT F.entry_zip_next (Qcl h (λ_ _ f=>f.elim) λv s' q=>?_) (F.args_zip_next_1 _))));obtain⟨h',e,rfl,rfl,r,o,ho,hc⟩:=q;exact Qcj (wpAny_isInstance (T:="StopIteration") (b:=true) ⟨o,ho,hc⟩ isSubtype_stop (Qck (hQ _ r)))
theorem Rt {z TI TO:Addr} {f0 f1:Value} {Q:YA} (hz:IsZ s.heap z TI TO f0 f1) (h:Q (.ref z) s):wpAny (model prog w) A (pyIter (.ref z)) Q E s:=by
 have hT:s.TypeIs (.ref z) "zip":=⟨_,hz,rq⟩;refine wpAny_pyIter_slot hT F.slot_zip_iter (Qbv F.slot_zip_iter hT F.entry_zip_iter ?_ (F.args_zip_iter_1 _));show wpAny _ _ (ret (.ref z)) _ _ s;exact Qck ⟨_,rq,"zip",_,hT,F.slot_zip_next.lookup,h⟩
theorem eZ {elts:YJ} {x1} {pos:Pos} {z TI TO T:Addr} {f1:Value} {Q:YH} (hz:IsZ s.heap z TI TO (rawInt T) f1)
  (hQ:∀h',IsZ h' z TI TO .none f1->Heap.SameBut z s.heap h'->Q () { s with heap:=h' }):wpAny (model prog w) A (letOwnedTupleGo (.Tuple elts x1 pos) (.ref z) (.ref T)) Q E s:=by
 unfold letOwnedTupleGo;refine Qcj (wpAny_load hz ?_);show wpAny _ _ (if (["enumerate","zip","dict_itemiterator","dict_reverseitemiterator","odict_iterator","itertools.zip_longest","itertools.pairwise"].contains "zip" &&
   (#[rawInt T,f1,.bool false,.ref TI,.ref TO]:Array Value)[0]? == some (rawInt T))=true then _ else _) Q E s
 rw[if_pos (by simp)];refine Qcj (wpAny_rule ?_);show wpAny _ _ (setField (.ref z) 0 .none) Q E s;exact QaY hz (by simp) λh' hz' hs'=>hQ h' hz' hs'
end
end PySem.ZZ
namespace PySem
namespace F
end F
end PySem
namespace PySem.ZZ
open PySem
def Pj (h:Heap) (a:Addr) (xs:Array Value) (c:String):Prop:=(c="list_iterator"/\h.IsList a xs)\/(c="tuple_iterator"/\h.IsTuple a xs)
theorem Pj.src {h h':Heap} {a it:Addr} {xs:Array Value} {c:String} (q:Pj h a xs c) (k:∀o,h.get? a=some o->h'.get? a=some o) (e:h'.get? it=some { cls:=.type c,data:=.fields #[.ref a,.int 0 0] }):SrcAt h' ⟨it,a,xs⟩ 0:=by
 rcases q with⟨rfl,q⟩|⟨rfl,o,ho,r⟩
 ·exact .inl ⟨⟨_,e,rq,rq⟩,q.at k⟩
 ·exact .inr ⟨⟨_,e,rq,rq⟩,o,k o ho,r⟩
theorem Pj.lt {h:Heap} {a:Addr} {xs:Array Value} {c:String} (q:Pj h a xs c):a < h.objs.size:=by
 rcases q with⟨rfl,o,e,_⟩|⟨rfl,o,e,_⟩
 ·exact QbZ e
 ·exact QbZ e
abbrev itO (c:String) (l:Addr):Obj:={ cls:=.type c,data:=.fields #[.ref l,.int 0 0] }
abbrev tuO (xs:Array Value):Obj:={ cls:=.type "tuple",data:=.seq xs }
abbrev z2a (h:Heap) (c1 c2:String) (l1 l2:Addr):Heap:=((((h.push (itO c1 l1)).push (itO c2 l2)).push (tuO #[.ref h.objs.size,.ref (h.push (itO c1 l1)).objs.size])).push (tuO #[.none,.none]))
abbrev z2 (h:Heap) (c1 c2:String) (l1 l2:Addr):Heap:=(z2a h c1 c2 l1 l2).push
 { cls:=.type "zip",data:=.fields #[.none,.bool false,.bool false,.ref ((h.push (itO c1 l1)).push (itO c2 l2)).objs.size,.ref (((h.push (itO c1 l1)).push (itO c2 l2)).push (tuO #[.ref h.objs.size,.ref (h.push (itO c1 l1)).objs.size])).objs.size] }
theorem bD (l1 l2:Addr) (xs ys:Array Value) (c1 c2:String):Meets (Builtin.«zip.__new__» ⟨[.type "zip",.ref l1,.ref l2],[]⟩) (λ_ R s=>Pj s.heap l1 xs c1/\Pj s.heap l2 ys c2/\R (.ok (.ret (.ref (z2a s.heap c1 c2 l1 l2).objs.size))) { s with heap:=z2 s.heap c1 c2 l1 l2 }):=
 .of_wp λprog w A R s h=>by
  obtain⟨hp,g,d,tk,os⟩:=s;obtain⟨hl1,hl2,h⟩:=h;have hsub:=sub_zip;rcases hl1 with⟨rfl,hl1⟩|⟨rfl,hl1⟩
  ·have hL1:Heap.IsList (Shared.heap ⟨hp,g,d,tk,os⟩) l1 xs:=hl1;rcases hl2 with⟨rfl,hl2⟩|⟨rfl,hl2⟩
   ·have hL2:Heap.IsList (Shared.heap ⟨hp.push (itO "list_iterator" l1),g,d,tk,os⟩) l2 ys:=Heap.IsList.push hl2 _
    wp_walk using Qbi hL1,Qbi hL2
    exact⟨_,rq,h⟩
   ·have hL2:Heap.IsTuple (Shared.heap ⟨hp.push (itO "list_iterator" l1),g,d,tk,os⟩) l2 ys:=Heap.IsTuple.push hl2 _
    wp_walk using Qbi hL1,QaU hL2
    exact⟨_,rq,h⟩
  ·have hL1:Heap.IsTuple (Shared.heap ⟨hp,g,d,tk,os⟩) l1 xs:=hl1;rcases hl2 with⟨rfl,hl2⟩|⟨rfl,hl2⟩
   ·have hL2:Heap.IsList (Shared.heap ⟨hp.push (itO "tuple_iterator" l1),g,d,tk,os⟩) l2 ys:=Heap.IsList.push hl2 _
    wp_walk using QaU hL1,Qbi hL2
    exact⟨_,rq,h⟩
   ·have hL2:Heap.IsTuple (Shared.heap ⟨hp.push (itO "tuple_iterator" l1),g,d,tk,os⟩) l2 ys:=Heap.IsTuple.push hl2 _
    wp_walk using QaU hL1,QaU hL2
    exact⟨_,rq,h⟩
abbrev z3a (h:Heap) (c1 c2 c3:String) (l1 l2 l3:Addr):Heap:=(((((h.push (itO c1 l1)).push (itO c2 l2)).push (itO c3 l3)).push (tuO #[.ref h.objs.size,.ref (h.push (itO c1 l1)).objs.size,.ref ((h.push (itO c1 l1)).push (itO c2 l2)).objs.size])).push (tuO #[.none,.none,.none]))
abbrev z3 (h:Heap) (c1 c2 c3:String) (l1 l2 l3:Addr):Heap:=(z3a h c1 c2 c3 l1 l2 l3).push
 { cls:=.type "zip",data:=.fields #[.none,.bool false,.bool false,.ref (((h.push (itO c1 l1)).push (itO c2 l2)).push (itO c3 l3)).objs.size,.ref ((((h.push (itO c1 l1)).push (itO c2 l2)).push (itO c3 l3)).push (tuO #[.ref h.objs.size,.ref (h.push (itO c1 l1)).objs.size,.ref ((h.push (itO c1 l1)).push (itO c2 l2)).objs.size])).objs.size] }
structure wL (h:Heap) (z TI TO:Addr) (ls:List Src) (h':Heap):Prop where
 hz:IsZ h' z TI TO .none (.bool false)
 hTI:Dl h' TI (ls.map λx=>.ref x.it)
 hTO:Dl h' TO (ls.map λ_=>.none)
 at_:∀x∈ls,SrcAt h' x 0
 ap:Apart z TI TO ls
 new:h.objs.size<=z/\h.objs.size<=TI/\h.objs.size<=TO/\∀x∈ls,h.objs.size<=x.it
 keep:∀c o,h.get? c=some o->h'.get? c=some o
theorem na {a b:Nat} (h:a≠b):@Ne Addr a b:=h
theorem apart2 {n l1 l2:Nat} {xs ys:Array Value} (a1:l1 < n) (a2:l2 < n):Apart (n+1+1+1+1:Nat) (n+1+1:Nat) (n+1+1+1:Nat) [⟨n,l1,xs⟩,⟨(n+1:Nat),l2,ys⟩]:=by
 refine⟨na (by omega),na (by omega),na (by omega),λx hx=>?_,λx hx=>?_,λx hx y hy=>?_,?_⟩
 ·rcases QbQ.mp hx with rfl | hx
  ·exact⟨na (by dsimp only;omega),na (by dsimp only;omega),na (by dsimp only;omega)⟩
  ·cases QaQ.mp hx;exact⟨na (by dsimp only;omega),na (by dsimp only;omega),na (by dsimp only;omega)⟩
 ·rcases QbQ.mp hx with rfl | hx
  ·exact⟨na (by dsimp only;omega),na (by dsimp only;omega)⟩
  ·cases QaQ.mp hx;exact⟨na (by dsimp only;omega),na (by dsimp only;omega)⟩
 ·rcases QbQ.mp hx with rfl | hx
  ·rcases QbQ.mp hy with rfl | hy
   ·exact na (by dsimp only;omega)
   ·cases QaQ.mp hy;exact na (by dsimp only;omega)
  ·cases QaQ.mp hx;rcases QbQ.mp hy with rfl | hy
   ·exact na (by dsimp only;omega)
   ·cases QaQ.mp hy;exact na (by dsimp only;omega)
 ·show List.Nodup ([n,n+1]:List Nat);simp
section
variable {prog:Program} {w:World} {A:Around} {E:YA} {s:Shared}
theorem gG {l1 l2:Addr} {xs ys:Array Value} {c1 c2:String} {Q:YA} (hl1:Pj s.heap l1 xs c1) (hl2:Pj s.heap l2 ys c2)
  (h:∀h' z TI TO i1 i2,wL s.heap z TI TO [⟨i1,l1,xs⟩,⟨i2,l2,ys⟩] h'->Q (.ref z) { s with heap:=h' }):wpAny (model prog w) A (call (.type "zip") [.ref l1,.ref l2]) Q E s:=by
 refine callType_new F.called_zip (by decide) (F.typeCall_zip_2 _ _) (F.newCall_zip_2 _ _) (λobj=>F.args_object_init_3 obj _ _) F.entry_zip_new (bD l1 l2 xs ys c1 c2) ⟨hl1,hl2,?_⟩;have g5:(z2 s.heap c1 c2 l1 l2).get? (z2a s.heap c1 c2 l1 l2).objs.size=some _:=QaH _ rfl;have g4:(z2 s.heap c1 c2 l1 l2).get? (((s.heap.push (itO c1 l1)).push (itO c2 l2)).push (tuO #[.ref s.heap.objs.size,.ref (s.heap.push (itO c1 l1)).objs.size])).objs.size=some (tuO #[.none,.none]):=Qar _ (QaH _ rfl);have g3:(z2 s.heap c1 c2 l1 l2).get? ((s.heap.push (itO c1 l1)).push (itO c2 l2)).objs.size=some (tuO #[.ref s.heap.objs.size,.ref (s.heap.push (itO c1 l1)).objs.size]):=Qar _ (Qar _ (QaH _ rfl));have g2:(z2 s.heap c1 c2 l1 l2).get? (s.heap.push (itO c1 l1)).objs.size=some (itO c2 l2):=Qar _ (Qar _ (Qar _ (QaH _ rfl)));have g1:(z2 s.heap c1 c2 l1 l2).get? s.heap.objs.size=some (itO c1 l1):=Qar _ (Qar _ (Qar _ (Qar _ (QaH _ rfl))));have kp:∀c o,s.heap.get? c=some o->(z2 s.heap c1 c2 l1 l2).get? c=some o:=λc o x=>Qar _ (Qar _ (Qar _ (Qar _ (Qar _ x))));have a1:=hl1.lt;have a2:=hl2.lt;refine⟨⟨_,g5,rq⟩,h _ _ _ _ s.heap.objs.size (s.heap.push (itO c1 l1)).objs.size ⟨g5,g3,g4,?_,?_,?_,kp⟩⟩
 ·intro x hx;rcases QbQ.mp hx with rfl | hx
  ·exact hl1.src (λo e=>kp _ _ e) g1
  ·rcases QbQ.mp hx with rfl | hx
   ·exact hl2.src (λo e=>kp _ _ e) g2
   ·cases hx
 ·simp only[QbN];exact apart2 a1 a2
 ·simp only[QbN,QbQ,Qbr,Qco,forall_eq_or_imp,forall_eq];omega
end
end PySem.ZZ
namespace PySem
namespace F
end F
end PySem
namespace PySem.ZZ
open PySem
section
variable {prog:Program} {w:World} {A:Around} {E:YA} {s:Shared}
structure Run (hb:Heap) (z TI TO:Addr) (ls:List Src) (rows:Nat->YE) (S:Addr) (ts:List Addr) (h:Heap):Prop where
 inc:ts.Pairwise (· < ·)
 lo:∀t∈ts,S < t/\t < h.objs.size
 at_:∀j t,ts[j]?=some t->Dl h t (rows j)
 keep:∀c o,hb.get? c=some o->h.get? c=some o
 hTI:Dl h TI (ls.map λx=>.ref x.it)
 hTO:∃olds,Dl h TO olds/\olds.length=ls.length
 src:∀x∈ls,SrcAt h x ts.length
 hz:(ts=[]/\IsZ h z TI TO .none (.bool false))\/∃(T:Addr) (f1:Value),ts[0]?=some T/\IsZ h z TI TO (rawInt T) f1
structure Below (hb:Heap) (z TI TO:Addr) (ls:List Src) (S:Addr):Prop where
 ap:Apart z TI TO ls
 old:hb.objs.size<=z/\hb.objs.size<=TI/\hb.objs.size<=TO/\∀x∈ls,hb.objs.size<=x.it
 lz:z < S
 lTI:TI < S
 lTO:TO < S
 it:∀x∈ls,x.it < S/\x.a < S
 base:hb.objs.size<=S
theorem Run.frame {hb:Heap} {z TI TO:Addr} {ls:List Src} {rows:Nat->YE} {S:Addr} {ts:List Addr} {h h':Heap} (B:Below hb z TI TO ls S) (r:Run hb z TI TO ls rows S ts h) (hs:h'.objs.size=h.objs.size) (k:∀c o,c≠S->h.get? c=some o->h'.get? c=some o):Run hb z TI TO ls rows S ts h':=by
 obtain⟨olds,o1,o2⟩:=r.hTO;refine⟨r.inc,λt ht=>by rw[hs];exact r.lo t ht,λj t e=>k _ _ (Qcd (r.lo t (QaE e)).1) (r.at_ j t e),λc o e=>k _ _ (Qcb (QaS (QbZ e) B.base)) (r.keep c o e),k _ _ (Qcb B.lTI) r.hTI,⟨olds,k _ _ (Qcb B.lTO) o1,o2⟩,λx hx=>?_,?_⟩
 ·exact (r.src x hx).keep (λo e=>k _ _ (Qcb (B.it x hx).1) e) (λo e=>k _ _ (Qcb (B.it x hx).2) e)
 ·rcases r.hz with⟨e,q⟩|⟨T,f1,e,q⟩
  ·exact .inl ⟨e,k _ _ (Qcb B.lz) q⟩
  ·exact .inr ⟨T,f1,e,k _ _ (Qcb B.lz) q⟩
theorem Run.more {hb:Heap} {z TI TO:Addr} {ls:List Src} {rows:Nat->YE} {S:Addr} {ts:List Addr} {h h':Heap} (B:Below hb z TI TO ls S) (r:Run hb z TI TO ls rows S ts h) (hS:S < h.objs.size) (hs:h'.objs.size=h.objs.size+1) (hr:Rest z TO ls h h')
  (hTI:Dl h' TI (ls.map λx=>.ref x.it)) (hTO:∃olds,Dl h' TO olds/\olds.length=ls.length) (src:∀x∈ls,SrcAt h' x (ts.length+1)) (new:Dl h' h.objs.size (rows ts.length)) (hz:∃(T:Addr) (f1:Value),(ts++[h.objs.size])[0]?=some T/\IsZ h' z TI TO (rawInt T) f1):Run hb z TI TO ls rows S (ts++[h.objs.size]) h':=by
 have fr:∀t,S < t->t≠z/\t≠TO/\t∉ls.map (·.it):=λt ht=>⟨λe=>by rw[e] at ht;exact Nat.lt_asymm ht B.lz,λe=>by rw[e] at ht;exact Nat.lt_asymm ht B.lTO,λe=>by
  obtain⟨x,hx,e'⟩:=QbY.mp e;rw[<-e'] at ht;exact Nat.lt_asymm ht (B.it x hx).1⟩
 refine⟨?_,λt ht=>?_,λj t e=>?_,λc o e=>?_,hTI,hTO,λx hx=>by rw[QaM];exact src x hx,.inr hz⟩
 ·exact List.pairwise_append.mpr ⟨r.inc,List.pairwise_singleton _ _,λa ha b hb'=>by
   have:b=h.objs.size:=by simpa using hb'
   rw[this];exact (r.lo a ha).2⟩
 ·rw[hs];rcases Qby.mp ht with ht | ht
  ·have:=r.lo t ht;exact⟨this.1,Nat.lt_succ_of_lt this.2⟩
  ·have:t=h.objs.size:=by simpa using ht
   rw[this];exact⟨hS,Nat.lt_succ_self _⟩
 ·by_cases c:j < ts.length
  ·rw[Qag c] at e;have hlo:=r.lo t (QaE e);obtain⟨f1,f2,f3⟩:=fr t hlo.1;exact hr t _ f1 f2 f3 (r.at_ j t e)
  ·rw[Qae (Nat.le_of_not_lt c)] at e;have hj:j - ts.length=0:=by
    have:=(Qaf.mp e).1;rw[Qax] at this;omega
   rw[hj] at e;cases e;have:j=ts.length:=by omega
   rw[this];exact new
 ·have hlt:=QbZ e;refine hr c o (λq=>?_) (λq=>?_) (λq=>?_) (r.keep c o e)
  ·rw[q] at hlt;exact absurd hlt (Nat.not_lt.mpr B.old.1)
  ·rw[q] at hlt;exact absurd hlt (Nat.not_lt.mpr B.old.2.2.1)
  ·obtain⟨x,hx,e'⟩:=QbY.mp q;rw[<-e'] at hlt;exact absurd hlt (Nat.not_lt.mpr (B.old.2.2.2 x hx))
end
end PySem.ZZ
namespace PySem.ZZ
open PySem
section
variable {prog:Program} {w:World} {A:Around} {E:YA} {s:Shared}
structure Rows (ls:List Src) (n:Nat) (rows:Nat->YE):Prop where
 row:∀j,j < n->(rows j).length=ls.length/\∀(k:Nat) (x:Src),ls[k]?=some x->∃v,(rows j)[k]?=some v/\x.items[j]?=some v
 stop:∃x∈ls,x.items[n]?=none
 ne:ls≠[]
 few:ls.length<=100
 most:n<=1000
end
end PySem.ZZ
namespace L2
open PySem PySem.Spec PyProof.Rows
section
variable {X:Cx} {jb:YC} {σ : St} {H:Hp} {s:Shared} {h':Heap}
end
section
variable {X:Cx}
end
theorem Gg {h:Heap} {p q:Addr} {o o':Obj} (e:h.get? p=some o) (e':h.get? q=some o') (n:o.cls≠o'.cls):p≠q:=λz=>by
 rw[z,e'] at e;cases e;exact n rfl
theorem Jp {h:Heap} {a:Addr} {xs ys:Array Value} (h1:h.IsList a xs) (h2:h.IsTuple a ys):False:=by
 obtain⟨o,e,c,_⟩:=h1;obtain⟨o',e',c',_⟩:=h2;rw[e'] at e;cases e;rw[c'] at c;injection c with q;exact absurd q (by decide)
section
variable {X:Cx}
end
mutual
inductive Km (K:YD) (H:Hp):V->PyData->Prop
 | non:Km K H .non .none
 | bl (b:Bool):Km K H (.bl b) (.bool b)
 | int (i:Int):Km K H (.int i) (.int i)
 | str (x:Str):Km K H (.str x) (.str x)
 | tup {a:Addr} {xs:YG} {ds:List PyData}:SqT K H a xs->G5 K H xs ds->Km K H (.ref a) (.tuple ds)
inductive G5 (K:YD) (H:Hp):YG->List PyData->Prop
 | nil:G5 K H [] []
 | cons {x:V} {d:PyData} {xs:YG} {ds:List PyData}:Km K H x d->G5 K H xs ds->G5 K H (x::xs) (d::ds)
end
section
variable {X:Cx} {jb:YC} {σ : St} {H:Hp} {s:Shared}
mutual
theorem Km.reads (I:Inv X jb σ H s):∀{v:V} {d:PyData} {u:Value},Km X.K H v d->RelV v u->∃as,Reads s.heap u d as
 | _,_,_,.non,r=>by cases (show _=Value.none from r);exact⟨_,.none⟩
 | _,_,_,.bl b,r=>by cases (show _=Value.bool b from r);exact⟨_,.bool b⟩
 | _,_,_,.int i,r=>by obtain⟨t,rfl⟩:=(show ∃t,_=Value.int i t from r);exact⟨_,.int i t⟩
 | _,_,_,.str x,r=>by obtain⟨t,rfl⟩:=(show ∃t,_=Value.str x t from r);exact⟨_,.str x t⟩
 | _,_,_,.tup (a:=a) (xs:=xs) e q,r=>by
  cases (show _=Value.ref a from r)
  obtain⟨its,rv,⟨o,ho,hc,n,hd⟩,_⟩:=I.tuple e;obtain⟨as,z⟩:=G5.reads I q rv;exact⟨_,.tuple ho hc hd (by simpa using z)⟩
theorem G5.reads (I:Inv X jb σ H s):∀{xs:YG} {ds:List PyData} {us:YE},G5 X.K H xs ds->Vals xs us->∃as,ReadsAll s.heap us ds as
 | _,_,_,.nil,.nil=>⟨_,.nil⟩
 | _,_,_,.cons p q,.cons r t=>by
  obtain⟨as,a1⟩:=Km.reads I p r;obtain⟨bs,b1⟩:=G5.reads I q t;exact⟨_,.cons a1 b1⟩
end
end
section
variable {X:Cx} {K:YD}
theorem Pz {es:YJ} {k:Nat} {pos:Pos} {t:TGs} {n:Nat} (hK:X.K=K) (hc:X.calm=true) (h:PGs X es t)
  (hn:(assignEach es X.env).length=n:=by rfl) (hst:(assignEach es X.env).findIdx? (·.1)=none:=by rfl):PG X (.Tuple es k pos) (uJ K n t):=hK ▸ Di hc h hn hst
end
end L2
namespace L2
open PySem PySem.Spec PyProof.Rows
abbrev nj:YE:=[.type "ValueError",.type "Exception",.type "BaseException",.type "object"]
structure XCl (K:YD) (C:Addr):Prop where
 ex:excIn K C nj "ValueError.__new__"=true
 ga:findIn K (.ref C) "__getattribute__"=some (some (.builtin "BaseException.__getattribute__"))
 gn:findIn K (.ref C) "__getattr__"=some none
 ca:findIn K (.ref C) "__class__"=some (some (.builtin "object.__class__"))
 mo:subIn K (.ref C) (.type "object")=some true
 mb:subIn K (.ref C) (.type "BaseException")=some true
 kp:keepIn K (.ref C)=true
section
variable {K:YD} {C:Addr}
theorem XCl.look (T:XCl K C):∃dd cd sl,K.lookup C=some ⟨.type "type",dd,.cls cd,sl⟩:=by
 have q:=T.ex;unfold excIn at q;split at q
 ·rename_i dd cd sl ho;exact⟨dd,cd,sl,ho⟩
 ·cases q
theorem XCl.obj (T:XCl K C) {h:Heap} (X:K.In h):∃bm N nm q bs hdct sn sub ab col dd k0 k1 k2 k3 k5 mN,h.get? C=some (excClassObj nm q C N bs bm hdct sn sub ab col dd k0 k1 k2 k3 k5 "ValueError.__new__")/\h.Ns N mN/\mN "__init__"=none/\OwnTail h nj bm:=by
 have q:=T.ex;unfold excIn at q;split at q
 ·rename_i dd cd sl ho;split at q
  ·rename_i C' bm k0 k1 k2 k3 n k5 hm hs;simp only[Qbs,beq_iff_eq,Bool.not_eq_true'] at q;obtain⟨⟨⟨⟨⟨rfl,rfl⟩,hdel⟩,ht⟩,hok⟩,hni⟩:=q;obtain⟨nm,bs,mro,ns,qn,hd,sn,sub,ab,col,del⟩:=cd;dsimp only at hm hdel hok hni;subst hm hdel;have hsl:sl=#[k0,k1,k2,k3,some (.builtin "ValueError.__new__"),k5]:=by
    obtain⟨l⟩:=sl;simp only at hs;rw[hs]
   subst hsl;exact⟨bm,ns,nm,qn,bs,hd,sn,sub,ab,col,dd,k0,k1,k2,k3,k5,_,X _ _ ho,.of_isNs (PySem.W.isNs_of_in X hok),PySem.W.nsMap_none_of_in X hok hni,PySem.W.tail_of_in X ht⟩
  ·cases q
 ·cases q
end
def XAt (a C:Addr) (h:Heap):Prop:=∃o vs,h.get? a=some o/\o.cls=.ref C/\o.data=.fields vs/\vs[2]?=some .none
section
variable {prog:Program} {w:World} {A:Around} {E:YA} {h:Heap} {g:Array GenState} {d:Drawn} {t:Nat} {os:OsState} {K:YD} {a C:Addr} {o:Obj}
theorem Z5 {R:Result->Shared->Prop} (X:K.In h) (T:XCl K C) (hx:h.get? a=some o) (hc:o.cls=.ref C) (hq:R (.ok (.ret (.ref C))) ⟨h,g,d,t,os⟩) :
  codeAny (model prog w) A (.call (.builtin "getset_descriptor.__get__") ⟨[.builtin "object.__class__",.ref a,.ref C],[]⟩) R ⟨h,g,d,t,os⟩:=by
 have hT5:(⟨h,g,d,t,os⟩ : Shared).TypeIs (.builtin "object.__class__") "getset_descriptor":=F.typeOf_object_class;have f8:PySem.W.Looks (model prog w) h (isSubtype (.ref C) (.type (".".intercalate ("object.__class__".cutAt '.').dropLast))) true:=by
  rw[F.owner_object_class];exact looks_subIn X T.mo
 refine codeAny_call_builtin F.slot_gs_get.plain F.entry_gs_get (F.slot_gs_get.check _ _ _ _ _ _ _ _ hT5 (F.args_gs_get _ _ _) ?_)
 repeat (any_goals (first | assumption | (with_reducible refine Qbk hx ?_;rw[hc]) | with_reducible refine f8.at ?_ | wp_step))
 refine⟨Code.quiet_builtin _ (by trivial),codeAny_builtin F.entry_object_class ?_⟩
 repeat (any_goals (first | assumption | (with_reducible refine Qbk hx ?_;rw[hc]) | wp_step))
theorem VB {tk:Tok} {Q:Fin->Shared->Prop} (X:K.In h) (T:XCl K C) (hx:h.get? a=some o) (hc:o.cls=.ref C) (hq:Q (.done (.ret (.ref C))) ⟨h,g,d,t,os⟩) :
  wpAny (model prog w) A (Builtin.«object.__getattribute__» ⟨[.ref a,.str "__class__" tk],[]⟩) Q E ⟨h,g,d,t,os⟩:=by
 have hT5:(⟨h,g,d,t,os⟩ : Shared).TypeIs (.builtin "object.__class__") "getset_descriptor":=F.typeOf_object_class;have f4:=PySem.W.looks_findIn (M:=model prog w) X T.ca;have f5:=F.typeOf_object_class;have f6:=F.slot_gs_get.lookup;have f7:=F.slot_gs_set.lookup
 repeat (any_goals (first | assumption | (with_reducible refine Qbk hx ?_;rw[hc]) | with_reducible refine f4.at ?_ | wp_step))
 refine Z5 X T hx hc ?_
 repeat (any_goals (first | assumption | wp_step))
theorem cT {M:Model} {nameV:Value} {Q:YH} (X:K.In h) (T:XCl K C) (hx:h.get? a=some o) (hc:o.cls=.ref C) (hq:Q () ⟨h,g,d,t,os⟩) :
  wpAny M A (checkBuiltinCall "BaseException.__getattribute__" ⟨[.ref a,nameV],[]⟩) Q E ⟨h,g,d,t,os⟩:=by
 have hk:builtinKind "BaseException.__getattribute__"=some .slot:=by trivial
 have hsplit:splitId "BaseException.__getattribute__"=some ("BaseException","__getattribute__"):=by trivial
 have f1:=looks_subIn (M:=M) X T.mb;have ha:=F.args_bexc_ga (.ref a) nameV;simp only[checkBuiltinCall,hk,hsplit];refine Qcj ?_
 ·unfold isInstance
  repeat (first | (with_reducible refine Qbk hx ?_;rw[hc]) | with_reducible refine f1.at ?_ | wp_step)
  exact hq
theorem X5 {tk:Tok} {R:Result->Shared->Prop} (X:K.In h) (T:XCl K C) (hx:h.get? a=some o) (hc:o.cls=.ref C) (hq:R (.ok (.ret (.ref C))) ⟨h,g,d,t,os⟩) :
  codeAny (model prog w) A (.call (.builtin "BaseException.__getattribute__") ⟨[.ref a,.str "__class__" tk],[]⟩) R ⟨h,g,d,t,os⟩:=
 codeAny_call_builtin F.attr_ValueError.ga.plain F.entry_bexc_ga (cT X T hx hc (VB X T hx hc hq))
theorem cR {tk:Tok} {fill expr:Bool} {Q:YA} (X:K.In h) (T:XCl K C) (hx:h.get? a=some o) (hc:o.cls=.ref C) (hq:Q (.ref C) ⟨h,g,d,t,os⟩) :
  wpAny (model prog w) A (getAttrBy (.ref a) (.str "__class__" tk) fill expr) Q E ⟨h,g,d,t,os⟩:=by
 have f1:=PySem.W.looks_findIn (M:=model prog w) X T.ga;have f2:=PySem.W.looks_findIn (M:=model prog w) X T.gn;have f3:=F.attr_ValueError.ga.bind (.ref a);have hx0:(expr&&onTheHeap (Value.builtin "BaseException.__getattribute__"))=false:=by cases expr <;> rfl
 have hx2:(Value.builtin "BaseException.__getattribute__" == Value.builtin "object.__getattribute__")=false:=by trivial
 have hx1:(onTheHeap (Value.ref C)&&Value.builtin "BaseException.__getattribute__" == Value.builtin "object.__getattribute__")=false:=by rw[hx2];rfl
 repeat (any_goals (first | assumption | (with_reducible refine Qbk hx ?_;rw[hc]) | with_reducible refine f1.at ?_ | with_reducible refine f2.at ?_ | wp_step))
 refine X5 X T hx hc ?_
 repeat (any_goals (first | assumption | wp_step))
theorem X6 {Q:Option Value->Shared->Prop} (X:K.In h) (T:XCl K C) (hx:h.get? a=some o) (hc:o.cls=.ref C) (hq:Q (some (.ref C)) ⟨h,g,d,t+1,os⟩):wpAny (model prog w) A (getAttr? (.ref a) "__class__") Q E ⟨h,g,d,t,os⟩:=by
 unfold getAttr? getAttrBy?
 repeat (any_goals (first | assumption | with_reducible apply cR X T hx hc | wp_step))
end
theorem kI {K:YD} {a C:Addr} (T:XCl K C):PySem.W.KitX K (.ref a) (.ref C) (XAt a C) where
 ty:=λM h X p=>by
  obtain⟨o,vs,h1,h2,_⟩:=p;exact h2 ▸ (PySem.W.Looks.ld h1).andThen .now
 it:=λ_ _ X _=>by
  obtain⟨dd,cd,sl,ho⟩:=T.look;intro A' Q' E' s' k q;unfold isType loadHead;exact Qcj (wpAny_loadPart (k _ _ (X _ _ ho)) (Qck q))
 ne:=λh tp dd its n sl X htp=>by
  obtain⟨_,cd,_,ho⟩:=T.look;refine Bool.eq_false_iff.mpr λq=>?_;have e:C=tp:=Value.ref.inj (beq_iff_eq.mp q);subst e;have z:=congrArg Obj.data (QbB ((X _ _ ho).symm.trans htp));cases z
 ca:=λ{_ _ _ _ _ s} X p k=>by
  obtain⟨h,g,d,t,os⟩:=s;obtain⟨o,vs,h1,h2,_⟩:=p;exact X6 X T h1 h2 k
def xo (a C:Addr):HO:=.ext (XAt a C)
section
variable {X:Cx} {jb:YC} {σ : St} {H:Hp} {s:Shared}
theorem vh {a C:Addr} (I:Inv X jb σ H s) (e:H a=some (xo a C)):XAt a C s.heap:=(show Cq X.prog X.w H s.heap a (xo a C) from I.hok a _ e).1
theorem RK {A:Around} {E:YA} {Q:YA} {a C:Addr} {c:Value} {b:Bool} (I:Inv X jb σ H s) (T:XCl X.K C) (e:H a=some (xo a C)) (k:kitOne X.K (.ref C) c=some b) (h:∀tk,Q (.bool b) { s with toks:=tk }) :
  wpAny (model X.prog X.w) A (call (.builtin "isinstance") [.ref a,c]) Q E s:=
 kia_one (kI T) I.kIn (vh I e) k (λz=>nomatch z) h
end
def XT (B:Heap) (e C:Addr) (fl:Option Value) (h:Heap):Prop:=
 ∃oe vs,h.get? e=some oe/\oe.cls=.ref C/\oe.data=.fields vs/\vs[2]?=some .none /\
  match fl with
  | none=>vs[1]?=some .none
  | some f=>∃T oT ts,vs[1]?=some (.ref T)/\B.get? T=none/\T≠e/\h.get? T=some oT/\oT.data=.fields ts/\ts[3]?=some f
structure Fl (B:Heap) (l:List Env) (e C:Addr) (fl:Option Value) (h:Heap):Prop where
 stays:B.StaysIn h
 new:B.get? e=none
 fr:h.FunFrames B l
 tr:XT B e C fl h
theorem XT.at {B h:Heap} {e C:Addr} {fl:Option Value} (x:XT B e C fl h):XAt e C h:=by
 obtain⟨oe,vs,h1,h2,h3,h4,_⟩:=x;exact⟨oe,vs,h1,h2,h3,h4⟩
section
variable {M:Model} {A:Around} {E:YA} {s:Shared} {B:Heap} {env:Env} {outer l:List Env} {L e C:Addr} {Q:YH}
theorem Xh {oe:Obj} {vs:Array Value} {head:Value} {hadNext:Bool} (hfr:A.frames=some (env::outer)) (hf:env.frame=some L) (st:B.StaysIn s.heap) (new:B.get? e=none) (fr:s.heap.FunFrames B (env::outer))
  (he:s.heap.get? e=some oe) (hc:oe.cls=.ref C) (hd:oe.data=.fields vs) (h2:vs[2]?=some .none) (hq:∀h',Fl B (env::outer) e C (some (rawInt L)) h'->s.heap.UpToSlots h'->Q () { s with heap:=h' }) :
  wpAny M A (do let fo <-frameOf env;let pl <-entryPlaceOf L hadNext;let tb <-EntryCells.newEntry head fo .none (rawInt L) .none pl;setField (.ref e) 1 tb) Q E s:=by
 have hsz:2 < vs.size:=(Qad.mp h2).1;have nf:e∉(env::outer).filterMap (·.frame):=λhm=>by
  obtain⟨_,of,hof,nof⟩:=fr.mem hm;rw[he] at hof;cases hof;exact nof vs hd
 refine Qcj (wpAny_frameOf_fun hfr fr hf λhA sA=>?_);refine Qcj (wpAny_entryPlaceOf λpl ipl=>?_);unfold EntryCells.newEntry newFields;refine Qcj (Qbg ?_ (ipl.sizeOk5 _ _ _ _ _));have eA:hA.get? e=some oe:=(sA.2.1 e nf).trans he;have stA:B.StaysIn hA:=λb o q=>(sA.2.1 b λhm=>by rw[(fr.mem hm).1] at q;cases q).trans (st b o q);have key:∀(ob:Obj) (ts:Array Value),ob.data=.fields ts->ob.isFreed=false->ts[3]?=some (rawInt L)->wpAny M A (setField (.ref e) 1 (.ref hA.objs.size)) Q E { s with heap:=hA.push ob }:=λob ts dT nfr iT=>by
  have eP:=Qar (h:=hA) ob eA;refine wpAny_setField eP hd (by omega) (hq _ ?_ ?_)
  ·have hTe:hA.objs.size≠e:=Qcd (QbZ eA);have dN:=Obj.data_mapFields hd (·.setIfInBounds 1 (Value.ref hA.objs.size));have eN:=Qay (Obj.mapFields (·.setIfInBounds 1 (Value.ref hA.objs.size))) eP (Obj.isFreed_of_fields dN);have keep:∀b o,b≠e->hA.get? b=some o->((hA.push ob).update e (Obj.mapFields (·.setIfInBounds 1 (Value.ref hA.objs.size)))).get? b=some o:=λb o hb q=>by
    rw[Qau _ _ (Ne.symm hb)];exact Qar _ q
   refine⟨λb o q=>keep b o (λz=>by rw[z,new] at q;cases q) (stA b o q),new,fr.of_keeps λb o q nb=>?_,⟨_,_,eN,(Obj.cls_mapFields _ _).trans hc,dN,?_,hA.objs.size,ob,ts,?_,stA.fresh,hTe,?_,dT,iT⟩⟩
   ·obtain⟨sl,q'⟩:=sA.2.2 b o q;exact⟨_,keep b _ (λz=>by rw[z,he] at q;cases q;exact nb vs hd) q',rq⟩
   ·rw[Array.getElem?_setIfInBounds_ne (by decide)];exact h2
   ·simp[show 1 < vs.size by omega]
   ·rw[Qau _ _ (Ne.symm hTe)];exact QaH hA nfr
  ·intro b o q nb;obtain⟨sl,q'⟩:=sA.2.2 b o q;refine⟨sl,?_⟩;rw[Qau _ _ (λz=>by rw[<-z,he] at q;cases q;exact nb vs hd)];exact Qar _ q'
 refine key _ _ rfl rfl ?_
 first | (simp;done) | (rcases ipl with rfl |⟨_,_,_,_,_,_,_,rfl⟩ <;> simp)
theorem ZL {fl:Option Value} (hfl:fl=none\/fl=some .none) (hfr:A.frames=some (env::outer)) (hf:env.frame=some L) (x:Fl B (env::outer) e C fl s.heap)
  (hq:∀h',Fl B (env::outer) e C (some (rawInt L)) h'->s.heap.UpToSlots h'->Q () { s with heap:=h' }):wpAny M A (noteFrame (.ref e) env) Q E s:=by
 obtain⟨st,new,fr,oe,vs,he,hc,hd,h2,ht⟩:=x;unfold noteFrame;simp only[hf];rcases hfl with rfl | rfl
 ·refine Qcj (Qcg he hd (show vs[1]?=some .none from ht) ?_)
  rw[if_neg (by decide)];exact Xh hfr hf st new fr he hc hd h2 hq
 ·obtain⟨T,oT,ts,h1,nT,hTe,hT,dT,iT⟩:=ht;refine Qcj (Qcg he hd h1 ?_);rw[if_pos (show (Value.ref T != Value.none)=true from by simp)]
  refine Qcj (Qcg hT dT iT ?_);rw[if_neg (show ¬((Value.none == rawInt L)=true) from by simp[rawInt])]
  refine Qcj (wpAny_setField hT dT (Qad.mp iT).1 ?_);have oth:∀b o,b≠T->s.heap.get? b=some o->(s.heap.update T (Obj.mapFields (·.setIfInBounds 3 Value.none))).get? b=some o:=λb o hb q=>(Qau _ _ (Ne.symm hb)).trans q;have WL:∀b o,s.heap.get? b=some o->(∀ws,o.data≠.fields ws)->b≠T:=λb o q nb z=>by rw[z,hT] at q;cases q;exact nb ts dT
  refine Xh (s:={ s with heap:=s.heap.update T (Obj.mapFields (·.setIfInBounds 3 Value.none)) }) hfr hf (λb o q=>oth b o (λz=>by rw[z,nT] at q;cases q) (st b o q)) new
   (fr.of_keeps λb o q nb=>⟨o,oth b o (WL b o q nb) q,rq⟩) (oth e oe (Ne.symm hTe) he) hc hd h2 λh' y u=>hq h' y ?_
  exact λb o q nb=>u b o (oth b o (WL b o q nb) q) nb
theorem Xg {f:Value} (x:Fl B l e C (some f) s.heap) (hq:∀h',Fl B l e C (some .none) h'->s.heap.UpToSlots h'->Q () { s with heap:=h' }):wpAny M A (setFlight (.ref e) none) Q E s:=by
 obtain⟨st,new,fr,oe,vs,he,hc,hd,h2,T,oT,ts,h1,nT,hTe,hT,dT,iT⟩:=x;have hsz:3 < ts.size:=(Qad.mp iT).1;have oth:∀b o,b≠T->s.heap.get? b=some o->(s.heap.update T (Obj.mapFields (·.setIfInBounds 3 Value.none))).get? b=some o:=λb o hb q=>(Qau _ _ (Ne.symm hb)).trans q;have WL:∀b o,s.heap.get? b=some o->(∀ws,o.data≠.fields ws)->b≠T:=λb o q nb z=>by rw[z,hT] at q;cases q;exact nb ts dT
 unfold setFlight;refine Qcj (Qcg he hd h1 ?_);rw[if_pos (show (Value.ref T != Value.none)=true from by simp)]
 refine wpAny_setField hT dT hsz (hq (s.heap.update T (Obj.mapFields (·.setIfInBounds 3 Value.none))) ⟨λb o q=>oth b o (λz=>by rw[z,nT] at q;cases q) (st b o q),new,fr.of_keeps λb o q nb=>⟨o,oth b o (WL b o q nb) q,rq⟩,?_⟩
  λb o q nb=>⟨o.slots,oth b o (WL b o q nb) q⟩)
 have dN:=Obj.data_mapFields dT (·.setIfInBounds 3 Value.none);exact⟨oe,vs,oth e oe (Ne.symm hTe) he,hc,hd,h2,T,_,_,h1,nT,hTe,Qay _ hT (Obj.isFreed_of_fields dN),dN,by simp[hsz]⟩
theorem mF {fl:Option Value} (hfl:fl=none\/fl=some .none) (hfr:A.frames=some (env::outer)) (hf:env.frame=some L) (x:Fl B (env::outer) e C fl s.heap)
  (hq:∀h',Fl B outer e C (some .none) h'->s.heap.UpToSlots h'->Q () { s with heap:=h' }):wpAny M A (leaving env (.ref e)) Q E s:=by
 unfold leaving;refine Qcj (ZL hfl hfr hf x λh1 y u1=>?_);refine Xg y λh2 z u2=>hq h2 ⟨z.stays,z.new,z.fr.2.2,z.tr⟩ (u1.trans u2)
end
theorem Cq.there {P:Program} {w:World} {H:Hp} {h:Heap} {a:Addr} {o:HO} (x:Cq P w H h a o):∃u,h.get? a=some u:=by
 cases o with
 | lst xs=>obtain⟨_,its,n,_,q⟩:=x;exact⟨_,q⟩
 | tup xs=>obtain⟨_,its,_,ob,q,_⟩:=x;exact⟨_,q⟩
 | dK kvs=>obtain⟨_,_,vs,_,ob,es,ep,q,_⟩:=x;exact⟨_,q⟩
 | dT kvs=>obtain⟨_,_,xs,_,ob,es,ep,q,_⟩:=x;exact⟨_,q⟩
 | set S n=>obtain⟨ob,es,ep,t,q,_⟩:=x;exact⟨_,q⟩
 | ins C dx fs=>obtain⟨_,_,_,q,_⟩:=x;exact⟨_,q⟩
 | own y=>exact x
 | xd fs=>obtain⟨mA,⟨od,es,ep,q,_⟩,_⟩:=x;exact⟨_,q⟩
 | rng lo hi=>obtain⟨t,u,v,q⟩:=x;exact⟨_,q⟩
 | frz ob u=>exact⟨_,x.1⟩
 | tbl ps=>exact⟨_,x⟩
 | met f y=>exact⟨_,x⟩
 | ext φ=>exact x.2.1
structure Exc (P:Program) (w:World) (outer:List Env) (H:Hp) (s:Shared) (e C:Addr) (B:Heap) (H':Hp) (s':Shared):Prop where
 os:s'.os=s.os
 bare:AllBare s'.gens
 fl:∃fl,(fl=none\/fl=some .none)/\Fl B outer e C fl s'.heap
 un:Un (frs outer) [] H H' s.heap s'.heap
 hok:HOk P w H' s'.heap
 tin:∀b o,s'.heap.get? b=some o->H' b≠none->B.get? b=some o
 old:∀b o,s.heap.get? b=some o->H b=none->b∉frs outer->B.get? b=some o
 ex:∀b o,s.heap.get? b=some o->b∉frs outer->∃o',B.get? b=some o'
def CX1 (P:Program) (w:World):CXT:=λouter H s E ev s'=>∃e C B H',ev=.ref e/\Exc P w outer H s e C B H' s'/\E (.ref C) none H'
section
variable {P:Program} {w:World} {outer:List Env} {H H':Hp} {s s':Shared} {e C:Addr} {B h2:Heap} {fl:Option Value}
theorem Exc.nO (x:Exc P w outer H s e C B H' s') (st:B.StaysIn h2):HOk P w H' h2:=λa o q=>
 (x.hok a o q).stay (λb u hb hu=>st b u (x.tin b u hu (by
  rcases hb with rfl | hb
  ·rw[q];exact λz=>nomatch z
  ·rw[hb];exact λz=>nomatch z))) (λ_ z=>z) λ_ _ z=>z
theorem Exc.wR (x:Exc P w outer H s e C B H' s') (f:Fl B outer e C fl h2) (u:s'.heap.UpToSlots h2):Un (frs outer) [] H H' s.heap h2:=by
 refine⟨λb o q n hb _=>f.stays b o (x.old b o q n hb),λb o q n hb hx=>?_,x.un.free,λb o q hx=>?_,x.un.tups,x.un.Gy,x.un.Hz⟩
 ·obtain⟨sl,q1⟩:=x.un.slot b o q n hb hx;obtain⟨_,_,g⟩:=x.fl;obtain⟨_,o1,q2,nf⟩:=g.fr.mem hb;rw[q1] at q2;cases q2;obtain⟨sl2,q3⟩:=u b _ q1 nf;exact⟨sl2,q3⟩
 ·by_cases hb:b∈frs outer
  ·obtain⟨_,o1,q2,_⟩:=f.fr.mem hb;exact⟨o1,q2⟩
  ·obtain⟨o1,q1⟩:=x.ex b o q hb;exact⟨o1,f.stays b o1 q1⟩
theorem Exc.vm (x:Exc P w outer H s e C B H' s') (st:B.StaysIn h2):∀b o,h2.get? b=some o->H' b≠none->B.get? b=some o:=λb o q hb=>by
 cases hq:H' b with
 | none=>exact absurd hq hb
 | some v=>
  obtain⟨o1,q1⟩:=(x.hok b v hq).there;have q2:=x.tin b o1 q1 hb;have q3:=st b o1 q2;rw[q] at q3;cases q3;exact q2
theorem Exc.free (x:Exc P w outer H s e C B H' s'):H' e=none:=by
 cases hq:H' e with
 | none=>rfl
 | some v=>
  obtain⟨o1,q1⟩:=(x.hok e v hq).there;have q2:=x.tin e o1 q1 (by rw[hq];exact λz=>nomatch z);obtain⟨_,_,g⟩:=x.fl;rw[g.new] at q2;cases q2
theorem Exc.fresh (x:Exc P w outer H s e C B H' s'):s.heap.get? e=none:=by
 cases hq:s.heap.get? e with
 | none=>rfl
 | some o=>
  obtain⟨_,_,g⟩:=x.fl;by_cases hb:e∈frs outer
  ·obtain⟨_,o1,q1,nf⟩:=g.fr.mem hb;obtain⟨oe,vs,q2,_,q3,_⟩:=g.tr;rw[q1] at q2;cases q2;exact absurd q3 (nf vs)
  ·obtain⟨o1,q1⟩:=x.ex e o hq hb;rw[g.new] at q1;cases q1
end
section
variable {X:Cx} {jb:YC} {σ : St} {H H':Hp} {s s':Shared} {e C:Addr} {B h2:Heap} {fl:Option Value}
theorem Exc.made {args:YE} {h':Heap} (I:Inv X jb σ H s) (hx:Heap.MadeExcOf s.heap h' e (.ref C) args):Exc X.prog X.w X.stack H s e C (hideAll s.heap (frs X.stack)) H { s with heap:=h' }:=by
 have st:(hideAll s.heap (frs X.stack)).StaysIn s.heap:=λb o q=>PySem.W.of_hideAll _ q;refine⟨rq,I.bare,⟨none,.inl rfl,⟨λb o q=>hx.keeps b o (st b o q),?_,?_,?_⟩⟩,Un.kept hx.keeps,I.hok.kept hx.keeps,λb o q hb=>?_,λb o q n hb=>hideAll_get _ q hb,λb o q hb=>⟨o,hideAll_get _ q hb⟩⟩
 ·cases hq:(hideAll s.heap (frs X.stack)).get? e with
  | none=>rfl
  | some o=>
   have q:=st e o hq;rw[hx.new] at q;cases q
 ·have f0:s.heap.FunFrames (hideAll s.heap (frs X.stack)) X.stack:=PySem.W.funFrames_hide I.stack λenv he a ha=>List.mem_filterMap.mpr ⟨env,he,ha⟩;exact f0.of_keeps λb o q _=>⟨o,hx.keeps b o q,rq⟩
 ·obtain⟨t,q,_⟩:=hx.there;exact⟨_,_,q,rq,rq,rq,rq⟩
 ·cases hq:H b with
  | none=>exact absurd hq hb
  | some v=>
   obtain⟨o1,q1⟩:=(I.hok b v hq).there;have q2:=hx.keeps b o1 q1;have q':h'.get? b=some o:=q;rw[q'] at q2;cases q2;refine hideAll_get _ q1 λhm=>?_;rw[I.Sh b hm] at hq;cases hq
theorem Exc.leave {M:Model} {E1:YA} {Q:YH} (I:Inv X jb σ H s) (hs:X.stack=X.env::X.outer) (hf:X.env.frame=some X.env.locals) (hx:X.ex=[]) (x:Exc X.prog X.w X.stack H s e C B H' s')
  (hq:∀h2,Exc X.prog X.w X.outer X.H₀ X.s₀ e C B H' { s' with heap:=h2 }->Q () { s' with heap:=h2 }):wpAny M X.A (leaving X.env (.ref e)) Q E1 s':=by
 obtain⟨fl,hfl,f⟩:=x.fl;have f':=f;rw[hs] at f';have nl:∀b o,X.s₀.heap.get? b=some o->b≠X.env.locals:=λb o q=>Qcb (QaS (QbZ q) I.ok.above);have ns:∀b o,X.s₀.heap.get? b=some o->b∉X.fs->b∉frs X.stack:=λb o q hb hm=>(QbQ.mp (I.Rj b hm)).elim (nl b o q) hb;have uK:∀b,b∈X.fs->b∈frs X.stack:=λb hb=>by
  rw[hs];unfold frs;rw[List.filterMap_cons,hf];exact QaD _ hb
 have nx:∀b:Addr,b∉X.ex:=λb=>by rw[hx];simp
 refine mF hfl (I.ok.frames.trans (congrArg some hs)) hf f' λh2 g u=>hq h2 ⟨x.os.trans I.os,x.bare,⟨_,.inr rfl,g⟩,?_,x.nO g.stays,x.vm g.stays,λb o q n hb=>?_,λb o q hb=>?_⟩
 ·refine⟨λb o q n hb _=>?_,λb o q n hb _=>?_,λb o q n _=>?_,λb o q _=>?_,λb xs q=>x.un.tups b xs (I.base.tups b xs q),λb o v q=>x.un.Gy b o v (I.base.Gy b o v q),λb ps q=>?_⟩
  ·exact g.stays b o (x.old b o (I.base.keep b o q n hb (nx b)) (I.base.free b o q n (nx b)) (ns b o q hb))
  ·obtain⟨sl,q1⟩:=I.base.slot b o q n hb (nx b);obtain⟨sl2,q2⟩:=x.un.slot b _ q1 (I.base.free b o q n (nx b)) (uK b hb) (by simp);obtain⟨_,o1,q3,nf⟩:=f.fr.mem (uK b hb);rw[q2] at q3;cases q3;obtain⟨sl3,q4⟩:=u b _ q2 nf;exact⟨sl3,q4⟩
  ·obtain⟨o1,q1⟩:=I.base.there b o q (nx b);exact x.un.free b o1 q1 (I.base.free b o q n (nx b)) (by simp)
  ·by_cases hb:b∈X.fs
   ·obtain⟨_,o1,q1,_⟩:=g.fr.mem hb;exact⟨o1,q1⟩
   ·obtain⟨o1,q1⟩:=I.base.there b o q (nx b);obtain⟨o2,q2⟩:=x.ex b o1 q1 (ns b o q hb);exact⟨o2,g.stays b o2 q2⟩
  ·obtain⟨m1,q1⟩:=I.base.Hz b ps q;obtain⟨m2,q2⟩:=x.un.Hz b _ q1;exact⟨m1++m2,by rw[q2,Array.append_assoc]⟩
 ·exact x.old b o (I.base.keep b o q n hb (nx b)) (I.base.free b o q n (nx b)) (ns b o q hb)
 ·obtain⟨o1,q1⟩:=I.base.there b o q (nx b);exact x.ex b o1 q1 (ns b o q hb)
theorem Exc.caught (I:Inv X jb σ H s) (x:Exc X.prog X.w X.stack H s e C B H' s') (f:Fl B X.stack e C fl h2) (u:s'.heap.UpToSlots h2):Inv X jb σ (upd H' e (xo e C)) { s' with heap:=h2 }:=by
 have v:=x.wR f u;have he:=x.fresh;have hn:=x.free;have ne:∀b o,s.heap.get? b=some o->b≠e:=λb o q z=>by rw[z,he] at q;cases q
 have un:Un (frs X.stack) [] H (upd H' e (xo e C)) s.heap h2:=⟨v.keep,v.slot,λb o q n hx=>by rw[Az (ne b o q)];exact v.free b o q n hx,v.there,λb xs q=>by rw[Az (Aq (v.tups b xs q) hn)];exact v.tups b xs q,
  λb o w q=>by rw[Az (Aq (v.Gy b o w q) hn)];exact v.Gy b o w q,λb ps q=>by
   obtain⟨m,q1⟩:=v.Hz b ps q;exact⟨m,by rw[Az (Aq q1 hn)];exact q1⟩⟩
 have hok:HOk X.prog X.w (upd H' e (xo e C)) h2:=λb o q=>by
  by_cases hb:b=e
  ·subst hb;rw[Ac] at q;cases q;have at_:=f.tr.at;refine⟨at_,?_,λh1 h3 p k=>?_⟩
   ·obtain⟨oe,vs,q1,_⟩:=at_;exact⟨oe,q1⟩
   ·obtain⟨oe,vs,q1,q2⟩:=p;exact⟨oe,vs,k oe q1,q2⟩
  ·rw[Az hb] at q;exact (x.nO f.stays b o q).stay (λc w _ q1=>q1) (λc q1=>by rw[Az (Aq q1 hn)];exact q1) λc xs q1=>by rw[Az (Aq q1 hn)];exact q1
 exact I.call' (s':={ s' with heap:=h2 }) x.os un hok x.bare λb z=>absurd z (by simp)
end
def Qe (X:Cx) (EX:St->XK):Prop:=∀(jb:YC) (σ : St) (H:Hp) (s:Shared) (ev:Value) (s':Shared),Inv X jb σ H s->CX1 X.prog X.w X.stack H s (EX σ) ev s'->X.xe ev s'
theorem jL {P:Program} {w:World} {K:YD} {mg:YB} {base:Heap} {N:YF} {qual:Str} {scope:Scope} {f:Addr} {cd:Value} {A:Around} {outer:List Env} {s:Shared} {H:Hp} {E:XK} :
  Qe (Ig (CX1 P w) P w K mg base N qual scope f cd A outer s H E) (λ_=>E):=λjb σ H1 s1 ev s' I h=>by
 obtain⟨e,C,B,H',rfl,x,q⟩:=h;exact x.leave I rfl rfl rfl λh2 y=>⟨e,C,B,H',rq,y,q⟩
def qR (C:Addr) (EX:St->XK) (t:TA):TS:=λ_ σ H=>t σ H λvs H1=>vs.length<=sizeLine/\EX σ (.ref C) none H1
theorem Wi {X:Cx} {EX:St->XK} {C:Addr} {x:Str} {np cpos pos:Pos} {e:Expr} {es:YJ} {t:TA} (hc:X.calm=true) (T:XCl X.K C) (hg:Gl X x) (hm:X.mg x=some (.ref C)) (hx:Qe X EX) (ha:PA X (e::es) t)
  (hdb:(x == ("__debug__":Str))=false:=by decide) (he:starEach (e::es) X.env=(false,eval e X.env)::starEach es X.env:=by rfl) (hpl:(backTo cpos (starEach es X.env)).any (·.1)=false:=by rfl) :
  PS X (.Raise (some (.Call (.Name x np) (e::es) [] cpos)) none pos) (qR C EX t):=by
 intro jb s σ H D I h;obtain⟨bm,N,nm,q,bs,hdct,sn,sub,ab,col,dd,k0,k1,k2,k3,k5,mN,hC,hN,hni,TL⟩:=T.obj I.mod.kin;refine wpAny_Raise_call_subT F.excBase_ValueError (bm:=bm) (nm:=nm) (C:=C) (q:=q) (bs:=bs) (N:=N) (sn:=sn) (hdct:=hdct) (sub:=sub) (col:=col) (ab:=ab) (dd:=dd) (k5:=k5) (k3:=k3) (k2:=k2) (k1:=k1) (k0:=k0) (TL.hasType (by trivial)) (I.ok.hd hc) (by rw[he];show (false || (backTo cpos (starEach es X.env)).any (·.1))=false;rw[hpl];rfl) hni (KC I hg hm ⟨rfl,?_⟩ hdb);have h2:=ha cpos jb s σ H _ I h;rw[he] at h2 ⊢;refine Calls.evalArgs_plain (thn h2 λus s2 zz=>?_);obtain⟨vs,H2,I2,r,hl,hE⟩:=zz;refine⟨rq,?_⟩;refine⟨by rw[<-r.length];exact hl,I2.bk _ _ hC,hN.keeps I2.bk,TL.keeps I2.bk,λh' ea mx=>?_⟩;exact hx jb σ H2 s2 (.ref ea) { s2 with heap:=h' } I2 ⟨ea,C,_,H2,rq,Exc.made I2 mx,hE⟩
structure Vv (P:Program) (w:World) (K:YD) (mg:YB) (base:Heap) (x:Str) (k:Nat) (ps:YF) (sp:Sp):Prop where
 ex:∃(f:Addr) (fd:FuncData),mg x=some (.ref f)/\keepIn K (.ref f)=true/\Binds K fd ps []/\Jf P w K mg base (CX1 P w) k f fd ps sp
theorem Code.wA {P:Program} {w:World} {K:YD} {mg:YB} {base:Heap} {x:Str} {st:Stmt} {ps N:YF} {k:Nat} {sp:Sp} (C:Code K mg x st ps) (S:Bf N ps (Al st)) (len:∀vs H Q E,sp vs H Q E->vs.length=ps.length)
  (hbody:∀(X:Cx) (f:Addr) (cdv:Value) (A:Around) (outer:List Env) (s:Shared) (H:Hp) (vs:YG) (Q:VK) (E:XK),X=Ig (CX1 P w) P w K mg base N x (Al st) f cdv A outer s H E->Qe X (λ_=>E)->Dq k X.A->sp vs H Q E ->
   ∃t,PSs X (Dd st) t/\t { nx:=λ_ H'=>Q .non H',rt:=Q } (start N vs) H):Vv P w K mg base x (k+1) ps sp:=by
 obtain⟨f,fd,F,m,b⟩:=C.ex;refine⟨f,fd,m,F.kp,b,?_⟩;obtain⟨oc,od,kV,doc,pm,an,cdv,ct,osl,rfl,lk,hcd⟩:=F.ex;exact nR lk hcd S len λA outer s H vs Q E hr hsp=>hbody _ f cdv A outer s H vs Q E rfl jL hr hsp
def qU (sp:Sp) (EX:St->XK) (t:TA):TE:=fun σ H Q=>t σ H λvs H1=>sp vs H1 Q (EX σ)
theorem rR {X:Cx} {EX:St->XK} {k k':Nat} {ps:YF} {sp:Sp} {x:Str} {p pos:Pos} {e:Expr} {es:YJ} {t:TA} (g:Vv X.prog X.w X.K X.mg X.base x k ps sp) (hr:Dq k' X.A) (hx:Qe X EX) (ha:PA X (e::es) t) (hk:k<=k':=by decide)
  (hg:Gl X x:=by rfl) (hdb:(x == ("__debug__":Str))=false:=by decide) (he:starEach (e::es) X.env=(false,eval e X.env)::starEach es X.env:=by rfl) (hpl:(backTo pos (starEach es X.env)).any (·.1)=false:=by rfl) :
  PE X (.Call (.Name x p) (e::es) [] pos) (qU sp EX t):=by
 intro jb s σ H Q I h;obtain⟨f,fd,m,kp,b,F⟩:=g.ex;refine QaX (KC I hg m ?_ hdb);refine PySem.W.callWith_K (h₀:=X.base) I.ok.mod.kin kp (thn (ha pos jb s σ H _ I h) λus s1 zz=>?_) he hpl;obtain⟨vs,H1,I1,r,q⟩:=zz;refine⟨I1.kIn,?_⟩;have hl:us.length=ps.length:=by rw[<-r.length];exact F.len _ _ _ _ q
 have bd:=b s1 us I1.kIn (by rw[QbA];exact hl);rw[QbA] at bd;refine wpAny_call (codeAny_mono (F.run X.A X.stack s1 H1 ⟨us,[]⟩ us vs Q (EX σ) (hr.mono hk) I1.env0 bd r q) λrr s' hq=>?_);cases rr with
 | error ev=>exact hx jb σ H1 s1 ev s' I1 hq
 | ok fl=>
  cases fl with
  | ret u=>exact I1.after hq
  | next=>exact False.elim hq
  | brk=>exact False.elim hq
  | cont=>exact False.elim hq
section
variable {M:Model} {A:Around} {E:YA} {h:Heap} {g:Array GenState} {d:Drawn} {t:Nat} {os:OsState} {K:YD} {e C HC:Addr}
theorem qK {Q:Bool->Shared->Prop} (X:K.In h) (TH:XCl K HC) (hs:subIn K (.ref C) (.ref HC)=some true) (x:XAt e C h) (hq:Q true ⟨h,g,d,t,os⟩):wpAny M A (excMatches (.ref e) (.ref HC)) Q E ⟨h,g,d,t,os⟩:=by
 obtain⟨oe,vs,he,hc,_⟩:=x;obtain⟨dd,cd,sl,ho⟩:=TH.look;have hH:=X _ _ ho;have f1:=looks_subIn (M:=M) X TH.mb;have f2:=looks_subIn (M:=M) X hs;have f3:=tc_notTuple;unfold excMatches
 repeat (first | (with_reducible refine Qbk he ?_;rw[hc]) | with_reducible refine Qbk hH ?_ | with_reducible refine f1.at ?_ | with_reducible refine f2.at ?_ | wp_step)
 exact hq
end
abbrev Cx.by (X:Cx) (pn:YC) (E:YA):Cx:={ X with pn:=pn,xe:=E }
abbrev Cx.suite (X:Cx) (pn:YC) (ev:Value):Cx:={ X with pn:=pn,xe:=λ_ _=>False,A:=X.A.mark (some ev),calm:=false }
section
variable {X:Cx} {jb Gk pn:YC} {σ : St} {H:Hp} {s:Shared} {E:YA} {ev:Value}
theorem Inv.by (I:Inv X jb σ H s) (E:YA):Inv (X.by (X.pn++jb) E) [] σ H s:=
 ⟨⟨I.ok.mod,I.ok.kind,I.ok.glob,I.ok.blt,I.ok.above,I.ok.inj,I.ok.has,I.ok.cab,I.ok.hd,I.ok.frames,I.ok.stk,I.ok.exf,I.ok.bs,I.ok.bsz,I.ok.K7,I.ok.Kh,I.ok.FW,I.ok.frf⟩,I.os,I.bare,I.base,I.loc,I.cell,I.free,I.Fj,
  λp hp=>I.pin p (by simpa using hp),I.hok,I.len⟩
theorem Inv.M7 (I:Inv (X.by (X.pn++jb) E) Gk σ H s):Inv X jb σ H s:=
 ⟨⟨I.ok.mod,I.ok.kind,I.ok.glob,I.ok.blt,I.ok.above,I.ok.inj,I.ok.has,I.ok.cab,I.ok.hd,I.ok.frames,I.ok.stk,I.ok.exf,I.ok.bs,I.ok.bsz,I.ok.K7,I.ok.Kh,I.ok.FW,I.ok.frf⟩,I.os,I.bare,I.base,I.loc,I.cell,I.free,I.Fj,
  λp hp=>I.pin p (QaF _ hp),I.hok,I.len⟩
theorem Inv.suite (I:Inv (X.by pn E) Gk σ H s) (ev:Value):Inv (X.suite pn ev) Gk σ H s:=
 ⟨⟨I.ok.mod,I.ok.kind,I.ok.glob,I.ok.blt,I.ok.above,I.ok.inj,I.ok.has,I.ok.cab,(λz=>nomatch z),I.ok.frames,I.ok.stk,I.ok.exf,I.ok.bs,I.ok.bsz,I.ok.K7,I.ok.Kh,I.ok.FW,I.ok.frf⟩,I.os,I.bare,I.base,I.loc,I.cell,I.free,I.Fj,
  I.pin,I.hok,I.len⟩
theorem Inv.Pr (hd:X.calm=true->X.A.handled=none) (I:Inv (X.suite (X.pn++jb) ev) Gk σ H s):Inv X jb σ H s:=
 ⟨⟨I.ok.mod,I.ok.kind,I.ok.glob,I.ok.blt,I.ok.above,I.ok.inj,I.ok.has,I.ok.cab,hd,I.ok.frames,I.ok.stk,I.ok.exf,I.ok.bs,I.ok.bsz,I.ok.K7,I.ok.Kh,I.ok.FW,I.ok.frf⟩,I.os,I.bare,I.base,I.loc,I.cell,I.free,I.Fj,
  λp hp=>I.pin p (QaF _ hp),I.hok,I.len⟩
theorem SP.M7 {D:Ends} {f:Flow} (h:SP (X.by (X.pn++jb) E) Gk D f s):SP X jb D f s:=by
 cases f with
 | next=>obtain⟨σ',H',I,q⟩:=h;exact⟨σ',H',I.M7,q⟩
 | brk=>obtain⟨σ',H',I,q⟩:=h;exact⟨σ',H',I.M7,q⟩
 | cont=>obtain⟨σ',H',I,q⟩:=h;exact⟨σ',H',I.M7,q⟩
 | ret u=>obtain⟨v,σ',H',I,r,q⟩:=h;exact⟨v,σ',H',I.M7,r,q⟩
theorem P0 {M:Model} {A:Around} {E1:YA} {i:Nat} {n:Str} {pos:Pos} {Q:YH} (I:Inv X jb σ H s) (hN:X.N.Nodup) (hi:X.N[i]?=some n) (hl:X.env.scope.names.lookup n=some .local)
  (hq:∀s',Inv X jb (σ.set i none) H s'->Q () s'):wpAny M A (do bindName X.env n .none;unbindBehindTheSuite X.env n pos) Q E1 s:=by
 obtain⟨m,hn,hm⟩:=id I.loc;have hcls:(X.env.scope.kind == .class || (X.env.scope.kind == .module&&X.env.locals != X.env.globals))=false:=by rw[I.ok.kind];rfl
 refine wpAny_nameGoes_keeps hl hn hcls λh' v nsv sb=>?_;have hiσ : i < σ.length:=by rw[I.len];exact (Qaf.mp hi).1
 obtain⟨oL,_,_,hoL,_⟩:=id hn;have below:∀b o,X.s₀.heap.get? b=some o->b≠X.env.locals:=λb o q=>Qcb (QaS (QbZ q) I.ok.above);refine hq _ ⟨I.ok,I.os,I.bare,⟨λb o q nn hb hx=>?_,λb o q nn hb hx=>?_,I.base.free,λb o q hx=>?_,I.base.tups,I.base.Gy,I.base.Hz⟩,⟨_,nsv,λj y w e1 e2 e3=>?_⟩,λy c q=>?_,I.free,I.Fj,λp hp=>?_,λb ob q=>?_,?_⟩
 ·exact (sb.2 b (below b o q)).trans (I.base.keep b o q nn hb hx)
 ·obtain⟨sl,q1⟩:=I.base.slot b o q nn hb hx;exact⟨sl,(sb.2 b (below b o q)).trans q1⟩
 ·obtain⟨o',q1⟩:=I.base.there b o q hx;exact⟨o',(sb.2 b (below b o q)).trans q1⟩
 ·by_cases hj:j=i
  ·subst hj;rw[List.getElem?_set_self hiσ] at e2;cases e2
  ·rw[List.getElem?_set_ne (Ne.symm hj)] at e2;obtain⟨u,r,q⟩:=hm j y w e1 e2 e3;refine⟨u,r,?_⟩;rcases q with⟨k,q⟩|⟨k,c,q,z⟩
   ·have ny:y≠n:=λz=>hj (QM hN e1 (z ▸ hi));exact .inl ⟨k,by simp[ny,q]⟩
   ·exact .inr ⟨k,c,q,z.sameBut sb (I.cne y c q)⟩
 ·obtain⟨u,z⟩:=I.cell y c q;exact⟨u,z.sameBut sb (I.cne y c q)⟩
 ·obtain⟨q,nn,ne,nf,dd⟩:=I.pin p hp;exact⟨(sb.2 p.1 ne).trans q,nn,ne,nf,dd⟩
 ·refine (I.hok b ob q).stay (λc u hc q1=>(sb.2 c ?_).trans q1) (λ_ z=>z) λ_ _ z=>z;rintro rfl;rcases hc with rfl | hc
  ·rw[I.free] at q;cases q
  ·rw[I.free] at hc;cases hc
 ·rw[List.length_set];exact I.len
end
def Ends.drop (D:Ends) (i:Nat):Ends where
 nx:=fun σ H=>D.nx (σ.set i none) H
 rt:=D.rt
 bk:=fun σ H=>D.bk (σ.set i none) H
 ct:=fun σ H=>D.ct (σ.set i none) H
def cj (K:YD) (HC:Addr) (i:Nat) (th:Addr->TS) (D:Ends):St->XK:=fun σ cls _ H=>∃C,cls=.ref C/\XCl K C/\subIn K (.ref C) (.ref HC)=some true/\∀e,H e=none->th e (D.drop i) (σ.set i (some (.ref e))) (upd H e (xo e C))
def wX (K:YD) (HC:Addr) (i:Nat) (tb:(St->XK)->TS) (th:Addr->TS):TS:=λD σ H=>tb (cj K HC i th D) D σ H
theorem rJ {X:Cx} {HC:Addr} {i:Nat} {n x:Str} {tb:(St->XK)->TS} {th:Addr->TS} {body suite:List Stmt} {b₀ : Stmt} {np hpos pos:Pos} (hN:X.N.Nodup) (hi:X.N[i]?=some n) (hl:X.env.scope.names.lookup n=some .local) (hst:X.stack=X.env::X.outer)
  (hf:X.env.frame=some X.env.locals) (hg:Gl X x) (hm:X.mg x=some (.ref HC)) (TH:XCl X.K HC)
  (h1:∀pn E1 EX,Qe (X.by pn E1) EX->PSs (X.by pn E1) body (tb EX)) (h2:∀pn (e:Addr),PSs (X.suite pn (.ref e)) (b₀::suite) (th e)) (hdb:(x == ("__debug__":Str))=false:=by decide) :
  PS X (.Try body [.ExceptHandler (some (.Name x np)) (some n) (b₀::suite) hpos] [] [] pos) (wX X.K HC i tb th):=by
 intro jb s σ H D I h;have hfr:X.A.frames=some (X.env::X.outer):=I.ok.frames.trans (congrArg some hst);let E1:YA:=λev s''=>∃(Gk:YC) (σ':St) (H':Hp) (s':Shared),Inv (X.by (X.pn++jb) λ_ _=>False) Gk σ' H' s'/\CX1 X.prog X.w X.stack H' s' (cj X.K HC i th D σ') ev s'';have hp:Qe (X.by (X.pn++jb) E1) (cj X.K HC i th D):=λGk σ' H' s' ev s'' I' c=>⟨Gk,σ',H',s',⟨⟨I'.ok.mod,I'.ok.kind,I'.ok.glob,I'.ok.blt,I'.ok.above,I'.ok.inj,I'.ok.has,I'.ok.cab,I'.ok.hd,I'.ok.frames,I'.ok.stk,I'.ok.exf,I'.ok.bs,I'.ok.bsz,I'.ok.K7,I'.ok.Kh,I'.ok.FW,I'.ok.frf⟩,I'.os,I'.bare,I'.base,I'.loc,I'.cell,I'.free,I'.Fj,I'.pin,I'.hok,I'.len⟩,c⟩;refine wpAny_Try_except (Qcl (h1 _ E1 _ hp [] s σ H D (I.by E1) h) (λf s1 q=>?_) λev s1 q=>?_)
 ·cases f with
  | next=>exact wpAny_execs_nil q.M7
  | brk=>exact q.M7
  | cont=>exact q.M7
  | ret u=>exact q.M7
 ·obtain⟨Gk,σ',H',s',I',e,C,B,H2,rfl,x1,D1,hC,T,hs,hth⟩:=q;cases hC;obtain⟨fl,hfl,f0⟩:=x1.fl;rw[hst] at f0;refine ZL hfl hfr hf f0 λha fa ua=>?_;refine Xg fa λhb fb ub=>?_;have fb':Fl B X.stack e C (some .none) hb:=by rw[hst];exact fb
  have J:=Exc.caught I' x1 fb' (ua.trans ub);have JS:=J.suite (Value.ref e);refine wpAny_handleBy_cons (codeAny_handlers_test (KC JS hg hm ?_ hdb)) (by intro q;cases q);refine qK JS.kIn TH hs fb.tr.at (codeAny_handlers_suite_as ?_);refine Xg fb λhc fc uc=>?_;have fc':Fl B X.stack e C (some .none) hc:=by rw[hst];exact fc
  have J2:=(Exc.caught I' x1 fc' ((ua.trans ub).trans uc)).suite (Value.ref e);refine M8 (X:=X.suite (X.pn++jb) (.ref e)) (v:=.ref e) (i:=i) J2 hN hi (.inl hl) rfl (λs4 J4=>?_) (.inr hl);refine Qcl (h2 _ _ Gk s4 _ _ (D.drop i) J4 (hth e x1.free)) (λf s5 q=>?_) λ_ _ z=>z.elim;cases f with
  | next=>
   obtain⟨σ5,H5,I5,q5⟩:=q;exact P0 (I5.Pr I.ok.hd) hN hi hl λs6 I6=>⟨_,_,I6,q5⟩
  | brk=>
   obtain⟨σ5,H5,I5,q5⟩:=q;exact P0 (I5.Pr I.ok.hd) hN hi hl λs6 I6=>⟨_,_,I6,q5⟩
  | cont=>
   obtain⟨σ5,H5,I5,q5⟩:=q;exact P0 (I5.Pr I.ok.hd) hN hi hl λs6 I6=>⟨_,_,I6,q5⟩
  | ret u=>
   obtain⟨v5,σ5,H5,I5,r5,q5⟩:=q;exact P0 (I5.Pr I.ok.hd) hN hi hl λs6 I6=>⟨v5,_,_,I6,r5,q5⟩
structure Jy (k:Nat) (A:Around):Prop where
 dp:A.depth+3*k+5 < recursionLimit
 un:A.units+16*k+200 < cLine
theorem Dq.inH {k:Nat} {A:Around} (r:Dq k A) (h:Option Value):Jy k (A.mark h):=⟨r.dp,r.un⟩
theorem Jy.deeper {k:Nat} {A:Around} (r:Jy (k+1) A) (env:Env):Jy k (A.deeper env):=
 ⟨by have:=r.dp;show A.depth+1+3*k+5 < _;omega,by have:=r.un;show A.units+3+16*k+200 < _;omega⟩
theorem Jy.mono {j k:Nat} {A:Around} (r:Jy k A) (h:j<=k):Jy j A:=⟨by have:=r.dp;omega,by have:=r.un;omega⟩
structure Vw (P:Program) (w:World) (K:YD) (mg:YB) (base:Heap) (x:Str) (k:Nat) (ps:YF) (sp:Sp):Prop where
 ex:∃(f:Addr) (fd:FuncData),mg x=some (.ref f)/\keepIn K (.ref f)=true/\Binds K fd ps []/\(∀vs H Q E,sp vs H Q E->vs.length=ps.length) /\
  ∀(A:Around) (outer:List Env) (s:Shared) (H:Hp) (args:Args) (us:YE) (vs:YG) (Q:VK),Jy k A->NT P w K mg base A outer s H->BindsTo s fd args (ps.zip us)->Vals vs us->sp vs H Q E0 ->
   codeAny (model P w) A (.call (.ref f) args) (CR CX0 outer P w H s Q E0) s
abbrev cxH (P:Program) (w:World) (K:YD) (mg:YB) (base:Heap) (N:YF) (qual:Str) (scope:Scope) (f:Addr) (cd:Value) (A:Around) (outer:List Env) (s:Shared) (H:Hp):Cx:=
 { Ig CX0 P w K mg base N qual scope f cd A outer s H E0 with calm:=false,xe:=λ_ _=>False }
theorem Code.wB {P:Program} {w:World} {K:YD} {mg:YB} {base:Heap} {x:Str} {st:Stmt} {ps N:YF} {k:Nat} {sp:Sp} (C:Code K mg x st ps) (S:Bf N ps (Al st)) (len:∀vs H Q E,sp vs H Q E->vs.length=ps.length)
  (hbody:∀(f:Addr) (cdv:Value) (A:Around) (outer:List Env) (s:Shared) (H:Hp) (vs:YG) (Q:VK),Jy k (A.deeper (envOfC x (Al st) s.heap.objs.size f cdv))->sp vs H Q E0 ->
   ∃t,PSs (cxH P w K mg base N x (Al st) f cdv A outer s H) (Dd st) t/\t { nx:=λ_ H'=>Q .non H',rt:=Q } (start N vs) H):Vw P w K mg base x (k+1) ps sp:=by
 obtain⟨f,fd,F,m,b⟩:=C.ex;refine⟨f,fd,m,F.kp,b,len,λA outer s H args us vs Q hr e0 hb r hsp=>?_⟩;obtain⟨oc,od,kV,doc,pm,an,cdv,ct,osl,rfl,lk,hcd⟩:=F.ex;have hlen:=len _ _ _ _ hsp;have KX:K.In s.heap:=e0.mod.kin.keeps λb o q=>(e0.bs b o q).1;have lim:s.heap.NoLimit:=e0.mod.nolimit.keeps λb o q=>(e0.bs b o q).1;have hkind:∀y∈ps.zip us,(Al st).names.lookup y.1=some .local\/((Al st).names.lookup y.1=some .cell/\((cellsFrom (s.heap.objs.size+1) (Al st).names []).lookup y.1).isSome=true):=λ⟨n,v⟩ hy=>by
  rcases S.par n (List.of_mem_zip hy).1 with q | q
  ·exact .inl q
  ·exact .inr ⟨q,PySem.W.cellsFrom_some _ _ _ (.inl q)⟩
 refine codeAny_call_function (by have:=hr.dp;omega) (KX _ _ lk) rfl S.co S.gen rfl (PySem.W.codeRec_of KX hcd) (hb _ _ _ _ ?_);refine wpAny_newFunctionEnv_cells S.kind hkind λenv he s1 ic=>?_;subst he;refine⟨lim.keeps ic.toInCall.keep,codeAny_func ?_⟩;obtain⟨t,ht,hq⟩:=hbody f cdv A outer s H vs Q (hr.deeper _) hsp;have e1:NT P w K mg base { A with handled:=none } outer s H:=⟨e0.frames,e0.mod,e0.bs,e0.bsz,e0.FW,e0.frf,e0.hok,e0.bare⟩;have I0:Inv (Ig CX0 P w K mg base N x (Al st) f cdv { A with handled:=none } outer s H E0) [] (start N vs) H s1:=Um S rfl e1 hlen r ic;have I:Inv (cxH P w K mg base N x (Al st) f cdv A outer s H) [] (start N vs) H s1:=
  ⟨⟨I0.ok.mod,I0.ok.kind,I0.ok.glob,I0.ok.blt,I0.ok.above,I0.ok.inj,I0.ok.has,I0.ok.cab,(λz=>nomatch z),Around.frames_deeper e0.frames,I0.ok.stk,I0.ok.exf,I0.ok.bs,I0.ok.bsz,I0.ok.K7,I0.ok.Kh,I0.ok.FW,I0.ok.frf⟩,I0.os,I0.bare,I0.base,I0.loc,I0.cell,I0.free,I0.Fj,
   I0.pin,I0.hok,I0.len⟩
 refine Qcl (ht [] s1 (start N vs) H _ I hq) (λfl s' hs=>?_) λe s' z=>z.elim;have fin:∀{σ':St} {H':Hp} {v:V} {u:Value},Inv (cxH P w K mg base N x (Al st) f cdv A outer s H) [] σ' H' s'->RelV v u->Q v H'->CE outer P w H s Q u s':=λ{σ' H' v u} J rv q=>⟨v,H',J.os,J.bare,J.base,J.hok,rv,q⟩;cases fl with
 | ret u=>
  obtain⟨v,σ',H',J,rv,q⟩:=hs;exact fin J rv q
 | next=>
  obtain⟨σ',H',J,q⟩:=hs;exact fin (v:=V.non) (u:=Value.none) J rfl q
 | brk=>obtain⟨_,_,_,q⟩:=hs;exact False.elim q
 | cont=>obtain⟨_,_,_,q⟩:=hs;exact False.elim q
theorem rT {X:Cx} {k k':Nat} {ps:YF} {sp:Sp} {x:Str} {p pos:Pos} {e:Expr} {es:YJ} {t:TA} (g:Vw X.prog X.w X.K X.mg X.base x k ps sp) (hr:Jy k' X.A) (ha:PA X (e::es) t) (hk:k<=k':=by decide)
  (hg:Gl X x:=by rfl) (hdb:(x == ("__debug__":Str))=false:=by decide) (he:starEach (e::es) X.env=(false,eval e X.env)::starEach es X.env:=by rfl) (hpl:(backTo pos (starEach es X.env)).any (·.1)=false:=by rfl) :
  PE X (.Call (.Name x p) (e::es) [] pos) (aA sp [] E0 t):=by
 intro jb s σ H Q I h;obtain⟨f,fd,m,kp,b,len,run⟩:=g.ex;refine QaX (KC I hg m ?_ hdb);refine PySem.W.callWith_K (h₀:=X.base) I.ok.mod.kin kp (thn (ha pos jb s σ H _ I h) λus s1 zz=>?_) he hpl;obtain⟨vs,H1,I1,r,q⟩:=zz;refine⟨I1.kIn,?_⟩;have q:sp (vs++[]) H1 Q E0:=q;rw[QbA] at q;have hl:us.length=ps.length:=by rw[<-r.length];exact len _ _ _ _ q
 have bd:=b s1 us I1.kIn (by rw[QbA];exact hl);rw[QbA] at bd;refine wpAny_call (codeAny_mono (run X.A X.stack s1 H1 ⟨us,[]⟩ us vs Q (hr.mono hk) I1.env0 bd r q) λrr s' hq=>?_);cases rr with
 | error ev=>exact False.elim hq
 | ok fl=>
  cases fl with
  | ret u=>exact I1.after hq
  | next=>exact False.elim hq
  | brk=>exact False.elim hq
  | cont=>exact False.elim hq
@[irreducible] def aP (K:YD):YG->Hp->VK->Prop:=λxs H Q=>∃a D C b,xs=[.ref a,.ref D]/\H a=some (xo a C)/\XCl K C/\kitOne K (.ref C) (.ref D)=some b/\Q (.bl b) H
theorem Dw {X:Cx}:Dn X (.builtin "isinstance") (aP X.K):=by
 intro jb s σ H xs us Q I r h;unfold aP at h;obtain⟨a,D,C,b,rfl,ea,T,k,q⟩:=h;obtain⟨u,w',rfl,rx,rt⟩:=vals2 r;cases rx;cases rt;exact RK I T ea k λtk=>⟨.bl b,H,I.tok tk,rq,q⟩
@[irreducible] def Vm (K:YD):YG->Hp->VK->Prop:=λxs H Q=>∃a T C b,xs=[.ref a,.ty T]/\H a=some (xo a C)/\XCl K C/\kitOne K (.ref C) (.type T)=some b/\Q (.bl b) H
theorem gK {X:Cx}:Dn X (.builtin "isinstance") (Vm X.K):=by
 intro jb s σ H xs us Q I r h;unfold Vm at h;obtain⟨a,T,C,b,rfl,ea,TC,k,q⟩:=h;obtain⟨u,w',rfl,rx,rt⟩:=vals2 r;cases rx;cases rt;exact RK I TC ea k λtk=>⟨.bl b,H,I.tok tk,rq,q⟩
end L2
namespace L2
open PySem PySem.Spec PyProof.Rows PySem.SeqAt
theorem Ak {c:Const} {k:Nat} {p:Pos} {es:YJ} {env:Env}:starEach (.Constant c k p::es) env=(false,eval (.Constant c k p) env)::starEach es env:=by rfl
theorem oK {f:Expr} {as:YJ} {ks:List Keyword} {p:Pos} {es:YJ} {env:Env}:starEach (.Call f as ks p::es) env=(false,eval (.Call f as ks p) env)::starEach es env:=by rfl
theorem qX {as:YJ} {k:Nat} {p:Pos} {es:YJ} {env:Env}:starEach (.Tuple as k p::es) env=(false,eval (.Tuple as k p) env)::starEach es env:=by rfl
def isT:Value->Bool
 | .bool b=>b
 | _=>false
theorem XD:∀{bs:List Bool} {us:YE},Vals (bs.map V.bl) us->us=bs.map Value.bool
 | [],_,.nil=>rfl
 | b::bs,_,.cons r t=>by
  cases (show _=Value.bool b from r)
  rw[XD t];rfl
section
variable {X:Cx}
@[irreducible] def Py:V->YG->Hp->VK->Prop:=λx xs H Q=>∃(l:Addr) (bs:List Bool),x=.ref l/\xs=[.bl true]/\H l=some (.lst (bs.map V.bl))/\Q (.int ((bs.countP id:Nat):Int)) H
theorem eqT {A:Around} {s:Shared} {bs:List Bool}:∀y,y∈(bs.map Value.bool).toArray->EqAt A s y (.bool true) (isT y):=λy hy=>by
 have hy':y∈bs.map Value.bool:=by simpa using hy
 obtain⟨b,_,rfl⟩:=QbY.mp hy';have:=EqAt.bool_bool (A:=A) (s:=s) b true;rw[show (b == true)=isT (.bool b) by cases b <;> rfl] at this;exact this
theorem gD {l:Addr} {bs:List Bool} {H:Hp} {Q:VK} (h:H l=some (.lst (bs.map V.bl))) (q:Q (.int ((bs.countP id:Nat):Int)) H):Py (.ref l) [.bl true] H Q:=by
 unfold Py;exact⟨l,bs,rq,rq,h,q⟩
theorem eU:MtM X "list.count" Py:=by
 intro jb s σ H x vs v us Q I rx rv h;unfold Py at h;obtain⟨l,bs,rfl,rfl,hH,q⟩:=h;cases rx;obtain⟨u,rfl,ru⟩:=rv.one;cases (show _=Value.bool true from ru)
 obtain⟨z,its,n,r,hl,e⟩:=I.Mp hH;have hi:=XD r;subst hi;refine Qcm F.slot_list_count ⟨_,e,rq⟩ F.entry_list_count (F.args_list_count_2 _ _) (list_countAt l (bs.map Value.bool).toArray n none #[] (.bool true) isT) ⟨e,eqT,?_⟩;refine⟨.int ((bs.countP id:Nat):Int),H,I.tok _,⟨s.toks,?_⟩,q⟩;have hc:(bs.map Value.bool).countP isT=bs.countP id:=by
  rw[List.countP_map];congr 1
 simp only[hc]
@[irreducible] def Px:V->YG->Hp->VK->Prop:=λx xs H Q=>∃(l:Addr) (bs:List Bool) (j:Nat),x=.ref l/\xs=[.bl true]/\H l=some (.lst (bs.map V.bl))/\j<=1000/\bs[j]?=some true/\(∀m,m < j->bs[m]?=some false)/\Q (.int (j:Int)) H
theorem fK {l:Addr} {bs:List Bool} {j:Nat} {H:Hp} {Q:VK} (h:H l=some (.lst (bs.map V.bl))) (h1:j<=1000) (h2:bs[j]?=some true) (h3:∀m,m < j->bs[m]?=some false) (q:Q (.int (j:Int)) H):Px (.ref l) [.bl true] H Q:=by
 unfold Px;exact⟨l,bs,j,rq,rq,h,h1,h2,h3,q⟩
theorem eO:MtM X "list.index" Px:=by
 intro jb s σ H x vs v us Q I rx rv h;unfold Px at h;obtain⟨l,bs,j,rfl,rfl,hH,hj1,hj,hno,q⟩:=h;cases rx;obtain⟨u,rfl,ru⟩:=rv.one;cases (show _=Value.bool true from ru)
 obtain⟨z,its,n,r,hl,e⟩:=I.Mp hH;have hi:=XD r;subst hi;have hjl:j < bs.length:=(Qaf.mp hj).1;have hj2:j < (bs.map Value.bool).toArray.size:=by simpa using hjl
 have hit:isT ((bs.map Value.bool).toArray[j]'hj2)=true:=by
  have h1:bs[j]=true:=(Qaf.mp hj).2;simp[h1,isT]
 have hn:∀m (hm:m < (bs.map Value.bool).toArray.size),m < j->isT (bs.map Value.bool).toArray[m]=false:=λm hm hmj=>by
  have h1:=(Qaf.mp (hno m hmj)).2;simp[h1,isT]
 refine Qcm F.slot_list_index ⟨_,e,rq⟩ F.entry_list_index (F.args_list_index_2 _ _) (list_indexAt l (bs.map Value.bool).toArray n none #[] (.bool true) isT j hj2 (Int.lt_of_le_of_lt (b:=1000) (by omega) (by trivial)) hit hn) ⟨e,eqT,?_⟩;exact⟨.int (j:Int),H,I.tok _,⟨_,rq⟩,q⟩
end
theorem Fy {K:YD} {a D C:Addr} {b:Bool} {H:Hp} {Q:VK} (h:H a=some (xo a C)) (T:XCl K C) (k:kitOne K (.ref C) (.ref D)=some b) (q:Q (.bl b) H):aP K [.ref a,.ref D] H Q:=by
 unfold aP;exact⟨a,D,C,b,rq,h,T,k,q⟩
theorem qg {K:YD} {a C:Addr} {T:String} {b:Bool} {H:Hp} {Q:VK} (h:H a=some (xo a C)) (TC:XCl K C) (k:kitOne K (.ref C) (.type T)=some b) (q:Q (.bl b) H):Vm K [.ref a,.ty T] H Q:=by
 unfold Vm;exact⟨a,T,C,b,rq,h,TC,k,q⟩
section
variable {prog:Program} {w:World} {A:Around} {E:YA} {s:Shared}
end
end L2
namespace L2
open PySem PySem.Spec PyProof.Rows
section
variable {X:Cx} {jb:YC} {σ : St} {H:Hp} {s:Shared} {a:Addr} {kvs:YM} {o:Obj}
end
section
variable {a l:Addr} {o:Obj} {kvs:YM} {g:TG} {tb:TS} {D:Ends} {σ : St} {H:Hp} {tt:TT} {te tk tv:TE} {Q:VK}
theorem gA {K:YD} {xs:YG} {σ0:St} {H0:Hp} (Pv:YN) (h0:Pv 0 σ0 H0) (hl:∀i σ H',i<=xs.length->Pv i σ H'->SqT K H' a xs)
  (hs:∀i x σ H',xs[i]?=some x->Pv i σ H'->g x σ H' fun σ3 H3=>tt σ3 H3 λb H4=>if b=true then tk σ3 H4 λy H5=>tv σ3 H5 λz H6=>∃(kvs:YM) (k:Key),H6 l=some (.dK kvs)/\y=kV k/\kvs.length < sizeLine/\Pv (i+1) σ3 (upd H6 l (.dK (putK kvs k z))) else Pv (i+1) σ3 H4)
  (hd:∀ σ H',Pv xs.length σ H'->Q (.ref l) H'):Vx (Itt K a) g tt tk tv Q σ0 H0 l:=by
 unfold Vx;refine⟨λi m σ H'=>m=xs.length - i/\i<=xs.length/\Pv i σ H',⟨xs.length,by simp,Qcf _,h0⟩,?_⟩;rintro i m σ H' ⟨rfl,hi,p⟩;have q:=hl i σ H' hi p;by_cases hlt:i < xs.length
 ·refine .inr ⟨⟨xs,xs[i],q,by simp[hlt]⟩,Pv (i+1),fun σ3 H3 p'=>⟨xs.length - (i+1),by omega,rq,hlt,p'⟩,λx H2 y=>?_⟩;obtain⟨e,y⟩:=y;subst e;exact hs i x σ _ (y xs q) p
 ·have e:i=xs.length:=by omega
  subst e;exact .inl ⟨⟨xs,q,Qce _⟩,hd σ H' p⟩
end
open PySem.W (KasT kas_asc kas_desc kas_rev kas_tail3 kas_descPart kas_count kas_place kas_bin kas_sort)
def Pm (n:Nat) (p:Array Nat):Prop:=p.toList.Perm (List.range n)
section
variable {n:Nat} (n0:0 < n)
include n0
end
section
variable {prog:Program} {w:World} {A:Around} {E:YA} {s:Shared}
end
end L2
namespace L2
open PySem PySem.Spec PyProof.Rows
section
variable {M:Model} {A:Around} {E:YA} {s:Shared}
end
section
variable {prog:Program} {w:World} {A:Around} {E:YA} {s:Shared}
end
section
variable {prog:Program} {w:World} {A:Around} {E:YA} {h:Heap} {g:Array GenState} {d:Drawn} {t:Nat} {os:OsState} {a:Addr} {xs:Array Value} {c:Nat}
end
section
variable {prog:Program} {w:World} {κ : Type} [DecidableEq κ] {knd:KeyKind prog w κ} {A:Around} {E:YA} {s:Shared} {R:Result->Shared->Prop}
end
section
variable {prog:Program} {w:World} {κ : Type} [DecidableEq κ] {knd:KeyKind prog w κ} {A:Around} {E:YA} {s:Shared}
end
def nD (K:YD):YG->Hp->VK->Prop:=λxs H Q=>∃a ys,xs=[.ref a,.ty "tuple"]/\SqT K H a ys/\Q (.bl true) H
theorem gM {X:Cx}:Dn X (.builtin "isinstance") (nD X.K):=by
 intro jb s σ H xs us Q I r h;obtain⟨a,ys,rfl,hs,q⟩:=h;cases r with
 | cons r1 r=>
  cases r with
  | cons r2 r=>
   cases r;cases r1;cases r2;obtain⟨its,rv,⟨o,ho,hc,n,hd⟩,_⟩:=I.tuple hs;exact kia_one PySem.W.kitx_tuple I.kIn ⟨o,ho,hc⟩ (by rfl:kitOne X.K (.type "tuple") (.type "tuple")=some true) (λz=>nomatch z) λtk=>⟨.bl true,H,I.tok tk,rq,q⟩
open PySem.W (KasT kas_asc kas_desc kas_rev kas_tail3 kas_descPart kas_count kas_place kas_bin kas_sort)
section
variable {n:Nat} {ky:Nat->Int}
theorem Pm.size {p:Array Nat} (h:Pm n p):p.size=n:=by
 have:=List.Perm.length_eq h;simpa using this
end
section
variable {prog:Program} {w:World} {A:Around} {s:Shared}
end
end L2
namespace PySem
open Sem (wp)
open AutoSeq1 (wpAny_loadPart')
section
variable {prog:Program} {w:World} {A:Around} {E:YA} {s:Shared}
end
end PySem
namespace L2
open PySem PySem.Spec PyProof.Rows
section
variable {X:Cx}
end
section
variable {X:Cx}
end
section
variable {X:Cx}
end
section
variable {prog:Program} {w:World} {A:Around} {R:Result->Shared->Prop} {s:Shared} {elt t1 i1 t2 i2:Expr} {scope:Scope} {pos:Pos} {it acc:Value} {env:Env}
end
def vN:R2:=λx y H Q=>∃l b xs zs,x=.ref l/\y=.ref b/\H l=some (.lst xs)/\H b=some (.lst zs)/\xs.length+zs.length<=sizeLine/\∀p H',H p=none->H' p=some (.lst (xs++zs))->Same H H'->Q (.ref p) H'
def xG (K:YD):V->Option Int->Option Int->Hp->VK->Prop:=λx lo hi H Q=>∃a xs,x=.ref a/\SqL K H a xs/\∀p H',H p=none->H' p=some (.lst (Eu xs lo hi))->Same H H'->Q (.ref p) H'
def vL (K:YD):YG->Hp->VK->Prop:=λxs H Q=>∃p ys,xs=[.ref p]/\(SqL K H p ys\/SqT K H p ys)/\∀l H',H l=none->H' l=some (.lst ys)->Same H H'->Q (.ref l) H'
def vD (t:TA):TE:=fun σ H Q=>t σ H λxs H1=>xs.length<=sizeLine/\∀p H',H1 p=none->H' p=some (.lst xs)->Same H1 H'->Q (.ref p) H'
section
variable {X:Cx}
theorem Ez:OpR X (binaryOp .Add) vN:=by
 intro jb s σ H x y v u Q I rx ry h;obtain⟨l,b,xs,zs,e1,e2,h1,h2,hz,q⟩:=h;exact RB jb s σ H x y v u Q I rx ry ⟨l,b,xs,zs,e1,e2,h1,h2,hz,λp hp=>q p _ hp Ac (Af hp _)⟩
theorem Gs:SlR X (xG X.K):=by
 intro jb s σ H x v vl vu lo hi sl Q I rx hs pl pu h;obtain⟨a,xs,e1,hx,q⟩:=h;exact Mv jb s σ H x v vl vu lo hi sl Q I rx hs pl pu ⟨a,xs,e1,hx,λp hp=>q p _ hp Ac (Af hp _)⟩
theorem Ve:Dn X (.type "list") (vL X.K):=by
 intro jb s σ H xs us Q I r h;obtain⟨p,ys,e1,hq,q⟩:=h;exact Xw jb s σ H xs us Q I r ⟨p,ys,e1,hq,λl hl=>q l _ hl Ac (Af hl _)⟩
theorem GQ {es:YJ} {t:TA} {pos:Pos} (h:PA X es t):PE X (.List es pos) (vD t):=by
 intro jb s σ H Q I hq;refine wpAny_List_spliced (thn (h pos jb s σ H _ I hq) λus s1 zz=>?_);obtain⟨xs,H1,I1,r,z,q⟩:=zz;refine⟨by rw[<-r.length];exact z,?_⟩;have hf:H1 s1.heap.objs.size=none:=I1.hok.fresh (Qce _);refine⟨.ref s1.heap.objs.size,upd H1 s1.heap.objs.size (.lst xs),I1.laid (t':=s1.toks) (λb u e=>Qar _ e) (Qce _) ?_,rq,q _ _ hf Ac (Af hf _)⟩;exact⟨z,us,0,r,QaH _ rfl⟩
end
def oR:V->YG->Hp->VK->Prop:=λx vs H Q=>∃l xs i y,x=.ref l/\vs=[.int i,y]/\H l=some (.lst xs)/\0<=i/\i < 2 ^ 62/\xs.length < sizeLine/\Q .non (upd H l (.lst (xs.take (min i.toNat xs.length)++y::xs.drop (min i.toNat xs.length))))
theorem O9 {X:Cx}:MtM X "list.insert" oR:=by
 intro jb s σ H x vs v us Q I rx rv h;obtain⟨l,xs,i,y,rfl,rfl,hH,h1,h2,hz,q⟩:=h;cases rx;obtain⟨u,u2,rfl,ru,ru2⟩:=vals2 rv;obtain⟨t,rfl⟩:=ru;obtain⟨z,its,n,r,hl,e⟩:=I.Mp hH;have hf:Builtin.List.listFitsIndex i=true:=fitsIndex_both (by omega) (by omega);refine Qcm F.slot_list_insert ⟨_,e,rq⟩ F.entry_list_insert (F.args_list_insert_3 _ _ _) (AutoSeq1.list_insert_list_int_val_1 l its.toArray n i t u2 (by rw[hf];simp) (by rw[Qbb];omega)) ⟨e,?_⟩;refine⟨.non,_,I.bG (its':=its.take (min i.toNat its.length)++u2::its.drop (min i.toNat its.length)) hH e ?_ ?_ ?_,rq,q⟩
 ·show (let k:=if i < 0 then (i+(its.toArray.size:Int)).toNat else min i.toNat its.toArray.size;(its.toArray.extract 0 k).push u2++its.toArray.extract k)=_
  rw[if_neg (by omega)];apply Array.toList_inj.mp;simp;exact Qav (by rw[Qbq];exact Qce _)
 ·rw[<-hl];exact (r.take _).append (.cons ru2 (r.drop _))
 ·rw[QaM,Qbo,Qbn,Qbq];omega
section
variable {a l:Addr} {o:Obj} {kvs:YM} {g:TG} {tt:TT} {tk tv:TE} {Q:VK}
end
end L2
namespace L2
open PySem
theorem oJ {x:Str} {p:Pos} {es:YJ} {env:Env}:starEach (.Name x p::es) env=(false,eval (.Name x p) env)::starEach es env:=by rfl
theorem qZ {as:YJ} {p:Pos} {es:YJ} {env:Env}:starEach (.List as p::es) env=(false,eval (.List as p) env)::starEach es env:=by rfl
theorem qY {a b:Expr} {p:Pos} {es:YJ} {env:Env}:starEach (.Subscript a b p::es) env=(false,eval (.Subscript a b p) env)::starEach es env:=by rfl
end L2
namespace L2
open PySem PySem.Spec PyProof.Rows
def cJ (K:YD) (a b:Addr):It:=
  ⟨λi H=>∃xs ys x y,H a=some (.tup xs)/\H b=some (.tup ys)/\xs[i]?=some x/\ys[i]?=some y,
   λi H v H'=>∃p x y,H p=none/\v=.ref p/\H'=upd H p (.tup [x,y])/\(∀xs,H a=some (.tup xs)->xs[i]?=some x)/\∀ys,H b=some (.tup ys)->ys[i]?=some y,
   λi H=>∃xs ys,H a=some (.tup xs)/\H b=some (.tup ys)/\(xs.length<=i\/ys.length<=i)⟩
theorem Z9 {P:Program} {w:World} {K:YD} {elts:YJ} {k:Nat} {pos:Pos} (a b z TI TO i1 i2:Addr) (nd:[z,TI,TO,i1,i2].Nodup) :
  Turn P w K (.Tuple elts k pos) (cJ K a b) [z,TI,TO,i1,i2] z (λi h=>(∃f1,ZZ.IsZ h z TI TO .none f1)/\ZZ.Dl h TI [.ref i1,.ref i2]/\(∃olds:YE,ZZ.Dl h TO olds/\olds.length=2)/\h.IsTupleIter i1 a i/\h.IsTupleIter i2 b i) where
 mem:=by simp
 obj:=λi h st c hc=>by
  obtain⟨⟨f1,hz⟩,hTI,⟨olds,hTO,_⟩,⟨o1,e1,_,d1⟩,o2,e2,_,d2⟩:=st;simp only[QbQ,Qbr,Qco] at hc;rcases hc with rfl | rfl | rfl | rfl | rfl
  ·exact⟨_,hz,λv q=>by cases (show Data.fields _=Data.cell v from q)⟩
  ·exact⟨_,hTI,λv q=>by cases (show Data.seq _ _=Data.cell v from q)⟩
  ·exact⟨_,hTO,λv q=>by cases (show Data.seq _ _=Data.cell v from q)⟩
  ·exact⟨o1,e1,λv q=>by rw[d1] at q;cases q⟩
  ·exact⟨o2,e2,λv q=>by rw[d2] at q;cases q⟩
 keep:=λi h h' st k=>by
  obtain⟨⟨f1,hz⟩,hTI,⟨olds,hTO,l⟩,h1,h2⟩:=st;exact⟨⟨f1,k z (by simp) _ hz⟩,k TI (by simp) _ hTI,⟨olds,k TO (by simp) _ hTO,l⟩,h1.at λo e=>k i1 (by simp) o e,h2.at λo e=>k i2 (by simp) o e⟩
 item:=by
  intro X hP hw hK hc i jb s σ H E I hf st hg;subst hP hw hK;obtain⟨xs,ys,x,y,hq1,hq2,hx,hy⟩:=hg;obtain⟨us,ru,p1,z1⟩:=I.tuple (SqT.of hq1);obtain⟨ws,rw',p2,z2⟩:=I.tuple (SqT.of hq2);obtain⟨u,hu,ru'⟩:=ru.get hx;obtain⟨v,hv,rv'⟩:=rw'.get hy;obtain⟨⟨f1,hz⟩,hTI,⟨olds,hTO,lo⟩,hi1,hi2⟩:=st;simp only[QbI,QbQ,Qbr,Qco,not_or,QbO,not_false_eq_true,and_true] at nd;obtain⟨⟨n1,n2,n3,n4⟩,⟨n5,n6,n7⟩,⟨n8,n9⟩,n10⟩:=nd;have D:ZZ.Apart z TI TO [⟨i1,a,us.toArray⟩,⟨i2,b,ws.toArray⟩]:=by
   obtain⟨oa,ea,ca,_⟩:=id p1;obtain⟨ob,eb,cb,_⟩:=id p2;obtain⟨o1,e1,c1,_⟩:=id hi1;obtain⟨o2,e2,c2,_⟩:=id hi2;have aTO:a≠TO:=λq=>by
    have:=(hf TO (by simp)).1;rw[<-q,hq1] at this;cases this
   have bTO:b≠TO:=λq=>by
    have:=(hf TO (by simp)).1;rw[<-q,hq2] at this;cases this
   have t1:Value.type "tuple"≠Value.type "zip":=λq=>absurd (by injection q) (show ¬("tuple"="zip") by decide);have t2:Value.type "tuple"≠Value.type "tuple_iterator":=λq=>absurd (by injection q) (show ¬("tuple"="tuple_iterator") by decide);refine⟨Ne.symm n1,Ne.symm n2,n5,λq hq=>?_,λq hq=>?_,λq hq r hr=>?_,?_⟩
   ·simp only[QbQ,Qbr,Qco] at hq;rcases hq with rfl | rfl
    ·exact⟨Ne.symm n3,Ne.symm n6,Ne.symm n8⟩
    ·exact⟨Ne.symm n4,Ne.symm n7,Ne.symm n9⟩
   ·simp only[QbQ,Qbr,Qco] at hq;rcases hq with rfl | rfl
    ·exact⟨Gg ea hz (by rw[ca];exact t1),aTO⟩
    ·exact⟨Gg eb hz (by rw[cb];exact t1),bTO⟩
   ·simp only[QbQ,Qbr,Qco] at hq hr;rcases hq with rfl | rfl <;> rcases hr with rfl | rfl
    ·exact Gg ea e1 (by rw[ca,c1];exact t2)
    ·exact Gg ea e2 (by rw[ca,c2];exact t2)
    ·exact Gg eb e1 (by rw[cb,c1];exact t2)
    ·exact Gg eb e2 (by rw[cb,c2];exact t2)
   ·simp[n10]
  have hat:∀q∈([⟨i1,a,us.toArray⟩,⟨i2,b,ws.toArray⟩]:List ZZ.Src),ZZ.SrcAt s.heap q i:=λq hq=>by
   simp only[QbQ,Qbr,Qco] at hq;rcases hq with rfl | rfl
   ·exact .inr ⟨hi1,p1⟩
   ·exact .inr ⟨hi2,p2⟩
  refine ZZ.aQ hz (Qi:=λr s'=>∃h',r=.ref s.heap.objs.size/\s'={ s with heap:=h' }/\ZZ.IsZ h' z TI TO (rawInt s.heap.objs.size) (.bool false)/\ZZ.Dl h' TI [.ref i1,.ref i2]/\ZZ.Dl h' TO [u,v]/\(∀q∈([⟨i1,a,us.toArray⟩,⟨i2,b,ws.toArray⟩]:List ZZ.Src),ZZ.SrcAt h' q (i+1))/\ZZ.Dl h' s.heap.objs.size [u,v]/\ZZ.Rest z TO [⟨i1,a,us.toArray⟩,⟨i2,b,ws.toArray⟩] s.heap h')
   (ZZ.UL (xs:=[u,v]) D hz hTI hTO hat (by simp) rfl lo (λj q hj=>?_) (by show 2<=100;decide) λh' a1 a2 a3 a4 a5 a6 a7=>⟨h',rq,rq,a1,a2,a3,a4,a5,a7⟩) λr s' hQ=>?_
  ·match j,hj with
   | 0,hj=>cases hj;exact⟨u,rfl,by simpa using hu⟩
   | 1,hj=>cases hj;exact⟨v,rfl,by simpa using hv⟩
  obtain⟨h',rfl,rfl,a1,a2,a3,a4,a5,a7⟩:=hQ;refine⟨_,rq,ZZ.eZ (s:={ s with heap:=h' }) a1 λh2 hz2 sb=>?_⟩;have hlt2:s.heap.objs.size≠z:=Qcd (QbZ hz);have hT2:ZZ.Dl h2 s.heap.objs.size [u,v]:=(sb.2 _ hlt2).trans a5;have new:Cq X.prog X.w (upd H s.heap.objs.size (.tup [x,y])) h2 s.heap.objs.size (.tup [x,y]):=
   ⟨by show 2<=sizeLine;decide,[u,v],.cons ru' (.cons rv' .nil),_,hT2,rq,0,rq⟩
  have I1:=I.T8 (h':=h2) (t':=s.toks) (Qce _) (λc q hc e=>(sb.2 c (λw=>hc (by simp[w]))).trans (a7 c q (λw=>hc (by simp[w])) (λw=>hc (by simp[w])) (λw=>hc (by simp only[QbT,List.map_nil,QbQ,Qbr,Qco] at w;rcases w with w | w <;> simp[w])) e)) hf new;have nY:∀{it l:Addr} {items:Array Value},l≠z->l≠TO->l≠i1->l≠i2->it≠z->s.heap.IsTuple l items->ZZ.SrcAt h' ⟨it,l,items⟩ (i+1)->h2.IsTupleIter it l (i+1):=λm1 m2 m3 m4 m5 hl q=>by
   rcases q with⟨_,q2⟩|⟨q1,_⟩
   ·obtain⟨o,e,r⟩:=hl;exact (Jp q2 ⟨o,a7 _ o m1 m2 (by simp[m3,m4]) e,r⟩).elim
   ·exact q1.at λo e=>(sb.2 _ m5).trans e
  refine⟨.ref s.heap.objs.size,_,I1,rq,⟨s.heap.objs.size,x,y,I.hok.fresh (Qce _),rq,rq,λys' hy'=>by (rw[hq1] at hy';cases hy';exact hx),λys' hy'=>by (rw[hq2] at hy';cases hy';exact hy)⟩,⟨⟨_,hz2⟩,(sb.2 _ (Ne.symm n1)).trans a2,⟨[u,v],(sb.2 _ (Ne.symm n2)).trans a3,rq⟩,?_,?_⟩,λc hc=>?_⟩
  ·exact nY (D.a ⟨i1,a,us.toArray⟩ (by simp)).1 (D.a ⟨i1,a,us.toArray⟩ (by simp)).2 (D.ai ⟨i1,a,us.toArray⟩ (by simp) ⟨i1,a,us.toArray⟩ (by simp)) (D.ai ⟨i1,a,us.toArray⟩ (by simp) ⟨i2,b,ws.toArray⟩ (by simp)) (Ne.symm n3) p1 (a4 _ (by simp))
  ·exact nY (D.a ⟨i2,b,ws.toArray⟩ (by simp)).1 (D.a ⟨i2,b,ws.toArray⟩ (by simp)).2 (D.ai ⟨i2,b,ws.toArray⟩ (by simp) ⟨i1,a,us.toArray⟩ (by simp)) (D.ai ⟨i2,b,ws.toArray⟩ (by simp) ⟨i2,b,ws.toArray⟩ (by simp)) (Ne.symm n4) p2 (a4 _ (by simp))
  ·have hlc:c≠s.heap.objs.size:=by
    have hmem:∃o,s.heap.get? c=some o:=by
     simp only[QbQ,Qbr,Qco] at hc;rcases hc with rfl | rfl | rfl | rfl | rfl
     ·exact⟨_,hz⟩
     ·exact⟨_,hTI⟩
     ·exact⟨_,hTO⟩
     ·obtain⟨o,e,_⟩:=hi1;exact⟨o,e⟩
     ·obtain⟨o,e,_⟩:=hi2;exact⟨o,e⟩
    obtain⟨o,e⟩:=hmem;exact Qcb (QbZ e)
   rw[Az hlc];exact (hf c hc).1
 done:=by
  intro X hP hw hK hc i jb s σ H E I hf st hg;subst hP hw hK;obtain⟨xs,ys,hq1,hq2,hend⟩:=hg;obtain⟨us,ru,p1,z1⟩:=I.tuple (SqT.of hq1);obtain⟨ws,rw',p2,z2⟩:=I.tuple (SqT.of hq2);obtain⟨⟨f1,hz⟩,hTI,⟨olds,hTO,lo⟩,hi1,hi2⟩:=st;simp only[QbI,QbQ,Qbr,Qco,not_or,QbO,not_false_eq_true,and_true] at nd;obtain⟨⟨n1,n2,n3,n4⟩,⟨n5,n6,n7⟩,⟨n8,n9⟩,n10⟩:=nd;have D:ZZ.Apart z TI TO [⟨i1,a,us.toArray⟩,⟨i2,b,ws.toArray⟩]:=by
   obtain⟨oa,ea,ca,_⟩:=id p1;obtain⟨ob,eb,cb,_⟩:=id p2;obtain⟨o1,e1,c1,_⟩:=id hi1;obtain⟨o2,e2,c2,_⟩:=id hi2;have aTO:a≠TO:=λq=>by
    have:=(hf TO (by simp)).1;rw[<-q,hq1] at this;cases this
   have bTO:b≠TO:=λq=>by
    have:=(hf TO (by simp)).1;rw[<-q,hq2] at this;cases this
   have t1:Value.type "tuple"≠Value.type "zip":=λq=>absurd (by injection q) (show ¬("tuple"="zip") by decide);have t2:Value.type "tuple"≠Value.type "tuple_iterator":=λq=>absurd (by injection q) (show ¬("tuple"="tuple_iterator") by decide);refine⟨Ne.symm n1,Ne.symm n2,n5,λq hq=>?_,λq hq=>?_,λq hq r hr=>?_,?_⟩
   ·simp only[QbQ,Qbr,Qco] at hq;rcases hq with rfl | rfl
    ·exact⟨Ne.symm n3,Ne.symm n6,Ne.symm n8⟩
    ·exact⟨Ne.symm n4,Ne.symm n7,Ne.symm n9⟩
   ·simp only[QbQ,Qbr,Qco] at hq;rcases hq with rfl | rfl
    ·exact⟨Gg ea hz (by rw[ca];exact t1),aTO⟩
    ·exact⟨Gg eb hz (by rw[cb];exact t1),bTO⟩
   ·simp only[QbQ,Qbr,Qco] at hq hr;rcases hq with rfl | rfl <;> rcases hr with rfl | rfl
    ·exact Gg ea e1 (by rw[ca,c1];exact t2)
    ·exact Gg ea e2 (by rw[ca,c2];exact t2)
    ·exact Gg eb e1 (by rw[cb,c1];exact t2)
    ·exact Gg eb e2 (by rw[cb,c2];exact t2)
   ·simp[n10]
  have hat:∀q∈([⟨i1,a,us.toArray⟩,⟨i2,b,ws.toArray⟩]:List ZZ.Src),ZZ.SrcAt s.heap q i:=λq hq=>by
   simp only[QbQ,Qbr,Qco] at hq;rcases hq with rfl | rfl
   ·exact .inr ⟨hi1,p1⟩
   ·exact .inr ⟨hi2,p2⟩
  have l1:=ru.length;have l2:=rw'.length;refine ZZ.S5 hz (R:=λh'=>ZZ.Rest z TO [⟨i1,a,us.toArray⟩,⟨i2,b,ws.toArray⟩] s.heap h') (ZZ.Vz (I.ok.hd hc) D hz hTI hTO hat (by simp) lo (by show 2<=100;decide) ?_ λh' e r st=>⟨h',e,rfl,rfl,r,st⟩) λh' r=>⟨rfl,I.Ze (h':=h') (t':=s.toks) (λc q hc e=>r c q (λw=>hc (by simp[w])) (λw=>hc (by simp[w])) (λw=>hc (by simp only[QbT,List.map_nil,QbQ,Qbr,Qco] at w;rcases w with w | w <;> simp[w])) e) hf⟩;rcases hend with h | h
  ·exact⟨_,QaN ..,by simp;omega⟩
  ·exact⟨_,QaD _ (QaN ..),by simp;omega⟩
 self:=λ_ _ _ _ _ st h=>ZZ.Rt st.1.choose_spec h
def tX (K:YD) (ta:TA):TI:=fun σ H R=>ta σ H λvs H1=>∃a b,vs=[.ref a,.ref b]/\(∃xs,H1 a=some (.tup xs))/\(∃ys,H1 b=some (.tup ys))/\R (cJ K a b) H1
section
variable {X:Cx}
theorem jG {a b:Expr} {ta:TA} {p pos tp:Pos} {elts:YJ} {k:Nat} (hg:Gl X "zip") (hm:X.mg "zip"=none) (ha:PA X [a,b] ta)
  (hs:starEach [a,b] X.env=[(false,eval a X.env),(false,eval b X.env)]:=by rfl) (hs2:starEach [b] X.env=[(false,eval b X.env)]:=by rfl):PI X (.Tuple elts k tp) (.Call (.Name "zip" p) [a,b] [] pos) (tX X.K ta):=by
 intro jb s σ H R I h;refine Call_ (JW I hg hm (u:=.type "zip") (by trivial) (Qac (thn (ha pos jb s σ H _ I h) λus s1 ⟨vs,H1,I1,r1,q1⟩=>?_) (by rw[hs,hs2]) (by rw[hs2];rfl)));obtain⟨a,b,e,⟨xs,hx⟩,⟨ys,hy⟩,q⟩:=q1;subst e;cases r1 with
 | cons r rr=>
  cases rr with
  | cons r' rr=>
   cases rr;cases r;cases r';obtain⟨us,ru,k1,z1⟩:=I1.tuple (SqT.of hx);obtain⟨ws,rw',k2,z2⟩:=I1.tuple (SqT.of hy);refine ZZ.gG (c1:="tuple_iterator") (c2:="tuple_iterator") (.inr ⟨rq,k1⟩) (.inr ⟨rq,k2⟩) λh' z TI TO i1 i2 f=>?_;refine ZZ.Rt (s:={ s1 with heap:=h' }) f.hz ?_;have nd:[z,TI,TO,i1,i2].Nodup:=by
    have a1:=f.ap.it ⟨i1,a,us.toArray⟩ (by simp);have a2:=f.ap.it ⟨i2,b,ws.toArray⟩ (by simp);have a3:i1≠i2:=by
     have:=f.ap.nd;simpa using this
    simp only[QbI,QbQ,Qbr,Qco,not_or,QbO,not_false_eq_true,and_true];exact⟨⟨Ne.symm f.ap.TIz,Ne.symm f.ap.TOz,Ne.symm a1.1,Ne.symm a2.1⟩,⟨f.ap.TITO,Ne.symm a1.2.1,Ne.symm a2.2.1⟩,⟨Ne.symm a1.2.2,Ne.symm a2.2.2⟩,a3⟩
   have at1:h'.IsTupleIter i1 a 0:=by
    rcases f.at_ ⟨i1,a,us.toArray⟩ (by simp) with⟨_,x2⟩|⟨x1,_⟩
    ·obtain⟨o,e,r⟩:=id k1;exact (Jp x2 ⟨o,f.keep _ o e,r⟩).elim
    ·exact x1
   have at2:h'.IsTupleIter i2 b 0:=by
    rcases f.at_ ⟨i2,b,ws.toArray⟩ (by simp) with⟨_,x2⟩|⟨x1,_⟩
    ·obtain⟨o,e,r⟩:=id k2;exact (Jp x2 ⟨o,f.keep _ o e,r⟩).elim
    ·exact x1
   refine⟨z,[z,TI,TO,i1,i2],_,_,H1,rq,I1.kept (t':=s1.toks) λc o e=>f.keep c o e,Z9 a b z TI TO i1 i2 nd,⟨⟨_,f.hz⟩,f.hTI,⟨_,f.hTO,rq⟩,at1,at2⟩,λc hc=>?_,q⟩;have hn:=f.new;have hcs:s1.heap.objs.size<=c:=by
    simp only[QbQ,Qbr,Qco] at hc;rcases hc with rfl | rfl | rfl | rfl | rfl
    ·exact hn.1
    ·exact hn.2.1
    ·exact hn.2.2.1
    ·exact hn.2.2.2 ⟨c,a,us.toArray⟩ (by simp)
    ·exact hn.2.2.2 ⟨c,b,ws.toArray⟩ (by simp)
   exact I1.Tw hcs (I1.hok.fresh hcs)
end
theorem cC {K:YD} {a b l:Addr} {xs ys:YG} {g:TG} {tt:TT} {te:TE} {Q:VK} {σ0:St} {H0:Hp} (n:Nat) (hx:n<=xs.length) (hy:n<=ys.length) (hn:xs.length<=n\/ys.length<=n) (Pv:YN)
  (h0:Pv 0 σ0 H0) (hl:∀i σ H',i<=n->Pv i σ H'->H' a=some (.tup xs)/\H' b=some (.tup ys))
  (hs:∀i x y p σ H',xs[i]?=some x->ys[i]?=some y->Pv i σ H'->H' p=none->g (.ref p) σ (upd H' p (.tup [x,y])) fun σ3 H3=>tt σ3 H3 λb H4=>if b=true then te σ3 H4 λy H5=>∃ys,H5 l=some (.lst ys)/\ys.length < sizeLine/\Pv (i+1) σ3 (upd H5 l (.lst (ys++[y]))) else Pv (i+1) σ3 H4)
  (hd:∀ σ H',Pv n σ H'->Q (.ref l) H'):G7 (cJ K a b) g tt te Q σ0 H0 l:=by
 unfold G7;refine⟨λi m σ H'=>m=n - i/\i<=n/\Pv i σ H',⟨n,by simp,Qcf _,h0⟩,?_⟩;rintro i m σ H' ⟨rfl,hi,p⟩;obtain⟨q1,q2⟩:=hl i σ H' hi p;by_cases hlt:i < n
 ·have hlt1:i < xs.length:=by omega
  have hlt2:i < ys.length:=by omega
  refine .inr ⟨⟨xs,ys,xs[i],ys[i],q1,q2,Qak hlt1,Qak hlt2⟩,Pv (i+1),fun σ3 H3 p'=>⟨n - (i+1),by omega,rq,hlt,p'⟩,λv H2 y=>?_⟩;obtain⟨pp,x',y',hp,rfl,rfl,e1,e2⟩:=y;exact hs i x' y' pp σ _ (e1 xs q1) (e2 ys q2) p hp
 ·exact .inl ⟨⟨xs,ys,q1,q2,by omega⟩,by
   have:i=n:=by omega
   subst this;exact hd _ _ p⟩
def tC1 (sp:Sp) (t0:TE):TE:=fun σ H Q=>t0 σ H λv0 H0=>sp [v0] H0 Q E0
def tC2 (sp:Sp) (t0 t1:TE):TE:=fun σ H Q=>t0 σ H λv0 H0=>t1 σ H0 λv1 H1=>sp [v0,v1] H1 Q E0
def tC3 (sp:Sp) (t0 t1 t2:TE):TE:=fun σ H Q=>t0 σ H λv0 H0=>t1 σ H0 λv1 H1=>t2 σ H1 λv2 H2=>sp [v0,v1,v2] H2 Q E0
def tC5 (sp:Sp) (t0 t1 t2 t3 t4:TE):TE:=fun σ H Q=>t0 σ H λv0 H0=>t1 σ H0 λv1 H1=>t2 σ H1 λv2 H2=>t3 σ H2 λv3 H3=>t4 σ H3 λv4 H4=>sp [v0,v1,v2,v3,v4] H4 Q E0
section
variable {X:Cx} {pl:Sem Bool} {k k':Nat} {C:Addr} {ps:YF} {sp:Sp} {x m:Str} {p apos pos:Pos} {o e0 e1 e2 e3 e4 e5:Expr} {ta t0 t1 t2 t3 t4 t5:TE}
theorem Ca (g:Good X.prog X.w X.K X.mg X.base x k ps sp) (hr:Dq k' X.A) (ha:PA X [e0] (GF t0 RZ)) (hk:k<=k':=by decide) (hg:Gl X x:=by rfl) (hdb:(x == ("__debug__":Str))=false:=by decide) (he:starEach [e0] X.env=(false,eval e0 X.env)::starEach [] X.env:=by rfl) (hpl:(backTo pos (starEach [] X.env)).any (·.1)=false:=by rfl):PE X (.Call (.Name x p) [e0] [] pos) (tC1 sp t0):=Vn g hr ha hk hg hdb he hpl
theorem Cp (g:Good X.prog X.w X.K X.mg X.base x k ps sp) (hr:Dq k' X.A) (ha:PA X [e0,e1] (GF t0 (GF t1 RZ))) (hk:k<=k':=by decide) (hg:Gl X x:=by rfl) (hdb:(x == ("__debug__":Str))=false:=by decide) (he:starEach [e0,e1] X.env=(false,eval e0 X.env)::starEach [e1] X.env:=by rfl) (hpl:(backTo pos (starEach [e1] X.env)).any (·.1)=false:=by rfl):PE X (.Call (.Name x p) [e0,e1] [] pos) (tC2 sp t0 t1):=Vn g hr ha hk hg hdb he hpl
theorem Dt (g:Good X.prog X.w X.K X.mg X.base x k ps sp) (hr:Dq k' X.A) (ha:PA X [e0,e1,e2] (GF t0 (GF t1 (GF t2 RZ)))) (hk:k<=k':=by decide) (hg:Gl X x:=by rfl) (hdb:(x == ("__debug__":Str))=false:=by decide) (he:starEach [e0,e1,e2] X.env=(false,eval e0 X.env)::starEach [e1,e2] X.env:=by rfl) (hpl:(backTo pos (starEach [e1,e2] X.env)).any (·.1)=false:=by rfl):PE X (.Call (.Name x p) [e0,e1,e2] [] pos) (tC3 sp t0 t1 t2):=Vn g hr ha hk hg hdb he hpl
theorem rW (g:Good X.prog X.w X.K X.mg X.base x k ps sp) (hr:Dq k' X.A) (ha:PA X [e0,e1,e2,e3,e4] (GF t0 (GF t1 (GF t2 (GF t3 (GF t4 RZ)))))) (hk:k<=k':=by decide) (hg:Gl X x:=by rfl) (hdb:(x == ("__debug__":Str))=false:=by decide) (he:starEach [e0,e1,e2,e3,e4] X.env=(false,eval e0 X.env)::starEach [e1,e2,e3,e4] X.env:=by rfl) (hpl:(backTo pos (starEach [e1,e2,e3,e4] X.env)).any (·.1)=false:=by rfl):PE X (.Call (.Name x p) [e0,e1,e2,e3,e4] [] pos) (tC5 sp t0 t1 t2 t3 t4):=Vn g hr ha hk hg hdb he hpl
end
open PySem.W (KasT kas_asc kas_desc kas_rev kas_tail3 kas_descPart kas_count kas_place kas_bin kas_sort)
section
variable {prog:Program} {w:World} {A:Around} {s:Shared}
end
end L2
namespace L2
open PySem PySem.Spec PyProof.Rows
def TOk (b:Bool) (t:SetTable):Prop:=t.led=b/\t.dummies=#[]/\(t.plain=true->t.place.toList.Pairwise (· < ·))
section
variable {prog:Program} {w:World} {KT:Type} [DecidableEq KT] (kn:KeyKind prog w KT)
def SetT (b:Bool) (h:Heap) (a:Addr) (S:KT->Bool) (n:Nat):Prop:=
 ∃ob es ep t,(h.get? a=some ob/\ob.ExactSet/\ob.data=.set es ep t)/\(ElemsOf kn es.toList/\∀k,S k=true ↔ ∃e∈es.toList,kn.is k e.2=true)/\(es.size < scanBound/\t.fits es.size=true/\es.size=n)/\TOk b t
variable {kn}
variable {A:Around} {E:YA} {s:Shared}
theorem SetT.stored {b:Bool} {h:Heap} {a:Addr} {ob:Obj} {es:Array (Int×Value)} {ep:Nat} {t:SetTable} (g1:h.get? a=some ob) (g2:ob.ExactSet) (g3:ob.data=.set es ep t)
  {es':Array (Int×Value)} {t':SetTable} {S':KT->Bool} (k1:ElemsOf kn es'.toList) (k2:∀k,S' k=true ↔ ∃e∈es'.toList,kn.is k e.2=true) (k3:es'.size < scanBound) (k4:t'.fits es'.size=true) (k5:TOk b t') :
  (h.update a (Obj.putSet es' t')).get? a=some { ob with data:=.set es' (ep+1) t' }/\SetT kn b (h.update a (Obj.putSet es' t')) a S' es'.size:=by
 obtain⟨q,_⟩:=SetOf_store (knd:=kn) g1 g2 g3 k1 k2 k3 k4;exact⟨q,_,es',ep+1,t',⟨q,g2,rq⟩,⟨k1,k2⟩,⟨k3,k4,rq⟩,k5⟩
end
def met {KT:Type} [DecidableEq KT] (val:Nat->KT):Nat->List KT
 | 0=>[]
 | i+1=>if val i∈met val i then met val i else met val i++[val i]
section
variable {KT:Type} [DecidableEq KT]
theorem WW (val:Nat->KT) (i:Nat):met val (i+1)=if val i∈met val i then met val i else met val i++[val i]:=rfl
theorem Tn (val:Nat->KT):∀i,(met val i).length<=i
 | 0=>Qce _
 | i+1=>by
  have ih:=Tn val i;unfold met;split
  ·omega
  ·rw[QaM];exact Nat.succ_le_succ ih
end
section
variable {prog:Program} {w:World} {KT:Type} [DecidableEq KT] {kn:KeyKind prog w KT} {A:Around} {E:YA} {s:Shared}
end
section
variable {prog:Program} {w:World} {A:Around} {E:YA} {s:Shared}
end
section
variable {prog:Program} {w:World} {A:Around} {E:YA} {s:Shared}
end
section
variable {prog:Program} {w:World} {A:Around} {E:YA} {s:Shared}
end
open PySem.Calls (spliced_cons spliced_nil)
section
variable {prog:Program} {w:World} {A:Around} {E:YA} {s:Shared}
end
end L2
namespace L2
open PySem PySem.Spec PyProof.Rows
section
variable {X:Cx} {K:YD}
end
theorem Rep.kn {H:Hp} {v:V} {d:PyData} (r:Rep H v d):Kn H v:=by
 cases r with
 | non=>exact True.intro
 | bl b=>exact True.intro
 | int i=>exact True.intro
 | str x=>exact True.intro
 | tup e _=>exact .inr ⟨_,e⟩
 | lst e _=>exact .inl ⟨_,e⟩
end L2
namespace PySem.ZZ
open PySem
section
variable {prog:Program} {w:World} {A:Around} {E:YA} {s:Shared}
abbrev itS (x:Str) (t:Tok):Obj:={ cls:=.type "str_ascii_iterator",data:=.fields #[.str x t,.int 0 0] }
abbrev zsa (h:Heap) (x:Str) (t:Tok) (l2:Addr):Heap:=((((h.push (itS x t)).push (itO "tuple_iterator" l2)).push (tuO #[.ref h.objs.size,.ref (h.push (itS x t)).objs.size])).push (tuO #[.none,.none]))
abbrev zs (h:Heap) (x:Str) (t:Tok) (l2:Addr):Heap:=(zsa h x t l2).push
 { cls:=.type "zip",data:=.fields #[.none,.bool false,.bool false,.ref ((h.push (itS x t)).push (itO "tuple_iterator" l2)).objs.size,.ref (((h.push (itS x t)).push (itO "tuple_iterator" l2)).push (tuO #[.ref h.objs.size,.ref (h.push (itS x t)).objs.size])).objs.size] }
end
end PySem.ZZ
namespace L2
open PySem PySem.Spec PyProof.Rows
section
variable {X:Cx}
end
section
variable {X:Cx}
abbrev TJ:=Str->St->Hp->VK->Prop
def PJ (X:Cx) (es:YJ) (t:TJ):Prop:=∀(jb:YC) (s:Shared) (σ : St) (H:Hp) (acc:Str) (Q:VK),Inv X jb σ H s->t acc σ H Q->wpAny (model X.prog X.w) X.A (joinParts acc (evalEach es X.env)) (EP X jb σ Q) X.xe s
def zY:TJ:=λacc _ H Q=>acc.length<=sizeLine/\Q (.str acc) H
def zX (te:TE) (t:TJ):TJ:=λacc σ H Q=>te σ H λv H1=>∃y,v=.str y/\(acc++y).length<=sizeLine/\t (acc++y) σ H1 Q
def wK (v:V) (y:Str):Prop:=v=.str y\/∃i:Int,v=.int i/\i.natAbs.log2 < 1920/\y=toString i
def zW (te:TE) (t:TJ):TJ:=λacc σ H Q=>te σ H λv H1=>∃y,wK v y/\(acc++y).length<=sizeLine/\t (acc++y) σ H1 Q
theorem O1:PJ X [] zY:=by
 intro jb s σ H acc Q I h;exact joinParts_nil ⟨.str acc,H,I.tok _,⟨_,rq⟩,h.2⟩ h.1
theorem OJ {e:Expr} {es:YJ} {te:TE} {t:TJ} (he:PE X e te) (hr:PJ X es t):PJ X (e::es) (zX te t):=by
 intro jb s σ H acc Q I h;refine joinParts_cons (thn (he jb s σ H _ I h) λv s1 h1=>?_);obtain⟨x,H1,I1,r1,y,rfl,hz,q⟩:=h1;obtain⟨t',rfl⟩:=r1;exact⟨hz,hr jb s1 σ H1 _ Q I1 q⟩
theorem JG {e:Expr} {es:YJ} {te:TE} {t:TJ} {pos:Pos} (he:PE X e te) (hr:PJ X es t):PJ X (.FormattedValue e (-1) none pos::es) (zW te t):=by
 intro jb s σ H acc Q I h;refine joinParts_cons (FormattedValue_plain (thn (he jb s σ H _ I h) λv s1 h1=>?_));obtain⟨x,H1,I1,r1,y,ty,hz,q⟩:=h1;have hy:y.length<=sizeLine:=by
  rw[QaZ] at hz;omega
 rcases ty with rfl |⟨i,rfl,hi,rfl⟩
 ·obtain⟨t',rfl⟩:=r1;exact formatField_str (λt2 k2=>⟨hz,hr jb _ σ H1 _ Q (I1.tok k2) q⟩) hy
 ·obtain⟨t',rfl⟩:=r1;exact formatField_int_small hi ⟨hz,hr jb _ σ H1 _ Q (I1.tok _) q⟩
theorem MF {e1 e2:Expr} {es:YJ} {t:TJ} {pos:Pos} (h:PJ X (e1::e2::es) t):PE X (.JoinedStr (e1::e2::es) pos) (fun σ H Q=>t Str.empty σ H Q):=by
 intro jb s σ H Q I hh;exact JoinedStr_many (h jb s σ H _ Q I hh)
theorem N6:MtR X "str.startswith" (λx vs H Q=>∃z y,x=.str z/\vs=[.str y]/\Q (.bl (Txt.startswith z y)) H):=by
 intro jb s σ H x vs v us Q I rx rv h;obtain⟨z,y,rfl,rfl,q⟩:=h;obtain⟨t,rfl⟩:=rx;obtain⟨u,rfl,ru⟩:=rv.one;obtain⟨t',rfl⟩:=ru;exact SC.startswith ⟨.bl _,H,I,rfl,q⟩
theorem Yj:MtR X "str.endswith" (λx vs H Q=>∃z y,x=.str z/\vs=[.str y]/\Q (.bl (Txt.endswith z y)) H):=by
 intro jb s σ H x vs v us Q I rx rv h;obtain⟨z,y,rfl,rfl,q⟩:=h;obtain⟨t,rfl⟩:=rx;obtain⟨u,rfl,ru⟩:=rv.one;obtain⟨t',rfl⟩:=ru;exact SC.endswith ⟨.bl _,H,I,rfl,q⟩
theorem K8:MtR X "str.partition" (λx vs H Q=>∃z y,x=.str z/\vs=[.str y]/\y.length≠0/\z.length<=sizeLine/\∀p,H p=none->Q (.ref p) (upd H p (.tup [.str (Txt.partition z y).1,.str (Txt.partition z y).2.1,.str (Txt.partition z y).2.2]))):=by
 intro jb s σ H x vs v us Q I rx rv h;obtain⟨z,y,rfl,rfl,hy,hz,q⟩:=h;obtain⟨t,rfl⟩:=rx;obtain⟨u,rfl,ru⟩:=rv.one;obtain⟨t',rfl⟩:=ru;have hy':(y.length == 0)=false:=beq_eq_false_iff_ne.mpr hy;have q0:=q s.heap.objs.size (I.hok.fresh (Qce _));refine Qcm F.slot_str_partition (typeIs_str _ _ _) F.entry_str_partition (F.args_str_partition_2 _ _) (meets_str_partition z y t t' hy' hz) ?_;unfold Txt.partition at q0;cases e:Builtin.Str.occurrences z y 0 z.length 1 with
 | nil=>
  rw[e] at q0;exact⟨.ref s.heap.objs.size,_,I.laid (t':=s.toks+1) (o:=.tup [.str z,.str Str.empty,.str Str.empty]) (λb o e=>Qar _ e) (Qce _) ⟨by show 3<=sizeLine;decide,_,.cons ⟨_,rq⟩ (.cons ⟨_,rq⟩ (.cons ⟨_,rq⟩ .nil)),IsTup.new _ _⟩,rq,q0⟩
 | cons i r=>
  rw[e] at q0;exact⟨.ref s.heap.objs.size,_,I.laid (t':=s.toks+1+1) (o:=.tup [.str (Builtin.Str.strSub z 0 i),.str y,.str (Builtin.Str.strSub z (i+y.length) z.length)]) (λb o e=>Qar _ e) (Qce _) ⟨by show 3<=sizeLine;decide,_,.cons ⟨_,rq⟩ (.cons ⟨_,rq⟩ (.cons ⟨_,rq⟩ .nil)),IsTup.new _ _⟩,rq,q0⟩
theorem T7:∀l:List (Str×Tok),Vals ((l.map (·.1)).map V.str) (strValues l)
 | []=>.nil
 | p::r=>.cons ⟨p.2,rfl⟩ (T7 r)
theorem Nq:MtR X "str.split" (λx vs H Q=>∃z y,x=.str z/\vs=[.str y]/\y.length≠0/\z.length+2<=sizeLine/\∀p,H p=none->Q (.ref p) (upd H p (.lst ((Txt.split z y).map V.str)))):=by
 intro jb s σ H x vs v us Q I rx rv h;obtain⟨z,y,rfl,rfl,hy,hz,q⟩:=h;obtain⟨t,rfl⟩:=rx;obtain⟨u,rfl,ru⟩:=rv.one;obtain⟨t',rfl⟩:=ru;have hy':(y.length == 0)=false:=beq_eq_false_iff_ne.mpr hy;have q0:=q s.heap.objs.size (I.hok.fresh (Qce _));have hn:(Builtin.Str.partsBetween z (Builtin.Str.occurrences z y 0 z.length (z.length+1)) y.length).length<=sizeLine:=by
  have e1:=StrLaws.occ_length_le z y 0 z.length (z.length+1);rw[length_partsBetween];omega
 have fin:∀(l:List (Str×Tok)) (k:Nat),l.map (·.1)=Txt.split z y->l.length<=sizeLine->EP X jb σ Q (.ref s.heap.objs.size) { s with heap:=s.heap.push { cls:=.type "list",data:=.seq (strValues l).toArray },toks:=k }:=λl k e hl=>by
  rw[<-e] at q0;exact⟨.ref s.heap.objs.size,_,I.laid (t':=k) (o:=.lst ((l.map (·.1)).map V.str)) (λb o e=>Qar _ e) (Qce _) ⟨by rw[Qbw,Qbw];exact hl,_,0,T7 l,QaH _ rfl⟩,rq,q0⟩
 cases h1:(decide (z.length < y.length) || decide (Builtin.Str.strKind z < Builtin.Str.strKind y)) with
 | true=>
  refine Qcm F.slot_str_split (typeIs_str _ _ _) F.entry_str_split (F.args_str_split_2 _ _) (meets_str_split_cannot_occur z y t t' h1) ?_;exact fin [(z,t)] _ (if_pos h1).symm (by show 1<=sizeLine;decide)
 | false=>
  cases hf:(Builtin.Str.occurrences z y 0 z.length (z.length+1)).isEmpty with
  | true=>
   refine Qcm F.slot_str_split (typeIs_str _ _ _) F.entry_str_split (F.args_str_split_2 _ _) (meets_str_split_not_found z y t t' h1 hy' hf) ?_;exact fin [(z,t)] _ ((if_neg (ne_true_of_eq_false h1)).trans (if_pos hf)).symm (by show 1<=sizeLine;decide)
  | false=>
   refine Qcm F.slot_str_split (typeIs_str _ _ _) F.entry_str_split (F.args_str_split_2 _ _) (meets_str_split_sep z y t t' h1 hy' hf (by omega) hn) ?_;show wants (EP X jb σ Q) X.xe _ { s with toks:=_,heap:=s.heap.push { cls:=.type "list",data:=.seq (strsFrom s.toks (Builtin.Str.partsBetween z (Builtin.Str.occurrences z y 0 z.length (z.length+1)) y.length)).toArray } };rw[strsFrom_eq];refine fin (numbered s.toks _) _ ((numbered_texts _ _).trans ((if_neg (ne_true_of_eq_false h1)).trans (if_neg (ne_true_of_eq_false hf))).symm) ?_;have:=congrArg List.length (numbered_texts s.toks (Builtin.Str.partsBetween z (Builtin.Str.occurrences z y 0 z.length (z.length+1)) y.length));rw[Qbw] at this;omega
theorem gO:Dn X (.type "int") (λxs H Q=>∃(z:Str) (n:Int),xs=[.str z]/\intText? z=some n/\z.length<=640/\Q (.int n) H):=by
 intro jb s σ H xs us Q I r h;obtain⟨z,n,rfl,hn,hl,q⟩:=h;obtain⟨u,rfl,t,rfl⟩:=vals1 r;exact PySem.W.KIN.call_text hn hl ⟨.int n,H,I.tok _,⟨_,rq⟩,q⟩
end
open PySem.Calls (spliced_cons spliced_nil)
theorem StrsAre.len:∀{vs:YE} {ns:YF},StrsAre vs ns->vs.length=ns.length
 | _,_,.nil=>rfl
 | _,_,.cons _ _ r=>by rw[Qbo,Qbo,StrsAre.len r]
theorem StrsAre.at_:∀{vs:YE} {ns:YF},StrsAre vs ns->∀(i:Nat) (v:Value),vs[i]?=some v->∃t,v=.str (ns.getD i Str.empty) t
 | _,_,.nil,i,v,e=>by simp at e
 | _,_,.cons x t r,0,v,e=>by
  simp at e;exact⟨t,by rw[<-e];rfl⟩
 | _,_,.cons x t r,i+1,v,e=>by
  simp at e;obtain⟨t',h⟩:=StrsAre.at_ r i v e;exact⟨t',by rw[h];rfl⟩
section
variable {prog:Program} {w:World} {A:Around} {E:YA} {s:Shared}
end
section
variable {X:Cx}
end
end L2
namespace L2
open PySem PySem.Spec PyProof.Rows
def clO (env:Env) (sc:Scope) (m:Nat):List (Str×Addr):=cellsFrom (m+1) sc.names (Eo env sc.names [])
def cxO (X:Cx) (N':YF) (scope:Scope) (s3:Shared) (H3:Hp) (fp:List Addr) (pn:YC):Cx where
 prog:=X.prog
 w:=X.w
 K:=X.K
 mg:=X.mg
 base:=X.base
 A:=X.A
 N:=N'
 s₀:=s3
 H₀:=H3
 env:=compEnvC scope (clO X.env scope s3.heap.objs.size) s3.heap.objs.size X.env
 outer:=X.stack
 stack:=X.stack
 ex:=fp
 fn:=λx=>scope.names.lookup x == some .cell
 calm:=X.calm
 pn:=pn
 xe:=λ_ _=>False
structure Z2 (X:Cx) (N':YF) (src:List (Option Nat)) (sc:Scope):Prop where
 kind:sc.kind=.function
 once:∀y∈sc.names,sc.names.lookup y.1=some y.2
 fv:∀y∈sc.names,y.2=.free->X.env.kindOf y.1=some .cell\/X.env.kindOf y.1=some .free
 len:src.length=N'.length
 src:∀(i:Nat) (x:Str) (j:Nat),N'[i]?=some x->src[i]?=some (some j)->X.N[j]?=some x/\sc.names.lookup x=some .free
section
variable {X:Cx} {N':YF} {src:List (Option Nat)} {sc:Scope} {jb:YC} {σ : St} {H:Hp} {s3:Shared} {fp:List Addr} {h1:Heap} {tk:Nat}
theorem Z2.loc (S:Z2 X N' src sc):∀y∈sc.names,y.2=.local->sc.names.lookup y.1=some .local:=λy hy e=>by rw[S.once y hy,e]
end
theorem Bs.in {X:Cx} {N1 N':YF} {src:List (Option Nat)} {sc so:Scope} {s3:Shared} {H3:Hp} {fp:List Addr} {pn:YC} (kind:sc.kind=.function) (Ge:∀y∈sc.names,y.2≠.cell) (loc:∀y∈sc.names,y.2=.local->sc.names.lookup y.1=some .local)
  (fv:∀y∈sc.names,y.2=.free->so.names.lookup y.1=some .cell) (len:src.length=N'.length)
  (sr:((N'.zip src).all λp=>match p.2 with | none=>true | some j=>decide (N1[j]?=some p.1)&&decide (sc.names.lookup p.1=some .free))=true):Bs (cxO X N1 so s3 H3 fp pn) N' src sc where
 kind:=kind
 Ge:=Ge
 loc:=loc
 fv:=λy hy e=>.inl (by
  have k:(compEnvC so (clO X.env so s3.heap.objs.size) s3.heap.objs.size X.env).kindOf y.1=(so.names.lookup y.1).map (Jl X.env y.1):=Nr X.env so.names y.1;show (compEnvC so (clO X.env so s3.heap.objs.size) s3.heap.objs.size X.env).kindOf y.1=some .cell;rw[k,fv y hy e];unfold Jl;simp)
 len:=len
 src:=λi x j e1 e2=>by
  rw[Qbu] at sr;have hm:(x,some j)∈N'.zip src:=by
   refine QaE (i:=i) ?_;rw[List.getElem?_zip_eq_some];exact⟨e1,e2⟩
  have:=sr _ hm;simp only[Qbs,Qbm] at this;exact this
end L2
namespace K06
open PySem L2
def top (i:Nat):Stmt:=PySem.Challenge.pw_warnloop_k06_texts_of_no_plan.main.body.getD i (.Pass ⟨0,0,0,0⟩)
theorem Bj:bootBuiltins "isinstance"=some (.builtin "isinstance"):=by trivial
theorem Xz:bootBuiltins "int"=some (.type "int"):=by trivial
theorem qy:bootBuiltins "bool"=some (.type "bool"):=by trivial
theorem Dy:bootBuiltins "tuple"=some (.type "tuple"):=by trivial
theorem ZX:bootBuiltins "list"=some (.type "list"):=by trivial
theorem JX:bootBuiltins "str"=some (.type "str"):=by trivial
theorem Ep:bootBuiltins "len"=some (.builtin "len"):=by trivial
theorem JZ:bootBuiltins "all"=some (.builtin "all"):=by trivial
theorem gW:bootBuiltins "abs"=some (.builtin "abs"):=by trivial
theorem Xy:bootBuiltins "max"=some (.builtin "max"):=by trivial
theorem gR:bootBuiltins "sorted"=some (.builtin "sorted"):=by trivial
theorem gU:bootBuiltins "min"=some (.builtin "min"):=by trivial
structure Nm (mg:YB):Prop where
 isinstance:mg "isinstance"=none
 int:mg "int"=none
 bool:mg "bool"=none
 tuple:mg "tuple"=none
 list:mg "list"=none
 str:mg "str"=none
 len:mg "len"=none
 all:mg "all"=none
 abs:mg "abs"=none
 max:mg "max"=none
 min:mg "min"=none
 range:mg "range"=none
 sorted:mg "sorted"=none
 any:mg "any"=none
 sum:mg "sum"=none
 enumerate:mg "enumerate"=none
 zip:mg "zip"=none
 reversed:mg "reversed"=none
 dict:mg "dict"=none
 ord:mg "ord"=none
 set:mg "set"=none
abbrev SN:Stmt:=top 49
abbrev MJ:YF:=["_law_script","_law_k"]
theorem Qy:Bf ["_law_script","_law_k","_law_cell"] MJ (Al SN):=by ac_rfl
abbrev QB:Stmt:=top 50
abbrev Em:YF:=["_law_bag_here","_law_many"]
theorem Ih:Bf ["_law_bag_here","_law_many","_law_digit","_law_primes","_law_step","_law_base","_law_found"] Em (Al QB):=by ac_rfl
theorem tW (v:V):isW v=(isI v&&!isB v):=by cases v <;> rfl
def Bo (H:Hp) (b:Addr) (n:Nat):Prop:=∃x y z:Int,H b=some (.lst [.int x,.int y,.int z])/\0<=x/\0<=y/\y<=4294967296/\0<=z/\z<=n
theorem Bo.same {H H':Hp} {b:Addr} {n:Nat} (h:Bo H b n) (s:Same H H'):Bo H' b n:=by
 obtain⟨x,y,z,e,r⟩:=h;exact⟨x,y,z,s _ _ e,r⟩
theorem Bo.mono {H:Hp} {b:Addr} {n m:Nat} (h:Bo H b n) (l:n<=m):Bo H b m:=by
 obtain⟨x,y,z,e,h1,h2,h3,h4,h5⟩:=h;exact⟨x,y,z,e,h1,h2,h3,h4,by omega⟩
theorem Bo.nb {H:Hp} {b p:Addr} {n:Nat} (h:Bo H b n) (hp:H p=none):b≠p:=by obtain⟨_,_,_,e,_⟩:=h;exact Aq e hp
theorem Bo.Ja {H:Hp} {b:Addr} {n:Nat} (h:Bo H b n):∀xs,H b≠some (.tup xs):=λxs z=>by obtain⟨_,_,_,e,_⟩:=h;rw[e] at z;cases z
theorem Bo.ex {H:Hp} {b:Addr} {n:Nat} (h:Bo H b n):∃o,H b=some o:=by obtain⟨_,_,_,e,_⟩:=h;exact⟨_,e⟩
theorem Bo.FP {H H':Hp} {a b:Addr} {n:Nat} (h:Bo H b n) (s:Ag a H H') (ne:b≠a):Bo H' b n:=by
 obtain⟨x,y,z,e,r⟩:=h;exact⟨x,y,z,s _ _ e ne,r⟩
theorem Am {n:Nat} (h:n<=1000):n<=sizeLine:=Nat.le_of_lt (Bb h)
inductive aK (K:YD) (vs:YG) (H:Hp) (Q:VK) (E:XK):Prop
 | mk (a:Addr) (ns:List Int) (k:Int) (_:vs=[.ref a,.int k]) (_:SqL K H a (ns.map V.int)) (_:ns.length<=63) (_:0<=k) (_:k<=100) (_:∀p o,H p=none->Bo (upd H p o) p 0->Q (.ref p) (upd H p o)):aK K vs H Q E
inductive Il (vs:YG) (H:Hp) (Q:VK) (E:XK):Prop
 | mk (b:Addr) (n:Nat) (m:Int) (_:vs=[.ref b,.int m]) (_:Bo H b n) (_:n<=10000) (_:0 < m) (_:m < 1073741824) (_:∀r H',0<=r->r < m->Bo H' b (n+1)->Ag b H H'->Q (.int r) H'):Il vs H Q E
inductive Ro (K:YD) (vs:YG) (H:Hp) (Q:VK) (E:XK):Prop
 | mk (a:Addr) (ns:List Int) (_:vs=[.ref a]) (_:SqL K H a (ns.map V.int)) (_:ns.length<=63) (_:∀H',Q (.bl true) H'):Ro K vs H Q E
theorem at7 {i:Int} (h0:0<=i) (h7:i < 7) {a b c d e f g:Int} (P:Int->Prop) (ha:P a) (hb:P b) (hc:P c) (hd:P d) (he:P e) (hf:P f) (hg:P g):∃p,atI [V.int a,.int b,.int c,.int d,.int e,.int f,.int g] i=some (.int p)/\P p:=by
 have:i=0\/i=1\/i=2\/i=3\/i=4\/i=5\/i=6:=by omega
 rcases this with rfl | rfl | rfl | rfl | rfl | rfl | rfl
 ·exact⟨_,rq,ha⟩
 ·exact⟨_,rq,hb⟩
 ·exact⟨_,rq,hc⟩
 ·exact⟨_,rq,hd⟩
 ·exact⟨_,rq,he⟩
 ·exact⟨_,rq,hf⟩
 ·exact⟨_,rq,hg⟩
theorem uN {x:Int} {b:Bool}:cO x (if b=true then 1 else 0):=.inr (by cases b <;> exact⟨by decide,by decide⟩)
section
variable {P:Program} {w:World} {K:YD} {mg:YB} {base:Heap}
theorem jQ (C:Code K mg "_law_bag" SN MJ) (T:Nm mg):Good P w K mg base "_law_bag" 1 MJ (aK K):=by
 refine C.good Qy (λvs H Q E h=>?_) (λf cdv A outer s H vs Q E hr h=>?_)
 ·obtain⟨a,ns,k,rfl,_⟩:=h;rfl
 obtain⟨a,ns,k,rfl,hS,h63,h0,h1,q⟩:=h;refine⟨_,(Ae (Ax (i:=2) Qy.nd rfl (Or.inl rfl) (Aw Dj (Aw Dj (Aw Gx (Aw Gx Ad (pv 1)) (pv 1)) (Aw Gx Ad (pv 1))) Ad))
 (Ae (BP (Bp Vp (pv 1) (Ay Dc rfl T.len Ep (Aa (pv 0) Ab)) (Bx _)) (Ah (Ax (i:=2) Qy.nd rfl (Or.inl rfl) (Cz CP (pv 0) (pv 1) (λ_ _=>rfl)))) Bq)
 (Ah (Bc (BZ (Aa (Aw Gx (Ay Xx rfl T.abs gW (Aa (pv 2) Ab)) (Cj gP rfl T.int Xz (Aa (Kw vU (Ay Xx rfl T.abs gW (Aa (pv 2) Ab)) (Aw dZ Ad Ad) (Bx _)) Ab))) (Aa (Aw Dj (Aw JV (pv 2) Ad) (Aw Gx Ad (pv 1))) (Aa Ad Ab)))))))),?_⟩
 show let R0:TS:=_;let R1:TS:=_;let R2:TS:=Ar (Ec _ R1 _) R0;Ar _ R2 _ _ _;intro R0 R1 R2;refine⟨_,rq,_,_,rq,rq,.inl ⟨by decide,by decide⟩,_,rq,_,_,rq,rq,.inr ⟨by omega,by omega⟩,_,rq,_,_,rq,rq,.inl ⟨by decide,by decide⟩,_,_,rq,rq,_,_,rq,rq,?_⟩;refine⟨_,rq,_,rq,a,_,rq,.inl hS,_,_,rq,rq,_,rq,?_⟩;have hl:(ns.map V.int).length=ns.length:=Qbw _;have fin:∀(c:Int) (p:Addr),H p=none->Q (.ref p) (upd H p (.lst [.int ((if c < 0 then -c else c)*(if decide ((10:Int) ^ (18:Int).toNat<=(if c < 0 then -c else c))=true then 1 else 0)),.int (c % 2147483647+37*k),.int 0])):=λc p hp=>by
  refine q p _ hp ⟨_,_,_,Ac,?_,?_,?_,by omega,by omega⟩
  ·refine Int.mul_nonneg ?_ ?_
   ·split <;> omega
   ·split <;> omega
  ·have:=QbF c (show (2147483647:Int)≠0 by decide);omega
  ·have:=QaW c (show (0:Int) < 2147483647 by decide);omega
 refine Jr (λc1=>?_) (λc1=>?_)
 ·have c':k < (((ns.map V.int).length:Nat):Int):=Qbd c1;rw[hl] at c';have hk:k.toNat < ns.length:=by omega
  have hat:atI (ns.map V.int) ((k.toNat:Nat):Int)=some (.int ns[k.toNat]):=Gj (by rw[Qbc];simp[hk]);rw[Int.toNat_of_nonneg h0] at hat;refine⟨_,rq,_,rq,a,_,_,_,rq,rq,hS,hat,?_⟩;exact⟨_,rq,_,rq,_,rq,_,rq,_,_,rq,rq,⟨by decide,by decide,by decide⟩,_,_,rq,rq,.inr ⟨_,rq,_,_,rq,rq,uN,_,rq,_,_,rq,rq,(by show (0:Int) < 2147483647;decide),_,rq,_,_,rq,rq,.inl ⟨by decide,by decide⟩,_,_,rq,rq,
   (by show 3<=sizeLine;decide),λl hl'=>fin _ l hl'⟩⟩
 ·exact⟨_,rq,_,rq,_,rq,_,rq,_,_,rq,rq,⟨by decide,by decide,by decide⟩,_,_,rq,rq,.inr ⟨_,rq,_,_,rq,rq,uN,_,rq,_,_,rq,rq,(by show (0:Int) < 2147483647;decide),_,rq,_,_,rq,rq,.inl ⟨by decide,by decide⟩,_,_,rq,rq,
   (by show 3<=sizeLine;decide),λl hl'=>fin _ l hl'⟩⟩
theorem d9 (C:Code K mg "_law_take" QB Em) (T:Nm mg):Good P w K mg base "_law_take" 1 Em Il:=by
 refine C.good Ih (λvs H Q E h=>?_) (λf cdv A outer s H vs Q E hr h=>?_)
 ·obtain⟨b,n,m,rfl,_⟩:=h;rfl
 obtain⟨b,n,m,rfl,⟨x,y,z,hb,x0,y0,y1,z0,z1⟩,hn,m0,m1,q⟩:=h;refine⟨_,(Ae (BP (Bp aY (Cz CP (pv 0) Ad (λ_ _=>rfl)) Ad (Bx _)) (Ae (Ax (i:=2) Ih.nd rfl (Or.inl rfl) (Aw JV (Cz CP (pv 0) Ad (λ_ _=>rfl)) (pv 1)))
 (Ae (Eb (Aw S9 (Cz CP (pv 0) Ad (λ_ _=>rfl)) (pv 1)) (Ry (pv 0) Ad set_list))
 (Ah (Bc (pv 2))))) Bq)
 (Ae (Ax (i:=3) Ih.nd rfl (Or.inl rfl) (@CZ _ _ _ _ _ (@Aa _ _ _ _ _ (@Ad _ _ _ _) (@Aa _ _ _ _ _ (@Ad _ _ _ _) (@Aa _ _ _ _ _ (@Ad _ _ _ _) (@Aa _ _ _ _ _ (@Ad _ _ _ _) (@Aa _ _ _ _ _ (@Ad _ _ _ _) (@Aa _ _ _ _ _ (@Ad _ _ _ _) (@Aa _ _ _ _ _ (@Ad _ _ _ _) (@Ab _) Ak) Ak) Ak) Ak) Ak) Ak) Ak)))
 (Ae (Eb (Aw Dj (Cz CP (pv 0) Ad (λ_ _=>rfl)) Ad) (Ry (pv 0) Ad set_list))
 (Ae (Ax (i:=4) Ih.nd rfl (Or.inl rfl) (Cz CP (pv 0) Ad (λ_ _=>rfl)))
 (Ae (Ax (i:=5) Ih.nd rfl (Or.inl rfl) (Aw Dj (Aw Dj (Aw Gx (Cz CP (pv 0) Ad (λ_ _=>rfl)) (Aw Dj (Aw Gx Ad (pv 4)) Ad)) (Aw Gx (Aw Gx Ad (pv 4)) (pv 4))) Ad))
 (Ae (Ax (i:=6) Ih.nd rfl (Or.inl rfl) (Aw JV (Aw dZ (pv 5) Ad) (Cz Ld (pv 3) (Aw JV (pv 4) Ad) (λ_ _=>rfl))))
 (Ah (Bc (Aw JV (Aw S9 (Aw JV (Aw Gx (pv 6) (Aw Dj (Aw S9 (pv 6) Ad) Ad)) (Cz Ld (pv 3) (Aw JV (Aw Dj (pv 4) Ad) Ad) (λ_ _=>rfl))) Ad) (pv 1)))))))))),?_⟩
 show let R0:TS:=_;let R1:TS:=Ar _ R0;let R2:TS:=Ar _ R1;let R3:TS:=Ar _ R2;let R4:TS:=Ar _ R3;let R5:TS:=Ar _ R4;let R6:TS:=Ar _ _;let R7:TS:=Ar _ R6;Ar (Ec _ R7 _) R5 _ _ _;intro R0 R1 R2 R3 R4 R5 R6 R7;refine⟨_,rq,b,_,_,_,rq,rq,SqL.of hb,rq,_,_,rq,rq,_,rq,?_⟩;refine Jr (λc1=>?_) (λc1=>?_)
 ·have c':0 < x:=Qbd c1;refine⟨_,rq,b,_,_,_,rq,rq,SqL.of hb,rq,_,rq,_,_,rq,rq,m0,?_⟩;refine⟨_,rq,b,_,_,_,rq,rq,SqL.of hb,rq,_,rq,_,_,rq,rq,⟨m0,m1⟩,_,rq,b,_,_,_,rq,rq,hb,rq,?_⟩;exact⟨_,rq,q _ _ (QbF x (by omega)) (QaW x m0) ⟨x / m,y,z,Ac,Int.ediv_nonneg x0 (by omega),y0,y1,z0,by omega⟩ Ag.upd⟩
 ·refine⟨(by show 7<=sizeLine;decide),λtp htp=>?_⟩;have nbt:b≠tp:=Aq hb htp;have hb1:∀o,(upd H tp o) b=some (.lst [.int x,.int y,.int z]):=λo=>by rw[Az nbt];exact hb
  have ht1:∀o u,(upd (upd H tp o) b u) tp=some o:=λo u=>by rw[Az nbt.symm,Ac]
  refine⟨_,rq,b,_,_,_,rq,rq,SqL.of (hb1 _),rq,_,_,rq,rq,_,rq,b,_,_,_,rq,rq,hb1 _,rq,?_⟩;refine⟨_,rq,b,_,_,_,rq,rq,SqL.of Ac,rq,?_⟩;have s0:0<=z+1:=by omega
  have s1:z+1<=10001:=by omega
  refine⟨_,rq,b,_,_,_,rq,rq,SqL.of Ac,rq,_,rq,_,_,rq,rq,.inl ⟨by decide,by decide⟩,_,_,rq,rq,_,_,rq,rq,.inl ⟨by omega,by omega⟩,_,rq,_,_,rq,rq,.inl ⟨by decide,by decide⟩,_,rq,_,_,rq,rq,.inr ⟨by omega,by omega⟩,
   _,_,rq,rq,_,_,rq,rq,?_⟩
  have hbase:(y*(2*(z+1)+1)+6007*(z+1)*(z+1)+29).natAbs < 2 ^ 64:=by
   have h1:0<=y*(2*(z+1)+1):=Int.mul_nonneg y0 (by omega);have h2:y*(2*(z+1)+1)<=4294967296*20003:=Int.mul_le_mul y1 (by omega) (by omega) (by omega);have h3:0<=6007*(z+1)*(z+1):=Int.mul_nonneg (by omega) s0;have h4:6007*(z+1)*(z+1)<=(6007*10001)*10001:=Int.mul_le_mul (by omega) s1 s0 (by omega);omega
  obtain⟨p1,e1,p10,p11⟩:=at7 (i:=(z+1) % 7) (QbF _ (by decide)) (QaW _ (by decide)) (a:=2147483629) (b:=2147483587) (c:=2147483579) (d:=2147483563) (e:=2147483549) (f:=2147483543) (g:=2147483497)
   (λp=>0 < p/\p < 2147483648) (by decide) (by decide) (by decide) (by decide) (by decide) (by decide) (by decide)
  obtain⟨p2,e2,p20,p21⟩:=at7 (i:=(z+1+3) % 7) (QbF _ (by decide)) (QaW _ (by decide)) (a:=2147483629) (b:=2147483587) (c:=2147483579) (d:=2147483563) (e:=2147483549) (f:=2147483543) (g:=2147483497)
   (λp=>0 < p/\p < 2147483648) (by decide) (by decide) (by decide) (by decide) (by decide) (by decide) (by decide)
  refine⟨_,rq,_,_,rq,rq,⟨by decide,by decide,hbase⟩,_,rq,_,rq,_,_,rq,rq,(by show (0:Int) < 7;decide),tp,_,_,_,rq,rq,SqT.of (ht1 _ _),e1,_,_,rq,rq,p10,?_⟩;generalize hF:(y*(2*(z+1)+1)+6007*(z+1)*(z+1)+29) ^ (3:Int).toNat % p1=F;have F0:0<=F:=by rw[<-hF];exact QbF _ (by omega)
  have F1:F < p1:=by rw[<-hF];exact QaW _ p10
  refine⟨_,rq,_,rq,_,_,rq,rq,⟨by decide,by decide⟩,_,_,rq,rq,_,_,rq,rq,.inl ⟨by omega,by omega⟩,_,rq,_,rq,_,_,rq,rq,_,_,rq,rq,(by show (0:Int) < 7;decide),tp,_,_,_,rq,rq,SqT.of (ht1 _ _),e2,_,_,rq,rq,p20,
   _,_,rq,rq,⟨by decide,by decide⟩,_,rq,_,_,rq,rq,m0,?_⟩
  refine q _ _ (QbF _ (by omega)) (QaW _ m0) ⟨x,y,z+1,Ac,x0,y0,y1,s0,by omega⟩ λc o e nc=>?_;rw[Az nc,Az (Aq e htp)];exact e
end
abbrev QD:Stmt:=top 57
abbrev K6:YF:=["_law_e"]
theorem JC:Bf ["_law_e","_law_kinds","_law_names_here"] K6 (Al QD):=by ac_rfl
structure Er (K:YD) (mg:YB) (hc c0 c1 c2 c3 c4 c5 c6 c7 c8 c9 c10 c11 c12:Addr):Prop where
 ve:mg "ValueError"=none
 Yi:mg "HouseError"=some (.ref hc)
 X7:XCl K hc
 pU:mg "NoPlan"=some (.ref c0)
 Tj:mg "NoText"=some (.ref c1)
 bA:mg "NoStretch"=some (.ref c2)
 pR:mg "NoSpot"=some (.ref c3)
 eH:mg "NoOpener"=some (.ref c4)
 bC:mg "NoAddress"=some (.ref c5)
 j6:mg "NoRules"=some (.ref c6)
 pX:mg "NoHand"=some (.ref c7)
 j7:mg "NoPanel"=some (.ref c8)
 pW:mg "NoLink"=some (.ref c9)
 tG:mg "NoLog"=some (.ref c10)
 pY:mg "NoDeed"=some (.ref c11)
 tE:mg "NoRow"=some (.ref c12)
structure Knd (K:YD) (hc C:Addr) (cs:List Addr) (j:Nat):Prop where
 xc:XCl K C
 sub:subIn K (.ref C) (.ref hc)=some true
 kit:∀i d,cs[i]?=some d->kitOne K (.ref C) (.ref d)=some (decide (i=j))
 kv:kitOne K (.ref C) (.type "ValueError")=some true
def nJ (j:Nat):Str:=(["plan","text","stretch","spot","opener","address","rules","hand","panel","link","log","deed","row"]:YF).getD j ""
def bsl (j:Nat):List Bool:=[decide (0=j),decide (1=j),decide (2=j),decide (3=j),decide (4=j),decide (5=j),decide (6=j),decide (7=j),decide (8=j),decide (9=j),decide (10=j),decide (11=j),decide (12=j)]
theorem gY:∀j,j < 13->(bsl j).countP id=1:=by decide
theorem uP:∀j,j < 13->(bsl j)[j]?=some true:=by decide
theorem uO:∀j,j < 13->∀m,m < j->(bsl j)[m]?=some false:=by decide
theorem wordAt:∀j,j < 13->([.str "plan",.str "text",.str "stretch",.str "spot",.str "opener",.str "address",.str "rules",.str "hand",.str "panel",.str "link",.str "log",.str "deed",.str "row"]:YG)[j]?=some (.str (nJ j))
 | 0,_=>rfl
 | 1,_=>rfl
 | 2,_=>rfl
 | 3,_=>rfl
 | 4,_=>rfl
 | 5,_=>rfl
 | 6,_=>rfl
 | 7,_=>rfl
 | 8,_=>rfl
 | 9,_=>rfl
 | 10,_=>rfl
 | 11,_=>rfl
 | 12,_=>rfl
 | n+13,h=>absurd h (by omega)
inductive V6 (K:YD) (hc:Addr) (cs:List Addr) (vs:YG) (H:Hp) (Q:VK) (E:XK):Prop
 | mk (e C:Addr) (j:Nat) (_:vs=[.ref e]) (_:H e=some (xo e C)) (_:Knd K hc C cs j) (_:j < 13) (_:∀H',Same H H'->Q (.str (nJ j)) H'):V6 K hc cs vs H Q E
section
variable {P:Program} {w:World} {K:YD} {mg:YB} {base:Heap} {hc c0 c1 c2 c3 c4 c5 c6 c7 c8 c9 c10 c11 c12:Addr}
theorem pF (C:Code K mg "_law_kind" QD K6) (T:Nm mg) (XE:Er K mg hc c0 c1 c2 c3 c4 c5 c6 c7 c8 c9 c10 c11 c12):Vw P w K mg base "_law_kind" 1 K6 (V6 K hc [c0,c1,c2,c3,c4,c5,c6,c7,c8,c9,c10,c11,c12]):=by
 refine C.wB JC (λvs H Q E h=>?_) (λf cdv A outer s H vs Q hr h=>?_)
 ·obtain⟨e,C,j,rfl,_⟩:=h;rfl
 obtain⟨e,C,j,rfl,he,k,hj,q⟩:=h;refine⟨_,(@Ae _ _ _ _ _ (@Ax _ _ 1 _ _ _ _ JC.nd rfl (Or.inl rfl) (BZ (Aa (Ay Dw rfl T.isinstance Bj (Aa (pv 0) (Aa (DP (v:=.ref _) rfl XE.pU rfl) Ab))) (Aa (Ay Dw rfl T.isinstance Bj (Aa (pv 0) (Aa (DP (v:=.ref _) rfl XE.Tj rfl) Ab))) (Aa (Ay Dw rfl T.isinstance Bj (Aa (pv 0) (Aa (DP (v:=.ref _) rfl XE.bA rfl) Ab))) (Aa (Ay Dw rfl T.isinstance Bj (Aa (pv 0) (Aa (DP (v:=.ref _) rfl XE.pR rfl) Ab))) Ab))))) (by rfl) (by first | exact .inl rfl | exact .inr rfl))
 (@Ae _ _ _ _ _ (@Ax _ _ 1 _ _ _ _ JC.nd rfl (Or.inl rfl) (@Aw _ _ _ _ _ _ _ _ RB (pv 1) (BZ (Aa (Ay Dw rfl T.isinstance Bj (Aa (pv 0) (Aa (DP (v:=.ref _) rfl XE.eH rfl) Ab))) (Aa (Ay Dw rfl T.isinstance Bj (Aa (pv 0) (Aa (DP (v:=.ref _) rfl XE.bC rfl) Ab))) (Aa (Ay Dw rfl T.isinstance Bj (Aa (pv 0) (Aa (DP (v:=.ref _) rfl XE.j6 rfl) Ab))) (Aa (Ay Dw rfl T.isinstance Bj (Aa (pv 0) (Aa (DP (v:=.ref _) rfl XE.pX rfl) Ab))) Ab)))))) (by rfl) (by first | exact .inl rfl | exact .inr rfl))
 (@Ae _ _ _ _ _ (@Ax _ _ 1 _ _ _ _ JC.nd rfl (Or.inl rfl) (@Aw _ _ _ _ _ _ _ _ RB (pv 1) (BZ (Aa (Ay Dw rfl T.isinstance Bj (Aa (pv 0) (Aa (DP (v:=.ref _) rfl XE.j7 rfl) Ab))) (Aa (Ay Dw rfl T.isinstance Bj (Aa (pv 0) (Aa (DP (v:=.ref _) rfl XE.pW rfl) Ab))) (Aa (Ay Dw rfl T.isinstance Bj (Aa (pv 0) (Aa (DP (v:=.ref _) rfl XE.tG rfl) Ab))) (Aa (Ay Dw rfl T.isinstance Bj (Aa (pv 0) (Aa (DP (v:=.ref _) rfl XE.pY rfl) Ab))) Ab)))))) (by rfl) (by first | exact .inl rfl | exact .inr rfl))
 (@Ae _ _ _ _ _ (Cr (BJ Qan Qai Qaj Cu (pv 1) (Aa (Ay Dw rfl T.isinstance Bj (Aa (pv 0) (Aa (DP (v:=.ref _) rfl XE.tE rfl) Ab))) Ab)))
 (@Ae _ _ _ _ _ (@Ax _ _ 2 _ _ _ _ JC.nd rfl (Or.inl rfl) (@BZ _ _ _ _ (@Aa _ _ _ _ _ (@Ai _ _ _ _) (@Aa _ _ _ _ _ (@Ai _ _ _ _) (@Aa _ _ _ _ _ (@Ai _ _ _ _) (@Aa _ _ _ _ _ (@Ai _ _ _ _) (@Aa _ _ _ _ _ (@Ai _ _ _ _) (@Aa _ _ _ _ _ (@Ai _ _ _ _) (@Aa _ _ _ _ _ (@Ai _ _ _ _) (@Aa _ _ _ _ _ (@Ai _ _ _ _) (@Aa _ _ _ _ _ (@Ai _ _ _ _) (@Aa _ _ _ _ _ (@Ai _ _ _ _) (@Aa _ _ _ _ _ (@Ai _ _ _ _) (@Aa _ _ _ _ _ (@Ai _ _ _ _) (@Ab _) Ak) Ak) Ak) Ak) Ak) Ak) Ak) Ak) Ak) Ak) Ak) Ak)) (by rfl) (by first | exact .inl rfl | exact .inr rfl))
 (@Ae _ _ _ _ _ (Cr (BJ Qan Qai Qaj Cu (pv 2) (Aa Ai Ab)))
 (@Ae _ _ _ _ _ (BP (PW.pt (Kq (Ea (DK (Ay gK rfl T.isinstance Bj (Aa (pv 0) (Aa (Ij (v:=.ty "ValueError") rfl XE.ve PyProof.Rows.Boot.«ValueError» rfl) Ab))))) (JF (Bp Vo (BJ Qan PySem.F.slot_list_count PySem.F.type_list_count eU (pv 1) (Aa Gm Ab)) Ad (Bx _))))) (@Ah _ _ _ (@Bc _ _ _ _ Ai)) Bq)
 (@Ah _ _ _ (@Bc _ _ _ _ (@Cz _ _ _ _ _ _ _ CP (pv 2) (BJ Qan PySem.F.slot_list_index PySem.F.type_list_index eO (pv 1) (Aa Gm Ab)) (λ_ _=>rfl))))))))))),?_⟩
 show let R0:TS:=_;let R1:TS:=Ar _ R0;let R2:TS:=Ar _ R1;let R3:TS:=Ar _ R2;let R4:TS:=Ar _ R3;let R5:TS:=Ar _ R4;let R6:TS:=Ar _ R5;Ar _ R6 _ _ _;intro R0 R1 R2 R3 R4 R5 R6;refine⟨_,rq,Fy he k.xc (k.kit 0 _ rfl) ⟨_,rq,Fy he k.xc (k.kit 1 _ rfl) ⟨_,rq,Fy he k.xc (k.kit 2 _ rfl) ⟨_,rq,Fy he k.xc (k.kit 3 _ rfl) ⟨Am (by show 4<=1000;decide),λl1 hl1=>?_⟩⟩⟩⟩⟩;have s1:=Af hl1 (.lst [V.bl (decide (0=j)),.bl (decide (1=j)),.bl (decide (2=j)),.bl (decide (3=j))]);have e1:upd H l1 (.lst [V.bl (decide (0=j)),.bl (decide (1=j)),.bl (decide (2=j)),.bl (decide (3=j))]) l1=some (.lst [V.bl (decide (0=j)),.bl (decide (1=j)),.bl (decide (2=j)),.bl (decide (3=j))]):=Ac;generalize upd H l1 (.lst [V.bl (decide (0=j)),.bl (decide (1=j)),.bl (decide (2=j)),.bl (decide (3=j))])=H1 at s1 e1 ⊢;have he1:=s1 _ _ he;refine⟨_,rq,⟨_,rq,Fy he1 k.xc (k.kit 4 _ rfl) ⟨_,rq,Fy he1 k.xc (k.kit 5 _ rfl) ⟨_,rq,Fy he1 k.xc (k.kit 6 _ rfl) ⟨_,rq,Fy he1 k.xc (k.kit 7 _ rfl) ⟨Am (by show 4<=1000;decide),λla hla=>⟨l1,la,_,_,rq,rq,Af hla _ _ _ e1,Ac,Am (by show 8<=1000;decide),λlb hlb=>?_⟩⟩⟩⟩⟩⟩⟩;have sa:=Af hla (.lst [V.bl (decide (4=j)),.bl (decide (5=j)),.bl (decide (6=j)),.bl (decide (7=j))]);have sb:=Af hlb (.lst ([V.bl (decide (0=j)),.bl (decide (1=j)),.bl (decide (2=j)),.bl (decide (3=j))]++[V.bl (decide (4=j)),.bl (decide (5=j)),.bl (decide (6=j)),.bl (decide (7=j))]));have e2:upd (upd H1 la (.lst [V.bl (decide (4=j)),.bl (decide (5=j)),.bl (decide (6=j)),.bl (decide (7=j))])) lb (.lst ([V.bl (decide (0=j)),.bl (decide (1=j)),.bl (decide (2=j)),.bl (decide (3=j))]++[V.bl (decide (4=j)),.bl (decide (5=j)),.bl (decide (6=j)),.bl (decide (7=j))])) lb=some (.lst ([V.bl (decide (0=j)),.bl (decide (1=j)),.bl (decide (2=j)),.bl (decide (3=j))]++[V.bl (decide (4=j)),.bl (decide (5=j)),.bl (decide (6=j)),.bl (decide (7=j))])):=Ac;have s2:=s1.trans (sa.trans sb);generalize upd (upd H1 la (.lst [V.bl (decide (4=j)),.bl (decide (5=j)),.bl (decide (6=j)),.bl (decide (7=j))])) lb (.lst ([V.bl (decide (0=j)),.bl (decide (1=j)),.bl (decide (2=j)),.bl (decide (3=j))]++[V.bl (decide (4=j)),.bl (decide (5=j)),.bl (decide (6=j)),.bl (decide (7=j))]))=H2 at sb e2 s2 ⊢;have he2:=s2 _ _ he;refine⟨_,rq,⟨_,rq,Fy he2 k.xc (k.kit 8 _ rfl) ⟨_,rq,Fy he2 k.xc (k.kit 9 _ rfl) ⟨_,rq,Fy he2 k.xc (k.kit 10 _ rfl) ⟨_,rq,Fy he2 k.xc (k.kit 11 _ rfl) ⟨Am (by show 4<=1000;decide),λlc hlc=>⟨lb,lc,_,_,rq,rq,Af hlc _ _ _ e2,Ac,Am (by show 12<=1000;decide),λld hld=>?_⟩⟩⟩⟩⟩⟩⟩;have sc:=Af hlc (.lst [V.bl (decide (8=j)),.bl (decide (9=j)),.bl (decide (10=j)),.bl (decide (11=j))]);have sd:=Af hld (.lst ([V.bl (decide (0=j)),.bl (decide (1=j)),.bl (decide (2=j)),.bl (decide (3=j))]++[V.bl (decide (4=j)),.bl (decide (5=j)),.bl (decide (6=j)),.bl (decide (7=j))]++[V.bl (decide (8=j)),.bl (decide (9=j)),.bl (decide (10=j)),.bl (decide (11=j))]));have e3:upd (upd H2 lc (.lst [V.bl (decide (8=j)),.bl (decide (9=j)),.bl (decide (10=j)),.bl (decide (11=j))])) ld (.lst ([V.bl (decide (0=j)),.bl (decide (1=j)),.bl (decide (2=j)),.bl (decide (3=j))]++[V.bl (decide (4=j)),.bl (decide (5=j)),.bl (decide (6=j)),.bl (decide (7=j))]++[V.bl (decide (8=j)),.bl (decide (9=j)),.bl (decide (10=j)),.bl (decide (11=j))])) ld=some (.lst ([V.bl (decide (0=j)),.bl (decide (1=j)),.bl (decide (2=j)),.bl (decide (3=j))]++[V.bl (decide (4=j)),.bl (decide (5=j)),.bl (decide (6=j)),.bl (decide (7=j))]++[V.bl (decide (8=j)),.bl (decide (9=j)),.bl (decide (10=j)),.bl (decide (11=j))])):=Ac;have s3:=s2.trans (sc.trans sd);have fd:H ld=none:=s2.free (sc.free hld);generalize upd (upd H2 lc (.lst [V.bl (decide (8=j)),.bl (decide (9=j)),.bl (decide (10=j)),.bl (decide (11=j))])) ld (.lst ([V.bl (decide (0=j)),.bl (decide (1=j)),.bl (decide (2=j)),.bl (decide (3=j))]++[V.bl (decide (4=j)),.bl (decide (5=j)),.bl (decide (6=j)),.bl (decide (7=j))]++[V.bl (decide (8=j)),.bl (decide (9=j)),.bl (decide (10=j)),.bl (decide (11=j))]))=H3 at sd e3 s3 ⊢;have he3:=s3 _ _ he;refine⟨_,rq,.inl ⟨rq,_,SqL.of e3⟩,_,rq,Fy he3 k.xc (k.kit 12 _ rfl) ⟨ld,_,_,rq,rq,e3,Bb (by show 12<=1000;decide),?_⟩⟩;have e4:upd H3 ld (.lst ([V.bl (decide (0=j)),.bl (decide (1=j)),.bl (decide (2=j)),.bl (decide (3=j))]++[V.bl (decide (4=j)),.bl (decide (5=j)),.bl (decide (6=j)),.bl (decide (7=j))]++[V.bl (decide (8=j)),.bl (decide (9=j)),.bl (decide (10=j)),.bl (decide (11=j))]++[.bl (decide (12=j))])) ld=some (.lst ((bsl j).map V.bl)):=Ac;have s4:Same H (upd H3 ld (.lst ([V.bl (decide (0=j)),.bl (decide (1=j)),.bl (decide (2=j)),.bl (decide (3=j))]++[V.bl (decide (4=j)),.bl (decide (5=j)),.bl (decide (6=j)),.bl (decide (7=j))]++[V.bl (decide (8=j)),.bl (decide (9=j)),.bl (decide (10=j)),.bl (decide (11=j))]++[.bl (decide (12=j))]))):=s3.CQ Ag.upd fd;generalize upd H3 ld (.lst ([V.bl (decide (0=j)),.bl (decide (1=j)),.bl (decide (2=j)),.bl (decide (3=j))]++[V.bl (decide (4=j)),.bl (decide (5=j)),.bl (decide (6=j)),.bl (decide (7=j))]++[V.bl (decide (8=j)),.bl (decide (9=j)),.bl (decide (10=j)),.bl (decide (11=j))]++[.bl (decide (12=j))]))=H4 at e4 s4 ⊢;have he4:=s4 _ _ he;refine⟨Am (by show 12<=1000;decide),λln hln=>?_⟩;have nd:ld≠ln:=Aq e4 hln;have fn:H ln=none:=s4.free hln;have s5:=s4.trans (Af hln (.lst [V.str "plan",.str "text",.str "stretch",.str "spot",.str "opener",.str "address",.str "rules",.str "hand",.str "panel",.str "link",.str "log",.str "deed"]));have e5:=Af hln (.lst [V.str "plan",.str "text",.str "stretch",.str "spot",.str "opener",.str "address",.str "rules",.str "hand",.str "panel",.str "link",.str "log",.str "deed"]) _ _ e4;refine⟨_,rq,.inl ⟨rq,_,SqL.of Ac⟩,ln,_,_,rq,rq,Ac,Bb (by show 12<=1000;decide),?_⟩;generalize upd H4 ln (.lst [V.str "plan",.str "text",.str "stretch",.str "spot",.str "opener",.str "address",.str "rules",.str "hand",.str "panel",.str "link",.str "log",.str "deed"])=H5 at s5 e5 ⊢;have e6:∀o,upd H5 ln o ld=some (.lst ((bsl j).map V.bl)):=λo=>by rw[Az nd];exact e5
 have s6:∀o,Same H (upd H5 ln o):=λo=>s5.CQ Ag.upd fn;refine⟨_,rq,qg (s6 _ _ _ he) k.xc k.kv ⟨_,rq,Bw ?_⟩⟩;refine⟨_,rq,.inl ⟨rq,_,SqL.of (e6 _)⟩,gD (e6 _) ⟨rq,_,rq,?_⟩⟩;rw[gY j hj];refine vZ rfl ?_;refine⟨_,rq,_,rq,.inl ⟨rq,_,SqL.of (e6 _)⟩,fK (e6 _) (by omega) (uP j hj) (uO j hj) ⟨ln,_,_,_,rq,rq,SqL.of Ac,Gj (wordAt j hj),q _ (s6 _)⟩⟩
end
abbrev Ng:Stmt:=top 51
abbrev K4:YF:=["_law_bag_here"]
abbrev xn:YF:=["_law_bag_here","_law_letters"]
theorem Ub:Bf xn K4 (Al Ng):=by ac_rfl
abbrev Li:Stmt:=top 52
abbrev JK:YF:=["_law_bag_here","_law_many"]
abbrev xp:YF:=["_law_bag_here","_law_many","_law_found","_law_place","_law_name_here"]
theorem Ir:Bf xp JK (Al Li):=by ac_rfl
theorem ZG {K:YD} {H:Hp} {z:Str} {Q:VK} (q:Q (.bl true) H):Jm K [.str z,.ty "str"] H Q:=by
 unfold Jm;exact⟨_,_,_,_,rq,.str z,by rfl,q⟩
def abc:Str:="abcdefghijklmnopqrstuvwxyz"
def okS (z:Str):Prop:=∀c∈z.cps.toList,c∈abc.cps.toList
theorem okS.ok {z:Str} (h:okS z):PyData.strOk z=true:=by
 have ha:abc.cps.toList.all (λc=>decide (c < 0x110000))=true:=by trivial
 unfold PyData.strOk;rw[Array.all_eq_true'];exact λc hc=>Qbu.mp ha c (h c (Array.mem_toList_iff.mpr hc))
theorem okS.append {x y:Str} (h:okS x) (h':okS y):okS (x++y):=by
 intro c hc;have:c∈x.cps.toList++y.cps.toList:=by
  have e:(x++y).cps=x.cps++y.cps:=rfl;rw[e,Array.toList_append] at hc;exact hc
 rcases Qby.mp this with z | z
 ·exact h c z
 ·exact h' c z
theorem okS.slice {x:Str} (h:okS x) (l u:Option Int):okS (Txt.slice x l u):=by
 unfold Txt.slice;split
 ·exact h
 ·intro c hc;have hc':c∈(Builtin.Str.strSliceIndices l u 1 x.length).filterMap (x.cps[·]?):=by simpa using hc
  obtain⟨i,_,e⟩:=List.mem_filterMap.mp hc';exact h c (Array.mem_toList_iff.mpr (Array.mem_of_getElem? e))
theorem okS.join {sep:Str} (hs:okS sep):∀{ts:YF},(∀t∈ts,okS t)->okS (Str.join sep ts)
 | [],_=>λc hc=>by cases hc
 | [x],h=>h x (QaN ..)
 | x::y::r,h=>((h x (QaN ..)).append hs).append (okS.join hs (ts:=y::r) λt ht=>h t (QaD _ ht))
theorem Qd:abc.cps.toList.length=26:=by trivial
theorem uR:abc.cps.toList.Nodup:=by trivial
theorem ig:okS abc:=λc hc=>hc
theorem W8:∀ts:YF,(Str.join "" ts).length=(ts.map (·.length)).sum
 | []=>rfl
 | [x]=>by show x.length=_;simp
 | x::y::r=>by
  show ((x++"")++Str.join "" (y::r)).length=_;rw[QaZ,QaZ,W8 (y::r),QbT (a:=x),List.sum_cons];have:(Str.ofString "").length=0:=by trivial
  rw[this];omega
theorem zZ (n:Nat):(Builtin.Str.strSliceIndices (some 1) none 1 n).length<=n - 1:=by
 unfold Builtin.Str.strSliceIndices sliceRange;simp only[show (1:Int) > 0 by decide,if_true,Qbw,List.length_range,show ¬((1:Int) < 0) by decide,if_false];split
 ·rw[Int.ediv_one];omega
 ·exact Qcf _
theorem dH (z:Str):(Txt.slice z (some 1) none).length<=z.length - 1:=by
 have h:=zZ z.length;unfold Txt.slice;split
 ·rename_i hc;rw[Qbs] at hc;have:=eq_of_beq hc.2;omega
 ·show (List.filterMap _ _).toArray.size<=_;rw[Qbb];exact Qca (List.length_filterMap_le _ _) h
theorem uT {r:Int} (h0:0<=r) (h1:r < 26):∃c,atI abc.cps.toList r=some c/\okS ⟨#[c]⟩:=by
 have hl:r.toNat < abc.cps.toList.length:=by rw[Qd];omega
 refine⟨abc.cps.toList[r.toNat],?_,λc hc=>?_⟩
 ·have:=Gj (xs:=abc.cps.toList) (j:=r.toNat) (Qak hl);rw[Int.toNat_of_nonneg h0] at this;exact this
 ·have:c=abc.cps.toList[r.toNat]:=by simpa using hc
  rw[this];exact ig _ (List.getElem_mem hl)
theorem VP:∀{ys:YF},(∀y∈ys,y.length=1)->(ys.map (·.length)).sum=ys.length
 | [],_=>rfl
 | y::r,h=>by
  rw[QbT,List.sum_cons,h y (QaN ..),VP (ys:=r) λt ht=>h t (QaD _ ht),Qbo];omega
theorem Ur (ys:YF):(ys.map V.str).all Jx=true:=by
 rw[List.all_map,Qbu];intro _ _;rfl
theorem Le (z:Str):∀ys:YF,inV (.str z) (ys.map V.str)=true ↔ z∈ys
 | []=>by constructor <;> intro h <;> cases h
 | y::r=>by
  have ih:=Le z r;unfold inV at ih ⊢;rw[QbT,QbX,Bool.or_eq_true,ih,QbQ];have:eqV (.str y) (.str z)=true ↔ z=y:=by
   show (y == z)=true ↔ z=y;rw[beq_iff_eq];exact⟨λh=>h.symm,λh=>h.symm⟩
  rw[this]
theorem Ug:∀{l m:YF},l.Nodup->(∀x∈l,x∈m)->l.length<=m.length
 | [],_,_,_=>Qcf _
 | a::r,m,nd,h=>by
  have ha:=h a (QaN ..);obtain⟨n1,n2⟩:=QbI.mp nd;have:=Ug (l:=r) (m:=m.erase a) n2 λx hx=>(List.mem_erase_of_ne (λe=>n1 (by rw[<-e];exact hx))).mpr (h x (QaD _ hx));rw[List.length_erase_of_mem ha] at this;have hp:=List.length_pos_of_mem ha;rw[Qbo];omega
theorem Yy (rest:Str) {ys:YF} (h:ys.length < 26):∃(i c:Nat),abc.cps[i]?=some c/\((⟨#[c]⟩ : Str)++rest)∉ys:=by
 refine Classical.byContradiction λhn=>?_;have hall:∀x∈abc.cps.toList.map (λc=>(⟨#[c]⟩ : Str)++rest),x∈ys:=λx hx=>by
  obtain⟨c,hc,rfl⟩:=QbY.mp hx;obtain⟨i,hi⟩:=List.getElem?_of_mem hc;refine Classical.byContradiction λhm=>hn ⟨i,c,by simpa using hi,hm⟩
 have nd:(abc.cps.toList.map (λc=>(⟨#[c]⟩ : Str)++rest)).Nodup:=by
  refine List.pairwise_map.mpr (uR.imp λ{c d} hne e=>hne ?_);have e1:(#[c]++rest.cps:Array Nat)=#[d]++rest.cps:=congrArg Str.cps e;have e2:=congrArg Array.toList e1;rw[Array.toList_append,Array.toList_append] at e2;injection e2
 have:=Ug nd hall;rw[Qbw,Qd] at this;omega
theorem Qcn {α : Type} {l:List α} {i:Nat} {x:α} (h:l[i]?=some x):l.take (i+1)=l.take i++[x]:=by rw[List.take_add_one,h];rfl
theorem cD {X:Cx} {K:YD} (h:X.K=K) (hc:X.calm=true):Dn X (.builtin "max") (λxs H Q=>∃(p:Addr) (ns:List Int),xs=[.ref p]/\SqL K H p (ns.map V.int)/\0 < ns.length/\∀M,M∈ns->(∀a,a∈ns->a<=M)->Q (.int M) H):=h ▸ Uv hc
theorem Ag.M9 {a b:Addr} {H HH H':Hp} (s:Ag b H HH) (t:Ag a HH H') (f:H a=none):Ag b H H':=λc o e n=>t _ _ (s _ _ e n) λz=>by rw[z,f] at e;cases e
theorem Cl {i:Int} (h0:0<=i) (h6:i < 6) {a b c d e f:Int} (P:Int->Prop) (ha:P a) (hb:P b) (hc:P c) (hd:P d) (he:P e) (hf:P f):∃p,atI [V.int a,.int b,.int c,.int d,.int e,.int f] i=some (.int p)/\P p:=by
 have:i=0\/i=1\/i=2\/i=3\/i=4\/i=5:=by omega
 rcases this with rfl | rfl | rfl | rfl | rfl | rfl
 ·exact⟨_,rq,ha⟩
 ·exact⟨_,rq,hb⟩
 ·exact⟨_,rq,hc⟩
 ·exact⟨_,rq,hd⟩
 ·exact⟨_,rq,he⟩
 ·exact⟨_,rq,hf⟩
inductive V4 (vs:YG) (H:Hp) (Q:VK) (E:XK):Prop
 | mk (b:Addr) (n:Nat) (_:vs=[.ref b]) (_:Bo H b n) (_:n<=9000) (_:∀z H',1<=z.length->z.length<=8->okS z->Bo H' b (n+9)->Ag b H H'->Q (.str z) H'):V4 vs H Q E
inductive Sw (vs:YG) (H:Hp) (Q:VK) (E:XK):Prop
 | mk (b:Addr) (n many:Nat) (_:vs=[.ref b,.int many]) (_:Bo H b n) (_:n<=8000) (_:many<=20) (_:∀l (ys:YF) H',H l=none->ys.length=many->(∀y∈ys,(1<=y.length/\y.length<=8)/\okS y)->ys.Nodup->H' l=some (.lst (ys.map V.str))->Bo H' b (n+9*many)->Ag b H H'->Q (.ref l) H'):Sw vs H Q E
section
variable {P:Program} {w:World} {K:YD} {mg:YB} {base:Heap}
abbrev js(a:PySem.Addr):Option L2.V:=some (.ref a)
abbrev xt:YF:=["_law_place","_law_letters","_law_bag_here"]
theorem pC (C:Code K mg "_law_name" Ng K4) (T:Nm mg) (Bh:Good P w K mg base "_law_take" 1 Em Il):Good P w K mg base "_law_name" 2 K4 V4:=by
 refine C.good Ub (λvs H Q E h=>?_) (λf cdv A outer s H vs Q E hr h=>?_)
 ·obtain⟨b,n,rfl,_⟩:=h;rfl
 obtain⟨b,n,rfl,hb,hn,q⟩:=h;refine⟨_,(Ae (Ax (i:=1) Ub.nd rfl (Or.inr rfl) Ai)
 (Ah (Bc (BJ Qas Qaz QaA Kz Ai (Aa (Cm (N':=xt) rfl (Bs.of (src:=[none,some 1,some 0]) (Al Ng) xn rfl rfl rfl (by trivial) (by trivial) (by trivial) rfl (by trivial)) (Fb rfl T.range (Aa (Aw Dj Ad (Cp Bh hr (Aa (pv 0) (Aa Ad Ab)))) Ab)) (λ_ _ _ _=>(Aj (i:=0) (show List.Nodup (xt:YF) by trivial) rfl (Or.inl rfl))) (λ_ _ _ _=>CW) (λ_ _ _ _=>(Cz W9 (pv 1) (Cp Bh hr (Aa (pv 2) (Aa Ad Ab))) (λ_ _=>rfl)))) Ab))))),?_⟩
 show let R0:TS:=_;Ar _ R0 _ _ _;intro R0;refine⟨rq,_,rq,b,n,8,rq,hb,by omega,by decide,by decide,λr H1 r0 r1 hb1 sb1=>⟨_,_,rq,rq,_,rq,by omega,by omega,λl hl=>?_⟩⟩;have nbl:b≠l:=hb1.nb hl;have fl:H l=none:=sb1.free hb1.ex hl;let J0:YN:=λi σ HH=>∃(u:Option V) (ys:YF),σ=[u,some (.str abc),js b]/\HH l=some (.lst (ys.map V.str))/\ys.length=i/\(∀y∈ys,y.length=1/\okS y)/\Bo HH b (n+1+i)/\Ag b H HH;refine NK J0
  ⟨none,[],rq,Ac,rq,(λy hy=>by cases hy),hb1.same (Af hl _),sb1.trans (Ag.of (Af hl _))⟩ (λi σ HH hi h=>?_) (fun σ HH h=>?_)
 ·obtain⟨u,ys,rfl,e1,e2,e3,e4,e5⟩:=h;refine⟨_,rq,_,rq,b,_,26,rq,e4,by omega,by decide,by decide,λr' HA r0' r1' hbA sA=>?_⟩;obtain⟨c,ec,oc⟩:=uT r0' r1';have eA:=sA _ _ e1 nbl.symm;refine⟨_,_,c,rq,rq,Am (by show abc.cps.size<=1000;rw[<-QaI,Qd];decide),ec,_,eA,Bb (by rw[Qbw];omega),_,ys++[⟨#[c]⟩],rq,?_,?_,λy hy=>?_,hbA.FP Ag.upd nbl,?_⟩
  ·rw[Ac,Qbx];rfl
  ·rw[QaM,e2];rfl
  ·rcases Qby.mp hy with h | h
   ·exact e3 y h
   ·have:y=⟨#[c]⟩:=by simpa using h
    rw[this];exact⟨rq,oc⟩
  ·exact λc o e ne=>Ag.upd _ _ (sA _ _ (e5 _ _ e ne) ne) λz=>by rw[z,fl] at e;cases e
 obtain⟨u,ys,rfl,e1,e2,e3,e4,e5⟩:=h;have hs:=VP λy hy=>(e3 y hy).1;refine⟨_,l,ys,rq,rq,SqL.of e1,?_,?_⟩
 ·rw[hs];have:(Str.ofString "").length=0:=by trivial
  rw[this];omega
 ·have hj:=W8 ys;rw[hs] at hj;refine q _ HH ?_ ?_ ?_ (e4.mono (by omega)) e5
  ·show 1<=(Builtin.Str.glued _ ys).length;rw[QaB];show 1<=(Str.join "" ys).length;omega
  ·show (Builtin.Str.glued _ ys).length<=8;rw[QaB];show (Str.join "" ys).length<=8;omega
  ·show okS (Builtin.Str.glued _ ys);rw[QaB];exact okS.join (λc hc=>by cases hc) λy hy=>(e3 y hy).2
abbrev xv:YF:=["_law_one","_law_name_here","_law_found"]
theorem jP (C:Code K mg "_law_names" Li JK) (T:Nm mg) (mD:Good P w K mg base "_law_name" 2 K4 V4):Good P w K mg base "_law_names" 3 JK Sw:=by
 refine C.good Ir (λvs H Q E h=>?_) (λf cdv A outer s H vs Q E hr h=>?_)
 ·obtain⟨b,n,many,rfl,_⟩:=h;rfl
 obtain⟨b,n,many,rfl,hb,hn,hm,q⟩:=h;refine⟨_,(Ae (Ax (i:=2) Ir.nd rfl (Or.inr rfl) (BZ Ab))
 (Ae (Dh QbC rfl (Fb rfl T.range (Aa (pv 1) Ab)) (Aj (i:=3) Ir.nd rfl (Or.inl rfl))
 (Ae (Ax (i:=4) Ir.nd rfl (Or.inr rfl) (Ca mD hr (Aa (pv 0) Ab)))
 (Ae (BP (Bp O5 (pv 4) (pv 2) (by with_unfolding_all rfl)) (Ah (Ax (i:=4) Ir.nd rfl (Or.inr rfl) (Cz CP (Cm (N':=xv) rfl (Bs.of (src:=[none,some 4,some 2]) (Al Li) xp rfl rfl rfl (by trivial) (by trivial) (by trivial) rfl (by trivial)) (Rx Ai) (λ_ _ _ _=>(Aj (i:=0) (show List.Nodup (xv:YF) by trivial) rfl (Or.inl rfl))) (λ_ _ _ _=>(O2 (Bp (N5 (K:=K) rfl) (Aw Bg (pv 0) (BK Gq (pv 1) (Cg Ad) Ci)) (pv 2) (by with_unfolding_all rfl)))) (λ_ _ _ _=>(Aw Bg (pv 0) (BK Gq (pv 1) (Cg Ad) Ci)))) Ad (λ_ _=>rfl)))) Bq)
 (Ah (Cr (BJ Qan Qai Qaj Cu (pv 2) (Aa (pv 4) Ab)))))))
 (Ah (Bc (pv 2))))),?_⟩
 show let R0:TS:=_;let R1:TS:=_;let R2:TS:=Ar (Ec _ R1 _) R0;let R3:TS:=Ar _ R2;let R4:TS:=Ar (Et _ _ R3) _;Ar _ R4 _ _ _;intro R0 R1 R2 R3 R4;refine⟨Am (by show 0<=1000;decide),λlf hlf=>?_⟩;have s1:=Af hlf (.lst []);have nbf:b≠lf:=hb.nb hlf;refine⟨_,rq,_,rq,by omega,by omega,?_⟩;rw[Qbj];let J1:YN:=λi σ HH=>∃(u3 u4:Option V) (ys:YF),σ=[js b,some (.int many),js lf,u3,u4]/\HH lf=some (.lst (ys.map V.str))/\ys.length=i/\(∀y∈ys,(1<=y.length/\y.length<=8)/\okS y)/\Bo HH b (n+9*i)/\Ag b H HH/\ys.Nodup;refine Gz J1
  ⟨_,_,[],rq,Ac,rq,(λy hy=>by cases hy),hb.same s1,Ag.of s1,QbO⟩ (λi σ HH hi h=>?_) (fun σ HH h=>?_)
 ·obtain⟨u3,u4,ys,rfl,e1,e2,e3,e4,e5,e6⟩:=h;refine⟨_,rq,b,_,rq,e4,by omega,λz HA hz1 hz oz hbA sA=>?_⟩;have eA:=sA _ _ e1 nbf.symm;have s5:Ag b H HA:=e5.trans sA;have fin:∀(y:Str) (HB:Hp),(1<=y.length/\y.length<=8)->okS y->y∉ys->HB lf=some (.lst (ys.map V.str))->Bo HB b (n+9*i+9)->Ag b H HB->∃(u3 u4:Option V) (ys':YF),[some (V.ref b),some (.int many),js lf,some (.int (0+(i:Int))),some (.str y)]=[js b,some (.int many),js lf,u3,u4] /\
    upd HB lf (.lst (ys.map V.str++[.str y])) lf=some (.lst (ys'.map V.str))/\ys'.length=i+1/\(∀y∈ys',(1<=y.length/\y.length<=8)/\okS y)/\Bo (upd HB lf (.lst (ys.map V.str++[.str y]))) b (n+9*(i+1))/\Ag b H (upd HB lf (.lst (ys.map V.str++[.str y])))/\ys'.Nodup:=λy HB hy oy hny hB bB sB=>by
   refine⟨_,_,ys++[y],rq,?_,?_,λx hx=>?_,(bB.FP Ag.upd nbf).mono (by omega),Ag.M9 sB Ag.upd hlf,Zy e6 hny⟩
   ·rw[Ac,Qbx];rfl
   ·rw[QaM,e2];rfl
   ·rcases Qby.mp hx with h | h
    ·exact e3 x h
    ·have:x=y:=by simpa using h
     rw[this];exact⟨hy,oy⟩
  refine⟨_,rq,_,rq,lf,_,rq,.inl (SqL.of eA),rq,Ur ys,_,rq,Jr (λ_=>?_) (λhnz=>?_)⟩
  ·refine⟨_,rq,λl2 hl2=>?_⟩;have nfl:lf≠l2:=Aq eA hl2;have hsl:(Txt.slice z (some 1) none).length<=7:=Qca (dH z) (by omega);have osl:=oz.slice (some 1) none;let J2:YN:=λi σ HH=>∃(u:Option V) (ws:YF),σ=[u,some (.str z),js lf]/\HH=upd HA l2 (.lst (ws.map V.str))/\ws.length<=i/\(∀y∈ws,((1<=y.length/\y.length<=8)/\okS y)/\y∉ys)/\((∃j c,j < i/\abc.cps[j]?=some c/\((⟨#[c]⟩ : Str)++Txt.slice z (some 1) none)∉ys)->ws≠[]);refine Nz J2
    ⟨none,[],rfl,rfl,Qce _,(λy hy=>by cases hy),λ⟨j,c,hj,_⟩=>absurd hj (Nat.not_lt_zero _)⟩ (λj c σ HH hc h=>?_) (fun σ HH h=>?_)
   ·obtain⟨u,ws,rfl,rfl,l1,l2',l3⟩:=h;have hj:j < 26:=by
     have:=(Qad.mp hc).1;rw[<-QaI] at this;have e:=Qd;unfold abc at e;omega
    have oc:okS ⟨#[c]⟩:=λd hd=>by
     have:d=c:=by simpa using hd
     rw[this];exact ig c (Array.mem_toList_iff.mpr (Array.mem_of_getElem? hc))
    have hlen:(⟨#[c]⟩ : Str).length+(Txt.slice z (some 1) none).length<=sizeLine:=by
     show 1+_<=sizeLine;rw[Qci];omega
    have hzl:z.length<=sizeLine:=by rw[Qci];omega
    have eB:upd HA l2 (.lst (ws.map V.str)) lf=some (.lst (ys.map V.str)):=by rw[Az nfl];exact eA
    refine⟨_,rq,_,rq,_,rq,_,rq,hzl,_,_,rq,rq,hlen,_,rq,lf,_,rq,.inl (SqL.of eB),rq,Ur ys,_,rq,Jr (λt=>?_) (λt=>?_)⟩
    ·refine⟨_,rq,_,rq,_,rq,_,rq,hzl,_,_,rq,rq,hlen,_,Ac,Bb (by rw[Qbw];omega),_,ws++[(⟨#[c]⟩ : Str)++Txt.slice z (some 1) none],rq,?_,?_,λy hy=>?_,λ_ e=>?_⟩
     ·rw[Zc,Qbx];rfl
     ·rw[QaM];show _+1<=_;omega
     ·rcases Qby.mp hy with h | h
      ·exact l2' y h
      ·have e:y=(⟨#[c]⟩ : Str)++Txt.slice z (some 1) none:=by simpa using h
       rw[e];refine⟨⟨⟨by rw[QaZ];show 1<=1+_;omega,by rw[QaZ];show 1+_<=8;omega⟩,oc.append osl⟩,λhin=>?_⟩;have t:(!inV (.str ((⟨#[c]⟩ : Str)++Txt.slice z (some 1) none)) (ys.map V.str))=true:=t;rw[(Le _ ys).mpr hin] at t;cases t
     ·have:=congrArg List.length e;rw[QaM] at this;simp at this
    ·refine⟨_,ws,rfl,rfl,by omega,l2',λ⟨j',c',hj',hc',hn'⟩=>?_⟩;by_cases ej:j'=j
     ·subst ej;have ec:c'=c:=by
       have e1:abc.cps[j']?=some c:=hc;rw[hc'] at e1;exact QbB e1
      subst ec;exfalso;apply t;show (!inV (.str ((⟨#[c']⟩ : Str)++Txt.slice z (some 1) none)) (ys.map V.str))=true;cases e:inV (.str ((⟨#[c']⟩ : Str)++Txt.slice z (some 1) none)) (ys.map V.str) with
      | false=>rfl
      | true=>exact absurd ((Le _ ys).mp e) hn'
     ·exact l3 ⟨j',c',by omega,hc',hn'⟩
   ·obtain⟨u,ws,rfl,rfl,l1,l2',l3⟩:=h;obtain⟨j,c,hc,hnot⟩:=Yy (Txt.slice z (some 1) none) (ys:=ys) (by omega);have hws:=l3 ⟨j,c,(Qad.mp hc).1,hc,hnot⟩;cases ws with
    | nil=>exact absurd rfl hws
    | cons w0 wr=>
     obtain⟨⟨y1,y2⟩,y3⟩:=l2' w0 (QaN ..);have s2:=Af hl2 (.lst ((w0::wr).map V.str));have eB:=s2 _ _ eA;refine⟨l2,_,_,_,rq,rq,SqL.of Ac,Gj (xs:=(w0::wr).map V.str) (j:=0) rfl,?_⟩;refine⟨_,rq,.inl ⟨rq,_,SqL.of eB⟩,_,rq,lf,_,_,rq,rq,eB,Bb (by rw[Qbw];omega),?_⟩;exact fin w0 _ y1 y2 y3 eB (hbA.same s2) (s5.trans (Ag.of s2))
  ·refine⟨_,rq,.inl ⟨rq,_,SqL.of eA⟩,_,rq,lf,_,_,rq,rq,eA,Bb (by rw[Qbw];omega),?_⟩;exact fin z HA ⟨hz1,hz⟩ oz (λhin=>hnz ((Le _ ys).mpr hin)) eA hbA s5
 ·obtain⟨u3,u4,ys,rfl,e1,e2,e3,e4,e5,e6⟩:=h;exact⟨_,rq,q lf ys HH hlf e2 e3 e6 e1 e4 e5⟩
end
structure Dev where
 kind:Str
 addr:Int
structure Place where
 kind:Str
 addr:Int
 spur:List Dev
def Jg (H:Hp) (v:V) (d:Dev):Prop:=∃t,v=.ref t/\H t=some (.tup [.str d.kind,.int d.addr])
def Ei (H:Hp) (v:V) (p:Place):Prop:=∃t u vs,v=.ref t/\H t=some (.tup [.str p.kind,.int p.addr,.ref u])/\H u=some (.tup vs)/\Paired (Jg H) vs p.spur
def LoopAt (H:Hp) (v:V) (ps:List Place):Prop:=∃t vs,v=.ref t/\H t=some (.tup vs)/\Paired (Ei H) vs ps
theorem Jg.tups {H H':Hp} (s:Ba H H') {v:V} {d:Dev} (h:Jg H v d):Jg H' v d:=by
 obtain⟨t,e,q⟩:=h;exact⟨t,e,s _ _ q⟩
theorem Ei.tups {H H':Hp} (s:Ba H H') {v:V} {d:Place} (h:Ei H v d):Ei H' v d:=by
 obtain⟨t,u,vs,e,q1,q2,q3⟩:=h;exact⟨t,u,vs,e,s _ _ q1,s _ _ q2,Paired.Cd q3 λ_ _ z=>z.tups s⟩
theorem LoopAt.tups {H H':Hp} (s:Ba H H') {v:V} {d:List Place} (h:LoopAt H v d):LoopAt H' v d:=by
 obtain⟨t,vs,e,q1,q2⟩:=h;exact⟨t,vs,e,s _ _ q1,Paired.Cd q2 λ_ _ z=>z.tups s⟩
theorem Paired.Ed {α β : Type} {F:α->β->Prop}:∀{l₁ : List α} {l₂ : List β} {i:Nat} {x:α},Paired F l₁ l₂->l₁[i]?=some x->∃y,l₂[i]?=some y/\F x y
 | _,_,_,_,.nil,h=>by simp at h
 | _,_,0,_,.cons a _,h=>by simp at h;subst h;exact⟨_,rfl,a⟩
 | _,_,i+1,x,.cons _ t,h=>by
  obtain⟨y,h1,h2⟩:=Paired.Ed (i:=i) (x:=x) t (by simpa using h);exact⟨y,by simpa using h1,h2⟩
theorem Qch {α β : Type} {F:α->β->Prop} {a:α} {b:β} (h:F a b):∀{l₁ : List α} {l₂ : List β},Paired F l₁ l₂->Paired F (l₁++[a]) (l₂++[b])
 | _,_,.nil=>.cons h .nil
 | _,_,.cons x t=>.cons x (Qch h t)
def DN (k:Str):Prop:=k="seeker"\/k="knob"\/k="bell"\/k="door"
structure OkP (p:Place):Prop where
 spur:p.spur.length<=3
 kinds:∀d∈p.spur,DN d.kind
 form:(p.kind="opener"/\p.addr=0/\p.spur=[])\/DN p.kind
structure Zone where
 name:Str
 adr:List Int
def Fp (H:Hp) (v:V) (z:Zone):Prop:=∃t u,v=.ref t/\H t=some (.tup [.str z.name,.ref u])/\H u=some (.tup (z.adr.map V.int))
theorem Fp.tups {H H':Hp} (s:Ba H H') {v:V} {z:Zone} (h:Fp H v z):Fp H' v z:=by
 obtain⟨t,u,e,q1,q2⟩:=h;exact⟨t,u,e,s _ _ q1,s _ _ q2⟩
def Pb (k:Str):Bool:=inV (.str k) [.str "seeker",.str "knob"]
def Fw (p:Place):List Dev:=⟨p.kind,p.addr⟩::p.spur
def G8 (ds:List Dev):List Int:=(ds.filter λd=>Pb d.kind).map (·.addr)
def Hy (ps:List Place):List Int:=ps.flatMap λp=>G8 (Fw p)
abbrev YU:=List (List Place)
def EY (ls:YU):List Int:=ls.flatMap Hy
theorem cY (ds:List Dev) (d:Dev):G8 (ds++[d])=G8 ds++(if Pb d.kind=true then [d.addr] else []):=by
 unfold G8;rw[List.filter_append,Qbx];congr 1;by_cases h:Pb d.kind=true
 ·rw[if_pos h];simp[List.filter,h]
 ·rw[if_neg h];simp[List.filter,h]
theorem cX (ps:List Place) (p:Place):Hy (ps++[p])=Hy ps++G8 (Fw p):=by unfold Hy;rw[QaJ];simp
theorem Z6 (ls:YU) (ps:List Place):EY (ls++[ps])=EY ls++Hy ps:=by unfold EY;rw[QaJ];simp
def ptS (a:List Int×Int) (p:Place):List Int×Int:=if V.str p.kind=V.str "opener" then (a.1++[a.2],0) else (a.1,a.2+1+(p.spur.length:Int))
def pst (ps:List Place):List Int×Int:=ps.foldl ptS ([],0)
def Hw (ps:List Place):List Int:=(pst ps).1++[(pst ps).2]
theorem jC (ps:List Place) (p:Place):pst (ps++[p])=ptS (pst ps) p:=by unfold pst;rw[Qbl];rfl
abbrev QC:Stmt:=top 53
abbrev K5:YF:=["_law_bag_here","_law_numbers","_law_most_places"]
theorem Ii:Bf ["_law_bag_here","_law_numbers","_law_most_places","_law_places","_law_at","_law_many","_law_some","_law_way"] K5 (Al QC):=by ac_rfl
abbrev Om:Stmt:=top 54
abbrev JH:YF:=["_law_places"]
theorem Ip:Bf ["_law_places","_law_found","_law_kind_here","_law_address","_law_spur"] JH (Al Om):=by ac_rfl
def Cw (a b:Addr) (H H':Hp):Prop:=∀c o,H c=some o->c≠a->c≠b->H' c=some o
theorem Cw.trans {a b:Addr} {H H1 H2:Hp} (x:Cw a b H H1) (y:Cw a b H1 H2):Cw a b H H2:=λc o e n m=>y _ _ (x _ _ e n m) n m
theorem Cw.l {a b:Addr} {H H1:Hp} (x:Ag a H H1):Cw a b H H1:=λc o e n _=>x _ _ e n
theorem Cw.r {a b:Addr} {H H1:Hp} (x:Ag b H H1):Cw a b H H1:=λc o e _ m=>x _ _ e m
theorem Cw.of {a b:Addr} {H H1:Hp} (x:Same H H1):Cw a b H H1:=λc o e _ _=>x _ _ e
theorem Cw.M9 {a b p:Addr} {H HH H':Hp} (s:Cw a b H HH) (t:Ag p HH H') (f:H p=none):Cw a b H H':=λc o e n m=>t _ _ (s _ _ e n m) λz=>by rw[z,f] at e;cases e
def adP (p:Place):List Int:=if V.str p.kind=V.str "opener" then [] else p.addr::p.spur.map (·.addr)
def adL (ps:List Place):List Int:=ps.flatMap adP
theorem Ra (ps:List Place) (p:Place):adL (ps++[p])=adL ps++adP p:=by unfold adL;rw[QaJ];simp
def opP:Place:=⟨"opener",0,[]⟩
theorem aW:OkP opP:=⟨by show 0<=3;decide,(λd hd=>by cases hd),.inl ⟨rfl,rfl,rfl⟩⟩
theorem XM:adP opP=[]:=if_pos rfl
theorem Jb {k:Str} (h:DN k):¬V.str k=V.str "opener":=by
 rcases h with rfl | rfl | rfl | rfl <;> decide +kernel
theorem qC {i:Int} (h0:0<=i) (h4:i < 4):∃k,atI [V.str "seeker",.str "knob",.str "bell",.str "door"] i=some (.str k)/\DN k:=by
 have:i=0\/i=1\/i=2\/i=3:=by omega
 rcases this with rfl | rfl | rfl | rfl
 ·exact⟨_,rq,.inl rfl⟩
 ·exact⟨_,rq,.inr (.inl rfl)⟩
 ·exact⟨_,rq,.inr (.inr (.inl rfl))⟩
 ·exact⟨_,rq,.inr (.inr (.inr rfl))⟩
theorem Lf {xs:YG} {k:Nat} (h:k<=xs.length):Eu xs (some (k:Int)) none=xs.drop k:=by
 unfold Eu;rw[HT.QF,HT.Zk,Nat.min_eq_left h];exact Qav (by rw[Qbq];omega)
theorem dI {n:Nat} (h:0 < n):seqIndex? 0 n=some 0:=by
 unfold seqIndex?;simp only[if_neg (show ¬(0:Int) < 0 by decide)];rw[if_pos (by simp;omega)];rfl
inductive V5 (vs:YG) (H:Hp) (Q:VK) (E:XK):Prop
 | mk (b nb:Addr) (n mp:Nat) (ns:List Int) (_:vs=[.ref b,.ref nb,.int mp]) (_:Bo H b n) (_:n<=5000) (_:b≠nb) (_:H nb=some (.lst (ns.map V.int))) (_:1<=mp) (_:mp<=12) (_:ns.length<=100) (_:∀t ps ns' H',LoopAt H' (.ref t) ps->(∀p∈ps,OkP p)->1<=ps.length->ps.length<=mp->ns=adL ps++ns'->H' nb=some (.lst (ns'.map V.int))->Bo H' b (n+100)->Cw b nb H H'->Q (.ref t) H'):V5 vs H Q E
inductive Qv (vs:YG) (H:Hp) (Q:VK) (E:XK):Prop
 | mk (t:Addr) (ps:List Place) (_:vs=[.ref t]) (_:LoopAt H (.ref t) ps) (_:(∀p∈ps,OkP p)) (_:ps.length<=100) (_:∀l H',H' l=some (.lst ((Hw ps).map V.int))->Same H H'->Q (.ref l) H'):Qv vs H Q E
def nZ (b nb lp:Addr) (mp:Int) (H:Hp) (n:Nat) (ns:List Int) (i:Nat) (σ : St) (HH:Hp):Prop:=
 ∃u4 u5 u6 u7 vs ps ns',σ=[js b,js nb,some (.int mp),js lp,u4,u5,u6,u7]/\HH lp=some (.lst vs)/\Paired (Ei HH) vs ps/\ps.length=i/\(∀p∈ps,OkP p)/\ns=adL ps++ns'/\HH nb=some (.lst (ns'.map V.int))/\Bo HH b (n+1+7*i)/\Cw b nb H HH
section
variable {P:Program} {w:World} {K:YD} {mg:YB} {base:Heap}
theorem pD (C:Code K mg "_law_loop" QC K5) (T:Nm mg) (Bh:Good P w K mg base "_law_take" 1 Em Il):Good P w K mg base "_law_loop" 2 K5 V5:=by
 refine C.good Ii (λvs H Q E h=>?_) (λf cdv A outer s H vs Q E hr h=>?_)
 ·obtain⟨b,nb,n,mp,ns,rfl,_⟩:=h;rfl
 obtain⟨b,nb,n,mp,ns,rfl,hb,hn,nbn,hnb,DL,hmp,hns,q⟩:=h;refine⟨_,(Ae (Ax (i:=3) Ii.nd rfl (Or.inl rfl) (BZ Ab))
 (Ae (Dh QbC rfl (Fb rfl T.range (Aa (Aw Dj Ad (Cp Bh hr (Aa (pv 0) (Aa (pv 2) Ab)))) Ab)) (Aj (i:=4) Ii.nd rfl (Or.inl rfl))
 (Ae (Ax (i:=5) Ii.nd rfl (Or.inl rfl) (Aw Dj Ad (Cz CP (@BZ _ _ _ _ (@Aa _ _ _ _ _ (@Ad _ _ _ _) (@Aa _ _ _ _ _ (@Ad _ _ _ _) (@Aa _ _ _ _ _ (@Ad _ _ _ _) (@Aa _ _ _ _ _ (@Ad _ _ _ _) (@Aa _ _ _ _ _ (@Ad _ _ _ _) (@Aa _ _ _ _ _ (@Ad _ _ _ _) (@Ab _) Ak) Ak) Ak) Ak) Ak) Ak)) (Cp Bh hr (Aa (pv 0) (Aa Ad Ab))) (λ_ _=>rfl))))
 (Ah (BP (PW.pt (Kq (Bp Dz (Cp Bh hr (Aa (pv 0) (Aa Ad Ab))) Ad (Bx _)) (JF (Bp Vp (Ay Dc rfl T.len Ep (Aa (pv 1) Ab)) (pv 5) (Bx _))))) (Ah (Cr (BJ Qan Qai Qaj Cu (pv 3) (Aa (CZ (Aa Ai (Aa Ad (Aa (CZ Ab) Ab)))) Ab)))) (Ae (Ax (i:=6) Ii.nd rfl (Or.inl rfl) (BZ Ab))
 (Ae (Dh QbC rfl (Fb rfl T.range (Aa (pv 5) Ab)) (Aj (i:=7) Ii.nd rfl (Or.inl rfl))
 (Ah (Cr (BJ Qan Qai Qaj Cu (pv 6) (Aa (CZ (Aa (Cz CP (BZ (Aa Ai (Aa Ai (Aa Ai (Aa Ai Ab))))) (Cp Bh hr (Aa (pv 0) (Aa Ad Ab))) (λ_ _=>rfl)) (Aa (BJ Qan PySem.F.slot_list_pop PySem.F.type_list_pop WT (pv 1) (Aa Ad Ab)) Ab))) Ab)))))
 (Ah (Cr (BJ Qan Qai Qaj Cu (pv 3) (Aa (Aw Nk (Cz CP (pv 6) Ad (λ_ _=>rfl)) (CZ (Aa (Cj Cy rfl T.tuple Dy (Aa (BK Mv (pv 6) (Cg Ad) Ci) Ab)) Ab))) Ab))))))))))
 (Ah (Bc (Cj Cy rfl T.tuple Dy (Aa (pv 3) Ab)))))),?_⟩
 show let R0:TS:=_;let R1:TS:=_;let R2:TS:=_;let R3:TS:=_;let R4:TS:=Ar (Et _ _ R3) R2;let R5:TS:=Ar _ R4;let R6:TS:=Ec _ R1 R5;let R7:TS:=Ar _ R6;let R8:TS:=Ar (Et _ _ R7) R0;Ar _ R8 _ _ _;intro R0 R1 R2 R3 R4 R5 R6 R7 R8;refine⟨Am (by show 0<=1000;decide),λlp hlp=>?_⟩;have s0:=Af hlp (.lst []);have nlb:b≠lp:=hb.nb hlp;have nln:nb≠lp:=Aq hnb hlp;refine⟨_,rq,_,rq,b,n,_,rq,hb.same s0,by omega,by omega,by omega,λr H1 r0 r1 hb1 sb1=>⟨_,_,rq,rq,_,rq,by omega,by omega,?_⟩⟩;obtain⟨rn,hrn⟩ : ∃rn:Nat,r=rn:=⟨r.toNat,by omega⟩;subst hrn;rw[show ((1:Int)+(rn:Int)).toNat=rn+1 by omega];have DF:∀{H2 H3:Hp},H2 lp=some (.lst [])->True:=λ_=>True.intro;refine Gz (nZ b nb lp mp H n ns) ⟨_,_,_,_,[],[],ns,rq,sb1 _ _ Ac nlb.symm,.nil,rq,(λp hp=>by cases hp),rq,sb1 _ _ (s0 _ _ hnb) nbn.symm,hb1,(Cw.of s0).trans (Cw.l sb1)⟩ (λi σ HH hi h=>?_) (fun σ HH h=>?_)
 ·obtain⟨u4,u5,u6,u7,vs,ps,ns',rfl,e1,e2,e3,e4,e5,e6,e7,e8⟩:=h;have AH:i < 12:=by omega
  have hlv:=QbR e2;refine⟨Am (by show 6<=1000;decide),λl6 hl6=>?_⟩;have s6:=Af hl6 (.lst [.int 0,.int 0,.int 0,.int 1,.int 2,.int 3]);refine⟨_,rq,b,_,6,rq,e7.same s6,by omega,by decide,by decide,λr2 HA r20 r21 hbA sA=>?_⟩;obtain⟨m,em,m0,m3⟩:=Cl r20 r21 (a:=0) (b:=0) (c:=0) (d:=1) (e:=2) (f:=3) (λp=>0<=p/\p<=3) (by decide) (by decide) (by decide) (by decide) (by decide) (by decide);obtain⟨mn,hmn⟩ : ∃mn:Nat,m=mn:=⟨m.toNat,by omega⟩;subst hmn;refine⟨l6,_,_,_,rq,rq,SqL.of (sA _ _ Ac (e7.nb hl6).symm),em,_,_,rq,rq,?_⟩;refine⟨_,rq,b,_,4,rq,hbA,by omega,by decide,by decide,λr3 HB r30 r31 hbB sB=>⟨rq,_,rq,?_⟩⟩;have sHB:Ag b HH HB:=((Ag.of s6).trans sA).trans sB;have tHB:Ba HH HB:=sHB.tup e7.Ja;have f1:=sHB _ _ e1 nlb.symm;have f2:Paired (Ei HB) vs ps:=Paired.Cd e2 λ_ _ z=>z.tups tHB;have f6:=sHB _ _ e6 nbn.symm;have f8:Cw b nb H HB:=e8.trans (Cw.l sHB);have opn:∀eo,HB eo=none->∀t,upd HB eo (.tup []) t=none->nZ b nb lp mp H n ns (i+1) [js b,js nb,some (.int mp),js lp,some (.int (0+(i:Int))),some (.int (1+(mn:Int))),u6,u7] (upd (upd (upd HB eo (.tup [])) t (.tup [.str "opener",.int 0,.ref eo])) lp (.lst (vs++[.ref t]))):=λeo heo t ht=>by
   have t1:=Af heo (.tup []);have t2:=Af ht (.tup [.str "opener",.int 0,.ref eo]);have f1':=t2 _ _ (t1 _ _ f1);have nt:∀zs,(upd (upd HB eo (.tup [])) t (.tup [.str "opener",.int 0,.ref eo])) lp≠some (.tup zs):=λzs z=>by rw[f1'] at z;cases z
   have tu:=Ba.upd (o:=.lst (vs++[.ref t])) nt;refine⟨_,_,_,_,vs++[.ref t],ps++[opP],ns',rq,Ac,?_,by rw[QaM,e3];rfl,λp hp=>?_,?_,?_,?_,?_⟩
   ·refine Qch ⟨t,eo,[],rq,tu _ _ Ac,tu _ _ (t2 _ _ Ac),.nil⟩ (Paired.Cd f2 λ_ _ z=>(z.tups (Ba.of (t1.trans t2))).tups tu)
   ·rcases Qby.mp hp with z | z
    ·exact e4 p z
    ·have:p=opP:=by simpa using z
     rw[this];exact aW
   ·rw[Ra,XM,QbA];exact e5
   ·rw[Az nln];exact t2 _ _ (t1 _ _ f6)
   ·exact (((hbB.same t1).same t2).FP Ag.upd nlb).mono (by omega)
   ·exact (f8.trans (Cw.of (t1.trans t2))).M9 Ag.upd hlp
  refine Jr (λ_=>?_) (λ_=>?_)
  ·refine⟨_,rq,.inl ⟨rq,_,SqL.of f1⟩,Am (by show 0<=1000;decide),λeo heo=>⟨Am (by show 3<=1000;decide),λt ht=>⟨lp,_,_,rq,rq,Af ht _ _ _ (Af heo _ _ _ f1),Bb (by omega),opn eo heo t ht⟩⟩⟩
  ·refine⟨_,rq,nb,_,rq,.inl (SqL.of f6),_,rq,_,_,rq,rq,_,rq,Jr (λ_=>?_) (λcc=>?_)⟩
   ·refine⟨_,rq,.inl ⟨rq,_,SqL.of f1⟩,Am (by show 0<=1000;decide),λeo heo=>⟨Am (by show 3<=1000;decide),λt ht=>⟨lp,_,_,rq,rq,Af ht _ _ _ (Af heo _ _ _ f1),Bb (by omega),opn eo heo t ht⟩⟩⟩
   ·have cc:¬(((ns'.map V.int).length:Nat):Int) < 1+(mn:Int):=λz=>cc (QbM z);rw[Qbw] at cc;refine⟨Am (by show 0<=1000;decide),λls hls=>?_⟩;have sl:=Af hls (.lst []);have xU:lp≠ls:=Aq f1 hls;have sY:nb≠ls:=Aq f6 hls;have tD:b≠ls:=hbB.nb hls;refine⟨_,rq,_,rq,by omega,by omega,?_⟩;rw[show ((1:Int)+(mn:Int)).toNat=mn+1 by omega];have DO:H ls=none->True:=λ_=>True.intro;let J0:YN:=λj σ HC=>∃u7 xs ds ns2,σ=[js b,js nb,some (.int mp),js lp,some (.int (0+(i:Int))),some (.int (1+(mn:Int))),js ls,u7]/\HC ls=some (.lst xs)/\Paired (Jg HC) xs ds/\ds.length=j/\(∀d∈ds,DN d.kind)/\ns'=ds.map (·.addr)++ns2/\HC nb=some (.lst (ns2.map V.int))/\Bo HC b (n+1+7*i+1+1+j)/\HC lp=some (.lst vs)/\Paired (Ei HC) vs ps/\(∀c o,HB c=some o->c≠b->c≠nb->HC c=some o);refine Gz J0
     ⟨_,[],[],ns',rq,Ac,.nil,rq,(λd hd=>by cases hd),rq,sl _ _ f6,hbB.same sl,sl _ _ f1,Paired.Cd f2 λ_ _ z=>z.tups (Ba.of sl),λc o e _ _=>sl _ _ e⟩ (λj σ HC hj h=>?_) (fun σ HC h=>?_)
    ·obtain⟨u7,xs,ds,ns2,rfl,g1,g2,g3,g4,g5,g6,g7,g8,g9,g10⟩:=h;refine⟨_,rq,.inl ⟨rq,_,SqL.of g1⟩,Am (by show 4<=1000;decide),λl4 hl4=>?_⟩;have s4:=Af hl4 (.lst [.str "seeker",.str "knob",.str "bell",.str "door"]);refine⟨_,rq,b,_,4,rq,g7.same s4,by omega,by decide,by decide,λr4 HD r40 r41 hbD sD=>?_⟩;obtain⟨k,ek,hk⟩:=qC r40 r41;have sCD:Ag b HC HD:=(Ag.of s4).trans sD;have tCD:Ba HC HD:=sCD.tup g7.Ja;have g6':=sCD _ _ g6 nbn.symm;cases ns2 with
     | nil=>
      rw[QbA] at g5;have:=congrArg List.length g5;rw[Qbw,g3] at this;omega
     | cons a0 ns3=>
      refine⟨l4,_,_,_,rq,rq,SqL.of (sD _ _ Ac (g7.nb hl4).symm),ek,_,rq,.inl ⟨rq,_,SqL.of g6'⟩,nb,_,0,0,.int a0,rq,rq,g6',by decide,by decide,dI (by rw[Qbw];show 0 < _+1;omega),rq,Am (by show 2<=1000;decide),λt ht=>?_⟩;have tn:Ba HD (upd HD nb (.lst (((a0::ns3).map V.int).eraseIdx 0))):=Ba.upd λzs z=>by rw[g6'] at z;cases z
      have tt:=Af ht (.tup [.str k,.int a0]);have gls:upd HD nb (.lst (((a0::ns3).map V.int).eraseIdx 0)) ls=some (.lst xs):=by rw[Az sY.symm];exact sCD _ _ g1 tD.symm
      refine⟨ls,_,_,rq,rq,tt _ _ gls,Bb (by rw[QbR g2];omega),?_⟩;have nt:∀zs,(upd (upd HD nb (.lst (((a0::ns3).map V.int).eraseIdx 0))) t (.tup [.str k,.int a0])) ls≠some (.tup zs):=λzs z=>by rw[tt _ _ gls] at z;cases z
      have tu:=Ba.upd (o:=.lst (xs++[.ref t])) nt;have qP:Ba HC (upd (upd (upd HD nb (.lst (((a0::ns3).map V.int).eraseIdx 0))) t (.tup [.str k,.int a0])) ls (.lst (xs++[.ref t]))):=(tCD.trans tn).trans ((Ba.of tt).trans tu);refine⟨_,xs++[.ref t],ds++[⟨k,a0⟩],ns3,rq,Ac,Qch ⟨t,rq,tu _ _ Ac⟩ (Paired.Cd g2 λ_ _ z=>z.tups qP),by rw[QaM,g3];rfl,λd hd=>?_,?_,?_,?_,?_,Paired.Cd g9 λ_ _ z=>z.tups qP,λc o e n1 n2=>?_⟩
      ·rcases Qby.mp hd with z | z
       ·exact g4 d z
       ·have:d=⟨k,a0⟩:=by simpa using z
        rw[this];exact hk
      ·rw[g5,Qbx,Qba];rfl
      ·rw[Az sY,tt _ _ Ac];rfl
      ·exact ((hbD.FP Ag.upd nbn).same tt).FP Ag.upd tD
      ·rw[Az xU,tt _ _ (by rw[Az nln.symm];exact sCD _ _ g8 nlb.symm)]
      ·have e':=sCD _ _ (g10 _ _ e n1 n2) n1;rw[Az (λz=>by rw[z,hls] at e;cases e),tt _ _ (by rw[Az n2];exact e')]
    ·obtain⟨u7,xs,ds,ns2,rfl,g1,g2,g3,g4,g5,g6,g7,g8,g9,g10⟩:=h;cases ds with
     | nil=>cases g3
     | cons d0 dr=>
      cases g2 with
      | @cons x0 _ xr _ hd0 hdr=>
       obtain⟨t0,rfl,ht0⟩:=hd0;have lxr:=QbR hdr;have ldr:dr.length=mn:=by simpa using g3
       refine⟨_,rq,.inl ⟨rq,_,SqL.of g8⟩,_,rq,ls,_,_,_,rq,rq,SqL.of g1,Gj (xs:=.ref t0::xr) (j:=0) rfl,_,rq,_,rq,ls,_,rq,SqL.of g1,λp1 hp1=>?_⟩;have ec:Eu (.ref t0::xr) (some 1) none=xr:=Lf (xs:=.ref t0::xr) (k:=1) (by simp);rw[ec] at *;have sp1:=Af hp1 (.lst xr);refine⟨p1,_,rq,.inl ⟨SqL.of Ac,λtu htu=>⟨Am (by show 1<=1000;decide),λt1 ht1=>?_⟩⟩⟩;have sp2:=Af htu (.tup xr);have sp3:=Af ht1 (.tup [.ref tu]);have sp:=(sp1.trans sp2).trans sp3;refine⟨t0,t1,_,_,rq,rq,sp _ _ ht0,Ac,Am (by show 2+1<=1000;decide),λtp HE hE sE=>?_⟩;have spE:=sp.trans sE;have g8':=spE _ _ g8;refine⟨lp,_,_,rq,rq,g8',Bb (by omega),?_⟩;have nt:∀zs,HE lp≠some (.tup zs):=λzs z=>by rw[g8'] at z;cases z
       have tv:=Ba.upd (o:=.lst (vs++[.ref tp])) nt;have okp:OkP ⟨d0.kind,d0.addr,dr⟩:=⟨by show dr.length<=3;omega,λd hd=>g4 d (QaD _ hd),.inr (g4 d0 (QaN ..))⟩;refine⟨_,_,_,_,vs++[.ref tp],ps++[⟨d0.kind,d0.addr,dr⟩],ns2,rq,Ac,?_,by rw[QaM,e3];rfl,λp hp=>?_,?_,?_,?_,?_⟩
       ·refine Qch ⟨tp,tu,xr,rq,tv _ _ hE,tv _ _ (sE _ _ (sp3 _ _ Ac)),Paired.Cd hdr λ_ _ z=>(z.tups (Ba.of spE)).tups tv⟩ (Paired.Cd g9 λ_ _ z=>(z.tups (Ba.of spE)).tups tv)
       ·rcases Qby.mp hp with z | z
        ·exact e4 p z
        ·have:p=⟨d0.kind,d0.addr,dr⟩:=by simpa using z
         rw[this];exact okp
       ·rw[Ra,e5,g5,Qba];congr 1;have:adP ⟨d0.kind,d0.addr,dr⟩=d0.addr::dr.map (·.addr):=if_neg (Jb (g4 d0 (QaN ..)));rw[this];rfl
       ·rw[Az nln];exact spE _ _ g6
       ·exact ((g7.same spE).FP Ag.upd nlb).mono (by omega)
       ·refine Cw.M9 (λc o e n1 n2=>spE _ _ (g10 _ _ (f8 _ _ e n1 n2) n1 n2)) Ag.upd hlp
 ·obtain⟨u4,u5,u6,u7,vs,ps,ns',rfl,e1,e2,e3,e4,e5,e6,e7,e8⟩:=h;refine⟨_,rq,lp,_,rq,.inl ⟨SqL.of e1,λt ht=>?_⟩⟩;have st:=Af ht (.tup vs);exact q t ps ns' _ ⟨t,vs,rq,Ac,Paired.Cd e2 λ_ _ z=>z.tups (Ba.of st)⟩ e4 (by omega) (by omega) e5 (st _ _ e6) ((e7.same st).mono (by omega)) (e8.trans (Cw.of st))
end
abbrev Jk:Stmt:=top 55
abbrev K3:YF:=["_law_bag_here","_law_most_loops","_law_most_places"]
abbrev xf:YF:=["_law_bag_here","_law_most_loops","_law_most_places","_law_start","_law_stride","_law_numbers","_law_own","_law_first","_law_at","_law_loops","_law_loop_here","_law_most","_law_told_here","_law_places","_law_kind_here","_law_address","_law_spur","_law_zones","_law_names_here","_law_name_here","_law_some"]
theorem BW:Bf xf K3 (Al Jk):=by ac_rfl
theorem XJ (xs:YG) (y:V):atI (xs++[y]) (-1)=some y:=by
 unfold atI ixN;rw[if_neg (by decide),QaM,Qax,if_pos (by omega),show (-1+((xs.length+1:Nat):Int)).toNat=xs.length by omega];show (xs++[y])[xs.length]?=some y;rw[Qae (Qce _),Nat.sub_self];rfl
theorem lW (xs:YG) (y:V):ixN (xs++[y]).length (-1)=some xs.length:=by
 unfold ixN;rw[if_neg (by decide),QaM,Qax,if_pos (by omega),show (-1+((xs.length+1:Nat):Int)).toNat=xs.length by omega]
theorem jt (xs:YG) (y z:V):(xs++[y]).set xs.length z=xs++[z]:=by
 rw[List.set_append_right _ _ (Qce _),Nat.sub_self];rfl
theorem Ch {i:Int} (h0:0<=i) (h9:i < 9) {a b c d e f g h k:Int} (P:Int->Prop) (ha:P a) (hb:P b) (hc:P c) (hd:P d) (he:P e) (hf:P f) (hg:P g) (hh:P h) (hk:P k):∃p,atI [V.int a,.int b,.int c,.int d,.int e,.int f,.int g,.int h,.int k] i=some (.int p)/\P p:=by
 have:i=0\/i=1\/i=2\/i=3\/i=4\/i=5\/i=6\/i=7\/i=8:=by omega
 rcases this with rfl | rfl | rfl | rfl | rfl | rfl | rfl | rfl | rfl
 ·exact⟨_,rq,ha⟩
 ·exact⟨_,rq,hb⟩
 ·exact⟨_,rq,hc⟩
 ·exact⟨_,rq,hd⟩
 ·exact⟨_,rq,he⟩
 ·exact⟨_,rq,hf⟩
 ·exact⟨_,rq,hg⟩
 ·exact⟨_,rq,hh⟩
 ·exact⟨_,rq,hk⟩
theorem gj (ns:List Int):(ns.map V.int).all Jx=true:=by
 rw[List.all_map,Qbu];intro _ _;rfl
theorem gC {xs:YG} {m:Nat} (h:m<=xs.length):Eu xs none (some (m:Int))=xs.take m:=by
 unfold Eu;rw[HT.QF,HT.Zk,Nat.min_eq_left h];rfl
theorem Paired.nq {α β : Type} {F:α->β->Prop}:∀{l:List α} {r:List β} (n:Nat),Paired F l r->Paired F (l.take n) (r.take n)
 | _,_,0,_=>.nil
 | _,_,_+1,.nil=>.nil
 | _,_,n+1,.cons h t=>.cons h (Paired.nq n t)
theorem Paired.nU {α β : Type} {F:α->β->Prop}:∀{l:List α} {r:List β} (n:Nat),Paired F l r->Paired F (l.drop n) (r.drop n)
 | _,_,0,h=>h
 | _,_,_+1,.nil=>.nil
 | _,_,n+1,.cons h t=>Paired.nU n t
theorem Paired.app {α β : Type} {F:α->β->Prop}:∀{a₁ b₁ : List α} {a₂ b₂ : List β},Paired F a₁ a₂->Paired F b₁ b₂->Paired F (a₁++b₁) (a₂++b₂)
 | _,_,_,_,.nil,t=>t
 | _,_,_,_,.cons r s,t=>.cons r (Paired.app s t)
theorem Zn:∀(ps:List Place) (a:List Int×Int),(ps.foldl ptS a).1.sum+(ps.foldl ptS a).2=a.1.sum+a.2+((adL ps).length:Int)
 | [],a=>by show _=_+_+((0:Nat):Int);simp
 | p::r,a=>by
  rw[List.foldl_cons,Zn r];have e:adL (p::r)=adP p++adL r:=by unfold adL;rw[Qbe]
  rw[e,QaM];unfold ptS adP;by_cases h:V.str p.kind=V.str "opener"
  ·rw[if_pos h,if_pos h,List.sum_append];simp
  ·rw[if_neg h,if_neg h,Qbo,Qbw];simp only;omega
theorem dO:∀(ps:List Place) (a:List Int×Int),(∀m∈a.1,0<=m)->0<=a.2->(∀m∈(ps.foldl ptS a).1,0<=m)/\0<=(ps.foldl ptS a).2
 | [],a,h1,h2=>⟨h1,h2⟩
 | p::r,a,h1,h2=>by
  rw[List.foldl_cons];refine dO r _ ?_ ?_
  ·unfold ptS;split
   ·intro m hm;rcases Qby.mp hm with z | z
    ·exact h1 m z
    ·have:m=a.2:=by simpa using z
     rw[this];exact h2
   ·exact h1
  ·unfold ptS;split
   ·exact Int.le_refl _
   ·show 0<=a.2+1+(p.spur.length:Int);omega
theorem dw:∀{l:List Int},(∀m∈l,0<=m)->0<=l.sum/\∀m∈l,m<=l.sum
 | [],_=>⟨Int.le_refl _,λm h=>by cases h⟩
 | x::r,h=>by
  obtain⟨h1,h2⟩:=dw (l:=r) λm hm=>h m (QaD _ hm);have h0:=h x (QaN ..);rw[List.sum_cons];refine⟨by omega,λm hm=>?_⟩;rcases QbQ.mp hm with rfl | hm
  ·omega
  ·have:=h2 m hm;omega
theorem jM (ps:List Place):∀m∈Hw ps,0<=m:=by
 have h:=dO ps ([],0) (λm hm=>by cases hm) (Int.le_refl _);intro m hm;rcases Qby.mp hm with z | z
 ·exact h.1 m z
 ·have:m=(pst ps).2:=by simpa using z
  rw[this];exact h.2
theorem Ud (ps:List Place):(Hw ps).sum=((adL ps).length:Int):=by
 have h:=Zn ps ([],0);unfold Hw;rw[List.sum_append];have:(pst ps).1.sum+(pst ps).2=((adL ps).length:Int):=by
  have e:(pst ps).1.sum+(pst ps).2=([]:List Int).sum+0+((adL ps).length:Int):=h;rw[e];simp
 simp;omega
theorem jN (ps:List Place):∀m∈Hw ps,m<=((adL ps).length:Int):=λm hm=>by
 have:=(dw (jM ps)).2 m hm;rw[Ud] at this;exact this
theorem Zf:∀{l:List Int},1<=l.sum->∃m∈l,1<=m
 | [],h=>by simp at h
 | x::r,h=>by
  rw[List.sum_cons] at h;by_cases hx:1<=x
  ·exact⟨x,QaN ..,hx⟩
  ·obtain⟨m,h1,h2⟩:=Zf (l:=r) (by omega);exact⟨m,QaD _ h1,h2⟩
structure OkL (ps:List Place):Prop where
 lo:1<=ps.length
 hi:ps.length<=12
 ok:∀p∈ps,OkP p
def BX (ls:YU):List Int:=ls.flatMap adL
structure iu (most:Int) (ja:YU) (jp:List Zone):Prop where
 nd:(BX ja).Nodup
 bd:∀x∈BX ja,1<=x/\x<=99
 cnt:1<=(BX ja).length/\(BX ja).length<=30
 mo:1<=most/\most<=30
 few:∀ps∈ja,∀m∈Hw ps,m<=most
 zin:∀z∈jp,∀x∈z.adr,x∈EY ja
 znd:(jp.flatMap (·.adr)).Nodup
 zup:∀z∈jp,z.adr.Pairwise (· < ·)/\1<=z.adr.length/\z.adr.length<=30
 M4:jp.length<=8
 znm:∀z∈jp,(1<=z.name.length/\z.name.length<=8)/\okS z.name
 zdi:(jp.map (·.name)).Nodup
inductive V3 (vs:YG) (H:Hp) (Q:VK) (E:XK):Prop
 | mk (b:Addr) (n ml mp:Nat) (_:vs=[.ref b,.int ml,.int mp]) (_:Bo H b n) (_:n<=1000) (_:1<=ml) (_:ml<=3) (_:2<=mp) (_:mp<=12) (_:∀t Ls zs vs zvs ja jp most H',H' t=some (.tup [.int most,.ref Ls,.ref zs])->H' Ls=some (.tup vs)->Paired (LoopAt H') vs ja->(∀ps∈ja,OkL ps)->1<=ja.length->ja.length<=3->H' zs=some (.tup zvs)->Paired (Fp H') zvs jp->iu most ja jp->Bo H' b (n+3000)->Ag b H H'->Q (.ref t) H'):V3 vs H Q E
def qT:TS:=λD σ H=>∃(b nb f0:Addr) (n mp:Nat) (ns:List Int),σ[0]?=some (some (.ref b))/\σ[5]?=some (some (.ref nb))/\σ[2]?=some (some (.int mp))/\σ[7]?=some (some (.ref f0))/\H f0=some (.tup [])/\Bo H b n/\n<=4000/\b≠nb/\H nb=some (.lst (ns.map V.int))/\2<=mp/\mp<=12/\ns.length<=100 /\
 ∀t vs ps ns' H',H' t=some (.tup vs)->Paired (Ei H') vs ps->(∀p∈ps,OkP p)->ps.length+1<=mp->ns=adL ps++ns'->H' nb=some (.lst (ns'.map V.int))->Bo H' b (n+101)->Cw b nb H H'->D.nx (σ.set 7 (some (.ref t))) H'
section
variable {P:Program} {w:World} {K:YD} {mg:YB} {base:Heap}
theorem d7 (C:Code K mg "_law_parts" Om JH) (T:Nm mg):Good P w K mg base "_law_parts" 1 JH Qv:=by
 refine C.good Ip (λvs H Q E h=>?_) (λf cdv A outer s H vs Q E hr h=>?_)
 ·obtain⟨t,ps,rfl,_⟩:=h;rfl
 obtain⟨t,ps,rfl,⟨t',vs,et,ht,hps⟩,hok,h100,q⟩:=h;cases et;refine⟨_,(Ae (Ax (i:=1) Ip.nd rfl (Or.inl rfl) (BZ (Aa Ad Ab)))
 (Ae (Dh QbC rfl (Ds (pv 0)) (Di rfl (Av (Aj (i:=2) Ip.nd rfl (Or.inl rfl)) (Av (Aj (i:=3) Ip.nd rfl (Or.inl rfl)) (Av (Aj (i:=4) Ip.nd rfl (Or.inl rfl)) Ck))))
 (Ah (BP (Bp Dz (pv 2) Ai (Bx _)) (Ah (Cr (BJ Qan Qai Qaj Cu (pv 1) (Aa Ad Ab)))) (Ah (Eb (Aw Dj (Aw Dj (Cz CP (pv 1) (PB Ms Ad) (λ_ _=>rfl)) Ad) (Ay Dc rfl T.len Ep (Aa (pv 4) Ab))) (Ry (pv 1) (PB Ms Ad) set_list))))))
 (Ah (Bc (pv 1))))),?_⟩
 show let R0:TS:=_;let R1:TS:=_;let R2:TS:=Ec _ R0 R1;let R3:TS:=Ar (Et _ _ R2) _;Ar _ R3 _ _ _;intro R0 R1 R2 R3;refine⟨Am (by show 1<=1000;decide),λlf hlf=>?_⟩;have s1:=Af hlf (.lst [.int 0]);have lvs:=QbR hps;refine⟨_,rq,t,rq,⟨_,SqT.of (s1 _ _ ht)⟩,?_⟩;let J0:YN:=λi σ HH=>∃(u2 u3 u4:Option V),σ=[js t,js lf,u2,u3,u4]/\HH lf=some (.lst ((pst (ps.take i)).1.map V.int++[.int (pst (ps.take i)).2]))/\(pst (ps.take i)).1.length<=i/\Same H HH;refine G4 (xs:=vs) J0 ⟨_,_,_,rq,Ac,Qce _,s1⟩ (λi σ HH _ h=>?_) (λi x σ HH hx h=>?_) (fun σ HH h=>?_)
 ·obtain⟨u2,u3,u4,rfl,e1,e2,e3⟩:=h;exact SqT.of (e3 _ _ ht)
 ·obtain⟨u2,u3,u4,rfl,e1,e2,e3⟩:=h;obtain⟨p,hp,tp,up,ws,rfl,h1,h2,h3⟩:=Paired.Ed hps hx;have hi:=(Qaf.mp hx).1;have et:pst (ps.take (i+1))=ptS (pst (ps.take i)) p:=by rw[Qcn hp,jC]
  have lws:=QbR h3;generalize pst (ps.take i)=a at *;refine⟨tp,_,rq,SqT.of (e3 _ _ h1),rq,_,_,rq,_,_,rq,_,_,rq,rq,?_⟩;refine⟨_,rq,rq,_,rq,Jr (λhc=>?_) (λhc=>?_)⟩
  ·have hc:V.str p.kind=V.str "opener":=Qbd hc;have et:pst (ps.take (i+1))=(a.1++[a.2],0):=by rw[et];exact if_pos hc
   refine⟨_,rq,.inl ⟨rq,_,SqL.of e1⟩,lf,_,_,rq,rq,e1,Bb (by rw[QaM,Qbw];show _+1<=_;omega),_,_,_,rq,?_,?_,e3.CQ Ag.upd hlf⟩
   ·rw[Ac,et,Qbx];rfl
   ·rw[et,QaM];show _+1<=_;omega
  ·have hc:¬V.str p.kind=V.str "opener":=λz=>hc (QbM z);have et:pst (ps.take (i+1))=(a.1,a.2+1+(p.spur.length:Int)):=by rw[et];exact if_neg hc
   refine⟨_,rq,_,rq,lf,_,_,_,rq,rq,SqL.of e1,XJ _ _,_,_,rq,rq,_,rq,up,_,rq,.inr (SqT.of (e3 _ _ h2)),_,_,rq,rq,_,rq,_,rq,lf,_,_,_,rq,rq,e1,lW _ _,_,_,_,rq,?_,by rw[et];show a.1.length<=_;omega,e3.CQ Ag.upd hlf⟩;rw[Ac,jt,et,<-lws]
 ·obtain⟨u2,u3,u4,rfl,e1,e2,e3⟩:=h;rw[lvs,Qbp] at e1;refine⟨_,rq,q lf HH (by unfold Hw;rw[Qbx];exact e1) e3⟩
end
theorem rA {α : Type} {l:List α} {i:Nat} {x:α} (h:l[i]?=some x):l.set i x=l:=by
 obtain⟨hi,e⟩:=Qaf.mp h;subst e;exact List.set_getElem_self hi
theorem Ln.tups {H H':Hp} {vs:YG} {ls:YU} (s:Ba H H') (h:Paired (LoopAt H) vs ls):Paired (LoopAt H') vs ls:=Paired.Cd h λ_ _ z=>z.tups s
theorem Pn.tups {H H':Hp} {vs:YG} {ls:List Place} (s:Ba H H') (h:Paired (Ei H) vs ls):Paired (Ei H') vs ls:=Paired.Cd h λ_ _ z=>z.tups s
theorem Ju (a b:List Place):adL (a++b)=adL a++adL b:=by unfold adL;rw[QaJ]
theorem UJ (ls:YU) (ps:List Place):BX (ls++[ps])=BX ls++adL ps:=by unfold BX;rw[QaJ];simp
def wr (ds:List Dev):Nat:=(ds.filter λd=>!decide (V.str d.kind=V.str "opener")).length
theorem QW (w:Int):∀ws:List Int,inV (.int w) (ws.map V.int)=decide (w∈ws)
 | []=>rfl
 | x::r=>by
  have ih:=QW w r;unfold inV at ih ⊢;rw[QbT,QbX,ih];have h2:eqV (.int x) (.int w)=decide (w=x):=by
   show (x == w)=decide (w=x);rw[QbH,beq_iff_eq,QaV];exact⟨λh=>h.symm,λh=>h.symm⟩
  rw[h2,QbH,Bool.or_eq_true,QaV,QaV,QaV,QbQ]
def DY (p:Int):Prop:=p=1\/p=2\/p=4\/p=5\/p=7\/p=8\/p=10\/p=13\/p=98
def Ml (r sd:Int) (n:Nat):List Int:=(List.range n).map λk:Nat=>(r+sd*(0+(k:Int))) % 99+1
theorem eG (r sd:Int) (n:Nat):Ml r sd (n+1)=Ml r sd n++[(r+sd*(0+(n:Int))) % 99+1]:=by
 unfold Ml;rw[List.range_succ,Qbx];rfl
theorem pK (r sd:Int) (n:Nat):∀x∈Ml r sd n,1<=x/\x<=99:=λx hx=>by
 obtain⟨k,_,rfl⟩:=QbY.mp hx;have h1:=QbF (r+sd*(0+(k:Int))) (show (99:Int)≠0 by decide);have h2:=QaW (r+sd*(0+(k:Int))) (show (0:Int) < 99 by decide);omega
theorem pJ {r sd:Int} (h:DY sd):(Ml r sd 30).Nodup:=by
 unfold Ml;refine List.pairwise_map.mpr ?_;refine List.Pairwise.imp_of_mem (λ{i j} hi hj hlt=>?_) (List.pairwise_lt_range (n:=30));have hi:=List.mem_range.mp hi;have hj:=List.mem_range.mp hj;intro e;unfold DY at h;rcases h with rfl | rfl | rfl | rfl | rfl | rfl | rfl | rfl | rfl <;> omega
theorem Zb:∀{ds:List Dev},(G8 ds).Sublist (ds.map (·.addr))
 | ds=>by unfold G8;exact List.Sublist.map _ (List.filter_sublist ..)
theorem VD {p:Place} (h:OkP p):(G8 (Fw p)).Sublist (adP p):=by
 rcases h.form with⟨f1,f2,f3⟩| f1
 ·have e:adP p=[]:=if_pos (by rw[f1]);have e2:G8 (Fw p)=[]:=by
   unfold Fw G8;rw[f3,f1];have:Pb "opener"=false:=by trivial
   rw[List.filter_cons_of_neg (by rw[this];decide)];rfl
  rw[e,e2];exact .slnil
 ·have e:adP p=(Fw p).map (·.addr):=if_neg (Jb f1);rw[e];exact Zb
theorem Qp:∀{ps:List Place},(∀p∈ps,OkP p)->(Hy ps).Sublist (adL ps)
 | [],_=>.slnil
 | p::r,h=>by
  have e1:Hy (p::r)=G8 (Fw p)++Hy r:=by unfold Hy;rw[Qbe]
  have e2:adL (p::r)=adP p++adL r:=by unfold adL;rw[Qbe]
  rw[e1,e2];exact (VD (h p (QaN ..))).append (Qp λq hq=>h q (QaD _ hq))
theorem Od:∀{ls:YU},(∀ps∈ls,OkL ps)->(EY ls).Sublist (BX ls)
 | [],_=>.slnil
 | ps::r,h=>by
  have e1:EY (ps::r)=Hy ps++EY r:=by unfold EY;rw[Qbe]
  have e2:BX (ps::r)=adL ps++BX r:=by unfold BX;rw[Qbe]
  rw[e1,e2];exact (Qp (h ps (QaN ..)).ok).append (Od λq hq=>h q (QaD _ hq))
theorem ZK {ps:List Place}:∀(ja:YU),ps∈ja->(adL ps).length<=(BX ja).length
 | [],h=>by cases h
 | a::r,h=>by
  have e:BX (a::r)=adL a++BX r:=by unfold BX;rw[Qbe]
  rw[e,QaM];rcases QbQ.mp h with rfl | h
  ·omega
  ·have:=ZK r h;omega
structure NQ (ws:List Int) (ts:List Int) (jp:List Zone) (ys:YF):Prop where
 nd:(jp.flatMap (·.adr)++ts).Nodup
 sub:∀x∈jp.flatMap (·.adr)++ts,x∈ws
 up:∀z∈jp,z.adr.Pairwise (· < ·)/\1<=z.adr.length/\z.adr.length<=30
 nm:(jp.map (·.name)).Sublist ys
theorem NQ.next {ws ts ms ss:List Int} {jp:List Zone} {ys:YF} {y:Str} (h:NQ ws ts jp ys) (hp:ms.Perm ss) (hsub:ss.Sublist ts) (hr:ms.Pairwise (·<=·)) (h30:ms.length<=30) (y1:1<=ms.length):NQ ws (ts.filter λx=>!decide (x∈ms)) (jp++[⟨y,ms⟩]) (ys++[y]):=by
 obtain⟨n1,n2,n3⟩:=Qbh.mp h.nd;have nms:ms.Nodup:=hp.nodup_iff.mpr (hsub.nodup n2);have hin:∀x∈ms,x∈ts:=λx hx=>hsub.subset (hp.mem_iff.mp hx);have e:(jp++[(⟨y,ms⟩ : Zone)]).flatMap (·.adr)=jp.flatMap (·.adr)++ms:=by rw[QaJ];simp
 refine⟨?_,λx hx=>?_,λz hz=>?_,?_⟩
 ·rw[e,Qbh];refine⟨Qbh.mpr ⟨n1,nms,λa ha b hb=>n3 a ha b (hin b hb)⟩,n2.filter _,λa ha b hb=>?_⟩;obtain⟨hb1,hb2⟩:=QbG.mp hb;rcases Qby.mp ha with ha | ha
  ·exact n3 a ha b hb1
  ·rintro rfl;rw[QbM ha] at hb2;cases hb2
 ·rw[e] at hx;rcases Qby.mp hx with hx | hx
  ·rcases Qby.mp hx with hx | hx
   ·exact h.sub x (QaF _ hx)
   ·exact h.sub x (Qaw _ (hin x hx))
  ·exact h.sub x (Qaw _ (QbG.mp hx).1)
 ·rcases Qby.mp hz with hz | hz
  ·exact h.up z hz
  ·have:z=⟨y,ms⟩:=by simpa using hz
   rw[this];refine⟨?_,y1,h30⟩;refine List.Pairwise.imp₂ (S:=λa b:Int=>a≠b) (λa b h1 h2=>by omega) hr nms
 ·rw[Qbx];exact h.nm.append (List.Sublist.refl _)
theorem NQ.none {ws ts:List Int} {jp:List Zone} {ys:YF} {y:Str} {g:Int->Bool} (h:NQ ws ts jp ys):NQ ws (ts.filter g) jp (ys++[y]):=by
 obtain⟨n1,n2,n3⟩:=Qbh.mp h.nd;refine⟨Qbh.mpr ⟨n1,n2.filter _,λa ha b hb=>n3 a ha b (QbG.mp hb).1⟩,λx hx=>?_,h.up,h.nm.trans (List.sublist_append_left ..)⟩;rcases Qby.mp hx with hx | hx
 ·exact h.sub x (QaF _ hx)
 ·exact h.sub x (Qaw _ (QbG.mp hx).1)
section
variable {P:Program} {w:World} {K:YD} {mg:YB} {base:Heap}
abbrev xi:YF:=["_law_other","_law_number"]
abbrev xw:YF:=["_law_k","_law_start","_law_stride"]
abbrev xx:YF:=["_law_number","_law_bag_here"]
theorem pB (C:Code K mg "_law_plan" Jk K3) (T:Nm mg) (Bh:Good P w K mg base "_law_take" 1 Em Il) (Xf:Good P w K mg base "_law_loop" 2 K5 V5) (fP:Good P w K mg base "_law_parts" 1 JH Qv) (fQ:Good P w K mg base "_law_names" 3 JK Sw) :
  Good P w K mg base "_law_plan" 4 K3 V3:=by
 refine C.good BW (λvs H Q E h=>?_) (λf cdv A outer s H vs Q E hr h=>?_)
 ·obtain⟨b,n,ml,mp,rfl,_⟩:=h;rfl
 obtain⟨b,n,ml,mp,rfl,hb,hn,DM,hml,AF,hmp,q⟩:=h;refine⟨_,(Ae (Ax (i:=3) BW.nd rfl (Or.inr rfl) (Cp Bh hr (Aa (pv 0) (Aa Ad Ab))))
 (Ae (Ax (i:=4) BW.nd rfl (Or.inr rfl) (Cz CP (@BZ _ _ _ _ (@Aa _ _ _ _ _ (@Ad _ _ _ _) (@Aa _ _ _ _ _ (@Ad _ _ _ _) (@Aa _ _ _ _ _ (@Ad _ _ _ _) (@Aa _ _ _ _ _ (@Ad _ _ _ _) (@Aa _ _ _ _ _ (@Ad _ _ _ _) (@Aa _ _ _ _ _ (@Ad _ _ _ _) (@Aa _ _ _ _ _ (@Ad _ _ _ _) (@Aa _ _ _ _ _ (@Ad _ _ _ _) (@Aa _ _ _ _ _ (@Ad _ _ _ _) (@Ab _) Ak) Ak) Ak) Ak) Ak) Ak) Ak) Ak) Ak)) (Cp Bh hr (Aa (pv 0) (Aa Ad Ab))) (λ_ _=>rfl)))
 (Ae (S6 (i:=5) BW.nd rfl (Or.inl rfl) (N':=xw) rfl (Bs.of (src:=[none,some 3,some 4]) (Al Jk) xf rfl rfl rfl (by trivial) (by trivial) (by trivial) rfl (by trivial)) (Fb rfl T.range (Aa Ad Ab)) (λ_ _ _ _=>(Aj (i:=0) (show List.Nodup (xw:YF) by trivial) rfl (Or.inl rfl))) (λ_ _ _ _=>CW) (λ_ _ _ _=>(Aw Dj (Aw JV (Aw Dj (pv 1) (Aw Gx (pv 2) (pv 0))) Ad) Ad)))
 (Ae (Ax (i:=6) BW.nd rfl (Or.inl rfl) (BJ Qan PySem.F.slot_list_pop PySem.F.type_list_pop WT (pv 5) (Aa Ad Ab)))
 (Ae (Ax (i:=7) BW.nd rfl (Or.inl rfl) (CZ Ab))
 (Ae (PS.weak (t':=qT) (BP (Bp aY (Cp Bh hr (Aa (pv 0) (Aa Ad Ab))) Ad (Bx _)) (Ah (Ax (i:=7) BW.nd rfl (Or.inl rfl) (Dt Xf hr (Aa (pv 0) (Aa (pv 5) (Aa (Aw rZ (pv 2) Ad) Ab)))))) Bq) (λD σ H h=>by
    obtain⟨b,nb,f0,n,mp,ns,e0,e5,e2,e7,hf0,hb,hn,nbn,hnb,hmp,DI,hns,q⟩:=h;refine⟨_,e0,b,n,8,rq,hb,by omega,by decide,by decide,λr H1 r0 r1 hb1 sb1=>⟨_,_,rq,rq,_,rq,Jr (λ_=>?_) (λ_=>?_)⟩⟩
    ·refine⟨_,e0,_,e5,_,e2,_,_,rq,rq,b,nb,n+1,mp - 1,ns,?_,hb1,by omega,nbn,sb1 _ _ hnb nbn.symm,by omega,by omega,hns,λt ps ns' H2 ⟨t',vs,et,ht,hp⟩ hok h1 h2 hns' hnb' hb2 s2=>?_⟩
     ·show [V.ref b,.ref nb,.int ((mp:Int) - 1)]++[]=_;rw[show ((mp:Int) - 1)=((mp - 1:Nat):Int) by omega];rfl
     ·cases et;exact q t vs ps ns' H2 ht hp hok (by omega) hns' hnb' (hb2.mono (by omega)) ((Cw.l sb1).trans s2)
    ·have q:=q f0 [] [] ns H1 (sb1.tup hb.Ja _ _ hf0) .nil (λp hp=>by cases hp) (by show 0+1<=mp;omega) rfl (sb1 _ _ hnb nbn.symm) (hb1.mono (by omega)) (Cw.l sb1);rw[rA e7] at q;exact q))
 (Ae (Ax (i:=8) BW.nd rfl (Or.inl rfl) (Cp Bh hr (Aa (pv 0) (Aa (Aw Dj (Ay Dc rfl T.len Ep (Aa (pv 7) Ab)) Ad) Ab))))
 (Ae (Ax (i:=9) BW.nd rfl (Or.inl rfl) (BZ (Aa (Aw Nk (Aw Nk (BK SJ (pv 7) Ci (Cg (pv 8))) (CZ (Aa (CZ (Aa Ai (Aa (pv 6) (Aa (CZ Ab) Ab)))) Ab))) (BK SJ (pv 7) (Cg (pv 8)) Ci)) Ab)))
 (Ae (Dh QbC rfl (Fb rfl T.range (Aa (Cp Bh hr (Aa (pv 0) (Aa (pv 1) Ab))) Ab)) (Aj (i:=10) BW.nd rfl (Or.inl rfl))
 (Ah (Cr (BJ Qan Qai Qaj Cu (pv 9) (Aa (Dt Xf hr (Aa (pv 0) (Aa (pv 5) (Aa (pv 2) Ab)))) Ab)))))
 (Ae (Ax (i:=11) BW.nd rfl (Or.inl rfl) (Ay (Uv rfl) rfl T.max Xy (Aa (Cm (N':=JH) rfl (Bs.plain rfl (by trivial) (by trivial) (by trivial)) (Ey (pv 9)) (λ_ _ _ _=>(Aj (i:=0) (show List.Nodup (JH:YF) by trivial) rfl (Or.inl rfl))) (λ_ _ _ _=>CW) (λ_ _ _ _=>(Ay (cD (K:=K) rfl rfl) rfl T.max Xy (Aa (Ca fP hr (Aa (pv 0) Ab)) Ab)))) Ab)))
 (Ae (Ax (i:=12) BW.nd rfl (Or.inl rfl) (BZ Ab))
 (Ae (Dh QbC rfl (Ey (pv 9)) (Aj (i:=13) BW.nd rfl (Or.inl rfl))
 (Ah (Dh QbC rfl (Ds (pv 13)) (Di rfl (Av (Aj (i:=14) BW.nd rfl (Or.inl rfl)) (Av (Aj (i:=15) BW.nd rfl (Or.inl rfl)) (Av (Aj (i:=16) BW.nd rfl (Or.inl rfl)) Ck))))
 (Ah (Cr (BJ Qan Qal Qam Lp (pv 12) (Aa (Cm (N':=xi) rfl (Bs.plain rfl (by trivial) (by trivial) (by trivial)) (Ds (Aw Nk (CZ (Aa (CZ (Aa (pv 14) (Aa (pv 15) Ab))) Ab)) (pv 16))) (λ_ _ _ _=>(Pz (K:=K) (n:=2) rfl rfl (Av (Aj (i:=0) (show List.Nodup (xi:YF) by trivial) rfl (Or.inl rfl)) (Av (Aj (i:=1) (show List.Nodup (xi:YF) by trivial) rfl (Or.inl rfl)) Ck)))) (λ_ _ _ _=>(O2 (Bp (aX (K:=K) rfl) (pv 0) (CZ (Aa Ai (Aa Ai Ab))) (by with_unfolding_all rfl)))) (λ_ _ _ _=>(pv 1))) Ab)))))))
 (Ae (Ax (i:=17) BW.nd rfl (Or.inl rfl) (BZ Ab))
 (Ae (Ax (i:=18) BW.nd rfl (Or.inl rfl) (Cp fQ hr (Aa (pv 0) (Aa (Cp Bh hr (Aa (pv 0) (Aa Ad Ab))) Ab))))
 (Ae (Dh QbC rfl (Ey (pv 18)) (Aj (i:=19) BW.nd rfl (Or.inl rfl))
 (Ae (Ax (i:=20) BW.nd rfl (Or.inr rfl) (Ay Xv rfl T.sorted gR (Aa (Cm (N':=xx) rfl (Bs.of (src:=[none,some 0]) (Al Jk) xf rfl rfl rfl (by trivial) (by trivial) (by trivial) rfl (by trivial)) (Ey (pv 12)) (λ_ _ _ _=>(Aj (i:=0) (show List.Nodup (xx:YF) by trivial) rfl (Or.inl rfl))) (λ_ _ _ _=>(O2 (Bp Dz (Cp Bh hr (Aa (pv 1) (Aa Ad Ab))) Ad (Bx _)))) (λ_ _ _ _=>(pv 0))) Ab)))
 (Ae (S6 (i:=12) BW.nd rfl (Or.inl rfl) (N':=["_law_number","_law_some"]) rfl (Bs.of (src:=[none,some 20]) (Al Jk) xf rfl rfl rfl (by trivial) (by trivial) (by trivial) rfl (by trivial)) (Ey (pv 12)) (λ_ _ _ _=>(Aj (i:=0) (show List.Nodup (["_law_number","_law_some"]:YF) by trivial) rfl (Or.inl rfl))) (λ_ _ _ _=>(O2 (Bp (N5 (K:=K) rfl) (pv 0) (pv 1) (by with_unfolding_all rfl)))) (λ_ _ _ _=>(pv 0)))
 (Ah (BP (Bp aY (Ay Dc rfl T.len Ep (Aa (pv 20) Ab)) Ad (Bx _)) (Ah (Cr (BJ Qan Qai Qaj Cu (pv 17) (Aa (CZ (Aa (pv 19) (Aa (Cj Cy rfl T.tuple Dy (Aa (pv 20) Ab)) Ab))) Ab)))) Bq)))))
 (Ah (Bc (CZ (Aa (Ay (Uu rfl) rfl T.min gU (Aa Ad (Aa (Aw Dj (pv 11) (Cp Bh hr (Aa (pv 0) (Aa Ad Ab)))) Ab))) (Aa (Cj Cy rfl T.tuple Dy (Aa (pv 9) Ab)) (Aa (Cj Cy rfl T.tuple Dy (Aa (pv 17) Ab)) Ab))))))))))))))))))))),?_⟩
 show let R0:TS:=_;let R1:TS:=_;let R2:TS:=Ec _ R1 _;let R3:TS:=Ar _ R2;let R4:TS:=Ar _ R3;let R5:TS:=Ar (Et _ _ R4) R0;let R6:TS:=Ar _ R5;let R7:TS:=Ar _ R6;let R8:TS:=_;let R9:TS:=Et _ _ R8;let R10:TS:=Ar (Et _ _ R9) R7;let R11:TS:=Ar _ R10;let R12:TS:=Ar _ R11;let R13:TS:=_;let R14:TS:=Ar (Et _ _ R13) R12;let R15:TS:=Ar _ R14;let R16:TS:=Ar _ R15;let R17:TS:=Ar _ R16;let R18:TS:=Ar _ R17;let R19:TS:=Ar _ R18;let R20:TS:=Ar _ R19;let R21:TS:=Ar _ R20;Ar _ R21 _ _ _;intro R0 R1 R2 R3 R4 R5 R6 R7 R8 R9 R10 R11 R12 R13 R14 R15 R16 R17 R18 R19 R20 R21;generalize hst:L2.start _ _=σ0;have e0:σ0=[js b,some (.int ml),some (.int mp),none,none,none,none,none,none,none,none,none,none,none,none,none,none,none,none,none,none]:=hst.symm;clear hst;subst e0;refine⟨_,rq,b,n,99,rq,hb,by omega,by decide,by decide,λr1 H1 r10 r11 hb1 sb1=>?_⟩;simp only[QaP,QaO];refine⟨Am (by show 9<=1000;decide),λl9 hl9=>?_⟩;have s9:=Af hl9 (.lst [.int 1,.int 2,.int 4,.int 5,.int 7,.int 8,.int 10,.int 13,.int 98]);refine⟨_,rq,b,_,9,rq,hb1.same s9,by omega,by decide,by decide,λr2 H2 r20 r21 hb2 sb2=>?_⟩;obtain⟨sd,esd,⟨sd0,sd1⟩,sdk⟩:=Ch r20 r21 (a:=1) (b:=2) (c:=4) (d:=5) (e:=7) (f:=8) (g:=10) (h:=13) (k:=98) (λp=>(0<=p/\p<=98)/\DY p) (by unfold DY;decide) (by unfold DY;decide) (by unfold DY;decide) (by unfold DY;decide) (by unfold DY;decide) (by unfold DY;decide) (by unfold DY;decide) (by unfold DY;decide) (by unfold DY;decide);refine⟨l9,_,_,_,rq,rq,SqL.of (sb2 _ _ Ac (hb1.nb hl9).symm),esd,?_⟩;simp only[QaP,QaO];have sB2:Ag b H H2:=(sb1.trans (Ag.of s9)).trans sb2;refine⟨_,rq,by decide,by decide,λnb lZ=>?_⟩;have nbn:b≠nb:=hb2.nb lZ;have fnb:H nb=none:=sB2.free hb2.ex lZ;let J0:YN:=λi σ HH=>∃(u:Option V) (ns:List Int),σ=[u,some (.int r1),some (.int sd)]/\HH=upd H2 nb (.lst (ns.map V.int))/\ns=Ml r1 sd i;refine NK J0 ⟨none,[],rq,rq,rq⟩ (λi σ HH hi h=>?_) (fun σ HH h=>?_)
 ·obtain⟨u,ns,rfl,rfl,e1⟩:=h;have hi:i < 30:=hi;have e1l:ns.length=i:=by rw[e1];unfold Ml;rw[Qbw,List.length_range]
  refine⟨_,rq,_,rq,_,rq,_,_,rq,rq,.inl ⟨by omega,by omega⟩,_,_,rq,rq,_,_,rq,rq,(by show (0:Int) < 99;decide),_,_,rq,rq,_,Ac,Bb (by rw[Qbw];omega),_,ns++[(r1+sd*(0+(i:Int))) % 99+1],rq,?_,by rw[eG,e1]⟩;rw[Zc,Qbx];rfl
 obtain⟨u,jV,rfl,rfl,e30⟩:=h;have mJ:jV=Ml r1 sd 30:=e30;have e30:jV.length=30:=by rw[mJ];unfold Ml;rw[Qbw,List.length_range]
 simp only[QaP,QaO];cases jV with
 | nil=>cases e30
 | cons own G9=>
 have e29:G9.length=29:=by simpa using e30
 have vQ:(own::G9).Nodup:=by rw[mJ];exact pJ sdk
 have vR:∀x∈own::G9,1<=x/\x<=99:=by rw[mJ];exact pK r1 sd 30
 have sN:=Af lZ (.lst ((own::G9).map V.int));refine⟨_,rq,.inl ⟨rq,_,SqL.of Ac⟩,nb,_,0,0,.int own,rq,rq,Ac,by decide,by decide,dI (by rw[Qbw];show 0 < _+1;omega),rq,?_⟩;simp only[QaP,QaO];have ud:upd (upd H2 nb (.lst ((own::G9).map V.int))) nb (.lst (((own::G9).map V.int).eraseIdx 0)) nb=some (.lst (G9.map V.int)):=by rw[Ac];rfl
 have hb4:Bo (upd (upd H2 nb (.lst ((own::G9).map V.int))) nb (.lst (((own::G9).map V.int).eraseIdx 0))) b (n+1+1):=(hb2.same sN).FP Ag.upd nbn;have sB4:Ag b H (upd (upd H2 nb (.lst ((own::G9).map V.int))) nb (.lst (((own::G9).map V.int).eraseIdx 0))):=Ag.M9 (sB2.trans (Ag.of sN)) Ag.upd fnb;generalize upd (upd H2 nb (.lst ((own::G9).map V.int))) nb (.lst (((own::G9).map V.int).eraseIdx 0))=H4 at ud hb4 sB4;refine⟨Am (by show 0<=1000;decide),λf0 hf0=>?_⟩;simp only[QaP,QaO];have s5:=Af hf0 (.tup []);refine⟨b,nb,f0,_,mp,G9,rq,rq,rq,rq,Ac,hb4.same s5,by omega,nbn,s5 _ _ ud,AF,hmp,by omega,λft fv fp ns1 H5 hft hfp um hfl AC AD hb5 s45=>?_⟩;simp only[QaP,QaO];have sB5:Ag b H H5:=λc o e nc=>s45 _ _ (s5 _ _ (sB4 _ _ e nc)) nc (λz=>by rw[z,fnb] at e;cases e);have lfv:=QbR hfp;refine⟨_,rq,_,rq,ft,_,rq,.inr (SqT.of hft),_,_,rq,rq,b,_,_,rq,hb5,by omega,by omega,by omega,λr4 H6 r40 r41 hb6 sb6=>?_⟩;simp only[QaP,QaO];obtain⟨an,han⟩ : ∃an:Nat,r4=an:=⟨r4.toNat,by omega⟩;subst han;have ug:=(sb6.tup hb5.Ja) _ _ hft;have uh:=Pn.tups (sb6.tup hb5.Ja) hfp;have tZ:=sb6 _ _ AD nbn.symm;have sB6:=sB5.trans sb6;refine⟨_,rq,_,rq,_,rq,ft,fv,rq,ug,λp1 H7 hp1 s7=>?_⟩;rw[gC (by omega)] at hp1;refine⟨_,rq,Am (by show 0<=1000;decide),λe0 he0=>⟨Am (by show 3<=1000;decide),λt3 ht3=>⟨Am (by show 1<=1000;decide),λt1 ht1=>?_⟩⟩⟩;have q1:=Af he0 (.tup []);have q2:=Af ht3 (.tup [.str "seeker",.int own,.ref e0]);have q3:=Af ht1 (.tup [.ref t3]);have q13:=(q1.trans q2).trans q3;have hown:Ei (upd (upd (upd H7 e0 (.tup [])) t3 (.tup [.str "seeker",.int own,.ref e0])) t1 (.tup [.ref t3])) (.ref t3) ⟨"seeker",own,[]⟩:=⟨t3,e0,[],rq,q3 _ _ Ac,q3 _ _ (q2 _ _ Ac),.nil⟩;refine⟨p1,t1,_,_,rq,rq,q13 _ _ hp1,Ac,Am (by rw[Qbn];show _+1<=1000;omega),λp2 H8 hp2 s8=>?_⟩;have s68:=(s7.trans q13).trans s8;refine⟨_,rq,_,rq,_,rq,ft,fv,rq,s68 _ _ ug,λp3 H9 hp3 s9'=>?_⟩;rw[Lf (by omega)] at hp3;refine⟨p2,p3,_,_,rq,rq,s9' _ _ hp2,hp3,Am (by rw[QaM,Qbn,Qbq];show _+1+_<=1000;omega),λp4 H10 hp4 s10=>⟨Am (by show 1<=1000;decide),λll hll=>?_⟩⟩;simp only[QaP,QaO];have Wg:=(s68.trans s9').trans s10;have s11:=Af hll (.lst [.ref p4]);have Wf:=Wg.trans s11;have hL0:LoopAt (upd H10 ll (.lst [.ref p4])) (.ref p4) ((fp.take an++[⟨"seeker",own,[]⟩])++fp.drop an):=by
  refine⟨p4,_,rq,s11 _ _ hp4,Paired.app (Paired.app (Pn.tups (Ba.of Wf) (Paired.nq an uh)) (.cons ?_ .nil)) (Pn.tups (Ba.of Wf) (Paired.nU an uh))⟩;exact hown.tups (Ba.of (((s8.trans s9').trans s10).trans s11))
 have sI:OkL ((fp.take an++[⟨"seeker",own,[]⟩])++fp.drop an):=by
  refine⟨?_,?_,λp hp=>?_⟩
  ·rw[QaM,QaM];show 1<=_+1+_;omega
  ·rw[QaM,QaM,Qbn,Qbq];show _+1+_<=12;omega
  ·rcases Qby.mp hp with z | z
   ·rcases Qby.mp z with z | z
    ·exact um p (QaG z)
    ·have:p=⟨"seeker",own,[]⟩:=by simpa using z
     rw[this];exact⟨by show 0<=3;decide,(λd hd=>by cases hd),.inr (.inl rfl)⟩
   ·exact um p (List.mem_of_mem_drop z)
 have pm0:(adL ((fp.take an++[⟨"seeker",own,[]⟩])++fp.drop an)++ns1).Perm (own::G9):=by
  have h2:adL fp=adL (fp.take an)++adL (fp.drop an):=by rw[<-Ju,QaC]
  have h3:adL [(⟨"seeker",own,[]⟩ : Place)]=[own]:=by
   have:adP ⟨"seeker",own,[]⟩=[own]:=if_neg (Jb (.inl rfl));show [(⟨"seeker",own,[]⟩ : Place)].flatMap adP=[own];simp[this]
  rw[Ju,Ju,h3,AC,h2,Qba,Qba,Qba];exact (List.perm_middle (l₁:=adL (fp.take an)) (a:=own) (l₂:=adL (fp.drop an)++ns1))
 have wJ:1<=(adL ((fp.take an++[⟨"seeker",own,[]⟩])++fp.drop an)).length:=by
  have h3:adL [(⟨"seeker",own,[]⟩ : Place)]=[own]:=by
   have:adP ⟨"seeker",own,[]⟩=[own]:=if_neg (Jb (.inl rfl));show [(⟨"seeker",own,[]⟩ : Place)].flatMap adP=[own];simp[this]
  rw[Ju,Ju,h3,QaM,QaM];show 1<=_+1+_;omega
 generalize DT:(fp.take an++[⟨"seeker",own,[]⟩])++fp.drop an=L0 at hL0 sI pm0 wJ;have hbL:Bo (upd H10 ll (.lst [.ref p4])) b (n+1+1+101+1):=hb6.same Wf;have tY:=Wf _ _ tZ;have sBL:Ag b H (upd H10 ll (.lst [.ref p4])):=sB6.trans (Ag.of Wf);have uf:upd H10 ll (.lst [.ref p4]) ll=some (.lst [.ref p4]):=Ac;have fll:H ll=none:=(sB6.trans (Ag.of Wg)).free (hb6.same Wg).ex hll;have nbl:b≠ll:=(hb6.same Wg).nb hll;have nnl:nb≠ll:=Aq (Wg _ _ tZ) hll;generalize upd H10 ll (.lst [.ref p4])=HL at hL0 hbL tY sBL uf;refine⟨_,rq,_,rq,b,_,_,rq,hbL,by omega,by omega,by omega,λr5 HM r50 r51 hbM sbM=>⟨_,rq,by omega,by omega,?_⟩⟩;obtain⟨lnn,AG⟩ : ∃lnn:Nat,r5=lnn:=⟨r5.toNat,by omega⟩;subst AG;rw[Qbj];have tM:=sbM.tup hbL.Ja;have xQ:∀ps∈[L0],OkL ps:=λps hps=>by
  have:ps=L0:=by simpa using hps
  rw[this];exact sI
 let J1:YN:=λi σ HH=>∃(u10:Option V) (vs:YG) (ja:YU) (ns':List Int),σ=[js b,some (.int ml),some (.int mp),some (.int r1),some (.int sd),js nb,some (.int own),js ft,some (.int (an:Int)),js ll,u10,none,none,none,none,none,none,none,none,none,none]/\HH ll=some (.lst vs)/\Paired (LoopAt HH) vs ja/\ja.length=1+i/\(∀ps∈ja,OkL ps)/\((BX ja++ns').Perm (own::G9)/\∃L,ja=L0::L)/\HH nb=some (.lst (ns'.map V.int))/\Bo HH b (n+105+101*i)/\Ag b H HH;refine Gz J1
  ⟨_,[.ref p4],[L0],ns1,rq,sbM _ _ uf nbl.symm,.cons (hL0.tups tM) .nil,rq,xQ,⟨(by show ([L0].flatMap adL++_).Perm _;simpa using pm0),[],rq⟩,sbM _ _ tY nbn.symm,hbM.mono (by omega),sBL.trans sbM⟩ (λi σ HH hi h=>?_) (fun σ HH h=>?_)
 ·obtain⟨u10,vs,ja,ns',rfl,e1,e2,e3,e4,⟨e5p,Lr,hLr⟩,e6,e7,e8⟩:=h;have e5:(BX ja).length+ns'.length=30:=by
   have:=e5p.length_eq;rw[QaM,Qbo,e29] at this;exact this
  simp only[QaP,QaO];refine⟨_,rq,.inl ⟨rq,_,SqL.of e1⟩,_,rq,_,rq,_,rq,b,nb,_,mp,ns',rq,e7,by omega,nbn,e6,by omega,by omega,by omega,λt ps xR H' hL hok h1 h2 hns hnb' hb' s2=>?_⟩;have e1':=s2 _ _ e1 nbl.symm nnl.symm;have t2:Ba HH H':=λc xs e=>s2 _ _ e (λz=>e7.Ja _ (z ▸ e)) (λz=>by rw[z,e6] at e;cases e);refine⟨ll,_,_,rq,rq,e1',Bb (by rw[QbR e2];omega),?_⟩;have tv0:∀zs,H' ll≠some (.tup zs):=λzs z=>by rw[e1'] at z;cases z
  have tv:=Ba.upd (o:=.lst (vs++[.ref t])) tv0;refine⟨_,vs++[.ref t],ja++[ps],xR,rq,Ac,Qch (hL.tups tv) (Ln.tups tv (Ln.tups t2 e2)),by rw[QaM,e3];show _+1=_;omega,λp hp=>?_,?_,by rw[Az nnl];exact hnb',(hb'.FP Ag.upd nbl).mono (by omega),λc o e nc=>?_⟩
  ·rcases Qby.mp hp with z | z
   ·exact e4 p z
   ·have:p=ps:=by simpa using z
    rw[this];exact⟨h1,by omega,hok⟩
  ·refine⟨?_,Lr++[ps],by rw[hLr];rfl⟩;rw[UJ,Qba,<-hns];exact e5p
  ·rw[Az (λz=>by rw[z,fll] at e;cases e)];exact s2 _ _ (e8 _ _ e nc) nc (λz=>by rw[z,fnb] at e;cases e)
 obtain⟨u10,vs,ja,ns',rfl,e1,e2,e3,e4,⟨e5p,fM⟩,e6,e7,e8⟩:=h;have e5:(BX ja).length+ns'.length=30:=by
  have:=e5p.length_eq;rw[QaM,Qbo,e29] at this;exact this
 have lvs:=QbR e2;have ndA:(BX ja).Nodup:=(Qbh.mp (e5p.nodup_iff.mpr vQ)).1;have bdA:∀x∈BX ja,1<=x/\x<=99:=λx hx=>vR x (e5p.mem_iff.mp (QaF _ hx));have qL:=Od e4;refine⟨_,rq,ll,rq,⟨_,SqL.of e1⟩,λlm hlm=>?_⟩;have nlm:ll≠lm:=Aq e1 hlm;let J2:YN:=λi σ H'=>∃(u:Option V) (ms:List Int),σ=[u]/\H' lm=some (.lst (ms.map V.int))/\ms.length=i/\Same HH H'/\∀ps∈ja.take i,∀m∈Hw ps,∃M∈ms,m<=M;refine Fo (xs:=vs) J2 ⟨none,[],rq,Ac,rq,Af hlm _,(λps hps=>by cases hps)⟩ (λi σ H' _ h=>?_) (λi x σ H' hx h=>?_) (fun σ H' h=>?_)
 ·obtain⟨u,ms,rfl,m1,m2,m3,m4⟩:=h;exact SqL.of (m3 _ _ e1)
 ·obtain⟨u,ms,rfl,m1,m2,m3,m4⟩:=h;obtain⟨ps,hps,hL⟩:=Paired.Ed e2 hx;obtain⟨tx,wx,rfl,hx1,hx2⟩:=id hL;have okl:=e4 ps (QaE hps);refine⟨_,rq,tx,ps,rq,hL.tups (Ba.of m3),okl.ok,by have:=okl.hi;omega,λlq H'' hq s'=>⟨lq,Hw ps,rq,SqL.of hq,(by unfold Hw;rw[QaM];show 0 < _+1;omega),λM hMi hMm=>?_⟩⟩;have hi:=(Qaf.mp hx).1;refine⟨_,s' _ _ m1,Bb (by rw[Qbw];omega),_,ms++[M],rq,by rw[Ac,Qbx];rfl,by rw[QaM,m2];rfl,(m3.trans s').CQ Ag.upd hlm,λqs hqs m hm=>?_⟩;rw[Qcn hps] at hqs;rcases Qby.mp hqs with hqs | hqs
  ·obtain⟨M',h1,h2⟩:=m4 qs hqs m hm;exact⟨M',QaF _ h1,h2⟩
  ·have:qs=ps:=by simpa using hqs
   rw[this] at hm;exact⟨M,Qaw _ (QaN ..),hMm m hm⟩
 obtain⟨u,ms,rfl,m1,m2,m3,m4⟩:=h;refine⟨lm,ms,rq,SqL.of m1,by omega,λM hMi hMm=>?_⟩;have tH:∀ps∈ja,∀m∈Hw ps,m<=M:=λps hps m hm=>by
  obtain⟨M',h1,h2⟩:=m4 ps (by rw[lvs,Qbp];exact hps) m hm;have:=hMm M' h1;omega
 simp only[QaP,QaO];have e1:=m3 _ _ e1;have e2:=Ln.tups (Ba.of m3) e2;have e7:=e7.same m3;have e8:=e8.trans (Ag.of m3);clear m1 m2;refine⟨Am (by show 0<=1000;decide),λlt hlt=>?_⟩;simp only[QaP,QaO];have sT:=Af hlt (.lst []);have nbt:b≠lt:=e7.nb hlt;refine⟨_,rq,ll,rq,⟨_,SqL.of (sT _ _ e1)⟩,?_⟩;let J3:YN:=λi σ HT=>∃(u13 u14 u15 u16:Option V) (ts:List Int),σ=[js b,some (.int ml),some (.int mp),some (.int r1),some (.int sd),js nb,some (.int own),js ft,some (.int (an:Int)),js ll,u10,some (.int M),js lt,u13,u14,u15,u16,none,none,none,none]/\HT lt=some (.lst (ts.map V.int))/\ts=EY (ja.take i)/\Same H' HT;refine Q5 (xs:=vs) J3 ⟨_,_,_,_,[],rq,Ac,rq,sT⟩ (λi σ HT _ h=>?_) (λi x σ HT hx h=>?_) (fun σ HT h=>?_)
 ·obtain⟨u13,u14,u15,u16,ts,rfl,t1,t2,t3⟩:=h;exact SqL.of (t3 _ _ e1)
 ·obtain⟨u13,u14,u15,u16,ts,rfl,t1,t2,t3⟩:=h;simp only[QaP,QaO];obtain⟨ps,hps,hL⟩:=Paired.Ed e2 hx;obtain⟨tx,wx,rfl,hx1,hx2⟩:=id hL;have okl:=e4 ps (QaE hps);have lwx:=QbR hx2;have etk:BX (ja.take (i+1))=BX (ja.take i)++adL ps:=by rw[Qcn hps,UJ]
  have tot:(BX (ja.take (i+1))).length<=30:=by
   have:BX ja=BX (ja.take (i+1))++BX (ja.drop (i+1)):=by unfold BX;rw[<-QaJ,QaC]
   have h2:=congrArg List.length this;rw[QaM] at h2;omega
  rw[etk,QaM] at tot;have wle:(EY (ja.take i)).length<=(BX (ja.take i)).length:=(Od λqs hqs=>e4 qs (QaG hqs)).length_le;have wtk:EY (ja.take (i+1))=EY (ja.take i)++Hy ps:=by rw[Qcn hps,Z6]
  refine⟨_,rq,tx,rq,⟨_,SqT.of (t3 _ _ hx1)⟩,?_⟩;let J4:YN:=λj σ HT=>∃(u14 u15 u16:Option V) (ts:List Int),σ=[js b,some (.int ml),some (.int mp),some (.int r1),some (.int sd),js nb,some (.int own),js ft,some (.int (an:Int)),js ll,u10,some (.int M),js lt,js tx,u14,u15,u16,none,none,none,none]/\HT lt=some (.lst (ts.map V.int))/\ts=EY (ja.take i)++Hy (ps.take j)/\Same H' HT;refine G4 (xs:=wx) J4 ⟨_,_,_,ts,rq,t1,(by rw[t2];show _=_++[];rw[QbA]),t3⟩ (λj σ HT _ h=>?_) (λj y σ HT hy h=>?_) (fun σ HT h=>?_)
  ·obtain⟨u14,u15,u16,ts,rfl,t1,t2,t3⟩:=h;exact SqT.of (t3 _ _ hx1)
  ·obtain⟨u14,u15,u16,ts,rfl,t1,t2,t3⟩:=h;obtain⟨p,hp,hP⟩:=Paired.Ed hx2 hy;obtain⟨tp,up,wp',rfl,hp1,hp2,hp3⟩:=hP.tups (Ba.of t3);have okp:=okl.ok p (QaE hp);have etj:adL (ps.take (j+1))=adL (ps.take j)++adP p:=by rw[Qcn hp,Ra]
   have tj:(adL (ps.take (j+1))).length<=(adL ps).length:=by
    have:adL ps=adL (ps.take (j+1))++adL (ps.drop (j+1)):=by rw[<-Ju,QaC]
    have h2:=congrArg List.length this;rw[QaM] at h2;omega
   rw[etj,QaM] at tj;have wlj:(Hy (ps.take j)).length<=(adL (ps.take j)).length:=(Qp λqs hqs=>okl.ok qs (QaG hqs)).length_le;have wtj:Hy (ps.take (j+1))=Hy (ps.take j)++G8 (Fw p):=by rw[Qcn hp,cX]
   have t2l:ts.length<=(BX (ja.take i)).length+(adL (ps.take j)).length:=by rw[t2,QaM];omega
   refine⟨tp,_,rq,SqT.of hp1,rq,_,_,rq,_,_,rq,_,_,rq,rq,?_⟩;simp only[QaP,QaO];refine⟨_,rq,.inl ⟨rq,_,SqL.of t1⟩,_,rq,_,rq,Am (by show 2<=1000;decide),λta hta=>⟨Am (by show 1<=1000;decide),λtb htb=>?_⟩⟩;have v1:=Af hta (.tup [.str p.kind,.int p.addr]);have v2:=Af htb (.tup [.ref ta]);have v12:=v1.trans v2;refine⟨_,rq,tb,up,_,_,rq,rq,Ac,v12 _ _ hp2,Am (by have:=okp.spur;show 1+_<=1000;rw[QbR hp3];omega),λtc HC hC sC=>⟨tc,rq,⟨_,SqT.of hC⟩,λl hl=>?_⟩⟩;have vC:=v12.trans sC;have hds:Paired (Jg HC) ([.ref ta]++wp') (⟨p.kind,p.addr⟩::p.spur):=.cons ⟨ta,rq,sC _ _ (v2 _ _ Ac)⟩ (Paired.Cd hp3 λ_ _ z=>z.tups (Ba.of vC));have lds:=QbR hds;let J5:YN:=λk σ H5=>∃(u v:Option V) (ys:List Int),σ=[u,v]/\H5 l=some (.lst (ys.map V.int))/\ys=G8 ((Fw p).take k)/\Same HC H5;refine Js (xs:=[.ref ta]++wp') J5 ⟨none,none,[],rq,Ac,rq,Af hl _⟩ (λk σ H5 _ h=>?_) (λk x σ H5 hk h=>?_) (fun σ H5 h=>?_)
   ·obtain⟨u,v,ys,rfl,y1,y2,y3⟩:=h;exact SqT.of (y3 _ _ hC)
   ·obtain⟨u,v,ys,rfl,y1,y2,y3⟩:=h;obtain⟨d,hd,td,rfl,htd⟩:=Paired.Ed hds hk;have hkl:=(Qaf.mp hd).1;have hsp:=okp.spur;have hkk:k < 4:=by rw[Qbo] at hkl;omega
    have hdv:(Fw p)[k]?=some d:=hd;have hws:G8 ((Fw p).take (k+1))=G8 ((Fw p).take k)++(if Pb d.kind=true then [d.addr] else []):=by rw[Qcn hdv,cY]
    have y2l:ys.length<=k:=by
     rw[y2];have:=(Zb (ds:=(Fw p).take k)).length_le;rw[Qbw,Qbn] at this;omega
    refine⟨td,_,rq,SqT.of (y3 _ _ htd),rq,_,_,rq,_,_,rq,rq,?_⟩;refine⟨_,rq,Am (by show 2<=1000;decide),λtq htq=>?_⟩;have vq:=Af htq (.tup [.str "seeker",.str "knob"]);refine⟨tq,_,rq,.inr (SqT.of Ac),rq,rq,_,rq,Jr (λcc=>?_) (λcc=>?_)⟩
    ·have cc:Pb d.kind=true:=cc;rw[if_pos cc] at hws;refine⟨_,rq,_,vq _ _ y1,Bb (by rw[Qbw];omega),_,_,ys++[d.addr],rq,by rw[Ac,Qbx];rfl,by rw[hws,y2],(y3.trans vq).CQ Ag.upd hl⟩
    ·have cc:¬Pb d.kind=true:=cc;rw[if_neg cc,QbA] at hws;refine⟨_,_,ys,rq,vq _ _ y1,by rw[hws];exact y2,y3.trans vq⟩
   obtain⟨u,v,ys,rfl,y1,y2,y3⟩:=h;have y2':ys=G8 (Fw p):=by
    rw[y2,lds];congr 1;exact Qbp ..
   have y2l:ys.length<=(adP p).length:=by rw[y2'];exact (VD okp).length_le
   have t1':=y3 _ _ (vC _ _ t1);refine⟨lt,l,_,_,rq,rq,t1',y1,Am (by rw[Qbw,Qbw];omega),?_⟩;refine⟨_,_,_,ts++ys,rq,by rw[Ac,Qbx],?_,((t3.trans vC).trans y3).CQ Ag.upd hlt⟩;rw[wtj,t2,y2',Qba]
  ·obtain⟨u14,u15,u16,ts,rfl,t1,t2,t3⟩:=h;rw[lwx,Qbp] at t2;exact⟨_,_,_,_,ts,rq,t1,by rw[wtk];exact t2,t3⟩
 obtain⟨u13,u14,u15,u16,ts,rfl,t1,t2,t3⟩:=h;rw[lvs,Qbp] at t2;have ji:ts.length<=30:=by rw[t2];have:=qL.length_le;omega
 have zk0:NQ (EY ja) ts [] []:=by
  rw[t2];exact⟨qL.nodup ndA,(λx hx=>hx),(λz hz=>by cases hz),List.Sublist.refl _⟩
 have e1:=t3 _ _ e1;have e2:=Ln.tups (Ba.of t3) e2;have e7:=e7.same t3;have e8:=e8.trans (Ag.of t3);refine⟨Am (by show 0<=1000;decide),λlz hlz=>?_⟩;simp only[QaP,QaO];have sZ:=Af hlz (.lst []);have nzl:ll≠lz:=Aq e1 hlz;have nzt:lt≠lz:=Aq t1 hlz;have nzb:b≠lz:=e7.nb hlz;have flz:H lz=none:=e8.free e7.ex hlz;refine⟨_,rq,_,rq,b,_,5,rq,e7.same sZ,by omega,by decide,by decide,λr6 HU r60 r61 hbU sU=>?_⟩;obtain⟨rn,hrn⟩ : ∃rn:Nat,r6=rn:=⟨r6.toNat,by omega⟩;subst hrn;refine⟨b,_,rn,rq,hbU,by omega,by omega,λln ys HV hln ly hys wQ bU hbV sV=>?_⟩;simp only[QaP,QaO];have sUV:Ag b _ HV:=((Ag.of sZ).trans sU).trans sV;have nzn:ln≠lz:=λz=>by rw[z,sU _ _ Ac nzb.symm] at hln;cases hln
 have e1:=sUV _ _ e1 nbl.symm;have e2:=Ln.tups (sUV.tup e7.Ja) e2;have e8:=e8.trans sUV;have hzV:HV lz=some (.lst []):=sV _ _ (sU _ _ Ac nzb.symm) nzb.symm;have t1:=sUV _ _ t1 nbt.symm;have hbV:=hbV.mono (show _<=n+500 by omega);have tl3:ja.length<=3:=by omega
 have nln:b≠ln:=hbU.nb hln;refine⟨_,rq,ln,rq,⟨_,SqL.of bU⟩,?_⟩;let J6:YN:=λi σ HH=>∃(lt:Addr) (u19 u20:Option V) (ts:List Int) (zs:YG),σ=[js b,some (.int ml),some (.int mp),some (.int r1),some (.int sd),js nb,some (.int own),js ft,some (.int (an:Int)),js ll,u10,some (.int M),js lt,u13,u14,u15,u16,js lz,js ln,u19,u20]/\HH lt=some (.lst (ts.map V.int))/\ts.length<=30/\b≠lt/\lt≠lz/\HH lz=some (.lst zs)/\(∃jp,Paired (Fp HH) zs jp/\NQ (EY ja) ts jp (ys.take i))/\HH ln=some (.lst (ys.map V.str))/\HH ll=some (.lst vs)/\Paired (LoopAt HH) vs ja/\Bo HH b (n+500+30*i)/\Ag b H HH;refine Q5 (xs:=ys.map V.str) J6
  ⟨lt,_,_,ts,[],rq,t1,ji,nbt,nzt,hzV,⟨[],.nil,zk0⟩,bU,e1,e2,hbV,e8⟩ (λi σ HH _ h=>?_) (λi x σ HH hx h=>?_) (fun σ HH h=>?_)
 ·obtain⟨lt,u19,u20,ts,zs,rfl,z1,z2,z3,z4,z5,z6,z7,z8,z9,z10,z11⟩:=h;exact SqL.of z7
 ·clear t1 t2 t3 ji nbt nzt hzV bU e1 e2 hbV e8;obtain⟨lt,u19,u20,ts,zs,rfl,z1,z2,z3,z4,z5,z6,z7,z8,z9,z10,z11⟩:=h;obtain⟨jp,zp,zk⟩:=z6;have wO:zs.length<=5:=by
   have h1:=QbR zp;have h2:=zk.nm.length_le;rw[Qbw,Qbn] at h2;omega
  obtain⟨yi,hyi,rfl⟩ : ∃yi,ys[i]?=some yi/\x=.str yi:=by
   rw[Qbc] at hx;obtain⟨yi,h1,h2⟩:=Qat.mp hx;exact⟨yi,h1,h2.symm⟩
  have ytk:ys.take (i+1)=ys.take i++[yi]:=Qcn hyi;have hil:i < 5:=by
   have:=(Qaf.mp hx).1;rw[Qbw] at this;omega
  simp only[QaP,QaO];refine⟨_,rq,lt,rq,⟨_,SqL.of z1⟩,λlc hlc=>?_⟩;have nbc:b≠lc:=z10.nb hlc;have ntc:lt≠lc:=Aq z1 hlc;have sC:=Af hlc (.lst []);let J7:YN:=λk σ HC=>∃(u:Option V) (ss:List Int),σ=[u,js b]/\HC lc=some (.lst (ss.map V.int))/\ss.Sublist (ts.take k)/\Bo HC b (n+500+30*i+k)/\Ag b HH HC;refine Fo (xs:=ts.map V.int) J7 ⟨none,[],rq,Ac,List.Sublist.refl _,z10.same sC,Ag.of sC⟩ (λk σ HC _ h=>?_) (λk x σ HC hk h=>?_) (fun σ HC h=>?_)
  ·obtain⟨u,ss,rfl,c1,c2,c3,c4⟩:=h;exact SqL.of (c4 _ _ z1 z3.symm)
  ·obtain⟨u,ss,rfl,c1,c2,c3,c4⟩:=h;have hkl:k < 30:=by
    have:=(Qaf.mp hk).1;rw[Qbw] at this;omega
   refine⟨_,rq,b,_,3,rq,c3,by omega,by decide,by decide,λr HD _ _ hbD sD=>⟨rq,_,rq,?_⟩⟩;have c1':=sD _ _ c1 nbc.symm;rw[Qbc] at hk;obtain⟨a,hka,rfl⟩:=Qat.mp hk;have tka:ts.take (k+1)=ts.take k++[a]:=Qcn hka;have ssl:ss.length<=k:=Qca c2.length_le (by rw[Qbn];omega);refine Jr (λcc=>?_) (λcc=>?_)
   ·refine⟨_,rq,_,c1',Bb (by rw[Qbw];omega),_,ss++[a],rq,by rw[Ac,Qbx];rfl,by rw[tka];exact c2.append (List.Sublist.refl _),hbD.FP Ag.upd nbc,Ag.M9 (c4.trans sD) Ag.upd hlc⟩
   ·exact⟨_,ss,rq,c1',by rw[tka];exact c2.trans (List.sublist_append_left ..),hbD,c4.trans sD⟩
  obtain⟨u,ss,rfl,c1,c2,c3,c4⟩:=h;rw[Qbw] at c2 c3;rw[Qbp] at c2;have ssl:ss.length<=30:=Qca c2.length_le z2;refine⟨lc,ss,rq,SqL.of c1,by omega,λms ls hperm wz hls=>?_⟩;simp only[QaP,QaO];have sS:=Af hls (.lst (ms.map V.int));have c5:Ag b HH (upd HC ls (.lst (ms.map V.int))):=c4.trans (Ag.of sS);have c6:=c3.same sS;have c7:(upd HC ls (.lst (ms.map V.int))) ls=some (.lst (ms.map V.int)):=Ac;generalize upd HC ls (.lst (ms.map V.int))=HS at c5 c6 c7;have lms:ms.length<=30:=by have:=hperm.length_eq;omega
  have z1:=c5 _ _ z1 z3.symm;refine⟨_,rq,lt,rq,⟨_,SqL.of z1⟩,λlw hlw=>?_⟩;have nbw:b≠lw:=c6.nb hlw;have nsw:ls≠lw:=Aq c7 hlw;have nzw:lw≠lz:=(Aq (c5 _ _ z5 nzb.symm) hlw).symm;let J8:YN:=λk σ HC=>∃(u:Option V) (ss:List Int),σ=[u,js ls]/\HC lw=some (.lst (ss.map V.int))/\ss=(ts.take k).filter (λx=>!decide (x∈ms))/\Same HS HC;refine Fo (xs:=ts.map V.int) J8 ⟨none,[],rq,Ac,rq,Af hlw _⟩ (λk σ HC _ h=>?_) (λk x σ HC hk h=>?_) (fun σ HC h=>?_)
  ·obtain⟨u,ss,rfl,d1,d2,d3⟩:=h;exact SqL.of (d3 _ _ z1)
  ·obtain⟨u,ss,rfl,d1,d2,d3⟩:=h;have hkl:k < 30:=by
    have:=(Qaf.mp hk).1;rw[Qbw] at this;omega
   rw[Qbc] at hk;obtain⟨a,hka,rfl⟩:=Qat.mp hk;have tka:(ts.take (k+1)).filter (λx=>!decide (x∈ms))=(ts.take k).filter (λx=>!decide (x∈ms))++[a].filter (λx=>!decide (x∈ms)):=by rw[Qcn hka,List.filter_append]
   have ssl:ss.length<=30:=by
    rw[d2];have h1:=List.length_filter_le (λx=>!decide (x∈ms)) (ts.take k);rw[Qbn] at h1;omega
   refine⟨_,rq,_,rq,ls,_,rq,.inl (SqL.of (d3 _ _ c7)),rq,gj ms,_,rq,Jr (λcc=>?_) (λcc=>?_)⟩
   ·have cc:(!inV (.int a) (ms.map V.int))=true:=cc;rw[QW] at cc;rw[show List.filter (λx=>!decide (x∈ms)) [a]=[a] from List.filter_cons_of_pos (p:=λx=>!decide (x∈ms)) cc] at tka
    refine⟨_,rq,_,d1,Bb (by rw[Qbw];omega),_,ss++[a],rq,by rw[Ac,Qbx];rfl,by rw[tka,d2],d3.CQ Ag.upd hlw⟩
   ·have cc:¬(!inV (.int a) (ms.map V.int))=true:=cc;rw[QW] at cc;rw[show List.filter (λx=>!decide (x∈ms)) [a]=[] from List.filter_cons_of_neg (p:=λx=>!decide (x∈ms)) cc] at tka
    exact⟨_,ss,rq,d1,by rw[tka,d2];exact (QbA _).symm,d3⟩
  obtain⟨u,ws,rfl,d1,d2,d3⟩:=h;rw[Qbw,Qbp] at d2;have wsl:ws.length<=30:=by rw[d2];exact Qca (List.length_filter_le _ _) z2
  simp only[QaP,QaO];have c8:=c5.trans (Ag.of d3);have z5:=c8 _ _ z5 nzb.symm;have z7:=c8 _ _ z7 nln.symm;have z8:=c8 _ _ z8 nbl.symm;have z9:=Ln.tups (c8.tup z10.Ja) z9;have zp:Paired (Fp HC) zs jp:=Paired.Cd zp λ_ _ z=>z.tups (c8.tup z10.Ja);have z10:=(c6.same d3).mono (show _<=n+500+30*(i+1) by omega);have z11:=z11.trans c8;have c7:=d3 _ _ c7;have zkn:(ms.map V.int).length=ms.length:=Qbw _;refine⟨_,rq,ls,_,rq,.inl (SqL.of c7),_,_,rq,rq,_,rq,Jr (λcc=>?_) (λcc=>?_)⟩
  ·refine⟨_,rq,.inl ⟨rq,_,SqL.of z5⟩,_,rq,_,rq,ls,_,rq,.inl ⟨SqL.of c7,λtt htt=>⟨Am (by show 2<=1000;decide),λta hta=>?_⟩⟩⟩;have f1:=Af htt (.tup (ms.map V.int));have f2:=Af hta (.tup [.str yi,.ref tt]);have f12:=f1.trans f2;have z5:=f12 _ _ z5;refine⟨lz,_,_,rq,rq,z5,Bb (by omega),?_⟩;have tz0:∀zs',(upd (upd HC tt (.tup (ms.map V.int))) ta (.tup [.str yi,.ref tt])) lz≠some (.tup zs'):=λzs' z=>by rw[z5] at z;cases z
   have tz:=Ba.upd (o:=.lst (zs++[.ref ta])) tz0;have AE:1<=ms.length:=by
    have cc:=Qbd cc;rw[zkn] at cc;omega
   have zp':Paired (Fp (upd (upd (upd HC tt (.tup (ms.map V.int))) ta (.tup [.str yi,.ref tt])) lz (.lst (zs++[.ref ta])))) (zs++[.ref ta]) (jp++[⟨yi,ms⟩]):=Qch ⟨ta,tt,rq,tz _ _ Ac,tz _ _ (f2 _ _ Ac)⟩ (Paired.Cd zp λ_ _ z=>(z.tups (Ba.of f12)).tups tz);have zk':NQ (EY ja) ws (jp++[⟨yi,ms⟩]) (ys.take (i+1)):=by rw[d2,ytk];exact zk.next hperm c2 wz lms AE
   exact⟨lw,_,_,ws,zs++[.ref ta],rq,by rw[Az nzw];exact f12 _ _ d1,by omega,nbw,nzw,Ac,⟨_,zp',zk'⟩,by rw[Az nzn];exact f12 _ _ z7,by rw[Az nzl];exact f12 _ _ z8,Ln.tups tz (Ln.tups (Ba.of f12) z9),(z10.same f12).FP Ag.upd nzb,Ag.M9 (z11.trans (Ag.of f12)) Ag.upd flz⟩
  ·exact⟨lw,_,_,ws,zs,rq,d1,by omega,nbw,nzw,z5,⟨jp,zp,by rw[d2,ytk];exact zk.none⟩,z7,z8,z9,z10,z11⟩
 clear t1 t2 t3 ji nbt nzt hzV bU e1 e2 hbV e8;obtain⟨lt,u19,u20,ts,zs,rfl,z1,z2,z3,z4,z5,z6,z7,z8,z9,z10,z11⟩:=h;rw[Qbw] at z10;obtain⟨jp,zp,zk⟩:=z6;rw[Qbw,Qbp] at zk;have wO:zs.length<=5:=by
  have h1:=QbR zp;have h2:=zk.nm.length_le;rw[Qbw] at h2;omega
 refine⟨_,rq,_,rq,b,_,3,rq,z10,by omega,by decide,by decide,λr7 HX _ _ hbX sX=>⟨_,_,rq,rq,_,_,rq,_,rq,ll,_,rq,.inl ⟨SqL.of (sX _ _ z8 nbl.symm),λtl htl=>?_⟩⟩⟩;have g1:=Af htl (.tup vs);refine⟨_,rq,lz,_,rq,.inl ⟨SqL.of (g1 _ _ (sX _ _ z5 nzb.symm)),λtz htz=>⟨Am (by show 3<=1000;decide),λt ht=>?_⟩⟩⟩;have g2:=Af htz (.tup zs);have g3:=Af ht (.tup [.int (if M+r7 < 30 then M+r7 else 30),.ref tl,.ref tz])
 have cg:=(g1.trans g2).trans g3;have cnt:1<=(BX ja).length:=by
  obtain⟨L,hL⟩ : ∃L,ja=L0::L:=fM;rw[hL];have:BX (L0::L)=adL L0++BX L:=by unfold BX;rw[Qbe]
  rw[this,QaM];omega
 have M1:1<=M:=by
  obtain⟨L,hL⟩ : ∃L,ja=L0::L:=fM;obtain⟨m,h1,h2⟩:=Zf (l:=Hw L0) (by rw[Ud];omega);have:=tH L0 (by rw[hL];exact QaN ..) m h1;omega
 have pok:iu (if M+r7 < 30 then M+r7 else 30) ja jp:=by
  refine⟨ndA,bdA,⟨cnt,by omega⟩,⟨by split <;> omega,by split <;> omega⟩,λps hps m hm=>?_,λz hz x hx=>?_,(Qbh.mp zk.nd).1,zk.up,?_,λz hz=>?_,zk.nm.nodup wQ⟩
  ·have h1:=tH ps hps m hm;have h2:=jN ps m hm;have h3:(adL ps).length<=(BX ja).length:=by
    exact ZK ja hps
   split <;> omega
  ·exact zk.sub x (QaF _ (Qbt.mpr ⟨z,hz,hx⟩))
  ·have h1:=QbR zp;omega
  ·exact hys z.name (zk.nm.subset (QbY.mpr ⟨z,hz,rq⟩))
 exact q t tl tz vs zs ja jp _ _ Ac (g3 _ _ (g2 _ _ Ac)) (Ln.tups (Ba.of cg) (Ln.tups (sX.tup z10.Ja) z9)) e4 (by omega) tl3 (g3 _ _ Ac) (Paired.Cd zp λ_ _ z=>(z.tups (sX.tup z10.Ja)).tups (Ba.of cg)) pok ((hbX.same cg).mono (by omega)) ((z11.trans sX).trans (Ag.of cg))
end
def TpK (K:YD) (H:Hp) (a:Addr) (xs:YG):Prop:=H a=some (.tup xs)\/(∀H':Hp,SqT K H' a xs)/\xs.length≠2
theorem TpK.sq {K:YD} {H:Hp} {a:Addr} {xs:YG} (h:TpK K H a xs):SqT K H a xs:=h.elim SqT.of λf=>f.1 H
theorem TpK.tups {K:YD} {H H':Hp} {a:Addr} {xs:YG} (h:TpK K H a xs) (s:Ba H H'):TpK K H' a xs:=h.imp (s _ _) id
theorem TpK.same {K:YD} {H H':Hp} {a:Addr} {xs:YG} (h:TpK K H a xs) (s:Same H H'):TpK K H' a xs:=h.tups (Ba.of s)
def Hu (K:YD) (H:Hp) (v:V) (p:Place):Prop:=∃t u vs,v=.ref t/\TpK K H t [.str p.kind,.int p.addr,.ref u]/\TpK K H u vs/\Paired (Jg H) vs p.spur
def Ly (K:YD) (H:Hp) (v:V) (ps:List Place):Prop:=∃t vs,v=.ref t/\H t=some (.tup vs)/\Paired (Hu K H) vs ps
theorem Hu.tups {K:YD} {H H':Hp} (s:Ba H H') {v:V} {d:Place} (h:Hu K H v d):Hu K H' v d:=by
 obtain⟨t,u,vs,e,q1,q2,q3⟩:=h;exact⟨t,u,vs,e,q1.tups s,q2.tups s,Paired.Cd q3 λ_ _ z=>z.tups s⟩
theorem Ly.tups {K:YD} {H H':Hp} (s:Ba H H') {v:V} {d:List Place} (h:Ly K H v d):Ly K H' v d:=by
 obtain⟨t,vs,e,q1,q2⟩:=h;exact⟨t,vs,e,s _ _ q1,Paired.Cd q2 λ_ _ z=>z.tups s⟩
theorem Ei.k {K:YD} {H:Hp} {v:V} {p:Place} (h:Ei H v p):Hu K H v p:=by
 obtain⟨t,u,vs,e,q1,q2,q3⟩:=h;exact⟨t,u,vs,e,.inl q1,.inl q2,q3⟩
theorem LoopAt.k {K:YD} {H:Hp} {v:V} {p:List Place} (h:LoopAt H v p):Ly K H v p:=by
 obtain⟨t,vs,e,q1,q2⟩:=h;exact⟨t,vs,e,q1,Paired.Cd q2 λ_ _ z=>z.k⟩
abbrev Iv:Stmt:=top 35
abbrev Fe:YF:=["loop","at","place"]
theorem CV:Bf ["loop","at","place","kind","address","spur","told","number","spur_kind","spur_address"] Fe (Al Iv):=by ac_rfl
structure Sd where
 lp:Int
 at_:Int
 n:Int
 kind:Str
 addr:Int
def Lh (H:Hp) (v:V) (d:Sd):Prop:=∃t u,v=.ref t/\H t=some (.tup [.ref u,.str d.kind,.int d.addr])/\H u=some (.tup [.int d.lp,.int d.at_,.int d.n])
theorem Lh.tups {H H':Hp} (s:Ba H H') {v:V} {d:Sd} (h:Lh H v d):Lh H' v d:=by
 obtain⟨t,u,e,q1,q2⟩:=h;exact⟨t,u,e,s _ _ q1,s _ _ q2⟩
def Ej (lp at_:Int):Nat->List Dev->List Sd
 | _,[]=>[]
 | n,d::r=>⟨lp,at_,n,d.kind,d.addr⟩::Ej lp at_ (n+1) r
def Gh (lp at_:Int) (p:Place):List Sd:=if V.str p.kind=V.str "opener" then [] else ⟨lp,at_,0,p.kind,p.addr⟩::Ej lp at_ 1 p.spur
theorem Qj (lp at_:Int):∀(n:Nat) (ds:List Dev) (i:Nat) (d:Dev),ds[i]?=some d->Ej lp at_ n (ds.take (i+1))=Ej lp at_ n (ds.take i)++[⟨lp,at_,(n+i:Nat),d.kind,d.addr⟩]
 | n,[],i,d,h=>by simp at h
 | n,x::r,0,d,h=>by
  simp at h;subst h;simp[Ej]
 | n,x::r,i+1,d,h=>by
  have h':r[i]?=some d:=by simpa using h
  have ih:=Qj lp at_ (n+1) r i d h';rw[List.take_succ_cons,List.take_succ_cons];show _::Ej lp at_ (n+1) (r.take (i+1))=(_::Ej lp at_ (n+1) (r.take i))++_;rw[ih,show n+1+i=n+(i+1) by omega];rfl
structure Tx (K:YD) (mg:YB) (op oe:Addr):Prop extends Nm mg where
 OPENER:∃u,mg "OPENER"=some u/\RelV (.ref op) u
 opT:∀H,SqT K H op [.str "opener",.int 0,.ref oe]
 opE:∀H,SqT K H oe []
inductive jr (K:YD) (vs:YG) (H:Hp) (Q:VK) (E:XK):Prop
 | mk (lp at_:Int) (v:V) (p:Place) (_:vs=[.int lp,.int at_,v]) (_:Hu K H v p) (_:p.spur.length<=3) (_:∀l xs H',H l=none->H' l=some (.lst xs)->Paired (Lh H') xs (Gh lp at_ p)->Same H H'->Q (.ref l) H'):jr K vs H Q E
section
variable {P:Program} {w:World} {K:YD} {mg:YB} {base:Heap} {op oe:Addr}
theorem QL (c:Code K mg "place_devices" Iv Fe) (T:Tx K mg op oe):Good P w K mg base "place_devices" 1 Fe (jr K):=by
 refine c.good CV (λvs H Q E h=>?_) (λf cdv A outer s H vs Q E hr h=>?_)
 ·obtain⟨lp,at_,v,p,rfl,_⟩:=h;rfl
 obtain⟨lp,at_,v,p,rfl,⟨t,u,vs,rfl,ht,hu,hd⟩,h3,q⟩:=h;refine⟨_,(Ae (Eb (pv 2) (Di rfl (Av (Aj (i:=3) CV.nd rfl (Or.inl rfl)) (Av (Aj (i:=4) CV.nd rfl (Or.inl rfl)) (Av (Aj (i:=5) CV.nd rfl (Or.inl rfl)) Ck)))))
 (Ae (BP (Bp Dz (pv 3) Ai (Bx _)) (Ah (Bc (BZ Ab))) Bq)
 (Ae (Ax (i:=6) CV.nd rfl (Or.inl rfl) (BZ (Aa (CZ (Aa (CZ (Aa (pv 0) (Aa (pv 1) (Aa Ad Ab)))) (Aa (pv 3) (Aa (pv 4) Ab)))) Ab)))
 (Ae (Dh QbC rfl (Wo rfl T.enumerate (pv 5) Ad) (Di rfl (Av (Aj (i:=7) CV.nd rfl (Or.inl rfl)) (Av (Di rfl (Av (Aj (i:=8) CV.nd rfl (Or.inl rfl)) (Av (Aj (i:=9) CV.nd rfl (Or.inl rfl)) Ck))) Ck)))
 (Ah (Cr (BJ Qan Qai Qaj Cu (pv 6) (Aa (CZ (Aa (CZ (Aa (pv 0) (Aa (pv 1) (Aa (pv 7) Ab)))) (Aa (pv 8) (Aa (pv 9) Ab)))) Ab)))))
 (Ah (Bc (pv 6))))))),?_⟩
 show let R0:TS:=_;let R1:TS:=Ar (Et _ _ R0) _;let R2:TS:=Ar _ R1;let R3:TS:=Ar _ R2;Ar _ R3 _ _ _;intro R0 R1 R2 R3;generalize hst:L2.start _ _=σ0;have e0:σ0=[some (.int lp),some (.int at_),js t,none,none,none,none,none,none,none]:=hst.symm;clear hst;subst e0;refine⟨_,rq,t,_,rq,ht.sq,rq,_,_,rq,_,_,rq,_,_,rq,rq,?_⟩;simp only[QaP,QaO];refine⟨_,rq,rq,_,rq,?_⟩;by_cases ck:V.str p.kind=V.str "opener"
 ·rw[QbM ck];have e:Gh lp at_ p=[]:=if_pos ck;rw[e] at q;exact Bl ⟨(by show 0<=sizeLine;decide),λl hl=>q l [] _ hl Ac .nil (Af hl _)⟩
 ·rw[Qbz ck];have e:Gh lp at_ p=⟨lp,at_,0,p.kind,p.addr⟩::Ej lp at_ 1 p.spur:=if_neg ck;rw[e] at q;refine Bw ⟨_,rq,_,rq,(by show 3<=sizeLine;decide),λus hus=>⟨_,rq,_,rq,(by show 3<=sizeLine;decide),λts hts=>⟨(by show 1<=sizeLine;decide),λl hl=>?_⟩⟩⟩;have s1:=Af hus (.tup [.int lp,.int at_,.int 0]);have s2:=Af hts (.tup [.ref us,.str p.kind,.int p.addr]);have s3:=Af hl (.lst [.ref ts]);have sm:=s1.trans (s2.trans s3);have hl0:=s1.free (s2.free hl);have el:_=some (HO.lst [.ref ts]):=Ac (H:=upd (upd H us (.tup [.int lp,.int at_,.int 0])) ts (.tup [.ref us,.str p.kind,.int p.addr])) (a:=l) (o:=.lst [.ref ts]);have es:Lh _ (.ref ts) ⟨lp,at_,0,p.kind,p.addr⟩:=⟨ts,us,rq,s3 _ _ Ac,s3 _ _ (s2 _ _ Ac)⟩;generalize hX:upd (upd (upd H us (.tup [.int lp,.int at_,.int 0])) ts (.tup [.ref us,.str p.kind,.int p.addr])) l (.lst [.ref ts])=H1 at sm el es;simp only[QaP,QaO];have hu1:=hu.same sm;have sd0:Paired (Lh H1) [.ref ts] (⟨lp,at_,0,p.kind,p.addr⟩::Ej lp at_ 1 (p.spur.take 0)):=.cons es .nil;have yP:vs.length=p.spur.length:=QbR hd;refine⟨_,rq,u,rq,⟨vs,hu1.sq⟩,Q6 (xs:=vs) (lo:=1) (λi σ HH=>∃ys u7 u8 u9,σ=[some (.int lp),some (.int at_),js t,some (.str p.kind),some (.int p.addr),js u,js l,u7,u8,u9]/\Ag l H1 HH/\HH l=some (.lst ys)/\Paired (Lh HH) ys (⟨lp,at_,0,p.kind,p.addr⟩::Ej lp at_ 1 (p.spur.take i))/\ys.length<=i+1)
   ⟨[.ref ts],_,_,_,rq,Ag.refl l H1,el,sd0,Qce _⟩ (λi σ HH _ h=>?_) (λi x pt σ HH hx h hpt=>?_) (fun σ HH h=>?_)⟩
  ·obtain⟨ys,_,_,_,_,sb,_⟩:=h;exact (hu1.tups (sb.tup λzs z=>by rw[el] at z;cases z)).sq
  ·obtain⟨ys,u7,u8,u9,rfl,sb,hy,pd,ly⟩:=h;obtain⟨d,hdi,td,rfl,htd⟩:=Paired.Ed hd hx;have nl:∀zs,H1 l≠some (.tup zs):=λzs z=>by rw[el] at z;cases z
   have nl2:∀zs,HH l≠some (.tup zs):=λzs z=>by rw[hy] at z;cases z
   have AA:=(sb.tup nl) _ _ (sm _ _ htd);have t0:=Af hpt (.tup [.int ((1+i:Nat):Int),.ref td]);refine⟨pt,_,rq,SqT.of Ac,rq,_,_,rq,_,_,rq,td,_,rq,SqT.of (t0 _ _ AA),rq,_,_,rq,_,_,rq,rq,rq,?_⟩;simp only[QaP,QaO];have hy0:=t0 _ _ hy;refine⟨_,rq,.inl ⟨rq,_,SqL.of hy0⟩,_,rq,_,rq,_,rq,(by show 3<=sizeLine;decide),λus2 As=>⟨_,rq,_,rq,(by show 3<=sizeLine;decide),λts2 Au=>?_⟩⟩;have t1:=Af As (.tup [.int lp,.int at_,.int ((1+i:Nat):Int)]);have t2:=Af Au (.tup [.ref us2,.str d.kind,.int d.addr]);have hy2:=t2 _ _ (t1 _ _ hy0);have il:=(Qaf.mp hx).1;refine⟨l,_,_,rq,rq,hy2,Bb (by omega),?_⟩;refine⟨ys++[.ref ts2],_,_,_,rq,sb.trans ((Ag.of (t0.trans (t1.trans t2))).trans Ag.upd),Ac,?_,by rw[QaM];simp only[Qax];omega⟩;rw[Qj lp at_ 1 p.spur i d hdi];have nlx:∀zs,(upd (upd (upd HH pt (.tup [.int ((1+i:Nat):Int),.ref td])) us2 (.tup [.int lp,.int at_,.int ((1+i:Nat):Int)])) ts2 (.tup [.ref us2,.str d.kind,.int d.addr])) l≠some (.tup zs):=λzs z=>by rw[hy2] at z;cases z
   have tt:=Ba.upd (o:=.lst (ys++[.ref ts2])) nlx;exact Qch (l₂:=_::Ej lp at_ 1 (p.spur.take i)) ⟨ts2,us2,rq,tt _ _ Ac,tt _ _ (t2 _ _ Ac)⟩ (Paired.Cd pd λ_ _ z=>(z.tups (Ba.of (t0.trans (t1.trans t2)))).tups tt)
  ·obtain⟨ys,u7,u8,u9,rfl,sb,hy,pd,ly⟩:=h;rw[yP,Qbp] at pd;exact⟨_,rq,q l ys HH hl0 hy pd λc o e=>sb _ _ (sm _ _ e) (Aq e hl0)⟩
end
structure Sp3 where
 lp:Int
 at_:Int
 n:Int
def Sd.spot (d:Sd):Sp3:=⟨d.lp,d.at_,d.n⟩
theorem qd {k:Str} (h:DN k):¬V.str k=V.str "opener":=by
 rcases h with rfl | rfl | rfl | rfl <;> decide +kernel
theorem W7 {k:Str} (h:DN k):(PyData.str k).canLay0=true:=by
 rcases h with rfl | rfl | rfl | rfl <;> decide +kernel
def cu (d:Dev):PyData:=.tuple [.str d.kind,.int d.addr]
def Wn (p:Place):PyData:=.tuple [.str p.kind,.int p.addr,.tuple (p.spur.map cu)]
theorem su:PyData.canLay0 (.str "opener")=true:=by trivial
theorem Jg.rep {K:YD} {H:Hp} {v:V} {d:Dev} (h:Jg H v d):Km K H v (cu d):=by
 obtain⟨t,rfl,e⟩:=h;exact .tup (SqT.of e) (.cons (.str _) (.cons (.int _) .nil))
theorem Xj {K:YD} {H:Hp}:∀{vs:YG} {ds:List Dev},Paired (Jg H) vs ds->G5 K H vs (ds.map cu)
 | _,_,.nil=>.nil
 | _,_,.cons h t=>.cons h.rep (Xj t)
theorem Rk (lp at_:Int):∀(n:Nat) (ds:List Dev),(Ej lp at_ n ds).length=ds.length
 | _,[]=>rfl
 | n,d::r=>by show (Ej lp at_ (n+1) r).length+1=r.length+1;rw[Rk]
abbrev Ow:Stmt:=top 36
abbrev JT:YF:=["plan"]
theorem GP:Bf ["plan","told","loop","places","at","place"] JT (Al Ow):=by ac_rfl
def up {α : Type} (f:Nat->List α) (i:Nat):List α:=(List.range i).flatMap f
theorem Pq {α : Type} (f:Nat->List α) (i:Nat):up f (i+1)=up f i++f i:=by
 unfold up;rw[List.range_succ,QaJ];simp
theorem Zd {α : Type} (f:Nat->List α):up f 0=[]:=rfl
theorem Ri {α : Type} {f:Nat->List α} {c:Nat} (h:∀i,(f i).length<=c):∀i,(up f i).length<=c*i
 | 0=>Qce _
 | i+1=>by
  have:=Ri h i;have:=h i;rw[Pq,QaM,Nat.mul_succ];omega
def ifs {α β : Type} (o:Option α) (g:α->List β):List β:=match o with | none=>[] | some x=>g x
theorem QX {α β : Type} {o:Option α} {g:α->List β} {x:α} (h:o=some x):ifs o g=g x:=by rw[h];rfl
structure Gt where
 lp:Int
 at_:Int
def pd1 (lp:Int) (ps:List Place) (i:Nat):List Sd:=ifs ps[i]? λp=>Gh lp ((1+i:Nat):Int) p
def pdL (ja:YU) (k:Nat):List Sd:=ifs ja[k]? λps=>up (pd1 k ps) ps.length
structure XQ (ja:YU):Prop where
 ok:∀ps∈ja,OkL ps
 hi:ja.length<=3
theorem Ql {lp a:Int} {p:Place} (h:OkP p):(Gh lp a p).length<=4:=by
 unfold Gh;have:=h.spur;split
 ·exact Qcf _
 ·rw[Qbo,Rk];omega
theorem Zr {lp:Int} {ps:List Place} (h:∀p∈ps,OkP p) (i:Nat):(pd1 lp ps i).length<=4:=by
 unfold pd1;cases e:ps[i]? with
 | none=>exact Qcf _
 | some p=>exact Ql (h p (QaE e))
theorem pq {ja:YU} (h:XQ ja) (k:Nat):(pdL ja k).length<=48:=by
 unfold pdL;cases e:ja[k]? with
 | none=>exact Qcf _
 | some ps=>
  have o:=h.ok ps (QaE e);have:=Ri (Zr (lp:=k) o.ok) ps.length;have:=o.hi;show (up _ _).length<=48;omega
def iw (K:YD) (H:Hp) (pl:Addr) (ja:YU):Prop:=∃v0 v2 Ls vs,H pl=some (.tup [v0,.ref Ls,v2])/\H Ls=some (.tup vs)/\Paired (Ly K H) vs ja
inductive aJ (K:YD) (vs:YG) (H:Hp) (Q:VK) (E:XK):Prop
 | mk (pl:Addr) (ja:YU) (_:vs=[.ref pl]) (_:iw K H pl ja) (_:XQ ja) (_:∀l xs H',H l=none->H' l=some (.lst xs)->Paired (Lh H') xs (up (pdL ja) ja.length)->Same H H'->Q (.ref l) H'):aJ K vs H Q E
section
variable {P:Program} {w:World} {K:YD} {mg:YB} {base:Heap} {op oe:Addr}
theorem bx (c:Code K mg "devices" Ow JT) (T:Tx K mg op oe) (RQ:Good P w K mg base "place_devices" 1 Fe (jr K)):Good P w K mg base "devices" 2 JT (aJ K):=by
 refine c.good GP (λvs H Q E h=>?_) (λf cdv A outer s H vs Q E hr h=>?_)
 ·obtain⟨pl,ja,rfl,_⟩:=h;rfl
 obtain⟨pl,ja,rfl,⟨v0,v2,Ls,vs,hpl,hLs,hlo⟩,ok,q⟩:=h;refine⟨_,(Ae (Ax (i:=1) GP.nd rfl (Or.inl rfl) (BZ Ab))
 (Ae (Dh QbC rfl (jH rfl T.enumerate (Cz Ld (pv 0) Ad (λ_ _=>rfl))) (Di rfl (Av (Aj (i:=2) GP.nd rfl (Or.inl rfl)) (Av (Aj (i:=3) GP.nd rfl (Or.inl rfl)) Ck)))
 (Ah (Dh QbC rfl (Wo rfl T.enumerate (pv 3) Ad) (Di rfl (Av (Aj (i:=4) GP.nd rfl (Or.inl rfl)) (Av (Aj (i:=5) GP.nd rfl (Or.inl rfl)) Ck)))
 (Ah (Cr (BJ Qan Qal Qam Lp (pv 1) (Aa (Dt RQ hr (Aa (pv 2) (Aa (pv 4) (Aa (pv 5) Ab)))) Ab)))))))
 (Ah (Bc (pv 1))))),?_⟩
 show let R0:TS:=_;let R1:TS:=Et _ _ R0;let R2:TS:=Ar (Et _ _ R1) _;Ar _ R2 _ _ _;intro R0 R1 R2;generalize hst:L2.start _ _=σ0;have e0:σ0=[js pl,none,none,none,none,none]:=hst.symm;clear hst;subst e0;refine⟨Am (by show 0<=1000;decide),λl fl=>?_⟩;simp only[QaP,QaO];have s1:=Af fl (.lst []);have lvs:=QbR hlo;refine⟨_,rq,pl,_,_,_,rq,rq,SqT.of (s1 _ _ hpl),rq,Ls,rq,⟨vs,SqT.of (s1 _ _ hLs)⟩,?_⟩;let J0:YN:=λi σ HH=>∃(ys:YG) (u2 u3 u4 u5:Option V),σ=[js pl,js l,u2,u3,u4,u5]/\Same H HH/\HH l=some (.lst ys)/\Paired (Lh HH) ys (up (pdL ja) i);refine Q6 (xs:=vs) (lo:=0) J0 ⟨[],_,_,_,_,rq,s1,Ac,.nil⟩ (λi σ HH _ h=>?_) (λi x pt σ HH hx h hpt=>?_) (fun σ HH h=>?_)
 ·obtain⟨ys,_,_,_,_,_,sm,_⟩:=h;exact SqT.of (sm _ _ hLs)
 ·obtain⟨ys,u2,u3,u4,u5,rfl,sm,hy,py⟩:=h;obtain⟨ps,hps,hL⟩:=Paired.Ed hlo hx;obtain⟨t,ws,rfl,ht,hws⟩:=id hL;have okl:=ok.ok ps (QaE hps);have ek:pdL ja i=up (pd1 i ps) ps.length:=QX hps;have lws:=QbR hws;have t0:=Af hpt (.tup [.int ((0+i:Nat):Int),.ref t]);refine⟨pt,_,rq,SqT.of Ac,rq,_,_,rq,_,_,rq,rq,?_⟩;have sm0:=sm.trans t0;have hy0:=t0 _ _ hy;have py0:=Paired.Cd py λ_ _ (z:Lh HH _ _)=>z.tups (Ba.of t0);generalize upd HH pt (.tup [.int ((0+i:Nat):Int),.ref t])=HA at sm0 hy0 py0;simp only[QaP,QaO,Nat.zero_add];have hil:=(Qaf.mp hps).1;have lu:=Ri (pq ok) i;have hhi:=ok.hi;refine⟨_,rq,t,rq,⟨ws,SqT.of (sm0 _ _ ht)⟩,?_⟩;let J1:YN:=λj σ HJ=>∃(ys:YG) (u4 u5:Option V),σ=[js pl,js l,some (.int (i:Int)),js t,u4,u5]/\Same H HJ/\HJ l=some (.lst ys)/\Paired (Lh HJ) ys (up (pdL ja) i++up (pd1 i ps) j);refine Q6 (xs:=ws) (lo:=1) J1 ⟨ys,_,_,rq,sm0,hy0,by rw[Zd,QbA];exact py0⟩ (λj σ HJ _ h=>?_) (λj x pt σ HJ hx h hpt=>?_) (fun σ HJ h=>?_)
  ·obtain⟨ys,_,_,_,sj,_⟩:=h;exact SqT.of (sj _ _ ht)
  ·obtain⟨ys,u4,u5,rfl,sj,hyj,pj⟩:=h;obtain⟨p,hp,hP⟩:=Paired.Ed hws hx;have okp:=okl.ok p (QaE hp);have ej:pd1 i ps j=Gh i ((1+j:Nat):Int) p:=QX hp;have t1:=Af hpt (.tup [.int ((1+j:Nat):Int),x]);refine⟨pt,_,rq,SqT.of Ac,rq,_,_,rq,_,_,rq,rq,?_⟩;simp only[QaP,QaO];have hjl:=(Qaf.mp hp).1;have lj:=Ri (Zr (lp:=i) okl.ok) j;have lys:=QbR pj;rw[QaM] at lys;have h12:=okl.hi;refine⟨_,rq,.inl ⟨rq,_,SqL.of (t1 _ _ hyj)⟩,_,rq,_,rq,_,rq,(i:Int),((1+j:Nat):Int),x,p,rq,hP.tups (Ba.of (sj.trans t1)),okp.spur,λld xs' HB fld hld pdd sB=>?_⟩;have t2:=t1.trans sB;have hyB:=t2 _ _ hyj;have lx:=QbR pdd;have lpl:=Ql (lp:=i) (a:=((1+j:Nat):Int)) okp;refine⟨l,ld,_,_,rq,rq,hyB,hld,Am (by omega),?_⟩;have n0:∀zs,HB l≠some (.tup zs):=λzs z=>by rw[hyB] at z;cases z
   have tt:=Ba.upd (o:=.lst (ys++xs')) n0;refine⟨ys++xs',_,_,rq,(sj.trans t2).CQ Ag.upd fl,Ac,?_⟩;rw[Pq,ej,<-Qba];exact Paired.app (Paired.Cd pj λ_ _ z=>(z.tups (Ba.of t2)).tups tt) (Paired.Cd pdd λ_ _ z=>z.tups tt)
  ·obtain⟨ys,u4,u5,rfl,sj,hyj,pj⟩:=h;exact⟨ys,_,_,_,_,rq,sj,hyj,by rw[Pq,ek,<-lws];exact pj⟩
 ·obtain⟨ys,u2,u3,u4,u5,rfl,sm,hy,py⟩:=h;rw[lvs] at py;exact⟨_,rq,q l ys HH fl hy py sm⟩
end
abbrev Nh:Stmt:=top 17
abbrev IV:YF:=["thing"]
theorem X8:Bf IV IV (Al Nh):=by ac_rfl
abbrev Mf:Stmt:=top 18
abbrev Eh:YF:=["thing","low","high"]
theorem V9:Bf ["thing","low","high"] Eh (Al Mf):=by ac_rfl
abbrev Ni:Stmt:=top 19
abbrev Dk:YF:=["thing","least","most"]
theorem Uc:Bf ["thing","least","most"] Dk (Al Ni):=by ac_rfl
theorem fH {K:YD} {H:Hp} {x:V} {T:String} {t:Value} {Q:VK} (ty:Je K H x t) (k:kitOne K t (.type T)=some false) (q:Q (.bl false) H):Jm K [x,.ty T] H Q:=by
 unfold Jm;exact⟨_,_,_,_,rq,ty,k,q⟩
theorem Uw {X:Cx}:Dn X (.builtin "isinstance") (λxs H Q=>Jm X.K xs H Q\/nD X.K xs H Q):=by
 intro jb s σ H xs us Q I r h;rcases h with h | h
 ·exact Jt jb s σ H xs us Q I r h
 ·exact gM jb s σ H xs us Q I r h
theorem Ol {b l:Addr} {H0 H H':Hp} (s:Ag b H0 H) (t:Ag l H H') (f:H0 l=none):Ag b H0 H':=λc o e n=>t _ _ (s _ _ e n) (λz=>by rw[z,f] at e;cases e)
theorem AI {i:Nat} {v:V} {σ : St} {H:Hp} {Q:YO} (h:Q (σ.set i (some v)) H):Ef i v σ H Q:=h
def iv (xs:List Int):YG:=xs.map V.int
inductive jq (vs:YG) (H:Hp) (Q:VK) (E:XK):Prop
 | mk (v) (_:vs=[v]) (_:Kn H v) (_:Q (.bl (isW v)) H):jq vs H Q E
section
variable {P:Program} {w:World} {K:YD} {mg:YB} {base:Heap}
theorem Wy (c:Code K mg "is_whole" Nh IV) (T:Nm mg):Good P w K mg base "is_whole" 1 IV jq:=by
 refine c.good X8 (λvs H Q E h=>?_) (λf cdv A outer s H vs Q E hr h=>?_)
 ·obtain⟨v,rfl,_⟩:=h;rfl
 obtain⟨v,rfl,k,q⟩:=h;refine⟨_,(Ah (Bc (El (Ay Jt rfl T.isinstance Bj (Aa (pv 0) (Aa (Ij (v:=.ty "int") rfl T.int Xz rfl) Ab))) (Fd (rP (Ay Jt rfl T.isinstance Bj (Aa (pv 0) (Aa (Ij (v:=.ty "bool") rfl T.bool qy rfl) Ab)))))))),?_⟩;refine⟨_,rq,qj k ⟨_,rq,?_⟩⟩;rw[tW] at q;cases e:isI v with
 | false=>rw[e] at q;exact Bw q
 | true=>rw[e] at q;exact Bl ⟨_,rfl,lY e ⟨_,rfl,q⟩⟩
end
abbrev Mg:Stmt:=top 20
abbrev Hr:YF:=["row"]
theorem Wa:Bf Hr Hr (Al Mg):=by ac_rfl
abbrev Es:Stmt:=top 21
abbrev Du:YF:=["thing","least","most","low","high"]
theorem Nf:Bf Du Du (Al Es):=by ac_rfl
abbrev Ou:Stmt:=top 22
abbrev JQ:YF:=IV
theorem aN:Bf IV JQ (Al Ou):=by ac_rfl
abbrev Mh:Stmt:=top 26
abbrev Gi:YF:=["kind","address"]
theorem Wb:Bf ["kind","address"] Gi (Al Mh):=by ac_rfl
abbrev Ia:Stmt:=top 27
abbrev En:YF:=IV
theorem Qf:Bf IV En (Al Ia):=by ac_rfl
abbrev Oq:Stmt:=top 28
abbrev JM:YF:=IV
theorem aM:Bf IV JM (Al Oq):=by ac_rfl
abbrev Nj:Stmt:=top 29
abbrev IW:YF:=IV
theorem Hg:Bf ["thing","kind","address","spur"] IW (Al Nj):=by ac_rfl
abbrev Ov:Stmt:=top 30
abbrev JR:YF:=IV
theorem aO:Bf IV JR (Al Ov):=by ac_rfl
abbrev Oo:Stmt:=top 31
abbrev JL:YF:=IV
theorem aL:Bf IV JL (Al Oo):=by ac_rfl
abbrev Mj:Stmt:=top 32
abbrev Ht:YF:=IV
theorem Wd:Bf IV Ht (Al Mj):=by ac_rfl
abbrev Mi:Stmt:=top 33
abbrev Hs:YF:=IV
theorem Wc:Bf IV Hs (Al Mi):=by ac_rfl
abbrev Ot:Stmt:=top 34
abbrev JN:YF:=IV
theorem Iu:Bf ["thing","most","loops","zones"] JN (Al Ot):=by ac_rfl
structure Ty (K:YD) (mg:YB) (op oe kd wk:Addr):Prop extends Tx K mg op oe where
 KINDS:∃u,mg "KINDS"=some u/\RelV (.ref kd) u
 kdT:∀H,SqT K H kd [.str "seeker",.str "knob",.str "bell",.str "door"]
 SMALL_LETTERS:∃u,mg "SMALL_LETTERS"=some u/\RelV (.str abc) u
structure Fv (p:Place):Prop where
 ok:OkP p
 bd:∀x∈adP p,1<=x/\x<=99
structure ZnB (z:Zone):Prop where
 nm:(1<=z.name.length/\z.name.length<=8)/\okS z.name
 up:z.adr.Pairwise (· < ·)/\1<=z.adr.length/\z.adr.length<=30
 bd:∀x∈z.adr,1<=x/\x<=99
theorem VJ {α β γ : Type} {h:α->List β} {φ : γ->β} {g:Nat->α->List γ} (l:List α) (hg:∀i x,l[i]?=some x->(g i x).map φ=h x):∀n,n<=l.length->(up (λi=>ifs l[i]? (g i)) n).map φ=(l.take n).flatMap h
 | 0,_=>by rw[Zd];simp
 | n+1,hn=>by
  have hi:l[n]?=some l[n]:=Qak (by omega);rw[Pq,Qbx,VJ l hg n (by omega),Qcn hi,QaJ,QX hi,hg n _ hi];simp
theorem Qk (lp a:Int):∀(n:Nat) (ds:List Dev),(Ej lp a n ds).map (·.addr)=ds.map (·.addr)
 | _,[]=>rfl
 | n,d::r=>by
  show d.addr::(Ej lp a (n+1) r).map (·.addr)=d.addr::r.map (·.addr);rw[Qk]
theorem Wm (lp a:Int) (p:Place):(Gh lp a p).map (·.addr)=adP p:=by
 unfold Gh adP;split
 ·rfl
 ·rw[QbT,Qk]
theorem gq (ja:YU):(up (pdL ja) ja.length).map (·.addr)=BX ja:=by
 have:=VJ (φ:=Sd.addr) (h:=adL) (g:=λk ps=>up (pd1 (k:Int) ps) ps.length) ja (λk ps _=>by
  have:=VJ (φ:=Sd.addr) (h:=adP) (g:=λi p=>Gh (k:Int) ((1+i:Nat):Int) p) ps (λi p _=>Wm _ _ p) ps.length (Qce _);rw[Qbp] at this;exact this) ja.length (Qce _)
 rw[Qbp] at this;exact this
theorem jg {ja:YU} (h:XQ ja) {x:Int} (hx:x∈EY ja):x∈BX ja:=by
 obtain⟨ps,hps,hx⟩:=Qbt.mp hx;obtain⟨p,hp,hx⟩:=Qbt.mp hx;refine Qbt.mpr ⟨ps,hps,Qbt.mpr ⟨p,hp,?_⟩⟩;obtain⟨d,hd,rfl⟩:=QbY.mp hx;obtain⟨hd,hw⟩:=QbG.mp hd;rcases ((h.ok ps hps).ok p hp).form with⟨e1,e2,e3⟩| hk
 ·have:d=⟨p.kind,p.addr⟩:=by
   unfold Fw at hd;rw[e3] at hd;simpa using hd
  rw[this] at hw;have hw:Pb p.kind=true:=hw;rw[e1] at hw;exact absurd hw (by trivial)
 ·unfold adP;rw[if_neg (qd hk)];unfold Fw at hd;rcases QbQ.mp hd with rfl | hd
  ·exact QaN ..
  ·exact QaD _ (QbY.mpr ⟨d,hd,rq⟩)
section
variable {P:Program} {w:World} {K:YD} {mg:YB} {base:Heap} {op oe kd wk:Addr}
end
def G3 {α : Type} (f:α->Key) (xs:List α):YM:=xs.map λx=>(f x,V.bl true)
theorem Uk {α : Type} {f:α->Key} {k:Key}:∀{xs:List α},(∀x∈xs,f x≠k)->Jh (G3 f xs) k=none
 | [],_=>rfl
 | x::r,h=>by
  have:G3 f (x::r)=(f x,V.bl true)::G3 f r:=rfl;rw[this,M6 (p:=(f x,V.bl true)) (h x (QaN ..))];exact Uk λy hy=>h y (QaD _ hy)
theorem Ul {α : Type} (f:α->Key) (xs:List α):(G3 f xs).length=xs.length:=Qbw ..
theorem fD {α : Type} {f:α->Key} {xs:List α} {x:α} (h:∀y∈xs,f y≠f x):putK (G3 f xs) (f x) (.bl true)=G3 f (xs++[x]):=by
 rw[jA _ (Uk h)];unfold G3;rw[Qbx];rfl
structure PlF (most:Int) (ja:YU) (jp:List Zone):Prop where
 ok:XQ ja
 lo:1<=ja.length
 bd:∀x∈BX ja,1<=x/\x<=99
 cnt:1<=(BX ja).length/\(BX ja).length<=30
 mo:1<=most/\most<=30
 zb:∀z∈jp,ZnB z
 M4:jp.length<=8
 zdi:(jp.map (·.name)).Nodup
def PlL (K:YD) (H:Hp) (pl:Addr) (most:Int) (ja:YU) (jp:List Zone):Prop:=∃Ls zs vs zvs,H pl=some (.tup [.int most,.ref Ls,.ref zs])/\H Ls=some (.tup vs)/\Paired (Ly K H) vs ja/\H zs=some (.tup zvs)/\Paired (Fp H) zvs jp
theorem PlL.tups {K:YD} {H H':Hp} {pl:Addr} {most:Int} {ja:YU} {jp:List Zone} (h:PlL K H pl most ja jp) (s:Ba H H'):PlL K H' pl most ja jp:=by
 obtain⟨Ls,zs,vs,zvs,e1,e2,e3,e4,e5⟩:=h;exact⟨Ls,zs,vs,zvs,s _ _ e1,s _ _ e2,Paired.Cd e3 λ_ _ z=>z.tups s,s _ _ e4,Paired.Cd e5 λ_ _ z=>z.tups s⟩
structure PlA (K:YD) (H:Hp) (pl:Addr) (most:Int) (ja:YU) (jp:List Zone):Prop extends PlF most ja jp where
 at_:PlL K H pl most ja jp
theorem PlA.plan {K:YD} {H:Hp} {pl:Addr} {most:Int} {ja:YU} {jp:List Zone} (h:PlA K H pl most ja jp):iw K H pl ja:=by
 obtain⟨Ls,zs,vs,zvs,e1,e2,e3,e4,e5⟩:=h.at_;exact⟨_,_,Ls,vs,e1,e2,e3⟩
section
variable {P:Program} {w:World} {K:YD} {mg:YB} {base:Heap} {op oe kd wk:Addr}
end
def L (s:Str):List Nat:=s.cps.toList
def S (l:List Nat):Str:=⟨l.toArray⟩
theorem L_S (l:List Nat):L (S l)=l:=rfl
theorem S_L (s:Str):S (L s)=s:=rfl
theorem Df (a b:Str):L (a++b)=L a++L b:=by
 have e:(a++b).cps=a.cps++b.cps:=rfl;unfold L;rw[e,Array.toList_append]
theorem Fq {a b:Str} (h:L a=L b):a=b:=by rw[<-S_L a,h];rfl
theorem Vu:L Str.empty=[]:=rfl
theorem CK (s:Str):s.length=(L s).length:=(QaI ..).symm
theorem Dm (l:List Nat):(S l).length=l.length:=by rw[CK];rfl
theorem GJ:100000<=sizeLine:=by decide
theorem szb {n:Nat} (h:n<=100000):n<=sizeLine:=Qca h GJ
def num (n:Nat):List Nat:=L (Str.ofString (toString (n:Int)))
def TQ (c:Nat):Bool:=!(Builtin.Str.occurrences "0123456789" ⟨#[c]⟩ 0 (Str.ofString "0123456789").length 1).isEmpty
theorem ZM (c:Nat):TQ c=decide (c∈L "0123456789"):=PySem.StrLaws.found_one _ _
theorem Zw:∀n,n < 100->(num n).all TQ=true/\1<=(num n).length/\(num n).length<=2/\(num n).all (λc=>decide (48<=c/\c<=57))=true:=by
 intro n h;have key:∀n,n < 100->((num n).all (λc=>decide (c∈L "0123456789"))=true/\1<=(num n).length/\(num n).length<=2/\(num n).all (λc=>decide (48<=c/\c<=57))=true):=by trivial
 have k:=key n h;refine⟨?_,k.2⟩;rw[<-k.1];congr 1
 funext c
 exact ZM c
theorem Tg {n:Nat} (h:n < 100):intText? (S (num n))=some (n:Int):=PySem.W.KIN.num_reads (by omega) (by omega)
theorem pI {n m:Nat} (hn:n < 100) (hm:m < 100) (h:num n=num m):n=m:=by
 have e:=Tg hn;rw[h,Tg hm] at e;injection e with e;omega
theorem sJ {n:Nat} (h:n < 100):(num n).length<=2:=(Zw n h).2.2.1
theorem jU {n:Nat} (h:n < 100):∀c∈num n,48<=c/\c<=57:=λc hc=>Qbd (Qbu.mp (Zw n h).2.2.2 c hc)
theorem Og (l:List Nat) (y:Str) (i:Nat):Builtin.Str.subAt (S l) y i=true ↔ (l.drop i).take y.length=L y:=by
 unfold Builtin.Str.subAt;rw[beq_iff_eq];constructor
 ·intro h;have h:=congrArg Array.toList h;rw[Array.toList_extract] at h;rw[<-show y.cps.toList=L y from rfl,<-h]
  show _=((S l).cps.toList.drop i).take (i+y.length - i);rw[Nat.add_sub_cancel_left];rfl
 ·intro h;refine Array.toList_inj.mp ?_;rw[Array.toList_extract];show ((S l).cps.toList.drop i).take (i+y.length - i)=L y;rw[Nat.add_sub_cancel_left];exact h
theorem Nb (l:List Nat) (y:Str):Txt.startswith (S l) y=true ↔ ∃r,l=L y++r:=by
 unfold Txt.startswith
 rw[Qbs,QaV,Og,List.drop_zero,Dm];constructor
 ·rintro ⟨_,h⟩;exact⟨l.drop y.length,by rw[<-h,QaC]⟩
 ·rintro ⟨r,rfl⟩;have e:=CK y;refine⟨by rw[QaM];omega,?_⟩;rw[e,QbK];rfl
theorem jm {l r:List Nat} {y:Str} (h:l=L y++r):Txt.startswith (S l) y=true:=(Nb l y).mpr ⟨r,h⟩
theorem jo {c:Nat} {l:List Nat} {y:Str} {d:Nat} {t:List Nat} (hy:L y=d::t) (h:c≠d):Txt.startswith (S (c::l)) y=false:=by
 cases e:Txt.startswith (S (c::l)) y with
 | false=>rfl
 | true=>
  obtain⟨r,hr⟩:=(Nb _ _).mp e;rw[hy] at hr;injection hr with hr _;exact absurd hr h
theorem XH (l:List Nat) (y:Str) (k:Nat):StrLaws.At (S l) y (S l).length k ↔ k+y.length<=l.length/\(l.drop k).take y.length=L y:=by
 unfold StrLaws.At;rw[Og,Dm]
theorem Qc {l:List Nat} {y:Str} {k j m:Nat} (h:StrLaws.At (S l) y (S l).length k) (hj:(L y)[j]?=some m):l[k+j]?=some m:=by
 have h:=((XH l y k).mp h).2;rw[<-h,List.getElem?_take] at hj;split at hj
 ·rw[List.getElem?_drop] at hj;exact hj
 ·cases hj
theorem XF {h b:List Nat} (y:Str):StrLaws.At (S (h++(L y++b))) y (S (h++(L y++b))).length h.length:=by
 rw[XH];refine⟨by rw[QaM,QaM,<-CK];omega,?_⟩;rw[QbL rfl,QbK];exact (CK y).symm
theorem Zt {h b:List Nat} {y:Str} {j m:Nat} (hj:(L y)[j]?=some m) (hp:∀i,i < j->(L y)[i]?≠some m) (hh:m∉h):Txt.partition (S (h++(L y++b))) y=(S h,y,S b):=by
 have at_:=XF (h:=h) (b:=b) y;have yl:=CK y;have no:∀k,k < h.length->¬StrLaws.At (S (h++(L y++b))) y (S (h++(L y++b))).length k:=λk hk w=>by
  have g:=Qc w hj;by_cases h1:k+j < h.length
  ·rw[Qag h1] at g;exact hh (QaE g)
  ·have jl:=(Qaf.mp hj).1;rw[Qae (by omega),Qag (by omega)] at g;exact hp _ (by omega) g
 unfold Txt.partition;rcases StrLaws.occ_head (S (h++(L y++b))) y 1 (Qce _) with⟨e,hn⟩|⟨i,r,e,hi,hn⟩
 ·exact absurd at_ (hn _)
 ·have:i=h.length:=by
   rcases Nat.lt_trichotomy i h.length with z | z | z
   ·exact absurd hi (no i z)
   ·exact z
   ·exact absurd at_ (hn _ z)
  subst this;rw[e];refine Prod.ext ?_ (Prod.ext rfl ?_)
  ·refine Fq ?_;show ((S (h++(L y++b))).cps.extract 0 h.length).toList=h;rw[Array.toList_extract];show ((h++(L y++b)).drop 0).take (h.length - 0)=h;rw[List.drop_zero,Nat.sub_zero,QbK];rfl
  ·refine Fq ?_;show ((S (h++(L y++b))).cps.extract (h.length+y.length) (S (h++(L y++b))).length).toList=b;rw[Array.toList_extract,Dm,yl];show ((h++(L y++b)).drop (h.length+(L y).length)).take _=b;rw[<-List.drop_drop,QbL rfl,QbL rfl];refine Qav ?_;rw[QaM,QaM];omega
theorem dX {l:List Nat} {y:Str} {j m:Nat} (hj:(L y)[j]?=some m) (hl:m∉l):Txt.partition (S l) y=(S l,Str.empty,Str.empty):=by
 unfold Txt.partition;rcases StrLaws.occ_head (S l) y 1 (Qce _) with⟨e,hn⟩|⟨i,r,e,hi,hn⟩
 ·rw[e]
 ·exact absurd (QaE (Qc hi hj)) hl
def jnS (y:List Nat):List (List Nat)->List Nat
 | []=>[]
 | [a]=>a
 | a::b::r=>a++(y++jnS y (b::r))
theorem QS (y:Str):∀ps:YF,L (Str.join y ps)=jnS (L y) (ps.map L)
 | []=>rfl
 | [a]=>rfl
 | a::b::r=>by
  show L ((a++y)++Str.join y (b::r))=L a++(L y++jnS (L y) ((b::r).map L));rw[Df,Df,QS y (b::r),Qba]
theorem Sg (x:Str) (a c:Nat):L (Builtin.Str.strSub x a c)=((L x).drop a).take (c - a):=StrLaws.strSub_toList x a c
theorem Qm {x y:Str} {c0:Nat} {t:List Nat} (hy:L y=c0::t):∀(ps:List (List Nat)) (a:Nat) (cuts:List Nat) (f:Nat),ps≠[]->(∀p∈ps,c0∉p)->(L x).drop a=jnS (L y) ps->a<=x.length ->
  StrLaws.ChainG x y x.length a cuts f->(∀k,f<=k->¬StrLaws.At x y x.length k)->StrLaws.partsFrom x y.length a cuts=ps.map S
 | [],_,_,_,h,_,_,_,_,_=>absurd rfl h
 | [p],a,cuts,f,_,hf,hx,ha,hc,hn=>by
  have hx:(L x).drop a=p:=hx;have no:∀k,a<=k->¬StrLaws.At x y x.length k:=λk hk w=>by
   have g:(L x)[k+0]?=some c0:=Qc (l:=L x) w (by rw[hy];rfl);rw[Nat.add_zero] at g;have:p[k - a]?=some c0:=by rw[<-hx,List.getElem?_drop,Nat.add_sub_cancel' hk];exact g
   exact hf p QaN (QaE this)
  cases cuts with
  | nil=>
   show [Builtin.Str.strSub x a x.length]=[S p];refine congrArg (λz=>[z]) (Fq ?_);rw[Sg,hx];show p.take (x.length - a)=p;refine Qav ?_;rw[<-hx,Qbq,CK];omega
  | cons c r=>exact absurd hc.2.1 (no c hc.1)
 | p::q::r,a,cuts,f,_,hf,hx,ha,hc,hn=>by
  have hx:(L x).drop a=p++(L y++jnS (L y) (q::r)):=hx;have xl:=CK x;have yl:=CK y;have hlen:=congrArg List.length hx;rw[Qbq,QaM,QaM] at hlen;have y1:1<=(L y).length:=by rw[hy,Qbo];omega
  have at_:StrLaws.At x y x.length (a+p.length):=by
   refine ((XH (L x) y (a+p.length))).mpr ⟨by omega,?_⟩;rw[<-List.drop_drop,hx,QbL rfl,QbK];exact yl.symm
  have no:∀k,a<=k->k < a+p.length->¬StrLaws.At x y x.length k:=λk hk hk2 w=>by
   have g:(L x)[k+0]?=some c0:=Qc (l:=L x) w (by rw[hy];rfl);rw[Nat.add_zero] at g;have:((L x).drop a)[k - a]?=some c0:=by rw[List.getElem?_drop,Nat.add_sub_cancel' hk];exact g
   rw[hx,Qag (by omega)] at this;exact hf p QaN (QaE this)
  cases cuts with
  | nil=>
   have e:f=a:=hc;exact absurd at_ (hn _ (by omega))
  | cons c cs=>
   obtain⟨h1,h2,h3,h4⟩:=hc;have e:c=a+p.length:=by
    rcases Nat.lt_trichotomy c (a+p.length) with z | z | z
    ·exact absurd h2 (no c h1 z)
    ·exact z
    ·exact absurd at_ (h3 _ (by omega) z)
   subst e;show Builtin.Str.strSub x a (a+p.length)::StrLaws.partsFrom x y.length (a+p.length+y.length) cs=S p::(q::r).map S;rw[Qm hy (q::r) (a+p.length+y.length) cs f (by simp) (λp hp=>hf p (QaD _ hp)) (by
    rw[<-List.drop_drop,<-List.drop_drop,hx,QbL rfl,QbL yl.symm]) (by omega) h4 hn]
   refine congrArg (λz=>z::(q::r).map S) (Fq ?_);rw[Sg,hx,Nat.add_sub_cancel_left,QbK]
   ·rfl
   ·rfl
theorem HN {y:Str} {c0:Nat} {t:List Nat} (hk:Builtin.Str.strKind y=1) (hy:L y=c0::t) {ps:List (List Nat)} (ne:ps≠[]) (hf:∀p∈ps,c0∉p):Txt.split (S (jnS (L y) ps)) y=ps.map S:=by
 have y1:1<=y.length:=by rw[CK,hy,Qbo];omega
 obtain⟨f,hG,hn⟩:=StrLaws.occ_tight (S (jnS (L y) ps)) y y1;have key:=Qm (x:=S (jnS (L y) ps)) hy ps 0 _ f ne hf (by rw[List.drop_zero];rfl) (Qcf _) hG hn;have one:(∀k,¬StrLaws.At (S (jnS (L y) ps)) y (S (jnS (L y) ps)).length k)->[S (jnS (L y) ps)]=ps.map S:=λno=>by
  match ps,ne with
  | [p],_=>rfl
  | p::q::r,_=>exact absurd (XF (h:=p) (b:=jnS (L y) (q::r)) y) (no _)
 unfold Txt.split;split
 ·rename_i hc;refine one λk w=>?_;rw[Bool.or_eq_true,Qbm,Qbm] at hc;rcases hc with h | h
  ·have:=w.1;omega
  ·rw[hk] at h;unfold Builtin.Str.strKind at h;split at h
   ·omega
   ·split at h <;> omega
 ·split
  ·rename_i he;refine one λk w=>?_;have e0:=List.isEmpty_iff.mp he;rw[e0] at hG;have ef:f=0:=hG;subst ef;exact hn k (Qcf _) w
  ·rw[StrLaws.partsBetween_eq];exact key
abbrev KN:Stmt:=top 39
abbrev Gv:YF:=["place"]
theorem Ew:Bf ["place","kind","address","spur","row","hung"] Gv (Al KN):=by ac_rfl
abbrev Lz:Stmt:=top 40
abbrev Hh:YF:=["zone"]
theorem KJ:Bf ["zone","name","addresses"] Hh (Al Lz):=by ac_rfl
abbrev LC:Stmt:=top 41
abbrev Hi:YF:=["plan"]
theorem Fx:Bf ["plan","most","loops","zones","rows","places"] Hi (Al LC):=by ac_rfl
theorem ll:Str.empty.length=0/\(Str.ofString "zone").length=4/\(Str.ofString " ").length=1/\(Str.ofString ", ").length=2/\(Str.ofString " : ").length=3/\(Str.ofString "\n").length=1/\(Str.ofString "most ").length=5/\(Str.ofString "opener").length=6/\(Str.ofString "loop").length=4/\(Str.ofString "").length=0:=by trivial
def Bm (a:Int):List Nat:=L (Str.ofString (toString a))
theorem ifS {a b:Str} {A B:Prop} (h1:a=b->A) (h2:a≠b->B):if decide (V.str a=V.str b)=true then A else B:=by
 by_cases h:a=b
 ·subst h;rw[QbM rfl];exact Bl (h1 rfl)
 ·rw[Qbz (λz=>h (by injection z))];exact Bw (h2 h)
theorem Xa {b:Bool} {A B:Prop} (h:b=true) (a:A):if b=true then A else B:=by rw[if_pos h];exact a
theorem QV {b:Bool} {A B:Prop} (h:b=false) (a:B):if b=true then A else B:=by rw[if_neg (by rw[h];decide)];exact a
theorem GR {a:Int} (h:1<=a/\a<=99):∃n:Nat,a=(n:Int)/\n < 100:=⟨a.toNat,by omega,by omega⟩
theorem DX {a:Int} (h:1<=a/\a<=99):(Str.ofString (toString a)).length<=2:=by
 obtain⟨n,rfl,h'⟩:=GR h;rw[CK];exact sJ h'
theorem FQ {a:Int} (h:1<=a/\a<=99):a.natAbs.log2 < 1920:=by
 obtain⟨n,rfl,h'⟩:=GR h;rw[Int.natAbs_natCast];by_cases z:n=0
 ·rw[z];decide
 ·rw[Nat.log2_lt z];exact QaS h' (Qca (by decide:100<=2 ^ 7) (Nat.pow_le_pow_right (by decide) (by decide)))
theorem kind_len {k:Str} (h:DN k):k.length<=6:=by
 rcases h with rfl | rfl | rfl | rfl <;> decide +kernel
def BR (d:Dev):List Nat:=L d.kind++(L " "++Bm d.addr)
def Fi (ds:List Dev):List Nat:=jnS (L ", ") (ds.map BR)
def Bu (p:Place):List Nat:=if V.str p.kind=V.str "opener" then L "opener" else if p.spur=[] then BR ⟨p.kind,p.addr⟩ else BR ⟨p.kind,p.addr⟩++(L " : "++Fi p.spur)
def BL (z:Zone):List Nat:=jnS (L " ") (L "zone"::L z.name::z.adr.map Bm)
def Bv (ps:List Place):List (List Nat):=L "loop"::ps.map Bu
def Ao (most:Int) (ja:YU) (jp:List Zone):List (List Nat):=(L "most "++Bm most)::(ja.flatMap Bv++jp.map BL)
def Cv (most:Int) (ja:YU) (jp:List Zone):List Nat:=((Ao most ja jp).map λr=>r++L "\n").flatten
structure OkD (d:Dev):Prop where
 kind:DN d.kind
 bd:1<=d.addr/\d.addr<=99
theorem Fv.dev {p:Place} (h:Fv p) (k:¬V.str p.kind=V.str "opener"):OkD ⟨p.kind,p.addr⟩/\∀d∈p.spur,OkD d:=by
 have e:adP p=p.addr::p.spur.map (·.addr):=if_neg k;have b:=h.bd;rw[e] at b;refine⟨⟨?_,b _ QaN⟩,λd hd=>⟨h.ok.kinds d hd,b _ (QaD _ (QbY.mpr ⟨d,hd,rq⟩))⟩⟩;rcases h.ok.form with⟨z,_⟩| z
 ·exact absurd (congrArg V.str z) k
 ·exact z
theorem Ny {d:Dev} (h:OkD d):(BR d).length<=9:=by
 have h1:=kind_len h.kind;have h2:=DX h.bd;have l2:=ll.2.2.1;rw[CK] at h1 h2 l2;show (L d.kind++(L (Str.ofString " ")++L _)).length<=9;rw[QaM,QaM];omega
theorem PX {y:List Nat} {m:Nat}:∀{ps:List (List Nat)},(∀p∈ps,p.length<=m)->(jnS y ps).length<=ps.length*(m+y.length)
 | [],_=>Qcf _
 | [a],h=>by
  have:=h a QaN;show a.length<=1*(m+y.length);omega
 | a::b::r,h=>by
  have h1:=h a QaN;have h2:=PX (y:=y) (ps:=b::r) λp hp=>h p (QaD _ hp);show (a++(y++jnS y (b::r))).length<=((b::r).length+1)*(m+y.length);rw[QaM,QaM,Nat.add_mul];omega
theorem Mt {α : Type} {f:α->Nat} {m:Nat}:∀{ys:List α},(∀y∈ys,f y<=m)->(ys.map f).sum<=m*ys.length
 | [],_=>Qcf _
 | a::r,h=>by
  have h1:=h a QaN;have h2:=Mt (f:=f) (ys:=r) λy hy=>h y (QaD _ hy);rw[QbT,List.sum_cons,Qbo,Nat.mul_add];omega
theorem Wj {p:Place} (h:Fv p):(Bu p).length<=60:=by
 obtain⟨l0,l1,l2,l3,l4,l5,l6,l7,l8,_⟩:=ll;rw[CK] at l3 l4 l7;unfold Bu;split
 ·show (L (Str.ofString "opener")).length<=60;omega
 rename_i k;obtain⟨d0,ds⟩:=h.dev k;have:=Ny d0;split
 ·omega
 ·have h1:=PX (y:=L ", ") (m:=9) (ps:=p.spur.map BR) λx hx=>by
   obtain⟨d,hd,rfl⟩:=QbY.mp hx;exact Ny (ds d hd)
  have h2:=h.ok.spur;rw[Qbw,show (L ", ").length=2 from l3] at h1
  have l4:(L " : ").length=3:=l4;have h3:(Fi p.spur).length<=p.spur.length*(9+2):=h1;rw[QaM,QaM,l4];omega
section
variable {P:Program} {w:World} {K:YD} {mg:YB} {base:Heap}
inductive Oi (K:YD) (vs:YG) (H:Hp) (Q:VK) (E:XK):Prop
 | mk (v:V) (p:Place) (_:vs=[v]) (_:Hu K H v p) (_:Fv p) (_:∀H',Same H H'->Q (.str (S (Bu p))) H'):Oi K vs H Q E
abbrev xj:YF:=["spur_kind","spur_address"]
theorem U0 (C:Code K mg "show_place" KN Gv):Good P w K mg base "show_place" 1 Gv (Oi K):=by
 refine C.good Ew (λvs H Q E h=>?_) (λf cdv A outer s H vs Q E hr h=>?_)
 ·obtain⟨v,p,rfl,_⟩:=h;rfl
 obtain⟨v,p,rfl,⟨t,u,ds,rfl,ht,hu,hd⟩,ok,q⟩:=h;refine⟨_,(Ae (Eb (pv 0) (Di rfl (Av (Aj (i:=1) Ew.nd rfl (Or.inl rfl)) (Av (Aj (i:=2) Ew.nd rfl (Or.inl rfl)) (Av (Aj (i:=3) Ew.nd rfl (Or.inl rfl)) Ck)))))
 (Ae (BP (Bp Dz (pv 1) Ai (Bx _)) (Ah (Bc (pv 1))) Bq)
 (Ae (Ax (i:=4) Ew.nd rfl (Or.inl rfl) (MF (JG (pv 1) (OJ Ai (JG (pv 2) O1)))))
 (Ae (BP (Ea (QG (pv 3) (λ_=>rfl))) (Ah (Bc (pv 4))) Bq)
 (Ae (Ax (i:=5) Ew.nd rfl (Or.inl rfl) (BJ Qas Qaz QaA Kz Ai (Aa (Cm (N':=xj) rfl (Bs.plain rfl (by trivial) (by trivial) (by trivial)) (Ds (pv 3)) (λ_ _ _ _=>(Pz (K:=K) (n:=2) rfl rfl (Av (Aj (i:=0) (show List.Nodup (xj:YF) by trivial) rfl (Or.inl rfl)) (Av (Aj (i:=1) (show List.Nodup (xj:YF) by trivial) rfl (Or.inl rfl)) Ck)))) (λ_ _ _ _=>CW) (λ_ _ _ _=>(MF (JG (pv 0) (OJ Ai (JG (pv 1) O1)))))) Ab)))
 (Ah (Bc (MF (JG (pv 4) (OJ Ai (JG (pv 5) O1))))))))))),?_⟩
 show let R0:TS:=_;let R1:TS:=Ar _ R0;let R2:TS:=Ar _ R1;let R3:TS:=Ar _ R2;let R4:TS:=Ar _ R3;Ar _ R4 _ _ _;intro R0 R1 R2 R3 R4;obtain⟨l0,l1,l2,l3,l4,l5,l6,l7,l8,l9⟩:=ll;refine⟨_,rq,t,_,rq,ht.sq,rq,_,_,rq,_,_,rq,_,_,rq,rq,?_⟩;refine⟨_,rq,rq,_,rq,ifS (λe=>?_) (λe=>?_)⟩
 ·have:=q H (Same.refl _);unfold Bu at this;rw[if_pos (congrArg V.str e)] at this;exact⟨_,rq,by rw[e];exact this⟩
 have dv:=ok.dev (λz=>e (by injection z));have k6:p.kind.length<=6:=kind_len dv.1.kind;have n2:(Str.ofString (toString p.addr)).length<=2:=DX dv.1.bd;have nl:p.addr.natAbs.log2 < 1920:=FQ dv.1.bd;refine⟨_,rq,p.kind,.inl rfl,szb (by simp only[QaZ,l0];omega),_,rq,szb (by simp only[QaZ,l0,l2];omega),_,rq,Str.ofString (toString p.addr),.inr ⟨_,rq,nl,rq⟩,szb (by simp only[QaZ,l0,l2];omega),szb (by simp only[QaZ,l0,l2];omega),?_⟩;refine⟨_,rq,_,.inr (.inl ⟨_,hu.sq,rq⟩),?_⟩;have lds:=QbR hd;have s3:=ok.ok.spur;have fin:∀(y:Str) (H':Hp),Same H H'->L y=Bu p->Q (.str y) H':=λy H' s e=>by
  rw[show y=S (Bu p) from Fq e]
  exact q H' s
 cases hsp:p.spur with
 | nil=>
  rw[hsp] at lds;have ed:ds=[]:=Qaq.mp lds;subst ed;refine Bl ⟨_,rq,fin _ _ (Same.refl _) ?_⟩;unfold Bu;rw[if_neg (λz=>e (by injection z)),if_pos hsp];simp only[Df,Vu,List.nil_append,Qba];rfl
 | cons d0 dr=>
 have ne:p.spur≠[]:=by rw[hsp];exact List.cons_ne_nil _ _
 rw[hsp] at lds;have en:ds≠[]:=λz=>by rw[z] at lds;cases lds
 have:(!ds.isEmpty)=true:=by cases ds with | nil=>exact absurd rfl en | cons=>rfl
 refine QV (by rw[this];rfl) ?_;refine⟨rq,_,rq,u,rq,⟨_,hu.sq⟩,λl hl=>?_⟩;let J0:YN:=λi σ HX=>∃(u1 u2:Option V),σ=[u1,u2]/\HX l=some (.lst (((p.spur.take i).map λd=>S (BR d)).map V.str))/\Same H HX;refine Js (xs:=ds) J0 ⟨none,none,rq,Ac,Af hl _⟩ (λi σ HX _ h=>?_) (λi x σ HX hx h=>?_) (fun σ HX h=>?_)
 ·obtain⟨_,_,rfl,_,s⟩:=h;exact (hu.same s).sq
 ·obtain⟨_,_,rfl,e1,s⟩:=h;obtain⟨d,hdi,td,rfl,htd⟩:=Paired.Ed hd hx;have dd:=dv.2 d (QaE hdi);have k6:=kind_len dd.kind;have n2:=DX dd.bd;have nl:=FQ dd.bd;refine⟨td,_,rq,SqT.of (s _ _ htd),rq,_,_,rq,_,_,rq,rq,?_⟩;refine Bl ⟨_,rq,d.kind,.inl rfl,szb (by simp only[QaZ,l0];omega),_,rq,szb (by simp only[QaZ,l0,l2];omega),_,rq,Str.ofString (toString d.addr),.inr ⟨_,rq,nl,rq⟩,szb (by simp only[QaZ,l0,l2];omega),szb (by simp only[QaZ,l0,l2];omega),?_⟩;refine⟨_,e1,Bb (by rw[Qbw,Qbw,Qbn];omega),_,_,rq,?_,s.CQ Ag.upd hl⟩;rw[Ac,Qcn hdi,Qbx,Qbx];congr 3;refine congrArg (λz=>[V.str z]) (Fq ?_);simp only[Df,Vu,List.nil_append,Qba,L_S];rfl
 obtain⟨_,_,rfl,e1,s⟩:=h;have ll':ds.length=p.spur.length:=by rw[hsp];exact lds
 rw[ll',Qbp] at e1;have e0:(p.spur.map λd=>S (BR d)).map L=p.spur.map BR:=by rw[Qcc];rfl
 have hj:L (Txt.join (Str.ofString ", ") (p.spur.map λd=>S (BR d)))=Fi p.spur:=by
  show L (Builtin.Str.glued _ _)=_;rw[QaB,QS,e0];rfl
 have hlen:(Fi p.spur).length<=33:=by
  have h1:=PX (y:=L ", ") (m:=9) (ps:=p.spur.map BR) λx hx=>by
   obtain⟨d,hd,rfl⟩:=QbY.mp hx;exact Ny (dv.2 d hd)
  rw[CK] at l3;rw[Qbw,show (L ", ").length=2 from l3] at h1
  exact Qca h1 (by omega)
 have hjl:=hlen;rw[<-hj,<-CK] at hjl;refine⟨_,l,_,rq,rq,SqL.of e1,?_,?_⟩
 ·have:=Mt (f:=λx:Str=>x.length) (m:=9) (ys:=p.spur.map λd=>S (BR d)) λx hx=>by
   obtain⟨d,hd,rfl⟩:=QbY.mp hx;show (S (BR d)).length<=9;rw[Dm];exact Ny (dv.2 d hd)
  rw[Qbw] at this;rw[show (Str.ofString ", ").length=2 from l3,Qbw]
  omega
 refine⟨_,rq,_,.inl rfl,szb (by simp only[QaZ,l0,l2];omega),_,rq,szb (by simp only[QaZ,l0,l2,l4];omega),_,rq,_,.inl rfl,szb (by simp only[QaZ,l0,l2,l4];omega),szb (by simp only[QaZ,l0,l2,l4];omega),?_⟩;refine fin _ _ s ?_;unfold Bu;rw[if_neg (λz=>e (by injection z)),if_neg ne];simp only[Df,Vu,List.nil_append,hj];generalize Fi p.spur=g;simp only[BR,Qba];rfl
inductive Oh (vs:YG) (H:Hp) (Q:VK) (E:XK):Prop
 | mk (v:V) (z:Zone) (_:vs=[v]) (_:Fp H v z) (_:ZnB z) (_:∀H',Same H H'->Q (.str (S (BL z))) H'):Oh vs H Q E
theorem Wu (C:Code K mg "show_zone" Lz Hh) (T:Nm mg):Good P w K mg base "show_zone" 1 Hh Oh:=by
 refine C.good KJ (λvs H Q E h=>?_) (λf cdv A outer s H vs Q E hr h=>?_)
 ·obtain⟨v,z,rfl,_⟩:=h;rfl
 obtain⟨v,z,rfl,⟨t,u,rfl,ht,hu⟩,ok,q⟩:=h;refine⟨_,(Ae (Eb (pv 0) (Di rfl (Av (Aj (i:=1) KJ.nd rfl (Or.inl rfl)) (Av (Aj (i:=2) KJ.nd rfl (Or.inl rfl)) Ck))))
 (Ah (Bc (BJ Qas Qaz QaA Kz Ai (Aa (Aw RB (BZ (Aa Ai (Aa (pv 1) Ab))) (Cm (N':=["address"]) rfl (Bs.plain rfl (by trivial) (by trivial) (by trivial)) (Ds (pv 2)) (λ_ _ _ _=>(Aj (i:=0) (show List.Nodup (["address"]:YF) by trivial) rfl (Or.inl rfl))) (λ_ _ _ _=>CW) (λ_ _ _ _=>(Cj FJ rfl T.str JX (Aa (pv 0) Ab))))) Ab))))),?_⟩
 show let R0:TS:=_;Ar _ R0 _ _ _;intro R0;obtain⟨l0,l1,l2,l3,l4,l5,l6,l7,l8,l9⟩:=ll;refine⟨_,rq,t,_,rq,SqT.of ht,rq,_,_,rq,_,_,rq,rq,?_⟩;refine⟨rq,_,rq,Am (by show 2<=1000;decide),λp1 hp1=>⟨_,rq,u,rq,⟨_,SqT.of (Af hp1 _ _ _ hu)⟩,λl hl=>?_⟩⟩;have s1:=Af hp1 (.lst [.str "zone",.str z.name]);have c1:upd H p1 (.lst [.str "zone",.str z.name]) p1=some (.lst [.str "zone",.str z.name]):=Ac;generalize upd H p1 (.lst [.str "zone",.str z.name])=H1 at *;let J1:YN:=λi σ HX=>∃(u1:Option V),σ=[u1]/\HX l=some (.lst (((z.adr.take i).map λd=>(Str.ofString (toString d))).map V.str))/\Same H1 HX;refine Js (xs:=z.adr.map V.int) J1 ⟨none,rq,Ac,Af hl _⟩ (λi σ HX _ h=>?_) (λi x σ HX hx h=>?_) (fun σ HX h=>?_)
 ·obtain⟨_,rfl,_,s⟩:=h;exact SqT.of (s _ _ (s1 _ _ hu))
 ·obtain⟨_,rfl,e1,s⟩:=h;rw[Qbc] at hx;obtain⟨a,ha,rfl⟩:=Qat.mp hx;have ba:=ok.bd a (QaE ha);have u3:=ok.up.2.2;unfold Ef;dsimp only;refine Bl ⟨_,rq,a,rq,FQ ba,?_⟩;refine⟨_,e1,Bb (by rw[Qbw,Qbw,Qbn];omega),_,rq,?_,s.CQ Ag.upd hl⟩;rw[Ac,Qcn ha,Qbx,Qbx];rfl
 obtain⟨_,rfl,e1,s⟩:=h;rw[Qbw,Qbp] at e1;have u3:=ok.up.2.2;refine⟨p1,l,_,_,rq,rq,s _ _ c1,e1,Am (by rw[Qbw,Qbw];show 2+_<=1000;omega),λp2 hp2=>?_⟩;have s2:=Af hp2 (.lst ([V.str "zone",.str z.name]++(z.adr.map λd=>(Str.ofString (toString d))).map V.str));refine⟨_,p2,Str.ofString "zone"::z.name::(z.adr.map λd=>(Str.ofString (toString d))),rq,rq,SqL.of Ac,?_,?_⟩
 ·have:=Mt (f:=λx:Str=>x.length) (m:=2) (ys:=z.adr.map λd=>(Str.ofString (toString d))) λx hx=>by
   obtain⟨d,hd,rfl⟩:=QbY.mp hx;exact DX (ok.bd d hd)
  rw[Qbw] at this;have n8:=ok.nm.1.2;rw[show (Str.ofString " ").length=1 from l2]
  simp only[QbT,List.sum_cons,Qbo,Qbw];omega
 have hj:L (Txt.join (Str.ofString " ") (Str.ofString "zone"::z.name::(z.adr.map λd=>(Str.ofString (toString d)))))=BL z:=by
  show L (Builtin.Str.glued _ _)=_;rw[QaB,QS,QbT,QbT,Qcc];rfl
 rw[show Txt.join _ _=S (BL z) from Fq hj]
 exact q _ (s1.trans (s.trans s2))
end
theorem iM {z:Zone} (h:ZnB z):(BL z).length<=290:=by
 have l2:=ll.2.2.1;rw[CK] at l2;have h1:=PX (y:=L " ") (m:=8) (ps:=L "zone"::L z.name::z.adr.map Bm) λx hx=>by
  rcases QbQ.mp hx with rfl | hx
  ·exact (by trivial:(L "zone").length<=8)
  ·rcases QbQ.mp hx with rfl | hx
   ·rw[<-CK];exact h.nm.1.2
   ·obtain⟨d,hd,rfl⟩:=QbY.mp hx;have:=DX (h.bd d hd);rw[CK] at this;exact Qca this (by decide)
 rw[show (L " ").length=1 from l2,Qbo,Qbo,Qbw] at h1
 have:=h.up.2.2;exact Qca h1 (by omega)
theorem PlF.place {most:Int} {ja:YU} {jp:List Zone} (h:PlF most ja jp) {ps:List Place} (hps:ps∈ja) {p:Place} (hp:p∈ps):Fv p:=
 ⟨(h.ok.ok ps hps).ok p hp,λx hx=>h.bd x (Qbt.mpr ⟨ps,hps,Qbt.mpr ⟨p,hp,hx⟩⟩)⟩
theorem Ks {α β : Type} {f:α->List β} {m:Nat}:∀{l:List α},(∀x∈l,(f x).length<=m)->(l.flatMap f).length<=m*l.length
 | [],_=>Qcf _
 | a::r,h=>by
  have h1:=h a QaN;have h2:=Ks (f:=f) (l:=r) λy hy=>h y (QaD _ hy);rw[Qbe,QaM,Qbo,Nat.mul_add];omega
theorem Pa {ps:List Place} (h:OkL ps):(Bv ps).length<=13:=by
 have:=h.hi;show (ps.map Bu).length+1<=13;rw[Qbw];omega
theorem Ib {most:Int} {ja:YU} {jp:List Zone} (h:PlF most ja jp):(Ao most ja jp).length<=50/\∀r∈Ao most ja jp,r.length<=290:=by
 have h1:=Ks (f:=Bv) (m:=13) (l:=ja) λps hps=>Pa (h.ok.ok ps hps);have h2:=h.ok.hi;have h3:=h.M4;refine⟨?_,λr hr=>?_⟩
 ·show (ja.flatMap Bv++jp.map BL).length+1<=50;rw[QaM,Qbw];omega
 ·rcases QbQ.mp hr with rfl | hr
  ·have:=DX (a:=most) ⟨h.mo.1,by have:=h.mo.2;omega⟩;rw[CK] at this;have l6:=ll.2.2.2.2.2.2.1;rw[CK] at l6;rw[QaM];show (L (Str.ofString "most ")).length+(L _).length<=290;omega
  ·rcases Qby.mp hr with hr | hr
   ·obtain⟨ps,hps,hr⟩:=Qbt.mp hr;rcases QbQ.mp hr with rfl | hr
    ·exact (by trivial:(L "loop").length<=290)
    ·obtain⟨p,hp,rfl⟩:=QbY.mp hr;exact Qca (Wj (h.place hps hp)) (by decide)
   ·obtain⟨z,hz,rfl⟩:=QbY.mp hr;exact iM (h.zb z hz)
theorem Qn:∀ys:YF,L (Str.join (Str.ofString "") ys)=(ys.map L).flatten
 | []=>by trivial
 | [a]=>by show L a=L a++[];rw[QbA]
 | a::b::r=>by
  have e:L (Str.ofString "")=[]:=by trivial
  show L ((a++(Str.ofString ""))++Str.join (Str.ofString "") (b::r))=L a++((b::r).map L).flatten;rw[Df,Df,Qn (b::r),e,QbA]
theorem Nt (ys:YF):L (Txt.join (Str.ofString "") ys)=(ys.map L).flatten:=by
 show L (Builtin.Str.glued _ ys)=_;rw[QaB];exact Qn ys
def vS (l:List (List Nat)):YG:=l.map λr=>V.str (S r)
theorem Dg (a b:List (List Nat)):vS (a++b)=vS a++vS b:=Qbx
section
variable {P:Program} {w:World} {K:YD} {mg:YB} {base:Heap}
inductive Im (K:YD) (vs:YG) (H:Hp) (Q:VK) (E:XK):Prop
 | mk (pl:Addr) (most:Int) (ja:YU) (jp:List Zone) (_:vs=[.ref pl]) (_:PlA K H pl most ja jp) (_:∀H',Same H H'->Q (.str (S (Cv most ja jp))) H'):Im K vs H Q E
theorem Wv (C:Code K mg "show_plan" LC Hi) (T:Nm mg) (Xd:Good P w K mg base "show_place" 1 Gv (Oi K)) (Yp:Good P w K mg base "show_zone" 1 Hh Oh):Good P w K mg base "show_plan" 2 Hi (Im K):=by
 refine C.good Fx (λvs H Q E h=>?_) (λf cdv A outer s H vs Q E hr h=>?_)
 ·obtain⟨pl,most,ja,jp,rfl,_⟩:=h;rfl
 obtain⟨pl,most,ja,jp,rfl,pa,q⟩:=h;obtain⟨Ls,zs,ws,zvs,e1,e2,e3,e4,e5⟩:=pa.at_;refine⟨_,(@Ae _ _ _ _ _ (Eb (pv 0) (Di rfl (Av (Aj (i:=1) Fx.nd rfl (Or.inl rfl)) (Av (Aj (i:=2) Fx.nd rfl (Or.inl rfl)) (Av (Aj (i:=3) Fx.nd rfl (Or.inl rfl)) Ck)))))
 (@Ae _ _ _ _ _ (@Ax _ _ 4 _ _ _ _ Fx.nd rfl (Or.inl rfl) (BZ (Aa (MF (OJ Ai (JG (pv 1) O1))) Ab)) (by rfl) (by first | exact .inl rfl | exact .inr rfl))
 (@Ae _ _ _ _ _ (Dh QbC rfl (Ds (pv 2)) (Aj (i:=5) Fx.nd rfl (Or.inl rfl))
 (@Ae _ _ _ _ _ (Cr (BJ Qan Qai Qaj Cu (pv 4) (Aa Ai Ab)))
 (@Ah _ _ _ (Cr (BJ Qan Qal Qam Lp (pv 4) (Aa (Cm (N':=["place"]) rfl (Bs.plain rfl (by trivial) (by trivial) (by trivial)) (Ds (pv 5)) (λ_ _ _ _=>(Aj (i:=0) (show List.Nodup (["place"]:YF) by trivial) rfl (Or.inl rfl))) (λ_ _ _ _=>CW) (λ_ _ _ _=>(Ca Xd hr (Aa (pv 0) Ab)))) Ab))))))
 (@Ae _ _ _ _ _ (Cr (BJ Qan Qal Qam Lp (pv 4) (Aa (Cm (N':=["zone"]) rfl (Bs.plain rfl (by trivial) (by trivial) (by trivial)) (Ds (pv 3)) (λ_ _ _ _=>(Aj (i:=0) (show List.Nodup (["zone"]:YF) by trivial) rfl (Or.inl rfl))) (λ_ _ _ _=>CW) (λ_ _ _ _=>(Ca Yp hr (Aa (pv 0) Ab)))) Ab)))
 (@Ah _ _ _ (@Bc _ _ _ _ (BJ Qas Qaz QaA Kz Ai (Aa (Cm (N':=Hr) rfl (Bs.plain rfl (by trivial) (by trivial) (by trivial)) (Ey (pv 4)) (λ_ _ _ _=>(Aj (i:=0) (show List.Nodup (Hr:YF) by trivial) rfl (Or.inl rfl))) (λ_ _ _ _=>CW) (λ_ _ _ _=>(MF (JG (pv 0) (OJ Ai O1))))) Ab)))))))),?_⟩
 show let R0:TS:=_;let R1:TS:=Ar _ R0;let R2:TS:=_;let R3:TS:=Ar _ R2;let R4:TS:=Ar (Et _ _ R3) R1;let R5:TS:=Ar _ R4;Ar _ R5 _ _ _;intro R0 R1 R2 R3 R4 R5;obtain⟨l0,l1,l2,l3,l4,l5,l6,l7,l8,l9⟩:=ll;have mb:1<=most/\most<=99:=⟨pa.mo.1,by have:=pa.mo.2;omega⟩;have ml:=DX mb;have pf:=pa.toPlF;generalize hst:L2.start _ _=σ0;have e0:σ0=[js pl,none,none,none,none,none]:=hst.symm;clear hst;subst e0;refine⟨_,rq,pl,_,rq,SqT.of e1,rq,_,_,rq,_,_,rq,_,_,rq,rq,?_⟩;refine⟨_,rq,szb (by simp only[QaZ,l0,l6];omega),_,rq,Str.ofString (toString most),.inr ⟨_,rq,FQ mb,rq⟩,szb (by simp only[QaZ,l0,l6];omega),szb (by simp only[QaZ,l0,l6];omega),Am (by show 1<=1000;decide),λlr hlr=>?_⟩;simp only[QaP,QaO];have hd:∀y:Str,y=(Str.empty++Str.ofString "most ")++Str.ofString (toString most)->V.str y=V.str (S (L "most "++Bm most)):=λy e=>congrArg V.str (Fq (by rw[e,Df,Df];rfl));rw[hd _ rfl];have c0:upd H lr (.lst [V.str (S (L "most "++Bm most))]) lr=some (.lst (vS [L "most "++Bm most])):=Ac;have s0:=Af hlr (.lst [V.str (S (L "most "++Bm most))]);generalize upd H lr (.lst [V.str (S (L "most "++Bm most))])=H1 at *;have c0':=c0;refine⟨_,rq,Ls,rq,⟨_,SqT.of (s0 _ _ e2)⟩,?_⟩;have rl:=(Ib pf).1;have rlen:(ja.flatMap Bv).length<=49:=by
  have:(Ao most ja jp).length=(ja.flatMap Bv++jp.map BL).length+1:=rfl;rw[QaM] at this;omega
 have tk:∀i,((ja.take i).flatMap Bv).length<=39:=λi=>by
  have h1:=Ks (f:=Bv) (m:=13) (l:=ja.take i) λps hps=>Pa (pf.ok.ok ps (QaG hps));have h2:=pf.ok.hi;rw[Qbn] at h1;omega
 let J0:YN:=λi σ HX=>∃(u5:Option V),σ=[js pl,some (.int most),js Ls,js zs,js lr,u5]/\HX lr=some (.lst (vS ((L "most "++Bm most)::(ja.take i).flatMap Bv)))/\Ag lr H HX/\H lr=none;refine G4 (xs:=ws) J0 ⟨_,rq,c0,Ag.of s0,hlr⟩ (λi σ HX _ h=>?_) (λi x σ HX hx h=>?_) (fun σ HX h=>?_)
 ·obtain⟨_,rfl,_,s,f⟩:=h;exact SqT.of (s _ _ e2 (Aq e2 f))
 ·obtain⟨_,rfl,c1,s,f⟩:=h;simp only[QaP,QaO];obtain⟨ps,hps,tp,vp,rfl,h1,h2⟩:=Paired.Ed e3 hx;have psm:=QaE hps;have tki:=tk i;have oks:=pf.ok.ok ps psm;have v1:=s.tup (λxs z=>by rw[f] at z;cases z);refine⟨_,rq,.inl ⟨rq,_,SqL.of c1⟩,lr,_,_,rq,rq,c1,Bb (by unfold vS;rw[Qbw,Qbo];omega),?_⟩;have c2:upd HX lr (.lst (vS ((L "most "++Bm most)::(ja.take i).flatMap Bv)++[V.str "loop"])) lr=some (.lst (vS (((L "most "++Bm most)::(ja.take i).flatMap Bv)++[L "loop"]))):=by rw[Ac,Dg];rfl
  have s2:Ag lr H (upd HX lr (.lst (vS ((L "most "++Bm most)::(ja.take i).flatMap Bv)++[V.str "loop"]))):=s.trans Ag.upd;generalize upd HX lr (.lst (vS ((L "most "++Bm most)::(ja.take i).flatMap Bv)++[V.str "loop"]))=H2 at *;have v2:Ba H H2:=s2.tup (λxs z=>by rw[f] at z;cases z);refine⟨_,rq,.inl ⟨rq,_,SqL.of c2⟩,_,rq,tp,rq,⟨_,SqT.of (v2 _ _ h1)⟩,λl hl=>?_⟩;have nl:lr≠l:=Aq c2 hl;let J1:YN:=λj σ HY=>∃(u1:Option V),σ=[u1]/\HY l=some (.lst (vS ((ps.take j).map Bu)))/\Same H2 HY;refine Js (xs:=vp) J1 ⟨none,rq,Ac,Af hl _⟩ (λj σ HY _ h=>?_) (λj x σ HY hx h=>?_) (fun σ HY h=>?_)
  ·obtain⟨_,rfl,_,sy⟩:=h;exact SqT.of (sy _ _ (v2 _ _ h1))
  ·obtain⟨_,rfl,cy,sy⟩:=h;obtain⟨p,hp,hpk⟩:=Paired.Ed h2 hx;unfold Ef;dsimp only;refine Bl ⟨_,rq,x,p,rq,(hpk.tups v2).tups (Ba.of sy),pf.place psm (QaE hp),λHZ sz=>?_⟩;have hi:=oks.hi;refine⟨_,sz _ _ cy,Bb (by unfold vS;rw[Qbw,Qbw,Qbn];omega),_,rq,?_,(sy.trans sz).CQ Ag.upd hl⟩;rw[Ac,Qcn hp,Qbx,Dg];rfl
  obtain⟨_,rfl,cy,sy⟩:=h;rw[QbR h2,Qbp] at cy;have hi:=oks.hi;refine⟨lr,l,_,_,rq,rq,sy _ _ c2,cy,Am (by unfold vS;rw[Qbw,Qbw,Qbw,QaM,Qbo];show _+1+1+_<=1000;omega),?_⟩;refine⟨_,rq,?_,((s2.trans (Ag.of sy)).trans Ag.upd),f⟩;rw[Ac,Qcn hps,QaJ,<-Dg];congr 3;show ((L "most "++Bm most)::((ja.take i).flatMap Bv++[L "loop"]))++ps.map Bu=(L "most "++Bm most)::((ja.take i).flatMap Bv++(Bv ps++[]));rw[QbA,List.cons_append,Qba];rfl
 obtain⟨_,rfl,c1,s,f⟩:=h;rw[QbR e3,Qbp] at c1;simp only[QaP,QaO];have v1:Ba H HX:=s.tup (λxs z=>by rw[f] at z;cases z);refine⟨_,rq,.inl ⟨rq,_,SqL.of c1⟩,_,rq,zs,rq,⟨_,SqT.of (v1 _ _ e4)⟩,λl hl=>?_⟩;let J2:YN:=λj σ HY=>∃(u1:Option V),σ=[u1]/\HY l=some (.lst (vS ((jp.take j).map BL)))/\Same HX HY;refine Js (xs:=zvs) J2 ⟨none,rq,Ac,Af hl _⟩ (λj σ HY _ h=>?_) (λj x σ HY hx h=>?_) (fun σ HY h=>?_)
 ·obtain⟨_,rfl,_,sy⟩:=h;exact SqT.of (sy _ _ (v1 _ _ e4))
 ·obtain⟨_,rfl,cy,sy⟩:=h;obtain⟨z,hz,hzk⟩:=Paired.Ed e5 hx;unfold Ef;dsimp only;refine Bl ⟨_,rq,x,z,rq,(hzk.tups v1).tups (Ba.of sy),pf.zb z (QaE hz),λHZ sz=>?_⟩;have hi:=pf.M4;refine⟨_,sz _ _ cy,Bb (by unfold vS;rw[Qbw,Qbw,Qbn];omega),_,rq,?_,(sy.trans sz).CQ Ag.upd hl⟩;rw[Ac,Qcn hz,Qbx,Dg];rfl
 obtain⟨_,rfl,cy,sy⟩:=h;rw[QbR e5,Qbp] at cy;have hi:=pf.M4;refine⟨lr,l,_,_,rq,rq,sy _ _ c1,cy,Am (by unfold vS;rw[Qbw,Qbw,Qbw,Qbo];show _+1+_<=1000;omega),?_⟩;have c3:upd HY lr (.lst (vS ((L "most "++Bm most)::ja.flatMap Bv)++vS (jp.map BL))) lr=some (.lst (vS (Ao most ja jp))):=by rw[Ac,<-Dg];rfl
 have s3:Ag lr H (upd HY lr (.lst (vS ((L "most "++Bm most)::ja.flatMap Bv)++vS (jp.map BL)))):=(s.trans (Ag.of sy)).trans Ag.upd;generalize upd HY lr (.lst (vS ((L "most "++Bm most)::ja.flatMap Bv)++vS (jp.map BL)))=H3 at *;have rz:=Ib pf;generalize hrs:Ao most ja jp=rs at *;refine⟨rq,_,rq,lr,rq,⟨_,SqL.of c3⟩,λl2 hl2=>?_⟩;let J3:YN:=λj σ HZ=>∃(u1:Option V),σ=[u1]/\HZ l2=some (.lst (((rs.take j).map λr=>S (r++L "\n")).map V.str))/\Same H3 HZ;refine Fo (xs:=vS rs) J3 ⟨none,rq,Ac,Af hl2 _⟩ (λj σ HZ _ h=>?_) (λj x σ HZ hx h=>?_) (fun σ HZ h=>?_)
 ·obtain⟨_,rfl,_,sz⟩:=h;exact SqL.of (sz _ _ c3)
 ·obtain⟨_,rfl,cz,sz⟩:=h;unfold vS at hx;rw[Qbc] at hx;obtain⟨r,hr,rfl⟩:=Qat.mp hx;have DJ:=rz.2 r (QaE hr);have r50:=rz.1;unfold Ef;dsimp only;refine Bl ⟨_,rq,_,.inl rfl,szb (by simp only[QaZ,l0,Dm];omega),_,rq,szb (by simp only[QaZ,l0,l5,Dm];omega),szb (by simp only[QaZ,l0,l5,Dm];omega),?_⟩;refine⟨_,cz,Bb (by rw[Qbw,Qbw,Qbn];omega),_,rq,?_,sz.CQ Ag.upd hl2⟩;rw[Ac,Qcn hr,Qbx,Qbx];congr 3;refine congrArg (λz=>[V.str z]) (Fq ?_);simp only[Df,Vu,List.nil_append,Qba,L_S]
 obtain⟨_,rfl,cz,sz⟩:=h;have lv:(vS rs).length=rs.length:=Qbw _;rw[lv,Qbp] at cz;refine⟨_,l2,_,rq,rq,SqL.of cz,?_,?_⟩
 ·have:=Mt (f:=λx:Str=>x.length) (m:=291) (ys:=rs.map λr=>S (r++L "\n")) λx hx=>by
   obtain⟨r,hr,rfl⟩:=QbY.mp hx;show (S (r++L "\n")).length<=291;rw[CK] at l5;rw[Dm,QaM,show (L "\n").length=1 from l5]
   have:=rz.2 r hr;omega
  rw[Qbw] at this;have r50:=rz.1;rw[show (Str.ofString "").length=0 from l9,Qbw]
  omega
 have hj:L (Txt.join (Str.ofString "") (rs.map λr=>S (r++L "\n")))=Cv most ja jp:=by
  rw[Nt,Qcc];unfold Cv;rw[hrs];rfl
 rw[show Txt.join _ _=S (Cv most ja jp) from Fq hj]
 exact q _ (λc o e=>sz _ _ (s3 _ _ e (λz=>by rw[z,f] at e;cases e)))
end
abbrev Kd:Stmt:=top 42
abbrev DW:YF:=["text"]
theorem SM:Bf ["text"] DW (Al Kd):=by ac_rfl
abbrev Ke:Stmt:=top 43
abbrev Ga:YF:=["text"]
theorem GK:Bf ["text","kind","blank","number"] Ga (Al Ke):=by ac_rfl
abbrev KQ:Stmt:=top 44
abbrev Gw:YF:=Hr
theorem DR:Bf ["row","here","colon","hung","spur","kind","address"] Gw (Al KQ):=by ac_rfl
def Jv (c:Nat):Prop:=97<=c/\c<=122
theorem mV:∀c∈abc.cps.toList,Jv c:=by
 have h:abc.cps.toList.all (λc=>decide (97<=c/\c<=122))=true:=by trivial
 exact λc hc=>(Qbd (Qbu.mp h c hc):97<=c/\c<=122)
theorem Uj {k:Str} (h:DN k):∀c∈L k,Jv c:=by
 have key:∀k:Str,(L k).all (λc=>decide (97<=c/\c<=122))=true->∀c∈L k,Jv c:=λk h c hc=>(Qbd (Qbu.mp h c hc):97<=c/\c<=122);refine key k ?_;rcases h with rfl | rfl | rfl | rfl <;> decide +kernel
theorem O8 {a:Int} (h:1<=a/\a<=99):∀c∈Bm a,48<=c/\c<=57:=by
 obtain⟨n,rfl,h'⟩:=GR h;exact jU h'
theorem Bt:L " "=[32]/\L ", "=[44,32]/\L " : "=[32,58,32]/\L "\n"=[10]/\L "opener"=[111,112,101,110,101,114]/\L "loop"=[108,111,111,112]/\L "most "=[109,111,115,116,32]/\L "zone"=[122,111,110,101]:=by trivial
def mO (c:Nat):Prop:=c=32\/(48<=c/\c<=57)\/Jv c
theorem Ph {d:Dev} (h:OkD d):∀c∈BR d,mO c:=λc hc=>by
 have l:=Bt.1;unfold BR at hc;rw[l] at hc;simp only[Qby,QaQ] at hc;rcases hc with hc | hc | hc
 ·exact .inr (.inr (Uj h.kind c hc))
 ·exact .inl hc
 ·exact .inr (.inl (O8 h.bd c hc))
theorem MN {c:Nat} (h:mO c):c≠58/\c≠44/\c≠10:=by
 unfold mO Jv at h;omega
structure Tf (K:YD) (mg:YB) (op oe:Addr):Prop extends Tx K mg op oe where
 FIGURES:∃u,mg "FIGURES"=some u/\RelV (.str "0123456789") u
theorem all_map {α : Type} (f:α->Bool) (l:List α):(l.map f).all id=l.all f:=by rw[List.all_map];rfl
section
variable {P:Program} {w:World} {K:YD} {mg:YB} {base:Heap} {op oe:Addr}
theorem Xb {ds:List Dev} (h:∀d∈ds,OkD d):∀p∈ds.map BR,44∉p:=λp hp hc=>by
 obtain⟨d,hd,rfl⟩:=QbY.mp hp;exact (MN (Ph (h d hd) _ hc)).2.1 rfl
theorem KY {p:Place} (k:¬V.str p.kind=V.str "opener"):Bu p=if p.spur=[] then BR ⟨p.kind,p.addr⟩ else BR ⟨p.kind,p.addr⟩++(L " : "++Fi p.spur):=if_neg k
theorem ZQ (d:Dev):32∈BR d:=by
 unfold BR;rw[Bt.1];exact Qaw _ (QaF _ (QaQ.mpr rfl))
theorem Zo {p:Place} (k:¬V.str p.kind=V.str "opener"):S (Bu p)≠"opener":=λz=>by
 have e:=congrArg L z;rw[L_S,KY k] at e;have h:32∈L (Str.ofString "opener"):=by
  show 32∈L "opener";rw[<-e];split
  ·exact ZQ _
  ·exact QaF _ (ZQ _)
 rw[show L (Str.ofString "opener")=[111,112,101,110,101,114] from Bt.2.2.2.2.1] at h
 exact absurd h (by decide)
end
section
open PySem.W PySem.Spec PySem.Calls PyProof.Rows
theorem VL {prog:Program} {w:World} {A:Around} {E:YA} {s:Shared} {l:Addr} {items:Array Value} {n i:Nat} {Q:YE->Shared->Prop} (hl:s.heap.IsList l items) (hh:A.handled=none) (hi:i < n) (hn:n<=items.size+1) (hz:items.size<=16384)
  (h:∀(h2:Heap) tk,(∀b o,s.heap.get? b=some o->h2.get? b=some o)->Q (items.toList.take i++[.ref h2.objs.size]++(items.toList.drop i).drop (items.size+1 - n)) { s with heap:=h2.push { cls:=.type "list",data:=.seq ((items.toList.drop i).take (items.size+1 - n)).toArray },toks:=tk }):wpAny (model prog w) A (unpackItems (.ref l) n (some i)) Q E s:=by
 have hlt:l≠s.heap.objs.size:=by obtain⟨o,ho,_⟩:=hl;exact Qcb (QbZ ho)
 unfold unpackItems;refine Qcj ?_;unfold notIterableAtAll;refine Qcj (wpAny_specialOf hl.typeIs slot_list_iter.lookup ?_);refine Qck ?_;simp only[Bool.false_eq_true,if_false];refine Qcj (QbU (Qbi hl ?_));refine Qcj (QbU (kun_draw hlt i 0 _ _ ⟨_,QaH _ rfl,rq,rq⟩ (hl.push _) (by omega) λh₁ hit₁ hs₁=>?_));have hl₁ : h₁.IsList l items:=(hl.push _).extBut hs₁.extBut hlt;rw[Nat.zero_add] at hit₁;have hit₁':=hit₁;obtain⟨oi,hoi,_⟩:=hit₁';have hl₁':=hl₁;obtain⟨ol,hol,_⟩:=hl₁';rw[List.drop_zero];have hfl:(items.toList.take i).length=i:=by rw[Qbn,QaI];omega
 rw[if_neg (show ¬((items.toList.take i).length < i) by rw[hfl];omega)];refine Qcj (QbU (kun_collect (s:={ s with heap:=h₁ }) (T:="list_iterator") (.inr (.inr (.inl rfl))) (Walks.list (A:=A.in1) hh s.heap.objs.size l hlt items) (λj u st=>st.1.typeIs) (k:=i) (by omega) ⟨hit₁,hl₁⟩ (QbZ hoi) (QbZ hol) (λh₂ tk hk=>?_) (by rw[Qci];omega)));have hrl:(items.toList.drop i).length=items.size - i:=by rw[Qbq,QaI]
 have hmid:(items.toList.drop i).length - (n - 1 - i)=items.size+1 - n:=by rw[hrl];omega
 show wpAny _ _ (if (items.toList.drop i).length < n - 1 - i then _ else _) _ _ _
 rw[if_neg (by rw[hrl];omega)];show wpAny _ _ (newList ((items.toList.drop i).take ((items.toList.drop i).length - (n - 1 - i))) >>= λd=>pure (items.toList.take i++[d]++(items.toList.drop i).drop ((items.toList.drop i).length - (n - 1 - i)))) _ _ _;rw[hmid];refine Qcj (wpAny_newList (Qck (h h₂ tk λb o e=>?_)) (by rw[Qbn,hrl,Qci];omega));exact hk b o (Qcb (QbZ e)) (hs₁.extBut b o (Qcb (QbZ e)) (Qar _ e))
end
def wG (K:YD) (n i:Nat) (t:TGs):TG:=λv σ H Q=>∃a xs,v=.ref a/\SqL K H a xs/\n<=xs.length+1/\xs.length<=16384/\∀d,H d=none->t (xs.take i++[.ref d]++(xs.drop i).drop (xs.length+1 - n)) σ (upd H d (.lst ((xs.drop i).take (xs.length+1 - n)))) Q
theorem Vals.nu {xs:YG} {us:YE} (r:Vals xs us) (n:Nat):Vals (xs.take n) (us.take n)/\Vals (xs.drop n) (us.drop n):=by
 induction r generalizing n with
 | nil=>cases n <;> exact⟨.nil,.nil⟩
 | cons r rr ih=>
  cases n with
  | zero=>exact⟨.nil,.cons r rr⟩
  | succ n=>exact⟨.cons r (ih n).1,(ih n).2⟩
theorem Vals.uQ {xs ys:YG} {us vs:YE} (r:Vals xs us) (q:Vals ys vs):Vals (xs++ys) (us++vs):=by
 induction r with
 | nil=>exact q
 | cons r rr ih=>exact .cons r ih
section
open PySem.Calls PySem.Spec PyProof.Rows
variable {X:Cx} {pos:Pos}
theorem jJ {e:Expr} {es:YJ} {p:Pos} {t:TG} {u:TGs} (h1:PG X e t) (h2:PGs X es u)
  (hs:(assignEach (.Starred e p::es) X.env).map (·.2)=assign e X.env::(assignEach es X.env).map (·.2):=by rfl):PGs X (.Starred e p::es) (nP t u):=by
 intro jb s σ H vs us Q I r h;obtain⟨v,vr,e1,h⟩:=h;subst e1;cases r with
 | cons r rr=>
  rw[hs];refine assignInOrder_cons (thn (h1 jb s σ H _ _ _ I r h) λ_ s1 zz=>?_);obtain⟨σ1,H1,I1,q1⟩:=zz;exact h2 jb s1 σ1 H1 _ _ Q I1 rr q1
theorem o8 {es:YJ} {k:Nat} {t:TGs} {n i:Nat} (hc:X.calm=true) (h:PGs X es t)
  (hn:(assignEach es X.env).length=n:=by rfl) (hst:(assignEach es X.env).findIdx? (·.1)=some i:=by rfl) (hin:i < n:=by decide):PG X (.Tuple es k pos) (wG X.K n i t):=by
 intro jb s σ H v u Q I r hw;obtain⟨a,xs,e1,hq,hl,hz,hw⟩:=hw;subst e1;cases r;obtain⟨its,rv,ht,_⟩:=I.list hq;have hsz:its.toArray.size=xs.length:=by rw[Qbb,rv.length]
 rw[assign_Tuple];refine Qcj (QbW ?_);unfold unpack;rw[hst,hn];refine Qcj (QbU (VL ht.isList (I.ok.hd hc) hin (by rw[hsz];exact hl) (by rw[hsz];omega) λh2 tk he=>?_));have I1:Inv X jb σ H { s with heap:=h2 }:=I.kept (t':=s.toks) he;have hf:H h2.objs.size=none:=I1.hok.fresh (Qce _);rw[hsz];have ts:=Vals.nu rv i;have td:=Vals.nu ts.2 (xs.length+1 - n);refine h jb _ σ (upd H h2.objs.size (.lst ((xs.drop i).take (xs.length+1 - n)))) _ _ Q (I1.laid (t':=tk) (λb u e=>Qar _ e) (Qce _) ?_) (Vals.uQ (Vals.uQ ts.1 (show Vals [V.ref h2.objs.size] [Value.ref h2.objs.size] from .cons rfl .nil)) td.2) (hw _ hf)
 exact⟨by rw[Qbn,Qbq];exact szb (by omega),_,0,td.1,QaH _ rfl⟩
end
theorem TV {X:Cx} {K:YD} (h:X.K=K):Dn X (.type "tuple") (λxs H Q=>∃p ys,xs=[.ref p]/\((SqL K H p ys/\∀l,H l=none->Q (.ref l) (upd H l (.tup ys)))\/(SqT K H p ys/\Q (.ref p) H))):=h ▸ Cy
end K06
namespace K06
open PySem L2
abbrev LK:Stmt:=top 45
abbrev Hj:YF:=Hr
theorem Io:Bf ["row","word","name","numbers"] Hj (Al LK):=by ac_rfl
abbrev LQ:Stmt:=top 46
abbrev Hl:YF:=["rows"]
theorem Ek:Bf ["rows","loops","zones","row","word","blank","most"] Hl (Al LQ):=by ac_rfl
theorem Vy {z:Zone} (h:ZnB z):∀c∈L z.name,Jv c:=λc hc=>mV c (h.nm.2 c hc)
def Z4 (z:Zone):List (List Nat):=L "zone"::L z.name::z.adr.map Bm
theorem cQ {z:Zone} (h:ZnB z):∀p∈Z4 z,∀c∈p,(48<=c/\c<=57)\/Jv c:=λp hp c hc=>by
 rcases QbQ.mp hp with rfl | hp
 ·rw[Bt.2.2.2.2.2.2.2] at hc;have:∀c∈[122,111,110,101],97<=c/\c<=122:=by decide
  exact .inr (this c hc)
 ·rcases QbQ.mp hp with rfl | hp
  ·exact .inr (Vy h c hc)
  ·obtain⟨a,ha,rfl⟩:=QbY.mp hp;exact .inl (O8 (h.bd a ha) c hc)
theorem Y8 {z:Zone} (h:ZnB z):∀p∈Z4 z,32∉p:=λp hp hc=>by
 have:=cQ h p hp 32 hc;unfold Jv at this;omega
section
variable {P:Program} {w:World} {K:YD} {mg:YB} {base:Heap} {op oe:Addr}
end
inductive Rw where
 | lp
 | pl (p:Place)
 | zn (z:Zone)
def Rw.txt:Rw->List Nat
 | .lp=>L "loop"
 | .pl p=>Bu p
 | .zn z=>BL z
def bH (ps:List Place):List Rw:=.lp::ps.map .pl
def Dp (ja:YU) (jp:List Zone):List Rw:=ja.flatMap bH++jp.map .zn
theorem KR (ja:YU) (jp:List Zone):(Dp ja jp).map Rw.txt=ja.flatMap Bv++jp.map BL:=by
 unfold Dp;rw[Qbx,Qcc,List.map_flatMap];congr 1;refine congrArg (λf=>List.flatMap f ja) (funext λps=>?_);show L "loop"::(ps.map Rw.pl).map Rw.txt=L "loop"::ps.map Bu;rw[Qcc];rfl
abbrev RS:=YU×List Zone
def cI:YU->Place->YU
 | [],p=>[[p]]
 | [a],p=>[a++[p]]
 | a::b::r,p=>a::cI (b::r) p
theorem gZ (l:YU) (a:List Place) (p:Place):cI (l++[a]) p=l++[a++[p]]:=by
 induction l with
 | nil=>rfl
 | cons b r ih=>
  cases r with
  | nil=>rfl
  | cons c r=>exact congrArg (b::·) ih
def stR (s:RS):Rw->RS
 | .lp=>(s.1++[[]],s.2)
 | .pl p=>(cI s.1 p,s.2)
 | .zn z=>(s.1,s.2++[z])
def foR (l:List Rw):RS:=l.foldl stR ([],[])
theorem Nx:∀(ps:List Place) (s:YU) (a:List Place) (zs:List Zone),(ps.map Rw.pl).foldl stR (s++[a],zs)=(s++[a++ps],zs)
 | [],s,a,zs=>by rw[QbA];rfl
 | p::r,s,a,zs=>by
  show (r.map Rw.pl).foldl stR (cI (s++[a]) p,zs)=_;rw[gZ,Nx r s (a++[p]) zs,Qba];rfl
theorem Lq:∀(ja s:YU) (zs:List Zone),(ja.flatMap bH).foldl stR (s,zs)=(s++ja,zs)
 | [],s,zs=>by rw[QbA];rfl
 | ps::r,s,zs=>by
  rw[Qbe,Qbl];show (r.flatMap bH).foldl stR ((ps.map Rw.pl).foldl stR (s++[[]],zs))=_;rw[Nx ps s [] zs,Lq r,Qba];rfl
theorem Ik:∀(jp:List Zone) (s:YU) (zs:List Zone),(jp.map Rw.zn).foldl stR (s,zs)=(s,zs++jp)
 | [],s,zs=>by rw[QbA];rfl
 | z::r,s,zs=>by
  show (r.map Rw.zn).foldl stR (s,zs++[z])=_;rw[Ik r,Qba];rfl
theorem Qa (ja:YU) (jp:List Zone):foR (Dp ja jp)=(ja,jp):=by
 unfold foR Dp;rw[Qbl,Lq,Ik];rfl
theorem Paired.mem {α β : Type} {F G:α->β->Prop}:∀{l:List α} {r:List β},Paired F l r->(∀a∈l,∀b,F a b->G a b)->Paired G l r
 | _,_,.nil,_=>.nil
 | _,_,.cons h t,g=>.cons (g _ QaN _ h) (Paired.mem t λa ha b=>g a (QaD _ ha) b)
theorem Paired.cZ {α β : Type} {F:α->β->Prop} {a:α}:∀{l:List α} {r:List β},Paired F (l++[a]) r->∃r0 b,r=r0++[b]/\Paired F l r0/\F a b
 | [],_,.cons h .nil=>⟨[],_,rfl,.nil,h⟩
 | x::l,_,.cons h t=>by
  obtain⟨r0,b,e,p,f⟩:=Paired.cZ t;exact⟨_::r0,b,by rw[e];rfl,.cons h p,f⟩
theorem fu {k:Str} (h:DN k):∃c t,L k=c::t/\c≠122/\c≠108:=by
 have key:∀k:Str,(match L k with | c::_=>decide (c≠122/\c≠108) | []=>false)=true->∃c t,L k=c::t/\c≠122/\c≠108:=λk h=>by
  cases e:L k with
  | nil=>rw[e] at h;cases h
  | cons c t=>rw[e] at h;exact⟨c,t,rfl,Qbd h⟩
 refine key k ?_;rcases h with rfl | rfl | rfl | rfl <;> decide +kernel
theorem Lj {p:Place} (h:Fv p):∃c t,Bu p=c::t/\c≠122/\c≠108:=by
 by_cases k:V.str p.kind=V.str "opener"
 ·exact⟨111,[112,101,110,101,114],by unfold Bu;rw[if_pos k];exact Bt.2.2.2.2.1,by decide,by decide⟩
 obtain⟨c,t,e,h1,h2⟩:=fu (h.dev k).1.kind;have e:L p.kind=c::t:=e;rw[KY k];split
 ·exact⟨c,t++(L " "++Bm p.addr),by show L p.kind++_=_;rw[e];rfl,h1,h2⟩
 ·exact⟨c,t++(L " "++Bm p.addr)++(L " : "++Fi p.spur),by show (L p.kind++_)++_=_;rw[e];rfl,h1,h2⟩
theorem Oc (z:Zone):BL z=L (Str.ofString "zone ")++jnS (L " ") (L z.name::z.adr.map Bm):=by
 have e:L "zone"++L " "=L (Str.ofString "zone "):=by trivial
 show L "zone"++(L " "++jnS (L " ") (L z.name::z.adr.map Bm))=_;rw[<-e,Qba]
theorem Y9 (z:Zone):S (BL z)≠"loop":=λe=>by
 have h:=congrArg (λx=>(L x).head?) e;rw[Oc] at h;have e1:L (Str.ofString "zone ")=[122,111,110,101,32]:=by trivial
 have e2:L (Str.ofString "loop")=[108,111,111,112]:=by trivial
 have h:(L (Str.ofString "zone ")++jnS (L " ") (L z.name::z.adr.map Bm)).head?=(L (Str.ofString "loop")).head?:=h;rw[e1,e2] at h;exact absurd (QbB h) (by decide)
theorem Zq {p:Place} (h:Fv p):S (Bu p)≠"loop":=λe=>by
 obtain⟨c,t,ec,h1,h2⟩:=Lj h;have e2:L (Str.ofString "loop")=[108,111,111,112]:=by trivial
 have h:(Bu p).head?=(L (Str.ofString "loop")).head?:=congrArg (λx=>(L x).head?) e;rw[ec,e2] at h;exact h2 (QbB h)
section
variable {P:Program} {w:World} {K:YD} {mg:YB} {base:Heap} {op oe:Addr}
end
theorem Tt {y:List Nat} {c:Nat}:∀{ps:List (List Nat)},c∈jnS y ps->c∈y\/∃p∈ps,c∈p
 | [],h=>by cases h
 | [a],h=>.inr ⟨a,QaN,h⟩
 | a::b::r,h=>by
  have h:c∈a++(y++jnS y (b::r)):=h;rcases Qby.mp h with h | h
  ·exact .inr ⟨a,QaN,h⟩
  ·rcases Qby.mp h with h | h
   ·exact .inl h
   ·rcases Tt h with h |⟨p,hp,h⟩
    ·exact .inl h
    ·exact .inr ⟨p,QaD _ hp,h⟩
theorem oY {p:Place} (h:Fv p):10∉Bu p:=λhc=>by
 obtain⟨l1,l2,l3,l4,l5,_⟩:=Bt;by_cases k:V.str p.kind=V.str "opener"
 ·unfold Bu at hc;rw[if_pos k,l5] at hc;exact absurd hc (by decide)
 obtain⟨d0,ds⟩:=h.dev k;rw[KY k] at hc;split at hc
 ·exact (MN (Ph d0 _ hc)).2.2 rfl
 ·rcases Qby.mp hc with hc | hc
  ·exact (MN (Ph d0 _ hc)).2.2 rfl
  ·rcases Qby.mp hc with hc | hc
   ·rw[l3] at hc;exact absurd hc (by decide)
   ·rcases Tt hc with hc |⟨q,hq,hc⟩
    ·rw[l2] at hc;exact absurd hc (by decide)
    ·obtain⟨d,hd,rfl⟩:=QbY.mp hq;exact (MN (Ph (ds d hd) _ hc)).2.2 rfl
theorem oh {z:Zone} (h:ZnB z):10∉BL z:=λhc=>by
 rcases Tt (ps:=Z4 z) hc with hc |⟨q,hq,hc⟩
 ·rw[Bt.1] at hc;exact absurd hc (by decide)
 ·have:=cQ h q hq _ hc;unfold Jv at this;omega
theorem SX {most:Int} {ja:YU} {jp:List Zone} (h:PlF most ja jp):∀r∈Ao most ja jp,10∉r:=λr hr hc=>by
 obtain⟨l1,l2,l3,l4,l5,l6,l7,l8⟩:=Bt;rcases QbQ.mp hr with rfl | hr
 ·rcases Qby.mp hc with hc | hc
  ·rw[l7] at hc;exact absurd hc (by decide)
  ·have:=O8 (a:=most) ⟨h.mo.1,by have:=h.mo.2;omega⟩ _ hc;omega
 ·rcases Qby.mp hr with hr | hr
  ·obtain⟨ps,hps,hr⟩:=Qbt.mp hr;rcases QbQ.mp hr with rfl | hr
   ·rw[l6] at hc;exact absurd hc (by decide)
   ·obtain⟨p,hp,rfl⟩:=QbY.mp hr;exact oY (h.place hps hp) hc
  ·obtain⟨z,hz,rfl⟩:=QbY.mp hr;exact oh (h.zb z hz) hc
theorem QT {y:List Nat}:∀rows:List (List Nat),jnS y (rows++[[]])=(rows.map λr=>r++y).flatten
 | []=>rfl
 | [a]=>by show a++(y++[])=(a++y)++[];rw[Qba]
 | a::b::r=>by
  show a++(y++jnS y ((b::r)++[[]]))=(a++y)++((b::r).map λr=>r++y).flatten;rw[QT (b::r),Qba]
theorem Xp {xs:YG} {x:V}:Eu (xs++[x]) none (some (-1))=xs:=by
 unfold Eu;have e:HT.sIx (xs++[x]).length (xs++[x]).length (some (-1))=xs.length:=by
  show (if (-1:Int) < 0 then ((-1:Int)+((xs++[x]).length:Int)).toNat else min (-1:Int).toNat (xs++[x]).length)=_
  rw[if_pos (by decide),QaM,Qax];omega
 rw[HT.QF,e,List.drop_zero,Nat.sub_zero];exact QbK rfl
theorem QJ {most:Int} {ja:YU} {jp:List Zone} (h:PlF most ja jp):(Cv most ja jp).length<=14550:=by
 obtain⟨h1,h2⟩:=Ib h;have l4:=Bt.2.2.2.1;have:=Mt (f:=λr:List Nat=>r.length) (m:=291) (ys:=(Ao most ja jp).map λr=>r++L "\n") λx hx=>by
  obtain⟨r,hr,rfl⟩:=QbY.mp hx;have:=h2 r hr;rw[l4,QaM];show _+1<=_;omega
 unfold Cv;rw[List.length_flatten];rw[Qbw] at this;exact Qca this (by omega)
theorem sub_len (x:Str) (a c:Nat):(Builtin.Str.strSub x a c).length<=x.length:=by
 have e:=Sg x a c;rw[CK,e,Qbn,Qbq,<-CK];omega
theorem QK (z y:Str):(Txt.partition z y).1.length<=z.length/\(Txt.partition z y).2.2.length<=z.length:=by
 unfold Txt.partition;split
 ·exact⟨sub_len ..,sub_len ..⟩
 ·exact⟨Qce _,Qcf _⟩
theorem Ut {x y:Str} (y1:1<=y.length):∀{cuts:List Nat} {a f:Nat},a<=x.length->StrLaws.ChainG x y x.length a cuts f->a+cuts.length<=f/\f<=x.length
 | [],a,f,ha,h=>by
  have e:f=a:=h;subst e;exact⟨Qce _,ha⟩
 | c::r,a,f,ha,h=>by
  obtain⟨h1,h2,_,h4⟩:=h;have hc:c+y.length<=x.length:=h2.1;have ih:=Ut y1 hc h4;rw[Qbo];omega
theorem O4 (x:Str) (w:Nat):∀(a:Nat) (cuts:List Nat),(StrLaws.partsFrom x w a cuts).length=cuts.length+1/\∀p∈StrLaws.partsFrom x w a cuts,p.length<=x.length
 | a,[]=>⟨rfl,λp hp=>by rw[QaQ.mp hp];exact sub_len ..⟩
 | a,c::r=>by
  have ih:=O4 x w (c+w) r;refine⟨congrArg (·+1) ih.1,λp hp=>?_⟩;rcases QbQ.mp hp with rfl | hp
  ·exact sub_len ..
  ·exact ih.2 p hp
theorem split_len (x y:Str) (y1:1<=y.length):(Txt.split x y).length<=x.length+1/\1<=(Txt.split x y).length/\∀p∈Txt.split x y,p.length<=x.length:=by
 obtain⟨f,hG,_⟩:=StrLaws.occ_tight x y y1;have hc:=Ut y1 (Qcf _) hG;have one:([x]:YF).length<=x.length+1/\1<=([x]:YF).length/\∀p∈[x],p.length<=x.length:=⟨by show 1<=_;omega,Qce _,λp hp=>by rw[QaQ.mp hp];exact Qce _⟩;unfold Txt.split;split
 ·exact one
 ·split
  ·exact one
  ·rw[StrLaws.partsBetween_eq];have h:=O4 x y.length 0 (Builtin.Str.occurrences x y 0 x.length (x.length+1));exact⟨by rw[h.1];omega,by rw[h.1];omega,h.2⟩
theorem Tz {c:Nat} (h:TQ c=true):48<=c/\c<=57:=by
 rw[ZM] at h;have:=Qbd h;have e:L "0123456789"=[48,49,50,51,52,53,54,55,56,57]:=by trivial
 rw[e] at this;simp only[QbQ,Qbr,Qco] at this;omega
theorem qp:∀a,a < 10->intText? (S [48+a])=some ((a:Nat):Int):=by trivial
theorem qm:∀a,a < 10->∀b,b < 10->intText? (S [48+a,48+b])=some ((10*a+b:Nat):Int):=by trivial
theorem mG {l:List Nat} (h1:1<=l.length) (h2:l.length<=2) (hf:l.all TQ=true):∃n:Int,intText? (S l)=some n/\0<=n/\n<=99:=by
 match l,h1,h2 with
 | [c],_,_=>
  have:=Tz (Qbu.mp hf c QaN);obtain⟨a,rfl⟩ : ∃a,c=48+a:=⟨c - 48,by omega⟩;exact⟨_,qp a (by omega),by omega,by omega⟩
 | [c,d],_,_=>
  have hc:=Tz (Qbu.mp hf c QaN);have hd:=Tz (Qbu.mp hf d (QaD _ QaN));obtain⟨a,rfl⟩ : ∃a,c=48+a:=⟨c - 48,by omega⟩;obtain⟨b,rfl⟩ : ∃b,d=48+b:=⟨d - 48,by omega⟩;exact⟨_,qm a (by omega) b (by omega),by omega,by omega⟩
structure NZ where
 kind:Str
 addr:Option Int
structure Dv where
 kind:Str
 addr:Option Int
 spur:List NZ
structure Jd where
 name:Str
 adr:List (Option Int)
def oV:Option Int->V
 | none=>.non
 | some i=>.int i
def Mu (o:Option Int):Prop:=∀i,o=some i->0<=i/\i<=99
def Kc (H:Hp) (v:V) (d:NZ):Prop:=∃t,v=.ref t/\H t=some (.tup [.str d.kind,oV d.addr])
def G6 (K:YD) (H:Hp) (v:V) (p:Dv):Prop:=∃t u vs,v=.ref t/\TpK K H t [.str p.kind,oV p.addr,.ref u]/\TpK K H u vs/\Paired (Kc H) vs p.spur
def FN (H:Hp) (v:V) (z:Jd):Prop:=∃t u,v=.ref t/\H t=some (.tup [.str z.name,.ref u])/\H u=some (.tup (z.adr.map oV))
theorem Kc.tups {H H':Hp} (s:Ba H H') {v:V} {d:NZ} (h:Kc H v d):Kc H' v d:=by
 obtain⟨t,e,q⟩:=h;exact⟨t,e,s _ _ q⟩
theorem G6.tups {K:YD} {H H':Hp} (s:Ba H H') {v:V} {d:Dv} (h:G6 K H v d):G6 K H' v d:=by
 obtain⟨t,u,vs,e,q1,q2,q3⟩:=h;exact⟨t,u,vs,e,q1.tups s,q2.tups s,Paired.Cd q3 λ_ _ z=>z.tups s⟩
theorem FN.tups {H H':Hp} (s:Ba H H') {v:V} {d:Jd} (h:FN H v d):FN H' v d:=by
 obtain⟨t,u,e,q1,q2⟩:=h;exact⟨t,u,e,s _ _ q1,s _ _ q2⟩
structure XR (m:Nat) (d:NZ):Prop where
 kind:d.kind.length<=m
 addr:Mu d.addr
structure T5 (m:Nat) (p:Dv):Prop where
 kind:p.kind.length<=m
 addr:Mu p.addr
 many:p.spur.length<=m+1
 spur:∀d∈p.spur,XR m d
structure T4 (m:Nat) (z:Jd):Prop where
 name:z.name.length<=m
 many:z.adr.length<=m+1
 adr:∀a∈z.adr,Mu a
section
variable {P:Program} {w:World} {K:YD} {mg:YB} {base:Heap} {op oe:Addr}
inductive Rn (vs:YG) (H:Hp) (Q:VK) (E:XK):Prop
 | mk (z:Str) (_:vs=[.str z]) (_:z.length<=20000) (_:∀o H',Mu o->Same H H'->Q (oV o) H'):Rn vs H Q E
theorem RD (C:Code K mg "read_number" Kd DW) (T:Tf K mg op oe):Good P w K mg base "read_number" 1 DW Rn:=by
 refine C.good SM (λvs H Q E h=>?_) (λf cdv A outer s H vs Q E hr h=>?_)
 ·obtain⟨n,rfl,_⟩:=h;rfl
 obtain⟨z,rfl,hz,q⟩:=h;refine⟨_,(Ae (BP (PW.pt (Kq (Ea (jB Hx Hx Ad (Ay Lg rfl T.len Ep (Aa (pv 0) Ab)) Ad)) (JF (Ea (DK (Ay (GC rfl) rfl T.all JZ (Aa (Cm (N':=["sign"]) rfl (Bs.plain rfl (by trivial) (by trivial) (by trivial)) (Rx (pv 0)) (λ_ _ _ _=>(Aj (i:=0) (show List.Nodup (["sign"]:YF) by trivial) rfl (Or.inl rfl))) (λ_ _ _ _=>CW) (λ_ _ _ _=>(Kw Ue (pv 0) (Rz rfl T.FIGURES) (by with_unfolding_all rfl)))) Ab))))))) (Ah (Bc Wq)) Bq)
 (Ah (Bc (Cj gO rfl T.int Xz (Aa (pv 0) Ab))))),?_⟩
 show let R0:TS:=_;Ar _ R0 _ _ _;intro R0;have ls:z.length<=sizeLine:=szb (by omega);have no:∀H',Same H H'->Q .non H':=λH' s=>q none H' (λi e=>by cases e) s;have ez:S (L z)=z:=S_L z;have lz:=CK z;refine⟨_,rq,_,rq,ls,_,_,rq,rq,_,rq,?_⟩;by_cases h1:1<=z.length
 ·rw[QbM (show (1:Int)<=(z.length:Nat) by omega)];refine Bl ⟨_,_,rq,rq,_,rq,?_⟩;by_cases h2:z.length<=2
  ·rw[QbM (show ((z.length:Nat):Int)<=2 by omega)];refine Bw ⟨_,rq,_,rq,λl hl=>?_⟩;let J0:YN:=λi σ HH=>∃u,σ=[u]/\HH l=some (.lst ((((L z).take i).map TQ).map V.bl))/\Same H HH;refine Nz (z:=z) J0 ⟨_,rq,Ac,Af hl _⟩ (λi c σ HH hc h=>?_) (fun σ HH h=>?_)
   ·obtain⟨u,rfl,e1,e2⟩:=h;have hcl:(L z)[i]?=some c:=by rw[<-hc];exact Array.getElem?_toList ..
    have hi:=(Qaf.mp hcl).1;unfold Ef;dsimp only;refine Bl ⟨_,rq,_,_,rq,rq,_,e1,Bb (by simp;omega),_,rq,?_,e2.CQ Ag.upd hl⟩;rw[Ac,Qcn hcl,Qbx,Qbx];rfl
   obtain⟨u,rfl,e1,s1⟩:=h;have sz:z.cps.size=(L z).length:=lz;rw[sz,Qbp] at e1;refine⟨l,_,rq,SqL.of e1,_,rq,?_⟩;rw[all_map];cases ha:(L z).all TQ with
   | false=>exact Bl (no _ s1)
   | true=>
    obtain⟨n,hn,n0,n9⟩:=mG (by omega) (by omega) ha;rw[ez] at hn;exact Bw ⟨_,rq,_,n,rq,hn,by omega,q (some n) _ (λi e=>by injection e with e;omega) s1⟩
  ·rw[Qbz (show ¬((z.length:Nat):Int)<=2 by omega)];exact Bl (no _ (Same.refl _))
 ·rw[Qbz (show ¬(1:Int)<=(z.length:Nat) by omega)];exact Bw ⟨_,rq,Bl (Bl (no _ (Same.refl _)))⟩
end
section
variable {P:Program} {w:World} {K:YD} {mg:YB} {base:Heap} {op oe:Addr}
inductive aG (vs:YG) (H:Hp) (Q:VK) (E:XK):Prop
 | mk (z:Str) (_:vs=[.str z]) (_:z.length<=20000) (_:∀p d H',XR z.length d->H' p=some (.tup [.str d.kind,oV d.addr])->Same H H'->Q (.ref p) H'):aG vs H Q E
theorem RG (C:Code K mg "read_device" Ke Ga) (Gf:Good P w K mg base "read_number" 1 DW Rn):Good P w K mg base "read_device" 2 Ga aG:=by
 refine C.good GK (λvs H Q E h=>?_) (λf cdv A outer s H vs Q E hr h=>?_)
 ·obtain⟨n,rfl,_⟩:=h;rfl
 obtain⟨z,rfl,hz,q⟩:=h;refine⟨_,(Ae (Eb (BJ Qas PySem.F.slot_str_partition PySem.F.type_str_partition K8 (pv 0) (Aa Ai Ab)) (Di rfl (Av (Aj (i:=1) GK.nd rfl (Or.inl rfl)) (Av (Aj (i:=2) GK.nd rfl (Or.inl rfl)) (Av (Aj (i:=3) GK.nd rfl (Or.inl rfl)) Ck)))))
 (Ah (Bc (CZ (Aa (pv 1) (Aa (Ca Gf hr (Aa (pv 3) Ab)) Ab)))))),?_⟩
 show let R0:TS:=_;Ar _ R0 _ _ _;intro R0;have pl:=QK z " ";refine⟨_,rq,rq,z," ",rq,rq,by trivial,szb (by omega),λp1 hp1=>?_⟩;have s1:=Af hp1 (.tup [.str (Txt.partition z " ").1,.str (Txt.partition z " ").2.1,.str (Txt.partition z " ").2.2]);refine⟨p1,_,rq,SqT.of Ac,rq,_,_,rq,_,_,rq,_,_,rq,rq,?_⟩;refine⟨_,rq,_,rq,(Txt.partition z " ").2.2,rq,by omega,λo H2 ho s2=>⟨Am (by show 2<=1000;decide),λp2 hp2=>?_⟩⟩;exact q p2 ⟨(Txt.partition z " ").1,o⟩ _ ⟨pl.1,ho⟩ Ac (s1.trans (s2.trans (Af hp2 _)))
inductive aF (K:YD) (vs:YG) (H:Hp) (Q:VK) (E:XK):Prop
 | mk (z:Str) (_:vs=[.str z]) (_:z.length<=20000) (_:∀x p H',T5 (z.length+6) p->G6 K H' x p->Same H H'->Q x H'):aF K vs H Q E
theorem Tc (C:Code K mg "read_place" KQ Gw) (T:Tf K mg op oe) (N7:Good P w K mg base "read_device" 2 Ga aG):Good P w K mg base "read_place" 3 Gw (aF K):=by
 refine C.good DR (λvs H Q E h=>?_) (λf cdv A outer s H vs Q E hr h=>?_)
 ·obtain⟨n,rfl,_⟩:=h;rfl
 obtain⟨z,rfl,hz,q⟩:=h;refine⟨_,(Ae (BP (Bp Dz (pv 0) Ai (Bx _)) (Ah (Bc (Rz rfl T.OPENER))) Bq)
 (Ae (Eb (BJ Qas PySem.F.slot_str_partition PySem.F.type_str_partition K8 (pv 0) (Aa Ai Ab)) (Di rfl (Av (Aj (i:=1) DR.nd rfl (Or.inl rfl)) (Av (Aj (i:=2) DR.nd rfl (Or.inl rfl)) (Av (Aj (i:=3) DR.nd rfl (Or.inl rfl)) Ck)))))
 (Ae (Ax (i:=4) DR.nd rfl (Or.inl rfl) (Wr (QG (pv 2) (λ_=>rfl)) (Cm (N':=["text"]) rfl (Bs.plain rfl (by trivial) (by trivial) (by trivial)) (Ey (BJ Qas PySem.F.slot_str_split PySem.F.type_str_split Nq (pv 3) (Aa Ai Ab))) (λ_ _ _ _=>(Aj (i:=0) (show List.Nodup (["text"]:YF) by trivial) rfl (Or.inl rfl))) (λ_ _ _ _=>CW) (λ_ _ _ _=>(Ca N7 hr (Aa (pv 0) Ab)))) (BZ Ab)))
 (Ae (Eb (Ca N7 hr (Aa (pv 1) Ab)) (Di rfl (Av (Aj (i:=5) DR.nd rfl (Or.inl rfl)) (Av (Aj (i:=6) DR.nd rfl (Or.inl rfl)) Ck))))
 (Ah (Bc (CZ (Aa (pv 5) (Aa (pv 6) (Aa (Cj Cy rfl T.tuple Dy (Aa (pv 4) Ab)) Ab)))))))))),?_⟩
 show let R0:TS:=_;let R1:TS:=Ar _ R0;let R2:TS:=Ar _ R1;let R3:TS:=Ar _ R2;Ar _ R3 _ _ _;intro R0 R1 R2 R3;have pl:=QK z " : ";have kop:(Str.ofString "opener").length=6:=ll.2.2.2.2.2.2.2.1;refine⟨_,rq,rq,_,rq,ifS (λ_=>?_) (λ_=>?_)⟩
 ·refine q _ ⟨"opener",some 0,[]⟩ H ⟨by show (Str.ofString "opener").length<=_;rw[kop];omega,(λi e=>by injection e with e;omega),Qcf _,(λd hd=>by cases hd)⟩ ?_ (Same.refl _);exact⟨op,oe,[],rq,.inr ⟨T.opT,by show 3≠2;decide⟩,.inr ⟨T.opE,by show 0≠2;decide⟩,.nil⟩
 refine⟨_,rq,rq,z," : ",rq,rq,by trivial,szb (by omega),λp1 hp1=>?_⟩;generalize ha:(Txt.partition z " : ").1=za at *;generalize hb:(Txt.partition z " : ").2.1=zb at *;generalize hc:(Txt.partition z " : ").2.2=zc at *;have lb:zb.length<=3:=by
  rw[<-hb];unfold Txt.partition;split
  ·show (Str.ofString " : ").length<=3;rw[ll.2.2.2.2.1];exact Qce _
  ·exact Qcf _
 have s1:=Af hp1 (.tup [.str za,.str zb,.str zc]);have c1:upd H p1 (.tup [.str za,.str zb,.str zc]) p1=some (.tup [.str za,.str zb,.str zc]):=Ac;generalize upd H p1 (.tup [.str za,.str zb,.str zc])=H1 at *;refine⟨p1,_,rq,SqT.of c1,rq,_,_,rq,_,_,rq,_,_,rq,rq,?_⟩;refine⟨_,rq,_,⟨szb (by omega),rq⟩,?_⟩;have fin:∀(l:Addr) (ys:YG) (ds:List NZ) (H4:Hp),H4 l=some (.lst ys)->Paired (Kc H4) ys ds->ds.length<=z.length+1->(∀d∈ds,XR (z.length+6) d)->Same H1 H4->∀(d:NZ) (p4:Addr) (H5:Hp),XR z.length d->H5 p4=some (.tup [.str d.kind,oV d.addr])->Same H4 H5->∀t1,H5 t1=none->∀t2,upd H5 t1 (.tup ys) t2=none->Q (.ref t2) (upd (upd H5 t1 (.tup ys)) t2 (.tup [.str d.kind,oV d.addr,.ref t1])):=λl ys ds H4 e1 e2 e3 e4 s4 d p4 H5 hd hp4 s5 t1 ht1 t2 ht2=>by
  have w1:=Af ht1 (.tup ys);have w2:=Af ht2 (.tup [.str d.kind,oV d.addr,.ref t1]);refine q _ ⟨d.kind,d.addr,ds⟩ _ ⟨Qca hd.kind (by omega),hd.addr,by show ds.length<=_;omega,e4⟩ ⟨t2,t1,ys,rq,.inl Ac,.inl (w2 _ _ Ac),Paired.Cd e2 λ_ _ z=>z.tups (Ba.of (s5.trans (w1.trans w2)))⟩ ((((s1.trans s4).trans s5).trans w1).trans w2)
 refine Jr (λ_=>?_) (λ_=>?_)
 ·refine⟨_,rq,rq,zc,", ",rq,rq,by trivial,Qca (show zc.length+2<=100000 by omega) GJ,λp2 hp2=>?_⟩;obtain⟨n1,_,n3⟩:=split_len zc ", " (by trivial);generalize hsp:Txt.split zc ", "=ts at *;have s2:=Af hp2 (.lst (ts.map V.str));have c2:upd H1 p2 (.lst (ts.map V.str)) p2=_:=Ac;generalize upd H1 p2 (.lst (ts.map V.str))=H2 at *;refine⟨p2,rq,⟨_,SqL.of c2⟩,λl hl=>?_⟩;let J0:YN:=λ(i:Nat) (σ : St) (HX:Hp)=>∃(b1:Option V) (ys:YG) (ds:List NZ),σ=[b1]/\HX l=some (.lst ys)/\Paired (Kc HX) ys ds/\ds.length=i/\(∀d∈ds,XR (z.length+6) d)/\Same H2 HX;refine Fo (xs:=ts.map V.str) J0 ⟨none,[],[],rq,Ac,.nil,rq,(λd hd=>by cases hd),Af hl _⟩ (λi σ HX _ h=>?_) (λi x σ HX hx h=>?_) (fun σ HX h=>?_)
  ·obtain⟨_,_,_,rfl,_,_,_,_,s⟩:=h;exact SqL.of (s _ _ c2)
  ·obtain⟨b1,ys,ds,rfl,ey,py,ly,oy,s⟩:=h;rw[Qbc] at hx;obtain⟨t,hu,rfl⟩:=Qat.mp hx;have ht:=n3 t (QaE hu);have hi:=(Qaf.mp hu).1;have yl:=QbR py;unfold Ef;dsimp only;refine Bl ⟨_,rq,t,rq,by omega,λp3 d HY od hp3 sy=>?_⟩;have ey':=sy _ _ ey;have tv:Ba HY (upd HY l (.lst (ys++[.ref p3]))):=(Ag.upd (b:=l)).tup λxs z=>by rw[ey'] at z;cases z
   refine⟨ys,ey',QaS (show ys.length < 100000 by omega) GJ,_,_,ds++[d],rq,Ac,Qch ⟨p3,rq,tv _ _ hp3⟩ (Paired.Cd py λ_ _ z=>(z.tups (Ba.of sy)).tups tv),by rw[QaM,ly];rfl,λe he=>?_,(s.trans sy).CQ Ag.upd hl⟩;rcases Qby.mp he with he | he
   ·exact oy e he
   ·rw[QaQ.mp he];exact⟨Qca od.kind (by omega),od.addr⟩
  ·obtain⟨b1,ys,ds,rfl,ey,py,ly,oy,s⟩:=h;rw[Qbw] at ly;refine⟨_,rq,za,rq,by omega,λp4 d H4 od hp4 sd=>?_⟩;refine⟨p4,_,rq,SqT.of hp4,rq,_,_,rq,_,_,rq,rq,?_⟩;refine⟨_,rq,_,rq,_,rq,l,_,rq,.inl ⟨SqL.of (sd _ _ ey),λt1 ht1=>⟨Am (by show 3<=1000;decide),λt2 ht2=>?_⟩⟩⟩;exact fin l ys ds HX ey py (by omega) oy (s2.trans s) d p4 H4 ⟨Qca od.kind (by omega),od.addr⟩ hp4 sd t1 ht1 t2 ht2
 ·refine⟨Am (by show 0<=1000;decide),λl hl=>?_⟩;have s2:=Af hl (.lst []);refine⟨_,rq,za,rq,by omega,λp4 d H4 od hp4 sd=>?_⟩;refine⟨p4,_,rq,SqT.of hp4,rq,_,_,rq,_,_,rq,rq,?_⟩;refine⟨_,rq,_,rq,_,rq,l,_,rq,.inl ⟨SqL.of (sd _ _ Ac),λt1 ht1=>⟨Am (by show 3<=1000;decide),λt2 ht2=>?_⟩⟩⟩;exact fin l [] [] _ Ac .nil (Qcf _) (λd hd=>by cases hd) s2 d p4 H4 ⟨Qca od.kind (by omega),od.addr⟩ hp4 sd t1 ht1 t2 ht2
end
theorem iJ {z:Str} (h:Txt.startswith z "zone "=true):2<=(Txt.split z " ").length:=by
 obtain⟨r,hr⟩:=(Nb (L z) "zone ").mp h;have e5:L (Str.ofString "zone ")=[122,111,110,101]++L (Str.ofString " "):=by trivial
 have hr:L z=[122,111,110,101]++(L (Str.ofString " ")++r):=by rw[hr,<-Qba,<-e5]
 have at_:=XF (h:=[122,111,110,101]) (b:=r) (Str.ofString " ");rw[<-hr,show S (L z)=z from S_L z] at at_
 obtain⟨f,hG,hn⟩:=StrLaws.occ_tight z " " (by trivial);have hk:Builtin.Str.strKind (Str.ofString " ")=1:=by trivial
 unfold Txt.split;split
 ·rename_i hc;rw[Bool.or_eq_true,Qbm,Qbm] at hc;exfalso;rcases hc with h | h
  ·have h1:=at_.1;have h:z.length < (Str.ofString " ").length:=h;omega
  ·have h:Builtin.Str.strKind z < Builtin.Str.strKind (Str.ofString " "):=h;rw[hk] at h;unfold Builtin.Str.strKind at h;split at h
   ·omega
   ·split at h <;> omega
 ·split
  ·rename_i he;exfalso;have e0:=List.isEmpty_iff.mp he;rw[e0] at hG;have ef:f=0:=hG;subst ef;exact hn _ (Qcf _) at_
  ·rename_i he;rw[StrLaws.partsBetween_eq,(O4 _ _ _ _).1];have:Builtin.Str.occurrences z " " 0 z.length (z.length+1)≠[]:=λe=>he (by rw[e];rfl);have:=List.length_pos_iff.mpr this;omega
theorem qN {α : Type} {l:List α} (h:2<=l.length):∃a b r,l=a::b::r:=by
 match l,h with
 | a::b::r,_=>exact⟨a,b,r,rfl⟩
section
variable {P:Program} {w:World} {K:YD} {mg:YB} {base:Heap} {op oe:Addr}
inductive aB (vs:YG) (H:Hp) (Q:VK) (E:XK):Prop
 | mk (z:Str) (_:vs=[.str z]) (_:z.length<=16000) (_:Txt.startswith z "zone "=true) (_:∀x y H',T4 z.length y->FN H' x y->Same H H'->Q x H'):aB vs H Q E
theorem U3 (C:Code K mg "read_zone" LK Hj) (T:Tf K mg op oe) (Gf:Good P w K mg base "read_number" 1 DW Rn):Good P w K mg base "read_zone" 2 Hj aB:=by
 refine C.good Io (λvs H Q E h=>?_) (λf cdv A outer s H vs Q E hr h=>?_)
 ·obtain⟨n,rfl,_⟩:=h;rfl
 obtain⟨z,rfl,hz,hst,q⟩:=h;refine⟨_,(Ae (Eb (BJ Qas PySem.F.slot_str_split PySem.F.type_str_split Nq (pv 0) (Aa Ai Ab)) (o8 (n:=3) (i:=2) rfl (Av (Aj (i:=1) Io.nd rfl (Or.inl rfl)) (Av (Aj (i:=2) Io.nd rfl (Or.inl rfl)) (jJ (Aj (i:=3) Io.nd rfl (Or.inl rfl)) Ck)))))
 (Ah (Bc (CZ (Aa (pv 2) (Aa (Cj Cy rfl T.tuple Dy (Aa (Cm (N':=["number"]) rfl (Bs.plain rfl (by trivial) (by trivial) (by trivial)) (Ey (pv 3)) (λ_ _ _ _=>(Aj (i:=0) (show List.Nodup (["number"]:YF) by trivial) rfl (Or.inl rfl))) (λ_ _ _ _=>CW) (λ_ _ _ _=>(Ca Gf hr (Aa (pv 0) Ab)))) Ab)) Ab)))))),?_⟩
 show let R0:TS:=_;Ar _ R0 _ _ _;intro R0;obtain⟨n1,_,n3⟩:=split_len z " " (by trivial);obtain⟨w0,nm,nums,hsp⟩:=qN (iJ hst);refine⟨_,rq,rq,z," ",rq,rq,by trivial,Qca (show z.length+2<=100000 by omega) GJ,λp1 hp1=>?_⟩;rw[hsp] at n1 n3 ⊢;rw[Qbo,Qbo] at n1;have s1:=Af hp1 (.lst ((w0::nm::nums).map V.str));have c1:upd H p1 (.lst ((w0::nm::nums).map V.str)) p1=_:=Ac;generalize upd H p1 (.lst ((w0::nm::nums).map V.str))=H1 at *;have lp:((w0::nm::nums).map V.str).length=nums.length+2:=by rw[Qbw,Qbo,Qbo]
 refine⟨p1,_,rq,SqL.of c1,by rw[lp];omega,by rw[lp];omega,λd hd=>?_⟩;rw[lp];have e3:(((w0::nm::nums).map V.str).drop 2).take (nums.length+2+1 - 3)=nums.map V.str:=by
  show (nums.map V.str).take _=_;exact Qav (by rw[Qbw];omega)
 have e4:(((w0::nm::nums).map V.str).drop 2).drop (nums.length+2+1 - 3)=[]:=by
  show (nums.map V.str).drop _=_;exact List.drop_of_length_le (by rw[Qbw];omega)
 rw[e3,e4];refine⟨_,_,rq,_,_,rq,_,_,rq,rq,?_⟩;have s2:=Af hd (.lst (nums.map V.str));have c2:upd H1 d (.lst (nums.map V.str)) d=_:=Ac;generalize upd H1 d (.lst (nums.map V.str))=H2 at *;refine⟨_,rq,_,rq,d,rq,⟨_,SqL.of c2⟩,λl hl=>?_⟩;let J0:YN:=λ(i:Nat) (σ : St) (HX:Hp)=>∃(b1:Option V) (os:List (Option Int)),σ=[b1]/\HX l=some (.lst (os.map oV))/\os.length=i/\(∀a∈os,Mu a)/\Same H2 HX;refine Fo (xs:=nums.map V.str) J0 ⟨none,[],rq,Ac,rq,(λa ha=>by cases ha),Af hl _⟩ (λi σ HX _ h=>?_) (λi x σ HX hx h=>?_) (fun σ HX h=>?_)
 ·obtain⟨_,_,rfl,_,_,_,s⟩:=h;exact SqL.of (s _ _ c2)
 ·obtain⟨b1,os,rfl,ey,lo,oy,s⟩:=h;rw[Qbc] at hx;obtain⟨t,hu,rfl⟩:=Qat.mp hx;have ht:=n3 t (QaD _ (QaD _ (QaE hu)));have hi:=(Qaf.mp hu).1;unfold Ef;dsimp only;refine Bl ⟨_,rq,t,rq,by omega,λo HY ho sy=>?_⟩;refine⟨_,sy _ _ ey,QaS (show (os.map oV).length < 100000 by rw[Qbw];omega) GJ,_,os++[o],rq,by rw[Ac,Qbx];rfl,by rw[QaM,lo];rfl,λa ha=>?_,(s.trans sy).CQ Ag.upd hl⟩;rcases Qby.mp ha with ha | ha
  ·exact oy a ha
  ·rw[QaQ.mp ha];exact ho
 obtain⟨b1,os,rfl,ey,lo,oy,s⟩:=h;rw[Qbw] at lo;refine⟨l,_,rq,.inl ⟨SqL.of ey,λt1 ht1=>⟨Am (by show 2<=1000;decide),λt2 ht2=>?_⟩⟩⟩;have s3:=Af ht1 (.tup (os.map oV));have s4:=Af ht2 (.tup [.str nm,.ref t1]);exact q _ ⟨nm,os⟩ _ ⟨n3 nm (QaD _ QaN),by show os.length<=_;omega,oy⟩ ⟨t2,t1,rq,Ac,s4 _ _ Ac⟩ (((s1.trans s2).trans s).trans (s3.trans s4))
end
def Ka (K:YD) (H:Hp) (v:V) (ps:List Dv):Prop:=∃t vs,v=.ref t/\H t=some (.tup vs)/\Paired (G6 K H) vs ps
def uX (K:YD) (H:Hp) (pl:Addr) (most:Option Int) (ja:List (List Dv)) (jp:List Jd):Prop:=∃Ls zs vs zvs,H pl=some (.tup [oV most,.ref Ls,.ref zs])/\H Ls=some (.tup vs)/\Paired (Ka K H) vs ja/\H zs=some (.tup zvs)/\Paired (FN H) zvs jp
structure uZ (m:Nat) (ja:List (List Dv)) (jp:List Jd):Prop where
 lm:ja.length<=m
 lo:∀ps∈ja,ps.length<=m/\∀p∈ps,T5 m p
 zm:jp.length<=m
 zo:∀z∈jp,T4 m z
theorem T5.mono {m n:Nat} {p:Dv} (h:T5 m p) (l:m<=n):T5 n p:=⟨Qca h.kind l,h.addr,Qca h.many (Nat.succ_le_succ l),λd hd=>⟨Qca (h.spur d hd).kind l,(h.spur d hd).addr⟩⟩
theorem T4.mono {m n:Nat} {z:Jd} (h:T4 m z) (l:m<=n):T4 n z:=⟨Qca h.name l,Qca h.many (Nat.succ_le_succ l),h.adr⟩
def LsX (K:YD) (H:Hp) (as:List Addr) (lss:List (List Dv)):Prop:=Paired (λ(a:Addr) (ps:List Dv)=>∃vs,H a=some (.lst vs)/\Paired (G6 K H) vs ps) as lss
theorem LsX.keep {K:YD} {H H':Hp} {as:List Addr} {lss:List (List Dv)} (h:LsX K H as lss) (t:Ba H H') (k:∀a∈as,∀o,H a=some o->H' a=some o):LsX K H' as lss:=
 Paired.mem h λa ha ps ⟨vs,e,p⟩=>⟨vs,k a ha _ e,Paired.Cd p λ_ _ z=>z.tups t⟩
section
variable {P:Program} {w:World} {K:YD} {mg:YB} {base:Heap} {op oe:Addr}
inductive aD (K:YD) (vs:YG) (H:Hp) (Q:VK) (E:XK):Prop
 | mk (p:Addr) (rows:YF) (_:vs=[.ref p]) (_:H p=some (.lst (rows.map V.str))) (_:1<=rows.length) (_:rows.length<=16000) (_:(∀r∈rows,r.length<=16000)) (_:(∀H',Same H H'->Q .non H')) (_:∀pl most ja jp H',Mu most->uZ 16010 ja jp->uX K H' pl most ja jp->Same H H'->Q (.ref pl) H'):aD K vs H Q E
theorem U4 (C:Code K mg "read_rows" LQ Hl) (T:Tf K mg op oe) (Gf:Good P w K mg base "read_number" 1 DW Rn) (Xe:Good P w K mg base "read_place" 3 Gw (aF K)) (Yr:Good P w K mg base "read_zone" 2 Hj aB):Good P w K mg base "read_rows" 4 Hl (aD K):=by
 refine C.good Ek (λvs H Q E h=>?_) (λf cdv A outer s H vs Q E hr h=>?_)
 ·obtain⟨p,rows,rfl,_⟩:=h;rfl
 obtain⟨p,rows,rfl,hp,r1,r16,rlen,qn,q⟩:=h;refine⟨_,(@Ae _ _ _ _ _ (@Ax _ _ 1 _ _ _ _ Ek.nd rfl (Or.inl rfl) (BZ Ab) (by rfl) (by first | exact .inl rfl | exact .inr rfl))
 (@Ae _ _ _ _ _ (@Ax _ _ 2 _ _ _ _ Ek.nd rfl (Or.inl rfl) (BZ Ab) (by rfl) (by first | exact .inl rfl | exact .inr rfl))
 (@Ae _ _ _ _ _ (Dh QbC rfl (Ey (BK Mv (pv 0) (Cg Ad) Ci)) (Aj (i:=3) Ek.nd rfl (Or.inl rfl))
 (@Ah _ _ _ (BP (Bp Dz (pv 3) Ai (Bx _)) (@Ah _ _ _ (Cr (BJ Qan Qai Qaj Cu (pv 1) (Aa (BZ Ab) Ab)))) (@Ah _ _ _ (BP (DK (BJ Qas PySem.F.slot_str_startswith PySem.F.type_str_startswith N6 (pv 3) (Aa Ai Ab))) (@Ah _ _ _ (Cr (BJ Qan Qai Qaj Cu (pv 2) (Aa (Ca Yr hr (Aa (pv 3) Ab)) Ab)))) (@Ah _ _ _ (BP (QG (pv 1) (λ_=>rfl)) (@Ah _ _ _ (Cr (BJ Qan Qai Qaj Cu (@Cz _ _ _ _ _ _ _ CP (pv 1) (PB Ms Ad) (λ_ _=>rfl)) (Aa (Ca Xe hr (Aa (pv 3) Ab)) Ab)))) (@Ah _ _ _ (@Bc _ _ _ _ Wq)))))))))
 (@Ae _ _ _ _ _ (Eb (BJ Qas PySem.F.slot_str_partition PySem.F.type_str_partition K8 (@Cz _ _ _ _ _ _ _ CP (pv 0) Ad (λ_ _=>rfl)) (Aa Ai Ab)) (Di rfl (Av (Aj (i:=4) Ek.nd rfl (Or.inl rfl)) (Av (Aj (i:=5) Ek.nd rfl (Or.inl rfl)) (Av (Aj (i:=6) Ek.nd rfl (Or.inl rfl)) Ck)))))
 (@Ah _ _ _ (@Bc _ _ _ _ (CZ (Aa (Ca Gf hr (Aa (pv 6) Ab)) (Aa (Cj Cy rfl T.tuple Dy (Aa (Cm (N':=["places"]) rfl (Bs.plain rfl (by trivial) (by trivial) (by trivial)) (Ey (pv 1)) (λ_ _ _ _=>(Aj (i:=0) (show List.Nodup (["places"]:YF) by trivial) rfl (Or.inl rfl))) (λ_ _ _ _=>CW) (λ_ _ _ _=>(Cj (TV (K:=K) rfl) rfl T.tuple Dy (Aa (pv 0) Ab)))) Ab)) (Aa (Cj Cy rfl T.tuple Dy (Aa (pv 2) Ab)) Ab)))))))))),?_⟩
 show let R0:TS:=_;let R1:TS:=Ar _ R0;let R2:TS:=_;let R3:TS:=_;let R4:TS:=_;let R5:TS:=Ec _ R4 _;let R6:TS:=Ec _ R3 R5;let R7:TS:=Ec _ R2 R6;let R8:TS:=Ar (Et _ _ R7) R1;let R9:TS:=Ar _ R8;Ar _ R9 _ _ _;intro R0 R1 R2 R3 R4 R5 R6 R7 R8 R9;generalize hst:L2.start _ _=σ0;have e0:σ0=[js p,none,none,none,none,none,none]:=hst.symm;clear hst;subst e0;cases rows with
 | nil=>exact absurd r1 (by decide)
 | cons r0 rs=>
 rw[Qbo] at r16;refine⟨Am (by show 0<=1000;decide),λlp hlp=>?_⟩;simp only[QaP,QaO];have s1:=Af hlp (.lst []);have c1:upd H lp (.lst []) lp=some (.lst []):=Ac;generalize upd H lp (.lst [])=H1 at *;refine⟨Am (by show 0<=1000;decide),λlz hlz=>?_⟩;simp only[QaP,QaO];have nlz:lp≠lz:=Aq c1 hlz;have s2:=Af hlz (.lst []);have c2:upd H1 lz (.lst []) lz=some (.lst []):=Ac;have c1:=s2 _ _ c1;have fz:H lz=none:=by
  cases e:H lz with
  | none=>rfl
  | some o=>rw[s1 _ _ e] at hlz;cases hlz
 have s12:=s1.trans s2;generalize upd H1 lz (.lst [])=H2 at *;refine⟨_,rq,_,rq,p,_,rq,SqL.of (s12 _ _ hp),λp2 hp2=>?_⟩;have ev:Eu ((r0::rs).map V.str) (some 1) none=rs.map V.str:=by
  rw[show (some (1:Int))=some ((1:Nat):Int) from rfl,Lf (by show 1<=_+1;omega)]
  rfl
 rw[ev];have np2:p2≠lp/\p2≠lz:=⟨(Aq c1 hp2).symm,(Aq c2 hp2).symm⟩;have s3:=Af hp2 (.lst (rs.map V.str));have c3:upd H2 p2 (.lst (rs.map V.str)) p2=some (.lst (rs.map V.str)):=Ac;have c1:=s3 _ _ c1;have c2:=s3 _ _ c2;have SQ:=s12.trans s3;generalize upd H2 p2 (.lst (rs.map V.str))=H3 at *;refine⟨p2,rq,⟨_,SqL.of c3⟩,?_⟩;have big:∀{n:Nat},n<=16000->n < sizeLine:=λh=>QaS (show _ < 100000 by omega) GJ;let J0:YN:=λi σ HX=>i<=rs.length/\∃(u3:Option V) (as:List Addr) (zv:YG) (ls:List (List Dv)) (zs:List Jd),σ=[js p,js lp,js lz,u3,none,none,none]/\HX lp=some (.lst (as.map V.ref))/\LsX K HX as ls/\(as.Nodup/\(∀a∈as,H3 a=none))/\HX lz=some (.lst zv)/\Paired (FN HX) zv zs/\Cw lp lz H3 HX/\ls.length<=i/\zs.length<=i/\(∀ps∈ls,ps.length<=i/\∀p∈ps,T5 16010 p)/\∀z∈zs,T4 16010 z;refine Q5 (xs:=rs.map V.str) J0 ⟨Qcf _,_,[],[],[],[],rq,c1,.nil,⟨QbO,(λa ha=>by cases ha)⟩,c2,.nil,Cw.of (Same.refl _),Qce _,Qce _,(λps h=>by cases h),(λz h=>by cases h)⟩ (λi σ HX _ h=>?_) (λi x σ HX hx h=>?_) (fun σ HX h=>?_)
 ·obtain⟨_,_,as,zv,ls,zs,rfl,h1,h2,h3,h4,h5,h6,_⟩:=h;exact SqL.of (h6 _ _ c3 np2.1 np2.2)
 ·obtain⟨hil,_,as,zv,ls,zs,rfl,h1,h2,h3,h4,h5,h6,k1,k2,k3,k4⟩:=h;simp only[QaP,QaO];rw[Qbc] at hx;obtain⟨r,hr,rfl⟩:=Qat.mp hx;have hi:=(Qaf.mp hr).1;have rl:=rlen r (QaD _ (QaE hr));have las:=QbR h2;have lzv:=QbR h5;have ane:∀a∈as,a≠lp/\a≠lz:=λa ha=>⟨λz=>(by rw[z] at ha;have:=h3.2 lp ha;rw[c1] at this;cases this),λz=>(by rw[z] at ha;have:=h3.2 lz ha;rw[c2] at this;cases this)⟩;have sHX:Same H HX:=λc o e=>h6 _ _ (SQ _ _ e) (Aq e hlp) (Aq e fz);refine⟨_,rq,rq,_,rq,ifS (λ_=>?_) (λ_=>?_)⟩
  ·refine⟨_,rq,.inl ⟨rq,_,SqL.of h1⟩,Am (by show 0<=1000;decide),λl0 hl0=>?_⟩;have w1:=Af hl0 (.lst []);have d0:upd HX l0 (.lst []) l0=some (.lst []):=Ac;have n0:lp≠l0:=Aq h1 hl0;have m0:lz≠l0:=Aq h4 hl0;generalize upd HX l0 (.lst [])=HY at *;have h1':=w1 _ _ h1;refine⟨lp,_,_,rq,rq,h1',big (by rw[Qbw];omega),?_⟩;have tv:Ba HX (upd HY lp (.lst (as.map V.ref++[.ref l0]))):=Ba.trans (Ba.of w1) ((Ag.upd (b:=lp)).tup λxs z=>by rw[h1'] at z;cases z);have h30:H3 l0=none:=by
    cases e:H3 l0 with
    | none=>rfl
    | some o=>rw[h6 _ _ e n0.symm m0.symm] at hl0;cases hl0
   refine⟨hi,_,as++[l0],zv,ls++[[]],zs,rq,by rw[Ac,Qbx];rfl,?_,⟨?_,λa ha=>?_⟩,by rw[Az nlz.symm];exact w1 _ _ h4,Paired.Cd h5 λ_ _ z=>z.tups tv,(h6.trans (Cw.of w1)).trans (Cw.l Ag.upd),by rw[QaM];show _+1<=_;omega,by omega,λps hps=>?_,k4⟩
   ·refine Qch ⟨[],by rw[Az n0.symm];exact d0,.nil⟩ (h2.keep tv λa ha o e=>?_);rw[Az (ane a ha).1];exact w1 _ _ e
   ·refine Qbh.mpr ⟨h3.1,(by simp),λa ha b hb e=>?_⟩;rw[QaQ.mp hb] at e;subst e;obtain⟨k,hk⟩:=List.getElem?_of_mem ha;obtain⟨_,_,_,e,_⟩:=Paired.Ed h2 hk;rw[hl0] at e;cases e
   ·rcases Qby.mp ha with z | z
    ·exact h3.2 a z
    ·rw[QaQ.mp z];exact h30
   ·rcases Qby.mp hps with z | z
    ·exact⟨Nat.le_succ_of_le (k3 ps z).1,(k3 ps z).2⟩
    ·rw[QaQ.mp z];exact⟨Qcf _,λp hp=>by cases hp⟩
  refine⟨_,rq,rq,_,_,rq,rq,_,rq,?_⟩;cases hst:Txt.startswith r "zone " with
  | true=>
   refine Xa rfl ?_;refine⟨_,rq,.inl ⟨rq,_,SqL.of h4⟩,_,rq,r,rq,rl,hst,λx y HY oy hx sy=>?_⟩;have h4':=sy _ _ h4;refine⟨lz,_,_,rq,rq,h4',big (by omega),?_⟩;have tv:Ba HY (upd HY lz (.lst (zv++[x]))):=(Ag.upd (b:=lz)).tup λxs z=>by rw[h4'] at z;cases z
   have tv2:=Ba.trans (Ba.of sy) tv;refine⟨hi,_,as,zv++[x],ls,zs++[y],rq,by rw[Az nlz];exact sy _ _ h1,h2.keep tv2 λa ha o e=>?_,h3,Ac,Qch (hx.tups tv) (Paired.Cd h5 λ_ _ z=>z.tups tv2),(h6.trans (Cw.of sy)).trans (Cw.r Ag.upd),by omega,by rw[QaM];show _+1<=_;omega,λps hps=>⟨Nat.le_succ_of_le (k3 ps hps).1,(k3 ps hps).2⟩,λz hz=>?_⟩
   ·rw[Az (ane a ha).2];exact sy _ _ e
   ·rcases Qby.mp hz with hz | hz
    ·exact k4 z hz
    ·rw[QaQ.mp hz];exact oy.mono (by omega)
  | false=>
   refine QV rfl ?_;rcases List.eq_nil_or_concat as with z |⟨as0,a,z⟩
   ·subst z;refine⟨_,rq,_,.inl ⟨_,SqL.of h1,rq⟩,QV rfl ?_⟩;exact qn _ sHX
   rw[List.concat_eq_append] at z;subst z;refine⟨_,rq,_,.inl ⟨_,SqL.of h1,rq⟩,Xa (by rw[Qbx];cases as0 <;> rfl) ?_⟩;obtain⟨l0,ps,e0,q0,vs,e1,q1⟩:=Paired.cZ h2;have kps:=k3 ps (by rw[e0];exact Qaw _ (QaQ.mpr rfl));have lvs:=QbR q1;refine⟨_,rq,_,rq,lp,_,_,V.ref a,rq,rq,SqL.of h1,(by rw[Qbx];exact XJ _ _),.inl ⟨rq,_,SqL.of e1⟩,_,rq,r,rq,by omega,λx pc HY oc hx sy=>?_⟩;have e1':=sy _ _ e1;refine⟨a,_,_,rq,rq,e1',big (by omega),?_⟩;have tv:Ba HY (upd HY a (.lst (vs++[x]))):=(Ag.upd (b:=a)).tup λxs z=>by rw[e1'] at z;cases z
   have tv2:=Ba.trans (Ba.of sy) tv;have am:a∈as0++[a]:=Qaw _ (QaQ.mpr rfl);obtain⟨a1,a2⟩:=ane a am;subst e0;refine⟨hi,_,as0++[a],zv,l0++[ps++[pc]],zs,rq,by rw[Az a1.symm];exact sy _ _ h1,?_,h3,by rw[Az a2.symm];exact sy _ _ h4,Paired.Cd h5 λ_ _ z=>z.tups tv2,?_,?_,by omega,λqs hqs=>?_,k4⟩
   ·refine Qch ⟨_,Ac,Qch (hx.tups tv) (Paired.Cd q1 λ_ _ z=>z.tups tv2)⟩ (LsX.keep q0 tv2 λb hb o e=>?_);rw[Az (λz=>(Qbh.mp h3.1).2.2 b hb a (QaQ.mpr rfl) z)];exact sy _ _ e
   ·exact λc o e n m=>by
     rw[Az (λz=>by rw[z,h3.2 a am] at e;cases e)];exact sy _ _ (h6 _ _ e n m)
   ·rw[QaM] at k1 ⊢;exact Nat.le_succ_of_le k1
   ·rcases Qby.mp hqs with z | z
    ·have:=k3 qs (QaF _ z);exact⟨Nat.le_succ_of_le this.1,this.2⟩
    ·rw[QaQ.mp z];refine⟨by rw[QaM];show _+1<=_;omega,λp hp=>?_⟩;rcases Qby.mp hp with hp | hp
     ·exact kps.2 p hp
     ·rw[QaQ.mp hp];exact oc.mono (by omega)
 obtain⟨_,_,as,zv,ls,zs,rfl,h1,h2,h3,h4,h5,h6,k1,k2,k3,k4⟩:=h;rw[Qbw] at k1 k2 k3;simp only[QaP,QaO];have hpX:HX p=some (.lst ((r0::rs).map V.str)):=h6 _ _ (SQ _ _ hp) (Aq hp hlp) (Aq hp fz);have sHX:Same H HX:=λc o e=>h6 _ _ (SQ _ _ e) (Aq e hlp) (Aq e fz);have r0l:=rlen r0 QaN;have pl0:=QK r0 " ";refine⟨_,rq,p,_,_,.str r0,rq,rq,SqL.of hpX,Gj (j:=0) rfl,rq,r0," ",rq,rq,by trivial,szb (by omega),λp3 hp3=>?_⟩;have t3:=Af hp3 (.tup [.str (Txt.partition r0 " ").1,.str (Txt.partition r0 " ").2.1,.str (Txt.partition r0 " ").2.2]);refine⟨p3,_,rq,SqT.of Ac,rq,_,_,rq,_,_,rq,_,_,rq,rq,?_⟩;simp only[QaP,QaO];generalize upd HX p3 (.tup [.str (Txt.partition r0 " ").1,.str (Txt.partition r0 " ").2.1,.str (Txt.partition r0 " ").2.2])=HY at *;refine⟨_,rq,(Txt.partition r0 " ").2.2,rq,by omega,λmost H4 om s4=>?_⟩;have t4:=t3.trans s4;have h1:=t4 _ _ h1;have h4:=t4 _ _ h4;have h2:LsX K H4 as ls:=h2.keep (Ba.of t4) λa ha o e=>t4 _ _ e;have h5:Paired (FN H4) zv zs:=Paired.Cd h5 λ_ _ z=>z.tups (Ba.of t4);refine⟨_,rq,lp,rq,⟨_,SqL.of h1⟩,λl hl=>?_⟩;have las:=QbR h2;let J1:YN:=λi σ HZ=>∃(u:Option V) (ys:YG),σ=[u]/\HZ l=some (.lst ys)/\Paired (Ka K HZ) ys (ls.take i)/\Same H4 HZ;refine Fo (xs:=as.map V.ref) J1 ⟨none,[],rq,Ac,.nil,Af hl _⟩ (λi σ HZ _ h=>?_) (λi x σ HZ hx h=>?_) (fun σ HZ h=>?_)
 ·obtain⟨_,_,rfl,_,_,s⟩:=h;exact SqL.of (s _ _ h1)
 ·obtain⟨_,ys,rfl,ey,py,s⟩:=h;rw[Qbc] at hx;obtain⟨a,ha,rfl⟩:=Qat.mp hx;obtain⟨ps,hps,vs,ev,pv⟩:=Paired.Ed h2 ha;have yl:=QbR py;rw[Qbn] at yl;unfold Ef;dsimp only;refine Bl ⟨_,rq,a,_,rq,.inl ⟨SqL.of (s _ _ ev),λt ht=>?_⟩⟩;have st:=Af ht (.tup vs);have ct:upd HZ t (.tup vs) t=some (.tup vs):=Ac;generalize upd HZ t (.tup vs)=HW at *;have ey':=st _ _ ey;have tv:Ba HW (upd HW l (.lst (ys++[.ref t]))):=(Ag.upd (b:=l)).tup λxs z=>by rw[ey'] at z;cases z
  have tv2:=Ba.trans (Ba.of st) tv;refine⟨ys,ey',big (by omega),_,_,rq,Ac,?_,(s.trans st).CQ Ag.upd hl⟩;rw[Qcn hps];exact Qch ⟨t,vs,rq,tv _ _ ct,Paired.Cd pv λ_ _ z=>z.tups (Ba.trans (Ba.of s) tv2)⟩ (Paired.Cd py λ_ _ z=>by
   obtain⟨t',vs',e,q1,q2⟩:=z;exact⟨t',vs',e,tv2 _ _ q1,Paired.Cd q2 λ_ _ z=>z.tups tv2⟩)
 obtain⟨_,ys,rfl,ey,py,s⟩:=h;rw[Qbw,las,Qbp] at py;refine⟨l,_,rq,.inl ⟨SqL.of ey,λt1 ht1=>?_⟩⟩;have w1:=Af ht1 (.tup ys);have d1:upd HZ t1 (.tup ys) t1=some (.tup ys):=Ac;generalize upd HZ t1 (.tup ys)=HA at *;refine⟨_,rq,lz,_,rq,.inl ⟨SqL.of (w1 _ _ (s _ _ h4)),λt2 ht2=>⟨Am (by show 3<=1000;decide),λt5 ht5=>?_⟩⟩⟩;have w2:=Af ht2 (.tup zv);have w3:=Af ht5 (.tup [oV most,.ref t1,.ref t2]);have w23:=w2.trans w3;have wa:=w1.trans w23;refine q t5 most ls zs _ om ⟨by omega,λps hps=>⟨Qca (k3 ps hps).1 (by omega),(k3 ps hps).2⟩,by omega,k4⟩ ⟨t1,t2,ys,zv,Ac,w23 _ _ d1,Paired.Cd py λ_ _ z=>?_,w3 _ _ Ac,Paired.Cd h5 λ_ _ z=>z.tups (Ba.of (s.trans wa))⟩ (sHX.trans (t4.trans (s.trans wa)));obtain⟨t',vs',e,q1,q2⟩:=z;exact⟨t',vs',e,wa _ _ q1,Paired.Cd q2 λ_ _ z=>z.tups (Ba.of wa)⟩
end
def wiO (o:Option Int) (lo hi:Int):Bool:=match o with
 | none=>false
 | some x=>decide (lo<=x/\x<=hi)
theorem Vk {o:Option Int} {lo hi:Int} (h:wiO o lo hi=true):∃x,o=some x/\lo<=x/\x<=hi:=by
 cases o with
 | none=>cases h
 | some x=>exact⟨x,rfl,Qbd h⟩
section
variable {P:Program} {w:World} {K:YD} {mg:YB} {base:Heap} {op oe kd wk:Addr}
inductive Pu (vs:YG) (H:Hp) (Q:VK) (E:XK):Prop
 | mk (o:Option Int) (lo hi:Int) (_:vs=[oV o,.int lo,.int hi]) (_:Q (.bl (wiO o lo hi)) H):Pu vs H Q E
theorem U6 (c:Code K mg "is_within" Mf Eh) (T:Nm mg) (bY:Good P w K mg base "is_whole" 1 IV jq):Good P w K mg base "is_within" 2 Eh Pu:=by
 refine c.good V9 (λvs H Q E h=>?_) (λf cdv A outer s H vs Q E hr h=>?_)
 ·obtain⟨x,lo,hi,rfl,_⟩:=h;rfl
 obtain⟨o,lo,hi,rfl,q⟩:=h;refine⟨_,(Ah (Bc (El (Ca bY hr (Aa (pv 0) Ab)) (Fd (KZ Hx Hx (pv 1) (pv 0) (pv 2)))))),?_⟩;cases o with
 | none=>exact⟨_,rfl,.non,rfl,True.intro,_,rfl,Bw q⟩
 | some x=>
  refine⟨_,rq,.int x,rq,True.intro,_,rq,Bl ⟨_,rq,_,rq,_,_,rq,rq,_,rq,?_⟩⟩;have q:Q (.bl (decide (lo<=x/\x<=hi))) H:=q;by_cases h1:lo<=x
  ·rw[QbM h1];refine Bl ⟨_,rq,_,_,rq,rq,?_⟩;by_cases h2:x<=hi
   ·rw[QbM ⟨h1,h2⟩] at q;show Q (.bl (decide (x<=hi))) H;rw[QbM h2];exact q
   ·rw[Qbz (λz=>h2 z.2)] at q;show Q (.bl (decide (x<=hi))) H;rw[Qbz h2];exact q
  ·rw[Qbz (λz=>h1 z.1)] at q;rw[Qbz h1];exact Bw q
inductive Gp (K:YD) (vs:YG) (H:Hp) (Q:VK) (E:XK):Prop
 | mk (t:Addr) (xs:YG) (a b:Int) (_:vs=[.ref t,.int a,.int b]) (_:TpK K H t xs) (_:Q (.bl (decide (a<=(xs.length:Int))&&decide ((xs.length:Int)<=b))) H):Gp K vs H Q E
theorem bh (c:Code K mg "is_row" Ni Dk) (T:Nm mg):Good P w K mg base "is_row" 1 Dk (Gp K):=by
 refine c.good Uc (λvs H Q E h=>?_) (λf cdv A outer s H vs Q E hr h=>?_)
 ·obtain⟨t,xs,a,b,rfl,_⟩:=h;rfl
 obtain⟨t,xs,a,b,rfl,k,q⟩:=h;refine⟨_,(Ah (Bc (El (Ay Uw rfl T.isinstance Bj (Aa (pv 0) (Aa (Ij (v:=.ty "tuple") rfl T.tuple Dy rfl) Ab))) (Fd (KZ Hx Hx (pv 1) (Ay Dc rfl T.len Ep (Aa (pv 0) Ab)) (pv 2)))))),?_⟩;refine⟨_,rq,.inr ⟨t,xs,rq,k.sq,_,rq,?_⟩⟩;refine Bl ⟨_,rq,_,rq,t,xs,rq,.inr k.sq,_,_,rq,rq,_,rq,?_⟩;cases h1:decide (a<=(xs.length:Int)) with
 | true=>
  rw[h1,Bool.true_and] at q;exact Bl ⟨_,rq,_,_,rq,rq,q⟩
 | false=>
  rw[h1,Bool.false_and] at q;exact Bw q
def dG (K:YD):Sp:=λvs H Q E=>Gp K vs H Q E\/∃a b:Int,vs=[.non,.int a,.int b]/\Q (.bl false) H
theorem bw (c:Code K mg "is_row" Ni Dk) (T:Nm mg):Good P w K mg base "is_row" 1 Dk (dG K):=by
 refine c.good Uc (λvs H Q E h=>?_) (λf cdv A outer s H vs Q E hr h=>?_)
 ·rcases h with⟨t,xs,a,b,rfl,_⟩|⟨a,b,rfl,_⟩ <;> rfl
 refine⟨_,(Ah (Bc (El (Ay Uw rfl T.isinstance Bj (Aa (pv 0) (Aa (Ij (v:=.ty "tuple") rfl T.tuple Dy rfl) Ab))) (Fd (KZ Hx Hx (pv 1) (Ay Dc rfl T.len Ep (Aa (pv 0) Ab)) (pv 2)))))),?_⟩;rcases h with⟨t,xs,a,b,rfl,k,q⟩|⟨a,b,rfl,q⟩
 ·refine⟨_,rq,.inr ⟨t,xs,rq,k.sq,_,rq,?_⟩⟩;refine Bl ⟨_,rq,_,rq,t,xs,rq,.inr k.sq,_,_,rq,rq,_,rq,?_⟩;cases h1:decide (a<=(xs.length:Int)) with
  | true=>
   rw[h1,Bool.true_and] at q;exact Bl ⟨_,rq,_,_,rq,rq,q⟩
  | false=>
   rw[h1,Bool.false_and] at q;exact Bw q
 ·exact⟨_,rq,.inl (fH .non rfl ⟨_,rq,Bw q⟩)⟩
inductive Rp (vs:YG) (H:Hp) (Q:VK) (E:XK):Prop
 | mk (k:Str) (o:Option Int) (_:vs=[.str k,oV o]) (_:∀b:Bool,(b=true->DN k/\∃x,o=some x/\1<=x/\x<=99)->Q (.bl b) H):Rp vs H Q E
abbrev xy:YF:=["seeker","knob","bell","door"]
theorem qb {k:Str} (h:inV (.str k) [.str "seeker",.str "knob",.str "bell",.str "door"]=true):DN k:=by
 have e:([.str "seeker",.str "knob",.str "bell",.str "door"]:YG)=(xy:YF).map V.str:=rfl;rw[e,Le] at h;simpa [DN] using h
theorem U8 (C:Code K mg "is_device" Mh Gi) (T:Ty K mg op oe kd wk) (Ft:Good P w K mg base "is_within" 2 Eh Pu):Good P w K mg base "is_device" 3 Gi Rp:=by
 refine C.good Wb (λvs H Q E h=>?_) (λf cdv A outer s H vs Q E hr h=>?_)
 ·obtain⟨k,x,rfl,_⟩:=h;rfl
 obtain⟨k,o,rfl,q⟩:=h;refine⟨_,(Ah (Bc (El (Kw O5 (pv 0) (Rz rfl T.KINDS) (by with_unfolding_all rfl)) (Fd (Dt Ft hr (Aa (pv 1) (Aa Ad (Aa Ad Ab)))))))),?_⟩;refine⟨_,rq,kd,_,rq,.inr (T.kdT H),rq,rq,_,rq,?_⟩;rw[if_neg QaR];cases hk:inV (.str k) [.str "seeker",.str "knob",.str "bell",.str "door"] with
 | true=>exact Bl ⟨_,rfl,o,1,99,rfl,q _ λhb=>⟨qb hk,Vk hb⟩⟩
 | false=>exact Bw (q false λhb=>by cases hb)
def Lw (d:NZ):Dev:=⟨d.kind,d.addr.getD 0⟩
def mL (d:NZ):Prop:=OkD (Lw d)/\d.addr=some (Lw d).addr
inductive Qt (vs:YG) (H:Hp) (Q:VK) (E:XK):Prop
 | mk (v d) (_:vs=[v]) (_:Kc H v d) (_:∀b:Bool,(b=true->mL d)->Q (.bl b) H):Qt vs H Q E
theorem O6 (C:Code K mg "is_spur_device" Ia En) (CJ:Good P w K mg base "is_row" 1 Dk (Gp K)) (Mq:Good P w K mg base "is_device" 3 Gi Rp):Good P w K mg base "is_spur_device" 4 En Qt:=by
 refine C.good Qf (λvs H Q E h=>?_) (λf cdv A outer s H vs Q E hr h=>?_)
 ·obtain⟨v,d,rfl,_⟩:=h;rfl
 obtain⟨v,d,rfl,⟨t,rfl,ht⟩,q⟩:=h;refine⟨_,(Ah (Bc (El (Dt CJ hr (Aa (pv 0) (Aa Ad (Aa Ad Ab)))) (Fd (Cp Mq hr (Aa (Cz Ld (pv 0) Ad (λ_ _=>rfl)) (Aa (Cz Ld (pv 0) Ad (λ_ _=>rfl)) Ab))))))),?_⟩;refine⟨_,rq,t,_,2,2,rq,(.inl ht),_,rq,?_⟩;refine Bl ⟨_,rq,t,_,_,_,rq,rq,SqT.of ht,rq,_,rq,t,_,_,_,rq,rq,SqT.of ht,rq,d.kind,d.addr,rq,λb hb=>q b λhbt=>?_⟩;obtain⟨hk,x,e,h1,h2⟩:=hb hbt;have:(Lw d).addr=x:=by unfold Lw;rw[e];rfl
 exact⟨⟨hk,by rw[this];exact⟨h1,h2⟩⟩,by rw[this];exact e⟩
end
theorem aV:Fv opP:=⟨aW,by rw[XM];exact λx h=>by cases h⟩
theorem vO {k:Str} {a:Int} {ds:List Dev} (hk:DN k) (ha:1<=a/\a<=99) (h3:ds.length<=3) (hd:∀d∈ds,OkD d):Fv ⟨k,a,ds⟩:=by
 refine⟨⟨h3,λd m=>(hd d m).kind,.inr hk⟩,λx hx=>?_⟩;have e:adP ⟨k,a,ds⟩=a::ds.map (·.addr):=if_neg (Jb hk);rw[e] at hx;rcases QbQ.mp hx with rfl | hx
 ·exact ha
 ·obtain⟨d,m,rfl⟩:=QbY.mp hx;exact (hd d m).bd
def Iz (p:Dv):Place:=⟨p.kind,p.addr.getD 0,p.spur.map Lw⟩
def OD (p:Dv):Prop:=Fv (Iz p)/\p.addr=some (Iz p).addr/\∀d∈p.spur,d.addr=some (Lw d).addr
theorem Jc {K:YD} {a l:Addr} {xs:YG} {te:TE} {Q:VK} {r:St} {H:Hp} {α : Type} {ps:List α} {F:α->Prop} (hl:H l=none) (ha:TpK K H a xs) (h100:xs.length<=20000) (lx:xs.length=ps.length)
  (hs:∀(i:Nat) (x:V) (p:α) (HH:Hp),xs[i]?=some x->ps[i]?=some p->Same H HH->∀R:VK,(∀(b:Bool) (H':Hp),(b=true->F p)->Same HH H'->R (.bl b) H')->te (some x::r) HH R)
  (hd:∀(H':Hp) (bs:List Bool),H' l=some (.lst (bs.map V.bl))->(bs.all id=true->∀p∈ps,F p)->Same H H'->Q (.ref l) H'):G7 (Itt K a) (Ef 0) (λ_ H Q=>Q true H) te Q (none::r) (upd H l (.lst [])) l:=by
 let J0:YN:=λi σ HX=>∃(u:Option V) (bs:List Bool),σ=u::r/\HX l=some (.lst (bs.map V.bl))/\bs.length=i/\(bs.all id=true->∀p∈ps.take i,F p)/\Same H HX;refine Js (xs:=xs) J0 ⟨none,[],rq,Ac,rq,(λ_ x hx=>by cases hx),Af hl _⟩ (λi σ HX _ h=>?_) (λi x σ HX hx h=>?_) (fun σ HX h=>?_)
 ·obtain⟨_,_,rfl,_,_,_,s⟩:=h;exact (ha.same s).sq
 ·obtain⟨u,bs,rfl,e,le,f,s⟩:=h;have hi:=(Qaf.mp hx).1;have hip:ps[i]?=some ps[i]:=Qak (by omega);unfold Ef;dsimp only;refine Bl (hs i x ps[i] HX hx hip s _ λb H' hb s'=>⟨_,s' _ _ e,QaS (show (bs.map V.bl).length < 100000 by rw[Qbw];omega) GJ,_,bs++[b],rq,by rw[Ac,Qbx];rfl,by rw[QaM,le];rfl,λhall y hy=>?_,(s.trans s').CQ Ag.upd hl⟩);rw[List.all_append,Qbs] at hall;rw[Qcn hip] at hy;rcases Qby.mp hy with hy | hy
  ·exact f hall.1 y hy
  ·rw[QaQ.mp hy];exact hb (by have:=hall.2;simpa using this)
 ·obtain⟨u,bs,rfl,e,le,f,s⟩:=h;rw[lx,Qbp] at f;exact hd HX bs e f s
theorem Mx {n:Nat} {a b:Int} (h:(decide (a<=(n:Int))&&decide ((n:Int)<=b))=true):a<=n/\(n:Int)<=b:=by
 rw[Qbs,QaV,QaV] at h;exact h
section
variable {P:Program} {w:World} {K:YD} {mg:YB} {base:Heap} {op oe kd wk:Addr}
inductive Ss (K:YD) (vs:YG) (H:Hp) (Q:VK) (E:XK):Prop
 | mk (u ws ds) (_:vs=[.ref u]) (_:TpK K H u ws) (_:Paired (Kc H) ws ds) (_:ds.length<=20000) (_:∀(b:Bool) H',(b=true->ds.length<=3/\∀d∈ds,mL d)->Same H H'->Q (.bl b) H'):Ss K vs H Q E
abbrev xa:YF:=["part"]
theorem Yd (C:Code K mg "is_spur" Oq JM) (T:Ty K mg op oe kd wk) (CJ:Good P w K mg base "is_row" 1 Dk (Gp K)) (Q0:Good P w K mg base "is_spur_device" 4 En Qt):Good P w K mg base "is_spur" 5 JM (Ss K):=by
 refine C.good aM (λvs H Q E h=>?_) (λf cdv A outer s H vs Q E hr h=>?_)
 ·obtain⟨u,ws,ds,rfl,_⟩:=h;rfl
 obtain⟨u,ws,ds,rfl,hu,hd,h2,q⟩:=h;have lw:=QbR hd;refine⟨_,(Ah (Bc (El (Dt CJ hr (Aa (pv 0) (Aa Ad (Aa Ad Ab)))) (Fd (Ay (GC rfl) rfl T.all JZ (Aa (Cm (N':=xa) rfl (Bs.plain rfl (by trivial) (by trivial) (by trivial)) (Ds (pv 0)) (λ_ _ _ _=>(Aj (i:=0) (show List.Nodup (xa:YF) by trivial) rfl (Or.inl rfl))) (λ_ _ _ _=>CW) (λ_ _ _ _=>(Ca Q0 hr (Aa (pv 0) Ab)))) Ab)))))),?_⟩;refine⟨_,rq,u,_,0,3,rq,hu,_,rq,?_⟩;cases hr:(decide ((0:Int)<=(ws.length:Int))&&decide ((ws.length:Int)<=3)) with
 | false=>exact Bw (q false H (λh=>by cases h) (Same.refl _))
 | true=>
  have rw3:=Mx hr;refine Bl ⟨_,rq,u,rq,⟨_,hu.sq⟩,λl2 hl2=>?_⟩;refine Jc (r:=[]) (ps:=ds) (F:=mL) hl2 hu (by omega) lw (λi x d HH hx hdi s1 R hR=>?_) (λH' bs e f s1=>?_)
  ·obtain⟨d',hd',had⟩:=Paired.Ed hd hx;rw[hdi] at hd';injection hd' with hd';subst hd';exact⟨_,rq,x,d,rq,had.tups (Ba.of s1),λb hb=>hR b _ hb (Same.refl _)⟩
  ·exact⟨l2,bs,rq,SqL.of e,q _ _ (λh=>⟨by omega,f h⟩) s1⟩
inductive Qu (K:YD) (vs:YG) (H:Hp) (Q:VK) (E:XK):Prop
 | mk (v p) (_:vs=[v]) (_:G6 K H v p) (_:p.spur.length<=20000) (_:∀(b:Bool) H',(b=true->OD p)->Same H H'->Q (.bl b) H'):Qu K vs H Q E
theorem Wz (C:Code K mg "is_place" Nj IW) (T:Ty K mg op oe kd wk) (CJ:Good P w K mg base "is_row" 1 Dk (Gp K)) (Ft:Good P w K mg base "is_within" 2 Eh Pu) (Mq:Good P w K mg base "is_device" 3 Gi Rp) (fV:Good P w K mg base "is_spur" 5 JM (Ss K)):Good P w K mg base "is_place" 6 IW (Qu K):=by
 have sc:=Hg;refine C.good Hg (λvs H Q E h=>?_) (λf cdv A outer s H vs Q E hr h=>?_)
 ·obtain⟨v,p,rfl,_⟩:=h;rfl
 obtain⟨v,p,rfl,⟨t,u,ws,rfl,ht,hu,hd⟩,h2,q⟩:=h;have lw:=QbR hd;refine⟨_,(Ae (BP (Ea (DK (Dt CJ hr (Aa (pv 0) (Aa Ad (Aa Ad Ab)))))) (Ah (Bc Gm)) Bq)
 (Ae (Eb (pv 0) (Di rfl (Av (Aj (i:=1) Hg.nd rfl (Or.inl rfl)) (Av (Aj (i:=2) Hg.nd rfl (Or.inl rfl)) (Av (Aj (i:=3) Hg.nd rfl (Or.inl rfl)) Ck)))))
 (Ae (BP (Bp Dz (pv 1) Ai (Bx _)) (Ah (Bc (El (Dt Ft hr (Aa (pv 2) (Aa Ad (Aa Ad Ab)))) (Fd (Dt CJ hr (Aa (pv 3) (Aa Ad (Aa Ad Ab)))))))) Bq)
 (Ah (Bc (El (Cp Mq hr (Aa (pv 1) (Aa (pv 2) Ab))) (Fd (Ca fV hr (Aa (pv 3) Ab))))))))),?_⟩
 show let R0:TS:=_;let R1:TS:=_;let R2:TS:=Ar (Ec _ R1 _) R0;let R3:TS:=Ar _ R2;Ar _ R3 _ _ _;intro R0 R1 R2 R3;refine⟨_,rq,t,_,3,3,rq,ht,_,rq,?_⟩;refine Bw ⟨_,rq,t,_,rq,ht.sq,rq,_,_,rq,_,_,rq,_,_,rq,rq,?_⟩;refine⟨_,rq,rq,_,rq,?_⟩;by_cases k:V.str p.kind=V.str "opener"
 ·rw[QbM k];refine Bl ⟨_,rq,p.addr,0,0,rq,_,rq,?_⟩;cases hw:wiO p.addr 0 0 with
  | false=>exact Bw (q false H (λh=>by cases h) (Same.refl _))
  | true=>
   obtain⟨x,ex,x1,x2⟩:=Vk hw;have x0:x=0:=by omega
   subst x0;refine Bl ⟨_,rq,u,_,0,0,rq,hu,q _ _ (λh=>?_) (Same.refl _)⟩;have:=(Mx h).2;have e0:p.spur=[]:=Qaq.mp (by omega);have ep:Iz p=opP:=by
    unfold Iz;rw[ex,e0,show p.kind=Str.ofString "opener" by injection k];rfl
   refine⟨by rw[ep];exact aV,by rw[ep];exact ex,by rw[e0];exact λd hd=>by cases hd⟩
 ·rw[Qbz k];refine Bw ⟨_,rq,_,rq,p.kind,p.addr,rq,λb hb=>⟨_,rq,?_⟩⟩;cases b with
  | false=>exact Bw (q false H (λh=>by cases h) (Same.refl _))
  | true=>
   obtain⟨hk,x,ex,x1,x2⟩:=hb rfl;refine Bl ⟨_,rq,u,ws,p.spur,rq,hu,hd,h2,λb H' hb2 s=>q b H' (λh=>?_) s⟩;obtain⟨h3,hds⟩:=hb2 h;have ea:p.addr.getD 0=x:=by rw[ex];rfl
   refine⟨?_,by show p.addr=some (p.addr.getD 0);rw[ea];exact ex,λd hd=>(hds d hd).2⟩;show Fv ⟨p.kind,p.addr.getD 0,p.spur.map Lw⟩;rw[ea];refine vO hk ⟨x1,x2⟩ (by rw[Qbw];exact h3) λd hd=>?_;obtain⟨d',hd',rfl⟩:=QbY.mp hd;exact (hds d' hd').1
end
def Vr (ps:List Dv):Prop:=(1<=ps.length/\ps.length<=12)/\∀p∈ps,OD p
def mW (c:Nat):Bool:=!(Builtin.Str.occurrences abc ⟨#[c]⟩ 0 abc.length 1).isEmpty
theorem uU {c:Nat} (h:mW c=true):c∈abc.cps.toList:=by
 have e:mW c=decide (c∈L abc):=PySem.StrLaws.found_one _ _;rw[e] at h;exact Qbd h
theorem Zm:∀{ns:List Int},(∀(i:Nat) (a b:Int),ns[i]?=some a->ns[i+1]?=some b->a < b)->ns.Pairwise (· < ·)
 | [],_=>.nil
 | [a],_=>List.pairwise_singleton _ _
 | a::b::r,h=>by
  have ih:=Zm (ns:=b::r) λi x y hx hy=>h (i+1) x y hx hy;have ab:=h 0 a b rfl rfl;refine List.pairwise_cons.mpr ⟨λy hy=>?_,ih⟩;rcases QbQ.mp hy with rfl | hy
  ·exact ab
  ·have:=(List.pairwise_cons.mp ih).1 y hy;omega
section
variable {P:Program} {w:World} {K:YD} {mg:YB} {base:Heap} {op oe kd wk:Addr}
inductive Sx (vs:YG) (H:Hp) (Q:VK) (E:XK):Prop
 | mk (z:Str) (_:vs=[.str z]) (_:z.length<=20000) (_:∀(b:Bool) H',(b=true->(1<=z.length/\z.length<=8)/\okS z)->Same H H'->Q (.bl b) H'):Sx vs H Q E
theorem Yg (C:Code K mg "is_name" Ou JQ) (T:Ty K mg op oe kd wk):Good P w K mg base "is_name" 1 JQ Sx:=by
 refine C.good aN (λvs H Q E h=>?_) (λf cdv A outer s H vs Q E hr h=>?_)
 ·obtain⟨z,rfl,_⟩:=h;rfl
 obtain⟨z,rfl,h2,q⟩:=h;have no:Q (.bl false) H:=q false H (λh=>by cases h) (Same.refl _);refine⟨_,(Ae (BP (Ea (DK (Ay Jt rfl T.isinstance Bj (Aa (pv 0) (Aa (Ij (v:=.ty "str") rfl T.str JX rfl) Ab))))) (Ah (Bc Gm)) Bq)
 (Ah (Bc (El (KZ Hx Hx Ad (Ay Lg rfl T.len Ep (Aa (pv 0) Ab)) Ad) (Fd (Ay (GC rfl) rfl T.all JZ (Aa (Cm (N':=["sign"]) rfl (Bs.plain rfl (by trivial) (by trivial) (by trivial)) (Rx (pv 0)) (λ_ _ _ _=>(Aj (i:=0) (show List.Nodup (["sign"]:YF) by trivial) rfl (Or.inl rfl))) (λ_ _ _ _=>CW) (λ_ _ _ _=>(Kw Ue (pv 0) (Rz rfl T.SMALL_LETTERS) (by with_unfolding_all rfl)))) Ab))))))),?_⟩
 show let R0:TS:=_;Ar _ R0 _ _ _;intro R0;refine⟨_,rq,ZG ⟨_,rq,Bw ⟨_,rq,z,rq,szb (by omega),_,_,rq,rq,_,rq,?_⟩⟩⟩;by_cases h1:1<=z.length
 ·rw[show decide ((1:Int)<=(z.length:Int))=true from QbM (by omega)]
  refine Bl ⟨_,_,rq,rq,_,rq,?_⟩;by_cases h8:z.length<=8
  ·rw[show decide ((z.length:Int)<=8)=true from QbM (by omega)]
   refine Bl ⟨_,rq,z,rq,λl hl'=>?_⟩;let J0:YN:=λi σ HH=>∃u,σ=[u]/\HH l=some (.lst (((z.cps.toList.take i).map mW).map V.bl))/\Same H HH;refine Nz J0 ⟨_,rq,Ac,Af hl' _⟩ (λi c σ HH hc h=>?_) (fun σ HH h=>?_)
   ·obtain⟨u,rfl,e1,e2⟩:=h;have hcl:z.cps.toList[i]?=some c:=by rw[<-hc];exact Array.getElem?_toList ..
    have hi:=(Qaf.mp hcl).1;have hz:z.cps.toList.length<=8:=by rw[QaI];exact h8
    unfold Ef;dsimp only;refine Bl ⟨_,rq,_,_,rq,rq,_,e1,Bb (by simp;omega),_,rq,?_,e2.CQ Ag.upd hl'⟩;rw[Ac,Qcn hcl,Qbx,Qbx];rfl
   ·obtain⟨u,rfl,e1,e2⟩:=h;rw[<-QaI,Qbp] at e1;refine⟨l,_,rq,SqL.of e1,q _ _ (λh=>⟨⟨h1,h8⟩,λc hc=>?_⟩) e2⟩;rw[all_map] at h;exact uU (Qbu.mp h c hc)
  ·rw[show decide ((z.length:Int)<=8)=false from Qbz (by omega)]
   exact Bw no
 ·rw[show decide ((1:Int)<=(z.length:Int))=false from Qbz (by omega)]
  exact Bw ⟨_,rq,Bw no⟩
inductive V2 (vs:YG) (H:Hp) (Q:VK) (E:XK):Prop
 | mk (a:Addr) (ns:List Int) (_:vs=[.ref a]) (_:H a=some (.tup (ns.map V.int))) (_:ns.length<=100) (_:∀(b:Bool) H',(b=true->ns.Pairwise (· < ·))->Same H H'->Q (.bl b) H'):V2 vs H Q E
abbrev xk:YF:=["one","other"]
theorem U7 (C:Code K mg "is_rising" Mg Hr) (T:Ty K mg op oe kd wk):Good P w K mg base "is_rising" 1 Hr V2:=by
 refine C.good Wa (λvs H Q E h=>?_) (λf cdv A outer s H vs Q E hr h=>?_)
 ·obtain⟨a,ns,rfl,_⟩:=h;rfl
 obtain⟨a,ns,rfl,ha,h100,q⟩:=h;refine⟨_,(Ah (Bc (Ay (GC rfl) rfl T.all JZ (Aa (Cm (N':=xk) rfl (Bs.plain rfl (by trivial) (by trivial) (by trivial)) (jG rfl T.zip (Aa (pv 0) (Aa (BK SJ (pv 0) (Cg Ad) Ci) Ab))) (λ_ _ _ _=>(Pz (K:=K) (n:=2) rfl rfl (Av (Aj (i:=0) (show List.Nodup (xk:YF) by trivial) rfl (Or.inl rfl)) (Av (Aj (i:=1) (show List.Nodup (xk:YF) by trivial) rfl (Or.inl rfl)) Ck)))) (λ_ _ _ _=>CW) (λ_ _ _ _=>(Kw Vp (pv 0) (pv 1) (Bx _)))) Ab)))),?_⟩;refine⟨_,rq,_,rq,_,rq,a,_,rq,ha,λb H1 hb s1=>?_⟩;have ha1:=s1 _ _ ha;refine⟨a,b,rq,⟨_,ha1⟩,⟨_,hb⟩,λl hl=>?_⟩;have hlen:(ns.map V.int).length=ns.length:=Qbw ..;have ec:Eu (ns.map V.int) (some (1:Int)) none=(ns.map V.int).drop 1:=by
  by_cases h0:1<=(ns.map V.int).length
  ·exact Lf (k:=1) h0
  ·have:ns.map V.int=[]:=Qaq.mp (by omega);rw[this];rfl
 rw[ec] at hb;refine cC (xs:=ns.map V.int) (ys:=(ns.map V.int).drop 1) (ns.length - 1) (by omega) (by rw[Qbq];omega) (.inr (by rw[Qbq];omega)) (λi σ HH=>∃u1 u2 bs,σ=[u1,u2]/\HH l=some (.lst ((bs:List Bool).map V.bl))/\bs.length=i/\(bs.all id=true->∀(j:Nat) (a b:Int),j < i->ns[j]?=some a->ns[j+1]?=some b->a < b)/\Same H1 HH) ⟨_,_,[],rq,Ac,rq,(λ_ j _ _ hj=>absurd hj (Nat.not_lt_zero _)),Af hl _⟩ (λi σ HH _ h=>?_) (λi x y p σ HH hx hy h hpn=>?_) (fun σ HH h=>?_)
 ·obtain⟨u1,u2,bs,rfl,e1,le,f,e2⟩:=h;exact⟨e2 _ _ ha1,e2 _ _ hb⟩
 ·obtain⟨u1,u2,bs,rfl,e1,le,f,e2⟩:=h;rw[List.getElem?_drop] at hy;rw[Qbc] at hx hy;obtain⟨n1,hn1,rfl⟩:=Qat.mp hx;obtain⟨n2,hn2,rfl⟩:=Qat.mp hy;have i1:=(Qaf.mp hn1).1;have s2:=Af hpn (.tup [.int n1,.int n2]);refine⟨p,_,rq,SqT.of Ac,rq,_,_,rq,_,_,rq,rq,?_⟩;refine Bl ⟨_,rq,_,rq,_,_,rq,rq,_,s2 _ _ e1,Bb (by rw[Qbw];omega),_,_,bs++[decide (n1 < n2)],rq,by rw[Ac,Qbx];rfl,by rw[QaM,le];rfl,λhall j a b hj hja hjb=>?_,(e2.trans s2).CQ Ag.upd hl⟩;rw[List.all_append,Qbs] at hall;by_cases ej:j=i
  ·subst ej;rw[hn1] at hja;rw[Nat.add_comm] at hn2;rw[hn2] at hjb;injection hja with hja;injection hjb with hjb;subst hja hjb;have:=hall.2;simpa using this
  ·exact f hall.1 j a b (by omega) hja hjb
 ·obtain⟨u1,u2,bs,rfl,e1,le,f,e2⟩:=h;refine⟨l,bs,rq,SqL.of e1,q _ _ (λh=>Zm λi a b ha hb=>f h i a b ?_ ha hb) (s1.trans e2)⟩;have:=(Qaf.mp hb).1;omega
end
theorem V7:∀{os:List (Option Int)} {l h:Int},(∀o∈os,∃x,o=some x/\l<=x/\x<=h)->∃ns:List Int,os=ns.map some/\∀x∈ns,l<=x/\x<=h
 | [],_,_,_=>⟨[],rfl,λx hx=>by cases hx⟩
 | o::r,l,h,k=>by
  obtain⟨x,rfl,hx⟩:=k o QaN;obtain⟨ns,e,hn⟩:=V7 (os:=r) λy hy=>k y (QaD _ hy);refine⟨x::ns,by rw[e];rfl,λy hy=>?_⟩;rcases QbQ.mp hy with rfl | hy
  ·exact hx
  ·exact hn y hy
theorem Zu (ns:List Int):(ns.map some).map oV=ns.map V.int:=by rw[Qcc];rfl
def RX (z:Jd):Zone:=⟨z.name,z.adr.map λo=>o.getD 0⟩
def Rg (z:Jd):Prop:=ZnB (RX z)/\z.adr=(RX z).adr.map some
theorem getD_some (ns:List Int):(ns.map some).map (λo=>o.getD 0)=ns:=by
 rw[Qcc];exact List.map_id _
section
variable {P:Program} {w:World} {K:YD} {mg:YB} {base:Heap} {op oe kd wk:Addr}
inductive aC (vs:YG) (H:Hp) (Q:VK) (E:XK):Prop
 | mk (a:Addr) (os:List (Option Int)) (lo hi l h:Int) (_:vs=[.ref a,.int lo,.int hi,.int l,.int h]) (_:H a=some (.tup (os.map oV))) (_:os.length<=20000) (_:hi<=100) (_:∀(b:Bool) H',(b=true->∃ns:List Int,os=ns.map some/\ns.Pairwise (· < ·)/\lo<=ns.length/\(ns.length:Int)<=hi/\∀x∈ns,l<=x/\x<=h)->Same H H'->Q (.bl b) H'):aC vs H Q E
theorem Td (C:Code K mg "are_rising_within" Es Du) (T:Ty K mg op oe kd wk) (CJ:Good P w K mg base "is_row" 1 Dk (Gp K)) (Ft:Good P w K mg base "is_within" 2 Eh Pu) (Yv:Good P w K mg base "is_rising" 1 Hr V2):Good P w K mg base "are_rising_within" 3 Du aC:=by
 refine C.good Nf (λvs H Q E h=>?_) (λf cdv A outer s H vs Q E hr h=>?_)
 ·obtain⟨a,ns,lo,hi,l,h,rfl,_⟩:=h;rfl
 obtain⟨a,os,lo,hi,l,h,rfl,ha,h2,h100,q⟩:=h;refine⟨_,(Ae (BP (Ea (DK (Dt CJ hr (Aa (pv 0) (Aa (pv 1) (Aa (pv 2) Ab)))))) (Ah (Bc Gm)) Bq)
 (Ah (Bc (El (Ay (GC rfl) rfl T.all JZ (Aa (Cm (N':=["part","low","high"]) rfl (Bs.of (src:=[none,some 3,some 4]) (Al Es) Du rfl rfl rfl (by trivial) (by trivial) (by trivial) rfl (by trivial)) (Ds (pv 0)) (λ_ _ _ _=>(Aj (i:=0) (show List.Nodup (["part","low","high"]:YF) by trivial) rfl (Or.inl rfl))) (λ_ _ _ _=>CW) (λ_ _ _ _=>(Dt Ft hr (Aa (pv 0) (Aa (pv 1) (Aa (pv 2) Ab)))))) Ab)) (Fd (Ca Yv hr (Aa (pv 0) Ab))))))),?_⟩
 show let R0:TS:=_;Ar _ R0 _ _ _;intro R0;have hlen:(os.map oV).length=os.length:=Qbw ..;refine⟨_,rq,_,rq,_,rq,a,_,lo,hi,rq,(.inl ha),_,rq,?_⟩;rw[hlen];cases hr:(decide (lo<=(os.length:Int))&&decide ((os.length:Int)<=hi)) with
 | false=>exact Bl (q false H (λh=>by cases h) (Same.refl _))
 | true=>
  obtain⟨r1,r2⟩:=Mx hr;refine Bw ⟨_,rq,a,rq,⟨_,SqT.of ha⟩,λl2 hl2=>?_⟩;refine Jc (r:=[some (.int l),some (.int h)]) (ps:=os) (F:=λo=>∃x,o=some x/\l<=x/\x<=h) hl2 (.inl ha) (by omega) hlen (λi x o HH hx ho s1 R hR=>?_) (λH' bs e f s1=>?_)
  ·rw[Qbc,ho] at hx;injection hx with hx;subst hx;exact⟨_,rq,_,rq,_,rq,o,l,h,rq,hR _ _ (λhb=>Vk hb) (Same.refl _)⟩
  ·refine⟨l2,bs,rq,SqL.of e,_,rq,?_⟩;cases hb:bs.all id with
   | false=>exact Bw (q false _ (λh=>by cases h) s1)
   | true=>
    obtain⟨ns,rfl,hn⟩:=V7 (f hb);rw[Qbw] at r1 r2;exact Bl ⟨_,rq,a,ns,rq,by rw[<-Zu];exact s1 _ _ ha,by omega,λb H2 hb2 s2=>q b H2 (λhbt=>⟨ns,rq,hb2 hbt,r1,r2,hn⟩) (s1.trans s2)⟩
inductive Sq (vs:YG) (H:Hp) (Q:VK) (E:XK):Prop
 | mk (v z) (_:vs=[v]) (_:FN H v z) (_:z.name.length<=20000) (_:z.adr.length<=20000) (_:∀(b:Bool) H',(b=true->Rg z)->Same H H'->Q (.bl b) H'):Sq vs H Q E
theorem Yc (C:Code K mg "is_zone" Oo JL) (T:Ty K mg op oe kd wk) (CJ:Good P w K mg base "is_row" 1 Dk (Gp K)) (fX:Good P w K mg base "is_name" 1 JQ Sx) (Oa:Good P w K mg base "are_rising_within" 3 Du aC):Good P w K mg base "is_zone" 4 JL Sq:=by
 refine C.good aL (λvs H Q E h=>?_) (λf cdv A outer s H vs Q E hr h=>?_)
 ·obtain⟨v,z,rfl,_⟩:=h;rfl
 obtain⟨v,z,rfl,⟨t,u,rfl,ht,hu⟩,n2,a2,q⟩:=h;refine⟨_,(Ah (Bc (El (Dt CJ hr (Aa (pv 0) (Aa Ad (Aa Ad Ab)))) (El (Ca fX hr (Aa (Cz Ld (pv 0) Ad (λ_ _=>rfl)) Ab)) (Fd (rW Oa hr (@Aa _ _ _ _ _ (Cz Ld (pv 0) Ad (λ_ _=>rfl)) (@Aa _ _ _ _ _ (@Ad _ _ _ _) (@Aa _ _ _ _ _ (@Ad _ _ _ _) (@Aa _ _ _ _ _ (@Ad _ _ _ _) (@Aa _ _ _ _ _ (@Ad _ _ _ _) (@Ab _) Ak) Ak) Ak) Ak) qY))))))),?_⟩;refine⟨_,rq,t,_,2,2,rq,(.inl ht),_,rq,?_⟩;refine Bl ⟨_,rq,t,_,_,_,rq,rq,SqT.of ht,rq,z.name,rq,n2,λb H1 hb s1=>⟨_,rq,?_⟩⟩;cases b with
 | false=>exact Bw (q false _ (λh=>by cases h) s1)
 | true=>
  refine Bl ⟨_,rq,t,_,_,_,rq,rq,SqT.of (s1 _ _ ht),rq,u,z.adr,1,30,1,99,rq,s1 _ _ hu,a2,by decide,λb H2 hb2 s2=>q b H2 (λh=>?_) (s1.trans s2)⟩;obtain⟨ns,e,hp,l1,l2,hn⟩:=hb2 h;obtain⟨nm,ok⟩:=hb rfl;have ea:(RX z).adr=ns:=by show z.adr.map _=ns;rw[e];exact getD_some ns
  exact⟨⟨⟨nm,ok⟩,by rw[ea];exact⟨hp,by omega,by omega⟩,by rw[ea];exact hn⟩,by rw[ea];exact e⟩
inductive Sy (K:YD) (vs:YG) (H:Hp) (Q:VK) (E:XK):Prop
 | mk (v ps) (_:vs=[v]) (_:Ka K H v ps) (_:ps.length<=20000) (_:(∀p∈ps,p.spur.length<=20000)) (_:∀(b:Bool) H',(b=true->Vr ps)->Same H H'->Q (.bl b) H'):Sy K vs H Q E
theorem Yh (C:Code K mg "is_loop" Ov JR) (T:Ty K mg op oe kd wk) (CJ:Good P w K mg base "is_row" 1 Dk (Gp K)) (bZ:Good P w K mg base "is_place" 6 IW (Qu K)):Good P w K mg base "is_loop" 7 JR (Sy K):=by
 refine C.good aO (λvs H Q E h=>?_) (λf cdv A outer s H vs Q E hr h=>?_)
 ·obtain⟨v,ps,rfl,_⟩:=h;rfl
 obtain⟨v,ps,rfl,⟨t,ws,rfl,ht,hd⟩,l2,sp,q⟩:=h;have lw:=QbR hd;refine⟨_,(Ah (Bc (El (Dt CJ hr (Aa (pv 0) (Aa Ad (Aa Ad Ab)))) (Fd (Ay (GC rfl) rfl T.all JZ (Aa (Cm (N':=xa) rfl (Bs.plain rfl (by trivial) (by trivial) (by trivial)) (Ds (pv 0)) (λ_ _ _ _=>(Aj (i:=0) (show List.Nodup (xa:YF) by trivial) rfl (Or.inl rfl))) (λ_ _ _ _=>CW) (λ_ _ _ _=>(Ca bZ hr (Aa (pv 0) Ab)))) Ab)))))),?_⟩;refine⟨_,rq,t,_,1,12,rq,(.inl ht),_,rq,?_⟩;cases hr:(decide ((1:Int)<=(ws.length:Int))&&decide ((ws.length:Int)<=12)) with
 | false=>exact Bw (q false H (λh=>by cases h) (Same.refl _))
 | true=>
  have r12:=Mx hr;refine Bl ⟨_,rq,t,rq,⟨_,SqT.of ht⟩,λl2 hl2=>?_⟩;refine Jc (r:=[]) (ps:=ps) (F:=OD) hl2 (.inl ht) (by omega) lw (λi x p HH hx hpi s1 R hR=>?_) (λH' bs e f s1=>?_)
  ·obtain⟨p',hp',hap⟩:=Paired.Ed hd hx;rw[hpi] at hp';injection hp' with hp';subst hp';exact⟨_,rq,x,p,rq,hap.tups (Ba.of s1),sp p (QaE hpi),λb H2 hb s2=>hR b _ hb s2⟩
  ·exact⟨l2,bs,rq,SqL.of e,q _ _ (λh=>⟨by omega,f h⟩) s1⟩
inductive Qw (K:YD) (vs:YG) (H:Hp) (Q:VK) (E:XK):Prop
 | mk (Ls ws ja) (_:vs=[.ref Ls]) (_:H Ls=some (.tup ws)) (_:Paired (Ka K H) ws ja) (_:ja.length<=20000) (_:(∀ps∈ja,ps.length<=20000/\∀p∈ps,p.spur.length<=20000)) (_:∀(b:Bool) H',(b=true->(1<=ja.length/\ja.length<=3)/\∀ps∈ja,Vr ps)->Same H H'->Q (.bl b) H'):Qw K vs H Q E
theorem Ka.tups {K:YD} {H H':Hp} (s:Ba H H') {v:V} {d:List Dv} (h:Ka K H v d):Ka K H' v d:=by
 obtain⟨t,vs,e,q1,q2⟩:=h;exact⟨t,vs,e,s _ _ q1,Paired.Cd q2 λ_ _ z=>z.tups s⟩
theorem Va (C:Code K mg "are_loops" Mj Ht) (T:Ty K mg op oe kd wk) (CJ:Good P w K mg base "is_row" 1 Dk (Gp K)) (fY:Good P w K mg base "is_loop" 7 JR (Sy K)):Good P w K mg base "are_loops" 8 Ht (Qw K):=by
 refine C.good Wd (λvs H Q E h=>?_) (λf cdv A outer s H vs Q E hr h=>?_)
 ·obtain⟨Ls,ws,ja,rfl,_⟩:=h;rfl
 obtain⟨t,ws,ja,rfl,ht,hd,l2,sp,q⟩:=h;have lw:=QbR hd;refine⟨_,(Ah (Bc (El (Dt CJ hr (Aa (pv 0) (Aa Ad (Aa Ad Ab)))) (Fd (Ay (GC rfl) rfl T.all JZ (Aa (Cm (N':=xa) rfl (Bs.plain rfl (by trivial) (by trivial) (by trivial)) (Ds (pv 0)) (λ_ _ _ _=>(Aj (i:=0) (show List.Nodup (xa:YF) by trivial) rfl (Or.inl rfl))) (λ_ _ _ _=>CW) (λ_ _ _ _=>(Ca fY hr (Aa (pv 0) Ab)))) Ab)))))),?_⟩;refine⟨_,rq,t,_,1,3,rq,(.inl ht),_,rq,?_⟩;cases hr:(decide ((1:Int)<=(ws.length:Int))&&decide ((ws.length:Int)<=3)) with
 | false=>exact Bw (q false H (λh=>by cases h) (Same.refl _))
 | true=>
  have r12:=Mx hr;refine Bl ⟨_,rq,t,rq,⟨_,SqT.of ht⟩,λl2 hl2=>?_⟩;refine Jc (r:=[]) (ps:=ja) (F:=Vr) hl2 (.inl ht) (by omega) lw (λi x p HH hx hpi s1 R hR=>?_) (λH' bs e f s1=>?_)
  ·obtain⟨p',hp',hap⟩:=Paired.Ed hd hx;rw[hpi] at hp';injection hp' with hp';subst hp';have k:=sp p (QaE hpi);exact⟨_,rq,x,p,rq,hap.tups (Ba.of s1),k.1,k.2,λb H2 hb s2=>hR b _ hb s2⟩
  ·exact⟨l2,bs,rq,SqL.of e,q _ _ (λh=>⟨by omega,f h⟩) s1⟩
end
theorem kO {α : Type} {f:α->Key} {xs:List α} {x:α} (h:x∈xs):putK (G3 f xs) (f x) (.bl true)=G3 f xs:=by
 have h0:((G3 f xs).any λkv=>decide (kv.1=f x))=true:=List.any_eq_true.mpr ⟨(f x,V.bl true),QbY.mpr ⟨x,h,rq⟩,QbM rfl⟩;unfold putK;rw[if_pos h0];unfold G3;rw[Qcc];refine List.map_congr_left λy _=>?_;show (if f y=f x then (f y,V.bl true) else (f y,V.bl true))=_
 split <;> rfl
def nv (ns:YF) (i:Nat):Str:=ns.getD i Str.empty
theorem nG {ns:YF} {i:Nat} {n:Str} (h:ns[i]?=some n):nv ns i=n:=by
 unfold nv;rw[List.getD_eq_getElem?_getD,h];rfl
theorem WX (ns:YF):∀i,i<=ns.length->(met (nv ns) i).length=i->met (nv ns) i=ns.take i/\(ns.take i).Nodup
 | 0,_,_=>⟨rfl,QbO⟩
 | i+1,h,e=>by
  have hi:ns[i]?=some ns[i]:=Qak (by omega);have en:=nG hi;rw[WW] at e ⊢;have ml:=Tn (nv ns) i;by_cases m:nv ns i∈met (nv ns) i
  ·rw[if_pos m] at e;omega
  ·rw[if_neg m] at e ⊢;rw[QaM,Qax] at e;obtain⟨ih1,ih2⟩:=WX ns i (by omega) (by omega);rw[Qcn hi];rw[ih1,en] at m ⊢;refine⟨rq,Qbh.mpr ⟨ih2,(by simp),λa ha b hb e=>?_⟩⟩;rw[QaQ.mp hb] at e;exact m (e ▸ ha)
theorem oZ {K:YD} {H:Hp} {v:V} {p:Dv} (h:G6 K H v p) (f:OD p):Hu K H v (Iz p):=by
 obtain⟨t,u,vs,e,q1,q2,q3⟩:=h;obtain⟨_,fa,fd⟩:=f;refine⟨t,u,vs,e,by rw[fa] at q1;exact q1,q2,?_⟩;show Paired (Jg H) vs (p.spur.map Lw);clear q1 q2 e fa;revert fd;generalize p.spur=ds at q3 ⊢;intro fd
 induction q3 with
 | nil=>exact .nil
 | cons a t ih=>
  refine .cons ?_ (ih λd hd=>fd d (QaD _ hd));obtain⟨w,rfl,e⟩:=a;have:=fd _ QaN;rw[this] at e;exact⟨w,rq,e⟩
theorem Wk {K:YD} {H:Hp}:∀{vs:YG} {ps:List Dv},Paired (G6 K H) vs ps->(∀p∈ps,OD p)->Paired (Hu K H) vs (ps.map Iz)
 | _,_,.nil,_=>.nil
 | _,_,.cons a t,h=>.cons (oZ a (h _ QaN)) (Wk t λp hp=>h p (QaD _ hp))
theorem Zz {K:YD} {H:Hp}:∀{vs:YG} {ls:List (List Dv)},Paired (Ka K H) vs ls->(∀ps∈ls,Vr ps)->Paired (Ly K H) vs (ls.map (·.map Iz))
 | _,_,.nil,_=>.nil
 | _,_,.cons ⟨t,vs,e,q1,q2⟩ r,h=>.cons ⟨t,vs,e,q1,Wk q2 (h _ QaN).2⟩ (Zz r λp hp=>h p (QaD _ hp))
theorem qH {H:Hp} {v:V} {z:Jd} (h:FN H v z) (f:Rg z):Fp H v (RX z):=by
 obtain⟨t,u,e,q1,q2⟩:=h;refine⟨t,u,e,q1,?_⟩;rw[f.2,Zu] at q2;exact q2
theorem Y7 {H:Hp}:∀{vs:YG} {zs:List Jd},Paired (FN H) vs zs->(∀z∈zs,Rg z)->Paired (Fp H) vs (zs.map RX)
 | _,_,.nil,_=>.nil
 | _,_,.cons a t,h=>.cons (qH a (h _ QaN)) (Y7 t λp hp=>h p (QaD _ hp))
section
variable {P:Program} {w:World} {K:YD} {mg:YB} {base:Heap} {op oe kd wk:Addr}
inductive Qs (vs:YG) (H:Hp) (Q:VK) (E:XK):Prop
 | mk (zs ws jp) (_:vs=[.ref zs]) (_:H zs=some (.tup ws)) (_:Paired (FN H) ws jp) (_:jp.length<=20000) (_:(∀z∈jp,z.name.length<=20000/\z.adr.length<=20000)) (_:∀(b:Bool) H',(b=true->jp.length<=8/\(∀z∈jp,Rg z)/\(jp.map (·.name)).Nodup)->Same H H'->Q (.bl b) H'):Qs vs H Q E
abbrev xm:YF:=["name","addresses"]
theorem U9 (C:Code K mg "are_zones" Mi Hs) (T:Ty K mg op oe kd wk) (CJ:Good P w K mg base "is_row" 1 Dk (Gp K)) (fU:Good P w K mg base "is_zone" 4 JL Sq):Good P w K mg base "are_zones" 5 Hs Qs:=by
 refine C.good Wc (λvs H Q E h=>?_) (λf cdv A outer s H vs Q E hr h=>?_)
 ·obtain⟨zs,ws,jp,rfl,_⟩:=h;rfl
 obtain⟨t,ws,jp,rfl,ht,hd,l2,sp,q⟩:=h;have lw:=QbR hd;refine⟨_,(Ae (BP (PW.pt (Kq (Ea (DK (Dt CJ hr (Aa (pv 0) (Aa Ad (Aa Ad Ab)))))) (JF (Ea (DK (Ay (GC rfl) rfl T.all JZ (Aa (Cm (N':=xa) rfl (Bs.plain rfl (by trivial) (by trivial) (by trivial)) (Ds (pv 0)) (λ_ _ _ _=>(Aj (i:=0) (show List.Nodup (xa:YF) by trivial) rfl (Or.inl rfl))) (λ_ _ _ _=>CW) (λ_ _ _ _=>(Ca fU hr (Aa (pv 0) Ab)))) Ab))))))) (Ah (Bc Gm)) Bq)
 (Ah (Bc (Kw Dz (Ay gJ rfl T.len Ep (Aa (jK (N':=xm) rfl (Bs.plain rfl (by trivial) (by trivial) (by trivial)) (Ds (pv 0)) (λ_ _ _ _=>(Pz (K:=K) (n:=2) rfl rfl (Av (Aj (i:=0) (show List.Nodup (xm:YF) by trivial) rfl (Or.inl rfl)) (Av (Aj (i:=1) (show List.Nodup (xm:YF) by trivial) rfl (Or.inl rfl)) Ck)))) (λ_ _ _ _=>CW) (λ_ _ _ _=>(pv 0)) (λ_ _ _ _=>Gm)) Ab)) (Ay Dc rfl T.len Ep (Aa (pv 0) Ab)) (Bx _))))),?_⟩
 show let R0:TS:=_;Ar _ R0 _ _ _;intro R0;refine⟨_,rq,t,_,0,8,rq,(.inl ht),_,rq,?_⟩;cases hr:(decide ((0:Int)<=(ws.length:Int))&&decide ((ws.length:Int)<=8)) with
 | false=>exact Bl (q false H (λh=>by cases h) (Same.refl _))
 | true=>
 have r8:=Mx hr;refine Bw ⟨_,rq,t,rq,⟨_,SqT.of ht⟩,λl2 hl2=>?_⟩;refine Jc (r:=[]) (ps:=jp) (F:=Rg) hl2 (.inl ht) (by omega) lw (λi x p HH hx hpi s1 R hR=>?_) (λH' bs e fz s1=>?_)
 ·obtain⟨p',hp',hap⟩:=Paired.Ed hd hx;rw[hpi] at hp';injection hp' with hp';subst hp';have k:=sp p (QaE hpi);exact⟨_,rq,x,p,rq,hap.tups (Ba.of s1),k.1,k.2,λb H2 hb s2=>hR b _ hb s2⟩
 refine⟨l2,bs,rq,SqL.of e,_,rq,?_⟩;cases hb:bs.all id with
 | false=>exact Bl (q false _ (λh=>by cases h) s1)
 | true=>
 have ht1:=s1 _ _ ht;refine Bw ⟨_,rq,t,rq,⟨_,SqT.of ht1⟩,λl hl=>?_⟩;let J0:YN:=λi σ HH=>∃u1 u2,σ=[u1,u2]/\HH l=some (.dK (G3 (λn:Str=>Sum.inr n) (met (nv (jp.map (·.name))) i)))/\Same H' HH;refine gA (xs:=ws) J0 ⟨_,_,rq,Ac,Af hl _⟩ (λi σ HH _ h=>?_) (λi x σ HH hx h=>?_) (fun σ HH h=>?_)
 ·obtain⟨u1,u2,rfl,e1,e2⟩:=h;exact SqT.of (e2 _ _ ht1)
 ·obtain⟨u1,u2,rfl,e1,e2⟩:=h;obtain⟨z,hzi,tz,uz,rfl,h1,h2⟩:=Paired.Ed hd hx;have hi:=(Qaf.mp hzi).1;have ml:=Tn (nv (jp.map (·.name))) i;have en:nv (jp.map (·.name)) i=z.name:=nG (by rw[Qbc,hzi];rfl);refine⟨tz,_,rq,SqT.of (e2 _ _ (s1 _ _ h1)),rq,_,_,rq,_,_,rq,rq,?_⟩;refine Bl ⟨_,rq,_,Sum.inr z.name,e1,rq,Bb (by rw[Ul];omega),_,_,rq,?_,e2.CQ Ag.upd hl⟩;rw[Ac,WW,en];by_cases m:z.name∈met (nv (jp.map (·.name))) i
  ·rw[if_pos m,kO (f:=λn:Str=>(Sum.inr n:Key)) m]
  ·rw[if_neg m,fD (f:=λn:Str=>(Sum.inr n:Key)) (x:=z.name)];exact λy hy e=>m ((Sum.inr.inj e) ▸ hy)
 ·obtain⟨u1,u2,rfl,e1,e2⟩:=h;refine⟨l,_,rq,e1,_,rq,t,_,rq,.inr (SqT.of (e2 _ _ ht1)),rq,?_⟩;refine q _ _ (λh=>?_) (s1.trans e2);have h:V.int ((G3 (λn:Str=>(Sum.inr n:Key)) (met (nv (jp.map (·.name))) ws.length)).length:Int)=V.int (ws.length:Int):=Qbd h;injection h with h;rw[Ul] at h;have lz:(jp.map (·.name)).length=ws.length:=by rw[Qbw];exact lw.symm
  have:=(WX (jp.map (·.name)) ws.length (by omega) (by omega)).2;rw[<-lz,Qbp] at this;exact⟨by omega,fz hb,this⟩
def Zi (K:YD):Sp:=λvs H Q _=>(vs=[.non]/\Q (.bl false) H)\/∃pl most ja jp,vs=[.ref pl]/\uX K H pl most ja jp/\uZ 16010 ja jp/\∀(b:Bool) H',(b=true->∃m l z,PlF m l z/\PlL K H pl m l z)->Same H H'->Q (.bl b) H'
theorem Ye (C:Code K mg "is_plan" Ot JN) (T:Ty K mg op oe kd wk) (CJ:Good P w K mg base "is_row" 1 Dk (dG K)) (Ft:Good P w K mg base "is_within" 2 Eh Pu) (Yx:Good P w K mg base "are_loops" 8 Ht (Qw K)) (Yw:Good P w K mg base "are_zones" 5 Hs Qs) (fZ:Good P w K mg base "devices" 2 JT (aJ K)):Good P w K mg base "is_plan" 9 JN (Zi K):=by
 have sc:=Iu;refine C.good Iu (λvs H Q E h=>?_) (λf cdv A outer s H vs Q E hr h=>?_)
 ·rcases h with⟨rfl,_⟩|⟨pl,most,ja,jp,rfl,_⟩ <;> rfl
 refine⟨_,(Ae (BP (Ea (DK (Dt CJ hr (Aa (pv 0) (Aa Ad (Aa Ad Ab)))))) (Ah (Bc Gm)) Bq)
 (Ae (Eb (pv 0) (Di rfl (Av (Aj (i:=1) Iu.nd rfl (Or.inl rfl)) (Av (Aj (i:=2) Iu.nd rfl (Or.inl rfl)) (Av (Aj (i:=3) Iu.nd rfl (Or.inl rfl)) Ck)))))
 (Ae (BP (PW.pt (Kq (Ea (DK (Dt Ft hr (Aa (pv 1) (Aa Ad (Aa Ad Ab)))))) (Kq (Ea (DK (Ca Yx hr (Aa (pv 2) Ab)))) (JF (Ea (DK (Ca Yw hr (Aa (pv 3) Ab)))))))) (Ah (Bc Gm)) Bq)
 (Ah (Bc (KZ Hx Hx Ad (Ay Dc rfl T.len Ep (Aa (Ca fZ hr (Aa (pv 0) Ab)) Ab)) Ad)))))),?_⟩
 show let R0:TS:=_;let R1:TS:=Ar _ R0;let R2:TS:=Ar _ R1;Ar _ R2 _ _ _;intro R0 R1 R2;rcases h with⟨rfl,q⟩|⟨pl,most,ja,jp,rfl,⟨Ls,zs,ws,zvs,e1,e2,e3,e4,e5⟩,ox,q⟩
 ·exact⟨_,rq,.inr ⟨3,3,rq,_,rq,Bl q⟩⟩
 have no:∀H',Same H H'->Q (.bl false) H':=λH' s=>q false H' (λh=>by cases h) s;refine⟨_,rq,.inl ⟨pl,_,3,3,rq,(.inl e1),_,rq,?_⟩⟩;refine Bw ⟨_,rq,pl,_,rq,SqT.of e1,rq,_,_,rq,_,_,rq,_,_,rq,rq,?_⟩;refine⟨_,rq,most,1,30,rq,_,rq,?_⟩;cases hm:wiO most 1 30 with
 | false=>exact Bl (no _ (Same.refl _))
 | true=>
 obtain⟨m,rfl,m1,m2⟩:=Vk hm;refine Bw ⟨_,rq,Ls,ws,ja,rq,e2,e3,Qca ox.lm (by decide),λps hps=>⟨Qca (ox.lo ps hps).1 (by decide),λp hp=>Qca ((ox.lo ps hps).2 p hp).many (by decide)⟩,λb H1 hb s1=>⟨_,rq,?_⟩⟩;cases b with
 | false=>exact Bl (no _ s1)
 | true=>
 obtain⟨l13,lf⟩:=hb rfl;refine Bw ⟨_,rq,zs,zvs,jp,rq,s1 _ _ e4,Paired.Cd e5 λ_ _ z=>z.tups (Ba.of s1),Qca ox.zm (by decide),λz hz=>⟨Qca (ox.zo z hz).name (by decide),Qca (ox.zo z hz).many (by decide)⟩,λb H2 hb2 s2=>⟨_,rq,?_⟩⟩;have s12:=s1.trans s2;cases b with
 | false=>exact Bl (no _ s12)
 | true=>
 obtain⟨z8,zf,zn⟩:=hb2 rfl;have okl:XQ (ja.map (·.map Iz)):=by
  refine⟨λps hps=>?_,by rw[Qbw];exact l13.2⟩;obtain⟨qs,hq,rfl⟩:=QbY.mp hps;obtain⟨⟨a1,a2⟩,a3⟩:=lf qs hq;refine⟨by rw[Qbw];exact a1,by rw[Qbw];exact a2,λp hp=>?_⟩;obtain⟨p',hp',rfl⟩:=QbY.mp hp;exact (a3 p' hp').1.ok
 have kl:=Zz e3 lf;have kz:=Y7 e5 zf;refine Bw ⟨_,rq,pl,ja.map (·.map Iz),rq,⟨_,_,Ls,ws,s12 _ _ e1,s12 _ _ e2,Paired.Cd kl λ_ _ z=>z.tups (Ba.of s12)⟩,okl,λl xs H3 hl hx hp s3=>?_⟩;have lx:=QbR hp;have la:(up (pdL (ja.map (·.map Iz))) (ja.map (·.map Iz)).length).length=(BX (ja.map (·.map Iz))).length:=by rw[<-gq (ja.map (·.map Iz))];exact (Qbw _).symm
 have fin:(1<=xs.length/\xs.length<=30)->∃m l z,PlF m l z/\PlL K H pl m l z:=λhc=>by
  refine⟨m,ja.map (·.map Iz),jp.map RX,⟨okl,by rw[Qbw];exact l13.1,λx hx=>?_,by omega,⟨m1,m2⟩,λz hz=>?_,by rw[Qbw];exact z8,by rw[Qcc];exact zn⟩,Ls,zs,ws,zvs,e1,e2,kl,e4,kz⟩
  ·obtain⟨ps,hps,hx⟩:=Qbt.mp hx;obtain⟨qs,hq,rfl⟩:=QbY.mp hps;obtain⟨p,hp,hx⟩:=Qbt.mp hx;obtain⟨p',hp',rfl⟩:=QbY.mp hp;exact ((lf qs hq).2 p' hp').1.bd x hx
  ·obtain⟨z',hz',rfl⟩:=QbY.mp hz;exact (zf z' hz').1
 have SQ:=s12.trans s3;refine⟨l,_,rq,.inl (SqL.of hx),_,_,rq,rq,_,rq,?_⟩;by_cases g1:1<=xs.length
 ·rw[show decide ((1:Int)<=(xs.length:Int))=true from QbM (by omega)]
  refine Bl ⟨_,_,rq,rq,?_⟩;show Q (.bl (decide ((xs.length:Int)<=30))) H3;refine q _ _ (λh=>fin ⟨g1,?_⟩) SQ;have:=Qbd h;omega
 ·rw[show decide ((1:Int)<=(xs.length:Int))=false from Qbz (by omega)]
  exact Bw (no _ SQ)
end
abbrev Kf:Stmt:=top 56
abbrev Gb:YF:=["_law_plan_here"]
theorem Bd:Bf ["_law_plan_here","_law_most","_law_loops","_law_zones","_law_text","_law_places","_law_kind_here","_law_address","_law_spur","_law_row","_law_between","_law_other","_law_number","_law_name_here","_law_addresses"] Gb (Al Kf):=by ac_rfl
theorem kwt:L (Str.ofString "loop\n")=L "loop"++L "\n"/\L (Str.ofString "zone ")=L "zone"++L " "/\(Str.ofString "loop\n").length=5/\(Str.ofString "zone ").length=5:=by trivial
def Br (rows:List (List Nat)):List Nat:=(rows.map λr=>r++L "\n").flatten
theorem Jw (a:List (List Nat)) (r:List Nat):Br (a++[r])=Br a++(r++L "\n"):=by
 unfold Br;rw[Qbx,List.flatten_append,List.map_singleton,List.flatten_singleton]
theorem Fg (a b:List (List Nat)):Br (a++b)=Br a++Br b:=by
 unfold Br;rw[Qbx,List.flatten_append]
theorem bL {m:Nat} {rows:List (List Nat)} (h:∀r∈rows,r.length<=m):(Br rows).length<=(m+1)*rows.length:=by
 have l4:=Bt.2.2.2.1;have:=Mt (f:=λr:List Nat=>r.length) (m:=m+1) (ys:=rows.map λr=>r++L "\n") λx hx=>by
  obtain⟨r,hr,rfl⟩:=QbY.mp hx;have:=h r hr;rw[l4,QaM];show _+1<=_;omega
 rw[Qbw] at this;unfold Br;rw[List.length_flatten];exact this
def jnD:List Dev->List Nat
 | []=>[]
 | d::r=>L ", "++(BR d++jnD r)
theorem RN (d:Dev) (r:List Dev):Fi (d::r)=BR d++jnD r:=by
 induction r generalizing d with
 | nil=>show BR d=BR d++[];rw[QbA]
 | cons e r ih=>
  show BR d++(L ", "++Fi (e::r))=BR d++(L ", "++(BR e++jnD r));rw[ih]
theorem lU (l:List Dev) (d:Dev):jnD (l++[d])=jnD l++(L ", "++BR d):=by
 induction l with
 | nil=>show L ", "++(BR d++[])=[]++(L ", "++BR d);rw[QbA];rfl
 | cons e r ih=>
  show L ", "++(BR e++jnD (r++[d]))=(L ", "++(BR e++jnD r))++_;rw[ih];simp only[Qba]
def RP (ds:List Dev):List Nat:=if ds=[] then [] else L " : "++Fi ds
theorem bR (l:List Dev) (d:Dev):RP (l++[d])=RP l++(if l=[] then L " : " else L ", ")++BR d:=by
 cases l with
 | nil=>show L " : "++BR d=([]++L " : ")++BR d;rfl
 | cons e r=>
  show L " : "++Fi (e::(r++[d]))=((L " : "++Fi (e::r))++L ", ")++BR d;rw[RN,RN,lU];simp only[Qba]
theorem S7 {p:Place} (k:V.str p.kind=V.str "opener"):Bu p=L "opener":=if_pos k
theorem dU {p:Place} (k:¬V.str p.kind=V.str "opener"):Bu p=BR ⟨p.kind,p.addr⟩++RP p.spur:=by
 rw[KY k];unfold RP;split
 ·rw[QbA]
 ·rfl
section
variable {P:Program} {w:World} {K:YD} {mg:YB} {base:Heap}
theorem Ww (C:Code K mg "_law_plan_text" Kf Gb) (T:Nm mg):Good P w K mg base "_law_plan_text" 1 Gb (Im K):=by
 refine C.good Bd (λvs H Q E h=>?_) (λf cdv A outer s H vs Q E hr h=>?_)
 ·obtain⟨pl,most,ja,jp,rfl,_⟩:=h;rfl
 obtain⟨pl,most,ja,jp,rfl,pa,q⟩:=h;obtain⟨Ls,zs,ws,zvs,e1,e2,e3,e4,e5⟩:=pa.at_;refine⟨_,(@Ae _ _ _ _ _ (Eb (pv 0) (Di rfl (Av (Aj (i:=1) Bd.nd rfl (Or.inl rfl)) (Av (Aj (i:=2) Bd.nd rfl (Or.inl rfl)) (Av (Aj (i:=3) Bd.nd rfl (Or.inl rfl)) Ck)))))
 (@Ae _ _ _ _ _ (@Ax _ _ 4 _ _ _ _ Bd.nd rfl (Or.inl rfl) (@Aw _ _ _ _ _ _ _ _ Bg (@Aw _ _ _ _ _ _ _ _ Bg Ai (Cj FJ rfl T.str JX (Aa (pv 1) Ab))) Ai) (by rfl) (by first | exact .inl rfl | exact .inr rfl))
 (@Ae _ _ _ _ _ (Dh QbC rfl (Ds (pv 2)) (Aj (i:=5) Bd.nd rfl (Or.inl rfl))
 (@Ae _ _ _ _ _ (@Ax _ _ 4 _ _ _ _ Bd.nd rfl (Or.inl rfl) (@Aw _ _ _ _ _ _ _ _ Bg (pv 4) Ai) (by rfl) (by first | exact .inl rfl | exact .inr rfl))
 (@Ah _ _ _ (Dh QbC rfl (Ds (pv 5)) (Di rfl (Av (Aj (i:=6) Bd.nd rfl (Or.inl rfl)) (Av (Aj (i:=7) Bd.nd rfl (Or.inl rfl)) (Av (Aj (i:=8) Bd.nd rfl (Or.inl rfl)) Ck))))
 (@Ae _ _ _ _ _ (@Ax _ _ 9 _ _ _ _ Bd.nd rfl (Or.inl rfl) (pv 6) (by rfl) (by first | exact .inl rfl | exact .inr rfl))
 (@Ae _ _ _ _ _ (BP (Bp Vo (pv 6) Ai (Bx _)) (@Ah _ _ _ (@Ax _ _ 9 _ _ _ _ Bd.nd rfl (Or.inl rfl) (@Aw _ _ _ _ _ _ _ _ Bg (@Aw _ _ _ _ _ _ _ _ Bg (pv 9) Ai) (Cj FJ rfl T.str JX (Aa (pv 7) Ab))) (by rfl) (by first | exact .inl rfl | exact .inr rfl))) Bq)
 (@Ae _ _ _ _ _ (@Ax _ _ 10 _ _ _ _ Bd.nd rfl (Or.inl rfl) Ai (by rfl) (by first | exact .inl rfl | exact .inr rfl))
 (@Ae _ _ _ _ _ (Dh QbC rfl (Ds (pv 8)) (Di rfl (Av (Aj (i:=11) Bd.nd rfl (Or.inl rfl)) (Av (Aj (i:=12) Bd.nd rfl (Or.inl rfl)) Ck)))
 (@Ae _ _ _ _ _ (@Ax _ _ 9 _ _ _ _ Bd.nd rfl (Or.inl rfl) (@Aw _ _ _ _ _ _ _ _ Bg (@Aw _ _ _ _ _ _ _ _ Bg (@Aw _ _ _ _ _ _ _ _ Bg (@Aw _ _ _ _ _ _ _ _ Bg (pv 9) (pv 10)) (pv 11)) Ai) (Cj FJ rfl T.str JX (Aa (pv 12) Ab))) (by rfl) (by first | exact .inl rfl | exact .inr rfl))
 (@Ah _ _ _ (@Ax _ _ 10 _ _ _ _ Bd.nd rfl (Or.inl rfl) Ai (by rfl) (by first | exact .inl rfl | exact .inr rfl)))))
 (@Ah _ _ _ (@Ax _ _ 4 _ _ _ _ Bd.nd rfl (Or.inl rfl) (@Aw _ _ _ _ _ _ _ _ Bg (@Aw _ _ _ _ _ _ _ _ Bg (pv 4) (pv 9)) Ai) (by rfl) (by first | exact .inl rfl | exact .inr rfl)))))))))))
 (@Ae _ _ _ _ _ (Dh QbC rfl (Ds (pv 3)) (Di rfl (Av (Aj (i:=13) Bd.nd rfl (Or.inl rfl)) (Av (Aj (i:=14) Bd.nd rfl (Or.inl rfl)) Ck)))
 (@Ae _ _ _ _ _ (@Ax _ _ 4 _ _ _ _ Bd.nd rfl (Or.inl rfl) (@Aw _ _ _ _ _ _ _ _ Bg (@Aw _ _ _ _ _ _ _ _ Bg (pv 4) Ai) (pv 13)) (by rfl) (by first | exact .inl rfl | exact .inr rfl))
 (@Ae _ _ _ _ _ (Dh QbC rfl (Ds (pv 14)) (Aj (i:=7) Bd.nd rfl (Or.inl rfl))
 (@Ah _ _ _ (@Ax _ _ 4 _ _ _ _ Bd.nd rfl (Or.inl rfl) (@Aw _ _ _ _ _ _ _ _ Bg (@Aw _ _ _ _ _ _ _ _ Bg (pv 4) Ai) (Cj FJ rfl T.str JX (Aa (pv 7) Ab))) (by rfl) (by first | exact .inl rfl | exact .inr rfl))))
 (@Ah _ _ _ (@Ax _ _ 4 _ _ _ _ Bd.nd rfl (Or.inl rfl) (@Aw _ _ _ _ _ _ _ _ Bg (pv 4) Ai) (by rfl) (by first | exact .inl rfl | exact .inr rfl))))))
 (@Ah _ _ _ (@Bc _ _ _ _ (pv 4))))))),?_⟩
 show let R0:TS:=_;let R1:TS:=_;let R2:TS:=Ar (Et _ _ R1) R0;let R3:TS:=Ar _ R2;let R4:TS:=Ar (Et _ _ R3) _;let R5:TS:=_;let R6:TS:=_;let R7:TS:=Ar _ R6;let R8:TS:=Ar (Et _ _ R7) R5;let R9:TS:=Ar _ R8;let R10:TS:=_;let R11:TS:=Ar (Ec _ R10 _) R9;let R12:TS:=Ar _ R11;let R13:TS:=Et _ _ R12;let R14:TS:=Ar _ R13;let R15:TS:=Ar (Et _ _ R14) R4;let R16:TS:=Ar _ R15;Ar _ R16 _ _ _;intro R0 R1 R2 R3 R4 R5 R6 R7 R8 R9 R10 R11 R12 R13 R14 R15 R16;obtain⟨l0,l1,l2,l3,l4,l5,l6,l7,l8,l9⟩:=ll;obtain⟨k1,k2,k3,k4⟩:=kwt;have mb:1<=most/\most<=99:=⟨pa.mo.1,by have:=pa.mo.2;omega⟩;have ml:=DX mb;have pf:=pa.toPlF;have rl:=Ib pf;generalize hst:L2.start _ _=σ0;have e0:σ0=[js pl,none,none,none,none,none,none,none,none,none,none,none,none,none,none]:=hst.symm;clear hst;subst e0;refine⟨_,rq,pl,_,rq,SqT.of e1,rq,_,_,rq,_,_,rq,_,_,rq,rq,?_⟩;refine⟨_,rq,most,rq,FQ mb,_,_,rq,rq,szb (by simp only[QaZ,l6];omega),_,_,rq,rq,szb (by simp only[QaZ,l5,l6];omega),?_⟩;simp only[QaP,QaO];have vW:((L "most "++Bm most):List Nat).length<=290:=rl.2 _ QaN;have nH:∀ps∈ja,∀r∈Bv ps,r.length<=290:=λps hps r hr=>rl.2 _ (QaD _ (QaF _ (Qbt.mpr ⟨ps,hps,hr⟩)));have wN:∀z∈jp,(BL z).length<=290:=λz hz=>rl.2 _ (QaD _ (Qaw _ (QbY.mpr ⟨z,hz,rq⟩)));have tk:∀i,((ja.take i).flatMap Bv).length<=39:=λi=>by
  have h1:=Ks (f:=Bv) (m:=13) (l:=ja.take i) λps hps=>Pa (pf.ok.ok ps (QaG hps));have h2:=pf.ok.hi;rw[Qbn] at h1;omega
 have pre:∀i,∀r∈(L "most "++Bm most)::(ja.take i).flatMap Bv,r.length<=290:=λi r hr=>by
  rcases QbQ.mp hr with rfl | hr
  ·exact vW
  ·obtain⟨ps,hps,hr⟩:=Qbt.mp hr;exact nH ps (QaG hps) r hr
 have sz:∀(R:List (List Nat)) (y:Str),(∀r∈R,r.length<=290)->R.length<=60->L y=Br R->y.length<=17460:=λR y h1 h2 e=>by
  rw[CK,e];exact Qca (bL h1) (by omega)
 refine⟨_,rq,Ls,rq,⟨_,SqT.of e2⟩,?_⟩;let J0:YN:=λi σ HX=>HX=H/\∃(y:Str) (u5 u6 u7 u8 u9 u10 u11 u12:Option V),σ=[js pl,some (.int most),js Ls,js zs,some (.str y),u5,u6,u7,u8,u9,u10,u11,u12,none,none]/\L y=Br ((L "most "++Bm most)::(ja.take i).flatMap Bv);refine G4 (xs:=ws) J0 ⟨rq,_,_,_,_,_,_,_,_,_,rq,?_⟩ (λi σ HX _ h=>?_) (λi x σ HX hx h=>?_) (fun σ HX h=>?_)
 ·simp only[Df];show _=((L "most "++Bm most)++L "\n")++[];rw[QbA];rfl
 ·obtain⟨rfl,_⟩:=h;exact SqT.of e2
 ·obtain⟨rfl,y,u5,u6,u7,u8,u9,u10,u11,u12,rfl,ey⟩:=h;simp only[QaP,QaO];obtain⟨ps,hps,tp,vp,rfl,h1,h2⟩:=Paired.Ed e3 hx;have psm:=QaE hps;have oks:=pf.ok.ok ps psm;have AH:=oks.hi;have tki:=tk i;have yl:=sz _ y (pre i) (by rw[Qbo];omega) ey;refine⟨_,rq,_,_,rq,rq,szb (by omega),?_⟩;simp only[QaP,QaO];refine⟨_,rq,tp,rq,⟨_,SqT.of h1⟩,?_⟩;let J1:YN:=λj σ HY=>HY=HX/\∃(y:Str) (u6 u7 u8 u9 u10 u11 u12:Option V),σ=[js pl,some (.int most),js Ls,js zs,some (.str y),js tp,u6,u7,u8,u9,u10,u11,u12,none,none]/\L y=Br (((L "most "++Bm most)::(ja.take i).flatMap Bv)++(L "loop"::(ps.take j).map Bu));refine G4 (xs:=vp) J1 ⟨rq,_,_,_,_,_,_,_,_,rq,?_⟩ (λj σ HY _ h=>?_) (λj x σ HY hx h=>?_) (fun σ HY h=>?_)
  ·rw[Df,ey,k1];show _=Br (((L "most "++Bm most)::(ja.take i).flatMap Bv)++[L "loop"]);rw[Jw]
  ·obtain⟨rfl,_⟩:=h;exact SqT.of h1
  ·obtain⟨rfl,y,u6,u7,u8,u9,u10,u11,u12,rfl,ey⟩:=h;simp only[QaP,QaO];obtain⟨p,hp,t,u,ds,rfl,ht,hu,hd⟩:=Paired.Ed h2 hx;have ok:=pf.place psm (QaE hp);have s3:=ok.ok.spur;have lds:=QbR hd;have tkp:=Qcn hp;have yl:=sz _ y (λr hr=>by
    rcases Qby.mp hr with hr | hr
    ·exact pre i r hr
    ·refine nH ps psm r ?_;rcases QbQ.mp hr with rfl | hr
     ·exact QaN
     ·obtain⟨q,hq,rfl⟩:=QbY.mp hr;exact QaD _ (QbY.mpr ⟨q,QaG hq,rq⟩)) (by rw[QaM,Qbo,Qbo,Qbw,Qbn];omega) ey
   have fin:∀z:Str,L z=Bu p->L (y++z++Str.ofString "\n")=Br (((L "most "++Bm most)::(ja.take i).flatMap Bv)++(L "loop"::(ps.take (j+1)).map Bu)):=λz ez=>by
    rw[Df,Df,ey,ez,tkp,Qbx];show _=Br (((L "most "++Bm most)::(ja.take i).flatMap Bv)++((L "loop"::(ps.take j).map Bu)++[Bu p]));rw[<-Qba,Jw,Qba]
   have rM:=Wj ok;refine⟨t,_,rq,ht.sq,rq,_,_,rq,_,_,rq,_,_,rq,rq,?_⟩;simp only[QaP,QaO];refine⟨_,rq,?_⟩;simp only[QaP,QaO];refine⟨_,rq,rq,_,rq,?_⟩;by_cases k:V.str p.kind=V.str "opener"
   ·have esp:p.spur=[]:=by
     rcases ok.ok.form with⟨_,_,f⟩| f
     ·exact f
     ·exact absurd k (Jb f)
    have eds:ds=[]:=Qaq.mp (by rw[lds,esp];rfl);subst eds;have ek:L p.kind=Bu p:=by rw[S7 k,show p.kind=Str.ofString "opener" by injection k]
    rw[QbM k];refine Bw ?_;simp only[QaP,QaO];refine⟨_,rq,u,rq,⟨_,hu.sq⟩,?_⟩;let J2:YN:=λk' σ HZ=>HZ=HY/\σ=[js pl,some (.int most),js Ls,js zs,some (.str y),js tp,some (.str p.kind),some (.int p.addr),js u,some (.str p.kind),some (.str (Str.ofString " : ")),u11,u12,none,none];refine G4 (xs:=[]) J2 ⟨rq,rq⟩ (λk' σ HZ _ h=>?_) (λk' x σ HZ hx h=>by cases hx) (fun σ HZ h=>?_)
    ·obtain⟨rfl,_⟩:=h;exact hu.sq
    ·obtain⟨rfl,rfl⟩:=h;have pk:p.kind.length<=60:=by rw[CK,ek];exact rM
     refine⟨_,rq,_,rq,_,_,rq,rq,szb (by omega),_,_,rq,rq,szb (by simp only[QaZ,l5];omega),?_⟩;exact⟨rq,_,_,_,_,_,_,_,_,rq,fin _ ek⟩
   ·obtain⟨d0,dsp⟩:=ok.dev k;have k6:p.kind.length<=6:=kind_len d0.kind;have n2:(Str.ofString (toString p.addr)).length<=2:=DX d0.bd;have nl:p.addr.natAbs.log2 < 1920:=FQ d0.bd;rw[Qbz k];refine Bl ?_;refine⟨_,rq,_,_,rq,rq,szb (by simp only[l2];omega),_,rq,p.addr,rq,nl,_,_,rq,rq,szb (by simp only[QaZ,l2];omega),?_⟩;simp only[QaP,QaO];refine⟨_,rq,u,rq,⟨_,hu.sq⟩,?_⟩;let J3:YN:=λk' σ HZ=>HZ=HY/\∃(z b:Str) (u11 u12:Option V),σ=[js pl,some (.int most),js Ls,js zs,some (.str y),js tp,some (.str p.kind),some (.int p.addr),js u,some (.str z),some (.str b),u11,u12,none,none]/\L z=BR ⟨p.kind,p.addr⟩++RP (p.spur.take k')/\L b=(if p.spur.take k'=[] then L " : " else L ", ")/\z.length<=9+14*k'
    refine G4 (xs:=ds) J3 ⟨rq,_,_,_,_,rq,?_,rq,?_⟩ (λk' σ HZ _ h=>?_) (λk' x σ HZ hx h=>?_) (fun σ HZ h=>?_)
    ·rw[Df,Df,Qba];show _=(L p.kind++(L " "++Bm p.addr))++[];rw[QbA];rfl
    ·simp only[QaZ,l2];omega
    ·obtain⟨rfl,_⟩:=h;exact hu.sq
    ·obtain⟨rfl,z,b,u11,u12,rfl,ez,eb,zl⟩:=h;simp only[QaP,QaO];obtain⟨d,hdi,td,rfl,htd⟩:=Paired.Ed hd hx;have dd:=dsp d (QaE hdi);have hk3:k' < 3:=QaS (Qaf.mp hdi).1 s3;have dk6:=kind_len dd.kind;have dn2:=DX dd.bd;have bl:b.length<=3:=by
      rw[CK,eb];have l43:(L " : ").length=3:=by rw[CK] at l4;exact l4
      have l32:(L ", ").length=2:=by rw[CK] at l3;exact l3
      split <;> omega
     refine⟨td,_,rq,SqT.of htd,rq,_,_,rq,_,_,rq,rq,?_⟩;simp only[QaP,QaO];refine⟨_,rq,_,rq,_,_,rq,rq,szb (by omega),_,rq,_,_,rq,rq,szb (by simp only[QaZ];omega),_,_,rq,rq,szb (by simp only[QaZ,l2];omega),_,rq,d.addr,rq,FQ dd.bd,_,_,rq,rq,szb (by simp only[QaZ,l2];omega),?_⟩;simp only[QaP,QaO];refine⟨rq,_,_,_,_,rq,?_,?_,by simp only[QaZ,l2];omega⟩
     ·rw[Qcn hdi,bR];simp only[Df,ez,eb,Qba];rfl
     ·rw[if_neg (by rw[Qcn hdi];simp)]
    ·obtain⟨rfl,z,b,u11,u12,rfl,ez,eb,zl⟩:=h;simp only[QaP,QaO];rw[lds,Qbp,<-dU k] at ez;have zl:z.length<=60:=by rw[CK,ez];exact rM
     refine⟨_,rq,_,rq,_,_,rq,rq,szb (by omega),_,_,rq,rq,szb (by simp only[QaZ,l5];omega),?_⟩;exact⟨rq,_,_,_,_,_,_,_,_,rq,fin _ ez⟩
  ·obtain⟨rfl,y,u6,u7,u8,u9,u10,u11,u12,rfl,ey⟩:=h;rw[QbR h2,Qbp] at ey;refine⟨rq,_,_,_,_,_,_,_,_,_,rq,?_⟩;rw[ey,Qcn hps,QaJ];congr 1;show ((L "most "++Bm most)::(ja.take i).flatMap Bv)++Bv ps=(L "most "++Bm most)::((ja.take i).flatMap Bv++(Bv ps++[]));rw[QbA];rfl
 obtain⟨rfl,y,u5,u6,u7,u8,u9,u10,u11,u12,rfl,ey⟩:=h;rw[QbR e3,Qbp] at ey;simp only[QaP,QaO];have lr0:((L "most "++Bm most)::ja.flatMap Bv).length<=40:=by
  have:=tk ja.length;rw[Qbp] at this;rw[Qbo];omega
 have pr0:∀r∈(L "most "++Bm most)::ja.flatMap Bv,r.length<=290:=by
  have:=pre ja.length;rw[Qbp] at this;exact this
 refine⟨_,rq,zs,rq,⟨_,SqT.of e4⟩,?_⟩;let J4:YN:=λi σ HW=>HW=HX/\∃(y:Str) (v5 v6 v7 v8 v9 v10 v11 v12 v13 v14:Option V),σ=[js pl,some (.int most),js Ls,js zs,some (.str y),v5,v6,v7,v8,v9,v10,v11,v12,v13,v14]/\L y=Br (((L "most "++Bm most)::ja.flatMap Bv)++(jp.take i).map BL);refine G4 (xs:=zvs) J4 ⟨rq,_,_,_,_,_,_,_,_,_,_,_,rq,?_⟩ (λi σ HW _ h=>?_) (λi x σ HW hx h=>?_) (fun σ HW h=>?_)
 ·rw[ey,List.take_zero,List.map_nil,QbA]
 ·obtain⟨rfl,_⟩:=h;exact SqT.of e4
 ·obtain⟨rfl,y,v5,v6,v7,v8,v9,v10,v11,v12,v13,v14,rfl,ey⟩:=h;simp only[QaP,QaO];obtain⟨z,hz,t,u,rfl,ht,hu⟩:=Paired.Ed e5 hx;have zb:=pf.zb z (QaE hz);have z8:=pf.M4;have u3:=zb.up.2.2;have n8:=zb.nm.1.2;have yl:=sz _ y (λr hr=>by
   rcases Qby.mp hr with hr | hr
   ·exact pr0 r hr
   ·obtain⟨q,hq,rfl⟩:=QbY.mp hr;exact wN q (QaG hq)) (by rw[QaM,Qbw,Qbn];omega) ey
  refine⟨t,_,rq,SqT.of ht,rq,_,_,rq,_,_,rq,rq,?_⟩;simp only[QaP,QaO];refine⟨_,rq,_,_,rq,rq,szb (by omega),_,rq,_,_,rq,rq,szb (by simp only[QaZ,k4];omega),?_⟩;simp only[QaP,QaO];refine⟨_,rq,u,rq,⟨_,SqT.of hu⟩,?_⟩;let J5:YN:=λj σ HY=>HY=HW/\∃(x:Str) (v7:Option V),σ=[js pl,some (.int most),js Ls,js zs,some (.str x),v5,v6,v7,v8,v9,v10,v11,v12,some (.str z.name),js u]/\L x=L y++jnS (L " ") (L "zone"::L z.name::(z.adr.take j).map Bm)/\x.length<=17500+3*j;refine G4 (xs:=z.adr.map V.int) J5 ⟨rq,_,_,rq,?_,by simp only[QaZ,k4];omega⟩ (λj σ HY _ h=>?_) (λj x σ HY hx h=>?_) (fun σ HY h=>?_)
  ·rw[Df,Df,k2,Qba,Qba];rfl
  ·obtain⟨rfl,_⟩:=h;exact SqT.of hu
  ·obtain⟨rfl,x,v7,rfl,ex,xl⟩:=h;simp only[QaP,QaO];rw[Qbc] at hx;obtain⟨a,ha,rfl⟩:=Qat.mp hx;have ba:=zb.bd a (QaE ha);have j30:=(Qaf.mp ha).1;have an:=DX ba;refine⟨_,rq,_,_,rq,rq,szb (by simp only[l2];omega),_,rq,a,rq,FQ ba,_,_,rq,rq,szb (by simp only[QaZ,l2];omega),?_⟩;simp only[QaP,QaO];refine⟨rq,_,_,rq,?_,by simp only[QaZ,l2];omega⟩;rw[Df,Df,ex,Qcn ha,Qbx];have jn:∀(l:List (List Nat)) (q r:List Nat),jnS (L " ") (q::l)++(L " "++r)=jnS (L " ") ((q::l)++[r]):=by
    intro l
    induction l with
    | nil=>intro q r;rfl
    | cons e l ih=>
     intro q r;show (q++(L " "++jnS (L " ") (e::l)))++(L " "++r)=q++(L " "++jnS (L " ") ((e::l)++[r]));rw[<-ih e r];simp only[Qba]
   rw[Qba,Qba];congr 1;exact jn _ _ _
  ·obtain⟨rfl,x,v7,rfl,ex,xl⟩:=h;simp only[QaP,QaO];rw[Qbw] at ex xl;rw[Qbp] at ex;refine⟨_,rq,_,_,rq,rq,szb (by rw[l5];omega),?_⟩;simp only[QaP,QaO];refine⟨rq,_,_,_,_,_,_,_,_,_,_,_,rq,?_⟩;rw[Df,ex,ey,Qcn hz,Qbx,<-Qba,List.map_singleton,Jw,Qba];rfl
 obtain⟨rfl,y,v5,v6,v7,v8,v9,v10,v11,v12,v13,v14,rfl,ey⟩:=h;rw[QbR e5,Qbp] at ey;refine⟨_,rq,?_⟩;rw[show y=S (Cv most ja jp) from Fq ey]
 exact q _ (Same.refl _)
end
theorem Kv {a b:List Nat} (h:S a=S b):a=b:=congrArg L h
theorem WK {a b:Int} (ha:1<=a/\a<=99) (hb:1<=b/\b<=99) (h:Bm a=Bm b):a=b:=by
 obtain⟨n,rfl,hn⟩:=GR ha;obtain⟨m,rfl,hm⟩:=GR hb;rw[pI hn hm h]
theorem map_inj {α β : Type} {f:α->β} {P:α->Prop} (hf:∀a b,P a->P b->f a=f b->a=b):∀{xs ys:List α},(∀x∈xs,P x)->(∀y∈ys,P y)->xs.map f=ys.map f->xs=ys
 | [],[],_,_,_=>rfl
 | [],_::_,_,_,h=>by cases h
 | _::_,[],_,_,h=>by cases h
 | x::xs,y::ys,hx,hy,h=>by
  injection h with h1 h2;rw[hf x y (hx x QaN) (hy y QaN) h1,map_inj hf (λz hz=>hx z (QaD _ hz)) (λz hz=>hy z (QaD _ hz)) h2]
theorem Q8 {d:Dev} (h:OkD d):Txt.partition (S (BR d)) " "=(S (L d.kind),(" ":Str),S (Bm d.addr)):=Zt (j:=0) (m:=32) (by rw[show L (Str.ofString " ")=[32] from Bt.1];rfl) (λi hi=>absurd hi (Nat.not_lt_zero _)) (λhc=>by
  have:=Uj h.kind _ hc;unfold Jv at this;omega)
theorem Xk {d e:Dev} (hd:OkD d) (he:OkD e) (h:BR d=BR e):d=e:=by
 have p:=Q8 hd;rw[h,Q8 he] at p;injection p with p1 p2;injection p2 with _ p2;have k:e.kind=d.kind:=p1;have a:=WK he.bd hd.bd (Kv p2);cases d;cases e;cases k;cases a;rfl
theorem QH {p:Place} (h:Fv p) (k:¬V.str p.kind=V.str "opener"):Txt.partition (S (Bu p)) " : "=if p.spur=[] then (S (BR ⟨p.kind,p.addr⟩),Str.empty,Str.empty) else (S (BR ⟨p.kind,p.addr⟩),(" : ":Str),S (Fi p.spur)):=by
 obtain⟨d0,ds⟩:=h.dev k;have l3:=Bt.2.2.1;have n58:58∉BR ⟨p.kind,p.addr⟩:=λhc=>(MN (Ph d0 _ hc)).1 rfl;have pj:(L (Str.ofString " : "))[1]?=some 58:=by rw[show L (Str.ofString " : ")=[32,58,32] from l3];rfl
 rw[KY k];split
 ·exact dX pj n58
 ·exact Zt pj (λi hi=>by
   have:i=0:=by omega
   subst this;rw[show L (Str.ofString " : ")=[32,58,32] from l3]
   decide) n58
theorem fL {a b:List Dev} (na:a≠[]) (nb:b≠[]) (ha:∀d∈a,OkD d) (hb:∀d∈b,OkD d) (h:Fi a=Fi b):a=b:=by
 have sp:∀c:List Dev,c≠[]->(∀d∈c,OkD d)->Txt.split (S (Fi c)) ", "=(c.map BR).map S:=λc nc hc=>HN (c0:=44) (t:=[32]) (by trivial) Bt.2.1 (λz=>nc (List.map_eq_nil_iff.mp z)) (Xb hc);have e:=sp a na ha;rw[h,sp b nb hb] at e;have e:=(map_inj (P:=λ_=>True) (λx y _ _=>Kv) (λ_ _=>trivial) (λ_ _=>trivial) e);exact (map_inj (λx y=>Xk) hb ha e).symm
theorem jD {p q:Place} (hp:Fv p) (hq:Fv q) (h:Bu p=Bu q):p=q:=by
 have op:∀{p:Place},Fv p->V.str p.kind=V.str "opener"->p=opP:=λ{p} hp k=>by
  rcases hp.ok.form with⟨f1,f2,f3⟩| f
  ·cases p;cases f1;cases f2;cases f3;rfl
  ·exact absurd k (Jb f)
 have sop:∀{p:Place},V.str p.kind=V.str "opener"->S (Bu p)="opener":=λ{p} k=>by unfold Bu;rw[if_pos k];rfl
 by_cases k:V.str p.kind=V.str "opener"
 ·by_cases k':V.str q.kind=V.str "opener"
  ·rw[op hp k,op hq k']
  ·have:=sop k;rw[h] at this;exact absurd this (Zo k')
 by_cases k':V.str q.kind=V.str "opener"
 ·have:=sop k';rw[<-h] at this;exact absurd this (Zo k)
 have e:=QH hp k;rw[h,QH hq k'] at e;obtain⟨dp,dsp⟩:=hp.dev k;obtain⟨dq,dsq⟩:=hq.dev k';have ne:Str.empty≠(" : ":Str):=by trivial
 have fin:BR ⟨q.kind,q.addr⟩=BR ⟨p.kind,p.addr⟩->p.spur=q.spur->p=q:=λe1 e2=>by
  have:=Xk dq dp e1;injection this with a b;cases p;cases q;cases a;cases b;cases e2;rfl
 by_cases s:p.spur=[]
 ·by_cases s':q.spur=[]
  ·rw[if_pos s,if_pos s'] at e;injection e with e1 _;exact fin (Kv e1) (by rw[s,s'])
  ·rw[if_pos s,if_neg s'] at e;injection e with _ e2;injection e2 with e2 _;exact absurd e2.symm ne
 ·by_cases s':q.spur=[]
  ·rw[if_neg s,if_pos s'] at e;injection e with _ e2;injection e2 with e2 _;exact absurd e2 ne
  ·rw[if_neg s,if_neg s'] at e;injection e with e1 e2;injection e2 with _ e2;exact fin (Kv e1) (fL s s' dsp dsq (Kv e2).symm)
theorem iQ {y z:Zone} (hy:ZnB y) (hz:ZnB z) (h:BL y=BL z):y=z:=by
 have sp:∀{z:Zone},ZnB z->Txt.split (S (BL z)) " "=(Z4 z).map S:=λok=>HN (c0:=32) (t:=[]) (by trivial) Bt.1 (List.cons_ne_nil _ _) (Y8 ok);have e:=sp hy;rw[h,sp hz] at e;have e:=map_inj (P:=λ_=>True) (λx y _ _=>Kv) (λ_ _=>trivial) (λ_ _=>trivial) e;injection e with _ e;injection e with e1 e2;have e1:z.name=y.name:=congrArg S e1;have e2:=map_inj (λa b=>WK) hz.bd hy.bd e2;cases y;cases z;cases e1;cases e2;rfl
def okR:Rw->Prop
 | .lp=>True
 | .pl p=>Fv p
 | .zn z=>ZnB z
theorem Za (z:Zone):(BL z).head?=some 122:=by
 rw[Oc];have e1:L (Str.ofString "zone ")=[122,111,110,101,32]:=by trivial
 rw[e1];rfl
theorem uW (a b:Rw) (ha:okR a) (hb:okR b) (h:a.txt=b.txt):a=b:=by
 have pz:∀{p:Place} {z:Zone},Fv p->Bu p≠BL z:=λ{p z} hp e=>by
  obtain⟨c,t,ec,h1,_⟩:=Lj hp;have:=Za z;rw[<-e,ec] at this;exact h1 (QbB this)
 cases a with
 | lp=>
  cases b with
  | lp=>rfl
  | pl p=>exact absurd (congrArg S (show L "loop"=Bu p from h)).symm (Zq hb)
  | zn z=>exact absurd (congrArg S (show L "loop"=BL z from h)).symm (Y9 z)
 | pl p=>
  cases b with
  | lp=>exact absurd (congrArg S (show Bu p=L "loop" from h)) (Zq ha)
  | pl q=>rw[jD ha hb h]
  | zn z=>exact absurd h (pz ha)
 | zn y=>
  cases b with
  | lp=>exact absurd (congrArg S (show BL y=L "loop" from h)) (Y9 y)
  | pl p=>exact absurd (show Bu p=BL y from h.symm) (pz hb)
  | zn z=>rw[iQ ha hb h]
theorem Iw {most:Int} {ja:YU} {jp:List Zone} (h:PlF most ja jp):∀r∈Dp ja jp,okR r:=λr hm=>by
 rcases Qby.mp hm with hm | hm
 ·obtain⟨ps,hps,hm⟩:=Qbt.mp hm;rcases QbQ.mp hm with rfl | hm
  ·exact True.intro
  ·obtain⟨p,hp,rfl⟩:=QbY.mp hm;exact h.place hps hp
 ·obtain⟨z,hz,rfl⟩:=QbY.mp hm;exact h.zb z hz
theorem Ru {most:Int} {ja:YU} {jp:List Zone} (h:PlF most ja jp):Txt.split (S (Cv most ja jp)) "\n"=(Ao most ja jp++[[]]).map S:=by
 have:=HN (y:="\n") (c0:=10) (t:=[]) (by trivial) Bt.2.2.2.1 (ps:=Ao most ja jp++[[]]) (by simp) (λr hr=>by
  rcases Qby.mp hr with z | z
  ·exact SX h r z
  ·rw[QaQ.mp z];exact λz=>by cases z)
 rw[QT] at this;exact this
def bI (ps:List Place):PyData:=.tuple (ps.map Wn)
def Vj (z:Zone):PyData:=.tuple [.str z.name,.tuple (z.adr.map PyData.int)]
def aR (m:Int) (l:YU) (z:List Zone):PyData:=.tuple [.int m,.tuple (l.map bI),.tuple (z.map Vj)]
def Jq (d:PyData) (k:Nat):Prop:=d.canLay0=true/\d.depth<=k
theorem ZD {k:Nat}:∀{ds:List PyData},(∀d∈ds,Jq d k)->PyData.canLayAll0 ds=true/\PyData.depthAll ds<=k
 | [],_=>⟨rfl,Qcf _⟩
 | d::ds,h=>by
  have h1:=h d QaN;have ih:=ZD λx hx=>h x (QaD _ hx);refine⟨?_,?_⟩
  ·show (PyData.canLay0 d&&PyData.canLayAll0 ds)=true;rw[h1.1,ih.1];rfl
  ·show max (PyData.depth d) (PyData.depthAll ds)<=k;exact Nat.max_le.mpr ⟨h1.2,ih.2⟩
theorem GZ {k:Nat} {ds:List PyData} (h:∀d∈ds,Jq d k):Jq (.tuple ds) (k+1):=by
 obtain⟨h1,h2⟩:=ZD h;exact⟨h1,Nat.succ_le_succ h2⟩
theorem PL (i:Int) (k:Nat):Jq (.int i) k:=⟨rfl,Qcf _⟩
theorem Jq.mono {d:PyData} {k m:Nat} (h:Jq d k) (l:k<=m):Jq d m:=⟨h.1,Qca h.2 l⟩
theorem Tr {k:Str} (h:PyData.canLay0 (.str k)=true) (n:Nat):Jq (.str k) n:=⟨h,Qcf _⟩
theorem p8 {d:Dev} (h:DN d.kind):Jq (cu d) 1:=GZ λx hx=>by
 rcases QbQ.mp hx with rfl | hx
 ·exact Tr (W7 h) 0
 ·rw[QaQ.mp hx];exact PL _ 0
theorem fj {p:Place} (h:OkP p):Jq (Wn p) 3:=GZ λx hx=>by
 have hk:PyData.canLay0 (.str p.kind)=true:=by
  rcases h.form with⟨e,_⟩| e
  ·rw[e];exact su
  ·exact W7 e
 rcases QbQ.mp hx with rfl | hx
 ·exact Tr hk 2
 ·rcases QbQ.mp hx with rfl | hx
  ·exact PL _ 2
  ·rw[QaQ.mp hx];refine GZ λy hy=>?_;obtain⟨d,hd,rfl⟩:=QbY.mp hy;exact p8 (h.kinds d hd)
theorem kj {ps:List Place} (h:OkL ps):Jq (bI ps) 4:=GZ λx hx=>by
 obtain⟨p,hp,rfl⟩:=QbY.mp hx;exact fj (h.ok p hp)
theorem kh {z:Zone} (h:ZnB z):Jq (Vj z) 2:=GZ λx hx=>by
 rcases QbQ.mp hx with rfl | hx
 ·exact Tr h.nm.2.ok 1
 ·rw[QaQ.mp hx];refine GZ λy hy=>?_;obtain⟨a,_,rfl⟩:=QbY.mp hy;exact PL _ 0
theorem Yb {m:Int} {l:YU} {z:List Zone} (h:PlF m l z):SeqAt.shaped (aR m l z)=true:=by
 have:Jq (aR m l z) 6:=GZ λx hx=>by
  rcases QbQ.mp hx with rfl | hx
  ·exact PL _ 5
  ·rcases QbQ.mp hx with rfl | hx
   ·refine GZ λy hy=>?_;obtain⟨ps,hps,rfl⟩:=QbY.mp hy;exact kj (h.ok.ok ps hps)
   ·rw[QaQ.mp hx];refine GZ λy hy=>?_;obtain⟨q,hq,rfl⟩:=QbY.mp hy;exact (kh (h.zb q hq)).mono (by decide)
 unfold SeqAt.shaped;rw[this.1,QbM (Qca this.2 (by decide))];rfl
theorem Uq {H:Hp}:∀ns:List Int,Kl H (ns.map V.int) (ns.map PyData.int)
 | []=>.nil
 | _::r=>.cons (.int _) (Uq r)
theorem iK {H:Hp}:∀{vs:YG} {ds:List Zone},Paired (Fp H) vs ds->Kl H vs (ds.map Vj)
 | _,_,.nil=>.nil
 | _,_,.cons ⟨t,u,e,q1,q2⟩ r=>.cons (e ▸ .tup q1 (.cons (.str _) (.cons (.tup q2 (Uq _)) .nil))) (iK r)
structure PlH (H:Hp) (t:Addr) (most:Int) (ja:YU) (jp:List Zone):Prop extends PlF most ja jp where
 at_:∃Ls zs vs zvs,H t=some (.tup [.int most,.ref Ls,.ref zs])/\H Ls=some (.tup vs)/\Paired (LoopAt H) vs ja/\H zs=some (.tup zvs)/\Paired (Fp H) zvs jp
theorem PlH.k {K:YD} {H:Hp} {t:Addr} {most:Int} {ja:YU} {jp:List Zone} (h:PlH H t most ja jp):PlA K H t most ja jp:=by
 obtain⟨pf,Ls,zs,vs,zvs,e1,e2,e3,e4,e5⟩:=h;exact⟨pf,Ls,zs,vs,zvs,e1,e2,Paired.Cd e3 λ_ _ z=>z.k,e4,e5⟩
section
open PySem.Spec PyProof.Rows
theorem Wt {X:Cx} {K:YD} (h:X.K=K) (hu:X.A.units+64 < cLine):OpR X (compareOp .NotEq) (λx y H Q=>∃d e,(Km K H x d\/Rep H x d)/\Rep H y e/\SeqAt.shaped d=true/\SeqAt.shaped e=true/\Q (.bl (!PyData.eqv d e)) H):=by
 subst h;intro jb s σ H x y v u Q I rx ry h;obtain⟨d,e,p,p',sd,se,q⟩:=h;obtain⟨bs,r2⟩:=p'.reads I.hok ry;rcases p with p | p
 ·obtain⟨as,r1⟩:=p.reads I rx;exact ne_dataH r1 r2 sd se hu ⟨.bl (!PyData.eqv d e),H,I,rq,q⟩
 ·obtain⟨as,r1⟩:=p.reads I.hok rx;exact ne_dataH r1 r2 sd se hu ⟨.bl (!PyData.eqv d e),H,I,rq,q⟩
end
theorem Rv {K:YD} {H:Hp}:∀{vs:YG} {ds:List Place},Paired (Hu K H) vs ds->G5 K H vs (ds.map Wn)
 | _,_,.nil=>.nil
 | _,_,.cons ⟨t,u,ws,e,q1,q2,q3⟩ r=>.cons (e ▸ .tup q1.sq (.cons (.str _) (.cons (.int _) (.cons (.tup q2.sq (Xj q3)) .nil)))) (Rv r)
theorem Uh {K:YD} {H:Hp}:∀{vs:YG} {ds:YU},Paired (Ly K H) vs ds->G5 K H vs (ds.map bI)
 | _,_,.nil=>.nil
 | _,_,.cons ⟨t,ws,e,q1,q2⟩ r=>.cons (e ▸ .tup (SqT.of q1) (Rv q2)) (Uh r)
theorem Uo {K:YD} {H:Hp}:∀ns:List Int,G5 K H (ns.map V.int) (ns.map PyData.int)
 | []=>.nil
 | _::r=>.cons (.int _) (Uo r)
theorem T6 {K:YD} {H:Hp}:∀{vs:YG} {ds:List Zone},Paired (Fp H) vs ds->G5 K H vs (ds.map Vj)
 | _,_,.nil=>.nil
 | _,_,.cons ⟨t,u,e,q1,q2⟩ r=>.cons (e ▸ .tup (SqT.of q1) (.cons (.str _) (.cons (.tup (SqT.of q2) (Uo _)) .nil))) (T6 r)
theorem PlL.rep {K:YD} {H:Hp} {pl:Addr} {most:Int} {ja:YU} {jp:List Zone} (h:PlL K H pl most ja jp):Km K H (.ref pl) (aR most ja jp):=by
 obtain⟨Ls,zs,vs,zvs,e1,e2,e3,e4,e5⟩:=h;exact .tup (SqT.of e1) (.cons (.int _) (.cons (.tup (SqT.of e2) (Uh e3)) (.cons (.tup (SqT.of e4) (T6 e5)) .nil)))
end K06
namespace K06
open PySem L2
def Vq:YF:=(List.range 99).map λi=>S (num (i+1))
theorem Zv {a:Int} (h:1<=a/\a<=99):S (Bm a)∈Vq:=by
 obtain⟨n,rfl,_⟩:=GR h;refine QbY.mpr ⟨n - 1,List.mem_range.mpr (by omega),?_⟩;rw[Nat.sub_add_cancel (by omega)];rfl
def W6:YF:=xy
theorem kJ {k:Str} (h:DN k):k∈W6:=by
 rcases h with rfl | rfl | rfl | rfl <;> simp[W6]
def Xm (z:Str):Bool:=decide ((Txt.partition z " ").1∈W6)&&decide ((Txt.partition z " ").2.2∈Vq)
theorem Xl {d:Dev} (h:OkD d):Xm (S (BR d))=true:=by
 unfold Xm;rw[Q8 h,Qbs];exact⟨QbM (kJ h.kind),QbM (Zv h.bd)⟩
def jE (z:Str):Bool:=decide (z="opener") || (Xm (Txt.partition z " : ").1&&(decide ((Txt.partition z " : ").2.1=Str.empty) || (decide ((Txt.split (Txt.partition z " : ").2.2 ", ").length<=3)&&(Txt.split (Txt.partition z " : ").2.2 ", ").all Xm)))
theorem rK {p:Place} (h:Fv p):jE (S (Bu p))=true:=by
 unfold jE;by_cases k:V.str p.kind=V.str "opener"
 ·have e:S (Bu p)="opener":=by unfold Bu;rw[if_pos k];rfl
  rw[QbM e];rfl
 obtain⟨d0,ds⟩:=h.dev k;rw[QH h k];split
 ·rw[Xl d0,QbM (show Str.empty=Str.empty from rfl)]
  simp
 ·rename_i hs;have sp:Txt.split (S (Fi p.spur)) ", "=(p.spur.map BR).map S:=HN (c0:=44) (t:=[32]) (by trivial) Bt.2.1 (λz=>hs (List.map_eq_nil_iff.mp z)) (Xb ds);rw[Xl d0,sp];have l3:=h.ok.spur;rw[QbM (show ((p.spur.map BR).map S).length<=3 by rw[Qbw,Qbw];exact l3)];have:((p.spur.map BR).map S).all Xm=true:=Qbu.mpr λx hx=>by
   obtain⟨y,hy,rfl⟩:=QbY.mp hx;obtain⟨d,hd,rfl⟩:=QbY.mp hy;exact Xl (ds d hd)
  rw[this];simp
def iR (z:Str):Bool:=match Txt.split z " " with
 | w::n::r=>decide (w="zone")&&(decide (1<=n.length)&&decide (n.length<=8)&&n.cps.toList.all (λc=>decide (97<=c/\c<=122)))&&(decide (1<=r.length)&&decide (r.length<=30)&&r.all (λx=>decide (x∈Vq)))&&decide ((r.map λx=>(intText? x).getD 0).Pairwise (· < ·))
 | _=>false
theorem qJ {z:Zone} (h:ZnB z):iR (S (BL z))=true:=by
 have sp:Txt.split (S (BL z)) " "=S (L "zone")::S (L z.name)::(z.adr.map Bm).map S:=HN (c0:=32) (t:=[]) (by trivial) Bt.1 (List.cons_ne_nil _ _) (Y8 h);unfold iR;rw[sp];dsimp only;have e1:S (L "zone")="zone":=rfl;have e2:S (L z.name)=z.name:=rfl;rw[e1,e2,QbM (show ("zone":Str)="zone" from rfl),QbM h.nm.1.1,QbM h.nm.1.2]
 have a1:z.name.cps.toList.all (λc=>decide (97<=c/\c<=122))=true:=Qbu.mpr λc hc=>QbM (show 97<=c/\c<=122 from Vy h c hc)
 have l1:((z.adr.map Bm).map S).length=z.adr.length:=by rw[Qbw,Qbw]
 have a2:((z.adr.map Bm).map S).all (λx=>decide (x∈Vq))=true:=Qbu.mpr λx hx=>by
  obtain⟨y,hy,rfl⟩:=QbY.mp hx;obtain⟨a,ha,rfl⟩:=QbY.mp hy;exact QbM (Zv (h.bd a ha))
 have a3:((z.adr.map Bm).map S).map (λx=>(intText? x).getD 0)=z.adr:=by
  rw[Qcc,Qcc];refine (List.map_congr_left λa ha=>?_).trans (List.map_id _);obtain⟨n,rfl,hn⟩:=GR (h.bd a ha);show (intText? (S (num n))).getD 0=(n:Int);rw[Tg hn];rfl
 rw[a1,a2,a3,l1,QbM h.up.2.1,QbM h.up.2.2,QbM h.up.1];rfl
def rwB (z:Str):Bool:=decide (z="loop") || (jE z || iR z)
theorem vI {r:Rw} (h:okR r):rwB (S r.txt)=true:=by
 unfold rwB;cases r with
 | lp=>rw[show S (Rw.txt .lp)="loop" from rfl,QbM (show ("loop":Str)="loop" from rfl)];rfl
 | pl p=>rw[show S (Rw.txt (.pl p))=S (Bu p) from rfl,rK h];simp
 | zn z=>rw[show S (Rw.txt (.zn z))=S (BL z) from rfl,qJ h];simp
def O7:YF:=["siren 5","opener 0","seeker 0","seeker 100","seeker 07","seeker","","loop ","Loop","seeker 5 : ","seeker 5 : opener","seeker 5 : bell 6,door 7","seeker 5 :bell 6","zone","zone a","zone A 5","zone abcdefghi 5","zone a 6 5","zone a 5 5","zone a 05","most 3"," opener","bell  5","door -5","knob 5 : bell 6, bell 7, bell 8, bell 9","knob 5 6","zone a  5","seeker a","opener : bell 5"]
theorem jT:∀z∈O7,rwB z=false:=by trivial
theorem bJ {m:Int} {l:YU} {z:List Zone} (h:PlF m l z) {R:List (List Nat)} (hR:∀r∈R,10∉r) (e:Br R=Cv m l z):R=Ao m l z:=by
 have s1:=HN (y:="\n") (c0:=10) (t:=[]) (by trivial) Bt.2.2.2.1 (ps:=R++[[]]) (by simp) (λr hr=>by
  rcases Qby.mp hr with z | z
  ·exact hR r z
  ·rw[QaQ.mp z];exact λz=>by cases z)
 rw[QT] at s1;have s1:Txt.split (S (Br R)) "\n"=(R++[[]]).map S:=s1;rw[e,Ru h] at s1;have p:=map_inj (P:=λ_=>True) (λx y _ _=>Kv) (λ_ _=>trivial) (λ_ _=>trivial) s1;exact (List.append_cancel_right p).symm
theorem Ox {m:Int} {l:YU} {z:List Zone} (h:PlF m l z) {a:List Nat} {R:List (List Nat)} (e:a::R=Ao m l z):a=L "most "++Bm m/\∃W:List Rw,R=W.map Rw.txt/\(∀r∈W,okR r)/\foR W=(l,z):=by
 injection e with e1 e2;exact⟨e1,Dp l z,by rw[e2,KR],Iw h,Qa l z⟩
def CN (R:List (List Nat)):Prop:=∀m l z,PlF m l z->R≠Ao m l z
theorem pZ:∀n,n < 31->rwB (S (L "most "++num n))=false:=by trivial
theorem ZJ {m:Int} (h:1<=m/\m<=30):rwB (S (L "most "++Bm m))=false:=by
 obtain⟨n,rfl,_⟩:=GR (a:=m) ⟨h.1,by omega⟩;exact pZ n (by omega)
theorem WR {a:List Nat} {R:List (List Nat)} {x:List Nat} (hx:x∈R) (hf:rwB (S x)=false):CN (a::R):=λm l z h e=>by
 obtain⟨_,W,rfl,ok,_⟩:=Ox h e;obtain⟨r,hr,rfl⟩:=QbY.mp hx;rw[vI (ok r hr)] at hf;cases hf
theorem pP {a:List Nat} {R:List (List Nat)} (hf:rwB (S a)=true):CN (a::R):=λm l z h e=>by
 obtain⟨ea,_⟩:=Ox h e;rw[ea,ZJ h.mo] at hf;cases hf
def NP:YF:=["most 0","most 31","most 05","most","most  5","Most 5","5"]
theorem qz:∀y∈NP,∀n,n < 31->1<=n->S (L "most "++num n)≠y:=by trivial
theorem pN {y:Str} (hy:y∈NP) {R:List (List Nat)}:CN (L y::R):=λm l z h e=>by
 obtain⟨ea,_⟩:=Ox h e;have m1:=h.mo;obtain⟨n,rfl,_⟩:=GR (a:=m) ⟨m1.1,by omega⟩;exact qz y hy n (by omega) (by omega) (congrArg S ea).symm
theorem Ie {a:List Nat} {W:List Rw} (ok:∀r∈W,okR r) (no:∀m l z,PlF m l z->W=Dp l z->False):CN (a::W.map Rw.txt):=λm l z h e=>by
 injection e with _ e2;rw[<-KR] at e2;exact no m l z h (map_inj uW ok (Iw h) e2)
theorem Mw {l:YU} {z:List Zone} {W:List Rw} (e:W=Dp l z):foR W=(l,z):=by rw[e,Qa]
theorem MK (A B:List Rw):foR (A++B)=B.foldl stR (foR A):=by unfold foR;rw[Qbl]
theorem nQ (s:YU) (a ps:List Place) (l:YU) (z:List Zone) (zs:List Zone):(ps.map Rw.pl++Dp l z).foldl stR (s++[a],zs)=(s++[a++ps]++l,zs++z):=by
 rw[Qbl,Nx];unfold Dp;rw[Qbl,Lq,Ik]
theorem jZ {W:List Rw} {a:List Nat} (ok:∀r∈W,okR r) (h:4<=(foR W).1.length):CN (a::W.map Rw.txt):=Ie ok λm l z hp e=>by
 rw[Mw e] at h;have:=hp.ok.hi;have h:4<=l.length:=h;omega
theorem Zx {W:List Rw} {a:List Nat} (ok:∀r∈W,okR r) {ps:List Place} (hm:ps∈(foR W).1) (h:ps.length=0\/13<=ps.length):CN (a::W.map Rw.txt):=Ie ok λm l z hp e=>by
 rw[Mw e] at hm;have k:=hp.ok.ok ps hm;have:=k.lo;have:=k.hi;omega
theorem jX {W:List Rw} {a:List Nat} (ok:∀r∈W,okR r) (h:9<=(foR W).2.length):CN (a::W.map Rw.txt):=Ie ok λm l z hp e=>by
 rw[Mw e] at h;have:=hp.M4;have h:9<=z.length:=h;omega
theorem jY {W:List Rw} {a:List Nat} (ok:∀r∈W,okR r) (h:¬((foR W).2.map (·.name)).Nodup):CN (a::W.map Rw.txt):=Ie ok λm l z hp e=>by
 rw[Mw e] at h;exact h hp.zdi
theorem pO {W:List Rw} {a:List Nat} (ok:∀r∈W,okR r) (h:31<=(BX (foR W).1).length):CN (a::W.map Rw.txt):=Ie ok λm l z hp e=>by
 rw[Mw e] at h;have:=hp.cnt.2;have h:31<=(BX l).length:=h;omega
theorem j4 {W:List Rw} {a:List Nat} (ok:∀r∈W,okR r) (h:W.head?≠some .lp):CN (a::W.map Rw.txt):=Ie ok λm l z hp e=>by
 have lo:=hp.lo;cases l with
 | nil=>exact absurd lo (by decide)
 | cons ps r=>
  rw[e] at h;exact h rfl
section
variable {m:Int} {l:YU} {z:List Zone}
theorem ou (h:PlF m l z) {y:Str} (hy:y∈O7) (i:Nat):CN ((Ao m l z).take i++L y::(Ao m l z).drop i):=by
 have oy:=jT y hy;cases i with
 | zero=>exact WR (x:=L "most "++Bm m) QaN (ZJ h.mo)
 | succ k=>exact WR (x:=L y) (Qaw _ QaN) oy
theorem iZ (h:PlF m l z):CN (Ao m l z).tail:=by
 have lo:=h.lo;cases l with
 | nil=>exact absurd lo (by decide)
 | cons ps r=>exact pP (R:=ps.map Bu++r.flatMap Bv++z.map BL) (show rwB (S (L "loop"))=true by trivial)
theorem oA {R:List (List Nat)} {x:List Nat} (hf:rwB (S x)=false) (ne:R≠[]):CN (R++[x]):=by
 cases R with
 | nil=>exact absurd rfl ne
 | cons a r=>exact WR (x:=x) (Qaw _ (QaQ.mpr rfl)) hf
theorem qI:rwB (S (L "zone qq"++((List.range 31).map λi=>L " "++num (i+1)).flatten))=false:=by trivial
theorem jf (h:PlF m l z):CN ((Ao m l z).take 2++(List.replicate 12 (L "opener")++(Ao m l z).drop 2)):=by
 have lo:=h.lo;cases l with
 | nil=>exact absurd lo (by decide)
 | cons ps r=>
  have eo:Bu opP=L "opener":=S7 rfl;have e:(Ao m (ps::r) z).take 2++(List.replicate 12 (L "opener")++(Ao m (ps::r) z).drop 2)=(L "most "++Bm m)::(([Rw.lp]++((List.replicate 12 opP++ps).map Rw.pl++Dp r z)).map Rw.txt):=by
   have e2:Ao m (ps::r) z=(L "most "++Bm m)::(L "loop"::(ps.map Bu++(Dp r z).map Rw.txt)):=by
    rw[KR];show _::((Bv ps++r.flatMap Bv)++z.map BL)=_;unfold Bv;simp only[List.cons_append,Qba]
   rw[e2];show _::_::(List.replicate 12 (L "opener")++(ps.map Bu++(Dp r z).map Rw.txt))=_::_::(((List.replicate 12 opP++ps).map Rw.pl++Dp r z).map Rw.txt);have e3:((List.replicate 12 opP++ps).map Rw.pl++Dp r z).map Rw.txt=List.replicate 12 (Bu opP)++(ps.map Bu++(Dp r z).map Rw.txt):=by
    rw[Qbx,Qcc,Qbx,List.map_replicate,Qba];rfl
   rw[e3,eo];rfl
  rw[e];have okr:=Iw h;refine Zx (λx hx=>?_) (ps:=List.replicate 12 opP++ps) ?_ (.inr ?_)
  ·rcases Qby.mp hx with hx | hx
   ·rw[QaQ.mp hx];exact True.intro
   ·rcases Qby.mp hx with hx | hx
    ·obtain⟨p,hp,rfl⟩:=QbY.mp hx;rcases Qby.mp hp with hp | hp
     ·rw[(List.mem_replicate.mp hp).2];exact⟨aW,by rw[XM];exact λx h=>by cases h⟩
     ·exact h.place QaN hp
    ·refine okr x ?_;unfold Dp at hx ⊢;rw[Qbe,Qba];exact Qaw _ hx
  ·rw[MK];show _∈(List.foldl stR (([]:YU)++[[]],[]) _).1;rw[nQ];exact QaF _ (Qaw _ (QaQ.mpr rfl))
  ·have:=(h.ok.ok ps QaN).lo;rw[QaM,List.length_replicate];omega
end
theorem Rh {y:Str} {a:Int} (h:(1<=y.length/\y.length<=8)/\okS y) (ha:1<=a/\a<=99):ZnB ⟨y,[a]⟩:=⟨h,⟨List.pairwise_singleton _ _,Qce _,by show 1<=30;decide⟩,λx hx=>by rw[QaQ.mp hx];exact ha⟩
theorem WD {y:Str} (h:y.cps.toList.all (λc=>decide (c∈abc.cps.toList))=true):okS y:=λc hc=>Qbd (Qbu.mp h c hc)
theorem jz:((1<=(Str.ofString "q").length/\(Str.ofString "q").length<=8)/\okS "q")/\((1<=(Str.ofString "qq").length/\(Str.ofString "qq").length<=8)/\okS "qq"):=⟨⟨by trivial,WD (by trivial)⟩,⟨by trivial,WD (by trivial)⟩⟩
section
variable {m:Int} {l:YU} {z:List Zone}
theorem JD (m:Int) (l:YU) (z:List Zone):Ao m l z=(L "most "++Bm m)::(Dp l z).map Rw.txt:=by rw[KR];rfl
theorem Ky {A B:List Rw} (a:∀r∈A,okR r) (b:∀r∈B,okR r):∀r∈A++B,okR r:=λr hr=>(Qby.mp hr).elim (a r) (b r)
theorem gb (s:YU) (zs:List Zone):(Dp l z).foldl stR (s,zs)=(s++l,zs++z):=by
 unfold Dp;rw[Qbl,Lq,Ik]
theorem cW (h:PlF m l z):CN ((L "most "++Bm m)::(([Rw.lp]++Dp l z).map Rw.txt)):=by
 refine Zx (Ky (λr hr=>by rw[QaQ.mp hr];exact True.intro) (Iw h)) (ps:=[]) ?_ (.inl rfl);rw[MK];show _∈(List.foldl stR ([[]],[]) _).1;rw[gb];exact QaF _ QaN
def Ku:Place:=⟨"bell",5,[]⟩
theorem mR:Fv Ku:=by
 have k:¬V.str Ku.kind=V.str "opener":=Jb (.inr (.inr (.inl rfl)));refine⟨⟨Qcf _,(λd hd=>by cases hd),.inr (.inr (.inr (.inl rfl)))⟩,λx hx=>?_⟩;have e:adP Ku=[5]:=if_neg k;rw[e] at hx;rw[QaQ.mp hx]
 decide
theorem cV (h:PlF m l z):CN ((L "most "++Bm m)::(([Rw.lp,.pl opP,.lp,.pl Ku,.lp,.pl opP]++Dp l z).map Rw.txt)):=by
 refine jZ (Ky (λr hr=>?_) (Iw h)) ?_
 ·simp only[QbQ,Qbr,Qco] at hr;rcases hr with rfl | rfl | rfl | rfl | rfl | rfl
  ·exact True.intro
  ·exact aV
  ·exact True.intro
  ·exact mR
  ·exact True.intro
  ·exact aV
 ·rw[MK];show 4<=(List.foldl stR ([[opP],[Ku],[opP]],[]) _).1.length;rw[gb];have:=h.lo;show 4<=([[opP],[Ku],[opP]]++l).length;rw[QaM];show 4<=3+l.length;omega
theorem iY (h:PlF m l z):CN ((L "most "++Bm m)::((Rw.zn ⟨"q",[5]⟩::Dp l z).map Rw.txt)):=j4 (λr hr=>by
 rcases QbQ.mp hr with rfl | hr
 ·exact Rh jz.1 (by decide)
 ·exact Iw h r hr) (λe=>by cases e)
theorem cU (h:PlF m l z):CN ((L "most "++Bm m)::((Dp l z++[Rw.zn ⟨"qq",[5]⟩,.zn ⟨"qq",[6]⟩]).map Rw.txt)):=by
 refine jY (Ky (Iw h) λr hr=>?_) λnd=>?_
 ·simp only[QbQ,Qbr,Qco] at hr;rcases hr with rfl | rfl
  ·exact Rh jz.2 (by decide)
  ·exact Rh jz.2 (by decide)
 ·rw[MK,Qa] at nd;have nd:((z++[(⟨"qq",[5]⟩ : Zone)]++[(⟨"qq",[6]⟩ : Zone)]).map λy:Zone=>y.name).Nodup:=nd;rw[Qba,Qbx] at nd;have:=(Qbh.mp nd).2.1;exact absurd this (by simp)
theorem jd (h:PlF m l z) {Z:List Zone} (hz:∀y∈Z,ZnB y) (h9:Z.length=9):CN ((L "most "++Bm m)::((Dp l z++Z.map Rw.zn).map Rw.txt)):=by
 refine jX (Ky (Iw h) λr hr=>?_) ?_
 ·obtain⟨y,hy,rfl⟩:=QbY.mp hr;exact hz y hy
 ·rw[MK,Qa,Ik];show 9<=(z++Z).length;rw[QaM];omega
end
theorem pL {W:List Rw} {a:List Nat} (ok:∀r∈W,okR r) (h:(foR W).1=[]):CN (a::W.map Rw.txt):=Ie ok λm l z hp e=>by
 rw[Mw e] at h;have h:l=[]:=h;have:=hp.lo;rw[h] at this;exact absurd this (by decide)
def Hv:Place:=⟨"seeker",5,[⟨"bell",6⟩,⟨"bell",7⟩,⟨"bell",8⟩]⟩
theorem dJ:Bu Hv=L "seeker 5 : bell 6, bell 7, bell 8":=by trivial
theorem ju:Fv Hv:=by
 have k:¬V.str Hv.kind=V.str "opener":=Jb (.inl rfl);refine⟨⟨by show 3<=3;decide,λd hd=>?_,.inr (.inl rfl)⟩,λx hx=>?_⟩
 ·have hd:d=⟨"bell",6⟩\/d=⟨"bell",7⟩\/d=⟨"bell",8⟩:=by simpa [Hv] using hd
  rcases hd with rfl | rfl | rfl <;> exact .inr (.inr (.inl rfl))
 ·have e:adP Hv=[5,6,7,8]:=if_neg k;rw[e] at hx;simp only[QbQ,Qbr,Qco] at hx;omega
section
variable {m:Int} {l:YU} {z:List Zone}
theorem jc (h:PlF m l z):CN ((L "most "++Bm m)::((z.map Rw.zn).map Rw.txt)):=pL (λr hr=>by
 obtain⟨y,hy,rfl⟩:=QbY.mp hr;exact h.zb y hy) (by
 show (List.foldl stR ([],[]) _).1=[];rw[Ik])
theorem je {ps:List Place} {r:YU} (h:PlF m (ps::r) z):CN ((L "most "++Bm m)::(([Rw.lp]++((List.replicate 8 Hv++ps).map Rw.pl++Dp r z)).map Rw.txt)):=by
 refine pO (Ky (λx hx=>by rw[QaQ.mp hx];exact True.intro) (Ky (λx hx=>?_) λx hx=>?_)) ?_
 ·obtain⟨p,hp,rfl⟩:=QbY.mp hx;rcases Qby.mp hp with hp | hp
  ·rw[(List.mem_replicate.mp hp).2];exact ju
  ·exact h.place QaN hp
 ·refine Iw h x ?_;unfold Dp at hx ⊢;rw[Qbe,Qba];exact Qaw _ hx
 ·rw[MK];show 31<=(BX (List.foldl stR (([]:YU)++[[]],[]) _).1).length;rw[nQ];have e:BX ((([]:YU)++[[]++(List.replicate 8 Hv++ps)])++r)=adL (List.replicate 8 Hv++ps)++BX r:=by
   show BX ((List.replicate 8 Hv++ps)::r)=_;unfold BX;rw[Qbe]
  have e2:(adL (List.replicate 8 Hv)).length=32:=by trivial
  show 31<=(BX ((([]:YU)++[[]++(List.replicate 8 Hv++ps)])++r)).length;rw[e,Ju,QaM,QaM,e2];omega
end
theorem rE {m:Int} {l:YU} {z:List Zone} (h:PlF m l z):∀r∈Ao m l z,r≠[]:=λr hr e=>by
 subst e;rcases QbQ.mp hr with hr | hr
 ·rw[Bt.2.2.2.2.2.2.1] at hr;cases hr
 ·rcases Qby.mp hr with hr | hr
  ·obtain⟨ps,hps,hr⟩:=Qbt.mp hr;rcases QbQ.mp hr with hr | hr
   ·rw[Bt.2.2.2.2.2.1] at hr;cases hr
   ·obtain⟨p,hp,e⟩:=QbY.mp hr;obtain⟨c,t,ec,_⟩:=Lj (h.place hps hp);rw[ec] at e;cases e
  ·obtain⟨y,hy,e⟩:=QbY.mp hr;have:=Za y;rw[e] at this;cases this
theorem Oz {m:Int} {l:YU} {z:List Zone} (h:PlF m l z):∃(X:List Nat) (c:Nat),Cv m l z=(X++[c])++[10]/\c≠10:=by
 have ne:Ao m l z≠[]:=List.cons_ne_nil _ _;have e:=List.dropLast_concat_getLast ne;have hm:=List.getLast_mem ne;generalize (Ao m l z).getLast ne=r at e hm;have rne:=rE h r hm;have e2:=List.dropLast_concat_getLast rne;have hc:=List.getLast_mem rne;generalize r.getLast rne=c at e2 hc;refine⟨Br (Ao m l z).dropLast++r.dropLast,c,?_,λz=>SX h r hm (z ▸ hc)⟩;show Br (Ao m l z)=_;rw[<-e,Jw,Bt.2.2.2.1,List.dropLast_concat];rw[<-e2];simp only[Qba,List.dropLast_concat]
theorem oE {m m':Int} {l l':YU} {z z':List Zone} (h:PlF m l z) (h':PlF m' l' z'):(Cv m l z).dropLast≠Cv m' l' z':=λe=>by
 obtain⟨X,c,e1,hc⟩:=Oz h;obtain⟨Y,d,e2,_⟩:=Oz h';rw[e1,e2,List.dropLast_concat] at e;have:=congrArg List.getLast? e;rw[List.getLast?_concat,List.getLast?_concat] at this;exact hc (QbB this)
abbrev LR:Stmt:=top 47
abbrev Ho:YF:=IV
theorem Oj:Bf ["thing","plan"] Ho (Al LR):=by ac_rfl
abbrev Qz:Stmt:=top 58
abbrev K1:YF:=["_law_thing"]
theorem Ua:Bf ["_law_thing","_law_e"] K1 (Al Qz):=by ac_rfl
def spl:List Nat->List (List Nat)
 | []=>[[]]
 | c::r=>if c=10 then []::spl r else match spl r with
  | []=>[[c]]
  | p::ps=>(c::p)::ps
theorem Rm:∀l,spl l≠[]
 | []=>λh=>by cases h
 | c::r=>by
  unfold spl;split
  ·exact λh=>by cases h
  ·split <;> exact λh=>by cases h
theorem dF:∀l,jnS [10] (spl l)=l
 | []=>rfl
 | c::r=>by
  have ih:=dF r;have ne:=Rm r;unfold spl;split
  ·rename_i h;subst h;cases e:spl r with
   | nil=>exact absurd e ne
   | cons p ps=>
    rw[e] at ih;show []++([10]++jnS [10] (p::ps))=_;rw[ih];rfl
  ·cases e:spl r with
   | nil=>exact absurd e ne
   | cons p ps=>
    rw[e] at ih;cases ps with
    | nil=>exact congrArg (c::·) ih
    | cons q qs=>exact congrArg (c::·) ih
theorem dD:∀l,∀p∈spl l,10∉p
 | []=>λp hp=>by rw[QaQ.mp hp];exact λz=>by cases z
 | c::r=>λp hp=>by
  have ih:=dD r;unfold spl at hp;split at hp
  ·rcases QbQ.mp hp with rfl | hp
   ·exact λz=>by cases z
   ·exact ih p hp
  ·rename_i hc;split at hp
   ·rw[QaQ.mp hp];exact λz=>hc (QaQ.mp z).symm
   ·rename_i q qs e;rw[e] at ih;rcases QbQ.mp hp with rfl | hp
    ·exact λz=>(QbQ.mp z).elim (λz=>hc z.symm) (ih q QaN)
    ·exact ih p (QaD _ hp)
theorem Zh:∀l,10∈l->2<=(spl l).length
 | [],h=>by cases h
 | c::r,h=>by
  have ne:=Rm r;have ih:=Zh r;unfold spl;split
  ·show 2<=(spl r).length+1;have:=List.length_pos_iff.mpr ne;omega
  ·rename_i hc;have h2:=ih ((QbQ.mp h).elim (λz=>absurd z.symm hc) id);split
   ·rename_i e;exact absurd e ne
   ·rename_i p ps e;rw[e] at h2;exact h2
theorem dB (z:Str):Txt.split z "\n"=(spl (L z)).map S:=by
 have l4:=Bt.2.2.2.1;have:=HN (y:="\n") (c0:=10) (t:=[]) (by trivial) l4 (Rm (L z)) (dD (L z));rw[l4,dF] at this;exact this
theorem mH {z:Str} (h:Txt.endswith z "\n"=true):10∈L z:=by
 have l4:=Bt.2.2.2.1;unfold Txt.endswith at h;rw[Qbs,show z=S (L z) from rfl,Og,l4] at h
 have h2:=h.2;have:10∈([10]:List Nat):=QaN;rw[<-h2] at this;exact List.mem_of_mem_drop (QaG this)
theorem qw {xs:YG} (ne:xs≠[]):Eu xs none (some (-1))=xs.dropLast:=by
 have e:=List.dropLast_concat_getLast ne;rw[<-e,Xp,List.dropLast_concat]
def isS:V->Bool
 | .str _=>true
 | _=>false
theorem lX {K:YD} {H:Hp} {x:V} {Q:VK} (k:Kn H x) (q:Q (.bl (isS x)) H):Jm K [x,.ty "str"] H Q:=by
 unfold Jm;cases x with
 | non=>exact⟨_,_,_,_,rfl,.non,by rfl,q⟩
 | bl b=>exact⟨_,_,_,_,rfl,.bl b,by rfl,q⟩
 | int i=>exact⟨_,_,_,_,rfl,.int i,by rfl,q⟩
 | str z=>exact⟨_,_,_,_,rfl,.str z,by rfl,q⟩
 | ref a=>
  rcases k with⟨xs,e⟩|⟨xs,e⟩
  ·exact⟨_,_,_,_,rq,.lst e,by rfl,q⟩
  ·exact⟨_,_,_,_,rq,.tup e,by rfl,q⟩
 | _=>exact k.elim
section
variable {P:Program} {w:World} {K:YD} {mg:YB} {base:Heap} {op oe hc c0 c1 c2 c3 c4 c5 c6 c7 c8 c9 c10 c11 c12:Addr}
inductive V1 (K:YD) (c1:Addr) (vs:YG) (H:Hp) (Q:VK) (E:XK):Prop
 | mk (v) (_:vs=[v]) (_:(∀H',Same H H'->E (.ref c1) none H')) (_:((isS v=false/\Kn H v)\/∃z:Str,v=.str z/\z.length<=15990/\∀pl m l zs H',z=S (Cv m l zs)->PlF m l zs->PlL K H' pl m l zs->Same H H'->Q (.ref pl) H')):V1 K c1 vs H Q E
theorem U5 (C:Code K mg "read_plan" LR Ho) (T:Tf K mg op oe) (XE:Er K mg hc c0 c1 c2 c3 c4 c5 c6 c7 c8 c9 c10 c11 c12) (FT:Knd K hc c1 [c0,c1,c2,c3,c4,c5,c6,c7,c8,c9,c10,c11,c12] 1) (Ys:Good P w K mg base "read_rows" 4 Hl (aD K)) (fW:Good P w K mg base "is_plan" 9 JN (Zi K)) (Yq:Good P w K mg base "show_plan" 2 Hi (Im K)):Vv P w K mg base "read_plan" 10 Ho (V1 K c1):=by
 refine C.wA Oj (λvs H Q E h=>?_) (λX f cdv A outer s H vs Q E eX hx hr h=>?_)
 ·obtain⟨v,rfl,_⟩:=h;rfl
 subst eX;obtain⟨v,rfl,qe,h⟩:=h;refine⟨_,(Ae (BP (PW.pt (Kq (Ea (DK (Ay Jt rfl T.isinstance Bj (Aa (pv 0) (Aa (Ij (v:=.ty "str") rfl T.str JX rfl) Ab))))) (JF (Ea (DK (BJ Qas PySem.F.slot_str_endswith PySem.F.type_str_endswith Yj (pv 0) (Aa Ai Ab))))))) (Ah (Wi rfl FT.xc rfl XE.Tj hx (Aa Ai Ab))) Bq)
 (Ae (Ax (i:=1) Oj.nd rfl (Or.inl rfl) (Ca Ys hr (Aa (BK Mv (BJ Qas PySem.F.slot_str_split PySem.F.type_str_split Nq (pv 0) (Aa Ai Ab)) Ci (Cg (PB Ms Ad))) Ab)))
 (Ae (BP (PW.pt (Kq (Ea (DK (Ca fW hr (Aa (pv 1) Ab)))) (JF (Bp Vo (Ca Yq hr (Aa (pv 1) Ab)) (pv 0) (Bx _))))) (Ah (Wi rfl FT.xc rfl XE.Tj hx (Aa Ai Ab))) Bq)
 (Ah (Bc (pv 1)))))),?_⟩
 rcases h with⟨hv,kv⟩|⟨z,rfl,zl,q⟩
 ·exact⟨_,rq,lX kv ⟨_,rq,by rw[hv];exact Bl ⟨Am (by show 1<=1000;decide),qe _ (Same.refl _)⟩⟩⟩
 refine⟨_,rq,ZG ⟨_,rq,Bw ⟨_,rq,rq,_,_,rq,rq,_,rq,?_⟩⟩⟩;cases en:Txt.endswith z "\n" with
 | false=>exact Xa rfl ⟨Am (by show 1<=1000;decide),qe _ (Same.refl _)⟩
 | true=>
 refine QV rfl ?_;refine⟨_,rq,rq,z,"\n",rq,rq,by trivial,Qca (show z.length+2<=100000 by omega) GJ,λp1 hp1=>?_⟩;have sl:=split_len z "\n" (by trivial);rw[dB] at sl ⊢;have tw:=Zh _ (mH en);generalize hR:((spl (L z)).map S).map V.str=ws at *;have wne:ws≠[]:=λe=>by rw[e] at hR;exact Rm _ (List.map_eq_nil_iff.mp (List.map_eq_nil_iff.mp hR))
 have s1:=Af hp1 (.lst ws);have c1':upd H p1 (.lst ws) p1=some (.lst ws):=Ac;generalize upd H p1 (.lst ws)=H1 at *;refine⟨_,rq,_,rq,p1,_,rq,SqL.of c1',λp2 hp2=>?_⟩;rw[qw wne];have ew:ws.dropLast=((spl (L z)).map S).dropLast.map V.str:=by rw[<-hR,List.map_dropLast]
 have s2:=Af hp2 (.lst ws.dropLast);have c2':upd H1 p2 (.lst ws.dropLast) p2=some (.lst ws.dropLast):=Ac;generalize upd H1 p2 (.lst ws.dropLast)=H2 at *;have s12:=s1.trans s2;refine⟨p2,((spl (L z)).map S).dropLast,rq,by rw[<-ew];exact c2',by rw[List.length_dropLast,Qbw];omega,by rw[List.length_dropLast];omega,λr hr=>Qca (sl.2.2 r ((List.dropLast_sublist _).subset hr)) (by omega),λH3 s3=>?_,λpl most ja jp H3 om ok hpl s3=>?_⟩
 ·have s13:=s12.trans s3;exact⟨_,rq,.inl ⟨rq,⟨_,rq,Bl ⟨Am (by show 1<=1000;decide),qe _ s13⟩⟩⟩⟩
 have s13:=s12.trans s3;refine⟨_,rq,.inr ⟨pl,most,ja,jp,rq,hpl,ok,λb H4 hb s4=>⟨_,rq,?_⟩⟩⟩;have s14:=s13.trans s4;cases b with
 | false=>exact Bl ⟨Am (by show 1<=1000;decide),qe _ s14⟩
 | true=>
 obtain⟨m,l,zs,pf,at_⟩:=hb rfl;have at_:=at_.tups (Ba.of s4);refine Bw ⟨_,rq,pl,m,l,zs,rq,{ toPlF:=pf,at_:=at_ },λH5 s5=>⟨_,rq,rq,_,rq,?_⟩⟩;have s15:=s14.trans s5;have at_:=at_.tups (Ba.of s5);by_cases e:z=S (Cv m l zs)
 ·refine QV (by rw[e];simp) ?_;exact⟨_,rq,q pl m l zs _ e pf at_ s15⟩
 ·refine Xa (by simp;exact λh=>e h.symm) ?_;exact⟨Am (by show 1<=1000;decide),qe _ s15⟩
inductive V0 (K:YD) (vs:YG) (H:Hp) (Q:VK) (E:XK):Prop
 | mk (v) (_:vs=[v]) (_:(∀t H',H' t=some (.lst [.str "text"])->Same H H'->Q (.ref t) H')) (_:((isS v=false/\Kn H v)\/∃z:Str,v=.str z/\z.length<=15990/\∀pl m l zs H',z=S (Cv m l zs)->PlF m l zs->PlL K H' pl m l zs->Same H H'->Q (.ref pl) H')):V0 K vs H Q E
theorem d8 (c:Code K mg "_law_told" Qz K1) (T:Nm mg) (XE:Er K mg hc c0 c1 c2 c3 c4 c5 c6 c7 c8 c9 c10 c11 c12) (FT:Knd K hc c1 [c0,c1,c2,c3,c4,c5,c6,c7,c8,c9,c10,c11,c12] 1) (Yt:Vv P w K mg base "read_plan" 10 Ho (V1 K c1)) (mq:Vw P w K mg base "_law_kind" 1 K6 (V6 K hc [c0,c1,c2,c3,c4,c5,c6,c7,c8,c9,c10,c11,c12])):Good P w K mg base "_law_told" 11 K1 (V0 K):=by
 refine c.good Ua (λvs H Q E h=>?_) (λf cdv A outer s H vs Q E hr h=>?_)
 ·obtain⟨v,rfl,_⟩:=h;rfl
 obtain⟨v,rfl,qt,h⟩:=h;refine⟨_,(Ah (rJ (i:=1) Ua.nd rfl rfl rfl rfl rfl XE.Yi XE.X7 (λpn E1 EX hx=>(Ah (Bc (rR Yt hr hx (Aa (pv 0) Ab)))))
 (λpn ea=>(Ah (Bc (BZ (Aa (rT mq (hr.inH _) (Aa (pv 1) Ab)) Ab))))))),?_⟩
 refine⟨_,rq,v,rq,λH1 s1=>?_,h⟩;refine⟨_,rq,FT.xc,FT.sub,λe he=>?_⟩;refine⟨_,rq,e,_,1,rq,Ac,FT,by decide,λHB sB=>⟨Am (by show 1<=1000;decide),λt ht=>?_⟩⟩;exact qt t _ Ac (s1.trans ((Af he _).trans (sB.trans (Af ht _))))
end
abbrev Ma:Stmt:=top 59
abbrev Hq:YF:=["_law_bag_here"]
theorem Gu:Bf ["_law_bag_here","_law_some"] Hq (Al Ma):=by ac_rfl
section
variable {P:Program} {w:World} {K:YD} {mg:YB} {base:Heap}
inductive aH (vs:YG) (H:Hp) (Q:VK) (E:XK):Prop
 | mk (b:Addr) (n:Nat) (_:vs=[.ref b]) (_:Bo H b n) (_:n<=9000) (_:∀y H',y∈O7->Bo H' b (n+1)->Ag b H H'->Q (.str y) H'):aH vs H Q E
theorem bf (C:Code K mg "_law_odd_row" Ma Hq) (T:Nm mg) (Bh:Good P w K mg base "_law_take" 1 Em Il):Good P w K mg base "_law_odd_row" 2 Hq aH:=by
 refine C.good Gu (λvs H Q E h=>?_) (λf cdv A outer s H vs Q E hr h=>?_)
 ·obtain⟨b,n,rfl,_⟩:=h;rfl
 obtain⟨b,n,rfl,hb,hn,q⟩:=h;refine⟨_,(@Ae _ _ _ _ _ (@Ax _ _ 1 _ _ _ _ Gu.nd rfl (Or.inl rfl) (@GQ _ _ _ _ (@Aa _ _ _ _ _ (@Ai _ _ _ _) (@Aa _ _ _ _ _ (@Ai _ _ _ _) (@Aa _ _ _ _ _ (@Ai _ _ _ _) (@Aa _ _ _ _ _ (@Ai _ _ _ _) (@Aa _ _ _ _ _ (@Ai _ _ _ _) (@Aa _ _ _ _ _ (@Ai _ _ _ _) (@Aa _ _ _ _ _ (@Ai _ _ _ _) (@Aa _ _ _ _ _ (@Ai _ _ _ _) (@Aa _ _ _ _ _ (@Ai _ _ _ _) (@Aa _ _ _ _ _ (@Ai _ _ _ _) (@Ab _) Ak) Ak) Ak) Ak) Ak) Ak) Ak) Ak) Ak) Ak)) (by rfl) (by first | exact .inl rfl | exact .inr rfl))
 (@Ae _ _ _ _ _ (@Ax _ _ 1 _ _ _ _ Gu.nd rfl (Or.inl rfl) (@Aw _ _ _ _ _ _ _ _ Ez (pv 1) (@GQ _ _ _ _ (@Aa _ _ _ _ _ (@Ai _ _ _ _) (@Aa _ _ _ _ _ (@Ai _ _ _ _) (@Aa _ _ _ _ _ (@Ai _ _ _ _) (@Aa _ _ _ _ _ (@Ai _ _ _ _) (@Aa _ _ _ _ _ (@Ai _ _ _ _) (@Aa _ _ _ _ _ (@Ai _ _ _ _) (@Ab _) Ak) Ak) Ak) Ak) Ak) Ak))) (by rfl) (by first | exact .inl rfl | exact .inr rfl))
 (@Ae _ _ _ _ _ (@Ax _ _ 1 _ _ _ _ Gu.nd rfl (Or.inl rfl) (@Aw _ _ _ _ _ _ _ _ Ez (pv 1) (@GQ _ _ _ _ (@Aa _ _ _ _ _ (@Ai _ _ _ _) (@Aa _ _ _ _ _ (@Ai _ _ _ _) (@Aa _ _ _ _ _ (@Ai _ _ _ _) (@Aa _ _ _ _ _ (@Ai _ _ _ _) (@Aa _ _ _ _ _ (@Ai _ _ _ _) (@Aa _ _ _ _ _ (@Ai _ _ _ _) (@Aa _ _ _ _ _ (@Ai _ _ _ _) (@Ab _) Ak) Ak) Ak) Ak) Ak) Ak) Ak))) (by rfl) (by first | exact .inl rfl | exact .inr rfl))
 (@Ae _ _ _ _ _ (Cr (BJ Qan Qai Qaj Cu (pv 1) (Aa Ai Ab)))
 (@Ae _ _ _ _ _ (@Ax _ _ 1 _ _ _ _ Gu.nd rfl (Or.inl rfl) (@Aw _ _ _ _ _ _ _ _ Ez (pv 1) (@GQ _ _ _ _ (@Aa _ _ _ _ _ (@Ai _ _ _ _) (@Aa _ _ _ _ _ (@Ai _ _ _ _) (@Aa _ _ _ _ _ (@Ai _ _ _ _) (@Aa _ _ _ _ _ (@Ai _ _ _ _) (@Aa _ _ _ _ _ (@Ai _ _ _ _) (@Ab _) Ak) Ak) Ak) Ak) Ak))) (by rfl) (by first | exact .inl rfl | exact .inr rfl))
 (@Ah _ _ _ (@Bc _ _ _ _ (@Cz _ _ _ _ _ _ _ CP (pv 1) (Cp Bh hr (Aa (pv 0) (Aa Ad Ab))) (λ_ _=>rfl))))))))),?_⟩
 show let R0:TS:=_;let R1:TS:=Ar _ R0;let R2:TS:=Ar _ R1;let R3:TS:=Ar _ R2;let R4:TS:=Ar _ R3;Ar _ R4 _ _ _;intro R0 R1 R2 R3 R4;refine⟨Am (by show 10<=1000;decide),λl1 H1 f1 e1 s1=>?_⟩;refine⟨_,rq,Am (by show 6<=1000;decide),λla Ha fa ea sa=>⟨l1,la,_,_,rq,rq,sa _ _ e1,ea,Am (by show 16<=1000;decide),λl2 H2 f2 e2 s2=>?_⟩⟩;refine⟨_,rq,Am (by show 7<=1000;decide),λlb Hb fb eb sb=>⟨l2,lb,_,_,rq,rq,sb _ _ e2,eb,Am (by show 23<=1000;decide),λl3 H3 f3 e3 s3=>?_⟩⟩;have s03:Same H Hb:=s1.trans (sa.trans (s2.trans sb));have fl:H l3=none:=s03.free f3;refine⟨_,rq,.inl ⟨rq,_,SqL.of e3⟩,l3,_,_,rq,rq,e3,Bb (by show 23<=1000;decide),?_⟩;have s04:∀o,Same H (upd H3 l3 o):=λo=>(s03.trans s3).CQ Ag.upd fl;refine⟨_,rq,Am (by show 5<=1000;decide),λlc Hc fc ec sc=>⟨l3,lc,_,_,rq,rq,sc _ _ Ac,ec,Am (by show 29<=1000;decide),λl4 H4 f4 e4 s4=>?_⟩⟩;have e4:H4 l4=some (.lst (O7.map V.str)):=e4;have s05:Same H H4:=(s04 _).trans (sc.trans s4);have hb5:=hb.same s05;refine⟨_,rq,_,rq,b,n,29,rq,hb5,by omega,by decide,by decide,λr H5 r0 r1 hb6 sb6=>?_⟩;obtain⟨k,rfl⟩ : ∃k:Nat,r=k:=⟨r.toNat,by omega⟩;have lk:k < O7.length:=by show k < 29;omega
 have hk:(O7.map V.str)[k]?=some (.str O7[k]):=by rw[Qbc,Qak lk];rfl
 refine⟨l4,_,_,_,rq,rq,SqL.of (sb6 _ _ e4 (hb.nb (((s04 _).trans sc).free f4)).symm),Gj hk,q _ _ (List.getElem_mem lk) hb6 ((Ag.of s05).trans sb6)⟩
end
section
open PySem.Spec PyProof.Rows
theorem rQ {X:Cx} {K:YD} {o e:Expr} {es:YJ} {to:TE} {t:TA} {name:Str} {apos cpos:Pos} {T id:String} {r:V->YG->Hp->VK->Prop} (hK:X.K=K) (pa:PlainAttrs T) (slot:Slot T name id) (hty:typeOf (.builtin id)=pure (.type "method_descriptor")) (hm:MtR X id r) (ho:PE X o to) (ha:PA X (e::es) t)
  (hbase:attributeBase o name X.env (eval o X.env)=eval o X.env:=by rfl)
  (hfew:((backTo cpos (starEach (e::es) X.env)).all (λx=>!x.1)&&(backToKw cpos (keywordEach [] X.env)).all (λx=>x.1.isSome)
  &&decide ((e::es).length+([]:List Keyword).length+(if ([]:List Keyword).isEmpty then 0 else 1) < 30))=true:=by rfl)
  (hline:(apos.endLine == cpos.line)=true:=by rfl) (hs:starEach (e::es) X.env=(false,eval e X.env)::starEach es X.env:=by rfl) (hplain:(backTo cpos (starEach es X.env)).any (·.1)=false:=by rfl) :
  PE X (.Call (.Attribute o name apos) (e::es) [] cpos) (tBM K T r to t):=hK ▸ BJ pa slot hty hm ho ha hbase hfew hline hs hplain
end
structure Jz (R:List (List Nat)):Prop where
 le:(Br R).length<=15500
 n:R.length<=100
 no:∀r∈R,10∉r
def w7X:List (List Nat):=[L "loop",L "opener",L "loop",L "bell 5",L "loop",L "opener"]
def VF:List (List Nat):=List.replicate 8 (L "seeker 5 : bell 6, bell 7, bell 8")
def Z7:List (List Nat):=[L "zone qq 5",L "zone qq 6"]
def M5:List (List Nat):=([97,98,99,100,101,102,103,104,105]:List Nat).map λc=>(L "zone q"++[c])++L " 5"
def jh:List (List Nat):=[L "zone qq"++((List.range 31).map λi=>L " "++num (i+1)).flatten]
def okX (X:List (List Nat)):Bool:=decide ((Br X).length<=900)&&decide (X.length<=40)&&X.all λr=>decide (10∉r)
theorem Np:okX (List.replicate 12 (L "opener"))=true/\okX w7X=true/\okX VF=true/\okX Z7=true/\okX M5=true/\okX jh=true/\okX [L "loop"]=true/\okX [L "zone q 5"]=true/\okX []=true:=by trivial
theorem pG:∀y∈O7,okX [L y]=true:=by trivial
theorem jR:∀y∈NP,okX [L y]=true:=by trivial
section
variable {m:Int} {l:YU} {z:List Zone}
theorem Tq (h:PlF m l z):Jz (Ao m l z):=⟨Qca (QJ h) (by decide),Qca (Ib h).1 (by decide),SX h⟩
theorem jx (h:PlF m l z):2<=(Ao m l z).length:=by
 have lo:=h.lo;cases l with
 | nil=>exact absurd lo (by decide)
 | cons ps r=>
  show 2<=_+1;rw[Qbe];show 2<=_+1+1;omega
theorem La (h:PlF m l z) {i j:Nat} (ij:i<=j) {X:List (List Nat)} (hX:okX X=true):Jz ((Ao m l z).take i++X++(Ao m l z).drop j):=by
 unfold okX at hX;rw[Qbs,Qbs,QaV,QaV] at hX;obtain⟨⟨h1,h2⟩,h3⟩:=hX;have k:=Tq h;have pl:(Br (Ao m l z)).length<=14550:=QJ h;have e:(Br ((Ao m l z).take i)).length+(Br ((Ao m l z).drop i)).length=(Br (Ao m l z)).length:=by
  rw[<-QaM,<-Fg,QaC]
 have e2:(Br ((Ao m l z).drop j)).length<=(Br ((Ao m l z).drop i)).length:=by
  have:(Ao m l z).drop j=((Ao m l z).drop i).drop (j - i):=by rw[List.drop_drop];congr 1;omega
  rw[this]
  conv=>rhs;rw[<-QaC (j - i) ((Ao m l z).drop i),Fg,QaM]
  omega
 refine⟨?_,?_,λr hr=>?_⟩
 ·rw[Fg,Fg,QaM,QaM];omega
 ·have:=(Ib h).1;rw[QaM,QaM,Qbn,Qbq];omega
 ·rcases Qby.mp hr with hr | hr
  ·rcases Qby.mp hr with hr | hr
   ·exact k.no r (QaG hr)
   ·exact Qbd (Qbu.mp h3 r hr)
  ·exact k.no r (List.mem_of_mem_drop hr)
theorem WY (h:PlF m l z) (i:Nat) {y:List Nat} (hX:okX [y]=true):Jz ((Ao m l z).take i++y::(Ao m l z).drop i):=by
 have:=La h (Qce i) hX;rw[Qba] at this;exact this
theorem W0 (h:PlF m l z) {X:List (List Nat)} (hX:okX X=true):Jz (Ao m l z++X):=by
 have:=La h (Qce (Ao m l z).length) hX;rw[Qbp,List.drop_length,QbA] at this;exact this
theorem tO (h:PlF m l z) {y:List Nat} (hX:okX [y]=true):Jz ((Ao m l z).set 0 y):=La h (i:=0) (j:=1) (by decide) hX
theorem p7 (h:PlF m l z):Jz ((Ao m l z).drop 1):=La h (i:=0) (j:=1) (X:=[]) (by decide) Np.2.2.2.2.2.2.2.2
theorem j8 (h:PlF m l z):Jz ((Ao m l z).take 1++z.map BL):=by
 have k:=Tq h;have e:(Br (Ao m l z)).length=(Br [L "most "++Bm m]).length+((Br (l.flatMap Bv)).length+(Br (z.map BL)).length):=by
  rw[<-QaM,<-Fg,<-QaM,<-Fg];rfl
 have k1:=k.le;refine⟨?_,?_,λr hr=>?_⟩
 ·rw[Fg,QaM];show (Br [L "most "++Bm m]).length+_<=_;omega
 ·have:=h.M4;rw[QaM,Qbw,Qbn];omega
 ·rcases Qby.mp hr with hr | hr
  ·exact k.no r (QaG hr)
  ·exact k.no r (QaD _ (Qaw _ hr))
theorem w5 {y:Str} (hy:y∈NP):CN ((Ao m l z).set 0 (L y)):=pN hy
theorem w6 (h:PlF m l z):CN ((Ao m l z).take 2++List.replicate 12 (L "opener")++(Ao m l z).drop 2):=by
 rw[Qba];exact jf h
theorem rY:Bu opP=L "opener":=S7 rfl
theorem w7 (h:PlF m l z):CN ((Ao m l z).take 1++w7X++(Ao m l z).drop 1):=by
 have:=cV h;rw[Qbx] at this;have e:([Rw.lp,.pl opP,.lp,.pl Ku,.lp,.pl opP]:List Rw).map Rw.txt=w7X:=by
  show [L "loop",Bu opP,L "loop",Bu Ku,L "loop",Bu opP]=_;rw[rY,show Bu Ku=L "bell 5" by trivial];rfl
 rw[e] at this;rw[JD];exact this
theorem w8 (h:PlF m l z):CN ((Ao m l z).take 1++z.map BL):=by
 have:=jc h;rw[Qcc] at this;exact this
theorem w9 (h:PlF m l z):CN ((Ao m l z).take 1++L "loop"::(Ao m l z).drop 1):=by
 have:=cW h;rw[JD];exact this
theorem w10 (h:PlF m l z):CN ((Ao m l z).take 1++L "zone q 5"::(Ao m l z).drop 1):=by
 have:=iY h;rw[QbT,show Rw.txt (.zn ⟨"q",[5]⟩)=L "zone q 5" by trivial] at this;rw[JD];exact this
theorem w11 (h:PlF m l z):CN (Ao m l z++Z7):=by
 have:=cU h;rw[Qbx,show ([Rw.zn ⟨"qq",[5]⟩,.zn ⟨"qq",[6]⟩]:List Rw).map Rw.txt=Z7 by trivial] at this;rw[JD];exact this
theorem w12 (h:PlF m l z):CN ((Ao m l z).drop 1):=iZ h
theorem w13 (h:PlF m l z):CN ((Ao m l z).take 2++VF++(Ao m l z).drop 2):=by
 have lo:=h.lo;cases l with
 | nil=>exact absurd lo (by decide)
 | cons ps r=>
  have:=je h;have e:([Rw.lp]++((List.replicate 8 Hv++ps).map Rw.pl++Dp r z)).map Rw.txt=L "loop"::(VF++(ps.map Bu++(Dp r z).map Rw.txt)):=by
   rw[Qbx,Qbx,Qcc,Qbx,List.map_replicate,Qba];unfold VF;rw[<-dJ];rfl
  rw[e] at this;have e2:Ao m (ps::r) z=(L "most "++Bm m)::(L "loop"::(ps.map Bu++(Dp r z).map Rw.txt)):=by
   rw[KR];show _::((Bv ps++r.flatMap Bv)++z.map BL)=_;unfold Bv;simp only[List.cons_append,Qba]
  rw[e2,Qba];exact this
def nine:List Zone:=([97,98,99,100,101,102,103,104,105]:List Nat).map λc=>⟨S [113,c],[5]⟩
theorem j5:nine.map BL=M5:=by trivial
theorem pQ:∀y∈nine,ZnB y:=λy hy=>by
 obtain⟨c,hc,rfl⟩:=QbY.mp hy;have:∀c∈([97,98,99,100,101,102,103,104,105]:List Nat),(1<=(S [113,c]).length/\(S [113,c]).length<=8)/\(S [113,c]).cps.toList.all (λc=>decide (c∈abc.cps.toList))=true:=by trivial
 exact Rh ⟨(this c hc).1,WD (this c hc).2⟩ (by decide)
theorem w15 (h:PlF m l z):CN (Ao m l z++M5):=by
 have:=jd h pQ rfl;rw[Qbx,Qcc,show nine.map (Rw.txt ∘ Rw.zn)=M5 from j5] at this
 rw[JD];exact this
theorem w16:CN (Ao m l z++jh):=oA qI (List.cons_ne_nil _ _)
theorem cP (h:PlF m l z):(Ao m l z).filter (λr=>Txt.startswith (S r) "zone ")=z.map BL:=by
 obtain⟨l1,l2,l3,l4,l5,l6,l7,l8⟩:=Bt;have hz:L (Str.ofString "zone ")=122::[111,110,101,32]:=by trivial
 have no:∀{r:List Nat} {c:Nat} {t:List Nat},r=c::t->c≠122->¬Txt.startswith (S r) "zone "=true:=λe n=>by
  rw[e,jo hz n];exact λz=>by cases z
 unfold Ao;rw[List.filter_cons,if_neg (no (r:=L "most "++Bm m) (c:=109) (t:=[111,115,116,32]++Bm m) (by rw[l7];rfl) (by decide)),List.filter_append];have e1:(l.flatMap Bv).filter (λr=>Txt.startswith (S r) "zone ")=[]:=List.filter_eq_nil_iff.mpr λr hr=>by
  obtain⟨ps,hps,hr⟩:=Qbt.mp hr;rcases QbQ.mp hr with rfl | hr
  ·exact no l6 (by decide)
  ·obtain⟨p,hp,rfl⟩:=QbY.mp hr;obtain⟨c,t,ec,h1,_⟩:=Lj (h.place hps hp);exact no ec h1
 have e2:(z.map BL).filter (λr=>Txt.startswith (S r) "zone ")=z.map BL:=List.filter_eq_self.mpr λr hr=>by
  obtain⟨y,hy,rfl⟩:=QbY.mp hr;exact jm (Oc y)
 rw[e1,e2];rfl
theorem oG {R:List (List Nat)} (k:Jz R) (n:CN R):∀m' l' z',PlF m' l' z'->S (Br R)≠S (Cv m' l' z'):=λm' l' z' h e=>n m' l' z' h (bJ h k.no (Kv e))
theorem jj (h:PlF m l z):∀m' l' z',PlF m' l' z'->S (Br (Ao m l z)).dropLast≠S (Cv m' l' z'):=λm' l' z' h' e=>oE h h' (Kv e)
end
theorem CT (R:List (List Nat)):(vS R).length=R.length:=Qbw _
theorem Vl {R:List (List Nat)} {k:Nat} (h:k<=R.length):Eu (vS R) none (some (k:Int))=vS (R.take k):=by
 rw[gC (by rw[CT];exact h)];exact (List.map_take ..).symm
theorem Pk {R:List (List Nat)} {k:Nat} (h:k<=R.length):Eu (vS R) (some (k:Int)) none=vS (R.drop k):=by
 rw[Lf (by rw[CT];exact h)];exact (List.map_drop ..).symm
theorem VH {R:List (List Nat)} {i:Int} (h:i.toNat<=R.length) (y:List Nat):(vS R).take (min i.toNat (vS R).length)++V.str (S y)::(vS R).drop (min i.toNat (vS R).length)=vS (R.take i.toNat++y::R.drop i.toNat):=by
 rw[CT,Nat.min_eq_left h,Dg];show _=_++vS (y::_);unfold vS;rw[List.map_take,QbT,List.map_drop]
theorem Zj {l:List Nat} {k:Nat} (h:k<=l.length):Txt.slice (S l) (some (k:Int)) none=S (l.drop k):=by
 have e:=PyProof.Rows.slice_from_eq (x:=S l) (i:=(k:Int)) (b:=((S l).length:Int)) (by omega) (by rw[Dm];omega) rfl;rw[e];show S ((l.drop (k:Int).toNat).take (((S l).length:Int) - (k:Int)).toNat)=_;rw[Qbj,Qav (by rw[Qbq,Dm];omega)]
theorem nC {l:List Nat} {k:Nat} (h:k<=l.length):Txt.slice (S l) none (some (k:Int))=S (l.take k):=by
 have e:=eq_of_beq (PyProof.Rows.slice_closes_toL (x:=S l) (j:=(k:Int)) (by omega) (by rw[Dm];omega));rw[e];show S ((l.drop (0:Int).toNat).take ((k:Int) - 0).toNat)=_;rw[Int.sub_zero,Qbj];rfl
theorem oN {l:List Nat} (ne:1<=l.length):Txt.slice (S l) none (some (-1))=S l.dropLast:=by
 have e:Txt.slice (S l) none (some (-1))=Txt.slice (S l) none (some (((l.length - 1:Nat)):Int)):=by
  unfold Txt.slice;rw[StrLaws.sliceIdx_neg_hi none (j:=-1) (S l).length (by decide) (by rw[Dm];omega),show (-1:Int)+((S l).length:Int)=((l.length - 1:Nat):Int) by rw[Dm];omega]
 rw[e,nC (by omega),List.dropLast_eq_take]
theorem ZC {R:List (List Nat)} {r:List Nat} (h:r∈R):r.length+1<=(Br R).length:=by
 obtain⟨A,B,rfl⟩:=List.append_of_mem h;have e:Br (r::B)=(r++L "\n")++Br B:=rfl;rw[Fg,e,QaM,QaM,QaM,Bt.2.2.2.1];show r.length+1<=_+(r.length+1+_);omega
theorem eY (R:List (List Nat)):((R.map λr=>S (r++L "\n")).map λx:Str=>x.length).sum=(Br R).length:=by
 unfold Br;rw[List.length_flatten,Qcc,Qcc];refine congrArg List.sum (List.map_congr_left λr _=>?_);exact Dm _
theorem bK (R:List (List Nat)):Txt.join (Str.ofString "") (R.map λr=>S (r++L "\n"))=S (Br R):=by
 refine Fq ?_;rw[Nt,Qcc];rfl
theorem FZ {x y z:Int} {R:List (List Nat)} (h:some (HO.lst (vS R))=some (HO.lst [V.int x,.int y,.int z])):False:=by
 injection h with h;injection h with h;cases R with
 | nil=>cases h
 | cons a r=>cases h
theorem lV {n:Nat} (h:1<=n):ixN n 0=some 0:=by
 unfold ixN;rw[if_pos (by decide),if_pos (by omega)];rfl
theorem Nv {b:Addr} {H HH HX:Hp} {p:Addr} (sB:Ag b H HH) (s:Same HH HX) (f:HX p=none) (ne:p≠b):H p=none:=by
 cases e:H p with
 | none=>rfl
 | some o=>rw[s _ _ (sB _ _ e ne)] at f;cases f
end K06
namespace K06
open PySem L2
abbrev Dr:Stmt:=top 60
abbrev IK:YF:=["_law_bag_here","_law_rows"]
abbrev xb:YF:=["_law_bag_here","_law_rows","_law_way","_law_at","_law_zones","_law_some","_law_text"]
theorem CG:Bf xb IK (Al Dr):=by ac_rfl
theorem DQ {I R:TS} {D:Ends} {σ : St} {H:Hp} (P:YO) (hI:∀R':TS,(∀ σ' H',P σ' H'->R' D σ' H')->I { D with nx:=fun σ H=>R' D σ H } σ H) (hR:∀ σ' H',P σ' H'->R D σ' H'):Ar I R D σ H:=hI R hR
def Bk (b Rr:Addr) (w a:Int) (H:Hp) (n:Nat) (rows Z:List (List Nat)) (dn:Prop):YO:=fun σ HH=>∃lz lS R,σ=[js b,js Rr,some (.int w),some (.int a),js lz,js lS,none]/\HH lz=some (.lst (vS Z))/\HH lS=some (.lst (vS R))/\H lS=none/\(dn->Bo HH b (n+3))/\(¬dn->Bo HH b (n+2))/\Ag b H HH/\lz≠lS/\(dn->CN R)/\(¬dn->R=rows)/\Jz R
theorem Bk.to {b Rr:Addr} {w a:Int} {H:Hp} {n:Nat} {rows Z:List (List Nat)} {dn dm:Prop} (e:dn ↔ dm) {σ : St} {HH:Hp} (h:Bk b Rr w a H n rows Z dn σ HH):Bk b Rr w a H n rows Z dm σ HH:=by
 rw[show dm=dn from propext e.symm]
 exact h
theorem Bk.mk {b Rr:Addr} {w a:Int} {H:Hp} {n:Nat} {rows Z:List (List Nat)} {dn:Prop} (d:dn) {lz lS:Addr} {R:List (List Nat)} {HH:Hp} (hz:HH lz=some (.lst (vS Z))) (hs:HH lS=some (.lst (vS R))) (f:H lS=none) (hb:Bo HH b (n+3)) (s:Ag b H HH) (ne:lz≠lS) (nr:CN R) (k:Jz R):Bk b Rr w a H n rows Z dn [js b,js Rr,some (.int w),some (.int a),js lz,js lS,none] HH:=
 ⟨lz,lS,R,rq,hz,hs,f,λ_=>hb,λz=>absurd d z,s,ne,λ_=>nr,λz=>absurd d z,k⟩
section
variable {P:Program} {w:World} {K:YD} {mg:YB} {base:Heap}
inductive Qx (vs:YG) (H:Hp) (Q:VK) (E:XK):Prop
 | mk (b Rr:Addr) (n:Nat) (m:Int) (l:YU) (z:List Zone) (_:vs=[.ref b,.ref Rr]) (_:Bo H b n) (_:n<=8000) (_:H Rr=some (.lst (vS (Ao m l z)))) (_:PlF m l z) (_:∀(t:List Nat) H',t.length<=15990->(∀m' l' z',PlF m' l' z'->S t≠S (Cv m' l' z'))->Bo H' b (n+3)->Ag b H H'->Q (.str (S t)) H'):Qx vs H Q E
abbrev xh:YF:=["_law_row"]
theorem eE (C:Code K mg "_law_broken" Dr IK) (T:Nm mg) (Bh:Good P w K mg base "_law_take" 1 Em Il) (Yu:Good P w K mg base "_law_odd_row" 2 Hq aH):Good P w K mg base "_law_broken" 3 IK Qx:=by
 refine C.good CG (λvs H Q E h=>?_) (λf cdv A outer s H vs Q E hr h=>?_)
 ·obtain⟨b,Rr,n,m,l,z,rfl,_⟩:=h;rfl
 obtain⟨b,Rr,n,m,l,z,rfl,hb,hn,hR,pf,q⟩:=h;have h2:PS (Ig CX0 P w K mg base xb "_law_broken" (Al Dr) f cdv A outer s H E).nox ((Dd Dr).getD 2 (.Pass ⟨0,0,0,0⟩)) _:=(S6 (i:=4) CG.nd rfl (Or.inl rfl) (N':=xh) rfl (Bs.plain rfl (by trivial) (by trivial) (by trivial)) (Ey (pv 1)) (λ_ _ _ _=>(Aj (i:=0) (show List.Nodup (xh:YF) by trivial) rfl (Or.inl rfl))) (λ_ _ _ _=>(O2 (DK (rQ (K:=K) rfl Qas PySem.F.slot_str_startswith PySem.F.type_str_startswith N6 (pv 0) (Aa Ai Ab))))) (λ_ _ _ _=>(pv 0)));have h14:PS (Ig CX0 P w K mg base xb "_law_broken" (Al Dr) f cdv A outer s H E).nox ((Dd Dr).getD 14 (.Pass ⟨0,0,0,0⟩)) _:=(BP (Bp Dz (pv 2) Ad (Bx _)) (Ah (Ax (i:=5) CG.nd rfl (Or.inl rfl) (Aw Ez (pv 5) (Cm (N':=["_law_letter"]) rfl (Bs.plain rfl (by trivial) (by trivial) (by trivial)) (Rx Ai) (λ_ _ _ _=>(Aj (i:=0) (show List.Nodup (["_law_letter"]:YF) by trivial) rfl (Or.inl rfl))) (λ_ _ _ _=>CW) (λ_ _ _ _=>(Aw Bg (Aw Bg Ai (pv 0)) Ai)))))) Bq);have h15:PS (Ig CX0 P w K mg base xb "_law_broken" (Al Dr) f cdv A outer s H E).nox ((Dd Dr).getD 15 (.Pass ⟨0,0,0,0⟩)) _:=(BP (Bp Dz (pv 2) Ad (Bx _)) (Ah (Cr (BJ Qan Qai Qaj Cu (pv 5) (Aa (Aw Bg Ai (BJ Qas Qaz QaA Kz Ai (Aa (Cm (N':=["_law_number"]) rfl (Bs.plain rfl (by trivial) (by trivial) (by trivial)) (dW rfl T.range (Aa Ad (Aa Ad Ab))) (λ_ _ _ _=>(Aj (i:=0) (show List.Nodup (["_law_number"]:YF) by trivial) rfl (Or.inl rfl))) (λ_ _ _ _=>CW) (λ_ _ _ _=>(Aw Bg Ai (Cj FJ rfl T.str JX (Aa (pv 0) Ab))))) Ab))) Ab)))) Bq);have h16:PS (Ig CX0 P w K mg base xb "_law_broken" (Al Dr) f cdv A outer s H E).nox ((Dd Dr).getD 16 (.Pass ⟨0,0,0,0⟩)) _:=(Ax (i:=6) CG.nd rfl (Or.inl rfl) (BJ Qas Qaz QaA Kz Ai (Aa (Cm (N':=xh) rfl (Bs.plain rfl (by trivial) (by trivial) (by trivial)) (Ey (pv 5)) (λ_ _ _ _=>(Aj (i:=0) (show List.Nodup (xh:YF) by trivial) rfl (Or.inl rfl))) (λ_ _ _ _=>CW) (λ_ _ _ _=>(Aw Bg (pv 0) Ai))) Ab)));refine⟨_,(@Ae _ _ _ _ _ (@Ax _ _ 2 _ _ _ _ CG.nd rfl (Or.inl rfl) (Cp Bh hr (Aa (pv 0) (Aa Ad Ab))) (by rfl) (by first | exact .inl rfl | exact .inr rfl))
 (@Ae _ _ _ _ _ (@Ax _ _ 3 _ _ _ _ CG.nd rfl (Or.inl rfl) (Cp Bh hr (Aa (pv 0) (Aa (@Aw _ _ _ _ _ _ _ _ Dj (Ay Dc rfl T.len Ep (Aa (pv 1) Ab)) Ad) Ab))) (by rfl) (by first | exact .inl rfl | exact .inr rfl))
 (@Ae _ _ _ _ _ h2
 (@Ae _ _ _ _ _ (@Ax _ _ 5 _ _ _ _ CG.nd rfl (Or.inl rfl) (Cj Ve rfl T.list ZX (Aa (pv 1) Ab)) (by rfl) (by first | exact .inl rfl | exact .inr rfl))
 (@Ae _ _ _ _ _ (BP (Bp Vp (pv 2) Ad (Bx _)) (@Ah _ _ _ (Cr (BJ Qan PySem.F.slot_list_insert PySem.F.type_list_insert O9 (pv 5) (Aa (pv 3) (Aa (Ca Yu hr (Aa (pv 0) Ab)) Ab))))) Bq)
 (@Ae _ _ _ _ _ (BP (Bp Dz (pv 2) Ad (Bx _)) (@Ah _ _ _ (Eb (@Cz _ _ _ _ _ _ _ CP (@GQ _ _ _ _ (@Aa _ _ _ _ _ (@Ai _ _ _ _) (@Aa _ _ _ _ _ (@Ai _ _ _ _) (@Aa _ _ _ _ _ (@Ai _ _ _ _) (@Aa _ _ _ _ _ (@Ai _ _ _ _) (@Aa _ _ _ _ _ (@Ai _ _ _ _) (@Aa _ _ _ _ _ (@Ai _ _ _ _) (@Aa _ _ _ _ _ (@Ai _ _ _ _) (@Ab _) Ak) Ak) Ak) Ak) Ak) Ak) Ak)) (Cp Bh hr (Aa (pv 0) (Aa Ad Ab))) (λ_ _=>rfl)) (Ry (pv 5) Ad set_list))) Bq)
 (@Ae _ _ _ _ _ (BP (Bp Dz (pv 2) Ad (Bx _)) (@Ah _ _ _ (@Ax _ _ 5 _ _ _ _ CG.nd rfl (Or.inl rfl) (@Aw _ _ _ _ _ _ _ _ Ez (@Aw _ _ _ _ _ _ _ _ Ez (BK Gs (pv 5) Ci (Cg Ad)) (@Aw _ _ _ _ _ _ _ _ dY (GQ (Aa Ai Ab)) Ad)) (BK Gs (pv 5) (Cg Ad) Ci)) (by rfl) (by first | exact .inl rfl | exact .inr rfl))) Bq)
 (@Ae _ _ _ _ _ (BP (Bp Dz (pv 2) Ad (Bx _)) (@Ah _ _ _ (@Ax _ _ 5 _ _ _ _ CG.nd rfl (Or.inl rfl) (@Aw _ _ _ _ _ _ _ _ Ez (@Aw _ _ _ _ _ _ _ _ Ez (BK Gs (pv 5) Ci (Cg Ad)) (@GQ _ _ _ _ (@Aa _ _ _ _ _ (@Ai _ _ _ _) (@Aa _ _ _ _ _ (@Ai _ _ _ _) (@Aa _ _ _ _ _ (@Ai _ _ _ _) (@Aa _ _ _ _ _ (@Ai _ _ _ _) (@Aa _ _ _ _ _ (@Ai _ _ _ _) (@Aa _ _ _ _ _ (@Ai _ _ _ _) (@Ab _) Ak) Ak) Ak) Ak) Ak) Ak))) (BK Gs (pv 5) (Cg Ad) Ci)) (by rfl) (by first | exact .inl rfl | exact .inr rfl))) Bq)
 (@Ae _ _ _ _ _ (BP (Bp Dz (pv 2) Ad (Bx _)) (@Ah _ _ _ (@Ax _ _ 5 _ _ _ _ CG.nd rfl (Or.inl rfl) (@Aw _ _ _ _ _ _ _ _ Ez (BK Gs (pv 5) Ci (Cg Ad)) (pv 4)) (by rfl) (by first | exact .inl rfl | exact .inr rfl))) Bq)
 (@Ae _ _ _ _ _ (BP (Bp Dz (pv 2) Ad (Bx _)) (@Ah _ _ _ (Cr (BJ Qan PySem.F.slot_list_insert PySem.F.type_list_insert O9 (pv 5) (Aa Ad (Aa Ai Ab))))) Bq)
 (@Ae _ _ _ _ _ (BP (Bp Dz (pv 2) Ad (Bx _)) (@Ah _ _ _ (Cr (BJ Qan PySem.F.slot_list_insert PySem.F.type_list_insert O9 (pv 5) (Aa Ad (Aa Ai Ab))))) Bq)
 (@Ae _ _ _ _ _ (BP (Bp Dz (pv 2) Ad (Bx _)) (@Ah _ _ _ (@Ax _ _ 5 _ _ _ _ CG.nd rfl (Or.inl rfl) (@Aw _ _ _ _ _ _ _ _ Ez (pv 5) (GQ (Aa Ai (Aa Ai Ab)))) (by rfl) (by first | exact .inl rfl | exact .inr rfl))) Bq)
 (@Ae _ _ _ _ _ (BP (Bp Dz (pv 2) Ad (Bx _)) (@Ah _ _ _ (@Ax _ _ 5 _ _ _ _ CG.nd rfl (Or.inl rfl) (BK Gs (pv 5) (Cg Ad) Ci) (by rfl) (by first | exact .inl rfl | exact .inr rfl))) Bq)
 (@Ae _ _ _ _ _ (BP (Bp Dz (pv 2) Ad (Bx _)) (@Ah _ _ _ (@Ax _ _ 5 _ _ _ _ CG.nd rfl (Or.inl rfl) (@Aw _ _ _ _ _ _ _ _ Ez (@Aw _ _ _ _ _ _ _ _ Ez (BK Gs (pv 5) Ci (Cg Ad)) (@Aw _ _ _ _ _ _ _ _ dY (GQ (Aa Ai Ab)) Ad)) (BK Gs (pv 5) (Cg Ad) Ci)) (by rfl) (by first | exact .inl rfl | exact .inr rfl))) Bq)
 (@Ae _ _ _ _ _ h14
 (@Ae _ _ _ _ _ h15
 (@Ae _ _ _ _ _ h16
 (@Ah _ _ _ (@Bc _ _ _ _ (Wr (Bp Dz (pv 2) Ad (Bx _)) (BK Gq (pv 6) Ci (Cg (PB Ms Ad))) (pv 6))))))))))))))))))))),?_⟩
 generalize hst:L2.start _ _=σ0;have e0:σ0=[js b,js Rr,none,none,none,none,none]:=hst.symm;clear hst;subst e0;have rl:=Ib pf;have r2:=jx pf;have vl:=CT (Ao m l z);refine⟨_,rq,b,n,17,rq,hb,by omega,by decide,by decide,λw0 H1 w00 w17 hb1 sb1=>?_⟩;have hR1:=sb1 _ _ hR (λe=>by obtain⟨_,_,_,eb,_⟩:=hb;rw[<-e,hR] at eb;injection eb with eb;injection eb with eb;unfold vS Ao at eb;cases eb);refine⟨_,rq,_,rq,Rr,_,rq,.inl (SqL.of hR1),_,_,rq,rq,b,n+1,_,rq,hb1,by omega,by omega,by omega,λa0 H2 a00 a0m hb2 sb2=>?_⟩;have hR2:=sb2 _ _ hR1 (λe=>by obtain⟨_,_,_,eb,_⟩:=hb1;rw[<-e,hR1] at eb;injection eb with eb;injection eb with eb;unfold vS Ao at eb;cases eb);rw[vl] at a0m;have jw:=sb1.trans sb2;refine⟨_,rq,Rr,rq,⟨_,SqL.of hR2⟩,λlz hlz=>?_⟩;refine Fo (xs:=vS (Ao m l z)) (λi σ HX=>∃u:Option V,σ=[u]/\HX lz=some (.lst (vS (((Ao m l z).take i).filter λr=>Txt.startswith (S r) "zone ")))/\Same H2 HX) ⟨none,rq,Ac,Af hlz _⟩ (λi σ HX _ h=>?_) (λi x σ HX hx h=>?_) (fun σ HX h=>?_)
 ·obtain⟨_,rfl,_,s⟩:=h;exact SqL.of (s _ _ hR2)
 ·obtain⟨_,rfl,c,s⟩:=h;unfold vS at hx;rw[Qbc] at hx;obtain⟨r,hr,rfl⟩:=Qat.mp hx;have ti:((Ao m l z).take (i+1)).filter (λr=>Txt.startswith (S r) "zone ")=((Ao m l z).take i).filter (λr=>Txt.startswith (S r) "zone ")++[r].filter λr=>Txt.startswith (S r) "zone ":=by rw[Qcn hr,List.filter_append]
  unfold Ef;dsimp only;refine⟨_,rq,rq,_,_,rq,rq,_,rq,?_⟩;cases e:Txt.startswith (S r) "zone " with
  | true=>
   refine Xa rfl ⟨_,rq,_,c,Bb ?_,_,rq,?_,s.CQ Ag.upd hlz⟩
   ·have h1:=List.length_filter_le (λr=>Txt.startswith (S r) "zone ") ((Ao m l z).take i);rw[Qbn] at h1;rw[CT];omega
   ·rw[Ac,ti,List.filter_cons_of_pos (by rw[e]),Dg];rfl
  | false=>
   refine QV rfl ⟨_,rq,?_,s⟩;rw[ti,List.filter_cons_of_neg (by rw[e];exact λz=>by cases z),List.filter_nil,QbA];exact c
 obtain⟨_,rfl,cz,sz⟩:=h;rw[vl,Qbp,cP pf] at cz;have hR3:=sz _ _ hR2;refine⟨_,rq,Rr,_,rq,.inl (SqL.of hR3),λlS H4 fS eS s4=>?_⟩;have cz4:=s4 _ _ cz;have nzs:lz≠lS:=Aq cz fS;have sB4:Ag b H H4:=jw.trans (Ag.of (sz.trans s4));have hb4:Bo H4 b (n+2):=hb2.same (sz.trans s4);have nbS:b≠lS:=(hb2.same sz).nb fS;have fS0:H lS=none:=by
  cases e:H lS with
  | none=>rfl
  | some o=>rw[sz _ _ (jw _ _ e nbS.symm)] at fS;cases fS
 have B0:Bk b Rr w0 a0 H n (Ao m l z) (z.map BL) False [js b,js Rr,some (.int w0),some (.int a0),js lz,js lS,none] H4:=⟨lz,lS,_,rq,cz4,eS,fS0,λz=>z.elim,λ_=>hb4,sB4,nzs,λz=>z.elim,λ_=>rfl,Tq pf⟩;clear hb1 hb2 hb4 sb1 sb2 jw hR1 hR2 hR3 cz sz cz4 eS s4 nzs sB4 nbS fS fS0 hlz;refine AI ?_;simp only[QaP,QaO];revert B0;generalize ([js b,js Rr,some (.int w0),some (.int a0),js lz,js lS,none]:St)=σ0;intro B0;show Ar (Ec _ _ _) _ _ _ _;refine DQ (Bk b Rr w0 a0 H n (Ao m l z) (z.map BL) (w0 < 5)) (λR' hR'=>?_) (fun σ1 HH1 B1=>?_)
 ·obtain⟨lz,lS,R,rfl,hz,hs,fs,hbd,hbn,sB,nzs,dn,nd,lk⟩:=B0;refine⟨_,rq,_,_,rq,rq,_,rq,?_⟩;by_cases c:w0 < 5
  ·rw[QbM c];have hbn:=hbn id;have eR:=nd id;subst eR;have nbS:b≠lS:=hb.nb fs;have nbz:b≠lz:=λe=>by obtain⟨_,_,_,eb,_⟩:=hbn;rw[e,hz] at eb;exact FZ eb
   refine Bl ⟨_,rq,.inl ⟨rq,_,SqL.of hs⟩,_,rq,_,rq,b,n+2,rq,hbn,by omega,λy HA hy hbA sA=>?_⟩;have hsA:=sA _ _ hs nbS.symm;have hzA:=sA _ _ hz nbz.symm;refine⟨lS,_,a0,_,rq,rq,hsA,a00,by omega,Bb (by omega),hR' _ _ (Bk.mk (by omega) (by rw[Az nzs];exact hzA) (by rw[Ac];exact congrArg (λx=>some (HO.lst x)) (VH (R:=Ao m l z) (by omega) (L y))) fs (hbA.FP Ag.upd nbS) (Ol (sB.trans sA) Ag.upd fs) nzs (ou pf hy _) (WY pf _ (pG y hy)))⟩
  ·rw[Qbz c];exact Bw (hR' _ _ ⟨lz,lS,R,rq,hz,hs,fs,λy=>(c y).elim,λy=>hbn id,sB,nzs,λy=>(c y).elim,λy=>nd id,lk⟩)
 show Ar (Ec _ _ _) _ _ _ _;refine DQ (Bk b Rr w0 a0 H n (Ao m l z) (z.map BL) (w0<=5)) (λR' hR'=>?_) (fun σ2 HH2 B2=>?_)
 ·obtain⟨lz,lS,R,rfl,hz,hs,fs,hbd,hbn,sB,nzs,dn,nd,lk⟩:=B1;refine⟨_,rq,rq,_,rq,?_⟩;by_cases c:w0=5
  ·rw[QbM (show V.int w0=V.int 5 by rw[c])];have hbn:=hbn (by omega);have eR:=nd (by omega);subst eR;have nbS:b≠lS:=hb.nb fs;have nbz:b≠lz:=λe=>by obtain⟨_,_,_,eb,_⟩:=hbn;rw[e,hz] at eb;exact FZ eb
   refine Bl ⟨Am (by show 7<=1000;decide),λlm HA fm em sA=>⟨_,rq,b,n+2,7,rq,hbn.same sA,by omega,by decide,by decide,λr HB r0 r7 hbB sB'=>?_⟩⟩;obtain⟨k,rfl⟩ : ∃k:Nat,r=k:=⟨r.toNat,by omega⟩;have em:HA lm=some (.lst (NP.map V.str)):=em;have lk:k < NP.length:=by show k < 7;omega
   have hk:(NP.map V.str)[k]?=some (.str NP[k]):=by rw[Qbc,Qak lk];rfl
   have hsB:=sB' _ _ (sA _ _ hs) nbS.symm;have hzB:=sB' _ _ (sA _ _ hz) nbz.symm;have hy:=List.getElem_mem lk;refine⟨lm,_,_,_,rq,rq,SqL.of (sB' _ _ em (hbn.nb fm).symm),Gj hk,_,rq,lS,_,_,0,rq,rq,hsB,by rw[vl];exact lV (by omega),hR' _ _ (Bk.mk (by omega) (by rw[Az nzs];exact hzB) (by rw[Ac];exact congrArg (λx=>some (HO.lst x)) (List.map_set (f:=λr=>V.str (S r)) (l:=Ao m l z) (i:=0) (a:=L NP[k])).symm) fs (hbB.FP Ag.upd nbS) (Ol ((sB.trans (Ag.of sA)).trans sB') Ag.upd fs) nzs (w5 hy) (tO pf (jR _ hy)))⟩
  ·rw[Qbz (show ¬V.int w0=V.int 5 from λe=>c (by injection e))]
   exact Bw (hR' _ _ ⟨lz,lS,R,rq,hz,hs,fs,λy=>hbd (by omega),λy=>hbn (by omega),sB,nzs,λy=>dn (by omega),λy=>nd (by omega),lk⟩)
 show Ar (Ec _ _ _) _ _ _ _;refine DQ (Bk b Rr w0 a0 H n (Ao m l z) (z.map BL) (w0<=6)) (λR' hR'=>?_) (fun σ3 HH3 B3=>?_)
 ·obtain⟨lz,lS,R,rfl,hz,hs,fs,hbd,hbn,sB,nzs,dn,nd,lk⟩:=B2;refine⟨_,rq,rq,_,rq,?_⟩;by_cases c:w0=6
  ·rw[QbM (show V.int w0=V.int 6 by rw[c])];have hbn:=hbn (by omega);have eR:=nd (by omega);subst eR;have nbS:b≠lS:=hb.nb fs;have nbz:b≠lz:=λe=>by obtain⟨_,_,_,eb,_⟩:=hbn;rw[e,hz] at eb;exact FZ eb
   refine Bl ⟨_,rq,_,rq,lS,_,rq,SqL.of hs,λp1 HA f1 e1 s1=>⟨Am (by show 1<=1000;decide),λp2 HB f2 e2 s2=>⟨p2,12,_,rq,rq,e2,by decide,by decide,Am (by show 1*12<=1000;decide),λp3 f3=>?_⟩⟩⟩;have s3:=Af f3 (.lst (List.replicate (Int.toNat 12) [V.str "opener"]).flatten);have e3:upd HB p3 (.lst (List.replicate (Int.toNat 12) [V.str "opener"]).flatten) p3=some (.lst (vS (List.replicate 12 (L "opener")))):=Ac;rw[show (some (2:Int))=some ((2:Nat):Int) from rfl,Vl r2] at e1
   refine⟨p1,p3,_,_,rq,rq,s3 _ _ (s2 _ _ e1),e3,Am (by rw[CT,CT,Qbn];show _+12<=1000;omega),λp4 HD f4 e4 s4=>?_⟩;have s14:=s1.trans (s2.trans (s3.trans s4));refine⟨_,rq,_,rq,lS,_,rq,SqL.of (s14 _ _ hs),λp5 HE f5 e5 s5=>?_⟩;rw[show (some (2:Int))=some ((2:Nat):Int) from rfl,Pk r2] at e5
   refine⟨p4,p5,_,_,rq,rq,s5 _ _ e4,e5,Am (by rw[<-Dg,CT,CT,QaM,Qbn,Qbq];show _+12+_<=1000;omega),λp6 HF f6 e6 s6=>?_⟩;rw[<-Dg,<-Dg] at e6;have s16:=s14.trans (s5.trans s6);exact hR' _ _ (Bk.mk (by omega) (s16 _ _ hz) e6 (Nv sB (s14.trans s5) f6 (hbn.nb ((s14.trans s5).free f6)).symm) ((hbn.same s16).mono (by omega)) (sB.trans (Ag.of s16)) (Aq ((s14.trans s5) _ _ hz) f6) (w6 pf) (La pf (Qce _) Np.1))
  ·rw[Qbz (show ¬V.int w0=V.int 6 from λe=>c (by injection e))]
   exact Bw (hR' _ _ ⟨lz,lS,R,rq,hz,hs,fs,λy=>hbd (by omega),λy=>hbn (by omega),sB,nzs,λy=>dn (by omega),λy=>nd (by omega),lk⟩)
 show Ar (Ec _ _ _) _ _ _ _;refine DQ (Bk b Rr w0 a0 H n (Ao m l z) (z.map BL) (w0<=7)) (λR' hR'=>?_) (fun σ4 HH4 B4=>?_)
 ·obtain⟨lz,lS,R,rfl,hz,hs,fs,hbd,hbn,sB,nzs,dn,nd,lk⟩:=B3;refine⟨_,rq,rq,_,rq,?_⟩;by_cases c:w0=7
  ·rw[QbM (show V.int w0=V.int 7 by rw[c])];have hbn:=hbn (by omega);have eR:=nd (by omega);subst eR;have nbS:b≠lS:=hb.nb fs;have nbz:b≠lz:=λe=>by obtain⟨_,_,_,eb,_⟩:=hbn;rw[e,hz] at eb;exact FZ eb
   refine Bl ⟨_,rq,_,rq,lS,_,rq,SqL.of hs,λp1 HA f1 e1 s1=>⟨Am (by show 6<=1000;decide),λp3 HB f3 e3 s3=>?_⟩⟩;rw[show (some (1:Int))=some ((1:Nat):Int) from rfl,Vl (by omega)] at e1
   have e3:HB p3=some (.lst (vS w7X)):=e3;refine⟨p1,p3,_,_,rq,rq,s3 _ _ e1,e3,Am (by rw[CT,CT,Qbn];show _+6<=1000;omega),λp4 HD f4 e4 s4=>?_⟩;have s14:=s1.trans (s3.trans s4);refine⟨_,rq,_,rq,lS,_,rq,SqL.of (s14 _ _ hs),λp5 HE f5 e5 s5=>?_⟩;rw[show (some (1:Int))=some ((1:Nat):Int) from rfl,Pk (by omega)] at e5
   refine⟨p4,p5,_,_,rq,rq,s5 _ _ e4,e5,Am (by rw[<-Dg,CT,CT,QaM,Qbn,Qbq];show _+6+_<=1000;omega),λp6 HF f6 e6 s6=>?_⟩;rw[<-Dg,<-Dg] at e6;have s16:=s14.trans (s5.trans s6);exact hR' _ _ (Bk.mk (by omega) (s16 _ _ hz) e6 (Nv sB (s14.trans s5) f6 (hbn.nb ((s14.trans s5).free f6)).symm) ((hbn.same s16).mono (by omega)) (sB.trans (Ag.of s16)) (Aq ((s14.trans s5) _ _ hz) f6) (w7 pf) (La pf (Qce _) Np.2.1))
  ·rw[Qbz (show ¬V.int w0=V.int 7 from λe=>c (by injection e))]
   exact Bw (hR' _ _ ⟨lz,lS,R,rq,hz,hs,fs,λy=>hbd (by omega),λy=>hbn (by omega),sB,nzs,λy=>dn (by omega),λy=>nd (by omega),lk⟩)
 show Ar (Ec _ _ _) _ _ _ _;refine DQ (Bk b Rr w0 a0 H n (Ao m l z) (z.map BL) (w0<=8)) (λR' hR'=>?_) (fun σ5 HH5 B5=>?_)
 ·obtain⟨lz,lS,R,rfl,hz,hs,fs,hbd,hbn,sB,nzs,dn,nd,lk⟩:=B4;refine⟨_,rq,rq,_,rq,?_⟩;by_cases c:w0=8
  ·rw[QbM (show V.int w0=V.int 8 by rw[c])];have hbn:=hbn (by omega);have eR:=nd (by omega);subst eR;have nbS:b≠lS:=hb.nb fs;have nbz:b≠lz:=λe=>by obtain⟨_,_,_,eb,_⟩:=hbn;rw[e,hz] at eb;exact FZ eb
   refine Bl ⟨_,rq,_,rq,lS,_,rq,SqL.of hs,λp1 HA f1 e1 s1=>?_⟩;rw[show (some (1:Int))=some ((1:Nat):Int) from rfl,Vl (by omega)] at e1
   refine⟨_,rq,p1,lz,_,_,rq,rq,e1,s1 _ _ hz,Am (by rw[CT,CT,Qbn,Qbw];have:=pf.M4;omega),λp4 HD f4 e4 s4=>?_⟩;rw[<-Dg] at e4;have s14:=s1.trans s4;exact hR' _ _ (Bk.mk (by omega) (s14 _ _ hz) e4 (Nv sB s1 f4 (hbn.nb (s1.free f4)).symm) ((hbn.same s14).mono (by omega)) (sB.trans (Ag.of s14)) (Aq (s1 _ _ hz) f4) (w8 pf) (j8 pf))
  ·rw[Qbz (show ¬V.int w0=V.int 8 from λe=>c (by injection e))]
   exact Bw (hR' _ _ ⟨lz,lS,R,rq,hz,hs,fs,λy=>hbd (by omega),λy=>hbn (by omega),sB,nzs,λy=>dn (by omega),λy=>nd (by omega),lk⟩)
 show Ar (Ec _ _ _) _ _ _ _;refine DQ (Bk b Rr w0 a0 H n (Ao m l z) (z.map BL) (w0<=9)) (λR' hR'=>?_) (fun σ6 HH6 B6=>?_)
 ·obtain⟨lz,lS,R,rfl,hz,hs,fs,hbd,hbn,sB,nzs,dn,nd,lk⟩:=B5;refine⟨_,rq,rq,_,rq,?_⟩;by_cases c:w0=9
  ·rw[QbM (show V.int w0=V.int 9 by rw[c])];have hbn:=hbn (by omega);have eR:=nd (by omega);subst eR;have nbS:b≠lS:=hb.nb fs;have nbz:b≠lz:=λe=>by obtain⟨_,_,_,eb,_⟩:=hbn;rw[e,hz] at eb;exact FZ eb
   refine Bl ⟨_,rq,.inl ⟨rq,_,SqL.of hs⟩,lS,_,1,_,rq,rq,hs,by decide,by decide,Bb (by omega),hR' _ _ (Bk.mk (by omega) (by rw[Az nzs];exact hz) (by rw[Ac];exact congrArg (λx=>some (HO.lst x)) (VH (R:=Ao m l z) (i:=1) (by show 1<=_;omega) (L "loop"))) fs ((hbn.FP Ag.upd nbS).mono (by omega)) (Ol sB Ag.upd fs) nzs (w9 pf) (WY pf 1 (Np.2.2.2.2.2.2.1)))⟩
  ·rw[Qbz (show ¬V.int w0=V.int 9 from λe=>c (by injection e))]
   exact Bw (hR' _ _ ⟨lz,lS,R,rq,hz,hs,fs,λy=>hbd (by omega),λy=>hbn (by omega),sB,nzs,λy=>dn (by omega),λy=>nd (by omega),lk⟩)
 show Ar (Ec _ _ _) _ _ _ _;refine DQ (Bk b Rr w0 a0 H n (Ao m l z) (z.map BL) (w0<=10)) (λR' hR'=>?_) (fun σ7 HH7 B7=>?_)
 ·obtain⟨lz,lS,R,rfl,hz,hs,fs,hbd,hbn,sB,nzs,dn,nd,lk⟩:=B6;refine⟨_,rq,rq,_,rq,?_⟩;by_cases c:w0=10
  ·rw[QbM (show V.int w0=V.int 10 by rw[c])];have hbn:=hbn (by omega);have eR:=nd (by omega);subst eR;have nbS:b≠lS:=hb.nb fs;have nbz:b≠lz:=λe=>by obtain⟨_,_,_,eb,_⟩:=hbn;rw[e,hz] at eb;exact FZ eb
   refine Bl ⟨_,rq,.inl ⟨rq,_,SqL.of hs⟩,lS,_,1,_,rq,rq,hs,by decide,by decide,Bb (by omega),hR' _ _ (Bk.mk (by omega) (by rw[Az nzs];exact hz) (by rw[Ac];exact congrArg (λx=>some (HO.lst x)) (VH (R:=Ao m l z) (i:=1) (by show 1<=_;omega) (L "zone q 5"))) fs ((hbn.FP Ag.upd nbS).mono (by omega)) (Ol sB Ag.upd fs) nzs (w10 pf) (WY pf 1 (Np.2.2.2.2.2.2.2.1)))⟩
  ·rw[Qbz (show ¬V.int w0=V.int 10 from λe=>c (by injection e))]
   exact Bw (hR' _ _ ⟨lz,lS,R,rq,hz,hs,fs,λy=>hbd (by omega),λy=>hbn (by omega),sB,nzs,λy=>dn (by omega),λy=>nd (by omega),lk⟩)
 show Ar (Ec _ _ _) _ _ _ _;refine DQ (Bk b Rr w0 a0 H n (Ao m l z) (z.map BL) (w0<=11)) (λR' hR'=>?_) (fun σ8 HH8 B8=>?_)
 ·obtain⟨lz,lS,R,rfl,hz,hs,fs,hbd,hbn,sB,nzs,dn,nd,lk⟩:=B7;refine⟨_,rq,rq,_,rq,?_⟩;by_cases c:w0=11
  ·rw[QbM (show V.int w0=V.int 11 by rw[c])];have hbn:=hbn (by omega);have eR:=nd (by omega);subst eR;have nbS:b≠lS:=hb.nb fs;have nbz:b≠lz:=λe=>by obtain⟨_,_,_,eb,_⟩:=hbn;rw[e,hz] at eb;exact FZ eb
   refine Bl ⟨_,rq,Am (by show 2<=1000;decide),λp1 HA f1 e1 s1=>?_⟩;have e1:HA p1=some (.lst (vS Z7)):=e1;refine⟨lS,p1,_,_,rq,rq,s1 _ _ hs,e1,Am (by rw[CT];show _+2<=1000;omega),λp4 HD f4 e4 s4=>?_⟩;rw[<-Dg] at e4;have s14:=s1.trans s4;exact hR' _ _ (Bk.mk (by omega) (s14 _ _ hz) e4 (Nv sB s1 f4 (hbn.nb (s1.free f4)).symm) ((hbn.same s14).mono (by omega)) (sB.trans (Ag.of s14)) (Aq (s1 _ _ hz) f4) (w11 pf) (W0 pf Np.2.2.2.1))
  ·rw[Qbz (show ¬V.int w0=V.int 11 from λe=>c (by injection e))]
   exact Bw (hR' _ _ ⟨lz,lS,R,rq,hz,hs,fs,λy=>hbd (by omega),λy=>hbn (by omega),sB,nzs,λy=>dn (by omega),λy=>nd (by omega),lk⟩)
 show Ar (Ec _ _ _) _ _ _ _;refine DQ (Bk b Rr w0 a0 H n (Ao m l z) (z.map BL) (w0<=12)) (λR' hR'=>?_) (fun σ9 HH9 B9=>?_)
 ·obtain⟨lz,lS,R,rfl,hz,hs,fs,hbd,hbn,sB,nzs,dn,nd,lk⟩:=B8;refine⟨_,rq,rq,_,rq,?_⟩;by_cases c:w0=12
  ·rw[QbM (show V.int w0=V.int 12 by rw[c])];have hbn:=hbn (by omega);have eR:=nd (by omega);subst eR;have nbS:b≠lS:=hb.nb fs;have nbz:b≠lz:=λe=>by obtain⟨_,_,_,eb,_⟩:=hbn;rw[e,hz] at eb;exact FZ eb
   refine Bl ⟨_,rq,_,rq,lS,_,rq,SqL.of hs,λp1 HA f1 e1 s1=>?_⟩;rw[show (some (1:Int))=some ((1:Nat):Int) from rfl,Pk (by omega)] at e1
   exact hR' _ _ (Bk.mk (by omega) (s1 _ _ hz) e1 (Nv sB (Same.refl _) f1 (hbn.nb f1).symm) ((hbn.same s1).mono (by omega)) (sB.trans (Ag.of s1)) (Aq hz f1) (w12 pf) (p7 pf))
  ·rw[Qbz (show ¬V.int w0=V.int 12 from λe=>c (by injection e))]
   exact Bw (hR' _ _ ⟨lz,lS,R,rq,hz,hs,fs,λy=>hbd (by omega),λy=>hbn (by omega),sB,nzs,λy=>dn (by omega),λy=>nd (by omega),lk⟩)
 show Ar (Ec _ _ _) _ _ _ _;refine DQ (Bk b Rr w0 a0 H n (Ao m l z) (z.map BL) (w0<=13)) (λR' hR'=>?_) (fun σ10 DC B10=>?_)
 ·obtain⟨lz,lS,R,rfl,hz,hs,fs,hbd,hbn,sB,nzs,dn,nd,lk⟩:=B9;refine⟨_,rq,rq,_,rq,?_⟩;by_cases c:w0=13
  ·rw[QbM (show V.int w0=V.int 13 by rw[c])];have hbn:=hbn (by omega);have eR:=nd (by omega);subst eR;have nbS:b≠lS:=hb.nb fs;have nbz:b≠lz:=λe=>by obtain⟨_,_,_,eb,_⟩:=hbn;rw[e,hz] at eb;exact FZ eb
   refine Bl ⟨_,rq,_,rq,lS,_,rq,SqL.of hs,λp1 HA f1 e1 s1=>⟨Am (by show 1<=1000;decide),λp2 HB f2 e2 s2=>⟨p2,8,_,rq,rq,e2,by decide,by decide,Am (by show 1*8<=1000;decide),λp3 f3=>?_⟩⟩⟩;have s3:=Af f3 (.lst (List.replicate (Int.toNat 8) [V.str "seeker 5 : bell 6, bell 7, bell 8"]).flatten);have e3:upd HB p3 (.lst (List.replicate (Int.toNat 8) [V.str "seeker 5 : bell 6, bell 7, bell 8"]).flatten) p3=some (.lst (vS VF)):=Ac;rw[show (some (2:Int))=some ((2:Nat):Int) from rfl,Vl r2] at e1
   refine⟨p1,p3,_,_,rq,rq,s3 _ _ (s2 _ _ e1),e3,Am (by rw[CT,CT,Qbn];show _+8<=1000;omega),λp4 HD f4 e4 s4=>?_⟩;have s14:=s1.trans (s2.trans (s3.trans s4));refine⟨_,rq,_,rq,lS,_,rq,SqL.of (s14 _ _ hs),λp5 HE f5 e5 s5=>?_⟩;rw[show (some (2:Int))=some ((2:Nat):Int) from rfl,Pk r2] at e5
   refine⟨p4,p5,_,_,rq,rq,s5 _ _ e4,e5,Am (by rw[<-Dg,CT,CT,QaM,Qbn,Qbq];show _+8+_<=1000;omega),λp6 HF f6 e6 s6=>?_⟩;rw[<-Dg,<-Dg] at e6;have s16:=s14.trans (s5.trans s6);exact hR' _ _ (Bk.mk (by omega) (s16 _ _ hz) e6 (Nv sB (s14.trans s5) f6 (hbn.nb ((s14.trans s5).free f6)).symm) ((hbn.same s16).mono (by omega)) (sB.trans (Ag.of s16)) (Aq ((s14.trans s5) _ _ hz) f6) (w13 pf) (La pf (Qce _) Np.2.2.1))
  ·rw[Qbz (show ¬V.int w0=V.int 13 from λe=>c (by injection e))]
   exact Bw (hR' _ _ ⟨lz,lS,R,rq,hz,hs,fs,λy=>hbd (by omega),λy=>hbn (by omega),sB,nzs,λy=>dn (by omega),λy=>nd (by omega),lk⟩)
 show Ar (Ec _ _ _) _ _ _ _;refine DQ (Bk b Rr w0 a0 H n (Ao m l z) (z.map BL) (w0<=13\/w0=15)) (λR' hR'=>?_) (fun σ11 DB B11=>?_)
 ·obtain⟨lz,lS,R,rfl,hz,hs,fs,hbd,hbn,sB,nzs,dn,nd,lk⟩:=B10;refine⟨_,rq,rq,_,rq,?_⟩;by_cases c:w0=15
  ·rw[QbM (show V.int w0=V.int 15 by rw[c])];have hbn:=hbn (by omega);have eR:=nd (by omega);subst eR;have nbS:b≠lS:=hb.nb fs;have nbz:b≠lz:=λe=>by obtain⟨_,_,_,eb,_⟩:=hbn;rw[e,hz] at eb;exact FZ eb
   refine Bl ⟨_,rq,_,rq,λp1 f1=>?_⟩;have n1S:=Aq hs f1;let J0:YN:=λi σ HX=>∃u:Option V,σ=[u]/\HX p1=some (.lst (vS (M5.take i)))/\Same DC HX;refine Nz J0 ⟨none,rq,Ac,Af f1 _⟩ (λi c σ HX hc h=>?_) (fun σ HX h=>?_)
   ·obtain⟨_,rfl,cc,sc⟩:=h;have hi:i < 9:=(Qad.mp hc).1;have e9:([97,98,99,100,101,102,103,104,105]:List Nat)[i]?=some c:=by rw[<-hc,<-Array.getElem?_toList];rfl
    have ew:M5[i]?=some ((L "zone q"++[c])++L " 5"):=by unfold M5;rw[Qbc,e9];rfl
    unfold Ef;dsimp only;refine Bl ⟨_,rq,_,_,rq,rq,szb (by show 6+1<=_;decide),_,_,rq,rq,szb (by rw[QaZ];show 6+1+2<=_;decide),_,cc,Bb (by rw[CT,Qbn];omega),_,rq,?_,sc.CQ Ag.upd f1⟩;rw[Ac,Qcn ew,Dg];refine congrArg (λx=>some (HO.lst (vS (M5.take i)++[V.str x]))) (Fq ?_);rw[Df,Df];rfl
   obtain⟨_,rfl,cc,sc⟩:=h;have cc:HX p1=some (.lst (vS M5)):=cc;refine⟨lS,p1,_,_,rq,rq,sc _ _ hs,cc,Am (by rw[CT];show _+9<=1000;omega),λp4 HD f4 e4 s4=>?_⟩;rw[<-Dg] at e4;have s14:=sc.trans s4;exact hR' _ _ (Bk.mk (by omega) (s14 _ _ hz) e4 (Nv sB sc f4 (hbn.nb (sc.free f4)).symm) ((hbn.same s14).mono (by omega)) (sB.trans (Ag.of s14)) (Aq (sc _ _ hz) f4) (w15 pf) (W0 pf Np.2.2.2.2.1))
  ·rw[Qbz (show ¬V.int w0=V.int 15 from λe=>c (by injection e))]
   exact Bw (hR' _ _ ⟨lz,lS,R,rq,hz,hs,fs,λy=>hbd (by omega),λy=>hbn (by omega),sB,nzs,λy=>dn (by omega),λy=>nd (by omega),lk⟩)
 show Ar (Ec _ _ _) _ _ _ _;refine DQ (Bk b Rr w0 a0 H n (Ao m l z) (z.map BL) (w0≠14)) (λR' hR'=>?_) (fun σ12 vd B12=>?_)
 ·obtain⟨lz,lS,R,rfl,hz,hs,fs,hbd,hbn,sB,nzs,dn,nd,lk⟩:=B11;refine⟨_,rq,rq,_,rq,?_⟩;by_cases c:w0=16
  ·rw[QbM (show V.int w0=V.int 16 by rw[c])];have hbn:=hbn (by omega);have eR:=nd (by omega);subst eR;have nbS:b≠lS:=hb.nb fs;have nbz:b≠lz:=λe=>by obtain⟨_,_,_,eb,_⟩:=hbn;rw[e,hz] at eb;exact FZ eb
   refine Bl ⟨_,rq,.inl ⟨rq,_,SqL.of hs⟩,rq,_,_,rq,⟨by decide,by decide,by decide,by decide⟩,λp1 f1=>?_⟩;let J1:YN:=λi σ HX=>∃u:Option V,σ=[u]/\HX p1=some (.lst (((List.range i).map λi=>S (L " "++num (i+1))).map V.str))/\Same DB HX;refine NK J1 ⟨none,rq,Ac,Af f1 _⟩ (λi σ HX hi h=>?_) (fun σ HX h=>?_)
   ·obtain⟨_,rfl,cc,sc⟩:=h;have DS:i < 31:=hi;have mb:1<=(1:Int)+i/\(1:Int)+i<=99:=⟨by omega,by omega⟩;have ml:=DX mb;have en:Bm ((1:Int)+i)=num (i+1):=by rw[show (1:Int)+i=((i+1:Nat):Int) by omega];rfl
    unfold Ef;dsimp only;refine Bl ⟨_,rq,_,rq,FQ mb,_,_,rq,rq,szb (by have e:(Str.ofString (toString ((1:Int)+i))).length=(Bm ((1:Int)+i)).length:=Dm _;show 1+(Str.ofString (toString ((1:Int)+i))).length<=100000;omega),_,cc,Bb (by rw[Qbw,Qbw,List.length_range];omega),_,rq,?_,sc.CQ Ag.upd f1⟩;rw[Ac,List.range_succ,Qbx,Qbx];refine congrArg (λx=>some (HO.lst (((List.range i).map λi=>S (L " "++num (i+1))).map V.str++[V.str x]))) (Fq ?_);show _=L (S (L " "++num (i+1)));rw[<-en,Df];rfl
   obtain⟨_,rfl,cc,sc⟩:=h;have cc:HX p1=some (.lst (((List.range 31).map λi=>S (L " "++num (i+1))).map V.str)):=cc;have ej:Txt.join (Str.ofString "") ((List.range 31).map λi=>S (L " "++num (i+1)))=S ((List.range 31).map λi=>L " "++num (i+1)).flatten:=by
    refine Fq ?_;rw[Nt,Qcc];rfl
   refine⟨_,p1,_,rq,rq,SqL.of cc,(by trivial),?_⟩;rw[ej];have hsX:=sc _ _ hs;have e16:(Str.ofString "zone qq")++S ((List.range 31).map λi=>L " "++num (i+1)).flatten=S (L "zone qq"++((List.range 31).map λi=>L " "++num (i+1)).flatten):=Fq (by rw[Df];rfl);refine⟨_,_,rq,rq,(by trivial),lS,_,_,rq,rq,hsX,Bb (by omega),hR' _ _ (Bk.mk (by omega) (by rw[Az nzs];exact sc _ _ hz) (by rw[Ac,e16];exact congrArg (λx=>some (HO.lst x)) (Dg (Ao m l z) jh).symm) fs (((hbn.same sc).FP Ag.upd nbS).mono (by omega)) (Ol (sB.trans (Ag.of sc)) Ag.upd fs) nzs w16 (W0 pf Np.2.2.2.2.2.1))⟩
  ·rw[Qbz (show ¬V.int w0=V.int 16 from λe=>c (by injection e))]
   exact Bw (hR' _ _ ⟨lz,lS,R,rq,hz,hs,fs,λy=>hbd (by omega),λy=>hbn (by omega),sB,nzs,λy=>dn (by omega),λy=>nd (by omega),lk⟩)
 obtain⟨lz,lS,R,rfl,hz,hs,fs,hbd,hbn,sB,nzs,dn,nd,lk⟩:=B12;have hbE:Bo vd b (n+3):=by
  by_cases c:w0≠14
  ·exact hbd c
  ·exact (hbn c).mono (by omega)
 have ll:=lk.le;have ln:=lk.n;refine⟨rq,_,rq,lS,rq,⟨_,SqL.of hs⟩,λl2 hl2=>?_⟩;let J2:YN:=λj σ HZ=>∃(u1:Option V),σ=[u1]/\HZ l2=some (.lst (((R.take j).map λr=>S (r++L "\n")).map V.str))/\Same vd HZ;refine Fo (xs:=vS R) J2 ⟨none,rq,Ac,Af hl2 _⟩ (λj σ HZ _ h=>?_) (λj x σ HZ hx h=>?_) (fun σ HZ h=>?_)
 ·obtain⟨_,rfl,_,sz⟩:=h;exact SqL.of (sz _ _ hs)
 ·obtain⟨_,rfl,cz,sz⟩:=h;unfold vS at hx;rw[Qbc] at hx;obtain⟨r,hr,rfl⟩:=Qat.mp hx;have rle:=ZC (QaE hr);unfold Ef;dsimp only;refine Bl ⟨_,rq,_,_,rq,rq,szb (by rw[Dm];show _+1<=_;omega),_,cz,Bb (by rw[Qbw,Qbw,Qbn];omega),_,rq,?_,sz.CQ Ag.upd hl2⟩;rw[Ac,Qcn hr,Qbx,Qbx];refine congrArg (λx=>some (HO.lst (((R.take j).map λr=>S (r++L "\n")).map V.str++[V.str x]))) (Fq ?_);rw[Df];rfl
 obtain⟨_,rfl,cz,sz⟩:=h;rw[CT,Qbp] at cz;refine⟨_,l2,_,rq,rq,SqL.of cz,?_,?_⟩
 ·rw[eY];show _+_*0<=_;omega
 rw[bK];refine⟨_,rq,rq,_,rq,?_⟩;have hbZ:=hbE.same sz;have sBZ:=sB.trans (Ag.of sz);by_cases c:w0=14
 ·rw[QbM (show V.int w0=V.int 14 by rw[c])];have eR:=nd (λz=>z c);subst eR;have p1:1<=(Br (Ao m l z)).length:=Qca (Nat.le_add_left 1 _) (ZC (R:=Ao m l z) QaN);refine Bl ⟨_,rq,_,rq,_,rq,_,rq,szb (by rw[Dm];omega),?_⟩;rw[oN p1];exact q _ _ (by rw[List.length_dropLast];omega) (jj pf) hbZ sBZ
 ·rw[Qbz (show ¬V.int w0=V.int 14 from λe=>c (by injection e))]
  exact Bw ⟨_,rq,q _ _ (by omega) (oG lk (dn c)) hbZ sBZ⟩
end
abbrev Kg:Stmt:=top 61
abbrev Gd:YF:=["_law_bag_here","_law_text"]
theorem Jj:Bf ["_law_bag_here","_law_text","_law_at","_law_sign"] Gd (Al Kg):=by ac_rfl
theorem Co {i:Int} (h0:0<=i) (h1:i < 4) {a b c d:V} (P:V->Prop) (pa:P a) (pb:P b) (pc:P c) (pd:P d):∃v,atI [a,b,c,d] i=some v/\P v:=by
 have:i=0\/i=1\/i=2\/i=3:=by omega
 rcases this with rfl | rfl | rfl | rfl
 ·exact⟨_,rq,pa⟩
 ·exact⟨_,rq,pb⟩
 ·exact⟨_,rq,pc⟩
 ·exact⟨_,rq,pd⟩
section
variable {P:Program} {w:World} {K:YD} {mg:YB} {base:Heap}
inductive Sv (vs:YG) (H:Hp) (Q:VK) (E:XK):Prop
 | mk (b:Addr) (n:Nat) (t:List Nat) (_:vs=[.ref b,.str (S t)]) (_:Bo H b n) (_:n<=8000) (_:1<=t.length) (_:t.length<=14550) (_:∀y H',y.length<=15990->Bo H' b (n+3)->Ag b H H'->Q (.str y) H'):Sv vs H Q E
theorem Wx (C:Code K mg "_law_otherwise" Kg Gd) (T:Nm mg) (Bh:Good P w K mg base "_law_take" 1 Em Il):Good P w K mg base "_law_otherwise" 2 Gd Sv:=by
 refine C.good Jj (λvs H Q E h=>?_) (λf cdv A outer s H vs Q E hr h=>?_)
 ·obtain⟨b,n,t,rfl,_⟩:=h;rfl
 obtain⟨b,n,t,rfl,hb,hn,t1,t2,q⟩:=h;refine⟨_,(@Ae _ _ _ _ _ (@Ax _ _ 2 _ _ _ _ Jj.nd rfl (Or.inl rfl) (Cp Bh hr (Aa (pv 0) (Aa (Ay Lg rfl T.len Ep (Aa (pv 1) Ab)) Ab))) (by rfl) (by first | exact .inl rfl | exact .inr rfl))
 (@Ae _ _ _ _ _ (@Ax _ _ 3 _ _ _ _ Jj.nd rfl (Or.inl rfl) (@Cz _ _ _ _ _ _ _ W9 Ai (Cp Bh hr (Aa (pv 0) (Aa Ad Ab))) (λ_ _=>rfl)) (by rfl) (by first | exact .inl rfl | exact .inr rfl))
 (@Ah _ _ _ (@Bc _ _ _ _ (@Cz _ _ _ _ _ _ _ CP (BZ (Aa (@Aw _ _ _ _ _ _ _ _ Bg (BK Gq (pv 1) Ci (Cg (pv 2))) (BK Gq (pv 1) (Cg (@Aw _ _ _ _ _ _ _ _ Dj (pv 2) Ad)) Ci)) (Aa (@Aw _ _ _ _ _ _ _ _ Bg (@Aw _ _ _ _ _ _ _ _ Bg (BK Gq (pv 1) Ci (Cg (pv 2))) (@Cz _ _ _ _ _ _ _ W9 (pv 1) (pv 2) (λ_ _=>rfl))) (BK Gq (pv 1) (Cg (pv 2)) Ci)) (Aa (@Aw _ _ _ _ _ _ _ _ Bg (@Aw _ _ _ _ _ _ _ _ Bg (BK Gq (pv 1) Ci (Cg (pv 2))) (pv 3)) (BK Gq (pv 1) (Cg (@Aw _ _ _ _ _ _ _ _ Dj (pv 2) Ad)) Ci)) (Aa (@Aw _ _ _ _ _ _ _ _ Bg (@Aw _ _ _ _ _ _ _ _ Bg (BK Gq (pv 1) Ci (Cg (pv 2))) (pv 3)) (BK Gq (pv 1) (Cg (pv 2)) Ci)) Ab))))) (Cp Bh hr (Aa (pv 0) (Aa Ad Ab))) (λ_ _=>rfl)))))),?_⟩
 show let R0:TS:=_;let R1:TS:=Ar _ R0;Ar _ R1 _ _ _;intro R0 R1;have sl:=Dm t;refine⟨_,rq,_,rq,_,rq,szb (by omega),b,n,_,rq,hb,by omega,by omega,by omega,λr1 H1 r10 r11 hb1 sb1=>?_⟩;obtain⟨k,rfl⟩ : ∃k:Nat,r1=k:=⟨r1.toNat,by omega⟩;have hk:k < t.length:=by omega
 refine⟨_,rq,b,n+1,43,rq,hb1,by omega,by decide,by decide,λr2 H2 r20 r21 hb2 sb2=>?_⟩;obtain⟨j,rfl⟩ : ∃j:Nat,r2=j:=⟨r2.toNat,by omega⟩;have lj:j < (Str.ofString " 0123456789abcdefghijklmnopqrstuvwxyz:,\nA~-").cps.toList.length:=by show j < 43;omega
 refine⟨_,_,_,rq,rq,(by trivial),Gj (Qak lj),?_⟩;generalize (Str.ofString " 0123456789abcdefghijklmnopqrstuvwxyz:,\nA~-").cps.toList[j]=c;have e1:Txt.slice (S t) none (some (k:Int))=S (t.take k):=nC (by omega);have e2:Txt.slice (S t) (some ((k:Int)+1)) none=S (t.drop (k+1)):=Zj (k:=k+1) (by omega);have e3:Txt.slice (S t) (some (k:Int)) none=S (t.drop k):=Zj (by omega);have hc:atI (S t).cps.toList (k:Int)=some t[k]:=Gj (Qak hk);have n1:(S (t.take k)).length=k:=by rw[Dm,Qbn];omega
 have n2:(S (t.drop (k+1))).length=t.length - (k+1):=by rw[Dm,Qbq]
 have n3:(S (t.drop k)).length=t.length - k:=by rw[Dm,Qbq]
 have m1:∀c:Nat,(⟨#[c]⟩ : Str).length=1:=λc=>rfl;refine⟨_,rq,_,rq,_,rq,_,rq,szb (by omega),?_⟩;rw[e1];refine⟨_,rq,_,rq,_,_,rq,rq,_,rq,_,rq,szb (by omega),?_⟩;rw[e2];refine⟨_,_,rq,rq,szb (by rw[n1,n2];omega),?_⟩;refine⟨_,rq,_,rq,_,rq,_,rq,szb (by omega),?_⟩;rw[e1];refine⟨_,rq,_,rq,_,_,_,rq,rq,szb (by omega),hc,?_⟩;refine⟨_,_,rq,rq,szb (by rw[n1,m1];omega),?_⟩;refine⟨_,rq,_,rq,_,rq,_,rq,szb (by omega),?_⟩;rw[e3];refine⟨_,_,rq,rq,szb (by rw[QaZ,n1,m1,n3];omega),?_⟩;refine⟨_,rq,_,rq,_,rq,_,rq,szb (by omega),?_⟩;rw[e1];refine⟨_,rq,_,_,rq,rq,szb (by rw[n1,m1];omega),?_⟩;refine⟨_,rq,_,rq,_,_,rq,rq,_,rq,_,rq,szb (by omega),?_⟩;rw[e2];refine⟨_,_,rq,rq,szb (by rw[QaZ,n1,m1,n2];omega),?_⟩;refine⟨_,rq,_,rq,_,rq,_,rq,szb (by omega),?_⟩;rw[e1];refine⟨_,rq,_,_,rq,rq,szb (by rw[n1,m1];omega),?_⟩;refine⟨_,rq,_,rq,_,rq,_,rq,szb (by omega),?_⟩;rw[e3];refine⟨_,_,rq,rq,szb (by rw[QaZ,n1,m1,n3];omega),?_⟩;refine⟨Am (by show 4<=1000;decide),λp hp=>?_⟩;have s3:=Af hp (.lst [.str (S (t.take k)++S (t.drop (k+1))),.str (S (t.take k)++⟨#[t[k]]⟩++S (t.drop k)),.str (S (t.take k)++⟨#[c]⟩++S (t.drop (k+1))),.str (S (t.take k)++⟨#[c]⟩++S (t.drop k))]);have c3:upd H2 p (.lst [.str (S (t.take k)++S (t.drop (k+1))),.str (S (t.take k)++⟨#[t[k]]⟩++S (t.drop k)),.str (S (t.take k)++⟨#[c]⟩++S (t.drop (k+1))),.str (S (t.take k)++⟨#[c]⟩++S (t.drop k))]) p=some (.lst [.str (S (t.take k)++S (t.drop (k+1))),.str (S (t.take k)++⟨#[t[k]]⟩++S (t.drop k)),.str (S (t.take k)++⟨#[c]⟩++S (t.drop (k+1))),.str (S (t.take k)++⟨#[c]⟩++S (t.drop k))]):=Ac;have hb3:=hb2.same s3;have nbp:p≠b:=(hb2.nb hp).symm;refine⟨_,rq,b,n+2,4,rq,hb3,by omega,by decide,by decide,λr3 H4 r30 r31 hb4 sb4=>?_⟩;obtain⟨v,hv,y,rfl,hy⟩:=Co r30 r31 (λv=>∃y:Str,v=.str y/\y.length<=15990) (a:=V.str (S (t.take k)++S (t.drop (k+1)))) (b:=.str (S (t.take k)++⟨#[t[k]]⟩++S (t.drop k))) (c:=.str (S (t.take k)++⟨#[c]⟩++S (t.drop (k+1)))) (d:=.str (S (t.take k)++⟨#[c]⟩++S (t.drop k)))
  ⟨_,rq,by rw[QaZ,n1,n2];omega⟩ ⟨_,rq,by rw[QaZ,QaZ,n1,m1,n3];omega⟩ ⟨_,rq,by rw[QaZ,QaZ,n1,m1,n2];omega⟩ ⟨_,rq,by rw[QaZ,QaZ,n1,m1,n3];omega⟩
 exact⟨p,_,_,_,rq,rq,SqL.of (sb4 _ _ c3 nbp),hv,q y _ hy hb4 ((sb1.trans sb2).trans ((Ag.of s3).trans sb4))⟩
end
abbrev Kp:Stmt:=top 62
abbrev nF:YF:=["_law_script"]
theorem Hf:Bf ["_law_script","_law_k","_law_bag_here","_law_text","_law_rows","_law_again","_law_bent","_law_told_here","_law_odd"] nF (Al Kp):=by ac_rfl
theorem KD {H:Hp} {t:Addr} (h:H t=some (.lst [.str "text"])):Rep H (.ref t) (.list [.str "text"]):=.lst h (.cons (.str _) .nil)
theorem Gn:SeqAt.shaped (.list [.str "text"])=true:=by trivial
theorem Z8:PyData.eqv (.list [.str "text"]) (.list [.str "text"])=true:=by trivial
theorem Cn {i:Int} (h0:0<=i) (h1:i < 7) {a b c d e f g:V} (P:V->Prop) (pa:P a) (pb:P b) (pc:P c) (pd:P d) (pe:P e) (pf:P f) (pg:P g):∃v,atI [a,b,c,d,e,f,g] i=some v/\P v:=by
 have:i=0\/i=1\/i=2\/i=3\/i=4\/i=5\/i=6:=by omega
 rcases this with rfl | rfl | rfl | rfl | rfl | rfl | rfl
 ·exact⟨_,rq,pa⟩
 ·exact⟨_,rq,pb⟩
 ·exact⟨_,rq,pc⟩
 ·exact⟨_,rq,pd⟩
 ·exact⟨_,rq,pe⟩
 ·exact⟨_,rq,pf⟩
 ·exact⟨_,rq,pg⟩
section
variable {P:Program} {w:World} {K:YD} {mg:YB} {base:Heap}
theorem sH {f:Addr} {fd:FuncData} (F:Fun K "law" "law" Kp f fd) (T:Nm mg) (Tv:Good P w K mg base "_law_bag" 1 MJ (aK K)) (Bh:Good P w K mg base "_law_take" 1 Em Il) (mC:Good P w K mg base "_law_plan" 4 K3 V3) (N8:Good P w K mg base "_law_plan_text" 1 Gb (Im K)) (QZ:Good P w K mg base "_law_told" 11 K1 (V0 K)) (bW:Good P w K mg base "_law_broken" 3 IK Qx) (Vd:Good P w K mg base "_law_otherwise" 2 Gd Sv):Jf P w K mg base CX0 12 f fd nF (Ro K):=by
 refine F.ok Hf (λvs H Q E h=>?_) (λcdv A outer s H vs Q E hr h=>?_)
 ·obtain⟨a,ns,rfl,_⟩:=h;rfl
 obtain⟨a,ns,rfl,hS,h63,q⟩:=h;refine⟨_,(@Ae _ _ _ _ _ (Dh QbC rfl (Fb rfl T.range (Aa (Ay (gH rfl) rfl T.max Xy (Aa Ad (Aa (Ay (Uu rfl) rfl T.min gU (Aa Ad (Aa (Ay Dc rfl T.len Ep (Aa (pv 0) Ab)) Ab))) Ab))) Ab)) (Aj (i:=1) Hf.nd rfl (Or.inl rfl))
 (@Ae _ _ _ _ _ (@Ax _ _ 2 _ _ _ _ Hf.nd rfl (Or.inl rfl) (Cp Tv hr (Aa (pv 0) (Aa (pv 1) Ab))) (by rfl) (by first | exact .inl rfl | exact .inr rfl))
 (@Ae _ _ _ _ _ (@Ax _ _ 3 _ _ _ _ Hf.nd rfl (Or.inl rfl) (Ca N8 hr (Aa (Dt mC hr (Aa (pv 2) (Aa Ad (Aa Ad Ab)))) Ab)) (by rfl) (by first | exact .inl rfl | exact .inr rfl))
 (@Ae _ _ _ _ _ (@Ax _ _ 4 _ _ _ _ Hf.nd rfl (Or.inl rfl) (BK Mv (BJ Qas PySem.F.slot_str_split PySem.F.type_str_split Nq (pv 3) (Aa Ai Ab)) Ci (Cg (PB Ms Ad))) (by rfl) (by first | exact .inl rfl | exact .inr rfl))
 (@Ae _ _ _ _ _ (Dh QbC rfl (Fb rfl T.range (Aa Ad Ab)) (Aj (i:=5) Hf.nd rfl (Or.inl rfl))
 (@Ah _ _ _ (BP (Bp (Wt (K:=K) rfl hr.units) (Ca QZ hr (Aa (Cp bW hr (Aa (pv 2) (Aa (pv 4) Ab))) Ab)) (BZ (Aa Ai Ab)) (Bx _)) (@Ah _ _ _ (@Bc _ _ _ _ Gm)) Bq)))
 (@Ae _ _ _ _ _ (Dh QbC rfl (Fb rfl T.range (Aa Ad Ab)) (Aj (i:=5) Hf.nd rfl (Or.inl rfl))
 (@Ae _ _ _ _ _ (@Ax _ _ 6 _ _ _ _ Hf.nd rfl (Or.inl rfl) (Cp Vd hr (Aa (pv 2) (Aa (pv 3) Ab))) (by rfl) (by first | exact .inl rfl | exact .inr rfl))
 (@Ae _ _ _ _ _ (@Ax _ _ 7 _ _ _ _ Hf.nd rfl (Or.inl rfl) (Ca QZ hr (Aa (pv 6) Ab)) (by rfl) (by first | exact .inl rfl | exact .inr rfl))
 (@Ah _ _ _ (BP (PW.pt (rH (Bp (Wt (K:=K) rfl hr.units) (pv 7) (BZ (Aa Ai Ab)) (Bx _)) (oX (PW.pt (Kq (DK (Ay Jt rfl T.isinstance Bj (Aa (pv 7) (Aa (Ij (v:=.ty "list") rfl T.list ZX rfl) Ab)))) (JF (Bp Vo (Ca N8 hr (Aa (pv 7) Ab)) (pv 6) (Bx _)))))))) (@Ah _ _ _ (@Bc _ _ _ _ Gm)) Bq)))))
 (@Ae _ _ _ _ _ (@Ax _ _ 8 _ _ _ _ Hf.nd rfl (Or.inl rfl) (@Cz _ _ _ _ _ _ _ CP (@BZ _ _ _ _ (@Aa _ _ _ _ _ (@Wq _ _ _) (@Aa _ _ _ _ _ (@Ad _ _ _ _) (@Aa _ _ _ _ _ (@Gm _ _ _ _) (@Aa _ _ _ _ _ (pv 4) (@Aa _ _ _ _ _ (Cj Cy rfl T.tuple Dy (Aa (pv 4) Ab)) (@Aa _ _ _ _ _ (@CZ _ _ _ _ _ (Aa (pv 3) Ab)) (@Aa _ _ _ _ _ (BZ (Aa (pv 3) Ab)) (@Ab _) qZ) qX) oK) oJ) Ak) Ak) Ak)) (Cp Bh hr (Aa (pv 2) (Aa Ad Ab))) (λ_ _=>rfl)) (by rfl) (by first | exact .inl rfl | exact .inr rfl))
 (@Ah _ _ _ (BP (Bp (Wt (K:=K) rfl hr.units) (Ca QZ hr (Aa (pv 8) Ab)) (BZ (Aa Ai Ab)) (Bx _)) (@Ah _ _ _ (@Bc _ _ _ _ Gm)) Bq)))))))))
 (@Ah _ _ _ (@Bc _ _ _ _ Gm))),?_⟩
 show let R0:TS:=_;let R1:TS:=Ar _ R0;let R2:TS:=_;let R3:TS:=Ar _ R2;let R4:TS:=Ar _ R3;let R5:TS:=Ar (Et _ _ R4) R1;let R6:TS:=_;let R7:TS:=Ar (Et _ _ R6) R5;let R8:TS:=Ar _ R7;let R9:TS:=Ar _ R8;let R10:TS:=Ar _ R9;Ar (Et _ _ R10) _ _ _ _;intro R0 R1 R2 R3 R4 R5 R6 R7 R8 R9 R10;have hl:(ns.map V.int).length=ns.length:=Qbw _;refine⟨_,rq,a,_,rq,.inl hS,_,_,rq,_,_,rq,_,rq,?_,?_,?_⟩
 ·rw[hl];split <;> split <;> omega
 ·rw[hl];split <;> split <;> omega
 let J0:YN:=λi σ H'=>Same H H'/\∃u1 u2 u3 u4 u5 u6 u7 u8,σ=[js a,u1,u2,u3,u4,u5,u6,u7,u8];refine Gz J0 ⟨Same.refl H,_,_,_,_,_,_,_,_,rq⟩ (λi σ H' hi h=>?_) (fun σ H' h=>?_)
 ·obtain⟨sm,u1,u2,u3,u4,u5,u6,u7,u8,rfl⟩:=h;rw[hl] at hi;have hi':(i:Int)<=100:=by
   revert hi;split <;> split <;> omega
  refine⟨_,rq,_,rq,a,ns,_,rq,sm.seq hS,h63,by omega,by omega,λb o hb0 uo=>?_⟩;have s1:Same H (upd H' b o):=sm.trans (Af hb0 o);have fb:H b=none:=sm.free hb0;generalize upd H' b o=H1 at s1 uo ⊢;refine⟨_,rq,b,0,3,12,rq,uo,by omega,by decide,by decide,by decide,by decide,λt Ls zs vs zvs ja jp most H2 e1 e2 e3 okl lo hi3 e4 e5 pok hb2 sb2=>?_⟩;have pf:PlF most ja jp:=⟨⟨okl,hi3⟩,lo,pok.bd,pok.cnt,pok.mo,λz hz=>⟨pok.znm z hz,pok.zup z hz,λx hx=>pok.bd x (jg ⟨okl,hi3⟩ (pok.zin z hz x hx))⟩,pok.M4,pok.zdi⟩;have ph:PlH H2 t most ja jp:={ toPlF:=pf,at_:=⟨Ls,zs,vs,zvs,e1,e2,e3,e4,e5⟩ };refine⟨t,most,ja,jp,rq,ph.k,λH3 s3=>?_⟩;have pl:=QJ pf;have sp:=Ru pf;refine⟨_,rq,rq,S (Cv most ja jp),"\n",rq,rq,by trivial,Qca (by rw[Dm];show _<=100000;omega) GJ,λp1 hp1=>?_⟩;rw[sp];have ev:((Ao most ja jp++[[]]).map S).map V.str=vS (Ao most ja jp)++[.str (S [])]:=by rw[Qcc,Qbx];rfl
  rw[ev];have s4:=Af hp1 (.lst (vS (Ao most ja jp)++[.str (S [])]));have c4:upd H3 p1 (.lst (vS (Ao most ja jp)++[.str (S [])])) p1=some (.lst (vS (Ao most ja jp)++[.str (S [])])):=Ac;generalize upd H3 p1 (.lst (vS (Ao most ja jp)++[.str (S [])]))=H4 at *;refine⟨_,rq,_,rq,p1,_,rq,SqL.of c4,λp2 hp2=>?_⟩;rw[Xp];have s5:=Af hp2 (.lst (vS (Ao most ja jp)));have c5:upd H4 p2 (.lst (vS (Ao most ja jp))) p2=some (.lst (vS (Ao most ja jp))):=Ac;generalize upd H4 p2 (.lst (vS (Ao most ja jp)))=H5 at *;have s35:=s3.trans (s4.trans s5);have nb2:p2≠b:=((hb2.same (s3.trans s4)).nb hp2).symm;have sB5:Ag b H1 H5:=sb2.trans (Ag.of s35);have hb5:=hb2.same s35;have nb0:∃k,k<=5000/\Bo H5 b k:=⟨_,by decide,hb5⟩;generalize hR:Ao most ja jp=R at *;refine⟨_,rq,by decide,by decide,?_⟩;let J1:YN:=λj σ HH=>Ag b H5 HH/\(∃k,k<=5000+10*j/\Bo HH b k)/\∃u5,σ=[js a,some (.int (0+(i:Int))),js b,some (.str (S (Cv most ja jp))),js p2,u5,u6,u7,u8];refine Gz J1 ⟨Ag.refl _ _,nb0,_,rq⟩ (λj σ HH hj h=>?_) (fun σ HH h=>?_)
  ·obtain⟨sB,⟨k,hk,hbk⟩,_,rfl⟩:=h;have hj:j < 3:=hj;refine⟨_,rq,_,rq,b,p2,k,most,ja,jp,rq,hbk,by omega,by rw[hR];exact sB _ _ c5 nb2,pf,λy HA yl yn hbA sA=>?_⟩;refine⟨_,rq,λtt HB eT sT=>?_,.inr ⟨_,rq,by rw[Dm];exact yl,λpl m l zs H' e pf' _ _=>absurd e (yn m l zs pf')⟩⟩;refine⟨Am (by show 1<=1000;decide),λl3 h3=>?_⟩;have s6:=Af h3 (.lst [.str "text"]);refine⟨_,_,.inr (KD (s6 _ _ eT)),KD Ac,Gn,Gn,_,rq,?_⟩;rw[Z8];exact Bw ⟨sB.trans (sA.trans (Ag.of (sT.trans s6))),⟨k+3,by omega,(hbA.same sT).same s6⟩,_,rq⟩
  ·obtain⟨sB,⟨k,hk,hbk⟩,u5',rfl⟩:=h;refine⟨_,rq,by decide,by decide,?_⟩;let J2:YN:=λj σ HH=>Ag b H5 HH/\(∃k,k<=5030+10*j/\Bo HH b k)/\∃u5 u6 u7,σ=[js a,some (.int (0+(i:Int))),js b,some (.str (S (Cv most ja jp))),js p2,u5,u6,u7,u8];refine Gz J2 ⟨sB,⟨k,by omega,hbk⟩,_,_,_,rq⟩ (λj σ HH hj h=>?_) (fun σ HH h=>?_)
   ·obtain⟨sB,⟨k,hk,hbk⟩,_,_,_,rfl⟩:=h;have hj:j < 3:=hj;have p1:1<=(Cv most ja jp).length:=by
     obtain⟨X,c,e,_⟩:=Oz pf;rw[e,QaM];exact Nat.le_add_left _ _
    refine⟨_,rq,_,rq,b,k,_,rq,hbk,by omega,p1,pl,λy HA yl hbA sA=>?_⟩;refine⟨_,rq,_,rq,λtt HB eT sT=>?_,.inr ⟨y,rq,yl,λplv m l zs HB ey pf' hpl sT=>?_⟩⟩
    ·refine⟨_,rq,Am (by show 1<=1000;decide),λl3 h3=>?_⟩;have s6:=Af h3 (.lst [.str "text"]);refine⟨_,_,.inr (KD (s6 _ _ eT)),KD Ac,Gn,Gn,_,rq,?_⟩;rw[Z8];exact Bw ⟨sB.trans (sA.trans (Ag.of (sT.trans s6))),⟨k+3,by omega,(hbA.same sT).same s6⟩,_,_,_,rq⟩
    ·refine⟨_,rq,Am (by show 1<=1000;decide),λl3 h3=>?_⟩;have s6:=Af h3 (.lst [.str "text"]);have hpl:=hpl.tups (Ba.of s6);have pa:PlA K _ plv m l zs:={ toPlF:=pf',at_:=hpl };refine⟨_,_,.inl hpl.rep,KD Ac,Yb pf',Gn,_,rq,?_⟩;obtain⟨Lx,zx,vx,wx,ex,_⟩:=id hpl;refine Bl ⟨_,rq,fH (.tup ex) rfl ⟨_,rq,Bw ⟨_,rq,plv,m,l,zs,rq,pa,λHC sC=>⟨_,rq,rq,_,rq,QV (by rw[ey];simp) ?_⟩⟩⟩⟩;exact⟨sB.trans (sA.trans (Ag.of (sT.trans (s6.trans sC)))),⟨k+3,by omega,((hbA.same sT).same s6).same sC⟩,_,_,_,rq⟩
   ·obtain⟨sB,⟨k,hk,hbk⟩,u5',u6',u7',rfl⟩:=h;have cr:=sB _ _ c5 nb2;have sz:=Dm (Cv most ja jp);refine⟨_,rq,_,rq,p2,_,rq,.inl ⟨SqL.of cr,λt1 h1=>?_⟩⟩;have k1:=Af h1 (.tup (vS R));have d1:upd HH t1 (.tup (vS R)) t1=some (.tup (vS R)):=Ac;have cr1:=k1 _ _ cr;generalize upd HH t1 (.tup (vS R))=HA at *;refine⟨_,rq,Am (by show 1<=1000;decide),λt2 h2=>?_⟩;have k2:=Af h2 (.tup [.str (S (Cv most ja jp))]);have d2:upd HA t2 (.tup [.str (S (Cv most ja jp))]) t2=some (.tup [.str (S (Cv most ja jp))]):=Ac;have cr2:=k2 _ _ cr1;have d12:=k2 _ _ d1;generalize upd HA t2 (.tup [.str (S (Cv most ja jp))])=HB at *;refine⟨_,rq,Am (by show 1<=1000;decide),λl3 h3=>?_⟩;have k3:=Af h3 (.lst [.str (S (Cv most ja jp))]);have d3:upd HB l3 (.lst [.str (S (Cv most ja jp))]) l3=some (.lst [.str (S (Cv most ja jp))]):=Ac;have cr3:=k3 _ _ cr2;have d13:=k3 _ _ d12;have d23:=k3 _ _ d2;generalize upd HB l3 (.lst [.str (S (Cv most ja jp))])=HC at *;refine⟨Am (by show 7<=1000;decide),λl4 h4=>?_⟩;have k4:=Af h4 (.lst [.non,.int 5,.bl true,.ref p2,.ref t1,.ref t2,.ref l3]);have d4:upd HC l4 (.lst [.non,.int 5,.bl true,.ref p2,.ref t1,.ref t2,.ref l3]) l4=some (.lst [.non,.int 5,.bl true,.ref p2,.ref t1,.ref t2,.ref l3]):=Ac;have cr4:=k4 _ _ cr3;have d14:=k4 _ _ d13;have d24:=k4 _ _ d23;have d34:=k4 _ _ d3;generalize upd HC l4 (.lst [.non,.int 5,.bl true,.ref p2,.ref t1,.ref t2,.ref l3])=HD at *;have k14:=k1.trans (k2.trans (k3.trans k4));have hbD:=hbk.same k14;have ne:∀{x:Addr} {o:HO},HD x=some o->(∀i j k:Int,o≠.lst [.int i,.int j,.int k])->x≠b:=λ{x o} e no z=>by
     obtain⟨i,j,k,eb,_⟩:=hbD;rw[z,eb] at e;exact no i j k (QbB e).symm
    refine⟨_,rq,b,k,7,rq,hbD,by omega,by decide,by decide,λr HE r0 r7 hbE sbE=>?_⟩;have f1:=sbE _ _ cr4 nb2;have f2:=sbE _ _ d14 (ne d14 λi j k z=>by cases z);have f3:=sbE _ _ d24 (ne d24 λi j k z=>by cases z);have f4:=sbE _ _ d34 (ne d34 λi j k z=>by cases z);have f5:=sbE _ _ d4 (ne d4 λi j k z=>by cases z);obtain⟨v,hv,kn⟩:=Cn r0 r7 (λv=>isS v=false/\Kn HE v) (a:=.non) (b:=.int 5) (c:=.bl true) (d:=.ref p2) (e:=.ref t1) (f:=.ref t2) (g:=.ref l3) ⟨rfl,True.intro⟩ ⟨rfl,True.intro⟩ ⟨rfl,True.intro⟩ ⟨rfl,.inl ⟨_,f1⟩⟩ ⟨rfl,.inr ⟨_,f2⟩⟩ ⟨rfl,.inr ⟨_,f3⟩⟩ ⟨rfl,.inl ⟨_,f4⟩⟩;refine⟨l4,_,_,_,rq,rq,SqL.of f5,hv,?_⟩;refine⟨_,rq,v,rq,λtt HF eT sT=>?_,.inl kn⟩;refine⟨Am (by show 1<=1000;decide),λl6 h6=>?_⟩;have s6:=Af h6 (.lst [.str "text"]);refine⟨_,_,.inr (KD (s6 _ _ eT)),KD Ac,Gn,Gn,_,rq,?_⟩;rw[Z8];refine Bw ⟨?_,_,_,_,_,_,_,_,_,rq⟩;exact s1.CQ (sB5.trans (sB.trans ((Ag.of k14).trans (sbE.trans (Ag.of (sT.trans s6)))))) fb
 ·obtain⟨sm,_⟩:=h;exact q _
end
theorem vX {K:YD} {C c0 c1 c2 c3 c4 c5 c6 c7 c8 c9 c10 c11 c12:Addr} {j:Nat} (q0:kitOne K (.ref C) (.ref c0)=some (decide (0=j))) (q1:kitOne K (.ref C) (.ref c1)=some (decide (1=j))) (q2:kitOne K (.ref C) (.ref c2)=some (decide (2=j))) (q3:kitOne K (.ref C) (.ref c3)=some (decide (3=j))) (q4:kitOne K (.ref C) (.ref c4)=some (decide (4=j))) (q5:kitOne K (.ref C) (.ref c5)=some (decide (5=j))) (q6:kitOne K (.ref C) (.ref c6)=some (decide (6=j))) (q7:kitOne K (.ref C) (.ref c7)=some (decide (7=j))) (q8:kitOne K (.ref C) (.ref c8)=some (decide (8=j))) (q9:kitOne K (.ref C) (.ref c9)=some (decide (9=j))) (q10:kitOne K (.ref C) (.ref c10)=some (decide (10=j))) (q11:kitOne K (.ref C) (.ref c11)=some (decide (11=j))) (q12:kitOne K (.ref C) (.ref c12)=some (decide (12=j))) :
  ∀i d,([c0,c1,c2,c3,c4,c5,c6,c7,c8,c9,c10,c11,c12]:List Addr)[i]?=some d->kitOne K (.ref C) (.ref d)=some (decide (i=j)):=λi d h=>by
 match i,h with
 | 0,h=>cases h;exact q0
 | 1,h=>cases h;exact q1
 | 2,h=>cases h;exact q2
 | 3,h=>cases h;exact q3
 | 4,h=>cases h;exact q4
 | 5,h=>cases h;exact q5
 | 6,h=>cases h;exact q6
 | 7,h=>cases h;exact q7
 | 8,h=>cases h;exact q8
 | 9,h=>cases h;exact q9
 | 10,h=>cases h;exact q10
 | 11,h=>cases h;exact q11
 | 12,h=>cases h;exact q12
 | n+13,h=>cases h
structure FnI (K:YD) (x:Str) (st:Stmt):Prop where
 ex:∃(f:Addr) (oc:Value) (od an:Option Addr) (sl:YI) (kV dc pm cd ct:Value),nsIn K mainGlobals x=some (some (.ref f))/\K.lookup f=some ⟨oc,od,.func (fnOf x x (Fz st) (Dd st) (Al st) .none kV dc pm an cd ct),sl⟩/\codeIn K cd x=true/\keepIn K (.ref f)=true
theorem FnI.of {K:YD} {x:Str} {st:Stmt} {f:Addr} {oc:Value} {od an:Option Addr} {sl:YI} {kV dc pm cd ct:Value} (a:nsIn K mainGlobals x=some (some (.ref f))) (l:K.lookup f=some ⟨oc,od,.func (fnOf x x (Fz st) (Dd st) (Al st) .none kV dc pm an cd ct),sl⟩) (c:codeIn K cd x=true) (k:keepIn K (.ref f)=true):FnI K x st:=⟨f,oc,od,an,sl,kV,dc,pm,cd,ct,a,l,c,k⟩
theorem FnI.code {K:YD} {mg:YB} {h:Heap} {x:Str} {st:Stmt} {ps:YF} (I:FnI K x st) (X:K.In h) (G:h.Ns mainGlobals mg) (hb:∀(kV doc pm:Value) (an:Option Addr) (cdv ct:Value) (us:YE),us.length=ps.length->bindArgs (fnOf x x (Fz st) (Dd st) (Al st) .none kV doc pm an cdv ct) ⟨us,[]⟩=pure (ps.zip us)):Code K mg x st ps:=by
 obtain⟨f,oc,od,an,sl,kV,dc,pm,cd,ct,a,l,c,k⟩:=I.ex;exact Code.of X G a l c k hb
def mU:YF->(YE->Prop)->Prop
 | [],P=>P []
 | _::r,P=>∀a,mU r λt=>P (a::t)
theorem Z1:∀(ps:YF) {P:YE->Prop},mU ps P->∀us:YE,us.length=ps.length->P us
 | [],_,h,[],_=>h
 | _::r,_,h,a::t,e=>Z1 r (h a) t (Nat.succ.inj e)
theorem fnA {F:Value->Value->Value->Option Addr->Value->Value->FuncData} {ps:YF} (h:∀kV dc pm an cd ct,mU ps λus=>bindArgs (F kV dc pm an cd ct) ⟨us,[]⟩=pure (ps.zip us)) (kV dc pm:Value) (an:Option Addr) (cd ct:Value) (us:YE) (hu:us.length=ps.length):bindArgs (F kV dc pm an cd ct) ⟨us,[]⟩=pure (ps.zip us):=Z1 ps (h kV dc pm an cd ct) us hu
theorem all_mk {l:PySem.W.OpenLaw} {w:World} {K:YD} {h:Heap} {mg:YB} {fa fl:Addr} (X:K.In h) (G:h.Ns mainGlobals mg) (hfa:mg "law"=some (.ref fa))
  {odl anl:Option Addr} {sll:YI} {ocl kVl dcl pml cdl ctl:Value}
  (i0:FnI K "is_whole" Nh)
  (i1:FnI K "is_within" Mf)
  (i2:FnI K "is_row" Ni)
  (i3:FnI K "is_rising" Mg)
  (i4:FnI K "are_rising_within" Es)
  (i5:FnI K "is_name" Ou)
  (i6:FnI K "is_device" Mh)
  (i7:FnI K "is_spur_device" Ia)
  (i8:FnI K "is_spur" Oq)
  (i9:FnI K "is_place" Nj)
  (i10:FnI K "is_loop" Ov)
  (i11:FnI K "is_zone" Oo)
  (i12:FnI K "are_loops" Mj)
  (i13:FnI K "are_zones" Mi)
  (i14:FnI K "is_plan" Ot)
  (i15:FnI K "place_devices" Iv)
  (i16:FnI K "devices" Ow)
  (i17:FnI K "show_place" KN)
  (i18:FnI K "show_zone" Lz)
  (i19:FnI K "show_plan" LC)
  (i20:FnI K "read_number" Kd)
  (i21:FnI K "read_device" Ke)
  (i22:FnI K "read_place" KQ)
  (i23:FnI K "read_zone" LK)
  (i24:FnI K "read_rows" LQ)
  (i25:FnI K "read_plan" LR)
  (i26:FnI K "_law_bag" SN)
  (i27:FnI K "_law_take" QB)
  (i28:FnI K "_law_name" Ng)
  (i29:FnI K "_law_names" Li)
  (i30:FnI K "_law_loop" QC)
  (i31:FnI K "_law_parts" Om)
  (i32:FnI K "_law_plan" Jk)
  (i33:FnI K "_law_plan_text" Kf)
  (i34:FnI K "_law_kind" QD)
  (i35:FnI K "_law_told" Qz)
  (i36:FnI K "_law_odd_row" Ma)
  (i37:FnI K "_law_broken" Dr)
  (i38:FnI K "_law_otherwise" Kg)
  (al:nsIn K mainGlobals "law"=some (some (.ref fl))) (ll:K.lookup fl=some ⟨ocl,odl,.func (fnOf "law" "law" (Fz Kp) (Dd Kp) (Al Kp) .none kVl dcl pml anl cdl ctl),sll⟩) (cl:codeIn K cdl "law"=true) (kl:keepIn K (.ref fl)=true)
  (z0:nsIn K mainGlobals "isinstance"=some none)
  (z1:nsIn K mainGlobals "int"=some none)
  (z2:nsIn K mainGlobals "bool"=some none)
  (z3:nsIn K mainGlobals "tuple"=some none)
  (z4:nsIn K mainGlobals "list"=some none)
  (z5:nsIn K mainGlobals "str"=some none)
  (z6:nsIn K mainGlobals "len"=some none)
  (z7:nsIn K mainGlobals "all"=some none)
  (z8:nsIn K mainGlobals "abs"=some none)
  (z9:nsIn K mainGlobals "max"=some none)
  (z10:nsIn K mainGlobals "min"=some none)
  (z11:nsIn K mainGlobals "range"=some none)
  (z12:nsIn K mainGlobals "sorted"=some none)
  (z13:nsIn K mainGlobals "any"=some none)
  (z14:nsIn K mainGlobals "sum"=some none)
  (z15:nsIn K mainGlobals "enumerate"=some none)
  (z16:nsIn K mainGlobals "zip"=some none)
  (z17:nsIn K mainGlobals "reversed"=some none)
  (z18:nsIn K mainGlobals "dict"=some none)
  (z19:nsIn K mainGlobals "ord"=some none)
  (z20:nsIn K mainGlobals "set"=some none)
  {op oe:Addr} {odo ode:Option Addr} {no ne:Nat} {slo sle:YI} {tks tko:Tok} {kd:Addr} {odk:Option Addr} {nk:Nat} {slk:YI} {tq1 tq2 tq3 tq4 wU:Tok} {wV:Tok} {hc u0 u1 u2 u3 u4 u5 u6 u7 u8 u9 u10 u11 u12:Addr}
  (ao:nsIn K mainGlobals "OPENER"=some (some (.ref op)))
  (lo:K.lookup op=some ⟨.type "tuple",odo,.seq #[.str "opener" tks,.int 0 tko,.ref oe] no,slo⟩)
  (lq2:K.lookup oe=some ⟨.type "tuple",ode,.seq #[] ne,sle⟩)
  (aKd:nsIn K mainGlobals "KINDS"=some (some (.ref kd)))
  (lKd:K.lookup kd=some ⟨.type "tuple",odk,.seq #[.str "seeker" tq1,.str "knob" tq2,.str "bell" tq3,.str "door" tq4] nk,slk⟩)
  (aSL:nsIn K mainGlobals "SMALL_LETTERS"=some (some (.str "abcdefghijklmnopqrstuvwxyz" wU)))
  (aFg:nsIn K mainGlobals "FIGURES"=some (some (.str "0123456789" wV)))
  (xzv:nsIn K mainGlobals "ValueError"=some none)
  (xeh:nsIn K mainGlobals "HouseError"=some (some (.ref hc)))
  (xe0:nsIn K mainGlobals "NoPlan"=some (some (.ref u0)))
  (xe1:nsIn K mainGlobals "NoText"=some (some (.ref u1)))
  (xe2:nsIn K mainGlobals "NoStretch"=some (some (.ref u2)))
  (xe3:nsIn K mainGlobals "NoSpot"=some (some (.ref u3)))
  (xe4:nsIn K mainGlobals "NoOpener"=some (some (.ref u4)))
  (xe5:nsIn K mainGlobals "NoAddress"=some (some (.ref u5)))
  (xe6:nsIn K mainGlobals "NoRules"=some (some (.ref u6)))
  (xe7:nsIn K mainGlobals "NoHand"=some (some (.ref u7)))
  (xe8:nsIn K mainGlobals "NoPanel"=some (some (.ref u8)))
  (xe9:nsIn K mainGlobals "NoLink"=some (some (.ref u9)))
  (iW:nsIn K mainGlobals "NoLog"=some (some (.ref u10)))
  (iV:nsIn K mainGlobals "NoDeed"=some (some (.ref u11)))
  (iU:nsIn K mainGlobals "NoRow"=some (some (.ref u12)))
  (xhx:excIn K hc [.type "ValueError",.type "Exception",.type "BaseException",.type "object"] "ValueError.__new__"=true)
  (xha:findIn K (.ref hc) "__getattribute__"=some (some (.builtin "BaseException.__getattribute__")))
  (xhn:findIn K (.ref hc) "__getattr__"=some none)
  (xhc:findIn K (.ref hc) "__class__"=some (some (.builtin "object.__class__")))
  (xho:subIn K (.ref hc) (.type "object")=some true)
  (xhb:subIn K (.ref hc) (.type "BaseException")=some true)
  (xhk:keepIn K (.ref hc)=true)
  (lJ:excIn K u1 [.type "ValueError",.type "Exception",.type "BaseException",.type "object"] "ValueError.__new__"=true)
  (lR:findIn K (.ref u1) "__getattribute__"=some (some (.builtin "BaseException.__getattribute__")))
  (lM:findIn K (.ref u1) "__getattr__"=some none)
  (lO:findIn K (.ref u1) "__class__"=some (some (.builtin "object.__class__")))
  (lK:subIn K (.ref u1) (.type "object")=some true)
  (lQ:subIn K (.ref u1) (.type "BaseException")=some true)
  (lN:keepIn K (.ref u1)=true)
  (kW:subIn K (.ref u1) (.ref hc)=some true)
  (lH:kitOne K (.ref u1) (.ref u0)=some false)
  (lG:kitOne K (.ref u1) (.ref u1)=some true)
  (lF:kitOne K (.ref u1) (.ref u2)=some false)
  (lE:kitOne K (.ref u1) (.ref u3)=some false)
  (lD:kitOne K (.ref u1) (.ref u4)=some false)
  (lC:kitOne K (.ref u1) (.ref u5)=some false)
  (lB:kitOne K (.ref u1) (.ref u6)=some false)
  (lA:kitOne K (.ref u1) (.ref u7)=some false)
  (lg:kitOne K (.ref u1) (.ref u8)=some false)
  (kZ:kitOne K (.ref u1) (.ref u9)=some false)
  (bO:kitOne K (.ref u1) (.ref u10)=some false)
  (bN:kitOne K (.ref u1) (.ref u11)=some false)
  (bM:kitOne K (.ref u1) (.ref u12)=some false)
  (kY:kitOne K (.ref u1) (.type "ValueError")=some true)
  : ∃fd:FuncData,(∀(s:Shared) (v:Value),BindsTo s fd ⟨[v],[]⟩ [("_law_script",v)])/\∀base:Heap,K.In base->base.Ns mainGlobals mg->Jf l.prog w K mg base CX0 12 fa fd nF (Ro K):=by
 have e:=hfa.symm.trans (mg_of X G al);cases e;have TN:Nm mg:=⟨mg_none_of X G z0,mg_none_of X G z1,mg_none_of X G z2,mg_none_of X G z3,mg_none_of X G z4,mg_none_of X G z5,mg_none_of X G z6,mg_none_of X G z7,mg_none_of X G z8,mg_none_of X G z9,mg_none_of X G z10,mg_none_of X G z11,mg_none_of X G z12,mg_none_of X G z13,mg_none_of X G z14,mg_none_of X G z15,mg_none_of X G z16,mg_none_of X G z17,mg_none_of X G z18,mg_none_of X G z19,mg_none_of X G z20⟩;have TX:Tx K mg op oe:=⟨TN,⟨_,mg_of X G ao,rq⟩,λH=>.inr ⟨_,_,_,lo,rq,rq,(by show 3<=sizeLine;decide),.cons ⟨_,rq⟩ (.cons ⟨_,rq⟩ (.cons rfl .nil))⟩,λH=>.inr ⟨_,_,_,lq2,rq,rq,(by show 0<=sizeLine;decide),.nil⟩⟩;have TY:Ty K mg op oe kd kd:={ toTx:=TX,KINDS:=⟨_,mg_of X G aKd,rq⟩,kdT:=λH=>.inr ⟨_,_,_,lKd,rq,rq,(by show 4<=sizeLine;decide),.cons ⟨_,rq⟩ (.cons ⟨_,rq⟩ (.cons ⟨_,rq⟩ (.cons ⟨_,rq⟩ .nil)))⟩,SMALL_LETTERS:=⟨_,mg_of X G aSL,⟨_,rq⟩⟩ };have TF:Tf K mg op oe:={ toTx:=TX,FIGURES:=⟨_,mg_of X G aFg,⟨_,rq⟩⟩ };have XE:Er K mg hc u0 u1 u2 u3 u4 u5 u6 u7 u8 u9 u10 u11 u12:=⟨mg_none_of X G xzv,mg_of X G xeh,⟨xhx,xha,xhn,xhc,xho,xhb,xhk⟩,mg_of X G xe0,mg_of X G xe1,mg_of X G xe2,mg_of X G xe3,mg_of X G xe4,mg_of X G xe5,mg_of X G xe6,mg_of X G xe7,mg_of X G xe8,mg_of X G xe9,mg_of X G iW,mg_of X G iV,mg_of X G iU⟩;have FT:Knd K hc u1 [u0,u1,u2,u3,u4,u5,u6,u7,u8,u9,u10,u11,u12] 1:=⟨⟨lJ,lR,lM,lO,lK,lQ,lN⟩,kW,vX (j:=1) lH lG lF lE lD lC lB lA lg kZ bO bN bM,kY⟩;have cM:=i0.code (ps:=IV) X G (fnA λ_ _ _ _ _ _ _=>rfl);have YZ:=i1.code (ps:=Eh) X G (fnA λ_ _ _ _ _ _ _ _ _=>rfl);have X4:=i2.code (ps:=Dk) X G (fnA λ_ _ _ _ _ _ _ _ _=>rfl);have Y0:=i3.code (ps:=Hr) X G (fnA λ_ _ _ _ _ _ _=>rfl);have Ob:=i4.code (ps:=Du) X G (fnA λ_ _ _ _ _ _ _ _ _ _ _=>rfl);have iG:=i5.code (ps:=JQ) X G (fnA λ_ _ _ _ _ _ _=>rfl);have Y4:=i6.code (ps:=Gi) X G (fnA λ_ _ _ _ _ _ _ _=>rfl);have Rf:=i7.code (ps:=En) X G (fnA λ_ _ _ _ _ _ _=>rfl);have iC:=i8.code (ps:=JM) X G (fnA λ_ _ _ _ _ _ _=>rfl);have cN:=i9.code (ps:=IW) X G (fnA λ_ _ _ _ _ _ _=>rfl);have iH:=i10.code (ps:=JR) X G (fnA λ_ _ _ _ _ _ _=>rfl);have iB:=i11.code (ps:=JL) X G (fnA λ_ _ _ _ _ _ _=>rfl);have Y6:=i12.code (ps:=Ht) X G (fnA λ_ _ _ _ _ _ _=>rfl);have Y5:=i13.code (ps:=Hs) X G (fnA λ_ _ _ _ _ _ _=>rfl);have iD:=i14.code (ps:=JN) X G (fnA λ_ _ _ _ _ _ _=>rfl);have RW:=i15.code (ps:=Fe) X G (fnA λ_ _ _ _ _ _ _ _ _=>rfl);have iI:=i16.code (ps:=JT) X G (fnA λ_ _ _ _ _ _ _=>rfl);have XS:=i17.code (ps:=Gv) X G (fnA λ_ _ _ _ _ _ _=>rfl);have YK:=i18.code (ps:=Hh) X G (fnA λ_ _ _ _ _ _ _=>rfl);have YQ:=i19.code (ps:=Hi) X G (fnA λ_ _ _ _ _ _ _=>rfl);have Vf:=i20.code (ps:=DW) X G (fnA λ_ _ _ _ _ _ _=>rfl);have Vg:=i21.code (ps:=Ga) X G (fnA λ_ _ _ _ _ _ _=>rfl);have X3:=i22.code (ps:=Gw) X G (fnA λ_ _ _ _ _ _ _=>rfl);have YS:=i23.code (ps:=Hj) X G (fnA λ_ _ _ _ _ _ _=>rfl);have YT:=i24.code (ps:=Hl) X G (fnA λ_ _ _ _ _ _ _=>rfl);have YW:=i25.code (ps:=Ho) X G (fnA λ_ _ _ _ _ _ _=>rfl);have qG:=i26.code (ps:=MJ) X G (fnA λ_ _ _ _ _ _ _ _=>rfl);have m6:=i27.code (ps:=Em) X G (fnA λ_ _ _ _ _ _ _ _=>rfl);have m8:=i28.code (ps:=K4) X G (fnA λ_ _ _ _ _ _ _=>rfl);have iz:=i29.code (ps:=JK) X G (fnA λ_ _ _ _ _ _ _ _=>rfl);have m9:=i30.code (ps:=K5) X G (fnA λ_ _ _ _ _ _ _ _ _=>rfl);have iy:=i31.code (ps:=JH) X G (fnA λ_ _ _ _ _ _ _=>rfl);have m7:=i32.code (ps:=K3) X G (fnA λ_ _ _ _ _ _ _ _ _=>rfl);have Vh:=i33.code (ps:=Gb) X G (fnA λ_ _ _ _ _ _ _=>rfl);have ni:=i34.code (ps:=K6) X G (fnA λ_ _ _ _ _ _ _=>rfl);have mZ:=i35.code (ps:=K1) X G (fnA λ_ _ _ _ _ _ _=>rfl);have YX:=i36.code (ps:=Hq) X G (fnA λ_ _ _ _ _ _ _=>rfl);have cL:=i37.code (ps:=IK) X G (fnA λ_ _ _ _ _ _ _ _=>rfl);have Vi:=i38.code (ps:=Gd) X G (fnA λ_ _ _ _ _ _ _ _=>rfl);have wM:=f9 (st:=Kp) ll cl kl;refine⟨fnOf "law" "law" (Fz Kp) (Dd Kp) (Al Kp) .none kVl dcl pml anl cdl ctl,λs v=>.of_eq rfl,λbase _ _=>?_⟩;have Tv:=jQ (P:=l.prog) (w:=w) (base:=base) qG TN;have Bh:=d9 (P:=l.prog) (w:=w) (base:=base) m6 TN;have h_kind:=pF (P:=l.prog) (w:=w) (base:=base) ni TN XE;have AY:=Wy (P:=l.prog) (w:=w) (base:=base) cM TN;have bV:=U6 (P:=l.prog) (w:=w) (base:=base) YZ TN AY;have Pg:=bh (P:=l.prog) (w:=w) (base:=base) X4 TN;have wF:=bw (P:=l.prog) (w:=w) (base:=base) X4 TN;have AR:=U7 (P:=l.prog) (w:=w) (base:=base) Y0 TY;have AN:=Td (P:=l.prog) (w:=w) (base:=base) Ob TY Pg bV AR;have AW:=Yg (P:=l.prog) (w:=w) (base:=base) iG TY;have uI:=U8 (P:=l.prog) (w:=w) (base:=base) Y4 TY bV;have AL:=O6 (P:=l.prog) (w:=w) (base:=base) Rf Pg uI;have AK:=Yd (P:=l.prog) (w:=w) (base:=base) iC TY Pg AL;have AU:=Wz (P:=l.prog) (w:=w) (base:=base) cN TY Pg bV uI AK;have AX:=Yh (P:=l.prog) (w:=w) (base:=base) iH TY Pg AU;have wD:=Va (P:=l.prog) (w:=w) (base:=base) Y6 TY Pg AX;have AJ:=Yc (P:=l.prog) (w:=w) (base:=base) iB TY Pg AW AN;have wC:=U9 (P:=l.prog) (w:=w) (base:=base) Y5 TY Pg AJ;have AV:=QL (P:=l.prog) (w:=w) (base:=base) RW TX;have A3:=bx (P:=l.prog) (w:=w) (base:=base) iI TX AV;have AZ:=Ye (P:=l.prog) (w:=w) (base:=base) iD TY wF bV wD wC A3;have A2:=U0 (P:=l.prog) (w:=w) (base:=base) XS;have A0:=Wu (P:=l.prog) (w:=w) (base:=base) YK TN;have A1:=Wv (P:=l.prog) (w:=w) (base:=base) YQ TN A2 A0;have mz:=RD (P:=l.prog) (w:=w) (base:=base) Vf TF;have AT:=RG (P:=l.prog) (w:=w) (base:=base) Vg mz;have AQ:=Tc (P:=l.prog) (w:=w) (base:=base) X3 TF AT;have AM:=U3 (P:=l.prog) (w:=w) (base:=base) YS TF mz;have AO:=U4 (P:=l.prog) (w:=w) (base:=base) YT TF mz AQ AM;have AS:=U5 (P:=l.prog) (w:=w) (base:=base) YW TF XE FT AO AZ A1;have uF:=pC (P:=l.prog) (w:=w) (base:=base) m8 TN Bh;have uE:=jP (P:=l.prog) (w:=w) (base:=base) iz TN uF;have uG:=pD (P:=l.prog) (w:=w) (base:=base) m9 TN Bh;have ux:=d7 (P:=l.prog) (w:=w) (base:=base) iy TN;have uw:=pB (P:=l.prog) (w:=w) (base:=base) m7 TN Bh uG ux uE;have ur:=Ww (P:=l.prog) (w:=w) (base:=base) Vh TN;have uq:=d8 (P:=l.prog) (w:=w) (base:=base) mZ TN XE FT AS h_kind;have uD:=bf (P:=l.prog) (w:=w) (base:=base) YX TN Bh;have uH:=eE (P:=l.prog) (w:=w) (base:=base) cL TN Bh uD;have uy:=Wx (P:=l.prog) (w:=w) (base:=base) Vi TN Bh;exact sH wM TN Tv Bh uw ur uq uH uy
theorem walk {l:PySem.W.OpenLaw} {q:Program} {loose:YF} {XP:(YB)->Heap->Prop} {YP:World->Heap->Prop} {d:DefRec} {K:Params->YD} (hn:l.most=some 63) (hdf:d.params.defaults=[])
  (hY:∀(w:World) (h:Heap),YP w h->(K w.params).In h)
  (F:∀(w:World) (mg:YB) (fa:Addr) (h:Heap),(K w.params).In h->h.Ns mainGlobals mg->mg d.name=some (.ref fa) ->
   ∃fd:FuncData,(∀(s:Shared) (u:Value),BindsTo s fd ⟨[u],[]⟩ [("_law_script",u)])/\∀base:Heap,(K w.params).In base->base.Ns mainGlobals mg->Jf l.prog w (K w.params) mg base CX0 12 fa fd nF (Ro (K w.params))) :
  PySem.W.WalkO q loose XP YP l.row.toRowW d [] (λf vs=>PySem.call f vs):=
 L2.oF (n:=63) (k:=12) (x:="_law_script") (CX:=λ_=>CX0) (sp:=λw=>Ro (K w.params)) hn (by decide) hdf ⟨rq,by decide,by decide⟩ hY F (λ_ _ a ns hl _ hS=>⟨a,ns,rq,hS,hl,λ_=>rfl⟩) λ_ _ _ _ _ z=>z
end K06
/-! names that stay free of quick twins: the head comes through without them, and the compiled text is much smaller -/
namespace PySem.W.Fast
def tw16535197188865986573:=0
def tw9784406918064416257:=0
def tw3561524331436227964:=0
def tw13351395951682110268:=0
def tw4958138722559970653:=0
def tw7834520230873942436:=0
def tw15708333519621354500:=0
def tw14946184322768006835:=0
def tw1910140048548918054:=0
def tw1295476271379078202:=0
def tw9388409218775793590:=0
def tw9708541919442974275:=0
def tw11987804484528142449:=0
def tw18025137390354730203:=0
def tw7865429864416684532:=0
def tw5948754004897199807:=0
def tw16309719629274069626:=0
def tw10556488113876856567:=0
def tw5458944276163110793:=0
def tw17868805995684210603:=0
def tw14495013517424144453:=0
def tw2335579473342964628:=0
def tw14805266355622352403:=0
def tw10221645646897516407:=0
def tw17153610256571910166:=0
def tw11323325022932424999:=0
def tw6977047468433670052:=0
def tw1701496735633286571:=0
def tw12696769804646076054:=0
def tw5360403671344722375:=0
def tw5952790305749813197:=0
def tw12536535553406304913:=0
def tw17474017914295854717:=0
def tw5018559160340641173:=0
def tw14299842630158449969:=0
def tw5427193864021631086:=0
def tw7564467903921698471:=0
def tw10966200533409532557:=0
def tw4706656366595628764:=0
def tw10229303271845589414:=0
def tw7864764377581929563:=0
def tw13432777920146201481:=0
def tw6535285864397621884:=0
def tw12152291237216103193:=0
def tw4929881996360245603:=0
def tw8579327661418721601:=0
def tw3409680557192250331:=0
def tw5070333685731423816:=0
def tw13171758795367466047:=0
def tw3724904132025170929:=0
def tw12820044596622614884:=0
def tw15714885783371293471:=0
def tw14051035643620454117:=0
def tw1320479425450182354:=0
def tw5556416451171020258:=0
def tw6562864787459343358:=0
def tw4980622685253548227:=0
def tw3292014800413716839:=0
def tw16448404704532775161:=0
def tw16641893424251548193:=0
def tw16133024181294744820:=0
def tw3993906834159425944:=0
def tw8226984936177628325:=0
def tw9894784113226599704:=0
def tw17481620742702778057:=0
def tw14322697840884810014:=0
def tw6172244353207230936:=0
def tw14734367780852998638:=0
def tw2539960473547960003:=0
def tw10079300728664426358:=0
def tw7280507090472529840:=0
def tw9899011094428626423:=0
def tw581012015701693445:=0
def tw2465173133951046817:=0
def tw6387752195716929807:=0
def tw14203507240495636259:=0
def tw18259365391200157292:=0
def tw14223107328695032125:=0
def tw17436558752138802533:=0
def tw15667469452469950732:=0
def tw1809257157246827380:=0
def tw9173387789481868674:=0
def tw2678623395982665026:=0
def tw4522773349360866047:=0
def tw2024325503537044992:=0
def tw8644050497712142002:=0
def tw16112656730646361758:=0
def tw12409166112495823050:=0
def tw516977188777768280:=0
def tw17344420157618171299:=0
def tw10672747069400507460:=0
def tw14320638158545361372:=0
def tw6511587750119423931:=0
def tw13851014095024606274:=0
def tw8496409568754004786:=0
def tw5681606413506321053:=0
def tw5907158202885214519:=0
def tw3839022457078343870:=0
def tw13232476837454806257:=0
def tw2805112479236504954:=0
def tw12250504776308551410:=0
def tw904984959429873074:=0
def tw17581082932644485010:=0
def tw2370693455810332120:=0
def tw10610925431208930874:=0
def tw3178595670844514332:=0
def tw11717821710676407764:=0
def tw1176389479936148189:=0
def tw6725622880904821452:=0
def tw14696537994422727128:=0
def tw8958007163110242432:=0
def tw1251329976586793676:=0
def tw16573818844881577353:=0
def tw3807564558016618859:=0
def tw2851348384366299628:=0
def tw7567842219493861393:=0
def tw608971638144325208:=0
def tw8877673328661812938:=0
def tw15469708896620281103:=0
def tw18087075944793008726:=0
def tw14127182140917407885:=0
def tw7722192765067366155:=0
def tw13810428838300679156:=0
def tw6938056124921022277:=0
def tw12895915326994792582:=0
def tw12028843266040609315:=0
def tw13459330607948300164:=0
def tw1442691227729818193:=0
def tw7359026393366018605:=0
def tw17464872652118427182:=0
def tw18288256258380899735:=0
def tw16078451208858904345:=0
def tw10301602029907729134:=0
def tw16888886802197359166:=0
def tw429184969776869410:=0
def tw10299709859386599362:=0
def tw2502423414775475645:=0
def tw12348438666719725007:=0
def tw11818488020307373460:=0
def tw13982426155862511622:=0
def tw11383299470699010335:=0
def tw11485490358793721851:=0
def tw15267451332245039653:=0
def tw1049486872201908343:=0
def tw653439417654607339:=0
def tw13695560109913930356:=0
def tw2655572851391061739:=0
def tw9573469674970113851:=0
def tw8597632833180712908:=0
def tw8199749518481618193:=0
def tw6957059449327245765:=0
def tw2212150605490560050:=0
def tw17833298119724614694:=0
def tw16448317607940363876:=0
def tw15814962036327041669:=0
def tw14480468443222822923:=0
def tw14286527633111853682:=0
def tw14232719237725930387:=0
def tw9541800119576764684:=0
def tw5895111313357124947:=0
def tw368225604352062146:=0
def tw17035260706336795604:=0
def tw9771153758612091718:=0
def tw2031709938314058034:=0
def tw1333119606591128503:=0
def tw659044844183876336:=0
def tw16790710100107826784:=0
def tw4804771392109361457:=0
def tw4066141574405448060:=0
def tw2869299312703055884:=0
def tw17654620781014938396:=0
def tw17754276039701287074:=0
def tw8130861795985187644:=0
def tw14350038617333480322:=0
def tw9317046288293206472:=0
def tw6526040141656181701:=0
def tw18413025655980207969:=0
def tw14558996091909230191:=0
def tw6798650448724993173:=0
def tw10038950556437389260:=0
def tw1932430720592212056:=0
def tw16887896399960334866:=0
def tw13820201075042809432:=0
def tw7243618287557645433:=0
def tw18014176388197455128:=0
def tw5197073544409621476:=0
def tw7579875855976346166:=0
def tw5362257330981452717:=0
def tw14903491217693544074:=0
def tw11409796460088563377:=0
def tw7634419723637638433:=0
def tw11128100383838949439:=0
def tw5674261035433463930:=0
def tw15999797393631455003:=0
def tw3788597075673867101:=0
def tw7888045651229386567:=0
def tw135099382931980449:=0
def tw11649548321888753934:=0
def tw10800868549427335477:=0
def tw10508464710636354284:=0
def tw9245726066702864604:=0
def tw9110806595760737147:=0
def tw6023260592792977309:=0
def tw1662803235432178872:=0
def tw12111809369530011555:=0
def tw11453287420817783895:=0
def tw1626201563977246551:=0
def tw18339796687010698515:=0
def tw3345976818145472737:=0
def tw12114767576070213933:=0
def tw18405492663401636828:=0
def tw2832165805189133993:=0
def tw17269592350956296993:=0
def tw10914189578588060530:=0
def tw3740303329048838438:=0
def tw307207868875473138:=0
def tw14799932399673086997:=0
def tw15728305923729624374:=0
def tw5048388464240605427:=0
def tw17971337525189509923:=0
def tw9112346181623672109:=0
def tw6227122951458311368:=0
def tw10364337632825147387:=0
def tw9205966711645977861:=0
def tw5874831118098288093:=0
def tw4593933208074032479:=0
def tw4509129165474924777:=0
def tw10248274330410664129:=0
def tw15737027024241093758:=0
def tw7604232115992308188:=0
def tw6192554352452040165:=0
def tw15978476622059983135:=0
def tw18301423302264047025:=0
def tw8537278264487100542:=0
def tw6830699044347422615:=0
def tw15829152806793563042:=0
def tw5290384133001437780:=0
def tw3390205160494923959:=0
def tw11386269694183020883:=0
def tw10145480605009391304:=0
def tw17176016919931981201:=0
def tw12549647889360117006:=0
def tw13503211714859669732:=0
def tw1163291039302599903:=0
def tw7789273646278525263:=0
def tw15234502866586147452:=0
def tw5003062987631064180:=0
def tw8172739547385490661:=0
def tw17813909803472513883:=0
def tw6994222762309404925:=0
def tw16412231535764125664:=0
def tw9522840188799795090:=0
def tw4466388484027090987:=0
def tw7120299774378480593:=0
def tw7096325630287406004:=0
def tw1888507015900202842:=0
def tw15372705503192455922:=0
def tw11664578981886573390:=0
def tw9341774740056097906:=0
def tw10040588572663556468:=0
def tw1073652477058291670:=0
def tw9807809840866735733:=0
def tw4744404641551235706:=0
def tw1867539155302947793:=0
def tw6978283256041689563:=0
def tw6726730896121150791:=0
def tw17392955494728535989:=0
def tw16471043879889036250:=0
def tw1466573938863497111:=0
def tw14654601714387890073:=0
def tw14221481565476972874:=0
def tw14007277453271969770:=0
def tw13895004580648758063:=0
def tw12319641127067920692:=0
def tw12063538227704099500:=0
def tw12001084140091098307:=0
def tw10748298682751550906:=0
def tw10177456431488628204:=0
def tw7491924273310683178:=0
def tw9484930022569961409:=0
end PySem.W.Fast
open PySem PySem.W PyProof.Rows
set_option maxRecDepth 100000 in
set_option maxHeartbeats 0 in
theorem PySem.Challenge.cw_warnloop_k06_texts_of_no_plan_holds : PySem.Challenge.rw_warnloop_k06_texts_of_no_plan.Holds := by
 w_on;o_law;k_head;(case hw=>w_witness2)
 k_fill
 refine K06.walk (l:=PySem.Challenge.rw_warnloop_k06_texts_of_no_plan) rfl rfl (λw h Y=>PySem.W.kIn_of Y) ?F
 case F=>
  intro w mg fa h KX G hmg
  refine' K06.all_mk KX G hmg (.of ?ai0 ?li0 ?ci0 ?ki0) (.of ?ai1 ?li1 ?ci1 ?ki1) (.of ?ai2 ?li2 ?ci2 ?ki2) (.of ?ai3 ?li3 ?ci3 ?ki3) (.of ?ai4 ?li4 ?ci4 ?ki4) (.of ?ai5 ?li5 ?ci5 ?ki5) (.of ?ai6 ?li6 ?ci6 ?ki6) (.of ?ai7 ?li7 ?ci7 ?ki7) (.of ?ai8 ?li8 ?ci8 ?ki8) (.of ?ai9 ?li9 ?ci9 ?ki9) (.of ?Do ?yO ?Cf ?zU) (.of ?De ?yN ?Cc ?zT) (.of ?Db ?yM ?Cb ?zR) (.of ?Da ?yL ?BY ?zQ) (.of ?C9 ?yK ?BV ?zP) (.of ?C8 ?yJ ?BU ?zO) (.of ?C7 ?yI ?BT ?zN) (.of ?C6 ?yH ?BS ?zM) (.of ?C5 ?yG ?BQ ?zL) (.of ?C4 ?yF ?BO ?zK) (.of ?C3 ?yE ?BN ?zJ) (.of ?C2 ?yD ?BM ?zH) (.of ?C1 ?yC ?BI ?zG) (.of ?C0 ?yx ?BH ?zF) (.of ?CY ?yw ?BG ?zE) (.of ?CU ?yu ?BF ?zB) (.of ?CS ?yt ?BE ?zA) (.of ?CO ?yr ?BD ?zy) (.of ?CM ?yq ?BC ?zu) (.of ?CL ?yp ?BB ?zq) (.of ?CI ?yj ?BA ?zj) (.of ?CH ?yh ?Bz ?yZ) (.of ?CF ?yg ?By ?yX) (.of ?CD ?yd ?Bi ?yW) (.of ?CC ?yc ?Be ?yV) (.of ?CB ?xZ ?A9 ?yU) (.of ?CA ?xY ?A8 ?yS) (.of ?Ct ?xX ?A7 ?yR) (.of ?Cs ?xW ?A6 ?yQ) ?al ?ll ?cl ?kl ?z0 ?z1 ?z2 ?z3 ?z4 ?z5 ?z6 ?z7 ?z8 ?z9 ?z10 ?z11 ?z12 ?z13 ?z14 ?z15 ?z16 ?z17 ?z18 ?z19 ?z20 ?ao ?lo ?lq2 ?aKd ?lKd ?aSL ?aFg ?xzv ?xeh ?xe0 ?xe1 ?xe2 ?xe3 ?xe4 ?xe5 ?xe6 ?xe7 ?xe8 ?xe9 ?iW ?iV ?iU ?xhx ?xha ?xhn ?xhc ?xho ?xhb ?xhk ?lJ ?lR ?lM ?lO ?lK ?lQ ?lN ?kW ?lH ?lG ?lF ?lE ?lD ?lC ?lB ?lA ?lg ?kZ ?bO ?bN ?bM ?kY
  (case ai0 | li0 | ci0 | ki0 | ai1 | li1 | ci1 | ki1 | ai2 | li2 | ci2 | ki2 | ai3 | li3 | ci3 | ki3 | ai4 | li4 | ci4 | ki4 | ai5 | li5 | ci5 | ki5 | ai6 | li6 | ci6 | ki6 | ai7 | li7 | ci7 | ki7 | ai8 | li8 | ci8 | ki8 | ai9 | li9 | ci9 | ki9 | Do | yO | Cf | zU | De | yN | Cc | zT | Db | yM | Cb | zR | Da | yL | BY | zQ | C9 | yK | BV | zP | C8 | yJ | BU | zO | C7 | yI | BT | zN | C6 | yH | BS | zM | C5 | yG | BQ | zL | C4 | yF | BO | zK | C3 | yE | BN | zJ | C2 | yD | BM | zH | C1 | yC | BI | zG | C0 | yx | BH | zF | CY | yw | BG | zE | CU | yu | BF | zB | CS | yt | BE | zA | CO | yr | BD | zy | CM | yq | BC | zu | CL | yp | BB | zq | CI | yj | BA | zj | CH | yh | Bz | yZ | CF | yg | By | yX | CD | yd | Bi | yW | CC | yc | Be | yV | CB | xZ | A9 | yU | CA | xY | A8 | yS | Ct | xX | A7 | yR | Cs | xW | A6 | yQ=>k_is)
  (case al | ll | cl | kl | z0 | z1 | z2 | z3 | z4 | z5 | z6 | z7 | z8 | z9 | z10 | z11 | z12 | z13 | z14 | z15 | z16 | z17 | z18 | z19 | z20 | ao | lo | lq2 | aKd | lKd | aSL | aFg | xzv | xeh | xe0 | xe1 | xe2 | xe3 | xe4 | xe5 | xe6 | xe7 | xe8 | xe9 | iW | iV | iU=>k_is)
  (case xhx=>k_exc)
  (case xha | xhn | xhc | xho | xhb | xhk=>k_is)
  (case lJ=>k_exc)
  (case lR | lM | lO | lK | lQ | lN | kW=>k_is)
  (case lH | lG | lF | lE | lD | lC | lB | lA | lg | kZ | bO | bN | bM | kY=>kit_is)
