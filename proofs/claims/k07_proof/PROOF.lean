import PyProof.Rows.All
import Wide.All
import OpenK.AllK
import Wide.FinOn
import Lean
import PyProof.EqAt
import PyProof.EqKinds
import PyProof.TupleCall
import PySem.Challenge.RW_warnloop_k07_stretches_kept
set_option linter.all false
set_option Elab.async false
set_option maxRecDepth 100000
set_option maxHeartbeats 4000000
local macro_rules|`(tactic|trivial)=>`(tactic|decide +kernel)
open PySem.W (instObj hideAll hideAll_get lookIn plainGet hasDictIn findIn isFn makesIn emptyDict looks_findIn keepIn methodCall_KW kitOne kia_one callWith_K fnOf codeIn nsIn mg_of excIn subIn looks_subIn kat_cons mg_none_of)
abbrev Qaa:=@PyProof.Rows.slot_tupleiter_next
abbrev Qab:=@PyProof.Rows.slot_tuple_getitem
abbrev Qac:=@PySem.F.slot_dict_itemiterator_next
abbrev Qad:=@PySem.F.slot_dict_keyiterator_next
abbrev Qae:=@PyProof.Rows.callWith_type1
abbrev Qaf:=@Array.getElem?_eq_some_iff
abbrev Qag:=@List.nodup_iff_pairwise_ne
abbrev Qah:=@List.getD_eq_getElem?_getD
abbrev Qai:=@List.getElem?_eq_some_iff
abbrev Qaj:=@List.drop_eq_getElem_cons
abbrev Qak:=@List.pairwise_iff_getElem
abbrev Qal:=@List.getElem?_eq_getElem
abbrev Qam:=@PySem.F.slot_list_append
abbrev Qan:=@PySem.F.type_list_append
abbrev Qao:=@PySem.F.slot_list_extend
abbrev Qap:=@PySem.F.type_list_extend
abbrev Qaq:=@PySem.F.plainAttrs_list
abbrev Qar:=@PySem.wpAny_callSpecial?_slot
abbrev Qas:=@PySem.wpAny_getItem_str_slice
abbrev Qat:=@PySem.Heap.get?_push_of_some
abbrev Qau:=@Option.map_eq_some_iff
abbrev Qav:=@PySem.Heap.get?_update_other
abbrev Qaw:=@List.mem_append_right
abbrev Qax:=@PySem.Heap.get?_update_self
abbrev Qay:=@List.length_singleton
abbrev Qaz:=@List.mem_of_getElem?
abbrev QaA:=@List.mem_cons_of_mem
abbrev QaB:=@List.mem_append_left
abbrev QaC:=@List.getElem?_of_mem
abbrev QaD:=@List.replicate_succ'
abbrev QaE:=@PySem.codeAny_call_builtin
abbrev QaF:=@PySem.Heap.get?_push_size
abbrev QaG:=@beq_eq_false_iff_ne
abbrev QaH:=@Array.length_toList
abbrev QaI:=@List.flatMap_append
abbrev QaJ:=@PySem.Heap.SameBut.update
abbrev QaK:=@PySem.mem_of_lookup
abbrev QaL:=@List.replicate_succ
abbrev QaM:=@List.length_append
abbrev QaN:=@List.mem_cons_self
abbrev QaO:=@List.set_cons_zero
abbrev QaP:=@Bool.false_ne_true
abbrev QaQ:=@List.set_cons_succ
abbrev QaR:=@Nat.lt_of_lt_of_le
abbrev QaT:=@List.mem_singleton
abbrev QaU:=@PySem.wpAny_pyIter_tuple
abbrev QaV:=@PySem.wpAny_setField_rec
abbrev QaW:=@decide_eq_true_iff
abbrev QaX:=@Int.emod_lt_of_pos
abbrev QaY:=@PySem.wpAny_Call_Name_kw
abbrev QaZ:=@PySem.tupleKind_room_in1
abbrev Qbb:=@List.size_toArray
abbrev Qbc:=@List.getElem?_map
abbrev Qbd:=@List.append_assoc
abbrev Qbe:=@Int.toNat_natCast
abbrev Qbf:=@PySem.wpAny_newObj_type
abbrev Qbg:=@List.flatMap_cons
abbrev Qbh:=@List.pairwise_map
abbrev Qbi:=@of_decide_eq_true
abbrev Qbj:=@List.length_range
abbrev Qbk:=@PySem.wpAny_truthy_bool
abbrev Qbl:=@PySem.wpAny_pyIter_list
abbrev Qbm:=@PySem.wpAny_loadPart_at
abbrev Qbn:=@List.nodup_append
abbrev Qbo:=@List.take_length
abbrev Qbp:=@List.length_take
abbrev Qbq:=@List.length_cons
abbrev Qbr:=@PySem.wpAny_call_entry
abbrev Qbs:=@List.not_mem_nil
abbrev Qbt:=@List.length_drop
abbrev Qbu:=@Bool.and_eq_true
abbrev Qbv:=@Nat.lt_succ_self
abbrev Qbw:=@List.mem_flatMap
abbrev Qbx:=@List.length_map
abbrev Qby:=@List.map_append
abbrev Qbz:=@List.mem_append
abbrev QbA:=@PySem.PassesOwn.never
abbrev QbB:=@Option.some.inj
abbrev QbC:=@decide_eq_false
abbrev QbD:=@List.append_nil
abbrev QbE:=@List.nodup_cons
abbrev QbG:=@Bool.eq_iff_iff
abbrev QbH:=@List.mem_filter
abbrev QbI:=@Nat.not_lt_zero
abbrev QbK:=@Int.emod_nonneg
abbrev QbL:=@List.find?_cons
abbrev QbM:=@decide_eq_true
abbrev QbN:=@PySem.Heap.size_push
abbrev QbO:=@List.nodup_nil
abbrev QbP:=@PySem.wpAny_seqItems
abbrev QbQ:=@List.mem_range
abbrev QbR:=@PySem.Paired.length
abbrev QbS:=@List.mem_cons
abbrev QbT:=@List.map_cons
abbrev QbV:=@Nat.lt_irrefl
abbrev QbW:=@PySem.wpAny_holding
abbrev QbX:=@PySem.wpAny_attempt
abbrev QbY:=@PySem.wpAny_standAt
abbrev QbZ:=@List.any_cons
abbrev Qca:=@List.mem_map
abbrev Qcb:=@PySem.Heap.lt_size
abbrev Qcc:=@Nat.ne_of_lt
abbrev Qcd:=@Nat.le_trans
abbrev Qce:=@List.map_map
abbrev Qcf:=@Nat.le_of_lt
abbrev Qcg:=@Nat.ne_of_gt
abbrev Qch:=@PySem.codeAny_mono
abbrev Qci:=@Nat.le_refl
abbrev Qcj:=@Nat.zero_le
abbrev Qck:=@PySem.Paired.snoc
abbrev Qcl:=@PySem.wpAny_field
abbrev Qcm:=@PySem.sizeLine_eq
abbrev Qcn:=@PySem.wpAny_bind
abbrev Qco:=@PySem.wpAny_pure
abbrev Qcp:=@PySem.wpAny_mono
abbrev Qcq:=@PyProof.Rows.take_snoc
abbrev Qcr:=@or_false
namespace L2
open PySem PySem.Spec PyProof.Rows
abbrev Key:=Sum Int Str
def QF:Key->Value->Bool
 | .inl k,v=>Value.isInt k v
 | .inr x,v=>Value.isStrOf x v
def CS (w:World):Key->Int
 | .inl k=>hashInt k
 | .inr x=>hashStr w x
theorem Dw:∀{k:Key} {v:Value},QF k v=true->(∃i t,k=Sum.inl i/\v=Value.int i t)\/(∃x t,k=Sum.inr x/\v=Value.str x t)
 | .inl i,v,h=>by
  obtain⟨t,e⟩:=Value.isInt_shape (k:=i) (v:=v) h
  exact .inl ⟨i,t,rfl,e⟩
 | .inr x,v,h=>by
  obtain⟨t,e⟩:=Value.isStrOf_shape (x:=x) (v:=v) h
  exact .inr ⟨x,t,rfl,e⟩
theorem iB (i:Int) (t:Tok):QF (.inl i) (.int i t)=true:=by simp[QF,Value.isInt]
theorem iz (x:Str) (t:Tok):QF (.inr x) (.str x t)=true:=by simp[QF,Value.isStrOf]
theorem wN (a b:Int):decide ((Sum.inl a:Key)=Sum.inl b)=(a == b):=by
 by_cases e:a=b
 ·subst e;simp
 ·have h:¬(Sum.inl a:Key)=Sum.inl b:=λq=>e (Sum.inl.inj q)
  rw[QbC h]
  exact (QaG.mpr e).symm
theorem wK (a b:Str):decide ((Sum.inr a:Key)=Sum.inr b)=decide (a=b):=by
 by_cases e:a=b
 ·subst e;simp
 ·have h:¬(Sum.inr a:Key)=Sum.inr b:=λq=>e (Sum.inr.inj q)
  rw[QbC h,QbC e]
theorem wM (a:Int) (b:Str):decide ((Sum.inl a:Key)=Sum.inr b)=false:=QbC (λq=>nomatch q)
theorem wL (a:Str) (b:Int):decide ((Sum.inr a:Key)=Sum.inl b)=false:=QbC (λq=>nomatch q)
def Bu (prog:Program) (w:World):PySem.KeyKind prog w Key where
 is:=QF
 hash:=CS w
 inj:=λv a b ha hb=>by
  rcases Dw ha with⟨i,t,rfl,rfl⟩|⟨x,t,rfl,rfl⟩
  ·rcases Dw hb with⟨j,u,rfl,e⟩|⟨y,u,rfl,e⟩
   ·injection e with e1 _;rw[e1]
   ·exact nomatch e
  ·rcases Dw hb with⟨j,u,rfl,e⟩|⟨y,u,rfl,e⟩
   ·exact nomatch e
   ·injection e with e1 _;rw[e1]
 byValue:=λk v h=>by
  rcases Dw h with⟨i,t,rfl,rfl⟩|⟨x,t,rfl,rfl⟩ <;> rfl
 pyHash:=λhv h=>by
  rcases Dw hv with⟨i,t,rfl,rfl⟩|⟨x,t,rfl,rfl⟩
  ·exact wpAny_pyHash_int h
  ·exact wpAny_pyHash_str h
 eqBool:=λhu hv h=>by
  rcases Dw hu with⟨i,t,rfl,rfl⟩|⟨x,t,rfl,rfl⟩
  ·rcases Dw hv with⟨j,u,rfl,rfl⟩|⟨y,u,rfl,rfl⟩
   ·rw[wN] at h;exact wpAny_eqBool_int h
   ·rw[wM] at h;exact SeqAt.EqAt.int_str i t y u _ _ _ _ h
  ·rcases Dw hv with⟨j,u,rfl,rfl⟩|⟨y,u,rfl,rfl⟩
   ·rw[wL] at h;exact SeqAt.EqAt.str_int x t j u _ _ _ _ h
   ·rw[wK] at h;exact wpAny_eqBool_str h
 «strs»:=λk x t v h=>by
  rcases Dw h with⟨i,u,rfl,e⟩|⟨y,u,rfl,e⟩
  ·exact nomatch e
  ·injection e with e1 _
   subst e1
   cases v <;> rfl
theorem YW (prog:Program) (w:World) (i:Int) (t:Tok):(Bu prog w).is (.inl i) (.int i t)=true:=iB i t
theorem YT (prog:Program) (w:World) (x:Str) (t:Tok):(Bu prog w).is (.inr x) (.str x t)=true:=iz x t
inductive V where
 | non | bl (b:Bool) | int (i:Int) | str (x:Str) | byt (b:Array UInt8) | flt (b:UInt64) | ref (a:Addr) | ty (n:String)
 deriving DecidableEq
def RelV:V->Value->Prop
 | .non,u=>u=Value.none
 | .bl b,u=>u=Value.bool b
 | .int i,u=>∃t,u=Value.int i t
 | .str x,u=>∃t,u=Value.str x t
 | .byt b,u=>∃t,u=Value.bytes b t
 | .flt b,u=>∃t,u=Value.float b t
 | .ref a,u=>u=Value.ref a
 | .ty n,u=>u=Value.type n
abbrev Vals:List V->List Value->Prop:=Paired RelV
theorem Vals.length {xs:List V} {us:List Value} (r:Vals xs us):xs.length=us.length:=QbR r
theorem Vals.get:∀{xs:List V} {us:List Value} {i:Nat} {x:V},Vals xs us->xs[i]?=some x->∃u,us[i]?=some u/\RelV x u
 | _,_,_,_,.nil,e=>by simp at e
 | _,_,0,_,.cons r _,e=>by simp at e;subst e;exact⟨_,rfl,r⟩
 | _,_,i+1,x,.cons _ t,e=>by
  obtain⟨u,h1,h2⟩:=Vals.get (i:=i) (x:=x) t (by simpa using e)
  exact⟨u,by simpa using h1,h2⟩
theorem Vals.set {x:V} {u:Value} (r:RelV x u):∀{xs:List V} {us:List Value} (i:Nat),Vals xs us->Vals (xs.set i x) (us.set i u)
 | _,_,_,.nil=>.nil
 | _,_,0,.cons _ t=>.cons r t
 | _,_,i+1,.cons q t=>.cons q (Vals.set r i t)
theorem Vals.append:∀{xs ys:List V} {us ws:List Value},Vals xs us->Vals ys ws->Vals (xs++ys) (us++ws)
 | _,_,_,_,.nil,s=>s
 | _,_,_,_,.cons r t,s=>.cons r (Vals.append t s)
theorem Vals.take:∀{xs:List V} {us:List Value} (n:Nat),Vals xs us->Vals (xs.take n) (us.take n)
 | _,_,0,_=>.nil
 | _,_,_+1,.nil=>.nil
 | _,_,n+1,.cons r t=>.cons r (Vals.take n t)
theorem Vals.drop:∀{xs:List V} {us:List Value} (n:Nat),Vals xs us->Vals (xs.drop n) (us.drop n)
 | _,_,0,r=>r
 | _,_,_+1,.nil=>.nil
 | _,_,n+1,.cons _ t=>Vals.drop n t
def Gs:Option V->Option Value->Prop
 | some v,some u=>RelV v u
 | none,none=>True
 | _,_=>False
def KV {κ : Type}:List (κ×V)->List (κ×Value)->Prop:=Paired λ(p:κ×V) (q:κ×Value)=>p.1=q.1/\RelV p.2 q.2
def kV:Key->V
 | .inl i=>.int i
 | .inr x=>.str x
inductive HO where
 | lst (xs:List V)
 | tup (xs:List V)
 | dK (kvs:List (Key×V)) | dT (kvs:List (List Key×V))
 | set (S:Int->Bool) (n:Nat)
 | ins (C dx:Addr) (fs:List (Str×V))
 | own (x:Addr)
 | xd (fs:List (Str×V))
 | met (f x:Addr)
 | rng (lo hi:Int)
 | frz (o:Obj) (u:HO)
 | tbl (ps:Array Value)
 | ext (φ : Heap->Prop)
abbrev Hp:=Addr->Option HO
def upd (H:Hp) (a:Addr) (o:HO):Hp:=λb=>if b=a then some o else H b
theorem Ac {H:Hp} {a:Addr} {o:HO}:upd H a o a=some o:=by unfold upd;rw[if_pos rfl]
theorem Al {H:Hp} {a b:Addr} {o:HO} (h:b≠a):upd H a o b=H b:=by unfold upd;rw[if_neg h]
theorem Qp {H:Hp} {a:Addr} {o u:HO}:upd (upd H a o) a u=upd H a u:=by
 funext b;unfold upd;split <;> rfl
theorem cg {H:Hp} {a b:Addr} {o u:HO} (h:H a=some o) (h':H b=some u) (d:o≠u):a≠b:=by
 intro e;subst e;rw[h] at h';exact d (QbB h')
theorem Av {H:Hp} {a b:Addr} {o:HO} (h:H a=some o) (h':H b=none):a≠b:=by
 intro e;subst e;rw[h] at h';cases h'
section
variable (P:Program) (w:World)
def Bm (H:Hp) (h:Heap) (a:Addr):HO->Prop
 | .lst xs=>xs.length<=sizeLine/\∃(its:List Value) (n:Nat),Vals xs its/\h.get? a=some { cls:=.type "list",data:=.seq its.toArray n }
 | .tup xs=>xs.length<=sizeLine/\∃its:List Value,Vals xs its/\IsTup h a its.toArray
 | .dK kvs=>kvs.length<=sizeLine/\(a == sysModules)=false/\∃vs,KV kvs vs/\h.DictOf (Bu P w) a vs
 | .dT kvs=>kvs.length<=sizeLine/\(a == sysModules)=false/\∃xs:List (List Key×Addr×Value),
   Paired (λ(p:List Key×V) (q:List Key×Addr×Value)=>p.1=q.1/\H q.2.1=some (.tup (p.1.map kV))/\RelV p.2 q.2.2) kvs xs /\
   ∃o es ep,h.get? a=some o/\o.ExactDict/\o.data=.dict es ep/\es.toList=xs.map (entryOfKey (tupleKind (Bu P w)))/\(xs.map (·.1)).Nodup
 | .set S n=>h.SetOf (intKind P w) a S n
 | .ins C dx fs=>H dx=some (.own a)/\fs.length<=1000/\dx≠a/\h.get? a=some (instObj C dx) /\
   ∃mA,h.Ns1 dx mA/\(∀f,Gs (fs.lookup f) (mA f))/\PySem.Within mA (fs.map (·.1))
 | .own _=>∃o,h.get? a=some o
 | .xd fs=>∃mA,h.Ns1 a mA/\∀f,Gs (fs.lookup f) (mA f)
 | .rng lo hi=>∃t u v,h.get? a=some { cls:=.type "range",data:=.fields #[.int lo t,.int hi u,.int 1 v] }
 | .frz o u=>h.get? a=some o/\Bm H h a u
 | .tbl ps=>h.get? a=some { cls:=.none,data:=.fields ps }
 | .met f x=>h.get? a=some (PySem.W.methodObj (.ref f) (.ref x))
 | .ext φ=>φ h/\(∃o,h.get? a=some o)/\∀h1 h2:Heap,φ h1->(∀o,h1.get? a=some o->h2.get? a=some o)->φ h2
def HOk (H:Hp) (h:Heap):Prop:=∀a o,H a=some o->Bm P w H h a o
end
section
variable {P:Program} {w:World} {H H':Hp} {h h':Heap} {a:Addr} {o:HO}
theorem Bm.lt (x:Bm P w H h a o):a < h.objs.size:=by
 cases o with
 | lst xs=>obtain⟨_,_,_,_,e⟩:=x;exact Qcb e
 | tup xs=>obtain⟨_,_,_,p⟩:=x;exact p.lt
 | dK kvs=>obtain⟨_,_,_,_,o,_,_,e,_⟩:=x;exact Qcb e
 | dT kvs=>obtain⟨_,_,_,_,o,_,_,e,_⟩:=x;exact Qcb e
 | set S n=>obtain⟨o,_,_,_,e,_⟩:=x;exact Qcb e
 | ins C dx fs=>obtain⟨_,_,_,e,_⟩:=x;exact Qcb e
 | own y=>obtain⟨_,e⟩:=x;exact Qcb e
 | xd fs=>obtain⟨_,⟨_,_,_,e,_⟩,_⟩:=x;exact Qcb e
 | rng lo hi=>obtain⟨_,_,_,e⟩:=x;exact Qcb e
 | frz ob u=>obtain⟨e,_⟩:=x;exact Qcb e
 | tbl ps=>exact Qcb (show h.get? a=some _ from x)
 | met f y=>exact Qcb (show h.get? a=some _ from x)
 | ext φ=>obtain⟨_,⟨_,e⟩,_⟩:=x;exact Qcb e
theorem Paired.Az {α β : Type} {F G:α->β->Prop}:∀{l₁ : List α} {l₂ : List β},Paired F l₁ l₂->(∀a b,F a b->G a b)->Paired G l₁ l₂
 | _,_,.nil,_=>.nil
 | _,_,.cons r t,f=>.cons (f _ _ r) (Paired.Az t f)
theorem Bm.stay (x:Bm P w H h a o) (k:∀b u,(b=a\/H b=some (.own a))->h.get? b=some u->h'.get? b=some u)
  (ho:∀b,H b=some (.own a)->H' b=some (.own a)) (ht:∀b xs,H b=some (.tup xs)->H' b=some (.tup xs)):Bm P w H' h' a o:=by
 induction o with
 | lst xs=>obtain⟨z,its,n,r,e⟩:=x;exact⟨z,its,n,r,k _ _ (.inl rfl) e⟩
 | tup xs=>obtain⟨z,its,r,ob,e,c⟩:=x;exact⟨z,its,r,ob,k _ _ (.inl rfl) e,c⟩
 | dK kvs=>obtain⟨z,y,vs,r,ob,es,ep,e,c⟩:=x;exact⟨z,y,vs,r,ob,es,ep,k _ _ (.inl rfl) e,c⟩
 | dT kvs=>
  obtain⟨z,y,xs,r,ob,es,ep,e,c⟩:=x
  exact⟨z,y,xs,Paired.Az r λp q z=>⟨z.1,ht _ _ z.2.1,z.2.2⟩,ob,es,ep,k _ _ (.inl rfl) e,c⟩
 | set S n=>obtain⟨ob,es,ep,t,e,c⟩:=x;exact⟨ob,es,ep,t,k _ _ (.inl rfl) e,c⟩
 | ins C dx fs=>
  obtain⟨d,z,ne,e,mA,⟨od,es,ep,e2,c⟩,r⟩:=x
  exact⟨ho _ d,z,ne,k _ _ (.inl rfl) e,mA,⟨od,es,ep,k _ _ (.inr d) e2,c⟩,r⟩
 | own y=>obtain⟨ob,e⟩:=x;exact⟨ob,k _ _ (.inl rfl) e⟩
 | xd fs=>obtain⟨mA,⟨od,es,ep,e,c⟩,r⟩:=x;exact⟨mA,⟨od,es,ep,k _ _ (.inl rfl) e,c⟩,r⟩
 | rng lo hi=>obtain⟨t,u,v,e⟩:=x;exact⟨t,u,v,k _ _ (.inl rfl) e⟩
 | frz ob u ih=>obtain⟨e,q⟩:=x;exact⟨k _ _ (.inl rfl) e,ih q⟩
 | tbl ps=>
  have e:h.get? a=some { cls:=.none,data:=.fields ps }:=x
  show h'.get? a=some { cls:=.none,data:=.fields ps }
  exact k a _ (.inl rfl) e
 | met f y=>
  have e:h.get? a=some (PySem.W.methodObj (.ref f) (.ref y)):=x
  show h'.get? a=some (PySem.W.methodObj (.ref f) (.ref y))
  exact k a _ (.inl rfl) e
 | ext φ=>obtain⟨p,⟨o,e⟩,st⟩:=x;exact⟨st _ _ p λo q=>k _ _ (.inl rfl) q,⟨o,k _ _ (.inl rfl) e⟩,st⟩
theorem HOk.lt (x:HOk P w H h) (e:H a=some o):a < h.objs.size:=(x a o e).lt
theorem HOk.fresh (x:HOk P w H h) (e:h.objs.size<=a):H a=none:=by
 cases q:H a with
 | none=>rfl
 | some u=>exact absurd (QaR (x.lt q) e) (QbV _)
theorem HOk.kept (x:HOk P w H h) (k:∀b u,h.get? b=some u->h'.get? b=some u):HOk P w H h':=λa o e=>
 (x a o e).stay (λb u _ q=>k b u q) (λ_ q=>q) λ_ _ q=>q
theorem HOk.laid (x:HOk P w H h) (k:∀b u,h.get? b=some u->h'.get? b=some u) (hp:h.objs.size<=a) (new:Bm P w (upd H a o) h' a o):HOk P w (upd H a o) h':=λb u e=>by
 have hn:=x.fresh hp
 by_cases hb:b=a
 ·subst hb;rw[Ac] at e;cases e;exact new
 ·rw[Al hb] at e
  exact (x b u e).stay (λc v _ q=>k c v q) (λc q=>by rw[Al (Av q hn)];exact q) λc xs q=>by rw[Al (Av q hn)];exact q
end
def Rd (H:Hp) (a:Addr) (u:HO):Prop:=H a=some u\/∃o,H a=some (.frz o u)
theorem Rd.ok {P:Program} {w:World} {H:Hp} {h:Heap} {a:Addr} {u:HO} (r:Rd H a u) (x:HOk P w H h):Bm P w H h a u:=by
 rcases r with r |⟨o,r⟩
 ·exact x a u r
 ·obtain⟨_,q⟩:=x a _ r
  exact q
def Mut:Option HO->Prop
 | some (.lst _)=>True
 | some (.dK _)=>True
 | some (.dT _)=>True
 | some (.set _ _)=>True
 | some (.ins _ _ _)=>True
 | some (.ext _)=>True
 | _=>False
section
variable {P:Program} {w:World} {H:Hp} {h h':Heap} {x e:Addr} {o':HO}
theorem HOk.write (ok:HOk P w H h) (mu:Mut (H x)) (he:e=x\/H e=some (.own x)) (k:∀b u,b≠e->h.get? b=some u->h'.get? b=some u) (heo:∃u,h'.get? e=some u)
  (new:Bm P w (upd H x o') h' x o'):HOk P w (upd H x o') h':=λb u q=>by
 have wu:∀c y,H c=some (.own y)->c≠x:=λc y r z=>by subst z;rw[r] at mu;exact mu
 have Ew:∀c xs,H c=some (.tup xs)->c≠x:=λc xs r z=>by subst z;rw[r] at mu;exact mu
 by_cases hb:b=x
 ·subst hb;rw[Ac] at q;cases q;exact new
 ·rw[Al hb] at q
  by_cases hbe:b=e
  ·have q':H b=some (.own x):=by
    rcases he with z | z
    ·exact absurd (hbe.trans z) hb
    ·rw[hbe];exact z
   rw[q] at q';cases q'
   obtain⟨v,hv⟩:=heo
   exact⟨v,by rw[hbe];exact hv⟩
  ·refine (ok b u q).stay (λc v hc r=>k c v ?_ r) (λc r=>by rw[Al (wu c b r)];exact r) λc xs r=>by rw[Al (Ew c xs r)];exact r
   rcases hc with rfl | hc
   ·exact hbe
   ·rintro rfl
    rcases he with z | z
    ·exact wu c b hc z
    ·rw[hc] at z;cases z;exact hb rfl
end
structure Un (fs ex:List Addr) (H H':Hp) (h h':Heap):Prop where
 keep:∀b o,h.get? b=some o->H b=none->b∉fs->b∉ex->h'.get? b=some o
 slot:∀b o,h.get? b=some o->H b=none->b∈fs->b∉ex->∃sl,h'.get? b=some { o with slots:=sl }
 free:∀b o,h.get? b=some o->H b=none->b∉ex->H' b=none
 there:∀b o,h.get? b=some o->b∉ex->∃o',h'.get? b=some o'
 tups:∀b xs,H b=some (.tup xs)->H' b=some (.tup xs)
 Gq:∀b o u,H b=some (.frz o u)->H' b=some (.frz o u)
 G8:∀b ps,H b=some (.tbl ps)->∃more,H' b=some (.tbl (ps++more))
section
variable {fs fs' ex ex':List Addr} {H H1 H2:Hp} {h h1 h2 h':Heap} {a x e:Addr} {o:HO}
theorem Un.any (u:Un fs ex H H1 h h1) {b:Addr} {ob:Obj} (q:h.get? b=some ob) (n:H b=none) (hx:b∉ex):∃sl,h1.get? b=some { ob with slots:=sl }:=by
 by_cases hb:b∈fs
 ·exact u.slot b ob q n hb hx
 ·exact⟨ob.slots,u.keep b ob q n hb hx⟩
theorem Un.kept (k:∀b u,h.get? b=some u->h'.get? b=some u):Un fs ex H H h h':=
 ⟨λb ob q _ _ _=>k b ob q,λb ob q _ _ _=>⟨ob.slots,k b ob q⟩,λ_ _ _ n _=>n,λb ob q _=>⟨ob,k b ob q⟩,λ_ _ q=>q,λ_ _ _ q=>q,λ_ ps q=>⟨#[],by rw[q];simp⟩⟩
theorem Un.refl:Un fs ex H H h h:=Un.kept λ_ _ q=>q
theorem Un.laid (k:∀b u,h.get? b=some u->h'.get? b=some u) (hp:h.objs.size<=a) (hn:H a=none):Un fs ex H (upd H a o) h h' where
 keep:=λb u q _ _ _=>k b u q
 slot:=λb u q _ _ _=>⟨u.slots,k b u q⟩
 free:=λb u q n _=>by rw[Al (Qcc (QaR (Qcb q) hp))];exact n
 there:=λb u q _=>⟨u,k b u q⟩
 tups:=λb xs q=>by rw[Al (Av q hn)];exact q
 Gq:=λb u xs q=>by rw[Al (Av q hn)];exact q
 G8:=λb ps q=>⟨#[],by rw[Al (Av q hn),q];simp⟩
theorem Un.write (mu:Mut (H x)) (he:e=x\/H e=some (.own x)) (k:∀b u,b≠e->h.get? b=some u->h'.get? b=some u) (heo:∃u,h'.get? e=some u):Un fs ex H (upd H x o) h h':=by
 have hx:∀b,H b=none->b≠x:=λb n z=>by subst z;rw[n] at mu;exact mu
 have hb:∀b,H b=none->b≠e:=λb n z=>by
  subst z
  rcases he with r | r
  ·exact hx b n r
  ·rw[n] at r;cases r
 have hm:∀b u,H b=some u->¬Mut (some u)->b≠x:=λb u q nm z=>by subst z;rw[q] at mu;exact nm mu
 refine⟨λb u q n _ _=>k b u (hb b n) q,λb u q n _ _=>⟨u.slots,k b u (hb b n) q⟩,λb u q n _=>by rw[Al (hx b n)];exact n,λb u q _=>?_,
  λb xs q=>by rw[Al (hm b _ q λz=>z)];exact q,λb u xs q=>by rw[Al (hm b _ q λz=>z)];exact q,λb ps q=>⟨#[],by rw[Al (hm b _ q λz=>z),q];simp⟩⟩
 by_cases hbe:b=e
 ·subst hbe;exact heo
 ·exact⟨u,k b u hbe q⟩
end
def trk (h:Heap) (H:Hp):List Addr:=(List.range h.objs.size).filter λa=>(H a).isSome
def Oj (h:Heap) (H:Hp):Heap:=hideAll h (trk h H)
theorem iK (h:Heap) (H:Hp):(Oj h H).objs.size=h.objs.size:=PySem.W.hideAll_size _ _
theorem pC {h:Heap} {H:Hp} {b:Addr} {o:Obj} (e:h.get? b=some o) (n:H b=none):(Oj h H).get? b=some o:=
 hideAll_get _ e λhm=>by
  have q:(H b).isSome=true:=(QbH.mp hm).2
  rw[n] at q;simp at q
theorem sO {h:Heap} {H:Hp} {b:Addr} {o:Obj} (e:(Oj h H).get? b=some o):h.get? b=some o/\H b=none:=by
 have e':h.get? b=some o:=PySem.W.of_hideAll (trk h H) e
 refine⟨e',?_⟩
 cases q:H b with
 | none=>rfl
 | some x=>
  have hm:b∈trk h H:=QbH.mpr ⟨QbQ.mpr (Qcb e'),by simp[q]⟩
  have z:(Oj h H).get? b=none:=PySem.W.hideAll_none (trk h H) hm
  rw[z] at e;cases e
def QS (g h:Heap) (L:Addr):List (Addr×Obj):=(List.range h.objs.size).filterMap λa=>if a=L\/(g.get? a).isSome=true then none else (h.get? a).map λo=>(a,o)
theorem M8 {g h:Heap} {L a:Addr} {o:Obj} (h1:a≠L) (h2:g.get? a=none) (h3:h.get? a=some o):(a,o)∈QS g h L:=
 List.mem_filterMap.mpr ⟨a,QbQ.mpr (Qcb h3),by simp[h1,h2,h3]⟩
theorem Um {g h:Heap} {L:Addr} {p:Addr×Obj} (hp:p∈QS g h L):p.1≠L/\g.get? p.1=none/\h.get? p.1=some p.2:=by
 obtain⟨b,_,e⟩:=List.mem_filterMap.mp hp
 split at e
 ·cases e
 ·rename_i hn
  cases q:h.get? b with
  | none=>rw[q] at e;simp at e
  | some u=>
   rw[q] at e
   simp only[Option.map_some,Option.some.injEq] at e
   subst e
   refine⟨λz=>hn (.inl z),?_,q⟩
   show g.get? b=none
   cases r:g.get? b with
   | none=>rfl
   | some v=>exact (hn (.inr (by simp[r]))).elim
def rest (g h:Heap) (L d:Addr):List (Addr×Obj):=(QS g h L).filter λp=>decide (p.1≠d)
theorem mJ {g h:Heap} {L:Addr}:News g L h (QS g h L):=λp hp=>let ⟨a,b,c⟩:=Um hp;⟨c,a,b⟩
structure Mod (K:PySem.W.Frag) (mg:Str->Option Value) (base:Heap):Prop where
 kin:K.In base
 glob:base.Ns mainGlobals mg
 blt:∃mb,base.Ns builtinsNs mb/\∀x:Str,x≠"__name__"->mb x=bootBuiltins x
 nolimit:base.NoLimit
structure Cx where
 prog:Program
 w:World
 K:PySem.W.Frag
 mg:Str->Option Value
 base:Heap
 A:Around
 N:List Str
 s₀ : Shared
 H₀ : Hp
 env:Env
 outer:List Env
 stack:List Env
 ex:List Addr
 fn:Str->Bool
 calm:Bool
 pn:List (Addr×Obj)
 xe:Value->Shared->Prop
def frs (l:List Env):List Addr:=l.filterMap (·.frame)
abbrev Cx.fs (X:Cx):List Addr:=frs X.outer
def Vis (sc:Scope) (x:Str):Prop:=sc.names.lookup x=some .local\/sc.names.lookup x=some .cell\/sc.names.lookup x=some .free
def Loc (sc:Scope) (x:Str):Prop:=sc.names.lookup x=some .local\/sc.names.lookup x=some .cell
def Look (env:Env) (h:Heap) (m:Str->Option Value) (x:Str) (u:Value):Prop:=
 (env.kindOf x=some .local/\m x=some u)\/((env.kindOf x=some .cell\/env.kindOf x=some .free)/\∃c,env.cells.lookup x=some c/\h.IsCell c (some u))
structure Cx.Ok (X:Cx):Prop where
 mod:Mod X.K X.mg X.base
 kind:X.env.scope.kind=.function
 glob:X.env.globals=mainGlobals
 blt:X.env.builtins=builtinsNs
 above:X.s₀.heap.objs.size<=X.env.locals
 inj:∀x y c,X.env.cells.lookup x=some c->X.env.cells.lookup y=some c->x=y
 has:∀x,(X.env.kindOf x=some .cell\/X.env.kindOf x=some .free)->∃c,X.env.cells.lookup x=some c
 cab:∀x c,X.fn x=true->X.env.cells.lookup x=some c->X.s₀.heap.objs.size<=c
 hd:X.calm=true->X.A.handled=none
 frames:X.A.frames=some X.stack
 stk:X.stack=X.outer\/(X.stack=X.env::X.outer/\X.env.frame=some X.env.locals)
 exf:∀b∈X.ex,b≠X.env.locals/\∀x c,X.env.cells.lookup x=some c->c≠b
 bs:∀b o,X.base.get? b=some o->X.s₀.heap.get? b=some o/\X.H₀ b=none
 bsz:X.base.objs.size<=X.s₀.heap.objs.size
 Ly:∀b o,X.base.get? b=some o->b∉X.ex
 Jz:∀b∈X.ex,b∉X.fs
 FT:X.s₀.heap.FunFrames X.base X.outer
 frf:∀b∈X.fs,X.H₀ b=none
structure Inv (X:Cx) (pins:List (Addr×Obj)) (σ : List (Option V)) (H:Hp) (s:Shared):Prop where
 ok:X.Ok
 os:s.os=X.s₀.os
 bare:AllBare s.gens
 base:Un X.fs X.ex X.H₀ H X.s₀.heap s.heap
 loc:∃m,s.heap.Ns X.env.locals m/\∀(i:Nat) (x:Str) (v:V),X.N[i]?=some x->σ[i]?=some (some v)->Vis X.env.scope x->∃u,RelV v u/\Look X.env s.heap m x u
 cell:∀x c,X.env.cells.lookup x=some c->∃v,s.heap.IsCell c v
 free:H X.env.locals=none
 Ea:∀x c,X.env.cells.lookup x=some c->H c=none
 pin:∀p∈X.pn++pins,s.heap.get? p.1=some p.2/\H p.1=none/\p.1≠X.env.locals/\p.1∉X.fs/\∀v,p.2.data≠.cell v
 hok:HOk X.prog X.w H s.heap
 len:σ.length=X.N.length
section
variable {X:Cx} {pins:List (Addr×Obj)} {σ : List (Option V)} {H H':Hp} {s:Shared} {h':Heap}
theorem Cx.Ok.AX (ok:X.Ok) {b:Addr} {o:Obj} (e:X.base.get? b=some o):b∉X.fs:=λhb=>by
 have:=(ok.FT.mem hb).1
 rw[e] at this;cases this
theorem Inv.bs (I:Inv X pins σ H s):∀b o,X.base.get? b=some o->s.heap.get? b=some o/\H b=none:=λb o e=>
 ⟨I.base.keep b o (I.ok.bs b o e).1 (I.ok.bs b o e).2 (I.ok.AX e) (I.ok.Ly b o e),I.base.free b o (I.ok.bs b o e).1 (I.ok.bs b o e).2 (I.ok.Ly b o e)⟩
theorem Inv.bk (I:Inv X pins σ H s):∀b o,X.base.get? b=some o->s.heap.get? b=some o:=λb o e=>(I.bs b o e).1
theorem Inv.mod (I:Inv X pins σ H s):Mod X.K X.mg X.base:=I.ok.mod
theorem Inv.kIn (I:Inv X pins σ H s):X.K.In s.heap:=I.ok.mod.kin.keeps I.bk
theorem Inv.nolimit (I:Inv X pins σ H s):s.heap.NoLimit:=I.ok.mod.nolimit.keeps I.bk
theorem Inv.fr (I:Inv X pins σ H s):∃m,Fr X.base X.env.locals s.heap m:=
 let ⟨m,hn,_⟩:=I.loc
 ⟨m,hn,I.bk,Qcd I.ok.bsz I.ok.above⟩
theorem Inv.lt (I:Inv X pins σ H s):X.env.locals < s.heap.objs.size:=let ⟨_,hn,_⟩:=I.loc;hn.lt
theorem Inv.sz (I:Inv X pins σ H s):X.s₀.heap.objs.size<=s.heap.objs.size:=Qcd I.ok.above (Qcf I.lt)
theorem Inv.mF (I:Inv X pins σ H s) {a:Addr} (h:s.heap.objs.size<=a):a∉X.fs:=λhb=>by
 obtain⟨_,o,ho,_⟩:=I.ok.FT.mem hb
 exact absurd (QaR (Qcb ho) (Qcd I.sz h)) (QbV _)
theorem Inv.cne (I:Inv X pins σ H s):∀x c,X.env.cells.lookup x=some c->c≠X.env.locals:=λx c e z=>by
 obtain⟨v,o,ho,hd⟩:=I.cell x c e
 obtain⟨m,⟨o',es,ep,ho',hd',_⟩,_⟩:=I.loc
 rw[z,ho'] at ho;cases ho;rw[hd'] at hd;cases hd
theorem Inv.FT (I:Inv X pins σ H s):s.heap.FunFrames X.base X.outer:=by
 have all:∀(l:List Env),(∀b∈frs l,b∈X.fs)->X.s₀.heap.FunFrames X.base l->s.heap.FunFrames X.base l:=by
  intro l
  induction l with
  | nil=>intro _ _;trivial
  | cons env r ih=>
   intro hs hl
   obtain⟨hk,⟨L,o,hf,hn,ho,hd⟩,hr⟩:=hl
   have hL:L∈X.fs:=hs L (by unfold frs;rw[List.filterMap_cons,hf];exact QaN)
   obtain⟨sl,e⟩:=I.base.slot L o ho (I.ok.frf L hL) hL λz=>I.ok.Jz L z hL
   exact⟨hk,⟨L,_,hf,hn,e,hd⟩,ih (λb hb=>hs b (by unfold frs;rw[List.filterMap_cons,hf];exact QaA _ hb)) hr⟩
 exact all X.outer (λ_ hb=>hb) I.ok.FT
theorem Inv.stack (I:Inv X pins σ H s):s.heap.FunFrames X.base X.stack:=by
 rcases I.ok.stk with e |⟨e,hf⟩
 ·rw[e];exact I.FT
 ·rw[e]
  obtain⟨m,hn,_⟩:=I.loc
  refine .cons (by rw[I.ok.kind];decide) hf hn ?_ I.FT
  exact Heap.get?_none_of_le (Qcd I.ok.bsz I.ok.above)
theorem Inv.Ss (I:Inv X pins σ H s):∀b∈frs X.stack,b∈X.env.locals::X.fs:=λb hb=>by
 rcases I.ok.stk with e |⟨e,hf⟩
 ·rw[e] at hb;exact QaA _ hb
 ·rw[e] at hb
  unfold frs at hb
  rw[List.filterMap_cons,hf] at hb
  exact hb
theorem Inv.T7 (I:Inv X pins σ H s):∀b∈frs X.stack,H b=none:=λb hb=>by
 rcases QbS.mp (I.Ss b hb) with e | hb
 ·rw[e];exact I.free
 ·obtain⟨_,o,ho,_⟩:=I.ok.FT.mem hb
  exact I.base.free b o ho (I.ok.frf b hb) λz=>I.ok.Jz b z hb
theorem Inv.step {g':Array GenState} {t':Nat} {d':Drawn} {ch:List Addr} (I:Inv X pins σ H s)
  (hch:∀b∈ch,(b∈X.ex\/X.s₀.heap.objs.size<=b)/\b≠X.env.locals/\(∀x c,X.env.cells.lookup x=some c->c≠b)/\∀p∈X.pn++pins,p.1≠b)
  (keep:∀b o,b≠X.env.locals->b∉X.fs->b∉ch->s.heap.get? b=some o->H b=none->h'.get? b=some o)
  (slot:∀b o,b≠X.env.locals->b∈X.fs->b∉ch->s.heap.get? b=some o->H b=none->∃sl,h'.get? b=some { o with slots:=sl }) (free:∀b o,b∉ch->s.heap.get? b=some o->H b=none->H' b=none)
  (there:∀b o,b∉ch->s.heap.get? b=some o->∃o',h'.get? b=some o')
  (tups:∀b xs,H b=some (.tup xs)->H' b=some (.tup xs)) (Gq:∀b o u,H b=some (.frz o u)->H' b=some (.frz o u)) (G8:∀b ps,H b=some (.tbl ps)->∃more,H' b=some (.tbl (ps++more)))
  (ns:∀m,s.heap.Ns X.env.locals m->h'.Ns X.env.locals m) (hok:HOk X.prog X.w H' h') (hg:AllBare g') :
  Inv X pins σ H' { s with heap:=h',gens:=g',drawn:=d',toks:=t' }:=by
 have neL:∀b o,X.s₀.heap.get? b=some o->b≠X.env.locals:=λb o e=>Qcc (QaR (Qcb e) I.ok.above)
 have neC:∀b o,X.s₀.heap.get? b=some o->b∉X.ex->b∉ch:=λb o e hx hb=>by
  rcases (hch b hb).1 with z | z
  ·exact hx z
  ·exact absurd (QaR (Qcb e) z) (QbV _)
 have cellK:∀x c,X.env.cells.lookup x=some c->∀v,s.heap.IsCell c v->h'.IsCell c v:=λx c e v ⟨o,ho,hd⟩=>by
  have nch:c∉ch:=λz=>(hch c z).2.2.1 x c e rfl
  by_cases hc:c∈X.fs
  ·obtain⟨sl,q⟩:=slot c o (I.cne x c e) hc nch ho (I.Ea x c e)
   exact⟨_,q,hd⟩
  ·exact⟨o,keep c o (I.cne x c e) hc nch ho (I.Ea x c e),hd⟩
 refine⟨I.ok,I.os,hg,⟨λb o e n hb hx=>?_,λb o e n hb hx=>?_,λb o e n hx=>?_,λb o e hx=>?_,λb xs e=>tups b xs (I.base.tups b xs e),λb o xs e=>Gq b o xs (I.base.Gq b o xs e),λb ps e=>?_⟩,?_,λx c e=>?_,?_,λx c e=>?_,λp hp=>?_,hok,I.len⟩
 ·exact keep b o (neL b o e) hb (neC b o e hx) (I.base.keep b o e n hb hx) (I.base.free b o e n hx)
 ·obtain⟨sl,e1⟩:=I.base.slot b o e n hb hx
  obtain⟨sl',e2⟩:=slot b _ (neL b o e) hb (neC b o e hx) e1 (I.base.free b o e n hx)
  exact⟨sl',e2⟩
 ·obtain⟨o',e1⟩:=I.base.there b o e hx
  exact free b o' (neC b o e hx) e1 (I.base.free b o e n hx)
 ·obtain⟨o',e1⟩:=I.base.there b o e hx
  exact there b o' (neC b o e hx) e1
 ·obtain⟨m1,e1⟩:=I.base.G8 b ps e
  obtain⟨m2,e2⟩:=G8 b _ e1
  exact⟨m1++m2,by rw[e2,Array.append_assoc]⟩
 ·obtain⟨m,hn,hl⟩:=I.loc
  refine⟨m,ns m hn,λi x v e1 e2 e3=>?_⟩
  obtain⟨u,r,l⟩:=hl i x v e1 e2 e3
  refine⟨u,r,?_⟩
  rcases l with l |⟨k,c,e,z⟩
  ·exact .inl l
  ·exact .inr ⟨k,c,e,cellK x c e _ z⟩
 ·obtain⟨v,z⟩:=I.cell x c e
  exact⟨v,cellK x c e v z⟩
 ·obtain⟨m,⟨o,_,_,ho,_⟩,_⟩:=I.loc
  exact free _ o (λz=>(hch _ z).2.1 rfl) ho I.free
 ·obtain⟨v,o,ho,hd⟩:=I.cell x c e
  exact free c o (λz=>(hch c z).2.2.1 x c e rfl) ho (I.Ea x c e)
 ·obtain⟨e,n,ne,nf,d⟩:=I.pin p hp
  have nch:p.1∉ch:=λz=>(hch p.1 z).2.2.2 p hp rfl
  exact⟨keep p.1 p.2 ne nf nch e n,free p.1 p.2 nch e n,ne,nf,d⟩
theorem Inv.un {t':Nat} (I:Inv X pins σ H s) (u:Un X.fs [] H H' s.heap h') (hok:HOk X.prog X.w H' h'):Inv X pins σ H' { s with heap:=h',toks:=t' }:=by
 obtain⟨m,⟨o,es,ep,ho,r⟩,_⟩:=id I.loc
 obtain⟨sl,hL⟩:=u.any ho I.free (by simp)
 exact I.step (g':=s.gens) (d':=s.drawn) (ch:=[]) (λ_ z=>nomatch z) (λb o _ hb _ e n=>u.keep b o e n hb (by simp)) (λb o _ hb _ e n=>u.slot b o e n hb (by simp)) (λb o _ e n=>u.free b o e n (by simp)) (λb o _ e=>u.there b o e (by simp)) u.tups u.Gq u.G8 (λm' hm=>by
  obtain⟨o',es',ep',ho',r'⟩:=hm
  rw[ho] at ho';cases ho'
  exact⟨_,es',ep',hL,r'⟩) hok I.bare
theorem Inv.call {g':Array GenState} {t':Nat} {d':Drawn} {ch:List Addr} (I:Inv X pins σ H s) (u:Un (frs X.stack) ch H H' s.heap h') (hok:HOk X.prog X.w H' h') (hg:AllBare g')
  (hch:∀b∈ch,(b∈X.ex\/X.s₀.heap.objs.size<=b)/\b≠X.env.locals/\(∀x c,X.env.cells.lookup x=some c->c≠b)/\∀p∈X.pn++pins,p.1≠b) :
  Inv X pins σ H' { s with heap:=h',gens:=g',drawn:=d',toks:=t' }:=by
 obtain⟨m,⟨o,es,ep,ho,r⟩,_⟩:=id I.loc
 obtain⟨sl,hL⟩:=u.any ho I.free λz=>(hch _ z).2.1 rfl
 exact I.step (ch:=ch) hch (λb o hL hb hc e n=>u.keep b o e n (λz=>(QbS.mp (I.Ss b z)).elim hL hb) hc) (λb o _ _ hc e n=>u.any e n hc) (λb o hc e n=>u.free b o e n hc) (λb o hc e=>u.there b o e hc) u.tups u.Gq u.G8 (λm' hm=>by
  obtain⟨o',es',ep',ho',r'⟩:=hm
  rw[ho] at ho';cases ho'
  exact⟨_,es',ep',hL,r'⟩) hok hg
theorem Inv.turned {t':Nat} {it:Addr} (I:Inv X pins σ H s) (k:∀b o,b≠it->s.heap.get? b=some o->h'.get? b=some o) (hn:H it=none) (hL:it≠X.env.locals)
  (h1:it∈X.ex\/X.s₀.heap.objs.size<=it) (h2:∀x c,X.env.cells.lookup x=some c->c≠it) (h3:∀p∈X.pn++pins,p.1≠it):Inv X pins σ H { s with heap:=h',toks:=t' }:=by
 have nit:∀b u,H b=some u->b≠it:=λb u e z=>by rw[z,hn] at e;cases e
 refine I.step (g':=s.gens) (d':=s.drawn) (ch:=[it]) (λb hb=>?_) (λb o _ _ hc e _=>k b o (λz=>hc (by simp[z])) e) (λb o _ _ hc e _=>⟨o.slots,k b o (λz=>hc (by simp[z])) e⟩) (λ_ _ _ _ n=>n)
  (λb o hc e=>⟨o,k b o (λz=>hc (by simp[z])) e⟩) (λ_ _ e=>e) (λ_ _ _ e=>e) (λb ps e=>⟨#[],by rw[e];simp⟩) (λm hm=>?_) (λb u e=>?_) I.bare
 ·have e:b=it:=by simpa using hb
  subst e
  exact⟨h1,hL,h2,h3⟩
 ·obtain⟨o,es,ep,ho,r⟩:=hm
  exact⟨o,es,ep,k _ o (Ne.symm hL) ho,r⟩
 ·refine (I.hok b u e).stay (λc v hc q=>k c v ?_ q) (λ_ q=>q) λ_ _ q=>q
  rcases hc with z | z
  ·rw[z];exact nit b u e
  ·exact nit c _ z
theorem Inv.tok (I:Inv X pins σ H s) (t:Nat):Inv X pins σ H { s with toks:=t }:=I.un (h':=s.heap) (t':=t) Un.refl I.hok
theorem Inv.kept {t':Nat} (I:Inv X pins σ H s) (k:∀b u,s.heap.get? b=some u->h'.get? b=some u):Inv X pins σ H { s with heap:=h',toks:=t' }:=I.un (Un.kept k) (I.hok.kept k)
theorem Inv.laid {a:Addr} {o:HO} {t':Nat} (I:Inv X pins σ H s) (k:∀b u,s.heap.get? b=some u->h'.get? b=some u) (hp:s.heap.objs.size<=a) (new:Bm X.prog X.w (upd H a o) h' a o) :
  Inv X pins σ (upd H a o) { s with heap:=h',toks:=t' }:=I.un (Un.laid k hp (I.hok.fresh hp)) (I.hok.laid k hp new)
theorem Inv.write {x e:Addr} {o:HO} {t':Nat} (I:Inv X pins σ H s) (mu:Mut (H x)) (he:e=x\/H e=some (.own x)) (k:∀b u,b≠e->s.heap.get? b=some u->h'.get? b=some u) (heo:∃u,h'.get? e=some u)
  (new:Bm X.prog X.w (upd H x o) h' x o):Inv X pins σ (upd H x o) { s with heap:=h',toks:=t' }:=I.un (Un.write mu he k heo) (I.hok.write mu he k heo new)
theorem Inv.QD {Gw:List (Addr×Obj)} (I:Inv X pins σ H s) (h:∀p∈Gw,s.heap.get? p.1=some p.2/\H p.1=none/\p.1≠X.env.locals/\p.1∉X.fs/\∀v,p.2.data≠.cell v):Inv X Gw σ H s:=
 ⟨I.ok,I.os,I.bare,I.base,I.loc,I.cell,I.free,I.Ea,λp hp=>(Qbz.mp hp).elim (λz=>I.pin p (QaB _ z)) (h p),I.hok,I.len⟩
theorem RG {N:List Str} (hN:N.Nodup) {i j:Nat} {x:Str} (a:N[i]?=some x) (b:N[j]?=some x):i=j:=by
 obtain⟨h1,e1⟩:=Qai.mp a
 obtain⟨h2,e2⟩:=Qai.mp b
 exact (List.getElem_inj hN).mp (e1.trans e2.symm)
theorem eZ {M:Model} {A:Around} {E:Value->Shared->Prop} {i:Nat} {x:Str} {v:V} {u:Value} {Q:Unit->Shared->Prop} (I:Inv X pins σ H s) (hN:X.N.Nodup) (hi:X.N[i]?=some x) (hx:Loc X.env.scope x) (r:RelV v u)
  (h:∀s',Inv X pins (σ.set i (some v)) H s'->(∃a,Heap.SameBut a s.heap s'.heap/\(a=X.env.locals\/X.env.cells.lookup x=some a))->Q () s') (hf:X.fn x=true\/X.env.scope.names.lookup x=some .local:=by first | exact .inl rfl | exact .inr rfl | assumption):wpAny M A (storeName X.env x u) Q E s:=by
 obtain⟨m,hn,hl⟩:=id I.loc
 have hcls:(X.env.scope.kind == .class || (X.env.scope.kind == .module&&X.env.locals != X.env.globals))=false:=by rw[I.ok.kind];rfl
 have hiσ : i < σ.length:=by rw[I.len];exact (Qai.mp hi).1
 have cne:=I.cne
 have tracked:∀{a:Addr} {h':Heap},(∃o,s.heap.get? a=some o/\H a=none)->Heap.SameBut a s.heap h'->HOk X.prog X.w H h':=λ{a h'} ha hs b ob e=>by
  obtain⟨_,_,hfree⟩:=ha
  refine (I.hok b ob e).stay (λc w' hc q=>(hs.2 c ?_).trans q) (λ_ q=>q) λ_ _ q=>q
  rintro rfl
  rcases hc with rfl | hc
  ·rw[hfree] at e;cases e
  ·rw[hfree] at hc;cases hc
 rcases hx with hk | hk
 ·refine wpAny_storeName_local hk hn (λh' hn' hs=>?_) hcls
  obtain⟨oL,_,_,hoL,_⟩:=id hn
  refine h _ ⟨I.ok,I.os,I.bare,⟨λb o e n hb hx=>?_,λb o e n hb hx=>?_,I.base.free,λb o e hx=>?_,I.base.tups,I.base.Gq,I.base.G8⟩,⟨_,hn',λj y v' e1 e2 e3=>?_⟩,λy c e=>?_,I.free,I.Ea,λp hp=>?_,tracked ⟨oL,hoL,I.free⟩ hs,by simpa using I.len⟩ ⟨_,hs,.inl rfl⟩
  ·exact (hs.2 b (Qcc (QaR (Qcb e) I.ok.above))).trans (I.base.keep b o e n hb hx)
  ·obtain⟨sl,e1⟩:=I.base.slot b o e n hb hx
   exact⟨sl,(hs.2 b (Qcc (QaR (Qcb e) I.ok.above))).trans e1⟩
  ·obtain⟨o',e1⟩:=I.base.there b o e hx
   exact⟨o',(hs.2 b (Qcc (QaR (Qcb e) I.ok.above))).trans e1⟩
  ·by_cases hj:j=i
   ·subst hj
    rw[hi] at e1;cases e1
    rw[List.getElem?_set_self hiσ] at e2
    cases e2
    exact⟨u,r,.inl ⟨hk,by simp⟩⟩
   ·rw[List.getElem?_set_ne (Ne.symm hj)] at e2
    obtain⟨u',r',q⟩:=hl j y v' e1 e2 e3
    refine⟨u',r',?_⟩
    rcases q with⟨k,e⟩|⟨k,c,e,z⟩
    ·refine .inl ⟨k,?_⟩
     have:y≠x:=λe=>hj (RG hN e1 (e ▸ hi))
     simp[this,e]
    ·exact .inr ⟨k,c,e,z.sameBut hs (cne y c e)⟩
  ·obtain⟨w',z⟩:=I.cell y c e
   exact⟨w',z.sameBut hs (cne y c e)⟩
  ·obtain⟨e,n,ne,nf,d⟩:=I.pin p hp
   exact⟨(hs.2 p.1 ne).trans e,n,ne,nf,d⟩
 ·have hfn:X.fn x=true:=by
   rcases hf with z | z
   ·exact z
   ·rw[z] at hk;cases hk
  obtain⟨c,hc⟩:=I.ok.has x (.inl hk)
  obtain⟨w',z⟩:=I.cell x c hc
  refine wpAny_storeName_cell I.ok.kind hk hc z (λh' hc' hs=>?_)
  obtain⟨oc,hoc,Da⟩:=id z
  refine h { s with heap:=h' } ⟨I.ok,I.os,I.bare,⟨λb o e n hb hx=>?_,λb o e n hb hx=>?_,I.base.free,λb o e hx=>?_,I.base.tups,I.base.Gq,I.base.G8⟩,⟨m,hn.sameBut hs (Ne.symm (cne x c hc)),λj y v' e1 e2 e3=>?_⟩,λy c' e=>?_,I.free,I.Ea,λp hp=>?_,tracked ⟨oc,hoc,I.Ea x c hc⟩ hs,by simpa using I.len⟩ ⟨c,hs,.inr hc⟩
  ·exact (hs.2 b (Qcc (QaR (Qcb e) (I.ok.cab x c hfn hc)))).trans (I.base.keep b o e n hb hx)
  ·obtain⟨sl,e1⟩:=I.base.slot b o e n hb hx
   exact⟨sl,(hs.2 b (Qcc (QaR (Qcb e) (I.ok.cab x c hfn hc)))).trans e1⟩
  ·obtain⟨o',e1⟩:=I.base.there b o e hx
   exact⟨o',(hs.2 b (Qcc (QaR (Qcb e) (I.ok.cab x c hfn hc)))).trans e1⟩
  ·by_cases hj:j=i
   ·subst hj
    rw[hi] at e1;cases e1
    rw[List.getElem?_set_self hiσ] at e2
    cases e2
    exact⟨u,r,.inr ⟨.inl hk,c,hc,hc'⟩⟩
   ·rw[List.getElem?_set_ne (Ne.symm hj)] at e2
    obtain⟨u',r',q⟩:=hl j y v' e1 e2 e3
    refine⟨u',r',?_⟩
    rcases q with q |⟨k,c',e,z'⟩
    ·exact .inl q
    ·refine .inr ⟨k,c',e,z'.sameBut hs ?_⟩
     rintro rfl
     exact hj (RG hN e1 (I.ok.inj _ _ _ e hc ▸ hi))
  ·by_cases hcc:c'=c
   ·subst hcc;exact⟨_,hc'⟩
   ·obtain⟨w2,z2⟩:=I.cell y c' e
    exact⟨w2,z2.sameBut hs hcc⟩
  ·obtain⟨e,n,ne,nf,d⟩:=I.pin p hp
   refine⟨(hs.2 p.1 ?_).trans e,n,ne,nf,d⟩
   intro q
   rw[q,hoc] at e
   have q':oc=p.2:=QbB e
   exact d w' (by rw[<-q'];exact Da)
theorem K4 {M:Model} {A:Around} {E:Value->Shared->Prop} {i:Nat} {x:Str} {v:V} {u:Value} {Q:Unit->Shared->Prop} (I:Inv X pins σ H s) (hN:X.N.Nodup) (hi:X.N[i]?=some x) (hx:Loc X.env.scope x) (r:RelV v u)
  (h:∀s',Inv X pins (σ.set i (some v)) H s'->Q () s') (hf:X.fn x=true\/X.env.scope.names.lookup x=some .local:=by first | exact .inl rfl | exact .inr rfl | assumption):wpAny M A (storeName X.env x u) Q E s:=
 eZ I hN hi hx r (λs' I' _=>h s' I') hf
theorem Inv.call' {s':Shared} {ch:List Addr} (I:Inv X pins σ H s) (ho:s'.os=s.os) (u:Un (frs X.stack) ch H H' s.heap s'.heap) (hok:HOk X.prog X.w H' s'.heap) (hg:AllBare s'.gens)
  (hch:∀b∈ch,(b∈X.ex\/X.s₀.heap.objs.size<=b)/\b≠X.env.locals/\(∀x c,X.env.cells.lookup x=some c->c≠b)/\∀p∈X.pn++pins,p.1≠b):Inv X pins σ H' s':=by
 obtain⟨h',g',d',t',o'⟩:=s'
 have e:o'=s.os:=ho
 subst e
 exact I.call (g':=g') (t':=t') (d':=d') u hok hg hch
end
abbrev XK:=Value->Option Addr->Hp->Prop
abbrev St:=List (Option V)
abbrev VK:=V->Hp->Prop
abbrev TE:=St->Hp->VK->Prop
abbrev TT:=St->Hp->(Bool->Hp->Prop)->Prop
abbrev TA:=St->Hp->(List V->Hp->Prop)->Prop
structure Ends where
 nx:St->Hp->Prop
 rt:VK
 bk:St->Hp->Prop:=λ_ _=>False
 ct:St->Hp->Prop:=λ_ _=>False
abbrev TS:=Ends->St->Hp->Prop
def EP (X:Cx) (pins:List (Addr×Obj)) (σ : St) (Q:VK) (u:Value) (s':Shared):Prop:=∃v H',Inv X pins σ H' s'/\RelV v u/\Q v H'
def TP (X:Cx) (pins:List (Addr×Obj)) (σ : St) (Q:Bool->Hp->Prop) (b:Bool) (s':Shared):Prop:=∃H',Inv X pins σ H' s'/\Q b H'
def AP (X:Cx) (pins:List (Addr×Obj)) (σ : St) (Q:List V->Hp->Prop) (us:List Value) (s':Shared):Prop:=∃vs H',Inv X pins σ H' s'/\Vals vs us/\Q vs H'
def SP (X:Cx) (pins:List (Addr×Obj)) (D:Ends) (f:Flow) (s':Shared):Prop:=
 match f with
 | .next=>∃ σ' H',Inv X pins σ' H' s'/\D.nx σ' H'
 | .brk=>∃ σ' H',Inv X pins σ' H' s'/\D.bk σ' H'
 | .cont=>∃ σ' H',Inv X pins σ' H' s'/\D.ct σ' H'
 | .ret u=>∃v σ' H',Inv X pins σ' H' s'/\RelV v u/\D.rt v H'
def PE (X:Cx) (e:Expr) (t:TE):Prop:=
 ∀(pins:List (Addr×Obj)) (s:Shared) (σ : St) (H:Hp) (Q:VK),Inv X pins σ H s->t σ H Q->wpAny (model X.prog X.w) X.A (eval e X.env) (EP X pins σ Q) X.xe s
def PT (X:Cx) (e:Expr) (t:TT):Prop:=
 ∀(pins:List (Addr×Obj)) (s:Shared) (σ : St) (H:Hp) (Q:Bool->Hp->Prop),Inv X pins σ H s->t σ H Q->wpAny (model X.prog X.w) X.A (isTrue e X.env (eval e X.env)) (TP X pins σ Q) X.xe s
def PW (X:Cx) (e:Expr) (t:TT):Prop:=
 ∀(whole:Sem Value) (pins:List (Addr×Obj)) (s:Shared) (σ : St) (H:Hp) (Q:Bool->Hp->Prop),Inv X pins σ H s->t σ H Q->wpAny (model X.prog X.w) X.A (isTrue e X.env whole) (TP X pins σ Q) X.xe s
theorem PW.pt {X:Cx} {e:Expr} {t:TT} (h:PW X e t):PT X e t:=h _
def PA (X:Cx) (es:List Expr) (t:TA):Prop:=
 ∀(pos:Pos) (pins:List (Addr×Obj)) (s:Shared) (σ : St) (H:Hp) (Q:List V->Hp->Prop),Inv X pins σ H s->t σ H Q->wpAny (model X.prog X.w) X.A (spliced (backTo pos (starEach es X.env))) (AP X pins σ Q) X.xe s
def PS (X:Cx) (st:Stmt) (t:TS):Prop:=
 ∀(pins:List (Addr×Obj)) (s:Shared) (σ : St) (H:Hp) (D:Ends),Inv X pins σ H s->t D σ H->wpAny (model X.prog X.w) X.A (exec st X.env) (SP X pins D) X.xe s
def PSs (X:Cx) (st:List Stmt) (t:TS):Prop:=
 ∀(pins:List (Addr×Obj)) (s:Shared) (σ : St) (H:Hp) (D:Ends),Inv X pins σ H s->t D σ H->wpAny (model X.prog X.w) X.A (execs st X.env) (SP X pins D) X.xe s
theorem thn {α : Type} {t:Sem α} {Q Q':α->Shared->Prop} {M:Model} {A:Around} {E:Value->Shared->Prop} {s:Shared} (h:wpAny M A t Q E s) (hQ:∀a s,Q a s->Q' a s):wpAny M A t Q' E s:=Qcp h hQ λ_ _ x=>x
section
variable {X:Cx}
theorem bin {a b:Expr} {ta tb:TE} (ha:PE X a ta) (hb:PE X b tb) {pins:List (Addr×Obj)} {s:Shared} {σ : St} {H:Hp} {R:V->V->Hp->Prop} (I:Inv X pins σ H s) (h:ta σ H λx H1=>tb σ H1 λy H2=>R x y H2)
  {α : Type} {Q:α->Shared->Prop} {f:Value->Value->Sem α}
  (hf:∀v u s2 x y H2,Inv X pins σ H2 s2->RelV x v->RelV y u->R x y H2->wpAny (model X.prog X.w) X.A (f v u) Q X.xe s2) :
  wpAny (model X.prog X.w) X.A (eval a X.env) (λv s₁=>wpAny (model X.prog X.w) X.A (eval b X.env) (λu s₂=>wpAny (model X.prog X.w) X.A (f v u) Q X.xe s₂) X.xe s₁) X.xe s:=by
 refine thn (ha pins s σ H _ I h) λv s1 ⟨x,H1,I1,r1,q1⟩=>?_
 refine thn (hb pins s1 σ H1 _ I1 q1) λu s2 ⟨y,H2,I2,r2,q2⟩=>?_
 exact hf v u s2 x y H2 I2 r1 r2 q2
def uQ (i:Nat):TE:=fun σ H Q=>∃v,σ[i]?=some (some v)/\Q v H
def tC (v:V):TE:=λ_ H Q=>Q v H
theorem vQ {i:Nat} {x:Str} {pos:Pos} (hN:X.N[i]?=some x) (hv:Vis X.env.scope x) (hd:(x == ("__debug__":Str))=false:=by decide) (hcd:(x == ("__classdict__":Str))=false:=by decide):PE X (.Name x pos) (uQ i):=by
 intro pins s σ H Q I h
 obtain⟨v,e,h⟩:=h
 obtain⟨m,hn,hl⟩:=I.loc
 obtain⟨u,r,l⟩:=hl i x v hN e hv
 have fin:EP X pins σ Q u s:=⟨v,H,I,r,h⟩
 rcases l with⟨hk,hm⟩|⟨hk,c,hc,hcell⟩
 ·exact wpAny_Name (wpAny_loadName_local I.ok.kind hk hn hm fin) hd
 ·rcases hk with hk | hk
  ·exact wpAny_Name (wpAny_loadName_cell I.ok.kind hk hc hcell fin) hd
  ·exact wpAny_Name (wpAny_loadName_free I.ok.kind hk hc hcell fin hcd) hd
theorem Ae {i j pos}:PE X (.Constant (.int i) j pos) (tC (.int i)):=λ_ _ _ H _ I h=>wpAny_Constant_int ⟨.int i,H,I.tok _,⟨_,rfl⟩,h⟩
theorem Et {b j pos}:PE X (.Constant (.bool b) j pos) (tC (.bl b)):=λ_ _ _ H _ I h=>Constant_bool ⟨.bl b,H,I,rfl,h⟩
theorem Ja {j pos}:PE X (.Constant .none j pos) (tC .non):=λ_ _ _ H _ I h=>Constant_none ⟨.non,H,I,rfl,h⟩
theorem Bf {x j pos}:PE X (.Constant (.str x) j pos) (tC (.str x)):=λ_ _ _ H _ I h=>Calls.Constant_str ⟨.str x,H,I.tok _,⟨_,rfl⟩,h⟩
def Gl (X:Cx) (x:Str):Prop:=X.env.kindOf x=some .globalImplicit
theorem KY {E:Value->Shared->Prop} {pins:List (Addr×Obj)} {s:Shared} {σ : St} {H:Hp} {x:Str} {u:Value} {pos:Pos} {Q:Value->Shared->Prop} (I:Inv X pins σ H s) (hg:Gl X x) (hm:X.mg x=some u) (h:Q u s)
  (hd:(x == ("__debug__":Str))=false:=by decide):wpAny (model X.prog X.w) X.A (eval (.Name x pos) X.env) Q E s:=
 Calls.Name_function_global I.ok.kind hg (Calls.loadGlobal_global (by rw[I.ok.glob];exact I.mod.glob.keeps I.bk) hm h) hd
theorem Kd {E:Value->Shared->Prop} {pins:List (Addr×Obj)} {s:Shared} {σ : St} {H:Hp} {x:Str} {u:Value} {pos:Pos} {Q:Value->Shared->Prop} (I:Inv X pins σ H s) (hg:Gl X x) (hm:X.mg x=none) (hv:bootBuiltins x=some u) (h:Q u s)
  (hn:x≠"__name__":=by decide) (hd:(x == ("__debug__":Str))=false:=by decide):wpAny (model X.prog X.w) X.A (eval (.Name x pos) X.env) Q E s:=by
 obtain⟨mb,h1,h2⟩:=I.mod.blt
 exact Calls.Name_function_global I.ok.kind hg (Calls.loadGlobal_builtin (by rw[I.ok.glob];exact I.mod.glob.keeps I.bk) hm (by rw[I.ok.blt];exact h1.keeps I.bk) ((h2 x hn).trans hv) h) hd
theorem DK {x:Str} {v:V} {u:Value} {pos:Pos} (hg:Gl X x) (hm:X.mg x=some u) (r:RelV v u) (hd:(x == ("__debug__":Str))=false:=by decide):PE X (.Name x pos) (tC v):=
 λ_ _ _ H _ I h=>KY I hg hm ⟨v,H,I,r,h⟩ hd
theorem Np {x:Str} {v:V} {u:Value} {pos:Pos} (hg:Gl X x) (hm:X.mg x=none) (hv:bootBuiltins x=some u) (r:RelV v u) (hn:x≠"__name__":=by decide) (hd:(x == ("__debug__":Str))=false:=by decide):PE X (.Name x pos) (tC v):=
 λ_ _ _ H _ I h=>Kd I hg hm hv ⟨v,H,I,r,h⟩ hn hd
variable {a b:Expr} {ta tb:TE} {pos:Pos}
def PC (X:Cx) (op:CmpOp) (a b:Expr) (t:TE):Prop:=
 ∀(pins:List (Addr×Obj)) (s:Shared) (σ : St) (H:Hp) (Q:VK),Inv X pins σ H s->t σ H Q ->
  wpAny (model X.prog X.w) X.A (eval a X.env) (λv s₁=>wpAny (model X.prog X.w) X.A (eval b X.env) (λu s₂=>wpAny (model X.prog X.w) X.A (compareOp op v u) (EP X pins σ Q) X.xe s₂) X.xe s₁) X.xe s
theorem mG (b:Expr) {op:CmpOp} (h:op≠.In) (h2:op≠.NotIn):behindInMarks op b=false:=by
 have e1:(op == CmpOp.In)=false:=by cases op <;> first | rfl | exact absurd rfl h
 have e2:(op == CmpOp.NotIn)=false:=by cases op <;> first | rfl | exact absurd rfl h2
 cases b <;> simp[behindInMarks,e1,e2]
def tB (t:TE):TT:=fun σ H Q=>t σ H λx H1=>∃c,x=.bl c/\Q c H1
theorem Pz {op:CmpOp} {t:TE} (h:PC X op a b t) (h1:behindInMarks op b=false:=by first | exact mG _ (by decide) (by decide) | rfl):PT X (.Compare a [op] [b] pos) (tB t):=by
 intro pins s σ H Q I hw
 refine wpAny_isTrue_Compare1 (thn (h pins s σ H _ I hw) λv s1 h1=>thn h1 λu s2 h2=>thn h2 λc s3 ⟨x,H1,I1,r1,q1⟩=>?_) h1
 obtain⟨d,rfl,q⟩:=q1
 cases r1
 exact Qbk ⟨H1,I1,q⟩
theorem Fd {e:Expr} {t:TE} (h:PE X e t) (he:∀whole,isTrue e X.env whole=(do let v <-whole;standAt e.pos;holding [v] (truthy v)):=by intro _;rfl):PT X e (tB t):=by
 intro pins s σ H Q I hw
 refine isTrue_plain (thn (h pins s σ H _ I hw) λv s1 ⟨x,H1,I1,r1,q1⟩=>?_) (he _)
 obtain⟨d,rfl,q⟩:=q1
 cases r1
 exact Qbk ⟨H1,I1,q⟩
variable {tA tB':TT} {rest:List Expr}
def AF (t u:TT):TT:=fun σ H Q=>t σ H λc H1=>if c=true then u σ H1 Q else Q false H1
def tOr (t u:TT):TT:=fun σ H Q=>t σ H λc H1=>if c=true then Q true H1 else u σ H1 Q
def Au (t:TT):TT:=fun σ H Q=>t σ H λc H1=>Q (!c) H1
theorem rO (ha:PT X a tA):PW X (.BoolOp .And [a] pos) tA:=by
 intro wh pins s σ H Q I h
 refine isTrue_and (thn (ha pins s σ H Q I h) λc s1 e=>?_)
 cases c with
 | true=>exact isTrue_and_nil e
 | false=>exact e
theorem Nk (ha:PT X a tA):PW X (.BoolOp .Or [a] pos) tA:=by
 intro wh pins s σ H Q I h
 refine isTrue_or (thn (ha pins s σ H Q I h) λc s1 e=>?_)
 cases c with
 | false=>exact isTrue_or_nil e
 | true=>exact e
theorem vN (ha:PT X a tA) (hb:PW X (.BoolOp .And (b::rest) pos) tB'):PW X (.BoolOp .And (a::b::rest) pos) (AF tA tB'):=by
 intro wh pins s σ H Q I h
 refine isTrue_and (thn (ha pins s σ H _ I h) λc s1 ⟨H1,I1,q1⟩=>?_)
 cases c with
 | true=>exact hb wh pins s1 σ H1 Q I1 q1
 | false=>exact⟨H1,I1,q1⟩
theorem N8 (ha:PT X a tA) (hb:PW X (.BoolOp .Or (b::rest) pos) tB'):PW X (.BoolOp .Or (a::b::rest) pos) (tOr tA tB'):=by
 intro wh pins s σ H Q I h
 refine isTrue_or (thn (ha pins s σ H _ I h) λc s1 ⟨H1,I1,q1⟩=>?_)
 cases c with
 | true=>exact⟨H1,I1,q1⟩
 | false=>exact hb wh pins s1 σ H1 Q I1 q1
theorem Fe (ha:PT X a tA):PT X (.UnaryOp .Not a pos) (Au tA):=by
 intro pins s σ H Q I h
 exact isTrue_not (ha pins s σ H (λc H1=>Q (!c) H1) I h)
def yV (ta tb:TE):TE:=fun σ H Q=>ta σ H λx H1=>∃c,x=.bl c/\if c=true then tb σ H1 Q else Q (.bl false) H1
def yQ (ta:TE):TE:=fun σ H Q=>ta σ H λx H1=>∃c,x=.bl c/\Q (.bl (!c)) H1
theorem DR {op} {t:TE} (h:PE X a t):PE X (.BoolOp op [a] pos) t:=λpins s σ H Q I hw=>BoolOp_one (h pins s σ H Q I hw)
theorem DW (ha:PE X a ta) (hb:PE X (.BoolOp .And (b::rest) pos) tb):PE X (.BoolOp .And (a::b::rest) pos) (yV ta tb):=by
 intro pins s σ H Q I h
 refine BoolOp_and (thn (ha pins s σ H _ I h) λv s1 ⟨x,H1,I1,r1,q1⟩=>?_)
 obtain⟨c,rfl,q1⟩:=q1
 cases r1
 refine Qbk ?_
 cases c with
 | true=>exact hb pins s1 σ H1 Q I1 q1
 | false=>exact⟨.bl false,H1,I1,rfl,q1⟩
theorem vR (ha:PE X a ta):PE X (.UnaryOp .Not a pos) (yQ ta):=by
 intro pins s σ H Q I h
 refine UnaryOp_ (thn (ha pins s σ H _ I h) λv s1 ⟨x,H1,I1,r1,q1⟩=>?_)
 obtain⟨c,rfl,q1⟩:=q1
 cases r1
 exact not_of (Qbk ⟨.bl (!c),H1,I1,rfl,q1⟩)
end
def SqL (K:PySem.W.Frag) (H:Hp) (a:Addr) (xs:List V):Prop:=
 Rd H a (.lst xs) \/
  ∃(o:Obj) (its:Array Value) (n:Nat),K.lookup a=some o/\o.cls=.type "list"/\o.dict=none/\o.data=.seq its n/\its.size<=sizeLine/\Vals xs its.toList
def SqT (K:PySem.W.Frag) (H:Hp) (a:Addr) (xs:List V):Prop:=
 Rd H a (.tup xs) \/
  ∃(o:Obj) (its:Array Value) (n:Nat),K.lookup a=some o/\o.cls=.type "tuple"/\o.data=.seq its n/\its.size<=sizeLine/\Vals xs its.toList
def GN:Value->Option V
 | .none=>some .non
 | .bool b=>some (.bl b)
 | .int i _=>some (.int i)
 | .str x _=>some (.str x)
 | .bytes b _=>some (.byt b)
 | .float b _=>some (.flt b)
 | .ref a=>some (.ref a)
 | .type n=>some (.ty n)
 | _=>none
theorem RelV.abs {x:V} {u:Value} (r:RelV x u):GN u=some x:=by
 cases x with
 | non=>cases r;rfl
 | bl _=>cases r;rfl
 | int _=>obtain⟨t,rfl⟩:=r;rfl
 | str _=>obtain⟨t,rfl⟩:=r;rfl
 | byt _=>obtain⟨t,rfl⟩:=r;rfl
 | flt _=>obtain⟨t,rfl⟩:=r;rfl
 | ref _=>cases r;rfl
 | ty _=>cases r;rfl
theorem RelV.inj {x y:V} {u:Value} (r:RelV x u) (q:RelV y u):x=y:=QbB (r.abs.symm.trans q.abs)
theorem Vals.inj:∀{xs ys:List V} {us:List Value},Vals xs us->Vals ys us->xs=ys
 | _,_,_,.nil,.nil=>rfl
 | _,_,_,.cons r t,.cons r' t'=>by rw[r.inj r',Vals.inj t t']
section
variable {X:Cx} {pins:List (Addr×Obj)} {σ : St} {H:Hp} {s:Shared} {a:Addr} {xs ys:List V}
theorem SqL.of {K:PySem.W.Frag} (h:H a=some (.lst xs)):SqL K H a xs:=.inl (.inl h)
theorem SqT.of {K:PySem.W.Frag} (h:H a=some (.tup xs)):SqT K H a xs:=.inl (.inl h)
theorem Inv.list (I:Inv X pins σ H s) (h:SqL X.K H a xs):∃its:List Value,Vals xs its/\PlainL s.heap a its.toArray/\xs.length<=sizeLine:=by
 rcases h with h |⟨o,its,n,hk,hc,hd,hs,hz,r⟩
 ·obtain⟨z,its,n,r,e⟩:=h.ok I.hok
  exact⟨its,r,⟨_,n,e,rfl,rfl,rfl⟩,z⟩
 ·refine⟨its.toList,r,⟨o,n,I.kIn a o hk,hc,hd,by simpa using hs⟩,?_⟩
  have e:=r.length
  simp only[QaH] at e
  omega
theorem Inv.tuple (I:Inv X pins σ H s) (h:SqT X.K H a xs):∃its:List Value,Vals xs its/\IsTup s.heap a its.toArray/\xs.length<=sizeLine:=by
 rcases h with h |⟨o,its,n,hk,hc,hs,hz,r⟩
 ·obtain⟨z,its,r,p⟩:=h.ok I.hok
  exact⟨its,r,p,z⟩
 ·refine⟨its.toList,r,⟨o,I.kIn a o hk,hc,n,by simpa using hs⟩,?_⟩
  have e:=r.length
  simp only[QaH] at e
  omega
theorem Inv.XM (I:Inv X pins σ H s) (h:SqL X.K H a xs) (h':SqL X.K H a ys):xs=ys:=by
 obtain⟨its,r,⟨o,n,e,_,_,d⟩,_⟩:=I.list h
 obtain⟨its',r',⟨o',n',e',_,_,d'⟩,_⟩:=I.list h'
 rw[e] at e';cases e'
 rw[d] at d'
 injection d' with d1 _
 have:its=its':=by simpa using congrArg Array.toList d1
 subst this
 exact r.inj r'
theorem Inv.U7 (I:Inv X pins σ H s) (h:SqT X.K H a xs) (h':SqT X.K H a ys):xs=ys:=by
 obtain⟨its,r,⟨o,e,_,n,d⟩,_⟩:=I.tuple h
 obtain⟨its',r',⟨o',e',_,n',d'⟩,_⟩:=I.tuple h'
 rw[e] at e';cases e'
 rw[d] at d'
 injection d' with d1 _
 have:its=its':=by simpa using congrArg Array.toList d1
 subst this
 exact r.inj r'
end
abbrev Cx.wish (X:Cx) (E:Value->Shared->Prop):Cx:={ X with xe:=E }
abbrev Cx.nox (X:Cx):Cx:=X.wish λ_ _=>False
theorem Cx.Ok.wish {X:Cx} (ok:X.Ok) (E:Value->Shared->Prop):(X.wish E).Ok:=
 ⟨ok.mod,ok.kind,ok.glob,ok.blt,ok.above,ok.inj,ok.has,ok.cab,ok.hd,ok.frames,ok.stk,ok.exf,ok.bs,ok.bsz,ok.Ly,ok.Jz,ok.FT,ok.frf⟩
theorem Cx.Ok.JM {X:Cx} {E:Value->Shared->Prop} (ok:(X.wish E).Ok):X.Ok:=
 ⟨ok.mod,ok.kind,ok.glob,ok.blt,ok.above,ok.inj,ok.has,ok.cab,ok.hd,ok.frames,ok.stk,ok.exf,ok.bs,ok.bsz,ok.Ly,ok.Jz,ok.FT,ok.frf⟩
section
variable {X:Cx} {pins:List (Addr×Obj)} {σ : St} {H:Hp} {s:Shared} {E:Value->Shared->Prop}
theorem Inv.wish (I:Inv X pins σ H s) (E:Value->Shared->Prop):Inv (X.wish E) pins σ H s:=⟨I.ok.wish E,I.os,I.bare,I.base,I.loc,I.cell,I.free,I.Ea,I.pin,I.hok,I.len⟩
theorem Inv.JM (I:Inv (X.wish E) pins σ H s):Inv X pins σ H s:=⟨I.ok.JM,I.os,I.bare,I.base,I.loc,I.cell,I.free,I.Ea,I.pin,I.hok,I.len⟩
theorem SP.JM {D:Ends} {f:Flow} {s':Shared} (h:SP (X.wish E) pins D f s'):SP X pins D f s':=by
 cases f with
 | next=>obtain⟨σ',H',I,q⟩:=h;exact⟨σ',H',I.JM,q⟩
 | brk=>obtain⟨σ',H',I,q⟩:=h;exact⟨σ',H',I.JM,q⟩
 | cont=>obtain⟨σ',H',I,q⟩:=h;exact⟨σ',H',I.JM,q⟩
 | ret u=>obtain⟨v,σ',H',I,r,q⟩:=h;exact⟨v,σ',H',I.JM,r,q⟩
theorem PSs.nox {st:List Stmt} {t:TS} (h:PSs X.nox st t):PSs X st t:=λpins s σ H D I hw=>
 Qcp (h pins s σ H D (I.wish _) hw) (λ_ _ q=>q.JM) λ_ _ z=>False.elim z
end
section
variable {X:Cx} {st:Stmt} {rest:List Stmt} {t u:TS} {e:Expr} {te:TE} {pos:Pos}
def yR:TS:=λD σ H=>D.nx σ H
def uR (t u:TS):TS:=λD σ H=>t { D with nx:=u D } σ H
theorem BR:PSs X [] yR:=λ_ _ σ H _ I h=>wpAny_execs_nil ⟨σ,H,I,h⟩
theorem Ag (h1:PS X st t) (h2:PSs X rest u):PSs X (st::rest) (uR t u):=by
 intro pins s σ H D I h
 refine wpAny_execs_cons (thn (h1 pins s σ H { D with nx:=u D } I h) λf s1 q=>?_)
 cases f with
 | next=>
  obtain⟨σ',H',I',q⟩:=q
  exact h2 pins s1 σ' H' D I' q
 | ret v=>exact q
 | brk=>exact q
 | cont=>exact q
theorem Ai (h1:PS X st t):PSs X [st] t:=by
 intro pins s σ H D I h
 refine wpAny_execs_cons (thn (h1 pins s σ H D I h) λf s1 q=>?_)
 cases f with
 | next=>exact wpAny_execs_nil q
 | ret v=>exact q
 | brk=>exact q
 | cont=>exact q
theorem Inv.quiet {pins:List (Addr×Obj)} {σ : St} {H:Hp} {s:Shared} (I:Inv X pins σ H s):interactive X.env=false:=by simp[interactive,I.ok.kind]
def yS (te:TE):TS:=λD σ H=>te σ H λ_ H1=>D.nx σ H1
theorem Bg (he:PE X e te) (hs:swapsWith e none pos.line X.env=pure false:=by rfl):PS X (.Expr e pos) (yS te):=by
 intro pins s σ H D I h
 exact wpAny_Expr_any (thn (he pins s σ H _ I h) λv s1 ⟨x,H1,I1,r1,q1⟩=>⟨σ,H1,I1,q1⟩) I.quiet hs
def As (te:TE):TS:=λD σ H=>te σ H D.rt
theorem Ba (he:PE X e te):PS X (.Return (some e) pos) (As te):=by
 intro pins s σ H D I h
 exact wpAny_Return_some (thn (he pins s σ H _ I h) λv s1 ⟨x,H1,I1,r1,q1⟩=>⟨x,σ,H1,I1,r1,q1⟩)
def uW (c:TT) (t u:TS):TS:=λD σ H=>c σ H λb H1=>if b=true then t D σ H1 else u D σ H1
theorem BP {c:Expr} {a b:List Stmt} {tc:TT} (hc:PT X c tc) (ha:PSs X a t) (hb:PSs X b u):PS X (.If c a b pos) (uW tc t u):=by
 intro pins s σ H D I h
 refine wpAny_If (thn (hc pins s σ H _ I h) λd s1 ⟨H1,I1,q1⟩=>?_)
 cases d with
 | true=>exact ha pins s1 σ H1 D I1 q1
 | false=>exact hb pins s1 σ H1 D I1 q1
def uU:TS:=λ_ _ _=>False
theorem lD:PS X st uU:=λ_ _ _ _ _ _ h=>h.elim
end
abbrev TG:=V->St->Hp->(St->Hp->Prop)->Prop
abbrev TGs:=List V->St->Hp->(St->Hp->Prop)->Prop
def PG (X:Cx) (target:Expr) (t:TG):Prop:=
 ∀(pins:List (Addr×Obj)) (s:Shared) (σ : St) (H:Hp) (v:V) (u:Value) (Q:St->Hp->Prop),Inv X pins σ H s->RelV v u->t v σ H Q ->
  wpAny (model X.prog X.w) X.A (assign target X.env u) (λ_ s'=>∃ σ' H',Inv X pins σ' H' s'/\Q σ' H') X.xe s
def PGs (X:Cx) (ts:List Expr) (t:TGs):Prop:=
 ∀(pins:List (Addr×Obj)) (s:Shared) (σ : St) (H:Hp) (vs:List V) (us:List Value) (Q:St->Hp->Prop),Inv X pins σ H s->Vals vs us->t vs σ H Q ->
  wpAny (model X.prog X.w) X.A (assignInOrder ((assignEach ts X.env).map (·.2)) us) (λ_ s'=>∃ σ' H',Inv X pins σ' H' s'/\Q σ' H') X.xe s
abbrev pX:=V->V->V->Hp->(Hp->Prop)->Prop
def yH (X:Cx) (t:pX):Prop:=
 ∀(pins:List (Addr×Obj)) (s:Shared) (σ : St) (H:Hp) (o i v:V) (ov iv u:Value) (Q:Hp->Prop),Inv X pins σ H s->RelV o ov->RelV i iv->RelV v u->t o i v H Q ->
  wpAny (model X.prog X.w) X.A (setItem ov iv u) (λ_ s'=>∃H',Inv X pins σ H' s'/\Q H') X.xe s
section
variable {X:Cx} {pos:Pos}
def G5 (i:Nat):TG:=λv σ H Q=>Q (σ.set i (some v)) H
theorem Ak {i:Nat} {x:Str} (hN:X.N.Nodup) (hi:X.N[i]?=some x) (hx:Loc X.env.scope x) (hf:X.fn x=true\/X.env.scope.names.lookup x=some .local:=by first | exact .inl rfl | exact .inr rfl | assumption):PG X (.Name x pos) (G5 i):=by
 intro pins s σ H v u Q I r h
 exact wpAny_assign_Name (K4 I hN hi hx r (λs' I'=>⟨_,H,I',h⟩) hf)
def EJ:TGs:=λvs σ H Q=>vs=[]/\Q σ H
def zM (t:TG) (u:TGs):TGs:=λvs σ H Q=>∃v r,vs=v::r/\t v σ H fun σ' H'=>u r σ' H' Q
theorem Bw:PGs X [] EJ:=by
 intro pins s σ H vs us Q I r h
 obtain⟨e,h⟩:=h
 subst e
 cases r
 exact assignInOrder_nil ⟨σ,H,I,h⟩
theorem Aq {e:Expr} {es:List Expr} {t:TG} {u:TGs} (h1:PG X e t) (h2:PGs X es u)
  (hs:(assignEach (e::es) X.env).map (·.2)=assign e X.env::(assignEach es X.env).map (·.2):=by rfl):PGs X (e::es) (zM t u):=by
 intro pins s σ H vs us Q I r h
 obtain⟨v,vr,e1,h⟩:=h
 subst e1
 cases r with
 | cons r rr=>
  rw[hs]
  refine assignInOrder_cons (thn (h1 pins s σ H _ _ _ I r h) λ_ s1 ⟨σ1,H1,I1,q1⟩=>?_)
  exact h2 pins s1 σ1 H1 _ _ Q I1 rr q1
def xZ (K:PySem.W.Frag) (n:Nat) (t:TGs):TG:=λv σ H Q=>∃a xs,v=.ref a/\SqT K H a xs/\xs.length=n/\t xs σ H Q
theorem CV {es:List Expr} {k:Nat} {t:TGs} {n:Nat} (hc:X.calm=true) (h:PGs X es t)
  (hn:(assignEach es X.env).length=n:=by rfl) (hst:(assignEach es X.env).findIdx? (·.1)=none:=by rfl):PG X (.Tuple es k pos) (xZ X.K n t):=by
 intro pins s σ H v u Q I r hw
 obtain⟨a,xs,e1,hq,hl,hw⟩:=hw
 subst e1
 cases r
 obtain⟨its,rv,ht,hz⟩:=I.tuple hq
 refine assign_Tuple_tuple (I.ok.hd hc) ht (by simp[hn,<-hl,rv.length]) hst λh' hx=>?_
 have I1:Inv X pins σ H { s with heap:=h' }:=I.kept (t':=s.toks) λb o e=>hx b o (Qcc (Qcb e)) e
 exact h pins _ σ H xs _ Q I1 (by simpa using rv) hw
def EI (to ti:TE) (t:pX):TG:=λv σ H Q=>to σ H λo H1=>ti σ H1 λi H2=>t o i v H2 λH3=>Q σ H3
theorem Xi {o i:Expr} {to ti:TE} {t:pX} (ho:PE X o to) (hi:PE X i ti) (hs:yH X t)
  (ha:∀v,assign (.Subscript o i pos) X.env v=(do
   let ov <-holding [v] (eval o X.env)
   let iv <-holding [v,ov] (eval i X.env)
   standAt pos
   holding [v,ov,iv] (setItem ov iv v)
   release [v,ov,iv] []):=by intro _;rfl):PG X (.Subscript o i pos) (EI to ti t):=by
 intro pins s σ H v u Q I r h
 rw[ha]
 refine Qcn (QbW (thn (ho pins s σ H _ I h) λov s1 ⟨x,H1,I1,r1,q1⟩=>?_))
 refine Qcn (QbW (thn (hi pins s1 σ H1 _ I1 q1) λiv s2 ⟨y,H2,I2,r2,q2⟩=>?_))
 refine Qcn (QbY (Qcn (QbW (thn (hs pins s2 σ H2 x y v ov iv u _ I2 r1 r2 r q2) λ_ s3 ⟨H3,I3,q3⟩=>?_))))
 exact wpAny_release ⟨σ,H3,I3,q3⟩
def bx (te:TE) (g:TG):TS:=λD σ H=>te σ H λx H1=>g x σ H1 D.nx
theorem JR {tg e:Expr} {te:TE} {g:TG} (he:PE X e te) (hg:PG X tg g) (hs:swapsWithSole [tg] e pos.line X.env=pure false:=by rfl) (hw:swappedStores [tg] e X.env=pure none:=by rfl)
  (h1:(assignEach [tg] X.env).map (·.2)=[assign tg X.env]:=by rfl):PS X (.Assign [tg] e pos) (bx te g):=by
 intro pins s σ H D I h
 refine wpAny_Assign_stores (thn (he pins s σ H _ I h) λv s1 ⟨x,H1,I1,r1,q1⟩=>?_) hs hw
 rw[h1]
 exact thn (hg pins s1 σ H1 x v _ I1 r1 q1) λ_ s2 q=>q
theorem Bb {i:Nat} {x:Str} {e:Expr} {te:TE} {pos':Pos} (hN:X.N.Nodup) (hi:X.N[i]?=some x) (hx:Loc X.env.scope x) (he:PE X e te) (hs:swapsWith e (some (.Name x pos')) pos.line X.env=pure false:=by rfl) (hf:X.fn x=true\/X.env.scope.names.lookup x=some .local:=by first | exact .inl rfl | exact .inr rfl | assumption) :
  PS X (.Assign [.Name x pos'] e pos) (bx te (G5 i)):=by
 intro pins s σ H D I h
 refine wpAny_Assign_Name (thn (he pins s σ H _ I h) λv s1 ⟨y,H1,I1,r1,q1⟩=>?_) hs
 exact K4 I1 hN hi hx r1 (λs2 I2=>⟨_,H1,I2,q1⟩) hf
end
section
variable {X:Cx} {pos:Pos}
end
structure It where
 go:Nat->Hp->Prop
 yld:Nat->Hp->V->Hp->Prop
 stop:Nat->Hp->Prop
def FZ (X:Cx) (pins:List (Addr×Obj)) (H:Hp) (b:Addr):Prop:=
 H b=none/\b≠X.env.locals/\b∉X.fs/\(b∈X.ex\/X.s₀.heap.objs.size<=b)/\(∀x c,X.env.cells.lookup x=some c->c≠b)/\∀p∈X.pn++pins,p.1≠b
theorem Inv.Qf {X:Cx} {pins:List (Addr×Obj)} {σ : St} {H H':Hp} {s:Shared} {b:Addr} (I:Inv X pins σ H s) (hb:s.heap.objs.size<=b) (hn:H' b=none):FZ X pins H' b:=by
 refine⟨hn,Qcg (QaR I.lt hb),I.mF hb,.inr (Qcd I.sz hb),λx c e z=>?_,λp hp z=>?_⟩
 ·obtain⟨v,q⟩:=I.cell x c e
  exact absurd (QaR q.lt (by rw[z];exact hb)) (QbV _)
 ·exact absurd (QaR (Qcb (I.pin p hp).1) (by rw[z];exact hb)) (QbV _)
structure Turn (P:Program) (w:World) (K:PySem.W.Frag) (tg:Expr) (J:It) (fp:List Addr) (it:Addr) (tn:Nat->Heap->Prop):Prop where
 mem:it∈fp
 obj:∀i h,tn i h->∀b∈fp,∃o,h.get? b=some o/\∀v,o.data≠.cell v
 keep:∀i h h',tn i h->(∀b∈fp,∀o,h.get? b=some o->h'.get? b=some o)->tn i h'
 item:∀(X:Cx),X.prog=P->X.w=w->X.K=K->X.calm=true->∀(i:Nat) (pins:List (Addr×Obj)) (s:Shared) (σ : St) (H:Hp) (E:Value->Shared->Prop),Inv X pins σ H s->(∀b∈fp,FZ X pins H b)->tn i s.heap->J.go i H ->
  wpAny (model P w) X.A (pyNext (.ref it)) (λr s1=>∃u,r=some u /\
   wpAny (model P w) X.A (letOwnedTupleGo tg (.ref it) u) (λ_ s2=>∃x H',Inv X pins σ H' s2/\RelV x u/\J.yld i H x H'/\tn (i+1) s2.heap/\∀b∈fp,H' b=none) E s1) E s
 done:∀(X:Cx),X.prog=P->X.w=w->X.K=K->X.calm=true->∀(i:Nat) (pins:List (Addr×Obj)) (s:Shared) (σ : St) (H:Hp) (E:Value->Shared->Prop),Inv X pins σ H s->(∀b∈fp,FZ X pins H b)->tn i s.heap->J.stop i H ->
  wpAny (model P w) X.A (pyNext (.ref it)) (λr s1=>r=none/\Inv X pins σ H s1) E s
 self:∀(A:Around) (i:Nat) (s:Shared) (Q:Value->Shared->Prop) (E:Value->Shared->Prop),tn i s.heap->Q (.ref it) s->wpAny (model P w) A (pyIter (.ref it)) Q E s
abbrev TI:=St->Hp->(It->Hp->Prop)->Prop
def PIE (X:Cx) (pins:List (Addr×Obj)) (σ : St) (tg:Expr) (R:It->Hp->Prop) (itv:Value) (s2:Shared):Prop:=
 ∃(it:Addr) (fp:List Addr) (tn:Nat->Heap->Prop) (J:It) (H':Hp),itv=.ref it/\Inv X pins σ H' s2/\Turn X.prog X.w X.K tg J fp it tn/\tn 0 s2.heap/\(∀b∈fp,FZ X pins H' b)/\R J H'
def PI (X:Cx) (tg iter:Expr) (wi:TI):Prop:=
 ∀(pins:List (Addr×Obj)) (s:Shared) (σ : St) (H:Hp) (R:It->Hp->Prop),Inv X pins σ H s->wi σ H R ->
  wpAny (model X.prog X.w) X.A (eval iter X.env) (λv s1=>wpAny (model X.prog X.w) X.A (pyIter v) (PIE X pins σ tg R) X.xe s1) X.xe s
theorem Wa {M:Model} {A:Around} {E:Value->Shared->Prop} {s:Shared} {tg:Expr} {it:Addr} {u:Value} {o:Obj} {n:String} {vs:Array Value} {Q:Unit->Shared->Prop} (ho:s.heap.get? it=some o) (hc:o.cls=.type n) (hd:o.data=.fields vs)
    (hn:["enumerate","zip","dict_itemiterator","dict_reverseitemiterator","odict_iterator","itertools.zip_longest","itertools.pairwise"].contains n=false) (hQ:Q () s):wpAny M A (letOwnedTupleGo tg (.ref it) u) Q E s:=by
  unfold letOwnedTupleGo
  cases tg <;> first
    | exact Qco hQ
    | (cases u <;> first
        | exact Qco hQ
        | (refine Qcn (wpAny_load ho ?_)
           rw[hc,hd]
           show wpAny M A (if (["enumerate","zip","dict_itemiterator","dict_reverseitemiterator","odict_iterator","itertools.zip_longest","itertools.pairwise"].contains n&&vs[0]? == some (rawInt _))=true then _ else _) Q E s
           rw[if_neg (by intro h;rw[hn,Bool.false_and] at h;cases h)]
           exact Qco hQ))
def Itl (K:PySem.W.Frag) (a:Addr):It:=
 ⟨λi H=>∃xs x,SqL K H a xs/\xs[i]?=some x,λi H x H'=>H'=H/\∀xs,SqL K H a xs->xs[i]?=some x,λi H=>∃xs,SqL K H a xs/\xs.length<=i⟩
def Itt (K:PySem.W.Frag) (a:Addr):It:=
 ⟨λi H=>∃xs x,SqT K H a xs/\xs[i]?=some x,λi H x H'=>H'=H/\∀xs,SqT K H a xs->xs[i]?=some x,λi H=>∃xs,SqT K H a xs/\xs.length<=i⟩
def Itr (lo:Int) (n:Nat):It:=⟨λi _=>i < n,λi H x H'=>H'=H/\x=.int (lo+i),λi _=>n<=i⟩
theorem eG {P:Program} {w:World} {K:PySem.W.Frag} {tg:Expr} (a it:Addr):Turn P w K tg (Itl K a) [it] it (λi h=>h.IsListIter it a i) where
 mem:=by simp
 obj:=λi h st b hb=>by
  have e:b=it:=by simpa using hb
  subst e
  obtain⟨o,e,c,d⟩:=st
  exact⟨o,e,λv z=>by rw[d] at z;cases z⟩
 keep:=λi h h' st k=>st.at λo e=>k it (by simp) o e
 item:=by
  intro X hP hw hK hc i pins s σ H E I hf st hg
  subst hP hw hK
  obtain⟨xs,x,hq,hx⟩:=hg
  obtain⟨its,rv,p,hz⟩:=I.list hq
  obtain⟨u,hu,ru⟩:=rv.get hx
  obtain⟨f0,f1,f2,f3,f4,f5⟩:=hf it (by simp)
  refine wpAny_pyNext_list_item st p.isList (x:=u) (by simpa using hu) λh' st' sb=>?_
  have I1:Inv X pins σ H { s with heap:=h' }:=I.turned (t':=s.toks) (λb o hb e=>(sb.2 b hb).trans e) f0 f1 f3 f4 f5
  obtain⟨o,e,c,d⟩:=id st'
  exact⟨u,rfl,Wa (s:={ s with heap:=h' }) e c d (by decide) ⟨x,H,I1,ru,⟨rfl,λys hy=>by rw[I.XM hy hq];exact hx⟩,st',λb hb=>(hf b hb).1⟩⟩
 done:=by
  intro X hP hw hK hc i pins s σ H E I hf st hg
  subst hP hw hK
  obtain⟨xs,hq,hx⟩:=hg
  obtain⟨its,rv,p,hz⟩:=I.list hq
  obtain⟨f0,f1,f2,f3,f4,f5⟩:=hf it (by simp)
  have hl:=rv.length
  exact wpAny_pyNext_list_end (I.ok.hd hc) st p.isList (by simp;omega) λh' eb=>⟨rfl,I.turned (t':=s.toks) (λb o hb e=>eb b o hb e) f0 f1 f3 f4 f5⟩
 self:=λ_ _ _ _ _ st h=>wpAny_pyIter_listiter st h
theorem aP {P:Program} {w:World} {K:PySem.W.Frag} {tg:Expr} (a it:Addr):Turn P w K tg (Itt K a) [it] it (λi h=>h.IsTupleIter it a i) where
 mem:=by simp
 obj:=λi h st b hb=>by
  have e:b=it:=by simpa using hb
  subst e
  obtain⟨o,e,c,d⟩:=st
  exact⟨o,e,λv z=>by rw[d] at z;cases z⟩
 keep:=λi h h' st k=>st.at λo e=>k it (by simp) o e
 item:=by
  intro X hP hw hK hc i pins s σ H E I hf st hg
  subst hP hw hK
  obtain⟨xs,x,hq,hx⟩:=hg
  obtain⟨its,rv,p,hz⟩:=I.tuple hq
  obtain⟨u,hu,ru⟩:=rv.get hx
  obtain⟨f0,f1,f2,f3,f4,f5⟩:=hf it (by simp)
  refine wpAny_pyNext_tuple_item st (show s.heap.IsTuple a its.toArray from p) (x:=u) (by simpa using hu) λh' st' sb=>?_
  have I1:Inv X pins σ H { s with heap:=h' }:=I.turned (t':=s.toks) (λb o hb e=>(sb.2 b hb).trans e) f0 f1 f3 f4 f5
  obtain⟨o,e,c,d⟩:=id st'
  exact⟨u,rfl,Wa (s:={ s with heap:=h' }) e c d (by decide) ⟨x,H,I1,ru,⟨rfl,λys hy=>by rw[I.U7 hy hq];exact hx⟩,st',λb hb=>(hf b hb).1⟩⟩
 done:=by
  intro X hP hw hK hc i pins s σ H E I hf st hg
  subst hP hw hK
  obtain⟨xs,hq,hx⟩:=hg
  obtain⟨its,rv,p,hz⟩:=I.tuple hq
  obtain⟨f0,f1,f2,f3,f4,f5⟩:=hf it (by simp)
  have hl:=rv.length
  exact wpAny_pyNext_tuple_end (I.ok.hd hc) st (show s.heap.IsTuple a its.toArray from p) (by simp;omega) λh' eb=>⟨rfl,I.turned (t':=s.toks) (λb o hb e=>eb b o hb e) f0 f1 f3 f4 f5⟩
 self:=λ_ _ _ _ _ st h=>wpAny_pyIter_tupleiter st h
theorem aQ {P:Program} {w:World} {K:PySem.W.Frag} {tg:Expr} (it:Addr) (lo:Int) (n:Nat):Turn P w K tg (Itr lo n) [it] it (λi h=>IsRangeIter h it (lo+(i:Nat)*1) ((n:Int) - (i:Nat)) 1) where
 mem:=by simp
 obj:=λi h st b hb=>by
  have e:b=it:=by simpa using hb
  subst e
  exact⟨_,st,λv z=>by
   have z':Data.fields _=Data.cell v:=z
   cases z'⟩
 keep:=λi h h' st k=>k it (by simp) _ st
 item:=by
  intro X hP hw hK hc i pins s σ H E I hf st hg
  subst hP hw hK
  obtain⟨f0,f1,f2,f3,f4,f5⟩:=hf it (by simp)
  have W:=Walks.range (prog:=X.prog) (w:=X.w) (I.ok.hd hc) it lo 1 n
  refine W.item i s _ _ hg st λv h' tk hv st' kk=>?_
  obtain⟨t,rfl⟩:=hv
  have I1:Inv X pins σ H { s with heap:=h',toks:=tk }:=I.turned (λb o hb e=>kk b o (by simpa using hb) e) f0 f1 f3 f4 f5
  refine⟨_,rfl,Wa (s:={ s with heap:=h',toks:=tk }) (n:="range_iterator") st' rfl rfl (by decide) ⟨.int (lo+i),H,I1,⟨t,?_⟩,⟨rfl,rfl⟩,st',λb hb=>(hf b hb).1⟩⟩
  rw[Int.mul_one]
 done:=by
  intro X hP hw hK hc i pins s σ H E I hf st hg
  subst hP hw hK
  obtain⟨f0,f1,f2,f3,f4,f5⟩:=hf it (by simp)
  exact wpAny_pyNext_range_end (I.ok.hd hc) st (by have:n<=i:=hg;omega) λh' eb=>⟨rfl,I.turned (t':=s.toks) (λb o hb e=>eb b o hb e) f0 f1 f3 f4 f5⟩
 self:=λ_ _ _ _ _ st h=>wpAny_pyIter_rangeiter st h
section
variable {X:Cx} {tg:Expr}
def zJ (K:PySem.W.Frag) (tl:TE):TI:=fun σ H R=>tl σ H λx H1=>∃a,x=.ref a/\(∃xs,SqL K H1 a xs)/\R (Itl K a) H1
def C1 (K:PySem.W.Frag) (tl:TE):TI:=fun σ H R=>tl σ H λx H1=>∃a,x=.ref a/\(∃xs,SqT K H1 a xs)/\R (Itt K a) H1
theorem Dr {l:Expr} {tl:TE} (hl:PE X l tl):PI X tg l (zJ X.K tl):=by
 intro pins s σ H R I h
 refine thn (hl pins s σ H _ I h) λv s1 ⟨x,H1,I1,r1,q1⟩=>?_
 obtain⟨a,e,⟨xs,hq⟩,q⟩:=q1
 subst e
 cases r1
 obtain⟨its,rv,p,hz⟩:=I1.list hq
 refine Qbl p.isList ?_
 refine⟨s1.heap.objs.size,[s1.heap.objs.size],_,_,H1,rfl,I1.kept (t':=s1.toks) λb o e=>Qat _ e,eG a _,⟨_,QaF _ rfl,rfl,rfl⟩,λb hb=>?_,q⟩
 have e:b=s1.heap.objs.size:=by simpa using hb
 subst e
 exact I1.Qf (Qci _) (I1.hok.fresh (Qci _))
theorem Fg {l:Expr} {tl:TE} (hl:PE X l tl):PI X tg l (C1 X.K tl):=by
 intro pins s σ H R I h
 refine thn (hl pins s σ H _ I h) λv s1 ⟨x,H1,I1,r1,q1⟩=>?_
 obtain⟨a,e,⟨xs,hq⟩,q⟩:=q1
 subst e
 cases r1
 obtain⟨its,rv,p,hz⟩:=I1.tuple hq
 refine QaU (show s1.heap.IsTuple a its.toArray from p) ?_
 refine⟨s1.heap.objs.size,[s1.heap.objs.size],_,_,H1,rfl,I1.kept (t':=s1.toks) λb o e=>Qat _ e,aP a _,⟨_,QaF _ rfl,rfl,rfl⟩,λb hb=>?_,q⟩
 have e:b=s1.heap.objs.size:=by simpa using hb
 subst e
 exact I1.Qf (Qci _) (I1.hok.fresh (Qci _))
theorem lA {pins:List (Addr×Obj)} {σ : St} {H:Hp} {s:Shared} {R:It->Hp->Prop} {E:Value->Shared->Prop} {lo hi:Int} {t u v:Tok} {tk:Nat} (I:Inv X pins σ H s) (h1:-(2 ^ 62)<=lo) (h2:lo < 2 ^ 62) (h3:-(2 ^ 62)<=hi) (h4:hi < 2 ^ 62)
  (q:R (Itr lo (hi - lo).toNat) H):wpAny (model X.prog X.w) X.A (pyIter (.ref s.heap.objs.size)) (PIE X pins σ tg R) E { s with heap:=s.heap.push { cls:=.type "range",data:=.fields #[.int lo t,.int hi u,.int 1 v] },toks:=tk }:=by
 refine wpAny_pyIter_range (IsRange.new ..) (small_one h1 h2 h3 h4) ?_
 have I1:Inv X pins σ H { s with heap:=s.heap.push { cls:=.type "range",data:=.fields #[.int lo t,.int hi u,.int 1 v] },toks:=tk }:=I.kept λb o e=>Qat _ e
 refine⟨(s.heap.push { cls:=.type "range",data:=.fields #[.int lo t,.int hi u,.int 1 v] }).objs.size,[(s.heap.push { cls:=.type "range",data:=.fields #[.int lo t,.int hi u,.int 1 v] }).objs.size],_,_,H,rfl,
  I1.kept (t':=tk) λb o e=>Qat _ e,aQ _ lo (hi - lo).toNat,?_,λb hb=>?_,q⟩
 ·have e1:lo+((0:Nat):Int)*1=lo:=by simp
  have e2:(((hi - lo).toNat:Nat):Int) - ((0:Nat):Int)=Builtin.Range.rangeSize lo hi 1:=by rw[rangeSize_one];split <;> omega
  show IsRangeIter _ _ (lo+((0:Nat):Int)*1) ((((hi - lo).toNat:Nat):Int) - ((0:Nat):Int)) 1
  rw[e1,e2]
  exact QaF _ rfl
 ·have e:b=(s.heap.push { cls:=.type "range",data:=.fields #[.int lo t,.int hi u,.int 1 v] }).objs.size:=by simpa using hb
  subst e
  exact I1.Qf (Qci _) (I1.hok.fresh (Qci _))
def zH (ta:TA):TI:=fun σ H R=>ta σ H λvs H1=>∃j:Int,vs=[.int j]/\-(2 ^ 62)<=j/\j < 2 ^ 62/\R (Itr 0 j.toNat) H1
theorem Cq {a:Expr} {ta:TA} {p pos:Pos} (hg:Gl X "range") (hm:X.mg "range"=none) (ha:PA X [a] ta) (hs:starEach [a] X.env=[(false,eval a X.env)]:=by rfl):PI X tg (.Call (.Name "range" p) [a] [] pos) (zH ta):=by
 intro pins s σ H R I h
 refine Call_ (Kd I hg hm boot_range (Qae (thn (ha pos pins s σ H _ I h) λus s1 ⟨vs,H1,I1,r1,q1⟩=>?_) hs rfl))
 obtain⟨j,e,q1,q2,q⟩:=q1
 subst e
 cases r1 with
 | cons r rr=>
  cases rr
  obtain⟨t,rfl⟩:=r
  exact call_range_1 (lA I1 (by omega) (by omega) q1 q2 (by simpa using q))
def AB (wi:TI) (g:TG) (tb:TS):TS:=λD σ H=>wi σ H λJ H1=>∃W:Nat->Nat->St->Hp->Prop,(∃m,W 0 m σ H1)/\∀i m σ H,W i m σ H ->
 (J.stop i H/\D.nx σ H)\/(J.go i H/\∃N:St->Hp->Prop,(∀ σ' H',N σ' H'->∃m',m' < m/\W (i+1) m' σ' H')/\∀x H',J.yld i H x H'->g x σ H' fun σ2 H2=>tb { D with nx:=N,ct:=N,bk:=D.nx } σ2 H2)
def Lg (fp:List Addr) (h:Heap):List (Addr×Obj):=fp.filterMap λb=>(h.get? b).map λo=>(b,o)
theorem Jd {fp:List Addr} {h:Heap} {b:Addr} {o:Obj} (hb:b∈fp) (e:h.get? b=some o):(b,o)∈Lg fp h:=List.mem_filterMap.mpr ⟨b,hb,by rw[e];rfl⟩
theorem gO {fp:List Addr} {h:Heap} {p:Addr×Obj} (hp:p∈Lg fp h):p.1∈fp/\h.get? p.1=some p.2:=by
 obtain⟨b,hb,e⟩:=List.mem_filterMap.mp hp
 cases q:h.get? b with
 | none=>rw[q] at e;cases e
 | some o=>
  rw[q] at e
  have e':(b,o)=p:=QbB e
  subst e'
  exact⟨hb,q⟩
theorem Inv.pinned {pins:List (Addr×Obj)} {σ : St} {H:Hp} {s:Shared} {fp:List Addr} (I:Inv X pins σ H s) (hf:∀b∈fp,FZ X pins H b) (ho:∀b∈fp,∃o,s.heap.get? b=some o/\∀v,o.data≠.cell v):Inv X (pins++Lg fp s.heap) σ H s:=
 I.QD λp hp=>(Qbz.mp hp).elim (λz=>I.pin p (Qaw _ z)) λz=>by
  obtain⟨hb,e⟩:=gO z
  obtain⟨f0,f1,f2,_⟩:=hf p.1 hb
  obtain⟨o,e',d⟩:=ho p.1 hb
  rw[e] at e';cases e'
  exact⟨e,f0,f1,f2,d⟩
theorem Inv.GC {pins pl:List (Addr×Obj)} {σ : St} {H:Hp} {s:Shared} (I:Inv X (pins++pl) σ H s):Inv X pins σ H s:=I.QD λp hp=>I.pin p (Qaw _ (QaB _ hp))
theorem BW {iter:Expr} {body:List Stmt} {wi:TI} {g:TG} {tb:TS} {pos:Pos} (hp:PassesOwn (model X.prog X.w) X.A X.env X.xe) (hc:X.calm=true) (hi:PI X tg iter wi) (hg:PG X tg g) (hb:PSs X body tb)
  (hs:∀x,foldedSetIterable iter X.env x=pure x:=by intro _;rfl):PS X (.For tg iter body [] pos) (AB wi g tb):=by
 intro pins s σ H D I h
 refine wpAny_For (thn (hi pins s σ H _ I h) λv s1 h1=>thn h1 λitv s2 h2=>?_) hs
 obtain⟨it,fp,tn,J,H2,e,I2,T,st2,f2,W,⟨m0,w0⟩,turn⟩:=h2
 subst e
 have stat:∀{H':Hp},(∀b∈fp,H' b=none)->∀b∈fp,FZ X pins H' b:=λhn b hb=>⟨hn b hb,(f2 b hb).2⟩
 refine codeAny_forLoop_any (λn s'=>∃i σ' H',Inv X pins σ' H' s'/\tn i s'.heap/\(∀b∈fp,H' b=none)/\W i n σ' H') ?_ m0 ⟨0,σ,H2,I2,st2,λb hb=>(f2 b hb).1,w0⟩
 rintro n s3 ⟨i,σ3,H3,I3,st3,fr3,w3⟩
 rcases turn i n σ3 H3 w3 with⟨stop,qn⟩|⟨go,N,hN,step⟩
 ·refine wpAny_passesOwn hp (thn (T.done X rfl rfl rfl hc i pins s3 σ3 H3 X.xe I3 (stat fr3) st3 stop) λr s4 ⟨hr,I4⟩=>?_)
  subst hr
  exact wpAny_execs_nil ⟨σ3,H3,I4,qn⟩
 ·refine wpAny_passesOwn hp (thn (T.item X rfl rfl rfl hc i pins s3 σ3 H3 X.xe I3 (stat fr3) st3 go) λr s4 ⟨u,hr,h4⟩=>?_)
  subst hr
  refine wpAny_passesOwn hp (thn h4 λ_ s5 ⟨x,H5,I5,r5,y5,st5,fr5⟩=>?_)
  have I5':=I5.pinned (stat fr5) (T.obj _ _ st5)
  refine wpAny_passesOwn hp (thn (hg _ s5 σ3 H5 x u _ I5' r5 (step x H5 y5)) λ_ s6 ⟨σ6,H6,I6,q6⟩=>?_)
  refine wpAny_passesOwn hp (thn (hb _ s6 σ6 H6 _ I6 q6) λf s7 q7=>?_)
  have again:∀{σ7:St} {H7:Hp},Inv X (pins++Lg fp s5.heap) σ7 H7 s7->N σ7 H7->∃m,m < n/\∃i σ' H',Inv X pins σ' H' s7/\tn i s7.heap/\(∀b∈fp,H' b=none)/\W i m σ' H':=λ{σ7 H7} I7 n7=>by
   obtain⟨m',hm,w7⟩:=hN σ7 H7 n7
   refine⟨m',hm,i+1,σ7,H7,I7.GC,T.keep _ _ _ st5 λb hb o e=>(I7.pin (b,o) (Qaw _ (Qaw _ (Jd hb e)))).1,λb hb=>?_,w7⟩
   obtain⟨o,e,d⟩:=T.obj _ _ st5 b hb
   exact (I7.pin (b,o) (Qaw _ (Qaw _ (Jd hb e)))).2.1
  cases f with
  | next=>obtain⟨σ7,H7,I7,n7⟩:=q7;exact again I7 n7
  | cont=>obtain⟨σ7,H7,I7,n7⟩:=q7;exact again I7 n7
  | brk=>obtain⟨σ7,H7,I7,q7⟩:=q7;exact⟨σ7,H7,I7.GC,q7⟩
  | ret v=>obtain⟨x7,σ7,H7,I7,r7,q7⟩:=q7;exact⟨x7,σ7,H7,I7.GC,r7,q7⟩
end
theorem RT {K:PySem.W.Frag} {a:Addr} {xs:List V} {g:TG} {tb:TS} {D:Ends} {σ : St} {H:Hp} (Pv:Nat->St->Hp->Prop) (h0:Pv 0 σ H) (hl:∀i σ H,i<=xs.length->Pv i σ H->SqL K H a xs)
  (hs:∀i x σ H,xs[i]?=some x->Pv i σ H->g x σ H fun σ2 H2=>tb { D with nx:=Pv (i+1),ct:=Pv (i+1),bk:=D.nx } σ2 H2) (hd:∀ σ H,Pv xs.length σ H->D.nx σ H) :
  ∃W:Nat->Nat->St->Hp->Prop,(∃m,W 0 m σ H)/\∀i m σ H,W i m σ H ->
   ((Itl K a).stop i H/\D.nx σ H)\/((Itl K a).go i H/\∃N:St->Hp->Prop,(∀ σ' H',N σ' H'->∃m',m' < m/\W (i+1) m' σ' H')/\∀x H',(Itl K a).yld i H x H'->g x σ H' fun σ2 H2=>tb { D with nx:=N,ct:=N,bk:=D.nx } σ2 H2):=by
 refine⟨λi m σ H=>m=xs.length - i/\i<=xs.length/\Pv i σ H,⟨xs.length,by simp,Qcj _,h0⟩,?_⟩
 rintro i m σ H ⟨rfl,hi,p⟩
 have q:=hl i σ H hi p
 by_cases hlt:i < xs.length
 ·refine .inr ⟨⟨xs,xs[i],q,by simp[hlt]⟩,Pv (i+1),fun σ' H' p'=>⟨xs.length - (i+1),by omega,rfl,hlt,p'⟩,λx H' y=>?_⟩
  obtain⟨e,y⟩:=y
  subst e
  exact hs i x σ _ (y xs q) p
 ·have e:i=xs.length:=by omega
  subst e
  exact .inl ⟨⟨xs,q,Qci _⟩,hd σ H p⟩
theorem KZ {K:PySem.W.Frag} {a:Addr} {xs:List V} {g:TG} {tb:TS} {D:Ends} {σ : St} {H:Hp} (Pv:Nat->St->Hp->Prop) (h0:Pv 0 σ H) (hl:∀i σ H,i<=xs.length->Pv i σ H->SqT K H a xs)
  (hs:∀i x σ H,xs[i]?=some x->Pv i σ H->g x σ H fun σ2 H2=>tb { D with nx:=Pv (i+1),ct:=Pv (i+1),bk:=D.nx } σ2 H2) (hd:∀ σ H,Pv xs.length σ H->D.nx σ H) :
  ∃W:Nat->Nat->St->Hp->Prop,(∃m,W 0 m σ H)/\∀i m σ H,W i m σ H ->
   ((Itt K a).stop i H/\D.nx σ H)\/((Itt K a).go i H/\∃N:St->Hp->Prop,(∀ σ' H',N σ' H'->∃m',m' < m/\W (i+1) m' σ' H')/\∀x H',(Itt K a).yld i H x H'->g x σ H' fun σ2 H2=>tb { D with nx:=N,ct:=N,bk:=D.nx } σ2 H2):=by
 refine⟨λi m σ H=>m=xs.length - i/\i<=xs.length/\Pv i σ H,⟨xs.length,by simp,Qcj _,h0⟩,?_⟩
 rintro i m σ H ⟨rfl,hi,p⟩
 have q:=hl i σ H hi p
 by_cases hlt:i < xs.length
 ·refine .inr ⟨⟨xs,xs[i],q,by simp[hlt]⟩,Pv (i+1),fun σ' H' p'=>⟨xs.length - (i+1),by omega,rfl,hlt,p'⟩,λx H' y=>?_⟩
  obtain⟨e,y⟩:=y
  subst e
  exact hs i x σ _ (y xs q) p
 ·have e:i=xs.length:=by omega
  subst e
  exact .inl ⟨⟨xs,q,Qci _⟩,hd σ H p⟩
theorem Dl {lo:Int} {n:Nat} {g:TG} {tb:TS} {D:Ends} {σ : St} {H:Hp} (Pv:Nat->St->Hp->Prop) (h0:Pv 0 σ H)
  (hs:∀i σ H,i < n->Pv i σ H->g (.int (lo+i)) σ H fun σ2 H2=>tb { D with nx:=Pv (i+1),ct:=Pv (i+1),bk:=D.nx } σ2 H2) (hd:∀ σ H,Pv n σ H->D.nx σ H) :
  ∃W:Nat->Nat->St->Hp->Prop,(∃m,W 0 m σ H)/\∀i m σ H,W i m σ H ->
   ((Itr lo n).stop i H/\D.nx σ H)\/((Itr lo n).go i H/\∃N:St->Hp->Prop,(∀ σ' H',N σ' H'->∃m',m' < m/\W (i+1) m' σ' H')/\∀x H',(Itr lo n).yld i H x H'->g x σ H' fun σ2 H2=>tb { D with nx:=N,ct:=N,bk:=D.nx } σ2 H2):=by
 refine⟨λi m σ H=>m=n - i/\i<=n/\Pv i σ H,⟨n,by simp,Qcj _,h0⟩,?_⟩
 rintro i m σ H ⟨rfl,hi,p⟩
 by_cases hlt:i < n
 ·refine .inr ⟨hlt,Pv (i+1),fun σ' H' p'=>⟨n - (i+1),by omega,rfl,hlt,p'⟩,λx H' y=>?_⟩
  obtain⟨e,y⟩:=y
  subst e y
  exact hs i σ _ hlt p
 ·have e:i=n:=by omega
  subst e
  exact .inl ⟨Qci _,hd σ H p⟩
abbrev R2:=V->V->Hp->VK->Prop
def OpR (X:Cx) (f:Value->Value->Sem Value) (r:R2):Prop:=
 ∀(pins:List (Addr×Obj)) (s:Shared) (σ : St) (H:Hp) (x y:V) (v u:Value) (Q:VK),Inv X pins σ H s->RelV x v->RelV y u->r x y H Q ->
  wpAny (model X.prog X.w) X.A (f v u) (EP X pins σ Q) X.xe s
def UnR (X:Cx) (f:Value->Sem Value) (r:V->Hp->VK->Prop):Prop:=
 ∀(pins:List (Addr×Obj)) (s:Shared) (σ : St) (H:Hp) (x:V) (v:Value) (Q:VK),Inv X pins σ H s->RelV x v->r x H Q ->
  wpAny (model X.prog X.w) X.A (f v) (EP X pins σ Q) X.xe s
def Dy (X:Cx) (f:Value) (r:List V->Hp->VK->Prop):Prop:=
 ∀(pins:List (Addr×Obj)) (s:Shared) (σ : St) (H:Hp) (xs:List V) (us:List Value) (Q:VK),Inv X pins σ H s->Vals xs us->r xs H Q ->
  wpAny (model X.prog X.w) X.A (call f us) (EP X pins σ Q) X.xe s
def tOp (r:R2) (ta tb:TE):TE:=fun σ H Q=>ta σ H λx H1=>tb σ H1 λy H2=>r x y H2 Q
def tUn (r:V->Hp->VK->Prop) (ta:TE):TE:=fun σ H Q=>ta σ H λx H1=>r x H1 Q
def rI (C:Int->Int->Prop) (g:Int->Int->V):R2:=λx y H Q=>∃i j,x=.int i/\y=.int j/\C i j/\Q (g i j) H
def rI0 (g:Int->Int->V):R2:=λx y H Q=>∃i j,x=.int i/\y=.int j/\Q (g i j) H
def rU (g:Int->V):V->Hp->VK->Prop:=λx H Q=>∃i,x=.int i/\Q (g i) H
section
variable {X:Cx} {a b c:Expr} {ta tb tc:TE} {pos:Pos}
theorem pU (ha:PE X a ta) (hb:PE X b tb) {pins:List (Addr×Obj)} {s:Shared} {σ : St} {H:Hp} {R:V->V->Hp->Prop} (I:Inv X pins σ H s)
  (h:ta σ H λx H1=>tb σ H1 λy H2=>R x y H2) {Q:Value->Shared->Prop} {f:Value->Value->Sem Value}
  (hf:∀v u s2 x y H2,Inv X pins σ H2 s2->RelV x v->RelV y u->R x y H2->wpAny (model X.prog X.w) X.A (f v u) Q X.xe s2) :
  wpAny (model X.prog X.w) X.A (eval a X.env) (λv s₁=>wpAny (model X.prog X.w) X.A (eval b X.env) (λu s₂=>wpAny (model X.prog X.w) X.A (f v u) Q X.xe s₂) X.xe s₁) X.xe s:=by
 refine thn (ha pins s σ H _ I h) λv s1 ⟨x,H1,I1,r1,q1⟩=>?_
 refine thn (hb pins s1 σ H1 _ I1 q1) λu s2 ⟨y,H2,I2,r2,q2⟩=>?_
 exact hf v u s2 x y H2 I2 r1 r2 q2
theorem Bd {op:Operator} {r:R2} (ho:OpR X (binaryOp op) r) (ha:PE X a ta) (hb:PE X b tb):PE X (.BinOp a op b pos) (tOp r ta tb):=by
 intro pins s σ H Q I h
 exact wpAny_BinOp (pU ha hb I h λv u s2 x y H2 I2 rx ry q=>ho pins s2 σ H2 x y v u Q I2 rx ry q)
theorem V5 {op:UnaryOp} {r:V->Hp->VK->Prop} (ho:UnR X (unaryOp op) r) (ha:PE X a ta):PE X (.UnaryOp op a pos) (tUn r ta):=by
 intro pins s σ H Q I h
 exact UnaryOp_ (thn (ha pins s σ H _ I h) λv s1 ⟨x,H1,I1,r1,q1⟩=>ho pins s1 σ H1 x v Q I1 r1 q1)
theorem opI {f:Value->Value->Sem Value} {C:Int->Int->Prop} {g:Int->Int->Int}
  (rule:∀(i j:Int) (t u:Tok) (s:Shared) (Q:Value->Shared->Prop) (E:Value->Shared->Prop),C i j->Q (.int (g i j) s.toks) { s with toks:=s.toks+1 }->wpAny (model X.prog X.w) X.A (f (.int i t) (.int j u)) Q E s) :
  OpR X f (rI C λi j=>.int (g i j)):=by
 intro pins s σ H x y v u Q I rx ry h
 obtain⟨i,j,rfl,rfl,hc,q⟩:=h
 obtain⟨t,rfl⟩:=rx
 obtain⟨t',rfl⟩:=ry
 exact rule i j t t' s _ _ hc ⟨.int (g i j),H,I.tok _,⟨_,rfl⟩,q⟩
theorem v7 {f:Value->Value->Sem Value} {g:Int->Int->Int}
  (rule:∀(i j:Int) (t u:Tok) (s:Shared) (Q:Value->Shared->Prop) (E:Value->Shared->Prop),Q (.int (g i j) s.toks) { s with toks:=s.toks+1 }->wpAny (model X.prog X.w) X.A (f (.int i t) (.int j u)) Q E s) :
  OpR X f (rI0 λi j=>.int (g i j)):=by
 intro pins s σ H x y v u Q I rx ry h
 obtain⟨i,j,rfl,rfl,q⟩:=h
 obtain⟨t,rfl⟩:=rx
 obtain⟨t',rfl⟩:=ry
 exact rule i j t t' s _ _ ⟨.int (g i j),H,I.tok _,⟨_,rfl⟩,q⟩
theorem bO {f:Value->Value->Sem Value} {g:Int->Int->Bool}
  (rule:∀(i j:Int) (t u:Tok) (s:Shared) (Q:Value->Shared->Prop) (E:Value->Shared->Prop),Q (.bool (g i j)) s->wpAny (model X.prog X.w) X.A (f (.int i t) (.int j u)) Q E s) :
  OpR X f (rI0 λi j=>.bl (g i j)):=by
 intro pins s σ H x y v u Q I rx ry h
 obtain⟨i,j,rfl,rfl,q⟩:=h
 obtain⟨t,rfl⟩:=rx
 obtain⟨t',rfl⟩:=ry
 exact rule i j t t' s _ _ ⟨.bl (g i j),H,I,rfl,q⟩
def GT (i j:Int):Prop:=0 < j/\j < 1073741824
def GS (i j:Int):Prop:=0<=j/\j<=1000000/\i.natAbs < 2 ^ 64
def dY (i j:Int):Prop:=(-(2 ^ 64) < i/\i < 2 ^ 64)\/(-(2 ^ 64) < j/\j < 2 ^ 64)
theorem dY.ok {i j:Int} (h:dY i j):IntMulOk i j:=by
 rcases h with⟨h1,h2⟩|⟨h1,h2⟩
 ·exact .of_left (intBits_le_64 h1 h2)
 ·exact .of_right (intBits_le_64 h1 h2)
theorem Cj:OpR X (binaryOp .Add) (rI0 λi j=>.int (i+j)):=v7 λ_ _ _ _ _ _ _ q=>add_int q
theorem vV:OpR X (binaryOp .Sub) (rI0 λi j=>.int (i - j)):=v7 λ_ _ _ _ _ _ _ q=>sub_int q
theorem GK:OpR X (binaryOp .Mult) (rI dY λi j=>.int (i*j)):=opI λ_ _ _ _ _ _ _ hc q=>mul_int q hc.ok
theorem Ul:OpR X (binaryOp .FloorDiv) (rI GT λi j=>.int (i / j)):=opI λi j _ _ _ _ _ hc q=>by
 have h1:(0:Int) < j:=hc.1
 have h2:j < 1073741824:=hc.2
 exact floordiv_int (by omega) (by rw[Int.fdiv_eq_ediv_of_nonneg i (by omega)];exact q) (.inl (PyProof.noPylong_small (by omega)))
theorem Kc:OpR X (binaryOp .Mod) (rI (λ_ j=>0 < j) λi j=>.int (i % j)):=opI λi j _ _ _ _ _ hc q=>by
 have h1:(0:Int) < j:=hc
 exact mod_int' (by omega) (by rw[Int.fmod_eq_emod_of_nonneg i (by omega)];exact q)
theorem Xl:OpR X (binaryOp .Pow) (rI GS λi j=>.int (i ^ j.toNat)):=opI λ_ _ _ _ _ _ _ hc q=>pow_int_small hc.1 hc.2.1 hc.2.2 q
theorem unI {f:Value->Sem Value} {g:Int->Int}
  (rule:∀(i:Int) (t:Tok) (s:Shared) (Q:Value->Shared->Prop) (E:Value->Shared->Prop),Q (.int (g i) s.toks) { s with toks:=s.toks+1 }->wpAny (model X.prog X.w) X.A (f (.int i t)) Q E s) :
  UnR X f (rU λi=>.int (g i)):=by
 intro pins s σ H x v Q I rx h
 obtain⟨i,rfl,q⟩:=h
 obtain⟨t,rfl⟩:=rx
 exact rule i t s _ _ ⟨.int (g i),H,I.tok _,⟨_,rfl⟩,q⟩
theorem Sh:UnR X (unaryOp .USub) (rU λi=>.int (-i)):=unI λ_ _ _ _ _ q=>neg_int q
end
def vD:V->V->Bool
 | .non,.non=>true | .non,.int _=>true | .int _,.non=>true | .non,.bl _=>true | .bl _,.non=>true | .non,.str _=>true | .str _,.non=>true
 | .int _,.int _=>true | .bl _,.bl _=>true | .str _,.str _=>true | .byt _,.byt _=>true
 | .int _,.str _=>true | .str _,.int _=>true | .bl _,.str _=>true | .str _,.bl _=>true
 | _,_=>false
def rEq:R2:=λx y H Q=>vD x y=true/\Q (.bl (decide (x=y))) H
def rNe:R2:=λx y H Q=>vD x y=true/\Q (.bl (!decide (x=y))) H
theorem aG {i j:Int}:decide (V.int i=V.int j)=(i == j):=by
 rw[QbG]
 simp
theorem jm {i j:Bool}:decide (V.bl i=V.bl j)=(i == j):=by
 rw[QbG]
 simp
theorem aF {i j:Str}:decide (V.str i=V.str j)=(i == j):=by
 rw[QbG]
 simp
theorem aH {i j:Array UInt8}:decide (V.byt i=V.byt j)=(i.toList == j.toList):=by
 rw[QbG]
 cases i
 cases j
 simp
section
variable {X:Cx} {a b c:Expr} {ta tb tc:TE} {pos:Pos}
theorem Bv {pins:List (Addr×Obj)} {σ : St} {H:Hp} {s:Shared} {Q:VK} {k k':Bool} (I:Inv X pins σ H s) (q:Q (.bl k) H) (e:k=k'):EP X pins σ Q (.bool k') s:=by
 subst e
 exact⟨.bl k,H,I,rfl,q⟩
theorem Gy:OpR X (compareOp .Eq) rEq:=by
 intro pins s σ H x y v u Q I rx ry h
 obtain⟨hs,q⟩:=h
 cases x with
 | non=>
  cases rx
  cases y with
  | non=>cases ry;exact PySem.EqNone.eq_none_none (Bv I q (by simp))
  | bl j=>cases ry;exact PySem.EqNone.eq_none_bool (Bv I q (by simp))
  | int j=>obtain⟨t',rfl⟩:=ry;exact PySem.EqNone.eq_none_int (Bv I q (by simp))
  | str j=>obtain⟨t',rfl⟩:=ry;exact PySem.EqNone.eq_none_str (Bv I q (by simp))
  | _=>exact absurd (show false=true from hs) QaP
 | bl i=>
  cases rx
  cases y with
  | non=>cases ry;exact PySem.EqNone.eq_bool_none (Bv I q (by simp))
  | bl j=>cases ry;exact eq_bool (Bv I q jm)
  | str j=>obtain⟨t',rfl⟩:=ry;exact PySem.EqMixed.eq_bool_str (Bv I q (by simp))
  | _=>exact absurd (show false=true from hs) QaP
 | int i=>
  obtain⟨t,rfl⟩:=rx
  cases y with
  | non=>cases ry;exact PySem.EqNone.eq_int_none (Bv I q (by simp))
  | int j=>obtain⟨t',rfl⟩:=ry;exact eq_int (Bv I q aG)
  | str j=>obtain⟨t',rfl⟩:=ry;exact PySem.EqMixed.eq_int_str (Bv I q (by simp))
  | _=>exact absurd (show false=true from hs) QaP
 | str i=>
  obtain⟨t,rfl⟩:=rx
  cases y with
  | non=>cases ry;exact PySem.EqNone.eq_str_none (Bv I q (by simp))
  | bl j=>cases ry;exact PySem.EqMixed.eq_str_bool (Bv I q (by simp))
  | int j=>obtain⟨t',rfl⟩:=ry;exact PySem.EqMixed.eq_str_int (Bv I q (by simp))
  | str j=>obtain⟨t',rfl⟩:=ry;exact eq_str (Bv I q aF)
  | _=>exact absurd (show false=true from hs) QaP
 | byt i=>
  obtain⟨t,rfl⟩:=rx
  cases y with
  | byt j=>obtain⟨t',rfl⟩:=ry;exact PySem.W.eq_bytes (Bv I q aH)
  | _=>exact absurd (show false=true from hs) QaP
 | _=>cases y <;> exact absurd (show false=true from hs) QaP
theorem qG:OpR X (compareOp .NotEq) rNe:=by
 intro pins s σ H x y v u Q I rx ry h
 obtain⟨hs,q⟩:=h
 cases x with
 | non=>
  cases rx
  cases y with
  | non=>cases ry;exact PySem.EqNone.ne_none_none (Bv I q (by simp))
  | bl j=>cases ry;exact PySem.EqNone.ne_none_bool (Bv I q (by simp))
  | int j=>obtain⟨t',rfl⟩:=ry;exact PySem.EqNone.ne_none_int (Bv I q (by simp))
  | str j=>obtain⟨t',rfl⟩:=ry;exact PySem.EqNone.ne_none_str (Bv I q (by simp))
  | _=>exact absurd (show false=true from hs) QaP
 | bl i=>
  cases rx
  cases y with
  | non=>cases ry;exact PySem.EqNone.ne_bool_none (Bv I q (by simp))
  | bl j=>cases ry;exact ne_bool (Bv I q (congrArg not jm))
  | str j=>obtain⟨t',rfl⟩:=ry;exact PySem.EqMixed.ne_bool_str (Bv I q (by simp))
  | _=>exact absurd (show false=true from hs) QaP
 | int i=>
  obtain⟨t,rfl⟩:=rx
  cases y with
  | non=>cases ry;exact PySem.EqNone.ne_int_none (Bv I q (by simp))
  | int j=>obtain⟨t',rfl⟩:=ry;exact ne_int (Bv I q (congrArg not aG))
  | str j=>obtain⟨t',rfl⟩:=ry;exact PySem.EqMixed.ne_int_str (Bv I q (by simp))
  | _=>exact absurd (show false=true from hs) QaP
 | str i=>
  obtain⟨t,rfl⟩:=rx
  cases y with
  | non=>cases ry;exact PySem.EqNone.ne_str_none (Bv I q (by simp))
  | bl j=>cases ry;exact PySem.EqMixed.ne_str_bool (Bv I q (by simp))
  | int j=>obtain⟨t',rfl⟩:=ry;exact PySem.EqMixed.ne_str_int (Bv I q (by simp))
  | str j=>obtain⟨t',rfl⟩:=ry;exact ne_str (Bv I q (congrArg not aF))
  | _=>exact absurd (show false=true from hs) QaP
 | byt i=>
  obtain⟨t,rfl⟩:=rx
  cases y with
  | byt j=>obtain⟨t',rfl⟩:=ry;exact PySem.W.ne_bytes (Bv I q (congrArg not aH))
  | _=>exact absurd (show false=true from hs) QaP
 | _=>cases y <;> exact absurd (show false=true from hs) QaP
theorem V7:OpR X (compareOp .Lt) (rI0 λi j=>.bl (decide (i < j))):=bO λ_ _ _ _ _ _ _ q=>lt_int q
theorem Ml:OpR X (compareOp .LtE) (rI0 λi j=>.bl (decide (i<=j))):=bO λ_ _ _ _ _ _ _ q=>le_int q
theorem V8:OpR X (compareOp .Gt) (rI0 λi j=>.bl (decide (j < i))):=bO λ_ _ _ _ _ _ _ q=>gt_int q
theorem zu:OpR X (compareOp .GtE) (rI0 λi j=>.bl (decide (j<=i))):=bO λ_ _ _ _ _ _ _ q=>ge_int q
theorem gD:OpR X (compareOp .In) (λx y H Q=>∃i j,x=.str i/\y=.str j/\Q (.bl (!(Builtin.Str.occurrences j i 0 j.length 1).isEmpty)) H):=by
 intro pins s σ H x y v u Q I rx ry h
 obtain⟨i,j,rfl,rfl,q⟩:=h
 obtain⟨t,rfl⟩:=rx
 obtain⟨t',rfl⟩:=ry
 exact in_str (Bv I q rfl)
theorem vY:OpR X (compareOp .Is) (λx y H Q=>y=.non/\Q (.bl (decide (x=.non))) H):=by
 intro pins s σ H x y v u Q I rx ry h
 obtain⟨rfl,q⟩:=h
 cases ry
 refine is_none_gen (Bv I q ?_)
 cases x <;> first
  | (cases rx;rfl)
  | (obtain⟨t,rfl⟩:=rx;rfl)
theorem rY:OpR X (compareOp .IsNot) (λx y H Q=>y=.non/\Q (.bl (!decide (x=.non))) H):=by
 intro pins s σ H x y v u Q I rx ry h
 obtain⟨rfl,q⟩:=h
 cases ry
 refine isnot_none_gen (Bv I q ?_)
 cases x <;> first
  | (cases rx;rfl)
  | (obtain⟨t,rfl⟩:=rx;rfl)
theorem BJ (b:Expr) {op:CmpOp} (h:op≠.In:=by decide) (h2:op≠.NotIn:=by decide):behindInMarks op b=false:=by
 have e1:(op == CmpOp.In)=false:=by cases op <;> first | rfl | exact absurd rfl h
 have e2:(op == CmpOp.NotIn)=false:=by cases op <;> first | rfl | exact absurd rfl h2
 cases b <;> simp[behindInMarks,e1,e2]
theorem Js {op:CmpOp} {r:R2} (ho:OpR X (compareOp op) r) (ha:PE X a ta) (hb:PE X b tb) (hm:behindInMarks op b=false):PE X (.Compare a [op] [b] pos) (tOp r ta tb):=by
 intro pins s σ H Q I h
 exact wpAny_Compare1 (pU ha hb I h λv u s2 x y H2 I2 rx ry q=>ho pins s2 σ H2 x y v u Q I2 rx ry q) hm
def yO (t:TE):TT:=fun σ H Q=>t σ H λx H'=>∃k,x=.bl k/\Q k H'
theorem Bq {op:CmpOp} {r:R2} (ho:OpR X (compareOp op) r) (ha:PE X a ta) (hb:PE X b tb) (hm:behindInMarks op b=false):PT X (.Compare a [op] [b] pos) (yO (tOp r ta tb)):=by
 intro pins s σ H Q I h
 refine wpAny_isTrue_Compare1 (thn (ha pins s σ H _ I h) λv s1 ⟨x,H1,I1,r1,q1⟩=>thn (hb pins s1 σ H1 _ I1 q1) λu s2 ⟨y,H2,I2,r2,q2⟩=>
  thn (ho pins s2 σ H2 x y v u _ I2 r1 r2 q2) λc s3 ⟨z,H3,I3,r3,k,e,q3⟩=>?_) hm
 subst e
 cases r3
 exact Qbk ⟨H3,I3,q3⟩
def vf (r r':R2) (ta tb tc:TE):TE:=fun σ H Q=>ta σ H λx H1=>tb σ H1 λy H2=>r x y H2 λz H3=>∃k,z=.bl k /\
 (if k=true then tc σ H3 λw' H4=>r' y w' H4 Q else Q (.bl false) H3)
theorem Ob {op op':CmpOp} {r r':R2} (ho:OpR X (compareOp op) r) (ho':OpR X (compareOp op') r') (ha:PE X a ta) (hb:PE X b tb) (hc:PE X c tc)
  (hm:lastMarks [op,op'] [b,c]=false:=by with_unfolding_all rfl):PE X (.Compare a [op,op'] [b,c] pos) (vf r r' ta tb tc):=by
 intro pins s σ H Q I h
 refine Compare_chain (thn (ha pins s σ H _ I h) λv s1 ⟨x,H1,I1,r1,q1⟩=>chain_link (thn (hb pins s1 σ H1 _ I1 q1) λu s2 ⟨y,H2,I2,r2,q2⟩=>
  thn (ho pins s2 σ H2 x y v u _ I2 r1 r2 q2) λd s3 ⟨z,H3,I3,r3,k,e,q3⟩=>?_)) hm
 subst e
 cases r3
 refine Qbk ?_
 cases k with
 | false=>exact ite_ff ⟨.bl false,H3,I3,rfl,q3⟩
 | true=>exact ite_tt (chain_last (thn (hc pins s3 σ H3 _ I3 q3) λw' s4 ⟨z',H4,I4,r4,q4⟩=>ho' pins s4 σ H4 y z' u w' Q I4 r2 r4 q4))
theorem Nv:(sizeLine:Nat) < 2 ^ 63:=by rw[Qcm];decide
theorem S6:OpR X (binaryOp .Add) (λx y H Q=>∃i j,x=.str i/\y=.str j/\i.length+j.length<=sizeLine/\Q (.str (i++j)) H):=by
 intro pins s σ H x y v u Q I rx ry h
 obtain⟨i,j,rfl,rfl,hz,q⟩:=h
 obtain⟨t,rfl⟩:=rx
 obtain⟨t',rfl⟩:=ry
 exact add_str (λt' tk=>⟨.str (i++j),H,I.tok _,⟨_,rfl⟩,q⟩) hz
theorem vals1 {x:V} {us:List Value} (r:Vals [x] us):∃u,us=[u]/\RelV x u:=by
 cases r with
 | cons r1 r2=>cases r2;exact⟨_,rfl,r1⟩
theorem vals2 {x y:V} {us:List Value} (r:Vals [x,y] us):∃u w',us=[u,w']/\RelV x u/\RelV y w':=by
 cases r with
 | cons r1 r2=>
  cases r2 with
  | cons r3 r4=>cases r4;exact⟨_,_,rfl,r1,r3⟩
theorem Yt:Dy X (.builtin "abs") (λxs H Q=>∃i,xs=[.int i]/\Q (.int (if i < 0 then -i else i)) H):=by
 intro pins s σ H xs us Q I r h
 obtain⟨i,rfl,q⟩:=h
 obtain⟨u,rfl,t,rfl⟩:=vals1 r
 exact call_abs_int λu tk=>⟨.int (if i < 0 then -i else i),H,I.tok _,⟨_,rfl⟩,q⟩
theorem jz (hc:X.calm=true):Dy X (.builtin "max") (λxs H Q=>∃i j,xs=[.int i,.int j]/\Q (.int (if j > i then j else i)) H):=by
 intro pins s σ H xs us Q I r h
 obtain⟨i,j,rfl,q⟩:=h
 obtain⟨u,w',rfl,⟨t,rfl⟩,⟨t',rfl⟩⟩:=vals2 r
 refine max_two_ints (I.ok.hd hc) λh' tk k=>⟨_,H,I.kept k,?_,q⟩
 by_cases hj:j > i
 ·rw[if_pos hj,if_pos hj];exact⟨_,rfl⟩
 ·rw[if_neg hj,if_neg hj];exact⟨_,rfl⟩
theorem Vo (hc:X.calm=true):Dy X (.builtin "min") (λxs H Q=>∃i j,xs=[.int i,.int j]/\Q (.int (if j < i then j else i)) H):=by
 intro pins s σ H xs us Q I r h
 obtain⟨i,j,rfl,q⟩:=h
 obtain⟨u,w',rfl,⟨t,rfl⟩,⟨t',rfl⟩⟩:=vals2 r
 refine min_two_ints (I.ok.hd hc) λh' tk k=>⟨_,H,I.kept k,?_,q⟩
 by_cases hj:j < i
 ·rw[if_pos hj,if_pos hj];exact⟨_,rfl⟩
 ·rw[if_neg hj,if_neg hj];exact⟨_,rfl⟩
theorem jC:Dy X (.type "int") (λxs H Q=>(∃i,xs=[.int i]/\Q (.int i) H)\/∃k,xs=[.bl k]/\Q (.int (if k then 1 else 0)) H):=by
 intro pins s σ H xs us Q I r h
 rcases h with⟨i,rfl,q⟩|⟨k,rfl,q⟩
 ·obtain⟨u,rfl,t,rfl⟩:=vals1 r
  exact call_int_int ⟨.int i,H,I,⟨_,rfl⟩,q⟩
 ·obtain⟨u,rfl,r1⟩:=vals1 r
  cases r1
  exact call_int_bool ⟨.int (if k then 1 else 0),H,I.tok _,⟨_,rfl⟩,q⟩
end
structure R8 (h:Heap) (x dx C:Addr) (mA:Str->Option Value):Prop where
 obj:h.get? x=some (instObj C dx)
 ns:h.Ns1 dx mA
 ne:dx≠x
theorem ig {h:Heap} {dx:Addr} {mA:Str->Option Value} (n:h.Ns1 dx mA):∃od,h.get? dx=some od/\∀name,lookIn name od=some (mA name):=by
 obtain⟨o,es,ep,ho,hd,hk,_,hm⟩:=n
 refine⟨o,ho,λname=>?_⟩
 have e:=hm name
 unfold nsFind findBy at e
 rw[<-Array.find?_toList] at e
 unfold lookIn
 rw[hd]
 dsimp only
 split
 ·rename_i y q
  rw[q] at e
  exact congrArg some e
 ·rename_i q
  rw[q] at e
  have a:es.toList.any (·.refKey)=false:=by
   rw[List.any_eq_false]
   intro y hy
   obtain⟨z,t,hkey⟩:=hk y (Array.mem_toList_iff.mp hy)
   simp[DictEntry.refKey,hkey]
  have a':¬es.toList.any (·.refKey)=true:=by rw[a];exact QaP
  rw[if_neg a']
  exact congrArg some e
theorem R8.look {h:Heap} {x dx C:Addr} {mA:Str->Option Value} (I:R8 h x dx C mA):∃od,PySem.W.InstAt h x (instObj C dx) C (some od)/\∀name,lookIn name od=some (mA name):=
 let ⟨od,ho,hl⟩:=ig I.ns
 ⟨od,⟨I.obj,rfl,rfl,ho⟩,hl⟩
section
variable {prog:Program} {w:World} {A:Around} {E:Value->Shared->Prop} {s:Shared} {K:PySem.W.Frag} {x dx C f:Addr} {mA:Str->Option Value} {name:Str} {v:Value}
theorem get_map {expr:Bool} {Q:Value->Shared->Prop} (X:K.In s.heap) (I:R8 s.heap x dx C mA) (hg:plainGet K C name=true) (hh:hasDictIn K C=true)
  (ha:findIn K (.ref C) name=some none) (hv:mA name=some v) (hv':PySem.W.handedIn v=true) (h:Q v { s with toks:=s.toks+1 }) :
  wpAny (model prog w) A (getAttr (.ref x) name expr) Q E s:=by
 obtain⟨od,J,hl⟩:=I.look
 exact PySem.W.get_value X J (PySem.W.plainGet_of hg).1 (PySem.W.findObj_own hh ha rfl (by rw[hl,hv])) hv' h
theorem pF {pl:Sem Bool} {Q:Value×List Value->Shared->Prop} (X:K.In s.heap) (I:R8 s.heap x dx C mA) (hg:plainGet K C name=true)
  (hf:findIn K (.ref C) name=some (some (.ref f))) (ht:isFn K (.ref f)=true) (hv:mA name=none) (h:Q (.ref f,[.ref x]) s) :
  wpAny (model prog w) A (getMethod (.ref x) name pl) Q E s:=by
 obtain⟨od,J,hl⟩:=I.look
 exact PySem.W.method_fn X J (PySem.W.plainGet_of hg).1 (PySem.W.plainGet_of hg).2 hf (beq_iff_eq.mp ht) (by show (lookIn name od).map (·.isSome)=some false;rw[hl,hv];rfl) h
theorem rG {ns:List Str} {Q:Unit->Shared->Prop} (X:K.In s.heap) (I:R8 s.heap x dx C mA)
  (hs:findIn K (.ref C) "__setattr__"=some (some (.builtin "object.__setattr__"))) (hp:PySem.W.plainOver K C=true) (ht:PySem.W.takerIn K C name=some none) (hh:hasDictIn K C=true)
  (hw:PySem.Within mA ns) (hsz:ns.length<=sizeLine)
  (h:∀h',R8 h' x dx C (λy=>if y=name then some v else mA y)->Heap.SameBut dx s.heap h'->Q () { s with heap:=h',toks:=s.toks+2 }) :
  wpAny (model prog w) A (setAttr (.ref x) name v) Q E s:=by
 obtain⟨od,J,hl⟩:=I.look
 refine PySem.W.set_plain X J hs (PySem.W.osa_open (s:={ s with toks:=s.toks+1 }) (r:=none) X J hp ht λb=>?_)
 obtain⟨cd,hc,hd'⟩:=PySem.W.any_some hh
 have hx:s.heap.get? x=some ⟨.ref C,some dx,.plain,#[]⟩:=I.obj
 refine Qcn (Qco (Qcn (Qcn (wpAny_loadPart hx (Qcn (PySem.W.Looks.here (s:={ s with toks:=s.toks+1 }) (PySem.W.looks_clsIn X hc) ?_))))))
 rw[hd']
 refine Qco (a:=some dx) (Qcn (Qco (Qcn ?_)))
 refine wpAny_nsSet1 (s:={ s with toks:=s.toks+1 }) I.ns λh' hn2 hs2=>?_
 obtain⟨oD,esD,epD,hoD,hdD,hcD⟩:=hn2.count (PySem.Within.cons name v hw)
 refine Qcn (wpAny_lookBehind hoD (by rw[hdD];exact pastItsLine_dict (Qcd hcD (by rw[Qbq];omega))) ?_)
 exact Qco (h _ ⟨(hs2.2 _ (Ne.symm I.ne)).trans I.obj,hn2,I.ne⟩ hs2)
theorem mU {R:Result->Shared->Prop} {vs:List Value} {kw:List (Str×Value)} (X:K.In s.heap) (hm:makesIn K C=true)
  (hi:findIn K (.ref C) "__init__"=some (some (.ref f))) (hf:PySem.W.typeIn K (.ref f)=some (.type "function"))
  (h:codeAny (model prog w) (A.under (.builtin "type.__call__" ⟨.ref C::vs,kw⟩)) (.call (.ref f) ⟨.ref (s.heap.objs.size+1)::vs,kw⟩) (PySem.W.InitBack (s.heap.objs.size+1) R)
   { s with heap:=(s.heap.push emptyDict).push (instObj C s.heap.objs.size) }) :
  codeAny (model prog w) A (.call (.ref C) ⟨vs,kw⟩) R s:=by
 obtain⟨hh,g,d,t,os⟩:=s
 exact PySem.W.make_core (PySem.W.makes_of X hm) (looks_findIn X hi) (λself=>PySem.W.bind_fn X self hf) (.inl rfl) h
end
def Gp (f:Str) (v:V):List (Str×V)->List (Str×V)
 | []=>[(f,v)]
 | (g,x)::r=>if g=f then (g,v)::r else (g,x)::Gp f v r
theorem Ri (f g:Str) (v:V):∀fs:List (Str×V),(Gp f v fs).lookup g=if g=f then some v else fs.lookup g
 | []=>by
  show List.lookup g [(f,v)]=_
  by_cases h:g=f
  ·have hb:(g == f)=true:=beq_iff_eq.mpr h
   simp only[List.lookup,hb,if_pos h]
  ·have hb:(g == f)=false:=QaG.mpr h
   simp only[List.lookup,hb,if_neg h]
 | (k,x)::r=>by
  have ih:=Ri f g v r
  rw[show Gp f v ((k,x)::r)=(if k=f then (k,v)::r else (k,x)::Gp f v r) from rfl]
  by_cases hk:k=f
  ·rw[if_pos hk]
   by_cases h:g=k
   ·have hb:(g == k)=true:=beq_iff_eq.mpr h
    simp only[List.lookup,hb,if_pos (h.trans hk)]
   ·have hb:(g == k)=false:=QaG.mpr h
    simp only[List.lookup,hb,if_neg (λe:g=f=>h (e.trans hk.symm))]
  ·rw[if_neg hk]
   by_cases h:g=k
   ·have hb:(g == k)=true:=beq_iff_eq.mpr h
    simp only[List.lookup,hb,if_neg (λe:g=f=>hk (h.symm.trans e))]
   ·have hb:(g == k)=false:=QaG.mpr h
    simp only[List.lookup,hb]
    exact ih
theorem Qc (f:Str) (v:V):∀fs:List (Str×V),f∈(Gp f v fs).map (·.1)/\∀g,g∈fs.map (·.1)->g∈(Gp f v fs).map (·.1)
 | []=>⟨by simp[Gp],λg h=>by simp at h⟩
 | (k,x)::r=>by
  obtain⟨i1,i2⟩:=Qc f v r
  rw[show Gp f v ((k,x)::r)=(if k=f then (k,v)::r else (k,x)::Gp f v r) from rfl]
  by_cases hk:k=f
  ·rw[if_pos hk]
   subst hk
   exact⟨by simp,λg h=>by simpa using h⟩
  ·rw[if_neg hk]
   refine⟨?_,λg h=>?_⟩
   ·rw[QbT]
    exact QaA _ i1
   ·rw[QbT] at h ⊢
    rcases QbS.mp h with e | e
    ·exact QbS.mpr (.inl e)
    ·exact QaA _ (i2 g e)
theorem Rj (f:Str) (v:V):∀fs:List (Str×V),(Gp f v fs).length<=fs.length+1
 | []=>by simp[Gp]
 | (k,x)::r=>by
  have ih:=Rj f v r
  rw[show Gp f v ((k,x)::r)=(if k=f then (k,v)::r else (k,x)::Gp f v r) from rfl]
  by_cases hk:k=f
  ·rw[if_pos hk,Qbq,Qbq];omega
  ·rw[if_neg hk,Qbq,Qbq];omega
theorem Gs.some_of {v:V} {o:Option Value} (r:Gs (some v) o):∃u,o=some u/\RelV v u:=by
 cases o with
 | none=>exact (show False from r).elim
 | some u=>exact⟨u,rfl,r⟩
theorem Gs.none_of {o:Option Value} (r:Gs none o):o=none:=by
 cases o with
 | none=>rfl
 | some u=>exact (show False from r).elim
theorem iM {v:V} {u:Value} (r:RelV v u):PySem.W.handedIn u=true:=by
 cases v with
 | non=>cases (show u=Value.none from r);rfl
 | bl b=>cases (show u=Value.bool b from r);rfl
 | int i=>obtain⟨t,e⟩:=(show ∃t,u=Value.int i t from r);cases e;rfl
 | str x=>obtain⟨t,e⟩:=(show ∃t,u=Value.str x t from r);cases e;rfl
 | byt b=>obtain⟨t,e⟩:=(show ∃t,u=Value.bytes b t from r);cases e;rfl
 | flt b=>obtain⟨t,e⟩:=(show ∃t,u=Value.float b t from r);cases e;rfl
 | ref a=>cases (show u=Value.ref a from r);rfl
 | ty n=>cases (show u=Value.type n from r);rfl
section
variable {P:Program} {w:World} {H H':Hp} {h h':Heap} {a C dx:Addr} {fs fs':List (Str×V)}
theorem QH (hok:HOk P w H h) (e:H a=some (.ins C dx fs)):∃mA,R8 h a dx C mA/\(∀f,Gs (fs.lookup f) (mA f))/\PySem.Within mA (fs.map (·.1))/\fs.length<=1000/\H dx=some (.own a):=by
 obtain⟨d,z,ne,ob,mA,n,r,q⟩:=(show Bm P w H h a (.ins C dx fs) from hok a _ e)
 exact⟨mA,⟨ob,n,ne⟩,r,q,z,d⟩
end
structure Cls (K:PySem.W.Frag) (C:Addr):Prop where
 pg:plainGet K C Str.empty=true
 hd:hasDictIn K C=true
 po:PySem.W.plainOver K C=true
 sa:findIn K (.ref C) "__setattr__"=some (some (.builtin "object.__setattr__"))
theorem Cls.get {K:PySem.W.Frag} {C:Addr} (c:Cls K C) (f:Str):plainGet K C f=true:=c.pg
def Hw (K:PySem.W.Frag) (C:Addr) (f:Str):Prop:=findIn K (.ref C) f=some none
theorem Hw.taker {K:PySem.W.Frag} {C:Addr} {f:Str} (n:Hw K C f):PySem.W.takerIn K C f=some none:=by
 unfold PySem.W.takerIn
 rw[show findIn K (.ref C) f=some none from n]
 rfl
structure Meth (K:PySem.W.Frag) (C:Addr) (m:Str) (f:Addr):Prop where
 at_:findIn K (.ref C) m=some (some (.ref f))
 fn:isFn K (.ref f)=true
 kp:keepIn K (.ref f)=true
section
variable {X:Cx} {pins:List (Addr×Obj)} {σ : St} {H:Hp} {s:Shared} {a C dx:Addr} {fs:List (Str×V)} {f:Str} {v:V} {A:Around} {E:Value->Shared->Prop}
theorem cU {b:Bool} {Q:Value->Shared->Prop} (I:Inv X pins σ H s) (e:H a=some (.ins C dx fs)) (c:Cls X.K C) (n:Hw X.K C f) (l:fs.lookup f=some v)
  (h:∀u s',Inv X pins σ H s'->RelV v u->Q u s'):wpAny (model X.prog X.w) A (getAttr (.ref a) f b) Q E s:=by
 obtain⟨mA,O,r,_,_,_⟩:=QH I.hok e
 obtain⟨u,hu,ru⟩:=Gs.some_of (v:=v) (o:=mA f) (by rw[<-l];exact r f)
 exact get_map I.kIn O (c.get f) c.hd n hu (iM ru) (h u _ (I.tok _) ru)
theorem KC {m:Str} {g:Addr} {pl:Sem Bool} {Q:Value×List Value->Shared->Prop} (I:Inv X pins σ H s) (e:H a=some (.ins C dx fs)) (c:Cls X.K C) (k:Meth X.K C m g) (l:fs.lookup m=none)
  (h:Q (.ref g,[.ref a]) s):wpAny (model X.prog X.w) A (getMethod (.ref a) m pl) Q E s:=by
 obtain⟨mA,O,r,_,_,_⟩:=QH I.hok e
 have hn:mA m=none:=Gs.none_of (by rw[<-l];exact r m)
 exact pF I.kIn O (c.get m) k.at_ k.fn hn h
theorem bD {y:V} {u:Value} {Q:Unit->Shared->Prop} (I:Inv X pins σ H s) (e:H a=some (.ins C dx fs)) (c:Cls X.K C) (n:Hw X.K C f) (hl:fs.length < 1000) (ry:RelV y u)
  (h:∀s',Inv X pins σ (upd H a (.ins C dx (Gp f y fs))) s'->Q () s'):wpAny (model X.prog X.w) A (setAttr (.ref a) f u) Q E s:=by
 obtain⟨mA,O,r,wi,_,ho⟩:=QH I.hok e
 have hz:(fs.map (·.1)).length<=sizeLine:=by rw[Qbx,Qcm];omega
 refine rG I.kIn O c.sa c.po n.taker c.hd wi hz λh' O' sb=>h _ ?_
 have hd:∃o,h'.get? dx=some o:=let ⟨o,_,_,e',_⟩:=O'.ns;⟨o,e'⟩
 refine I.write (x:=a) (e:=dx) (by rw[e];exact True.intro) (.inr ho) (λb q hb z=>(sb.2 b hb).trans z) hd ?_
 refine⟨by rw[Al O.ne];exact ho,?_,O.ne,O'.obj,_,O'.ns,λg=>?_,λg hg=>?_⟩
 ·have:=Rj f y fs;omega
 ·show Gs ((Gp f y fs).lookup g) (if g=f then some u else mA g)
  rw[Ri]
  by_cases q:g=f
  ·rw[if_pos q,if_pos q];exact ry
  ·rw[if_neg q,if_neg q];exact r g
 ·by_cases q:g=f
  ·rw[q];exact (Qc f y fs).1
  ·refine (Qc f y fs).2 g (wi g λz=>hg ?_)
   show (if g=f then some u else mA g)=none
   rw[if_neg q];exact z
theorem Inv.made (I:Inv X pins σ H s):Inv X pins σ (upd (upd H s.heap.objs.size (.own (s.heap.objs.size+1))) (s.heap.objs.size+1) (.ins C s.heap.objs.size []))
  { s with heap:=(s.heap.push emptyDict).push (instObj C s.heap.objs.size) }:=by
 have e1:(s.heap.push emptyDict).get? s.heap.objs.size=some emptyDict:=QaF s.heap rfl
 have e2:((s.heap.push emptyDict).push (instObj C s.heap.objs.size)).get? (s.heap.objs.size+1)=some (instObj C s.heap.objs.size):=by
  have:=QaF (s.heap.push emptyDict) (o:=instObj C s.heap.objs.size) rfl
  rwa [QbN] at this
 have e3:(s.heap.push emptyDict).Ns s.heap.objs.size (λ_=>none):=⟨emptyDict,#[],_,e1,rfl,(λe he=>absurd he (by simp)),λ_=>rfl⟩
 have I1:=I.laid (a:=s.heap.objs.size) (o:=.own (s.heap.objs.size+1)) (h':=s.heap.push emptyDict) (t':=s.toks) (λb u q=>Qat _ q) (Qci _) ⟨_,e1⟩
 refine I1.laid (a:=s.heap.objs.size+1) (o:=.ins C s.heap.objs.size []) (t':=s.toks) (λb u q=>Qat _ q) (Nat.le_of_eq (QbN _ _)) ?_
 have ne:s.heap.objs.size≠s.heap.objs.size+1:=Qcc (Qbv _)
 refine⟨by rw[Al ne,Ac],Qcj _,ne,e2,λ_=>none,(Heap.Ns1.of_empty e3).at λo q=>Qat _ q,λ_=>True.intro,λy hy=>absurd rfl hy⟩
theorem uy {prog:Program} {w:World} {env:Env} {e:Expr} {f:Str} {pos:Pos} {s:Shared} {Q:Value->Shared->Prop} (hb:attributeBase e f env (eval e env)=eval e env)
  (h:wpAny (model prog w) A (eval e env) (λo s₁=>wpAny (model prog w) A (getAttr o f true) Q E s₁) E s):wpAny (model prog w) A (eval (.Attribute e f pos) env) Q E s:=
 Attribute_any_ h (by rw[arm_eval_Attribute,hb])
end
def AC (K:PySem.W.Frag) (ta:TE) (f:Str):TE:=fun σ H Q=>ta σ H λx H1=>∃a C dx fs v,x=.ref a/\H1 a=some (.ins C dx fs)/\Cls K C/\Hw K C f/\fs.lookup f=some v/\Q v H1
section
variable {X:Cx} {o e value:Expr} {f:Str} {pos pos' tpos:Pos} {ta tv:TE}
theorem Jb (he:PE X e ta) (hb:attributeBase e f X.env (eval e X.env)=eval e X.env):PE X (.Attribute e f pos) (AC X.K ta f):=by
 intro pins s σ H Q I h
 refine uy hb (thn (he pins s σ H _ I h) λu s1 ⟨x,H1,I1,rx,a,C,dx,fs,v,ex,ea,c,n,l,q⟩=>?_)
 subst ex
 obtain rfl:u=Value.ref a:=rx
 exact cU I1 ea c n l λu' s2 I2 ru=>⟨v,H1,I2,ru,q⟩
theorem yK {pl:Sem Bool} {m:Str} {apos:Pos} {args:List Expr} {pins:List (Addr×Obj)} {s:Shared} {σ : St} {H:Hp} {Q:Value->Shared->Prop} {te:TE} (he:PE X e te) (I:Inv X pins σ H s)
  (h:te σ H λx H1=>∃a C dx fs g,x=.ref a/\H1 a=some (.ins C dx fs)/\Cls X.K C/\Meth X.K C m g/\fs.lookup m=none /\
   ∀s1,Inv X pins σ H1 s1->wpAny (model X.prog X.w) X.A (callWith pos (.ref g) [.ref a] (backTo pos (starEach args X.env)) (backToKw pos (keywordEach [] X.env))) Q X.xe s1)
  (ht:eval (.Call (.Attribute e m apos) args [] pos) X.env=(do
   let ov <-eval e X.env
   standAt apos.atName
   let (f,first) <-holding [ov] (getMethod ov m pl)
   callWith pos f first (backTo pos (starEach args X.env)) (backToKw pos (keywordEach [] X.env)))) :
  wpAny (model X.prog X.w) X.A (eval (.Call (.Attribute e m apos) args [] pos) X.env) Q X.xe s:=by
 refine methodCall_KW (pl:=pl) (thn (he pins s σ H _ I h) λu s1 ⟨x,H1,I1,rx,a,C,dx,fs,g,ex,ea,c,k,l,q⟩=>?_) ht
 subst ex
 obtain rfl:u=Value.ref a:=rx
 exact KC I1 ea c k l (q s1 I1)
end
section
variable {X:Cx} {pins:List (Addr×Obj)} {σ : St} {H:Hp} {s:Shared} {A:Around} {E:Value->Shared->Prop} {Q:Value->Shared->Prop} {c:Value} {b:Bool}
inductive JC (K:PySem.W.Frag) (H:Hp):V->Value->Prop where
 | non:JC K H .non (.type "NoneType")
 | bl (x:Bool):JC K H (.bl x) (.type "bool")
 | int (i:Int):JC K H (.int i) (.type "int")
 | str (x:Str):JC K H (.str x) (.type "str")
 | flt (x:UInt64):JC K H (.flt x) (.type "float")
 | lst {a:Addr} {xs:List V} (e:H a=some (.lst xs)):JC K H (.ref a) (.type "list")
 | frz {a:Addr} {o:Obj} {xs:List V} (e:H a=some (.frz o (.lst xs))):JC K H (.ref a) (.type "list")
 | tup {a:Addr} {xs:List V} (e:H a=some (.tup xs)):JC K H (.ref a) (.type "tuple")
 | dK {a:Addr} {kvs:List (Key×V)} (e:H a=some (.dK kvs)):JC K H (.ref a) (.type "dict")
 | dT {a:Addr} {kvs:List (List Key×V)} (e:H a=some (.dT kvs)):JC K H (.ref a) (.type "dict")
 | ins {a C dx:Addr} {fs:List (Str×V)} (e:H a=some (.ins C dx fs)) (cl:Cls K C) (ha:findIn K (.ref C) "__class__"=some (some (.builtin "object.__class__")))
   (hn:PySem.W.specialIn K (.builtin "object.__class__") "__get__"=some (some (.builtin "getset_descriptor.__get__"))) (htk:PySem.W.takesIn K (.builtin "object.__class__")=some true)
   (hm:PySem.W.mroIn K C (.type "object")=some true):JC K H (.ref a) (.ref C)
theorem iC {x:V} {u t:Value} (I:Inv X pins σ H s) (rx:RelV x u) (ty:JC X.K H x t) (e:kitOne X.K t c=some b) (h:∀tk,Q (.bool b) { s with toks:=tk }) :
  wpAny (model X.prog X.w) A (call (.builtin "isinstance") [u,c]) Q E s:=by
 cases ty with
 | non=>cases (show u=Value.none from rx);exact kia_one PySem.W.kitx_none I.kIn True.intro e (λz=>nomatch z) h
 | bl y=>cases (show u=Value.bool y from rx);exact kia_one PySem.W.kitx_bool I.kIn True.intro e (λz=>nomatch z) h
 | int i=>obtain⟨t,q⟩:=(show ∃t,u=Value.int i t from rx);cases q;exact kia_one PySem.W.kitx_int I.kIn True.intro e (λz=>nomatch z) h
 | str y=>obtain⟨t,q⟩:=(show ∃t,u=Value.str y t from rx);cases q;exact kia_one PySem.W.kitx_str I.kIn True.intro e (λz=>nomatch z) h
 | flt y=>obtain⟨t,q⟩:=(show ∃t,u=Value.float y t from rx);cases q;exact kia_one PySem.W.kitx_float I.kIn True.intro e (λz=>nomatch z) h
 | @lst a xs ea=>
  cases (show u=Value.ref a from rx)
  obtain⟨_,_,n,_,h1⟩:=(show Bm X.prog X.w H s.heap a (.lst xs) from I.hok a _ ea)
  exact kia_one PySem.W.kitx_list I.kIn ⟨_,h1,rfl⟩ e (λz=>nomatch z) h
 | @frz a ob xs ea=>
  cases (show u=Value.ref a from rx)
  obtain⟨_,_,_,n,_,h1⟩:=(show Bm X.prog X.w H s.heap a (.frz ob (.lst xs)) from I.hok a _ ea)
  exact kia_one PySem.W.kitx_list I.kIn ⟨_,h1,rfl⟩ e (λz=>nomatch z) h
 | @tup a xs ea=>
  cases (show u=Value.ref a from rx)
  obtain⟨_,_,_,p⟩:=(show Bm X.prog X.w H s.heap a (.tup xs) from I.hok a _ ea)
  obtain⟨o,h1,h2,_⟩:=p
  exact kia_one PySem.W.kitx_tuple I.kIn ⟨o,h1,h2⟩ e (λz=>nomatch z) h
 | @dK a kvs ea=>
  cases (show u=Value.ref a from rx)
  obtain⟨_,_,vs,_,p⟩:=(show Bm X.prog X.w H s.heap a (.dK kvs) from I.hok a _ ea)
  obtain⟨o,es,ep,h1,h2,_⟩:=p
  exact kia_one PySem.W.kitx_dict I.kIn ⟨o,h1,h2.1⟩ e (λz=>nomatch z) h
 | @dT a kvs ea=>
  cases (show u=Value.ref a from rx)
  obtain⟨_,_,xs,_,o,es,ep,h1,h2,_⟩:=(show Bm X.prog X.w H s.heap a (.dT kvs) from I.hok a _ ea)
  exact kia_one PySem.W.kitx_dict I.kIn ⟨o,h1,h2.1⟩ e (λz=>nomatch z) h
 | @ins a C dx fs ea cl ha hn htk hm=>
  cases (show u=Value.ref a from rx)
  obtain⟨mA,O,_⟩:=QH I.hok ea
  obtain⟨od,J,_⟩:=O.look
  exact kia_one (PySem.W.kitx_own (cl.get _) cl.hd ha hn htk hm) I.kIn J e (λz=>nomatch z) h
end
structure Cp (k:Nat) (A:Around):Prop where
 hd:A.handled=none
 dp:A.depth+3*k+5 < recursionLimit
 un:A.units+16*k+200 < cLine
theorem Cp.mono {j k:Nat} {A:Around} (r:Cp k A) (h:j<=k):Cp j A:=⟨r.hd,by have:=r.dp;omega,by have:=r.un;omega⟩
theorem Cp.deeper {k:Nat} {A:Around} (r:Cp (k+1) A) (env:Env):Cp k (A.deeper env):=
 ⟨r.hd,by have:=r.dp;show A.depth+1+3*k+5 < _;omega,by have:=r.un;show A.units+3+16*k+200 < _;omega⟩
theorem Cp.in1 {k:Nat} {A:Around} (r:Cp (k+1) A):Cp k A.in1:=
 ⟨r.hd,by have:=r.dp;show A.depth+3*k+5 < _;omega,by have:=r.un;show A.units+1+16*k+200 < _;omega⟩
theorem cC {A:Around} {C:Addr} {us:List Value} {kw:List (Str×Value)}:(A.under (.builtin "type.__call__" ⟨.ref C::us,kw⟩)).depth=A.depth+1:=by
 first | rfl | simp[Around.under,Code.weight,Code.isCreation,Code.isGuard,Code.isCaller,Code.frames,Code.isFrame,guardIds]
theorem cB {A:Around} {C:Addr} {us:List Value} {kw:List (Str×Value)}:(A.under (.builtin "type.__call__" ⟨.ref C::us,kw⟩)).units=A.units+1:=by
 first | rfl | simp[Around.under,Code.cUnits,Code.frames,Code.isFrame]
theorem Cp.make {k:Nat} {A:Around} (r:Cp (k+1) A) (C:Addr) (us:List Value) (kw:List (Str×Value)):Cp k (A.under (.builtin "type.__call__" ⟨.ref C::us,kw⟩)):=
 ⟨r.hd,by have:=r.dp;rw[cC];omega,by have:=r.un;rw[cB];omega⟩
theorem Cp.depth {k:Nat} {A:Around} (r:Cp k A):A.depth < recursionLimit:=by have:=r.dp;omega
theorem Cp.units {k:Nat} {A:Around} (r:Cp k A):A.units+64 < cLine:=by have:=r.un;omega
def aZ:TA:=λ_ H Q=>Q [] H
def qu (ta:TE) (tr:TA):TA:=fun σ H Q=>ta σ H λx H1=>tr σ H1 λxs H2=>Q (x::xs) H2
section
variable {X:Cx} {e:Expr} {es:List Expr} {te:TE} {t:TA} {pos:Pos}
theorem Ab:PA X [] aZ:=λ_ _ _ _ H Q I h=>Calls.spliced_nil ⟨[],H,I,.nil,h⟩
theorem Aa (ha:PE X e te) (hr:PA X es t) (hs:starEach (e::es) X.env=(false,eval e X.env)::starEach es X.env:=by rfl):PA X (e::es) (qu te t):=by
 intro pos pins s σ H Q I h
 rw[hs]
 show wpAny _ _ (spliced ((false,eval e X.env)::backTo pos (starEach es X.env))) _ _ s
 refine Calls.spliced_cons (thn (ha pins s σ H _ I h) λu s1 ⟨x,H1,I1,r1,q1⟩=>?_)
 exact thn (hr pos pins s1 σ H1 _ I1 q1) λus s2 ⟨xs,H2,I2,r2,q2⟩=>⟨x::xs,H2,I2,.cons r1 r2,q2⟩
def An (t:TA):TE:=fun σ H Q=>t σ H λxs H1=>xs.length<=sizeLine/\∀p,H1 p=none->Q (.ref p) (upd H1 p (.tup xs))
def AA (t:TA):TE:=fun σ H Q=>t σ H λxs H1=>xs.length<=sizeLine/\∀p,H1 p=none->Q (.ref p) (upd H1 p (.lst xs))
theorem Bh {x1} (h:PA X es t):PE X (.Tuple es x1 pos) (An t):=by
 intro pins s σ H Q I hq
 refine wpAny_Tuple_spliced (thn (h pos pins s σ H _ I hq) λus s1 ⟨xs,H1,I1,r,z,q⟩=>⟨by rw[<-r.length];exact z,?_⟩)
 have hf:H1 s1.heap.objs.size=none:=I1.hok.fresh (Qci _)
 refine⟨.ref s1.heap.objs.size,upd H1 s1.heap.objs.size (.tup xs),I1.laid (t':=s1.toks) (λb u e=>Qat _ e) (Qci _) ?_,rfl,q _ hf⟩
 exact⟨z,us,r,⟨_,QaF _ rfl,rfl,_,rfl⟩⟩
theorem BL (h:PA X es t):PE X (.List es pos) (AA t):=by
 intro pins s σ H Q I hq
 refine wpAny_List_spliced (thn (h pos pins s σ H _ I hq) λus s1 ⟨xs,H1,I1,r,z,q⟩=>⟨by rw[<-r.length];exact z,?_⟩)
 have hf:H1 s1.heap.objs.size=none:=I1.hok.fresh (Qci _)
 refine⟨.ref s1.heap.objs.size,upd H1 s1.heap.objs.size (.lst xs),I1.laid (t':=s1.toks) (λb u e=>Qat _ e) (Qci _) ?_,rfl,q _ hf⟩
 exact⟨z,us,0,r,QaF _ rfl⟩
end
abbrev Sp:=List V->Hp->VK->XK->Prop
abbrev CXT:=List Env->Hp->Shared->XK->Value->Shared->Prop
structure Ks (P:Program) (w:World) (K:PySem.W.Frag) (mg:Str->Option Value) (base:Heap) (A:Around) (outer:List Env) (s:Shared) (H:Hp):Prop where
 frames:A.frames=some outer
 mod:Mod K mg base
 bs:∀b o,base.get? b=some o->s.heap.get? b=some o/\H b=none
 bsz:base.objs.size<=s.heap.objs.size
 FT:s.heap.FunFrames base outer
 frf:∀b∈frs outer,H b=none
 hok:HOk P w H s.heap
 bare:AllBare s.gens
def CE (outer:List Env) (P:Program) (w:World) (H:Hp) (s:Shared) (Q:VK) (u:Value) (s':Shared):Prop:=
 ∃v H',s'.os=s.os/\AllBare s'.gens/\Un (frs outer) [] H H' s.heap s'.heap/\HOk P w H' s'.heap/\RelV v u/\Q v H'
def CR (CX:CXT) (outer:List Env) (P:Program) (w:World) (H:Hp) (s:Shared) (Q:VK) (E:XK) (r:Result) (s':Shared):Prop:=
 match r with
 | .ok (.ret u)=>CE outer P w H s Q u s'
 | .ok _=>False
 | .error e=>CX outer H s E e s'
structure Ga (P:Program) (w:World) (K:PySem.W.Frag) (mg:Str->Option Value) (base:Heap) (CX:CXT) (k:Nat) (f:Addr) (fd:FuncData) (ps:List Str) (sp:Sp):Prop where
 len:∀vs H Q E,sp vs H Q E->vs.length=ps.length
 run:∀(A:Around) (outer:List Env) (s:Shared) (H:Hp) (args:Args) (us:List Value) (vs:List V) (Q:VK) (E:XK),Cp k A->Ks P w K mg base A outer s H->BindsTo s fd args (ps.zip us)->Vals vs us->sp vs H Q E ->
  codeAny (model P w) A (.call (.ref f) args) (CR CX outer P w H s Q E) s
theorem Ga.imp {P:Program} {w:World} {K:PySem.W.Frag} {mg:Str->Option Value} {base:Heap} {CX:CXT} {k:Nat} {f:Addr} {fd:FuncData} {ps:List Str} {sp sp':Sp} (F:Ga P w K mg base CX k f fd ps sp)
  (h:∀vs H Q E,sp' vs H Q E->sp vs H Q E):Ga P w K mg base CX k f fd ps sp':=
 ⟨λvs H Q E q=>F.len vs H Q E (h _ _ _ _ q),λA outer s H args us vs Q E hr he hb hv hs=>F.run A outer s H args us vs Q E hr he hb hv (h _ _ _ _ hs)⟩
theorem Ks.make {P:Program} {w:World} {K:PySem.W.Frag} {mg:Str->Option Value} {base:Heap} {A:Around} {outer:List Env} {s:Shared} {H:Hp} (e:Ks P w K mg base A outer s H) (C:Addr) (us:List Value) (kw:List (Str×Value)) :
  Ks P w K mg base (A.under (.builtin "type.__call__" ⟨.ref C::us,kw⟩)) outer s H:=⟨by first | exact e.frames | (simpa [Around.under,Code.envs,Code.isFrame,pushEnvs] using e.frames),e.mod,e.bs,e.bsz,e.FT,e.frf,e.hok,e.bare⟩
theorem Ks.in1 {P:Program} {w:World} {K:PySem.W.Frag} {mg:Str->Option Value} {base:Heap} {A:Around} {outer:List Env} {s:Shared} {H:Hp} (e:Ks P w K mg base A outer s H) :
  Ks P w K mg base A.in1 outer s H:=⟨e.frames,e.mod,e.bs,e.bsz,e.FT,e.frf,e.hok,e.bare⟩
section
variable {X:Cx} {pins:List (Addr×Obj)} {σ : St} {H:Hp} {s s':Shared}
theorem Inv.env0 (I:Inv X pins σ H s):Ks X.prog X.w X.K X.mg X.base X.A X.stack s H:=
 ⟨I.ok.frames,I.ok.mod,I.bs,Qcd I.ok.bsz I.sz,I.stack,I.T7,I.hok,I.bare⟩
theorem Inv.after {Q:VK} {u:Value} (I:Inv X pins σ H s) (h:CE X.stack X.prog X.w H s Q u s'):EP X pins σ Q u s':=by
 obtain⟨v,H',os,bare,un,hok,r,q⟩:=h
 obtain⟨hh,g,d,t,os'⟩:=s'
 obtain rfl:os'=s.os:=os
 exact⟨v,H',I.call (h':=hh) (g':=g) (d':=d) (t':=t) (ch:=[]) un hok bare (λb z=>absurd z (by simp)),r,q⟩
end
def bw (sp:Sp) (dvs:List V) (E:XK) (t:TA):TE:=fun σ H Q=>t σ H λvs H1=>sp (vs++dvs) H1 Q E
def V1 (C:Addr) (m:Str) (sp:Sp) (dvs:List V) (E:XK) (ta:TE) (t:TA):TE:=fun σ H Q=>ta σ H λx H1=>∃a dx fs,x=.ref a/\H1 a=some (.ins C dx fs)/\fs.lookup m=none /\
 t σ H1 λvs H2=>sp (x::(vs++dvs)) H2 Q E
def qt (C:Addr) (sp:Sp) (dvs:List V) (E:XK) (t:TA):TE:=fun σ H Q=>t σ H λvs H1=>∀x dx,H1 x=none->H1 dx=none->dx≠x ->
 sp (.ref x::(vs++dvs)) (upd (upd H1 dx (.own x)) x (.ins C dx [])) (λv H2=>v=.non/\Q (.ref x) H2) E
def Binds (K:PySem.W.Frag) (fd:FuncData) (ps:List Str) (ds:List Value):Prop:=
 ∀(s:Shared) (us:List Value),K.In s.heap->(us++ds).length=ps.length->BindsTo s fd ⟨us,[]⟩ (ps.zip (us++ds))
theorem Binds.all {K:PySem.W.Frag} {fd:FuncData} {ps:List Str} (h:∀us:List Value,us.length=ps.length->bindArgs fd ⟨us,[]⟩=pure (ps.zip us)):Binds K fd ps []:=λs us _ hl=>by
 rw[QbD] at hl ⊢
 exact .of_eq (h us hl)
def Passes (CX:CXT) (X:Cx) (E:XK):Prop:=∀(pins:List (Addr×Obj)) (σ : St) (H:Hp) (s:Shared) (e:Value) (s':Shared),Inv X pins σ H s->CX X.stack H s E e s'->X.xe e s'
section
variable {X:Cx} {CX:CXT} {k:Nat} {f C:Addr} {fd:FuncData} {ps:List Str} {sp:Sp} {dvs:List V} {ds:List Value} {E:XK} {x m:Str} {p pos apos:Pos} {e o:Expr} {es:List Expr} {ta:TE} {t:TA}
theorem W8 {pins:List (Addr×Obj)} {σ : St} {H:Hp} {s:Shared} {Q:VK} {us:List Value} {vs:List V} (F:Ga X.prog X.w X.K X.mg X.base CX k f fd ps sp) (hr:Cp k X.A) (hb:Binds X.K fd ps ds) (hd:Vals dvs ds) (hx:Passes CX X E)
  (I:Inv X pins σ H s) (r:Vals vs us) (h:sp (vs++dvs) H Q E):wpAny (model X.prog X.w) X.A (call (.ref f) us) (EP X pins σ Q) X.xe s:=by
 have r2:Vals (vs++dvs) (us++ds):=r.append hd
 have hl:(us++ds).length=ps.length:=by rw[<-r2.length];exact F.len _ _ _ _ h
 refine wpAny_call (Qch (F.run X.A X.stack s H ⟨us,[]⟩ (us++ds) (vs++dvs) Q E hr I.env0 (hb s us I.kIn hl) r2 h) λr s' hq=>?_)
 cases r with
 | error e=>exact hx pins σ H s e s' I hq
 | ok fl=>
  cases fl with
  | ret u=>exact I.after hq
  | next=>exact False.elim hq
  | brk=>exact False.elim hq
  | cont=>exact False.elim hq
theorem rT (F:Ga X.prog X.w X.K X.mg X.base CX k f fd ps sp) (hr:Cp k X.A) (hg:Gl X x) (hm:X.mg x=some (.ref f)) (hk:keepIn X.K (.ref f)=true) (hb:Binds X.K fd ps ds) (hd:Vals dvs ds) (hx:Passes CX X E)
  (ha:PA X (e::es) t) (hdb:(x == ("__debug__":Str))=false:=by decide) (he:starEach (e::es) X.env=(false,eval e X.env)::starEach es X.env:=by rfl) (hpl:(backTo pos (starEach es X.env)).any (·.1)=false:=by rfl) :
  PE X (.Call (.Name x p) (e::es) [] pos) (bw sp dvs E t):=by
 intro pins s σ H Q I h
 refine QaY (KY I hg hm ?_ hdb)
 refine callWith_K (h₀:=X.base) I.ok.mod.kin hk (thn (ha pos pins s σ H _ I h) λus s1 ⟨vs,H1,I1,r,q⟩=>⟨I1.kIn,?_⟩) he hpl
 exact W8 F hr hb hd hx I1 r q
theorem rQ {pl:Sem Bool} (he:PE X o ta) (c:Cls X.K C) (hm:Meth X.K C m f) (F:Ga X.prog X.w X.K X.mg X.base CX k f fd ps sp) (hr:Cp k X.A) (hb:Binds X.K fd ps ds) (hd:Vals dvs ds) (hx:Passes CX X E) (ha:PA X (e::es) t)
  (hst:starEach (e::es) X.env=(false,eval e X.env)::starEach es X.env:=by rfl) (hpl:(backTo pos (starEach es X.env)).any (·.1)=false:=by rfl)
  (ht:eval (.Call (.Attribute o m apos) (e::es) [] pos) X.env=(do
   let ov <-eval o X.env
   standAt apos.atName
   let (f,first) <-holding [ov] (getMethod ov m pl)
   callWith pos f first (backTo pos (starEach (e::es) X.env)) (backToKw pos (keywordEach [] X.env))):=by rfl) :
  PE X (.Call (.Attribute o m apos) (e::es) [] pos) (V1 C m sp dvs E ta t):=by
 intro pins s σ H Q I h
 refine methodCall_KW (pl:=pl) (thn (he pins s σ H _ I h) λu s1 ⟨x,H1,I1,rx,a,dx,fs,ex,ea,l,q⟩=>?_) ht
 subst ex
 obtain rfl:u=Value.ref a:=rx
 refine KC I1 ea c hm l ?_
 refine callWith_K (first:=[.ref a]) (h₀:=X.base) I.ok.mod.kin hm.kp (thn (ha pos pins s1 σ H1 _ I1 q) λus s2 ⟨vs,H2,I2,r,q2⟩=>⟨I2.kIn,?_⟩) hst hpl
 exact W8 (us:=.ref a::us) (vs:=.ref a::vs) F hr hb hd hx I2 (.cons rfl r) q2
theorem lH {pl:Sem Bool} (he:PE X o ta) (c:Cls X.K C) (hm:Meth X.K C m f) (F:Ga X.prog X.w X.K X.mg X.base CX k f fd ps sp) (hr:Cp k X.A) (hb:Binds X.K fd ps ds) (hd:Vals dvs ds) (hx:Passes CX X E)
  (ht:eval (.Call (.Attribute o m apos) [] [] pos) X.env=(do
   let ov <-eval o X.env
   standAt apos.atName
   let (f,first) <-holding [ov] (getMethod ov m pl)
   callWith pos f first (backTo pos (starEach [] X.env)) (backToKw pos (keywordEach [] X.env))):=by rfl) :
  PE X (.Call (.Attribute o m apos) [] [] pos) (V1 C m sp dvs E ta aZ):=by
 intro pins s σ H Q I h
 refine methodCall_KW (pl:=pl) (thn (he pins s σ H _ I h) λu s1 ⟨x,H1,I1,rx,a,dx,fs,ex,ea,l,q⟩=>?_) ht
 subst ex
 obtain rfl:u=Value.ref a:=rx
 refine KC I1 ea c hm l ?_
 exact PySem.W.callWith_K0 (first:=[.ref a]) I1.kIn hm.kp (W8 (us:=[.ref a]) (vs:=[.ref a]) F hr hb hd hx I1 (.cons rfl .nil) q)
structure Mk (K:PySem.W.Frag) (C f:Addr):Prop where
 makes:makesIn K C=true
 init:findIn K (.ref C) "__init__"=some (some (.ref f))
 fn:isFn K (.ref f)=true
 kp:keepIn K (.ref C)=true
theorem kO {pins:List (Addr×Obj)} {σ : St} {H:Hp} {s:Shared} {Q:VK} {us:List Value} {vs:List V} (M:Mk X.K C f) (F:Ga X.prog X.w X.K X.mg X.base CX k f fd ps sp) (hr:Cp (k+1) X.A) (hb:Binds X.K fd ps ds) (hd:Vals dvs ds)
  (hx:Passes CX X E) (I:Inv X pins σ H s) (r:Vals vs us)
  (h:∀x dx,H x=none->H dx=none->dx≠x->sp (.ref x::(vs++dvs)) (upd (upd H dx (.own x)) x (.ins C dx [])) (λv H2=>v=.non/\Q (.ref x) H2) E) :
  wpAny (model X.prog X.w) X.A (call (.ref C) us) (EP X pins σ Q) X.xe s:=by
 have hq:=h (s.heap.objs.size+1) s.heap.objs.size (I.hok.fresh (Nat.le_succ _)) (I.hok.fresh (Qci _)) (Qcc (Qbv _))
 have I2:=Inv.made (C:=C) I
 have r2:Vals (V.ref (s.heap.objs.size+1)::(vs++dvs)) (Value.ref (s.heap.objs.size+1)::(us++ds)):=.cons rfl (r.append hd)
 have hl:(Value.ref (s.heap.objs.size+1)::us++ds).length=ps.length:=by
  have e:=r2.length
  rw[F.len _ _ _ _ hq] at e
  exact e.symm
 refine wpAny_call (mU (f:=f) I.kIn M.makes M.init (beq_iff_eq.mp M.fn) (Qch (F.run _ X.stack _ _ ⟨Value.ref (s.heap.objs.size+1)::us,[]⟩ (Value.ref (s.heap.objs.size+1)::(us++ds)) _ _ E (hr.make C us [])
  (I2.env0.make C us []) (hb _ (Value.ref (s.heap.objs.size+1)::us) I2.kIn hl) r2 hq) λr s' hq'=>?_))
 cases r with
 | error e=>exact hx pins σ _ _ e s' I2 hq'
 | ok fl=>
  cases fl with
  | ret u=>
   obtain⟨v,H',I3,rv,ev,q3⟩:=I2.after hq'
   subst ev
   exact⟨rv,⟨V.ref (s.heap.objs.size+1),H',I3,rfl,q3⟩⟩
  | next=>exact False.elim hq'
  | brk=>exact False.elim hq'
  | cont=>exact False.elim hq'
theorem rR (M:Mk X.K C f) (F:Ga X.prog X.w X.K X.mg X.base CX k f fd ps sp) (hr:Cp (k+1) X.A) (hg:Gl X x) (hm:X.mg x=some (.ref C)) (hb:Binds X.K fd ps ds) (hd:Vals dvs ds) (hx:Passes CX X E)
  (ha:PA X (e::es) t) (hdb:(x == ("__debug__":Str))=false:=by decide) (he:starEach (e::es) X.env=(false,eval e X.env)::starEach es X.env:=by rfl) (hpl:(backTo pos (starEach es X.env)).any (·.1)=false:=by rfl) :
  PE X (.Call (.Name x p) (e::es) [] pos) (qt C sp dvs E t):=by
 intro pins s σ H Q I h
 refine QaY (KY I hg hm ?_ hdb)
 refine callWith_K (h₀:=X.base) I.ok.mod.kin M.kp (thn (ha pos pins s σ H _ I h) λus s1 ⟨vs,H1,I1,r,q⟩=>⟨I1.kIn,?_⟩) he hpl
 exact kO M F hr hb hd hx I1 r q
end
def PK (X:Cx) (kws:List Keyword) (t:TA):Prop:=
 ∀(pos:Pos) (pins:List (Addr×Obj)) (s:Shared) (σ : St) (H:Hp) (Q:List V->Hp->Prop),Inv X pins σ H s->t σ H Q->wpAny (model X.prog X.w) X.A (evalAll ((backToKw pos (keywordEach kws X.env)).map (·.2))) (AP X pins σ Q) X.xe s
section
variable {X:Cx} {CX:CXT} {k:Nat} {f C:Addr} {fd:FuncData} {ps ks:List Str} {sp:Sp} {E:XK} {x m:Str} {p pos apos kpos:Pos} {e o:Expr} {es:List Expr} {kws:List Keyword} {te ta:TE} {t tk:TA} {nm:Option Str}
theorem vP:PK X [] aZ:=λ_ _ _ _ H Q I h=>wpAny_evalAll_nil ⟨[],H,I,.nil,h⟩
theorem rP (ha:PE X e te) (hr:PK X kws t):PK X (⟨nm,e,kpos⟩::kws) (qu te t):=by
 intro pos pins s σ H Q I h
 show wpAny _ _ (evalAll ((do let v <-eval e X.env;standAt pos;pure v)::(backToKw pos (keywordEach kws X.env)).map (·.2))) _ _ s
 refine wpAny_evalAll_cons (Qcn (thn (ha pins s σ H _ I h) λu s1 ⟨x,H1,I1,r1,q1⟩=>Qcn (QbY (Qco ?_))))
 exact thn (hr pos pins s1 σ H1 _ I1 q1) λus s2 ⟨xs,H2,I2,r2,q2⟩=>⟨x::xs,H2,I2,.cons r1 r2,q2⟩
variable {g:List Value->List Value->List Value} {gV:List V->List V->List V}
end
structure Ay (N P:List Str) (sc:Scope):Prop where
 kind:sc.kind=.function
 co:sc.isCoroutine=false
 gen:sc.isGenerator=false
 nd:N.Nodup
 pre:N.take P.length=P
 par:∀x∈P,sc.names.lookup x=some .local\/sc.names.lookup x=some .cell
 XC:∀y∈sc.names,y.2≠.free
theorem Vr {kindOf:Str->Option NameKind} {x:Str}:∀{binds:List (Str×Value)} {m:Str->Option Value},(∀v,(x,v)∉binds)->bindL kindOf binds m x=m x
 | [],_,_=>rfl
 | (n,v)::r,m,h=>by
  unfold bindL
  rw[Vr λw hw=>h w (QaA _ hw)]
  split
  ·have:x≠n:=by rintro rfl;exact h v QaN
   simp[this]
  ·rfl
theorem Vt {kindOf:Str->Option NameKind} {x:Str}:∀{binds:List (Str×Value)} {m:Str->Option Value},(∀v,(x,v)∉binds)->bindC kindOf binds m x=m x
 | [],_,_=>rfl
 | (n,v)::r,m,h=>by
  unfold bindC
  rw[Vt λw hw=>h w (QaA _ hw)]
  split
  ·rfl
  ·have:x≠n:=by rintro rfl;exact h v QaN
   simp[this]
theorem Vs {kindOf:Str->Option NameKind} {x:Str} {v:Value}:∀{P:List Str} {vs:List Value} {i:Nat} {m:Str->Option Value},P.Nodup->P[i]?=some x->vs[i]?=some v->kindOf x=some .local ->
  bindL kindOf (P.zip vs) m x=some v
 | [],_,_,_,_,h,_,_=>by simp at h
 | _::_,[],_,_,_,_,h,_=>by simp at h
 | p::P,w::vs,0,m,nd,h1,h2,hk=>by
  simp at h1 h2;subst h1;subst h2
  show bindL kindOf ((p,w)::P.zip vs) m p=_
  unfold bindL
  rw[Vr λv hv=>(QbE.mp nd).1 (List.of_mem_zip hv).1,if_pos hk]
  simp
 | p::P,w::vs,i+1,m,nd,h1,h2,hk=>by
  show bindL kindOf ((p,w)::P.zip vs) m x=_
  unfold bindL
  exact Vs (i:=i) (QbE.mp nd).2 (by simpa using h1) (by simpa using h2) hk
theorem Vu {kindOf:Str->Option NameKind} {x:Str} {v:Value}:∀{P:List Str} {vs:List Value} {i:Nat} {m:Str->Option Value},P.Nodup->P[i]?=some x->vs[i]?=some v->kindOf x≠some .local ->
  bindC kindOf (P.zip vs) m x=some v
 | [],_,_,_,_,h,_,_=>by simp at h
 | _::_,[],_,_,_,_,h,_=>by simp at h
 | p::P,w::vs,0,m,nd,h1,h2,hk=>by
  simp at h1 h2;subst h1;subst h2
  show bindC kindOf ((p,w)::P.zip vs) m p=_
  unfold bindC
  rw[Vt λv hv=>(QbE.mp nd).1 (List.of_mem_zip hv).1,if_neg hk]
  simp
 | p::P,w::vs,i+1,m,nd,h1,h2,hk=>by
  show bindC kindOf ((p,w)::P.zip vs) m x=_
  unfold bindC
  exact Vu (i:=i) (QbE.mp nd).2 (by simpa using h1) (by simpa using h2) hk
def start (N:List Str) (vs:List V):St:=vs.map some++List.replicate (N.length - vs.length) none
def Kp (CX:CXT) (P:Program) (w:World) (K:PySem.W.Frag) (mg:Str->Option Value) (base:Heap) (N:List Str) (qual:Str) (scope:Scope) (f:Addr) (cd:Value) (A:Around) (outer:List Env) (s:Shared) (H:Hp) (E:XK):Cx where
 prog:=P
 w:=w
 K:=K
 mg:=mg
 base:=base
 A:=A.deeper (envOfC qual scope s.heap.objs.size f cd)
 N:=N
 s₀:=s
 H₀:=H
 env:=envOfC qual scope s.heap.objs.size f cd
 outer:=outer
 stack:=envOfC qual scope s.heap.objs.size f cd::outer
 ex:=[]
 calm:=true
 fn:=λ_=>true
 pn:=[]
 xe:=λe s'=>wpAny (model P w) (A.deeper (envOfC qual scope s.heap.objs.size f cd)) (leaving (envOfC qual scope s.heap.objs.size f cd) e) (λ_ s''=>CX outer H s E e s'') (λe' s''=>CX outer H s E e' s'') s'
theorem Yp {sc:Scope} {n:Nat} {x:Str} (h:sc.names.lookup x=some .cell):∃c,(cellsFrom n sc.names []).lookup x=some c:=by
 have q:=PySem.W.cellsFrom_some sc.names n [] (.inl h)
 exact Option.isSome_iff_exists.mp q
theorem Vj {CX:CXT} {P:Program} {w:World} {K:PySem.W.Frag} {mg:Str->Option Value} {base:Heap} {N ps:List Str} {qual:Str} {scope:Scope} {f:Addr} {cd:Value} {A:Around} {outer:List Env} {s s1:Shared} {H:Hp} {E:XK} {us:List Value} {vs:List V}
  (S:Ay N ps scope) (hd:A.handled=none) (e0:Ks P w K mg base A outer s H) (hl:vs.length=ps.length) (r:Vals vs us)
  (x:InCallC s s.heap.objs.size (bindL (envOfC qual scope s.heap.objs.size f cd).kindOf (ps.zip us) λ_=>none) (cellsFrom (s.heap.objs.size+1) scope.names []) (bindC (envOfC qual scope s.heap.objs.size f cd).kindOf (ps.zip us) λ_=>none) s1) :
  Inv (Kp CX P w K mg base N qual scope f cd A outer s H E) [] (start N vs) H s1:=by
 have hpl:ps.length<=N.length:=by have:=congrArg List.length S.pre;rw[Qbp] at this;omega
 obtain⟨h1,tk,rfl,hk⟩:=x.done
 have noA:∀b:Addr,b∉(Kp CX P w K mg base N qual scope f cd A outer s H E).ex:=λb z=>absurd (show b∈([]:List Addr) from z) (by simp)
 refine⟨⟨e0.mod,S.kind,rfl,rfl,Qci _,λy z c h1 h2=>?_,λy hy=>?_,λy c _ h=>?_,λ_=>hd,Around.frames_deeper e0.frames,.inr ⟨rfl,rfl⟩,λb z=>absurd z (noA b),e0.bs,e0.bsz,λb _ _=>noA b,λb z=>absurd z (noA b),e0.FT,e0.frf⟩,
  rfl,e0.bare,Un.kept hk,⟨_,x.toInCall.ns,λi y v h1 h2 h3=>?_⟩,λy c h=>⟨_,x.cell y c h⟩,e0.hok.fresh (Qci _),λy c h=>?_,λp hp=>absurd (show p∈([]:List (Addr×Obj)) from hp) (by simp),e0.hok.kept hk,?_⟩
 ·exact name_of_addr x.apart (QaK h1) (QaK h2)
 ·have hy:scope.names.lookup y=some .cell\/scope.names.lookup y=some .free:=hy
  rcases hy with hy | hy
  ·exact Yp hy
  ·exact absurd rfl (S.XC _ (QaK hy))
 ·exact Qcf (x.above y c (QaK h))
 ·have hi:i < vs.length:=by
   unfold start at h2
   by_cases hi:i < vs.length
   ·exact hi
   ·rw[List.getElem?_append_right (by simpa using hi)] at h2
    rw[List.getElem?_replicate] at h2
    split at h2 <;> cases h2
  have ha:vs[i]?=some v:=by
   unfold start at h2
   rw[List.getElem?_append_left (by simpa using hi),Qbc] at h2
   cases e:vs[i]? with
   | none=>rw[e] at h2;cases h2
   | some a=>rw[e] at h2;cases h2;rfl
  obtain⟨u,hu,rv⟩:=r.get ha
  have hp:ps[i]?=some y:=by
   rw[<-S.pre,List.getElem?_take_of_lt (by omega)];exact h1
  have ndP:ps.Nodup:=by rw[<-S.pre];exact S.nd.sublist (List.take_sublist _ _)
  refine⟨u,rv,?_⟩
  rcases S.par y (Qaz hp) with k | k
  ·exact .inl ⟨k,Vs ndP hp hu k⟩
  ·obtain⟨c,e⟩:=Yp (n:=s.heap.objs.size+1) k
   refine .inr ⟨.inl k,c,e,?_⟩
   have q:=x.cell y c e
   rw[Vu ndP hp hu (by show scope.names.lookup y≠_;rw[k];decide)] at q
   exact q
 ·exact e0.hok.fresh (Qcf (x.above y c (QaK h)))
 ·unfold start
  show _=N.length
  rw[QaM,Qbx,List.length_replicate]
  omega
theorem qN {CX:CXT} {P:Program} {w:World} {K:PySem.W.Frag} {mg:Str->Option Value} {base:Heap} {k:Nat} {f:Addr} {name qual:Str} {params:Arguments} {body:List Stmt} {scope:Scope} {dV kV doc pm cdv ct oc:Value} {an od:Option Addr}
  {osl:Array (Option Value)} {N ps:List Str} {sp:Sp} (lk:K.lookup f=some ⟨oc,od,.func (fnOf name qual params body scope dV kV doc pm an cdv ct),osl⟩) (hcd:codeIn K cdv qual=true) (S:Ay N ps scope)
  (len:∀vs H Q E,sp vs H Q E->vs.length=ps.length)
  (hbody:∀(A:Around) (outer:List Env) (s:Shared) (H:Hp) (vs:List V) (Q:VK) (E:XK),Cp k (A.deeper (envOfC qual scope s.heap.objs.size f cdv))->sp vs H Q E ->
   ∃t,PSs (Kp CX P w K mg base N qual scope f cdv A outer s H E) body t/\t { nx:=λ_ H'=>Q .non H',rt:=Q } (start N vs) H) :
  Ga P w K mg base CX (k+1) f (fnOf name qual params body scope dV kV doc pm an cdv ct) ps sp:=by
 refine⟨len,λA outer s H args us vs Q E hr e0 hb r hsp=>?_⟩
 have hl:=len _ _ _ _ hsp
 have KX:K.In s.heap:=e0.mod.kin.keeps λb o e=>(e0.bs b o e).1
 have lim:s.heap.NoLimit:=e0.mod.nolimit.keeps λb o e=>(e0.bs b o e).1
 have hkind:∀y∈ps.zip us,scope.names.lookup y.1=some .local\/(scope.names.lookup y.1=some .cell/\((cellsFrom (s.heap.objs.size+1) scope.names []).lookup y.1).isSome=true):=λ⟨n,v⟩ hy=>by
  rcases S.par n (List.of_mem_zip hy).1 with q | q
  ·exact .inl q
  ·exact .inr ⟨q,PySem.W.cellsFrom_some _ _ _ (.inl q)⟩
 refine codeAny_call_function hr.depth (KX _ _ lk) rfl S.co S.gen rfl (PySem.W.codeRec_of KX hcd) (hb _ _ _ _ ?_)
 refine wpAny_newFunctionEnv_cells S.kind hkind λenv he s1 x=>?_
 subst he
 refine⟨lim.keeps x.toInCall.keep,codeAny_func ?_⟩
 obtain⟨t,ht,hq⟩:=hbody A outer s H vs Q E (hr.deeper _) hsp
 have I:Inv (Kp CX P w K mg base N qual scope f cdv A outer s H E) [] (start N vs) H s1:=Vj S hr.hd e0 hl r x
 refine Qcp (ht [] s1 (start N vs) H _ I hq) (λfl s' hs=>?_) λe s' hs=>hs
 have fin:∀{σ':St} {H':Hp} {v:V} {u:Value},Inv (Kp CX P w K mg base N qual scope f cdv A outer s H E) [] σ' H' s'->RelV v u->Q v H'->CE outer P w H s Q u s':=
  λ{σ' H' v u} J rv q=>⟨v,H',J.os,J.bare,J.base,J.hok,rv,q⟩
 cases fl with
 | ret u=>
  obtain⟨v,σ',H',J,rv,q⟩:=hs
  exact fin J rv q
 | next=>
  obtain⟨σ',H',J,q⟩:=hs
  exact fin (v:=V.non) (u:=Value.none) J rfl q
 | brk=>
  obtain⟨_,_,_,q⟩:=hs
  exact False.elim q
 | cont=>
  obtain⟨_,_,_,q⟩:=hs
  exact False.elim q
section
variable {X:Cx} {x:Str} {p pos:Pos} {e:Expr} {es:List Expr} {t:TA} {id T:String} {r:List V->Hp->VK->Prop}
def tCB (r:List V->Hp->VK->Prop) (t:TA):TE:=fun σ H Q=>t σ H λvs H1=>r vs H1 Q
theorem Aw (hc:Dy X (.builtin id) r) (hg:Gl X x) (hm:X.mg x=none) (hv:bootBuiltins x=some (.builtin id)) (ha:PA X (e::es) t) (hn:x≠"__name__":=by decide) (hdb:(x == ("__debug__":Str))=false:=by decide)
  (he:starEach (e::es) X.env=(false,eval e X.env)::starEach es X.env:=by rfl) (hpl:(backTo pos (starEach es X.env)).any (·.1)=false:=by rfl):PE X (.Call (.Name x p) (e::es) [] pos) (tCB r t):=by
 intro pins s σ H Q I h
 refine QaY (Kd I hg hm hv ?_ hn hdb)
 exact PyProof.Rows.callWith_builtin1 (thn (ha pos pins s σ H _ I h) λus s1 ⟨vs,H1,I1,r1,q1⟩=>hc pins s1 σ H1 vs us Q I1 r1 q1) he hpl
theorem Ed (hc:Dy X (.type T) r) (hg:Gl X x) (hm:X.mg x=none) (hv:bootBuiltins x=some (.type T)) (ha:PA X (e::es) t) (hn:x≠"__name__":=by decide) (hdb:(x == ("__debug__":Str))=false:=by decide)
  (he:starEach (e::es) X.env=(false,eval e X.env)::starEach es X.env:=by rfl) (hpl:(backTo pos (starEach es X.env)).any (·.1)=false:=by rfl):PE X (.Call (.Name x p) (e::es) [] pos) (tCB r t):=by
 intro pins s σ H Q I h
 refine QaY (Kd I hg hm hv ?_ hn hdb)
 exact Qae (thn (ha pos pins s σ H _ I h) λus s1 ⟨vs,H1,I1,r1,q1⟩=>hc pins s1 σ H1 vs us Q I1 r1 q1) he hpl
end
end L2
namespace HT
open PySem PyProof.Rows
section
open PySem.SeqAt
open PySem.AutoSeq1 (wpAny_loadPart')
open PySem.MeetsSeq PySem.MeetsSeq2 PySem.MeetsSeq3
end
section
variable {prog:Program} {w:World} {A:Around} {E:Value->Shared->Prop} {s:Shared}
theorem ur {t b:Addr} {vs ws:List Value} {Q:Value->Shared->Prop} (ht:IsTup s.heap t vs.toArray) (hb:IsTup s.heap b ws.toArray) (hv:vs≠[])
  (h1:ws=[]->Q (.ref t) s) (h2:ws≠[]->Q (.ref s.heap.objs.size) { s with heap:=s.heap.push { cls:=.type "tuple",data:=.seq (vs++ws).toArray } })
  (hsz:vs.length+ws.length<=sizeLine):wpAny (model prog w) A (binaryOp .Add (.ref t) (.ref b)) Q E s:=by
 obtain⟨⟨cls,dd,data,sl⟩,ho,hc,n,hd⟩:=id ht
 obtain⟨⟨cls2,dd2,data2,sl2⟩,ho2,hc2,n2,hd2⟩:=id hb
 simp only at hc hd hc2 hd2
 subst hc hd hc2 hd2
 have e:vs.toArray++ws.toArray=(vs++ws).toArray:=by simp
 by_cases hw:ws=[]
 ·exact concat_meets ⟨_,ho,rfl⟩ ⟨_,ho2,rfl⟩ noFill_tuple_add seq_tuple_add PySem.F.slot_tuple_add PySem.F.entry_tuple_add (PySem.F.args_tuple_add_2 _ _)
   (tuple_addW1 t b vs.toArray ws.toArray n n2 dd dd2 sl sl2 (by simpa using hv) (by simp[hw])) ⟨ho,ho2,h1 hw⟩
 ·refine concat_meets ⟨_,ho,rfl⟩ ⟨_,ho2,rfl⟩ noFill_tuple_add seq_tuple_add PySem.F.slot_tuple_add PySem.F.entry_tuple_add (PySem.F.args_tuple_add_2 _ _)
   (tuple_addW2 t b vs.toArray ws.toArray n n2 dd dd2 sl sl2 (by simpa using hv) (by simpa using hw) (by rw[Qbb,Qbb];exact hsz)) ⟨ho,ho2,?_⟩
  rw[e]
  exact h2 hw
def sIx (n d:Nat):Option Int->Nat
 | none=>d
 | some v=>if v < 0 then (v+(n:Int)).toNat else min v.toNat n
theorem W2 (n d:Nat):sIx n d none=d:=rfl
theorem ZR (n d k:Nat):sIx n d (some (k:Int))=min k n:=by
 show (if (k:Int) < 0 then ((k:Int)+(n:Int)).toNat else min (k:Int).toNat n)=min k n
 rw[if_neg (by omega),Qbe]
theorem vH (n d:Nat) (hd:d<=n) (o:Option Int):sIx n d o<=n:=by
 cases o with
 | none=>exact hd
 | some v=>
  show (if v < 0 then (v+(n:Int)).toNat else min v.toNat n)<=n
  by_cases hv:v < 0
  ·rw[if_pos hv];omega
  ·rw[if_neg hv];exact Nat.min_le_right _ _
theorem aJ (v:Int) (n d:Nat):(if v < 0 then max (v+(n:Int)) 0 else min v (n:Int))=((sIx n d (some v):Nat):Int):=by
 show (if v < 0 then max (v+(n:Int)) 0 else min v (n:Int))=(((if v < 0 then (v+(n:Int)).toNat else min v.toNat n):Nat):Int)
 by_cases hv:v < 0
 ·simp only[if_pos hv];omega
 ·simp only[if_neg hv];omega
theorem dI (lo hi:Option Int) (n:Nat):Builtin.Slice.sliceAdjust lo hi 1 (n:Int)=(((sIx n 0 lo:Nat):Int),((sIx n n hi:Nat):Int)):=by
 have h1:¬((1:Int) < 0):=by omega
 unfold Builtin.Slice.sliceAdjust
 simp only[h1,if_false]
 refine Prod.ext ?_ ?_
 ·cases lo with
  | none=>rfl
  | some v=>exact aJ v n 0
 ·cases hi with
  | none=>rfl
  | some v=>exact aJ v n n
theorem bN (i j:Nat):Builtin.Slice.slicePlaces (i:Int) (j:Int) 1=j - i:=by
 unfold Builtin.Slice.slicePlaces
 have h1:(1:Int) > 0:=by omega
 simp only[h1,if_true,Int.ediv_one]
 split <;> omega
theorem SJ {v:Value} {o:Option Int} {Q:Option Int->Shared->Prop} (p:IsPart v o) (h:Q o s):wpAny (model prog w) A (Builtin.Slice.slicePartIndex v) Q E s:=by
 cases p with
 | none=>exact slicePart_none h
 | int i t=>exact slicePart_int h
theorem K7 {sl:Addr} {vl vu:Value} {lo hi:Option Int} {n:Nat} {Q:Int×Int×Nat->Shared->Prop} (hs:s.heap.IsSliceOf sl vl vu .none) (pl:IsPart vl lo) (pu:IsPart vu hi)
  (h:Q (((sIx n 0 lo:Nat):Int),1,sIx n n hi - sIx n 0 lo) s):wpAny (model prog w) A (Builtin.Slice.sliceApplied (.ref sl) (pure (n:Int))) Q E s:=by
 obtain⟨os,hos,hcs,hds⟩:=id hs
 unfold Builtin.Slice.sliceApplied Builtin.Slice.sliceFields
 refine Qcn (Qcn (Qcl hos hds (x:=vl) rfl (Qcn (Qcl hos hds (x:=vu) rfl (Qcn (Qcl hos hds (x:=.none) rfl (Qco ?_)))))))
 refine Qcn (slicePart_none ?_)
 show wpAny _ _ (if ((1:Int) == 0)=true then _ else _) _ _ s
 rw[if_neg (by decide)]
 refine Qcn (SJ pl (Qcn (SJ pu (Qcn (Qco ?_)))))
 show wpAny _ _ (match Builtin.Slice.sliceAdjust lo hi 1 (n:Int) with | (lo,hi)=>pure (lo,(1:Int),Builtin.Slice.slicePlaces lo hi 1)) _ _ s
 rw[dI lo hi n]
 show wpAny _ _ (pure (((sIx n 0 lo:Nat):Int),(1:Int),Builtin.Slice.slicePlaces ((sIx n 0 lo:Nat):Int) ((sIx n n hi:Nat):Int) 1)) _ _ s
 rw[bN]
 exact Qco h
theorem lE (xs:Array Value) (i k:Nat):((List.range k).filterMap λ(m:Nat)=>xs[((i:Int)+(m:Int)*1).toNat]?).toArray=((xs.toList.drop i).take k).toArray:=by
 have e:(λ(m:Nat)=>xs[((i:Int)+(m:Int)*1).toNat]?)=λm=>xs[i+m]?:=by
  funext m
  have:((i:Int)+(m:Int)*1).toNat=i+m:=by omega
  rw[this]
 rw[e]
 have:=pick_run xs i k
 rw[List.filterMap_map] at this
 have e2:((λx=>xs[x]?) ∘ λx=>i+x)=λm=>xs[i+m]?:=rfl
 rw[e2] at this
 rw[this]
theorem Q6 {t sl:Addr} {items:Array Value} {vl vu:Value} {lo hi:Option Int} {Q:Value->Shared->Prop} (ht:IsTup s.heap t items) (hs:s.heap.IsSliceOf sl vl vu .none) (pl:IsPart vl lo) (pu:IsPart vu hi)
  (hw:¬(sIx items.size 0 lo=0/\sIx items.size items.size hi=items.size))
  (h:Q (.ref s.heap.objs.size) { s with heap:=s.heap.push { cls:=.type "tuple",data:=.seq ((items.toList.drop (sIx items.size 0 lo)).take (sIx items.size items.size hi - sIx items.size 0 lo)).toArray } })
  (hsz:items.size<=sizeLine):wpAny (model prog w) A (getItem (.ref t) (.ref sl)) Q E s:=by
 have V9:sizeOk (.seq ((items.toList.drop (sIx items.size 0 lo)).take (sIx items.size items.size hi - sIx items.size 0 lo)).toArray):=by
  show ((items.toList.drop (sIx items.size 0 lo)).take (sIx items.size items.size hi - sIx items.size 0 lo)).toArray.size<=sizeLine
  rw[Qbb,Qbp,Qbt,QaH]
  omega
 have hj:sIx items.size items.size hi<=items.size:=vH _ _ (Qci _) hi
 obtain⟨os,hos,hcs,hds⟩:=id hs
 have hTs:s.TypeIs (.ref sl) "slice":=⟨os,hos,hcs⟩
 unfold getItem
 try with_reducible refine QbW ?_
 first | refine Qcn (Qco ?_) | skip
 refine Qcn (wpAny_sequenceKey ht.typeIs (by decide) ?_)
 refine Qcn (Qar (name:=Str.ofString "__getitem__") ht.typeIs Qab
  (Qbr Qab ht.typeIs entry_tuple_getitem ?_ (args_tuple_getitem _ _)))
 show wpAny _ _ (Builtin.Tuple.tupleItemsOf (.ref t) >>= _) _ _ s
 refine Qcn (tupleItemsOf_ ht ?_)
 refine Qcn (wpAny_typeOf hTs ?_)
 rw[if_pos (by decide)]
 refine Qcn (K7 hs pl pu ?_)
 have hno:¬((((sIx items.size 0 lo:Nat):Int) == 0&&(1:Int) == 1&&(sIx items.size items.size hi - sIx items.size 0 lo) == items.size)=true):=by
  intro q
  rw[Qbu,Qbu] at q
  have q1:((sIx items.size 0 lo:Nat):Int)=0:=eq_of_beq q.1.1
  have q2:sIx items.size items.size hi - sIx items.size 0 lo=items.size:=eq_of_beq q.2
  exact hw ⟨by omega,by omega⟩
 show wpAny _ _ (if (((sIx items.size 0 lo:Nat):Int) == 0&&(1:Int) == 1&&(sIx items.size items.size hi - sIx items.size 0 lo) == items.size)=true then _ else _) _ _ s
 rw[if_neg hno,lE]
 first
  | exact Qcn (m:=Builtin.Tuple.tupleExact _) (Qbf (Qco ⟨_,rfl,Qco h⟩) V9)
  | exact Qcn (m:=Builtin.Tuple.tupleExact _) (Qbf (Qcn (Qco (Qco ⟨_,rfl,Qco h⟩))) V9)
  | exact Qcn (Qcn (m:=Builtin.Tuple.tupleExact _) (Qbf (Qco (Qco ⟨_,rfl,Qco h⟩)) V9))
  | exact Qcn (Qcn (m:=Builtin.Tuple.tupleExact _) (Qbf (Qco ⟨_,rfl,Qco h⟩) V9))
end
end HT
namespace L2
open PySem PySem.Spec PyProof.Rows
abbrev TO:=St->Hp->(Option Int->Hp->Prop)->Prop
def PO (X:Cx) (e:Option Expr) (t:TO):Prop:=
 ∀(pins:List (Addr×Obj)) (s:Shared) (σ : St) (H:Hp) (Q:Option Int->Hp->Prop),Inv X pins σ H s->t σ H Q ->
  wpAny (model X.prog X.w) X.A (evalPart e X.env) (λu s'=>∃o H',Inv X pins σ H' s'/\IsPart u o/\Q o H') X.xe s
def rm:TO:=λ_ H Q=>Q none H
def yP (t:TE):TO:=fun σ H Q=>t σ H λx H1=>∃i,x=.int i/\Q (some i) H1
theorem intsAre_of {ns:List Int}:∀{us:List Value},Vals (ns.map V.int) us->IntsAre us ns:=by
 induction ns with
 | nil=>intro us r;rw[List.map_nil] at r;cases r;exact .nil
 | cons n ns ih=>
  intro us r
  rw[QbT] at r
  cases r with
  | cons r1 r2=>
   obtain⟨t,e⟩:=r1
   subst e
   exact .cons n t (ih r2)
section
variable {X:Cx} {e:Expr} {te:TE} {lo hi:Option Expr} {tl th:TO} {pos p2:Pos}
theorem KR:PO X none rm:=by
 intro pins s σ H Q I h
 rw[evalPart_none]
 exact Qco ⟨none,H,I,.none,h⟩
theorem KQ (h:PE X e te):PO X (some e) (yP te):=by
 intro pins s σ H Q I hw
 rw[evalPart_some]
 refine thn (h pins s σ H _ I hw) λu s1 ⟨x,H1,I1,r1,q1⟩=>?_
 obtain⟨i,rfl,q⟩:=q1
 obtain⟨t,rfl⟩:=r1
 exact⟨some i,H1,I1,.int i t,q⟩
def SlR (X:Cx) (r:V->Option Int->Option Int->Hp->VK->Prop):Prop:=
 ∀(pins:List (Addr×Obj)) (s:Shared) (σ : St) (H:Hp) (x:V) (v vl vu:Value) (lo hi:Option Int) (sl:Addr) (Q:VK),Inv X pins σ H s->RelV x v->s.heap.IsSliceOf sl vl vu .none->IsPart vl lo->IsPart vu hi->r x lo hi H Q ->
  ∃T id,typeLookup (.type T) "__getitem__"=pure (some (.builtin id))/\s.TypeIs v T/\wpAny (model X.prog X.w) X.A (getItem v (.ref sl)) (EP X pins σ Q) X.xe s
def tSl (r:V->Option Int->Option Int->Hp->VK->Prop) (te:TE) (tl th:TO):TE:=fun σ H Q=>te σ H λx H1=>tl σ H1 λl H2=>th σ H2 λu H3=>r x l u H3 Q
theorem Jr {r:V->Option Int->Option Int->Hp->VK->Prop} (hr:SlR X r) (he:PE X e te) (hl:PO X lo tl) (hu:PO X hi th):PE X (.Subscript e (.Slice lo hi none p2) pos) (tSl r te tl th):=by
 intro pins s σ H Q I h
 refine Subscript_ (thn (he pins s σ H _ I h) λv s1 ⟨x,H1,I1,r1,q1⟩=>?_)
 refine wpAny_Slice (thn (hl pins s1 σ H1 _ I1 q1) λvl s2 ⟨l,H2,I2,pl,q2⟩=>thn (hu pins s2 σ H2 _ I2 q2) λvu s3 ⟨u,H3,I3,pu,q3⟩=>?_)
 rw[evalPart_none]
 refine Qco ?_
 have I4:Inv X pins σ H3 { s3 with heap:=s3.heap.push { cls:=.type "slice",data:=.fields #[vl,vu,.none] } }:=I3.kept (t':=s3.toks) λb ob q=>Qat _ q
 obtain⟨T,id,hT,ht,hg⟩:=hr pins { s3 with heap:=s3.heap.push { cls:=.type "slice",data:=.fields #[vl,vu,.none] } } σ H3 x v vl vu l u s3.heap.objs.size Q I4 r1 (Heap.IsSliceOf.new ..) pl pu q3
 show wpAny (model X.prog X.w) X.A (subscriptTail e (.Slice lo hi none p2) v (.ref s3.heap.objs.size)) (EP X pins σ Q) X.xe { s3 with heap:=s3.heap.push { cls:=.type "slice",data:=.fields #[vl,vu,.none] } }
 exact tail_any (ops:=[.ref s3.heap.objs.size,v]) ht hT hg (by with_unfolding_all rfl)
def Ig (xs:List V) (lo hi:Option Int):List V:=(xs.drop (HT.sIx xs.length 0 lo)).take (HT.sIx xs.length xs.length hi - HT.sIx xs.length 0 lo)
theorem Rk (xs:List V) (lo hi:Option Int):(Ig xs lo hi).length<=xs.length:=by
 unfold Ig
 rw[Qbp,Qbt]
 omega
def AH (K:PySem.W.Frag):V->Option Int->Option Int->Hp->VK->Prop:=λx lo hi H Q=>∃a xs,x=.ref a/\SqT K H a xs /\
 ¬(HT.sIx xs.length 0 lo=0/\HT.sIx xs.length xs.length hi=xs.length)/\∀p,H p=none->Q (.ref p) (upd H p (.tup (Ig xs lo hi)))
theorem vA:SlR X (AH X.K):=by
 intro pins s σ H x v vl vu lo hi sl Q I rx hs pl pu h
 obtain⟨a,xs,rfl,hx,hw,q⟩:=h
 cases rx
 obtain⟨its,r,ht,hz⟩:=I.tuple hx
 have hlen:its.toArray.size=xs.length:=by rw[Qbb];exact r.length.symm
 refine⟨"tuple",_,Qab.lookup,ht.typeIs,?_⟩
 refine HT.Q6 ht hs pl pu (by rw[hlen];exact hw) ?_ (by rw[hlen];exact hz)
 rw[hlen]
 refine⟨.ref s.heap.objs.size,_,I.laid (t':=s.toks) (o:=.tup (Ig xs lo hi)) (λb ob q=>Qat _ q) (Qci _) ?_,rfl,q _ (I.hok.fresh (Qci _))⟩
 exact⟨Qcd (Rk xs lo hi) hz,_,(r.drop (HT.sIx xs.length 0 lo)).take (HT.sIx xs.length xs.length hi - HT.sIx xs.length 0 lo),IsTup.new _ _⟩
def zc (K:PySem.W.Frag):R2:=λx y H Q=>∃a b xs ys,x=.ref a/\y=.ref b/\SqT K H a xs/\SqT K H b ys/\xs≠[]/\xs.length+ys.length<=sizeLine /\
 (ys=[]->Q (.ref a) H)/\(ys≠[]->∀p,H p=none->Q (.ref p) (upd H p (.tup (xs++ys))))
theorem Vals.Uq {xs:List V} {us:List Value} (r:Vals xs us):us=[] ↔ xs=[]:=by
 cases r with
 | nil=>simp
 | cons _ _=>simp
theorem rZ:OpR X (binaryOp .Add) (zc X.K):=by
 intro pins s σ H x y v u Q I rx ry h
 obtain⟨a,b,xs,ys,rfl,rfl,ha,hb,hx,hz,q1,q2⟩:=h
 cases rx
 cases ry
 obtain⟨its,r1,p1,_⟩:=I.tuple ha
 obtain⟨its2,r2,p2,_⟩:=I.tuple hb
 refine HT.ur p1 p2 (λz=>hx (r1.Uq.mp z)) (λz=>⟨.ref a,H,I,rfl,q1 (r2.Uq.mp z)⟩) (λz=>?_) (by rw[<-r1.length,<-r2.length];exact hz)
 refine⟨.ref s.heap.objs.size,_,I.laid (t':=s.toks) (o:=.tup (xs++ys)) (λb ob q=>Qat _ q) (Qci _) ?_,rfl,q2 (λw=>z (r2.Uq.mpr w)) _ (I.hok.fresh (Qci _))⟩
 exact⟨by rw[QaM];exact hz,_,r1.append r2,IsTup.new _ _⟩
end
def ixN (n:Nat) (i:Int):Option Nat:=if 0<=i then (if i < n then some i.toNat else none) else if -(n:Int)<=i then some (i+n).toNat else none
def atI {α : Type} (xs:List α) (i:Int):Option α:=(ixN xs.length i).bind λj=>xs[j]?
theorem aj {n:Nat} {i:Int} {j:Nat} (h:ixN n i=some j):seqIndex? i n=some j/\j < n/\-(n:Int)<=i/\i < n:=by
 unfold ixN at h
 by_cases h0:0<=i
 ·rw[if_pos h0] at h
  by_cases h1:i < n
  ·rw[if_pos h1] at h
   have e:i.toNat=j:=QbB h
   exact⟨by rw[seqIndex_of h0 h1,e],by omega,by omega,h1⟩
  ·rw[if_neg h1] at h;cases h
 ·rw[if_neg h0] at h
  by_cases h1:-(n:Int)<=i
  ·rw[if_pos h1] at h
   have e:(i+n).toNat=j:=QbB h
   exact⟨by rw[seqIndex_neg (by omega) h1,e],by omega,h1,by omega⟩
  ·rw[if_neg h1] at h;cases h
theorem U0 {α : Type} {xs:List α} {i:Int} {v:α} (h:atI xs i=some v):∃j,seqIndex? i xs.length=some j/\xs[j]?=some v/\j < xs.length/\-(xs.length:Int)<=i/\i < xs.length:=by
 unfold atI at h
 cases e:ixN xs.length i with
 | none=>rw[e] at h;cases h
 | some j=>
  rw[e] at h
  obtain⟨h1,h2,h3,h4⟩:=aj e
  exact⟨j,h1,h,h2,h3,h4⟩
theorem FW {α : Type} {xs:List α} {j:Nat} {v:α} (h:xs[j]?=some v):atI xs (j:Int)=some v:=by
 have hj:j < xs.length:=(Qai.mp h).1
 have e:ixN xs.length (j:Int)=some j:=by
  unfold ixN
  rw[if_pos (by omega),if_pos (by omega)];simp
 unfold atI;rw[e];exact h
def uF (b:Expr):Prop:=∀o i,subscripted b false o i=operate [o,i] (getItem o i)
def IxR (X:Cx) (r:R2):Prop:=
 ∀(value slice:Expr) (pins:List (Addr×Obj)) (s:Shared) (σ : St) (H:Hp) (x y:V) (v u:Value) (Q:VK),Inv X pins σ H s->RelV x v->RelV y u->r x y H Q ->
  subscripted slice false v u=operate [v,u] (getItem v u)->wpAny (model X.prog X.w) X.A (subscriptTail value slice v u) (EP X pins σ Q) X.xe s
def MtR (X:Cx) (id:String) (r:V->List V->Hp->VK->Prop):Prop:=
 ∀(pins:List (Addr×Obj)) (s:Shared) (σ : St) (H:Hp) (x:V) (xs:List V) (v:Value) (us:List Value) (Q:VK),Inv X pins σ H s->RelV x v->Vals xs us->r x xs H Q ->
  wpAny (model X.prog X.w) X.A (call (.builtin id) (v::us)) (EP X pins σ Q) X.xe s
section
variable {X:Cx} {a b:Expr} {ta tb:TE} {pos:Pos}
theorem Bo {r:R2} (hr:IxR X r) (ha:PE X a ta) (hb:PE X b tb) (hs:uF b):PE X (.Subscript a b pos) (tOp r ta tb):=by
 intro pins s σ H Q I h
 exact Subscript_ (pU ha hb I h λv u s2 x y H2 I2 rx ry q=>hr a b pins s2 σ H2 x y v u Q I2 rx ry q (hs _ _))
def AM (K:PySem.W.Frag):R2:=λx y H Q=>∃p xs i v,x=.ref p/\y=.int i/\SqL K H p xs/\atI xs i=some v/\Q v H
def vK (K:PySem.W.Frag):R2:=λx y H Q=>∃p xs i v,x=.ref p/\y=.int i/\SqT K H p xs/\atI xs i=some v/\Q v H
def AL:R2:=λx y H Q=>∃z i c,x=.str z/\y=.int i/\z.length<=sizeLine/\atI z.cps.toList i=some c/\Q (.str ⟨#[c]⟩) H
theorem Cv:IxR X (AM X.K):=by
 intro value slice pins s σ H x y v u Q I rx ry h hs
 obtain⟨p,xs,i,z,rfl,rfl,hq,he,q⟩:=h
 cases rx
 obtain⟨t,rfl⟩:=ry
 obtain⟨its,r,pl,hz⟩:=I.list hq
 obtain⟨j,h1,h2,h3,h4,h5⟩:=U0 he
 obtain⟨w,ew,rw'⟩:=r.get h2
 have hl:=r.length
 have hn:=Nv
 have fin:EP X pins σ Q w s:=⟨z,H,I,rw',q⟩
 by_cases h0:0<=i
 ·have hj:i.toNat=j:=by
   rw[seqIndex_of h0 h5] at h1
   exact QbB h1
  exact item_listR pl.isList h0 (by omega) (by rw[hj];simpa using ew) fin hs
 ·have hj:(i+(its.toArray.size:Int)).toNat=j:=by
   rw[seqIndex_neg (by omega) h4] at h1
   rw[Qbb,<-hl]
   exact QbB h1
  exact subscriptTail_builtinR (x:=w) pl.isList.typeIs slot_list_getitem.lookup
   (wpAny_getItem_list_neg (Q:=λr s'=>r=w/\EP X pins σ Q r s') pl.isList (by omega) (by rw[Qbb] <;> omega) (by omega) (by rw[hj];simpa using ew) ⟨rfl,fin⟩) hs
theorem Cm:IxR X (vK X.K):=by
 intro value slice pins s σ H x y v u Q I rx ry h hs
 obtain⟨p,xs,i,z,rfl,rfl,hq,he,q⟩:=h
 cases rx
 obtain⟨t,rfl⟩:=ry
 obtain⟨its,r,pl,hz⟩:=I.tuple hq
 obtain⟨j,h1,h2,h3,h4,h5⟩:=U0 he
 obtain⟨w,ew,rw'⟩:=r.get h2
 have hl:=r.length
 have hn:=Nv
 have fin:EP X pins σ Q w s:=⟨z,H,I,rw',q⟩
 exact subscriptTail_builtinR (x:=w) pl.typeIs slot_tuple_getitem.lookup
  (getItem_tuple (j:=j) (Q:=λr s'=>r=w/\EP X pins σ Q r s') pl (by omega) (by omega) (by rw[Qbb,<-hl];exact h1) (by simpa using ew) ⟨rfl,fin⟩) hs
theorem wO:IxR X AL:=by
 intro value slice pins s σ H x y v u Q I rx ry h hs
 obtain⟨z,i,c,rfl,rfl,hz,he,q⟩:=h
 obtain⟨t,rfl⟩:=rx
 obtain⟨t',rfl⟩:=ry
 obtain⟨j,h1,h2,h3,h4,h5⟩:=U0 he
 have hl:z.cps.toList.length=z.length:=by simp[Str.length]
 rw[hl] at h1 h4 h5
 have hn:=Nv
 exact tail_any (typeIs_str s z t) slot_str_getitem.lookup (getItem_str (c:=c) (by
  have e1:decide (i < -(2 ^ 63:Int))=false:=QbC (by omega)
  have e2:decide (i ≥ 2 ^ 63)=false:=QbC (by omega)
  rw[e1,e2,Bool.or_false]) (by rw[h1];simpa using h2) ⟨.str ⟨#[c]⟩,H,I.tok _,⟨_,rfl⟩,q⟩) hs
theorem cA (its:List Value) (n j:Nat) (u:Value):Obj.mapSeq (·.setIfInBounds j u) { cls:=.type "list",data:=.seq its.toArray n }={ cls:=.type "list",data:=.seq (its.set j u).toArray n }:=by
 simp[Obj.mapSeq]
theorem Inv.lst {pins:List (Addr×Obj)} {σ : St} {H:Hp} {s:Shared} {p:Addr} {xs:List V} (I:Inv X pins σ H s) (h:H p=some (.lst xs)) :
  ∃(its:List Value) (n:Nat),Vals xs its/\s.heap.get? p=some { cls:=.type "list",data:=.seq its.toArray n }/\xs.length<=sizeLine:=by
 obtain⟨z,its,n,r,e⟩:=I.hok p _ h
 exact⟨its,n,r,e,z⟩
theorem Inv.wH {pins:List (Addr×Obj)} {σ : St} {H:Hp} {s:Shared} {p:Addr} {xs ys:List V} {its its':List Value} {n n':Nat} {f:Obj->Obj} (I:Inv X pins σ H s) (h:H p=some (.lst xs))
  (ho:s.heap.get? p=some { cls:=.type "list",data:=.seq its.toArray n }) (hf:f { cls:=.type "list",data:=.seq its.toArray n }={ cls:=.type "list",data:=.seq its'.toArray n' }) (r:Vals ys its') (hz:ys.length<=sizeLine) (t:Nat) :
  Inv X pins σ (upd H p (.lst ys)) { s with heap:=s.heap.update p f,toks:=t }:=by
 have e:(s.heap.update p f).get? p=some { cls:=.type "list",data:=.seq its'.toArray n' }:=by
  rw[Qax f ho (by rw[hf] <;> rfl),hf]
 refine I.write (x:=p) (e:=p) (by rw[h];trivial) (.inl rfl) (λb u hb q=>(Qav _ _ (Ne.symm hb)).trans q) ⟨_,e⟩ ?_
 exact⟨hz,its',n',r,e⟩
def za:V->V->V->Hp->(Hp->Prop)->Prop:=λo i v H Q=>∃p xs k j,o=.ref p/\i=.int k/\H p=some (.lst xs)/\ixN xs.length k=some j/\Q (upd H p (.lst (xs.set j v)))
theorem set_list:yH X za:=by
 intro pins s σ H o i v ov iv u Q I ro ri rv h
 obtain⟨p,xs,k,j,rfl,rfl,hp,hj,q⟩:=h
 cases ro
 obtain⟨t,rfl⟩:=ri
 obtain⟨its,n,r,ho,hz⟩:=I.lst hp
 obtain⟨h1,h2,h3,h4⟩:=aj hj
 have hl:=r.length
 have hn:=Nv
 have I':Inv X pins σ (upd H p (.lst (xs.set j v))) { s with heap:=s.heap.update p (Obj.mapSeq (·.setIfInBounds j u)) }:=
  I.wH hp ho (cA its n j u) (r.set rv j) (by rw[List.length_set];exact hz) s.toks
 by_cases h0:0<=k
 ·have hk:k.toNat=j:=by
   rw[seqIndex_of h0 h4] at h1
   exact QbB h1
  exact PySem.W.ki_setAt ho h0 (by omega) (by rw[Qbb,<-hl];exact h4) (by rw[hk];exact⟨_,I',q⟩)
 ·have hk:(k+(its.toArray.size:Int)).toNat=j:=by
   rw[seqIndex_neg (by omega) h3] at h1
   rw[Qbb,<-hl]
   exact QbB h1
  exact PySem.W.ki_setBack ho (by omega) (by rw[Qbb,<-hl];exact h3) (by omega) (by rw[hk];exact⟨_,I',q⟩)
theorem WL (lo hi:Option Int) (n:Nat):(sliceBounds lo hi none n).1=((HT.sIx n 0 lo:Nat):Int)/\(sliceBounds lo hi none n).2.1=((HT.sIx n n hi:Nat):Int)/\(sliceBounds lo hi none n).2.2=1:=by
 refine⟨?_,?_,rfl⟩
 ·cases lo with
  | none=>simp[sliceBounds,HT.sIx]
  | some i=>
   simp only[sliceBounds,HT.sIx,Option.getD_none,show (1:Int) > 0 by decide,if_true]
   by_cases h:i < 0
   ·simp only[h,if_true] <;> omega
   ·simp only[h,if_false] <;> omega
 ·cases hi with
  | none=>simp[sliceBounds,HT.sIx]
  | some i=>
   simp only[sliceBounds,HT.sIx,Option.getD_none,show (1:Int) > 0 by decide,if_true]
   by_cases h:i < 0
   ·simp only[h,if_true] <;> omega
   ·simp only[h,if_false] <;> omega
theorem Vy (its:List Value) (lo hi:Option Int):slicePick its.toArray lo hi none=((its.drop (HT.sIx its.length 0 lo)).take (HT.sIx its.length its.length hi - HT.sIx its.length 0 lo)).toArray:=by
 obtain⟨h1,h2,h3⟩:=WL lo hi its.toArray.size
 unfold slicePick
 rw[h1,h2,h3]
 simp only[sliceRange_one,pick_run,Qbb] <;> rfl
def AI (K:PySem.W.Frag):V->Option Int->Option Int->Hp->VK->Prop:=λx lo hi H Q=>∃a xs,x=.ref a/\SqL K H a xs/\∀p,H p=none->Q (.ref p) (upd H p (.lst (Ig xs lo hi)))
theorem rE:SlR X (AI X.K):=by
 intro pins s σ H x v vl vu lo hi sl Q I rx hs pl pu h
 obtain⟨a,xs,rfl,hx,q⟩:=h
 cases rx
 obtain⟨its,r,ht,hz⟩:=I.list hx
 have hlen:=r.length
 refine⟨"list",_,slot_list_getitem.lookup,ht.isList.typeIs,?_⟩
 refine wpAny_getItem_list_slice ht.isList hs pl pu .none (by simp) ?_ (by rw[Qbb] <;> omega)
 rw[Vy,<-hlen]
 refine⟨.ref s.heap.objs.size,_,I.laid (t':=s.toks) (o:=.lst (Ig xs lo hi)) (λb ob q=>Qat _ q) (Qci _) ?_,rfl,q _ (I.hok.fresh (Qci _))⟩
 exact⟨Qcd (Rk xs lo hi) hz,_,0,(r.drop (HT.sIx xs.length 0 lo)).take (HT.sIx xs.length xs.length hi - HT.sIx xs.length 0 lo),QaF _ rfl⟩
def JH:V->Bool
 | .non=>true
 | .bl _=>true
 | .int _=>true
 | .str _=>true
 | _=>false
def eqV:V->V->Bool
 | .non,.non=>true
 | .bl a,.bl b=>a == b
 | .bl a,.int b=>(if a then 1 else 0) == b
 | .int a,.bl b=>a == (if b then 1 else 0)
 | .int a,.int b=>a == b
 | .str a,.str b=>a == b
 | _,_=>false
theorem yj {A:Around} {s:Shared} {y x:V} {u v:Value} (ry:RelV y u) (rx:RelV x v) (fy:JH y=true) (fx:JH x=true):SeqAt.EqAt A s u v (eqV y x):=by
 cases y with
 | non=>
  cases ry
  cases x with
  | non=>cases rx;exact SeqAt.EqAt.same _
  | bl b=>cases rx;exact SeqAt.EqAt.none_bool b
  | int b=>obtain⟨t,rfl⟩:=rx;exact SeqAt.EqAt.none_int b t
  | str b=>obtain⟨t,rfl⟩:=rx;exact SeqAt.EqAt.none_str b t
  | _=>exact absurd (show false=true from fx) QaP
 | bl a=>
  cases ry
  cases x with
  | non=>cases rx;exact SeqAt.EqAt.bool_none a
  | bl b=>cases rx;exact SeqAt.EqAt.bool_bool a b
  | int b=>obtain⟨t,rfl⟩:=rx;exact SeqAt.EqAt.bool_int a b t
  | str b=>obtain⟨t,rfl⟩:=rx;exact SeqAt.EqAt.bool_str a b t
  | _=>exact absurd (show false=true from fx) QaP
 | int a=>
  obtain⟨t',rfl⟩:=ry
  cases x with
  | non=>cases rx;exact SeqAt.EqAt.int_none a t'
  | bl b=>cases rx;exact SeqAt.EqAt.int_bool a t' b
  | int b=>obtain⟨t,rfl⟩:=rx;exact SeqAt.EqAt.int_int a t' b t
  | str b=>obtain⟨t,rfl⟩:=rx;exact SeqAt.EqAt.int_str a t' b t
  | _=>exact absurd (show false=true from fx) QaP
 | str a=>
  obtain⟨t',rfl⟩:=ry
  cases x with
  | non=>cases rx;exact SeqAt.EqAt.str_none a t'
  | bl b=>cases rx;exact SeqAt.EqAt.str_bool a t' b
  | int b=>obtain⟨t,rfl⟩:=rx;exact SeqAt.EqAt.str_int a t' b t
  | str b=>obtain⟨t,rfl⟩:=rx;exact SeqAt.EqAt.str_str a t' b t
  | _=>exact absurd (show false=true from fx) QaP
 | _=>exact absurd (show false=true from fy) QaP
def eqU (x:V) (u:Value):Bool:=match u with
 | .none=>eqV .non x
 | .bool b=>eqV (.bl b) x
 | .int i _=>eqV (.int i) x
 | .str z _=>eqV (.str z) x
 | _=>false
theorem ji {x y:V} {u:Value} (r:RelV y u) (f:JH y=true):eqU x u=eqV y x:=by
 cases y with
 | non=>cases r;rfl
 | bl b=>cases r;rfl
 | int i=>obtain⟨t,rfl⟩:=r;rfl
 | str z=>obtain⟨t,rfl⟩:=r;rfl
 | _=>exact absurd (show false=true from f) QaP
theorem Nz {x:V}:∀{xs:List V} {us:List Value},Vals xs us->xs.all JH=true->us.any (eqU x)=xs.any λy=>eqV y x
 | _,_,.nil,_=>rfl
 | y::xs,u::us,.cons r t,f=>by
  rw[List.all_cons,Qbu] at f
  rw[QbZ,QbZ,ji r f.1,Nz t f.2]
theorem Lz {A:Around} {s:Shared} {x:V} {v:Value} (rx:RelV x v) (fx:JH x=true):∀{xs:List V} {us:List Value},Vals xs us->xs.all JH=true->∀u∈us,SeqAt.EqAt A s u v (eqU x u)
 | _,_,.nil,_=>λu hu=>by cases hu
 | y::xs,u::us,.cons r t,f=>λu' hu=>by
  rw[List.all_cons,Qbu] at f
  rcases QbS.mp hu with rfl | hu
  ·rw[ji r f.1];exact yj r rx f.1 fx
  ·exact Lz rx fx t f.2 u' hu
def inV (x:V) (xs:List V):Bool:=xs.any λy=>eqV y x
def rIn (K:PySem.W.Frag) (neg:Bool):R2:=λx y H Q=>∃p xs,y=.ref p/\(SqL K H p xs\/SqT K H p xs)/\JH x=true/\xs.all JH=true/\Q (.bl (if neg then !inV x xs else inV x xs)) H
theorem PX:OpR X (compareOp .In) (rIn X.K false):=by
 intro pins s σ H x y v u Q I rx ry h
 obtain⟨p,xs,rfl,hq,fx,fs,q⟩:=h
 cases ry
 rcases hq with hq | hq
 ·obtain⟨its,r,pl,hz⟩:=I.list hq
  refine SeqAt.in_listAt (eqU x) pl.isList (λw hw=>Lz rx fx r fs w (by simpa using hw)) ⟨.bl _,H,I,rfl,?_⟩
  rw[show its.toArray.any (eqU x)=its.any (eqU x) by simp,Nz r fs]
  exact q
 ·obtain⟨its,r,pl,hz⟩:=I.tuple hq
  refine SeqAt.in_tupleAt (eqU x) pl (λw hw=>Lz rx fx r fs w (by simpa using hw)) ⟨.bl _,H,I,rfl,?_⟩
  rw[show its.toArray.any (eqU x)=its.any (eqU x) by simp,Nz r fs]
  exact q
theorem Xm:OpR X (compareOp .NotIn) (rIn X.K true):=by
 intro pins s σ H x y v u Q I rx ry h
 obtain⟨p,xs,rfl,hq,fx,fs,q⟩:=h
 cases ry
 rcases hq with hq | hq
 ·obtain⟨its,r,pl,hz⟩:=I.list hq
  refine SeqAt.notIn_listAt (eqU x) pl.isList (λw hw=>Lz rx fx r fs w (by simpa using hw)) ⟨.bl _,H,I,rfl,?_⟩
  rw[show its.toArray.any (eqU x)=its.any (eqU x) by simp,Nz r fs]
  exact q
 ·obtain⟨its,r,pl,hz⟩:=I.tuple hq
  refine SeqAt.notIn_tupleAt (eqU x) pl (λw hw=>Lz rx fx r fs w (by simpa using hw)) ⟨.bl _,H,I,rfl,?_⟩
  rw[show its.toArray.any (eqU x)=its.any (eqU x) by simp,Nz r fs]
  exact q
theorem Bs:Dy X (.builtin "len") (λxs H Q=>∃p ys,xs=[.ref p]/\(SqL X.K H p ys\/SqT X.K H p ys)/\Q (.int ys.length) H):=by
 intro pins s σ H xs us Q I r h
 obtain⟨p,ys,rfl,hq,q⟩:=h
 obtain⟨u,rfl,rx⟩:=vals1 r
 cases rx
 have hn:=Nv
 rcases hq with hq | hq
 ·obtain⟨its,r',pl,hz⟩:=I.list hq
  have hlen:=r'.length
  exact Calls.call_len_list pl.isList (by simp only[Qbb] <;> omega) ⟨.int ys.length,H,I.tok _,⟨s.toks+1,by rw[Qbb,hlen]⟩,q⟩
 ·obtain⟨its,r',pl,hz⟩:=I.tuple hq
  have hlen:=r'.length
  exact len_tuple pl (by simp only[Qbb] <;> omega) ⟨.int ys.length,H,I.tok _,⟨s.toks+1,by rw[Qbb,hlen]⟩,q⟩
theorem Ys:Dy X (.builtin "len") (λxs H Q=>∃z,xs=[.str z]/\z.length<=sizeLine/\Q (.int z.length) H):=by
 intro pins s σ H xs us Q I r h
 obtain⟨z,rfl,hz,q⟩:=h
 obtain⟨u,rfl,t,rfl⟩:=vals1 r
 have hn:=Nv
 exact len_str (by omega) ⟨.int z.length,H,I.tok _,⟨_,rfl⟩,q⟩
theorem Gi:Dy X (.type "tuple") (λxs H Q=>∃p ys,xs=[.ref p]/\((SqL X.K H p ys/\∀l,H l=none->Q (.ref l) (upd H l (.tup ys)))\/(SqT X.K H p ys/\Q (.ref p) H))):=by
 intro pins s σ H xs us Q I r h
 obtain⟨p,ys,rfl,h⟩:=h
 obtain⟨u,rfl,rx⟩:=vals1 r
 cases rx
 rcases h with⟨hq,q⟩|⟨hq,q⟩
 ·obtain⟨its,r',pl,hz⟩:=I.list hq
  have hlen:=r'.length
  refine call_tuple_list pl.isList (λh' kp=>?_) (by simp only[Qbb] <;> omega)
  have I1:Inv X pins σ H { s with heap:=h' }:=I.kept (t':=s.toks) kp
  have I2:Inv X pins σ (upd H h'.objs.size (.tup ys)) { s with heap:=h'.push { cls:=.type "tuple",data:=.seq its.toArray } }:=
   I1.laid (t':=s.toks) (λb o e=>Qat _ e) (Qci _) (show Bm X.prog X.w _ _ _ (.tup ys) from⟨hz,its,r',IsTup.new _ _⟩)
  exact⟨.ref h'.objs.size,_,I2,rfl,q _ (I1.hok.fresh (Qci _))⟩
 ·obtain⟨its,r',pl,hz⟩:=I.tuple hq
  exact call_tuple_same pl ⟨.ref p,H,I,rfl,q⟩
def tyV (K:PySem.W.Frag) (T:String) (x:V) (H:Hp):Prop:=match x with
 | .str _=>T="str"
 | .int _=>T="int"
 | .ref p=>(T="list"/\∃xs,SqL K H p xs)\/(T="tuple"/\∃o,K.lookup p=some o/\o.cls=.type "tuple"/\o.dict=none) \/
   (T="dict"/\((∃kvs,H p=some (.dK kvs))\/∃kvs,H p=some (.dT kvs)))\/(T="set"/\∃S n,H p=some (.set S n))
 | _=>False
theorem eF {pins:List (Addr×Obj)} {σ : St} {H:Hp} {s:Shared} {T:String} {x:V} {v:Value} (I:Inv X pins σ H s) (r:RelV x v) (ty:tyV X.K T x H) :
  s.TypeIs v T/\∀a,v=.ref a->∃ob,s.heap.get? a=some ob/\ob.dict=none:=by
 cases x with
 | str z=>
  obtain⟨t,rfl⟩:=r
  cases (show T="str" from ty)
  exact⟨typeIs_str s z t,λ_ e=>nomatch e⟩
 | int i=>
  obtain⟨t,rfl⟩:=r
  cases (show T="int" from ty)
  exact⟨typeIs_int s i t,λ_ e=>nomatch e⟩
 | ref p=>
  cases r
  rcases ty with⟨rfl,xs,hq⟩|⟨rfl,o,hk,hc,hd⟩|⟨rfl,hk⟩|⟨rfl,S,n,hk⟩
  ·obtain⟨its,_,pl,_⟩:=I.list hq
   refine⟨pl.isList.typeIs,λa e=>?_⟩
   cases e
   obtain⟨o,n,e,c,hd,_⟩:=pl
   exact⟨o,e,hd⟩
  ·refine⟨⟨o,I.kIn p o hk,hc⟩,λa e=>?_⟩
   cases e
   exact⟨o,I.kIn _ o hk,hd⟩
  ·have z:∃o,s.heap.get? p=some o/\o.ExactDict:=by
    rcases hk with⟨kvs,hk⟩|⟨kvs,hk⟩
    ·obtain⟨_,_,_,_,o,_,_,e,ex,_⟩:=I.hok p _ hk
     exact⟨o,e,ex⟩
    ·obtain⟨_,_,_,_,o,_,_,e,ex,_⟩:=I.hok p _ hk
     exact⟨o,e,ex⟩
   obtain⟨o,e,ex⟩:=z
   refine⟨⟨o,e,ex.1⟩,λa e2=>?_⟩
   cases e2
   exact⟨o,e,ex.2.1⟩
  ·obtain⟨o,_,_,_,e,ex,_⟩:=I.hok p _ hk
   refine⟨⟨o,e,ex.1⟩,λa e2=>?_⟩
   cases e2
   exact⟨o,e,ex.2.1⟩
 | _=>exact False.elim ty
def AE (K:PySem.W.Frag) (T:String) (r:V->List V->Hp->VK->Prop) (to:TE):TE:=fun σ H Q=>to σ H λx H1=>tyV K T x H1/\r x [] H1 Q
def tBM (K:PySem.W.Frag) (T:String) (r:V->List V->Hp->VK->Prop) (to:TE) (t:TA):TE:=fun σ H Q=>to σ H λx H1=>tyV K T x H1/\t σ H1 λxs H2=>r x xs H2 Q
variable {o e:Expr} {es:List Expr} {to:TE} {t:TA} {name:Str} {apos cpos:Pos} {T id:String} {r:V->List V->Hp->VK->Prop}
theorem vU (pa:PlainAttrs T) (slot:Slot T name id) (hty:typeOf (.builtin id)=pure (.type "method_descriptor")) (hm:MtR X id r) (ho:PE X o to)
  (hbase:attributeBase o name X.env (eval o X.env)=eval o X.env:=by rfl) (hline:(apos.endLine == cpos.line)=true:=by rfl):PE X (.Call (.Attribute o name apos) [] [] cpos) (AE X.K T r to):=by
 intro pins s σ H Q I h
 refine wpAny_Call_method0_late hbase hline (thn (ho pins s σ H _ I h) λv s1 ⟨x,H1,I1,r1,ty,q1⟩=>?_)
 obtain⟨h1,h2⟩:=eF I1 r1 ty
 exact⟨T,id,pa,slot,hty,h1,h2,Calls.callWith_builtin rfl (PySem.evalArgs_none (hm pins s1 σ H1 x [] v [] Q I1 r1 .nil q1))⟩
theorem CG (pa:PlainAttrs T) (slot:Slot T name id) (hty:typeOf (.builtin id)=pure (.type "method_descriptor")) (hm:MtR X id r) (ho:PE X o to) (ha:PA X (e::es) t)
  (hbase:attributeBase o name X.env (eval o X.env)=eval o X.env:=by rfl)
  (hfew:((backTo cpos (starEach (e::es) X.env)).all (λx=>!x.1)&&(backToKw cpos (keywordEach [] X.env)).all (λx=>x.1.isSome)
  &&decide ((e::es).length+([]:List Keyword).length+(if ([]:List Keyword).isEmpty then 0 else 1) < 30))=true:=by rfl)
  (hline:(apos.endLine == cpos.line)=true:=by rfl) (hs:starEach (e::es) X.env=(false,eval e X.env)::starEach es X.env:=by rfl) (hplain:(backTo cpos (starEach es X.env)).any (·.1)=false:=by rfl) :
  PE X (.Call (.Attribute o name apos) (e::es) [] cpos) (tBM X.K T r to t):=by
 intro pins s σ H Q I h
 refine wpAny_Call_method_late hbase hfew hline rfl (thn (ho pins s σ H _ I h) λv s1 ⟨x,H1,I1,r1,ty,q1⟩=>?_)
 obtain⟨h1,h2⟩:=eF I1 r1 ty
 refine⟨T,id,pa,slot,hty,h1,h2,?_⟩
 have hA:=ha cpos pins s1 σ H1 _ I1 q1
 rw[hs] at hA ⊢
 refine Calls.callWith_builtin (by show (false || (backTo cpos (starEach es X.env)).any (·.1))=false;rw[hplain] <;> rfl) (Calls.evalArgs_plain ?_)
 exact thn hA λus s2 ⟨vs,H2,I2,r2,q2⟩=>hm pins s2 σ H2 x vs v us Q I2 r1 r2 q2
end
def MtM (X:Cx) (id:String) (r:V->List V->Hp->VK->Prop):Prop:=
 ∀(pins:List (Addr×Obj)) (s:Shared) (σ : St) (H:Hp) (x:V) (xs:List V) (v:Value) (us:List Value) (Q:VK),Inv X pins σ H s->RelV x v->Vals xs us->r x xs H Q ->
  wpAny (model X.prog X.w) X.A (call (.builtin id) (v::us)) (EP X pins σ Q) X.xe s
theorem Vals.one:∀{x:V} {us:List Value},Vals [x] us->∃u,us=[u]/\RelV x u
 | _,_,.cons r .nil=>⟨_,rfl,r⟩
theorem Vals.zero:∀{us:List Value},Vals [] us->us=[]
 | _,.nil=>rfl
theorem Vals.dropLast {xs:List V} {us:List Value} (h:Vals xs us):Vals xs.dropLast us.dropLast:=by
 induction h with
 | nil=>exact .nil
 | cons r t ih=>
  cases t with
  | nil=>exact .nil
  | cons q t'=>exact .cons r ih
theorem Vals.eraseIdx:∀{xs:List V} {us:List Value} (i:Nat),Vals xs us->Vals (xs.eraseIdx i) (us.eraseIdx i)
 | _,_,_,.nil=>.nil
 | _,_,0,.cons _ t=>t
 | _,_,i+1,.cons r t=>.cons r (Vals.eraseIdx i t)
theorem Vals.rep {xs:List V} {us:List Value} (h:Vals xs us):∀k:Nat,Vals (List.replicate k xs).flatten (List.replicate k us).flatten
 | 0=>.nil
 | k+1=>by
  rw[QaL,QaL,List.flatten_cons,List.flatten_cons]
  exact Vals.append h (Vals.rep h k)
theorem dj {α : Type} (l:List α):l.eraseIdx (l.length - 1)=l.dropLast:=by
 induction l with
 | nil=>rfl
 | cons a r ih=>
  cases r with
  | nil=>rfl
  | cons b r=>
   have e:(a::b::r).length - 1=((b::r).length - 1)+1:=by
    have h1:(a::b::r).length=r.length+2:=rfl
    have h2:(b::r).length=r.length+1:=rfl
    omega
   rw[e,List.eraseIdx_cons_succ,ih]
   all_goals rfl
theorem Vh {α : Type}:∀(l:List α) (i:Nat),(l.eraseIdx i).length<=l.length
 | [],_=>Qci _
 | _::_,0=>Nat.le_succ _
 | _::r,i+1=>Nat.succ_le_succ (Vh r i)
theorem foldl_rep (its:List Value):∀(k:Nat) (acc:List Value),
  List.foldl (λx1 x2=>x1++x2) acc.toArray (List.replicate k its.toArray)=(acc++(List.replicate k its).flatten).toArray
 | 0,acc=>by simp
 | k+1,acc=>by
  have e:acc.toArray++its.toArray=(acc++its).toArray:=by simp
  have e2:(acc++its)++(List.replicate k its).flatten=acc++(List.replicate (k+1) its).flatten:=by
   rw[QaL,List.flatten_cons,Qbd]
  rw[<-e2,<-foldl_rep its k (acc++its),<-e,QaL,List.foldl_cons]
section
variable {X:Cx} {pins:List (Addr×Obj)} {σ : St} {H:Hp} {s:Shared} {l b:Addr} {xs ys zs:List V}
theorem Inv.XF {its its':List Value} {n:Nat} {f:Array Value->Array Value} {t':Nat} (I:Inv X pins σ H s) (hH:H l=some (.lst xs))
  (e:s.heap.get? l=some { cls:=.type "list",data:=.seq its.toArray n }) (hf:f its.toArray=its'.toArray) (hv:Vals ys its') (hz:ys.length<=sizeLine) :
  Inv X pins σ (upd H l (.lst ys)) { s with heap:=s.heap.update l (Obj.mapSeq f),toks:=t' }:=by
 have q:=PySem.IsL.update e f
 rw[hf] at q
 refine I.write (x:=l) (e:=l) (by rw[hH];exact trivial) (.inl rfl) (λb' u hb hu=>(Qav s.heap (Obj.mapSeq f) (Ne.symm hb)).trans hu) ⟨_,q⟩ ?_
 exact⟨hz,its',_,hv,q⟩
theorem Inv.wI {its:List Value} {t':Nat} (I:Inv X pins σ H s) (hv:Vals ys its) (hz:ys.length<=sizeLine) :
  Inv X pins σ (upd H s.heap.objs.size (.lst ys)) { s with heap:=s.heap.push { cls:=.type "list",data:=.seq its.toArray },toks:=t' }:=
 I.laid (λ_ _ q=>Qat _ q) (Qci _) ⟨hz,its,0,hv,QaF _ rfl⟩
theorem Inv.fresh (I:Inv X pins σ H s):H s.heap.objs.size=none:=I.hok.fresh (Qci _)
theorem Inv.LC (I:Inv X pins σ H s) (hH:H l=some (.lst xs)):xs.length<=sizeLine/\∃(its:List Value) (n:Nat),Vals xs its/\xs.length=its.length/\s.heap.get? l=some { cls:=.type "list",data:=.seq its.toArray n }:=by
 obtain⟨z,its,n,r,e⟩:=I.hok l _ hH
 exact⟨z,its,n,r,r.length,e⟩
theorem Xz {n:Nat} (h:n<=sizeLine):Builtin.List.listTooLong n=false:=by
 unfold Builtin.List.listTooLong
 exact QbC (by omega)
end
section
variable {X:Cx}
def rN:V->List V->Hp->VK->Prop:=λx vs H Q=>∃l xs y,x=.ref l/\vs=[y]/\H l=some (.lst xs)/\xs.length < sizeLine/\Q .non (upd H l (.lst (xs++[y])))
theorem Cd:MtM X "list.append" rN:=by
 intro pins s σ H x vs v us Q I rx rv h
 obtain⟨l,xs,y,rfl,rfl,hH,hz,q⟩:=h
 cases rx
 obtain⟨u,rfl,ru⟩:=rv.one
 obtain⟨z,its,n,r,hl,e⟩:=I.LC hH
 refine call_meets F.slot_list_append ⟨_,e,rfl⟩ F.entry_list_append (F.args_list_append_2 _ _) (PySem.list_append l its.toArray n u (by rw[Qbb];omega)) ⟨e,?_⟩
 refine⟨.non,_,I.XF (its':=its++[u]) hH e (by simp) (r.append (.cons ru .nil)) ?_,rfl,q⟩
 rw[QaM,Qay]
 omega
def rK:V->List V->Hp->VK->Prop:=λx vs H Q=>∃l b xs zs,x=.ref l/\vs=[.ref b]/\H l=some (.lst xs)/\H b=some (.lst zs)/\xs.length+zs.length<=sizeLine/\Q .non (upd H l (.lst (xs++zs)))
theorem Il:MtM X "list.extend" rK:=by
 intro pins s σ H x vs v us Q I rx rv h
 obtain⟨l,b,xs,zs,rfl,rfl,hH,hB,hz,q⟩:=h
 cases rx
 obtain⟨u,rfl,ru⟩:=rv.one
 cases ru
 obtain⟨z,its,n,r,hl,e⟩:=I.LC hH
 obtain⟨z2,its2,n2,r2,hl2,e2⟩:=I.LC hB
 have hsz:its.toArray.size+its2.toArray.size<=sizeLine:=by rw[Qbb,Qbb];omega
 have cQ:¬(!its.toArray.isEmpty&&Builtin.List.listTooLong (its.toArray.size+its2.toArray.size))=true:=by
  rw[Xz hsz,Bool.and_false]
  exact QaP
 refine call_meets F.slot_list_extend ⟨_,e,rfl⟩ F.entry_list_extend (F.args_list_extend_2 _ _)
  (AutoSeq1.list_extend_list_list_0 l its.toArray n b its2.toArray n2 cQ (by rw[Qbb];omega) (by omega)) ⟨e,e2,?_⟩
 refine⟨.non,_,I.XF (its':=its++its2) hH e (by simp) (r.append r2) ?_,rfl,q⟩
 rw[QaM]
 omega
def AK:V->List V->Hp->VK->Prop:=λx vs H Q=>∃l xs y,x=.ref l/\vs=[]/\H l=some (.lst xs)/\xs[xs.length - 1]?=some y/\Q y (upd H l (.lst xs.dropLast))
theorem GW:MtM X "list.pop" AK:=by
 intro pins s σ H x vs v us Q I rx rv h
 obtain⟨l,xs,y,rfl,rfl,hH,hy,q⟩:=h
 cases rx
 have hus:=rv.zero
 subst hus
 obtain⟨z,its,n,r,hl,e⟩:=I.LC hH
 obtain⟨u,hu,ru⟩:=r.get hy
 have hy':its.toArray[its.toArray.size - 1]?=some u:=by
  show its.toArray[its.length - 1]?=some u
  rw[<-Array.getElem?_toList,<-hl]
  exact hu
 refine call_meets F.slot_list_pop ⟨_,e,rfl⟩ F.entry_list_pop (F.args_list_pop_1 _) (MeetsSeq.list_pop_last l its.toArray n u hy' (by rw[Qbb];omega)) ⟨e,?_⟩
 refine⟨y,_,I.XF (its':=its.dropLast) hH e ?_ r.dropLast ?_,ru,q⟩
 ·show its.toArray.eraseIdxIfInBounds (its.toArray.size - 1)=its.dropLast.toArray
  rw[Qbb,List.eraseIdxIfInBounds_toArray,dj]
 ·rw[List.length_dropLast]
  omega
def vJ:V->List V->Hp->VK->Prop:=λx vs H Q=>∃l xs i k y,x=.ref l/\vs=[.int i]/\H l=some (.lst xs)/\-(2 ^ 63)<=i/\i < 2 ^ 63/\seqIndex? i xs.length=some k/\xs[k]?=some y/\Q y (upd H l (.lst (xs.eraseIdx k)))
theorem XD:MtM X "list.pop" vJ:=by
 intro pins s σ H x vs v us Q I rx rv h
 obtain⟨l,xs,i,k,y,rfl,rfl,hH,h1,h2,hk,hy,q⟩:=h
 cases rx
 obtain⟨u,rfl,ru⟩:=rv.one
 obtain⟨t,rfl⟩:=ru
 obtain⟨z,its,n,r,hl,e⟩:=I.LC hH
 obtain⟨w,hw,rw'⟩:=r.get hy
 refine call_meets F.slot_list_pop ⟨_,e,rfl⟩ F.entry_list_pop (F.args_list_pop_2 _ _)
  (MeetsSeq.list_pop_at l its.toArray n i t k w (fitsIndex_both h1 h2) (by rw[Qbb,<-hl];exact hk) (by rw[<-Array.getElem?_toList];exact hw) (by rw[Qbb];omega)) ⟨e,?_⟩
 refine⟨y,_,I.XF (its':=its.eraseIdx k) hH e ?_ (r.eraseIdx k) ?_,rw',q⟩
 ·show its.toArray.eraseIdxIfInBounds k=(its.eraseIdx k).toArray
  rw[List.eraseIdxIfInBounds_toArray]
 ·have:=Vh xs k
  omega
def vL:V->List V->Hp->VK->Prop:=λx vs H Q=>∃l xs,x=.ref l/\vs=[]/\H l=some (.lst xs)/\Q .non (upd H l (.lst []))
theorem mR:MtM X "list.clear" vL:=by
 intro pins s σ H x vs v us Q I rx rv h
 obtain⟨l,xs,rfl,rfl,hH,q⟩:=h
 cases rx
 have hus:=rv.zero
 subst hus
 obtain⟨z,its,n,r,hl,e⟩:=I.LC hH
 refine call_meets F.slot_list_clear ⟨_,e,rfl⟩ F.entry_list_clear (F.args_list_clear_1 _) (AutoSeq1.list_clear_list_0 l its.toArray n (by rw[Qbb];omega)) ⟨e,?_⟩
 exact⟨.non,_,I.XF (its':=[]) (ys:=[]) hH e rfl .nil (Qcj _),rfl,q⟩
def AN:R2:=λx y H Q=>∃l b xs zs,x=.ref l/\y=.ref b/\H l=some (.lst xs)/\H b=some (.lst zs)/\xs.length+zs.length<=sizeLine/\∀p,H p=none->Q (.ref p) (upd H p (.lst (xs++zs)))
theorem Xn:OpR X (binaryOp .Add) AN:=by
 intro pins s σ H x y v u Q I rx ry h
 obtain⟨l,b,xs,zs,rfl,rfl,hH,hB,hz,q⟩:=h
 cases rx
 cases ry
 obtain⟨z,its,n,r,hl,e⟩:=I.LC hH
 obtain⟨z2,its2,n2,r2,hl2,e2⟩:=I.LC hB
 refine PySem.P.add_list e e2 ?_ (by rw[Qbb,Qbb];omega)
 have ea:its.toArray++its2.toArray=(its++its2).toArray:=by simp
 rw[ea]
 exact⟨.ref _,_,I.wI (t':=s.toks) (r.append r2) (by rw[QaM];omega),rfl,q _ I.fresh⟩
def AJ:R2:=λx y H Q=>∃l k xs,x=.ref l/\y=.int k/\H l=some (.lst xs)/\-(2 ^ 63)<=k/\k < 2 ^ 63/\xs.length*k.toNat<=sizeLine /\
 ∀p,H p=none->Q (.ref p) (upd H p (.lst (List.replicate k.toNat xs).flatten))
theorem len_rep {α : Type} (xs:List α) (k:Nat):(List.replicate k xs).flatten.length=k*xs.length:=by
 induction k with
 | zero=>simp
 | succ k ih=>rw[QaL,List.flatten_cons,QaM,ih,Nat.succ_mul,Nat.add_comm]
theorem gB:OpR X (binaryOp .Mult) AJ:=by
 intro pins s σ H x y v u Q I rx ry h
 obtain⟨l,k,xs,rfl,rfl,hH,h1,h2,hz,q⟩:=h
 cases rx
 obtain⟨t,rfl⟩:=ry
 obtain⟨z,its,n,r,hl,e⟩:=I.LC hH
 have hlen:its.toArray.size*k.toNat<=sizeLine:=by rw[Qbb,<-hl];exact hz
 have hcap:¬its.toArray.size*k.toNat > (2 ^ 63 - 1) / 8:=by
  have:(sizeLine:Nat)<=(2 ^ 63 - 1) / 8:=by decide
  omega
 have hfit:¬(!Builtin.List.listFitsIndex k)=true:=by
  rw[fitsIndex_both h1 h2]
  exact QaP
 have cQ:¬Builtin.List.listTooLong (its.toArray.size*k.toNat)=true:=by
  rw[Xz hlen]
  exact QaP
 have hnew:List.foldl (λx1 x2=>x1++x2) #[] (List.replicate (if its.toArray.isEmpty=true then 0 else k.toNat) its.toArray)=(List.replicate k.toNat its).flatten.toArray:=by
  have f0:∀m:Nat,List.foldl (λx1 x2=>x1++x2) #[] (List.replicate m its.toArray)=(List.replicate m its).flatten.toArray:=λm=>by
   have:=foldl_rep its m []
   rw[List.nil_append] at this
   exact this
  rw[f0]
  cases its with
  | nil=>simp
  | cons a r'=>rw[if_neg (by simp)]
 refine wpAny_binaryOp_repeat_ref (T:="list") (U:="int") (by decide) ⟨_,e,rfl⟩ (λs'=>typeIs_int s' k t) noFill_list_mul F.fills_int_mul F.slot_int_rmul repeat_list F.slot_int_index.lookup
  (call_meets F.slot_int_rmul (typeIs_int s k t) F.entry_int_rmul (F.args_int_rmul_2 _ _) (int___rmul___int_list k t l its.toArray n)
   ⟨e,rfl,⟨_,e,rfl⟩,call_meets F.slot_list_mul ⟨_,e,rfl⟩ F.entry_list_mul (F.args_list_mul_2 _ _) (AutoListH.list___mul___list_int_3 l its.toArray n k t hfit hcap cQ) ⟨e,?_⟩⟩)
 rw[hnew]
 exact⟨.ref _,_,I.wI (t':=s.toks) (r.rep k.toNat) (by rw[len_rep,Nat.mul_comm];exact hz),rfl,q _ I.fresh⟩
end
section
variable {prog:Program} {w:World} {A:Around} {E:Value->Shared->Prop} {s:Shared}
set_option maxRecDepth 100000 in
end
section
variable {X:Cx}
end
end L2
namespace Att
open PySem PySem.W PySem.Calls PyProof.Rows
theorem Tn {P:Params} {h:Heap}:∀(ns:List Int) (vs:List Value),WellAll P h vs (ns.map WData.int)->IntsAre vs ns:=by
 intro ns
 induction ns with
 | nil=>
  intro vs w
  rw[List.map_nil] at w
  cases w
  exact .nil
 | cons n ns ih=>
  intro vs w
  rw[QbT] at w
  cases w with
  | cons a b=>
   cases a
   exact .cons _ _ (ih _ b)
theorem fQ {l:OpenLaw} {n:Nat} (hn:l.most=some n) {P:Params} {h:Heap} {args:List WData} {vals:List Value}
  (hpre:l.row.toRowW.claim.pre args=true) (hwl:WellAll P h vals args) :
  ∃a vs ns,vals=[Value.ref a]/\args=[WData.list (ns.map WData.int)]/\h.get? a=some { cls:=.type "list",data:=.seq vs.toArray }/\IntsAre vs ns/\ns.length<=n:=by
 have hsh:WShape.hasAll [] args [.list .int]=true:=(pre_splitW hpre).1
 have hc:l.pre.holds [] { args:=args }=true:=(pre_splitW hpre).2
 obtain⟨d,r,rfl,h1,h2⟩:=hasAllW_cons hsh
 obtain rfl:=hasAllW_nil h2
 obtain⟨xs,rfl,h3⟩:=hasW_list h1
 obtain⟨ns,rfl⟩:=items_int h3
 have hlen:ns.length<=n:=by
  unfold OpenLaw.pre at hc
  have h4:(WTm.not (.lt (.lit (.int (n:Int))) (.len (.arg 0)))).holds [] { args:=[.list (ns.map .int)] }=true:=by
   have h4:=(holds_andW hc).1
   rw[hn] at h4
   exact h4
  have h5:=condW_of h4 (w_not (w_lt w_lit (w_len_list (w_arg rfl))))
  rw[Qbx] at h5
  refine Nat.le_of_not_lt λq=>?_
  have q':(n:Int) < ((ns.length:Nat):Int):=by omega
  first
   | (rw[QbM q'] at h5;exact absurd h5 (by decide))
   | (simp at h5;omega)
 cases hwl with
 | cons w1 w2=>
  cases w2
  cases w1 with
  | list ho hall=>exact⟨_,_,ns,rfl,rfl,ho,Tn ns _ hall,hlen⟩
theorem fZ (l:OpenLaw) (args:List WData):l.row.toRowW.claim.post args (.bool true) args=true:=
 postW_of (r:=l.row.toRowW) (X:=(true == true))
  (show WShape.has [] (.bool true) .bool=true by first | rfl | decide | simp[WShape.has,WShape.arms,WShape.armsAll])
  (show (WTm.eq .res (.lit (.bool true))).value [] { args:=args,res:=some (.bool true),after:=args }=some (.bool (true == true)) from w_eq_bool (w_res rfl) w_lit) rfl
theorem Zf {l:OpenLaw} {n:Nat} {q:Program} {loose:List Str} {XP:(Str->Option Value)->Heap->Prop} {YP:World->Heap->Prop} {d:DefRec}
  (hn:l.most=some n) (hdf:d.params.defaults=[])
  (call:∀(w:World) (s₀ s₁ : Shared) (mg mb:Str->Option Value) (fa:Addr) (o:Obj) (pm cd doc:Value) (a:Addr) (vs:List Value) (ns:List Int),
   Ground q loose [] XP w s₀ mg mb s₁.heap->YP w s₁.heap ->
   s₁.heap.get? fa=some o->o.data=.func (docDef d.name d.params d.body d.scope pm cd doc)->s₁.heap.CodeRec cd d.name->mg d.name=some (.ref fa) ->
   s₁.heap.get? a=some { cls:=.type "list",data:=.seq vs.toArray }->IntsAre vs ns->ns.length<=n->s₁.gens=#[] ->
   codeAny (model l.prog w) callerA (.call (.ref fa) ⟨[.ref a],[]⟩) (λr s'=>r=.ok (.ret (.bool true))/\OldK s₁.heap s'.heap/\s'.os=s₁.os/\AllBare s'.gens) s₁) :
  WalkO q loose XP YP l.row.toRowW d [] (λf vs=>PySem.call f vs):=by
 intro w s₀ s₁ mg mb G Y fa o pm cd doc dV kV ho hd hcd hD hmg hg args vals as hpre hlay hrd hwl hlo
 obtain rfl:dV=.none:=Dflts.none hD hdf
 obtain rfl:kV=.none:=Dflts.noKw hD
 obtain⟨a,vs,ns,rfl,rfl,hobj,hints,hlen⟩:=fQ hn hpre hwl
 refine enter_call (Qch (call w s₀ s₁ mg mb fa o pm cd doc a vs ns G Y ho (fd_plain hd) hcd hmg hobj hints hlen hg) λr s' hq=>?_)
 obtain⟨rfl,h2,h3,h4⟩:=hq
 exact⟨.inl ⟨.bool true,.bool true,[],rfl,λ_=>rfl,.bool true,fZ l _,λ_=>⟨List.Pairwise.nil,λ_ hm=>(nomatch hm)⟩⟩,h2,h3,h4⟩
section
variable {prog:Program} {w:World} {A:Around} {E:Value->Shared->Prop} {s:Shared} {K:Frag}
def S8 (h:Heap):Heap:={ h with objs:=#[] }
theorem Kz (h:Heap) (b:Addr):(S8 h).get? b=none:=by
 cases e:(S8 h).get? b with
 | none=>rfl
 | some o=>exact absurd (Qcb e) (QbI _)
theorem yg {h:Heap} {L:Addr} {m:Str->Option Value} (n:h.Ns L m):Fr (S8 h) L h m:=
 ⟨n,λb o e=>(by rw[Kz] at e;cases e),Qcj _⟩
end
end Att
namespace L2
open PySem PySem.Spec PyProof.Rows
theorem Pa:∀{vs:List Value} {ns:List Int},IntsAre vs ns->Vals (ns.map V.int) vs
 | _,_,.nil=>.nil
 | _,_,.cons n t h=>.cons ⟨t,rfl⟩ (Pa h)
def Only (H:Hp):Prop:=∀b,H b=none\/∃o xs,H b=some (.frz o (.lst xs))
theorem mV {P:Program} {w:World} {K:PySem.W.Frag} {mg mb:Str->Option Value} {CX:CXT} {k:Nat} {fa a:Addr} {fd:FuncData} {x:Str} {sp:Sp} {s₁ : Shared} {vs:List Value} {ns:List Int}
  (KX:K.In s₁.heap) (hns:s₁.heap.Ns mainGlobals mg) (hb:s₁.heap.Ns builtinsNs mb) (hbb:∀x:Str,x≠"__name__"->mb x=bootBuiltins x) (hlim:s₁.heap.NoLimit) (hg:s₁.gens=#[])
  (ha:s₁.heap.get? a=some { cls:=.type "list",data:=.seq vs.toArray }) (hi:IntsAre vs ns) (hl:ns.length<=sizeLine) (hr:Cp k callerA)
  (F:∀base:Heap,K.In base->base.Ns mainGlobals mg->Ga P w K mg base CX k fa fd [x] sp) (hbind:∀(s:Shared) (u:Value),BindsTo s fd ⟨[u],[]⟩ [(x,u)])
  (hsp:∀H:Hp,Only H->SqL K H a (ns.map V.int)->sp [.ref a] H (λv _=>v=.bl true) λ_ _ _=>False)
  (hCX:∀H e s',CX [] H s₁ (λ_ _ _=>False) e s'->False) :
  codeAny (model P w) callerA (.call (.ref fa) ⟨[.ref a],[]⟩) (λr s'=>r=.ok (.ret (.bool true))/\OldK s₁.heap s'.heap/\s'.os=s₁.os/\AllBare s'.gens) s₁:=by
 have rv:=Pa hi
 have lenV:=hi.length
 have core:∀H:Hp,Only H->SqL K H a (ns.map V.int)->HOk P w H s₁.heap->(∀b,H b≠none->b=a)->(H a≠none->K.lookup a=none) ->
   codeAny (model P w) callerA (.call (.ref fa) ⟨[.ref a],[]⟩) (λr s'=>r=.ok (.ret (.bool true))/\OldK s₁.heap s'.heap/\s'.os=s₁.os/\AllBare s'.gens) s₁:=by
  intro H hO hS hok hA hK
  have aK:∀{b:Addr} {o:Obj},s₁.heap.get? b=some o->H b=none->(Oj s₁.heap H).get? b=some o:=λe n=>pC e n
  have noA:∀{b:Addr} {o:Obj} {es:Array DictEntry} {ep:Nat},s₁.heap.get? b=some o->o.data=.dict es ep->H b=none:=λ{b o es ep} e d=>by
   cases q:H b with
   | none=>rfl
   | some u=>
    have e':b=a:=hA b (by rw[q];simp)
    subst e'
    rw[ha] at e;cases e
    have d':Data.seq vs.toArray _=Data.dict es ep:=d
    cases d'
  have nsK:∀{b:Addr} {m:Str->Option Value},s₁.heap.Ns b m->(Oj s₁.heap H).Ns b m:=λ{b m} ⟨o,es,ep,e,d,r⟩=>⟨o,es,ep,aK e (noA e d),d,r⟩
  have hKb:K.In (Oj s₁.heap H):=λb o e=>aK (KX b o e) (by
   cases q:H b with
   | none=>rfl
   | some u=>
    have e':b=a:=hA b (by rw[q];simp)
    subst e'
    rw[hK (by rw[q];simp)] at e;cases e)
  have hM:Mod K mg (Oj s₁.heap H):=⟨hKb,nsK hns,⟨mb,nsK hb,hbb⟩,let ⟨mc,h1,h2⟩:=hlim;⟨mc,nsK h1,h2⟩⟩
  have e0:Ks P w K mg (Oj s₁.heap H) callerA [] s₁ H:=⟨rfl,hM,λb o e=>sO e,Nat.le_of_eq (iK _ _),trivial,λb hb=>absurd (show b∈([]:List Addr) from hb) (by simp),hok,.of_eq hg⟩
  refine Qch ((F _ hKb (nsK hns)).run callerA [] s₁ H ⟨[.ref a],[]⟩ [.ref a] [.ref a] _ _ hr e0 (hbind s₁ (.ref a)) (.cons rfl .nil) (hsp H hO hS)) λr s' h=>?_
  cases r with
  | error e=>exact (hCX H e s' h).elim
  | ok fl=>
   cases fl with
   | next=>exact False.elim h
   | brk=>exact False.elim h
   | cont=>exact False.elim h
   | ret u=>
    obtain⟨v,H',os,bare,un,hok',r',q⟩:=h
    have q':v=.bl true:=q
    subst q'
    obtain rfl:u=Value.bool true:=r'
    refine⟨rfl,OldK.of_keep λb o e=>?_,os,bare⟩
    cases q:H b with
    | none=>exact un.keep b o e q (by intro z;exact absurd (show b∈([]:List Addr) from z) (by simp)) (by simp)
    | some u=>
     rcases hO b with z |⟨ob,xs,z⟩
     ·rw[q] at z;cases z
     ·have z2:=un.Gq b ob _ z
      obtain⟨e1,_⟩:=hok b _ z
      obtain⟨e2,_⟩:=hok' b _ z2
      rw[e] at e1;cases e1
      exact e2
 cases hk:K.lookup a with
 | some o=>
  have e:=KX a o hk
  rw[ha] at e
  cases e
  refine core (λ_=>none) (λ_=>.inl rfl) (.inr ⟨_,vs.toArray,_,hk,rfl,rfl,rfl,by rw[Qbb,lenV];exact hl,by simpa using rv⟩) (λb u z=>by have z':(none:Option HO)=some u:=z;cases z') (λb z=>absurd rfl z) λz=>absurd rfl z
 | none=>
  refine core (λb=>if b=a then some (.frz { cls:=.type "list",data:=.seq vs.toArray } (.lst (ns.map V.int))) else none) (λb=>?_) (.inl (.inr ⟨{ cls:=.type "list",data:=.seq vs.toArray },if_pos rfl⟩)) (λb u z=>?_) (λb z=>?_) λ_=>hk
  ·by_cases hb:b=a
   ·exact .inr ⟨_,_,if_pos hb⟩
   ·exact .inl (if_neg hb)
  ·by_cases hb:b=a
   ·have z':=(if_pos hb).symm.trans z
    cases z'
    subst hb
    exact⟨ha,by rw[Qbx];exact hl,vs,_,rv,ha⟩
   ·have z':=(if_neg hb).symm.trans z
    cases z'
  ·by_cases hb:b=a
   ·exact hb
   ·exact absurd (if_neg hb) z
theorem qW {l:PySem.W.OpenLaw} {n k:Nat} {q:Program} {loose:List Str} {XP:(Str->Option Value)->Heap->Prop} {YP:World->Heap->Prop} {d:DefRec} {K:Params->PySem.W.Frag} {CX:World->CXT} {sp:World->Sp} {x:Str}
  (hn:l.most=some n) (hn2:n<=sizeLine) (hdf:d.params.defaults=[]) (hr:Cp k callerA)
  (hY:∀(w:World) (h:Heap),YP w h->(K w.params).In h)
  (F:∀(w:World) (mg:Str->Option Value) (fa:Addr) (h:Heap),(K w.params).In h->h.Ns mainGlobals mg->mg d.name=some (.ref fa) ->
   ∃fd:FuncData,(∀(s:Shared) (u:Value),BindsTo s fd ⟨[u],[]⟩ [(x,u)]) /\
    ∀base:Heap,(K w.params).In base->base.Ns mainGlobals mg->Ga l.prog w (K w.params) mg base (CX w) k fa fd [x] (sp w))
  (hsp:∀(w:World) (H:Hp) (a:Addr) (ns:List Int),ns.length<=n->Only H->SqL (K w.params) H a (ns.map V.int)->sp w [.ref a] H (λv _=>v=.bl true) λ_ _ _=>False)
  (hCX:∀(w:World) (H:Hp) (s:Shared) (e:Value) (s':Shared),CX w [] H s (λ_ _ _=>False) e s'->False) :
  PySem.W.WalkO q loose XP YP l.row.toRowW d [] (λf vs=>PySem.call f vs):=by
 refine Att.Zf hn hdf λw s₀ s₁ mg mb fa o pm cd doc a vs ns G Y ho hd hcd hmg hobj hints hlen hg=>?_
 have KX:=hY w _ Y
 obtain⟨fd,hb,hF⟩:=F w mg fa _ KX G.T.g hmg
 exact mV KX G.T.g G.T.b G.T.builtins G.T.nolimit hg hobj hints (Qcd hlen hn2) hr hF hb (λH hO hS=>hsp w H a ns hlen hO hS) λH e s'=>hCX w H s₁ e s'
def inClass (s:Stmt) (j:Nat):Stmt:=match s with
 | .ClassDef _ _ _ body _ _ _ _ _ _ _=>body.getD j (.Pass ⟨0,0,0,0⟩)
 | _=>.Pass ⟨0,0,0,0⟩
def Dt (s:Stmt):Arguments:=match s with
 | .FunctionDef _ a _ _ _ _ _ _ _ _=>a
 | _=>{ posonlyargs:=[],args:=[],vararg:=none,kwonlyargs:=[],kw_defaults:=[],kwarg:=none,defaults:=[] }
def Cw (s:Stmt):List Stmt:=match s with
 | .FunctionDef _ _ b _ _ _ _ _ _ _=>b
 | _=>[]
def Aj (s:Stmt):Scope:=match s with
 | .FunctionDef _ _ _ _ _ _ sc _ _ _=>sc
 | _=>{ kind:=.function,names:=[],isGenerator:=false,isCoroutine:=false }
abbrev CX0:CXT:=λ_ _ _ _ _ _=>False
abbrev E0:XK:=λ_ _ _=>False
theorem V6 {X:Cx}:Passes CX0 X E0:=λ_ _ _ _ _ _ _ h=>h.elim
structure Fun (K:PySem.W.Frag) (x qual:Str) (st:Stmt) (f:Addr) (fd:FuncData):Prop where
 ex:∃(oc:Value) (od:Option Addr) (kV doc pm:Value) (an:Option Addr) (cdv ct:Value) (osl:Array (Option Value)),
  fd=fnOf x qual (Dt st) (Cw st) (Aj st) .none kV doc pm an cdv ct/\K.lookup f=some ⟨oc,od,.func fd,osl⟩/\codeIn K cdv qual=true
 kp:keepIn K (.ref f)=true
section
variable {P:Program} {w:World} {K:PySem.W.Frag} {mg:Str->Option Value} {base:Heap}
theorem Fun.ok {x qual:Str} {st:Stmt} {f:Addr} {fd:FuncData} {N ps:List Str} {k:Nat} {sp:Sp} (F:Fun K x qual st f fd) (S:Ay N ps (Aj st)) (len:∀vs H Q E,sp vs H Q E->vs.length=ps.length)
  (hbody:∀(cdv:Value) (A:Around) (outer:List Env) (s:Shared) (H:Hp) (vs:List V) (Q:VK) (E:XK),Cp k (A.deeper (envOfC qual (Aj st) s.heap.objs.size f cdv))->sp vs H Q E ->
   ∃t,PSs (Kp CX0 P w K mg base N qual (Aj st) f cdv A outer s H E).nox (Cw st) t/\t { nx:=λ_ H'=>Q .non H',rt:=Q } (start N vs) H):Ga P w K mg base CX0 (k+1) f fd ps sp:=by
 obtain⟨oc,od,kV,doc,pm,an,cdv,ct,osl,rfl,lk,hcd⟩:=F.ex
 refine qN lk hcd S len λA outer s H vs Q E hr hsp=>?_
 obtain⟨t,h,q⟩:=hbody cdv A outer s H vs Q E hr hsp
 exact⟨t,h.nox,q⟩
theorem Fun.binds {x qual:Str} {st:Stmt} {f:Addr} {fd:FuncData} {ps:List Str} (F:Fun K x qual st f fd)
  (h:∀(kV doc pm:Value) (an:Option Addr) (cdv ct:Value) (us:List Value),us.length=ps.length->bindArgs (fnOf x qual (Dt st) (Cw st) (Aj st) .none kV doc pm an cdv ct) ⟨us,[]⟩=pure (ps.zip us)):Binds K fd ps []:=by
 obtain⟨oc,od,kV,doc,pm,an,cdv,ct,osl,rfl,lk,hcd⟩:=F.ex
 exact .all (h kV doc pm an cdv ct)
theorem Tq {x qual:Str} {st:Stmt} {f:Addr} {oc:Value} {od an:Option Addr} {osl:Array (Option Value)} {kV doc pm cdv ct:Value} (l:K.lookup f=some ⟨oc,od,.func (fnOf x qual (Dt st) (Cw st) (Aj st) .none kV doc pm an cdv ct),osl⟩)
  (c:codeIn K cdv qual=true) (k:keepIn K (.ref f)=true):Fun K x qual st f (fnOf x qual (Dt st) (Cw st) (Aj st) .none kV doc pm an cdv ct):=⟨⟨oc,od,kV,doc,pm,an,cdv,ct,osl,rfl,l,c⟩,k⟩
end
theorem CZ {A:Around} {k:Nat} (hr:Cp k A):A.units+1 < cLine:=Nat.lt_of_le_of_lt (Nat.add_le_add_left (by decide:1<=64) _) hr.units
theorem Ao {n:Nat} (h:n<=1000):n < sizeLine:=Nat.lt_of_le_of_lt h (by decide)
section
variable {X:Cx}
theorem pv (i:Nat) {x:Str} {pos:Pos} (hN:X.N[i]?=some x:=by rfl) (hv:Vis X.env.scope x:=by first | exact Or.inl rfl | exact Or.inr (Or.inl rfl) | exact Or.inr (Or.inr rfl)) (hd:(x == ("__debug__":Str))=false:=by decide)
  (hcd:(x == ("__classdict__":Str))=false:=by decide):PE X (.Name x pos) (uQ i):=vQ hN hv hd hcd
end
theorem Cr {A B:Prop} (h:B):if false=true then A else B:=by
 rw[if_neg QaP]
 exact h
theorem Ca {A B:Prop} (h:A):if true=true then A else B:=by
 rw[if_pos rfl]
 exact h
theorem Fv {c A B:Prop} [Decidable c] (h1:c->A) (h2:¬c->B):if c then A else B:=by
 by_cases h:c
 ·rw[if_pos h]
  exact h1 h
 ·rw[if_neg h]
  exact h2 h
theorem zE {c A B:Prop} [Decidable c] (hc:c) (h:B):if (!decide c)=true then A else B:=by
 rw[QbM hc]
 exact Cr h
def Same (H H':Hp):Prop:=∀b o,H b=some o->H' b=some o
theorem Same.refl (H:Hp):Same H H:=λ_ _ h=>h
theorem Same.trans {H H1 H2:Hp} (a:Same H H1) (b:Same H1 H2):Same H H2:=λc o h=>b c o (a c o h)
theorem Same.free {H H':Hp} (e:Same H H') {l:Addr} (h:H' l=Option.none):H l=Option.none:=by
 cases q:H l with
 | none=>rfl
 | some o=>
  rw[e l o q] at h
  cases h
theorem Same.seq {K:PySem.W.Frag} {H H':Hp} {a:Addr} {xs:List V} (e:Same H H') (h:SqL K H a xs):SqL K H' a xs:=by
 rcases h with (h |⟨o,h⟩) | h
 ·exact .inl (.inl (e _ _ h))
 ·exact .inl (.inr ⟨o,e _ _ h⟩)
 ·exact .inr h
def Eb (env:Env):List (Str×NameKind)->List (Str×Addr)->List (Str×Addr)
 | [],cs=>cs
 | (n,k)::r,cs=>Eb env r (if (k == .free)=true then (match env.cells.lookup n with | some c=>(n,c)::cs | none=>cs) else cs)
theorem Yo {env:Env}:∀(names:List (Str×NameKind)) (cs:List (Str×Addr)),(∀p∈names,p.2=.free->∃c,env.cells.lookup p.1=some c) ->
  (forIn names cs λ(p:Str×NameKind) (r:List (Str×Addr))=>(if (p.2 == .free)=true then do
    let c <-cellOf env p.1
    pure (ForInStep.yield ((p.1,c)::r))
   else pure (ForInStep.yield r):Sem (ForInStep (List (Str×Addr)))))=pure (Eb env names cs)
 | [],cs,_=>rfl
 | (n,k)::rest,cs,h=>by
  have ih:=λcs'=>Yo rest cs' λp hp=>h p (QaA _ hp)
  rw[List.forIn_cons]
  cases hk:(k == NameKind.free) with
  | true=>
   obtain⟨c,hc⟩:=h (n,k) QaN (eq_of_beq hk)
   have e1:cellOf env n=pure c:=by unfold cellOf;rw[hc]
   have e2:Eb env ((n,k)::rest) cs=Eb env rest ((n,c)::cs):=by simp only[Eb,hk,if_true,hc]
   rw[e2,<-ih]
   simp only[hk,if_true,e1,pure_bind]
  | false=>
   have e2:Eb env ((n,k)::rest) cs=Eb env rest cs:=by simp only[Eb,hk,Bool.false_eq_true,if_false]
   rw[e2,<-ih]
   simp only[hk,Bool.false_eq_true,if_false,pure_bind]
theorem Ov {env:Env} {scope:Scope} (h:∀p∈scope.names,p.2=.free->∃c,env.cells.lookup p.1=some c):closureFor scope env=pure (Eb env scope.names []):=by
 have e:=Yo (env:=env) scope.names [] h
 unfold closureFor
 simp only[bind_pure]
 exact e
theorem Yn {env:Env}:∀(names:List (Str×NameKind)) (cs:List (Str×Addr)),(∀x c,cs.lookup x=some c->env.cells.lookup x=some c) ->
  ∀x c,(Eb env names cs).lookup x=some c->env.cells.lookup x=some c
 | [],cs,h,x,c,e=>h x c e
 | (n,k)::rest,cs,h,x,c,e=>by
  refine Yn rest _ (λy d z=>?_) x c e
  split at z
  ·split at z
   ·rename_i c' hc'
    rw[List.lookup_cons] at z
    cases q:y == n with
    | true=>rw[q] at z;cases z;rw[eq_of_beq q];exact hc'
    | false=>rw[q] at z;exact h y d z
   ·exact h y d z
  ·exact h y d z
theorem R5 {env:Env}:∀(names:List (Str×NameKind)) (cs:List (Str×Addr)) (x:Str),((cs.lookup x).isSome=true\/((x,NameKind.free)∈names/\∃c,env.cells.lookup x=some c)) ->
  ∃c,(Eb env names cs).lookup x=some c
 | [],cs,x,h=>by
  rcases h with h |⟨h,_⟩
  ·exact Option.isSome_iff_exists.mp h
  ·cases h
 | (n,k)::rest,cs,x,h=>by
  refine R5 rest _ x ?_
  have grow:(cs.lookup x).isSome=true->(List.lookup x (if (k == .free)=true then (match env.cells.lookup n with | some c=>(n,c)::cs | none=>cs) else cs)).isSome=true:=λz=>by
   split
   ·split
    ·rw[List.lookup_cons]
     cases x == n with
     | true=>rfl
     | false=>exact z
    ·exact z
   ·exact z
  rcases h with h |⟨h,c,hc⟩
  ·exact .inl (grow h)
  ·rcases QbS.mp h with z | z
   ·cases z
    refine .inl ?_
    simp[hc,List.lookup_cons]
   ·exact .inr ⟨z,c,hc⟩
def Lb (env:Env) (n:Str) (k:NameKind):NameKind:=if (k == .free&&env.scope.kind == .function&&env.kindOf n == some .cell)=true then .cell else k
theorem Td (env:Env):∀(l:List (Str×NameKind)) (x:Str),
  (l.map λ(n,k)=>if (k == NameKind.free&&env.scope.kind == .function&&env.kindOf n == some .cell) then (n,NameKind.cell) else (n,k)).lookup x=(l.lookup x).map (Lb env x)
 | [],_=>rfl
 | (n,k)::r,x=>by
  have ih:=Td env r x
  have e:(if (k == NameKind.free&&env.scope.kind == .function&&env.kindOf n == some .cell)=true then (n,NameKind.cell) else (n,k))=(n,Lb env n k):=by
   unfold Lb;split <;> rfl
  rw[QbT]
  show List.lookup x ((if (k == NameKind.free&&env.scope.kind == .function&&env.kindOf n == some .cell)=true then (n,NameKind.cell) else (n,k))::_)=_
  rw[e,List.lookup_cons,List.lookup_cons]
  cases q:x == n with
  | true=>rw[eq_of_beq q];rfl
  | false=>exact ih
theorem kW {env:Env} {n:Str} {k:NameKind} (h:Lb env n k=.cell\/Lb env n k=.free):k=.cell\/k=.free:=by
 unfold Lb at h
 split at h
 ·rename_i q
  simp only[Qbu] at q
  exact .inr (eq_of_beq q.1.1)
 ·exact h
theorem jw {prog:Program} {w:World} {A:Around} {R:Result->Shared->Prop} {s:Shared} {elt target iter:Expr} {ifs:List Expr} {scope:Scope} {pos:Pos} {it acc:Value} {env:Env} (J:Nat->Shared->Prop)
  (turn:∀n s,J n s->wpAny (model prog w) A (pyNext it) (λr s1=>match r with
   | none=>R (.ok .next) s1
   | some v=>wpAny (model prog w) A (letOwnedTupleGo target it v) (λ_ s2=>wpAny (model prog w) A (assign target env v) (λ_ s3=>
     wpAny (model prog w) A (forIn ifs true λc r=>if r=true then do let ok <-isTrue c env (eval c env);pure (ForInStep.yield ok) else pure (ForInStep.yield r)) (λok s4=>
      if ok=true then wpAny (model prog w) A (eval elt env) (λx s5=>wpAny (model prog w) A (call (.builtin "list.append") [acc,x]) (λ_ s6=>∃m,m < n/\J m s6) (λ_ _=>False) s5) (λ_ _=>False) s4
      else ∃m,m < n/\J m s4) (λ_ _=>False) s3) (λ_ _=>False) s2) (λ_ _=>False) s1) (λ_ _=>False) s)
  (n:Nat) (h:J n s):codeAny (model prog w) A (.compLoop (.ListComp elt [⟨target,iter,ifs,0⟩] scope pos) 0 it acc env) R s:=by
 refine codeAny_loop rfl J (λk s' hk=>?_) n h
 show wpAny _ A (Sem.onRaise (compTurn (.ListComp elt [⟨target,iter,ifs,0⟩] scope pos) 0 it acc env) (λx=>do noteFrame x env;theTreesLotGoes x)) _ _ s'
 refine wpAny_noted ?_
 rw[compTurn_list]
 refine Qcn (QbY (Qcn (Qcp (turn k s' hk) (λr s1 q1=>?_) λ_ _ f=>f.elim)))
 cases r with
 | none=>exact Qco q1
 | some v=>
  refine Qcn (Qcp q1 (λ_ s2 q2=>Qcn (Qcp q2 (λ_ s3 q3=>Qcn (Qcp q3 (λok s4 q4=>?_) λ_ _ f=>f.elim)) λ_ _ f=>f.elim)) λ_ _ f=>f.elim)
  cases ok with
  | false=>exact Qco ⟨rfl,q4⟩
  | true=>exact Qcn (Qcn (Qcp q4 (λx s5 q5=>Qcn (Qcp q5 (λ_ s6 q6=>Qco (Qco ⟨rfl,q6⟩)) λ_ _ f=>f.elim)) λ_ _ f=>f.elim))
def cxC (X:Cx) (N':List Str) (scope:Scope) (s3:Shared) (H3:Hp) (fp:List Addr) (pn:List (Addr×Obj)):Cx where
 prog:=X.prog
 w:=X.w
 K:=X.K
 mg:=X.mg
 base:=X.base
 A:=X.A
 N:=N'
 s₀:=s3
 H₀:=H3
 env:=compEnvC scope (Eb X.env scope.names []) s3.heap.objs.size X.env
 outer:=X.stack
 stack:=X.stack
 ex:=fp
 fn:=λ_=>false
 calm:=X.calm
 pn:=pn
 xe:=λ_ _=>False
structure Bk (X:Cx) (N':List Str) (src:List (Option Nat)) (sc:Scope):Prop where
 kind:sc.kind=.function
 Hs:∀y∈sc.names,y.2≠.cell
 loc:∀y∈sc.names,y.2=.local->sc.names.lookup y.1=some .local
 fv:∀y∈sc.names,y.2=.free->X.env.kindOf y.1=some .cell\/X.env.kindOf y.1=some .free
 len:src.length=N'.length
 src:∀(i:Nat) (x:Str) (j:Nat),N'[i]?=some x->src[i]?=some (some j)->X.N[j]?=some x/\sc.names.lookup x=some .free
def Iv (src:List (Option Nat)) (σ : St):St:=src.map λo=>match o with | none=>none | some j=>(σ[j]?).join
def PF (X:Cx) (ifs:List Expr) (t:TT):Prop:=
 ∀(pins:List (Addr×Obj)) (s:Shared) (σ : St) (H:Hp) (Q:Bool->Hp->Prop),Inv X pins σ H s->t σ H Q ->
  wpAny (model X.prog X.w) X.A (forIn ifs true λc r=>if r=true then do let ok <-isTrue c X.env (eval c X.env);pure (ForInStep.yield ok) else pure (ForInStep.yield r)) (TP X pins σ Q) X.xe s
theorem CJ {X:Cx}:PF X [] (λ_ H Q=>Q true H):=λ_ _ _ H _ I h=>wpAny_tests_nil ⟨H,I,h⟩
theorem Li {X:Cx} {c:Expr} {t:TT} (hc:PT X c t):PF X [c] t:=λpins s σ H Q I h=>wpAny_tests_one (hc pins s σ H Q I h)
theorem Un.ahead {fs ex:List Addr} {H H':Hp} {h h1 h':Heap} (u:Un fs ex H H' h h1) (k:∀b o,b < h.objs.size->h1.get? b=some o->h'.get? b=some o):Un fs ex H H' h h' where
 keep:=λb o e n hb hx=>k b o (Qcb e) (u.keep b o e n hb hx)
 slot:=λb o e n hb hx=>by
  obtain⟨sl,q⟩:=u.slot b o e n hb hx
  exact⟨sl,k b _ (Qcb e) q⟩
 free:=u.free
 there:=λb o e hx=>by
  obtain⟨o',q⟩:=u.there b o e hx
  exact⟨o',k b _ (Qcb e) q⟩
 tups:=u.tups
 Gq:=u.Gq
 G8:=u.G8
section
variable {X:Cx} {N':List Str} {src:List (Option Nat)} {sc:Scope} {pins:List (Addr×Obj)} {σ : St} {H:Hp} {s3:Shared} {fp:List Addr} {h1:Heap} {tk:Nat}
theorem R0 (S:Bk X N' src sc) (I:Inv X pins σ H s3) (hf:∀b∈fp,FZ X pins H b) (ht:∀b∈fp,b < s3.heap.objs.size)
  (ns:h1.Ns s3.heap.objs.size λ_=>none) (kp:∀b o,s3.heap.get? b=some o->h1.get? b=some o) :
  Inv (cxC X N' sc s3 H fp (X.pn++pins)) [] (Iv src σ) H { s3 with heap:=h1,toks:=tk }:=by
 have hcl:∀x c,(Eb X.env sc.names []).lookup x=some c->X.env.cells.lookup x=some c:=Yn sc.names [] λx c e=>by cases e
 have old:∀x c,(Eb X.env sc.names []).lookup x=some c->∃o,s3.heap.get? c=some o:=λx c e=>by
  obtain⟨v,o,ho,_⟩:=I.cell x c (hcl x c e)
  exact⟨o,ho⟩
 have fvh:∀x,(x,NameKind.free)∈sc.names->∃c,X.env.cells.lookup x=some c:=λx hx=>I.ok.has x (S.fv _ hx rfl)
 have vg:∀b,b≠X.env.locals->b∉X.fs->b∉frs X.stack:=λb h1 h2 hb=>(QbS.mp (I.Ss b hb)).elim h1 h2
 have kindOf_eq:∀x,(compEnvC sc (Eb X.env sc.names []) s3.heap.objs.size X.env).kindOf x=(sc.names.lookup x).map (Lb X.env x):=λx=>Td X.env sc.names x
 refine⟨⟨I.ok.mod,S.kind,I.ok.glob,I.ok.blt,Qci _,λx y c e1 e2=>I.ok.inj x y c (hcl x c e1) (hcl y c e2),λx hx=>?_,λx c hf=>absurd hf QaP,I.ok.hd,I.ok.frames,.inl rfl,λb hb=>?_,I.bs,Qcd I.ok.bsz I.sz,
  λb o e hb=>?_,λb hb=>?_,I.stack,I.T7⟩,rfl,I.bare,Un.kept kp,⟨_,ns,λi x v e1 e2 e3=>?_⟩,λx c e=>?_,I.hok.fresh (Qci _),λx c e=>I.Ea x c (hcl x c e),λp hp=>?_,I.hok.kept kp,?_⟩
 ·
  have hx':(sc.names.lookup x).map (Lb X.env x)=some .cell\/(sc.names.lookup x).map (Lb X.env x)=some .free:=by
   rw[<-kindOf_eq x];exact hx
  cases q:sc.names.lookup x with
  | none=>rw[q] at hx';rcases hx' with z | z <;> cases z
  | some k=>
   rw[q] at hx'
   have hk:k=.cell\/k=.free:=kW (env:=X.env) (n:=x) (hx'.imp (λz=>QbB z) λz=>QbB z)
   have hm:=QaK q
   rcases hk with rfl | rfl
   ·exact absurd rfl (S.Hs _ hm)
   ·exact R5 sc.names [] x (.inr ⟨hm,fvh x hm⟩)
 ·
  obtain⟨f0,f1,f2,f3,f4,f5⟩:=hf b hb
  exact⟨Qcc (ht b hb),λx c e=>f4 x c (hcl x c e)⟩
 ·
  obtain⟨f0,f1,f2,f3,f4,f5⟩:=hf b hb
  rcases f3 with z | z
  ·exact I.ok.Ly b o e z
  ·exact absurd (QaR (Qcb e) (Qcd I.ok.bsz z)) (QbV _)
 ·
  obtain⟨f0,f1,f2,f3,f4,f5⟩:=hf b hb
  exact vg b f1 f2
 ·
  have e2':(Iv src σ)[i]?=some (some v):=e2
  unfold Iv at e2'
  rw[Qbc] at e2'
  cases q:src[i]? with
  | none=>rw[q] at e2';cases e2'
  | some oj=>
   rw[q] at e2'
   cases oj with
   | none=>cases e2'
   | some j=>
    have e4:(σ[j]?).join=some v:=QbB e2'
    have e5:σ[j]?=some (some v):=by
     cases r:σ[j]? with
     | none=>rw[r] at e4;cases e4
     | some z=>rw[r] at e4;cases z with
      | none=>cases e4
      | some y=>cases e4;rfl
    obtain⟨hN,hfr⟩:=S.src i x j e1 q
    have hm:=QaK hfr
    have kx:=S.fv _ hm rfl
    obtain⟨m,hn,hl⟩:=I.loc
    obtain⟨u,r,l⟩:=hl j x v hN e5 (.inr kx)
    refine⟨u,r,?_⟩
    rcases l with⟨k1,_⟩|⟨_,c,hc,hcell⟩
    ·rcases kx with z | z <;> (rw[z] at k1;cases k1)
    ·obtain⟨c',hc'⟩:=R5 (env:=X.env) sc.names [] x (.inr ⟨hm,c,hc⟩)
     have e6:c'=c:=by
      have:=hcl x c' hc'
      rw[hc] at this
      exact (QbB this).symm
     subst e6
     refine .inr ⟨?_,c',hc',?_⟩
     ·have:(compEnvC sc (Eb X.env sc.names []) s3.heap.objs.size X.env).kindOf x=some (Lb X.env x .free):=by rw[kindOf_eq x,hfr];rfl
      show (compEnvC sc (Eb X.env sc.names []) s3.heap.objs.size X.env).kindOf x=some .cell\/(compEnvC sc (Eb X.env sc.names []) s3.heap.objs.size X.env).kindOf x=some .free
      rw[this]
      unfold Lb
      split
      ·exact .inl rfl
      ·exact .inr rfl
     ·obtain⟨o,ho,hd⟩:=hcell
      exact⟨o,kp _ o ho,hd⟩
 ·
  obtain⟨v,o,ho,hd⟩:=I.cell x c (hcl x c e)
  exact⟨v,o,kp _ o ho,hd⟩
 ·
  have hp':p∈X.pn++pins:=(Qbz.mp hp).elim id λz=>by cases z
  obtain⟨a1,a2,a3,a4,a5⟩:=I.pin p hp'
  exact⟨kp _ _ a1,a2,Qcc (Qcb a1),vg p.1 a3 a4,a5⟩
 ·show (Iv src σ).length=N'.length
  unfold Iv
  rw[Qbx]
  exact S.len
theorem Qh {s1:Shared} {σ':St} {H':Hp} {h':Heap} (I:Inv X pins σ H s3) (hf:∀b∈fp,FZ X pins H b) (I':Inv (cxC X N' sc s3 H fp (X.pn++pins)) [] σ' H' s1)
  (sb:Heap.SameBut s3.heap.objs.size s1.heap h'):Inv X pins σ H' { s1 with heap:=h' }:=by
 have fr:H' s3.heap.objs.size=none:=I'.free
 refine I.call' (s':={ s1 with heap:=h' }) (ch:=fp) I'.os ?_ ?_ I'.bare λb hb=>?_
 ·exact Un.ahead (h:=s3.heap) (h1:=s1.heap) I'.base λb o hb e=>sb.extBut b o (Qcc hb) e
 ·exact λb u e=>(I'.hok b u e).stay (λc v hc q=>sb.extBut c v (by
   intro z
   rcases hc with y | y
   ·rw[<-y,z,fr] at e;cases e
   ·rw[z,fr] at y;cases y) q) (λ_ q=>q) λ_ _ q=>q
 ·obtain⟨f0,f1,f2,f3,f4,f5⟩:=hf b hb
  exact⟨f3,f1,f4,λp hp=>f5 p hp⟩
end
@[irreducible] def Fp (J:It) (g:TG) (tt:TT) (te:TE) (Q:VK) (σ0:St) (H0:Hp) (l:Addr):Prop:=∃W:Nat->Nat->St->Hp->Prop,(∃m,W 0 m σ0 H0) /\
 ∀i m σ' H',W i m σ' H'->(J.stop i H'/\Q (.ref l) H')\/(J.go i H'/\∃N:St->Hp->Prop,(∀ σ3 H3,N σ3 H3->∃m',m' < m/\W (i+1) m' σ3 H3)/\∀x H2,J.yld i H' x H2->g x σ' H2 fun σ3 H3=>tt σ3 H3 λb H4=>
  if b=true then te σ3 H4 λy H5=>∃xs,H5 l=some (.lst xs)/\xs.length < sizeLine/\N σ3 (upd H5 l (.lst (xs++[y]))) else N σ3 H4)
def bh (wi:TI) (src:List (Option Nat)) (g:TG) (tt:TT) (te:TE):TE:=fun σ H Q=>wi σ H λJ H1=>∀l,H1 l=none->Fp J g tt te Q (Iv src σ) (upd H1 l (.lst [])) l
theorem Vn {X:Cx} {N':List Str} {src:List (Option Nat)} {sc:Scope} {elt tg iter:Expr} {ifs:List Expr} {pos pos':Pos} {wi:TI} {g:TG} {tt:TT} {te:TE} {use:Option (Value->Sem Unit)} {R:Value->Shared->Prop} (hc:X.calm=true) (S:Bk X N' src sc)
  (hi:PI X tg iter wi) (hg:∀s3 H3 fp pn,PG (cxC X N' sc s3 H3 fp pn) tg g) (ht:∀s3 H3 fp pn,PF (cxC X N' sc s3 H3 fp pn) ifs tt) (he:∀s3 H3 fp pn,PE (cxC X N' sc s3 H3 fp pn) elt te)
  (hs:∀x,foldedSetIterable iter X.env x=pure x) {pins:List (Addr×Obj)} {s:Shared} {σ : St} {H:Hp} {Q:VK} (I:Inv X pins σ H s) (h:bh wi src g tt te σ H Q)
  (fin:∀s3 H3 fp σ4 H4 s5 l,Inv X pins σ H3 s3->(∀b∈fp,FZ X pins H3 b)->Inv (cxC X N' sc s3 H3 fp (X.pn++pins)) [] σ4 H4 s5->Q (.ref l) H4 ->
   compPost (model X.prog X.w) X.A X.xe use R (.ref l) s3.heap.objs.size (.ok .next) s5) :
  wpAny (model X.prog X.w) X.A (comprehension (.ListComp elt [⟨tg,iter,ifs,0⟩] sc pos) sc X.env pos' (newList []) false (eval iter X.env) use) R X.xe s:=by
 refine wpAny_comprehension_free (use:=use) (cl:=Eb X.env sc.names []) rfl hs (Ov λp hp e=>I.ok.has p.1 (S.fv p hp e)) S.kind S.loc ?_
 refine thn (hi pins s σ H _ I h) λv s1 h1=>thn h1 λitv s2 h2=>?_
 obtain⟨it,fp,tn,J,H2,rfl,I2,T,st2,f2,q⟩:=h2
 have q':=q s2.heap.objs.size (I2.hok.fresh (Qci _))
 unfold Fp at q'
 obtain⟨W,⟨m0,w0⟩,turn⟩:=q'
 refine Qbf (wpAny_newFunctionEnv S.Hs (by intro y hy;simp at hy) (λha hns hsb=>?_) S.kind)
 have I3:Inv X pins σ (upd H2 s2.heap.objs.size (.lst [])) { s2 with heap:=s2.heap.push { cls:=.type "list",dict:=none,data:=.seq ([]:List Value).toArray } }:=
  I2.laid (t':=s2.toks) (λb u e=>Qat _ e) (Qci _) ⟨Qcj _,[],0,.nil,QaF _ rfl⟩
 have hfl:∀b∈fp,b < s2.heap.objs.size:=λb hb=>by
  obtain⟨o,e,_⟩:=T.obj 0 _ st2 b hb
  exact Qcb e
 have f3:∀b∈fp,FZ X pins (upd H2 s2.heap.objs.size (.lst [])) b:=λb hb=>⟨by rw[Al (Qcc (hfl b hb))];exact (f2 b hb).1,(f2 b hb).2⟩
 generalize hs3:({ s2 with heap:=s2.heap.push { cls:=.type "list",dict:=none,data:=.seq ([]:List Value).toArray } }:Shared)=s3 at *
 have hsz:s2.heap.objs.size < s3.heap.objs.size:=by rw[<-hs3];show s2.heap.objs.size < (s2.heap.push _).objs.size;rw[QbN];exact Qbv _
 have kp:∀b o,s3.heap.get? b=some o->ha.get? b=some o:=λb o e=>hsb.extBut b o (Qcc (Qcb e)) (Qat _ e)
 have st3:tn 0 ha:=T.keep 0 _ _ st2 λb hb o e=>kp b o (by rw[<-hs3];exact Qat _ e)
 have I4:Inv (cxC X N' sc s3 (upd H2 s2.heap.objs.size (.lst [])) fp (X.pn++pins)) [] (Iv src σ) (upd H2 s2.heap.objs.size (.lst [])) { s3 with heap:=ha,toks:=s3.toks+([]:List (Str×Value)).length }:=
  R0 S I3 f3 (λb hb=>Nat.lt_trans (hfl b hb) hsz) hns kp
 have loop:codeAny (model X.prog X.w) X.A (.compLoop (.ListComp elt [⟨tg,iter,ifs,0⟩] sc pos) 0 (.ref it) (.ref s2.heap.objs.size) (compEnvC sc (Eb X.env sc.names []) s3.heap.objs.size X.env))
   (compPost (model X.prog X.w) X.A X.xe use R (.ref s2.heap.objs.size) s3.heap.objs.size) { s3 with heap:=ha,toks:=s3.toks+([]:List (Str×Value)).length }:=by
  refine jw (λn s'=>∃i σ' H',Inv (cxC X N' sc s3 (upd H2 s2.heap.objs.size (.lst [])) fp (X.pn++pins)) [] σ' H' s'/\tn i s'.heap/\(∀b∈fp,H' b=none)/\W i n σ' H') ?_ m0 ⟨0,_,_,I4,st3,λb hb=>(f3 b hb).1,w0⟩
  rintro n s4 ⟨i,σ4,H4,J4,st4,fr4,w4⟩
  have stat:∀{H':Hp},(∀b∈fp,H' b=none)->∀b∈fp,FZ (cxC X N' sc s3 (upd H2 s2.heap.objs.size (.lst [])) fp (X.pn++pins)) [] H' b:=λhn b hb=>
   ⟨hn b hb,(I4.ok.exf b hb).1,I4.ok.Jz b hb,.inl hb,λx c e=>(I4.ok.exf b hb).2 x c e,λp hp=>(f3 b hb).2.2.2.2.2 p ((Qbz.mp hp).elim id λz=>by cases z)⟩
  rcases turn i n σ4 H4 w4 with⟨stop,qn⟩|⟨go,N,hN,step⟩
  ·refine thn (T.done (cxC X N' sc s3 (upd H2 s2.heap.objs.size (.lst [])) fp (X.pn++pins)) rfl rfl rfl hc i [] s4 σ4 H4 _ J4 (stat fr4) st4 stop) λr s5 ⟨hr,J5⟩=>?_
   subst hr
   exact fin s3 _ fp σ4 H4 s5 _ I3 f3 J5 qn
  ·refine thn (T.item (cxC X N' sc s3 (upd H2 s2.heap.objs.size (.lst [])) fp (X.pn++pins)) rfl rfl rfl hc i [] s4 σ4 H4 _ J4 (stat fr4) st4 go) λr s5 ⟨u,hr,h5⟩=>?_
   subst hr
   refine thn h5 λ_ s6 ⟨x,H6,J6,r6,y6,st6,fr6⟩=>?_
   have J6':=J6.pinned (stat fr6) (T.obj _ _ st6)
   have back:∀{pl:List (Addr×Obj)} {σ7:St} {H7:Hp} {s7:Shared},Inv (cxC X N' sc s3 (upd H2 s2.heap.objs.size (.lst [])) fp (X.pn++pins)) ([]++Lg fp s6.heap) σ7 H7 s7->N σ7 H7 ->
     ∃m',m' < n/\∃i σ' H',Inv (cxC X N' sc s3 (upd H2 s2.heap.objs.size (.lst [])) fp (X.pn++pins)) [] σ' H' s7/\tn i s7.heap/\(∀b∈fp,H' b=none)/\W i m' σ' H':=λ{pl σ7 H7 s7} J7 w7=>by
    obtain⟨m',hm,w7⟩:=hN _ _ w7
    have pinned:∀b∈fp,∀o,s6.heap.get? b=some o->s7.heap.get? b=some o/\H7 b=none:=λb hb o e=>by
     have:=J7.pin (b,o) (Qaw _ (Qaw _ (Jd hb e)))
     exact⟨this.1,this.2.1⟩
    refine⟨m',hm,i+1,σ7,H7,J7.GC,T.keep _ _ _ st6 λb hb o e=>(pinned b hb o e).1,λb hb=>?_,w7⟩
    obtain⟨o,e,_⟩:=T.obj _ _ st6 b hb
    exact (pinned b hb o e).2
   refine thn (hg s3 _ fp _ _ s6 σ4 H6 x u _ J6' r6 (step x H6 y6)) λ_ s7 ⟨σ7,H7,J7,q7⟩=>?_
   refine thn (ht s3 _ fp _ _ s7 σ7 H7 _ J7 q7) λok s8 ⟨H8,J8,q8⟩=>?_
   cases ok with
   | false=>
    rw[if_neg QaP] at q8 ⊢
    exact back (pl:=[]) J8 q8
   | true=>
    rw[if_pos rfl] at q8 ⊢
    refine thn (he s3 _ fp _ _ s8 σ7 H8 _ J8 q8) λy s9 ⟨yv,H9,J9,r9,xs,hl9,hz9,q9⟩=>?_
    refine thn (Cd _ s9 σ7 H9 (.ref s2.heap.objs.size) [yv] (.ref s2.heap.objs.size) [y] (λ_ H'=>N σ7 H') J9 rfl (.cons r9 .nil) ⟨_,xs,yv,rfl,rfl,hl9,hz9,q9⟩) λ_ s10 ⟨_,H10,J10,_,q10⟩=>?_
    exact back (pl:=[]) J10 q10
 exact codeAny_compStart_list loop (T.self X.A 0 _ _ _ st3 loop)
theorem Ck {X:Cx} {N':List Str} {src:List (Option Nat)} {sc:Scope} {elt tg iter:Expr} {ifs:List Expr} {pos:Pos} {wi:TI} {g:TG} {tt:TT} {te:TE} (hc:X.calm=true) (S:Bk X N' src sc)
  (hi:PI X tg iter wi) (hg:∀s3 H3 fp pn,PG (cxC X N' sc s3 H3 fp pn) tg g) (ht:∀s3 H3 fp pn,PF (cxC X N' sc s3 H3 fp pn) ifs tt) (he:∀s3 H3 fp pn,PE (cxC X N' sc s3 H3 fp pn) elt te)
  (hs:∀x,foldedSetIterable iter X.env x=pure x:=by intro _;rfl):PE X (.ListComp elt [⟨tg,iter,ifs,0⟩] sc pos) (bh wi src g tt te):=by
 intro pins s σ H Q I h
 rw[eval_ListComp]
 refine Vn (use:=none) hc S hi hg ht he hs I h λs3 H3 fp σ4 H4 s5 l I3 f3 J5 q=>?_
 obtain⟨m,hn,_⟩:=J5.loc
 exact⟨m,hn,λh' sb=>⟨.ref l,H4,Qh I3 f3 J5 sb,rfl,q⟩⟩
theorem ZX {X:Cx} {N':List Str} {src:List (Option Nat)} {sc:Scope} {elt tg iter:Expr} {ifs:List Expr} {pos spos px:Pos} {wi:TI} {g:TG} {tt:TT} {te:TE} {i:Nat} {x:Str} (hN:X.N.Nodup) (hi0:X.N[i]?=some x) (hx:Loc X.env.scope x) (hc:X.calm=true) (S:Bk X N' src sc)
  (hi:PI X tg iter wi) (hg:∀s3 H3 fp pn,PG (cxC X N' sc s3 H3 fp pn) tg g) (ht:∀s3 H3 fp pn,PF (cxC X N' sc s3 H3 fp pn) ifs tt) (he:∀s3 H3 fp pn,PE (cxC X N' sc s3 H3 fp pn) elt te)
  (hsw:swapsWith (.ListComp elt [⟨tg,iter,ifs,0⟩] sc pos) (some (.Name x px)) spos.line X.env=pure true:=by rfl) (hs:∀x,foldedSetIterable iter X.env x=pure x:=by intro _;rfl)
  (hf:X.fn x=true\/X.env.scope.names.lookup x=some .local:=by first | exact .inl rfl | exact .inr rfl | assumption) :
  PS X (.Assign [.Name x px] (.ListComp elt [⟨tg,iter,ifs,0⟩] sc pos) spos) (bx (bh wi src g tt te) (G5 i)):=by
 intro pins s σ H D I h
 rw[exec_Assign_Name_used _ _ _ _ hsw]
 refine Qcn (QbY (Qcn ?_))
 show wpAny _ X.A (do let _ <-comprehension (.ListComp elt [⟨tg,iter,ifs,0⟩] sc pos) sc X.env _ (newList []) false (eval iter X.env) (some (assign (.Name x px) X.env))) _ _ s
 refine Qcn (thn (Vn (R:=λ_ s'=>SP X pins D .next s') hc S hi hg ht he hs I h λs3 H3 fp σ4 H4 s5 l I3 f3 J5 q=>?_) λ_ s' hq=>Qco (Qco hq))
 obtain⟨m,⟨oC,es,ep,hoC,r⟩,_⟩:=J5.loc
 have I6:Inv X pins σ H4 { s5 with heap:=s5.heap }:=Qh I3 f3 J5 (Heap.SameBut.refl _ _)
 have hCn:H4 s3.heap.objs.size=none:=J5.free
 have neL:s3.heap.objs.size≠X.env.locals:=Qcg I3.lt
 have mK:∀v,oC.data≠.cell v:=λv z=>by rw[r.1] at z;cases z
 have I7:Inv X (pins++[(s3.heap.objs.size,oC)]) σ H4 s5:=I6.QD λp hp=>(Qbz.mp hp).elim (λz=>I6.pin p (Qaw _ z)) λz=>by
  cases QaT.mp z
  exact⟨hoC,hCn,neL,I3.mF (Qci _),mK⟩
 show wpAny _ X.A (assign (.Name x px) X.env (.ref l)) _ _ s5
 refine wpAny_assign_Name (K4 (v:=.ref l) I7 hN hi0 hx rfl (λs6 I8=>?_) hf)
 have k8:=(I8.pin (s3.heap.objs.size,oC) (Qaw _ (Qaw _ (QaT.mpr rfl)))).1
 refine⟨m,⟨oC,es,ep,k8,r⟩,λh' sb=>⟨_,H4,?_,q⟩⟩
 have I9:=I8.GC
 refine I9.turned (t':=s6.toks) (λb o hb e=>sb.extBut b o hb e) hCn neL (.inr I3.sz) (λy c e z=>?_) (λp hp z=>?_)
 ·obtain⟨v,o,ho,_⟩:=I3.cell y c e
  exact absurd (Qcb ho) (by rw[z];exact QbV _)
 ·have:=(I3.pin p hp).1
  exact absurd (Qcb this) (by rw[z];exact QbV _)
theorem Bk.of {X:Cx} {N':List Str} {src:List (Option Nat)} {sc:Scope} (fsc:Scope) (N:List Str) (hX:X.env.scope=fsc) (hN:X.N=N) (kind:sc.kind=.function) (Hs:∀y∈sc.names,y.2≠.cell) (loc:∀y∈sc.names,y.2=.local->sc.names.lookup y.1=some .local)
  (fv:∀y∈sc.names,y.2=.free->fsc.names.lookup y.1=some .cell) (len:src.length=N'.length)
  (sr:((N'.zip src).all λp=>match p.2 with | none=>true | some j=>decide (N[j]?=some p.1)&&decide (sc.names.lookup p.1=some .free))=true):Bk X N' src sc where
 kind:=kind
 Hs:=Hs
 loc:=loc
 fv:=λy hy e=>.inl (by show X.env.scope.names.lookup y.1=some .cell;rw[hX];exact fv y hy e)
 len:=len
 src:=λi x j e1 e2=>by
  rw[List.all_eq_true] at sr
  have hm:(x,some j)∈N'.zip src:=by
   refine Qaz (i:=i) ?_
   rw[List.getElem?_zip_eq_some]
   exact⟨e1,e2⟩
  have:=sr _ hm
  simp only[Qbu,decide_eq_true_eq] at this
  rw[hN]
  exact this
section
variable {X:Cx}
@[irreducible] def M5 (K:PySem.W.Frag):List V->Hp->VK->Prop:=λxs H Q=>∃x T t b,xs=[x,.ty T]/\JC K H x t/\kitOne K t (.type T)=some b/\Q (.bl b) H
theorem Ow:Dy X (.builtin "isinstance") (M5 X.K):=by
 intro pins s σ H xs us Q I r h
 unfold M5 at h
 obtain⟨x,T,t,b,rfl,ty,e,q⟩:=h
 obtain⟨u,w',rfl,rx,rt⟩:=vals2 r
 cases rt
 exact iC I rx ty e λtk=>⟨.bl b,H,I.tok tk,rfl,q⟩
theorem YZ {K:PySem.W.Frag}:kitOne K (.type "int") (.type "int")=some true:=by rfl
theorem XS {K:PySem.W.Frag}:kitOne K (.type "int") (.type "bool")=some false:=by rfl
theorem X3 {K:PySem.W.Frag}:kitOne K (.type "bool") (.type "int")=some true:=by rfl
theorem VN {K:PySem.W.Frag}:kitOne K (.type "bool") (.type "bool")=some true:=by rfl
theorem XQ {K:PySem.W.Frag}:kitOne K (.type "NoneType") (.type "int")=some false:=by rfl
theorem YX {K:PySem.W.Frag}:kitOne K (.type "str") (.type "int")=some false:=by rfl
theorem XR {K:PySem.W.Frag}:kitOne K (.type "list") (.type "int")=some false:=by rfl
theorem VH {K:PySem.W.Frag}:kitOne K (.type "tuple") (.type "int")=some false:=by rfl
theorem Ut {K:PySem.W.Frag}:kitOne K (.type "NoneType") (.type "tuple")=some false:=by rfl
theorem Uv {K:PySem.W.Frag}:kitOne K (.type "bool") (.type "tuple")=some false:=by rfl
theorem VL {K:PySem.W.Frag}:kitOne K (.type "int") (.type "tuple")=some false:=by rfl
theorem VJ {K:PySem.W.Frag}:kitOne K (.type "str") (.type "tuple")=some false:=by rfl
theorem Uu {K:PySem.W.Frag}:kitOne K (.type "list") (.type "tuple")=some false:=by rfl
theorem Tf {K:PySem.W.Frag}:kitOne K (.type "tuple") (.type "tuple")=some true:=by rfl
def Kn (H:Hp):V->Prop
 | .non=>True
 | .bl _=>True
 | .int _=>True
 | .str _=>True
 | .ref a=>(∃xs,H a=some (.lst xs))\/∃xs,H a=some (.tup xs)
 | _=>False
def isI:V->Bool
 | .int _=>true
 | .bl _=>true
 | _=>false
def isB:V->Bool
 | .bl _=>true
 | _=>false
def isW:V->Bool
 | .int _=>true
 | _=>false
def Gv (H:Hp):V->Option (List V)
 | .ref a=>match H a with
  | some (.tup xs)=>some xs
  | _=>none
 | _=>none
theorem Dg {H:Hp} {a:Addr} {xs:List V} (h:H a=some (.tup xs)):Gv H (.ref a)=some xs:=by
 show (match H a with | some (.tup xs)=>some xs | _=>none)=some xs
 rw[h]
theorem U8 {H:Hp} {a:Addr} {xs:List V} (h:H a=some (.lst xs)):Gv H (.ref a)=none:=by
 show (match H a with | some (.tup xs)=>some xs | _=>none)=none
 rw[h]
theorem RD {H:Hp} {v:V} {xs:List V} (h:Gv H v=some xs):∃a,v=.ref a/\H a=some (.tup xs):=by
 cases v with
 | ref a=>
  refine⟨a,rfl,?_⟩
  have h':(match H a with | some (.tup xs)=>some xs | _=>none)=some xs:=h
  split at h'
  ·rename_i e;cases h';exact e
  ·cases h'
 | _=>cases h
theorem Kn.same {H H':Hp} {v:V} (s:Same H H') (k:Kn H v):Kn H' v:=by
 cases v with
 | ref a=>exact k.imp (λ⟨xs,e⟩=>⟨xs,s _ _ e⟩) λ⟨xs,e⟩=>⟨xs,s _ _ e⟩
 | _=>exact k
theorem tZ {K:PySem.W.Frag} {H:Hp} {x:V} {Q:VK} (k:Kn H x) (q:Q (.bl (isI x)) H):M5 K [x,.ty "int"] H Q:=by
 unfold M5
 cases x with
 | non=>exact⟨_,_,_,_,rfl,.non,XQ,q⟩
 | bl b=>exact⟨_,_,_,_,rfl,.bl b,X3,q⟩
 | int i=>exact⟨_,_,_,_,rfl,.int i,YZ,q⟩
 | str z=>exact⟨_,_,_,_,rfl,.str z,YX,q⟩
 | ref a=>
  rcases k with⟨xs,e⟩|⟨xs,e⟩
  ·exact⟨_,_,_,_,rfl,.lst e,XR,q⟩
  ·exact⟨_,_,_,_,rfl,.tup e,VH,q⟩
 | _=>exact k.elim
theorem o9 {K:PySem.W.Frag} {H:Hp} {x:V} {Q:VK} (k:isI x=true) (q:Q (.bl (isB x)) H):M5 K [x,.ty "bool"] H Q:=by
 unfold M5
 cases x with
 | bl b=>exact⟨_,_,_,_,rfl,.bl b,VN,q⟩
 | int i=>exact⟨_,_,_,_,rfl,.int i,XS,q⟩
 | _=>cases k
theorem iD {K:PySem.W.Frag} {H:Hp} {x:V} {Q:VK} (k:Kn H x) (q:Q (.bl (Gv H x).isSome) H):M5 K [x,.ty "tuple"] H Q:=by
 unfold M5
 cases x with
 | non=>exact⟨_,_,_,_,rfl,.non,Ut,q⟩
 | bl b=>exact⟨_,_,_,_,rfl,.bl b,Uv,q⟩
 | int i=>exact⟨_,_,_,_,rfl,.int i,VL,q⟩
 | str z=>exact⟨_,_,_,_,rfl,.str z,VJ,q⟩
 | ref a=>
  rcases k with⟨xs,e⟩|⟨xs,e⟩
  ·rw[U8 e] at q
   exact⟨_,_,_,_,rfl,.lst e,Uu,q⟩
  ·rw[Dg e] at q
   exact⟨_,_,_,_,rfl,.tup e,Tf,q⟩
 | _=>exact k.elim
theorem Yv:∀{bs:List Bool} {us:List Value},Vals (bs.map V.bl) us->LSm.BoolsAre us bs
 | [],_,.nil=>.nil
 | b::r,_,.cons h t=>by
  cases (show _=Value.bool b from h)
  exact .cons b (Yv t)
theorem GR (hc:X.calm=true):Dy X (.builtin "all") (λxs H Q=>∃(p:Addr) (bs:List Bool),xs=[.ref p]/\SqL X.K H p (bs.map V.bl)/\Q (.bl (bs.all id)) H):=by
 intro pins s σ H xs us Q I r h
 obtain⟨p,bs,rfl,hq,q⟩:=h
 obtain⟨u,rfl,rx⟩:=vals1 r
 cases rx
 obtain⟨its,rv,pl,hz⟩:=I.list hq
 have hb:=Yv rv
 have hl:=pl.isList
 have hlt:p < s.heap.objs.size:=by obtain⟨_,e,_⟩:=hl;exact Qcb e
 refine call_all_walk (Qbl hl ?_)
 refine⟨s.heap.objs.size,[s.heap.objs.size,p],[s.heap.objs.size],its.toArray.size,_,_,λi=>(bs[i]?).getD true,rfl,Walks.list (A:=X.A.in1) (I.ok.hd hc) _ p (Qcc hlt) its.toArray,
  ⟨⟨_,QaF _ rfl,rfl,rfl⟩,hl.push _⟩,λi v s' Q' E' hP hQ=>?_,λh' tk hk=>?_⟩
 ·obtain⟨b,e,rfl⟩:=hb.get i v (by simpa using hP)
  simp only[e,Option.getD_some] at hQ
  exact Qbk hQ
 ·have e:((List.range its.toArray.size).all λi=>(bs[i]?).getD true)=bs.all id:=by
   rw[Qbb,hb.length];exact LSm.range_all bs
  rw[e]
  exact⟨.bl (bs.all id),H,I.kept (LSm.kept_iter hk),rfl,q⟩
def vM (K:PySem.W.Frag):R2:=λx y H Q=>∃a b ys,x=.ref a/\y=.ref b/\SqT K H a []/\SqT K H b ys/\Q (.ref b) H
theorem lU:OpR X (binaryOp .Add) (vM X.K):=by
 intro pins s σ H x y v u Q I rx ry h
 obtain⟨a,b,ys,rfl,rfl,ha,hb,q⟩:=h
 cases rx
 cases ry
 obtain⟨its,r1,p1,_⟩:=I.tuple ha
 obtain⟨its2,r2,p2,_⟩:=I.tuple hb
 cases r1
 obtain⟨⟨cls,dd,data,sl⟩,ho,hc,n,hd⟩:=id p1
 obtain⟨⟨cls2,dd2,data2,sl2⟩,ho2,hc2,n2,hd2⟩:=id p2
 simp only at hc hd hc2 hd2
 subst hc hd hc2 hd2
 exact concat_meets ⟨_,ho,rfl⟩ ⟨_,ho2,rfl⟩ noFill_tuple_add seq_tuple_add PySem.F.slot_tuple_add PySem.F.entry_tuple_add (PySem.F.args_tuple_add_2 _ _)
  (tuple_addW0 a b #[] its2.toArray n n2 dd dd2 sl sl2 rfl) ⟨ho,ho2,⟨.ref b,H,I,rfl,q⟩⟩
theorem Lx:OpR X (binaryOp .Add) (λx y H Q=>∃a b xs ys,x=.ref a/\y=.ref b/\H a=some (.tup xs)/\H b=some (.tup ys)/\xs.length+ys.length<=sizeLine /\
  ∀p H',H' p=some (.tup (xs++ys))->Same H H'->Q (.ref p) H'):=by
 intro pins s σ H x y v u Q I rx ry h
 obtain⟨a,b,xs,ys,rfl,rfl,ha,hb,hz,q⟩:=h
 cases xs with
 | nil=>exact lU pins s σ H _ _ v u Q I rx ry ⟨a,b,ys,rfl,rfl,SqT.of ha,SqT.of hb,q b H hb (Same.refl H)⟩
 | cons x0 xr=>
  refine rZ pins s σ H _ _ v u Q I rx ry ⟨a,b,x0::xr,ys,rfl,rfl,SqT.of ha,SqT.of hb,(λz=>by cases z),hz,λz=>?_,λz p hp=>?_⟩
  ·subst z
   exact q a H (by rw[QbD];exact ha) (Same.refl H)
  ·refine q p _ Ac λc o e=>?_
   rw[Al (Av e hp)]
   exact e
mutual
inductive Rep (H:Hp):V->PyData->Prop
 | non:Rep H .non .none
 | bl (b:Bool):Rep H (.bl b) (.bool b)
 | int (i:Int):Rep H (.int i) (.int i)
 | str (x:Str):Rep H (.str x) (.str x)
 | tup {a:Addr} {xs:List V} {ds:List PyData}:H a=some (.tup xs)->Kr H xs ds->Rep H (.ref a) (.tuple ds)
 | lst {a:Addr} {xs:List V} {ds:List PyData}:H a=some (.lst xs)->Kr H xs ds->Rep H (.ref a) (.list ds)
inductive Kr (H:Hp):List V->List PyData->Prop
 | nil:Kr H [] []
 | cons {x:V} {d:PyData} {xs:List V} {ds:List PyData}:Rep H x d->Kr H xs ds->Kr H (x::xs) (d::ds)
end
mutual
theorem Rep.reads {P:Program} {w:World} {H:Hp} {h:Heap} (ok:HOk P w H h):∀{v:V} {d:PyData} {u:Value},Rep H v d->RelV v u->∃as,Reads h u d as
 | _,_,_,.non,r=>by cases (show _=Value.none from r);exact⟨_,.none⟩
 | _,_,_,.bl b,r=>by cases (show _=Value.bool b from r);exact⟨_,.bool b⟩
 | _,_,_,.int i,r=>by obtain⟨t,rfl⟩:=(show ∃t,_=Value.int i t from r);exact⟨_,.int i t⟩
 | _,_,_,.str x,r=>by obtain⟨t,rfl⟩:=(show ∃t,_=Value.str x t from r);exact⟨_,.str x t⟩
 | _,_,_,.tup (a:=a) (xs:=xs) e q,r=>by
  cases (show _=Value.ref a from r)
  obtain⟨_,its,rv,o,ho,hc,n,hd⟩:=(show Bm P w H h a (.tup xs) from ok a _ e)
  obtain⟨as,z⟩:=Kr.reads ok q rv
  exact⟨_,.tuple ho hc hd (by simpa using z)⟩
 | _,_,_,.lst (a:=a) (xs:=xs) e q,r=>by
  cases (show _=Value.ref a from r)
  obtain⟨_,its,n,rv,ho⟩:=(show Bm P w H h a (.lst xs) from ok a _ e)
  obtain⟨as,z⟩:=Kr.reads ok q rv
  exact⟨_,.list ho rfl rfl (by simpa using z)⟩
theorem Kr.reads {P:Program} {w:World} {H:Hp} {h:Heap} (ok:HOk P w H h):∀{xs:List V} {ds:List PyData} {us:List Value},Kr H xs ds->Vals xs us->∃as,ReadsAll h us ds as
 | _,_,_,.nil,.nil=>⟨_,.nil⟩
 | _,_,_,.cons p q,.cons r t=>by
  obtain⟨as,a1⟩:=Rep.reads ok p r
  obtain⟨bs,b1⟩:=Kr.reads ok q t
  exact⟨_,.cons a1 b1⟩
end
theorem vZ (hu:X.A.units+64 < cLine):OpR X (compareOp .Eq) (λx y H Q=>∃d e,Rep H x d/\Rep H y e/\SeqAt.shaped d=true/\SeqAt.shaped e=true/\Q (.bl (PyData.eqv d e)) H):=by
 intro pins s σ H x y v u Q I rx ry h
 obtain⟨d,e,p,p',sd,se,q⟩:=h
 obtain⟨as,r1⟩:=p.reads I.hok rx
 obtain⟨bs,r2⟩:=p'.reads I.hok ry
 exact eq_dataH r1 r2 sd se hu ⟨.bl (PyData.eqv d e),H,I,rfl,q⟩
theorem gC (hu:X.A.units+64 < cLine):OpR X (compareOp .NotEq) (λx y H Q=>∃d e,Rep H x d/\Rep H y e/\SeqAt.shaped d=true/\SeqAt.shaped e=true/\Q (.bl (!PyData.eqv d e)) H):=by
 intro pins s σ H x y v u Q I rx ry h
 obtain⟨d,e,p,p',sd,se,q⟩:=h
 obtain⟨as,r1⟩:=p.reads I.hok rx
 obtain⟨bs,r2⟩:=p'.reads I.hok ry
 exact ne_dataH r1 r2 sd se hu ⟨.bl (!PyData.eqv d e),H,I,rfl,q⟩
end
structure Code (K:PySem.W.Frag) (mg:Str->Option Value) (x:Str) (st:Stmt) (ps:List Str):Prop where
 ex:∃(f:Addr) (fd:FuncData),Fun K x x st f fd/\mg x=some (.ref f)/\Binds K fd ps []
structure Good (P:Program) (w:World) (K:PySem.W.Frag) (mg:Str->Option Value) (base:Heap) (x:Str) (k:Nat) (ps:List Str) (sp:Sp):Prop where
 ex:∃(f:Addr) (fd:FuncData),mg x=some (.ref f)/\keepIn K (.ref f)=true/\Binds K fd ps []/\Ga P w K mg base CX0 k f fd ps sp
theorem Code.good {P:Program} {w:World} {K:PySem.W.Frag} {mg:Str->Option Value} {base:Heap} {x:Str} {st:Stmt} {ps N:List Str} {k:Nat} {sp:Sp} (C:Code K mg x st ps) (S:Ay N ps (Aj st)) (len:∀vs H Q E,sp vs H Q E->vs.length=ps.length)
  (hbody:∀(f:Addr) (cdv:Value) (A:Around) (outer:List Env) (s:Shared) (H:Hp) (vs:List V) (Q:VK) (E:XK),Cp k (A.deeper (envOfC x (Aj st) s.heap.objs.size f cdv))->sp vs H Q E ->
   ∃t,PSs (Kp CX0 P w K mg base N x (Aj st) f cdv A outer s H E).nox (Cw st) t/\t { nx:=λ_ H'=>Q .non H',rt:=Q } (start N vs) H):Good P w K mg base x (k+1) ps sp:=by
 obtain⟨f,fd,F,m,b⟩:=C.ex
 exact⟨f,fd,m,F.kp,b,F.ok S len λcdv A outer s H vs Q E hr h=>hbody f cdv A outer s H vs Q E hr h⟩
theorem Ax {X:Cx} {k k':Nat} {ps:List Str} {sp:Sp} {x:Str} {p pos:Pos} {e:Expr} {es:List Expr} {t:TA} (g:Good X.prog X.w X.K X.mg X.base x k ps sp) (hr:Cp k' X.A) (ha:PA X (e::es) t) (hk:k<=k':=by decide) (hg:Gl X x:=by rfl)
  (hdb:(x == ("__debug__":Str))=false:=by decide) (he:starEach (e::es) X.env=(false,eval e X.env)::starEach es X.env:=by rfl) (hpl:(backTo pos (starEach es X.env)).any (·.1)=false:=by rfl) :
  PE X (.Call (.Name x p) (e::es) [] pos) (bw sp [] E0 t):=by
 intro pins s σ H Q I h
 obtain⟨f,fd,m,kp,b,F⟩:=g.ex
 exact rT F (hr.mono hk) hg m kp b .nil V6 ha hdb he hpl pins s σ H Q I h
theorem Code.of {K:PySem.W.Frag} {mg:Str->Option Value} {h:Heap} {x:Str} {st:Stmt} {ps:List Str} {f:Addr} {oc:Value} {od an:Option Addr} {osl:Array (Option Value)} {kV doc pm cdv ct:Value} (X:K.In h) (G:h.Ns mainGlobals mg)
  (a:nsIn K mainGlobals x=some (some (.ref f))) (l:K.lookup f=some ⟨oc,od,.func (fnOf x x (Dt st) (Cw st) (Aj st) .none kV doc pm an cdv ct),osl⟩) (c:codeIn K cdv x=true) (k:keepIn K (.ref f)=true)
  (hb:∀(kV doc pm:Value) (an:Option Addr) (cdv ct:Value) (us:List Value),us.length=ps.length->bindArgs (fnOf x x (Dt st) (Cw st) (Aj st) .none kV doc pm an cdv ct) ⟨us,[]⟩=pure (ps.zip us)):Code K mg x st ps:=by
 have F:=Tq (st:=st) l c k
 exact⟨f,_,F,mg_of X G a,F.binds hb⟩
theorem Af {H:Hp} {p:Addr} (h:H p=none) (o:HO):Same H (upd H p o):=λb u q=>by rw[Al (Av q h)];exact q
theorem Bk.plain {X:Cx} {N':List Str} {sc:Scope} (kind:sc.kind=.function) (Hs:∀y∈sc.names,y.2≠.cell) (loc:∀y∈sc.names,y.2=.local->sc.names.lookup y.1=some .local) (XC:∀y∈sc.names,y.2≠.free) :
  Bk X N' (N'.map λ_=>none) sc where
 kind:=kind
 Hs:=Hs
 loc:=loc
 fv:=λy hy e=>absurd e (XC y hy)
 len:=by simp
 src:=λi x j _ e=>by
  rw[Qbc] at e
  cases q:N'[i]? with
  | none=>rw[q] at e;cases e
  | some z=>rw[q] at e;cases e
theorem R4 {K:PySem.W.Frag} {a l:Addr} {xs:List V} {g:TG} {tt:TT} {te:TE} {Q:VK} {σ0:St} {H0:Hp} (Pv:Nat->St->Hp->Prop)
  (h0:Pv 0 σ0 H0) (hl:∀i σ H',i<=xs.length->Pv i σ H'->SqT K H' a xs)
  (hs:∀i x σ H',xs[i]?=some x->Pv i σ H'->g x σ H' fun σ3 H3=>tt σ3 H3 λb H4=>if b=true then te σ3 H4 λy H5=>∃ys,H5 l=some (.lst ys)/\ys.length < sizeLine/\Pv (i+1) σ3 (upd H5 l (.lst (ys++[y]))) else Pv (i+1) σ3 H4)
  (hd:∀ σ H',Pv xs.length σ H'->Q (.ref l) H'):Fp (Itt K a) g tt te Q σ0 H0 l:=by
 unfold Fp
 refine⟨λi m σ H'=>m=xs.length - i/\i<=xs.length/\Pv i σ H',⟨xs.length,by simp,Qcj _,h0⟩,?_⟩
 rintro i m σ H' ⟨rfl,hi,p⟩
 have q:=hl i σ H' hi p
 by_cases hlt:i < xs.length
 ·refine .inr ⟨⟨xs,xs[i],q,by simp[hlt]⟩,Pv (i+1),fun σ3 H3 p'=>⟨xs.length - (i+1),by omega,rfl,hlt,p'⟩,λx H2 y=>?_⟩
  obtain⟨e,y⟩:=y
  subst e
  exact hs i x σ _ (y xs q) p
 ·have e:i=xs.length:=by omega
  subst e
  exact .inl ⟨⟨xs,q,Qci _⟩,hd σ H' p⟩
theorem Gd {K:PySem.W.Frag} {a l:Addr} {xs:List V} {g:TG} {tt:TT} {te:TE} {Q:VK} {σ0:St} {H0:Hp} (Pv:Nat->St->Hp->Prop)
  (h0:Pv 0 σ0 H0) (hl:∀i σ H',i<=xs.length->Pv i σ H'->SqL K H' a xs)
  (hs:∀i x σ H',xs[i]?=some x->Pv i σ H'->g x σ H' fun σ3 H3=>tt σ3 H3 λb H4=>if b=true then te σ3 H4 λy H5=>∃ys,H5 l=some (.lst ys)/\ys.length < sizeLine/\Pv (i+1) σ3 (upd H5 l (.lst (ys++[y]))) else Pv (i+1) σ3 H4)
  (hd:∀ σ H',Pv xs.length σ H'->Q (.ref l) H'):Fp (Itl K a) g tt te Q σ0 H0 l:=by
 unfold Fp
 refine⟨λi m σ H'=>m=xs.length - i/\i<=xs.length/\Pv i σ H',⟨xs.length,by simp,Qcj _,h0⟩,?_⟩
 rintro i m σ H' ⟨rfl,hi,p⟩
 have q:=hl i σ H' hi p
 by_cases hlt:i < xs.length
 ·refine .inr ⟨⟨xs,xs[i],q,by simp[hlt]⟩,Pv (i+1),fun σ3 H3 p'=>⟨xs.length - (i+1),by omega,rfl,hlt,p'⟩,λx H2 y=>?_⟩
  obtain⟨e,y⟩:=y
  subst e
  exact hs i x σ _ (y xs q) p
 ·have e:i=xs.length:=by omega
  subst e
  exact .inl ⟨⟨xs,q,Qci _⟩,hd σ H' p⟩
theorem KH {lo:Int} {n:Nat} {l:Addr} {g:TG} {tt:TT} {te:TE} {Q:VK} {σ0:St} {H0:Hp} (Pv:Nat->St->Hp->Prop) (h0:Pv 0 σ0 H0)
  (hs:∀i σ H',i < n->Pv i σ H'->g (.int (lo+i)) σ H' fun σ3 H3=>tt σ3 H3 λb H4=>if b=true then te σ3 H4 λy H5=>∃ys,H5 l=some (.lst ys)/\ys.length < sizeLine/\Pv (i+1) σ3 (upd H5 l (.lst (ys++[y]))) else Pv (i+1) σ3 H4)
  (hd:∀ σ H',Pv n σ H'->Q (.ref l) H'):Fp (Itr lo n) g tt te Q σ0 H0 l:=by
 unfold Fp
 refine⟨λi m σ H'=>m=n - i/\i<=n/\Pv i σ H',⟨n,by simp,Qcj _,h0⟩,?_⟩
 rintro i m σ H' ⟨rfl,hi,p⟩
 by_cases hlt:i < n
 ·refine .inr ⟨hlt,Pv (i+1),fun σ3 H3 p'=>⟨n - (i+1),by omega,rfl,hlt,p'⟩,λx H2 y=>?_⟩
  obtain⟨e,y⟩:=y
  subst e y
  exact hs i σ _ hlt p
 ·have e:i=n:=by omega
  subst e
  exact .inl ⟨Qci _,hd σ H' p⟩
section
variable {X:Cx}
theorem Vp (hc:X.calm=true):Dy X (.builtin "max") (λxs H Q=>∃(p:Addr) (ns:List Int),xs=[.ref p]/\SqL X.K H p (ns.map V.int)/\0 < ns.length/\∀M,M∈ns->(∀a,a∈ns->a<=M)->Q (.int M) H):=by
 intro pins s σ H xs us Q I r h
 obtain⟨p,ns,rfl,hq,hne,q⟩:=h
 obtain⟨u,rfl,rx⟩:=vals1 r
 cases rx
 obtain⟨its,rv,pl,hz⟩:=I.list hq
 have hi:IntsAre its ns:=intsAre_of rv
 obtain⟨zs,e⟩:=hi.allInts.items
 have hl:=pl.isList
 rw[e] at hl
 have hns:ns=zs.toList.map (·.1):=by rw[<-hi.numsOf,<-nums_intItems,<-e]
 have hsz:0 < zs.size:=by
  have h3:=hne
  rw[hns,Qbx,QaH] at h3
  exact h3
 refine max_intList (I.ok.hd hc) hl hsz λv h' tk hv hk=>?_
 obtain⟨t,rfl⟩:=intItems_at hv
 obtain⟨_,h2⟩:=argBest_gt (numAt zs) (zs.size - 1)
 refine⟨.int _,H,I.kept hk,⟨t,rfl⟩,q _ ?_ λa ha=>?_⟩
 ·rw[hns,numAt_eq]
  exact getD_mem (by rw[Qbx,QaH];have:=(argBest_gt (numAt zs) (zs.size - 1)).1;omega)
 ·rw[hns] at ha
  obtain⟨j,hj,rfl⟩:=mem_getD ha
  rw[Qbx,QaH] at hj
  rw[<-numAt_eq]
  exact h2 j (by omega)
theorem iH:∀{us:List Value} {ns:List Int},IntsAre us ns->Vals (ns.map V.int) us:=λh=>Pa h
theorem Yq:Dy X (.builtin "sorted") (λxs H Q=>∃(p:Addr) (ns:List Int),xs=[.ref p]/\SqL X.K H p (ns.map V.int)/\ns.length < 64 /\
  ∀(ms:List Int) l,ms.Perm ns->ms.Pairwise (·<=·)->H l=none->Q (.ref l) (upd H l (.lst (ms.map V.int)))):=by
 intro pins s σ H xs us Q I r h
 obtain⟨p,ns,rfl,hq,h64,q⟩:=h
 obtain⟨u,rfl,rx⟩:=vals1 r
 cases rx
 obtain⟨its,rv,pl,hz⟩:=I.list hq
 have hi:IntsAre its ns:=intsAre_of rv
 have hlen:=hi.length
 refine sorted_ints pl.isList hi (by omega) λout ms a1 a2 a3=>?_
 obtain⟨e,he⟩:=sortedAll_at s.heap its out
 have hml:=a2.length_eq
 refine⟨.ref (s.heap.objs.size+1),_,I.laid (t':=s.toks) (o:=.lst (ms.map V.int)) (λb o q=>sortedAll_old q) (Nat.le_succ _) ?_,rfl,q ms _ a2 a3 (I.hok.fresh (Nat.le_succ _))⟩
 exact⟨by rw[Qbx];exact Qcf (Ao (by omega)),out.toList,e,iH a1,he⟩
theorem Zv:∀{ys:List Str} {us:List Value},Vals (ys.map V.str) us->StrsAre us ys
 | [],_,.nil=>.nil
 | y::r,_,.cons h t=>by
  obtain⟨t',e⟩:=(show ∃t,_=Value.str y t from h)
  cases e
  exact .cons y t' (Zv t)
def rJoin (K:PySem.W.Frag):V->List V->Hp->VK->Prop:=λx vs H Q=>∃(z:Str) (p:Addr) (ys:List Str),x=.str z/\vs=[.ref p]/\SqL K H p (ys.map V.str)/\(ys.map (·.length)).sum+ys.length*z.length<=16777216/\Q (.str (Txt.join z ys)) H
theorem tV:MtR X "str.join" (rJoin X.K):=by
 intro pins s σ H x vs v us Q I rx rv h
 obtain⟨z,p,ys,rfl,rfl,hq,hz,q⟩:=h
 obtain⟨t,rfl⟩:=rx
 obtain⟨u,rfl,ru⟩:=rv.one
 cases ru
 obtain⟨its,r',pl,_⟩:=I.list hq
 exact join_list pl.isList (Zv r') hz λt' k=>⟨.str (Txt.join z ys),H,I.tok k,⟨t',rfl⟩,q⟩
def Its (z:Str):It:=⟨λi _=>i < z.cps.size,λi H x H'=>H'=H/\∃c,z.cps[i]?=some c/\x=.str ⟨#[c]⟩,λi _=>i=z.cps.size⟩
def C2 (tl:TE):TI:=fun σ H R=>tl σ H λx H1=>∃z,x=.str z/\R (Its z) H1
end
section
variable {X:Cx} {tg:Expr}
theorem Wj {P:Program} {w:World} {K:PySem.W.Frag} {tg:Expr} (z:Str) (t:Tok) (it:Addr) (ty:String) (hty:["enumerate","zip","dict_itemiterator","dict_reverseitemiterator","odict_iterator","itertools.zip_longest","itertools.pairwise"].contains ty=false)
  (W:∀A':Around,A'.handled=none->Walks P w A' it [it] [it] z.cps.size (SignAt z) (λi h=>h.IsStrIter it ty z t i))
  (hself:∀(A:Around) (i:Nat) (s:Shared) (Q:Value->Shared->Prop) (E:Value->Shared->Prop),s.heap.IsStrIter it ty z t i->Q (.ref it) s->wpAny (model P w) A (pyIter (.ref it)) Q E s) :
  Turn P w K tg (Its z) [it] it (λi h=>h.IsStrIter it ty z t i) where
 mem:=QaT.mpr rfl
 obj:=λi h st b hb=>by
  cases QaT.mp hb
  obtain⟨o,e,c,d⟩:=st
  exact⟨o,e,λv z'=>by rw[d] at z';cases z'⟩
 keep:=λi h h' st k=>by
  obtain⟨o,e,r⟩:=st
  exact⟨o,k it (QaT.mpr rfl) o e,r⟩
 item:=by
  intro X hP hw hK hc i pins s σ H E I hf st hg
  subst hP hw hK
  obtain⟨f0,f1,f2,f3,f4,f5⟩:=hf it (QaT.mpr rfl)
  refine (W X.A (I.ok.hd hc)).item i s _ _ hg st λv h' tk hv st' kk=>?_
  obtain⟨c,u,hcu,rfl⟩:=hv
  have I1:Inv X pins σ H { s with heap:=h',toks:=tk }:=I.turned (λb o hb e=>kk b o (λhm=>hb (QaT.mp hm)) e) f0 f1 f3 f4 f5
  obtain⟨o,e,cl,d⟩:=id st'
  exact⟨_,rfl,Wa (s:={ s with heap:=h',toks:=tk }) e cl d hty ⟨.str ⟨#[c]⟩,H,I1,⟨u,rfl⟩,⟨rfl,c,hcu,rfl⟩,st',λb hb=>(hf b hb).1⟩⟩
 done:=by
  intro X hP hw hK hc i pins s σ H E I hf st hg
  subst hP hw hK
  obtain⟨f0,f1,f2,f3,f4,f5⟩:=hf it (QaT.mpr rfl)
  cases (show i=z.cps.size from hg)
  exact (W X.A (I.ok.hd hc)).done s _ _ st λh' tk kk=>⟨rfl,I.turned (λb o hb e=>kk b o (λhm=>hb (QaT.mp hm)) e) f0 f1 f3 f4 f5⟩
 self:=λA i s Q E st h=>hself A i s Q E st h
theorem f9 {l:Expr} {tl:TE} (hl:PE X l tl):PI X tg l (C2 tl):=by
 intro pins s σ H R I h
 refine thn (hl pins s σ H _ I h) λv s1 ⟨x,H1,I1,r1,z,e,q⟩=>?_
 subst e
 obtain⟨t,rfl⟩:=r1
 have fp:∀o:Obj,∀b∈[s1.heap.objs.size],FZ X pins H1 b:=λo b hb=>by
  cases QaT.mp hb
  exact I1.Qf (Qci _) (I1.hok.fresh (Qci _))
 cases ha:z.cps.all (· < 128) with
 | true=>
  refine wpAny_pyIter_ascii ha ?_
  exact⟨s1.heap.objs.size,[s1.heap.objs.size],_,_,H1,rfl,I1.kept (t':=s1.toks) λb o e=>Qat _ e,Wj z t _ "str_ascii_iterator" (by decide) (λA' hA=>Walks.strAscii hA _ z t) (λ_ _ _ _ _ st h=>wpAny_pyIter_striter_ascii st h),
   ⟨_,QaF _ rfl,rfl,rfl⟩,fp { cls:=.none,data:=.fields #[] },q⟩
 | false=>
  refine wpAny_pyIter_wide ha ?_
  exact⟨s1.heap.objs.size,[s1.heap.objs.size],_,_,H1,rfl,I1.kept (t':=s1.toks) λb o e=>Qat _ e,Wj z t _ "str_iterator" (by decide) (λA' hA=>Walks.strWide hA _ z t) (λ_ _ _ _ _ st h=>wpAny_pyIter_striter_wide st h),
   ⟨_,QaF _ rfl,rfl,rfl⟩,fp { cls:=.none,data:=.fields #[] },q⟩
theorem Ym {z:Str} {l:Addr} {g:TG} {tt:TT} {te:TE} {Q:VK} {σ0:St} {H0:Hp} (Pv:Nat->St->Hp->Prop) (h0:Pv 0 σ0 H0)
  (hs:∀i c σ H',z.cps[i]?=some c->Pv i σ H'->g (.str ⟨#[c]⟩) σ H' fun σ3 H3=>tt σ3 H3 λb H4=>if b=true then te σ3 H4 λy H5=>∃ys,H5 l=some (.lst ys)/\ys.length < sizeLine/\Pv (i+1) σ3 (upd H5 l (.lst (ys++[y]))) else Pv (i+1) σ3 H4)
  (hd:∀ σ H',Pv z.cps.size σ H'->Q (.ref l) H'):Fp (Its z) g tt te Q σ0 H0 l:=by
 unfold Fp
 refine⟨λi m σ H'=>m=z.cps.size - i/\i<=z.cps.size/\Pv i σ H',⟨z.cps.size,by simp,Qcj _,h0⟩,?_⟩
 rintro i m σ H' ⟨rfl,hi,p⟩
 by_cases hlt:i < z.cps.size
 ·refine .inr ⟨hlt,Pv (i+1),fun σ3 H3 p'=>⟨z.cps.size - (i+1),by omega,rfl,hlt,p'⟩,λx H2 y=>?_⟩
  obtain⟨e,c,hc,rfl⟩:=y
  subst e
  exact hs i c σ _ hc p
 ·have e:i=z.cps.size:=by omega
  subst e
  exact .inl ⟨rfl,hd σ H' p⟩
end
end L2
namespace HT
open PySem PyProof.Rows
section
variable {prog:Program} {w:World} {A:Around} {E:Value->Shared->Prop} {s:Shared}
theorem Q7 {t sl:Addr} {items:Array Value} {vl vu:Value} {lo hi:Option Int} {Q:Value->Shared->Prop} (ht:IsTup s.heap t items) (hs:s.heap.IsSliceOf sl vl vu .none) (pl:IsPart vl lo) (pu:IsPart vu hi)
  (hw:sIx items.size 0 lo=0/\sIx items.size items.size hi=items.size) (h:Q (.ref t) s):wpAny (model prog w) A (getItem (.ref t) (.ref sl)) Q E s:=by
 obtain⟨os,hos,hcs,hds⟩:=id hs
 have hTs:s.TypeIs (.ref sl) "slice":=⟨os,hos,hcs⟩
 unfold getItem
 try with_reducible refine QbW ?_
 first | refine Qcn (Qco ?_) | skip
 refine Qcn (wpAny_sequenceKey ht.typeIs (by decide) ?_)
 refine Qcn (Qar (name:=Str.ofString "__getitem__") ht.typeIs Qab (Qbr Qab ht.typeIs entry_tuple_getitem ?_ (args_tuple_getitem _ _)))
 show wpAny _ _ (Builtin.Tuple.tupleItemsOf (.ref t) >>= _) _ _ s
 refine Qcn (tupleItemsOf_ ht ?_)
 refine Qcn (wpAny_typeOf hTs ?_)
 rw[if_pos (by decide)]
 refine Qcn (K7 hs pl pu ?_)
 rw[hw.1,hw.2]
 show wpAny _ _ (if (((0:Nat):Int) == 0&&(1:Int) == 1&&(items.size - 0) == items.size)=true then _ else _) _ _ s
 rw[if_pos (by simp)]
 refine Qcn ?_
 unfold Builtin.Tuple.tupleIsExact
 refine Qcn (wpAny_typeOf ht.typeIs (Qco ?_))
 rw[if_pos (by decide)]
 exact Qcn (wpAny_rule (Qco ⟨_,rfl,Qco h⟩))
end
end HT
namespace L2
open PySem PySem.Spec PyProof.Rows
section
variable {X:Cx}
theorem T8:SlR X (λx lo hi H Q=>∃a xs,x=.ref a/\H a=some (.tup xs)/\∀p H',H' p=some (.tup (Ig xs lo hi))->Same H H'->Q (.ref p) H'):=by
 intro pins s σ H x v vl vu lo hi sl Q I rx hs pl pu h
 obtain⟨a,xs,rfl,hx,q⟩:=h
 by_cases hw:HT.sIx xs.length 0 lo=0/\HT.sIx xs.length xs.length hi=xs.length
 ·cases rx
  obtain⟨its,r,ht,hz⟩:=I.tuple (SqT.of hx)
  have hlen:its.toArray.size=xs.length:=by rw[Qbb];exact r.length.symm
  refine⟨"tuple",_,Qab.lookup,ht.typeIs,?_⟩
  refine HT.Q7 ht hs pl pu (by rw[hlen];exact hw) ⟨.ref a,H,I,rfl,q a H ?_ (Same.refl H)⟩
  have e:Ig xs lo hi=xs:=by unfold Ig;rw[hw.1,hw.2];simp
  rw[e]
  exact hx
 ·exact vA pins s σ H _ v vl vu lo hi sl Q I rx hs pl pu ⟨a,xs,rfl,SqT.of hx,hw,λp hp=>q p _ Ac (λc o e=>by rw[Al (Av e hp)];exact e)⟩
theorem fM:SlR X (λx lo hi H Q=>∃z,x=.str z/\z.length<=sizeLine/\Q (.str (Txt.slice z lo hi)) H):=by
 intro pins s σ H x v vl vu lo hi sl Q I rx hs pl pu h
 obtain⟨z,rfl,hz,q⟩:=h
 obtain⟨t,rfl⟩:=rx
 refine⟨"str",_,F.slot_str_getitem.lookup,typeIs_str _ _ _,?_⟩
 have fin:∀t' k,EP X pins σ Q (.str (Txt.slice z lo hi) t') { s with toks:=k }:=λt' k=>⟨.str (Txt.slice z lo hi),H,I.tok k,⟨t',rfl⟩,q⟩
 cases pl with
 | none=>
  cases pu with
  | none=>exact Qas (l:=none) (u:=none) (st:=none) hs rfl (post_val_or_str ⟨Qcd (Txt.slice_le z _ _) hz,fin⟩)
  | int j tj=>exact Qas (l:=none) (u:=some (j,tj)) (st:=none) hs rfl (post_val_or_str ⟨Qcd (Txt.slice_le z _ _) hz,fin⟩)
 | int i ti=>
  cases pu with
  | none=>exact Qas (l:=some (i,ti)) (u:=none) (st:=none) hs rfl (post_val_or_str ⟨Qcd (Txt.slice_le z _ _) hz,fin⟩)
  | int j tj=>exact Qas (l:=some (i,ti)) (u:=some (j,tj)) (st:=none) hs rfl (post_val_or_str ⟨Qcd (Txt.slice_le z _ _) hz,fin⟩)
end
structure Gz (K:PySem.W.Frag) (C:Addr) (m qn:Str) (st:Stmt) (ps:List Str):Prop where
 ex:∃(f:Addr) (fd:FuncData),Fun K m qn st f fd/\Meth K C m f/\Binds K fd ps []
structure TV (P:Program) (w:World) (K:PySem.W.Frag) (mg:Str->Option Value) (base:Heap) (C:Addr) (m:Str) (k:Nat) (ps:List Str) (sp:Sp):Prop where
 ex:∃(f:Addr) (fd:FuncData),Meth K C m f/\Binds K fd ps []/\Ga P w K mg base CX0 k f fd ps sp
structure dW (P:Program) (w:World) (K:PySem.W.Frag) (mg:Str->Option Value) (base:Heap) (C:Addr) (k:Nat) (ps:List Str) (sp:Sp):Prop where
 ex:∃(f:Addr) (fd:FuncData),Mk K C f/\Binds K fd ps []/\Ga P w K mg base CX0 k f fd ps sp
theorem Gz.good {P:Program} {w:World} {K:PySem.W.Frag} {mg:Str->Option Value} {base:Heap} {C:Addr} {m qn:Str} {st:Stmt} {ps N:List Str} {k:Nat} {sp:Sp} (c:Gz K C m qn st ps) (S:Ay N ps (Aj st)) (len:∀vs H Q E,sp vs H Q E->vs.length=ps.length)
  (hbody:∀(f:Addr) (cdv:Value) (A:Around) (outer:List Env) (s:Shared) (H:Hp) (vs:List V) (Q:VK) (E:XK),Cp k (A.deeper (envOfC qn (Aj st) s.heap.objs.size f cdv))->sp vs H Q E ->
   ∃t,PSs (Kp CX0 P w K mg base N qn (Aj st) f cdv A outer s H E).nox (Cw st) t/\t { nx:=λ_ H'=>Q .non H',rt:=Q } (start N vs) H):TV P w K mg base C m (k+1) ps sp:=by
 obtain⟨f,fd,F,M,b⟩:=c.ex
 exact⟨f,fd,M,b,F.ok S len λcdv A outer s H vs Q E hr h=>hbody f cdv A outer s H vs Q E hr h⟩
theorem G1 {X:Cx} {pl:Sem Bool} {k k':Nat} {C:Addr} {ps:List Str} {sp:Sp} {m:Str} {apos pos:Pos} {o e:Expr} {es:List Expr} {ta:TE} {t:TA} (he:PE X o ta) (c:Cls X.K C) (g:TV X.prog X.w X.K X.mg X.base C m k ps sp) (hr:Cp k' X.A) (ha:PA X (e::es) t) (hk:k<=k':=by decide)
  (hst:starEach (e::es) X.env=(false,eval e X.env)::starEach es X.env:=by rfl) (hpl:(backTo pos (starEach es X.env)).any (·.1)=false:=by rfl)
  (ht:eval (.Call (.Attribute o m apos) (e::es) [] pos) X.env=(do
   let ov <-eval o X.env
   standAt apos.atName
   let (f,first) <-holding [ov] (getMethod ov m pl)
   callWith pos f first (backTo pos (starEach (e::es) X.env)) (backToKw pos (keywordEach [] X.env))):=by rfl) :
  PE X (.Call (.Attribute o m apos) (e::es) [] pos) (V1 C m sp [] E0 ta t):=by
 intro pins s σ H Q I h
 obtain⟨f,fd,M,b,F⟩:=g.ex
 exact rQ (pl:=pl) he c M F (hr.mono hk) b .nil V6 ha hst hpl ht pins s σ H Q I h
theorem vO {X:Cx} {pl:Sem Bool} {k k':Nat} {C:Addr} {ps:List Str} {sp:Sp} {m:Str} {apos pos:Pos} {o:Expr} {ta:TE} (he:PE X o ta) (c:Cls X.K C) (g:TV X.prog X.w X.K X.mg X.base C m k ps sp) (hr:Cp k' X.A) (hk:k<=k':=by decide)
  (ht:eval (.Call (.Attribute o m apos) [] [] pos) X.env=(do
   let ov <-eval o X.env
   standAt apos.atName
   let (f,first) <-holding [ov] (getMethod ov m pl)
   callWith pos f first (backTo pos (starEach [] X.env)) (backToKw pos (keywordEach [] X.env))):=by rfl) :
  PE X (.Call (.Attribute o m apos) [] [] pos) (V1 C m sp [] E0 ta aZ):=by
 intro pins s σ H Q I h
 obtain⟨f,fd,M,b,F⟩:=g.ex
 exact lH (pl:=pl) he c M F (hr.mono hk) b .nil V6 ht pins s σ H Q I h
theorem zf {X:Cx} {k k':Nat} {C:Addr} {ps:List Str} {sp:Sp} {x:Str} {p pos:Pos} {e:Expr} {es:List Expr} {t:TA} (g:dW X.prog X.w X.K X.mg X.base C k ps sp) (hr:Cp k' X.A) (hm:X.mg x=some (.ref C)) (ha:PA X (e::es) t) (hk:k+1<=k':=by decide) (hg:Gl X x:=by rfl)
  (hdb:(x == ("__debug__":Str))=false:=by decide) (he:starEach (e::es) X.env=(false,eval e X.env)::starEach es X.env:=by rfl) (hpl:(backTo pos (starEach es X.env)).any (·.1)=false:=by rfl) :
  PE X (.Call (.Name x p) (e::es) [] pos) (qt C sp [] E0 t):=by
 intro pins s σ H Q I h
 obtain⟨f,fd,M,b,F⟩:=g.ex
 exact rR M F (hr.mono hk) hg hm b .nil V6 ha hdb he hpl pins s σ H Q I h
theorem PL {X:Cx} {x:Str} {v:V} {pos:Pos} (hg:Gl X x) (hm:∃u,X.mg x=some u/\RelV v u) (hd:(x == ("__debug__":Str))=false:=by decide):PE X (.Name x pos) (tC v):=by
 obtain⟨u,h,r⟩:=hm
 exact DK hg h r hd
theorem Yc:∀{fs:List (Str×V)} {i:Nat} {f:Str} {v:V},(fs.map (·.1)).Nodup->fs[i]?=some (f,v)->fs.lookup f=some v
 | [],_,_,_,_,h=>by simp at h
 | (g,u)::fs,0,f,v,_,h=>by simp at h;obtain⟨rfl,rfl⟩:=h;simp[List.lookup]
 | (g,u)::fs,i+1,f,v,hn,h=>by
  rw[QbT,QbE] at hn
  have h':fs[i]?=some (f,v):=by simpa using h
  have hm:f∈fs.map (·.1):=Qca.mpr ⟨(f,v),Qaz h',rfl⟩
  have hne:(f == g)=false:=QaG.mpr λe=>hn.1 (e ▸ hm)
  rw[List.lookup,hne]
  exact Yc hn.2 h'
theorem qO:∀{fs:List (Str×V)} {m:Str},m∉fs.map (·.1)->fs.lookup m=none
 | [],_,_=>rfl
 | (g,u)::fs,m,h=>by
  rw[QbT,QbS] at h
  have hne:(m == g)=false:=QaG.mpr λe=>h (.inl e)
  rw[List.lookup,hne]
  exact qO λz=>h (.inr z)
theorem Qg {y:V}:∀{fs:List (Str×V)} {f:Str},f∉fs.map (·.1)->Gp f y fs=fs++[(f,y)]
 | [],_,_=>rfl
 | (g,u)::fs,f,h=>by
  rw[QbT,QbS] at h
  show (if g=f then (g,y)::fs else (g,u)::Gp f y fs)=_
  rw[if_neg λe=>h (.inl e.symm),Qg λz=>h (.inr z)]
  rfl
def Am (H H':Hp):Prop:=∀c xs,H c=some (.tup xs)->H' c=some (.tup xs)
theorem Am.trans {H H1 H2:Hp} (a:Am H H1) (b:Am H1 H2):Am H H2:=λc xs e=>b c xs (a c xs e)
theorem Am.of {H H1:Hp} (s:Same H H1):Am H H1:=λc xs e=>s c _ e
theorem Am.upd {H:Hp} {b:Addr} {o:HO} (h:∀xs,H b≠some (.tup xs)):Am H (upd H b o):=λc xs e=>by
 have n:c≠b:=λz=>h xs (z ▸ e)
 rw[Al n]
 exact e
def Ah (b:Addr) (H H':Hp):Prop:=∀c o,H c=some o->c≠b->H' c=some o
theorem Ah.trans {b:Addr} {H H1 H2:Hp} (x:Ah b H H1) (y:Ah b H1 H2):Ah b H H2:=λc o e n=>y c o (x c o e n) n
theorem Ah.of {b:Addr} {H H1:Hp} (x:Same H H1):Ah b H H1:=λc o e _=>x c o e
theorem Ah.refl (b:Addr) (H:Hp):Ah b H H:=λ_ _ e _=>e
theorem Ah.upd {b:Addr} {H:Hp} {o:HO}:Ah b H (upd H b o):=λc u e n=>by rw[Al n];exact e
theorem Ah.tup {b:Addr} {H H':Hp} (x:Ah b H H') (h:∀xs,H b≠some (.tup xs)):Am H H':=λc xs e=>x c _ e λz=>h xs (z ▸ e)
theorem Ah.free {b:Addr} {H H':Hp} (x:Ah b H H') (hb:∃o,H' b=some o) {l:Addr} (h:H' l=none):H l=none:=by
 cases e:H l with
 | none=>rfl
 | some o=>
  by_cases n:l=b
  ·obtain⟨o',e'⟩:=hb
   rw[n,e'] at h
   cases h
  ·rw[x l o e n] at h
   cases h
def yX (K:PySem.W.Frag) (ta tv:TE) (f:Str):TS:=λD σ H=>tv σ H λy H1=>ta σ H1 λx H2=>∃a C dx fs fs',x=.ref a/\H2 a=some (.ins C dx fs)/\Cls K C/\Hw K C f/\fs.length < 1000/\Gp f y fs=fs' /\
 ∀H',H' a=some (.ins C dx fs')->Ah a H2 H'->D.nx σ H'
section
variable {X:Cx} {o e value:Expr} {f:Str} {pos pos' tpos:Pos} {ta tv:TE}
theorem QC (ha:PE X o ta) (hv:PE X value tv) (hs:swapsWith value (some (.Attribute o f pos')) pos.line X.env=pure false):PS X (.Assign [.Attribute o f pos'] value pos) (yX X.K ta tv f):=by
 intro pins s σ H D I h
 refine plainObj_wpAny_Assign_Attribute (thn (hv pins s σ H _ I h) λu s1 ⟨y,H1,I1,ry,q⟩=>thn (ha pins s1 σ H1 _ I1 q) λov s2 ⟨x,H2,I2,rx,a,C,dx,fs,fs',ex,ea,c,n,l,ep,q2⟩=>?_) hs
 subst ex
 obtain rfl:ov=Value.ref a:=rx
 refine bD I2 ea c n l ry λs3 I3=>⟨σ,_,I3,q2 _ ?_ Ah.upd⟩
 rw[Ac,ep]
end
theorem PS.weak {X:Cx} {s:Stmt} {t t':TS} (h:PS X s t) (i:∀D σ H,t' D σ H->t D σ H):PS X s t':=λpins sh σ H D I q=>h pins sh σ H D I (i D σ H q)
section
variable {X:Cx} {K:PySem.W.Frag}
theorem Z9 (h:X.K=K):IxR X (vK K):=h ▸ Cm
theorem S5 (h:X.K=K):OpR X (compareOp .In) (rIn K false):=h ▸ PX
theorem O2 (h:X.K=K):OpR X (compareOp .NotIn) (rIn K true):=h ▸ Xm
end
end L2
namespace PySem
open Sem (wp)
section
variable {prog:Program} {w:World} {A:Around} {E:Value->Shared->Prop} {s:Shared}
end
end PySem
namespace L2
open PySem PySem.Spec PyProof.Rows
section
variable {X:Cx} {pos:Pos}
end
structure Has (H:Hp) (l:List (Addr×HO)):Prop where
 nd:(l.map (·.1)).Nodup
 at_:∀x∈l,H x.1=some x.2
theorem Has.zx {H:Hp} {l:List (Addr×HO)} {a:Addr} (h:Has H l) (e:H a=none):a∉l.map (·.1):=λz=>by
 obtain⟨x,hx,rfl⟩:=Qca.mp z
 rw[h.at_ x hx] at e
 cases e
theorem Has.new {H H':Hp} {l:List (Addr×HO)} {a:Addr} {o:HO} (h:Has H l) (n:H a=none) (s:Same H H') (e:H' a=some o):Has H' (l++[(a,o)]):=by
 refine⟨?_,λx hx=>?_⟩
 ·rw[Qby,Qbn]
  refine⟨h.nd,by simp,λx hx y hy z=>?_⟩
  have:y=a:=by simpa using hy
  subst this
  exact h.zx n (z ▸ hx)
 ·rcases Qbz.mp hx with z | z
  ·exact s _ _ (h.at_ x z)
  ·have:x=(a,o):=by simpa using z
   subst this
   exact e
theorem Has.nil (H:Hp):Has H []:=⟨QbO,λx hx=>by cases hx⟩
theorem Same.Bt {H0 H H':Hp} {a:Addr} (s:Same H0 H) (b:Ah a H H') (f:H0 a=none):Same H0 H':=λc o e=>b _ _ (s _ _ e) λz=>by rw[z,f] at e;cases e
section
variable {κ : Type} [DecidableEq κ]
def DY (kvs:List (κ×V)) (k:κ):Option V:=(kvs.find? λkv=>decide (kv.1=k)).map (·.2)
def putK (kvs:List (κ×V)) (k:κ) (v:V):List (κ×V):=
 if (kvs.any λkv=>decide (kv.1=k))=true then kvs.map (λkv=>if kv.1=k then (kv.1,v) else kv) else kvs++[(k,v)]
theorem NK {p:κ×V} {r:List (κ×V)} {k:κ} (e:p.1=k):DY (p::r) k=some p.2:=by simp[DY,QbL,e]
theorem Jj {p:κ×V} {r:List (κ×V)} {k:κ} (e:¬p.1=k):DY (p::r) k=DY r k:=by simp[DY,QbL,e]
theorem Jk (k:κ):∀kvs:List (κ×V),(kvs.any λkv=>decide (kv.1=k))=(DY kvs k).isSome
 | []=>rfl
 | p::r=>by
  rw[QbZ]
  by_cases e:p.1=k
  ·simp only[NK e,QbM e,Bool.true_or,Option.isSome_some]
  ·rw[Jj e,QbC e,Bool.false_or];exact Jk k r
theorem Ht (kvs:List (κ×V)) (k:κ) (v:V):(putK kvs k v).length<=kvs.length+1:=by
 unfold putK
 split
 ·rw[Qbx];omega
 ·rw[QaM,Qbq,List.length_nil];omega
theorem Ld {kvs:List (κ×V)} {k:κ} (v:V) (h:DY kvs k=none):putK kvs k v=kvs++[(k,v)]:=by
 unfold putK
 rw[Jk,h]
 exact if_neg (by decide)
theorem Gs.Kf {o:Option V} {u:Option Value} (r:Gs o u):o.isSome=u.isSome:=by
 cases o with
 | none=>cases u with
  | none=>rfl
  | some _=>exact (show False from r).elim
 | some _=>cases u with
  | none=>exact (show False from r).elim
  | some _=>rfl
theorem Gs.getD {o:Option V} {u:Option Value} {d:V} {d':Value} (r:Gs o u) (rd:RelV d d'):RelV (o.getD d) (u.getD d'):=by
 cases o with
 | none=>cases u with
  | none=>exact rd
  | some _=>exact (show False from r).elim
 | some _=>cases u with
  | none=>exact (show False from r).elim
  | some _=>exact r
theorem KV.val {kvs:List (κ×V)} {vs:List (κ×Value)} (r:KV kvs vs) (k:κ):Gs (DY kvs k) (valueAt vs k):=by
 unfold KV at r
 induction r with
 | nil=>exact True.intro
 | @cons p q ps qs h t ih=>
  obtain⟨h1,h2⟩:=h
  by_cases e:p.1=k
  ·have e':q.1=k:=h1.symm.trans e
   have b:valueAt (q::qs) k=some q.2:=by simp[valueAt,QbL,e']
   rw[NK e,b];exact h2
  ·have e':¬q.1=k:=λz=>e (h1.trans z)
   have b:valueAt (q::qs) k=valueAt qs k:=by simp[valueAt,QbL,e']
   rw[Jj e,b];exact ih
theorem KV.any {kvs:List (κ×V)} {vs:List (κ×Value)} (r:KV kvs vs) (k:κ):(kvs.any λkv=>decide (kv.1=k))=vs.any λkv=>decide (kv.1=k):=by
 unfold KV at r
 induction r with
 | nil=>rfl
 | cons h t ih=>rw[QbZ,QbZ,ih,h.1]
theorem KV.repl {kvs:List (κ×V)} {vs:List (κ×Value)} (r:KV kvs vs) (k:κ) {y:V} {u:Value} (ry:RelV y u) :
  KV (kvs.map λkv=>if kv.1=k then (kv.1,y) else kv) (vs.map λkv=>if kv.1=k then (kv.1,u) else kv):=by
 unfold KV at r ⊢
 induction r with
 | nil=>exact .nil
 | @cons p q ps qs h t ih=>
  rw[QbT,QbT]
  refine .cons ?_ ih
  obtain⟨h1,h2⟩:=h
  by_cases e:p.1=k
  ·rw[if_pos e,if_pos (h1.symm.trans e)];exact⟨h1,ry⟩
  ·rw[if_neg e,if_neg (λz=>e (h1.trans z))];exact⟨h1,h2⟩
theorem KV.put {kvs:List (κ×V)} {vs:List (κ×Value)} (r:KV kvs vs) (k:κ) {y:V} {u:Value} (ry:RelV y u):KV (putK kvs k y) (stored vs k u):=by
 unfold putK stored
 rw[r.any k]
 by_cases e:(vs.any λkv=>decide (kv.1=k))=true
 ·rw[if_pos e,if_pos e];exact r.repl k ry
 ·rw[if_neg e,if_neg e];exact Qck r ⟨rfl,ry⟩
theorem KV.keys {kvs:List (κ×V)} {vs:List (κ×Value)} (r:KV kvs vs):kvs.map (·.1)=vs.map (·.1):=by
 unfold KV at r
 induction r with
 | nil=>rfl
 | cons h t ih=>rw[QbT,QbT,ih,h.1]
theorem KV.length {kvs:List (κ×V)} {vs:List (κ×Value)} (r:KV kvs vs):kvs.length=vs.length:=QbR r
end
theorem QG {P:Program} {w:World} {k:Key} {u:Value} (r:RelV (kV k) u):(Bu P w).is k u=true:=by
 cases k with
 | inl i=>obtain⟨t,e⟩:=(show ∃t,u=Value.int i t from r);subst e;exact YW P w i t
 | inr x=>obtain⟨t,e⟩:=(show ∃t,u=Value.str x t from r);subst e;exact YT P w x t
theorem Vi {P:Program} {w:World}:∀{ks:List Key} {us:List Value},Vals (ks.map kV) us->ItemsAre (Bu P w) ks us
 | [],_,r=>by rw[List.map_nil] at r;cases r;exact .nil
 | k::ks,_,r=>by
  rw[QbT] at r
  cases r with
  | cons h t=>exact .cons (QG h) (Vi t)
abbrev KT (H:Hp):List (List Key×V)->List (List Key×Addr×Value)->Prop:=Paired λp q=>p.1=q.1/\H q.2.1=some (.tup (p.1.map kV))/\RelV p.2 q.2.2
theorem KT.val {H:Hp} {kvs:List (List Key×V)} {xs:List (List Key×Addr×Value)} (r:KT H kvs xs) (k:List Key):Gs (DY kvs k) ((atKey xs k).map (·.2)):=by
 induction r with
 | nil=>exact True.intro
 | @cons p q ps qs h t ih=>
  obtain⟨h1,_,h2⟩:=h
  by_cases e:p.1=k
  ·have e':q.1=k:=h1.symm.trans e
   have b:atKey (q::qs) k=some q.2:=by simp[atKey,QbL,e']
   rw[NK e,b];exact h2
  ·have e':¬q.1=k:=λz=>e (h1.trans z)
   have b:atKey (q::qs) k=atKey qs k:=by simp[atKey,QbL,e']
   rw[Jj e,b];exact ih
theorem KT.repl {H:Hp} {kvs:List (List Key×V)} {xs:List (List Key×Addr×Value)} (r:KT H kvs xs) (k:List Key) {y:V} {u:Value} (ry:RelV y u) :
  KT H (kvs.map λkv=>if kv.1=k then (kv.1,y) else kv) (xs.map (putAt k u)):=by
 induction r with
 | nil=>exact .nil
 | @cons p q ps qs h t ih=>
  rw[QbT,QbT]
  refine .cons ?_ ih
  obtain⟨h1,h2,h3⟩:=h
  unfold putAt
  by_cases e:p.1=k
  ·rw[if_pos e,if_pos (h1.symm.trans e)];exact⟨h1,h2,ry⟩
  ·rw[if_neg e,if_neg (λz=>e (h1.trans z))];exact⟨h1,h2,h3⟩
theorem KT.put {H:Hp} {kvs:List (List Key×V)} {xs:List (List Key×Addr×Value)} (r:KT H kvs xs) (k:List Key) {b:Addr} {y:V} {u:Value} (hb:H b=some (.tup (k.map kV))) (ry:RelV y u) :
  KT H (putK kvs k y) (storedH xs k b u):=by
 have e:(kvs.any λkv=>decide (kv.1=k))=(atKey xs k).isSome:=by
  rw[Jk,(r.val k).Kf,Option.isSome_map]
 unfold putK storedH
 rw[e]
 by_cases q:(atKey xs k).isSome=true
 ·rw[if_pos q,if_pos q];exact r.repl k ry
 ·rw[if_neg q,if_neg q];exact Qck r ⟨rfl,hb,ry⟩
theorem KT.keeps {H H':Hp} {kvs:List (List Key×V)} {xs:List (List Key×Addr×Value)} (r:KT H kvs xs) (ht:∀b ys,H b=some (.tup ys)->H' b=some (.tup ys)):KT H' kvs xs:=
 Paired.Az r λ_ _ z=>⟨z.1,ht _ _ z.2.1,z.2.2⟩
section
variable {P:Program} {w:World} {H:Hp} {h:Heap} {a:Addr}
theorem qD {u:HO} (ok:HOk P w H h) (e:Rd H a u):Bm P w H h a u:=e.ok ok
theorem Oq {kvs:List (Key×V)} (ok:HOk P w H h) (e:Rd H a (.dK kvs)):kvs.length<=sizeLine/\(a == sysModules)=false/\∃vs,KV kvs vs/\h.DictOf (Bu P w) a vs:=
 show Bm P w H h a (.dK kvs) from qD ok e
theorem qR {kvs:List (Key×V)} (ok:HOk P w H h) (e:H a=some (.dK kvs)):kvs.length<=sizeLine/\(a == sysModules)=false/\∃vs,KV kvs vs/\h.DictOf (Bu P w) a vs:=Oq ok (.inl e)
theorem Je {ks:List Key} (ok:HOk P w H h) (e:H a=some (.tup (ks.map kV))):(tupleKind (Bu P w)).is h ks a:=by
 obtain⟨_,its,r,o,h1,h2,n,h3⟩:=(show Bm P w H h a (.tup (ks.map kV)) from ok a _ e)
 exact⟨o,its.toArray,n,h1,h2,h3,by simpa using Vi r⟩
theorem QM {kvs:List (List Key×V)} (ok:HOk P w H h) (e:Rd H a (.dT kvs)):kvs.length<=sizeLine/\(a == sysModules)=false /\
  ∃xs,KT H kvs xs/\h.DictOfH (tupleKind (Bu P w)) a xs:=by
 obtain⟨z,y,xs,r,o,es,ep,h1,h2,h3,h4,h5⟩:=(show Bm P w H h a (.dT kvs) from qD ok e)
 refine⟨z,y,xs,r,o,es,ep,h1,h2,h3,h4,λx hx=>?_,h5⟩
 have all:∀{l:List (List Key×V)} {m:List (List Key×Addr×Value)},KT H l m->∀x∈m,(tupleKind (Bu P w)).is h x.1 x.2.1:=by
  intro l m q
  induction q with
  | nil=>intro x hx;exact nomatch hx
  | @cons p q ps qs hq t ih=>
   intro x hx
   rcases QbS.mp hx with e | hx
   ·subst e
    exact Je ok (by rw[<-hq.1];exact hq.2.1)
   ·exact ih x hx
 exact all r x hx
theorem qP {kvs:List (List Key×V)} (ok:HOk P w H h) (e:H a=some (.dT kvs)):kvs.length<=sizeLine/\(a == sysModules)=false /\
  ∃xs,KT H kvs xs/\h.DictOfH (tupleKind (Bu P w)) a xs:=QM ok (.inl e)
end
def Gf (H:Hp) (a:Addr) (y:V) (r:Option V):Prop:=
 (∃kvs k,Rd H a (.dK kvs)/\y=kV k/\r=DY kvs k)\/∃kvs k b,Rd H a (.dT kvs)/\y=.ref b/\H b=some (.tup (k.map kV))/\r=DY kvs k
def Gu (H:Hp) (a:Addr) (y v:V) (H':Hp):Prop:=
 (∃kvs k,H a=some (.dK kvs)/\y=kV k/\kvs.length < sizeLine/\H'=upd H a (.dK (putK kvs k v))) \/
 ∃kvs k b,H a=some (.dT kvs)/\y=.ref b/\H b=some (.tup (k.map kV))/\kvs.length < sizeLine/\H'=upd H a (.dT (putK kvs k v))
theorem Gf.k {H:Hp} {a:Addr} {kvs:List (Key×V)} {k:Key} (e:H a=some (.dK kvs)):Gf H a (kV k) (DY kvs k):=.inl ⟨kvs,k,.inl e,rfl,rfl⟩
theorem Gf.t {H:Hp} {a b:Addr} {kvs:List (List Key×V)} {k:List Key} (e:H a=some (.dT kvs)) (eb:H b=some (.tup (k.map kV))):Gf H a (.ref b) (DY kvs k):=.inr ⟨kvs,k,b,.inl e,rfl,eb,rfl⟩
theorem Gu.k {H:Hp} {a:Addr} {kvs:List (Key×V)} {k:Key} {v:V} (e:H a=some (.dK kvs)) (hl:kvs.length < sizeLine):Gu H a (kV k) v (upd H a (.dK (putK kvs k v))):=.inl ⟨kvs,k,e,rfl,hl,rfl⟩
theorem Gu.t {H:Hp} {a b:Addr} {kvs:List (List Key×V)} {k:List Key} {v:V} (e:H a=some (.dT kvs)) (eb:H b=some (.tup (k.map kV))) (hl:kvs.length < sizeLine) :
  Gu H a (.ref b) v (upd H a (.dT (putK kvs k v))):=.inr ⟨kvs,k,b,e,rfl,eb,hl,rfl⟩
section
variable {X:Cx} {pins:List (Addr×Obj)} {σ : St} {H:Hp} {s:Shared} {a:Addr} {y v:V} {u r:Value} {o:Option V} {A:Around} {E:Value->Shared->Prop}
theorem Inv.big (I:Inv X pins σ H s):sysModules < s.heap.objs.size:=by
 have h:mainGlobals < s.heap.objs.size:=(I.mod.glob.keeps I.bk).lt
 exact Nat.lt_trans (by decide) h
theorem jr {Q:Value->Shared->Prop} (hu:A.units+1 < cLine) (I:Inv X pins σ H s) (g:Gf H a y (some v)) (ry:RelV y u) (h:∀w' s',Inv X pins σ H s'->RelV v w'->Q w' s') :
  wpAny (model X.prog X.w) A (getItem (.ref a) u) Q E s:=by
 rcases g with⟨kvs,k,e,ey,l⟩|⟨kvs,k,b,e,ey,eb,l⟩
 ·subst ey
  obtain⟨z,hd,vs,rel,dd⟩:=Oq I.hok e
  obtain⟨w',hw,rw'⟩:=Gs.some_of (v:=v) (o:=valueAt vs k) (by rw[l];exact rel.val k)
  exact wpAny_getItem_of (QG ry) dd.mapOf hw (h w' _ (I.tok _) rw')
 ·subst ey
  cases (show u=Value.ref b from ry)
  obtain⟨z,hd,xs,rel,dd⟩:=QM I.hok e
  obtain⟨w',hw,rw'⟩:=Gs.some_of (v:=v) (o:=(atKey xs k).map (·.2)) (by rw[l];exact rel.val k)
  obtain⟨p,hp,hp2⟩:=Qau.mp hw
  refine wpAny_getItem_heap (QaZ hu) (Je I.hok eb) dd hp ?_
  rw[hp2]
  exact h w' _ (I.tok _) rw'
theorem EM {Q:Value->Shared->Prop} (hu:A.units+1 < cLine) (I:Inv X pins σ H s) (g:Gf H a y o) (ry:RelV y u) (h:∀s',Inv X pins σ H s'->Q (.bool o.isSome) s') :
  wpAny (model X.prog X.w) A (compareOp .In u (.ref a)) Q E s:=by
 rcases g with⟨kvs,k,e,ey,l⟩|⟨kvs,k,b,e,ey,eb,l⟩
 ·subst ey
  obtain⟨z,hd,vs,rel,dd⟩:=Oq I.hok e
  refine wpAny_in_of (QG ry) hd dd.mapOf ?_
  rw[<-(rel.val k).Kf,<-l]
  exact h _ (I.tok _)
 ·subst ey
  cases (show u=Value.ref b from ry)
  obtain⟨z,hd,xs,rel,dd⟩:=QM I.hok e
  refine wpAny_in_heap (QaZ hu) (Je I.hok eb) hd dd ?_
  have q:=(rel.val k).Kf
  rw[Option.isSome_map] at q
  rw[<-q,<-l]
  exact h _ (I.tok _)
theorem uq {Q:Value->Shared->Prop} (hu:A.units+1 < cLine) (I:Inv X pins σ H s) (g:Gf H a y o) (ry:RelV y u) (h:∀s',Inv X pins σ H s'->Q (.bool (!o.isSome)) s') :
  wpAny (model X.prog X.w) A (compareOp .NotIn u (.ref a)) Q E s:=by
 rcases g with⟨kvs,k,e,ey,l⟩|⟨kvs,k,b,e,ey,eb,l⟩
 ·subst ey
  obtain⟨z,hd,vs,rel,dd⟩:=Oq I.hok e
  refine wpAny_notIn_of (QG ry) hd dd.mapOf ?_
  rw[<-(rel.val k).Kf,<-l]
  exact h _ (I.tok _)
 ·subst ey
  cases (show u=Value.ref b from ry)
  obtain⟨z,hd,xs,rel,dd⟩:=QM I.hok e
  refine wpAny_notIn_heap (QaZ hu) (Je I.hok eb) hd dd ?_
  have q:=(rel.val k).Kf
  rw[Option.isSome_map] at q
  rw[<-q,<-l]
  exact h _ (I.tok _)
theorem Ny {h':Heap} {t':Nat} {ob:HO} (I:Inv X pins σ H s) (mu:Mut (H a)) (hs:Heap.SameBut a s.heap h') (he:∃q,h'.get? a=some q) (new:Bm X.prog X.w (upd H a ob) h' a ob) :
  Inv X pins σ (upd H a ob) { s with heap:=h',toks:=t' }:=
 I.write (x:=a) (e:=a) mu (.inl rfl) (λb q hb z=>(hs.2 b hb).trans z) he new
theorem jk {P:Program} {w:World} {H':Hp} {h':Heap} {kvs:List (Key×V)} {vs:List (Key×Value)} (z:kvs.length<=sizeLine) (hd:(a == sysModules)=false) (rel:KV kvs vs) (dd:h'.DictOf (Bu P w) a vs) :
  Bm P w H' h' a (.dK kvs):=⟨z,hd,vs,rel,dd⟩
theorem jq {H':Hp} {Q:Unit->Shared->Prop} (hu:A.units+1 < cLine) (I:Inv X pins σ H s) (g:Gu H a y v H') (ry:RelV y u) (rv:RelV v r) (h:∀s',Inv X pins σ H' s'->Q () s') :
  wpAny (model X.prog X.w) A (setItem (.ref a) u r) Q E s:=by
 rcases g with⟨kvs,k,e,ey,l,eH⟩|⟨kvs,k,b,e,ey,eb,l,eH⟩
 ·subst ey eH
  obtain⟨z,hd,vs,rel,dd⟩:=qR I.hok e
  have hz:vs.length<=sizeLine:=by rw[<-rel.length];exact z
  have hl:(putK kvs k v).length<=sizeLine:=by have:=Ht kvs k v;omega
  refine wpAny_setItem_pairs (hsz:=hz) (QG ry) dd λh' dd' hs=>h _ ?_
  have he:∃q,h'.get? a=some q:=let ⟨q,_,_,hq,_⟩:=dd';⟨q,hq⟩
  exact Ny I (by rw[e];exact True.intro) hs he (jk hl hd (rel.put k rv) dd')
 ·subst ey eH
  cases (show u=Value.ref b from ry)
  obtain⟨z,hd,xs,rel,dd⟩:=qP I.hok e
  have hz:xs.length<=sizeLine:=by rw[<-QbR rel];exact z
  have hl:(putK kvs k v).length<=sizeLine:=by have:=Ht kvs k v;omega
  refine wpAny_setItem_heap (hsz:=hz) (QaZ hu) (Je I.hok eb) dd λh' dd' hs=>h _ ?_
  obtain⟨q,es,ep,hq,h2,h3,h4,_,h5⟩:=dd'
  refine Ny I (by rw[e];exact True.intro) hs ⟨q,hq⟩ ⟨hl,hd,_,(rel.put k eb rv).keeps λc ys ec=>?_,q,es,ep,hq,h2,h3,h4,h5⟩
  rw[Al (cg ec e (λz=>nomatch z))]
  exact ec
end
section
variable {X:Cx} {pins:List (Addr×Obj)} {σ : St} {H:Hp} {s:Shared} {a:Addr} {kvs:List (Key×V)} {k:Key} {u:Value} {A:Around} {E:Value->Shared->Prop}
theorem zN {Q:Value->Shared->Prop} (I:Inv X pins σ H s) (e:Rd H a (.dK kvs)) (h:∀t s',Inv X pins σ H s'->Q (.int kvs.length t) s'):wpAny (model X.prog X.w) A (call (.builtin "len") [.ref a]) Q E s:=by
 obtain⟨z,hd,vs,rel,dd⟩:=Oq I.hok e
 refine call_len_dict hd dd (by rw[<-rel.length];rw[Qcm] at z;omega) ?_
 rw[<-rel.length]
 exact h _ _ (I.tok _)
end
def yI (i:Expr):Prop:=∀ov iv,subscripted i false ov iv=operate [ov,iv] (getItem ov iv)
theorem rB {prog:Program} {w:World} {A:Around} {E:Value->Shared->Prop} {s:Shared} {env:Env} {value slice:Expr} {pos:Pos} {T id:String} {Q:Value->Shared->Prop}
  (hl:typeLookup (.type T) "__getitem__"=pure (some (.builtin id))) (hs:yI slice)
  (h:wpAny (model prog w) A (eval value env) (λo s₁=>wpAny (model prog w) A (eval slice env) (λi s₂=>s₂.TypeIs o T/\wpAny (model prog w) A (getItem o i) Q E s₂) E s₁) E s) :
  wpAny (model prog w) A (eval (.Subscript value slice pos) env) Q E s:=by
 refine Subscript_ (Qcp h (λo s₁ h₁=>Qcp h₁ (λi s₂ h₂=>?_) λ_ _ x=>x) λ_ _ x=>x)
 obtain⟨hT,h₂⟩:=h₂
 unfold subscriptTail
 refine Qcn ?_
 rw[getitemInPython_of_ne hT.not_modules]
 refine Qcn (wpAny_specialOf hT hl ?_)
 have fin:wpAny (model prog w) A (subscripted slice false o i) (λr s₃=>wpAny (model prog w) A (letTemporaryGo value o r >>= λ_=>pure r) Q E s₃) E s₂:=by
  rw[hs o i]
  exact wpAny_operating (Qcp h₂ (λr s₃ h₃=>Qcn (wpAny_letTemporaryGo (Qco h₃))) λ_ _ x=>x)
 first
  | exact Qco (Qcn fin)
  | exact Qcn (Qco (Qcn fin))
  | exact Qcn fin
theorem Za {X:Cx} {pins:List (Addr×Obj)} {σ : St} {H:Hp} {s:Shared} {a:Addr} {y:V} {o:Option V} (I:Inv X pins σ H s) (g:Gf H a y o):s.TypeIs (.ref a) "dict":=by
 rcases g with⟨kvs,k,e,_,_⟩|⟨kvs,k,b,e,_,_,_⟩
 ·obtain⟨_,_,vs,_,dd⟩:=Oq I.hok e
  exact dd.typeIs
 ·obtain⟨_,_,xs,_,dd⟩:=QM I.hok e
  exact dd.typeIs
def yU (td ty:TE):TE:=fun σ H Q=>td σ H λx H1=>ty σ H1 λy H2=>∃a v,x=.ref a/\Gf H2 a y (some v)/\Q v H2
def AD (ty td:TE):TE:=fun σ H Q=>ty σ H λy H1=>td σ H1 λx H2=>∃a o,x=.ref a/\Gf H2 a y o/\Q (.bl o.isSome) H2
def rA (ty td:TE):TE:=fun σ H Q=>ty σ H λy H1=>td σ H1 λx H2=>∃a o,x=.ref a/\Gf H2 a y o/\Q (.bl (!o.isSome)) H2
def yZ (td ty tv:TE):TS:=λD σ H=>tv σ H λv H1=>td σ H1 λx H2=>ty σ H2 λy H3=>∃a H4,x=.ref a/\Gu H3 a y v H4/\D.nx σ H4
section
variable {X:Cx} {o i e value:Expr} {pos pos' tpos:Pos} {td ty tv:TE}
theorem Uk (hu:X.A.units+1 < cLine) (ho:PE X o td) (hi:PE X i ty) (hs:yI i):PE X (.Subscript o i pos) (yU td ty):=by
 intro pins s σ H Q I h
 refine rB PySem.F.slot_dict_getitem.lookup hs (thn (ho pins s σ H _ I h) λu s1 ⟨x,H1,I1,rx,q1⟩=>thn (hi pins s1 σ H1 _ I1 q1) λiv s2 ⟨y,H2,I2,ry,a,v,ex,g,q2⟩=>?_)
 subst ex
 obtain rfl:u=Value.ref a:=rx
 exact⟨Za I2 g,jr hu I2 g ry λw' s3 I3 rw'=>⟨v,H2,I3,rw',q2⟩⟩
theorem gA (hu:X.A.units+1 < cLine) (hi:PE X i ty) (ho:PE X o td):PC X .In i o (AD ty td):=by
 intro pins s σ H Q I h
 refine thn (hi pins s σ H _ I h) λiv s1 ⟨y,H1,I1,ry,q1⟩=>thn (ho pins s1 σ H1 _ I1 q1) λu s2 ⟨x,H2,I2,rx,a,ov,ex,g,q2⟩=>?_
 subst ex
 obtain rfl:u=Value.ref a:=rx
 exact EM hu I2 g ry λs3 I3=>⟨.bl ov.isSome,H2,I3,rfl,q2⟩
theorem PN (hu:X.A.units+1 < cLine) (hi:PE X i ty) (ho:PE X o td):PC X .NotIn i o (rA ty td):=by
 intro pins s σ H Q I h
 refine thn (hi pins s σ H _ I h) λiv s1 ⟨y,H1,I1,ry,q1⟩=>thn (ho pins s1 σ H1 _ I1 q1) λu s2 ⟨x,H2,I2,rx,a,ov,ex,g,q2⟩=>?_
 subst ex
 obtain rfl:u=Value.ref a:=rx
 exact uq hu I2 g ry λs3 I3=>⟨.bl (!ov.isSome),H2,I3,rfl,q2⟩
theorem Ei (hu:X.A.units+1 < cLine) (ho:PE X o td) (hi:PE X i ty) (hv:PE X value tv) (hs:swapsWith value (some (.Subscript o i pos')) pos.line X.env=pure false) :
  PS X (.Assign [.Subscript o i pos'] value pos) (yZ td ty tv):=by
 intro pins s σ H D I h
 refine wpAny_Assign_Subscript (thn (hv pins s σ H _ I h) λr s1 ⟨v,H1,I1,rv,q1⟩=>thn (ho pins s1 σ H1 _ I1 q1) λu s2 ⟨x,H2,I2,rx,q2⟩=>thn (hi pins s2 σ H2 _ I2 q2) λiv s3 ⟨y,H3,I3,ry,a,H4,ex,g,q3⟩=>?_) hs
 subst ex
 obtain rfl:u=Value.ref a:=rx
 exact jq hu I3 g ry rv λs4 I4=>⟨σ,H4,I4,q3⟩
end
theorem Yi {P:Program} {w:World} {H:Hp} (h:Heap) (hb:sysModules < h.objs.size):Bm P w H (h.push { cls:=.type "dict",data:=.dict #[] }) h.objs.size (.dK []):=
 ⟨Qcj _,QaG.mpr (Ne.symm (Qcc hb)),[],.nil,Heap.DictOf.new h⟩
theorem Yh {P:Program} {w:World} {H:Hp} (h:Heap) (hb:sysModules < h.objs.size):Bm P w H (h.push { cls:=.type "dict",data:=.dict #[] }) h.objs.size (.dT []):=
 ⟨Qcj _,QaG.mpr (Ne.symm (Qcc hb)),[],.nil,_,#[],0,QaF _ rfl,⟨rfl,rfl,rfl⟩,rfl,rfl,QbO⟩
def vd:TE:=λ_ H Q=>∀p,H p=none->Q (.ref p) (upd H p (.dK []))
def uZ:TE:=λ_ H Q=>∀p,H p=none->Q (.ref p) (upd H p (.dT []))
section
variable {X:Cx} {pos:Pos}
theorem Xk:PE X (.Dict [] [] pos) vd:=λpins s σ H Q I h=>
 wpAny_Dict_empty ⟨.ref s.heap.objs.size,_,I.laid (a:=s.heap.objs.size) (o:=.dK []) (t':=s.toks) (λ_ _ q=>Qat _ q) (Qci _) (Yi s.heap I.big),rfl,h _ (I.hok.fresh (Qci _))⟩
theorem lK:PE X (.Dict [] [] pos) uZ:=λpins s σ H Q I h=>
 wpAny_Dict_empty ⟨.ref s.heap.objs.size,_,I.laid (a:=s.heap.objs.size) (o:=.dT []) (t':=s.toks) (λ_ _ q=>Qat _ q) (Qci _) (Yh s.heap I.big),rfl,h _ (I.hok.fresh (Qci _))⟩
end
structure M1 (X:Cx) (o:Expr) (m:Str) (apos:Pos) (e:Expr) (cpos:Pos):Prop where
 base:attributeBase o m X.env (eval o X.env)=eval o X.env
 few:((backTo cpos (starEach [e] X.env)).all (λx=>!x.1)&&(backToKw cpos (keywordEach [] X.env)).all (λx=>x.1.isSome)
 &&decide (([e]:List Expr).length+([]:List Keyword).length+(if ([]:List Keyword).isEmpty then 0 else 1) < 30))=true
 line:(apos.endLine == cpos.line)=true
 trees:backTo cpos (starEach [e] X.env)=[(false,eval e X.env)]
structure M2 (X:Cx) (o:Expr) (m:Str) (apos:Pos) (e f:Expr) (cpos:Pos):Prop where
 base:attributeBase o m X.env (eval o X.env)=eval o X.env
 few:((backTo cpos (starEach [e,f] X.env)).all (λx=>!x.1)&&(backToKw cpos (keywordEach [] X.env)).all (λx=>x.1.isSome)
 &&decide (([e,f]:List Expr).length+([]:List Keyword).length+(if ([]:List Keyword).isEmpty then 0 else 1) < 30))=true
 line:(apos.endLine == cpos.line)=true
 trees:backTo cpos (starEach [e,f] X.env)=[(false,eval e X.env),(false,eval f X.env)]
def IsD (H:Hp) (a:Addr):Prop:=(∃kvs,Rd H a (.dK kvs))\/∃kvs,Rd H a (.dT kvs)
theorem iG {X:Cx} {pins:List (Addr×Obj)} {σ : St} {H:Hp} {s:Shared} {a:Addr} (I:Inv X pins σ H s) (d:IsD H a) :
  s.TypeIs (.ref a) "dict"/\(∀b,Value.ref a=.ref b->∃ob,s.heap.get? b=some ob/\ob.dict=none)/\(a == sysModules)=false:=by
 rcases d with⟨kvs,e⟩|⟨kvs,e⟩
 ·obtain⟨_,hd,vs,_,dd⟩:=Oq I.hok e
  refine⟨dd.typeIs,λb q=>?_,hd⟩
  cases q
  obtain⟨ob,_,_,h1,h2,_⟩:=dd
  exact⟨ob,h1,h2.2.1⟩
 ·obtain⟨_,hd,xs,_,dd⟩:=QM I.hok e
  refine⟨dd.typeIs,λb q=>?_,hd⟩
  cases q
  obtain⟨ob,_,_,h1,h2,_⟩:=dd
  exact⟨ob,h1,h2.2.1⟩
section
variable {X:Cx} {pins:List (Addr×Obj)} {σ : St} {H:Hp} {s:Shared} {a:Addr} {y d:V} {u r:Value} {o:Option V} {A:Around} {E:Value->Shared->Prop}
end
section
variable {X:Cx} {o e f:Expr} {apos cpos:Pos} {td ty tx:TE}
end
section
variable {X:Cx} {pins:List (Addr×Obj)} {σ : St} {H:Hp} {s:Shared} {a:Addr} {kvs:List (Key×V)} {A:Around} {E:Value->Shared->Prop}
end
section
variable {X:Cx} {pins:List (Addr×Obj)} {σ : St} {H:Hp} {s:Shared} {a:Addr} {y:V} {u:Value} {A:Around} {E:Value->Shared->Prop}
end
section
variable {X:Cx}
theorem jA:Dy X (.builtin "len") (λxs H Q=>∃a kvs,xs=[V.ref a]/\H a=some (.dK kvs)/\Q (.int kvs.length) H):=by
 intro pins s σ H xs us Q I r h
 obtain⟨a,kvs,rfl,ha,q⟩:=h
 obtain⟨u,rfl,ru⟩:=vals1 r
 cases ru
 exact zN I (.inl ha) λt s' I'=>⟨.int kvs.length,H,I',⟨t,rfl⟩,q⟩
end
section
variable {κ : Type} [DecidableEq κ]
theorem Z4:∀{l:List κ} {k:κ},l.Nodup->¬k∈l->(l++[k]).Nodup
 | [],k,_,_=>by simp
 | a::r,k,h,hk=>by
  obtain⟨h1,h2⟩:=QbE.mp h
  show (a::(r++[k])).Nodup
  refine QbE.mpr ⟨λm=>?_,Z4 h2 λm=>hk (QbS.mpr (Or.inr m))⟩
  rcases Qbz.mp m with q | q
  ·exact h1 q
  ·exact hk (QbS.mpr (Or.inl (QaT.mp q).symm))
end
theorem Tt {prog:Program} {w:World} {A:Around} {R:Result->Shared->Prop} {s:Shared} {kx vx target iter:Expr} {ifs:List Expr} {scope:Scope} {pos:Pos} {it:Value} {D:Addr} {env:Env} (J:Nat->Shared->Prop)
  (turn:∀n s,J n s->wpAny (model prog w) A (pyNext it) (λr s1=>match r with
   | none=>R (.ok .next) s1
   | some v=>wpAny (model prog w) A (letOwnedTupleGo target it v) (λ_ s2=>wpAny (model prog w) A (assign target env v) (λ_ s3=>
     wpAny (model prog w) A (forIn ifs true λc r=>if r=true then do let ok <-isTrue c env (eval c env);pure (ForInStep.yield ok) else pure (ForInStep.yield r)) (λok s4=>
      if ok=true then wpAny (model prog w) A (eval kx env) (λkv s5=>wpAny (model prog w) A (eval vx env) (λvv s6=>wpAny (model prog w) A (dictSet D kv vv) (λ_ s7=>∃m,m < n/\J m s7) (λ_ _=>False) s6) (λ_ _=>False) s5) (λ_ _=>False) s4
      else ∃m,m < n/\J m s4) (λ_ _=>False) s3) (λ_ _=>False) s2) (λ_ _=>False) s1) (λ_ _=>False) s)
  (n:Nat) (h:J n s):codeAny (model prog w) A (.compLoop (.DictComp kx vx [⟨target,iter,ifs,0⟩] scope pos) 0 it (.ref D) env) R s:=by
 refine codeAny_loop rfl J (λk s' hk=>?_) n h
 show wpAny _ A (Sem.onRaise (compTurn (.DictComp kx vx [⟨target,iter,ifs,0⟩] scope pos) 0 it (.ref D) env) (λx=>do noteFrame x env;theTreesLotGoes x)) _ _ s'
 refine wpAny_noted ?_
 rw[compTurn_dict]
 refine Qcn (QbY (Qcn (Qcp (turn k s' hk) (λr s1 q1=>?_) λ_ _ f=>f.elim)))
 cases r with
 | none=>exact Qco q1
 | some v=>
  refine Qcn (Qcp q1 (λ_ s2 q2=>Qcn (Qcp q2 (λ_ s3 q3=>Qcn (Qcp q3 (λok s4 q4=>?_) λ_ _ f=>f.elim)) λ_ _ f=>f.elim)) λ_ _ f=>f.elim)
  cases ok with
  | false=>exact Qco ⟨rfl,q4⟩
  | true=>exact Qcn (Qcn (Qcp q4 (λkv s5 q5=>Qcn (QbW (Qcp q5 (λvv s6 q6=>Qcn (QbY (QbW (Qcp q6 (λ_ s7 q7=>Qco ⟨rfl,q7⟩) λ_ _ f=>f.elim)))) λ_ _ f=>f.elim))) λ_ _ f=>f.elim))
theorem jt {X:Cx} {pins:List (Addr×Obj)} {σ : St} {H:Hp} {s:Shared} {A:Around} {E:Value->Shared->Prop} {a:Addr} {kvs:List (Key×V)} {k:Key} {v:V} {u r:Value} {Q:Unit->Shared->Prop} (I:Inv X pins σ H s) (e:H a=some (.dK kvs)) (l:kvs.length < sizeLine) (ry:RelV (kV k) u) (rv:RelV v r)
  (h:∀s',Inv X pins σ (upd H a (.dK (putK kvs k v))) s'->Q () s'):wpAny (model X.prog X.w) A (dictSet a u r) Q E s:=by
 obtain⟨z,hd,vs,rel,dd⟩:=qR I.hok e
 have hz:vs.length<=sizeLine:=by rw[<-rel.length];exact z
 have hl:(putK kvs k v).length<=sizeLine:=by have:=Ht kvs k v;omega
 refine wpAny_dictSet_pairs (hsz:=hz) (QG ry) dd λh' dd' hs=>h _ ?_
 have he:∃q,h'.get? a=some q:=let ⟨q,_,_,hq,_⟩:=dd';⟨q,hq⟩
 exact Ny I (by rw[e];exact True.intro) hs he (jk hl hd (rel.put k rv) dd')
@[irreducible] def QV (J:It) (g:TG) (tt:TT) (tk tv:TE) (Q:VK) (σ0:St) (H0:Hp) (l:Addr):Prop:=∃W:Nat->Nat->St->Hp->Prop,(∃m,W 0 m σ0 H0) /\
 ∀i m σ' H',W i m σ' H'->(J.stop i H'/\Q (.ref l) H')\/(J.go i H'/\∃N:St->Hp->Prop,(∀ σ3 H3,N σ3 H3->∃m',m' < m/\W (i+1) m' σ3 H3)/\∀x H2,J.yld i H' x H2->g x σ' H2 fun σ3 H3=>tt σ3 H3 λb H4=>
  if b=true then tk σ3 H4 λy H5=>tv σ3 H5 λz H6=>∃(kvs:List (Key×V)) (k:Key),H6 l=some (.dK kvs)/\y=kV k/\kvs.length < sizeLine/\N σ3 (upd H6 l (.dK (putK kvs k z))) else N σ3 H4)
def Wm (wi:TI) (src:List (Option Nat)) (g:TG) (tt:TT) (tk tv:TE):TE:=fun σ H Q=>wi σ H λJ H1=>∀l,H1 l=none->QV J g tt tk tv Q (Iv src σ) (upd H1 l (.dK [])) l
theorem Tv {X:Cx} {N':List Str} {src:List (Option Nat)} {sc:Scope} {kx vx tg iter:Expr} {ifs:List Expr} {pos pos':Pos} {wi:TI} {g:TG} {tt:TT} {tk tv:TE} {use:Option (Value->Sem Unit)} {R:Value->Shared->Prop} (hc:X.calm=true) (S:Bk X N' src sc)
  (hi:PI X tg iter wi) (hg:∀s3 H3 fp pn,PG (cxC X N' sc s3 H3 fp pn) tg g) (ht:∀s3 H3 fp pn,PF (cxC X N' sc s3 H3 fp pn) ifs tt) (hk:∀s3 H3 fp pn,PE (cxC X N' sc s3 H3 fp pn) kx tk) (hv:∀s3 H3 fp pn,PE (cxC X N' sc s3 H3 fp pn) vx tv)
  (hs:∀x,foldedSetIterable iter X.env x=pure x) {pins:List (Addr×Obj)} {s:Shared} {σ : St} {H:Hp} {Q:VK} (I:Inv X pins σ H s) (h:Wm wi src g tt tk tv σ H Q)
  (fin:∀s3 H3 fp σ4 H4 s5 l,Inv X pins σ H3 s3->(∀b∈fp,FZ X pins H3 b)->Inv (cxC X N' sc s3 H3 fp (X.pn++pins)) [] σ4 H4 s5->Q (.ref l) H4 ->
   compPost (model X.prog X.w) X.A X.xe use R (.ref l) s3.heap.objs.size (.ok .next) s5) :
  wpAny (model X.prog X.w) X.A (comprehension (.DictComp kx vx [⟨tg,iter,ifs,0⟩] sc pos) sc X.env pos' newDict false (eval iter X.env) use) R X.xe s:=by
 refine wpAny_comprehension_free (use:=use) (cl:=Eb X.env sc.names []) rfl hs (Ov λp hp e=>I.ok.has p.1 (S.fv p hp e)) S.kind S.loc ?_
 refine thn (hi pins s σ H _ I h) λv s1 h1=>thn h1 λitv s2 h2=>?_
 obtain⟨it,fp,tn,J,H2,rfl,I2,T,st2,f2,q⟩:=h2
 have q':=q s2.heap.objs.size (I2.hok.fresh (Qci _))
 unfold QV at q'
 obtain⟨W,⟨m0,w0⟩,turn⟩:=q'
 refine Qbf (wpAny_newFunctionEnv S.Hs (by intro y hy;simp at hy) (λha hns hsb=>?_) S.kind)
 have I3:Inv X pins σ (upd H2 s2.heap.objs.size (.dK [])) { s2 with heap:=s2.heap.push { cls:=.type "dict",data:=.dict #[] } }:=
  I2.laid (t':=s2.toks) (λb u e=>Qat _ e) (Qci _) (Yi s2.heap I2.big)
 have hfl:∀b∈fp,b < s2.heap.objs.size:=λb hb=>by
  obtain⟨o,e,_⟩:=T.obj 0 _ st2 b hb
  exact Qcb e
 have f3:∀b∈fp,FZ X pins (upd H2 s2.heap.objs.size (.dK [])) b:=λb hb=>⟨by rw[Al (Qcc (hfl b hb))];exact (f2 b hb).1,(f2 b hb).2⟩
 generalize hs3:({ s2 with heap:=s2.heap.push { cls:=.type "dict",data:=.dict #[] } }:Shared)=s3 at *
 have hsz:s2.heap.objs.size < s3.heap.objs.size:=by rw[<-hs3];show s2.heap.objs.size < (s2.heap.push _).objs.size;rw[QbN];exact Qbv _
 have kp:∀b o,s3.heap.get? b=some o->ha.get? b=some o:=λb o e=>hsb.extBut b o (Qcc (Qcb e)) (Qat _ e)
 have st3:tn 0 ha:=T.keep 0 _ _ st2 λb hb o e=>kp b o (by rw[<-hs3];exact Qat _ e)
 have I4:Inv (cxC X N' sc s3 (upd H2 s2.heap.objs.size (.dK [])) fp (X.pn++pins)) [] (Iv src σ) (upd H2 s2.heap.objs.size (.dK [])) { s3 with heap:=ha,toks:=s3.toks+([]:List (Str×Value)).length }:=
  R0 S I3 f3 (λb hb=>Nat.lt_trans (hfl b hb) hsz) hns kp
 have loop:codeAny (model X.prog X.w) X.A (.compLoop (.DictComp kx vx [⟨tg,iter,ifs,0⟩] sc pos) 0 (.ref it) (.ref s2.heap.objs.size) (compEnvC sc (Eb X.env sc.names []) s3.heap.objs.size X.env))
   (compPost (model X.prog X.w) X.A X.xe use R (.ref s2.heap.objs.size) s3.heap.objs.size) { s3 with heap:=ha,toks:=s3.toks+([]:List (Str×Value)).length }:=by
  refine Tt (λn s'=>∃i σ' H',Inv (cxC X N' sc s3 (upd H2 s2.heap.objs.size (.dK [])) fp (X.pn++pins)) [] σ' H' s'/\tn i s'.heap/\(∀b∈fp,H' b=none)/\W i n σ' H') ?_ m0 ⟨0,_,_,I4,st3,λb hb=>(f3 b hb).1,w0⟩
  rintro n s4 ⟨i,σ4,H4,J4,st4,fr4,w4⟩
  have stat:∀{H':Hp},(∀b∈fp,H' b=none)->∀b∈fp,FZ (cxC X N' sc s3 (upd H2 s2.heap.objs.size (.dK [])) fp (X.pn++pins)) [] H' b:=λhn b hb=>
   ⟨hn b hb,(I4.ok.exf b hb).1,I4.ok.Jz b hb,.inl hb,λx c e=>(I4.ok.exf b hb).2 x c e,λp hp=>(f3 b hb).2.2.2.2.2 p ((Qbz.mp hp).elim id λz=>by cases z)⟩
  rcases turn i n σ4 H4 w4 with⟨stop,qn⟩|⟨go,N,hN,step⟩
  ·refine thn (T.done (cxC X N' sc s3 (upd H2 s2.heap.objs.size (.dK [])) fp (X.pn++pins)) rfl rfl rfl hc i [] s4 σ4 H4 _ J4 (stat fr4) st4 stop) λr s5 ⟨hr,J5⟩=>?_
   subst hr
   exact fin s3 _ fp σ4 H4 s5 _ I3 f3 J5 qn
  ·refine thn (T.item (cxC X N' sc s3 (upd H2 s2.heap.objs.size (.dK [])) fp (X.pn++pins)) rfl rfl rfl hc i [] s4 σ4 H4 _ J4 (stat fr4) st4 go) λr s5 ⟨u,hr,h5⟩=>?_
   subst hr
   refine thn h5 λ_ s6 ⟨x,H6,J6,r6,y6,st6,fr6⟩=>?_
   have J6':=J6.pinned (stat fr6) (T.obj _ _ st6)
   have back:∀{pl:List (Addr×Obj)} {σ7:St} {H7:Hp} {s7:Shared},Inv (cxC X N' sc s3 (upd H2 s2.heap.objs.size (.dK [])) fp (X.pn++pins)) ([]++Lg fp s6.heap) σ7 H7 s7->N σ7 H7 ->
     ∃m',m' < n/\∃i σ' H',Inv (cxC X N' sc s3 (upd H2 s2.heap.objs.size (.dK [])) fp (X.pn++pins)) [] σ' H' s7/\tn i s7.heap/\(∀b∈fp,H' b=none)/\W i m' σ' H':=λ{pl σ7 H7 s7} J7 w7=>by
    obtain⟨m',hm,w7⟩:=hN _ _ w7
    have pinned:∀b∈fp,∀o,s6.heap.get? b=some o->s7.heap.get? b=some o/\H7 b=none:=λb hb o e=>by
     have:=J7.pin (b,o) (Qaw _ (Qaw _ (Jd hb e)))
     exact⟨this.1,this.2.1⟩
    refine⟨m',hm,i+1,σ7,H7,J7.GC,T.keep _ _ _ st6 λb hb o e=>(pinned b hb o e).1,λb hb=>?_,w7⟩
    obtain⟨o,e,_⟩:=T.obj _ _ st6 b hb
    exact (pinned b hb o e).2
   refine thn (hg s3 _ fp _ _ s6 σ4 H6 x u _ J6' r6 (step x H6 y6)) λ_ s7 ⟨σ7,H7,J7,q7⟩=>?_
   refine thn (ht s3 _ fp _ _ s7 σ7 H7 _ J7 q7) λok s8 ⟨H8,J8,q8⟩=>?_
   cases ok with
   | false=>
    rw[if_neg QaP] at q8 ⊢
    exact back (pl:=[]) J8 q8
   | true=>
    rw[if_pos rfl] at q8 ⊢
    refine thn (hk s3 _ fp _ _ s8 σ7 H8 _ J8 q8) λy s9 ⟨yv,H9,J9,r9,q9⟩=>?_
    refine thn (hv s3 _ fp _ _ s9 σ7 H9 _ J9 q9) λz s10 ⟨zv,H10,J10,r10,kvs,k,hl,ey,hz,q10⟩=>?_
    subst ey
    refine jt (X:=cxC X N' sc s3 (upd H2 s2.heap.objs.size (.dK [])) fp (X.pn++pins)) J10 hl hz r9 r10 λs11 J11=>?_
    exact back (pl:=[]) J11 q10
 exact codeAny_compStart_dict loop (T.self X.A 0 _ _ _ st3 loop)
theorem lM {X:Cx} {N':List Str} {src:List (Option Nat)} {sc:Scope} {kx vx tg iter:Expr} {ifs:List Expr} {pos:Pos} {wi:TI} {g:TG} {tt:TT} {tk tv:TE} (hc:X.calm=true) (S:Bk X N' src sc)
  (hi:PI X tg iter wi) (hg:∀s3 H3 fp pn,PG (cxC X N' sc s3 H3 fp pn) tg g) (ht:∀s3 H3 fp pn,PF (cxC X N' sc s3 H3 fp pn) ifs tt) (hk:∀s3 H3 fp pn,PE (cxC X N' sc s3 H3 fp pn) kx tk) (hv:∀s3 H3 fp pn,PE (cxC X N' sc s3 H3 fp pn) vx tv)
  (hs:∀x,foldedSetIterable iter X.env x=pure x:=by intro _;rfl):PE X (.DictComp kx vx [⟨tg,iter,ifs,0⟩] sc pos) (Wm wi src g tt tk tv):=by
 intro pins s σ H Q I h
 rw[arm_eval_DictComp]
 refine Tv (use:=none) hc S hi hg ht hk hv hs I h λs3 H3 fp σ4 H4 s5 l I3 f3 J5 q=>?_
 obtain⟨m,hn,_⟩:=J5.loc
 exact⟨m,hn,λh' sb=>⟨.ref l,H4,Qh I3 f3 J5 sb,rfl,q⟩⟩
end L2
namespace PySem
open Sem (wp)
section
variable {prog:Program} {w:World} {A:Around} {E:Value->Shared->Prop} {s:Shared}
theorem Mp {it l:Addr} {i:Nat} {items:Array Value} {x:Value} {Q:Value->Shared->Prop} (hit:s.heap.IsTupleIter it l i) (hl:s.heap.IsTuple l items) (hx:items[i]?=some x)
  (hQ:∀h',h'.IsTupleIter it l (i+1)->Heap.SameBut it s.heap h'->Q x { s with heap:=h' }):wpAny (model prog w) A (Builtin.SmallTypes.nextOf (.ref it)) Q E s:=by
 obtain⟨o,ho,hc,hd⟩:=id hit
 obtain⟨ol,hol,_,nl,hdl⟩:=hl
 unfold Builtin.SmallTypes.nextOf
 refine Qcn (Qar (name:=Str.ofString "__next__") hit.typeIs Qaa (Qbr Qaa hit.typeIs PyProof.Rows.entry_tupleiter_next ?_ (PyProof.Rows.args_tupleiter_next _)))
 show wpAny _ _ (field (.ref it) 0 >>= _) _ _ s
 refine Qcn (Qcl ho hd (x:=.ref l) rfl ?_)
 show wpAny _ _ (if (Value.ref l == Value.none)=true then _ else _) _ _ s
 rw[if_neg (show ¬((Value.ref l == Value.none)=true) from QaP)]
 show wpAny _ _ (field (.ref it) 1 >>= _) _ _ s
 refine Qcn (Qcl ho hd (x:=.int i 0) rfl ?_)
 show wpAny _ _ (seqItems? (.ref l) >>= _) _ _ s
 refine Qcn (QbP hol hdl ?_)
 simp only[Qbe,hx]
 refine Qcn (wpAny_setField ho hd (by simp) (Qco ⟨x,rfl,Qco (hQ _ ?_ (QaJ ..))⟩))
 exact⟨_,Qax _ ho (Obj.isFreed_of_fields (Obj.data_mapFields hd _)),(Obj.cls_mapFields ..).trans hc,by rw[Obj.data_mapFields hd];simp[rawInt]⟩
theorem Jt {it l:Addr} {i:Nat} {items:Array Value} {Q:Value->Shared->Prop} (hh:A.handled=none) (hit:s.heap.IsTupleIter it l i) (hl:s.heap.IsTuple l items) (hx:items[i]?=none)
  (hE:∀h' e,Heap.ExtBut it s.heap h'->(∃o,h'.get? e=some o/\o.cls=.type "StopIteration")->E (.ref e) { s with heap:=h' }):wpAny (model prog w) A (Builtin.SmallTypes.nextOf (.ref it)) Q E s:=by
 obtain⟨o,ho,hc,hd⟩:=id hit
 obtain⟨ol,hol,_,nl,hdl⟩:=hl
 unfold Builtin.SmallTypes.nextOf
 refine Qcn (Qar (name:=Str.ofString "__next__") hit.typeIs Qaa (Qbr Qaa hit.typeIs PyProof.Rows.entry_tupleiter_next ?_ (PyProof.Rows.args_tupleiter_next _)))
 show wpAny _ _ (field (.ref it) 0 >>= _) _ _ s
 refine Qcn (Qcl ho hd (x:=.ref l) rfl ?_)
 show wpAny _ _ (if (Value.ref l == Value.none)=true then _ else _) _ _ s
 rw[if_neg (show ¬((Value.ref l == Value.none)=true) from QaP)]
 show wpAny _ _ (field (.ref it) 1 >>= _) _ _ s
 refine Qcn (Qcl ho hd (x:=.int i 0) rfl ?_)
 show wpAny _ _ (seqItems? (.ref l) >>= _) _ _ s
 refine Qcn (QbP hol hdl ?_)
 simp only[Qbe,hx]
 refine Qcn (wpAny_rule (Qcn (wpAny_setField ho hd (by simp) ?_)))
 show wpAny _ _ (newExc (.type "StopIteration") [] >>= _) _ _ _
 refine Qcn ?_
 simp only[newExc,newTuple]
 refine Qcn (Qbf ?_ (by size_fits))
 refine Qcn (m:=firstArgMember _ _) (wpAny_of_eq (a:=Value.none) (by first | rfl | (simp only[firstArgMember];rfl)) ?_)
 refine Qbf ?_ (by size_fits)
 simp only[raiseNew]
 refine Qcn (wpAny_handled ?_)
 first | rw[show A.in1.handled=none from hh] | rw[hh]
 refine Qcn (Qco (wpAny_throw ?_))
 exact hE _ _ (((QaJ ..).extBut.push _).push _) ⟨_,QaF _ rfl,rfl⟩
theorem Yg {e it l:Addr} {i:Nat} {j:Int} {items:Array Value} {old:Value} {Q:Option Value->Shared->Prop} (hh:A.handled=none) (he:IsEnum s.heap e it j old) (hit:s.heap.IsTupleIter it l i) (hl:s.heap.IsTuple l items) (hx:items[i]?=none)
  (hQ:∀h',Heap.ExtBut it s.heap h'->Q none { s with heap:=h' }):wpAny (model prog w) A (pyNext (.ref e)) Q E s:=by
 have hT:s.TypeIs (.ref e) "enumerate":=⟨_,he,rfl⟩
 unfold pyNext
 refine Qcn (QbX (Qar (name:=Str.ofString "__next__") hT F.slot_enumerate_next (Qbr F.slot_enumerate_next hT F.entry_enumerate_next ?_ (F.args_enumerate_next_1 _))))
 show wpAny _ _ (field (.ref e) 2 >>= _) _ _ _
 refine Qcn (Qcl he rfl (x:=.ref it) rfl (Qcn (Jt hh hit hl hx λh' x he' hx'=>?_)))
 obtain⟨o,ho,hc⟩:=hx'
 exact Qcn (wpAny_isInstance (T:="StopIteration") (b:=true) ⟨o,ho,hc⟩ isSubtype_stop (Qco (hQ _ he')))
end
theorem Draws.tup {prog:Program} {w:World} {A:Around} (hh:A.handled=none) (it l:Addr) (hne:l≠it) (items:Array Value) :
  Draws prog w A it [it,l] items.size (λi v=>items[i]?=some v) (λi h=>h.IsTupleIter it l i/\h.IsTuple l items) where
 live:=λ_ _ st=>let ⟨o,ho,_⟩:=st.1;⟨o,ho⟩
 frame:=λ_ _ _ st hk=>⟨st.1.at λo e=>hk it (by simp) o e,let ⟨o,e,r⟩:=st.2;⟨o,hk l (by simp) o e,r⟩⟩
 item:=λi s Q E hi st hQ=>Mp st.1 st.2 (x:=items[i]) (by simp[hi]) λh' hit' hs'=>hQ _ h' s.toks (by simp[hi]) ⟨hit',let ⟨o,e,r⟩:=st.2;⟨o,hs'.extBut _ _ hne e,r⟩⟩ hs'
 done:=λs Q E st hE=>Jt hh st.1 st.2 (by simp) hE
theorem Draws.from {prog:Program} {w:World} {A:Around} {it:Addr} {fp:List Addr} {n:Nat} {P:Nat->Value->Prop} {St:Nat->Heap->Prop} (D:Draws prog w A it fp n P St) (k:Nat) :
  Draws prog w A it fp (k+n) (λj v=>∃i,j=k+i/\P i v) (λj h=>∃i,j=k+i/\i<=n/\St i h) where
 live:=λ_ _ ⟨i,_,_,st⟩=>D.live i _ st
 frame:=λ_ _ _ ⟨i,e,hi,st⟩ hk=>⟨i,e,hi,D.frame i _ _ st hk⟩
 item:=λj s Q E hj ⟨i,e,hi,st⟩ hQ=>D.item i s Q E (by omega) st λx h' tk p st' sb=>hQ x h' tk ⟨i,e,p⟩ ⟨i+1,by omega,by omega,st'⟩ sb
 done:=λs Q E ⟨i,e,hi,st⟩ hE=>by
  have:i=n:=by omega
  subst this
  exact D.done s Q E st hE
end PySem
namespace L2
open PySem PySem.Spec PyProof.Rows
section
variable {X:Cx} {pins:List (Addr×Obj)} {σ : St} {H:Hp} {s:Shared} {h':Heap}
theorem Inv.Mg {t':Nat} {fp:List Addr} {t:Addr} {o:HO} (I:Inv X pins σ H s) (ht:s.heap.objs.size<=t) (k:∀b u,b∉fp->s.heap.get? b=some u->h'.get? b=some u) (hf:∀b∈fp,FZ X pins H b) (new:Bm X.prog X.w (upd H t o) h' t o) :
  Inv X pins σ (upd H t o) { s with heap:=h',toks:=t' }:=by
 have nt:=I.hok.fresh ht
 have old:∀b u,s.heap.get? b=some u->b≠t:=λb u e z=>absurd (QaR (Qcb e) ht) (by rw[z];exact QbV _)
 have nf:∀b u,H b=some u->b∉fp:=λb u e z=>by rw[(hf b z).1] at e;cases e
 have tr:∀b u,H b=some u->(upd H t o) b=some u:=λb u e=>by rw[Al (Av e nt)];exact e
 refine I.step (g':=s.gens) (d':=s.drawn) (ch:=fp) (λb hb=>?_) (λb u _ _ hc e _=>k b u hc e) (λb u _ _ hc e _=>⟨u.slots,k b u hc e⟩) (λb u hc e n=>by rw[Al (old b u e)];exact n)
  (λb u hc e=>⟨u,k b u hc e⟩) (λ_ _ e=>tr _ _ e) (λ_ _ _ e=>tr _ _ e) (λb ps e=>⟨#[],by rw[tr _ _ e];simp⟩) (λm hm=>?_) (λb u e=>?_) I.bare
 ·obtain⟨_,f1,_,f3,f4,f5⟩:=hf b hb
  exact⟨f3,f1,f4,f5⟩
 ·obtain⟨u,es,ep,hu,r⟩:=hm
  exact⟨u,es,ep,k _ u (λz=>(hf _ z).2.1 rfl) hu,r⟩
 ·by_cases hb:b=t
  ·subst hb
   rw[Ac] at e
   cases e
   exact new
  ·rw[Al hb] at e
   refine (I.hok b u e).stay (λc v hc q=>k c v ?_ q) (λc q=>tr _ _ q) λc xs q=>tr _ _ q
   rcases hc with z | z
   ·rw[z];exact nf b u e
   ·exact nf c _ z
theorem Inv.Qt {t':Nat} {fp:List Addr} (I:Inv X pins σ H s) (k:∀b u,b∉fp->s.heap.get? b=some u->h'.get? b=some u) (hf:∀b∈fp,FZ X pins H b):Inv X pins σ H { s with heap:=h',toks:=t' }:=by
 have nf:∀b u,H b=some u->b∉fp:=λb u e z=>by rw[(hf b z).1] at e;cases e
 refine I.step (g':=s.gens) (d':=s.drawn) (ch:=fp) (λb hb=>?_) (λb u _ _ hc e _=>k b u hc e) (λb u _ _ hc e _=>⟨u.slots,k b u hc e⟩) (λb u hc e n=>n)
  (λb u hc e=>⟨u,k b u hc e⟩) (λ_ _ e=>e) (λ_ _ _ e=>e) (λb ps e=>⟨#[],by rw[e];simp⟩) (λm hm=>?_) (λb u e=>?_) I.bare
 ·obtain⟨_,f1,_,f3,f4,f5⟩:=hf b hb
  exact⟨f3,f1,f4,f5⟩
 ·obtain⟨u,es,ep,hu,r⟩:=hm
  exact⟨u,es,ep,k _ u (λz=>(hf _ z).2.1 rfl) hu,r⟩
 ·refine (I.hok b u e).stay (λc v hc q=>k c v ?_ q) (λ_ q=>q) λ_ _ q=>q
  rcases hc with z | z
  ·rw[z];exact nf b u e
  ·exact nf c _ z
end
def Mf (K:PySem.W.Frag) (a:Addr) (lo:Nat):It:=
 ⟨λi H=>∃xs x,SqT K H a xs/\xs[i]?=some x,λi H v H'=>∃p x,H p=none/\v=.ref p/\H'=upd H p (.tup [.int ((lo+i:Nat):Int),x])/\∀xs,SqT K H a xs->xs[i]?=some x,λi H=>∃xs,SqT K H a xs/\xs.length<=i⟩
theorem aR {P:Program} {w:World} {K:PySem.W.Frag} {elts:List Expr} {k:Nat} {pos:Pos} (a e it:Addr) (lo:Nat) (nei:e≠it):Turn P w K (.Tuple elts k pos) (Mf K a lo) [e,it] e (λi h=>(∃old,IsEnum h e it ((lo+i:Nat):Int) old)/\h.IsTupleIter it a i) where
 mem:=by simp
 obj:=λi h st b hb=>by
  obtain⟨⟨old,he⟩,o,ho,hc,hd⟩:=st
  rcases QbS.mp hb with rfl | hb
  ·exact⟨_,he,λv z=>by cases (show Data.fields _=Data.cell v from z)⟩
  ·have:b=it:=by simpa using hb
   subst this
   exact⟨o,ho,λv z=>by rw[hd] at z;cases z⟩
 keep:=λi h h' st k=>by
  obtain⟨⟨old,he⟩,hi⟩:=st
  exact⟨⟨old,k e (by simp) _ he⟩,hi.at λo q=>k it (by simp) o q⟩
 item:=by
  intro X hP hw hK hc i pins s σ H E I hf st hg
  subst hP hw hK
  obtain⟨xs,x,hq,hx⟩:=hg
  obtain⟨its,rv,p,hz⟩:=I.tuple hq
  obtain⟨u,hu,ru⟩:=rv.get hx
  obtain⟨⟨old,he⟩,hit⟩:=st
  have hts:s.heap.IsTuple a its.toArray:=p
  have ane:a≠e:=λz=>by
   obtain⟨o,ho,hcl,_⟩:=hts
   rw[z,he] at ho
   cases ho
   injection hcl with q
   exact absurd q (by decide)
  have ani:a≠it:=λz=>by
   obtain⟨o,ho,hcl,_⟩:=hts
   obtain⟨o',ho',hcl',_⟩:=hit
   rw[z,ho'] at ho
   cases ho
   rw[hcl'] at hcl
   injection hcl with q
   exact absurd q (by decide)
  have hlt:i < its.toArray.size:=by
   have:=(Qai.mp hu).1
   simpa using this
  have D:=(Draws.tup (prog:=X.prog) (w:=X.w) (A:=X.A.in1) (I.ok.hd hc) it a ani its.toArray).from lo
  refine wpAny_pyNext_enum_itemD D he ⟨i,rfl,Qcf hlt,hit,hts⟩ (by omega) nei (by simp[nei,ane.symm]) λy h1 tk hP ho hst hT hsz hk=>?_
  obtain⟨i',ei,hy⟩:=hP
  have:i'=i:=by omega
  subst this
  have ey:y=u:=by
   have h2:its.toArray[i']?=some u:=by simpa using hu
   rw[h2] at hy
   exact (QbB hy).symm
  subst ey
  refine⟨_,rfl,wpAny_letOwnedTupleGo_enum ho λh2 he2 hs2=>?_⟩
  have hlt2:s.heap.objs.size≠e:=Qcg (Qcb he)
  have hT2:h2.get? s.heap.objs.size=some { cls:=.type "tuple",data:=.seq #[.int ((lo+i':Nat):Int) tk,y] }:=(hs2.2 _ hlt2).trans hT
  have new:Bm X.prog X.w (upd H s.heap.objs.size (.tup [.int ((lo+i':Nat):Int),x])) h2 s.heap.objs.size (.tup [.int ((lo+i':Nat):Int),x]):=
   ⟨by show 2<=sizeLine;decide,[.int ((lo+i':Nat):Int) tk,y],.cons ⟨tk,rfl⟩ (.cons ru .nil),_,hT2,rfl,0,rfl⟩
  have I1:=I.Mg (h':=h2) (t':=tk+1) (Qci _) (λb q hb z=>(hs2.2 b (λw=>hb (by simp[w]))).trans (hk b q (λw=>hb (by simp[w])) (λw=>hb (by simp[w])) z)) hf new
  refine⟨.ref s.heap.objs.size,_,I1,rfl,⟨s.heap.objs.size,x,I.hok.fresh (Qci _),rfl,rfl,λys hy'=>by rw[I.U7 hy' hq];exact hx⟩,⟨⟨y,?_⟩,?_⟩,λb hb=>?_⟩
  ·have:=he2
   rw[show ((lo+(i'+1):Nat):Int)=((lo+i':Nat):Int)+1 by omega]
   exact this
  ·obtain⟨i2,e2,_,st2,_⟩:=hst
   have:i2=i'+1:=by omega
   subst this
   exact st2.at λo q=>(hs2.2 it (Ne.symm nei)).trans q
  ·have hb':b < s.heap.objs.size:=by
    rcases QbS.mp hb with rfl | hb
    ·exact Qcb he
    ·have:b=it:=by simpa using hb
     subst this
     obtain⟨o,ho',_⟩:=hit
     exact Qcb ho'
   rw[Al (Qcc hb')]
   exact (hf b hb).1
 done:=by
  intro X hP hw hK hc i pins s σ H E I hf st hg
  subst hP hw hK
  obtain⟨xs,hq,hx⟩:=hg
  obtain⟨its,rv,p,hz⟩:=I.tuple hq
  obtain⟨⟨old,he⟩,hit⟩:=st
  have hl:=rv.length
  exact Yg (I.ok.hd hc) he hit (show s.heap.IsTuple a its.toArray from p) (by simp;omega) λh' eb=>⟨rfl,I.Qt (t':=s.toks) (λb o hb q=>eb b o (λz=>hb (by simp[z])) q) hf⟩
 self:=λ_ _ _ _ _ st h=>let ⟨⟨_,he⟩,_⟩:=st;wpAny_pyIter_enum he h
end L2
namespace PySem
open Sem (wp)
open AutoSeq1 (wpAny_loadPart')
theorem Us (l:Addr) (items:Array Value) (n:Nat) (dct:Option Addr) (sl:Array (Option Value)) :
  Meets (Builtin.«enumerate.__new__» ⟨[.type "enumerate",.ref l],[]⟩) (λ_ R s=>s.heap.get? l=some { cls:=.type "tuple",dict:=dct,data:=.seq items n,slots:=sl } /\
   R (.ok (.ret (.ref (s.heap.push { cls:=.type "tuple_iterator",data:=.fields #[.ref l,.int 0 0] }).objs.size)))
    { s with heap:=(s.heap.push { cls:=.type "tuple_iterator",data:=.fields #[.ref l,.int 0 0] }).push { cls:=.type "enumerate",data:=.fields #[.none,.bool false,.ref s.heap.objs.size,rawInt 0,.none,.none] } }):=
 .of_wp λprog w A R s h=>by
  obtain⟨hp,g,d,tk,os⟩:=s;obtain⟨hl,h⟩:=h
  have hsub:=sub_enumerate
  have hL:Heap.IsTuple (Shared.heap ⟨hp,g,d,tk,os⟩) l items:=⟨_,hl,rfl,n,rfl⟩
  wp_walk using wpAny_loadPart' hl
  refine wpAny_stack_any λst=>Qco ?_
  split
  ·rename_i c _ _ _ _ _
   cases (c == Value.type "enumerate")
   ·wp_walk using wpAny_loadPart' hl,QaU hL
    exact⟨_,rfl,h⟩
   ·wp_walk using wpAny_loadPart' hl,QaU hL
    exact⟨_,rfl,h⟩
  ·wp_walk using wpAny_loadPart' hl,QaU hL
   exact⟨_,rfl,h⟩
theorem Tc (l:Addr) (items:Array Value) (n:Nat) (dct:Option Addr) (sl:Array (Option Value)) (t:Tok) :
  Meets (Builtin.«enumerate.__new__» ⟨[.type "enumerate",.ref l],[("start",.int 1 t)]⟩) (λ_ R s=>s.heap.get? l=some { cls:=.type "tuple",dict:=dct,data:=.seq items n,slots:=sl } /\
   R (.ok (.ret (.ref (s.heap.push { cls:=.type "tuple_iterator",data:=.fields #[.ref l,.int 0 0] }).objs.size)))
    { s with heap:=(s.heap.push { cls:=.type "tuple_iterator",data:=.fields #[.ref l,.int 0 0] }).push { cls:=.type "enumerate",data:=.fields #[.none,.bool false,.ref s.heap.objs.size,rawInt 1,.none,.none] } }):=
 .of_wp λprog w A R s h=>by
  obtain⟨hp,g,d,tk,os⟩:=s;obtain⟨hl,h⟩:=h
  have hsub:=sub_enumerate
  have hL:Heap.IsTuple (Shared.heap ⟨hp,g,d,tk,os⟩) l items:=⟨_,hl,rfl,n,rfl⟩
  wp_walk using wpAny_loadPart' hl
  refine wpAny_stack_any λst=>Qco ?_
  split
  ·rename_i c _ _ _ _ _
   cases (c == Value.type "enumerate")
   ·wp_walk using wpAny_loadPart' hl,QaU hL
    exact⟨_,rfl,h⟩
   ·wp_walk using wpAny_loadPart' hl,QaU hL
    exact⟨_,rfl,h⟩
  ·wp_walk using wpAny_loadPart' hl,QaU hL
   exact⟨_,rfl,h⟩
end PySem
namespace PySem
open Sem (wp)
section
variable {prog:Program} {w:World} {A:Around} {E:Value->Shared->Prop} {s:Shared}
theorem Uo {T newId:String} {self:Value} {rest:List Value} {kw:List (Str×Value)} (hl:typeLookup (.type T) "__init__"=pure (some (.builtin "object.__init__")))
  (hm:Bind.madeBy (.type T)=pure (some newId)) (hne:(some newId != some "object.__new__")=true) :
  Meets (Builtin.«object.__init__» ⟨self::rest,kw⟩) (λ_ R s=>s.TypeIs self T/\R (.ok (.ret .none)) s):=by
 refine Meets.of_wp λprog w A R s hs=>?_
 obtain⟨hT,hq⟩:=hs
 cases rest with
 | nil=>
  cases kw with
  | nil=>exact Qco ⟨_,rfl,hq⟩
  | cons k kw=>
   repeat (any_goals (first | assumption | wp_step))
   exact⟨_,rfl,hq⟩
 | cons a rest=>
  repeat (any_goals (first | assumption | wp_step))
  exact⟨_,rfl,hq⟩
theorem jD {T newId:String} {Bn:Builtin} {args:List Value} {kw:List (Str×Value)} {S:Spec} {Q:Value->Shared->Prop} (ft:TypeCalled T newId "object.__init__") (hne:(some newId != some "object.__new__")=true)
  (hct:checkTypeCall T ⟨args,kw⟩=pure ()) (hcn:checkBuiltinCall newId ⟨.type T::args,kw⟩=pure ()) (hok:∀obj,argsOk "object.__init__" ⟨obj::args,kw⟩)
  (entryN:entryFor table newId=some Bn) (g:Meets (Bn ⟨.type T::args,kw⟩) S) (h:S A.in1 (wants (λobj s₁=>s₁.TypeIs obj T/\Q obj s₁) E) s) :
  wpAny (model prog w) A (call (.type T) args kw) Q E s:=by
 obtain⟨c,tl,hmro⟩:=ft.mro
 have hmade:=ft.made
 have hsub:=ft.sub
 refine wpAny_call (codeAny_of_tree ?_)
 show wpAny _ _ (callAny (.type T) _) _ _ _
 refine Qco ⟨Code.quiet_builtin _ (by trivial),codeAny_builtin F.entry_type_call ?_⟩
 rw[Around.under_plain (weight_type_call_type T args kw) (units_type_call_type T args kw)]
 have h1:=ft.notType
 have h2:=ft.canCreate
 repeat (any_goals (first | assumption | wp_step))
 refine Qch (QaE ft.plain entryN (wpAny_of_eq hcn (g prog w A.in1 _ s h))) λr s₁ hr=>?_
 cases r with
 | error e=>exact hr
 | ok fl=>
  cases fl with
  | ret obj=>
   obtain⟨hT,hq⟩:=hr
   have hli:=ft.init.lookup
   have hbi:=ft.init.bind obj
   repeat (any_goals (first | assumption | wp_step))
   refine Qch (QaE ft.init.plain F.entry_object_init (ft.init.check _ _ _ _ _ _ _ _ hT (hok obj) (Uo ft.init.lookup ft.made hne prog w A.in1 (wants (λr s₂=>r=.none/\Q obj s₂) E) s₁ ⟨hT,rfl,hq⟩))) λr₂ s₂ hr₂=>?_
   cases r₂ with
   | error e=>exact hr₂
   | ok fl₂=>
    cases fl₂ with
    | ret r=>
     obtain⟨rfl,hq2⟩:=hr₂
     repeat (any_goals (first | assumption | wp_step))
    | _=>exact hr₂.elim
  | _=>exact hr.elim
end
end PySem
namespace PyProof.Rows
open PySem
section
variable {M:Model} {A:Around} {E:Value->Shared->Prop} {s:Shared} {env:Env}
theorem Tz {pos:Pos} {T:String} {e:Expr} {rest:List Expr} {kws:List Keyword} {Q:Value->Shared->Prop}
  (h:wpAny M A (spliced (backTo pos (starEach (e::rest) env))) (λvs s₁=>wpAny M A (evalAll ((backToKw pos (keywordEach kws env)).map (·.2))) (λkvs s₂=>wpAny M A (call (.type T) vs (((backToKw pos (keywordEach kws env)).filterMap (·.1)).zip kvs)) Q E s₂) E s₁) E s)
  (he:backTo pos (starEach (e::rest) env)=(false,eval e env)::backTo pos (starEach rest env):=by rfl) (hplain:(backTo pos (starEach (e::rest) env)).any (·.1)=false:=by rfl)
  (hall:(backToKw pos (keywordEach kws env)).all (·.1.isSome)=true:=by rfl) (hkw:(backToKw pos (keywordEach kws env)).any (·.1.isNone)=false:=by rfl) :
  wpAny M A (callWith pos (.type T) [] (backTo pos (starEach (e::rest) env)) (backToKw pos (keywordEach kws env))) Q E s:=by
 have h2:wpAny M A (evalArgs (.type T) true (backTo pos (starEach (e::rest) env)) (backToKw pos (keywordEach kws env))) (λa s₁=>wpAny M A (call (.type T) ([]++a.pos) a.kw) Q E s₁) E s:=by
  rw[he] at h ⊢
  exact evalArgs_kwB hall h
 unfold callWith
 refine Qcn (QbW (Qcp h2 (λa s₁ h₁=>Qcn (QbY ?_)) λ_ _ x=>x))
 simp only[hplain,hkw,Bool.or_false]
 exact Qcn (Qco (Qcn (Qcp h₁ (λr s₂ hr=>Qcn (QbW (wpAny_point (Qco hr)))) λ_ _ x=>x)))
end
end PyProof.Rows
namespace L2
open PySem PySem.Spec PyProof.Rows
section
variable {X:Cx}
theorem aB {pins:List (Addr×Obj)} {σ : St} {H:Hp} {s:Shared} {R:It->Hp->Prop} {E:Value->Shared->Prop} {elts:List Expr} {k:Nat} {pos:Pos} {a:Addr} {lo:Nat} {tk:Nat} (I:Inv X pins σ H s) (q:R (Mf X.K a lo) H) :
  wpAny (model X.prog X.w) X.A (pyIter (.ref (s.heap.objs.size+1))) (PIE X pins σ (.Tuple elts k pos) R) E
   { s with heap:=(s.heap.push { cls:=.type "tuple_iterator",data:=.fields #[.ref a,.int 0 0] }).push { cls:=.type "enumerate",data:=.fields #[.none,.bool false,.ref s.heap.objs.size,rawInt (lo:Int),.none,.none] },toks:=tk }:=by
 have hz:(s.heap.push { cls:=.type "tuple_iterator",data:=.fields #[.ref a,.int 0 0] }).objs.size=s.heap.objs.size+1:=QbN ..
 have he:IsEnum ((s.heap.push { cls:=.type "tuple_iterator",data:=.fields #[.ref a,.int 0 0] }).push { cls:=.type "enumerate",data:=.fields #[.none,.bool false,.ref s.heap.objs.size,rawInt (lo:Int),.none,.none] }) (s.heap.objs.size+1) s.heap.objs.size (lo:Int) .none:=by
  have:=QaF (s.heap.push { cls:=.type "tuple_iterator",data:=.fields #[.ref a,.int 0 0] }) (o:={ cls:=.type "enumerate",data:=.fields #[.none,.bool false,.ref s.heap.objs.size,rawInt (lo:Int),.none,.none] }) rfl
  rw[hz] at this
  exact this
 refine wpAny_pyIter_enum he ⟨s.heap.objs.size+1,[s.heap.objs.size+1,s.heap.objs.size],_,_,H,rfl,I.kept (t':=tk) λb o e=>Qat _ (Qat _ e),aR a (s.heap.objs.size+1) s.heap.objs.size lo (Nat.succ_ne_self _),⟨⟨.none,he⟩,⟨_,Qat _ (QaF _ rfl),rfl,rfl⟩⟩,λb hb=>?_,q⟩
 have hb':s.heap.objs.size<=b:=by
  simp only[QbS,Qbs,Qcr] at hb
  rcases hb with rfl | rfl
  ·exact Nat.le_succ _
  ·exact Qci _
 exact I.Qf hb' (I.hok.fresh hb')
end
section
variable {X:Cx}
def qK (K:PySem.W.Frag) (lo:Nat) (tl:TE):TI:=fun σ H R=>tl σ H λx H1=>∃a,x=.ref a/\(∃xs,SqT K H1 a xs)/\R (Mf K a lo) H1
theorem dH {pins:List (Addr×Obj)} {σ : St} {H:Hp} {s:Shared} {R:It->Hp->Prop} {elts:List Expr} {k:Nat} {pos:Pos} {a:Addr} {xs:List V} (I:Inv X pins σ H s) (hq:SqT X.K H a xs) (q:R (Mf X.K a 0) H) :
  wpAny (model X.prog X.w) X.A (call (.type "enumerate") [.ref a]) (λv s1=>wpAny (model X.prog X.w) X.A (pyIter v) (PIE X pins σ (.Tuple elts k pos) R) X.xe s1) X.xe s:=by
 obtain⟨its,rv,p,hz⟩:=I.tuple hq
 obtain⟨⟨c,dct,dt,sl⟩,hl,hc,n,hd⟩:=id p
 replace hc:c=.type "tuple":=hc
 replace hd:dt=.seq its.toArray n:=hd
 subst hc hd
 refine callType_new F.called_enumerate (by decide) (F.typeCall_enumerate_1 _) (F.newCall_enumerate_1 _) (λobj=>F.args_object_init_2 obj _) F.entry_enumerate_new (Us a its.toArray n dct sl) ⟨hl,?_⟩
 have hz:(s.heap.push { cls:=.type "tuple_iterator",data:=.fields #[.ref a,.int 0 0] }).objs.size=s.heap.objs.size+1:=QbN ..
 show _/\_
 refine⟨⟨_,QaF _ rfl,rfl⟩,?_⟩
 rw[hz]
 exact aB (lo:=0) (tk:=s.toks) I q
end
section
variable {X:Cx}
theorem Rx {x:Expr} {tx:TE} {p pos tp:Pos} {elts:List Expr} {k:Nat} (hg:Gl X "enumerate") (hm:X.mg "enumerate"=none) (hl:PE X x tx) (hs:starEach [x] X.env=[(false,eval x X.env)]:=by rfl):PI X (.Tuple elts k tp) (.Call (.Name "enumerate" p) [x] [] pos) (qK X.K 0 tx):=by
 intro pins s σ H R I h
 refine Call_ (Kd I hg hm boot_enumerate (Qae (thn ((Aa hl Ab (by rw[hs];rfl)) pos pins s σ H (λvs H1=>match vs with | [v]=>∃a,v=.ref a/\(∃xs,SqT X.K H1 a xs)/\R (Mf X.K a 0) H1 | _=>False) I h) λus s1 ⟨vs,H1,I1,r1,q1⟩=>?_) hs rfl))
 cases r1 with
 | nil=>exact False.elim q1
 | cons r rr=>
  cases rr with
  | nil=>
   obtain⟨a,e,⟨xs,hq⟩,q⟩:=q1
   subst e
   cases r
   exact dH I1 hq q
  | cons _ _=>exact False.elim q1
theorem dG {pins:List (Addr×Obj)} {σ : St} {H:Hp} {s:Shared} {R:It->Hp->Prop} {elts:List Expr} {k:Nat} {pos:Pos} {a:Addr} {xs:List V} {t:Tok} (I:Inv X pins σ H s) (hq:SqT X.K H a xs) (q:R (Mf X.K a 1) H) :
  wpAny (model X.prog X.w) X.A (call (.type "enumerate") [.ref a] [("start",.int 1 t)]) (λv s1=>wpAny (model X.prog X.w) X.A (pyIter v) (PIE X pins σ (.Tuple elts k pos) R) X.xe s1) X.xe s:=by
 obtain⟨its,rv,p,hz⟩:=I.tuple hq
 obtain⟨⟨c,dct,dt,sl⟩,hl,hc,n,hd⟩:=id p
 replace hc:c=.type "tuple":=hc
 replace hd:dt=.seq its.toArray n:=hd
 subst hc hd
 refine jD F.called_enumerate (by decide) (by kernel_rfl) (by kernel_rfl) (λobj=>?ok) F.entry_enumerate_new (Tc a its.toArray n dct sl t) ⟨hl,?_⟩
 case ok=>
  unfold argsOk
  rw[signature?_of (id:="object.__init__") (n:=['_','_','t','i','n','i','_','_']) (o:=['t','c','e','j','b','o']) (by kernel_rfl) F.owner_object]
  kernel_rfl
 have hz:(s.heap.push { cls:=.type "tuple_iterator",data:=.fields #[.ref a,.int 0 0] }).objs.size=s.heap.objs.size+1:=QbN ..
 show _/\_
 refine⟨⟨_,QaF _ rfl,rfl⟩,?_⟩
 rw[hz]
 exact aB (lo:=1) (tk:=s.toks) I q
theorem Lh {x one:Expr} {tx:TE} {p pos tp kp:Pos} {elts:List Expr} {k:Nat} (hg:Gl X "enumerate") (hm:X.mg "enumerate"=none) (hl:PE X x tx) (h1:PE X one (tC (.int 1))) (hs:starEach [x] X.env=[(false,eval x X.env)]:=by rfl)
  (hall:(backToKw pos (keywordEach [⟨some "start",one,kp⟩] X.env)).all (·.1.isSome)=true:=by rfl) (hkw:(backToKw pos (keywordEach [⟨some "start",one,kp⟩] X.env)).any (·.1.isNone)=false:=by rfl)
  (hks:(backToKw pos (keywordEach [⟨some "start",one,kp⟩] X.env)).filterMap (·.1)=(["start"]:List Str):=by rfl) :
  PI X (.Tuple elts k tp) (.Call (.Name "enumerate" p) [x] [⟨some "start",one,kp⟩] pos) (qK X.K 1 tx):=by
 intro pins s σ H R I h
 refine QaY (Kd I hg hm boot_enumerate (PyProof.Rows.Tz (thn ((Aa hl Ab (by rw[hs];rfl)) pos pins s σ H (λvs H1=>match vs with | [v]=>∃a,v=.ref a/\(∃xs,SqT X.K H1 a xs)/\R (Mf X.K a 1) H1 | _=>False) I h) λus s1 ⟨vs,H1,I1,r1,q1⟩=>?_) (by rw[hs];rfl) (by rw[hs];rfl) hall hkw))
 refine thn ((rP h1 vP) pos pins s1 σ H1 (λks H2=>H2=H1/\ks=[.int 1]) I1 ⟨rfl,rfl⟩) λws s2 ⟨zs,H2,I2,rz,e2,ez⟩=>?_
 subst e2 ez
 cases rz with
 | cons rz1 rz2=>
  cases rz2
  obtain⟨t,rfl⟩:=rz1
  rw[hks]
  cases r1 with
  | nil=>exact False.elim q1
  | cons r rr=>
   cases rr with
   | nil=>
    obtain⟨a,e,⟨xs,hq⟩,q⟩:=q1
    subst e
    cases r
    exact dG I2 hq q
   | cons _ _=>exact False.elim q1
theorem Ie {K:PySem.W.Frag} {a:Addr} {lo:Nat} {xs:List V} {g:TG} {tb:TS} {D:Ends} {σ : St} {H:Hp} (Pv:Nat->St->Hp->Prop) (h0:Pv 0 σ H) (hl:∀i σ H',i<=xs.length->Pv i σ H'->SqT K H' a xs)
  (hs:∀i x p σ H',xs[i]?=some x->Pv i σ H'->H' p=none->g (.ref p) σ (upd H' p (.tup [.int ((lo+i:Nat):Int),x])) fun σ2 H2=>tb { D with nx:=Pv (i+1),ct:=Pv (i+1),bk:=D.nx } σ2 H2) (hd:∀ σ H',Pv xs.length σ H'->D.nx σ H') :
  ∃W:Nat->Nat->St->Hp->Prop,(∃m,W 0 m σ H)/\∀i m σ H,W i m σ H ->
   ((Mf K a lo).stop i H/\D.nx σ H)\/((Mf K a lo).go i H/\∃N:St->Hp->Prop,(∀ σ' H',N σ' H'->∃m',m' < m/\W (i+1) m' σ' H')/\∀x H',(Mf K a lo).yld i H x H'->g x σ H' fun σ2 H2=>tb { D with nx:=N,ct:=N,bk:=D.nx } σ2 H2):=by
 refine⟨λi m σ H=>m=xs.length - i/\i<=xs.length/\Pv i σ H,⟨xs.length,by simp,Qcj _,h0⟩,?_⟩
 rintro i m σ H ⟨rfl,hi,p⟩
 have q:=hl i σ H hi p
 by_cases hlt:i < xs.length
 ·refine .inr ⟨⟨xs,xs[i],q,by simp[hlt]⟩,Pv (i+1),fun σ3 H3 p'=>⟨xs.length - (i+1),by omega,rfl,hlt,p'⟩,λv H2 y=>?_⟩
  obtain⟨pa,x,hn,rfl,rfl,hx⟩:=y
  exact hs i x pa σ _ (hx xs q) p hn
 ·have e:i=xs.length:=by omega
  subst e
  exact .inl ⟨⟨xs,q,Qci _⟩,hd σ H p⟩
theorem jx {K:PySem.W.Frag} {a l:Addr} {lo:Nat} {xs:List V} {g:TG} {tt:TT} {te:TE} {Q:VK} {σ0:St} {H0:Hp} (Pv:Nat->St->Hp->Prop)
  (h0:Pv 0 σ0 H0) (hl:∀i σ H',i<=xs.length->Pv i σ H'->SqT K H' a xs)
  (hs:∀i x p σ H',xs[i]?=some x->Pv i σ H'->H' p=none->g (.ref p) σ (upd H' p (.tup [.int ((lo+i:Nat):Int),x])) fun σ3 H3=>tt σ3 H3 λb H4=>if b=true then te σ3 H4 λy H5=>∃ys,H5 l=some (.lst ys)/\ys.length < sizeLine/\Pv (i+1) σ3 (upd H5 l (.lst (ys++[y]))) else Pv (i+1) σ3 H4)
  (hd:∀ σ H',Pv xs.length σ H'->Q (.ref l) H'):Fp (Mf K a lo) g tt te Q σ0 H0 l:=by
 unfold Fp
 refine⟨λi m σ H'=>m=xs.length - i/\i<=xs.length/\Pv i σ H',⟨xs.length,by simp,Qcj _,h0⟩,?_⟩
 rintro i m σ H' ⟨rfl,hi,p⟩
 have q:=hl i σ H' hi p
 by_cases hlt:i < xs.length
 ·refine .inr ⟨⟨xs,xs[i],q,by simp[hlt]⟩,Pv (i+1),fun σ3 H3 p'=>⟨xs.length - (i+1),by omega,rfl,hlt,p'⟩,λv H2 y=>?_⟩
  obtain⟨pa,x,hn,rfl,rfl,hx⟩:=y
  exact hs i x pa σ _ (hx xs q) p hn
 ·have e:i=xs.length:=by omega
  subst e
  exact .inl ⟨⟨xs,q,Qci _⟩,hd σ H' p⟩
end
section
variable {X:Cx}
end
end L2
namespace PySem.ZZ
open PySem
section
variable {prog:Program} {w:World} {A:Around} {E:Value->Shared->Prop} {s:Shared}
theorem RV {M:Model} {α β : Type} {Q:β->Shared->Prop} {body:α->β->Sem (ForInStep β)} (J:List α->β->Shared->Prop) (hnil:∀b s,J [] b s->Q b s)
  (hstep:∀x r b s,J (x::r) b s->wpAny M A (body x b) (λst s'=>match st with | .yield b'=>J r b' s' | .done b'=>Q b' s') E s):∀(l:List α) (b:β) (s:Shared),J l b s->wpAny M A (forIn l b body) Q E s
 | [],b,s,h=>by
  rw[List.forIn_nil]
  exact Qco (hnil b s h)
 | x::r,b,s,h=>by
  rw[List.forIn_cons]
  refine Qcn (Qcp (hstep x r b s h) (λst s' q=>?_) λ_ _ e=>e)
  cases st with
  | yield b'=>exact RV J hnil hstep r b' s' q
  | done b'=>exact Qco q
structure Src where
 it:Addr
 a:Addr
 items:Array Value
def SrcAt (h:Heap) (x:Src) (i:Nat):Prop:=(h.IsListIter x.it x.a i/\h.IsList x.a x.items)\/(h.IsTupleIter x.it x.a i/\h.IsTuple x.a x.items)
theorem SrcAt.keep {h h':Heap} {x:Src} {i:Nat} (q:SrcAt h x i) (k1:∀o,h.get? x.it=some o->h'.get? x.it=some o) (k2:∀o,h.get? x.a=some o->h'.get? x.a=some o):SrcAt h' x i:=by
 rcases q with⟨q1,q2⟩|⟨q1,o,e,r⟩
 ·exact .inl ⟨q1.at k1,q2.at k2⟩
 ·exact .inr ⟨q1.at k1,o,k2 o e,r⟩
theorem SrcAt.ne {h:Heap} {x:Src} {i:Nat} (q:SrcAt h x i):x.a≠x.it:=λz=>by
 rcases q with⟨⟨o,e,c,_⟩,⟨o',e',c',_⟩⟩|⟨⟨o,e,c,_⟩,⟨o',e',c',_⟩⟩
 ·rw[z,e] at e';cases e';rw[c] at c';injection c' with y;exact absurd y (by decide)
 ·rw[z,e] at e';cases e';rw[c] at c';injection c' with y;exact absurd y (by decide)
theorem Ws {x:Src} {i:Nat} {v:Value} {Q:Value->Shared->Prop} (q:SrcAt s.heap x i) (hx:x.items[i]?=some v) (hQ:∀h',SrcAt h' x (i+1)->Heap.SameBut x.it s.heap h'->Q v { s with heap:=h' }) :
  wpAny (model prog w) A (Builtin.SmallTypes.nextOf (.ref x.it)) Q E s:=by
 have ne:=q.ne
 rcases q with⟨q1,q2⟩|⟨q1,q2⟩
 ·exact wpAny_nextOf_list_item q1 q2 hx λh' i1 sb=>hQ h' (.inl ⟨i1,q2.at λo e=>sb.extBut _ _ ne e⟩) sb
 ·exact Mp q1 q2 hx λh' i1 sb=>hQ h' (.inr ⟨i1,let ⟨o,e,r⟩:=q2;⟨o,sb.extBut _ _ ne e,r⟩⟩) sb
theorem rD {x:Src} {i:Nat} {Q:Value->Shared->Prop} (hh:A.handled=none) (q:SrcAt s.heap x i) (hx:x.items[i]?=none)
  (hE:∀h' e,Heap.ExtBut x.it s.heap h'->(∃o,h'.get? e=some o/\o.cls=.type "StopIteration")->E (.ref e) { s with heap:=h' }):wpAny (model prog w) A (Builtin.SmallTypes.nextOf (.ref x.it)) Q E s:=by
 rcases q with⟨q1,q2⟩|⟨q1,q2⟩
 ·exact wpAny_nextOf_list_end hh q1 q2 hx hE
 ·exact Jt hh q1 q2 hx hE
abbrev IsZ (h:Heap) (z TI TO:Addr) (f0 f1:Value):Prop:=h.get? z=some { cls:=.type "zip",dict:=none,data:=.fields #[f0,f1,.bool false,.ref TI,.ref TO],slots:=#[] }
abbrev Dd (h:Heap) (T:Addr) (xs:List Value):Prop:=h.get? T=some { cls:=.type "tuple",data:=.seq xs.toArray }
structure Apart (z TI TO:Addr) (ls:List Src):Prop where
 TIz:TI≠z
 TOz:TO≠z
 TITO:TI≠TO
 it:∀x∈ls,x.it≠z/\x.it≠TI/\x.it≠TO
 a:∀x∈ls,x.a≠z/\x.a≠TO
 ai:∀x∈ls,∀y∈ls,x.a≠y.it
 nd:(ls.map (·.it)).Nodup
def Rest (z TO:Addr) (ls:List Src) (h h':Heap):Prop:=∀c o,c≠z->c≠TO->c∉ls.map (·.it)->h.get? c=some o->h'.get? c=some o
theorem rF {xs olds:List Value} {k:Nat} {v:Value} (hk:k < olds.length) (hx:xs.length=olds.length) (e:xs[k]?=some v):(xs.take k++olds.drop k).toArray.setIfInBounds k v=(xs.take (k+1)++olds.drop (k+1)).toArray:=by
 rw[List.setIfInBounds_toArray]
 congr 1
 have hl:(xs.take k).length=k:=by rw[Qbp];omega
 rw[List.set_append_right _ _ (by omega),hl,Nat.sub_self,Qaj hk,QaO,List.take_add_one,e]
 simp
structure Mid (z TI TO:Addr) (ls:List Src) (xs olds:List Value) (i:Nat) (f0 f1:Value) (h:Heap) (k:Nat) (h':Heap):Prop where
 hz:IsZ h' z TI TO f0 f1
 hTI:Dd h' TI (ls.map λx=>.ref x.it)
 done:∀j x,ls[j]?=some x->SrcAt h' x (if j < k then i+1 else i)
 rest:Rest z TO ls h h'
 size:h'.objs.size=h.objs.size
theorem Mid.draw {z TI TO:Addr} {ls:List Src} {xs olds:List Value} {i:Nat} {f0 f1:Value} {h h1 h2:Heap} {k:Nat} {x:Src} (D:Apart z TI TO ls) (m:Mid z TI TO ls xs olds i f0 f1 h k h1) (hx:ls[k]?=some x) (q:SrcAt h2 x (i+1)) (sb:Heap.SameBut x.it h1 h2) :
  Mid z TI TO ls xs olds i f0 f1 h (k+1) h2:=by
 have hm:=Qaz hx
 have hi:=D.it x hm
 refine⟨sb.extBut _ _ hi.1.symm m.hz,sb.extBut _ _ hi.2.1.symm m.hTI,λj y hy=>?_,λc o c1 c2 c3 e=>sb.extBut _ _ (λz=>c3 (z ▸ Qca.mpr ⟨x,hm,rfl⟩)) (m.rest c o c1 c2 c3 e),by rw[sb.1,m.size]⟩
 by_cases hj:j=k
 ·subst hj
  rw[hx] at hy
  cases hy
  rw[if_pos (Qbv _)]
  exact q
 ·have h1:=m.done j y hy
  have hne:y.it≠x.it:=λz=>hj (by
   have e1:(ls.map (·.it))[j]?=some y.it:=by rw[Qbc,hy];rfl
   have e2:(ls.map (·.it))[k]?=some x.it:=by rw[Qbc,hx];rfl
   rw[z] at e1
   have l1:=(Qai.mp e1)
   have l2:=(Qai.mp e2)
   exact (List.getElem_inj D.nd).mp (l1.2.trans l2.2.symm))
  have hc:(if j < k+1 then i+1 else i)=(if j < k then i+1 else i):=by
   by_cases c:j < k
   ·rw[if_pos c,if_pos (by omega)]
   ·rw[if_neg c,if_neg (by omega)]
  rw[hc]
  exact h1.keep (λo e=>sb.extBut _ _ hne e) (λo e=>sb.extBut _ _ (D.ai y (Qaz hy) x hm) e)
theorem Mid.other {z TI TO:Addr} {ls:List Src} {xs olds:List Value} {i:Nat} {f0 f1:Value} {h h1 h2:Heap} {k:Nat} (D:Apart z TI TO ls) (m:Mid z TI TO ls xs olds i f0 f1 h k h1) (sb:Heap.SameBut TO h1 h2):Mid z TI TO ls xs olds i f0 f1 h k h2:=by
 refine⟨sb.extBut _ _ D.TOz.symm m.hz,sb.extBut _ _ D.TITO m.hTI,λj y hy=>?_,λc o c1 c2 c3 e=>sb.extBut _ _ c2 (m.rest c o c1 c2 c3 e),by rw[sb.1,m.size]⟩
 have hm:=Qaz hy
 exact (m.done j y hy).keep (λo e=>sb.extBut _ _ (D.it y hm).2.2 e) (λo e=>sb.extBut _ _ (D.a y hm).2 e)
theorem Vx {z TI TO:Addr} {ls:List Src} {xs olds:List Value} {i:Nat} {f1:Value} {Q:Value->Shared->Prop} (D:Apart z TI TO ls) (hz:IsZ s.heap z TI TO .none f1) (hTI:Dd s.heap TI (ls.map λx=>.ref x.it)) (hTO:Dd s.heap TO olds)
  (hat:∀x∈ls,SrcAt s.heap x i) (hne:ls≠[]) (hl1:xs.length=ls.length) (hl2:olds.length=ls.length) (hx:∀(j:Nat) (x:Src),ls[j]?=some x->∃v,xs[j]?=some v/\x.items[i]?=some v) (hsz:ls.length<=100)
  (hQ:∀h',IsZ h' z TI TO (rawInt s.heap.objs.size) (.bool false)->Dd h' TI (ls.map λx=>.ref x.it)->Dd h' TO xs->(∀x∈ls,SrcAt h' x (i+1))->Dd h' s.heap.objs.size xs->h'.objs.size=s.heap.objs.size+1->Rest z TO ls s.heap h'->Q (.ref s.heap.objs.size) { s with heap:=h' }) :
  wpAny (model prog w) A (Builtin.«zip.__next__» ⟨[.ref z],[]⟩) (λfin s'=>∃v,fin=.done (.ret v)/\Q v s') E s:=by
 show wpAny _ _ (field (.ref z) 2 >>= _) _ _ _
 refine Qcn (Qcl hz rfl (x:=.bool false) rfl ?_)
 show wpAny _ _ (field (.ref z) 3 >>= _) _ _ _
 refine Qcn (Qcl hz rfl (x:=.ref TI) rfl ?_)
 refine Qcn (QbP hTI rfl ?_)
 dsimp only
 rw[if_neg (by cases ls with | nil=>exact absurd rfl hne | cons a r=>simp)]
 show wpAny _ _ (Builtin.SmallTypes.ownedTupleIsFree (.ref z) >>= _) _ _ _
 refine Qcn ?_
 unfold Builtin.SmallTypes.ownedTupleIsFree
 refine Qcn (Qcl hz rfl (x:=.none) rfl (Qco ?_))
 simp only[if_true]
 refine Qcn (wpAny_rule ?_)
 refine Qcn (Qcl hz rfl (x:=.ref TO) rfl ?_)
 refine Qcn (QaV hz (by simp) λh₁ hz₁ hs₁=>?_)
 replace hz₁ : IsZ h₁ z TI TO .ellipsis f1:=hz₁
 refine Qcn ?_
 have m0:Mid z TI TO ls xs olds i .ellipsis f1 s.heap 0 h₁:=by
  refine⟨hz₁,hs₁.extBut _ _ D.TIz hTI,λj x hj=>?_,λc o c1 _ _ e=>hs₁.extBut _ _ c1 e,hs₁.1⟩
  have hm:=Qaz hj
  rw[if_neg (QbI _)]
  exact (hat x hm).keep (λo e=>hs₁.extBut _ _ (D.it x hm).1 e) (λo e=>hs₁.extBut _ _ (D.a x hm).1 e)
 have X7 : Dd h₁ TO (xs.take 0++olds.drop 0):=hs₁.extBut _ _ D.TOz hTO
 refine RV (λl b s'=>∃k h',k<=ls.length/\l=((ls.map λx=>Value.ref x.it).drop k).zipIdx k/\b=⟨none,⟨⟩⟩/\s'={ s with heap:=h' }/\Mid z TI TO ls xs olds i .ellipsis f1 s.heap k h'/\Dd h' TO (xs.take k++olds.drop k)) (λb s' h=>?_) (λx r b s' h=>?_) _ _ _ ⟨0,h₁,Qcj _,rfl,rfl,rfl,m0,X7⟩
 ·obtain⟨k,h',hk,e1,rfl,rfl,m,hT⟩:=h
  have hkl:k=ls.length:=by
   have:=congrArg List.length e1
   rw[List.length_nil,List.length_zipIdx,Qbt,Qbx] at this
   omega
  subst hkl
  rw[<-hl1,Qbo,hl1,<-hl2,List.drop_length,QbD] at hT
  dsimp only
  refine Qcn (QbP hT rfl ?_)
  refine Qcn (wpAny_newTuple ?_ (by show xs.length<=sizeLine;rw[Qcm];omega))
  have hkl:∀j x,ls[j]?=some x->SrcAt h' x (i+1):=λj x hj=>by
   have:=m.done j x hj
   rw[if_pos (Qai.mp hj).1] at this
   exact this
  have hzlt:z < h'.objs.size:=Qcb m.hz
  have hTOlt:TO < h'.objs.size:=Qcb hT
  show wpAny _ _ (Builtin.SmallTypes.ownedTupleHandOut (.ref z) (.ref h'.objs.size) >>= _) _ _ _
  refine Qcn ?_
  unfold Builtin.SmallTypes.ownedTupleHandOut
  have hz₆ : IsZ (h'.push { cls:=.type "tuple",data:=.seq xs.toArray }) z TI TO .ellipsis f1:=Qat _ m.hz
  refine Qcn (QaV hz₆ (by simp) λh₇ hz₇ hs₇=>?_)
  replace hz₇ : IsZ h₇ z TI TO (rawInt h'.objs.size) f1:=hz₇
  refine QaV hz₇ (by simp) λh₈ hz₈ hs₈=>?_
  replace hz₈ : IsZ h₈ z TI TO (rawInt h'.objs.size) (.bool false):=hz₈
  have up:∀c o,c≠z->h'.get? c=some o->h₈.get? c=some o:=λc o c1 e=>hs₈.extBut _ _ c1 (hs₇.extBut _ _ c1 (Qat _ e))
  have hT₈ : Dd h₈ h'.objs.size xs:=hs₈.extBut _ _ (Qcg hzlt) (hs₇.extBut _ _ (Qcg hzlt) (QaF _ rfl))
  have hz8:h₈.objs.size=h'.objs.size+1:=by rw[hs₈.1,hs₇.1,QbN]
  have hsz':=m.size
  rw[hsz'] at hz₈ hT₈ hz8
  refine Qco ⟨_,rfl,?_⟩
  show Q (.ref h'.objs.size) _
  rw[hsz']
  refine hQ h₈ hz₈ (up _ _ D.TIz m.hTI) (up _ _ D.TOz hT) (λx hm=>?_) hT₈ hz8 λc o c1 c2 c3 e=>up c o c1 (m.rest c o c1 c2 c3 e)
  obtain⟨j,hj⟩:=QaC hm
  exact (hkl j x hj).keep (λo e=>up _ o (D.it x hm).1 e) (λo e=>up _ o (D.a x hm).1 e)
 ·obtain⟨k,h',hk,e1,rfl,rfl,m,hT⟩:=h
  have hkl:k < ls.length:=by
   have:=congrArg List.length e1
   rw[Qbq,List.length_zipIdx,Qbt,Qbx] at this
   omega
  obtain⟨y,hy⟩ : ∃y,ls[k]?=some y:=⟨_,Qal hkl⟩
  have hm:=Qaz hy
  rw[Qaj (by rw[Qbx];exact hkl),List.zipIdx_cons,List.getElem_map] at e1
  have ey:ls[k]=y:=(Qai.mp hy).2
  rw[ey] at e1
  injection e1 with e1 e2
  subst e1 e2
  obtain⟨v,hv1,hv2⟩:=hx k y hy
  refine Qcn (wpAny_onRaise ?_)
  show wpAny _ _ (Builtin.SmallTypes.nextOf (.ref y.it) >>= _) _ _ _
  have q0:=m.done k y hy
  rw[if_neg (QbV _)] at q0
  refine Qcn (Ws q0 hv2 λh2 q2 sb2=>Qco ?_)
  have m2:=m.draw D hy q2 sb2
  have hT2:Dd h2 TO (xs.take k++olds.drop k):=sb2.extBut _ _ (D.it y hm).2.2.symm hT
  have hln:(xs.take k++olds.drop k).length<=100:=by rw[QaM,Qbp,Qbt];omega
  have hsm:=rF (xs:=xs) (olds:=olds) (k:=k) (v:=v) (by omega) (by omega) hv1
  refine Qcn (QbP hT2 rfl ?_)
  refine Qcn (wpAny_updateSeq hT2 rfl ?_ (by rw[Qbb,Qcm];omega) (by rw[hsm,Qbb,Qcm,QaM,Qbp,Qbt];omega))
  have sb3:Heap.SameBut TO h2 (h2.update TO (Obj.mapSeq λx=>x.setIfInBounds k v)):=QaJ ..
  have hT3:Dd (h2.update TO (Obj.mapSeq λx=>x.setIfInBounds k v)) TO (xs.take (k+1)++olds.drop (k+1)):=by
   show (h2.update TO _).get? TO=_
   rw[Qax _ hT2 rfl,<-hsm]
   simp[Obj.mapSeq]
  refine Qcn (wpAny_letGo (Qco ?_))
  exact⟨k+1,_,hkl,rfl,rfl,rfl,m2.other D sb3,hT3⟩
theorem Wd {z TI TO:Addr} {ls:List Src} {olds:List Value} {i:Nat} {f1:Value} {Q:Fin->Shared->Prop} (hh:A.handled=none) (D:Apart z TI TO ls) (hz:IsZ s.heap z TI TO .none f1) (hTI:Dd s.heap TI (ls.map λx=>.ref x.it)) (hTO:Dd s.heap TO olds)
  (hat:∀x∈ls,SrcAt s.heap x i) (hne:ls≠[]) (hl2:olds.length=ls.length) (hsz:ls.length<=100) (hend:∃x∈ls,x.items[i]?=none)
  (hE:∀h' e,Rest z TO ls s.heap h'->(∃o,h'.get? e=some o/\o.cls=.type "StopIteration")->E (.ref e) { s with heap:=h' }) :
  wpAny (model prog w) A (Builtin.«zip.__next__» ⟨[.ref z],[]⟩) Q E s:=by
 show wpAny _ _ (field (.ref z) 2 >>= _) _ _ _
 refine Qcn (Qcl hz rfl (x:=.bool false) rfl ?_)
 show wpAny _ _ (field (.ref z) 3 >>= _) _ _ _
 refine Qcn (Qcl hz rfl (x:=.ref TI) rfl ?_)
 refine Qcn (QbP hTI rfl ?_)
 dsimp only
 rw[if_neg (by cases ls with | nil=>exact absurd rfl hne | cons a r=>simp)]
 show wpAny _ _ (Builtin.SmallTypes.ownedTupleIsFree (.ref z) >>= _) _ _ _
 refine Qcn ?_
 unfold Builtin.SmallTypes.ownedTupleIsFree
 refine Qcn (Qcl hz rfl (x:=.none) rfl (Qco ?_))
 simp only[if_true]
 refine Qcn (wpAny_rule ?_)
 refine Qcn (Qcl hz rfl (x:=.ref TO) rfl ?_)
 refine Qcn (QaV hz (by simp) λh₁ hz₁ hs₁=>?_)
 replace hz₁ : IsZ h₁ z TI TO .ellipsis f1:=hz₁
 refine Qcn ?_
 have m0:Mid z TI TO ls [] olds i .ellipsis f1 s.heap 0 h₁:=by
  refine⟨hz₁,hs₁.extBut _ _ D.TIz hTI,λj x hj=>?_,λc o c1 _ _ e=>hs₁.extBut _ _ c1 e,hs₁.1⟩
  have hm:=Qaz hj
  rw[if_neg (QbI _)]
  exact (hat x hm).keep (λo e=>hs₁.extBut _ _ (D.it x hm).1 e) (λo e=>hs₁.extBut _ _ (D.a x hm).1 e)
 have X7 : Dd h₁ TO olds:=hs₁.extBut _ _ D.TOz hTO
 refine RV (λl b s'=>∃k h' ys,k<=ls.length/\l=((ls.map λx=>Value.ref x.it).drop k).zipIdx k/\b=⟨none,⟨⟩⟩/\s'={ s with heap:=h' }/\Mid z TI TO ls [] olds i .ellipsis f1 s.heap k h'/\Dd h' TO ys/\ys.length=ls.length/\∃x∈ls.drop k,x.items[i]?=none) (λb s' h=>?_) (λx r b s' h=>?_) _ _ _ ⟨0,h₁,olds,Qcj _,rfl,rfl,rfl,m0,X7,hl2,hend⟩
 ·obtain⟨k,h',ys,hk,e1,rfl,rfl,m,hT,hy,x,hx,_⟩:=h
  have:k=ls.length:=by
   have:=congrArg List.length e1
   rw[List.length_nil,List.length_zipIdx,Qbt,Qbx] at this
   omega
  subst this
  rw[List.drop_length] at hx
  cases hx
 ·obtain⟨k,h',ys,hk,e1,rfl,rfl,m,hT,hys,xe,hxe,hxn⟩:=h
  have hkl:k < ls.length:=by
   have:=congrArg List.length e1
   rw[Qbq,List.length_zipIdx,Qbt,Qbx] at this
   omega
  obtain⟨y,hy⟩ : ∃y,ls[k]?=some y:=⟨_,Qal hkl⟩
  have hm:=Qaz hy
  rw[Qaj (by rw[Qbx];exact hkl),List.zipIdx_cons,List.getElem_map] at e1
  have ey:ls[k]=y:=(Qai.mp hy).2
  rw[ey] at e1
  injection e1 with e1 e2
  subst e1 e2
  refine Qcn (wpAny_onRaise ?_)
  show wpAny _ _ (Builtin.SmallTypes.nextOf (.ref y.it) >>= _) _ _ _
  have q0:=m.done k y hy
  rw[if_neg (QbV _)] at q0
  cases hv:y.items[i]? with
  | none=>
   refine Qcn (rD hh q0 hv λh₂ e hs₂ he=>?_)
   obtain⟨oe,hoe,hce⟩:=he
   have hz₂ : IsZ h₂ z TI TO .ellipsis f1:=hs₂ _ _ (D.it y hm).1.symm m.hz
   have hez:e≠z:=λx=>by subst x;rw[hz₂] at hoe;cases hoe;simp at hce
   refine QaV hz₂ (by simp) λh₃ _ hs₃=>hE h₃ e (λc o c1 c2 c3 x=>hs₃.extBut _ _ c1 (hs₂ _ _ (λq=>c3 (q ▸ Qca.mpr ⟨y,hm,rfl⟩)) (m.rest c o c1 c2 c3 x))) ⟨oe,hs₃.extBut _ _ hez hoe,hce⟩
  | some v=>
   refine Qcn (Ws q0 hv λh2 q2 sb2=>Qco ?_)
   have m2:=m.draw D hy q2 sb2
   have hT2:Dd h2 TO ys:=sb2.extBut _ _ (D.it y hm).2.2.symm hT
   refine Qcn (QbP hT2 rfl ?_)
   refine Qcn (wpAny_updateSeq hT2 rfl ?_ (by rw[Qbb,Qcm];omega) (by rw[Array.size_setIfInBounds,Qbb,Qcm];omega))
   have sb3:Heap.SameBut TO h2 (h2.update TO (Obj.mapSeq λx=>x.setIfInBounds k v)):=QaJ ..
   have hT3:Dd (h2.update TO (Obj.mapSeq λx=>x.setIfInBounds k v)) TO (ys.set k v):=by
    show (h2.update TO _).get? TO=_
    rw[Qax _ hT2 rfl,<-List.setIfInBounds_toArray]
    simp[Obj.mapSeq]
   refine Qcn (wpAny_letGo (Qco ?_))
   refine⟨k+1,_,ys.set k v,hkl,rfl,rfl,rfl,m2.other D sb3,hT3,by rw[List.length_set];exact hys,xe,?_,hxn⟩
   rw[Qaj hkl,ey] at hxe
   rcases QbS.mp hxe with z | z
   ·subst z;rw[hv] at hxn;cases hxn
   ·exact z
theorem bM {z TI TO:Addr} {f0 f1:Value} {Q:Option Value->Shared->Prop} (hz:IsZ s.heap z TI TO f0 f1) {Qi:Value->Shared->Prop} (h:wpAny (model prog w) A.in1 (Builtin.«zip.__next__» ⟨[.ref z],[]⟩) (λfin s'=>∃v,fin=.done (.ret v)/\Qi v s') (λ_ _=>False) s) (hQ:∀v s',Qi v s'->Q (some v) s') :
  wpAny (model prog w) A (pyNext (.ref z)) Q E s:=by
 have hT:s.TypeIs (.ref z) "zip":=⟨_,hz,rfl⟩
 unfold pyNext
 refine Qcn (QbX (Qar (name:=Str.ofString "__next__") hT F.slot_zip_next (Qbr F.slot_zip_next hT F.entry_zip_next (Qcp h (λfin s' q=>?_) λ_ _ f=>f.elim) (F.args_zip_next_1 _))))
 obtain⟨v,e,q⟩:=q
 exact⟨v,e,Qco (hQ v s' q)⟩
theorem Uj {z TI TO:Addr} {f0 f1:Value} {Q:Option Value->Shared->Prop} {R:Heap->Prop} (hz:IsZ s.heap z TI TO f0 f1)
  (h:wpAny (model prog w) A.in1 (Builtin.«zip.__next__» ⟨[.ref z],[]⟩) (λ_ _=>False) (λv s'=>∃h' e,v=.ref e/\s'={ s with heap:=h' }/\R h'/\∃o,h'.get? e=some o/\o.cls=.type "StopIteration") s) (hQ:∀h',R h'->Q none { s with heap:=h' }) :
  wpAny (model prog w) A (pyNext (.ref z)) Q E s:=by
 have hT:s.TypeIs (.ref z) "zip":=⟨_,hz,rfl⟩
 unfold pyNext
 refine Qcn (QbX (Qar (name:=Str.ofString "__next__") hT F.slot_zip_next (Qbr F.slot_zip_next hT F.entry_zip_next (Qcp h (λ_ _ f=>f.elim) λv s' q=>?_) (F.args_zip_next_1 _))))
 obtain⟨h',e,rfl,rfl,r,o,ho,hc⟩:=q
 exact Qcn (wpAny_isInstance (T:="StopIteration") (b:=true) ⟨o,ho,hc⟩ isSubtype_stop (Qco (hQ _ r)))
theorem SQ {z TI TO:Addr} {f0 f1:Value} {Q:Value->Shared->Prop} (hz:IsZ s.heap z TI TO f0 f1) (h:Q (.ref z) s):wpAny (model prog w) A (pyIter (.ref z)) Q E s:=by
 have hT:s.TypeIs (.ref z) "zip":=⟨_,hz,rfl⟩
 refine wpAny_pyIter_slot hT F.slot_zip_iter (Qbr F.slot_zip_iter hT F.entry_zip_iter ?_ (F.args_zip_iter_1 _))
 show wpAny _ _ (ret (.ref z)) _ _ s
 exact Qco ⟨_,rfl,"zip",_,hT,F.slot_zip_next.lookup,h⟩
theorem iu {elts:List Expr} {x1} {pos:Pos} {z TI TO T:Addr} {f1:Value} {Q:Unit->Shared->Prop} (hz:IsZ s.heap z TI TO (rawInt T) f1)
  (hQ:∀h',IsZ h' z TI TO .none f1->Heap.SameBut z s.heap h'->Q () { s with heap:=h' }):wpAny (model prog w) A (letOwnedTupleGo (.Tuple elts x1 pos) (.ref z) (.ref T)) Q E s:=by
 unfold letOwnedTupleGo
 refine Qcn (wpAny_load hz ?_)
 show wpAny _ _ (if (["enumerate","zip","dict_itemiterator","dict_reverseitemiterator","odict_iterator","itertools.zip_longest","itertools.pairwise"].contains "zip" &&
   (#[rawInt T,f1,.bool false,.ref TI,.ref TO]:Array Value)[0]? == some (rawInt T))=true then _ else _) Q E s
 rw[if_pos (by simp)]
 refine Qcn (wpAny_rule ?_)
 show wpAny _ _ (setField (.ref z) 0 .none) Q E s
 exact QaV hz (by simp) λh' hz' hs'=>hQ h' hz' hs'
end
end PySem.ZZ
namespace PySem
namespace F
end F
end PySem
namespace PySem.ZZ
open PySem
def Ql (h:Heap) (a:Addr) (xs:Array Value) (c:String):Prop:=(c="list_iterator"/\h.IsList a xs)\/(c="tuple_iterator"/\h.IsTuple a xs)
theorem Ql.src {h h':Heap} {a it:Addr} {xs:Array Value} {c:String} (q:Ql h a xs c) (k:∀o,h.get? a=some o->h'.get? a=some o) (e:h'.get? it=some { cls:=.type c,data:=.fields #[.ref a,.int 0 0] }):SrcAt h' ⟨it,a,xs⟩ 0:=by
 rcases q with⟨rfl,q⟩|⟨rfl,o,ho,r⟩
 ·exact .inl ⟨⟨_,e,rfl,rfl⟩,q.at k⟩
 ·exact .inr ⟨⟨_,e,rfl,rfl⟩,o,k o ho,r⟩
theorem Ql.lt {h:Heap} {a:Addr} {xs:Array Value} {c:String} (q:Ql h a xs c):a < h.objs.size:=by
 rcases q with⟨rfl,o,e,_⟩|⟨rfl,o,e,_⟩
 ·exact Qcb e
 ·exact Qcb e
abbrev itO (c:String) (l:Addr):Obj:={ cls:=.type c,data:=.fields #[.ref l,.int 0 0] }
abbrev tuO (xs:Array Value):Obj:={ cls:=.type "tuple",data:=.seq xs }
abbrev z2a (h:Heap) (c1 c2:String) (l1 l2:Addr):Heap:=((((h.push (itO c1 l1)).push (itO c2 l2)).push (tuO #[.ref h.objs.size,.ref (h.push (itO c1 l1)).objs.size])).push (tuO #[.none,.none]))
abbrev z2 (h:Heap) (c1 c2:String) (l1 l2:Addr):Heap:=(z2a h c1 c2 l1 l2).push
 { cls:=.type "zip",data:=.fields #[.none,.bool false,.bool false,.ref ((h.push (itO c1 l1)).push (itO c2 l2)).objs.size,.ref (((h.push (itO c1 l1)).push (itO c2 l2)).push (tuO #[.ref h.objs.size,.ref (h.push (itO c1 l1)).objs.size])).objs.size] }
theorem cu (l1 l2:Addr) (xs ys:Array Value) (c1 c2:String):Meets (Builtin.«zip.__new__» ⟨[.type "zip",.ref l1,.ref l2],[]⟩) (λ_ R s=>Ql s.heap l1 xs c1/\Ql s.heap l2 ys c2/\R (.ok (.ret (.ref (z2a s.heap c1 c2 l1 l2).objs.size))) { s with heap:=z2 s.heap c1 c2 l1 l2 }):=
 .of_wp λprog w A R s h=>by
  obtain⟨hp,g,d,tk,os⟩:=s
  obtain⟨hl1,hl2,h⟩:=h
  have hsub:=sub_zip
  rcases hl1 with⟨rfl,hl1⟩|⟨rfl,hl1⟩
  ·have hL1:Heap.IsList (Shared.heap ⟨hp,g,d,tk,os⟩) l1 xs:=hl1
   rcases hl2 with⟨rfl,hl2⟩|⟨rfl,hl2⟩
   ·have hL2:Heap.IsList (Shared.heap ⟨hp.push (itO "list_iterator" l1),g,d,tk,os⟩) l2 ys:=Heap.IsList.push hl2 _
    wp_walk using Qbl hL1,Qbl hL2
    exact⟨_,rfl,h⟩
   ·have hL2:Heap.IsTuple (Shared.heap ⟨hp.push (itO "list_iterator" l1),g,d,tk,os⟩) l2 ys:=Heap.IsTuple.push hl2 _
    wp_walk using Qbl hL1,QaU hL2
    exact⟨_,rfl,h⟩
  ·have hL1:Heap.IsTuple (Shared.heap ⟨hp,g,d,tk,os⟩) l1 xs:=hl1
   rcases hl2 with⟨rfl,hl2⟩|⟨rfl,hl2⟩
   ·have hL2:Heap.IsList (Shared.heap ⟨hp.push (itO "tuple_iterator" l1),g,d,tk,os⟩) l2 ys:=Heap.IsList.push hl2 _
    wp_walk using QaU hL1,Qbl hL2
    exact⟨_,rfl,h⟩
   ·have hL2:Heap.IsTuple (Shared.heap ⟨hp.push (itO "tuple_iterator" l1),g,d,tk,os⟩) l2 ys:=Heap.IsTuple.push hl2 _
    wp_walk using QaU hL1,QaU hL2
    exact⟨_,rfl,h⟩
abbrev z3a (h:Heap) (c1 c2 c3:String) (l1 l2 l3:Addr):Heap:=(((((h.push (itO c1 l1)).push (itO c2 l2)).push (itO c3 l3)).push (tuO #[.ref h.objs.size,.ref (h.push (itO c1 l1)).objs.size,.ref ((h.push (itO c1 l1)).push (itO c2 l2)).objs.size])).push (tuO #[.none,.none,.none]))
abbrev z3 (h:Heap) (c1 c2 c3:String) (l1 l2 l3:Addr):Heap:=(z3a h c1 c2 c3 l1 l2 l3).push
 { cls:=.type "zip",data:=.fields #[.none,.bool false,.bool false,.ref (((h.push (itO c1 l1)).push (itO c2 l2)).push (itO c3 l3)).objs.size,.ref ((((h.push (itO c1 l1)).push (itO c2 l2)).push (itO c3 l3)).push (tuO #[.ref h.objs.size,.ref (h.push (itO c1 l1)).objs.size,.ref ((h.push (itO c1 l1)).push (itO c2 l2)).objs.size])).objs.size] }
structure zU (h:Heap) (z TI TO:Addr) (ls:List Src) (h':Heap):Prop where
 hz:IsZ h' z TI TO .none (.bool false)
 hTI:Dd h' TI (ls.map λx=>.ref x.it)
 hTO:Dd h' TO (ls.map λ_=>.none)
 at_:∀x∈ls,SrcAt h' x 0
 ap:Apart z TI TO ls
 new:h.objs.size<=z/\h.objs.size<=TI/\h.objs.size<=TO/\∀x∈ls,h.objs.size<=x.it
 keep:∀c o,h.get? c=some o->h'.get? c=some o
theorem na {a b:Nat} (h:a≠b):@Ne Addr a b:=h
theorem apart2 {n l1 l2:Nat} {xs ys:Array Value} (a1:l1 < n) (a2:l2 < n):Apart (n+1+1+1+1:Nat) (n+1+1:Nat) (n+1+1+1:Nat) [⟨n,l1,xs⟩,⟨(n+1:Nat),l2,ys⟩]:=by
 refine⟨na (by omega),na (by omega),na (by omega),λx hx=>?_,λx hx=>?_,λx hx y hy=>?_,?_⟩
 ·rcases QbS.mp hx with rfl | hx
  ·exact⟨na (by dsimp only;omega),na (by dsimp only;omega),na (by dsimp only;omega)⟩
  ·cases QaT.mp hx
   exact⟨na (by dsimp only;omega),na (by dsimp only;omega),na (by dsimp only;omega)⟩
 ·rcases QbS.mp hx with rfl | hx
  ·exact⟨na (by dsimp only;omega),na (by dsimp only;omega)⟩
  ·cases QaT.mp hx
   exact⟨na (by dsimp only;omega),na (by dsimp only;omega)⟩
 ·rcases QbS.mp hx with rfl | hx
  ·rcases QbS.mp hy with rfl | hy
   ·exact na (by dsimp only;omega)
   ·cases QaT.mp hy
    exact na (by dsimp only;omega)
  ·cases QaT.mp hx
   rcases QbS.mp hy with rfl | hy
   ·exact na (by dsimp only;omega)
   ·cases QaT.mp hy
    exact na (by dsimp only;omega)
 ·show List.Nodup ([n,n+1]:List Nat)
  simp
section
variable {prog:Program} {w:World} {A:Around} {E:Value->Shared->Prop} {s:Shared}
theorem jy {l1 l2:Addr} {xs ys:Array Value} {c1 c2:String} {Q:Value->Shared->Prop} (hl1:Ql s.heap l1 xs c1) (hl2:Ql s.heap l2 ys c2)
  (h:∀h' z TI TO i1 i2,zU s.heap z TI TO [⟨i1,l1,xs⟩,⟨i2,l2,ys⟩] h'->Q (.ref z) { s with heap:=h' }):wpAny (model prog w) A (call (.type "zip") [.ref l1,.ref l2]) Q E s:=by
 refine callType_new F.called_zip (by decide) (F.typeCall_zip_2 _ _) (F.newCall_zip_2 _ _) (λobj=>F.args_object_init_3 obj _ _) F.entry_zip_new (cu l1 l2 xs ys c1 c2) ⟨hl1,hl2,?_⟩
 have g5:(z2 s.heap c1 c2 l1 l2).get? (z2a s.heap c1 c2 l1 l2).objs.size=some _:=QaF _ rfl
 have g4:(z2 s.heap c1 c2 l1 l2).get? (((s.heap.push (itO c1 l1)).push (itO c2 l2)).push (tuO #[.ref s.heap.objs.size,.ref (s.heap.push (itO c1 l1)).objs.size])).objs.size=some (tuO #[.none,.none]):=Qat _ (QaF _ rfl)
 have g3:(z2 s.heap c1 c2 l1 l2).get? ((s.heap.push (itO c1 l1)).push (itO c2 l2)).objs.size=some (tuO #[.ref s.heap.objs.size,.ref (s.heap.push (itO c1 l1)).objs.size]):=Qat _ (Qat _ (QaF _ rfl))
 have g2:(z2 s.heap c1 c2 l1 l2).get? (s.heap.push (itO c1 l1)).objs.size=some (itO c2 l2):=Qat _ (Qat _ (Qat _ (QaF _ rfl)))
 have g1:(z2 s.heap c1 c2 l1 l2).get? s.heap.objs.size=some (itO c1 l1):=Qat _ (Qat _ (Qat _ (Qat _ (QaF _ rfl))))
 have kp:∀c o,s.heap.get? c=some o->(z2 s.heap c1 c2 l1 l2).get? c=some o:=λc o x=>Qat _ (Qat _ (Qat _ (Qat _ (Qat _ x))))
 have a1:=hl1.lt
 have a2:=hl2.lt
 refine⟨⟨_,g5,rfl⟩,h _ _ _ _ s.heap.objs.size (s.heap.push (itO c1 l1)).objs.size ⟨g5,g3,g4,?_,?_,?_,kp⟩⟩
 ·intro x hx
  rcases QbS.mp hx with rfl | hx
  ·exact hl1.src (λo e=>kp _ _ e) g1
  ·rcases QbS.mp hx with rfl | hx
   ·exact hl2.src (λo e=>kp _ _ e) g2
   ·cases hx
 ·simp only[QbN]
  exact apart2 a1 a2
 ·simp only[QbN,QbS,Qbs,Qcr,forall_eq_or_imp,forall_eq];omega
end
end PySem.ZZ
namespace PySem
namespace F
end F
end PySem
namespace PySem.ZZ
open PySem
section
variable {prog:Program} {w:World} {A:Around} {E:Value->Shared->Prop} {s:Shared}
structure Run (hb:Heap) (z TI TO:Addr) (ls:List Src) (rows:Nat->List Value) (S:Addr) (ts:List Addr) (h:Heap):Prop where
 inc:ts.Pairwise (· < ·)
 lo:∀t∈ts,S < t/\t < h.objs.size
 at_:∀j t,ts[j]?=some t->Dd h t (rows j)
 keep:∀c o,hb.get? c=some o->h.get? c=some o
 hTI:Dd h TI (ls.map λx=>.ref x.it)
 hTO:∃olds,Dd h TO olds/\olds.length=ls.length
 src:∀x∈ls,SrcAt h x ts.length
 hz:(ts=[]/\IsZ h z TI TO .none (.bool false))\/∃(T:Addr) (f1:Value),ts[0]?=some T/\IsZ h z TI TO (rawInt T) f1
structure Below (hb:Heap) (z TI TO:Addr) (ls:List Src) (S:Addr):Prop where
 ap:Apart z TI TO ls
 old:hb.objs.size<=z/\hb.objs.size<=TI/\hb.objs.size<=TO/\∀x∈ls,hb.objs.size<=x.it
 lz:z < S
 lTI:TI < S
 lTO:TO < S
 it:∀x∈ls,x.it < S/\x.a < S
 base:hb.objs.size<=S
theorem Run.frame {hb:Heap} {z TI TO:Addr} {ls:List Src} {rows:Nat->List Value} {S:Addr} {ts:List Addr} {h h':Heap} (B:Below hb z TI TO ls S) (r:Run hb z TI TO ls rows S ts h) (hs:h'.objs.size=h.objs.size) (k:∀c o,c≠S->h.get? c=some o->h'.get? c=some o):Run hb z TI TO ls rows S ts h':=by
 obtain⟨olds,o1,o2⟩:=r.hTO
 refine⟨r.inc,λt ht=>by rw[hs];exact r.lo t ht,λj t e=>k _ _ (Qcg (r.lo t (Qaz e)).1) (r.at_ j t e),λc o e=>k _ _ (Qcc (QaR (Qcb e) B.base)) (r.keep c o e),k _ _ (Qcc B.lTI) r.hTI,⟨olds,k _ _ (Qcc B.lTO) o1,o2⟩,λx hx=>?_,?_⟩
 ·exact (r.src x hx).keep (λo e=>k _ _ (Qcc (B.it x hx).1) e) (λo e=>k _ _ (Qcc (B.it x hx).2) e)
 ·rcases r.hz with⟨e,q⟩|⟨T,f1,e,q⟩
  ·exact .inl ⟨e,k _ _ (Qcc B.lz) q⟩
  ·exact .inr ⟨T,f1,e,k _ _ (Qcc B.lz) q⟩
theorem Run.more {hb:Heap} {z TI TO:Addr} {ls:List Src} {rows:Nat->List Value} {S:Addr} {ts:List Addr} {h h':Heap} (B:Below hb z TI TO ls S) (r:Run hb z TI TO ls rows S ts h) (hS:S < h.objs.size) (hs:h'.objs.size=h.objs.size+1) (hr:Rest z TO ls h h')
  (hTI:Dd h' TI (ls.map λx=>.ref x.it)) (hTO:∃olds,Dd h' TO olds/\olds.length=ls.length) (src:∀x∈ls,SrcAt h' x (ts.length+1)) (new:Dd h' h.objs.size (rows ts.length)) (hz:∃(T:Addr) (f1:Value),(ts++[h.objs.size])[0]?=some T/\IsZ h' z TI TO (rawInt T) f1):Run hb z TI TO ls rows S (ts++[h.objs.size]) h':=by
 have fr:∀t,S < t->t≠z/\t≠TO/\t∉ls.map (·.it):=λt ht=>⟨λe=>by rw[e] at ht;exact Nat.lt_asymm ht B.lz,λe=>by rw[e] at ht;exact Nat.lt_asymm ht B.lTO,λe=>by
  obtain⟨x,hx,e'⟩:=Qca.mp e
  rw[<-e'] at ht
  exact Nat.lt_asymm ht (B.it x hx).1⟩
 refine⟨?_,λt ht=>?_,λj t e=>?_,λc o e=>?_,hTI,hTO,λx hx=>by rw[QaM];exact src x hx,.inr hz⟩
 ·exact List.pairwise_append.mpr ⟨r.inc,List.pairwise_singleton _ _,λa ha b hb'=>by
   have:b=h.objs.size:=by simpa using hb'
   rw[this]
   exact (r.lo a ha).2⟩
 ·rw[hs]
  rcases Qbz.mp ht with ht | ht
  ·have:=r.lo t ht;exact⟨this.1,Nat.lt_succ_of_lt this.2⟩
  ·have:t=h.objs.size:=by simpa using ht
   rw[this]
   exact⟨hS,Qbv _⟩
 ·by_cases c:j < ts.length
  ·rw[List.getElem?_append_left c] at e
   have hlo:=r.lo t (Qaz e)
   obtain⟨f1,f2,f3⟩:=fr t hlo.1
   exact hr t _ f1 f2 f3 (r.at_ j t e)
  ·rw[List.getElem?_append_right (Nat.le_of_not_lt c)] at e
   have hj:j - ts.length=0:=by
    have:=(Qai.mp e).1
    rw[Qay] at this
    omega
   rw[hj] at e
   cases e
   have:j=ts.length:=by omega
   rw[this]
   exact new
 ·have hlt:=Qcb e
  refine hr c o (λq=>?_) (λq=>?_) (λq=>?_) (r.keep c o e)
  ·rw[q] at hlt;exact absurd hlt (Nat.not_lt.mpr B.old.1)
  ·rw[q] at hlt;exact absurd hlt (Nat.not_lt.mpr B.old.2.2.1)
  ·obtain⟨x,hx,e'⟩:=Qca.mp q
   rw[<-e'] at hlt
   exact absurd hlt (Nat.not_lt.mpr (B.old.2.2.2 x hx))
end
end PySem.ZZ
namespace PySem.ZZ
open PySem
section
variable {prog:Program} {w:World} {A:Around} {E:Value->Shared->Prop} {s:Shared}
structure Rows (ls:List Src) (n:Nat) (rows:Nat->List Value):Prop where
 row:∀j,j < n->(rows j).length=ls.length/\∀(k:Nat) (x:Src),ls[k]?=some x->∃v,(rows j)[k]?=some v/\x.items[j]?=some v
 stop:∃x∈ls,x.items[n]?=none
 ne:ls≠[]
 few:ls.length<=100
 most:n<=1000
end
end PySem.ZZ
namespace L2
open PySem PySem.Spec PyProof.Rows
theorem Gh {h:Heap} {p q:Addr} {o o':Obj} (e:h.get? p=some o) (e':h.get? q=some o') (n:o.cls≠o'.cls):p≠q:=λz=>by
 rw[z,e'] at e
 cases e
 exact n rfl
theorem Jv {h:Heap} {a:Addr} {xs ys:Array Value} (h1:h.IsList a xs) (h2:h.IsTuple a ys):False:=by
 obtain⟨o,e,c,_⟩:=h1
 obtain⟨o',e',c',_⟩:=h2
 rw[e'] at e
 cases e
 rw[c'] at c
 injection c with q
 exact absurd q (by decide)
section
variable {X:Cx}
end
mutual
inductive JD (K:PySem.W.Frag) (H:Hp):V->PyData->Prop
 | non:JD K H .non .none
 | bl (b:Bool):JD K H (.bl b) (.bool b)
 | int (i:Int):JD K H (.int i) (.int i)
 | str (x:Str):JD K H (.str x) (.str x)
 | tup {a:Addr} {xs:List V} {ds:List PyData}:SqT K H a xs->KJ K H xs ds->JD K H (.ref a) (.tuple ds)
inductive KJ (K:PySem.W.Frag) (H:Hp):List V->List PyData->Prop
 | nil:KJ K H [] []
 | cons {x:V} {d:PyData} {xs:List V} {ds:List PyData}:JD K H x d->KJ K H xs ds->KJ K H (x::xs) (d::ds)
end
section
variable {X:Cx} {pins:List (Addr×Obj)} {σ : St} {H:Hp} {s:Shared}
mutual
theorem JD.reads (I:Inv X pins σ H s):∀{v:V} {d:PyData} {u:Value},JD X.K H v d->RelV v u->∃as,Reads s.heap u d as
 | _,_,_,.non,r=>by cases (show _=Value.none from r);exact⟨_,.none⟩
 | _,_,_,.bl b,r=>by cases (show _=Value.bool b from r);exact⟨_,.bool b⟩
 | _,_,_,.int i,r=>by obtain⟨t,rfl⟩:=(show ∃t,_=Value.int i t from r);exact⟨_,.int i t⟩
 | _,_,_,.str x,r=>by obtain⟨t,rfl⟩:=(show ∃t,_=Value.str x t from r);exact⟨_,.str x t⟩
 | _,_,_,.tup (a:=a) (xs:=xs) e q,r=>by
  cases (show _=Value.ref a from r)
  obtain⟨its,rv,⟨o,ho,hc,n,hd⟩,_⟩:=I.tuple e
  obtain⟨as,z⟩:=KJ.reads I q rv
  exact⟨_,.tuple ho hc hd (by simpa using z)⟩
theorem KJ.reads (I:Inv X pins σ H s):∀{xs:List V} {ds:List PyData} {us:List Value},KJ X.K H xs ds->Vals xs us->∃as,ReadsAll s.heap us ds as
 | _,_,_,.nil,.nil=>⟨_,.nil⟩
 | _,_,_,.cons p q,.cons r t=>by
  obtain⟨as,a1⟩:=JD.reads I p r
  obtain⟨bs,b1⟩:=KJ.reads I q t
  exact⟨_,.cons a1 b1⟩
end
end
section
variable {X:Cx} {K:PySem.W.Frag}
theorem gG (h:X.K=K) (hu:X.A.units+64 < cLine):OpR X (compareOp .Eq) (λx y H Q=>∃d e,JD K H x d/\JD K H y e/\SeqAt.shaped d=true/\SeqAt.shaped e=true/\Q (.bl (PyData.eqv d e)) H):=by
 subst h
 intro pins s σ H x y v u Q I rx ry h
 obtain⟨d,e,p,p',sd,se,q⟩:=h
 obtain⟨as,r1⟩:=p.reads I rx
 obtain⟨bs,r2⟩:=p'.reads I ry
 exact eq_dataH r1 r2 sd se hu ⟨.bl (PyData.eqv d e),H,I,rfl,q⟩
theorem Ik {es:List Expr} {k:Nat} {pos:Pos} {t:TGs} {n:Nat} (hK:X.K=K) (hc:X.calm=true) (h:PGs X es t)
  (hn:(assignEach es X.env).length=n:=by rfl) (hst:(assignEach es X.env).findIdx? (·.1)=none:=by rfl):PG X (.Tuple es k pos) (xZ K n t):=hK ▸ CV hc h hn hst
end
end L2
namespace L2
open PySem PySem.Spec PyProof.Rows
abbrev qj:List Value:=[.type "ValueError",.type "Exception",.type "BaseException",.type "object"]
structure XCl (K:PySem.W.Frag) (C:Addr):Prop where
 ex:excIn K C qj "ValueError.__new__"=true
 ga:findIn K (.ref C) "__getattribute__"=some (some (.builtin "BaseException.__getattribute__"))
 gn:findIn K (.ref C) "__getattr__"=some none
 ca:findIn K (.ref C) "__class__"=some (some (.builtin "object.__class__"))
 mo:subIn K (.ref C) (.type "object")=some true
 mb:subIn K (.ref C) (.type "BaseException")=some true
 kp:keepIn K (.ref C)=true
section
variable {K:PySem.W.Frag} {C:Addr}
theorem XCl.look (T:XCl K C):∃dd cd sl,K.lookup C=some ⟨.type "type",dd,.cls cd,sl⟩:=by
 have q:=T.ex
 unfold excIn at q
 split at q
 ·rename_i dd cd sl ho
  exact⟨dd,cd,sl,ho⟩
 ·cases q
theorem XCl.obj (T:XCl K C) {h:Heap} (X:K.In h):∃bm N nm q bs hdct sn sub ab col dd k0 k1 k2 k3 k5 mN,h.get? C=some (excClassObj nm q C N bs bm hdct sn sub ab col dd k0 k1 k2 k3 k5 "ValueError.__new__")/\h.Ns N mN/\mN "__init__"=none/\OwnTail h qj bm:=by
 have q:=T.ex
 unfold excIn at q
 split at q
 ·rename_i dd cd sl ho
  split at q
  ·rename_i C' bm k0 k1 k2 k3 n k5 hm hs
   simp only[Qbu,beq_iff_eq,Bool.not_eq_true'] at q
   obtain⟨⟨⟨⟨⟨rfl,rfl⟩,hdel⟩,ht⟩,hok⟩,hni⟩:=q
   obtain⟨nm,bs,mro,ns,qn,hd,sn,sub,ab,col,del⟩:=cd
   dsimp only at hm hdel hok hni
   subst hm hdel
   have hsl:sl=#[k0,k1,k2,k3,some (.builtin "ValueError.__new__"),k5]:=by
    obtain⟨l⟩:=sl
    simp only at hs
    rw[hs]
   subst hsl
   exact⟨bm,ns,nm,qn,bs,hd,sn,sub,ab,col,dd,k0,k1,k2,k3,k5,_,X _ _ ho,.of_isNs (PySem.W.isNs_of_in X hok),PySem.W.nsMap_none_of_in X hok hni,PySem.W.tail_of_in X ht⟩
  ·cases q
 ·cases q
end
def XAt (a C:Addr) (h:Heap):Prop:=∃o vs,h.get? a=some o/\o.cls=.ref C/\o.data=.fields vs/\vs[2]?=some .none
section
variable {prog:Program} {w:World} {A:Around} {E:Value->Shared->Prop} {h:Heap} {g:Array GenState} {d:Drawn} {t:Nat} {os:OsState} {K:PySem.W.Frag} {a C:Addr} {o:Obj}
theorem aM {R:Result->Shared->Prop} (X:K.In h) (T:XCl K C) (hx:h.get? a=some o) (hc:o.cls=.ref C) (hq:R (.ok (.ret (.ref C))) ⟨h,g,d,t,os⟩) :
  codeAny (model prog w) A (.call (.builtin "getset_descriptor.__get__") ⟨[.builtin "object.__class__",.ref a,.ref C],[]⟩) R ⟨h,g,d,t,os⟩:=by
 have hT5:(⟨h,g,d,t,os⟩ : Shared).TypeIs (.builtin "object.__class__") "getset_descriptor":=F.typeOf_object_class
 have f8:PySem.W.Looks (model prog w) h (isSubtype (.ref C) (.type (".".intercalate ("object.__class__".cutAt '.').dropLast))) true:=by
  rw[F.owner_object_class];exact looks_subIn X T.mo
 refine QaE F.slot_gs_get.plain F.entry_gs_get (F.slot_gs_get.check _ _ _ _ _ _ _ _ hT5 (F.args_gs_get _ _ _) ?_)
 repeat (any_goals (first | assumption | (with_reducible refine Qbm hx ?_;rw[hc]) | with_reducible refine f8.at ?_ | wp_step))
 refine⟨Code.quiet_builtin _ (by trivial),codeAny_builtin F.entry_object_class ?_⟩
 repeat (any_goals (first | assumption | (with_reducible refine Qbm hx ?_;rw[hc]) | wp_step))
theorem Wf {tk:Tok} {Q:Fin->Shared->Prop} (X:K.In h) (T:XCl K C) (hx:h.get? a=some o) (hc:o.cls=.ref C) (hq:Q (.done (.ret (.ref C))) ⟨h,g,d,t,os⟩) :
  wpAny (model prog w) A (Builtin.«object.__getattribute__» ⟨[.ref a,.str "__class__" tk],[]⟩) Q E ⟨h,g,d,t,os⟩:=by
 have hT5:(⟨h,g,d,t,os⟩ : Shared).TypeIs (.builtin "object.__class__") "getset_descriptor":=F.typeOf_object_class
 have f4:=looks_findIn (M:=model prog w) X T.ca
 have f5:=F.typeOf_object_class
 have f6:=F.slot_gs_get.lookup
 have f7:=F.slot_gs_set.lookup
 repeat (any_goals (first | assumption | (with_reducible refine Qbm hx ?_;rw[hc]) | with_reducible refine f4.at ?_ | wp_step))
 refine aM X T hx hc ?_
 repeat (any_goals (first | assumption | wp_step))
theorem d8 {M:Model} {nameV:Value} {Q:Unit->Shared->Prop} (X:K.In h) (T:XCl K C) (hx:h.get? a=some o) (hc:o.cls=.ref C) (hq:Q () ⟨h,g,d,t,os⟩) :
  wpAny M A (checkBuiltinCall "BaseException.__getattribute__" ⟨[.ref a,nameV],[]⟩) Q E ⟨h,g,d,t,os⟩:=by
 have hk:builtinKind "BaseException.__getattribute__"=some .slot:=by trivial
 have hsplit:splitId "BaseException.__getattribute__"=some ("BaseException","__getattribute__"):=by trivial
 have f1:=looks_subIn (M:=M) X T.mb
 have ha:=F.args_bexc_ga (.ref a) nameV
 simp only[checkBuiltinCall,hk,hsplit]
 refine Qcn ?_
 ·unfold isInstance
  repeat (first | (with_reducible refine Qbm hx ?_;rw[hc]) | with_reducible refine f1.at ?_ | wp_step)
  exact hq
theorem YG {tk:Tok} {R:Result->Shared->Prop} (X:K.In h) (T:XCl K C) (hx:h.get? a=some o) (hc:o.cls=.ref C) (hq:R (.ok (.ret (.ref C))) ⟨h,g,d,t,os⟩) :
  codeAny (model prog w) A (.call (.builtin "BaseException.__getattribute__") ⟨[.ref a,.str "__class__" tk],[]⟩) R ⟨h,g,d,t,os⟩:=
 QaE F.attr_ValueError.ga.plain F.entry_bexc_ga (d8 X T hx hc (Wf X T hx hc hq))
theorem dZ {tk:Tok} {fill expr:Bool} {Q:Value->Shared->Prop} (X:K.In h) (T:XCl K C) (hx:h.get? a=some o) (hc:o.cls=.ref C) (hq:Q (.ref C) ⟨h,g,d,t,os⟩) :
  wpAny (model prog w) A (getAttrBy (.ref a) (.str "__class__" tk) fill expr) Q E ⟨h,g,d,t,os⟩:=by
 have f1:=looks_findIn (M:=model prog w) X T.ga
 have f2:=looks_findIn (M:=model prog w) X T.gn
 have f3:=F.attr_ValueError.ga.bind (.ref a)
 have hx0:(expr&&onTheHeap (Value.builtin "BaseException.__getattribute__"))=false:=by cases expr <;> rfl
 have hx2:(Value.builtin "BaseException.__getattribute__" == Value.builtin "object.__getattribute__")=false:=by trivial
 have hx1:(onTheHeap (Value.ref C)&&Value.builtin "BaseException.__getattribute__" == Value.builtin "object.__getattribute__")=false:=by rw[hx2];rfl
 repeat (any_goals (first | assumption | (with_reducible refine Qbm hx ?_;rw[hc]) | with_reducible refine f1.at ?_ | with_reducible refine f2.at ?_ | wp_step))
 refine YG X T hx hc ?_
 repeat (any_goals (first | assumption | wp_step))
theorem YH {Q:Option Value->Shared->Prop} (X:K.In h) (T:XCl K C) (hx:h.get? a=some o) (hc:o.cls=.ref C) (hq:Q (some (.ref C)) ⟨h,g,d,t+1,os⟩):wpAny (model prog w) A (getAttr? (.ref a) "__class__") Q E ⟨h,g,d,t,os⟩:=by
 unfold getAttr? getAttrBy?
 repeat (any_goals (first | assumption | with_reducible apply dZ X T hx hc | wp_step))
end
theorem mW {K:PySem.W.Frag} {a C:Addr} (T:XCl K C):PySem.W.KitX K (.ref a) (.ref C) (XAt a C) where
 ty:=λM h X p=>by
  obtain⟨o,vs,h1,h2,_⟩:=p
  exact h2 ▸ (PySem.W.Looks.ld h1).andThen .now
 it:=λ_ _ X _=>by
  obtain⟨dd,cd,sl,ho⟩:=T.look
  intro A' Q' E' s' k q
  unfold isType loadHead
  exact Qcn (wpAny_loadPart (k _ _ (X _ _ ho)) (Qco q))
 ne:=λh tp dd its n sl X htp=>by
  obtain⟨_,cd,_,ho⟩:=T.look
  refine Bool.eq_false_iff.mpr λq=>?_
  have e:C=tp:=Value.ref.inj (beq_iff_eq.mp q)
  subst e
  have z:=congrArg Obj.data (QbB ((X _ _ ho).symm.trans htp))
  cases z
 ca:=λ{_ _ _ _ _ s} X p k=>by
  obtain⟨h,g,d,t,os⟩:=s
  obtain⟨o,vs,h1,h2,_⟩:=p
  exact YH X T h1 h2 k
def xo (a C:Addr):HO:=.ext (XAt a C)
section
variable {X:Cx} {pins:List (Addr×Obj)} {σ : St} {H:Hp} {s:Shared}
theorem yL {a C:Addr} (I:Inv X pins σ H s) (e:H a=some (xo a C)):XAt a C s.heap:=(show Bm X.prog X.w H s.heap a (xo a C) from I.hok a _ e).1
theorem Tj {A:Around} {E:Value->Shared->Prop} {Q:Value->Shared->Prop} {a C:Addr} {c:Value} {b:Bool} (I:Inv X pins σ H s) (T:XCl X.K C) (e:H a=some (xo a C)) (k:kitOne X.K (.ref C) c=some b) (h:∀tk,Q (.bool b) { s with toks:=tk }) :
  wpAny (model X.prog X.w) A (call (.builtin "isinstance") [.ref a,c]) Q E s:=
 kia_one (mW T) I.kIn (yL I e) k (λz=>nomatch z) h
end
def XT (B:Heap) (e C:Addr) (fl:Option Value) (h:Heap):Prop:=
 ∃oe vs,h.get? e=some oe/\oe.cls=.ref C/\oe.data=.fields vs/\vs[2]?=some .none /\
  match fl with
  | none=>vs[1]?=some .none
  | some f=>∃T oT ts,vs[1]?=some (.ref T)/\B.get? T=none/\T≠e/\h.get? T=some oT/\oT.data=.fields ts/\ts[3]?=some f
structure Fl (B:Heap) (l:List Env) (e C:Addr) (fl:Option Value) (h:Heap):Prop where
 stays:B.StaysIn h
 new:B.get? e=none
 fr:h.FunFrames B l
 tr:XT B e C fl h
theorem XT.at {B h:Heap} {e C:Addr} {fl:Option Value} (x:XT B e C fl h):XAt e C h:=by
 obtain⟨oe,vs,h1,h2,h3,h4,_⟩:=x
 exact⟨oe,vs,h1,h2,h3,h4⟩
section
variable {M:Model} {A:Around} {E:Value->Shared->Prop} {s:Shared} {B:Heap} {env:Env} {outer l:List Env} {L e C:Addr} {Q:Unit->Shared->Prop}
theorem Yd {oe:Obj} {vs:Array Value} {head:Value} {hadNext:Bool} (hfr:A.frames=some (env::outer)) (hf:env.frame=some L) (st:B.StaysIn s.heap) (new:B.get? e=none) (fr:s.heap.FunFrames B (env::outer))
  (he:s.heap.get? e=some oe) (hc:oe.cls=.ref C) (hd:oe.data=.fields vs) (h2:vs[2]?=some .none) (hq:∀h',Fl B (env::outer) e C (some (rawInt L)) h'->s.heap.UpToSlots h'->Q () { s with heap:=h' }) :
  wpAny M A (do let fo <-frameOf env;let pl <-entryPlaceOf L hadNext;let tb <-EntryCells.newEntry head fo .none (rawInt L) .none pl;setField (.ref e) 1 tb) Q E s:=by
 have hsz:2 < vs.size:=(Qaf.mp h2).1
 have nf:e∉(env::outer).filterMap (·.frame):=λhm=>by
  obtain⟨_,of,hof,nof⟩:=fr.mem hm
  rw[he] at hof
  cases hof
  exact nof vs hd
 refine Qcn (wpAny_frameOf_fun hfr fr hf λhA sA=>?_)
 refine Qcn (wpAny_entryPlaceOf λpl ipl=>?_)
 unfold EntryCells.newEntry newFields
 refine Qcn (Qbf ?_ (ipl.sizeOk5 _ _ _ _ _))
 have eA:hA.get? e=some oe:=(sA.2.1 e nf).trans he
 have stA:B.StaysIn hA:=λb o q=>(sA.2.1 b λhm=>by rw[(fr.mem hm).1] at q;cases q).trans (st b o q)
 have key:∀(ob:Obj) (ts:Array Value),ob.data=.fields ts->ob.isFreed=false->ts[3]?=some (rawInt L)->wpAny M A (setField (.ref e) 1 (.ref hA.objs.size)) Q E { s with heap:=hA.push ob }:=λob ts dT nfr iT=>by
  have eP:=Qat (h:=hA) ob eA
  refine wpAny_setField eP hd (by omega) (hq _ ?_ ?_)
  ·have hTe:hA.objs.size≠e:=Qcg (Qcb eA)
   have dN:=Obj.data_mapFields hd (·.setIfInBounds 1 (Value.ref hA.objs.size))
   have eN:=Qax (Obj.mapFields (·.setIfInBounds 1 (Value.ref hA.objs.size))) eP (Obj.isFreed_of_fields dN)
   have keep:∀b o,b≠e->hA.get? b=some o->((hA.push ob).update e (Obj.mapFields (·.setIfInBounds 1 (Value.ref hA.objs.size)))).get? b=some o:=λb o hb q=>by
    rw[Qav _ _ (Ne.symm hb)]
    exact Qat _ q
   refine⟨λb o q=>keep b o (λz=>by rw[z,new] at q;cases q) (stA b o q),new,fr.of_keeps λb o q nb=>?_,⟨_,_,eN,(Obj.cls_mapFields _ _).trans hc,dN,?_,hA.objs.size,ob,ts,?_,stA.fresh,hTe,?_,dT,iT⟩⟩
   ·obtain⟨sl,q'⟩:=sA.2.2 b o q
    exact⟨_,keep b _ (λz=>by rw[z,he] at q;cases q;exact nb vs hd) q',rfl⟩
   ·rw[Array.getElem?_setIfInBounds_ne (by decide)]
    exact h2
   ·simp[show 1 < vs.size by omega]
   ·rw[Qav _ _ (Ne.symm hTe)]
    exact QaF hA nfr
  ·intro b o q nb
   obtain⟨sl,q'⟩:=sA.2.2 b o q
   refine⟨sl,?_⟩
   rw[Qav _ _ (λz=>by rw[<-z,he] at q;cases q;exact nb vs hd)]
   exact Qat _ q'
 refine key _ _ rfl rfl ?_
 first | (simp;done) | (rcases ipl with rfl |⟨_,_,_,_,_,_,_,rfl⟩ <;> simp)
theorem au {fl:Option Value} (hfl:fl=none\/fl=some .none) (hfr:A.frames=some (env::outer)) (hf:env.frame=some L) (x:Fl B (env::outer) e C fl s.heap)
  (hq:∀h',Fl B (env::outer) e C (some (rawInt L)) h'->s.heap.UpToSlots h'->Q () { s with heap:=h' }):wpAny M A (noteFrame (.ref e) env) Q E s:=by
 obtain⟨st,new,fr,oe,vs,he,hc,hd,h2,ht⟩:=x
 unfold noteFrame
 simp only[hf]
 rcases hfl with rfl | rfl
 ·refine Qcn (Qcl he hd (show vs[1]?=some .none from ht) ?_)
  rw[if_neg (by decide)]
  exact Yd hfr hf st new fr he hc hd h2 hq
 ·obtain⟨T,oT,ts,h1,nT,hTe,hT,dT,iT⟩:=ht
  refine Qcn (Qcl he hd h1 ?_)
  rw[if_pos (show (Value.ref T != Value.none)=true from by simp)]
  refine Qcn (Qcl hT dT iT ?_)
  rw[if_neg (show ¬((Value.none == rawInt L)=true) from by simp[rawInt])]
  refine Qcn (wpAny_setField hT dT (Qaf.mp iT).1 ?_)
  have oth:∀b o,b≠T->s.heap.get? b=some o->(s.heap.update T (Obj.mapFields (·.setIfInBounds 3 Value.none))).get? b=some o:=λb o hb q=>(Qav _ _ (Ne.symm hb)).trans q
  have Xy:∀b o,s.heap.get? b=some o->(∀ws,o.data≠.fields ws)->b≠T:=λb o q nb z=>by rw[z,hT] at q;cases q;exact nb ts dT
  refine Yd (s:={ s with heap:=s.heap.update T (Obj.mapFields (·.setIfInBounds 3 Value.none)) }) hfr hf (λb o q=>oth b o (λz=>by rw[z,nT] at q;cases q) (st b o q)) new
   (fr.of_keeps λb o q nb=>⟨o,oth b o (Xy b o q nb) q,rfl⟩) (oth e oe (Ne.symm hTe) he) hc hd h2 λh' y u=>hq h' y ?_
  exact λb o q nb=>u b o (oth b o (Xy b o q nb) q) nb
theorem Yb {f:Value} (x:Fl B l e C (some f) s.heap) (hq:∀h',Fl B l e C (some .none) h'->s.heap.UpToSlots h'->Q () { s with heap:=h' }):wpAny M A (setFlight (.ref e) none) Q E s:=by
 obtain⟨st,new,fr,oe,vs,he,hc,hd,h2,T,oT,ts,h1,nT,hTe,hT,dT,iT⟩:=x
 have hsz:3 < ts.size:=(Qaf.mp iT).1
 have oth:∀b o,b≠T->s.heap.get? b=some o->(s.heap.update T (Obj.mapFields (·.setIfInBounds 3 Value.none))).get? b=some o:=λb o hb q=>(Qav _ _ (Ne.symm hb)).trans q
 have Xy:∀b o,s.heap.get? b=some o->(∀ws,o.data≠.fields ws)->b≠T:=λb o q nb z=>by rw[z,hT] at q;cases q;exact nb ts dT
 unfold setFlight
 refine Qcn (Qcl he hd h1 ?_)
 rw[if_pos (show (Value.ref T != Value.none)=true from by simp)]
 refine wpAny_setField hT dT hsz (hq (s.heap.update T (Obj.mapFields (·.setIfInBounds 3 Value.none))) ⟨λb o q=>oth b o (λz=>by rw[z,nT] at q;cases q) (st b o q),new,fr.of_keeps λb o q nb=>⟨o,oth b o (Xy b o q nb) q,rfl⟩,?_⟩
  λb o q nb=>⟨o.slots,oth b o (Xy b o q nb) q⟩)
 have dN:=Obj.data_mapFields dT (·.setIfInBounds 3 Value.none)
 exact⟨oe,vs,oth e oe (Ne.symm hTe) he,hc,hd,h2,T,_,_,h1,nT,hTe,Qax _ hT (Obj.isFreed_of_fields dN),dN,by simp[hsz]⟩
theorem pL {fl:Option Value} (hfl:fl=none\/fl=some .none) (hfr:A.frames=some (env::outer)) (hf:env.frame=some L) (x:Fl B (env::outer) e C fl s.heap)
  (hq:∀h',Fl B outer e C (some .none) h'->s.heap.UpToSlots h'->Q () { s with heap:=h' }):wpAny M A (leaving env (.ref e)) Q E s:=by
 unfold leaving
 refine Qcn (au hfl hfr hf x λh1 y u1=>?_)
 refine Yb y λh2 z u2=>hq h2 ⟨z.stays,z.new,z.fr.2.2,z.tr⟩ (u1.trans u2)
end
theorem Bm.there {P:Program} {w:World} {H:Hp} {h:Heap} {a:Addr} {o:HO} (x:Bm P w H h a o):∃u,h.get? a=some u:=by
 cases o with
 | lst xs=>obtain⟨_,its,n,_,q⟩:=x;exact⟨_,q⟩
 | tup xs=>obtain⟨_,its,_,ob,q,_⟩:=x;exact⟨_,q⟩
 | dK kvs=>obtain⟨_,_,vs,_,ob,es,ep,q,_⟩:=x;exact⟨_,q⟩
 | dT kvs=>obtain⟨_,_,xs,_,ob,es,ep,q,_⟩:=x;exact⟨_,q⟩
 | set S n=>obtain⟨ob,es,ep,t,q,_⟩:=x;exact⟨_,q⟩
 | ins C dx fs=>obtain⟨_,_,_,q,_⟩:=x;exact⟨_,q⟩
 | own y=>exact x
 | xd fs=>obtain⟨mA,⟨od,es,ep,q,_⟩,_⟩:=x;exact⟨_,q⟩
 | rng lo hi=>obtain⟨t,u,v,q⟩:=x;exact⟨_,q⟩
 | frz ob u=>exact⟨_,x.1⟩
 | tbl ps=>exact⟨_,x⟩
 | met f y=>exact⟨_,x⟩
 | ext φ=>exact x.2.1
structure Exc (P:Program) (w:World) (outer:List Env) (H:Hp) (s:Shared) (e C:Addr) (B:Heap) (H':Hp) (s':Shared):Prop where
 os:s'.os=s.os
 bare:AllBare s'.gens
 fl:∃fl,(fl=none\/fl=some .none)/\Fl B outer e C fl s'.heap
 un:Un (frs outer) [] H H' s.heap s'.heap
 hok:HOk P w H' s'.heap
 tin:∀b o,s'.heap.get? b=some o->H' b≠none->B.get? b=some o
 old:∀b o,s.heap.get? b=some o->H b=none->b∉frs outer->B.get? b=some o
 ex:∀b o,s.heap.get? b=some o->b∉frs outer->∃o',B.get? b=some o'
def CX1 (P:Program) (w:World):CXT:=λouter H s E ev s'=>∃e C B H',ev=.ref e/\Exc P w outer H s e C B H' s'/\E (.ref C) none H'
section
variable {P:Program} {w:World} {outer:List Env} {H H':Hp} {s s':Shared} {e C:Addr} {B h2:Heap} {fl:Option Value}
theorem Exc.qL (x:Exc P w outer H s e C B H' s') (st:B.StaysIn h2):HOk P w H' h2:=λa o q=>
 (x.hok a o q).stay (λb u hb hu=>st b u (x.tin b u hu (by
  rcases hb with rfl | hb
  ·rw[q];exact λz=>nomatch z
  ·rw[hb];exact λz=>nomatch z))) (λ_ z=>z) λ_ _ z=>z
theorem Exc.zY (x:Exc P w outer H s e C B H' s') (f:Fl B outer e C fl h2) (u:s'.heap.UpToSlots h2):Un (frs outer) [] H H' s.heap h2:=by
 refine⟨λb o q n hb _=>f.stays b o (x.old b o q n hb),λb o q n hb hx=>?_,x.un.free,λb o q hx=>?_,x.un.tups,x.un.Gq,x.un.G8⟩
 ·obtain⟨sl,q1⟩:=x.un.slot b o q n hb hx
  obtain⟨_,_,g⟩:=x.fl
  obtain⟨_,o1,q2,nf⟩:=g.fr.mem hb
  rw[q1] at q2
  cases q2
  obtain⟨sl2,q3⟩:=u b _ q1 nf
  exact⟨sl2,q3⟩
 ·by_cases hb:b∈frs outer
  ·obtain⟨_,o1,q2,_⟩:=f.fr.mem hb
   exact⟨o1,q2⟩
  ·obtain⟨o1,q1⟩:=x.ex b o q hb
   exact⟨o1,f.stays b o1 q1⟩
theorem Exc.yM (x:Exc P w outer H s e C B H' s') (st:B.StaysIn h2):∀b o,h2.get? b=some o->H' b≠none->B.get? b=some o:=λb o q hb=>by
 cases hq:H' b with
 | none=>exact absurd hq hb
 | some v=>
  obtain⟨o1,q1⟩:=(x.hok b v hq).there
  have q2:=x.tin b o1 q1 hb
  have q3:=st b o1 q2
  rw[q] at q3
  cases q3
  exact q2
theorem Exc.free (x:Exc P w outer H s e C B H' s'):H' e=none:=by
 cases hq:H' e with
 | none=>rfl
 | some v=>
  obtain⟨o1,q1⟩:=(x.hok e v hq).there
  have q2:=x.tin e o1 q1 (by rw[hq];exact λz=>nomatch z)
  obtain⟨_,_,g⟩:=x.fl
  rw[g.new] at q2
  cases q2
theorem Exc.fresh (x:Exc P w outer H s e C B H' s'):s.heap.get? e=none:=by
 cases hq:s.heap.get? e with
 | none=>rfl
 | some o=>
  obtain⟨_,_,g⟩:=x.fl
  by_cases hb:e∈frs outer
  ·obtain⟨_,o1,q1,nf⟩:=g.fr.mem hb
   obtain⟨oe,vs,q2,_,q3,_⟩:=g.tr
   rw[q1] at q2
   cases q2
   exact absurd q3 (nf vs)
  ·obtain⟨o1,q1⟩:=x.ex e o hq hb
   rw[g.new] at q1
   cases q1
end
section
variable {X:Cx} {pins:List (Addr×Obj)} {σ : St} {H H':Hp} {s s':Shared} {e C:Addr} {B h2:Heap} {fl:Option Value}
theorem Exc.made {args:List Value} {h':Heap} (I:Inv X pins σ H s) (hx:Heap.MadeExcOf s.heap h' e (.ref C) args):Exc X.prog X.w X.stack H s e C (hideAll s.heap (frs X.stack)) H { s with heap:=h' }:=by
 have st:(hideAll s.heap (frs X.stack)).StaysIn s.heap:=λb o q=>PySem.W.of_hideAll _ q
 refine⟨rfl,I.bare,⟨none,.inl rfl,⟨λb o q=>hx.keeps b o (st b o q),?_,?_,?_⟩⟩,Un.kept hx.keeps,I.hok.kept hx.keeps,λb o q hb=>?_,λb o q n hb=>hideAll_get _ q hb,λb o q hb=>⟨o,hideAll_get _ q hb⟩⟩
 ·cases hq:(hideAll s.heap (frs X.stack)).get? e with
  | none=>rfl
  | some o=>
   have q:=st e o hq
   rw[hx.new] at q
   cases q
 ·have f0:s.heap.FunFrames (hideAll s.heap (frs X.stack)) X.stack:=PySem.W.funFrames_hide I.stack λenv he a ha=>List.mem_filterMap.mpr ⟨env,he,ha⟩
  exact f0.of_keeps λb o q _=>⟨o,hx.keeps b o q,rfl⟩
 ·obtain⟨t,q,_⟩:=hx.there
  exact⟨_,_,q,rfl,rfl,rfl,rfl⟩
 ·cases hq:H b with
  | none=>exact absurd hq hb
  | some v=>
   obtain⟨o1,q1⟩:=(I.hok b v hq).there
   have q2:=hx.keeps b o1 q1
   have q':h'.get? b=some o:=q
   rw[q'] at q2
   cases q2
   refine hideAll_get _ q1 λhm=>?_
   rw[I.T7 b hm] at hq
   cases hq
theorem Exc.leave {M:Model} {E1:Value->Shared->Prop} {Q:Unit->Shared->Prop} (I:Inv X pins σ H s) (hs:X.stack=X.env::X.outer) (hf:X.env.frame=some X.env.locals) (hx:X.ex=[]) (x:Exc X.prog X.w X.stack H s e C B H' s')
  (hq:∀h2,Exc X.prog X.w X.outer X.H₀ X.s₀ e C B H' { s' with heap:=h2 }->Q () { s' with heap:=h2 }):wpAny M X.A (leaving X.env (.ref e)) Q E1 s':=by
 obtain⟨fl,hfl,f⟩:=x.fl
 have f':=f
 rw[hs] at f'
 have nl:∀b o,X.s₀.heap.get? b=some o->b≠X.env.locals:=λb o q=>Qcc (QaR (Qcb q) I.ok.above)
 have ns:∀b o,X.s₀.heap.get? b=some o->b∉X.fs->b∉frs X.stack:=λb o q hb hm=>(QbS.mp (I.Ss b hm)).elim (nl b o q) hb
 have yd:∀b,b∈X.fs->b∈frs X.stack:=λb hb=>by
  rw[hs]
  unfold frs
  rw[List.filterMap_cons,hf]
  exact QaA _ hb
 have nx:∀b:Addr,b∉X.ex:=λb=>by rw[hx];simp
 refine pL hfl (I.ok.frames.trans (congrArg some hs)) hf f' λh2 g u=>hq h2 ⟨x.os.trans I.os,x.bare,⟨_,.inr rfl,g⟩,?_,x.qL g.stays,x.yM g.stays,λb o q n hb=>?_,λb o q hb=>?_⟩
 ·refine⟨λb o q n hb _=>?_,λb o q n hb _=>?_,λb o q n _=>?_,λb o q _=>?_,λb xs q=>x.un.tups b xs (I.base.tups b xs q),λb o v q=>x.un.Gq b o v (I.base.Gq b o v q),λb ps q=>?_⟩
  ·exact g.stays b o (x.old b o (I.base.keep b o q n hb (nx b)) (I.base.free b o q n (nx b)) (ns b o q hb))
  ·obtain⟨sl,q1⟩:=I.base.slot b o q n hb (nx b)
   obtain⟨sl2,q2⟩:=x.un.slot b _ q1 (I.base.free b o q n (nx b)) (yd b hb) (by simp)
   obtain⟨_,o1,q3,nf⟩:=f.fr.mem (yd b hb)
   rw[q2] at q3
   cases q3
   obtain⟨sl3,q4⟩:=u b _ q2 nf
   exact⟨sl3,q4⟩
  ·obtain⟨o1,q1⟩:=I.base.there b o q (nx b)
   exact x.un.free b o1 q1 (I.base.free b o q n (nx b)) (by simp)
  ·by_cases hb:b∈X.fs
   ·obtain⟨_,o1,q1,_⟩:=g.fr.mem hb
    exact⟨o1,q1⟩
   ·obtain⟨o1,q1⟩:=I.base.there b o q (nx b)
    obtain⟨o2,q2⟩:=x.ex b o1 q1 (ns b o q hb)
    exact⟨o2,g.stays b o2 q2⟩
  ·obtain⟨m1,q1⟩:=I.base.G8 b ps q
   obtain⟨m2,q2⟩:=x.un.G8 b _ q1
   exact⟨m1++m2,by rw[q2,Array.append_assoc]⟩
 ·exact x.old b o (I.base.keep b o q n hb (nx b)) (I.base.free b o q n (nx b)) (ns b o q hb)
 ·obtain⟨o1,q1⟩:=I.base.there b o q (nx b)
  exact x.ex b o1 q1 (ns b o q hb)
theorem Exc.caught (I:Inv X pins σ H s) (x:Exc X.prog X.w X.stack H s e C B H' s') (f:Fl B X.stack e C fl h2) (u:s'.heap.UpToSlots h2):Inv X pins σ (upd H' e (xo e C)) { s' with heap:=h2 }:=by
 have v:=x.zY f u
 have he:=x.fresh
 have hn:=x.free
 have ne:∀b o,s.heap.get? b=some o->b≠e:=λb o q z=>by rw[z,he] at q;cases q
 have un:Un (frs X.stack) [] H (upd H' e (xo e C)) s.heap h2:=⟨v.keep,v.slot,λb o q n hx=>by rw[Al (ne b o q)];exact v.free b o q n hx,v.there,λb xs q=>by rw[Al (Av (v.tups b xs q) hn)];exact v.tups b xs q,
  λb o w q=>by rw[Al (Av (v.Gq b o w q) hn)];exact v.Gq b o w q,λb ps q=>by
   obtain⟨m,q1⟩:=v.G8 b ps q
   exact⟨m,by rw[Al (Av q1 hn)];exact q1⟩⟩
 have hok:HOk X.prog X.w (upd H' e (xo e C)) h2:=λb o q=>by
  by_cases hb:b=e
  ·subst hb
   rw[Ac] at q
   cases q
   have at_:=f.tr.at
   refine⟨at_,?_,λh1 h3 p k=>?_⟩
   ·obtain⟨oe,vs,q1,_⟩:=at_
    exact⟨oe,q1⟩
   ·obtain⟨oe,vs,q1,q2⟩:=p
    exact⟨oe,vs,k oe q1,q2⟩
  ·rw[Al hb] at q
   exact (x.qL f.stays b o q).stay (λc w _ q1=>q1) (λc q1=>by rw[Al (Av q1 hn)];exact q1) λc xs q1=>by rw[Al (Av q1 hn)];exact q1
 exact I.call' (s':={ s' with heap:=h2 }) x.os un hok x.bare λb z=>absurd z (by simp)
end
def OD (X:Cx) (EX:St->XK):Prop:=∀(pins:List (Addr×Obj)) (σ : St) (H:Hp) (s:Shared) (ev:Value) (s':Shared),Inv X pins σ H s->CX1 X.prog X.w X.stack H s (EX σ) ev s'->X.xe ev s'
theorem Nq {X:Cx}:OD X (λ_=>E0):=λ_ _ _ _ _ _ _ h=>by
 obtain⟨_,_,_,_,_,_,z⟩:=h
 exact z.elim
theorem lN {P:Program} {w:World} {K:PySem.W.Frag} {mg:Str->Option Value} {base:Heap} {N:List Str} {qual:Str} {scope:Scope} {f:Addr} {cd:Value} {A:Around} {outer:List Env} {s:Shared} {H:Hp} {E:XK} :
  OD (Kp (CX1 P w) P w K mg base N qual scope f cd A outer s H E) (λ_=>E):=λpins σ H1 s1 ev s' I h=>by
 obtain⟨e,C,B,H',rfl,x,q⟩:=h
 exact x.leave I rfl rfl rfl λh2 y=>⟨e,C,B,H',rfl,y,q⟩
def uT (C:Addr) (EX:St->XK) (t:TA):TS:=λ_ σ H=>t σ H λvs H1=>vs.length<=sizeLine/\EX σ (.ref C) none H1
theorem Xf {X:Cx} {EX:St->XK} {C:Addr} {x:Str} {np cpos pos:Pos} {e:Expr} {es:List Expr} {t:TA} (hc:X.calm=true) (T:XCl X.K C) (hg:Gl X x) (hm:X.mg x=some (.ref C)) (hx:OD X EX) (ha:PA X (e::es) t)
  (hdb:(x == ("__debug__":Str))=false:=by decide) (he:starEach (e::es) X.env=(false,eval e X.env)::starEach es X.env:=by rfl) (hpl:(backTo cpos (starEach es X.env)).any (·.1)=false:=by rfl) :
  PS X (.Raise (some (.Call (.Name x np) (e::es) [] cpos)) none pos) (uT C EX t):=by
 intro pins s σ H D I h
 obtain⟨bm,N,nm,q,bs,hdct,sn,sub,ab,col,dd,k0,k1,k2,k3,k5,mN,hC,hN,hni,TL⟩:=T.obj I.mod.kin
 refine wpAny_Raise_call_subT F.excBase_ValueError (bm:=bm) (nm:=nm) (C:=C) (q:=q) (bs:=bs) (N:=N) (sn:=sn) (hdct:=hdct) (sub:=sub) (col:=col) (ab:=ab) (dd:=dd) (k5:=k5) (k3:=k3) (k2:=k2) (k1:=k1) (k0:=k0) (TL.hasType (by trivial)) (I.ok.hd hc) (by rw[he];show (false || (backTo cpos (starEach es X.env)).any (·.1))=false;rw[hpl];rfl) hni (KY I hg hm ⟨rfl,?_⟩ hdb)
 have h2:=ha cpos pins s σ H _ I h
 rw[he] at h2 ⊢
 refine Calls.evalArgs_plain (thn h2 λus s2 ⟨vs,H2,I2,r,hl,hE⟩=>⟨rfl,?_⟩)
 refine⟨by rw[<-r.length];exact hl,I2.bk _ _ hC,hN.keeps I2.bk,TL.keeps I2.bk,λh' ea mx=>?_⟩
 exact hx pins σ H2 s2 (.ref ea) { s2 with heap:=h' } I2 ⟨ea,C,_,H2,rfl,Exc.made I2 mx,hE⟩
section
variable {M:Model} {A:Around} {E:Value->Shared->Prop} {h:Heap} {g:Array GenState} {d:Drawn} {t:Nat} {os:OsState} {K:PySem.W.Frag} {e C HC:Addr}
theorem uM {Q:Bool->Shared->Prop} (X:K.In h) (TH:XCl K HC) (hs:subIn K (.ref C) (.ref HC)=some true) (x:XAt e C h) (hq:Q true ⟨h,g,d,t,os⟩):wpAny M A (excMatches (.ref e) (.ref HC)) Q E ⟨h,g,d,t,os⟩:=by
 obtain⟨oe,vs,he,hc,_⟩:=x
 obtain⟨dd,cd,sl,ho⟩:=TH.look
 have hH:=X _ _ ho
 have f1:=looks_subIn (M:=M) X TH.mb
 have f2:=looks_subIn (M:=M) X hs
 have f3:=tc_notTuple
 unfold excMatches
 repeat (first | (with_reducible refine Qbm he ?_;rw[hc]) | with_reducible refine Qbm hH ?_ | with_reducible refine f1.at ?_ | with_reducible refine f2.at ?_ | wp_step)
 exact hq
end
abbrev Cx.by (X:Cx) (pn:List (Addr×Obj)) (E:Value->Shared->Prop):Cx:={ X with pn:=pn,xe:=E }
abbrev Cx.suite (X:Cx) (pn:List (Addr×Obj)) (ev:Value):Cx:={ X with pn:=pn,xe:=λ_ _=>False,A:=X.A.mark (some ev),calm:=false }
section
variable {X:Cx} {pins Gw pn:List (Addr×Obj)} {σ : St} {H:Hp} {s:Shared} {E:Value->Shared->Prop} {ev:Value}
theorem Inv.by (I:Inv X pins σ H s) (E:Value->Shared->Prop):Inv (X.by (X.pn++pins) E) [] σ H s:=
 ⟨⟨I.ok.mod,I.ok.kind,I.ok.glob,I.ok.blt,I.ok.above,I.ok.inj,I.ok.has,I.ok.cab,I.ok.hd,I.ok.frames,I.ok.stk,I.ok.exf,I.ok.bs,I.ok.bsz,I.ok.Ly,I.ok.Jz,I.ok.FT,I.ok.frf⟩,I.os,I.bare,I.base,I.loc,I.cell,I.free,I.Ea,
  λp hp=>I.pin p (by simpa using hp),I.hok,I.len⟩
theorem Inv.NP (I:Inv (X.by (X.pn++pins) E) Gw σ H s):Inv X pins σ H s:=
 ⟨⟨I.ok.mod,I.ok.kind,I.ok.glob,I.ok.blt,I.ok.above,I.ok.inj,I.ok.has,I.ok.cab,I.ok.hd,I.ok.frames,I.ok.stk,I.ok.exf,I.ok.bs,I.ok.bsz,I.ok.Ly,I.ok.Jz,I.ok.FT,I.ok.frf⟩,I.os,I.bare,I.base,I.loc,I.cell,I.free,I.Ea,
  λp hp=>I.pin p (QaB _ hp),I.hok,I.len⟩
theorem Inv.suite (I:Inv (X.by pn E) Gw σ H s) (ev:Value):Inv (X.suite pn ev) Gw σ H s:=
 ⟨⟨I.ok.mod,I.ok.kind,I.ok.glob,I.ok.blt,I.ok.above,I.ok.inj,I.ok.has,I.ok.cab,(λz=>nomatch z),I.ok.frames,I.ok.stk,I.ok.exf,I.ok.bs,I.ok.bsz,I.ok.Ly,I.ok.Jz,I.ok.FT,I.ok.frf⟩,I.os,I.bare,I.base,I.loc,I.cell,I.free,I.Ea,
  I.pin,I.hok,I.len⟩
theorem Inv.Qs (hd:X.calm=true->X.A.handled=none) (I:Inv (X.suite (X.pn++pins) ev) Gw σ H s):Inv X pins σ H s:=
 ⟨⟨I.ok.mod,I.ok.kind,I.ok.glob,I.ok.blt,I.ok.above,I.ok.inj,I.ok.has,I.ok.cab,hd,I.ok.frames,I.ok.stk,I.ok.exf,I.ok.bs,I.ok.bsz,I.ok.Ly,I.ok.Jz,I.ok.FT,I.ok.frf⟩,I.os,I.bare,I.base,I.loc,I.cell,I.free,I.Ea,
  λp hp=>I.pin p (QaB _ hp),I.hok,I.len⟩
theorem SP.NP {D:Ends} {f:Flow} (h:SP (X.by (X.pn++pins) E) Gw D f s):SP X pins D f s:=by
 cases f with
 | next=>obtain⟨σ',H',I,q⟩:=h;exact⟨σ',H',I.NP,q⟩
 | brk=>obtain⟨σ',H',I,q⟩:=h;exact⟨σ',H',I.NP,q⟩
 | cont=>obtain⟨σ',H',I,q⟩:=h;exact⟨σ',H',I.NP,q⟩
 | ret u=>obtain⟨v,σ',H',I,r,q⟩:=h;exact⟨v,σ',H',I.NP,r,q⟩
theorem QJ {M:Model} {A:Around} {E1:Value->Shared->Prop} {i:Nat} {n:Str} {pos:Pos} {Q:Unit->Shared->Prop} (I:Inv X pins σ H s) (hN:X.N.Nodup) (hi:X.N[i]?=some n) (hl:X.env.scope.names.lookup n=some .local)
  (hq:∀s',Inv X pins (σ.set i none) H s'->Q () s'):wpAny M A (do bindName X.env n .none;unbindBehindTheSuite X.env n pos) Q E1 s:=by
 obtain⟨m,hn,hm⟩:=id I.loc
 have hcls:(X.env.scope.kind == .class || (X.env.scope.kind == .module&&X.env.locals != X.env.globals))=false:=by rw[I.ok.kind];rfl
 refine wpAny_nameGoes_keeps hl hn hcls λh' v nsv sb=>?_
 have hiσ : i < σ.length:=by rw[I.len];exact (Qai.mp hi).1
 obtain⟨oL,_,_,hoL,_⟩:=id hn
 have below:∀b o,X.s₀.heap.get? b=some o->b≠X.env.locals:=λb o q=>Qcc (QaR (Qcb q) I.ok.above)
 refine hq _ ⟨I.ok,I.os,I.bare,⟨λb o q nn hb hx=>?_,λb o q nn hb hx=>?_,I.base.free,λb o q hx=>?_,I.base.tups,I.base.Gq,I.base.G8⟩,⟨_,nsv,λj y w e1 e2 e3=>?_⟩,λy c q=>?_,I.free,I.Ea,λp hp=>?_,λb ob q=>?_,?_⟩
 ·exact (sb.2 b (below b o q)).trans (I.base.keep b o q nn hb hx)
 ·obtain⟨sl,q1⟩:=I.base.slot b o q nn hb hx
  exact⟨sl,(sb.2 b (below b o q)).trans q1⟩
 ·obtain⟨o',q1⟩:=I.base.there b o q hx
  exact⟨o',(sb.2 b (below b o q)).trans q1⟩
 ·by_cases hj:j=i
  ·subst hj
   rw[List.getElem?_set_self hiσ] at e2
   cases e2
  ·rw[List.getElem?_set_ne (Ne.symm hj)] at e2
   obtain⟨u,r,q⟩:=hm j y w e1 e2 e3
   refine⟨u,r,?_⟩
   rcases q with⟨k,q⟩|⟨k,c,q,z⟩
   ·have ny:y≠n:=λz=>hj (RG hN e1 (z ▸ hi))
    exact .inl ⟨k,by simp[ny,q]⟩
   ·exact .inr ⟨k,c,q,z.sameBut sb (I.cne y c q)⟩
 ·obtain⟨u,z⟩:=I.cell y c q
  exact⟨u,z.sameBut sb (I.cne y c q)⟩
 ·obtain⟨q,nn,ne,nf,dd⟩:=I.pin p hp
  exact⟨(sb.2 p.1 ne).trans q,nn,ne,nf,dd⟩
 ·refine (I.hok b ob q).stay (λc u hc q1=>(sb.2 c ?_).trans q1) (λ_ z=>z) λ_ _ z=>z
  rintro rfl
  rcases hc with rfl | hc
  ·rw[I.free] at q;cases q
  ·rw[I.free] at hc;cases hc
 ·rw[List.length_set];exact I.len
end
def Ends.drop (D:Ends) (i:Nat):Ends where
 nx:=fun σ H=>D.nx (σ.set i none) H
 rt:=D.rt
 bk:=fun σ H=>D.bk (σ.set i none) H
 ct:=fun σ H=>D.ct (σ.set i none) H
def dg (K:PySem.W.Frag) (HC:Addr) (i:Nat) (th:Addr->TS) (D:Ends):St->XK:=fun σ cls _ H=>∃C,cls=.ref C/\XCl K C/\subIn K (.ref C) (.ref HC)=some true/\∀e,H e=none->th e (D.drop i) (σ.set i (some (.ref e))) (upd H e (xo e C))
def Ap (K:PySem.W.Frag) (HC:Addr) (i:Nat) (tb:(St->XK)->TS) (th:Addr->TS):TS:=λD σ H=>tb (dg K HC i th D) D σ H
theorem fY {X:Cx} {HC:Addr} {i:Nat} {n x:Str} {tb:(St->XK)->TS} {th:Addr->TS} {body suite:List Stmt} {b₀ : Stmt} {np hpos pos:Pos} (hN:X.N.Nodup) (hi:X.N[i]?=some n) (hl:X.env.scope.names.lookup n=some .local) (hst:X.stack=X.env::X.outer)
  (hf:X.env.frame=some X.env.locals) (hg:Gl X x) (hm:X.mg x=some (.ref HC)) (TH:XCl X.K HC)
  (h1:∀pn E1 EX,OD (X.by pn E1) EX->PSs (X.by pn E1) body (tb EX)) (h2:∀pn (e:Addr),PSs (X.suite pn (.ref e)) (b₀::suite) (th e)) (hdb:(x == ("__debug__":Str))=false:=by decide) :
  PS X (.Try body [.ExceptHandler (some (.Name x np)) (some n) (b₀::suite) hpos] [] [] pos) (Ap X.K HC i tb th):=by
 intro pins s σ H D I h
 have hfr:X.A.frames=some (X.env::X.outer):=I.ok.frames.trans (congrArg some hst)
 let E1:Value->Shared->Prop:=λev s''=>∃(Gw:List (Addr×Obj)) (σ':St) (H':Hp) (s':Shared),Inv (X.by (X.pn++pins) λ_ _=>False) Gw σ' H' s'/\CX1 X.prog X.w X.stack H' s' (dg X.K HC i th D σ') ev s''
 have hp:OD (X.by (X.pn++pins) E1) (dg X.K HC i th D):=λGw σ' H' s' ev s'' I' c=>⟨Gw,σ',H',s',⟨⟨I'.ok.mod,I'.ok.kind,I'.ok.glob,I'.ok.blt,I'.ok.above,I'.ok.inj,I'.ok.has,I'.ok.cab,I'.ok.hd,I'.ok.frames,I'.ok.stk,I'.ok.exf,I'.ok.bs,I'.ok.bsz,I'.ok.Ly,I'.ok.Jz,I'.ok.FT,I'.ok.frf⟩,I'.os,I'.bare,I'.base,I'.loc,I'.cell,I'.free,I'.Ea,I'.pin,I'.hok,I'.len⟩,c⟩
 refine wpAny_Try_except (Qcp (h1 _ E1 _ hp [] s σ H D (I.by E1) h) (λf s1 q=>?_) λev s1 q=>?_)
 ·cases f with
  | next=>exact wpAny_execs_nil q.NP
  | brk=>exact q.NP
  | cont=>exact q.NP
  | ret u=>exact q.NP
 ·obtain⟨Gw,σ',H',s',I',e,C,B,H2,rfl,x1,D1,hC,T,hs,hth⟩:=q
  cases hC
  obtain⟨fl,hfl,f0⟩:=x1.fl
  rw[hst] at f0
  refine au hfl hfr hf f0 λha fa ua=>?_
  refine Yb fa λhb fb ub=>?_
  have fb':Fl B X.stack e C (some .none) hb:=by rw[hst];exact fb
  have J:=Exc.caught I' x1 fb' (ua.trans ub)
  have JS:=J.suite (Value.ref e)
  refine wpAny_handleBy_cons (codeAny_handlers_test (KY JS hg hm ?_ hdb)) (by intro q;cases q)
  refine uM JS.kIn TH hs fb.tr.at (codeAny_handlers_suite_as ?_)
  refine Yb fb λhc fc uc=>?_
  have fc':Fl B X.stack e C (some .none) hc:=by rw[hst];exact fc
  have J2:=(Exc.caught I' x1 fc' ((ua.trans ub).trans uc)).suite (Value.ref e)
  refine K4 (X:=X.suite (X.pn++pins) (.ref e)) (v:=.ref e) (i:=i) J2 hN hi (.inl hl) rfl (λs4 J4=>?_) (.inr hl)
  refine Qcp (h2 _ _ Gw s4 _ _ (D.drop i) J4 (hth e x1.free)) (λf s5 q=>?_) λ_ _ z=>z.elim
  cases f with
  | next=>
   obtain⟨σ5,H5,I5,q5⟩:=q
   exact QJ (I5.Qs I.ok.hd) hN hi hl λs6 I6=>⟨_,_,I6,q5⟩
  | brk=>
   obtain⟨σ5,H5,I5,q5⟩:=q
   exact QJ (I5.Qs I.ok.hd) hN hi hl λs6 I6=>⟨_,_,I6,q5⟩
  | cont=>
   obtain⟨σ5,H5,I5,q5⟩:=q
   exact QJ (I5.Qs I.ok.hd) hN hi hl λs6 I6=>⟨_,_,I6,q5⟩
  | ret u=>
   obtain⟨v5,σ5,H5,I5,r5,q5⟩:=q
   exact QJ (I5.Qs I.ok.hd) hN hi hl λs6 I6=>⟨v5,_,_,I6,r5,q5⟩
structure JK (k:Nat) (A:Around):Prop where
 dp:A.depth+3*k+5 < recursionLimit
 un:A.units+16*k+200 < cLine
theorem Cp.inH {k:Nat} {A:Around} (r:Cp k A) (h:Option Value):JK k (A.mark h):=⟨r.dp,r.un⟩
theorem JK.deeper {k:Nat} {A:Around} (r:JK (k+1) A) (env:Env):JK k (A.deeper env):=
 ⟨by have:=r.dp;show A.depth+1+3*k+5 < _;omega,by have:=r.un;show A.units+3+16*k+200 < _;omega⟩
theorem JK.mono {j k:Nat} {A:Around} (r:JK k A) (h:j<=k):JK j A:=⟨by have:=r.dp;omega,by have:=r.un;omega⟩
structure Wb (P:Program) (w:World) (K:PySem.W.Frag) (mg:Str->Option Value) (base:Heap) (x:Str) (k:Nat) (ps:List Str) (sp:Sp):Prop where
 ex:∃(f:Addr) (fd:FuncData),mg x=some (.ref f)/\keepIn K (.ref f)=true/\Binds K fd ps []/\(∀vs H Q E,sp vs H Q E->vs.length=ps.length) /\
  ∀(A:Around) (outer:List Env) (s:Shared) (H:Hp) (args:Args) (us:List Value) (vs:List V) (Q:VK),JK k A->Ks P w K mg base A outer s H->BindsTo s fd args (ps.zip us)->Vals vs us->sp vs H Q E0 ->
   codeAny (model P w) A (.call (.ref f) args) (CR CX0 outer P w H s Q E0) s
abbrev cxH (P:Program) (w:World) (K:PySem.W.Frag) (mg:Str->Option Value) (base:Heap) (N:List Str) (qual:Str) (scope:Scope) (f:Addr) (cd:Value) (A:Around) (outer:List Env) (s:Shared) (H:Hp):Cx:=
 { Kp CX0 P w K mg base N qual scope f cd A outer s H E0 with calm:=false,xe:=λ_ _=>False }
theorem Code.zK {P:Program} {w:World} {K:PySem.W.Frag} {mg:Str->Option Value} {base:Heap} {x:Str} {st:Stmt} {ps N:List Str} {k:Nat} {sp:Sp} (C:Code K mg x st ps) (S:Ay N ps (Aj st)) (len:∀vs H Q E,sp vs H Q E->vs.length=ps.length)
  (hbody:∀(f:Addr) (cdv:Value) (A:Around) (outer:List Env) (s:Shared) (H:Hp) (vs:List V) (Q:VK),JK k (A.deeper (envOfC x (Aj st) s.heap.objs.size f cdv))->sp vs H Q E0 ->
   ∃t,PSs (cxH P w K mg base N x (Aj st) f cdv A outer s H) (Cw st) t/\t { nx:=λ_ H'=>Q .non H',rt:=Q } (start N vs) H):Wb P w K mg base x (k+1) ps sp:=by
 obtain⟨f,fd,F,m,b⟩:=C.ex
 refine⟨f,fd,m,F.kp,b,len,λA outer s H args us vs Q hr e0 hb r hsp=>?_⟩
 obtain⟨oc,od,kV,doc,pm,an,cdv,ct,osl,rfl,lk,hcd⟩:=F.ex
 have hlen:=len _ _ _ _ hsp
 have KX:K.In s.heap:=e0.mod.kin.keeps λb o q=>(e0.bs b o q).1
 have lim:s.heap.NoLimit:=e0.mod.nolimit.keeps λb o q=>(e0.bs b o q).1
 have hkind:∀y∈ps.zip us,(Aj st).names.lookup y.1=some .local\/((Aj st).names.lookup y.1=some .cell/\((cellsFrom (s.heap.objs.size+1) (Aj st).names []).lookup y.1).isSome=true):=λ⟨n,v⟩ hy=>by
  rcases S.par n (List.of_mem_zip hy).1 with q | q
  ·exact .inl q
  ·exact .inr ⟨q,PySem.W.cellsFrom_some _ _ _ (.inl q)⟩
 refine codeAny_call_function (by have:=hr.dp;omega) (KX _ _ lk) rfl S.co S.gen rfl (PySem.W.codeRec_of KX hcd) (hb _ _ _ _ ?_)
 refine wpAny_newFunctionEnv_cells S.kind hkind λenv he s1 ic=>?_
 subst he
 refine⟨lim.keeps ic.toInCall.keep,codeAny_func ?_⟩
 obtain⟨t,ht,hq⟩:=hbody f cdv A outer s H vs Q (hr.deeper _) hsp
 have e1:Ks P w K mg base { A with handled:=none } outer s H:=⟨e0.frames,e0.mod,e0.bs,e0.bsz,e0.FT,e0.frf,e0.hok,e0.bare⟩
 have I0:Inv (Kp CX0 P w K mg base N x (Aj st) f cdv { A with handled:=none } outer s H E0) [] (start N vs) H s1:=Vj S rfl e1 hlen r ic
 have I:Inv (cxH P w K mg base N x (Aj st) f cdv A outer s H) [] (start N vs) H s1:=
  ⟨⟨I0.ok.mod,I0.ok.kind,I0.ok.glob,I0.ok.blt,I0.ok.above,I0.ok.inj,I0.ok.has,I0.ok.cab,(λz=>nomatch z),Around.frames_deeper e0.frames,I0.ok.stk,I0.ok.exf,I0.ok.bs,I0.ok.bsz,I0.ok.Ly,I0.ok.Jz,I0.ok.FT,I0.ok.frf⟩,I0.os,I0.bare,I0.base,I0.loc,I0.cell,I0.free,I0.Ea,
   I0.pin,I0.hok,I0.len⟩
 refine Qcp (ht [] s1 (start N vs) H _ I hq) (λfl s' hs=>?_) λe s' z=>z.elim
 have fin:∀{σ':St} {H':Hp} {v:V} {u:Value},Inv (cxH P w K mg base N x (Aj st) f cdv A outer s H) [] σ' H' s'->RelV v u->Q v H'->CE outer P w H s Q u s':=λ{σ' H' v u} J rv q=>⟨v,H',J.os,J.bare,J.base,J.hok,rv,q⟩
 cases fl with
 | ret u=>
  obtain⟨v,σ',H',J,rv,q⟩:=hs
  exact fin J rv q
 | next=>
  obtain⟨σ',H',J,q⟩:=hs
  exact fin (v:=V.non) (u:=Value.none) J rfl q
 | brk=>obtain⟨_,_,_,q⟩:=hs;exact False.elim q
 | cont=>obtain⟨_,_,_,q⟩:=hs;exact False.elim q
theorem gw {X:Cx} {k k':Nat} {ps:List Str} {sp:Sp} {x:Str} {p pos:Pos} {e:Expr} {es:List Expr} {t:TA} (g:Wb X.prog X.w X.K X.mg X.base x k ps sp) (hr:JK k' X.A) (ha:PA X (e::es) t) (hk:k<=k':=by decide)
  (hg:Gl X x:=by rfl) (hdb:(x == ("__debug__":Str))=false:=by decide) (he:starEach (e::es) X.env=(false,eval e X.env)::starEach es X.env:=by rfl) (hpl:(backTo pos (starEach es X.env)).any (·.1)=false:=by rfl) :
  PE X (.Call (.Name x p) (e::es) [] pos) (bw sp [] E0 t):=by
 intro pins s σ H Q I h
 obtain⟨f,fd,m,kp,b,len,run⟩:=g.ex
 refine QaY (KY I hg m ?_ hdb)
 refine callWith_K (h₀:=X.base) I.ok.mod.kin kp (thn (ha pos pins s σ H _ I h) λus s1 ⟨vs,H1,I1,r,q⟩=>⟨I1.kIn,?_⟩) he hpl
 have q:sp (vs++[]) H1 Q E0:=q
 rw[QbD] at q
 have hl:us.length=ps.length:=by rw[<-r.length];exact len _ _ _ _ q
 have bd:=b s1 us I1.kIn (by rw[QbD];exact hl)
 rw[QbD] at bd
 refine wpAny_call (Qch (run X.A X.stack s1 H1 ⟨us,[]⟩ us vs Q (hr.mono hk) I1.env0 bd r q) λrr s' hq=>?_)
 cases rr with
 | error ev=>exact False.elim hq
 | ok fl=>
  cases fl with
  | ret u=>exact I1.after hq
  | next=>exact False.elim hq
  | brk=>exact False.elim hq
  | cont=>exact False.elim hq
@[irreducible] def bL (K:PySem.W.Frag):List V->Hp->VK->Prop:=λxs H Q=>∃a D C b,xs=[.ref a,.ref D]/\H a=some (xo a C)/\XCl K C/\kitOne K (.ref C) (.ref D)=some b/\Q (.bl b) H
theorem Du {X:Cx}:Dy X (.builtin "isinstance") (bL X.K):=by
 intro pins s σ H xs us Q I r h
 unfold bL at h
 obtain⟨a,D,C,b,rfl,ea,T,k,q⟩:=h
 obtain⟨u,w',rfl,rx,rt⟩:=vals2 r
 cases rx
 cases rt
 exact Tj I T ea k λtk=>⟨.bl b,H,I.tok tk,rfl,q⟩
@[irreducible] def V4 (K:PySem.W.Frag):List V->Hp->VK->Prop:=λxs H Q=>∃a T C b,xs=[.ref a,.ty T]/\H a=some (xo a C)/\XCl K C/\kitOne K (.ref C) (.type T)=some b/\Q (.bl b) H
theorem jB {X:Cx}:Dy X (.builtin "isinstance") (V4 X.K):=by
 intro pins s σ H xs us Q I r h
 unfold V4 at h
 obtain⟨a,T,C,b,rfl,ea,TC,k,q⟩:=h
 obtain⟨u,w',rfl,rx,rt⟩:=vals2 r
 cases rx
 cases rt
 exact Tj I TC ea k λtk=>⟨.bl b,H,I.tok tk,rfl,q⟩
end L2
namespace L2
open PySem PySem.Spec PyProof.Rows PySem.SeqAt
theorem Bc {c:Const} {k:Nat} {p:Pos} {es:List Expr} {env:Env}:starEach (.Constant c k p::es) env=(false,eval (.Constant c k p) env)::starEach es env:=by rfl
theorem Iu {as:List Expr} {k:Nat} {p:Pos} {es:List Expr} {env:Env}:starEach (.Tuple as k p::es) env=(false,eval (.Tuple as k p) env)::starEach es env:=by rfl
def isT:Value->Bool
 | .bool b=>b
 | _=>false
theorem Yw:∀{bs:List Bool} {us:List Value},Vals (bs.map V.bl) us->us=bs.map Value.bool
 | [],_,.nil=>rfl
 | b::bs,_,.cons r t=>by
  cases (show _=Value.bool b from r)
  rw[Yw t]
  rfl
section
variable {X:Cx}
@[irreducible] def QB:V->List V->Hp->VK->Prop:=λx xs H Q=>∃(l:Addr) (bs:List Bool),x=.ref l/\xs=[.bl true]/\H l=some (.lst (bs.map V.bl))/\Q (.int ((bs.countP id:Nat):Int)) H
theorem eqT {A:Around} {s:Shared} {bs:List Bool}:∀y,y∈(bs.map Value.bool).toArray->EqAt A s y (.bool true) (isT y):=λy hy=>by
 have hy':y∈bs.map Value.bool:=by simpa using hy
 obtain⟨b,_,rfl⟩:=Qca.mp hy'
 have:=EqAt.bool_bool (A:=A) (s:=s) b true
 rw[show (b == true)=isT (.bool b) by cases b <;> rfl] at this
 exact this
theorem ju {l:Addr} {bs:List Bool} {H:Hp} {Q:VK} (h:H l=some (.lst (bs.map V.bl))) (q:Q (.int ((bs.countP id:Nat):Int)) H):QB (.ref l) [.bl true] H Q:=by
 unfold QB
 exact⟨l,bs,rfl,rfl,h,q⟩
theorem gZ:MtM X "list.count" QB:=by
 intro pins s σ H x vs v us Q I rx rv h
 unfold QB at h
 obtain⟨l,bs,rfl,rfl,hH,q⟩:=h
 cases rx
 obtain⟨u,rfl,ru⟩:=rv.one
 cases (show _=Value.bool true from ru)
 obtain⟨z,its,n,r,hl,e⟩:=I.LC hH
 have hi:=Yw r
 subst hi
 refine call_meets F.slot_list_count ⟨_,e,rfl⟩ F.entry_list_count (F.args_list_count_2 _ _) (list_countAt l (bs.map Value.bool).toArray n none #[] (.bool true) isT) ⟨e,eqT,?_⟩
 refine⟨.int ((bs.countP id:Nat):Int),H,I.tok _,⟨s.toks,?_⟩,q⟩
 have hc:(bs.map Value.bool).countP isT=bs.countP id:=by
  rw[List.countP_map]
  congr 1
 simp only[hc]
@[irreducible] def Qz:V->List V->Hp->VK->Prop:=λx xs H Q=>∃(l:Addr) (bs:List Bool) (j:Nat),x=.ref l/\xs=[.bl true]/\H l=some (.lst (bs.map V.bl))/\j<=1000/\bs[j]?=some true/\(∀m,m < j->bs[m]?=some false)/\Q (.int (j:Int)) H
theorem iI {l:Addr} {bs:List Bool} {j:Nat} {H:Hp} {Q:VK} (h:H l=some (.lst (bs.map V.bl))) (h1:j<=1000) (h2:bs[j]?=some true) (h3:∀m,m < j->bs[m]?=some false) (q:Q (.int (j:Int)) H):Qz (.ref l) [.bl true] H Q:=by
 unfold Qz
 exact⟨l,bs,j,rfl,rfl,h,h1,h2,h3,q⟩
theorem gY:MtM X "list.index" Qz:=by
 intro pins s σ H x vs v us Q I rx rv h
 unfold Qz at h
 obtain⟨l,bs,j,rfl,rfl,hH,hj1,hj,hno,q⟩:=h
 cases rx
 obtain⟨u,rfl,ru⟩:=rv.one
 cases (show _=Value.bool true from ru)
 obtain⟨z,its,n,r,hl,e⟩:=I.LC hH
 have hi:=Yw r
 subst hi
 have hjl:j < bs.length:=(Qai.mp hj).1
 have hj2:j < (bs.map Value.bool).toArray.size:=by simpa using hjl
 have hit:isT ((bs.map Value.bool).toArray[j]'hj2)=true:=by
  have h1:bs[j]=true:=(Qai.mp hj).2
  simp[h1,isT]
 have hn:∀m (hm:m < (bs.map Value.bool).toArray.size),m < j->isT (bs.map Value.bool).toArray[m]=false:=λm hm hmj=>by
  have h1:=(Qai.mp (hno m hmj)).2
  simp[h1,isT]
 refine call_meets F.slot_list_index ⟨_,e,rfl⟩ F.entry_list_index (F.args_list_index_2 _ _) (list_indexAt l (bs.map Value.bool).toArray n none #[] (.bool true) isT j hj2 (Int.lt_of_le_of_lt (b:=1000) (by omega) (by trivial)) hit hn) ⟨e,eqT,?_⟩
 exact⟨.int (j:Int),H,I.tok _,⟨_,rfl⟩,q⟩
end
theorem FQ {K:PySem.W.Frag} {a D C:Addr} {b:Bool} {H:Hp} {Q:VK} (h:H a=some (xo a C)) (T:XCl K C) (k:kitOne K (.ref C) (.ref D)=some b) (q:Q (.bl b) H):bL K [.ref a,.ref D] H Q:=by
 unfold bL
 exact⟨a,D,C,b,rfl,h,T,k,q⟩
theorem tX {K:PySem.W.Frag} {a C:Addr} {T:String} {b:Bool} {H:Hp} {Q:VK} (h:H a=some (xo a C)) (TC:XCl K C) (k:kitOne K (.ref C) (.type T)=some b) (q:Q (.bl b) H):V4 K [.ref a,.ty T] H Q:=by
 unfold V4
 exact⟨a,T,C,b,rfl,h,TC,k,q⟩
section
variable {prog:Program} {w:World} {A:Around} {E:Value->Shared->Prop} {s:Shared}
end
end L2
namespace L2
open PySem PySem.Spec PyProof.Rows
section
variable {X:Cx} {pins:List (Addr×Obj)} {σ : St} {H:Hp} {s:Shared} {a:Addr} {kvs:List (Key×V)} {o:Obj}
end
theorem O7:entryFor table "dict_itemiterator.__iter__"=some Builtin.«dict_keyiterator.__iter__»:=entryFor_alias (id':="dict_keyiterator.__iter__") (by kernel_rfl) rfl (by trivial) (by kernel_rfl)
theorem VP {prog:Program} {w:World} {A:Around} {E:Value->Shared->Prop} {s:Shared} {it d:Addr} {i n ep:Nat} {ok ov:Value} {Q:Value->Shared->Prop} (hit:IsItemIter s.heap it d i n ep ok ov) (h:Q (.ref it) s) :
  wpAny (model prog w) A (pyIter (.ref it)) Q E s:=by
 have hT:s.TypeIs (.ref it) "dict_itemiterator":=⟨_,hit,rfl⟩
 refine wpAny_pyIter_slot hT F.slot_dict_itemiterator_iter (Qbr F.slot_dict_itemiterator_iter hT O7 ?_ (F.args_dict_itemiterator_iter_1 _))
 exact Qco ⟨_,rfl,"dict_itemiterator",_,hT,Qac.lookup,h⟩
section
variable {a l:Addr} {o:Obj} {kvs:List (Key×V)} {g:TG} {tb:TS} {D:Ends} {σ : St} {H:Hp} {tt:TT} {te tk tv:TE} {Q:VK}
theorem jo {K:PySem.W.Frag} {xs:List V} {σ0:St} {H0:Hp} (Pv:Nat->St->Hp->Prop) (h0:Pv 0 σ0 H0) (hl:∀i σ H',i<=xs.length->Pv i σ H'->SqT K H' a xs)
  (hs:∀i x σ H',xs[i]?=some x->Pv i σ H'->g x σ H' fun σ3 H3=>tt σ3 H3 λb H4=>if b=true then tk σ3 H4 λy H5=>tv σ3 H5 λz H6=>∃(kvs:List (Key×V)) (k:Key),H6 l=some (.dK kvs)/\y=kV k/\kvs.length < sizeLine/\Pv (i+1) σ3 (upd H6 l (.dK (putK kvs k z))) else Pv (i+1) σ3 H4)
  (hd:∀ σ H',Pv xs.length σ H'->Q (.ref l) H'):QV (Itt K a) g tt tk tv Q σ0 H0 l:=by
 unfold QV
 refine⟨λi m σ H'=>m=xs.length - i/\i<=xs.length/\Pv i σ H',⟨xs.length,by simp,Qcj _,h0⟩,?_⟩
 rintro i m σ H' ⟨rfl,hi,p⟩
 have q:=hl i σ H' hi p
 by_cases hlt:i < xs.length
 ·refine .inr ⟨⟨xs,xs[i],q,by simp[hlt]⟩,Pv (i+1),fun σ3 H3 p'=>⟨xs.length - (i+1),by omega,rfl,hlt,p'⟩,λx H2 y=>?_⟩
  obtain⟨e,y⟩:=y
  subst e
  exact hs i x σ _ (y xs q) p
 ·have e:i=xs.length:=by omega
  subst e
  exact .inl ⟨⟨xs,q,Qci _⟩,hd σ H' p⟩
end
open PySem.W (KasT kas_asc kas_desc kas_rev kas_tail3 kas_descPart kas_count kas_place kas_bin kas_sort)
def Ge {α : Type} (n:Nat) (P:α->Prop):KasT α->Prop
 | .ret a=>P a
 | .ask i j k=>i < n/\j < n/\∀b,Ge n P (k b)
theorem Ip {α β : Type} {n:Nat} {P:α->Prop} {Q:β->Prop} {f:α->KasT β}:∀t:KasT α,Ge n P t->(∀a,P a->Ge n Q (f a))->Ge n Q (t.bind f)
 | .ret a,h,q=>q a h
 | .ask i j k,h,q=>⟨h.1,h.2.1,λb=>Ip (k b) (h.2.2 b) q⟩
def Pm (n:Nat) (p:Array Nat):Prop:=p.toList.Perm (List.range n)
theorem Pm.rev {n:Nat} {p:Array Nat} (h:Pm n p) (i j:Nat):Pm n (kas_rev p i j):=(Array.perm_iff_toList_perm.mp (mirror_perm p i j ((j - i) / 2))).trans h
theorem Pm.bub {n:Nat} {p:Array Nat} (h:Pm n p) (k d:Nat):Pm n (bubble p k d):=(Array.perm_iff_toList_perm.mp (bubble_perm p k d)).trans h
theorem Pm.lt {n:Nat} {p:Array Nat} (h:Pm n p) (n0:0 < n) (i:Nat):p.getD i 0 < n:=by
 by_cases hi:i < p.size
 ·have e:p.getD i 0=p[i]:=by simp[hi]
  rw[e]
  have hm:p[i]∈p.toList:=by simp
  exact QbQ.mp (h.mem_iff.mp hm)
 ·have e:p.getD i 0=0:=by simp[hi]
  rw[e];exact n0
section
variable {n:Nat} (n0:0 < n)
include n0
theorem U3 {p:Array Nat} (h:Pm n p):∀f k,Ge n (λ_=>True) (kas_asc p f k)
 | 0,k=>trivial
 | f+1,k=>⟨h.lt n0 _,h.lt n0 _,λb=>by
  cases b with
  | true=>exact trivial
  | false=>exact U3 h f (k+1)⟩
theorem Ox:∀f (p:Array Nat),Pm n p->∀k q,Ge n (λr:Array Nat×Nat×Nat=>Pm n r.1) (kas_desc f p k q)
 | 0,p,h,k,q=>h
 | f+1,p,h,k,q=>⟨h.lt n0 _,h.lt n0 _,λb=>by
  cases b with
  | true=>
   show Ge n _ (if q > 0 then kas_desc f (kas_rev p (k - (q+1)) k) (k+1) 0 else kas_desc f p (k+1) 0)
   split
   ·exact Ox f _ (h.rev _ _) _ _
   ·exact Ox f _ h _ _
  | false=>exact⟨h.lt n0 _,h.lt n0 _,λd=>by
    cases d with
    | true=>exact h
    | false=>exact Ox f _ h _ _⟩⟩
theorem Yy {p:Array Nat} (h:Pm n p) (a b:Nat):Ge n (λr:Nat×Array Nat=>Pm n r.2) (kas_tail3 a b p):=
 Ip _ (U3 n0 (h.rev 0 a) _ _) λm _=>h.rev 0 a
theorem Qk {p:Array Nat} (h:Pm n p) (a b:Nat):Ge n (λr:Nat×Array Nat=>Pm n r.2) (kas_descPart a b p):=
 Ip _ (Ox n0 _ p h _ _) λr hr=>by
  show Ge n _ (if r.2.2 > 0 then _ else _)
  split
  ·exact Yy n0 (Pm.rev hr _ _) _ _
  ·exact Yy n0 hr _ _
theorem Vv {p:Array Nat} (h:Pm n p) (a:Nat):Ge n (λr:Nat×Array Nat=>Pm n r.2) (kas_count a p):=
 Ip _ (U3 n0 h _ _) λm _=>by
  show Ge n _ (if (m == a)=true then _ else if m > 1 then _ else _)
  split
  ·exact h
  ·split
   ·refine⟨h.lt n0 _,h.lt n0 _,λb=>?_⟩
    cases b with
    | true=>exact h
    | false=>exact Qk n0 (h.rev _ _) _ _
   ·exact Qk n0 h _ _
theorem Qj {p:Array Nat} (h:Pm n p) (k:Nat):∀f l r,Ge n (λ_=>True) (kas_place p k f l r)
 | 0,_,_=>trivial
 | f+1,l,r=>by
  show Ge n _ (if l ≥ r then _ else _)
  split
  ·exact trivial
  ·refine⟨h.lt n0 _,h.lt n0 _,λb=>?_⟩
   cases b with
   | true=>exact Qj h k f _ _
   | false=>exact Qj h k f _ _
theorem aL:∀f (p:Array Nat),Pm n p->∀k,Ge n (Pm n) (kas_bin f p k)
 | 0,p,h,_=>h
 | f+1,p,h,k=>Ip _ (Qj n0 h k _ _ _) λl _=>aL f _ (h.bub _ _) _
theorem Yz:Ge n (Pm n) (kas_sort n):=
 Ip _ (Vv n0 (p:=List.toArray (List.range n)) (show Pm n _ by unfold Pm;exact List.Perm.refl _) n) λr hr=>by
  show Ge n _ (if r.1 < n then _ else _)
  split
  ·exact aL n0 _ _ hr _
  ·exact hr
end
section
variable {prog:Program} {w:World} {A:Around} {E:Value->Shared->Prop} {s:Shared}
theorem WK {l:Addr} {vs:List Value} {Q:Value->Shared->Prop} (hl:s.heap.IsList l vs.toArray) (h1:vs.length < 2)
  (h:∀D h' c,s.heap.objs.size<=D->h'.get? D=some (seqObj "list" vs.toArray c)->(∀b o,s.heap.get? b=some o->h'.get? b=some o)->Q (.ref D) { s with heap:=h' }):wpAny (model prog w) A (call (.builtin "sorted") [.ref l]) Q E s:=by
 have h2:vs.toArray.size < 2:=by rw[Qbb];exact h1
 have hz:vs.length<=sizeLine:=Qcf (Ao (by omega))
 refine Calls.call_function_entry (Q:=Q) kind_sorted plain_sorted entry_sorted (args_sorted1 (.ref l)) ?_
 unfold Builtin.«sorted»
 refine Qcn (m:=checkCount "sorted" 1 1 [Value.ref l].length) (Qco ?_)
 refine Qcn (collect_list (vs:=vs) hl ?_ hz)
 have k1:∀b o,s.heap.get? b=some o->((s.heap.push (seqObj "list" #[] 0)).update s.heap.objs.size (Obj.mapSeq (·++vs.toArray))).get? b=some o:=λb o q=>by
  rw[Qav _ _ (Qcg (Qcb q))]
  exact Qat _ q
 have z1:((s.heap.push (seqObj "list" #[] 0)).update s.heap.objs.size (Obj.mapSeq (·++vs.toArray))).objs.size=s.heap.objs.size+1:=by rw[Heap.size_update,QbN]
 generalize ((s.heap.push (seqObj "list" #[] 0)).update s.heap.objs.size (Obj.mapSeq (·++vs.toArray)))=g1 at k1 z1
 refine Qcn (wpAny_newList ?_ hz)
 have oD:(g1.push (seqObj "list" vs.toArray 0)).get? g1.objs.size=some (seqObj "list" vs.toArray 0):=QaF _ rfl
 have k2:∀b o,s.heap.get? b=some o->b≠g1.objs.size/\(g1.push (seqObj "list" vs.toArray 0)).get? b=some o:=λb o q=>⟨by rw[z1];exact Qcc (Nat.lt_succ_of_lt (Qcb q)),Qat _ (k1 b o q)⟩
 refine Qcn (QbW (Qbr slot_list_sort ⟨_,oD,rfl⟩ entry_list_sort ?_ (args_list_sort _)))
 rw[list_sort_plain]
 have zD:s.heap.objs.size<=g1.objs.size:=by rw[z1];exact Nat.le_succ _
 generalize g1.objs.size=D at oD k2 zD
 generalize hg2:g1.push (seqObj "list" vs.toArray 0)=g2 at oD k2
 refine Qcn (listItems_at (a:=D) oD rfl ?_)
 refine Qcn (listUpdate_at (a:=D) oD rfl ?_ (by rw[Qbb];exact hz) (Qcj _))
 obtain⟨e1,o1⟩ : ∃e1,(g2.update D (Obj.mapSeq λ_=>(#[]:Array Value))).get? D=some (seqObj "list" #[] e1):=⟨_,get?_update_seq oD λ_=>#[]⟩
 have k3:∀b o,s.heap.get? b=some o->b≠D/\(g2.update D (Obj.mapSeq λ_=>(#[]:Array Value))).get? b=some o:=λb o q=>⟨(k2 b o q).1,by rw[Qav _ _ (Ne.symm (k2 b o q).1)];exact (k2 b o q).2⟩
 have zip2:(arrOf (SortSt.mk' general' (vs.toArray.zip vs.toArray) #[] 7 none)).map (·.2)=vs.toArray:=by
  show (vs.toArray.zip vs.toArray).map (·.2)=vs.toArray
  apply Array.toList_inj.mp
  simp[Array.toList_zip,List.map_snd_zip]
 dsimp only
 generalize g2.update D (Obj.mapSeq λ_=>(#[]:Array Value))=g3 at o1 k3 ⊢
 refine Qcn (seqEpoch_at (a:=D) o1 rfl ?_)
 refine Qcn (wpAny_newTuple ?_ (by simpa using hz))
 refine Qcn (wpAny_newList (items:=[]) ?_ (Qcj _))
 refine QbW ?_
 have o5:∀x y:Obj,((g3.push x).push y).get? D=some (seqObj "list" #[] e1):=λx y=>Qat _ (Qat _ o1)
 have k5:∀x y:Obj,∀b o,s.heap.get? b=some o->b≠D/\((g3.push x).push y).get? b=some o:=λx y b o q=>⟨(k3 b o q).1,Qat _ (Qat _ (k3 b o q).2)⟩
 dsimp only
 rw[if_pos h2,if_pos h2]
 refine Qcn (Qco ?_)
 rw[StateT.run_pure]
 refine Qcn (Qco ?_)
 dsimp only
 refine Qcn (seqEpoch_at (a:=D) (o5 _ _) rfl ?_)
 rw[zip2]
 refine Qcn (listUpdate_at (a:=D) (o5 _ _) rfl ?_ (Qcj _) (by first | (rw[Qbb];exact hz) | (rw[Qbb];omega)))
 simp only[bne_self_eq_false,Bool.false_eq_true,if_false]
 obtain⟨c,oF⟩ : ∃c,(((g3.push { cls:=.type "tuple",data:=.seq vs.toArray }).push { cls:=.type "list",data:=.seq #[] }).update D (Obj.mapSeq λ_=>vs.toArray)).get? D=some (seqObj "list" vs.toArray c):=⟨_,get?_update_seq (o5 _ _) λ_=>vs.toArray⟩
 refine Qco ⟨_,rfl,Qco ⟨_,rfl,h D _ c zD oF λb o q=>?_⟩⟩
 rw[Qav _ _ (Ne.symm (k3 b o q).1)]
 exact (k5 _ _ b o q).2
end
theorem tD {h:Heap} {a:Addr} {m m':Str->Option Value} (x:h.Ns a m) (y:h.Ns a m'):m=m':=by
 obtain⟨o,es,ep,h1,h2,_,h3⟩:=x
 obtain⟨o',es',ep',g1,g2,_,g3⟩:=y
 rw[h1] at g1
 cases g1
 rw[h2] at g2
 cases g2
 funext k
 rw[<-h3,<-g3]
theorem Vd {α β : Type} (d:α) (e:β):∀{vs:List α} {its:List β} {F:α->β->Prop} {is:List Nat},Paired F vs its->(∀i∈is,i < vs.length)->Paired F (is.map λi=>vs.getD i d) (is.map λi=>its.getD i e)
 | vs,its,F,[],_,_=>.nil
 | vs,its,F,i::is,r,h=>by
  refine .cons ?_ (Vd d e r λj hj=>h j (QaA _ hj))
  have hi:=h i (QaN ..)
  have go:∀{l:List α} {m:List β} {i:Nat},Paired F l m->i < l.length->F (l.getD i d) (m.getD i e):=by
   intro l m i r
   induction r generalizing i with
   | nil=>intro h;exact absurd h (QbI _)
   | cons a t ih=>
    intro h
    cases i with
    | zero=>exact a
    | succ i=>exact ih (Nat.lt_of_succ_lt_succ h)
  exact go r hi
theorem range_getD {α : Type} (d:α) (vs:List α):(List.range vs.length).map (λi=>vs.getD i d)=vs:=by
 apply List.ext_getElem
 ·simp
 ·intro i h1 h2
  simp[h2]
def dJ (K:PySem.W.Frag) (H:Hp) (vs:List V):Prop:=∀v∈vs,∃t ns,v=.ref t/\SqT K H t ((ns:List Int).map V.int)/\0 < ns.length
theorem Z7 {X:Cx} {pins:List (Addr×Obj)} {σ : St} {H:Hp} {s:Shared} {h':Heap} (I:Inv X pins σ H s) (k:∀b o,H b≠none\/(∃u,X.base.get? b=some u)->s.heap.get? b=some o->h'.get? b=some o):∀{vs:List V} {its:List Value},Vals vs its->dJ X.K H vs ->
  ∃fs,PySem.W.KatTups h' its fs/\fs.length=its.length/\∀f∈fs,∃i t,f=Value.int i t
 | _,_,.nil,_=>⟨[],trivial,rfl,λf h=>nomatch h⟩
 | _,_,.cons r t,h=>by
  obtain⟨fs,f1,f2,f3⟩:=Z7 I k t λv hv=>h v (QaA _ hv)
  obtain⟨tp,ns,rfl,hq,hn⟩:=h _ (QaN ..)
  cases r
  obtain⟨its,rv,⟨o,ho,hc,n,hd⟩,_⟩:=I.tuple hq
  have ho':h'.get? tp=some o:=by
   refine k tp o ?_ ho
   rcases hq with (e |⟨_,e⟩) |⟨_,_,_,e,_⟩
   ·exact .inl (by rw[e];exact λz=>nomatch z)
   ·exact .inl (by rw[e];exact λz=>nomatch z)
   ·exact .inr ⟨_,I.mod.kin _ _ e⟩
  cases ns with
  | nil=>exact absurd hn (QbV _)
  | cons n0 nr=>
   cases rv with
   | cons r0 rr=>
    obtain⟨tk,rfl⟩:=r0
    exact⟨Value.int n0 tk::fs,PySem.W.KatTups.cons ho' hc hd (by simp) f1,by simp[f2],λf hf=>by
     rcases QbS.mp hf with rfl | hf
     ·exact⟨_,_,rfl⟩
     ·exact f3 f hf⟩
end L2
namespace L2
open PySem PySem.Spec PyProof.Rows
theorem XH:typeLookup (.type "list") "keys"=pure none:=by rw[typeLookup_type,builtinLookup_eq_fast];kernel_rfl
theorem XJ:typeLookup (.type "list") "__getattr__"=pure none:=by rw[typeLookup_type,builtinLookup_eq_fast];kernel_rfl
theorem Wo:isSubtype (.type "AttributeError") (.type "AttributeError")=pure true:=by rw[isSubtype_type];kernel_rfl
section
variable {M:Model} {A:Around} {E:Value->Shared->Prop} {s:Shared}
theorem mD {e:Addr} {o:Obj} {x nm T:Value} {Q:Unit->Shared->Prop} (ho:s.heap.get? e=some o) (hc:o.cls=.type "AttributeError") (hd:o.data=.fields #[T,.none,.none,.none,.bool false,.none,unsetMember,unsetMember])
  (h:∀h',(∀b u,b≠e->s.heap.get? b=some u->h'.get? b=some u)->(∃o',h'.get? e=some o'/\o'.cls=.type "AttributeError")->Q () { s with heap:=h' }):wpAny M A (noteAttr (.ref e) x nm) Q E s:=by
 obtain⟨oc,od,oa,os⟩:=o
 cases hc
 cases hd
 have hT:s.TypeIs (.ref e) "AttributeError":=⟨_,ho,rfl⟩
 unfold noteAttr
 refine Qcn ?_
 unfold lacksNameAndObj
 refine Qcn (wpAny_isInstance hT Wo ?_)
 simp only[Bool.not_true,Bool.false_eq_true,if_false]
 refine Qcn (wpAny_load ho ?_)
 refine Qco ?_
 rw[if_pos rfl]
 refine Qcn (wpAny_rule ?_)
 refine Qcn (wpAny_typeOf hT ?_)
 show wpAny _ _ (layMembers e 6 #[nm,x]) _ _ _
 unfold layMembers
 refine Qcn (wpAny_load ho ?_)
 refine wpAny_update ho ?_
 refine h _ (λb u nb q=>?_) ⟨_,Qax _ ho rfl,rfl⟩
 rw[Qav _ _ (Ne.symm nb)]
 exact q
end
section
variable {prog:Program} {w:World} {A:Around} {E:Value->Shared->Prop} {s:Shared}
theorem lB {α : Type} {x:Value} {nm msg:Str} {Q:α->Shared->Prop} (hm:msg.length<=sizeLine) (hh:A.handled=none) (hq:∀h' tk' e o,(∀b u,s.heap.get? b=some u->h'.get? b=some u)->h'.get? e=some o->o.cls=.type "AttributeError"->E (.ref e) { s with heap:=h',toks:=tk' }) :
  wpAny (model prog w) A (raiseAttrError x nm msg:Sem α) Q E s:=by
 unfold raiseAttrError
 refine Qcn (wpAny_mkStr (Qcn ?_) hm)
 unfold newExc newTuple
 refine Qcn (Qbf ?_)
 refine Qcn (m:=firstArgMember _ _) (wpAny_of_eq (a:=Value.none) (by kernel_rfl) ?_)
 refine Qbf ?_
 refine Qcn (wpAny_mkText (Qcn ?_))
 refine mD (QaF _ rfl) rfl rfl λh' k1 ⟨o',k2,k3⟩=>?_
 unfold raiseNew
 refine Qcn (wpAny_handled ?_)
 rw[hh]
 first
  | refine wpAny_throw ?_
  | refine Qcn (Qco (wpAny_throw ?_))
 exact hq _ _ _ o' (λb u q=>k1 b u (Qcc (by rw[QbN];exact Nat.lt_succ_of_lt (Qcb q))) (Qat _ (Qat _ q))) k2 k3
end
section
variable {prog:Program} {w:World} {A:Around} {E:Value->Shared->Prop} {h:Heap} {g:Array GenState} {d:Drawn} {t:Nat} {os:OsState} {a:Addr} {xs:Array Value} {c:Nat}
theorem mH {tk:Tok} {Q:Fin->Shared->Prop} (hh:A.handled=none) (hx:h.get? a=some (seqObj "list" xs c)) (hq:∀h' tk' e o,(∀b u,h.get? b=some u->h'.get? b=some u)->h'.get? e=some o->o.cls=.type "AttributeError"->E (.ref e) ⟨h',g,d,tk',os⟩) :
  wpAny (model prog w) A (Builtin.«object.__getattribute__» ⟨[.ref a,.str "keys" tk],[]⟩) Q E ⟨h,g,d,t,os⟩:=by
 have hT:(⟨h,g,d,t,os⟩ : Shared).TypeIs (.ref a) "list":=⟨_,hx,rfl⟩
 have f4:=XH
 repeat (any_goals (first | assumption | wp_step))
 exact lB (Qcf (Ao (by trivial))) hh λh' tk' e o k1 k2 k3=>hq h' tk' e o k1 k2 k3
theorem tG {tk:Tok} {R:Result->Shared->Prop} (hh:A.handled=none) (hx:h.get? a=some (seqObj "list" xs c)) (hq:∀h' tk' e o,(∀b u,h.get? b=some u->h'.get? b=some u)->h'.get? e=some o->o.cls=.type "AttributeError"->R (.error (.ref e)) ⟨h',g,d,tk',os⟩) :
  codeAny (model prog w) A (.call (.builtin "list.__getattribute__") ⟨[.ref a,.str "keys" tk],[]⟩) R ⟨h,g,d,t,os⟩:=
 QaE F.slot_list_getattribute.plain F.entry_list_ga (F.slot_list_getattribute.check _ _ _ _ _ _ _ _ (show (⟨h,g,d,t,os⟩ : Shared).TypeIs (.ref a) "list" from⟨_,hx,rfl⟩) (F.args_list_getattribute_2 _ _) (mH hh hx hq))
theorem zy {tk:Tok} {Q:Value->Shared->Prop} (hh:A.handled=none) (hx:h.get? a=some (seqObj "list" xs c)) (hq:∀h' tk' e o,(∀b u,h.get? b=some u->h'.get? b=some u)->h'.get? e=some o->o.cls=.type "AttributeError"->E (.ref e) ⟨h',g,d,tk',os⟩):wpAny (model prog w) A (getAttrBy (.ref a) (.str "keys" tk) false) Q E ⟨h,g,d,t,os⟩:=by
 have hT:(⟨h,g,d,t,os⟩ : Shared).TypeIs (.ref a) "list":=⟨_,hx,rfl⟩
 have f2:=F.slot_list_getattribute.lookup
 have f3:=F.slot_list_getattribute.bind (.ref a)
 have f5:=XJ
 repeat (any_goals (first | assumption | wp_step))
 refine tG hh hx λh' tk' e o k1 k2 k3=>?_
 have hT2:(⟨h',g,d,tk',os⟩ : Shared).TypeIs (.ref e) "AttributeError":=⟨_,k2,k3⟩
 have f6:=Wo
 repeat (any_goals (first | assumption | wp_step))
 all_goals exact hq h' tk' e o k1 k2 k3
theorem tH {Q:Option Value->Shared->Prop} (hh:A.handled=none) (hx:h.get? a=some (seqObj "list" xs c)) (hq:∀h' tk',(∀b u,h.get? b=some u->h'.get? b=some u)->Q none ⟨h',g,d,tk',os⟩):wpAny (model prog w) A (getAttr? (.ref a) "keys") Q E ⟨h,g,d,t,os⟩:=by
 unfold getAttr? getAttrBy?
 refine Qcn (wpAny_mkText (Qcn (QbX ?_)))
 refine zy hh hx λh' tk' e o k1 k2 k3=>?_
 have hT2:(⟨h',g,d,tk',os⟩ : Shared).TypeIs (.ref e) "AttributeError":=⟨_,k2,k3⟩
 refine Qcn (wpAny_isInstance hT2 Wo ?_)
 rw[if_pos rfl]
 exact Qco (hq _ _ k1)
end
theorem G3:plainId "dict.update.loop"=true:=by trivial
theorem Nx:entryFor table "dict.update.loop"=some Builtin.«dict.update.loop»:=entryFor_of_fast (by kernel_rfl)
section
variable {prog:Program} {w:World} {κ : Type} [DecidableEq κ] {knd:KeyKind prog w κ} {A:Around} {E:Value->Shared->Prop} {s:Shared} {R:Result->Shared->Prop}
end
section
variable {prog:Program} {w:World} {κ : Type} [DecidableEq κ] {knd:KeyKind prog w κ} {A:Around} {E:Value->Shared->Prop} {s:Shared}
end
structure BZ (P:Program) (w:World) (K:PySem.W.Frag) (mg:Str->Option Value) (base:Heap) (C:Addr) (m:Str) (k:Nat) (ps:List Str) (sp:Sp):Prop where
 ex:∃(f:Addr) (fd:FuncData),Meth K C m f/\Binds K fd ps []/\Ga P w K mg base (CX1 P w) k f fd ps sp
theorem Gz.Ms {P:Program} {w:World} {K:PySem.W.Frag} {mg:Str->Option Value} {base:Heap} {C:Addr} {m qn:Str} {st:Stmt} {ps N:List Str} {k:Nat} {sp:Sp} (c:Gz K C m qn st ps) (S:Ay N ps (Aj st)) (len:∀vs H Q E,sp vs H Q E->vs.length=ps.length)
  (hbody:∀(X:Cx) (f:Addr) (cdv:Value) (A:Around) (outer:List Env) (s:Shared) (H:Hp) (vs:List V) (Q:VK) (E:XK),X=Kp (CX1 P w) P w K mg base N qn (Aj st) f cdv A outer s H E->OD X (λ_=>E)->Cp k X.A->sp vs H Q E ->
   ∃t,PSs X (Cw st) t/\t { nx:=λ_ H'=>Q .non H',rt:=Q } (start N vs) H):BZ P w K mg base C m (k+1) ps sp:=by
 obtain⟨f,fd,F,M,b⟩:=c.ex
 refine⟨f,fd,M,b,?_⟩
 obtain⟨oc,od,kV,doc,pm,an,cdv,ct,osl,rfl,lk,hcd⟩:=F.ex
 exact qN lk hcd S len λA outer s H vs Q E hr hsp=>hbody _ f cdv A outer s H vs Q E rfl lN hr hsp
def uV (C:Addr) (m:Str) (sp:Sp) (EX:St->XK) (ta:TE) (t:TA):TE:=fun σ H Q=>ta σ H λx H1=>∃a dx fs,x=.ref a/\H1 a=some (.ins C dx fs)/\fs.lookup m=none/\t σ H1 λvs H2=>sp (x::vs) H2 Q (EX σ)
theorem Dm {X:Cx} {EX:St->XK} {pl:Sem Bool} {k k':Nat} {C:Addr} {ps:List Str} {sp:Sp} {m:Str} {apos pos:Pos} {o e:Expr} {es:List Expr} {ta:TE} {t:TA} (he0:PE X o ta) (c:Cls X.K C) (g:BZ X.prog X.w X.K X.mg X.base C m k ps sp) (hr:Cp k' X.A) (hx:OD X EX) (ha:PA X (e::es) t) (hk:k<=k':=by decide)
  (hst:starEach (e::es) X.env=(false,eval e X.env)::starEach es X.env:=by rfl) (hpl:(backTo pos (starEach es X.env)).any (·.1)=false:=by rfl)
  (ht:eval (.Call (.Attribute o m apos) (e::es) [] pos) X.env=(do
   let ov <-eval o X.env
   standAt apos.atName
   let (f,first) <-holding [ov] (getMethod ov m pl)
   callWith pos f first (backTo pos (starEach (e::es) X.env)) (backToKw pos (keywordEach [] X.env))):=by rfl) :
  PE X (.Call (.Attribute o m apos) (e::es) [] pos) (uV C m sp EX ta t):=by
 intro pins s σ H Q I h
 obtain⟨f,fd,hm,b,F⟩:=g.ex
 refine methodCall_KW (pl:=pl) (thn (he0 pins s σ H _ I h) λu s1 ⟨x,H1,I1,rx,a,dx,fs,ex,ea,l,q⟩=>?_) ht
 subst ex
 obtain rfl:u=Value.ref a:=rx
 refine KC I1 ea c hm l ?_
 refine callWith_K (first:=[.ref a]) (h₀:=X.base) I.ok.mod.kin hm.kp (thn (ha pos pins s1 σ H1 _ I1 q) λus s2 ⟨vs,H2,I2,r,q2⟩=>⟨I2.kIn,?_⟩) hst hpl
 have r':Vals (.ref a::vs) (Value.ref a::us):=.cons rfl r
 have hl:(Value.ref a::us).length=ps.length:=by rw[<-r'.length];exact F.len _ _ _ _ q2
 have bd:=b s2 (Value.ref a::us) I2.kIn (by rw[QbD];exact hl)
 rw[QbD] at bd
 refine wpAny_call (Qch (F.run X.A X.stack s2 H2 ⟨Value.ref a::us,[]⟩ (Value.ref a::us) (.ref a::vs) Q (EX σ) (hr.mono hk) I2.env0 bd r' q2) λrr s' hq=>?_)
 cases rr with
 | error ev=>exact hx pins σ H2 s2 ev s' I2 hq
 | ok fl=>
  cases fl with
  | ret u=>exact I2.after hq
  | next=>exact False.elim hq
  | brk=>exact False.elim hq
  | cont=>exact False.elim hq
open PySem.W (KasT kas_asc kas_desc kas_rev kas_tail3 kas_descPart kas_count kas_place kas_bin kas_sort)
def Eo {α : Type} (lt:Nat->Nat->Bool):KasT α->α
 | .ret a=>a
 | .ask i j k=>Eo lt (k (lt i j))
theorem Io {α β : Type} {lt:Nat->Nat->Bool} {f:α->KasT β}:∀t:KasT α,Eo lt (t.bind f)=Eo lt (f (Eo lt t))
 | .ret a=>rfl
 | .ask i j k=>Io (k (lt i j))
theorem RK {α : Type} {lt:Nat->Nat->Bool} {n:Nat} {P:α->Prop}:∀t:KasT α,Ge n P t->P (Eo lt t)
 | .ret a,h=>h
 | .ask i j k,h=>RK (k (lt i j)) (h.2.2 _)
theorem Z8 {α : Type} {lt:Nat->Nat->Bool} {n:Nat} {P:α->Prop} {Q:α->Shared->Prop} {s:Shared} {cmp:Nat->Nat->(Bool->Shared->Prop)->Shared->Prop} (hc:∀i j C,i < n->j < n->C (lt i j) s->cmp i j C s):∀t:KasT α,Ge n P t->Q (Eo lt t) s->t.kasWp cmp Q s
 | .ret a,h,q=>q
 | .ask i j k,h,q=>hc i j _ h.1 h.2.1 (Z8 hc (k (lt i j)) (h.2.2 _) q)
section
variable {n:Nat} {ky:Nat->Int}
def Gk (ky:Nat->Int) (p:Array Nat) (i:Nat):Int:=ky (p.getD i 0)
def ltK (ky:Nat->Int) (i j:Nat):Bool:=decide (ky i < ky j)
def Inj (n:Nat) (ky:Nat->Int):Prop:=∀i j,i < n->j < n->ky i=ky j->i=j
def U4 (ky:Nat->Int) (p:Array Nat) (m:Nat):Prop:=∀i,i+1 < m->Gk ky p i < Gk ky p (i+1)
def Fall (ky:Nat->Int) (p:Array Nat) (m:Nat):Prop:=∀i,i+1 < m->Gk ky p (i+1) < Gk ky p i
def JL (ky:Nat->Int) (p:Array Nat) (m:Nat):Prop:=∀i j,i < j->j < m->Gk ky p i < Gk ky p j
theorem U4.all {p:Array Nat} {m:Nat} (h:U4 ky p m):JL ky p m:=λi j hij hj=>by
 induction j with
 | zero=>omega
 | succ j ih=>
  have h1:=h j hj
  by_cases e:i=j
  ·rw[e];exact h1
  ·exact Int.lt_trans (ih (by omega) (by omega)) h1
theorem gQ {α : Type} {l:List α} (nd:l.Nodup) {i j:Nat} (hi:i < l.length) (hj:j < l.length) (e:l[i]=l[j]):i=j:=by
 rcases Nat.lt_trichotomy i j with h | h | h
 ·exact absurd e (Qak.mp nd i j hi hj h)
 ·exact h
 ·exact absurd e.symm (Qak.mp nd j i hj hi h)
theorem Pm.size {p:Array Nat} (h:Pm n p):p.size=n:=by
 have:=List.Perm.length_eq h
 simpa using this
theorem Pm.ne (hi:Inj n ky) {p:Array Nat} (h:Pm n p) {i j:Nat} (a:i < n) (b:j < n) (ne:i≠j):Gk ky p i≠Gk ky p j:=λe=>by
 have n0:0 < n:=by omega
 have hs:=h.size
 have e:=hi _ _ (h.lt n0 i) (h.lt n0 j) e
 have nd:p.toList.Nodup:=(List.Perm.nodup_iff h).mpr List.nodup_range
 have e1:p.getD i 0=p.toList[i]'(by simp[hs,a]):=by simp[hs,a]
 have e2:p.getD j 0=p.toList[j]'(by simp[hs,b]):=by simp[hs,b]
 rw[e1,e2] at e
 exact ne (gQ nd _ _ e)
theorem Uh (hi:Inj n ky) {p:Array Nat} (h:Pm n p):∀f k,1<=k->k+f<=n->U4 ky p k->∃m,Eo (ltK ky) (kas_asc p f k)=m/\k<=m/\m<=k+f/\U4 ky p m/\(m < k+f->Gk ky p m < Gk ky p (m - 1))
 | 0,k,_,_,r=>⟨k,rfl,Qci _,Qci _,r,λz=>absurd z (QbV _)⟩
 | f+1,k,h1,h2,r=>by
  show ∃m,Eo (ltK ky) (if ltK ky (p.getD k 0) (p.getD (k - 1) 0)=true then KasT.ret k else kas_asc p f (k+1))=m/\_
  by_cases c:Gk ky p k < Gk ky p (k - 1)
  ·rw[if_pos (show ltK ky _ _=true from QbM c)]
   exact⟨k,rfl,Qci _,by omega,r,λ_=>c⟩
  ·rw[if_neg (show ¬ltK ky _ _=true from λz=>c (Qbi z))]
   obtain⟨m,e,a,b,d,g⟩:=Uh hi h f (k+1) (by omega) (by omega) (λi hi'=>by
    by_cases e:i+1=k
    ·have:=h.ne hi (i:=i) (j:=i+1) (by omega) (by omega) (by omega)
     have c:¬Gk ky p (i+1) < Gk ky p i:=by rw[<-e] at c;exact c
     omega
    ·exact r i (by omega))
   exact⟨m,e,by omega,by omega,d,λz=>g (by omega)⟩
theorem Xa (hi:Inj n ky) {p:Array Nat} (h:Pm n p):∀f k,1<=k->k+f<=n->Fall ky p k->∃m,Eo (ltK ky) (kas_desc f p k 0)=(p,m,0)/\k<=m/\m<=k+f/\Fall ky p m
 | 0,k,_,_,r=>⟨k,rfl,Qci _,Qci _,r⟩
 | f+1,k,h1,h2,r=>by
  show ∃m,Eo (ltK ky) (if ltK ky (p.getD k 0) (p.getD (k - 1) 0)=true then (if 0 > 0 then kas_desc f (kas_rev p (k - (0+1)) k) (k+1) 0 else kas_desc f p (k+1) 0) else KasT.ask (p.getD (k - 1) 0) (p.getD k 0) λd=>if d=true then KasT.ret (p,k,0) else kas_desc f p (k+1) (0+1))=(p,m,0)/\_
  by_cases c:Gk ky p k < Gk ky p (k - 1)
  ·rw[if_pos (show ltK ky _ _=true from QbM c),if_neg (QbV 0)]
   obtain⟨m,e,a,b,d⟩:=Xa hi h f (k+1) (by omega) (by omega) (λi hi'=>by
    by_cases e:i+1=k
    ·rw[<-e] at c;exact c
    ·exact r i (by omega))
   exact⟨m,e,by omega,by omega,d⟩
  ·rw[if_neg (show ¬ltK ky _ _=true from λz=>c (Qbi z))]
   have ne:=h.ne hi (i:=k) (j:=k - 1) (by omega) (by omega) (by omega)
   show ∃m,Eo (ltK ky) (if ltK ky (p.getD (k - 1) 0) (p.getD k 0)=true then KasT.ret (p,k,0) else kas_desc f p (k+1) (0+1))=(p,m,0)/\_
   rw[if_pos (show ltK ky _ _=true from QbM (show Gk ky p (k - 1) < Gk ky p k by omega))]
   exact⟨k,rfl,Qci _,by omega,r⟩
theorem Wc {p q:Array Nat} {i j:Nat} (e:p[i]?=q[j]?):Gk ky p i=Gk ky q j:=by
 unfold Gk
 rw[Array.getD_eq_getD_getElem?,Array.getD_eq_getD_getElem?,e]
theorem jK {p:Array Nat} {m i:Nat} (hm:m<=p.size) (hi:i < m):Gk ky (kas_rev p 0 m) i=Gk ky p (m - 1 - i):=by
 apply Wc
 unfold kas_rev
 rw[getElem?_mirror_all hm,if_pos ⟨Qcj _,hi⟩]
 congr 1
 omega
theorem jL {p:Array Nat} {k l i:Nat} (hk:k < p.size) (hl:l<=k):Gk ky (bubble p k (k - l)) i=if i=l then Gk ky p k else if l < i/\i<=k then Gk ky p (i - 1) else Gk ky p i:=by
 have e:=getElem?_bubble hk (k - l) (by omega) i
 rw[show k - (k - l)=l by omega] at e
 split at e
 ·rename_i h;rw[if_pos h];exact Wc e
 ·rename_i h
  rw[if_neg h]
  split at e
  ·rename_i h;rw[if_pos h];exact Wc e
  ·rename_i h;rw[if_neg h];exact Wc e
def Done (n:Nat) (ky:Nat->Int) (r:Nat×Array Nat):Prop:=1<=r.1/\r.1<=n/\U4 ky r.2 r.1
theorem kI (hi:Inj n ky) {p:Array Nat} (h:Pm n p) {m:Nat} (h1:1<=m) (h2:m<=n) (f:Fall ky p m):Done n ky (Eo (ltK ky) (kas_tail3 m n p)):=by
 have hs:=h.size
 have r0:U4 ky (kas_rev p 0 m) m:=λi hi'=>by
  rw[jK (by omega) (by omega),jK (by omega) (by omega)]
  have:=f (m - 1 - (i+1)) (by omega)
  rw[show m - 1 - (i+1)+1=m - 1 - i by omega] at this
  exact this
 obtain⟨k,e,a,b,d,_⟩:=Uh hi (h.rev 0 m) (n - m) m h1 (by omega) r0
 unfold kas_tail3
 rw[Io,e]
 exact⟨by show 1<=k;omega,by show k<=n;omega,d⟩
theorem fV (hi:Inj n ky) {p:Array Nat} (h:Pm n p) (n0:2<=n):Done n ky (Eo (ltK ky) (kas_count n p)):=by
 obtain⟨m,e,a,b,d,g⟩:=Uh hi h (n - 1) 1 (Qci _) (by omega) (λi hi'=>by omega)
 unfold kas_count
 rw[Io,e]
 by_cases c1:m=n
 ·rw[if_pos (by rw[c1];exact beq_self_eq_true n)]
  exact⟨a,by show m<=n;omega,d⟩
 ·rw[if_neg (λz=>c1 (eq_of_beq z))]
  by_cases c2:m > 1
  ·rw[if_pos c2]
   show Done n ky (Eo (ltK ky) (if ltK ky (p.getD 0 0) (p.getD (m - 1) 0)=true then KasT.ret (m,p) else kas_descPart m n (kas_rev p 0 m)))
   rw[if_pos (show ltK ky _ _=true from QbM (d.all 0 (m - 1) (by omega) (by omega)))]
   exact⟨a,by show m<=n;omega,d⟩
  ·rw[if_neg c2]
   have m1:m=1:=by omega
   subst m1
   have g:=g (by omega)
   obtain⟨k,e,a,b,d⟩:=Xa hi h (n - (1+1)) (1+1) (by omega) (by omega) (λi hi'=>by
    have:i=0:=by omega
    subst this
    exact g)
   unfold kas_descPart
   rw[Io,e]
   show Done n ky (Eo (ltK ky) (if 0 > 0 then _ else kas_tail3 k n p))
   rw[if_neg (QbV 0)]
   exact kI hi h (by omega) (by omega) d
theorem Py (hi:Inj n ky) {p:Array Nat} (h:Pm n p) {k:Nat} (hk:k < n) (R:JL ky p k):∀f l r,r<=l+f->l<=r->r<=k->(∀i,i < l->Gk ky p i < Gk ky p k)->(∀i,r<=i->i < k->Gk ky p k < Gk ky p i)->∃m,Eo (ltK ky) (kas_place p k f l r)=m/\m<=k/\(∀i,i < m->Gk ky p i < Gk ky p k)/\∀i,m<=i->i < k->Gk ky p k < Gk ky p i
 | 0,l,r,h1,h2,h3,h4,h5=>⟨l,rfl,by omega,h4,λi a b=>h5 i (by omega) b⟩
 | f+1,l,r,h1,h2,h3,h4,h5=>by
  unfold kas_place
  by_cases c:l ≥ r
  ·rw[if_pos c]
   exact⟨l,rfl,by omega,h4,λi a b=>h5 i (by omega) b⟩
  ·rw[if_neg c]
   show ∃m,Eo (ltK ky) (if ltK ky (p.getD k 0) (p.getD ((l+r) / 2) 0)=true then kas_place p k f l ((l+r) / 2) else kas_place p k f ((l+r) / 2+1) r)=m/\_
   have hm:(l+r) / 2 < r/\l<=(l+r) / 2:=by omega
   generalize (l+r) / 2=q at hm ⊢
   by_cases d:Gk ky p k < Gk ky p q
   ·rw[if_pos (show ltK ky _ _=true from QbM d)]
    refine Py hi h hk R f l q (by omega) (by omega) (by omega) h4 λi a b=>?_
    by_cases e:i=q
    ·rw[e];exact d
    ·exact Int.lt_trans d (R q i (by omega) b)
   ·rw[if_neg (show ¬ltK ky _ _=true from λz=>d (Qbi z))]
    refine Py hi h hk R f (q+1) r (by omega) (by omega) (by omega) (λi a=>?_) h5
    have ne:=h.ne hi (i:=q) (j:=k) (by omega) (by omega) (by omega)
    have lt:Gk ky p q < Gk ky p k:=by omega
    by_cases e:i=q
    ·rw[e];exact lt
    ·exact Int.lt_trans (R i q (by omega) (by omega)) lt
theorem ZS (hi:Inj n ky):∀f (p:Array Nat),Pm n p->∀k,k+f=n->JL ky p k->JL ky (Eo (ltK ky) (kas_bin f p k)) n
 | 0,p,h,k,e,R=>by rw[<-e];exact R
 | f+1,p,h,k,e,R=>by
  have hs:=h.size
  show JL ky (Eo (ltK ky) ((kas_place p k k 0 k).bind λl=>kas_bin f (bubble p k (k - l)) (k+1))) n
  rw[Io]
  obtain⟨l,el,a,b,c⟩:=Py hi h (k:=k) (by omega) R k 0 k (by omega) (Qcj _) (Qci _) (λi z=>absurd z (QbI _)) (λi x y=>by omega)
  rw[el]
  refine ZS hi f _ (h.bub _ _) (k+1) (by omega) λi j hij hj=>?_
  rw[jL (by omega) a,jL (by omega) a]
  by_cases ei:i=l
  ·rw[if_pos ei,if_neg (by omega),if_pos ⟨by omega,by omega⟩]
   exact c _ (by omega) (by omega)
  ·rw[if_neg ei]
   by_cases ej:j=l
   ·rw[if_neg (by omega),if_pos ej]
    exact b _ (by omega)
   ·rw[if_neg ej]
    by_cases gi:l < i
    ·rw[if_pos ⟨gi,by omega⟩,if_pos ⟨by omega,by omega⟩]
     exact R _ _ (by omega) (by omega)
    ·rw[if_neg (λz=>gi z.1)]
     by_cases gj:l < j
     ·rw[if_pos ⟨gj,by omega⟩]
      exact R _ _ (by omega) (by omega)
     ·rw[if_neg (λz=>gj z.1)]
      exact R _ _ (by omega) (by omega)
theorem kJ (hi:Inj n ky) (n0:2<=n):JL ky (Eo (ltK ky) (kas_sort n)) n:=by
 have h0:Pm n (List.toArray (List.range n)):=by unfold Pm;exact List.Perm.refl _
 obtain⟨a,b,c⟩:=fV hi h0 n0
 have hp:=RK (lt:=ltK ky) _ (Vv (by omega) h0 n)
 unfold kas_sort
 rw[Io]
 generalize Eo (ltK ky) (kas_count n (List.toArray (List.range n)))=r at a b c hp
 show JL ky (Eo (ltK ky) (if r.1 < n then kas_bin (n - max r.1 1) r.2 (max r.1 1) else KasT.ret r.2)) n
 have em:max r.1 1=r.1:=by omega
 by_cases d:r.1 < n
 ·rw[if_pos d,em]
  exact ZS hi _ _ hp _ (by omega) c.all
 ·rw[if_neg d]
  have:r.1=n:=by omega
  rw[<-this]
  exact c.all
theorem JL.list {p:Array Nat} (h:Pm n p) (R:JL ky p n):(p.toList.map ky).Pairwise (· < ·):=by
 have hs:=h.size
 rw[Qak]
 intro i j hi hj hij
 have hi':i < n:=by simpa [hs] using hi
 have hj':j < n:=by simpa [hs] using hj
 have:=R i j hij hj'
 unfold Gk at this
 have e1:p.getD i 0=p[i]'(by omega):=by simp[hs,hi']
 have e2:p.getD j 0=p[j]'(by omega):=by simp[hs,hj']
 rw[e1,e2] at this
 simpa using this
end
theorem YL {α β : Type} (d:α) (e:β) {F:α->β->Prop}:∀{l:List α} {m:List β} {i:Nat},Paired F l m->i < l.length->F (l.getD i d) (m.getD i e):=by
 intro l m i r
 induction r generalizing i with
 | nil=>intro h;exact absurd h (QbI _)
 | cons a t ih=>
  intro h
  cases i with
  | zero=>exact a
  | succ i=>exact ih (Nat.lt_of_succ_lt_succ h)
section
variable {prog:Program} {w:World} {A:Around} {s:Shared}
theorem wJ {fin:Bool} {C:Bool->Shared->Prop} (hC:C fin s):∀(l:List Value),(∀y∈l,∃a t,y=Value.int a t)->∀i,PySem.W.KatLex prog w A true fin C (l.zip l) i s
 | [],_,_=>hC
 | y::r,h,i=>by
  obtain⟨a,t,rfl⟩:=h y (QaN ..)
  rw[List.zip_cons_cons]
  refine kat_cons (wpAny_eqBool_int ?_)
  rw[show (a == a)=true from beq_self_eq_true a]
  exact PySem.W.kat_yes (wJ hC r (λy hy=>h y (QaA _ hy)) (i+1))
end
end L2
namespace PySem
open Sem (wp)
open AutoSeq1 (wpAny_loadPart')
section
variable {prog:Program} {w:World} {A:Around} {E:Value->Shared->Prop} {s:Shared}
theorem UL {e it l:Addr} {i:Nat} {j:Int} {items:Array Value} {old:Value} {Q:Option Value->Shared->Prop} (hh:A.handled=none) (he:IsEnum s.heap e it j old) (hit:s.heap.IsListIter it l i) (hl:s.heap.IsList l items) (hx:items[i]?=none)
  (hQ:∀h',Heap.ExtBut it s.heap h'->Q none { s with heap:=h' }):wpAny (model prog w) A (pyNext (.ref e)) Q E s:=by
 have hT:s.TypeIs (.ref e) "enumerate":=⟨_,he,rfl⟩
 unfold pyNext
 refine Qcn (QbX (Qar (name:=Str.ofString "__next__") hT F.slot_enumerate_next (Qbr F.slot_enumerate_next hT F.entry_enumerate_next ?_ (F.args_enumerate_next_1 _))))
 show wpAny _ _ (field (.ref e) 2 >>= _) _ _ _
 refine Qcn (Qcl he rfl (x:=.ref it) rfl (Qcn (wpAny_nextOf_list_end hh hit hl hx λh' x he' hx'=>?_)))
 obtain⟨o,ho,hc⟩:=hx'
 exact Qcn (wpAny_isInstance (T:="StopIteration") (b:=true) ⟨o,ho,hc⟩ isSubtype_stop (Qco (hQ _ he')))
end
end PySem
namespace L2
open PySem PySem.Spec PyProof.Rows
def Qm (K:PySem.W.Frag) (a:Addr) (lo:Nat):It:=
 ⟨λi H=>∃xs x,SqL K H a xs/\xs[i]?=some x,λi H v H'=>∃p x,H p=none/\v=.ref p/\H'=upd H p (.tup [.int ((lo+i:Nat):Int),x])/\∀xs,SqL K H a xs->xs[i]?=some x,λi H=>∃xs,SqL K H a xs/\xs.length<=i⟩
theorem aU {P:Program} {w:World} {K:PySem.W.Frag} {elts:List Expr} {k:Nat} {pos:Pos} (a e it:Addr) (lo:Nat) (nei:e≠it):Turn P w K (.Tuple elts k pos) (Qm K a lo) [e,it] e (λi h=>(∃old,IsEnum h e it ((lo+i:Nat):Int) old)/\h.IsListIter it a i) where
 mem:=by simp
 obj:=λi h st b hb=>by
  obtain⟨⟨old,he⟩,o,ho,hc,hd⟩:=st
  rcases QbS.mp hb with rfl | hb
  ·exact⟨_,he,λv z=>by cases (show Data.fields _=Data.cell v from z)⟩
  ·have:b=it:=by simpa using hb
   subst this
   exact⟨o,ho,λv z=>by rw[hd] at z;cases z⟩
 keep:=λi h h' st k=>by
  obtain⟨⟨old,he⟩,hi⟩:=st
  exact⟨⟨old,k e (by simp) _ he⟩,hi.at λo q=>k it (by simp) o q⟩
 item:=by
  intro X hP hw hK hc i pins s σ H E I hf st hg
  subst hP hw hK
  obtain⟨xs,x,hq,hx⟩:=hg
  obtain⟨its,rv,p,hz⟩:=I.list hq
  obtain⟨u,hu,ru⟩:=rv.get hx
  obtain⟨⟨old,he⟩,hit⟩:=st
  have hts:s.heap.IsList a its.toArray:=p.isList
  have ane:a≠e:=λz=>by
   obtain⟨o,ho,hcl,_⟩:=hts
   rw[z,he] at ho
   cases ho
   injection hcl with q
   exact absurd q (by decide)
  have ani:a≠it:=λz=>by
   obtain⟨o,ho,hcl,_⟩:=hts
   obtain⟨o',ho',hcl',_⟩:=hit
   rw[z,ho'] at ho
   cases ho
   rw[hcl'] at hcl
   injection hcl with q
   exact absurd q (by decide)
  have hlt:i < its.toArray.size:=by
   have:=(Qai.mp hu).1
   simpa using this
  have D:=(Draws.list (prog:=X.prog) (w:=X.w) (A:=X.A.in1) (I.ok.hd hc) it a ani its.toArray).from lo
  refine wpAny_pyNext_enum_itemD D he ⟨i,rfl,Qcf hlt,hit,hts⟩ (by omega) nei (by simp[nei,ane.symm]) λy h1 tk hP ho hst hT hsz hk=>?_
  obtain⟨i',ei,hy⟩:=hP
  have:i'=i:=by omega
  subst this
  have ey:y=u:=by
   have h2:its.toArray[i']?=some u:=by simpa using hu
   rw[h2] at hy
   exact (QbB hy).symm
  subst ey
  refine⟨_,rfl,wpAny_letOwnedTupleGo_enum ho λh2 he2 hs2=>?_⟩
  have hlt2:s.heap.objs.size≠e:=Qcg (Qcb he)
  have hT2:h2.get? s.heap.objs.size=some { cls:=.type "tuple",data:=.seq #[.int ((lo+i':Nat):Int) tk,y] }:=(hs2.2 _ hlt2).trans hT
  have new:Bm X.prog X.w (upd H s.heap.objs.size (.tup [.int ((lo+i':Nat):Int),x])) h2 s.heap.objs.size (.tup [.int ((lo+i':Nat):Int),x]):=
   ⟨by show 2<=sizeLine;decide,[.int ((lo+i':Nat):Int) tk,y],.cons ⟨tk,rfl⟩ (.cons ru .nil),_,hT2,rfl,0,rfl⟩
  have I1:=I.Mg (h':=h2) (t':=tk+1) (Qci _) (λb q hb z=>(hs2.2 b (λw=>hb (by simp[w]))).trans (hk b q (λw=>hb (by simp[w])) (λw=>hb (by simp[w])) z)) hf new
  refine⟨.ref s.heap.objs.size,_,I1,rfl,⟨s.heap.objs.size,x,I.hok.fresh (Qci _),rfl,rfl,λys hy'=>by rw[I.XM hy' hq];exact hx⟩,⟨⟨y,?_⟩,?_⟩,λb hb=>?_⟩
  ·have:=he2
   rw[show ((lo+(i'+1):Nat):Int)=((lo+i':Nat):Int)+1 by omega]
   exact this
  ·obtain⟨i2,e2,_,st2,_⟩:=hst
   have:i2=i'+1:=by omega
   subst this
   exact st2.at λo q=>(hs2.2 it (Ne.symm nei)).trans q
  ·have hb':b < s.heap.objs.size:=by
    rcases QbS.mp hb with rfl | hb
    ·exact Qcb he
    ·have:b=it:=by simpa using hb
     subst this
     obtain⟨o,ho',_⟩:=hit
     exact Qcb ho'
   rw[Al (Qcc hb')]
   exact (hf b hb).1
 done:=by
  intro X hP hw hK hc i pins s σ H E I hf st hg
  subst hP hw hK
  obtain⟨xs,hq,hx⟩:=hg
  obtain⟨its,rv,p,hz⟩:=I.list hq
  obtain⟨⟨old,he⟩,hit⟩:=st
  have hl:=rv.length
  exact UL (I.ok.hd hc) he hit p.isList (by simp;omega) λh' eb=>⟨rfl,I.Qt (t':=s.toks) (λb o hb q=>eb b o (λz=>hb (by simp[z])) q) hf⟩
 self:=λ_ _ _ _ _ st h=>let ⟨⟨_,he⟩,_⟩:=st;wpAny_pyIter_enum he h
section
variable {X:Cx}
theorem pN {pins:List (Addr×Obj)} {σ : St} {H:Hp} {s:Shared} {R:It->Hp->Prop} {E:Value->Shared->Prop} {elts:List Expr} {k:Nat} {pos:Pos} {a:Addr} {lo:Nat} {tk:Nat} (I:Inv X pins σ H s) (q:R (Qm X.K a lo) H) :
  wpAny (model X.prog X.w) X.A (pyIter (.ref (s.heap.objs.size+1))) (PIE X pins σ (.Tuple elts k pos) R) E
   { s with heap:=(s.heap.push { cls:=.type "list_iterator",data:=.fields #[.ref a,.int 0 0] }).push { cls:=.type "enumerate",data:=.fields #[.none,.bool false,.ref s.heap.objs.size,rawInt (lo:Int),.none,.none] },toks:=tk }:=by
 have hz:(s.heap.push { cls:=.type "list_iterator",data:=.fields #[.ref a,.int 0 0] }).objs.size=s.heap.objs.size+1:=QbN ..
 have he:IsEnum ((s.heap.push { cls:=.type "list_iterator",data:=.fields #[.ref a,.int 0 0] }).push { cls:=.type "enumerate",data:=.fields #[.none,.bool false,.ref s.heap.objs.size,rawInt (lo:Int),.none,.none] }) (s.heap.objs.size+1) s.heap.objs.size (lo:Int) .none:=by
  have:=QaF (s.heap.push { cls:=.type "list_iterator",data:=.fields #[.ref a,.int 0 0] }) (o:={ cls:=.type "enumerate",data:=.fields #[.none,.bool false,.ref s.heap.objs.size,rawInt (lo:Int),.none,.none] }) rfl
  rw[hz] at this
  exact this
 refine wpAny_pyIter_enum he ⟨s.heap.objs.size+1,[s.heap.objs.size+1,s.heap.objs.size],_,_,H,rfl,I.kept (t':=tk) λb o e=>Qat _ (Qat _ e),aU a (s.heap.objs.size+1) s.heap.objs.size lo (Nat.succ_ne_self _),⟨⟨.none,he⟩,⟨_,Qat _ (QaF _ rfl),rfl,rfl⟩⟩,λb hb=>?_,q⟩
 have hb':s.heap.objs.size<=b:=by
  simp only[QbS,Qbs,Qcr] at hb
  rcases hb with rfl | rfl
  ·exact Nat.le_succ _
  ·exact Qci _
 exact I.Qf hb' (I.hok.fresh hb')
end
section
variable {X:Cx}
def wV (K:PySem.W.Frag) (lo:Nat) (tl:TE):TI:=fun σ H R=>tl σ H λx H1=>∃a,x=.ref a/\(∃xs,SqL K H1 a xs)/\R (Qm K a lo) H1
theorem Zd {pins:List (Addr×Obj)} {σ : St} {H:Hp} {s:Shared} {R:It->Hp->Prop} {elts:List Expr} {k:Nat} {pos:Pos} {a:Addr} {xs:List V} (I:Inv X pins σ H s) (hq:SqL X.K H a xs) (q:R (Qm X.K a 0) H) :
  wpAny (model X.prog X.w) X.A (call (.type "enumerate") [.ref a]) (λv s1=>wpAny (model X.prog X.w) X.A (pyIter v) (PIE X pins σ (.Tuple elts k pos) R) X.xe s1) X.xe s:=by
 obtain⟨its,rv,p,hz⟩:=I.list hq
 obtain⟨⟨c,dct,dt,sl⟩,hl,hc,n,hd⟩:=p.isList
 replace hc:c=.type "list":=hc
 replace hd:dt=.seq its.toArray n:=hd
 subst hc hd
 refine callType_new F.called_enumerate (by decide) (F.typeCall_enumerate_1 _) (F.newCall_enumerate_1 _) (λobj=>F.args_object_init_2 obj _) F.entry_enumerate_new (meets_enumerate_newL a its.toArray n dct sl) ⟨hl,?_⟩
 have hz:(s.heap.push { cls:=.type "list_iterator",data:=.fields #[.ref a,.int 0 0] }).objs.size=s.heap.objs.size+1:=QbN ..
 show _/\_
 refine⟨⟨_,QaF _ rfl,rfl⟩,?_⟩
 rw[hz]
 exact pN (lo:=0) (tk:=s.toks) I q
end
section
variable {X:Cx}
theorem gk {x:Expr} {tx:TE} {p pos tp:Pos} {elts:List Expr} {k:Nat} (hg:Gl X "enumerate") (hm:X.mg "enumerate"=none) (hl:PE X x tx) (hs:starEach [x] X.env=[(false,eval x X.env)]:=by rfl):PI X (.Tuple elts k tp) (.Call (.Name "enumerate" p) [x] [] pos) (wV X.K 0 tx):=by
 intro pins s σ H R I h
 refine Call_ (Kd I hg hm boot_enumerate (Qae (thn ((Aa hl Ab (by rw[hs];rfl)) pos pins s σ H (λvs H1=>match vs with | [v]=>∃a,v=.ref a/\(∃xs,SqL X.K H1 a xs)/\R (Qm X.K a 0) H1 | _=>False) I h) λus s1 ⟨vs,H1,I1,r1,q1⟩=>?_) hs rfl))
 cases r1 with
 | nil=>exact False.elim q1
 | cons r rr=>
  cases rr with
  | nil=>
   obtain⟨a,e,⟨xs,hq⟩,q⟩:=q1
   subst e
   cases r
   exact Zd I1 hq q
  | cons _ _=>exact False.elim q1
theorem jg {K:PySem.W.Frag} {a:Addr} {lo:Nat} {xs:List V} {g:TG} {tb:TS} {D:Ends} {σ : St} {H:Hp} (Pv:Nat->St->Hp->Prop) (h0:Pv 0 σ H) (hl:∀i σ H',i<=xs.length->Pv i σ H'->SqL K H' a xs)
  (hs:∀i x p σ H',xs[i]?=some x->Pv i σ H'->H' p=none->g (.ref p) σ (upd H' p (.tup [.int ((lo+i:Nat):Int),x])) fun σ2 H2=>tb { D with nx:=Pv (i+1),ct:=Pv (i+1),bk:=D.nx } σ2 H2) (hd:∀ σ H',Pv xs.length σ H'->D.nx σ H') :
  ∃W:Nat->Nat->St->Hp->Prop,(∃m,W 0 m σ H)/\∀i m σ H,W i m σ H ->
   ((Qm K a lo).stop i H/\D.nx σ H)\/((Qm K a lo).go i H/\∃N:St->Hp->Prop,(∀ σ' H',N σ' H'->∃m',m' < m/\W (i+1) m' σ' H')/\∀x H',(Qm K a lo).yld i H x H'->g x σ H' fun σ2 H2=>tb { D with nx:=N,ct:=N,bk:=D.nx } σ2 H2):=by
 refine⟨λi m σ H=>m=xs.length - i/\i<=xs.length/\Pv i σ H,⟨xs.length,by simp,Qcj _,h0⟩,?_⟩
 rintro i m σ H ⟨rfl,hi,p⟩
 have q:=hl i σ H hi p
 by_cases hlt:i < xs.length
 ·refine .inr ⟨⟨xs,xs[i],q,by simp[hlt]⟩,Pv (i+1),fun σ3 H3 p'=>⟨xs.length - (i+1),by omega,rfl,hlt,p'⟩,λv H2 y=>?_⟩
  obtain⟨pa,x,hn,rfl,rfl,hx⟩:=y
  exact hs i x pa σ _ (hx xs q) p hn
 ·have e:i=xs.length:=by omega
  subst e
  exact .inl ⟨⟨xs,q,Qci _⟩,hd σ H p⟩
end
theorem lC {X:Cx} {N':List Str} {src:List (Option Nat)} {sc:Scope} {kx vx tg iter:Expr} {ifs:List Expr} {pos spos px:Pos} {wi:TI} {g:TG} {tt:TT} {tk tv:TE} {i:Nat} {x:Str} (hN:X.N.Nodup) (hi0:X.N[i]?=some x) (hx:Loc X.env.scope x) (hc:X.calm=true) (S:Bk X N' src sc)
  (hi:PI X tg iter wi) (hg:∀s3 H3 fp pn,PG (cxC X N' sc s3 H3 fp pn) tg g) (ht:∀s3 H3 fp pn,PF (cxC X N' sc s3 H3 fp pn) ifs tt) (hk:∀s3 H3 fp pn,PE (cxC X N' sc s3 H3 fp pn) kx tk) (hv:∀s3 H3 fp pn,PE (cxC X N' sc s3 H3 fp pn) vx tv)
  (hsw:swapsWith (.DictComp kx vx [⟨tg,iter,ifs,0⟩] sc pos) (some (.Name x px)) spos.line X.env=pure true:=by rfl) (hs:∀x,foldedSetIterable iter X.env x=pure x:=by intro _;rfl)
  (hf:X.fn x=true\/X.env.scope.names.lookup x=some .local:=by first | exact .inl rfl | exact .inr rfl | assumption) :
  PS X (.Assign [.Name x px] (.DictComp kx vx [⟨tg,iter,ifs,0⟩] sc pos) spos) (bx (Wm wi src g tt tk tv) (G5 i)):=by
 intro pins s σ H D I h
 rw[exec_Assign_Name_used _ _ _ _ hsw]
 refine Qcn (QbY (Qcn ?_))
 show wpAny _ X.A (do let _ <-comprehension (.DictComp kx vx [⟨tg,iter,ifs,0⟩] sc pos) sc X.env _ newDict false (eval iter X.env) (some (assign (.Name x px) X.env))) _ _ s
 refine Qcn (thn (Tv (R:=λ_ s'=>SP X pins D .next s') hc S hi hg ht hk hv hs I h λs3 H3 fp σ4 H4 s5 l I3 f3 J5 q=>?_) λ_ s' hq=>Qco (Qco hq))
 obtain⟨m,⟨oC,es,ep,hoC,r⟩,_⟩:=J5.loc
 have I6:Inv X pins σ H4 { s5 with heap:=s5.heap }:=Qh I3 f3 J5 (Heap.SameBut.refl _ _)
 have hCn:H4 s3.heap.objs.size=none:=J5.free
 have neL:s3.heap.objs.size≠X.env.locals:=Qcg I3.lt
 have mK:∀v,oC.data≠.cell v:=λv z=>by rw[r.1] at z;cases z
 have I7:Inv X (pins++[(s3.heap.objs.size,oC)]) σ H4 s5:=I6.QD λp hp=>(Qbz.mp hp).elim (λz=>I6.pin p (Qaw _ z)) λz=>by
  cases QaT.mp z
  exact⟨hoC,hCn,neL,I3.mF (Qci _),mK⟩
 show wpAny _ X.A (assign (.Name x px) X.env (.ref l)) _ _ s5
 refine wpAny_assign_Name (K4 (v:=.ref l) I7 hN hi0 hx rfl (λs6 I8=>?_) hf)
 have k8:=(I8.pin (s3.heap.objs.size,oC) (Qaw _ (Qaw _ (QaT.mpr rfl)))).1
 refine⟨m,⟨oC,es,ep,k8,r⟩,λh' sb=>⟨_,H4,?_,q⟩⟩
 have I9:=I8.GC
 refine I9.turned (t':=s6.toks) (λb o hb e=>sb.extBut b o hb e) hCn neL (.inr I3.sz) (λy c e z=>?_) (λp hp z=>?_)
 ·obtain⟨v,o,ho,_⟩:=I3.cell y c e
  exact absurd (Qcb ho) (by rw[z];exact QbV _)
 ·have:=(I3.pin p hp).1
  exact absurd (Qcb this) (by rw[z];exact QbV _)
end L2
namespace L2
open PySem
theorem Nj {x:Str} {p:Pos} {es:List Expr} {env:Env}:starEach (.Name x p::es) env=(false,eval (.Name x p) env)::starEach es env:=by rfl
theorem vo {as:List Expr} {p:Pos} {es:List Expr} {env:Env}:starEach (.List as p::es) env=(false,eval (.List as p) env)::starEach es env:=by rfl
theorem vh {a b:Expr} {p:Pos} {es:List Expr} {env:Env}:starEach (.Subscript a b p::es) env=(false,eval (.Subscript a b p) env)::starEach es env:=by rfl
end L2
namespace L2
open PySem PySem.Spec PyProof.Rows
def dR (K:PySem.W.Frag) (a b:Addr):It:=
  ⟨λi H=>∃xs ys x y,H a=some (.tup xs)/\H b=some (.tup ys)/\xs[i]?=some x/\ys[i]?=some y,
   λi H v H'=>∃p x y,H p=none/\v=.ref p/\H'=upd H p (.tup [x,y])/\(∀xs,H a=some (.tup xs)->xs[i]?=some x)/\∀ys,H b=some (.tup ys)->ys[i]?=some y,
   λi H=>∃xs ys,H a=some (.tup xs)/\H b=some (.tup ys)/\(xs.length<=i\/ys.length<=i)⟩
theorem aO {P:Program} {w:World} {K:PySem.W.Frag} {elts:List Expr} {k:Nat} {pos:Pos} (a b z TI TO i1 i2:Addr) (nd:[z,TI,TO,i1,i2].Nodup) :
  Turn P w K (.Tuple elts k pos) (dR K a b) [z,TI,TO,i1,i2] z (λi h=>(∃f1,ZZ.IsZ h z TI TO .none f1)/\ZZ.Dd h TI [.ref i1,.ref i2]/\(∃olds:List Value,ZZ.Dd h TO olds/\olds.length=2)/\h.IsTupleIter i1 a i/\h.IsTupleIter i2 b i) where
 mem:=by simp
 obj:=λi h st c hc=>by
  obtain⟨⟨f1,hz⟩,hTI,⟨olds,hTO,_⟩,⟨o1,e1,_,d1⟩,o2,e2,_,d2⟩:=st
  simp only[QbS,Qbs,Qcr] at hc
  rcases hc with rfl | rfl | rfl | rfl | rfl
  ·exact⟨_,hz,λv q=>by cases (show Data.fields _=Data.cell v from q)⟩
  ·exact⟨_,hTI,λv q=>by cases (show Data.seq _ _=Data.cell v from q)⟩
  ·exact⟨_,hTO,λv q=>by cases (show Data.seq _ _=Data.cell v from q)⟩
  ·exact⟨o1,e1,λv q=>by rw[d1] at q;cases q⟩
  ·exact⟨o2,e2,λv q=>by rw[d2] at q;cases q⟩
 keep:=λi h h' st k=>by
  obtain⟨⟨f1,hz⟩,hTI,⟨olds,hTO,l⟩,h1,h2⟩:=st
  exact⟨⟨f1,k z (by simp) _ hz⟩,k TI (by simp) _ hTI,⟨olds,k TO (by simp) _ hTO,l⟩,h1.at λo e=>k i1 (by simp) o e,h2.at λo e=>k i2 (by simp) o e⟩
 item:=by
  intro X hP hw hK hc i pins s σ H E I hf st hg
  subst hP hw hK
  obtain⟨xs,ys,x,y,hq1,hq2,hx,hy⟩:=hg
  obtain⟨us,ru,p1,z1⟩:=I.tuple (SqT.of hq1)
  obtain⟨ws,rw',p2,z2⟩:=I.tuple (SqT.of hq2)
  obtain⟨u,hu,ru'⟩:=ru.get hx
  obtain⟨v,hv,rv'⟩:=rw'.get hy
  obtain⟨⟨f1,hz⟩,hTI,⟨olds,hTO,lo⟩,hi1,hi2⟩:=st
  simp only[QbE,QbS,Qbs,Qcr,not_or,QbO,not_false_eq_true,and_true] at nd
  obtain⟨⟨n1,n2,n3,n4⟩,⟨n5,n6,n7⟩,⟨n8,n9⟩,n10⟩:=nd
  have D:ZZ.Apart z TI TO [⟨i1,a,us.toArray⟩,⟨i2,b,ws.toArray⟩]:=by
   obtain⟨oa,ea,ca,_⟩:=id p1
   obtain⟨ob,eb,cb,_⟩:=id p2
   obtain⟨o1,e1,c1,_⟩:=id hi1
   obtain⟨o2,e2,c2,_⟩:=id hi2
   have aTO:a≠TO:=λq=>by
    have:=(hf TO (by simp)).1
    rw[<-q,hq1] at this
    cases this
   have bTO:b≠TO:=λq=>by
    have:=(hf TO (by simp)).1
    rw[<-q,hq2] at this
    cases this
   have t1:Value.type "tuple"≠Value.type "zip":=λq=>absurd (by injection q) (show ¬("tuple"="zip") by decide)
   have t2:Value.type "tuple"≠Value.type "tuple_iterator":=λq=>absurd (by injection q) (show ¬("tuple"="tuple_iterator") by decide)
   refine⟨Ne.symm n1,Ne.symm n2,n5,λq hq=>?_,λq hq=>?_,λq hq r hr=>?_,?_⟩
   ·simp only[QbS,Qbs,Qcr] at hq
    rcases hq with rfl | rfl
    ·exact⟨Ne.symm n3,Ne.symm n6,Ne.symm n8⟩
    ·exact⟨Ne.symm n4,Ne.symm n7,Ne.symm n9⟩
   ·simp only[QbS,Qbs,Qcr] at hq
    rcases hq with rfl | rfl
    ·exact⟨Gh ea hz (by rw[ca];exact t1),aTO⟩
    ·exact⟨Gh eb hz (by rw[cb];exact t1),bTO⟩
   ·simp only[QbS,Qbs,Qcr] at hq hr
    rcases hq with rfl | rfl <;> rcases hr with rfl | rfl
    ·exact Gh ea e1 (by rw[ca,c1];exact t2)
    ·exact Gh ea e2 (by rw[ca,c2];exact t2)
    ·exact Gh eb e1 (by rw[cb,c1];exact t2)
    ·exact Gh eb e2 (by rw[cb,c2];exact t2)
   ·simp[n10]
  have hat:∀q∈([⟨i1,a,us.toArray⟩,⟨i2,b,ws.toArray⟩]:List ZZ.Src),ZZ.SrcAt s.heap q i:=λq hq=>by
   simp only[QbS,Qbs,Qcr] at hq
   rcases hq with rfl | rfl
   ·exact .inr ⟨hi1,p1⟩
   ·exact .inr ⟨hi2,p2⟩
  refine ZZ.bM hz (Qi:=λr s'=>∃h',r=.ref s.heap.objs.size/\s'={ s with heap:=h' }/\ZZ.IsZ h' z TI TO (rawInt s.heap.objs.size) (.bool false)/\ZZ.Dd h' TI [.ref i1,.ref i2]/\ZZ.Dd h' TO [u,v]/\(∀q∈([⟨i1,a,us.toArray⟩,⟨i2,b,ws.toArray⟩]:List ZZ.Src),ZZ.SrcAt h' q (i+1))/\ZZ.Dd h' s.heap.objs.size [u,v]/\ZZ.Rest z TO [⟨i1,a,us.toArray⟩,⟨i2,b,ws.toArray⟩] s.heap h')
   (ZZ.Vx (xs:=[u,v]) D hz hTI hTO hat (by simp) rfl lo (λj q hj=>?_) (by show 2<=100;decide) λh' a1 a2 a3 a4 a5 a6 a7=>⟨h',rfl,rfl,a1,a2,a3,a4,a5,a7⟩) λr s' hQ=>?_
  ·match j,hj with
   | 0,hj=>cases hj;exact⟨u,rfl,by simpa using hu⟩
   | 1,hj=>cases hj;exact⟨v,rfl,by simpa using hv⟩
  obtain⟨h',rfl,rfl,a1,a2,a3,a4,a5,a7⟩:=hQ
  refine⟨_,rfl,ZZ.iu (s:={ s with heap:=h' }) a1 λh2 hz2 sb=>?_⟩
  have hlt2:s.heap.objs.size≠z:=Qcg (Qcb hz)
  have hT2:ZZ.Dd h2 s.heap.objs.size [u,v]:=(sb.2 _ hlt2).trans a5
  have new:Bm X.prog X.w (upd H s.heap.objs.size (.tup [x,y])) h2 s.heap.objs.size (.tup [x,y]):=
   ⟨by show 2<=sizeLine;decide,[u,v],.cons ru' (.cons rv' .nil),_,hT2,rfl,0,rfl⟩
  have I1:=I.Mg (h':=h2) (t':=s.toks) (Qci _) (λc q hc e=>(sb.2 c (λw=>hc (by simp[w]))).trans (a7 c q (λw=>hc (by simp[w])) (λw=>hc (by simp[w])) (λw=>hc (by simp only[QbT,List.map_nil,QbS,Qbs,Qcr] at w;rcases w with w | w <;> simp[w])) e)) hf new
  have qT:∀{it l:Addr} {items:Array Value},l≠z->l≠TO->l≠i1->l≠i2->it≠z->s.heap.IsTuple l items->ZZ.SrcAt h' ⟨it,l,items⟩ (i+1)->h2.IsTupleIter it l (i+1):=λm1 m2 m3 m4 m5 hl q=>by
   rcases q with⟨_,q2⟩|⟨q1,_⟩
   ·obtain⟨o,e,r⟩:=hl
    exact (Jv q2 ⟨o,a7 _ o m1 m2 (by simp[m3,m4]) e,r⟩).elim
   ·exact q1.at λo e=>(sb.2 _ m5).trans e
  refine⟨.ref s.heap.objs.size,_,I1,rfl,⟨s.heap.objs.size,x,y,I.hok.fresh (Qci _),rfl,rfl,λys' hy'=>by (rw[hq1] at hy';cases hy';exact hx),λys' hy'=>by (rw[hq2] at hy';cases hy';exact hy)⟩,⟨⟨_,hz2⟩,(sb.2 _ (Ne.symm n1)).trans a2,⟨[u,v],(sb.2 _ (Ne.symm n2)).trans a3,rfl⟩,?_,?_⟩,λc hc=>?_⟩
  ·exact qT (D.a ⟨i1,a,us.toArray⟩ (by simp)).1 (D.a ⟨i1,a,us.toArray⟩ (by simp)).2 (D.ai ⟨i1,a,us.toArray⟩ (by simp) ⟨i1,a,us.toArray⟩ (by simp)) (D.ai ⟨i1,a,us.toArray⟩ (by simp) ⟨i2,b,ws.toArray⟩ (by simp)) (Ne.symm n3) p1 (a4 _ (by simp))
  ·exact qT (D.a ⟨i2,b,ws.toArray⟩ (by simp)).1 (D.a ⟨i2,b,ws.toArray⟩ (by simp)).2 (D.ai ⟨i2,b,ws.toArray⟩ (by simp) ⟨i1,a,us.toArray⟩ (by simp)) (D.ai ⟨i2,b,ws.toArray⟩ (by simp) ⟨i2,b,ws.toArray⟩ (by simp)) (Ne.symm n4) p2 (a4 _ (by simp))
  ·have hlc:c≠s.heap.objs.size:=by
    have hmem:∃o,s.heap.get? c=some o:=by
     simp only[QbS,Qbs,Qcr] at hc
     rcases hc with rfl | rfl | rfl | rfl | rfl
     ·exact⟨_,hz⟩
     ·exact⟨_,hTI⟩
     ·exact⟨_,hTO⟩
     ·obtain⟨o,e,_⟩:=hi1;exact⟨o,e⟩
     ·obtain⟨o,e,_⟩:=hi2;exact⟨o,e⟩
    obtain⟨o,e⟩:=hmem
    exact Qcc (Qcb e)
   rw[Al hlc]
   exact (hf c hc).1
 done:=by
  intro X hP hw hK hc i pins s σ H E I hf st hg
  subst hP hw hK
  obtain⟨xs,ys,hq1,hq2,hend⟩:=hg
  obtain⟨us,ru,p1,z1⟩:=I.tuple (SqT.of hq1)
  obtain⟨ws,rw',p2,z2⟩:=I.tuple (SqT.of hq2)
  obtain⟨⟨f1,hz⟩,hTI,⟨olds,hTO,lo⟩,hi1,hi2⟩:=st
  simp only[QbE,QbS,Qbs,Qcr,not_or,QbO,not_false_eq_true,and_true] at nd
  obtain⟨⟨n1,n2,n3,n4⟩,⟨n5,n6,n7⟩,⟨n8,n9⟩,n10⟩:=nd
  have D:ZZ.Apart z TI TO [⟨i1,a,us.toArray⟩,⟨i2,b,ws.toArray⟩]:=by
   obtain⟨oa,ea,ca,_⟩:=id p1
   obtain⟨ob,eb,cb,_⟩:=id p2
   obtain⟨o1,e1,c1,_⟩:=id hi1
   obtain⟨o2,e2,c2,_⟩:=id hi2
   have aTO:a≠TO:=λq=>by
    have:=(hf TO (by simp)).1
    rw[<-q,hq1] at this
    cases this
   have bTO:b≠TO:=λq=>by
    have:=(hf TO (by simp)).1
    rw[<-q,hq2] at this
    cases this
   have t1:Value.type "tuple"≠Value.type "zip":=λq=>absurd (by injection q) (show ¬("tuple"="zip") by decide)
   have t2:Value.type "tuple"≠Value.type "tuple_iterator":=λq=>absurd (by injection q) (show ¬("tuple"="tuple_iterator") by decide)
   refine⟨Ne.symm n1,Ne.symm n2,n5,λq hq=>?_,λq hq=>?_,λq hq r hr=>?_,?_⟩
   ·simp only[QbS,Qbs,Qcr] at hq
    rcases hq with rfl | rfl
    ·exact⟨Ne.symm n3,Ne.symm n6,Ne.symm n8⟩
    ·exact⟨Ne.symm n4,Ne.symm n7,Ne.symm n9⟩
   ·simp only[QbS,Qbs,Qcr] at hq
    rcases hq with rfl | rfl
    ·exact⟨Gh ea hz (by rw[ca];exact t1),aTO⟩
    ·exact⟨Gh eb hz (by rw[cb];exact t1),bTO⟩
   ·simp only[QbS,Qbs,Qcr] at hq hr
    rcases hq with rfl | rfl <;> rcases hr with rfl | rfl
    ·exact Gh ea e1 (by rw[ca,c1];exact t2)
    ·exact Gh ea e2 (by rw[ca,c2];exact t2)
    ·exact Gh eb e1 (by rw[cb,c1];exact t2)
    ·exact Gh eb e2 (by rw[cb,c2];exact t2)
   ·simp[n10]
  have hat:∀q∈([⟨i1,a,us.toArray⟩,⟨i2,b,ws.toArray⟩]:List ZZ.Src),ZZ.SrcAt s.heap q i:=λq hq=>by
   simp only[QbS,Qbs,Qcr] at hq
   rcases hq with rfl | rfl
   ·exact .inr ⟨hi1,p1⟩
   ·exact .inr ⟨hi2,p2⟩
  have l1:=ru.length
  have l2:=rw'.length
  refine ZZ.Uj hz (R:=λh'=>ZZ.Rest z TO [⟨i1,a,us.toArray⟩,⟨i2,b,ws.toArray⟩] s.heap h') (ZZ.Wd (I.ok.hd hc) D hz hTI hTO hat (by simp) lo (by show 2<=100;decide) ?_ λh' e r st=>⟨h',e,rfl,rfl,r,st⟩) λh' r=>⟨rfl,I.Qt (h':=h') (t':=s.toks) (λc q hc e=>r c q (λw=>hc (by simp[w])) (λw=>hc (by simp[w])) (λw=>hc (by simp only[QbT,List.map_nil,QbS,Qbs,Qcr] at w;rcases w with w | w <;> simp[w])) e) hf⟩
  rcases hend with h | h
  ·exact⟨_,QaN ..,by simp;omega⟩
  ·exact⟨_,QaA _ (QaN ..),by simp;omega⟩
 self:=λ_ _ _ _ _ st h=>ZZ.SQ st.1.choose_spec h
def wU (K:PySem.W.Frag) (ta:TA):TI:=fun σ H R=>ta σ H λvs H1=>∃a b,vs=[.ref a,.ref b]/\(∃xs,H1 a=some (.tup xs))/\(∃ys,H1 b=some (.tup ys))/\R (dR K a b) H1
section
variable {X:Cx}
theorem lF {a b:Expr} {ta:TA} {p pos tp:Pos} {elts:List Expr} {k:Nat} (hg:Gl X "zip") (hm:X.mg "zip"=none) (ha:PA X [a,b] ta)
  (hs:starEach [a,b] X.env=[(false,eval a X.env),(false,eval b X.env)]:=by rfl) (hs2:starEach [b] X.env=[(false,eval b X.env)]:=by rfl):PI X (.Tuple elts k tp) (.Call (.Name "zip" p) [a,b] [] pos) (wU X.K ta):=by
 intro pins s σ H R I h
 refine Call_ (Kd I hg hm (u:=.type "zip") (by trivial) (Qae (thn (ha pos pins s σ H _ I h) λus s1 ⟨vs,H1,I1,r1,q1⟩=>?_) (by rw[hs,hs2]) (by rw[hs2];rfl)))
 obtain⟨a,b,e,⟨xs,hx⟩,⟨ys,hy⟩,q⟩:=q1
 subst e
 cases r1 with
 | cons r rr=>
  cases rr with
  | cons r' rr=>
   cases rr
   cases r
   cases r'
   obtain⟨us,ru,k1,z1⟩:=I1.tuple (SqT.of hx)
   obtain⟨ws,rw',k2,z2⟩:=I1.tuple (SqT.of hy)
   refine ZZ.jy (c1:="tuple_iterator") (c2:="tuple_iterator") (.inr ⟨rfl,k1⟩) (.inr ⟨rfl,k2⟩) λh' z TI TO i1 i2 f=>?_
   refine ZZ.SQ (s:={ s1 with heap:=h' }) f.hz ?_
   have nd:[z,TI,TO,i1,i2].Nodup:=by
    have a1:=f.ap.it ⟨i1,a,us.toArray⟩ (by simp)
    have a2:=f.ap.it ⟨i2,b,ws.toArray⟩ (by simp)
    have a3:i1≠i2:=by
     have:=f.ap.nd
     simpa using this
    simp only[QbE,QbS,Qbs,Qcr,not_or,QbO,not_false_eq_true,and_true]
    exact⟨⟨Ne.symm f.ap.TIz,Ne.symm f.ap.TOz,Ne.symm a1.1,Ne.symm a2.1⟩,⟨f.ap.TITO,Ne.symm a1.2.1,Ne.symm a2.2.1⟩,⟨Ne.symm a1.2.2,Ne.symm a2.2.2⟩,a3⟩
   have at1:h'.IsTupleIter i1 a 0:=by
    rcases f.at_ ⟨i1,a,us.toArray⟩ (by simp) with⟨_,x2⟩|⟨x1,_⟩
    ·obtain⟨o,e,r⟩:=id k1
     exact (Jv x2 ⟨o,f.keep _ o e,r⟩).elim
    ·exact x1
   have at2:h'.IsTupleIter i2 b 0:=by
    rcases f.at_ ⟨i2,b,ws.toArray⟩ (by simp) with⟨_,x2⟩|⟨x1,_⟩
    ·obtain⟨o,e,r⟩:=id k2
     exact (Jv x2 ⟨o,f.keep _ o e,r⟩).elim
    ·exact x1
   refine⟨z,[z,TI,TO,i1,i2],_,_,H1,rfl,I1.kept (t':=s1.toks) λc o e=>f.keep c o e,aO a b z TI TO i1 i2 nd,⟨⟨_,f.hz⟩,f.hTI,⟨_,f.hTO,rfl⟩,at1,at2⟩,λc hc=>?_,q⟩
   have hn:=f.new
   have hcs:s1.heap.objs.size<=c:=by
    simp only[QbS,Qbs,Qcr] at hc
    rcases hc with rfl | rfl | rfl | rfl | rfl
    ·exact hn.1
    ·exact hn.2.1
    ·exact hn.2.2.1
    ·exact hn.2.2.2 ⟨c,a,us.toArray⟩ (by simp)
    ·exact hn.2.2.2 ⟨c,b,ws.toArray⟩ (by simp)
   exact I1.Qf hcs (I1.hok.fresh hcs)
end
theorem dB {K:PySem.W.Frag} {a b l:Addr} {xs ys:List V} {g:TG} {tt:TT} {te:TE} {Q:VK} {σ0:St} {H0:Hp} (n:Nat) (hx:n<=xs.length) (hy:n<=ys.length) (hn:xs.length<=n\/ys.length<=n) (Pv:Nat->St->Hp->Prop)
  (h0:Pv 0 σ0 H0) (hl:∀i σ H',i<=n->Pv i σ H'->H' a=some (.tup xs)/\H' b=some (.tup ys))
  (hs:∀i x y p σ H',xs[i]?=some x->ys[i]?=some y->Pv i σ H'->H' p=none->g (.ref p) σ (upd H' p (.tup [x,y])) fun σ3 H3=>tt σ3 H3 λb H4=>if b=true then te σ3 H4 λy H5=>∃ys,H5 l=some (.lst ys)/\ys.length < sizeLine/\Pv (i+1) σ3 (upd H5 l (.lst (ys++[y]))) else Pv (i+1) σ3 H4)
  (hd:∀ σ H',Pv n σ H'->Q (.ref l) H'):Fp (dR K a b) g tt te Q σ0 H0 l:=by
 unfold Fp
 refine⟨λi m σ H'=>m=n - i/\i<=n/\Pv i σ H',⟨n,by simp,Qcj _,h0⟩,?_⟩
 rintro i m σ H' ⟨rfl,hi,p⟩
 obtain⟨q1,q2⟩:=hl i σ H' hi p
 by_cases hlt:i < n
 ·have hlt1:i < xs.length:=by omega
  have hlt2:i < ys.length:=by omega
  refine .inr ⟨⟨xs,ys,xs[i],ys[i],q1,q2,Qal hlt1,Qal hlt2⟩,Pv (i+1),fun σ3 H3 p'=>⟨n - (i+1),by omega,rfl,hlt,p'⟩,λv H2 y=>?_⟩
  obtain⟨pp,x',y',hp,rfl,rfl,e1,e2⟩:=y
  exact hs i x' y' pp σ _ (e1 xs q1) (e2 ys q2) p hp
 ·exact .inl ⟨⟨xs,ys,q1,q2,by omega⟩,by
   have:i=n:=by omega
   subst this
   exact hd _ _ p⟩
section
variable {X:Cx}
def At (ta tb:TE):TE:=fun σ H Q=>ta σ H λx H1=>x=.non/\tb σ H1 Q
theorem Xj {a b:Expr} {rest:List Expr} {pos:Pos} {ta tb:TE} (ha:PE X a ta) (hb:PE X (.BoolOp .Or (b::rest) pos) tb):PE X (.BoolOp .Or (a::b::rest) pos) (At ta tb):=by
 intro pins s σ H Q I h
 refine BoolOp_or (thn (ha pins s σ H _ I h) λv s1 ⟨x,H1,I1,r1,e,q1⟩=>?_)
 subst e
 cases r1
 exact truthy_none (hb pins s1 σ H1 Q I1 q1)
end
theorem dz {X:Cx} {pins:List (Addr×Obj)} {σ : St} {H:Hp} {s:Shared} {A:Around} {E:Value->Shared->Prop} {a b:Addr} {kvs:List (List Key×V)} {k:List Key} {v:V} {u r:Value} {Q:Unit->Shared->Prop} (hu:A.units < cLine) (I:Inv X pins σ H s) (e:H a=some (.dT kvs)) (eb:H b=some (.tup (k.map kV))) (l:kvs.length < sizeLine) (ry:RelV (.ref b) u) (rv:RelV v r)
  (h:∀s',Inv X pins σ (upd H a (.dT (putK kvs k v))) s'->Q () s'):wpAny (model X.prog X.w) A (dictSet a u r) Q E s:=by
 cases (show u=Value.ref b from ry)
 obtain⟨z,hd,xs,rel,dd⟩:=qP I.hok e
 have hz:xs.length<=sizeLine:=by rw[<-QbR rel];exact z
 have hl:(putK kvs k v).length<=sizeLine:=by have:=Ht kvs k v;omega
 refine wpAny_dictSet_heap (hsz:=hz) hu (Je I.hok eb) dd λh' dd' hs=>h _ ?_
 obtain⟨q,es,ep,hq,h2,h3,h4,_,h5⟩:=dd'
 refine Ny I (by rw[e];exact True.intro) hs ⟨q,hq⟩ ⟨hl,hd,_,(rel.put k eb rv).keeps λc ys ec=>?_,q,es,ep,hq,h2,h3,h4,h5⟩
 rw[Al (cg ec e (λz=>nomatch z))]
 exact ec
@[irreducible] def T3 (J:It) (g:TG) (tt:TT) (tk tv:TE) (Q:VK) (σ0:St) (H0:Hp) (l:Addr):Prop:=∃W:Nat->Nat->St->Hp->Prop,(∃m,W 0 m σ0 H0) /\
 ∀i m σ' H',W i m σ' H'->(J.stop i H'/\Q (.ref l) H')\/(J.go i H'/\∃N:St->Hp->Prop,(∀ σ3 H3,N σ3 H3->∃m',m' < m/\W (i+1) m' σ3 H3)/\∀x H2,J.yld i H' x H2->g x σ' H2 fun σ3 H3=>tt σ3 H3 λb H4=>
  if b=true then tk σ3 H4 λy H5=>tv σ3 H5 λz H6=>∃(kvs:List (List Key×V)) (k:List Key) (b:Addr),H6 l=some (.dT kvs)/\y=.ref b/\H6 b=some (.tup (k.map kV))/\kvs.length < sizeLine/\N σ3 (upd H6 l (.dT (putK kvs k z))) else N σ3 H4)
def Zt (wi:TI) (src:List (Option Nat)) (g:TG) (tt:TT) (tk tv:TE):TE:=fun σ H Q=>wi σ H λJ H1=>∀l,H1 l=none->T3 J g tt tk tv Q (Iv src σ) (upd H1 l (.dT [])) l
theorem Zc {X:Cx} {N':List Str} {src:List (Option Nat)} {sc:Scope} {kx vx tg iter:Expr} {ifs:List Expr} {pos pos':Pos} {wi:TI} {g:TG} {tt:TT} {tk tv:TE} {use:Option (Value->Sem Unit)} {R:Value->Shared->Prop} (hu:X.A.units+1 < cLine) (hc:X.calm=true) (S:Bk X N' src sc)
  (hi:PI X tg iter wi) (hg:∀s3 H3 fp pn,PG (cxC X N' sc s3 H3 fp pn) tg g) (ht:∀s3 H3 fp pn,PF (cxC X N' sc s3 H3 fp pn) ifs tt) (hk:∀s3 H3 fp pn,PE (cxC X N' sc s3 H3 fp pn) kx tk) (hv:∀s3 H3 fp pn,PE (cxC X N' sc s3 H3 fp pn) vx tv)
  (hs:∀x,foldedSetIterable iter X.env x=pure x) {pins:List (Addr×Obj)} {s:Shared} {σ : St} {H:Hp} {Q:VK} (I:Inv X pins σ H s) (h:Zt wi src g tt tk tv σ H Q)
  (fin:∀s3 H3 fp σ4 H4 s5 l,Inv X pins σ H3 s3->(∀b∈fp,FZ X pins H3 b)->Inv (cxC X N' sc s3 H3 fp (X.pn++pins)) [] σ4 H4 s5->Q (.ref l) H4 ->
   compPost (model X.prog X.w) X.A X.xe use R (.ref l) s3.heap.objs.size (.ok .next) s5) :
  wpAny (model X.prog X.w) X.A (comprehension (.DictComp kx vx [⟨tg,iter,ifs,0⟩] sc pos) sc X.env pos' newDict false (eval iter X.env) use) R X.xe s:=by
 refine wpAny_comprehension_free (use:=use) (cl:=Eb X.env sc.names []) rfl hs (Ov λp hp e=>I.ok.has p.1 (S.fv p hp e)) S.kind S.loc ?_
 refine thn (hi pins s σ H _ I h) λv s1 h1=>thn h1 λitv s2 h2=>?_
 obtain⟨it,fp,tn,J,H2,rfl,I2,T,st2,f2,q⟩:=h2
 have q':=q s2.heap.objs.size (I2.hok.fresh (Qci _))
 unfold T3 at q'
 obtain⟨W,⟨m0,w0⟩,turn⟩:=q'
 refine Qbf (wpAny_newFunctionEnv S.Hs (by intro y hy;simp at hy) (λha hns hsb=>?_) S.kind)
 have I3:Inv X pins σ (upd H2 s2.heap.objs.size (.dT [])) { s2 with heap:=s2.heap.push { cls:=.type "dict",data:=.dict #[] } }:=
  I2.laid (t':=s2.toks) (λb u e=>Qat _ e) (Qci _) (Yh s2.heap I2.big)
 have hfl:∀b∈fp,b < s2.heap.objs.size:=λb hb=>by
  obtain⟨o,e,_⟩:=T.obj 0 _ st2 b hb
  exact Qcb e
 have f3:∀b∈fp,FZ X pins (upd H2 s2.heap.objs.size (.dT [])) b:=λb hb=>⟨by rw[Al (Qcc (hfl b hb))];exact (f2 b hb).1,(f2 b hb).2⟩
 generalize hs3:({ s2 with heap:=s2.heap.push { cls:=.type "dict",data:=.dict #[] } }:Shared)=s3 at *
 have hsz:s2.heap.objs.size < s3.heap.objs.size:=by rw[<-hs3];show s2.heap.objs.size < (s2.heap.push _).objs.size;rw[QbN];exact Qbv _
 have kp:∀b o,s3.heap.get? b=some o->ha.get? b=some o:=λb o e=>hsb.extBut b o (Qcc (Qcb e)) (Qat _ e)
 have st3:tn 0 ha:=T.keep 0 _ _ st2 λb hb o e=>kp b o (by rw[<-hs3];exact Qat _ e)
 have I4:Inv (cxC X N' sc s3 (upd H2 s2.heap.objs.size (.dT [])) fp (X.pn++pins)) [] (Iv src σ) (upd H2 s2.heap.objs.size (.dT [])) { s3 with heap:=ha,toks:=s3.toks+([]:List (Str×Value)).length }:=
  R0 S I3 f3 (λb hb=>Nat.lt_trans (hfl b hb) hsz) hns kp
 have loop:codeAny (model X.prog X.w) X.A (.compLoop (.DictComp kx vx [⟨tg,iter,ifs,0⟩] sc pos) 0 (.ref it) (.ref s2.heap.objs.size) (compEnvC sc (Eb X.env sc.names []) s3.heap.objs.size X.env))
   (compPost (model X.prog X.w) X.A X.xe use R (.ref s2.heap.objs.size) s3.heap.objs.size) { s3 with heap:=ha,toks:=s3.toks+([]:List (Str×Value)).length }:=by
  refine Tt (λn s'=>∃i σ' H',Inv (cxC X N' sc s3 (upd H2 s2.heap.objs.size (.dT [])) fp (X.pn++pins)) [] σ' H' s'/\tn i s'.heap/\(∀b∈fp,H' b=none)/\W i n σ' H') ?_ m0 ⟨0,_,_,I4,st3,λb hb=>(f3 b hb).1,w0⟩
  rintro n s4 ⟨i,σ4,H4,J4,st4,fr4,w4⟩
  have stat:∀{H':Hp},(∀b∈fp,H' b=none)->∀b∈fp,FZ (cxC X N' sc s3 (upd H2 s2.heap.objs.size (.dT [])) fp (X.pn++pins)) [] H' b:=λhn b hb=>
   ⟨hn b hb,(I4.ok.exf b hb).1,I4.ok.Jz b hb,.inl hb,λx c e=>(I4.ok.exf b hb).2 x c e,λp hp=>(f3 b hb).2.2.2.2.2 p ((Qbz.mp hp).elim id λz=>by cases z)⟩
  rcases turn i n σ4 H4 w4 with⟨stop,qn⟩|⟨go,N,hN,step⟩
  ·refine thn (T.done (cxC X N' sc s3 (upd H2 s2.heap.objs.size (.dT [])) fp (X.pn++pins)) rfl rfl rfl hc i [] s4 σ4 H4 _ J4 (stat fr4) st4 stop) λr s5 ⟨hr,J5⟩=>?_
   subst hr
   exact fin s3 _ fp σ4 H4 s5 _ I3 f3 J5 qn
  ·refine thn (T.item (cxC X N' sc s3 (upd H2 s2.heap.objs.size (.dT [])) fp (X.pn++pins)) rfl rfl rfl hc i [] s4 σ4 H4 _ J4 (stat fr4) st4 go) λr s5 ⟨u,hr,h5⟩=>?_
   subst hr
   refine thn h5 λ_ s6 ⟨x,H6,J6,r6,y6,st6,fr6⟩=>?_
   have J6':=J6.pinned (stat fr6) (T.obj _ _ st6)
   have back:∀{pl:List (Addr×Obj)} {σ7:St} {H7:Hp} {s7:Shared},Inv (cxC X N' sc s3 (upd H2 s2.heap.objs.size (.dT [])) fp (X.pn++pins)) ([]++Lg fp s6.heap) σ7 H7 s7->N σ7 H7 ->
     ∃m',m' < n/\∃i σ' H',Inv (cxC X N' sc s3 (upd H2 s2.heap.objs.size (.dT [])) fp (X.pn++pins)) [] σ' H' s7/\tn i s7.heap/\(∀b∈fp,H' b=none)/\W i m' σ' H':=λ{pl σ7 H7 s7} J7 w7=>by
    obtain⟨m',hm,w7⟩:=hN _ _ w7
    have pinned:∀b∈fp,∀o,s6.heap.get? b=some o->s7.heap.get? b=some o/\H7 b=none:=λb hb o e=>by
     have:=J7.pin (b,o) (Qaw _ (Qaw _ (Jd hb e)))
     exact⟨this.1,this.2.1⟩
    refine⟨m',hm,i+1,σ7,H7,J7.GC,T.keep _ _ _ st6 λb hb o e=>(pinned b hb o e).1,λb hb=>?_,w7⟩
    obtain⟨o,e,_⟩:=T.obj _ _ st6 b hb
    exact (pinned b hb o e).2
   refine thn (hg s3 _ fp _ _ s6 σ4 H6 x u _ J6' r6 (step x H6 y6)) λ_ s7 ⟨σ7,H7,J7,q7⟩=>?_
   refine thn (ht s3 _ fp _ _ s7 σ7 H7 _ J7 q7) λok s8 ⟨H8,J8,q8⟩=>?_
   cases ok with
   | false=>
    rw[if_neg QaP] at q8 ⊢
    exact back (pl:=[]) J8 q8
   | true=>
    rw[if_pos rfl] at q8 ⊢
    refine thn (hk s3 _ fp _ _ s8 σ7 H8 _ J8 q8) λy s9 ⟨yv,H9,J9,r9,q9⟩=>?_
    refine thn (hv s3 _ fp _ _ s9 σ7 H9 _ J9 q9) λz s10 ⟨zv,H10,J10,r10,kvs,k,bb,hl,ey,eb,hz,q10⟩=>?_
    subst ey
    refine dz (X:=cxC X N' sc s3 (upd H2 s2.heap.objs.size (.dT [])) fp (X.pn++pins)) (show X.A.units < cLine by omega) J10 hl eb hz r9 r10 λs11 J11=>?_
    exact back (pl:=[]) J11 q10
 exact codeAny_compStart_dict loop (T.self X.A 0 _ _ _ st3 loop)
theorem PJ {X:Cx} {N':List Str} {src:List (Option Nat)} {sc:Scope} {kx vx tg iter:Expr} {ifs:List Expr} {pos:Pos} {wi:TI} {g:TG} {tt:TT} {tk tv:TE} (hu:X.A.units+1 < cLine) (hc:X.calm=true) (S:Bk X N' src sc)
  (hi:PI X tg iter wi) (hg:∀s3 H3 fp pn,PG (cxC X N' sc s3 H3 fp pn) tg g) (ht:∀s3 H3 fp pn,PF (cxC X N' sc s3 H3 fp pn) ifs tt) (hk:∀s3 H3 fp pn,PE (cxC X N' sc s3 H3 fp pn) kx tk) (hv:∀s3 H3 fp pn,PE (cxC X N' sc s3 H3 fp pn) vx tv)
  (hs:∀x,foldedSetIterable iter X.env x=pure x:=by intro _;rfl):PE X (.DictComp kx vx [⟨tg,iter,ifs,0⟩] sc pos) (Zt wi src g tt tk tv):=by
 intro pins s σ H Q I h
 rw[arm_eval_DictComp]
 refine Zc (use:=none) hu hc S hi hg ht hk hv hs I h λs3 H3 fp σ4 H4 s5 l I3 f3 J5 q=>?_
 obtain⟨m,hn,_⟩:=J5.loc
 exact⟨m,hn,λh' sb=>⟨.ref l,H4,Qh I3 f3 J5 sb,rfl,q⟩⟩
section
variable {a l:Addr} {g:TG} {tt:TT} {tk tv:TE} {Q:VK}
theorem Zb {K:PySem.W.Frag} {xs:List V} {σ0:St} {H0:Hp} (Pv:Nat->St->Hp->Prop) (h0:Pv 0 σ0 H0) (hl:∀i σ H',i<=xs.length->Pv i σ H'->SqL K H' a xs)
  (hs:∀i x σ H',xs[i]?=some x->Pv i σ H'->g x σ H' fun σ3 H3=>tt σ3 H3 λb H4=>if b=true then tk σ3 H4 λy H5=>tv σ3 H5 λz H6=>∃(kvs:List (Key×V)) (k:Key),H6 l=some (.dK kvs)/\y=kV k/\kvs.length < sizeLine/\Pv (i+1) σ3 (upd H6 l (.dK (putK kvs k z))) else Pv (i+1) σ3 H4)
  (hd:∀ σ H',Pv xs.length σ H'->Q (.ref l) H'):QV (Itl K a) g tt tk tv Q σ0 H0 l:=by
 unfold QV
 refine⟨λi m σ H'=>m=xs.length - i/\i<=xs.length/\Pv i σ H',⟨xs.length,by simp,Qcj _,h0⟩,?_⟩
 rintro i m σ H' ⟨rfl,hi,p⟩
 have q:=hl i σ H' hi p
 by_cases hlt:i < xs.length
 ·refine .inr ⟨⟨xs,xs[i],q,by simp[hlt]⟩,Pv (i+1),fun σ3 H3 p'=>⟨xs.length - (i+1),by omega,rfl,hlt,p'⟩,λx H2 y=>?_⟩
  obtain⟨rfl,y⟩:=y
  exact hs i x σ _ (y xs q) p
 ·exact .inl ⟨⟨xs,q,by omega⟩,by
   have:i=xs.length:=by omega
   subst this
   exact hd _ _ p⟩
theorem Ng {K:PySem.W.Frag} {xs:List V} {σ0:St} {H0:Hp} (Pv:Nat->St->Hp->Prop) (h0:Pv 0 σ0 H0) (hl:∀i σ H',i<=xs.length->Pv i σ H'->SqL K H' a xs)
  (hs:∀i x σ H',xs[i]?=some x->Pv i σ H'->g x σ H' fun σ3 H3=>tt σ3 H3 λb H4=>if b=true then tk σ3 H4 λy H5=>tv σ3 H5 λz H6=>∃(kvs:List (List Key×V)) (k:List Key) (b:Addr),H6 l=some (.dT kvs)/\y=.ref b/\H6 b=some (.tup (k.map kV))/\kvs.length < sizeLine/\Pv (i+1) σ3 (upd H6 l (.dT (putK kvs k z))) else Pv (i+1) σ3 H4)
  (hd:∀ σ H',Pv xs.length σ H'->Q (.ref l) H'):T3 (Itl K a) g tt tk tv Q σ0 H0 l:=by
 unfold T3
 refine⟨λi m σ H'=>m=xs.length - i/\i<=xs.length/\Pv i σ H',⟨xs.length,by simp,Qcj _,h0⟩,?_⟩
 rintro i m σ H' ⟨rfl,hi,p⟩
 have q:=hl i σ H' hi p
 by_cases hlt:i < xs.length
 ·refine .inr ⟨⟨xs,xs[i],q,by simp[hlt]⟩,Pv (i+1),fun σ3 H3 p'=>⟨xs.length - (i+1),by omega,rfl,hlt,p'⟩,λx H2 y=>?_⟩
  obtain⟨rfl,y⟩:=y
  exact hs i x σ _ (y xs q) p
 ·exact .inl ⟨⟨xs,q,by omega⟩,by
   have:i=xs.length:=by omega
   subst this
   exact hd _ _ p⟩
end
def Ma (h:Heap) (d:Addr) (es:Array DictEntry) (ep:Nat):Prop:=∃o,h.get? d=some o/\o.ExactDict/\o.data=.dict es ep
section
variable {prog:Program} {w:World} {A:Around} {E:Value->Shared->Prop} {s:Shared}
theorem kY {it d:Addr} {i ep:Nat} {es:Array DictEntry} {en:DictEntry} {Q:Option Value->Shared->Prop} (K:s.heap.IsKeyIter it d i es.size ep) (R:Ma s.heap d es ep) (hx:es[i]?=some en)
  (q:∀h',h'.IsKeyIter it d (i+1) es.size ep->Heap.SameBut it s.heap h'->Q (some en.key) { s with heap:=h' }):wpAny (model prog w) A (pyNext (.ref it)) Q E s:=by
 have T:=K.typeIs
 obtain⟨oi,hoi,ci,di⟩:=K
 obtain⟨od,hod,xd,dd⟩:=R
 have hlt:i < es.size:=(Qaf.mp hx).1
 obtain⟨C0,zF,zG,wQ⟩:=oi
 obtain⟨RZ,Ot,Ou,LR⟩:=od
 dsimp only at ci di dd
 subst ci di dd
 obtain⟨hp,g,dr,tk,os⟩:=s
 unfold pyNext
 refine Qcn (QbX (Qar (name:=Str.ofString "__next__") T Qad (Qbr Qad T F.entry_dict_keyiterator_next ?_ (F.args_dict_keyiterator_next_1 _))))
 have e1:typeName (.type "dict_keyiterator")=pure "dict_keyiterator":=by unfold typeName;rw[find?_eq_fast];kernel_rfl
 have e2:=mroOf_keyiter
 wp_walk
 have hidx:(if (i:Int) < 0 then none else es[((i:Int)).toNat]?)=some en:=by rw[if_neg (by omega),Qbe];exact hx
 simp only[hidx]
 wp_walk
 refine⟨_,rfl,Qco (q _ ⟨_,Qax _ hoi ?_,rfl,?_⟩ (QaJ ..))⟩
 all_goals first | rfl | trace_state
theorem rJ {it d:Addr} {i ep:Nat} {es:Array DictEntry} {Q:Option Value->Shared->Prop} (hh:A.handled=none) (K:s.heap.IsKeyIter it d i es.size ep) (R:Ma s.heap d es ep) (hx:es[i]?=none)
  (q:∀h',Heap.ExtBut it s.heap h'->Q none { s with heap:=h' }):wpAny (model prog w) A (pyNext (.ref it)) Q E s:=by
 have T:=K.typeIs
 obtain⟨oi,hoi,ci,di⟩:=K
 obtain⟨od,hod,xd,dd⟩:=R
 obtain⟨C0,zF,zG,wQ⟩:=oi
 obtain⟨RZ,Ot,Ou,LR⟩:=od
 dsimp only at ci di dd
 subst ci di dd
 obtain⟨hp,g,dr,tk,os⟩:=s
 unfold pyNext
 refine Qcn (QbX (Qar (name:=Str.ofString "__next__") T Qad (Qbr Qad T F.entry_dict_keyiterator_next ?_ (F.args_dict_keyiterator_next_1 _))))
 have e1:typeName (.type "dict_keyiterator")=pure "dict_keyiterator":=by unfold typeName;rw[find?_eq_fast];kernel_rfl
 have e2:=mroOf_keyiter
 have hh1:A.in1.handled=none:=hh
 wp_walk
 have hidx:(if (i:Int) < 0 then none else es[((i:Int)).toNat]?)=none:=by rw[if_neg (by omega),Qbe];exact hx
 simp only[hidx]
 wp_walk
 unfold raiseNew
 wp_walk
 refine wpAny_of_eq isSubtype_stop ?_
 wp_walk
 exact q _ (((QaJ ..).extBut.push _).push _)
theorem kZ {d:Addr} {ep:Nat} {es:Array DictEntry} {Q:Value->Shared->Prop} (lo:(d == sysModules)=false) (R:Ma s.heap d es ep)
  (q:Q (.ref s.heap.objs.size) { s with heap:=s.heap.push { cls:=.type "dict_keyiterator",data:=.fields #[.ref d,.int 0 0,.int es.size 0,.int ep 0] } }):wpAny (model prog w) A (pyIter (.ref d)) Q E s:=by
 obtain⟨od,hod,xd,dd⟩:=R
 have T:s.TypeIs (.ref d) "dict":=⟨od,hod,xd.1⟩
 obtain⟨RZ,Ot,Ou,LR⟩:=od
 obtain⟨x1,x2⟩:=xd
 dsimp only at dd x1
 subst dd x1
 refine wpAny_pyIter_slot T F.slot_dict_iter (Qbr F.slot_dict_iter T F.entry_dict_iter ?_ (F.args_dict_iter_1 _))
 unfold Builtin.«dict.__iter__»
 wp_walk
 exact⟨_,rfl,"dict_keyiterator",_,⟨_,QaF _ rfl,rfl⟩,Qad.lookup,q⟩
theorem fW {d:Addr} {ep:Nat} {es:Array DictEntry} (lo:(d == sysModules)=false) :
  MeetsIn prog w (Builtin.«dict.items» ⟨[.ref d],[]⟩) (λ_ R s=>Ma s.heap d es ep/\R (.ok (.ret (.ref s.heap.objs.size))) { s with heap:=s.heap.push { cls:=.type "dict_items",data:=.fields #[.ref d] } }):=
 .of_wp λA R s ⟨hm,h⟩=>by
  obtain⟨od,hod,xd,dd⟩:=hm
  have T:s.TypeIs (.ref d) "dict":=⟨od,hod,xd.1⟩
  obtain⟨RZ,Ot,Ou,LR⟩:=od
  obtain⟨x1,x2⟩:=xd
  dsimp only at dd x1
  subst dd x1
  unfold Builtin.«dict.items»
  wp_walk
  exact⟨_,rfl,h⟩
theorem Ui {v d:Addr} {es:Array DictEntry} {ep:Nat} {Q:Value->Shared->Prop} (hv:s.heap.IsItemsView v d) (R:Ma s.heap d es ep)
  (q:Q (.ref s.heap.objs.size) { s with heap:=s.heap.push { cls:=.type "dict_itemiterator",data:=.fields #[.none,.bool false,.ref d,.int 0 0,.int es.size 0,.int ep 0,.none,.none] } }) :
  wpAny (model prog w) A (pyIter (.ref v)) Q E s:=by
 have T:=hv.typeIs
 obtain⟨ov,hov,hcv,hdv⟩:=hv
 obtain⟨od,hod,xd,dd⟩:=R
 obtain⟨Hb,GY,G0,GU⟩:=ov
 obtain⟨RZ,Ot,Ou,LR⟩:=od
 dsimp only at hcv hdv dd
 subst hcv hdv dd
 refine wpAny_pyIter_slot T F.slot_dict_items_iter (Qbr F.slot_dict_items_iter T F.entry_dict_items_iter ?_ (F.args_dict_items_iter_1 _))
 unfold Builtin.«dict_items.__iter__»
 wp_walk
 have hown:Builtin.Dict_items.ownsTuple "dict_itemiterator"=true:=by decide
 refine⟨_,rfl,"dict_itemiterator",_,⟨_,QaF _ rfl,rfl⟩,Qac.lookup,?_⟩
 simpa [rawInt,hown,Builtin.Dict_items.ownedTupleFields] using q
theorem lg {it d:Addr} {i ep:Nat} {es:Array DictEntry} {en:DictEntry} {ok ov:Value} {Q:Option Value->Shared->Prop} (K:IsItemIter s.heap it d i es.size ep ok ov) (R:Ma s.heap d es ep) (hx:es[i]?=some en)
  (q:∀h',IsItemIterOut h' it d (i+1) es.size ep en.key en.val s.heap.objs.size->h'.get? s.heap.objs.size=some { cls:=.type "tuple",data:=.seq #[en.key,en.val] }->(∀b o,b≠it->s.heap.get? b=some o->h'.get? b=some o)->Q (some (.ref s.heap.objs.size)) { s with heap:=h' }) :
  wpAny (model prog w) A (pyNext (.ref it)) Q E s:=by
 have hT:s.TypeIs (.ref it) "dict_itemiterator":=⟨_,K,rfl⟩
 obtain⟨od,hod,xd,dd⟩:=R
 have hlt:i < es.size:=(Qaf.mp hx).1
 obtain⟨RZ,Ot,Ou,LR⟩:=od
 dsimp only at dd
 subst dd
 obtain⟨hp,g,dr,tk,os⟩:=s
 unfold pyNext
 refine Qcn (QbX (Qar (name:=Str.ofString "__next__") hT Qac (Qbr Qac hT F.entry_dict_itemiterator_next ?_ (F.args_dict_itemiterator_next_1 _))))
 have e1:typeName (.type "dict_itemiterator")=pure "dict_itemiterator":=by unfold typeName;rw[find?_eq_fast];kernel_rfl
 have e2:=mroOf_itemiter
 wp_walk
 have hidx:(if (i:Int) < 0 then none else es[((i:Int)).toNat]?)=some en:=by rw[if_neg (by omega),Qbe];exact hx
 simp only[hidx]
 have hown:Builtin.Dict_items.ownsTuple "dict_itemiterator"=true:=by decide
 refine Qcn ?_
 first | refine Qcn (wpAny_typeNameOfWhole_itemiter hT (Qco ?_)) | refine Qcn (wpAny_typeNameOf_itemiter hT (Qco ?_))
 refine Qcn (wpAny_isOneOf_itemiter hT ?_)
 simp only[hown,if_true]
 show wpAny _ _ (setField (.ref it) 3 (rawInt ((i:Int)+1)) >>= _) _ _ _
 refine Qcn (QaV K (by simp) λh1 k1 s1=>?_)
 have s1:Heap.SameBut it hp h1:=s1
 have k1:IsItemIter h1 it d (i+1) es.size ep ok ov:=by
  have e:((i+1:Nat):Int)=(i:Int)+1:=by omega
  unfold IsItemIter;rw[e];simpa [rawInt] using k1
 have hT1:Shared.TypeIs ⟨h1,g,dr,tk,os⟩ (.ref it) "dict_itemiterator":=⟨_,k1,rfl⟩
 refine Qcn (QbW (Qcn (wpAny_isOneOf_itemiter hT1 (Qcn (wpAny_isOneOf_itemiter hT1 ?_)))))
 show wpAny _ _ (Builtin.Dict_items.pairFromOwner (.ref it) 6 en.key en.val) _ _ ⟨h1,g,dr,tk,os⟩
 unfold Builtin.Dict_items.pairFromOwner
 refine Qcn (wpAny_newTuple ?_)
 have k2:IsItemIter (h1.push { cls:=.type "tuple",data:=.seq #[en.key,en.val] }) it d (i+1) es.size ep ok ov:=Qat _ k1
 have z1:h1.objs.size=hp.objs.size:=s1.1
 have n1:(h1.push { cls:=.type "tuple",data:=.seq #[en.key,en.val] }).get? hp.objs.size=some { cls:=.type "tuple",data:=.seq #[en.key,en.val] }:=by rw[<-z1];exact QaF _ rfl
 have p1:∀b o,b≠it->hp.get? b=some o->(h1.push { cls:=.type "tuple",data:=.seq #[en.key,en.val] }).get? b=some o:=λb o hb e=>Qat _ (s1.extBut b o hb e)
 have nit:hp.objs.size≠it:=Qcg (Qcb K)
 rw[z1]
 show wpAny _ _ (Builtin.Dict_items.ownedTupleIsFree (.ref it) >>= _) _ _ ⟨h1.push { cls:=.type "tuple",data:=.seq #[en.key,en.val] },g,dr,tk,os⟩
 generalize h1.push { cls:=.type "tuple",data:=.seq #[en.key,en.val] }=h2 at k2 n1 p1
 refine Qcn ?_
 unfold Builtin.Dict_items.ownedTupleIsFree
 refine Qcn (Qcl k2 rfl (x:=.none) rfl (Qco ?_))
 simp only[if_true]
 refine Qcn (Qcl k2 rfl (x:=ok) rfl ?_)
 refine Qcn (Qcl k2 rfl (x:=ov) rfl ?_)
 refine Qcn (QaV k2 (by simp) λh3 k3 s3=>?_)
 refine Qcn (QaV k3 (by simp) λh4 k4 s4=>?_)
 refine Qcn (QaV k4 (by simp) λh5 k5 s5=>?_)
 refine Qcn (QaV k5 (by simp) λh6 k6 s6=>?_)
 have f:∀b o,b≠it->h2.get? b=some o->h6.get? b=some o:=λb o hb e=>s6.extBut b o hb (s5.extBut b o hb (s4.extBut b o hb (s3.extBut b o hb e)))
 exact Qcn (wpAny_letGo (Qco (Qco ⟨_,rfl,Qco (q h6 k6 (f _ _ nit n1) λb o hb e=>f b o hb (p1 b o hb e))⟩)))
theorem Xd {it d:Addr} {i ep:Nat} {es:Array DictEntry} {ok ov:Value} {Q:Option Value->Shared->Prop} (hh:A.handled=none) (K:IsItemIter s.heap it d i es.size ep ok ov) (R:Ma s.heap d es ep) (hx:es[i]?=none)
  (q:∀h',Heap.ExtBut it s.heap h'->Q none { s with heap:=h' }):wpAny (model prog w) A (pyNext (.ref it)) Q E s:=by
 have hT:s.TypeIs (.ref it) "dict_itemiterator":=⟨_,K,rfl⟩
 obtain⟨od,hod,xd,dd⟩:=R
 obtain⟨RZ,Ot,Ou,LR⟩:=od
 dsimp only at dd
 subst dd
 obtain⟨hp,g,dr,tk,os⟩:=s
 unfold pyNext
 refine Qcn (QbX (Qar (name:=Str.ofString "__next__") hT Qac (Qbr Qac hT F.entry_dict_itemiterator_next ?_ (F.args_dict_itemiterator_next_1 _))))
 have e1:typeName (.type "dict_itemiterator")=pure "dict_itemiterator":=by unfold typeName;rw[find?_eq_fast];kernel_rfl
 have e2:=mroOf_itemiter
 have hh1:A.in1.handled=none:=hh
 wp_walk
 have hidx:(if (i:Int) < 0 then none else es[((i:Int)).toNat]?)=none:=by rw[if_neg (by omega),Qbe];exact hx
 simp only[hidx]
 wp_walk
 unfold raiseNew
 wp_walk
 refine wpAny_of_eq isSubtype_stop ?_
 wp_walk
 exact q _ (((QaJ ..).extBut.push _).push _)
end
section
variable {X:Cx} {pins:List (Addr×Obj)} {σ : St} {H:Hp} {s:Shared} {a:Addr} {kvs:List (List Key×V)} {o:Obj}
theorem Inv.uo (I:Inv X pins σ H s) (e:H a=some (.dT kvs)):∃o,s.heap.get? a=some o/\Inv X pins σ (upd H a (.frz o (.dT kvs))) s:=by
 obtain⟨o,ho⟩:=(I.hok a _ e).there
 have n0:∀b,H b=none->b≠a:=λb n z=>by rw[z,e] at n;cases n
 have n1:∀b u,H b=some u->u≠.dT kvs->b≠a:=λb u q nu z=>by rw[z,e] at q;exact nu (QbB q).symm
 refine⟨o,ho,I.step (h':=s.heap) (g':=s.gens) (d':=s.drawn) (t':=s.toks) (ch:=[]) (λb hb=>absurd hb (by simp)) (λb u _ _ _ q _=>q) (λb u _ _ _ q _=>⟨u.slots,q⟩) (λb u _ q n=>by rw[Al (n0 b n)];exact n)
  (λb u _ q=>⟨u,q⟩) (λb xs q=>by rw[Al (n1 b _ q (by intro z;cases z))];exact q) (λb u v q=>by rw[Al (n1 b _ q (by intro z;cases z))];exact q)
  (λb ps q=>⟨#[],by rw[Al (n1 b _ q (by intro z;cases z)),q];simp⟩) (λm hm=>hm) (λb u q=>?_) I.bare⟩
 have st:∀b u,Bm X.prog X.w H s.heap b u->Bm X.prog X.w (upd H a (.frz o (.dT kvs))) s.heap b u:=λb u x=>
  x.stay (λ_ _ _ q=>q) (λc q=>by rw[Al (n1 c _ q (by intro z;cases z))];exact q) λc xs q=>by rw[Al (n1 c _ q (by intro z;cases z))];exact q
 by_cases hb:b=a
 ·subst hb
  rw[Ac] at q
  cases q
  exact⟨ho,st _ _ (I.hok _ _ e)⟩
 ·rw[Al hb] at q
  exact st _ _ (I.hok b u q)
theorem Inv.yN (I:Inv X pins σ H s) (e:H a=some (.frz o (.dT kvs))) (h0:∀o' u,X.H₀ a≠some (.frz o' u)):Inv X pins σ (upd H a (.dT kvs)) s:=by
 have n0:∀b,H b=none->b≠a:=λb n z=>by rw[z,e] at n;cases n
 have n1:∀b u,H b=some u->u≠.frz o (.dT kvs)->b≠a:=λb u q nu z=>by rw[z,e] at q;exact nu (QbB q).symm
 refine⟨I.ok,I.os,I.bare,⟨I.base.keep,I.base.slot,λb u q n hx=>?_,I.base.there,λb xs q=>?_,λb u v q=>?_,λb ps q=>?_⟩,I.loc,I.cell,?_,λx c q=>?_,λp hp=>?_,λb u q=>?_,I.len⟩
 ·rw[Al (n0 b (I.base.free b u q n hx))]
  exact I.base.free b u q n hx
 ·have z:=I.base.tups b xs q
  rw[Al (n1 b _ z (by intro w;cases w))]
  exact z
 ·have z:=I.base.Gq b u v q
  have nb:b≠a:=λw=>h0 u v (by rw[<-w];exact q)
  rw[Al nb]
  exact z
 ·obtain⟨m,z⟩:=I.base.G8 b ps q
  exact⟨m,by rw[Al (n1 b _ z (by intro w;cases w))];exact z⟩
 ·rw[Al (n0 _ I.free)];exact I.free
 ·rw[Al (n0 _ (I.Ea x c q))];exact I.Ea x c q
 ·obtain⟨p1,p2,p3⟩:=I.pin p hp
  exact⟨p1,by rw[Al (n0 _ p2)];exact p2,p3⟩
 ·have st:∀b u,Bm X.prog X.w H s.heap b u->Bm X.prog X.w (upd H a (.dT kvs)) s.heap b u:=λb u x=>
   x.stay (λ_ _ _ q=>q) (λc q=>by rw[Al (n1 c _ q (by intro z;cases z))];exact q) λc xs q=>by rw[Al (n1 c _ q (by intro z;cases z))];exact q
  by_cases hb:b=a
  ·subst hb
   rw[Ac] at q
   cases q
   exact st _ _ (show Bm X.prog X.w H s.heap b (.frz o (.dT kvs)) from I.hok _ _ e).2
  ·rw[Al hb] at q
   exact st _ _ (I.hok b u q)
end
def zQ (H0 H:Hp) (P:Hp->Prop):Prop:=∃a o kvs,H a=some (.frz o (.dT kvs))/\(∀o' u,H0 a≠some (.frz o' u))/\P (upd H a (.dT kvs))
def qZ (H0:Hp) (t:TE):TE:=fun σ H Q=>t σ H λv H1=>zQ H0 H1 (Q v)
theorem lG {X:Cx} {x:Expr} {t:TE} {H0:Hp} (h0:X.H₀=H0) (h:PE X x t):PE X x (qZ H0 t):=by
 subst h0
 intro pins s σ H Q I q
 refine thn (h pins s σ H _ I q) λu s1 ⟨v,H',I',r,a,o,kvs,e,n,q'⟩=>⟨v,_,I'.yN e n,r,q'⟩
def dU (a:Addr) (o:Obj) (kvs:List (List Key×V)):It:=
 ⟨λi H=>i < kvs.length/\H a=some (.frz o (.dT kvs)),λi H x H'=>∃p b kv,H p=none/\kvs[i]?=some kv/\H b=some (.tup (kv.1.map kV))/\x=.ref p/\H'=upd H p (.tup [.ref b,kv.2]),λi H=>i=kvs.length/\H a=some (.frz o (.dT kvs))⟩
def KTr (P:Program) (w:World) (H:Hp) (kvs:List (List Key×V)) (es:Array DictEntry):Prop:=es.size=kvs.length/\∀(i:Nat) (kv:List Key×V),kvs[i]?=some kv->∃b en,es[i]?=some en/\en.key=.ref b/\H b=some (.tup (kv.1.map kV))/\RelV kv.2 en.val
theorem Te {P:Program} {w:World} {H:Hp} {kvs:List (List Key×V)} {xs:List (List Key×Addr×Value)} {es:Array DictEntry} (r:Paired (λ(p:List Key×V) (q:List Key×Addr×Value)=>p.1=q.1/\H q.2.1=some (.tup (p.1.map kV))/\RelV p.2 q.2.2) kvs xs) (e:es.toList=xs.map (entryOfKey (tupleKind (Bu P w)))):KTr P w H kvs es:=by
 refine⟨by rw[size_of_entries e,QbR r],λi kv hkv=>?_⟩
 have go:∀{l:List (List Key×V)} {m:List (List Key×Addr×Value)} {i:Nat} {p:List Key×V},Paired (λ(p:List Key×V) (q:List Key×Addr×Value)=>p.1=q.1/\H q.2.1=some (.tup (p.1.map kV))/\RelV p.2 q.2.2) l m->l[i]?=some p->∃x,m[i]?=some x/\H x.2.1=some (.tup (p.1.map kV))/\RelV p.2 x.2.2:=by
  intro l m i p r
  induction r generalizing i with
  | nil=>intro h;cases h
  | cons a t ih=>
   intro h
   cases i with
   | zero=>cases h;exact⟨_,rfl,a.2⟩
   | succ i=>exact ih h
 obtain⟨x,hx,h1,h2⟩:=go r hkv
 exact⟨x.2.1,_,by rw[entry_at e i,hx];rfl,rfl,h1,h2⟩
theorem Vk {X:Cx} {pins:List (Addr×Obj)} {σ : St} {H:Hp} {s:Shared} {a:Addr} {kvs:List (List Key×V)} {o:Obj} {es:Array DictEntry} {ep:Nat} (I:Inv X pins σ H s) (e:H a=some (.frz o (.dT kvs))) (ho:o.data=.dict es ep) :
  (a == sysModules)=false/\KTr X.prog X.w H kvs es/\Ma s.heap a es ep:=by
 obtain⟨h1,_,h2,xs,h3,ob,es',ep',h4,h5,h6,h7,_⟩:=(show Bm X.prog X.w H s.heap a (.frz o (.dT kvs)) from I.hok a _ e)
 have z:=h1.symm.trans h4
 cases z
 rw[ho] at h6
 cases h6
 exact⟨h2,Te h3 h7,o,h1,h5,ho⟩
theorem j5 {P:Program} {w:World} {K:PySem.W.Frag} {elts:List Expr} {k:Nat} {pos:Pos} (a it:Addr) (o:Obj) (kvs:List (List Key×V)) {es:Array DictEntry} {ep:Nat} (ho:o.data=.dict es ep) (hes:es.size=kvs.length) :
  Turn P w K (.Tuple elts k pos) (dU a o kvs) [it] it (λi h=>∃ok ov,IsItemIter h it a i kvs.length ep ok ov) where
 mem:=by simp
 obj:=λi h st b hb=>by
  have e:b=it:=by simpa using hb
  subst e
  obtain⟨ok,ov,q⟩:=st
  exact⟨_,q,λv z=>by cases (show Data.fields _=Data.cell v from z)⟩
 keep:=λi h h' st k=>by
  obtain⟨ok,ov,q⟩:=st
  exact⟨ok,ov,k it (by simp) _ q⟩
 item:=by
  intro X hP hw hK hc i pins s σ H E I hf st hg
  subst hP hw hK
  obtain⟨hi,hfz⟩:=hg
  obtain⟨ok,ov,st⟩:=st
  obtain⟨_,⟨hz,rel⟩,da⟩:=Vk I hfz ho
  obtain⟨kv,hkv⟩ : ∃kv,kvs[i]?=some kv:=⟨kvs[i],by simp[hi]⟩
  obtain⟨b,en,hen,hkey,hb,hval⟩:=rel i kv hkv
  rw[<-hes] at st
  refine lg st da hen λh' hout htup hkeep=>?_
  refine⟨_,rfl,wpAny_letOwnedTupleGo_items hout λh2 he2 hs2=>?_⟩
  have nit:s.heap.objs.size≠it:=Qcg (Qcb st)
  have new:Bm X.prog X.w (upd H s.heap.objs.size (.tup [.ref b,kv.2])) h2 s.heap.objs.size (.tup [.ref b,kv.2]):=
   ⟨by show 2<=sizeLine;decide,[en.key,en.val],.cons (by rw[hkey];exact rfl) (.cons hval .nil),_,(hs2.2 _ nit).trans htup,rfl,0,rfl⟩
  have I1:=I.Mg (h':=h2) (t':=s.toks) (Qci _) (λb q hb z=>(hs2.2 b (λw=>hb (by simp[w]))).trans (hkeep b q (λw=>hb (by simp[w])) z)) hf new
  refine⟨.ref s.heap.objs.size,_,I1,rfl,⟨s.heap.objs.size,b,kv,I.hok.fresh (Qci _),hkv,hb,rfl,rfl⟩,⟨en.key,en.val,?_⟩,λb hb=>?_⟩
  ·rw[<-hes];exact he2
  ·have z:b=it:=by simpa using hb
   subst z
   rw[Al (Ne.symm nit)]
   exact (hf b hb).1
 done:=by
  intro X hP hw hK hc i pins s σ H E I hf st hg
  subst hP hw hK
  obtain⟨hi,hfz⟩:=hg
  obtain⟨ok,ov,st⟩:=st
  obtain⟨_,⟨hz,rel⟩,da⟩:=Vk I hfz ho
  rw[<-hes] at st
  exact Xd (I.ok.hd hc) st da (by simp;omega) λh' ext=>⟨rfl,I.Qt (t':=s.toks) (λb ob hb q=>ext b ob (λz=>hb (by simp[z])) q) hf⟩
 self:=λA i s Q E st q=>by
  obtain⟨ok,ov,st⟩:=st
  exact VP st q
def uf (td:TE):TI:=fun σ H R=>td σ H λx H1=>∃a kvs,x=.ref a/\H1 a=some (.dT kvs)/\∀o,R (dU a o kvs) (upd H1 a (.frz o (.dT kvs)))
theorem gb {X:Cx} {d:Expr} {td:TE} {elts:List Expr} {k:Nat} {tp apos cpos:Pos} (hd:PE X d td) (hbase:attributeBase d "items" X.env (eval d X.env)=eval d X.env:=by rfl) (hline:(apos.endLine == cpos.line)=true:=by rfl) :
  PI X (.Tuple elts k tp) (.Call (.Attribute d "items" apos) [] [] cpos) (uf td):=by
 intro pins s σ H R I h
 refine wpAny_Call_method0_late hbase hline (thn (hd pins s σ H _ I h) λv s1 ⟨x,H1,I1,r1,a,kvs,ex,e,q⟩=>?_)
 subst ex
 cases r1
 obtain⟨t1,t2,hsm⟩:=iG I1 (.inr ⟨kvs,.inl e⟩)
 obtain⟨o,ho,I2⟩:=I1.uo e
 obtain⟨_,_,xs,h3,ob,es,ep,h4,h5,h6,h7,_⟩:=(show Bm X.prog X.w H1 s1.heap a (.dT kvs) from I1.hok a _ e)
 rw[ho] at h4
 cases h4
 have hes:=(Te h3 h7).1
 have da:Ma s1.heap a es ep:=⟨o,ho,h5,h6⟩
 refine⟨"dict","dict.items",F.plainAttrs_dict,F.slot_dict_items,F.type_dict_items,t1,t2,Calls.callWith_builtin rfl (PySem.evalArgs_none ?_)⟩
 refine call_meetsIn F.slot_dict_items t1 F.entry_dict_items (F.args_dict_items_1 _) (fW (es:=es) (ep:=ep) hsm) ⟨da,?_⟩
 have hz:(s1.heap.push { cls:=.type "dict_items",data:=.fields #[.ref a] }).objs.size=s1.heap.objs.size+1:=QbN ..
 refine Ui (d:=a) (es:=es) (ep:=ep) ⟨_,QaF _ rfl,rfl,rfl⟩ ⟨o,Qat _ ho,h5,h6⟩ ?_
 refine⟨(s1.heap.push { cls:=.type "dict_items",data:=.fields #[.ref a] }).objs.size,[(s1.heap.push { cls:=.type "dict_items",data:=.fields #[.ref a] }).objs.size],_,_,_,rfl,
  I2.kept (t':=s1.toks) λb u q=>Qat _ (Qat _ q),j5 a _ o kvs h6 hes,?_,λb hb=>?_,q o⟩
 ·rw[<-hes]
  exact⟨_,_,QaF _ rfl⟩
 ·have z:b=(s1.heap.push { cls:=.type "dict_items",data:=.fields #[.ref a] }).objs.size:=by simpa using hb
  have z2:s1.heap.objs.size<=b:=by rw[z,hz];exact Nat.le_succ _
  exact I2.Qf z2 (I2.hok.fresh z2)
theorem pQ {a l:Addr} {o:Obj} {kvs:List (List Key×V)} {g:TG} {tt:TT} {te:TE} {Q:VK} {σ0:St} {H0:Hp} (Pv:Nat->St->Hp->Prop) (h0:Pv 0 σ0 H0) (hl:∀i σ H',i<=kvs.length->Pv i σ H'->H' a=some (.frz o (.dT kvs)))
  (hs:∀i kv p b σ H',kvs[i]?=some kv->Pv i σ H'->H' p=none->H' b=some (.tup (kv.1.map kV))->g (.ref p) σ (upd H' p (.tup [.ref b,kv.2])) fun σ3 H3=>tt σ3 H3 λb H4=>if b=true then te σ3 H4 λy H5=>∃ys,H5 l=some (.lst ys)/\ys.length < sizeLine/\Pv (i+1) σ3 (upd H5 l (.lst (ys++[y]))) else Pv (i+1) σ3 H4)
  (hd:∀ σ H',Pv kvs.length σ H'->Q (.ref l) H'):Fp (dU a o kvs) g tt te Q σ0 H0 l:=by
 unfold Fp
 refine⟨λi m σ H'=>m=kvs.length - i/\i<=kvs.length/\Pv i σ H',⟨kvs.length,by simp,Qcj _,h0⟩,?_⟩
 rintro i m σ H' ⟨rfl,hi,p⟩
 have q:=hl i σ H' hi p
 by_cases hlt:i < kvs.length
 ·refine .inr ⟨⟨hlt,q⟩,Pv (i+1),fun σ3 H3 p'=>⟨kvs.length - (i+1),by omega,rfl,hlt,p'⟩,λx H2 y=>?_⟩
  obtain⟨pa,b,kv,hp,hkv,hb,rfl,rfl⟩:=y
  exact hs i kv pa b σ H' hkv p hp hb
 ·have e:i=kvs.length:=by omega
  subst e
  exact .inl ⟨⟨rfl,q⟩,hd σ H' p⟩
theorem rH {prog:Program} {w:World} {d:Addr} {es:Array DictEntry} {ep:Nat} (lo:(d == sysModules)=false):PySem.W.KdlSrc prog w "dict" d d es.size (λi v=>∃en,es[i]?=some en/\v=en.key) (λh=>Ma h d es ep) where
 type:=λ_ ⟨o,ho,hx,_⟩=>⟨o,ho,hx.1⟩
 there:=λ_ ⟨o,ho,_⟩=>⟨Qcb ho,Qcb ho⟩
 keep:=λ_ _ ⟨o,ho,hx⟩ hk=>⟨o,hk d (.inl rfl) o ho,hx⟩
 notList:=by decide
 notTuple:=by decide
 hint:=λ_ _ _ _ ⟨o,ho,hx,_⟩ hq=>PySem.W.kdl_hint_dict ⟨o,ho,hx.1⟩ hq
 iter:=λA s hh hm=>⟨_,λi h=>h.IsKeyIter s.heap.objs.size d i es.size ep/\Ma h d es ep,(λ_ _ hq=>kZ lo hm hq),{
   sub:=λb hb=>by simp at hb;simp[hb]
   frame:=λ_ _ _ st hk=>⟨st.1.at λo e=>hk s.heap.objs.size (by simp) o e,let ⟨o,ho,r⟩:=st.2;⟨o,hk d (by simp) o ho,r⟩⟩
   item:=λi s' Q E hi st hQ=>by
    have hne:d≠s.heap.objs.size:=let ⟨o,ho,_⟩:=hm;Qcc (Qcb ho)
    have hx:es[i]?=some es[i]:=by simp[hi]
    refine kY st.1 st.2 hx λh' hit' hs'=>?_
    obtain⟨o,ho,r⟩:=st.2
    exact hQ es[i].key h' s'.toks ⟨es[i],hx,rfl⟩ ⟨hit',o,hs'.extBut d o hne ho,r⟩ λb o hb e=>hs'.extBut b o (λh=>hb (by simp[h])) e
   done:=λs' Q E st hQ=>rJ hh st.1 st.2 (by simp) λh' he'=>hQ h' s'.toks λb o hb e=>he' b o (λh=>hb (by simp[h])) e
   self:=λ_ _ _ _ st hQ=>wpAny_pyIter_keyiter st.1 hQ },⟨⟨_,QaF _ rfl,rfl,rfl⟩,let ⟨o,ho,r⟩:=hm;⟨o,Qat _ ho,r⟩⟩⟩
@[irreducible] def Qy:List V->Hp->VK->Prop:=λxs H Q=>∃(a:Addr) (kvs:List (List Key×V)),xs=[.ref a]/\H a=some (.dT kvs)/\∀l bs,H l=none->Paired (λb (kv:List Key×V)=>H b=some (.tup (kv.1.map kV))) bs kvs->Q (.ref l) (upd H l (.lst (bs.map V.ref)))
theorem Qa {a:Addr} {kvs:List (List Key×V)} {H:Hp} {Q:VK} (h:H a=some (.dT kvs)) (q:∀l bs,H l=none->Paired (λb (kv:List Key×V)=>H b=some (.tup (kv.1.map kV))) bs kvs->Q (.ref l) (upd H l (.lst (bs.map V.ref)))):Qy [.ref a] H Q:=by
 unfold Qy
 exact⟨a,kvs,rfl,h,q⟩
theorem Ti {H:Hp}:∀{kvs:List (List Key×V)} {us:List Value},us.length=kvs.length->(∀(j:Nat) (u:Value),us[j]?=some u->∃(kv:List Key×V) (b:Addr),kvs[j]?=some kv/\u=.ref b/\H b=some (.tup (kv.1.map kV)))->∃bs:List Addr,Vals (bs.map V.ref) us/\Paired (λb (kv:List Key×V)=>H b=some (.tup (kv.1.map kV))) bs kvs
 | [],[],_,_=>⟨[],.nil,.nil⟩
 | [],_::_,h,_=>by simp at h
 | _::_,[],h,_=>by simp at h
 | kv::r,u::us,h,g=>by
  obtain⟨bs,h1,h2⟩:=Ti (H:=H) (kvs:=r) (us:=us) (by simpa using h) λj u hu=>by
   obtain⟨kv',b,e,q⟩:=g (j+1) u (by simpa using hu)
   exact⟨kv',b,by simpa using e,q⟩
  obtain⟨kv',b,e,e2,q⟩:=g 0 u rfl
  cases e
  exact⟨b::bs,.cons e2 h1,.cons q h2⟩
theorem Nh {X:Cx} (hc:X.calm=true):Dy X (.type "list") Qy:=by
 intro pins s σ H xs us Q I r h
 unfold Qy at h
 obtain⟨a,kvs,rfl,e,q⟩:=h
 obtain⟨u,rfl,rx⟩:=vals1 r
 cases rx
 obtain⟨z,lo,xs,h3,ob,es,ep,h4,h5,h6,h7,_⟩:=(show Bm X.prog X.w H s.heap a (.dT kvs) from I.hok a _ e)
 obtain⟨hz,rel⟩:=Te h3 h7
 refine PySem.W.kdl_call (rH (es:=es) (ep:=ep) lo) (I.ok.hd hc) ⟨ob,h4,h5,h6⟩ (by omega) λh' tk acc c' hk hS hacc=>?_
 obtain⟨bs,b1,b2⟩:=Ti (H:=H) (kvs:=kvs) (us:=acc.toList) (by rw[QaH,hacc.1,hz]) λj u hu=>by
  obtain⟨en,hen,e2⟩:=hacc.2 j u (by rw[<-Array.getElem?_toList];exact hu)
  have hj:j < kvs.length:=by
   have:=(Qaf.mp hen).1
   omega
  obtain⟨b,en',h8,h9,h10,_⟩:=rel j kvs[j] (Qal hj)
  rw[hen] at h8
  cases h8
  exact⟨kvs[j],b,Qal hj,by rw[e2,h9],h10⟩
 have fr:=I.hok.fresh (Qci s.heap.objs.size)
 refine⟨.ref s.heap.objs.size,_,I.laid (t':=tk) (o:=.lst (bs.map V.ref)) (λb o q=>hk b o q) (Qci _) ?_,rfl,q _ bs fr b2⟩
 exact⟨by rw[Qbx,QbR b2];exact z,acc.toList,c',b1,hS⟩
theorem dF {X:Cx}:Dy X (.builtin "len") (λxs H Q=>∃a kvs,xs=[V.ref a]/\H a=some (.dT kvs)/\Q (.int kvs.length) H):=by
 intro pins s σ H xs us Q I r h
 obtain⟨a,kvs,rfl,e,q⟩:=h
 obtain⟨u,rfl,rx⟩:=vals1 r
 cases rx
 obtain⟨z,lo,xs,h3,ob,es,ep,h4,h5,h6,h7,_⟩:=(show Bm X.prog X.w H s.heap a (.dT kvs) from I.hok a _ e)
 obtain⟨hz,rel⟩:=Te h3 h7
 have T:s.TypeIs (.ref a) "dict":=⟨ob,h4,h5.1⟩
 obtain⟨RZ,Ot,Ou,LR⟩:=ob
 obtain⟨x1,x2⟩:=h5
 dsimp only at h6 x1
 subst h6 x1
 refine Calls.call_function_entry kind_len plain_len entry_len (args_len1 _) ?_
 unfold Builtin.«len»
 refine Qcn (m:=oneArg "len" _) (Qco ?_)
 refine Qcn (m:=callSpecial? (.ref a) (Str.ofString "__len__")) (Qar (name:=Str.ofString "__len__") T F.slot_dict_len (Qbr F.slot_dict_len T F.entry_dict_len ?_ (F.args_dict_len_1 _)))
 unfold Builtin.«dict.__len__»
 wp_walk
 have e0:((es.size:Int)+((0:Nat):Int))=(kvs.length:Int):=by rw[hz];exact Int.add_zero _
 refine⟨_,rfl,?_⟩
 rw[e0]
 have hs:=Qcm
 refine Qcn (QbW (Qco ?_))
 refine Qcn (wpAny_letGo ?_)
 show wpAny _ _ (if ((kvs.length:Nat):Int) < 0 then _ else _) _ _ _
 rw[if_neg (by omega)]
 show wpAny _ _ (if ((kvs.length:Nat):Int) ≥ 2 ^ 63 then _ else _) _ _ _
 rw[if_neg (by omega)]
 exact Qcn (wpAny_mkInt (Qco ⟨_,rfl,.int kvs.length,H,I.tok _,⟨_,rfl⟩,q⟩))
theorem Vm {α β : Type} (f:α->β):∀(l:List α) (j:Nat),(l.map f).eraseIdx j=(l.eraseIdx j).map f
 | [],_=>rfl
 | _::_,0=>rfl
 | a::r,j+1=>by
  show f a::(r.map f).eraseIdx j=f a::(r.eraseIdx j).map f
  rw[Vm f r j]
theorem Oo {α β : Type} {F:α->β->Prop}:∀{l:List α} {m:List β} (j:Nat),Paired F l m->Paired F (l.eraseIdx j) (m.eraseIdx j)
 | _,_,_,.nil=>.nil
 | _,_,0,.cons _ t=>t
 | _,_,j+1,.cons a t=>.cons a (Oo j t)
theorem rW {H:Hp}:∀{l:List (List Key×V)} {m:List (List Key×Addr×Value)} {i:Nat} {p:List Key×V},Paired (λ(p:List Key×V) (q:List Key×Addr×Value)=>p.1=q.1/\H q.2.1=some (.tup (p.1.map kV))/\RelV p.2 q.2.2) l m->l[i]?=some p->∃x,m[i]?=some x/\p.1=x.1/\H x.2.1=some (.tup (p.1.map kV))/\RelV p.2 x.2.2:=by
 intro l m i p r
 induction r generalizing i with
 | nil=>intro h;cases h
 | cons a t ih=>
  intro h
  cases i with
  | zero=>cases h;exact⟨_,rfl,a⟩
  | succ i=>exact ih h
theorem Vf {H:Hp}:∀{l:List (List Key×V)} {m:List (List Key×Addr×Value)} {i:Nat} {x:List Key×Addr×Value},Paired (λ(p:List Key×V) (q:List Key×Addr×Value)=>p.1=q.1/\H q.2.1=some (.tup (p.1.map kV))/\RelV p.2 q.2.2) l m->m[i]?=some x->∃p,l[i]?=some p/\p.1=x.1/\H x.2.1=some (.tup (p.1.map kV))/\RelV p.2 x.2.2:=by
 intro l m i x r
 induction r generalizing i with
 | nil=>intro h;cases h
 | cons a t ih=>
  intro h
  cases i with
  | zero=>cases h;exact⟨_,rfl,a⟩
  | succ i=>exact ih h
theorem eV {prog:Program} {w:World} {K:Type} [DecidableEq K] {knd:HeapKind prog w K} {A:Around} {E:Value->Shared->Prop} {s:Shared} {d a:Addr} {o:Obj} {es:Array DictEntry} {ep:Nat} {xs:List (K×Addr×Value)} {k:K} {Q:Option DictEntry->Shared->Prop} (hu:knd.room A) (hkey:knd.is s.heap k a)
  (ho:s.heap.get? d=some o) (hc:o.ExactDict) (hd:o.data=.dict es ep) (he:es.toList=xs.map (entryOfKey knd)) (his:∀x∈xs,knd.is s.heap x.1 x.2.1) (hn:(xs.map (·.1)).Nodup) (hz:xs.length<=sizeLine)
  (hnone:(∀(j:Nat) (p:Addr×Value),xs[j]?≠some (k,p))->Q none { s with toks:=s.toks+knd.draws k })
  (hsome:∀(j:Nat) (p:Addr×Value),xs[j]?=some (k,p)->∀h' o' es',h'.get? d=some o'->o'.ExactDict->o'.data=.dict es' (ep+1)->es'.toList=(xs.eraseIdx j).map (entryOfKey knd)->Heap.SameBut d s.heap h'->Q (some (entryOfKey knd (k,p))) { s with heap:=h',toks:=s.toks+knd.draws k }) :
  wpAny (model prog w) A (Builtin.Dict.takeOut d (.ref a)) Q E s:=by
 unfold Builtin.Dict.takeOut
 try with_reducible refine QbW ?_
 refine Qcn (knd.pyHash hu hkey (Qcn (wpAny_dictFind_heap (s:={ s with toks:=s.toks+knd.draws k }) hu hkey ho hd he his hn (λhno=>Qco (hnone hno)) λj p hj=>?_)))
 refine Qcn (wpAny_dictEntries (s:={ s with toks:=s.toks+knd.draws k }) ho hd ?_)
 rw[entry_at he j,hj]
 have hsz:=size_of_entries he
 have hle:(es.eraseIdxIfInBounds j).toList=(xs.eraseIdx j).map (entryOfKey knd):=by
  rw[Array.toList_eraseIdxIfInBounds,he,Vm]
 refine Qcn (wpAny_updateDictKeys (hz:=by omega) (hf:=by have h1:=congrArg List.length hle;rw[QaH,Qbx] at h1;have:=List.length_eraseIdx_le xs j;omega) (s:={ s with toks:=s.toks+knd.draws k }) ho hd ?_)
 exact Qco (hsome j p hj _ _ _ (Qax _ ho (Obj.isFreed_of_dict (Obj.data_mapDictKeys hd _))) (hc.mapDictKeys _) (Obj.data_mapDictKeys hd _) hle (QaJ ..))
def uY (td ty tx:TE):TE:=fun σ H Q=>td σ H λx H1=>∃a,x=.ref a/\IsD H1 a/\ty σ H1 λy H2=>tx σ H2 λz H3=>∃kvs k b,H3 a=some (.dT kvs)/\y=.ref b/\H3 b=some (.tup (k.map kV)) /\
 (∀(j:Nat) (v:V),kvs[j]?=some (k,v)->Q v (upd H3 a (.dT (kvs.eraseIdx j))))/\((∀(j:Nat) (v:V),kvs[j]?≠some (k,v))->Q z H3)
theorem yt {X:Cx} {pins:List (Addr×Obj)} {σ : St} {H:Hp} {s:Shared} {A:Around} {E:Value->Shared->Prop} {a b:Addr} {kvs:List (List Key×V)} {k:List Key} {r:Value} {Q:Value->Shared->Prop} (hu:A.units+1 < cLine) (I:Inv X pins σ H s) (e:H a=some (.dT kvs)) (eb:H b=some (.tup (k.map kV)))
  (h1:∀(j:Nat) (v:V),kvs[j]?=some (k,v)->∀w' s',Inv X pins σ (upd H a (.dT (kvs.eraseIdx j))) s'->RelV v w'->Q w' s') (h2:(∀(j:Nat) (v:V),kvs[j]?≠some (k,v))->∀s',Inv X pins σ H s'->Q r s'):wpAny (model X.prog X.w) A (call (.builtin "dict.pop") [.ref a,.ref b,r]) Q E s:=by
 obtain⟨z,lo,xs,rel,ob,es,ep,h4,h5,h6,h7,h8⟩:=(show Bm X.prog X.w H s.heap a (.dT kvs) from I.hok a _ e)
 have T:s.TypeIs (.ref a) "dict":=⟨ob,h4,h5.1⟩
 refine Qbr F.slot_dict_pop T F.entry_dict_pop ?_ (F.args_dict_pop_3 _ _ _)
 unfold Builtin.«dict.pop»
 refine Qcn ?_
 unfold Builtin.Dict.keyAndDefault
 refine Qcn (wpAny_notOrdered_dict T ?_)
 show wpAny _ _ (pure (a,Value.ref b,some r)) _ _ s
 refine Qco ?_
 dsimp only
 rw[if_neg (show ¬((keyPart (Value.ref b)).isSome=true) from QaP)]
 have hlen:xs.length=kvs.length:=(QbR rel).symm
 have hkey:=Je I.hok eb
 have none_of:(∀(j:Nat) (p:Addr×Value),xs[j]?≠some (k,p))->∀(j:Nat) (v:V),kvs[j]?≠some (k,v):=λhno j v hj=>by
  obtain⟨q,hq,e1,_⟩:=rW rel hj
  have e1:k=q.1:=e1
  exact hno j q.2 (by rw[hq,e1])
 have fin:∀tk,(∀(j:Nat) (v:V),kvs[j]?≠some (k,v))->Q r { s with toks:=tk }:=λtk hno=>h2 hno _ (I.tok _)
 refine Qcn (wpAny_dictEntries h4 h6 (Qcn (Qco ?_)))
 have miss:∀(tk:Nat),(∀(j:Nat) (v:V),kvs[j]?≠some (k,v))->wpAny (model X.prog X.w) A.in1 (do Builtin.Dict.missedRemoval a (Value.ref b);rule "dict.pop.default";ret r) (λfin s'=>∃v,fin=PySem.Fin.done (Flow.ret v)/\Q v s') E { s with toks:=tk }:=λtk hno=>by
  unfold Builtin.Dict.missedRemoval
  rw[if_neg (by rw[lo];exact QaP)]
  exact Qcn (Qco (Qcn (wpAny_rule (Qco ⟨_,rfl,fin tk hno⟩))))
 by_cases hem:es.isEmpty=true
 ·rw[if_pos hem]
  have hk0:kvs=[]:=by
   have h1:=size_of_entries h7
   have h2:es.size=0:=by simpa using hem
   exact List.length_eq_zero_iff.mp (by omega)
  have h3:=miss s.toks λj v hj=>by rw[hk0] at hj;cases hj
  exact Qcn (wpAny_rule (Qcn (Qco h3)))
 ·rw[if_neg hem]
  refine Qcn (eV (knd:=tupleKind (Bu X.prog X.w)) (QaZ hu) hkey h4 h5 h6 h7 ?_ h8 (by omega) (λhno=>miss _ (none_of hno)) λj p hj h' o' es' g1 g2 g3 g4 sb=>?_)
  ·intro x hx
   obtain⟨i,hi⟩:=QaC hx
   obtain⟨pv,_,e1,hb,_⟩:=Vf rel hi
   rw[<-e1]
   exact Je I.hok hb
  ·obtain⟨pv,hp,e1,_,rv⟩:=Vf rel hj
   have hp:kvs[j]?=some (k,pv.2):=by
    rw[hp]
    have:pv.1=k:=e1
    rw[<-this]
   have nd:((xs.eraseIdx j).map (·.1)).Nodup:=(List.Sublist.map _ (List.eraseIdx_sublist xs j)).nodup h8
   refine Qcn (wpAny_letGo (Qco ⟨_,rfl,h1 j pv.2 hp _ _ ?_ rv⟩))
   refine Ny I (by rw[e];exact True.intro) sb ⟨o',g1⟩ ⟨by have:=List.length_eraseIdx_le kvs j;omega,lo,xs.eraseIdx j,?_,o',es',_,g1,g2,g3,g4,nd⟩
   refine Paired.Az (Oo j rel) λx y hxy=>⟨hxy.1,?_,hxy.2.2⟩
   rw[Al (cg hxy.2.1 e (λz=>nomatch z))]
   exact hxy.2.1
section
variable {X:Cx} {o e f:Expr} {apos cpos:Pos} {td ty tx:TE}
theorem lJ (hu:X.A.units+1 < cLine) (ho:PE X o td) (he:PE X e ty) (hf:PE X f tx) (m:M2 X o "pop" apos e f cpos):PE X (.Call (.Attribute o "pop" apos) [e,f] [] cpos) (uY td ty tx):=by
 intro pins s σ H Q I h
 refine wpAny_Call_method m.base m.few m.line PySem.F.plainAttrs_dict PySem.F.slot_dict_pop PySem.F.type_dict_pop (thn (ho pins s σ H _ I h) λu s1 ⟨x,H1,I1,rx,a,ex,d,q1⟩=>?_)
 subst ex
 obtain rfl:u=Value.ref a:=rx
 obtain⟨t1,t2,_⟩:=iG I1 d
 refine⟨t1,t2,?_⟩
 rw[m.trees]
 refine Calls.callWith_builtin rfl (Calls.evalArgs_plain (Calls.spliced_cons (thn (he pins s1 σ H1 _ I1 q1) λiv s2 ⟨y,H2,I2,ry,q2⟩=>
  Calls.spliced_cons (thn (hf pins s2 σ H2 _ I2 q2) λfv s3 ⟨z,H3,I3,rz,kvs,k,b,ea,ey,eb,q3,q4⟩=>Calls.spliced_nil ?_))))
 subst ey
 obtain rfl:iv=Value.ref b:=ry
 exact yt hu I3 ea eb (λj v hj w' s4 I4 rw'=>⟨v,_,I4,rw',q3 j v hj⟩) λhno s4 I4=>⟨z,H3,I4,rz,q4 hno⟩
end
section
variable {prog:Program} {w:World} {A:Around} {E:Value->Shared->Prop} {s:Shared} {R:Result->Shared->Prop}
theorem Od {h h':Heap} {k:List Key} {a:Addr} (x:(tupleKind (Bu prog w)).is h k a) (f:∀o,h.get? a=some o->h'.get? a=some o):(tupleKind (Bu prog w)).is h' k a:=by
 obtain⟨o,its,n,h1,r⟩:=x
 exact⟨o,its,n,f o h1,r⟩
theorem iw {h:Heap} {k:List Key} {a:Addr} (x:(tupleKind (Bu prog w)).is h k a):∃o,h.get? a=some o:=by
 obtain⟨o,its,n,h1,r⟩:=x
 exact⟨o,h1⟩
theorem Tr {h h':Heap} {d:Addr} {xs:List (List Key×Addr×Value)} (m:h.DictOfH (tupleKind (Bu prog w)) d xs) (f:∀o,h.get? d=some o->h'.get? d=some o) (g:∀x∈xs,∀o,h.get? x.2.1=some o->h'.get? x.2.1=some o):h'.DictOfH (tupleKind (Bu prog w)) d xs:=by
 obtain⟨o,es,ep,h1,h2,h3,h4,h5,h6⟩:=m
 exact⟨o,es,ep,f o h1,h2,h3,h4,λx hx=>Od (h5 x hx) (g x hx),h6⟩
theorem pW {xs:List (List Key×Addr×Value)} {k:List Key} (h:∀x∈xs,x.1≠k):atKey xs k=none:=atKey_none_of_get λj p hj=>h _ (Qaz hj) rfl
theorem U6 {d it l:Addr} {items:List Value} {res:Value} (hu:A.units+1 < cLine) (hh:A.handled=none) (ndi:d≠it) (nld:l≠d) (nli:l≠it):∀(rs:List (Addr×List Key×Addr×Value)) (i:Nat) (acc:List (List Key×Addr×Value)) (s:Shared),s.heap.IsListIter it l i->s.heap.IsList l items.toArray ->
  items.drop i=rs.map (λr=>Value.ref r.1)->(∀r∈rs,s.heap.IsTuple r.1 #[.ref r.2.2.1,r.2.2.2]/\(tupleKind (Bu prog w)).is s.heap r.2.1 r.2.2.1/\(r.1≠d/\r.1≠it)/\r.2.2.1≠d/\r.2.2.1≠it)->(∀x∈acc,x.2.1≠d/\x.2.1≠it)->(acc.map (·.1)++rs.map (·.2.1)).Nodup->s.heap.DictOfH (tupleKind (Bu prog w)) d acc->acc.length+rs.length<=sizeLine ->
  (∀h' tk,h'.DictOfH (tupleKind (Bu prog w)) d (acc++rs.map λr=>(r.2.1,r.2.2.1,r.2.2.2))->(∀b o,b≠d->b≠it->s.heap.get? b=some o->h'.get? b=some o)->R (.ok (.ret res)) { s with heap:=h',toks:=tk }) ->
  codeAny (model prog w) A (.builtin "dict.update.loop" ⟨[.ref d,.ref it,rawInt i,res],[]⟩) R s
 | [],i,acc,s,hit,hl,hd,_,ha,nd,hm,hz,hR=>by
  refine codeAny_builtin Nx ?_
  rw[Around.under_plainId G3 _]
  show wpAny _ A.in1 (pyNext (.ref it) >>= _) _ _ s
  have hx:items.toArray[i]?=none:=by
   have:items.length<=i:=by simpa using hd
   simp[this]
  refine Qcn (wpAny_pyNext_list_end (show A.in1.handled=none from hh) hit hl hx λh' ex=>?_)
  refine Qcn (Qco ?_)
  refine Qco ?_
  rw[List.map_nil,QbD] at hR
  exact hR h' s.toks (Tr hm (λo e=>ex _ _ ndi e) λx hx o e=>ex _ _ (ha x hx).2 e) λb o nb nt q=>ex b o nt q
 | (t,k,kb,v)::rs,i,acc,s,hit,hl,hd,hr,ha,nd0,hm,hz,hR=>by
  refine codeAny_builtin Nx ?_
  rw[Around.under_plainId G3 _]
  show wpAny _ A.in1 (pyNext (.ref it) >>= _) _ _ s
  have hx:items.toArray[i]?=some (.ref t):=by
   have:=congrArg List.head? hd
   rw[List.head?_drop] at this
   simpa using this
  have hd':items.drop (i+1)=rs.map (λr=>Value.ref r.1):=by
   rw[<-List.tail_drop,hd];rfl
  obtain⟨⟨ot,ho,hc,n,hdt⟩,hk,⟨nd,ni⟩,kd,ki⟩:=hr _ (QaN ..)
  refine Qcn (wpAny_pyNext_list_item hit hl hx λh1 hit1 sb1=>?_)
  have k1:∀b o,b≠it->s.heap.get? b=some o->h1.get? b=some o:=λb o nb q=>(sb1.2 b nb).trans q
  refine Qcn (QbW ?_)
  refine Qcn (wpAny_tryCatch ?_)
  have hT:(⟨h1,s.gens,s.drawn,s.toks,s.os⟩ : Shared).TypeIs (.ref t) "tuple":=⟨ot,k1 _ _ ni ho,hc⟩
  unfold Builtin.Dict.pairItems
  refine Qcn (wpAny_typeOf hT ?_)
  rw[if_pos (by decide)]
  refine Qcn (QbP (k1 _ _ ni ho) hdt (Qco ?_))
  show wpAny _ A.in1 (holding [.ref kb,v] (dictSet d (.ref kb) v)) _ _ _
  have hm1:h1.DictOfH (tupleKind (Bu prog w)) d acc:=Tr hm (λo e=>k1 _ _ ndi e) λx hx o e=>k1 _ _ (ha x hx).2 e
  have hk1:=Od hk λo e=>k1 _ _ ki e
  have hnew:atKey acc k=none:=pW λx hx e=>by
   have:=(Qbn.mp nd0).2.2 x.1 (Qca.mpr ⟨x,hx,rfl⟩) k (QaN ..)
   exact this e
  have hz0:acc.length+(rs.length+1)<=sizeLine:=hz
  refine QbW (wpAny_dictSet_heap (show (tupleKind (Bu prog w)).room A.in1 from QaZ hu) hk1 hm1 (λh2 hm2 sb2=>?_) (by omega))
  rw[storedH_new hnew] at hm2
  have k2:∀b o,b≠d->h1.get? b=some o->h2.get? b=some o:=λb o nb q=>(sb2.2 b nb).trans q
  refine Qco ⟨plainId_quiet G3 _,?_⟩
  have key:∀j:Int,rawInt (j+1)=rawInt (j+1):=λ_=>rfl
  have e1:rawInt ((i:Int)+1)=rawInt ((i+1:Nat):Int):=by rw[Int.natCast_add];rfl
  show codeAny (model prog w) A (.builtin "dict.update.loop" ⟨[.ref d,.ref it,rawInt ((i:Int)+1),res],[]⟩) R _
  rw[e1]
  obtain⟨oi,b1,b2⟩:=hit1
  obtain⟨ol,c1,c2⟩:=hl
  refine U6 hu hh ndi nld nli rs (i+1) (acc++[(k,kb,v)]) _ ⟨oi,k2 _ _ (Ne.symm ndi) b1,b2⟩ ⟨ol,k2 _ _ nld (k1 _ _ nli c1),c2⟩ hd' (λr hrm=>?_) (λx hx=>?_) ?_ hm2 ?_ λh' tk x y=>hR h' tk (by rw[Qbd] at x;exact x) λb o nb nt q=>y b o nb nt (k2 _ _ nb (k1 _ _ nt q))
  ·obtain⟨⟨ob,d1,d2⟩,d3,⟨d4,d5⟩,d6,d7⟩:=hr r (QaA _ hrm)
   exact⟨⟨ob,k2 _ _ d4 (k1 _ _ d5 d1),d2⟩,Od d3 λo e=>k2 _ _ d6 (k1 _ _ d7 e),⟨d4,d5⟩,d6,d7⟩
  ·rcases Qbz.mp hx with h | h
   ·exact ha x h
   ·have:x=(k,kb,v):=by simpa using h
    rw[this]
    exact⟨kd,ki⟩
  ·rw[Qby,Qbd]
   exact nd0
  ·rw[QaM]
   show acc.length+1+rs.length<=sizeLine
   omega
end
section
variable {prog:Program} {w:World} {A:Around} {E:Value->Shared->Prop} {s:Shared}
theorem VR {l:Addr} {items:List Value} {c:Nat} {rs:List (Addr×List Key×Addr×Value)} {Q:Value->Shared->Prop} (hu:A.units+2 < cLine) (hh:A.handled=none) (hl:s.heap.get? l=some (seqObj "list" items.toArray c)) (hi:items=rs.map (λr=>Value.ref r.1))
  (hr:∀r∈rs,s.heap.IsTuple r.1 #[.ref r.2.2.1,r.2.2.2]/\(tupleKind (Bu prog w)).is s.heap r.2.1 r.2.2.1) (nd:(rs.map (·.2.1)).Nodup) (hz:rs.length<=sizeLine)
  (h:∀d h' tk,s.heap.objs.size<=d->h'.DictOfH (tupleKind (Bu prog w)) d (rs.map λr=>(r.2.1,r.2.2.1,r.2.2.2))->(∀b o,s.heap.get? b=some o->h'.get? b=some o)->Q (.ref d) { s with heap:=h',toks:=tk }) :
  wpAny (model prog w) A (call (.type "dict") [.ref l]) Q E s:=by
 refine callType_codes (Q₁:=λobj s₁=>obj=.ref s.heap.objs.size/\s₁={ s with heap:=s.heap.push { cls:=.type "dict",data:=.dict #[] } }) F.kt_called_dict (F.kt_typeCall_dict_1 _) F.entry_dict_init (kt_code_dict_new _ ⟨rfl,rfl⟩) ?_
 rintro obj s₁ ⟨rfl,rfl⟩
 have hnew:(s.heap.push { cls:=.type "dict",data:=.dict #[] }).DictOfH (tupleKind (Bu prog w)) s.heap.objs.size []:=Heap.DictOfH.new s.heap
 have k1:∀b o,s.heap.get? b=some o->b≠s.heap.objs.size/\(s.heap.push { cls:=.type "dict",data:=.dict #[] }).get? b=some o:=λb o q=>⟨Qcc (Qcb q),Qat _ q⟩
 generalize hd:s.heap.objs.size=d at hnew k1
 have ld:s.heap.objs.size<=d:=Nat.le_of_eq hd
 generalize s.heap.push { cls:=.type "dict",data:=.dict #[] }=g1 at hnew k1
 refine⟨hnew.typeIs,F.args_dict_init_2 _ _,?_⟩
 unfold Builtin.«dict.__init__»
 refine Qcn ?_
 unfold Builtin.Dict.selfAndRest
 refine Qcn (wpAny_notOrdered_dict hnew.typeIs ?_)
 show wpAny _ _ (pure (d,[Value.ref l])) _ _ _
 refine Qco ?_
 show wpAny _ _ (Builtin.Dict.updateFrom "dict.__init__" d (.ref l) [] .none) _ _ _
 unfold Builtin.Dict.updateFrom
 have hl1:=(k1 _ _ hl).2
 refine Qcn (wpAny_typeOf (show (⟨g1,s.gens,s.drawn,s.toks,s.os⟩ : Shared).TypeIs (.ref l) "list" from⟨_,hl1,rfl⟩) ?_)
 rw[if_pos (by decide)]
 refine Qcn (tH (show A.in1.in1.handled=none from hh) hl1 λg2 tk k2=>?_)
 rw[show (none:Option Value).isNone=true from rfl,if_pos rfl]
 refine Qcn (wpAny_rule ?_)
 have hl2:=k2 _ _ hl1
 refine Qcn (Qbl (items:=items.toArray) ⟨_,hl2,rfl,_,rfl⟩ ?_)
 obtain⟨od,es,ep,a1,a2⟩:=hnew
 have nit:∀b o,g2.get? b=some o->b≠g2.objs.size:=λb o q=>Qcc (Qcb q)
 have k3:∀b o,g2.get? b=some o->(g2.push { cls:=.type "list_iterator",data:=.fields #[.ref l,.int 0 0] }).get? b=some o:=λb o q=>Qat _ q
 refine Qco ⟨plainId_quiet G3 _,?_⟩
 have kk:∀b o,s.heap.get? b=some o->(b≠d/\b≠g2.objs.size)/\(g2.push { cls:=.type "list_iterator",data:=.fields #[.ref l,.int 0 0] }).get? b=some o:=λb o q=>⟨⟨(k1 _ _ q).1,nit _ _ (k2 _ _ (k1 _ _ q).2)⟩,k3 _ _ (k2 _ _ (k1 _ _ q).2)⟩
 refine U6 (items:=items) (show A.in1.units+1 < cLine from hu) (show A.in1.handled=none from hh) (nit _ _ (k2 _ _ a1)) (k1 _ _ hl).1 (nit _ _ hl2) rs 0 [] _ ⟨_,QaF _ rfl,rfl,rfl⟩ ⟨_,k3 _ _ hl2,rfl,_,rfl⟩ (by rw[List.drop_zero];exact hi) (λr hrm=>?_) (λx hx=>by cases hx) nd ?_ (by rw[List.length_nil];omega) λh' tk' x y=>⟨rfl,h d h' tk' ld x λb o q=>y b o (k1 _ _ q).1 (kk _ _ q).1.2 (kk _ _ q).2⟩
 ·obtain⟨⟨ob,d1,d2⟩,d3⟩:=hr r hrm
  obtain⟨oo,e0⟩:=iw d3
  exact⟨⟨ob,(kk _ _ d1).2,d2⟩,Od d3 λo e=>(kk _ _ e).2,(kk _ _ d1).1,(kk _ _ e0).1⟩
 ·exact⟨od,es,ep,k3 _ _ (k2 _ _ a1),a2.1,a2.2.1,a2.2.2.1,(λx hx=>by cases hx),QbO⟩
end
def YB (H:Hp) (v:V) (r:List Key×V):Prop:=∃t b,v=.ref t/\H t=some (.tup [.ref b,r.2])/\H b=some (.tup (r.1.map kV))
theorem Xb {P:Program} {w:World} {H:Hp} {h:Heap} (ok:HOk P w H h):∀{vs:List V} {rows:List (List Key×V)} {us:List Value},Paired (YB H) vs rows->Vals vs us ->
  ∃rs:List (Addr×List Key×Addr×Value),us=rs.map (λr=>Value.ref r.1)/\(∀r∈rs,h.IsTuple r.1 #[.ref r.2.2.1,r.2.2.2]/\(tupleKind (Bu P w)).is h r.2.1 r.2.2.1)/\Paired (λ(p:List Key×V) (q:List Key×Addr×Value)=>p.1=q.1/\H q.2.1=some (.tup (p.1.map kV))/\RelV p.2 q.2.2) rows (rs.map λr=>(r.2.1,r.2.2.1,r.2.2.2))/\rs.length=rows.length/\rs.map (·.2.1)=rows.map (·.1)
 | _,_,_,.nil,.nil=>⟨[],rfl,(λ_ h=>by cases h),.nil,rfl,rfl⟩
 | _,_,_,.cons (b:=row) ⟨t,b,e,ht,hb⟩ p,.cons r q=>by
  obtain⟨rs,h1,h2,h3,h4,h5⟩:=Xb ok p q
  subst e
  cases r
  obtain⟨_,its,rv,o,ho,hc,n,hd⟩:=ok t _ ht
  cases rv with
  | cons a1 rv=>
   rename_i u1 us1
   cases rv with
   | cons a2 rv=>
    rename_i u2 us2
    cases rv
    cases (show u1=Value.ref b from a1)
    refine⟨(t,row.1,b,u2)::rs,by rw[h1];rfl,λr hr=>?_,.cons ⟨rfl,hb,a2⟩ h3,by rw[Qbq,h4];rfl,by rw[QbT,h5];rfl⟩
    rcases QbS.mp hr with e | e
    ·rw[e];exact⟨⟨o,ho,hc,n,hd⟩,Je ok hb⟩
    ·exact h2 r e
def rM:List V->Hp->VK->Prop:=λxs H Q=>∃l vs rows,xs=[.ref l]/\H l=some (.lst vs)/\Paired (YB H) vs rows/\(rows.map (·.1)).Nodup/\rows.length < 1000/\∀d,H d=none->Q (.ref d) (upd H d (.dT rows))
theorem Ze {X:Cx} (hu:X.A.units+64 < cLine) (hc:X.calm=true):Dy X (.type "dict") rM:=by
 intro pins s σ H xs us Q I r h
 obtain⟨l,vs,rows,rfl,hl,pr,nd,hz,q⟩:=h
 obtain⟨u,rfl,rx⟩:=vals1 r
 cases rx
 obtain⟨_,its,n,rv,ho⟩:=(show Bm X.prog X.w H s.heap l (.lst vs) from I.hok l _ hl)
 obtain⟨rs,h1,h2,h3,h4,h5⟩:=Xb I.hok pr rv
 have zz:rows.length<=sizeLine:=Qcf (Ao (Qcf hz))
 refine VR (by omega) (I.ok.hd hc) ho h1 h2 (by rw[h5];exact nd) (by rw[h4];exact zz) λd h' tk ld hd kp=>?_
 have fr:=I.hok.fresh ld
 have hb:=I.big
 obtain⟨o,es,ep,g1,g2,g3,g4,_,g6⟩:=hd
 refine⟨.ref d,_,I.laid (t':=tk) (o:=.dT rows) kp ld ⟨zz,QaG.mpr (Qcg (QaR hb ld)),_,Paired.Az h3 λx y hxy=>⟨hxy.1,?_,hxy.2.2⟩,o,es,ep,g1,g2,g3,g4,g6⟩,rfl,q d fr⟩
 rw[Al (Av hxy.2.1 fr)]
 exact hxy.2.1
open PySem.W (KasT kas_asc kas_desc kas_rev kas_tail3 kas_descPart kas_count kas_place kas_bin kas_sort)
structure C3 (a b c k:Int):Prop where
 b0:0<=b
 b1:b < 100
 c0:0<=c
 c1:c < 100
 k:k=a*10000+b*100+c
def TQ (K:PySem.W.Frag) (H:Hp) (v:V) (k:Int):Prop:=∃t a b c,v=.ref t/\SqT K H t [.int a,.int b,.int c]/\C3 a b c k
theorem qC {K:PySem.W.Frag} {H:Hp}:∀{vs:List V} {ks:List Int},Paired (TQ K H) vs ks->dJ K H vs
 | _,_,.nil,_,h=>nomatch h
 | _,_,.cons x r,v,h=>by
  rcases QbS.mp h with rfl | h
  ·obtain⟨t,a,b,c,e,q,_⟩:=x
   exact⟨t,[a,b,c],e,q,Nat.succ_pos _⟩
  ·exact qC r v h
section
variable {prog:Program} {w:World} {A:Around} {s:Shared}
theorem BU {fin:Bool} {C:Bool->Shared->Prop} {a b c k a' b' c' k':Int} {t1 t2 t3 u1 u2 u3:Tok} (x:C3 a b c k) (y:C3 a' b' c' k') (ne:k≠k') (hC:C (decide (k < k')) s):PySem.W.KatLex prog w A true fin C ([Value.int a t1,Value.int b t2,Value.int c t3].zip [Value.int a' u1,Value.int b' u2,Value.int c' u3]) 0 s:=by
 have x1:=x.b0
 have x2:=x.b1
 have x3:=x.c0
 have x4:=x.c1
 have x5:=x.k
 have y1:=y.b0
 have y2:=y.b1
 have y3:=y.c0
 have y4:=y.c1
 have y5:=y.k
 rw[List.zip_cons_cons]
 refine kat_cons (wpAny_eqBool_int ?_)
 by_cases ha:a=a'
 ·rw[show (a == a')=true by rw[ha];exact beq_self_eq_true a']
  refine PySem.W.kat_yes ?_
  rw[List.zip_cons_cons]
  refine kat_cons (wpAny_eqBool_int ?_)
  by_cases hb:b=b'
  ·rw[show (b == b')=true by rw[hb];exact beq_self_eq_true b']
   refine PySem.W.kat_yes ?_
   rw[List.zip_cons_cons]
   refine kat_cons (wpAny_eqBool_int ?_)
   have hc:c≠c':=λz=>ne (by rw[x5,y5,ha,hb,z])
   rw[show (c == c')=false from QaG.mpr hc]
   refine PySem.W.kat_no (PySem.W.kat_one _ _ (lt_int ?_))
   rw[show decide (c < c')=decide (k < k') by rw[QbG,QaW,QaW];subst ha hb;constructor <;> intro h <;> omega]
   exact hC
  ·rw[show (b == b')=false from QaG.mpr hb]
   refine PySem.W.kat_no (PySem.W.kat_one _ _ (lt_int ?_))
   rw[show decide (b < b')=decide (k < k') by rw[QbG,QaW,QaW];subst ha;constructor <;> intro h <;> omega]
   exact hC
 ·rw[show (a == a')=false from QaG.mpr ha]
  refine PySem.W.kat_no (oneLt_int ?_)
  rw[show decide (a < a')=decide (k < k') by rw[QbG,QaW,QaW];constructor <;> intro h <;> omega]
  exact hC
end
@[irreducible] def SN (K:PySem.W.Frag):List V->Hp->VK->Prop:=λxs H Q=>∃(p:Addr) (vs:List V) (ks:List Int),xs=[.ref p]/\SqL K H p vs/\vs.length < 64/\Paired (TQ K H) vs ks/\ks.Nodup /\
 ∀(is:List Nat) l,is.Perm (List.range vs.length)->(is.map λi=>ks.getD i 0).Pairwise (· < ·)->H l=none->Q (.ref l) (upd H l (.lst (is.map λi=>vs.getD i .non)))
theorem j8 {K:PySem.W.Frag} {p:Addr} {vs:List V} {ks:List Int} {H:Hp} {Q:VK} (h1:SqL K H p vs) (h2:vs.length < 64) (h3:Paired (TQ K H) vs ks) (h4:ks.Nodup)
  (q:∀(is:List Nat) l,is.Perm (List.range vs.length)->(is.map λi=>ks.getD i 0).Pairwise (· < ·)->H l=none->Q (.ref l) (upd H l (.lst (is.map λi=>vs.getD i .non)))):SN K [.ref p] H Q:=by
 unfold SN
 exact⟨p,vs,ks,rfl,h1,h2,h3,h4,q⟩
theorem Yr {X:Cx}:Dy X (.builtin "sorted") (SN X.K):=by
 intro pins s σ H xs us Q I r h
 unfold SN at h
 obtain⟨p,vs,ks,rfl,hq,h64,hK,hnd,q⟩:=h
 have hR:dJ X.K H vs:=qC hK
 have hkl:vs.length=ks.length:=QbR hK
 obtain⟨u,rfl,rx⟩:=vals1 r
 cases rx
 obtain⟨its,rv,pl,hz⟩:=I.list hq
 have hlen:vs.length=its.length:=rv.length
 by_cases h2:2<=its.length
 ·obtain⟨m,hn,_⟩:=id I.loc
  refine PySem.W.kat_sorted (Att.yg hn) (mJ (g:=Att.S8 s.heap) (h:=s.heap) (L:=X.env.locals)) pl.isList h2 (by omega) λD e1 h' F' N' hD=>?_
  have kp:∀b o,b≠X.env.locals->s.heap.get? b=some o->h'.get? b=some o:=λb o hb e=>(N' (b,o) (QaA _ (M8 hb (Att.Kz _ _) e))).1
  have nl:∀b,H b≠none\/(∃u,X.base.get? b=some u)->b≠X.env.locals:=λb hb z=>by
   rcases hb with hb |⟨u,hb⟩
   ·exact hb (by rw[z];exact I.free)
   ·have:=Qcb hb
    rw[z] at this
    exact absurd (QaR this (Qcd I.ok.bsz I.ok.above)) (QbV _)
  obtain⟨fs,f1,f2,f3⟩:=Z7 (h':=h') I (λb o hb e=>kp b o (nl b hb) e) rv hR
  refine PySem.W.kat_kind f1 (by omega) (λv hv=>by obtain⟨i,t,rfl⟩:=f3 v hv;exact PySem.W.Looks.of_pure rfl) (T:=.type "int") (by decide) ?_
  have inj:Inj its.length (λi=>ks.getD i 0):=λi j hi hj e=>by
   have e:ks.getD i 0=ks.getD j 0:=e
   have e1:ks.getD i 0=ks[i]'(by omega):=by simp[show i < ks.length by omega]
   have e2:ks.getD j 0=ks[j]'(by omega):=by simp[show j < ks.length by omega]
   rw[e1,e2] at e
   exact gQ hnd _ _ e
  have hp:=RK (lt:=ltK λi=>ks.getD i 0) _ (Yz (n:=its.length) (by omega))
  have Oh:=JL.list hp (kJ inj h2)
  refine Z8 (lt:=ltK λi=>ks.getD i 0) (n:=its.length) (λi j C hi hj hC=>?_) _ (Yz (by omega)) ?_
  ·have qm:∀i,i < its.length->∃(x:Addr) (ox:Obj) (ws:Array Value) (n:Nat),its.getD i Value.none=.ref x/\h'.get? x=some ox/\ox.data=.seq ws n/\(∃a b c t1 t2 t3,ws.toList=[Value.int a t1,Value.int b t2,Value.int c t3]/\C3 a b c (ks.getD i 0))/\∀y∈ws.toList,∃a t,y=Value.int a t:=λi hi=>by
    have hvi:i < vs.length:=by omega
    obtain⟨u,hu,ru⟩:=rv.get (x:=vs[i]) (i:=i) (by simp[hvi])
    obtain⟨tp,ka,kb,kc,e,hq',hC3⟩:=YL V.non (0:Int) hK hvi
    have hq':SqT X.K H tp (([ka,kb,kc]:List Int).map V.int):=hq'
    have ev:vs.getD i V.non=vs[i]:=by simp[hvi]
    rw[ev] at e
    rw[e] at ru
    cases ru
    obtain⟨ws,rw',⟨o,ho,hc,n,hd⟩,_⟩:=I.tuple hq'
    have go:∀{ns:List Int} {ws:List Value},Vals (ns.map V.int) ws->∀y∈ws,∃a t,y=Value.int a t:=by
     intro ns
     induction ns with
     | nil=>intro ws r;cases r;exact λy hy=>nomatch hy
     | cons n0 nr ih=>
      intro ws r
      cases r with
      | cons r0 rr=>
       intro y hy
       rcases QbS.mp hy with rfl | hy
       ·obtain⟨t,e⟩:=r0;exact⟨_,_,e⟩
       ·exact ih rr y hy
    refine⟨tp,o,ws.toArray,n,?_,kp tp o (nl tp ?_) ho,hd,?_,λy hy=>go rw' y (by simpa using hy)⟩
    ·rw[Qah,hu];rfl
    ·rcases hq' with (z |⟨_,z⟩) |⟨_,_,_,z,_⟩
     ·exact .inl (by rw[z];exact λz=>nomatch z)
     ·exact .inl (by rw[z];exact λz=>nomatch z)
     ·exact .inr ⟨_,I.mod.kin _ _ z⟩
    ·cases rw' with
     | cons r0 rr=>
      cases rr with
      | cons r1 rr=>
       cases rr with
       | cons r2 rr=>
        cases rr
        obtain⟨t0,e0⟩:=r0
        obtain⟨t1,e1⟩:=r1
        obtain⟨t2,e2⟩:=r2
        exact⟨ka,kb,kc,t0,t1,t2,by rw[e0,e1,e2],hC3⟩
   obtain⟨x,ox,wx,nx,ex,hx,dx,⟨xa,xb,xc,x1,x2,x3,fx,cx⟩,ix⟩:=qm i hi
   obtain⟨y,oy,wy,ny,ey,hy,dy,⟨ya,yb,yc,y1,y2,y3,fy,cy⟩,iy⟩:=qm j hj
   unfold PySem.W.kas_ask
   rw[ex,ey]
   refine PySem.W.kat_lt hx dx hy dy ?_
   by_cases ne:i=j
   ·subst ne
    rw[ex] at ey
    cases ey
    rw[hx] at hy
    cases hy
    rw[dx] at dy
    cases dy
    have e0:ltK (λi=>ks.getD i 0) i i=false:=QbC (Int.lt_irrefl _)
    rw[e0] at hC
    have e1:decide (wx.size < wx.size)=false:=QbC (QbV _)
    rw[e1]
    exact wJ hC _ ix 0
   ·rw[fx,fy]
    exact BU cx cy (λz=>ne (inj i j hi hj z)) hC
  ·refine PySem.W.KasFin.intro F' N' (.head λq hq=>Qcc (hD q hq)) λh2' c F2 N2=>?_
   generalize Eo (ltK λi=>ks.getD i 0) (kas_sort its.length)=pp at hp Oh N2 ⊢
   have kp2:∀b o,b≠X.env.locals->s.heap.get? b=some o->h2'.get? b=some o:=λb o hb e=>(N2 (b,o) (QaA _ (M8 hb (Att.Kz _ _) e))).1
   obtain⟨oD,DL,_⟩:=N2 (D,_) (QaN ..)
   have nD:∀b o,s.heap.get? b=some o->b≠D:=λb o e z=>by
    by_cases hb:b=X.env.locals
    ·exact DL (by rw[<-z];exact hb)
    ·have:=hD (b,o) (M8 hb (Att.Kz _ _) e)
     rw[z] at this
     exact QbV _ this
   have hDn:H D=none:=by
    cases e:H D with
    | none=>rfl
    | some v=>
     obtain⟨o,ho⟩:=(I.hok D v e).there
     exact absurd rfl (nD D o ho)
   have tr:∀(o:HO) b u,H b=some u->(upd H D o) b=some u:=λo b u e=>by rw[Al (Av e hDn)];exact e
   have hmem:∀i∈pp.toList,i < vs.length:=λi hi=>by rw[hlen];exact QbQ.mp (hp.mem_iff.mp hi)
   have rv2:Vals (pp.toList.map λi=>vs.getD i .non) (pp.toList.map λi=>its.getD i Value.none):=Vd V.non Value.none rv hmem
   have pm:(pp.toList.map λi=>vs.getD i .non).Perm vs:=by
    have:=hp.map λi=>vs.getD i V.non
    rw[<-hlen,range_getD] at this
    exact this
   have I2:Inv X pins σ (upd H D (.lst (pp.toList.map λi=>vs.getD i .non))) { s with heap:=h2' }:=by
    refine I.step (h':=h2') (g':=s.gens) (d':=s.drawn) (t':=s.toks) (ch:=[]) (λb hb=>absurd hb (by simp)) (λb u hb _ _ e _=>kp2 b u hb e) (λb u hb _ _ e _=>⟨u.slots,kp2 b u hb e⟩) (λb u _ e n=>by rw[Al (nD b u e)];exact n)
     (λb u _ e=>?_) (λb ys e=>tr _ _ _ e) (λb u v e=>tr _ _ _ e) (λb ps e=>⟨#[],by rw[tr _ _ _ e];simp⟩) (λm' hm'=>by rw[tD hm' hn];exact F2.ns) (λb u e=>?_) I.bare
    ·by_cases hb:b=X.env.locals
     ·obtain⟨o,_,_,ho,_⟩:=F2.ns
      exact⟨o,by rw[hb];exact ho⟩
     ·exact⟨u,kp2 b u hb e⟩
    ·by_cases hb:b=D
     ·subst hb
      rw[Ac] at e
      cases e
      exact⟨by rw[pm.length_eq];exact Qcf (Ao (by omega)),_,c,rv2,oD⟩
     ·rw[Al hb] at e
      refine (I.hok b u e).stay (λx v hx e1=>kp2 x v ?_ e1) (λx e1=>tr _ _ _ e1) λx ys e1=>tr _ _ _ e1
      intro z
      rcases hx with hx | hx
      ·rw[<-hx,z,I.free] at e;cases e
      ·rw[z,I.free] at hx;cases hx
   exact⟨.ref D,_,I2,rfl,q _ D (by rw[hlen];exact hp) Oh hDn⟩
 ·refine WK pl.isList (by omega) λD h' c hD oD kp=>?_
  refine⟨.ref D,_,I.laid (t':=s.toks) (o:=.lst vs) kp hD ?_,rfl,?_⟩
  ·exact⟨Qcf (Ao (by omega)),its,c,rv,oD⟩
  ·have z:=q (List.range vs.length) D (List.Perm.refl _) (by
    rw[hkl,range_getD]
    match ks,(show ks.length < 2 by omega) with
    | [],_=>exact List.Pairwise.nil
    | [k],_=>exact List.pairwise_singleton _ _) (I.hok.fresh hD)
   rw[range_getD] at z
   exact z
end L2
namespace K07
open PySem L2
def top (i:Nat):Stmt:=PySem.Challenge.pw_warnloop_k07_stretches_kept.main.body.getD i (.Pass ⟨0,0,0,0⟩)
theorem Bl:bootBuiltins "isinstance"=some (.builtin "isinstance"):=by trivial
theorem jF:bootBuiltins "int"=some (.type "int"):=by trivial
theorem ux:bootBuiltins "bool"=some (.type "bool"):=by trivial
theorem JB:bootBuiltins "tuple"=some (.type "tuple"):=by trivial
theorem UW:bootBuiltins "list"=some (.type "list"):=by trivial
theorem yx:bootBuiltins "str"=some (.type "str"):=by trivial
theorem CW:bootBuiltins "len"=some (.builtin "len"):=by trivial
theorem Kh:bootBuiltins "all"=some (.builtin "all"):=by trivial
theorem jG:bootBuiltins "abs"=some (.builtin "abs"):=by trivial
theorem Yu:bootBuiltins "max"=some (.builtin "max"):=by trivial
theorem Vq:bootBuiltins "sorted"=some (.builtin "sorted"):=by trivial
theorem jE:bootBuiltins "min"=some (.builtin "min"):=by trivial
theorem uw:bootBuiltins "dict"=some (.type "dict"):=by trivial
structure Nm (mg:Str->Option Value):Prop where
 isinstance:mg "isinstance"=none
 int:mg "int"=none
 bool:mg "bool"=none
 tuple:mg "tuple"=none
 list:mg "list"=none
 str:mg "str"=none
 len:mg "len"=none
 all:mg "all"=none
 abs:mg "abs"=none
 max:mg "max"=none
 min:mg "min"=none
 range:mg "range"=none
 sorted:mg "sorted"=none
 any:mg "any"=none
 sum:mg "sum"=none
 enumerate:mg "enumerate"=none
 zip:mg "zip"=none
 reversed:mg "reversed"=none
 dict:mg "dict"=none
 ord:mg "ord"=none
abbrev Ue:Stmt:=top 52
abbrev Nu:List Str:=["_law_script","_law_k"]
theorem Rp:Ay ["_law_script","_law_k","_law_cell"] Nu (Aj Ue):=⟨rfl,rfl,rfl,by trivial,rfl,by trivial,by trivial⟩
abbrev Rq:Stmt:=top 53
abbrev Ft:List Str:=["_law_bag_here","_law_many"]
theorem Ih:Ay ["_law_bag_here","_law_many","_law_digit","_law_primes","_law_step","_law_base","_law_found"] Ft (Aj Rq):=⟨rfl,rfl,rfl,by trivial,rfl,by trivial,by trivial⟩
theorem wR (v:V):isW v=(isI v&&!isB v):=by cases v <;> rfl
def Bp (H:Hp) (b:Addr) (n:Nat):Prop:=∃x y z:Int,H b=some (.lst [.int x,.int y,.int z])/\0<=x/\0<=y/\y<=4294967296/\0<=z/\z<=n
theorem Bp.same {H H':Hp} {b:Addr} {n:Nat} (h:Bp H b n) (s:Same H H'):Bp H' b n:=by
 obtain⟨x,y,z,e,r⟩:=h
 exact⟨x,y,z,s _ _ e,r⟩
theorem Bp.mono {H:Hp} {b:Addr} {n m:Nat} (h:Bp H b n) (l:n<=m):Bp H b m:=by
 obtain⟨x,y,z,e,h1,h2,h3,h4,h5⟩:=h
 exact⟨x,y,z,e,h1,h2,h3,h4,by omega⟩
theorem Bp.nb {H:Hp} {b p:Addr} {n:Nat} (h:Bp H b n) (hp:H p=none):b≠p:=by obtain⟨_,_,_,e,_⟩:=h;exact Av e hp
theorem Bp.Ew {H:Hp} {b:Addr} {n:Nat} (h:Bp H b n):∀xs,H b≠some (.tup xs):=λxs z=>by obtain⟨_,_,_,e,_⟩:=h;rw[e] at z;cases z
theorem Bp.ex {H:Hp} {b:Addr} {n:Nat} (h:Bp H b n):∃o,H b=some o:=by obtain⟨_,_,_,e,_⟩:=h;exact⟨_,e⟩
theorem Bp.Cu {H H':Hp} {a b:Addr} {n:Nat} (h:Bp H b n) (s:Ah a H H') (ne:b≠a):Bp H' b n:=by
 obtain⟨x,y,z,e,r⟩:=h
 exact⟨x,y,z,s _ _ e ne,r⟩
theorem Ar {n:Nat} (h:n<=1000):n<=sizeLine:=Qcf (Ao h)
def qz (K:PySem.W.Frag):Sp:=λvs H Q _=>∃(a:Addr) (ns:List Int) (k:Int),vs=[.ref a,.int k]/\SqL K H a (ns.map V.int)/\ns.length<=63/\0<=k/\k<=100/\∀p o,H p=none->Bp (upd H p o) p 0->Q (.ref p) (upd H p o)
def K6:Sp:=λvs H Q _=>∃(b:Addr) (n:Nat) (m:Int),vs=[.ref b,.int m]/\Bp H b n/\n<=10000/\0 < m/\m < 1073741824/\∀r H',0<=r->r < m->Bp H' b (n+1)->Ah b H H'->Q (.int r) H'
def V2 (K:PySem.W.Frag):Sp:=λvs H Q _=>∃(a:Addr) (ns:List Int),vs=[.ref a]/\SqL K H a (ns.map V.int)/\ns.length<=63/\∀H',Q (.bl true) H'
theorem at7 {i:Int} (h0:0<=i) (h7:i < 7) {a b c d e f g:Int} (P:Int->Prop) (ha:P a) (hb:P b) (hc:P c) (hd:P d) (he:P e) (hf:P f) (hg:P g):∃p,atI [V.int a,.int b,.int c,.int d,.int e,.int f,.int g] i=some (.int p)/\P p:=by
 have:i=0\/i=1\/i=2\/i=3\/i=4\/i=5\/i=6:=by omega
 rcases this with rfl | rfl | rfl | rfl | rfl | rfl | rfl
 ·exact⟨_,rfl,ha⟩
 ·exact⟨_,rfl,hb⟩
 ·exact⟨_,rfl,hc⟩
 ·exact⟨_,rfl,hd⟩
 ·exact⟨_,rfl,he⟩
 ·exact⟨_,rfl,hf⟩
 ·exact⟨_,rfl,hg⟩
theorem yw {x:Int} {b:Bool}:dY x (if b=true then 1 else 0):=.inr (by cases b <;> exact⟨by decide,by decide⟩)
section
variable {P:Program} {w:World} {K:PySem.W.Frag} {mg:Str->Option Value} {base:Heap}
theorem mq (C:Code K mg "_law_bag" Ue Nu) (T:Nm mg):Good P w K mg base "_law_bag" 1 Nu (qz K):=by
 refine C.good Rp (λvs H Q E h=>?_) (λf cdv A outer s H vs Q E hr h=>?_)
 ·obtain⟨a,ns,k,rfl,_⟩:=h
  rfl
 obtain⟨a,ns,k,rfl,hS,h63,h0,h1,q⟩:=h
 refine⟨_,(Ag (Bb (i:=2) Rp.nd rfl (Or.inl rfl) (Bd Cj (Bd Cj (Bd GK (Bd GK Ae (pv 1)) (pv 1)) (Bd GK Ae (pv 1))) Ae))
 (Ag (BP (Bq V7 (pv 1) (Aw Bs rfl T.len CW (Aa (pv 0) Ab)) (BJ _)) (Ai (Bb (i:=2) Rp.nd rfl (Or.inl rfl) (Bo Cv (pv 0) (pv 1) (λ_ _=>rfl)))) BR)
 (Ai (Ba (BL (Aa (Bd GK (Aw Yt rfl T.abs jG (Aa (pv 2) Ab)) (Ed jC rfl T.int jF (Aa (Js zu (Aw Yt rfl T.abs jG (Aa (pv 2) Ab)) (Bd Xl Ae Ae) (BJ _)) Ab))) (Aa (Bd Cj (Bd Kc (pv 2) Ae) (Bd GK Ae (pv 1))) (Aa Ae Ab)))))))),?_⟩
 refine⟨_,rfl,_,_,rfl,rfl,.inl ⟨by decide,by decide⟩,_,rfl,_,_,rfl,rfl,.inr ⟨by omega,by omega⟩,_,rfl,_,_,rfl,rfl,.inl ⟨by decide,by decide⟩,_,_,rfl,rfl,_,_,rfl,rfl,?_⟩
 refine⟨_,rfl,_,rfl,a,_,rfl,.inl hS,_,_,rfl,rfl,_,rfl,?_⟩
 have hl:(ns.map V.int).length=ns.length:=Qbx _
 have fin:∀(c:Int) (p:Addr),H p=none->Q (.ref p) (upd H p (.lst [.int ((if c < 0 then -c else c)*(if decide ((10:Int) ^ (18:Int).toNat<=(if c < 0 then -c else c))=true then 1 else 0)),.int (c % 2147483647+37*k),.int 0])):=λc p hp=>by
  refine q p _ hp ⟨_,_,_,Ac,?_,?_,?_,by omega,by omega⟩
  ·refine Int.mul_nonneg ?_ ?_
   ·split <;> omega
   ·split <;> omega
  ·have:=QbK c (show (2147483647:Int)≠0 by decide)
   omega
  ·have:=QaX c (show (0:Int) < 2147483647 by decide)
   omega
 refine Fv (λc1=>?_) (λc1=>?_)
 ·have c':k < (((ns.map V.int).length:Nat):Int):=Qbi c1
  rw[hl] at c'
  have hk:k.toNat < ns.length:=by omega
  have hat:atI (ns.map V.int) ((k.toNat:Nat):Int)=some (.int ns[k.toNat]):=FW (by rw[Qbc];simp[hk])
  rw[Int.toNat_of_nonneg h0] at hat
  refine⟨_,rfl,_,rfl,a,_,_,_,rfl,rfl,hS,hat,?_⟩
  exact⟨_,rfl,_,rfl,_,rfl,_,rfl,_,_,rfl,rfl,⟨by decide,by decide,by decide⟩,_,_,rfl,rfl,.inr ⟨_,rfl,_,_,rfl,rfl,yw,_,rfl,_,_,rfl,rfl,(by show (0:Int) < 2147483647;decide),_,rfl,_,_,rfl,rfl,.inl ⟨by decide,by decide⟩,_,_,rfl,rfl,
   (by show 3<=sizeLine;decide),λl hl'=>fin _ l hl'⟩⟩
 ·exact⟨_,rfl,_,rfl,_,rfl,_,rfl,_,_,rfl,rfl,⟨by decide,by decide,by decide⟩,_,_,rfl,rfl,.inr ⟨_,rfl,_,_,rfl,rfl,yw,_,rfl,_,_,rfl,rfl,(by show (0:Int) < 2147483647;decide),_,rfl,_,_,rfl,rfl,.inl ⟨by decide,by decide⟩,_,_,rfl,rfl,
   (by show 3<=sizeLine;decide),λl hl'=>fin _ l hl'⟩⟩
theorem gK (C:Code K mg "_law_take" Rq Ft) (T:Nm mg):Good P w K mg base "_law_take" 1 Ft K6:=by
 refine C.good Ih (λvs H Q E h=>?_) (λf cdv A outer s H vs Q E hr h=>?_)
 ·obtain⟨b,n,m,rfl,_⟩:=h
  rfl
 obtain⟨b,n,m,rfl,⟨x,y,z,hb,x0,y0,y1,z0,z1⟩,hn,m0,m1,q⟩:=h
 refine⟨_,(Ag (BP (Bq V8 (Bo Cv (pv 0) Ae (λ_ _=>rfl)) Ae (BJ _)) (Ag (Bb (i:=2) Ih.nd rfl (Or.inl rfl) (Bd Kc (Bo Cv (pv 0) Ae (λ_ _=>rfl)) (pv 1)))
 (Ag (JR (Bd Ul (Bo Cv (pv 0) Ae (λ_ _=>rfl)) (pv 1)) (Xi (pv 0) Ae set_list))
 (Ai (Ba (pv 2))))) BR)
 (Ag (Bb (i:=3) Ih.nd rfl (Or.inl rfl) (@Bh _ _ _ _ _ (@Aa _ _ _ _ _ (@Ae _ _ _ _) (@Aa _ _ _ _ _ (@Ae _ _ _ _) (@Aa _ _ _ _ _ (@Ae _ _ _ _) (@Aa _ _ _ _ _ (@Ae _ _ _ _) (@Aa _ _ _ _ _ (@Ae _ _ _ _) (@Aa _ _ _ _ _ (@Ae _ _ _ _) (@Aa _ _ _ _ _ (@Ae _ _ _ _) (@Ab _) Bc) Bc) Bc) Bc) Bc) Bc) Bc)))
 (Ag (JR (Bd Cj (Bo Cv (pv 0) Ae (λ_ _=>rfl)) Ae) (Xi (pv 0) Ae set_list))
 (Ag (Bb (i:=4) Ih.nd rfl (Or.inl rfl) (Bo Cv (pv 0) Ae (λ_ _=>rfl)))
 (Ag (Bb (i:=5) Ih.nd rfl (Or.inl rfl) (Bd Cj (Bd Cj (Bd GK (Bo Cv (pv 0) Ae (λ_ _=>rfl)) (Bd Cj (Bd GK Ae (pv 4)) Ae)) (Bd GK (Bd GK Ae (pv 4)) (pv 4))) Ae))
 (Ag (Bb (i:=6) Ih.nd rfl (Or.inl rfl) (Bd Kc (Bd Xl (pv 5) Ae) (Bo Cm (pv 3) (Bd Kc (pv 4) Ae) (λ_ _=>rfl))))
 (Ai (Ba (Bd Kc (Bd Ul (Bd Kc (Bd GK (pv 6) (Bd Cj (Bd Ul (pv 6) Ae) Ae)) (Bo Cm (pv 3) (Bd Kc (Bd Cj (pv 4) Ae) Ae) (λ_ _=>rfl))) Ae) (pv 1)))))))))),?_⟩
 refine⟨_,rfl,b,_,_,_,rfl,rfl,SqL.of hb,rfl,_,_,rfl,rfl,_,rfl,?_⟩
 refine Fv (λc1=>?_) (λc1=>?_)
 ·have c':0 < x:=Qbi c1
  refine⟨_,rfl,b,_,_,_,rfl,rfl,SqL.of hb,rfl,_,rfl,_,_,rfl,rfl,m0,?_⟩
  refine⟨_,rfl,b,_,_,_,rfl,rfl,SqL.of hb,rfl,_,rfl,_,_,rfl,rfl,⟨m0,m1⟩,_,rfl,b,_,_,_,rfl,rfl,hb,rfl,?_⟩
  exact⟨_,rfl,q _ _ (QbK x (by omega)) (QaX x m0) ⟨x / m,y,z,Ac,Int.ediv_nonneg x0 (by omega),y0,y1,z0,by omega⟩ Ah.upd⟩
 ·refine⟨(by show 7<=sizeLine;decide),λtp htp=>?_⟩
  have nbt:b≠tp:=Av hb htp
  have hb1:∀o,(upd H tp o) b=some (.lst [.int x,.int y,.int z]):=λo=>by rw[Al nbt];exact hb
  have ht1:∀o u,(upd (upd H tp o) b u) tp=some o:=λo u=>by rw[Al nbt.symm,Ac]
  refine⟨_,rfl,b,_,_,_,rfl,rfl,SqL.of (hb1 _),rfl,_,_,rfl,rfl,_,rfl,b,_,_,_,rfl,rfl,hb1 _,rfl,?_⟩
  refine⟨_,rfl,b,_,_,_,rfl,rfl,SqL.of Ac,rfl,?_⟩
  have s0:0<=z+1:=by omega
  have s1:z+1<=10001:=by omega
  refine⟨_,rfl,b,_,_,_,rfl,rfl,SqL.of Ac,rfl,_,rfl,_,_,rfl,rfl,.inl ⟨by decide,by decide⟩,_,_,rfl,rfl,_,_,rfl,rfl,.inl ⟨by omega,by omega⟩,_,rfl,_,_,rfl,rfl,.inl ⟨by decide,by decide⟩,_,rfl,_,_,rfl,rfl,.inr ⟨by omega,by omega⟩,
   _,_,rfl,rfl,_,_,rfl,rfl,?_⟩
  have hbase:(y*(2*(z+1)+1)+6007*(z+1)*(z+1)+29).natAbs < 2 ^ 64:=by
   have h1:0<=y*(2*(z+1)+1):=Int.mul_nonneg y0 (by omega)
   have h2:y*(2*(z+1)+1)<=4294967296*20003:=Int.mul_le_mul y1 (by omega) (by omega) (by omega)
   have h3:0<=6007*(z+1)*(z+1):=Int.mul_nonneg (by omega) s0
   have h4:6007*(z+1)*(z+1)<=(6007*10001)*10001:=Int.mul_le_mul (by omega) s1 s0 (by omega)
   omega
  obtain⟨p1,e1,p10,p11⟩:=at7 (i:=(z+1) % 7) (QbK _ (by decide)) (QaX _ (by decide)) (a:=2147483629) (b:=2147483587) (c:=2147483579) (d:=2147483563) (e:=2147483549) (f:=2147483543) (g:=2147483497)
   (λp=>0 < p/\p < 2147483648) (by decide) (by decide) (by decide) (by decide) (by decide) (by decide) (by decide)
  obtain⟨p2,e2,p20,p21⟩:=at7 (i:=(z+1+3) % 7) (QbK _ (by decide)) (QaX _ (by decide)) (a:=2147483629) (b:=2147483587) (c:=2147483579) (d:=2147483563) (e:=2147483549) (f:=2147483543) (g:=2147483497)
   (λp=>0 < p/\p < 2147483648) (by decide) (by decide) (by decide) (by decide) (by decide) (by decide) (by decide)
  refine⟨_,rfl,_,_,rfl,rfl,⟨by decide,by decide,hbase⟩,_,rfl,_,rfl,_,_,rfl,rfl,(by show (0:Int) < 7;decide),tp,_,_,_,rfl,rfl,SqT.of (ht1 _ _),e1,_,_,rfl,rfl,p10,?_⟩
  generalize hF:(y*(2*(z+1)+1)+6007*(z+1)*(z+1)+29) ^ (3:Int).toNat % p1=F
  have F0:0<=F:=by rw[<-hF];exact QbK _ (by omega)
  have F1:F < p1:=by rw[<-hF];exact QaX _ p10
  refine⟨_,rfl,_,rfl,_,_,rfl,rfl,⟨by decide,by decide⟩,_,_,rfl,rfl,_,_,rfl,rfl,.inl ⟨by omega,by omega⟩,_,rfl,_,rfl,_,_,rfl,rfl,_,_,rfl,rfl,(by show (0:Int) < 7;decide),tp,_,_,_,rfl,rfl,SqT.of (ht1 _ _),e2,_,_,rfl,rfl,p20,
   _,_,rfl,rfl,⟨by decide,by decide⟩,_,rfl,_,_,rfl,rfl,m0,?_⟩
  refine q _ _ (QbK _ (by omega)) (QaX _ m0) ⟨x,y,z+1,Ac,x0,y0,y1,s0,by omega⟩ λc o e nc=>?_
  rw[Al nc,Al (Av e htp)]
  exact e
end
abbrev N6:Stmt:=top 54
abbrev Lk:List Str:=["_law_bag_here"]
theorem Vb:Ay ["_law_bag_here","_law_letters"] Lk (Aj N6):=⟨rfl,rfl,rfl,by trivial,rfl,by trivial,by trivial⟩
abbrev Mi:Stmt:=top 55
abbrev JW:List Str:=["_law_bag_here","_law_many"]
theorem Iz:Ay ["_law_bag_here","_law_many","_law_found","_law_place","_law_name_here"] JW (Aj Mi):=⟨rfl,rfl,rfl,by trivial,rfl,by trivial,by trivial⟩
theorem tY {K:PySem.W.Frag} {H:Hp} {z:Str} {Q:VK} (q:Q (.bl true) H):M5 K [.str z,.ty "str"] H Q:=by
 unfold M5
 exact⟨_,_,_,_,rfl,.str z,by rfl,q⟩
def abc:Str:="abcdefghijklmnopqrstuvwxyz"
def okS (z:Str):Prop:=∀c∈z.cps.toList,c∈abc.cps.toList
theorem okS.append {x y:Str} (h:okS x) (h':okS y):okS (x++y):=by
 intro c hc
 have:c∈x.cps.toList++y.cps.toList:=by
  have e:(x++y).cps=x.cps++y.cps:=rfl
  rw[e,Array.toList_append] at hc
  exact hc
 rcases Qbz.mp this with z | z
 ·exact h c z
 ·exact h' c z
theorem okS.slice {x:Str} (h:okS x) (l u:Option Int):okS (Txt.slice x l u):=by
 unfold Txt.slice
 split
 ·exact h
 ·intro c hc
  have hc':c∈(Builtin.Str.strSliceIndices l u 1 x.length).filterMap (x.cps[·]?):=by simpa using hc
  obtain⟨i,_,e⟩:=List.mem_filterMap.mp hc'
  exact h c (Array.mem_toList_iff.mpr (Array.mem_of_getElem? e))
theorem okS.join {sep:Str} (hs:okS sep):∀{ts:List Str},(∀t∈ts,okS t)->okS (Str.join sep ts)
 | [],_=>λc hc=>by cases hc
 | [x],h=>h x (QaN ..)
 | x::y::r,h=>((h x (QaN ..)).append hs).append (okS.join hs (ts:=y::r) λt ht=>h t (QaA _ ht))
theorem QT:abc.cps.toList.length=26:=by trivial
theorem yF:abc.cps.toList.Nodup:=by trivial
theorem jJ:okS abc:=λc hc=>hc
theorem X4:∀ts:List Str,(Str.join "" ts).length=(ts.map (·.length)).sum
 | []=>rfl
 | [x]=>by show x.length=_;simp
 | x::y::r=>by
  show ((x++"")++Str.join "" (y::r)).length=_
  rw[Str.length_append,Str.length_append,X4 (y::r),QbT (a:=x),List.sum_cons]
  have:(Str.ofString "").length=0:=by trivial
  rw[this]
  omega
theorem CY (n:Nat):(Builtin.Str.strSliceIndices (some 1) none 1 n).length<=n - 1:=by
 unfold Builtin.Str.strSliceIndices sliceRange
 simp only[show (1:Int) > 0 by decide,if_true,Qbx,Qbj,show ¬((1:Int) < 0) by decide,if_false]
 split
 ·rw[Int.ediv_one];omega
 ·exact Qcj _
theorem fL (z:Str):(Txt.slice z (some 1) none).length<=z.length - 1:=by
 have h:=CY z.length
 unfold Txt.slice
 split
 ·rename_i hc
  rw[Qbu] at hc
  have:=eq_of_beq hc.2
  omega
 ·show (List.filterMap _ _).toArray.size<=_
  rw[Qbb]
  exact Qcd (List.length_filterMap_le _ _) h
theorem yG {r:Int} (h0:0<=r) (h1:r < 26):∃c,atI abc.cps.toList r=some c/\okS ⟨#[c]⟩:=by
 have hl:r.toNat < abc.cps.toList.length:=by rw[QT];omega
 refine⟨abc.cps.toList[r.toNat],?_,λc hc=>?_⟩
 ·have:=FW (xs:=abc.cps.toList) (j:=r.toNat) (Qal hl)
  rw[Int.toNat_of_nonneg h0] at this
  exact this
 ·have:c=abc.cps.toList[r.toNat]:=by simpa using hc
  rw[this]
  exact jJ _ (List.getElem_mem hl)
theorem Wn:∀{ys:List Str},(∀y∈ys,y.length=1)->(ys.map (·.length)).sum=ys.length
 | [],_=>rfl
 | y::r,h=>by
  rw[QbT,List.sum_cons,h y (QaN ..),Wn (ys:=r) λt ht=>h t (QaA _ ht),Qbq]
  omega
theorem Vl (ys:List Str):(ys.map V.str).all JH=true:=by
 rw[List.all_map,List.all_eq_true]
 intro _ _
 rfl
theorem Oe (z:Str):∀ys:List Str,inV (.str z) (ys.map V.str)=true ↔ z∈ys
 | []=>by constructor <;> intro h <;> cases h
 | y::r=>by
  have ih:=Oe z r
  unfold inV at ih ⊢
  rw[QbT,QbZ,Bool.or_eq_true,ih,QbS]
  have:eqV (.str y) (.str z)=true ↔ z=y:=by
   show (y == z)=true ↔ z=y
   rw[beq_iff_eq]
   exact⟨λh=>h.symm,λh=>h.symm⟩
  rw[this]
theorem Vg:∀{l m:List Str},l.Nodup->(∀x∈l,x∈m)->l.length<=m.length
 | [],_,_,_=>Qcj _
 | a::r,m,nd,h=>by
  have ha:=h a (QaN ..)
  obtain⟨n1,n2⟩:=QbE.mp nd
  have:=Vg (l:=r) (m:=m.erase a) n2 λx hx=>(List.mem_erase_of_ne (λe=>n1 (by rw[<-e];exact hx))).mpr (h x (QaA _ hx))
  rw[List.length_erase_of_mem ha] at this
  have hp:=List.length_pos_of_mem ha
  rw[Qbq]
  omega
theorem Y9 (rest:Str) {ys:List Str} (h:ys.length < 26):∃(i c:Nat),abc.cps[i]?=some c/\((⟨#[c]⟩ : Str)++rest)∉ys:=by
 refine Classical.byContradiction λhn=>?_
 have hall:∀x∈abc.cps.toList.map (λc=>(⟨#[c]⟩ : Str)++rest),x∈ys:=λx hx=>by
  obtain⟨c,hc,rfl⟩:=Qca.mp hx
  obtain⟨i,hi⟩:=QaC hc
  refine Classical.byContradiction λhm=>hn ⟨i,c,by simpa using hi,hm⟩
 have nd:(abc.cps.toList.map (λc=>(⟨#[c]⟩ : Str)++rest)).Nodup:=by
  refine Qbh.mpr (yF.imp λ{c d} hne e=>hne ?_)
  have e1:(#[c]++rest.cps:Array Nat)=#[d]++rest.cps:=congrArg Str.cps e
  have e2:=congrArg Array.toList e1
  rw[Array.toList_append,Array.toList_append] at e2
  injection e2
 have:=Vg nd hall
 rw[Qbx,QT] at this
 omega
theorem Qcq {α : Type} {l:List α} {i:Nat} {x:α} (h:l[i]?=some x):l.take (i+1)=l.take i++[x]:=by rw[List.take_add_one,h];rfl
theorem dD {X:Cx} {K:PySem.W.Frag} (h:X.K=K) (hc:X.calm=true):Dy X (.builtin "max") (λxs H Q=>∃(p:Addr) (ns:List Int),xs=[.ref p]/\SqL K H p (ns.map V.int)/\0 < ns.length/\∀M,M∈ns->(∀a,a∈ns->a<=M)->Q (.int M) H):=h ▸ Vp hc
theorem Ah.Ku {a b:Addr} {H HH H':Hp} (s:Ah b H HH) (t:Ah a HH H') (f:H a=none):Ah b H H':=λc o e n=>t _ _ (s _ _ e n) λz=>by rw[z,f] at e;cases e
theorem FC {i:Int} (h0:0<=i) (h6:i < 6) {a b c d e f:Int} (P:Int->Prop) (ha:P a) (hb:P b) (hc:P c) (hd:P d) (he:P e) (hf:P f):∃p,atI [V.int a,.int b,.int c,.int d,.int e,.int f] i=some (.int p)/\P p:=by
 have:i=0\/i=1\/i=2\/i=3\/i=4\/i=5:=by omega
 rcases this with rfl | rfl | rfl | rfl | rfl | rfl
 ·exact⟨_,rfl,ha⟩
 ·exact⟨_,rfl,hb⟩
 ·exact⟨_,rfl,hc⟩
 ·exact⟨_,rfl,hd⟩
 ·exact⟨_,rfl,he⟩
 ·exact⟨_,rfl,hf⟩
def fG:Sp:=λvs H Q _=>∃(b:Addr) (n:Nat),vs=[.ref b]/\Bp H b n/\n<=9000/\∀z H',1<=z.length->z.length<=8->okS z->Bp H' b (n+9)->Ah b H H'->Q (.str z) H'
def ZJ:Sp:=λvs H Q _=>∃(b:Addr) (n many:Nat),vs=[.ref b,.int many]/\Bp H b n/\n<=8000/\many<=20 /\
 ∀l (ys:List Str) H',H l=none->ys.length=many->(∀y∈ys,(1<=y.length/\y.length<=8)/\okS y)->ys.Nodup->H' l=some (.lst (ys.map V.str))->Bp H' b (n+9*many)->Ah b H H'->Q (.ref l) H'
section
variable {P:Program} {w:World} {K:PySem.W.Frag} {mg:Str->Option Value} {base:Heap}
theorem sy (C:Code K mg "_law_name" N6 Lk) (T:Nm mg) (Bj:Good P w K mg base "_law_take" 1 Ft K6):Good P w K mg base "_law_name" 2 Lk fG:=by
 refine C.good Vb (λvs H Q E h=>?_) (λf cdv A outer s H vs Q E hr h=>?_)
 ·obtain⟨b,n,rfl,_⟩:=h
  rfl
 obtain⟨b,n,rfl,hb,hn,q⟩:=h
 refine⟨_,(Ag (Bb (i:=1) Vb.nd rfl (Or.inr rfl) Bf)
 (Ai (Ba (CG PySem.F.plainAttrs_str PySem.F.slot_str_join PySem.F.type_str_join tV Bf (Aa (Ck (N':=["_law_place","_law_letters","_law_bag_here"]) rfl (Bk.of (src:=[none,some 1,some 0]) (Aj N6) ["_law_bag_here","_law_letters"] rfl rfl rfl (by trivial) (by trivial) (by trivial) rfl (by trivial)) (Cq rfl T.range (Aa (Bd Cj Ae (Ax Bj hr (Aa (pv 0) (Aa Ae Ab)))) Ab)) (λ_ _ _ _=>(Ak (i:=0) (show List.Nodup (["_law_place","_law_letters","_law_bag_here"]:List Str) by trivial) rfl (Or.inl rfl))) (λ_ _ _ _=>CJ) (λ_ _ _ _=>(Bo wO (pv 1) (Ax Bj hr (Aa (pv 2) (Aa Ae Ab))) (λ_ _=>rfl)))) Ab))))),?_⟩
 refine⟨rfl,_,rfl,b,n,8,rfl,hb,by omega,by decide,by decide,λr H1 r0 r1 hb1 sb1=>⟨_,_,rfl,rfl,_,rfl,by omega,by omega,λl hl=>?_⟩⟩
 have nbl:b≠l:=hb1.nb hl
 have fl:H l=none:=sb1.free hb1.ex hl
 refine KH (λi σ HH=>∃(u:Option V) (ys:List Str),σ=[u,some (.str abc),some (.ref b)]/\HH l=some (.lst (ys.map V.str))/\ys.length=i/\(∀y∈ys,y.length=1/\okS y)/\Bp HH b (n+1+i)/\Ah b H HH)
  ⟨none,[],rfl,Ac,rfl,(λy hy=>by cases hy),hb1.same (Af hl _),sb1.trans (Ah.of (Af hl _))⟩ (λi σ HH hi h=>?_) (fun σ HH h=>?_)
 ·obtain⟨u,ys,rfl,e1,e2,e3,e4,e5⟩:=h
  refine⟨_,rfl,_,rfl,b,_,26,rfl,e4,by omega,by decide,by decide,λr' HA r0' r1' hbA sA=>?_⟩
  obtain⟨c,ec,oc⟩:=yG r0' r1'
  have eA:=sA _ _ e1 nbl.symm
  refine⟨_,_,c,rfl,rfl,Ar (by show abc.cps.size<=1000;rw[<-QaH,QT];decide),ec,_,eA,Ao (by rw[Qbx];omega),_,ys++[⟨#[c]⟩],rfl,?_,?_,λy hy=>?_,hbA.Cu Ah.upd nbl,?_⟩
  ·rw[Ac,Qby];rfl
  ·rw[QaM,e2];rfl
  ·rcases Qbz.mp hy with h | h
   ·exact e3 y h
   ·have:y=⟨#[c]⟩:=by simpa using h
    rw[this]
    exact⟨rfl,oc⟩
  ·exact λc o e ne=>Ah.upd _ _ (sA _ _ (e5 _ _ e ne) ne) λz=>by rw[z,fl] at e;cases e
 obtain⟨u,ys,rfl,e1,e2,e3,e4,e5⟩:=h
 have hs:=Wn λy hy=>(e3 y hy).1
 refine⟨_,l,ys,rfl,rfl,SqL.of e1,?_,?_⟩
 ·rw[hs]
  have:(Str.ofString "").length=0:=by trivial
  rw[this]
  omega
 ·have hj:=X4 ys
  rw[hs] at hj
  refine q _ HH ?_ ?_ ?_ (e4.mono (by omega)) e5
  ·show 1<=(Builtin.Str.glued _ ys).length
   rw[StrLaws.glued_eq_join]
   show 1<=(Str.join "" ys).length
   omega
  ·show (Builtin.Str.glued _ ys).length<=8
   rw[StrLaws.glued_eq_join]
   show (Str.join "" ys).length<=8
   omega
  ·show okS (Builtin.Str.glued _ ys)
   rw[StrLaws.glued_eq_join]
   exact okS.join (λc hc=>by cases hc) λy hy=>(e3 y hy).2
theorem lZ (C:Code K mg "_law_names" Mi JW) (T:Nm mg) (pH:Good P w K mg base "_law_name" 2 Lk fG):Good P w K mg base "_law_names" 3 JW ZJ:=by
 refine C.good Iz (λvs H Q E h=>?_) (λf cdv A outer s H vs Q E hr h=>?_)
 ·obtain⟨b,n,many,rfl,_⟩:=h
  rfl
 obtain⟨b,n,many,rfl,hb,hn,hm,q⟩:=h
 refine⟨_,(Ag (Bb (i:=2) Iz.nd rfl (Or.inr rfl) (BL Ab))
 (Ag (BW QbA rfl (Cq rfl T.range (Aa (pv 1) Ab)) (Ak (i:=3) Iz.nd rfl (Or.inl rfl))
 (Ag (Bb (i:=4) Iz.nd rfl (Or.inr rfl) (Ax pH hr (Aa (pv 0) Ab)))
 (Ag (BP (Bq PX (pv 4) (pv 2) (by with_unfolding_all rfl)) (Ai (Bb (i:=4) Iz.nd rfl (Or.inr rfl) (Bo Cv (Ck (N':=["_law_one","_law_name_here","_law_found"]) rfl (Bk.of (src:=[none,some 4,some 2]) (Aj Mi) ["_law_bag_here","_law_many","_law_found","_law_place","_law_name_here"] rfl rfl rfl (by trivial) (by trivial) (by trivial) rfl (by trivial)) (f9 Bf) (λ_ _ _ _=>(Ak (i:=0) (show List.Nodup (["_law_one","_law_name_here","_law_found"]:List Str) by trivial) rfl (Or.inl rfl))) (λ_ _ _ _=>(Li (Bq (O2 (K:=K) rfl) (Bd S6 (pv 0) (Jr fM (pv 1) (KQ Ae) KR)) (pv 2) (by with_unfolding_all rfl)))) (λ_ _ _ _=>(Bd S6 (pv 0) (Jr fM (pv 1) (KQ Ae) KR)))) Ae (λ_ _=>rfl)))) BR)
 (Ai (Bg (CG Qaq Qam Qan Cd (pv 2) (Aa (pv 4) Ab)))))))
 (Ai (Ba (pv 2))))),?_⟩
 refine⟨Ar (by show 0<=1000;decide),λlf hlf=>?_⟩
 have s1:=Af hlf (.lst [])
 have nbf:b≠lf:=hb.nb hlf
 refine⟨_,rfl,_,rfl,by omega,by omega,?_⟩
 rw[Qbe]
 refine Dl (λi σ HH=>∃u3 u4 ys,σ=[some (.ref b),some (.int many),some (.ref lf),u3,u4]/\HH lf=some (.lst (ys.map V.str))/\ys.length=i/\(∀y∈ys,(1<=y.length/\y.length<=8)/\okS y)/\Bp HH b (n+9*i)/\Ah b H HH/\ys.Nodup)
  ⟨_,_,[],rfl,Ac,rfl,(λy hy=>by cases hy),hb.same s1,Ah.of s1,QbO⟩ (λi σ HH hi h=>?_) (fun σ HH h=>?_)
 ·obtain⟨u3,u4,ys,rfl,e1,e2,e3,e4,e5,e6⟩:=h
  refine⟨_,rfl,b,_,rfl,e4,by omega,λz HA hz1 hz oz hbA sA=>?_⟩
  have eA:=sA _ _ e1 nbf.symm
  have s5:Ah b H HA:=e5.trans sA
  have fin:∀(y:Str) (HB:Hp),(1<=y.length/\y.length<=8)->okS y->y∉ys->HB lf=some (.lst (ys.map V.str))->Bp HB b (n+9*i+9)->Ah b H HB->∃(u3 u4:Option V) (ys':List Str),[some (V.ref b),some (.int many),some (.ref lf),some (.int (0+(i:Int))),some (.str y)]=[some (.ref b),some (.int many),some (.ref lf),u3,u4] /\
    upd HB lf (.lst (ys.map V.str++[.str y])) lf=some (.lst (ys'.map V.str))/\ys'.length=i+1/\(∀y∈ys',(1<=y.length/\y.length<=8)/\okS y)/\Bp (upd HB lf (.lst (ys.map V.str++[.str y]))) b (n+9*(i+1))/\Ah b H (upd HB lf (.lst (ys.map V.str++[.str y])))/\ys'.Nodup:=λy HB hy oy hny hB bB sB=>by
   refine⟨_,_,ys++[y],rfl,?_,?_,λx hx=>?_,(bB.Cu Ah.upd nbf).mono (by omega),Ah.Ku sB Ah.upd hlf,Z4 e6 hny⟩
   ·rw[Ac,Qby];rfl
   ·rw[QaM,e2];rfl
   ·rcases Qbz.mp hx with h | h
    ·exact e3 x h
    ·have:x=y:=by simpa using h
     rw[this]
     exact⟨hy,oy⟩
  refine⟨_,rfl,_,rfl,lf,_,rfl,.inl (SqL.of eA),rfl,Vl ys,_,rfl,Fv (λ_=>?_) (λhnz=>?_)⟩
  ·refine⟨_,rfl,λl2 hl2=>?_⟩
   have nfl:lf≠l2:=Av eA hl2
   have hsl:(Txt.slice z (some 1) none).length<=7:=Qcd (fL z) (by omega)
   have osl:=oz.slice (some 1) none
   refine Ym (λi σ HH=>∃(u:Option V) (ws:List Str),σ=[u,some (.str z),some (.ref lf)]/\HH=upd HA l2 (.lst (ws.map V.str))/\ws.length<=i/\(∀y∈ws,((1<=y.length/\y.length<=8)/\okS y)/\y∉ys)/\((∃j c,j < i/\abc.cps[j]?=some c/\((⟨#[c]⟩ : Str)++Txt.slice z (some 1) none)∉ys)->ws≠[]))
    ⟨none,[],rfl,rfl,Qci _,(λy hy=>by cases hy),λ⟨j,c,hj,_⟩=>absurd hj (QbI _)⟩ (λj c σ HH hc h=>?_) (fun σ HH h=>?_)
   ·obtain⟨u,ws,rfl,rfl,l1,l2',l3⟩:=h
    have hj:j < 26:=by
     have:=(Qaf.mp hc).1
     rw[<-QaH] at this
     have e:=QT
     unfold abc at e
     omega
    have oc:okS ⟨#[c]⟩:=λd hd=>by
     have:d=c:=by simpa using hd
     rw[this]
     exact jJ c (Array.mem_toList_iff.mpr (Array.mem_of_getElem? hc))
    have hlen:(⟨#[c]⟩ : Str).length+(Txt.slice z (some 1) none).length<=sizeLine:=by
     show 1+_<=sizeLine
     rw[Qcm]
     omega
    have hzl:z.length<=sizeLine:=by rw[Qcm];omega
    have eB:upd HA l2 (.lst (ws.map V.str)) lf=some (.lst (ys.map V.str)):=by rw[Al nfl];exact eA
    refine⟨_,rfl,_,rfl,_,rfl,_,rfl,hzl,_,_,rfl,rfl,hlen,_,rfl,lf,_,rfl,.inl (SqL.of eB),rfl,Vl ys,_,rfl,Fv (λt=>?_) (λt=>?_)⟩
    ·refine⟨_,rfl,_,rfl,_,rfl,_,rfl,hzl,_,_,rfl,rfl,hlen,_,Ac,Ao (by rw[Qbx];omega),_,ws++[(⟨#[c]⟩ : Str)++Txt.slice z (some 1) none],rfl,?_,?_,λy hy=>?_,λ_ e=>?_⟩
     ·rw[Qp,Qby];rfl
     ·rw[QaM];show _+1<=_;omega
     ·rcases Qbz.mp hy with h | h
      ·exact l2' y h
      ·have e:y=(⟨#[c]⟩ : Str)++Txt.slice z (some 1) none:=by simpa using h
       rw[e]
       refine⟨⟨⟨by rw[Str.length_append];show 1<=1+_;omega,by rw[Str.length_append];show 1+_<=8;omega⟩,oc.append osl⟩,λhin=>?_⟩
       have t:(!inV (.str ((⟨#[c]⟩ : Str)++Txt.slice z (some 1) none)) (ys.map V.str))=true:=t
       rw[(Oe _ ys).mpr hin] at t
       cases t
     ·have:=congrArg List.length e
      rw[QaM] at this
      simp at this
    ·refine⟨_,ws,rfl,rfl,by omega,l2',λ⟨j',c',hj',hc',hn'⟩=>?_⟩
     by_cases ej:j'=j
     ·subst ej
      have ec:c'=c:=by
       have e1:abc.cps[j']?=some c:=hc
       rw[hc'] at e1
       exact QbB e1
      subst ec
      exfalso
      apply t
      show (!inV (.str ((⟨#[c']⟩ : Str)++Txt.slice z (some 1) none)) (ys.map V.str))=true
      cases e:inV (.str ((⟨#[c']⟩ : Str)++Txt.slice z (some 1) none)) (ys.map V.str) with
      | false=>rfl
      | true=>exact absurd ((Oe _ ys).mp e) hn'
     ·exact l3 ⟨j',c',by omega,hc',hn'⟩
   ·obtain⟨u,ws,rfl,rfl,l1,l2',l3⟩:=h
    obtain⟨j,c,hc,hnot⟩:=Y9 (Txt.slice z (some 1) none) (ys:=ys) (by omega)
    have hws:=l3 ⟨j,c,(Qaf.mp hc).1,hc,hnot⟩
    cases ws with
    | nil=>exact absurd rfl hws
    | cons w0 wr=>
     obtain⟨⟨y1,y2⟩,y3⟩:=l2' w0 (QaN ..)
     have s2:=Af hl2 (.lst ((w0::wr).map V.str))
     have eB:=s2 _ _ eA
     refine⟨l2,_,_,_,rfl,rfl,SqL.of Ac,FW (xs:=(w0::wr).map V.str) (j:=0) rfl,?_⟩
     refine⟨_,rfl,.inl ⟨rfl,_,SqL.of eB⟩,_,rfl,lf,_,_,rfl,rfl,eB,Ao (by rw[Qbx];omega),?_⟩
     exact fin w0 _ y1 y2 y3 eB (hbA.same s2) (s5.trans (Ah.of s2))
  ·refine⟨_,rfl,.inl ⟨rfl,_,SqL.of eA⟩,_,rfl,lf,_,_,rfl,rfl,eA,Ao (by rw[Qbx];omega),?_⟩
   exact fin z HA ⟨hz1,hz⟩ oz (λhin=>hnz ((Oe _ ys).mpr hin)) eA hbA s5
 ·obtain⟨u3,u4,ys,rfl,e1,e2,e3,e4,e5,e6⟩:=h
  exact⟨_,rfl,q lf ys HH hlf e2 e3 e6 e1 e4 e5⟩
end
structure Dev where
 kind:Str
 addr:Int
structure Place where
 kind:Str
 addr:Int
 spur:List Dev
def Jh (H:Hp) (v:V) (d:Dev):Prop:=∃t,v=.ref t/\H t=some (.tup [.str d.kind,.int d.addr])
def Dk (H:Hp) (v:V) (p:Place):Prop:=∃t u vs,v=.ref t/\H t=some (.tup [.str p.kind,.int p.addr,.ref u])/\H u=some (.tup vs)/\Paired (Jh H) vs p.spur
def LoopAt (H:Hp) (v:V) (ps:List Place):Prop:=∃t vs,v=.ref t/\H t=some (.tup vs)/\Paired (Dk H) vs ps
theorem Jh.tups {H H':Hp} (s:Am H H') {v:V} {d:Dev} (h:Jh H v d):Jh H' v d:=by
 obtain⟨t,e,q⟩:=h
 exact⟨t,e,s _ _ q⟩
theorem Dk.tups {H H':Hp} (s:Am H H') {v:V} {d:Place} (h:Dk H v d):Dk H' v d:=by
 obtain⟨t,u,vs,e,q1,q2,q3⟩:=h
 exact⟨t,u,vs,e,s _ _ q1,s _ _ q2,Paired.Az q3 λ_ _ z=>z.tups s⟩
theorem LoopAt.tups {H H':Hp} (s:Am H H') {v:V} {d:List Place} (h:LoopAt H v d):LoopAt H' v d:=by
 obtain⟨t,vs,e,q1,q2⟩:=h
 exact⟨t,vs,e,s _ _ q1,Paired.Az q2 λ_ _ z=>z.tups s⟩
theorem Paired.Ci {α β : Type} {F:α->β->Prop}:∀{l₁ : List α} {l₂ : List β} {i:Nat} {x:α},Paired F l₁ l₂->l₁[i]?=some x->∃y,l₂[i]?=some y/\F x y
 | _,_,_,_,.nil,h=>by simp at h
 | _,_,0,_,.cons a _,h=>by simp at h;subst h;exact⟨_,rfl,a⟩
 | _,_,i+1,x,.cons _ t,h=>by
  obtain⟨y,h1,h2⟩:=Paired.Ci (i:=i) (x:=x) t (by simpa using h)
  exact⟨y,by simpa using h1,h2⟩
theorem Qck {α β : Type} {F:α->β->Prop} {a:α} {b:β} (h:F a b):∀{l₁ : List α} {l₂ : List β},Paired F l₁ l₂->Paired F (l₁++[a]) (l₂++[b])
 | _,_,.nil=>.cons h .nil
 | _,_,.cons x t=>.cons x (Qck h t)
def Cz (k:Str):Prop:=k="seeker"\/k="knob"\/k="bell"\/k="door"
structure OkP (p:Place):Prop where
 spur:p.spur.length<=3
 kinds:∀d∈p.spur,Cz d.kind
 form:(p.kind="opener"/\p.addr=0/\p.spur=[])\/Cz p.kind
structure Zone where
 name:Str
 adr:List Int
def Hv (H:Hp) (v:V) (z:Zone):Prop:=∃t u,v=.ref t/\H t=some (.tup [.str z.name,.ref u])/\H u=some (.tup (z.adr.map V.int))
theorem Hv.tups {H H':Hp} (s:Am H H') {v:V} {z:Zone} (h:Hv H v z):Hv H' v z:=by
 obtain⟨t,u,e,q1,q2⟩:=h
 exact⟨t,u,e,s _ _ q1,s _ _ q2⟩
def DP (k:Str):Bool:=inV (.str k) [.str "seeker",.str "knob"]
def Eu (p:Place):List Dev:=⟨p.kind,p.addr⟩::p.spur
def G7 (ds:List Dev):List Int:=(ds.filter λd=>DP d.kind).map (·.addr)
def Hz (ps:List Place):List Int:=ps.flatMap λp=>G7 (Eu p)
def DX (ls:List (List Place)):List Int:=ls.flatMap Hz
theorem eE (ds:List Dev) (d:Dev):G7 (ds++[d])=G7 ds++(if DP d.kind=true then [d.addr] else []):=by
 unfold G7
 rw[List.filter_append,Qby]
 congr 1
 by_cases h:DP d.kind=true
 ·rw[if_pos h];simp[List.filter,h]
 ·rw[if_neg h];simp[List.filter,h]
theorem d9 (ps:List Place) (p:Place):Hz (ps++[p])=Hz ps++G7 (Eu p):=by unfold Hz;rw[QaI];simp
theorem aN (ls:List (List Place)) (ps:List Place):DX (ls++[ps])=DX ls++Hz ps:=by unfold DX;rw[QaI];simp
def ptS (a:List Int×Int) (p:Place):List Int×Int:=if V.str p.kind=V.str "opener" then (a.1++[a.2],0) else (a.1,a.2+1+(p.spur.length:Int))
def pst (ps:List Place):List Int×Int:=ps.foldl ptS ([],0)
def Gx (ps:List Place):List Int:=(pst ps).1++[(pst ps).2]
theorem Xe (ps:List Place) (p:Place):pst (ps++[p])=ptS (pst ps) p:=by unfold pst;rw[List.foldl_append];rfl
abbrev Rr:Stmt:=top 56
abbrev Lp:List Str:=["_law_bag_here","_law_numbers","_law_most_places"]
theorem Ii:Ay ["_law_bag_here","_law_numbers","_law_most_places","_law_places","_law_at","_law_many","_law_some","_law_way"] Lp (Aj Rr):=⟨rfl,rfl,rfl,by trivial,rfl,by trivial,by trivial⟩
abbrev Ph:Stmt:=top 57
abbrev JV:List Str:=["_law_places"]
theorem Iw:Ay ["_law_places","_law_found","_law_kind_here","_law_address","_law_spur"] JV (Aj Ph):=⟨rfl,rfl,rfl,by trivial,rfl,by trivial,by trivial⟩
def Dc (a b:Addr) (H H':Hp):Prop:=∀c o,H c=some o->c≠a->c≠b->H' c=some o
theorem Dc.trans {a b:Addr} {H H1 H2:Hp} (x:Dc a b H H1) (y:Dc a b H1 H2):Dc a b H H2:=λc o e n m=>y _ _ (x _ _ e n m) n m
theorem Dc.l {a b:Addr} {H H1:Hp} (x:Ah a H H1):Dc a b H H1:=λc o e n _=>x _ _ e n
theorem Dc.r {a b:Addr} {H H1:Hp} (x:Ah b H H1):Dc a b H H1:=λc o e _ m=>x _ _ e m
theorem Dc.of {a b:Addr} {H H1:Hp} (x:Same H H1):Dc a b H H1:=λc o e _ _=>x _ _ e
theorem Dc.Ku {a b p:Addr} {H HH H':Hp} (s:Dc a b H HH) (t:Ah p HH H') (f:H p=none):Dc a b H H':=λc o e n m=>t _ _ (s _ _ e n m) λz=>by rw[z,f] at e;cases e
def adP (p:Place):List Int:=if V.str p.kind=V.str "opener" then [] else p.addr::p.spur.map (·.addr)
def adL (ps:List Place):List Int:=ps.flatMap adP
theorem R7 (ps:List Place) (p:Place):adL (ps++[p])=adL ps++adP p:=by unfold adL;rw[QaI];simp
def opP:Place:=⟨"opener",0,[]⟩
theorem zq:OkP opP:=⟨by show 0<=3;decide,(λd hd=>by cases hd),.inl ⟨rfl,rfl,rfl⟩⟩
theorem yE:adP opP=[]:=if_pos rfl
theorem Tg {k:Str} (h:Cz k):¬V.str k=V.str "opener":=by
 rcases h with rfl | rfl | rfl | rfl <;> decide +kernel
theorem uD {i:Int} (h0:0<=i) (h4:i < 4):∃k,atI [V.str "seeker",.str "knob",.str "bell",.str "door"] i=some (.str k)/\Cz k:=by
 have:i=0\/i=1\/i=2\/i=3:=by omega
 rcases this with rfl | rfl | rfl | rfl
 ·exact⟨_,rfl,.inl rfl⟩
 ·exact⟨_,rfl,.inr (.inl rfl)⟩
 ·exact⟨_,rfl,.inr (.inr (.inl rfl))⟩
 ·exact⟨_,rfl,.inr (.inr (.inr rfl))⟩
theorem R3 {xs:List V} {k:Nat} (h:k<=xs.length):Ig xs (some (k:Int)) none=xs.drop k:=by
 unfold Ig
 rw[HT.W2,HT.ZR,Nat.min_eq_left h]
 exact List.take_of_length_le (by rw[Qbt];omega)
theorem fO {n:Nat} (h:0 < n):seqIndex? 0 n=some 0:=by
 unfold seqIndex?
 simp only[if_neg (show ¬(0:Int) < 0 by decide)]
 rw[if_pos (by simp;omega)]
 rfl
def fH:Sp:=λvs H Q _=>∃(b nb:Addr) (n mp:Nat) (ns:List Int),vs=[.ref b,.ref nb,.int mp]/\Bp H b n/\n<=5000/\b≠nb/\H nb=some (.lst (ns.map V.int))/\1<=mp/\mp<=12/\ns.length<=100 /\
 ∀t ps ns' H',LoopAt H' (.ref t) ps->(∀p∈ps,OkP p)->1<=ps.length->ps.length<=mp->ns=adL ps++ns'->H' nb=some (.lst (ns'.map V.int))->Bp H' b (n+100)->Dc b nb H H'->Q (.ref t) H'
def Ww:Sp:=λvs H Q _=>∃(t:Addr) (ps:List Place),vs=[.ref t]/\LoopAt H (.ref t) ps/\(∀p∈ps,OkP p)/\ps.length<=100/\∀l H',H' l=some (.lst ((Gx ps).map V.int))->Same H H'->Q (.ref l) H'
def qU (b nb lp:Addr) (mp:Int) (H:Hp) (n:Nat) (ns:List Int) (i:Nat) (σ : St) (HH:Hp):Prop:=
 ∃u4 u5 u6 u7 vs ps ns',σ=[some (.ref b),some (.ref nb),some (.int mp),some (.ref lp),u4,u5,u6,u7]/\HH lp=some (.lst vs)/\Paired (Dk HH) vs ps/\ps.length=i/\(∀p∈ps,OkP p)/\ns=adL ps++ns'/\HH nb=some (.lst (ns'.map V.int))/\Bp HH b (n+1+7*i)/\Dc b nb H HH
section
variable {P:Program} {w:World} {K:PySem.W.Frag} {mg:Str->Option Value} {base:Heap}
theorem sH (C:Code K mg "_law_loop" Rr Lp) (T:Nm mg) (Bj:Good P w K mg base "_law_take" 1 Ft K6):Good P w K mg base "_law_loop" 2 Lp fH:=by
 refine C.good Ii (λvs H Q E h=>?_) (λf cdv A outer s H vs Q E hr h=>?_)
 ·obtain⟨b,nb,n,mp,ns,rfl,_⟩:=h
  rfl
 obtain⟨b,nb,n,mp,ns,rfl,hb,hn,nbn,hnb,He,hmp,hns,q⟩:=h
 refine⟨_,(Ag (Bb (i:=3) Ii.nd rfl (Or.inl rfl) (BL Ab))
 (Ag (BW QbA rfl (Cq rfl T.range (Aa (Bd Cj Ae (Ax Bj hr (Aa (pv 0) (Aa (pv 2) Ab)))) Ab)) (Ak (i:=4) Ii.nd rfl (Or.inl rfl))
 (Ag (Bb (i:=5) Ii.nd rfl (Or.inl rfl) (Bd Cj Ae (Bo Cv (@BL _ _ _ _ (@Aa _ _ _ _ _ (@Ae _ _ _ _) (@Aa _ _ _ _ _ (@Ae _ _ _ _) (@Aa _ _ _ _ _ (@Ae _ _ _ _) (@Aa _ _ _ _ _ (@Ae _ _ _ _) (@Aa _ _ _ _ _ (@Ae _ _ _ _) (@Aa _ _ _ _ _ (@Ae _ _ _ _) (@Ab _) Bc) Bc) Bc) Bc) Bc) Bc)) (Ax Bj hr (Aa (pv 0) (Aa Ae Ab))) (λ_ _=>rfl))))
 (Ai (BP (PW.pt (N8 (Bq Gy (Ax Bj hr (Aa (pv 0) (Aa Ae Ab))) Ae (BJ _)) (Nk (Bq V7 (Aw Bs rfl T.len CW (Aa (pv 1) Ab)) (pv 5) (BJ _))))) (Ai (Bg (CG Qaq Qam Qan Cd (pv 3) (Aa (Bh (Aa Bf (Aa Ae (Aa (Bh Ab) Ab)))) Ab)))) (Ag (Bb (i:=6) Ii.nd rfl (Or.inl rfl) (BL Ab))
 (Ag (BW QbA rfl (Cq rfl T.range (Aa (pv 5) Ab)) (Ak (i:=7) Ii.nd rfl (Or.inl rfl))
 (Ai (Bg (CG Qaq Qam Qan Cd (pv 6) (Aa (Bh (Aa (Bo Cv (BL (Aa Bf (Aa Bf (Aa Bf (Aa Bf Ab))))) (Ax Bj hr (Aa (pv 0) (Aa Ae Ab))) (λ_ _=>rfl)) (Aa (CG Qaq PySem.F.slot_list_pop PySem.F.type_list_pop XD (pv 1) (Aa Ae Ab)) Ab))) Ab)))))
 (Ai (Bg (CG Qaq Qam Qan Cd (pv 3) (Aa (Bd Lx (Bo Cv (pv 6) Ae (λ_ _=>rfl)) (Bh (Aa (Ed Gi rfl T.tuple JB (Aa (Jr rE (pv 6) (KQ Ae) KR) Ab)) Ab))) Ab))))))))))
 (Ai (Ba (Ed Gi rfl T.tuple JB (Aa (pv 3) Ab)))))),?_⟩
 refine⟨Ar (by show 0<=1000;decide),λlp hlp=>?_⟩
 have s0:=Af hlp (.lst [])
 have nlb:b≠lp:=hb.nb hlp
 have nln:nb≠lp:=Av hnb hlp
 refine⟨_,rfl,_,rfl,b,n,_,rfl,hb.same s0,by omega,by omega,by omega,λr H1 r0 r1 hb1 sb1=>⟨_,_,rfl,rfl,_,rfl,by omega,by omega,?_⟩⟩
 obtain⟨rn,hrn⟩ : ∃rn:Nat,r=rn:=⟨r.toNat,by omega⟩
 subst hrn
 rw[show ((1:Int)+(rn:Int)).toNat=rn+1 by omega]
 have GV:∀{H2 H3:Hp},H2 lp=some (.lst [])->True:=λ_=>True.intro
 refine Dl (qU b nb lp mp H n ns) ⟨_,_,_,_,[],[],ns,rfl,sb1 _ _ Ac nlb.symm,.nil,rfl,(λp hp=>by cases hp),rfl,sb1 _ _ (s0 _ _ hnb) nbn.symm,hb1,(Dc.of s0).trans (Dc.l sb1)⟩ (λi σ HH hi h=>?_) (fun σ HH h=>?_)
 ·obtain⟨u4,u5,u6,u7,vs,ps,ns',rfl,e1,e2,e3,e4,e5,e6,e7,e8⟩:=h
  have DB:i < 12:=by omega
  have hlv:=QbR e2
  refine⟨Ar (by show 6<=1000;decide),λl6 hl6=>?_⟩
  have s6:=Af hl6 (.lst [.int 0,.int 0,.int 0,.int 1,.int 2,.int 3])
  refine⟨_,rfl,b,_,6,rfl,e7.same s6,by omega,by decide,by decide,λr2 HA r20 r21 hbA sA=>?_⟩
  obtain⟨m,em,m0,m3⟩:=FC r20 r21 (a:=0) (b:=0) (c:=0) (d:=1) (e:=2) (f:=3) (λp=>0<=p/\p<=3) (by decide) (by decide) (by decide) (by decide) (by decide) (by decide)
  obtain⟨mn,hmn⟩ : ∃mn:Nat,m=mn:=⟨m.toNat,by omega⟩
  subst hmn
  refine⟨l6,_,_,_,rfl,rfl,SqL.of (sA _ _ Ac (e7.nb hl6).symm),em,_,_,rfl,rfl,?_⟩
  refine⟨_,rfl,b,_,4,rfl,hbA,by omega,by decide,by decide,λr3 HB r30 r31 hbB sB=>⟨rfl,_,rfl,?_⟩⟩
  have sHB:Ah b HH HB:=((Ah.of s6).trans sA).trans sB
  have tHB:Am HH HB:=sHB.tup e7.Ew
  have f1:=sHB _ _ e1 nlb.symm
  have f2:Paired (Dk HB) vs ps:=Paired.Az e2 λ_ _ z=>z.tups tHB
  have f6:=sHB _ _ e6 nbn.symm
  have f8:Dc b nb H HB:=e8.trans (Dc.l sHB)
  have opn:∀eo,HB eo=none->∀t,upd HB eo (.tup []) t=none->qU b nb lp mp H n ns (i+1) [some (.ref b),some (.ref nb),some (.int mp),some (.ref lp),some (.int (0+(i:Int))),some (.int (1+(mn:Int))),u6,u7] (upd (upd (upd HB eo (.tup [])) t (.tup [.str "opener",.int 0,.ref eo])) lp (.lst (vs++[.ref t]))):=λeo heo t ht=>by
   have t1:=Af heo (.tup [])
   have t2:=Af ht (.tup [.str "opener",.int 0,.ref eo])
   have f1':=t2 _ _ (t1 _ _ f1)
   have nt:∀zs,(upd (upd HB eo (.tup [])) t (.tup [.str "opener",.int 0,.ref eo])) lp≠some (.tup zs):=λzs z=>by rw[f1'] at z;cases z
   have tu:=Am.upd (o:=.lst (vs++[.ref t])) nt
   refine⟨_,_,_,_,vs++[.ref t],ps++[opP],ns',rfl,Ac,?_,by rw[QaM,e3];rfl,λp hp=>?_,?_,?_,?_,?_⟩
   ·refine Qck ⟨t,eo,[],rfl,tu _ _ Ac,tu _ _ (t2 _ _ Ac),.nil⟩ (Paired.Az f2 λ_ _ z=>(z.tups (Am.of (t1.trans t2))).tups tu)
   ·rcases Qbz.mp hp with z | z
    ·exact e4 p z
    ·have:p=opP:=by simpa using z
     rw[this];exact zq
   ·rw[R7,yE,QbD];exact e5
   ·rw[Al nln];exact t2 _ _ (t1 _ _ f6)
   ·exact (((hbB.same t1).same t2).Cu Ah.upd nlb).mono (by omega)
   ·exact (f8.trans (Dc.of (t1.trans t2))).Ku Ah.upd hlp
  refine Fv (λ_=>?_) (λ_=>?_)
  ·refine⟨_,rfl,.inl ⟨rfl,_,SqL.of f1⟩,Ar (by show 0<=1000;decide),λeo heo=>⟨Ar (by show 3<=1000;decide),λt ht=>⟨lp,_,_,rfl,rfl,Af ht _ _ _ (Af heo _ _ _ f1),Ao (by omega),opn eo heo t ht⟩⟩⟩
  ·refine⟨_,rfl,nb,_,rfl,.inl (SqL.of f6),_,rfl,_,_,rfl,rfl,_,rfl,Fv (λ_=>?_) (λcc=>?_)⟩
   ·refine⟨_,rfl,.inl ⟨rfl,_,SqL.of f1⟩,Ar (by show 0<=1000;decide),λeo heo=>⟨Ar (by show 3<=1000;decide),λt ht=>⟨lp,_,_,rfl,rfl,Af ht _ _ _ (Af heo _ _ _ f1),Ao (by omega),opn eo heo t ht⟩⟩⟩
   ·have cc:¬(((ns'.map V.int).length:Nat):Int) < 1+(mn:Int):=λz=>cc (QbM z)
    rw[Qbx] at cc
    refine⟨Ar (by show 0<=1000;decide),λls hls=>?_⟩
    have sl:=Af hls (.lst [])
    have AY:lp≠ls:=Av f1 hls
    have wz:nb≠ls:=Av f6 hls
    have wA:b≠ls:=hbB.nb hls
    refine⟨_,rfl,_,rfl,by omega,by omega,?_⟩
    rw[show ((1:Int)+(mn:Int)).toNat=mn+1 by omega]
    have Hm:H ls=none->True:=λ_=>True.intro
    refine Dl (λj σ HC=>∃u7 xs ds ns2,σ=[some (.ref b),some (.ref nb),some (.int mp),some (.ref lp),some (.int (0+(i:Int))),some (.int (1+(mn:Int))),some (.ref ls),u7]/\HC ls=some (.lst xs)/\Paired (Jh HC) xs ds/\ds.length=j/\(∀d∈ds,Cz d.kind)/\ns'=ds.map (·.addr)++ns2/\HC nb=some (.lst (ns2.map V.int))/\Bp HC b (n+1+7*i+1+1+j)/\HC lp=some (.lst vs)/\Paired (Dk HC) vs ps/\(∀c o,HB c=some o->c≠b->c≠nb->HC c=some o))
     ⟨_,[],[],ns',rfl,Ac,.nil,rfl,(λd hd=>by cases hd),rfl,sl _ _ f6,hbB.same sl,sl _ _ f1,Paired.Az f2 λ_ _ z=>z.tups (Am.of sl),λc o e _ _=>sl _ _ e⟩ (λj σ HC hj h=>?_) (fun σ HC h=>?_)
    ·obtain⟨u7,xs,ds,ns2,rfl,g1,g2,g3,g4,g5,g6,g7,g8,g9,g10⟩:=h
     refine⟨_,rfl,.inl ⟨rfl,_,SqL.of g1⟩,Ar (by show 4<=1000;decide),λl4 hl4=>?_⟩
     have s4:=Af hl4 (.lst [.str "seeker",.str "knob",.str "bell",.str "door"])
     refine⟨_,rfl,b,_,4,rfl,g7.same s4,by omega,by decide,by decide,λr4 HD r40 r41 hbD sD=>?_⟩
     obtain⟨k,ek,hk⟩:=uD r40 r41
     have sCD:Ah b HC HD:=(Ah.of s4).trans sD
     have tCD:Am HC HD:=sCD.tup g7.Ew
     have g6':=sCD _ _ g6 nbn.symm
     cases ns2 with
     | nil=>
      rw[QbD] at g5
      have:=congrArg List.length g5
      rw[Qbx,g3] at this
      omega
     | cons a0 ns3=>
      refine⟨l4,_,_,_,rfl,rfl,SqL.of (sD _ _ Ac (g7.nb hl4).symm),ek,_,rfl,.inl ⟨rfl,_,SqL.of g6'⟩,nb,_,0,0,.int a0,rfl,rfl,g6',by decide,by decide,fO (by rw[Qbx];show 0 < _+1;omega),rfl,Ar (by show 2<=1000;decide),λt ht=>?_⟩
      have tn:Am HD (upd HD nb (.lst (((a0::ns3).map V.int).eraseIdx 0))):=Am.upd λzs z=>by rw[g6'] at z;cases z
      have tt:=Af ht (.tup [.str k,.int a0])
      have gls:upd HD nb (.lst (((a0::ns3).map V.int).eraseIdx 0)) ls=some (.lst xs):=by rw[Al wz.symm];exact sCD _ _ g1 wA.symm
      refine⟨ls,_,_,rfl,rfl,tt _ _ gls,Ao (by rw[QbR g2];omega),?_⟩
      have nt:∀zs,(upd (upd HD nb (.lst (((a0::ns3).map V.int).eraseIdx 0))) t (.tup [.str k,.int a0])) ls≠some (.tup zs):=λzs z=>by rw[tt _ _ gls] at z;cases z
      have tu:=Am.upd (o:=.lst (xs++[.ref t])) nt
      have uP:Am HC (upd (upd (upd HD nb (.lst (((a0::ns3).map V.int).eraseIdx 0))) t (.tup [.str k,.int a0])) ls (.lst (xs++[.ref t]))):=(tCD.trans tn).trans ((Am.of tt).trans tu)
      refine⟨_,xs++[.ref t],ds++[⟨k,a0⟩],ns3,rfl,Ac,Qck ⟨t,rfl,tu _ _ Ac⟩ (Paired.Az g2 λ_ _ z=>z.tups uP),by rw[QaM,g3];rfl,λd hd=>?_,?_,?_,?_,?_,Paired.Az g9 λ_ _ z=>z.tups uP,λc o e n1 n2=>?_⟩
      ·rcases Qbz.mp hd with z | z
       ·exact g4 d z
       ·have:d=⟨k,a0⟩:=by simpa using z
        rw[this];exact hk
      ·rw[g5,Qby,Qbd];rfl
      ·rw[Al wz,tt _ _ Ac];rfl
      ·exact ((hbD.Cu Ah.upd nbn).same tt).Cu Ah.upd wA
      ·rw[Al AY,tt _ _ (by rw[Al nln.symm];exact sCD _ _ g8 nlb.symm)]
      ·have e':=sCD _ _ (g10 _ _ e n1 n2) n1
       rw[Al (λz=>by rw[z,hls] at e;cases e),tt _ _ (by rw[Al n2];exact e')]
    ·obtain⟨u7,xs,ds,ns2,rfl,g1,g2,g3,g4,g5,g6,g7,g8,g9,g10⟩:=h
     cases ds with
     | nil=>cases g3
     | cons d0 dr=>
      cases g2 with
      | @cons x0 _ xr _ hd0 hdr=>
       obtain⟨t0,rfl,ht0⟩:=hd0
       have lxr:=QbR hdr
       have ldr:dr.length=mn:=by simpa using g3
       refine⟨_,rfl,.inl ⟨rfl,_,SqL.of g8⟩,_,rfl,ls,_,_,_,rfl,rfl,SqL.of g1,FW (xs:=.ref t0::xr) (j:=0) rfl,_,rfl,_,rfl,ls,_,rfl,SqL.of g1,λp1 hp1=>?_⟩
       have ec:Ig (.ref t0::xr) (some 1) none=xr:=R3 (xs:=.ref t0::xr) (k:=1) (by simp)
       rw[ec] at *
       have sp1:=Af hp1 (.lst xr)
       refine⟨p1,_,rfl,.inl ⟨SqL.of Ac,λtu htu=>⟨Ar (by show 1<=1000;decide),λt1 ht1=>?_⟩⟩⟩
       have sp2:=Af htu (.tup xr)
       have sp3:=Af ht1 (.tup [.ref tu])
       have sp:=(sp1.trans sp2).trans sp3
       refine⟨t0,t1,_,_,rfl,rfl,sp _ _ ht0,Ac,Ar (by show 2+1<=1000;decide),λtp HE hE sE=>?_⟩
       have spE:=sp.trans sE
       have g8':=spE _ _ g8
       refine⟨lp,_,_,rfl,rfl,g8',Ao (by omega),?_⟩
       have nt:∀zs,HE lp≠some (.tup zs):=λzs z=>by rw[g8'] at z;cases z
       have tv:=Am.upd (o:=.lst (vs++[.ref tp])) nt
       have okp:OkP ⟨d0.kind,d0.addr,dr⟩:=⟨by show dr.length<=3;omega,λd hd=>g4 d (QaA _ hd),.inr (g4 d0 (QaN ..))⟩
       refine⟨_,_,_,_,vs++[.ref tp],ps++[⟨d0.kind,d0.addr,dr⟩],ns2,rfl,Ac,?_,by rw[QaM,e3];rfl,λp hp=>?_,?_,?_,?_,?_⟩
       ·refine Qck ⟨tp,tu,xr,rfl,tv _ _ hE,tv _ _ (sE _ _ (sp3 _ _ Ac)),Paired.Az hdr λ_ _ z=>(z.tups (Am.of spE)).tups tv⟩ (Paired.Az g9 λ_ _ z=>(z.tups (Am.of spE)).tups tv)
       ·rcases Qbz.mp hp with z | z
        ·exact e4 p z
        ·have:p=⟨d0.kind,d0.addr,dr⟩:=by simpa using z
         rw[this];exact okp
       ·rw[R7,e5,g5,Qbd]
        congr 1
        have:adP ⟨d0.kind,d0.addr,dr⟩=d0.addr::dr.map (·.addr):=if_neg (Tg (g4 d0 (QaN ..)))
        rw[this]
        rfl
       ·rw[Al nln];exact spE _ _ g6
       ·exact ((g7.same spE).Cu Ah.upd nlb).mono (by omega)
       ·refine Dc.Ku (λc o e n1 n2=>spE _ _ (g10 _ _ (f8 _ _ e n1 n2) n1 n2)) Ah.upd hlp
 ·obtain⟨u4,u5,u6,u7,vs,ps,ns',rfl,e1,e2,e3,e4,e5,e6,e7,e8⟩:=h
  refine⟨_,rfl,lp,_,rfl,.inl ⟨SqL.of e1,λt ht=>?_⟩⟩
  have st:=Af ht (.tup vs)
  exact q t ps ns' _ ⟨t,vs,rfl,Ac,Paired.Az e2 λ_ _ z=>z.tups (Am.of st)⟩ e4 (by omega) (by omega) e5 (st _ _ e6) ((e7.same st).mono (by omega)) (e8.trans (Dc.of st))
end
abbrev Jp:Stmt:=top 58
abbrev Lj:List Str:=["_law_bag_here","_law_most_loops","_law_most_places"]
theorem Bx:Ay ["_law_bag_here","_law_most_loops","_law_most_places","_law_start","_law_stride","_law_numbers","_law_own","_law_first","_law_at","_law_loops","_law_loop_here","_law_most","_law_told","_law_places","_law_kind_here","_law_address","_law_spur","_law_zones","_law_names_here","_law_name_here","_law_some"] Lj (Aj Jp):=⟨rfl,rfl,rfl,by trivial,rfl,by trivial,by trivial⟩
theorem Yx (xs:List V) (y:V):atI (xs++[y]) (-1)=some y:=by
 unfold atI ixN
 rw[if_neg (by decide),QaM,Qay,if_pos (by omega),show (-1+((xs.length+1:Nat):Int)).toNat=xs.length by omega]
 show (xs++[y])[xs.length]?=some y
 rw[List.getElem?_append_right (Qci _),Nat.sub_self]
 rfl
theorem o8 (xs:List V) (y:V):ixN (xs++[y]).length (-1)=some xs.length:=by
 unfold ixN
 rw[if_neg (by decide),QaM,Qay,if_pos (by omega),show (-1+((xs.length+1:Nat):Int)).toNat=xs.length by omega]
theorem j9 (xs:List V) (y z:V):(xs++[y]).set xs.length z=xs++[z]:=by
 rw[List.set_append_right _ _ (Qci _),Nat.sub_self]
 rfl
theorem FB {i:Int} (h0:0<=i) (h9:i < 9) {a b c d e f g h k:Int} (P:Int->Prop) (ha:P a) (hb:P b) (hc:P c) (hd:P d) (he:P e) (hf:P f) (hg:P g) (hh:P h) (hk:P k):∃p,atI [V.int a,.int b,.int c,.int d,.int e,.int f,.int g,.int h,.int k] i=some (.int p)/\P p:=by
 have:i=0\/i=1\/i=2\/i=3\/i=4\/i=5\/i=6\/i=7\/i=8:=by omega
 rcases this with rfl | rfl | rfl | rfl | rfl | rfl | rfl | rfl | rfl
 ·exact⟨_,rfl,ha⟩
 ·exact⟨_,rfl,hb⟩
 ·exact⟨_,rfl,hc⟩
 ·exact⟨_,rfl,hd⟩
 ·exact⟨_,rfl,he⟩
 ·exact⟨_,rfl,hf⟩
 ·exact⟨_,rfl,hg⟩
 ·exact⟨_,rfl,hh⟩
 ·exact⟨_,rfl,hk⟩
theorem jh (ns:List Int):(ns.map V.int).all JH=true:=by
 rw[List.all_map,List.all_eq_true]
 intro _ _
 rfl
theorem yu {xs:List V} {m:Nat} (h:m<=xs.length):Ig xs none (some (m:Int))=xs.take m:=by
 unfold Ig
 rw[HT.W2,HT.ZR,Nat.min_eq_left h]
 rfl
theorem Paired.qp {α β : Type} {F:α->β->Prop}:∀{l:List α} {r:List β} (n:Nat),Paired F l r->Paired F (l.take n) (r.take n)
 | _,_,0,_=>.nil
 | _,_,_+1,.nil=>.nil
 | _,_,n+1,.cons h t=>.cons h (Paired.qp n t)
theorem Paired.qQ {α β : Type} {F:α->β->Prop}:∀{l:List α} {r:List β} (n:Nat),Paired F l r->Paired F (l.drop n) (r.drop n)
 | _,_,0,h=>h
 | _,_,_+1,.nil=>.nil
 | _,_,n+1,.cons h t=>Paired.qQ n t
theorem Paired.app {α β : Type} {F:α->β->Prop}:∀{a₁ b₁ : List α} {a₂ b₂ : List β},Paired F a₁ a₂->Paired F b₁ b₂->Paired F (a₁++b₁) (a₂++b₂)
 | _,_,_,_,.nil,t=>t
 | _,_,_,_,.cons r s,t=>.cons r (Paired.app s t)
theorem ZW:∀(ps:List Place) (a:List Int×Int),(ps.foldl ptS a).1.sum+(ps.foldl ptS a).2=a.1.sum+a.2+((adL ps).length:Int)
 | [],a=>by show _=_+_+((0:Nat):Int);simp
 | p::r,a=>by
  rw[List.foldl_cons,ZW r]
  have e:adL (p::r)=adP p++adL r:=by unfold adL;rw[Qbg]
  rw[e,QaM]
  unfold ptS adP
  by_cases h:V.str p.kind=V.str "opener"
  ·rw[if_pos h,if_pos h,List.sum_append]
   simp
  ·rw[if_neg h,if_neg h,Qbq,Qbx]
   simp only
   omega
theorem fX:∀(ps:List Place) (a:List Int×Int),(∀m∈a.1,0<=m)->0<=a.2->(∀m∈(ps.foldl ptS a).1,0<=m)/\0<=(ps.foldl ptS a).2
 | [],a,h1,h2=>⟨h1,h2⟩
 | p::r,a,h1,h2=>by
  rw[List.foldl_cons]
  refine fX r _ ?_ ?_
  ·unfold ptS
   split
   ·intro m hm
    rcases Qbz.mp hm with z | z
    ·exact h1 m z
    ·have:m=a.2:=by simpa using z
     rw[this];exact h2
   ·exact h1
  ·unfold ptS
   split
   ·exact Int.le_refl _
   ·show 0<=a.2+1+(p.spur.length:Int)
    omega
theorem eY:∀{l:List Int},(∀m∈l,0<=m)->0<=l.sum/\∀m∈l,m<=l.sum
 | [],_=>⟨Int.le_refl _,λm h=>by cases h⟩
 | x::r,h=>by
  obtain⟨h1,h2⟩:=eY (l:=r) λm hm=>h m (QaA _ hm)
  have h0:=h x (QaN ..)
  rw[List.sum_cons]
  refine⟨by omega,λm hm=>?_⟩
  rcases QbS.mp hm with rfl | hm
  ·omega
  ·have:=h2 m hm
   omega
theorem lQ (ps:List Place):∀m∈Gx ps,0<=m:=by
 have h:=fX ps ([],0) (λm hm=>by cases hm) (Int.le_refl _)
 intro m hm
 rcases Qbz.mp hm with z | z
 ·exact h.1 m z
 ·have:m=(pst ps).2:=by simpa using z
  rw[this];exact h.2
theorem Ve (ps:List Place):(Gx ps).sum=((adL ps).length:Int):=by
 have h:=ZW ps ([],0)
 unfold Gx
 rw[List.sum_append]
 have:(pst ps).1.sum+(pst ps).2=((adL ps).length:Int):=by
  have e:(pst ps).1.sum+(pst ps).2=([]:List Int).sum+0+((adL ps).length:Int):=h
  rw[e];simp
 simp
 omega
theorem lR (ps:List Place):∀m∈Gx ps,m<=((adL ps).length:Int):=λm hm=>by
 have:=(eY (lQ ps)).2 m hm
 rw[Ve] at this
 exact this
theorem Zu:∀{l:List Int},1<=l.sum->∃m∈l,1<=m
 | [],h=>by simp at h
 | x::r,h=>by
  rw[List.sum_cons] at h
  by_cases hx:1<=x
  ·exact⟨x,QaN ..,hx⟩
  ·obtain⟨m,h1,h2⟩:=Zu (l:=r) (by omega)
   exact⟨m,QaA _ h1,h2⟩
structure OkL (ps:List Place):Prop where
 lo:1<=ps.length
 hi:ps.length<=12
 ok:∀p∈ps,OkP p
def Cg (ls:List (List Place)):List Int:=ls.flatMap adL
structure YC (most:Int) (loops:List (List Place)) (zones:List Zone):Prop where
 nd:(Cg loops).Nodup
 bd:∀x∈Cg loops,1<=x/\x<=99
 cnt:1<=(Cg loops).length/\(Cg loops).length<=30
 mo:1<=most/\most<=30
 few:∀ps∈loops,∀m∈Gx ps,m<=most
 zin:∀z∈zones,∀x∈z.adr,x∈DX loops
 znd:(zones.flatMap (·.adr)).Nodup
 zup:∀z∈zones,z.adr.Pairwise (· < ·)/\1<=z.adr.length/\z.adr.length<=30
 uL:zones.length<=8
 znm:∀z∈zones,(1<=z.name.length/\z.name.length<=8)/\okS z.name
 zdi:(zones.map (·.name)).Nodup
def fD:Sp:=λvs H Q _=>∃(b:Addr) (n ml mp:Nat),vs=[.ref b,.int ml,.int mp]/\Bp H b n/\n<=1000/\1<=ml/\ml<=3/\2<=mp/\mp<=12 /\
 ∀t Ls zs vs zvs loops zones most H',H' t=some (.tup [.int most,.ref Ls,.ref zs])->H' Ls=some (.tup vs)->Paired (LoopAt H') vs loops->(∀ps∈loops,OkL ps)->1<=loops.length->loops.length<=3->H' zs=some (.tup zvs)->Paired (Hv H') zvs zones->YC most loops zones->Bp H' b (n+3000)->Ah b H H'->Q (.ref t) H'
def uX:TS:=λD σ H=>∃(b nb f0:Addr) (n mp:Nat) (ns:List Int),σ[0]?=some (some (.ref b))/\σ[5]?=some (some (.ref nb))/\σ[2]?=some (some (.int mp))/\σ[7]?=some (some (.ref f0))/\H f0=some (.tup [])/\Bp H b n/\n<=4000/\b≠nb/\H nb=some (.lst (ns.map V.int))/\2<=mp/\mp<=12/\ns.length<=100 /\
 ∀t vs ps ns' H',H' t=some (.tup vs)->Paired (Dk H') vs ps->(∀p∈ps,OkP p)->ps.length+1<=mp->ns=adL ps++ns'->H' nb=some (.lst (ns'.map V.int))->Bp H' b (n+101)->Dc b nb H H'->D.nx (σ.set 7 (some (.ref t))) H'
section
variable {P:Program} {w:World} {K:PySem.W.Frag} {mg:Str->Option Value} {base:Heap}
theorem gJ (C:Code K mg "_law_parts" Ph JV) (T:Nm mg):Good P w K mg base "_law_parts" 1 JV Ww:=by
 refine C.good Iw (λvs H Q E h=>?_) (λf cdv A outer s H vs Q E hr h=>?_)
 ·obtain⟨t,ps,rfl,_⟩:=h
  rfl
 obtain⟨t,ps,rfl,⟨t',vs,et,ht,hps⟩,hok,h100,q⟩:=h
 cases et
 refine⟨_,(Ag (Bb (i:=1) Iw.nd rfl (Or.inl rfl) (BL (Aa Ae Ab)))
 (Ag (BW QbA rfl (Fg (pv 0)) (CV rfl (Aq (Ak (i:=2) Iw.nd rfl (Or.inl rfl)) (Aq (Ak (i:=3) Iw.nd rfl (Or.inl rfl)) (Aq (Ak (i:=4) Iw.nd rfl (Or.inl rfl)) Bw))))
 (Ai (BP (Bq Gy (pv 2) Bf (BJ _)) (Ai (Bg (CG Qaq Qam Qan Cd (pv 1) (Aa Ae Ab)))) (Ai (JR (Bd Cj (Bd Cj (Bo Cv (pv 1) (V5 Sh Ae) (λ_ _=>rfl)) Ae) (Aw Bs rfl T.len CW (Aa (pv 4) Ab))) (Xi (pv 1) (V5 Sh Ae) set_list))))))
 (Ai (Ba (pv 1))))),?_⟩
 refine⟨Ar (by show 1<=1000;decide),λlf hlf=>?_⟩
 have s1:=Af hlf (.lst [.int 0])
 have lvs:=QbR hps
 refine⟨_,rfl,t,rfl,⟨_,SqT.of (s1 _ _ ht)⟩,?_⟩
 refine KZ (xs:=vs) (λi σ HH=>∃(u2 u3 u4:Option V),σ=[some (.ref t),some (.ref lf),u2,u3,u4]/\HH lf=some (.lst ((pst (ps.take i)).1.map V.int++[.int (pst (ps.take i)).2]))/\(pst (ps.take i)).1.length<=i/\Same H HH) ⟨_,_,_,rfl,Ac,Qci _,s1⟩ (λi σ HH _ h=>?_) (λi x σ HH hx h=>?_) (fun σ HH h=>?_)
 ·obtain⟨u2,u3,u4,rfl,e1,e2,e3⟩:=h
  exact SqT.of (e3 _ _ ht)
 ·obtain⟨u2,u3,u4,rfl,e1,e2,e3⟩:=h
  obtain⟨p,hp,tp,up,ws,rfl,h1,h2,h3⟩:=Paired.Ci hps hx
  have hi:=(Qai.mp hx).1
  have et:pst (ps.take (i+1))=ptS (pst (ps.take i)) p:=by rw[Qcq hp,Xe]
  have lws:=QbR h3
  generalize pst (ps.take i)=a at *
  refine⟨tp,_,rfl,SqT.of (e3 _ _ h1),rfl,_,_,rfl,_,_,rfl,_,_,rfl,rfl,?_⟩
  refine⟨_,rfl,rfl,_,rfl,Fv (λhc=>?_) (λhc=>?_)⟩
  ·have hc:V.str p.kind=V.str "opener":=Qbi hc
   have et:pst (ps.take (i+1))=(a.1++[a.2],0):=by rw[et];exact if_pos hc
   refine⟨_,rfl,.inl ⟨rfl,_,SqL.of e1⟩,lf,_,_,rfl,rfl,e1,Ao (by rw[QaM,Qbx];show _+1<=_;omega),_,_,_,rfl,?_,?_,e3.Bt Ah.upd hlf⟩
   ·rw[Ac,et,Qby];rfl
   ·rw[et,QaM];show _+1<=_;omega
  ·have hc:¬V.str p.kind=V.str "opener":=λz=>hc (QbM z)
   have et:pst (ps.take (i+1))=(a.1,a.2+1+(p.spur.length:Int)):=by rw[et];exact if_neg hc
   refine⟨_,rfl,_,rfl,lf,_,_,_,rfl,rfl,SqL.of e1,Yx _ _,_,_,rfl,rfl,_,rfl,up,_,rfl,.inr (SqT.of (e3 _ _ h2)),_,_,rfl,rfl,_,rfl,_,rfl,lf,_,_,_,rfl,rfl,e1,o8 _ _,_,_,_,rfl,?_,by rw[et];show a.1.length<=_;omega,e3.Bt Ah.upd hlf⟩
   rw[Ac,j9,et,<-lws]
 ·obtain⟨u2,u3,u4,rfl,e1,e2,e3⟩:=h
  rw[lvs,Qbo] at e1
  refine⟨_,rfl,q lf HH (by unfold Gx;rw[Qby];exact e1) e3⟩
end
theorem vB {α : Type} {l:List α} {i:Nat} {x:α} (h:l[i]?=some x):l.set i x=l:=by
 obtain⟨hi,e⟩:=Qai.mp h
 subst e
 exact List.set_getElem_self hi
theorem Ln.tups {H H':Hp} {vs:List V} {ls:List (List Place)} (s:Am H H') (h:Paired (LoopAt H) vs ls):Paired (LoopAt H') vs ls:=Paired.Az h λ_ _ z=>z.tups s
theorem Pn.tups {H H':Hp} {vs:List V} {ls:List Place} (s:Am H H') (h:Paired (Dk H) vs ls):Paired (Dk H') vs ls:=Paired.Az h λ_ _ z=>z.tups s
theorem K1 (a b:List Place):adL (a++b)=adL a++adL b:=by unfold adL;rw[QaI]
theorem Vw (ls:List (List Place)) (ps:List Place):Cg (ls++[ps])=Cg ls++adL ps:=by unfold Cg;rw[QaI];simp
def wr (ds:List Dev):Nat:=(ds.filter λd=>!decide (V.str d.kind=V.str "opener")).length
theorem RM (w:Int):∀ws:List Int,inV (.int w) (ws.map V.int)=decide (w∈ws)
 | []=>rfl
 | x::r=>by
  have ih:=RM w r
  unfold inV at ih ⊢
  rw[QbT,QbZ,ih]
  have h2:eqV (.int x) (.int w)=decide (w=x):=by
   show (x == w)=decide (w=x)
   rw[QbG,beq_iff_eq,QaW]
   exact⟨λh=>h.symm,λh=>h.symm⟩
  rw[h2,QbG,Bool.or_eq_true,QaW,QaW,QaW,QbS]
def DQ (p:Int):Prop:=p=1\/p=2\/p=4\/p=5\/p=7\/p=8\/p=10\/p=13\/p=98
def M7 (r sd:Int) (n:Nat):List Int:=(List.range n).map λk:Nat=>(r+sd*(0+(k:Int))) % 99+1
theorem gP (r sd:Int) (n:Nat):M7 r sd (n+1)=M7 r sd n++[(r+sd*(0+(n:Int))) % 99+1]:=by
 unfold M7
 rw[List.range_succ,Qby]
 rfl
theorem sY (r sd:Int) (n:Nat):∀x∈M7 r sd n,1<=x/\x<=99:=λx hx=>by
 obtain⟨k,_,rfl⟩:=Qca.mp hx
 have h1:=QbK (r+sd*(0+(k:Int))) (show (99:Int)≠0 by decide)
 have h2:=QaX (r+sd*(0+(k:Int))) (show (0:Int) < 99 by decide)
 omega
theorem sW {r sd:Int} (h:DQ sd):(M7 r sd 30).Nodup:=by
 unfold M7
 refine Qbh.mpr ?_
 refine List.Pairwise.imp_of_mem (λ{i j} hi hj hlt=>?_) (List.pairwise_lt_range (n:=30))
 have hi:=QbQ.mp hi
 have hj:=QbQ.mp hj
 intro e
 unfold DQ at h
 rcases h with rfl | rfl | rfl | rfl | rfl | rfl | rfl | rfl | rfl <;> omega
theorem Zr:∀{ds:List Dev},(G7 ds).Sublist (ds.map (·.addr))
 | ds=>by unfold G7;exact List.Sublist.map _ (List.filter_sublist ..)
theorem Wg {p:Place} (h:OkP p):(G7 (Eu p)).Sublist (adP p):=by
 rcases h.form with⟨f1,f2,f3⟩| f1
 ·have e:adP p=[]:=if_pos (by rw[f1])
  have e2:G7 (Eu p)=[]:=by
   unfold Eu G7
   rw[f3,f1]
   have:DP "opener"=false:=by trivial
   rw[List.filter_cons_of_neg (by rw[this];decide)]
   rfl
  rw[e,e2]
  exact .slnil
 ·have e:adP p=(Eu p).map (·.addr):=if_neg (Tg f1)
  rw[e]
  exact Zr
theorem Rm:∀{ps:List Place},(∀p∈ps,OkP p)->(Hz ps).Sublist (adL ps)
 | [],_=>.slnil
 | p::r,h=>by
  have e1:Hz (p::r)=G7 (Eu p)++Hz r:=by unfold Hz;rw[Qbg]
  have e2:adL (p::r)=adP p++adL r:=by unfold adL;rw[Qbg]
  rw[e1,e2]
  exact (Wg (h p (QaN ..))).append (Rm λq hq=>h q (QaA _ hq))
theorem O9:∀{ls:List (List Place)},(∀ps∈ls,OkL ps)->(DX ls).Sublist (Cg ls)
 | [],_=>.slnil
 | ps::r,h=>by
  have e1:DX (ps::r)=Hz ps++DX r:=by unfold DX;rw[Qbg]
  have e2:Cg (ps::r)=adL ps++Cg r:=by unfold Cg;rw[Qbg]
  rw[e1,e2]
  exact (Rm (h ps (QaN ..)).ok).append (O9 λq hq=>h q (QaA _ hq))
theorem aq {ps:List Place}:∀(loops:List (List Place)),ps∈loops->(adL ps).length<=(Cg loops).length
 | [],h=>by cases h
 | a::r,h=>by
  have e:Cg (a::r)=adL a++Cg r:=by unfold Cg;rw[Qbg]
  rw[e,QaM]
  rcases QbS.mp h with rfl | h
  ·omega
  ·have:=aq r h
   omega
structure Oz (ws:List Int) (ts:List Int) (zones:List Zone) (ys:List Str):Prop where
 nd:(zones.flatMap (·.adr)++ts).Nodup
 sub:∀x∈zones.flatMap (·.adr)++ts,x∈ws
 up:∀z∈zones,z.adr.Pairwise (· < ·)/\1<=z.adr.length/\z.adr.length<=30
 nm:(zones.map (·.name)).Sublist ys
theorem Oz.next {ws ts ms ss:List Int} {zones:List Zone} {ys:List Str} {y:Str} (h:Oz ws ts zones ys) (hp:ms.Perm ss) (hsub:ss.Sublist ts) (hr:ms.Pairwise (·<=·)) (h30:ms.length<=30) (y1:1<=ms.length):Oz ws (ts.filter λx=>!decide (x∈ms)) (zones++[⟨y,ms⟩]) (ys++[y]):=by
 obtain⟨n1,n2,n3⟩:=Qbn.mp h.nd
 have nms:ms.Nodup:=hp.nodup_iff.mpr (hsub.nodup n2)
 have hin:∀x∈ms,x∈ts:=λx hx=>hsub.subset (hp.mem_iff.mp hx)
 have e:(zones++[(⟨y,ms⟩ : Zone)]).flatMap (·.adr)=zones.flatMap (·.adr)++ms:=by rw[QaI];simp
 refine⟨?_,λx hx=>?_,λz hz=>?_,?_⟩
 ·rw[e,Qbn]
  refine⟨Qbn.mpr ⟨n1,nms,λa ha b hb=>n3 a ha b (hin b hb)⟩,n2.filter _,λa ha b hb=>?_⟩
  obtain⟨hb1,hb2⟩:=QbH.mp hb
  rcases Qbz.mp ha with ha | ha
  ·exact n3 a ha b hb1
  ·rintro rfl
   rw[QbM ha] at hb2
   cases hb2
 ·rw[e] at hx
  rcases Qbz.mp hx with hx | hx
  ·rcases Qbz.mp hx with hx | hx
   ·exact h.sub x (QaB _ hx)
   ·exact h.sub x (Qaw _ (hin x hx))
  ·exact h.sub x (Qaw _ (QbH.mp hx).1)
 ·rcases Qbz.mp hz with hz | hz
  ·exact h.up z hz
  ·have:z=⟨y,ms⟩:=by simpa using hz
   rw[this]
   refine⟨?_,y1,h30⟩
   refine List.Pairwise.imp₂ (S:=λa b:Int=>a≠b) (λa b h1 h2=>by omega) hr nms
 ·rw[Qby]
  exact h.nm.append (List.Sublist.refl _)
theorem Oz.none {ws ts:List Int} {zones:List Zone} {ys:List Str} {y:Str} {g:Int->Bool} (h:Oz ws ts zones ys):Oz ws (ts.filter g) zones (ys++[y]):=by
 obtain⟨n1,n2,n3⟩:=Qbn.mp h.nd
 refine⟨Qbn.mpr ⟨n1,n2.filter _,λa ha b hb=>n3 a ha b (QbH.mp hb).1⟩,λx hx=>?_,h.up,h.nm.trans (List.sublist_append_left ..)⟩
 rcases Qbz.mp hx with hx | hx
 ·exact h.sub x (QaB _ hx)
 ·exact h.sub x (Qaw _ (QbH.mp hx).1)
section
variable {P:Program} {w:World} {K:PySem.W.Frag} {mg:Str->Option Value} {base:Heap}
theorem su (C:Code K mg "_law_plan" Jp Lj) (T:Nm mg) (Bj:Good P w K mg base "_law_take" 1 Ft K6) (X8:Good P w K mg base "_law_loop" 2 Lp fH) (iU:Good P w K mg base "_law_parts" 1 JV Ww) (iV:Good P w K mg base "_law_names" 3 JW ZJ) :
  Good P w K mg base "_law_plan" 4 Lj fD:=by
 refine C.good Bx (λvs H Q E h=>?_) (λf cdv A outer s H vs Q E hr h=>?_)
 ·obtain⟨b,n,ml,mp,rfl,_⟩:=h
  rfl
 obtain⟨b,n,ml,mp,rfl,hb,hn,Hk,hml,Dx,hmp,q⟩:=h
 refine⟨_,(Ag (Bb (i:=3) Bx.nd rfl (Or.inr rfl) (Ax Bj hr (Aa (pv 0) (Aa Ae Ab))))
 (Ag (Bb (i:=4) Bx.nd rfl (Or.inr rfl) (Bo Cv (@BL _ _ _ _ (@Aa _ _ _ _ _ (@Ae _ _ _ _) (@Aa _ _ _ _ _ (@Ae _ _ _ _) (@Aa _ _ _ _ _ (@Ae _ _ _ _) (@Aa _ _ _ _ _ (@Ae _ _ _ _) (@Aa _ _ _ _ _ (@Ae _ _ _ _) (@Aa _ _ _ _ _ (@Ae _ _ _ _) (@Aa _ _ _ _ _ (@Ae _ _ _ _) (@Aa _ _ _ _ _ (@Ae _ _ _ _) (@Aa _ _ _ _ _ (@Ae _ _ _ _) (@Ab _) Bc) Bc) Bc) Bc) Bc) Bc) Bc) Bc) Bc)) (Ax Bj hr (Aa (pv 0) (Aa Ae Ab))) (λ_ _=>rfl)))
 (Ag (ZX (i:=5) Bx.nd rfl (Or.inl rfl) (N':=["_law_k","_law_start","_law_stride"]) rfl (Bk.of (src:=[none,some 3,some 4]) (Aj Jp) ["_law_bag_here","_law_most_loops","_law_most_places","_law_start","_law_stride","_law_numbers","_law_own","_law_first","_law_at","_law_loops","_law_loop_here","_law_most","_law_told","_law_places","_law_kind_here","_law_address","_law_spur","_law_zones","_law_names_here","_law_name_here","_law_some"] rfl rfl rfl (by trivial) (by trivial) (by trivial) rfl (by trivial)) (Cq rfl T.range (Aa Ae Ab)) (λ_ _ _ _=>(Ak (i:=0) (show List.Nodup (["_law_k","_law_start","_law_stride"]:List Str) by trivial) rfl (Or.inl rfl))) (λ_ _ _ _=>CJ) (λ_ _ _ _=>(Bd Cj (Bd Kc (Bd Cj (pv 1) (Bd GK (pv 2) (pv 0))) Ae) Ae)))
 (Ag (Bb (i:=6) Bx.nd rfl (Or.inl rfl) (CG Qaq PySem.F.slot_list_pop PySem.F.type_list_pop XD (pv 5) (Aa Ae Ab)))
 (Ag (Bb (i:=7) Bx.nd rfl (Or.inl rfl) (Bh Ab))
 (Ag (PS.weak (t':=uX) (BP (Bq V8 (Ax Bj hr (Aa (pv 0) (Aa Ae Ab))) Ae (BJ _)) (Ai (Bb (i:=7) Bx.nd rfl (Or.inl rfl) (Ax X8 hr (Aa (pv 0) (Aa (pv 5) (Aa (Bd vV (pv 2) Ae) Ab)))))) BR) (λD σ H h=>by
    obtain⟨b,nb,f0,n,mp,ns,e0,e5,e2,e7,hf0,hb,hn,nbn,hnb,hmp,Ha,hns,q⟩:=h
    refine⟨_,e0,b,n,8,rfl,hb,by omega,by decide,by decide,λr H1 r0 r1 hb1 sb1=>⟨_,_,rfl,rfl,_,rfl,Fv (λ_=>?_) (λ_=>?_)⟩⟩
    ·refine⟨_,e0,_,e5,_,e2,_,_,rfl,rfl,b,nb,n+1,mp - 1,ns,?_,hb1,by omega,nbn,sb1 _ _ hnb nbn.symm,by omega,by omega,hns,λt ps ns' H2 ⟨t',vs,et,ht,hp⟩ hok h1 h2 hns' hnb' hb2 s2=>?_⟩
     ·show [V.ref b,.ref nb,.int ((mp:Int) - 1)]++[]=_
      rw[show ((mp:Int) - 1)=((mp - 1:Nat):Int) by omega]
      rfl
     ·cases et
      exact q t vs ps ns' H2 ht hp hok (by omega) hns' hnb' (hb2.mono (by omega)) ((Dc.l sb1).trans s2)
    ·have q:=q f0 [] [] ns H1 (sb1.tup hb.Ew _ _ hf0) .nil (λp hp=>by cases hp) (by show 0+1<=mp;omega) rfl (sb1 _ _ hnb nbn.symm) (hb1.mono (by omega)) (Dc.l sb1)
     rw[vB e7] at q
     exact q))
 (Ag (Bb (i:=8) Bx.nd rfl (Or.inl rfl) (Ax Bj hr (Aa (pv 0) (Aa (Bd Cj (Aw Bs rfl T.len CW (Aa (pv 7) Ab)) Ae) Ab))))
 (Ag (Bb (i:=9) Bx.nd rfl (Or.inl rfl) (BL (Aa (Bd Lx (Bd Lx (Jr T8 (pv 7) KR (KQ (pv 8))) (Bh (Aa (Bh (Aa Bf (Aa (pv 6) (Aa (Bh Ab) Ab)))) Ab))) (Jr T8 (pv 7) (KQ (pv 8)) KR)) Ab)))
 (Ag (BW QbA rfl (Cq rfl T.range (Aa (Ax Bj hr (Aa (pv 0) (Aa (pv 1) Ab))) Ab)) (Ak (i:=10) Bx.nd rfl (Or.inl rfl))
 (Ai (Bg (CG Qaq Qam Qan Cd (pv 9) (Aa (Ax X8 hr (Aa (pv 0) (Aa (pv 5) (Aa (pv 2) Ab)))) Ab)))))
 (Ag (Bb (i:=11) Bx.nd rfl (Or.inl rfl) (Aw (Vp rfl) rfl T.max Yu (Aa (Ck (N':=["_law_places"]) rfl (Bk.plain rfl (by trivial) (by trivial) (by trivial)) (Dr (pv 9)) (λ_ _ _ _=>(Ak (i:=0) (show List.Nodup (["_law_places"]:List Str) by trivial) rfl (Or.inl rfl))) (λ_ _ _ _=>CJ) (λ_ _ _ _=>(Aw (dD (K:=K) rfl rfl) rfl T.max Yu (Aa (Ax iU hr (Aa (pv 0) Ab)) Ab)))) Ab)))
 (Ag (Bb (i:=12) Bx.nd rfl (Or.inl rfl) (BL Ab))
 (Ag (BW QbA rfl (Dr (pv 9)) (Ak (i:=13) Bx.nd rfl (Or.inl rfl))
 (Ai (BW QbA rfl (Fg (pv 13)) (CV rfl (Aq (Ak (i:=14) Bx.nd rfl (Or.inl rfl)) (Aq (Ak (i:=15) Bx.nd rfl (Or.inl rfl)) (Aq (Ak (i:=16) Bx.nd rfl (Or.inl rfl)) Bw))))
 (Ai (Bg (CG Qaq Qao Qap Il (pv 12) (Aa (Ck (N':=["_law_other","_law_number"]) rfl (Bk.plain rfl (by trivial) (by trivial) (by trivial)) (Fg (Bd Lx (Bh (Aa (Bh (Aa (pv 14) (Aa (pv 15) Ab))) Ab)) (pv 16))) (λ_ _ _ _=>(Ik (K:=K) (n:=2) rfl rfl (Aq (Ak (i:=0) (show List.Nodup (["_law_other","_law_number"]:List Str) by trivial) rfl (Or.inl rfl)) (Aq (Ak (i:=1) (show List.Nodup (["_law_other","_law_number"]:List Str) by trivial) rfl (Or.inl rfl)) Bw)))) (λ_ _ _ _=>(Li (Bq (S5 (K:=K) rfl) (pv 0) (Bh (Aa Bf (Aa Bf Ab))) (by with_unfolding_all rfl)))) (λ_ _ _ _=>(pv 1))) Ab)))))))
 (Ag (Bb (i:=17) Bx.nd rfl (Or.inl rfl) (BL Ab))
 (Ag (Bb (i:=18) Bx.nd rfl (Or.inl rfl) (Ax iV hr (Aa (pv 0) (Aa (Ax Bj hr (Aa (pv 0) (Aa Ae Ab))) Ab))))
 (Ag (BW QbA rfl (Dr (pv 18)) (Ak (i:=19) Bx.nd rfl (Or.inl rfl))
 (Ag (Bb (i:=20) Bx.nd rfl (Or.inr rfl) (Aw Yq rfl T.sorted Vq (Aa (Ck (N':=["_law_number","_law_bag_here"]) rfl (Bk.of (src:=[none,some 0]) (Aj Jp) ["_law_bag_here","_law_most_loops","_law_most_places","_law_start","_law_stride","_law_numbers","_law_own","_law_first","_law_at","_law_loops","_law_loop_here","_law_most","_law_told","_law_places","_law_kind_here","_law_address","_law_spur","_law_zones","_law_names_here","_law_name_here","_law_some"] rfl rfl rfl (by trivial) (by trivial) (by trivial) rfl (by trivial)) (Dr (pv 12)) (λ_ _ _ _=>(Ak (i:=0) (show List.Nodup (["_law_number","_law_bag_here"]:List Str) by trivial) rfl (Or.inl rfl))) (λ_ _ _ _=>(Li (Bq Gy (Ax Bj hr (Aa (pv 1) (Aa Ae Ab))) Ae (BJ _)))) (λ_ _ _ _=>(pv 0))) Ab)))
 (Ag (ZX (i:=12) Bx.nd rfl (Or.inl rfl) (N':=["_law_number","_law_some"]) rfl (Bk.of (src:=[none,some 20]) (Aj Jp) ["_law_bag_here","_law_most_loops","_law_most_places","_law_start","_law_stride","_law_numbers","_law_own","_law_first","_law_at","_law_loops","_law_loop_here","_law_most","_law_told","_law_places","_law_kind_here","_law_address","_law_spur","_law_zones","_law_names_here","_law_name_here","_law_some"] rfl rfl rfl (by trivial) (by trivial) (by trivial) rfl (by trivial)) (Dr (pv 12)) (λ_ _ _ _=>(Ak (i:=0) (show List.Nodup (["_law_number","_law_some"]:List Str) by trivial) rfl (Or.inl rfl))) (λ_ _ _ _=>(Li (Bq (O2 (K:=K) rfl) (pv 0) (pv 1) (by with_unfolding_all rfl)))) (λ_ _ _ _=>(pv 0)))
 (Ai (BP (Bq V8 (Aw Bs rfl T.len CW (Aa (pv 20) Ab)) Ae (BJ _)) (Ai (Bg (CG Qaq Qam Qan Cd (pv 17) (Aa (Bh (Aa (pv 19) (Aa (Ed Gi rfl T.tuple JB (Aa (pv 20) Ab)) Ab))) Ab)))) BR)))))
 (Ai (Ba (Bh (Aa (Aw (Vo rfl) rfl T.min jE (Aa Ae (Aa (Bd Cj (pv 11) (Ax Bj hr (Aa (pv 0) (Aa Ae Ab)))) Ab))) (Aa (Ed Gi rfl T.tuple JB (Aa (pv 9) Ab)) (Aa (Ed Gi rfl T.tuple JB (Aa (pv 17) Ab)) Ab))))))))))))))))))))),?_⟩
 generalize hst:L2.start _ _=σ0
 have e0:σ0=[some (.ref b),some (.int ml),some (.int mp),none,none,none,none,none,none,none,none,none,none,none,none,none,none,none,none,none,none]:=hst.symm
 clear hst
 subst e0
 refine⟨_,rfl,b,n,99,rfl,hb,by omega,by decide,by decide,λr1 H1 r10 r11 hb1 sb1=>?_⟩
 simp only[QaQ,QaO]
 refine⟨Ar (by show 9<=1000;decide),λl9 hl9=>?_⟩
 have s9:=Af hl9 (.lst [.int 1,.int 2,.int 4,.int 5,.int 7,.int 8,.int 10,.int 13,.int 98])
 refine⟨_,rfl,b,_,9,rfl,hb1.same s9,by omega,by decide,by decide,λr2 H2 r20 r21 hb2 sb2=>?_⟩
 obtain⟨sd,esd,⟨sd0,sd1⟩,sdk⟩:=FB r20 r21 (a:=1) (b:=2) (c:=4) (d:=5) (e:=7) (f:=8) (g:=10) (h:=13) (k:=98) (λp=>(0<=p/\p<=98)/\DQ p) (by unfold DQ;decide) (by unfold DQ;decide) (by unfold DQ;decide) (by unfold DQ;decide) (by unfold DQ;decide) (by unfold DQ;decide) (by unfold DQ;decide) (by unfold DQ;decide) (by unfold DQ;decide)
 refine⟨l9,_,_,_,rfl,rfl,SqL.of (sb2 _ _ Ac (hb1.nb hl9).symm),esd,?_⟩
 simp only[QaQ,QaO]
 have sB2:Ah b H H2:=(sb1.trans (Ah.of s9)).trans sb2
 refine⟨_,rfl,by decide,by decide,λnb pB=>?_⟩
 have nbn:b≠nb:=hb2.nb pB
 have fnb:H nb=none:=sB2.free hb2.ex pB
 refine KH (λi σ HH=>∃(u:Option V) (ns:List Int),σ=[u,some (.int r1),some (.int sd)]/\HH=upd H2 nb (.lst (ns.map V.int))/\ns=M7 r1 sd i) ⟨none,[],rfl,rfl,rfl⟩ (λi σ HH hi h=>?_) (fun σ HH h=>?_)
 ·obtain⟨u,ns,rfl,rfl,e1⟩:=h
  have hi:i < 30:=hi
  have e1l:ns.length=i:=by rw[e1];unfold M7;rw[Qbx,Qbj]
  refine⟨_,rfl,_,rfl,_,rfl,_,_,rfl,rfl,.inl ⟨by omega,by omega⟩,_,_,rfl,rfl,_,_,rfl,rfl,(by show (0:Int) < 99;decide),_,_,rfl,rfl,_,Ac,Ao (by rw[Qbx];omega),_,ns++[(r1+sd*(0+(i:Int))) % 99+1],rfl,?_,by rw[gP,e1]⟩
  rw[Qp,Qby]
  rfl
 obtain⟨u,mC,rfl,rfl,e30⟩:=h
 have pO:mC=M7 r1 sd 30:=e30
 have e30:mC.length=30:=by rw[pO];unfold M7;rw[Qbx,Qbj]
 simp only[QaQ,QaO]
 cases mC with
 | nil=>cases e30
 | cons own G9=>
 have e29:G9.length=29:=by simpa using e30
 have zj:(own::G9).Nodup:=by rw[pO];exact sW sdk
 have zm:∀x∈own::G9,1<=x/\x<=99:=by rw[pO];exact sY r1 sd 30
 have sN:=Af pB (.lst ((own::G9).map V.int))
 refine⟨_,rfl,.inl ⟨rfl,_,SqL.of Ac⟩,nb,_,0,0,.int own,rfl,rfl,Ac,by decide,by decide,fO (by rw[Qbx];show 0 < _+1;omega),rfl,?_⟩
 simp only[QaQ,QaO]
 have w5:upd (upd H2 nb (.lst ((own::G9).map V.int))) nb (.lst (((own::G9).map V.int).eraseIdx 0)) nb=some (.lst (G9.map V.int)):=by rw[Ac];rfl
 have hb4:Bp (upd (upd H2 nb (.lst ((own::G9).map V.int))) nb (.lst (((own::G9).map V.int).eraseIdx 0))) b (n+1+1):=(hb2.same sN).Cu Ah.upd nbn
 have sB4:Ah b H (upd (upd H2 nb (.lst ((own::G9).map V.int))) nb (.lst (((own::G9).map V.int).eraseIdx 0))):=Ah.Ku (sB2.trans (Ah.of sN)) Ah.upd fnb
 generalize upd (upd H2 nb (.lst ((own::G9).map V.int))) nb (.lst (((own::G9).map V.int).eraseIdx 0))=H4 at w5 hb4 sB4
 refine⟨Ar (by show 0<=1000;decide),λf0 hf0=>?_⟩
 simp only[QaQ,QaO]
 have s5:=Af hf0 (.tup [])
 refine⟨b,nb,f0,_,mp,G9,rfl,rfl,rfl,rfl,Ac,hb4.same s5,by omega,nbn,s5 _ _ w5,Dx,hmp,by omega,λft fv fp ns1 H5 hft hfp xJ hfl Db De hb5 s45=>?_⟩
 simp only[QaQ,QaO]
 have sB5:Ah b H H5:=λc o e nc=>s45 _ _ (s5 _ _ (sB4 _ _ e nc)) nc (λz=>by rw[z,fnb] at e;cases e)
 have lfv:=QbR hfp
 refine⟨_,rfl,_,rfl,ft,_,rfl,.inr (SqT.of hft),_,_,rfl,rfl,b,_,_,rfl,hb5,by omega,by omega,by omega,λr4 H6 r40 r41 hb6 sb6=>?_⟩
 simp only[QaQ,QaO]
 obtain⟨an,han⟩ : ∃an:Nat,r4=an:=⟨r4.toNat,by omega⟩
 subst han
 have xu:=(sb6.tup hb5.Ew) _ _ hft
 have xH:=Pn.tups (sb6.tup hb5.Ew) hfp
 have wZ:=sb6 _ _ De nbn.symm
 have sB6:=sB5.trans sb6
 refine⟨_,rfl,_,rfl,_,rfl,ft,fv,rfl,xu,λp1 H7 hp1 s7=>?_⟩
 rw[yu (by omega)] at hp1
 refine⟨_,rfl,Ar (by show 0<=1000;decide),λe0 he0=>⟨Ar (by show 3<=1000;decide),λt3 ht3=>⟨Ar (by show 1<=1000;decide),λt1 ht1=>?_⟩⟩⟩
 have q1:=Af he0 (.tup [])
 have q2:=Af ht3 (.tup [.str "seeker",.int own,.ref e0])
 have q3:=Af ht1 (.tup [.ref t3])
 have q13:=(q1.trans q2).trans q3
 have hown:Dk (upd (upd (upd H7 e0 (.tup [])) t3 (.tup [.str "seeker",.int own,.ref e0])) t1 (.tup [.ref t3])) (.ref t3) ⟨"seeker",own,[]⟩:=⟨t3,e0,[],rfl,q3 _ _ Ac,q3 _ _ (q2 _ _ Ac),.nil⟩
 refine⟨p1,t1,_,_,rfl,rfl,q13 _ _ hp1,Ac,Ar (by rw[Qbp];show _+1<=1000;omega),λp2 H8 hp2 s8=>?_⟩
 have s68:=(s7.trans q13).trans s8
 refine⟨_,rfl,_,rfl,_,rfl,ft,fv,rfl,s68 _ _ xu,λp3 H9 hp3 s9'=>?_⟩
 rw[R3 (by omega)] at hp3
 refine⟨p2,p3,_,_,rfl,rfl,s9' _ _ hp2,hp3,Ar (by rw[QaM,Qbp,Qbt];show _+1+_<=1000;omega),λp4 H10 hp4 s10=>⟨Ar (by show 1<=1000;decide),λll hll=>?_⟩⟩
 simp only[QaQ,QaO]
 have W7:=(s68.trans s9').trans s10
 have s11:=Af hll (.lst [.ref p4])
 have W3:=W7.trans s11
 have hL0:LoopAt (upd H10 ll (.lst [.ref p4])) (.ref p4) ((fp.take an++[⟨"seeker",own,[]⟩])++fp.drop an):=by
  refine⟨p4,_,rfl,s11 _ _ hp4,Paired.app (Paired.app (Pn.tups (Am.of W3) (Paired.qp an xH)) (.cons ?_ .nil)) (Pn.tups (Am.of W3) (Paired.qQ an xH))⟩
  exact hown.tups (Am.of (((s8.trans s9').trans s10).trans s11))
 have wj:OkL ((fp.take an++[⟨"seeker",own,[]⟩])++fp.drop an):=by
  refine⟨?_,?_,λp hp=>?_⟩
  ·rw[QaM,QaM];show 1<=_+1+_;omega
  ·rw[QaM,QaM,Qbp,Qbt];show _+1+_<=12;omega
  ·rcases Qbz.mp hp with z | z
   ·rcases Qbz.mp z with z | z
    ·exact xJ p (List.mem_of_mem_take z)
    ·have:p=⟨"seeker",own,[]⟩:=by simpa using z
     rw[this]
     exact⟨by show 0<=3;decide,(λd hd=>by cases hd),.inr (.inl rfl)⟩
   ·exact xJ p (List.mem_of_mem_drop z)
 have pm0:(adL ((fp.take an++[⟨"seeker",own,[]⟩])++fp.drop an)++ns1).Perm (own::G9):=by
  have h2:adL fp=adL (fp.take an)++adL (fp.drop an):=by rw[<-K1,List.take_append_drop]
  have h3:adL [(⟨"seeker",own,[]⟩ : Place)]=[own]:=by
   have:adP ⟨"seeker",own,[]⟩=[own]:=if_neg (Tg (.inl rfl))
   show [(⟨"seeker",own,[]⟩ : Place)].flatMap adP=[own]
   simp[this]
  rw[K1,K1,h3,Db,h2,Qbd,Qbd,Qbd]
  exact (List.perm_middle (l₁:=adL (fp.take an)) (a:=own) (l₂:=adL (fp.drop an)++ns1))
 have zO:1<=(adL ((fp.take an++[⟨"seeker",own,[]⟩])++fp.drop an)).length:=by
  have h3:adL [(⟨"seeker",own,[]⟩ : Place)]=[own]:=by
   have:adP ⟨"seeker",own,[]⟩=[own]:=if_neg (Tg (.inl rfl))
   show [(⟨"seeker",own,[]⟩ : Place)].flatMap adP=[own]
   simp[this]
  rw[K1,K1,h3,QaM,QaM]
  show 1<=_+1+_
  omega
 generalize HG:(fp.take an++[⟨"seeker",own,[]⟩])++fp.drop an=L0 at hL0 wj pm0 zO
 have hbL:Bp (upd H10 ll (.lst [.ref p4])) b (n+1+1+101+1):=hb6.same W3
 have wY:=W3 _ _ wZ
 have sBL:Ah b H (upd H10 ll (.lst [.ref p4])):=sB6.trans (Ah.of W3)
 have xg:upd H10 ll (.lst [.ref p4]) ll=some (.lst [.ref p4]):=Ac
 have fll:H ll=none:=(sB6.trans (Ah.of W7)).free (hb6.same W7).ex hll
 have nbl:b≠ll:=(hb6.same W7).nb hll
 have nnl:nb≠ll:=Av (W7 _ _ wZ) hll
 generalize upd H10 ll (.lst [.ref p4])=HL at hL0 hbL wY sBL xg
 refine⟨_,rfl,_,rfl,b,_,_,rfl,hbL,by omega,by omega,by omega,λr5 HM r50 r51 hbM sbM=>⟨_,rfl,by omega,by omega,?_⟩⟩
 obtain⟨lnn,DA⟩ : ∃lnn:Nat,r5=lnn:=⟨r5.toNat,by omega⟩
 subst DA
 rw[Qbe]
 have tM:=sbM.tup hbL.Ew
 have AS:∀ps∈[L0],OkL ps:=λps hps=>by
  have:ps=L0:=by simpa using hps
  rw[this];exact wj
 refine Dl (λi σ HH=>∃(u10:Option V) (vs:List V) (loops:List (List Place)) (ns':List Int),σ=[some (.ref b),some (.int ml),some (.int mp),some (.int r1),some (.int sd),some (.ref nb),some (.int own),some (.ref ft),some (.int (an:Int)),some (.ref ll),u10,none,none,none,none,none,none,none,none,none,none] /\
   HH ll=some (.lst vs)/\Paired (LoopAt HH) vs loops/\loops.length=1+i/\(∀ps∈loops,OkL ps)/\((Cg loops++ns').Perm (own::G9)/\∃L,loops=L0::L)/\HH nb=some (.lst (ns'.map V.int))/\Bp HH b (n+105+101*i)/\Ah b H HH)
  ⟨_,[.ref p4],[L0],ns1,rfl,sbM _ _ xg nbl.symm,.cons (hL0.tups tM) .nil,rfl,AS,⟨(by show ([L0].flatMap adL++_).Perm _;simpa using pm0),[],rfl⟩,sbM _ _ wY nbn.symm,hbM.mono (by omega),sBL.trans sbM⟩ (λi σ HH hi h=>?_) (fun σ HH h=>?_)
 ·obtain⟨u10,vs,loops,ns',rfl,e1,e2,e3,e4,⟨e5p,Lr,hLr⟩,e6,e7,e8⟩:=h
  have e5:(Cg loops).length+ns'.length=30:=by
   have:=e5p.length_eq
   rw[QaM,Qbq,e29] at this
   exact this
  simp only[QaQ,QaO]
  refine⟨_,rfl,.inl ⟨rfl,_,SqL.of e1⟩,_,rfl,_,rfl,_,rfl,b,nb,_,mp,ns',rfl,e7,by omega,nbn,e6,by omega,by omega,by omega,λt ps AW H' hL hok h1 h2 hns hnb' hb' s2=>?_⟩
  have e1':=s2 _ _ e1 nbl.symm nnl.symm
  have t2:Am HH H':=λc xs e=>s2 _ _ e (λz=>e7.Ew _ (z ▸ e)) (λz=>by rw[z,e6] at e;cases e)
  refine⟨ll,_,_,rfl,rfl,e1',Ao (by rw[QbR e2];omega),?_⟩
  have tv0:∀zs,H' ll≠some (.tup zs):=λzs z=>by rw[e1'] at z;cases z
  have tv:=Am.upd (o:=.lst (vs++[.ref t])) tv0
  refine⟨_,vs++[.ref t],loops++[ps],AW,rfl,Ac,Qck (hL.tups tv) (Ln.tups tv (Ln.tups t2 e2)),by rw[QaM,e3];show _+1=_;omega,λp hp=>?_,?_,by rw[Al nnl];exact hnb',(hb'.Cu Ah.upd nbl).mono (by omega),λc o e nc=>?_⟩
  ·rcases Qbz.mp hp with z | z
   ·exact e4 p z
   ·have:p=ps:=by simpa using z
    rw[this];exact⟨h1,by omega,hok⟩
  ·refine⟨?_,Lr++[ps],by rw[hLr];rfl⟩
   rw[Vw,Qbd,<-hns]
   exact e5p
  ·rw[Al (λz=>by rw[z,fll] at e;cases e)]
   exact s2 _ _ (e8 _ _ e nc) nc (λz=>by rw[z,fnb] at e;cases e)
 obtain⟨u10,vs,loops,ns',rfl,e1,e2,e3,e4,⟨e5p,iJ⟩,e6,e7,e8⟩:=h
 have e5:(Cg loops).length+ns'.length=30:=by
  have:=e5p.length_eq
  rw[QaM,Qbq,e29] at this
  exact this
 have lvs:=QbR e2
 have ndA:(Cg loops).Nodup:=(Qbn.mp (e5p.nodup_iff.mpr zj)).1
 have bdA:∀x∈Cg loops,1<=x/\x<=99:=λx hx=>zm x (e5p.mem_iff.mp (QaB _ hx))
 have uN:=O9 e4
 refine⟨_,rfl,ll,rfl,⟨_,SqL.of e1⟩,λlm hlm=>?_⟩
 have nlm:ll≠lm:=Av e1 hlm
 refine Gd (xs:=vs) (λi σ H'=>∃(u:Option V) (ms:List Int),σ=[u]/\H' lm=some (.lst (ms.map V.int))/\ms.length=i/\Same HH H'/\∀ps∈loops.take i,∀m∈Gx ps,∃M∈ms,m<=M) ⟨none,[],rfl,Ac,rfl,Af hlm _,(λps hps=>by cases hps)⟩ (λi σ H' _ h=>?_) (λi x σ H' hx h=>?_) (fun σ H' h=>?_)
 ·obtain⟨u,ms,rfl,m1,m2,m3,m4⟩:=h
  exact SqL.of (m3 _ _ e1)
 ·obtain⟨u,ms,rfl,m1,m2,m3,m4⟩:=h
  obtain⟨ps,hps,hL⟩:=Paired.Ci e2 hx
  obtain⟨tx,wx,rfl,hx1,hx2⟩:=id hL
  have okl:=e4 ps (Qaz hps)
  refine⟨_,rfl,tx,ps,rfl,hL.tups (Am.of m3),okl.ok,by have:=okl.hi;omega,λlq H'' hq s'=>⟨lq,Gx ps,rfl,SqL.of hq,(by unfold Gx;rw[QaM];show 0 < _+1;omega),λM hMi hMm=>?_⟩⟩
  have hi:=(Qai.mp hx).1
  refine⟨_,s' _ _ m1,Ao (by rw[Qbx];omega),_,ms++[M],rfl,by rw[Ac,Qby];rfl,by rw[QaM,m2];rfl,(m3.trans s').Bt Ah.upd hlm,λqs hqs m hm=>?_⟩
  rw[Qcq hps] at hqs
  rcases Qbz.mp hqs with hqs | hqs
  ·obtain⟨M',h1,h2⟩:=m4 qs hqs m hm
   exact⟨M',QaB _ h1,h2⟩
  ·have:qs=ps:=by simpa using hqs
   rw[this] at hm
   exact⟨M,Qaw _ (QaN ..),hMm m hm⟩
 obtain⟨u,ms,rfl,m1,m2,m3,m4⟩:=h
 refine⟨lm,ms,rfl,SqL.of m1,by omega,λM hMi hMm=>?_⟩
 have wF:∀ps∈loops,∀m∈Gx ps,m<=M:=λps hps m hm=>by
  obtain⟨M',h1,h2⟩:=m4 ps (by rw[lvs,Qbo];exact hps) m hm
  have:=hMm M' h1
  omega
 simp only[QaQ,QaO]
 have e1:=m3 _ _ e1
 have e2:=Ln.tups (Am.of m3) e2
 have e7:=e7.same m3
 have e8:=e8.trans (Ah.of m3)
 clear m1 m2
 refine⟨Ar (by show 0<=1000;decide),λlt hlt=>?_⟩
 simp only[QaQ,QaO]
 have sT:=Af hlt (.lst [])
 have nbt:b≠lt:=e7.nb hlt
 refine⟨_,rfl,ll,rfl,⟨_,SqL.of (sT _ _ e1)⟩,?_⟩
 refine RT (xs:=vs) (λi σ HT=>∃(u13 u14 u15 u16:Option V) (ts:List Int),σ=[some (.ref b),some (.int ml),some (.int mp),some (.int r1),some (.int sd),some (.ref nb),some (.int own),some (.ref ft),some (.int (an:Int)),some (.ref ll),u10,some (.int M),some (.ref lt),u13,u14,u15,u16,none,none,none,none] /\
   HT lt=some (.lst (ts.map V.int))/\ts=DX (loops.take i)/\Same H' HT) ⟨_,_,_,_,[],rfl,Ac,rfl,sT⟩ (λi σ HT _ h=>?_) (λi x σ HT hx h=>?_) (fun σ HT h=>?_)
 ·obtain⟨u13,u14,u15,u16,ts,rfl,t1,t2,t3⟩:=h
  exact SqL.of (t3 _ _ e1)
 ·obtain⟨u13,u14,u15,u16,ts,rfl,t1,t2,t3⟩:=h
  simp only[QaQ,QaO]
  obtain⟨ps,hps,hL⟩:=Paired.Ci e2 hx
  obtain⟨tx,wx,rfl,hx1,hx2⟩:=id hL
  have okl:=e4 ps (Qaz hps)
  have lwx:=QbR hx2
  have etk:Cg (loops.take (i+1))=Cg (loops.take i)++adL ps:=by rw[Qcq hps,Vw]
  have tot:(Cg (loops.take (i+1))).length<=30:=by
   have:Cg loops=Cg (loops.take (i+1))++Cg (loops.drop (i+1)):=by unfold Cg;rw[<-QaI,List.take_append_drop]
   have h2:=congrArg List.length this
   rw[QaM] at h2
   omega
  rw[etk,QaM] at tot
  have wle:(DX (loops.take i)).length<=(Cg (loops.take i)).length:=(O9 λqs hqs=>e4 qs (List.mem_of_mem_take hqs)).length_le
  have wtk:DX (loops.take (i+1))=DX (loops.take i)++Hz ps:=by rw[Qcq hps,aN]
  refine⟨_,rfl,tx,rfl,⟨_,SqT.of (t3 _ _ hx1)⟩,?_⟩
  refine KZ (xs:=wx) (λj σ HT=>∃(u14 u15 u16:Option V) (ts:List Int),σ=[some (.ref b),some (.int ml),some (.int mp),some (.int r1),some (.int sd),some (.ref nb),some (.int own),some (.ref ft),some (.int (an:Int)),some (.ref ll),u10,some (.int M),some (.ref lt),some (.ref tx),u14,u15,u16,none,none,none,none] /\
    HT lt=some (.lst (ts.map V.int))/\ts=DX (loops.take i)++Hz (ps.take j)/\Same H' HT) ⟨_,_,_,ts,rfl,t1,(by rw[t2];show _=_++[];rw[QbD]),t3⟩ (λj σ HT _ h=>?_) (λj y σ HT hy h=>?_) (fun σ HT h=>?_)
  ·obtain⟨u14,u15,u16,ts,rfl,t1,t2,t3⟩:=h
   exact SqT.of (t3 _ _ hx1)
  ·obtain⟨u14,u15,u16,ts,rfl,t1,t2,t3⟩:=h
   obtain⟨p,hp,hP⟩:=Paired.Ci hx2 hy
   obtain⟨tp,up,wp',rfl,hp1,hp2,hp3⟩:=hP.tups (Am.of t3)
   have okp:=okl.ok p (Qaz hp)
   have etj:adL (ps.take (j+1))=adL (ps.take j)++adP p:=by rw[Qcq hp,R7]
   have tj:(adL (ps.take (j+1))).length<=(adL ps).length:=by
    have:adL ps=adL (ps.take (j+1))++adL (ps.drop (j+1)):=by rw[<-K1,List.take_append_drop]
    have h2:=congrArg List.length this
    rw[QaM] at h2
    omega
   rw[etj,QaM] at tj
   have wlj:(Hz (ps.take j)).length<=(adL (ps.take j)).length:=(Rm λqs hqs=>okl.ok qs (List.mem_of_mem_take hqs)).length_le
   have wtj:Hz (ps.take (j+1))=Hz (ps.take j)++G7 (Eu p):=by rw[Qcq hp,d9]
   have t2l:ts.length<=(Cg (loops.take i)).length+(adL (ps.take j)).length:=by rw[t2,QaM];omega
   refine⟨tp,_,rfl,SqT.of hp1,rfl,_,_,rfl,_,_,rfl,_,_,rfl,rfl,?_⟩
   simp only[QaQ,QaO]
   refine⟨_,rfl,.inl ⟨rfl,_,SqL.of t1⟩,_,rfl,_,rfl,Ar (by show 2<=1000;decide),λta hta=>⟨Ar (by show 1<=1000;decide),λtb htb=>?_⟩⟩
   have v1:=Af hta (.tup [.str p.kind,.int p.addr])
   have v2:=Af htb (.tup [.ref ta])
   have v12:=v1.trans v2
   refine⟨_,rfl,tb,up,_,_,rfl,rfl,Ac,v12 _ _ hp2,Ar (by have:=okp.spur;show 1+_<=1000;rw[QbR hp3];omega),λtc HC hC sC=>⟨tc,rfl,⟨_,SqT.of hC⟩,λl hl=>?_⟩⟩
   have vC:=v12.trans sC
   have hds:Paired (Jh HC) ([.ref ta]++wp') (⟨p.kind,p.addr⟩::p.spur):=.cons ⟨ta,rfl,sC _ _ (v2 _ _ Ac)⟩ (Paired.Az hp3 λ_ _ z=>z.tups (Am.of vC))
   have lds:=QbR hds
   refine R4 (xs:=[.ref ta]++wp') (λk σ H5=>∃(u v:Option V) (ys:List Int),σ=[u,v]/\H5 l=some (.lst (ys.map V.int))/\ys=G7 ((Eu p).take k)/\Same HC H5) ⟨none,none,[],rfl,Ac,rfl,Af hl _⟩ (λk σ H5 _ h=>?_) (λk x σ H5 hk h=>?_) (fun σ H5 h=>?_)
   ·obtain⟨u,v,ys,rfl,y1,y2,y3⟩:=h
    exact SqT.of (y3 _ _ hC)
   ·obtain⟨u,v,ys,rfl,y1,y2,y3⟩:=h
    obtain⟨d,hd,td,rfl,htd⟩:=Paired.Ci hds hk
    have hkl:=(Qai.mp hd).1
    have hsp:=okp.spur
    have hkk:k < 4:=by rw[Qbq] at hkl;omega
    have hdv:(Eu p)[k]?=some d:=hd
    have hws:G7 ((Eu p).take (k+1))=G7 ((Eu p).take k)++(if DP d.kind=true then [d.addr] else []):=by rw[Qcq hdv,eE]
    have y2l:ys.length<=k:=by
     rw[y2]
     have:=(Zr (ds:=(Eu p).take k)).length_le
     rw[Qbx,Qbp] at this
     omega
    refine⟨td,_,rfl,SqT.of (y3 _ _ htd),rfl,_,_,rfl,_,_,rfl,rfl,?_⟩
    refine⟨_,rfl,Ar (by show 2<=1000;decide),λtq htq=>?_⟩
    have vq:=Af htq (.tup [.str "seeker",.str "knob"])
    refine⟨tq,_,rfl,.inr (SqT.of Ac),rfl,rfl,_,rfl,Fv (λcc=>?_) (λcc=>?_)⟩
    ·have cc:DP d.kind=true:=cc
     rw[if_pos cc] at hws
     refine⟨_,rfl,_,vq _ _ y1,Ao (by rw[Qbx];omega),_,_,ys++[d.addr],rfl,by rw[Ac,Qby];rfl,by rw[hws,y2],(y3.trans vq).Bt Ah.upd hl⟩
    ·have cc:¬DP d.kind=true:=cc
     rw[if_neg cc,QbD] at hws
     refine⟨_,_,ys,rfl,vq _ _ y1,by rw[hws];exact y2,y3.trans vq⟩
   obtain⟨u,v,ys,rfl,y1,y2,y3⟩:=h
   have y2':ys=G7 (Eu p):=by
    rw[y2,lds]
    congr 1
    exact Qbo ..
   have y2l:ys.length<=(adP p).length:=by rw[y2'];exact (Wg okp).length_le
   have t1':=y3 _ _ (vC _ _ t1)
   refine⟨lt,l,_,_,rfl,rfl,t1',y1,Ar (by rw[Qbx,Qbx];omega),?_⟩
   refine⟨_,_,_,ts++ys,rfl,by rw[Ac,Qby],?_,((t3.trans vC).trans y3).Bt Ah.upd hlt⟩
   rw[wtj,t2,y2',Qbd]
  ·obtain⟨u14,u15,u16,ts,rfl,t1,t2,t3⟩:=h
   rw[lwx,Qbo] at t2
   exact⟨_,_,_,_,ts,rfl,t1,by rw[wtk];exact t2,t3⟩
 obtain⟨u13,u14,u15,u16,ts,rfl,t1,t2,t3⟩:=h
 rw[lvs,Qbo] at t2
 have j6:ts.length<=30:=by rw[t2];have:=uN.length_le;omega
 have zk0:Oz (DX loops) ts [] []:=by
  rw[t2]
  exact⟨uN.nodup ndA,(λx hx=>hx),(λz hz=>by cases hz),List.Sublist.refl _⟩
 have e1:=t3 _ _ e1
 have e2:=Ln.tups (Am.of t3) e2
 have e7:=e7.same t3
 have e8:=e8.trans (Ah.of t3)
 refine⟨Ar (by show 0<=1000;decide),λlz hlz=>?_⟩
 simp only[QaQ,QaO]
 have sZ:=Af hlz (.lst [])
 have nzl:ll≠lz:=Av e1 hlz
 have nzt:lt≠lz:=Av t1 hlz
 have nzb:b≠lz:=e7.nb hlz
 have flz:H lz=none:=e8.free e7.ex hlz
 refine⟨_,rfl,_,rfl,b,_,5,rfl,e7.same sZ,by omega,by decide,by decide,λr6 HU r60 r61 hbU sU=>?_⟩
 obtain⟨rn,hrn⟩ : ∃rn:Nat,r6=rn:=⟨r6.toNat,by omega⟩
 subst hrn
 refine⟨b,_,rn,rfl,hbU,by omega,by omega,λln ys HV hln ly hys zX cR hbV sV=>?_⟩
 simp only[QaQ,QaO]
 have sUV:Ah b _ HV:=((Ah.of sZ).trans sU).trans sV
 have nzn:ln≠lz:=λz=>by rw[z,sU _ _ Ac nzb.symm] at hln;cases hln
 have e1:=sUV _ _ e1 nbl.symm
 have e2:=Ln.tups (sUV.tup e7.Ew) e2
 have e8:=e8.trans sUV
 have hzV:HV lz=some (.lst []):=sV _ _ (sU _ _ Ac nzb.symm) nzb.symm
 have t1:=sUV _ _ t1 nbt.symm
 have hbV:=hbV.mono (show _<=n+500 by omega)
 have tl3:loops.length<=3:=by omega
 have nln:b≠ln:=hbU.nb hln
 refine⟨_,rfl,ln,rfl,⟨_,SqL.of cR⟩,?_⟩
 refine RT (xs:=ys.map V.str) (λi σ HH=>∃(lt:Addr) (u19 u20:Option V) (ts:List Int) (zs:List V),σ=[some (.ref b),some (.int ml),some (.int mp),some (.int r1),some (.int sd),some (.ref nb),some (.int own),some (.ref ft),some (.int (an:Int)),some (.ref ll),u10,some (.int M),some (.ref lt),u13,u14,u15,u16,some (.ref lz),some (.ref ln),u19,u20] /\
   HH lt=some (.lst (ts.map V.int))/\ts.length<=30/\b≠lt/\lt≠lz/\HH lz=some (.lst zs)/\(∃zones,Paired (Hv HH) zs zones/\Oz (DX loops) ts zones (ys.take i))/\HH ln=some (.lst (ys.map V.str))/\HH ll=some (.lst vs)/\Paired (LoopAt HH) vs loops/\Bp HH b (n+500+30*i)/\Ah b H HH)
  ⟨lt,_,_,ts,[],rfl,t1,j6,nbt,nzt,hzV,⟨[],.nil,zk0⟩,cR,e1,e2,hbV,e8⟩ (λi σ HH _ h=>?_) (λi x σ HH hx h=>?_) (fun σ HH h=>?_)
 ·obtain⟨lt,u19,u20,ts,zs,rfl,z1,z2,z3,z4,z5,z6,z7,z8,z9,z10,z11⟩:=h
  exact SqL.of z7
 ·clear t1 t2 t3 j6 nbt nzt hzV cR e1 e2 hbV e8
  obtain⟨lt,u19,u20,ts,zs,rfl,z1,z2,z3,z4,z5,z6,z7,z8,z9,z10,z11⟩:=h
  obtain⟨zones,zp,zk⟩:=z6
  have zW:zs.length<=5:=by
   have h1:=QbR zp
   have h2:=zk.nm.length_le
   rw[Qbx,Qbp] at h2
   omega
  obtain⟨yi,hyi,rfl⟩ : ∃yi,ys[i]?=some yi/\x=.str yi:=by
   rw[Qbc] at hx
   obtain⟨yi,h1,h2⟩:=Qau.mp hx
   exact⟨yi,h1,h2.symm⟩
  have ytk:ys.take (i+1)=ys.take i++[yi]:=Qcq hyi
  have hil:i < 5:=by
   have:=(Qai.mp hx).1
   rw[Qbx] at this
   omega
  simp only[QaQ,QaO]
  refine⟨_,rfl,lt,rfl,⟨_,SqL.of z1⟩,λlc hlc=>?_⟩
  have nbc:b≠lc:=z10.nb hlc
  have ntc:lt≠lc:=Av z1 hlc
  have sC:=Af hlc (.lst [])
  refine Gd (xs:=ts.map V.int) (λk σ HC=>∃(u:Option V) (ss:List Int),σ=[u,some (.ref b)]/\HC lc=some (.lst (ss.map V.int))/\ss.Sublist (ts.take k)/\Bp HC b (n+500+30*i+k)/\Ah b HH HC) ⟨none,[],rfl,Ac,List.Sublist.refl _,z10.same sC,Ah.of sC⟩ (λk σ HC _ h=>?_) (λk x σ HC hk h=>?_) (fun σ HC h=>?_)
  ·obtain⟨u,ss,rfl,c1,c2,c3,c4⟩:=h
   exact SqL.of (c4 _ _ z1 z3.symm)
  ·obtain⟨u,ss,rfl,c1,c2,c3,c4⟩:=h
   have hkl:k < 30:=by
    have:=(Qai.mp hk).1
    rw[Qbx] at this
    omega
   refine⟨_,rfl,b,_,3,rfl,c3,by omega,by decide,by decide,λr HD _ _ hbD sD=>⟨rfl,_,rfl,?_⟩⟩
   have c1':=sD _ _ c1 nbc.symm
   rw[Qbc] at hk
   obtain⟨a,hka,rfl⟩:=Qau.mp hk
   have tka:ts.take (k+1)=ts.take k++[a]:=Qcq hka
   have ssl:ss.length<=k:=Qcd c2.length_le (by rw[Qbp];omega)
   refine Fv (λcc=>?_) (λcc=>?_)
   ·refine⟨_,rfl,_,c1',Ao (by rw[Qbx];omega),_,ss++[a],rfl,by rw[Ac,Qby];rfl,by rw[tka];exact c2.append (List.Sublist.refl _),hbD.Cu Ah.upd nbc,Ah.Ku (c4.trans sD) Ah.upd hlc⟩
   ·exact⟨_,ss,rfl,c1',by rw[tka];exact c2.trans (List.sublist_append_left ..),hbD,c4.trans sD⟩
  obtain⟨u,ss,rfl,c1,c2,c3,c4⟩:=h
  rw[Qbx] at c2 c3
  rw[Qbo] at c2
  have ssl:ss.length<=30:=Qcd c2.length_le z2
  refine⟨lc,ss,rfl,SqL.of c1,by omega,λms ls hperm Oh hls=>?_⟩
  simp only[QaQ,QaO]
  have sS:=Af hls (.lst (ms.map V.int))
  have c5:Ah b HH (upd HC ls (.lst (ms.map V.int))):=c4.trans (Ah.of sS)
  have c6:=c3.same sS
  have c7:(upd HC ls (.lst (ms.map V.int))) ls=some (.lst (ms.map V.int)):=Ac
  generalize upd HC ls (.lst (ms.map V.int))=HS at c5 c6 c7
  have lms:ms.length<=30:=by have:=hperm.length_eq;omega
  have z1:=c5 _ _ z1 z3.symm
  refine⟨_,rfl,lt,rfl,⟨_,SqL.of z1⟩,λlw hlw=>?_⟩
  have nbw:b≠lw:=c6.nb hlw
  have nsw:ls≠lw:=Av c7 hlw
  have nzw:lw≠lz:=(Av (c5 _ _ z5 nzb.symm) hlw).symm
  refine Gd (xs:=ts.map V.int) (λk σ HC=>∃(u:Option V) (ss:List Int),σ=[u,some (.ref ls)]/\HC lw=some (.lst (ss.map V.int))/\ss=(ts.take k).filter (λx=>!decide (x∈ms))/\Same HS HC) ⟨none,[],rfl,Ac,rfl,Af hlw _⟩ (λk σ HC _ h=>?_) (λk x σ HC hk h=>?_) (fun σ HC h=>?_)
  ·obtain⟨u,ss,rfl,d1,d2,d3⟩:=h
   exact SqL.of (d3 _ _ z1)
  ·obtain⟨u,ss,rfl,d1,d2,d3⟩:=h
   have hkl:k < 30:=by
    have:=(Qai.mp hk).1
    rw[Qbx] at this
    omega
   rw[Qbc] at hk
   obtain⟨a,hka,rfl⟩:=Qau.mp hk
   have tka:(ts.take (k+1)).filter (λx=>!decide (x∈ms))=(ts.take k).filter (λx=>!decide (x∈ms))++[a].filter (λx=>!decide (x∈ms)):=by rw[Qcq hka,List.filter_append]
   have ssl:ss.length<=30:=by
    rw[d2]
    have h1:=List.length_filter_le (λx=>!decide (x∈ms)) (ts.take k)
    rw[Qbp] at h1
    omega
   refine⟨_,rfl,_,rfl,ls,_,rfl,.inl (SqL.of (d3 _ _ c7)),rfl,jh ms,_,rfl,Fv (λcc=>?_) (λcc=>?_)⟩
   ·have cc:(!inV (.int a) (ms.map V.int))=true:=cc
    rw[RM] at cc
    rw[show List.filter (λx=>!decide (x∈ms)) [a]=[a] from List.filter_cons_of_pos (p:=λx=>!decide (x∈ms)) cc] at tka
    refine⟨_,rfl,_,d1,Ao (by rw[Qbx];omega),_,ss++[a],rfl,by rw[Ac,Qby];rfl,by rw[tka,d2],d3.Bt Ah.upd hlw⟩
   ·have cc:¬(!inV (.int a) (ms.map V.int))=true:=cc
    rw[RM] at cc
    rw[show List.filter (λx=>!decide (x∈ms)) [a]=[] from List.filter_cons_of_neg (p:=λx=>!decide (x∈ms)) cc] at tka
    exact⟨_,ss,rfl,d1,by rw[tka,d2];exact (QbD _).symm,d3⟩
  obtain⟨u,ws,rfl,d1,d2,d3⟩:=h
  rw[Qbx,Qbo] at d2
  have wsl:ws.length<=30:=by rw[d2];exact Qcd (List.length_filter_le _ _) z2
  simp only[QaQ,QaO]
  have c8:=c5.trans (Ah.of d3)
  have z5:=c8 _ _ z5 nzb.symm
  have z7:=c8 _ _ z7 nln.symm
  have z8:=c8 _ _ z8 nbl.symm
  have z9:=Ln.tups (c8.tup z10.Ew) z9
  have zp:Paired (Hv HC) zs zones:=Paired.Az zp λ_ _ z=>z.tups (c8.tup z10.Ew)
  have z10:=(c6.same d3).mono (show _<=n+500+30*(i+1) by omega)
  have z11:=z11.trans c8
  have c7:=d3 _ _ c7
  have zkn:(ms.map V.int).length=ms.length:=Qbx _
  refine⟨_,rfl,ls,_,rfl,.inl (SqL.of c7),_,_,rfl,rfl,_,rfl,Fv (λcc=>?_) (λcc=>?_)⟩
  ·refine⟨_,rfl,.inl ⟨rfl,_,SqL.of z5⟩,_,rfl,_,rfl,ls,_,rfl,.inl ⟨SqL.of c7,λtt htt=>⟨Ar (by show 2<=1000;decide),λta hta=>?_⟩⟩⟩
   have f1:=Af htt (.tup (ms.map V.int))
   have f2:=Af hta (.tup [.str yi,.ref tt])
   have f12:=f1.trans f2
   have z5:=f12 _ _ z5
   refine⟨lz,_,_,rfl,rfl,z5,Ao (by omega),?_⟩
   have tz0:∀zs',(upd (upd HC tt (.tup (ms.map V.int))) ta (.tup [.str yi,.ref tt])) lz≠some (.tup zs'):=λzs' z=>by rw[z5] at z;cases z
   have tz:=Am.upd (o:=.lst (zs++[.ref ta])) tz0
   have Do:1<=ms.length:=by
    have cc:=Qbi cc
    rw[zkn] at cc
    omega
   have zp':Paired (Hv (upd (upd (upd HC tt (.tup (ms.map V.int))) ta (.tup [.str yi,.ref tt])) lz (.lst (zs++[.ref ta])))) (zs++[.ref ta]) (zones++[⟨yi,ms⟩]):=Qck ⟨ta,tt,rfl,tz _ _ Ac,tz _ _ (f2 _ _ Ac)⟩ (Paired.Az zp λ_ _ z=>(z.tups (Am.of f12)).tups tz)
   have zk':Oz (DX loops) ws (zones++[⟨yi,ms⟩]) (ys.take (i+1)):=by rw[d2,ytk];exact zk.next hperm c2 Oh lms Do
   exact⟨lw,_,_,ws,zs++[.ref ta],rfl,by rw[Al nzw];exact f12 _ _ d1,by omega,nbw,nzw,Ac,⟨_,zp',zk'⟩,by rw[Al nzn];exact f12 _ _ z7,by rw[Al nzl];exact f12 _ _ z8,Ln.tups tz (Ln.tups (Am.of f12) z9),(z10.same f12).Cu Ah.upd nzb,Ah.Ku (z11.trans (Ah.of f12)) Ah.upd flz⟩
  ·exact⟨lw,_,_,ws,zs,rfl,d1,by omega,nbw,nzw,z5,⟨zones,zp,by rw[d2,ytk];exact zk.none⟩,z7,z8,z9,z10,z11⟩
 clear t1 t2 t3 j6 nbt nzt hzV cR e1 e2 hbV e8
 obtain⟨lt,u19,u20,ts,zs,rfl,z1,z2,z3,z4,z5,z6,z7,z8,z9,z10,z11⟩:=h
 rw[Qbx] at z10
 obtain⟨zones,zp,zk⟩:=z6
 rw[Qbx,Qbo] at zk
 have zW:zs.length<=5:=by
  have h1:=QbR zp
  have h2:=zk.nm.length_le
  rw[Qbx] at h2
  omega
 refine⟨_,rfl,_,rfl,b,_,3,rfl,z10,by omega,by decide,by decide,λr7 HX _ _ hbX sX=>⟨_,_,rfl,rfl,_,_,rfl,_,rfl,ll,_,rfl,.inl ⟨SqL.of (sX _ _ z8 nbl.symm),λtl htl=>?_⟩⟩⟩
 have g1:=Af htl (.tup vs)
 refine⟨_,rfl,lz,_,rfl,.inl ⟨SqL.of (g1 _ _ (sX _ _ z5 nzb.symm)),λtz htz=>⟨Ar (by show 3<=1000;decide),λt ht=>?_⟩⟩⟩
 have g2:=Af htz (.tup zs)
 have g3:=Af ht (.tup [.int (if M+r7 < 30 then M+r7 else 30),.ref tl,.ref tz])
 have cZ:=(g1.trans g2).trans g3
 have cnt:1<=(Cg loops).length:=by
  obtain⟨L,hL⟩ : ∃L,loops=L0::L:=iJ
  rw[hL]
  have:Cg (L0::L)=adL L0++Cg L:=by unfold Cg;rw[Qbg]
  rw[this,QaM]
  omega
 have M1:1<=M:=by
  obtain⟨L,hL⟩ : ∃L,loops=L0::L:=iJ
  obtain⟨m,h1,h2⟩:=Zu (l:=Gx L0) (by rw[Ve];omega)
  have:=wF L0 (by rw[hL];exact QaN ..) m h1
  omega
 have pok:YC (if M+r7 < 30 then M+r7 else 30) loops zones:=by
  refine⟨ndA,bdA,⟨cnt,by omega⟩,⟨by split <;> omega,by split <;> omega⟩,λps hps m hm=>?_,λz hz x hx=>?_,(Qbn.mp zk.nd).1,zk.up,?_,λz hz=>?_,zk.nm.nodup zX⟩
  ·have h1:=wF ps hps m hm
   have h2:=lR ps m hm
   have h3:(adL ps).length<=(Cg loops).length:=by
    exact aq loops hps
   split <;> omega
  ·exact zk.sub x (QaB _ (Qbw.mpr ⟨z,hz,hx⟩))
  ·have h1:=QbR zp
   omega
  ·exact hys z.name (zk.nm.subset (Qca.mpr ⟨z,hz,rfl⟩))
 exact q t tl tz vs zs loops zones _ _ Ac (g3 _ _ (g2 _ _ Ac)) (Ln.tups (Am.of cZ) (Ln.tups (sX.tup z10.Ew) z9)) e4 (by omega) tl3 (g3 _ _ Ac) (Paired.Az zp λ_ _ z=>(z.tups (sX.tup z10.Ew)).tups (Am.of cZ)) pok ((hbX.same cZ).mono (by omega)) ((z11.trans sX).trans (Ah.of cZ))
end
abbrev IV:Stmt:=top 38
abbrev DN:List Str:=["loop","at","place"]
theorem Cy:Ay ["loop","at","place","kind","address","spur","told","number","spur_kind","spur_address"] DN (Aj IV):=⟨rfl,rfl,rfl,by trivial,rfl,by trivial,by trivial⟩
structure Sd where
 lp:Int
 at_:Int
 n:Int
 kind:Str
 addr:Int
def GX (H:Hp) (v:V) (d:Sd):Prop:=∃t u,v=.ref t/\H t=some (.tup [.ref u,.str d.kind,.int d.addr])/\H u=some (.tup [.int d.lp,.int d.at_,.int d.n])
theorem GX.tups {H H':Hp} (s:Am H H') {v:V} {d:Sd} (h:GX H v d):GX H' v d:=by
 obtain⟨t,u,e,q1,q2⟩:=h
 exact⟨t,u,e,s _ _ q1,s _ _ q2⟩
def BX (lp at_:Int):Nat->List Dev->List Sd
 | _,[]=>[]
 | n,d::r=>⟨lp,at_,n,d.kind,d.addr⟩::BX lp at_ (n+1) r
def Br (lp at_:Int) (p:Place):List Sd:=if V.str p.kind=V.str "opener" then [] else ⟨lp,at_,0,p.kind,p.addr⟩::BX lp at_ 1 p.spur
theorem Mu (lp at_:Int):∀(n:Nat) (ds:List Dev) (i:Nat) (d:Dev),ds[i]?=some d->BX lp at_ n (ds.take (i+1))=BX lp at_ n (ds.take i)++[⟨lp,at_,(n+i:Nat),d.kind,d.addr⟩]
 | n,[],i,d,h=>by simp at h
 | n,x::r,0,d,h=>by
  simp at h
  subst h
  simp[BX]
 | n,x::r,i+1,d,h=>by
  have h':r[i]?=some d:=by simpa using h
  have ih:=Mu lp at_ (n+1) r i d h'
  rw[List.take_succ_cons,List.take_succ_cons]
  show _::BX lp at_ (n+1) (r.take (i+1))=(_::BX lp at_ (n+1) (r.take i))++_
  rw[ih,show n+1+i=n+(i+1) by omega]
  rfl
structure Tx (K:PySem.W.Frag) (mg:Str->Option Value) (op oe:Addr):Prop extends Nm mg where
 OPENER:∃u,mg "OPENER"=some u/\RelV (.ref op) u
 opT:∀H,SqT K H op [.str "opener",.int 0,.ref oe]
 opE:∀H,SqT K H oe []
def j7:Sp:=λvs H Q _=>∃(lp at_:Int) (v:V) (p:Place),vs=[.int lp,.int at_,v]/\Dk H v p/\p.spur.length<=3/\∀l xs H',H l=none->H' l=some (.lst xs)->Paired (GX H') xs (Br lp at_ p)->Same H H'->Q (.ref l) H'
section
variable {P:Program} {w:World} {K:PySem.W.Frag} {mg:Str->Option Value} {base:Heap} {op oe:Addr}
theorem Ry (c:Code K mg "place_devices" IV DN) (T:Tx K mg op oe):Good P w K mg base "place_devices" 1 DN j7:=by
 refine c.good Cy (λvs H Q E h=>?_) (λf cdv A outer s H vs Q E hr h=>?_)
 ·obtain⟨lp,at_,v,p,rfl,_⟩:=h
  rfl
 obtain⟨lp,at_,v,p,rfl,⟨t,u,vs,rfl,ht,hu,hd⟩,h3,q⟩:=h
 refine⟨_,(Ag (JR (pv 2) (CV rfl (Aq (Ak (i:=3) Cy.nd rfl (Or.inl rfl)) (Aq (Ak (i:=4) Cy.nd rfl (Or.inl rfl)) (Aq (Ak (i:=5) Cy.nd rfl (Or.inl rfl)) Bw)))))
 (Ag (BP (Bq Gy (pv 3) Bf (BJ _)) (Ai (Ba (BL Ab))) BR)
 (Ag (Bb (i:=6) Cy.nd rfl (Or.inl rfl) (BL (Aa (Bh (Aa (Bh (Aa (pv 0) (Aa (pv 1) (Aa Ae Ab)))) (Aa (pv 3) (Aa (pv 4) Ab)))) Ab)))
 (Ag (BW QbA rfl (Lh rfl T.enumerate (pv 5) Ae) (CV rfl (Aq (Ak (i:=7) Cy.nd rfl (Or.inl rfl)) (Aq (CV rfl (Aq (Ak (i:=8) Cy.nd rfl (Or.inl rfl)) (Aq (Ak (i:=9) Cy.nd rfl (Or.inl rfl)) Bw))) Bw)))
 (Ai (Bg (CG Qaq Qam Qan Cd (pv 6) (Aa (Bh (Aa (Bh (Aa (pv 0) (Aa (pv 1) (Aa (pv 7) Ab)))) (Aa (pv 8) (Aa (pv 9) Ab)))) Ab)))))
 (Ai (Ba (pv 6))))))),?_⟩
 generalize hst:L2.start _ _=σ0
 have e0:σ0=[some (.int lp),some (.int at_),some (.ref t),none,none,none,none,none,none,none]:=hst.symm
 clear hst
 subst e0
 refine⟨_,rfl,t,_,rfl,SqT.of ht,rfl,_,_,rfl,_,_,rfl,_,_,rfl,rfl,?_⟩
 simp only[QaQ,QaO]
 refine⟨_,rfl,rfl,_,rfl,?_⟩
 by_cases ck:V.str p.kind=V.str "opener"
 ·rw[QbM ck]
  have e:Br lp at_ p=[]:=if_pos ck
  rw[e] at q
  exact Ca ⟨(by show 0<=sizeLine;decide),λl hl=>q l [] _ hl Ac .nil (Af hl _)⟩
 ·rw[QbC ck]
  have e:Br lp at_ p=⟨lp,at_,0,p.kind,p.addr⟩::BX lp at_ 1 p.spur:=if_neg ck
  rw[e] at q
  refine Cr ⟨_,rfl,_,rfl,(by show 3<=sizeLine;decide),λus hus=>⟨_,rfl,_,rfl,(by show 3<=sizeLine;decide),λts hts=>⟨(by show 1<=sizeLine;decide),λl hl=>?_⟩⟩⟩
  have s1:=Af hus (.tup [.int lp,.int at_,.int 0])
  have s2:=Af hts (.tup [.ref us,.str p.kind,.int p.addr])
  have s3:=Af hl (.lst [.ref ts])
  have sm:=s1.trans (s2.trans s3)
  have hl0:=s1.free (s2.free hl)
  have el:_=some (HO.lst [.ref ts]):=Ac (H:=upd (upd H us (.tup [.int lp,.int at_,.int 0])) ts (.tup [.ref us,.str p.kind,.int p.addr])) (a:=l) (o:=.lst [.ref ts])
  have es:GX _ (.ref ts) ⟨lp,at_,0,p.kind,p.addr⟩:=⟨ts,us,rfl,s3 _ _ Ac,s3 _ _ (s2 _ _ Ac)⟩
  generalize hX:upd (upd (upd H us (.tup [.int lp,.int at_,.int 0])) ts (.tup [.ref us,.str p.kind,.int p.addr])) l (.lst [.ref ts])=H1 at sm el es
  simp only[QaQ,QaO]
  have hu1:=sm _ _ hu
  have sd0:Paired (GX H1) [.ref ts] (⟨lp,at_,0,p.kind,p.addr⟩::BX lp at_ 1 (p.spur.take 0)):=.cons es .nil
  have BY:vs.length=p.spur.length:=QbR hd
  refine⟨_,rfl,u,rfl,⟨vs,SqT.of hu1⟩,Ie (xs:=vs) (lo:=1) (λi σ HH=>∃ys u7 u8 u9,σ=[some (.int lp),some (.int at_),some (.ref t),some (.str p.kind),some (.int p.addr),some (.ref u),some (.ref l),u7,u8,u9]/\Ah l H1 HH/\HH l=some (.lst ys)/\Paired (GX HH) ys (⟨lp,at_,0,p.kind,p.addr⟩::BX lp at_ 1 (p.spur.take i))/\ys.length<=i+1)
   ⟨[.ref ts],_,_,_,rfl,Ah.refl l H1,el,sd0,Qci _⟩ (λi σ HH _ h=>?_) (λi x pt σ HH hx h hpt=>?_) (fun σ HH h=>?_)⟩
  ·obtain⟨ys,_,_,_,_,sb,_⟩:=h
   exact SqT.of (sb _ _ hu1 (λz=>by rw[z,el] at hu1;cases hu1))
  ·obtain⟨ys,u7,u8,u9,rfl,sb,hy,pd,ly⟩:=h
   obtain⟨d,hdi,td,rfl,htd⟩:=Paired.Ci hd hx
   have nl:∀zs,H1 l≠some (.tup zs):=λzs z=>by rw[el] at z;cases z
   have nl2:∀zs,HH l≠some (.tup zs):=λzs z=>by rw[hy] at z;cases z
   have C7:=(sb.tup nl) _ _ (sm _ _ htd)
   have t0:=Af hpt (.tup [.int ((1+i:Nat):Int),.ref td])
   refine⟨pt,_,rfl,SqT.of Ac,rfl,_,_,rfl,_,_,rfl,td,_,rfl,SqT.of (t0 _ _ C7),rfl,_,_,rfl,_,_,rfl,rfl,rfl,?_⟩
   simp only[QaQ,QaO]
   have hy0:=t0 _ _ hy
   refine⟨_,rfl,.inl ⟨rfl,_,SqL.of hy0⟩,_,rfl,_,rfl,_,rfl,(by show 3<=sizeLine;decide),λus2 C4=>⟨_,rfl,_,rfl,(by show 3<=sizeLine;decide),λts2 C5=>?_⟩⟩
   have t1:=Af C4 (.tup [.int lp,.int at_,.int ((1+i:Nat):Int)])
   have t2:=Af C5 (.tup [.ref us2,.str d.kind,.int d.addr])
   have hy2:=t2 _ _ (t1 _ _ hy0)
   have il:=(Qai.mp hx).1
   refine⟨l,_,_,rfl,rfl,hy2,Ao (by omega),?_⟩
   refine⟨ys++[.ref ts2],_,_,_,rfl,sb.trans ((Ah.of (t0.trans (t1.trans t2))).trans Ah.upd),Ac,?_,by rw[QaM];simp only[Qay];omega⟩
   rw[Mu lp at_ 1 p.spur i d hdi]
   have nlx:∀zs,(upd (upd (upd HH pt (.tup [.int ((1+i:Nat):Int),.ref td])) us2 (.tup [.int lp,.int at_,.int ((1+i:Nat):Int)])) ts2 (.tup [.ref us2,.str d.kind,.int d.addr])) l≠some (.tup zs):=λzs z=>by rw[hy2] at z;cases z
   have tt:=Am.upd (o:=.lst (ys++[.ref ts2])) nlx
   exact Qck (l₂:=_::BX lp at_ 1 (p.spur.take i)) ⟨ts2,us2,rfl,tt _ _ Ac,tt _ _ (t2 _ _ Ac)⟩ (Paired.Az pd λ_ _ z=>(z.tups (Am.of (t0.trans (t1.trans t2)))).tups tt)
  ·obtain⟨ys,u7,u8,u9,rfl,sb,hy,pd,ly⟩:=h
   rw[BY,Qbo] at pd
   exact⟨_,rfl,q l ys HH hl0 hy pd λc o e=>sb _ _ (sm _ _ e) (Av e hl0)⟩
end
structure Sp3 where
 lp:Int
 at_:Int
 n:Int
def Sd.spot (d:Sd):Sp3:=⟨d.lp,d.at_,d.n⟩
def Fx (H:Hp) (v:V) (d:Sp3):Prop:=∃u,v=.ref u/\H u=some (.tup [.int d.lp,.int d.at_,.int d.n])
theorem Fx.tups {H H':Hp} (s:Am H H') {v:V} {d:Sp3} (h:Fx H v d):Fx H' v d:=by
 obtain⟨u,e,q⟩:=h
 exact⟨u,e,s _ _ q⟩
theorem Im {k:Str} (h:Cz k):¬V.str k=V.str "opener":=by
 rcases h with rfl | rfl | rfl | rfl <;> decide +kernel
theorem RJ {k:Str} (h:Cz k):(PyData.str k).canLay0=true:=by
 rcases h with rfl | rfl | rfl | rfl <;> decide +kernel
def Nf (d:Dev):PyData:=.tuple [.str d.kind,.int d.addr]
def Lf (p:Place):PyData:=.tuple [.str p.kind,.int p.addr,.tuple (p.spur.map Nf)]
def opD:PyData:=.tuple [.str "opener",.int 0,.tuple []]
theorem Yk:∀{ds:List Dev},(∀d∈ds,Cz d.kind)->PyData.canLayAll0 (ds.map Nf)=true/\PyData.depthAll (ds.map Nf)<=1
 | [],_=>⟨rfl,by show 0<=1;decide⟩
 | d::ds,h=>by
  have ih:=Yk (ds:=ds) λx hx=>h x (QaA _ hx)
  refine⟨?_,?_⟩
  ·show ((PyData.canLay0 (.str d.kind)&&(true&&true))&&PyData.canLayAll0 (ds.map Nf))=true
   rw[RJ (h d QaN),ih.1];rfl
  ·show max (max 0 (max 0 0)+1) (PyData.depthAll (ds.map Nf))<=1
   exact Nat.max_le.mpr ⟨by decide,ih.2⟩
theorem vX:PyData.canLay0 (.str "opener")=true:=by trivial
theorem PB {p:Place} (h:OkP p):SeqAt.shaped (Lf p)=true:=by
 have hk:PyData.canLay0 (.str p.kind)=true:=by
  rcases h.form with⟨e,_⟩| e
  ·rw[e];exact vX
  ·exact RJ e
 have hd:=Yk h.kinds
 show ((PyData.canLay0 (.str p.kind)&&(true&&(PyData.canLayAll0 (p.spur.map Nf)&&true)))&&decide (max 0 (max 0 (max (PyData.depthAll (p.spur.map Nf)+1) 0))+1<=64))=true
 rw[hk,hd.1]
 have:max 0 (max 0 (max (PyData.depthAll (p.spur.map Nf)+1) 0))+1<=64:=by omega
 rw[QbM this]
 rfl
theorem Vc {p:Place} (h:OkP p):PyData.eqv (Lf p) opD=decide (V.str p.kind=V.str "opener"):=by
 rcases h.form with⟨e1,e2,e3⟩| e
 ·rw[show Lf p=opD by unfold Lf opD;rw[e1,e2,e3];rfl,e1]
  decide +kernel
 ·rw[QbC (Im e)]
  have:(p.kind == ("opener":Str))=false:=QaG.mpr λz=>Im e (by rw[z])
  show (((p.kind == ("opener":Str))&&_))=false
  rw[this]
  rfl
theorem Jh.rep {K:PySem.W.Frag} {H:Hp} {v:V} {d:Dev} (h:Jh H v d):JD K H v (Nf d):=by
 obtain⟨t,rfl,e⟩:=h
 exact .tup (SqT.of e) (.cons (.str _) (.cons (.int _) .nil))
theorem Yj {K:PySem.W.Frag} {H:Hp}:∀{vs:List V} {ds:List Dev},Paired (Jh H) vs ds->KJ K H vs (ds.map Nf)
 | _,_,.nil=>.nil
 | _,_,.cons h t=>.cons h.rep (Yj t)
theorem Dk.rep {K:PySem.W.Frag} {H:Hp} {v:V} {p:Place} (h:Dk H v p):JD K H v (Lf p):=by
 obtain⟨t,u,vs,rfl,e1,e2,e3⟩:=h
 exact .tup (SqT.of e1) (.cons (.str _) (.cons (.int _) (.cons (.tup (SqT.of e2) (Yj e3)) .nil)))
theorem Kv (lp at_:Int):∀(n:Nat) (ds:List Dev),(BX lp at_ n ds).length=ds.length
 | _,[]=>rfl
 | n,d::r=>by show (BX lp at_ (n+1) r).length+1=r.length+1;rw[Kv]
abbrev Px:Stmt:=top 39
abbrev Gb:List Str:=["plan"]
theorem GZ:Ay ["plan","told","loop","places","at","place"] Gb (Aj Px):=⟨rfl,rfl,rfl,by trivial,rfl,by trivial,by trivial⟩
abbrev JF:Stmt:=top 40
abbrev Hi:List Str:=["plan"]
theorem Dz:Ay ["plan","told","loop","places","at","kind","address","spur"] Hi (Aj JF):=⟨rfl,rfl,rfl,by trivial,rfl,by trivial,by trivial⟩
abbrev Mh:Stmt:=top 41
abbrev JT:List Str:=["plan"]
theorem Kw:Ay ["plan","told","loop","places"] JT (Aj Mh):=⟨rfl,rfl,rfl,by trivial,rfl,by trivial,by trivial⟩
def up {α : Type} (f:Nat->List α) (i:Nat):List α:=(List.range i).flatMap f
theorem CN {α : Type} (f:Nat->List α) (i:Nat):up f (i+1)=up f i++f i:=by
 unfold up
 rw[List.range_succ,QaI]
 simp
theorem Jl {α : Type} (f:Nat->List α):up f 0=[]:=rfl
theorem Ez {α : Type} {f:Nat->List α} {c:Nat} (h:∀i,(f i).length<=c):∀i,(up f i).length<=c*i
 | 0=>Qci _
 | i+1=>by
  have:=Ez h i
  have:=h i
  rw[CN,QaM,Nat.mul_succ]
  omega
def ifs {α β : Type} (o:Option α) (g:α->List β):List β:=match o with | none=>[] | some x=>g x
theorem Di {α β : Type} {o:Option α} {g:α->List β} {x:α} (h:o=some x):ifs o g=g x:=by rw[h];rfl
structure Gt where
 lp:Int
 at_:Int
def OJ (H:Hp) (v:V) (d:Gt):Prop:=∃u,v=.ref u/\H u=some (.tup [.int d.lp,.int d.at_])
theorem OJ.tups {H H':Hp} (s:Am H H') {v:V} {d:Gt} (h:OJ H v d):OJ H' v d:=by
 obtain⟨u,e,q⟩:=h
 exact⟨u,e,s _ _ q⟩
def pd1 (lp:Int) (ps:List Place) (i:Nat):List Sd:=ifs ps[i]? λp=>Br lp ((1+i:Nat):Int) p
def pdL (loops:List (List Place)) (k:Nat):List Sd:=ifs loops[k]? λps=>up (pd1 k ps) ps.length
def st1 (lp:Int) (ps:List Place) (i:Nat):List Sp3:=ifs ps[i]? λp=>(List.range (p.spur.length+1)).map λn:Nat=>⟨lp,((1+i:Nat):Int),(n:Int)⟩
def stL (loops:List (List Place)) (k:Nat):List Sp3:=ifs loops[k]? λps=>⟨k,0,0⟩::up (st1 k ps) ps.length
def gt1 (lp:Int) (ps:List Place) (i:Nat):List Gt:=ifs ps[i]? λp=>if V.str p.kind=V.str "opener" then [⟨lp,((1+i:Nat):Int)⟩] else []
def gtL (loops:List (List Place)) (k:Nat):List Gt:=ifs loops[k]? λps=>(⟨k,0⟩::up (gt1 k ps) ps.length)++[⟨k,(ps.length:Int)+1⟩]
structure Ep (loops:List (List Place)):Prop where
 ok:∀ps∈loops,OkL ps
 hi:loops.length<=3
theorem Rg {lp a:Int} {p:Place} (h:OkP p):(Br lp a p).length<=4:=by
 unfold Br
 have:=h.spur
 split
 ·exact Qcj _
 ·rw[Qbq,Kv];omega
theorem Z2 {lp:Int} {ps:List Place} (h:∀p∈ps,OkP p) (i:Nat):(pd1 lp ps i).length<=4:=by
 unfold pd1
 cases e:ps[i]? with
 | none=>exact Qcj _
 | some p=>exact Rg (h p (Qaz e))
theorem Zz {lp:Int} {ps:List Place} (h:∀p∈ps,OkP p) (i:Nat):(st1 lp ps i).length<=4:=by
 unfold st1
 cases e:ps[i]? with
 | none=>exact Qcj _
 | some p=>
  have:=(h p (Qaz e)).spur
  show ((List.range _).map _).length<=4
  rw[Qbx,Qbj]
  omega
theorem Uy {lp:Int} {ps:List Place} (i:Nat):(gt1 lp ps i).length<=1:=by
 unfold gt1
 cases e:ps[i]? with
 | none=>exact Qcj _
 | some p=>
  show (if _ then _ else _:List Gt).length<=1
  split
  ·exact Qci _
  ·exact Qcj _
theorem Z1 {loops:List (List Place)} (h:Ep loops) (k:Nat):(pdL loops k).length<=48:=by
 unfold pdL
 cases e:loops[k]? with
 | none=>exact Qcj _
 | some ps=>
  have o:=h.ok ps (Qaz e)
  have:=Ez (Z2 (lp:=k) o.ok) ps.length
  have:=o.hi
  show (up _ _).length<=48
  omega
theorem Zx {loops:List (List Place)} (h:Ep loops) (k:Nat):(stL loops k).length<=49:=by
 unfold stL
 cases e:loops[k]? with
 | none=>exact Qcj _
 | some ps=>
  have o:=h.ok ps (Qaz e)
  have:=Ez (Zz (lp:=k) o.ok) ps.length
  have:=o.hi
  show (up _ _).length+1<=49
  omega
theorem ak {loops:List (List Place)} (h:Ep loops) (k:Nat):(gtL loops k).length<=14:=by
 unfold gtL
 cases e:loops[k]? with
 | none=>exact Qcj _
 | some ps=>
  have o:=h.ok ps (Qaz e)
  have:=Ez (Uy (lp:=k) (ps:=ps)) ps.length
  have:=o.hi
  show ((_::up _ _)++[_]).length<=14
  rw[QaM,Qbq]
  show _+1+1<=14
  omega
def TF (H:Hp) (pl:Addr) (loops:List (List Place)):Prop:=∃v0 v2 Ls vs,H pl=some (.tup [v0,.ref Ls,v2])/\H Ls=some (.tup vs)/\Paired (LoopAt H) vs loops
def Sy:Sp:=λvs H Q _=>∃(pl:Addr) (loops:List (List Place)),vs=[.ref pl]/\TF H pl loops/\Ep loops/\∀l xs H',H l=none->H' l=some (.lst xs)->Paired (GX H') xs (up (pdL loops) loops.length)->Same H H'->Q (.ref l) H'
def qx:Sp:=λvs H Q _=>∃(pl:Addr) (loops:List (List Place)),vs=[.ref pl]/\TF H pl loops/\Ep loops/\∀l xs H',H l=none->H' l=some (.lst xs)->Paired (Fx H') xs (up (stL loops) loops.length)->Same H H'->Q (.ref l) H'
def qy:Sp:=λvs H Q _=>∃(pl:Addr) (loops:List (List Place)),vs=[.ref pl]/\TF H pl loops/\Ep loops/\∀l xs H',H l=none->H' l=some (.lst xs)->Paired (OJ H') xs (up (gtL loops) loops.length)->Same H H'->Q (.ref l) H'
section
variable {P:Program} {w:World} {K:PySem.W.Frag} {mg:Str->Option Value} {base:Heap} {op oe:Addr}
theorem bZ (c:Code K mg "devices" Px Gb) (T:Tx K mg op oe) (Jg:Good P w K mg base "place_devices" 1 DN j7):Good P w K mg base "devices" 2 Gb Sy:=by
 refine c.good GZ (λvs H Q E h=>?_) (λf cdv A outer s H vs Q E hr h=>?_)
 ·obtain⟨pl,loops,rfl,_⟩:=h
  rfl
 obtain⟨pl,loops,rfl,⟨v0,v2,Ls,vs,hpl,hLs,hlo⟩,ok,q⟩:=h
 refine⟨_,(Ag (Bb (i:=1) GZ.nd rfl (Or.inl rfl) (BL Ab))
 (Ag (BW QbA rfl (Rx rfl T.enumerate (Bo Cm (pv 0) Ae (λ_ _=>rfl))) (CV rfl (Aq (Ak (i:=2) GZ.nd rfl (Or.inl rfl)) (Aq (Ak (i:=3) GZ.nd rfl (Or.inl rfl)) Bw)))
 (Ai (BW QbA rfl (Lh rfl T.enumerate (pv 3) Ae) (CV rfl (Aq (Ak (i:=4) GZ.nd rfl (Or.inl rfl)) (Aq (Ak (i:=5) GZ.nd rfl (Or.inl rfl)) Bw)))
 (Ai (Bg (CG Qaq Qao Qap Il (pv 1) (Aa (Ax Jg hr (Aa (pv 2) (Aa (pv 4) (Aa (pv 5) Ab)))) Ab)))))))
 (Ai (Ba (pv 1))))),?_⟩
 generalize hst:L2.start _ _=σ0
 have e0:σ0=[some (.ref pl),none,none,none,none,none]:=hst.symm
 clear hst
 subst e0
 refine⟨Ar (by show 0<=1000;decide),λl fl=>?_⟩
 simp only[QaQ,QaO]
 have s1:=Af fl (.lst [])
 have lvs:=QbR hlo
 refine⟨_,rfl,pl,_,_,_,rfl,rfl,SqT.of (s1 _ _ hpl),rfl,Ls,rfl,⟨vs,SqT.of (s1 _ _ hLs)⟩,?_⟩
 refine Ie (xs:=vs) (lo:=0) (λi σ HH=>∃(ys:List V) (u2 u3 u4 u5:Option V),σ=[some (.ref pl),some (.ref l),u2,u3,u4,u5]/\Same H HH/\HH l=some (.lst ys)/\Paired (GX HH) ys (up (pdL loops) i)) ⟨[],_,_,_,_,rfl,s1,Ac,.nil⟩ (λi σ HH _ h=>?_) (λi x pt σ HH hx h hpt=>?_) (fun σ HH h=>?_)
 ·obtain⟨ys,_,_,_,_,_,sm,_⟩:=h
  exact SqT.of (sm _ _ hLs)
 ·obtain⟨ys,u2,u3,u4,u5,rfl,sm,hy,py⟩:=h
  obtain⟨ps,hps,hL⟩:=Paired.Ci hlo hx
  obtain⟨t,ws,rfl,ht,hws⟩:=id hL
  have okl:=ok.ok ps (Qaz hps)
  have ek:pdL loops i=up (pd1 i ps) ps.length:=Di hps
  have lws:=QbR hws
  have t0:=Af hpt (.tup [.int ((0+i:Nat):Int),.ref t])
  refine⟨pt,_,rfl,SqT.of Ac,rfl,_,_,rfl,_,_,rfl,rfl,?_⟩
  have sm0:=sm.trans t0
  have hy0:=t0 _ _ hy
  have py0:=Paired.Az py λ_ _ (z:GX HH _ _)=>z.tups (Am.of t0)
  generalize upd HH pt (.tup [.int ((0+i:Nat):Int),.ref t])=HA at sm0 hy0 py0
  simp only[QaQ,QaO,Nat.zero_add]
  have hil:=(Qai.mp hps).1
  have lu:=Ez (Z1 ok) i
  have hhi:=ok.hi
  refine⟨_,rfl,t,rfl,⟨ws,SqT.of (sm0 _ _ ht)⟩,?_⟩
  refine Ie (xs:=ws) (lo:=1) (λj σ HJ=>∃(ys:List V) (u4 u5:Option V),σ=[some (.ref pl),some (.ref l),some (.int (i:Int)),some (.ref t),u4,u5]/\Same H HJ/\HJ l=some (.lst ys)/\Paired (GX HJ) ys (up (pdL loops) i++up (pd1 i ps) j)) ⟨ys,_,_,rfl,sm0,hy0,by rw[Jl,QbD];exact py0⟩ (λj σ HJ _ h=>?_) (λj x pt σ HJ hx h hpt=>?_) (fun σ HJ h=>?_)
  ·obtain⟨ys,_,_,_,sj,_⟩:=h
   exact SqT.of (sj _ _ ht)
  ·obtain⟨ys,u4,u5,rfl,sj,hyj,pj⟩:=h
   obtain⟨p,hp,hP⟩:=Paired.Ci hws hx
   have okp:=okl.ok p (Qaz hp)
   have ej:pd1 i ps j=Br i ((1+j:Nat):Int) p:=Di hp
   have t1:=Af hpt (.tup [.int ((1+j:Nat):Int),x])
   refine⟨pt,_,rfl,SqT.of Ac,rfl,_,_,rfl,_,_,rfl,rfl,?_⟩
   simp only[QaQ,QaO]
   have hjl:=(Qai.mp hp).1
   have lj:=Ez (Z2 (lp:=i) okl.ok) j
   have lys:=QbR pj
   rw[QaM] at lys
   have h12:=okl.hi
   refine⟨_,rfl,.inl ⟨rfl,_,SqL.of (t1 _ _ hyj)⟩,_,rfl,_,rfl,_,rfl,(i:Int),((1+j:Nat):Int),x,p,rfl,hP.tups (Am.of (sj.trans t1)),okp.spur,λld xs' HB fld hld pdd sB=>?_⟩
   have t2:=t1.trans sB
   have hyB:=t2 _ _ hyj
   have lx:=QbR pdd
   have lpl:=Rg (lp:=i) (a:=((1+j:Nat):Int)) okp
   refine⟨l,ld,_,_,rfl,rfl,hyB,hld,Ar (by omega),?_⟩
   have n0:∀zs,HB l≠some (.tup zs):=λzs z=>by rw[hyB] at z;cases z
   have tt:=Am.upd (o:=.lst (ys++xs')) n0
   refine⟨ys++xs',_,_,rfl,(sj.trans t2).Bt Ah.upd fl,Ac,?_⟩
   rw[CN,ej,<-Qbd]
   exact Paired.app (Paired.Az pj λ_ _ z=>(z.tups (Am.of t2)).tups tt) (Paired.Az pdd λ_ _ z=>z.tups tt)
  ·obtain⟨ys,u4,u5,rfl,sj,hyj,pj⟩:=h
   exact⟨ys,_,_,_,_,rfl,sj,hyj,by rw[CN,ek,<-lws];exact pj⟩
 ·obtain⟨ys,u2,u3,u4,u5,rfl,sm,hy,py⟩:=h
  rw[lvs] at py
  exact⟨_,rfl,q l ys HH fl hy py sm⟩
theorem Xo (c:Code K mg "stretches" JF Hi) (T:Tx K mg op oe):Good P w K mg base "stretches" 1 Hi qx:=by
 refine c.good Dz (λvs H Q E h=>?_) (λf cdv A outer s H vs Q E hr h=>?_)
 ·obtain⟨pl,loops,rfl,_⟩:=h
  rfl
 obtain⟨pl,loops,rfl,⟨v0,v2,Ls,vs,hpl,hLs,hlo⟩,ok,q⟩:=h
 refine⟨_,(Ag (Bb (i:=1) Dz.nd rfl (Or.inl rfl) (BL Ab))
 (Ag (BW QbA rfl (Rx rfl T.enumerate (Bo Cm (pv 0) Ae (λ_ _=>rfl))) (CV rfl (Aq (Ak (i:=2) Dz.nd rfl (Or.inr rfl)) (Aq (Ak (i:=3) Dz.nd rfl (Or.inl rfl)) Bw)))
 (Ag (Bg (CG Qaq Qam Qan Cd (pv 1) (Aa (Bh (Aa (pv 2) (Aa Ae (Aa Ae Ab)))) Ab)))
 (Ai (BW QbA rfl (Lh rfl T.enumerate (pv 3) Ae) (CV rfl (Aq (Ak (i:=4) Dz.nd rfl (Or.inr rfl)) (Aq (CV rfl (Aq (Ak (i:=5) Dz.nd rfl (Or.inl rfl)) (Aq (Ak (i:=6) Dz.nd rfl (Or.inl rfl)) (Aq (Ak (i:=7) Dz.nd rfl (Or.inl rfl)) Bw)))) Bw)))
 (Ai (Bg (CG Qaq Qao Qap Il (pv 1) (Aa (Ck (N':=["number","loop","at"]) rfl (Bk.of (src:=[none,some 2,some 4]) (Aj JF) ["plan","told","loop","places","at","kind","address","spur"] rfl rfl rfl (by trivial) (by trivial) (by trivial) rfl (by trivial)) (Cq rfl T.range (Aa (Bd Cj (Aw Bs rfl T.len CW (Aa (pv 7) Ab)) Ae) Ab)) (λ_ _ _ _=>(Ak (i:=0) (show List.Nodup (["number","loop","at"]:List Str) by trivial) rfl (Or.inl rfl))) (λ_ _ _ _=>CJ) (λ_ _ _ _=>(Bh (Aa (pv 1) (Aa (pv 2) (Aa (pv 0) Ab)))))) Ab))))))))
 (Ai (Ba (pv 1))))),?_⟩
 generalize hst:L2.start _ _=σ0
 have e0:σ0=[some (.ref pl),none,none,none,none,none,none,none]:=hst.symm
 clear hst
 subst e0
 refine⟨Ar (by show 0<=1000;decide),λl fl=>?_⟩
 simp only[QaQ,QaO]
 have s1:=Af fl (.lst [])
 have lvs:=QbR hlo
 refine⟨_,rfl,pl,_,_,_,rfl,rfl,SqT.of (s1 _ _ hpl),rfl,Ls,rfl,⟨vs,SqT.of (s1 _ _ hLs)⟩,?_⟩
 refine Ie (xs:=vs) (lo:=0) (λi σ HH=>∃(ys:List V) (u2 u3 u4 u5 u6 u7:Option V),σ=[some (.ref pl),some (.ref l),u2,u3,u4,u5,u6,u7]/\Same H HH/\HH l=some (.lst ys)/\Paired (Fx HH) ys (up (stL loops) i)) ⟨[],_,_,_,_,_,_,rfl,s1,Ac,.nil⟩ (λi σ HH _ h=>?_) (λi x pt σ HH hx h hpt=>?_) (fun σ HH h=>?_)
 ·obtain⟨ys,_,_,_,_,_,_,_,sm,_⟩:=h
  exact SqT.of (sm _ _ hLs)
 ·obtain⟨ys,u2,u3,u4,u5,u6,u7,rfl,sm,hy,py⟩:=h
  obtain⟨ps,hps,hL⟩:=Paired.Ci hlo hx
  obtain⟨t,ws,rfl,ht,hws⟩:=id hL
  have okl:=ok.ok ps (Qaz hps)
  have ek:stL loops i=⟨i,0,0⟩::up (st1 i ps) ps.length:=Di hps
  have lws:=QbR hws
  have t0:=Af hpt (.tup [.int ((0+i:Nat):Int),.ref t])
  refine⟨pt,_,rfl,SqT.of Ac,rfl,_,_,rfl,_,_,rfl,rfl,?_⟩
  have sm0:=sm.trans t0
  have hy0:=t0 _ _ hy
  have py0:=Paired.Az py λ_ _ (z:Fx HH _ _)=>z.tups (Am.of t0)
  generalize upd HH pt (.tup [.int ((0+i:Nat):Int),.ref t])=HA at sm0 hy0 py0
  simp only[QaQ,QaO,Nat.zero_add]
  have hil:=(Qai.mp hps).1
  have lu:=Ez (Zx ok) i
  have hhi:=ok.hi
  have ly0:=QbR py0
  refine⟨_,rfl,.inl ⟨rfl,_,SqL.of hy0⟩,_,rfl,Ar (by show 3<=1000;decide),λtz htz=>?_⟩
  have t3:=Af htz (.tup [.int (i:Int),.int 0,.int 0])
  refine⟨l,_,_,rfl,rfl,t3 _ _ hy0,Ao (by omega),?_⟩
  have n0:∀zs,(upd HA tz (.tup [.int (i:Int),.int 0,.int 0])) l≠some (.tup zs):=λzs z=>by rw[t3 _ _ hy0] at z;cases z
  have tt:=Am.upd (o:=.lst (ys++[.ref tz])) n0
  have sm1:Same H (upd (upd HA tz (.tup [.int (i:Int),.int 0,.int 0])) l (.lst (ys++[.ref tz]))):=(sm0.trans t3).Bt Ah.upd fl
  have py1:Paired (Fx _) (ys++[.ref tz]) (up (stL loops) i++[⟨(i:Int),0,0⟩]):=Qck ⟨tz,rfl,tt _ _ Ac⟩ (Paired.Az py0 λ_ _ z=>(z.tups (Am.of t3)).tups tt)
  have hy1:(upd (upd HA tz (.tup [.int (i:Int),.int 0,.int 0])) l (.lst (ys++[.ref tz]))) l=some (.lst (ys++[.ref tz])):=Ac
  generalize upd (upd HA tz (.tup [.int (i:Int),.int 0,.int 0])) l (.lst (ys++[.ref tz]))=HB at sm1 py1 hy1
  generalize ys++[.ref tz]=ys1 at py1 hy1
  refine⟨_,rfl,t,rfl,⟨ws,SqT.of (sm1 _ _ ht)⟩,?_⟩
  refine Ie (xs:=ws) (lo:=1) (λj σ HJ=>∃(ys:List V) (u4 u5 u6 u7:Option V),σ=[some (.ref pl),some (.ref l),some (.int (i:Int)),some (.ref t),u4,u5,u6,u7]/\Same H HJ/\HJ l=some (.lst ys)/\Paired (Fx HJ) ys (up (stL loops) i++⟨(i:Int),0,0⟩::up (st1 i ps) j)) ⟨ys1,_,_,_,_,rfl,sm1,hy1,by rw[Jl];exact py1⟩ (λj σ HJ _ h=>?_) (λj x pt σ HJ hx h hpt=>?_) (fun σ HJ h=>?_)
  ·obtain⟨ys,_,_,_,_,_,sj,_⟩:=h
   exact SqT.of (sj _ _ ht)
  ·obtain⟨ys,u4,u5,u6,u7,rfl,sj,hyj,pj⟩:=h
   obtain⟨p,hp,hP⟩:=Paired.Ci hws hx
   have okp:=okl.ok p (Qaz hp)
   have ej:st1 i ps j=(List.range (p.spur.length+1)).map λn:Nat=>⟨(i:Int),((1+j:Nat):Int),(n:Int)⟩:=Di hp
   have t1:=Af hpt (.tup [.int ((1+j:Nat):Int),x])
   obtain⟨tp,ua,wp',rfl,hp1,hp2,hp3⟩:=hP.tups (Am.of (sj.trans t1))
   refine⟨pt,_,rfl,SqT.of Ac,rfl,_,_,rfl,_,_,rfl,tp,_,rfl,SqT.of hp1,rfl,_,_,rfl,_,_,rfl,_,_,rfl,rfl,rfl,?_⟩
   simp only[QaQ,QaO]
   have hjl:=(Qai.mp hp).1
   have lj:=Ez (Zz (lp:=i) okl.ok) j
   have lys:=QbR pj
   rw[QaM,Qbq] at lys
   have h12:=okl.hi
   have lwp:=QbR hp3
   have hsp:=okp.spur
   refine⟨_,rfl,.inl ⟨rfl,_,SqL.of (t1 _ _ hyj)⟩,_,rfl,ua,_,rfl,.inr (SqT.of hp2),_,_,rfl,rfl,_,rfl,by omega,by omega,λl2 hl2=>?_⟩
   rw[show ((wp'.length:Int)+1).toNat=p.spur.length+1 by omega]
   have sjt:=sj.trans t1
   have hyt:=t1 _ _ hyj
   have pjt:=Paired.Az pj λ_ _ (z:Fx HJ _ _)=>z.tups (Am.of t1)
   generalize upd HJ pt (.tup [.int ((1+j:Nat):Int),.ref tp])=HT at sjt hyt pjt hl2
   refine KH (λk σ HC=>∃(u:Option V) (zs:List V),σ=[u,some (.int (i:Int)),some (.int ((1+j:Nat):Int))]/\HC l2=some (.lst zs)/\Same HT HC/\Paired (Fx HC) zs ((List.range k).map λn:Nat=>⟨(i:Int),((1+j:Nat):Int),(n:Int)⟩)) ⟨none,[],rfl,Ac,Af hl2 _,.nil⟩ (λk σ HC hk h=>?_) (fun σ HC h=>?_)
   ·obtain⟨u,zs,rfl,c1,c2,c3⟩:=h
    refine⟨_,rfl,_,rfl,_,rfl,Ar (by show 3<=1000;decide),λtq htq=>?_⟩
    have s3:=Af htq (.tup [.int (i:Int),.int ((1+j:Nat):Int),.int (0+(k:Int))])
    have c1':=s3 _ _ c1
    have lz:=QbR c3
    rw[Qbx,Qbj] at lz
    have n1:∀zs',(upd HC tq (.tup [.int (i:Int),.int ((1+j:Nat):Int),.int (0+(k:Int))])) l2≠some (.tup zs'):=λzs' z=>by rw[c1'] at z;cases z
    have t4:=Am.upd (o:=.lst (zs++[.ref tq])) n1
    refine⟨_,c1',Ao (by omega),_,zs++[.ref tq],rfl,Ac,(c2.trans s3).Bt Ah.upd hl2,?_⟩
    rw[List.range_succ,Qby]
    refine Qck ⟨tq,rfl,?_⟩ (Paired.Az c3 λ_ _ z=>(z.tups (Am.of s3)).tups t4)
    refine t4 _ _ ?_
    rw[Ac,Int.zero_add]
   obtain⟨u,zs,rfl,c1,c2,c3⟩:=h
   have lz:=QbR c3
   rw[Qbx,Qbj] at lz
   have hyC:=c2 _ _ hyt
   refine⟨l,l2,_,_,rfl,rfl,hyC,c1,Ar (by omega),?_⟩
   have n2:∀zs',HC l≠some (.tup zs'):=λzs' z=>by rw[hyC] at z;cases z
   have t5:=Am.upd (o:=.lst (ys++zs)) n2
   refine⟨ys++zs,_,_,_,_,rfl,(sjt.trans c2).Bt Ah.upd fl,Ac,?_⟩
   rw[CN,ej,show ∀(a:List Sp3) (x:Sp3) (b c:List Sp3),a++x::(b++c)=(a++x::b)++c from λa x b c=>by simp]
   exact Paired.app (Paired.Az pjt λ_ _ z=>(z.tups (Am.of c2)).tups t5) (Paired.Az c3 λ_ _ z=>z.tups t5)
  ·obtain⟨ys,u4,u5,u6,u7,rfl,sj,hyj,pj⟩:=h
   exact⟨ys,_,_,_,_,_,_,rfl,sj,hyj,by rw[CN,ek,<-lws];exact pj⟩
 ·obtain⟨ys,u2,u3,u4,u5,u6,u7,rfl,sm,hy,py⟩:=h
  rw[lvs] at py
  exact⟨_,rfl,q l ys HH fl hy py sm⟩
theorem bR (c:Code K mg "openers" Mh JT) (T:Tx K mg op oe):Good P w K mg base "openers" 1 JT qy:=by
 refine c.good Kw (λvs H Q E h=>?_) (λf cdv A outer s H vs Q E hr h=>?_)
 ·obtain⟨pl,loops,rfl,_⟩:=h
  rfl
 obtain⟨pl,loops,rfl,⟨v0,v2,Ls,vs,hpl,hLs,hlo⟩,ok,q⟩:=h
 refine⟨_,(Ag (Bb (i:=1) Kw.nd rfl (Or.inl rfl) (BL Ab))
 (Ag (BW QbA rfl (Rx rfl T.enumerate (Bo Cm (pv 0) Ae (λ_ _=>rfl))) (CV rfl (Aq (Ak (i:=2) Kw.nd rfl (Or.inr rfl)) (Aq (Ak (i:=3) Kw.nd rfl (Or.inl rfl)) Bw)))
 (Ag (Bg (CG Qaq Qam Qan Cd (pv 1) (Aa (Bh (Aa (pv 2) (Aa Ae Ab))) Ab)))
 (Ag (Bg (CG Qaq Qao Qap Il (pv 1) (Aa (Ck (N':=["at","place","loop"]) rfl (Bk.of (src:=[none,none,some 2]) (Aj Mh) ["plan","told","loop","places"] rfl rfl rfl (by trivial) (by trivial) (by trivial) rfl (by trivial)) (Lh rfl T.enumerate (pv 3) Ae) (λ_ _ _ _=>(Ik (K:=K) (n:=2) rfl rfl (Aq (Ak (i:=0) (show List.Nodup (["at","place","loop"]:List Str) by trivial) rfl (Or.inl rfl)) (Aq (Ak (i:=1) (show List.Nodup (["at","place","loop"]:List Str) by trivial) rfl (Or.inl rfl)) Bw)))) (λ_ _ _ _=>(Li (Bq (gG (K:=K) rfl hr.units) (pv 1) (PL rfl T.OPENER) (BJ _)))) (λ_ _ _ _=>(Bh (Aa (pv 2) (Aa (pv 0) Ab))))) Ab)))
 (Ai (Bg (CG Qaq Qam Qan Cd (pv 1) (Aa (Bh (Aa (pv 2) (Aa (Bd Cj (Aw Bs rfl T.len CW (Aa (pv 3) Ab)) Ae) Ab))) Ab)))))))
 (Ai (Ba (pv 1))))),?_⟩
 generalize hst:L2.start _ _=σ0
 have e0:σ0=[some (.ref pl),none,none,none]:=hst.symm
 clear hst
 subst e0
 refine⟨Ar (by show 0<=1000;decide),λl fl=>?_⟩
 simp only[QaQ,QaO]
 have s1:=Af fl (.lst [])
 have lvs:=QbR hlo
 refine⟨_,rfl,pl,_,_,_,rfl,rfl,SqT.of (s1 _ _ hpl),rfl,Ls,rfl,⟨vs,SqT.of (s1 _ _ hLs)⟩,?_⟩
 refine Ie (xs:=vs) (lo:=0) (λi σ HH=>∃(ys:List V) (u2 u3:Option V),σ=[some (.ref pl),some (.ref l),u2,u3]/\Same H HH/\HH l=some (.lst ys)/\Paired (OJ HH) ys (up (gtL loops) i)) ⟨[],_,_,rfl,s1,Ac,.nil⟩ (λi σ HH _ h=>?_) (λi x pt σ HH hx h hpt=>?_) (fun σ HH h=>?_)
 ·obtain⟨ys,_,_,_,sm,_⟩:=h
  exact SqT.of (sm _ _ hLs)
 ·obtain⟨ys,u2,u3,rfl,sm,hy,py⟩:=h
  obtain⟨ps,hps,hL⟩:=Paired.Ci hlo hx
  obtain⟨t,ws,rfl,ht,hws⟩:=id hL
  have okl:=ok.ok ps (Qaz hps)
  have ek:gtL loops i=(⟨i,0⟩::up (gt1 i ps) ps.length)++[⟨(i:Int),(ps.length:Int)+1⟩]:=Di hps
  have lws:=QbR hws
  have t0:=Af hpt (.tup [.int ((0+i:Nat):Int),.ref t])
  refine⟨pt,_,rfl,SqT.of Ac,rfl,_,_,rfl,_,_,rfl,rfl,?_⟩
  have sm0:=sm.trans t0
  have hy0:=t0 _ _ hy
  have py0:=Paired.Az py λ_ _ (z:OJ HH _ _)=>z.tups (Am.of t0)
  generalize upd HH pt (.tup [.int ((0+i:Nat):Int),.ref t])=HA at sm0 hy0 py0
  simp only[QaQ,QaO,Nat.zero_add]
  have hil:=(Qai.mp hps).1
  have lu:=Ez (ak ok) i
  have hhi:=ok.hi
  have ly0:=QbR py0
  refine⟨_,rfl,.inl ⟨rfl,_,SqL.of hy0⟩,_,rfl,Ar (by show 2<=1000;decide),λtz htz=>?_⟩
  have t3:=Af htz (.tup [.int (i:Int),.int 0])
  refine⟨l,_,_,rfl,rfl,t3 _ _ hy0,Ao (by omega),?_⟩
  have n0:∀zs,(upd HA tz (.tup [.int (i:Int),.int 0])) l≠some (.tup zs):=λzs z=>by rw[t3 _ _ hy0] at z;cases z
  have tt:=Am.upd (o:=.lst (ys++[.ref tz])) n0
  have sm1:Same H (upd (upd HA tz (.tup [.int (i:Int),.int 0])) l (.lst (ys++[.ref tz]))):=(sm0.trans t3).Bt Ah.upd fl
  have py1:Paired (OJ _) (ys++[.ref tz]) (up (gtL loops) i++[⟨(i:Int),0⟩]):=Qck ⟨tz,rfl,tt _ _ Ac⟩ (Paired.Az py0 λ_ _ z=>(z.tups (Am.of t3)).tups tt)
  have hy1:(upd (upd HA tz (.tup [.int (i:Int),.int 0])) l (.lst (ys++[.ref tz]))) l=some (.lst (ys++[.ref tz])):=Ac
  generalize upd (upd HA tz (.tup [.int (i:Int),.int 0])) l (.lst (ys++[.ref tz]))=HB at sm1 py1 hy1
  generalize ys++[.ref tz]=ys1 at py1 hy1
  have ly1:=QbR py1
  rw[QaM] at ly1
  have ly1:ys1.length<=14*i+1:=by rw[ly1];show _+1<=_;omega
  refine⟨_,rfl,.inl ⟨rfl,_,SqL.of hy1⟩,_,rfl,t,rfl,⟨ws,SqT.of (sm1 _ _ ht)⟩,λl2 hl2=>?_⟩
  refine jx (xs:=ws) (lo:=1) (λk σ HC=>∃(u v:Option V) (zs:List V),σ=[u,v,some (.int (i:Int))]/\HC l2=some (.lst zs)/\Same HB HC/\Paired (OJ HC) zs (up (gt1 i ps) k)) ⟨none,none,[],rfl,Ac,Af hl2 _,.nil⟩ (λk σ HC _ h=>?_) (λk x pt σ HC hx h hpt=>?_) (fun σ HC h=>?_)
  ·obtain⟨_,_,zs,_,_,sc,_⟩:=h
   exact SqT.of (sc _ _ (sm1 _ _ ht))
  ·obtain⟨u,v,zs,rfl,c1,c2,c3⟩:=h
   obtain⟨p,hp,hP⟩:=Paired.Ci hws hx
   have okp:=okl.ok p (Qaz hp)
   have ej:gt1 i ps k=if V.str p.kind=V.str "opener" then [⟨(i:Int),((1+k:Nat):Int)⟩] else []:=Di hp
   have hkl:=(Qai.mp hp).1
   have h12:=okl.hi
   have lk:=Ez (Uy (lp:=i) (ps:=ps)) k
   have lz:=QbR c3
   have t1:=Af hpt (.tup [.int ((1+k:Nat):Int),x])
   have hpa:=hP.tups (Am.of ((sm1.trans c2).trans t1))
   refine⟨pt,_,rfl,SqT.of Ac,rfl,_,_,rfl,_,_,rfl,rfl,?_⟩
   refine⟨_,rfl,Lf p,opD,hpa.rep,.tup (T.opT _) (.cons (.str _) (.cons (.int _) (.cons (.tup (T.opE _) .nil) .nil))),PB okp,(by trivial),_,rfl,?_⟩
   rw[Vc okp]
   by_cases ck:V.str p.kind=V.str "opener"
   ·rw[QbM ck]
    rw[if_pos ck] at ej
    refine Ca ⟨_,rfl,_,rfl,Ar (by show 2<=1000;decide),λtq htq=>?_⟩
    have s3:=Af htq (.tup [.int (i:Int),.int ((1+k:Nat):Int)])
    have t13:=t1.trans s3
    have c1':=t13 _ _ c1
    have n1:∀zs',(upd (upd HC pt (.tup [.int ((1+k:Nat):Int),x])) tq (.tup [.int (i:Int),.int ((1+k:Nat):Int)])) l2≠some (.tup zs'):=λzs' z=>by rw[c1'] at z;cases z
    have t4:=Am.upd (o:=.lst (zs++[.ref tq])) n1
    refine⟨_,c1',Ao (by omega),_,_,zs++[.ref tq],rfl,Ac,(c2.trans t13).Bt Ah.upd hl2,?_⟩
    rw[CN,ej]
    exact Qck ⟨tq,rfl,t4 _ _ Ac⟩ (Paired.Az c3 λ_ _ z=>(z.tups (Am.of t13)).tups t4)
   ·rw[QbC ck]
    rw[if_neg ck] at ej
    refine Cr ⟨_,_,zs,rfl,t1 _ _ c1,c2.trans t1,?_⟩
    rw[CN,ej,QbD]
    exact Paired.Az c3 λ_ _ z=>z.tups (Am.of t1)
  obtain⟨u,v,zs,rfl,c1,c2,c3⟩:=h
  have lz:=QbR c3
  have lk:=Ez (Uy (lp:=i) (ps:=ps)) ws.length
  have h12:=okl.hi
  have hyC:=c2 _ _ hy1
  refine⟨l,l2,_,_,rfl,rfl,hyC,c1,Ar (by omega),?_⟩
  have n2:∀zs',HC l≠some (.tup zs'):=λzs' z=>by rw[hyC] at z;cases z
  have t5:=Am.upd (o:=.lst (ys1++zs)) n2
  have sm2:Same H (upd HC l (.lst (ys1++zs))):=(sm1.trans c2).Bt Ah.upd fl
  have py2:Paired (OJ _) (ys1++zs) ((up (gtL loops) i++[⟨(i:Int),0⟩])++up (gt1 i ps) ws.length):=Paired.app (Paired.Az py1 λ_ _ z=>(z.tups (Am.of c2)).tups t5) (Paired.Az c3 λ_ _ z=>z.tups t5)
  have hy2:(upd HC l (.lst (ys1++zs))) l=some (.lst (ys1++zs)):=Ac
  have ly2:(ys1++zs).length<=100:=by rw[QaM];omega
  generalize upd HC l (.lst (ys1++zs))=HD at sm2 py2 hy2
  generalize ys1++zs=ys2 at py2 hy2 ly2
  refine⟨_,rfl,.inl ⟨rfl,_,SqL.of hy2⟩,_,rfl,_,rfl,t,_,rfl,.inr (SqT.of (sm2 _ _ ht)),_,_,rfl,rfl,Ar (by show 2<=1000;decide),λte hte=>?_⟩
  have t6:=Af hte (.tup [.int (i:Int),.int ((ws.length:Int)+1)])
  have hy3:=t6 _ _ hy2
  refine⟨l,_,_,rfl,rfl,hy3,Ao (by omega),?_⟩
  have n3:∀zs',(upd HD te (.tup [.int (i:Int),.int ((ws.length:Int)+1)])) l≠some (.tup zs'):=λzs' z=>by rw[hy3] at z;cases z
  have t7:=Am.upd (o:=.lst (ys2++[.ref te])) n3
  refine⟨ys2++[.ref te],_,_,rfl,(sm2.trans t6).Bt Ah.upd fl,Ac,?_⟩
  rw[CN,ek,<-lws,show ∀(a:List Gt) (x:Gt) (b c:List Gt),a++(x::b++c)=(a++[x]++b)++c from λa x b c=>by simp]
  exact Qck ⟨te,rfl,t7 _ _ Ac⟩ (Paired.Az py2 λ_ _ z=>(z.tups (Am.of t6)).tups t7)
 ·obtain⟨ys,u2,u3,rfl,sm,hy,py⟩:=h
  rw[lvs] at py
  exact⟨_,rfl,q l ys HH fl hy py sm⟩
end
abbrev Ud:Stmt:=top 42
abbrev Nt:List Str:=["plan","loop"]
theorem NZ:Ay ["plan","loop","told","at","place"] Nt (Aj Ud):=⟨rfl,rfl,rfl,by trivial,rfl,by trivial,by trivial⟩
def stP (lp:Int) (ps:List Place):Nat->List (List Sp3)×List Sp3
 | 0=>([],[])
 | i+1=>match ps[i]? with
  | none=>stP lp ps i
  | some p=>if V.str p.kind=V.str "opener" then ((stP lp ps i).1++[(stP lp ps i).2],[]) else ((stP lp ps i).1,(stP lp ps i).2++(Br lp ((1+i:Nat):Int) p).map Sd.spot)
theorem Sv {lp:Int} {ps:List Place} {i:Nat} {p:Place} (h:ps[i]?=some p) (k:V.str p.kind=V.str "opener"):stP lp ps (i+1)=((stP lp ps i).1++[(stP lp ps i).2],[]):=by
 show (match ps[i]? with | none=>stP lp ps i | some p=>if V.str p.kind=V.str "opener" then ((stP lp ps i).1++[(stP lp ps i).2],[]) else ((stP lp ps i).1,(stP lp ps i).2++(Br lp ((1+i:Nat):Int) p).map Sd.spot))=_
 rw[h]
 exact if_pos k
theorem Qv {lp:Int} {ps:List Place} {i:Nat} {p:Place} (h:ps[i]?=some p) (k:¬V.str p.kind=V.str "opener"):stP lp ps (i+1)=((stP lp ps i).1,(stP lp ps i).2++(Br lp ((1+i:Nat):Int) p).map Sd.spot):=by
 show (match ps[i]? with | none=>stP lp ps i | some p=>if V.str p.kind=V.str "opener" then ((stP lp ps i).1++[(stP lp ps i).2],[]) else ((stP lp ps i).1,(stP lp ps i).2++(Br lp ((1+i:Nat):Int) p).map Sd.spot))=_
 rw[h]
 exact if_neg k
theorem M6 {α β : Type} {F G:α->β->Prop}:∀{l₁ : List α} {l₂ : List β},Paired F l₁ l₂->(∀a∈l₁,∀b,F a b->G a b)->Paired G l₁ l₂
 | _,_,.nil,_=>.nil
 | _,_,.cons r t,f=>.cons (f _ QaN _ r) (M6 t λa ha b=>f a (QaA _ ha) b)
theorem SX {α β : Type} {F:α->β->Prop}:∀{l₁ : List α} {l₂ : List β} {a:α},Paired F l₁ l₂->a∈l₁->∃b,F a b
 | _,_,_,.nil,h=>by cases h
 | _,_,_,.cons r t,h=>by
  rcases QbS.mp h with rfl | h
  ·exact⟨_,r⟩
  ·exact SX t h
theorem O1 {α β : Type} {F:α->β->Prop}:∀{a₁ b₁ : List α} {a₂ b₂ : List β},Paired F a₁ a₂->Paired F b₁ b₂->Paired F (a₁++b₁) (a₂++b₂)
 | _,_,_,_,.nil,t=>t
 | _,_,_,_,.cons r s,t=>.cons r (O1 s t)
def Kl (H:Hp) (v:V) (sp:List Sp3):Prop:=∃q ys,v=.ref q/\H q=some (.lst ys)/\Paired (Fx H) ys sp
def ZG:Sp:=λvs H Q _=>∃(pl Ls t:Addr) (v0 v2:V) (ls ws:List V) (k:Nat) (ps:List Place),vs=[.ref pl,.int (k:Int)]/\H pl=some (.tup [v0,.ref Ls,v2])/\H Ls=some (.tup ls)/\ls[k]?=some (.ref t)/\H t=some (.tup ws)/\Paired (Dk H) ws ps/\(∀p∈ps,OkP p)/\ps.length<=12 /\
 ∀l xs H',H l=none->H' l=some (.lst xs)->Paired (Kl H') xs ((stP k ps ps.length).1++[(stP k ps ps.length).2])->(∀x∈xs,∃q,x=.ref q/\H q=none/\q≠l)->Same H H'->Q (.ref l) H'
section
variable {P:Program} {w:World} {K:PySem.W.Frag} {mg:Str->Option Value} {base:Heap} {op oe:Addr}
theorem lY (c:Code K mg "parts" Ud Nt) (T:Tx K mg op oe) (Jg:Good P w K mg base "place_devices" 1 DN j7):Good P w K mg base "parts" 2 Nt ZG:=by
 refine c.good NZ (λvs H Q E h=>?_) (λf cdv A outer s H vs Q E hr h=>?_)
 ·obtain⟨pl,Ls,t,v0,v2,ls,ws,k,ps,rfl,_⟩:=h
  rfl
 obtain⟨pl,Ls,t,v0,v2,ls,ws,k,ps,rfl,hpl,hLs,hk,ht,hps,hok,h12,q⟩:=h
 refine⟨_,(Ag (Bb (i:=2) NZ.nd rfl (Or.inl rfl) (BL (Aa (BL Ab) Ab)))
 (Ag (BW QbA rfl (Lh rfl T.enumerate (Bo Cm (Bo Cm (pv 0) Ae (λ_ _=>rfl)) (pv 1) (λ_ _=>rfl)) Ae) (CV rfl (Aq (Ak (i:=3) NZ.nd rfl (Or.inl rfl)) (Aq (Ak (i:=4) NZ.nd rfl (Or.inl rfl)) Bw)))
 (Ai (BP (Bq (gG (K:=K) rfl hr.units) (pv 4) (PL rfl T.OPENER) (BJ _)) (Ai (Bg (CG Qaq Qam Qan Cd (pv 2) (Aa (BL Ab) Ab)))) (Ai (Bg (CG Qaq Qao Qap Il (Bo Cv (pv 2) (V5 Sh Ae) (λ_ _=>rfl)) (Aa (Ck (N':=["spot","kind","address"]) rfl (Bk.plain rfl (by trivial) (by trivial) (by trivial)) (Dr (Ax Jg hr (Aa (pv 1) (Aa (pv 3) (Aa (pv 4) Ab))))) (λ_ _ _ _=>(Ik (K:=K) (n:=3) rfl rfl (Aq (Ak (i:=0) (show List.Nodup (["spot","kind","address"]:List Str) by trivial) rfl (Or.inl rfl)) (Aq (Ak (i:=1) (show List.Nodup (["spot","kind","address"]:List Str) by trivial) rfl (Or.inl rfl)) (Aq (Ak (i:=2) (show List.Nodup (["spot","kind","address"]:List Str) by trivial) rfl (Or.inl rfl)) Bw))))) (λ_ _ _ _=>CJ) (λ_ _ _ _=>(pv 0))) Ab)))))))
 (Ai (Ba (pv 2))))),?_⟩
 generalize hst:L2.start _ _=σ0
 have e0:σ0=[some (.ref pl),some (.int (k:Int)),none,none,none]:=hst.symm
 clear hst
 subst e0
 refine⟨(by show 0<=sizeLine;decide),λq0 hq0=>⟨(by show 1<=sizeLine;decide),λl hl=>?_⟩⟩
 have s1:=Af hq0 (.lst [])
 have s2:=Af hl (.lst [.ref q0])
 have sm:=s1.trans s2
 have hl0:=s1.free hl
 have el:_=some (HO.lst [.ref q0]):=Ac (H:=upd H q0 (.lst [])) (a:=l) (o:=.lst [.ref q0])
 have eq0:_=some (HO.lst []):=s2 _ _ (Ac (H:=H) (a:=q0) (o:=.lst []))
 have nq:q0≠l:=Av (Ac (H:=H) (a:=q0) (o:=.lst [])) hl
 generalize hX:upd (upd H q0 (.lst [])) l (.lst [.ref q0])=H1 at sm el eq0
 simp only[QaQ,QaO]
 have BV:ws.length=ps.length:=QbR hps
 refine⟨_,rfl,pl,_,_,_,rfl,rfl,SqT.of (sm _ _ hpl),rfl,_,rfl,Ls,_,_,_,rfl,rfl,SqT.of (sm _ _ hLs),FW hk,t,rfl,⟨ws,SqT.of (sm _ _ ht)⟩,?_⟩
 refine Ie (xs:=ws) (lo:=1) (λi σ HH=>∃qs ql u3 u4,σ=[some (.ref pl),some (.int (k:Int)),some (.ref l),u3,u4]/\Same H HH/\HH l=some (.lst (qs++[.ref ql]))/\Paired (Kl HH) qs (stP k ps i).1/\Kl HH (.ref ql) (stP k ps i).2 /\
   (∀x∈qs,∃q,x=.ref q/\H q=none/\q≠l/\q≠ql)/\H ql=none/\ql≠l/\qs.length<=i/\(stP k ps i).2.length<=4*i)
  ⟨[],q0,_,_,rfl,sm,el,.nil,⟨q0,[],rfl,eq0,.nil⟩,λx hx=>(by cases hx),hq0,nq,Qci _,Qci _⟩ (λi σ HH _ h=>?_) (λi x pt σ HH hx h hpt=>?_) (fun σ HH h=>?_)
 ·obtain⟨qs,ql,_,_,_,sb,_⟩:=h
  exact SqT.of (sb _ _ ht)
 ·obtain⟨qs,ql,u3,u4,rfl,sb,hy,pd,pc,fq,fl,nl,lq,lc⟩:=h
  obtain⟨p,hpi,hpa⟩:=Paired.Ci hps hx
  have okp:=hok p (Qaz hpi)
  have hpa:=hpa.tups (Am.of sb)
  have t0:=Af hpt (.tup [.int ((1+i:Nat):Int),x])
  have pA:=hpa.tups (Am.of t0)
  have il:i < ps.length:=(Qai.mp hpi).1
  have sb0:=sb.trans t0
  have hy0:=t0 _ _ hy
  have pd0:=Paired.Az pd λ_ _ (z:Kl HH _ _)=>(show Kl (upd HH pt (.tup [.int ((1+i:Nat):Int),x])) _ _ from let ⟨a,ys,e1,e2,e3⟩:=z;⟨a,ys,e1,t0 _ _ e2,Paired.Az e3 λ_ _ y=>y.tups (Am.of t0)⟩)
  have pc0:Kl (upd HH pt (.tup [.int ((1+i:Nat):Int),x])) (.ref ql) (stP k ps i).2:=let ⟨a,ys,e1,e2,e3⟩:=pc;⟨a,ys,e1,t0 _ _ e2,Paired.Az e3 λ_ _ y=>y.tups (Am.of t0)⟩
  refine⟨pt,_,rfl,SqT.of Ac,rfl,_,_,rfl,_,_,rfl,rfl,?_⟩
  generalize upd HH pt (.tup [.int ((1+i:Nat):Int),x])=HA at pA sb0 hy0 pd0 pc0
  simp only[QaQ,QaO]
  refine⟨_,rfl,Lf p,opD,pA.rep,.tup (T.opT HA) (.cons (.str _) (.cons (.int _) (.cons (.tup (T.opE HA) .nil) .nil))),PB okp,(by trivial),_,rfl,?_⟩
  rw[Vc okp]
  by_cases ck:V.str p.kind=V.str "opener"
  ·rw[QbM ck]
   refine Ca ⟨_,rfl,.inl ⟨rfl,_,SqL.of hy0⟩,(by show 0<=sizeLine;decide),λqn hqn=>?_⟩
   have t1:=Af hqn (.lst [])
   refine⟨l,_,_,rfl,rfl,t1 _ _ hy0,Ao (by rw[QaM];simp only[Qay];omega),?_⟩
   have nln:l≠qn:=Av hy0 hqn
   have sS:Ah l HA (upd (upd HA qn (.lst [])) l (.lst (qs++[.ref ql]++[.ref qn]))):=(Ah.of t1).trans Ah.upd
   have eqn:(upd (upd HA qn (.lst [])) l (.lst (qs++[.ref ql]++[.ref qn]))) qn=some (.lst []):=by rw[Al nln.symm,Ac]
   have ell:(upd (upd HA qn (.lst [])) l (.lst (qs++[.ref ql]++[.ref qn]))) l=some (.lst (qs++[.ref ql]++[.ref qn])):=Ac
   have nlt:∀zs,HA l≠some (.tup zs):=λzs z=>by rw[hy0] at z;cases z
   generalize upd (upd HA qn (.lst [])) l (.lst (qs++[.ref ql]++[.ref qn]))=HB at sS eqn ell
   have keep:∀v sp,Kl HA v sp->v≠.ref l->Kl HB v sp:=λv sp z n=>by
    obtain⟨a,ys,e1,e2,e3⟩:=z
    exact⟨a,ys,e1,sS _ _ e2 (λw=>n (by rw[e1,w])),Paired.Az e3 λ_ _ y=>y.tups (sS.tup nlt)⟩
   have fqn:=sb0.free hqn
   refine⟨qs++[.ref ql],qn,_,_,rfl,sb0.Bt sS hl0,ell,?_,⟨qn,[],rfl,eqn,?_⟩,λy hy'=>?_,fqn,nln.symm,by rw[QaM];simp only[Qay];omega,?_⟩
   ·rw[Sv hpi ck]
    refine Qck (keep _ _ pc0 λz=>nl (by injection z)) ?_
    exact M6 pd0 λy hy' sp z=>keep _ _ z λw=>by
     obtain⟨a,e,_,n,_⟩:=fq y hy'
     rw[e] at w
     injection w with w
     exact n w
   ·rw[Sv hpi ck];exact .nil
   ·rcases Qbz.mp hy' with z | z
    ·obtain⟨a,e,f1,n1,n2⟩:=fq y z
     have hm:y∈qs:=z
     refine⟨a,e,f1,n1,λw=>?_⟩
     obtain⟨sp,C9⟩:=SX pd0 hm
     obtain⟨a',ys,e1,e2,_⟩:=C9
     rw[e] at e1
     injection e1 with e1
     rw[<-e1,w,hqn] at e2
     cases e2
    ·have hz:y=.ref ql:=by simpa using z
     refine⟨ql,hz,fl,nl,λw=>?_⟩
     obtain⟨a',ys,e1,e2,_⟩:=pc0
     injection e1 with e1
     rw[<-e1,w,hqn] at e2
     cases e2
   ·rw[Sv hpi ck];exact Qcj _
  ·rw[QbC ck]
   obtain⟨a,yc,ea,eyc,pcs⟩:=id pc0
   injection ea with ea
   subst ea
   refine Cr ⟨_,rfl,_,rfl,l,_,_,_,rfl,rfl,SqL.of hy0,Yx qs (.ref ql),.inl ⟨rfl,_,SqL.of eyc⟩,?_⟩
   refine⟨_,rfl,_,rfl,_,rfl,(k:Int),((1+i:Nat):Int),x,p,rfl,pA,okp.spur,λld xs' HB fld hld pdd sB=>⟨ld,rfl,⟨xs',SqL.of hld⟩,λl2 hl2=>?_⟩⟩
   have lsd:(Br k ((1+i:Nat):Int) p).length<=4:=by
    unfold Br
    rw[if_neg ck,Qbq,Kv]
    have:=okp.spur
    omega
   have lx:xs'.length<=4:=by rw[QbR pdd];exact lsd
   refine Gd (xs:=xs') (λj σ HH2=>∃u v w ys,σ=[u,v,w]/\HH2=upd HB l2 (.lst ys)/\ys.length<=j/\Paired (Fx HB) ys (((Br k ((1+i:Nat):Int) p).take j).map Sd.spot)) ⟨none,none,none,[],rfl,rfl,Qci _,.nil⟩ (λj σ HH2 _ h=>?_) (λj y σ HH2 hyj h=>?_) (fun σ HH2 h=>?_)
   ·obtain⟨u,v,w,ys,rfl,rfl,_⟩:=h
    exact SqL.of (Af hl2 _ _ _ hld)
   ·obtain⟨u,v,w,ys,rfl,rfl,lys,pys⟩:=h
    obtain⟨d,hdj,td,ud,rfl,e1,e2⟩:=Paired.Ci pdd hyj
    have jl:=(Qai.mp hyj).1
    refine⟨td,_,rfl,SqT.of (Af hl2 _ _ _ e1),rfl,_,_,rfl,_,_,rfl,_,_,rfl,rfl,_,rfl,ys,Ac,Ao (by omega),_,_,_,ys++[.ref ud],rfl,Qp,by rw[QaM];simp only[Qay];omega,?_⟩
    rw[List.take_succ,hdj,Qby]
    exact Qck ⟨ud,rfl,e2⟩ pys
   ·obtain⟨u,v,w,ys,rfl,rfl,lys,pys⟩:=h
    rw[QbR pdd,Qbo] at pys
    have t2:=Af hl2 (.lst ys)
    have s02:=sB.trans t2
    have nq2:ql≠l2:=Av (sB _ _ eyc) hl2
    have lyc:yc.length<=4*i:=by rw[QbR pcs];exact lc
    refine⟨ql,l2,_,_,rfl,rfl,s02 _ _ eyc,Ac,Ar (by omega),?_⟩
    have sS:Ah ql HA (upd (upd HB l2 (.lst ys)) ql (.lst (yc++ys))):=(Ah.of s02).trans Ah.upd
    have eql:(upd (upd HB l2 (.lst ys)) ql (.lst (yc++ys))) ql=some (.lst (yc++ys)):=Ac
    have nqt:∀zs,(upd HB l2 (.lst ys)) ql≠some (.tup zs):=λzs z=>by rw[s02 _ _ eyc] at z;cases z
    have tE:Am HB (upd (upd HB l2 (.lst ys)) ql (.lst (yc++ys))):=(Am.of t2).trans (Am.upd nqt)
    have nqa:∀zs,HA ql≠some (.tup zs):=λzs z=>by rw[eyc] at z;cases z
    generalize upd (upd HB l2 (.lst ys)) ql (.lst (yc++ys))=HC at sS eql tE
    refine⟨qs,ql,_,_,rfl,sb0.Bt sS fl,sS _ _ hy0 nl.symm,?_,⟨ql,yc++ys,rfl,eql,?_⟩,fq,fl,nl,by omega,?_⟩
    ·rw[Qv hpi ck]
     exact M6 pd0 λy hy' sp z=>by
      obtain⟨a',ys',e1,e2,e3⟩:=z
      obtain⟨b',f1,_,_,f4⟩:=fq y hy'
      refine⟨a',ys',e1,sS _ _ e2 (λw=>f4 ?_),Paired.Az e3 λ_ _ y=>y.tups (sS.tup nqa)⟩
      rw[e1] at f1
      injection f1 with f1
      rw[<-f1,w]
    ·rw[Qv hpi ck]
     exact O1 (Paired.Az pcs λ_ _ y=>y.tups (sS.tup nqa)) (Paired.Az pys λ_ _ y=>y.tups tE)
    ·rw[Qv hpi ck,QaM,Qbx]
     omega
 ·obtain⟨qs,ql,u3,u4,rfl,sb,hy,pd,pc,fq,fl,nl,_⟩:=h
  rw[BV] at pd pc
  refine⟨_,rfl,q l _ HH hl0 hy (Qck pc pd) (λx hx=>?_) sb⟩
  rcases Qbz.mp hx with z | z
  ·obtain⟨a,e,n,m,_⟩:=fq x z
   exact⟨a,e,n,m⟩
  ·have:x=.ref ql:=by simpa using z
   exact⟨ql,this,fl,nl⟩
end
abbrev Ky:Stmt:=top 18
abbrev Fi:List Str:=["thing"]
theorem YK:Ay ["thing"] Fi (Aj Ky):=⟨rfl,rfl,rfl,by trivial,rfl,by trivial,by trivial⟩
abbrev Mx:Stmt:=top 19
abbrev Ef:List Str:=["thing","low","high"]
theorem WM:Ay ["thing","low","high"] Ef (Aj Mx):=⟨rfl,rfl,rfl,by trivial,rfl,by trivial,by trivial⟩
abbrev Rv:Stmt:=top 20
abbrev Dh:List Str:=["thing","least","most"]
theorem fU:Ay ["thing","least","most"] Dh (Aj Rv):=⟨rfl,rfl,rfl,by trivial,rfl,by trivial,by trivial⟩
abbrev K9:Stmt:=top 21
abbrev FN:List Str:=["thing","many"]
theorem Vz:Ay ["thing","many"] FN (Aj K9):=⟨rfl,rfl,rfl,by trivial,rfl,by trivial,by trivial⟩
theorem CU {b:Bool} {A B:Prop} (h1:b=true->A) (h2:b=false->B):if b=true then A else B:=by
 cases b with
 | true=>exact Ca (h1 rfl)
 | false=>exact Cr (h2 rfl)
theorem Va {I R:TS} {D:Ends} {σ : St} {H:Hp} (P:St->Hp->Prop) (hR:∀ σ' H',P σ' H'->R D σ' H') (hI:∀D':Ends,(∀ σ' H',P σ' H'->D'.nx σ' H')->I D' σ H):uR I R D σ H:=hI { D with nx:=fun σ H=>R D σ H } hR
def iv (xs:List Int):List V:=xs.map V.int
def spW:Sp:=λvs H Q _=>∃i:Int,vs=[.int i]/\Q (.bl true) H
def K5:Sp:=λvs H Q _=>∃x lo hi:Int,vs=[.int x,.int lo,.int hi]/\Q (.bl (decide (lo<=x/\x<=hi))) H
def vp:Sp:=λvs H Q _=>∃v,vs=[v]/\Kn H v/\Q (.bl (isW v)) H
def Rw (o:Option (List V)) (a b:Int):Bool:=match o with
 | some xs=>decide (a<=xs.length)&&decide ((xs.length:Int)<=b)
 | none=>false
def GD:Sp:=λvs H Q _=>∃v a b,vs=[v,.int a,.int b]/\Kn H v/\Q (.bl (Rw (Gv H v) a b)) H
structure Th (H:Hp) (v:V):Prop where
 kn:Kn H v
 parts:∀xs,Gv H v=some xs->xs.length<=100/\∀y∈xs,Kn H y
def KN (o:Option (List V)) (n:Int):Bool:=match o with
 | some xs=>Rw (some xs) n n&&xs.all isW
 | none=>false
theorem K3 {xs:List V} {n:Int}:KN (some xs) n=(Rw (some xs) n n&&xs.all isW):=rfl
def Pb:Sp:=λvs H Q _=>∃v n,vs=[v,.int n]/\Th H v/\∀H',Same H H'->Q (.bl (KN (Gv H v) n)) H'
theorem Uw {v:V} (h:isW v=true):∃i,v=.int i:=by
 cases v with
 | int i=>exact⟨i,rfl⟩
 | _=>cases h
theorem ug {P:Program} {w:World} {K:PySem.W.Frag} {mg:Str->Option Value} {base:Heap} {x:Str} {k:Nat} {ps:List Str} {sp sp':Sp} (g:Good P w K mg base x k ps sp) (h:∀vs H Q E,sp' vs H Q E->sp vs H Q E):Good P w K mg base x k ps sp':=⟨let ⟨f,fd,a,b,c,F⟩:=g.ex;⟨f,fd,a,b,c,F.imp h⟩⟩
section
variable {P:Program} {w:World} {K:PySem.W.Frag} {mg:Str->Option Value} {base:Heap}
theorem P0 (c:Code K mg "is_whole" Ky Fi) (T:Nm mg):Good P w K mg base "is_whole" 1 Fi vp:=by
 refine c.good YK (λvs H Q E h=>?_) (λf cdv A outer s H vs Q E hr h=>?_)
 ·obtain⟨v,rfl,_⟩:=h
  rfl
 obtain⟨v,rfl,k,q⟩:=h
 refine⟨_,(Ai (Ba (DW (Aw Ow rfl T.isinstance Bl (Aa (pv 0) (Aa (Np (v:=.ty "int") rfl T.int jF rfl) Ab))) (DR (vR (Aw Ow rfl T.isinstance Bl (Aa (pv 0) (Aa (Np (v:=.ty "bool") rfl T.bool ux rfl) Ab)))))))),?_⟩
 refine⟨_,rfl,tZ k ⟨_,rfl,?_⟩⟩
 rw[wR] at q
 cases e:isI v with
 | false=>rw[e] at q;exact Cr q
 | true=>rw[e] at q;exact Ca ⟨_,rfl,o9 e ⟨_,rfl,q⟩⟩
theorem YQ (c:Code K mg "is_whole" Ky Fi) (T:Nm mg):Good P w K mg base "is_whole" 1 Fi spW:=ug (P0 c T) λvs H Q E h=>let ⟨i,e,q⟩:=h;⟨.int i,e,True.intro,q⟩
theorem Xp (c:Code K mg "is_within" Mx Ef) (T:Nm mg) (Om:Good P w K mg base "is_whole" 1 Fi spW):Good P w K mg base "is_within" 2 Ef K5:=by
 refine c.good WM (λvs H Q E h=>?_) (λf cdv A outer s H vs Q E hr h=>?_)
 ·obtain⟨x,lo,hi,rfl,_⟩:=h
  rfl
 obtain⟨x,lo,hi,rfl,q⟩:=h
 refine⟨_,(Ai (Ba (DW (Ax Om hr (Aa (pv 0) Ab)) (DR (Ob Ml Ml (pv 1) (pv 0) (pv 2)))))),?_⟩
 refine⟨_,rfl,x,rfl,_,rfl,Ca ⟨_,rfl,_,rfl,_,_,rfl,rfl,_,rfl,?_⟩⟩
 by_cases h1:lo<=x
 ·rw[QbM h1]
  refine Ca ⟨_,rfl,_,_,rfl,rfl,?_⟩
  by_cases h2:x<=hi
  ·rw[QbM ⟨h1,h2⟩] at q
   show Q (.bl (decide (x<=hi))) H
   rw[QbM h2]
   exact q
  ·rw[QbC (λz=>h2 z.2)] at q
   show Q (.bl (decide (x<=hi))) H
   rw[QbC h2]
   exact q
 ·rw[QbC (λz=>h1 z.1)] at q
  rw[QbC h1]
  exact Cr q
theorem gM (c:Code K mg "is_row" Rv Dh) (T:Nm mg):Good P w K mg base "is_row" 1 Dh GD:=by
 refine c.good fU (λvs H Q E h=>?_) (λf cdv A outer s H vs Q E hr h=>?_)
 ·obtain⟨v,a,b,rfl,_⟩:=h
  rfl
 obtain⟨v,a,b,rfl,k,q⟩:=h
 refine⟨_,(Ai (Ba (DW (Aw Ow rfl T.isinstance Bl (Aa (pv 0) (Aa (Np (v:=.ty "tuple") rfl T.tuple JB rfl) Ab))) (DR (Ob Ml Ml (pv 1) (Aw Bs rfl T.len CW (Aa (pv 0) Ab)) (pv 2)))))),?_⟩
 refine⟨_,rfl,iD k ⟨_,rfl,?_⟩⟩
 cases e:Gv H v with
 | none=>rw[e] at q;exact Cr q
 | some xs=>
  rw[e] at q
  obtain⟨p,rfl,hp⟩:=RD e
  refine Ca ⟨_,rfl,_,rfl,p,xs,rfl,.inr (SqT.of hp),_,_,rfl,rfl,_,rfl,?_⟩
  by_cases h1:a<=(xs.length:Int)
  ·rw[QbM h1]
   refine Ca ⟨_,rfl,_,_,rfl,rfl,?_⟩
   simpa [Rw,h1] using q
  ·rw[QbC h1]
   refine Cr ?_
   simpa [Rw,h1] using q
theorem VF (c:Code K mg "are_wholes" K9 FN) (T:Nm mg) (Om:Good P w K mg base "is_whole" 1 Fi vp) (Ce:Good P w K mg base "is_row" 1 Dh GD):Good P w K mg base "are_wholes" 2 FN Pb:=by
 refine c.good Vz (λvs H Q E h=>?_) (λf cdv A outer s H vs Q E hr h=>?_)
 ·obtain⟨v,n,rfl,_⟩:=h
  rfl
 obtain⟨v,n,rfl,t,q⟩:=h
 refine⟨_,(Ai (Ba (DW (Ax Ce hr (Aa (pv 0) (Aa (pv 1) (Aa (pv 1) Ab)))) (DR (Aw (GR rfl) rfl T.all Kh (Aa (Ck (N':=["part"]) rfl (Bk.plain rfl (by trivial) (by trivial) (by trivial)) (Fg (pv 0)) (λ_ _ _ _=>(Ak (i:=0) (show List.Nodup (["part"]:List Str) by trivial) rfl (Or.inl rfl))) (λ_ _ _ _=>CJ) (λ_ _ _ _=>(Ax Om hr (Aa (pv 0) Ab)))) Ab)))))),?_⟩
 refine⟨_,rfl,_,rfl,_,rfl,v,n,n,rfl,t.kn,_,rfl,?_⟩
 cases e:Gv H v with
 | none=>exact Cr (by have:=q H (Same.refl H);rw[e] at this;exact this)
 | some xs=>
  obtain⟨p,rfl,hp⟩:=RD e
  have tp:=t.parts xs e
  cases eb:Rw (some xs) n n with
  | false=>exact Cr (by have:=q H (Same.refl H);rw[e,K3,eb] at this;exact this)
  | true=>
   refine Ca ⟨_,rfl,p,rfl,⟨xs,SqT.of hp⟩,λl hl=>?_⟩
   have hpl:p≠l:=Av hp hl
   refine R4 (xs:=xs) (λi σ H'=>∃u,σ=[u]/\H'=upd H l (.lst ((xs.take i).map λy=>V.bl (isW y)))) ⟨none,rfl,rfl⟩ (λi σ H' _ h=>?_) (λi x σ H' hx h=>?_) (fun σ H' h=>?_)
   ·obtain⟨u,rfl,rfl⟩:=h
    exact SqT.of (by rw[Al hpl];exact hp)
   ·obtain⟨u,rfl,rfl⟩:=h
    have sm:Same H (upd H l (.lst ((xs.take i).map λy=>V.bl (isW y)))):=Af hl _
    have et:(xs.take (i+1)).map (λy=>V.bl (isW y))=(xs.take i).map (λy=>V.bl (isW y))++[V.bl (isW x)]:=by rw[List.take_succ,hx];simp
    refine⟨_,rfl,x,rfl,(tp.2 x (Qaz hx)).same sm,_,Ac,Ao (by rw[Qbx,Qbp];omega),_,rfl,?_⟩
    rw[Qp,et]
   ·obtain⟨u,rfl,rfl⟩:=h
    refine⟨l,xs.map isW,rfl,SqL.of ?_,?_⟩
    ·rw[Ac,Qbo,Qce]
     rfl
    ·have:=q _ (Af hl (.lst ((xs.take xs.length).map λy=>V.bl (isW y))))
     rw[e,K3,eb,Bool.true_and] at this
     rw[List.all_map]
     exact this
end
abbrev Mz:Stmt:=top 22
abbrev Hl:List Str:=["row"]
theorem WQ:Ay ["row"] Hl (Aj Mz):=⟨rfl,rfl,rfl,by trivial,rfl,by trivial,by trivial⟩
abbrev Es:Stmt:=top 23
abbrev Dn:List Str:=["thing","least","most","low","high"]
theorem N5:Ay ["thing","least","most","low","high"] Dn (Aj Es):=⟨rfl,rfl,rfl,by trivial,rfl,by trivial,by trivial⟩
abbrev Pr:Stmt:=top 24
abbrev J3:List Str:=["thing"]
theorem bH:Ay ["thing"] J3 (Aj Pr):=⟨rfl,rfl,rfl,by trivial,rfl,by trivial,by trivial⟩
abbrev MJ:Stmt:=top 29
abbrev Gj:List Str:=["kind","address"]
theorem WT:Ay ["kind","address"] Gj (Aj MJ):=⟨rfl,rfl,rfl,by trivial,rfl,by trivial,by trivial⟩
abbrev HF:Stmt:=top 30
abbrev Ek:List Str:=["thing"]
theorem QW:Ay ["thing"] Ek (Aj HF):=⟨rfl,rfl,rfl,by trivial,rfl,by trivial,by trivial⟩
abbrev Pk:Stmt:=top 31
abbrev J0:List Str:=["thing"]
theorem bG:Ay ["thing"] J0 (Aj Pk):=⟨rfl,rfl,rfl,by trivial,rfl,by trivial,by trivial⟩
abbrev N7:Stmt:=top 32
abbrev Jc:List Str:=["thing"]
theorem Hh:Ay ["thing","kind","address","spur"] Jc (Aj N7):=⟨rfl,rfl,rfl,by trivial,rfl,by trivial,by trivial⟩
abbrev Pu:Stmt:=top 33
abbrev Ka:List Str:=["thing"]
theorem bI:Ay ["thing"] Ka (Aj Pu):=⟨rfl,rfl,rfl,by trivial,rfl,by trivial,by trivial⟩
abbrev Pj:Stmt:=top 34
abbrev JZ:List Str:=["thing"]
theorem bF:Ay ["thing"] JZ (Aj Pj):=⟨rfl,rfl,rfl,by trivial,rfl,by trivial,by trivial⟩
abbrev MN:Stmt:=top 35
abbrev Hr:List Str:=["thing"]
theorem WX:Ay ["thing"] Hr (Aj MN):=⟨rfl,rfl,rfl,by trivial,rfl,by trivial,by trivial⟩
abbrev MK:Stmt:=top 36
abbrev Hq:List Str:=["thing"]
theorem WW:Ay ["thing"] Hq (Aj MK):=⟨rfl,rfl,rfl,by trivial,rfl,by trivial,by trivial⟩
abbrev Pq:Stmt:=top 37
abbrev J1:List Str:=["thing"]
theorem IK:Ay ["thing","most","loops","zones"] J1 (Aj Pq):=⟨rfl,rfl,rfl,by trivial,rfl,by trivial,by trivial⟩
structure Ty (K:PySem.W.Frag) (mg:Str->Option Value) (op oe kd wk:Addr):Prop extends Tx K mg op oe where
 KINDS:∃u,mg "KINDS"=some u/\RelV (.ref kd) u
 kdT:∀H,SqT K H kd [.str "seeker",.str "knob",.str "bell",.str "door"]
 WARNING_KINDS:∃u,mg "WARNING_KINDS"=some u/\RelV (.ref wk) u
 wkT:∀H,SqT K H wk [.str "seeker",.str "knob"]
 SMALL_LETTERS:∃u,mg "SMALL_LETTERS"=some u/\RelV (.str abc) u
theorem uE:∀c∈abc.cps.toList,(!(Builtin.Str.occurrences abc ⟨#[c]⟩ 0 abc.length 1).isEmpty)=true:=by
 have h:abc.cps.toList.all (λc=>!(Builtin.Str.occurrences abc ⟨#[c]⟩ 0 abc.length 1).isEmpty)=true:=by trivial
 exact λc hc=>List.all_eq_true.mp h c hc
theorem tW {k:Str} (h:Cz k):inV (.str k) [.str "seeker",.str "knob",.str "bell",.str "door"]=true:=by
 rcases h with rfl | rfl | rfl | rfl <;> decide +kernel
theorem Kg {K:PySem.W.Frag} {a l:Addr} {xs:List V} {te:TE} {Q:VK} {r:St} {H:Hp} (hl:H l=none) (ha:H a=some (.tup xs)) (h100:xs.length<=100)
  (hs:∀(i:Nat) (x:V) (HH:Hp),xs[i]?=some x->Same H HH->∀R:VK,(∀H',Same HH H'->R (.bl true) H')->te (some x::r) HH R)
  (hq:∀H',H' l=some (.lst ((List.replicate xs.length true).map V.bl))->Same H H'->Q (.ref l) H'):Fp (Itt K a) (G5 0) (λ_ H Q=>Q true H) te Q (none::r) (upd H l (.lst [])) l:=by
 refine R4 (xs:=xs) (λi σ HH=>∃u,σ=u::r/\HH l=some (.lst ((List.replicate i true).map V.bl))/\Same H HH) ⟨_,rfl,Ac,Af hl _⟩ (λi σ HH _ h=>?_) (λi x σ HH hx h=>?_) (fun σ HH h=>?_)
 ·obtain⟨u,rfl,_,s⟩:=h
  exact SqT.of (s _ _ ha)
 ·obtain⟨u,rfl,e,s⟩:=h
  have hi:=(Qai.mp hx).1
  unfold G5
  dsimp only
  refine Ca (hs i x HH hx s _ λH' s'=>⟨_,s' _ _ e,Ao (by rw[Qbx,List.length_replicate];omega),_,rfl,?_,(s.trans s').Bt Ah.upd hl⟩)
  rw[Ac,QaD,Qby]
  rfl
 ·obtain⟨u,rfl,e,s⟩:=h
  exact hq _ e s
theorem Hu {H:Hp} {a:Addr} {xs:List V} (h:H a=some (.tup xs)):Kn H (.ref a):=by
 unfold Kn
 first
  | exact⟨_,h,True.intro⟩
  | exact .inr ⟨_,h⟩
  | exact⟨xs,.inr h⟩
theorem Ec {xs:List V} {a b:Int} (h1:a<=xs.length) (h2:(xs.length:Int)<=b):Rw (some xs) a b=true:=by
 show (decide (a<=xs.length)&&decide ((xs.length:Int)<=b))=true
 rw[QbM h1,QbM h2]
 rfl
theorem R6 {n:Nat}:(List.replicate n true).all id=true:=by simp
structure GO (p:Place):Prop where
 ok:OkP p
 bd:∀x∈adP p,1<=x/\x<=99
def ZK:Sp:=λvs H Q _=>∃z:Str,vs=[.str z]/\1<=z.length/\z.length<=8/\okS z/\∀H',Same H H'->Q (.bl true) H'
def fB:Sp:=λvs H Q _=>∃(a:Addr) (ns:List Int),vs=[.ref a]/\H a=some (.tup (ns.map V.int))/\ns.Pairwise (· < ·)/\ns.length<=100/\∀H',Same H H'->Q (.bl true) H'
def fu:Sp:=λvs H Q _=>∃(a:Addr) (ns:List Int) (lo hi l h:Int),vs=[.ref a,.int lo,.int hi,.int l,.int h]/\H a=some (.tup (ns.map V.int))/\ns.Pairwise (· < ·)/\ns.length<=100/\lo<=ns.length/\(ns.length:Int)<=hi/\(∀x∈ns,l<=x/\x<=h)/\∀H',Same H H'->Q (.bl true) H'
def Wz:Sp:=λvs H Q _=>∃(k:Str) (x:Int),vs=[.str k,.int x]/\Cz k/\1<=x/\x<=99/\Q (.bl true) H
def Wu:Sp:=λvs H Q _=>∃v d,vs=[v]/\Jh H v d/\Cz d.kind/\1<=d.addr/\d.addr<=99/\Q (.bl true) H
def ZF:Sp:=λvs H Q _=>∃u ws ds,vs=[.ref u]/\H u=some (.tup ws)/\Paired (Jh H) ws ds/\ds.length<=3/\(∀d∈ds,Cz d.kind/\1<=d.addr/\d.addr<=99)/\∀H',Same H H'->Q (.bl true) H'
def Wv:Sp:=λvs H Q _=>∃v p,vs=[v]/\Dk H v p/\GO p/\∀H',Same H H'->Q (.bl true) H'
def ZL:Sp:=λvs H Q _=>∃v ps,vs=[v]/\LoopAt H v ps/\OkL ps/\(∀x∈adL ps,1<=x/\x<=99)/\∀H',Same H H'->Q (.bl true) H'
def Wy:Sp:=λvs H Q _=>∃Ls ws loops,vs=[.ref Ls]/\H Ls=some (.tup ws)/\Paired (LoopAt H) ws loops/\(∀ps∈loops,OkL ps)/\(∀x∈Cg loops,1<=x/\x<=99)/\1<=loops.length/\loops.length<=3/\∀H',Same H H'->Q (.bl true) H'
structure ZnB (z:Zone):Prop where
 nm:(1<=z.name.length/\z.name.length<=8)/\okS z.name
 up:z.adr.Pairwise (· < ·)/\1<=z.adr.length/\z.adr.length<=30
 bd:∀x∈z.adr,1<=x/\x<=99
def ZC:Sp:=λvs H Q _=>∃v z,vs=[v]/\Hv H v z/\ZnB z/\∀H',Same H H'->Q (.bl true) H'
def Wt:Sp:=λvs H Q _=>∃zs ws zones,vs=[.ref zs]/\H zs=some (.tup ws)/\Paired (Hv H) ws zones/\(∀z∈zones,ZnB z)/\zones.length<=8/\(zones.map (·.name)).Nodup/\∀H',Same H H'->Q (.bl true) H'
structure G6 (H:Hp) (pl:Addr) (most:Int) (loops:List (List Place)) (zones:List Zone):Prop where
 at_:∃Ls zs vs zvs,H pl=some (.tup [.int most,.ref Ls,.ref zs])/\H Ls=some (.tup vs)/\Paired (LoopAt H) vs loops/\H zs=some (.tup zvs)/\Paired (Hv H) zvs zones
 ok:Ep loops
 lo:1<=loops.length
 pok:YC most loops zones
theorem G6.tups {H H':Hp} {pl:Addr} {most:Int} {loops:List (List Place)} {zones:List Zone} (h:G6 H pl most loops zones) (s:Am H H'):G6 H' pl most loops zones:=by
 obtain⟨Ls,zs,vs,zvs,e1,e2,e3,e4,e5⟩:=h.at_
 exact⟨⟨Ls,zs,vs,zvs,s _ _ e1,s _ _ e2,Paired.Az e3 λ_ _ z=>z.tups s,s _ _ e4,Paired.Az e5 λ_ _ z=>z.tups s⟩,h.ok,h.lo,h.pok⟩
theorem G6.same {H H':Hp} {pl:Addr} {most:Int} {loops:List (List Place)} {zones:List Zone} (h:G6 H pl most loops zones) (s:Same H H'):G6 H' pl most loops zones:=h.tups (Am.of s)
theorem G6.plan {H:Hp} {pl:Addr} {most:Int} {loops:List (List Place)} {zones:List Zone} (h:G6 H pl most loops zones):TF H pl loops:=by
 obtain⟨Ls,zs,vs,zvs,e1,e2,e3,e4,e5⟩:=h.at_
 exact⟨_,_,Ls,vs,e1,e2,e3⟩
def Qw:Sp:=λvs H Q _=>∃pl most loops zones,vs=[.ref pl]/\G6 H pl most loops zones/\∀H',Same H H'->Q (.bl true) H'
theorem Wi {α β γ : Type} {h:α->List β} {φ : γ->β} {g:Nat->α->List γ} (l:List α) (hg:∀i x,l[i]?=some x->(g i x).map φ=h x):∀n,n<=l.length->(up (λi=>ifs l[i]? (g i)) n).map φ=(l.take n).flatMap h
 | 0,_=>by rw[Jl];simp
 | n+1,hn=>by
  have hi:l[n]?=some l[n]:=Qal (by omega)
  rw[CN,Qby,Wi l hg n (by omega),Qcq hi,QaI,Di hi,hg n _ hi]
  simp
theorem Ra (lp a:Int):∀(n:Nat) (ds:List Dev),(BX lp a n ds).map (·.addr)=ds.map (·.addr)
 | _,[]=>rfl
 | n,d::r=>by
  show d.addr::(BX lp a (n+1) r).map (·.addr)=d.addr::r.map (·.addr)
  rw[Ra]
theorem Xh (lp a:Int) (p:Place):(Br lp a p).map (·.addr)=adP p:=by
 unfold Br adP
 split
 ·rfl
 ·rw[QbT,Ra]
theorem Ir (loops:List (List Place)):(up (pdL loops) loops.length).map (·.addr)=Cg loops:=by
 have:=Wi (φ:=Sd.addr) (h:=adL) (g:=λk ps=>up (pd1 (k:Int) ps) ps.length) loops (λk ps _=>by
  have:=Wi (φ:=Sd.addr) (h:=adP) (g:=λi p=>Br (k:Int) ((1+i:Nat):Int) p) ps (λi p _=>Xh _ _ p) ps.length (Qci _)
  rw[Qbo] at this
  exact this) loops.length (Qci _)
 rw[Qbo] at this
 exact this
theorem j4 {loops:List (List Place)} (h:Ep loops) {x:Int} (hx:x∈DX loops):x∈Cg loops:=by
 obtain⟨ps,hps,hx⟩:=Qbw.mp hx
 obtain⟨p,hp,hx⟩:=Qbw.mp hx
 refine Qbw.mpr ⟨ps,hps,Qbw.mpr ⟨p,hp,?_⟩⟩
 obtain⟨d,hd,rfl⟩:=Qca.mp hx
 obtain⟨hd,hw⟩:=QbH.mp hd
 rcases ((h.ok ps hps).ok p hp).form with⟨e1,e2,e3⟩| hk
 ·have:d=⟨p.kind,p.addr⟩:=by
   unfold Eu at hd
   rw[e3] at hd
   simpa using hd
  rw[this] at hw
  have hw:DP p.kind=true:=hw
  rw[e1] at hw
  exact absurd hw (by trivial)
 ·unfold adP
  rw[if_neg (Im hk)]
  unfold Eu at hd
  rcases QbS.mp hd with rfl | hd
  ·exact QaN ..
  ·exact QaA _ (Qca.mpr ⟨d,hd,rfl⟩)
section
variable {P:Program} {w:World} {K:PySem.W.Frag} {mg:Str->Option Value} {base:Heap} {op oe kd wk:Addr}
theorem bW (C:Code K mg "is_name" Pr J3) (T:Ty K mg op oe kd wk):Good P w K mg base "is_name" 1 J3 ZK:=by
 refine C.good bH (λvs H Q E h=>?_) (λf cdv A outer s H vs Q E hr h=>?_)
 ·obtain⟨z,rfl,_⟩:=h
  rfl
 obtain⟨z,rfl,h1,h8,oz,q⟩:=h
 refine⟨_,(Ag (BP (Fe (Fd (Aw Ow rfl T.isinstance Bl (Aa (pv 0) (Aa (Np (v:=.ty "str") rfl T.str yx rfl) Ab))))) (Ai (Ba Et)) BR)
 (Ai (Ba (DW (Ob Ml Ml Ae (Aw Ys rfl T.len CW (Aa (pv 0) Ab)) Ae) (DR (Aw (GR rfl) rfl T.all Kh (Aa (Ck (N':=["sign"]) rfl (Bk.plain rfl (by trivial) (by trivial) (by trivial)) (f9 (pv 0)) (λ_ _ _ _=>(Ak (i:=0) (show List.Nodup (["sign"]:List Str) by trivial) rfl (Or.inl rfl))) (λ_ _ _ _=>CJ) (λ_ _ _ _=>(Js gD (pv 0) (PL rfl T.SMALL_LETTERS) (by with_unfolding_all rfl)))) Ab))))))),?_⟩
 refine⟨_,rfl,tY ⟨_,rfl,Cr ⟨_,rfl,z,rfl,Ar (by show z.length<=1000;omega),_,_,rfl,rfl,_,rfl,?_⟩⟩⟩
 have g1:decide ((1:Int)<=(z.length:Int))=true:=QbM (by omega)
 rw[g1]
 refine Ca ⟨_,_,rfl,rfl,_,rfl,?_⟩
 have g2:decide ((z.length:Int)<=8)=true:=QbM (by omega)
 rw[g2]
 refine Ca ⟨_,rfl,z,rfl,λl hl'=>?_⟩
 refine Ym (λi σ HH=>∃u,σ=[u]/\HH l=some (.lst ((List.replicate i true).map V.bl))/\Same H HH) ⟨_,rfl,Ac,Af hl' _⟩ (λi c σ HH hc h=>?_) (fun σ HH h=>?_)
 ·obtain⟨u,rfl,e1,e2⟩:=h
  have hi:i < z.cps.size:=(Qaf.mp hc).1
  have hz:z.cps.size<=8:=h8
  unfold G5
  dsimp only
  refine Ca ⟨_,rfl,_,_,rfl,rfl,_,e1,Ao (by simp;omega),_,rfl,?_,e2.Bt Ah.upd hl'⟩
  rw[Ac,uE c (oz c (Array.mem_toList_iff.mpr (Array.mem_of_getElem? hc))),QaD,Qby]
  rfl
 ·obtain⟨u,rfl,e1,e2⟩:=h
  refine⟨l,List.replicate z.cps.size true,rfl,SqL.of e1,?_⟩
  rw[R6]
  exact q _ e2
theorem Xq (C:Code K mg "is_rising" Mz Hl) (T:Ty K mg op oe kd wk):Good P w K mg base "is_rising" 1 Hl fB:=by
 refine C.good WQ (λvs H Q E h=>?_) (λf cdv A outer s H vs Q E hr h=>?_)
 ·obtain⟨a,ns,rfl,_⟩:=h
  rfl
 obtain⟨a,ns,rfl,ha,hp,h100,q⟩:=h
 refine⟨_,(Ai (Ba (Aw (GR rfl) rfl T.all Kh (Aa (Ck (N':=["one","other"]) rfl (Bk.plain rfl (by trivial) (by trivial) (by trivial)) (lF rfl T.zip (Aa (pv 0) (Aa (Jr T8 (pv 0) (KQ Ae) KR) Ab))) (λ_ _ _ _=>(Ik (K:=K) (n:=2) rfl rfl (Aq (Ak (i:=0) (show List.Nodup (["one","other"]:List Str) by trivial) rfl (Or.inl rfl)) (Aq (Ak (i:=1) (show List.Nodup (["one","other"]:List Str) by trivial) rfl (Or.inl rfl)) Bw)))) (λ_ _ _ _=>CJ) (λ_ _ _ _=>(Js V7 (pv 0) (pv 1) (BJ _)))) Ab)))),?_⟩
 refine⟨_,rfl,_,rfl,_,rfl,a,_,rfl,ha,λb H1 hb s1=>?_⟩
 have ha1:=s1 _ _ ha
 refine⟨a,b,rfl,⟨_,ha1⟩,⟨_,hb⟩,λl hl=>?_⟩
 have hlen:(ns.map V.int).length=ns.length:=Qbx ..
 have ec:Ig (ns.map V.int) (some (1:Int)) none=(ns.map V.int).drop 1:=by
  by_cases h0:1<=(ns.map V.int).length
  ·exact R3 (k:=1) h0
  ·have:ns.map V.int=[]:=List.length_eq_zero_iff.mp (by omega)
   rw[this]
   rfl
 rw[ec] at hb
 refine dB (xs:=ns.map V.int) (ys:=(ns.map V.int).drop 1) (ns.length - 1) (by omega) (by rw[Qbt];omega) (.inr (by rw[Qbt];omega)) (λi σ HH=>∃u1 u2,σ=[u1,u2]/\HH l=some (.lst ((List.replicate i true).map V.bl))/\Same H1 HH) ⟨_,_,rfl,Ac,Af hl _⟩ (λi σ HH _ h=>?_) (λi x y p σ HH hx hy h hpn=>?_) (fun σ HH h=>?_)
 ·obtain⟨u1,u2,rfl,e1,e2⟩:=h
  exact⟨e2 _ _ ha1,e2 _ _ hb⟩
 ·obtain⟨u1,u2,rfl,e1,e2⟩:=h
  rw[List.getElem?_drop] at hy
  rw[Qbc] at hx hy
  obtain⟨n1,hn1,rfl⟩:=Qau.mp hx
  obtain⟨n2,hn2,rfl⟩:=Qau.mp hy
  obtain⟨i1,g1⟩:=Qai.mp hn1
  obtain⟨i2,g2⟩:=Qai.mp hn2
  have lt:n1 < n2:=by
   rw[<-g1,<-g2]
   exact Qak.mp hp i (1+i) i1 i2 (by omega)
  have s2:=Af hpn (.tup [.int n1,.int n2])
  refine⟨p,_,rfl,SqT.of Ac,rfl,_,_,rfl,_,_,rfl,rfl,?_⟩
  refine Ca ⟨_,rfl,_,rfl,_,_,rfl,rfl,_,s2 _ _ e1,Ao (by simp;omega),_,_,rfl,?_,(e2.trans s2).Bt Ah.upd hl⟩
  rw[Ac]
  show some (HO.lst (_++[V.bl (decide (n1 < n2))]))=_
  rw[QbM lt,QaD,Qby]
  rfl
 ·obtain⟨u1,u2,rfl,e1,e2⟩:=h
  refine⟨l,List.replicate (ns.length - 1) true,rfl,SqL.of e1,?_⟩
  rw[R6]
  exact q _ (s1.trans e2)
theorem VG (C:Code K mg "are_rising_within" Es Dn) (T:Ty K mg op oe kd wk) (Ce:Good P w K mg base "is_row" 1 Dh GD) (Fw:Good P w K mg base "is_within" 2 Ef K5) (Y5:Good P w K mg base "is_rising" 1 Hl fB):Good P w K mg base "are_rising_within" 3 Dn fu:=by
 refine C.good N5 (λvs H Q E h=>?_) (λf cdv A outer s H vs Q E hr h=>?_)
 ·obtain⟨a,ns,lo,hi,l,h,rfl,_⟩:=h
  rfl
 obtain⟨a,ns,lo,hi,l,h,rfl,ha,hp,h100,h1,h2,h3,q⟩:=h
 refine⟨_,(Ag (BP (Fe (Fd (Ax Ce hr (Aa (pv 0) (Aa (pv 1) (Aa (pv 2) Ab)))))) (Ai (Ba Et)) BR)
 (Ai (Ba (DW (Aw (GR rfl) rfl T.all Kh (Aa (Ck (N':=["part","low","high"]) rfl (Bk.of (src:=[none,some 3,some 4]) (Aj Es) ["thing","least","most","low","high"] rfl rfl rfl (by trivial) (by trivial) (by trivial) rfl (by trivial)) (Fg (pv 0)) (λ_ _ _ _=>(Ak (i:=0) (show List.Nodup (["part","low","high"]:List Str) by trivial) rfl (Or.inl rfl))) (λ_ _ _ _=>CJ) (λ_ _ _ _=>(Ax Fw hr (Aa (pv 0) (Aa (pv 1) (Aa (pv 2) Ab)))))) Ab)) (DR (Ax Y5 hr (Aa (pv 0) Ab))))))),?_⟩
 have hlen:(ns.map V.int).length=ns.length:=Qbx ..
 refine⟨_,rfl,_,rfl,_,rfl,.ref a,lo,hi,rfl,Hu ha,_,rfl,?_⟩
 rw[Dg ha,Ec (by rw[hlen];exact h1) (by rw[hlen];exact h2)]
 refine Cr ⟨_,rfl,a,rfl,⟨_,SqT.of ha⟩,λl2 hl2=>?_⟩
 refine Kg (r:=[some (.int l),some (.int h)]) hl2 ha (by omega) (λi x HH hx s1 R hR=>?_) (λH' e s1=>?_)
 ·rw[Qbc] at hx
  obtain⟨n1,hn1,rfl⟩:=Qau.mp hx
  refine⟨_,rfl,_,rfl,_,rfl,n1,l,h,rfl,?_⟩
  rw[QbM (h3 n1 (Qaz hn1))]
  exact hR _ (Same.refl _)
 ·refine⟨l2,List.replicate (ns.map V.int).length true,rfl,SqL.of e,_,rfl,?_⟩
  rw[R6]
  exact Ca ⟨_,rfl,a,ns,rfl,s1 _ _ ha,hp,h100,λH2 s2=>q _ (s1.trans s2)⟩
theorem Xu (C:Code K mg "is_device" MJ Gj) (T:Ty K mg op oe kd wk) (Fw:Good P w K mg base "is_within" 2 Ef K5):Good P w K mg base "is_device" 3 Gj Wz:=by
 refine C.good WT (λvs H Q E h=>?_) (λf cdv A outer s H vs Q E hr h=>?_)
 ·obtain⟨k,x,rfl,_⟩:=h
  rfl
 obtain⟨k,x,rfl,hk,h1,h2,q⟩:=h
 refine⟨_,(Ai (Ba (DW (Js PX (pv 0) (PL rfl T.KINDS) (by with_unfolding_all rfl)) (DR (Ax Fw hr (Aa (pv 1) (Aa Ae (Aa Ae Ab)))))))),?_⟩
 refine⟨_,rfl,kd,_,rfl,.inr (T.kdT H),rfl,rfl,_,rfl,?_⟩
 rw[if_neg QaP,tW hk]
 refine Ca ⟨_,rfl,x,1,99,rfl,?_⟩
 rw[QbM ⟨h1,h2⟩]
 exact q
theorem Q0 (C:Code K mg "is_spur_device" HF Ek) (T:Ty K mg op oe kd wk) (Ce:Good P w K mg base "is_row" 1 Dh GD) (Nb:Good P w K mg base "is_device" 3 Gj Wz):Good P w K mg base "is_spur_device" 4 Ek Wu:=by
 refine C.good QW (λvs H Q E h=>?_) (λf cdv A outer s H vs Q E hr h=>?_)
 ·obtain⟨v,d,rfl,_⟩:=h
  rfl
 obtain⟨v,d,rfl,⟨t,rfl,ht⟩,hk,h1,h2,q⟩:=h
 refine⟨_,(Ai (Ba (DW (Ax Ce hr (Aa (pv 0) (Aa Ae (Aa Ae Ab)))) (DR (Ax Nb hr (Aa (Bo Cm (pv 0) Ae (λ_ _=>rfl)) (Aa (Bo Cm (pv 0) Ae (λ_ _=>rfl)) Ab))))))),?_⟩
 refine⟨_,rfl,.ref t,2,2,rfl,Hu ht,_,rfl,?_⟩
 rw[Dg ht,Ec (by show (2:Int)<=2;decide) (by show (2:Int)<=2;decide)]
 exact Ca ⟨_,rfl,t,_,_,_,rfl,rfl,SqT.of ht,rfl,_,rfl,t,_,_,_,rfl,rfl,SqT.of ht,rfl,d.kind,d.addr,rfl,hk,h1,h2,q⟩
theorem bU (C:Code K mg "is_spur" Pk J0) (T:Ty K mg op oe kd wk) (Ce:Good P w K mg base "is_row" 1 Dh GD) (RP:Good P w K mg base "is_spur_device" 4 Ek Wu):Good P w K mg base "is_spur" 5 J0 ZF:=by
 refine C.good bG (λvs H Q E h=>?_) (λf cdv A outer s H vs Q E hr h=>?_)
 ·obtain⟨u,ws,ds,rfl,_⟩:=h
  rfl
 obtain⟨u,ws,ds,rfl,hu,hd,h3,hk,q⟩:=h
 have lw:=QbR hd
 refine⟨_,(Ai (Ba (DW (Ax Ce hr (Aa (pv 0) (Aa Ae (Aa Ae Ab)))) (DR (Aw (GR rfl) rfl T.all Kh (Aa (Ck (N':=["part"]) rfl (Bk.plain rfl (by trivial) (by trivial) (by trivial)) (Fg (pv 0)) (λ_ _ _ _=>(Ak (i:=0) (show List.Nodup (["part"]:List Str) by trivial) rfl (Or.inl rfl))) (λ_ _ _ _=>CJ) (λ_ _ _ _=>(Ax RP hr (Aa (pv 0) Ab)))) Ab)))))),?_⟩
 refine⟨_,rfl,.ref u,0,3,rfl,Hu hu,_,rfl,?_⟩
 rw[Dg hu,Ec (by omega) (by omega)]
 refine Ca ⟨_,rfl,u,rfl,⟨_,SqT.of hu⟩,λl2 hl2=>?_⟩
 refine Kg (r:=[]) hl2 hu (by omega) (λi x HH hx s1 R hR=>?_) (λH' e s1=>?_)
 ·obtain⟨d,hdi,had⟩:=Paired.Ci hd hx
  have:=hk d (Qaz hdi)
  exact⟨_,rfl,x,d,rfl,had.tups (Am.of s1),this.1,this.2.1,this.2.2,hR _ (Same.refl _)⟩
 ·refine⟨l2,List.replicate ws.length true,rfl,SqL.of e,?_⟩
  rw[R6]
  exact q _ s1
theorem YS (C:Code K mg "is_place" N7 Jc) (T:Ty K mg op oe kd wk) (Ce:Good P w K mg base "is_row" 1 Dh GD) (Fw:Good P w K mg base "is_within" 2 Ef K5) (Nb:Good P w K mg base "is_device" 3 Gj Wz) (iZ:Good P w K mg base "is_spur" 5 J0 ZF):Good P w K mg base "is_place" 6 Jc Wv:=by
 have sc:=Hh
 refine C.good Hh (λvs H Q E h=>?_) (λf cdv A outer s H vs Q E hr h=>?_)
 ·obtain⟨v,p,rfl,_⟩:=h
  rfl
 obtain⟨v,p,rfl,⟨t,u,ws,rfl,ht,hu,hd⟩,⟨ok,bd⟩,q⟩:=h
 have lw:=QbR hd
 have h3:=ok.spur
 refine⟨_,(Ag (BP (Fe (Fd (Ax Ce hr (Aa (pv 0) (Aa Ae (Aa Ae Ab)))))) (Ai (Ba Et)) BR)
 (Ag (JR (pv 0) (CV rfl (Aq (Ak (i:=1) Hh.nd rfl (Or.inl rfl)) (Aq (Ak (i:=2) Hh.nd rfl (Or.inl rfl)) (Aq (Ak (i:=3) Hh.nd rfl (Or.inl rfl)) Bw)))))
 (Ag (BP (Bq Gy (pv 1) Bf (BJ _)) (Ai (Ba (DW (Ax Fw hr (Aa (pv 2) (Aa Ae (Aa Ae Ab)))) (DR (Ax Ce hr (Aa (pv 3) (Aa Ae (Aa Ae Ab)))))))) BR)
 (Ai (Ba (DW (Ax Nb hr (Aa (pv 1) (Aa (pv 2) Ab))) (DR (Ax iZ hr (Aa (pv 3) Ab))))))))),?_⟩
 refine⟨_,rfl,.ref t,3,3,rfl,Hu ht,_,rfl,?_⟩
 rw[Dg ht,Ec (by show (3:Int)<=3;decide) (by show (3:Int)<=3;decide)]
 refine Cr ⟨_,rfl,t,_,rfl,SqT.of ht,rfl,_,_,rfl,_,_,rfl,_,_,rfl,rfl,?_⟩
 refine⟨_,rfl,rfl,_,rfl,?_⟩
 rcases ok.form with⟨e1,e2,e3⟩| hk
 ·rw[show decide (V.str p.kind=V.str "opener")=true by rw[e1];rfl]
  have lw0:ws.length=0:=by rw[lw,e3];rfl
  refine Ca ⟨_,rfl,p.addr,0,0,rfl,_,rfl,?_⟩
  rw[show decide ((0:Int)<=p.addr/\p.addr<=0)=true by rw[e2];rfl]
  refine Ca ⟨_,rfl,.ref u,0,0,rfl,Hu hu,?_⟩
  rw[Dg hu,Ec (by omega) (by omega)]
  exact q _ (Same.refl _)
 ·have ea:adP p=p.addr::p.spur.map (·.addr):=if_neg (Im hk)
  rw[ea] at bd
  rw[QbC (Im hk)]
  have b0:=bd p.addr (QaN ..)
  refine Cr ⟨_,rfl,_,rfl,p.kind,p.addr,rfl,hk,b0.1,b0.2,_,rfl,?_⟩
  exact Ca ⟨_,rfl,u,ws,p.spur,rfl,hu,hd,h3,λd hdm=>⟨ok.kinds d hdm,bd d.addr (QaA _ (Qca.mpr ⟨d,hdm,rfl⟩))⟩,q⟩
theorem bY (C:Code K mg "is_loop" Pu Ka) (T:Ty K mg op oe kd wk) (Ce:Good P w K mg base "is_row" 1 Dh GD) (cW:Good P w K mg base "is_place" 6 Jc Wv):Good P w K mg base "is_loop" 7 Ka ZL:=by
 refine C.good bI (λvs H Q E h=>?_) (λf cdv A outer s H vs Q E hr h=>?_)
 ·obtain⟨v,ps,rfl,_⟩:=h
  rfl
 obtain⟨v,ps,rfl,⟨t,ws,rfl,ht,hd⟩,ok,bd,q⟩:=h
 have lw:=QbR hd
 have l1:=ok.lo
 have l2:=ok.hi
 refine⟨_,(Ai (Ba (DW (Ax Ce hr (Aa (pv 0) (Aa Ae (Aa Ae Ab)))) (DR (Aw (GR rfl) rfl T.all Kh (Aa (Ck (N':=["part"]) rfl (Bk.plain rfl (by trivial) (by trivial) (by trivial)) (Fg (pv 0)) (λ_ _ _ _=>(Ak (i:=0) (show List.Nodup (["part"]:List Str) by trivial) rfl (Or.inl rfl))) (λ_ _ _ _=>CJ) (λ_ _ _ _=>(Ax cW hr (Aa (pv 0) Ab)))) Ab)))))),?_⟩
 refine⟨_,rfl,.ref t,1,12,rfl,Hu ht,_,rfl,?_⟩
 rw[Dg ht,Ec (by omega) (by omega)]
 refine Ca ⟨_,rfl,t,rfl,⟨_,SqT.of ht⟩,λl2 hl2=>?_⟩
 refine Kg (r:=[]) hl2 ht (by omega) (λi x HH hx s1 R hR=>?_) (λH' e s1=>?_)
 ·obtain⟨p,hpi,hap⟩:=Paired.Ci hd hx
  have hm:=Qaz hpi
  exact⟨_,rfl,x,p,rfl,hap.tups (Am.of s1),⟨ok.ok p hm,λy hy=>bd y (Qbw.mpr ⟨p,hm,hy⟩)⟩,λH2 s2=>hR _ s2⟩
 ·refine⟨l2,List.replicate ws.length true,rfl,SqL.of e,?_⟩
  rw[R6]
  exact q _ s1
theorem Xw (C:Code K mg "are_loops" MN Hr) (T:Ty K mg op oe kd wk) (Ce:Good P w K mg base "is_row" 1 Dh GD) (je:Good P w K mg base "is_loop" 7 Ka ZL):Good P w K mg base "are_loops" 8 Hr Wy:=by
 refine C.good WX (λvs H Q E h=>?_) (λf cdv A outer s H vs Q E hr h=>?_)
 ·obtain⟨Ls,ws,loops,rfl,_⟩:=h
  rfl
 obtain⟨t,ws,loops,rfl,ht,hd,ok,bd,l1,l2,q⟩:=h
 have lw:=QbR hd
 refine⟨_,(Ai (Ba (DW (Ax Ce hr (Aa (pv 0) (Aa Ae (Aa Ae Ab)))) (DR (Aw (GR rfl) rfl T.all Kh (Aa (Ck (N':=["part"]) rfl (Bk.plain rfl (by trivial) (by trivial) (by trivial)) (Fg (pv 0)) (λ_ _ _ _=>(Ak (i:=0) (show List.Nodup (["part"]:List Str) by trivial) rfl (Or.inl rfl))) (λ_ _ _ _=>CJ) (λ_ _ _ _=>(Ax je hr (Aa (pv 0) Ab)))) Ab)))))),?_⟩
 refine⟨_,rfl,.ref t,1,3,rfl,Hu ht,_,rfl,?_⟩
 rw[Dg ht,Ec (by omega) (by omega)]
 refine Ca ⟨_,rfl,t,rfl,⟨_,SqT.of ht⟩,λl2 hl2=>?_⟩
 refine Kg (r:=[]) hl2 ht (by omega) (λi x HH hx s1 R hR=>?_) (λH' e s1=>?_)
 ·obtain⟨p,hpi,hap⟩:=Paired.Ci hd hx
  have hm:=Qaz hpi
  exact⟨_,rfl,x,p,rfl,hap.tups (Am.of s1),ok p hm,λy hy=>bd y (Qbw.mpr ⟨p,hm,hy⟩),λH2 s2=>hR _ s2⟩
 ·refine⟨l2,List.replicate ws.length true,rfl,SqL.of e,?_⟩
  rw[R6]
  exact q _ s1
theorem bT (C:Code K mg "is_zone" Pj JZ) (T:Ty K mg op oe kd wk) (Ce:Good P w K mg base "is_row" 1 Dh GD) (jd:Good P w K mg base "is_name" 1 J3 ZK) (O6:Good P w K mg base "are_rising_within" 3 Dn fu):Good P w K mg base "is_zone" 4 JZ ZC:=by
 refine C.good bF (λvs H Q E h=>?_) (λf cdv A outer s H vs Q E hr h=>?_)
 ·obtain⟨v,z,rfl,_⟩:=h
  rfl
 obtain⟨v,z,rfl,⟨t,u,rfl,ht,hu⟩,ok,q⟩:=h
 refine⟨_,(Ai (Ba (DW (Ax Ce hr (Aa (pv 0) (Aa Ae (Aa Ae Ab)))) (DW (Ax jd hr (Aa (Bo Cm (pv 0) Ae (λ_ _=>rfl)) Ab)) (DR (Ax O6 hr (@Aa _ _ _ _ _ (Bo Cm (pv 0) Ae (λ_ _=>rfl)) (@Aa _ _ _ _ _ (@Ae _ _ _ _) (@Aa _ _ _ _ _ (@Ae _ _ _ _) (@Aa _ _ _ _ _ (@Ae _ _ _ _) (@Aa _ _ _ _ _ (@Ae _ _ _ _) (@Ab _) Bc) Bc) Bc) Bc) vh))))))),?_⟩
 refine⟨_,rfl,.ref t,2,2,rfl,Hu ht,_,rfl,?_⟩
 rw[Dg ht,Ec (by show (2:Int)<=2;decide) (by show (2:Int)<=2;decide)]
 refine Ca ⟨_,rfl,t,_,_,_,rfl,rfl,SqT.of ht,rfl,z.name,rfl,ok.nm.1.1,ok.nm.1.2,ok.nm.2,λH1 s1=>⟨_,rfl,Ca ?_⟩⟩
 have u1:=ok.up.2.1
 have u2:=ok.up.2.2
 exact⟨_,rfl,t,_,_,_,rfl,rfl,SqT.of (s1 _ _ ht),rfl,u,z.adr,1,30,1,99,rfl,s1 _ _ hu,ok.up.1,by omega,by omega,by omega,ok.bd,λH2 s2=>q _ (s1.trans s2)⟩
end
abbrev IW:Stmt:=top 43
abbrev Fj:List Str:=["plan"]
theorem Dq:Ay ["plan","seen","spot","kind","address"] Fj (Aj IW):=⟨rfl,rfl,rfl,by trivial,rfl,by trivial,by trivial⟩
abbrev Jo:Stmt:=top 44
abbrev FJ:List Str:=["plan"]
theorem Fb:Ay ["plan","loop","number","spots"] FJ (Aj Jo):=⟨rfl,rfl,rfl,by trivial,rfl,by trivial,by trivial⟩
abbrev GF:Stmt:=top 45
abbrev DG:List Str:=["plan"]
theorem CP:Ay ["plan","warners","name","addresses","address"] DG (Aj GF):=⟨rfl,rfl,rfl,by trivial,rfl,by trivial,by trivial⟩
abbrev HN:Stmt:=top 46
abbrev El:List Str:=["plan"]
theorem Dj:Ay ["plan","seen","name","addresses","address"] El (Aj HN):=⟨rfl,rfl,rfl,by trivial,rfl,by trivial,by trivial⟩
abbrev Uc:Stmt:=top 47
abbrev Nr:List Str:=["plan"]
theorem kj:Ay ["plan"] Nr (Aj Uc):=⟨rfl,rfl,rfl,by trivial,rfl,by trivial,by trivial⟩
abbrev MF:Stmt:=top 48
abbrev Ho:List Str:=["thing"]
theorem WR:Ay ["thing"] Ho (Aj MF):=⟨rfl,rfl,rfl,by trivial,rfl,by trivial,by trivial⟩
def Hg:Sp:=λvs H Q _=>∃pl most loops zones,vs=[.ref pl]/\G6 H pl most loops zones/\∀H',Same H H'->Q .non H'
def G4 {α : Type} (f:α->Key) (xs:List α):List (Key×V):=xs.map λx=>(f x,V.bl true)
theorem Mq {α : Type} {f:α->Key} {k:Key}:∀{xs:List α},(∀x∈xs,f x≠k)->DY (G4 f xs) k=none
 | [],_=>rfl
 | x::r,h=>by
  have:G4 f (x::r)=(f x,V.bl true)::G4 f r:=rfl
  rw[this,Jj (p:=(f x,V.bl true)) (h x (QaN ..))]
  exact Mq λy hy=>h y (QaA _ hy)
theorem Ke {α : Type} (f:α->Key) (xs:List α):(G4 f xs).length=xs.length:=Qbx ..
theorem Mr {α : Type} {f:α->Key} {xs:List α} {x:α} (h:∀y∈xs,f y≠f x):putK (G4 f xs) (f x) (.bl true)=G4 f (xs++[x]):=by
 rw[Ld _ (Mq h)]
 unfold G4
 rw[Qby]
 rfl
theorem Ur {α : Type} {l:List α} (h:l.Nodup) {i:Nat} {x:α} (hx:l[i]?=some x):∀y∈l.take i,y≠x:=λy hy e=>by
 subst e
 obtain⟨j,hj⟩:=QaC hy
 rw[List.getElem?_take] at hj
 split at hj
 ·rename_i hji
  obtain⟨h1,e1⟩:=Qai.mp hj
  obtain⟨h2,e2⟩:=Qai.mp hx
  have:=Qak.mp h j i h1 h2 hji
  exact this (by rw[e1,e2])
 ·cases hj
theorem JG {α β : Type} {f:α->β} {l:List α} (h:(l.map f).Nodup) {i:Nat} {x:α} (hx:l[i]?=some x):∀y∈l.take i,f y≠f x:=λy hy e=>by
 have:=Ur h (i:=i) (x:=f x) (by rw[Qbc,hx];rfl) (f y) (by rw[<-List.map_take];exact Qca.mpr ⟨y,hy,rfl⟩)
 exact this e
theorem Zw {lp:Int} {ps:List Place}:∀i,i<=ps.length->(stP lp ps i).1.map (λz=>(z.length:Int))=(pst (ps.take i)).1/\((stP lp ps i).2.length:Int)=(pst (ps.take i)).2
 | 0,_=>⟨rfl,rfl⟩
 | i+1,h=>by
  have hi:ps[i]?=some ps[i]:=Qal (by omega)
  obtain⟨h1,h2⟩:=Zw (lp:=lp) (ps:=ps) i (by omega)
  rw[Qcq hi,Xe]
  unfold ptS
  by_cases k:V.str ps[i].kind=V.str "opener"
  ·rw[Sv hi k,if_pos k]
   refine⟨?_,rfl⟩
   rw[Qby,h1,<-h2]
   rfl
  ·rw[Qv hi k,if_neg k]
   refine⟨h1,?_⟩
   show (((stP lp ps i).2++(Br lp ((1+i:Nat):Int) ps[i]).map Sd.spot).length:Int)=_
   rw[QaM,Qbx,<-h2]
   have:(Br lp ((1+i:Nat):Int) ps[i]).length=1+ps[i].spur.length:=by
    unfold Br
    rw[if_neg k,Qbq,Kv]
    omega
   rw[this]
   push_cast
   omega
theorem lO {lp:Int} {ps:List Place}:∀z∈(stP lp ps ps.length).1++[(stP lp ps ps.length).2],(z.length:Int)∈Gx ps:=λz hz=>by
 obtain⟨h1,h2⟩:=Zw (lp:=lp) (ps:=ps) ps.length (Qci _)
 rw[Qbo] at h1 h2
 unfold Gx
 rw[<-h1,<-h2]
 rcases Qbz.mp hz with h | h
 ·exact QaB _ (Qca.mpr ⟨z,h,rfl⟩)
 ·have:z=(stP lp ps ps.length).2:=by simpa using h
  rw[this]
  exact Qaw _ (QaT.mpr rfl)
theorem pK {zones:List Zone} (h:∀z∈zones,z.adr.length<=30):(zones.flatMap (·.adr)).length<=30*zones.length:=by
 induction zones with
 | nil=>exact Qci _
 | cons a r ih=>
  have h1:=ih λz hz=>h z (QaA _ hz)
  have h2:=h a (QaN ..)
  rw[Qbg,QaM,Qbq]
  omega
theorem pJ {a b:List Zone} (h:a.Sublist b):(a.flatMap (·.adr)).Sublist (b.flatMap (·.adr)):=by
 induction h with
 | slnil=>exact .slnil
 | cons x _ ih=>rw[Qbg];exact List.Sublist.trans ih (List.sublist_append_right _ _)
 | cons_cons x _ ih=>rw[Qbg,Qbg];exact List.Sublist.append_left ih _
theorem U9 (lp a:Int):∀(n:Nat) (ds:List Dev) (d:Dev),d∈ds->∃z∈BX lp a n ds,z.kind=d.kind/\z.addr=d.addr
 | _,[],d,h=>by cases h
 | n,x::r,d,h=>by
  rcases QbS.mp h with rfl | h
  ·exact⟨_,QaN ..,rfl,rfl⟩
  ·obtain⟨z,h1,h2⟩:=U9 lp a (n+1) r d h
   exact⟨z,QaA _ h1,h2⟩
theorem V0 {α : Type} {f:Nat->List α} {x:α} {i:Nat} (h:x∈f i):∀{n:Nat},i < n->x∈up f n
 | 0,hn=>by omega
 | n+1,hn=>by
  rw[CN]
  by_cases e:i=n
  ·subst e;exact Qaw _ h
  ·exact QaB _ (V0 h (by omega))
theorem qX {loops:List (List Place)} (h:Ep loops) {x:Int} (hx:x∈DX loops):∃z∈(up (pdL loops) loops.length).filter (λz=>DP z.kind),z.addr=x:=by
 obtain⟨ps,hps,hx⟩:=Qbw.mp hx
 obtain⟨p,hp,hx⟩:=Qbw.mp hx
 obtain⟨d,hd,rfl⟩:=Qca.mp hx
 obtain⟨hd,hw⟩:=QbH.mp hd
 obtain⟨k,hk⟩:=QaC hps
 obtain⟨i,hi⟩:=QaC hp
 have hkl:=(Qai.mp hk).1
 have hil:=(Qai.mp hi).1
 have hop:¬V.str p.kind=V.str "opener":=by
  rcases ((h.ok ps hps).ok p hp).form with⟨e1,e2,e3⟩| hk
  ·have:d=⟨p.kind,p.addr⟩:=by
    unfold Eu at hd
    rw[e3] at hd
    simpa using hd
   rw[this] at hw
   have hw:DP p.kind=true:=hw
   rw[e1] at hw
   exact absurd hw (by trivial)
  ·exact Im hk
 have key:∃z∈Br (k:Int) ((1+i:Nat):Int) p,z.kind=d.kind/\z.addr=d.addr:=by
  unfold Br
  rw[if_neg hop]
  unfold Eu at hd
  rcases QbS.mp hd with rfl | hd
  ·exact⟨_,QaN ..,rfl,rfl⟩
  ·obtain⟨z,h1,h2⟩:=U9 (k:Int) ((1+i:Nat):Int) 1 p.spur d hd
   exact⟨z,QaA _ h1,h2⟩
 obtain⟨z,hz,e1,e2⟩:=key
 refine⟨z,QbH.mpr ⟨V0 (i:=k) ?_ hkl,by show DP z.kind=true;rw[e1];exact hw⟩,e2⟩
 unfold pdL
 rw[Di hk]
 refine V0 (i:=i) ?_ hil
 unfold pd1
 rw[Di hi]
 exact hz
section
variable {P:Program} {w:World} {K:PySem.W.Frag} {mg:Str->Option Value} {base:Heap} {op oe kd wk:Addr}
theorem Xv (C:Code K mg "are_zones" MK Hq) (T:Ty K mg op oe kd wk) (Ce:Good P w K mg base "is_row" 1 Dh GD) (iY:Good P w K mg base "is_zone" 4 JZ ZC):Good P w K mg base "are_zones" 5 Hq Wt:=by
 refine C.good WW (λvs H Q E h=>?_) (λf cdv A outer s H vs Q E hr h=>?_)
 ·obtain⟨zs,ws,zones,rfl,_⟩:=h
  rfl
 obtain⟨t,ws,zones,rfl,ht,hd,ok,l8,nd,q⟩:=h
 have lw:=QbR hd
 refine⟨_,(Ag (BP (PW.pt (N8 (Fe (Fd (Ax Ce hr (Aa (pv 0) (Aa Ae (Aa Ae Ab)))))) (Nk (Fe (Fd (Aw (GR rfl) rfl T.all Kh (Aa (Ck (N':=["part"]) rfl (Bk.plain rfl (by trivial) (by trivial) (by trivial)) (Fg (pv 0)) (λ_ _ _ _=>(Ak (i:=0) (show List.Nodup (["part"]:List Str) by trivial) rfl (Or.inl rfl))) (λ_ _ _ _=>CJ) (λ_ _ _ _=>(Ax iY hr (Aa (pv 0) Ab)))) Ab))))))) (Ai (Ba Et)) BR)
 (Ai (Ba (Js Gy (Aw jA rfl T.len CW (Aa (lM (N':=["name","addresses"]) rfl (Bk.plain rfl (by trivial) (by trivial) (by trivial)) (Fg (pv 0)) (λ_ _ _ _=>(Ik (K:=K) (n:=2) rfl rfl (Aq (Ak (i:=0) (show List.Nodup (["name","addresses"]:List Str) by trivial) rfl (Or.inl rfl)) (Aq (Ak (i:=1) (show List.Nodup (["name","addresses"]:List Str) by trivial) rfl (Or.inl rfl)) Bw)))) (λ_ _ _ _=>CJ) (λ_ _ _ _=>(pv 0)) (λ_ _ _ _=>Et)) Ab)) (Aw Bs rfl T.len CW (Aa (pv 0) Ab)) (BJ _))))),?_⟩
 refine⟨_,rfl,.ref t,0,8,rfl,Hu ht,_,rfl,?_⟩
 rw[Dg ht,Ec (by omega) (by omega)]
 refine Cr ⟨_,rfl,t,rfl,⟨_,SqT.of ht⟩,λl2 hl2=>?_⟩
 refine Kg (r:=[]) hl2 ht (by omega) (λi x HH hx s1 R hR=>?_) (λH' e s1=>?_)
 ·obtain⟨z,hzi,haz⟩:=Paired.Ci hd hx
  exact⟨_,rfl,x,z,rfl,haz.tups (Am.of s1),ok z (Qaz hzi),λH2 s2=>hR _ s2⟩
 refine⟨l2,List.replicate ws.length true,rfl,SqL.of e,_,rfl,?_⟩
 rw[R6]
 have ht1:=s1 _ _ ht
 refine Cr ⟨_,rfl,t,rfl,⟨_,SqT.of ht1⟩,λl hl=>?_⟩
 refine jo (xs:=ws) (λi σ HH=>∃u1 u2,σ=[u1,u2]/\HH l=some (.dK (G4 (λz:Zone=>Sum.inr z.name) (zones.take i)))/\Same H' HH) ⟨_,_,rfl,Ac,Af hl _⟩ (λi σ HH _ h=>?_) (λi x σ HH hx h=>?_) (fun σ HH h=>?_)
 ·obtain⟨u1,u2,rfl,e1,e2⟩:=h
  exact SqT.of (e2 _ _ ht1)
 ·obtain⟨u1,u2,rfl,e1,e2⟩:=h
  obtain⟨z,hzi,tz,uz,rfl,h1,h2⟩:=Paired.Ci hd hx
  refine⟨tz,_,rfl,SqT.of (e2 _ _ (s1 _ _ h1)),rfl,_,_,rfl,_,_,rfl,rfl,?_⟩
  refine Ca ⟨_,rfl,_,Sum.inr z.name,e1,rfl,Ao (by rw[Ke,Qbp];omega),_,_,rfl,?_,e2.Bt Ah.upd hl⟩
  rw[Ac,Mr (f:=λz:Zone=>Sum.inr z.name) (x:=z),Qcq hzi]
  exact λy hy e=>JG nd hzi y hy (Sum.inr.inj e)
 ·obtain⟨u1,u2,rfl,e1,e2⟩:=h
  rw[lw,Qbo] at e1
  refine⟨l,_,rfl,e1,_,rfl,t,_,rfl,.inr (SqT.of (e2 _ _ ht1)),rfl,?_⟩
  rw[Ke,lw]
  have:decide (V.int (zones.length:Int)=V.int (zones.length:Int))=true:=QbM rfl
  rw[this]
  exact q _ (s1.trans e2)
theorem bV (C:Code K mg "is_plan" Pq J1) (T:Ty K mg op oe kd wk) (Ce:Good P w K mg base "is_row" 1 Dh GD) (Fw:Good P w K mg base "is_within" 2 Ef K5) (Y8:Good P w K mg base "are_loops" 8 Hr Wy) (Y7:Good P w K mg base "are_zones" 5 Hq Wt) (GQ:Good P w K mg base "devices" 2 Gb Sy):Good P w K mg base "is_plan" 9 J1 Qw:=by
 have sc:=IK
 refine C.good IK (λvs H Q E h=>?_) (λf cdv A outer s H vs Q E hr h=>?_)
 ·obtain⟨pl,most,loops,zones,rfl,_⟩:=h
  rfl
 obtain⟨pl,most,loops,zones,rfl,pa,q⟩:=h
 obtain⟨Ls,zs,ws,zvs,e1,e2,e3,e4,e5⟩:=pa.at_
 refine⟨_,(Ag (BP (Fe (Fd (Ax Ce hr (Aa (pv 0) (Aa Ae (Aa Ae Ab)))))) (Ai (Ba Et)) BR)
 (Ag (JR (pv 0) (CV rfl (Aq (Ak (i:=1) IK.nd rfl (Or.inl rfl)) (Aq (Ak (i:=2) IK.nd rfl (Or.inl rfl)) (Aq (Ak (i:=3) IK.nd rfl (Or.inl rfl)) Bw)))))
 (Ag (BP (PW.pt (N8 (Fe (Fd (Ax Fw hr (Aa (pv 1) (Aa Ae (Aa Ae Ab)))))) (N8 (Fe (Fd (Ax Y8 hr (Aa (pv 2) Ab)))) (Nk (Fe (Fd (Ax Y7 hr (Aa (pv 3) Ab)))))))) (Ai (Ba Et)) BR)
 (Ai (Ba (Ob Ml Ml Ae (Aw Bs rfl T.len CW (Aa (Ax GQ hr (Aa (pv 0) Ab)) Ab)) Ae)))))),?_⟩
 refine⟨_,rfl,.ref pl,3,3,rfl,Hu e1,_,rfl,?_⟩
 rw[Dg e1,Ec (by show (3:Int)<=3;decide) (by show (3:Int)<=3;decide)]
 refine Cr ⟨_,rfl,pl,_,rfl,SqT.of e1,rfl,_,_,rfl,_,_,rfl,_,_,rfl,rfl,?_⟩
 refine⟨_,rfl,most,1,30,rfl,_,rfl,?_⟩
 rw[QbM pa.pok.mo]
 refine Cr ⟨_,rfl,Ls,ws,loops,rfl,e2,e3,pa.ok.ok,pa.pok.bd,pa.lo,pa.ok.hi,λH1 s1=>⟨_,rfl,Cr ?_⟩⟩
 refine⟨_,rfl,zs,zvs,zones,rfl,s1 _ _ e4,Paired.Az e5 λ_ _ z=>z.tups (Am.of s1),λz hz=>⟨pa.pok.znm z hz,pa.pok.zup z hz,λx hx=>pa.pok.bd x (j4 pa.ok (pa.pok.zin z hz x hx))⟩,pa.pok.uL,pa.pok.zdi,λH2 s2=>⟨_,rfl,Cr ?_⟩⟩
 have s12:=s1.trans s2
 refine⟨_,rfl,pl,loops,rfl,(pa.same s12).plan,pa.ok,λl xs H3 hl hx hp s3=>?_⟩
 have lx:=QbR hp
 have la:(up (pdL loops) loops.length).length=(Cg loops).length:=by rw[<-Ir loops,Qbx]
 have c1:=pa.pok.cnt.1
 have c2:=pa.pok.cnt.2
 refine⟨l,_,rfl,.inl (SqL.of hx),_,_,rfl,rfl,_,rfl,?_⟩
 have g1:decide ((1:Int)<=(xs.length:Int))=true:=QbM (by omega)
 rw[g1]
 refine Ca ⟨_,_,rfl,rfl,?_⟩
 have g2:decide ((xs.length:Int)<=30)=true:=QbM (by omega)
 show Q (.bl (decide ((xs.length:Int)<=30))) H3
 rw[g2]
 exact q _ (s12.trans s3)
theorem RB (C:Code K mg "address_twice" IW Fj) (T:Ty K mg op oe kd wk) (GQ:Good P w K mg base "devices" 2 Gb Sy):Good P w K mg base "address_twice" 3 Fj Hg:=by
 have sc:=Dq
 refine C.good Dq (λvs H Q E h=>?_) (λf cdv A outer s H vs Q E hr h=>?_)
 ·obtain⟨pl,most,loops,zones,rfl,_⟩:=h
  rfl
 obtain⟨pl,most,loops,zones,rfl,pa,q⟩:=h
 refine⟨_,(Ag (Bb (i:=1) Dq.nd rfl (Or.inl rfl) Xk)
 (Ag (BW QbA rfl (Dr (Ax GQ hr (Aa (pv 0) Ab))) (CV rfl (Aq (Ak (i:=2) Dq.nd rfl (Or.inl rfl)) (Aq (Ak (i:=3) Dq.nd rfl (Or.inl rfl)) (Aq (Ak (i:=4) Dq.nd rfl (Or.inl rfl)) Bw))))
 (Ag (BP (Pz (gA (CZ hr) (pv 4) (pv 1))) (Ai (Ba (Bh (Aa Bf (Aa (pv 4) Ab))))) BR)
 (Ai (Ei (CZ hr) (pv 1) (pv 4) Et rfl))))
 (Ai (Ba Ja)))),?_⟩
 refine λd hd=>?_
 have s0:=Af hd (.dK [])
 refine⟨_,rfl,pl,loops,rfl,(pa.same s0).plan,pa.ok,λl xs H1 hl hx hp s1=>⟨l,rfl,⟨_,SqL.of hx⟩,?_⟩⟩
 have lx:=QbR hp
 have la:(up (pdL loops) loops.length).length=(Cg loops).length:=by rw[<-Ir loops,Qbx]
 have c2:=pa.pok.cnt.2
 have nd:((up (pdL loops) loops.length).map (·.addr)).Nodup:=by rw[Ir];exact pa.pok.nd
 generalize up (pdL loops) loops.length=ds at *
 have hd1:H1 d=some (.dK []):=s1 _ _ Ac
 have nld:l≠d:=λz=>by rw[z,hd1] at hx;cases hx
 have nt:∀HH:Hp,(∃kvs,HH d=some (.dK kvs))->∀zs,HH d≠some (.tup zs):=λHH ⟨kvs,e⟩ zs z=>by rw[e] at z;cases z
 refine RT (xs:=xs) (λi σ HH=>∃u2 u3 u4,σ=[some (.ref pl),some (.ref d),u2,u3,u4]/\HH d=some (.dK (G4 (λz:Sd=>Sum.inl z.addr) (ds.take i)))/\Ah d H1 HH) ⟨_,_,_,rfl,hd1,Ah.refl d H1⟩ (λi σ HH _ h=>?_) (λi x σ HH hx' h=>?_) (fun σ HH h=>?_)
 ·obtain⟨u2,u3,u4,rfl,e1,e2⟩:=h
  exact SqL.of (e2 _ _ hx nld)
 ·obtain⟨u2,u3,u4,rfl,e1,e2⟩:=h
  obtain⟨z,hzi,tz,uz,rfl,h1,h2⟩:=Paired.Ci hp hx'
  have sT:=e2.tup (nt H1 ⟨_,hd1⟩)
  have fr:∀y∈ds.take i,(Sum.inl y.addr:Key)≠Sum.inl z.addr:=λy hy e=>JG nd hzi y hy (Sum.inl.inj e)
  refine⟨tz,_,rfl,SqT.of (sT _ _ h1),rfl,_,_,rfl,_,_,rfl,_,_,rfl,rfl,?_⟩
  refine⟨_,rfl,_,rfl,d,_,rfl,Gf.k (k:=Sum.inl z.addr) e1,_,rfl,?_⟩
  rw[Mq fr]
  refine Cr ⟨_,rfl,_,rfl,d,_,rfl,Gu.k (k:=Sum.inl z.addr) e1 (Ao (by rw[Ke,Qbp];omega)),_,_,_,rfl,?_,e2.trans Ah.upd⟩
  rw[Ac,Mr (f:=λz:Sd=>Sum.inl z.addr) (x:=z) fr,Qcq hzi]
 ·obtain⟨u2,u3,u4,rfl,e1,e2⟩:=h
  exact q _ ((s0.trans s1).Bt e2 hd)
theorem O5 (C:Code K mg "address_stranger" GF DG) (T:Ty K mg op oe kd wk) (GQ:Good P w K mg base "devices" 2 Gb Sy):Good P w K mg base "address_stranger" 3 DG Hg:=by
 have sc:=CP
 refine C.good CP (λvs H Q E h=>?_) (λf cdv A outer s H vs Q E hr h=>?_)
 ·obtain⟨pl,most,loops,zones,rfl,_⟩:=h
  rfl
 obtain⟨pl,most,loops,zones,rfl,pa,q⟩:=h
 refine⟨_,(Ag (lC (i:=1) CP.nd rfl (Or.inl rfl) (N':=["spot","kind","address"]) rfl (Bk.plain rfl (by trivial) (by trivial) (by trivial)) (Dr (Ax GQ hr (Aa (pv 0) Ab))) (λ_ _ _ _=>(Ik (K:=K) (n:=3) rfl rfl (Aq (Ak (i:=0) (show List.Nodup (["spot","kind","address"]:List Str) by trivial) rfl (Or.inl rfl)) (Aq (Ak (i:=1) (show List.Nodup (["spot","kind","address"]:List Str) by trivial) rfl (Or.inl rfl)) (Aq (Ak (i:=2) (show List.Nodup (["spot","kind","address"]:List Str) by trivial) rfl (Or.inl rfl)) Bw))))) (λ_ _ _ _=>(Li (Bq (S5 (K:=K) rfl) (pv 1) (PL rfl T.WARNING_KINDS) (by with_unfolding_all rfl)))) (λ_ _ _ _=>(pv 2)) (λ_ _ _ _=>Et))
 (Ag (BW QbA rfl (Fg (Bo Cm (pv 0) Ae (λ_ _=>rfl))) (CV rfl (Aq (Ak (i:=2) CP.nd rfl (Or.inl rfl)) (Aq (Ak (i:=3) CP.nd rfl (Or.inl rfl)) Bw)))
 (Ai (BW QbA rfl (Fg (pv 3)) (Ak (i:=4) CP.nd rfl (Or.inl rfl))
 (Ai (BP (Pz (PN (CZ hr) (pv 4) (pv 1))) (Ai (Ba (Bh (Aa Bf (Aa (pv 2) (Aa (pv 4) Ab)))))) BR)))))
 (Ai (Ba Ja)))),?_⟩
 refine⟨_,rfl,pl,loops,rfl,pa.plan,pa.ok,λl xs H1 hl hx hp s1=>⟨l,rfl,⟨_,SqL.of hx⟩,λd hd=>?_⟩⟩
 have lx:=QbR hp
 have la:(up (pdL loops) loops.length).length=(Cg loops).length:=by rw[<-Ir loops,Qbx]
 have c2:=pa.pok.cnt.2
 have nd:((up (pdL loops) loops.length).map (·.addr)).Nodup:=by rw[Ir];exact pa.pok.nd
 have hw:∀x∈DX loops,∃z∈(up (pdL loops) loops.length).filter (λz=>DP z.kind),z.addr=x:=λx hx=>qX pa.ok hx
 generalize up (pdL loops) loops.length=ds at *
 have nld:l≠d:=Av hx hd
 refine Zb (xs:=xs) (λi σ HH=>∃u2 u3 u4,σ=[u2,u3,u4]/\HH d=some (.dK (G4 (λz:Sd=>Sum.inl z.addr) ((ds.take i).filter λz=>DP z.kind)))/\Same H1 HH) ⟨_,_,_,rfl,Ac,Af hd _⟩ (λi σ HH _ h=>?_) (λi x σ HH hx' h=>?_) (fun σ HH h=>?_)
 ·obtain⟨u2,u3,u4,rfl,e1,e2⟩:=h
  exact SqL.of (e2 _ _ hx)
 ·obtain⟨u2,u3,u4,rfl,e1,e2⟩:=h
  obtain⟨z,hzi,tz,uz,rfl,h1,h2⟩:=Paired.Ci hp hx'
  have fr:∀y∈(ds.take i).filter (λz=>DP z.kind),(Sum.inl y.addr:Key)≠Sum.inl z.addr:=λy hy e=>JG nd hzi y (QbH.mp hy).1 (Sum.inl.inj e)
  have et:(ds.take (i+1)).filter (λz=>DP z.kind)=(ds.take i).filter (λz=>DP z.kind)++[z].filter (λz=>DP z.kind):=by rw[Qcq hzi,List.filter_append]
  refine⟨tz,_,rfl,SqT.of (e2 _ _ h1),rfl,_,_,rfl,_,_,rfl,_,_,rfl,rfl,?_⟩
  refine⟨_,rfl,wk,_,rfl,.inr (T.wkT HH),rfl,rfl,_,rfl,?_⟩
  rw[if_neg QaP]
  refine CU (λhc=>?_) (λhc=>?_)
  ·refine⟨_,rfl,_,Sum.inl z.addr,e1,rfl,Ao ?_,_,_,_,rfl,?_,e2.Bt Ah.upd hd⟩
   ·rw[Ke]
    have:=List.length_filter_le (λz:Sd=>DP z.kind) (ds.take i)
    rw[Qbp] at this
    omega
   ·rw[Ac,Mr (f:=λz:Sd=>Sum.inl z.addr) (x:=z) fr,et,show [z].filter (λz=>DP z.kind)=[z] from List.filter_cons_of_pos (p:=λz:Sd=>DP z.kind) hc]
  ·refine⟨_,_,_,rfl,?_,e2⟩
   rw[et,show [z].filter (λz=>DP z.kind)=[] from List.filter_cons_of_neg (p:=λz:Sd=>DP z.kind) (by show ¬DP z.kind=true;rw[show DP z.kind=false from hc];decide),QbD]
   exact e1
 obtain⟨u2,u3,u4,rfl,e1,e2⟩:=h
 rw[lx,Qbo] at e1
 have s2:=s1.trans e2
 obtain⟨Ls,zs,ws,zvs,f1,f2,f3,f4,f5⟩:=pa.at_
 refine⟨_,rfl,pl,_,_,_,rfl,rfl,SqT.of (s2 _ _ f1),rfl,zs,rfl,⟨_,SqT.of (s2 _ _ f4)⟩,?_⟩
 refine KZ (xs:=zvs) (λi σ HX=>∃u2 u3 u4,σ=[some (.ref pl),some (.ref d),u2,u3,u4]/\HX=HH) ⟨_,_,_,rfl,rfl⟩ (λi σ HX _ h=>?_) (λi x σ HX hx' h=>?_) (fun σ HX h=>?_)
 ·obtain⟨u2,u3,u4,rfl,rfl⟩:=h
  exact SqT.of (s2 _ _ f4)
 ·obtain⟨u2,u3,u4,rfl,rfl⟩:=h
  obtain⟨z,hzi,tz,uz,rfl,h1,h2⟩:=Paired.Ci f5 hx'
  refine⟨tz,_,rfl,SqT.of (s2 _ _ h1),rfl,_,_,rfl,_,_,rfl,rfl,?_⟩
  refine⟨_,rfl,uz,rfl,⟨_,SqT.of (s2 _ _ h2)⟩,?_⟩
  refine KZ (xs:=z.adr.map V.int) (λi σ HY=>∃u4,σ=[some (.ref pl),some (.ref d),some (.str z.name),some (.ref uz),u4]/\HY=HX) ⟨_,rfl,rfl⟩ (λi σ HY _ h=>?_) (λi x σ HY hx2 h=>?_) (fun σ HY h=>?_)
  ·obtain⟨u4,rfl,rfl⟩:=h
   exact SqT.of (s2 _ _ h2)
  ·obtain⟨u4,rfl,rfl⟩:=h
   rw[Qbc] at hx2
   obtain⟨n1,hn1,rfl⟩:=Qau.mp hx2
   obtain⟨y,hy,ey⟩:=hw n1 (pa.pok.zin z (Qaz hzi) n1 (Qaz hn1))
   have hs:(DY (G4 (λz:Sd=>Sum.inl z.addr) (ds.filter λz=>DP z.kind)) (Sum.inl n1)).isSome=true:=by
    rw[<-Jk,List.any_eq_true]
    exact⟨_,Qca.mpr ⟨y,hy,rfl⟩,QbM (by show (Sum.inl y.addr:Key)=_;rw[ey])⟩
   refine⟨_,rfl,_,rfl,d,_,rfl,Gf.k (k:=Sum.inl n1) e1,_,rfl,?_⟩
   rw[hs]
   exact Cr ⟨_,rfl,rfl⟩
  ·obtain⟨u4,rfl,rfl⟩:=h
   exact⟨_,_,_,rfl,rfl⟩
 ·obtain⟨u2,u3,u4,rfl,rfl⟩:=h
  exact q _ s2
theorem Q5 (C:Code K mg "address_shared" HN El) (T:Ty K mg op oe kd wk):Good P w K mg base "address_shared" 1 El Hg:=by
 have sc:=Dj
 refine C.good Dj (λvs H Q E h=>?_) (λf cdv A outer s H vs Q E hr h=>?_)
 ·obtain⟨pl,most,loops,zones,rfl,_⟩:=h
  rfl
 obtain⟨pl,most,loops,zones,rfl,pa,q⟩:=h
 refine⟨_,(Ag (Bb (i:=1) Dj.nd rfl (Or.inl rfl) Xk)
 (Ag (BW QbA rfl (Fg (Bo Cm (pv 0) Ae (λ_ _=>rfl))) (CV rfl (Aq (Ak (i:=2) Dj.nd rfl (Or.inl rfl)) (Aq (Ak (i:=3) Dj.nd rfl (Or.inl rfl)) Bw)))
 (Ai (BW QbA rfl (Fg (pv 3)) (Ak (i:=4) Dj.nd rfl (Or.inl rfl))
 (Ag (BP (Pz (gA (CZ hr) (pv 4) (pv 1))) (Ai (Ba (Bh (Aa Bf (Aa (pv 2) (Aa (pv 4) Ab)))))) BR)
 (Ai (Ei (CZ hr) (pv 1) (pv 4) Et rfl))))))
 (Ai (Ba Ja)))),?_⟩
 refine λd hd=>?_
 have s0:=Af hd (.dK [])
 obtain⟨Ls,zs,ws,zvs,f1,f2,f3,f4,f5⟩:=pa.at_
 have nd:=pa.pok.znd
 have zl:=QbR f5
 have c8:=pa.pok.uL
 have DC:∀i,((zones.take i).flatMap (·.adr)).length<=30*(zones.take i).length:=λi=>pK λz hz=>(pa.pok.zup z (List.mem_of_mem_take hz)).2.2
 refine⟨_,rfl,pl,_,_,_,rfl,rfl,SqT.of (s0 _ _ f1),rfl,zs,rfl,⟨_,SqT.of (s0 _ _ f4)⟩,?_⟩
 refine KZ (xs:=zvs) (λi σ HX=>∃u2 u3 u4,σ=[some (.ref pl),some (.ref d),u2,u3,u4]/\HX d=some (.dK (G4 Sum.inl ((zones.take i).flatMap (·.adr))))/\Same H HX) ⟨_,_,_,rfl,Ac,s0⟩ (λi σ HX _ h=>?_) (λi x σ HX hx' h=>?_) (fun σ HX h=>?_)
 ·obtain⟨u2,u3,u4,rfl,e1,e2⟩:=h
  exact SqT.of (e2 _ _ f4)
 ·obtain⟨u2,u3,u4,rfl,e1,e2⟩:=h
  obtain⟨z,hzi,tz,uz,rfl,h1,h2⟩:=Paired.Ci f5 hx'
  have hm:=Qaz hzi
  refine⟨tz,_,rfl,SqT.of (e2 _ _ h1),rfl,_,_,rfl,_,_,rfl,rfl,?_⟩
  refine⟨_,rfl,uz,rfl,⟨_,SqT.of (e2 _ _ h2)⟩,?_⟩
  have Hn:=(pa.pok.zup z hm).2.2
  have hlen:(z.adr.map V.int).length=z.adr.length:=Qbx ..
  have hsp:(zones.take (i+1)).flatMap (·.adr)=(zones.take i).flatMap (·.adr)++z.adr:=by rw[Qcq hzi,QaI];simp
  have ndz:((zones.take i).flatMap (·.adr)++z.adr).Nodup:=by
   rw[<-hsp]
   exact (pJ (List.take_sublist (i+1) zones)).nodup nd
  have hc:=DC i
  have hti:(zones.take i).length<=8:=by rw[Qbp];omega
  refine KZ (xs:=z.adr.map V.int) (λj σ HY=>∃u4,σ=[some (.ref pl),some (.ref d),some (.str z.name),some (.ref uz),u4]/\HY d=some (.dK (G4 Sum.inl ((zones.take i).flatMap (·.adr)++z.adr.take j)))/\Same H HY) ⟨_,rfl,by rw[List.take_zero,QbD];exact e1,e2⟩ (λj σ HY _ h=>?_) (λj x σ HY hx2 h=>?_) (fun σ HY h=>?_)
  ·obtain⟨u4,rfl,_,e⟩:=h
   exact SqT.of (e _ _ h2)
  ·obtain⟨u4,rfl,g1,g2⟩:=h
   rw[Qbc] at hx2
   obtain⟨n1,hn1,rfl⟩:=Qau.mp hx2
   have fr:∀y∈(zones.take i).flatMap (·.adr)++z.adr.take j,(Sum.inl y:Key)≠Sum.inl n1:=λy hy e=>by
    have e:=Sum.inl.inj e
    subst e
    obtain⟨_,n2,n3⟩:=Qbn.mp ndz
    rcases Qbz.mp hy with h | h
    ·exact n3 y h y (Qaz hn1) rfl
    ·exact Ur n2 hn1 y h rfl
   refine⟨_,rfl,_,rfl,d,_,rfl,Gf.k (k:=Sum.inl n1) g1,_,rfl,?_⟩
   rw[Mq fr]
   refine Cr ⟨_,rfl,_,rfl,d,_,rfl,Gu.k (k:=Sum.inl n1) g1 (Ao ?_),_,rfl,?_,g2.Bt Ah.upd hd⟩
   ·rw[Ke,QaM,Qbp]
    omega
   ·rw[Ac,Mr (f:=Sum.inl) (x:=n1) fr,Qcq hn1,Qbd]
  ·obtain⟨u4,rfl,g1,g2⟩:=h
   rw[hlen,Qbo,<-hsp] at g1
   exact⟨_,_,_,rfl,g1,g2⟩
 ·obtain⟨u2,u3,u4,rfl,e1,e2⟩:=h
  exact q _ e2
theorem S7 (C:Code K mg "part_crowded" Jo FJ) (T:Ty K mg op oe kd wk) (um:Good P w K mg base "parts" 2 Nt ZG):Good P w K mg base "part_crowded" 3 FJ Hg:=by
 have sc:=Fb
 refine C.good Fb (λvs H Q E h=>?_) (λf cdv A outer s H vs Q E hr h=>?_)
 ·obtain⟨pl,most,loops,zones,rfl,_⟩:=h
  rfl
 obtain⟨pl,most,loops,zones,rfl,pa,q⟩:=h
 refine⟨_,(Ag (BW QbA rfl (Cq rfl T.range (Aa (Aw Bs rfl T.len CW (Aa (Bo Cm (pv 0) Ae (λ_ _=>rfl)) Ab)) Ab)) (Ak (i:=1) Fb.nd rfl (Or.inl rfl))
 (Ai (BW QbA rfl (gk rfl T.enumerate (Ax um hr (Aa (pv 0) (Aa (pv 1) Ab)))) (CV rfl (Aq (Ak (i:=2) Fb.nd rfl (Or.inl rfl)) (Aq (Ak (i:=3) Fb.nd rfl (Or.inl rfl)) Bw)))
 (Ai (BP (Bq V8 (Aw Bs rfl T.len CW (Aa (pv 3) Ab)) (Bo Cm (pv 0) Ae (λ_ _=>rfl)) (BJ _)) (Ai (Ba (Bh (Aa Bf (Aa (pv 1) (Aa (pv 2) Ab)))))) BR)))))
 (Ai (Ba Ja))),?_⟩
 obtain⟨Ls,zs,ws,zvs,f1,f2,f3,f4,f5⟩:=pa.at_
 have lw:=QbR f3
 have l3:=pa.ok.hi
 refine⟨_,rfl,pl,_,_,_,rfl,rfl,SqT.of f1,rfl,Ls,_,rfl,.inr (SqT.of f2),_,rfl,by omega,by omega,?_⟩
 rw[Qbe]
 refine Dl (λi σ HX=>∃u1 u2 u3,σ=[some (.ref pl),u1,u2,u3]/\Same H HX) ⟨_,_,_,rfl,Same.refl H⟩ (λi σ HX hi h=>?_) (fun σ HX h=>?_)
 ·obtain⟨u1,u2,u3,rfl,e1⟩:=h
  have hwi:ws[i]?=some ws[i]:=Qal hi
  obtain⟨ps,hpi,t,vs',ev,ht,hps⟩:=Paired.Ci f3 hwi
  have hm:=Qaz hpi
  have okl:=pa.ok.ok ps hm
  refine⟨_,rfl,_,rfl,pl,Ls,t,_,_,ws,vs',i,ps,?_,e1 _ _ f1,e1 _ _ f2,by rw[hwi,ev],e1 _ _ ht,Paired.Az hps λ_ _ z=>z.tups (Am.of e1),okl.ok,okl.hi,λl xs H1 hl hx hp hfr s1=>⟨l,rfl,⟨_,SqL.of hx⟩,?_⟩⟩
  ·show [V.ref pl,.int (0+(i:Int))]++[]=_
   rw[Int.zero_add]
   rfl
  refine jg (xs:=xs) (lo:=0) (λj σ HY=>∃u2 u3,σ=[some (.ref pl),some (.int (0+(i:Int))),u2,u3]/\Same H1 HY) ⟨_,_,rfl,Same.refl H1⟩ (λj σ HY _ h=>?_) (λj x p σ HY hx' h hp'=>?_) (fun σ HY h=>?_)
  ·obtain⟨u2,u3,rfl,g1⟩:=h
   exact SqL.of (g1 _ _ hx)
  ·obtain⟨u2,u3,rfl,g1⟩:=h
   obtain⟨sps,hsi,qq,ys,rfl,hq1,hq2⟩:=Paired.Ci hp hx'
   have ly:=QbR hq2
   have s2:=Af hp' (.tup [.int ((0+j:Nat):Int),.ref qq])
   have g2:=g1.trans s2
   have hfew:(sps.length:Int)<=most:=pa.pok.few ps hm _ (lO (lp:=i) sps (Qaz hsi))
   refine⟨p,_,rfl,SqT.of Ac,rfl,_,_,rfl,_,_,rfl,rfl,?_⟩
   refine⟨_,rfl,qq,_,rfl,.inl (SqL.of (g2 _ _ hq1)),_,rfl,pl,_,_,_,rfl,rfl,SqT.of (g2 _ _ (s1 _ _ (e1 _ _ f1))),rfl,_,_,rfl,rfl,_,rfl,?_⟩
   have hg:decide ((ys.length:Int) > most)=false:=QbC (by omega)
   rw[show decide (most < (ys.length:Int))=false from hg]
   exact Cr ⟨_,_,rfl,g2⟩
  ·obtain⟨u2,u3,rfl,g1⟩:=h
   exact⟨_,_,_,rfl,e1.trans (s1.trans g1)⟩
 ·obtain⟨u1,u2,u3,rfl,e1⟩:=h
  exact q _ e1
theorem lV (C:Code K mg "wrong" Uc Nr) (T:Ty K mg op oe kd wk) (Tp:Good P w K mg base "address_twice" 3 Fj Hg) (Uz:Good P w K mg base "part_crowded" 3 FJ Hg) (Qe:Good P w K mg base "address_stranger" 3 DG Hg) (RQ:Good P w K mg base "address_shared" 1 El Hg):Good P w K mg base "wrong" 4 Nr Hg:=by
 refine C.good kj (λvs H Q E h=>?_) (λf cdv A outer s H vs Q E hr h=>?_)
 ·obtain⟨pl,most,loops,zones,rfl,_⟩:=h
  rfl
 obtain⟨pl,most,loops,zones,rfl,pa,q⟩:=h
 refine⟨_,(Ai (Ba (Xj (Ax Tp hr (Aa (pv 0) Ab)) (Xj (Ax Uz hr (Aa (pv 0) Ab)) (Xj (Ax Qe hr (Aa (pv 0) Ab)) (DR (Ax RQ hr (Aa (pv 0) Ab)))))))),?_⟩
 exact⟨_,rfl,pl,most,loops,zones,rfl,pa,λH1 s1=>⟨rfl,_,rfl,pl,most,loops,zones,rfl,pa.same s1,λH2 s2=>⟨rfl,_,rfl,pl,most,loops,zones,rfl,(pa.same s1).same s2,λH3 s3=>⟨rfl,_,rfl,pl,most,loops,zones,rfl,((pa.same s1).same s2).same s3,λH4 s4=>q _ (s1.trans (s2.trans (s3.trans s4)))⟩⟩⟩⟩
theorem Xr (C:Code K mg "is_let_by" MF Ho) (T:Ty K mg op oe kd wk) (jc:Good P w K mg base "is_plan" 9 J1 Qw) (uh:Good P w K mg base "wrong" 4 Nr Hg):Good P w K mg base "is_let_by" 10 Ho Qw:=by
 refine C.good WR (λvs H Q E h=>?_) (λf cdv A outer s H vs Q E hr h=>?_)
 ·obtain⟨pl,most,loops,zones,rfl,_⟩:=h
  rfl
 obtain⟨pl,most,loops,zones,rfl,pa,q⟩:=h
 refine⟨_,(Ai (Ba (DW (Ax jc hr (Aa (pv 0) Ab)) (DR (Js vY (Ax uh hr (Aa (pv 0) Ab)) Ja (BJ _)))))),?_⟩
 exact⟨_,rfl,pl,most,loops,zones,rfl,pa,λH1 s1=>⟨_,rfl,Ca ⟨_,rfl,pl,most,loops,zones,rfl,pa.same s1,λH2 s2=>⟨rfl,q _ (s1.trans s2)⟩⟩⟩⟩
end
abbrev Rt:Stmt:=top 59
abbrev Lq:List Str:=["_law_e"]
theorem JQ:Ay ["_law_e","_law_kinds","_law_names_here"] Lq (Aj Rt):=⟨rfl,rfl,rfl,by trivial,rfl,by trivial,by trivial⟩
structure Er (K:PySem.W.Frag) (mg:Str->Option Value) (hc c0 c1 c2 c3 c4 c5 c6 c7 c8 c9 c10 c11 c12:Addr):Prop where
 ve:mg "ValueError"=none
 Rh:mg "HouseError"=some (.ref hc)
 Q8:XCl K hc
 tO:mg "NoPlan"=some (.ref c0)
 tL:mg "NoText"=some (.ref c1)
 S9:mg "NoStretch"=some (.ref c2)
 Z5:mg "NoSpot"=some (.ref c3)
 gW:mg "NoOpener"=some (.ref c4)
 cj:mg "NoAddress"=some (.ref c5)
 mO:mg "NoRules"=some (.ref c6)
 tR:mg "NoHand"=some (.ref c7)
 mQ:mg "NoPanel"=some (.ref c8)
 tQ:mg "NoLink"=some (.ref c9)
 wD:mg "NoLog"=some (.ref c10)
 tU:mg "NoDeed"=some (.ref c11)
 wC:mg "NoRow"=some (.ref c12)
structure Knd (K:PySem.W.Frag) (hc C:Addr) (cs:List Addr) (j:Nat):Prop where
 xc:XCl K C
 sub:subIn K (.ref C) (.ref hc)=some true
 kit:∀i d,cs[i]?=some d->kitOne K (.ref C) (.ref d)=some (decide (i=j))
 kv:kitOne K (.ref C) (.type "ValueError")=some true
def qJ (j:Nat):Str:=(["plan","text","stretch","spot","opener","address","rules","hand","panel","link","log","deed","row"]:List Str).getD j ""
def bsl (j:Nat):List Bool:=[decide (0=j),decide (1=j),decide (2=j),decide (3=j),decide (4=j),decide (5=j),decide (6=j),decide (7=j),decide (8=j),decide (9=j),decide (10=j),decide (11=j),decide (12=j)]
theorem jH:∀j,j < 13->(bsl j).countP id=1:=by decide
theorem yD:∀j,j < 13->(bsl j)[j]?=some true:=by decide
theorem yC:∀j,j < 13->∀m,m < j->(bsl j)[m]?=some false:=by decide
theorem wordAt:∀j,j < 13->([.str "plan",.str "text",.str "stretch",.str "spot",.str "opener",.str "address",.str "rules",.str "hand",.str "panel",.str "link",.str "log",.str "deed",.str "row"]:List V)[j]?=some (.str (qJ j))
 | 0,_=>rfl
 | 1,_=>rfl
 | 2,_=>rfl
 | 3,_=>rfl
 | 4,_=>rfl
 | 5,_=>rfl
 | 6,_=>rfl
 | 7,_=>rfl
 | 8,_=>rfl
 | 9,_=>rfl
 | 10,_=>rfl
 | 11,_=>rfl
 | 12,_=>rfl
 | n+13,h=>absurd h (by omega)
def fJ (K:PySem.W.Frag) (hc:Addr) (cs:List Addr):Sp:=λvs H Q _=>∃(e C:Addr) (j:Nat),vs=[.ref e]/\H e=some (xo e C)/\Knd K hc C cs j/\j < 13/\∀H',Same H H'->Q (.str (qJ j)) H'
section
variable {P:Program} {w:World} {K:PySem.W.Frag} {mg:Str->Option Value} {base:Heap} {hc c0 c1 c2 c3 c4 c5 c6 c7 c8 c9 c10 c11 c12:Addr}
theorem sI (C:Code K mg "_law_kind" Rt Lq) (T:Nm mg) (XE:Er K mg hc c0 c1 c2 c3 c4 c5 c6 c7 c8 c9 c10 c11 c12):Wb P w K mg base "_law_kind" 1 Lq (fJ K hc [c0,c1,c2,c3,c4,c5,c6,c7,c8,c9,c10,c11,c12]):=by
 refine C.zK JQ (λvs H Q E h=>?_) (λf cdv A outer s H vs Q hr h=>?_)
 ·obtain⟨e,C,j,rfl,_⟩:=h
  rfl
 obtain⟨e,C,j,rfl,he,k,hj,q⟩:=h
 refine⟨_,(@Ag _ _ _ _ _ (@Bb _ _ 1 _ _ _ _ JQ.nd rfl (Or.inl rfl) (BL (Aa (Aw Du rfl T.isinstance Bl (Aa (pv 0) (Aa (DK (v:=.ref _) rfl XE.tO rfl) Ab))) (Aa (Aw Du rfl T.isinstance Bl (Aa (pv 0) (Aa (DK (v:=.ref _) rfl XE.tL rfl) Ab))) (Aa (Aw Du rfl T.isinstance Bl (Aa (pv 0) (Aa (DK (v:=.ref _) rfl XE.S9 rfl) Ab))) (Aa (Aw Du rfl T.isinstance Bl (Aa (pv 0) (Aa (DK (v:=.ref _) rfl XE.Z5 rfl) Ab))) Ab))))) (by rfl) (by first | exact .inl rfl | exact .inr rfl))
 (@Ag _ _ _ _ _ (@Bb _ _ 1 _ _ _ _ JQ.nd rfl (Or.inl rfl) (@Bd _ _ _ _ _ _ _ _ Xn (pv 1) (BL (Aa (Aw Du rfl T.isinstance Bl (Aa (pv 0) (Aa (DK (v:=.ref _) rfl XE.gW rfl) Ab))) (Aa (Aw Du rfl T.isinstance Bl (Aa (pv 0) (Aa (DK (v:=.ref _) rfl XE.cj rfl) Ab))) (Aa (Aw Du rfl T.isinstance Bl (Aa (pv 0) (Aa (DK (v:=.ref _) rfl XE.mO rfl) Ab))) (Aa (Aw Du rfl T.isinstance Bl (Aa (pv 0) (Aa (DK (v:=.ref _) rfl XE.tR rfl) Ab))) Ab)))))) (by rfl) (by first | exact .inl rfl | exact .inr rfl))
 (@Ag _ _ _ _ _ (@Bb _ _ 1 _ _ _ _ JQ.nd rfl (Or.inl rfl) (@Bd _ _ _ _ _ _ _ _ Xn (pv 1) (BL (Aa (Aw Du rfl T.isinstance Bl (Aa (pv 0) (Aa (DK (v:=.ref _) rfl XE.mQ rfl) Ab))) (Aa (Aw Du rfl T.isinstance Bl (Aa (pv 0) (Aa (DK (v:=.ref _) rfl XE.tQ rfl) Ab))) (Aa (Aw Du rfl T.isinstance Bl (Aa (pv 0) (Aa (DK (v:=.ref _) rfl XE.wD rfl) Ab))) (Aa (Aw Du rfl T.isinstance Bl (Aa (pv 0) (Aa (DK (v:=.ref _) rfl XE.tU rfl) Ab))) Ab)))))) (by rfl) (by first | exact .inl rfl | exact .inr rfl))
 (@Ag _ _ _ _ _ (Bg (CG Qaq Qam Qan Cd (pv 1) (Aa (Aw Du rfl T.isinstance Bl (Aa (pv 0) (Aa (DK (v:=.ref _) rfl XE.wC rfl) Ab))) Ab)))
 (@Ag _ _ _ _ _ (@Bb _ _ 2 _ _ _ _ JQ.nd rfl (Or.inl rfl) (@BL _ _ _ _ (@Aa _ _ _ _ _ (@Bf _ _ _ _) (@Aa _ _ _ _ _ (@Bf _ _ _ _) (@Aa _ _ _ _ _ (@Bf _ _ _ _) (@Aa _ _ _ _ _ (@Bf _ _ _ _) (@Aa _ _ _ _ _ (@Bf _ _ _ _) (@Aa _ _ _ _ _ (@Bf _ _ _ _) (@Aa _ _ _ _ _ (@Bf _ _ _ _) (@Aa _ _ _ _ _ (@Bf _ _ _ _) (@Aa _ _ _ _ _ (@Bf _ _ _ _) (@Aa _ _ _ _ _ (@Bf _ _ _ _) (@Aa _ _ _ _ _ (@Bf _ _ _ _) (@Aa _ _ _ _ _ (@Bf _ _ _ _) (@Ab _) Bc) Bc) Bc) Bc) Bc) Bc) Bc) Bc) Bc) Bc) Bc) Bc)) (by rfl) (by first | exact .inl rfl | exact .inr rfl))
 (@Ag _ _ _ _ _ (Bg (CG Qaq Qam Qan Cd (pv 2) (Aa Bf Ab)))
 (@Ag _ _ _ _ _ (BP (PW.pt (N8 (Fe (Fd (Aw jB rfl T.isinstance Bl (Aa (pv 0) (Aa (Np (v:=.ty "ValueError") rfl XE.ve PyProof.Rows.Boot.«ValueError» rfl) Ab))))) (Nk (Bq qG (CG Qaq PySem.F.slot_list_count PySem.F.type_list_count gZ (pv 1) (Aa Et Ab)) Ae (BJ _))))) (@Ai _ _ _ (Ba Bf)) BR)
 (@Ai _ _ _ (Ba (Bo Cv (pv 2) (CG Qaq PySem.F.slot_list_index PySem.F.type_list_index gY (pv 1) (Aa Et Ab)) (λ_ _=>rfl))))))))))),?_⟩
 refine⟨_,rfl,FQ he k.xc (k.kit 0 _ rfl) ⟨_,rfl,FQ he k.xc (k.kit 1 _ rfl) ⟨_,rfl,FQ he k.xc (k.kit 2 _ rfl) ⟨_,rfl,FQ he k.xc (k.kit 3 _ rfl) ⟨Ar (by show 4<=1000;decide),λl1 hl1=>?_⟩⟩⟩⟩⟩
 have s1:=Af hl1 (.lst [V.bl (decide (0=j)),.bl (decide (1=j)),.bl (decide (2=j)),.bl (decide (3=j))])
 have e1:upd H l1 (.lst [V.bl (decide (0=j)),.bl (decide (1=j)),.bl (decide (2=j)),.bl (decide (3=j))]) l1=some (.lst [V.bl (decide (0=j)),.bl (decide (1=j)),.bl (decide (2=j)),.bl (decide (3=j))]):=Ac
 generalize upd H l1 (.lst [V.bl (decide (0=j)),.bl (decide (1=j)),.bl (decide (2=j)),.bl (decide (3=j))])=H1 at s1 e1 ⊢
 have he1:=s1 _ _ he
 refine⟨_,rfl,⟨_,rfl,FQ he1 k.xc (k.kit 4 _ rfl) ⟨_,rfl,FQ he1 k.xc (k.kit 5 _ rfl) ⟨_,rfl,FQ he1 k.xc (k.kit 6 _ rfl) ⟨_,rfl,FQ he1 k.xc (k.kit 7 _ rfl) ⟨Ar (by show 4<=1000;decide),λla hla=>⟨l1,la,_,_,rfl,rfl,Af hla _ _ _ e1,Ac,Ar (by show 8<=1000;decide),λlb hlb=>?_⟩⟩⟩⟩⟩⟩⟩
 have sa:=Af hla (.lst [V.bl (decide (4=j)),.bl (decide (5=j)),.bl (decide (6=j)),.bl (decide (7=j))])
 have sb:=Af hlb (.lst ([V.bl (decide (0=j)),.bl (decide (1=j)),.bl (decide (2=j)),.bl (decide (3=j))]++[V.bl (decide (4=j)),.bl (decide (5=j)),.bl (decide (6=j)),.bl (decide (7=j))]))
 have e2:upd (upd H1 la (.lst [V.bl (decide (4=j)),.bl (decide (5=j)),.bl (decide (6=j)),.bl (decide (7=j))])) lb (.lst ([V.bl (decide (0=j)),.bl (decide (1=j)),.bl (decide (2=j)),.bl (decide (3=j))]++[V.bl (decide (4=j)),.bl (decide (5=j)),.bl (decide (6=j)),.bl (decide (7=j))])) lb=some (.lst ([V.bl (decide (0=j)),.bl (decide (1=j)),.bl (decide (2=j)),.bl (decide (3=j))]++[V.bl (decide (4=j)),.bl (decide (5=j)),.bl (decide (6=j)),.bl (decide (7=j))])):=Ac
 have s2:=s1.trans (sa.trans sb)
 generalize upd (upd H1 la (.lst [V.bl (decide (4=j)),.bl (decide (5=j)),.bl (decide (6=j)),.bl (decide (7=j))])) lb (.lst ([V.bl (decide (0=j)),.bl (decide (1=j)),.bl (decide (2=j)),.bl (decide (3=j))]++[V.bl (decide (4=j)),.bl (decide (5=j)),.bl (decide (6=j)),.bl (decide (7=j))]))=H2 at sb e2 s2 ⊢
 have he2:=s2 _ _ he
 refine⟨_,rfl,⟨_,rfl,FQ he2 k.xc (k.kit 8 _ rfl) ⟨_,rfl,FQ he2 k.xc (k.kit 9 _ rfl) ⟨_,rfl,FQ he2 k.xc (k.kit 10 _ rfl) ⟨_,rfl,FQ he2 k.xc (k.kit 11 _ rfl) ⟨Ar (by show 4<=1000;decide),λlc hlc=>⟨lb,lc,_,_,rfl,rfl,Af hlc _ _ _ e2,Ac,Ar (by show 12<=1000;decide),λld hld=>?_⟩⟩⟩⟩⟩⟩⟩
 have sc:=Af hlc (.lst [V.bl (decide (8=j)),.bl (decide (9=j)),.bl (decide (10=j)),.bl (decide (11=j))])
 have sd:=Af hld (.lst ([V.bl (decide (0=j)),.bl (decide (1=j)),.bl (decide (2=j)),.bl (decide (3=j))]++[V.bl (decide (4=j)),.bl (decide (5=j)),.bl (decide (6=j)),.bl (decide (7=j))]++[V.bl (decide (8=j)),.bl (decide (9=j)),.bl (decide (10=j)),.bl (decide (11=j))]))
 have e3:upd (upd H2 lc (.lst [V.bl (decide (8=j)),.bl (decide (9=j)),.bl (decide (10=j)),.bl (decide (11=j))])) ld (.lst ([V.bl (decide (0=j)),.bl (decide (1=j)),.bl (decide (2=j)),.bl (decide (3=j))]++[V.bl (decide (4=j)),.bl (decide (5=j)),.bl (decide (6=j)),.bl (decide (7=j))]++[V.bl (decide (8=j)),.bl (decide (9=j)),.bl (decide (10=j)),.bl (decide (11=j))])) ld=some (.lst ([V.bl (decide (0=j)),.bl (decide (1=j)),.bl (decide (2=j)),.bl (decide (3=j))]++[V.bl (decide (4=j)),.bl (decide (5=j)),.bl (decide (6=j)),.bl (decide (7=j))]++[V.bl (decide (8=j)),.bl (decide (9=j)),.bl (decide (10=j)),.bl (decide (11=j))])):=Ac
 have s3:=s2.trans (sc.trans sd)
 have fd:H ld=none:=s2.free (sc.free hld)
 generalize upd (upd H2 lc (.lst [V.bl (decide (8=j)),.bl (decide (9=j)),.bl (decide (10=j)),.bl (decide (11=j))])) ld (.lst ([V.bl (decide (0=j)),.bl (decide (1=j)),.bl (decide (2=j)),.bl (decide (3=j))]++[V.bl (decide (4=j)),.bl (decide (5=j)),.bl (decide (6=j)),.bl (decide (7=j))]++[V.bl (decide (8=j)),.bl (decide (9=j)),.bl (decide (10=j)),.bl (decide (11=j))]))=H3 at sd e3 s3 ⊢
 have he3:=s3 _ _ he
 refine⟨_,rfl,.inl ⟨rfl,_,SqL.of e3⟩,_,rfl,FQ he3 k.xc (k.kit 12 _ rfl) ⟨ld,_,_,rfl,rfl,e3,Ao (by show 12<=1000;decide),?_⟩⟩
 have e4:upd H3 ld (.lst ([V.bl (decide (0=j)),.bl (decide (1=j)),.bl (decide (2=j)),.bl (decide (3=j))]++[V.bl (decide (4=j)),.bl (decide (5=j)),.bl (decide (6=j)),.bl (decide (7=j))]++[V.bl (decide (8=j)),.bl (decide (9=j)),.bl (decide (10=j)),.bl (decide (11=j))]++[.bl (decide (12=j))])) ld=some (.lst ((bsl j).map V.bl)):=Ac
 have s4:Same H (upd H3 ld (.lst ([V.bl (decide (0=j)),.bl (decide (1=j)),.bl (decide (2=j)),.bl (decide (3=j))]++[V.bl (decide (4=j)),.bl (decide (5=j)),.bl (decide (6=j)),.bl (decide (7=j))]++[V.bl (decide (8=j)),.bl (decide (9=j)),.bl (decide (10=j)),.bl (decide (11=j))]++[.bl (decide (12=j))]))):=s3.Bt Ah.upd fd
 generalize upd H3 ld (.lst ([V.bl (decide (0=j)),.bl (decide (1=j)),.bl (decide (2=j)),.bl (decide (3=j))]++[V.bl (decide (4=j)),.bl (decide (5=j)),.bl (decide (6=j)),.bl (decide (7=j))]++[V.bl (decide (8=j)),.bl (decide (9=j)),.bl (decide (10=j)),.bl (decide (11=j))]++[.bl (decide (12=j))]))=H4 at e4 s4 ⊢
 have he4:=s4 _ _ he
 refine⟨Ar (by show 12<=1000;decide),λln hln=>?_⟩
 have nd:ld≠ln:=Av e4 hln
 have fn:H ln=none:=s4.free hln
 have s5:=s4.trans (Af hln (.lst [V.str "plan",.str "text",.str "stretch",.str "spot",.str "opener",.str "address",.str "rules",.str "hand",.str "panel",.str "link",.str "log",.str "deed"]))
 have e5:=Af hln (.lst [V.str "plan",.str "text",.str "stretch",.str "spot",.str "opener",.str "address",.str "rules",.str "hand",.str "panel",.str "link",.str "log",.str "deed"]) _ _ e4
 refine⟨_,rfl,.inl ⟨rfl,_,SqL.of Ac⟩,ln,_,_,rfl,rfl,Ac,Ao (by show 12<=1000;decide),?_⟩
 generalize upd H4 ln (.lst [V.str "plan",.str "text",.str "stretch",.str "spot",.str "opener",.str "address",.str "rules",.str "hand",.str "panel",.str "link",.str "log",.str "deed"])=H5 at s5 e5 ⊢
 have e6:∀o,upd H5 ln o ld=some (.lst ((bsl j).map V.bl)):=λo=>by rw[Al nd];exact e5
 have s6:∀o,Same H (upd H5 ln o):=λo=>s5.Bt Ah.upd fn
 refine⟨_,rfl,tX (s6 _ _ _ he) k.xc k.kv ⟨_,rfl,Cr ?_⟩⟩
 refine⟨_,rfl,.inl ⟨rfl,_,SqL.of (e6 _)⟩,ju (e6 _) ⟨rfl,_,rfl,?_⟩⟩
 rw[jH j hj]
 refine zE rfl ?_
 refine⟨_,rfl,_,rfl,.inl ⟨rfl,_,SqL.of (e6 _)⟩,iI (e6 _) (by omega) (yD j hj) (yC j hj) ⟨ln,_,_,_,rfl,rfl,SqL.of Ac,FW (wordAt j hj),q _ (s6 _)⟩⟩
end
instance:DecidableEq Sp3:=λa b=>if h:a.lp=b.lp/\a.at_=b.at_/\a.n=b.n then isTrue (by cases a;cases b;simp at h;obtain⟨h1,h2,h3⟩:=h;subst h1 h2 h3;rfl) else isFalse λe=>h (by rw[e];exact⟨rfl,rfl,rfl⟩)
def cd3 (s:Sp3):Int:=s.lp*10000+s.at_*100+s.n
structure Bd3 (s:Sp3):Prop where
 l0:0<=s.lp
 l1:s.lp<=2
 a0:0<=s.at_
 a1:s.at_<=12
 n0:0<=s.n
 n1:s.n<=3
theorem Bd3.inj {s t:Sp3} (h:Bd3 s) (k:Bd3 t) (e:cd3 s=cd3 t):s=t:=by
 unfold cd3 at e
 have h1:=h.l0;have h2:=h.l1;have h3:=h.a0;have h4:=h.a1;have h5:=h.n0;have h6:=h.n1
 have k1:=k.l0;have k2:=k.l1;have k3:=k.a0;have k4:=k.a1;have k5:=k.n0;have k6:=k.n1
 cases s
 cases t
 dsimp only at *
 congr 1 <;> omega
theorem Bd3.c3 {s:Sp3} (h:Bd3 s):C3 s.lp s.at_ s.n (cd3 s):=⟨h.a0,by have:=h.a1;omega,h.n0,by have:=h.n1;omega,rfl⟩
theorem Ni {α : Type} {c:α->Int} {f:Nat->List α} {g:Nat->Int} (hg:∀i,g i<=g (i+1)) (h1:∀i,((f i).map c).Pairwise (· < ·)) (h2:∀i,∀x∈f i,g i<=c x/\c x < g (i+1)):∀n,((up f n).map c).Pairwise (· < ·)/\∀x∈up f n,g 0<=c x/\c x < g n
 | 0=>by rw[Jl];exact⟨List.Pairwise.nil,λx h=>by cases h⟩
 | n+1=>by
  obtain⟨a,b⟩:=Ni hg h1 h2 n
  have g0:∀m,g 0<=g m:=λm=>by
   induction m with
   | zero=>exact Int.le_refl _
   | succ m ih=>exact Int.le_trans ih (hg m)
  rw[CN,Qby]
  refine⟨List.pairwise_append.mpr ⟨a,h1 n,λx hx y hy=>?_⟩,λx hx=>?_⟩
  ·obtain⟨x',hx',rfl⟩:=Qca.mp hx
   obtain⟨y',hy',rfl⟩:=Qca.mp hy
   have:=b x' hx'
   have:=h2 n y' hy'
   omega
  ·rcases Qbz.mp hx with h | h
   ·have:=b x h
    have:=hg n
    omega
   ·have:=h2 n x h
    have:=g0 n
    omega
theorem bK (k:Int):∀m:Nat,((List.range m).map λn:Nat=>k+(n:Int)).Pairwise (· < ·):=λm=>by
 rw[Qbh]
 exact List.pairwise_lt_range.imp λ{a b} h=>by omega
theorem Q9 (lp a:Int):∀(n:Nat) (ds:List Dev),(BX lp a n ds).map (λd=>cd3 d.spot)=(List.range' n ds.length).map λj:Nat=>lp*10000+a*100+(j:Int)
 | _,[]=>rfl
 | n,d::r=>by
  rw[Qbq,List.range'_succ,QbT,<-Q9 lp a (n+1) r]
  rfl
theorem Xg (lp a:Int) (p:Place):((Br lp a p).map λd=>cd3 d.spot).Pairwise (· < ·):=by
 unfold Br
 split
 ·exact List.Pairwise.nil
 ·rw[QbT,Q9]
  refine List.pairwise_cons.mpr ⟨λx hx=>?_,?_⟩
  ·obtain⟨j,hj,rfl⟩:=Qca.mp hx
   have:=List.mem_range'_1.mp hj
   show lp*10000+a*100+0 < _
   omega
  ·rw[Qbh]
   exact (List.pairwise_lt_range').imp λ{x y} h=>by omega
theorem Sx (lp a:Int):∀(n:Nat) (ds:List Dev) (d:Sd),d∈BX lp a n ds->d.lp=lp/\d.at_=a/\(n:Int)<=d.n/\d.n < (n:Int)+ds.length
 | _,[],d,h=>by cases h
 | n,x::r,d,h=>by
  rcases QbS.mp h with rfl | h
  ·exact⟨rfl,rfl,Int.le_refl _,by show (n:Int) < (n:Int)+((r.length+1:Nat):Int);omega⟩
  ·obtain⟨h1,h2,h3,h4⟩:=Sx lp a (n+1) r d h
   exact⟨h1,h2,by omega,by rw[Qbq];omega⟩
theorem Rf {lp a:Int} {p:Place} (h:p.spur.length<=3) {d:Sd} (hd:d∈Br lp a p):d.lp=lp/\d.at_=a/\0<=d.n/\d.n<=3:=by
 unfold Br at hd
 split at hd
 ·cases hd
 ·rcases QbS.mp hd with rfl | hd
  ·exact⟨rfl,rfl,Int.le_refl _,by show (0:Int)<=3;decide⟩
  ·obtain⟨h1,h2,h3,h4⟩:=Sx lp a 1 p.spur d hd
   exact⟨h1,h2,by omega,by omega⟩
theorem Jw {α β : Type} {o:Option α} {g:α->List β} {x:β} (h:x∈ifs o g):∃a,o=some a/\x∈g a:=by
 cases o with
 | none=>cases h
 | some a=>exact⟨a,rfl,h⟩
theorem Jm {α : Type} {f:Nat->List α} {x:α}:∀{n:Nat},x∈up f n->∃i,i < n/\x∈f i
 | 0,h=>by rw[Jl] at h;cases h
 | n+1,h=>by
  rw[CN] at h
  rcases Qbz.mp h with h | h
  ·obtain⟨i,a,b⟩:=Jm h
   exact⟨i,by omega,b⟩
  ·exact⟨n,Qbv n,h⟩
theorem Og {α β : Type} {c:β->Int} {o:Option α} {g:α->List β} (h:∀a,o=some a->((g a).map c).Pairwise (· < ·)):((ifs o g).map c).Pairwise (· < ·):=by
 cases o with
 | none=>exact List.Pairwise.nil
 | some a=>exact h a rfl
theorem aD {loops:List (List Place)} (ok:Ep loops) {k:Nat} {d:Sd} (h:d∈pdL loops k):d.lp=(k:Int)/\1<=d.at_/\d.at_<=12/\0<=d.n/\d.n<=3:=by
 obtain⟨ps,hps,h⟩:=Jw h
 have okl:=ok.ok ps (Qaz hps)
 obtain⟨i,hi,h⟩:=Jm h
 obtain⟨p,hp,h⟩:=Jw h
 obtain⟨h1,h2,h3,h4⟩:=Rf (okl.ok p (Qaz hp)).spur h
 have:=okl.hi
 exact⟨h1,by rw[h2];omega,by rw[h2];omega,h3,h4⟩
theorem Yl {loops:List (List Place)} (ok:Ep loops):((up (pdL loops) loops.length).map λd=>cd3 d.spot).Pairwise (· < ·):=by
 refine (Ni (g:=λi=>(i:Int)*10000) (λi=>by omega) (λk=>Og λps hps=>?_) (λk d hd=>?_) loops.length).1
 ·have okl:=ok.ok ps (Qaz hps)
  refine (Ni (g:=λi=>(k:Int)*10000+(1+i:Int)*100) (λi=>by omega) (λi=>Og λp hp=>Xg _ _ p) (λi d hd=>?_) ps.length).1
  obtain⟨p,hp,hd⟩:=Jw hd
  obtain⟨h1,h2,h3,h4⟩:=Rf (okl.ok p (Qaz hp)).spur hd
  show (k:Int)*10000+(1+i:Int)*100<=d.lp*10000+d.at_*100+d.n/\d.lp*10000+d.at_*100+d.n < (k:Int)*10000+(1+((i+1:Nat):Int))*100
  rw[h1,h2]
  push_cast
  omega
 ·obtain⟨h1,h2,h3,h4,h5⟩:=aD ok hd
  show (k:Int)*10000<=d.lp*10000+d.at_*100+d.n/\d.lp*10000+d.at_*100+d.n < ((k+1:Nat):Int)*10000
  rw[h1]
  push_cast
  omega
theorem yr {loops:List (List Place)} (ok:Ep loops):∀d∈up (pdL loops) loops.length,Bd3 d.spot:=λd hd=>by
 obtain⟨k,hk,hd⟩:=Jm hd
 obtain⟨h1,h2,h3,h4,h5⟩:=aD ok hd
 have:=ok.hi
 exact⟨by show 0<=d.lp;omega,by show d.lp<=2;omega,by show 0<=d.at_;omega,h3,h4,h5⟩
theorem Zy {lp:Int} {ps:List Place} (ok:OkL ps) {i:Nat} {s:Sp3} (h:s∈st1 lp ps i):s.lp=lp/\s.at_=((1+i:Nat):Int)/\i < ps.length/\0<=s.n/\s.n<=3:=by
 obtain⟨p,hp,h⟩:=Jw h
 have h3:=(ok.ok p (Qaz hp)).spur
 obtain⟨n,hn,rfl⟩:=Qca.mp h
 have:=QbQ.mp hn
 exact⟨rfl,rfl,(Qai.mp hp).1,by show (0:Int)<=(n:Int);omega,by show (n:Int)<=3;omega⟩
theorem fj {loops:List (List Place)} (ok:Ep loops) {k:Nat} {s:Sp3} (h:s∈stL loops k):s.lp=(k:Int)/\0<=s.at_/\s.at_<=12/\0<=s.n/\s.n<=3:=by
 obtain⟨ps,hps,h⟩:=Jw h
 have okl:=ok.ok ps (Qaz hps)
 have DB:=okl.hi
 rcases QbS.mp h with rfl | h
 ·exact⟨rfl,by show (0:Int)<=0;decide,by show (0:Int)<=12;decide,by show (0:Int)<=0;decide,by show (0:Int)<=3;decide⟩
 ·obtain⟨i,hi,h⟩:=Jm h
  obtain⟨h1,h2,h3,h4,h5⟩:=Zy okl h
  exact⟨h1,by rw[h2];omega,by rw[h2];omega,h4,h5⟩
theorem rC {loops:List (List Place)} (ok:Ep loops):((up (stL loops) loops.length).map cd3).Pairwise (· < ·):=by
 refine (Ni (g:=λi=>(i:Int)*10000) (λi=>by omega) (λk=>Og λps hps=>?_) (λk d hd=>?_) loops.length).1
 ·have okl:=ok.ok ps (Qaz hps)
  obtain⟨a,b⟩:=Ni (c:=cd3) (f:=st1 (k:Int) ps) (g:=λi=>(k:Int)*10000+(1+i:Int)*100) (λi=>by omega) (λi=>Og λp hp=>by
   rw[Qce]
   have:=bK ((k:Int)*10000+((1+i:Nat):Int)*100) (p.spur.length+1)
   exact this) (λi s hs=>by
   obtain⟨h1,h2,h3,h4,h5⟩:=Zy okl hs
   show (k:Int)*10000+(1+i:Int)*100<=s.lp*10000+s.at_*100+s.n/\s.lp*10000+s.at_*100+s.n < (k:Int)*10000+(1+((i+1:Nat):Int))*100
   rw[h1,h2]
   push_cast
   omega) ps.length
  rw[QbT]
  refine List.pairwise_cons.mpr ⟨λx hx=>?_,a⟩
  obtain⟨s,hs,rfl⟩:=Qca.mp hx
  have h0:=(b s hs).1
  have h0:(k:Int)*10000+(1+((0:Nat):Int))*100<=cd3 s:=h0
  show (k:Int)*10000+0*100+0 < cd3 s
  omega
 ·obtain⟨h1,h2,h3,h4,h5⟩:=fj ok hd
  show (k:Int)*10000<=d.lp*10000+d.at_*100+d.n/\d.lp*10000+d.at_*100+d.n < ((k+1:Nat):Int)*10000
  rw[h1]
  push_cast
  omega
theorem yW {loops:List (List Place)} (ok:Ep loops):∀s∈up (stL loops) loops.length,Bd3 s:=λs hs=>by
 obtain⟨k,hk,hs⟩:=Jm hs
 obtain⟨h1,h2,h3,h4,h5⟩:=fj ok hs
 have:=ok.hi
 exact⟨by omega,by omega,h2,h3,h4,h5⟩
theorem ZV {α : Type} {c:α->Int} {l:List α} (h:(l.map c).Pairwise (· < ·)):l.Nodup:=by
 rw[Qbh] at h
 exact h.imp λ{a b} hab e=>by rw[e] at hab;omega
abbrev Ia:Stmt:=(inClass (top 50) 0)
abbrev Em:List Str:=["self","plan"]
theorem QZ:Ay ["self","plan"] Em (Aj Ia):=⟨rfl,rfl,rfl,by trivial,rfl,by trivial,by trivial⟩
abbrev Fz:Stmt:=(inClass (top 50) 1)
abbrev BK:List Str:=["self","stretch"]
theorem Mv:Ay ["self","stretch"] BK (Aj Fz):=⟨rfl,rfl,rfl,by trivial,rfl,by trivial,by trivial⟩
abbrev GJ:Stmt:=(inClass (top 50) 2)
abbrev Df:List Str:=["self","spot"]
theorem O4:Ay ["self","spot"] Df (Aj GJ):=⟨rfl,rfl,rfl,by trivial,rfl,by trivial,by trivial⟩
abbrev M4:Stmt:=(inClass (top 50) 3)
abbrev Gn:List Str:=["self","stretch"]
theorem W0:Ay ["self","stretch"] Gn (Aj M4):=⟨rfl,rfl,rfl,by trivial,rfl,by trivial,by trivial⟩
abbrev Ko:Stmt:=(inClass (top 50) 4)
abbrev Ey:List Str:=["self","stretch"]
theorem Ub:Ay ["self","stretch"] Ey (Aj Ko):=⟨rfl,rfl,rfl,by trivial,rfl,by trivial,by trivial⟩
abbrev La:Stmt:=(inClass (top 50) 5)
abbrev FP:List Str:=["self","stretch"]
theorem VB:Ay ["self","stretch"] FP (Aj La):=⟨rfl,rfl,rfl,by trivial,rfl,by trivial,by trivial⟩
abbrev MP:Stmt:=(inClass (top 50) 6)
abbrev Gm:List Str:=["self","stretch"]
theorem WY:Ay ["self","stretch"] Gm (Aj MP):=⟨rfl,rfl,rfl,by trivial,rfl,by trivial,by trivial⟩
abbrev HW:Stmt:=(inClass (top 50) 7)
abbrev Ds:List Str:=["self","spot"]
theorem QX:Ay ["self","spot"] Ds (Aj HW):=⟨rfl,rfl,rfl,by trivial,rfl,by trivial,by trivial⟩
abbrev Jq:Stmt:=(inClass (top 50) 8)
abbrev Ej:List Str:=["self","spot","kind","address"]
theorem SM:Ay ["self","spot","kind","address"] Ej (Aj Jq):=⟨rfl,rfl,rfl,by trivial,rfl,by trivial,by trivial⟩
abbrev Km:Stmt:=(inClass (top 50) 9)
abbrev Gg:List Str:=["self"]
theorem Ua:Ay ["self"] Gg (Aj Km):=⟨rfl,rfl,rfl,by trivial,rfl,by trivial,by trivial⟩
structure Tw (K:PySem.W.Frag) (mg:Str->Option Value) (op oe kd wk C:Addr):Prop extends Ty K mg op oe kd wk where
 cl:Cls K C
 mgC:mg "Wires"=some (.ref C)
 gR:Hw K C "plan"
 Ib:Hw K C "states"
 Ju:Hw K C "filled"
 gU:Hw K C "gaps"
def ff (pl d1 d2 d3:Addr):List (Str×V):=[("plan",.ref pl),("states",.ref d1),("filled",.ref d2),("gaps",.ref d3)]
theorem mL:(["plan","states","filled","gaps"]:List Str).Nodup:=by trivial
section
variable (pl d1 d2 d3:Addr)
theorem fnd:((ff pl d1 d2 d3).map (·.1)).Nodup:=mL
theorem Jf:List.lookup ("states":Str) (ff pl d1 d2 d3)=some (V.ref d1):=Yc (i:=1) (fnd pl d1 d2 d3) rfl
theorem KD:List.lookup ("filled":Str) (ff pl d1 d2 d3)=some (V.ref d2):=Yc (i:=2) (fnd pl d1 d2 d3) rfl
end
theorem fno {pl d1 d2 d3:Addr} {x:Str} (h:x∉(["plan","states","filled","gaps"]:List Str)):(ff pl d1 d2 d3).lookup x=none:=qO h
def k3 (s:Sp3):List Key:=[.inl s.lp,.inl s.at_,.inl s.n]
theorem Fo {s t:Sp3} (h:k3 s=k3 t):s=t:=by
 cases s
 cases t
 simp[k3] at h
 obtain⟨h1,h2,h3⟩:=h
 subst h1 h2 h3
 rfl
def stV (hs:List (Sp3×Str)):List (List Key×V):=hs.map λx=>(k3 x.1,.str x.2)
theorem Qo {α : Type} {f:α->List Key×V}:∀{l:List α} {i:Nat} {x:α},(l.map λy=>(f y).1).Nodup->l[i]?=some x->DY (l.map f) (f x).1=some (f x).2
 | [],_,_,_,h=>by simp at h
 | a::r,0,x,nd,h=>by
  simp at h
  subst h
  exact NK (p:=f a) rfl
 | a::r,i+1,x,nd,h=>by
  have h:r[i]?=some x:=by simpa using h
  obtain⟨n1,n2⟩:=QbE.mp nd
  rw[QbT,Jj (p:=f a) (λe=>n1 (by show (f a).1∈_;rw[e];exact Qca.mpr ⟨x,Qaz h,rfl⟩))]
  exact Qo n2 h
theorem Ji {κ : Type} [DecidableEq κ]:∀{l:List (κ×V)} {k:κ},(∀x∈l,x.1≠k)->DY l k=none
 | [],_,_=>rfl
 | a::r,k,h=>by rw[Jj (h a (QaN ..))];exact Ji λx hx=>h x (QaA _ hx)
theorem Oa {κ : Type} [DecidableEq κ] {l:List (κ×V)} {k:κ} {v:V} (h:∃x∈l,x.1=k):putK l k v=l.map λkv=>if kv.1=k then (kv.1,v) else kv:=by
 unfold putK
 obtain⟨x,hx,e⟩:=h
 exact if_pos (List.any_eq_true.mpr ⟨x,hx,QbM e⟩)
def CQ {β : Type} (l:List (Sp3×β)) (s:Sp3) (v:β):List (Sp3×β):=l.map λx=>if x.1=s then (x.1,v) else x
theorem Fq {β : Type} (l:List (Sp3×β)) (s:Sp3) (v:β):(CQ l s v).map (·.1)=l.map (·.1):=by
 unfold CQ
 rw[Qce]
 refine List.map_congr_left λx _=>?_
 show (if x.1=s then (x.1,v) else x).1=x.1
 split <;> rfl
theorem K8 {β : Type} (l:List (Sp3×β)) (s:Sp3) (v:β):(CQ l s v).length=l.length:=Qbx ..
theorem Qu {hs:List (Sp3×Str)} {s:Sp3} {z:Str} (h:s∈hs.map (·.1)):putK (stV hs) (k3 s) (.str z)=stV (CQ hs s z):=by
 obtain⟨x,hx,e⟩:=Qca.mp h
 rw[Oa (l:=stV hs) ⟨_,Qca.mpr ⟨x,hx,rfl⟩,by show k3 x.1=_;rw[e]⟩]
 unfold stV CQ
 rw[Qce,Qce]
 refine List.map_congr_left λy _=>?_
 show (if k3 y.1=k3 s then (k3 y.1,V.str z) else (k3 y.1,V.str y.2))=(k3 (if y.1=s then (y.1,z) else y).1,V.str (if y.1=s then (y.1,z) else y).2)
 by_cases e:y.1=s
 ·rw[if_pos (by rw[e]),if_pos e]
 ·rw[if_neg (λz=>e (Fo z)),if_neg e]
def HeldAt (H:Hp) (v:V):Option (Str×Int)->Prop
 | none=>v=.non
 | some d=>∃t,v=.ref t/\H t=some (.tup [.str d.1,.int d.2])
def Dp (H:Hp) (kv:List Key×V) (x:Sp3×Option (Str×Int)):Prop:=kv.1=k3 x.1/\HeldAt H kv.2 x.2
theorem Dp.tups {H H':Hp} (s:Am H H') {kv:List Key×V} {x:Sp3×Option (Str×Int)} (h:Dp H kv x):Dp H' kv x:=by
 obtain⟨h1,h2⟩:=h
 refine⟨h1,?_⟩
 cases e:x.2 with
 | none=>rw[e] at h2;exact h2
 | some d=>
  rw[e] at h2
  obtain⟨t,a,b⟩:=h2
  exact⟨t,a,s _ _ b⟩
structure WAt (C:Addr) (H:Hp) (p pl d1 d2 d3:Addr) (hs:List (Sp3×Str)) (fl:List (Sp3×Option (Str×Int))):Prop where
 ins:∃dx,H p=some (.ins C dx (ff pl d1 d2 d3))
 st:H d1=some (.dT (stV hs))
 fi:∃kvs,H d2=some (.dT kvs)/\Paired (Dp H) kvs fl
 nd1:(hs.map (·.1)).Nodup
 nd2:(fl.map (·.1)).Nodup
 l1:hs.length<=200
 l2:fl.length<=200
theorem WAt.same {C:Addr} {H H':Hp} {p pl d1 d2 d3:Addr} {hs:List (Sp3×Str)} {fl:List (Sp3×Option (Str×Int))} (h:WAt C H p pl d1 d2 d3 hs fl) (s:Same H H'):WAt C H' p pl d1 d2 d3 hs fl:=by
 obtain⟨dx,e⟩:=h.ins
 obtain⟨kvs,e2,e3⟩:=h.fi
 exact⟨⟨dx,s _ _ e⟩,s _ _ h.st,⟨kvs,s _ _ e2,Paired.Az e3 λ_ _ z=>z.tups (Am.of s)⟩,h.nd1,h.nd2,h.l1,h.l2⟩
theorem WAt.Cu {C b:Addr} {H H':Hp} {p pl d1 d2 d3:Addr} {hs:List (Sp3×Str)} {fl:List (Sp3×Option (Str×Int))} (h:WAt C H p pl d1 d2 d3 hs fl) (s:Ah b H H') (nt:∀zs,H b≠some (.tup zs)) (n0:p≠b) (n1:d1≠b) (n2:d2≠b):WAt C H' p pl d1 d2 d3 hs fl:=by
 obtain⟨dx,e⟩:=h.ins
 obtain⟨kvs,e2,e3⟩:=h.fi
 exact⟨⟨dx,s _ _ e n0⟩,s _ _ h.st n1,⟨kvs,s _ _ e2 n2,Paired.Az e3 λ_ _ z=>z.tups (s.tup nt)⟩,h.nd1,h.nd2,h.l1,h.l2⟩
def Kq (H:Hp) (v:V) (ss:List Sp3):Prop:=∃b s,v=.ref b/\H b=some (.tup [.int s.lp,.int s.at_,.int s.n])/\s∈ss
def Pg (C ca:Addr):Sp:=λvs H Q E=>∃p pl d1 d2 d3 hs fl v,vs=[.ref p,v]/\WAt C H p pl d1 d2 d3 hs fl/\Th H v/\(Kq H v (hs.map (·.1))->∀H',Same H H'->Q .non H')/\(¬Kq H v (hs.map (·.1))->∀H',Same H H'->E (.ref ca) none H')
def WD (C ca:Addr):Sp:=λvs H Q E=>∃p pl d1 d2 d3 hs fl v,vs=[.ref p,v]/\WAt C H p pl d1 d2 d3 hs fl/\Th H v/\(Kq H v (fl.map (·.1))->∀H',Same H H'->Q .non H')/\(¬Kq H v (fl.map (·.1))->∀H',Same H H'->E (.ref ca) none H')
def NQ (C ca:Addr) (z:Str):Sp:=λvs H Q E=>∃p pl d1 d2 d3 hs fl v,vs=[.ref p,v]/\WAt C H p pl d1 d2 d3 hs fl/\d1≠d2/\Th H v/\(∀b s,v=.ref b->H b=some (.tup [.int s.lp,.int s.at_,.int s.n])->s∈hs.map (·.1)->∀H',WAt C H' p pl d1 d2 d3 (CQ hs s z) fl->Ah d1 H H'->Q .non H')/\(¬Kq H v (hs.map (·.1))->∀H',Same H H'->E (.ref ca) none H')
def bC (C ca:Addr):Sp:=λvs H Q E=>∃p pl d1 d2 d3 hs fl v,vs=[.ref p,v]/\WAt C H p pl d1 d2 d3 hs fl/\Th H v/\(∀b x,v=.ref b->H b=some (.tup [.int x.1.lp,.int x.1.at_,.int x.1.n])->x∈hs->∀H',Same H H'->Q (.str x.2) H')/\(¬Kq H v (hs.map (·.1))->∀H',Same H H'->E (.ref ca) none H')
def Wx (C ca:Addr):Sp:=λvs H Q E=>∃p pl d1 d2 d3 hs fl v,vs=[.ref p,v]/\WAt C H p pl d1 d2 d3 hs fl/\d1≠d2/\Th H v/\(∀b s,v=.ref b->H b=some (.tup [.int s.lp,.int s.at_,.int s.n])->s∈fl.map (·.1)->∀H',WAt C H' p pl d1 d2 d3 hs (CQ fl s none)->Ah d2 H H'->Q .non H')/\(¬Kq H v (fl.map (·.1))->∀H',Same H H'->E (.ref ca) none H')
def bA (C ca:Addr):Sp:=λvs H Q E=>∃p pl d1 d2 d3 hs fl v k x,vs=[.ref p,v,.str k,.int x]/\WAt C H p pl d1 d2 d3 hs fl/\d1≠d2/\Th H v/\(∀b s,v=.ref b->H b=some (.tup [.int s.lp,.int s.at_,.int s.n])->s∈fl.map (·.1)->∀H',WAt C H' p pl d1 d2 d3 hs (CQ fl s (some (k,x)))->Ah d2 H H'->Q .non H')/\(¬Kq H v (fl.map (·.1))->∀H',Same H H'->E (.ref ca) none H')
def EY (fl:List (Sp3×Option (Str×Int))):List Sd:=fl.filterMap λx=>x.2.map λd=>⟨x.1.lp,x.1.at_,x.1.n,d.1,d.2⟩
def ZD (C:Addr):Sp:=λvs H Q _=>∃p pl d1 d2 d3 hs fl,vs=[.ref p]/\WAt C H p pl d1 d2 d3 hs fl/\∀l xs H',H l=none->H' l=some (.lst xs)->Paired (GX H') xs (EY fl)->Same H H'->Q (.ref l) H'
theorem aY {xs:List V} (hl:xs.length=3) (h:xs.all isW=true):∃a b c,xs=[.int a,.int b,.int c]:=by
 match xs,hl with
 | [x1,x2,x3],_=>
  simp only[List.all_cons,List.all_nil,Bool.and_true,Qbu] at h
  obtain⟨h1,h2,h3⟩:=h
  obtain⟨a,rfl⟩:=Uw h1
  obtain⟨b,rfl⟩:=Uw h2
  obtain⟨c,rfl⟩:=Uw h3
  exact⟨a,b,c,rfl⟩
theorem Zq {H:Hp} {v:V} (h:KN (Gv H v) 3=true):∃b a c d,v=.ref b/\H b=some (.tup [.int a,.int c,.int d]):=by
 cases e:Gv H v with
 | none=>rw[e] at h;cases h
 | some xs=>
  rw[e,K3,Qbu] at h
  have h1:(decide ((3:Int)<=xs.length)&&decide ((xs.length:Int)<=3))=true:=h.1
  rw[Qbu] at h1
  have h2:=Qbi h1.1
  have h3:=Qbi h1.2
  obtain⟨a,c,d,rfl⟩:=aY (by omega) h.2
  obtain⟨b,rfl,hb⟩:=RD e
  exact⟨b,a,c,d,rfl,hb⟩
theorem Rb {H:Hp} {v:V} {ss:List Sp3} (h:Kq H v ss):KN (Gv H v) 3=true:=by
 obtain⟨b,s,rfl,hb,_⟩:=h
 rw[Dg hb]
 rfl
theorem Jy {H:Hp}:∀{kvs:List (List Key×V)} {fl:List (Sp3×Option (Str×Int))},Paired (Dp H) kvs fl->kvs.map (·.1)=fl.map λx=>k3 x.1
 | _,_,.nil=>rfl
 | _,_,.cons h t=>by rw[QbT,QbT,h.1,Jy t]
theorem RW {H':Hp} {s:Sp3} {v:V} {o:Option (Str×Int)} (hv:HeldAt H' v o):∀{kvs:List (List Key×V)} {fl:List (Sp3×Option (Str×Int))},Paired (Dp H') kvs fl->Paired (Dp H') (kvs.map λkv=>if kv.1=k3 s then (kv.1,v) else kv) (CQ fl s o)
 | _,_,.nil=>.nil
 | _,_,.cons (a:=kv) (b:=x) h t=>by
  have ih:=RW (s:=s) hv t
  refine .cons ?_ ih
  show Dp H' (if kv.1=k3 s then (kv.1,v) else kv) (if x.1=s then (x.1,o) else x)
  by_cases e:x.1=s
  ·rw[if_pos e,if_pos (by rw[h.1,e])]
   exact⟨h.1,hv⟩
  ·rw[if_neg e,if_neg (λz=>e (Fo (by rw[<-h.1,z])))]
   exact h
section
variable {P:Program} {w:World} {K:PySem.W.Frag} {mg:Str->Option Value} {base:Heap} {op oe kd wk C:Addr} {hc c0 c1 c2 c3 c4 c5 c6 c7 c8 c9 c10 c11 c12:Addr}
theorem Rz (c:Gz K C "check_stretch" "Wires.check_stretch" Fz BK) (T:Tw K mg op oe kd wk C) (XE:Er K mg hc c0 c1 c2 c3 c4 c5 c6 c7 c8 c9 c10 c11 c12) (Eh:Knd K hc c2 [c0,c1,c2,c3,c4,c5,c6,c7,c8,c9,c10,c11,c12] 2) (LQ:Good P w K mg base "are_wholes" 2 FN Pb):BZ P w K mg base C "check_stretch" 3 BK (Pg C c2):=by
 refine c.Ms Mv (λvs H Q E h=>?_) (λX f cdv A outer s H vs Q E eX hx hr h=>?_)
 ·obtain⟨p,pl,d1,d2,d3,hs,fl,v,rfl,_⟩:=h
  rfl
 subst eX
 obtain⟨p,pl,d1,d2,d3,hs,fl,v,rfl,R,th,q,qE⟩:=h
 refine⟨_,(Ai (BP (PW.pt (N8 (Fe (Fd (Ax LQ hr (Aa (pv 1) (Aa Ae Ab))))) (Nk (Pz (PN (CZ hr) (pv 1) (Jb (pv 0) rfl)))))) (Ai (Xf rfl Eh.xc rfl XE.S9 hx (Aa Bf Ab))) BR)),?_⟩
 refine⟨_,rfl,v,3,rfl,th,λH1 s1=>⟨_,rfl,?_⟩⟩
 cases ew:KN (Gv H v) 3 with
 | false=>exact Ca ⟨Ar (by show 1<=1000;decide),qE (λz=>by rw[Rb z] at ew;cases ew) _ s1⟩
 | true=>
  obtain⟨b,a1,a2,a3,rfl,hb⟩:=Zq ew
  have R1:=R.same s1
  obtain⟨dx,hp⟩:=R1.ins
  refine Cr ⟨_,rfl,_,rfl,p,C,dx,_,_,rfl,hp,T.cl,T.Ib,Jf pl d1 d2 d3,d1,_,rfl,Gf.t (k:=k3 ⟨a1,a2,a3⟩) R1.st (s1 _ _ hb),_,rfl,?_⟩
  by_cases hin:(⟨a1,a2,a3⟩ : Sp3)∈hs.map (·.1)
  ·have hs':(DY (stV hs) (k3 ⟨a1,a2,a3⟩)).isSome=true:=by
    obtain⟨x,hx,e⟩:=Qca.mp hin
    rw[<-Jk,List.any_eq_true]
    exact⟨_,Qca.mpr ⟨x,hx,rfl⟩,QbM (by show k3 x.1=_;rw[e])⟩
   rw[hs']
   exact Cr (q ⟨b,⟨a1,a2,a3⟩,rfl,hb,hin⟩ _ s1)
  ·have hn:DY (stV hs) (k3 ⟨a1,a2,a3⟩)=none:=Ji λx hx e=>by
    obtain⟨y,hy,rfl⟩:=Qca.mp hx
    exact hin (Qca.mpr ⟨y,hy,Fo e⟩)
   rw[hn]
   refine Ca ⟨Ar (by show 1<=1000;decide),qE (λ⟨b',s',e1,e2,e3⟩=>?_) _ s1⟩
   cases e1
   rw[hb] at e2
   cases s'
   cases e2
   exact hin e3
theorem VD (c:Gz K C "check_spot" "Wires.check_spot" GJ Df) (T:Tw K mg op oe kd wk C) (XE:Er K mg hc c0 c1 c2 c3 c4 c5 c6 c7 c8 c9 c10 c11 c12) (En:Knd K hc c3 [c0,c1,c2,c3,c4,c5,c6,c7,c8,c9,c10,c11,c12] 3) (LQ:Good P w K mg base "are_wholes" 2 FN Pb):BZ P w K mg base C "check_spot" 3 Df (WD C c3):=by
 refine c.Ms O4 (λvs H Q E h=>?_) (λX f cdv A outer s H vs Q E eX hx hr h=>?_)
 ·obtain⟨p,pl,d1,d2,d3,hs,fl,v,rfl,_⟩:=h
  rfl
 subst eX
 obtain⟨p,pl,d1,d2,d3,hs,fl,v,rfl,R,th,q,qE⟩:=h
 refine⟨_,(Ai (BP (PW.pt (N8 (Fe (Fd (Ax LQ hr (Aa (pv 1) (Aa Ae Ab))))) (Nk (Pz (PN (CZ hr) (pv 1) (Jb (pv 0) rfl)))))) (Ai (Xf rfl En.xc rfl XE.Z5 hx (Aa Bf Ab))) BR)),?_⟩
 refine⟨_,rfl,v,3,rfl,th,λH1 s1=>⟨_,rfl,?_⟩⟩
 cases ew:KN (Gv H v) 3 with
 | false=>exact Ca ⟨Ar (by show 1<=1000;decide),qE (λz=>by rw[Rb z] at ew;cases ew) _ s1⟩
 | true=>
  obtain⟨b,a1,a2,a3,rfl,hb⟩:=Zq ew
  have R1:=R.same s1
  obtain⟨dx,hp⟩:=R1.ins
  obtain⟨kvs,hk,hf⟩:=R1.fi
  have xG:=Jy hf
  refine Cr ⟨_,rfl,_,rfl,p,C,dx,_,_,rfl,hp,T.cl,T.Ju,KD pl d1 d2 d3,d2,_,rfl,Gf.t (k:=k3 ⟨a1,a2,a3⟩) hk (s1 _ _ hb),_,rfl,?_⟩
  by_cases hin:(⟨a1,a2,a3⟩ : Sp3)∈fl.map (·.1)
  ·have hs':(DY kvs (k3 ⟨a1,a2,a3⟩)).isSome=true:=by
    obtain⟨x,hx,e⟩:=Qca.mp hin
    have:k3 x.1∈kvs.map (·.1):=by rw[xG];exact Qca.mpr ⟨x,hx,rfl⟩
    obtain⟨kv,hkv,ekv⟩:=Qca.mp this
    rw[<-Jk,List.any_eq_true]
    exact⟨kv,hkv,QbM (by rw[ekv,e])⟩
   rw[hs']
   exact Cr (q ⟨b,⟨a1,a2,a3⟩,rfl,hb,hin⟩ _ s1)
  ·have hn:DY kvs (k3 ⟨a1,a2,a3⟩)=none:=Ji λx hx e=>by
    have:x.1∈kvs.map (·.1):=Qca.mpr ⟨x,hx,rfl⟩
    rw[xG] at this
    obtain⟨y,hy,ey⟩:=Qca.mp this
    exact hin (Qca.mpr ⟨y,hy,Fo (by rw[ey,e])⟩)
   rw[hn]
   refine Ca ⟨Ar (by show 1<=1000;decide),qE (λ⟨b',s',e1,e2,e3⟩=>?_) _ s1⟩
   cases e1
   rw[hb] at e2
   cases s'
   cases e2
   exact hin e3
theorem wg {ca:Addr} (c:Gz K C "cut" "Wires.cut" M4 Gn) (T:Tw K mg op oe kd wk C) (CK:BZ P w K mg base C "check_stretch" 3 BK (Pg C ca)):BZ P w K mg base C "cut" 4 Gn (NQ C ca "cut"):=by
 refine c.Ms W0 (λvs H Q E h=>?_) (λX f cdv A outer s H vs Q E eX hx hr h=>?_)
 ·obtain⟨p,pl,d1,d2,d3,hs,fl,v,rfl,_⟩:=h
  rfl
 subst eX
 obtain⟨p,pl,d1,d2,d3,hs,fl,v,rfl,R,n12,th,q,qE⟩:=h
 refine⟨_,(Ag (Bg (Dm (pv 0) T.cl CK hr hx (Aa (pv 1) Ab)))
 (Ai (Ei (CZ hr) (Jb (pv 0) rfl) (pv 1) Bf rfl))),?_⟩
 obtain⟨dx,hp⟩:=R.ins
 refine⟨_,rfl,p,dx,_,rfl,hp,fno (by trivial),_,rfl,p,pl,d1,d2,d3,hs,fl,v,rfl,R,th,(λhin H1 s1=>?_),qE⟩
 obtain⟨b,s',rfl,hb,hin⟩:=hin
 have R1:=R.same s1
 obtain⟨dx1,hp1⟩:=R1.ins
 have hd1:=R1.st
 have npd:p≠d1:=λz=>by rw[z,hd1] at hp1;cases hp1
 have nt:∀zs,H1 d1≠some (.tup zs):=λzs z=>by rw[hd1] at z;cases z
 have l1:=R.l1
 refine⟨_,rfl,p,C,dx1,_,_,rfl,hp1,T.cl,T.Ib,Jf pl d1 d2 d3,_,rfl,d1,_,rfl,Gu.t (k:=k3 s') hd1 (s1 _ _ hb) (Ao (by unfold stV;rw[Qbx];omega)),?_⟩
 rw[Qu hin]
 obtain⟨kvs,hk,hf⟩:=R1.fi
 have sT:=Am.upd (o:=.dT (stV (CQ hs s' "cut"))) nt
 exact q b s' rfl hb hin _ ⟨⟨dx1,by rw[Al npd];exact hp1⟩,Ac,⟨kvs,by rw[Al n12.symm];exact hk,Paired.Az hf λ_ _ z=>z.tups sT⟩,by rw[Fq];exact R.nd1,R.nd2,by rw[K8];exact l1,R.l2⟩ ((Ah.of s1).trans Ah.upd)
theorem lX {ca:Addr} (c:Gz K C "short" "Wires.short" Ko Ey) (T:Tw K mg op oe kd wk C) (CK:BZ P w K mg base C "check_stretch" 3 BK (Pg C ca)):BZ P w K mg base C "short" 4 Ey (NQ C ca "short"):=by
 refine c.Ms Ub (λvs H Q E h=>?_) (λX f cdv A outer s H vs Q E eX hx hr h=>?_)
 ·obtain⟨p,pl,d1,d2,d3,hs,fl,v,rfl,_⟩:=h
  rfl
 subst eX
 obtain⟨p,pl,d1,d2,d3,hs,fl,v,rfl,R,n12,th,q,qE⟩:=h
 refine⟨_,(Ag (Bg (Dm (pv 0) T.cl CK hr hx (Aa (pv 1) Ab)))
 (Ai (Ei (CZ hr) (Jb (pv 0) rfl) (pv 1) Bf rfl))),?_⟩
 obtain⟨dx,hp⟩:=R.ins
 refine⟨_,rfl,p,dx,_,rfl,hp,fno (by trivial),_,rfl,p,pl,d1,d2,d3,hs,fl,v,rfl,R,th,(λhin H1 s1=>?_),qE⟩
 obtain⟨b,s',rfl,hb,hin⟩:=hin
 have R1:=R.same s1
 obtain⟨dx1,hp1⟩:=R1.ins
 have hd1:=R1.st
 have npd:p≠d1:=λz=>by rw[z,hd1] at hp1;cases hp1
 have nt:∀zs,H1 d1≠some (.tup zs):=λzs z=>by rw[hd1] at z;cases z
 have l1:=R.l1
 refine⟨_,rfl,p,C,dx1,_,_,rfl,hp1,T.cl,T.Ib,Jf pl d1 d2 d3,_,rfl,d1,_,rfl,Gu.t (k:=k3 s') hd1 (s1 _ _ hb) (Ao (by unfold stV;rw[Qbx];omega)),?_⟩
 rw[Qu hin]
 obtain⟨kvs,hk,hf⟩:=R1.fi
 have sT:=Am.upd (o:=.dT (stV (CQ hs s' "short"))) nt
 exact q b s' rfl hb hin _ ⟨⟨dx1,by rw[Al npd];exact hp1⟩,Ac,⟨kvs,by rw[Al n12.symm];exact hk,Paired.Az hf λ_ _ z=>z.tups sT⟩,by rw[Fq];exact R.nd1,R.nd2,by rw[K8];exact l1,R.l2⟩ ((Ah.of s1).trans Ah.upd)
theorem sG {ca:Addr} (c:Gz K C "mend" "Wires.mend" La FP) (T:Tw K mg op oe kd wk C) (CK:BZ P w K mg base C "check_stretch" 3 BK (Pg C ca)):BZ P w K mg base C "mend" 4 FP (NQ C ca "whole"):=by
 refine c.Ms VB (λvs H Q E h=>?_) (λX f cdv A outer s H vs Q E eX hx hr h=>?_)
 ·obtain⟨p,pl,d1,d2,d3,hs,fl,v,rfl,_⟩:=h
  rfl
 subst eX
 obtain⟨p,pl,d1,d2,d3,hs,fl,v,rfl,R,n12,th,q,qE⟩:=h
 refine⟨_,(Ag (Bg (Dm (pv 0) T.cl CK hr hx (Aa (pv 1) Ab)))
 (Ai (Ei (CZ hr) (Jb (pv 0) rfl) (pv 1) Bf rfl))),?_⟩
 obtain⟨dx,hp⟩:=R.ins
 refine⟨_,rfl,p,dx,_,rfl,hp,fno (by trivial),_,rfl,p,pl,d1,d2,d3,hs,fl,v,rfl,R,th,(λhin H1 s1=>?_),qE⟩
 obtain⟨b,s',rfl,hb,hin⟩:=hin
 have R1:=R.same s1
 obtain⟨dx1,hp1⟩:=R1.ins
 have hd1:=R1.st
 have npd:p≠d1:=λz=>by rw[z,hd1] at hp1;cases hp1
 have nt:∀zs,H1 d1≠some (.tup zs):=λzs z=>by rw[hd1] at z;cases z
 have l1:=R.l1
 refine⟨_,rfl,p,C,dx1,_,_,rfl,hp1,T.cl,T.Ib,Jf pl d1 d2 d3,_,rfl,d1,_,rfl,Gu.t (k:=k3 s') hd1 (s1 _ _ hb) (Ao (by unfold stV;rw[Qbx];omega)),?_⟩
 rw[Qu hin]
 obtain⟨kvs,hk,hf⟩:=R1.fi
 have sT:=Am.upd (o:=.dT (stV (CQ hs s' "whole"))) nt
 exact q b s' rfl hb hin _ ⟨⟨dx1,by rw[Al npd];exact hp1⟩,Ac,⟨kvs,by rw[Al n12.symm];exact hk,Paired.Az hf λ_ _ z=>z.tups sT⟩,by rw[Fq];exact R.nd1,R.nd2,by rw[K8];exact l1,R.l2⟩ ((Ah.of s1).trans Ah.upd)
theorem v9 {ca:Addr} (c:Gz K C "how" "Wires.how" MP Gm) (T:Tw K mg op oe kd wk C) (CK:BZ P w K mg base C "check_stretch" 3 BK (Pg C ca)):BZ P w K mg base C "how" 4 Gm (bC C ca):=by
 refine c.Ms WY (λvs H Q E h=>?_) (λX f cdv A outer s H vs Q E eX hx hr h=>?_)
 ·obtain⟨p,pl,d1,d2,d3,hs,fl,v,rfl,_⟩:=h
  rfl
 subst eX
 obtain⟨p,pl,d1,d2,d3,hs,fl,v,rfl,R,th,q,qE⟩:=h
 refine⟨_,(Ag (Bg (Dm (pv 0) T.cl CK hr hx (Aa (pv 1) Ab)))
 (Ai (Ba (Uk (CZ hr) (Jb (pv 0) rfl) (pv 1) (λ_ _=>rfl))))),?_⟩
 obtain⟨dx,hp⟩:=R.ins
 refine⟨_,rfl,p,dx,_,rfl,hp,fno (by trivial),_,rfl,p,pl,d1,d2,d3,hs,fl,v,rfl,R,th,(λhin H1 s1=>?_),qE⟩
 obtain⟨b,s',rfl,hb,hin⟩:=hin
 obtain⟨x,hx',e⟩:=Qca.mp hin
 obtain⟨i,hi⟩:=QaC hx'
 subst e
 have hv:DY (stV hs) (k3 x.1)=some (.str x.2):=Qo (f:=λx:Sp3×Str=>(k3 x.1,V.str x.2)) (by
  have:=R.nd1
  rw[Qag,Qbh] at this
  rw[Qag,Qbh]
  exact this.imp λ{a b} h e=>h (Fo e)) hi
 have R1:=R.same s1
 obtain⟨dx1,hp1⟩:=R1.ins
 have g:=Gf.t (k:=k3 x.1) R1.st (s1 _ _ hb)
 rw[hv] at g
 exact⟨_,rfl,p,C,dx1,_,_,rfl,hp1,T.cl,T.Ib,Jf pl d1 d2 d3,_,rfl,d1,_,rfl,g,q b x rfl hb hx' _ s1⟩
theorem YM {ca:Addr} (c:Gz K C "take_out" "Wires.take_out" HW Ds) (T:Tw K mg op oe kd wk C) (Jx:BZ P w K mg base C "check_spot" 3 Df (WD C ca)):BZ P w K mg base C "take_out" 4 Ds (Wx C ca):=by
 refine c.Ms QX (λvs H Q E h=>?_) (λX f cdv A outer s H vs Q E eX hx hr h=>?_)
 ·obtain⟨p,pl,d1,d2,d3,hs,fl,v,rfl,_⟩:=h
  rfl
 subst eX
 obtain⟨p,pl,d1,d2,d3,hs,fl,v,rfl,R,n12,th,q,qE⟩:=h
 refine⟨_,(Ag (Bg (Dm (pv 0) T.cl Jx hr hx (Aa (pv 1) Ab)))
 (Ai (Ei (CZ hr) (Jb (pv 0) rfl) (pv 1) Ja rfl))),?_⟩
 obtain⟨dx,hp⟩:=R.ins
 refine⟨_,rfl,p,dx,_,rfl,hp,fno (by trivial),_,rfl,p,pl,d1,d2,d3,hs,fl,v,rfl,R,th,(λhin H1 s1=>?_),qE⟩
 obtain⟨b,s',rfl,hb,hin⟩:=hin
 have R1:=R.same s1
 obtain⟨dx1,hp1⟩:=R1.ins
 obtain⟨kvs,hk,hf⟩:=R1.fi
 have lk:=QbR hf
 have l2:=R.l2
 have npd:p≠d2:=λz=>by rw[z,hk] at hp1;cases hp1
 have nt:∀zs,H1 d2≠some (.tup zs):=λzs z=>by rw[hk] at z;cases z
 refine⟨_,rfl,p,C,dx1,_,_,rfl,hp1,T.cl,T.Ju,KD pl d1 d2 d3,_,rfl,d2,_,rfl,Gu.t (k:=k3 s') hk (s1 _ _ hb) (Ao (by omega)),?_⟩
 have hold:∃x∈kvs,x.1=k3 s':=by
  obtain⟨y,hy,e⟩:=Qca.mp hin
  have:k3 y.1∈kvs.map (·.1):=by rw[Jy hf];exact Qca.mpr ⟨y,hy,rfl⟩
  obtain⟨kv,hkv,ekv⟩:=Qca.mp this
  exact⟨kv,hkv,by rw[ekv,e]⟩
 rw[Oa hold]
 have sT:=Am.upd (o:=.dT (kvs.map λkv=>if kv.1=k3 s' then (kv.1,V.non) else kv)) nt
 refine q b s' rfl hb hin _ ⟨⟨dx1,by rw[Al npd];exact hp1⟩,by rw[Al n12];exact R1.st,⟨_,Ac,RW (s:=s') (v:=.non) (o:=none) rfl (Paired.Az hf λ_ _ z=>z.tups sT)⟩,R.nd1,by rw[Fq];exact R.nd2,R.l1,by rw[K8];exact l2⟩ ((Ah.of s1).trans Ah.upd)
theorem gH {ca:Addr} (c:Gz K C "put_in" "Wires.put_in" Jq Ej) (T:Tw K mg op oe kd wk C) (Jx:BZ P w K mg base C "check_spot" 3 Df (WD C ca)):BZ P w K mg base C "put_in" 4 Ej (bA C ca):=by
 refine c.Ms SM (λvs H Q E h=>?_) (λX f cdv A outer s H vs Q E eX hx hr h=>?_)
 ·obtain⟨p,pl,d1,d2,d3,hs,fl,v,k,x,rfl,_⟩:=h
  rfl
 subst eX
 obtain⟨p,pl,d1,d2,d3,hs,fl,v,k,x,rfl,R,n12,th,q,qE⟩:=h
 refine⟨_,(Ag (Bg (Dm (pv 0) T.cl Jx hr hx (Aa (pv 1) Ab)))
 (Ai (Ei (CZ hr) (Jb (pv 0) rfl) (pv 1) (Bh (Aa (pv 2) (Aa (pv 3) Ab))) rfl))),?_⟩
 obtain⟨dx,hp⟩:=R.ins
 refine⟨_,rfl,p,dx,_,rfl,hp,fno (by trivial),_,rfl,p,pl,d1,d2,d3,hs,fl,v,rfl,R,th,(λhin H0 s0=>?_),qE⟩
 obtain⟨b,s',rfl,hb,hin⟩:=hin
 refine⟨_,rfl,_,rfl,Ar (by show 2<=1000;decide),λt ht=>?_⟩
 have s1:Same H (upd H0 t (.tup [.str k,.int x])):=s0.trans (Af ht _)
 have ht1:(upd H0 t (.tup [.str k,.int x])) t=some (.tup [.str k,.int x]):=Ac
 generalize upd H0 t (.tup [.str k,.int x])=H1 at *
 have R1:=R.same s1
 obtain⟨dx1,hp1⟩:=R1.ins
 obtain⟨kvs,hk,hf⟩:=R1.fi
 have lk:=QbR hf
 have l2:=R.l2
 have npd:p≠d2:=λz=>by rw[z,hk] at hp1;cases hp1
 have nt:∀zs,H1 d2≠some (.tup zs):=λzs z=>by rw[hk] at z;cases z
 refine⟨_,rfl,p,C,dx1,_,_,rfl,hp1,T.cl,T.Ju,KD pl d1 d2 d3,_,rfl,d2,_,rfl,Gu.t (k:=k3 s') hk (s1 _ _ hb) (Ao (by omega)),?_⟩
 have hold:∃x∈kvs,x.1=k3 s':=by
  obtain⟨y,hy,e⟩:=Qca.mp hin
  have:k3 y.1∈kvs.map (·.1):=by rw[Jy hf];exact Qca.mpr ⟨y,hy,rfl⟩
  obtain⟨kv,hkv,ekv⟩:=Qca.mp this
  exact⟨kv,hkv,by rw[ekv,e]⟩
 rw[Oa hold]
 have sT:=Am.upd (o:=.dT (kvs.map λkv=>if kv.1=k3 s' then (kv.1,V.ref t) else kv)) nt
 refine q b s' rfl hb hin _ ⟨⟨dx1,by rw[Al npd];exact hp1⟩,by rw[Al n12];exact R1.st,⟨_,Ac,RW (s:=s') (v:=.ref t) (o:=some (k,x)) (show HeldAt _ (.ref t) (some (k,x)) from⟨t,rfl,sT _ _ ht1⟩) (Paired.Az hf λ_ _ z=>z.tups sT)⟩,R.nd1,by rw[Fq];exact R.nd2,R.l1,by rw[K8];exact l2⟩ ((Ah.of s1).trans Ah.upd)
end
theorem eO {H HH:Hp} {d:Addr} {o:Obj} {u:HO} (s:Same (upd H d (.frz o u)) HH) (h:H d=some u):Same H (upd HH d u):=λc x e=>by
 by_cases z:c=d
 ·subst z
  rw[Ac,<-h,e]
 ·rw[Al z]
  exact s _ _ (by rw[Al z];exact e)
theorem aW (fl:List (Sp3×Option (Str×Int))) (x:Sp3×Option (Str×Int)):EY (fl++[x])=EY fl++EY [x]:=by unfold EY;rw[List.filterMap_append]
theorem aX (s:Sp3):EY [(s,none)]=[]:=rfl
theorem aV (s:Sp3) (d:Str×Int):EY [(s,some d)]=[⟨s.lp,s.at_,s.n,d.1,d.2⟩]:=rfl
def hs0 (loops:List (List Place)):List (Sp3×Str):=(up (stL loops) loops.length).map λs=>(s,"whole")
def fl0 (loops:List (List Place)):List (Sp3×Option (Str×Int)):=(up (pdL loops) loops.length).map λd=>(d.spot,some (d.kind,d.addr))
theorem Ux (loops:List (List Place)):(hs0 loops).map (·.1)=up (stL loops) loops.length:=by unfold hs0;rw[Qce];exact List.map_id _
theorem QL (loops:List (List Place)):(fl0 loops).map (·.1)=(up (pdL loops) loops.length).map Sd.spot:=by unfold fl0;rw[Qce];rfl
theorem Wr {loops:List (List Place)} (ok:Ep loops):(up (stL loops) loops.length).length<=200:=by
 have:=Ez (f:=stL loops) (c:=49) (Zx ok) loops.length
 have:=ok.hi
 omega
theorem jj {loops:List (List Place)} (ok:Ep loops):(up (pdL loops) loops.length).length<=200:=by
 have:=Ez (f:=pdL loops) (c:=48) (Z1 ok) loops.length
 have:=ok.hi
 omega
theorem vW {loops:List (List Place)} (ok:Ep loops):(up (gtL loops) loops.length).length<=200:=by
 have:=Ez (f:=gtL loops) (c:=14) (ak ok) loops.length
 have:=ok.hi
 omega
theorem qw {loops:List (List Place)} (ok:Ep loops):(up (stL loops) loops.length).Nodup:=ZV (rC ok)
theorem dw {loops:List (List Place)} (ok:Ep loops):((up (pdL loops) loops.length).map Sd.spot).Nodup:=ZV (c:=cd3) (by rw[Qce];exact Yl ok)
def ZP (C:Addr):Sp:=λvs H Q _=>∃p dx pl most loops zones,vs=[.ref p,.ref pl]/\H p=some (.ins C dx [])/\G6 H pl most loops zones/\∀d1 d2 d3 H',H d1=none->H d2=none->d1≠d2->WAt C H' p pl d1 d2 d3 (hs0 loops) (fl0 loops)->Ah p H H'->Q .non H'
section
variable {P:Program} {w:World} {K:PySem.W.Frag} {mg:Str->Option Value} {base:Heap} {op oe kd wk C:Addr}
theorem lW (c:Gz K C "there" "Wires.there" Km Gg) (T:Tw K mg op oe kd wk C):TV P w K mg base C "there" 1 Gg (ZD C):=by
 refine c.good Ua (λvs H Q E h=>?_) (λf cdv A outer s H vs Q E hr h=>?_)
 ·obtain⟨p,pl,d1,d2,d3,hs,fl,rfl,_⟩:=h
  rfl
 obtain⟨p,pl,d1,d2,d3,hs,fl,rfl,R,q⟩:=h
 refine⟨_,(Ai (Ba (lG rfl (Ck (N':=["spot","held"]) rfl (Bk.plain rfl (by trivial) (by trivial) (by trivial)) (gb (Jb (pv 0) rfl)) (λ_ _ _ _=>(Ik (K:=K) (n:=2) rfl rfl (Aq (Ak (i:=0) (show List.Nodup (["spot","held"]:List Str) by trivial) rfl (Or.inl rfl)) (Aq (Ak (i:=1) (show List.Nodup (["spot","held"]:List Str) by trivial) rfl (Or.inl rfl)) Bw)))) (λ_ _ _ _=>(Li (Bq rY (pv 1) Ja (BJ _)))) (λ_ _ _ _=>(Bh (Aa (pv 0) (Aa (Bo (Z9 (K:=K) rfl) (pv 1) Ae (λ_ _=>rfl)) (Aa (Bo (Z9 (K:=K) rfl) (pv 1) Ae (λ_ _=>rfl)) Ab))))))))),?_⟩
 obtain⟨dx,hp⟩:=R.ins
 obtain⟨kvs,hk,hf⟩:=R.fi
 have lk:=QbR hf
 have l2:=R.l2
 have nfz:∀o' u,H d2≠some (.frz o' u):=λo' u z=>by rw[hk] at z;cases z
 have nt:∀zs,H d2≠some (.tup zs):=λzs z=>by rw[hk] at z;cases z
 refine⟨_,rfl,p,C,dx,_,_,rfl,hp,T.cl,T.Ju,KD pl d1 d2 d3,d2,kvs,rfl,hk,λo l hl=>?_⟩
 have nl:l≠d2:=λz=>by rw[z,Ac] at hl;cases hl
 have EK:H l=none:=by rw[Al nl] at hl;exact hl
 have sT:Am H (upd H d2 (.frz o (.dT kvs))):=Am.upd nt
 refine pQ (λi σ HH=>(∃u v,σ=[u,v])/\(∃tv,HH l=some (.lst tv)/\Paired (GX HH) tv (EY (fl.take i))/\tv.length<=i)/\Same (upd H d2 (.frz o (.dT kvs))) HH) ⟨⟨none,none,rfl⟩,⟨[],Ac,.nil,Qci _⟩,Af hl _⟩ (λi σ HH _ h=>h.2.2 _ _ Ac) (λi kv p' b σ HH hkv h hp' hb=>?_) (fun σ HH h=>?_)
 ·obtain⟨⟨u,v,rfl⟩,⟨tv,e1,e2,e3⟩,s1⟩:=h
  obtain⟨x,hx,hfx⟩:=Paired.Ci hf hkv
  have hi:=(Qai.mp hkv).1
  have t1:=Af hp' (.tup [.ref b,kv.2])
  have et:EY (fl.take (i+1))=EY (fl.take i)++EY [x]:=by rw[Qcq hx,aW]
  refine⟨p',_,rfl,SqT.of Ac,rfl,_,_,rfl,_,_,rfl,rfl,?_⟩
  refine⟨_,rfl,rfl,_,rfl,?_⟩
  obtain⟨k1,k2⟩:=hfx
  obtain⟨xs,xo⟩:=x
  cases xo with
  | none=>
   have k2:kv.2=.non:=k2
   rw[k2]
   refine Cr ⟨⟨_,_,rfl⟩,⟨tv,?_,?_,by omega⟩,?_⟩
   ·rw[k2] at t1
    exact t1 _ _ e1
   ·rw[et,aX,QbD]
    rw[k2] at t1
    exact Paired.Az e2 λ_ _ z=>z.tups (Am.of t1)
   ·rw[k2] at t1
    exact s1.trans t1
  | some d=>
   obtain⟨t,k2,ht⟩ : ∃t,kv.2=.ref t/\H t=some (.tup [.str d.1,.int d.2]):=k2
   rw[k2] at t1 ⊢
   have s2:=s1.trans t1
   have ht1:=s2 _ _ (sT _ _ ht)
   have hb1:=t1 _ _ hb
   rw[k1] at hb1
   refine Ca ⟨_,rfl,_,rfl,t,_,_,_,rfl,rfl,SqT.of ht1,rfl,_,rfl,t,_,_,_,rfl,rfl,SqT.of ht1,rfl,Ar (by show 3<=1000;decide),λtt htt=>?_⟩
   have t2:=Af htt (.tup [.ref b,.str d.1,.int d.2])
   have e1':=t2 _ _ (t1 _ _ e1)
   have ntl:∀zs,(upd (upd HH p' (.tup [.ref b,.ref t])) tt (.tup [.ref b,.str d.1,.int d.2])) l≠some (.tup zs):=λzs z=>by rw[e1'] at z;cases z
   have sL:=Am.upd (o:=.lst (tv++[.ref tt])) ntl
   refine⟨tv,e1',Ao (by omega),⟨_,_,rfl⟩,⟨tv++[.ref tt],Ac,?_,by rw[QaM];show _+1<=_;omega⟩,(s2.trans t2).Bt Ah.upd hl⟩
   rw[et,aV]
   exact Qck ⟨tt,b,rfl,sL _ _ Ac,sL _ _ (t2 _ _ hb1)⟩ (Paired.Az e2 λ_ _ z=>(z.tups (Am.of (t1.trans t2))).tups sL)
 ·obtain⟨_,⟨tv,e1,e2,e3⟩,s1⟩:=h
  rw[lk,Qbo] at e2
  have hfz:=s1 _ _ Ac
  have ntz:∀zs,HH d2≠some (.tup zs):=λzs z=>by rw[hfz] at z;cases z
  exact⟨d2,o,kvs,hfz,nfz,q l tv _ EK (by rw[Al nl];exact e1) (Paired.Az e2 λ_ _ z=>z.tups (Am.upd ntz)) (eO s1 hk)⟩
theorem mz (F:∃f fd,Fun K "__init__" "Wires.__init__" Ia f fd/\Mk K C f/\Binds K fd Em []) (T:Tw K mg op oe kd wk C) (Y6:Good P w K mg base "is_let_by" 10 Ho Qw) (Y0:Good P w K mg base "stretches" 1 Hi qx) (GQ:Good P w K mg base "devices" 2 Gb Sy) (iQ:Good P w K mg base "openers" 1 JT qy):dW P w K mg base C 11 Em (ZP C):=by
 obtain⟨f,fd,F,Mk,b⟩:=F
 refine⟨f,fd,Mk,b,F.ok QZ (λvs H Q E h=>?_) (λcdv A outer s H vs Q E hr h=>?_)⟩
 ·obtain⟨p,dx,pl,most,loops,zones,rfl,_⟩:=h
  rfl
 obtain⟨p,dx,pl,most,loops,zones,rfl,hp,pa,q⟩:=h
 refine⟨_,(Ag (BP (Fe (Fd (Ax Y6 hr (Aa (pv 1) Ab)))) (Ai lD) BR)
 (Ag (QC (pv 0) (pv 1) rfl)
 (Ag (QC (pv 0) (PJ (CZ hr) (N':=["stretch"]) rfl (Bk.plain rfl (by trivial) (by trivial) (by trivial)) (Dr (Ax Y0 hr (Aa (pv 1) Ab))) (λ_ _ _ _=>(Ak (i:=0) (show List.Nodup (["stretch"]:List Str) by trivial) rfl (Or.inl rfl))) (λ_ _ _ _=>CJ) (λ_ _ _ _=>(pv 0)) (λ_ _ _ _=>Bf)) rfl)
 (Ag (QC (pv 0) (PJ (CZ hr) (N':=["spot","kind","address"]) rfl (Bk.plain rfl (by trivial) (by trivial) (by trivial)) (Dr (Ax GQ hr (Aa (pv 1) Ab))) (λ_ _ _ _=>(Ik (K:=K) (n:=3) rfl rfl (Aq (Ak (i:=0) (show List.Nodup (["spot","kind","address"]:List Str) by trivial) rfl (Or.inl rfl)) (Aq (Ak (i:=1) (show List.Nodup (["spot","kind","address"]:List Str) by trivial) rfl (Or.inl rfl)) (Aq (Ak (i:=2) (show List.Nodup (["spot","kind","address"]:List Str) by trivial) rfl (Or.inl rfl)) Bw))))) (λ_ _ _ _=>CJ) (λ_ _ _ _=>(pv 0)) (λ_ _ _ _=>(Bh (Aa (pv 1) (Aa (pv 2) Ab))))) rfl)
 (Ai (QC (pv 0) (PJ (CZ hr) (N':=["opener"]) rfl (Bk.plain rfl (by trivial) (by trivial) (by trivial)) (Dr (Ax iQ hr (Aa (pv 1) Ab))) (λ_ _ _ _=>(Ak (i:=0) (show List.Nodup (["opener"]:List Str) by trivial) rfl (Or.inl rfl))) (λ_ _ _ _=>CJ) (λ_ _ _ _=>(pv 0)) (λ_ _ _ _=>Et)) rfl)))))),?_⟩
 have ok:=pa.ok
 have ntp:∀zs,H p≠some (.tup zs):=λzs z=>by rw[hp] at z;cases z
 refine⟨_,rfl,pl,most,loops,zones,rfl,pa,λH0 s0=>⟨_,rfl,Cr ?_⟩⟩
 refine⟨_,rfl,_,rfl,p,C,dx,_,_,rfl,s0 _ _ hp,T.cl,T.gR,(by show 0 < 1000;decide),Qg (by show _∉([]:List Str);decide +kernel),λH1 h1 s1=>?_⟩
 have r1:Ah p H H1:=(Ah.of s0).trans s1
 have pa1:=pa.tups (r1.tup ntp)
 refine⟨_,rfl,pl,loops,rfl,pa1.plan,ok,λla xa H2 hla hxa hpa s2=>⟨la,rfl,⟨_,SqL.of hxa⟩,λd1 f1=>?_⟩⟩
 have lxa:=QbR hpa
 have zB:=Wr ok
 have nda:=qw ok
 refine Ng (xs:=xa) (λi σ HH=>(∃u,σ=[u])/\HH d1=some (.dT (stV (((up (stL loops) loops.length).take i).map λs=>(s,"whole"))))/\Same H2 HH) ⟨⟨_,rfl⟩,Ac,Af f1 _⟩ (λi σ HH _ h=>SqL.of (h.2.2 _ _ hxa)) (λi x σ HH hx h=>?_) (fun σ HH h=>?_)
 ·obtain⟨⟨u,rfl⟩,e1,e2⟩:=h
  obtain⟨sp,hsp,t,rfl,ht⟩:=Paired.Ci hpa hx
  have hi:=(Qai.mp hx).1
  unfold G5
  dsimp only
  refine Ca ⟨_,rfl,_,k3 sp,t,e1,rfl,e2 _ _ ht,Ao (by unfold stV;rw[Qbx,Qbx,Qbp];omega),⟨_,rfl⟩,?_,e2.Bt Ah.upd f1⟩
  rw[Ac,Ld,Qcq hsp]
  ·unfold stV
   rw[Qby,Qby]
   rfl
  ·refine Ji λy hy e=>?_
   unfold stV at hy
   rw[Qce] at hy
   obtain⟨z,hz,rfl⟩:=Qca.mp hy
   exact Ur nda hsp z hz (Fo e)
 obtain⟨_,e1,e2⟩:=h
 rw[lxa,Qbo] at e1
 have e1:HH d1=some (.dT (stV (hs0 loops))):=e1
 have r2:Ah p H HH:=r1.trans (Ah.of (s2.trans e2))
 refine⟨_,rfl,p,C,dx,_,_,rfl,e2 _ _ (s2 _ _ h1),T.cl,T.Ib,(by show 1 < 1000;decide),Qg (by show _∉(["plan"]:List Str);decide +kernel),λH3 h3 s3=>?_⟩
 have np1:d1≠p:=λz=>by rw[z,s2 _ _ h1] at f1;cases f1
 have u1:=s3 _ _ e1 np1
 have r3:Ah p H H3:=r2.trans s3
 have f1':H d1=none:=by
  cases e:H d1 with
  | none=>rfl
  | some v=>have:=r1.trans (Ah.of s2) _ _ e np1;rw[f1] at this;cases this
 clear s3 e1 e2 r2
 have pa3:=pa.tups (r3.tup ntp)
 refine⟨_,rfl,pl,loops,rfl,pa3.plan,ok,λlb xb H4 hlb hxb hpb s4=>⟨lb,rfl,⟨_,SqL.of hxb⟩,λd2 f2=>?_⟩⟩
 have lxb:=QbR hpb
 have zA:=jj ok
 have ndb:=dw ok
 refine Ng (xs:=xb) (λi σ HH=>(∃u v t,σ=[u,v,t])/\(∃kvs,HH d2=some (.dT kvs)/\Paired (Dp HH) kvs (((up (pdL loops) loops.length).take i).map λd=>(d.spot,some (d.kind,d.addr))))/\Same H4 HH) ⟨⟨_,_,_,rfl⟩,⟨[],Ac,.nil⟩,Af f2 _⟩ (λi σ HH _ h=>SqL.of (h.2.2 _ _ hxb)) (λi x σ HH hx h=>?_) (fun σ HH h=>?_)
 ·obtain⟨⟨u,v,t,rfl⟩,⟨kvs,e1,e3⟩,e2⟩:=h
  obtain⟨d,hd,tt,uu,rfl,h5,h6⟩:=Paired.Ci hpb hx
  have hi:=(Qai.mp hx).1
  have lk:=QbR e3
  rw[Qbx,Qbp] at lk
  refine⟨tt,_,rfl,SqT.of (e2 _ _ h5),rfl,_,_,rfl,_,_,rfl,_,_,rfl,rfl,?_⟩
  refine Ca ⟨_,rfl,_,rfl,_,rfl,Ar (by show 2<=1000;decide),λtn htn=>?_⟩
  have t1:=Af htn (.tup [.str d.kind,.int d.addr])
  have e1':=t1 _ _ e1
  have ntd:∀zs,(upd HH tn (.tup [.str d.kind,.int d.addr])) d2≠some (.tup zs):=λzs z=>by rw[e1'] at z;cases z
  refine⟨kvs,k3 d.spot,uu,e1',rfl,t1 _ _ (e2 _ _ h6),Ao (by omega),⟨_,_,_,rfl⟩,⟨_,Ac,?_⟩,(e2.trans t1).Bt Ah.upd f2⟩
  rw[Ld,Qcq hd,Qby]
  ·have sL:=Am.upd (o:=.dT (kvs++[(k3 d.spot,V.ref tn)])) ntd
   exact Qck ⟨rfl,⟨tn,rfl,sL _ _ Ac⟩⟩ (Paired.Az e3 λ_ _ z=>(z.tups (Am.of t1)).tups sL)
  ·refine Ji λy hy e=>?_
   have:y.1∈kvs.map (·.1):=Qca.mpr ⟨y,hy,rfl⟩
   rw[Jy e3,Qce] at this
   obtain⟨z,hz,ez⟩:=Qca.mp this
   exact JG ndb hd z hz (Fo (by rw[<-e,<-ez];rfl))
 obtain⟨_,⟨kvs,e1,e3⟩,e2⟩:=h
 rw[lxb,Qbo] at e3
 have e3:Paired (Dp HH) kvs (fl0 loops):=e3
 have h4:=e2 _ _ (s4 _ _ h3)
 have AU:∀zs,HH p≠some (.tup zs):=λzs z=>by rw[h4] at z;cases z
 have u2:=e2 _ _ (s4 _ _ u1)
 refine⟨_,rfl,p,C,dx,_,_,rfl,h4,T.cl,T.Ju,(by show 2 < 1000;decide),Qg (by show _∉(["plan","states"]:List Str);decide +kernel),λH5 h5 s5=>?_⟩
 have np2:d2≠p:=λz=>by rw[z,s4 _ _ h3] at f2;cases f2
 have n12:d1≠d2:=Av (s4 _ _ u1) f2
 have u3:=s5 _ _ u2 np1
 have v3:=s5 _ _ e1 np2
 have w3:Paired (Dp H5) kvs (fl0 loops):=Paired.Az e3 λ_ _ z=>z.tups (s5.tup AU)
 have r5:Ah p H H5:=r3.trans ((Ah.of (s4.trans e2)).trans s5)
 have f2':H d2=none:=by
  cases e:H d2 with
  | none=>rfl
  | some v=>have:=r3.trans (Ah.of s4) _ _ e np2;rw[f2] at this;cases this
 clear s5 e1 e2 e3 u1 u2 h3 h4
 have pa5:=pa.tups (r5.tup ntp)
 have Hc:∀zs,H5 p≠some (.tup zs):=λzs z=>by rw[h5] at z;cases z
 refine⟨_,rfl,pl,loops,rfl,pa5.plan,ok,λlc xc H6 hlc hxc hpc s6=>⟨lc,rfl,⟨_,SqL.of hxc⟩,λd3 f3=>?_⟩⟩
 have lxc:=QbR hpc
 have G2:=vW ok
 refine Ng (xs:=xc) (λi σ HH=>(∃u,σ=[u])/\(∃kvs,HH d3=some (.dT kvs)/\kvs.length<=i)/\Same H6 HH) ⟨⟨_,rfl⟩,⟨[],Ac,Qci _⟩,Af f3 _⟩ (λi σ HH _ h=>SqL.of (h.2.2 _ _ hxc)) (λi x σ HH hx h=>?_) (fun σ HH h=>?_)
 ·obtain⟨⟨u,rfl⟩,⟨kvs',e1,e3⟩,e2⟩:=h
  obtain⟨g,hg,t,rfl,ht⟩:=Paired.Ci hpc hx
  have hi:=(Qai.mp hx).1
  unfold G5
  dsimp only
  have:=Ht kvs' [Sum.inl g.lp,Sum.inl g.at_] (.bl false)
  exact Ca ⟨_,rfl,kvs',[.inl g.lp,.inl g.at_],t,e1,rfl,e2 _ _ ht,Ao (by omega),⟨_,rfl⟩,⟨_,Ac,by omega⟩,e2.Bt Ah.upd f3⟩
 obtain⟨_,⟨kvs',e1,e3⟩,e2⟩:=h
 have s7:=s6.trans e2
 refine⟨_,rfl,p,C,dx,_,_,rfl,s7 _ _ h5,T.cl,T.gU,(by show 3 < 1000;decide),Qg (by show _∉(["plan","states","filled"]:List Str);decide +kernel),λH8 h8 s8=>?_⟩
 have AT:∀zs,HH p≠some (.tup zs):=λzs z=>by rw[s7 _ _ h5] at z;cases z
 exact q d1 d2 d3 H8 f1' f2' n12 ⟨⟨dx,h8⟩,s8 _ _ (s7 _ _ u3) np1,⟨kvs,s8 _ _ (s7 _ _ v3) np2,Paired.Az w3 λ_ _ z=>(z.tups (Am.of s7)).tups (s8.tup AT)⟩,by rw[Ux];exact nda,by rw[QL];exact ndb,by unfold hs0;rw[Qbx];exact zB,by unfold fl0;rw[Qbx];exact zA⟩ (r5.trans ((Ah.of s7).trans s8))
end
abbrev Mj:Stmt:=top 60
abbrev JX:List Str:=["_law_plan_here"]
theorem Dv:Ay ["_law_plan_here","_law_wires","_law_spots","_law_loop_here","_law_at","_law_kind_here","_law_address","_law_spur","_law_way"] JX (Aj Mj):=⟨rfl,rfl,rfl,by trivial,rfl,by trivial,by trivial⟩
def gF (d:Sd):Sp3×Option (Str×Int):=(d.spot,some (d.kind,d.addr))
theorem Qq {α : Type} {f:Nat->List α} {k:Nat}:∀{n:Nat},k<=n->up f k <+: up f n
 | 0,h=>by rw[show k=0 by omega];exact List.prefix_refl _
 | n+1,h=>by
  by_cases e:k=n+1
  ·rw[e];exact List.prefix_refl _
  ·rw[CN]
   exact List.IsPrefix.trans (Qq (by omega)) (List.prefix_append _ _)
theorem Wh {α : Type} {f:Nat->List α} {k n:Nat} (h:k < n) {l:List α} (hl:l <+: f k):up f k++l <+: up f n:=by
 refine List.IsPrefix.trans ?_ (Qq (f:=f) (show k+1<=n by omega))
 rw[CN]
 exact (List.prefix_append_right_inj _).mpr hl
theorem Sw (lp a:Int):∀(n:Nat) (ds:List Dev) (m:Nat),BX lp a n (ds.take m) <+: BX lp a n ds
 | _,[],m=>by rw[List.take_nil];exact List.prefix_refl _
 | n,d::r,0=>List.nil_prefix
 | n,d::r,m+1=>by
  rw[List.take_succ_cons]
  show _::BX lp a (n+1) (r.take m) <+: _::BX lp a (n+1) r
  exact List.cons_prefix_cons.mpr ⟨rfl,Sw lp a (n+1) r m⟩
theorem Z0 {l m:List Sd} {e:Sd} (h:l++[e] <+: m) (nd:(m.map Sd.spot).Nodup):∀z∈l,z.spot≠e.spot:=λz hz=>by
 have:=(List.Sublist.map Sd.spot h.sublist).nodup nd
 rw[Qby] at this
 exact (Qbn.mp this).2.2 z.spot (Qca.mpr ⟨z,hz,rfl⟩) e.spot (QaN ..)
theorem Ye {H H':Hp} {kvs:List (List Key×V)} {l:List Sd} {e:Sd} {v:V} (h:Paired (Dp H) kvs (l.map gF)) (hn:∀z∈l,z.spot≠e.spot) (hv:HeldAt H' v (some (e.kind,e.addr))) (t:Am H H'):putK kvs (k3 e.spot) v=kvs++[(k3 e.spot,v)]/\Paired (Dp H') (kvs++[(k3 e.spot,v)]) ((l++[e]).map gF):=by
 refine⟨Ld _ (Ji λy hy ey=>?_),?_⟩
 ·have:y.1∈kvs.map (·.1):=Qca.mpr ⟨y,hy,rfl⟩
  rw[Jy h,Qce] at this
  obtain⟨z,hz,ez⟩:=Qca.mp this
  exact hn z hz (Fo (by rw[<-ey,<-ez];rfl))
 ·rw[Qby]
  exact Qck ⟨rfl,hv⟩ (Paired.Az h λ_ _ z=>z.tups t)
def ZM:Sp:=λvs H Q _=>∃pl most loops zones,vs=[.ref pl]/\G6 H pl most loops zones/\∀t l d xs kvs H',H l=none->H d=none->H' t=some (.tup [.ref l,.ref d])->H' l=some (.lst xs)->Paired (Fx H') xs (up (stL loops) loops.length)->H' d=some (.dT kvs)->Paired (Dp H') kvs ((up (pdL loops) loops.length).map gF)->Same H H'->Q (.ref t) H'
structure Two (H0 H:Hp) (l d:Addr) (W:List Sp3) (S:List Sd):Prop where
 ls:∃xs,H l=some (.lst xs)/\Paired (Fx H) xs W
 ds:∃kvs,H d=some (.dT kvs)/\Paired (Dp H) kvs (S.map gF)
 sm:Same H0 H
theorem Two.same {H0 H H':Hp} {l d:Addr} {W:List Sp3} {S:List Sd} (h:Two H0 H l d W S) (s:Same H H'):Two H0 H' l d W S:=by
 obtain⟨xs,e1,e2⟩:=h.ls
 obtain⟨kvs,e3,e4⟩:=h.ds
 exact⟨⟨xs,s _ _ e1,Paired.Az e2 λ_ _ z=>z.tups (Am.of s)⟩,⟨kvs,s _ _ e3,Paired.Az e4 λ_ _ z=>z.tups (Am.of s)⟩,h.sm.trans s⟩
theorem Two.put {H0 H:Hp} {l d t u:Addr} {W:List Sp3} {S:List Sd} {e:Sd} {m:List Sd} (h:Two H0 H l d W S) (hd:H0 d=none) (nld:l≠d) (hpre:S++[e] <+: m) (nd:(m.map Sd.spot).Nodup) (hm:m.length<=200) (ht:H t=some (.tup [.int e.lp,.int e.at_,.int e.n])) (hu:H u=some (.tup [.str e.kind,.int e.addr])) :
  ∃H',Gu H d (.ref t) (.ref u) H'/\Two H0 H' l d W (S++[e]):=by
 obtain⟨xs,e1,e2⟩:=h.ls
 obtain⟨kvs,e3,e4⟩:=h.ds
 have lk:=QbR e4
 rw[Qbx] at lk
 have ll:=hpre.length_le
 rw[QaM] at ll
 have nt:∀zs,H d≠some (.tup zs):=λzs z=>by rw[e3] at z;cases z
 have hsz:kvs.length < sizeLine:=Ao (by omega)
 have sT:∀o,Am H (upd H d o):=λo=>Am.upd nt
 obtain⟨g1,_⟩:=Ye (H':=H) (v:=.ref u) e4 (Z0 hpre nd) ⟨u,rfl,hu⟩ (Am.of (Same.refl H))
 refine⟨_,Gu.t (k:=k3 e.spot) e3 ht hsz,?_⟩
 rw[g1]
 have g2:=(Ye (H':=upd H d (.dT (kvs++[(k3 e.spot,.ref u)]))) (v:=.ref u) e4 (Z0 hpre nd) ⟨u,rfl,sT _ _ _ hu⟩ (sT _)).2
 exact⟨⟨xs,by rw[Al nld];exact e1,Paired.Az e2 λ_ _ z=>z.tups (sT _)⟩,⟨_,Ac,g2⟩,h.sm.Bt Ah.upd hd⟩
section
variable {P:Program} {w:World} {K:PySem.W.Frag} {mg:Str->Option Value} {base:Heap} {op oe kd wk C:Addr}
theorem mj (c:Code K mg "_law_lists" Mj JX) (T:Tw K mg op oe kd wk C):Good P w K mg base "_law_lists" 1 JX ZM:=by
 have sc:=Dv
 refine c.good Dv (λvs H Q E h=>?_) (λf cdv A outer s H vs Q E hr h=>?_)
 ·obtain⟨pl,most,loops,zones,rfl,_⟩:=h
  rfl
 obtain⟨pl,most,loops,zones,rfl,pa,q⟩:=h
 refine⟨_,(Ag (Bb (i:=1) Dv.nd rfl (Or.inl rfl) (BL Ab))
 (Ag (Bb (i:=2) Dv.nd rfl (Or.inl rfl) lK)
 (Ag (BW QbA rfl (Cq rfl T.range (Aa (Aw Bs rfl T.len CW (Aa (Bo Cm (pv 0) Ae (λ_ _=>rfl)) Ab)) Ab)) (Ak (i:=3) Dv.nd rfl (Or.inr rfl))
 (Ag (Bg (CG Qaq Qam Qan Cd (pv 1) (Aa (Bh (Aa (pv 3) (Aa Ae (Aa Ae Ab)))) Ab)))
 (Ai (BW QbA rfl (Cq rfl T.range (Aa (Aw Bs rfl T.len CW (Aa (Bo Cm (Bo Cm (pv 0) Ae (λ_ _=>rfl)) (pv 3) (λ_ _=>rfl)) Ab)) Ab)) (Ak (i:=4) Dv.nd rfl (Or.inr rfl))
 (Ag (JR (Bo Cm (Bo Cm (Bo Cm (pv 0) Ae (λ_ _=>rfl)) (pv 3) (λ_ _=>rfl)) (pv 4) (λ_ _=>rfl)) (CV rfl (Aq (Ak (i:=5) Dv.nd rfl (Or.inl rfl)) (Aq (Ak (i:=6) Dv.nd rfl (Or.inl rfl)) (Aq (Ak (i:=7) Dv.nd rfl (Or.inl rfl)) Bw)))))
 (Ag (BP (Bq qG (pv 5) Bf (BJ _)) (Ai (Ei (CZ hr) (pv 2) (Bh (Aa (pv 3) (Aa (Bd Cj (pv 4) Ae) (Aa Ae Ab)))) (Bh (Aa (pv 5) (Aa (pv 6) Ab))) rfl)) BR)
 (Ag (BW QbA rfl (Cq rfl T.range (Aa (Aw Bs rfl T.len CW (Aa (pv 7) Ab)) Ab)) (Ak (i:=8) Dv.nd rfl (Or.inl rfl))
 (Ai (Ei (CZ hr) (pv 2) (Bh (Aa (pv 3) (Aa (Bd Cj (pv 4) Ae) (Aa (Bd Cj (pv 8) Ae) Ab)))) (Bo Cm (pv 7) (pv 8) (λ_ _=>rfl)) rfl)))
 (Ai (Bg (CG Qaq Qao Qap Il (pv 1) (Aa (Ck (N':=["_law_way","_law_loop_here","_law_at"]) rfl (Bk.of (src:=[none,some 3,some 4]) (Aj Mj) ["_law_plan_here","_law_wires","_law_spots","_law_loop_here","_law_at","_law_kind_here","_law_address","_law_spur","_law_way"] rfl rfl rfl (by trivial) (by trivial) (by trivial) rfl (by trivial)) (Cq rfl T.range (Aa (Bd Cj (Aw Bs rfl T.len CW (Aa (pv 7) Ab)) Ae) Ab)) (λ_ _ _ _=>(Ak (i:=0) (show List.Nodup (["_law_way","_law_loop_here","_law_at"]:List Str) by trivial) rfl (Or.inl rfl))) (λ_ _ _ _=>CJ) (λ_ _ _ _=>(Bh (Aa (pv 1) (Aa (Bd Cj (pv 2) Ae) (Aa (pv 0) Ab)))))) Ab)))))))))))
 (Ai (Ba (Bh (Aa (pv 1) (Aa (pv 2) Ab)))))))),?_⟩
 have ok:=pa.ok
 have nd:=dw ok
 have wG:=jj ok
 have vI:=Wr ok
 obtain⟨Ls,zs,ws,zvs,f1,f2,f3,f4,f5⟩:=pa.at_
 have lw:=QbR f3
 have l3:=ok.hi
 refine⟨Ar (by show 0<=1000;decide),λl hl=>?_⟩
 refine λd hd=>?_
 have n1:=Af hl (.lst [])
 have n2:=Af hd (.dT [])
 have hd0:H d=none:=n1.free hd
 have nld:l≠d:=Av Ac hd
 have t0:Two H (upd (upd H l (.lst [])) d (.dT [])) l d [] []:=⟨⟨[],n2 _ _ Ac,.nil⟩,⟨[],Ac,.nil⟩,n1.trans n2⟩
 generalize upd (upd H l (.lst [])) d (.dT [])=H1 at *
 have s1:=t0.sm
 refine⟨_,rfl,pl,_,_,_,rfl,rfl,SqT.of (s1 _ _ f1),rfl,Ls,_,rfl,.inr (SqT.of (s1 _ _ f2)),_,rfl,by omega,by omega,?_⟩
 rw[Qbe]
 refine Dl (λk σ HH=>∃u3 u4 u5 u6 u7 u8,σ=[some (.ref pl),some (.ref l),some (.ref d),u3,u4,u5,u6,u7,u8]/\Two H HH l d (up (stL loops) k) (up (pdL loops) k)) ⟨_,_,_,_,_,_,rfl,t0⟩ (λk σ HH hk h=>?_) (fun σ HH h=>?_)
 ·obtain⟨u3,u4,u5,u6,u7,u8,rfl,tw⟩:=h
  have hwk:ws[k]?=some ws[k]:=Qal hk
  obtain⟨ps,hps,t,vs',ev,ht,hpp⟩:=Paired.Ci f3 hwk
  have lv:=QbR hpp
  have hkl:k < loops.length:=by omega
  have okl:=ok.ok ps (Qaz hps)
  have l12:=okl.hi
  have yh:stL loops k=⟨k,0,0⟩::up (st1 k ps) ps.length:=Di hps
  have yp:pdL loops k=up (pd1 k ps) ps.length:=Di hps
  obtain⟨xs,e1,e2⟩:=tw.ls
  have lx:=QbR e2
  have lst:(up (stL loops) k).length<=200:=Qcd (Qq (f:=stL loops) (Qcf hkl)).length_le vI
  refine⟨_,rfl,.inl ⟨rfl,_,SqL.of e1⟩,_,rfl,Ar (by show 3<=1000;decide),λta hta=>?_⟩
  rw[Int.zero_add]
  have a1:=Af hta (.tup [.int (k:Int),.int 0,.int 0])
  have e1a:=a1 _ _ e1
  refine⟨l,_,_,rfl,rfl,e1a,Ao (by omega),?_⟩
  have ntl:∀zs,(upd HH ta (.tup [.int (k:Int),.int 0,.int 0])) l≠some (.tup zs):=λzs z=>by rw[e1a] at z;cases z
  have sL:=Am.upd (o:=.lst (xs++[.ref ta])) ntl
  have tw1:Two H (upd (upd HH ta (.tup [.int (k:Int),.int 0,.int 0])) l (.lst (xs++[.ref ta]))) l d (up (stL loops) k++⟨k,0,0⟩::up (st1 k ps) 0) (up (pdL loops) k++up (pd1 k ps) 0):=by
   obtain⟨kvs,e3,e4⟩:=tw.ds
   refine⟨⟨_,Ac,?_⟩,⟨kvs,by rw[Al nld.symm];exact a1 _ _ e3,?_⟩,(tw.sm.trans a1).Bt Ah.upd hl⟩
   ·rw[Jl]
    exact Qck ⟨ta,rfl,sL _ _ Ac⟩ (Paired.Az e2 λ_ _ z=>(z.tups (Am.of a1)).tups sL)
   ·rw[Jl,QbD]
    exact Paired.Az e4 λ_ _ z=>(z.tups (Am.of a1)).tups sL
  generalize upd (upd HH ta (.tup [.int (k:Int),.int 0,.int 0])) l (.lst (xs++[.ref ta]))=H2 at *
  have s2:=tw1.sm
  have xM:atI ws (k:Int)=some (.ref t):=FW (by rw[hwk,ev])
  refine⟨_,rfl,pl,_,_,_,rfl,rfl,SqT.of (s2 _ _ f1),rfl,_,rfl,Ls,_,_,_,rfl,rfl,SqT.of (s2 _ _ f2),xM,t,_,rfl,.inr (SqT.of (s2 _ _ ht)),_,rfl,by omega,by omega,?_⟩
  rw[Qbe]
  refine Dl (λi σ HX=>∃u4 u5 u6 u7 u8,σ=[some (.ref pl),some (.ref l),some (.ref d),some (.int (k:Int)),u4,u5,u6,u7,u8]/\Two H HX l d (up (stL loops) k++⟨k,0,0⟩::up (st1 k ps) i) (up (pdL loops) k++up (pd1 k ps) i)) ⟨_,_,_,_,_,rfl,tw1⟩ (λi σ HX hi h=>?_) (fun σ HX h=>?_)
  ·obtain⟨u4,u5,u6,u7,u8,rfl,tx⟩:=h
   have hvi:vs'[i]?=some vs'[i]:=Qal hi
   obtain⟨p,hp,tp,up',wsp,ep,hpt,hpu,hpd⟩:=Paired.Ci hpp hvi
   have okp:=okl.ok p (Qaz hp)
   have sp3:=okp.spur
   have lwp:=QbR hpd
   have hil:i < ps.length:=by omega
   have EL:st1 (k:Int) ps i=(List.range (p.spur.length+1)).map λn:Nat=>⟨k,((1+i:Nat):Int),(n:Int)⟩:=Di hp
   have yq:pd1 (k:Int) ps i=Br k ((1+i:Nat):Int) p:=Di hp
   have s3:=tx.sm
   have DF:atI vs' ((0:Int)+(i:Int))=some (.ref tp):=by rw[Int.zero_add];exact FW (by rw[hvi,ep])
   refine⟨_,rfl,pl,_,_,_,rfl,rfl,SqT.of (s3 _ _ f1),rfl,_,rfl,Ls,_,_,_,rfl,rfl,SqT.of (s3 _ _ f2),xM,_,rfl,t,_,_,_,rfl,rfl,SqT.of (s3 _ _ ht),DF,tp,_,rfl,SqT.of (s3 _ _ hpt),rfl,_,_,rfl,_,_,rfl,_,_,rfl,rfl,?_⟩
   simp only[QaQ,QaO]
   rw[Int.zero_add]
   have hpre:∀l',l' <+: Br (k:Int) ((1+i:Nat):Int) p->(up (pdL loops) k++up (pd1 k ps) i)++l' <+: up (pdL loops) loops.length:=λl' hl'=>by
    rw[Qbd]
    refine Wh hkl ?_
    rw[yp]
    exact Wh hil (by rw[yq];exact hl')
   have e1i:((1+i:Nat):Int)=(i:Int)+1:=by omega
   refine Va (fun σ' H'=>σ'=[some (.ref pl),some (.ref l),some (.ref d),some (.int (k:Int)),some (.int (i:Int)),some (.str p.kind),some (.int p.addr),some (.ref up'),u8]/\Two H H' l d (up (stL loops) k++⟨k,0,0⟩::up (st1 k ps) i) ((up (pdL loops) k++up (pd1 k ps) i)++(if V.str p.kind=V.str "opener" then [] else [⟨k,((1+i:Nat):Int),0,p.kind,p.addr⟩]))) (fun σ' H' h=>?_) (λD' hD=>?_)
   ·obtain⟨rfl,ty⟩:=h
    have s4:=ty.sm
    refine⟨_,rfl,up',_,rfl,.inr (SqT.of (s4 _ _ hpu)),_,rfl,by omega,by omega,?_⟩
    rw[Qbe]
    refine Dl (λj σ HY=>∃u8,σ=[some (.ref pl),some (.ref l),some (.ref d),some (.int (k:Int)),some (.int (i:Int)),some (.str p.kind),some (.int p.addr),some (.ref up'),u8]/\Two H HY l d (up (stL loops) k++⟨k,0,0⟩::up (st1 k ps) i) ((up (pdL loops) k++up (pd1 k ps) i)++((if V.str p.kind=V.str "opener" then [] else [⟨k,((1+i:Nat):Int),0,p.kind,p.addr⟩])++BX k ((1+i:Nat):Int) 1 (p.spur.take j)))) ⟨_,rfl,by rw[List.take_zero];show Two _ _ _ _ _ (_++(_++[]));rw[QbD];exact ty⟩ (λj σ HY hj h=>?_) (fun σ HY h=>?_)
    ·obtain⟨u8,rfl,tz⟩:=h
     have hop:¬V.str p.kind=V.str "opener":=λz=>by
      rcases okp.form with⟨_,_,e3⟩| hk'
      ·rw[e3] at lwp
       rw[lwp] at hj
       exact absurd hj (QbI _)
      ·exact Im hk' z
     rw[if_neg hop] at tz ⊢
     have hwj:wsp[j]?=some wsp[j]:=Qal hj
     obtain⟨dv,hdv,td,etd,htd⟩:=Paired.Ci hpd hwj
     have s5:=tz.sm
     have DE:atI wsp ((0:Int)+(j:Int))=some (.ref td):=by rw[Int.zero_add];exact FW (by rw[hwj,etd])
     refine⟨_,rfl,_,rfl,up',_,_,_,rfl,rfl,SqT.of (s5 _ _ hpu),DE,_,rfl,_,rfl,_,rfl,_,_,rfl,rfl,_,rfl,_,_,rfl,rfl,Ar (by show 3<=1000;decide),λtk htk=>?_⟩
     have b1:=Af htk (.tup [.int (k:Int),.int ((i:Int)+1),.int (0+(j:Int)+1)])
     have hnew:BX (k:Int) ((1+i:Nat):Int) 1 (p.spur.take (j+1))=BX k ((1+i:Nat):Int) 1 (p.spur.take j)++[⟨k,((1+i:Nat):Int),((1+j:Nat):Int),dv.kind,dv.addr⟩]:=Mu _ _ 1 p.spur j dv hdv
     obtain⟨HZ,Oi,tz2⟩:=(tz.same b1).put (t:=tk) (u:=td) (e:=⟨k,((1+i:Nat):Int),((1+j:Nat):Int),dv.kind,dv.addr⟩) hd0 nld (m:=up (pdL loops) loops.length) (by
      have hh:=hpre (⟨k,((1+i:Nat):Int),0,p.kind,p.addr⟩::BX k ((1+i:Nat):Int) 1 (p.spur.take (j+1))) (by
       unfold Br
       rw[if_neg hop]
       exact List.cons_prefix_cons.mpr ⟨rfl,Sw _ _ 1 p.spur (j+1)⟩)
      rw[hnew] at hh
      simpa only [Qbd,List.cons_append,List.nil_append] using hh) nd wG (by
      rw[Ac]
      show _=some (HO.tup [.int (k:Int),.int ((1+i:Nat):Int),.int ((1+j:Nat):Int)])
      rw[e1i,show ((1+j:Nat):Int)=0+(j:Int)+1 by omega]) (b1 _ _ (s5 _ _ htd))
     refine⟨d,HZ,rfl,Oi,_,rfl,?_⟩
     rw[hnew,<-Qbd,<-Qbd]
     rw[<-Qbd] at tz2
     exact tz2
    ·obtain⟨u8,rfl,tz⟩:=h
     rw[lwp,Qbo] at tz
     have epl:(if V.str p.kind=V.str "opener" then [] else [(⟨k,((1+i:Nat):Int),0,p.kind,p.addr⟩ : Sd)])++BX k ((1+i:Nat):Int) 1 p.spur=pd1 (k:Int) ps i:=by
      rw[yq]
      unfold Br
      by_cases hop:V.str p.kind=V.str "opener"
      ·rw[if_pos hop,if_pos hop]
       rcases okp.form with⟨_,_,e3⟩| hk'
       ·rw[e3];rfl
       ·exact absurd hop (Im hk')
      ·rw[if_neg hop,if_neg hop];rfl
     rw[epl,Qbd,<-CN] at tz
     obtain⟨ys,e5,e6⟩:=tz.ls
     have ly:=QbR e6
     have s6:=tz.sm
     refine⟨_,rfl,.inl ⟨rfl,_,SqL.of e5⟩,_,rfl,up',_,rfl,.inr (SqT.of (s6 _ _ hpu)),_,_,rfl,rfl,_,rfl,by omega,by omega,λl2 hl2=>?_⟩
     have nl2:l≠l2:=Av e5 hl2
     have f2':H l2=none:=s6.free hl2
     rw[show ((wsp.length:Int)+1).toNat=wsp.length+1 by omega]
     refine KH (λj σ HZ=>∃u,σ=[u,some (.int (k:Int)),some (.int (i:Int))]/\(∃zs,HZ l2=some (.lst zs)/\Paired (Fx HZ) zs ((List.range j).map λn:Nat=>⟨k,((1+i:Nat):Int),(n:Int)⟩))/\Same HY HZ) ⟨_,rfl,⟨[],Ac,.nil⟩,Af hl2 _⟩ (λj σ HZ hj h=>?_) (fun σ HZ h=>?_)
     ·obtain⟨u,rfl,⟨zs',e7,e8⟩,e9⟩:=h
      have lz:=QbR e8
      rw[Qbx,Qbj] at lz
      refine⟨_,rfl,_,rfl,_,_,rfl,rfl,_,rfl,Ar (by show 3<=1000;decide),λtk htk=>?_⟩
      have b1:=Af htk (.tup [.int (k:Int),.int ((i:Int)+1),.int (0+(j:Int))])
      have e7':=b1 _ _ e7
      have AV:∀zs,(upd HZ tk (.tup [.int (k:Int),.int ((i:Int)+1),.int (0+(j:Int))])) l2≠some (.tup zs):=λzs z=>by rw[e7'] at z;cases z
      have sL:=Am.upd (o:=.lst (zs'++[.ref tk])) AV
      refine⟨zs',e7',Ao (by omega),_,rfl,⟨_,Ac,?_⟩,(e9.trans b1).Bt Ah.upd hl2⟩
      rw[List.range_succ,Qby]
      refine Qck ⟨tk,rfl,?_⟩ (Paired.Az e8 λ_ _ z=>(z.tups (Am.of b1)).tups sL)
      rw[sL _ _ Ac]
      show _=some (HO.tup [.int (k:Int),.int ((1+i:Nat):Int),.int (j:Int)])
      rw[e1i,Int.zero_add]
     ·obtain⟨u,rfl,⟨zs',e7,e8⟩,e9⟩:=h
      have lz:=QbR e8
      rw[Qbx,Qbj] at lz
      have e5':=e9 _ _ e5
      have Hd:ys.length<=200:=by
       rw[ly]
       refine Qcd (List.IsPrefix.length_le (l₂:=up (stL loops) loops.length) ?_) vI
       refine Wh hkl ?_
       rw[yh]
       exact List.cons_prefix_cons.mpr ⟨rfl,Qq (Qcf hil)⟩
      refine⟨l,l2,_,_,rfl,rfl,e5',e7,Ar (by rw[lz];omega),?_⟩
      have ntl:∀zs,HZ l≠some (.tup zs):=λzs z=>by rw[e5'] at z;cases z
      have sL:=Am.upd (o:=.lst (ys++zs')) ntl
      obtain⟨kvs,e10,e11⟩:=tz.ds
      refine⟨_,_,_,_,_,rfl,⟨_,Ac,?_⟩,⟨kvs,by rw[Al nld.symm];exact e9 _ _ e10,Paired.Az e11 λ_ _ z=>(z.tups (Am.of e9)).tups sL⟩,(s6.trans e9).Bt Ah.upd hl⟩
      rw[CN,EL]
      rw[<-List.cons_append,<-Qbd]
      refine Paired.app (Paired.Az e6 λ_ _ z=>(z.tups (Am.of e9)).tups sL) ?_
      rw[lwp] at e8
      exact Paired.Az e8 λ_ _ z=>z.tups sL
   ·refine⟨_,rfl,rfl,_,rfl,?_⟩
    by_cases hop:V.str p.kind=V.str "opener"
    ·rw[show (!decide (V.str p.kind=V.str "opener"))=false by rw[QbM hop];rfl]
     refine Cr (hD _ _ ⟨rfl,?_⟩)
     rw[if_pos hop,QbD]
     exact tx
    ·rw[show (!decide (V.str p.kind=V.str "opener"))=true by rw[QbC hop];rfl]
     refine Ca ⟨_,rfl,_,rfl,Ar (by show 2<=1000;decide),λtu htu=>⟨_,rfl,_,rfl,_,rfl,_,_,rfl,rfl,Ar (by show 3<=1000;decide),λtk htk=>?_⟩⟩
     have b1:=Af htu (.tup [.str p.kind,.int p.addr])
     have b2:=Af htk (.tup [.int (k:Int),.int ((i:Int)+1),.int 0])
     obtain⟨HZ,Oi,tz2⟩:=(tx.same (b1.trans b2)).put (t:=tk) (u:=tu) (e:=⟨k,((1+i:Nat):Int),0,p.kind,p.addr⟩) hd0 nld (m:=up (pdL loops) loops.length) (by
      refine hpre _ ?_
      unfold Br
      rw[if_neg hop]
      exact List.cons_prefix_cons.mpr ⟨rfl,List.nil_prefix⟩) nd wG (by
      rw[Ac]
      show _=some (HO.tup [.int (k:Int),.int ((1+i:Nat):Int),.int 0])
      rw[e1i]) (b2 _ _ Ac)
     refine⟨d,HZ,rfl,Oi,hD _ _ ⟨rfl,?_⟩⟩
     rw[if_neg hop]
     exact tz2
  ·obtain⟨u4,u5,u6,u7,u8,rfl,tx⟩:=h
   refine⟨_,_,_,_,_,_,rfl,?_⟩
   rw[lv] at tx
   rw[CN,CN,yh,yp]
   exact tx
 ·obtain⟨u3,u4,u5,u6,u7,u8,rfl,tw⟩:=h
  rw[lw] at tw
  obtain⟨xs,e1,e2⟩:=tw.ls
  obtain⟨kvs,e3,e4⟩:=tw.ds
  refine⟨_,rfl,_,rfl,Ar (by show 2<=1000;decide),λt ht=>?_⟩
  have b1:=Af ht (.tup [.ref l,.ref d])
  exact q t l d xs kvs _ hl hd0 Ac (b1 _ _ e1) (Paired.Az e2 λ_ _ z=>z.tups (Am.of b1)) (b1 _ _ e3) (Paired.Az e4 λ_ _ z=>z.tups (Am.of b1)) (tw.sm.trans b1)
end
abbrev Mw:Stmt:=top 62
abbrev Hj:List Str:=["_law_bag_here","_law_wires","_law_hows","_law_every"]
theorem CT:Ay ["_law_bag_here","_law_wires","_law_hows","_law_every","_law_odd","_law_thing","_law_kinds","_law_way","_law_e"] Hj (Aj Mw):=⟨rfl,rfl,rfl,by trivial,rfl,by trivial,by trivial⟩
theorem gq {X:Cx} {K:PySem.W.Frag} {o e:Expr} {es:List Expr} {to:TE} {t:TA} {name:Str} {apos cpos:Pos} {T id:String} {r:V->List V->Hp->VK->Prop} (hK:X.K=K) (pa:PlainAttrs T) (slot:Slot T name id) (hty:typeOf (.builtin id)=pure (.type "method_descriptor")) (hm:MtR X id r) (ho:PE X o to) (ha:PA X (e::es) t)
  (hbase:attributeBase o name X.env (eval o X.env)=eval o X.env:=by rfl)
  (hfew:((backTo cpos (starEach (e::es) X.env)).all (λx=>!x.1)&&(backToKw cpos (keywordEach [] X.env)).all (λx=>x.1.isSome)
  &&decide ((e::es).length+([]:List Keyword).length+(if ([]:List Keyword).isEmpty then 0 else 1) < 30))=true:=by rfl)
  (hline:(apos.endLine == cpos.line)=true:=by rfl) (hs:starEach (e::es) X.env=(false,eval e X.env)::starEach es X.env:=by rfl) (hplain:(backTo cpos (starEach es X.env)).any (·.1)=false:=by rfl) :
  PE X (.Call (.Attribute o name apos) (e::es) [] cpos) (tBM K T r to t):=hK ▸ CG pa slot hty hm ho ha hbase hfew hline hs hplain
def Le:V->Bool
 | .non=>true
 | .bl _=>true
 | .int _=>true
 | _=>false
theorem Le.kn {H:Hp} {v:V} (h:Le v=true):Kn H v:=by
 cases v <;> first | exact True.intro | cases h
def Odd (H:Hp) (b:Addr) (v:V):Prop:=v=.non\/(∃z,v=.str z)\/(∃a xs,v=.ref a/\H a=some (.lst xs)/\a≠b)\/∃a xs,v=.ref a/\H a=some (.tup xs)/\xs.length<=100/\(∀y∈xs,Le y=true)/\∀s,Bd3 s->xs≠[.int s.lp,.int s.at_,.int s.n]
theorem Odd.Cu {H H':Hp} {b:Addr} {v:V} (h:Odd H b v) (s:Ah b H H') (nt:∀zs,H b≠some (.tup zs)):Odd H' b v:=by
 rcases h with h | h |⟨a,xs,h1,h2,h3⟩|⟨a,xs,h1,h2,h3⟩
 ·exact .inl h
 ·exact .inr (.inl h)
 ·exact .inr (.inr (.inl ⟨a,xs,h1,s _ _ h2 h3,h3⟩))
 ·exact .inr (.inr (.inr ⟨a,xs,h1,(s.tup nt) _ _ h2,h3⟩))
theorem Odd.same {H H':Hp} {b:Addr} {v:V} (h:Odd H b v) (s:Same H H'):Odd H' b v:=by
 rcases h with h | h |⟨a,xs,h1,h2,h3⟩|⟨a,xs,h1,h2,h3⟩
 ·exact .inl h
 ·exact .inr (.inl h)
 ·exact .inr (.inr (.inl ⟨a,xs,h1,s _ _ h2,h3⟩))
 ·exact .inr (.inr (.inr ⟨a,xs,h1,s _ _ h2,h3⟩))
theorem Odd.th {H:Hp} {b:Addr} {v:V} (h:Odd H b v):Th H v:=by
 rcases h with rfl |⟨z,rfl⟩|⟨a,xs,rfl,h2,h3⟩|⟨a,xs,rfl,h2,h3,h4,h5⟩
 ·exact⟨True.intro,λxs e=>by cases e⟩
 ·exact⟨True.intro,λxs e=>by cases e⟩
 ·exact⟨.inl ⟨xs,h2⟩,λys e=>by rw[U8 h2] at e;cases e⟩
 ·exact⟨.inr ⟨xs,h2⟩,λys e=>by
   rw[Dg h2] at e
   cases e
   exact⟨h3,λy hy=>Le.kn (h4 y hy)⟩⟩
theorem Odd.no {H:Hp} {b:Addr} {v:V} (h:Odd H b v) {ss:List Sp3} (hs:∀s∈ss,Bd3 s):¬Kq H v ss:=λ⟨c,s,e1,e2,e3⟩=>by
 rcases h with h |⟨z,h⟩|⟨a,xs,h,h2,h3⟩|⟨a,xs,h,h2,h3,h4,h5⟩
 ·rw[h] at e1;cases e1
 ·rw[h] at e1;cases e1
 ·rw[h] at e1
  cases e1
  rw[h2] at e2
  cases e2
 ·rw[h] at e1
  cases e1
  rw[h2] at e2
  exact h5 s (hs s e3) (HO.tup.inj (QbB e2))
theorem Xx {a b c:Int} (h:∀s,Bd3 s->¬(s.lp=a/\s.at_=b/\s.n=c)):∀s,Bd3 s->([.int a,.int b,.int c]:List V)≠[.int s.lp,.int s.at_,.int s.n]:=λs hs e=>by
 injection e with e1 e2
 injection e2 with e2 e3
 injection e3 with e3 _
 injection e1 with e1
 injection e2 with e2
 injection e3 with e3
 exact h s hs ⟨e1.symm,e2.symm,e3.symm⟩
theorem zP {i:Int} (h0:0<=i) (h12:i < 12) {a b c d e f g h k l m n:V} (P:V->Prop) (ha:P a) (hb:P b) (hc:P c) (hd:P d) (he:P e) (hf:P f) (hg:P g) (hh:P h) (hk:P k) (hl:P l) (hm:P m) (hn:P n):∃p,atI [a,b,c,d,e,f,g,h,k,l,m,n] i=some p/\P p:=by
 have:i=0\/i=1\/i=2\/i=3\/i=4\/i=5\/i=6\/i=7\/i=8\/i=9\/i=10\/i=11:=by omega
 rcases this with rfl | rfl | rfl | rfl | rfl | rfl | rfl | rfl | rfl | rfl | rfl | rfl
 ·exact⟨_,rfl,ha⟩
 ·exact⟨_,rfl,hb⟩
 ·exact⟨_,rfl,hc⟩
 ·exact⟨_,rfl,hd⟩
 ·exact⟨_,rfl,he⟩
 ·exact⟨_,rfl,hf⟩
 ·exact⟨_,rfl,hg⟩
 ·exact⟨_,rfl,hh⟩
 ·exact⟨_,rfl,hk⟩
 ·exact⟨_,rfl,hl⟩
 ·exact⟨_,rfl,hm⟩
 ·exact⟨_,rfl,hn⟩
theorem JN {H:Hp}:∀zs:List Str,Kr H (zs.map V.str) (zs.map PyData.str)
 | []=>.nil
 | z::r=>.cons (.str z) (JN r)
def fC (C:Addr):Sp:=λvs H Q _=>∃b n p pl d1 d2 d3 hs fl x y,vs=[.ref b,.ref p,x,y]/\Bp H b n/\n<=9000/\WAt C H p pl d1 d2 d3 hs fl/\d1≠d2/\(∀s∈hs.map (·.1),Bd3 s)/\(∀s∈fl.map (·.1),Bd3 s)/\∀H',Bp H' b (n+2)->Ah b H H'->Q (.bl true) H'
section
variable {P:Program} {w:World} {K:PySem.W.Frag} {mg:Str->Option Value} {base:Heap} {op oe kd wk C:Addr} {hc c0 c1 c2 c3 c4 c5 c6 c7 c8 c9 c10 c11 c12:Addr}
theorem bQ (c:Code K mg "_law_refused" Mw Hj) (T:Tw K mg op oe kd wk C) (XE:Er K mg hc c0 c1 c2 c3 c4 c5 c6 c7 c8 c9 c10 c11 c12) (Eh:Knd K hc c2 [c0,c1,c2,c3,c4,c5,c6,c7,c8,c9,c10,c11,c12] 2) (En:Knd K hc c3 [c0,c1,c2,c3,c4,c5,c6,c7,c8,c9,c10,c11,c12] 3)
  (Bj:Good P w K mg base "_law_take" 1 Ft K6) (UJ:BZ P w K mg base C "cut" 4 Gn (NQ C c2 "cut")) (Qd:BZ P w K mg base C "short" 4 Ey (NQ C c2 "short")) (RN:BZ P w K mg base C "mend" 4 FP (NQ C c2 "whole")) (UG:BZ P w K mg base C "how" 4 Gm (bC C c2))
  (LK:BZ P w K mg base C "take_out" 4 Ds (Wx C c3)) (Ol:BZ P w K mg base C "put_in" 4 Ej (bA C c3)) (X6:Wb P w K mg base "_law_kind" 1 Lq (fJ K hc [c0,c1,c2,c3,c4,c5,c6,c7,c8,c9,c10,c11,c12])):Good P w K mg base "_law_refused" 5 Hj (fC C):=by
 have sc:=CT
 refine c.good CT (λvs H Q E h=>?_) (λf cdv A outer s H vs Q E hr h=>?_)
 ·obtain⟨b,n,p,pl,d1,d2,d3,hs,fl,x,y,rfl,_⟩:=h
  rfl
 obtain⟨b,n,p,pl,d1,d2,d3,hs,fl,x,y,rfl,hb,hn,R,n12,bs,bf,q⟩:=h
 refine⟨_,(@Ag _ _ _ _ _ (@Bb _ _ 4 _ _ _ _ CT.nd rfl (Or.inl rfl) (@BL _ _ _ _ (@Aa _ _ _ _ _ Ja (@Aa _ _ _ _ _ (Bh (Aa Ae (Aa Et (Aa Ae Ab)))) (@Aa _ _ _ _ _ (BL (Aa Ae (Aa Ae (Aa Ae Ab)))) (@Aa _ _ _ _ _ (Bh (Aa Ae (Aa Ae Ab))) (@Aa _ _ _ _ _ (Bh (Aa Ae (Aa Ae (Aa Ae (Aa Ae Ab))))) (@Aa _ _ _ _ _ (@Bf _ _ _ _) (@Aa _ _ _ _ _ (Bh (Aa Ae (Aa Ae (Aa Ae Ab)))) (@Aa _ _ _ _ _ (Bh (Aa Ae (Aa Ae (Aa Ae Ab)))) (@Aa _ _ _ _ _ (Bh (Aa (V5 Sh Ae) (Aa Ae (Aa Ae Ab)))) (@Aa _ _ _ _ _ (Bh (Aa Ae (Aa Ae (Aa Ae Ab)))) (@Aa _ _ _ _ _ (Bh (Aa Ae (Aa (@Bd _ _ _ _ _ _ _ _ Xl Ae Ae) (Aa Ae Ab)))) (@Aa _ _ _ _ _ (Bh (Aa Ae (Aa Ae (Aa Ja Ab)))) (@Ab _) Iu) Iu) Iu) Iu) Iu) Iu) Bc) Iu) Iu) vo) Iu) Bc)) (by rfl) (by first | exact .inl rfl | exact .inr rfl))
 (@Ag _ _ _ _ _ (@Bb _ _ 5 _ _ _ _ CT.nd rfl (Or.inl rfl) (Bo Cv (pv 4) (Ax Bj hr (Aa (pv 0) (Aa Ae Ab))) (λ_ _=>rfl)) (by rfl) (by first | exact .inl rfl | exact .inr rfl))
 (@Ag _ _ _ _ _ (@Bb _ _ 6 _ _ _ _ CT.nd rfl (Or.inl rfl) (BL Ab) (by rfl) (by first | exact .inl rfl | exact .inr rfl))
 (@Ag _ _ _ _ _ (BW QbA rfl (Cq rfl T.range (Aa Ae Ab)) (Ak (i:=7) CT.nd rfl (Or.inl rfl))
 (@Ai _ _ _ (fY (i:=8) CT.nd rfl rfl rfl rfl rfl XE.Rh XE.Q8 (λpn E1 EX hx=>(@Ai _ _ _ (BP (Bq Gy (pv 7) Ae (BJ _)) (@Ai _ _ _ (Bg (Dm (pv 1) T.cl UJ hr hx (Aa (pv 5) Ab)))) (@Ai _ _ _ (BP (Bq Gy (pv 7) Ae (BJ _)) (@Ai _ _ _ (Bg (Dm (pv 1) T.cl Qd hr hx (Aa (pv 5) Ab)))) (@Ai _ _ _ (BP (Bq Gy (pv 7) Ae (BJ _)) (@Ai _ _ _ (Bg (Dm (pv 1) T.cl RN hr hx (Aa (pv 5) Ab)))) (@Ai _ _ _ (Bg (Dm (pv 1) T.cl UG hr hx (Aa (pv 5) Ab)))))))))))
 (λpn ea=>(@Ai _ _ _ (Bg (gq (K:=K) rfl Qaq Qam Qan Cd (pv 6) (Aa (gw X6 (hr.inH _) (Aa (pv 8) Ab)) Ab))))))))
 (@Ag _ _ _ _ _ (@Bb _ _ 5 _ _ _ _ CT.nd rfl (Or.inl rfl) (Bo Cv (pv 4) (Ax Bj hr (Aa (pv 0) (Aa Ae Ab))) (λ_ _=>rfl)) (by rfl) (by first | exact .inl rfl | exact .inr rfl))
 (@Ag _ _ _ _ _ (BW QbA rfl (Cq rfl T.range (Aa Ae Ab)) (Ak (i:=7) CT.nd rfl (Or.inl rfl))
 (@Ai _ _ _ (fY (i:=8) CT.nd rfl rfl rfl rfl rfl XE.Rh XE.Q8 (λpn E1 EX hx=>(@Ai _ _ _ (BP (Bq Gy (pv 7) Ae (BJ _)) (@Ai _ _ _ (Bg (Dm (pv 1) T.cl LK hr hx (Aa (pv 5) Ab)))) (@Ai _ _ _ (Bg (Dm (pv 1) T.cl Ol hr hx (Aa (pv 5) (Aa Bf (Aa Ae Ab)))))))))
 (λpn ea=>(@Ai _ _ _ (Bg (gq (K:=K) rfl Qaq Qam Qan Cd (pv 6) (Aa (gw X6 (hr.inH _) (Aa (pv 8) Ab)) Ab))))))))
 (@Ai _ _ _ (Ba (Js (vZ hr.units) (pv 6) (@Bd _ _ _ _ _ _ _ _ Xn (@Bd _ _ _ _ _ _ _ _ gB (BL (Aa Bf Ab)) Ae) (@Bd _ _ _ _ _ _ _ _ gB (BL (Aa Bf Ab)) Ae)) (BJ _)))))))))),?_⟩
 have z3:3<=sizeLine:=Ar (by decide)
 refine⟨z3,λt1 ht1=>?_⟩
 refine⟨z3,λt2 ht2=>?_⟩
 refine⟨Ar (by show 2<=1000;decide),λt3 ht3=>?_⟩
 refine⟨Ar (by show 4<=1000;decide),λt4 ht4=>?_⟩
 refine⟨z3,λt5 ht5=>?_⟩
 refine⟨z3,λt6 ht6=>?_⟩
 refine⟨_,rfl,z3,λt7 ht7=>?_⟩
 refine⟨z3,λt8 ht8=>?_⟩
 refine⟨_,_,rfl,rfl,⟨by decide,by decide,by decide⟩,z3,λt9 ht9=>?_⟩
 refine⟨z3,λt10 wW=>?_⟩
 refine⟨Ar (by show 12<=1000;decide),λlo hlo=>?_⟩
 have g1:=Af ht1 (.tup [.int 0,.bl true,.int 0])
 have g2:=Af ht2 (.lst [.int 0,.int 0,.int 0])
 have g3:=Af ht3 (.tup [.int 0,.int 0])
 have g4:=Af ht4 (.tup [.int 0,.int 0,.int 0,.int 0])
 have g5:=Af ht5 (.tup [.int 9,.int 0,.int 0])
 have g6:=Af ht6 (.tup [.int 0,.int 13,.int 0])
 have g7:=Af ht7 (.tup [.int (-1),.int 0,.int 0])
 have g8:=Af ht8 (.tup [.int 0,.int 1,.int 4])
 have g9:=Af ht9 (.tup [.int 0,.int ((10:Int) ^ (20:Int).toNat),.int 0])
 have g10:=Af wW (.tup [.int 0,.int 0,.non])
 have gl:=Af hlo (.lst [.non,.ref t1,.ref t2,.ref t3,.ref t4,.str "000",.ref t5,.ref t6,.ref t7,.ref t8,.ref t9,.ref t10])
 have r10:=g10.trans gl
 have r9:=g9.trans r10
 have r8:=g8.trans r9
 have r7:=g7.trans r8
 have r6:=g6.trans r7
 have r5:=g5.trans r6
 have r4:=g4.trans r5
 have r3:=g3.trans r4
 have r2:=g2.trans r3
 have r1:=g1.trans r2
 have k1:=r2 _ _ (Ac (H:=H) (a:=t1) (o:=.tup [.int 0,.bl true,.int 0]))
 have k2:=r3 _ _ Ac
 have k3:=r4 _ _ Ac
 have k4:=r5 _ _ Ac
 have k5:=r6 _ _ Ac
 have k6:=r7 _ _ Ac
 have k7:=r8 _ _ Ac
 have k8:=r9 _ _ Ac
 have k9:=r10 _ _ Ac
 have k10:=gl _ _ Ac
 have nb2:t2≠b:=((hb.same g1).nb ht2).symm
 have nbl:lo≠b:=((hb.same (g1.trans (g2.trans (g3.trans (g4.trans (g5.trans (g6.trans (g7.trans (g8.trans (g9.trans g10)))))))))).nb hlo).symm
 have klo:_=some (HO.lst [.non,.ref t1,.ref t2,.ref t3,.ref t4,.str "000",.ref t5,.ref t6,.ref t7,.ref t8,.ref t9,.ref t10]):=Ac (H:=(upd (upd (upd (upd (upd (upd (upd (upd (upd (upd H t1 (.tup [.int 0,.bl true,.int 0])) t2 (.lst [.int 0,.int 0,.int 0])) t3 (.tup [.int 0,.int 0])) t4 (.tup [.int 0,.int 0,.int 0,.int 0])) t5 (.tup [.int 9,.int 0,.int 0])) t6 (.tup [.int 0,.int 13,.int 0])) t7 (.tup [.int (-1),.int 0,.int 0])) t8 (.tup [.int 0,.int 1,.int 4])) t9 (.tup [.int 0,.int ((10:Int) ^ (20:Int).toNat),.int 0])) t10 (.tup [.int 0,.int 0,.non]))) (a:=lo)
 have hbL:=hb.same r1
 have RL:=R.same r1
 clear g1 g2 g3 g4 g5 g6 g7 g8 g9 g10 gl r2 r3 r4 r5 r6 r7 r8 r9 r10 ht1 ht2 ht3 ht4 ht5 ht6 ht7 ht8 ht9 wW hlo
 generalize (upd (upd (upd (upd (upd (upd (upd (upd (upd (upd (upd H t1 _) t2 _) t3 _) t4 _) t5 _) t6 _) t7 _) t8 _) t9 _) t10 _) lo _)=HL at *
 have odd:∀i:Int,0<=i->i < 12->∃v,atI [.non,.ref t1,.ref t2,.ref t3,.ref t4,.str "000",.ref t5,.ref t6,.ref t7,.ref t8,.ref t9,.ref t10] i=some v/\Odd HL b v:=λi h0 h12=>by
  have tp:∀{t:Addr} {xs:List V},HL t=some (.tup xs)->xs.length<=100->(∀y∈xs,Le y=true)->(∀s,Bd3 s->xs≠[.int s.lp,.int s.at_,.int s.n])->Odd HL b (.ref t):=λ{t xs} a1 a2 a3 a4=>.inr (.inr (.inr ⟨t,xs,rfl,a1,a2,a3,a4⟩))
  have pk:∀{xs:List V},xs.all Le=true->∀y∈xs,Le y=true:=λh=>List.all_eq_true.mp h
  refine zP h0 h12 (Odd HL b) (.inl rfl) (tp k1 (by decide) (pk rfl) λs _ e=>?_) (.inr (.inr (.inl ⟨t2,_,rfl,k2,nb2⟩))) (tp k3 (by decide) (pk rfl) λs _ e=>?_) (tp k4 (by decide) (pk rfl) λs _ e=>?_) (.inr (.inl ⟨_,rfl⟩))
   (tp k5 (by decide) (pk rfl) (Xx λs hs=>?_)) (tp k6 (by decide) (pk rfl) (Xx λs hs=>?_)) (tp k7 (by decide) (pk rfl) (Xx λs hs=>?_)) (tp k8 (by decide) (pk rfl) (Xx λs hs=>?_)) (tp k9 (by decide) (pk rfl) (Xx λs hs=>?_)) (tp k10 (by decide) (pk rfl) λs _ e=>?_)
  ·simp at e
  ·simp at e
  ·simp at e
  ·have:=hs.l1;omega
  ·have:=hs.a1;omega
  ·have:=hs.l0;omega
  ·have:=hs.n1;omega
  ·have:=hs.a1
   have h20:((10:Int) ^ (20:Int).toNat)=100000000000000000000:=by decide
   rw[h20]
   omega
  ·simp at e
 clear k1 k2 k3 k4 k5 k6 k7 k8 k9 k10 nb2
 refine⟨_,rfl,_,rfl,b,n,12,rfl,hbL,by omega,by decide,by decide,λr H1 r0 r1' hb1 sb1=>?_⟩
 have ntL:∀zs,HL b≠some (.tup zs):=hbL.Ew
 obtain⟨v,hv,ov⟩:=odd r r0 r1'
 have ov1:=ov.Cu sb1 ntL
 have lo1:=sb1 _ _ klo nbl
 have npb:p≠b:=λz=>by obtain⟨_,_,_,e,_⟩:=hbL;obtain⟨dx,e2⟩:=RL.ins;rw[z,e] at e2;cases e2
 have nd1:d1≠b:=λz=>by obtain⟨_,_,_,e,_⟩:=hbL;have e2:=RL.st;rw[z,e] at e2;cases e2
 have nd2:d2≠b:=λz=>by obtain⟨_,_,_,e,_⟩:=hbL;obtain⟨kvs,e2,_⟩:=RL.fi;rw[z,e] at e2;cases e2
 have R1:=RL.Cu sb1 ntL npb nd1 nd2
 refine⟨lo,_,_,_,rfl,rfl,SqL.of lo1,hv,?_⟩
 refine⟨Ar (by show 0<=1000;decide),λlk hlk=>?_⟩
 refine⟨_,rfl,by decide,by decide,?_⟩
 rw[show (4:Int).toNat=4 from rfl]
 refine Dl (λi σ HH=>∃u7 u8,σ=[some (.ref b),some (.ref p),some x,some y,some (.ref lo),some v,some (.ref lk),u7,u8]/\HH lk=some (.lst ((List.replicate i ("stretch":Str)).map V.str))/\Same H1 HH) ⟨_,_,rfl,Ac,Af hlk _⟩ (λi σ HH hi h=>?_) (fun σ HH h=>?_)
 ·obtain⟨u7,u8,rfl,e1,e2⟩:=h
  have RX:=R1.same e2
  have ox:=ov1.same e2
  obtain⟨dx,hpx⟩:=RX.ins
  refine⟨_,rfl,rfl,_,rfl,Fv (λ_=>?_) (λ_=>⟨_,rfl,rfl,_,rfl,Fv (λ_=>?_) (λ_=>⟨_,rfl,rfl,_,rfl,Fv (λ_=>?_) (λ_=>?_)⟩)⟩)⟩
  all_goals first
   | refine⟨_,rfl,p,dx,_,rfl,hpx,fno (by trivial),_,rfl,p,pl,d1,d2,d3,hs,fl,v,rfl,RX,n12,ox.th,(λb' s' e1 e2 e3=>absurd ⟨b',s',e1,e2,e3⟩ (ox.no bs)),λ_ H' s'=>?_⟩
   | refine⟨_,rfl,p,dx,_,rfl,hpx,fno (by trivial),_,rfl,p,pl,d1,d2,d3,hs,fl,v,rfl,RX,ox.th,(λb' x' e1 e2 e3=>absurd ⟨b',x'.1,e1,e2,Qca.mpr ⟨x',e3,rfl⟩⟩ (ox.no bs)),λ_ H' s'=>?_⟩
  all_goals
   refine⟨_,rfl,Eh.xc,Eh.sub,λe he=>?_⟩
   have s3:=Af he (xo e c2)
   have eK:=s3 _ _ (s' _ _ e1)
   refine⟨_,rfl,.inl ⟨rfl,_,SqL.of eK⟩,_,rfl,e,_,2,rfl,Ac,Eh,by decide,λHB sB=>⟨lk,_,_,rfl,rfl,sB _ _ eK,Ao (by simp;omega),_,_,rfl,?_,(e2.trans (s'.trans (s3.trans sB))).Bt Ah.upd hlk⟩⟩
   rw[Ac,QaD,Qby]
   rfl
 obtain⟨u7,u8,rfl,e1,e2⟩:=h
 have sb2:Ah b H1 HH:=Ah.of e2
 refine⟨_,rfl,_,rfl,b,n+1,12,rfl,hb1.same e2,by omega,by decide,by decide,λr' H3 r0' AO hb3 sb3=>?_⟩
 have sb4:Ah b H1 H3:=sb2.trans sb3
 have nt1:∀zs,H1 b≠some (.tup zs):=hb1.Ew
 obtain⟨v',hv',ov'⟩:=odd r' r0' AO
 have ov3:=ov'.Cu sb1 ntL
 have nlk:lk≠b:=(hb1.nb hlk).symm
 have e3:=sb3 _ _ e1 nlk
 refine⟨lo,_,_,_,rfl,rfl,SqL.of (sb4 _ _ lo1 nbl),hv',?_⟩
 refine⟨_,rfl,by decide,by decide,?_⟩
 rw[show (2:Int).toNat=2 from rfl]
 refine Dl (λi σ HH=>∃u7 u8,σ=[some (.ref b),some (.ref p),some x,some y,some (.ref lo),some v',some (.ref lk),u7,u8]/\HH lk=some (.lst ((List.replicate 4 ("stretch":Str)++List.replicate i ("spot":Str)).map V.str))/\Bp HH b (n+2)/\Ah b H1 HH) ⟨_,_,rfl,by rw[List.replicate_zero,QbD];exact e3,hb3,sb4⟩ (λi σ HH hi h=>?_) (fun σ HH h=>?_)
 ·obtain⟨u7,u8,rfl,e1,e2,e4⟩:=h
  have RX:=R1.Cu e4 nt1 npb nd1 nd2
  have ox:=ov3.Cu e4 nt1
  obtain⟨dx,hpx⟩:=RX.ins
  refine⟨_,rfl,rfl,_,rfl,Fv (λ_=>?_) (λ_=>?_)⟩
  ·refine⟨_,rfl,p,dx,_,rfl,hpx,fno (by trivial),_,rfl,p,pl,d1,d2,d3,hs,fl,v',rfl,RX,n12,ox.th,(λb' s' e1 e2 e3=>absurd ⟨b',s',e1,e2,e3⟩ (ox.no bf)),λ_ H' s'=>?_⟩
   refine⟨_,rfl,En.xc,En.sub,λe he=>?_⟩
   have s3:=Af he (xo e c3)
   have eK:=s3 _ _ (s' _ _ e1)
   refine⟨_,rfl,.inl ⟨rfl,_,SqL.of eK⟩,_,rfl,e,_,3,rfl,Ac,En,by decide,λHB sB=>⟨lk,_,_,rfl,rfl,sB _ _ eK,Ao (by simp;omega),_,_,rfl,?_,(e2.same (s'.trans (s3.trans sB))).Cu Ah.upd nlk.symm,Ah.Ku (e4.trans (Ah.of (s'.trans (s3.trans sB)))) Ah.upd hlk⟩⟩
   rw[Ac,show List.replicate (i+1) ("spot":Str)=List.replicate i ("spot":Str)++[("spot":Str)] from QaD,<-Qbd,Qby (l₁:=_++_)]
   rfl
  ·refine⟨_,rfl,p,dx,_,rfl,hpx,fno (by trivial),_,rfl,p,pl,d1,d2,d3,hs,fl,v',"bell",7,rfl,RX,n12,ox.th,(λb' s' e1 e2 e3=>absurd ⟨b',s',e1,e2,e3⟩ (ox.no bf)),λ_ H' s'=>?_⟩
   refine⟨_,rfl,En.xc,En.sub,λe he=>?_⟩
   have s3:=Af he (xo e c3)
   have eK:=s3 _ _ (s' _ _ e1)
   refine⟨_,rfl,.inl ⟨rfl,_,SqL.of eK⟩,_,rfl,e,_,3,rfl,Ac,En,by decide,λHB sB=>⟨lk,_,_,rfl,rfl,sB _ _ eK,Ao (by simp;omega),_,_,rfl,?_,(e2.same (s'.trans (s3.trans sB))).Cu Ah.upd nlk.symm,Ah.Ku (e4.trans (Ah.of (s'.trans (s3.trans sB)))) Ah.upd hlk⟩⟩
   rw[Ac,show List.replicate (i+1) ("spot":Str)=List.replicate i ("spot":Str)++[("spot":Str)] from QaD,<-Qbd,Qby (l₁:=_++_)]
   rfl
 ·obtain⟨u7,u8,rfl,e1,e2,e4⟩:=h
  have r1L:Ah b H HH:=(Ah.of r1).trans (sb1.trans e4)
  refine⟨_,rfl,Ar (by show 1<=1000;decide),λl1 hl1=>?_⟩
  have h1:=Af hl1 (.lst [.str "stretch"])
  refine⟨l1,4,_,rfl,rfl,Ac,by decide,by decide,Ar (by show 4<=1000;decide),λl2 hl2=>?_⟩
  have h2:=Af hl2 (.lst (List.replicate (4:Int).toNat [V.str "stretch"]).flatten)
  refine⟨Ar (by show 1<=1000;decide),λl3 hl3=>?_⟩
  have h3:=Af hl3 (.lst [.str "spot"])
  refine⟨l3,2,_,rfl,rfl,Ac,by decide,by decide,Ar (by show 2<=1000;decide),λl4 hl4=>?_⟩
  have h4:=Af hl4 (.lst (List.replicate (2:Int).toNat [V.str "spot"]).flatten)
  refine⟨l2,l4,_,_,rfl,rfl,h4 _ _ (h3 _ _ Ac),Ac,Ar (by show 6<=1000;decide),λl5 hl5=>?_⟩
  have h5:=Af hl5 (.lst ((List.replicate (4:Int).toNat [V.str "stretch"]).flatten++(List.replicate (2:Int).toNat [V.str "spot"]).flatten))
  have h15:=h1.trans (h2.trans (h3.trans (h4.trans h5)))
  have hz:((List.replicate (4:Int).toNat [V.str "stretch"]).flatten++(List.replicate (2:Int).toNat [V.str "spot"]).flatten)=(List.replicate 4 ("stretch":Str)++List.replicate 2 ("spot":Str)).map V.str:=rfl
  refine⟨.list ((List.replicate 4 ("stretch":Str)++List.replicate 2 ("spot":Str)).map PyData.str),.list ((List.replicate 4 ("stretch":Str)++List.replicate 2 ("spot":Str)).map PyData.str),.lst (h15 _ _ e1) (JN _),.lst (by rw[Ac,hz]) (JN _),by trivial,by trivial,?_⟩
  rw[show PyData.eqv (.list ((List.replicate 4 ("stretch":Str)++List.replicate 2 ("spot":Str)).map PyData.str)) (.list ((List.replicate 4 ("stretch":Str)++List.replicate 2 ("spot":Str)).map PyData.str))=true by trivial]
  exact q _ (e2.same h15) (r1L.trans (Ah.of h15))
end
abbrev Ru:Stmt:=top 61
abbrev Lw:List Str:=["_law_bag_here","_law_wires","_law_hows","_law_there","_law_every"]
theorem Ij:Ay ["_law_bag_here","_law_wires","_law_hows","_law_there","_law_every","_law_way","_law_stretch","_law_spot","_law_device"] Lw (Aj Ru):=⟨rfl,rfl,rfl,by trivial,rfl,by trivial,by trivial⟩
def Hf (H:Hp) (kv:List Key×V) (x:Sp3×(Str×Int)):Prop:=kv.1=k3 x.1/\HeldAt H kv.2 (some x.2)
theorem Hf.tups {H H':Hp} (s:Am H H') {kv:List Key×V} {x:Sp3×(Str×Int)} (h:Hf H kv x):Hf H' kv x:=by
 obtain⟨h1,t,h2,h3⟩:=h
 exact⟨h1,t,h2,s _ _ h3⟩
theorem Sq {H:Hp}:∀{kvs:List (List Key×V)} {th:List (Sp3×(Str×Int))},Paired (Hf H) kvs th->kvs.map (·.1)=th.map λx=>k3 x.1
 | _,_,.nil=>rfl
 | _,_,.cons h t=>by rw[QbT,QbT,h.1,Sq t]
structure Rel (fl:List (Sp3×Option (Str×Int))) (th:List (Sp3×(Str×Int))):Prop where
 nd:(th.map (·.1)).Nodup
 iff:∀s d,(s,d)∈th ↔ (s,some d)∈fl
theorem GP {β : Type} {l:List (Sp3×β)} {s s':Sp3} {v v':β}:(s',v')∈CQ l s v ↔ (s'=s/\v'=v/\s∈l.map (·.1))\/(s'≠s/\(s',v')∈l):=by
 constructor
 ·intro h
  obtain⟨x,hx,e⟩:=Qca.mp h
  by_cases c:x.1=s
  ·rw[if_pos c] at e
   injection e with e1 e2
   exact .inl ⟨by rw[<-e1,c],e2.symm,Qca.mpr ⟨x,hx,c⟩⟩
  ·rw[if_neg c] at e
   subst e
   exact .inr ⟨c,hx⟩
 ·rintro (⟨rfl,rfl,h⟩|⟨h1,h2⟩)
  ·obtain⟨x,hx,e⟩:=Qca.mp h
   exact Qca.mpr ⟨x,hx,by rw[if_pos e,e]⟩
  ·exact Qca.mpr ⟨_,h2,if_neg h1⟩
theorem erase_filter:∀{th:List (Sp3×(Str×Int))} {j:Nat} {x:Sp3×(Str×Int)},(th.map (·.1)).Nodup->th[j]?=some x->∀y,y∈th.eraseIdx j ↔ (y∈th/\y.1≠x.1)
 | [],_,_,_,h,_=>by simp at h
 | a::r,0,x,nd,h,y=>by
  simp at h
  subst h
  obtain⟨n1,n2⟩:=QbE.mp nd
  show y∈r ↔ _
  constructor
  ·intro hy
   exact⟨QaA _ hy,λe=>n1 (by show a.1∈_;rw[<-e];exact Qca.mpr ⟨y,hy,rfl⟩)⟩
  ·rintro ⟨hy,ne⟩
   rcases QbS.mp hy with rfl | hy
   ·exact absurd rfl ne
   ·exact hy
 | a::r,j+1,x,nd,h,y=>by
  have h:r[j]?=some x:=by simpa using h
  obtain⟨n1,n2⟩:=QbE.mp nd
  show y∈a::r.eraseIdx j ↔ _
  rw[QbS,erase_filter n2 h y,QbS]
  constructor
  ·rintro (rfl |⟨h1,h2⟩)
   ·exact⟨.inl rfl,λe=>n1 (by show y.1∈_;rw[e];exact Qca.mpr ⟨x,Qaz h,rfl⟩)⟩
   ·exact⟨.inr h1,h2⟩
  ·rintro ⟨rfl | h1,h2⟩
   ·exact .inl rfl
   ·exact .inr ⟨h1,h2⟩
theorem Rel.AR {fl:List (Sp3×Option (Str×Int))} {th:List (Sp3×(Str×Int))} (R:Rel fl th) {j:Nat} {x:Sp3×(Str×Int)} (h:th[j]?=some x):Rel (CQ fl x.1 none) (th.eraseIdx j):=by
 refine⟨(List.Sublist.map _ (List.eraseIdx_sublist th j)).nodup R.nd,λs d=>?_⟩
 rw[erase_filter R.nd h,GP,R.iff]
 constructor
 ·rintro ⟨h1,h2⟩
  exact .inr ⟨h2,h1⟩
 ·rintro (⟨_,h2,_⟩|⟨h1,h2⟩)
  ·cases h2
  ·exact⟨h2,h1⟩
theorem Rel.AQ {fl:List (Sp3×Option (Str×Int))} {th:List (Sp3×(Str×Int))} (R:Rel fl th) {s:Sp3} (h:∀x∈th,x.1≠s):Rel (CQ fl s none) th:=by
 refine⟨R.nd,λs' d=>?_⟩
 rw[GP,R.iff]
 constructor
 ·intro h1
  exact .inr ⟨λe=>h _ ((R.iff s' d).mpr h1) e,h1⟩
 ·rintro (⟨_,h2,_⟩|⟨h1,h2⟩)
  ·cases h2
  ·exact h2
theorem Rel.put {fl:List (Sp3×Option (Str×Int))} {th:List (Sp3×(Str×Int))} (R:Rel fl th) {s:Sp3} {d:Str×Int} (hin:s∈fl.map (·.1)):Rel (CQ fl s (some d)) (if s∈th.map (·.1) then CQ th s d else th++[(s,d)]):=by
 by_cases c:s∈th.map (·.1)
 ·rw[if_pos c]
  refine⟨by rw[Fq];exact R.nd,λs' d'=>?_⟩
  rw[GP,GP,R.iff]
  constructor
  ·rintro (⟨h1,h2,_⟩| h)
   ·exact .inl ⟨h1,by rw[h2],hin⟩
   ·exact .inr h
  ·rintro (⟨h1,h2,_⟩| h)
   ·exact .inl ⟨h1,QbB h2,c⟩
   ·exact .inr h
 ·rw[if_neg c]
  refine⟨?_,λs' d'=>?_⟩
  ·rw[Qby,Qbn]
   exact⟨R.nd,by simp,λa ha b hb e=>c (by have:b=s:=(by simpa using hb);rw[<-this,<-e];exact ha)⟩
  ·rw[GP,Qbz,R.iff]
   constructor
   ·rintro (h | h)
    ·exact .inr ⟨λe=>c (by rw[<-e];exact Qca.mpr ⟨_,(R.iff s' d').mpr h,rfl⟩),h⟩
    ·have:(s',d')=(s,d):=by simpa using h
     injection this with e1 e2
     exact .inl ⟨e1,by rw[e2],hin⟩
   ·rintro (⟨h1,h2,_⟩|⟨h1,h2⟩)
    ·exact .inr (by rw[h1,QbB h2];exact QaN ..)
    ·exact .inl h2
structure Ad where
 b:Addr
 p:Addr
 pl:Addr
 d1:Addr
 d2:Addr
 d3:Addr
 h:Addr
 e:Addr
 v:Addr
 w:Addr
structure LS (C:Addr) (H:Hp) (a:Ad) (n:Nat) (hs:List (Sp3×Str)) (fl:List (Sp3×Option (Str×Int))) (th:List (Sp3×(Str×Int))):Prop where
 bag:Bp H a.b n
 wi:WAt C H a.p a.pl a.d1 a.d2 a.d3 hs fl
 ho:H a.h=some (.dT (stV hs))
 te:∃kvs,H a.e=some (.dT kvs)/\Paired (Hf H) kvs th
 ev:∃xs,H a.v=some (.lst xs)/\Paired (Fx H) xs (fl.map (·.1))
 wn:∃xs,H a.w=some (.lst xs)/\Paired (Fx H) xs (hs.map (·.1))
 nbv:a.v≠a.b
 nbw:a.w≠a.b
 n12:a.d1≠a.d2
 n1h:a.h≠a.d1
 n1e:a.e≠a.d1
 n2h:a.h≠a.d2
 n2e:a.e≠a.d2
 nhe:a.h≠a.e
 rel:Rel fl th
 rise:((fl.map (·.1)).map cd3).Pairwise (· < ·)
 bf:∀s∈fl.map (·.1),Bd3 s
 bs:∀s∈hs.map (·.1),Bd3 s
 l1:1<=hs.length
 l2:1<=fl.length
 l3:fl.length<=30
 kf:∀s d,(s,some d)∈fl->Cz d.1
 ks:∀x∈hs,PyData.strOk x.2=true
def FrS (a:Ad) (H H':Hp):Prop:=∀c o,H c=some o->c≠a.b->c≠a.d1->c≠a.d2->c≠a.h->c≠a.e->H' c=some o
theorem FrS.of {a:Ad} {H H':Hp} (s:Same H H'):FrS a H H':=λc o e _ _ _ _ _=>s _ _ e
theorem FrS.trans {a:Ad} {H H' H'':Hp} (s:FrS a H H') (t:FrS a H' H''):FrS a H H'':=λc o e n1 n2 n3 n4 n5=>t _ _ (s _ _ e n1 n2 n3 n4 n5) n1 n2 n3 n4 n5
section
variable {C:Addr} {H H':Hp} {a:Ad} {n n':Nat} {hs hs':List (Sp3×Str)} {fl fl':List (Sp3×Option (Str×Int))} {th th':List (Sp3×(Str×Int))}
theorem LS.step (L:LS C H a n hs fl th) (t:Am H H') (bag:Bp H' a.b n') (wi:WAt C H' a.p a.pl a.d1 a.d2 a.d3 hs' fl') (ho:H' a.h=some (.dT (stV hs'))) (te:∃kvs,H' a.e=some (.dT kvs)/\Paired (Hf H') kvs th') (hv:∀o,H a.v=some o->H' a.v=some o) (hw:∀o,H a.w=some o->H' a.w=some o) (rel:Rel fl' th') (k1:hs'.map (·.1)=hs.map (·.1)) (k2:fl'.map (·.1)=fl.map (·.1)) (kf:∀s d,(s,some d)∈fl'->Cz d.1) (ks:∀x∈hs',PyData.strOk x.2=true):LS C H' a n' hs' fl' th':=by
 obtain⟨xs,x1,x2⟩:=L.ev
 obtain⟨ys,y1,y2⟩:=L.wn
 have e1:hs'.length=hs.length:=by have:=congrArg List.length k1;simpa using this
 have e2:fl'.length=fl.length:=by have:=congrArg List.length k2;simpa using this
 exact⟨bag,wi,ho,te,⟨xs,hv _ x1,by rw[k2];exact Paired.Az x2 λ_ _ z=>z.tups t⟩,⟨ys,hw _ y1,by rw[k1];exact Paired.Az y2 λ_ _ z=>z.tups t⟩,L.nbv,L.nbw,L.n12,L.n1h,L.n1e,L.n2h,L.n2e,L.nhe,rel,by rw[k2];exact L.rise,by rw[k2];exact L.bf,by rw[k1];exact L.bs,by rw[e1];exact L.l1,by rw[e2];exact L.l2,by rw[e2];exact L.l3,kf,ks⟩
theorem LS.same (L:LS C H a n hs fl th) (s:Same H H'):LS C H' a n hs fl th:=by
 obtain⟨kvs,e1,e2⟩:=L.te
 exact L.step (Am.of s) (L.bag.same s) (L.wi.same s) (s _ _ L.ho) ⟨kvs,s _ _ e1,Paired.Az e2 λ_ _ z=>z.tups (Am.of s)⟩ (λo e=>s _ _ e) (λo e=>s _ _ e) L.rel rfl rfl L.kf L.ks
theorem LS.mono (L:LS C H a n hs fl th) (h:n<=n'):LS C H a n' hs fl th:=by
 obtain⟨kvs,e1,e2⟩:=L.te
 exact L.step (Am.of (Same.refl H)) (L.bag.mono h) L.wi L.ho ⟨kvs,e1,e2⟩ (λo e=>e) (λo e=>e) L.rel rfl rfl L.kf L.ks
theorem LS.nb (L:LS C H a n hs fl th):a.p≠a.b/\a.d1≠a.b/\a.d2≠a.b/\a.h≠a.b/\a.e≠a.b:=by
 obtain⟨_,_,_,eb,_⟩:=L.bag
 obtain⟨dx,e0⟩:=L.wi.ins
 obtain⟨kvs,e2,_⟩:=L.wi.fi
 obtain⟨kv',e4,_⟩:=L.te
 exact⟨(λz=>by rw[z,eb] at e0;cases e0),(λz=>by have:=L.wi.st;rw[z,eb] at this;cases this),(λz=>by rw[z,eb] at e2;cases e2),(λz=>by have:=L.ho;rw[z,eb] at this;cases this),(λz=>by rw[z,eb] at e4;cases e4)⟩
theorem LS.drawn (L:LS C H a n hs fl th) (s:Ah a.b H H') (hb:Bp H' a.b n'):LS C H' a n' hs fl th:=by
 obtain⟨kvs,e1,e2⟩:=L.te
 obtain⟨m0,m1,m2,m3,m4⟩:=L.nb
 have t:=s.tup L.bag.Ew
 exact L.step t hb (L.wi.Cu s L.bag.Ew m0 m1 m2) (s _ _ L.ho m3) ⟨kvs,s _ _ e1 m4,Paired.Az e2 λ_ _ z=>z.tups t⟩ (λo e=>s _ _ e L.nbv) (λo e=>s _ _ e L.nbw) L.rel rfl rfl L.kf L.ks
theorem LS.frB (L:LS C H a n hs fl th) (s:Ah a.b H H'):FrS a H H':=λc o e n1 _ _ _ _=>s _ _ e n1
end
theorem Qx {H:Hp} {v:V} {s:Sp3} (h:Fx H v s):Th H v:=by
 obtain⟨u,rfl,e⟩:=h
 refine⟨.inr ⟨_,e⟩,λxs ex=>?_⟩
 rw[Dg e] at ex
 cases ex
 refine⟨by show 3<=100;decide,λy hy=>?_⟩
 have:y=.int s.lp\/y=.int s.at_\/y=.int s.n:=by simpa using hy
 rcases this with rfl | rfl | rfl <;> exact True.intro
theorem Oc:∀{l m:List Sp3},l.Nodup->(∀x∈l,x∈m)->l.length<=m.length
 | [],_,_,_=>Qcj _
 | a::r,m,nd,h=>by
  have ha:=h a (QaN ..)
  obtain⟨n1,n2⟩:=QbE.mp nd
  have:=Oc (l:=r) (m:=m.erase a) n2 λx hx=>(List.mem_erase_of_ne (λe=>n1 (by rw[<-e];exact hx))).mpr (h x (QaA _ hx))
  rw[List.length_erase_of_mem ha] at this
  have hp:=List.length_pos_of_mem ha
  rw[Qbq]
  omega
theorem eU {s:Sp3} {d:Str×Int} {t:Addr} (H:Hp) (ht:H t=some (.tup [.str d.1,.int d.2])):∀{kvs:List (List Key×V)} {th:List (Sp3×(Str×Int))},Paired (Hf H) kvs th->Paired (Hf H) (kvs.map λkv=>if kv.1=k3 s then (kv.1,V.ref t) else kv) (CQ th s d)
 | _,_,.nil=>.nil
 | _,_,.cons (a:=kv) (b:=x) h r=>by
  refine .cons ?_ (eU H ht r)
  show Hf H (if kv.1=k3 s then (kv.1,V.ref t) else kv) (if x.1=s then (x.1,d) else x)
  by_cases e:x.1=s
  ·rw[if_pos e,if_pos (by rw[h.1,e])]
   exact⟨h.1,t,rfl,ht⟩
  ·rw[if_neg e,if_neg (λz=>e (Fo (by rw[<-h.1,z])))]
   exact h
theorem uO {s:Sp3} {d:Str×Int} {t:Addr} (H:Hp) (ht:H t=some (.tup [.str d.1,.int d.2])) {kvs:List (List Key×V)} {th:List (Sp3×(Str×Int))} (h:Paired (Hf H) kvs th):Paired (Hf H) (putK kvs (k3 s) (.ref t)) (if s∈th.map (·.1) then CQ th s d else th++[(s,d)]):=by
 have hf:=Sq h
 by_cases c:s∈th.map (·.1)
 ·rw[if_pos c]
  obtain⟨x,hx,e⟩:=Qca.mp c
  have:k3 x.1∈kvs.map (·.1):=by rw[hf];exact Qca.mpr ⟨x,hx,rfl⟩
  obtain⟨kv,hkv,ekv⟩:=Qca.mp this
  rw[Oa ⟨kv,hkv,by rw[ekv,e]⟩]
  exact eU H ht h
 ·rw[if_neg c,Ld _ (Ji λy hy e=>c ?_)]
  ·exact Qck ⟨rfl,t,rfl,ht⟩ h
  ·have:y.1∈kvs.map (·.1):=Qca.mpr ⟨y,hy,rfl⟩
   rw[hf] at this
   obtain⟨x,hx,ex⟩:=Qca.mp this
   exact Qca.mpr ⟨x,hx,Fo (by rw[ex,e])⟩
def fK (C:Addr):Sp:=λvs H Q _=>∃a n hs fl th,vs=[.ref a.b,.ref a.p,.ref a.h,.ref a.e,.ref a.v]/\LS C H a n hs fl th/\n<=9000/\∀hs' fl' th' H',LS C H' a (n+5) hs' fl' th'->FrS a H H'->Q .non H'
section
variable {P:Program} {w:World} {K:PySem.W.Frag} {mg:Str->Option Value} {base:Heap} {op oe kd wk C:Addr}
theorem sJ {c2 c3:Addr} (c:Code K mg "_law_deed" Ru Lw) (T:Tw K mg op oe kd wk C)
  (Bj:Good P w K mg base "_law_take" 1 Ft K6) (UJ:BZ P w K mg base C "cut" 4 Gn (NQ C c2 "cut")) (Qd:BZ P w K mg base C "short" 4 Ey (NQ C c2 "short")) (RN:BZ P w K mg base C "mend" 4 FP (NQ C c2 "whole"))
  (LK:BZ P w K mg base C "take_out" 4 Ds (Wx C c3)) (Ol:BZ P w K mg base C "put_in" 4 Ej (bA C c3)):Good P w K mg base "_law_deed" 5 Lw (fK C):=by
 have sc:=Ij
 refine c.good Ij (λvs H Q E h=>?_) (λf cdv A outer s H vs Q E hr h=>?_)
 ·obtain⟨a,n,hs,fl,th,rfl,_⟩:=h
  rfl
 obtain⟨a,n,hs,fl,th,rfl,L,hn,q⟩:=h
 refine⟨_,(Ag (Bb (i:=5) Ij.nd rfl (Or.inl rfl) (Ax Bj hr (Aa (pv 0) (Aa Ae Ab))))
 (Ag (Bb (i:=6) Ij.nd rfl (Or.inl rfl) (Bo Cv (Ed (Nh rfl) rfl T.list UW (Aa (pv 2) Ab)) (Ax Bj hr (Aa (pv 0) (Aa (Aw dF rfl T.len CW (Aa (pv 2) Ab)) Ab))) (λ_ _=>rfl)))
 (Ag (Bb (i:=7) Ij.nd rfl (Or.inl rfl) (Bo Cv (pv 4) (Ax Bj hr (Aa (pv 0) (Aa (Aw Bs rfl T.len CW (Aa (pv 4) Ab)) Ab))) (λ_ _=>rfl)))
 (Ai (BP (Bq V7 (pv 5) Ae (BJ _)) (Ag (Bg (Dm (pv 1) T.cl UJ hr Nq (Aa (pv 6) Ab)))
 (Ai (Ei (CZ hr) (pv 2) (pv 6) Bf rfl))) (Ai (BP (Bq Gy (pv 5) Ae (BJ _)) (Ag (Bg (Dm (pv 1) T.cl Qd hr Nq (Aa (pv 6) Ab)))
 (Ai (Ei (CZ hr) (pv 2) (pv 6) Bf rfl))) (Ai (BP (Bq Gy (pv 5) Ae (BJ _)) (Ag (Bg (Dm (pv 1) T.cl RN hr Nq (Aa (pv 6) Ab)))
 (Ai (Ei (CZ hr) (pv 2) (pv 6) Bf rfl))) (Ai (BP (Bq Gy (pv 5) Ae (BJ _)) (Ag (Bg (Dm (pv 1) T.cl LK hr Nq (Aa (pv 7) Ab)))
 (Ai (Bg (lJ (CZ hr) (pv 3) (pv 7) (Bh Ab) ⟨rfl,rfl,rfl,rfl⟩)))) (Ag (Bb (i:=8) Ij.nd rfl (Or.inl rfl) (Bh (Aa (Bo Cv (BL (Aa Bf (Aa Bf (Aa Bf (Aa Bf Ab))))) (Ax Bj hr (Aa (pv 0) (Aa Ae Ab))) (λ_ _=>rfl)) (Aa (Bd Cj Ae (Ax Bj hr (Aa (pv 0) (Aa Ae Ab)))) Ab))))
 (Ag (Bg (Dm (pv 1) T.cl Ol hr Nq (Aa (pv 7) (Aa (Bo Cm (pv 8) Ae (λ_ _=>rfl)) (Aa (Bo Cm (pv 8) Ae (λ_ _=>rfl)) Ab)))))
 (Ai (Ei (CZ hr) (pv 3) (pv 7) (pv 8) rfl))))))))))))))),?_⟩
 have l1:=L.l1
 have l2:=L.l2
 have l3:=L.l3
 have l4:=L.wi.l1
 refine⟨_,rfl,a.b,n,6,rfl,L.bag,by omega,by decide,by decide,λr H1 r0 r1 hb1 sb1=>?_⟩
 have L1:=L.drawn sb1 hb1
 have F1:=L.frB sb1
 refine⟨_,rfl,Qa L1.ho λls bs hls hbs=>?_⟩
 have s2:=Af hls (.lst (bs.map V.ref))
 have L2:=L1.same s2
 have lbs:=QbR hbs
 have lst:(stV hs).length=hs.length:=by unfold stV;rw[Qbx]
 refine⟨_,rfl,_,rfl,a.h,_,rfl,L2.ho,a.b,n+1,_,rfl,L2.bag,by omega,?_⟩
 rw[lst]
 refine⟨by omega,by omega,λi H3 i0 i1 hb3 sb3=>?_⟩
 have nls:ls≠a.b:=(L1.bag.nb hls).symm
 obtain⟨k,rfl⟩ : ∃k:Nat,i=(k:Int):=⟨i.toNat,(Int.toNat_of_nonneg i0).symm⟩
 have hkl:k < hs.length:=by omega
 have hbk:bs[k]?=some bs[k]:=Qal (by omega)
 obtain⟨kv,hkv,hbt⟩:=Paired.Ci hbs hbk
 have hsk:hs[k]?=some hs[k]:=Qal hkl
 have ekv:kv.1=k3 hs[k].1:=by
  unfold stV at hkv
  rw[Qbc,hsk] at hkv
  cases hkv
  rfl
 rw[ekv] at hbt
 have L3:=L2.drawn sb3 hb3
 have F3:=(F1.trans (FrS.of s2)).trans (L2.frB sb3)
 have t3:=sb3.tup L2.bag.Ew
 have C8:H3 bs[k]=some (.tup [.int hs[k].1.lp,.int hs[k].1.at_,.int hs[k].1.n]):=t3 _ _ (s2 _ _ hbt)
 have sIn:hs[k].1∈hs.map (·.1):=Qca.mpr ⟨hs[k],List.getElem_mem hkl,rfl⟩
 refine⟨ls,_,_,_,rfl,rfl,SqL.of (sb3 _ _ Ac nls),FW (xs:=bs.map V.ref) (j:=k) (by rw[Qbc,hbk];rfl),?_⟩
 generalize hs[k].1=s1 at *
 generalize bs[k]=b1 at *
 clear hbt hbk hkv ekv hbs lbs
 obtain⟨xs,x1,x2⟩:=L3.ev
 have lx:=QbR x2
 rw[Qbx] at lx
 refine⟨_,rfl,_,rfl,_,rfl,a.v,_,rfl,.inl (SqL.of x1),a.b,n+1+1,_,rfl,L3.bag,by omega,by omega,by omega,λi2 H4 j0 j1 hb4 sb4=>?_⟩
 obtain⟨m,rfl⟩ : ∃m:Nat,i2=(m:Int):=⟨i2.toNat,(Int.toNat_of_nonneg j0).symm⟩
 have L4:=L3.drawn sb4 hb4
 have F4:=F3.trans (L3.frB sb4)
 have t4:=sb4.tup L3.bag.Ew
 have hml:m < xs.length:=by omega
 have hxm:xs[m]?=some xs[m]:=Qal hml
 obtain⟨s2',hs2,b2,eb2,hb2⟩:=Paired.Ci x2 hxm
 have cM:=t4 _ _ C8
 have X5:=t4 _ _ hb2
 have kE:s2'∈fl.map (·.1):=Qaz hs2
 refine⟨a.v,_,_,_,rfl,rfl,SqL.of (sb4 _ _ x1 L3.nbv),FW (xs:=xs) (j:=m) hxm,?_⟩
 rw[eb2]
 obtain⟨dx,hp4⟩:=L4.wi.ins
 have thS:Th H4 (.ref b1):=Qx ⟨b1,rfl,cM⟩
 have thP:Th H4 (.ref b2):=Qx ⟨b2,rfl,X5⟩
 obtain⟨m0,m1,m2,m3,m4⟩:=L4.nb
 have noS:¬Kq H4 (.ref b1) (hs.map (·.1))->False:=λz=>z ⟨b1,s1,rfl,cM,sIn⟩
 have noP:¬Kq H4 (.ref b2) (fl.map (·.1))->False:=λz=>z ⟨b2,s2',rfl,X5,kE⟩
 have eqS:∀(b:Addr) (s':Sp3),V.ref b1=.ref b->H4 b=some (.tup [.int s'.lp,.int s'.at_,.int s'.n])->s'=s1:=λb s' e1 e2=>by
  cases e1
  rw[cM] at e2
  cases s1
  cases s'
  cases e2
  rfl
 have eqP:∀(b:Addr) (s':Sp3),V.ref b2=.ref b->H4 b=some (.tup [.int s'.lp,.int s'.at_,.int s'.n])->s'=s2':=λb s' e1 e2=>by
  cases e1
  rw[X5] at e2
  cases s2'
  cases s'
  cases e2
  rfl
 have kh:∀(z:Str) (H5:Hp),PyData.strOk z=true->WAt C H5 a.p a.pl a.d1 a.d2 a.d3 (CQ hs s1 z) fl->Ah a.d1 H4 H5->∃H6,Gu H5 a.h (.ref b1) (.str z) H6/\Q .non H6:=λz H5 hz W5 sB=>by
  have nt5:∀zs,H4 a.d1≠some (.tup zs):=λzs e=>by rw[L4.wi.st] at e;cases e
  have t5:=sB.tup nt5
  have hh5:=sB _ _ L4.ho L4.n1h
  have nth:∀zs,H5 a.h≠some (.tup zs):=λzs e=>by rw[hh5] at e;cases e
  refine⟨_,Gu.t (k:=k3 s1) hh5 (t5 _ _ cM) (Ao (by rw[lst];omega)),?_⟩
  rw[Qu sIn]
  have t6:=Am.upd (o:=.dT (stV (CQ hs s1 z))) nth
  obtain⟨kvs,e1,e2⟩:=L4.te
  obtain⟨dx5,hp5⟩:=W5.ins
  obtain⟨kv5,f1,f2⟩:=W5.fi
  obtain⟨ys,y1,_⟩:=L4.ev
  obtain⟨zs',z1,_⟩:=L4.wn
  have nph:a.p≠a.h:=λe=>by rw[e,hh5] at hp5;cases hp5
  have nbh:a.b≠a.h:=m3.symm
  have nvh:a.v≠a.h:=λe=>by rw[e,L4.ho] at y1;cases y1
  have nwh:a.w≠a.h:=λe=>by rw[e,L4.ho] at z1;cases z1
  have nv1:a.v≠a.d1:=λe=>by rw[e,L4.wi.st] at y1;cases y1
  have nw1:a.w≠a.d1:=λe=>by rw[e,L4.wi.st] at z1;cases z1
  have ksN:∀x∈CQ hs s1 z,PyData.strOk x.2=true:=λx hx=>by
   rcases GP.mp (show (x.1,x.2)∈_ from hx) with⟨_,e,_⟩|⟨_,h⟩
   ·rw[e];exact hz
   ·exact L4.ks _ h
  have W6:WAt C (upd H5 a.h (.dT (stV (CQ hs s1 z)))) a.p a.pl a.d1 a.d2 a.d3 (CQ hs s1 z) fl:=W5.Cu Ah.upd nth nph L4.n1h.symm L4.n2h.symm
  refine q (CQ hs s1 z) fl th _ (L4.step (n':=n+5) (t5.trans t6) ?_ W6 Ac ⟨kvs,by rw[Al L4.nhe.symm];exact sB _ _ e1 L4.n1e,Paired.Az e2 λ_ _ y=>(y.tups t5).tups t6⟩ (λo e=>by rw[Al nvh];exact sB _ _ e nv1) (λo e=>by rw[Al nwh];exact sB _ _ e nw1) L4.rel (Fq _ _ _) rfl L4.kf ksN) (F4.trans λc o e n1 n2 n3 n4 n5=>by rw[Al n4];exact sB _ _ e n2)
  have:=(hb4.Cu sB m1.symm).Cu (Ah.upd (b:=a.h) (o:=.dT (stV (CQ hs s1 z)))) nbh
  exact this.mono (by omega)
 refine⟨_,rfl,_,_,rfl,rfl,_,rfl,Fv (λ_=>?_) (λ_=>⟨_,rfl,rfl,_,rfl,Fv (λ_=>?_) (λ_=>⟨_,rfl,rfl,_,rfl,Fv (λ_=>?_) (λ_=>⟨_,rfl,rfl,_,rfl,Fv (λ_=>?_) (λ_=>?_)⟩)⟩)⟩)⟩
 ·refine⟨_,rfl,a.p,dx,_,rfl,hp4,fno (by trivial),_,rfl,a.p,a.pl,a.d1,a.d2,a.d3,hs,fl,.ref b1,rfl,L4.wi,L4.n12,thS,(λb s' e1 e2 _ H5 W5 sB=>?_),λz=>(noS z).elim⟩
  cases eqS b s' e1 e2
  obtain⟨H6,Oi,hq⟩:=kh "cut" H5 (by trivial) W5 sB
  exact⟨_,rfl,_,rfl,a.h,H6,rfl,Oi,hq⟩
 ·refine⟨_,rfl,a.p,dx,_,rfl,hp4,fno (by trivial),_,rfl,a.p,a.pl,a.d1,a.d2,a.d3,hs,fl,.ref b1,rfl,L4.wi,L4.n12,thS,(λb s' e1 e2 _ H5 W5 sB=>?_),λz=>(noS z).elim⟩
  cases eqS b s' e1 e2
  obtain⟨H6,Oi,hq⟩:=kh "short" H5 (by trivial) W5 sB
  exact⟨_,rfl,_,rfl,a.h,H6,rfl,Oi,hq⟩
 ·refine⟨_,rfl,a.p,dx,_,rfl,hp4,fno (by trivial),_,rfl,a.p,a.pl,a.d1,a.d2,a.d3,hs,fl,.ref b1,rfl,L4.wi,L4.n12,thS,(λb s' e1 e2 _ H5 W5 sB=>?_),λz=>(noS z).elim⟩
  cases eqS b s' e1 e2
  obtain⟨H6,Oi,hq⟩:=kh "whole" H5 (by trivial) W5 sB
  exact⟨_,rfl,_,rfl,a.h,H6,rfl,Oi,hq⟩
 ·
  refine⟨_,rfl,a.p,dx,_,rfl,hp4,fno (by trivial),_,rfl,a.p,a.pl,a.d1,a.d2,a.d3,hs,fl,.ref b2,rfl,L4.wi,L4.n12,thP,(λb s' e1 e2 _ H5 W5 sB=>?_),λz=>(noP z).elim⟩
  cases eqP b s' e1 e2
  obtain⟨kvs,e3,e4⟩:=L4.te
  obtain⟨kv4,g3,g4⟩:=L4.wi.fi
  have nt5:∀zs,H4 a.d2≠some (.tup zs):=λzs e=>by rw[g3] at e;cases e
  have t5:=sB.tup nt5
  have he5:=sB _ _ e3 L4.n2e
  obtain⟨ys,y1,_⟩:=L4.ev
  obtain⟨zs',z1,_⟩:=L4.wn
  have nv2:a.v≠a.d2:=λe=>by rw[e,g3] at y1;cases y1
  have nw2:a.w≠a.d2:=λe=>by rw[e,g3] at z1;cases z1
  have hb5:=hb4.Cu sB m2.symm
  have e45:Paired (Hf H5) kvs th:=Paired.Az e4 λ_ _ y=>y.tups t5
  have F5:FrS a H4 H5:=λc o e n1 n2 n3 n4 n5=>sB _ _ e n3
  have kfN:∀s d,(s,some d)∈CQ fl s2' none->Cz d.1:=λs d h=>by
   rcases GP.mp h with⟨_,e,_⟩|⟨_,h⟩
   ·cases e
   ·exact L4.kf s d h
  refine⟨_,rfl,a.e,rfl,.inr ⟨_,.inl he5⟩,_,rfl,Ar (by show 0<=1000;decide),λte hte=>?_⟩
  have s6:=Af hte (.tup [])
  have t6:=Am.of s6
  refine⟨kvs,k3 s2',b2,s6 _ _ he5,rfl,s6 _ _ (t5 _ _ X5),(λj v hj=>?_),(λhno=>?_)⟩
  ·obtain⟨x,hx,ex,_⟩:=Paired.Ci e45 hj
   have ex:x.1=s2':=(Fo ex).symm
   have rel:=L4.rel.AR hx
   rw[ex] at rel
   have he6:=s6 _ _ he5
   have nte:∀zs,(upd H5 te (.tup [])) a.e≠some (.tup zs):=λzs e=>by rw[he6] at e;cases e
   have t7:=Am.upd (o:=.dT (kvs.eraseIdx j)) nte
   have W6:=W5.same s6
   obtain⟨dx6,hp6⟩:=W6.ins
   have npe:a.p≠a.e:=λe=>by rw[e,he6] at hp6;cases hp6
   have nve:a.v≠a.e:=λe=>by rw[e,e3] at y1;cases y1
   have nwe:a.w≠a.e:=λe=>by rw[e,e3] at z1;cases z1
   refine q hs (CQ fl s2' none) (th.eraseIdx j) _ (L4.step (n':=n+5) (t5.trans (t6.trans t7)) ?_ (W6.Cu Ah.upd nte npe L4.n1e.symm L4.n2e.symm) (by rw[Al L4.nhe];exact s6 _ _ (sB _ _ L4.ho L4.n2h)) ⟨_,Ac,Paired.Az (Oo j e45) λ_ _ y=>(y.tups t6).tups t7⟩ (λo e=>by rw[Al nve];exact s6 _ _ (sB _ _ e nv2)) (λo e=>by rw[Al nwe];exact s6 _ _ (sB _ _ e nw2)) rel rfl (Fq _ _ _) kfN L4.ks) (F4.trans (F5.trans ((FrS.of s6).trans λc o e n1 n2 n3 n4 n5=>by rw[Al n5];exact e)))
   exact ((hb5.same s6).Cu Ah.upd m4.symm).mono (by omega)
  ·have hno':∀x∈th,x.1≠s2':=λx hx e=>by
    obtain⟨j,hj⟩:=QaC hx
    have:(kvs.map (·.1))[j]?=some (k3 x.1):=by rw[Sq e45,Qbc,hj];rfl
    rw[Qbc] at this
    obtain⟨kv,hkv,ekv⟩:=Qau.mp this
    exact hno j kv.2 (by rw[hkv,<-e,<-ekv])
   have rel:=L4.rel.AQ hno'
   refine q hs (CQ fl s2' none) th _ (L4.step (n':=n+5) (t5.trans t6) ((hb5.same s6).mono (by omega)) (W5.same s6) (s6 _ _ (sB _ _ L4.ho L4.n2h)) ⟨kvs,s6 _ _ he5,Paired.Az e45 λ_ _ y=>y.tups t6⟩ (λo e=>s6 _ _ (sB _ _ e nv2)) (λo e=>s6 _ _ (sB _ _ e nw2)) rel rfl (Fq _ _ _) kfN L4.ks) (F4.trans (F5.trans (FrS.of s6)))
 ·
  refine⟨Ar (by show 4<=1000;decide),λlq hlq=>?_⟩
  have s5:=Af hlq (.lst [.str "seeker",.str "knob",.str "bell",.str "door"])
  have L5:=L4.same s5
  refine⟨_,rfl,a.b,_,4,rfl,L5.bag,by omega,by decide,by decide,λrk H6 q0 q1 hb6 sb6=>?_⟩
  have L6:=L5.drawn sb6 hb6
  have nlq:lq≠a.b:=(L4.bag.nb hlq).symm
  obtain⟨kk,hkk,okk⟩ : ∃kk:Str,atI [V.str "seeker",.str "knob",.str "bell",.str "door"] rk=some (.str kk)/\Cz kk:=by
   have:rk=0\/rk=1\/rk=2\/rk=3:=by omega
   rcases this with rfl | rfl | rfl | rfl
   ·exact⟨_,rfl,.inl rfl⟩
   ·exact⟨_,rfl,.inr (.inl rfl)⟩
   ·exact⟨_,rfl,.inr (.inr (.inl rfl))⟩
   ·exact⟨_,rfl,.inr (.inr (.inr rfl))⟩
  refine⟨lq,_,_,_,rfl,rfl,SqL.of (sb6 _ _ Ac nlq),hkk,?_⟩
  refine⟨_,rfl,a.b,_,99,rfl,L6.bag,by omega,by decide,by decide,λrx H7 w0 w1 hb7 sb7=>?_⟩
  have L7:=L6.drawn sb7 hb7
  have F7:=(F4.trans (FrS.of s5)).trans ((L5.frB sb6).trans (L6.frB sb7))
  refine⟨_,_,rfl,rfl,Ar (by show 2<=1000;decide),λtd htd=>?_⟩
  have s8:=Af htd (.tup [.str kk,.int (1+rx)])
  have L8:=L7.same s8
  have pq:(upd H7 td (.tup [.str kk,.int (1+rx)])) td=some (.tup [.str kk,.int (1+rx)]):=Ac
  have F8:=F7.trans (FrS.of s8)
  have t48:Am H4 (upd H7 td (.tup [.str kk,.int (1+rx)])):=((Am.of s5).trans (sb6.tup L5.bag.Ew)).trans ((sb7.tup L6.bag.Ew).trans (Am.of s8))
  generalize upd H7 td (.tup [.str kk,.int (1+rx)])=H8 at *
  have cN:=t48 _ _ X5
  obtain⟨dx8,hp8⟩:=L8.wi.ins
  refine⟨_,rfl,a.p,dx8,_,rfl,hp8,fno (by trivial),_,rfl,_,rfl,td,_,_,_,rfl,rfl,SqT.of pq,rfl,_,rfl,td,_,_,_,rfl,rfl,SqT.of pq,rfl,a.p,a.pl,a.d1,a.d2,a.d3,hs,fl,.ref b2,kk,1+rx,rfl,L8.wi,L8.n12,Qx ⟨b2,rfl,cN⟩,(λb s' e1 e2 _ H9 W9 sB=>?_),λz=>(z ⟨b2,s2',rfl,cN,kE⟩).elim⟩
  have es:s'=s2':=by
   cases e1
   rw[cN] at e2
   cases s2'
   cases s'
   cases e2
   rfl
  subst es
  obtain⟨kvs,e3,e4⟩:=L8.te
  obtain⟨kv8,g3,g4⟩:=L8.wi.fi
  have nt5:∀zs,H8 a.d2≠some (.tup zs):=λzs e=>by rw[g3] at e;cases e
  have t5:=sB.tup nt5
  have he5:=sB _ _ e3 L8.n2e
  obtain⟨ys,y1,_⟩:=L8.ev
  obtain⟨zs',z1,_⟩:=L8.wn
  have nv2:a.v≠a.d2:=λe=>by rw[e,g3] at y1;cases y1
  have nw2:a.w≠a.d2:=λe=>by rw[e,g3] at z1;cases z1
  have nve:a.v≠a.e:=λe=>by rw[e,e3] at y1;cases y1
  have nwe:a.w≠a.e:=λe=>by rw[e,e3] at z1;cases z1
  have hb9:=L8.bag.Cu sB m2.symm
  have e45:Paired (Hf H9) kvs th:=Paired.Az e4 λ_ _ y=>y.tups t5
  have lth:th.length<=200:=by
   have h1:=Oc L8.rel.nd (m:=fl.map (·.1)) λs hs=>by
    obtain⟨x,hx,rfl⟩:=Qca.mp hs
    exact Qca.mpr ⟨_,(L8.rel.iff x.1 x.2).mp hx,rfl⟩
   rw[Qbx,Qbx] at h1
   omega
  have lkv:=QbR e45
  have F9:FrS a H8 H9:=λc o e n1 n2 n3 n4 n5=>sB _ _ e n3
  refine⟨_,rfl,_,rfl,_,rfl,a.e,_,rfl,Gu.t (k:=k3 s') he5 (t5 _ _ cN) (Ao (by omega)),?_⟩
  have nte:∀zs,H9 a.e≠some (.tup zs):=λzs e=>by rw[he5] at e;cases e
  have t7:=Am.upd (o:=.dT (putK kvs (k3 s') (.ref td))) nte
  obtain⟨dx9,hp9⟩:=W9.ins
  have npe:a.p≠a.e:=λe=>by rw[e,he5] at hp9;cases hp9
  have C6:=t5 _ _ pq
  have kfP:∀s d,(s,some d)∈CQ fl s' (some (kk,1+rx))->Cz d.1:=λs d h=>by
   rcases GP.mp h with⟨_,e,_⟩|⟨_,h⟩
   ·rw[QbB e];exact okk
   ·exact L8.kf s d h
  refine q hs (CQ fl s' (some (kk,1+rx))) (if s'∈th.map (·.1) then CQ th s' (kk,1+rx) else th++[(s',(kk,1+rx))]) _ (L8.step (n':=n+5) (t5.trans t7) ?_ (W9.Cu Ah.upd nte npe L8.n1e.symm L8.n2e.symm) (by rw[Al L8.nhe];exact sB _ _ L8.ho L8.n2h) ⟨_,Ac,?_⟩ (λo e=>by rw[Al nve];exact sB _ _ e nv2) (λo e=>by rw[Al nwe];exact sB _ _ e nw2) (L8.rel.put kE) rfl (Fq _ _ _) kfP L8.ks) (F8.trans (F9.trans λc o e n1 n2 n3 n4 n5=>by rw[Al n5];exact e))
  ·exact (hb9.Cu Ah.upd m4.symm).mono (by omega)
  ·have e46:Paired (Hf (upd H9 a.e (.dT (putK kvs (k3 s') (.ref td))))) kvs th:=Paired.Az e45 λ_ _ y=>y.tups t7
   have hd7:=t7 _ _ C6
   exact uO (upd H9 a.e (.dT (putK kvs (k3 s') (.ref td)))) hd7 e46
end
abbrev Hy:Stmt:=top 63
abbrev qF:List Str:=["_law_script"]
theorem Fy:Ay ["_law_script","_law_bag_here","_law_plan_here","_law_wires","_law_wire_names","_law_there","_law_every","_law_hows","_law_k","_law_again","_law_told"] qF (Aj Hy):=⟨rfl,rfl,rfl,by trivial,rfl,by trivial,by trivial⟩
def T9 (x:Sp3×(Str×Int)):Sd:=⟨x.1.lp,x.1.at_,x.1.n,x.2.1,x.2.2⟩
theorem fP (x:Sp3×(Str×Int)):(T9 x).spot=x.1:=rfl
theorem Xc {α : Type} (c:α->Int):∀{l m:List α},(l.map c).Pairwise (· < ·)->(m.map c).Pairwise (· < ·)->(∀x,x∈l ↔ x∈m)->l=m
 | [],[],_,_,_=>rfl
 | [],b::m,_,_,h=>by have:=(h b).mpr (QaN ..);cases this
 | a::l,[],_,_,h=>by have:=(h a).mp (QaN ..);cases this
 | a::l,b::m,hl,hm,h=>by
  obtain⟨l1,l2⟩:=List.pairwise_cons.mp hl
  obtain⟨m1,m2⟩:=List.pairwise_cons.mp hm
  have l1:∀x∈l,c a < c x:=λx hx=>l1 _ (Qca.mpr ⟨x,hx,rfl⟩)
  have m1:∀x∈m,c b < c x:=λx hx=>m1 _ (Qca.mpr ⟨x,hx,rfl⟩)
  have e:a=b:=by
   rcases QbS.mp ((h a).mp (QaN ..)) with e | e
   ·exact e
   ·have:=m1 a e
    rcases QbS.mp ((h b).mpr (QaN ..)) with e2 | e2
    ·exact e2.symm
    ·have:=l1 b e2
     omega
  subst e
  rw[Xc c l2 m2 λx=>⟨λhx=>?_,λhx=>?_⟩]
  ·rcases QbS.mp ((h x).mp (QaA _ hx)) with e | e
   ·have:=l1 x hx;rw[e] at this;omega
   ·exact e
  ·rcases QbS.mp ((h x).mpr (QaA _ hx)) with e | e
   ·have:=m1 x hx;rw[e] at this;omega
   ·exact e
theorem Rn:∀fl:List (Sp3×Option (Str×Int)),((EY fl).map λd=>cd3 d.spot).Sublist ((fl.map (·.1)).map cd3)
 | []=>.slnil
 | (s,none)::r=>(Rn r).cons _
 | (s,some d)::r=>(Rn r).cons_cons _
theorem Wk {fl:List (Sp3×Option (Str×Int))} {x:Sd}:x∈EY fl ↔ ∃s d,(s,some d)∈fl/\x=T9 (s,d):=by
 unfold EY
 rw[List.mem_filterMap]
 constructor
 ·rintro ⟨⟨s,o⟩,h1,h2⟩
  cases o with
  | none=>cases h2
  | some d=>cases h2;exact⟨s,d,h1,rfl⟩
 ·rintro ⟨s,d,h1,rfl⟩
  exact⟨(s,some d),h1,rfl⟩
theorem qY {fl:List (Sp3×Option (Str×Int))} {th:List (Sp3×(Str×Int))} (R:Rel fl th) (hr:((fl.map (·.1)).map cd3).Pairwise (· < ·)) {is:List Nat} (hp:is.Perm (List.range th.length)) (df:Sp3×(Str×Int)) (hi:(is.map λi=>(th.map λx=>cd3 x.1).getD i 0).Pairwise (· < ·)):is.map (λi=>T9 (th.getD i df))=EY fl:=by
 have lt:∀i∈is,i < th.length:=λi h=>QbQ.mp (hp.mem_iff.mp h)
 refine Xc (λd=>cd3 d.spot) ?_ (List.Pairwise.sublist (Rn fl) hr) λx=>?_
 ·rw[Qce]
  have e:is.map ((λd=>cd3 d.spot) ∘ λi=>T9 (th.getD i df))=is.map λi=>(th.map λx=>cd3 x.1).getD i 0:=List.map_congr_left λi h=>by
   have:=lt i h
   simp[fP,this]
  rw[e]
  exact hi
 ·rw[Wk,Qca]
  constructor
  ·rintro ⟨i,h,rfl⟩
   have hl:=lt i h
   have e:th.getD i df=th[i]:=by simp[hl]
   rw[e]
   exact⟨th[i].1,th[i].2,(R.iff _ _).mp (List.getElem_mem hl),rfl⟩
  ·rintro ⟨s,d,h,rfl⟩
   obtain⟨i,hi2⟩:=QaC ((R.iff s d).mpr h)
   have hl:=(Qai.mp hi2).1
   refine⟨i,hp.mem_iff.mpr (QbQ.mpr hl),?_⟩
   have e:th.getD i df=(s,d):=by rw[Qah,hi2];rfl
   rw[e]
def sdD (d:Sd):PyData:=.tuple [.tuple [.int d.lp,.int d.at_,.int d.n],.str d.kind,.int d.addr]
theorem Ro {H:Hp}:∀{vs:List V} {ds:List Sd},Paired (GX H) vs ds->Kr H vs (ds.map sdD)
 | _,_,.nil=>.nil
 | _,_,.cons ⟨t,u,e,h1,h2⟩ r=>by
  subst e
  exact .cons (.tup h1 (.cons (.tup h2 (.cons (.int _) (.cons (.int _) (.cons (.int _) .nil)))) (.cons (.str _) (.cons (.int _) .nil)))) (Ro r)
theorem ZQ:∀{ds:List Sd},(∀d∈ds,Cz d.kind)->PyData.canLayAll0 (ds.map sdD)=true/\PyData.depthAll (ds.map sdD)<=2
 | [],_=>⟨rfl,by show 0<=2;decide⟩
 | d::r,h=>by
  have ih:=ZQ (ds:=r) λx hx=>h x (QaA _ hx)
  refine⟨?_,?_⟩
  ·show (((true&&(true&&(true&&true)))&&(PyData.canLay0 (.str d.kind)&&(true&&true)))&&PyData.canLayAll0 (r.map sdD))=true
   rw[RJ (h d QaN),ih.1];rfl
  ·show max (max (max 0 (max 0 (max 0 0))+1) (max 0 (max 0 0))+1) (PyData.depthAll (r.map sdD))<=2
   exact Nat.max_le.mpr ⟨by decide,ih.2⟩
theorem NT {ds:List Sd} (h:∀d∈ds,Cz d.kind):SeqAt.shaped (.list (ds.map sdD))=true:=by
 have h1:=ZQ h
 show (PyData.canLayAll0 (ds.map sdD)&&decide (PyData.depthAll (ds.map sdD)+1<=64))=true
 rw[h1.1,Bool.true_and]
 exact QbM (by omega)
theorem Wq:∀{zs:List Str},(∀z∈zs,PyData.strOk z=true)->PyData.canLayAll0 (zs.map PyData.str)=true/\PyData.depthAll (zs.map PyData.str)<=1
 | [],_=>⟨rfl,by show 0<=1;decide⟩
 | z::r,h=>by
  have ih:=Wq (zs:=r) λx hx=>h x (QaA _ hx)
  refine⟨?_,?_⟩
  ·show (PyData.strOk z&&PyData.canLayAll0 (r.map PyData.str))=true
   rw[h z QaN,ih.1];rfl
  ·show max 0 (PyData.depthAll (r.map PyData.str))<=1
   exact Nat.max_le.mpr ⟨by decide,ih.2⟩
theorem Mt {zs:List Str} (h:∀z∈zs,PyData.strOk z=true):SeqAt.shaped (.list (zs.map PyData.str))=true:=by
 have h1:=Wq h
 show (PyData.canLayAll0 (zs.map PyData.str)&&decide (PyData.depthAll (zs.map PyData.str)+1<=64))=true
 rw[h1.1,Bool.true_and]
 exact QbM (by omega)
def th0 (loops:List (List Place)):List (Sp3×(Str×Int)):=(up (pdL loops) loops.length).map λd=>(d.spot,(d.kind,d.addr))
theorem aA {H:Hp}:∀{kvs:List (List Key×V)} {ds:List Sd},Paired (Dp H) kvs (ds.map gF)->Paired (Hf H) kvs (ds.map λd=>(d.spot,(d.kind,d.addr)))
 | [],[],.nil=>.nil
 | _::_,_::_,.cons h t=>.cons ⟨h.1,h.2⟩ (aA t)
theorem Z6 {H:Hp}:∀{bs:List Addr} {kvs:List (List Key×V)} {ds:List Sd},Paired (λb (kv:List Key×V)=>H b=some (.tup (kv.1.map kV))) bs kvs->Paired (Dp H) kvs (ds.map gF)->Paired (Fx H) (bs.map V.ref) (ds.map Sd.spot)
 | [],[],[],.nil,.nil=>.nil
 | _::_,_::_,_::_,.cons h1 t1,.cons h2 t2=>by
  refine .cons ⟨_,rfl,?_⟩ (Z6 t1 t2)
  rw[h1,h2.1]
  rfl
theorem AG (loops:List (List Place)) (ok:Ep loops):Rel (fl0 loops) (th0 loops):=by
 refine⟨by unfold th0;rw[Qce];exact dw ok,λs d=>?_⟩
 unfold fl0 th0
 rw[Qca,Qca]
 constructor
 ·rintro ⟨x,h1,h2⟩
  injection h2 with e1 e2
  exact⟨x,h1,by rw[e1,e2]⟩
 ·rintro ⟨x,h1,h2⟩
  injection h2 with e1 e2
  exact⟨x,h1,by rw[e1,QbB e2]⟩
theorem YJ (lp a:Int) {ds:List Dev} (h:∀d∈ds,Cz d.kind):∀n,∀d∈BX lp a n ds,Cz d.kind:=by
 induction ds with
 | nil=>intro n d hd;cases hd
 | cons x r ih=>
  intro n d hd
  rcases QbS.mp hd with rfl | hd
  ·exact h x QaN
  ·exact ih (λy hy=>h y (QaA _ hy)) (n+1) d hd
theorem pP {loops:List (List Place)} (ok:Ep loops):∀d∈up (pdL loops) loops.length,Cz d.kind:=λd hd=>by
 obtain⟨k,hk,hd⟩:=Jm hd
 obtain⟨ps,hps,hd⟩:=Jw hd
 obtain⟨i,hi,hd⟩:=Jm hd
 obtain⟨p,hp,hd⟩:=Jw hd
 have okp:=(ok.ok ps (Qaz hps)).ok p (Qaz hp)
 unfold Br at hd
 split at hd
 ·cases hd
 ·rename_i hop
  rcases QbS.mp hd with rfl | hd
  ·rcases okp.form with⟨e,_⟩| h
   ·exact absurd (by rw[e]) hop
   ·exact h
  ·exact YJ _ _ okp.kinds 1 d hd
theorem vm {loops:List (List Place)} (h:1<=loops.length):1<=(up (stL loops) loops.length).length:=by
 have h0:loops[0]?=some loops[0]:=Qal (by omega)
 have:(⟨((0:Nat):Int),0,0⟩ : Sp3)∈up (stL loops) loops.length:=V0 (i:=0) (by unfold stL;rw[Di h0];exact QaN ..) (by omega)
 exact List.length_pos_of_mem this
theorem qI {K:PySem.W.Frag} {H H':Hp} (s:Same H H'):∀{bs:List Addr} {kvs:List (List Key×V)} {th:List (Sp3×(Str×Int))},Paired (λb (kv:List Key×V)=>H b=some (.tup (kv.1.map kV))) bs kvs->Paired (Hf H) kvs th->(∀x∈th,Bd3 x.1)->Paired (TQ K H') (bs.map V.ref) (th.map λx=>cd3 x.1)
 | [],[],[],.nil,.nil,_=>.nil
 | _::_,_::_,x::_,.cons h1 t1,.cons h2 t2,hb=>by
  refine .cons ⟨_,x.1.lp,x.1.at_,x.1.n,rfl,SqT.of (s _ _ ?_),(hb x QaN).c3⟩ (qI s t1 t2 λy hy=>hb y (QaA _ hy))
  rw[h1,h2.1]
  rfl
theorem pR {th:List (Sp3×(Str×Int))} (nd:(th.map (·.1)).Nodup) (hb:∀x∈th,Bd3 x.1):(th.map λx=>cd3 x.1).Nodup:=by
 induction th with
 | nil=>exact QbO
 | cons a r ih=>
  obtain⟨n1,n2⟩:=QbE.mp nd
  refine QbE.mpr ⟨λh=>?_,ih n2 λx hx=>hb x (QaA _ hx)⟩
  obtain⟨x,hx,e⟩:=Qca.mp h
  exact n1 (Qca.mpr ⟨x,hx,(hb x (QaA _ hx)).inj (hb a QaN) e⟩)
theorem tK {β : Type} {l:List (Sp3×β)} (nd:(l.map (·.1)).Nodup) {x y:Sp3×β} (hx:x∈l) (hy:y∈l) (e:x.1=y.1):x=y:=by
 induction l with
 | nil=>cases hx
 | cons a r ih=>
  obtain⟨n1,n2⟩:=QbE.mp nd
  rcases QbS.mp hx with e1 | h1
  ·rcases QbS.mp hy with e2 | h2
   ·rw[e1,e2]
   ·exact (n1 (by show a.1∈_;rw[<-e1,e];exact Qca.mpr ⟨y,h2,rfl⟩)).elim
  ·rcases QbS.mp hy with e2 | h2
   ·exact (n1 (by show a.1∈_;rw[<-e2,<-e];exact Qca.mpr ⟨x,h1,rfl⟩)).elim
   ·exact ih n2 h1 h2
theorem LS.wB {C:Addr} {H H':Hp} {a:Ad} {n n':Nat} {hs:List (Sp3×Str)} {fl:List (Sp3×Option (Str×Int))} {th:List (Sp3×(Str×Int))} {b:Addr} (L:LS C H a n hs fl th) (s:Same H H') (hb:H b=none) (bag:Bp H' b n'):LS C H' { a with b:=b } n' hs fl th:=by
 have L':=L.same s
 obtain⟨xs,x1,_⟩:=L.ev
 obtain⟨ys,y1,_⟩:=L.wn
 exact⟨bag,L'.wi,L'.ho,L'.te,L'.ev,L'.wn,Av x1 hb,Av y1 hb,L'.n12,L'.n1h,L'.n1e,L'.n2h,L'.n2e,L'.nhe,L'.rel,L'.rise,L'.bf,L'.bs,L'.l1,L'.l2,L'.l3,L'.kf,L'.ks⟩
theorem FrS.fresh {a:Ad} {H0 H H':Hp} (s:Same H0 H) (f:FrS a H H') (hb:H0 a.b=none) (h1:H0 a.d1=none) (h2:H0 a.d2=none) (h3:H0 a.h=none) (h4:H0 a.e=none):Same H0 H':=λc o e=>f _ _ (s _ _ e) (Av e hb) (Av e h1) (Av e h2) (Av e h3) (Av e h4)
section
variable {P:Program} {w:World} {K:PySem.W.Frag} {mg:Str->Option Value} {base:Heap} {op oe kd wk C:Addr} {c2:Addr}
theorem v8 {f:Addr} {fd:FuncData} (F:Fun K "law" "law" Hy f fd) (T:Tw K mg op oe kd wk C) (QK:Good P w K mg base "_law_bag" 1 Nu (qz K)) (Bj:Good P w K mg base "_law_take" 1 Ft K6) (pG:Good P w K mg base "_law_plan" 4 Lj fD) (jf:dW P w K mg base C 11 Em (ZP C)) (iW:Good P w K mg base "_law_lists" 1 JX ZM) (pI:Good P w K mg base "_law_deed" 5 Lw (fK C)) (Y4:Good P w K mg base "_law_refused" 5 Hj (fC C)) (iR:TV P w K mg base C "there" 1 Gg (ZD C)) (UG:BZ P w K mg base C "how" 4 Gm (bC C c2)):Ga P w K mg base CX0 13 f fd qF (V2 K):=by
 have sc:=Fy
 refine F.ok Fy (λvs H Q E h=>?_) (λcdv A outer s H vs Q E hr h=>?_)
 ·obtain⟨a,ns,rfl,_⟩:=h
  rfl
 obtain⟨sa,ns,rfl,hS,h63,q⟩:=h
 refine⟨_,(Ag (Bb (i:=1) Fy.nd rfl (Or.inl rfl) (Ax QK hr (Aa (pv 0) (Aa Ae Ab))))
 (Ag (Bb (i:=2) Fy.nd rfl (Or.inl rfl) (Ax pG hr (Aa (pv 1) (Aa Ae (Aa Ae Ab)))))
 (Ag (Bb (i:=3) Fy.nd rfl (Or.inr rfl) (zf jf hr T.mgC (Aa (pv 2) Ab)))
 (Ag (JR (Ax iW hr (Aa (pv 2) Ab)) (CV rfl (Aq (Ak (i:=4) Fy.nd rfl (Or.inl rfl)) (Aq (Ak (i:=5) Fy.nd rfl (Or.inr rfl)) Bw))))
 (Ag (Bb (i:=6) Fy.nd rfl (Or.inl rfl) (Ed (Nh rfl) rfl T.list UW (Aa (pv 5) Ab)))
 (Ag (Bb (i:=7) Fy.nd rfl (Or.inr rfl) (Ed (Ze hr.units rfl) rfl T.dict uw (Aa (Ck (N':=["_law_stretch"]) rfl (Bk.plain rfl (by trivial) (by trivial) (by trivial)) (Dr (pv 4)) (λ_ _ _ _=>(Ak (i:=0) (show List.Nodup (["_law_stretch"]:List Str) by trivial) rfl (Or.inl rfl))) (λ_ _ _ _=>CJ) (λ_ _ _ _=>(Bh (Aa (pv 0) (Aa Bf Ab))))) Ab)))
 (Ag (BW QbA rfl (Cq rfl T.range (Aa (Aw (jz rfl) rfl T.max Yu (Aa Ae (Aa (Aw (Vo rfl) rfl T.min jE (Aa Ae (Aa (Aw Bs rfl T.len CW (Aa (pv 0) Ab)) Ab))) Ab))) Ab)) (Ak (i:=8) Fy.nd rfl (Or.inl rfl))
 (Ag (Bb (i:=1) Fy.nd rfl (Or.inl rfl) (Ax QK hr (Aa (pv 0) (Aa (pv 8) Ab))))
 (Ai (BW QbA rfl (Cq rfl T.range (Aa Ae Ab)) (Ak (i:=9) Fy.nd rfl (Or.inl rfl))
 (Ag (Bg (Ax pI hr (@Aa _ _ _ _ _ (pv 1) (@Aa _ _ _ _ _ (pv 3) (@Aa _ _ _ _ _ (pv 7) (@Aa _ _ _ _ _ (pv 5) (@Aa _ _ _ _ _ (pv 6) (@Ab _) Nj) Nj) Nj) Nj) Nj)))
 (Ag (BP (PW.pt (vN (Bq Gy (Ax Bj hr (Aa (pv 1) (Aa Ae Ab))) Ae (BJ _)) (rO (Fe (Fd (Ax Y4 hr (Aa (pv 1) (Aa (pv 3) (Aa (pv 7) (Aa (pv 6) Ab)))))))))) (Ai (Ba Et)) BR)
 (Ag (Bb (i:=10) Fy.nd rfl (Or.inl rfl) (vO (pv 3) T.cl iR hr))
 (Ag (BP (Bq (gC hr.units) (pv 10) (Ck (N':=["_law_spot","_law_there"]) rfl (Bk.of (src:=[none,some 5]) (Aj Hy) ["_law_script","_law_bag_here","_law_plan_here","_law_wires","_law_wire_names","_law_there","_law_every","_law_hows","_law_k","_law_again","_law_told"] rfl rfl rfl (by trivial) (by trivial) (by trivial) rfl (by trivial)) (Dr (Aw Yr rfl T.sorted Vq (Aa (Ed (Nh rfl) rfl T.list UW (Aa (pv 5) Ab)) Ab))) (λ_ _ _ _=>(Ak (i:=0) (show List.Nodup (["_law_spot","_law_there"]:List Str) by trivial) rfl (Or.inl rfl))) (λ_ _ _ _=>CJ) (λ_ _ _ _=>(Bd Lx (Bh (Aa (pv 0) Ab)) (Uk (CZ hr) (pv 1) (pv 0) (λ_ _=>rfl))))) (BJ _)) (Ai (Ba Et)) BR)
 (Ag (Bg (vU Qaq PySem.F.slot_list_clear PySem.F.type_list_clear mR (pv 10)))
 (Ai (BP (Bq (gC hr.units) (Ck (N':=["_law_stretch","_law_wires"]) rfl (Bk.of (src:=[none,some 3]) (Aj Hy) ["_law_script","_law_bag_here","_law_plan_here","_law_wires","_law_wire_names","_law_there","_law_every","_law_hows","_law_k","_law_again","_law_told"] rfl rfl rfl (by trivial) (by trivial) (by trivial) rfl (by trivial)) (Dr (pv 4)) (λ_ _ _ _=>(Ak (i:=0) (show List.Nodup (["_law_stretch","_law_wires"]:List Str) by trivial) rfl (Or.inl rfl))) (λ_ _ _ _=>CJ) (λ_ _ _ _=>(Dm (pv 1) T.cl UG hr Nq (Aa (pv 0) Ab)))) (Ck (N':=["_law_stretch","_law_hows"]) rfl (Bk.of (src:=[none,some 7]) (Aj Hy) ["_law_script","_law_bag_here","_law_plan_here","_law_wires","_law_wire_names","_law_there","_law_every","_law_hows","_law_k","_law_again","_law_told"] rfl rfl rfl (by trivial) (by trivial) (by trivial) rfl (by trivial)) (Dr (pv 4)) (λ_ _ _ _=>(Ak (i:=0) (show List.Nodup (["_law_stretch","_law_hows"]:List Str) by trivial) rfl (Or.inl rfl))) (λ_ _ _ _=>CJ) (λ_ _ _ _=>(Uk (CZ hr) (pv 1) (pv 0) (λ_ _=>rfl)))) (BJ _)) (Ai (Ba Et)) BR)))))))))))
 (Ai (Ba Et))))))))),?_⟩
 refine⟨_,rfl,sa,ns,0,rfl,hS,h63,by decide,by decide,λb0 o hb0 hb=>?_⟩
 have sb0:=Af hb0 o
 generalize upd H b0 o=H0 at *
 refine⟨_,rfl,b0,0,3,12,rfl,hb,by omega,by omega,by omega,by omega,by omega,λt Ls zs vs zvs loops zones most H1 e1 e2 e3 e4 e5 e6 e7 e8 e9 hb1 sb1=>?_⟩
 have ok:Ep loops:=⟨e4,e6⟩
 have pa:G6 H1 t most loops zones:=⟨⟨Ls,zs,vs,zvs,e1,e2,e3,e7,e8⟩,ok,e5,e9⟩
 have s1:Same H H1:=sb0.Bt sb1 hb0
 clear sb1 e1 e2 e3 e4 e7 e8
 refine⟨_,rfl,λp dx hp hdx ndx=>?_⟩
 have s2:Same H1 (upd (upd H1 dx (.own p)) p (.ins C dx [])):=(Af hdx _).trans (Af (by rw[Al ndx.symm];exact hp) _)
 have hpx:(upd (upd H1 dx (.own p)) p (.ins C dx [])) p=some (.ins C dx []):=Ac
 generalize upd (upd H1 dx (.own p)) p (.ins C dx [])=Hx at *
 refine⟨p,dx,t,most,loops,zones,rfl,hpx,pa.same s2,λd1 d2 d3 H3 f1 f2 n12 W sb=>⟨rfl,?_⟩⟩
 have s3:Same H1 H3:=s2.Bt sb hp
 have fp:H p=none:=s1.free hp
 have fd1:H d1=none:=(s1.trans s2).free f1
 have fd2:H d2=none:=(s1.trans s2).free f2
 have hb3:=hb1.same s3
 have sH3:=s1.trans s3
 clear f1 f2 sb hpx s2 hp hdx ndx
 refine⟨_,rfl,t,most,loops,zones,rfl,pa.same s3,λtt l d xs kvs H4 hl hd htt hll hxs hdd hkv s4=>⟨tt,_,rfl,SqT.of htt,rfl,_,_,rfl,_,_,rfl,rfl,?_⟩⟩
 simp only[QaQ,QaO]
 have fl':H l=none:=sH3.free hl
 have fd':H d=none:=sH3.free hd
 have W4:=W.same s4
 have hb4:=hb3.same s4
 have A0:d≠d1:=λz=>by rw[z] at hd;have:=W.st;rw[hd] at this;cases this
 have AZ:d≠d2:=λz=>by rw[z] at hd;obtain⟨_,this,_⟩:=W.fi;rw[hd] at this;cases this
 have nlb:l≠b0:=(hb3.nb hl).symm
 have sH4:=sH3.trans s4
 clear hl hd
 refine⟨_,rfl,Qa hdd λlv bs hlv hbs=>?_⟩
 have s5:=Af hlv (.lst (bs.map V.ref))
 have w6:(upd H4 lv (.lst (bs.map V.ref))) lv=_:=Ac
 have evp:Paired (Fx (upd H4 lv (.lst (bs.map V.ref)))) (bs.map V.ref) ((up (pdL loops) loops.length).map Sd.spot):=Paired.Az (Z6 hbs hkv) λ_ _ z=>z.tups (Am.of s5)
 have nvb:lv≠b0:=(hb4.nb hlv).symm
 have cT:=s5 _ _ hll
 have pD:=s5 _ _ hdd
 have cL:Paired (Fx (upd H4 lv (.lst (bs.map V.ref)))) xs (up (stL loops) loops.length):=Paired.Az hxs λ_ _ z=>z.tups (Am.of s5)
 have xq:Paired (Dp (upd H4 lv (.lst (bs.map V.ref)))) kvs ((up (pdL loops) loops.length).map gF):=Paired.Az hkv λ_ _ z=>z.tups (Am.of s5)
 have W5:=W4.same s5
 have hb5:=hb4.same s5
 have sH5:=sH4.trans s5
 clear hlv hbs s5 hll hdd hxs hkv W4 hb4 sH4 s4 htt
 generalize upd H4 lv (.lst (bs.map V.ref))=H5 at *
 have lxs:=QbR cL
 have B0:=Wr ok
 refine⟨_,rfl,l,rfl,⟨_,SqL.of cT⟩,λlc hlc=>?_⟩
 refine Gd (xs:=xs) (λi σ HH=>(∃u,σ=[u])/\(∃ys,HH lc=some (.lst ys)/\Paired (YB HH) ys (((up (stL loops) loops.length).take i).map λs=>(k3 s,V.str "whole")))/\Same H5 HH) ⟨⟨_,rfl⟩,⟨[],Ac,.nil⟩,Af hlc _⟩ (λi σ HH _ h=>SqL.of (h.2.2 _ _ cT)) (λi x σ HH hx h=>?_) (fun σ HH h=>?_)
 ·obtain⟨⟨u,rfl⟩,⟨ys,g1,g2⟩,g3⟩:=h
  obtain⟨sp,hsp,u1,rfl,hu1⟩:=Paired.Ci cL hx
  have hi:=(Qai.mp hx).1
  have ly:=QbR g2
  rw[Qbx,Qbp] at ly
  unfold G5
  dsimp only
  refine Ca ⟨_,rfl,Ar (by show 2<=1000;decide),λtr htr=>?_⟩
  have k1:=Af htr (.tup [.ref u1,.str "whole"])
  have g1':=k1 _ _ g1
  have ntl:∀zs,(upd HH tr (.tup [.ref u1,.str "whole"])) lc≠some (.tup zs):=λzs z=>by rw[g1'] at z;cases z
  have sL:=Am.upd (o:=.lst (ys++[.ref tr])) ntl
  refine⟨ys,g1',Ao (by omega),⟨_,rfl⟩,⟨_,Ac,?_⟩,(g3.trans k1).Bt Ah.upd hlc⟩
  rw[Qcq hsp,Qby]
  refine Qck ⟨tr,u1,rfl,sL _ _ Ac,sL _ _ (k1 _ _ (g3 _ _ hu1))⟩ (Paired.Az g2 λv r ⟨t1,b1,a1,a2,a3⟩=>⟨t1,b1,a1,sL _ _ (k1 _ _ a2),sL _ _ (k1 _ _ a3)⟩)
 obtain⟨_,⟨ys,g1,g2⟩,g3⟩:=h
 rw[lxs,Qbo] at g2
 have ndr:((((up (stL loops) loops.length)).map λs=>(k3 s,V.str "whole")).map (·.1)).Nodup:=by
  rw[Qce]
  have:=qw ok
  rw[Qag] at this ⊢
  rw[Qbh]
  exact this.imp λ{a b} h e=>h (Fo e)
 refine⟨lc,ys,_,rfl,g1,g2,ndr,by rw[Qbx];omega,λdh hdh=>?_⟩
 have s6:=Af hdh (.dT ((up (stL loops) loops.length).map λs=>(k3 s,V.str "whole")))
 have hho:(upd HH dh (.dT ((up (stL loops) loops.length).map λs=>(k3 s,V.str "whole")))) dh=some (.dT (stV (hs0 loops))):=by
  rw[Ac]
  unfold stV hs0
  rw[Qce]
  rfl
 have s56:=g3.trans s6
 have fdh:H dh=none:=(sH5.trans g3).free hdh
 have LS0:LS C (upd HH dh (.dT ((up (stL loops) loops.length).map λs=>(k3 s,V.str "whole")))) ⟨b0,p,t,d1,d2,d3,dh,d,lv,l⟩ 3000 (hs0 loops) (fl0 loops) (th0 loops):=by
  have c1:=pa.pok.cnt.1
  have c2:=pa.pok.cnt.2
  have la:(up (pdL loops) loops.length).length=(Cg loops).length:=by rw[<-Ir loops,Qbx]
  have ndh:∀c o,H5 c=some o->dh≠c:=λc o e z=>by
   have:=g3 _ _ e
   rw[<-z,hdh] at this
   cases this
  obtain⟨kv5,v1,v2⟩:=W5.fi
  refine⟨(hb5.same s56).mono (by omega),W5.same s56,hho,⟨kvs,s56 _ _ pD,Paired.Az (aA xq) λ_ _ z=>z.tups (Am.of s56)⟩,⟨_,s56 _ _ w6,?_⟩,⟨_,s56 _ _ cT,?_⟩,nvb,nlb,n12,ndh _ _ W5.st,A0,ndh _ _ v1,AZ,ndh _ _ pD,AG loops ok,?_,?_,?_,?_,?_,?_,?_,?_⟩
  ·rw[QL]
   exact Paired.Az evp λ_ _ z=>z.tups (Am.of s56)
  ·rw[Ux]
   exact Paired.Az cL λ_ _ z=>z.tups (Am.of s56)
  ·rw[QL,Qce]
   exact Yl ok
  ·rw[QL]
   intro s hs
   obtain⟨x,hx,rfl⟩:=Qca.mp hs
   exact yr ok x hx
  ·rw[Ux]
   exact yW ok
  ·unfold hs0
   rw[Qbx]
   exact vm e5
  ·unfold fl0
   rw[Qbx]
   omega
  ·unfold fl0
   rw[Qbx]
   omega
  ·intro s dd h
   unfold fl0 at h
   obtain⟨x,hx,e⟩:=Qca.mp h
   injection e with e1 e2
   have:=pP ok x hx
   rw[<-QbB e2]
   exact this
  ·intro x hx
   unfold hs0 at hx
   obtain⟨y,_,rfl⟩:=Qca.mp hx
   show PyData.strOk "whole"=true
   decide +kernel
 have sH6:Same H (upd HH dh (.dT ((up (stL loops) loops.length).map λs=>(k3 s,V.str "whole")))):=sH5.trans s56
 clear s6 hho s56 g1 g2 g3 W5 hb5 w6 cT pD cL xq evp
 generalize upd HH dh (.dT ((up (stL loops) loops.length).map λs=>(k3 s,V.str "whole")))=H6 at *
 have hl':(ns.map V.int).length=ns.length:=Qbx _
 refine⟨_,rfl,sa,_,rfl,.inl (sH6.seq hS),_,_,rfl,_,_,rfl,_,rfl,?_,?_,?_⟩
 ·rw[hl'];split <;> split <;> omega
 ·rw[hl'];split <;> split <;> omega
 refine Dl (λi σ HH=>∃u1 u8 u9 u10 b hs fl th,σ=[some (.ref sa),u1,some (.ref t),some (.ref p),some (.ref l),some (.ref d),some (.ref lv),some (.ref dh),u8,u9,u10]/\LS C HH ⟨b,p,t,d1,d2,d3,dh,d,lv,l⟩ 3000 hs fl th/\Same H HH) ⟨_,_,_,_,b0,_,_,_,rfl,LS0,sH6⟩ (λi σ HH hi h=>?_) (fun σ HH h=>?_)
 ·obtain⟨u1,u8,u9,u10,bp,hs,fl,th,rfl,L,sm⟩:=h
  rw[hl'] at hi
  have hi':(i:Int)<=100:=by
   revert hi
   split <;> split <;> omega
  refine⟨_,rfl,_,rfl,sa,ns,_,rfl,sm.seq hS,h63,by omega,by omega,λb o hbn xK=>?_⟩
  have s7:=Af hbn o
  have L7:=L.wB s7 hbn xK
  have fb:H b=none:=sm.free hbn
  have sm7:=sm.trans s7
  generalize upd HH b o=H7 at *
  clear L s7 hbn xK sm
  refine⟨_,rfl,by decide,by decide,?_⟩
  rw[show (3:Int).toNat=3 from rfl]
  refine Dl (λj σ HX=>∃u9 u10 hs fl th,σ=[some (.ref sa),some (.ref b),some (.ref t),some (.ref p),some (.ref l),some (.ref d),some (.ref lv),some (.ref dh),some (.int (0+(i:Int))),u9,u10]/\LS C HX ⟨b,p,t,d1,d2,d3,dh,d,lv,l⟩ (10*j) hs fl th/\Same H HX) ⟨_,_,_,_,_,rfl,L7,sm7⟩ (λj σ HX hj h=>?_) (fun σ HX h=>?_)
  ·obtain⟨u9,u10,hs,fl,th,rfl,L,sm⟩:=h
   clear L7 sm7
   refine⟨_,rfl,_,rfl,_,rfl,_,rfl,_,rfl,⟨b,p,t,d1,d2,d3,dh,d,lv,l⟩,10*j,hs,fl,th,rfl,L,by omega,λhs' fl' th' H8 L8 F8=>?_⟩
   have sm8:Same H H8:=F8.fresh sm fb fd1 fd2 fdh fd'
   clear L F8
   dsimp only
   refine Va (I:=uW _ _ _) (fun σ' H'=>σ'=[some (.ref sa),some (.ref b),some (.ref t),some (.ref p),some (.ref l),some (.ref d),some (.ref lv),some (.ref dh),some (.int (0+(i:Int))),some (.int (0+(j:Int))),u10]/\LS C H' ⟨b,p,t,d1,d2,d3,dh,d,lv,l⟩ (10*j+8) hs' fl' th'/\Same H H') (fun σ' H9 h=>?_) (λD' hD=>?_)
   ·obtain⟨rfl,L9,sm9⟩:=h
    clear L8 sm8
    obtain⟨dx9,hp9⟩:=L9.wi.ins
    refine⟨_,rfl,p,dx9,_,rfl,hp9,fno (by trivial),p,t,d1,d2,d3,hs',fl',rfl,L9.wi,λlt xt H10 flt hlt hpt s10=>?_⟩
    have L10:=L9.same s10
    obtain⟨kv,ke,kp⟩:=L10.te
    have lkp:=QbR kp
    have l30:=L10.l3
    have hbd:∀x∈th',Bd3 x.1:=λx hx=>L10.bf _ (Qca.mpr ⟨_,(L10.rel.iff x.1 x.2).mp hx,rfl⟩)
    have lth:th'.length<=30:=by
     have h1:=Oc L10.rel.nd (m:=fl'.map (·.1)) λs hs=>by
      obtain⟨x,hx,rfl⟩:=Qca.mp hs
      exact Qca.mpr ⟨_,(L10.rel.iff x.1 x.2).mp hx,rfl⟩
     rw[Qbx,Qbx] at h1
     omega
    refine⟨_,rfl,_,rfl,Qa ke λlk bs hlk hbs=>?_⟩
    have lbs:=QbR hbs
    have s11:=Af hlk (.lst (bs.map V.ref))
    refine j8 (ks:=th'.map λx=>cd3 x.1) (SqL.of Ac) (by rw[Qbx];omega) (qI s11 hbs kp hbd) (pR L10.rel.nd hbd) λis ls hperm Oh hls=>?_
    have s12:=Af hls (.lst (is.map λi=>(bs.map V.ref).getD i .non))
    have cP:(upd (upd H10 lk (.lst (bs.map V.ref))) ls (.lst (is.map λi=>(bs.map V.ref).getD i .non))) ls=_:=Ac
    have V3:=s11.trans s12
    generalize upd (upd H10 lk (.lst (bs.map V.ref))) ls (.lst (is.map λi=>(bs.map V.ref).getD i .non))=H12 at *
    have L12:=L10.same V3
    rw[Qbx,lbs,lkp] at hperm
    have lis:is.length=th'.length:=by have:=hperm.length_eq;simpa using this
    have ilt:∀k∈is,k < th'.length:=λk h=>QbQ.mp (hperm.mem_iff.mp h)
    have ndk:(kv.map λy=>(id y).1).Nodup:=by
     have h1:=Sq kp
     have h2:(th'.map λx=>k3 x.1).Nodup:=by
      have:=L10.rel.nd
      rw[Qag,Qbh] at this
      rw[Qag,Qbh]
      exact this.imp λ{a b} h e=>h (Fo e)
     rw[<-h1] at h2
     exact h2
    refine⟨ls,rfl,⟨_,SqL.of cP⟩,λlc hlc=>?_⟩
    refine Gd (xs:=is.map λi=>(bs.map V.ref).getD i .non) (λm σ HY=>(∃u,σ=[u,some (.ref d)])/\(∃ys,HY lc=some (.lst ys)/\Paired (GX HY) ys ((is.take m).map λk=>T9 (th'.getD k (⟨0,0,0⟩,("",0)))))/\Same H12 HY) ⟨⟨_,rfl⟩,⟨[],Ac,.nil⟩,Af hlc _⟩ (λm σ HY _ h=>SqL.of (h.2.2 _ _ cP)) (λm x σ HY hx h=>?_) (fun σ HY h=>?_)
    ·obtain⟨⟨u,rfl⟩,⟨ys,g1,g2⟩,g3⟩:=h
     rw[Qbc] at hx
     obtain⟨k,hk,rfl⟩:=Qau.mp hx
     have hkl:=ilt k (Qaz hk)
     have hbk:bs[k]?=some bs[k]:=Qal (by omega)
     obtain⟨kk,hkk,hbt⟩:=Paired.Ci hbs hbk
     obtain⟨y,hy,ey1,tv,ey2,htv⟩:=Paired.Ci kp hkk
     have ed:th'.getD k (⟨0,0,0⟩,("",0))=y:=by rw[Qah,hy];rfl
     have ex:(bs.map V.ref).getD k .non=.ref bs[k]:=by rw[Qah,Qbc,hbk];rfl
     rw[ex]
     rw[ey1] at hbt
     have Ug:=V3.trans g3
     have ly:=QbR g2
     rw[Qbx,Qbp] at ly
     have hval:DY kv (k3 y.1)=some (.ref tv):=by
      have:=Qo (f:=id) (l:=kv) (i:=k) (x:=kk) ndk hkk
      rw[List.map_id] at this
      rw[<-ey1,<-ey2]
      exact this
     unfold G5
     dsimp only
     refine Ca ⟨_,rfl,Ar (by show 1<=1000;decide),λt1 ht1=>?_⟩
     have k1:=Af ht1 (.tup [.ref bs[k]])
     have bJ:=Ug.trans k1
     have gg:=Gf.t (k:=k3 y.1) (bJ _ _ ke) (bJ _ _ hbt)
     rw[hval] at gg
     refine⟨_,rfl,_,rfl,d,_,rfl,gg,t1,tv,_,_,rfl,rfl,Ac,bJ _ _ htv,Ar (by show 3<=1000;decide),λtp HZ htp sz=>?_⟩
     have kz:=k1.trans sz
     have g1':=kz _ _ g1
     have ntl:∀zs,HZ lc≠some (.tup zs):=λzs z=>by rw[g1'] at z;cases z
     have sL:=Am.upd (o:=.lst (ys++[.ref tp])) ntl
     refine⟨ys,g1',Ao (by omega),⟨_,rfl⟩,⟨_,Ac,?_⟩,(g3.trans kz).Bt Ah.upd hlc⟩
     rw[Qcq hk,Qby]
     refine Qck ?_ (Paired.Az g2 λ_ _ z=>(z.tups (Am.of kz)).tups sL)
     show GX _ _ (T9 (th'.getD k (⟨0,0,0⟩,("",0))))
     rw[ed]
     exact⟨tp,bs[k],rfl,sL _ _ htp,sL _ _ (sz _ _ (bJ _ _ hbt))⟩
    obtain⟨_,⟨ys,g1,g2⟩,g3⟩:=h
    rw[Qbx,Qbo,qY L10.rel L10.rise hperm _ Oh] at g2
    have hkf:∀x∈EY fl',Cz x.kind:=λx hx=>by
     obtain⟨s,dd,h1,rfl⟩:=Wk.mp hx
     exact L10.kf s dd h1
    have Ug:=V3.trans g3
    have cO:=Ug _ _ hlt
    have wX:Paired (GX HY) xt (EY fl'):=Paired.Az hpt λ_ _ z=>z.tups (Am.of Ug)
    refine⟨_,_,.lst cO (Ro wX),.lst g1 (Ro g2),NT hkf,NT hkf,_,rfl,?_⟩
    rw[SeqAt.eqv_refl _ (SeqAt.canLay_of_shaped (NT hkf))]
    refine Cr ⟨_,rfl,.inl ⟨rfl,_,SqL.of cO⟩,lt,_,rfl,rfl,cO,?_⟩
    have s14:Same H9 (upd HY lt (.lst [])):=(s10.trans Ug).Bt Ah.upd flt
    generalize upd HY lt (.lst [])=H14 at *
    have L14:=L9.same s14
    clear L10 L12 g1 g2 g3 wX cO Ug V3 s11 s12 cP Oh hperm hbs kp ke hlt hpt s10
    obtain⟨xw,w1,w2⟩:=L14.wn
    have lw:=QbR w2
    rw[Qbx] at lw
    have B0:=L14.wi.l1
    have qM:∀(m:Nat) (x:V) (HX:Hp),xw[m]?=some x->Same H14 HX->∃(u:Addr) (y:Sp3×Str),x=.ref u/\hs'[m]?=some y/\HX u=some (.tup [.int y.1.lp,.int y.1.at_,.int y.1.n]):=λm x HX hx sx=>by
     obtain⟨sp,hsp,u,rfl,hu⟩:=Paired.Ci w2 hx
     rw[Qbc] at hsp
     obtain⟨y,hy,rfl⟩:=Qau.mp hsp
     exact⟨u,y,rfl,hy,sx _ _ hu⟩
    refine⟨_,rfl,l,rfl,⟨_,SqL.of w1⟩,λl5 hl5=>?_⟩
    refine Gd (xs:=xw) (λm σ HY=>(∃u,σ=[u,some (.ref p)])/\HY l5=some (.lst (((hs'.take m).map (·.2)).map V.str))/\Same H14 HY) ⟨⟨_,rfl⟩,Ac,Af hl5 _⟩ (λm σ HY _ h=>SqL.of (h.2.2 _ _ w1)) (λm x σ HY hx h=>?_) (fun σ HY h=>?_)
    ·obtain⟨⟨u,rfl⟩,g1,g3⟩:=h
     obtain⟨u1,y,rfl,hy,hu⟩:=qM m x HY hx g3
     have hm:=(Qai.mp hx).1
     have LY:=L14.same g3
     obtain⟨dxy,hpy⟩:=LY.wi.ins
     have hmem:=Qaz hy
     unfold G5
     dsimp only
     refine Ca ⟨_,rfl,p,dxy,_,rfl,hpy,fno (by trivial),_,rfl,p,t,d1,d2,d3,hs',fl',.ref u1,rfl,LY.wi,Qx ⟨u1,rfl,hu⟩,(λb' y' e1 e2 e3 H' s'=>?_),λno=>(no ⟨u1,y.1,rfl,hu,Qca.mpr ⟨y,hmem,rfl⟩⟩).elim⟩
     cases e1
     rw[hu] at e2
     have ey:y'=y:=tK LY.wi.nd1 e3 hmem (by
      have e2:=HO.tup.inj (QbB e2)
      injection e2 with a1 a2
      injection a2 with a2 a3
      injection a3 with a3 _
      injection a1 with a1
      injection a2 with a2
      injection a3 with a3
      cases h1:y.1
      cases h2:y'.1
      rw[h1,h2] at a1 a2 a3
      dsimp only at a1 a2 a3
      rw[a1,a2,a3])
     subst ey
     refine⟨_,s' _ _ g1,Ao (by rw[Qbx,Qbx,Qbp];omega),⟨_,rfl⟩,?_,(g3.trans s').Bt Ah.upd hl5⟩
     rw[Ac,Qcq hy,Qby,Qby]
     rfl
    obtain⟨_,g1,g3⟩:=h
    rw[lw,Qbo] at g1
    have LY:=L14.same g3
    have w1Y:=g3 _ _ w1
    refine⟨_,rfl,l,rfl,⟨_,SqL.of w1Y⟩,λl6 hl6=>?_⟩
    have n56:l5≠l6:=Av g1 hl6
    refine Gd (xs:=xw) (λm σ HZ=>(∃u,σ=[u,some (.ref dh)])/\HZ l6=some (.lst (((hs'.take m).map (·.2)).map V.str))/\Same HY HZ) ⟨⟨_,rfl⟩,Ac,Af hl6 _⟩ (λm σ HZ _ h=>SqL.of (h.2.2 _ _ w1Y)) (λm x σ HZ hx h=>?_) (fun σ HZ h=>?_)
    ·obtain⟨⟨u,rfl⟩,g1z,g3z⟩:=h
     obtain⟨u1,y,rfl,hy,hu⟩:=qM m x HZ hx (g3.trans g3z)
     have hm:=(Qai.mp hx).1
     have LZ:=LY.same g3z
     have hval:DY (stV hs') (k3 y.1)=some (.str y.2):=Qo (f:=λx:Sp3×Str=>(k3 x.1,V.str x.2)) (by
      have:=LZ.wi.nd1
      rw[Qag,Qbh] at this
      rw[Qag,Qbh]
      exact this.imp λ{a b} h e=>h (Fo e)) hy
     have gg:=Gf.t (k:=k3 y.1) LZ.ho hu
     rw[hval] at gg
     unfold G5
     dsimp only
     refine Ca ⟨_,rfl,_,rfl,dh,_,rfl,gg,_,g1z,Ao (by rw[Qbx,Qbx,Qbp];omega),⟨_,rfl⟩,?_,g3z.Bt Ah.upd hl6⟩
     rw[Ac,Qcq hy,Qby,Qby]
     rfl
    obtain⟨_,g1z,g3z⟩:=h
    rw[lw,Qbo] at g1z
    have hks:∀z∈hs'.map (·.2),PyData.strOk z=true:=λz hz=>by
     obtain⟨x,hx,rfl⟩:=Qca.mp hz
     exact LY.ks x hx
    refine⟨_,_,.lst (g3z _ _ g1) (JN _),.lst g1z (JN _),Mt hks,Mt hks,_,rfl,?_⟩
    rw[SeqAt.eqv_refl _ (SeqAt.canLay_of_shaped (Mt hks))]
    exact Cr ⟨_,_,hs',fl',th',rfl,(LY.same g3z).mono (by omega),(sm9.trans s14).trans (g3.trans g3z)⟩
   ·refine⟨_,rfl,b,_,4,rfl,L8.bag,by omega,by decide,by decide,λr H9 r0 r1 hb9 sb9=>?_⟩
    have L9:=L8.drawn sb9 hb9
    have sm9:Same H H9:=sm8.Bt sb9 fb
    refine⟨rfl,_,rfl,Fv (λ_=>?_) (λ_=>Cr (hD _ _ ⟨rfl,L9.mono (by omega),sm9⟩))⟩
    refine⟨_,rfl,_,rfl,_,rfl,_,rfl,b,_,p,t,d1,d2,d3,hs',fl',_,_,rfl,L9.bag,by omega,L9.wi,L9.n12,L9.bs,L9.bf,λH10 DD vG=>?_⟩
    refine⟨_,rfl,Cr (hD _ _ ⟨rfl,(L9.drawn vG DD).mono (by omega),sm9.Bt vG fb⟩)⟩
  ·obtain⟨u9,u10,hs,fl,th,rfl,L,sm⟩:=h
   exact⟨_,_,_,_,b,hs,fl,th,rfl,L.mono (by omega),sm⟩
 ·exact q HH
end
theorem qH {K:PySem.W.Frag} {C c0 c1 c2 c3 c4 c5 c6 c7 c8 c9 c10 c11 c12:Addr} {j:Nat} (q0:kitOne K (.ref C) (.ref c0)=some (decide (0=j))) (q1:kitOne K (.ref C) (.ref c1)=some (decide (1=j))) (q2:kitOne K (.ref C) (.ref c2)=some (decide (2=j))) (q3:kitOne K (.ref C) (.ref c3)=some (decide (3=j))) (q4:kitOne K (.ref C) (.ref c4)=some (decide (4=j))) (q5:kitOne K (.ref C) (.ref c5)=some (decide (5=j))) (q6:kitOne K (.ref C) (.ref c6)=some (decide (6=j))) (q7:kitOne K (.ref C) (.ref c7)=some (decide (7=j))) (q8:kitOne K (.ref C) (.ref c8)=some (decide (8=j))) (q9:kitOne K (.ref C) (.ref c9)=some (decide (9=j))) (q10:kitOne K (.ref C) (.ref c10)=some (decide (10=j))) (q11:kitOne K (.ref C) (.ref c11)=some (decide (11=j))) (q12:kitOne K (.ref C) (.ref c12)=some (decide (12=j))) :
  ∀i d,([c0,c1,c2,c3,c4,c5,c6,c7,c8,c9,c10,c11,c12]:List Addr)[i]?=some d->kitOne K (.ref C) (.ref d)=some (decide (i=j)):=λi d h=>by
 match i,h with
 | 0,h=>cases h;exact q0
 | 1,h=>cases h;exact q1
 | 2,h=>cases h;exact q2
 | 3,h=>cases h;exact q3
 | 4,h=>cases h;exact q4
 | 5,h=>cases h;exact q5
 | 6,h=>cases h;exact q6
 | 7,h=>cases h;exact q7
 | 8,h=>cases h;exact q8
 | 9,h=>cases h;exact q9
 | 10,h=>cases h;exact q10
 | 11,h=>cases h;exact q11
 | 12,h=>cases h;exact q12
 | n+13,h=>cases h
structure FnI (K:PySem.W.Frag) (x:Str) (st:Stmt):Prop where
 ex:∃(f:Addr) (oc:Value) (od an:Option Addr) (sl:Array (Option Value)) (kV dc pm cd ct:Value),nsIn K mainGlobals x=some (some (.ref f))/\K.lookup f=some ⟨oc,od,.func (fnOf x x (Dt st) (Cw st) (Aj st) .none kV dc pm an cd ct),sl⟩/\codeIn K cd x=true/\keepIn K (.ref f)=true
theorem FnI.of {K:PySem.W.Frag} {x:Str} {st:Stmt} {f:Addr} {oc:Value} {od an:Option Addr} {sl:Array (Option Value)} {kV dc pm cd ct:Value} (a:nsIn K mainGlobals x=some (some (.ref f))) (l:K.lookup f=some ⟨oc,od,.func (fnOf x x (Dt st) (Cw st) (Aj st) .none kV dc pm an cd ct),sl⟩) (c:codeIn K cd x=true) (k:keepIn K (.ref f)=true):FnI K x st:=⟨f,oc,od,an,sl,kV,dc,pm,cd,ct,a,l,c,k⟩
theorem FnI.code {K:PySem.W.Frag} {mg:Str->Option Value} {h:Heap} {x:Str} {st:Stmt} {ps:List Str} (I:FnI K x st) (X:K.In h) (G:h.Ns mainGlobals mg) (hb:∀(kV doc pm:Value) (an:Option Addr) (cdv ct:Value) (us:List Value),us.length=ps.length->bindArgs (fnOf x x (Dt st) (Cw st) (Aj st) .none kV doc pm an cdv ct) ⟨us,[]⟩=pure (ps.zip us)):Code K mg x st ps:=by
 obtain⟨f,oc,od,an,sl,kV,dc,pm,cd,ct,a,l,c,k⟩:=I.ex
 exact Code.of X G a l c k hb
structure MtI (K:PySem.W.Frag) (C:Addr) (x q:Str) (st:Stmt):Prop where
 ex:∃(f:Addr) (oc:Value) (od an:Option Addr) (sl:Array (Option Value)) (kV dc pm cd ct:Value),findIn K (.ref C) x=some (some (.ref f))/\isFn K (.ref f)=true/\K.lookup f=some ⟨oc,od,.func (fnOf x q (Dt st) (Cw st) (Aj st) .none kV dc pm an cd ct),sl⟩/\codeIn K cd q=true/\keepIn K (.ref f)=true
theorem MtI.of {K:PySem.W.Frag} {C:Addr} {x q:Str} {st:Stmt} {f:Addr} {oc:Value} {od an:Option Addr} {sl:Array (Option Value)} {kV dc pm cd ct:Value} (a:findIn K (.ref C) x=some (some (.ref f))) (i:isFn K (.ref f)=true) (l:K.lookup f=some ⟨oc,od,.func (fnOf x q (Dt st) (Cw st) (Aj st) .none kV dc pm an cd ct),sl⟩) (c:codeIn K cd q=true) (k:keepIn K (.ref f)=true):MtI K C x q st:=⟨f,oc,od,an,sl,kV,dc,pm,cd,ct,a,i,l,c,k⟩
theorem MtI.code {K:PySem.W.Frag} {C:Addr} {x q:Str} {st:Stmt} {ps:List Str} (I:MtI K C x q st) (hb:∀(kV doc pm:Value) (an:Option Addr) (cdv ct:Value) (us:List Value),us.length=ps.length->bindArgs (fnOf x q (Dt st) (Cw st) (Aj st) .none kV doc pm an cdv ct) ⟨us,[]⟩=pure (ps.zip us)):Gz K C x q st ps:=by
 obtain⟨f,oc,od,an,sl,kV,dc,pm,cd,ct,a,i,l,c,k⟩:=I.ex
 have F:=Tq (st:=st) l c k
 exact⟨f,_,F,⟨a,i,k⟩,F.binds hb⟩
theorem MtI.init {K:PySem.W.Frag} {C:Addr} {q:Str} {st:Stmt} {ps:List Str} (I:MtI K C "__init__" q st) (mk:makesIn K C=true) (kc:keepIn K (.ref C)=true) (hb:∀(kV doc pm:Value) (an:Option Addr) (cdv ct:Value) (us:List Value),us.length=ps.length->bindArgs (fnOf "__init__" q (Dt st) (Cw st) (Aj st) .none kV doc pm an cdv ct) ⟨us,[]⟩=pure (ps.zip us)):∃f fd,Fun K "__init__" q st f fd/\Mk K C f/\Binds K fd ps []:=by
 obtain⟨f,oc,od,an,sl,kV,dc,pm,cd,ct,a,i,l,c,k⟩:=I.ex
 have F:=Tq (st:=st) l c k
 exact⟨f,_,F,⟨mk,a,i,kc⟩,F.binds hb⟩
theorem fn1 {F:Value->Value->Value->Option Addr->Value->Value->FuncData} {ps:List Str} (hl:ps.length=1) (h:∀kV dc pm an cd ct a0,bindArgs (F kV dc pm an cd ct) ⟨[a0],[]⟩=pure (ps.zip [a0])) (kV dc pm:Value) (an:Option Addr) (cd ct:Value) (us:List Value) (hu:us.length=ps.length):bindArgs (F kV dc pm an cd ct) ⟨us,[]⟩=pure (ps.zip us):=by
 rw[hl] at hu
 match us,hu with
 | [a0],_=>exact h kV dc pm an cd ct a0
theorem fn2 {F:Value->Value->Value->Option Addr->Value->Value->FuncData} {ps:List Str} (hl:ps.length=2) (h:∀kV dc pm an cd ct a0 a1,bindArgs (F kV dc pm an cd ct) ⟨[a0,a1],[]⟩=pure (ps.zip [a0,a1])) (kV dc pm:Value) (an:Option Addr) (cd ct:Value) (us:List Value) (hu:us.length=ps.length):bindArgs (F kV dc pm an cd ct) ⟨us,[]⟩=pure (ps.zip us):=by
 rw[hl] at hu
 match us,hu with
 | [a0,a1],_=>exact h kV dc pm an cd ct a0 a1
theorem fn3 {F:Value->Value->Value->Option Addr->Value->Value->FuncData} {ps:List Str} (hl:ps.length=3) (h:∀kV dc pm an cd ct a0 a1 a2,bindArgs (F kV dc pm an cd ct) ⟨[a0,a1,a2],[]⟩=pure (ps.zip [a0,a1,a2])) (kV dc pm:Value) (an:Option Addr) (cd ct:Value) (us:List Value) (hu:us.length=ps.length):bindArgs (F kV dc pm an cd ct) ⟨us,[]⟩=pure (ps.zip us):=by
 rw[hl] at hu
 match us,hu with
 | [a0,a1,a2],_=>exact h kV dc pm an cd ct a0 a1 a2
theorem fn4 {F:Value->Value->Value->Option Addr->Value->Value->FuncData} {ps:List Str} (hl:ps.length=4) (h:∀kV dc pm an cd ct a0 a1 a2 a3,bindArgs (F kV dc pm an cd ct) ⟨[a0,a1,a2,a3],[]⟩=pure (ps.zip [a0,a1,a2,a3])) (kV dc pm:Value) (an:Option Addr) (cd ct:Value) (us:List Value) (hu:us.length=ps.length):bindArgs (F kV dc pm an cd ct) ⟨us,[]⟩=pure (ps.zip us):=by
 rw[hl] at hu
 match us,hu with
 | [a0,a1,a2,a3],_=>exact h kV dc pm an cd ct a0 a1 a2 a3
theorem fn5 {F:Value->Value->Value->Option Addr->Value->Value->FuncData} {ps:List Str} (hl:ps.length=5) (h:∀kV dc pm an cd ct a0 a1 a2 a3 a4,bindArgs (F kV dc pm an cd ct) ⟨[a0,a1,a2,a3,a4],[]⟩=pure (ps.zip [a0,a1,a2,a3,a4])) (kV dc pm:Value) (an:Option Addr) (cd ct:Value) (us:List Value) (hu:us.length=ps.length):bindArgs (F kV dc pm an cd ct) ⟨us,[]⟩=pure (ps.zip us):=by
 rw[hl] at hu
 match us,hu with
 | [a0,a1,a2,a3,a4],_=>exact h kV dc pm an cd ct a0 a1 a2 a3 a4
theorem all_mk {l:PySem.W.OpenLaw} {w:World} {K:PySem.W.Frag} {h:Heap} {mg:Str->Option Value} {fa C fl:Addr} (X:K.In h) (G:h.Ns mainGlobals mg) (hfa:mg "law"=some (.ref fa))
  {odl anl:Option Addr} {sll:Array (Option Value)} {ocl kVl dcl pml cdl ctl:Value}
  (aC:nsIn K mainGlobals "Wires"=some (some (.ref C)))
  (m0:MtI K C "__init__" "Wires.__init__" Ia)
  (m1:MtI K C "check_stretch" "Wires.check_stretch" Fz)
  (m2:MtI K C "check_spot" "Wires.check_spot" GJ)
  (m3:MtI K C "cut" "Wires.cut" M4)
  (m4:MtI K C "short" "Wires.short" Ko)
  (m5:MtI K C "mend" "Wires.mend" La)
  (m6:MtI K C "how" "Wires.how" MP)
  (m7:MtI K C "take_out" "Wires.take_out" HW)
  (m8:MtI K C "put_in" "Wires.put_in" Jq)
  (m9:MtI K C "there" "Wires.there" Km)
  (i0:FnI K "is_whole" Ky)
  (i1:FnI K "is_within" Mx)
  (i2:FnI K "is_row" Rv)
  (i3:FnI K "are_wholes" K9)
  (i4:FnI K "is_rising" Mz)
  (i5:FnI K "are_rising_within" Es)
  (i6:FnI K "is_name" Pr)
  (i7:FnI K "is_device" MJ)
  (i8:FnI K "is_spur_device" HF)
  (i9:FnI K "is_spur" Pk)
  (i10:FnI K "is_place" N7)
  (i11:FnI K "is_loop" Pu)
  (i12:FnI K "is_zone" Pj)
  (i13:FnI K "are_loops" MN)
  (i14:FnI K "are_zones" MK)
  (i15:FnI K "is_plan" Pq)
  (i16:FnI K "place_devices" IV)
  (i17:FnI K "devices" Px)
  (i18:FnI K "stretches" JF)
  (i19:FnI K "openers" Mh)
  (i20:FnI K "parts" Ud)
  (i21:FnI K "address_twice" IW)
  (i22:FnI K "part_crowded" Jo)
  (i23:FnI K "address_stranger" GF)
  (i24:FnI K "address_shared" HN)
  (i25:FnI K "wrong" Uc)
  (i26:FnI K "is_let_by" MF)
  (i27:FnI K "_law_bag" Ue)
  (i28:FnI K "_law_take" Rq)
  (i29:FnI K "_law_name" N6)
  (i30:FnI K "_law_names" Mi)
  (i31:FnI K "_law_loop" Rr)
  (i32:FnI K "_law_parts" Ph)
  (i33:FnI K "_law_plan" Jp)
  (i34:FnI K "_law_kind" Rt)
  (i35:FnI K "_law_lists" Mj)
  (i36:FnI K "_law_deed" Ru)
  (i37:FnI K "_law_refused" Mw)
  (al:nsIn K mainGlobals "law"=some (some (.ref fl))) (ll:K.lookup fl=some ⟨ocl,odl,.func (fnOf "law" "law" (Dt Hy) (Cw Hy) (Aj Hy) .none kVl dcl pml anl cdl ctl),sll⟩) (cl:codeIn K cdl "law"=true) (kl:keepIn K (.ref fl)=true)
  (pg:plainGet K C Str.empty=true) (hd:hasDictIn K C=true) (po:PySem.W.plainOver K C=true) (sa:findIn K (.ref C) "__setattr__"=some (some (.builtin "object.__setattr__"))) (mk:makesIn K C=true) (kc:keepIn K (.ref C)=true)
  (n0:findIn K (.ref C) "plan"=some none)
  (n1:findIn K (.ref C) "states"=some none)
  (n2:findIn K (.ref C) "filled"=some none)
  (n3:findIn K (.ref C) "gaps"=some none)
  (z0:nsIn K mainGlobals "isinstance"=some none)
  (z1:nsIn K mainGlobals "int"=some none)
  (z2:nsIn K mainGlobals "bool"=some none)
  (z3:nsIn K mainGlobals "tuple"=some none)
  (z4:nsIn K mainGlobals "list"=some none)
  (z5:nsIn K mainGlobals "str"=some none)
  (z6:nsIn K mainGlobals "len"=some none)
  (z7:nsIn K mainGlobals "all"=some none)
  (z8:nsIn K mainGlobals "abs"=some none)
  (z9:nsIn K mainGlobals "max"=some none)
  (z10:nsIn K mainGlobals "min"=some none)
  (z11:nsIn K mainGlobals "range"=some none)
  (z12:nsIn K mainGlobals "sorted"=some none)
  (z13:nsIn K mainGlobals "any"=some none)
  (z14:nsIn K mainGlobals "sum"=some none)
  (z15:nsIn K mainGlobals "enumerate"=some none)
  (z16:nsIn K mainGlobals "zip"=some none)
  (z17:nsIn K mainGlobals "reversed"=some none)
  (z18:nsIn K mainGlobals "dict"=some none)
  (z19:nsIn K mainGlobals "ord"=some none)
  {op oe:Addr} {odo ode:Option Addr} {no ne:Nat} {slo sle:Array (Option Value)} {tks tko:Tok} {kd wk:Addr} {odk odw:Option Addr} {nk nw:Nat} {slk slw:Array (Option Value)} {tq1 tq2 tq3 tq4 tq5 tq6 zZ:Tok} {hc u0 u1 u2 u3 u4 u5 u6 u7 u8 u9 u10 u11 u12:Addr}
  (ao:nsIn K mainGlobals "OPENER"=some (some (.ref op)))
  (lo:K.lookup op=some ⟨.type "tuple",odo,.seq #[.str "opener" tks,.int 0 tko,.ref oe] no,slo⟩)
  (lq2:K.lookup oe=some ⟨.type "tuple",ode,.seq #[] ne,sle⟩)
  (aKd:nsIn K mainGlobals "KINDS"=some (some (.ref kd)))
  (lKd:K.lookup kd=some ⟨.type "tuple",odk,.seq #[.str "seeker" tq1,.str "knob" tq2,.str "bell" tq3,.str "door" tq4] nk,slk⟩)
  (aWk:nsIn K mainGlobals "WARNING_KINDS"=some (some (.ref wk)))
  (lWk:K.lookup wk=some ⟨.type "tuple",odw,.seq #[.str "seeker" tq5,.str "knob" tq6] nw,slw⟩)
  (aSL:nsIn K mainGlobals "SMALL_LETTERS"=some (some (.str "abcdefghijklmnopqrstuvwxyz" zZ)))
  (xzv:nsIn K mainGlobals "ValueError"=some none)
  (xeh:nsIn K mainGlobals "HouseError"=some (some (.ref hc)))
  (xe0:nsIn K mainGlobals "NoPlan"=some (some (.ref u0)))
  (xe1:nsIn K mainGlobals "NoText"=some (some (.ref u1)))
  (xe2:nsIn K mainGlobals "NoStretch"=some (some (.ref u2)))
  (xe3:nsIn K mainGlobals "NoSpot"=some (some (.ref u3)))
  (xe4:nsIn K mainGlobals "NoOpener"=some (some (.ref u4)))
  (xe5:nsIn K mainGlobals "NoAddress"=some (some (.ref u5)))
  (xe6:nsIn K mainGlobals "NoRules"=some (some (.ref u6)))
  (xe7:nsIn K mainGlobals "NoHand"=some (some (.ref u7)))
  (xe8:nsIn K mainGlobals "NoPanel"=some (some (.ref u8)))
  (xe9:nsIn K mainGlobals "NoLink"=some (some (.ref u9)))
  (jZ:nsIn K mainGlobals "NoLog"=some (some (.ref u10)))
  (jY:nsIn K mainGlobals "NoDeed"=some (some (.ref u11)))
  (jX:nsIn K mainGlobals "NoRow"=some (some (.ref u12)))
  (xhx:excIn K hc [.type "ValueError",.type "Exception",.type "BaseException",.type "object"] "ValueError.__new__"=true)
  (xha:findIn K (.ref hc) "__getattribute__"=some (some (.builtin "BaseException.__getattribute__")))
  (xhn:findIn K (.ref hc) "__getattr__"=some none)
  (xhc:findIn K (.ref hc) "__class__"=some (some (.builtin "object.__class__")))
  (xho:subIn K (.ref hc) (.type "object")=some true)
  (xhb:subIn K (.ref hc) (.type "BaseException")=some true)
  (xhk:keepIn K (.ref hc)=true)
  (oU:excIn K u2 [.type "ValueError",.type "Exception",.type "BaseException",.type "object"] "ValueError.__new__"=true)
  (o7:findIn K (.ref u2) "__getattribute__"=some (some (.builtin "BaseException.__getattribute__")))
  (oW:findIn K (.ref u2) "__getattr__"=some none)
  (oY:findIn K (.ref u2) "__class__"=some (some (.builtin "object.__class__")))
  (oV:subIn K (.ref u2) (.type "object")=some true)
  (oZ:subIn K (.ref u2) (.type "BaseException")=some true)
  (oX:keepIn K (.ref u2)=true)
  (oh:subIn K (.ref u2) (.ref hc)=some true)
  (oR:kitOne K (.ref u2) (.ref u0)=some false)
  (oO:kitOne K (.ref u2) (.ref u1)=some false)
  (oN:kitOne K (.ref u2) (.ref u2)=some true)
  (oM:kitOne K (.ref u2) (.ref u3)=some false)
  (oK:kitOne K (.ref u2) (.ref u4)=some false)
  (oJ:kitOne K (.ref u2) (.ref u5)=some false)
  (oH:kitOne K (.ref u2) (.ref u6)=some false)
  (oG:kitOne K (.ref u2) (.ref u7)=some false)
  (oE:kitOne K (.ref u2) (.ref u8)=some false)
  (oA:kitOne K (.ref u2) (.ref u9)=some false)
  (cJ:kitOne K (.ref u2) (.ref u10)=some false)
  (cI:kitOne K (.ref u2) (.ref u11)=some false)
  (cH:kitOne K (.ref u2) (.ref u12)=some false)
  (ou:kitOne K (.ref u2) (.type "ValueError")=some true)
  (nP:excIn K u3 [.type "ValueError",.type "Exception",.type "BaseException",.type "object"] "ValueError.__new__"=true)
  (nZ:findIn K (.ref u3) "__getattribute__"=some (some (.builtin "BaseException.__getattribute__")))
  (nR:findIn K (.ref u3) "__getattr__"=some none)
  (nW:findIn K (.ref u3) "__class__"=some (some (.builtin "object.__class__")))
  (nQ:subIn K (.ref u3) (.type "object")=some true)
  (nY:subIn K (.ref u3) (.type "BaseException")=some true)
  (nU:keepIn K (.ref u3)=true)
  (mX:subIn K (.ref u3) (.ref hc)=some true)
  (nO:kitOne K (.ref u3) (.ref u0)=some false)
  (nM:kitOne K (.ref u3) (.ref u1)=some false)
  (nJ:kitOne K (.ref u3) (.ref u2)=some false)
  (nH:kitOne K (.ref u3) (.ref u3)=some true)
  (nG:kitOne K (.ref u3) (.ref u4)=some false)
  (nF:kitOne K (.ref u3) (.ref u5)=some false)
  (nC:kitOne K (.ref u3) (.ref u6)=some false)
  (nA:kitOne K (.ref u3) (.ref u7)=some false)
  (nj:kitOne K (.ref u3) (.ref u8)=some false)
  (mZ:kitOne K (.ref u3) (.ref u9)=some false)
  (cG:kitOne K (.ref u3) (.ref u10)=some false)
  (cF:kitOne K (.ref u3) (.ref u11)=some false)
  (cD:kitOne K (.ref u3) (.ref u12)=some false)
  (mY:kitOne K (.ref u3) (.type "ValueError")=some true)
  : ∃fd:FuncData,(∀(s:Shared) (v:Value),BindsTo s fd ⟨[v],[]⟩ [("_law_script",v)])/\∀base:Heap,K.In base->base.Ns mainGlobals mg->Ga l.prog w K mg base CX0 13 fa fd ["_law_script"] (V2 K):=by
 have e:=hfa.symm.trans (mg_of X G al)
 cases e
 have TN:Nm mg:=⟨mg_none_of X G z0,mg_none_of X G z1,mg_none_of X G z2,mg_none_of X G z3,mg_none_of X G z4,mg_none_of X G z5,mg_none_of X G z6,mg_none_of X G z7,mg_none_of X G z8,mg_none_of X G z9,mg_none_of X G z10,mg_none_of X G z11,mg_none_of X G z12,mg_none_of X G z13,mg_none_of X G z14,mg_none_of X G z15,mg_none_of X G z16,mg_none_of X G z17,mg_none_of X G z18,mg_none_of X G z19⟩
 have TX:Tx K mg op oe:=⟨TN,⟨_,mg_of X G ao,rfl⟩,λH=>.inr ⟨_,_,_,lo,rfl,rfl,(by show 3<=sizeLine;decide),.cons ⟨_,rfl⟩ (.cons ⟨_,rfl⟩ (.cons rfl .nil))⟩,λH=>.inr ⟨_,_,_,lq2,rfl,rfl,(by show 0<=sizeLine;decide),.nil⟩⟩
 have TY:Ty K mg op oe kd wk:={ toTx:=TX,KINDS:=⟨_,mg_of X G aKd,rfl⟩,kdT:=λH=>.inr ⟨_,_,_,lKd,rfl,rfl,(by show 4<=sizeLine;decide),.cons ⟨_,rfl⟩ (.cons ⟨_,rfl⟩ (.cons ⟨_,rfl⟩ (.cons ⟨_,rfl⟩ .nil)))⟩,WARNING_KINDS:=⟨_,mg_of X G aWk,rfl⟩,wkT:=λH=>.inr ⟨_,_,_,lWk,rfl,rfl,(by show 2<=sizeLine;decide),.cons ⟨_,rfl⟩ (.cons ⟨_,rfl⟩ .nil)⟩,SMALL_LETTERS:=⟨_,mg_of X G aSL,⟨_,rfl⟩⟩ }
 have T:Tw K mg op oe kd wk C:={ toTy:=TY,cl:=⟨pg,hd,po,sa⟩,mgC:=mg_of X G aC,gR:=n0,Ib:=n1,Ju:=n2,gU:=n3 }
 have XE:Er K mg hc u0 u1 u2 u3 u4 u5 u6 u7 u8 u9 u10 u11 u12:=⟨mg_none_of X G xzv,mg_of X G xeh,⟨xhx,xha,xhn,xhc,xho,xhb,xhk⟩,mg_of X G xe0,mg_of X G xe1,mg_of X G xe2,mg_of X G xe3,mg_of X G xe4,mg_of X G xe5,mg_of X G xe6,mg_of X G xe7,mg_of X G xe8,mg_of X G xe9,mg_of X G jZ,mg_of X G jY,mg_of X G jX⟩
 have Eh:Knd K hc u2 [u0,u1,u2,u3,u4,u5,u6,u7,u8,u9,u10,u11,u12] 2:=⟨⟨oU,o7,oW,oY,oV,oZ,oX⟩,oh,qH (j:=2) oR oO oN oM oK oJ oH oG oE oA cJ cI cH,ou⟩
 have En:Knd K hc u3 [u0,u1,u2,u3,u4,u5,u6,u7,u8,u9,u10,u11,u12] 3:=⟨⟨nP,nZ,nR,nW,nQ,nY,nU⟩,mX,qH (j:=3) nO nM nJ nH nG nF nC nA nj mZ cG cF cD,mY⟩
 have dO:=m0.init (ps:=Em) mk kc (fn2 rfl (by intros;rfl))
 have TJ:=m1.code (ps:=BK) (fn2 rfl (by intros;rfl))
 have YD:=m2.code (ps:=Df) (fn2 rfl (by intros;rfl))
 have zT:=m3.code (ps:=Gn) (fn2 rfl (by intros;rfl))
 have uH:=m4.code (ps:=Ey) (fn2 rfl (by intros;rfl))
 have yJ:=m5.code (ps:=FP) (fn2 rfl (by intros;rfl))
 have zR:=m6.code (ps:=Gm) (fn2 rfl (by intros;rfl))
 have dM:=m7.code (ps:=Ds) (fn2 rfl (by intros;rfl))
 have pY:=m8.code (ps:=Ej) (fn4 rfl (by intros;rfl))
 have uG:=m9.code (ps:=Gg) (fn1 rfl (by intros;rfl))
 have T5:=i0.code (ps:=Fi) X G (fn1 rfl (by intros;rfl))
 have Zi:=i1.code (ps:=Ef) X G (fn3 rfl (by intros;rfl))
 have qg:=i2.code (ps:=Dh) X G (fn3 rfl (by intros;rfl))
 have YF:=i3.code (ps:=FN) X G (fn2 rfl (by intros;rfl))
 have Zj:=i4.code (ps:=Hl) X G (fn1 rfl (by intros;rfl))
 have O8:=i5.code (ps:=Dn) X G (fn5 rfl (by intros;rfl))
 have jU:=i6.code (ps:=J3) X G (fn1 rfl (by intros;rfl))
 have Zm:=i7.code (ps:=Gj) X G (fn2 rfl (by intros;rfl))
 have R9:=i8.code (ps:=Ek) X G (fn1 rfl (by intros;rfl))
 have jR:=i9.code (ps:=J0) X G (fn1 rfl (by intros;rfl))
 have dX:=i10.code (ps:=Jc) X G (fn1 rfl (by intros;rfl))
 have jV:=i11.code (ps:=Ka) X G (fn1 rfl (by intros;rfl))
 have jQ:=i12.code (ps:=JZ) X G (fn1 rfl (by intros;rfl))
 have Zo:=i13.code (ps:=Hr) X G (fn1 rfl (by intros;rfl))
 have Zn:=i14.code (ps:=Hq) X G (fn1 rfl (by intros;rfl))
 have jT:=i15.code (ps:=J1) X G (fn1 rfl (by intros;rfl))
 have T4:=i16.code (ps:=DN) X G (fn3 rfl (by intros;rfl))
 have jW:=i17.code (ps:=Gb) X G (fn1 rfl (by intros;rfl))
 have Zg:=i18.code (ps:=Hi) X G (fn1 rfl (by intros;rfl))
 have jM:=i19.code (ps:=JT) X G (fn1 rfl (by intros;rfl))
 have uJ:=i20.code (ps:=Nt) X G (fn2 rfl (by intros;rfl))
 have T6:=i21.code (ps:=Fj) X G (fn1 rfl (by intros;rfl))
 have U5:=i22.code (ps:=FJ) X G (fn1 rfl (by intros;rfl))
 have Qn:=i23.code (ps:=DG) X G (fn1 rfl (by intros;rfl))
 have Sg:=i24.code (ps:=El) X G (fn1 rfl (by intros;rfl))
 have uI:=i25.code (ps:=Nr) X G (fn1 rfl (by intros;rfl))
 have Zk:=i26.code (ps:=Ho) X G (fn1 rfl (by intros;rfl))
 have uK:=i27.code (ps:=Nu) X G (fn2 rfl (by intros;rfl))
 have pZ:=i28.code (ps:=Ft) X G (fn2 rfl (by intros;rfl))
 have p8:=i29.code (ps:=Lk) X G (fn1 rfl (by intros;rfl))
 have jO:=i30.code (ps:=JW) X G (fn2 rfl (by intros;rfl))
 have qb:=i31.code (ps:=Lp) X G (fn3 rfl (by intros;rfl))
 have jN:=i32.code (ps:=JV) X G (fn1 rfl (by intros;rfl))
 have p7:=i33.code (ps:=Lj) X G (fn3 rfl (by intros;rfl))
 have qd:=i34.code (ps:=Lq) X G (fn1 rfl (by intros;rfl))
 have jP:=i35.code (ps:=JX) X G (fn1 rfl (by intros;rfl))
 have qe:=i36.code (ps:=Lw) X G (fn5 rfl (by intros;rfl))
 have Zh:=i37.code (ps:=Hj) X G (fn4 rfl (by intros;rfl))
 have zV:=Tq (st:=Hy) ll cl kl
 refine⟨fnOf "law" "law" (Dt Hy) (Cw Hy) (Aj Hy) .none kVl dcl pml anl cdl ctl,λs v=>.of_eq rfl,λbase _ _=>?_⟩
 have QK:=mq (P:=l.prog) (w:=w) (base:=base) uK TN
 have Bj:=gK (P:=l.prog) (w:=w) (base:=base) pZ TN
 have h_kind:=sI (P:=l.prog) (w:=w) (base:=base) qd TN XE
 have zL:=P0 (P:=l.prog) (w:=w) (base:=base) T5 TN
 have EC:=YQ (P:=l.prog) (w:=w) (base:=base) T5 TN
 have cV:=Xp (P:=l.prog) (w:=w) (base:=base) Zi TN EC
 have M9:=gM (P:=l.prog) (w:=w) (base:=base) qg TN
 have xY:=VF (P:=l.prog) (w:=w) (base:=base) YF TN zL M9
 have DZ:=Xq (P:=l.prog) (w:=w) (base:=base) Zj TY
 have DV:=VG (P:=l.prog) (w:=w) (base:=base) O8 TY M9 cV DZ
 have D9:=bW (P:=l.prog) (w:=w) (base:=base) jU TY
 have xV:=Xu (P:=l.prog) (w:=w) (base:=base) Zm TY cV
 have DU:=Q0 (P:=l.prog) (w:=w) (base:=base) R9 TY M9 xV
 have DS:=bU (P:=l.prog) (w:=w) (base:=base) jR TY M9 DU
 have D6:=YS (P:=l.prog) (w:=w) (base:=base) dX TY M9 cV xV DS
 have Ev:=bY (P:=l.prog) (w:=w) (base:=base) jV TY M9 D6
 have DI:=bT (P:=l.prog) (w:=w) (base:=base) jQ TY M9 D9 DV
 have Eg:=Xw (P:=l.prog) (w:=w) (base:=base) Zo TY M9 Ev
 have DH:=Xv (P:=l.prog) (w:=w) (base:=base) Zn TY M9 DI
 have xR:=Ry (P:=l.prog) (w:=w) (base:=base) T4 TX
 have cX:=bZ (P:=l.prog) (w:=w) (base:=base) jW TX xR
 have DO:=Xo (P:=l.prog) (w:=w) (base:=base) Zg TX
 have D7:=bR (P:=l.prog) (w:=w) (base:=base) jM TX
 have D2:=lY (P:=l.prog) (w:=w) (base:=base) uJ TX xR
 have D5:=bV (P:=l.prog) (w:=w) (base:=base) jT TY M9 cV Eg DH cX
 have EG:=RB (P:=l.prog) (w:=w) (base:=base) T6 TY cX
 have EF:=S7 (P:=l.prog) (w:=w) (base:=base) U5 TY D2
 have EH:=O5 (P:=l.prog) (w:=w) (base:=base) Qn TY cX
 have DT:=Q5 (P:=l.prog) (w:=w) (base:=base) Sg TY
 have DJ:=lV (P:=l.prog) (w:=w) (base:=base) uI TY EG EF EH DT
 have EB:=Xr (P:=l.prog) (w:=w) (base:=base) Zk TY D5 DJ
 have cY:=Rz (P:=l.prog) (w:=w) (base:=base) TJ T XE Eh xY
 have xX:=VD (P:=l.prog) (w:=w) (base:=base) YD T XE En xY
 have xW:=wg (P:=l.prog) (w:=w) (base:=base) zT T cY
 have xP:=lX (P:=l.prog) (w:=w) (base:=base) uH T cY
 have xT:=sG (P:=l.prog) (w:=w) (base:=base) yJ T cY
 have xU:=v9 (P:=l.prog) (w:=w) (base:=base) zR T cY
 have xO:=YM (P:=l.prog) (w:=w) (base:=base) dM T xX
 have xQ:=gH (P:=l.prog) (w:=w) (base:=base) pY T xX
 have DM:=lW (P:=l.prog) (w:=w) (base:=base) uG T
 have ED:=mz (P:=l.prog) (w:=w) (base:=base) dO T EB DO cX D7
 have Ee:=sy (P:=l.prog) (w:=w) (base:=base) p8 TN Bj
 have D8:=lZ (P:=l.prog) (w:=w) (base:=base) jO TN Ee
 have Ex:=sH (P:=l.prog) (w:=w) (base:=base) qb TN Bj
 have D3:=gJ (P:=l.prog) (w:=w) (base:=base) jN TN
 have D4:=su (P:=l.prog) (w:=w) (base:=base) p7 TN Bj Ex D3 D8
 have EA:=mj (P:=l.prog) (w:=w) (base:=base) jP T
 have EE:=sJ (P:=l.prog) (w:=w) (base:=base) qe T Bj xW xP xT xO xQ
 have D0:=bQ (P:=l.prog) (w:=w) (base:=base) Zh T XE Eh En Bj xW xP xT xU xO xQ h_kind
 exact v8 zV T QK Bj D4 ED EA EE D0 DM xU
theorem walk {l:PySem.W.OpenLaw} {q:Program} {loose:List Str} {XP:(Str->Option Value)->Heap->Prop} {YP:World->Heap->Prop} {d:DefRec} {K:Params->PySem.W.Frag} (hn:l.most=some 63) (hdf:d.params.defaults=[])
  (hY:∀(w:World) (h:Heap),YP w h->(K w.params).In h)
  (F:∀(w:World) (mg:Str->Option Value) (fa:Addr) (h:Heap),(K w.params).In h->h.Ns mainGlobals mg->mg d.name=some (.ref fa) ->
   ∃fd:FuncData,(∀(s:Shared) (u:Value),BindsTo s fd ⟨[u],[]⟩ [("_law_script",u)])/\∀base:Heap,(K w.params).In base->base.Ns mainGlobals mg->Ga l.prog w (K w.params) mg base CX0 13 fa fd ["_law_script"] (V2 (K w.params))) :
  PySem.W.WalkO q loose XP YP l.row.toRowW d [] (λf vs=>PySem.call f vs):=
 L2.qW (n:=63) (k:=13) (x:="_law_script") (CX:=λ_=>CX0) (sp:=λw=>V2 (K w.params)) hn (by decide) hdf ⟨rfl,by decide,by decide⟩ hY F (λ_ _ a ns hl _ hS=>⟨a,ns,rfl,hS,hl,λ_=>rfl⟩) λ_ _ _ _ _ z=>z
end K07
/-! names that stay free of quick twins: the head comes through without them, and the compiled text is much smaller -/
namespace PySem.W.Fast
def tw8879723680842235673:=0
def tw14554860573644479501:=0
def tw4233982699680869744:=0
def tw12578581655440988435:=0
def tw6732240433721970826:=0
def tw6145324504507558600:=0
def tw13976422343909144987:=0
def tw9601145417075309801:=0
def tw17710264444782339761:=0
def tw6257210828950046316:=0
def tw16772747275453173056:=0
def tw13614675893119103902:=0
def tw14584749314549886428:=0
def tw979374820108453069:=0
def tw16808170715880916049:=0
def tw848620115419429236:=0
def tw6165862058917280617:=0
def tw17944604987404309469:=0
def tw13376962673158513797:=0
def tw625077578232599453:=0
def tw10681732154013636675:=0
def tw13295833668352427052:=0
def tw6527245811678020791:=0
def tw10466978513805266936:=0
def tw5234414281059153788:=0
def tw14655167360222818791:=0
def tw2566230925462726106:=0
def tw407375457657717459:=0
def tw9153424204450715064:=0
def tw15183822066704378141:=0
def tw17419201326358989215:=0
def tw10630134737243005448:=0
def tw433017187251546165:=0
def tw13861497640388522749:=0
def tw15982852881114096415:=0
def tw14751221202614256341:=0
def tw2946699311366108571:=0
def tw5638227867771937373:=0
def tw16392326167226454932:=0
def tw3401276780555918899:=0
def tw11733099868381705892:=0
def tw6557864177664778377:=0
def tw9396481593698833726:=0
def tw9879093656646479279:=0
def tw8776261387452883099:=0
def tw18415176971238970368:=0
def tw5055999218875205878:=0
def tw3289463114094919400:=0
def tw18071097589112973892:=0
def tw13115672357429743836:=0
def tw10096204894566522660:=0
def tw12834234772231275815:=0
def tw18032368296093188718:=0
def tw1472039859135195975:=0
def tw1520576349071170529:=0
def tw7264563922494792587:=0
def tw5919325714553449269:=0
def tw16324959383066118784:=0
def tw2755201603250765063:=0
def tw11340249919429446537:=0
def tw637755124031537827:=0
def tw16785839462967784704:=0
def tw10950331533339371594:=0
def tw9140715079474244317:=0
def tw3851241807366048715:=0
def tw3951640990680813618:=0
def tw5569189182466462363:=0
def tw15508063422157279198:=0
def tw10982861641585280956:=0
def tw13911681649015146289:=0
def tw13058159529146724184:=0
def tw9293038476540281907:=0
def tw9370888944201445753:=0
def tw13200484014429607953:=0
def tw9558620450501458408:=0
def tw11616493484035802380:=0
def tw1449715655949405701:=0
def tw14849501605241963597:=0
def tw14852306011672344803:=0
def tw5051302896773729432:=0
def tw2117042314797626149:=0
def tw3869596663539014898:=0
def tw18032253910699899891:=0
def tw1039298667604206554:=0
def tw13886702846496998490:=0
def tw10103371120388739811:=0
def tw17090748866565689910:=0
def tw13680064570781539856:=0
def tw10535672439702070282:=0
def tw16016206506590526567:=0
def tw8309928687966492386:=0
def tw13443663250488676863:=0
def tw15350660787200963619:=0
def tw9428891674270825365:=0
def tw2368631061265003324:=0
def tw15682510168826204564:=0
def tw17323378406595015228:=0
def tw3634929876241309473:=0
def tw8718431464851659188:=0
def tw17695894353134328205:=0
def tw11570280433141336480:=0
def tw7574453882179183158:=0
def tw273399171804452840:=0
def tw2344621549692197752:=0
def tw4780071626668892958:=0
def tw10693246178454111597:=0
def tw4276328419967233292:=0
def tw17133988823761511547:=0
def tw13353030342372373200:=0
def tw15510441558385148547:=0
def tw15243403718881727135:=0
def tw8188225924615869614:=0
def tw1402415414435028825:=0
def tw2772828570557681275:=0
def tw10274768232863570989:=0
def tw5754335635524450193:=0
def tw233828805549182538:=0
def tw7054114645849794801:=0
def tw12461373044115410588:=0
def tw16837196222489741818:=0
def tw16067360388650978392:=0
def tw10436001394615409280:=0
def tw17125339182601007635:=0
def tw14264583778981383282:=0
def tw4844260215456189961:=0
def tw5301793030263744001:=0
def tw18402868410348908267:=0
def tw14116932991088290998:=0
def tw9322081927176946415:=0
def tw11683791533386854991:=0
def tw1250424335784289493:=0
def tw7450966147105368589:=0
def tw302590100522493853:=0
def tw12156879066114971793:=0
def tw13995580729325223761:=0
def tw8082692625257503332:=0
def tw3573734824000443259:=0
def tw9329663158692380681:=0
def tw18208357161065616539:=0
def tw14028592004395638517:=0
def tw8716064678038985860:=0
def tw15649834021553942030:=0
def tw10494779309886729274:=0
def tw18321341696572752262:=0
def tw16890570083660608363:=0
def tw10829514933990739437:=0
def tw11362878352268071287:=0
def tw4493571559985050354:=0
def tw11679146419878719805:=0
def tw1607991662200820458:=0
def tw9295969044698849304:=0
def tw12536813099061887358:=0
def tw17383748777394767857:=0
def tw4352274552760712368:=0
def tw9093405614719382159:=0
def tw15974564576126659824:=0
def tw11656100174880765917:=0
def tw10800501540568744232:=0
def tw2486708344705293412:=0
def tw17372460319292081661:=0
def tw14402854243475587650:=0
def tw5280605848674629325:=0
def tw14827625040637683736:=0
def tw14776410165578396324:=0
def tw14590868853341986417:=0
def tw510034265659963521:=0
def tw11609039542895993640:=0
def tw9942638766502298142:=0
def tw10313949166977441593:=0
def tw6812062738998344372:=0
def tw6730262037409201702:=0
def tw11122376714017129162:=0
def tw15534266064387792993:=0
def tw3114926795824565622:=0
def tw14877835785322159224:=0
def tw2353463918343590288:=0
def tw17787497039001963117:=0
def tw9626397873799051701:=0
def tw15740479272231573964:=0
def tw12982513500372830504:=0
def tw8024888530659787069:=0
def tw10758845639926616118:=0
def tw11135264165560272340:=0
def tw9854996479399919225:=0
def tw3650286972444431021:=0
def tw13930006558304107864:=0
def tw6649906633695921864:=0
def tw5098545767772812556:=0
def tw12098491325064442006:=0
def tw3225323942190615331:=0
def tw16971454703561690748:=0
def tw11284420062464195721:=0
def tw9781714311306841736:=0
def tw12881889631772850968:=0
def tw13488652971888157190:=0
def tw13517932140214068177:=0
def tw9555143227662232139:=0
def tw16611577101596615672:=0
def tw13264036331732733927:=0
def tw15590602278163814318:=0
def tw690467852535631502:=0
def tw9795166084000144654:=0
def tw9199883459646905360:=0
def tw7263486109145661708:=0
def tw7048481489592364:=0
def tw6763957849638034766:=0
def tw455321392697703013:=0
def tw4383965823354445471:=0
def tw2464791856466739601:=0
def tw17723587397325229683:=0
def tw17646355382254868416:=0
def tw12778233144970391958:=0
def tw15561516335188846884:=0
def tw10010508365341157859:=0
def tw11792380087624437790:=0
def tw17691228963129367035:=0
def tw14247921524632359529:=0
def tw7617860002460733411:=0
def tw4988828908366622629:=0
def tw8019258181046520830:=0
def tw7377067516228947798:=0
def tw17072089052945625784:=0
def tw15022770743664182369:=0
def tw16303375063625931963:=0
def tw17375155728813011378:=0
def tw15332029404375700687:=0
def tw3219562227724717698:=0
def tw12999842594930110974:=0
def tw8262368631516968129:=0
def tw9454873997271698009:=0
def tw3260481061671094593:=0
def tw18259404055739135880:=0
def tw14148006585108423835:=0
def tw6931715258752189304:=0
def tw6096614660232315759:=0
def tw3544305582342296256:=0
def tw13263637452690877167:=0
def tw6117862617185059927:=0
def tw3396617461761079314:=0
def tw726772211827521030:=0
def tw3311016644247201769:=0
def tw1932565437550836713:=0
def tw622417840411602752:=0
def tw6883591676608270924:=0
def tw16773367927224066280:=0
def tw4327689247066215651:=0
def tw1791050085942337878:=0
def tw15014108456257220655:=0
def tw282534776856852758:=0
def tw1184083890186544944:=0
def tw8348067974545678384:=0
def tw12738439736021520896:=0
def tw5340406225057910935:=0
def tw1849776549102067181:=0
def tw11012783800803908955:=0
def tw10203023527729629306:=0
def tw9066953006010013951:=0
def tw9444614145226786478:=0
def tw14806491689054832133:=0
def tw11097299873937919937:=0
def tw10735998143912270620:=0
def tw11780949231750651941:=0
def tw5071813622372292207:=0
def tw13710392944653983554:=0
def tw17739869469067946876:=0
def tw7287003463404184240:=0
def tw3214041369407733461:=0
def tw12602419773375909802:=0
def tw12391925370974439719:=0
def tw18383003116373076629:=0
def tw12063877735682045012:=0
def tw4955483402223995975:=0
def tw5810368715160106096:=0
def tw17283231572170903775:=0
def tw17028488553473123522:=0
def tw6804277648814723584:=0
def tw7472863993831233291:=0
def tw10639170657759547960:=0
def tw5023579364102110253:=0
def tw11827154717410885296:=0
def tw836589417853217745:=0
def tw7553122052090004267:=0
def tw16291372918830372088:=0
def tw7976517987519028059:=0
def tw7696078630449828148:=0
def tw8741919875847648221:=0
def tw391590645858742227:=0
def tw17739006654999624753:=0
def tw3954149382346961069:=0
def tw12581253377881124732:=0
def tw14688368893927969410:=0
def tw9236136857767264062:=0
def tw6790877256911555725:=0
def tw17522284960367094388:=0
def tw16075701535815911762:=0
def tw1721226520201574434:=0
def tw13196013053132697590:=0
def tw10307929714969991674:=0
def tw17947717202886488198:=0
def tw14091611004445289851:=0
def tw1770598567915636967:=0
def tw10576338755196545419:=0
def tw379175731277534788:=0
def tw3372948168753223156:=0
def tw9265387837656313172:=0
def tw7018347187927824781:=0
def tw2944977717879593819:=0
def tw9782268701290873481:=0
def tw8860209963688226752:=0
def tw7314812736422632701:=0
def tw1563258879883404481:=0
def tw14940539613645329930:=0
def tw2732884748986832591:=0
def tw9961369523951717031:=0
def tw2939416393288736496:=0
def tw9760858043579467722:=0
def tw11979783132089184198:=0
def tw15565790385937301162:=0
def tw6205339431923677807:=0
def tw4535417346476012454:=0
def tw3208489218561192906:=0
def tw2757311118769348165:=0
def tw14519800072502271786:=0
def tw821952594580823510:=0
def tw7299040326927739980:=0
def tw6676685475005231480:=0
def tw16270316952313111169:=0
def tw14898031413338315856:=0
def tw14380056039172589439:=0
def tw5648821955166479846:=0
def tw9244574627313446001:=0
def tw5213356910681278973:=0
def tw1455034176973973743:=0
def tw14234754782683159818:=0
def tw4790641293253137280:=0
def tw12041777027242052541:=0
def tw11154979675551716993:=0
def tw3882733689176683390:=0
def tw9927932340097139109:=0
def tw5293834759566330508:=0
def tw9858751108983203545:=0
def tw15514217828476804563:=0
def tw14536646828613541920:=0
def tw1039388930817371558:=0
def tw7538064050732458744:=0
def tw14083134590048785545:=0
def tw8674426301043377009:=0
def tw2500412134043305414:=0
def tw13752394821977141972:=0
def tw667968898764624344:=0
def tw2257948489924774333:=0
def tw9727975954586610935:=0
def tw12938246268496725406:=0
def tw16403730024317163251:=0
end PySem.W.Fast
open PySem PySem.W PyProof.Rows
set_option maxRecDepth 100000 in
set_option maxHeartbeats 0 in
theorem PySem.Challenge.cw_warnloop_k07_stretches_kept_holds : PySem.Challenge.rw_warnloop_k07_stretches_kept.Holds := by
 w_on;o_law;k_head;(case hw=>w_witness2)
 k_fill
 refine K07.walk (l:=PySem.Challenge.rw_warnloop_k07_stretches_kept) rfl rfl (λw h Y=>PySem.W.kIn_of Y) ?F
 case F=>
  intro w mg fa h KX G hmg
  refine' K07.all_mk KX G hmg ?aC (.of ?am0 ?bm0 ?lm0 ?cm0 ?km0) (.of ?am1 ?bm1 ?lm1 ?cm1 ?km1) (.of ?am2 ?bm2 ?lm2 ?cm2 ?km2) (.of ?am3 ?bm3 ?lm3 ?cm3 ?km3) (.of ?am4 ?bm4 ?lm4 ?cm4 ?km4) (.of ?am5 ?bm5 ?lm5 ?cm5 ?km5) (.of ?am6 ?bm6 ?lm6 ?cm6 ?km6) (.of ?am7 ?bm7 ?lm7 ?cm7 ?km7) (.of ?am8 ?bm8 ?lm8 ?cm8 ?km8) (.of ?am9 ?bm9 ?lm9 ?cm9 ?km9) (.of ?ai0 ?li0 ?ci0 ?ki0) (.of ?ai1 ?li1 ?ci1 ?ki1) (.of ?ai2 ?li2 ?ci2 ?ki2) (.of ?ai3 ?li3 ?ci3 ?ki3) (.of ?ai4 ?li4 ?ci4 ?ki4) (.of ?ai5 ?li5 ?ci5 ?ki5) (.of ?ai6 ?li6 ?ci6 ?ki6) (.of ?ai7 ?li7 ?ci7 ?ki7) (.of ?ai8 ?li8 ?ci8 ?ki8) (.of ?ai9 ?li9 ?ci9 ?ki9) (.of ?GM ?BT ?FA ?CO) (.of ?GL ?BS ?Fu ?CM) (.of ?GI ?BQ ?Fs ?CL) (.of ?GH ?BO ?Fn ?CI) (.of ?GG ?BN ?Fm ?CH) (.of ?GE ?BM ?Fk ?CF) (.of ?GB ?BI ?Fh ?CD) (.of ?GA ?BH ?Ff ?CC) (.of ?Gr ?BG ?Fc ?CB) (.of ?Go ?BF ?Fa ?CA) (.of ?Gc ?BE ?E9 ?Ct) (.of ?F6 ?BD ?E8 ?Cs) (.of ?FY ?BC ?E7 ?Co) (.of ?FX ?BB ?E6 ?Cn) (.of ?FV ?BA ?E5 ?Cl) (.of ?FU ?Bz ?E4 ?Ch) (.of ?FS ?By ?E3 ?Cf) (.of ?FR ?Bi ?E2 ?Cc) (.of ?FO ?Be ?EZ ?Cb) (.of ?FM ?A9 ?EW ?B9) (.of ?FL ?A8 ?EV ?B8) (.of ?FK ?A7 ?EU ?B7) (.of ?FI ?A6 ?ET ?B6) (.of ?FH ?A5 ?ES ?B5) (.of ?FG ?A4 ?ER ?B4) (.of ?FF ?A3 ?EQ ?B3) (.of ?FE ?A2 ?EO ?B2) (.of ?FD ?A1 ?EN ?B1) ?al ?ll ?cl ?kl ?pg ?hd ?po ?sa ?mk ?kc ?n0 ?n1 ?n2 ?n3 ?z0 ?z1 ?z2 ?z3 ?z4 ?z5 ?z6 ?z7 ?z8 ?z9 ?z10 ?z11 ?z12 ?z13 ?z14 ?z15 ?z16 ?z17 ?z18 ?z19 ?ao ?lo ?lq2 ?aKd ?lKd ?aWk ?lWk ?aSL ?xzv ?xeh ?xe0 ?xe1 ?xe2 ?xe3 ?xe4 ?xe5 ?xe6 ?xe7 ?xe8 ?xe9 ?jZ ?jY ?jX ?xhx ?xha ?xhn ?xhc ?xho ?xhb ?xhk ?oU ?o7 ?oW ?oY ?oV ?oZ ?oX ?oh ?oR ?oO ?oN ?oM ?oK ?oJ ?oH ?oG ?oE ?oA ?cJ ?cI ?cH ?ou ?nP ?nZ ?nR ?nW ?nQ ?nY ?nU ?mX ?nO ?nM ?nJ ?nH ?nG ?nF ?nC ?nA ?nj ?mZ ?cG ?cF ?cD ?mY
  (case aC | am0 | bm0 | lm0 | cm0 | km0 | am1 | bm1 | lm1 | cm1 | km1 | am2 | bm2 | lm2 | cm2 | km2 | am3 | bm3 | lm3 | cm3 | km3 | am4 | bm4 | lm4 | cm4 | km4 | am5 | bm5 | lm5 | cm5 | km5 | am6 | bm6 | lm6 | cm6 | km6 | am7 | bm7 | lm7 | cm7 | km7 | am8 | bm8 | lm8 | cm8 | km8 | am9 | bm9 | lm9 | cm9 | km9 | ai0 | li0 | ci0 | ki0 | ai1 | li1 | ci1 | ki1 | ai2 | li2 | ci2 | ki2 | ai3 | li3 | ci3 | ki3 | ai4 | li4 | ci4 | ki4 | ai5 | li5 | ci5 | ki5 | ai6 | li6 | ci6 | ki6 | ai7 | li7 | ci7 | ki7 | ai8 | li8 | ci8 | ki8 | ai9 | li9 | ci9 | ki9 | GM | BT | FA | CO | GL | BS | Fu | CM | GI | BQ | Fs | CL | GH | BO | Fn | CI | GG | BN | Fm | CH | GE | BM | Fk | CF | GB | BI | Fh | CD | GA | BH | Ff | CC | Gr | BG | Fc | CB | Go | BF | Fa | CA | Gc | BE | E9 | Ct | F6 | BD | E8 | Cs | FY | BC | E7 | Co | FX | BB | E6 | Cn | FV | BA | E5 | Cl | FU | Bz | E4 | Ch | FS | By | E3 | Cf | FR | Bi | E2 | Cc | FO | Be | EZ | Cb | FM | A9 | EW | B9 | FL | A8 | EV | B8 | FK | A7 | EU | B7 | FI | A6 | ET | B6 | FH | A5 | ES | B5 | FG | A4 | ER | B4 | FF | A3 | EQ | B3 | FE | A2 | EO | B2 | FD | A1 | EN | B1=>k_is)
  (case al | ll | cl | kl | pg | hd | po | sa | mk | kc | n0 | n1 | n2 | n3 | z0 | z1 | z2 | z3 | z4 | z5 | z6 | z7 | z8 | z9 | z10 | z11 | z12 | z13 | z14 | z15 | z16 | z17 | z18 | z19 | ao | lo | lq2 | aKd | lKd | aWk | lWk | aSL | xzv | xeh | xe0 | xe1 | xe2 | xe3 | xe4 | xe5 | xe6 | xe7 | xe8 | xe9 | jZ | jY | jX=>k_is)
  (case xhx=>k_exc)
  (case xha | xhn | xhc | xho | xhb | xhk=>k_is)
  (case oU=>k_exc)
  (case o7 | oW | oY | oV | oZ | oX | oh=>k_is)
  (case oR | oO | oN | oM | oK | oJ | oH | oG | oE | oA | cJ | cI | cH | ou=>kit_is)
  (case nP=>k_exc)
  (case nZ | nR | nW | nQ | nY | nU | mX=>k_is)
  (case nO | nM | nJ | nH | nG | nF | nC | nA | nj | mZ | cG | cF | cD | mY=>kit_is)
